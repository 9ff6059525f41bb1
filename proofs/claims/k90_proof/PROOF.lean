import PyProof.Rows.All
import Wide.All
import OpenK.AllK
import Wide.FinOn
import Lean
import PyProof.EqAt
import PyProof.EqKinds
import PyProof.TupleCall
import PyProof.DictUpdate
import PyProof.NeKinds
import PyProof.StrLawsIn
import KE.KRevSl
import PyProof.ZipIter
import PyProof.ListRange
import PyProof.Rows.SortStr
import KE.KRevIter
import KE.KDictSum
import PyProof.EnumMake
import PyProof.EnumFor
import KE.KIntText
import PyProof.CallStr
import PySem.Challenge.RW_pastways_k90_texts
set_option Elab.async false
set_option linter.all false
set_option maxRecDepth 100000
def bC:=@Option.map_eq_some_iff
def bL:=@Option.bind_eq_some_iff
def bU:=@List.getElem?_set_ne
def b7:=@Nat.lt_of_lt_of_le
def cF:=@PySem.wpAny_bind
def cI:=@List.size_toArray
def dJ:=@List.getElem?_append_left
def eO:=@if_pos
def gV:=@Nat.le_refl
def iB:=@PySem.Heap.get?_push_of_some
def j9:=@List.getElem?_eq_getElem
def kZ:=@List.getElem?_set_self
def mz:=@PySem.Heap.lt_size
def nv:=@PySem.wpAny_pure
def ny:=@Option.some.inj
def pW:=@Bool.and_eq_true
def pX:=@List.length_cons
def vt:=@List.length_append
def vv:=@List.map_cons
def xE:=@Nat.le_trans
def xF:=@Bool.false_eq_true
def yK:=@decide_eq_false
def yL:=@if_neg
def AD:=@congrArg
def AE:=@List.mem_cons_of_mem
def DH:=@List.mem_append_right
def DI:=@List.replicate_succ
def DJ:=@PySem.Heap.get?_push_size
def D6:=@if_true
def GO:=@PySem.W.kia_one
def GP:=@List.getElem?_map
def IB:=@Nat.ne_of_lt
def IC:=@List.mem_of_getElem?
def Je:=@List.flatten_cons
def Jf:=@PySem.AutoSeq1.wpAny_loadPart'
def Ka:=@List.length_map
def Kc:=@PySem.W.mg_none_of
def Km:=@List.mem_cons_self
def Kn:=@PySem.wpAny_mono
def KY:=@PySem.wpAny_truthy_bool
def KZ:=@PyProof.Rows.slot_tuple_getitem
def K0:=@if_false
def K1:=@Bool.or_eq_true
def K2:=@decide_eq_true_eq
def K3:=@PySem.W.mg_of
def K4:=@Nat.lt_irrefl
def K5:=@List.filterMap_cons
def K6:=@decide_eq_true
def K7:=@List.lookup_cons
def K8:=@PySem.call_meets
def K9:=@List.find?_cons
def La:=@List.append_nil
def Lb:=@List.length_singleton
def Lc:=@List.getElem?_append_right
def Ld:=@of_decide_eq_true
def Le:=@PySem.mem_of_lookup
def Lf:=@Option.bind_eq_bind
def Lh:=@List.take_succ_cons
def Li:=@PySem.sizeLine_eq
def Lj:=@List.take_of_length_le
def Lk:=@PySem.wpAny_newObj_type
def Ll:=@List.map_map
def Lm:=@List.dropLast_eq_take
def Ln:=@PyProof.Rows.callWith_type1
def Lo:=@List.length_take
def Lp:=@PySem.wpAny_passesOwn
def Lq:=@List.length_nil
def Lr:=@List.map_nil
def Ls:=@Int.emod_lt_of_pos
def Lu:=@PySem.F.args_tuple_mul_2
def Lv:=@PySem.F.args_tuple_add_2
def Lx:=@List.drop_zero
def Ly:=@PySem.F.entry_tuple_mul
def Lz:=@PySem.F.entry_tuple_add
def LA:=@List.append_assoc
def LC:=@PySem.F.slot_tuple_mul
def LF:=@PySem.F.slot_tuple_add
def LG:=@List.length_drop
def LH:=@List.cons_append
def LI:=@List.any_eq_true
def LJ:=@List.all_eq_true
def LK:=@PySem.F.slot_str_split
def LL:=@List.getElem?_eq_none
def LM:=@PySem.typeIs_str
def LN:=@List.nodup_cons
def LO:=@List.nil_append
def LP:=@List.forIn_cons
def LQ:=@Int.emod_nonneg
def LR:=@Bool.eq_iff_iff
def LS:=@List.getElem?_of_mem
def LU:=@List.getElem_of_mem
def LV:=@List.drop_succ_cons
def LW:=@Array.length_toList
def LX:=@Nat.zero_le
def LY:=@PySem.wpAny_Call_Name_kw
def LZ:=@PyProof.V.same_str
def L0:=@PySem.F.args_str_split_2
def L1:=@Bool.false_ne_true
def L3:=@List.mem_cons
def L4:=@PySem.Calls.Name_function_global
def L5:=@PySem.W.kitx_list
def L6:=@PySem.F.entry_str_split
def L7:=@Bool.not_eq_true'
def L8:=@PyProof.Rows.vals1
def Ma:=@PySem.typeIs_int
def Mb:=@PySem.wpAny_binaryOp_repeat_ref
def Mc:=@List.getElem?_eq_none_iff
def Me:=@List.drop_eq_getElem_cons
def Mf:=@Nat.succ_mul
def Mg:=@PySem.noFill_tuple_add
def Mh:=@Nat.lt_succ_self
def Mi:=@PySem.AutoSeq1.idx_int
def Mj:=@PySem.wpAny_comprehension_free
def Mk:=@PySem.wpAny_callSpecial?_slot
def Ml:=@List.getElem?_replicate
def Mm:=@PyProof.Rows.split_len
def Mn:=@List.of_mem_zip
def Mp:=@List.foldl_cons
def Mq:=@PySem.W.cellsFrom_some
def Mr:=@List.range_succ_eq_map
def Ms:=@List.drop_eq_nil_of_le
def Mt:=@PySem.Calls.callWith_builtin
def Mu:=@Ne.symm
def Mv:=@PySem.wpAny_isTrue_Compare1
def Mw:=@PySem.F.slot_int_rmul
def Mx:=@List.singleton_append
def My:=@List.contains_iff_mem
def Mz:=@PySem.args_get
def MA:=@beq_iff_eq
def MB:=@Nat.pow_le_pow_right
def MC:=@List.mem_append_left
def MD:=@List.extract_toArray
def MF:=@PySem.seq_tuple_add
def MG:=@List.any_cons
def MH:=@Nat.sub_lt_sub_left
def MI:=@List.getElem?_range
def MJ:=@PySem.wpAny_typeOf
def MK:=@PySem.concat_meets
def ML:=@PySem.codeAny_mono
def MM:=@Nat.le_of_lt
def MN:=@PySem.W.kitx_tuple
def MO:=@List.zip_cons_cons
def MP:=@List.mem_singleton
def MQ:=@List.contains_cons
def MR:=@PySem.W.kt_tab_in
def MS:=@PySem.W.kitx_dict
def MT:=@Option.some.injEq
def MU:=@List.length_range
def MV:=@Int.toNat_natCast
def MW:=@beq_self_eq_true
def MX:=@PySem.seqSlot_of
def MY:=@Option.getD_none
def MZ:=@Nat.min_eq_right
def M4:=@List.getElem_inj
def M5:=@List.drop_length
def M6:=@Option.map_some
def M7:=@Nat.min_eq_left
def M8:=@Nat.le_antisymm
namespace L2
open PySem PySem.Spec PyProof.Rows
abbrev Key:=Sum Int Str
noncomputable def jk:Key->Value->Bool
 |.inl k,v=>Value.isInt k v
 |.inr x,v=>Value.isStrOf x v
noncomputable def G6(w:World):Key->Int
 |.inl k=>hashInt k
 |.inr x=>hashStr w x
def b5:∀{k:Key}{v:Value},jk k v=true->(∃i t,k=Sum.inl i/\v=Value.int i t)\/(∃x t,k=Sum.inr x/\v=Value.str x t)
 |.inl i,v,h=>by
  obtain⟨t,e⟩:=Value.isInt_shape (k:=i) (v:=v) h;exact .inl ⟨i,t,rfl,e⟩
 |.inr x,v,h=>by
  obtain⟨t,e⟩:=Value.isStrOf_shape (x:=x) (v:=v) h;exact .inr ⟨x,t,rfl,e⟩
def tQ(i:Int)(t:Tok):jk (.inl i) (.int i t)=true:=by simp[jk,Value.isInt]
def tR(x:Str)(t:Tok):jk (.inr x) (.str x t)=true:=by simp[jk,Value.isStrOf]
def AI(a b:Int):decide ((Sum.inl a:Key)=Sum.inl b)=(a==b):=by
 by_cases e:a=b
 .subst e;simp
 .have h:¬ (Sum.inl a:Key)=Sum.inl b:=λq=>e (Sum.inl.inj q);rw[yK h];exact(beq_eq_false_iff_ne.mpr e).symm
def AJ(a b:Str):decide ((Sum.inr a:Key)=Sum.inr b)=decide (a=b):=by
 by_cases e:a=b
 .subst e;simp
 .have h:¬ (Sum.inr a:Key)=Sum.inr b:=λq=>e (Sum.inr.inj q);rw[yK h,yK e]
def AK(a:Int)(b:Str):decide ((Sum.inl a:Key)=Sum.inr b)=false:=yK (λq=>nomatch q)
def AL(a:Str)(b:Int):decide ((Sum.inr a:Key)=Sum.inl b)=false:=yK (λq=>nomatch q)
noncomputable def bW(prog:Program)(w:World):PySem.KeyKind prog w Key where
 is:=jk
 hash:=G6 w
 inj:=λv a b ha hb=>by
  rcases b5 ha with ⟨i,t,rfl,rfl⟩|⟨x,t,rfl,rfl⟩
  .rcases b5 hb with ⟨j,u,rfl,e⟩|⟨y,u,rfl,e⟩
   .injection e with e1 _;rw[e1]
   .exact nomatch e
  .rcases b5 hb with ⟨j,u,rfl,e⟩|⟨y,u,rfl,e⟩
   .exact nomatch e
   .injection e with e1 _;rw[e1]
 byValue:=λk v h=>by
  rcases b5 h with ⟨i,t,rfl,rfl⟩|⟨x,t,rfl,rfl⟩<;>rfl
 pyHash:=λhv h=>by
  rcases b5 hv with ⟨i,t,rfl,rfl⟩|⟨x,t,rfl,rfl⟩
  .exact wpAny_pyHash_int h
  .exact wpAny_pyHash_str h
 eqBool:=λhu hv h=>by
  rcases b5 hu with ⟨i,t,rfl,rfl⟩|⟨x,t,rfl,rfl⟩
  .rcases b5 hv with ⟨j,u,rfl,rfl⟩|⟨y,u,rfl,rfl⟩
   .rw[AI]at h;exact wpAny_eqBool_int h
   .rw[AK]at h;exact SeqAt.EqAt.int_str i t y u _ _ _ _ h
  .rcases b5 hv with ⟨j,u,rfl,rfl⟩|⟨y,u,rfl,rfl⟩
   .rw[AL]at h;exact SeqAt.EqAt.str_int x t j u _ _ _ _ h
   .rw[AJ]at h;exact wpAny_eqBool_str h
 «strs»:=λk x t v h=>by
  rcases b5 h with ⟨i,u,rfl,e⟩|⟨y,u,rfl,e⟩
  .exact nomatch e
  .injection e with e1 _
   subst e1;cases v<;>rfl
def qk(prog:Program)(w:World)(i:Int)(t:Tok):(bW prog w).is (.inl i) (.int i t)=true:=tQ i t
def ql(prog:Program)(w:World)(x:Str)(t:Tok):(bW prog w).is (.inr x) (.str x t)=true:=tR x t
inductive V where
 |bg|bl (b:Bool)|int (i:Int)|str (x:Str)|tS (b:Array UInt8)|qD (b:UInt64)|ref (a:Addr)|ty (n:String)
 deriving DecidableEq
noncomputable def RelV:V->Value->Prop
 |.bg,u=>u=Value.none
 |.bl b,u=>u=Value.bool b
 |.int i,u=>∃t,u=Value.int i t
 |.str x,u=>∃t,u=Value.str x t
 |.tS b,u=>∃t,u=Value.bytes b t
 |.qD b,u=>∃t,u=Value.float b t
 |.ref a,u=>u=Value.ref a
 |.ty n,u=>u=Value.type n
abbrev Vals:List V->List Value->Prop:=Paired RelV
theorem Vals.length{xs:List V}{us:List Value}(r:Vals xs us):xs.length=us.length:=Paired.length r
theorem Vals.get:∀{xs:List V}{us:List Value}{i:Nat}{x:V},Vals xs us->xs[i]?=some x->∃u,us[i]?=some u/\RelV x u
 |_,_,_,_,.nil,e=>by simp at e
 |_,_,0,_,.cons r _,e=>by simp at e;subst e;exact⟨_,rfl,r⟩
 |_,_,i+1,x,.cons _ t,e=>by
  obtain⟨u,h1,h2⟩:=Vals.get (i:=i) (x:=x) t (by simpa using e);exact⟨u,by simpa using h1,h2⟩
theorem Vals.append:∀{xs ys:List V}{us ws:List Value},Vals xs us->Vals ys ws->Vals (xs++ys) (us++ws)
 |_,_,_,_,.nil,s=>s
 |_,_,_,_,.cons r t,s=>.cons r (Vals.append t s)
theorem Vals.take:∀{xs:List V}{us:List Value}(n:Nat),Vals xs us->Vals (xs.take n) (us.take n)
 |_,_,0,_=>.nil
 |_,_,_+1,.nil=>.nil
 |_,_,n+1,.cons r t=>.cons r (Vals.take n t)
theorem Vals.drop:∀{xs:List V}{us:List Value}(n:Nat),Vals xs us->Vals (xs.drop n) (us.drop n)
 |_,_,0,r=>r
 |_,_,_+1,.nil=>.nil
 |_,_,n+1,.cons _ t=>Vals.drop n t
noncomputable def gZ:Option V->Option Value->Prop
 |some v,some u=>RelV v u
 |none,none=>True
 |_,_=>False
noncomputable def KV{κ:Type}:List (κ×V)->List (κ×Value)->Prop:=Paired λ(p:κ×V) (q:κ×Value)=>p.1=q.1/\RelV p.2 q.2
noncomputable def kV:Key->V
 |.inl i=>.int i
 |.inr x=>.str x
inductive HO where
 |lst (xs:List V)
 |tup (xs:List V)
 |dK (kvs:List (Key×V))|dT (kvs:List (List Key×V))
 |set (S:Int->Bool) (n:Nat)
 |ins (C dx:Addr) (fs:List (Str×V))
 |own (x:Addr)
 |xd (fs:List (Str×V))
 |met (f x:Addr)
 |eF (lo hi:Int)
 |aW (o:Obj) (u:HO)
 |oh (ps:Array Value)
 |ext (φ:Heap->Prop)
abbrev Hp:=Addr->Option HO
noncomputable def upd(H:Hp)(a:Addr)(o:HO):Hp:=λb=>if b=a then some o else H b
def cU{H:Hp}{a:Addr}{o:HO}:upd H a o a=some o:=by unfold upd;rw[eO rfl]
def aU{H:Hp}{a b:Addr}{o:HO}(h:b≠a):upd H a o b=H b:=by unfold upd;rw[yL h]
def yS{H:Hp}{a:Addr}{o u:HO}:upd (upd H a o) a u=upd H a u:=by
 funext b;unfold upd;split<;>rfl
def kg{H:Hp}{a b:Addr}{o u:HO}(h:H a=some o)(h':H b=some u)(d:o≠u):a≠b:=by
 intro e;subst e;rw[h]at h';exact d (ny h')
def bu{H:Hp}{a b:Addr}{o:HO}(h:H a=some o)(h':H b=none):a≠b:=by
 intro e;subst e;rw[h]at h';cases h'
section
variable(P:Program)(w:World)
noncomputable def bK(H:Hp)(h:Heap)(a:Addr):HO->Prop
 |.lst xs=>xs.length<=sizeLine/\∃(its:List Value) (n:Nat),Vals xs its/\h.get? a=some { cls:=.type "list",data:=.seq its.toArray n }
 |.tup xs=>xs.length<=sizeLine/\∃its:List Value,Vals xs its/\IsTup h a its.toArray
 |.dK kvs=>kvs.length<=sizeLine/\(a==sysModules)=false/\∃vs,KV kvs vs/\h.DictOf (bW P w) a vs
 |.dT kvs=>kvs.length<=sizeLine/\(a==sysModules)=false/\∃xs:List (List Key×Addr×Value),
   Paired (λ(p:List Key×V) (q:List Key×Addr×Value)=>p.1=q.1/\H q.2.1=some (.tup (p.1.map kV))/\RelV p.2 q.2.2) kvs xs/\
   ∃o es ep,h.get? a=some o/\o.ExactDict/\o.data=.dict es ep/\es.toList=xs.map (entryOfKey (tupleKind (bW P w)))/\(xs.map (·.1)).Nodup
 |.set S n=>h.SetOf (intKind P w) a S n
 |.ins C dx fs=>H dx=some (.own a)/\fs.length<=1000/\dx≠a/\h.get? a=some (PySem.W.instObj C dx)/\
   ∃mA,h.Ns1 dx mA/\(∀f,gZ (fs.lookup f) (mA f))/\PySem.Within mA (fs.map (·.1))
 |.own _=>∃o,h.get? a=some o
 |.xd fs=>∃mA,h.Ns1 a mA/\∀f,gZ (fs.lookup f) (mA f)
 |.eF lo hi=>∃t u v,h.get? a=some { cls:=.type "range",data:=.fields #[.int lo t,.int hi u,.int 1 v]}
 |.aW o u=>h.get? a=some o/\bK H h a u
 |.oh ps=>h.get? a=some { cls:=.none,data:=.fields ps }
 |.met f x=>h.get? a=some (PySem.W.methodObj (.ref f) (.ref x))
 |.ext φ=>φ h/\(∃o,h.get? a=some o)/\∀h1 h2:Heap,φ h1->(∀o,h1.get? a=some o->h2.get? a=some o)->φ h2
noncomputable def cJ(H:Hp)(h:Heap):Prop:=∀a o,H a=some o->bK P w H h a o
end
section
variable{P:Program}{w:World}{H H':Hp}{h h':Heap}{a:Addr}{o:HO}
theorem bK.lt(x:bK P w H h a o):a<h.objs.size:=by
 cases o with
 |lst xs=>obtain⟨_,_,_,_,e⟩:=x;exact mz e
 |tup xs=>obtain⟨_,_,_,p⟩:=x;exact p.lt
 |dK kvs=>obtain⟨_,_,_,_,o,_,_,e,_⟩:=x;exact mz e
 |dT kvs=>obtain⟨_,_,_,_,o,_,_,e,_⟩:=x;exact mz e
 |set S n=>obtain⟨o,_,_,_,e,_⟩:=x;exact mz e
 |ins C dx fs=>obtain⟨_,_,_,e,_⟩:=x;exact mz e
 |own y=>obtain⟨_,e⟩:=x;exact mz e
 |xd fs=>obtain⟨_,⟨_,_,_,e,_⟩,_⟩:=x;exact mz e
 |eF lo hi=>obtain⟨_,_,_,e⟩:=x;exact mz e
 |aW ob u=>obtain⟨e,_⟩:=x;exact mz e
 |oh ps=>exact mz (show h.get? a=some _ from x)
 |met f y=>exact mz (show h.get? a=some _ from x)
 |ext φ=>obtain⟨_,⟨_,e⟩,_⟩:=x;exact mz e
theorem Paired.AM{α β:Type}{F G:α->β->Prop}:∀{l₁:List α}{l₂:List β},Paired F l₁ l₂->(∀a b,F a b->G a b)->Paired G l₁ l₂
 |_,_,.nil,_=>.nil
 |_,_,.cons r t,f=>.cons (f _ _ r) (Paired.AM t f)
def bK.stay(x:bK P w H h a o)(k:∀b u,(b=a\/H b=some (.own a))->h.get? b=some u->h'.get? b=some u)
  (ho:∀b,H b=some (.own a)->H' b=some (.own a)) (ht:∀b xs,H b=some (.tup xs)->H' b=some (.tup xs)):bK P w H' h' a o:=by
 induction o with
 |lst xs=>obtain⟨z,its,n,r,e⟩:=x;exact⟨z,its,n,r,k _ _ (.inl rfl) e⟩
 |tup xs=>obtain⟨z,its,r,ob,e,c⟩:=x;exact⟨z,its,r,ob,k _ _ (.inl rfl) e,c⟩
 |dK kvs=>obtain⟨z,y,vs,r,ob,es,ep,e,c⟩:=x;exact⟨z,y,vs,r,ob,es,ep,k _ _ (.inl rfl) e,c⟩
 |dT kvs=>
  obtain⟨z,y,xs,r,ob,es,ep,e,c⟩:=x;exact⟨z,y,xs,Paired.AM r λp q z=>⟨z.1,ht _ _ z.2.1,z.2.2⟩,ob,es,ep,k _ _ (.inl rfl) e,c⟩
 |set S n=>obtain⟨ob,es,ep,t,e,c⟩:=x;exact⟨ob,es,ep,t,k _ _ (.inl rfl) e,c⟩
 |ins C dx fs=>
  obtain⟨d,z,ne,e,mA,⟨od,es,ep,e2,c⟩,r⟩:=x;exact⟨ho _ d,z,ne,k _ _ (.inl rfl) e,mA,⟨od,es,ep,k _ _ (.inr d) e2,c⟩,r⟩
 |own y=>obtain⟨ob,e⟩:=x;exact⟨ob,k _ _ (.inl rfl) e⟩
 |xd fs=>obtain⟨mA,⟨od,es,ep,e,c⟩,r⟩:=x;exact⟨mA,⟨od,es,ep,k _ _ (.inl rfl) e,c⟩,r⟩
 |eF lo hi=>obtain⟨t,u,v,e⟩:=x;exact⟨t,u,v,k _ _ (.inl rfl) e⟩
 |aW ob u ih=>obtain⟨e,q⟩:=x;exact⟨k _ _ (.inl rfl) e,ih q⟩
 |oh ps=>
  have e:h.get? a=some { cls:=.none,data:=.fields ps }:=x;show h'.get? a=some { cls:=.none,data:=.fields ps };exact k a _ (.inl rfl) e
 |met f y=>
  have e:h.get? a=some (PySem.W.methodObj (.ref f) (.ref y)):=x;show h'.get? a=some (PySem.W.methodObj (.ref f) (.ref y));exact k a _ (.inl rfl) e
 |ext φ=>obtain⟨p,⟨o,e⟩,st⟩:=x;exact⟨st _ _ p λo q=>k _ _ (.inl rfl) q,⟨o,k _ _ (.inl rfl) e⟩,st⟩
theorem cJ.lt(x:cJ P w H h)(e:H a=some o):a<h.objs.size:=(x a o e).lt
def cJ.fresh(x:cJ P w H h)(e:h.objs.size<=a):H a=none:=by
 cases q:H a with
 |none=>rfl
 |some u=>exact absurd (b7 (x.lt q) e) (K4 _)
def cJ.kept(x:cJ P w H h)(k:∀b u,h.get? b=some u->h'.get? b=some u):cJ P w H h':=λa o e=>
 (x a o e).stay (λb u _ q=>k b u q) (λ_ q=>q) λ_ _ q=>q
def cJ.laid(x:cJ P w H h)(k:∀b u,h.get? b=some u->h'.get? b=some u)(hp:h.objs.size<=a)(new:bK P w (upd H a o) h' a o):cJ P w (upd H a o) h':=λb u e=>by
 have hn:=x.fresh hp;by_cases hb:b=a
 .subst hb;rw[cU]at e;cases e;exact new
 .rw[aU hb]at e;exact(x b u e).stay (λc v _ q=>k c v q) (λc q=>by rw[aU (bu q hn)];exact q) λc xs q=>by rw[aU (bu q hn)];exact q
end
noncomputable def Rd(H:Hp)(a:Addr)(u:HO):Prop:=H a=some u\/∃o,H a=some (.aW o u)
def Rd.ok{P:Program}{w:World}{H:Hp}{h:Heap}{a:Addr}{u:HO}(r:Rd H a u)(x:cJ P w H h):bK P w H h a u:=by
 rcases r with r|⟨o,r⟩
 .exact x a u r
 .obtain⟨_,q⟩:=x a _ r;exact q
noncomputable def tT:Option HO->Prop
 |some (.lst _)=>True
 |some (.dK _)=>True
 |some (.dT _)=>True
 |some (.set _ _)=>True
 |some (.ins _ _ _)=>True
 |some (.ext _)=>True
 |_=>False
section
variable{P:Program}{w:World}{H:Hp}{h h':Heap}{x e:Addr}{o':HO}
def cJ.write(ok:cJ P w H h)(mu:tT (H x))(he:e=x\/H e=some (.own x))(k:∀b u,b≠e->h.get? b=some u->h'.get? b=some u)(qE:∃u,h'.get? e=some u)
  (new:bK P w (upd H x o') h' x o'):cJ P w (upd H x o') h':=λb u q=>by
 have AN:∀c y,H c=some (.own y)->c≠x:=λc y r z=>by subst z;rw[r]at mu;exact mu
 have G7:∀c xs,H c=some (.tup xs)->c≠x:=λc xs r z=>by subst z;rw[r]at mu;exact mu
 by_cases hb:b=x
 .subst hb;rw[cU]at q;cases q;exact new
 .rw[aU hb]at q;by_cases om:b=e
  .have q':H b=some (.own x):=by
    rcases he with z|z
    .exact absurd (om.trans z) hb
    .rw[om];exact z
   rw[q]at q';cases q';obtain⟨v,hv⟩:=qE;exact⟨v,by rw[om];exact hv⟩
  .refine(ok b u q).stay (λc v hc r=>k c v ?_ r) (λc r=>by rw[aU (AN c b r)];exact r) λc xs r=>by rw[aU (G7 c xs r)];exact r
   rcases hc with rfl|hc
   .exact om
   .rintro rfl;rcases he with z|z
    .exact AN c b hc z
    .rw[hc]at z;cases z;exact hb rfl
end
structure Un(fs ex:List Addr)(H H':Hp)(h h':Heap):Prop where
 keep:∀b o,h.get? b=some o->H b=none->b∉fs->b∉ex->h'.get? b=some o
 slot:∀b o,h.get? b=some o->H b=none->b∈fs->b∉ex->∃sl,h'.get? b=some { o with slots:=sl }
 free:∀b o,h.get? b=some o->H b=none->b∉ex->H' b=none
 there:∀b o,h.get? b=some o->b∉ex->∃o',h'.get? b=some o'
 tups:∀b xs,H b=some (.tup xs)->H' b=some (.tup xs)
 g6:∀b o u,H b=some (.aW o u)->H' b=some (.aW o u)
 iM:∀b ps,H b=some (.oh ps)->∃more,H' b=some (.oh (ps++more))
section
variable{fs ex:List Addr}{H H1:Hp}{h h1 h':Heap}{a x e:Addr}{o:HO}
def Un.any(u:Un fs ex H H1 h h1){b:Addr}{ob:Obj}(q:h.get? b=some ob)(n:H b=none)(hx:b∉ex):∃sl,h1.get? b=some { ob with slots:=sl }:=by
 by_cases hb:b∈fs
 .exact u.slot b ob q n hb hx
 .exact⟨ob.slots,u.keep b ob q n hb hx⟩
def Un.kept(k:∀b u,h.get? b=some u->h'.get? b=some u):Un fs ex H H h h':=
 ⟨λb ob q _ _ _=>k b ob q,λb ob q _ _ _=>⟨ob.slots,k b ob q⟩,λ_ _ _ n _=>n,λb ob q _=>⟨ob,k b ob q⟩,λ_ _ q=>q,λ_ _ _ q=>q,λ_ ps q=>⟨#[],by rw[q];simp⟩⟩
def Un.refl:Un fs ex H H h h:=Un.kept λ_ _ q=>q
def Un.laid(k:∀b u,h.get? b=some u->h'.get? b=some u)(hp:h.objs.size<=a)(hn:H a=none):Un fs ex H (upd H a o) h h' where
 keep:=λb u q _ _ _=>k b u q
 slot:=λb u q _ _ _=>⟨u.slots,k b u q⟩
 free:=λb u q n _=>by rw[aU (IB (b7 (mz q) hp))];exact n
 there:=λb u q _=>⟨u,k b u q⟩
 tups:=λb xs q=>by rw[aU (bu q hn)];exact q
 g6:=λb u xs q=>by rw[aU (bu q hn)];exact q
 iM:=λb ps q=>⟨#[],by rw[aU (bu q hn),q];simp⟩
def Un.write(mu:tT (H x))(he:e=x\/H e=some (.own x))(k:∀b u,b≠e->h.get? b=some u->h'.get? b=some u)(qE:∃u,h'.get? e=some u):Un fs ex H (upd H x o) h h':=by
 have hx:∀b,H b=none->b≠x:=λb n z=>by subst z;rw[n]at mu;exact mu
 have hb:∀b,H b=none->b≠e:=λb n z=>by
  subst z;rcases he with r|r
  .exact hx b n r
  .rw[n]at r;cases r
 have hm:∀b u,H b=some u->¬ tT (some u)->b≠x:=λb u q nm z=>by subst z;rw[q]at mu;exact nm mu
 refine⟨λb u q n _ _=>k b u (hb b n) q,λb u q n _ _=>⟨u.slots,k b u (hb b n) q⟩,λb u q n _=>by rw[aU (hx b n)];exact n,λb u q _=>?_,
  λb xs q=>by rw[aU (hm b _ q λz=>z)];exact q,λb u xs q=>by rw[aU (hm b _ q λz=>z)];exact q,λb ps q=>⟨#[],by rw[aU (hm b _ q λz=>z),q];simp⟩⟩
 by_cases om:b=e
 .subst om;exact qE
 .exact⟨u,k b u om q⟩
end
noncomputable def xP(h:Heap)(H:Hp):List Addr:=(List.range h.objs.size).filter λa=>(H a).isSome
noncomputable def g7(h:Heap)(H:Hp):Heap:=PySem.W.hideAll h (xP h H)
def tU(h:Heap)(H:Hp):(g7 h H).objs.size=h.objs.size:=PySem.W.hideAll_size _ _
def vF{h:Heap}{H:Hp}{b:Addr}{o:Obj}(e:h.get? b=some o)(n:H b=none):(g7 h H).get? b=some o:=
 PySem.W.hideAll_get _ e λhm=>by
  have q:(H b).isSome=true:=(List.mem_filter.mp hm).2;rw[n]at q;simp at q
def yT{h:Heap}{H:Hp}{b:Addr}{o:Obj}(e:(g7 h H).get? b=some o):h.get? b=some o/\H b=none:=by
 have e':h.get? b=some o:=PySem.W.of_hideAll (xP h H) e;refine⟨e',?_⟩;cases q:H b with
 |none=>rfl
 |some x=>
  have hm:b∈xP h H:=List.mem_filter.mpr ⟨List.mem_range.mpr (mz e'),by simp[q]⟩;have z:(g7 h H).get? b=none:=PySem.W.hideAll_none (xP h H) hm;rw[z]at e;cases e
noncomputable def yU(g h:Heap)(L:Addr):List (Addr×Obj):=(List.range h.objs.size).filterMap λa=>if a=L\/(g.get? a).isSome=true then none else (h.get? a).map λo=>(a,o)
noncomputable def rest(g h:Heap)(L d:Addr):List (Addr×Obj):=(yU g h L).filter λp=>decide (p.1≠d)
structure Mod(K:PySem.W.Frag)(mg:Str->Option Value)(base:Heap):Prop where
 xQ:K.In base
 glob:base.Ns mainGlobals mg
 blt:∃mb,base.Ns builtinsNs mb/\∀x:Str,x≠"__name__" ->mb x=bootBuiltins x
 nolimit:base.NoLimit
structure Cx where
 prog:Program
 w:World
 K:PySem.W.Frag
 mg:Str->Option Value
 base:Heap
 A:Around
 N:List Str
 s₀:Shared
 H₀:Hp
 env:Env
 outer:List Env
 stack:List Env
 ex:List Addr
 fn:Str->Bool
 calm:Bool
 pn:List (Addr×Obj)
 xe:Value->Shared->Prop
noncomputable def frs(l:List Env):List Addr:=l.filterMap (·.frame)
noncomputable abbrev Cx.fs(X:Cx):List Addr:=frs X.outer
noncomputable def tV(sc:Scope)(x:Str):Prop:=sc.names.lookup x=some .local\/sc.names.lookup x=some .cell\/sc.names.lookup x=some .free
noncomputable def Loc(sc:Scope)(x:Str):Prop:=sc.names.lookup x=some .local\/sc.names.lookup x=some .cell
noncomputable def Look(env:Env)(h:Heap)(m:Str->Option Value)(x:Str)(u:Value):Prop:=
 (env.kindOf x=some .local/\m x=some u)\/((env.kindOf x=some .cell\/env.kindOf x=some .free)/\∃c,env.cells.lookup x=some c/\h.IsCell c (some u))
structure Cx.Ok(X:Cx):Prop where
 mod:Mod X.K X.mg X.base
 kind:X.env.scope.kind=.function
 glob:X.env.globals=mainGlobals
 blt:X.env.builtins=builtinsNs
 above:X.s₀.heap.objs.size<=X.env.locals
 inj:∀x y c,X.env.cells.lookup x=some c->X.env.cells.lookup y=some c->x=y
 has:∀x,(X.env.kindOf x=some .cell\/X.env.kindOf x=some .free)->∃c,X.env.cells.lookup x=some c
 qF:∀x c,X.fn x=true->X.env.cells.lookup x=some c->X.s₀.heap.objs.size<=c
 hd:X.calm=true->X.A.handled=none
 frames:X.A.frames=some X.stack
 stk:X.stack=X.outer\/(X.stack=X.env :: X.outer/\X.env.frame=some X.env.locals)
 xR:∀b∈X.ex,b≠X.env.locals/\∀x c,X.env.cells.lookup x=some c->c≠b
 bs:∀b o,X.base.get? b=some o->X.s₀.heap.get? b=some o/\X.H₀ b=none
 mE:X.base.objs.size<=X.s₀.heap.objs.size
 lH:∀b o,X.base.get? b=some o->b∉X.ex
 lI:∀b∈X.ex,b∉X.fs
 fK:X.s₀.heap.FunFrames X.base X.outer
 oq:∀b∈X.fs,X.H₀ b=none
structure Inv(X:Cx)(pins:List (Addr×Obj))(σ:List (Option V))(H:Hp)(s:Shared):Prop where
 ok:X.Ok
 os:s.os=X.s₀.os
 bare:AllBare s.gens
 base:Un X.fs X.ex X.H₀ H X.s₀.heap s.heap
 loc:∃m,s.heap.Ns X.env.locals m/\∀(i:Nat) (x:Str) (v:V),X.N[i]?=some x->σ[i]?=some (some v)->tV X.env.scope x->∃u,RelV v u/\Look X.env s.heap m x u
 cell:∀x c,X.env.cells.lookup x=some c->∃v,s.heap.IsCell c v
 free:H X.env.locals=none
 fy:∀x c,X.env.cells.lookup x=some c->H c=none
 pin:∀p∈X.pn++pins,s.heap.get? p.1=some p.2/\H p.1=none/\p.1≠X.env.locals/\p.1∉X.fs/\∀v,p.2.data≠.cell v
 hok:cJ X.prog X.w H s.heap
 len:σ.length=X.N.length
section
variable{X:Cx}{pins:List (Addr×Obj)}{σ:List (Option V)}{H H':Hp}{s:Shared}{h':Heap}
def Cx.Ok.G8(ok:X.Ok){b:Addr}{o:Obj}(e:X.base.get? b=some o):b∉X.fs:=λhb=>by
 have:=(ok.fK.mem hb).1;rw[e]at this;cases this
theorem Inv.bs(I:Inv X pins σ H s):∀b o,X.base.get? b=some o->s.heap.get? b=some o/\H b=none:=λb o e=>
 ⟨I.base.keep b o (I.ok.bs b o e).1 (I.ok.bs b o e).2 (I.ok.G8 e) (I.ok.lH b o e),I.base.free b o (I.ok.bs b o e).1 (I.ok.bs b o e).2 (I.ok.lH b o e)⟩
def Inv.bk(I:Inv X pins σ H s):∀b o,X.base.get? b=some o->s.heap.get? b=some o:=λb o e=>(I.bs b o e).1
theorem Inv.mod(I:Inv X pins σ H s):Mod X.K X.mg X.base:=I.ok.mod
def Inv.dw(I:Inv X pins σ H s):X.K.In s.heap:=I.ok.mod.xQ.keeps I.bk
theorem Inv.lt(I:Inv X pins σ H s):X.env.locals<s.heap.objs.size:=let ⟨_,hn,_⟩:=I.loc;hn.lt
def Inv.sz(I:Inv X pins σ H s):X.s₀.heap.objs.size<=s.heap.objs.size:=xE I.ok.above (MM I.lt)
def Inv.G9(I:Inv X pins σ H s){a:Addr}(h:s.heap.objs.size<=a):a∉X.fs:=λhb=>by
 obtain⟨_,o,ho,_⟩:=I.ok.fK.mem hb;exact absurd (b7 (mz ho) (xE I.sz h)) (K4 _)
def Inv.ow(I:Inv X pins σ H s):∀x c,X.env.cells.lookup x=some c->c≠X.env.locals:=λx c e z=>by
 obtain⟨v,o,ho,hd⟩:=I.cell x c e;obtain⟨m,⟨o',es,ep,ho',hd',_⟩,_⟩:=I.loc;rw[z,ho']at ho;cases ho;rw[hd']at hd;cases hd
theorem Inv.fK(I:Inv X pins σ H s):s.heap.FunFrames X.base X.outer:=by
 have all:∀(l:List Env),(∀b∈frs l,b∈X.fs)->X.s₀.heap.FunFrames X.base l->s.heap.FunFrames X.base l:=by
  intro l;induction l with
  |nil=>intro _ _;trivial
  |cons env r ih=>
   intro hs hl;obtain⟨hk,⟨L,o,hf,hn,ho,hd⟩,hr⟩:=hl;have hL:L∈X.fs:=hs L (by unfold frs;rw[K5,hf];exact Km);obtain⟨sl,e⟩:=I.base.slot L o ho (I.ok.oq L hL) hL λz=>I.ok.lI L z hL;exact⟨hk,⟨L,_,hf,hn,e,hd⟩,ih (λb hb=>hs b (by unfold frs;rw[K5,hf];exact AE _ hb)) hr⟩
 exact all X.outer (λ_ hb=>hb) I.ok.fK
theorem Inv.stack(I:Inv X pins σ H s):s.heap.FunFrames X.base X.stack:=by
 rcases I.ok.stk with e|⟨e,hf⟩
 .rw[e];exact I.fK
 .rw[e];obtain⟨m,hn,_⟩:=I.loc;refine .cons (by rw[I.ok.kind];decide) hf hn ?_ I.fK;exact Heap.get?_none_of_le (xE I.ok.mE I.ok.above)
def Inv.oz(I:Inv X pins σ H s):∀b∈frs X.stack,b∈X.env.locals :: X.fs:=λb hb=>by
 rcases I.ok.stk with e|⟨e,hf⟩
 .rw[e]at hb;exact AE _ hb
 .rw[e]at hb;unfold frs at hb;rw[K5,hf]at hb;exact hb
def Inv.qG(I:Inv X pins σ H s):∀b∈frs X.stack,H b=none:=λb hb=>by
 rcases List.mem_cons.mp (I.oz b hb)with e|hb
 .rw[e];exact I.free
 .obtain⟨_,o,ho,_⟩:=I.ok.fK.mem hb;exact I.base.free b o ho (I.ok.oq b hb) λz=>I.ok.lI b z hb
def Inv.step{g':Array GenState}{t':Nat}{d':Drawn}{ch:List Addr}(I:Inv X pins σ H s)
  (hch:∀b∈ch,(b∈X.ex\/X.s₀.heap.objs.size<=b)/\b≠X.env.locals/\(∀x c,X.env.cells.lookup x=some c->c≠b)/\∀p∈X.pn++pins,p.1≠b)
  (keep:∀b o,b≠X.env.locals->b∉X.fs->b∉ch->s.heap.get? b=some o->H b=none->h'.get? b=some o)
  (slot:∀b o,b≠X.env.locals->b∈X.fs->b∉ch->s.heap.get? b=some o->H b=none->∃sl,h'.get? b=some { o with slots:=sl }) (free:∀b o,b∉ch->s.heap.get? b=some o->H b=none->H' b=none)
  (there:∀b o,b∉ch->s.heap.get? b=some o->∃o',h'.get? b=some o')
  (tups:∀b xs,H b=some (.tup xs)->H' b=some (.tup xs)) (g6:∀b o u,H b=some (.aW o u)->H' b=some (.aW o u)) (iM:∀b ps,H b=some (.oh ps)->∃more,H' b=some (.oh (ps++more)))
  (ns:∀m,s.heap.Ns X.env.locals m->h'.Ns X.env.locals m) (hok:cJ X.prog X.w H' h') (hg:AllBare g') :
  Inv X pins σ H' { s with heap:=h',gens:=g',drawn:=d',toks:=t' }:=by
 have Gd:∀b o,X.s₀.heap.get? b=some o->b≠X.env.locals:=λb o e=>IB (b7 (mz e) I.ok.above);have xS:∀b o,X.s₀.heap.get? b=some o->b∉X.ex->b∉ch:=λb o e hx hb=>by
  rcases(hch b hb).1 with z|z
  .exact hx z
  .exact absurd (b7 (mz e) z) (K4 _)
 have cellK:∀x c,X.env.cells.lookup x=some c->∀v,s.heap.IsCell c v->h'.IsCell c v:=λx c e v ⟨o,ho,hd⟩=>by
  have tW:c∉ch:=λz=>(hch c z).2.2.1 x c e rfl;by_cases hc:c∈X.fs
  .obtain⟨sl,q⟩:=slot c o (I.ow x c e) hc tW ho (I.fy x c e);exact⟨_,q,hd⟩
  .exact⟨o,keep c o (I.ow x c e) hc tW ho (I.fy x c e),hd⟩
 refine⟨I.ok,I.os,hg,⟨λb o e n hb hx=>?_,λb o e n hb hx=>?_,λb o e n hx=>?_,λb o e hx=>?_,λb xs e=>tups b xs (I.base.tups b xs e),λb o xs e=>g6 b o xs (I.base.g6 b o xs e),λb ps e=>?_⟩,?_,λx c e=>?_,?_,λx c e=>?_,λp hp=>?_,hok,I.len⟩
 .exact keep b o (Gd b o e) hb (xS b o e hx) (I.base.keep b o e n hb hx) (I.base.free b o e n hx)
 .obtain⟨sl,e1⟩:=I.base.slot b o e n hb hx;obtain⟨Jg,e2⟩:=slot b _ (Gd b o e) hb (xS b o e hx) e1 (I.base.free b o e n hx);exact⟨Jg,e2⟩
 .obtain⟨o',e1⟩:=I.base.there b o e hx;exact free b o' (xS b o e hx) e1 (I.base.free b o e n hx)
 .obtain⟨o',e1⟩:=I.base.there b o e hx;exact there b o' (xS b o e hx) e1
 .obtain⟨m1,e1⟩:=I.base.iM b ps e;obtain⟨m2,e2⟩:=iM b _ e1;exact⟨m1++m2,by rw[e2,Array.append_assoc]⟩
 .obtain⟨m,hn,hl⟩:=I.loc;refine⟨m,ns m hn,λi x v e1 e2 e3=>?_⟩;obtain⟨u,r,l⟩:=hl i x v e1 e2 e3;refine⟨u,r,?_⟩;rcases l with l|⟨k,c,e,z⟩
  .exact .inl l
  .exact .inr ⟨k,c,e,cellK x c e _ z⟩
 .obtain⟨v,z⟩:=I.cell x c e;exact⟨v,cellK x c e v z⟩
 .obtain⟨m,⟨o,_,_,ho,_⟩,_⟩:=I.loc;exact free _ o (λz=>(hch _ z).2.1 rfl) ho I.free
 .obtain⟨v,o,ho,hd⟩:=I.cell x c e;exact free c o (λz=>(hch c z).2.2.1 x c e rfl) ho (I.fy x c e)
 .obtain⟨e,n,ne,nf,d⟩:=I.pin p hp;have tW:p.1∉ch:=λz=>(hch p.1 z).2.2.2 p hp rfl;exact⟨keep p.1 p.2 ne nf tW e n,free p.1 p.2 tW e n,ne,nf,d⟩
def Inv.un{t':Nat}(I:Inv X pins σ H s)(u:Un X.fs [] H H' s.heap h')(hok:cJ X.prog X.w H' h'):Inv X pins σ H' { s with heap:=h',toks:=t' }:=by
 obtain⟨m,⟨o,es,ep,ho,r⟩,_⟩:=id I.loc;obtain⟨sl,hL⟩:=u.any ho I.free (by simp);exact I.step (g':=s.gens) (d':=s.drawn) (ch:=[]) (λ_ z=>nomatch z) (λb o _ hb _ e n=>u.keep b o e n hb (by simp)) (λb o _ hb _ e n=>u.slot b o e n hb (by simp)) (λb o _ e n=>u.free b o e n (by simp)) (λb o _ e=>u.there b o e (by simp)) u.tups u.g6 u.iM (λm' hm=>by
  obtain⟨o',es',AO,ho',r'⟩:=hm;rw[ho]at ho';cases ho';exact⟨_,es',AO,hL,r'⟩) hok I.bare
def Inv.call{g':Array GenState}{t':Nat}{d':Drawn}{ch:List Addr}(I:Inv X pins σ H s)(u:Un (frs X.stack) ch H H' s.heap h')(hok:cJ X.prog X.w H' h')(hg:AllBare g')
  (hch:∀b∈ch,(b∈X.ex\/X.s₀.heap.objs.size<=b)/\b≠X.env.locals/\(∀x c,X.env.cells.lookup x=some c->c≠b)/\∀p∈X.pn++pins,p.1≠b) :
  Inv X pins σ H' { s with heap:=h',gens:=g',drawn:=d',toks:=t' }:=by
 obtain⟨m,⟨o,es,ep,ho,r⟩,_⟩:=id I.loc;obtain⟨sl,hL⟩:=u.any ho I.free λz=>(hch _ z).2.1 rfl;exact I.step (ch:=ch) hch (λb o hL hb hc e n=>u.keep b o e n (λz=>(List.mem_cons.mp (I.oz b z)).elim hL hb) hc) (λb o _ _ hc e n=>u.any e n hc) (λb o hc e n=>u.free b o e n hc) (λb o hc e=>u.there b o e hc) u.tups u.g6 u.iM (λm' hm=>by
  obtain⟨o',es',AO,ho',r'⟩:=hm;rw[ho]at ho';cases ho';exact⟨_,es',AO,hL,r'⟩) hok hg
def Inv.turned{t':Nat}{it:Addr}(I:Inv X pins σ H s)(k:∀b o,b≠it->s.heap.get? b=some o->h'.get? b=some o)(hn:H it=none)(hL:it≠X.env.locals)
  (h1:it∈X.ex\/X.s₀.heap.objs.size<=it) (h2:∀x c,X.env.cells.lookup x=some c->c≠it) (h3:∀p∈X.pn++pins,p.1≠it):Inv X pins σ H { s with heap:=h',toks:=t' }:=by
 have Ge:∀b u,H b=some u->b≠it:=λb u e z=>by rw[z,hn]at e;cases e
 refine I.step (g':=s.gens) (d':=s.drawn) (ch:=[it]) (λb hb=>?_) (λb o _ _ hc e _=>k b o (λz=>hc (by simp[z])) e) (λb o _ _ hc e _=>⟨o.slots,k b o (λz=>hc (by simp[z])) e⟩) (λ_ _ _ _ n=>n)
  (λb o hc e=>⟨o,k b o (λz=>hc (by simp[z])) e⟩) (λ_ _ e=>e) (λ_ _ _ e=>e) (λb ps e=>⟨#[],by rw[e];simp⟩) (λm hm=>?_) (λb u e=>?_) I.bare
 .have e:b=it:=by simpa using hb
  subst e;exact⟨h1,hL,h2,h3⟩
 .obtain⟨o,es,ep,ho,r⟩:=hm;exact⟨o,es,ep,k _ o (Mu hL) ho,r⟩
 .refine(I.hok b u e).stay (λc v hc q=>k c v ?_ q) (λ_ q=>q) λ_ _ q=>q;rcases hc with z|z
  .rw[z];exact Ge b u e
  .exact Ge c _ z
def Inv.tok(I:Inv X pins σ H s)(t:Nat):Inv X pins σ H { s with toks:=t }:=I.un (h':=s.heap) (t':=t) Un.refl I.hok
theorem Inv.kept{t':Nat}(I:Inv X pins σ H s)(k:∀b u,s.heap.get? b=some u->h'.get? b=some u):Inv X pins σ H { s with heap:=h',toks:=t' }:=I.un (Un.kept k) (I.hok.kept k)
theorem Inv.laid{a:Addr}{o:HO}{t':Nat}(I:Inv X pins σ H s)(k:∀b u,s.heap.get? b=some u->h'.get? b=some u)(hp:s.heap.objs.size<=a)(new:bK X.prog X.w (upd H a o) h' a o) :
  Inv X pins σ (upd H a o) { s with heap:=h',toks:=t' }:=I.un (Un.laid k hp (I.hok.fresh hp)) (I.hok.laid k hp new)
theorem Inv.write{x e:Addr}{o:HO}{t':Nat}(I:Inv X pins σ H s)(mu:tT (H x))(he:e=x\/H e=some (.own x))(k:∀b u,b≠e->s.heap.get? b=some u->h'.get? b=some u)(qE:∃u,h'.get? e=some u)
  (new:bK X.prog X.w (upd H x o) h' x o):Inv X pins σ (upd H x o) { s with heap:=h',toks:=t' }:=I.un (Un.write mu he k qE) (I.hok.write mu he k qE new)
def Inv.qH{xT:List (Addr×Obj)}(I:Inv X pins σ H s)(h:∀p∈xT,s.heap.get? p.1=some p.2/\H p.1=none/\p.1≠X.env.locals/\p.1∉X.fs/\∀v,p.2.data≠.cell v):Inv X xT σ H s:=
 ⟨I.ok,I.os,I.bare,I.base,I.loc,I.cell,I.free,I.fy,λp hp=>(List.mem_append.mp hp).elim (λz=>I.pin p (MC _ z)) (h p),I.hok,I.len⟩
def oA{N:List Str}(hN:N.Nodup){i j:Nat}{x:Str}(a:N[i]?=some x)(b:N[j]?=some x):i=j:=by
 obtain⟨h1,e1⟩:=List.getElem?_eq_some_iff.mp a;obtain⟨h2,e2⟩:=List.getElem?_eq_some_iff.mp b;exact(M4 hN).mp (e1.trans e2.symm)
def mF{M:Model}{A:Around}{E:Value->Shared->Prop}{i:Nat}{x:Str}{v:V}{u:Value}{Q:Unit->Shared->Prop}(I:Inv X pins σ H s)(hN:X.N.Nodup)(hi:X.N[i]?=some x)(hx:Loc X.env.scope x)(r:RelV v u)
  (h:∀s',Inv X pins (σ.set i (some v)) H s'->(∃a,Heap.SameBut a s.heap s'.heap/\(a=X.env.locals\/X.env.cells.lookup x=some a))->Q () s') (hf:X.fn x=true\/X.env.scope.names.lookup x=some .local:=by first|exact .inl rfl|exact .inr rfl|assumption):wpAny M A (storeName X.env x u) Q E s:=by
 obtain⟨m,hn,hl⟩:=id I.loc;have hcls:(X.env.scope.kind==.class || (X.env.scope.kind==.module&&X.env.locals != X.env.globals))=false:=by rw[I.ok.kind];rfl
 have AQ:i<σ.length:=by rw[I.len];exact(List.getElem?_eq_some_iff.mp hi).1
 have ow:=I.ow;have tracked:∀{a:Addr} {h':Heap},(∃o,s.heap.get? a=some o/\H a=none)->Heap.SameBut a s.heap h'->cJ X.prog X.w H h':=λ{a h'} ha hs b ob e=>by
  obtain⟨_,_,hfree⟩:=ha;refine(I.hok b ob e).stay (λc w' hc q=>(hs.2 c ?_).trans q) (λ_ q=>q) λ_ _ q=>q;rintro rfl;rcases hc with rfl|hc
  .rw[hfree]at e;cases e
  .rw[hfree]at hc;cases hc
 rcases hx with hk|hk
 .refine wpAny_storeName_local hk hn (λh' hn' hs=>?_) hcls;obtain⟨oL,_,_,Jh,_⟩:=id hn;refine h _ ⟨I.ok,I.os,I.bare,⟨λb o e n hb hx=>?_,λb o e n hb hx=>?_,I.base.free,λb o e hx=>?_,I.base.tups,I.base.g6,I.base.iM⟩,⟨_,hn',λj y v' e1 e2 e3=>?_⟩,λy c e=>?_,I.free,I.fy,λp hp=>?_,tracked ⟨oL,Jh,I.free⟩ hs,by simpa using I.len⟩ ⟨_,hs,.inl rfl⟩
  .exact(hs.2 b (IB (b7 (mz e) I.ok.above))).trans (I.base.keep b o e n hb hx)
  .obtain⟨sl,e1⟩:=I.base.slot b o e n hb hx;exact⟨sl,(hs.2 b (IB (b7 (mz e) I.ok.above))).trans e1⟩
  .obtain⟨o',e1⟩:=I.base.there b o e hx;exact⟨o',(hs.2 b (IB (b7 (mz e) I.ok.above))).trans e1⟩
  .by_cases hj:j=i
   .subst hj;rw[hi]at e1;cases e1;rw[kZ AQ]at e2;cases e2;exact⟨u,r,.inl ⟨hk,by simp⟩⟩
   .rw[bU (Mu hj)]at e2;obtain⟨u',r',q⟩:=hl j y v' e1 e2 e3;refine⟨u',r',?_⟩;rcases q with ⟨k,e⟩|⟨k,c,e,z⟩
    .refine .inl ⟨k,?_⟩;have:y≠x:=λe=>hj (oA hN e1 (e▸hi));simp[this,e]
    .exact .inr ⟨k,c,e,z.sameBut hs (ow y c e)⟩
  .obtain⟨w',z⟩:=I.cell y c e;exact⟨w',z.sameBut hs (ow y c e)⟩
  .obtain⟨e,n,ne,nf,d⟩:=I.pin p hp;exact⟨(hs.2 p.1 ne).trans e,n,ne,nf,d⟩
 .have hfn:X.fn x=true:=by
   rcases hf with z|z
   .exact z
   .rw[z]at hk;cases hk
  obtain⟨c,hc⟩:=I.ok.has x (.inl hk);obtain⟨w',z⟩:=I.cell x c hc;refine wpAny_storeName_cell I.ok.kind hk hc z (λh' hc' hs=>?_);obtain⟨oc,hoc,Hf⟩:=id z;refine h { s with heap:=h' } ⟨I.ok,I.os,I.bare,⟨λb o e n hb hx=>?_,λb o e n hb hx=>?_,I.base.free,λb o e hx=>?_,I.base.tups,I.base.g6,I.base.iM⟩,⟨m,hn.sameBut hs (Mu (ow x c hc)),λj y v' e1 e2 e3=>?_⟩,λy c' e=>?_,I.free,I.fy,λp hp=>?_,tracked ⟨oc,hoc,I.fy x c hc⟩ hs,by simpa using I.len⟩ ⟨c,hs,.inr hc⟩
  .exact(hs.2 b (IB (b7 (mz e) (I.ok.qF x c hfn hc)))).trans (I.base.keep b o e n hb hx)
  .obtain⟨sl,e1⟩:=I.base.slot b o e n hb hx;exact⟨sl,(hs.2 b (IB (b7 (mz e) (I.ok.qF x c hfn hc)))).trans e1⟩
  .obtain⟨o',e1⟩:=I.base.there b o e hx;exact⟨o',(hs.2 b (IB (b7 (mz e) (I.ok.qF x c hfn hc)))).trans e1⟩
  .by_cases hj:j=i
   .subst hj;rw[hi]at e1;cases e1;rw[kZ AQ]at e2;cases e2;exact⟨u,r,.inr ⟨.inl hk,c,hc,hc'⟩⟩
   .rw[bU (Mu hj)]at e2;obtain⟨u',r',q⟩:=hl j y v' e1 e2 e3;refine⟨u',r',?_⟩;rcases q with q|⟨k,c',e,z'⟩
    .exact .inl q
    .refine .inr ⟨k,c',e,z'.sameBut hs ?_⟩;rintro rfl;exact hj (oA hN e1 (I.ok.inj _ _ _ e hc▸hi))
  .by_cases hcc:c'=c
   .subst hcc;exact⟨_,hc'⟩
   .obtain⟨w2,z2⟩:=I.cell y c' e;exact⟨w2,z2.sameBut hs hcc⟩
  .obtain⟨e,n,ne,nf,d⟩:=I.pin p hp;refine⟨(hs.2 p.1 ?_).trans e,n,ne,nf,d⟩;intro q;rw[q,hoc]at e;have q':oc=p.2:=ny e;exact d w' (by rw[<-q'];exact Hf)
def oB{M:Model}{A:Around}{E:Value->Shared->Prop}{i:Nat}{x:Str}{v:V}{u:Value}{Q:Unit->Shared->Prop}(I:Inv X pins σ H s)(hN:X.N.Nodup)(hi:X.N[i]?=some x)(hx:Loc X.env.scope x)(r:RelV v u)
  (h:∀s',Inv X pins (σ.set i (some v)) H s'->Q () s') (hf:X.fn x=true\/X.env.scope.names.lookup x=some .local:=by first|exact .inl rfl|exact .inr rfl|assumption):wpAny M A (storeName X.env x u) Q E s:=
 mF I hN hi hx r (λs' I' _=>h s' I') hf
def Inv.D7{s':Shared}{ch:List Addr}(I:Inv X pins σ H s)(ho:s'.os=s.os)(u:Un (frs X.stack) ch H H' s.heap s'.heap)(hok:cJ X.prog X.w H' s'.heap)(hg:AllBare s'.gens)
  (hch:∀b∈ch,(b∈X.ex\/X.s₀.heap.objs.size<=b)/\b≠X.env.locals/\(∀x c,X.env.cells.lookup x=some c->c≠b)/\∀p∈X.pn++pins,p.1≠b):Inv X pins σ H' s':=by
 obtain⟨h',g',d',t',o'⟩:=s';have e:o'=s.os:=ho;subst e;exact I.call (g':=g') (t':=t') (d':=d') u hok hg hch
end
abbrev XK:=Value->Option Addr->Hp->Prop
abbrev St:=List (Option V)
abbrev VK:=V->Hp->Prop
abbrev TE:=St->Hp->VK->Prop
abbrev TT:=St->Hp->(Bool->Hp->Prop)->Prop
abbrev TA:=St->Hp->(List V->Hp->Prop)->Prop
structure Ends where
 nx:St->Hp->Prop
 rt:VK
 bk:St->Hp->Prop:=λ_ _=>False
 ct:St->Hp->Prop:=λ_ _=>False
abbrev TS:=Ends->St->Hp->Prop
noncomputable def EP(X:Cx)(pins:List (Addr×Obj))(σ:St)(Q:VK)(u:Value)(s':Shared):Prop:=∃v H',Inv X pins σ H' s'/\RelV v u/\Q v H'
noncomputable def TP(X:Cx)(pins:List (Addr×Obj))(σ:St)(Q:Bool->Hp->Prop)(b:Bool)(s':Shared):Prop:=∃H',Inv X pins σ H' s'/\Q b H'
noncomputable def AP(X:Cx)(pins:List (Addr×Obj))(σ:St)(Q:List V->Hp->Prop)(us:List Value)(s':Shared):Prop:=∃vs H',Inv X pins σ H' s'/\Vals vs us/\Q vs H'
noncomputable def SP(X:Cx)(pins:List (Addr×Obj))(D:Ends)(f:Flow)(s':Shared):Prop:=
 match f with
 |.next=>∃σ' H',Inv X pins σ' H' s'/\D.nx σ' H'
 |.brk=>∃σ' H',Inv X pins σ' H' s'/\D.bk σ' H'
 |.cont=>∃σ' H',Inv X pins σ' H' s'/\D.ct σ' H'
 |.ret u=>∃v σ' H',Inv X pins σ' H' s'/\RelV v u/\D.rt v H'
noncomputable def PE(X:Cx)(e:Expr)(t:TE):Prop:=
 ∀(pins:List (Addr×Obj)) (s:Shared) (σ:St) (H:Hp) (Q:VK),Inv X pins σ H s->t σ H Q->wpAny (model X.prog X.w) X.A (eval e X.env) (EP X pins σ Q) X.xe s
noncomputable def PT(X:Cx)(e:Expr)(t:TT):Prop:=
 ∀(pins:List (Addr×Obj)) (s:Shared) (σ:St) (H:Hp) (Q:Bool->Hp->Prop),Inv X pins σ H s->t σ H Q->wpAny (model X.prog X.w) X.A (isTrue e X.env (eval e X.env)) (TP X pins σ Q) X.xe s
noncomputable def PW(X:Cx)(e:Expr)(t:TT):Prop:=
 ∀(whole:Sem Value) (pins:List (Addr×Obj)) (s:Shared) (σ:St) (H:Hp) (Q:Bool->Hp->Prop),Inv X pins σ H s->t σ H Q->wpAny (model X.prog X.w) X.A (isTrue e X.env whole) (TP X pins σ Q) X.xe s
def PW.pt{X:Cx}{e:Expr}{t:TT}(h:PW X e t):PT X e t:=h _
noncomputable def PA(X:Cx)(es:List Expr)(t:TA):Prop:=
 ∀(pos:Pos) (pins:List (Addr×Obj)) (s:Shared) (σ:St) (H:Hp) (Q:List V->Hp->Prop),Inv X pins σ H s->t σ H Q->wpAny (model X.prog X.w) X.A (spliced (backTo pos (starEach es X.env))) (AP X pins σ Q) X.xe s
noncomputable def PS(X:Cx)(st:Stmt)(t:TS):Prop:=
 ∀(pins:List (Addr×Obj)) (s:Shared) (σ:St) (H:Hp) (D:Ends),Inv X pins σ H s->t D σ H->wpAny (model X.prog X.w) X.A (exec st X.env) (SP X pins D) X.xe s
noncomputable def fB(X:Cx)(st:List Stmt)(t:TS):Prop:=
 ∀(pins:List (Addr×Obj)) (s:Shared) (σ:St) (H:Hp) (D:Ends),Inv X pins σ H s->t D σ H->wpAny (model X.prog X.w) X.A (execs st X.env) (SP X pins D) X.xe s
def aR{α:Type}{t:Sem α}{Q Q':α->Shared->Prop}{M:Model}{A:Around}{E:Value->Shared->Prop}{s:Shared}(h:wpAny M A t Q E s)(hQ:∀a s,Q a s->Q' a s):wpAny M A t Q' E s:=Kn h hQ λ_ _ x=>x
section
variable{X:Cx}
def bin{a b:Expr}{ta tb:TE}(ha:PE X a ta)(hb:PE X b tb){pins:List (Addr×Obj)}{s:Shared}{σ:St}{H:Hp}{R:V->V->Hp->Prop}(I:Inv X pins σ H s)(h:ta σ H λx H1=>tb σ H1 λy H2=>R x y H2)
  {α:Type} {Q:α->Shared->Prop} {f:Value->Value->Sem α}
  (hf:∀v u s2 x y H2,Inv X pins σ H2 s2->RelV x v->RelV y u->R x y H2->wpAny (model X.prog X.w) X.A (f v u) Q X.xe s2) :
  wpAny (model X.prog X.w) X.A (eval a X.env) (λv s₁=>wpAny (model X.prog X.w) X.A (eval b X.env) (λu s₂=>wpAny (model X.prog X.w) X.A (f v u) Q X.xe s₂) X.xe s₁) X.xe s:=by
 refine aR (ha pins s σ H _ I h) λv s1 ⟨x,H1,I1,r1,q1⟩=>?_;refine aR (hb pins s1 σ H1 _ I1 q1) λu s2 ⟨y,H2,I2,r2,q2⟩=>?_;exact hf v u s2 x y H2 I2 r1 r2 q2
noncomputable def AR(i:Nat):TE:=λσ H Q=>∃v,σ[i]?=some (some v)/\Q v H
noncomputable def tC(v:V):TE:=λ_ H Q=>Q v H
def tX {i:Nat}{x:Str}{pos:Pos}(hN:X.N[i]?=some x) (hv:tV X.env.scope x) (hd:(x==("__debug__" : Str))=false:=by decide) (hcd:(x==("__classdict__" : Str))=false:=by decide):PE X (.Name x pos) (AR i):=by
 intro pins s σ H Q I h;obtain⟨v,e,h⟩:=h;obtain⟨m,hn,hl⟩:=I.loc;obtain⟨u,r,l⟩:=hl i x v hN e hv;have fin:EP X pins σ Q u s:=⟨v,H,I,r,h⟩
 rcases l with ⟨hk,hm⟩|⟨hk,c,hc,hcell⟩
 .exact wpAny_Name (wpAny_loadName_local I.ok.kind hk hn hm fin) hd
 .rcases hk with hk|hk
  .exact wpAny_Name (wpAny_loadName_cell I.ok.kind hk hc hcell fin) hd
  .exact wpAny_Name (wpAny_loadName_free I.ok.kind hk hc hcell fin hcd) hd
def AS{i j pos}:PE X (.Constant (.int i) j pos) (tC (.int i)):=λ_ _ _ H _ I h=>wpAny_Constant_int ⟨.int i,H,I.tok _,⟨_,rfl⟩,h⟩
def D8{b j pos}:PE X (.Constant (.bool b) j pos) (tC (.bl b)):=λ_ _ _ H _ I h=>Constant_bool ⟨.bl b,H,I,rfl,h⟩
def oE{x j pos}:PE X (.Constant (.str x) j pos) (tC (.str x)):=λ_ _ _ H _ I h=>Calls.Constant_str ⟨.str x,H,I.tok _,⟨_,rfl⟩,h⟩
noncomputable def Gl(X:Cx)(x:Str):Prop:=X.env.kindOf x=some .globalImplicit
def qI{E:Value->Shared->Prop}{pins:List (Addr×Obj)}{s:Shared}{σ:St}{H:Hp}{x:Str}{u:Value}{pos:Pos}{Q:Value->Shared->Prop}(I:Inv X pins σ H s)(hg:Gl X x)(hm:X.mg x=some u)(h:Q u s)
  (hd:(x==("__debug__" : Str))=false:=by decide):wpAny (model X.prog X.w) X.A (eval (.Name x pos) X.env) Q E s:=
 L4 I.ok.kind hg (Calls.loadGlobal_global (by rw[I.ok.glob];exact I.mod.glob.keeps I.bk) hm h) hd
def iN{E:Value->Shared->Prop}{pins:List (Addr×Obj)}{s:Shared}{σ:St}{H:Hp}{x:Str}{u:Value}{pos:Pos}{Q:Value->Shared->Prop}(I:Inv X pins σ H s)(hg:Gl X x)(hm:X.mg x=none)(hv:bootBuiltins x=some u)(h:Q u s)
  (hn:x≠"__name__" :=by decide) (hd:(x==("__debug__" : Str))=false:=by decide):wpAny (model X.prog X.w) X.A (eval (.Name x pos) X.env) Q E s:=by
 obtain⟨mb,h1,h2⟩:=I.mod.blt;exact L4 I.ok.kind hg (Calls.loadGlobal_builtin (by rw[I.ok.glob];exact I.mod.glob.keeps I.bk) hm (by rw[I.ok.blt];exact h1.keeps I.bk) ((h2 x hn).trans hv) h) hd
def lJ {x:Str}{v:V}{u:Value}{pos:Pos}(hg:Gl X x) (hm:X.mg x=some u) (r:RelV v u) (hd:(x==("__debug__" : Str))=false:=by decide):PE X (.Name x pos) (tC v):=
 λ_ _ _ H _ I h=>qI I hg hm ⟨v,H,I,r,h⟩ hd
def yV {x:Str}{v:V}{u:Value}{pos:Pos}(hg:Gl X x) (hm:X.mg x=none) (hv:bootBuiltins x=some u) (r:RelV v u) (hn:x≠"__name__" :=by decide) (hd:(x==("__debug__" : Str))=false:=by decide):PE X (.Name x pos) (tC v):=
 λ_ _ _ H _ I h=>iN I hg hm hv ⟨v,H,I,r,h⟩ hn hd
variable{a b:Expr}{ta tb:TE}{pos:Pos}
noncomputable def PC(X:Cx)(op:CmpOp)(a b:Expr)(t:TE):Prop:=
 ∀(pins:List (Addr×Obj)) (s:Shared) (σ:St) (H:Hp) (Q:VK),Inv X pins σ H s->t σ H Q->
  wpAny (model X.prog X.w) X.A (eval a X.env) (λv s₁=>wpAny (model X.prog X.w) X.A (eval b X.env) (λu s₂=>wpAny (model X.prog X.w) X.A (compareOp op v u) (EP X pins σ Q) X.xe s₂) X.xe s₁) X.xe s
def vG(b:Expr){op:CmpOp}(h:op≠.In)(h2:op≠.NotIn):behindInMarks op b=false:=by
 have e1:(op==CmpOp.In)=false:=by cases op<;>first|rfl|exact absurd rfl h
 have e2:(op==CmpOp.NotIn)=false:=by cases op<;>first|rfl|exact absurd rfl h2
 cases b<;>simp[behindInMarks,e1,e2]
noncomputable def tB(t:TE):TT:=λσ H Q=>t σ H λx H1=>∃c,x=.bl c/\Q c H1
def AU{op:CmpOp}{t:TE}(h:PC X op a b t)(h1:behindInMarks op b=false:=by first|exact vG _ (by decide) (by decide)|rfl):PT X (.Compare a [op] [b] pos) (tB t):=by
 intro pins s σ H Q I hw;refine Mv (aR (h pins s σ H _ I hw) λv s1 h1=>aR h1 λu s2 h2=>aR h2 λc s3 ⟨x,H1,I1,r1,q1⟩=>?_) h1;obtain⟨d,rfl,q⟩:=q1;cases r1;exact KY ⟨H1,I1,q⟩
variable{tA Gf:TT}{rest:List Expr}
noncomputable def Ji(t u:TT):TT:=λσ H Q=>t σ H λc H1=>if c=true then Q true H1 else u σ H1 Q
noncomputable def Hg(t:TT):TT:=λσ H Q=>t σ H λc H1=>Q (!c) H1
def AV(ha:PT X a tA):PW X (.BoolOp .Or [a] pos) tA:=by
 intro wh pins s σ H Q I h;refine isTrue_or (aR (ha pins s σ H Q I h) λc s1 e=>?_);cases c with
 |false=>exact isTrue_or_nil e
 |true=>exact e
def D9(ha:PT X a tA)(hb:PW X (.BoolOp .Or (b :: rest) pos) Gf):PW X (.BoolOp .Or (a :: b :: rest) pos) (Ji tA Gf):=by
 intro wh pins s σ H Q I h;refine isTrue_or (aR (ha pins s σ H _ I h) λc s1 ⟨H1,I1,q1⟩=>?_);cases c with
 |true=>exact⟨H1,I1,q1⟩
 |false=>exact hb wh pins s1 σ H1 Q I1 q1
def AW(ha:PT X a tA):PT X (.UnaryOp .Not a pos) (Hg tA):=by
 intro pins s σ H Q I h;exact isTrue_not (ha pins s σ H (λc H1=>Q (!c) H1) I h)
noncomputable def Ea(ta tb:TE):TE:=λσ H Q=>ta σ H λx H1=>∃c,x=.bl c/\if c=true then tb σ H1 Q else Q (.bl false) H1
def AX{op}{t:TE}(h:PE X a t):PE X (.BoolOp op [a] pos) t:=λpins s σ H Q I hw=>BoolOp_one (h pins s σ H Q I hw)
def AY(ha:PE X a ta)(hb:PE X (.BoolOp .And (b :: rest) pos) tb):PE X (.BoolOp .And (a :: b :: rest) pos) (Ea ta tb):=by
 intro pins s σ H Q I h;refine BoolOp_and (aR (ha pins s σ H _ I h) λv s1 ⟨x,H1,I1,r1,q1⟩=>?_);obtain⟨c,rfl,q1⟩:=q1;cases r1;refine KY ?_;cases c with
 |true=>exact hb pins s1 σ H1 Q I1 q1
 |false=>exact⟨.bl false,H1,I1,rfl,q1⟩
end
noncomputable def cS(K:PySem.W.Frag)(H:Hp)(a:Addr)(xs:List V):Prop:=
 Rd H a (.lst xs)\/
  ∃(o:Obj) (its:Array Value) (n:Nat),K.lookup a=some o/\o.cls=.type "list" /\o.dict=none/\o.data=.seq its n/\its.size<=sizeLine/\Vals xs its.toList
noncomputable def b8(K:PySem.W.Frag)(H:Hp)(a:Addr)(xs:List V):Prop:=
 Rd H a (.tup xs)\/
  ∃(o:Obj) (its:Array Value) (n:Nat),K.lookup a=some o/\o.cls=.type "tuple" /\o.data=.seq its n/\its.size<=sizeLine/\Vals xs its.toList
noncomputable def Hi:Value->Option V
 |.none=>some .bg
 |.bool b=>some (.bl b)
 |.int i _=>some (.int i)
 |.str x _=>some (.str x)
 |.bytes b _=>some (.tS b)
 |.float b _=>some (.qD b)
 |.ref a=>some (.ref a)
 |.type n=>some (.ty n)
 |_=>none
def RelV.abs{x:V}{u:Value}(r:RelV x u):Hi u=some x:=by
 cases x with
 |bg=>cases r;rfl
 |bl _=>cases r;rfl
 |int _=>obtain⟨t,rfl⟩:=r;rfl
 |str _=>obtain⟨t,rfl⟩:=r;rfl
 |tS _=>obtain⟨t,rfl⟩:=r;rfl
 |qD _=>obtain⟨t,rfl⟩:=r;rfl
 |ref _=>cases r;rfl
 |ty _=>cases r;rfl
theorem RelV.inj{x y:V}{u:Value}(r:RelV x u)(q:RelV y u):x=y:=ny (r.abs.symm.trans q.abs)
theorem Vals.inj:∀{xs ys:List V}{us:List Value},Vals xs us->Vals ys us->xs=ys
 |_,_,_,.nil,.nil=>rfl
 |_,_,_,.cons r t,.cons r' t'=>by rw[r.inj r',Vals.inj t t']
section
variable{X:Cx}{pins:List (Addr×Obj)}{σ:St}{H:Hp}{s:Shared}{a:Addr}{xs ys:List V}
def cS.of{K:PySem.W.Frag}(h:H a=some (.lst xs)):cS K H a xs:=.inl (.inl h)
def b8.of{K:PySem.W.Frag}(h:H a=some (.tup xs)):b8 K H a xs:=.inl (.inl h)
def Inv.list(I:Inv X pins σ H s)(h:cS X.K H a xs):∃its:List Value,Vals xs its/\PlainL s.heap a its.toArray/\xs.length<=sizeLine:=by
 rcases h with h|⟨o,its,n,hk,hc,hd,hs,hz,r⟩
 .obtain⟨z,its,n,r,e⟩:=h.ok I.hok;exact⟨its,r,⟨_,n,e,rfl,rfl,rfl⟩,z⟩
 .refine⟨its.toList,r,⟨o,n,I.dw a o hk,hc,hd,by simpa using hs⟩,?_⟩;have e:=r.length;simp only[LW]at e;omega
def Inv.tuple(I:Inv X pins σ H s)(h:b8 X.K H a xs):∃its:List Value,Vals xs its/\IsTup s.heap a its.toArray/\xs.length<=sizeLine:=by
 rcases h with h|⟨o,its,n,hk,hc,hs,hz,r⟩
 .obtain⟨z,its,r,p⟩:=h.ok I.hok;exact⟨its,r,p,z⟩
 .refine⟨its.toList,r,⟨o,I.dw a o hk,hc,n,by simpa using hs⟩,?_⟩;have e:=r.length;simp only[LW]at e;omega
def Inv.vH(I:Inv X pins σ H s)(h:cS X.K H a xs)(h':cS X.K H a ys):xs=ys:=by
 obtain⟨its,r,⟨o,n,e,_,_,d⟩,_⟩:=I.list h;obtain⟨its',r',⟨o',n',e',_,_,d'⟩,_⟩:=I.list h';rw[e]at e';cases e';rw[d]at d';injection d' with d1 _
 have:its=its':=by simpa using AD Array.toList d1
 subst this;exact r.inj r'
def Inv.iO(I:Inv X pins σ H s)(h:b8 X.K H a xs)(h':b8 X.K H a ys):xs=ys:=by
 obtain⟨its,r,⟨o,e,_,n,d⟩,_⟩:=I.tuple h;obtain⟨its',r',⟨o',e',_,n',d'⟩,_⟩:=I.tuple h';rw[e]at e';cases e';rw[d]at d';injection d' with d1 _
 have:its=its':=by simpa using AD Array.toList d1
 subst this;exact r.inj r'
end
abbrev Cx.gA(X:Cx)(E:Value->Shared->Prop):Cx:={ X with xe:=E }
abbrev Cx.mG(X:Cx):Cx:=X.gA λ_ _=>False
theorem Cx.Ok.gA{X:Cx}(ok:X.Ok)(E:Value->Shared->Prop):(X.gA E).Ok:=
 ⟨ok.mod,ok.kind,ok.glob,ok.blt,ok.above,ok.inj,ok.has,ok.qF,ok.hd,ok.frames,ok.stk,ok.xR,ok.bs,ok.mE,ok.lH,ok.lI,ok.fK,ok.oq⟩
def Cx.Ok.fC{X:Cx}{E:Value->Shared->Prop}(ok:(X.gA E).Ok):X.Ok:=
 ⟨ok.mod,ok.kind,ok.glob,ok.blt,ok.above,ok.inj,ok.has,ok.qF,ok.hd,ok.frames,ok.stk,ok.xR,ok.bs,ok.mE,ok.lH,ok.lI,ok.fK,ok.oq⟩
section
variable{X:Cx}{pins:List (Addr×Obj)}{σ:St}{H:Hp}{s:Shared}{E:Value->Shared->Prop}
theorem Inv.gA(I:Inv X pins σ H s)(E:Value->Shared->Prop):Inv (X.gA E) pins σ H s:=⟨I.ok.gA E,I.os,I.bare,I.base,I.loc,I.cell,I.free,I.fy,I.pin,I.hok,I.len⟩
theorem Inv.fC(I:Inv (X.gA E) pins σ H s):Inv X pins σ H s:=⟨I.ok.fC,I.os,I.bare,I.base,I.loc,I.cell,I.free,I.fy,I.pin,I.hok,I.len⟩
theorem SP.fC{D:Ends}{f:Flow}{s':Shared}(h:SP (X.gA E) pins D f s'):SP X pins D f s':=by
 cases f with
 |next=>obtain⟨σ',H',I,q⟩:=h;exact⟨σ',H',I.fC,q⟩
 |brk=>obtain⟨σ',H',I,q⟩:=h;exact⟨σ',H',I.fC,q⟩
 |cont=>obtain⟨σ',H',I,q⟩:=h;exact⟨σ',H',I.fC,q⟩
 |ret u=>obtain⟨v,σ',H',I,r,q⟩:=h;exact⟨v,σ',H',I.fC,r,q⟩
theorem fB.mG{st:List Stmt}{t:TS}(h:fB X.mG st t):fB X st t:=λpins s σ H D I hw=>
 Kn (h pins s σ H D (I.gA _) hw) (λ_ _ q=>q.fC) λ_ _ z=>False.elim z
end
section
variable{X:Cx}{st:Stmt}{rest:List Stmt}{t u:TS}{e:Expr}{te:TE}{pos:Pos}
noncomputable def Eb:TS:=λD σ H=>D.nx σ H
noncomputable def Hj(t u:TS):TS:=λD σ H=>t { D with nx:=u D } σ H
def yW:fB X [] Eb:=λ_ _ σ H _ I h=>wpAny_execs_nil ⟨σ,H,I,h⟩
def vI(h1:PS X st t)(h2:fB X rest u):fB X (st :: rest) (Hj t u):=by
 intro pins s σ H D I h;refine wpAny_execs_cons (aR (h1 pins s σ H { D with nx:=u D } I h) λf s1 q=>?_);cases f with
 |next=>
  obtain⟨σ',H',I',q⟩:=q;exact h2 pins s1 σ' H' D I' q
 |ret v=>exact q
 |brk=>exact q
 |cont=>exact q
noncomputable def Hl(te:TE):TS:=λD σ H=>te σ H D.rt
def AZ(he:PE X e te):PS X (.Return (some e) pos) (Hl te):=by
 intro pins s σ H D I h;exact wpAny_Return_some (aR (he pins s σ H _ I h) λv s1 ⟨x,H1,I1,r1,q1⟩=>⟨x,σ,H1,I1,r1,q1⟩)
noncomputable def Ho(c:TT)(t u:TS):TS:=λD σ H=>c σ H λb H1=>if b=true then t D σ H1 else u D σ H1
def Ec{c:Expr}{a b:List Stmt}{tc:TT}(hc:PT X c tc)(ha:fB X a t)(hb:fB X b u):PS X (.If c a b pos) (Ho tc t u):=by
 intro pins s σ H D I h;refine wpAny_If (aR (hc pins s σ H _ I h) λd s1 ⟨H1,I1,q1⟩=>?_);cases d with
 |true=>exact ha pins s1 σ H1 D I1 q1
 |false=>exact hb pins s1 σ H1 D I1 q1
noncomputable def A1:TS:=λ_ _ _=>False
def vJ:PS X st A1:=λ_ _ _ _ _ _ h=>h.elim
end
abbrev TG:=V->St->Hp->(St->Hp->Prop)->Prop
abbrev mH:=List V->St->Hp->(St->Hp->Prop)->Prop
noncomputable def PG(X:Cx)(target:Expr)(t:TG):Prop:=
 ∀(pins:List (Addr×Obj)) (s:Shared) (σ:St) (H:Hp) (v:V) (u:Value) (Q:St->Hp->Prop),Inv X pins σ H s->RelV v u->t v σ H Q->
  wpAny (model X.prog X.w) X.A (assign target X.env u) (λ_ s'=>∃σ' H',Inv X pins σ' H' s'/\Q σ' H') X.xe s
noncomputable def jA(X:Cx)(ts:List Expr)(t:mH):Prop:=
 ∀(pins:List (Addr×Obj)) (s:Shared) (σ:St) (H:Hp) (vs:List V) (us:List Value) (Q:St->Hp->Prop),Inv X pins σ H s->Vals vs us->t vs σ H Q->
  wpAny (model X.prog X.w) X.A (assignInOrder ((assignEach ts X.env).map (·.2)) us) (λ_ s'=>∃σ' H',Inv X pins σ' H' s'/\Q σ' H') X.xe s
section
variable{X:Cx}{pos:Pos}
noncomputable def xU(i:Nat):TG:=λv σ H Q=>Q (σ.set i (some v)) H
def qJ{i:Nat}{x:Str}(hN:X.N.Nodup)(hi:X.N[i]?=some x)(hx:Loc X.env.scope x)(hf:X.fn x=true\/X.env.scope.names.lookup x=some .local:=by first|exact .inl rfl|exact .inr rfl|assumption):PG X (.Name x pos) (xU i):=by
 intro pins s σ H v u Q I r h;exact wpAny_assign_Name (oB I hN hi hx r (λs' I'=>⟨_,H,I',h⟩) hf)
noncomputable def Hq:mH:=λvs σ H Q=>vs=[]/\Q σ H
noncomputable def Ed(t:TG)(u:mH):mH:=λvs σ H Q=>∃v r,vs=v :: r/\t v σ H λσ' H'=>u r σ' H' Q
def yX:jA X [] Hq:=by
 intro pins s σ H vs us Q I r h;obtain⟨e,h⟩:=h;subst e;cases r;exact assignInOrder_nil ⟨σ,H,I,h⟩
def vK{e:Expr}{es:List Expr}{t:TG}{u:mH}(h1:PG X e t)(h2:jA X es u)
  (hs:(assignEach (e :: es) X.env).map (·.2)=assign e X.env :: (assignEach es X.env).map (·.2):=by rfl):jA X (e :: es) (Ed t u):=by
 intro pins s σ H vs us Q I r h;obtain⟨v,vr,e1,h⟩:=h;subst e1;cases r with
 |cons r rr=>
  rw[hs];refine assignInOrder_cons (aR (h1 pins s σ H _ _ _ I r h) λ_ s1 ⟨σ1,H1,I1,q1⟩=>?_);exact h2 pins s1 σ1 H1 _ _ Q I1 rr q1
noncomputable def Hr(K:PySem.W.Frag)(n:Nat)(t:mH):TG:=λv σ H Q=>∃a xs,v=.ref a/\b8 K H a xs/\xs.length=n/\t xs σ H Q
def A2{es:List Expr}{k:Nat}{t:mH}{n:Nat}(hc:X.calm=true)(h:jA X es t)
  (hn:(assignEach es X.env).length=n:=by rfl) (hst:(assignEach es X.env).findIdx? (·.1)=none:=by rfl):PG X (.Tuple es k pos) (Hr X.K n t):=by
 intro pins s σ H v u Q I r hw;obtain⟨a,xs,e1,hq,hl,hw⟩:=hw;subst e1;cases r;obtain⟨its,rv,ht,hz⟩:=I.tuple hq;refine assign_Tuple_tuple (I.ok.hd hc) ht (by simp[hn,<-hl,rv.length]) hst λh' hx=>?_;have I1:Inv X pins σ H { s with heap:=h' }:=I.kept (t':=s.toks) λb o e=>hx b o (IB (mz e)) e;exact h pins _ σ H xs _ Q I1 (by simpa using rv) hw
noncomputable def Hs(te:TE)(g:TG):TS:=λD σ H=>te σ H λx H1=>g x σ H1 D.nx
def tY{i:Nat}{x:Str}{e:Expr}{te:TE}{pos':Pos}(hN:X.N.Nodup)(hi:X.N[i]?=some x)(hx:Loc X.env.scope x)(he:PE X e te)(hs:swapsWith e (some (.Name x pos')) pos.line X.env=pure false:=by rfl)(hf:X.fn x=true\/X.env.scope.names.lookup x=some .local:=by first|exact .inl rfl|exact .inr rfl|assumption) :
  PS X (.Assign [.Name x pos'] e pos) (Hs te (xU i)):=by
 intro pins s σ H D I h;refine wpAny_Assign_Name (aR (he pins s σ H _ I h) λv s1 ⟨y,H1,I1,r1,q1⟩=>?_) hs;exact oB I1 hN hi hx r1 (λs2 I2=>⟨_,H1,I2,q1⟩) hf
end
structure It where
 go:Nat->Hp->Prop
 xV:Nat->Hp->V->Hp->Prop
 stop:Nat->Hp->Prop
noncomputable def eS(X:Cx)(pins:List (Addr×Obj))(H:Hp)(b:Addr):Prop:=
 H b=none/\b≠X.env.locals/\b∉X.fs/\(b∈X.ex\/X.s₀.heap.objs.size<=b)/\(∀x c,X.env.cells.lookup x=some c->c≠b)/\∀p∈X.pn++pins,p.1≠b
def Inv.vL{X:Cx}{pins:List (Addr×Obj)}{σ:St}{H H':Hp}{s:Shared}{b:Addr}(I:Inv X pins σ H s)(hb:s.heap.objs.size<=b)(hn:H' b=none):eS X pins H' b:=by
 refine⟨hn,Nat.ne_of_gt (b7 I.lt hb),I.G9 hb,.inr (xE I.sz hb),λx c e z=>?_,λp hp z=>?_⟩
 .obtain⟨v,q⟩:=I.cell x c e;exact absurd (b7 q.lt (by rw[z];exact hb)) (K4 _)
 .exact absurd (b7 (mz (I.pin p hp).1) (by rw[z];exact hb)) (K4 _)
structure Turn(P:Program)(w:World)(K:PySem.W.Frag)(tg:Expr)(J:It)(fp:List Addr)(it:Addr)(tn:Nat->Heap->Prop):Prop where
 mem:it∈fp
 obj:∀i h,tn i h->∀b∈fp,∃o,h.get? b=some o/\∀v,o.data≠.cell v
 keep:∀i h h',tn i h->(∀b∈fp,∀o,h.get? b=some o->h'.get? b=some o)->tn i h'
 item:∀(X:Cx),X.prog=P->X.w=w->X.K=K->X.calm=true->∀(i:Nat) (pins:List (Addr×Obj)) (s:Shared) (σ:St) (H:Hp) (E:Value->Shared->Prop),Inv X pins σ H s->(∀b∈fp,eS X pins H b)->tn i s.heap->J.go i H->
  wpAny (model P w) X.A (pyNext (.ref it)) (λr s1=>∃u,r=some u/\
   wpAny (model P w) X.A (letOwnedTupleGo tg (.ref it) u) (λ_ s2=>∃x H',Inv X pins σ H' s2/\RelV x u/\J.xV i H x H'/\tn (i+1) s2.heap/\∀b∈fp,H' b=none) E s1) E s
 done:∀(X:Cx),X.prog=P->X.w=w->X.K=K->X.calm=true->∀(i:Nat) (pins:List (Addr×Obj)) (s:Shared) (σ:St) (H:Hp) (E:Value->Shared->Prop),Inv X pins σ H s->(∀b∈fp,eS X pins H b)->tn i s.heap->J.stop i H->
  wpAny (model P w) X.A (pyNext (.ref it)) (λr s1=>r=none/\Inv X pins σ H s1) E s
 self:∀(A:Around) (i:Nat) (s:Shared) (Q:Value->Shared->Prop) (E:Value->Shared->Prop),tn i s.heap->Q (.ref it) s->wpAny (model P w) A (pyIter (.ref it)) Q E s
abbrev TI:=St->Hp->(It->Hp->Prop)->Prop
noncomputable def Gg(X:Cx)(pins:List (Addr×Obj))(σ:St)(tg:Expr)(R:It->Hp->Prop)(itv:Value)(s2:Shared):Prop:=
 ∃(it:Addr) (fp:List Addr) (tn:Nat->Heap->Prop) (J:It) (H':Hp),itv=.ref it/\Inv X pins σ H' s2/\Turn X.prog X.w X.K tg J fp it tn/\tn 0 s2.heap/\(∀b∈fp,eS X pins H' b)/\R J H'
noncomputable def PI(X:Cx)(tg iter:Expr)(wi:TI):Prop:=
 ∀(pins:List (Addr×Obj)) (s:Shared) (σ:St) (H:Hp) (R:It->Hp->Prop),Inv X pins σ H s->wi σ H R->
  wpAny (model X.prog X.w) X.A (eval iter X.env) (λv s1=>wpAny (model X.prog X.w) X.A (pyIter v) (Gg X pins σ tg R) X.xe s1) X.xe s
def rW{M:Model}{A:Around}{E:Value->Shared->Prop}{s:Shared}{tg:Expr}{it:Addr}{u:Value}{o:Obj}{n:String}{vs:Array Value}{Q:Unit->Shared->Prop}(ho:s.heap.get? it=some o)(hc:o.cls=.type n)(hd:o.data=.fields vs)
    (hn:["enumerate","zip","dict_itemiterator","dict_reverseitemiterator","odict_iterator","itertools.zip_longest","itertools.pairwise"].contains n=false) (hQ:Q () s):wpAny M A (letOwnedTupleGo tg (.ref it) u) Q E s:=by
  unfold letOwnedTupleGo;cases tg<;>first
    |exact nv hQ
    | (cases u<;>first
        |exact nv hQ
        | (refine cF (wpAny_load ho ?_)
           rw[hc,hd];show wpAny M A (if (["enumerate","zip","dict_itemiterator","dict_reverseitemiterator","odict_iterator","itertools.zip_longest","itertools.pairwise"].contains n&&vs[0]?==some (rawInt _))=true then _ else _) Q E s;rw[yL (by intro h;rw[hn,Bool.false_and]at h;cases h)];exact nv hQ))
noncomputable def Gh(K:PySem.W.Frag)(a:Addr):It:=
 ⟨λi H=>∃xs x,cS K H a xs/\xs[i]?=some x,λi H x H'=>H'=H/\∀xs,cS K H a xs->xs[i]?=some x,λi H=>∃xs,cS K H a xs/\xs.length<=i⟩
noncomputable def Gi(K:PySem.W.Frag)(a:Addr):It:=
 ⟨λi H=>∃xs x,b8 K H a xs/\xs[i]?=some x,λi H x H'=>H'=H/\∀xs,b8 K H a xs->xs[i]?=some x,λi H=>∃xs,b8 K H a xs/\xs.length<=i⟩
noncomputable def tZ(lo:Int)(n:Nat):It:=⟨λi _=>i<n,λi H x H'=>H'=H/\x=.int (lo+i),λi _=>n<=i⟩
def t6{P:Program}{w:World}{K:PySem.W.Frag}{tg:Expr}(a it:Addr):Turn P w K tg (Gh K a) [it] it (λi h=>h.IsListIter it a i) where
 mem:=by simp
 obj:=λi h st b hb=>by
  have e:b=it:=by simpa using hb
  subst e;obtain⟨o,e,c,d⟩:=st;exact⟨o,e,λv z=>by rw[d]at z;cases z⟩
 keep:=λi h h' st k=>st.at λo e=>k it (by simp) o e
 item:=by
  intro X hP hw hK hc i pins s σ H E I hf st hg;subst hP hw hK;obtain⟨xs,x,hq,hx⟩:=hg;obtain⟨its,rv,p,hz⟩:=I.list hq;obtain⟨u,hu,ru⟩:=rv.get hx;obtain⟨f0,f1,f2,f3,f4,f5⟩:=hf it (by simp);refine wpAny_pyNext_list_item st p.isList (x:=u) (by simpa using hu) λh' st' sb=>?_;have I1:Inv X pins σ H { s with heap:=h' }:=I.turned (t':=s.toks) (λb o hb e=>(sb.2 b hb).trans e) f0 f1 f3 f4 f5;obtain⟨o,e,c,d⟩:=id st';exact⟨u,rfl,rW (s:={ s with heap:=h' }) e c d (by decide) ⟨x,H,I1,ru,⟨rfl,λys hy=>by rw[I.vH hy hq];exact hx⟩,st',λb hb=>(hf b hb).1⟩⟩
 done:=by
  intro X hP hw hK hc i pins s σ H E I hf st hg;subst hP hw hK;obtain⟨xs,hq,hx⟩:=hg;obtain⟨its,rv,p,hz⟩:=I.list hq;obtain⟨f0,f1,f2,f3,f4,f5⟩:=hf it (by simp);have hl:=rv.length;exact wpAny_pyNext_list_end (I.ok.hd hc) st p.isList (by simp;omega) λh' eb=>⟨rfl,I.turned (t':=s.toks) (λb o hb e=>eb b o hb e) f0 f1 f3 f4 f5⟩
 self:=λ_ _ _ _ _ st h=>wpAny_pyIter_listiter st h
def rX{P:Program}{w:World}{K:PySem.W.Frag}{tg:Expr}(a it:Addr):Turn P w K tg (Gi K a) [it] it (λi h=>h.IsTupleIter it a i) where
 mem:=by simp
 obj:=λi h st b hb=>by
  have e:b=it:=by simpa using hb
  subst e;obtain⟨o,e,c,d⟩:=st;exact⟨o,e,λv z=>by rw[d]at z;cases z⟩
 keep:=λi h h' st k=>st.at λo e=>k it (by simp) o e
 item:=by
  intro X hP hw hK hc i pins s σ H E I hf st hg;subst hP hw hK;obtain⟨xs,x,hq,hx⟩:=hg;obtain⟨its,rv,p,hz⟩:=I.tuple hq;obtain⟨u,hu,ru⟩:=rv.get hx;obtain⟨f0,f1,f2,f3,f4,f5⟩:=hf it (by simp);refine wpAny_pyNext_tuple_item st (show s.heap.IsTuple a its.toArray from p) (x:=u) (by simpa using hu) λh' st' sb=>?_;have I1:Inv X pins σ H { s with heap:=h' }:=I.turned (t':=s.toks) (λb o hb e=>(sb.2 b hb).trans e) f0 f1 f3 f4 f5;obtain⟨o,e,c,d⟩:=id st';exact⟨u,rfl,rW (s:={ s with heap:=h' }) e c d (by decide) ⟨x,H,I1,ru,⟨rfl,λys hy=>by rw[I.iO hy hq];exact hx⟩,st',λb hb=>(hf b hb).1⟩⟩
 done:=by
  intro X hP hw hK hc i pins s σ H E I hf st hg;subst hP hw hK;obtain⟨xs,hq,hx⟩:=hg;obtain⟨its,rv,p,hz⟩:=I.tuple hq;obtain⟨f0,f1,f2,f3,f4,f5⟩:=hf it (by simp);have hl:=rv.length;exact wpAny_pyNext_tuple_end (I.ok.hd hc) st (show s.heap.IsTuple a its.toArray from p) (by simp;omega) λh' eb=>⟨rfl,I.turned (t':=s.toks) (λb o hb e=>eb b o hb e) f0 f1 f3 f4 f5⟩
 self:=λ_ _ _ _ _ st h=>wpAny_pyIter_tupleiter st h
def rY{P:Program}{w:World}{K:PySem.W.Frag}{tg:Expr}(it:Addr)(lo:Int)(n:Nat):Turn P w K tg (tZ lo n) [it] it (λi h=>IsRangeIter h it (lo+(i:Nat)*1) ((n:Int) - (i:Nat)) 1) where
 mem:=by simp
 obj:=λi h st b hb=>by
  have e:b=it:=by simpa using hb
  subst e;exact⟨_,st,λv z=>by
   have z':Data.fields _=Data.cell v:=z;cases z'⟩
 keep:=λi h h' st k=>k it (by simp) _ st
 item:=by
  intro X hP hw hK hc i pins s σ H E I hf st hg;subst hP hw hK;obtain⟨f0,f1,f2,f3,f4,f5⟩:=hf it (by simp);have W:=Walks.range (prog:=X.prog) (w:=X.w) (I.ok.hd hc) it lo 1 n;refine W.item i s _ _ hg st λv h' tk hv st' kk=>?_;obtain⟨t,rfl⟩:=hv;have I1:Inv X pins σ H { s with heap:=h',toks:=tk }:=I.turned (λb o hb e=>kk b o (by simpa using hb) e) f0 f1 f3 f4 f5;refine⟨_,rfl,rW (s:={ s with heap:=h',toks:=tk }) (n:="range_iterator") st' rfl rfl (by decide) ⟨.int (lo+i),H,I1,⟨t,?_⟩,⟨rfl,rfl⟩,st',λb hb=>(hf b hb).1⟩⟩;rw[Int.mul_one]
 done:=by
  intro X hP hw hK hc i pins s σ H E I hf st hg;subst hP hw hK;obtain⟨f0,f1,f2,f3,f4,f5⟩:=hf it (by simp);exact wpAny_pyNext_range_end (I.ok.hd hc) st (by have:n<=i:=hg;omega) λh' eb=>⟨rfl,I.turned (t':=s.toks) (λb o hb e=>eb b o hb e) f0 f1 f3 f4 f5⟩
 self:=λ_ _ _ _ _ st h=>wpAny_pyIter_rangeiter st h
section
variable{X:Cx}{tg:Expr}
def oF{pins:List (Addr×Obj)}{σ:St}{H:Hp}{s:Shared}{R:It->Hp->Prop}{E:Value->Shared->Prop}{lo hi:Int}{t u v:Tok}{tk:Nat}(I:Inv X pins σ H s)(h1:-(2 ^ 62)<=lo)(h2:lo<2 ^ 62)(h3:-(2 ^ 62)<=hi)(h4:hi<2 ^ 62)
  (q:R (tZ lo (hi - lo).toNat) H):wpAny (model X.prog X.w) X.A (pyIter (.ref s.heap.objs.size)) (Gg X pins σ tg R) E { s with heap:=s.heap.push { cls:=.type "range",data:=.fields #[.int lo t,.int hi u,.int 1 v]},toks:=tk }:=by
 refine wpAny_pyIter_range (IsRange.new ..) (small_one h1 h2 h3 h4) ?_;have I1:Inv X pins σ H { s with heap:=s.heap.push { cls:=.type "range",data:=.fields #[.int lo t,.int hi u,.int 1 v]},toks:=tk }:=I.kept λb o e=>iB _ e;refine⟨(s.heap.push { cls:=.type "range",data:=.fields #[.int lo t,.int hi u,.int 1 v]}).objs.size,[(s.heap.push { cls:=.type "range",data:=.fields #[.int lo t,.int hi u,.int 1 v]}).objs.size],_,_,H,rfl,
  I1.kept (t':=tk) λb o e=>iB _ e,rY _ lo (hi - lo).toNat,?_,λb hb=>?_,q⟩
 .have e1:lo+((0:Nat):Int)*1=lo:=by simp
  have e2:(((hi - lo).toNat:Nat):Int) - ((0:Nat):Int)=Builtin.Range.rangeSize lo hi 1:=by rw[rangeSize_one];split<;>omega
  show IsRangeIter _ _ (lo+((0:Nat):Int)*1) ((((hi - lo).toNat:Nat):Int) - ((0:Nat):Int)) 1;rw[e1,e2];exact DJ _ rfl
 .have e:b=(s.heap.push { cls:=.type "range",data:=.fields #[.int lo t,.int hi u,.int 1 v]}).objs.size:=by simpa using hb
  subst e;exact I1.vL (gV _) (I1.hok.fresh (gV _))
noncomputable def Ef(ta:TA):TI:=λσ H R=>ta σ H λvs H1=>∃j:Int,vs=[.int j]/\-(2 ^ 62)<=j/\j<2 ^ 62/\R (tZ 0 j.toNat) H1
noncomputable def Eg(ta:TA):TI:=λσ H R=>ta σ H λvs H1=>∃i j:Int,vs=[.int i,.int j]/\(-(2 ^ 62)<=i/\i<2 ^ 62/\-(2 ^ 62)<=j/\j<2 ^ 62)/\R (tZ i (j - i).toNat) H1
def t7 {a:Expr}{ta:TA}{p pos:Pos}(hg:Gl X "range") (hm:X.mg "range" = none) (ha:PA X [a] ta) (hs:starEach [a] X.env=[(false,eval a X.env)]:=by rfl):PI X tg (.Call (.Name "range" p) [a] [] pos) (Ef ta):=by
 intro pins s σ H R I h;refine Call_ (iN I hg hm boot_range (Ln (aR (ha pos pins s σ H _ I h) λus s1 ⟨vs,H1,I1,r1,q1⟩=>?_) hs rfl));obtain⟨j,e,q1,q2,q⟩:=q1;subst e;cases r1 with
 |cons r rr=>
  cases rr;obtain⟨t,rfl⟩:=r;exact call_range_1 (oF I1 (by omega) (by omega) q1 q2 (by simpa using q))
def t8 {a b:Expr}{ta:TA}{p pos:Pos}(hg:Gl X "range") (hm:X.mg "range" = none) (ha:PA X [a,b] ta) (hs:starEach [a,b] X.env=[(false,eval a X.env),(false,eval b X.env)]:=by rfl) (hs2:starEach [b] X.env=[(false,eval b X.env)]:=by rfl) :
  PI X tg (.Call (.Name "range" p) [a,b] [] pos) (Eg ta):=by
 intro pins s σ H R I h;refine Call_ (iN I hg hm boot_range (Ln (aR (ha pos pins s σ H _ I h) λus s1 ⟨vs,H1,I1,r1,q1⟩=>?_) (by rw[hs,hs2]) (by rw[hs2];rfl)));obtain⟨i,j,e,⟨q1,q2,q3,q4⟩,q⟩:=q1;subst e;cases r1 with
 |cons r rr=>
  cases rr with
  |cons r' rr=>
   cases rr;obtain⟨t,rfl⟩:=r;obtain⟨t',rfl⟩:=r';exact call_range_2 (oF I1 q1 q2 q3 q4 q)
noncomputable def Ht(wi:TI)(g:TG)(tb:TS):TS:=λD σ H=>wi σ H λJ H1=>∃W:Nat->Nat->St->Hp->Prop,(∃m,W 0 m σ H1)/\∀i m σ H,W i m σ H->
 (J.stop i H/\D.nx σ H)\/(J.go i H/\∃N:St->Hp->Prop,(∀σ' H',N σ' H'->∃m',m'<m/\W (i+1) m' σ' H')/\∀x H',J.xV i H x H'->g x σ H' λσ2 H2=>tb { D with nx:=N,ct:=N,bk:=D.nx } σ2 H2)
noncomputable def iP(fp:List Addr)(h:Heap):List (Addr×Obj):=fp.filterMap λb=>(h.get? b).map λo=>(b,o)
def fV{fp:List Addr}{h:Heap}{b:Addr}{o:Obj}(hb:b∈fp)(e:h.get? b=some o):(b,o)∈iP fp h:=List.mem_filterMap.mpr ⟨b,hb,by rw[e];rfl⟩
def t9{fp:List Addr}{h:Heap}{p:Addr×Obj}(hp:p∈iP fp h):p.1∈fp/\h.get? p.1=some p.2:=by
 obtain⟨b,hb,e⟩:=List.mem_filterMap.mp hp;cases q:h.get? b with
 |none=>rw[q]at e;cases e
 |some o=>
  rw[q]at e;have e':(b,o)=p:=ny e;subst e';exact⟨hb,q⟩
def Inv.pinned{pins:List (Addr×Obj)}{σ:St}{H:Hp}{s:Shared}{fp:List Addr}(I:Inv X pins σ H s)(hf:∀b∈fp,eS X pins H b)(ho:∀b∈fp,∃o,s.heap.get? b=some o/\∀v,o.data≠.cell v):Inv X (pins++iP fp s.heap) σ H s:=
 I.qH λp hp=>(List.mem_append.mp hp).elim (λz=>I.pin p (DH _ z)) λz=>by
  obtain⟨hb,e⟩:=t9 z;obtain⟨f0,f1,f2,_⟩:=hf p.1 hb;obtain⟨o,e',d⟩:=ho p.1 hb;rw[e]at e';cases e';exact⟨e,f0,f1,f2,d⟩
def Inv.g8{pins pl:List (Addr×Obj)}{σ:St}{H:Hp}{s:Shared}(I:Inv X (pins++pl) σ H s):Inv X pins σ H s:=I.qH λp hp=>I.pin p (DH _ (MC _ hp))
def A3{iter:Expr}{body:List Stmt}{wi:TI}{g:TG}{tb:TS}{pos:Pos}(hp:PassesOwn (model X.prog X.w) X.A X.env X.xe)(hc:X.calm=true)(hi:PI X tg iter wi)(hg:PG X tg g)(hb:fB X body tb)
  (hs:∀x,foldedSetIterable iter X.env x=pure x:=by intro _;rfl):PS X (.For tg iter body [] pos) (Ht wi g tb):=by
 intro pins s σ H D I h;refine wpAny_For (aR (hi pins s σ H _ I h) λv s1 h1=>aR h1 λitv s2 h2=>?_) hs;obtain⟨it,fp,tn,J,H2,e,I2,T,st2,f2,W,⟨m0,w0⟩,turn⟩:=h2;subst e;have g9:∀{H':Hp},(∀b∈fp,H' b=none)->∀b∈fp,eS X pins H' b:=λhn b hb=>⟨hn b hb,(f2 b hb).2⟩
 refine codeAny_forLoop_any (λn s'=>∃i σ' H',Inv X pins σ' H' s'/\tn i s'.heap/\(∀b∈fp,H' b=none)/\W i n σ' H') ?_ m0 ⟨0,σ,H2,I2,st2,λb hb=>(f2 b hb).1,w0⟩;rintro n s3 ⟨i,σ3,H3,I3,st3,bE,w3⟩;rcases turn i n σ3 H3 w3 with ⟨stop,qn⟩|⟨go,N,hN,step⟩
 .refine Lp hp (aR (T.done X rfl rfl rfl hc i pins s3 σ3 H3 X.xe I3 (g9 bE) st3 stop) λr s4 ⟨hr,I4⟩=>?_);subst hr;exact wpAny_execs_nil ⟨σ3,H3,I4,qn⟩
 .refine Lp hp (aR (T.item X rfl rfl rfl hc i pins s3 σ3 H3 X.xe I3 (g9 bE) st3 go) λr s4 ⟨u,hr,h4⟩=>?_);subst hr;refine Lp hp (aR h4 λ_ s5 ⟨x,H5,I5,r5,y5,qK,mJ⟩=>?_);have Jj:=I5.pinned (g9 mJ) (T.obj _ _ qK);refine Lp hp (aR (hg _ s5 σ3 H5 x u _ Jj r5 (step x H5 y5)) λ_ s6 ⟨Jk,H6,I6,q6⟩=>?_);refine Lp hp (aR (hb _ s6 Jk H6 _ I6 q6) λf s7 q7=>?_);have again:∀{iQ:St} {H7:Hp},Inv X (pins++iP fp s5.heap) iQ H7 s7->N iQ H7->∃m,m<n/\∃i σ' H',Inv X pins σ' H' s7/\tn i s7.heap/\(∀b∈fp,H' b=none)/\W i m σ' H':=λ{iQ H7} I7 n7=>by
   obtain⟨m',hm,w7⟩:=hN iQ H7 n7;refine⟨m',hm,i+1,iQ,H7,I7.g8,T.keep _ _ _ qK λb hb o e=>(I7.pin (b,o) (DH _ (DH _ (fV hb e)))).1,λb hb=>?_,w7⟩;obtain⟨o,e,d⟩:=T.obj _ _ qK b hb;exact(I7.pin (b,o) (DH _ (DH _ (fV hb e)))).2.1
  cases f with
  |next=>obtain⟨iQ,H7,I7,n7⟩:=q7;exact again I7 n7
  |cont=>obtain⟨iQ,H7,I7,n7⟩:=q7;exact again I7 n7
  |brk=>obtain⟨iQ,H7,I7,q7⟩:=q7;exact⟨iQ,H7,I7.g8,q7⟩
  |ret v=>obtain⟨x7,iQ,H7,I7,r7,q7⟩:=q7;exact⟨x7,iQ,H7,I7.g8,r7,q7⟩
end
abbrev R2:=V->V->Hp->VK->Prop
noncomputable def bR(X:Cx)(f:Value->Value->Sem Value)(r:R2):Prop:=
 ∀(pins:List (Addr×Obj)) (s:Shared) (σ:St) (H:Hp) (x y:V) (v u:Value) (Q:VK),Inv X pins σ H s->RelV x v->RelV y u->r x y H Q->
  wpAny (model X.prog X.w) X.A (f v u) (EP X pins σ Q) X.xe s
noncomputable def dN(X:Cx)(f:Value)(r:List V->Hp->VK->Prop):Prop:=
 ∀(pins:List (Addr×Obj)) (s:Shared) (σ:St) (H:Hp) (xs:List V) (us:List Value) (Q:VK),Inv X pins σ H s->Vals xs us->r xs H Q->
  wpAny (model X.prog X.w) X.A (call f us) (EP X pins σ Q) X.xe s
noncomputable def Hu(X:Cx)(r:V->Hp->(Bool->Hp->Prop)->Prop):Prop:=
 ∀(pins:List (Addr×Obj)) (s:Shared) (σ:St) (H:Hp) (x:V) (v:Value) (Q:Bool->Hp->Prop),Inv X pins σ H s->RelV x v->r x H Q->
  wpAny (model X.prog X.w) X.A (truthy v) (TP X pins σ Q) X.xe s
noncomputable def ua(r:R2)(ta tb:TE):TE:=λσ H Q=>ta σ H λx H1=>tb σ H1 λy H2=>r x y H2 Q
noncomputable def rI(C:Int->Int->Prop)(g:Int->Int->V):R2:=λx y H Q=>∃i j,x=.int i/\y=.int j/\C i j/\Q (g i j) H
noncomputable def qL(g:Int->Int->V):R2:=λx y H Q=>∃i j,x=.int i/\y=.int j/\Q (g i j) H
section
variable{X:Cx}{a b:Expr}{ta tb:TE}{pos:Pos}
def rZ(ha:PE X a ta)(hb:PE X b tb){pins:List (Addr×Obj)}{s:Shared}{σ:St}{H:Hp}{R:V->V->Hp->Prop}(I:Inv X pins σ H s)
  (h:ta σ H λx H1=>tb σ H1 λy H2=>R x y H2) {Q:Value->Shared->Prop} {f:Value->Value->Sem Value}
  (hf:∀v u s2 x y H2,Inv X pins σ H2 s2->RelV x v->RelV y u->R x y H2->wpAny (model X.prog X.w) X.A (f v u) Q X.xe s2) :
  wpAny (model X.prog X.w) X.A (eval a X.env) (λv s₁=>wpAny (model X.prog X.w) X.A (eval b X.env) (λu s₂=>wpAny (model X.prog X.w) X.A (f v u) Q X.xe s₂) X.xe s₁) X.xe s:=by
 refine aR (ha pins s σ H _ I h) λv s1 ⟨x,H1,I1,r1,q1⟩=>?_;refine aR (hb pins s1 σ H1 _ I1 q1) λu s2 ⟨y,H2,I2,r2,q2⟩=>?_;exact hf v u s2 x y H2 I2 r1 r2 q2
def Eh{op:Operator}{r:R2}(ho:bR X (binaryOp op) r)(ha:PE X a ta)(hb:PE X b tb):PE X (.BinOp a op b pos) (ua r ta tb):=by
 intro pins s σ H Q I h;exact wpAny_BinOp (rZ ha hb I h λv u s2 x y H2 I2 rx ry q=>ho pins s2 σ H2 x y v u Q I2 rx ry q)
def A4{f:Value->Value->Sem Value}{C:Int->Int->Prop}{g:Int->Int->Int}
  (rule:∀(i j:Int) (t u:Tok) (s:Shared) (Q:Value->Shared->Prop) (E:Value->Shared->Prop),C i j->Q (.int (g i j) s.toks) { s with toks:=s.toks+1 }->wpAny (model X.prog X.w) X.A (f (.int i t) (.int j u)) Q E s) :
  bR X f (rI C λi j=>.int (g i j)):=by
 intro pins s σ H x y v u Q I rx ry h;obtain⟨i,j,rfl,rfl,hc,q⟩:=h;obtain⟨t,rfl⟩:=rx;obtain⟨t',rfl⟩:=ry;exact rule i j t t' s _ _ hc ⟨.int (g i j),H,I.tok _,⟨_,rfl⟩,q⟩
def Hv{f:Value->Value->Sem Value}{g:Int->Int->Int}
  (rule:∀(i j:Int) (t u:Tok) (s:Shared) (Q:Value->Shared->Prop) (E:Value->Shared->Prop),Q (.int (g i j) s.toks) { s with toks:=s.toks+1 }->wpAny (model X.prog X.w) X.A (f (.int i t) (.int j u)) Q E s) :
  bR X f (qL λi j=>.int (g i j)):=by
 intro pins s σ H x y v u Q I rx ry h;obtain⟨i,j,rfl,rfl,q⟩:=h;obtain⟨t,rfl⟩:=rx;obtain⟨t',rfl⟩:=ry;exact rule i j t t' s _ _ ⟨.int (g i j),H,I.tok _,⟨_,rfl⟩,q⟩
def A5{f:Value->Value->Sem Value}{g:Int->Int->Bool}
  (rule:∀(i j:Int) (t u:Tok) (s:Shared) (Q:Value->Shared->Prop) (E:Value->Shared->Prop),Q (.bool (g i j)) s->wpAny (model X.prog X.w) X.A (f (.int i t) (.int j u)) Q E s) :
  bR X f (qL λi j=>.bl (g i j)):=by
 intro pins s σ H x y v u Q I rx ry h;obtain⟨i,j,rfl,rfl,q⟩:=h;obtain⟨t,rfl⟩:=rx;obtain⟨t',rfl⟩:=ry;exact rule i j t t' s _ _ ⟨.bl (g i j),H,I,rfl,q⟩
noncomputable def Hw(i j:Int):Prop:=0<j/\j<1073741824
noncomputable def vM(i j:Int):Prop:=(-(2 ^ 64)<i/\i<2 ^ 64)\/(-(2 ^ 64)<j/\j<2 ^ 64)
def vM.ok{i j:Int}(h:vM i j):IntMulOk i j:=by
 rcases h with ⟨h1,h2⟩|⟨h1,h2⟩
 .exact .of_left (intBits_le_64 h1 h2)
 .exact .of_right (intBits_le_64 h1 h2)
def A6:bR X (binaryOp .Add) (qL λi j=>.int (i+j)):=Hv λ_ _ _ _ _ _ _ q=>add_int q
def A7:bR X (binaryOp .Mult) (rI vM λi j=>.int (i*j)):=A4 λ_ _ _ _ _ _ _ hc q=>mul_int q hc.ok
def yY:bR X (binaryOp .FloorDiv) (rI Hw λi j=>.int (i / j)):=A4 λi j _ _ _ _ _ hc q=>by
 have h1:(0:Int)<j:=hc.1;have h2:j<1073741824:=hc.2;exact floordiv_int (by omega) (by rw[Int.fdiv_eq_ediv_of_nonneg i (by omega)];exact q) (.inl (PyProof.noPylong_small (by omega)))
def A8:bR X (binaryOp .Mod) (rI (λ_ j=>0<j) λi j=>.int (i % j)):=A4 λi j _ _ _ _ _ hc q=>by
 have h1:(0:Int)<j:=hc;exact mod_int' (by omega) (by rw[Int.fmod_eq_emod_of_nonneg i (by omega)];exact q)
end
section
variable{X:Cx}{a b c:Expr}{ta tb tc:TE}{pos:Pos}
def Ei:bR X (compareOp .LtE) (qL λi j=>.bl (decide (i<=j))):=A5 λ_ _ _ _ _ _ _ q=>le_int q
def Ej:bR X (compareOp .Gt) (qL λi j=>.bl (decide (j<i))):=A5 λ_ _ _ _ _ _ _ q=>gt_int q
def kh(b:Expr){op:CmpOp}(h:op≠.In:=by decide)(h2:op≠.NotIn:=by decide):behindInMarks op b=false:=by
 have e1:(op==CmpOp.In)=false:=by cases op<;>first|rfl|exact absurd rfl h
 have e2:(op==CmpOp.NotIn)=false:=by cases op<;>first|rfl|exact absurd rfl h2
 cases b<;>simp[behindInMarks,e1,e2]
def yZ{op:CmpOp}{r:R2}(ho:bR X (compareOp op) r)(ha:PE X a ta)(hb:PE X b tb)(hm:behindInMarks op b=false):PE X (.Compare a [op] [b] pos) (ua r ta tb):=by
 intro pins s σ H Q I h;exact wpAny_Compare1 (rZ ha hb I h λv u s2 x y H2 I2 rx ry q=>ho pins s2 σ H2 x y v u Q I2 rx ry q) hm
noncomputable def r8(t:TE):TT:=λσ H Q=>t σ H λx H'=>∃k,x=.bl k/\Q k H'
def y9{op:CmpOp}{r:R2}(ho:bR X (compareOp op) r)(ha:PE X a ta)(hb:PE X b tb)(hm:behindInMarks op b=false):PT X (.Compare a [op] [b] pos) (r8 (ua r ta tb)):=by
 intro pins s σ H Q I h;refine Mv (aR (ha pins s σ H _ I h) λv s1 ⟨x,H1,I1,r1,q1⟩=>aR (hb pins s1 σ H1 _ I1 q1) λu s2 ⟨y,H2,I2,r2,q2⟩=>
  aR (ho pins s2 σ H2 x y v u _ I2 r1 r2 q2) λc s3 ⟨z,H3,I3,r3,k,e,q3⟩=>?_) hm
 subst e;cases r3;exact KY ⟨H3,I3,q3⟩
noncomputable def oG(r r':R2)(ta tb tc:TE):TE:=λσ H Q=>ta σ H λx H1=>tb σ H1 λy H2=>r x y H2 λz H3=>∃k,z=.bl k/\
 (if k=true then tc σ H3 λw' H4=>r' y w' H4 Q else Q (.bl false) H3)
def vN{op op':CmpOp}{r r':R2}(ho:bR X (compareOp op) r)(ho':bR X (compareOp op') r')(ha:PE X a ta)(hb:PE X b tb)(hc:PE X c tc)
  (hm:lastMarks [op,op'] [b,c]=false:=by with_unfolding_all rfl):PE X (.Compare a [op,op'] [b,c] pos) (oG r r' ta tb tc):=by
 intro pins s σ H Q I h;refine Compare_chain (aR (ha pins s σ H _ I h) λv s1 ⟨x,H1,I1,r1,q1⟩=>chain_link (aR (hb pins s1 σ H1 _ I1 q1) λu s2 ⟨y,H2,I2,r2,q2⟩=>
  aR (ho pins s2 σ H2 x y v u _ I2 r1 r2 q2) λd s3 ⟨z,H3,I3,r3,k,e,q3⟩=>?_)) hm
 subst e;cases r3;refine KY ?_;cases k with
 |false=>exact ite_ff ⟨.bl false,H3,I3,rfl,q3⟩
 |true=>exact ite_tt (chain_last (aR (hc pins s3 σ H3 _ I3 q3) λw' s4 ⟨z',H4,I4,r4,q4⟩=>ho' pins s4 σ H4 y z' u w' Q I4 r2 r4 q4))
def vO{op op':CmpOp}{r r':R2}(ho:bR X (compareOp op) r)(ho':bR X (compareOp op') r')(ha:PE X a ta)(hb:PE X b tb)(hc:PE X c tc)
  (hm:lastMarks [op,op'] [b,c]=false:=by with_unfolding_all rfl):PT X (.Compare a [op,op'] [b,c] pos) (r8 (oG r r' ta tb tc)):=by
 intro pins s σ H Q I h;refine isTrue_chain (aR (ha pins s σ H _ I h) λv s1 ⟨x,H1,I1,r1,q1⟩=>test_link (aR (hb pins s1 σ H1 _ I1 q1) λu s2 ⟨y,H2,I2,r2,q2⟩=>
  aR (ho pins s2 σ H2 x y v u _ I2 r1 r2 q2) λd s3 ⟨z,H3,I3,r3,k,e,q3⟩=>?_)) hm
 subst e;cases r3;refine KY ?_;cases k with
 |false=>
  obtain⟨k',e',q'⟩:=q3;cases e';exact ite_ff ⟨H3,I3,q'⟩
 |true=>
  refine ite_tt (test_last (aR (hc pins s3 σ H3 _ I3 q3) λw' s4 ⟨z',H4,I4,r4,q4⟩=>aR (ho' pins s4 σ H4 y z' u w' _ I4 r2 r4 q4) λd' s5 ⟨z2,H5,I5,r5,k2,e2,q5⟩=>?_));subst e2;cases r5;exact KY ⟨H5,I5,q5⟩
noncomputable def vP(K:PySem.W.Frag)(x:V)(H:Hp)(k:Bool):Prop:=
 match x with
 |.bg=>k=false
 |.bl b=>k=b
 |.int i=>k=(i != 0)
 |.str y=>y.length<=sizeLine/\k=((y.length:Int) != 0)
 |.tS y=>y.size<=sizeLine/\k=((y.size:Int) != 0)
 |.ref p=>(∃xs,cS K H p xs/\k = !xs.isEmpty)\/(∃xs,b8 K H p xs/\k = !xs.isEmpty)\/∃kvs,H p=some (.dK kvs)/\k = !kvs.isEmpty
 |_=>False
def sd{κ:Type}{kvs:List (κ×V)}{vs:List (κ×Value)}(r:KV kvs vs):(!vs.isEmpty) = !kvs.isEmpty:=by
 cases r<;>rfl
def ki{xs:List V}{its:List Value}(r:Vals xs its):(!its.toArray.isEmpty) = !xs.isEmpty:=by
 cases r<;>simp
def gP:(sizeLine:Nat)<2 ^ 63:=by rw[Li];decide
def A9:Hu X (λx H Q=>∃k,vP X.K x H k/\Q k H):=by
 intro pins s σ H x v Q I rx h;obtain⟨k,e,q⟩:=h;have hl:=gP;have hs:sizeLine=16777216:=Li;cases x with
 |bg=>
  cases rx;have e':k=false:=e;subst e';exact truthy_none ⟨H,I,q⟩
 |bl b=>
  cases rx;have e':k=b:=e;subst e';exact KY ⟨H,I,q⟩
 |int i=>
  obtain⟨t,rfl⟩:=rx;have e':k=(i != 0):=e;subst e';exact PySem.P.truthy_int ⟨H,I,q⟩
 |str y=>
  obtain⟨t,rfl⟩:=rx;obtain⟨hy,e'⟩:y.length<=sizeLine/\k=((y.length:Int) != 0):=e;subst e';exact PySem.P.truthy_str (by omega) ⟨H,I.tok _,q⟩
 |tS y=>
  obtain⟨t,rfl⟩:=rx;obtain⟨hy,e'⟩:y.size<=sizeLine/\k=((y.size:Int) != 0):=e;subst e';exact PySem.W.truthy_bytes (by omega) ⟨H,I.tok _,q⟩
 |ref p=>
  cases rx;have e':(∃xs,cS X.K H p xs/\k = !xs.isEmpty)\/(∃xs,b8 X.K H p xs/\k = !xs.isEmpty)\/∃kvs,H p=some (.dK kvs)/\k = !kvs.isEmpty:=e;rcases e' with ⟨xs,hx,e'⟩|⟨xs,hx,e'⟩|⟨kvs,hx,e'⟩
  .subst e';obtain⟨its,r,pl,hz⟩:=I.list hx;have hlen:=r.length;exact wpAny_truthy_list pl.isList (by simp only[cI];omega) ⟨H,I.tok _,by rw[ki r];exact q⟩
  .subst e';obtain⟨its,r,pl,hz⟩:=I.tuple hx;have hlen:=r.length;exact truthy_tuple pl (by simp only[cI];omega) ⟨H,I.tok _,by rw[ki r];exact q⟩
  .subst e';obtain⟨hz,hS,vs,r,m⟩:kvs.length<=sizeLine/\(p==sysModules)=false/\∃vs,KV kvs vs/\s.heap.DictOf (bW X.prog X.w) p vs:=I.hok p _ hx;have hlen:kvs.length=vs.length:=Paired.length r;exact wpAny_truthy_dict hS m (by omega) ⟨H,I.tok _,by rw[sd r];exact q⟩
 |_=>exact(show False from e).elim
def vQ(ha:PE X a ta)(he:∀whole,isTrue a X.env whole=(do let v <-whole;standAt a.pos;holding [v] (truthy v))) :
  PT X a (λσ H Q=>ta σ H λx H'=>∃k,vP X.K x H' k/\Q k H'):=by
 intro pins s σ H Q I h;exact isTrue_plain (aR (ha pins s σ H _ I h) λv s1 ⟨x,H1,I1,r1,q1⟩=>A9 pins s1 σ H1 x v Q I1 r1 q1) (he _)
def se:bR X (binaryOp .Add) (λx y H Q=>∃i j,x=.str i/\y=.str j/\i.length+j.length<=sizeLine/\Q (.str (i++j)) H):=by
 intro pins s σ H x y v u Q I rx ry h;obtain⟨i,j,rfl,rfl,hz,q⟩:=h;obtain⟨t,rfl⟩:=rx;obtain⟨t',rfl⟩:=ry;exact add_str (λt' tk=>⟨.str (i++j),H,I.tok _,⟨_,rfl⟩,q⟩) hz
def L8{x:V}{us:List Value}(r:Vals [x] us):∃u,us=[u]/\RelV x u:=by
 cases r with
 |cons r1 r2=>cases r2;exact⟨_,rfl,r1⟩
def vals2{x y:V}{us:List Value}(r:Vals [x,y] us):∃u w',us=[u,w']/\RelV x u/\RelV y w':=by
 cases r with
 |cons r1 r2=>
  cases r2 with
  |cons r3 r4=>cases r4;exact⟨_,_,rfl,r1,r3⟩
end
structure vR(h:Heap)(x dx C:Addr)(mA:Str->Option Value):Prop where
 obj:h.get? x=some (PySem.W.instObj C dx)
 ns:h.Ns1 dx mA
 ne:dx≠x
def uc{h:Heap}{dx:Addr}{mA:Str->Option Value}(n:h.Ns1 dx mA):∃od,h.get? dx=some od/\∀name,PySem.W.lookIn name od=some (mA name):=by
 obtain⟨o,es,ep,ho,hd,hk,_,hm⟩:=n;refine⟨o,ho,λname=>?_⟩;have e:=hm name;unfold nsFind findBy at e;rw[<-Array.find?_toList]at e;unfold PySem.W.lookIn;rw[hd];dsimp only;split
 .rename_i y q;rw[q]at e;exact AD some e
 .rename_i q;rw[q]at e;have a:es.toList.any (·.refKey)=false:=by
   rw[List.any_eq_false];intro y hy;obtain⟨z,t,hkey⟩:=hk y (Array.mem_toList_iff.mp hy);simp[DictEntry.refKey,hkey]
  have a':¬ es.toList.any (·.refKey)=true:=by rw[a];exact L1
  rw[yL a'];exact AD some e
def vR.look{h:Heap}{x dx C:Addr}{mA:Str->Option Value}(I:vR h x dx C mA):∃od,PySem.W.InstAt h x (PySem.W.instObj C dx) C (some od)/\∀name,PySem.W.lookIn name od=some (mA name):=
 let ⟨od,ho,hl⟩:=uc I.ns
 ⟨od,⟨I.obj,rfl,rfl,ho⟩,hl⟩
def gZ.some_of{v:V}{o:Option Value}(r:gZ (some v) o):∃u,o=some u/\RelV v u:=by
 cases o with
 |none=>exact(show False from r).elim
 |some u=>exact⟨u,rfl,r⟩
section
variable{P:Program}{w:World}{H:Hp}{h:Heap}{a C dx:Addr}{fs:List (Str×V)}
def za(hok:cJ P w H h)(e:H a=some (.ins C dx fs)):∃mA,vR h a dx C mA/\(∀f,gZ (fs.lookup f) (mA f))/\PySem.Within mA (fs.map (·.1))/\fs.length<=1000/\H dx=some (.own a):=by
 obtain⟨d,z,ne,ob,mA,n,r,q⟩:=(show bK P w H h a (.ins C dx fs)from hok a _ e)
 exact⟨mA,⟨ob,n,ne⟩,r,q,z,d⟩
end
structure Ba(K:PySem.W.Frag)(C:Addr):Prop where
 pg:PySem.W.plainGet K C Str.empty=true
 hd:PySem.W.hasDictIn K C=true
 po:PySem.W.plainOver K C=true
 sa:PySem.W.findIn K (.ref C) "__setattr__" = some (some (.builtin "object.__setattr__"))
def Ba.get{K:PySem.W.Frag}{C:Addr}(c:Ba K C)(f:Str):PySem.W.plainGet K C f=true:=c.pg
section
variable{X:Cx}{pins:List (Addr×Obj)}{σ:St}{H:Hp}{s:Shared}{A:Around}{E:Value->Shared->Prop}{Q:Value->Shared->Prop}{c:Value}{b:Bool}
inductive fL(K:PySem.W.Frag)(H:Hp):V->Value->Prop where
 |bg:fL K H .bg (.type "NoneType")
 |bl (x:Bool):fL K H (.bl x) (.type "bool")
 |int (i:Int):fL K H (.int i) (.type "int")
 |str (x:Str):fL K H (.str x) (.type "str")
 |qD (x:UInt64):fL K H (.qD x) (.type "float")
 |lst {a:Addr} {xs:List V} (e:H a=some (.lst xs)):fL K H (.ref a) (.type "list")
 |aW {a:Addr} {o:Obj} {xs:List V} (e:H a=some (.aW o (.lst xs))):fL K H (.ref a) (.type "list")
 |tup {a:Addr} {xs:List V} (e:H a=some (.tup xs)):fL K H (.ref a) (.type "tuple")
 |dK {a:Addr} {kvs:List (Key×V)} (e:H a=some (.dK kvs)):fL K H (.ref a) (.type "dict")
 |dT {a:Addr} {kvs:List (List Key×V)} (e:H a=some (.dT kvs)):fL K H (.ref a) (.type "dict")
 |ins {a C dx:Addr} {fs:List (Str×V)} (e:H a=some (.ins C dx fs)) (cl:Ba K C) (ha:PySem.W.findIn K (.ref C) "__class__" = some (some (.builtin "object.__class__")))
   (hn:PySem.W.specialIn K (.builtin "object.__class__") "__get__" = some (some (.builtin "getset_descriptor.__get__"))) (htk:PySem.W.takesIn K (.builtin "object.__class__")=some true)
   (hm:PySem.W.mroIn K C (.type "object")=some true):fL K H (.ref a) (.ref C)
def gr{x:V}{u t:Value}(I:Inv X pins σ H s)(rx:RelV x u)(ty:fL X.K H x t)(e:PySem.W.kitOne X.K t c=some b)(h:∀tk,Q (.bool b) { s with toks:=tk }) :
  wpAny (model X.prog X.w) A (call (.builtin "isinstance") [u,c]) Q E s:=by
 cases ty with
 |bg=>cases (show u=Value.none from rx);exact GO PySem.W.kitx_none I.dw True.intro e (λz=>nomatch z) h
 |bl y=>cases (show u=Value.bool y from rx);exact GO PySem.W.kitx_bool I.dw True.intro e (λz=>nomatch z) h
 |int i=>obtain⟨t,q⟩:=(show ∃t,u=Value.int i t from rx);cases q;exact GO PySem.W.kitx_int I.dw True.intro e (λz=>nomatch z) h
 |str y=>obtain⟨t,q⟩:=(show ∃t,u=Value.str y t from rx);cases q;exact GO PySem.W.kitx_str I.dw True.intro e (λz=>nomatch z) h
 |qD y=>obtain⟨t,q⟩:=(show ∃t,u=Value.float y t from rx);cases q;exact GO PySem.W.kitx_float I.dw True.intro e (λz=>nomatch z) h
 |@lst a xs ea=>
  cases (show u=Value.ref a from rx);obtain⟨_,_,n,_,h1⟩:=(show bK X.prog X.w H s.heap a (.lst xs)from I.hok a _ ea)
  exact GO L5 I.dw ⟨_,h1,rfl⟩ e (λz=>nomatch z) h
 |@aW a ob xs ea=>
  cases (show u=Value.ref a from rx);obtain⟨_,_,_,n,_,h1⟩:=(show bK X.prog X.w H s.heap a (.aW ob (.lst xs))from I.hok a _ ea)
  exact GO L5 I.dw ⟨_,h1,rfl⟩ e (λz=>nomatch z) h
 |@tup a xs ea=>
  cases (show u=Value.ref a from rx);obtain⟨_,_,_,p⟩:=(show bK X.prog X.w H s.heap a (.tup xs)from I.hok a _ ea)
  obtain⟨o,h1,h2,_⟩:=p;exact GO MN I.dw ⟨o,h1,h2⟩ e (λz=>nomatch z) h
 |@dK a kvs ea=>
  cases (show u=Value.ref a from rx);obtain⟨_,_,vs,_,p⟩:=(show bK X.prog X.w H s.heap a (.dK kvs)from I.hok a _ ea)
  obtain⟨o,es,ep,h1,h2,_⟩:=p;exact GO MS I.dw ⟨o,h1,h2.1⟩ e (λz=>nomatch z) h
 |@dT a kvs ea=>
  cases (show u=Value.ref a from rx);obtain⟨_,_,xs,_,o,es,ep,h1,h2,_⟩:=(show bK X.prog X.w H s.heap a (.dT kvs)from I.hok a _ ea)
  exact GO MS I.dw ⟨o,h1,h2.1⟩ e (λz=>nomatch z) h
 |@ins a C dx fs ea cl ha hn htk hm=>
  cases (show u=Value.ref a from rx);obtain⟨mA,O,_⟩:=za I.hok ea;obtain⟨od,J,_⟩:=O.look;exact GO (PySem.W.kitx_own (cl.get _) cl.hd ha hn htk hm) I.dw J e (λz=>nomatch z) h
end
structure cY(k:Nat)(A:Around):Prop where
 hd:A.handled=none
 dp:A.depth+3*k+5<recursionLimit
 un:A.units+16*k+200<cLine
theorem cY.deeper{k:Nat}{A:Around}(r:cY (k+1) A)(env:Env):cY k (A.deeper env):=
 ⟨r.hd,by have:=r.dp;show A.depth+1+3*k+5<_;omega,by have:=r.un;show A.units+3+16*k+200<_;omega⟩
theorem cY.depth{k:Nat}{A:Around}(r:cY k A):A.depth<recursionLimit:=by have:=r.dp;omega
theorem cY.units{k:Nat}{A:Around}(r:cY k A):A.units+64<cLine:=by have:=r.un;omega
noncomputable def Hx:TA:=λ_ H Q=>Q [] H
noncomputable def Ek(ta:TE)(tr:TA):TA:=λσ H Q=>ta σ H λx H1=>tr σ H1 λxs H2=>Q (x :: xs) H2
section
variable{X:Cx}{e:Expr}{es:List Expr}{te:TE}{t:TA}{pos:Pos}
def oH:PA X [] Hx:=λ_ _ _ _ H Q I h=>Calls.spliced_nil ⟨[],H,I,.nil,h⟩
def jl(ha:PE X e te)(hr:PA X es t)(hs:starEach (e :: es) X.env=(false,eval e X.env) :: starEach es X.env:=by rfl):PA X (e :: es) (Ek te t):=by
 intro pos pins s σ H Q I h;rw[hs];show wpAny _ _ (spliced ((false,eval e X.env) :: backTo pos (starEach es X.env))) _ _ s;refine Calls.spliced_cons (aR (ha pins s σ H _ I h) λu s1 ⟨x,H1,I1,r1,q1⟩=>?_);exact aR (hr pos pins s1 σ H1 _ I1 q1) λus s2 ⟨xs,H2,I2,r2,q2⟩=>⟨x :: xs,H2,I2,.cons r1 r2,q2⟩
noncomputable def Hy(t:TA):TE:=λσ H Q=>t σ H λxs H1=>xs.length<=sizeLine/\∀p,H1 p=none->Q (.ref p) (upd H1 p (.tup xs))
noncomputable def Hz(t:TA):TE:=λσ H Q=>t σ H λxs H1=>xs.length<=sizeLine/\∀p,H1 p=none->Q (.ref p) (upd H1 p (.lst xs))
def Bb{x1}(h:PA X es t):PE X (.Tuple es x1 pos) (Hy t):=by
 intro pins s σ H Q I hq;refine wpAny_Tuple_spliced (aR (h pos pins s σ H _ I hq) λus s1 ⟨xs,H1,I1,r,z,q⟩=>⟨by rw[<-r.length];exact z,?_⟩);have hf:H1 s1.heap.objs.size=none:=I1.hok.fresh (gV _);refine⟨.ref s1.heap.objs.size,upd H1 s1.heap.objs.size (.tup xs),I1.laid (t':=s1.toks) (λb u e=>iB _ e) (gV _) ?_,rfl,q _ hf⟩;exact⟨z,us,r,⟨_,DJ _ rfl,rfl,_,rfl⟩⟩
def Bc(h:PA X es t):PE X (.List es pos) (Hz t):=by
 intro pins s σ H Q I hq;refine wpAny_List_spliced (aR (h pos pins s σ H _ I hq) λus s1 ⟨xs,H1,I1,r,z,q⟩=>⟨by rw[<-r.length];exact z,?_⟩);have hf:H1 s1.heap.objs.size=none:=I1.hok.fresh (gV _);refine⟨.ref s1.heap.objs.size,upd H1 s1.heap.objs.size (.lst xs),I1.laid (t':=s1.toks) (λb u e=>iB _ e) (gV _) ?_,rfl,q _ hf⟩;exact⟨z,us,0,r,DJ _ rfl⟩
end
abbrev Sp:=List V->Hp->VK->XK->Prop
abbrev iD:=List Env->Hp->Shared->XK->Value->Shared->Prop
structure sf(P:Program)(w:World)(K:PySem.W.Frag)(mg:Str->Option Value)(base:Heap)(A:Around)(outer:List Env)(s:Shared)(H:Hp):Prop where
 frames:A.frames=some outer
 mod:Mod K mg base
 bs:∀b o,base.get? b=some o->s.heap.get? b=some o/\H b=none
 mE:base.objs.size<=s.heap.objs.size
 fK:s.heap.FunFrames base outer
 oq:∀b∈frs outer,H b=none
 hok:cJ P w H s.heap
 bare:AllBare s.gens
noncomputable def CE(outer:List Env)(P:Program)(w:World)(H:Hp)(s:Shared)(Q:VK)(u:Value)(s':Shared):Prop:=
 ∃v H',s'.os=s.os/\AllBare s'.gens/\Un (frs outer) [] H H' s.heap s'.heap/\cJ P w H' s'.heap/\RelV v u/\Q v H'
noncomputable def CR(CX:iD)(outer:List Env)(P:Program)(w:World)(H:Hp)(s:Shared)(Q:VK)(E:XK)(r:Result)(s':Shared):Prop:=
 match r with
 |.ok (.ret u)=>CE outer P w H s Q u s'
 |.ok _=>False
 |.error e=>CX outer H s E e s'
structure ff(P:Program)(w:World)(K:PySem.W.Frag)(mg:Str->Option Value)(base:Heap)(CX:iD)(k:Nat)(f:Addr)(fd:FuncData)(ps:List Str)(sp:Sp):Prop where
 len:∀vs H Q E,sp vs H Q E->vs.length=ps.length
 run:∀(A:Around) (outer:List Env) (s:Shared) (H:Hp) (args:Args) (us:List Value) (vs:List V) (Q:VK) (E:XK),cY k A->sf P w K mg base A outer s H->BindsTo s fd args (ps.zip us)->Vals vs us->sp vs H Q E->
  codeAny (model P w) A (.call (.ref f) args) (CR CX outer P w H s Q E) s
section
variable{X:Cx}{pins:List (Addr×Obj)}{σ:St}{H:Hp}{s s':Shared}
def Inv.HA(I:Inv X pins σ H s):sf X.prog X.w X.K X.mg X.base X.A X.stack s H:=
 ⟨I.ok.frames,I.ok.mod,I.bs,xE I.ok.mE I.sz,I.stack,I.qG,I.hok,I.bare⟩
def Inv.after{Q:VK}{u:Value}(I:Inv X pins σ H s)(h:CE X.stack X.prog X.w H s Q u s'):EP X pins σ Q u s':=by
 obtain⟨v,H',os,bare,un,hok,r,q⟩:=h;obtain⟨hh,g,d,t,os'⟩:=s';obtain rfl:os'=s.os:=os;exact⟨v,H',I.call (h':=hh) (g':=g) (d':=d) (t':=t) (ch:=[]) un hok bare (λb z=>absurd z (by simp)),r,q⟩
end
noncomputable def El(sp:Sp)(gh:List V)(E:XK)(t:TA):TE:=λσ H Q=>t σ H λvs H1=>sp (vs++gh) H1 Q E
noncomputable def Binds(K:PySem.W.Frag)(fd:FuncData)(ps:List Str)(ds:List Value):Prop:=
 ∀(s:Shared) (us:List Value),K.In s.heap->(us++ds).length=ps.length->BindsTo s fd ⟨us,[]⟩ (ps.zip (us++ds))
def Binds.all{K:PySem.W.Frag}{fd:FuncData}{ps:List Str}(h:∀us:List Value,us.length=ps.length->bindArgs fd ⟨us,[]⟩=pure (ps.zip us)):Binds K fd ps []:=λs us _ hl=>by
 rw[La]at hl ⊢;exact .of_eq (h us hl)
noncomputable def Passes(CX:iD)(X:Cx)(E:XK):Prop:=∀(pins:List (Addr×Obj)) (σ:St) (H:Hp) (s:Shared) (e:Value) (s':Shared),Inv X pins σ H s->CX X.stack H s E e s'->X.xe e s'
section
variable{X:Cx}{CX:iD}{k:Nat}{f:Addr}{fd:FuncData}{ps:List Str}{sp:Sp}{gh:List V}{ds:List Value}{E:XK}{x:Str}{p pos:Pos}{e:Expr}{es:List Expr}{t:TA}
def Bd{pins:List (Addr×Obj)}{σ:St}{H:Hp}{s:Shared}{Q:VK}{us:List Value}{vs:List V}(F:ff X.prog X.w X.K X.mg X.base CX k f fd ps sp)(hr:cY k X.A)(hb:Binds X.K fd ps ds)(hd:Vals gh ds)(hx:Passes CX X E)
  (I:Inv X pins σ H s) (r:Vals vs us) (h:sp (vs++gh) H Q E):wpAny (model X.prog X.w) X.A (call (.ref f) us) (EP X pins σ Q) X.xe s:=by
 have r2:Vals (vs++gh) (us++ds):=r.append hd;have hl:(us++ds).length=ps.length:=by rw[<-r2.length];exact F.len _ _ _ _ h
 refine wpAny_call (ML (F.run X.A X.stack s H ⟨us,[]⟩ (us++ds) (vs++gh) Q E hr I.HA (hb s us I.dw hl) r2 h) λr s' hq=>?_);cases r with
 |error e=>exact hx pins σ H s e s' I hq
 |ok fl=>
  cases fl with
  |ret u=>exact I.after hq
  |next=>exact False.elim hq
  |brk=>exact False.elim hq
  |cont=>exact False.elim hq
def zb(F:ff X.prog X.w X.K X.mg X.base CX k f fd ps sp)(hr:cY k X.A)(hg:Gl X x)(hm:X.mg x=some (.ref f))(hk:PySem.W.keepIn X.K (.ref f)=true)(hb:Binds X.K fd ps ds)(hd:Vals gh ds)(hx:Passes CX X E)
  (ha:PA X (e :: es) t) (hdb:(x==("__debug__" : Str))=false:=by decide) (he:starEach (e :: es) X.env=(false,eval e X.env) :: starEach es X.env:=by rfl) (hpl:(backTo pos (starEach es X.env)).any (·.1)=false:=by rfl) :
  PE X (.Call (.Name x p) (e :: es) [] pos) (El sp gh E t):=by
 intro pins s σ H Q I h;refine LY (qI I hg hm ?_ hdb);refine PySem.W.callWith_K (h₀:=X.base) I.ok.mod.xQ hk (aR (ha pos pins s σ H _ I h) λus s1 ⟨vs,H1,I1,r,q⟩=>⟨I1.dw,?_⟩) he hpl;exact Bd F hr hb hd hx I1 r q
end
structure bH(N P:List Str)(sc:Scope):Prop where
 kind:sc.kind=.function
 co:sc.isCoroutine=false
 gen:sc.isGenerator=false
 nd:N.Nodup
 pre:N.take P.length=P
 par:∀x∈P,sc.names.lookup x=some .local\/sc.names.lookup x=some .cell
 Be:∀y∈sc.names,y.2≠.free
theorem mK{kindOf:Str->Option NameKind}{x:Str}:∀{binds:List (Str×Value)}{m:Str->Option Value},(∀v,(x,v)∉binds)->bindL kindOf binds m x=m x
 |[],_,_=>rfl
 | (n,v) :: r,m,h=>by
  unfold bindL;rw[mK λw hw=>h w (AE _ hw)];split
  .have:x≠n:=by rintro rfl;exact h v Km
   simp[this]
  .rfl
theorem mL{kindOf:Str->Option NameKind}{x:Str}:∀{binds:List (Str×Value)}{m:Str->Option Value},(∀v,(x,v)∉binds)->bindC kindOf binds m x=m x
 |[],_,_=>rfl
 | (n,v) :: r,m,h=>by
  unfold bindC;rw[mL λw hw=>h w (AE _ hw)];split
  .rfl
  .have:x≠n:=by rintro rfl;exact h v Km
   simp[this]
theorem mP{kindOf:Str->Option NameKind}{x:Str}{v:Value}:∀{P:List Str}{vs:List Value}{i:Nat}{m:Str->Option Value},P.Nodup->P[i]?=some x->vs[i]?=some v->kindOf x=some .local->
  bindL kindOf (P.zip vs) m x=some v
 |[],_,_,_,_,h,_,_=>by simp at h
 |_ :: _,[],_,_,_,_,h,_=>by simp at h
 |p :: P,w :: vs,0,m,nd,h1,h2,hk=>by
  simp at h1 h2;subst h1;subst h2;show bindL kindOf ((p,w) :: P.zip vs) m p=_;unfold bindL;rw[mK λv hv=>(List.nodup_cons.mp nd).1 (Mn hv).1,eO hk];simp
 |p :: P,w :: vs,i+1,m,nd,h1,h2,hk=>by
  show bindL kindOf ((p,w) :: P.zip vs) m x=_;unfold bindL;exact mP (i:=i) (List.nodup_cons.mp nd).2 (by simpa using h1) (by simpa using h2) hk
theorem mQ{kindOf:Str->Option NameKind}{x:Str}{v:Value}:∀{P:List Str}{vs:List Value}{i:Nat}{m:Str->Option Value},P.Nodup->P[i]?=some x->vs[i]?=some v->kindOf x≠some .local->
  bindC kindOf (P.zip vs) m x=some v
 |[],_,_,_,_,h,_,_=>by simp at h
 |_ :: _,[],_,_,_,_,h,_=>by simp at h
 |p :: P,w :: vs,0,m,nd,h1,h2,hk=>by
  simp at h1 h2;subst h1;subst h2;show bindC kindOf ((p,w) :: P.zip vs) m p=_;unfold bindC;rw[mL λv hv=>(List.nodup_cons.mp nd).1 (Mn hv).1,yL hk];simp
 |p :: P,w :: vs,i+1,m,nd,h1,h2,hk=>by
  show bindC kindOf ((p,w) :: P.zip vs) m x=_;unfold bindC;exact mQ (i:=i) (List.nodup_cons.mp nd).2 (by simpa using h1) (by simpa using h2) hk
noncomputable def start(N:List Str)(vs:List V):St:=vs.map some++List.replicate (N.length - vs.length) none
noncomputable def jU(CX:iD)(P:Program)(w:World)(K:PySem.W.Frag)(mg:Str->Option Value)(base:Heap)(N:List Str)(qual:Str)(scope:Scope)(f:Addr)(cd:Value)(A:Around)(outer:List Env)(s:Shared)(H:Hp)(E:XK):Cx where
 prog:=P
 w:=w
 K:=K
 mg:=mg
 base:=base
 A:=A.deeper (envOfC qual scope s.heap.objs.size f cd)
 N:=N
 s₀:=s
 H₀:=H
 env:=envOfC qual scope s.heap.objs.size f cd
 outer:=outer
 stack:=envOfC qual scope s.heap.objs.size f cd :: outer
 ex:=[]
 calm:=true
 fn:=λ_=>true
 pn:=[]
 xe:=λe s'=>wpAny (model P w) (A.deeper (envOfC qual scope s.heap.objs.size f cd)) (leaving (envOfC qual scope s.heap.objs.size f cd) e) (λ_ s''=>CX outer H s E e s'') (λe' s''=>CX outer H s E e' s'') s'
def oJ{sc:Scope}{n:Nat}{x:Str}(h:sc.names.lookup x=some .cell):∃c,(cellsFrom n sc.names []).lookup x=some c:=by
 have q:=Mq sc.names n [] (.inl h);exact Option.isSome_iff_exists.mp q
def ud{CX:iD}{P:Program}{w:World}{K:PySem.W.Frag}{mg:Str->Option Value}{base:Heap}{N ps:List Str}{qual:Str}{scope:Scope}{f:Addr}{cd:Value}{A:Around}{outer:List Env}{s s1:Shared}{H:Hp}{E:XK}{us:List Value}{vs:List V}
  (S:bH N ps scope) (hd:A.handled=none) (e0:sf P w K mg base A outer s H) (hl:vs.length=ps.length) (r:Vals vs us)
  (x:InCallC s s.heap.objs.size (bindL (envOfC qual scope s.heap.objs.size f cd).kindOf (ps.zip us) λ_=>none) (cellsFrom (s.heap.objs.size+1) scope.names []) (bindC (envOfC qual scope s.heap.objs.size f cd).kindOf (ps.zip us) λ_=>none) s1) :
  Inv (jU CX P w K mg base N qual scope f cd A outer s H E) [] (start N vs) H s1:=by
 have hpl:ps.length<=N.length:=by have:=AD List.length S.pre;rw[Lo]at this;omega
 obtain⟨h1,tk,rfl,hk⟩:=x.done;have ue:∀b:Addr,b∉(jU CX P w K mg base N qual scope f cd A outer s H E).ex:=λb z=>absurd (show b∈([]:List Addr)from z) (by simp);refine⟨⟨e0.mod,S.kind,rfl,rfl,gV _,λy z c h1 h2=>?_,λy hy=>?_,λy c _ h=>?_,λ_=>hd,Around.frames_deeper e0.frames,.inr ⟨rfl,rfl⟩,λb z=>absurd z (ue b),e0.bs,e0.mE,λb _ _=>ue b,λb z=>absurd z (ue b),e0.fK,e0.oq⟩,
  rfl,e0.bare,Un.kept hk,⟨_,x.toInCall.ns,λi y v h1 h2 h3=>?_⟩,λy c h=>⟨_,x.cell y c h⟩,e0.hok.fresh (gV _),λy c h=>?_,λp hp=>absurd (show p∈([]:List (Addr×Obj))from hp) (by simp),e0.hok.kept hk,?_⟩
 .exact name_of_addr x.apart (Le h1) (Le h2)
 .have hy:scope.names.lookup y=some .cell\/scope.names.lookup y=some .free:=hy;rcases hy with hy|hy
  .exact oJ hy
  .exact absurd rfl (S.Be _ (Le hy))
 .exact MM (x.above y c (Le h))
 .have hi:i<vs.length:=by
   unfold start at h2;by_cases hi:i<vs.length
   .exact hi
   .rw[Lc (by simpa using hi)]at h2;rw[Ml]at h2;split at h2<;>cases h2
  have ha:vs[i]?=some v:=by
   unfold start at h2;rw[dJ (by simpa using hi),GP]at h2;cases e:vs[i]? with
   |none=>rw[e]at h2;cases h2
   |some a=>rw[e]at h2;cases h2;rfl
  obtain⟨u,hu,rv⟩:=r.get ha;have hp:ps[i]?=some y:=by
   rw[<-S.pre,List.getElem?_take_of_lt (by omega)];exact h1
  have Gj:ps.Nodup:=by rw[<-S.pre];exact S.nd.sublist (List.take_sublist _ _)
  refine⟨u,rv,?_⟩;rcases S.par y (IC hp)with k|k
  .exact .inl ⟨k,mP Gj hp hu k⟩
  .obtain⟨c,e⟩:=oJ (n:=s.heap.objs.size+1) k;refine .inr ⟨.inl k,c,e,?_⟩;have q:=x.cell y c e;rw[mQ Gj hp hu (by show scope.names.lookup y≠_;rw[k];decide)]at q;exact q
 .exact e0.hok.fresh (MM (x.above y c (Le h)))
 .unfold start;show _=N.length;rw[vt,Ka,List.length_replicate];omega
def Em{CX:iD}{P:Program}{w:World}{K:PySem.W.Frag}{mg:Str->Option Value}{base:Heap}{k:Nat}{f:Addr}{name qual:Str}{params:Arguments}{body:List Stmt}{scope:Scope}{dV kV doc pm cdv ct oc:Value}{an od:Option Addr}
  {osl:Array (Option Value)} {N ps:List Str} {sp:Sp} (lk:K.lookup f=some ⟨oc,od,.func (PySem.W.fnOf name qual params body scope dV kV doc pm an cdv ct),osl⟩) (hcd:PySem.W.codeIn K cdv qual=true) (S:bH N ps scope)
  (len:∀vs H Q E,sp vs H Q E->vs.length=ps.length)
  (hbody:∀(A:Around) (outer:List Env) (s:Shared) (H:Hp) (vs:List V) (Q:VK) (E:XK),cY k (A.deeper (envOfC qual scope s.heap.objs.size f cdv))->sp vs H Q E->
   ∃t,fB (jU CX P w K mg base N qual scope f cdv A outer s H E) body t/\t { nx:=λ_ H'=>Q .bg H',rt:=Q } (start N vs) H) :
  ff P w K mg base CX (k+1) f (PySem.W.fnOf name qual params body scope dV kV doc pm an cdv ct) ps sp:=by
 refine⟨len,λA outer s H args us vs Q E hr e0 hb r fD=>?_⟩;have hl:=len _ _ _ _ fD;have KX:K.In s.heap:=e0.mod.xQ.keeps λb o e=>(e0.bs b o e).1;have lim:s.heap.NoLimit:=e0.mod.nolimit.keeps λb o e=>(e0.bs b o e).1;have hkind:∀y∈ps.zip us,scope.names.lookup y.1=some .local\/(scope.names.lookup y.1=some .cell/\((cellsFrom (s.heap.objs.size+1) scope.names []).lookup y.1).isSome=true):=λ⟨n,v⟩ hy=>by
  rcases S.par n (Mn hy).1 with q|q
  .exact .inl q
  .exact .inr ⟨q,Mq _ _ _ (.inl q)⟩
 refine codeAny_call_function hr.depth (KX _ _ lk) rfl S.co S.gen rfl (PySem.W.codeRec_of KX hcd) (hb _ _ _ _ ?_);refine wpAny_newFunctionEnv_cells S.kind hkind λenv he s1 x=>?_;subst he;refine⟨lim.keeps x.toInCall.keep,codeAny_func ?_⟩;obtain⟨t,ht,hq⟩:=hbody A outer s H vs Q E (hr.deeper _) fD;have I:Inv (jU CX P w K mg base N qual scope f cdv A outer s H E) [] (start N vs) H s1:=ud S hr.hd e0 hl r x;refine Kn (ht [] s1 (start N vs) H _ I hq) (λfl s' hs=>?_) λe s' hs=>hs;have fin:∀{σ':St} {H':Hp} {v:V} {u:Value},Inv (jU CX P w K mg base N qual scope f cdv A outer s H E) [] σ' H' s'->RelV v u->Q v H'->CE outer P w H s Q u s':=
  λ{σ' H' v u} J rv q=>⟨v,H',J.os,J.bare,J.base,J.hok,rv,q⟩
 cases fl with
 |ret u=>
  obtain⟨v,σ',H',J,rv,q⟩:=hs;exact fin J rv q
 |next=>
  obtain⟨σ',H',J,q⟩:=hs;exact fin (v:=V.bg) (u:=Value.none) J rfl q
 |brk=>
  obtain⟨_,_,_,q⟩:=hs;exact False.elim q
 |cont=>
  obtain⟨_,_,_,q⟩:=hs;exact False.elim q
section
variable{X:Cx}{x:Str}{p pos:Pos}{e:Expr}{es:List Expr}{t:TA}{id T:String}{r:List V->Hp->VK->Prop}
noncomputable def Bf(r:List V->Hp->VK->Prop)(t:TA):TE:=λσ H Q=>t σ H λvs H1=>r vs H1 Q
def oK (hc:dN X (.builtin id) r) (hg:Gl X x) (hm:X.mg x=none) (hv:bootBuiltins x=some (.builtin id)) (ha:PA X (e :: es) t) (hn:x≠"__name__" :=by decide) (hdb:(x==("__debug__" : Str))=false:=by decide)
  (he:starEach (e :: es) X.env=(false,eval e X.env) :: starEach es X.env:=by rfl) (hpl:(backTo pos (starEach es X.env)).any (·.1)=false:=by rfl):PE X (.Call (.Name x p) (e :: es) [] pos) (Bf r t):=by
 intro pins s σ H Q I h;refine LY (iN I hg hm hv ?_ hn hdb);exact PyProof.Rows.callWith_builtin1 (aR (ha pos pins s σ H _ I h) λus s1 ⟨vs,H1,I1,r1,q1⟩=>hc pins s1 σ H1 vs us Q I1 r1 q1) he hpl
def mR (hc:dN X (.type T) r) (hg:Gl X x) (hm:X.mg x=none) (hv:bootBuiltins x=some (.type T)) (ha:PA X (e :: es) t) (hn:x≠"__name__" :=by decide) (hdb:(x==("__debug__" : Str))=false:=by decide)
  (he:starEach (e :: es) X.env=(false,eval e X.env) :: starEach es X.env:=by rfl) (hpl:(backTo pos (starEach es X.env)).any (·.1)=false:=by rfl):PE X (.Call (.Name x p) (e :: es) [] pos) (Bf r t):=by
 intro pins s σ H Q I h;refine LY (iN I hg hm hv ?_ hn hdb);exact Ln (aR (ha pos pins s σ H _ I h) λus s1 ⟨vs,H1,I1,r1,q1⟩=>hc pins s1 σ H1 vs us Q I1 r1 q1) he hpl
end
end L2
namespace HT
open PySem PyProof.Rows
section
variable{prog:Program}{w:World}{A:Around}{E:Value->Shared->Prop}{s:Shared}
def zc{t b:Addr}{vs ws:List Value}{Q:Value->Shared->Prop}(ht:IsTup s.heap t vs.toArray)(hb:IsTup s.heap b ws.toArray)(hv:vs≠[])
  (h1:ws=[]->Q (.ref t) s) (h2:ws≠[]->Q (.ref s.heap.objs.size) { s with heap:=s.heap.push { cls:=.type "tuple",data:=.seq (vs++ws).toArray }})
  (hsz:vs.length+ws.length<=sizeLine):wpAny (model prog w) A (binaryOp .Add (.ref t) (.ref b)) Q E s:=by
 obtain⟨⟨cls,dd,data,sl⟩,ho,hc,n,hd⟩:=id ht;obtain⟨⟨HB,dd2,data2,sl2⟩,ho2,hc2,n2,hd2⟩:=id hb;simp only at hc hd hc2 hd2;subst hc hd hc2 hd2;have e:vs.toArray++ws.toArray=(vs++ws).toArray:=by simp
 by_cases hw:ws=[]
 .exact MK ⟨_,ho,rfl⟩ ⟨_,ho2,rfl⟩ Mg MF LF Lz (Lv _ _)
   (tuple_addW1 t b vs.toArray ws.toArray n n2 dd dd2 sl sl2 (by simpa using hv) (by simp[hw])) ⟨ho,ho2,h1 hw⟩
 .refine MK ⟨_,ho,rfl⟩ ⟨_,ho2,rfl⟩ Mg MF LF Lz (Lv _ _)
   (tuple_addW2 t b vs.toArray ws.toArray n n2 dd dd2 sl sl2 (by simpa using hv) (by simpa using hw) (by rw[cI,cI];exact hsz)) ⟨ho,ho2,?_⟩
  rw[e];exact h2 hw
noncomputable def aC(n d:Nat):Option Int->Nat
 |none=>d
 |some v=>if v<0 then (v+(n:Int)).toNat else min v.toNat n
def oM(n d:Nat)(hd:d<=n)(o:Option Int):aC n d o<=n:=by
 cases o with
 |none=>exact hd
 |some v=>
  show(if v<0 then (v+(n:Int)).toNat else min v.toNat n)<=n;by_cases hv:v<0
  .rw[eO hv];omega
  .rw[yL hv];exact Nat.min_le_right _ _
def qM(v:Int)(n d:Nat):(if v<0 then max (v+(n:Int)) 0 else min v (n:Int))=((aC n d (some v):Nat):Int):=by
 show(if v<0 then max (v+(n:Int)) 0 else min v (n:Int))=(((if v<0 then (v+(n:Int)).toNat else min v.toNat n):Nat):Int)
 by_cases hv:v<0
 .simp only[eO hv];omega
 .simp only[yL hv];omega
def sj(lo hi:Option Int)(n:Nat):Builtin.Slice.sliceAdjust lo hi 1 (n:Int)=(((aC n 0 lo:Nat):Int),((aC n n hi:Nat):Int)):=by
 have h1:¬ ((1:Int)<0):=by omega
 unfold Builtin.Slice.sliceAdjust;simp only[h1,K0];refine Prod.ext ?_ ?_
 .cases lo with
  |none=>rfl
  |some v=>exact qM v n 0
 .cases hi with
  |none=>rfl
  |some v=>exact qM v n n
def sq(i j:Nat):Builtin.Slice.slicePlaces (i:Int) (j:Int) 1=j - i:=by
 unfold Builtin.Slice.slicePlaces;have h1:(1:Int) > 0:=by omega
 simp only[h1,D6,Int.ediv_one];split<;>omega
def kj{v:Value}{o:Option Int}{Q:Option Int->Shared->Prop}(p:IsPart v o)(h:Q o s):wpAny (model prog w) A (Builtin.Slice.slicePartIndex v) Q E s:=by
 cases p with
 |none=>exact slicePart_none h
 |int i t=>exact slicePart_int h
def gi{sl:Addr}{vl vu:Value}{lo hi:Option Int}{n:Nat}{Q:Int×Int×Nat->Shared->Prop}(hs:s.heap.IsSliceOf sl vl vu .none)(pl:IsPart vl lo)(pu:IsPart vu hi)
  (h:Q (((aC n 0 lo:Nat):Int),1,aC n n hi - aC n 0 lo) s):wpAny (model prog w) A (Builtin.Slice.sliceApplied (.ref sl) (pure (n:Int))) Q E s:=by
 obtain⟨os,hos,hcs,hds⟩:=id hs;unfold Builtin.Slice.sliceApplied Builtin.Slice.sliceFields;refine cF (cF (wpAny_field hos hds (x:=vl) rfl (cF (wpAny_field hos hds (x:=vu) rfl (cF (wpAny_field hos hds (x:=.none) rfl (nv ?_)))))));refine cF (slicePart_none ?_);show wpAny _ _ (if ((1:Int)==0)=true then _ else _) _ _ s;rw[yL (by decide)];refine cF (kj pl (cF (kj pu (cF (nv ?_)))));show wpAny _ _ (match Builtin.Slice.sliceAdjust lo hi 1 (n:Int)with | (lo,hi)=>pure (lo,(1:Int),Builtin.Slice.slicePlaces lo hi 1)) _ _ s;rw[sj lo hi n];show wpAny _ _ (pure (((aC n 0 lo:Nat):Int),(1:Int),Builtin.Slice.slicePlaces ((aC n 0 lo:Nat):Int) ((aC n n hi:Nat):Int) 1)) _ _ s;rw[sq];exact nv h
def vS(xs:Array Value)(i k:Nat):((List.range k).filterMap λ(m:Nat)=>xs[((i:Int)+(m:Int)*1).toNat]?).toArray=((xs.toList.drop i).take k).toArray:=by
 have e:(λ(m:Nat)=>xs[((i:Int)+(m:Int)*1).toNat]?)=λm=>xs[i+m]?:=by
  funext m
  have:((i:Int)+(m:Int)*1).toNat=i+m:=by omega
  rw[this]
 rw[e];have:=pick_run xs i k;rw[List.filterMap_map]at this;have e2:((λx=>xs[x]?) ∘ λx=>i+x)=λm=>xs[i+m]?:=rfl;rw[e2]at this;rw[this]
def jz{t sl:Addr}{items:Array Value}{vl vu:Value}{lo hi:Option Int}{Q:Value->Shared->Prop}(ht:IsTup s.heap t items)(hs:s.heap.IsSliceOf sl vl vu .none)(pl:IsPart vl lo)(pu:IsPart vu hi)
  (hw:¬ (aC items.size 0 lo=0/\aC items.size items.size hi=items.size))
  (h:Q (.ref s.heap.objs.size) { s with heap:=s.heap.push { cls:=.type "tuple",data:=.seq ((items.toList.drop (aC items.size 0 lo)).take (aC items.size items.size hi - aC items.size 0 lo)).toArray }})
  (hsz:items.size<=sizeLine):wpAny (model prog w) A (getItem (.ref t) (.ref sl)) Q E s:=by
 have nM:sizeOk (.seq ((items.toList.drop (aC items.size 0 lo)).take (aC items.size items.size hi - aC items.size 0 lo)).toArray):=by
  show((items.toList.drop (aC items.size 0 lo)).take (aC items.size items.size hi - aC items.size 0 lo)).toArray.size<=sizeLine;rw[cI,Lo,LG,LW];omega
 have hj:aC items.size items.size hi<=items.size:=oM _ _ (gV _) hi;obtain⟨os,hos,hcs,hds⟩:=id hs;have Bg:s.TypeIs (.ref sl) "slice" :=⟨os,hos,hcs⟩
 unfold getItem;try with_reducible refine wpAny_holding ?_
 first|refine cF (nv ?_)|skip
 refine cF (wpAny_sequenceKey ht.typeIs (by decide) ?_);refine cF (Mk (name:=Str.ofString "__getitem__") ht.typeIs KZ
  (wpAny_call_entry KZ ht.typeIs entry_tuple_getitem ?_ (args_tuple_getitem _ _)))
 show wpAny _ _ (Builtin.Tuple.tupleItemsOf (.ref t) >>= _) _ _ s;refine cF (tupleItemsOf_ ht ?_);refine cF (MJ Bg ?_);rw[eO (by decide)];refine cF (gi hs pl pu ?_);have hno:¬ ((((aC items.size 0 lo:Nat):Int)==0&&(1:Int)==1&&(aC items.size items.size hi - aC items.size 0 lo)==items.size)=true):=by
  intro q;rw[pW,pW]at q;have q1:((aC items.size 0 lo:Nat):Int)=0:=eq_of_beq q.1.1;have q2:aC items.size items.size hi - aC items.size 0 lo=items.size:=eq_of_beq q.2;exact hw ⟨by omega,by omega⟩
 show wpAny _ _ (if (((aC items.size 0 lo:Nat):Int)==0&&(1:Int)==1&&(aC items.size items.size hi - aC items.size 0 lo)==items.size)=true then _ else _) _ _ s;rw[yL hno,vS];first
  |exact cF (m:=Builtin.Tuple.tupleExact _) (Lk (nv ⟨_,rfl,nv h⟩) nM)
  |exact cF (m:=Builtin.Tuple.tupleExact _) (Lk (cF (nv (nv ⟨_,rfl,nv h⟩))) nM)
  |exact cF (cF (m:=Builtin.Tuple.tupleExact _) (Lk (nv (nv ⟨_,rfl,nv h⟩)) nM))
  |exact cF (cF (m:=Builtin.Tuple.tupleExact _) (Lk (nv ⟨_,rfl,nv h⟩) nM))
end
end HT
namespace L2
open PySem PySem.Spec PyProof.Rows
abbrev TO:=St->Hp->(Option Int->Hp->Prop)->Prop
noncomputable def PO(X:Cx)(e:Option Expr)(t:TO):Prop:=
 ∀(pins:List (Addr×Obj)) (s:Shared) (σ:St) (H:Hp) (Q:Option Int->Hp->Prop),Inv X pins σ H s->t σ H Q->
  wpAny (model X.prog X.w) X.A (evalPart e X.env) (λu s'=>∃o H',Inv X pins σ H' s'/\IsPart u o/\Q o H') X.xe s
noncomputable def zd:TO:=λ_ H Q=>Q none H
noncomputable def En(t:TE):TO:=λσ H Q=>t σ H λx H1=>∃i,x=.int i/\Q (some i) H1
section
variable{X:Cx}{e:Expr}{te:TE}{lo hi:Option Expr}{tl th:TO}{pos p2:Pos}
def ze:PO X none zd:=by
 intro pins s σ H Q I h;rw[evalPart_none];exact nv ⟨none,H,I,.none,h⟩
def zf(h:PE X e te):PO X (some e) (En te):=by
 intro pins s σ H Q I hw;rw[evalPart_some];refine aR (h pins s σ H _ I hw) λu s1 ⟨x,H1,I1,r1,q1⟩=>?_;obtain⟨i,rfl,q⟩:=q1;obtain⟨t,rfl⟩:=r1;exact⟨some i,H1,I1,.int i t,q⟩
noncomputable def gQ(X:Cx)(r:V->Option Int->Option Int->Hp->VK->Prop):Prop:=
 ∀(pins:List (Addr×Obj)) (s:Shared) (σ:St) (H:Hp) (x:V) (v vl vu:Value) (lo hi:Option Int) (sl:Addr) (Q:VK),Inv X pins σ H s->RelV x v->s.heap.IsSliceOf sl vl vu .none->IsPart vl lo->IsPart vu hi->r x lo hi H Q->
  ∃T id,typeLookup (.type T) "__getitem__" = pure (some (.builtin id))/\s.TypeIs v T/\wpAny (model X.prog X.w) X.A (getItem v (.ref sl)) (EP X pins σ Q) X.xe s
noncomputable def Jl(r:V->Option Int->Option Int->Hp->VK->Prop)(te:TE)(tl th:TO):TE:=λσ H Q=>te σ H λx H1=>tl σ H1 λl H2=>th σ H2 λu H3=>r x l u H3 Q
def vU{r:V->Option Int->Option Int->Hp->VK->Prop}(hr:gQ X r)(he:PE X e te)(hl:PO X lo tl)(hu:PO X hi th):PE X (.Subscript e (.Slice lo hi none p2) pos) (Jl r te tl th):=by
 intro pins s σ H Q I h;refine Subscript_ (aR (he pins s σ H _ I h) λv s1 ⟨x,H1,I1,r1,q1⟩=>?_);refine wpAny_Slice (aR (hl pins s1 σ H1 _ I1 q1) λvl s2 ⟨l,H2,I2,pl,q2⟩=>aR (hu pins s2 σ H2 _ I2 q2) λvu s3 ⟨u,H3,I3,pu,q3⟩=>?_);rw[evalPart_none];refine nv ?_;have I4:Inv X pins σ H3 { s3 with heap:=s3.heap.push { cls:=.type "slice",data:=.fields #[vl,vu,.none]}}:=I3.kept (t':=s3.toks) λb ob q=>iB _ q;obtain⟨T,id,hT,ht,hg⟩:=hr pins { s3 with heap:=s3.heap.push { cls:=.type "slice",data:=.fields #[vl,vu,.none]}} σ H3 x v vl vu l u s3.heap.objs.size Q I4 r1 (Heap.IsSliceOf.new ..) pl pu q3;show wpAny (model X.prog X.w) X.A (subscriptTail e (.Slice lo hi none p2) v (.ref s3.heap.objs.size)) (EP X pins σ Q) X.xe { s3 with heap:=s3.heap.push { cls:=.type "slice",data:=.fields #[vl,vu,.none]}};exact tail_any (ops:=[.ref s3.heap.objs.size,v]) ht hT hg (by with_unfolding_all rfl)
noncomputable def iR(xs:List V)(lo hi:Option Int):List V:=(xs.drop (HT.aC xs.length 0 lo)).take (HT.aC xs.length xs.length hi - HT.aC xs.length 0 lo)
def jB(xs:List V)(lo hi:Option Int):(iR xs lo hi).length<=xs.length:=by
 unfold iR;rw[Lo,LG];omega
noncomputable def HC(K:PySem.W.Frag):V->Option Int->Option Int->Hp->VK->Prop:=λx lo hi H Q=>∃a xs,x=.ref a/\b8 K H a xs/\
 ¬ (HT.aC xs.length 0 lo=0/\HT.aC xs.length xs.length hi=xs.length)/\∀p,H p=none->Q (.ref p) (upd H p (.tup (iR xs lo hi)))
def Bh:gQ X (HC X.K):=by
 intro pins s σ H x v vl vu lo hi sl Q I rx hs pl pu h;obtain⟨a,xs,rfl,hx,hw,q⟩:=h;cases rx;obtain⟨its,r,ht,hz⟩:=I.tuple hx;have hlen:its.toArray.size=xs.length:=by rw[cI];exact r.length.symm
 refine⟨"tuple",_,PyProof.Rows.slot_tuple_getitem.lookup,ht.typeIs,?_⟩;refine HT.jz ht hs pl pu (by rw[hlen];exact hw) ?_ (by rw[hlen];exact hz);rw[hlen];refine⟨.ref s.heap.objs.size,_,I.laid (t':=s.toks) (o:=.tup (iR xs lo hi)) (λb ob q=>iB _ q) (gV _) ?_,rfl,q _ (I.hok.fresh (gV _))⟩;exact⟨xE (jB xs lo hi) hz,_,(r.drop (HT.aC xs.length 0 lo)).take (HT.aC xs.length xs.length hi - HT.aC xs.length 0 lo),IsTup.new _ _⟩
noncomputable def Ep(K:PySem.W.Frag):R2:=λx y H Q=>∃a b xs ys,x=.ref a/\y=.ref b/\b8 K H a xs/\b8 K H b ys/\xs≠[]/\xs.length+ys.length<=sizeLine/\
 (ys=[]->Q (.ref a) H)/\(ys≠[]->∀p,H p=none->Q (.ref p) (upd H p (.tup (xs++ys))))
def Vals.lK{xs:List V}{us:List Value}(r:Vals xs us):us=[]↔xs=[]:=by
 cases r with
 |nil=>simp
 |cons _ _=>simp
def zg:bR X (binaryOp .Add) (Ep X.K):=by
 intro pins s σ H x y v u Q I rx ry h;obtain⟨a,b,xs,ys,rfl,rfl,ha,hb,hx,hz,q1,q2⟩:=h;cases rx;cases ry;obtain⟨its,r1,p1,_⟩:=I.tuple ha;obtain⟨its2,r2,p2,_⟩:=I.tuple hb;refine HT.zc p1 p2 (λz=>hx (r1.lK.mp z)) (λz=>⟨.ref a,H,I,rfl,q1 (r2.lK.mp z)⟩) (λz=>?_) (by rw[<-r1.length,<-r2.length];exact hz);refine⟨.ref s.heap.objs.size,_,I.laid (t':=s.toks) (o:=.tup (xs++ys)) (λb ob q=>iB _ q) (gV _) ?_,rfl,q2 (λw=>z (r2.lK.mpr w)) _ (I.hok.fresh (gV _))⟩;exact⟨by rw[vt];exact hz,_,r1.append r2,IsTup.new _ _⟩
end
noncomputable def cz(n:Nat)(i:Int):Option Nat:=if 0<=i then (if i<n then some i.toNat else none)else if -(n:Int)<=i then some (i+n).toNat else none
noncomputable def aX{α:Type}(xs:List α)(i:Int):Option α:=(cz xs.length i).bind λj=>xs[j]?
def zh{n:Nat}{i:Int}{j:Nat}(h:cz n i=some j):seqIndex? i n=some j/\j<n/\-(n:Int)<=i/\i<n:=by
 unfold cz at h;by_cases h0:0<=i
 .rw[eO h0]at h;by_cases h1:i<n
  .rw[eO h1]at h;have e:i.toNat=j:=ny h;exact⟨by rw[seqIndex_of h0 h1,e],by omega,by omega,h1⟩
  .rw[yL h1]at h;cases h
 .rw[yL h0]at h;by_cases h1:-(n:Int)<=i
  .rw[eO h1]at h;have e:(i+n).toNat=j:=ny h;exact⟨by rw[seqIndex_neg (by omega) h1,e],by omega,h1,by omega⟩
  .rw[yL h1]at h;cases h
def lM{α:Type}{xs:List α}{i:Int}{v:α}(h:aX xs i=some v):∃j,seqIndex? i xs.length=some j/\xs[j]?=some v/\j<xs.length/\-(xs.length:Int)<=i/\i<xs.length:=by
 unfold aX at h;cases e:cz xs.length i with
 |none=>rw[e]at h;cases h
 |some j=>
  rw[e]at h;obtain⟨h1,h2,h3,h4⟩:=zh e;exact⟨j,h1,h,h2,h3,h4⟩
noncomputable def lN(b:Expr):Prop:=∀o i,subscripted b false o i=operate [o,i] (getItem o i)
noncomputable def qN(X:Cx)(r:R2):Prop:=
 ∀(value slice:Expr) (pins:List (Addr×Obj)) (s:Shared) (σ:St) (H:Hp) (x y:V) (v u:Value) (Q:VK),Inv X pins σ H s->RelV x v->RelV y u->r x y H Q->
  subscripted slice false v u=operate [v,u] (getItem v u)->wpAny (model X.prog X.w) X.A (subscriptTail value slice v u) (EP X pins σ Q) X.xe s
noncomputable def oN(X:Cx)(id:String)(r:V->List V->Hp->VK->Prop):Prop:=
 ∀(pins:List (Addr×Obj)) (s:Shared) (σ:St) (H:Hp) (x:V) (xs:List V) (v:Value) (us:List Value) (Q:VK),Inv X pins σ H s->RelV x v->Vals xs us->r x xs H Q->
  wpAny (model X.prog X.w) X.A (call (.builtin id) (v :: us)) (EP X pins σ Q) X.xe s
section
variable{X:Cx}{a b:Expr}{ta tb:TE}{pos:Pos}
def Er{r:R2}(hr:qN X r)(ha:PE X a ta)(hb:PE X b tb)(hs:lN b):PE X (.Subscript a b pos) (ua r ta tb):=by
 intro pins s σ H Q I h;exact Subscript_ (rZ ha hb I h λv u s2 x y H2 I2 rx ry q=>hr a b pins s2 σ H2 x y v u Q I2 rx ry q (hs _ _))
noncomputable def HD(K:PySem.W.Frag):R2:=λx y H Q=>∃p xs i v,x=.ref p/\y=.int i/\cS K H p xs/\aX xs i=some v/\Q v H
noncomputable def HE(K:PySem.W.Frag):R2:=λx y H Q=>∃p xs i v,x=.ref p/\y=.int i/\b8 K H p xs/\aX xs i=some v/\Q v H
noncomputable def HF:R2:=λx y H Q=>∃z i c,x=.str z/\y=.int i/\z.length<=sizeLine/\aX z.cps.toList i=some c/\Q (.str ⟨#[c]⟩) H
def zj:qN X (HD X.K):=by
 intro value slice pins s σ H x y v u Q I rx ry h hs;obtain⟨p,xs,i,z,rfl,rfl,hq,he,q⟩:=h;cases rx;obtain⟨t,rfl⟩:=ry;obtain⟨its,r,pl,hz⟩:=I.list hq;obtain⟨j,h1,h2,h3,h4,h5⟩:=lM he;obtain⟨w,ew,rw'⟩:=r.get h2;have hl:=r.length;have hn:=gP;have fin:EP X pins σ Q w s:=⟨z,H,I,rw',q⟩
 by_cases h0:0<=i
 .have hj:i.toNat=j:=by
   rw[seqIndex_of h0 h5]at h1;exact ny h1
  exact item_listR pl.isList h0 (by omega) (by rw[hj];simpa using ew) fin hs
 .have hj:(i+(its.toArray.size:Int)).toNat=j:=by
   rw[seqIndex_neg (by omega) h4]at h1;rw[cI,<-hl];exact ny h1
  exact subscriptTail_builtinR (x:=w) pl.isList.typeIs slot_list_getitem.lookup
   (wpAny_getItem_list_neg (Q:=λr s'=>r=w/\EP X pins σ Q r s') pl.isList (by omega) (by rw[cI]<;>omega) (by omega) (by rw[hj];simpa using ew) ⟨rfl,fin⟩) hs
def Bj:qN X (HE X.K):=by
 intro value slice pins s σ H x y v u Q I rx ry h hs;obtain⟨p,xs,i,z,rfl,rfl,hq,he,q⟩:=h;cases rx;obtain⟨t,rfl⟩:=ry;obtain⟨its,r,pl,hz⟩:=I.tuple hq;obtain⟨j,h1,h2,h3,h4,h5⟩:=lM he;obtain⟨w,ew,rw'⟩:=r.get h2;have hl:=r.length;have hn:=gP;have fin:EP X pins σ Q w s:=⟨z,H,I,rw',q⟩
 exact subscriptTail_builtinR (x:=w) pl.typeIs slot_tuple_getitem.lookup
  (getItem_tuple (j:=j) (Q:=λr s'=>r=w/\EP X pins σ Q r s') pl (by omega) (by omega) (by rw[cI,<-hl];exact h1) (by simpa using ew) ⟨rfl,fin⟩) hs
def Bk:qN X HF:=by
 intro value slice pins s σ H x y v u Q I rx ry h hs;obtain⟨z,i,c,rfl,rfl,hz,he,q⟩:=h;obtain⟨t,rfl⟩:=rx;obtain⟨t',rfl⟩:=ry;obtain⟨j,h1,h2,h3,h4,h5⟩:=lM he;have hl:z.cps.toList.length=z.length:=by simp[Str.length]
 rw[hl]at h1 h4 h5;have hn:=gP;exact tail_any (LM s z t) slot_str_getitem.lookup (getItem_str (c:=c) (by
  have e1:decide (i < -(2 ^ 63:Int))=false:=yK (by omega);have e2:decide (i≥2 ^ 63)=false:=yK (by omega);rw[e1,e2,Bool.or_false]) (by rw[h1];simpa using h2) ⟨.str ⟨#[c]⟩,H,I.tok _,⟨_,rfl⟩,q⟩) hs
def oO(lo hi:Option Int)(n:Nat):(sliceBounds lo hi none n).1=((HT.aC n 0 lo:Nat):Int)/\(sliceBounds lo hi none n).2.1=((HT.aC n n hi:Nat):Int)/\(sliceBounds lo hi none n).2.2=1:=by
 refine⟨?_,?_,rfl⟩
 .cases lo with
  |none=>simp[sliceBounds,HT.aC]
  |some i=>
   simp only[sliceBounds,HT.aC,MY,show(1:Int) > 0 by decide,D6];by_cases h:i<0
   .simp only[h,D6]<;>omega
   .simp only[h,K0]<;>omega
 .cases hi with
  |none=>simp[sliceBounds,HT.aC]
  |some i=>
   simp only[sliceBounds,HT.aC,MY,show(1:Int) > 0 by decide,D6];by_cases h:i<0
   .simp only[h,D6]<;>omega
   .simp only[h,K0]<;>omega
def nA(its:List Value)(lo hi:Option Int):slicePick its.toArray lo hi none=((its.drop (HT.aC its.length 0 lo)).take (HT.aC its.length its.length hi - HT.aC its.length 0 lo)).toArray:=by
 obtain⟨h1,h2,h3⟩:=oO lo hi its.toArray.size;unfold slicePick;rw[h1,h2,h3];simp only[sliceRange_one,pick_run,cI]<;>rfl
noncomputable def HG(K:PySem.W.Frag):V->Option Int->Option Int->Hp->VK->Prop:=λx lo hi H Q=>∃a xs,x=.ref a/\cS K H a xs/\∀p,H p=none->Q (.ref p) (upd H p (.lst (iR xs lo hi)))
def zk:gQ X (HG X.K):=by
 intro pins s σ H x v vl vu lo hi sl Q I rx hs pl pu h;obtain⟨a,xs,rfl,hx,q⟩:=h;cases rx;obtain⟨its,r,ht,hz⟩:=I.list hx;have hlen:=r.length;refine⟨"list",_,slot_list_getitem.lookup,ht.isList.typeIs,?_⟩;refine wpAny_getItem_list_slice ht.isList hs pl pu .none (by simp) ?_ (by rw[cI]<;>omega);rw[nA,<-hlen];refine⟨.ref s.heap.objs.size,_,I.laid (t':=s.toks) (o:=.lst (iR xs lo hi)) (λb ob q=>iB _ q) (gV _) ?_,rfl,q _ (I.hok.fresh (gV _))⟩;exact⟨xE (jB xs lo hi) hz,_,0,(r.drop (HT.aC xs.length 0 lo)).take (HT.aC xs.length xs.length hi - HT.aC xs.length 0 lo),DJ _ rfl⟩
noncomputable def nN:V->Bool
 |.bg=>true
 |.bl _=>true
 |.int _=>true
 |.str _=>true
 |_=>false
def iS:dN X (.builtin "len") (λxs H Q=>∃p ys,xs=[.ref p]/\(cS X.K H p ys\/b8 X.K H p ys)/\Q (.int ys.length) H):=by
 intro pins s σ H xs us Q I r h;obtain⟨p,ys,rfl,hq,q⟩:=h;obtain⟨u,rfl,rx⟩:=L8 r;cases rx;have hn:=gP;rcases hq with hq|hq
 .obtain⟨its,r',pl,hz⟩:=I.list hq;have hlen:=r'.length;exact Calls.call_len_list pl.isList (by simp only[cI]<;>omega) ⟨.int ys.length,H,I.tok _,⟨s.toks+1,by rw[cI,hlen]⟩,q⟩
 .obtain⟨its,r',pl,hz⟩:=I.tuple hq;have hlen:=r'.length;exact len_tuple pl (by simp only[cI]<;>omega) ⟨.int ys.length,H,I.tok _,⟨s.toks+1,by rw[cI,hlen]⟩,q⟩
def oQ:dN X (.builtin "len") (λxs H Q=>∃z,xs=[.str z]/\z.length<=sizeLine/\Q (.int z.length) H):=by
 intro pins s σ H xs us Q I r h;obtain⟨z,rfl,hz,q⟩:=h;obtain⟨u,rfl,t,rfl⟩:=L8 r;have hn:=gP;exact len_str (by omega) ⟨.int z.length,H,I.tok _,⟨_,rfl⟩,q⟩
def iE:dN X (.type "tuple") (λxs H Q=>∃p ys,xs=[.ref p]/\((cS X.K H p ys/\∀l,H l=none->Q (.ref l) (upd H l (.tup ys)))\/(b8 X.K H p ys/\Q (.ref p) H))):=by
 intro pins s σ H xs us Q I r h;obtain⟨p,ys,rfl,h⟩:=h;obtain⟨u,rfl,rx⟩:=L8 r;cases rx;rcases h with ⟨hq,q⟩|⟨hq,q⟩
 .obtain⟨its,r',pl,hz⟩:=I.list hq;have hlen:=r'.length;refine call_tuple_list pl.isList (λh' kp=>?_) (by simp only[cI]<;>omega);have I1:Inv X pins σ H { s with heap:=h' }:=I.kept (t':=s.toks) kp;have I2:Inv X pins σ (upd H h'.objs.size (.tup ys)) { s with heap:=h'.push { cls:=.type "tuple",data:=.seq its.toArray }}:=
   I1.laid (t':=s.toks) (λb o e=>iB _ e) (gV _) (show bK X.prog X.w _ _ _ (.tup ys)from ⟨hz,its,r',IsTup.new _ _⟩)
  exact⟨.ref h'.objs.size,_,I2,rfl,q _ (I1.hok.fresh (gV _))⟩
 .obtain⟨its,r',pl,hz⟩:=I.tuple hq;exact call_tuple_same pl ⟨.ref p,H,I,rfl,q⟩
noncomputable def uf(K:PySem.W.Frag)(T:String)(x:V)(H:Hp):Prop:=match x with
 |.str _=>T = "str"
 |.int _=>T = "int"
 |.ref p=>(T = "list" /\∃xs,cS K H p xs)\/(T = "tuple" /\∃o,K.lookup p=some o/\o.cls=.type "tuple" /\o.dict=none)\/
   (T = "dict" /\((∃kvs,H p=some (.dK kvs))\/∃kvs,H p=some (.dT kvs)))\/(T = "set" /\∃S n,H p=some (.set S n))
 |_=>False
def ug{pins:List (Addr×Obj)}{σ:St}{H:Hp}{s:Shared}{T:String}{x:V}{v:Value}(I:Inv X pins σ H s)(r:RelV x v)(ty:uf X.K T x H) :
  s.TypeIs v T/\∀a,v=.ref a->∃ob,s.heap.get? a=some ob/\ob.dict=none:=by
 cases x with
 |str z=>
  obtain⟨t,rfl⟩:=r;cases (show T = "str" from ty);exact⟨LM s z t,λ_ e=>nomatch e⟩
 |int i=>
  obtain⟨t,rfl⟩:=r;cases (show T = "int" from ty);exact⟨Ma s i t,λ_ e=>nomatch e⟩
 |ref p=>
  cases r;rcases ty with ⟨rfl,xs,hq⟩|⟨rfl,o,hk,hc,hd⟩|⟨rfl,hk⟩|⟨rfl,S,n,hk⟩
  .obtain⟨its,_,pl,_⟩:=I.list hq;refine⟨pl.isList.typeIs,λa e=>?_⟩;cases e;obtain⟨o,n,e,c,hd,_⟩:=pl;exact⟨o,e,hd⟩
  .refine⟨⟨o,I.dw p o hk,hc⟩,λa e=>?_⟩;cases e;exact⟨o,I.dw _ o hk,hd⟩
  .have z:∃o,s.heap.get? p=some o/\o.ExactDict:=by
    rcases hk with ⟨kvs,hk⟩|⟨kvs,hk⟩
    .obtain⟨_,_,_,_,o,_,_,e,ex,_⟩:=I.hok p _ hk;exact⟨o,e,ex⟩
    .obtain⟨_,_,_,_,o,_,_,e,ex,_⟩:=I.hok p _ hk;exact⟨o,e,ex⟩
   obtain⟨o,e,ex⟩:=z;refine⟨⟨o,e,ex.1⟩,λa e2=>?_⟩;cases e2;exact⟨o,e,ex.2.1⟩
  .obtain⟨o,_,_,_,e,ex,_⟩:=I.hok p _ hk;refine⟨⟨o,e,ex.1⟩,λa e2=>?_⟩;cases e2;exact⟨o,e,ex.2.1⟩
 |_=>exact False.elim ty
noncomputable def HH(K:PySem.W.Frag)(T:String)(r:V->List V->Hp->VK->Prop)(to:TE):TE:=λσ H Q=>to σ H λx H1=>uf K T x H1/\r x [] H1 Q
noncomputable def Jm(K:PySem.W.Frag)(T:String)(r:V->List V->Hp->VK->Prop)(to:TE)(t:TA):TE:=λσ H Q=>to σ H λx H1=>uf K T x H1/\t σ H1 λxs H2=>r x xs H2 Q
variable{o e:Expr}{es:List Expr}{to:TE}{t:TA}{name:Str}{apos cpos:Pos}{T id:String}{r:V->List V->Hp->VK->Prop}
def Bl (pa:PlainAttrs T) (slot:Slot T name id) (hty:typeOf (.builtin id)=pure (.type "method_descriptor")) (hm:oN X id r) (ho:PE X o to)
  (hbase:attributeBase o name X.env (eval o X.env)=eval o X.env:=by rfl) (hline:(apos.endLine==cpos.line)=true:=by rfl):PE X (.Call (.Attribute o name apos) [] [] cpos) (HH X.K T r to):=by
 intro pins s σ H Q I h;refine wpAny_Call_method0_late hbase hline (aR (ho pins s σ H _ I h) λv s1 ⟨x,H1,I1,r1,ty,q1⟩=>?_);obtain⟨h1,h2⟩:=ug I1 r1 ty;exact⟨T,id,pa,slot,hty,h1,h2,Mt rfl (PySem.evalArgs_none (hm pins s1 σ H1 x [] v [] Q I1 r1 .nil q1))⟩
def xW (pa:PlainAttrs T) (slot:Slot T name id) (hty:typeOf (.builtin id)=pure (.type "method_descriptor")) (hm:oN X id r) (ho:PE X o to) (ha:PA X (e :: es) t)
  (hbase:attributeBase o name X.env (eval o X.env)=eval o X.env:=by rfl)
  (hfew:((backTo cpos (starEach (e :: es) X.env)).all (λx=>!x.1)&&(backToKw cpos (keywordEach [] X.env)).all (λx=>x.1.isSome)
   &&decide ((e :: es).length+([]:List Keyword).length+(if ([]:List Keyword).isEmpty then 0 else 1)<30))=true:=by rfl)
  (hline:(apos.endLine==cpos.line)=true:=by rfl) (hs:starEach (e :: es) X.env=(false,eval e X.env) :: starEach es X.env:=by rfl) (hplain:(backTo cpos (starEach es X.env)).any (·.1)=false:=by rfl) :
  PE X (.Call (.Attribute o name apos) (e :: es) [] cpos) (Jm X.K T r to t):=by
 intro pins s σ H Q I h;refine wpAny_Call_method_late hbase hfew hline rfl (aR (ho pins s σ H _ I h) λv s1 ⟨x,H1,I1,r1,ty,q1⟩=>?_);obtain⟨h1,h2⟩:=ug I1 r1 ty;refine⟨T,id,pa,slot,hty,h1,h2,?_⟩;have hA:=ha cpos pins s1 σ H1 _ I1 q1;rw[hs]at hA ⊢;refine Mt (by show(false || (backTo cpos (starEach es X.env)).any (·.1))=false;rw[hplain]<;>rfl) (Calls.evalArgs_plain ?_);exact aR hA λus s2 ⟨vs,H2,I2,r2,q2⟩=>hm pins s2 σ H2 x vs v us Q I2 r1 r2 q2
end
noncomputable def Gk(X:Cx)(id:String)(r:V->List V->Hp->VK->Prop):Prop:=
 ∀(pins:List (Addr×Obj)) (s:Shared) (σ:St) (H:Hp) (x:V) (xs:List V) (v:Value) (us:List Value) (Q:VK),Inv X pins σ H s->RelV x v->Vals xs us->r x xs H Q->
  wpAny (model X.prog X.w) X.A (call (.builtin id) (v :: us)) (EP X pins σ Q) X.xe s
def Vals.one:∀{x:V}{us:List Value},Vals [x] us->∃u,us=[u]/\RelV x u
 |_,_,.cons r .nil=>⟨_,rfl,r⟩
def Vals.zero:∀{us:List Value},Vals [] us->us=[]
 |_,.nil=>rfl
theorem Vals.dropLast{xs:List V}{us:List Value}(h:Vals xs us):Vals xs.dropLast us.dropLast:=by
 induction h with
 |nil=>exact .nil
 |cons r t ih=>
  cases t with
  |nil=>exact .nil
  |cons q t'=>exact .cons r ih
theorem Vals.rep{xs:List V}{us:List Value}(h:Vals xs us):∀k:Nat,Vals (List.replicate k xs).flatten (List.replicate k us).flatten
 |0=>.nil
 |k+1=>by
  rw[DI,DI,Je,Je];exact Vals.append h (Vals.rep h k)
def su{α:Type}(l:List α):l.eraseIdx (l.length - 1)=l.dropLast:=by
 induction l with
 |nil=>rfl
 |cons a r ih=>
  cases r with
  |nil=>rfl
  |cons b r=>
   have e:(a :: b :: r).length - 1=((b :: r).length - 1)+1:=by
    have h1:(a :: b :: r).length=r.length+2:=rfl;have h2:(b :: r).length=r.length+1:=rfl;omega
   rw[e,List.eraseIdx_cons_succ,ih];all_goals rfl
theorem foldl_rep(its:List Value):∀(k:Nat) (acc:List Value),
  List.foldl (λx1 x2=>x1++x2) acc.toArray (List.replicate k its.toArray)=(acc++(List.replicate k its).flatten).toArray
 |0,acc=>by simp
 |k+1,acc=>by
  have e:acc.toArray++its.toArray=(acc++its).toArray:=by simp
  have e2:(acc++its)++(List.replicate k its).flatten=acc++(List.replicate (k+1) its).flatten:=by
   rw[DI,Je,LA]
  rw[<-e2,<-foldl_rep its k (acc++its),<-e,DI,Mp]
section
variable{X:Cx}{pins:List (Addr×Obj)}{σ:St}{H:Hp}{s:Shared}{l:Addr}{xs ys:List V}
def Inv.Bm{its its':List Value}{n:Nat}{f:Array Value->Array Value}{t':Nat}(I:Inv X pins σ H s)(hH:H l=some (.lst xs))
  (e:s.heap.get? l=some { cls:=.type "list",data:=.seq its.toArray n }) (hf:f its.toArray=its'.toArray) (hv:Vals ys its') (hz:ys.length<=sizeLine) :
  Inv X pins σ (upd H l (.lst ys)) { s with heap:=s.heap.update l (Obj.mapSeq f),toks:=t' }:=by
 have q:=PySem.IsL.update e f;rw[hf]at q;refine I.write (x:=l) (e:=l) (by rw[hH];exact trivial) (.inl rfl) (λb' u hb hu=>(Heap.get?_update_other s.heap (Obj.mapSeq f) (Mu hb)).trans hu) ⟨_,q⟩ ?_;exact⟨hz,its',_,hv,q⟩
def Inv.vV{its:List Value}{t':Nat}(I:Inv X pins σ H s)(hv:Vals ys its)(hz:ys.length<=sizeLine) :
  Inv X pins σ (upd H s.heap.objs.size (.lst ys)) { s with heap:=s.heap.push { cls:=.type "list",data:=.seq its.toArray },toks:=t' }:=
 I.laid (λ_ _ q=>iB _ q) (gV _) ⟨hz,its,0,hv,DJ _ rfl⟩
theorem Inv.fresh(I:Inv X pins σ H s):H s.heap.objs.size=none:=I.hok.fresh (gV _)
def Inv.oR (I:Inv X pins σ H s) (hH:H l=some (.lst xs)):xs.length<=sizeLine/\∃(its:List Value) (n:Nat),Vals xs its/\xs.length=its.length/\s.heap.get? l=some { cls:=.type "list",data:=.seq its.toArray n }:=by
 obtain⟨z,its,n,r,e⟩:=I.hok l _ hH;exact⟨z,its,n,r,r.length,e⟩
def vW{n:Nat}(h:n<=sizeLine):Builtin.List.listTooLong n=false:=by
 unfold Builtin.List.listTooLong;exact yK (by omega)
end
section
variable{X:Cx}
noncomputable def zl:V->List V->Hp->VK->Prop:=λx vs H Q=>∃l xs y,x=.ref l/\vs=[y]/\H l=some (.lst xs)/\xs.length<sizeLine/\Q .bg (upd H l (.lst (xs++[y])))
def uh:Gk X "list.append" zl:=by
 intro pins s σ H x vs v us Q I rx rv h;obtain⟨l,xs,y,rfl,rfl,hH,hz,q⟩:=h;cases rx;obtain⟨u,rfl,ru⟩:=rv.one;obtain⟨z,its,n,r,hl,e⟩:=I.oR hH;refine K8 F.slot_list_append ⟨_,e,rfl⟩ F.entry_list_append (F.args_list_append_2 _ _) (PySem.list_append l its.toArray n u (by rw[cI];omega)) ⟨e,?_⟩;refine⟨.bg,_,I.Bm (its':=its++[u]) hH e (by simp) (r.append (.cons ru .nil)) ?_,rfl,q⟩;rw[vt,Lb];omega
noncomputable def HJ:V->List V->Hp->VK->Prop:=λx vs H Q=>∃l xs y,x=.ref l/\vs=[]/\H l=some (.lst xs)/\xs[xs.length - 1]?=some y/\Q y (upd H l (.lst xs.dropLast))
def Bo:Gk X "list.pop" HJ:=by
 intro pins s σ H x vs v us Q I rx rv h;obtain⟨l,xs,y,rfl,rfl,hH,hy,q⟩:=h;cases rx;have Jo:=rv.zero;subst Jo;obtain⟨z,its,n,r,hl,e⟩:=I.oR hH;obtain⟨u,hu,ru⟩:=r.get hy;have hy':its.toArray[its.toArray.size - 1]?=some u:=by
  show its.toArray[its.length - 1]?=some u;rw[<-Array.getElem?_toList,<-hl];exact hu
 refine K8 F.slot_list_pop ⟨_,e,rfl⟩ F.entry_list_pop (F.args_list_pop_1 _) (MeetsSeq.list_pop_last l its.toArray n u hy' (by rw[cI];omega)) ⟨e,?_⟩;refine⟨y,_,I.Bm (its':=its.dropLast) hH e ?_ r.dropLast ?_,ru,q⟩
 .show its.toArray.eraseIdxIfInBounds (its.toArray.size - 1)=its.dropLast.toArray;rw[cI,List.eraseIdxIfInBounds_toArray,su]
 .rw[List.length_dropLast];omega
noncomputable def HK:R2:=λx y H Q=>∃l b xs zs,x=.ref l/\y=.ref b/\H l=some (.lst xs)/\H b=some (.lst zs)/\xs.length+zs.length<=sizeLine/\∀p,H p=none->Q (.ref p) (upd H p (.lst (xs++zs)))
def Bp:bR X (binaryOp .Add) HK:=by
 intro pins s σ H x y v u Q I rx ry h;obtain⟨l,b,xs,zs,rfl,rfl,hH,hB,hz,q⟩:=h;cases rx;cases ry;obtain⟨z,its,n,r,hl,e⟩:=I.oR hH;obtain⟨z2,its2,n2,r2,hl2,e2⟩:=I.oR hB;refine PySem.P.add_list e e2 ?_ (by rw[cI,cI];omega);have ea:its.toArray++its2.toArray=(its++its2).toArray:=by simp
 rw[ea];exact⟨.ref _,_,I.vV (t':=s.toks) (r.append r2) (by rw[vt];omega),rfl,q _ I.fresh⟩
noncomputable def HL:R2:=λx y H Q=>∃l k xs,x=.ref l/\y=.int k/\H l=some (.lst xs)/\-(2 ^ 63)<=k/\k<2 ^ 63/\xs.length*k.toNat<=sizeLine/\
 ∀p,H p=none->Q (.ref p) (upd H p (.lst (List.replicate k.toNat xs).flatten))
def len_rep{α:Type}(xs:List α)(k:Nat):(List.replicate k xs).flatten.length=k*xs.length:=by
 induction k with
 |zero=>simp
 |succ k ih=>rw[DI,Je,vt,ih,Mf,Nat.add_comm]
def Bq:bR X (binaryOp .Mult) HL:=by
 intro pins s σ H x y v u Q I rx ry h;obtain⟨l,k,xs,rfl,rfl,hH,h1,h2,hz,q⟩:=h;cases rx;obtain⟨t,rfl⟩:=ry;obtain⟨z,its,n,r,hl,e⟩:=I.oR hH;have hlen:its.toArray.size*k.toNat<=sizeLine:=by rw[cI,<-hl];exact hz
 have hcap:¬ its.toArray.size*k.toNat > (2 ^ 63 - 1) / 8:=by
  have:(sizeLine:Nat)<=(2 ^ 63 - 1) / 8:=by decide
  omega
 have hfit:¬ (!Builtin.List.listFitsIndex k)=true:=by
  rw[fitsIndex_both h1 h2];exact L1
 have Et:¬ Builtin.List.listTooLong (its.toArray.size*k.toNat)=true:=by
  rw[vW hlen];exact L1
 have hnew:List.foldl (λx1 x2=>x1++x2) #[] (List.replicate (if its.toArray.isEmpty=true then 0 else k.toNat) its.toArray)=(List.replicate k.toNat its).flatten.toArray:=by
  have f0:∀m:Nat,List.foldl (λx1 x2=>x1++x2) #[] (List.replicate m its.toArray)=(List.replicate m its).flatten.toArray:=λm=>by
   have:=foldl_rep its m [];rw[LO]at this;exact this
  rw[f0];cases its with
  |nil=>simp
  |cons a r'=>rw[yL (by simp)]
 refine Mb (T:="list") (U:="int") (by decide) ⟨_,e,rfl⟩ (λs'=>Ma s' k t) noFill_list_mul F.fills_int_mul F.slot_int_rmul repeat_list F.slot_int_index.lookup
  (K8 F.slot_int_rmul (Ma s k t) F.entry_int_rmul (F.args_int_rmul_2 _ _) (int___rmul___int_list k t l its.toArray n)
   ⟨e,rfl,⟨_,e,rfl⟩,K8 F.slot_list_mul ⟨_,e,rfl⟩ F.entry_list_mul (F.args_list_mul_2 _ _) (AutoListH.list___mul___list_int_3 l its.toArray n k t hfit hcap Et) ⟨e,?_⟩⟩)
 rw[hnew];exact⟨.ref _,_,I.vV (t':=s.toks) (r.rep k.toNat) (by rw[len_rep,Nat.mul_comm];exact hz),rfl,q _ I.fresh⟩
end
end L2
namespace Gm
open PySem PySem.W PySem.Calls PyProof.Rows
def ko{P:Params}{h:Heap}:∀(ns:List Int) (vs:List Value),WellAll P h vs (ns.map WData.int)->IntsAre vs ns:=by
 intro ns;induction ns with
 |nil=>
  intro vs w;rw[Lr]at w;cases w;exact .nil
 |cons n ns ih=>
  intro vs w;rw[vv]at w;cases w with
  |cons a b=>
   cases a;exact .cons _ _ (ih _ b)
def um{l:OpenLaw}{n:Nat}(hn:l.most=some n){P:Params}{h:Heap}{args:List WData}{vals:List Value}
  (hpre:l.row.toRowW.claim.pre args=true) (hwl:WellAll P h vals args) :
  ∃a vs ns,vals=[Value.ref a]/\args=[WData.list (ns.map WData.int)]/\h.get? a=some { cls:=.type "list",data:=.seq vs.toArray }/\IntsAre vs ns/\ns.length<=n:=by
 have hsh:WShape.hasAll [] args [.list .int]=true:=(pre_splitW hpre).1;have hc:l.pre.holds [] { args:=args }=true:=(pre_splitW hpre).2;obtain⟨d,r,rfl,h1,h2⟩:=hasAllW_cons hsh;obtain rfl:=hasAllW_nil h2;obtain⟨xs,rfl,h3⟩:=hasW_list h1;obtain⟨ns,rfl⟩:=items_int h3;have hlen:ns.length<=n:=by
  unfold OpenLaw.pre at hc;have h4:(WTm.not (.lt (.lit (.int (n:Int))) (.len (.arg 0)))).holds [] { args:=[.list (ns.map .int)]}=true:=by
   have h4:=(holds_andW hc).1;rw[hn]at h4;exact h4
  have h5:=condW_of h4 (w_not (w_lt w_lit (w_len_list (w_arg rfl))));rw[Ka]at h5;refine Nat.le_of_not_lt λq=>?_;have q':(n:Int)<((ns.length:Nat):Int):=by omega
  first
   | (rw[K6 q']at h5;exact absurd h5 (by decide))
   | (simp at h5;omega)
 cases hwl with
 |cons w1 w2=>
  cases w2;cases w1 with
  |list ho hall=>exact⟨_,_,ns,rfl,rfl,ho,ko ns _ hall,hlen⟩
def uo(l:OpenLaw)(args:List WData):l.row.toRowW.claim.post args (.bool true) args=true:=
 postW_of (r:=l.row.toRowW) (X:=(true==true))
  (show WShape.has [] (.bool true) .bool=true by first|rfl|decide|simp[WShape.has,WShape.arms,WShape.armsAll])
  (show(WTm.eq .res (.lit (.bool true))).value [] { args:=args,res:=some (.bool true),after:=args }=some (.bool (true==true))from w_eq_bool (w_res rfl) w_lit) rfl
def qm{l:OpenLaw}{n:Nat}{q:Program}{loose:List Str}{XP:(Str->Option Value)->Heap->Prop}{YP:World->Heap->Prop}{d:DefRec}
  (hn:l.most=some n) (hdf:d.params.defaults=[])
  (call:∀(w:World) (s₀ s₁:Shared) (mg mb:Str->Option Value) (fa:Addr) (o:Obj) (pm cd doc:Value) (a:Addr) (vs:List Value) (ns:List Int),
   Ground q loose [] XP w s₀ mg mb s₁.heap->YP w s₁.heap->
   s₁.heap.get? fa=some o->o.data=.func (docDef d.name d.params d.body d.scope pm cd doc)->s₁.heap.CodeRec cd d.name->mg d.name=some (.ref fa)->
   s₁.heap.get? a=some { cls:=.type "list",data:=.seq vs.toArray }->IntsAre vs ns->ns.length<=n->s₁.gens = #[]->
   codeAny (model l.prog w) callerA (.call (.ref fa) ⟨[.ref a],[]⟩) (λr s'=>r=.ok (.ret (.bool true))/\OldK s₁.heap s'.heap/\s'.os=s₁.os/\AllBare s'.gens) s₁) :
  WalkO q loose XP YP l.row.toRowW d [] (λf vs=>PySem.call f vs):=by
 intro w s₀ s₁ mg mb G Y fa o pm cd doc dV kV ho hd hcd hD hmg hg args vals as hpre hlay hrd hwl hlo;obtain rfl:dV=.none:=Dflts.none hD hdf;obtain rfl:kV=.none:=Dflts.noKw hD;obtain⟨a,vs,ns,rfl,rfl,hobj,hints,hlen⟩:=um hn hpre hwl;refine enter_call (ML (call w s₀ s₁ mg mb fa o pm cd doc a vs ns G Y ho (fd_plain hd) hcd hmg hobj hints hlen hg) λr s' hq=>?_);obtain⟨rfl,h2,h3,h4⟩:=hq;exact⟨.inl ⟨.bool true,.bool true,[],rfl,λ_=>rfl,.bool true,uo l _,λ_=>⟨List.Pairwise.nil,λ_ hm=>(nomatch hm)⟩⟩,h2,h3,h4⟩
end Gm
namespace L2
open PySem PySem.Spec PyProof.Rows
theorem mS:∀{vs:List Value}{ns:List Int},IntsAre vs ns->Vals (ns.map V.int) vs
 |_,_,.nil=>.nil
 |_,_,.cons n t h=>.cons ⟨t,rfl⟩ (mS h)
noncomputable def lO(H:Hp):Prop:=∀b,H b=none\/∃o xs,H b=some (.aW o (.lst xs))
def vX{P:Program}{w:World}{K:PySem.W.Frag}{mg mb:Str->Option Value}{CX:iD}{k:Nat}{fa a:Addr}{fd:FuncData}{x:Str}{sp:Sp}{s₁:Shared}{vs:List Value}{ns:List Int}
  (KX:K.In s₁.heap) (hns:s₁.heap.Ns mainGlobals mg) (hb:s₁.heap.Ns builtinsNs mb) (Br:∀x:Str,x≠"__name__" ->mb x=bootBuiltins x) (hlim:s₁.heap.NoLimit) (hg:s₁.gens = #[])
  (ha:s₁.heap.get? a=some { cls:=.type "list",data:=.seq vs.toArray }) (hi:IntsAre vs ns) (hl:ns.length<=sizeLine) (hr:cY k callerA)
  (F:∀base:Heap,K.In base->base.Ns mainGlobals mg->ff P w K mg base CX k fa fd [x] sp) (hbind:∀(s:Shared) (u:Value),BindsTo s fd ⟨[u],[]⟩ [(x,u)])
  (fD:∀H:Hp,lO H->cS K H a (ns.map V.int)->sp [.ref a] H (λv _=>v=.bl true) λ_ _ _=>False)
  (uq:∀H e s',CX [] H s₁ (λ_ _ _=>False) e s'->False) :
  codeAny (model P w) callerA (.call (.ref fa) ⟨[.ref a],[]⟩) (λr s'=>r=.ok (.ret (.bool true))/\OldK s₁.heap s'.heap/\s'.os=s₁.os/\AllBare s'.gens) s₁:=by
 have rv:=mS hi;have HM:=hi.length;have core:∀H:Hp,lO H->cS K H a (ns.map V.int)->cJ P w H s₁.heap->(∀b,H b≠none->b=a)->(H a≠none->K.lookup a=none)->
   codeAny (model P w) callerA (.call (.ref fa) ⟨[.ref a],[]⟩) (λr s'=>r=.ok (.ret (.bool true))/\OldK s₁.heap s'.heap/\s'.os=s₁.os/\AllBare s'.gens) s₁:=by
  intro H hO hS hok hA hK;have qO:∀{b:Addr} {o:Obj},s₁.heap.get? b=some o->H b=none->(g7 s₁.heap H).get? b=some o:=λe n=>vF e n;have ue:∀{b:Addr} {o:Obj} {es:Array DictEntry} {ep:Nat},s₁.heap.get? b=some o->o.data=.dict es ep->H b=none:=λ{b o es ep} e d=>by
   cases q:H b with
   |none=>rfl
   |some u=>
    have e':b=a:=hA b (by rw[q];simp);subst e';rw[ha]at e;cases e;have d':Data.seq vs.toArray _=Data.dict es ep:=d;cases d'
  have xX:∀{b:Addr} {m:Str->Option Value},s₁.heap.Ns b m->(g7 s₁.heap H).Ns b m:=λ{b m} ⟨o,es,ep,e,d,r⟩=>⟨o,es,ep,qO e (ue e d),d,r⟩
  have Gn:K.In (g7 s₁.heap H):=λb o e=>qO (KX b o e) (by
   cases q:H b with
   |none=>rfl
   |some u=>
    have e':b=a:=hA b (by rw[q];simp);subst e';rw[hK (by rw[q];simp)]at e;cases e)
  have hM:Mod K mg (g7 s₁.heap H):=⟨Gn,xX hns,⟨mb,xX hb,Br⟩,let ⟨mc,h1,h2⟩:=hlim;⟨mc,xX h1,h2⟩⟩
  have e0:sf P w K mg (g7 s₁.heap H) callerA [] s₁ H:=⟨rfl,hM,λb o e=>yT e,Nat.le_of_eq (tU _ _),trivial,λb hb=>absurd (show b∈([]:List Addr)from hb) (by simp),hok,.of_eq hg⟩
  refine ML ((F _ Gn (xX hns)).run callerA [] s₁ H ⟨[.ref a],[]⟩ [.ref a] [.ref a] _ _ hr e0 (hbind s₁ (.ref a)) (.cons rfl .nil) (fD H hO hS)) λr s' h=>?_;cases r with
  |error e=>exact(uq H e s' h).elim
  |ok fl=>
   cases fl with
   |next=>exact False.elim h
   |brk=>exact False.elim h
   |cont=>exact False.elim h
   |ret u=>
    obtain⟨v,H',os,bare,un,HN,r',q⟩:=h;have q':v=.bl true:=q;subst q';obtain rfl:u=Value.bool true:=r';refine⟨rfl,OldK.of_keep λb o e=>?_,os,bare⟩;cases q:H b with
    |none=>exact un.keep b o e q (by intro z;exact absurd (show b∈([]:List Addr)from z) (by simp)) (by simp)
    |some u=>
     rcases hO b with z|⟨ob,xs,z⟩
     .rw[q]at z;cases z
     .have z2:=un.g6 b ob _ z;obtain⟨e1,_⟩:=hok b _ z;obtain⟨e2,_⟩:=HN b _ z2;rw[e]at e1;cases e1;exact e2
 cases hk:K.lookup a with
 |some o=>
  have e:=KX a o hk;rw[ha]at e;cases e;refine core (λ_=>none) (λ_=>.inl rfl) (.inr ⟨_,vs.toArray,_,hk,rfl,rfl,rfl,by rw[cI,HM];exact hl,by simpa using rv⟩) (λb u z=>by have z':(none:Option HO)=some u:=z;cases z') (λb z=>absurd rfl z) λz=>absurd rfl z
 |none=>
  refine core (λb=>if b=a then some (.aW { cls:=.type "list",data:=.seq vs.toArray } (.lst (ns.map V.int)))else none) (λb=>?_) (.inl (.inr ⟨{ cls:=.type "list",data:=.seq vs.toArray },eO rfl⟩)) (λb u z=>?_) (λb z=>?_) λ_=>hk
  .by_cases hb:b=a
   .exact .inr ⟨_,_,eO hb⟩
   .exact .inl (yL hb)
  .by_cases hb:b=a
   .have z':=(eO hb).symm.trans z;cases z';subst hb;exact⟨ha,by rw[Ka];exact hl,vs,_,rv,ha⟩
   .have z':=(yL hb).symm.trans z;cases z'
  .by_cases hb:b=a
   .exact hb
   .exact absurd (yL hb) z
def zm{l:PySem.W.OpenLaw}{n k:Nat}{q:Program}{loose:List Str}{XP:(Str->Option Value)->Heap->Prop}{YP:World->Heap->Prop}{d:DefRec}{K:Params->PySem.W.Frag}{CX:World->iD}{sp:World->Sp}{x:Str}
  (hn:l.most=some n) (hn2:n<=sizeLine) (hdf:d.params.defaults=[]) (hr:cY k callerA)
  (hY:∀(w:World) (h:Heap),YP w h->(K w.params).In h)
  (F:∀(w:World) (mg:Str->Option Value) (fa:Addr) (h:Heap),(K w.params).In h->h.Ns mainGlobals mg->mg d.name=some (.ref fa)->
   ∃fd:FuncData,(∀(s:Shared) (u:Value),BindsTo s fd ⟨[u],[]⟩ [(x,u)])/\
    ∀base:Heap,(K w.params).In base->base.Ns mainGlobals mg->ff l.prog w (K w.params) mg base (CX w) k fa fd [x] (sp w))
  (fD:∀(w:World) (H:Hp) (a:Addr) (ns:List Int),ns.length<=n->lO H->cS (K w.params) H a (ns.map V.int)->sp w [.ref a] H (λv _=>v=.bl true) λ_ _ _=>False)
  (uq:∀(w:World) (H:Hp) (s:Shared) (e:Value) (s':Shared),CX w [] H s (λ_ _ _=>False) e s'->False) :
  PySem.W.WalkO q loose XP YP l.row.toRowW d [] (λf vs=>PySem.call f vs):=by
 refine Gm.qm hn hdf λw s₀ s₁ mg mb fa o pm cd doc a vs ns G Y ho hd hcd hmg hobj hints hlen hg=>?_;have KX:=hY w _ Y;obtain⟨fd,hb,hF⟩:=F w mg fa _ KX G.T.g hmg;exact vX KX G.T.g G.T.b G.T.builtins G.T.nolimit hg hobj hints (xE hlen hn2) hr hF hb (λH hO hS=>fD w H a ns hlen hO hS) λH e s'=>uq w H s₁ e s'
def vY{l:PySem.W.OpenLaw}{n k:Nat}{q:Program}{loose:List Str}{XP:(Str->Option Value)->Heap->Prop}{YP:World->Heap->Prop}{d:DefRec}{K:Params->PySem.W.Frag}{CX:iD}{sp:PySem.W.Frag->Sp}{x:Str}
  (hn:l.most=some n) (hn2:n<=sizeLine) (hdf:d.params.defaults=[]) (hr:cY k callerA)
  (hY:∀(w:World) (h:Heap),YP w h->(K w.params).In h)
  (F:∀(w:World) (mg:Str->Option Value) (fa:Addr) (h:Heap),(K w.params).In h->h.Ns mainGlobals mg->mg d.name=some (.ref fa)->
   ∃fd:FuncData,(∀(s:Shared) (u:Value),BindsTo s fd ⟨[u],[]⟩ [(x,u)])/\
    ∀base:Heap,(K w.params).In base->base.Ns mainGlobals mg->ff l.prog w (K w.params) mg base CX k fa fd [x] (sp (K w.params)))
  (fD:∀(K:PySem.W.Frag) (H:Hp) (a:Addr) (ns:List Int),ns.length<=n->lO H->cS K H a (ns.map V.int)->sp K [.ref a] H (λv _=>v=.bl true) λ_ _ _=>False)
  (uq:∀(H:Hp) (s:Shared) (e:Value) (s':Shared),CX [] H s (λ_ _ _=>False) e s'->False) :
  PySem.W.WalkO q loose XP YP l.row.toRowW d [] (λf vs=>PySem.call f vs):=
 zm (K:=K) (CX:=λ_=>CX) (sp:=λw=>sp (K w.params)) hn hn2 hdf hr hY F (λw H a ns h1 h2 h3=>fD (K w.params) H a ns h1 h2 h3) λ_ H s e s'=>uq H s e s'
noncomputable def jm(s:Stmt):Arguments:=match s with
 |.FunctionDef _ a _ _ _ _ _ _ _ _=>a
 |_=>{ posonlyargs:=[],args:=[],vararg:=none,kwonlyargs:=[],kw_defaults:=[],kwarg:=none,defaults:=[]}
noncomputable def eG(s:Stmt):List Stmt:=match s with
 |.FunctionDef _ _ b _ _ _ _ _ _ _=>b
 |_=>[]
noncomputable def aN(s:Stmt):Scope:=match s with
 |.FunctionDef _ _ _ _ _ _ sc _ _ _=>sc
 |_=>{ kind:=.function,names:=[],isGenerator:=false,isCoroutine:=false }
abbrev iT:iD:=λ_ _ _ _ _ _=>False
abbrev E0:XK:=λ_ _ _=>False
def Eu{X:Cx}:Passes iT X E0:=λ_ _ _ _ _ _ _ h=>h.elim
structure oS(K:PySem.W.Frag)(x qual:Str)(st:Stmt)(f:Addr)(fd:FuncData):Prop where
 ex:∃(oc:Value) (od:Option Addr) (kV doc pm:Value) (an:Option Addr) (cdv ct:Value) (osl:Array (Option Value)),
  fd=PySem.W.fnOf x qual (jm st) (eG st) (aN st) .none kV doc pm an cdv ct/\K.lookup f=some ⟨oc,od,.func fd,osl⟩/\PySem.W.codeIn K cdv qual=true
 kp:PySem.W.keepIn K (.ref f)=true
section
variable{P:Program}{w:World}{K:PySem.W.Frag}{mg:Str->Option Value}{base:Heap}
def oS.ok{x qual:Str}{st:Stmt}{f:Addr}{fd:FuncData}{N ps:List Str}{k:Nat}{sp:Sp}(F:oS K x qual st f fd)(S:bH N ps (aN st))(len:∀vs H Q E,sp vs H Q E->vs.length=ps.length)
  (hbody:∀(cdv:Value) (A:Around) (outer:List Env) (s:Shared) (H:Hp) (vs:List V) (Q:VK) (E:XK),cY k (A.deeper (envOfC qual (aN st) s.heap.objs.size f cdv))->sp vs H Q E->
   ∃t,fB (jU iT P w K mg base N qual (aN st) f cdv A outer s H E).mG (eG st) t/\t { nx:=λ_ H'=>Q .bg H',rt:=Q } (start N vs) H):ff P w K mg base iT (k+1) f fd ps sp:=by
 obtain⟨oc,od,kV,doc,pm,an,cdv,ct,osl,rfl,lk,hcd⟩:=F.ex;refine Em lk hcd S len λA outer s H vs Q E hr fD=>?_;obtain⟨t,h,q⟩:=hbody cdv A outer s H vs Q E hr fD;exact⟨t,h.mG,q⟩
def oS.binds{x qual:Str}{st:Stmt}{f:Addr}{fd:FuncData}{ps:List Str}(F:oS K x qual st f fd)
  (h:∀(kV doc pm:Value) (an:Option Addr) (cdv ct:Value) (us:List Value),us.length=ps.length->bindArgs (PySem.W.fnOf x qual (jm st) (eG st) (aN st) .none kV doc pm an cdv ct) ⟨us,[]⟩=pure (ps.zip us)):Binds K fd ps []:=by
 obtain⟨oc,od,kV,doc,pm,an,cdv,ct,osl,rfl,lk,hcd⟩:=F.ex;exact .all (h kV doc pm an cdv ct)
def cA{x qual:Str}{st:Stmt}{f:Addr}{oc:Value}{od an:Option Addr}{osl:Array (Option Value)}{kV doc pm cdv ct:Value}(l:K.lookup f=some ⟨oc,od,.func (PySem.W.fnOf x qual (jm st) (eG st) (aN st) .none kV doc pm an cdv ct),osl⟩)
  (c:PySem.W.codeIn K cdv qual=true) (k:PySem.W.keepIn K (.ref f)=true):oS K x qual st f (PySem.W.fnOf x qual (jm st) (eG st) (aN st) .none kV doc pm an cdv ct):=⟨⟨oc,od,kV,doc,pm,an,cdv,ct,osl,rfl,l,c⟩,k⟩
end
def Ew{A:Around}{k:Nat}(hr:cY k A):A.units+1<cLine:=Nat.lt_of_le_of_lt (Nat.add_le_add_left (by decide:1<=64) _) hr.units
section
variable{X:Cx}
def pv (i:Nat) {x:Str}{pos:Pos}(hN:X.N[i]?=some x:=by rfl) (hv:tV X.env.scope x:=by first|exact Or.inl rfl|exact Or.inr (Or.inl rfl)|exact Or.inr (Or.inr rfl)) (hd:(x==("__debug__" : Str))=false:=by decide)
  (hcd:(x==("__classdict__" : Str))=false:=by decide):PE X (.Name x pos) (AR i):=tX hN hv hd hcd
end
section
variable{κ:Type}[DecidableEq κ]
noncomputable def gj(kvs:List (κ×V))(k:κ):Option V:=(kvs.find? λkv=>decide (kv.1=k)).map (·.2)
noncomputable def putK(kvs:List (κ×V))(k:κ)(v:V):List (κ×V):=
 if (kvs.any λkv=>decide (kv.1=k))=true then kvs.map (λkv=>if kv.1=k then (kv.1,v)else kv)else kvs++[(k,v)]
def jV{p:κ×V}{r:List (κ×V)}{k:κ}(e:p.1=k):gj (p :: r) k=some p.2:=by simp[gj,K9,e]
def oU{p:κ×V}{r:List (κ×V)}{k:κ}(e:¬ p.1=k):gj (p :: r) k=gj r k:=by simp[gj,K9,e]
def qo(kvs:List (κ×V))(k:κ)(v:V):(putK kvs k v).length<=kvs.length+1:=by
 unfold putK;split
 .rw[Ka];omega
 .rw[vt,pX,Lq];omega
def KV.val{kvs:List (κ×V)}{vs:List (κ×Value)}(r:KV kvs vs)(k:κ):gZ (gj kvs k) (valueAt vs k):=by
 unfold KV at r;induction r with
 |nil=>exact True.intro
 |@cons p q ps qs h t ih=>
  obtain⟨h1,h2⟩:=h;by_cases e:p.1=k
  .have e':q.1=k:=h1.symm.trans e;have b:valueAt (q :: qs) k=some q.2:=by simp[valueAt,K9,e']
   rw[jV e,b];exact h2
  .have e':¬ q.1=k:=λz=>e (h1.trans z);have b:valueAt (q :: qs) k=valueAt qs k:=by simp[valueAt,K9,e']
   rw[oU e,b];exact ih
theorem KV.any{kvs:List (κ×V)}{vs:List (κ×Value)}(r:KV kvs vs)(k:κ):(kvs.any λkv=>decide (kv.1=k))=vs.any λkv=>decide (kv.1=k):=by
 unfold KV at r;induction r with
 |nil=>rfl
 |cons h t ih=>rw[MG,MG,ih,h.1]
def KV.repl{kvs:List (κ×V)}{vs:List (κ×Value)}(r:KV kvs vs)(k:κ){y:V}{u:Value}(ry:RelV y u) :
  KV (kvs.map λkv=>if kv.1=k then (kv.1,y)else kv) (vs.map λkv=>if kv.1=k then (kv.1,u)else kv):=by
 unfold KV at r ⊢;induction r with
 |nil=>exact .nil
 |@cons p q ps qs h t ih=>
  rw[vv,vv];refine .cons ?_ ih;obtain⟨h1,h2⟩:=h;by_cases e:p.1=k
  .rw[eO e,eO (h1.symm.trans e)];exact⟨h1,ry⟩
  .rw[yL e,yL (λz=>e (h1.trans z))];exact⟨h1,h2⟩
def KV.put{kvs:List (κ×V)}{vs:List (κ×Value)}(r:KV kvs vs)(k:κ){y:V}{u:Value}(ry:RelV y u):KV (putK kvs k y) (stored vs k u):=by
 unfold putK stored;rw[r.any k];by_cases e:(vs.any λkv=>decide (kv.1=k))=true
 .rw[eO e,eO e];exact r.repl k ry
 .rw[yL e,yL e];exact Paired.snoc r ⟨rfl,ry⟩
end
def sy{P:Program}{w:World}{k:Key}{u:Value}(r:RelV (kV k) u):(bW P w).is k u=true:=by
 cases k with
 |inl i=>obtain⟨t,e⟩:=(show ∃t,u=Value.int i t from r);subst e;exact qk P w i t
 |inr x=>obtain⟨t,e⟩:=(show ∃t,u=Value.str x t from r);subst e;exact ql P w x t
theorem mT{P:Program}{w:World}:∀{ks:List Key}{us:List Value},Vals (ks.map kV) us->ItemsAre (bW P w) ks us
 |[],_,r=>by rw[Lr]at r;cases r;exact .nil
 |k :: ks,_,r=>by
  rw[vv]at r;cases r with
  |cons h t=>exact .cons (sy h) (mT t)
abbrev KT(H:Hp):List (List Key×V)->List (List Key×Addr×Value)->Prop:=Paired λp q=>p.1=q.1/\H q.2.1=some (.tup (p.1.map kV))/\RelV p.2 q.2.2
def KT.val{H:Hp}{kvs:List (List Key×V)}{xs:List (List Key×Addr×Value)}(r:KT H kvs xs)(k:List Key):gZ (gj kvs k) ((atKey xs k).map (·.2)):=by
 induction r with
 |nil=>exact True.intro
 |@cons p q ps qs h t ih=>
  obtain⟨h1,_,h2⟩:=h;by_cases e:p.1=k
  .have e':q.1=k:=h1.symm.trans e;have b:atKey (q :: qs) k=some q.2:=by simp[atKey,K9,e']
   rw[jV e,b];exact h2
  .have e':¬ q.1=k:=λz=>e (h1.trans z);have b:atKey (q :: qs) k=atKey qs k:=by simp[atKey,K9,e']
   rw[oU e,b];exact ih
section
variable{P:Program}{w:World}{H:Hp}{h:Heap}{a:Addr}
def xY{u:HO}(ok:cJ P w H h)(e:Rd H a u):bK P w H h a u:=e.ok ok
def sA{kvs:List (Key×V)}(ok:cJ P w H h)(e:Rd H a (.dK kvs)):kvs.length<=sizeLine/\(a==sysModules)=false/\∃vs,KV kvs vs/\h.DictOf (bW P w) a vs:=
 show bK P w H h a (.dK kvs)from xY ok e
def Ex{kvs:List (Key×V)}(ok:cJ P w H h)(e:H a=some (.dK kvs)):kvs.length<=sizeLine/\(a==sysModules)=false/\∃vs,KV kvs vs/\h.DictOf (bW P w) a vs:=sA ok (.inl e)
def ur{ks:List Key}(ok:cJ P w H h)(e:H a=some (.tup (ks.map kV))):(tupleKind (bW P w)).is h ks a:=by
 obtain⟨_,its,r,o,h1,h2,n,h3⟩:=(show bK P w H h a (.tup (ks.map kV))from ok a _ e)
 exact⟨o,its.toArray,n,h1,h2,h3,by simpa using mT r⟩
def xZ{kvs:List (List Key×V)}(ok:cJ P w H h)(e:Rd H a (.dT kvs)):kvs.length<=sizeLine/\(a==sysModules)=false/\
  ∃xs,KT H kvs xs/\h.DictOfH (tupleKind (bW P w)) a xs:=by
 obtain⟨z,y,xs,r,o,es,ep,h1,h2,h3,h4,h5⟩:=(show bK P w H h a (.dT kvs)from xY ok e)
 refine⟨z,y,xs,r,o,es,ep,h1,h2,h3,h4,λx hx=>?_,h5⟩;have all:∀{l:List (List Key×V)} {m:List (List Key×Addr×Value)},KT H l m->∀x∈m,(tupleKind (bW P w)).is h x.1 x.2.1:=by
  intro l m q;induction q with
  |nil=>intro x hx;exact nomatch hx
  |@cons p q ps qs hq t ih=>
   intro x hx;rcases List.mem_cons.mp hx with e|hx
   .subst e;exact ur ok (by rw[<-hq.1];exact hq.2.1)
   .exact ih x hx
 exact all r x hx
end
noncomputable def vZ(H:Hp)(a:Addr)(y:V)(r:Option V):Prop:=
 (∃kvs k,Rd H a (.dK kvs)/\y=kV k/\r=gj kvs k)\/∃kvs k b,Rd H a (.dT kvs)/\y=.ref b/\H b=some (.tup (k.map kV))/\r=gj kvs k
section
variable{X:Cx}{pins:List (Addr×Obj)}{σ:St}{H:Hp}{s:Shared}{a:Addr}{y v:V}{u:Value}{o:Option V}{A:Around}{E:Value->Shared->Prop}
def Inv.big(I:Inv X pins σ H s):sysModules<s.heap.objs.size:=by
 have h:mainGlobals<s.heap.objs.size:=(I.mod.glob.keeps I.bk).lt;exact Nat.lt_trans (by decide) h
def uu{Q:Value->Shared->Prop}(hu:A.units+1<cLine)(I:Inv X pins σ H s)(g:vZ H a y (some v))(ry:RelV y u)(h:∀w' s',Inv X pins σ H s'->RelV v w'->Q w' s') :
  wpAny (model X.prog X.w) A (getItem (.ref a) u) Q E s:=by
 rcases g with ⟨kvs,k,e,ey,l⟩|⟨kvs,k,b,e,ey,eb,l⟩
 .subst ey;obtain⟨z,hd,vs,rel,dd⟩:=sA I.hok e;obtain⟨w',hw,rw'⟩:=gZ.some_of (v:=v) (o:=valueAt vs k) (by rw[l];exact rel.val k);exact wpAny_getItem_of (sy ry) dd.mapOf hw (h w' _ (I.tok _) rw')
 .subst ey;cases (show u=Value.ref b from ry);obtain⟨z,hd,xs,rel,dd⟩:=xZ I.hok e;obtain⟨w',hw,rw'⟩:=gZ.some_of (v:=v) (o:=(atKey xs k).map (·.2)) (by rw[l];exact rel.val k);obtain⟨p,hp,hp2⟩:=Option.map_eq_some_iff.mp hw;refine wpAny_getItem_heap (tupleKind_room_in1 hu) (ur I.hok eb) dd hp ?_;rw[hp2];exact h w' _ (I.tok _) rw'
def zo{h':Heap}{t':Nat}{ob:HO}(I:Inv X pins σ H s)(mu:tT (H a))(hs:Heap.SameBut a s.heap h')(he:∃q,h'.get? a=some q)(new:bK X.prog X.w (upd H a ob) h' a ob) :
  Inv X pins σ (upd H a ob) { s with heap:=h',toks:=t' }:=
 I.write (x:=a) (e:=a) mu (.inl rfl) (λb q hb z=>(hs.2 b hb).trans z) he new
def Bs{P:Program}{w:World}{H':Hp}{h':Heap}{kvs:List (Key×V)}{vs:List (Key×Value)}(z:kvs.length<=sizeLine)(hd:(a==sysModules)=false)(rel:KV kvs vs)(dd:h'.DictOf (bW P w) a vs) :
  bK P w H' h' a (.dK kvs):=⟨z,hd,vs,rel,dd⟩
end
noncomputable def v5(i:Expr):Prop:=∀ov iv,subscripted i false ov iv=operate [ov,iv] (getItem ov iv)
def zp{prog:Program}{w:World}{A:Around}{E:Value->Shared->Prop}{s:Shared}{env:Env}{value slice:Expr}{pos:Pos}{T id:String}{Q:Value->Shared->Prop}
  (hl:typeLookup (.type T) "__getitem__" = pure (some (.builtin id))) (hs:v5 slice)
  (h:wpAny (model prog w) A (eval value env) (λo s₁=>wpAny (model prog w) A (eval slice env) (λi s₂=>s₂.TypeIs o T/\wpAny (model prog w) A (getItem o i) Q E s₂) E s₁) E s) :
  wpAny (model prog w) A (eval (.Subscript value slice pos) env) Q E s:=by
 refine Subscript_ (Kn h (λo s₁ h₁=>Kn h₁ (λi s₂ h₂=>?_) λ_ _ x=>x) λ_ _ x=>x);obtain⟨hT,h₂⟩:=h₂;unfold subscriptTail;refine cF ?_;rw[getitemInPython_of_ne hT.not_modules];refine cF (wpAny_specialOf hT hl ?_);have fin:wpAny (model prog w) A (subscripted slice false o i) (λr s₃=>wpAny (model prog w) A (letTemporaryGo value o r >>= λ_=>pure r) Q E s₃) E s₂:=by
  rw[hs o i];exact wpAny_operating (Kn h₂ (λr s₃ h₃=>cF (wpAny_letTemporaryGo (nv h₃))) λ_ _ x=>x)
 first
  |exact nv (cF fin)
  |exact cF (nv (cF fin))
  |exact cF fin
def qp {X:Cx}{pins:List (Addr×Obj)}{σ:St}{H:Hp}{s:Shared}{a:Addr}{y:V}{o:Option V}(I:Inv X pins σ H s) (g:vZ H a y o):s.TypeIs (.ref a) "dict" :=by
 rcases g with ⟨kvs,k,e,_,_⟩|⟨kvs,k,b,e,_,_,_⟩
 .obtain⟨_,_,vs,_,dd⟩:=sA I.hok e;exact dd.typeIs
 .obtain⟨_,_,xs,_,dd⟩:=xZ I.hok e;exact dd.typeIs
noncomputable def Ey(td ty:TE):TE:=λσ H Q=>td σ H λx H1=>ty σ H1 λy H2=>∃a v,x=.ref a/\vZ H2 a y (some v)/\Q v H2
section
variable{X:Cx}{o i:Expr}{pos:Pos}{td ty:TE}
def zq(hu:X.A.units+1<cLine)(ho:PE X o td)(hi:PE X i ty)(hs:v5 i):PE X (.Subscript o i pos) (Ey td ty):=by
 intro pins s σ H Q I h;refine zp PySem.F.slot_dict_getitem.lookup hs (aR (ho pins s σ H _ I h) λu s1 ⟨x,H1,I1,rx,q1⟩=>aR (hi pins s1 σ H1 _ I1 q1) λiv s2 ⟨y,H2,I2,ry,a,v,ex,g,q2⟩=>?_);subst ex;obtain rfl:u=Value.ref a:=rx;exact⟨qp I2 g,uu hu I2 g ry λw' s3 I3 rw'=>⟨v,H2,I3,rw',q2⟩⟩
end
def v8 {P:Program}{w:World}{H:Hp}(h:Heap) (hb:sysModules<h.objs.size):bK P w H (h.push { cls:=.type "dict",data:=.dict #[]}) h.objs.size (.dK []):=
 ⟨LX _,beq_eq_false_iff_ne.mpr (Mu (IB hb)),[],.nil,Heap.DictOf.new h⟩
noncomputable def kq:List (TE×TE)->St->Hp->(List (V×V)->Hp->Prop)->Prop
 |[],_,H,Q=>Q [] H
 | (tk,tv) :: r,σ,H,Q=>tk σ H λx H1=>tv σ H1 λy H2=>kq r σ H2 λps H3=>Q ((x,y) :: ps) H3
abbrev VV:List (V×V)->List (Value×Value)->Prop:=Paired λp q=>RelV p.1 q.1/\RelV p.2 q.2
noncomputable def uv(X:Cx)(pos:Pos)(keys:List (Option Expr))(values:List Expr)(gu:List (TE×TE)):Prop:=
 ∀(pins:List (Addr×Obj)) (s:Shared) (σ:St) (H:Hp) (Q:List (V×V)->Hp->Prop),Inv X pins σ H s->kq gu σ H Q->
  wpAny (model X.prog X.w) X.A (evalPairs (pairTrees keys values X.env pos)) (λvs s'=>∃ps H',Inv X pins σ H' s'/\VV ps vs/\Q ps H') X.xe s
def zu{X:Cx}{pos:Pos}:uv X pos [] [] []:=λpins s σ H Q I h=>pairTrees_nil_walk ⟨[],H,I,.nil,h⟩
def v9{X:Cx}{pos:Pos}{k v:Expr}{ks:List (Option Expr)}{vs:List Expr}{tk tv:TE}{gu:List (TE×TE)}(hk:PE X k tk)(hv:PE X v tv)(hr:uv X pos ks vs gu) :
  uv X pos (some k :: ks) (v :: vs) ((tk,tv) :: gu):=λpins s σ H Q I h=>
 pairTrees_cons_walk (aR (hk pins s σ H _ I h) λu s1 ⟨x,H1,I1,rx,q1⟩=>aR (hv pins s1 σ H1 _ I1 q1) λw2 s2 ⟨y,H2,I2,ry,q2⟩=>
  aR (hr pins s2 σ H2 _ I2 q2) λws s3 ⟨ps,H3,I3,rel,q3⟩=>⟨(x,y) :: ps,H3,I3,.cons ⟨rx,ry⟩ rel,q3⟩)
noncomputable def gR(kvs more:List (Key×V)):List (Key×V):=more.foldl (λacc kv=>putK acc kv.1 kv.2) kvs
def KV.merge:∀{more:List (Key×V)}{rs:List (Key×Value)}{kvs:List (Key×V)}{vs:List (Key×Value)},KV more rs->KV kvs vs->KV (gR kvs more) (merged vs rs):=by
 intro more rs kvs vs r;unfold KV at r;induction r generalizing kvs vs with
 |nil=>intro q;exact q
 |@cons p q ps qs h t ih=>
  intro r0;have e:KV (putK kvs p.1 p.2) (stored vs q.1 q.2):=by
   have:=r0.put p.1 h.2;rw[<-h.1];exact this
  exact ih e
theorem iF:∀(more kvs:List (Key×V)),(gR kvs more).length<=kvs.length+more.length
 |[],kvs=>by show kvs.length<=kvs.length+0;omega
 |p :: r,kvs=>by
  have h1:=iF r (putK kvs p.1 p.2);have h2:=qo kvs p.1 p.2;show(gR (putK kvs p.1 p.2) r).length<=_;rw[pX];omega
theorem kr{P:Program}{w:World}:∀{kvs:List (Key×V)}{ws:List (Value×Value)},VV (kvs.map λkv=>(kV kv.1,kv.2)) ws->∃rs,Carries (bW P w) ws rs/\KV kvs rs
 |[],_,r=>by rw[Lr]at r;cases r;exact⟨[],True.intro,.nil⟩
 |p :: kvs,_,r=>by
  rw[vv]at r;cases r with
  |@cons a b as bs h t=>
   obtain⟨rs,c,q⟩:=kr (P:=P) (w:=w) t;obtain⟨b1,b2⟩:=b;exact⟨(p.1,b2) :: rs,⟨sy h.1,rfl,c⟩,.cons ⟨rfl,h.2⟩ q⟩
end L2
namespace Ev
inductive D where
 |bg|bl (b:Bool)|int (i:Int)|str (s:List Nat)|tup (ds:List D)|ref (n:Nat)
inductive O where
 |lst (ds:List D)|aW (ds:List D)
abbrev Hh:=List O
abbrev Fr:=List (Option D)
inductive R(α:Type) where
 |ok (a:α) (h:Hh)
 |bad
noncomputable def R.bind{α β:Type}(r:R α)(f:α->Hh->R β):R β:=
 match r with
 |.ok a h=>f a h
 |.bad=>.bad
@[simp] theorem aj{α β:Type}(a:α)(h:Hh)(f:α->Hh->R β):(R.ok a h).bind f=f a h:=rfl
@[simp] theorem wc{α β:Type}(f:α->Hh->R β):(R.bad:R α).bind f=.bad:=rfl
def ah{α β:Type}{r:R α}{f:α->Hh->R β}{b:β}{h:Hh}(e:r.bind f=.ok b h):∃a h1,r=.ok a h1/\f a h1=.ok b h:=by
 cases r with
 |ok a h1=>exact⟨a,h1,rfl,e⟩
 |bad=>cases e
noncomputable def R.of{α:Type}(o:Option α)(h:Hh):R α:=match o with
 |some a=>.ok a h
 |none=>.bad
@[simp] theorem b9{α:Type}(a:α)(h:Hh):R.of (some a) h=.ok a h:=rfl
@[simp] theorem of_none{α:Type}(h:Hh):R.of (none:Option α) h=.bad:=rfl
def av{α:Type}{o:Option α}{h h':Hh}{a:α}(e:R.of o h=.ok a h'):o=some a/\h'=h:=by
 cases o with
 |none=>cases e
 |some b=>cases e;exact⟨rfl,rfl⟩
inductive aS where
 |add|sub|mul|fdiv|mod
inductive aJ where
 |eq|ne|lt|gt
 |le|ge
 |isin|cK
inductive TY where
 |int|bool|str|tuple|list
inductive BI where
 |len|sum|min
 |all
 |oV
 |dz|ig
inductive ME where
 |join|append|extend|pop
inductive T where
 |one (i:Nat)|many (l:List Nat)
mutual
inductive E where
 |c (d:D)|v (i:Nat)|tup (es:Es)|lst (es:Es)
 |bin (o:aS) (a b:E)|cmp (o:aJ) (a b:E)
 |ch (o p:aJ) (a b c:E)
 |nt (a:E)|neg (a:E)|an (a b:E)|orr (a b:E)|qP (t a b:E)
 |ix (a b:E)|sl (a:E) (lo hi:Eo)
 |cl (f:Nat) (es:Es)|bi (b:BI) (es:Es)|me (m:ME) (o:E) (es:Es)
 |dB (a:E) (ts:List TY)
 |comp (elt:E) (t:T) (it:It) (cond:Eo)
 |fR (it:It)
 |cV (kvs:List (D×D)) (a:E)|iG (a:E)
inductive Es where
 |nil|cons (e:E) (es:Es)
inductive Eo where
 |no|yes (e:E)
inductive It where
 |seq (e:E)|eF (es:Es)
 |gS (a b:E)
 |enum (a:E)|rev (a:E)
end
mutual
inductive S where
 |set (i:Nat) (e:E)|sC (l:List Nat) (e:E)
 |exp (e:E)|ret (e:E)|iff (t:E) (a b:Ss)|for (t:T) (it:It) (b:Ss)|Bt (t:E) (b:Ss)
 |cZ (c:Nat)
inductive Ss where
 |nil|cons (s:S) (ss:Ss)
end
inductive Fl where
 |nx|bk|ct|ret (d:D)
noncomputable def big:Nat:=16777216
noncomputable def bF(f:D->D->Option Bool):List D->List D->Option Bool
 |[],[]=>some true
 |x :: xs,y :: ys=>do
  let b <-f x y
  let c <-bF f xs ys
  pure (b&&c)
 |_,_=>some false
noncomputable def aI(h:Hh)(n:Nat):Option (List D):=match h[n]? with
 |some (.lst ds)=>some ds
 |some (.aW ds)=>some ds
 |_=>none
noncomputable def b2i(b:Bool):Int:=if b then 1 else 0
noncomputable def gk(h:Hh)(f:D->D->Option Bool)(a b:Nat):Option Bool:=if a=b then (aI h a).map λ_=>true else match h[a]?,h[b]? with
 |some (.lst x),some (.lst y)=>bF f x y
 |some (.aW x),some (.lst y)=>bF f x y
 |some (.lst x),some (.aW y)=>bF f x y
 |_,_=>none
noncomputable def dS(h:Hh):Nat->D->D->Option Bool
 |0,_,_=>none
 |_+1,.bg,.bg=>some true
 |_+1,.bl a,.bl b=>some (a==b)
 |_+1,.int a,.int b=>some (a==b)
 |_+1,.bl a,.int b=>some (b2i a==b)
 |_+1,.int a,.bl b=>some (a==b2i b)
 |_+1,.str a,.str b=>some (a==b)
 |n+1,.tup a,.tup b=>bF (dS h n) a b
 |n+1,.ref a,.ref b=>gk h (dS h n) a b
 |_+1,.ref a,_=>(aI h a).map λ_=>false
 |_+1,_,.ref a=>(aI h a).map λ_=>false
 |_+1,_,_=>some false
noncomputable def deep:Nat:=20
noncomputable def truthy(h:Hh):D->Option Bool
 |.bg=>some false
 |.bl b=>some b
 |.int i=>some (i != 0)
 |.str s=>some (!s.isEmpty)
 |.tup ds=>some (!ds.isEmpty)
 |.ref n=>match h[n]? with
  |_=>(aI h n).map λds=>!ds.isEmpty
noncomputable def alloc(ds:List D)(h:Hh):R D:=if ds.length<=big then .ok (.ref h.length) (h++[.lst ds])else .bad
noncomputable def rep{α:Type}(k:Nat)(l:List α):List α:=(List.replicate k l).flatten
noncomputable def bx(i j:Int):Bool:=(decide (-(2 ^ 64)<i)&&decide (i<2 ^ 64)) || (decide (-(2 ^ 64)<j)&&decide (j<2 ^ 64))
noncomputable def bG:aS->D->D->Hh->R D
 |.add,.int i,.int j,h=>.ok (.int (i+j)) h
 |.add,.str a,.str b,h=>if a.length+b.length<=big then .ok (.str (a++b)) h else .bad
 |.add,.tup a,.tup b,h=>if a.length+b.length<=big then .ok (.tup (a++b)) h else .bad
 |.add,.ref a,.ref b,h=>match h[a]?,h[b]? with
  |some (.lst x),some (.lst y)=>alloc (x++y) h
  |_,_=>.bad
 |.sub,.int i,.int j,h=>.ok (.int (i - j)) h
 |.mul,.int i,.int j,h=>if bx i j then .ok (.int (i*j)) h else .bad
 |.mul,.str a,.int k,h=>if 0<=k/\k<=1000/\a.length<=1000 then .ok (.str (rep k.toNat a)) h else .bad
 |.mul,.tup a,.int k,h=>if 0<=k/\k<=1000/\a.length<=1000 then .ok (.tup (rep k.toNat a)) h else .bad
 |.mul,.ref a,.int k,h=>match h[a]? with
  |some (.lst x)=>if 0<=k/\k<=1000/\x.length<=1000 then alloc (rep k.toNat x) h else .bad
  |_=>.bad
 |.fdiv,.int i,.int j,h=>if 0<j/\j<1073741824 then .ok (.int (i / j)) h else .bad
 |.mod,.int i,.int j,h=>if 0<j then .ok (.int (i % j)) h else .bad
 |_,_,_,_=>.bad
noncomputable def mem(h:Hh)(x:D):List D->Option Bool
 |[]=>some false
 |y :: ys=>do
  let b <-dS h deep y x
  let c <-mem h x ys
  pure (b ||c)
noncomputable def isin(x y:D)(h:Hh):Option Bool:=match y with
 |.str s=>match x with
  |.str [c]=>some (s.contains c)
  |_=>none
 |.tup ds=>mem h x ds
 |.ref n=>(aI h n).bind λds=>mem h x ds
 |_=>none
noncomputable def cop(o:aJ)(x y:D)(h:Hh):Option Bool:=match o,x,y with
 |.eq,x,y=>dS h deep x y
 |.ne,x,y=>(dS h deep x y).map (!·)
 |.lt,.int i,.int j=>some (decide (i<j))
 |.le,.int i,.int j=>some (decide (i<=j))
 |.gt,.int i,.int j=>some (decide (j<i))
 |.ge,.int i,.int j=>some (decide (j<=i))
 |.isin,x,y=>isin x y h
 |.cK,x,y=>(isin x y h).map (!·)
 |_,_,_=>none
noncomputable def cz(n:Nat)(i:Int):Option Nat:=if 0<=i then (if i<n then some i.toNat else none)else if -(n:Int)<=i then some (i+n).toNat else none
noncomputable def aX{α:Type}(xs:List α)(i:Int):Option α:=(cz xs.length i).bind λj=>xs[j]?
noncomputable def eH(x y:D)(h:Hh):Option D:=match x,y with
 |.tup ds,.int i=>aX ds i
 |.str s,.int i=>(aX s i).map λc=>.str [c]
 |.ref n,.int i=>(aI h n).bind λds=>aX ds i
 |_,_=>none
noncomputable def aC(n d:Nat):Option Int->Nat
 |none=>d
 |some v=>if v<0 then (v+n).toNat else min v.toNat n
noncomputable def cut{α:Type}(xs:List α)(lo hi:Option Int):List α:=(xs.drop (aC xs.length 0 lo)).take (aC xs.length xs.length hi - aC xs.length 0 lo)
noncomputable def fS(x:D)(lo hi:Option Int)(h:Hh):R D:=match x with
 |.tup ds=>.ok (.tup (cut ds lo hi)) h
 |.str s=>.ok (.str (cut s lo hi)) h
 |.ref n=>match aI h n with
  |some ds=>alloc (cut ds lo hi) h
  |none=>.bad
 |_=>.bad
noncomputable def bX(h:Hh):D->TY->Bool
 |.bl _,.bool=>true
 |.bl _,.int=>true
 |.int _,.int=>true
 |.str _,.str=>true
 |.tup _,.tuple=>true
 |.ref n,.list=>(aI h n).isSome
 |_,_=>false
noncomputable def boolsOf:List D->Option (List Bool)
 |[]=>some []
 |.bl b :: ds=>(boolsOf ds).map λr=>b :: r
 |_=>none
noncomputable def intsOf:List D->Option (List Int)
 |[]=>some []
 |.int i :: ds=>(intsOf ds).map λr=>i :: r
 |_=>none
noncomputable def strsOf:List D->Option (List (List Nat))
 |[]=>some []
 |.str s :: ds=>(strsOf ds).map λr=>s :: r
 |_=>none
noncomputable def aO(sep:List Nat):List (List Nat)->List Nat
 |[]=>[]
 |[s]=>s
 |s :: t :: r=>s++sep++aO sep (t :: r)
noncomputable def lexLe:List Nat->List Nat->Bool
 |[],_=>true
 |_ :: _,[]=>false
 |x :: xs,y :: ys=>if x=y then lexLe xs ys else decide (x<y)
noncomputable def Bu(x:List Nat):List (List Nat)->List (List Nat)
 |[]=>[x]
 |y :: ys=>if lexLe x y then x :: y :: ys else y :: Bu x ys
noncomputable def bV:List (List Nat)->List (List Nat)
 |[]=>[]
 |x :: xs=>Bu x (bV xs)
noncomputable def cW(i:Int):List Nat:=(toString i).toList.map Char.toNat
noncomputable def jW(a:Nat):Bool:=decide (48<=a)&&decide (a<=57)
noncomputable def jX:List Nat->Option Int
 |[a]=>if jW a then some ((a:Int) - 48)else none
 |[a,b]=>if jW a&&jW b then some (10*((a:Int) - 48)+((b:Int) - 48))else none
 |_=>none
noncomputable def aM(c:Nat):List Nat->List (List Nat)
 |[]=>[[]]
 |x :: s=>if x=c then [] :: aM c s else match aM c s with
  |p :: ps=>(x :: p) :: ps
  |[]=>[[x]]
noncomputable def oW(x y:D):Option (List D):=match x,y with
 |.str a,.str [c]=>if c<128 then some ((aM c a).map .str)else none
 |_,_=>none
noncomputable def cg(b:BI)(xs:List D)(h:Hh):R D:=match b,xs with
 |.len,[.str s]=>if s.length<=big then .ok (.int s.length) h else .bad
 |.len,[.tup ds]=>.ok (.int ds.length) h
 |.len,[.ref n]=>R.of ((aI h n).map λds=>.int ds.length) h
 |.all,[.ref n]=>R.of (((aI h n).bind boolsOf).map λbs=>.bl (bs.all id)) h
 |.sum,[.ref n]=>R.of (((aI h n).bind intsOf).map λis=>.int is.sum) h
 |.min,[.int i,.int j]=>.ok (.int (if j<i then j else i)) h
 |.oV,[.bl b]=>.ok (.int (if b then 1 else 0)) h
 |.dz,[.int i]=>if -1000000<i/\i<1000000 then .ok (.str (cW i)) h else .bad
 |.dz,[.str s]=>.ok (.str s) h
 |.ig,[.str s]=>R.of ((jX s).map .int) h
 |_,_=>.bad
noncomputable def cT(m:ME)(o:D)(xs:List D)(h:Hh):R D:=match m,o,xs with
 |.join,.str sep,[.ref n]=>match (aI h n).bind strsOf with
  |some ss=>if (ss.map (·.length)).sum+ss.length*sep.length<=big then .ok (.str (aO sep ss)) h else .bad
  |none=>.bad
 |.append,.ref n,[x]=>match h[n]? with
  |some (.lst ds)=>if ds.length<big then .ok .bg (h.set n (.lst (ds++[x])))else .bad
  |_=>.bad
 |.extend,.ref n,[.ref m]=>match h[n]?,h[m]? with
  |some (.lst ds),some (.lst es)=>if ds.length+es.length<=big then .ok .bg (h.set n (.lst (ds++es)))else .bad
  |_,_=>.bad
 |.pop,.ref n,[]=>match h[n]? with
  |some (.lst ds)=>match ds[ds.length - 1]? with
   |some x=>.ok x (h.set n (.lst ds.dropLast))
   |none=>.bad
  |_=>.bad
 |_,_,_=>.bad
noncomputable def qQ(m:ME)(x:D)(h:Hh):Bool:=match m,x with
 |.join,.str _=>true
 |.join,_=>false
 |_,.ref n=>(aI h n).isSome
 |_,_=>false
noncomputable def cu(x:D):List (D×D)->Option D
 |[]=>none
 | (k,v) :: r=>match dS [] 1 k x with
  |some true=>some v
  |some false=>cu x r
  |none=>none
abbrev Src:=List D×List (Nat×List D)
noncomputable def dO(h:Hh):D->Option Src
 |.tup ds=>some (ds,[])
 |.str s=>some (s.map λc=>.str [c],[])
 |.ref n=>(aI h n).map λds=>(ds,[(n,ds)])
 |_=>none
noncomputable def range(lo:Int)(n:Nat):List D:=(List.range n).map λ(i:Nat)=>.int (lo+i)
noncomputable def cG:List D->Option Src
 |[.int j]=>if -(2 ^ 62)<=j/\j<2 ^ 62 then some (range 0 j.toNat,[])else none
 |[.int i,.int j]=>if -(2 ^ 62)<=i/\i<2 ^ 62/\-(2 ^ 62)<=j/\j<2 ^ 62 then some (range i (j - i).toNat,[])else none
 |_=>none
noncomputable def ee:Int->List D->List D
 |_,[]=>[]
 |k,x :: xs=>.tup [.int k,x] :: ee (k+1) xs
noncomputable def sD(a b:List D):Bool:=@decide (a=b) (Classical.propDecidable _)
def mU(a b:List D):sD a b=true↔a=b:=@decide_eq_true_iff _ (Classical.propDecidable _)
@[simp] theorem sE(a:List D):sD a a=true:=(mU a a).mpr rfl
noncomputable def stays(h:Hh):List (Nat×List D)->Bool
 |[]=>true
 | (n,ds) :: r=>(match aI h n with|some es=>sD es ds|none=>false)&&stays h r
noncomputable def bM:List Nat->List D->Fr->Option Fr
 |[],[],fr=>some fr
 |i :: is,d :: ds,fr=>bM is ds (fr.set i (some d))
 |_,_,_=>none
noncomputable def bD:T->D->Fr->Option Fr
 |.one i,d,fr=>some (fr.set i (some d))
 |.many l,.tup ds,fr=>bM l ds fr
 |_,_,_=>none
noncomputable def slots:T->List Nat
 |.one i=>[i]
 |.many l=>l
noncomputable def undef(t:T)(fr:Fr):Bool:=(slots t).all λi=>(fr[i]?.join).isNone
noncomputable def Bv:D->Option (List D)
 |.tup ds=>some ds
 |_=>none
noncomputable def lP:D->Hh->R D
 |.tup ds,h=>.ok (.tup ds) h
 |.ref n,h=>match aI h n with
  |some ds=>if ds.length<=big then .ok (.tup ds) h else .bad
  |none=>.bad
 |_,_=>.bad
noncomputable def we(h:Hh):D->Option Src
 |.ref n=>(aI h n).map λds=>(ds,[(n,ds)])
 |_=>none
noncomputable def bz(f:D->Hh->R (Option D))(ck:List (Nat×List D)):List D->Hh->R (List D)
 |[],h=>if stays h ck then .ok [] h else .bad
 |d :: ds,h=>if stays h ck then (f d h).bind λo h1=>(bz f ck ds h1).bind λr h2=>.ok (o.toList++r) h2 else .bad
noncomputable def forL(f:D->Fr->Hh->R (Fl×Fr))(ck:List (Nat×List D)):List D->Fr->Hh->R (Fl×Fr)
 |[],fr,h=>if stays h ck then .ok (.nx,fr) h else .bad
 |d :: ds,fr,h=>if stays h ck then (f d fr h).bind λp h1=>match p.1 with
   |.nx=>forL f ck ds p.2 h1
   |.ct=>forL f ck ds p.2 h1
   |.bk=>.ok (.nx,p.2) h1
   |.ret x=>.ok (.ret x,p.2) h1
  else .bad
noncomputable def dU(t:Fr->Hh->R Bool)(f:Fr->Hh->R (Fl×Fr)):Nat->Fr->Hh->R (Fl×Fr)
 |0,_,_=>.bad
 |n+1,fr,h=>(t fr h).bind λb h1=>if b then (f fr h1).bind λp h2=>match p.1 with
   |.nx=>dU t f n p.2 h2
   |.ct=>dU t f n p.2 h2
   |.bk=>.ok (.nx,p.2) h2
   |.ret x=>.ok (.ret x,p.2) h2
  else .ok (.nx,fr) h1
abbrev aB:=Nat->List D->Hh->R D
noncomputable def intOf:D->Option Int
 |.int i=>some i
 |_=>none
mutual
noncomputable def ev(P:aB):E->Fr->Hh->R D
 |.c d,_,h=>.ok d h
 |.v i,fr,h=>R.of (fr[i]?.join) h
 |.tup es,fr,h=>(br P es fr h).bind λds h1=>if ds.length<=big then .ok (.tup ds) h1 else .bad
 |.lst es,fr,h=>(br P es fr h).bind λds h1=>alloc ds h1
 |.bin o a b,fr,h=>(ev P a fr h).bind λx h1=>(ev P b fr h1).bind λy h2=>bG o x y h2
 |.cmp o a b,fr,h=>(ev P a fr h).bind λx h1=>(ev P b fr h1).bind λy h2=>R.of ((cop o x y h2).map .bl) h2
 |.ch o p a b c,fr,h=>(ev P a fr h).bind λx h1=>(ev P b fr h1).bind λy h2=>(R.of (cop o x y h2) h2).bind λk h3=>
   if k then (ev P c fr h3).bind λz h4=>R.of ((cop p y z h4).map .bl) h4 else .ok (.bl false) h3
 |.nt a,fr,h=>(ev P a fr h).bind λx h1=>match x with
   |.bl b=>.ok (.bl (!b)) h1
   |_=>.bad
 |.neg a,fr,h=>(ev P a fr h).bind λx h1=>match x with
   |.int i=>.ok (.int (-i)) h1
   |_=>.bad
 |.an a b,fr,h=>(ev P a fr h).bind λx h1=>match x with
   |.bl true=>ev P b fr h1
   |.bl false=>.ok (.bl false) h1
   |_=>.bad
 |.orr a b,fr,h=>(ev P a fr h).bind λx h1=>match x with
   |.bl true=>.ok (.bl true) h1
   |.bl false=>ev P b fr h1
   |_=>.bad
 |.qP t a b,fr,h=>(aD P t fr h).bind λk h1=>if k then ev P a fr h1 else ev P b fr h1
 |.ix a b,fr,h=>(ev P a fr h).bind λx h1=>(ev P b fr h1).bind λy h2=>R.of (eH x y h2) h2
 |.sl a lo hi,fr,h=>(ev P a fr h).bind λx h1=>(dc P lo fr h1).bind λl h2=>(dc P hi fr h2).bind λu h3=>fS x l u h3
 |.cl f es,fr,h=>(br P es fr h).bind λds h1=>P f ds h1
 |.bi b es,fr,h=>(br P es fr h).bind λds h1=>cg b ds h1
 |.me m o es,fr,h=>(ev P o fr h).bind λx h1=>if qQ m x h1 then (br P es fr h1).bind λds h2=>cT m x ds h2 else .bad
 |.dB a ts,fr,h=>(ev P a fr h).bind λx h1=>.ok (.bl (ts.any (bX h1 x))) h1
 |.comp elt t it cond,fr,h=>(bO P it fr h).bind λs h1=>if undef t fr then
   (bz (λd h2=>match bD t d fr with
    |none=>.bad
    |some ak=>(fT P cond ak h2).bind λk h3=>if k then (ev P elt ak h3).bind λx h4=>.ok (some x) h4 else .ok none h3) s.2 s.1 h1).bind λds h2=>alloc ds h2 else .bad
 |.fR it,fr,h=>(bO P it fr h).bind λs h1=>alloc s.1 h1
 |.cV kvs a,fr,h=>(ev P a fr h).bind λx h1=>R.of (cu x kvs) h1
 |.iG a,fr,h=>(ev P a fr h).bind λx h1=>lP x h1
noncomputable def br(P:aB):Es->Fr->Hh->R (List D)
 |.nil,_,h=>.ok [] h
 |.cons e es,fr,h=>(ev P e fr h).bind λd h1=>(br P es fr h1).bind λds h2=>.ok (d :: ds) h2
noncomputable def dc(P:aB):Eo->Fr->Hh->R (Option Int)
 |.no,_,h=>.ok none h
 |.yes e,fr,h=>(ev P e fr h).bind λd h1=>R.of ((intOf d).map some) h1
noncomputable def fT(P:aB):Eo->Fr->Hh->R Bool
 |.no,_,h=>.ok true h
 |.yes e,fr,h=>aD P e fr h
noncomputable def aD(P:aB):E->Fr->Hh->R Bool
 |.an a b,fr,h=>(aD P a fr h).bind λk h1=>if k then aD P b fr h1 else .ok false h1
 |.orr a b,fr,h=>(aD P a fr h).bind λk h1=>if k then .ok true h1 else aD P b fr h1
 |.nt a,fr,h=>(aD P a fr h).bind λk h1=>.ok (!k) h1
 |e,fr,h=>(ev P e fr h).bind λx h1=>R.of (truthy h1 x) h1
noncomputable def bO(P:aB):It->Fr->Hh->R Src
 |.seq e,fr,h=>(ev P e fr h).bind λx h1=>R.of (dO h1 x) h1
 |.eF es,fr,h=>(br P es fr h).bind λds h1=>R.of (cG ds) h1
 |.gS a b,fr,h=>(ev P a fr h).bind λx h1=>(ev P b fr h1).bind λy h2=>R.of ((oW x y).map λl=>(l,[])) h2
 |.enum a,fr,h=>(ev P a fr h).bind λx h1=>R.of ((we h1 x).map λs=>(ee 0 s.1,s.2)) h1
 |.rev a,fr,h=>(ev P a fr h).bind λx h1=>R.of ((Bv x).map λds=>(ds.reverse,[])) h1
end
mutual
noncomputable def ex(P:aB)(w:Nat):S->Fr->Hh->R (Fl×Fr)
 |.set i e,fr,h=>(ev P e fr h).bind λx h1=>.ok (.nx,fr.set i (some x)) h1
 |.sC l e,fr,h=>(ev P e fr h).bind λx h1=>match bD (.many l) x fr with
   |some ak=>.ok (.nx,ak) h1
   |none=>.bad
 |.exp e,fr,h=>(ev P e fr h).bind λ_ h1=>.ok (.nx,fr) h1
 |.ret e,fr,h=>(ev P e fr h).bind λx h1=>.ok (.ret x,fr) h1
 |.iff t a b,fr,h=>(aD P t fr h).bind λk h1=>if k then exs P w a fr h1 else exs P w b fr h1
 |.for t it b,fr,h=>(bO P it fr h).bind λs h1=>forL (λd ak h2=>match bD t d ak with
   |some bE=>exs P w b bE h2
   |none=>.bad) s.2 s.1 fr h1
 |.Bt t b,fr,h=>dU (λak h2=>aD P t ak h2) (λak h2=>exs P w b ak h2) w fr h
 |.cZ _,_,_=>.bad
noncomputable def exs(P:aB)(w:Nat):Ss->Fr->Hh->R (Fl×Fr)
 |.nil,fr,h=>.ok (.nx,fr) h
 |.cons s ss,fr,h=>(ex P w s fr h).bind λp h1=>match p.1 with
   |.nx=>exs P w ss p.2 h1
   |_=>.ok p h1
end
structure Fn where
 np:Nat
 ns:Nat
 body:Ss
noncomputable def cL(fn:Fn)(ds:List D):Fr:=ds.map some++List.replicate (fn.ns - fn.np) none
noncomputable def endOf(r:R (Fl×Fr)):R D:=r.bind λp h=>match p.1 with
 |.ret d=>.ok d h
 |.nx=>.ok .bg h
 |_=>.bad
noncomputable def run(F:List Fn)(w:Nat):Nat->aB
 |0,_,_,_=>.bad
 |n+1,f,ds,h=>match F[f]? with
  |some fn=>if ds.length=fn.np then endOf (exs (run F w n) w fn.body (cL fn ds) h)else .bad
  |none=>.bad
def ku(F:List Fn)(w n f:Nat)(ds:List D)(h:Hh):run F w (n+1) f ds h=match F[f]? with
  |some fn=>if ds.length=fn.np then endOf (exs (run F w n) w fn.body (cL fn ds) h)else .bad
  |none=>.bad:=rfl
end Ev
namespace Sm
open PySem PySem.Spec PyProof.Rows L2
noncomputable def aq(l:List Nat):Str:=⟨l.toArray⟩
def aQ(l:List Nat):(aq l).length=l.length:=by simp[aq,Str.length]
def gc{a b:List Nat}(h:aq a=aq b):a=b:=by
 have h1:a.toArray=b.toArray:=AD Str.cps h;simpa using AD Array.toList h1
def iU:Ev.big=sizeLine:=by rw[Li];rfl
section
variable(K:PySem.W.Frag)
mutual
noncomputable def RV(H:Hp)(r:List Addr):Ev.D->V->Prop
 |.bg,v=>v=.bg
 |.bl b,v=>v=.bl b
 |.int i,v=>v=.int i
 |.str s,v=>v=.str (aq s)/\s.length<=sizeLine
 |.ref n,v=>∃a,v=.ref a/\r[n]?=some a
 |.tup ds,v=>∃a vs,v=.ref a/\b8 K H a vs/\az H r ds vs
noncomputable def az(H:Hp)(r:List Addr):List Ev.D->List V->Prop
 |[],vs=>vs=[]
 |d :: ds,vs=>∃v w,vs=v :: w/\RV H r d v/\az H r ds w
end
noncomputable def sF(H:Hp)(a:Addr)(vs:List V):Prop:=(∃o,H a=some (.aW o (.lst vs)))\/
 ∃(o:Obj) (its:Array Value) (n:Nat),K.lookup a=some o/\o.cls=.type "list" /\o.dict=none/\o.data=.seq its n/\its.size<=sizeLine/\Vals vs its.toList
noncomputable def RO(H:Hp)(r:List Addr):Ev.O->Addr->Prop
 |.lst ds,a=>∃vs,H a=some (.lst vs)/\az K H r ds vs
 |.aW ds,a=>∃vs,sF K H a vs/\az K H r ds vs
structure HR(H:Hp)(r:List Addr)(h:Ev.Hh):Prop where
 len:r.length=h.length
 ob:∀(n:Nat) o,h[n]?=some o->∃a,r[n]?=some a/\RO K H r o a
 inj:∀(n m:Nat) a x y,r[n]?=some a->r[m]?=some a->h[n]?=some (.lst x)->h[m]?=some (.lst y)->n=m
structure Fm(r r':List Addr)(H H':Hp):Prop where
 pre:∀(n:Nat) a,r[n]?=some a->r'[n]?=some a
 new:∀a∈r',a∈r\/H a=none
 keep:∀a o,H a=some o->a∉r->H' a=some o
 tups:∀a vs,b8 K H a vs->b8 K H' a vs
end
section
variable{K:PySem.W.Frag}{H H1 H2:Hp}{r r1 r2:List Addr}{h:Ev.Hh}
def Fm.refl:Fm K r r H H:=⟨λ_ _ e=>e,λ_ e=>.inl e,λ_ _ e _=>e,λ_ _ e=>e⟩
def Fm.trans(a:Fm K r r1 H H1)(b:Fm K r1 r2 H1 H2):Fm K r r2 H H2 where
 pre:=λn x e=>b.pre n x (a.pre n x e)
 new:=λx e=>by
  rcases b.new x e with q|q
  .exact a.new x q
  .by_cases z:x∈r
   .exact .inl z
   .refine .inr ?_;cases w:H x with
    |none=>rfl
    |some o=>rw[a.keep x o w z]at q;cases q
 keep:=λx o e n=>by
  refine b.keep x o (a.keep x o e n) λz=>?_;rcases a.new x z with q|q
  .exact n q
  .rw[e]at q;cases q
 tups:=λx vs e=>b.tups x vs (a.tups x vs e)
mutual
theorem RV.grow(f:∀(n:Nat) a,r[n]?=some a->r1[n]?=some a)(g:∀a vs,b8 K H a vs->b8 K H1 a vs):∀{d:Ev.D}{v:V},RV K H r d v->RV K H1 r1 d v
 |.bg,_,e=>e
 |.bl _,_,e=>e
 |.int _,_,e=>e
 |.str _,_,e=>e
 |.ref n,_,⟨a,e,z⟩=>⟨a,e,f n a z⟩
 |.tup ds,_,⟨a,vs,e,z,q⟩=>⟨a,vs,e,g a vs z,az.grow f g q⟩
theorem az.grow(f:∀(n:Nat) a,r[n]?=some a->r1[n]?=some a)(g:∀a vs,b8 K H a vs->b8 K H1 a vs):∀{ds:List Ev.D}{vs:List V},az K H r ds vs->az K H1 r1 ds vs
 |[],_,e=>e
 |_ :: _,_,⟨v,w,e,z,q⟩=>⟨v,w,e,RV.grow f g z,az.grow f g q⟩
end
def RV.mono(f:Fm K r r1 H H1){d:Ev.D}{v:V}(q:RV K H r d v):RV K H1 r1 d v:=q.grow f.pre f.tups
def az.mono(f:Fm K r r1 H H1){ds:List Ev.D}{vs:List V}(q:az K H r ds vs):az K H1 r1 ds vs:=q.grow f.pre f.tups
def az.nil:az K H r [] []:=by simp[az]
def az.cons{d:Ev.D}{v:V}{ds:List Ev.D}{vs:List V}(a:RV K H r d v)(b:az K H r ds vs):az K H r (d :: ds) (v :: vs):=by
 simp only[az];exact⟨v,vs,rfl,a,b⟩
theorem az.length:∀{ds:List Ev.D}{vs:List V},az K H r ds vs->vs.length=ds.length
 |[],_,e=>by simp only[az]at e;subst e;rfl
 |_ :: _,_,e=>by
  simp only[az]at e;obtain⟨v,w,rfl,_,q⟩:=e;simp[az.length q]
theorem az.get:∀{ds:List Ev.D}{vs:List V}{i:Nat}{d:Ev.D},az K H r ds vs->ds[i]?=some d->∃v,vs[i]?=some v/\RV K H r d v
 |[],_,_,_,_,e=>by simp at e
 |_ :: _,_,0,_,h,e=>by
  simp only[az]at h;obtain⟨v,w,rfl,z,q⟩:=h;simp at e;subst e;exact⟨v,by simp,z⟩
 |_ :: _,_,i+1,_,h,e=>by
  simp only[az]at h;obtain⟨v,w,rfl,z,q⟩:=h;obtain⟨u,a,b⟩:=az.get (i:=i) q (by simpa using e);exact⟨u,by simpa using a,b⟩
theorem az.append:∀{ds es:List Ev.D}{vs ws:List V},az K H r ds vs->az K H r es ws->az K H r (ds++es) (vs++ws)
 |[],_,_,_,a,b=>by simp only[az]at a;subst a;simpa using b
 |_ :: _,_,_,_,a,b=>by
  simp only[az]at a;obtain⟨v,w,rfl,z,q⟩:=a;simp only[LH];exact .cons z (az.append q b)
theorem az.take:∀{ds:List Ev.D}{vs:List V}(n:Nat),az K H r ds vs->az K H r (ds.take n) (vs.take n)
 |_,_,0,_=>by simp[az]
 |[],_,_+1,a=>by simp only[az]at a;subst a;simp[az]
 |_ :: _,_,n+1,a=>by
  simp only[az]at a;obtain⟨v,w,rfl,z,q⟩:=a;simp only[Lh];exact .cons z (az.take n q)
theorem az.drop:∀{ds:List Ev.D}{vs:List V}(n:Nat),az K H r ds vs->az K H r (ds.drop n) (vs.drop n)
 |_,_,0,a=>by simpa using a
 |[],_,_+1,a=>by simp only[az]at a;subst a;simp[az]
 |_ :: _,_,n+1,a=>by
  simp only[az]at a;obtain⟨v,w,rfl,z,q⟩:=a;simp only[LV];exact az.drop n q
theorem az.rep{ds:List Ev.D}{vs:List V}(a:az K H r ds vs):∀k:Nat,az K H r (Ev.rep k ds) (Ev.rep k vs)
 |0=>by simp[Ev.rep,az]
 |k+1=>by
  have h:=az.rep a k;simp only[Ev.rep,DI,Je]at h ⊢;exact a.append h
def Fm.laid{p:Addr}{o:HO}(hp:H p=none):Fm K r (r++[p]) H (upd H p o) where
 pre:=λn a e=>by rw[dJ (List.getElem?_eq_some_iff.mp e).1];exact e
 new:=λa e=>by
  rcases List.mem_append.mp e with q|q
  .exact .inl q
  .rw[MP]at q;subst q;exact .inr hp
 keep:=λa ob e _=>by rw[aU (bu e hp)];exact e
 tups:=λa vs e=>by
  rcases e with (e|⟨ob,e⟩)|e
  .exact .inl (.inl (by rw[aU (bu e hp)];exact e))
  .exact .inl (.inr ⟨ob,by rw[aU (bu e hp)];exact e⟩)
  .exact .inr e
def Fm.tup{p:Addr}{o:HO}(hp:H p=none):Fm K r r H (upd H p o) where
 pre:=λn a e=>e
 new:=λa e=>.inl e
 keep:=λa ob e _=>by rw[aU (bu e hp)];exact e
 tups:=(Fm.laid (r:=r) hp).tups
theorem RO.mono{o:Ev.O}{a:Addr}(f:Fm K r r1 H H1)(q:RO K H r o a)(hl:∀ds vs,o=.lst ds->H a=some (.lst vs)->H1 a=some (.lst vs))(hf:∀ob vs,H a=some (.aW ob vs)->H1 a=some (.aW ob vs))
  : RO K H1 r1 o a:=by
 cases o with
 |lst ds=>
  obtain⟨vs,e,z⟩:=q;exact⟨vs,hl ds vs rfl e,z.mono f⟩
 |aW ds=>
  obtain⟨vs,e,z⟩:=q;refine⟨vs,?_,z.mono f⟩;rcases e with ⟨ob,e⟩|e
  .exact .inl ⟨ob,hf _ _ e⟩
  .exact .inr e
theorem HR.tup{p:Addr}{o:HO}(hr:HR K H r h)(hp:H p=none):HR K (upd H p o) r h where
 len:=hr.len
 ob:=λn ob e=>by
  obtain⟨a,e1,q⟩:=hr.ob n ob e;exact⟨a,e1,q.mono (Fm.tup hp) (λ_ vs _ z=>by rw[aU (bu z hp)];exact z) (λ_ _ z=>by rw[aU (bu z hp)];exact z)
   ⟩
 inj:=hr.inj
theorem HR.lst{p:Addr}{ds:List Ev.D}{vs:List V}(hr:HR K H r h)(hp:H p=none)(q:az K H r ds vs):HR K (upd H p (.lst vs)) (r++[p]) (h++[.lst ds]) where
 len:=by simp[hr.len]
 ob:=λn ob e=>by
  by_cases hn:n<h.length
  .rw[dJ hn]at e;obtain⟨a,e1,z⟩:=hr.ob n ob e;exact⟨a,(Fm.laid (K:=K) (o:=.lst vs) hp).pre n a e1,z.mono (Fm.laid hp) (λ_ vs _ z=>by rw[aU (bu z hp)];exact z) (λ_ _ z=>by rw[aU (bu z hp)];exact z)
    ⟩
  .have e2:=(List.getElem?_eq_some_iff.mp e).1;simp only[vt,Lb]at e2;have e3:n=h.length:=by omega
   subst e3;simp at e;subst e;exact⟨p,by rw[<-hr.len];simp,vs,cU,q.mono (Fm.laid hp)⟩
 inj:=λn m a x y e1 e2 e3 e4=>by
  have out:∀(k:Nat) z,(h++[Ev.O.lst ds])[k]?=some (.lst z)->(r++[p])[k]?=some a->(k<h.length/\r[k]?=some a/\h[k]?=some (.lst z)/\a≠p)\/(k=h.length/\a=p):=λk z q1 q2=>by
   by_cases hk:k<h.length
   .rw[dJ hk]at q1;rw[dJ (by rw[hr.len];exact hk)]at q2;obtain⟨b,e5,vs',e6,_⟩:=hr.ob k _ q1;rw[q2]at e5;cases e5;exact .inl ⟨hk,q2,q1,bu e6 hp⟩
   .have e5:=(List.getElem?_eq_some_iff.mp q1).1;simp only[vt,Lb]at e5;have e6:k=r.length:=by rw[hr.len];omega
    subst e6;simp at q2;exact .inr ⟨hr.len,q2.symm⟩
  rcases out n x e3 e1 with ⟨h1,h2,h3,h4⟩|⟨h1,h2⟩
  .rcases out m y e4 e2 with ⟨k1,k2,k3,k4⟩|⟨k1,k2⟩
   .exact hr.inj n m a x y h2 k2 h3 k3
   .exact absurd k2 h4
  .rcases out m y e4 e2 with ⟨k1,k2,k3,k4⟩|⟨k1,k2⟩
   .exact absurd h2 k4
   .rw[h1,k1]
def HR.read{n:Nat}{ds:List Ev.D}(hr:HR K H r h)(e:Ev.aI h n=some ds):∃a vs,r[n]?=some a/\cS K H a vs/\az K H r ds vs:=by
 unfold Ev.aI at e;split at e
 .rename_i z;cases e;obtain⟨a,e1,vs,e2,e3⟩:=hr.ob n _ z;exact⟨a,vs,e1,.inl (.inl e2),e3⟩
 .rename_i z;cases e;obtain⟨a,e1,vs,e2,e3⟩:=hr.ob n _ z;refine⟨a,vs,e1,?_,e3⟩;rcases e2 with ⟨ob,e2⟩|e2
  .exact .inl (.inr ⟨ob,e2⟩)
  .exact .inr e2
 .cases e
def Fm.write{a:Addr}{vs ws:List V}(ha:H a=some (.lst vs))(hm:a∈r):Fm K r r H (upd H a (.lst ws)) where
 pre:=λn b e=>e
 new:=λb e=>.inl e
 keep:=λb ob e n=>by rw[aU (λz=>n (by rw[z];exact hm))];exact e
 tups:=λb us e=>by
  rcases e with (e|⟨ob,e⟩)|e
  .exact .inl (.inl (by rw[aU (kg e ha (by intro z;cases z))];exact e))
  .exact .inl (.inr ⟨ob,by rw[aU (kg e ha (by intro z;cases z))];exact e⟩)
  .exact .inr e
theorem HR.write{n:Nat}{a:Addr}{ds es:List Ev.D}{vs ws:List V}(hr:HR K H r h)(hn:h[n]?=some (.lst ds))(Bw:r[n]?=some a)(ha:H a=some (.lst vs))(q:az K H r es ws) :
  HR K (upd H a (.lst ws)) r (h.set n (.lst es)) where
 len:=by simp[hr.len]
 ob:=λm ob e=>by
  have f:=Fm.write (K:=K) (ws:=ws) ha (IC Bw);by_cases hm:m=n
  .subst hm;rw[kZ (List.getElem?_eq_some_iff.mp hn).1]at e;cases e;exact⟨a,Bw,ws,cU,q.mono f⟩
  .rw[bU (λz=>hm z.symm)]at e;obtain⟨b,e1,z⟩:=hr.ob m ob e;refine⟨b,e1,z.mono f (λJp us z3 z2=>?_) (λKo us z2=>by rw[aU (kg z2 ha (by intro z;cases z))];exact z2)
    ⟩
   by_cases hb:b=a
   .subst hb;subst z3;exact absurd (hr.inj m n b Jp ds e1 Bw e hn) hm
   .rw[aU hb];exact z2
 inj:=λk m b x y e1 e2 e3 e4=>by
  have back:∀(j:Nat) z,(h.set n (Ev.O.lst es))[j]?=some (.lst z)->∃z',h[j]?=some (.lst z'):=λj z w=>by
   by_cases hj:j=n
   .subst hj;exact⟨ds,hn⟩
   .rw[bU (λz=>hj z.symm)]at w;exact⟨z,w⟩
  obtain⟨x',e5⟩:=back k x e3;obtain⟨y',e6⟩:=back m y e4;exact hr.inj k m b x' y' e1 e2 e5 e6
def eT{p:Addr}{vs ws:List V}(hp:H p=some (.lst vs)):∀a us,b8 K H a us->b8 K (upd H p (.lst ws)) a us:=λb us e=>by
 rcases e with (e|⟨ob,e⟩)|e
 .exact .inl (.inl (by rw[aU (kg e hp (by intro z;cases z))];exact e))
 .exact .inl (.inr ⟨ob,by rw[aU (kg e hp (by intro z;cases z))];exact e⟩)
 .exact .inr e
def HR.other{p:Addr}{vs ws:List V}(hr:HR K H r h)(hp:H p=some (.lst vs))(hn:p∉r):HR K (upd H p (.lst ws)) r h where
 len:=hr.len
 ob:=λn ob e=>by
  obtain⟨a,e1,q⟩:=hr.ob n ob e;have ha:a≠p:=λz=>hn (by rw[<-z];exact IC e1);refine⟨a,e1,?_⟩;cases ob with
  |lst ds=>
   obtain⟨us,e2,e3⟩:=q;exact⟨us,by rw[aU ha];exact e2,e3.grow (λ_ _ z=>z) (eT hp)⟩
  |aW ds=>
   obtain⟨us,e2,e3⟩:=q;refine⟨us,?_,e3.grow (λ_ _ z=>z) (eT hp)⟩;rcases e2 with ⟨o,e2⟩|e2
   .exact .inl ⟨o,by rw[aU ha];exact e2⟩
   .exact .inr e2
 inj:=hr.inj
def Fm.other{p:Addr}{vs ws:List V}(f:Fm K r r1 H H1)(h0:H p=none)(hp:H1 p=some (.lst vs)):Fm K r r1 H (upd H1 p (.lst ws)) where
 pre:=f.pre
 new:=f.new
 keep:=λa o e n=>by rw[aU (bu e h0)];exact f.keep a o e n
 tups:=λa us e=>eT hp a us (f.tups a us e)
def Fm.cK{p:Addr}{o:HO}(f:Fm K r r1 H H1)(hp:H p=some o)(hn:p∉r):p∉r1/\H1 p=some o:=by
 refine⟨λz=>?_,f.keep p o hp hn⟩;rcases f.new p z with q|q
 .exact hn q
 .rw[hp]at q;cases q
def HR.known{p:Addr}{ds:List Ev.D}{vs:List V}(hr:HR K H r h)(hp:H p=some (.lst vs))(hn:p∉r)(q:az K H r ds vs):HR K H (r++[p]) (h++[.lst ds]):=by
 have pre:∀(n:Nat) a,r[n]?=some a->(r++[p])[n]?=some a:=λn a e=>by rw[dJ (List.getElem?_eq_some_iff.mp e).1];exact e
 refine⟨by simp[hr.len],λn ob e=>?_,λn m a x y e1 e2 e3 e4=>?_
  ⟩
 .by_cases hk:n<h.length
  .rw[dJ hk]at e;obtain⟨a,e1,z⟩:=hr.ob n ob e;refine⟨a,pre n a e1,?_⟩;cases ob with
   |lst ds=>obtain⟨us,e2,e3⟩:=z;exact⟨us,e2,e3.grow pre λ_ _ z=>z⟩
   |aW ds=>obtain⟨us,e2,e3⟩:=z;exact⟨us,e2,e3.grow pre λ_ _ z=>z⟩
  .have e2:=(List.getElem?_eq_some_iff.mp e).1;simp only[vt,Lb]at e2;have e3:n=h.length:=by omega
   subst e3;simp at e;subst e;exact⟨p,by rw[<-hr.len];simp,vs,hp,q.grow pre λ_ _ z=>z⟩
 .have out:∀(k:Nat) z,(h++[Ev.O.lst ds])[k]?=some (.lst z)->(r++[p])[k]?=some a->(k<h.length/\r[k]?=some a/\h[k]?=some (.lst z)/\a≠p)\/(k=h.length/\a=p):=λk z q1 q2=>by
   by_cases hk:k<h.length
   .rw[dJ hk]at q1;rw[dJ (by rw[hr.len];exact hk)]at q2;exact .inl ⟨hk,q2,q1,λz=>hn (by rw[<-z];exact IC q2)⟩
   .have e5:=(List.getElem?_eq_some_iff.mp q1).1;simp only[vt,Lb]at e5;have e6:k=r.length:=by rw[hr.len];omega
    subst e6;simp at q2;exact .inr ⟨hr.len,q2.symm⟩
  rcases out n x e3 e1 with ⟨h1,h2,h3,h4⟩|⟨h1,h2⟩
  .rcases out m y e4 e2 with ⟨k1,k2,k3,k4⟩|⟨k1,k2⟩
   .exact hr.inj n m a x y h2 k2 h3 k3
   .exact absurd k2 h4
  .rcases out m y e4 e2 with ⟨k1,k2,k3,k4⟩|⟨k1,k2⟩
   .exact absurd h2 k4
   .rw[h1,k1]
def Fm.known{p:Addr}(f:Fm K r r1 H H1)(h0:H p=none):Fm K r (r1++[p]) H H1 where
 pre:=λn a e=>by
  have e':=f.pre n a e;rw[dJ (List.getElem?_eq_some_iff.mp e').1];exact e'
 new:=λa e=>by
  rcases List.mem_append.mp e with q|q
  .exact f.new a q
  .rw[MP]at q;subst q;exact .inr h0
 keep:=f.keep
 tups:=f.tups
end
end Sm
namespace Sm
open PySem PySem.Spec PyProof.Rows L2
open Ev (D O Hh Fr R aB E Es Eo It T S Ss Fl Src aS aJ TY BI ME)
section
variable(K:PySem.W.Frag)
noncomputable def Res(r:List Addr)(H:Hp)(h':Hh)(d:D)(Q:VK):Prop:=∀v H' r',RV K H' r' d v->HR K H' r' h'->Fm K r r' H H'->Q v H'
structure SR(m:List Nat)(H:Hp)(r:List Addr)(fr:Fr)(s:L2.St):Prop where
 len:s.length=m.length
 sl:∀(j i:Nat) d,m[j]?=some i->fr[i]?=some (some d)->∃v,s[j]?=some (some v)/\RV K H r d v
inductive tJ(m:List Nat)(P:aB)(e:E)(s:L2.St)(H:Hp)(Q:VK):Prop
 |mk (r:List Addr) (fr:Fr) (h:Hh) (d:D) (h':Hh) (c0:SR K m H r fr s) (c1:HR K H r h) (c2:Ev.ev P e fr h=.ok d h') (c3:Res K r H h' d Q):tJ m P e s H Q
inductive x6(m:List Nat)(P:aB)(e:E)(s:L2.St)(H:Hp)(Q:Bool->Hp->Prop):Prop
 |mk (r:List Addr) (fr:Fr) (h:Hh) (k:Bool) (h':Hh) (c0:SR K m H r fr s) (c1:HR K H r h) (c2:Ev.aD P e fr h=.ok k h') (c3:∀H' r',HR K H' r' h'->Fm K r r' H H'->Q k H'):x6 m P e s H Q
inductive Bx(m:List Nat)(P:aB)(es:Es)(s:L2.St)(H:Hp)(Q:List V->Hp->Prop):Prop
 |mk (r:List Addr) (fr:Fr) (h:Hh) (ds:List D) (h':Hh) (c0:SR K m H r fr s) (c1:HR K H r h) (c2:Ev.br P es fr h=.ok ds h') (c3:∀vs H' r',az K H' r' ds vs->HR K H' r' h'->Fm K r r' H H'->Q vs H'):Bx m P es s H Q
inductive Gp(m:List Nat)(P:aB)(e:Eo)(s:L2.St)(H:Hp)(Q:Option Int->Hp->Prop):Prop
 |mk (r:List Addr) (fr:Fr) (h:Hh) (o:Option Int) (h':Hh) (c0:SR K m H r fr s) (c1:HR K H r h) (c2:Ev.dc P e fr h=.ok o h') (c3:∀H' r',HR K H' r' h'->Fm K r r' H H'->Q o H'):Gp m P e s H Q
inductive dh(f:D->D->Hh->R D)(x:V)(y:V)(H:Hp)(Q:VK):Prop
 |mk (r:List Addr) (h:Hh) (a:D) (b:D) (d:D) (h':Hh) (c0:HR K H r h) (c1:RV K H r a x) (c2:RV K H r b y) (c3:f a b h=.ok d h') (c4:Res K r H h' d Q):dh f x y H Q
inductive mV(f:List D->Hh->R D)(xs:List V)(H:Hp)(Q:VK):Prop
 |mk (r:List Addr) (h:Hh) (as:List D) (d:D) (h':Hh) (c0:HR K H r h) (c1:az K H r as xs) (c2:f as h=.ok d h') (c3:Res K r H h' d Q):mV f xs H Q
inductive qR(f:D->List D->Hh->R D)(x:V)(xs:List V)(H:Hp)(Q:VK):Prop
 |mk (r:List Addr) (h:Hh) (a:D) (as:List D) (d:D) (h':Hh) (c0:HR K H r h) (c1:RV K H r a x) (c2:az K H r as xs) (c3:f a as h=.ok d h') (c4:Res K r H h' d Q):qR f x xs H Q
inductive By  (x:V) (lo:Option Int) (hi:Option Int) (H:Hp) (Q:VK):Prop
 |mk (r:List Addr) (h:Hh) (a:D) (d:D) (h':Hh) (c0:HR K H r h) (c1:RV K H r a x) (c2:Ev.fS a lo hi h=.ok d h') (c3:Res K r H h' d Q):By x lo hi H Q
end
section
variable{K:PySem.W.Frag}{m:List Nat}{H H':Hp}{r r':List Addr}{fr:Fr}{s:L2.St}{h h':Hh}{d:D}{Q:VK}
theorem SR.mono(a:SR K m H r fr s)(f:Fm K r r' H H'):SR K m H' r' fr s:=⟨a.len,λj i d e1 e2=>by
 obtain⟨v,q,z⟩:=a.sl j i d e1 e2;exact⟨v,q,z.mono f⟩⟩
def Res.here{v:V}(q:Res K r H h d Q)(a:RV K H r d v)(b:HR K H r h):Q v H:=q v H r a b .refl
def Res.later(q:Res K r H h' d Q)(f:Fm K r r' H H'):Res K r' H' h' d Q:=λv H2 r2 a b g=>q v H2 r2 a b (f.trans g)
theorem Res.lst{ds:List D}{vs:List V}(q:Res K r H h' d Q)(e:Ev.alloc ds h=.ok d h')(a:az K H r ds vs)(b:HR K H r h):vs.length<=sizeLine/\∀p,H p=none->Q (.ref p) (upd H p (.lst vs)):=by
 unfold Ev.alloc at e;split at e
 .rename_i z;cases e;refine⟨by rw[a.length,<-iU];exact z,λp hp=>?_⟩;exact q _ _ (r++[p]) ⟨p,rfl,by rw[<-b.len];simp⟩ (b.lst hp a) (.laid hp)
 .cases e
theorem Res.tup{ds:List D}{vs:List V}(q:Res K r H h (.tup ds) Q)(a:az K H r ds vs)(b:HR K H r h){p:Addr}(hp:H p=none):Q (.ref p) (upd H p (.tup vs)):=
 q _ _ r ⟨p,vs,rfl,.of cU,a.mono (.tup hp)⟩ (b.tup hp) (.tup hp)
end
def PE.of{X:Cx}{e:Expr}{t t':TE}(h:PE X e t)(w:∀s H Q,t' s H Q->t s H Q):PE X e t':=λpins s σ H Q I q=>h pins s σ H Q I (w _ _ _ q)
def PT.of{X:Cx}{e:Expr}{t t':TT}(h:PT X e t)(w:∀s H Q,t' s H Q->t s H Q):PT X e t':=λpins s σ H Q I q=>h pins s σ H Q I (w _ _ _ q)
def PW.of{X:Cx}{e:Expr}{t t':TT}(h:PW X e t)(w:∀s H Q,t' s H Q->t s H Q):PW X e t':=λwh pins s σ H Q I q=>h wh pins s σ H Q I (w _ _ _ q)
def PA.of{X:Cx}{es:List Expr}{t t':TA}(h:PA X es t)(w:∀s H Q,t' s H Q->t s H Q):PA X es t':=λpos pins s σ H Q I q=>h pos pins s σ H Q I (w _ _ _ q)
def PO.of{X:Cx}{e:Option Expr}{t t':TO}(h:PO X e t)(w:∀s H Q,t' s H Q->t s H Q):PO X e t':=λpins s σ H Q I q=>h pins s σ H Q I (w _ _ _ q)
structure FI where
 name:Str
 addr:Addr
 fd:FuncData
 ps:List Str
noncomputable def jC(K:PySem.W.Frag)(F:List Ev.Fn)(w n f:Nat):Sp:=λvs H Q _=>∃r h ds d h',az K H r ds vs/\HR K H r h/\Ev.run F w n f ds h=.ok d h'/\Res K r H h' d Q
noncomputable def qS(K:PySem.W.Frag)(d:D)(v:V):Prop:=∀H r,RV K H r d v
def qS.rv{K:PySem.W.Frag}{H:Hp}{r:List Addr}{d:D}{v:V}(h:qS K d v):RV K H r d v:=h H r
structure Tb where
 F:List Ev.Fn
 w:Nat
 fi:List FI
 bl:List Str
 cs:List (Str×D)
 dk:List (Str×List (D×D))
noncomputable def tabOf:List (D×D)->List (PyData×PyData)
 | (.str k,.str v) :: r=>(.str (aq k),.str (aq v)) :: tabOf r
 |_=>[]
structure Good(G:Tb)(n:Nat)(sc:Scope)(N:List Str)(df:Bool)(X:Cx):Prop where
 nm:X.N=N
 sc:X.env.scope=sc
 calm:X.calm=true
 own:df=true->∀x,X.fn x=true
 room:cY n X.A
 xe:X.xe=λ_ _=>False
 fn:∀(f:Nat) i,G.fi[f]?=some i->X.mg i.name=some (.ref i.addr)/\PySem.W.keepIn X.K (.ref i.addr)=true/\Binds X.K i.fd i.ps []/\ff X.prog X.w X.K X.mg X.base iT n i.addr i.fd i.ps (jC X.K G.F G.w n f)
 bl:∀x∈G.bl,X.mg x=none
 cs:∀x d,(x,d)∈G.cs->∃v u,X.mg x=some u/\RelV v u/\qS X.K d v
 dk:∀x kvs,(x,kvs)∈G.dk->∃a,X.mg x=some (.ref a)/\∀h:Heap,X.K.In h->StrTab X.prog X.w h a (tabOf kvs)
section
variable(G:Tb)(n:Nat)(sc:Scope)(N:List Str)(df:Bool)(m:List Nat)
noncomputable def JE(e:E)(x:Expr):Prop:=∀X,Good G n sc N df X->PE X x (tJ X.K m (Ev.run G.F G.w n) e)
noncomputable def JT(e:E)(x:Expr):Prop:=∀X,Good G n sc N df X->PT X x (x6 X.K m (Ev.run G.F G.w n) e)
noncomputable def JW(e:E)(x:Expr):Prop:=∀X,Good G n sc N df X->PW X x (x6 X.K m (Ev.run G.F G.w n) e)
noncomputable def JA(es:Es)(xs:List Expr):Prop:=∀X,Good G n sc N df X->PA X xs (Bx X.K m (Ev.run G.F G.w n) es)
noncomputable def JO(e:Eo)(x:Option Expr):Prop:=∀X,Good G n sc N df X->PO X x (Gp X.K m (Ev.run G.F G.w n) e)
end
section
variable{G:Tb}{n:Nat}{sc:Scope}{N:List Str}{df:Bool}{m:List Nat}{a b c:E}{xa xb:Expr}{pos:Pos}
def Good.vis{X:Cx}(g:Good G n sc N df X){x:Str}(h:sc.names.lookup x=some .local\/sc.names.lookup x=some .cell\/sc.names.lookup x=some .free):tV X.env.scope x:=by
 rw[g.sc];exact h
def Good.gl{X:Cx}(g:Good G n sc N df X){x:Str}(h:sc.names.lookup x=some .globalImplicit):Gl X x:=by
 unfold Gl Env.kindOf;rw[g.sc];exact h
def HQ(j i:Nat){x:Str}(hj:m[j]?=some i:=by rfl)(hN:N[j]?=some x:=by rfl)
  (hv:sc.names.lookup x=some .local\/sc.names.lookup x=some .cell\/sc.names.lookup x=some .free:=by first|exact Or.inl rfl|exact Or.inr (Or.inl rfl)|exact Or.inr (Or.inr rfl))
  (hd:(x==("__debug__" : Str))=false:=by decide) (hcd:(x==("__classdict__" : Str))=false:=by decide):JE G n sc N df m (.v i) (.Name x pos):=by
 intro X g;refine PE.of (tX (i:=j) (by rw[g.nm];exact hN) (g.vis hv) hd hcd) λs H Q q=>?_;obtain⟨r,fr,h,d,h',sr,hr,e,q⟩:=q;simp only[Ev.ev]at e;obtain⟨e2,e3⟩:=Ev.av e;subst e3;obtain⟨v,q1,q2⟩:=sr.sl j i d hj (by
  cases z:fr[i]? with
  |none=>rw[z]at e2;cases e2
  |some o=>
   rw[z]at e2;have e':o=some d:=e2;rw[e'])
 exact⟨v,q1,q.here q2 hr⟩
def nO{K:PySem.W.Frag}{P:aB}{d:D}{v:V}(hc:qS K d v):∀s H Q,tJ K m P (.c d) s H Q->tC v s H Q:=λs H Q q=>by
 obtain⟨r,fr,h,d',h',sr,hr,e,q⟩:=q;simp only[Ev.ev]at e;cases e;exact q.here hc.rv hr
def BA{i:Int}{j}:JE G n sc N df m (.c (.int i)) (.Constant (.int i) j pos):=λX g=>PE.of AS (nO λ_ _=>rfl)
def Ez{k:Bool}{j}:JE G n sc N df m (.c (.bl k)) (.Constant (.bool k) j pos):=λX g=>PE.of D8 (nO λ_ _=>rfl)
def BB{l:List Nat}{x:Str}{j}(hx:x=aq l:=by decide +kernel)(hl:l.length<=sizeLine:=by decide):JE G n sc N df m (.c (.str l)) (.Constant (.str x) j pos):=
 λX g=>PE.of oE (nO λ_ _=>by subst hx;exact⟨rfl,hl⟩)
def jn {x:Str}{d:D}(hm:(x,d)∈G.cs) (hg:sc.names.lookup x=some .globalImplicit:=by rfl) (hd:(x==("__debug__" : Str))=false:=by decide):JE G n sc N df m (.c d) (.Name x pos):=λX g=>by
 obtain⟨v,u,h1,h2,h3⟩:=g.cs x d hm;exact PE.of (lJ (g.gl hg) h1 h2 hd) (nO h3)
def BC:JA G n sc N df m .nil []:=λX g=>PA.of oH λs H Q q=>by
 obtain⟨r,fr,h,ds,h',sr,hr,e,q⟩:=q;simp only[Ev.br]at e;cases e;exact q [] H r .nil hr .refl
def zv{es:Es}{xs:List Expr}(ha:JE G n sc N df m a xa)(hs:JA G n sc N df m es xs)(hst:∀env:Env,starEach (xa :: xs) env=(false,eval xa env) :: starEach xs env:=by intro _;rfl):JA G n sc N df m (.cons a es) (xa :: xs):=
 λX g=>PA.of (jl (ha X g) (hs X g) (hst _)) λs H Q q=>by
  obtain⟨r,fr,h,ds,h',sr,hr,e,q⟩:=q;simp only[Ev.br]at e;obtain⟨d,h1,e1,e⟩:=Ev.ah e;obtain⟨ds',h2,e2,e⟩:=Ev.ah e;cases e;refine⟨r,fr,h,d,h1,sr,hr,e1,λv H1 r1 v1 hr1 f1=>?_⟩;refine⟨r1,fr,h1,ds',_,sr.mono f1,hr1,e2,λvs H2 r2 v2 hr2 f2=>?_⟩;exact q _ H2 r2 (.cons (v1.mono f2) v2) hr2 (f1.trans f2)
def BD{es:Es}{xs:List Expr}{k}(hs:JA G n sc N df m es xs):JE G n sc N df m (.tup es) (.Tuple xs k pos):=λX g=>PE.of (Bb (hs X g)) λs H Q q=>by
 obtain⟨r,fr,h,d,h',sr,hr,e,q⟩:=q;simp only[Ev.ev]at e;obtain⟨ds,h1,e1,e⟩:=Ev.ah e;split at e
 .rename_i z;cases e;refine⟨r,fr,h,ds,_,sr,hr,e1,λvs H1 r1 v1 hr1 f1=>⟨by rw[v1.length,<-iU];exact z,λp hp=>?_⟩⟩;exact(q.later f1).tup v1 hr1 hp
 .cases e
def BE{es:Es}{xs:List Expr}(hs:JA G n sc N df m es xs):JE G n sc N df m (.lst es) (.List xs pos):=λX g=>PE.of (Bc (hs X g)) λs H Q q=>by
 obtain⟨r,fr,h,d,h',sr,hr,e,q⟩:=q;simp only[Ev.ev]at e;obtain⟨ds,h1,e1,e⟩:=Ev.ah e;refine⟨r,fr,h,ds,h1,sr,hr,e1,λvs H1 r1 v1 hr1 f1=>?_⟩;exact(q.later f1).lst e v1 hr1
def kB{K:PySem.W.Frag}{P:aB}{f:D->D->Hh->R D}{e':E}(he:∀fr h,Ev.ev P e' fr h=(Ev.ev P a fr h).bind λx h1=>(Ev.ev P b fr h1).bind λy h2=>f x y h2) :
  ∀s H Q,tJ K m P e' s H Q->ua (dh K f) (tJ K m P a) (tJ K m P b) s H Q:=λs H Q q=>by
 obtain⟨r,fr,h,d,h',sr,hr,e,q⟩:=q;rw[he]at e;obtain⟨x,h1,e1,e⟩:=Ev.ah e;obtain⟨y,h2,e2,e⟩:=Ev.ah e;refine⟨r,fr,h,x,h1,sr,hr,e1,λv H1 r1 v1 hr1 f1=>?_⟩;refine⟨r1,fr,h1,y,h2,sr.mono f1,hr1,e2,λu H2 r2 v2 hr2 f2=>?_⟩;exact⟨r2,h2,x,y,d,h',hr2,v1.mono f2,v2,e,q.later (f1.trans f2)⟩
def kC{o:aS}{op:Operator}(ho:∀X,Good G n sc N df X->bR X (binaryOp op) (dh X.K (Ev.bG o)))(ha:JE G n sc N df m a xa)(hb:JE G n sc N df m b xb):JE G n sc N df m (.bin o a b) (.BinOp xa op xb pos):=
 λX g=>PE.of (Eh (ho X g) (ha X g) (hb X g)) (kB λfr h=>by simp only[Ev.ev])
noncomputable def cB(o:aJ):D->D->Hh->R D:=λx y h=>R.of ((Ev.cop o x y h).map .bl) h
def uw{o:aJ}{op:CmpOp}(ho:∀X,Good G n sc N df X->bR X (compareOp op) (dh X.K (cB o)))(ha:JE G n sc N df m a xa)(hb:JE G n sc N df m b xb)(hm:behindInMarks op xb=false):JE G n sc N df m (.cmp o a b) (.Compare xa [op] [xb] pos):=
 λX g=>PE.of (yZ (ho X g) (ha X g) (hb X g) hm) (kB λfr h=>by simp only[Ev.ev,cB])
def fh{o:aJ}{x y d:D}{h h':Hh}(e:cB o x y h=.ok d h'):∃k,Ev.cop o x y h=some k/\d=.bl k/\h'=h:=by
 unfold cB at e;obtain⟨e1,rfl⟩:=Ev.av e;cases z:Ev.cop o x y h' with
 |none=>rw[z]at e1;cases e1
 |some k=>rw[z]at e1;cases e1;exact⟨k,rfl,rfl,rfl⟩
def kD{o:aJ}{op:CmpOp}(ho:∀X,Good G n sc N df X->bR X (compareOp op) (dh X.K (cB o)))(ha:JE G n sc N df m a xa)(hb:JE G n sc N df m b xb)(hm:behindInMarks op xb=false):JT G n sc N df m (.cmp o a b) (.Compare xa [op] [xb] pos):=
 λX g=>PT.of (y9 (ho X g) (ha X g) (hb X g) hm) λs H Q q=>by
  obtain⟨r,fr,h,k,h',sr,hr,e,q⟩:=q;simp only[Ev.aD]at e;obtain⟨d,h1,e1,e⟩:=Ev.ah e;have e0:=e1;simp only[Ev.ev]at e0;obtain⟨x,h2,_,e0⟩:=Ev.ah e0;obtain⟨y,h3,_,e0⟩:=Ev.ah e0;obtain⟨k',e2,e3,e4⟩:=fh (o:=o) (show cB o x y h3=_ from e0);subst e3;simp only[Ev.truthy]at e;cases e;refine kB (e':=.cmp o a b) (f:=cB o) (λfr h=>by simp only[Ev.ev,cB]) s H _ ⟨r,fr,h,.bl k,_,sr,hr,e1,λv H1 r1 v1 hr1 f1=>?_⟩;exact⟨k,v1,q H1 r1 hr1 f1⟩
def x8{K:PySem.W.Frag}{P:aB}{o p:aJ}:∀s H Q,tJ K m P (.ch o p a b c) s H Q->oG (dh K (cB o)) (dh K (cB p)) (tJ K m P a) (tJ K m P b) (tJ K m P c) s H Q:=λs H Q q=>by
 obtain⟨r,fr,h,d,h',sr,hr,e,q⟩:=q;simp only[Ev.ev]at e;obtain⟨x,h1,e1,e⟩:=Ev.ah e;obtain⟨y,h2,e2,e⟩:=Ev.ah e;obtain⟨k,h3,e3,e⟩:=Ev.ah e;obtain⟨e3,e4⟩:=Ev.av e3;subst e4;refine⟨r,fr,h,x,h1,sr,hr,e1,λv H1 r1 v1 hr1 f1=>?_⟩;refine⟨r1,fr,h1,y,h3,sr.mono f1,hr1,e2,λu H2 r2 v2 hr2 f2=>?_⟩;refine⟨r2,h3,x,y,.bl k,h3,hr2,v1.mono f2,v2,by simp[cB,e3],λw H3 r3 v3 jD f3=>?_⟩;refine⟨k,v3,?_⟩;cases k with
 |false=>
  simp only[xF,K0]at e;cases e;exact(q.later ((f1.trans f2).trans f3)).here rfl jD
 |true=>
  simp only[D6]at e;obtain⟨z,h4,e5,e⟩:=Ev.ah e;refine⟨r3,fr,h3,z,h4,((sr.mono f1).mono f2).mono f3,jD,e5,λt H4 r4 v4 x9 f4=>?_⟩;exact⟨r4,h4,y,z,d,h',x9,(v2.mono f3).mono f4,v4,e,q.later (((f1.trans f2).trans f3).trans f4)⟩
end
section
variable{G:Tb}{n:Nat}{sc:Scope}{N:List Str}{df:Bool}{m:List Nat}{a b c:E}{xa xb xc:Expr}{pos:Pos}
def EA{o p:aJ}{op op':CmpOp}(ho:∀X,Good G n sc N df X->bR X (compareOp op) (dh X.K (cB o)))(hp:∀X,Good G n sc N df X->bR X (compareOp op') (dh X.K (cB p)))
  (ha:JE G n sc N df m a xa) (hb:JE G n sc N df m b xb) (hc:JE G n sc N df m c xc) (hm:lastMarks [op,op'] [xb,xc]=false:=by with_unfolding_all rfl):JE G n sc N df m (.ch o p a b c) (.Compare xa [op,op'] [xb,xc] pos):=
 λX g=>PE.of (vN (ho X g) (hp X g) (ha X g) (hb X g) (hc X g) hm) x8
def EB{K:PySem.W.Frag}{P:aB}{e':E}{t:TE}(h:∀s H Q,tJ K m P e' s H Q->t s H Q)(hb:∀fr h d h',Ev.ev P e' fr h=.ok d h'->∃k,d=.bl k)
  (ht:∀fr h,Ev.aD P e' fr h=(Ev.ev P e' fr h).bind λx h1=>R.of (Ev.truthy h1 x) h1):∀s H Q,x6 K m P e' s H Q->r8 t s H Q:=λs H Q q=>by
 obtain⟨r,fr,h1,k,h',sr,hr,e,q⟩:=q;rw[ht]at e;obtain⟨d,h2,e1,e⟩:=Ev.ah e;obtain⟨k',e2⟩:=hb _ _ _ _ e1;subst e2;simp only[Ev.truthy]at e;cases e;exact h s H _ ⟨r,fr,h1,.bl k,_,sr,hr,e1,λv H1 r1 v1 hr1 f1=>⟨k,v1,q H1 r1 hr1 f1⟩⟩
def EC{P:aB}{o p:aJ}(fr:Fr)(h:Hh)(d:D)(h':Hh)(e:Ev.ev P (.ch o p a b c) fr h=.ok d h'):∃k,d=.bl k:=by
 simp only[Ev.ev]at e;obtain⟨x,h1,e1,e⟩:=Ev.ah e;obtain⟨y,h2,e2,e⟩:=Ev.ah e;obtain⟨k,h3,e3,e⟩:=Ev.ah e;split at e
 .obtain⟨z,h4,e5,e⟩:=Ev.ah e;obtain⟨k',_,e6,_⟩:=fh (o:=p) (show cB p y z h4=_ from e);exact⟨k',e6⟩
 .cases e;exact⟨false,rfl⟩
def ED{o p:aJ}{op op':CmpOp}(ho:∀X,Good G n sc N df X->bR X (compareOp op) (dh X.K (cB o)))(hp:∀X,Good G n sc N df X->bR X (compareOp op') (dh X.K (cB p)))
  (ha:JE G n sc N df m a xa) (hb:JE G n sc N df m b xb) (hc:JE G n sc N df m c xc) (hm:lastMarks [op,op'] [xb,xc]=false:=by with_unfolding_all rfl):JT G n sc N df m (.ch o p a b c) (.Compare xa [op,op'] [xb,xc] pos):=
 λX g=>PT.of (vO (ho X g) (hp X g) (ha X g) (hb X g) (hc X g) hm) (EB x8 EC λfr h=>by simp only[Ev.aD])
def BF{op}(ha:JE G n sc N df m a xa):JE G n sc N df m a (.BoolOp op [xa] pos):=λX g=>AX (ha X g)
def EE{rest:List Expr}(ha:JE G n sc N df m a xa)(hb:JE G n sc N df m b (.BoolOp .And (xb :: rest) pos)):JE G n sc N df m (.an a b) (.BoolOp .And (xa :: xb :: rest) pos):=λX g=>PE.of (AY (ha X g) (hb X g)) λs H Q q=>by
 obtain⟨r,fr,h,d,h',sr,hr,e,q⟩:=q;simp only[Ev.ev]at e;obtain⟨x,h1,e1,e⟩:=Ev.ah e;refine⟨r,fr,h,x,h1,sr,hr,e1,λv H1 r1 v1 hr1 f1=>?_⟩;split at e
 .exact⟨true,v1,r1,fr,h1,d,h',sr.mono f1,hr1,e,q.later f1⟩
 .cases e;exact⟨false,v1,(q.later f1).here rfl hr1⟩
 .cases e
def HS(h:JW G n sc N df m a xa):JT G n sc N df m a xa:=λX g=>(h X g).pt
def zw(ha:JT G n sc N df m a xa):JW G n sc N df m a (.BoolOp .Or [xa] pos):=λX g=>AV (ha X g)
def uy{rest:List Expr}(ha:JT G n sc N df m a xa)(hb:JW G n sc N df m b (.BoolOp .Or (xb :: rest) pos)):JW G n sc N df m (.orr a b) (.BoolOp .Or (xa :: xb :: rest) pos):=λX g=>PW.of (D9 (ha X g) (hb X g)) λs H Q q=>by
 obtain⟨r,fr,h,k,h',sr,hr,e,q⟩:=q;simp only[Ev.aD]at e;obtain⟨k1,h1,e1,e⟩:=Ev.ah e;refine⟨r,fr,h,k1,h1,sr,hr,e1,λH1 r1 hr1 f1=>?_⟩;cases k1 with
 |false=>exact⟨r1,fr,h1,k,h',sr.mono f1,hr1,e,λH2 r2 hr2 f2=>q H2 r2 hr2 (f1.trans f2)⟩
 |true=>
  have e':R.ok true h1=R.ok k h':=e;cases e';exact q H1 r1 hr1 f1
def EF(ha:JT G n sc N df m a xa):JT G n sc N df m (.nt a) (.UnaryOp .Not xa pos):=λX g=>PT.of (AW (ha X g)) λs H Q q=>by
 obtain⟨r,fr,h,k,h',sr,hr,e,q⟩:=q;simp only[Ev.aD]at e;obtain⟨k1,h1,e1,e⟩:=Ev.ah e;cases e;exact⟨r,fr,h,k1,_,sr,hr,e1,λH1 r1 hr1 f1=>q H1 r1 hr1 f1⟩
def BG{K:PySem.W.Frag}{H:Hp}{r:List Addr}{h:Hh}{d:D}{v:V}{k:Bool}(hr:HR K H r h)(v1:RV K H r d v)(e:Ev.truthy h d=some k):vP K v H k:=by
 cases d with
 |bg=>simp only[RV]at v1;subst v1;cases e;rfl
 |bl x=>simp only[RV]at v1;subst v1;cases e;rfl
 |int x=>simp only[RV]at v1;subst v1;cases e;rfl
 |str x=>
  simp only[RV]at v1;obtain⟨rfl,z⟩:=v1;cases e;refine⟨by rw[aQ];exact z,?_⟩;rw[aQ];cases x with
  |nil=>rfl
  |cons c l=>simp;omega
 |tup ds=>
  simp only[RV]at v1;obtain⟨p,vs,rfl,z,q⟩:=v1;cases e;refine .inr (.inl ⟨vs,z,?_⟩);have hl:=q.length;cases ds<;>cases vs<;>simp_all
 |ref i=>
  simp only[RV]at v1;obtain⟨p,rfl,z⟩:=v1;have et:Ev.truthy h (.ref i)=(Ev.aI h i).map λds=>!ds.isEmpty:=by
   first
    |rfl
    | (simp only[Ev.truthy];split<;>first|rfl | (rename_i kvs z;first|exact(Kp ⟨kvs,z⟩).elim|exact(hss ⟨kvs,z⟩).elim))
  rw[et]at e;simp only[bC]at e;obtain⟨ds,e1,rfl⟩:=e;obtain⟨p',vs,e2,q1,q2⟩:=hr.read e1;rw[z]at e2;cases e2;refine .inl ⟨vs,q1,?_⟩;have hl:=q2.length;cases ds<;>cases vs<;>simp_all
def BH(ha:JE G n sc N df m a xa)(he:∀(P:aB) fr h,Ev.aD P a fr h=(Ev.ev P a fr h).bind λx h1=>R.of (Ev.truthy h1 x) h1:=by intros;simp only[Ev.aD])
  (hx:∀(env:Env) whole,isTrue xa env whole=(do let v <-whole;standAt xa.pos;holding [v] (truthy v)):=by intro _ _;rfl):JT G n sc N df m a xa:=λX g=>PT.of (vQ (ha X g) (hx _)) λs H Q q=>by
 obtain⟨r,fr,h,k,h',sr,hr,e,q⟩:=q;rw[he]at e;obtain⟨d,h1,e1,e⟩:=Ev.ah e;obtain⟨e,rfl⟩:=Ev.av e;refine⟨r,fr,h,d,_,sr,hr,e1,λv H1 r1 v1 hr1 f1=>⟨k,BG hr1 v1 e,q H1 r1 hr1 f1⟩⟩
noncomputable def BJ:D->D->Hh->R D:=λx y h=>R.of (Ev.eH x y h) h
def EG(ho:∀X,Good G n sc N df X->qN X (dh X.K BJ))(ha:JE G n sc N df m a xa)(hb:JE G n sc N df m b xb)(hs:lN xb:=by intro _ _;rfl):JE G n sc N df m (.ix a b) (.Subscript xa xb pos):=
 λX g=>PE.of (Er (ho X g) (ha X g) (hb X g) hs) (kB λfr h=>by simp only[Ev.ev,BJ])
def EH:JO G n sc N df m .no none:=λX g=>PO.of ze λs H Q q=>by
 obtain⟨r,fr,h,o,h',sr,hr,e,q⟩:=q;simp only[Ev.dc]at e;cases e;exact q H r hr .refl
def BK(ha:JE G n sc N df m a xa):JO G n sc N df m (.yes a) (some xa):=λX g=>PO.of (zf (ha X g)) λs H Q q=>by
 obtain⟨r,fr,h,o,h',sr,hr,e,q⟩:=q;simp only[Ev.dc]at e;obtain⟨d,h1,e1,e⟩:=Ev.ah e;obtain⟨e,rfl⟩:=Ev.av e;cases d with
 |int i=>
  cases e;exact⟨r,fr,h,.int i,_,sr,hr,e1,λv H1 r1 v1 hr1 f1=>⟨i,v1,q H1 r1 hr1 f1⟩⟩
 |_=>cases e
def EI{lo hi:Eo}{xl xh:Option Expr}{p2}(ho:∀X,Good G n sc N df X->gQ X (By X.K))(ha:JE G n sc N df m a xa)(hl:JO G n sc N df m lo xl)(hu:JO G n sc N df m hi xh):JE G n sc N df m (.sl a lo hi) (.Subscript xa (.Slice xl xh none p2) pos):=
 λX g=>PE.of (vU (ho X g) (ha X g) (hl X g) (hu X g)) λs H Q q=>by
  obtain⟨r,fr,h,d,h',sr,hr,e,q⟩:=q;simp only[Ev.ev]at e;obtain⟨x,h1,e1,e⟩:=Ev.ah e;obtain⟨l,h2,e2,e⟩:=Ev.ah e;obtain⟨u,h3,e3,e⟩:=Ev.ah e;refine⟨r,fr,h,x,h1,sr,hr,e1,λv H1 r1 v1 hr1 f1=>?_⟩;refine⟨r1,fr,h1,l,h2,sr.mono f1,hr1,e2,λH2 r2 hr2 f2=>?_⟩;refine⟨r2,fr,h2,u,h3,(sr.mono f1).mono f2,hr2,e3,λH3 r3 jD f3=>?_⟩;exact⟨r3,h3,x,d,h',jD,(v1.mono f2).mono f3,e,q.later ((f1.trans f2).trans f3)⟩
def qT{K:PySem.W.Frag}{P:aB}{es:Es}{f:List D->Hh->R D}{e':E}(he:∀fr h,Ev.ev P e' fr h=(Ev.br P es fr h).bind f) :
  ∀s H Q,tJ K m P e' s H Q->Bf (mV K f) (Bx K m P es) s H Q:=λs H Q q=>by
 obtain⟨r,fr,h,d,h',sr,hr,e,q⟩:=q;rw[he]at e;obtain⟨ds,h1,e1,e⟩:=Ev.ah e;exact⟨r,fr,h,ds,h1,sr,hr,e1,λvs H1 r1 v1 hr1 f1=>⟨r1,h1,ds,d,h',hr1,v1,e,q.later f1⟩⟩
def yc{k:BI}{es:Es}{x:Str}{id:String}{e0:Expr}{xs:List Expr}{p:Pos}(hc:∀X,Good G n sc N df X->dN X (.builtin id) (mV X.K (Ev.cg k)))(hs:JA G n sc N df m es (e0 :: xs))(hb:x∈G.bl:=by decide +kernel)
  (hg:sc.names.lookup x=some .globalImplicit:=by rfl) (hv:bootBuiltins x=some (.builtin id)) (hn:x≠"__name__" :=by decide) (hd:(x==("__debug__" : Str))=false:=by decide)
  (hst:∀env:Env,starEach (e0 :: xs) env=(false,eval e0 env) :: starEach xs env:=by intro _;rfl) (hpl:∀env:Env,(backTo pos (starEach xs env)).any (·.1)=false:=by intro _;rfl) :
  JE G n sc N df m (.bi k es) (.Call (.Name x p) (e0 :: xs) [] pos):=
 λX g=>PE.of (oK (hc X g) (g.gl hg) (g.bl x hb) hv (hs X g) hn hd (hst _) (hpl _)) (qT λfr h=>by simp only[Ev.ev])
def yd{k:BI}{es:Es}{x:Str}{id:String}{e0:Expr}{xs:List Expr}{p:Pos}(hc:∀X,Good G n sc N df X->dN X (.type id) (mV X.K (Ev.cg k)))(hs:JA G n sc N df m es (e0 :: xs))(hb:x∈G.bl:=by decide +kernel)
  (hg:sc.names.lookup x=some .globalImplicit:=by rfl) (hv:bootBuiltins x=some (.type id)) (hn:x≠"__name__" :=by decide) (hd:(x==("__debug__" : Str))=false:=by decide)
  (hst:∀env:Env,starEach (e0 :: xs) env=(false,eval e0 env) :: starEach xs env:=by intro _;rfl) (hpl:∀env:Env,(backTo pos (starEach xs env)).any (·.1)=false:=by intro _;rfl) :
  JE G n sc N df m (.bi k es) (.Call (.Name x p) (e0 :: xs) [] pos):=
 λX g=>PE.of (mR (hc X g) (g.gl hg) (g.bl x hb) hv (hs X g) hn hd (hst _) (hpl _)) (qT λfr h=>by simp only[Ev.ev])
def EJ{f:Nat}{i:FI}{es:Es}{e0:Expr}{xs:List Expr}{p:Pos}(hf:G.fi[f]?=some i)(hs:JA G n sc N df m es (e0 :: xs))
  (hg:sc.names.lookup i.name=some .globalImplicit:=by rfl) (hd:(i.name==("__debug__" : Str))=false:=by decide)
  (hst:∀env:Env,starEach (e0 :: xs) env=(false,eval e0 env) :: starEach xs env:=by intro _;rfl) (hpl:∀env:Env,(backTo pos (starEach xs env)).any (·.1)=false:=by intro _;rfl) :
  JE G n sc N df m (.cl f es) (.Call (.Name i.name p) (e0 :: xs) [] pos):=λX g=>by
 obtain⟨h1,h2,h3,h4⟩:=g.fn f i hf;refine PE.of (zb h4 g.room (g.gl hg) h1 h2 h3 .nil Eu (hs X g) hd (hst _) (hpl _)) λs H Q q=>?_;obtain⟨r,fr,h,d,h',sr,hr,e,q⟩:=q;simp only[Ev.ev]at e;obtain⟨ds,h5,e1,e⟩:=Ev.ah e;refine⟨r,fr,h,ds,h5,sr,hr,e1,λvs H1 r1 v1 hr1 f1=>?_⟩;exact⟨r1,h5,ds,d,h',by rw[La];exact v1,hr1,e,q.later f1⟩
noncomputable def wg:ME->String
 |.join=>"str"
 |_=>"list"
def uz{K:PySem.W.Frag}{H:Hp}{r:List Addr}{h:Hh}{k:ME}{d:D}{v:V}{ty:String}(hr:HR K H r h)(v1:RV K H r d v)(e:Ev.qQ k d h=true)(ht:ty=wg k):uf K ty v H:=by
 subst ht;have lst:∀i,d=.ref i->(Ev.aI h i).isSome=true->uf K "list" v H:=λi ed es=>by
  subst ed;obtain⟨ds,e1⟩:=Option.isSome_iff_exists.mp es;obtain⟨p,vs,e2,q1,q2⟩:=hr.read e1;simp only[RV]at v1;obtain⟨p',rfl,e3⟩:=v1;rw[e2]at e3;cases e3;exact .inl ⟨rfl,vs,q1⟩
 cases k with
 |join=>
  cases d with
  |str l=>simp only[RV]at v1;obtain⟨rfl,_⟩:=v1;rfl
  |_=>cases e
 |append=>cases d with|ref i=>exact lst i rfl e|_=>cases e
 |extend=>cases d with|ref i=>exact lst i rfl e|_=>cases e
 |pop=>cases d with|ref i=>exact lst i rfl e|_=>cases e
def EK {k:ME}{es:Es}{e0:Expr}{xs:List Expr}{name:Str}{apos:Pos}{ty id:String}(pa:PlainAttrs ty) (slot:Slot ty name id) (hty:typeOf (.builtin id)=pure (.type "method_descriptor"))
  (hm:∀X,Good G n sc N df X->oN X id (qR X.K (Ev.cT k))) (ht:ty=wg k) (ha:JE G n sc N df m a xa) (hs:JA G n sc N df m es (e0 :: xs))
  (hbase:∀env:Env,attributeBase xa name env (eval xa env)=eval xa env:=by intro _;rfl)
  (hfew:∀env:Env,((backTo pos (starEach (e0 :: xs) env)).all (λx=>!x.1)&&(backToKw pos (keywordEach [] env)).all (λx=>x.1.isSome)
   &&decide ((e0 :: xs).length+([]:List Keyword).length+(if ([]:List Keyword).isEmpty then 0 else 1)<30))=true:=by intro _;rfl)
  (hline:(apos.endLine==pos.line)=true:=by rfl) (hst:∀env:Env,starEach (e0 :: xs) env=(false,eval e0 env) :: starEach xs env:=by intro _;rfl) (hpl:∀env:Env,(backTo pos (starEach xs env)).any (·.1)=false:=by intro _;rfl) :
  JE G n sc N df m (.me k a es) (.Call (.Attribute xa name apos) (e0 :: xs) [] pos):=λX g=>
 PE.of (xW pa slot hty (hm X g) (ha X g) (hs X g) (hbase _) (hfew _) hline (hst _) (hpl _)) λs H Q q=>by
  obtain⟨r,fr,h,d,h',sr,hr,e,q⟩:=q;simp only[Ev.ev]at e;obtain⟨x,h1,e1,e⟩:=Ev.ah e;split at e
  .rename_i hk;obtain⟨ds,h2,e2,e⟩:=Ev.ah e;refine⟨r,fr,h,x,h1,sr,hr,e1,λv H1 r1 v1 hr1 f1=>⟨uz hr1 v1 hk ht,?_⟩⟩;refine⟨r1,fr,h1,ds,h2,sr.mono f1,hr1,e2,λvs H2 r2 v2 hr2 f2=>?_⟩;exact⟨r2,h2,x,ds,d,h',hr2,v1.mono f2,v2,e,q.later (f1.trans f2)⟩
  .cases e
def BL {k:ME}{name:Str}{apos:Pos}{ty id:String}(pa:PlainAttrs ty) (slot:Slot ty name id) (hty:typeOf (.builtin id)=pure (.type "method_descriptor"))
  (hm:∀X,Good G n sc N df X->oN X id (qR X.K (Ev.cT k))) (ht:ty=wg k) (ha:JE G n sc N df m a xa)
  (hbase:∀env:Env,attributeBase xa name env (eval xa env)=eval xa env:=by intro _;rfl) (hline:(apos.endLine==pos.line)=true:=by rfl) :
  JE G n sc N df m (.me k a .nil) (.Call (.Attribute xa name apos) [] [] pos):=λX g=>
 PE.of (Bl pa slot hty (hm X g) (ha X g) (hbase _) hline) λs H Q q=>by
  obtain⟨r,fr,h,d,h',sr,hr,e,q⟩:=q;simp only[Ev.ev]at e;obtain⟨x,h1,e1,e⟩:=Ev.ah e;split at e
  .rename_i hk;simp only[Ev.br,Ev.aj]at e;refine⟨r,fr,h,x,h1,sr,hr,e1,λv H1 r1 v1 hr1 f1=>⟨uz hr1 v1 hk ht,?_⟩⟩;exact⟨r1,h1,x,[],d,h',hr1,v1,.nil,e,q.later f1⟩
  .cases e
end
end Sm
namespace Sm
open PySem PySem.Spec PyProof.Rows L2
open Ev (D O Hh Fr R aB E Es Eo T S Ss Fl Src aS aJ TY BI ME)
noncomputable def lQ(K:PySem.W.Frag)(r0:List Addr)(H0:Hp)(s:Src)(J:L2.It):Prop:=∀(i:Nat) H1 r1 h1,HR K H1 r1 h1->Fm K r0 r1 H0 H1->Ev.stays h1 s.2=true->
 (∀d,s.1[i]?=some d->J.go i H1/\∀x H2,J.xV i H1 x H2->∃r2,RV K H2 r2 d x/\HR K H2 r2 h1/\Fm K r1 r2 H1 H2)/\(s.1.length<=i->J.stop i H1)
inductive Gq(K:PySem.W.Frag)(m:List Nat)(P:aB)(it:Ev.It)(s:L2.St)(H:Hp)(Rr:L2.It->Hp->Prop):Prop
 |mk (r:List Addr) (fr:Fr) (h:Hh) (src:Src) (h':Hh) (c0:SR K m H r fr s) (c1:HR K H r h) (c2:Ev.bO P it fr h=.ok src h') (c3:∀J H' r',HR K H' r' h'->Fm K r r' H H'->lQ K r' H' src J->Rr J H'):Gq K m P it s H Rr
noncomputable def JI(G:Tb)(n:Nat)(sc:Scope)(N:List Str)(df:Bool)(m:List Nat)(it:Ev.It)(tg x:Expr):Prop:=∀X,Good G n sc N df X->PI X tg x (Gq X.K m (Ev.run G.F G.w n) it)
noncomputable def ye(z:Str):L2.It:=⟨λi _=>i<z.length,λi H x H'=>H'=H/\∃c,z.cps[i]?=some c/\x=.str ⟨#[c]⟩,λi _=>z.length<=i⟩
def BN{M:Model}{A:Around}{E:Value->Shared->Prop}{s:Shared}{tg:Expr}{it:Value}{x:Str}{t:Tok}{Q:Unit->Shared->Prop}(hQ:Q () s):wpAny M A (letOwnedTupleGo tg it (.str x t)) Q E s:=by
 unfold letOwnedTupleGo;cases tg<;>first
  |exact nv hQ
  | (cases it<;>exact nv hQ)
def oX {P:Program}{w:World}{K:PySem.W.Frag}{tg:Expr}(z:Str) (t:Tok) (it:Addr) (ty:String) (hty:ty = "str_ascii_iterator" \/ty = "str_iterator") :
  Turn P w K tg (ye z) [it] it (λi h=>h.IsStrIter it ty z t i) where
 mem:=by simp
 obj:=λi h st b hb=>by
  have e:b=it:=by simpa using hb
  subst e;obtain⟨o,e,c,d⟩:=st;exact⟨o,e,λv z=>by rw[d]at z;cases z⟩
 keep:=λi h h' st k=>by
  obtain⟨o,e,c,d⟩:=st;exact⟨o,k it (by simp) o e,c,d⟩
 item:=by
  intro X hP hw hK hc i pins s σ H E I hf st hg;subst hP hw hK;obtain⟨f0,f1,f2,f3,f4,f5⟩:=hf it (by simp);have W:Walks X.prog X.w X.A it [it] [it] z.cps.size (SignAt z) (λi h=>h.IsStrIter it ty z t i):=by
   rcases hty with e|e
   .subst e;exact Walks.strAscii (I.ok.hd hc) it z t
   .subst e;exact Walks.strWide (I.ok.hd hc) it z t
  refine W.item i s _ _ hg st λv h' tk hv st' kk=>?_;obtain⟨c,u,hc',rfl⟩:=hv;have I1:Inv X pins σ H { s with heap:=h',toks:=tk }:=I.turned (λb o hb e=>kk b o (by simpa using hb) e) f0 f1 f3 f4 f5;exact⟨_,rfl,BN ⟨.str ⟨#[c]⟩,H,I1,⟨u,rfl⟩,⟨rfl,c,hc',rfl⟩,st',λb hb=>(hf b hb).1⟩⟩
 done:=by
  intro X hP hw hK hc i pins s σ H E I hf st hg;subst hP hw hK;obtain⟨f0,f1,f2,f3,f4,f5⟩:=hf it (by simp);rcases hty with e|e
  .subst e;exact wpAny_pyNext_ascii_end (I.ok.hd hc) st (by simpa[Str.length,ye]using hg) λh' eb=>⟨rfl,I.turned (t':=s.toks) (λb o hb e=>eb b o hb e) f0 f1 f3 f4 f5⟩
  .subst e;exact wpAny_pyNext_wide_end (I.ok.hd hc) st (by simpa[Str.length,ye]using hg) λh' eb=>⟨rfl,I.turned (t':=s.toks) (λb o hb e=>eb b o hb e) f0 f1 f3 f4 f5⟩
 self:=λ_ _ _ _ _ st h=>by
  rcases hty with e|e
  .subst e;exact wpAny_pyIter_striter_ascii st h
  .subst e;exact wpAny_pyIter_striter_wide st h
noncomputable def yf(K:PySem.W.Frag)(x:V)(H:Hp)(Rr:L2.It->Hp->Prop):Prop:=
 (∃a xs,x=.ref a/\cS K H a xs/\Rr (Gh K a) H)\/(∃a xs,x=.ref a/\b8 K H a xs/\Rr (Gi K a) H)\/∃z,x=.str z/\Rr (ye z) H
def BO{X:Cx}{tg l:Expr}{tl:TE}{wi:TI}(hl:PE X l tl)(hw:∀s H Rr,wi s H Rr->tl s H λx H1=>yf X.K x H1 Rr):PI X tg l wi:=by
 intro pins s σ H Rr I h;refine aR (hl pins s σ H _ I (hw _ _ _ h)) λv s1 ⟨x,H1,I1,r1,q1⟩=>?_;have fp:∀(o:Obj) b,b∈[s1.heap.objs.size]->eS X pins H1 b:=λo b hb=>by
  have e:b=s1.heap.objs.size:=by simpa using hb
  subst e;exact I1.vL (gV _) (I1.hok.fresh (gV _))
 rcases q1 with ⟨a,xs,rfl,hq,q⟩|⟨a,xs,rfl,hq,q⟩|⟨z,rfl,q⟩
 .cases r1;obtain⟨its,rv,p,hz⟩:=I1.list hq;refine wpAny_pyIter_list p.isList ?_;exact⟨s1.heap.objs.size,[s1.heap.objs.size],_,_,H1,rfl,I1.kept (t':=s1.toks) λb o e=>iB _ e,t6 a _,⟨_,DJ _ rfl,rfl,rfl⟩,fp default,q⟩
 .cases r1;obtain⟨its,rv,p,hz⟩:=I1.tuple hq;refine wpAny_pyIter_tuple (show s1.heap.IsTuple a its.toArray from p) ?_;exact⟨s1.heap.objs.size,[s1.heap.objs.size],_,_,H1,rfl,I1.kept (t':=s1.toks) λb o e=>iB _ e,rX a _,⟨_,DJ _ rfl,rfl,rfl⟩,fp default,q⟩
 .obtain⟨t,rfl⟩:=r1;cases ha:z.cps.all (· < 128)
  .refine wpAny_pyIter_wide ha ?_;exact⟨s1.heap.objs.size,[s1.heap.objs.size],_,_,H1,rfl,I1.kept (t':=s1.toks) λb o e=>iB _ e,oX z t _ _ (.inr rfl),⟨_,DJ _ rfl,rfl,rfl⟩,fp default,q⟩
  .refine wpAny_pyIter_ascii ha ?_;exact⟨s1.heap.objs.size,[s1.heap.objs.size],_,_,H1,rfl,I1.kept (t':=s1.toks) λb o e=>iB _ e,oX z t _ _ (.inl rfl),⟨_,DJ _ rfl,rfl,rfl⟩,fp default,q⟩
def uA{h:Hh}{n:Nat}{ds:List D}(e:Ev.stays h [(n,ds)]=true):Ev.aI h n=some ds:=by
 simp only[Ev.stays,Bool.and_true]at e;split at e
 .rename_i es q;rw[q,(Ev.mU _ _).mp e]
 .cases e
def zx{K:PySem.W.Frag}{H:Hp}{r:List Addr}{h:Hh}{d:D}{v:V}{src:Src}{Rr:L2.It->Hp->Prop}(hr:HR K H r h)(v1:RV K H r d v)(e:Ev.dO h d=some src)(q:∀J,lQ K r H src J->Rr J H):yf K v H Rr:=by
 cases d with
 |tup ds=>
  simp only[RV]at v1;obtain⟨a,vs,rfl,z,w⟩:=v1;cases e;refine .inr (.inl ⟨a,vs,rfl,z,q _ λi H1 r1 h1 hr1 f1 st=>⟨λd' e'=>?_,λhl=>?_⟩⟩)
  .obtain⟨u,e1,e2⟩:=w.get e';refine⟨⟨vs,u,f1.tups _ _ z,e1⟩,λx H2 y=>?_⟩;obtain⟨rfl,y⟩:=y;have:=y vs (f1.tups _ _ z);rw[e1]at this;cases this;exact⟨r1,e2.mono f1,hr1,.refl⟩
  .exact⟨vs,f1.tups _ _ z,by rw[w.length];exact hl⟩
 |str l=>
  simp only[RV]at v1;obtain⟨rfl,z⟩:=v1;cases e;refine .inr (.inr ⟨_,rfl,q _ λi H1 r1 h1 hr1 f1 st=>⟨λd' e'=>?_,λhl=>?_⟩⟩)
  .rw[GP]at e';cases e2:l[i]? with
   |none=>rw[e2]at e';cases e'
   |some c=>
    rw[e2]at e';cases e';refine⟨by show i<(aq l).length;rw[aQ];exact(List.getElem?_eq_some_iff.mp e2).1,λx H2 y=>?_⟩;obtain⟨rfl,c',y1,rfl⟩:=y;have e3:(aq l).cps[i]?=some c:=by simp[aq,e2]
    rw[e3]at y1;cases y1;exact⟨r1,⟨rfl,by show 1<=sizeLine;decide⟩,hr1,.refl⟩
  .show(aq l).length<=i;rw[aQ];simpa using hl
 |ref k=>
  simp only[RV]at v1;obtain⟨a,rfl,z⟩:=v1;simp only[Ev.dO,bC]at e;obtain⟨ds,e1,rfl⟩:=e;obtain⟨a',vs,e2,e3,e4⟩:=hr.read e1;rw[z]at e2;cases e2;refine .inl ⟨a,vs,rfl,e3,q _ λi H1 r1 h1 hr1 f1 st=>?_⟩;obtain⟨a',us,e5,e6,e7⟩:=hr1.read (uA st);rw[f1.pre _ _ z]at e5;cases e5;refine⟨λd' e'=>?_,λhl=>⟨us,e6,by rw[e7.length];exact hl⟩⟩;obtain⟨u,g1,g2⟩:=e7.get e';refine⟨⟨us,u,e6,g1⟩,λx H2 y=>?_⟩;obtain⟨rfl,y⟩:=y;have:=y us e6;rw[g1]at this;cases this;exact⟨r1,g2,hr1,.refl⟩
 |_=>cases e
section
variable{G:Tb}{n:Nat}{sc:Scope}{N:List Str}{df:Bool}{m:List Nat}{a b:E}{xa xb tg:Expr}{pos:Pos}
def BP(ha:JE G n sc N df m a xa):JI G n sc N df m (.seq a) tg xa:=λX g=>BO (ha X g) λs H Rr q=>by
 obtain⟨r,fr,h,src,h',sr,hr,e,q⟩:=q;simp only[Ev.bO]at e;obtain⟨d,h1,e1,e⟩:=Ev.ah e;obtain⟨e,rfl⟩:=Ev.av e;refine⟨r,fr,h,d,_,sr,hr,e1,λv H1 r1 v1 hr1 f1=>?_⟩;exact zx hr1 v1 e λJ hJ=>q J H1 r1 hr1 f1 hJ
def PI.of{X:Cx}{tg l:Expr}{t t':TI}(h:PI X tg l t)(w:∀s H Q,t' s H Q->t s H Q):PI X tg l t':=λpins s σ H Q I q=>h pins s σ H Q I (w _ _ _ q)
def uB{K:PySem.W.Frag}{r:List Addr}{H:Hp}(lo:Int)(k:Nat):lQ K r H (Ev.range lo k,[]) (tZ lo k):=λi H1 r1 h1 hr1 f1 st=>by
 refine⟨λd e=>?_,λhl=>?_⟩
 .simp only[Ev.range,GP]at e;cases e2:(List.range k)[i]? with
  |none=>rw[e2]at e;cases e
  |some j=>
   rw[e2]at e;cases e;have hi:i<k:=by simpa using (List.getElem?_eq_some_iff.mp e2).1
   have hj:j=i:=by
    rw[MI hi]at e2;exact(ny e2).symm
   subst hj;refine⟨hi,λx H2 y=>?_⟩;obtain⟨rfl,rfl⟩:=y;exact⟨r1,rfl,hr1,.refl⟩
 .have:(Ev.range lo k).length=k:=by simp[Ev.range]
  show k<=i;have hl':(Ev.range lo k).length<=i:=hl;omega
def zy {e1:E}{p:Pos}(hs:JA G n sc N df m (.cons e1 .nil) [xa]) (hg:sc.names.lookup ("range" : Str)=some .globalImplicit:=by rfl) (hb:("range" : Str)∈G.bl:=by decide +kernel)
  (hst:∀env:Env,starEach [xa] env=[(false,eval xa env)]:=by intro _;rfl):JI G n sc N df m (.eF (.cons e1 .nil)) tg (.Call (.Name "range" p) [xa] [] pos):=λX g=>
 PI.of (t7 (g.gl hg) (g.bl _ hb) (hs X g) (hst _)) λs H Rr q=>by
  obtain⟨r,fr,h,src,h',sr,hr,e,q⟩:=q;simp only[Ev.bO]at e;obtain⟨ds,h1,e1,e⟩:=Ev.ah e;obtain⟨e,rfl⟩:=Ev.av e;refine⟨r,fr,h,ds,_,sr,hr,e1,λvs H1 r1 v1 hr1 f1=>?_⟩;unfold Ev.cG at e;split at e
  .rename_i j;split at e
   .rename_i hj;cases e;simp only[az,RV]at v1;obtain⟨v,w,rfl,rfl,rfl⟩:=v1;exact⟨_,rfl,hj.1,hj.2,q _ H1 r1 hr1 f1 (uB 0 _)⟩
   .cases e
  .exfalso;simp only[Ev.br]at e1;obtain⟨d,_,_,e1⟩:=Ev.ah e1;simp only[Ev.aj]at e1;cases e1
  .cases e
def zz {e1 e2:E}{p:Pos}(hs:JA G n sc N df m (.cons e1 (.cons e2 .nil)) [xa,xb]) (hg:sc.names.lookup ("range" : Str)=some .globalImplicit:=by rfl) (hb:("range" : Str)∈G.bl:=by decide +kernel)
  (hst:∀env:Env,starEach [xa,xb] env=[(false,eval xa env),(false,eval xb env)]:=by intro _;rfl) (HU:∀env:Env,starEach [xb] env=[(false,eval xb env)]:=by intro _;rfl) :
  JI G n sc N df m (.eF (.cons e1 (.cons e2 .nil))) tg (.Call (.Name "range" p) [xa,xb] [] pos):=λX g=>
 PI.of (t8 (g.gl hg) (g.bl _ hb) (hs X g) (hst _) (HU _)) λs H Rr q=>by
  obtain⟨r,fr,h,src,h',sr,hr,e,q⟩:=q;simp only[Ev.bO]at e;obtain⟨ds,h1,e1,e⟩:=Ev.ah e;obtain⟨e,rfl⟩:=Ev.av e;refine⟨r,fr,h,ds,_,sr,hr,e1,λvs H1 r1 v1 hr1 f1=>?_⟩;unfold Ev.cG at e;split at e
  .exfalso;simp only[Ev.br]at e1;obtain⟨d,_,_,e1⟩:=Ev.ah e1;obtain⟨d2,_,e2,e1⟩:=Ev.ah e1;obtain⟨d3,_,e3,e2⟩:=Ev.ah e2;simp only[Ev.aj]at e2;cases e2;cases e1
  .rename_i i j;split at e
   .rename_i hj;cases e;simp only[az,RV]at v1;obtain⟨v,w,rfl,rfl,v',w',rfl,rfl,rfl⟩:=v1;exact⟨_,_,rfl,hj,q _ H1 r1 hr1 f1 (uB _ _)⟩
   .cases e
  .cases e
inductive gJ(K:PySem.W.Frag)(m:List Nat)(t:T)(v:V)(s:L2.St)(H:Hp)(Q:L2.St->Hp->Prop):Prop
 |mk (r:List Addr) (fr:Fr) (h:Hh) (d:D) (ai:Fr) (c0:SR K m H r fr s) (c1:HR K H r h) (c2:RV K H r d v) (c3:Ev.bD t d fr=some ai) (c4:∀s',SR K m H r ai s'->Q s' H):gJ K m t v s H Q
noncomputable def JG(G:Tb)(n:Nat)(sc:Scope)(N:List Str)(df:Bool)(m:List Nat)(t:T)(x:Expr):Prop:=∀X,Good G n sc N df X->PG X x (gJ X.K m t)
def PG.of{X:Cx}{e:Expr}{t t':TG}(h:PG X e t)(w:∀v s H Q,t' v s H Q->t v s H Q):PG X e t':=λpins s σ H v u Q I r q=>h pins s σ H v u Q I r (w _ _ _ _ q)
theorem SR.set{K:PySem.W.Frag}{m:List Nat}{H:Hp}{r:List Addr}{fr:Fr}{s:L2.St}(sr:SR K m H r fr s)(hm:m.Nodup){j i:Nat}(hj:m[j]?=some i){d:D}{v:V}(v1:RV K H r d v):SR K m H r (fr.set i (some d)) (s.set j (some v)):=by
 refine⟨by simp[sr.len],λj' i' d' e1 e2=>?_⟩;by_cases hi:i'=i
 .subst hi;have:j'=j:=uC hm e1 hj;subst this;have hlt:i'<fr.length:=by
   have:=(List.getElem?_eq_some_iff.mp e2).1;simpa using this
  rw[kZ hlt]at e2;cases e2;refine⟨v,kZ ?_,v1⟩;rw[sr.len];exact(List.getElem?_eq_some_iff.mp hj).1
 .rw[bU (λz=>hi z.symm)]at e2;obtain⟨u,q1,q2⟩:=sr.sl j' i' d' e1 e2;refine⟨u,?_,q2⟩;rw[bU]
  .exact q1
  .intro z;subst z;rw[hj]at e1;cases e1;exact hi rfl
where
 uC {l:List Nat} (hl:l.Nodup) {i j:Nat} {x:Nat} (a:l[i]?=some x) (b:l[j]?=some x):i=j:=by
  have ha:=(List.getElem?_eq_some_iff.mp a)
  have hb:=(List.getElem?_eq_some_iff.mp b)
  obtain⟨h1,e1⟩:=ha;obtain⟨h2,e2⟩:=hb;exact(M4 hl).mp (e1.trans e2.symm)
def Good.loc{X:Cx}(g:Good G n sc N df X){x:Str}(h:sc.names.lookup x=some .local\/(df=true/\sc.names.lookup x=some .cell)):Loc X.env.scope x/\(X.fn x=true\/X.env.scope.names.lookup x=some .local):=by
 rw[show Loc X.env.scope x↔Loc sc x by rw[g.sc],g.sc];rcases h with h|⟨h1,h⟩
 .exact⟨.inl h,.inr h⟩
 .exact⟨.inr h,.inl (g.own h1 x)⟩
def BQ(j i:Nat){x:Str}(hm:m.Nodup)(hN:N.Nodup)(hj:m[j]?=some i:=by rfl)(mW:N[j]?=some x:=by rfl)
  (hl:sc.names.lookup x=some .local\/(df=true/\sc.names.lookup x=some .cell):=by first|exact Or.inl rfl|exact Or.inr ⟨rfl,rfl⟩):JG G n sc N df m (.one i) (.Name x pos):=λX g=>by
 obtain⟨h1,h2⟩:=g.loc hl;refine PG.of (qJ (i:=j) (by rw[g.nm];exact hN) (by rw[g.nm];exact mW) h1 h2) λv s H Q q=>?_;obtain⟨r,fr,h,d,ai,sr,hr,v1,e,q⟩:=q;cases e;exact q _ (sr.set hm hj v1)
inductive Gr(K:PySem.W.Frag)(m:List Nat)(l:List Nat)(vs:List V)(s:L2.St)(H:Hp)(Q:L2.St->Hp->Prop):Prop
 |mk (r:List Addr) (fr:Fr) (h:Hh) (ds:List D) (ai:Fr) (c0:SR K m H r fr s) (c1:HR K H r h) (c2:az K H r ds vs) (c3:Ev.bM l ds fr=some ai) (c4:∀s',SR K m H r ai s'->Q s' H):Gr K m l vs s H Q
noncomputable def mX(G:Tb)(n:Nat)(sc:Scope)(N:List Str)(df:Bool)(m:List Nat)(l:List Nat)(xs:List Expr):Prop:=∀X,Good G n sc N df X->jA X xs (Gr X.K m l)
def jA.of{X:Cx}{e:List Expr}{t t':mH}(h:jA X e t)(w:∀v s H Q,t' v s H Q->t v s H Q):jA X e t':=λpins s σ H v u Q I r q=>h pins s σ H v u Q I r (w _ _ _ _ q)
def zA:mX G n sc N df m [] []:=λX g=>jA.of yX λvs s H Q q=>by
 obtain⟨r,fr,h,ds,ai,sr,hr,v1,e,q⟩:=q;cases ds with
 |nil=>simp only[az]at v1;subst v1;cases e;exact⟨rfl,q _ sr⟩
 |cons _ _=>cases e
def wj(j i:Nat){x:Str}{l:List Nat}{xs:List Expr}(hm:m.Nodup)(hN:N.Nodup)(hs:mX G n sc N df m l xs)(hj:m[j]?=some i:=by rfl)(mW:N[j]?=some x:=by rfl)
  (hl:sc.names.lookup x=some .local\/(df=true/\sc.names.lookup x=some .cell):=by first|exact Or.inl rfl|exact Or.inr ⟨rfl,rfl⟩)
  (hst:∀env:Env,(assignEach (.Name x pos :: xs) env).map (·.2)=assign (.Name x pos) env :: (assignEach xs env).map (·.2):=by intro _;rfl):mX G n sc N df m (i :: l) (.Name x pos :: xs):=λX g=>by
 obtain⟨h1,h2⟩:=g.loc hl;refine jA.of (vK (qJ (i:=j) (by rw[g.nm];exact hN) (by rw[g.nm];exact mW) h1 h2) (hs X g) (hst _)) λvs s H Q q=>?_;obtain⟨r,fr,h,ds,ai,sr,hr,v1,e,q⟩:=q;cases ds with
 |nil=>cases e
 |cons d ds=>
  simp only[az]at v1;obtain⟨v,w,rfl,v2,v3⟩:=v1;exact⟨v,w,rfl,r,_,h,ds,ai,sr.set hm hj v2,hr,v3,e,q⟩
def zB{l:List Nat}{xs:List Expr}{k:Nat}(hs:mX G n sc N df m l xs)(hn:∀env:Env,(assignEach xs env).length=l.length:=by intro _;rfl)(hst:∀env:Env,(assignEach xs env).findIdx? (·.1)=none:=by intro _;rfl) :
  JG G n sc N df m (.many l) (.Tuple xs k pos):=λX g=>PG.of (A2 (n:=l.length) g.calm (hs X g) (hn _) (hst _)) λv s H Q q=>by
 obtain⟨r,fr,h,d,ai,sr,hr,v1,e,q⟩:=q;cases d with
 |tup ds=>
  simp only[RV]at v1;obtain⟨p,vs,rfl,z,w⟩:=v1;have hlen:∀(l:List Nat) (ds:List D) fr ai,Ev.bM l ds fr=some ai->ds.length=l.length:=by
   intro l;induction l with
   |nil=>intro ds fr ai e;cases ds with|nil=>rfl|cons _ _=>cases e
   |cons i l ih=>intro ds fr ai e;cases ds with|nil=>cases e|cons d ds=>simp[ih ds _ _ e]
  exact⟨p,vs,rfl,z,by rw[w.length];exact hlen _ _ _ _ e,r,fr,h,ds,ai,sr,hr,w,e,q⟩
 |_=>cases e
end
noncomputable def Fin(K:PySem.W.Frag)(m:List Nat)(r:List Addr)(H:Hp)(h':Hh)(fl:Fl)(ai:Fr)(Q:Ends):Prop:=match fl with
 |.nx=>∀s' H' r',SR K m H' r' ai s'->HR K H' r' h'->Fm K r r' H H'->Q.nx s' H'
 |.bk=>∀s' H' r',SR K m H' r' ai s'->HR K H' r' h'->Fm K r r' H H'->Q.bk s' H'
 |.ct=>∀s' H' r',SR K m H' r' ai s'->HR K H' r' h'->Fm K r r' H H'->Q.ct s' H'
 |.ret d=>Res K r H h' d Q.rt
theorem Fin.later{K:PySem.W.Frag}{m:List Nat}{r r':List Addr}{H H':Hp}{h':Hh}{fl:Fl}{ai:Fr}{Q:Ends}(q:Fin K m r H h' fl ai Q)(f:Fm K r r' H H'):Fin K m r' H' h' fl ai Q:=by
 cases fl with
 |nx=>exact λs2 H2 r2 a b g=>q s2 H2 r2 a b (f.trans g)
 |bk=>exact λs2 H2 r2 a b g=>q s2 H2 r2 a b (f.trans g)
 |ct=>exact λs2 H2 r2 a b g=>q s2 H2 r2 a b (f.trans g)
 |ret d=>exact Res.later q f
inductive Gs(K:PySem.W.Frag)(m:List Nat)(P:aB)(w:Nat)(st:S)(Q:Ends)(s:L2.St)(H:Hp):Prop
 |mk (r:List Addr) (fr:Fr) (h:Hh) (fl:Fl) (ai:Fr) (h':Hh) (c0:SR K m H r fr s) (c1:HR K H r h) (c2:Ev.ex P w st fr h=.ok (fl,ai) h') (c3:Fin K m r H h' fl ai Q):Gs K m P w st Q s H
inductive wk(K:PySem.W.Frag)(m:List Nat)(P:aB)(w:Nat)(ss:Ss)(Q:Ends)(s:L2.St)(H:Hp):Prop
 |mk (r:List Addr) (fr:Fr) (h:Hh) (fl:Fl) (ai:Fr) (h':Hh) (c0:SR K m H r fr s) (c1:HR K H r h) (c2:Ev.exs P w ss fr h=.ok (fl,ai) h') (c3:Fin K m r H h' fl ai Q):wk K m P w ss Q s H
def PS.of{X:Cx}{st:Stmt}{t t':TS}(h:PS X st t)(w:∀Q s H,t' Q s H->t Q s H):PS X st t':=λpins s σ H Q I q=>h pins s σ H Q I (w _ _ _ q)
def fB.of{X:Cx}{st:List Stmt}{t t':TS}(h:fB X st t)(w:∀Q s H,t' Q s H->t Q s H):fB X st t':=λpins s σ H Q I q=>h pins s σ H Q I (w _ _ _ q)
section
variable(G:Tb)(n:Nat)(sc:Scope)(N:List Str)(df:Bool)(m:List Nat)
noncomputable def JS(st:S)(x:Stmt):Prop:=∀X,Good G n sc N df X->PS X x (Gs X.K m (Ev.run G.F G.w n) G.w st)
noncomputable def iV(ss:Ss)(xs:List Stmt):Prop:=∀X,Good G n sc N df X->fB X xs (wk X.K m (Ev.run G.F G.w n) G.w ss)
end
section
variable{G:Tb}{n:Nat}{sc:Scope}{N:List Str}{df:Bool}{m:List Nat}{a:E}{xa tg:Expr}{pos:Pos}
def zC:iV G n sc N df m .nil []:=λX g=>fB.of yW λQ s H q=>by
 obtain⟨r,fr,h,fl,ai,h',sr,hr,e,q⟩:=q;simp only[Ev.exs]at e;cases e;exact q s H r sr hr .refl
def wm{st:S}{ss:Ss}{x:Stmt}{xs:List Stmt}(h1:JS G n sc N df m st x)(h2:iV G n sc N df m ss xs):iV G n sc N df m (.cons st ss) (x :: xs):=λX g=>fB.of (vI (h1 X g) (h2 X g)) λQ s H q=>by
 obtain⟨r,fr,h,fl,ai,h',sr,hr,e,q⟩:=q;simp only[Ev.exs]at e;obtain⟨⟨fE,af⟩,h1,e1,e⟩:=Ev.ah e;refine⟨r,fr,h,fE,af,h1,sr,hr,e1,?_⟩;cases fE with
 |nx=>exact λs1 H1 r1 Jq hr1 f1=>⟨r1,af,h1,fl,ai,h',Jq,hr1,e,q.later f1⟩
 |bk=>cases e;exact q
 |ct=>cases e;exact q
 |ret d=>cases e;exact q
def BR(j i:Nat){x:Str}{pos':Pos}(hm:m.Nodup)(hN:N.Nodup)(ha:JE G n sc N df m a xa)(hs:∀env:Env,swapsWith xa (some (.Name x pos')) pos.line env=pure false:=by intro _;rfl)(hj:m[j]?=some i:=by rfl)(mW:N[j]?=some x:=by rfl)
  (hl:sc.names.lookup x=some .local\/(df=true/\sc.names.lookup x=some .cell):=by first|exact Or.inl rfl|exact Or.inr ⟨rfl,rfl⟩):JS G n sc N df m (.set i a) (.Assign [.Name x pos'] xa pos):=λX g=>by
 obtain⟨h1,h2⟩:=g.loc hl;refine PS.of (tY (i:=j) (by rw[g.nm];exact hN) (by rw[g.nm];exact mW) h1 (ha X g) (hs _) h2) λQ s H q=>?_;obtain⟨r,fr,h,fl,ai,h',sr,hr,e,q⟩:=q;simp only[Ev.ex]at e;obtain⟨d,h1,e1,e⟩:=Ev.ah e;cases e;exact⟨r,fr,h,d,_,sr,hr,e1,λv H1 r1 v1 hr1 f1=>q _ H1 r1 ((sr.mono f1).set hm hj v1) hr1 f1⟩
def BS(ha:JE G n sc N df m a xa):JS G n sc N df m (.ret a) (.Return (some xa) pos):=λX g=>PS.of (AZ (ha X g)) λQ s H q=>by
 obtain⟨r,fr,h,fl,ai,h',sr,hr,e,q⟩:=q;simp only[Ev.ex]at e;obtain⟨d,h1,e1,e⟩:=Ev.ah e;cases e;exact⟨r,fr,h,d,_,sr,hr,e1,q⟩
def BU{ta tb:Ss}{ya yb:List Stmt}(hc:JT G n sc N df m a xa)(h1:iV G n sc N df m ta ya)(h2:iV G n sc N df m tb yb):JS G n sc N df m (.iff a ta tb) (.If xa ya yb pos):=λX g=>PS.of (Ec (hc X g) (h1 X g) (h2 X g)) λQ s H q=>by
 obtain⟨r,fr,h,fl,ai,h',sr,hr,e,q⟩:=q;simp only[Ev.ex]at e;obtain⟨k,h3,e1,e⟩:=Ev.ah e;refine⟨r,fr,h,k,h3,sr,hr,e1,λH1 r1 hr1 f1=>?_⟩;cases k with
 |true=>exact⟨r1,fr,h3,fl,ai,h',sr.mono f1,hr1,e,q.later f1⟩
 |false=>exact⟨r1,fr,h3,fl,ai,h',sr.mono f1,hr1,e,q.later f1⟩
def Good.pass{X:Cx}(g:Good G n sc N df X):PassesOwn (model X.prog X.w) X.A X.env X.xe:=by
 rw[g.xe];exact PassesOwn.never
noncomputable def FN(K:PySem.W.Frag)(m:List Nat)(fE:Fl)(dX:Fr)(h4:Hh)(r1:List Addr)(H1:Hp)(s5:L2.St)(H5:Hp):Prop:=(fE=.nx\/fE=.ct)/\∃r5,SR K m H5 r5 dX s5/\HR K H5 r5 h4/\Fm K r1 r5 H1 H5
section
variable{K:PySem.W.Frag}{r r1 r2:List Addr}{H H1 H2:Hp}{h4 h':Hh}{fl fE:Fl}{dX ai:Fr}{Q:Ends}
noncomputable def wo(L:R (Fl×Fr))(p:Fl×Fr)(h1:Hh):R (Fl×Fr):=match p.1 with
 |.nx=>L
 |.ct=>L
 |.bk=>.ok (.nx,p.2) h1
 |.ret x=>.ok (.ret x,p.2) h1
def zD{L:R (Fl×Fr)}(e:wo L (fE,dX) h4=.ok (fl,ai) h')(z:fE=.nx\/fE=.ct):L=.ok (fl,ai) h':=by rcases z with rfl|rfl<;>exact e
def wu{L:R (Fl×Fr)}(e:wo L (fE,dX) h4=.ok (fl,ai) h')(q:Fin K m r H h' fl ai Q)(f:Fm K r r1 H H1)(f2:Fm K r1 r2 H1 H2):Fin K m r2 H2 h4 fE dX { Q with nx:=FN K m fE dX h4 r1 H1,ct:=FN K m fE dX h4 r1 H1,bk:=Q.nx }:=by
 cases fE with
 |nx=>exact λs6 H6 r6 uD uE f6=>⟨.inl rfl,r6,uD,uE,f2.trans f6⟩
 |ct=>exact λs6 H6 r6 uD uE f6=>⟨.inr rfl,r6,uD,uE,f2.trans f6⟩
 |bk=>
  cases e;exact λs6 H6 r6 uD uE f6=>q s6 H6 r6 uD uE ((f.trans f2).trans f6)
 |ret d=>
  cases e;exact Res.later q (f.trans f2)
noncomputable def oY(P:aB)(w:Nat)(t:T)(tb:Ss):D->Fr->Hh->R (Fl×Fr):=λd ak h2=>match Ev.bD t d ak with
 |some bE=>Ev.exs P w tb bE h2
 |none=>.bad
def oZ(P:aB)(w:Nat)(t:T)(it:Ev.It)(tb:Ss)(fr:Fr)(h:Hh):Ev.ex P w (.for t it tb) fr h=(Ev.bO P it fr h).bind λs h1=>Ev.forL (oY P w t tb) s.2 s.1 fr h1:=by simp only[Ev.ex];rfl
def uF(f:D->Fr->Hh->R (Fl×Fr))(ck:List (Nat×List D))(d:D)(ds:List D)(fr:Fr)(h:Hh):Ev.forL f ck (d :: ds) fr h=if Ev.stays h ck then (f d fr h).bind λp h1=>wo (Ev.forL f ck ds p.2 h1) p h1 else .bad:=rfl
noncomputable def FW(K:PySem.W.Frag)(m:List Nat)(f:D->Fr->Hh->R (Fl×Fr))(src:Src)(r1:List Addr)(H1:Hp)(o:Fl×Fr)(h':Hh)(i k:Nat)(s3:L2.St)(H3:Hp):Prop:=
 k=src.1.length - i/\i<=src.1.length/\∃r3 bE h3,SR K m H3 r3 bE s3/\HR K H3 r3 h3/\Fm K r1 r3 H1 H3/\Ev.forL f src.2 (src.1.drop i) bE h3=.ok o h'
def wz{P:aB}{w:Nat}{t:T}{tb:Ss}{src:Src}{J:L2.It}{i k:Nat}{s3:L2.St}{H3:Hp}(hJ:lQ K r1 H1 src J)(q:Fin K m r H h' fl ai Q)(f1:Fm K r r1 H H1)(hW:FW K m (oY P w t tb) src r1 H1 (fl,ai) h' i k s3 H3) :
  (J.stop i H3/\Q.nx s3 H3)\/(J.go i H3/\∃N:L2.St->Hp->Prop,(∀σ' H',N σ' H'->∃m',m'<k/\FW K m (oY P w t tb) src r1 H1 (fl,ai) h' (i+1) m' σ' H')/\∀x H',J.xV i H3 x H'->gJ K m t x s3 H' λσ2 H2=>wk K m P w tb { Q with nx:=N,ct:=N,bk:=Q.nx } σ2 H2):=by
 obtain⟨rfl,hle,r3,bE,h3,yg,jD,f3,e3⟩:=hW;rcases Nat.lt_or_ge i src.1.length with hlt|hge
 .rw[Me hlt,uF]at e3;split at e3
  .rename_i hst;obtain⟨g1,g2⟩:=(hJ i H3 r3 h3 jD f3 hst).1 src.1[i] (j9 hlt);obtain⟨⟨fE,dX⟩,h4,e4,e3⟩:=Ev.ah e3;unfold oY at e4;split at e4
   .rename_i mJ e5;exact .inr ⟨g1,FN K m fE dX h4 r1 H1,λs5 H5 ⟨hfl,r5,uG,mY,f5⟩=>⟨_,MH hlt (Mh i),rfl,hlt,r5,dX,h4,uG,mY,f5,zD e3 hfl⟩,λx H4 y=>
     let ⟨r4,v4,x9,f4⟩:=g2 x H4 y
     ⟨r4,bE,h3,_,mJ,yg.mono f4,x9,v4,e5,λs5 uG=>⟨r4,mJ,h3,fE,dX,h4,uG,x9,e4,wu e3 q f1 (f3.trans f4)⟩⟩⟩
   .cases e4
  .cases e3
 .have hi:i=src.1.length:=M8 hle hge;subst hi;rw[M5]at e3;unfold Ev.forL at e3;split at e3
  .rename_i hst;cases e3;exact .inl ⟨(hJ _ H3 r3 _ jD f3 hst).2 (gV _),q s3 H3 r3 yg jD (f1.trans f3)⟩
  .cases e3
end
def BV{t:T}{it:Ev.It}{tb:Ss}{yb:List Stmt}(hi:JI G n sc N df m it tg xa)(hg:JG G n sc N df m t tg)(h1:iV G n sc N df m tb yb)(hs:∀(env:Env) x,foldedSetIterable xa env x=pure x:=by intro _ _;rfl) :
  JS G n sc N df m (.for t it tb) (.For tg xa yb [] pos):=λX g=>PS.of (A3 g.pass g.calm (hi X g) (hg X g) (h1 X g) (hs _)) λQ s H q=>by
 obtain⟨r,fr,h,fl,ai,h',sr,hr,e,q⟩:=q;rw[oZ]at e;obtain⟨src,h2,e1,e⟩:=Ev.ah e;exact⟨r,fr,h,src,h2,sr,hr,e1,λJ H1 r1 hr1 f1 hJ=>⟨FW X.K m (oY (Ev.run G.F G.w n) G.w t tb) src r1 H1 (fl,ai) h',⟨src.1.length,rfl,LX _,r1,fr,h2,sr.mono f1,hr1,.refl,by rw[Lx];exact e⟩,λi k s3 H3 hW=>wz hJ q f1 hW⟩⟩
end
def getElem?_range'{k j i:Nat}(h:(List.range k)[j]?=some i):i=j:=by
 obtain⟨h1,h2⟩:=List.getElem?_eq_some_iff.mp h;simpa using h2.symm
def wA{K:PySem.W.Frag}{H:Hp}{r:List Addr}{ds:List D}{vs:List V}{N:List Str}{fn:Ev.Fn}(v1:az K H r ds vs)(hN:vs.length<=N.length):SR K (List.range N.length) H r (Ev.cL fn ds) (L2.start N vs):=by
 refine⟨by unfold L2.start;simp;omega,λj i d e1 e2=>?_⟩;have e3:=getElem?_range' e1;subst e3;unfold Ev.cL at e2;by_cases hj:i<ds.length
 .rw[dJ (by simpa using hj),GP]at e2;cases e4:ds[i]? with
  |none=>rw[e4]at e2;cases e2
  |some d'=>
   rw[e4]at e2;cases e2;obtain⟨v,q1,q2⟩:=v1.get e4;refine⟨v,?_,q2⟩;unfold L2.start;rw[dJ (by have:=v1.length;simpa using (by omega:i<vs.length)),GP,q1];rfl
 .rw[Lc (by simpa using Nat.not_lt.mp hj),Ml]at e2;split at e2<;>cases e2
section
variable{P:Program}{w:World}{K:PySem.W.Frag}{mg:Str->Option Value}{base:Heap}{G:Tb}
noncomputable def nP(P:Program)(w:World)(K:PySem.W.Frag)(mg:Str->Option Value)(base:Heap)(G:Tb)(n:Nat):Prop:=∀(f:Nat) i,G.fi[f]?=some i->ff P w K mg base iT n i.addr i.fd i.ps (jC K G.F G.w n f)
structure Top(P:Program)(w:World)(K:PySem.W.Frag)(mg:Str->Option Value)(G:Tb):Prop where
 fn:∀(f:Nat) i,G.fi[f]?=some i->mg i.name=some (.ref i.addr)/\PySem.W.keepIn K (.ref i.addr)=true/\Binds K i.fd i.ps []
 bl:∀x∈G.bl,mg x=none
 cs:∀x d,(x,d)∈G.cs->∃v u,mg x=some u/\RelV v u/\qS K d v
 dk:∀x kvs,(x,kvs)∈G.dk->∃a,mg x=some (.ref a)/\∀h:Heap,K.In h->StrTab P w h a (tabOf kvs)
def zE{f:Addr}{fd:FuncData}{ps:List Str}{k:Nat}:ff P w K mg base iT 0 f fd ps (jC K G.F G.w 0 k):=by
 have no:∀vs H Q E,¬ jC K G.F G.w 0 k vs H Q E:=λvs H Q E h=>by
  obtain⟨r,h,ds,d,h',_,_,e,_⟩:=h;cases e
 exact⟨λvs H Q E h=>absurd h (no vs H Q E),λA outer s H args us vs Q E _ _ _ _ h=>absurd h (no vs H Q E)⟩
def cX{x qual:Str}{st:Stmt}{i:FI}{N:List Str}{n f:Nat}{fn:Ev.Fn}(T:Top P w K mg G)(A0:nP P w K mg base G n)(F:oS K x qual st i.addr i.fd)(S:bH N i.ps (aN st))(hf:G.F[f]?=some fn)(hp:i.ps.length=fn.np)
  (hb:iV G n (aN st) N true (List.range N.length) fn.body (eG st)):ff P w K mg base iT (n+1) i.addr i.fd i.ps (jC K G.F G.w (n+1) f):=by
 have hlen:∀vs H Q E,jC K G.F G.w (n+1) f vs H Q E->vs.length=i.ps.length:=λvs H Q E h=>by
  obtain⟨r,h,ds,d,h',v1,_,e,_⟩:=h;simp only[Ev.ku,hf]at e;split at e
  .rename_i z;rw[v1.length,z,hp]
  .cases e
 refine F.ok S hlen λcdv A outer s H vs Q E hr fD=>?_;have hl:=hlen vs H Q E fD;have hN:vs.length<=N.length:=by
  have:=AD List.length S.pre;rw[Lo]at this;omega
 have g:Good G n (aN st) N true (jU iT P w K mg base N qual (aN st) i.addr cdv A outer s H E).mG:=
  ⟨rfl,rfl,rfl,λ_ _=>rfl,hr,rfl,λf i hi=>⟨(T.fn f i hi).1,(T.fn f i hi).2.1,(T.fn f i hi).2.2,A0 f i hi⟩,T.bl,T.cs,T.dk⟩
 refine⟨_,hb _ g,?_⟩;obtain⟨r,h,ds,d,h',v1,hr1,e,q⟩:=fD;simp only[Ev.ku,hf]at e;split at e
 .unfold Ev.endOf at e;obtain⟨⟨fl,ai⟩,h2,e1,e⟩:=Ev.ah e;refine⟨r,Ev.cL fn ds,h,fl,ai,h2,wA v1 hN,hr1,e1,?_⟩;cases fl with
  |nx=>
   cases e;exact λs' H' r' _ hr' f'=>q _ H' r' rfl hr' f'
  |ret d'=>
   cases e;exact q
  |bk=>cases e
  |ct=>cases e
 .cases e
end
end Sm
namespace Sm
open PySem PySem.Spec PyProof.Rows L2 PySem.SeqAt
open Ev (D O Hh Fr R aB E Es Eo T S Ss Fl Src aS aJ TY BI ME)
end Sm
namespace L2
open PySem PySem.Spec PyProof.Rows
end L2
namespace Sm
open PySem PySem.Spec PyProof.Rows L2 PySem.SeqAt
open Ev (D O Hh Fr R aB E Es Eo T S Ss Fl Src aS aJ TY BI ME)
end Sm
namespace Sm
open PySem PySem.Spec PyProof.Rows L2
open Ev (D O Hh Fr R aB E Es Eo T S Ss Fl Src aS aJ TY BI ME)
theorem lR(env:Env):∀(names:List (Str×NameKind)) (acc:List (Str×Addr)),(∀x,(x,NameKind.free)∈names->∃c,env.cells.lookup x=some c)->(∀x c,acc.lookup x=some c->env.cells.lookup x=some c)->
  ∃cl,(forIn names acc (λ(x:Str×NameKind) cs=>if (x.2==NameKind.free)=true then (do let c <-cellOf env x.1;pure (ForInStep.yield ((x.1,c) :: cs)))else pure (ForInStep.yield cs)):Sem (List (Str×Addr)))=pure cl/\
   (∀x c,cl.lookup x=some c->env.cells.lookup x=some c)/\(∀x,(x,NameKind.free)∈names->(cl.lookup x).isSome=true)/\(∀x,(acc.lookup x).isSome=true->(cl.lookup x).isSome=true)
 |[],acc,_,h2=>⟨acc,rfl,h2,(λx h=>by simp at h),λ_ h=>h⟩
 | (y,k) :: r,acc,h1,h2=>by
  by_cases hk:k=.free
  .subst hk;obtain⟨c,hc⟩:=h1 y (Km ..);have h2':∀x c',((y,c) :: acc).lookup x=some c'->env.cells.lookup x=some c':=λx c' e=>by
    rw[K7]at e;split at e
    .rename_i hx;have hx':x=y:=by simpa using hx
     cases e;rw[hx'];exact hc
    .exact h2 x c' e
   obtain⟨cl,e1,e2,e3,e4⟩:=lR env r ((y,c) :: acc) (λx hx=>h1 x (AE _ hx)) h2';refine⟨cl,?_,e2,λx hx=>?_,λx hx=>e4 x ?_⟩
   .rw[LP];simp only[MW,D6];unfold cellOf;rw[hc];exact e1
   .rcases List.mem_cons.mp hx with z|z
    .cases z;exact e4 y (by simp[K7])
    .exact e3 x z
   .rw[K7];split
    .rfl
    .exact hx
  .have hk':(k==NameKind.free)=false:=by simpa using hk
   obtain⟨cl,e1,e2,e3,e4⟩:=lR env r acc (λx hx=>h1 x (AE _ hx)) h2;refine⟨cl,?_,e2,λx hx=>?_,e4⟩
   .rw[LP];simp only[hk',xF,K0];exact e1
   .rcases List.mem_cons.mp hx with z|z
    .cases z;exact absurd rfl hk
    .exact e3 x z
def zF{scope:Scope}{env:Env}(h:∀x,(x,NameKind.free)∈scope.names->∃c,env.cells.lookup x=some c) :
  ∃cl,closureFor scope env=pure cl/\(∀x c,cl.lookup x=some c->env.cells.lookup x=some c)/\∀x,(x,NameKind.free)∈scope.names->∃c,cl.lookup x=some c:=by
 obtain⟨cl,e1,e2,e3,_⟩:=lR env scope.names [] h (λx c e=>by simp at e);refine⟨cl,?_,e2,λx hx=>Option.isSome_iff_exists.mp (e3 x hx)⟩;unfold closureFor;show(forIn scope.names [] _ >>= λcs=>pure cs:Sem (List (Str×Addr)))=pure cl;have e:(forIn scope.names [] (λ(x:Str×NameKind) cs=>if (x.2==NameKind.free)=true then (do let c <-cellOf env x.1;pure (ForInStep.yield ((x.1,c) :: cs)))else pure (ForInStep.yield cs)):Sem (List (Str×Addr)))=pure cl:=e1;exact AD (λt:Sem (List (Str×Addr))=>t >>= λcs=>pure cs) e
noncomputable def cQ(sc scope:Scope):Scope:={ scope with names:=scope.names.map λ(n,k)=>if (k==.free&&sc.kind==.function&&sc.names.lookup n==some .cell)then (n,.cell)else (n,k)}
def lS{env:Env}{sc scope:Scope}(h:env.scope=sc):relabel scope env=cQ sc scope:=by
 subst h;rfl
theorem mZ{sc:Scope}:∀{names:List (Str×NameKind)}{x:Str},(∀y∈names,y.2≠.cell)->
  ((names.map λ(n,k)=>if (k==NameKind.free&&sc.kind==.function&&sc.names.lookup n==some .cell)then (n,NameKind.cell)else (n,k)).lookup x=some .cell\/
   (names.map λ(n,k)=>if (k==NameKind.free&&sc.kind==.function&&sc.names.lookup n==some .cell)then (n,NameKind.cell)else (n,k)).lookup x=some .free)->(x,NameKind.free)∈names
 |[],_,_,h=>by rcases h with h|h<;>simp at h
 | (n,k) :: r,x,hc,h=>by
  have ih:=@mZ sc r x λy hy=>hc y (AE _ hy);simp only[vv]at h;have nk:∀(k':NameKind),(if (k==NameKind.free&&sc.kind==.function&&sc.names.lookup n==some .cell)then (n,NameKind.cell)else (n,k))=(n,k')->k'=.cell\/k'=.free->k=.free:=λk' e hk'=>by
   split at e
   .rename_i z;simp only[pW,MA]at z;exact z.1.1
   .cases e;rcases hk' with z|z
    .exact absurd z (hc (n,_) (Km ..))
    .exact z
  generalize hg:(if (k==NameKind.free&&sc.kind==.function&&sc.names.lookup n==some .cell)then (n,NameKind.cell)else (n,k))=p at h nk
  have hp:p.1=n:=by rw[<-hg];split<;>rfl
  obtain⟨p1,p2⟩:=p;simp only at hp;subst hp;simp only[K7]at h;cases hx:(x==p1)with
  |true=>
   have hx':x=p1:=by simpa using hx
   rw[hx]at h;have:=nk p2 rfl (by rcases h with h|h<;>simp at h<;>simp[h]);subst this;rw[hx'];exact Km ..
  |false=>
   rw[hx]at h;exact AE _ (ih h)
section
variable{prog:Program}{w:World}{A:Around}{R':Result->Shared->Prop}{s:Shared}
abbrev cZ:Value->Shared->Prop:=λ_ _=>False
noncomputable def qU(ifs:List Expr)(env:Env):Sem Bool:=forIn ifs true λc r=>if r=true then do let ok <-isTrue c env (eval c env);pure (ForInStep.yield ok)else pure (ForInStep.yield r)
def o4{elt target iter:Expr}{ifs:List Expr}{scope:Scope}{pos:Pos}{it acc:Value}{env:Env}(I:Nat->Shared->Prop)
  (turn:∀n s,I n s->wpAny (model prog w) A (pyNext it) (λr s₁=>match r with
   |none=>R' (.ok .next) s₁
   |some v=>wpAny (model prog w) A (letOwnedTupleGo target it v) (λ_ s₂=>wpAny (model prog w) A (assign target env v) (λ_ s₃=>
     wpAny (model prog w) A (qU ifs env) (λok s₄=>
      if ok=true then wpAny (model prog w) A (eval elt env) (λx s₅=>
       wpAny (model prog w) A (call (.builtin "list.append") [acc,x]) (λ_ s₆=>∃m,m<n/\I m s₆) cZ s₅) cZ s₄
      else ∃m,m<n/\I m s₄) cZ s₃) cZ s₂) cZ s₁) cZ s)
  (n:Nat) (h:I n s):codeAny (model prog w) A (.compLoop (.ListComp elt [⟨target,iter,ifs,0⟩] scope pos) 0 it acc env) R' s:=by
 refine codeAny_loop rfl I (λn s hI=>?_) n h;show wpAny _ A ((compTurn (.ListComp elt [⟨target,iter,ifs,0⟩] scope pos) 0 it acc env).onRaise (λx=>do noteFrame x env;theTreesLotGoes x)) _ _ s;refine wpAny_noted ?_;rw[compTurn_list];refine cF (wpAny_standAt (cF (Kn (turn n s hI) (λr s₁ h₁=>?_) λ_ _ h'=>h'.elim)));cases r with
 |none=>exact nv h₁
 |some v=>
  refine cF (Kn h₁ (λ_ s₂ h₂=>?_) λ_ _ h'=>h'.elim);refine cF (Kn h₂ (λ_ s₃ h₃=>cF (Kn h₃ (λok s₄ h₄=>?_) λ_ _ h'=>h'.elim)) λ_ _ h'=>h'.elim);cases ok with
  |false=>exact nv ⟨rfl,h₄⟩
  |true=>
   exact cF (cF (Kn h₄ (λx s₅ h₅=>cF (Kn h₅ (λ_ s₆ h₆=>nv (nv ⟨rfl,h₆⟩)) λ_ _ h'=>h'.elim)) λ_ _ h'=>h'.elim))
end
inductive Gu(K:PySem.W.Frag)(m:List Nat)(P:aB)(e:Eo)(s:L2.St)(H:Hp)(Q:Bool->Hp->Prop):Prop
 |mk (r:List Addr) (fr:Fr) (h:Hh) (k:Bool) (h':Hh) (c0:SR K m H r fr s) (c1:HR K H r h) (c2:Ev.fT P e fr h=.ok k h') (c3:∀H' r',HR K H' r' h'->Fm K r r' H H'->Q k H'):Gu K m P e s H Q
noncomputable def JC(G:Tb)(n:Nat)(sc:Scope)(N:List Str)(df:Bool)(m:List Nat)(e:Eo)(ifs:List Expr):Prop:=∀X,Good G n sc N df X->∀(pins:List (Addr×Obj)) (s:Shared) (σ:L2.St) (H:Hp) (Q:Bool->Hp->Prop),Inv X pins σ H s->
 Gu X.K m (Ev.run G.F G.w n) e σ H Q->wpAny (model X.prog X.w) X.A (qU ifs X.env) (TP X pins σ Q) X.xe s
section
variable{G:Tb}{n:Nat}{sc:Scope}{N:List Str}{df:Bool}{m:List Nat}
def EL:JC G n sc N df m .no []:=λX g pins s σ H Q I q=>by
 obtain⟨r,fr,h,k,h',sr,hr,e,q⟩:=q;simp only[Ev.fT]at e;cases e;exact nv ⟨H,I,q H r hr .refl⟩
end
noncomputable def kE(X:Cx)(N':List Str)(scope:Scope)(cl:List (Str×Addr))(C:Addr)(s3:Shared)(H3:Hp)(fp:List Addr):Cx:=
 { X with N:=N',s₀:=s3,H₀:=H3,env:=compEnvC scope cl C X.env,outer:=X.stack,stack:=X.stack,ex:=fp,fn:=λ_=>false,pn:=[],xe:=λ_ _=>False }
noncomputable def namesOk(sc:Scope)(N:List Str)(m:List Nat)(scope:Scope)(t:T)(N':List Str)(m':List Nat):Prop:=m'.length=N'.length/\
 ∀(j:Nat) x i,N'[j]?=some x->m'[j]?=some i->i∈Ev.slots t\/((x,NameKind.free)∈scope.names/\∃jo:Nat,N[jo]?=some x/\m[jo]?=some i)
noncomputable def kF(sc:Scope)(N:List Str)(m:List Nat)(scope:Scope)(t:T)(N':List Str)(m':List Nat):Bool:=m'.length==N'.length&&
 (List.range N'.length).all λj=>match N'[j]?,m'[j]? with
  |some x,some i=>(Ev.slots t).contains i || (scope.names.contains (x,NameKind.free)&&(List.range N.length).any λjo=>N[jo]?==some x&&m[jo]?==some i)
  |_,_=>true
def namesOk.of{sc:Scope}{N:List Str}{m:List Nat}{scope:Scope}{t:T}{N':List Str}{m':List Nat}(h:kF sc N m scope t N' m'=true):namesOk sc N m scope t N' m':=by
 unfold kF at h;rw[pW]at h;refine⟨by simpa using h.1,λj x i e1 e2=>?_⟩;have hj:j<N'.length:=(List.getElem?_eq_some_iff.mp e1).1;have q:=List.all_eq_true.mp h.2 j (List.mem_range.mpr hj);rw[e1,e2]at q;simp only[K1,pW,LI]at q;rcases q with q|⟨q1,jo,_,q2⟩
 .exact .inl (by simpa using q)
 .exact .inr ⟨by simpa using q1,jo,by simpa using q2.1,by simpa using q2.2⟩
def qq{t:T}{d:D}{fr ak:Fr}(e:Ev.bD t d fr=some ak){i:Nat}(hi:i∉Ev.slots t):ak[i]?=fr[i]?:=by
 have go:∀(l:List Nat) (ds:List D) (fr ak:Fr),Ev.bM l ds fr=some ak->i∉l->ak[i]?=fr[i]?:=by
  intro l;induction l with
  |nil=>
   intro ds fr ak e _;cases ds with
   |nil=>cases e;rfl
   |cons _ _=>cases e
  |cons j l ih=>
   intro ds fr ak e hj;cases ds with
   |nil=>cases e
   |cons d ds=>
    rw[ih ds _ _ e λz=>hj (AE _ z),bU];intro z;exact hj (by rw[z];exact Km ..)
 cases t with
 |one j=>
  cases e;rw[bU];intro z;exact hi (by simp[Ev.slots,z])
 |many l=>
  cases d with
  |tup ds=>exact go l ds fr ak e hi
  |_=>cases e
def SR.unbind{K:PySem.W.Frag}{m:List Nat}{H:Hp}{r:List Addr}{t:T}{d:D}{fr ak:Fr}{s:L2.St}(sr:SR K m H r ak s)(e:Ev.bD t d fr=some ak)(hu:Ev.undef t fr=true):SR K m H r fr s:=by
 refine⟨sr.len,λj i d' e1 e2=>sr.sl j i d' e1 ?_⟩;rw[qq e]
 .exact e2
 .intro hi;have q:=List.all_eq_true.mp hu i hi;rw[e2]at q;cases q
structure gD(sc scope:Scope):Prop where
 kind:scope.kind=.function
 uH:∀y∈scope.names,y.2≠.cell
 free:∀x,(x,NameKind.free)∈scope.names->(sc.names.lookup x=some .cell\/sc.names.lookup x=some .free)/\scope.names.lookup x=some .free
 loc:∀y∈scope.names,y.2=.local->scope.names.lookup y.1=some .local
noncomputable def yh(sc scope:Scope):Bool:=scope.kind==.function&&scope.names.all λy=>y.2 != .cell&&(y.2 != .free || ((sc.names.lookup y.1==some .cell ||sc.names.lookup y.1==some .free)&&scope.names.lookup y.1==some .free))&&(y.2 != .local ||scope.names.lookup y.1==some .local)
def gD.of{sc scope:Scope}(h:yh sc scope=true):gD sc scope:=by
 unfold yh at h;rw[pW]at h;have q:∀y∈scope.names,y.2≠.cell/\(y.2=.free->(sc.names.lookup y.1=some .cell\/sc.names.lookup y.1=some .free)/\scope.names.lookup y.1=some .free)/\(y.2=.local->scope.names.lookup y.1=some .local):=λy hy=>by
  have z:=List.all_eq_true.mp h.2 y hy;simp only[pW,K1,bne_iff_ne,MA,ne_eq]at z;refine⟨z.1.1,λe=>?_,λe=>?_⟩
  .rcases z.1.2 with w|w
   .exact absurd e w
   .exact w
  .rcases z.2 with w|w
   .exact absurd e w
   .exact w
 exact⟨by simpa using h.1,λy hy=>(q y hy).1,λx hx=>(q _ hx).2.1 rfl,λy hy=>(q y hy).2.2⟩
theorem m5{sc:Scope}:∀{names:List (Str×NameKind)}{x:Str},names.lookup x=some .free->
  ((names.map λ(n,k)=>if (k==NameKind.free&&sc.kind==.function&&sc.names.lookup n==some .cell)then (n,NameKind.cell)else (n,k)).lookup x=some .cell\/
   (names.map λ(n,k)=>if (k==NameKind.free&&sc.kind==.function&&sc.names.lookup n==some .cell)then (n,NameKind.cell)else (n,k)).lookup x=some .free)
 |[],_,h=>by simp at h
 | (n,k) :: r,x,h=>by
  have ih:=@m5 sc r x;simp only[vv];simp only[K7]at h;by_cases hc:(k==NameKind.free&&sc.kind==.function&&sc.names.lookup n==some .cell)=true
  .rw[eO hc];simp only[K7];cases hx:(x==n)with
   |true=>exact .inl rfl
   |false=>rw[hx]at h;exact ih h
  .rw[yL hc];simp only[K7];cases hx:(x==n)with
   |true=>rw[hx]at h;exact .inr h
   |false=>rw[hx]at h;exact ih h
section
variable{G:Tb}{n:Nat}{sc scope:Scope}{N N':List Str}{df:Bool}{m m':List Nat}{t:T}{X:Cx}
def Good.comp(g:Good G n sc N df X){cl:List (Str×Addr)}{C:Addr}{s3:Shared}{H3:Hp}{fp:List Addr}:Good G n (cQ sc scope) N' false (kE X N' scope cl C s3 H3 fp):=
 ⟨rfl,lS g.sc,g.calm,(λh=>by cases h),g.room,rfl,g.fn,g.bl,g.cs,g.dk⟩
def zG{pins:List (Addr×Obj)}{σ:L2.St}{H3:Hp}{s3:Shared}(g:Good G n sc N df X)(I:Inv X pins σ H3 s3)(hs:gD sc scope){cl:List (Str×Addr)}(eU:∀x c,cl.lookup x=some c->X.env.cells.lookup x=some c)
  (gE:∀x,(x,NameKind.free)∈scope.names->∃c,cl.lookup x=some c) {fp:List Addr} (hfp:∀b∈fp,eS X pins H3 b) (hfl:∀b∈fp,b<s3.heap.objs.size):(kE X N' scope cl s3.heap.objs.size s3 H3 fp).Ok where
 mod:=I.ok.mod
 kind:=hs.kind
 glob:=I.ok.glob
 blt:=I.ok.blt
 above:=gV _
 inj:=λx y c h1 h2=>I.ok.inj x y c (eU x c h1) (eU y c h2)
 has:=λx h=>by
  have h':(cQ sc scope).names.lookup x=some .cell\/(cQ sc scope).names.lookup x=some .free:=by
   rw[<-lS (scope:=scope) g.sc];exact h
  exact gE x (mZ hs.uH h')
 qF:=λx c h=>by cases h
 hd:=I.ok.hd
 frames:=I.ok.frames
 stk:=.inl rfl
 xR:=λb hb=>⟨IB (hfl b hb),λx c e=>(hfp b hb).2.2.2.2.1 x c (eU x c e)⟩
 bs:=I.bs
 mE:=xE I.ok.mE I.sz
 lH:=λb o e hb=>by
  rcases(hfp b hb).2.2.2.1 with z|z
  .exact I.ok.lH b o e z
  .have:=mz (I.ok.bs b o e).1;exact absurd (b7 this z) (K4 _)
 lI:=λb hb z=>by
  rcases List.mem_cons.mp (I.oz b z)with q|q
  .exact(hfp b hb).2.1 q
  .exact(hfp b hb).2.2.1 q
 fK:=I.stack
 oq:=I.qG
open Classical in
noncomputable def sig(scope:Scope)(N N':List Str)(m':List Nat)(K:PySem.W.Frag)(H:Hp)(r:List Addr)(fr:Fr)(σ:L2.St):L2.St:=
 (List.range N'.length).map λj=>if h:∃v,∃x i,N'[j]?=some x/\m'[j]?=some i/\(x,NameKind.free)∈scope.names/\(∃jo:Nat,N[jo]?=some x/\σ[jo]?=some (some v))/\∀d,fr[i]?=some (some d)->RV K H r d v then some h.choose else none
def BW{K:PySem.W.Frag}{H:Hp}{r:List Addr}{fr:Fr}{σ:L2.St}{j:Nat}{v:V}(h:(sig scope N N' m' K H r fr σ)[j]?=some (some v)) :
  ∃x i,N'[j]?=some x/\m'[j]?=some i/\(x,NameKind.free)∈scope.names/\(∃jo:Nat,N[jo]?=some x/\σ[jo]?=some (some v))/\∀d,fr[i]?=some (some d)->RV K H r d v:=by
 unfold sig at h;rw[GP]at h;cases e:(List.range N'.length)[j]? with
 |none=>rw[e]at h;cases h
 |some j'=>
  have:=getElem?_range' e;subst this;rw[e]at h;simp only[M6,MT]at h;split at h
  .rename_i hh;cases h;exact hh.choose_spec
  .cases h
def BX{K:PySem.W.Frag}{H:Hp}{r:List Addr}{fr:Fr}{σ:L2.St}(sr:SR K m H r fr σ)(hn:namesOk sc N m scope t N' m')(hu:Ev.undef t fr=true):SR K m' H r fr (sig scope N N' m' K H r fr σ):=by
 refine⟨by unfold sig;simp[hn.1],λj i d e1 e2=>?_⟩;have hj:j<N'.length:=by rw[<-hn.1];exact(List.getElem?_eq_some_iff.mp e1).1
 have hx:N'[j]?=some N'[j]:=j9 hj;rcases hn.2 j _ i hx e1 with hi|⟨h1,jo,h2,h3⟩
 .exfalso;have q:=List.all_eq_true.mp hu i hi;rw[e2]at q;cases q
 .obtain⟨v,h4,h5⟩:=sr.sl jo i d h3 e2;have ex:∃v,∃x i,N'[j]?=some x/\m'[j]?=some i/\(x,NameKind.free)∈scope.names/\(∃jo:Nat,N[jo]?=some x/\σ[jo]?=some (some v))/\∀d,fr[i]?=some (some d)->RV K H r d v:=
   ⟨v,N'[j],i,hx,e1,h1,⟨jo,h2,h4⟩,λd' e'=>by rw[e2]at e';cases e';exact h5⟩
  refine⟨ex.choose,?_,?_⟩
  .unfold sig;rw[GP,MI hj];simp only[M6];rw[dif_pos ex]
  .obtain⟨x',i',q1,q2,q3,q4,q5⟩:=ex.choose_spec;rw[e1]at q2;cases q2;exact q5 d e2
def wC{pins:List (Addr×Obj)}{σ:L2.St}{H3:Hp}{s3:Shared}(g:Good G n sc N df X)(I:Inv X pins σ H3 s3)(hs:gD sc scope){cl:List (Str×Addr)}(eU:∀x c,cl.lookup x=some c->X.env.cells.lookup x=some c)
  (gE:∀x,(x,NameKind.free)∈scope.names->∃c,cl.lookup x=some c) {fp:List Addr} (hfp:∀b∈fp,eS X pins H3 b) (hfl:∀b∈fp,b<s3.heap.objs.size) {h1:Heap} {tk:Nat} {mm:Str->Option Value}
  (hns:h1.Ns s3.heap.objs.size mm) (hk:∀b o,s3.heap.get? b=some o->h1.get? b=some o) {r:List Addr} {fr:Fr} :
  Inv (kE X N' scope cl s3.heap.objs.size s3 H3 fp) [] (sig scope N N' m' X.K H3 r fr σ) H3 { s3 with heap:=h1,toks:=tk }:=by
 refine⟨zG g I hs eU gE hfp hfl,rfl,I.bare,Un.kept hk,⟨mm,hns,λj x v e1 e2 e3=>?_⟩,λx c e=>?_,I.hok.fresh (gV _),λx c e=>I.fy x c (eU x c e),(λp hp=>by simp[kE]at hp),I.hok.kept hk,(by unfold sig;simp[kE])⟩
 .obtain⟨x',i,q1,q2,q3,⟨jo,q4,q5⟩,_⟩:=BW e2;have Jr:N'[j]?=some x:=e1;rw[Jr]at q1;cases q1;obtain⟨f1,f2⟩:=hs.free x q3;obtain⟨mO,Kq,Js⟩:=I.loc;obtain⟨u,ru,lk⟩:=Js jo x v (by rw[g.nm];exact q4) q5 (by rw[g.sc];rcases f1 with z|z<;>simp[tV,z]);refine⟨u,ru,?_⟩;have hkd:X.env.kindOf x=some .cell\/X.env.kindOf x=some .free:=by unfold Env.kindOf;rw[g.sc];exact f1
  rcases lk with ⟨z,_⟩|⟨_,c,hc,hcell⟩
  .rcases hkd with w|w <;> (rw[z]at w;cases w)
  .obtain⟨c',hc'⟩:=gE x q3;have:c'=c:=by
    have:=eU x c' hc';rw[hc]at this;cases this;rfl
   subst this;refine .inr ⟨?_,c',hc',?_⟩
   .show(relabel scope X.env).names.lookup x=some .cell\/(relabel scope X.env).names.lookup x=some .free;rw[lS (scope:=scope) g.sc];exact m5 f2
   .obtain⟨o,ho,hd⟩:=hcell;exact⟨o,hk _ _ ho,hd⟩
 .obtain⟨v,o,ho,hd⟩:=I.cell x c (eU x c e);exact⟨v,o,hk _ _ ho,hd⟩
end
section
variable{G:Tb}{n:Nat}{sc scope:Scope}{N N':List Str}{df:Bool}{m m':List Nat}{elt:E}{t:T}{it:Ev.It}{cond:Eo}{xe xi tg:Expr}{ifs:List Expr}{pos:Pos}{X:Cx}
noncomputable def sG(P:aB)(elt:E)(t:T)(cond:Eo)(fr:Fr):D->Hh->R (Option D):=λd h2=>match Ev.bD t d fr with
 |none=>.bad
 |some ak=>(Ev.fT P cond ak h2).bind λk h3=>if k then (Ev.ev P elt ak h3).bind λx h4=>.ok (some x) h4 else .ok none h3
def lT(P:aB)(elt:E)(t:T)(it:Ev.It)(cond:Eo)(fr:Fr)(h:Hh):Ev.ev P (.comp elt t it cond) fr h=(Ev.bO P it fr h).bind λs h1=>if Ev.undef t fr then
  (Ev.bz (sG P elt t cond fr) s.2 s.1 h1).bind λds h2=>Ev.alloc ds h2 else .bad:=by
 simp only[Ev.ev];rfl
noncomputable def CI(Y:Cx)(m':List Nat)(f:D->Hh->R (Option D))(fr:Fr)(src:Src)(fp:List Addr)(tn:Nat->Heap->Prop)(r2:List Addr)(H2:Hp)(Dd:Addr)(ds:List D)(h2:Hh)(k:Nat)(s:Shared):Prop:=
 ∃i jE Hc rc hc dn vs rest,Inv Y [] jE Hc s/\tn i s.heap/\(∀b∈fp,Hc b=none)/\k=src.1.length - i/\i<=src.1.length/\
  SR Y.K m' Hc rc fr jE/\HR Y.K Hc rc hc/\Fm Y.K r2 rc H2 Hc/\Hc Dd=some (.lst vs)/\Dd∉rc/\az Y.K Hc rc dn vs/\Ev.bz f src.2 (src.1.drop i) hc=.ok rest h2/\dn++rest=ds
section
variable{Y:Cx}{sc':Scope}{J:L2.It}{fp:List Addr}{ita:Addr}{tn:Nat->Heap->Prop}{fr:Fr}{src:Src}{r2:List Addr}{H2:Hp}{Dd:Addr}{ds:List D}{h2:Hh}
def sH(gC:Good G n sc' N' false Y){α:Type}{tt:Sem α}{Q:α->Shared->Prop}{s:Shared}(hw:wpAny (model Y.prog Y.w) Y.A tt Q Y.xe s):wpAny (model Y.prog Y.w) Y.A tt Q cZ s:=by rw[gC.xe]at hw;exact hw
def qV{i:Nat}{iH:L2.St}{H9:Hp}{r9:List Addr}{h9:Hh}{dn:List D}{vs:List V}{rest':List D}{s9:Shared}{p:List (Addr×Obj)}{f:D->Hh->R (Option D)}(hlt:i<src.1.length)(I9:Inv Y ([]++p) iH H9 s9)(bk:tn (i+1) s9.heap/\∀b∈fp,H9 b=none)(q:SR Y.K m' H9 r9 fr iH)(m6:HR Y.K H9 r9 h9)(fm:Fm Y.K r2 r9 H2 H9)(sI:H9 Dd=some (.lst vs))(sJ:Dd∉r9)(rv:az Y.K H9 r9 dn vs)(e7:Ev.bz f src.2 (src.1.drop (i+1)) h9=.ok rest' h2)(ed:dn++rest'=ds) :
  ∃k,k<src.1.length - i/\CI Y m' f fr src fp tn r2 H2 Dd ds h2 k s9:=
 ⟨src.1.length - (i+1),MH hlt (Mh i),i+1,iH,H9,r9,h9,dn,vs,rest',I9.g8,bk.1,bk.2,rfl,hlt,q,m6,fm,sI,sJ,rv,e7,ed⟩
def BY{i:Nat}{iH:L2.St}{H9:Hp}{r9:List Addr}{h9:Hh}{dn:List D}{vs:List V}{xd:D}{v10:V}{yi:Value}{rest':List D}{s9:Shared}{p:List (Addr×Obj)}{f:D->Hh->R (Option D)}(hlt:i<src.1.length)(iW:H2 Dd=none)(hsz:ds.length<=sizeLine)(gC:Good G n sc' N' false Y)(I9:Inv Y ([]++p) iH H9 s9)(wD:RelV v10 yi)(bk:∀{σ':L2.St}{H':Hp}{s':Shared},Inv Y ([]++p) σ' H' s'->tn (i+1) s'.heap/\∀b∈fp,H' b=none)(q:SR Y.K m' H9 r9 fr iH)(m6:HR Y.K H9 r9 h9)(fm:Fm Y.K r2 r9 H2 H9)(jF:H9 Dd=some (.lst vs))(o5:Dd∉r9)(rv:az Y.K H9 r9 dn vs)(wG:RV Y.K H9 r9 xd v10)(e7:Ev.bz f src.2 (src.1.drop (i+1)) h9=.ok rest' h2)(ed:dn++xd :: rest'=ds) :
  wpAny (model Y.prog Y.w) Y.A (call (.builtin "list.append") [.ref Dd,yi]) (λ_ yj=>∃k,k<src.1.length - i/\CI Y m' f fr src fp tn r2 H2 Dd ds h2 k yj) cZ s9:=by
 have hlen:vs.length<sizeLine:=by
  have h1:=rv.length;have h2:=AD List.length ed;simp at h2;omega
 refine aR (sH gC (uh _ s9 iH H9 (.ref Dd) [v10] (.ref Dd) [yi] (λ_ Gv=>Gv=upd H9 Dd (.lst (vs++[v10]))) I9 rfl (.cons wD .nil) ⟨Dd,vs,v10,rfl,rfl,jF,hlen,rfl⟩)) λ_ yj ⟨_,Gv,Gw,_,HV⟩=>?_;subst HV;refine qV (dn:=dn++[xd]) (vs:=vs++[v10]) hlt Gw (bk Gw) ?_ (m6.other jF o5) (fm.other iW jF) cU o5 ?_ e7 ?_
 .exact⟨q.len,λj i' d' a1 a2=>by
   obtain⟨w,b1,b2⟩:=q.sl j i' d' a1 a2;exact⟨w,b1,b2.grow (λ_ _ z=>z) (eT jF)⟩⟩
 .exact(rv.append (.cons wG .nil)).grow (λ_ _ z=>z) (eT jF)
 .rw[<-ed];simp
def uI(gC:Good G n sc' N' false Y)(hg:JG G n sc' N' false m' t tg)(hc:JC G n sc' N' false m' cond ifs)(he:JE G n sc' N' false m' elt xe)(Tn:Turn Y.prog Y.w Y.K tg J fp ita tn)(g9:∀{Hc:Hp},(∀b∈fp,Hc b=none)->∀b∈fp,eS Y [] Hc b)
  (hu:Ev.undef t fr=true) (hJ:lQ Y.K r2 H2 src J) (iW:H2 Dd=none) (hsz:ds.length<=sizeLine) {R':Result->Shared->Prop}
  (HW:∀s6 jE Hc rc vs,Inv Y [] jE Hc s6->HR Y.K Hc rc h2->Fm Y.K r2 rc H2 Hc->Hc Dd=some (.lst vs)->Dd∉rc->az Y.K Hc rc ds vs->R' (.ok .next) s6) {k:Nat} {s:Shared}
  (h:CI Y m' (sG (Ev.run G.F G.w n) elt t cond fr) fr src fp tn r2 H2 Dd ds h2 k s):codeAny (model Y.prog Y.w) Y.A (.compLoop (.ListComp xe [⟨tg,xi,ifs,0⟩] scope pos) 0 (.ref ita) (.ref Dd) Y.env) R' s:=by
 refine o4 (CI Y m' (sG (Ev.run G.F G.w n) elt t cond fr) fr src fp tn r2 H2 Dd ds h2) ?_ k h;rintro k s5 ⟨i,jE,Hc,rc,hc',dn,vs,rest,I5,qK,mJ,rfl,hle,uG,mY,o6,jF,o5,uJ,e5,yk⟩;rcases Nat.lt_or_ge i src.1.length with hlt|hge
 .rw[Me hlt]at e5;simp only[Ev.bz]at e5;split at e5
  .rename_i hst;obtain⟨hgo,_⟩:=hJ i Hc rc hc' mY o6 hst;obtain⟨g1,g2⟩:=hgo src.1[i] (j9 hlt);obtain⟨o,h6,e6,e5⟩:=Ev.ah e5;obtain⟨rest',h7,e7,e5⟩:=Ev.ah e5;cases e5;refine aR (Tn.item Y rfl rfl rfl gC.calm i [] s5 jE Hc cZ I5 (g9 mJ) qK g1) λrr s6 ⟨u,Jt,h8⟩=>?_;subst Jt;refine aR h8 λ_ s7 ⟨x,H7,I7,rx,y7,BZ,Ju⟩=>?_;obtain⟨r7,v7,Gx,qW⟩:=g2 x H7 y7;obtain⟨HX,HY⟩:=qW.cK jF o5;unfold sG at e6;split at e6
   .cases e6
   .rename_i ak eb;obtain⟨kk,h9,e9,e6⟩:=Ev.ah e6;have Jv:=I7.pinned (g9 Ju) (Tn.obj _ _ BZ);refine aR (sH gC (hg _ gC _ s7 jE H7 x u (λiH H8=>H8=H7/\SR Y.K m' H7 r7 ak iH) Jv rx ⟨r7,fr,hc',_,ak,uG.mono qW,Gx,v7,eb,λs' q=>⟨rfl,q⟩⟩)) λ_ s8 ⟨iH,H8,I8,Jw,yl⟩=>?_;subst Jw;refine aR (sH gC (hc _ gC _ s8 iH _ (λb H9=>b=kk/\∃r9,HR Y.K H9 r9 h9/\Fm Y.K r7 r9 _ H9) I8 ⟨r7,ak,hc',kk,h9,yl,Gx,e9,λH9 r9 m6 f9=>⟨rfl,r9,m6,f9⟩⟩)) λbb s9 ⟨H9,I9,Br,r9,m6,m7⟩=>?_;subst Br;obtain⟨sJ,sI⟩:=m7.cK HY HX;have back:∀{σ':L2.St} {H':Hp} {s':Shared},Inv Y ([]++iP fp s7.heap) σ' H' s'->tn (i+1) s'.heap/\∀b∈fp,H' b=none:=λ{σ' H' s'} I'=>
     ⟨Tn.keep _ _ _ BZ λb hb o e=>(I'.pin (b,o) (DH _ (DH _ (fV hb e)))).1,λb hb=>
      let ⟨o,e,_⟩:=Tn.obj _ _ BZ b hb
      (I'.pin (b,o) (DH _ (DH _ (fV hb e)))).2.1⟩
    cases bb with
    |false=>
     simp only[xF,K0]at e6 ⊢;cases e6;exact qV hlt I9 (back I9) ((yl.mono m7).unbind eb hu) m6 ((o6.trans qW).trans m7) sI sJ ((uJ.mono qW).mono m7) e7 yk
    |true=>
     simp only[D6]at e6 ⊢;obtain⟨xd,Kr,Jx,e6⟩:=Ev.ah e6;cases e6;refine aR (sH gC (he _ gC _ s9 iH H9 (λv uK=>∃qX,RV Y.K uK qX xd v/\HR Y.K uK qX _/\Fm Y.K r9 qX H9 uK) I9 ⟨r9,ak,h9,xd,_,yl.mono m7,m6,Jx,λv uK qX v10 wH uL=>⟨qX,v10,wH,uL⟩⟩)) λyi Gy ⟨v10,uK,Jy,wD,qX,wG,wH,sL⟩=>?_;obtain⟨EM,EN⟩:=sL.cK sI sJ;exact BY hlt iW hsz gC Jy wD back (((yl.mono m7).mono sL).unbind eb hu) wH (((o6.trans qW).trans m7).trans sL) EN EM (((uJ.mono qW).mono m7).mono sL) wG e7 yk
  .cases e5
 .have hi':i=src.1.length:=M8 hle hge;subst hi';rw[M5]at e5;simp only[Ev.bz]at e5;split at e5
  .rename_i hst;cases e5;refine aR (Tn.done Y rfl rfl rfl gC.calm _ [] s5 jE Hc cZ I5 (g9 mJ) qK ((hJ _ Hc rc _ mY o6 hst).2 (gV _))) λrr s6 ⟨hrr,I6⟩=>?_;subst hrr;rw[La]at yk;subst yk;exact HW s6 jE Hc rc vs I6 mY o6 jF o5 uJ
  .cases e5
end
def m8(g:Good G n sc N df X)(hi:JI G n sc N df m it tg xi)(hg:JG G n (cQ sc scope) N' false m' t tg)(hc:JC G n (cQ sc scope) N' false m' cond ifs)(he:JE G n (cQ sc scope) N' false m' elt xe)
  (hn:namesOk sc N m scope t N' m') (hs:gD sc scope) {cl:List (Str×Addr)} (eU:∀x c,cl.lookup x=some c->X.env.cells.lookup x=some c) (gE:∀x,(x,NameKind.free)∈scope.names->∃c,cl.lookup x=some c)
  {pins:List (Addr×Obj)} {σ:L2.St} {H:Hp} {s:Shared} (I:Inv X pins σ H s) {r:List Addr} {fr:Fr} {h:Hh} {d:D} {h':Hh} (sr:SR X.K m H r fr σ) (hr:HR X.K H r h)
  (e:Ev.ev (Ev.run G.F G.w n) (.comp elt t it cond) fr h=.ok d h') (post:Value->Addr->Result->Shared->Prop)
  (hpost:∀Dd C s' H' r',Inv X pins σ H' s'->(∃mm,s'.heap.Ns C mm)->eS X pins H' C->RV X.K H' r' d (.ref Dd)->HR X.K H' r' h'->Fm X.K r r' H H'->post (.ref Dd) C (.ok .next) s') {E:Value->Shared->Prop} (hE:X.xe=λ_ _=>False) :
  wpAny (model X.prog X.w) X.A (eval xi X.env) (λx s₁=>wpAny (model X.prog X.w) X.A (pyIter x) (λitv s₂=>wpAny (model X.prog X.w) X.A (newList []) (λacc s₃=>
   wpAny (model X.prog X.w) X.A (newFunctionEnv scope X.env.globals cl [] X.env.qual none .none (some X.env)) (λcenv s₄=>
    codeAny (model X.prog X.w) X.A (.compStart (.ListComp xe [⟨tg,xi,ifs,0⟩] scope pos) 0 itv acc { cenv with scope:=relabel scope X.env }) (post acc cenv.locals) s₄) E s₃) E s₂) E s₁) E s:=by
 rw[lT]at e;obtain⟨src,h1,e1,e⟩:=Ev.ah e;split at e
 .rename_i hu;obtain⟨ds,h2,e2,e⟩:=Ev.ah e;have mG:∀{α:Type} {tt:Sem α} {Q:α->Shared->Prop} {s:Shared},wpAny (model X.prog X.w) X.A tt Q X.xe s->wpAny (model X.prog X.w) X.A tt Q E s:=λ{α tt Q s} hw=>Kn hw (λ_ _ q=>q) λ_ _ q=>by rw[hE]at q;exact q.elim
  refine aR (mG (hi X g pins s σ H (λJ H2=>∃r2,HR X.K H2 r2 h1/\Fm X.K r r2 H H2/\lQ X.K r2 H2 src J) I ⟨r,fr,h,src,h1,sr,hr,e1,λJ H2 r2 hr2 f2 hJ=>⟨r2,hr2,f2,hJ⟩⟩)) λv s1 q1=>?_;refine aR (mG q1) λitv s2 q2=>?_;obtain⟨ita,fp,tn,J,H2,rfl,I2,Tn,st2,f2,r2,hr2,ym,hJ⟩:=q2;refine Lk ?_;generalize yo:s2.heap.objs.size=Dd
  have iW:H2 Dd=none:=by rw[<-yo];exact I2.fresh
  have I3:Inv X pins σ (upd H2 Dd (.lst [])) { s2 with heap:=s2.heap.push { cls:=.type "list",data:=.seq ([]:List Value).toArray }}:=by
   have:=I2.vV (ys:=[]) (its:=[]) (t':=s2.toks) .nil (LX _);rw[yo]at this;exact this
  have B3:∀b∈fp,b<s2.heap.objs.size:=λb hb=>by
   obtain⟨o,e,_⟩:=Tn.obj 0 _ st2 b hb;exact mz e
  generalize B4:({ s2 with heap:=s2.heap.push { cls:=.type "list",data:=.seq ([]:List Value).toArray }}:Shared)=s3 at I3
  have HZ:s3.heap.objs.size=s2.heap.objs.size+1:=by rw[<-B4];exact Heap.size_push ..
  have k3:∀b o,s2.heap.get? b=some o->s3.heap.get? b=some o:=λb o e=>by rw[<-B4];exact iB _ e
  have B5:∀b∈fp,b<s3.heap.objs.size:=λb hb=>b7 (B3 b hb) (by rw[HZ];exact Nat.le_succ _);have lU:∀b∈fp,eS X pins (upd H2 Dd (.lst [])) b:=λb hb=>⟨by rw[aU (λz=>absurd (B3 b hb) (by rw[z,yo];exact K4 _))];exact(f2 b hb).1,(f2 b hb).2⟩
  refine wpAny_newFunctionEnv (hs.uH) (λy hy=>by simp at hy) (λB6 Ia Ib=>?_) hs.kind;have k4:∀b o,s3.heap.get? b=some o->B6.get? b=some o:=λb o e=>Ib.extBut b o (IB (mz e)) (iB _ e);have gC:Good G n (cQ sc scope) N' false (kE X N' scope cl s3.heap.objs.size s3 (upd H2 Dd (.lst [])) fp):=g.comp;have I4:Inv (kE X N' scope cl s3.heap.objs.size s3 (upd H2 Dd (.lst [])) fp) [] (sig scope N N' m' X.K (upd H2 Dd (.lst [])) r2 fr σ) (upd H2 Dd (.lst [])) { s3 with heap:=B6,toks:=s3.toks+0 }:=
   wC g I3 hs eU gE lU B5 Ia k4
  have yg:SR X.K m' (upd H2 Dd (.lst [])) r2 fr (sig scope N N' m' X.K (upd H2 Dd (.lst [])) r2 fr σ):=BX (((sr.mono ym).mono (Fm.tup iW))) hn hu;have jD:HR X.K (upd H2 Dd (.lst [])) r2 h1:=hr2.tup iW;have Gz:Dd∉r2:=λhm=>by
   obtain⟨k,hk⟩:=LS hm;have hlt:k<h1.length:=by rw[<-hr2.len];exact(List.getElem?_eq_some_iff.mp hk).1
   obtain⟨a,e3,e4⟩:=hr2.ob k _ (j9 hlt);rw[hk]at e3;cases e3;cases eo:h1[k]with
   |lst dd=>rw[eo]at e4;obtain⟨us,e5,_⟩:=e4;rw[iW]at e5;cases e5
   |aW dd=>
    rw[eo]at e4;obtain⟨us,e5,_⟩:=e4;rcases e5 with ⟨ob,e5⟩|⟨ob,_,_,e5,_⟩
    .rw[iW]at e5;cases e5
    .have:=mz (I2.dw _ _ e5);rw[yo]at this;exact absurd this (K4 _)
  have Jz:H Dd=none:=by
   cases z:H Dd with
   |none=>rfl
   |some o=>
    have hnr:Dd∉r:=λhm=>by
     obtain⟨k,hk⟩:=LS hm;exact Gz (IC (ym.pre _ _ hk))
    have:=ym.keep _ _ z hnr;rw[iW]at this;cases this
  have g9:∀{Hc:Hp},(∀b∈fp,Hc b=none)->∀b∈fp,eS (kE X N' scope cl s3.heap.objs.size s3 (upd H2 Dd (.lst [])) fp) [] Hc b:=λ{Hc} hz b hb=>by
   refine⟨hz b hb,IB (B5 b hb),(I4.ok).lI b hb,.inl hb,λx c e=>((I4.ok).xR b hb).2 x c e,λp hp=>?_⟩;simp[kE]at hp
  have hsz:ds.length<=sizeLine:=by
   unfold Ev.alloc at e;split at e
   .rename_i z;rw[<-iU];exact z
   .cases e
  have fin:codeAny (model X.prog X.w) X.A (.compLoop (.ListComp xe [⟨tg,xi,ifs,0⟩] scope pos) 0 (.ref ita) (.ref Dd) (compEnvC scope cl s3.heap.objs.size X.env)) (post (.ref Dd) s3.heap.objs.size) { s3 with heap:=B6,toks:=s3.toks+0 }:=by
   refine uI gC hg hc he Tn g9 hu hJ iW hsz (λs6 jE Hc rc vs I6 mY o6 jF o5 uJ=>?_) ⟨0,_,_,r2,h1,[],[],ds,I4,Tn.keep _ _ _ st2 λb hb o eo=>k4 b o (k3 b o eo),λb hb=>(lU b hb).1,rfl,LX _,yg,jD,Fm.tup iW,cU,Gz,.nil,by rw[Lx];exact e2,rfl⟩;unfold Ev.alloc at e;split at e
   .cases e;obtain⟨JB,Ic,_⟩:=I6.loc;refine hpost Dd _ s6 Hc (rc++[Dd]) ?_ ⟨JB,Ic⟩ ?_ ⟨Dd,rfl,?_⟩ (mY.known jF o5 uJ) ((ym.trans o6).known ?_)
    .exact I3.D7 (ch:=fp) (I6.os) I6.base I6.hok I6.bare λb hb=>⟨(lU b hb).2.2.2.1,(lU b hb).2.1,(lU b hb).2.2.2.2.1,(lU b hb).2.2.2.2.2⟩
    .exact I3.vL (gV _) I6.free
    .rw[<-mY.len];simp
    .exact Jz
   .cases e
  subst B4;exact codeAny_compStart_list fin (Tn.self _ 0 _ _ _ (Tn.keep _ _ _ st2 λb hb o eo=>k4 b o (k3 b o eo)) fin)
 .cases e
end
section
variable{G:Tb}{n:Nat}{sc scope:Scope}{N N':List Str}{df:Bool}{m m':List Nat}{elt:E}{t:T}{it:Ev.It}{cond:Eo}{xe xi tg:Expr}{ifs:List Expr}{pos:Pos}
theorem Good.cells{X:Cx}{pins:List (Addr×Obj)}{σ:L2.St}{H:Hp}{s:Shared}(g:Good G n sc N df X)(I:Inv X pins σ H s)(hs:gD sc scope) :
  ∃cl,closureFor scope X.env=pure cl/\(∀x c,cl.lookup x=some c->X.env.cells.lookup x=some c)/\∀x,(x,NameKind.free)∈scope.names->∃c,cl.lookup x=some c:=
 zF λx hx=>I.ok.has x (by unfold Env.kindOf;rw[g.sc];exact(hs.free x hx).1)
def uM{X:Cx}{pins:List (Addr×Obj)}{σ:L2.St}{H:Hp}{s:Shared}(I:Inv X pins σ H s){C:Addr}(fp:eS X pins H C){h':Heap}(hs:Heap.SameBut C s.heap h'):Inv X pins σ H { s with heap:=h' }:=
 I.turned (t':=s.toks) (λb o hb e=>hs.extBut b o hb e) fp.1 fp.2.1 fp.2.2.2.1 fp.2.2.2.2.1 fp.2.2.2.2.2
def qY(hi:JI G n sc N df m it tg xi)(hg:JG G n (cQ sc scope) N' false m' t tg)(hc:JC G n (cQ sc scope) N' false m' cond ifs)(he:JE G n (cQ sc scope) N' false m' elt xe)
  (hn:namesOk sc N m scope t N' m') (hs:gD sc scope) (hf:∀(env:Env) x,foldedSetIterable xi env x=pure x:=by intro _ _;rfl):JE G n sc N df m (.comp elt t it cond) (.ListComp xe [⟨tg,xi,ifs,0⟩] scope pos):=λX g pins s σ H Q I q=>by
 obtain⟨r,fr,h,d,h',sr,hr,e,q⟩:=q;obtain⟨cl,hcl,eU,gE⟩:=g.cells I hs;rw[eval_ListComp];refine Mj (use:=none) (Q:=EP X pins σ Q) rfl (hf _) hcl hs.kind hs.loc ?_;refine m8 g hi hg hc he hn hs eU gE I sr hr e (λacc C=>compPost (model X.prog X.w) X.A X.xe none (EP X pins σ Q) acc C) (λDd C s' H' r' I' hC fp rv hr' yp=>?_) g.xe;obtain⟨mm,hC⟩:=hC;exact⟨mm,hC,λh'' uN=>⟨.ref Dd,H',uM I' fp uN,rfl,q _ H' r' rv hr' yp⟩⟩
def zH(j i:Nat){x:Str}{pos' cpos:Pos}(hm:m.Nodup)(hN:N.Nodup)(hi:JI G n sc N df m it tg xi)(hg:JG G n (cQ sc scope) N' false m' t tg)(hc:JC G n (cQ sc scope) N' false m' cond ifs)(he:JE G n (cQ sc scope) N' false m' elt xe)
  (hn:namesOk sc N m scope t N' m') (hs:gD sc scope) (hj:m[j]?=some i:=by rfl) (mW:N[j]?=some x:=by rfl)
  (hl:sc.names.lookup x=some .local\/(df=true/\sc.names.lookup x=some .cell):=by first|exact Or.inl rfl|exact Or.inr ⟨rfl,rfl⟩) (hf:∀(env:Env) x,foldedSetIterable xi env x=pure x:=by intro _ _;rfl) :
  JS G n sc N df m (.set i (.comp elt t it cond)) (.Assign [.Name x pos'] (.ListComp xe [⟨tg,xi,ifs,0⟩] scope cpos) pos):=λX g=>by
 obtain⟨h1,h2⟩:=g.loc hl;have hsw:swapsWith (.ListComp xe [⟨tg,xi,ifs,0⟩] scope cpos) (some (.Name x pos')) pos.line X.env=pure (X.env.blockKind==.function&&X.env.kindOf x==some .local&&pos'.line==(Expr.ListComp xe [⟨tg,xi,ifs,0⟩] scope cpos).pos.line&&!(scope.names.any λ(n,k)=>n==x&&(k==.local ||k==.cell))):=rfl;generalize hb:(X.env.blockKind==.function&&X.env.kindOf x==some .local&&pos'.line==(Expr.ListComp xe [⟨tg,xi,ifs,0⟩] scope cpos).pos.line&&!(scope.names.any λ(n,k)=>n==x&&(k==.local ||k==.cell)))=b at hsw
 cases b with
 |false=>
  refine PS.of (tY (i:=j) (by rw[g.nm];exact hN) (by rw[g.nm];exact mW) h1 (qY hi hg hc he hn hs hf X g) hsw h2) λQ s H q=>?_;obtain⟨r,fr,h,fl,ai,h',sr,hr,e,q⟩:=q;simp only[Ev.ex]at e;obtain⟨d,h1,e1,e⟩:=Ev.ah e;cases e;exact⟨r,fr,h,d,_,sr,hr,e1,λv H1 r1 v1 hr1 f1=>q _ H1 r1 ((sr.mono f1).set hm hj v1) hr1 f1⟩
 |true=>
  have Ks:X.env.kindOf x=some .local:=by
   simp only[pW,MA]at hb;exact hb.1.1.2
  intro pins s σ H Q I q;obtain⟨r,fr,h,fl,ai,h',sr,hr,e,q⟩:=q;simp only[Ev.ex]at e;obtain⟨d,h3,e1,e⟩:=Ev.ah e;cases e;obtain⟨cl,hcl,eU,gE⟩:=g.cells I hs;rw[exec_Assign_Name_used _ _ _ _ hsw];refine cF (wpAny_standAt (cF ?_));show wpAny _ X.A (do let _ <-comprehension (.ListComp xe [⟨tg,xi,ifs,0⟩] scope cpos) scope X.env _ (newList []) false (eval xi X.env) (some (assign (.Name x pos') X.env))) _ _ s;refine cF (Kn (Mj (use:=some (assign (.Name x pos') X.env)) (Q:=λ_ s'=>SP X pins Q .next s') rfl (hf _) hcl hs.kind hs.loc ?_) (λ_ s' hq=>nv (nv hq)) λ_ _ e=>e);refine m8 g hi hg hc he hn hs eU gE I sr hr e1 (λacc C=>compPost (model X.prog X.w) X.A X.xe (some (assign (.Name x pos') X.env)) (λ_ s'=>SP X pins Q .next s') acc C) (λDd C s' H' r' I' hC fp rv hr' yp=>?_) g.xe;obtain⟨mm,hC⟩:=hC;show wpAny _ X.A (assign (.Name x pos') X.env (.ref Dd)) _ _ s';refine wpAny_assign_Name (mF (v:=.ref Dd) I' (by rw[g.nm];exact hN) (i:=j) (by rw[g.nm];exact mW) h1 rfl (λs'' JD uN=>?_) h2);obtain⟨a,uN,ha⟩:=uN;have JF:C≠a:=by
   rcases ha with z|z
   .rw[z];exact fp.2.1
   .exact λw=>fp.2.2.2.2.1 x a z w.symm
  refine⟨mm,hC.sameBut uN JF,λh'' Ie=>?_⟩;exact⟨_,H',uM JD ⟨fp.1,fp.2⟩ Ie,q _ H' r' ((sr.mono yp).set hm hj rv) hr' yp⟩
end
end Sm
namespace Sm
open PySem PySem.Spec PyProof.Rows L2 PySem.SeqAt
open Ev (D O Hh Fr R aB E Es Eo T S Ss Fl Src aS aJ TY BI ME)
structure o7(A:Around)(s:Shared)(u w:Value)(k:Bool):Prop where
 eq:EqAt A s u w k
 rc:RcAt A s u w k
 ne:RcNeAt A s u w (!k)
theorem lV{f:D->D->Option Bool}:∀{x y:List D},x.length≠y.length->∀{k},Ev.bF f x y=some k->k=false
 |[],[],h,_,_=>absurd rfl h
 |[],_ :: _,_,_,e=>by cases e;rfl
 |_ :: _,[],_,_,e=>by cases e;rfl
 |a :: x,b :: y,h,k,e=>by
  simp only[Ev.bF,Lf,bL]at e;obtain⟨p,_,q,e2,e3⟩:=e;have:=lV (x:=x) (y:=y) (by simpa using h) e2;subst this;cases e3;simp
theorem qZ{f:D->D->Option Bool}:∀{x y:List D}{k},Ev.bF f x y=some k->x.length=y.length->∃e:Nat->Bool,(∀(j:Nat) a b,x[j]?=some a->y[j]?=some b->f a b=some (e j))/\(List.range x.length).all e=k
 |[],[],_,h,_=>⟨λ_=>true,(λj a b h1=>by simp at h1),by cases h;simp⟩
 |[],_ :: _,_,_,h=>by simp at h
 |_ :: _,[],_,_,h=>by simp at h
 |a :: x,b :: y,k,h,hl=>by
  simp only[Ev.bF,Lf,bL]at h;obtain⟨p,e1,q,e2,e3⟩:=h;cases e3;obtain⟨e,h1,h2⟩:=qZ e2 (by simpa using hl);refine⟨λj=>match j with|0=>p|j+1=>e j,λj a' b' g1 g2=>?_,?_⟩
  .cases j with
   |zero=>simp at g1 g2;subst g1 g2;exact e1
   |succ j=>exact h1 j a' b' (by simpa using g1) (by simpa using g2)
  .rw[pX,Mr,List.all_cons,List.all_map,<-h2];rfl
theorem q8{f:D->D->Option Bool}:∀{x y:List D}{k},Ev.bF f x y=some k->∃e:Nat->Bool,∀(j:Nat) a b,x[j]?=some a->y[j]?=some b->f a b=some (e j)
 |[],_,_,_=>⟨λ_=>true,λj a b h1=>by simp at h1⟩
 |_ :: _,[],_,_=>⟨λ_=>true,λj a b _ h1=>by simp at h1⟩
 |a :: x,b :: y,k,h=>by
  simp only[Ev.bF,Lf,bL]at h;obtain⟨p,e1,q,e2,e3⟩:=h;obtain⟨e,h1⟩:=q8 e2;refine⟨λj=>match j with|0=>p|j+1=>e j,λj a' b' g1 g2=>?_⟩;cases j with
  |zero=>simp at g1 g2;subst g1 g2;exact e1
  |succ j=>exact h1 j a' b' (by simpa using g1) (by simpa using g2)
section
variable{X:Cx}{pins:List (Addr×Obj)}{σ:L2.St}{H:Hp}{s:Shared}{r:List Addr}{h:Hh}
def jq(I:Inv X pins σ H s){a b:Addr}{vs ws:List V}(h1:sF X.K H a vs)(h2:H b=some (.lst ws)):a≠b:=by
 rintro rfl;rcases h1 with ⟨o,h1⟩|⟨o,_,_,h1,_⟩
 .rw[h2]at h1;cases h1
 .have:=(I.bs a o (I.ok.mod.xQ a o h1)).2;rw[h2]at this;cases this
def m9{x y:List D}{vs ws:List V}{us zs:List Value}{f:D->D->Option Bool}{A:Around}{k:Bool}(v1:az X.K H r x vs)(v2:az X.K H r y ws)(p1:Vals vs us)(p2:Vals ws zs)
  (ih:∀a b va vb u w k,RV X.K H r a va->RV X.K H r b vb->RelV va u->RelV vb w->f a b=some k->o7 A s u w k) (hl:x.length=y.length) (e:Ev.bF f x y=some k) :
  ∃e':Nat->Bool,(∀j (h1:j<us.toArray.size) (h2:j<zs.toArray.size),EqAt A s us.toArray[j] zs.toArray[j] (e' j))/\(List.range us.toArray.size).all e'=k/\us.length=zs.length:=by
 obtain⟨e',h1,h2⟩:=qZ e hl;have l1:=v1.length;have l2:=v2.length;have l3:=p1.length;have l4:=p2.length;refine⟨e',λj g1 g2=>?_,?_,by omega⟩
 .have JH:j<us.length:=by simpa using g1
  have JJ:j<zs.length:=by simpa using g2
  have ha:x[j]?=some x[j]:=j9 (by omega);have hb:y[j]?=some y[j]:=j9 (by omega);obtain⟨va,a1,a2⟩:=v1.get ha;obtain⟨vb,b1,b2⟩:=v2.get hb;obtain⟨u,a3,a4⟩:=p1.get a1;obtain⟨w,b3,b4⟩:=p2.get b1;have eu:us.toArray[j]=u:=by
   have:=(List.getElem?_eq_some_iff.mp a3).2;simpa using this
  have ew:zs.toArray[j]=w:=by
   have:=(List.getElem?_eq_some_iff.mp b3).2;simpa using this
  rw[eu,ew];exact(ih _ _ _ _ _ _ _ a2 b2 a4 b4 (h1 j _ _ ha hb)).eq
 .rw[<-h2];have:us.toArray.size=x.length:=by simp;omega
  rw[this]
noncomputable def bA(K:PySem.W.Frag)(H:Hp)(r:List Addr):D->V->Prop
 |.bg,v=>v=.bg
 |.bl b,v=>v=.bl b
 |.int i,v=>v=.int i
 |.str l,v=>v=.str (aq l)
 |.ref n,v=>∃a,v=.ref a/\r[n]?=some a
 |.tup ds,v=>∃a vs,v=.ref a/\b8 K H a vs/\az K H r ds vs
def RV.shape{d:D}{v:V}(h:RV X.K H r d v):bA X.K H r d v:=by
 cases d<;>simp only[RV]at h<;>simp only[bA]<;>first|exact h|exact h.1
def zI{a b:List Nat}:(aq a==aq b)=(a==b):=by
 by_cases e:a=b
 .subst e;simp
 .have e1:(aq a==aq b)=false:=beq_eq_false_iff_ne.mpr λz=>e (gc z);have e2:(a==b)=false:=beq_eq_false_iff_ne.mpr e;rw[e1,e2]
def jY{n:Nat}{A:Around}{x y:List D}{a b:Addr}{vs ws:List V}{k:Bool}(I:Inv X pins σ H s)(hu:A.units<cLine)(q1:cS X.K H a vs)(q2:cS X.K H b ws)(v1:az X.K H r x vs)(v2:az X.K H r y ws)(hab:a≠b)
  (ih:∀a b va vb u w k,RV X.K H r a va->RV X.K H r b vb->RelV va u->RelV vb w->Ev.dS h n a b=some k->o7 A.in1 s u w k) (e:Ev.bF (Ev.dS h n) x y=some k):o7 A s (.ref a) (.ref b) k:=by
 obtain⟨us,p1,jG,_⟩:=I.list q1;obtain⟨zs,p2,jH,_⟩:=I.list q2;by_cases hl:x.length=y.length
 .obtain⟨e',h1,h2,h3⟩:=m9 v1 v2 p1 p2 ih hl e;have hs:us.toArray.size=zs.toArray.size:=by simpa using h3
  have rc:=RcAt.lists jG.isList jH.isList hs hu h1;have ne:=RcNeAt.lists jG.isList jH.isList hs hu h1;rw[h2]at rc ne;exact⟨.of_refs hab rc,rc,ne⟩
 .have hk:=lV hl e;subst hk;have hs:(us.toArray.size != zs.toArray.size)=true:=by
   have l1:=v1.length;have l2:=v2.length;have l3:=p1.length;have l4:=p2.length;simp only[cI,bne_iff_ne,ne_eq];omega
  exact⟨.of_refs hab (.lists_lengths jG.isList jH.isList hs hu),.lists_lengths jG.isList jH.isList hs hu,.lists_lengths jG.isList jH.isList hs hu⟩
def o8(I:Inv X pins σ H s)(hr:HR X.K H r h){n:Nat}{a:Addr}{ds:List D}(e:Ev.aI h n=some ds)(ha:r[n]?=some a):∃us:List Value,PlainL s.heap a us.toArray:=by
 obtain⟨a',vs,e1,e2,e3⟩:=hr.read e;rw[ha]at e1;cases e1;obtain⟨us,_,pl,_⟩:=I.list e2;exact⟨us,pl⟩
def uO(I:Inv X pins σ H s)(hr:HR X.K H r h):∀(n:Nat) (a b:D) (v:V) (k:Bool),RV X.K H r a v->RV X.K H r b v->Ev.dS h n a b=some k->k=true:=by
 intro n;induction n with
 |zero=>intro a b v k _ _ e;cases e
 |succ n ih=>
  have items:∀(x y:List D) (vs:List V) (k:Bool),az X.K H r x vs->az X.K H r y vs->Ev.bF (Ev.dS h n) x y=some k->k=true:=by
   intro x;induction x with
   |nil=>
    intro y vs k h1 h2 e;simp only[az]at h1;subst h1;cases y with
    |nil=>cases e;rfl
    |cons _ _=>simp only[az]at h2;obtain⟨_,_,h2,_⟩:=h2;cases h2
   |cons d x JK=>
    intro y vs k h1 h2 e;simp only[az]at h1;obtain⟨v,w,rfl,h3,h4⟩:=h1;cases y with
    |nil=>simp only[az]at h2;cases h2
    |cons d' y=>
     simp only[az]at h2;obtain⟨v',w',e2,h5,h6⟩:=h2;cases e2;simp only[Ev.bF,Lf,bL]at e;obtain⟨p,e1,q,e2,e3⟩:=e;cases e3;rw[ih d d' v p h3 h5 e1,JK y w q h4 h6 e2];rfl
  have lt:∀(a:Addr) (vs:List V) (i:Nat) (ds:List D),b8 X.K H a vs->r[i]?=some a->Ev.aI h i=some ds->False:=λa vs i ds h1 h2 h3=>by
   obtain⟨us,pl⟩:=o8 I hr h3 h2;obtain⟨zs,_,pt,_⟩:=I.tuple h1;exact ne_of_list_tuple pl.isList pt rfl
  intro a b v k h1 h2 e;have s1:=h1.shape;have s2:=h2.shape;clear h1 h2;cases a with
  |bg=>simp only[bA]at s1;cases b with
   |bg=>cases e;rfl
   |ref m=>obtain⟨p,z,_⟩:=s2;rw[s1]at z;cases z
   |tup y=>obtain⟨p,_,z,_⟩:=s2;rw[s1]at z;cases z
   |_=>simp only[bA]at s2;rw[s1]at s2;cases s2
  |bl x=>simp only[bA]at s1;cases b with
   |bl y=>simp only[bA]at s2;rw[s1]at s2;cases s2;cases e;simp
   |ref m=>obtain⟨p,z,_⟩:=s2;rw[s1]at z;cases z
   |tup y=>obtain⟨p,_,z,_⟩:=s2;rw[s1]at z;cases z
   |_=>simp only[bA]at s2;rw[s1]at s2;cases s2
  |int x=>simp only[bA]at s1;cases b with
   |int y=>simp only[bA]at s2;rw[s1]at s2;cases s2;cases e;simp
   |ref m=>obtain⟨p,z,_⟩:=s2;rw[s1]at z;cases z
   |tup y=>obtain⟨p,_,z,_⟩:=s2;rw[s1]at z;cases z
   |_=>simp only[bA]at s2;rw[s1]at s2;cases s2
  |str x=>simp only[bA]at s1;cases b with
   |str y=>
    simp only[bA]at s2;rw[s1]at s2;have:x=y:=gc (by injection s2);subst this;cases e;simp
   |ref m=>obtain⟨p,z,_⟩:=s2;rw[s1]at z;cases z
   |tup y=>obtain⟨p,_,z,_⟩:=s2;rw[s1]at z;cases z
   |_=>simp only[bA]at s2;rw[s1]at s2;cases s2
  |tup x=>
   obtain⟨p,vs,rfl,z,w⟩:=s1;cases b with
   |tup y=>
    obtain⟨p',vs',z',z2,w2⟩:=s2;cases z';rw[I.iO z2 z]at w2;exact items x y vs k w w2 e
   |ref m=>
    obtain⟨p',z',z2⟩:=s2;cases z';obtain⟨ds,e1,_⟩:=Option.map_eq_some_iff.mp e;exact(lt _ _ _ _ z z2 e1).elim
   |_=>cases s2
  |ref i=>
   obtain⟨p,rfl,z⟩:=s1;cases b with
   |ref m=>
    obtain⟨p',z',z2⟩:=s2;cases z';replace e:Ev.gk h (Ev.dS h n) i m=some k:=e;unfold Ev.gk at e;split at e
    .simp only[bC]at e;obtain⟨_,_,e⟩:=e;exact e.symm
    .rename_i hne;split at e
     .rename_i x y g1 g2;exact absurd (hr.inj _ _ _ _ _ z z2 g1 g2) hne
     .rename_i x y g1 g2;obtain⟨p1,q1,yq,q2,_⟩:=hr.ob _ _ g1;obtain⟨p2,q3,yr,q4,_⟩:=hr.ob _ _ g2;rw[z]at q1;cases q1;rw[z2]at q3;cases q3;exact absurd rfl (jq I q2 q4)
     .rename_i x y g1 g2;obtain⟨p1,q1,yq,q2,_⟩:=hr.ob _ _ g1;obtain⟨p2,q3,yr,q4,_⟩:=hr.ob _ _ g2;rw[z]at q1;cases q1;rw[z2]at q3;cases q3;exact absurd rfl (jq I q4 q2)
     .cases e
   |tup y=>
    obtain⟨p',vs',z',z2,w2⟩:=s2;cases z';obtain⟨ds,e1,_⟩:=Option.map_eq_some_iff.mp e;exact(lt _ _ _ _ z2 z e1).elim
   |_=>cases s2
def zJ{n:Nat}{A:Around}{x y:List D}{a b:Addr}{vs ws:List V}{k:Bool}(I:Inv X pins σ H s)(hr:HR X.K H r h)(hu:A.units<cLine)(q1:b8 X.K H a vs)(q2:b8 X.K H b ws)(v1:az X.K H r x vs)(v2:az X.K H r y ws)
  (ih:∀a b va vb u w k,RV X.K H r a va->RV X.K H r b vb->RelV va u->RelV vb w->Ev.dS h n a b=some k->o7 A.in1 s u w k) (e:Ev.bF (Ev.dS h n) x y=some k):o7 A s (.ref a) (.ref b) k:=by
 obtain⟨us,p1,jG,_⟩:=I.tuple q1;obtain⟨zs,p2,jH,_⟩:=I.tuple q2;have l1:=v1.length;have l2:=v2.length;have l3:=p1.length;have l4:=p2.length;have both:RcAt A s (.ref a) (.ref b) k/\RcNeAt A s (.ref a) (.ref b) (!k):=by
  by_cases hl:x.length=y.length
  .obtain⟨e',h1,h2,h3⟩:=m9 v1 v2 p1 p2 ih hl e;have rc:=RcAt.tuples jG jH hu h1;have ne:=RcNeAt.tuples jG jH hu h1;have hs:us.toArray.size=zs.toArray.size:=by simpa using h3
   have hb:((List.range (min us.toArray.size zs.toArray.size)).all e'&&us.toArray.size==zs.toArray.size)=k:=by
    rw[<-hs,Nat.min_self,h2];simp
   rw[hb]at rc ne;exact⟨rc,ne⟩
  .have hk:=lV hl e;subst hk;have hcl:∃e':Nat->Bool,∀j (h1:j<us.toArray.size) (h2:j<zs.toArray.size),EqAt A.in1 s us.toArray[j] zs.toArray[j] (e' j):=by
    obtain⟨e',h1⟩:=q8 e;refine⟨e',λj g1 g2=>?_⟩;have JH:j<us.length:=by simpa using g1
    have JJ:j<zs.length:=by simpa using g2
    have ha:x[j]?=some x[j]:=j9 (by omega);have hb:y[j]?=some y[j]:=j9 (by omega);obtain⟨va,a1,a2⟩:=v1.get ha;obtain⟨vb,b1,b2⟩:=v2.get hb;obtain⟨u,a3,a4⟩:=p1.get a1;obtain⟨w,b3,b4⟩:=p2.get b1;have eu:us.toArray[j]=u:=by
     have:=(List.getElem?_eq_some_iff.mp a3).2;simpa using this
    have ew:zs.toArray[j]=w:=by
     have:=(List.getElem?_eq_some_iff.mp b3).2;simpa using this
    rw[eu,ew];exact(ih _ _ _ _ _ _ _ a2 b2 a4 b4 (h1 j _ _ ha hb)).eq
   obtain⟨e',h1⟩:=hcl;have rc:=RcAt.tuples jG jH hu h1;have ne:=RcNeAt.tuples jG jH hu h1;have hs:(us.toArray.size==zs.toArray.size)=false:=by
    simp only[cI,beq_eq_false_iff_ne,ne_eq];omega
   rw[hs,Bool.and_false]at rc ne;exact⟨rc,ne⟩
 by_cases hab:a=b
 .subst hab;rw[I.iO q2 q1]at v2;have hk:k=true:=uO I hr (n+1) (.tup x) (.tup y) (.ref a) k ⟨a,vs,rfl,q1,v1⟩ ⟨a,vs,rfl,q1,v2⟩ e;subst hk;exact⟨.same _,both.1,both.2⟩
 .exact⟨.of_refs hab both.1,both.1,both.2⟩
end
section
variable{X:Cx}{pins:List (Addr×Obj)}{σ:L2.St}{H:Hp}{s:Shared}{r:List Addr}{h:Hh}
def sM(I:Inv X pins σ H s)(hr:HR X.K H r h):∀(n:Nat) (A:Around) (a b:D) (va vb:V) (u w:Value) (k:Bool),A.units+n<cLine->RV X.K H r a va->RV X.K H r b vb->RelV va u->RelV vb w->Ev.dS h n a b=some k->o7 A s u w k:=by
 intro n;induction n with
 |zero=>intro A a b va vb u w k _ _ _ _ _ e;cases e
 |succ n ih=>
  intro A a b va vb u w k hu h1 h2 r1 r2 e;have aZ:A.units<cLine:=by omega
  have ih':∀a b va vb u w k,RV X.K H r a va->RV X.K H r b vb->RelV va u->RelV vb w->Ev.dS h n a b=some k->o7 A.in1 s u w k:=λa b va vb u w k=>ih A.in1 a b va vb u w k (by show A.units+1+n<cLine;omega);have s1:=h1.shape;have s2:=h2.shape;have lst:∀{i:Nat} {v:V} {u:Value} {ds:List D},bA X.K H r (.ref i) v->RelV v u->Ev.aI h i=some ds->∃p us,u=.ref p/\PlainL s.heap p (List.toArray us):=λ{i v u ds} hv ru el=>by
   obtain⟨p,rfl,z⟩:=hv;cases ru;obtain⟨us,pl⟩:=o8 I hr el z;exact⟨p,us,rfl,pl⟩
  have tup:∀{ds:List D} {v:V} {u:Value},bA X.K H r (.tup ds) v->RelV v u->∃p us,u=.ref p/\s.heap.IsTuple p (List.toArray us):=λ{ds v u} hv ru=>by
   obtain⟨p,vs,rfl,z,_⟩:=hv;cases ru;obtain⟨us,_,pt,_⟩:=I.tuple z;exact⟨p,us,rfl,pt⟩
  cases a with
  |bg=>
   simp only[bA]at s1;subst s1;cases r1;cases b with
   |bg=>simp only[bA]at s2;subst s2;cases r2;cases e;exact⟨.same _,.none_none,.none_none⟩
   |bl y=>simp only[bA]at s2;subst s2;cases r2;cases e;exact⟨.none_bool _,.none_bool _,.none_bool _⟩
   |int y=>simp only[bA]at s2;subst s2;obtain⟨t,rfl⟩:=r2;cases e;exact⟨.none_int _ _,.none_int _ _,.none_int _ _⟩
   |str y=>simp only[bA]at s2;subst s2;obtain⟨t,rfl⟩:=r2;cases e;exact⟨.none_str _ _,.none_str _ _,.none_str _ _⟩
   |tup y=>obtain⟨p,us,rfl,pt⟩:=tup s2 r2;cases e;exact⟨.none_tuple pt aZ,.none_tuple pt aZ,.none_tuple pt aZ⟩
   |ref m=>
    obtain⟨ds,e1,rfl⟩:=Option.map_eq_some_iff.mp e;obtain⟨p,us,rfl,pl⟩:=lst s2 r2 e1;exact⟨.none_list pl.isList aZ,.none_list pl.isList aZ,.none_list pl.isList aZ⟩
  |bl x=>
   simp only[bA]at s1;subst s1;cases r1;cases b with
   |bg=>simp only[bA]at s2;subst s2;cases r2;cases e;exact⟨.bool_none _,.bool_none _,.bool_none _⟩
   |bl y=>simp only[bA]at s2;subst s2;cases r2;cases e;exact⟨.bool_bool _ _,.bool_bool _ _,.bool_bool _ _⟩
   |int y=>simp only[bA]at s2;subst s2;obtain⟨t,rfl⟩:=r2;cases e;exact⟨.bool_int _ _ _,.bool_int _ _ _,.bool_int _ _ _⟩
   |str y=>simp only[bA]at s2;subst s2;obtain⟨t,rfl⟩:=r2;cases e;exact⟨.bool_str _ _ _,.bool_str _ _ _,.bool_str _ _ _⟩
   |tup y=>obtain⟨p,us,rfl,pt⟩:=tup s2 r2;cases e;exact⟨.bool_tuple _ pt aZ,.bool_tuple _ pt aZ,.bool_tuple _ pt aZ⟩
   |ref m=>
    obtain⟨ds,e1,rfl⟩:=Option.map_eq_some_iff.mp e;obtain⟨p,us,rfl,pl⟩:=lst s2 r2 e1;exact⟨.bool_list _ pl.isList aZ,.bool_list _ pl.isList aZ,.bool_list _ pl.isList aZ⟩
  |int x=>
   simp only[bA]at s1;subst s1;obtain⟨t0,rfl⟩:=r1;cases b with
   |bg=>simp only[bA]at s2;subst s2;cases r2;cases e;exact⟨.int_none _ _,.int_none _ _,.int_none _ _⟩
   |bl y=>simp only[bA]at s2;subst s2;cases r2;cases e;exact⟨.int_bool _ _ _,.int_bool _ _ _,.int_bool _ _ _⟩
   |int y=>simp only[bA]at s2;subst s2;obtain⟨t,rfl⟩:=r2;cases e;exact⟨.int_int _ _ _ _,.int_int _ _ _ _,.int_int _ _ _ _⟩
   |str y=>simp only[bA]at s2;subst s2;obtain⟨t,rfl⟩:=r2;cases e;exact⟨.int_str _ _ _ _,.int_str _ _ _ _,.int_str _ _ _ _⟩
   |tup y=>obtain⟨p,us,rfl,pt⟩:=tup s2 r2;cases e;exact⟨.int_tuple _ _ pt aZ,.int_tuple _ _ pt aZ,.int_tuple _ _ pt aZ⟩
   |ref m=>
    obtain⟨ds,e1,rfl⟩:=Option.map_eq_some_iff.mp e;obtain⟨p,us,rfl,pl⟩:=lst s2 r2 e1;exact⟨.int_list _ _ pl.isList aZ,.int_list _ _ pl.isList aZ,.int_list _ _ pl.isList aZ⟩
  |str x=>
   simp only[bA]at s1;subst s1;obtain⟨t0,rfl⟩:=r1;cases b with
   |bg=>simp only[bA]at s2;subst s2;cases r2;cases e;exact⟨.str_none _ _,.str_none _ _,.str_none _ _⟩
   |bl y=>simp only[bA]at s2;subst s2;cases r2;cases e;exact⟨.str_bool _ _ _,.str_bool _ _ _,.str_bool _ _ _⟩
   |int y=>simp only[bA]at s2;subst s2;obtain⟨t,rfl⟩:=r2;cases e;exact⟨.str_int _ _ _ _,.str_int _ _ _ _,.str_int _ _ _ _⟩
   |str y=>
    simp only[bA]at s2;subst s2;obtain⟨t,rfl⟩:=r2;cases e;rw[<-zI];exact⟨.str_str _ _ _ _,.str_str _ _ _ _,.str_str _ _ _ _⟩
   |tup y=>obtain⟨p,us,rfl,pt⟩:=tup s2 r2;cases e;exact⟨.str_tuple _ _ pt aZ,.str_tuple _ _ pt aZ,.str_tuple _ _ pt aZ⟩
   |ref m=>
    obtain⟨ds,e1,rfl⟩:=Option.map_eq_some_iff.mp e;obtain⟨p,us,rfl,pl⟩:=lst s2 r2 e1;exact⟨.str_list _ _ pl.isList aZ,.str_list _ _ pl.isList aZ,.str_list _ _ pl.isList aZ⟩
  |tup x=>
   cases b with
   |tup y=>
    obtain⟨p,vs,rfl,z,w1⟩:=s1;obtain⟨p',vs',rfl,z',w2⟩:=s2;cases r1;cases r2;exact zJ I hr aZ z z' w1 w2 ih' e
   |bg=>obtain⟨p,us,rfl,pt⟩:=tup s1 r1;simp only[bA]at s2;subst s2;cases r2;cases e;exact⟨.tuple_none pt aZ,.tuple_none pt aZ,.tuple_none pt aZ⟩
   |bl y=>obtain⟨p,us,rfl,pt⟩:=tup s1 r1;simp only[bA]at s2;subst s2;cases r2;cases e;exact⟨.tuple_bool _ pt aZ,.tuple_bool _ pt aZ,.tuple_bool _ pt aZ⟩
   |int y=>obtain⟨p,us,rfl,pt⟩:=tup s1 r1;simp only[bA]at s2;subst s2;obtain⟨t,rfl⟩:=r2;cases e;exact⟨.tuple_int _ _ pt aZ,.tuple_int _ _ pt aZ,.tuple_int _ _ pt aZ⟩
   |str y=>obtain⟨p,us,rfl,pt⟩:=tup s1 r1;simp only[bA]at s2;subst s2;obtain⟨t,rfl⟩:=r2;cases e;exact⟨.tuple_str _ _ pt aZ,.tuple_str _ _ pt aZ,.tuple_str _ _ pt aZ⟩
   |ref m=>
    obtain⟨p,us,rfl,pt⟩:=tup s1 r1;obtain⟨ds,e1,rfl⟩:=Option.map_eq_some_iff.mp e;obtain⟨p',us',rfl,pl⟩:=lst s2 r2 e1;exact⟨.tuple_list pt pl.isList aZ,.tuple_list pt pl.isList aZ,.tuple_list pt pl.isList aZ⟩
  |ref i=>
   cases b with
   |ref m=>
    replace e:Ev.gk h (Ev.dS h n) i m=some k:=e;unfold Ev.gk at e;split at e
    .rename_i JL;subst JL;simp only[bC]at e;obtain⟨ds,e1,rfl⟩:=e;obtain⟨p,us,rfl,pl⟩:=lst s1 r1 e1;obtain⟨p0,rfl,z⟩:=s1;obtain⟨p1,rfl,z'⟩:=s2;rw[z]at z';cases z';cases r1;cases r2;have q:(List.range (List.toArray us).size).all (λ_=>true)=true:=by simp
     have rc:=RcAt.lists (A:=A) (e:=λ_=>true) pl.isList pl.isList rfl aZ λj _ _=>EqAt.same _;have ne:=RcNeAt.lists (A:=A) (e:=λ_=>true) pl.isList pl.isList rfl aZ λj _ _=>EqAt.same _;rw[q]at rc ne;exact⟨.same _,rc,ne⟩
    .rename_i hne;obtain⟨p0,rfl,z⟩:=s1;obtain⟨p1,rfl,z'⟩:=s2;cases r1;cases r2;split at e
     .rename_i x y g1 g2;obtain⟨q0,q1,yq,q2,q3⟩:=hr.ob _ _ g1;obtain⟨q4,q5,yr,q6,q7⟩:=hr.ob _ _ g2;rw[z]at q1;cases q1;rw[z']at q5;cases q5;exact jY I aZ (.of q2) (.of q6) q3 q7 (λw=>hne (hr.inj _ _ _ _ _ z (by rw[w];exact z') g1 g2)) ih' e
     .rename_i x y g1 g2;obtain⟨q0,q1,yq,q2,q3⟩:=hr.ob _ _ g1;obtain⟨q4,q5,yr,q6,q7⟩:=hr.ob _ _ g2;rw[z]at q1;cases q1;rw[z']at q5;cases q5;exact jY I aZ (yt q2) (.of q6) q3 q7 (jq I q2 q6) ih' e
     .rename_i x y g1 g2;obtain⟨q0,q1,yq,q2,q3⟩:=hr.ob _ _ g1;obtain⟨q4,q5,yr,q6,q7⟩:=hr.ob _ _ g2;rw[z]at q1;cases q1;rw[z']at q5;cases q5;exact jY I aZ (.of q2) (yt q6) q3 q7 (jq I q6 q2).symm ih' e
     .cases e
   |bg=>obtain⟨ds,e1,rfl⟩:=Option.map_eq_some_iff.mp e;obtain⟨p,us,rfl,pl⟩:=lst s1 r1 e1;simp only[bA]at s2;subst s2;cases r2;exact⟨.list_none pl.isList aZ,.list_none pl.isList aZ,.list_none pl.isList aZ⟩
   |bl y=>obtain⟨ds,e1,rfl⟩:=Option.map_eq_some_iff.mp e;obtain⟨p,us,rfl,pl⟩:=lst s1 r1 e1;simp only[bA]at s2;subst s2;cases r2;exact⟨.list_bool _ pl.isList aZ,.list_bool _ pl.isList aZ,.list_bool _ pl.isList aZ⟩
   |int y=>obtain⟨ds,e1,rfl⟩:=Option.map_eq_some_iff.mp e;obtain⟨p,us,rfl,pl⟩:=lst s1 r1 e1;simp only[bA]at s2;subst s2;obtain⟨t,rfl⟩:=r2;exact⟨.list_int _ _ pl.isList aZ,.list_int _ _ pl.isList aZ,.list_int _ _ pl.isList aZ⟩
   |str y=>obtain⟨ds,e1,rfl⟩:=Option.map_eq_some_iff.mp e;obtain⟨p,us,rfl,pl⟩:=lst s1 r1 e1;simp only[bA]at s2;subst s2;obtain⟨t,rfl⟩:=r2;exact⟨.list_str _ _ pl.isList aZ,.list_str _ _ pl.isList aZ,.list_str _ _ pl.isList aZ⟩
   |tup y=>
    obtain⟨ds,e1,rfl⟩:=Option.map_eq_some_iff.mp e;obtain⟨p,us,rfl,pl⟩:=lst s1 r1 e1;obtain⟨p',us',rfl,pt⟩:=tup s2 r2;exact⟨.list_tuple pl.isList pt aZ,.list_tuple pl.isList pt aZ,.list_tuple pl.isList pt aZ⟩
where
 yt {K:PySem.W.Frag} {H:Hp} {a:Addr} {vs:List V} (q:sF K H a vs):cS K H a vs:=by
  rcases q with ⟨ob,e2⟩|e2
  .exact .inl (.inr ⟨ob,e2⟩)
  .exact .inr e2
end
theorem Good.units{G:Tb}{n:Nat}{sc:Scope}{N:List Str}{df:Bool}{X:Cx}(g:Good G n sc N df X):X.A.units+1+Ev.deep<cLine:=by
 have:=g.room.un;have:Ev.deep=20:=rfl;omega
section
variable{G:Tb}{n:Nat}{sc:Scope}{N:List Str}{df:Bool}{X:Cx}
def jr{pins:List (Addr×Obj)}{σ:L2.St}{H:Hp}{s:Shared}{Q:VK}{r:List Addr}{h:Hh}{k:Bool}(I:Inv X pins σ H s)(hr:HR X.K H r h)(q:Res X.K r H h (.bl k) Q):EP X pins σ Q (.bool k) s:=
 ⟨.bl k,H,I,rfl,q.here rfl hr⟩
def yu(g:Good G n sc N df X):bR X (compareOp .Eq) (dh X.K (cB .eq)):=by
 intro pins s σ H x y v u Q I rx ry q;obtain⟨r,h,a,b,d,h',hr,v1,v2,e,q⟩:=q;obtain⟨k,e1,rfl,rfl⟩:=fh e;have:=g.units;exact(sM I hr Ev.deep X.A a b x y v u k (by omega) v1 v2 rx ry e1).rc _ _ _ _ (jr I hr q)
def EO(g:Good G n sc N df X):bR X (compareOp .NotEq) (dh X.K (cB .ne)):=by
 intro pins s σ H x y v u Q I rx ry q;obtain⟨r,h,a,b,d,h',hr,v1,v2,e,q⟩:=q;obtain⟨k,e1,rfl,rfl⟩:=fh e;have:=g.units
 delta Ev.cop at e1;dsimp only at e1;simp only[bC]at e1
 obtain⟨k',e2,rfl⟩:=e1;exact(sM I hr Ev.deep X.A a b x y v u k' (by omega) v1 v2 rx ry e2).ne _ _ _ _ (jr I hr q)
def uP{op:CmpOp}{o:aJ}{p:Int->Int->Bool}(ho:bR X (compareOp op) (qL λi j=>.bl (p i j)))(hc:∀a b h k,Ev.cop o a b h=some k->∃i j,a=.int i/\b=.int j/\k=p i j):bR X (compareOp op) (dh X.K (cB o)):=by
 intro pins s σ H x y v u Q I rx ry q;obtain⟨r,h,a,b,d,h',hr,v1,v2,e,q⟩:=q;obtain⟨k,e1,rfl,rfl⟩:=fh e;obtain⟨i,j,rfl,rfl,rfl⟩:=hc _ _ _ _ e1;exact ho pins s σ H x y v u Q I rx ry ⟨i,j,v1,v2,q.here rfl hr⟩
def nQ:bR X (compareOp .LtE) (dh X.K (cB .le)):=uP Ei λa b h k e=>by
 cases a<;>cases b <;> (delta Ev.cop at e;dsimp only at e)<;>first | (cases e;exact⟨_,_,rfl,rfl,rfl⟩)|cases e
def ER:bR X (compareOp .Gt) (dh X.K (cB .gt)):=uP Ej λa b h k e=>by
 cases a<;>cases b <;> (delta Ev.cop at e;dsimp only at e)<;>first | (cases e;exact⟨_,_,rfl,rfl,rfl⟩)|cases e
end
theorem q9{h:Hh}{x:D}:∀{ys:List D}{k:Bool},Ev.mem h x ys=some k->∃e:Nat->Bool,(∀(j:Nat) y,ys[j]?=some y->Ev.dS h Ev.deep y x=some (e j))/\(List.range ys.length).any e=k
 |[],_,e=>⟨λ_=>true,(λj y h=>by simp at h),by cases e;simp⟩
 |y :: ys,k,e=>by
  simp only[Ev.mem,Lf,bL]at e;obtain⟨p,e1,q,e2,e3⟩:=e;cases e3;obtain⟨e,h1,h2⟩:=q9 e2;refine⟨λj=>match j with|0=>p|j+1=>e j,λj y' g=>?_,?_⟩
  .cases j with
   |zero=>simp at g;subst g;exact e1
   |succ j=>exact h1 j y' (by simpa using g)
  .rw[pX,Mr,MG,List.any_map,<-h2];rfl
section
variable{X:Cx}{pins:List (Addr×Obj)}{σ:L2.St}{H:Hp}{s:Shared}{r:List Addr}{h:Hh}
open Classical in
def rj(I:Inv X pins σ H s)(hr:HR X.K H r h){A:Around}(hu:A.units+1+Ev.deep<cLine){x:D}{vx:V}{ux:Value}(v1:RV X.K H r x vx)(rx:RelV vx ux){ys:List D}{vs:List V}{us:List Value}(v2:az X.K H r ys vs)(p2:Vals vs us){k:Bool}(e:Ev.mem h x ys=some k) :
  ∃f:Value->Bool,(∀y,y∈us.toArray->EqAt A.in1 s y ux (f y))/\us.toArray.any f=k:=by
 obtain⟨e',h1,h2⟩:=q9 e;have l1:=v2.length;have l2:=p2.length;have at':∀(j:Nat) (hj:j<us.length),EqAt A.in1 s us[j] ux (e' j):=λj hj=>by
  have ha:ys[j]?=some ys[j]:=j9 (by omega);obtain⟨va,a1,a2⟩:=v2.get ha;obtain⟨u,a3,a4⟩:=p2.get a1;have eu:us[j]=u:=(List.getElem?_eq_some_iff.mp a3).2;rw[eu];exact(sM I hr Ev.deep A.in1 _ _ _ _ _ _ _ (by show A.units+1+Ev.deep<cLine;exact hu) a2 v1 a4 rx (h1 j _ ha)).eq
 refine⟨λy=>decide (∃j,∃hj:j<us.length,us[j]=y/\e' j=true),λy hy=>?_,?_⟩
 .by_cases hx:∃j,∃hj:j<us.length,us[j]=y/\e' j=true
  .obtain⟨j,hj,rfl,ej⟩:=hx;have q:=at' j hj;rw[ej]at q;have:decide (∃j',∃hj':j'<us.length,us[j']=us[j]/\e' j'=true)=true:=K6 ⟨j,hj,rfl,ej⟩;show EqAt A.in1 s us[j] ux (decide (∃j',∃hj':j'<us.length,us[j']=us[j]/\e' j'=true));rw[this];exact q
  .show EqAt A.in1 s y ux (decide (∃j',∃hj':j'<us.length,us[j']=y/\e' j'=true));rw[yK hx];have hy':y∈us:=by simpa using hy
   obtain⟨j,hj,rfl⟩:=LU hy';have q:=at' j hj;have:e' j=false:=by
    cases z:e' j with
    |false=>rfl
    |true=>exact absurd ⟨j,hj,rfl,z⟩ hx
   rw[this]at q;exact q
 .rw[<-h2,LR,Array.any_eq_true',LI];constructor
  .rintro⟨y,hy,hd⟩;obtain⟨j,hj,_,ej⟩:=Ld hd;exact⟨j,List.mem_range.mpr (by omega),ej⟩
  .rintro⟨j,hj,ej⟩;have hj':j<us.length:=by have:=List.mem_range.mp hj;omega
   exact⟨us[j],by simp,K6 ⟨j,hj',rfl,ej⟩⟩
end
section
variable{G:Tb}{n:Nat}{sc:Scope}{N:List Str}{df:Bool}{X:Cx}
def in_of(g:Good G n sc N df X){pins:List (Addr×Obj)}{σ:L2.St}{H:Hp}{s:Shared}{r:List Addr}{h:Hh}(I:Inv X pins σ H s)(hr:HR X.K H r h){a b:D}{x y:V}{v u:Value}{k:Bool}(v1:RV X.K H r a x)(v2:RV X.K H r b y)(rx:RelV x v)(ry:RelV y u)(e:Ev.isin a b h=some k) :
  (∀Q:Value->Shared->Prop,∀E:Value->Shared->Prop,Q (.bool k) s->wpAny (model X.prog X.w) X.A (compareOp .In v u) Q E s)/\(∀Q:Value->Shared->Prop,∀E:Value->Shared->Prop,Q (.bool (!k)) s->wpAny (model X.prog X.w) X.A (compareOp .NotIn v u) Q E s):=by
 have hu:=g.units;cases b with
 |str l=>
  cases a with
  |str c=>
   have s1:=v1.shape;have s2:=v2.shape;simp only[bA]at s1 s2;subst s1 s2;obtain⟨t,rfl⟩:=rx;obtain⟨t',rfl⟩:=ry
   match c,e with
   |[c],e=>
    cases e;have q:(!(Builtin.Str.occurrences (aq l) (aq [c]) 0 (aq l).length 1).isEmpty)=l.contains c:=by
     have:=PySem.StrLaws.found_one (aq l) c;rw[show(aq [c])=⟨#[c]⟩from rfl,this,LR];have e1:l.contains c=true↔c∈l:=by simp
     rw[e1];exact⟨λz=>by simpa[aq]using Ld z,λz=>K6 (by simpa[aq]using z)⟩
    refine⟨λQ E hq=>in_str (by rw[q];exact hq),λQ E hq=>notIn_str (by rw[q];exact hq)⟩
   |[],e=>cases e
   |_ :: _ :: _,e=>cases e
  |_=>cases e
 |tup ys=>
  obtain⟨p,vs,rfl,z,w⟩:=v2.shape;cases ry;obtain⟨us,pv,pt,_⟩:=I.tuple z;obtain⟨f,f1,f2⟩:=rj I hr hu v1 rx w pv e;refine⟨λQ E hq=>in_tupleAt f pt f1 (by rw[f2];exact hq),λQ E hq=>notIn_tupleAt f pt f1 (by rw[f2];exact hq)⟩
 |ref i=>
  simp only[Ev.isin,bL]at e;obtain⟨ds,e1,e2⟩:=e;obtain⟨p,rfl,z⟩:=v2.shape;cases ry;obtain⟨p',vs,z',q1,w⟩:=hr.read e1;rw[z]at z';cases z';obtain⟨us,pv,pl,_⟩:=I.list q1;obtain⟨f,f1,f2⟩:=rj I hr hu v1 rx w pv e2;refine⟨λQ E hq=>in_listAt f pl.isList f1 (by rw[f2];exact hq),λQ E hq=>notIn_listAt f pl.isList f1 (by rw[f2];exact hq)⟩
 |_=>cases e
def ES(g:Good G n sc N df X):bR X (compareOp .In) (dh X.K (cB .isin)):=by
 intro pins s σ H x y v u Q I rx ry q;obtain⟨r,h,a,b,d,h',hr,v1,v2,e,q⟩:=q;obtain⟨k,e1,rfl,rfl⟩:=fh e;exact(in_of g I hr v1 v2 rx ry (show Ev.isin a b h'=some k by cases a<;>cases b<;>exact e1)).1 _ _ (jr I hr q)
def wI(g:Good G n sc N df X):bR X (compareOp .NotIn) (dh X.K (cB .cK)):=by
 intro pins s σ H x y v u Q I rx ry q;obtain⟨r,h,a,b,d,h',hr,v1,v2,e,q⟩:=q;obtain⟨k,e1,rfl,rfl⟩:=fh e;have e2:(Ev.isin a b h').map (!·)=some k:=by cases a<;>cases b<;>exact e1
 simp only[bC]at e2;obtain⟨k',e3,rfl⟩:=e2;exact(in_of g I hr v1 v2 rx ry e3).2 _ _ (jr I hr q)
def lW(a b:List Nat):aq a++aq b=aq (a++b):=by
 show Str.append (aq a) (aq b)=_;simp[Str.append,aq]
def zK{pins:List (Addr×Obj)}{σ:L2.St}{H:Hp}{s:Shared}{Q:Value->Shared->Prop}{E:Value->Shared->Prop}(I:Inv X pins σ H s){a b:Addr}{ys:List V}(h1:b8 X.K H a [])(h2:b8 X.K H b ys)(q:Q (.ref b) s):wpAny (model X.prog X.w) X.A (binaryOp .Add (.ref a) (.ref b)) Q E s:=by
 obtain⟨us,p1,JM,_⟩:=I.tuple h1;obtain⟨zs,p2,JN,_⟩:=I.tuple h2;cases p1;obtain⟨⟨cls,dd,data,sl⟩,ho,hc,n,hd⟩:=id JM;obtain⟨⟨HB,dd2,data2,sl2⟩,ho2,hc2,n2,hd2⟩:=id JN;simp only at hc hd hc2 hd2;subst hc hd hc2 hd2;exact MK ⟨_,ho,rfl⟩ ⟨_,ho2,rfl⟩ Mg MF LF Lz (Lv _ _)
  (tuple_addW0 a b _ _ n n2 dd dd2 sl sl2 (by simp)) ⟨ho,ho2,q⟩
def B7:bR X (binaryOp .Add) (dh X.K (Ev.bG .add)):=by
 intro pins s σ H x y v u Q I rx ry q;obtain⟨r,h,a,b,d,h',hr,v1,v2,e,q⟩:=q;have s1:=v1.shape;have s2:=v2.shape;cases a with
 |int i=>cases b with
  |int j=>cases e;exact A6 pins s σ H x y v u Q I rx ry ⟨i,j,s1,s2,q.here rfl hr⟩
  |_=>cases e
 |str i=>cases b with
  |str j=>
   delta Ev.bG at e;dsimp only at e
   split at e
   .rename_i hz;cases e;rw[iU]at hz;refine se pins s σ H x y v u Q I rx ry ⟨aq i,aq j,s1,s2,by rw[aQ,aQ];exact hz,?_⟩;rw[lW];exact q.here ⟨rfl,by rw[vt];exact hz⟩ hr
   .cases e
  |_=>cases e
 |tup i=>cases b with
  |tup j=>
   delta Ev.bG at e;dsimp only at e
   split at e
   .rename_i hz;cases e;rw[iU]at hz;obtain⟨pa,vs,rfl,z1,w1⟩:=s1;obtain⟨pb,ws,rfl,z2,w2⟩:=s2;have l1:=w1.length;have l2:=w2.length;cases vs with
    |nil=>
     cases rx;cases ry;refine zK I z1 z2 ⟨.ref pb,H,I,rfl,q.here ?_ hr⟩;have:i=[]:=by cases i with|nil=>rfl|cons _ _=>simp at l1
     subst this;exact⟨pb,ws,rfl,z2,by simpa using w2⟩
    |cons v0 vs=>
     refine zg pins s σ H _ _ v u Q I rx ry ⟨pa,pb,v0 :: vs,ws,rfl,rfl,z1,z2,by simp,by rw[l1,l2];exact hz,λhw=>?_,λhw p hp=>?_⟩
     .subst hw;have:j=[]:=by cases j with|nil=>rfl|cons _ _=>simp at l2
      subst this;exact q.here ⟨pa,v0 :: vs,rfl,z1,by simpa using w1⟩ hr
     .exact q.tup (w1.append w2) hr hp
   .cases e
  |_=>cases e
 |ref i=>cases b with
  |ref j=>
   delta Ev.bG at e;dsimp only at e
   split at e
   .rename_i ds es e1 e2;obtain⟨pa,rfl,z1⟩:=s1;obtain⟨pb,rfl,z2⟩:=s2;cases rx;cases ry;obtain⟨p1,g1,vs,g2,g3⟩:=hr.ob _ _ e1;obtain⟨p2,k1,ws,k2,k3⟩:=hr.ob _ _ e2;rw[z1]at g1;cases g1;rw[z2]at k1;cases k1;obtain⟨hz,q2⟩:=q.lst e (g3.append k3) hr;exact Bp pins s σ H (.ref pa) (.ref pb) _ _ Q I rfl rfl ⟨_,_,vs,ws,rfl,rfl,g2,k2,by rw[vt]at hz;exact hz,q2⟩
   .cases e
  |_=>cases e
 |_=>cases b<;>cases e
def zL:bR X (binaryOp .FloorDiv) (dh X.K (Ev.bG .fdiv)):=by
 intro pins s σ H x y v u Q I rx ry q;obtain⟨r,h,a,b,d,h',hr,v1,v2,e,q⟩:=q;cases a with
 |int i=>cases b with
  |int j=>
   delta Ev.bG at e;dsimp only at e
   split at e
   .rename_i hz;cases e;exact yY pins s σ H x y v u Q I rx ry ⟨i,j,v1,v2,hz,q.here rfl hr⟩
   .cases e
  |_=>cases e
 |_=>cases b<;>cases e
def B8:bR X (binaryOp .Mod) (dh X.K (Ev.bG .mod)):=by
 intro pins s σ H x y v u Q I rx ry q;obtain⟨r,h,a,b,d,h',hr,v1,v2,e,q⟩:=q;cases a with
 |int i=>cases b with
  |int j=>
   delta Ev.bG at e;dsimp only at e
   split at e
   .rename_i hz;cases e;exact A8 pins s σ H x y v u Q I rx ry ⟨i,j,v1,v2,hz,q.here rfl hr⟩
   .cases e
  |_=>cases e
 |_=>cases b<;>cases e
end
section
variable{X:Cx}
def B9(n:Nat)(i:Int):Ev.cz n i=L2.cz n i:=rfl
def Ca{α:Type}(xs:List α)(i:Int):Ev.aX xs i=L2.aX xs i:=rfl
theorem az.aX{K:PySem.W.Frag}{H:Hp}{r:List Addr}{ds:List D}{vs:List V}{i:Int}{d:D}(w:az K H r ds vs)(e:Ev.aX ds i=some d):∃v,L2.aX vs i=some v/\RV K H r d v:=by
 unfold Ev.aX at e;obtain⟨j,e1,e2⟩:=Option.bind_eq_some_iff.mp e;obtain⟨v,e3,e4⟩:=w.get e2;exact⟨v,by unfold L2.aX;rw[w.length,<-B9,e1];exact e3,e4⟩
def ET:qN X (dh X.K BJ):=by
 intro value slice pins s σ H x y v u Q I rx ry q hs;obtain⟨r,h,a,b,d,h',hr,v1,v2,e,q⟩:=q;obtain⟨e,rfl⟩:=Ev.av e;cases b with
 |int i=>
  have s2:=v2.shape;cases a with
  |tup ds=>
   obtain⟨p,vs,rfl,z,w⟩:=v1.shape;obtain⟨v',g1,g2⟩:=w.aX e;exact Bj value slice pins s σ H _ y v u Q I rx ry ⟨p,vs,i,v',rfl,s2,z,g1,q.here g2 hr⟩ hs
  |str l=>
   simp only[RV]at v1;obtain⟨rfl,hl⟩:=v1;simp only[Ev.eH,bC]at e;obtain⟨c,e1,rfl⟩:=e;exact Bk value slice pins s σ H _ y v u Q I rx ry ⟨aq l,i,c,rfl,s2,by rw[aQ];exact hl,by simpa[aq,Ca]using e1,q.here ⟨rfl,by show 1<=sizeLine;decide⟩ hr⟩ hs
  |ref m=>
   simp only[Ev.eH,bL]at e;obtain⟨ds,e1,e2⟩:=e;obtain⟨p,rfl,z⟩:=v1.shape;obtain⟨p',vs,z',q1,w⟩:=hr.read e1;rw[z]at z';cases z';obtain⟨v',g1,g2⟩:=w.aX e2;exact zj value slice pins s σ H _ y v u Q I rx ry ⟨p,vs,i,v',rfl,s2,q1,g1,q.here g2 hr⟩ hs
  |_=>cases e
 |_=>cases a<;>cases e
theorem az.cut{K:PySem.W.Frag}{H:Hp}{r:List Addr}{ds:List D}{vs:List V}(w:az K H r ds vs)(lo hi:Option Int):az K H r (Ev.cut ds lo hi) (iR vs lo hi):=by
 unfold Ev.cut iR;rw[w.length];exact(w.drop _).take _
def nc{α:Type}(xs:List α)(lo hi:Option Int)(h:Ev.aC xs.length 0 lo=0/\Ev.aC xs.length xs.length hi=xs.length):Ev.cut xs lo hi=xs:=by
 unfold Ev.cut;rw[h.1,h.2];simp
def zM{α:Type}(xs:List α)(lo hi:Option Int):(Ev.cut xs lo hi).length<=xs.length:=by
 unfold Ev.cut;rw[Lo,LG];omega
def nB{prog:Program}{w:World}{A:Around}{E:Value->Shared->Prop}{s:Shared}{t sl:Addr}{items:Array Value}{vl vu:Value}{lo hi:Option Int}{Q:Value->Shared->Prop}(ht:IsTup s.heap t items)(hs:s.heap.IsSliceOf sl vl vu .none)(pl:IsPart vl lo)(pu:IsPart vu hi)
  (hw:HT.aC items.size 0 lo=0/\HT.aC items.size items.size hi=items.size) (h:Q (.ref t) s):wpAny (model prog w) A (getItem (.ref t) (.ref sl)) Q E s:=by
 obtain⟨os,hos,hcs,hds⟩:=id hs;have Bg:s.TypeIs (.ref sl) "slice" :=⟨os,hos,hcs⟩
 unfold getItem;try with_reducible refine wpAny_holding ?_
 first|refine cF (nv ?_)|skip
 refine cF (wpAny_sequenceKey ht.typeIs (by decide) ?_);refine cF (Mk (name:=Str.ofString "__getitem__") ht.typeIs KZ
  (wpAny_call_entry KZ ht.typeIs entry_tuple_getitem ?_ (args_tuple_getitem _ _)))
 show wpAny _ _ (Builtin.Tuple.tupleItemsOf (.ref t) >>= _) _ _ s;refine cF (tupleItemsOf_ ht ?_);refine cF (MJ Bg ?_);rw[eO (by decide)];refine cF (HT.gi hs pl pu ?_);have hyes:(((HT.aC items.size 0 lo:Nat):Int)==0&&(1:Int)==1&&(HT.aC items.size items.size hi - HT.aC items.size 0 lo)==items.size)=true:=by
  rw[hw.1,hw.2];simp
 show wpAny _ _ (if (((HT.aC items.size 0 lo:Nat):Int)==0&&(1:Int)==1&&(HT.aC items.size items.size hi - HT.aC items.size 0 lo)==items.size)=true then _ else _) _ _ s;rw[eO hyes];refine cF (m:=Builtin.Tuple.tupleIsExact (.ref t)) (cF (MJ ht.typeIs (nv ?_)));show wpAny _ _ (if ((Value.type "tuple" ==Value.type "tuple")=true)then _ else _) _ _ s;rw[eO (by decide)];exact cF (wpAny_rule (cF (nv (nv ⟨_,rfl,nv h⟩))))
def uQ(lo hi:Option Int)(n:Nat):Builtin.Str.strSliceIndices lo hi 1 n=(List.range (Ev.aC n n hi - Ev.aC n 0 lo)).map (λk=>Ev.aC n 0 lo+k):=by
 have Cb:∀o:Option Int,((match o with|none=>(0:Int)|some i=>max 0 (min (if i<0 then i+(n:Int)else i) (n:Int))))=((Ev.aC n 0 o:Nat):Int):=λo=>by
  cases o with
  |none=>rfl
  |some i=>simp only[Ev.aC];split<;>omega
 have Cc:∀o:Option Int,((match o with|none=>(n:Int)|some i=>max 0 (min (if i<0 then i+(n:Int)else i) (n:Int))))=((Ev.aC n n o:Nat):Int):=λo=>by
  cases o with
  |none=>rfl
  |some i=>simp only[Ev.aC];split<;>omega
 have e:Builtin.Str.strSliceIndices lo hi 1 n=sliceRange (match lo with|none=>(0:Int)|some i=>max 0 (min (if i<0 then i+(n:Int)else i) (n:Int))) (match hi with|none=>(n:Int)|some i=>max 0 (min (if i<0 then i+(n:Int)else i) (n:Int))) 1:=by
  unfold Builtin.Str.strSliceIndices;cases lo<;>cases hi<;>simp
 rw[e,Cb,Cc,sliceRange_one]
def Cd(l:List Nat)(lo hi:Option Int):((Builtin.Str.strSliceIndices lo hi 1 (aq l).length).filterMap ((aq l).cps[·]?)).toArray=(Ev.cut l lo hi).toArray:=by
 rw[aQ,uQ,pick_run];simp[aq,Ev.cut]
def Ce:gQ X (By X.K):=by
 intro pins s σ H x v vl vu lo hi sl Q I rx hs pl pu q;obtain⟨r,h,a,d,h',hr,v1,e,q⟩:=q;cases a with
 |tup ds=>
  cases e;obtain⟨p,vs,rfl,z,w⟩:=v1.shape;by_cases hw:HT.aC vs.length 0 lo=0/\HT.aC vs.length vs.length hi=vs.length
  .cases rx;obtain⟨us,pv,pt,hz⟩:=I.tuple z;have hl:=pv.length;have JQ:Ev.aC ds.length 0 lo=0/\Ev.aC ds.length ds.length hi=ds.length:=by rw[<-w.length];exact hw
   refine⟨"tuple",_,PyProof.Rows.slot_tuple_getitem.lookup,pt.typeIs,?_⟩;refine nB pt hs pl pu (by rw[cI,<-hl];exact hw) ⟨.ref p,H,I,rfl,q.here ?_ hr⟩;rw[nc ds lo hi JQ];exact⟨p,vs,rfl,z,w⟩
  .exact Bh pins s σ H _ v vl vu lo hi sl Q I rx hs pl pu ⟨p,vs,rfl,z,hw,λp' hp=>q.tup (w.cut lo hi) hr hp⟩
 |str l=>
  simp only[RV]at v1;obtain⟨rfl,hl⟩:=v1;obtain⟨t,rfl⟩:=rx;cases e;refine⟨"str",_,PySem.F.slot_str_getitem.lookup,LM s _ t,?_⟩;have part:∀{v:Value} {o:Option Int},IsPart v o->∃p:Option (Int×Tok),v=partValue p/\p.map (·.1)=o:=λ{v o} hp=>by
   cases hp with
   |none=>exact⟨none,rfl,rfl⟩
   |int i t=>exact⟨some (i,t),rfl,rfl⟩
  obtain⟨l1,e1,e2⟩:=part pl;obtain⟨u1,e3,e4⟩:=part pu;subst e1 e3;obtain⟨os,hos,hcs,hds⟩:=hs;refine wpAny_getItem_str_slice (l:=l1) (u:=u1) (st:=none) ⟨os,hos,hcs,hds⟩ rfl ?_;have yv:((slicePicked (aq l) l1 u1 none).filterMap ((aq l).cps[·]?)).toArray=(Ev.cut l lo hi).toArray:=by
   show((Builtin.Str.strSliceIndices (l1.map (·.1)) (u1.map (·.1)) 1 (aq l).length).filterMap ((aq l).cps[·]?)).toArray=_;rw[e2,e4];exact Cd l lo hi
  have hcl:=zM l lo hi;unfold sliceMade;refine post_val_or_made (λ_=>?_) λt' k=>?_
  .rw[yv];show(Ev.cut l lo hi).toArray.size<=sizeLine;simp only[cI];omega
  .have hres:(if (((none:Option (Int×Tok)).map (·.1)).getD 1==1&&(slicePicked (aq l) l1 u1 none).length==(aq l).length)=true then aq l else (⟨((slicePicked (aq l) l1 u1 none).filterMap ((aq l).cps[·]?)).toArray⟩:Str))=aq (Ev.cut l lo hi):=by
    split
    .rename_i hc;rw[pW]at hc;have hlen:(slicePicked (aq l) l1 u1 none).length=(aq l).length:=eq_of_beq hc.2;have hlen2:(slicePicked (aq l) l1 u1 none).length=Ev.aC l.length l.length hi - Ev.aC l.length 0 lo:=by
      show(Builtin.Str.strSliceIndices (l1.map (·.1)) (u1.map (·.1)) 1 (aq l).length).length=_;rw[e2,e4,uQ,aQ];simp
     rw[aQ]at hlen;have hb:Ev.aC l.length l.length hi<=l.length:=HT.oM _ _ (gV _) hi;have ha:Ev.aC l.length 0 lo<=l.length:=HT.oM _ _ (LX _) lo;rw[nc l lo hi ⟨by omega,by omega⟩]
    .rw[yv];rfl
   rw[hres];exact⟨.str (aq (Ev.cut l lo hi)),H,I.tok _,⟨_,rfl⟩,q.here ⟨rfl,by omega⟩ hr⟩
 |ref m=>
  simp only[Ev.fS]at e;split at e
  .rename_i ds e1;obtain⟨p,rfl,z⟩:=v1.shape;obtain⟨p',vs,z',q1,w⟩:=hr.read e1;rw[z]at z';cases z';obtain⟨hz,q2⟩:=q.lst e (w.cut lo hi) hr;exact zk pins s σ H _ v vl vu lo hi sl Q I rx hs pl pu ⟨p,vs,rfl,q1,q2⟩
  .cases e
 |_=>cases e
theorem o9:∀(k:Nat) (l:List Nat) (acc:List Nat),(List.replicate k l.toArray).foldl (·++·) acc.toArray=(acc++Ev.rep k l).toArray
 |0,l,acc=>by simp[Ev.rep]
 |k+1,l,acc=>by
  rw[DI,Mp];have:acc.toArray++l.toArray=(acc++l).toArray:=by simp
  rw[this,o9 k l (acc++l)];simp[Ev.rep,DI]
def jt{α:Type}(k:Nat)(l:List α):(Ev.rep k l).length=k*l.length:=by
 unfold Ev.rep;exact len_rep l k
def zN{l:List Nat}{k:Int}(h:0<=k):Txt.mul (aq l) k=aq (Ev.rep k.toNat l):=by
 unfold Txt.mul;by_cases h1:k<1
 .have:k=0:=by omega
  subst this;rw[eO (by decide)];rfl
 .rw[yL h1];split
  .rename_i hc;rw[K1]at hc;rcases hc with hc|hc
   .have:k=1:=by simpa using hc
    subst this;simp[Ev.rep]
   .rw[aQ]at hc;have:l=[]:=by cases l with|nil=>rfl|cons _ _=>simp at hc
    subst this;simp[Ev.rep,aq]
  .show(⟨(List.replicate k.toNat (aq l).cps).foldl (·++·) #[]⟩:Str)=_;have:=o9 k.toNat l [];simp only[LO]at this;exact AD Str.mk this
def gv{a b:Nat}(h1:a<=1000)(h2:b<=1000):a*b<=sizeLine:=xE (Nat.mul_le_mul h1 h2) (by decide)
def zO{pins:List (Addr×Obj)}{σ:L2.St}{H:Hp}{s:Shared}{Q:VK}(I:Inv X pins σ H s){l:List Nat}{k:Int}{t u:Tok}(hk:0<=k/\k<=1000/\l.length<=1000)(q:Q (.str (aq (Ev.rep k.toNat l))) H) :
  wpAny (model X.prog X.w) X.A (binaryOp .Mult (.str (aq l) t) (.int k u)) (EP X pins σ Q) X.xe s:=by
 have hok:MulOk (aq l) k:=mulOk_of 1000 1000 (by rw[aQ];exact hk.2.2) (by exact hk.2.1) (by omega) (by decide) (by decide);refine SB.mul hok λt' k'=>?_;rw[zN hk.1];exact⟨.str _,H,I.tok _,⟨_,rfl⟩,q⟩
def jZ:fillsNumberSlot (.type "tuple") "mul" = pure false:=
 PySem.fillsNumberSlot_seq (id:="tuple.__mul__") (r:=some (.builtin "tuple.__rmul__")) PySem.F.slot_tuple_mul.lookup (by decide +kernel) PySem.F.slot_tuple_rmul.lookup (by decide +kernel)
def pe:seqRepeat? (.type "tuple")=pure (some (.builtin "tuple.__mul__")):=by
 unfold seqRepeat?;rw[MX (T:="tuple") (name:="__mul__") (id:="tuple.__mul__") PySem.F.slot_tuple_mul.lookup (by decide +kernel),MX (T:="tuple") (name:="__rmul__") (id:="tuple.__rmul__") PySem.F.slot_tuple_rmul.lookup (by decide +kernel)];rfl
def sN(a:Int)(t:Tok)(l:Addr)(items:Array Value)(n:Nat)(dd:Option Addr)(sl:Array (Option Value)) :
  Meets (Builtin.«int.__rmul__» ⟨[.int a t,.ref l],[]⟩) (λ_ R s=>s.heap.get? l=some { cls:=.type "tuple",dict:=dd,data:=.seq items n,slots:=sl }/\R (.ok (.ret Value.notImplemented)) s):=
 .of_wp λprog w A R s h=>by obtain⟨hp,g,d,tk,os⟩:=s;obtain⟨hl,h⟩:=h;wp_walk;exact⟨_,rfl,h⟩
def sO(l:Addr)(items:Array Value)(n:Nat)(dd:Option Addr)(sl:Array (Option Value))(k:Int)(u:Tok)(h1:¬ (decide (k < -2 ^ 63) ||decide (k≥2 ^ 63))=true)(h3:(items.isEmpty ||k==1)=true) :
  Meets (Builtin.«tuple.__mul__» ⟨[.ref l,.int k u],[]⟩) (λ_ R s=>s.heap.get? l=some { cls:=.type "tuple",dict:=dd,data:=.seq items n,slots:=sl }/\R (.ok (.ret (.ref l))) s):=
 .of_wp λprog w A R s h=>by obtain⟨hp,g,d,tk,os⟩:=s;obtain⟨hl,h⟩:=h;have f1:=Mi;wp_walk using Jf hl;rw[yL h1];wp_walk using Jf hl;exact⟨_,rfl,h⟩
def sP(l:Addr)(items:Array Value)(n:Nat)(dd:Option Addr)(sl:Array (Option Value))(k:Int)(u:Tok)(h1:¬ (decide (k < -2 ^ 63) ||decide (k≥2 ^ 63))=true)(h3:¬ (items.isEmpty ||k==1)=true)(h4:(decide (k<=0) ||items.isEmpty)=true) :
  Meets (Builtin.«tuple.__mul__» ⟨[.ref l,.int k u],[]⟩) (λ_ R s=>s.heap.get? l=some { cls:=.type "tuple",dict:=dd,data:=.seq items n,slots:=sl }/\R (.ok (.ret (Value.ref s.heap.objs.size))) { s with heap:=s.heap.push { cls:=Value.type "tuple",data:=Data.seq #[]},toks:=s.toks }):=
 .of_wp λprog w A R s h=>by obtain⟨hp,g,d,tk,os⟩:=s;obtain⟨hl,h⟩:=h;have f1:=Mi;wp_walk using Jf hl;rw[yL h1];wp_walk using Jf hl;exact⟨_,rfl,h⟩
def sQ(l:Addr)(items:Array Value)(n:Nat)(dd:Option Addr)(sl:Array (Option Value))(k:Int)(u:Tok)(h1:¬ (decide (k < -2 ^ 63) ||decide (k≥2 ^ 63))=true)(h3:¬ (items.isEmpty ||k==1)=true)(h4:¬ (decide (k<=0) ||items.isEmpty)=true)
  (h5:¬ (items.size*k > (2 ^ 63 - 1) / 8)) (h6:¬ Builtin.Tuple.tupleTooMany (items.size*k)=true) (hsz:(List.foldl (λx1 x2=>x1++x2) #[] (List.replicate k.toNat items)).size<=sizeLine) :
  Meets (Builtin.«tuple.__mul__» ⟨[.ref l,.int k u],[]⟩) (λ_ R s=>s.heap.get? l=some { cls:=.type "tuple",dict:=dd,data:=.seq items n,slots:=sl }/\R (.ok (.ret (Value.ref s.heap.objs.size))) { s with heap:=s.heap.push { cls:=Value.type "tuple",data:=Data.seq (List.foldl (λx1 x2=>x1++x2) #[] (List.replicate k.toNat items))},toks:=s.toks }):=
 .of_wp λprog w A R s h=>by obtain⟨hp,g,d,tk,os⟩:=s;obtain⟨hl,h⟩:=h;have f1:=Mi;wp_walk using Jf hl;rw[yL h1];wp_walk using Jf hl;rw[yL h5];wp_walk using Jf hl;exact⟨_,rfl,h⟩
theorem ng:∀(k:Nat) (l acc:List Value),(List.replicate k l.toArray).foldl (·++·) acc.toArray=(acc++Ev.rep k l).toArray
 |0,l,acc=>by simp[Ev.rep]
 |k+1,l,acc=>by
  rw[DI,Mp];have:acc.toArray++l.toArray=(acc++l).toArray:=by simp
  rw[this,ng k l (acc++l)];simp[Ev.rep,DI]
def zP{pins:List (Addr×Obj)}{σ:L2.St}{H:Hp}{s:Shared}{Q:VK}(I:Inv X pins σ H s){p:Addr}{vs:List V}{k:Int}{u:Tok}(hk:0<=k/\k<=1000/\vs.length<=1000)(hp:b8 X.K H p vs)
  (q1:Ev.rep k.toNat vs=vs->Q (.ref p) H) (q2:∀p',H p'=none->Q (.ref p') (upd H p' (.tup (Ev.rep k.toNat vs)))) :
  wpAny (model X.prog X.w) X.A (binaryOp .Mult (.ref p) (.int k u)) (EP X pins σ Q) X.xe s:=by
 obtain⟨us,pv,pt,hz⟩:=I.tuple hp;obtain⟨⟨cls,dd,data,sl⟩,ho,hc,n,hd⟩:=id pt;simp only at hc hd;subst hc hd;have hl:=pv.length;have h1:¬ (decide (k < -2 ^ 63) ||decide (k≥2 ^ 63))=true:=by simp;omega
 refine Mb (T:="tuple") (U:="int") (by decide) ⟨_,ho,rfl⟩ (λs'=>Ma s' k u) jZ PySem.F.fills_int_mul Mw pe PySem.F.slot_int_index.lookup
  (K8 Mw (Ma s k u) PySem.F.entry_int_rmul (PySem.F.args_int_rmul_2 _ _) (sN k u p us.toArray n dd sl) ⟨ho,rfl,⟨_,ho,rfl⟩,?_⟩)
 have hrep:∀m:Nat,(Ev.rep m us).length=m*us.length:=λm=>jt m us;by_cases h3:(us.toArray.isEmpty ||k==1)=true
 .refine K8 LC ⟨_,ho,rfl⟩ Ly (Lu _ _) (sO p us.toArray n dd sl k u h1 h3) ⟨ho,?_⟩;refine⟨.ref p,H,I,rfl,q1 ?_⟩;rw[K1]at h3;rcases h3 with h3|h3
  .have:us=[]:=by simpa using h3
   subst this;cases pv;simp[Ev.rep]
  .have:k=1:=by simpa using h3
   subst this;simp[Ev.rep]
 .have laid:∀m:Nat,m=k.toNat->EP X pins σ Q (.ref s.heap.objs.size) { s with heap:=s.heap.push { cls:=.type "tuple",data:=.seq (Ev.rep m us).toArray }}:=λm hm=>by
   subst hm;refine⟨.ref s.heap.objs.size,_,I.laid (t':=s.toks) (o:=.tup (Ev.rep k.toNat vs)) (λb ob q=>iB _ q) (gV _) ?_,rfl,q2 _ (I.hok.fresh (gV _))⟩;exact⟨by rw[jt];exact gv (by omega) hk.2.2,_,pv.rep k.toNat,IsTup.new _ _⟩
  by_cases h4:(decide (k<=0) ||us.toArray.isEmpty)=true
  .refine K8 LC ⟨_,ho,rfl⟩ Ly (Lu _ _) (sP p us.toArray n dd sl k u h1 h3 h4) ⟨ho,?_⟩;have hk0:k=0:=by
    rw[K1]at h4 h3;rcases h4 with h4|h4
    .have:k<=0:=Ld h4;omega
    .exact absurd (.inl h4) h3
   have:=laid 0 (by rw[hk0];rfl);exact this
  .have hm:us.toArray.size*k.toNat<=1000000:=by
    rw[cI];exact Nat.mul_le_mul (by omega:us.length<=1000) (by omega:k.toNat<=1000)
   have hm':(us.toArray.size:Int)*k<=1000000:=by
    have e:(us.toArray.size:Int)*k=((us.toArray.size*k.toNat:Nat):Int):=by
     rw[Int.natCast_mul,Int.toNat_of_nonneg hk.1]
    rw[e];omega
   have hf:List.foldl (λx1 x2=>x1++x2) #[] (List.replicate k.toNat us.toArray)=(Ev.rep k.toNat us).toArray:=by
    have:=ng k.toNat us [];simpa using this
   refine K8 LC ⟨_,ho,rfl⟩ Ly (Lu _ _) (sQ p us.toArray n dd sl k u h1 h3 h4 (by omega) ?_ ?_) ⟨ho,?_⟩
   .unfold Builtin.Tuple.tupleTooMany;simp only[K2];have:(sizeLine:Int)=16777216:=by rw[Li];rfl
    omega
   .rw[hf];simp only[cI];rw[jt];exact gv (by omega) (by omega)
   .rw[hf];exact laid _ rfl
def Cf:bR X (binaryOp .Mult) (dh X.K (Ev.bG .mul)):=by
 intro pins s σ H x y v u Q I rx ry q;obtain⟨r,h,a,b,d,h',hr,v1,v2,e,q⟩:=q;cases b with
 |int k=>
  have s2:=v2.shape;simp only[bA]at s2;subst s2;cases a with
  |int i=>
   delta Ev.bG at e;dsimp only at e
   split at e
   .rename_i hz;cases e;refine A7 pins s σ H x _ v u Q I rx ry ⟨i,k,v1,rfl,?_,q.here rfl hr⟩;unfold Ev.bx at hz;simp only[K1,pW,K2]at hz;exact hz
   .cases e
  |str l=>
   delta Ev.bG at e;dsimp only at e
   split at e
   .rename_i hz;cases e;simp only[RV]at v1;obtain⟨rfl,hl⟩:=v1;obtain⟨t,rfl⟩:=rx;obtain⟨t',rfl⟩:=ry;exact zO I hz (q.here ⟨rfl,by rw[jt];exact gv (by omega) hz.2.2⟩ hr)
   .cases e
  |tup ds=>
   delta Ev.bG at e;dsimp only at e
   split at e
   .rename_i hz;cases e;obtain⟨p,vs,rfl,z,w⟩:=v1.shape;cases rx;obtain⟨t',rfl⟩:=ry;refine zP I ⟨hz.1,hz.2.1,by rw[w.length];exact hz.2.2⟩ z (λJR=>q.here ⟨p,vs,rfl,z,?_⟩ hr) λp' hp=>q.tup (w.rep k.toNat) hr hp;have:=w.rep k.toNat;rw[JR]at this;exact this
   .cases e
  |ref i=>
   delta Ev.bG at e;dsimp only at e
   split at e
   .rename_i ds e1;split at e
    .rename_i hz;obtain⟨p,rfl,z⟩:=v1.shape;obtain⟨p',g1,vs,g2,g3⟩:=hr.ob _ _ e1;rw[z]at g1;cases g1;obtain⟨hz2,q2⟩:=q.lst e (g3.rep k.toNat) hr;exact Bq pins s σ H (.ref p) _ v u Q I rx ry ⟨p,k,vs,rfl,rfl,g2,by omega,by omega,gv (by rw[g3.length];exact hz.2.2) (by omega),q2⟩
    .cases e
   .cases e
  |_=>cases e
 |_=>cases a<;>cases e
end
section
variable{X:Cx}
theorem pq{K:PySem.W.Frag}{H:Hp}{r:List Addr}:∀{ds:List D}{bs:List Bool}{vs:List V}{us:List Value},Ev.boolsOf ds=some bs->az K H r ds vs->Vals vs us->us=bs.map Value.bool
 |[],bs,vs,us,e,w,p=>by
  cases e;simp only[az]at w;subst w;cases p;rfl
 |d :: ds,bs,vs,us,e,w,p=>by
  cases d with
  |bl b=>
   simp only[Ev.boolsOf,bC]at e;obtain⟨bs',e1,rfl⟩:=e;simp only[az,RV]at w;obtain⟨v,w',rfl,rfl,w2⟩:=w;cases p with
   |cons p1 p2=>
    cases p1;rw[pq e1 w2 p2];rfl
  |_=>cases e
theorem rm{K:PySem.W.Frag}{H:Hp}{r:List Addr}:∀{ds:List D}{ss:List (List Nat)}{vs:List V}{us:List Value},Ev.strsOf ds=some ss->az K H r ds vs->Vals vs us->StrsAre us (ss.map aq)/\∀l∈ss,l.length<=sizeLine
 |[],bs,vs,us,e,w,p=>by
  cases e;simp only[az]at w;subst w;cases p;exact⟨.nil,λl h=>nomatch h⟩
 |d :: ds,bs,vs,us,e,w,p=>by
  cases d with
  |str b=>
   simp only[Ev.strsOf,bC]at e;obtain⟨bs',e1,rfl⟩:=e;simp only[az,RV]at w;obtain⟨v,w',rfl,⟨rfl,hb⟩,w2⟩:=w;cases p with
   |cons p1 p2=>
    obtain⟨t,rfl⟩:=p1;obtain⟨g1,g2⟩:=rm e1 w2 p2;refine⟨.cons _ _ g1,λl hl=>?_⟩;rcases List.mem_cons.mp hl with z|z
    .subst z;exact hb
    .exact g2 l z
  |_=>cases e
def nh{A:Around}{pins:List (Addr×Obj)}{σ:L2.St}{H:Hp}{s:Shared}(I:Inv X pins σ H s){p:Addr}{us:List Value}(pl:PlainL s.heap p us.toArray){Q:Value->Shared->Prop}{E:Value->Shared->Prop}
  (h:∀s₂:Shared,s₂={ s with heap:=s.heap.push { cls:=.type "list_iterator",data:=.fields #[.ref p,.int 0 0]}}->(s₂.heap.IsListIter s.heap.objs.size p 0/\s₂.heap.IsList p us.toArray)->p≠s.heap.objs.size->(∀b∈[s.heap.objs.size,p],b<s₂.heap.objs.size)->Q (.ref s.heap.objs.size) s₂) :
  wpAny (model X.prog X.w) A (pyIter (.ref p)) Q E s:=by
 have hlt:p<s.heap.objs.size:=by obtain⟨_,e,_⟩:=pl.isList;exact mz e
 refine wpAny_pyIter_list pl.isList (h _ rfl ⟨⟨_,DJ _ rfl,rfl,rfl⟩,pl.isList.push _⟩ (IB hlt) λb hb=>?_);show b<(s.heap.push _).objs.size;rw[Heap.size_push];rcases List.mem_cons.mp hb with z|z
 .rw[z];exact Mh _
 .rw[List.mem_singleton.mp z];exact Nat.lt_succ_of_lt hlt
def all_range{bs:List Bool}:(List.range bs.length).all (λi=>bs[i]?.getD true)=bs.all id:=by
 rw[LR,LJ,LJ];constructor
 .intro h b hb;obtain⟨i,hi,rfl⟩:=LU hb;simpa[hi]using h i (List.mem_range.mpr hi)
 .intro h i hi;have hi':=List.mem_range.mp hi;simpa[hi']using h bs[i] (by simp)
def any_range{bs:List Bool}:(List.range bs.length).any (λi=>bs[i]?.getD true)=bs.any id:=by
 rw[LR,LI,LI];constructor
 .rintro⟨i,hi,h⟩;have hi':=List.mem_range.mp hi;exact⟨bs[i],by simp,by simpa[hi']using h⟩
 .rintro⟨b,hb,h⟩;obtain⟨i,hi,rfl⟩:=LU hb;exact⟨i,List.mem_range.mpr hi,by simpa[hi]using h⟩
def ni {s s₂:Shared}{I p:Addr}{h':Heap}(e:s₂.heap=s.heap.push { cls:=.type "list_iterator",data:=.fields #[.ref p,.int 0 0]}) (hI:I=s.heap.objs.size) (hk:∀b o,b∉[I]->s₂.heap.get? b=some o->h'.get? b=some o) :
  ∀b o,s.heap.get? b=some o->h'.get? b=some o:=λb o q=>hk b o (by simp;rw[hI];exact IB (mz q)) (by rw[e];exact iB _ q)
variable{G:Tb}{n:Nat}{sc:Scope}{N:List Str}{df:Bool}
def wJ(g:Good G n sc N df X){pins:List (Addr×Obj)}{σ:L2.St}{H:Hp}{s:Shared}(I:Inv X pins σ H s){p:Addr}{bs:List Bool}(pl:PlainL s.heap p (bs.map Value.bool).toArray){Q:VK} :
  (Q (.bl (bs.all id)) H->wpAny (model X.prog X.w) X.A (call (.builtin "all") [.ref p]) (EP X pins σ Q) X.xe s)/\(Q (.bl (bs.any id)) H->wpAny (model X.prog X.w) X.A (call (.builtin "any") [.ref p]) (EP X pins σ Q) X.xe s):=by
 have hh:=I.ok.hd g.calm;have tr:TruthOf X.prog X.w X.A.in1 (λi v=>(bs.map Value.bool).toArray[i]?=some v) (λi=>bs[i]?.getD true):=λi v s' Q' E' hP hQ=>by
  simp only[List.getElem?_toArray,GP,bC]at hP;obtain⟨b,hb,rfl⟩:=hP;have GA:Q' (bs[i]?.getD true) s':=hQ;rw[hb]at GA;exact KY GA
 have hsz:(bs.map Value.bool).toArray.size=bs.length:=by simp
 constructor
 .intro q;refine call_all_walk (nh I pl λs₂ e st hne hfp=>?_);subst e;refine⟨_,_,_,_,_,_,_,rfl,Walks.list (A:=X.A.in1) hh _ p hne (bs.map Value.bool).toArray,st,tr,λh' tk hk=>?_⟩;rw[hsz,all_range];exact⟨.bl _,H,I.kept (ni rfl rfl hk),rfl,q⟩
 .intro q;refine call_any_walk (nh I pl λs₂ e st hne hfp=>?_);subst e;refine⟨_,_,_,_,_,_,_,rfl,Walks.list (A:=X.A.in1) hh _ p hne (bs.map Value.bool).toArray,st,tr,λh' tk hk=>?_⟩;rw[hsz,any_range];exact⟨.bl _,H,I.kept (ni rfl rfl hk),rfl,q⟩
def Cg (g:Good G n sc N df X):dN X (.builtin "all") (mV X.K (Ev.cg .all)):=by
 intro pins s σ H xs us Q I r q;obtain⟨rr,h,as,d,h',hr,v1,e,q⟩:=q
 match as,e with
 |[.ref m],e=>
  obtain⟨e,rfl⟩:=Ev.av e;simp only[bC,bL]at e;obtain⟨bs,⟨ds,e1,e2⟩,rfl⟩:=e;simp only[az,RV]at v1;obtain⟨v,w,rfl,⟨p,rfl,z⟩,rfl⟩:=v1;obtain⟨u,rfl,ru⟩:=L8 r;cases ru;obtain⟨p',vs,z',q1,w⟩:=hr.read e1;rw[z]at z';cases z';obtain⟨zs,pv,pl,_⟩:=I.list q1;have:=pq e2 w pv;subst this;exact(wJ g I pl).1 (q.here rfl hr)
def Ci:dN X (.builtin "len") (mV X.K (Ev.cg .len)):=by
 intro pins s σ H xs us Q I r q;obtain⟨rr,h,as,d,h',hr,v1,e,q⟩:=q
 match as,e with
 |[.str l],e=>
  delta Ev.cg at e;dsimp only at e
  split at e
  .cases e;simp only[az,RV]at v1;obtain⟨v,w,rfl,⟨rfl,hl⟩,rfl⟩:=v1;refine oQ pins s σ H _ us Q I r ⟨_,rfl,by rw[aQ];exact hl,?_⟩;rw[aQ];exact q.here rfl hr
  .cases e
 |[.tup ds],e=>
  cases e;simp only[az,RV]at v1;obtain⟨v,w,rfl,⟨p,vs,rfl,z,w'⟩,rfl⟩:=v1;refine iS pins s σ H _ us Q I r ⟨p,vs,rfl,.inr z,?_⟩;rw[w'.length];exact q.here rfl hr
 |[.ref m],e=>
  obtain⟨e,rfl⟩:=Ev.av e;simp only[bC]at e;obtain⟨ds,e1,rfl⟩:=e;simp only[az,RV]at v1;obtain⟨v,w,rfl,⟨p,rfl,z⟩,rfl⟩:=v1;obtain⟨p',vs,z',q1,w⟩:=hr.read e1;rw[z]at z';cases z';refine iS pins s σ H _ us Q I r ⟨p,vs,rfl,.inl q1,?_⟩;rw[w.length];exact q.here rfl hr
def Cj:oN X "list.pop" (qR X.K (Ev.cT .pop)):=by
 intro pins s σ H x xs v us Q I rx rs q;obtain⟨r,h,a,as,d,h',hr,v1,v2,e,q⟩:=q;cases a with
 |ref m=>
  match as,e with
  |[],e=>
   delta Ev.cT at e;dsimp only at e
   split at e
   .rename_i ds e1;split at e
    .rename_i y e2;cases e;obtain⟨p,rfl,z⟩:=v1.shape;simp only[az]at v2;subst v2;obtain⟨p',g1,vs,g2,g3⟩:=hr.ob _ _ e1;rw[z]at g1;cases g1;obtain⟨vy,g4,g5⟩:=g3.get e2;refine Bo pins s σ H _ _ v us Q I rx rs ⟨p,vs,vy,rfl,rfl,g2,by rw[g3.length];exact g4,?_⟩;have f:=Fm.write (K:=X.K) (ws:=vs.dropLast) g2 (IC z);have hd:az X.K H r ds.dropLast vs.dropLast:=by
      rw[Lm,Lm,g3.length];exact g3.take _
     exact q _ _ r (g5.mono f) (hr.write e1 z g2 hd) f
    .cases e
   .cases e
  |_ :: _,e=>cases e
 |_=>cases e
theorem j0(sep:List Nat):∀ss:List (List Nat),Str.join (aq sep) (ss.map aq)=aq (Ev.aO sep ss)
 |[]=>rfl
 |[s]=>rfl
 |s :: t :: r=>by
  have ih:=j0 sep (t :: r);show aq s++aq sep++Str.join (aq sep) ((t :: r).map aq)=_;rw[ih,lW,lW];rfl
def join_eq(sep:List Nat)(ss:List (List Nat)):Txt.join (aq sep) (ss.map aq)=aq (Ev.aO sep ss):=by
 rw[<-j0];exact PySem.StrLaws.glued_eq_join _ _
def zQ:oN X "str.join" (qR X.K (Ev.cT .join)):=by
 intro pins s σ H x xs v us Q I rx rs q;obtain⟨r,h,a,as,d,h',hr,v1,v2,e,q⟩:=q;cases a with
 |str sep=>
  match as,e with
  |[.ref k],e=>
   delta Ev.cT at e;dsimp only at e
   split at e
   .rename_i ss e1;split at e
    .rename_i hz;cases e;simp only[bL]at e1;obtain⟨ds,e1,e2⟩:=e1;simp only[RV]at v1;obtain⟨rfl,hl⟩:=v1;obtain⟨t,rfl⟩:=rx;simp only[az,RV]at v2;obtain⟨y,w,rfl,⟨p2,rfl,z2⟩,rfl⟩:=v2;obtain⟨u,rfl,ru⟩:=L8 rs;cases ru;obtain⟨p',vs,z',q1,w⟩:=hr.read e1;rw[z2]at z';cases z';obtain⟨zs,pv,pl,_⟩:=I.list q1;obtain⟨g1,g2⟩:=rm e2 w pv;have hlen:((ss.map aq).map (·.length)).sum+(ss.map aq).length*(aq sep).length<=16777216:=by
      rw[Ll,Ka,aQ];have:(λx:Str=>x.length) ∘ aq=λl:List Nat=>l.length:=funext λl=>aQ l;rw[this];exact hz
     refine join_list pl.isList g1 hlen λt' k'=>?_;rw[join_eq];refine⟨.str _,H,I.tok _,⟨_,rfl⟩,q.here ⟨rfl,?_⟩ hr⟩;have hj:=PySem.StrLaws.join_length_le (aq sep) (ss.map aq);rw[j0,aQ]at hj;have:sizeLine=16777216:=Li;omega
    .cases e
   .cases e
 |_=>cases e
end
section
variable{X:Cx}{G:Tb}{n:Nat}{sc:Scope}{N:List Str}{df:Bool}{m:List Nat}{a b:E}{xa:Expr}{pos:Pos}
noncomputable def jI:TY->String
 |.int=>"int" |.bool=>"bool" |.str=>"str" |.tuple=>"tuple" |.list=>"list"
def Ig (K:PySem.W.Frag) (t:TY):PySem.W.kitOne K (.type "NoneType") (.type (jI t))=some false/\PySem.W.kitOne K (.type "bool") (.type (jI t))=some (Ev.bX [] (.bl true) t)/\PySem.W.kitOne K (.type "int") (.type (jI t))=some (Ev.bX [] (.int 0) t)/\
  PySem.W.kitOne K (.type "str") (.type (jI t))=some (Ev.bX [] (.str []) t)/\PySem.W.kitOne K (.type "tuple") (.type (jI t))=some (Ev.bX [] (.tup []) t)/\PySem.W.kitOne K (.type "list") (.type (jI t))=some (match t with|.list=>true|_=>false):=by
 cases t<;>refine⟨?_,?_,?_,?_,?_,?_⟩<;>kernel_rfl
noncomputable def LD(h:Hh)(i:Nat):Prop:=(Ev.aI h i).isSome=true
 \/False
def zR{pins:List (Addr×Obj)}{σ:L2.St}{H:Hp}{s:Shared}{r:List Addr}{h:Hh}(I:Inv X pins σ H s)(hr:HR X.K H r h){d:D}{x:V}{u:Value}(v1:RV X.K H r d x)(rx:RelV x u)(hd:∀i,d=.ref i->LD h i)(t:TY){Q:Value->Shared->Prop}{E:Value->Shared->Prop}(q:∀tk,Q (.bool (Ev.bX h d t)) { s with toks:=tk }) :
  wpAny (model X.prog X.w) X.A (call (.builtin "isinstance") [u,.type (jI t)]) Q E s:=by
 obtain⟨k0,k1,k2,k3,k4,k5⟩:=Ig X.K t;have s1:=v1.shape;cases d with
 |bg=>simp only[bA]at s1;subst s1;exact gr I rx .bg k0 (by simpa[Ev.bX]using q)
 |bl b=>simp only[bA]at s1;subst s1;exact gr I rx (.bl _) k1 (by cases t<;>simpa[Ev.bX]using q)
 |int b=>simp only[bA]at s1;subst s1;exact gr I rx (.int _) k2 (by cases t<;>simpa[Ev.bX]using q)
 |str b=>simp only[bA]at s1;subst s1;exact gr I rx (.str _) k3 (by cases t<;>simpa[Ev.bX]using q)
 |tup ds=>
  obtain⟨p,vs,rfl,z,w⟩:=s1;cases rx;obtain⟨us,_,pt,_⟩:=I.tuple z;obtain⟨o,h1,h2,_⟩:=pt;exact GO MN I.dw ⟨o,h1,h2⟩ k4 (λz=>nomatch z) (by cases t<;>simpa[Ev.bX]using q)
 |ref i=>
  obtain⟨p,rfl,z⟩:=s1;cases rx;rcases hd i rfl with hd|hd
  case inr=>
   exact hd.elim
  obtain⟨ds,e1⟩:=Option.isSome_iff_exists.mp hd;obtain⟨us,pl⟩:=o8 I hr e1 z;obtain⟨o,h1,h2,_⟩:=pl.isList;exact GO L5 I.dw ⟨o,h1,h2⟩ k5 (λz=>nomatch z) (by cases t<;>simpa[Ev.bX,e1]using q)
def kG {t:TY}{T:Str}{p q:Pos}(ha:JE G n sc N df m a xa) (hT:bootBuiltins T=some (.type (jI t))) (h1:("isinstance" : Str)∈G.bl:=by decide +kernel) (h2:T∈G.bl:=by decide +kernel)
  (Ck:sc.names.lookup ("isinstance" : Str)=some .globalImplicit:=by rfl) (JU:sc.names.lookup T=some .globalImplicit:=by rfl) (hn:T≠"__name__" :=by decide) (hd:(T==("__debug__" : Str))=false:=by decide)
  (hst:∀env:Env,starEach [xa,.Name T q] env=(false,eval xa env) :: starEach [.Name T q] env:=by intro _;rfl):JE G n sc N df m (.dB a [t]) (.Call (.Name "isinstance" p) [xa,.Name T q] [] pos):=λX g=>by
 have hty:PE X (.Name T q) (tC (.ty (jI t))):=yV (g.gl JU) (g.bl T h2) hT rfl hn hd;have hc:dN X (.builtin "isinstance") (λxs H Q=>∃r h d x,HR X.K H r h/\RV X.K H r d x/\xs=[x,.ty (jI t)]/\(∀i,d=.ref i->LD h i)/\Q (.bl (Ev.bX h d t)) H):=by
  intro pins s σ H xs us Q I rv q;obtain⟨r,h,d,x,hr,v1,rfl,hd,q⟩:=q;obtain⟨u,w,rfl,r1,r2⟩:=vals2 rv;cases r2;exact zR I hr v1 r1 hd t λtk=>⟨.bl _,H,I.tok _,rfl,q⟩
 refine PE.of (oK hc (g.gl Ck) (g.bl _ h1) (by decide +kernel) (jl (ha X g) (jl hty oH) (hst _)) (by decide) (by decide) (hst _) rfl) λs H Q q=>?_;obtain⟨r,fr,h,d,h',sr,hr,e,q⟩:=q;simp only[Ev.ev]at e;obtain⟨x,h3,e1,e⟩:=Ev.ah e;cases e;refine⟨r,fr,h,x,_,sr,hr,e1,λv H1 r1 v1 hr1 f1=>?_⟩;refine⟨r1,_,x,v,hr1,v1,rfl,λi hi=>?_,?_⟩
 .subst hi;simp only[RV]at v1;obtain⟨p,_,z⟩:=v1;have hlt:i<h'.length:=by rw[<-hr1.len];exact(List.getElem?_eq_some_iff.mp z).1
  unfold LD Ev.aI;rw[j9 hlt];cases h'[i]with
  |lst ds=>exact .inl rfl
  |aW ds=>exact .inl rfl
 .have:=(q.later f1).here (v:=.bl (Ev.bX h' x t)) (by simp[RV]) hr1;exact this
end
section
variable{G:Tb}{n:Nat}{sc:Scope}{N:List Str}{df:Bool}{m:List Nat}{a c:E}{xa:Expr}{pos:Pos}
def wK (g:Good G n sc N df X):dN X (.type "tuple") (λxs H Q=>∃r h d x d' h',HR X.K H r h/\RV X.K H r d x/\xs=[x]/\Ev.lP d h=.ok d' h'/\Res X.K r H h' d' Q):=by
 intro pins s σ H xs us Q I rv q;obtain⟨r,h,d,x,d',h',hr,v1,rfl,e,q⟩:=q;cases d with
 |tup ds=>
  cases e;have v2:=v1;obtain⟨p,vs,rfl,z,w⟩:=v1.shape;exact iE pins s σ H _ us Q I rv ⟨p,vs,rfl,.inr ⟨z,q.here v2 hr⟩⟩
 |ref i=>
  simp only[Ev.lP]at e;split at e
  .rename_i ds e1;split at e
   .cases e;obtain⟨p,rfl,z⟩:=v1.shape;obtain⟨p',vs,z',q1,w⟩:=hr.read e1;rw[z]at z';cases z';exact iE pins s σ H _ us Q I rv ⟨p,vs,rfl,.inl ⟨q1,λl hl=>q.tup w hr hl⟩⟩
   .cases e
  .cases e
 |_=>cases e
def Cm {p:Pos}(ha:JE G n sc N df m a xa) (h1:("tuple" : Str)∈G.bl:=by decide +kernel) (Ck:sc.names.lookup ("tuple" : Str)=some .globalImplicit:=by rfl)
  (hst:∀env:Env,starEach [xa] env=[(false,eval xa env)]:=by intro _;rfl):JE G n sc N df m (.iG a) (.Call (.Name "tuple" p) [xa] [] pos):=λX g=>by
 refine PE.of (mR (wK g) (g.gl Ck) (g.bl _ h1) (by decide +kernel) (jl (ha X g) oH (hst _)) (by decide) (by decide) (hst _) rfl) λs H Q q=>?_;obtain⟨r,fr,h,d,h',sr,hr,e,q⟩:=q;simp only[Ev.ev]at e;obtain⟨x,h3,e1,e⟩:=Ev.ah e;refine⟨r,fr,h,x,_,sr,hr,e1,λv H1 r1 v1 hr1 f1=>?_⟩;exact⟨r1,h3,x,v,d,h',hr1,v1,rfl,e,q.later f1⟩
def Cn{c:Nat}{st:Stmt}:JS G n sc N df m (.cZ c) st:=λX g=>PS.of vJ λQ s H q=>by
 obtain⟨r,fr,h,fl,ai,h',sr,hr,e,q⟩:=q;simp only[Ev.ex]at e;cases e
end
noncomputable def ir:List (D×D)->Bool
 |[]=>true
 | (.str k,.str v) :: r=>decide (v.length<=1000)&&ir r
 |_=>false
theorem pA{s:List Nat}{r:D}:∀{kvs:List (D×D)},ir kvs=true->Ev.cu (.str s) kvs=some r->∃t,r=.str t/\t.length<=1000/\PySem.Spec.lookup (.str (aq s)) (tabOf kvs)=some (.str (aq t))
 |[],_,e=>by simp[Ev.cu]at e
 | (k,v) :: l,ha,e=>by
  cases k<;>cases v<;>simp only[ir,xF,pW,K2]at ha
  rename_i k v;simp only[Ev.cu]at e;rw[show Ev.dS [] 1 (.str k) (.str s)=some (k==s)from rfl]at e;simp only[tabOf,PySem.Spec.lookup];by_cases h:k=s
  .subst h;simp at e;subst e;refine⟨v,rfl,ha.1,?_⟩;have:PySem.Spec.same (.str (aq k)) (.str (aq k))=true:=by rw[LZ];simp
   rw[this];rfl
  .have hb:(k==s)=false:=by simpa using h
   rw[hb]at e;simp only at e;obtain⟨t,h1,h2,h3⟩:=pA ha.2 e;refine⟨t,h1,h2,?_⟩;have:PySem.Spec.same (.str (aq k)) (.str (aq s))=false:=by
    rw[LZ];simp;exact λz=>h (gc z)
   rw[this];exact h3
theorem j3{y r:D}:∀{kvs:List (D×D)},ir kvs=true->Ev.cu y kvs=some r->∃s,y=.str s
 |[],_,e=>by simp[Ev.cu]at e
 | (k,v) :: l,ha,e=>by
  cases k<;>cases v<;>simp only[ir,xF,pW,K2]at ha
  cases y with
  |str s=>exact⟨s,rfl⟩
  |ref a=>cases e
  |_=>first|exact j3 ha.2 e|cases e
section
variable{G:Tb}{n:Nat}{sc:Scope}{N:List Str}{df:Bool}{m:List Nat}{a:E}{xa:Expr}{pos:Pos}
def rq {x:Str}{kvs:List (D×D)}{p:Pos}(hm:(x,kvs)∈G.dk) (ha:JE G n sc N df m a xa) (hk:ir kvs=true:=by decide) (hg:sc.names.lookup x=some .globalImplicit:=by rfl) (hd:(x==("__debug__" : Str))=false:=by decide) (hs:lN xa:=by intro _ _;rfl) :
  JE G n sc N df m (.cV kvs a) (.Subscript (.Name x p) xa pos):=λX g=>by
 intro pins s σ H Q I q;obtain⟨r,fr,h,d,h',sr,hr,e,q⟩:=q;simp only[Ev.ev]at e;replace e:=Ev.ah e;obtain⟨y,h1,e1,e⟩:=e;replace e:=Ev.av e;obtain⟨e,y0⟩:=e;subst y0;obtain⟨ad,hmg,htab⟩:=g.dk x kvs hm;refine Subscript_ (rZ (lJ (v:=.ref ad) (g.gl hg) hmg rfl hd) (ha X g) I (R:=λx' y' H2=>x'=.ref ad/\∃r1,RV X.K H2 r1 y y'/\HR X.K H2 r1 h'/\Fm X.K r r1 H H2) ?_ λv u s2 x' y' H2 I2 rx ry z=>?_)
 .refine⟨r,fr,h,y,h',sr,hr,e1,λv H1 r1 v1 hr1 f1=>⟨rfl,r1,v1,hr1,f1⟩⟩
 .obtain⟨rfl,r1,v1,hr1,f1⟩:=z;obtain rfl:v=Value.ref ad:=rx;have hy:∃sx,y=.str sx:=j3 hk e;obtain⟨sx,rfl⟩:=hy;obtain⟨t,rfl,ht,hl⟩:=pA hk e;simp only[RV]at v1;obtain⟨rfl,_⟩:=v1;obtain⟨tk,rfl⟩:=ry;refine item_strTab (htab s2.heap I2.dw) hl (λv hv=>?_) (hs _ _);obtain⟨t2,rfl⟩:=PyProof.V.Flat.str_inv hv;exact⟨.str (aq t),H2,I2.tok _,⟨t2,rfl⟩,q _ H2 r1 ⟨rfl,xE ht (by rw[Li];decide)⟩ hr1 f1⟩
end
end Sm
namespace Rv
open PySem PyProof.Rows
end Rv
namespace Sm
open PySem PySem.Spec PyProof.Rows L2 PySem.SeqAt
open Ev (D O Hh Fr R aB E Es Eo T S Ss Fl Src aS aJ TY BI ME)
theorem az.ofInts{K:PySem.W.Frag}{H:Hp}{r:List Addr}:∀ns:List Int,az K H r (ns.map D.int) (ns.map V.int)
 |[]=>.nil
 |_ :: l=>.cons rfl (az.ofInts l)
def Co{K:PySem.W.Frag}{H:Hp}{a:Addr}{vs:List V}(hO:lO H)(hS:cS K H a vs):sF K H a vs:=by
 rcases hS with h|h
 .rcases h with h|⟨o,h⟩
  .rcases hO a with q|⟨o,xs,q⟩
   .rw[q]at h;cases h
   .rw[q]at h;cases h
  .exact .inl ⟨o,h⟩
 .exact .inr h
def EU{K:PySem.W.Frag}{F:List Ev.Fn}{w n f:Nat}{H:Hp}{a:Addr}{ns:List Int}(hO:lO H)(hS:cS K H a (ns.map V.int)){h':Hh}(e:Ev.run F w n f [.ref 0] [.aW (ns.map D.int)]=.ok (.bl true) h') :
  jC K F w n f [.ref a] H (λv _=>v=.bl true) λ_ _ _=>False:=by
 refine⟨[a],[.aW (ns.map D.int)],[.ref 0],.bl true,h',.cons (show RV K H [a] (.ref 0) (.ref a)from ⟨a,rfl,rfl⟩) .nil,⟨rfl,λk o hk=>?_,λk l b x y _ _ hk _=>?_
  ⟩,e,λv H' r' v1 _ _=>v1⟩
 .cases k with
  |zero=>
   simp at hk;subst hk;exact⟨a,rfl,_,Co hO hS,az.ofInts ns⟩
  |succ k=>simp at hk
 .cases k with
  |zero=>simp at hk
  |succ k=>simp at hk
def zS{F:List Ev.Fn}{wh n f:Nat}{l:PySem.W.OpenLaw}{q:Program}{loose:List Str}{XP:(Str->Option Value)->Heap->Prop}{YP:World->Heap->Prop}{d:DefRec}{K:Params->PySem.W.Frag}{x:Str}(hn:l.most=some 63)(hdf:d.params.defaults=[])(hr:cY n callerA)
  (hY:∀(w:World) (h:Heap),YP w h->(K w.params).In h) (good:∀ns:List Int,ns.length<=63->∃h',Ev.run F wh n f [.ref 0] [.aW (ns.map D.int)]=.ok (.bl true) h')
  (Fo:∀(w:World) (mg:Str->Option Value) (fa:Addr) (h:Heap),(K w.params).In h->h.Ns mainGlobals mg->mg d.name=some (.ref fa)->
   ∃fd:FuncData,(∀(s:Shared) (u:Value),BindsTo s fd ⟨[u],[]⟩ [(x,u)])/\∀base:Heap,(K w.params).In base->base.Ns mainGlobals mg->ff l.prog w (K w.params) mg base iT n fa fd [x] (jC (K w.params) F wh n f)) :
  PySem.W.WalkO q loose XP YP l.row.toRowW d [] (λf vs=>PySem.call f vs):=
 L2.vY (n:=63) (k:=n) (x:=x) (CX:=iT) (sp:=λK=>jC K F wh n f) hn (by decide) hdf hr hY Fo (λK H a ns hl hO hS=>by
  obtain⟨h',e⟩:=good ns hl;exact EU hO hS e) λ_ _ _ _ z=>z
theorem uR{P:Program}{w:World}{K:PySem.W.Frag}{mg:Str->Option Value}{base:Heap}{G:Tb}(T:Top P w K mg G)
  (st:∀n,nP P w K mg base G n->nP P w K mg base G (n+1)):∀n,nP P w K mg base G n
 |0=>λf i _=>zE
 |n+1=>st n (uR T st n)
end Sm
namespace Sm
open PySem PySem.Spec PyProof.Rows L2
open Ev (D O Hh Fr R aB E Es Eo It T S Ss Fl Src aS aJ TY BI ME)
section
variable{G:Tb}{n:Nat}{sc:Scope}{N:List Str}{df:Bool}{m:List Nat}{a b:E}{xa xb:Expr}{pos:Pos}
noncomputable def hasB(N:List Str)(m:List Nat)(x:Str)(i:Nat):Bool:=(List.range N.length).any λj=>m[j]?==some i&&N[j]?==some x
def hasB.of{x:Str}{i:Nat}(h:hasB N m x i=true):∃j:Nat,m[j]?=some i/\N[j]?=some x:=by
 obtain⟨j,_,q⟩:=List.any_eq_true.mp h;rw[pW]at q;exact⟨j,by simpa using q.1,by simpa using q.2⟩
noncomputable def vB (sc:Scope) (N:List Str) (m:List Nat) (x:Str) (i:Nat):Bool:=hasB N m x i&&(sc.names.lookup x==some .local ||sc.names.lookup x==some .cell ||sc.names.lookup x==some .free)&&!(x==("__debug__" : Str))&&!(x==("__classdict__" : Str))
def jv{x:Str}{i:Nat}(h:vB sc N m x i=true):JE G n sc N df m (.v i) (.Name x pos):=by
 unfold vB at h;simp only[pW,L7,K1]at h;obtain⟨⟨⟨h1,h2⟩,h3⟩,h4⟩:=h;obtain⟨j,e1,e2⟩:=hasB.of h1;exact HQ j i e1 e2 (by rcases h2 with (h2|h2)|h2;exact .inl (by simpa using h2);exact .inr (.inl (by simpa using h2));exact .inr (.inr (by simpa using h2))) h3 h4
noncomputable def gB(sc:Scope)(N:List Str)(df:Bool)(m:List Nat)(x:Str)(i:Nat):Bool:=hasB N m x i&&(sc.names.lookup x==some .local || (df&&sc.names.lookup x==some .cell))&&decide m.Nodup&&decide N.Nodup
theorem gB.of{x:Str}{i:Nat}(h:gB sc N df m x i=true):∃j:Nat,m[j]?=some i/\N[j]?=some x/\(sc.names.lookup x=some .local\/(df=true/\sc.names.lookup x=some .cell))/\m.Nodup/\N.Nodup:=by
 unfold gB at h;simp only[pW,K1]at h;obtain⟨⟨⟨h1,h2⟩,h3⟩,h4⟩:=h;obtain⟨j,e1,e2⟩:=hasB.of h1;exact⟨j,e1,e2,by rcases h2 with h2|⟨h2,h5⟩;exact .inl (by simpa using h2);exact .inr ⟨h2,by simpa using h5⟩,Ld h3,Ld h4⟩
def JV{x:Str}{i:Nat}(h:gB sc N df m x i=true):JG G n sc N df m (.one i) (.Name x pos):=by
 obtain⟨j,e1,e2,e3,e4,e5⟩:=gB.of h;exact BQ j i e4 e5 e1 e2 e3
def JX{x:Str}{i:Nat}{l:List Nat}{xs:List Expr}(h:gB sc N df m x i=true)(hs:mX G n sc N df m l xs):mX G n sc N df m (i :: l) (.Name x pos :: xs):=by
 obtain⟨j,e1,e2,e3,e4,e5⟩:=gB.of h;exact wj j i e4 e5 hs e1 e2 e3
def Ih{i:Nat}{x:Str}{pos':Pos}(h:gB sc N df m x i=true)(ha:JE G n sc N df m a xa)(hs:∀env:Env,swapsWith xa (some (.Name x pos')) pos.line env=pure false:=by intro _;rfl):JS G n sc N df m (.set i a) (.Assign [.Name x pos'] xa pos):=by
 obtain⟨j,e1,e2,e3,e4,e5⟩:=gB.of h;exact BR j i e4 e5 ha hs e1 e2 e3
noncomputable def GB (sc:Scope) (x:Str):Bool:=sc.names.lookup x==some .globalImplicit&&!(x==("__debug__" : Str))
def JY{f:Nat}{i:FI}{es:Es}{x:Str}{e0:Expr}{xs:List Expr}{p:Pos}(h:GB sc x=true)(hf:G.fi[f]?=some i)(hx:i.name=x)(hs:JA G n sc N df m es (e0 :: xs))
  (hst:∀env:Env,starEach (e0 :: xs) env=(false,eval e0 env) :: starEach xs env:=by intro _;rfl) (hpl:∀env:Env,(backTo pos (starEach xs env)).any (·.1)=false:=by intro _;rfl) :
  JE G n sc N df m (.cl f es) (.Call (.Name x p) (e0 :: xs) [] pos):=by
 subst hx;unfold GB at h;simp only[pW,L7]at h;exact EJ hf hs (by simpa using h.1) h.2 hst hpl
noncomputable def JZ:Expr->List Str
 |.Name x _=>[x]
 |.Tuple xs _ _=>xs.filterMap λy=>match y with|.Name x _=>some x|_=>none
 |_=>[]
noncomputable def GC(N:List Str)(m:List Nat)(scope:Scope):List (Str×Nat):=(N.zip m).filter λp=>scope.names.contains (p.1,NameKind.free)
noncomputable def cN(N:List Str)(m:List Nat)(scope:Scope)(tg:Expr):List Str:=JZ tg++(GC N m scope).map (·.1)
noncomputable def cM(N:List Str)(m:List Nat)(scope:Scope)(t:T):List Nat:=Ev.slots t++(GC N m scope).map (·.2)
def EV{elt:E}{t:T}{it:Ev.It}{cond:Eo}{tg xi xe:Expr}{ifs:List Expr}{scope:Scope}(hn:kF sc N m scope t (cN N m scope tg) (cM N m scope t)=true)(hs:yh sc scope=true)
  (hi:JI G n sc N df m it tg xi) (hg:JG G n (cQ sc scope) (cN N m scope tg) false (cM N m scope t) t tg) (hc:JC G n (cQ sc scope) (cN N m scope tg) false (cM N m scope t) cond ifs)
  (he:JE G n (cQ sc scope) (cN N m scope tg) false (cM N m scope t) elt xe) (hf:∀(env:Env) x,foldedSetIterable xi env x=pure x:=by intro _ _;rfl):JE G n sc N df m (.comp elt t it cond) (.ListComp xe [⟨tg,xi,ifs,0⟩] scope pos):=
 qY hi hg hc he (namesOk.of hn) (gD.of hs) hf
def EW{i:Nat}{x:Str}{pos' cpos:Pos}{elt:E}{t:T}{it:Ev.It}{cond:Eo}{tg xi xe:Expr}{ifs:List Expr}{scope:Scope}(h:gB sc N df m x i=true)(hn:kF sc N m scope t (cN N m scope tg) (cM N m scope t)=true)(hs:yh sc scope=true)
  (hi:JI G n sc N df m it tg xi) (hg:JG G n (cQ sc scope) (cN N m scope tg) false (cM N m scope t) t tg) (hc:JC G n (cQ sc scope) (cN N m scope tg) false (cM N m scope t) cond ifs)
  (he:JE G n (cQ sc scope) (cN N m scope tg) false (cM N m scope t) elt xe) (hf:∀(env:Env) x,foldedSetIterable xi env x=pure x:=by intro _ _;rfl) :
  JS G n sc N df m (.set i (.comp elt t it cond)) (.Assign [.Name x pos'] (.ListComp xe [⟨tg,xi,ifs,0⟩] scope cpos) pos):=by
 obtain⟨j,e1,e2,e3,e4,e5⟩:=gB.of h;exact zH j i e4 e5 hi hg hc he (namesOk.of hn) (gD.of hs) e1 e2 e3 hf
def Ii{rest:List Expr}(ha:JT G n sc N df m a xa)(hb:JW G n sc N df m b (.BoolOp .Or (xb :: rest) pos)):JT G n sc N df m (.orr a b) (.BoolOp .Or (xa :: xb :: rest) pos):=HS (uy ha hb)
noncomputable def allB(G:Tb)(n:Nat):List (Ss×Stmt×List Str)->Prop
 |[]=>True
 |p :: r=>iV G n (aN p.2.1) p.2.2 true (List.range p.2.2.length) p.1 (eG p.2.1)/\allB G n r
theorem allB.get:∀{l:List (Ss×Stmt×List Str)}{k:Nat}{p:Ss×Stmt×List Str},allB G n l->l[k]?=some p->iV G n (aN p.2.1) p.2.2 true (List.range p.2.2.length) p.1 (eG p.2.1)
 |[],_,_,_,e=>nomatch e
 |_ :: _,0,_,h,e=>by cases e;exact h.1
 |_ :: r,k+1,p,h,e=>allB.get (l:=r) (k:=k) h.2 (by simpa using e)
end
end Sm
namespace Sm
open PySem PySem.Spec PyProof.Rows L2 PySem.SeqAt
open Ev (D O Hh Fr R aB E Es Eo T S Ss Fl Src aS aJ TY BI ME)
def rA(i:Int):Str.ofString (toString i)=aq (Ev.cW i):=by
 rw[Str.ofString_eq_byList];rfl
def nj{i:Int}(h:-1000000<i/\i<1000000):i.natAbs.log2<1920:=by
 refine Nat.lt_of_not_le λz=>?_;have h0:i.natAbs≠0:=λe=>by rw[e]at z;exact absurd z (by decide)
 have h1:2 ^ 1920<=i.natAbs:=xE (MB (by decide) z) (Nat.log2_self_le h0);have h2:2 ^ 20<=(2:Nat) ^ 1920:=MB (by decide) (by decide);have h3:i.natAbs<2 ^ 20:=by omega
 exact absurd (xE h2 h1) (Nat.not_le.mpr h3)
def zT {X:Cx}:dN X (.type "str") (mV X.K (Ev.cg .dz)):=by
 intro pins s σ H xs us Q I r q;obtain⟨rr,h,as,d,h',hr,v1,e,q⟩:=q
 match as,e with
 |[.int i],e=>
  delta Ev.cg at e;dsimp only at e
  split at e
  .rename_i k;cases e;simp only[az,RV]at v1;obtain⟨v,w,rfl,rfl,rfl⟩:=v1;obtain⟨u,rfl,r1⟩:=L8 r;obtain⟨t,rfl⟩:=r1;refine PySem.P.str_of_int (nj k) ⟨.str (aq (Ev.cW i)),H,I.tok _,⟨_,AD (λz=>Value.str z _) (rA i)⟩,q.here ⟨rfl,?_⟩ hr⟩;have:=int_text_fits (nj k);rw[rA,aQ]at this;exact this
  .cases e
 |[.str l],e=>
  cases e;simp only[az,RV]at v1;obtain⟨v,w,rfl,⟨rfl,hl⟩,rfl⟩:=v1;obtain⟨u,rfl,r1⟩:=L8 r;obtain⟨t,rfl⟩:=r1;exact PySem.P.str_of_str ⟨.str (aq l),H,I,⟨_,rfl⟩,q.here ⟨rfl,hl⟩ hr⟩
def rB:((List.range 10).all λa=>intText? (aq [a+48])==some (a:Int))=true/\((List.range 10).all λa=>(List.range 10).all λb=>intText? (aq [a+48,b+48])==some (10*(a:Int)+b))=true:=by
 constructor<;>decide +kernel
def pB{a:Nat}(h:Ev.jW a=true):∃k,k∈List.range 10/\a=k+48:=by
 simp only[Ev.jW,pW,K2]at h;exact⟨a - 48,by simp;omega,by omega⟩
def Cp{l:List Nat}{i:Int}(e:Ev.jX l=some i):intText? (aq l)=some i/\l.length<=640:=by
 match l,e with
 |[a],e=>
  simp only[Ev.jX]at e;split at e
  .rename_i h;obtain⟨k,k1,rfl⟩:=pB h;have:=List.all_eq_true.mp rB.1 k k1;cases e;exact⟨by rw[beq_iff_eq.mp this];congr 1;omega,by simp⟩
  .cases e
 |[a,b],e=>
  simp only[Ev.jX,pW]at e;split at e
  .rename_i h;obtain⟨k,k1,rfl⟩:=pB h.1;obtain⟨j,j1,rfl⟩:=pB h.2;have:=List.all_eq_true.mp (List.all_eq_true.mp rB.2 k k1) j j1;cases e;exact⟨by rw[beq_iff_eq.mp this];congr 1;omega,by simp⟩
  .cases e
def zU {X:Cx}:dN X (.type "int") (mV X.K (Ev.cg .ig)):=by
 intro pins s σ H xs us Q I r q;obtain⟨rr,h,as,d,h',hr,v1,e,q⟩:=q
 match as,e with
 |[.str l],e=>
  delta Ev.cg at e;dsimp only at e
  obtain⟨e2,y0⟩:=Ev.av e;subst y0;obtain⟨i,e3,rfl⟩:=Option.map_eq_some_iff.mp e2;obtain⟨n1,n2⟩:=Cp e3;simp only[az,RV]at v1;obtain⟨v,w,rfl,⟨rfl,hl⟩,rfl⟩:=v1;obtain⟨u,rfl,r1⟩:=L8 r;obtain⟨t,rfl⟩:=r1;exact PySem.W.KIN.call_text n1 (by rw[aQ];exact n2) ⟨.int i,H,I.tok _,⟨_,rfl⟩,q.here rfl hr⟩
noncomputable def fj(c:Nat):Nat->List Nat->List Nat
 |_,[]=>[]
 |k,x :: l=>if x=c then k :: fj c (k+1) l else fj c (k+1) l
def sub_one(a:List Nat)(c i:Nat):Builtin.Str.subAt (aq a) (aq [c]) i=decide ((a.drop i).take 1=[c]):=by
 unfold Builtin.Str.subAt;have e:(aq a).cps.extract i (i+(aq [c]).length)=((a.drop i).take 1).toArray:=by
  rw[aQ];show a.toArray.extract _ _=_;rw[MD]
  congr 1
  rw[List.extract_eq_drop_take]
  congr 1;simp
 rw[e];show(((a.drop i).take 1).toArray==[c].toArray)=_;by_cases q:(a.drop i).take 1=[c]
 .simp[q]
 .rw[yK q];exact beq_eq_false_iff_ne.mpr λz=>q (by simpa using z)
theorem pC(a:List Nat)(c:Nat):∀(l:List Nat) (k:Nat) (acc:Array Nat) (free:Nat),a.drop k=l->k+l.length=a.length->acc.size<=k->free<=k->
  (forIn (List.range' k (l.length+1)) (acc,free) (StrLaws.occBody (aq a) (aq [c]) a.length (a.length+1))).run.fst.toList=acc.toList++fj c k l
 |[],k,acc,free,hd,hk,hs,hf=>by
  simp only[Lq,Nat.zero_add,List.range'_one,LP,List.forIn_nil];unfold StrLaws.occBody;rw[yL (λz=>by have:=z.1.2;rw[aQ]at this;simp at this hk;omega)];simp[fj]
 |x :: l,k,acc,free,hd,hk,hs,hf=>by
  rw[pX]at hk;rw[pX,List.range'_succ,LP];have hd2:a.drop (k+1)=l:=by rw[<-List.drop_drop,hd];rfl
  unfold StrLaws.occBody;have hsub:Builtin.Str.subAt (aq a) (aq [c]) k=decide (x=c):=by rw[sub_one,hd];simp
  by_cases hx:x=c
  .rw[eO ⟨⟨⟨by simp;omega,by simpa using hf⟩,by rw[aQ];simp;omega⟩,by rw[hsub];simpa using hx⟩];have ih:=pC a c l (k+1) (acc.push k) (k+(aq [c]).length) hd2 (by omega) (by simp;omega) (by rw[aQ];simp);unfold StrLaws.occBody at ih;simp only[fj,eO hx];refine Eq.trans ?_ (ih.trans (by simp));rfl
  .rw[yL (λz=>by have:=z.2;rw[hsub]at this;exact hx (by simpa using this))];have ih:=pC a c l (k+1) acc free hd2 (by omega) (by omega) (by omega);unfold StrLaws.occBody at ih;simp only[fj,yL hx];exact Eq.trans rfl ih
def lX(a:List Nat)(c:Nat):Builtin.Str.occurrences (aq a) (aq [c]) 0 (aq a).length ((aq a).length+1)=fj c 0 a:=by
 rw[StrLaws.occ_eq,aQ];have:=pC a c a 0 #[] 0 rfl (by simp) (by simp) (by simp);simpa using this
def j4(a:List Nat)(i j:Nat):Builtin.Str.strSub (aq a) i j=aq ((a.drop i).take (j - i)):=by
 unfold Builtin.Str.strSub;show(⟨a.toArray.extract i j⟩:Str)=_;rw[MD,List.extract_eq_drop_take];rfl
theorem j5(a:List Nat)(c:Nat):∀(l cur:List Nat) (s k:Nat),a.drop s=cur++l->k=s+cur.length->k+l.length=a.length->
  ((s :: (fj c k l).map (· + 1)).zip (fj c k l++[a.length])).map (λp=>Builtin.Str.strSub (aq a) p.1 p.2)=((cur++(Ev.aM c l).headD []) :: (Ev.aM c l).tail).map aq
 |[],cur,s,k,hd,hk,hl=>by
  have e:(a.drop s).take (a.length - s)=cur:=by rw[hd,La,Lj (by simp at hl;omega)]
  simp[fj,Ev.aM,j4,e]
 |x :: l,cur,s,k,hd,hk,hl=>by
  rw[pX]at hl;have hd2:a.drop (k+1)=l:=by
   have h1:a.drop (s+(cur.length+1))=l:=by
    rw[<-List.drop_drop,hd,show cur++x :: l=(cur++[x])++l by simp,List.drop_left' (by simp)]
   rw[<-h1,hk];rfl
  by_cases hx:x=c
  .have ih:=j5 a c l [] (k+1) (k+1) hd2 (by simp) (by omega);simp only[fj,eO hx,vv,LH,MO];rw[j4,hd,show k - s=cur.length by omega,List.take_left' rfl];refine(AD _ ih).trans ?_;simp only[Ev.aM,eO hx,List.headD_cons,La,List.tail_cons,LO,vv]
   congr 1
   cases h:Ev.aM c l with
   |nil=>exact absurd h (by cases l<;>simp only[Ev.aM] <;> (try split) <;> (try split)<;>simp)
   |cons p ps=>simp
  .have ih:=j5 a c l (cur++[x]) s (k+1) (by rw[hd];simp) (by simp;omega) (by omega);simp only[fj,yL hx];rw[ih];simp only[Ev.aM,yL hx];cases h:Ev.aM c l with
   |nil=>exact absurd h (by cases l<;>simp only[Ev.aM] <;> (try split) <;> (try split)<;>simp)
   |cons p ps=>simp
def pD(c:Nat)(l:List Nat):∃p ps,Ev.aM c l=p :: ps:=by
 cases h:Ev.aM c l with
 |nil=>exact absurd h (by cases l<;>simp only[Ev.aM] <;> (try split) <;> (try split)<;>simp)
 |cons p ps=>exact⟨p,ps,rfl⟩
def j6(a:List Nat)(c:Nat):Builtin.Str.partsBetween (aq a) (fj c 0 a) (aq [c]).length=(Ev.aM c a).map aq:=by
 have:=j5 a c a [] 0 0 (by simp) (by simp) (by simp);obtain⟨p,ps,e⟩:=pD c a;rw[e]at this ⊢;unfold Builtin.Str.partsBetween;rw[aQ,aQ];exact this.trans (by simp)
theorem Mm(c:Nat):∀(a:List Nat),∀p∈Ev.aM c a,p.length<=a.length
 |[],p,h=>by simp[Ev.aM]at h;simp[h]
 |x :: a,p,h=>by
  simp only[Ev.aM]at h;split at h
  .rcases List.mem_cons.mp h with rfl|h
   .simp
   .exact xE (Mm c a p h) (by simp)
  .split at h
   .rename_i q ps e;rcases List.mem_cons.mp h with rfl|h
    .have:=Mm c a q (by rw[e];simp);simp;omega
    .exact xE (Mm c a p (by rw[e];simp[h])) (by simp)
   .simp at h;simp[h]
noncomputable def wL(a:D)(as:List D)(h:Hh):R D:=match as with
 |[b]=>(R.of (Ev.oW a b) h).bind λl h1=>Ev.alloc l h1
 |_=>.bad
theorem rC:∀(l:List (List Nat)) (k:Nat),Vals (l.map λp=>V.str (aq p)) (strsFrom k (l.map aq))
 |[],_=>.nil
 |_ :: l,k=>.cons ⟨_,rfl⟩ (rC l (k+1))
theorem az.Cq{K:PySem.W.Frag}{H:Hp}{r:List Addr}:∀{ss:List (List Nat)},(∀l∈ss,l.length<=sizeLine)->az K H r (ss.map D.str) (ss.map λl=>V.str (aq l))
 |[],_=>.nil
 |l :: ss,h=>.cons ⟨rfl,h l (by simp)⟩ (az.Cq λx hx=>h x (by simp[hx]))
def rD{x y:D}{l:List D}(e:Ev.oW x y=some l):∃a c,x=.str a/\y=.str [c]/\c<128/\l=(Ev.aM c a).map .str:=by
 unfold Ev.oW at e;split at e
 .split at e
  .rename_i hc;cases e;exact⟨_,_,rfl,rfl,hc,rfl⟩
  .cases e
 .cases e
def wN {X:Cx}:oN X "str.split" (qR X.K wL):=by
 intro pins s σ H x xs v us Q I rx rs q;obtain⟨r,h,a,as,d,h',hr,v1,v2,e,q⟩:=q
 match as,e with
 |[b],e=>
  simp only[wL]at e;obtain⟨l,h1,e1,e9⟩:=Ev.ah e;obtain⟨e2,y0⟩:=Ev.av e1;subst y0;obtain⟨a,c,rfl,rfl,hc,rfl⟩:=rD e2;simp only[RV]at v1;obtain⟨rfl,hl⟩:=v1;obtain⟨t,rfl⟩:=rx;simp only[az,RV]at v2;obtain⟨y,w,rfl,⟨rfl,hl2⟩,rfl⟩:=v2;obtain⟨u,rfl,ru⟩:=L8 rs;obtain⟨t2,rfl⟩:=ru;obtain⟨hz2,q2⟩:=q.lst e9 (az.Cq λp hp=>xE (Mm c a p hp) hl) hr;have fin:∀(its:List Value) (k:Nat),Vals ((Ev.aM c a).map λp=>V.str (aq p)) its->EP X pins σ Q (.ref s.heap.objs.size) { s with toks:=k,heap:=s.heap.push { cls:=.type "list",data:=.seq its.toArray }}:=λits k hv=>
   ⟨.ref s.heap.objs.size,_,I.laid (t':=k) (o:=.lst ((Ev.aM c a).map λp=>V.str (aq p))) (λb ob q=>iB _ q) (gV _) ⟨hz2,its,_,hv,DJ _ rfl⟩,rfl,q2 _ (I.hok.fresh (gV _))⟩
  have hy:((aq [c]).length==0)=false:=by rw[aQ];rfl
  have one:Ev.aM c a=[a]->Vals ((Ev.aM c a).map λp=>V.str (aq p)) [Value.str (aq a) t]:=λz=>by rw[z];exact .cons ⟨_,rfl⟩ .nil
  cases c1:(decide ((aq a).length<(aq [c]).length) ||decide (Builtin.Str.strKind (aq a)<Builtin.Str.strKind (aq [c])))
  .cases c2:(Builtin.Str.occurrences (aq a) (aq [c]) 0 (aq a).length ((aq a).length+1)).isEmpty
   .refine K8 LK (LM _ _ _) L6 (L0 _ _) (meets_str_split_sep _ _ _ _ c1 hy c2 (by rw[aQ];exact hl) ?_) ?_
    .rw[lX,j6,Ka];simpa using hz2
    .have hv:=rC (Ev.aM c a) s.toks;rw[lX,j6];exact fin _ _ hv
   .refine K8 LK (LM _ _ _) L6 (L0 _ _) (meets_str_split_not_found _ _ _ _ c1 hy c2) (fin _ s.toks (one ?_));rw[lX]at c2;have e2:=j6 a c;rw[List.isEmpty_iff.mp c2]at e2;unfold Builtin.Str.partsBetween at e2;simp only[Lr,LO,MO,List.zip_nil_left,vv,j4,aQ,Lx,Nat.sub_zero,List.take_length]at e2;obtain⟨p,ps,e3⟩:=pD c a;rw[e3]at e2 ⊢;simp only[vv,List.cons.injEq]at e2;obtain⟨e4,e5⟩:=e2;rw[<-gc e4,List.map_eq_nil_iff.mp e5.symm]
  .refine K8 LK (LM _ _ _) L6 (L0 _ _) (meets_str_split_cannot_occur _ _ _ _ c1) (fin _ s.toks (one ?_));have k1:Builtin.Str.strKind (aq [c])=1:=by unfold Builtin.Str.strKind;rw[eO (by simp[aq];omega)]
   have k2:1<=Builtin.Str.strKind (aq a):=by unfold Builtin.Str.strKind;split <;> (try split)<;>decide
   rw[k1,yK (p:=Builtin.Str.strKind (aq a)<1) (by omega),Bool.or_false,aQ,aQ]at c1;have:a=[]:=by simpa using c1
   rw[this];rfl
section
variable{G:Tb}{n:Nat}{sc:Scope}{N:List Str}{df:Bool}{m:List Nat}{a b c:E}{xa xb:Expr}{pos:Pos}
def wO{apos:Pos}(ha:JE G n sc N df m a xa)(hs:JA G n sc N df m (.cons b .nil) [xb])
  (hbase:∀env:Env,attributeBase xa "split" env (eval xa env)=eval xa env:=by intro _;rfl)
  (hfew:∀env:Env,((backTo pos (starEach [xb] env)).all (λx=>!x.1)&&(backToKw pos (keywordEach [] env)).all (λx=>x.1.isSome)
   &&decide ([xb].length+([]:List Keyword).length+(if ([]:List Keyword).isEmpty then 0 else 1)<30))=true:=by intro _;rfl)
  (hline:(apos.endLine==pos.line)=true:=by rfl) (hst:∀env:Env,starEach [xb] env=(false,eval xb env) :: starEach [] env:=by intro _;rfl) (hpl:∀env:Env,(backTo pos (starEach [] env)).any (·.1)=false:=by intro _;rfl) :
  JE G n sc N df m (.fR (.gS a b)) (.Call (.Attribute xa "split" apos) [xb] [] pos):=λX g=>
 PE.of (xW (T:="str") (id:="str.split") F.plainAttrs_str LK F.type_str_split wN (ha X g) (hs X g) (hbase _) (hfew _) hline (hst _) (hpl _)) λs H Q q=>by
  obtain⟨r,fr,h,d,h',sr,hr,e,q⟩:=q;simp only[Ev.ev,Ev.bO]at e;obtain⟨sx,h3,e1,e9⟩:=Ev.ah e;obtain⟨x,h1,e2,e5⟩:=Ev.ah e1;obtain⟨y,h2,e3,e6⟩:=Ev.ah e5;obtain⟨e7,y0⟩:=Ev.av e6;subst y0;obtain⟨l,e4,rfl⟩:=Option.map_eq_some_iff.mp e7;obtain⟨t,_,rfl,_⟩:=rD e4;refine⟨r,fr,h,.str t,h1,sr,hr,e2,λv H1 r1 v1 hr1 f1=>⟨?_,?_⟩⟩
  .simp only[RV]at v1;obtain⟨rfl,_⟩:=v1;rfl
  .refine⟨r1,fr,h1,[y],h3,sr.mono f1,hr1,by simp only[Ev.br,e3,Ev.aj],λvs H2 r2 v2 hr2 f2=>?_⟩;exact⟨r2,h3,.str t,[y],d,h',hr2,v1.mono f2,v2,by simp only[wL,e4];exact e9,q.later (f1.trans f2)⟩
noncomputable def GD:D->Option Nat
 |.str [c]=>some c
 |_=>none
noncomputable def GF:D->Bool
 |.str _=>true
 |_=>false
noncomputable def sR:List (D×D)->Option (List Nat)
 |[]=>some []
 | (k,v) :: r=>if GF v then (GD k).bind λc=>(sR r).map λl=>c :: l else none
theorem pF{c:Nat}:∀{kvs:List (D×D)}{ks:List Nat},sR kvs=some ks->(PySem.Spec.lookup (.str (aq [c])) (tabOf kvs)).isSome=ks.contains c
 |[],ks,e=>by cases e;rfl
 | (k,v) :: l,ks,e=>by
  simp only[sR]at e;split at e
  case isFalse=>cases e
  rename_i hv;obtain⟨d,e1,e2⟩:=Option.bind_eq_some_iff.mp e;obtain⟨l',e3,rfl⟩:=Option.map_eq_some_iff.mp e2;have ek:k=.str [d]:=by
   unfold GD at e1;split at e1
   .cases e1;rfl
   .cases e1
  have ev:∃w,v=.str w:=by
   unfold GF at hv;split at hv
   .exact⟨_,rfl⟩
   .cases hv
  obtain⟨w,rfl⟩:=ev;subst ek;simp only[tabOf,PySem.Spec.lookup];rw[LZ,MQ];by_cases h:d=c
  .subst h;simp
  .have h2:¬ aq [d]=aq [c]:=λz=>h (by simpa using gc z);rw[yK h2,show(c==d)=false from by simp;exact λz=>h z.symm];exact pF e3
def Cr {x:Str}{kvs:List (D×D)}{ks:List Nat}{p:Pos}(hm:(x,kvs)∈G.dk) (ha:JE G n sc N df m a xa) (hk:sR kvs=some ks:=by decide +kernel) (hg:sc.names.lookup x=some .globalImplicit:=by rfl) (hd:(x==("__debug__" : Str))=false:=by decide) :
  JT G n sc N df m (.cmp .cK a (.c (.str ks))) (.Compare xa [.NotIn] [.Name x p] pos):=λX g=>by
 obtain⟨ad,hmg,htab⟩:=g.dk x kvs hm;have pc:PC X .NotIn xa (.Name x p) (λσ H Q=>tJ X.K m (Ev.run G.F G.w n) a σ H λy H1=>∃c,y=.str (aq [c])/\Q (.bl (!ks.contains c)) H1):=by
  intro pins s σ H Q I h;refine aR (ha X g pins s σ H _ I h) λiv s1 ⟨y,H1,I1,ry,c,ey,q1⟩=>aR (lJ (v:=.ref ad) (pos:=p) (g.gl hg) hmg rfl hd pins s1 σ H1 (λv H2=>v=.ref ad/\Q (.bl (!ks.contains c)) H2) I1 ⟨rfl,q1⟩) λu s2 ⟨z,H2,I2,rz,ez,q2⟩=>?_;subst ey;subst ez;obtain rfl:u=Value.ref ad:=rz;obtain⟨tk,rfl⟩:=ry;refine notin_strTab (htab s2.heap I2.dw) ?_;rw[pF hk];exact⟨.bl _,H2,I2.tok _,rfl,q2⟩
 refine PT.of (AU pc) λs H Q q=>?_;obtain⟨r,fr,h,k,h',sr,hr,e,q⟩:=q;simp only[Ev.aD,Ev.ev]at e;obtain⟨d,h1,e1,e9⟩:=Ev.ah e;obtain⟨y,h2,e2,e3⟩:=Ev.ah e1;simp only[Ev.aj]at e3;obtain⟨e4,y0⟩:=Ev.av e3;obtain⟨e5,y1⟩:=Ev.av e9;subst y0;subst y1;obtain⟨b,e6,rfl⟩:=Option.map_eq_some_iff.mp e4;simp only[Ev.truthy,MT]at e5;subst e5;have e7:(Ev.isin y (.str ks) h').map (!·)=some b:=e6;obtain⟨b',e8,rfl⟩:=Option.map_eq_some_iff.mp e7;have hy:∃c,y=.str [c]/\b'=ks.contains c:=by
  unfold Ev.isin at e8;dsimp only at e8;split at e8
  .cases e8;exact⟨_,rfl,rfl⟩
  .cases e8
 obtain⟨c,rfl,rfl⟩:=hy;exact⟨r,fr,h,.str [c],h',sr,hr,e2,λv H1 r1 v1 hr1 f1=>by
  simp only[RV]at v1;exact⟨c,v1.1,_,rfl,q _ _ hr1 f1⟩⟩
end
section
variable{G:Tb}{n:Nat}{sc:Scope}{N:List Str}{df:Bool}{m:List Nat}{a b c:E}{xa:Expr}{pos:Pos}
noncomputable def Cs(K:PySem.W.Frag)(gu:List (TE×TE)):TE:=λσ H Q=>∀p,H p=none->K.lookup p=none->kq gu σ (upd H p (.dK [])) λps H2=>H2 p=some (.dK [])/\∃kvs:List (Key×V),ps=kvs.map (λkv=>(kV kv.1,kv.2))/\kvs.length<=15/\Q (.ref p) (upd H2 p (.dK (gR [] kvs)))
def wQ{X:Cx}{keys:List (Option Expr)}{values:List Expr}{gu:List (TE×TE)}(h:uv X pos keys values gu)(hall:keys.all (·.isSome)=true)(hl:keys.length=values.length)(h0:keys≠[])
  (GG:keys.length<=15):PE X (.Dict keys values pos) (Cs X.K gu):=by
 intro pins s σ H Q I q;have hn:=I.hok.fresh (gV s.heap.objs.size);have hk:X.K.lookup s.heap.objs.size=none:=by
  cases z:X.K.lookup s.heap.objs.size with
  |none=>rfl
  |some o=>exact absurd (mz (I.dw _ _ z)) (K4 _)
 have I1:=I.laid (a:=s.heap.objs.size) (o:=.dK []) (h':=s.heap.push { cls:=.type "dict",data:=.dict #[]}) (t':=s.toks) (λ_ _ q=>iB _ q) (gV _) (v8 s.heap I.big);refine wpAny_Dict_walk (knd:=bW X.prog X.w) hall hl h0 GG (aR (h pins _ σ _ _ I1 (q _ hn hk)) λws s2 ⟨ps,H2,I2,rel,e,kvs,ep,lk,q2⟩=>?_);subst ep;obtain⟨rs,c,rk⟩:=kr (P:=X.prog) (w:=X.w) rel;obtain⟨z,hd,Ku,r0,dd⟩:=Ex I2.hok e;cases r0;refine⟨rs,c,dd,λh' GH hs=>⟨.ref s.heap.objs.size,_,?_,rfl,q2⟩⟩;have hz:(gR [] kvs).length<=sizeLine:=by
  have h1:=iF kvs [];rw[Lq]at h1;rw[Li];omega
 have he:∃q,h'.get? s.heap.objs.size=some q:=let ⟨q,_,_,hq,_⟩:=GH;⟨q,hq⟩;exact zo I2 (by rw[e];exact True.intro) hs he (Bs hz hd (rk.merge .nil) GH)
inductive JP:List (D×D)->List (Option Expr)->List Expr->Prop
 |nil:JP [] [] []
 |cons {k v:List Nat} {x y:Str} {i j} {p q:Pos} {kvs:List (D×D)} {ks:List (Option Expr)} {vs:List Expr} (h:JP kvs ks vs) (hx:x=aq k:=by decide +kernel) (hy:y=aq v:=by decide +kernel):JP ((.str k,.str v) :: kvs) (some (.Constant (.str x) i p) :: ks) (.Constant (.str y) j q :: vs)
noncomputable def jJ:List (D×D)->List (Key×V)
 | (.str k,.str v) :: r=>(Sum.inr (aq k),V.str (aq v)) :: jJ r
 |_=>[]
def Ct{X:Cx}{kvs:List (D×D)}{ks:List (Option Expr)}{vs:List Expr}(h:JP kvs ks vs):∃gu,uv X pos ks vs gu/\(∀σ H Q,Q ((jJ kvs).map λkv=>(kV kv.1,kv.2)) H->kq gu σ H Q)/\ks.all (·.isSome)=true/\ks.length=vs.length/\ks.length=kvs.length/\(jJ kvs).length=kvs.length:=by
 induction h with
 |nil=>exact⟨[],zu,λ_ _ _ h=>h,rfl,rfl,rfl,rfl⟩
 |cons _ hx hy ih=>
  obtain⟨gu,h1,h2,h3,h4,h5,h6⟩:=ih;subst hx;subst hy;exact⟨_,v9 oE oE h1,λσ H Q h=>h2 σ H _ h,by simp[h3],by simp[h4],by simp[h5],by simp[jJ,h6]⟩
theorem pG{s:List Nat}{r:D}:∀{kvs:List (D×D)},ir kvs=true->Ev.cu (.str s) kvs=some r->∃t,r=.str t/\t.length<=1000/\gj (jJ kvs) (Sum.inr (aq s):Key)=some (.str (aq t))
 |[],_,e=>by simp[Ev.cu]at e
 | (k,v) :: l,ha,e=>by
  cases k<;>cases v<;>simp only[ir,xF,pW,K2]at ha
  rename_i k v;simp only[Ev.cu]at e;rw[show Ev.dS [] 1 (.str k) (.str s)=some (k==s)from rfl]at e;by_cases h:k=s
  .subst h;simp at e;subst e;exact⟨v,rfl,ha.1,jV rfl⟩
  .rw[show(k==s)=false by simpa using h]at e;obtain⟨t,h1,h2,h3⟩:=pG ha.2 e;refine⟨t,h1,h2,?_⟩;rw[<-h3];have hne:¬ (Sum.inr (aq k):Key)=Sum.inr (aq s):=λz=>h (gc (Sum.inr.inj z));simp only[jJ,gj,K9];rw[yK hne]
def zV{kvs:List (D×D)}{keys:List (Option Expr)}{vals:List Expr}{dp:Pos}(hj:JP kvs keys vals)(ha:JE G n sc N df m a xa)(hk:ir kvs=true:=by decide)(h0:keys≠[]:=by exact λh=>nomatch h)(GG:kvs.length<=15:=by decide)
  (J0:gR [] (jJ kvs)=jJ kvs:=by decide +kernel) (hs:v5 xa:=by intro _ _;rfl):JE G n sc N df m (.cV kvs a) (.Subscript (.Dict keys vals dp) xa pos):=λX g=>by
 obtain⟨gu,p1,p2,p3,p4,p5,p6⟩:=Ct (X:=X) (pos:=dp) hj;refine PE.of (zq (Ew g.room) (wQ p1 p3 p4 h0 (by omega)) (ha X g) hs) λs H Q q=>?_;obtain⟨r,fr,h,d,h',sr,hr,e,q⟩:=q;simp only[Ev.ev]at e;obtain⟨y,h1,e1,e2⟩:=Ev.ah e;obtain⟨e3,y0⟩:=Ev.av e2;subst y0;obtain⟨sx,rfl⟩:=j3 hk e3;obtain⟨t,rfl,ht,hl⟩:=pG hk e3;intro p hp hpk;have J1:p∉r:=λz=>by
  obtain⟨i,hi⟩:=LS z;have hlt:i<h.length:=by rw[<-hr.len];exact(List.getElem?_eq_some_iff.mp hi).1
  obtain⟨b,b1,b2⟩:=hr.ob i _ (j9 hlt);rw[hi]at b1;cases b1;cases eo:h[i]with
  |lst dd=>rw[eo]at b2;obtain⟨_,c,_⟩:=b2;rw[hp]at c;cases c
  |aW dd=>
   rw[eo]at b2;obtain⟨_,c,_⟩:=b2;rcases c with ⟨_,c⟩|⟨_,_,_,c,_⟩
   .rw[hp]at c;cases c
   .rw[hpk]at c;cases c
 refine p2 _ _ _ ⟨cU,jJ kvs,rfl,by omega,?_⟩;rw[yS,J0];refine⟨r,fr,h,.str sx,_,sr.mono (Fm.tup hp),hr.tup hp,e1,λv H2 r2 v2 hr2 f2=>?_⟩;simp only[RV]at v2;obtain⟨rfl,_⟩:=v2;exact⟨p,.str (aq t),rfl,.inl ⟨jJ kvs,Sum.inr (aq sx),.inl (f2.keep p _ cU J1),rfl,hl.symm⟩,q _ H2 r2 ⟨rfl,xE ht (by rw[Li];decide)⟩ hr2 ((Fm.tup hp).trans f2)⟩
end
end Sm
namespace Sm
open PySem PySem.Spec PyProof.Rows L2
open Ev (D O Hh Fr R aB E Es Eo It T S Ss Fl Src aS aJ TY BI ME)
end Sm
namespace Pv
open Ev (D aS aJ TY BI ME T E Es Eo It S Ss Fn big deep b2i rep bx cz aX aC cut aO bV slots)
def nd{α:Type _}{a b:α}(h:a=b):a=b:=h
inductive V where
 |bg|bl (b:Bool)|int (i:Int)|str (s:List Nat)|tup (l:List V)|lst (l:List V)|aW (l:List V)
inductive Sl where
 |val (v:V)|own (l:List V)|bor (l:List V)|ro (l:List V)
abbrev Fr:=List (Option Sl)
inductive R(α:Type) where
 |ok (a:α) (fr:Fr)
 |bad
noncomputable def R.bind{α β:Type}(r:R α)(f:α->Fr->R β):R β:=
 match r with
 |.ok a h=>f a h
 |.bad=>.bad
@[simp] theorem aj{α β:Type}(a:α)(h:Fr)(f:α->Fr->R β):(R.ok a h).bind f=f a h:=nd rfl
@[simp] theorem wc{α β:Type}(f:α->Fr->R β):(R.bad:R α).bind f=.bad:=nd rfl
def ah{α β:Type}{r:R α}{f:α->Fr->R β}{b:β}{h:Fr}(e:r.bind f=.ok b h):∃a h1,r=.ok a h1/\f a h1=.ok b h:=by
 cases r with
 |ok a h1=>exact⟨a,h1,rfl,e⟩
 |bad=>cases e
noncomputable def R.of{α:Type}(o:Option α)(h:Fr):R α:=match o with
 |some a=>.ok a h
 |none=>.bad
@[simp] theorem b9{α:Type}(a:α)(h:Fr):R.of (some a) h=.ok a h:=nd rfl
def av{α:Type}{o:Option α}{h h':Fr}{a:α}(e:R.of o h=.ok a h'):o=some a/\h'=h:=by
 cases o with
 |none=>cases e
 |some b=>cases e;exact⟨rfl,rfl⟩
inductive Fl where
 |nx|bk|ct|ret (v:V)
mutual
noncomputable def ofD:D->Option V
 |.bg=>some .bg
 |.bl b=>some (.bl b)
 |.int i=>some (.int i)
 |.str s=>some (.str s)
 |.tup ds=>(pH ds).map .tup
 |.ref _=>none
noncomputable def pH:List D->Option (List V)
 |[]=>some []
 |d :: ds=>(ofD d).bind λv=>(pH ds).map λvs=>v :: vs
end
noncomputable def bF(f:V->V->Option Bool):List V->List V->Option Bool
 |[],[]=>some true
 |x :: xs,y :: ys=>(f x y).bind λb=>(bF f xs ys).bind λc=>some (b&&c)
 |_,_=>some false
noncomputable def cj:Nat->V->V->Option Bool
 |0,_,_=>none
 |_+1,.bg,.bg=>some true
 |_+1,.bl a,.bl b=>some (a==b)
 |_+1,.int a,.int b=>some (a==b)
 |_+1,.bl a,.int b=>some (b2i a==b)
 |_+1,.int a,.bl b=>some (a==b2i b)
 |_+1,.str a,.str b=>some (a==b)
 |n+1,.tup a,.tup b=>bF (cj n) a b
 |n+1,.lst a,.lst b=>bF (cj n) a b
 |n+1,.aW a,.lst b=>bF (cj n) a b
 |n+1,.lst a,.aW b=>bF (cj n) a b
 |_+1,.aW _,.aW _=>none
 |_+1,_,_=>some false
noncomputable def truthy:V->Bool
 |.bg=>false
 |.bl b=>b
 |.int i=>i != 0
 |.str s=>!s.isEmpty
 |.tup ds=>!ds.isEmpty
 |.lst ds=>!ds.isEmpty
 |.aW ds=>!ds.isEmpty
noncomputable def di(l:List V):Option V:=if l.length<=big then some (.lst l)else none
noncomputable def fU(l:List V):Option V:=if l.length<=big then some (.tup l)else none
noncomputable def bG:aS->V->V->Option V
 |.add,.int i,.int j=>some (.int (i+j))
 |.add,.str a,.str b=>if a.length+b.length<=big then some (.str (a++b))else none
 |.add,.tup a,.tup b=>if a.length+b.length<=big then some (.tup (a++b))else none
 |.add,.lst a,.lst b=>di (a++b)
 |.sub,.int i,.int j=>some (.int (i - j))
 |.mul,.int i,.int j=>if bx i j then some (.int (i*j))else none
 |.mul,.str a,.int k=>if 0<=k/\k<=1000/\a.length<=1000 then some (.str (rep k.toNat a))else none
 |.mul,.tup a,.int k=>if 0<=k/\k<=1000/\a.length<=1000 then some (.tup (rep k.toNat a))else none
 |.mul,.lst a,.int k=>if 0<=k/\k<=1000/\a.length<=1000 then di (rep k.toNat a)else none
 |.fdiv,.int i,.int j=>if 0<j/\j<1073741824 then some (.int (i / j))else none
 |.mod,.int i,.int j=>if 0<j then some (.int (i % j))else none
 |_,_,_=>none
noncomputable def mem(x:V):List V->Option Bool
 |[]=>some false
 |y :: ys=>(cj deep y x).bind λb=>(mem x ys).bind λc=>some (b ||c)
noncomputable def isin(x y:V):Option Bool:=match y with
 |.str s=>match x with
  |.str [c]=>some (s.contains c)
  |_=>none
 |.tup ds=>mem x ds
 |.lst ds=>mem x ds
 |.aW ds=>mem x ds
 |_=>none
noncomputable def cop(o:aJ)(x y:V):Option Bool:=match o,x,y with
 |.eq,x,y=>cj deep x y
 |.ne,x,y=>(cj deep x y).map (!·)
 |.lt,.int i,.int j=>some (decide (i<j))
 |.le,.int i,.int j=>some (decide (i<=j))
 |.gt,.int i,.int j=>some (decide (j<i))
 |.ge,.int i,.int j=>some (decide (j<=i))
 |.isin,x,y=>isin x y
 |.cK,x,y=>(isin x y).map (!·)
 |_,_,_=>none
noncomputable def eH(x y:V):Option V:=match x,y with
 |.tup ds,.int i=>aX ds i
 |.str s,.int i=>(aX s i).map λc=>.str [c]
 |.lst ds,.int i=>aX ds i
 |.aW ds,.int i=>aX ds i
 |_,_=>none
noncomputable def fS(x:V)(lo hi:Option Int):Option V:=match x with
 |.tup ds=>some (.tup (cut ds lo hi))
 |.str s=>some (.str (cut s lo hi))
 |.lst ds=>di (cut ds lo hi)
 |.aW ds=>di (cut ds lo hi)
 |_=>none
noncomputable def toT:V->Option V
 |.tup l=>some (.tup l)
 |.lst l=>fU l
 |.aW l=>fU l
 |_=>none
noncomputable def bX:V->TY->Bool
 |.bl _,.bool=>true
 |.bl _,.int=>true
 |.int _,.int=>true
 |.str _,.str=>true
 |.tup _,.tuple=>true
 |.lst _,.list=>true
 |.aW _,.list=>true
 |_,_=>false
noncomputable def boolsOf:List V->Option (List Bool)
 |[]=>some []
 |.bl b :: ds=>(boolsOf ds).map λr=>b :: r
 |_=>none
noncomputable def intsOf:List V->Option (List Int)
 |[]=>some []
 |.int i :: ds=>(intsOf ds).map λr=>i :: r
 |_=>none
noncomputable def strsOf:List V->Option (List (List Nat))
 |[]=>some []
 |.str s :: ds=>(strsOf ds).map λr=>s :: r
 |_=>none
noncomputable def jK:V->Option (List V)
 |.lst l=>some l
 |.aW l=>some l
 |_=>none
noncomputable def cg(b:BI)(xs:List V):Option V:=match b,xs with
 |.len,[.str s]=>if s.length<=big then some (.int s.length)else none
 |.len,[.tup ds]=>some (.int ds.length)
 |.len,[x]=>(jK x).map λds=>.int ds.length
 |.all,[x]=>((jK x).bind boolsOf).map λbs=>.bl (bs.all id)
 |.sum,[x]=>((jK x).bind intsOf).map λis=>.int is.sum
 |.min,[.int i,.int j]=>some (.int (if j<i then j else i))
 |.oV,[.bl b]=>some (.int (if b then 1 else 0))
 |.dz,[.int i]=>if -1000000<i/\i<1000000 then some (.str (Ev.cW i))else none
 |.dz,[.str s]=>some (.str s)
 |.ig,[.str s]=>(Ev.jX s).map .int
 |_,_=>none
noncomputable def cT(m:ME)(o:V)(xs:List V):Option V:=match m,o,xs with
 |.join,.str sep,[x]=>((jK x).bind strsOf).bind λss=>if (ss.map (·.length)).sum+ss.length*sep.length<=big then some (.str (aO sep ss))else none
 |_,_,_=>none
noncomputable def jL(m:ME)(l:List V)(xs:List V):Option (V×List V):=match m,xs with
 |.append,[x]=>if l.length<big then some (.bg,l++[x])else none
 |.extend,[.lst es]=>if l.length+es.length<=big then some (.bg,l++es)else none
 |.pop,[]=>match l[l.length - 1]? with
  |some x=>some (x,l.dropLast)
  |none=>none
 |_,_=>none
noncomputable def uS:ME->Bool
 |.extend=>true
 |_=>false
noncomputable def fz:ME->Bool
 |.append=>true
 |.extend=>true
 |.pop=>true
 |_=>false
noncomputable def nN:V->Bool
 |.bg=>true
 |.bl _=>true
 |.int _=>true
 |.str _=>true
 |_=>false
noncomputable def sS(x:V):List (D×D)->Option V
 |[]=>none
 | (k,v) :: r=>match (ofD k).bind λk'=>cj 1 k' x with
  |some true=>ofD v
  |some false=>sS x r
  |none=>none
noncomputable def cu(x:V)(kvs:List (D×D)):Option V:=if nN x then sS x kvs else none
noncomputable def dO:V->Option (List V)
 |.tup ds=>some ds
 |.str s=>some (s.map λc=>.str [c])
 |.lst ds=>some ds
 |.aW ds=>some ds
 |_=>none
noncomputable def Cu:V->Option (List V)
 |.tup ds=>some ds
 |_=>none
noncomputable def range(lo:Int)(n:Nat):List V:=(List.range n).map λ(i:Nat)=>.int (lo+i)
noncomputable def cG:List V->Option (List V)
 |[.int j]=>if -(2 ^ 62)<=j/\j<2 ^ 62 then some (range 0 j.toNat)else none
 |[.int i,.int j]=>if -(2 ^ 62)<=i/\i<2 ^ 62/\-(2 ^ 62)<=j/\j<2 ^ 62 then some (range i (j - i).toNat)else none
 |_=>none
noncomputable def lY(x y:V):Option (List V):=match x,y with
 |.str a,.str [c]=>if c<128 then some ((Ev.aM c a).map .str)else none
 |_,_=>none
noncomputable def ee:Int->List V->List V
 |_,[]=>[]
 |k,x :: xs=>.tup [.int k,x] :: ee (k+1) xs
noncomputable def put(fr:Fr)(i:Nat)(s:Sl):Option Fr:=match fr[i]? with
 |some (some (.bor _))=>none
 |some (some (.ro _))=>none
 |_=>some (fr.set i (some s))
noncomputable def bM:List Nat->List V->Fr->Option Fr
 |[],[],fr=>some fr
 |i :: is,d :: ds,fr=>(put fr i (.val d)).bind (bM is ds)
 |_,_,_=>none
noncomputable def bD:T->V->Fr->Option Fr
 |.one i,d,fr=>put fr i (.val d)
 |.many l,.tup ds,fr=>bM l ds fr
 |_,_,_=>none
noncomputable def undef(t:T)(fr:Fr):Bool:=(slots t).all λi=>(fr[i]?.join).isNone
noncomputable def Sl.read:Sl->Sl
 |.own l=>.ro l
 |.bor l=>.ro l
 |s=>s
noncomputable def pI(fr:Fr):Fr:=fr.map (Option.map Sl.read)
noncomputable def Sl.fk:Sl->Sl
 |.own l=>.val (.lst l)
 |s=>s
noncomputable def gw(fr:Fr):Fr:=fr.map (Option.map Sl.fk)
noncomputable def Sl.walk:Sl->Sl
 |.own l=>.val (.lst l)
 |.bor l=>.ro l
 |s=>s
noncomputable def nR(is:List Nat)(fr:Fr):Fr:=is.foldl (λfr i=>match fr[i]? with
 |some (some s)=>fr.set i (some s.walk)
 |_=>fr) fr
noncomputable def Sl.out:Sl->Option (List V)
 |.bor l=>some l
 |.ro l=>some l
 |_=>none
noncomputable def Sl.lend:Sl->Option Sl
 |.own l=>some (.bor l)
 |.bor l=>some (.bor l)
 |.ro l=>some (.ro l)
 |.val _=>none
noncomputable def lent(fr:Fr)(i:Nat):Option Sl:=match fr[i]? with
 |some (some s)=>s.lend
 |_=>none
noncomputable def Sl.with:Sl->List V->Sl
 |.own _,l=>.own l
 |.bor _,l=>.bor l
 |s,_=>s
noncomputable def back:List Nat->List (List V)->Fr->Option Fr
 |[],[],fr=>some fr
 |i :: is,l :: ls,fr=>match fr[i]? with
  |some (some s)=>back is ls (fr.set i (some (s.with l)))
  |_=>none
 |_,_,_=>none
noncomputable def bz(f:V->Option (Option V)):List V->Option (List V)
 |[]=>some []
 |d :: ds=>(f d).bind λo=>(bz f ds).bind λr=>some (o.toList++r)
noncomputable def forL(f:V->Fr->R Fl):List V->Fr->R Fl
 |[],fr=>.ok .nx fr
 |d :: ds,fr=>(f d fr).bind λp af=>match p with
   |.nx=>forL f ds af
   |.ct=>forL f ds af
   |.bk=>.ok .nx af
   |.ret x=>.ok (.ret x) af
noncomputable def dU(t:Fr->R Bool)(f:Fr->R Fl):Nat->Fr->R Fl
 |0,_=>.bad
 |n+1,fr=>(t fr).bind λb af=>if b then (f af).bind λp ak=>match p with
   |.nx=>dU t f n ak
   |.ct=>dU t f n ak
   |.bk=>.ok .nx ak
   |.ret x=>.ok (.ret x) ak
  else .ok .nx af
noncomputable def gh:Es->List Nat
 |.nil=>[]
 |.cons (.v i) es=>i :: gh es
 |.cons _ es=>gh es
noncomputable def GI(m:ME):E->List Nat
 |.v i=>if fz m then [i]else []
 |_=>[]
mutual
noncomputable def aT:E->List Nat
 |.c _=>[]|.v _=>[]|.tup es=>dD es|.lst es=>dD es
 |.bin _ a b=>aT a++aT b|.cmp _ a b=>aT a++aT b
 |.ch _ _ a b c=>aT a++(aT b++aT c)
 |.nt a=>aT a|.neg a=>aT a|.an a b=>aT a++aT b|.orr a b=>aT a++aT b|.qP t a b=>aT t++(aT a++aT b)
 |.ix a b=>aT a++aT b|.sl a lo hi=>aT a++(gF lo++gF hi)
 |.cl _ es=>dD es++gh es|.bi _ es=>dD es|.me m o es=>aT o++(dD es++GI m o)
 |.dB a _=>aT a
 |.comp _ _ it _=>wR it
 |.fR it=>wR it
 |.cV _ a=>aT a
 |.iG a=>aT a
noncomputable def dD:Es->List Nat
 |.nil=>[]
 |.cons e es=>aT e++dD es
noncomputable def gF:Eo->List Nat
 |.no=>[]
 |.yes e=>aT e
noncomputable def wR:It->List Nat
 |.seq e=>aT e|.eF es=>dD es
 |.gS a b=>aT a++aT b
 |.enum a=>aT a|.rev a=>aT a
end
noncomputable def kf(a:E)(l:List Nat):Bool:=match a with
 |.v i=>!l.contains i
 |_=>l.isEmpty
noncomputable def itv:It->List Nat
 |.seq (.v i)=>[i]
 |.enum (.v i)=>[i]
 |.rev (.v i)=>[i]
 |_=>[]
abbrev aB:=Nat->List Sl->Option (V×List (List V))
noncomputable def intOf:V->Option Int
 |.int i=>some i
 |_=>none
noncomputable def lZ(k:Bool)(fr:Fr)(i:Nat):Option V:=match fr[i]? with
 |some (some (.val v))=>some v
 |some (some (.own l))=>if k then some (.lst l)else none
 |some (some (.bor l))=>if k then some (.lst l)else none
 |some (some (.ro l))=>if k then some (.lst l)else none
 |_=>none
noncomputable def sU(k:Bool)(fr:Fr)(i:Nat):Option V:=match fr[i]? with
 |some (some (.ro l))=>some (.lst l)
 |_=>lZ k fr i
noncomputable def src(k:Bool)(fr:Fr)(e:E)(r:R V):R V:=match e with
 |.v i=>R.of (sU k fr i) fr
 |_=>r
noncomputable def gT(fr:Fr):E->Option Nat
 |.v i=>if (lent fr i).isSome then some i else none
 |_=>none
noncomputable def args(fr:Fr):List (Nat ⊕ V)->Option (List Sl)
 |[]=>some []
 |.inl i :: r=>(lent fr i).bind λs=>(args fr r).map λl=>s :: l
 |.inr v :: r=>(args fr r).map λl=>.val v :: l
noncomputable def bf:List (Nat ⊕ V)->List Nat
 |[]=>[]
 |.inl i :: r=>i :: bf r
 |.inr _ :: r=>bf r
noncomputable def eV(P:aB)(f:Nat)(as:List (Nat ⊕ V))(fr:Fr):R V:=
 if (bf as).Nodup then match args fr as with
  |some sl=>match P f sl with
   |some (v,outs)=>R.of ((back (bf as) outs fr).map λaf=>(v,af)) fr |>.bind λp _=>.ok p.1 p.2
   |none=>.bad
  |none=>.bad
 else .bad
mutual
noncomputable def ev(P:aB):Bool->E->Fr->R V
 |_,.c d,fr=>R.of (ofD d) fr
 |k,.v i,fr=>R.of (lZ k fr i) fr
 |_,.tup es,fr=>(br P false es fr).bind λds af=>R.of (fU ds) af
 |_,.lst es,fr=>(br P false es fr).bind λds af=>R.of (di ds) af
 |_,.bin o a b,fr=>(ev P (kf a (aT b)) a fr).bind λx af=>(ev P true b af).bind λy ak=>R.of (bG o x y) ak
 |_,.cmp o a b,fr=>(ev P (kf a (aT b)) a fr).bind λx af=>(ev P true b af).bind λy ak=>R.of ((cop o x y).map .bl) ak
 |_,.ch o p a b c,fr=>(ev P (kf a (aT b)) a fr).bind λx af=>(ev P (kf b (aT c)) b af).bind λy ak=>(R.of (cop o x y) ak).bind λk bE=>
   if k then (ev P true c bE).bind λz dX=>R.of ((cop p y z).map .bl) dX else .ok (.bl false) bE
 |_,.nt a,fr=>(ev P true a fr).bind λx af=>match x with
   |.bl b=>.ok (.bl (!b)) af
   |_=>.bad
 |_,.neg a,fr=>(ev P true a fr).bind λx af=>match x with
   |.int i=>.ok (.int (-i)) af
   |_=>.bad
 |k,.an a b,fr=>(ev P true a fr).bind λx af=>match x with
   |.bl true=>ev P k b af
   |.bl false=>.ok (.bl false) af
   |_=>.bad
 |k,.orr a b,fr=>(ev P true a fr).bind λx af=>match x with
   |.bl true=>.ok (.bl true) af
   |.bl false=>ev P k b af
   |_=>.bad
 |k,.qP t a b,fr=>(aD P t fr).bind λc af=>if c then ev P k a af else ev P k b af
 |_,.ix a b,fr=>(ev P (kf a (aT b)) a fr).bind λx af=>(ev P true b af).bind λy ak=>R.of (eH x y) ak
 |_,.sl a lo hi,fr=>(ev P (kf a (gF lo++gF hi)) a fr).bind λx af=>(dc P lo af).bind λl ak=>(dc P hi ak).bind λu bE=>R.of (fS x l u) bE
 |_,.cl f es,fr=>(dj P es fr).bind λas af=>eV P f as af
 |_,.bi b es,fr=>(br P true es fr).bind λds af=>R.of (cg b ds) af
 |_,.me m o es,fr=>if fz m then match gT fr o with
   |some i=>(br P (uS m) es fr).bind λds af=>match af[i]? with
    |some (some (.own l))=>match jL m l ds with
     |some (v,l')=>.ok v (af.set i (some (.own l')))
     |none=>.bad
    |some (some (.bor l))=>match jL m l ds with
     |some (v,l')=>.ok v (af.set i (some (.bor l')))
     |none=>.bad
    |_=>.bad
   |none=>.bad
  else (ev P (kf o (dD es)) o fr).bind λx af=>(br P true es af).bind λds ak=>R.of (cT m x ds) ak
 |_,.dB a ts,fr=>(ev P true a fr).bind λx af=>.ok (.bl (ts.any (bX x))) af
 |_,.comp elt t it cond,fr=>(bO P true it fr).bind λs af=>if undef t af then
   R.of ((bz (λd=>match bD t d (pI af)with
    |none=>none
    |some ak=>match fT P cond ak with
     |.ok c _=>if c then (match ev P false elt ak with|.ok x _=>some (some x)|.bad=>none)else some none
     |.bad=>none) s).bind di) af else .bad
 |_,.fR it,fr=>(bO P true it fr).bind λs af=>R.of (di s) af
 |_,.cV kvs a,fr=>(ev P true a fr).bind λx af=>R.of (cu x kvs) af
 |_,.iG a,fr=>(ev P true a fr).bind λx af=>R.of (toT x) af
termination_by _ e=>(sizeOf e,0)
noncomputable def br(P:aB):Bool->Es->Fr->R (List V)
 |_,.nil,fr=>.ok [] fr
 |k,.cons e es,fr=>(ev P (k&&kf e (dD es)) e fr).bind λd af=>(br P k es af).bind λds ak=>.ok (d :: ds) ak
termination_by _ e=>(sizeOf e,0)
noncomputable def dj(P:aB):Es->Fr->R (List (Nat ⊕ V))
 |.nil,fr=>.ok [] fr
 |.cons e es,fr=>match gT fr e with
   |some i=>(dj P es fr).bind λr af=>.ok (.inl i :: r) af
   |none=>(ev P false e fr).bind λd af=>(dj P es af).bind λr ak=>.ok (.inr d :: r) ak
termination_by e=>(sizeOf e,0)
noncomputable def dc(P:aB):Eo->Fr->R (Option Int)
 |.no,fr=>.ok none fr
 |.yes e,fr=>(ev P true e fr).bind λd af=>R.of ((intOf d).map some) af
termination_by e=>(sizeOf e,0)
noncomputable def fT(P:aB):Eo->Fr->R Bool
 |.no,fr=>.ok true fr
 |.yes e,fr=>aD P e fr
termination_by e=>(sizeOf e,0)
noncomputable def aD(P:aB):E->Fr->R Bool
 |.an a b,fr=>(aD P a fr).bind λk af=>if k then aD P b af else .ok false af
 |.orr a b,fr=>(aD P a fr).bind λk af=>if k then .ok true af else aD P b af
 |.nt a,fr=>(aD P a fr).bind λk af=>.ok (!k) af
 |e,fr=>(ev P true e fr).bind λx af=>.ok (truthy x) af
termination_by e=>(sizeOf e,1)
noncomputable def bO(P:aB):Bool->It->Fr->R (List V)
 |k,.seq e,fr=>(src k fr e (ev P k e fr)).bind λx af=>R.of (dO x) af
 |_,.eF es,fr=>(br P true es fr).bind λds af=>R.of (cG ds) af
 |_,.gS a b,fr=>(ev P (kf a (aT b)) a fr).bind λx af=>(ev P true b af).bind λy ak=>R.of (lY x y) ak
 |k,.enum a,fr=>(src k fr a (ev P k a fr)).bind λx af=>R.of ((jK x).map λs=>ee 0 s) af
 |_,.rev a,fr=>(ev P true a fr).bind λx af=>R.of ((Cu x).map λs=>s.reverse) af
termination_by _ e=>(sizeOf e,0)
end
noncomputable def isNew:E->Bool
 |.lst _=>true
 |.fR _=>true
 |_=>false
mutual
noncomputable def ex(P:aB)(w:Nat):S->Fr->R Fl
 |.set i e,fr=>(ev P false e fr).bind λx af=>if isNew e then (match x with
   |.lst l=>(R.of (put af i (.own l)) af).bind λak _=>.ok .nx ak
   |_=>.bad)
  else (R.of (put af i (.val x)) af).bind λak _=>.ok .nx ak
 |.sC l e,fr=>(ev P false e fr).bind λx af=>(R.of (bD (.many l) x af) af).bind λak _=>.ok .nx ak
 |.exp e,fr=>(ev P true e fr).bind λ_ af=>.ok .nx af
 |.ret e,fr=>(ev P false e (gw fr)).bind λx af=>.ok (.ret x) af
 |.iff t a b,fr=>(aD P t fr).bind λk af=>if k then exs P w a af else exs P w b af
 |.for t it b,fr=>(bO P false it (nR (itv it) fr)).bind λs af=>forL (λd ak=>match bD t d ak with
   |some bE=>exs P w b bE
   |none=>.bad) s af
 |.Bt t b,fr=>dU (λak=>aD P t ak) (λak=>exs P w b ak) w fr
 |.cZ _,_=>.bad
noncomputable def exs(P:aB)(w:Nat):Ss->Fr->R Fl
 |.nil,fr=>.ok .nx fr
 |.cons s ss,fr=>(ex P w s fr).bind λp af=>match p with
   |.nx=>exs P w ss af
   |p=>.ok p af
end
noncomputable def cL(fn:Fn)(ds:List Sl):Fr:=ds.map some++List.replicate (fn.ns - fn.np) none
noncomputable def outs(np:Nat)(fr:Fr):List (List V):=(fr.take np).filterMap λo=>o.bind Sl.out
noncomputable def Cv(_:Fn)(_:List Sl):Option (V×List (List V)):=none
noncomputable def run(F:List Fn)(w:Nat):Nat->aB
 |0,_,_=>none
 |n+1,f,ds=>match F[f]? with
  |some fn=>if ds.length=fn.np then match exs (run F w n) w fn.body (cL fn ds)with
    |.ok (.ret v) fr=>some (v,outs fn.np fr)
    |.ok .nx fr=>some (.bg,outs fn.np fr)
    |_=>Cv fn ds
   else none
  |none=>none
def ku(F:List Fn)(w n f:Nat)(ds:List Sl):run F w (n+1) f ds=match F[f]? with
  |some fn=>if ds.length=fn.np then match exs (run F w n) w fn.body (cL fn ds)with
    |.ok (.ret v) fr=>some (v,outs fn.np fr)
    |.ok .nx fr=>some (.bg,outs fn.np fr)
    |_=>Cv fn ds
   else none
  |none=>none:=nd rfl
end Pv
namespace Pv
open Ev (D O Hh aS aJ TY BI ME T E Es Eo It S Ss Fn big deep b2i rep bx cz aX aC cut aO bV slots aI)
section
variable(h:Hh)(S:Nat->Prop)
mutual
noncomputable def Rep:V->D->Prop
 |.bg,d=>d=.bg
 |.bl b,d=>d=.bl b
 |.int i,d=>d=.int i
 |.str s,d=>d=.str s
 |.tup l,d=>∃ds,d=.tup ds/\ao l ds
 |.lst l,d=>∃n ds,d=.ref n/\S n/\h[n]?=some (.lst ds)/\ao l ds
 |.aW l,d=>∃n ds,d=.ref n/\S n/\h[n]?=some (.aW ds)/\ao l ds
noncomputable def ao:List V->List D->Prop
 |[],ds=>ds=[]
 |v :: vs,ds=>∃d es,ds=d :: es/\Rep v d/\ao vs es
end
noncomputable def aK:V->D->Prop
 |.lst l,d=>∃n ds,d=.ref n/\h[n]?=some (.lst ds)/\ao h S l ds
 |v,d=>Rep h S v d
noncomputable def dm:List V->List D->Prop
 |[],ds=>ds=[]
 |v :: vs,ds=>∃d es,ds=d :: es/\aK h S v d/\dm vs es
end
abbrev U:Nat->Prop:=λ_=>True
section
variable{h h':Hh}{S S':Nat->Prop}
mutual
theorem Rep.mono(f:∀m,S m->h'[m]?=h[m]?)(g:∀m,S m->S' m):∀{v:V}{d:D},Rep h S v d->Rep h' S' v d
 |.bg,_,q=>q
 |.bl _,_,q=>q
 |.int _,_,q=>q
 |.str _,_,q=>q
 |.tup l,_,⟨ds,a,b⟩=>⟨ds,a,ao.mono f g b⟩
 |.lst l,_,⟨n,ds,a,b,c,e⟩=>⟨n,ds,a,g n b,by rw[f n b];exact c,ao.mono f g e⟩
 |.aW l,_,⟨n,ds,a,b,c,e⟩=>⟨n,ds,a,g n b,by rw[f n b];exact c,ao.mono f g e⟩
theorem ao.mono(f:∀m,S m->h'[m]?=h[m]?)(g:∀m,S m->S' m):∀{v:List V}{d:List D},ao h S v d->ao h' S' v d
 |[],_,q=>q
 |_ :: _,_,⟨d,es,a,b,c⟩=>⟨d,es,a,Rep.mono f g b,ao.mono f g c⟩
end
def ao.nil:ao h S [] []:=by simp[ao]
def ao.cons{v:V}{d:D}{vs:List V}{ds:List D}(a:Rep h S v d)(b:ao h S vs ds):ao h S (v :: vs) (d :: ds):=by simp only[ao];exact⟨d,ds,rfl,a,b⟩
def Rep.top{v:V}{d:D}(q:Rep h S v d):aK h S v d:=by
 cases v<;>first|exact q | (obtain⟨n,ds,a,b,c,e⟩:=q;exact⟨n,ds,a,c,e⟩)
def aK.u{v:V}{d:D}(q:aK h S v d):Rep h U v d:=by
 cases v with
 |lst l=>obtain⟨n,ds,a,b,c⟩:=q;exact⟨n,ds,a,trivial,b,c.mono (λ_ _=>rfl) λ_ _=>trivial⟩
 |_=>exact Rep.mono (S:=S) (λ_ _=>rfl) (λ_ _=>trivial) q
def ao.u{v:List V}{d:List D}(q:ao h S v d):ao h U v d:=q.mono (λ_ _=>rfl) λ_ _=>trivial
theorem aK.mono{v:V}{d:D}(f:∀m,m<h.length->h'[m]?=h[m]?)(k:∀m,S m->m<h.length)(g:∀m,S m->S' m)(q:aK h S v d):aK h' S' v d:=by
 cases v with
 |lst l=>
  obtain⟨n,ds,a,b,c⟩:=q;exact⟨n,ds,a,by rw[f n (List.getElem?_eq_some_iff.mp b).1];exact b,c.mono (λm z=>f m (k m z)) g⟩
 |_=>exact Rep.mono (λm z=>f m (k m z)) g q
theorem ao.length:∀{v:List V}{d:List D},ao h S v d->v.length=d.length
 |[],_,q=>by simp only[ao]at q;subst q;rfl
 |_ :: _,_,q=>by simp only[ao]at q;obtain⟨d,es,rfl,_,c⟩:=q;simp[c.length]
theorem ao.get:∀{v:List V}{d:List D}{i:Nat}{x:V},ao h S v d->v[i]?=some x->∃y,d[i]?=some y/\Rep h S x y
 |[],_,_,_,_,e=>by simp at e
 |_ :: _,_,0,_,q,e=>by
  simp only[ao]at q;obtain⟨d,es,rfl,b,_⟩:=q;simp at e;subst e;exact⟨d,by simp,b⟩
 |_ :: _,_,i+1,_,q,e=>by
  simp only[ao]at q;obtain⟨d,es,rfl,_,c⟩:=q;obtain⟨y,a,b⟩:=c.get (i:=i) (by simpa using e);exact⟨y,by simpa using a,b⟩
theorem ao.append:∀{v w:List V}{d e:List D},ao h S v d->ao h S w e->ao h S (v++w) (d++e)
 |[],_,_,_,a,b=>by simp only[ao]at a;subst a;simpa using b
 |_ :: _,_,_,_,a,b=>by
  simp only[ao]at a;obtain⟨d,es,rfl,x,y⟩:=a;exact .cons x (y.append b)
theorem ao.take:∀{v:List V}{d:List D}(n:Nat),ao h S v d->ao h S (v.take n) (d.take n)
 |_,_,0,_=>by simp[ao]
 |[],_,_+1,a=>by simp only[ao]at a;subst a;simp[ao]
 |_ :: _,_,n+1,a=>by
  simp only[ao]at a;obtain⟨d,es,rfl,x,y⟩:=a;simp only[Lh];exact .cons x (y.take n)
theorem ao.drop:∀{v:List V}{d:List D}(n:Nat),ao h S v d->ao h S (v.drop n) (d.drop n)
 |_,_,0,a=>by simpa using a
 |[],_,_+1,a=>by simp only[ao]at a;subst a;simp[ao]
 |_ :: _,_,n+1,a=>by
  simp only[ao]at a;obtain⟨d,es,rfl,x,y⟩:=a;simp only[LV];exact y.drop n
theorem ao.dropLast:∀{v:List V}{d:List D},ao h S v d->ao h S v.dropLast d.dropLast:=λ{v d} a=>by
 rw[Lm,Lm,a.length];exact a.take _
theorem ao.reverse:∀{v:List V}{d:List D},ao h S v d->ao h S v.reverse d.reverse
 |[],_,a=>by simp only[ao]at a;subst a;simp[ao]
 |_ :: _,_,a=>by
  simp only[ao]at a;obtain⟨d,es,rfl,x,y⟩:=a;simp only[List.reverse_cons];exact y.reverse.append (.cons x .nil)
theorem ao.rep{v:List V}{d:List D}(a:ao h S v d):∀k:Nat,ao h S (Ev.rep k v) (Ev.rep k d)
 |0=>by simp[Ev.rep,ao]
 |k+1=>by
  have z:=ao.rep a k;simp only[Ev.rep,DI,Je]at z ⊢;exact a.append z
theorem ao.cut{v:List V}{d:List D}(a:ao h S v d)(lo hi:Option Int):ao h S (Ev.cut v lo hi) (Ev.cut d lo hi):=by
 unfold Ev.cut;rw[a.length];exact(a.drop _).take _
theorem ao.map{α:Type}{f:α->V}{g:α->D}(q:∀a,Rep h S (f a) (g a)):∀l:List α,ao h S (l.map f) (l.map g)
 |[]=>.nil
 |_ :: l=>.cons (q _) (ao.map q l)
mutual
theorem Rep.uniq:∀{v w:V}{d:D},Rep h U v d->Rep h U w d->v=w
 |.bg,w,_,a,b=>by simp only[Rep]at a;subst a;cases w<;>simp[Rep]at b<;>rfl
 |.bl _,w,_,a,b=>by simp only[Rep]at a;subst a;cases w<;>simp[Rep]at b<;>rw[b]
 |.int _,w,_,a,b=>by simp only[Rep]at a;subst a;cases w<;>simp[Rep]at b<;>rw[b]
 |.str _,w,_,a,b=>by simp only[Rep]at a;subst a;cases w<;>simp[Rep]at b<;>rw[b]
 |.tup l,w,_,a,b=>by
  simp only[Rep]at a;obtain⟨ds,rfl,a⟩:=a;cases w<;>simp[Rep]at b
  rw[ao.uniq a b]
 |.lst l,w,_,a,b=>by
  simp only[Rep]at a;obtain⟨n,ds,rfl,_,a1,a⟩:=a;cases w<;>simp[Rep]at b
  .obtain⟨ds',b1,b⟩:=b;rw[a1]at b1;cases b1;rw[ao.uniq a b]
  .obtain⟨ds',b1,b⟩:=b;rw[a1]at b1;cases b1
 |.aW l,w,_,a,b=>by
  simp only[Rep]at a;obtain⟨n,ds,rfl,_,a1,a⟩:=a;cases w<;>simp[Rep]at b
  .obtain⟨ds',b1,b⟩:=b;rw[a1]at b1;cases b1
  .obtain⟨ds',b1,b⟩:=b;rw[a1]at b1;cases b1;rw[ao.uniq a b]
theorem ao.uniq:∀{v w:List V}{d:List D},ao h U v d->ao h U w d->v=w
 |[],w,_,a,b=>by simp only[ao]at a;subst a;cases w<;>simp[ao]at b;rfl
 |x :: xs,w,_,a,b=>by
  simp only[ao]at a;obtain⟨d,es,rfl,a1,a2⟩:=a;cases w<;>simp only[ao]at b
  .cases b
  obtain⟨d',es',e,b1,b2⟩:=b;cases e;rw[Rep.uniq a1 b1,ao.uniq a2 b2]
end
theorem pJ{n:Nat}(f:∀v b,cj n v v=some b->b=true):∀l b,bF (cj n) l l=some b->b=true
 |[],b,e=>by simp[bF]at e;exact e
 |x :: xs,b,e=>by
  simp only[bF,bL]at e;obtain⟨c,e1,c2,e2,e⟩:=e;rw[f x c e1,pJ f xs c2 e2]at e;simpa using e.symm
theorem pK:∀n v b,cj n v v=some b->b=true
 |0,_,_,e=>by cases e
 |n+1,v,b,e=>by
  cases v<;>first|exact pJ (pK n) _ _ e | (cases e<;>first|rfl|exact MW _)
theorem pL{n:Nat}(f:∀{v w:V}{d e:D}{b},cj n v w=some b->Rep h U v d->Rep h U w e->Ev.dS h n d e=some b):∀{l m:List V}{ds es:List D}{b},bF (cj n) l m=some b->ao h U l ds->ao h U m es->Ev.bF (Ev.dS h n) ds es=some b
 |[],[],_,_,b,e,p,q=>by simp only[ao]at p q;subst p q;simpa[bF,Ev.bF]using e
 |[],_ :: _,_,_,b,e,p,q=>by simp only[ao]at p q;subst p;obtain⟨_,_,rfl,_⟩:=q;simpa[bF,Ev.bF]using e
 |_ :: _,[],_,_,b,e,p,q=>by simp only[ao]at p q;subst q;obtain⟨_,_,rfl,_⟩:=p;simpa[bF,Ev.bF]using e
 |x :: xs,y :: ys,_,_,b,e,p,q=>by
  simp only[ao]at p q;obtain⟨d,ds,rfl,p1,p2⟩:=p;obtain⟨d',ds',rfl,q1,q2⟩:=q;simp only[bF,bL]at e;obtain⟨c,e1,c2,e2,e⟩:=e;simp[Ev.bF,f e1 p1 q1,pL f e2 p2 q2];simpa using e
def eB{n:Nat}{ds:List D}(q:h[n]?=some (.lst ds)):aI h n=some ds:=by simp[aI,q]
def eW{n:Nat}{ds:List D}(q:h[n]?=some (.aW ds)):aI h n=some ds:=by simp[aI,q]
theorem gm:∀(n:Nat) {v w:V}{d e:D}{b},cj n v w=some b->Rep h U v d->Rep h U w e->Ev.dS h n d e=some b
  |0,_,_,_,_,_,e,_,_=>by cases e
  |n+1,v,w,d,e,b,x,p,q=>by
    by_cases hr:∃m,d=.ref m/\e=.ref m
    . obtain⟨m,rfl,rfl⟩:=hr;have hvw:=p.uniq q;subst hvw;have hb:=pK _ _ _ x;subst hb;cases v<;>simp[Rep]at p
      . obtain⟨ds,p1,p2⟩:=p;show Ev.gk _ _ _ _=_;rw[Ev.gk,eO rfl,eB p1];rfl
      . obtain⟨ds,p1,p2⟩:=p;show Ev.gk _ _ _ _=_;rw[Ev.gk,eO rfl,eW p1];rfl
    . cases v<;>cases w<;>simp only[Rep]at p q <;>
      first
      | (subst p;subst q;exact x)
      | (obtain⟨ds,rfl,p⟩:=p;subst q;exact x)
      | (obtain⟨ds,rfl,q⟩:=q;subst p;exact x)
      | (obtain⟨ds,rfl,p⟩:=p;obtain⟨es,rfl,q⟩:=q;exact pL (λa b c=>gm n a b c) x p q)
      | (cases x;done)
      | (obtain⟨m,ds,rfl,_,p1,p⟩:=p;obtain⟨k,es,rfl,_,q1,q⟩:=q
         have hne:m≠k:=λz=>hr ⟨m,rfl,by rw[z]⟩;show Ev.gk _ _ _ _=_;rw[Ev.gk,yL hne,p1,q1];exact pL (λa b c=>gm n a b c) x p q)
      | (cases x;obtain⟨m,ds,rfl,_,p1,p⟩:=p;subst q;exact AD (Option.map λ_=>false) (eB p1))
      | (cases x;obtain⟨m,ds,rfl,_,p1,p⟩:=p;subst q;exact AD (Option.map λ_=>false) (eW p1))
      | (cases x;obtain⟨m,ds,rfl,_,p1,p⟩:=p;obtain⟨es,rfl,q⟩:=q;exact AD (Option.map λ_=>false) (eB p1))
      | (cases x;obtain⟨m,ds,rfl,_,p1,p⟩:=p;obtain⟨es,rfl,q⟩:=q;exact AD (Option.map λ_=>false) (eW p1))
      | (cases x;obtain⟨m,ds,rfl,_,q1,q⟩:=q;subst p;exact AD (Option.map λ_=>false) (eB q1))
      | (cases x;obtain⟨m,ds,rfl,_,q1,q⟩:=q;subst p;exact AD (Option.map λ_=>false) (eW q1))
      | (cases x;obtain⟨m,ds,rfl,_,q1,q⟩:=q;obtain⟨es,rfl,p⟩:=p;exact AD (Option.map λ_=>false) (eB q1))
      | (cases x;obtain⟨m,ds,rfl,_,q1,q⟩:=q;obtain⟨es,rfl,p⟩:=p;exact AD (Option.map λ_=>false) (eW q1))
end
structure Al(h:Hh)(S:Nat->Prop)(h':Hh)(S':Nat->Prop):Prop where
 len:h.length<=h'.length
 keep:∀m,m<h.length->h'[m]?=h[m]?
 sub:∀m,S m->S' m
 new:∀m,S' m->S m\/(h.length<=m/\m<h'.length)
section
variable{h h':Hh}{S S':Nat->Prop}
def Al.refl:Al h S h S:=⟨gV _,λ_ _=>rfl,λ_ q=>q,λ_ q=>.inl q⟩
def Al.snoc(o:O):Al h S (h++[o]) (λm=>S m\/m=h.length) where
 len:=by simp
 keep:=λm q=>by rw[dJ q]
 sub:=λ_ q=>.inl q
 new:=λm q=>by
  rcases q with q|q
  .exact .inl q
  .subst q;exact .inr ⟨gV _,by simp⟩
def gn{l:List V}{v:V}{ds:List D}(w:∀m,S m->m<h.length)(e:di l=some v)(q:ao h S l ds):∃r h' S',Ev.alloc ds h=.ok r h'/\Rep h' S' v r/\Al h S h' S':=by
 unfold di at e;split at e
 .rename_i z;cases e;refine⟨.ref h.length,h++[.lst ds],λm=>S m\/m=h.length,by unfold Ev.alloc;rw[eO (by rw[<-q.length];exact z)],?_,Al.snoc _⟩;simp only[Rep];refine⟨h.length,ds,rfl,.inr rfl,by simp,q.mono (λm z=>?_) λ_ z=>.inl z⟩;rw[dJ (w m z)]
 .cases e
def iX{v:V}{l:List V}{d:D}(e:jK v=some l)(q:aK h S v d):∃n ds,d=.ref n/\aI h n=some ds/\ao h S l ds:=by
 cases v<;>simp[jK]at e
 .subst e;simp only[aK]at q;obtain⟨n,ds,rfl,a,b⟩:=q;exact⟨n,ds,rfl,eB a,b⟩
 .subst e;simp only[aK,Rep]at q;obtain⟨n,ds,rfl,_,a,b⟩:=q;exact⟨n,ds,rfl,eW a,b⟩
mutual
theorem iY:∀{d:D}{v:V},ofD d=some v->Rep h S v d
 |.bg,_,e=>by simp[ofD]at e;subst e;simp[Rep]
 |.bl _,_,e=>by simp[ofD]at e;subst e;simp[Rep]
 |.int _,_,e=>by simp[ofD]at e;subst e;simp[Rep]
 |.str _,_,e=>by simp[ofD]at e;subst e;simp[Rep]
 |.ref _,_,e=>by simp[ofD]at e
 |.tup ds,_,e=>by
  simp[ofD]at e;obtain⟨vs,e,rfl⟩:=e;exact⟨ds,rfl,rE e⟩
theorem rE:∀{d:List D}{v:List V},pH d=some v->ao h S v d
 |[],_,e=>by simp[pH]at e;subst e;exact .nil
 |d :: ds,_,e=>by
  simp only[pH,bL,bC]at e;obtain⟨v,e1,vs,e2,rfl⟩:=e;exact .cons (iY e1) (rE e2)
end
def ao.emp{l:List V}{ds:List D}(q:ao h S l ds):ds.isEmpty=l.isEmpty:=by
 have:=q.length;cases l<;>cases ds<;>simp at this ⊢
def uT{v:V}{d:D}(q:aK h S v d):Ev.truthy h d=some (truthy v):=by
 cases v<;>simp only[aK,Rep]at q
 .subst q;rfl
 .subst q;rfl
 .subst q;rfl
 .subst q;rfl
 .obtain⟨ds,rfl,q⟩:=q;simp only[Ev.truthy,truthy,q.emp]
 .obtain⟨n,ds,rfl,a,q⟩:=q;simp only[Ev.truthy,truthy,eB a,Option.map,q.emp];first|done|rw[a]
 .obtain⟨n,ds,rfl,_,a,q⟩:=q;simp only[Ev.truthy,truthy,eW a,Option.map,q.emp];first|done|rw[a]
def nn{α:Type}{v:α}{p:Prop}(z:none=some v):p:=Option.noConfusion rfl (heq_of_eq z)
def Cw{o:aS}{x y v:V}{d e:D}(w:∀m,S m->m<h.length)(z:bG o x y=some v)(p:aK h S x d)(q:aK h S y e):∃r h' S',Ev.bG o d e h=.ok r h'/\Rep h' S' v r/\Al h S h' S':=by
 cases o<;>cases x<;>first|exact nn z | (cases y<;>first|exact nn z|skip)
 all_goals (delta bG at z;dsimp only at z;simp only[aK,Rep]at p q)
 .subst p q;cases z;exact⟨_,_,S,rfl,rfl,.refl⟩
 .subst p q;split at z
  .rename_i k;cases z;exact⟨_,_,S,by delta Ev.bG;dsimp only;rw[eO k],rfl,.refl⟩
  .cases z
 .obtain⟨ds,rfl,p⟩:=p;obtain⟨es,rfl,q⟩:=q;split at z
  .rename_i k;cases z;exact⟨_,_,S,by delta Ev.bG;dsimp only;rw[eO (by rw[<-p.length,<-q.length];exact k)],⟨_,rfl,p.append q⟩,.refl⟩
  .cases z
 .obtain⟨n,ds,rfl,a,p⟩:=p;obtain⟨m,es,rfl,b,q⟩:=q
  delta Ev.bG;dsimp only;simp only[a,b]
  exact gn w z (p.append q)
 .subst p q;cases z;exact⟨_,_,S,rfl,rfl,.refl⟩
 .subst p q;split at z
  .rename_i k;cases z;exact⟨_,_,S,by delta Ev.bG;dsimp only;rw[eO k],rfl,.refl⟩
  .cases z
 .subst p q;split at z
  .rename_i k;cases z;exact⟨_,_,S,by delta Ev.bG;dsimp only;rw[eO k],rfl,.refl⟩
  .cases z
 .obtain⟨ds,rfl,p⟩:=p;subst q;split at z
  .rename_i k;cases z;exact⟨_,_,S,by delta Ev.bG;dsimp only;rw[eO (by rw[<-p.length];exact k)],⟨_,rfl,p.rep _⟩,.refl⟩
  .cases z
 .obtain⟨n,ds,rfl,a,p⟩:=p;subst q;split at z
  .rename_i k
   delta Ev.bG;dsimp only;simp only[a]
   rw[eO (by rw[<-p.length];exact k)];exact gn w z (p.rep _)
  .cases z
 .subst p q;split at z
  .rename_i k;cases z;exact⟨_,_,S,by delta Ev.bG;dsimp only;rw[eO k],rfl,.refl⟩
  .cases z
 .subst p q;split at z
  .rename_i k;cases z;exact⟨_,_,S,by delta Ev.bG;dsimp only;rw[eO k],rfl,.refl⟩
  .cases z
theorem kH{x:V}{d:D}(p:Rep h U x d):∀{l:List V}{ds:List D}{b},mem x l=some b->ao h U l ds->Ev.mem h d ds=some b
 |[],_,b,e,q=>by simp only[ao]at q;subst q;simpa[mem,Ev.mem]using e
 |y :: ys,_,b,e,q=>by
  simp only[ao]at q;obtain⟨d',ds,rfl,q1,q2⟩:=q;simp only[mem,bL]at e;obtain⟨c,e1,c2,e2,e⟩:=e;simp[Ev.mem,gm deep e1 q1 p,kH p e2 q2];simpa using e
def rF{x y:V}{d e:D}{b:Bool}(z:isin x y=some b)(p:Rep h U x d)(q:Rep h U y e):Ev.isin d e h=some b:=by
 cases y<;>simp only[isin,reduceCtorEq]at z<;>simp only[Rep]at q
 .subst q;split at z
  .simp only[Rep]at p;subst p;simpa[Ev.isin]using z
  .cases z
 .obtain⟨ds,rfl,q⟩:=q;simpa[Ev.isin]using kH p z q
 .obtain⟨n,ds,rfl,_,a,q⟩:=q;simpa[Ev.isin,eB a]using kH p z q
 .obtain⟨n,ds,rfl,_,a,q⟩:=q;simpa[Ev.isin,eW a]using kH p z q
def pM{o:aJ}{x y:V}{d e:D}{b:Bool}(z:cop o x y=some b)(p:Rep h U x d)(q:Rep h U y e):Ev.cop o d e h=some b:=by
 cases o
 case eq=>delta cop at z;dsimp only at z;delta Ev.cop;dsimp only;exact gm deep z p q
 case ne=>
  delta cop at z;dsimp only at z;simp only[bC]at z;obtain⟨c,z,rfl⟩:=z
  delta Ev.cop;dsimp only;simp only[gm deep z p q];rfl
 case isin=>delta cop at z;dsimp only at z;delta Ev.cop;dsimp only;exact rF z p q
 case cK=>
  delta cop at z;dsimp only at z;simp only[bC]at z;obtain⟨c,z,rfl⟩:=z
  delta Ev.cop;dsimp only;simp only[rF z p q];rfl
 all_goals (
  cases x<;>first|exact nn z | (cases y<;>first|exact nn z|skip)
  simp only[Rep]at p q;subst p q;exact z)
def sV{l:List V}{ds:List D}{i:Int}{v:V}(e:aX l i=some v)(q:ao h S l ds):∃d,aX ds i=some d/\Rep h S v d:=by
 unfold aX at e ⊢;rw[q.length]at e;cases z:cz ds.length i with
 |none=>rw[z]at e;cases e
 |some j=>rw[z]at e;exact q.get e
def Cy{x y v:V}{d e:D}(z:eH x y=some v)(p:aK h S x d)(q:aK h S y e):∃r,Ev.eH d e h=some r/\Rep h S v r:=by
 cases x<;>cases y<;>simp only[eH,reduceCtorEq]at z<;>simp only[aK,Rep]at p q
 .subst p q;simp only[bC]at z;obtain⟨c,z,rfl⟩:=z;exact⟨.str [c],by simp[Ev.eH,z],rfl⟩
 .obtain⟨ds,rfl,p⟩:=p;subst q;simpa[Ev.eH]using sV z p
 .obtain⟨n,ds,rfl,a,p⟩:=p;subst q;simpa[Ev.eH,eB a]using sV z p
 .obtain⟨n,ds,rfl,_,a,p⟩:=p;subst q;simpa[Ev.eH,eW a]using sV z p
def Cz{x v:V}{d:D}{lo hi:Option Int}(w:∀m,S m->m<h.length)(z:fS x lo hi=some v)(p:aK h S x d):∃r h' S',Ev.fS d lo hi h=.ok r h'/\Rep h' S' v r/\Al h S h' S':=by
 cases x<;>simp only[fS,reduceCtorEq]at z<;>simp only[aK,Rep]at p
 .subst p;cases z;exact⟨_,_,S,rfl,rfl,.refl⟩
 .obtain⟨ds,rfl,p⟩:=p;cases z;exact⟨_,_,S,rfl,⟨_,rfl,p.cut _ _⟩,.refl⟩
 .obtain⟨n,ds,rfl,a,p⟩:=p;simp only[Ev.fS,eB a];exact gn w z (p.cut _ _)
 .obtain⟨n,ds,rfl,_,a,p⟩:=p;simp only[Ev.fS,eW a];exact gn w z (p.cut _ _)
def CA{x v:V}{d:D}(z:toT x=some v)(p:aK h S x d):∃r,Ev.lP d h=.ok r h/\Rep h S v r:=by
 cases x<;>simp only[toT,reduceCtorEq]at z<;>simp only[aK,Rep]at p
 .obtain⟨ds,rfl,p⟩:=p;cases z;exact⟨_,rfl,⟨_,rfl,p⟩⟩
 .obtain⟨n,ds,rfl,a,p⟩:=p;unfold fU at z;split at z
  .rename_i k;cases z;refine⟨.tup ds,?_,⟨_,rfl,p⟩⟩;simp only[Ev.lP,eB a];rw[eO (by rw[<-p.length];exact k)]
  .cases z
 .obtain⟨n,ds,rfl,_,a,p⟩:=p;unfold fU at z;split at z
  .rename_i k;cases z;refine⟨.tup ds,?_,⟨_,rfl,p⟩⟩;simp only[Ev.lP,eW a];rw[eO (by rw[<-p.length];exact k)]
  .cases z
def zW{x:V}{l:List V}{d:D}(z:jK x=some l)(p:aK h S x d):∃s,Ev.we h d=some s/\ao h S l s.1/\(∀q∈s.2,d=.ref q.1/\aI h q.1=some q.2):=by
 obtain⟨n,ds,rfl,a,q⟩:=iX z p;exact⟨(ds,[(n,ds)]),by simp[Ev.we,a],q,by simp[a]⟩
def zX{x:V}{d:D}(p:aK h S x d)(t:TY):Ev.bX h d t=bX x t:=by
 cases x<;>simp only[aK,Rep]at p
 .subst p;cases t<;>rfl
 .subst p;cases t<;>rfl
 .subst p;cases t<;>rfl
 .subst p;cases t<;>rfl
 .obtain⟨_,rfl,_⟩:=p;cases t<;>rfl
 .obtain⟨n,ds,rfl,a,p⟩:=p;cases t<;>simp[Ev.bX,bX,eB a]
 .obtain⟨n,ds,rfl,_,a,p⟩:=p;cases t<;>simp[Ev.bX,bX,eW a]
theorem pN:∀{l:List V}{ds:List D}{bs},boolsOf l=some bs->ao h S l ds->Ev.boolsOf ds=some bs
 |[],_,_,e,q=>by simp only[ao]at q;subst q;exact e
 |x :: xs,_,bs,e,q=>by
  cases x<;>simp only[boolsOf,reduceCtorEq,bC]at e
  obtain⟨r,e,rfl⟩:=e;simp only[ao,Rep]at q;obtain⟨_,ds,rfl,rfl,q⟩:=q;simp[Ev.boolsOf,pN e q]
theorem rG:∀{l:List V}{ds:List D}{bs},intsOf l=some bs->ao h S l ds->Ev.intsOf ds=some bs
 |[],_,_,e,q=>by simp only[ao]at q;subst q;exact e
 |x :: xs,_,bs,e,q=>by
  cases x<;>simp only[intsOf,reduceCtorEq,bC]at e
  obtain⟨r,e,rfl⟩:=e;simp only[ao,Rep]at q;obtain⟨_,ds,rfl,rfl,q⟩:=q;simp[Ev.intsOf,rG e q]
theorem rH:∀{l:List V}{ds:List D}{bs},strsOf l=some bs->ao h S l ds->Ev.strsOf ds=some bs
 |[],_,_,e,q=>by simp only[ao]at q;subst q;exact e
 |x :: xs,_,bs,e,q=>by
  cases x<;>simp only[strsOf,reduceCtorEq,bC]at e
  obtain⟨r,e,rfl⟩:=e;simp only[ao,Rep]at q;obtain⟨_,ds,rfl,rfl,q⟩:=q;simp[Ev.strsOf,rH e q]
def dm.one{v:V}{ds:List D}(q:dm h S [v] ds):∃d,ds=[d]/\aK h S v d:=by
 simp only[dm]at q;obtain⟨d,es,rfl,a,rfl⟩:=q;exact⟨d,rfl,a⟩
def CB{b:BI}{xs:List V}{v:V}{ds:List D}(w:∀m,S m->m<h.length)(z:cg b xs=some v)(p:dm h S xs ds):∃r h' S',Ev.cg b ds h=.ok r h'/\Rep h' S' v r/\Al h S h' S':=by
 delta cg at z
 rcases xs with _|⟨x,_|⟨y,_|⟨u,xs⟩⟩⟩
 .cases b<;>exact nn z
 .obtain⟨d,rfl,p1⟩:=p.one;cases b
  case len=>
   cases x
   case str s=>
    dsimp only at z;simp only[aK,Rep]at p1;subst p1;split at z
    .rename_i k;cases z;exact⟨_,_,S,by delta Ev.cg;dsimp only;rw[eO k],rfl,.refl⟩
    .cases z
   case tup l=>
    dsimp only at z;simp only[aK,Rep]at p1;obtain⟨es,rfl,p2⟩:=p1;cases z;exact⟨_,_,S,rfl,by simp[Rep,p2.length],.refl⟩
   all_goals
    dsimp only at z;simp only[bC]at z;obtain⟨l,z,rfl⟩:=z;obtain⟨n,es,rfl,a,q⟩:=iX z p1;exact⟨.int es.length,h,S,by delta Ev.cg;dsimp only;simp[a],by simp[Rep,q.length],.refl⟩
  case all=>
   dsimp only at z;simp only[bC,bL]at z;obtain⟨bs,⟨l,z,z2⟩,rfl⟩:=z;obtain⟨n,es,rfl,a,q⟩:=iX z p1;exact⟨_,_,S,by delta Ev.cg;dsimp only;simp only[a,Option.bind,pN z2 q];rfl,rfl,.refl⟩
  case sum=>
   dsimp only at z;simp only[bC,bL]at z;obtain⟨bs,⟨l,z,z2⟩,rfl⟩:=z;obtain⟨n,es,rfl,a,q⟩:=iX z p1;exact⟨_,_,S,by delta Ev.cg;dsimp only;simp only[a,Option.bind,rG z2 q];rfl,rfl,.refl⟩
  case min=>cases x<;>exact nn z
  case oV=>
   cases x
   case bl i=>
    dsimp only at z;simp only[aK,Rep]at p1;subst p1;cases z;exact⟨_,_,S,rfl,rfl,.refl⟩
   all_goals exact nn z
  case dz=>
   cases x
   case int i=>
    dsimp only at z;simp only[aK,Rep]at p1;subst p1;split at z
    .rename_i k;cases z;exact⟨_,_,S,by delta Ev.cg;dsimp only;rw[eO k],rfl,.refl⟩
    .cases z
   case str s=>
    dsimp only at z;simp only[aK,Rep]at p1;subst p1;cases z;exact⟨_,_,S,rfl,rfl,.refl⟩
   all_goals exact nn z
  case ig=>
   cases x
   case str s=>
    dsimp only at z;simp only[aK,Rep]at p1;subst p1;obtain⟨i,e,rfl⟩:=Option.map_eq_some_iff.mp z;exact⟨.int i,_,S,by delta Ev.cg;dsimp only;rw[e];rfl,rfl,.refl⟩
   all_goals exact nn z
 .cases b
  case min=>
   cases x
   case int i=>
    cases y
    case int j=>
     dsimp only at z;simp only[dm,aK,Rep]at p;obtain⟨_,_,rfl,rfl,_,_,rfl,rfl,rfl⟩:=p;cases z;exact⟨_,_,S,rfl,rfl,.refl⟩
    all_goals exact nn z
   all_goals exact nn z
  case len=>cases x<;>exact nn z
  case oV=>cases x<;>exact nn z
  case dz=>cases x<;>exact nn z
  case ig=>cases x<;>exact nn z
  all_goals exact nn z
 .cases b
  case min=>cases x <;> (try cases y)<;>exact nn z
  case len=>cases x<;>exact nn z
  case oV=>cases x<;>exact nn z
  case dz=>cases x<;>exact nn z
  case ig=>cases x<;>exact nn z
  all_goals exact nn z
def CC{m:ME}{o:V}{xs:List V}{v:V}{d:D}{ds:List D}(z:cT m o xs=some v)(hm:fz m=false)(po:aK h S o d)(p:dm h S xs ds):Ev.qQ m d h=true/\∃r,Ev.cT m d ds h=.ok r h/\Rep h S v r:=by
 unfold cT at z;split at z
 .obtain⟨d,rfl,p1⟩:=p.one;simp only[aK,Rep]at po;subst po;simp only[bL]at z;obtain⟨ss,⟨l,z,z2⟩,z3⟩:=z;obtain⟨n,es,rfl,a,q⟩:=iX z p1;split at z3
  .rename_i k;cases z3;refine⟨rfl,_,?_,rfl⟩
   delta Ev.cT;dsimp only;simp only[a,Option.bind,rH z2 q]
   rw[eO k]
  .cases z3
 .cases z
def zY{x:V}{d:D}(f:nN x=true)(p:Rep h U x d):Rep [] U x d:=by
 cases x<;>simp only[nN,xF]at f<;>exact p
def wU{x:V}{d:D}(p:Rep h U x d):∀{kvs:List (D×D)}{v:V},cu x kvs=some v->∃r,Ev.cu d kvs=some r/\Rep h S v r:=by
 intro kvs v z;unfold cu at z;split at z
 .rename_i f;have p':=zY f p;induction kvs with
  |nil=>cases z
  |cons kv r ih=>
   obtain⟨k,u⟩:=kv;simp only[sS]at z;simp only[Ev.cu];split at z
   .rename_i y;simp only[bL]at y;obtain⟨k',y1,y2⟩:=y;rw[gm 1 y2 (iY y1) p'];exact⟨u,rfl,iY z⟩
   .rename_i y;simp only[bL]at y;obtain⟨k',y1,y2⟩:=y;rw[gm 1 y2 (iY y1) p'];exact ih z
   .cases z
 .cases z
def wV{x:V}{l:List V}{d:D}(z:dO x=some l)(p:aK h S x d):∃s,Ev.dO h d=some s/\ao h S l s.1/\(∀q∈s.2,d=.ref q.1/\aI h q.1=some q.2):=by
 cases x<;>simp only[dO,reduceCtorEq]at z<;>simp only[aK,Rep]at p
 .subst p;cases z;exact⟨_,rfl,ao.map (f:=λc=>V.str [c]) (g:=λc=>D.str [c]) (λ_=>by simp[Rep]) _,by simp⟩
 .obtain⟨ds,rfl,p⟩:=p;cases z;exact⟨_,rfl,p,by simp⟩
 .obtain⟨n,ds,rfl,a,p⟩:=p;cases z;exact⟨(ds,[(n,ds)]),by simp[Ev.dO,eB a],p,by simp[eB a]⟩
 .obtain⟨n,ds,rfl,_,a,p⟩:=p;cases z;exact⟨(ds,[(n,ds)]),by simp[Ev.dO,eW a],p,by simp[eW a]⟩
def pO(lo:Int)(n:Nat):ao h S (range lo n) (Ev.range lo n):=ao.map (f:=λ(i:Nat)=>V.int (lo+i)) (g:=λ(i:Nat)=>D.int (lo+i)) (λ_=>by simp[Rep]) _
def CD{xs l:List V}{ds:List D}(z:cG xs=some l)(p:dm h S xs ds):∃s,Ev.cG ds=some (s,[])/\ao h S l s:=by
 unfold cG at z;split at z
 .obtain⟨d,rfl,p1⟩:=p.one;simp only[aK,Rep]at p1;subst p1;split at z
  .rename_i k;cases z;exact⟨_,by simp only[Ev.cG];rw[eO k],pO _ _⟩
  .cases z
 .simp only[dm,aK,Rep]at p;obtain⟨_,_,rfl,rfl,_,_,rfl,rfl,rfl⟩:=p;split at z
  .rename_i k;cases z;exact⟨_,by simp only[Ev.cG];rw[eO k],pO _ _⟩
  .cases z
 .cases z
theorem rJ:∀{a:List V}{ds:List D}(k:Int),ao h S a ds->ao h S (ee k a) (Ev.ee k ds)
 |[],_,_,p=>by simp only[ao]at p;subst p;simp[ee,Ev.ee,ao]
 |x :: xs,_,k,p=>by
  simp only[ao]at p;obtain⟨d,ds,rfl,p1,p2⟩:=p;simp only[ee,Ev.ee];exact .cons ⟨_,rfl,.cons rfl (.cons p1 .nil)⟩ (rJ _ p2)
end
noncomputable def gQ(M B:Nat->Prop)(h:Hh)(S:Nat->Prop):Option Sl->Option D->Prop
 |none,p=>p=none
 |some (.val v),p=>∃d,p=some d/\Rep h S v d
 |some (.own l),p=>∃m ds,p=some (.ref m)/\(M m/\¬ B m)/\h[m]?=some (.lst ds)/\ao h S l ds
 |some (.bor l),p=>∃m ds,p=some (.ref m)/\(M m/\B m)/\h[m]?=some (.lst ds)/\ao h S l ds
 |some (.ro l),p=>∃m ds,p=some (.ref m)/\¬ M m/\h[m]?=some (.lst ds)/\ao h S l ds
noncomputable def eK:Option Sl->Bool
 |some (.own _)=>true
 |some (.bor _)=>true
 |_=>false
noncomputable def rK:Option Sl->Bool
 |some (.bor _)=>true
 |some (.ro _)=>true
 |_=>false
noncomputable def locked(fr:Fr)(i:Nat):Bool:=match fr[i]? with
 |some o=>rK o
 |none=>false
structure aP(M B:Nat->Prop)(h:Hh)(S:Nat->Prop)(fr:Fr)(ai:Ev.Fr):Prop where
 wS:∀m,S m->m<h.length/\¬ M m/\¬ B m
 wM:∀m,M m->m<h.length
 wB:∀m,B m->m<h.length
 len:fr.length=ai.length
 sl:∀(i:Nat) o p,fr[i]?=some o->ai[i]?=some p->gQ M B h S o p
 inj:∀(i j:Nat) o o' m,fr[i]?=some o->fr[j]?=some o'->eK o=true->eK o'=true->ai[i]?=some (some (.ref m))->ai[j]?=some (some (.ref m))->i=j
structure Tk(X:Nat->Prop)(h:Hh)(S:Nat->Prop)(h':Hh)(S':Nat->Prop):Prop where
 len:h.length<=h'.length
 keep:∀m,m<h.length->¬ X m->h'[m]?=h[m]?
 sub:∀m,S m->S' m
 new:∀m,S' m->S m\/(h.length<=m/\m<h'.length)
noncomputable def Xs(M:Nat->Prop)(ai:Ev.Fr)(l:List Nat):Nat->Prop:=λm=>M m/\∃i∈l,ai[i]?=some (some (.ref m))
structure Out(M B:Nat->Prop)(c:List Nat)(h:Hh)(S:Nat->Prop)(fr:Fr)(ai:Ev.Fr)(h':Hh)(S':Nat->Prop)(af:Fr):Prop where
 f:aP M B h' S' af ai
 tr:Tk (Xs M ai c) h S h' S'
 lk:∀i,locked af i=locked fr i
section
variable{M B:Nat->Prop}{h h' h1 h2:Hh}{S S' S1 S2:Nat->Prop}{fr af ak:Fr}{ai:Ev.Fr}{c c1 c2:List Nat}{v:V}{d:D}{X X1 X2:Nat->Prop}
def aP.get(f:aP M B h S fr ai){i:Nat}{o:Option Sl}(e:fr[i]?=some o):∃p,ai[i]?=some p/\gQ M B h S o p:=by
 have h1:=(List.getElem?_eq_some_iff.mp e).1;rw[f.len]at h1;exact⟨ai[i],j9 h1,f.sl i o _ e (j9 h1)⟩
def aP.w(f:aP M B h S fr ai):∀m,S m->m<h.length:=λm q=>(f.wS m q).1
def Al.tr(a:Al h S h' S'):Tk X h S h' S':=⟨a.len,λm q _=>a.keep m q,a.sub,a.new⟩
def Tk.al(t:Tk X h S h' S')(z:∀m,¬ X m):Al h S h' S':=⟨t.len,λm q=>t.keep m q (z m),t.sub,t.new⟩
def Tk.weak(t:Tk X h S h' S')(q:∀m,X m->X1 m):Tk X1 h S h' S':=⟨t.len,λm k z=>t.keep m k λy=>z (q m y),t.sub,t.new⟩
def Tk.trans(a:Tk X1 h S h1 S1)(b:Tk X2 h1 S1 h2 S2):Tk (λm=>X1 m\/X2 m) h S h2 S2 where
 len:=xE a.len b.len
 keep:=λm q z=>by rw[b.keep m (b7 q a.len) (λy=>z (.inr y)),a.keep m q (λy=>z (.inl y))]
 sub:=λm q=>b.sub m (a.sub m q)
 new:=λm q=>by
  rcases b.new m q with q|⟨q1,q2⟩
  .rcases a.new m q with q|⟨q1,q2⟩
   .exact .inl q
   .exact .inr ⟨q1,b7 q2 b.len⟩
  .exact .inr ⟨xE a.len q1,q2⟩
theorem Al.trans(a:Al h S h1 S1)(b:Al h1 S1 h2 S2):Al h S h2 S2:=((a.tr (X:=λ_=>False)).trans (b.tr (X:=λ_=>False))).al λm z=>by simp at z
def Tk.refl:Tk X h S h S:=⟨gV _,λ_ _ _=>rfl,λ_ q=>q,λ_ q=>.inl q⟩
def Xs.app{l1 l2:List Nat}{m:Nat}:Xs M ai (l1++l2) m↔Xs M ai l1 m\/Xs M ai l2 m:=by
 unfold Xs;constructor
 .rintro⟨a,i,hi,e⟩;rcases List.mem_append.mp hi with hi|hi
  .exact .inl ⟨a,i,hi,e⟩
  .exact .inr ⟨a,i,hi,e⟩
 .rintro(⟨a,i,hi,e⟩|⟨a,i,hi,e⟩)
  .exact⟨a,i,List.mem_append.mpr (.inl hi),e⟩
  .exact⟨a,i,List.mem_append.mpr (.inr hi),e⟩
def Xs.nil{m:Nat}:¬ Xs M ai [] m:=by rintro⟨_,i,hi,_⟩;simp at hi
def Xs.mono{l1 l2:List Nat}(q:∀i∈l1,i∈l2){m:Nat}:Xs M ai l1 m->Xs M ai l2 m:=λ⟨a,i,hi,e⟩=>⟨a,i,q i hi,e⟩
def Rep.tr(q:Rep h S v d)(f:aP M B h S fr ai)(t:Tk (Xs M ai c) h S h' S'):Rep h' S' v d:=q.mono (λm z=>t.keep m (f.wS m z).1 (λy=>(f.wS m z).2.1 y.1)) t.sub
def ao.tr{l:List V}{ds:List D}(q:ao h S l ds)(f:aP M B h S fr ai)(t:Tk (Xs M ai c) h S h' S'):ao h' S' l ds:=q.mono (λm z=>t.keep m (f.wS m z).1 (λy=>(f.wS m z).2.1 y.1)) t.sub
def aK.tr(q:aK h S v d)(f:aP M B h S fr ai)(t:Tk X h S h' S')(z:∀m,¬ X m):aK h' S' v d:=q.mono (λm k=>t.keep m k (z m)) f.w t.sub
def gQ.al{o:Option Sl}{p:Option D}(q:gQ M B h S o p)(w:∀m,S m->m<h.length)(a:Al h S h' S'):gQ M B h' S' o p:=by
 have k:∀m,S m->h'[m]?=h[m]?:=λm z=>a.keep m (w m z);have g:∀(m:Nat) (ds:List D),h[m]?=some (O.lst ds)->h'[m]?=some (O.lst ds):=λm ds z=>by rw[a.keep m (List.getElem?_eq_some_iff.mp z).1];exact z
 rcases o with _|s
 .exact q
 .cases s with
  |val v=>obtain⟨d,e,q⟩:=q;exact⟨d,e,q.mono k a.sub⟩
  |own l=>obtain⟨m,ds,e,z,y,q⟩:=q;exact⟨m,ds,e,z,g m ds y,q.mono k a.sub⟩
  |bor l=>obtain⟨m,ds,e,z,y,q⟩:=q;exact⟨m,ds,e,z,g m ds y,q.mono k a.sub⟩
  |ro l=>obtain⟨m,ds,e,z,y,q⟩:=q;exact⟨m,ds,e,z,g m ds y,q.mono k a.sub⟩
theorem aP.al(f:aP M B h S fr ai)(a:Al h S h' S'):aP M B h' S' fr ai where
 wS:=λm q=>by
  rcases a.new m q with q|⟨q1,q2⟩
  .exact⟨b7 (f.wS m q).1 a.len,(f.wS m q).2⟩
  .exact⟨q2,λz=>by have:=f.wM m z;omega,λz=>by have:=f.wB m z;omega⟩
 wM:=λm q=>b7 (f.wM m q) a.len
 wB:=λm q=>b7 (f.wB m q) a.len
 len:=f.len
 sl:=λi o p e1 e2=>(f.sl i o p e1 e2).al f.w a
 inj:=f.inj
theorem Out.refl(f:aP M B h S fr ai):Out M B c h S fr ai h S fr:=⟨f,.refl,λ_=>rfl⟩
theorem Out.trans(a:Out M B c1 h S fr ai h1 S1 af)(b:Out M B c2 h1 S1 af ai h2 S2 ak):Out M B (c1++c2) h S fr ai h2 S2 ak:=⟨b.f,(a.tr.trans b.tr).weak λm z=>Xs.app.mpr z,λi=>(b.lk i).trans (a.lk i)⟩
theorem Out.al(a:Out M B c h S fr ai h1 S1 af)(b:Al h1 S1 h2 S2):Out M B c h S fr ai h2 S2 af:=⟨a.f.al b,(a.tr.trans (b.tr (X:=λ_=>False))).weak (λm z=>by rcases z with z|z;exact z;exact z.elim),a.lk⟩
theorem Out.weak(a:Out M B c h S fr ai h1 S1 af)(q:∀i∈c,i∈c1):Out M B c1 h S fr ai h1 S1 af:=⟨a.f,a.tr.weak λm z=>Xs.mono q z,a.lk⟩
noncomputable def dF(k:Bool)(h:Hh)(S:Nat->Prop)(v:V)(d:D):Prop:=if k=true then aK h S v d else Rep h S v d
def dF.of{k:Bool}(q:Rep h S v d):dF k h S v d:=by unfold dF;split;exact q.top;exact q
def dF.t{k:Bool}(q:dF k h S v d):aK h S v d:=by unfold dF at q;split at q;exact q;exact q.top
def dF.n(q:dF false h S v d):Rep h S v d:=by simpa[dF]using q
def aP.slot(f:aP M B h S fr ai){i m:Nat}(e:ai[i]?=some (some (.ref m)))(hm:M m):∃o,fr[i]?=some o/\eK o=true:=by
 have hl:i<fr.length:=by rw[f.len];exact(List.getElem?_eq_some_iff.mp e).1
 refine⟨fr[i],j9 hl,?_⟩;have s:=f.sl i _ _ (j9 hl) e
 revert s
 generalize fr[i]=o
 intro s;rcases o with _|s'
 .cases s
 .cases s' with
  |own l=>rfl
  |bor l=>rfl
  |ro l=>obtain⟨m',ds,e,y,_⟩:=s;cases e;exact absurd hm y
  |val v=>
   obtain⟨d,e,q⟩:=s;cases e;exfalso;cases v<;>simp only[Rep,reduceCtorEq]at q
   .obtain⟨_,e,_⟩:=q;cases e
   .obtain⟨n,ds,e,sn,_⟩:=q;cases e;exact(f.wS _ sn).2.1 hm
   .obtain⟨n,ds,e,sn,_⟩:=q;cases e;exact(f.wS _ sn).2.1 hm
theorem dF.tr{k:Bool}{a:E}(q:dF k h S v d)(f:aP M B h S fr ai)(t:Tk (Xs M ai c) h S h' S')(hk:k=true->kf a c=true)(ha:∀i,a=.v i->ai[i]?.join=some d):dF k h' S' v d:=by
 unfold dF at q ⊢;split at q
 .rename_i e;rw[eO e];have hk:=hk e;have gen:c=[]->aK h' S' v d:=λz=>q.tr f t λm y=>by subst z;exact Xs.nil y
  by_cases hv:∃i,a=.v i
  .obtain⟨i0,rfl⟩:=hv;simp only[kf,L7,List.contains_eq_mem,decide_eq_false_iff_not]at hk;cases v
   case lst l=>
    simp only[aK]at q ⊢;obtain⟨n,ds,rfl,b1,b2⟩:=q;refine⟨n,ds,rfl,?_,b2.tr f t⟩;rw[t.keep n (List.getElem?_eq_some_iff.mp b1).1 ?_]
    .exact b1
    .rintro⟨mn,j,hj,ej⟩;have e2:ai[i0]?=some (some (D.ref n)):=by
      have:=ha i0 rfl;cases z:ai[i0]? with
      |none=>rw[z]at this;cases this
      |some p=>rw[z]at this;simp at this;rw[this]
     obtain⟨o1,y1,y2⟩:=f.slot e2 mn;obtain⟨o2,y3,y4⟩:=f.slot ej mn;have:=f.inj i0 j o1 o2 n y1 y3 y2 y4 e2 ej;subst this;exact hk hj
   all_goals exact Rep.tr (show Rep h S _ d from q) f t
  .have:kf a c=c.isEmpty:=by
    cases a<;>first|rfl|exact absurd ⟨_,rfl⟩ hv
   rw[this,List.isEmpty_iff]at hk;exact gen hk
 .rename_i e;rw[yL e];exact q.tr f t
def zZ{k:Bool}{i:Nat}(e:lZ k fr i=some v)(f:aP M B h S fr ai):∃d,ai[i]?.join=some d/\dF k h S v d:=by
  unfold lZ at e;split at e
  . rename_i z;obtain⟨p,e1,q⟩:=f.get z;obtain⟨d,rfl,q⟩:=q;cases e;exact⟨d,by rw[e1];rfl,.of q⟩
  all_goals first
    | (rename_i z
       obtain⟨p,e1,q⟩:=f.get z;obtain⟨m,ds,rfl,_,y,q⟩:=q;split at e
       . rename_i hk;cases e;exact⟨.ref m,by rw[e1];rfl,by unfold dF;rw[eO hk];exact⟨m,ds,rfl,y,q⟩⟩
       . cases e)
    |cases e
def gf{i:Nat}{s:Sl}(e:lent fr i=some s)(f:aP M B h S fr ai):∃m ds l o,fr[i]?=some o/\ai[i]?=some (some (.ref m))/\h[m]?=some (.lst ds)/\ao h S l ds/\((s=.bor l/\M m/\eK o=true)\/(s=.ro l/\¬ M m/\o=some (.ro l))):=by
 unfold lent at e;split at e
 .rename_i s' z;obtain⟨p,e1,q⟩:=f.get z;cases s' with
  |val v=>simp[Sl.lend]at e
  |own l=>
   simp[Sl.lend]at e;subst e;obtain⟨m,ds,rfl,y,y1,q⟩:=q;exact⟨m,ds,l,_,z,e1,y1,q,.inl ⟨rfl,y.1,rfl⟩⟩
  |bor l=>
   simp[Sl.lend]at e;subst e;obtain⟨m,ds,rfl,y,y1,q⟩:=q;exact⟨m,ds,l,_,z,e1,y1,q,.inl ⟨rfl,y.1,rfl⟩⟩
  |ro l=>
   simp[Sl.lend]at e;subst e;obtain⟨m,ds,rfl,y,y1,q⟩:=q;exact⟨m,ds,l,_,z,e1,y1,q,.inr ⟨rfl,y,rfl⟩⟩
 .cases e
noncomputable def nq(h:Hh)(S:Nat->Prop)(ai:Ev.Fr):List (Nat ⊕ V)->List D->Prop
 |[],ds=>ds=[]
 |.inl i :: r,ds=>∃d es,ds=d :: es/\ai[i]?=some (some d)/\nq h S ai r es
 |.inr v :: r,ds=>∃d es,ds=d :: es/\Rep h S v d/\nq h S ai r es
noncomputable def iZ(h:Hh)(S:Nat->Prop):List Sl->List D->List (List V)->Prop
 |[],_,os=>os=[]
 |.val _ :: sl,ds,os=>∃d es,ds=d :: es/\iZ h S sl es os
 |.own _ :: _,_,_=>False
 |_ :: sl,ds,os=>∃d es l r m cs,ds=d :: es/\os=l :: r/\d=.ref m/\h[m]?=some (.lst cs)/\ao h S l cs/\iZ h S sl es r
noncomputable def kI(P:aB)(P':Ev.aB):Prop:=∀f sl v os,P f sl=some (v,os)->∀(h:Hh) (S B:Nat->Prop) (ds:List D),aP B B h S (sl.map some) (ds.map some)->
 ∃d h' S',P' f ds h=.ok d h'/\Rep h' S' v d/\Tk B h S h' S'/\iZ h' S' sl ds os
theorem Mz(f:aP M B h S fr ai):∀{as:List (Nat ⊕ V)}{sl:List Sl}{ds:List D},args fr as=some sl->nq h S ai as ds->sl.length=ds.length/\∀(a:Nat) s d,sl[a]?=some s->ds[a]?=some d->
  (∃i,as[a]?=some (.inl i)/\lent fr i=some s/\ai[i]?=some (some d))\/(∃v,s=.val v/\Rep h S v d)
 |[],sl,ds,e,q=>by
  simp[args]at e;simp only[nq]at q;subst e q;simp
 |.inl i :: r,sl,ds,e,q=>by
  simp only[args,bL,bC]at e;obtain⟨s,e1,l,e2,rfl⟩:=e;obtain⟨d,es,rfl,q1,q⟩:=q;obtain⟨h1,h2⟩:=Mz f e2 q;refine⟨by simp[h1],λa s' d' z1 z2=>?_⟩;cases a with
  |zero=>simp at z1 z2;subst z1 z2;exact .inl ⟨i,by simp,e1,q1⟩
  |succ a=>exact(h2 a s' d' (by simpa using z1) (by simpa using z2)).imp (λ⟨i,k,z⟩=>⟨i,by simpa using k,z⟩) id
 |.inr v :: r,sl,ds,e,q=>by
  simp only[args,bC]at e;obtain⟨l,e2,rfl⟩:=e;obtain⟨d,es,rfl,q1,q⟩:=q;obtain⟨h1,h2⟩:=Mz f e2 q;refine⟨by simp[h1],λa s' d' z1 z2=>?_⟩;cases a with
  |zero=>simp at z1 z2;subst z1 z2;exact .inr ⟨v,rfl,q1⟩
  |succ a=>exact(h2 a s' d' (by simpa using z1) (by simpa using z2)).imp (λ⟨i,k,z⟩=>⟨i,by simpa using k,z⟩) id
theorem eL:∀{as:List (Nat ⊕ V)}{a i:Nat},as[a]?=some (.inl i)->i∈bf as
 |[],_,_,e=>by simp at e
 |.inl j :: r,0,i,e=>by simp at e;subst e;simp[bf]
 |.inr j :: r,0,i,e=>by simp at e
 |.inl j :: r,a+1,i,e=>by have:=eL (as:=r) (a:=a) (i:=i) (by simpa using e);simp[bf,this]
 |.inr j :: r,a+1,i,e=>by have:=eL (as:=r) (a:=a) (i:=i) (by simpa using e);simp[bf,this]
theorem ja:∀{as:List (Nat ⊕ V)}{a b i:Nat},(bf as).Nodup->as[a]?=some (.inl i)->as[b]?=some (.inl i)->a=b
 |[],_,_,_,_,e,_=>by simp at e
 |x :: r,0,0,_,_,_,_=>rfl
 |.inr j :: r,0,b+1,i,n,e,_=>by simp at e
 |.inl j :: r,0,b+1,i,n,e,e2=>by
  simp at e;subst e;simp only[bf,LN]at n;exact absurd (eL (as:=r) (a:=b) (by simpa using e2)) n.1
 |.inr j :: r,a+1,0,i,n,_,e=>by simp at e
 |.inl j :: r,a+1,0,i,n,e2,e=>by
  simp at e;subst e;simp only[bf,LN]at n;exact absurd (eL (as:=r) (a:=a) (by simpa using e2)) n.1
 |.inl j :: r,a+1,b+1,i,n,e1,e2=>by
  simp only[bf,LN]at n;have:=ja (as:=r) (a:=a) (b:=b) (i:=i) n.2 (by simpa using e1) (by simpa using e2);omega
 |.inr j :: r,a+1,b+1,i,n,e1,e2=>by
  simp only[bf]at n;have:=ja (as:=r) (a:=a) (b:=b) (i:=i) n (by simpa using e1) (by simpa using e2);omega
def wW{s:Sl}{l:List V}:eK (some (s.with l))=eK (some s):=by cases s<;>rfl
def rL{s:Sl}{l:List V}:rK (some (s.with l))=rK (some s):=by cases s<;>rfl
theorem pP:∀{is:List Nat}{ls:List (List V)}{fr af:Fr},back is ls fr=some af->is.Nodup->af.length=fr.length/\(∀i,i∉is->af[i]?=fr[i]?)/\∀i∈is,∃(k:Nat) (s:Sl) (l:List V),is[k]?=some i/\ls[k]?=some l/\fr[i]?=some (some s)/\af[i]?=some (some (s.with l))
 |[],[],fr,af,e,_=>by simp[back]at e;subst e;simp
 |[],_ :: _,_,_,e,_=>by simp[back]at e
 |_ :: _,[],_,_,e,_=>by simp[back]at e
 |i :: is,l :: ls,fr,af,e,n=>by
  simp only[back]at e;simp only[LN]at n;split at e
  .rename_i s z;obtain⟨h1,h2,h3⟩:=pP e n.2;refine⟨by simpa using h1,λj hj=>?_,λj hj=>?_⟩
   .simp at hj;rw[h2 j hj.2,bU (λq=>hj.1 q.symm)]
   .rcases List.mem_cons.mp hj with rfl|hj
    .exact⟨0,s,l,by simp,by simp,z,by rw[h2 j n.1,kZ (List.getElem?_eq_some_iff.mp z).1]⟩
    .obtain⟨k,s',l',a,b,c,d⟩:=h3 j hj;have hne:i≠j:=λq=>n.1 (q▸hj);rw[bU hne]at c;exact⟨k+1,s',l',by simpa using a,by simpa using b,c,d⟩
  .cases e
theorem jb(f:aP M B h S fr ai):∀{as:List (Nat ⊕ V)}{sl:List Sl}{ds:List D}{os:List (List V)},args fr as=some sl->nq h S ai as ds->iZ h' S' sl ds os->
  ∀(k i:Nat) l,(bf as)[k]?=some i->os[k]?=some l->∃m cs,ai[i]?=some (some (.ref m))/\h'[m]?=some (.lst cs)/\ao h' S' l cs
 |[],sl,ds,os,e,q,o=>by simp[bf]
 |.inl i :: r,sl,ds,os,e,q,o=>by
  simp only[args,bL,bC]at e;obtain⟨s,e1,l,e2,rfl⟩:=e;obtain⟨d,es,rfl,q1,q⟩:=q;obtain⟨m,cs,l0,o0,_,z2,z3,z4,z5⟩:=gf e1 f;have key:∃l1 r1 cs,os=l1 :: r1/\h'[m]?=some (.lst cs)/\ao h' S' l1 cs/\iZ h' S' l es r1:=by
   rw[q1]at z2;cases z2;rcases z5 with ⟨rfl,_⟩|⟨rfl,_⟩
   .obtain⟨d',es',l1,r1,m1,uU,a1,a2,a3,a4,a5,a6⟩:=o;cases a1;cases a3;exact⟨l1,r1,uU,a2,a4,a5,a6⟩
   .obtain⟨d',es',l1,r1,m1,uU,a1,a2,a3,a4,a5,a6⟩:=o;cases a1;cases a3;exact⟨l1,r1,uU,a2,a4,a5,a6⟩
  obtain⟨l1,r1,uU,rfl,a4,a5,a6⟩:=key;intro k j l' y1 y2;cases k with
  |zero=>simp[bf]at y1 y2;subst y1 y2;exact⟨m,uU,z2,a4,a5⟩
  |succ k=>exact jb f e2 q a6 k j l' (by simpa[bf]using y1) (by simpa using y2)
 |.inr v :: r,sl,ds,os,e,q,o=>by
  simp only[args,bC]at e;obtain⟨l,e2,rfl⟩:=e;obtain⟨d,es,rfl,q1,q⟩:=q;obtain⟨d',es',a1,a2⟩:=o;cases a1;intro k j l' y1 y2;exact jb f e2 q a2 k j l' (by simpa[bf]using y1) y2
theorem iu:∀{as:List (Nat ⊕ V)}{sl:List Sl}{i:Nat},args fr as=some sl->i∈bf as->∃s,lent fr i=some s
 |[],_,_,_,q=>by simp[bf]at q
 |.inl j :: r,_,i,z,q=>by
  simp only[args,bL,bC]at z;obtain⟨s,e1,l,e2,rfl⟩:=z;simp[bf]at q;rcases q with rfl|q
  .exact⟨s,e1⟩
  .exact iu e2 q
 |.inr u :: r,_,i,z,q=>by
  simp only[args,bC]at z;obtain⟨l,e2,rfl⟩:=z;exact iu e2 (by simpa[bf]using q)
noncomputable def LB(fr:Fr)(ai:Ev.Fr)(as:List (Nat ⊕ V)):Nat->Prop:=λm=>∃(i:Nat) (o:Option Sl),i∈bf as/\fr[i]?=some o/\eK o=true/\ai[i]?=some (some (.ref m))
theorem LB.m(f:aP M B h S fr ai){as:List (Nat ⊕ V)}:∀m,LB fr ai as m->M m:=λm ⟨i,o,_,a,b,c⟩=>by
  have s:=f.sl i o _ a c;rcases o with _|s'
  .cases b
  .cases s' with
   |val v=>cases b
   |ro l=>cases b
   |own l=>obtain⟨m',ds',e,y,_⟩:=s;cases e;exact y.1
   |bor l=>obtain⟨m',ds',e,y,_⟩:=s;cases e;exact y.1
def z8(f:aP M B h S fr ai){as:List (Nat ⊕ V)}{sl:List Sl}{ds:List D}(nd:(bf as).Nodup)(z:args fr as=some sl)(q:nq h S ai as ds):aP (LB fr ai as) (LB fr ai as) h S (sl.map some) (ds.map some):=by
 have jM:=LB.m f (as:=as);obtain⟨hl,hg⟩:=Mz f z q;refine⟨λm y=>⟨(f.wS m y).1,λz=>(f.wS m y).2.1 (jM m z),λz=>(f.wS m y).2.1 (jM m z)⟩,λm y=>f.wM m (jM m y),λm y=>f.wM m (jM m y),by simp[hl],λa o p y1 y2=>?_,λa b o o' m y1 y2 y3 y4 y5 y6=>?_⟩
 .simp at y1 y2;obtain⟨s,y1,rfl⟩:=y1;obtain⟨d,y2,rfl⟩:=y2;rcases hg a s d y1 y2 with ⟨i,k1,k2,k3⟩|⟨u,rfl,k⟩
  .obtain⟨m,cs,l0,o0,w1,w2,w3,w4,w5⟩:=gf k2 f;rw[k3]at w2;cases w2;rcases w5 with ⟨rfl,w6,w7⟩|⟨rfl,w6,w7⟩
   .exact⟨m,cs,rfl,⟨⟨i,o0,eL k1,w1,w7,k3⟩,⟨i,o0,eL k1,w1,w7,k3⟩⟩,w3,w4⟩
   .exact⟨m,cs,rfl,λz=>w6 (jM m z),w3,w4⟩
  .exact⟨d,rfl,k⟩
 .simp at y1 y2 y5 y6;obtain⟨s,y1,rfl⟩:=y1;obtain⟨s',y2,rfl⟩:=y2;rcases hg a s _ y1 y5 with ⟨i,k1,k2,k3⟩|⟨u,rfl,k⟩
  .rcases hg b s' _ y2 y6 with ⟨j,k4,k5,k6⟩|⟨u,rfl,k⟩
   .obtain⟨m1,_,l1,o1,w1,w2,_,_,w5⟩:=gf k2 f;obtain⟨m2,_,l2,o2,x1,x2,_,_,x5⟩:=gf k5 f;have i1:eK o1=true:=by rcases w5 with ⟨_,_,w7⟩|⟨rfl,_,_⟩;exact w7;cases y3
    have i2:eK o2=true:=by rcases x5 with ⟨_,_,w7⟩|⟨rfl,_,_⟩;exact w7;cases y4
    have:=f.inj i j o1 o2 m w1 x1 i1 i2 k3 k6;subst this;exact ja nd k1 k4
   .cases y4
  .cases y3
def wX{P:aB}{P':Ev.aB}(HP:kI P P'){g:Nat}{as:List (Nat ⊕ V)}{ds:List D}(e:eV P g as fr=.ok v af)(f:aP M B h S fr ai)(q:nq h S ai as ds) :
  ∃d h' S',P' g ds h=.ok d h'/\Rep h' S' v d/\Out M B (bf as) h S fr ai h' S' af:=by
 unfold eV at e;split at e
 case isFalse=>cases e
 rename_i nd;cases z:args fr as with
 |none=>rw[z]at e;cases e
 |some sl=>
 rw[z]at e;simp only at e;cases z2:P g sl with
 |none=>rw[z2]at e;cases e
 |some vo=>
 obtain⟨v',os⟩:=vo;rw[z2]at e;simp only at e;cases z3:back (bf as) os fr with
 |none=>rw[z3]at e;cases e
 |some ak=>
 rw[z3]at e;simp at e;obtain⟨rfl,rfl⟩:=e;obtain⟨hl,hg⟩:=Mz f z q
 let B0:Nat->Prop:=LB fr ai as
 have jM:∀m,B0 m->M m:=LB.m f;have F0:aP B0 B0 h S (sl.map some) (ds.map some):=z8 f nd z q;obtain⟨d,h',S',c1,c2,c3,c4⟩:=HP g sl v' os z2 h S B0 ds F0;obtain⟨b1,b2,b3⟩:=pP z3 nd;have hL:=jb f z q c4;have kJ:∀m,S m->h'[m]?=h[m]?:=λm y=>c3.keep m (f.wS m y).1 (λz=>(f.wS m y).2.1 (jM m z));refine⟨d,h',S',c1,c2,⟨?_,?_,?_⟩⟩
 .refine⟨λm y=>?_,λm y=>b7 (f.wM m y) c3.len,λm y=>b7 (f.wB m y) c3.len,by rw[b1,f.len],λi o p y1 y2=>?_,λi j o o' m y1 y2 y3 y4 y5 y6=>?_⟩
  .rcases c3.new m y with y|⟨y1,y2⟩
   .exact⟨b7 (f.wS m y).1 c3.len,(f.wS m y).2⟩
   .exact⟨y2,λz=>by have:=f.wM m z;omega,λz=>by have:=f.wB m z;omega⟩
  .by_cases hi:i∈bf as
   .obtain⟨k,s,l,w1,w2,w3,w4⟩:=b3 i hi;rw[w4]at y1;cases y1;obtain⟨m,cs,x1,x2,x3⟩:=hL k i l w1 w2;rw[x1]at y2;cases y2;have old:=f.sl i _ _ w3 x1;cases s with
    |val u=>
     exfalso;have:∃s,lent fr i=some s:=iu z hi;obtain⟨s,hs⟩:=this;simp[lent,w3,Sl.lend]at hs
    |own u=>obtain⟨m',ds',e,y,_⟩:=old;cases e;exact⟨m,cs,rfl,y,x2,x3⟩
    |bor u=>obtain⟨m',ds',e,y,_⟩:=old;cases e;exact⟨m,cs,rfl,y,x2,x3⟩
    |ro u=>
     obtain⟨m',ds',e,y,y1,y2⟩:=old;cases e;refine⟨m,ds',rfl,y,?_,y2.mono kJ c3.sub⟩;rw[c3.keep m (List.getElem?_eq_some_iff.mp y1).1 (λz=>y (jM m z))];exact y1
   .rw[b2 i hi]at y1;have old:=f.sl i o p y1 y2;rcases o with _|s
    .exact old
    .cases s with
     |val u=>obtain⟨d,e,q⟩:=old;exact⟨d,e,q.mono kJ c3.sub⟩
     |own u=>
      obtain⟨m,ds',rfl,w1,w2,w3⟩:=old;refine⟨m,ds',rfl,w1,?_,w3.mono kJ c3.sub⟩;rw[c3.keep m (f.wM m w1.1) (λ⟨j,o2,x1,x2,x3,x4⟩=>hi (f.inj i j _ o2 m y1 x2 rfl x3 y2 x4▸x1))];exact w2
     |bor u=>
      obtain⟨m,ds',rfl,w1,w2,w3⟩:=old;refine⟨m,ds',rfl,w1,?_,w3.mono kJ c3.sub⟩;rw[c3.keep m (f.wM m w1.1) (λ⟨j,o2,x1,x2,x3,x4⟩=>hi (f.inj i j _ o2 m y1 x2 rfl x3 y2 x4▸x1))];exact w2
     |ro u=>
      obtain⟨m,ds',rfl,w1,w2,w3⟩:=old;refine⟨m,ds',rfl,w1,?_,w3.mono kJ c3.sub⟩;rw[c3.keep m (List.getElem?_eq_some_iff.mp w2).1 (λz=>w1 (jM m z))];exact w2
  .have kind:∀(i:Nat) o,ak[i]?=some o->eK o=true->∃o0,fr[i]?=some o0/\eK o0=true:=λi o w1 w2=>by
    by_cases hi:i∈bf as
    .obtain⟨k,s,l,x1,x2,x3,x4⟩:=b3 i hi;rw[x4]at w1;cases w1;exact⟨_,x3,by rw[wW]at w2;exact w2⟩
    .rw[b2 i hi]at w1;exact⟨o,w1,w2⟩
   obtain⟨oi,k1,k2⟩:=kind i o y1 y3;obtain⟨oj,k3,k4⟩:=kind j o' y2 y4;exact f.inj i j oi oj m k1 k3 k2 k4 y5 y6
 .exact c3.weak λm z=>⟨jM m z,by obtain⟨i,o,a1,a2,a3,a4⟩:=z;exact⟨i,a1,a4⟩⟩
 .intro i;unfold locked;by_cases hi:i∈bf as
  .obtain⟨k,s,l,x1,x2,x3,x4⟩:=b3 i hi;rw[x3,x4];exact rL
  .rw[b2 i hi]
end
end Pv
namespace Pv
open Ev (D O Hh)
end Pv
namespace Pv
open Ev (D O Hh aS aJ TY BI ME T E Es Eo It S Ss Fn big deep b2i rep bx cz aX aC cut aO bV slots aI)
section
variable{M B:Nat->Prop}{h h' h1 h2:Hh}{S S' S1 S2:Nat->Prop}{fr af ak:Fr}{ai:Ev.Fr}{c:List Nat}{v:V}{d:D}
def gU{n m:Nat}{o:O}(q:n≠m):(h.set n o)[m]?=h[m]?:=bU q
def aP.mM(f:aP M B h S fr ai){i n:Nat}{o:Option Sl}(e:fr[i]?=some o)(hM:eK o=true)(e':ai[i]?=some (some (.ref n))):M n:=by
 have s:=f.sl i o _ e e';rcases o with _|s'
 .cases hM
 .cases s' with
  |val v=>cases hM
  |ro l=>cases hM
  |own l=>obtain⟨m',ds',e,y,_⟩:=s;cases e;exact y.1
  |bor l=>obtain⟨m',ds',e,y,_⟩:=s;cases e;exact y.1
def aP.write(f:aP M B h S fr ai){i n:Nat}{s:Sl}{l':List V}{ds':List D}(e:fr[i]?=some (some s))(hM:eK (some s)=true)(e':ai[i]?=some (some (.ref n)))(q:ao h S l' ds') :
  aP M B (h.set n (.lst ds')) S (fr.set i (some (s.with l'))) ai:=by
 have mn:=f.mM e hM e';have kp:∀m,S m->(h.set n (.lst ds'))[m]?=h[m]?:=λm z=>gU λy=>(f.wS m z).2.1 (y▸mn);have il:=(List.getElem?_eq_some_iff.mp e).1;refine⟨λm y=>by simpa using f.wS m y,λm y=>by simpa using f.wM m y,λm y=>by simpa using f.wB m y,by simp[f.len],λj o p y1 y2=>?_,λj k o o' m y1 y2 y3 y4 y5 y6=>?_⟩
 .by_cases hj:i=j
  .subst hj;rw[kZ il]at y1;cases y1;rw[e']at y2;cases y2;have old:=f.sl i _ _ e e';have hn:(h.set n (.lst ds'))[n]?=some (.lst ds'):=kZ (f.wM n mn);cases s with
   |val v=>cases hM
   |ro l=>cases hM
   |own l=>obtain⟨m',_,e,y,_⟩:=old;cases e;exact⟨n,ds',rfl,y,hn,q.mono kp λ_ z=>z⟩
   |bor l=>obtain⟨m',_,e,y,_⟩:=old;cases e;exact⟨n,ds',rfl,y,hn,q.mono kp λ_ z=>z⟩
  .rw[bU hj]at y1;have old:=f.sl j o p y1 y2;rcases o with _|s'
   .exact old
   .cases s' with
    |val u=>obtain⟨d,e,q⟩:=old;exact⟨d,e,q.mono kp λ_ z=>z⟩
    |own u=>
     obtain⟨m,es,rfl,w1,w2,w3⟩:=old;refine⟨m,es,rfl,w1,?_,w3.mono kp λ_ z=>z⟩;rw[gU λ(z:n=m)=>hj (f.inj i j _ _ n e y1 hM rfl e' (by rw[z];exact y2))];exact w2
    |bor u=>
     obtain⟨m,es,rfl,w1,w2,w3⟩:=old;refine⟨m,es,rfl,w1,?_,w3.mono kp λ_ z=>z⟩;rw[gU λ(z:n=m)=>hj (f.inj i j _ _ n e y1 hM rfl e' (by rw[z];exact y2))];exact w2
    |ro u=>
     obtain⟨m,es,rfl,w1,w2,w3⟩:=old;refine⟨m,es,rfl,w1,?_,w3.mono kp λ_ z=>z⟩;rw[gU λ(z:n=m)=>w1 (z▸mn)];exact w2
 .have kind:∀(j:Nat) o,(fr.set i (some (s.with l')))[j]?=some o->eK o=true->∃o0,fr[j]?=some o0/\eK o0=true:=λj o w1 w2=>by
   by_cases hj:i=j
   .subst hj;exact⟨_,e,hM⟩
   .rw[bU hj]at w1;exact⟨o,w1,w2⟩
  obtain⟨oi,k1,k2⟩:=kind j o y1 y3;obtain⟨oj,k3,k4⟩:=kind k o' y2 y4;exact f.inj j k oi oj m k1 k3 k2 k4 y5 y6
def CF{m:ME}{l l':List V}{xs:List V}{n:Nat}{ds es:List D}(z:jL m l xs=some (v,l'))(e:h[n]?=some (.lst ds))(q:ao h S l ds)(p:dm h S xs es)(p':uS m=false->ao h S xs es)(hS:∀k,S k->k≠n) :
  ∃r ds',Ev.cT m (.ref n) es h=.ok r (h.set n (.lst ds'))/\Rep h S v r/\ao h S l' ds':=by
 unfold jL at z;split at z
 .have p':=p' rfl;split at z
  .rename_i k;cases z;simp only[ao]at p';obtain⟨d,_,rfl,p1,rfl⟩:=p';refine⟨_,_,?_,rfl,q.append (.cons p1 .nil)⟩
   delta Ev.cT;dsimp only;simp only[e]
   rw[eO (by rw[<-q.length];exact k)]
  .cases z
 .split at z
  .rename_i k;cases z;obtain⟨d,rfl,p1⟩:=p.one;simp only[aK]at p1;obtain⟨n2,cs,rfl,e2,p1⟩:=p1;refine⟨_,_,?_,rfl,q.append p1⟩
   delta Ev.cT;dsimp only;simp only[e,e2]
   rw[eO (by rw[<-q.length,<-p1.length];exact k)]
  .cases z
 .simp only[dm]at p;subst p;split at z
  .rename_i x y;cases z;obtain⟨d,k1,k2⟩:=q.get y;refine⟨d,_,?_,k2,q.dropLast⟩
   delta Ev.cT;dsimp only;simp only[e]
   rw[<-q.length,k1]
  .cases z
 .cases z
theorem aP.set(f:aP M B h S fr ai){i:Nat}(e:put fr i (.val v)=some af)(q:Rep h S v d):aP M B h S af (ai.set i (some d))/\(∀j,locked af j=locked fr j)/\∀j,locked fr j=true->(ai.set i (some d))[j]?=ai[j]?:=by
 have hx:af=fr.set i (some (.val v))/\locked fr i=false:=by
  unfold put at e;unfold locked;split at e
  .cases e
  .cases e
  .rename_i k1 k2;cases e;refine⟨rfl,?_⟩;cases z:fr[i]? with
   |none=>rfl
   |some o=>
    rcases o with _|s
    .rfl
    .cases s with
     |bor l=>exact absurd z (k1 l)
     |ro l=>exact absurd z (k2 l)
     |_=>rfl
 obtain⟨rfl,hk⟩:=hx;have lk:∀j,locked (fr.set i (some (.val v))) j=locked fr j:=λj=>by
  by_cases hj:i=j
  .subst hj;rw[hk];unfold locked;by_cases hl:i<fr.length
   .rw[kZ hl];rfl
   .rw[LL (by simpa using hl)]
  .unfold locked;rw[bU hj]
 refine⟨⟨f.wS,f.wM,f.wB,by simp[f.len],λj o p y1 y2=>?_,λj k o o' m y1 y2 y3 y4 y5 y6=>?_⟩,lk,λj hj=>?_⟩
 .by_cases hj:i=j
  .subst hj;have hl:i<fr.length:=by have:=(List.getElem?_eq_some_iff.mp y1).1;simpa using this
   rw[kZ hl]at y1;rw[kZ (by rw[<-f.len];exact hl)]at y2;cases y1;cases y2;exact⟨d,rfl,q⟩
  .rw[bU hj]at y1 y2;exact f.sl j o p y1 y2
 .have hn:∀(j:Nat) o,(fr.set i (some (.val v)))[j]?=some o->eK o=true->i≠j:=λj o w1 w2 w3=>by
   subst w3;have hl:i<fr.length:=by have:=(List.getElem?_eq_some_iff.mp w1).1;simpa using this
   rw[kZ hl]at w1;cases w1;cases w2
  have n1:=hn j o y1 y3;have n2:=hn k o' y2 y4;rw[bU n1]at y1 y5;rw[bU n2]at y2 y6;exact f.inj j k o o' m y1 y2 y3 y4 y5 y6
 .have:i≠j:=λz=>by subst z;rw[hk]at hj;cases hj
  rw[bU this]
theorem aP.bM:∀{is:List Nat}{vs:List V}{ds:List D}{fr af:Fr}{ai:Ev.Fr},aP M B h S fr ai->bM is vs fr=some af->ao h S vs ds->∃aY,Ev.bM is ds ai=some aY/\aP M B h S af aY/\(∀j,locked af j=locked fr j)/\∀j,locked fr j=true->aY[j]?=ai[j]?
 |[],[],ds,fr,af,ai,f,e,q=>by
  simp[Pv.bM]at e;simp only[ao]at q;subst e q;exact⟨ai,rfl,f,λ_=>rfl,λ_ _=>rfl⟩
 |[],_ :: _,_,_,_,_,_,e,_=>by simp[Pv.bM]at e
 |_ :: _,[],_,_,_,_,_,e,_=>by simp[Pv.bM]at e
 |i :: is,v :: vs,ds,fr,af,ai,f,e,q=>by
  simp only[Pv.bM,bL]at e;obtain⟨ak,e1,e2⟩:=e;simp only[ao]at q;obtain⟨d,es,rfl,q1,q2⟩:=q;obtain⟨f2,l2,r2⟩:=f.set e1 q1;obtain⟨aY,a,f3,l3,r3⟩:=f2.bM e2 q2;exact⟨aY,a,f3,λj=>(l3 j).trans (l2 j),λj hj=>(r3 j (by rw[l2 j];exact hj)).trans (r2 j hj)⟩
theorem aP.bD(f:aP M B h S fr ai){t:T}(e:bD t v fr=some af)(q:Rep h S v d):∃aY,Ev.bD t d ai=some aY/\aP M B h S af aY/\(∀j,locked af j=locked fr j)/\∀j,locked fr j=true->aY[j]?=ai[j]?:=by
 cases t with
 |one i=>exact⟨_,rfl,f.set e q⟩
 |many l=>
  cases v<;>simp only[Pv.bD,reduceCtorEq]at e
  simp only[Rep]at q;obtain⟨ds,rfl,q⟩:=q;exact f.bM e q
theorem aP.undef(f:aP M B h S fr ai){t:T}(e:undef t fr=true):Ev.undef t ai=true:=by
 unfold Pv.undef at e;unfold Ev.undef;rw[LJ]at e ⊢;intro i hi;have:=e i hi;cases z:fr[i]? with
 |none=>
  have:ai[i]?=none:=by
   rw[Mc]at z ⊢;rw[<-f.len];exact z
  rw[this];rfl
 |some o=>
  obtain⟨p,e1,q⟩:=f.get z;rw[z]at this;rcases o with _|s
  .simp only[gQ]at q;subst q;rw[e1];rfl
  .simp at this
def rM{i:Nat}{o:Option Sl}(e:(pI fr)[i]?=some o):∃o0,fr[i]?=some o0/\o=o0.map Sl.read:=by
 unfold pI at e;rw[GP]at e;cases z:fr[i]? with
 |none=>rw[z]at e;cases e
 |some o0=>rw[z]at e;cases e;exact⟨o0,rfl,rfl⟩
theorem aP.ro(f:aP M B h S fr ai):aP (λ_=>False) B h S (pI fr) ai:=by
 refine⟨λm y=>⟨(f.wS m y).1,id,(f.wS m y).2.2⟩,λm y=>y.elim,f.wB,by simp[pI,f.len],λi o p y1 y2=>?_,λi j o o' m y1 y2 y3 y4 y5 y6=>?_⟩
 .obtain⟨o0,z,rfl⟩:=rM y1;have q:=f.sl i o0 p z y2;rcases o0 with _|s
  .exact q
  .cases s with
   |val v=>exact q
   |own l=>obtain⟨m,ds,a,b,c,d⟩:=q;exact⟨m,ds,a,id,c,d⟩
   |bor l=>obtain⟨m,ds,a,b,c,d⟩:=q;exact⟨m,ds,a,id,c,d⟩
   |ro l=>obtain⟨m,ds,a,b,c,d⟩:=q;exact⟨m,ds,a,id,c,d⟩
 .obtain⟨o0,z,rfl⟩:=rM y1;rcases o0 with _|s
  .cases y3
  .cases s<;>cases y3
theorem gp:∀{ck:List (Nat×List D)},(∀q∈ck,aI h q.1=some q.2)->Ev.stays h ck=true
 |[],_=>rfl
 | (n,ds) :: r,q=>by
  simp only[Ev.stays,pW];refine⟨?_,gp λx hx=>q x (AE _ hx)⟩;rw[q (n,ds) (Km ..)];exact Ev.sE _
def iw{n:Nat}{ds:List D}(q:aI h n=some ds)(k:h'[n]?=h[n]?):aI h' n=some ds:=by
 unfold aI at q ⊢;rw[k];exact q
def kK{n:Nat}{ds:List D}(q:aI h n=some ds):n<h.length:=by
 unfold aI at q;cases z:h[n]? with
 |none=>rw[z]at q;cases q
 |some o=>exact(List.getElem?_eq_some_iff.mp z).1
noncomputable def wY(h:Hh)(S:Nat->Prop):Option V->Option D->Prop
 |none,o=>o=none
 |some v,o=>∃d,o=some d/\Rep h S v d
theorem rN{f:V->Option (Option V)}{f':D->Hh->Ev.R (Option D)}{ck:List (Nat×List D)}{h0:Hh}{S0:Nat->Prop}(w0:∀m,S0 m->m<h0.length)(st:∀q∈ck,aI h0 q.1=some q.2)
  (turn:∀v o d h S,Al h0 S0 h S->f v=some o->Rep h S v d->∃o' h' S',f' d h=.ok o' h'/\wY h' S' o o'/\Al h S h' S') :
  ∀{vs:List V} {ds:List D} {rs:List V} {h:Hh} {S:Nat->Prop},Al h0 S0 h S->bz f vs=some rs->ao h S vs ds->∃rs' h' S',Ev.bz f' ck ds h=.ok rs' h'/\ao h' S' rs rs'/\Al h S h' S'
 |[],ds,rs,h,S,a,e,q=>by
  simp[bz]at e;simp only[ao]at q;subst e q;refine⟨[],h,S,?_,.nil,.refl⟩;simp only[Ev.bz];rw[eO (gp λx hx=>iw (st x hx) (a.keep _ (kK (st x hx))))]
 |v :: vs,ds,rs,h,S,a,e,q=>by
  simp only[bz,bL]at e;obtain⟨o,e1,r,e2,e3⟩:=e;cases e3;simp only[ao]at q;obtain⟨d,es,rfl,q1,q2⟩:=q;have w:∀m,S m->m<h.length:=λm z=>by
   rcases a.new m z with z|z
   .exact b7 (w0 m z) a.len
   .exact z.2
  obtain⟨o',h1,S1,t1,t2,t3⟩:=turn v o d h S a e1 q1;obtain⟨rs',h2,S2,u1,u2,u3⟩:=rN w0 st turn (a.trans t3) e2 (q2.mono (λm z=>t3.keep m (w m z)) t3.sub);have w1:∀m,S1 m->m<h1.length:=λm z=>by
   rcases t3.new m z with z|z
   .exact b7 (w m z) t3.len
   .exact z.2
  refine⟨o'.toList++rs',h2,S2,?_,?_,t3.trans u3⟩
  .simp only[Ev.bz];rw[eO (gp λx hx=>iw (st x hx) (a.keep _ (kK (st x hx)))),t1,Ev.aj,u1,Ev.aj]
  .cases o with
   |none=>simp only[wY]at t2;subst t2;simpa using u2
   |some v'=>
    simp only[wY]at t2;obtain⟨d',rfl,t2⟩:=t2;exact .cons (t2.mono (λm z=>u3.keep m (w1 m z)) u3.sub) u2
end
noncomputable def fW(k:Bool)(h:Hh)(S:Nat->Prop)(v:List V)(d:List D):Prop:=if k=true then dm h S v d else ao h S v d
inductive CG(P':Ev.aB)(e:E)(k:Bool)(v:V)(M B:Nat->Prop)(h:Hh)(S:Nat->Prop)(fr:Fr)(ai:Ev.Fr)(af:Fr):Prop
 |mk (d:D) (h':Hh) (S':Nat->Prop) (c0:Ev.ev P' e ai h=.ok d h') (c1:dF k h' S' v d) (c2:Out M B (aT e) h S fr ai h' S' af):CG P' e k v M B h S fr ai af
inductive CH(P':Ev.aB)(e:E)(b:Bool)(M B:Nat->Prop)(h:Hh)(S:Nat->Prop)(fr:Fr)(ai:Ev.Fr)(af:Fr):Prop
 |mk (h':Hh) (S':Nat->Prop) (c0:Ev.aD P' e ai h=.ok b h') (c1:Out M B (aT e) h S fr ai h' S' af):CH P' e b M B h S fr ai af
inductive CJ(P':Ev.aB)(e:Es)(k:Bool)(v:List V)(M B:Nat->Prop)(h:Hh)(S:Nat->Prop)(fr:Fr)(ai:Ev.Fr)(af:Fr):Prop
 |mk (d:List D) (h':Hh) (S':Nat->Prop) (c0:Ev.br P' e ai h=.ok d h') (c1:fW k h' S' v d) (c2:Out M B (dD e) h S fr ai h' S' af):CJ P' e k v M B h S fr ai af
inductive CK(P':Ev.aB)(e:Es)(v:List (Nat ⊕ V))(M B:Nat->Prop)(h:Hh)(S:Nat->Prop)(fr:Fr)(ai:Ev.Fr)(af:Fr):Prop
 |mk (d:List D) (h':Hh) (S':Nat->Prop) (c0:Ev.br P' e ai h=.ok d h') (c1:nq h' S' ai v d) (c2:Out M B (dD e) h S fr ai h' S' af):CK P' e v M B h S fr ai af
inductive CL(P':Ev.aB)(e:Eo)(v:Option Int)(M B:Nat->Prop)(h:Hh)(S:Nat->Prop)(fr:Fr)(ai:Ev.Fr)(af:Fr):Prop
 |mk (h':Hh) (S':Nat->Prop) (c0:Ev.dc P' e ai h=.ok v h') (c1:Out M B (gF e) h S fr ai h' S' af):CL P' e v M B h S fr ai af
inductive CM(P':Ev.aB)(e:Eo)(v:Bool)(M B:Nat->Prop)(h:Hh)(S:Nat->Prop)(fr:Fr)(ai:Ev.Fr)(af:Fr):Prop
 |mk (h':Hh) (S':Nat->Prop) (c0:Ev.fT P' e ai h=.ok v h') (c1:Out M B (gF e) h S fr ai h' S' af):CM P' e v M B h S fr ai af
inductive CN(P':Ev.aB)(e:It)(k:Bool)(v:List V)(M B:Nat->Prop)(h:Hh)(S:Nat->Prop)(fr:Fr)(ai:Ev.Fr)(af:Fr):Prop
 |mk (s:Ev.Src) (h':Hh) (S':Nat->Prop) (c0:Ev.bO P' e ai h=.ok s h') (c1:ao h' S' v s.1) (c2:∀q∈s.2,aI h' q.1=some q.2/\(k=false->¬ M q.1)) (c3:Out M B (wR e) h S fr ai h' S' af):CN P' e k v M B h S fr ai af
section
variable(P:aB)(P':Ev.aB)
noncomputable def aL(e:E):Prop:=∀{k:Bool} {fr:Fr} {v:V} {af:Fr} {M B:Nat->Prop} {h:Hh} {S:Nat->Prop} {ai:Ev.Fr},ev P k e fr=.ok v af->aP M B h S fr ai->CG P' e k v M B h S fr ai af
noncomputable def ef(e:E):Prop:=∀{fr:Fr} {b:Bool} {af:Fr} {M B:Nat->Prop} {h:Hh} {S:Nat->Prop} {ai:Ev.Fr},aD P e fr=.ok b af->aP M B h S fr ai->CH P' e b M B h S fr ai af
noncomputable def fX(e:Es):Prop:=∀{k:Bool} {fr:Fr} {v:List V} {af:Fr} {M B:Nat->Prop} {h:Hh} {S:Nat->Prop} {ai:Ev.Fr},br P k e fr=.ok v af->aP M B h S fr ai->CJ P' e k v M B h S fr ai af
noncomputable def kL(e:Es):Prop:=∀{fr:Fr} {v:List (Nat ⊕ V)} {af:Fr} {M B:Nat->Prop} {h:Hh} {S:Nat->Prop} {ai:Ev.Fr},dj P e fr=.ok v af->aP M B h S fr ai->CK P' e v M B h S fr ai af
noncomputable def kM(e:Eo):Prop:=∀{fr:Fr} {v:Option Int} {af:Fr} {M B:Nat->Prop} {h:Hh} {S:Nat->Prop} {ai:Ev.Fr},dc P e fr=.ok v af->aP M B h S fr ai->CL P' e v M B h S fr ai af
noncomputable def nS(e:Eo):Prop:=∀{fr:Fr} {v:Bool} {af:Fr} {M B:Nat->Prop} {h:Hh} {S:Nat->Prop} {ai:Ev.Fr},fT P e fr=.ok v af->aP M B h S fr ai->CM P' e v M B h S fr ai af
noncomputable def gx(e:It):Prop:=∀{k:Bool} {fr:Fr} {v:List V} {af:Fr} {M B:Nat->Prop} {h:Hh} {S:Nat->Prop} {ai:Ev.Fr},bO P k e fr=.ok v af->aP M B h S fr ai->CN P' e k v M B h S fr ai af
end
section
variable{P:aB}{P':Ev.aB}{a b e tt:E}{es:Es}{lo hi:Eo}{it:It}
def CO{d:D}:aL P P' (.c d):=λz f=>by
 simp only[ev]at z;replace z:=av z;obtain⟨z,y0⟩:=z;subst y0;exact⟨d,_,_,by simp only[Ev.ev],.of (iY z),.refl f⟩
def CP{i:Nat}:aL P P' (.v i):=λz f=>by
 simp only[ev]at z;replace z:=av z;obtain⟨z,y0⟩:=z;subst y0;obtain⟨d,e1,q⟩:=zZ z f;exact⟨d,_,_,by simp only[Ev.ev,e1,Ev.b9],q,.refl f⟩
def fW.n{h:Hh}{S:Nat->Prop}{v:List V}{d:List D}(q:fW false h S v d):ao h S v d:=by simpa[fW]using q
theorem ao.tl{h:Hh}{S:Nat->Prop}:∀{v:List V}{d:List D},ao h S v d->dm h S v d
 |[],_,q=>q
 |_ :: _,_,⟨d,es,a,b,q⟩=>⟨d,es,a,b.top,q.tl⟩
def fW.t{k:Bool}{h:Hh}{S:Nat->Prop}{v:List V}{d:List D}(q:fW k h S v d):dm h S v d:=by
 unfold fW at q;split at q
 .exact q
 .exact q.tl
def uV(is:fX P P' es):aL P P' (.tup es):=λz f=>by
 simp only[ev]at z;obtain⟨ds,ak,z1,z2⟩:=ah z;replace z2:=av z2;obtain⟨z2,y0⟩:=z2;subst y0;obtain⟨ds',h',S',e1,q,o⟩:=is z1 f;unfold fU at z2;split at z2
 .rename_i hk;cases z2;refine⟨.tup ds',h',S',?_,.of ⟨ds',rfl,q.n⟩,o⟩;simp only[Ev.ev,e1,Ev.aj];rw[eO (by rw[<-q.n.length];exact hk)]
 .cases z2
def uW(is:fX P P' es):aL P P' (.lst es):=λz f=>by
 simp only[ev]at z;obtain⟨ds,ak,z1,z2⟩:=ah z;replace z2:=av z2;obtain⟨z2,y0⟩:=z2;subst y0;obtain⟨ds',h',S',e1,q,o⟩:=is z1 f;obtain⟨r,h2,S2,a1,a2,a3⟩:=gn o.f.w z2 q.n;exact⟨r,h2,S2,by simp only[Ev.ev,e1,Ev.aj,a1],.of a2,o.al a3⟩
def ju{a:E}{ai:Ev.Fr}{h h1:Hh}{d:D}(e:Ev.ev P' a ai h=.ok d h1):∀i,a=.v i->ai[i]?.join=some d:=λi hi=>by
 subst hi;simp only[Ev.ev]at e;exact(Ev.av e).1
def two(ia:aL P P' a)(ib:aL P P' b){α:Type}{X:V->V->Fr->R α}{u:α}{fr aW:Fr}{M B:Nat->Prop}{h:Hh}{S:Nat->Prop}{ai:Ev.Fr}
  (z:((ev P (kf a (aT b)) a fr).bind λx af=>(ev P true b af).bind λy ak=>X x y ak)=.ok u aW) (f:aP M B h S fr ai) :
  ∃x y d e h2 S2 ak,(∀{β:Type} (g:D->D->Hh->Ev.R β),((Ev.ev P' a ai h).bind λx h1=>(Ev.ev P' b ai h1).bind λy h2=>g x y h2)=g d e h2)/\X x y ak=.ok u aW/\aK h2 S2 x d/\aK h2 S2 y e/\Out M B (aT a++aT b) h S fr ai h2 S2 ak:=by
 replace z:=ah z;obtain⟨x,af,z1,z⟩:=z;replace z:=ah z;obtain⟨y,ak,z2,z⟩:=z;obtain⟨d,h1,S1,e1,q1,o1⟩:=ia z1 f;obtain⟨e,h2,S2,e2,q2,o2⟩:=ib z2 o1.f;exact⟨x,y,d,e,h2,S2,ak,λg=>by rw[e1,Ev.aj,e2,Ev.aj],z,(q1.tr o1.f o2.tr id (ju e1)).t,q2.t,o1.trans o2⟩
def uX{o:aS}(ia:aL P P' a)(ib:aL P P' b):aL P P' (.bin o a b):=λz f=>by
 simp only[ev]at z;replace z:=two ia ib z f;obtain⟨x,y,d,e,h2,S2,ak,k,z,q1,q2,ou⟩:=z;replace z:=av z;obtain⟨z,y0⟩:=z;subst y0;obtain⟨r,h3,S3,a1,a2,a3⟩:=Cw ou.f.w z q1 q2;exact⟨r,h3,S3,by simp only[Ev.ev];rw[k];exact a1,.of a2,ou.al a3⟩
def uY{o:aJ}(ia:aL P P' a)(ib:aL P P' b):aL P P' (.cmp o a b):=λz f=>by
 simp only[ev]at z;replace z:=two ia ib z f;obtain⟨x,y,d,e,h2,S2,ak,k,z,q1,q2,ou⟩:=z;replace z:=av z;obtain⟨z,y0⟩:=z;subst y0;simp only[bC]at z;obtain⟨b,z,rfl⟩:=z;exact⟨.bl b,h2,S2,by simp only[Ev.ev];rw[k,pM z q1.u q2.u];rfl,.of rfl,ou⟩
def yw(ia:aL P P' a)(ib:aL P P' b):aL P P' (.ix a b):=λz f=>by
 simp only[ev]at z;replace z:=two ia ib z f;obtain⟨x,y,d,e,h2,S2,ak,k,z,q1,q2,ou⟩:=z;replace z:=av z;obtain⟨z,y0⟩:=z;subst y0;obtain⟨r,a1,a2⟩:=Cy z q1 q2;exact⟨r,h2,S2,by simp only[Ev.ev];rw[k,a1];rfl,.of a2,ou⟩
def yx{o p:aJ}{c:E}(ia:aL P P' a)(ib:aL P P' b)(ic:aL P P' c):aL P P' (.ch o p a b c):=λz f=>by
 simp only[ev]at z;replace z:=ah z;obtain⟨x,af,z1,z⟩:=z;replace z:=ah z;obtain⟨y,ak,z2,z⟩:=z;replace z:=ah z;obtain⟨k,bE,z3,z⟩:=z;replace z3:=av z3;obtain⟨z3,y0⟩:=z3;subst y0;obtain⟨d,h1,S1,e1,q1,o1⟩:=ia z1 f;obtain⟨e,h2,S2,e2,q2,o2⟩:=ib z2 o1.f;have rO:=(q1.tr o1.f o2.tr id (ju e1)).t;have c1:=pM z3 rO.u q2.t.u;cases k with
 |false=>
  simp only[xF,K0]at z;cases z;refine⟨.bl false,h2,S2,by simp only[Ev.ev,e1,Ev.aj,e2,c1,Ev.b9];rfl,.of rfl,?_⟩;exact(o1.trans o2).weak (by simp only[aT];intro i hi;simp at hi ⊢;rcases hi with hi|hi<;>simp[hi])
 |true=>
  simp only[D6]at z;replace z:=ah z;obtain⟨y2,dX,z4,z⟩:=z;replace z:=av z;obtain⟨z,y0⟩:=z;subst y0;obtain⟨g,h3,S3,e3,q3,o3⟩:=ic z4 o2.f;simp only[bC]at z;obtain⟨b',z,rfl⟩:=z;have c2:=pM z (q2.tr o2.f o3.tr id (ju e2)).t.u q3.t.u;exact⟨.bl b',h3,S3,by simp only[Ev.ev,e1,Ev.aj,e2,c1,Ev.b9,D6,e3,c2];rfl,.of rfl,o1.trans (o2.trans o3)⟩
def EX(ia:aL P P' a):aL P P' (.nt a):=λz f=>by
 simp only[ev]at z;replace z:=ah z;obtain⟨x,af,z1,z⟩:=z;obtain⟨d,h1,S1,e1,q1,o1⟩:=ia z1 f;cases x<;>simp only[reduceCtorEq]at z
 cases z;have q:=q1.t;simp only[aK,Rep]at q;subst q;exact⟨_,h1,S1,by simp only[Ev.ev,e1,Ev.aj],.of rfl,o1⟩
def uZ(ia:aL P P' a):aL P P' (.neg a):=λz f=>by
 simp only[ev]at z;replace z:=ah z;obtain⟨x,af,z1,z⟩:=z;obtain⟨d,h1,S1,e1,q1,o1⟩:=ia z1 f;cases x<;>simp only[reduceCtorEq]at z
 cases z;have q:=q1.t;simp only[aK,Rep]at q;subst q;exact⟨_,h1,S1,by simp only[Ev.ev,e1,Ev.aj],.of rfl,o1⟩
def EY(ia:aL P P' a)(ib:aL P P' b):aL P P' (.an a b):=λz f=>by
 simp only[ev]at z;replace z:=ah z;obtain⟨x,af,z1,z⟩:=z;obtain⟨d,h1,S1,e1,q1,o1⟩:=ia z1 f;cases x<;>try (cases z;done)
 rename_i k;have q:=q1.t;simp only[aK,Rep]at q;subst q;cases k with
 |true=>
  try simp only at z
  obtain⟨d,h2,S2,e2,q2,o2⟩:=ib z o1.f;exact⟨d,h2,S2,by simp only[Ev.ev,e1,Ev.aj,e2],q2,o1.trans o2⟩
 |false=>
  try simp only at z
  cases z;exact⟨_,h1,S1,by simp only[Ev.ev,e1,Ev.aj],.of rfl,o1.weak (by simp only[aT];intro i hi;simp[hi])⟩
def CQ(ia:aL P P' a)(ib:aL P P' b):aL P P' (.orr a b):=λz f=>by
 simp only[ev]at z;replace z:=ah z;obtain⟨x,af,z1,z⟩:=z;obtain⟨d,h1,S1,e1,q1,o1⟩:=ia z1 f;cases x<;>try (cases z;done)
 rename_i k;have q:=q1.t;simp only[aK,Rep]at q;subst q;cases k with
 |false=>
  try simp only at z
  obtain⟨d,h2,S2,e2,q2,o2⟩:=ib z o1.f;exact⟨d,h2,S2,by simp only[Ev.ev,e1,Ev.aj,e2],q2,o1.trans o2⟩
 |true=>
  try simp only at z
  cases z;exact⟨_,h1,S1,by simp only[Ev.ev,e1,Ev.aj],.of rfl,o1.weak (by simp only[aT];intro i hi;simp[hi])⟩
def u0(it:ef P P' tt)(ia:aL P P' a)(ib:aL P P' b):aL P P' (.qP tt a b):=λz f=>by
 simp only[ev]at z;replace z:=ah z;obtain⟨k,af,z1,z⟩:=z;obtain⟨h1,S1,e1,o1⟩:=it z1 f;cases k with
 |true=>
  simp only[D6]at z;obtain⟨d,h2,S2,e2,q2,o2⟩:=ia z o1.f;exact⟨d,h2,S2,by simp only[Ev.ev,e1,Ev.aj,D6,e2],q2,(o1.trans o2).weak (by simp only[aT];intro i hi;simp at hi ⊢;rcases hi with hi|hi<;>simp[hi])⟩
 |false=>
  simp only[xF,K0]at z;obtain⟨d,h2,S2,e2,q2,o2⟩:=ib z o1.f;exact⟨d,h2,S2,by simp only[Ev.ev,e1,Ev.aj];rw[yL (by decide)];exact e2,q2,(o1.trans o2).weak (by simp only[aT];intro i hi;simp at hi ⊢;rcases hi with hi|hi<;>simp[hi])⟩
def yy(ia:aL P P' a)(il:kM P P' lo)(ih:kM P P' hi):aL P P' (.sl a lo hi):=λz f=>by
 simp only[ev]at z;replace z:=ah z;obtain⟨x,af,z1,z⟩:=z;replace z:=ah z;obtain⟨l,ak,z2,z⟩:=z;replace z:=ah z;obtain⟨u,bE,z3,z⟩:=z;replace z:=av z;obtain⟨z,y0⟩:=z;subst y0;obtain⟨d,h1,S1,e1,q1,o1⟩:=ia z1 f;obtain⟨h2,S2,e2,o2⟩:=il z2 o1.f;obtain⟨h3,S3,e3,o3⟩:=ih z3 o2.f;have q:=(q1.tr o1.f (o2.trans o3).tr id (ju e1)).t;obtain⟨r,h4,S4,a1,a2,a3⟩:=Cz o3.f.w z q;exact⟨r,h4,S4,by simp only[Ev.ev,e1,Ev.aj,e2,e3,a1],.of a2,(o1.trans (o2.trans o3)).al a3⟩
theorem jc:∀{es:Es}{fr af:Fr}{as:List (Nat ⊕ V)},dj P es fr=.ok as af->∀i∈bf as,i∈gh es
 |.nil,_,_,_,z=>by simp only[dj]at z;cases z;simp[bf]
 |.cons e es,fr,af,as,z=>by
  simp only[dj]at z;cases y:gT fr e with
  |some i=>
   rw[y]at z;simp only at z;replace z:=ah z;obtain⟨xs,bE,z2,z⟩:=z;cases z;have hy:e=.v i:=by
    cases e<;>simp only[gT,reduceCtorEq]at y
    split at y
    .cases y;rfl
    .cases y
   subst hy;intro j hj;simp only[bf,L3]at hj;simp only[gh,L3];exact hj.imp id λhj=>jc z2 j hj
  |none=>
   rw[y]at z;simp only at z;replace z:=ah z;obtain⟨x,ak,z1,z⟩:=z;replace z:=ah z;obtain⟨xs,bE,z2,z⟩:=z;cases z;intro j hj;simp only[bf]at hj;have:=jc z2 j hj;cases e<;>simp only[gh]<;>first|exact this|exact AE _ this
def yz(HP:kI P P'){g:Nat}(is:kL P P' es):aL P P' (.cl g es):=λz f=>by
 simp only[ev]at z;replace z:=ah z;obtain⟨as,af,z1,z⟩:=z;obtain⟨ds,h1,S1,e1,q1,o1⟩:=is z1 f;obtain⟨d,h2,S2,e2,q2,o2⟩:=wX HP z o1.f q1;exact⟨d,h2,S2,by simp only[Ev.ev,e1,Ev.aj,e2],.of q2,(o1.trans o2).weak (by
  simp only[aT];intro i hi;rcases List.mem_append.mp hi with hi|hi
  .exact List.mem_append.mpr (.inl hi)
  .exact List.mem_append.mpr (.inr (jc z1 i hi)))⟩
def yC{g:BI}(is:fX P P' es):aL P P' (.bi g es):=λz f=>by
 simp only[ev]at z;replace z:=ah z;obtain⟨as,af,z1,z⟩:=z;replace z:=av z;obtain⟨z,y0⟩:=z;subst y0;obtain⟨ds,h1,S1,e1,q1,o1⟩:=is z1 f;obtain⟨r,h4,S4,a1,a2,a3⟩:=CB o1.f.w z q1.t;exact⟨r,h4,S4,by simp only[Ev.ev,e1,Ev.aj,a1],.of a2,o1.al a3⟩
def u5{ts:List TY}(ia:aL P P' a):aL P P' (.dB a ts):=λz f=>by
 simp only[ev]at z;replace z:=ah z;obtain⟨x,af,z1,z⟩:=z;cases z;obtain⟨d,h1,S1,e1,q1,o1⟩:=ia z1 f;have:Ev.bX h1 d=bX x:=funext λt=>zX q1.t t;refine⟨.bl (ts.any (Ev.bX h1 d)),h1,S1,by simp only[Ev.ev,e1,Ev.aj],.of ?_,o1⟩;rw[this];rfl
def rP{kvs:List (D×D)}(ia:aL P P' a):aL P P' (.cV kvs a):=λz f=>by
 simp only[ev]at z;replace z:=ah z;obtain⟨x,af,z1,z⟩:=z;replace z:=av z;obtain⟨z,y0⟩:=z;subst y0;obtain⟨d,h1,S1,e1,q1,o1⟩:=ia z1 f;obtain⟨r,a1,a2⟩:=wU (S:=S1) q1.t.u z;exact⟨r,h1,S1,by simp only[Ev.ev,e1,Ev.aj,a1,Ev.b9],.of a2,o1⟩
def u6(ia:aL P P' a):aL P P' (.iG a):=λz f=>by
 simp only[ev]at z;replace z:=ah z;obtain⟨x,af,z1,z⟩:=z;replace z:=av z;obtain⟨z,y0⟩:=z;subst y0;obtain⟨d,h1,S1,e1,q1,o1⟩:=ia z1 f;obtain⟨r,a1,a2⟩:=CA z q1.t;exact⟨r,h1,S1,by simp only[Ev.ev,e1,Ev.aj,a1],.of a2,o1⟩
def yD{m:ME}{o:E}(io:aL P P' o)(is:fX P P' es):aL P P' (.me m o es):=λ{k fr v af M B h S ai} z f=>by
 simp only[ev]at z;by_cases hm:fz m=true
 .rw[eO hm]at z;cases y:gT fr o with
  |none=>rw[y]at z;cases z
  |some i=>
  rw[y]at z;try simp only at z
  replace z:=ah z;obtain⟨as,ak,z1,z⟩:=z;have hy:o=.v i/\∃s,lent fr i=some s:=by
   cases o<;>simp only[gT,reduceCtorEq]at y
   rename_i j;split at y
   .rename_i hs;cases y;exact⟨rfl,Option.isSome_iff_exists.mp hs⟩
   .cases y
  obtain⟨rfl,s,hs⟩:=hy;obtain⟨n,cs,_,_,_,w2,w3,_,_⟩:=gf hs f;obtain⟨ds,h1,S1,e1,q1,o1⟩:=is z1 f;have hr:Ev.qQ m (.ref n) h=true:=by cases m<;>simp[fz]at hm<;>simp[Ev.qQ,eB w3]
  have hap:uS m=false->ao h1 S1 as ds:=λhh=>by rw[hh]at q1;exact q1.n
  have fin:∀s l l',ak[i]?=some (some s)->eK (some s)=true->(∃m' cs',ai[i]?=some (some (.ref m'))/\h1[m']?=some (.lst cs')/\ao h1 S1 l cs')->jL m l as=some (v,l')->af=ak.set i (some (s.with l'))->
    CG P' (.me m (.v i) es) k v M B h S fr ai af:=by
   intro s l l' k1 k2 ⟨m',cs',k3,k4,k5⟩ k6 k7;rw[w2]at k3;cases k3;have mn:=o1.f.mM k1 k2 w2;obtain⟨r,ds',a1,a2,a3⟩:=CF k6 k4 k5 q1.t hap λk z y=>(o1.f.wS k z).2.1 (y▸mn);have fw:=o1.f.write (l':=l') k1 k2 w2 a3;subst k7;refine⟨r,_,S1,?_,.of (a2.mono (λm z=>gU λy=>(o1.f.wS m z).2.1 (y▸mn)) λ_ z=>z),fw,?_,λj=>?_⟩
   .simp only[Ev.ev,w2,Option.join,Ev.b9,Ev.aj,hr,D6,e1];simp only[Option.bind,id,Ev.b9,Ev.aj,hr,D6,e1];exact a1
   .refine⟨by simpa using o1.tr.len,λm y1 y2=>?_,o1.tr.sub,λm y=>by simpa using o1.tr.new m y⟩;have y3:¬ Xs M ai (dD es) m:=λz=>y2 (Xs.mono (by simp only[aT];intro i hi;simp[hi]) z);have y4:m≠n:=λz=>y2 ⟨z▸mn,i,by simp[aT,GI,hm],by rw[z];exact w2⟩;rw[gU (λ(z:n=m)=>y4 z.symm)];exact o1.tr.keep m y1 y3
   .rw[<-o1.lk j];unfold locked;by_cases hj:i=j
    .subst hj;rw[kZ (List.getElem?_eq_some_iff.mp k1).1,k1];exact rL
    .rw[bU hj]
  split at z
  .rename_i l k1;have old:=o1.f.get k1;obtain⟨p,k2,m',cs',rfl,_,k4,k5⟩:=old;split at z
   .rename_i v' l' k6;cases z;exact fin _ l l' k1 rfl ⟨m',cs',k2,k4,k5⟩ k6 rfl
   .cases z
  .rename_i l k1;have old:=o1.f.get k1;obtain⟨p,k2,m',cs',rfl,_,k4,k5⟩:=old;split at z
   .rename_i v' l' k6;cases z;exact fin _ l l' k1 rfl ⟨m',cs',k2,k4,k5⟩ k6 rfl
   .cases z
  .cases z
 .rw[yL hm]at z;replace z:=ah z;obtain⟨x,ak,z1,z⟩:=z;replace z:=ah z;obtain⟨as,bE,z2,z⟩:=z;replace z:=av z;obtain⟨z,y0⟩:=z;subst y0;obtain⟨d,h1,S1,e1,q1,o1⟩:=io z1 f;obtain⟨ds,h2,S2,e2,q2,o2⟩:=is z2 o1.f;have hm':fz m=false:=by simpa using hm
  have rO:=(q1.tr o1.f o2.tr id (ju e1)).t;obtain⟨a1,r,a2,a3⟩:=CC z hm' rO q2.t;have hr:Ev.qQ m d h1=true:=by
   unfold cT at z;split at z
   .have:=q1.t;simp only[aK,Rep]at this;subst this;rfl
   .cases z
  exact⟨r,h2,S2,by simp only[Ev.ev,e1,Ev.aj,hr,D6,e2,a2],.of a3,(o1.trans o2).weak (by simp only[aT];intro i hi;simp at hi ⊢;rcases hi with hi|hi<;>simp[hi])⟩
def pQ{elt:E}{t:T}{cond:Eo}(ii:gx P P' it)(ic:nS P P' cond)(ie:aL P P' elt):aL P P' (.comp elt t it cond):=λz f=>by
 simp only[ev]at z;replace z:=ah z;obtain⟨vs,ak,z1,z⟩:=z;split at z
 case isFalse=>cases z
 rename_i hu;replace z:=av z;obtain⟨z,y0⟩:=z;subst y0;simp only[bL]at z;obtain⟨rs,z2,z3⟩:=z;obtain⟨s,h1,S1,e1,q1,q2,o1⟩:=ii z1 f;have J2:=o1.f.ro;obtain⟨rs',h2,S2,c1,c2,c3⟩:=rN (f':=λd h2=>match Ev.bD t d _ with
    |none=>.bad
    |some ak=>(Ev.fT P' cond ak h2).bind λk h3=>if k then (Ev.ev P' elt ak h3).bind λx h4=>.ok (some x) h4 else .ok none h3) (ck:=s.2) o1.f.w (λq hq=>(q2 q hq).1) (λv o d h S al y q=>by
  split at y
  .cases y
  .rename_i bE y1;obtain⟨fM,b1,b2,_,_⟩:=(J2.al al).bD y1 q;rw[b1];split at y
   .rename_i c dX y2;obtain⟨h3,S3,c1,oc⟩:=ic y2 b2;have CS:Al h S h3 S3:=oc.tr.al λm z=>z.1;split at y
    .rename_i hc;subst hc;split at y
     .rename_i x mJ y3;cases y;obtain⟨d',h4,S4,d1,d2,od⟩:=ie y3 (b2.al CS);refine⟨some d',h4,S4,?_,⟨d',rfl,d2.n⟩,CS.trans (od.tr.al λm z=>z.1)⟩;simp only[c1,Ev.aj,D6,d1]
     .cases y
    .rename_i hc;cases y;refine⟨none,h3,S3,?_,rfl,CS⟩;simp only[c1,Ev.aj];rw[yL hc]
   .cases y) Al.refl z2 q1
 obtain⟨r,h4,S4,a1,a2,a3⟩:=gn (o1.f.al c3).w z3 c2;refine⟨r,h4,S4,?_,.of a2,(o1.al c3).al a3⟩;simp only[Ev.ev,e1,Ev.aj];rw[eO (o1.f.undef hu)];refine Eq.trans (AD (λq:Ev.R (List D)=>q.bind λds h2=>Ev.alloc ds h2) c1) ?_;simp only[Ev.aj,a1]
def u7(ii:gx P P' it):aL P P' (.fR it):=λz f=>by
 simp only[ev]at z;replace z:=ah z;obtain⟨vs,ak,z1,z⟩:=z;replace z:=av z;obtain⟨z,y0⟩:=z;subst y0;obtain⟨s,h1,S1,e1,q1,q2,o1⟩:=ii z1 f;obtain⟨r,h4,S4,a1,a2,a3⟩:=gn o1.f.w z q1;exact⟨r,h4,S4,by simp only[Ev.ev,e1,Ev.aj,a1],.of a2,o1.al a3⟩
def CT:fX P P' .nil:=λ{k fr v af M B h S ai} z f=>by
 simp only[br]at z;cases z;refine⟨[],_,_,by simp only[Ev.br],?_,.refl f⟩;unfold fW;split<;>rfl
def z9(ie:aL P P' e)(is:fX P P' es):fX P P' (.cons e es):=λ{k fr v af M B h S ai} z f=>by
 simp only[br]at z;replace z:=ah z;obtain⟨x,ak,z1,z⟩:=z;replace z:=ah z;obtain⟨xs,bE,z2,z⟩:=z;cases z;obtain⟨d,h1,S1,e1,q1,o1⟩:=ie z1 f;obtain⟨ds,h2,S2,e2,q2,o2⟩:=is z2 o1.f;have rO:=q1.tr (a:=e) o1.f o2.tr (by intro z;simp at z;exact z.2) (ju e1);refine⟨d :: ds,h2,S2,by simp only[Ev.br,e1,Ev.aj,e2],?_,o1.trans o2⟩;unfold fW at q2 ⊢;cases k with
 |true=>simp only[D6]at q2 ⊢;exact⟨d,ds,rfl,rO.t,q2⟩
 |false=>
  simp only[xF,K0]at q2 ⊢;exact .cons (by simpa[dF]using rO) q2
def Aa:kL P P' .nil:=λz f=>by
 simp only[dj]at z;cases z;exact⟨[],_,_,by simp only[Ev.br],rfl,.refl f⟩
def wZ(ie:aL P P' e)(is:kL P P' es):kL P P' (.cons e es):=λ{fr v af M B h S ai} z f=>by
 simp only[dj]at z;cases y:gT fr e with
 |some i=>
  rw[y]at z;try simp only at z
  replace z:=ah z;obtain⟨xs,bE,z2,z⟩:=z;cases z;have hy:e=.v i/\∃s,lent fr i=some s:=by
   cases e<;>simp only[gT,reduceCtorEq]at y
   rename_i j;split at y
   .rename_i hs;cases y;exact⟨rfl,Option.isSome_iff_exists.mp hs⟩
   .cases y
  obtain⟨rfl,s,hs⟩:=hy;obtain⟨n,cs,_,_,_,w2,w3,_,_⟩:=gf hs f;obtain⟨ds,h2,S2,e2,q2,o2⟩:=is z2 f;refine⟨.ref n :: ds,h2,S2,?_,⟨_,_,rfl,w2,q2⟩,o2.weak (by simp only[dD,aT];intro i hi;simpa using hi)⟩;simp only[Ev.br,Ev.ev,w2,Option.join,Option.bind,id,Ev.b9,Ev.aj,e2]
 |none=>
  rw[y]at z;try simp only at z
  replace z:=ah z;obtain⟨x,ak,z1,z⟩:=z;replace z:=ah z;obtain⟨xs,bE,z2,z⟩:=z;cases z;obtain⟨d,h1,S1,e1,q1,o1⟩:=ie z1 f;obtain⟨ds,h2,S2,e2,q2,o2⟩:=is z2 o1.f;exact⟨d :: ds,h2,S2,by simp only[Ev.br,e1,Ev.aj,e2],⟨_,_,rfl,q1.n.tr o1.f o2.tr,q2⟩,o1.trans o2⟩
def EZ:kM P P' .no:=λz f=>by
 simp only[dc]at z;cases z;exact⟨_,_,by simp only[Ev.dc],.refl f⟩
def CU(ie:aL P P' e):kM P P' (.yes e):=λz f=>by
 simp only[dc]at z;replace z:=ah z;obtain⟨x,ak,z1,z⟩:=z;replace z:=av z;obtain⟨z,y0⟩:=z;subst y0;obtain⟨d,h1,S1,e1,q1,o1⟩:=ie z1 f;cases x<;>simp[intOf]at z
 subst z;have q:=q1.t;simp only[aK,Rep]at q;subst q;exact⟨h1,S1,by simp only[Ev.dc,e1,Ev.aj];rfl,o1⟩
def CV:nS P P' .no:=λz f=>by
 simp only[fT]at z;cases z;exact⟨_,_,by simp only[Ev.fT],.refl f⟩
def Ab(ie:ef P P' e):nS P P' (.yes e):=λz f=>by
 simp only[fT]at z;obtain⟨h1,S1,e1,o1⟩:=ie z f;exact⟨h1,S1,by simp only[Ev.fT,e1],o1⟩
def Ij(ia:ef P P' a)(ib:ef P P' b):ef P P' (.an a b):=λz f=>by
 simp only[aD]at z;replace z:=ah z;obtain⟨k,af,z1,z⟩:=z;obtain⟨h1,S1,e1,o1⟩:=ia z1 f;cases k with
 |true=>
  simp only[D6]at z;obtain⟨h2,S2,e2,o2⟩:=ib z o1.f;exact⟨h2,S2,by simp only[Ev.aD,e1,Ev.aj,D6,e2],o1.trans o2⟩
 |false=>
  simp only[xF,K0]at z;cases z;exact⟨h1,S1,by simp only[Ev.aD,e1,Ev.aj];rfl,o1.weak (by simp only[aT];intro i hi;simp[hi])⟩
def E1(ia:ef P P' a)(ib:ef P P' b):ef P P' (.orr a b):=λz f=>by
 simp only[aD]at z;replace z:=ah z;obtain⟨k,af,z1,z⟩:=z;obtain⟨h1,S1,e1,o1⟩:=ia z1 f;cases k with
 |false=>
  simp only[xF,K0]at z;obtain⟨h2,S2,e2,o2⟩:=ib z o1.f;exact⟨h2,S2,by simp only[Ev.aD,e1,Ev.aj];rw[yL (by decide)];exact e2,o1.trans o2⟩
 |true=>
  simp only[D6]at z;cases z;exact⟨h1,S1,by simp only[Ev.aD,e1,Ev.aj];rfl,o1.weak (by simp only[aT];intro i hi;simp[hi])⟩
def Ik(ia:ef P P' a):ef P P' (.nt a):=λz f=>by
 simp only[aD]at z;replace z:=ah z;obtain⟨k,af,z1,z⟩:=z;obtain⟨h1,S1,e1,o1⟩:=ia z1 f;cases z;exact⟨h1,S1,by simp only[Ev.aD,e1,Ev.aj],o1⟩
def cy(ie:aL P P' e)(h1:∀fr,aD P e fr=(ev P true e fr).bind λx af=>.ok (truthy x) af)(h2:∀fr h,Ev.aD P' e fr h=(Ev.ev P' e fr h).bind λx h1=>Ev.R.of (Ev.truthy h1 x) h1):ef P P' e:=λz f=>by
 rw[h1]at z;replace z:=ah z;obtain⟨x,af,z1,z⟩:=z;cases z;obtain⟨d,h1,S1,e1,q1,o1⟩:=ie z1 f;exact⟨h1,S1,by rw[h2,e1,Ev.aj,uT q1.t];rfl,o1⟩
def u9(ie:aL P P' e){k:Bool}{fr:Fr}{v:V}{af:Fr}{M B:Nat->Prop}{h:Hh}{S:Nat->Prop}{ai:Ev.Fr}(z:src k fr e (ev P k e fr)=.ok v af)(f:aP M B h S fr ai) :
  ∃d h' S',Ev.ev P' e ai h=.ok d h'/\aK h' S' v d/\(k=false->∀n,d=.ref n->¬ M n)/\Out M B (aT e) h S fr ai h' S' af:=by
 have gen:ev P k e fr=.ok v af->∃d h' S',Ev.ev P' e ai h=.ok d h'/\aK h' S' v d/\(k=false->∀n,d=.ref n->¬ M n)/\Out M B (aT e) h S fr ai h' S' af:=λz=>by
  obtain⟨d,h1,S1,e1,q1,o1⟩:=ie z f;refine⟨d,h1,S1,e1,q1.t,λhk n hd=>?_,o1⟩;subst hk;have q:=q1.n;cases v<;>simp only[Rep]at q
  .cases q.symm.trans hd
  .cases q.symm.trans hd
  .cases q.symm.trans hd
  .cases q.symm.trans hd
  .obtain⟨_,q,_⟩:=q;cases q.symm.trans hd
  .obtain⟨m,ds,q,sm,_⟩:=q;cases q.symm.trans hd;exact(o1.f.wS _ sm).2.1
  .obtain⟨m,ds,q,sm,_⟩:=q;cases q.symm.trans hd;exact(o1.f.wS _ sm).2.1
 cases e
 case v i=>
  simp only[src]at z;replace z:=av z;obtain⟨z,y0⟩:=z;subst y0;unfold sU at z;split at z
  .rename_i l y;cases z;obtain⟨p,e1,m,ds,rfl,y1,y2,y3⟩:=f.get y;exact⟨.ref m,h,S,by simp only[Ev.ev,e1,Option.join,Option.bind,id,Ev.b9],⟨m,ds,rfl,y2,y3⟩,λ_ n hn=>by cases hn;exact y1,.refl f⟩
  .exact gen (by simp only[ev,z,b9])
 all_goals exact gen z
def CW(ie:aL P P' e):gx P P' (.seq e):=λz f=>by
 simp only[bO]at z;replace z:=ah z;obtain⟨x,af,z1,z⟩:=z;replace z:=av z;obtain⟨z,y0⟩:=z;subst y0;obtain⟨d,h1,S1,e1,q1,q2,o1⟩:=u9 ie z1 f;obtain⟨s,a1,a2,a3⟩:=wV z q1;exact⟨s,h1,S1,by simp only[Ev.bO,e1,Ev.aj,a1,Ev.b9],a2,λq hq=>⟨(a3 q hq).2,λhk=>q2 hk _ (a3 q hq).1⟩,o1⟩
def Ac(is:fX P P' es):gx P P' (.eF es):=λz f=>by
 simp only[bO]at z;replace z:=ah z;obtain⟨x,af,z1,z⟩:=z;replace z:=av z;obtain⟨z,y0⟩:=z;subst y0;obtain⟨d,h1,S1,e1,q1,o1⟩:=is z1 f;obtain⟨s,a1,a2⟩:=CD z q1.t;exact⟨(s,[]),h1,S1,by simp only[Ev.bO,e1,Ev.aj,a1,Ev.b9],a2,λq hq=>by simp at hq,o1⟩
def w9(ie:aL P P' e):gx P P' (.enum e):=λz f=>by
 simp only[bO]at z;replace z:=ah z;obtain⟨x,af,z1,z⟩:=z;replace z:=av z;obtain⟨z,y0⟩:=z;subst y0;obtain⟨d,h1,S1,e1,q1,q2,o1⟩:=u9 ie z1 f;simp only[bC]at z;obtain⟨l,z,rfl⟩:=z;obtain⟨s,a1,a2,a3⟩:=zW z q1;exact⟨(Ev.ee 0 s.1,s.2),h1,S1,by simp only[Ev.bO,e1,Ev.aj,a1,Option.map,Ev.b9],rJ 0 a2,λq hq=>⟨(a3 q hq).2,λhk=>q2 hk _ (a3 q hq).1⟩,o1⟩
def Ad(ie:aL P P' e):gx P P' (.rev e):=λz f=>by
 simp only[bO]at z;replace z:=ah z;obtain⟨x,af,z1,z⟩:=z;replace z:=av z;obtain⟨z,y0⟩:=z;subst y0;obtain⟨d,h1,S1,e1,q1,o1⟩:=ie z1 f;simp only[bC]at z;obtain⟨l,z,rfl⟩:=z;cases x<;>simp only[Cu,reduceCtorEq]at z
 cases z;have k1:=q1.t;simp only[aK,Rep]at k1;obtain⟨ds,y1,k2⟩:=k1;subst y1;exact⟨(ds.reverse,[]),h1,S1,by simp only[Ev.bO,e1,Ev.aj,Ev.Bv,Option.map,Ev.b9],k2.reverse,λq hq=>by simp at hq,o1⟩
def Ae(ia:aL P P' a)(ib:aL P P' b):gx P P' (.gS a b):=λz f=>by
 simp only[bO]at z;replace z:=two ia ib z f;obtain⟨x,y,d,e,h2,S2,ak,k,z,q1,q2,ou⟩:=z;replace z:=av z;obtain⟨z,y0⟩:=z;subst y0;unfold lY at z;split at z
 .rename_i a c;simp only[aK,Rep]at q1 q2;subst q1;subst q2;split at z
  case isFalse=>cases z
  rename_i hc;cases z;exact⟨((Ev.aM c a).map .str,[]),h2,S2,by simp only[Ev.bO];rw[k];simp[Ev.oW,hc],ao.map (f:=V.str) (g:=D.str) (λs=>by simp[Rep]) _,λq hq=>by simp at hq,ou⟩
 .cases z
end
section
variable{P:aB}{P':Ev.aB}(HP:kI P P')
include HP
mutual
theorem aF:∀e:E,aL P P' e
 |.c _=>CO
 |.v _=>CP
 |.tup es=>uV (dG es)
 |.lst es=>uW (dG es)
 |.bin _ a b=>uX (aF a) (aF b)
 |.cmp _ a b=>uY (aF a) (aF b)
 |.ch _ _ a b c=>yx (aF a) (aF b) (aF c)
 |.nt a=>EX (aF a)
 |.neg a=>uZ (aF a)
 |.an a b=>EY (aF a) (aF b)
 |.orr a b=>CQ (aF a) (aF b)
 |.qP t a b=>u0 (dY t) (aF a) (aF b)
 |.ix a b=>yw (aF a) (aF b)
 |.sl a lo hi=>yy (aF a) (kN lo) (kN hi)
 |.cl _ es=>yz HP (pR es)
 |.bi _ es=>yC (dG es)
 |.me _ o es=>yD (aF o) (dG es)
 |.dB a _=>u5 (aF a)
 |.comp elt _ it cond=>pQ (gW it) (vc cond) (aF elt)
 |.fR it=>u7 (gW it)
 |.cV _ a=>rP (aF a)
 |.iG a=>u6 (aF a)
theorem dY:∀e:E,ef P P' e
 |.an a b=>Ij (dY a) (dY b)
 |.orr a b=>E1 (dY a) (dY b)
 |.nt a=>Ik (dY a)
 |.c x=>cy CO (λ_=>by simp only[aD]) (λ_ _=>by simp only[Ev.aD])
 |.v x=>cy CP (λ_=>by simp only[aD]) (λ_ _=>by simp only[Ev.aD])
 |.tup es=>cy (uV (dG es)) (λ_=>by simp only[aD]) (λ_ _=>by simp only[Ev.aD])
 |.lst es=>cy (uW (dG es)) (λ_=>by simp only[aD]) (λ_ _=>by simp only[Ev.aD])
 |.bin _ a b=>cy (uX (aF a) (aF b)) (λ_=>by simp only[aD]) (λ_ _=>by simp only[Ev.aD])
 |.cmp _ a b=>cy (uY (aF a) (aF b)) (λ_=>by simp only[aD]) (λ_ _=>by simp only[Ev.aD])
 |.ch _ _ a b c=>cy (yx (aF a) (aF b) (aF c)) (λ_=>by simp only[aD]) (λ_ _=>by simp only[Ev.aD])
 |.neg a=>cy (uZ (aF a)) (λ_=>by simp only[aD]) (λ_ _=>by simp only[Ev.aD])
 |.qP t a b=>cy (u0 (dY t) (aF a) (aF b)) (λ_=>by simp only[aD]) (λ_ _=>by simp only[Ev.aD])
 |.ix a b=>cy (yw (aF a) (aF b)) (λ_=>by simp only[aD]) (λ_ _=>by simp only[Ev.aD])
 |.sl a lo hi=>cy (yy (aF a) (kN lo) (kN hi)) (λ_=>by simp only[aD]) (λ_ _=>by simp only[Ev.aD])
 |.cl _ es=>cy (yz HP (pR es)) (λ_=>by simp only[aD]) (λ_ _=>by simp only[Ev.aD])
 |.bi _ es=>cy (yC (dG es)) (λ_=>by simp only[aD]) (λ_ _=>by simp only[Ev.aD])
 |.me _ o es=>cy (yD (aF o) (dG es)) (λ_=>by simp only[aD]) (λ_ _=>by simp only[Ev.aD])
 |.dB a _=>cy (u5 (aF a)) (λ_=>by simp only[aD]) (λ_ _=>by simp only[Ev.aD])
 |.comp elt _ it cond=>cy (pQ (gW it) (vc cond) (aF elt)) (λ_=>by simp only[aD]) (λ_ _=>by simp only[Ev.aD])
 |.fR it=>cy (u7 (gW it)) (λ_=>by simp only[aD]) (λ_ _=>by simp only[Ev.aD])
 |.cV _ a=>cy (rP (aF a)) (λ_=>by simp only[aD]) (λ_ _=>by simp only[Ev.aD])
 |.iG a=>cy (u6 (aF a)) (λ_=>by simp only[aD]) (λ_ _=>by simp only[Ev.aD])
theorem dG:∀e:Es,fX P P' e
 |.nil=>CT
 |.cons e es=>z9 (aF e) (dG es)
theorem pR:∀e:Es,kL P P' e
 |.nil=>Aa
 |.cons e es=>wZ (aF e) (pR es)
theorem kN:∀e:Eo,kM P P' e
 |.no=>EZ
 |.yes e=>CU (aF e)
theorem vc:∀e:Eo,nS P P' e
 |.no=>CV
 |.yes e=>Ab (dY e)
theorem gW:∀e:It,gx P P' e
 |.seq e=>CW (aF e)
 |.eF es=>Ac (dG es)
 |.enum a=>w9 (aF a)
 |.rev a=>Ad (aF a)
 |.gS a b=>Ae (aF a) (aF b)
end
end
structure Tr(M B:Nat->Prop)(h:Hh)(S:Nat->Prop)(M':Nat->Prop)(h':Hh)(S':Nat->Prop):Prop where
 len:h.length<=h'.length
 keep:∀m,m<h.length->¬ M m->h'[m]?=h[m]?
 sub:∀m,S m->S' m
 new:∀m,S' m->S m\/(h.length<=m/\m<h'.length)\/(M m/\¬ B m)
 sW:∀m,M' m->M m\/h.length<=m
structure cC(M B:Nat->Prop)(h:Hh)(S:Nat->Prop)(fr:Fr)(ai:Ev.Fr)(M':Nat->Prop)(h':Hh)(S':Nat->Prop)(af:Fr)(aY:Ev.Fr):Prop where
 f:aP M' B h' S' af aY
 tr:Tr M B h S M' h' S'
 lk:∀i,locked af i=locked fr i
 rf:∀i,locked fr i=true->aY[i]?=ai[i]?
noncomputable def eN(h:Hh)(S:Nat->Prop):Fl->Ev.Fl->Prop
 |.nx,g=>g=.nx
 |.bk,g=>g=.bk
 |.ct,g=>g=.ct
 |.ret v,g=>∃d,g=.ret d/\Rep h S v d
section
variable{M B M' M1 M2:Nat->Prop}{h h1 h2:Hh}{S S' S1 S2:Nat->Prop}{fr af ak:Fr}{ai aY iy:Ev.Fr}{c:List Nat}{v:V}{d:D}
def cC.refl(f:aP M B h S fr ai):cC M B h S fr ai M h S fr ai:=⟨f,⟨gV _,λ_ _ _=>rfl,λ_ q=>q,λ_ q=>.inl q,λ_ q=>.inl q⟩,λ_=>rfl,λ_ _=>rfl⟩
def Out.s(o:Out M B c h S fr ai h1 S1 af):cC M B h S fr ai M h1 S1 af ai:=⟨o.f,⟨o.tr.len,λm y1 y2=>o.tr.keep m y1 (λz=>y2 z.1),o.tr.sub,λm q=>(o.tr.new m q).imp id .inl,λ_ q=>.inl q⟩,o.lk,λ_ _=>rfl⟩
theorem cC.trans(f0:aP M B h S fr ai)(a:cC M B h S fr ai M1 h1 S1 af aY)(b:cC M1 B h1 S1 af aY M2 h2 S2 ak iy):cC M B h S fr ai M2 h2 S2 ak iy where
 f:=b.f
 tr:=⟨xE a.tr.len b.tr.len,λm y1 y2=>by
   rw[b.tr.keep m (b7 y1 a.tr.len) (λz=>by
    rcases a.tr.sW m z with z|z
    .exact y2 z
    .omega),a.tr.keep m y1 y2],λm q=>b.tr.sub m (a.tr.sub m q),λm q=>by
   rcases b.tr.new m q with q|q|q
   .rcases a.tr.new m q with q|q|q
    .exact .inl q
    .exact .inr (.inl ⟨q.1,b7 q.2 b.tr.len⟩)
    .exact .inr (.inr q)
   .exact .inr (.inl ⟨xE a.tr.len q.1,q.2⟩)
   .rcases a.tr.sW m q.1 with z|z
    .exact .inr (.inr ⟨z,q.2⟩)
    .exact .inr (.inl ⟨z,b7 (a.f.wM m q.1) b.tr.len⟩),λm q=>by
   rcases b.tr.sW m q with q|q
   .exact a.tr.sW m q
   .exact .inr (xE a.tr.len q)⟩
 lk:=λi=>(b.lk i).trans (a.lk i)
 rf:=λi q=>(b.rf i (by rw[a.lk i];exact q)).trans (a.rf i q)
def aP.kind(f:aP M B h S fr ai)(g:Option Sl->Option Sl->Prop)(hl:af.length=fr.length)(hg:∀(i:Nat) o,af[i]?=some o->∃o0,fr[i]?=some o0/\(o=o0\/(∃l,o0=some (.own l)/\o=some (.val (.lst l)))\/(∃l,o0=some (.bor l)/\o=some (.ro l)))) :
  ∃M' S',cC M B h S fr ai M' h S' af ai:=by
 let X:Nat->Prop:=λm=>∃(i:Nat) (l:List V),fr[i]?=some (some (Sl.own l))/\af[i]?=some (some (Sl.val (V.lst l)))/\ai[i]?=some (some (D.ref m))
 let Y:Nat->Prop:=λm=>∃(i:Nat) (l:List V),fr[i]?=some (some (Sl.bor l))/\af[i]?=some (some (Sl.ro l))/\ai[i]?=some (some (D.ref m))
 have xM:∀m,X m->M m/\¬ B m:=λm ⟨i,l,a,_,b⟩=>by
  obtain⟨m',ds,e,q,_⟩:=f.sl i _ _ a b;cases e;exact q
 have yM:∀m,Y m->M m/\B m:=λm ⟨i,l,a,_,b⟩=>by
  obtain⟨m',ds,e,q,_⟩:=f.sl i _ _ a b;cases e;exact q
 have mono:∀{l:List V} {ds:List D},ao h S l ds->ao h (λm=>S m\/X m) l ds:=λq=>q.mono (λ_ _=>rfl) λ_ z=>.inl z;refine⟨λm=>M m/\¬ X m/\¬ Y m,λm=>S m\/X m,⟨⟨λm q=>?_,λm q=>f.wM m q.1,f.wB,by rw[hl,f.len],λi o p e1 e2=>?_,λi j o o' m y1 y2 y3 y4 y5 y6=>?_⟩,⟨gV _,λ_ _ _=>rfl,λ_ q=>.inl q,λm q=>?_,λm q=>.inl q.1⟩,λi=>?_,λ_ _=>rfl⟩⟩
 .rcases q with q|q
  .exact⟨(f.wS m q).1,λz=>(f.wS m q).2.1 z.1,(f.wS m q).2.2⟩
  .exact⟨f.wM m (xM m q).1,λz=>z.2.1 q,(xM m q).2⟩
 .obtain⟨o0,e0,k⟩:=hg i o e1;have old:=f.sl i o0 p e0 e2;rcases k with rfl|⟨l,rfl,rfl⟩|⟨l,rfl,rfl⟩
  .rcases o with _|s
   .exact old
   .cases s with
    |val v=>obtain⟨d,e,q⟩:=old;exact⟨d,e,q.mono (λ_ _=>rfl) λ_ z=>.inl z⟩
    |own l=>
     obtain⟨m,ds,rfl,z,y,q⟩:=old;refine⟨m,ds,rfl,⟨⟨z.1,λ⟨j,l',a1,a2,a3⟩=>?_,λ⟨j,l',a1,a2,a3⟩=>?_⟩,z.2⟩,y,mono q⟩
     .have:=f.inj i j _ _ m e0 a1 rfl rfl e2 a3;subst this;rw[e1]at a2;cases a2
     .have:=f.inj i j _ _ m e0 a1 rfl rfl e2 a3;subst this;rw[e1]at a2;cases a2
    |bor l=>
     obtain⟨m,ds,rfl,z,y,q⟩:=old;refine⟨m,ds,rfl,⟨⟨z.1,λ⟨j,l',a1,a2,a3⟩=>?_,λ⟨j,l',a1,a2,a3⟩=>?_⟩,z.2⟩,y,mono q⟩
     .have:=f.inj i j _ _ m e0 a1 rfl rfl e2 a3;subst this;rw[e1]at a2;cases a2
     .have:=f.inj i j _ _ m e0 a1 rfl rfl e2 a3;subst this;rw[e1]at a2;cases a2
    |ro l=>obtain⟨m,ds,rfl,z,y,q⟩:=old;exact⟨m,ds,rfl,λw=>z w.1,y,mono q⟩
  .obtain⟨m,ds,rfl,z,y,q⟩:=old;exact⟨.ref m,rfl,m,ds,rfl,.inr ⟨i,l,e0,e1,e2⟩,y,mono q⟩
  .obtain⟨m,ds,rfl,z,y,q⟩:=old;exact⟨m,ds,rfl,λw=>w.2.2 ⟨i,l,e0,e1,e2⟩,y,mono q⟩
 .have kd:∀(i:Nat) o,af[i]?=some o->eK o=true->∃o0,fr[i]?=some o0/\eK o0=true:=λi o w1 w2=>by
   obtain⟨o0,e0,k⟩:=hg i o w1;rcases k with rfl|⟨l,rfl,rfl⟩|⟨l,rfl,rfl⟩
   .exact⟨o,e0,w2⟩
   .cases w2
   .cases w2
  obtain⟨oi,k1,k2⟩:=kd i o y1 y3;obtain⟨oj,k3,k4⟩:=kd j o' y2 y4;exact f.inj i j oi oj m k1 k3 k2 k4 y5 y6
 .rcases q with q|q
  .exact .inl q
  .exact .inr (.inr (xM m q))
 .unfold locked;cases z:af[i]? with
  |none=>
   have:fr[i]?=none:=by rw[Mc]at z ⊢;omega
   rw[this]
  |some o=>
   obtain⟨o0,e0,k⟩:=hg i o z;rw[e0];rcases k with rfl|⟨l,rfl,rfl⟩|⟨l,rfl,rfl⟩<;>rfl
def aP.fk(f:aP M B h S fr ai):∃M' S',cC M B h S fr ai M' h S' (gw fr) ai:=by
 refine f.kind (λ_ _=>True) (by simp[gw]) λi o e=>?_;unfold gw at e;rw[GP]at e;cases z:fr[i]? with
 |none=>rw[z]at e;cases e
 |some o0=>
  rw[z]at e;cases e;refine⟨o0,rfl,?_⟩;rcases o0 with _|s
  .exact .inl rfl
  .cases s with
   |own l=>exact .inr (.inl ⟨l,rfl,rfl⟩)
   |_=>exact .inl rfl
theorem aP.walk:∀(is:List Nat) {M:Nat->Prop}{S:Nat->Prop}{fr:Fr},aP M B h S fr ai->∃M' S',cC M B h S fr ai M' h S' (nR is fr) ai
 |[],_,_,_,f=>⟨_,_,.refl f⟩
 |i :: is,M,S,fr,f=>by
  have one:∃M1 S1,cC M B h S fr ai M1 h S1 (match fr[i]? with|some (some s)=>fr.set i (some s.walk)|_=>fr) ai:=by
   split
   .rename_i s z;have hl:=(List.getElem?_eq_some_iff.mp z).1;refine f.kind (λ_ _=>True) (by simp) λj o e=>?_;by_cases hj:i=j
    .subst hj;rw[kZ hl]at e;cases e;refine⟨_,z,?_⟩;cases s with
     |own l=>exact .inr (.inl ⟨l,rfl,rfl⟩)
     |bor l=>exact .inr (.inr ⟨l,rfl,rfl⟩)
     |_=>exact .inl rfl
    .rw[bU hj]at e;exact⟨o,e,.inl rfl⟩
   .exact⟨M,S,.refl f⟩
  obtain⟨M1,S1,o1⟩:=one;obtain⟨M2,S2,o2⟩:=aP.walk is o1.f;exact⟨M2,S2,o1.trans f o2⟩
theorem aP.own(f:aP M B h S fr ai){i:Nat}{l:List V}{ds:List D}(e:put fr i (.own l)=some af)(q:ao h S l ds):cC M B h S fr ai (λm=>M m\/m=h.length) (h++[.lst ds]) S af (ai.set i (some (.ref h.length))):=by
 have hx:af=fr.set i (some (.own l))/\locked fr i=false:=by
  unfold put at e;unfold locked;split at e
  .cases e
  .cases e
  .rename_i k1 k2;cases e;refine⟨rfl,?_⟩;cases z:fr[i]? with
   |none=>rfl
   |some o=>
    rcases o with _|s
    .rfl
    .cases s with
     |bor l=>exact absurd z (k1 l)
     |ro l=>exact absurd z (k2 l)
     |_=>rfl
 obtain⟨rfl,hk⟩:=hx;have kp:∀m,m<h.length->(h++[O.lst ds])[m]?=h[m]?:=λm z=>by rw[dJ z]
 have kS:∀m,S m->(h++[O.lst ds])[m]?=h[m]?:=λm z=>kp m (f.w m z);refine⟨⟨λm y=>⟨by have:=(f.wS m y).1;simp;omega,λz=>?_,(f.wS m y).2.2⟩,λm y=>?_,λm y=>by have:=f.wB m y;simp;omega,by simp[f.len],λj o p y1 y2=>?_,λj k o o' m y1 y2 y3 y4 y5 y6=>?_⟩,⟨by simp,λm y _=>kp m y,λ_ z=>z,λ_ z=>.inl z,λm z=>z.imp id (λz=>by omega)⟩,λj=>?_,λj hj=>?_⟩
 .rcases z with z|z
  .exact(f.wS m y).2.1 z
  .have:=(f.wS m y).1;omega
 .rcases y with y|y
  .have:=f.wM m y;simp;omega
  .subst y;simp
 .by_cases hj:i=j
  .subst hj;have hl:i<fr.length:=by have:=(List.getElem?_eq_some_iff.mp y1).1;simpa using this
   rw[kZ hl]at y1;rw[kZ (by rw[<-f.len];exact hl)]at y2;cases y1;cases y2;exact⟨h.length,ds,rfl,⟨.inr rfl,λz=>by have:=f.wB _ z;omega⟩,by simp,q.mono kS λ_ z=>z⟩
  .rw[bU hj]at y1 y2;have old:=f.sl j o p y1 y2;rcases o with _|s
   .exact old
   .cases s with
    |val v=>obtain⟨d,e,q⟩:=old;exact⟨d,e,q.mono kS λ_ z=>z⟩
    |own l=>obtain⟨m,es,rfl,z,y,q⟩:=old;exact⟨m,es,rfl,⟨.inl z.1,z.2⟩,by rw[kp m (f.wM m z.1)];exact y,q.mono kS λ_ z=>z⟩
    |bor l=>obtain⟨m,es,rfl,z,y,q⟩:=old;exact⟨m,es,rfl,⟨.inl z.1,z.2⟩,by rw[kp m (f.wM m z.1)];exact y,q.mono kS λ_ z=>z⟩
    |ro l=>
     obtain⟨m,es,rfl,z,y,q⟩:=old;have hm:=(List.getElem?_eq_some_iff.mp y).1;exact⟨m,es,rfl,λw=>by rcases w with w|w;exact z w;omega,by rw[kp m hm];exact y,q.mono kS λ_ z=>z⟩
 .have low:∀(j:Nat) o,i≠j->fr[j]?=some o->eK o=true->ai[j]?=some (some (.ref m))->m<h.length:=λj o _ w1 w2 w3=>f.wM m (f.mM w1 w2 w3);have new:∀(j:Nat),j<fr.length->i=j->(ai.set i (some (.ref h.length)))[j]?=some (some (.ref m))->m=h.length:=λj hl hj w=>by
   subst hj;rw[kZ (by rw[<-f.len];exact hl)]at w;cases w;rfl
  have lj:j<fr.length:=by have:=(List.getElem?_eq_some_iff.mp y1).1;simpa using this
  have lk:k<fr.length:=by have:=(List.getElem?_eq_some_iff.mp y2).1;simpa using this
  by_cases hj:i=j
  .by_cases hk2:i=k
   .rw[<-hj,<-hk2]
   .have a:=new j lj hj y5;rw[bU hk2]at y2 y6;have b:=low k o' hk2 y2 y4 y6;omega
  .by_cases hk2:i=k
   .have a:=new k lk hk2 y6;rw[bU hj]at y1 y5;have b:=low j o hj y1 y3 y5;omega
   .rw[bU hj]at y1 y5;rw[bU hk2]at y2 y6;exact f.inj j k o o' m y1 y2 y3 y4 y5 y6
 .by_cases hj:i=j
  .subst hj;rw[hk];unfold locked;by_cases hl:i<fr.length
   .rw[kZ hl];rfl
   .rw[LL (by simpa using hl)]
  .unfold locked;rw[bU hj]
 .have:i≠j:=λz=>by subst z;rw[hk]at hj;cases hj
  rw[bU this]
end
inductive GJ(P':Ev.aB)(w:Nat)(s:S)(g:Fl)(M B:Nat->Prop)(h:Hh)(S:Nat->Prop)(fr:Fr)(ai:Ev.Fr)(af:Fr):Prop
 |mk (g':Ev.Fl) (aY:Ev.Fr) (M':Nat->Prop) (h':Hh) (S':Nat->Prop) (c0:Ev.ex P' w s ai h=.ok (g',aY) h') (c1:eN h' S' g g') (c2:cC M B h S fr ai M' h' S' af aY):GJ P' w s g M B h S fr ai af
inductive CY(P':Ev.aB)(w:Nat)(s:Ss)(g:Fl)(M B:Nat->Prop)(h:Hh)(S:Nat->Prop)(fr:Fr)(ai:Ev.Fr)(af:Fr):Prop
 |mk (g':Ev.Fl) (aY:Ev.Fr) (M':Nat->Prop) (h':Hh) (S':Nat->Prop) (c0:Ev.exs P' w s ai h=.ok (g',aY) h') (c1:eN h' S' g g') (c2:cC M B h S fr ai M' h' S' af aY):CY P' w s g M B h S fr ai af
section
variable(P:aB)(P':Ev.aB)(w:Nat)
noncomputable def j7(s:S):Prop:=∀{fr:Fr} {g:Fl} {af:Fr} {M B:Nat->Prop} {h:Hh} {S:Nat->Prop} {ai:Ev.Fr},ex P w s fr=.ok g af->aP M B h S fr ai->GJ P' w s g M B h S fr ai af
noncomputable def kO(s:Ss):Prop:=∀{fr:Fr} {g:Fl} {af:Fr} {M B:Nat->Prop} {h:Hh} {S:Nat->Prop} {ai:Ev.Fr},exs P w s fr=.ok g af->aP M B h S fr ai->CY P' w s g M B h S fr ai af
end
section
variable{P:aB}{P':Ev.aB}{w:Nat}(HP:kI P P')
include HP
def Af{i:Nat}{e:E}:j7 P P' w (.set i e):=λ{fr g af M B h S ai} z f=>by
 simp only[ex]at z;replace z:=ah z;obtain⟨x,ak,z1,z⟩:=z;by_cases hn:isNew e=true
 .rw[eO hn]at z;have key:∃l ds h1 S1,x=.lst l/\ao h1 S1 l ds/\Ev.ev P' e ai h=.ok (.ref h1.length) (h1++[.lst ds])/\Out M B (aT e) h S fr ai h1 S1 ak:=by
   cases e <;> (try simp only[isNew,xF]at hn)
   case lst es=>
    simp only[ev]at z1;replace z1:=ah z1;obtain⟨l,bE,z2,z1⟩:=z1;replace z1:=av z1;obtain⟨z1,y0⟩:=z1;subst y0;unfold di at z1;split at z1
    case isFalse=>cases z1
    rename_i hk;cases z1;obtain⟨ds,h1,S1,e1,q1,o1⟩:=dG HP es z2 f;refine⟨l,ds,h1,S1,rfl,q1.n,?_,o1⟩;simp only[Ev.ev,e1,Ev.aj,Ev.alloc];rw[eO (by rw[<-q1.n.length];exact hk)]
   case fR it=>
    simp only[ev]at z1;replace z1:=ah z1;obtain⟨l,bE,z2,z1⟩:=z1;replace z1:=av z1;obtain⟨z1,y0⟩:=z1;subst y0;unfold di at z1;split at z1
    case isFalse=>cases z1
    rename_i hk;cases z1;obtain⟨s,h1,S1,e1,q1,q2,o1⟩:=gW HP it z2 f;refine⟨l,s.1,h1,S1,rfl,q1,?_,o1⟩;simp only[Ev.ev,e1,Ev.aj,Ev.alloc];rw[eO (by rw[<-q1.length];exact hk)]
  obtain⟨l,ds,h1,S1,rfl,q1,e1,o1⟩:=key;simp only at z;replace z:=ah z;obtain⟨bE,dX,z2,z⟩:=z;replace z2:=av z2;obtain⟨z2,y0⟩:=z2;subst y0;cases z;have o2:=o1.f.own z2 q1;exact⟨.nx,_,_,_,_,by simp only[Ev.ex,e1,Ev.aj],rfl,o1.s.trans f o2⟩
 .rw[yL hn]at z;replace z:=ah z;obtain⟨bE,dX,z2,z⟩:=z;replace z2:=av z2;obtain⟨z2,y0⟩:=z2;subst y0;cases z;obtain⟨d,h1,S1,e1,q1,o1⟩:=aF HP e z1 f;obtain⟨f2,l2,r2⟩:=o1.f.set z2 q1.n;refine⟨.nx,_,_,_,_,by simp only[Ev.ex,e1,Ev.aj],rfl,o1.s.trans f ⟨f2,(cC.refl f2).tr,l2,r2⟩⟩
def Ag{l:List Nat}{e:E}:j7 P P' w (.sC l e):=λ{fr g af M B h S ai} z f=>by
 simp only[ex]at z;replace z:=ah z;obtain⟨x,ak,z1,z⟩:=z;replace z:=ah z;obtain⟨bE,dX,z2,z⟩:=z;replace z2:=av z2;obtain⟨z2,y0⟩:=z2;subst y0;cases z;obtain⟨d,h1,S1,e1,q1,o1⟩:=aF HP e z1 f;obtain⟨fM,b1,f2,l2,r2⟩:=o1.f.bD z2 q1.n;exact⟨.nx,_,_,_,_,by simp only[Ev.ex,e1,Ev.aj,b1],rfl,o1.s.trans f ⟨f2,(cC.refl f2).tr,l2,r2⟩⟩
def CZ{e:E}:j7 P P' w (.exp e):=λ{fr g af M B h S ai} z f=>by
 simp only[ex]at z;replace z:=ah z;obtain⟨x,ak,z1,z⟩:=z;cases z;obtain⟨d,h1,S1,e1,q1,o1⟩:=aF HP e z1 f;exact⟨.nx,_,_,_,_,by simp only[Ev.ex,e1,Ev.aj],rfl,o1.s⟩
def C0{e:E}:j7 P P' w (.ret e):=λ{fr g af M B h S ai} z f=>by
 simp only[ex]at z;replace z:=ah z;obtain⟨x,ak,z1,z⟩:=z;cases z;obtain⟨M1,S1,o1⟩:=f.fk;obtain⟨d,h2,S2,e1,q1,o2⟩:=aF HP e z1 o1.f;exact⟨.ret d,_,_,_,_,by simp only[Ev.ex,e1,Ev.aj],⟨d,rfl,q1.n⟩,o1.trans f o2.s⟩
omit HP in
theorem mh{F:V->Fr->R Fl}{F':D->Ev.Fr->Hh->Ev.R (Ev.Fl×Ev.Fr)}{ck:List (Nat×List D)}{B:Nat->Prop}{M0:Nat->Prop}{h0:Hh}{S0:Nat->Prop}{cL:Fr}{xg:Ev.Fr}(f0:aP M0 B h0 S0 cL xg)(st:∀q∈ck,aI h0 q.1=some q.2/\¬ M0 q.1)
  (turn:∀v d fr g af M h S ai,F v fr=.ok g af->aP M B h S fr ai->Rep h S v d->∃g' aY M' h' S',F' d ai h=.ok (g',aY) h'/\eN h' S' g g'/\cC M B h S fr ai M' h' S' af aY) :
  ∀{vs:List V} {ds:List D} {fr:Fr} {g:Fl} {af:Fr} {M:Nat->Prop} {h:Hh} {S:Nat->Prop} {ai:Ev.Fr},forL F vs fr=.ok g af->cC M0 B h0 S0 cL xg M h S fr ai->ao h S vs ds->
  ∃g' aY M' h' S',Ev.forL F' ck ds ai h=.ok (g',aY) h'/\eN h' S' g g'/\cC M0 B h0 S0 cL xg M' h' S' af aY
 |[],ds,fr,g,af,M,h,S,ai,e,o,q=>by
  simp only[forL]at e;simp only[ao]at q;subst q;cases e;refine⟨.nx,ai,M,h,S,?_,rfl,o⟩;simp only[Ev.forL];rw[eO (gp λx hx=>iw (st x hx).1 (o.tr.keep _ (kK (st x hx).1) (st x hx).2))]
 |v :: vs,ds,fr,g,af,M,h,S,ai,e,o,q=>by
  simp only[forL]at e;replace e:=ah e;obtain⟨p,ak,e1,e⟩:=e;simp only[ao]at q;obtain⟨d,es,rfl,q1,q2⟩:=q;obtain⟨g',iy,M2,h2,S2,t1,t2,t3⟩:=turn v d fr p ak M h S ai e1 o.f q1;have o2:=o.trans f0 t3;have yE:Ev.stays h ck=true:=gp λx hx=>iw (st x hx).1 (o.tr.keep _ (kK (st x hx).1) (st x hx).2);have GK:ao h2 S2 vs es:=q2.mono (λm z=>t3.tr.keep m (o.f.wS m z).1 (o.f.wS m z).2.1) t3.tr.sub;cases p with
  |nx=>
   simp only[eN]at t2;subst t2;simp only at e;obtain⟨kP,fM,M3,h3,S3,u1,u2,u3⟩:=mh f0 st turn e o2 GK;refine⟨kP,fM,M3,h3,S3,?_,u2,u3⟩;simp only[Ev.forL];rw[eO yE,t1,Ev.aj];exact u1
  |ct=>
   simp only[eN]at t2;subst t2;simp only at e;obtain⟨kP,fM,M3,h3,S3,u1,u2,u3⟩:=mh f0 st turn e o2 GK;refine⟨kP,fM,M3,h3,S3,?_,u2,u3⟩;simp only[Ev.forL];rw[eO yE,t1,Ev.aj];exact u1
  |bk=>
   simp only[eN]at t2;subst t2;simp only at e;cases e;refine⟨.nx,iy,M2,h2,S2,?_,rfl,o2⟩;simp only[Ev.forL];rw[eO yE,t1,Ev.aj]
  |ret x=>
   simp only[eN]at t2;obtain⟨d2,rfl,t2⟩:=t2;simp only at e;cases e;refine⟨.ret d2,iy,M2,h2,S2,?_,⟨d2,rfl,t2⟩,o2⟩;simp only[Ev.forL];rw[eO yE,t1,Ev.aj]
def C1{t:T}{it:It}{b:Ss}(ib:kO P P' w b):j7 P P' w (.for t it b):=λ{fr g af M B h S ai} z f=>by
 simp only[ex]at z;replace z:=ah z;obtain⟨vs,ak,z1,z⟩:=z;obtain⟨M1,S1,o1⟩:=f.walk (itv it);obtain⟨s,h2,S2,e1,q1,q2,o2⟩:=gW HP it z1 o1.f;have o3:=o1.trans f o2.s;obtain⟨g',aY,M',h',S',u1,u2,u3⟩:=mh (F':=λd ak h2=>match Ev.bD t d ak with
   |some bE=>Ev.exs P' w b bE h2
   |none=>.bad) (ck:=s.2) o2.f (λq hq=>⟨(q2 q hq).1,(q2 q hq).2 rfl⟩) (λv d fr g af M h S ai y f q=>by
  split at y
  .rename_i bE y1;obtain⟨fM,b1,b2,b3,b4⟩:=f.bD y1 q;rw[b1];obtain⟨g',aY,M',h',S',c1,c2,c3⟩:=ib y b2;exact⟨g',aY,M',h',S',c1,c2,(⟨b2,(cC.refl b2).tr,b3,b4⟩:cC M _ h S fr ai M h S bE fM).trans f c3⟩
  .cases y) z (cC.refl o2.f) q1
 refine⟨g',aY,M',h',S',?_,u2,o3.trans f u3⟩;simp only[Ev.ex,e1,Ev.aj];exact u1
theorem pS{t:E}{b:Ss}(ib:kO P P' w b):∀(n:Nat) {fr:Fr}{g:Fl}{af:Fr}{M B:Nat->Prop}{h:Hh}{S:Nat->Prop}{ai:Ev.Fr},dU (λak=>aD P t ak) (λak=>exs P w b ak) n fr=.ok g af->aP M B h S fr ai->
  ∃g' aY M' h' S',Ev.dU (λak h2=>Ev.aD P' t ak h2) (λak h2=>Ev.exs P' w b ak h2) n ai h=.ok (g',aY) h'/\eN h' S' g g'/\cC M B h S fr ai M' h' S' af aY
 |0,_,_,_,_,_,_,_,_,z,_=>by simp only[dU]at z;cases z
 |n+1,fr,g,af,M,B,h,S,ai,z,f=>by
  simp only[dU]at z;replace z:=ah z;obtain⟨k,ak,z1,z⟩:=z;obtain⟨h1,S1,e1,o1⟩:=dY HP t z1 f;cases k with
  |false=>
   simp only[xF,K0]at z;cases z;refine⟨.nx,ai,M,h1,S1,?_,rfl,o1.s⟩;simp only[Ev.dU,e1,Ev.aj];rw[yL (by decide)]
  |true=>
   simp only[D6]at z;replace z:=ah z;obtain⟨p,bE,z2,z⟩:=z;obtain⟨g',fM,M2,h2,S2,t1,t2,t3⟩:=ib z2 o1.f;have o2:=o1.s.trans f t3;cases p with
   |nx=>
    simp only[eN]at t2;subst t2;simp only at z;obtain⟨kP,xj,M3,h3,S3,u1,u2,u3⟩:=pS ib n z t3.f;refine⟨kP,xj,M3,h3,S3,?_,u2,o2.trans f u3⟩;simp only[Ev.dU,e1,Ev.aj,D6,t1];exact u1
   |ct=>
    simp only[eN]at t2;subst t2;simp only at z;obtain⟨kP,xj,M3,h3,S3,u1,u2,u3⟩:=pS ib n z t3.f;refine⟨kP,xj,M3,h3,S3,?_,u2,o2.trans f u3⟩;simp only[Ev.dU,e1,Ev.aj,D6,t1];exact u1
   |bk=>
    simp only[eN]at t2;subst t2;simp only at z;cases z;refine⟨.nx,fM,M2,h2,S2,?_,rfl,o2⟩;simp only[Ev.dU,e1,Ev.aj,D6,t1]
   |ret x=>
    simp only[eN]at t2;obtain⟨d2,rfl,t2⟩:=t2;simp only at z;cases z;refine⟨.ret d2,fM,M2,h2,S2,?_,⟨d2,rfl,t2⟩,o2⟩;simp only[Ev.dU,e1,Ev.aj,D6,t1]
def C2{t:E}{a b:Ss}(ia:kO P P' w a)(ib:kO P P' w b):j7 P P' w (.iff t a b):=λ{fr g af M B h S ai} z f=>by
 simp only[ex]at z;replace z:=ah z;obtain⟨k,ak,z1,z⟩:=z;obtain⟨h1,S1,e1,o1⟩:=dY HP t z1 f;cases k with
 |true=>
  simp only[D6]at z;obtain⟨g',aY,M',h',S',c1,c2,c3⟩:=ia z o1.f;exact⟨g',aY,M',h',S',by simp only[Ev.ex,e1,Ev.aj,D6,c1],c2,o1.s.trans f c3⟩
 |false=>
  simp only[xF,K0]at z;obtain⟨g',aY,M',h',S',c1,c2,c3⟩:=ib z o1.f;exact⟨g',aY,M',h',S',by simp only[Ev.ex,e1,Ev.aj];rw[yL (by decide)];exact c1,c2,o1.s.trans f c3⟩
mutual
theorem E2:∀s:S,j7 P P' w s
 |.set _ _=>Af HP
 |.sC _ _=>Ag HP
 |.exp _=>CZ HP
 |.ret _=>C0 HP
 |.iff _ a b=>C2 HP (gX a) (gX b)
 |.for _ _ b=>C1 HP (gX b)
 |.Bt _ b=>λz f=>by
  simp only[ex]at z;obtain⟨g',aY,M',h',S',c1,c2,c3⟩:=pS HP (gX b) w z f;exact⟨g',aY,M',h',S',by simp only[Ev.ex];exact c1,c2,c3⟩
 |.cZ _=>λz _=>by simp only[ex]at z;cases z
theorem gX:∀s:Ss,kO P P' w s
 |.nil=>λz f=>by simp only[exs]at z;cases z;exact⟨.nx,_,_,_,_,by simp only[Ev.exs],rfl,.refl f⟩
 |.cons s ss=>λz f=>by
  simp only[exs]at z;replace z:=ah z;obtain⟨p,ak,z1,z⟩:=z;obtain⟨g',iy,M2,h2,S2,t1,t2,t3⟩:=E2 s z1 f;cases p with
  |nx=>
   simp only[eN]at t2;subst t2;simp only at z;obtain⟨kP,fM,M3,h3,S3,u1,u2,u3⟩:=gX ss z t3.f;exact⟨kP,fM,M3,h3,S3,by simp only[Ev.exs,t1,Ev.aj,u1],u2,t3.trans f u3⟩
  |ct=>
   simp only[eN]at t2;subst t2;simp only at z;cases z;exact⟨.ct,iy,M2,h2,S2,by simp only[Ev.exs,t1,Ev.aj],rfl,t3⟩
  |bk=>
   simp only[eN]at t2;subst t2;simp only at z;cases z;exact⟨.bk,iy,M2,h2,S2,by simp only[Ev.exs,t1,Ev.aj],rfl,t3⟩
  |ret x=>
   simp only[eN]at t2;obtain⟨d2,rfl,t2⟩:=t2;simp only at z;cases z;exact⟨.ret d2,iy,M2,h2,S2,by simp only[Ev.exs,t1,Ev.aj],⟨d2,rfl,t2⟩,t3⟩
end
end
theorem mj{h:Hh}{S:Nat->Prop}{B:Nat->Prop}{h0:Hh}{S0:Nat->Prop}:∀{sl:List Sl}{ds:List D}{cs:Fr},sl.length=ds.length->
  (∀(a:Nat) s d,sl[a]?=some s->ds[a]?=some d->gQ B B h0 S0 (some s) (some d)/\locked cs a=rK (some s)/\(rK (some s)=true->∃m es l s',d=.ref m/\h[m]?=some (.lst es)/\ao h S l es/\cs[a]?=some (some s')/\s'.out=some l))->iZ h S sl ds ((cs.take sl.length).filterMap λo=>o.bind Sl.out)
 |[],ds,cs,_,_=>by simp[iZ]
 |s :: sl,[],cs,hl,_=>by simp at hl
 |s :: sl,d :: ds,[],hl,q=>by
  have ih:=mj (h:=h) (S:=S) (sl:=sl) (ds:=ds) (cs:=[]) (by simpa using hl) λa s' d' e1 e2=>by
   obtain⟨w1,w2,w3⟩:=q (a+1) s' d' (by simpa using e1) (by simpa using e2);exact⟨w1,by simpa[locked]using w2,λz=>by obtain⟨_,_,_,_,_,_,_,y,_⟩:=w3 z;simp at y⟩
  obtain⟨w1,w2,w3⟩:=q 0 s d (by simp) (by simp);cases s with
  |val v=>simp at ih ⊢;exact⟨d,ds,rfl,ih⟩
  |own l=>exact absurd w1 (by rintro⟨m,es,e,q,_⟩;exact q.2 q.1)
  |bor l=>obtain⟨_,_,_,_,_,_,_,y,_⟩:=w3 rfl;simp at y
  |ro l=>obtain⟨_,_,_,_,_,_,_,y,_⟩:=w3 rfl;simp at y
 |s :: sl,d :: ds,o :: cs,hl,q=>by
  have ih:=mj (h:=h) (S:=S) (sl:=sl) (ds:=ds) (cs:=cs) (by simpa using hl) λa s' d' e1 e2=>by
   obtain⟨w1,w2,w3⟩:=q (a+1) s' d' (by simpa using e1) (by simpa using e2);exact⟨w1,by simpa[locked]using w2,λz=>by simpa using w3 z⟩
  obtain⟨w1,w2,w3⟩:=q 0 s d (by simp) (by simp);cases s with
  |val v=>
   have:o.bind Sl.out=none:=by
    simp[locked]at w2;rcases o with _|s
    .rfl
    .cases s<;>first|rfl|cases w2
   simp only[pX,Lh,K5,this];exact⟨d,ds,rfl,ih⟩
  |own l=>exact absurd w1 (by rintro⟨m,es,e,q,_⟩;exact q.2 q.1)
  |bor l=>
   obtain⟨m,es,l',s',a1,a2,a3,a4,a5⟩:=w3 rfl;simp at a4;subst a4;simp only[pX,Lh,K5,Option.bind,a5];exact⟨d,ds,l',_,m,es,rfl,rfl,a1,a2,a3,ih⟩
  |ro l=>
   obtain⟨m,es,l',s',a1,a2,a3,a4,a5⟩:=w3 rfl;simp at a4;subst a4;simp only[pX,Lh,K5,Option.bind,a5];exact⟨d,ds,l',_,m,es,rfl,rfl,a1,a2,a3,ih⟩
def C3{fn:Fn}{sl:List Sl}{ds:List D}{B:Nat->Prop}{h:Hh}{S:Nat->Prop}(F0:aP B B h S (sl.map some) (ds.map some))(hlen:sl.length=ds.length):aP B B h S (cL fn sl) (Ev.cL fn ds):=by
 unfold cL Ev.cL;have sp:∀(i:Nat) o,(sl.map some++List.replicate (fn.ns - fn.np) none)[i]?=some o->(sl.map some)[i]?=some o\/(sl.length<=i/\o=none):=λi o y=>by
  by_cases hi:i<sl.length
  .rw[dJ (by simpa using hi)]at y;exact .inl y
  .rw[Lc (by simpa using hi)]at y;have:=IC y;exact .inr ⟨by omega,(List.mem_replicate.mp this).2⟩
 have lo:∀(i:Nat) p,i<sl.length->(ds.map some++List.replicate (fn.ns - fn.np) none)[i]?=some p->(ds.map some)[i]?=some p:=λi p hi y=>by
  rw[dJ (by simpa[<-hlen]using hi)]at y;exact y
 refine⟨F0.wS,F0.wM,F0.wB,by simp[hlen],λi o p y1 y2=>?_,λi j o o' m y1 y2 y3 y4 y5 y6=>?_⟩
 .rcases sp i o y1 with y1|⟨hi,rfl⟩
  .have hi:i<sl.length:=by have:=(List.getElem?_eq_some_iff.mp y1).1;simpa using this
   exact F0.sl i o p y1 (lo i p hi y2)
  .rw[Lc (by simpa[<-hlen]using hi)]at y2;have:=IC y2;exact(List.mem_replicate.mp this).2
 .rcases sp i o y1 with y1|⟨hi,rfl⟩
  .rcases sp j o' y2 with y2|⟨hj,rfl⟩
   .have hi:i<sl.length:=by have:=(List.getElem?_eq_some_iff.mp y1).1;simpa using this
    have hj:j<sl.length:=by have:=(List.getElem?_eq_some_iff.mp y2).1;simpa using this
    exact F0.inj i j o o' m y1 y2 y3 y4 (lo i _ hi y5) (lo j _ hj y6)
   .cases y4
  .cases y3
theorem vd(F:List Fn)(w:Nat):∀n,kI (run F w n) (Ev.run F w n)
 |0=>λf sl v os e=>by simp[run]at e
 |n+1=>λf sl v os e h S B ds F0=>by
  have HP:=vd F w n;simp only[run]at e;cases z:F[f]? with
  |none=>rw[z]at e;cases e
  |some fn=>
  rw[z]at e;simp only at e;split at e
  case isFalse=>cases e
  rename_i hl;have hlen:sl.length=ds.length:=by have:=F0.len;simpa using this
  have f1:aP B B h S (cL fn sl) (Ev.cL fn ds):=C3 F0 hlen;have fin:∀{g:Fl} {af:Fr},exs (run F w n) w fn.body (cL fn sl)=.ok g af->∃g' aY M' h' S',Ev.exs (Ev.run F w n) w fn.body (Ev.cL fn ds) h=.ok (g',aY) h'/\eN h' S' g g'/\Tk B h S h' S'/\iZ h' S' sl ds (outs fn.np af):=λ{g af} y=>by
   obtain⟨g',aY,M',h',S',c1,c2,c3⟩:=gX HP fn.body y f1;refine⟨g',aY,M',h',S',c1,c2,⟨c3.tr.len,λm y1 y2=>c3.tr.keep m y1 y2,c3.tr.sub,λm q=>?_⟩,?_⟩
   .rcases c3.tr.new m q with q|q|q
    .exact .inl q
    .exact .inr q
    .exact absurd q.1 q.2
   .unfold outs;rw[<-hl];refine mj (B:=B) (h0:=h) (S0:=S) hlen λa s d e1 e2=>?_;have ha:a<sl.length:=(List.getElem?_eq_some_iff.mp e1).1;have h0:(cL fn sl)[a]?=some (some s):=by unfold cL;rw[dJ (by simpa using ha)];simp[e1]
    have hlk:locked af a=rK (some s):=by rw[c3.lk a];unfold locked;rw[h0]
    refine⟨F0.sl a _ _ (by simp[e1]) (by simp[e2]),hlk,λhk=>?_⟩;have hr:=c3.rf a (by unfold locked;rw[h0];exact hk);have hd:(Ev.cL fn ds)[a]?=some (some d):=by unfold Ev.cL;rw[dJ (by simpa[<-hlen]using ha)];simp[e2]
    rw[hd]at hr;cases y2:af[a]? with
    |none=>unfold locked at hlk;rw[y2]at hlk;rw[<-hlk]at hk;cases hk
    |some o=>
     have sr:=c3.f.sl a _ _ y2 hr;unfold locked at hlk;rw[y2,hk]at hlk;rcases o with _|s'
     .cases hlk
     .cases s' with
      |val v=>cases hlk
      |own l=>cases hlk
      |bor l=>obtain⟨m,es,e,_,k1,k2⟩:=sr;cases e;exact⟨m,es,l,_,rfl,k1,k2,rfl,rfl⟩
      |ro l=>obtain⟨m,es,e,_,k1,k2⟩:=sr;cases e;exact⟨m,es,l,_,rfl,k1,k2,rfl,rfl⟩
  simp only[Ev.ku,z];have hl':ds.length=fn.np:=by omega
  rw[eO hl'];split at e
  .rename_i v' af y;cases e;obtain⟨g',aY,M',h',S',c1,c2,c3,c4⟩:=fin y;simp only[eN]at c2;obtain⟨d,rfl,c2⟩:=c2;exact⟨d,h',S',by simp only[Ev.endOf,c1,Ev.aj],c2,c3,c4⟩
  .rename_i af y;cases e;obtain⟨g',aY,M',h',S',c1,c2,c3,c4⟩:=fin y;simp only[eN]at c2;subst c2;exact⟨.bg,h',S',by simp only[Ev.endOf,c1,Ev.aj],rfl,c3,c4⟩
  .cases e
end Pv
namespace Pv
open Ev (D O Hh Fn)
def Ah{F:List Fn}{w n f:Nat}{ns:List Int}(e:run F w n f [.val (.aW (ns.map V.int))]=some (.bl true,[]))(hF:F.length<=1000:=by decide):∃h',Ev.run F w n f [.ref 0] [.aW (ns.map D.int)]=.ok (.bl true) h':=by
 have F0:aP (λ_=>False) (λ_=>False) [O.aW (ns.map D.int)] (λm=>m=0) ([Sl.val (.aW (ns.map V.int))].map some) ([D.ref 0].map some):=by
  refine⟨λm q=>⟨by subst q;simp,id,id⟩,λm q=>q.elim,λm q=>q.elim,rfl,λi o p y1 y2=>?_,λi j o o' m y1 y2 y3 y4 y5 y6=>?_⟩
  .cases i with
   |zero=>
    simp at y1 y2;subst y1 y2;refine⟨.ref 0,rfl,?_⟩;simp only[Rep];exact⟨0,_,rfl,rfl,rfl,ao.map (f:=V.int) (g:=D.int) (λ_=>by simp[Rep]) ns⟩
   |succ i=>simp at y1
  .cases i with
   |zero=>simp at y1;subst y1;cases y3
   |succ i=>simp at y1
 obtain⟨d,h',S',a,b,_,_⟩:=vd F w n f _ _ _ e _ _ _ _ F0;simp only[Rep]at b;subst b;exact⟨h',a⟩
end Pv
namespace Pv
open Ev (D aS aJ TY BI ME T E Es Eo It S Ss Fn big deep b2i rep bx cz aX aC cut aO bV slots)
def bw{n:Nat}(h:n<=100000):n<=big:=xE h (by decide)
section
variable{i j:Int}{a b:List Nat}{x y:List V}{d e:V}{m n:Nat}{k l:Bool}
def cD(h:x.length<=big):di x=some (.lst x):=by simp[di,h]
def kQ(h:x.length<=big):fU x=some (.tup x):=by simp[fU,h]
@[simp] theorem sX:di []=some (.lst []):=cD (bw (by simp))
@[simp] theorem kR:fU []=some (.tup []):=kQ (bw (by simp))
@[simp] theorem E3{a}:di [a]=some (.lst [a]):=cD (bw (by simp))
@[simp] theorem nT{a}:fU [a]=some (.tup [a]):=kQ (bw (by simp))
@[simp] theorem E4{a b}:di [a,b]=some (.lst [a,b]):=cD (bw (by simp))
@[simp] theorem fY{a b}:fU [a,b]=some (.tup [a,b]):=kQ (bw (by simp))
@[simp] theorem E5{a b c}:di [a,b,c]=some (.lst [a,b,c]):=cD (bw (by simp))
@[simp] theorem E6{a b c}:fU [a,b,c]=some (.tup [a,b,c]):=kQ (bw (by simp))
@[simp] theorem bN:bG .add (.int i) (.int j)=some (.int (i+j)):=nd rfl
def bY(h:a.length+b.length<=100000):bG .add (.str a) (.str b)=some (.str (a++b)):=by delta bG;dsimp only;simp[bw h]
def xm(h:x.length+y.length<=100000):bG .add (.tup x) (.tup y)=some (.tup (x++y)):=by delta bG;dsimp only;simp[bw h]
@[simp] theorem xo:bG .sub (.int i) (.int j)=some (.int (i - j)):=nd rfl
@[simp] theorem xq:bG .mul (.int i) (.int j)=if bx i j then some (.int (i*j))else none:=nd rfl
@[simp] theorem xr:bG .fdiv (.int i) (.int j)=if 0<j/\j<1073741824 then some (.int (i / j))else none:=nd rfl
@[simp] theorem Ai:bG .mod (.int i) (.int j)=if 0<j then some (.int (i % j))else none:=nd rfl
@[simp] theorem kT:cop .ne d e=(cj deep d e).map (!·):=nd rfl
@[simp] theorem ve:cop .cK d e=(isin d e).map (!·):=nd rfl
@[simp] theorem xu:isin d (.lst x)=mem d x:=nd rfl
@[simp] theorem xw{c:Nat}:isin (.str [c]) (.str b)=some (b.contains c):=nd rfl
@[simp] theorem mem_cons:mem d (e :: x)=(cj deep e d).bind λb=>(mem d x).bind λc=>some (b ||c):=nd rfl
@[simp] theorem C4:cj (n+1) (.int i) (.int j)=some (decide (i=j)):=by show some (i==j)=_;by_cases h:i=j<;>simp[h]
@[simp] theorem C5:cj (n+1) (.str a) (.str b)=some (decide (a=b)):=by show some (a==b)=_;by_cases h:a=b<;>simp[h]
@[simp] theorem J3:cj (n+1) (.str a) (.int i)=some false:=nd rfl
@[simp] theorem J4:cj (n+1) (.int i) (.str a)=some false:=nd rfl
@[simp] theorem C6:cj (n+1) (.tup x) (.tup y)=bF (cj n) x y:=nd rfl
@[simp] theorem rQ:cj deep (.int i) (.int j)=some (decide (i=j)):=C4
@[simp] theorem mq:cj deep (.str a) (.str b)=some (decide (a=b)):=C5
@[simp] theorem Aj:cj deep (.tup x) (.tup y)=bF (cj (18+1)) x y:=nd rfl
@[simp] theorem Ak:cj deep (.lst x) (.lst y)=bF (cj (18+1)) x y:=nd rfl
@[simp] theorem Jd{f:V->V->Option Bool}:bF f [] []=some true:=nd rfl
@[simp] theorem J5{f:V->V->Option Bool}:bF f [] (d :: x)=some false:=nd rfl
@[simp] theorem J6{f:V->V->Option Bool}:bF f (d :: x) []=some false:=nd rfl
@[simp] theorem Il{f:V->V->Option Bool}:bF f (d :: x) (e :: y)=(f d e).bind λb=>(bF f x y).bind λc=>some (b&&c):=nd rfl
theorem jw{α:Type}[DecidableEq α]{f:V->V->Option Bool}{g:α->V}(h:∀a b,f (g a) (g b)=some (decide (a=b))):∀l m:List α,bF f (l.map g) (m.map g)=some (decide (l=m))
 |[],[]=>by simp
 |[],_ :: _=>by simp
 |_ :: _,[]=>by simp
 |a :: l,b :: m=>by simp[h,jw h l m]
@[simp] theorem Am:eH (.str a) (.int i)=(aX a i).map λc=>.str [c]:=nd rfl
@[simp] theorem mw{lo hi:Option Int}:fS (.str a) lo hi=some (.str (cut a lo hi)):=nd rfl
def len_str(h:a.length<=100000):cg .len [.str a]=some (.int a.length):=by delta cg;dsimp only;simp[bw h]
@[simp] theorem rR:cg .len [.tup x]=some (.int x.length):=nd rfl
@[simp] theorem rS:cg .len [.aW x]=some (.int x.length):=nd rfl
@[simp] theorem rT:cg .all [.lst x]=(boolsOf x).map λbs=>.bl (bs.all id):=nd rfl
def Im(h0:0<=j)(h1:j<=100000):cG [.int j]=some (range 0 j.toNat):=by
 simp only[cG];rw[eO ⟨by omega,by omega⟩]
def Io(h0:-100000<=i)(h1:i<=100000)(h2:-100000<=j)(h3:j<=100000):cG [.int i,.int j]=some (range i (j - i).toNat):=by
 simp only[cG];rw[eO ⟨by omega,by omega,by omega,by omega⟩]
def jN{α:Type}(g:α->Bool)(l:List α):boolsOf (l.map λx=>.bl (g x))=some (l.map g):=by induction l<;>simp[boolsOf, *]
def iz{α:Type}(g:α->List Nat)(l:List α):strsOf (l.map λx=>.str (g x))=some (l.map g):=by induction l<;>simp[strsOf, *]
theorem nu:∀l:List (List Nat),aO [] l=l.flatten
 |[]=>rfl
 |[s]=>by simp[aO]
 |s :: t :: r=>by simp[aO,nu (t :: r)]
@[simp] theorem J7:truthy (.bl k)=k:=nd rfl
def yF{l:List (List Nat)}(h:l.flatten.length<=100000):cT .join (.str []) [.lst (l.map V.str)]=some (.str l.flatten):=by
 have hs:=iz (λx=>x) l;have:(l.map (·.length)).sum<=big:=bw (by rw[<-List.length_flatten];exact h);simp only[List.map_id']at hs;have hs':strsOf (l.map V.str)=some l:=by simpa using iz (λx=>x) l
 delta cT;dsimp only;simp[jK,hs',nu,this]
end
def dH{α:Type}{f:V->Option (Option V)}(e:α->V)(g:α->V)(l:List α)(h:∀a∈l,f (e a)=some (some (g a))):bz f (l.map e)=some (l.map g):=by
 induction l with
 |nil=>rfl
 |cons a l ih=>simp only[vv,bz,h a (by simp),ih λu hu=>h u (by simp[hu]),Option.bind];rfl
noncomputable def Wp{α:Type}(r:R α)(Q:α->Fr->Prop):Prop:=∃a h,r=.ok a h/\Q a h
section
variable{α β:Type}{Q Q':α->Fr->Prop}
@[simp] theorem sY(a:α)(h:Fr):Wp (.ok a h) Q=Q a h:=propext ⟨λ⟨_,_,e,q⟩=>by cases e;exact q,λq=>⟨_,_,rfl,q⟩⟩
@[simp] theorem J8:Wp (.bad:R α) Q=False:=propext ⟨λq=>(by obtain⟨_,_,e,_⟩:=q;cases e),False.elim⟩
@[simp] theorem wp_bind(r:R β)(f:β->Fr->R α):Wp (r.bind f) Q=Wp r λa h=>Wp (f a h) Q:=by cases r<;>simp
def Wp.mono{r:R α}(h:Wp r Q)(f:∀a h,Q a h->Q' a h):Wp r Q':=by
 obtain⟨a,h',e,q⟩:=h;exact⟨a,h',e,f a h' q⟩
end
noncomputable def fl(I Q:Fr->Prop)(X:V->Fr->Prop):Fl->Fr->Prop
 |.nx,fr=>I fr
 |.ct,fr=>I fr
 |.bk,fr=>Q fr
 |.ret v,fr=>X v fr
section
variable{I J:Fr->Prop}{X:V->Fr->Prop}{fr:Fr}
@[simp] theorem kU:fl I J X .nx fr=I fr:=nd rfl
end
theorem gY{α:Type}{e:α->V}{f:V->Fr->R Fl}{Q:Fl->Fr->Prop}(I:List α->List α->Fr->Prop)(turn:∀p a l fr,I p (a :: l) fr->Wp (f (e a) fr) (fl (I (p++[a]) l) (Q .nx) λv=>Q (.ret v)))(fin:∀p fr,I p [] fr->Q .nx fr):∀(l p:List α) (fr:Fr),I p l fr->Wp (forL f (l.map e) fr) Q
 |[],p,fr,i=>by simp only[Lr,forL,sY];exact fin p fr i
 |a :: l,p,fr,i=>by
  simp only[vv,forL,wp_bind];refine(turn p a l fr i).mono λg h2 q=>?_;cases g with
  |nx=>exact gY I turn fin l _ h2 q
  |ct=>exact gY I turn fin l _ h2 q
  |bk=>exact(sY _ _).mpr q
  |ret x=>exact(sY _ _).mpr q
noncomputable def fin(fn:Fn)(ds:List Sl):R Fl->Option (V×List (List V))
 |.ok (.ret v) fr=>some (v,outs fn.np fr)
 |.ok .nx fr=>some (.bg,outs fn.np fr)
 |_=>Cv fn ds
def run_eq{F:List Fn}{w n f:Nat}{ds:List Sl}{fn:Fn}(hf:F[f]?=some fn)(hl:ds.length=fn.np):run F w (n+1) f ds=fin fn ds (exs (run F w n) w fn.body (cL fn ds)):=by
 simp only[ku,hf,hl,D6];cases exs (run F w n) w fn.body (cL fn ds)with
 |bad=>rfl
 |ok g fr=>cases g<;>rfl
def cE{F:List Fn}{w n f:Nat}{ds:List Sl}{fn:Fn}{v:V}{os:List (List V)}(hf:F[f]?=some fn)(hl:ds.length=fn.np)(q:Wp (exs (run F w n) w fn.body (cL fn ds)) λg fr=>g=.ret v/\outs fn.np fr=os):run F w (n+1) f ds=some (v,os):=by
 rw[run_eq hf hl];obtain⟨g,fr,e,rfl,rfl⟩:=q;rw[e];rfl
section
variable{P:aB}{w:Nat}{fr:Fr}{k:Bool}{a b c:E}{es:Es}{ss sa sb:Ss}{st:S}{lo hi:Eo}{it:It}
@[simp] theorem Ip{d:D}:ev P k (.c d) fr=R.of (ofD d) fr:=by rw[ev]
@[simp] theorem Iq{i:Nat}:ev P k (.v i) fr=R.of (lZ k fr i) fr:=by rw[ev]
@[simp] theorem C7:ev P k (.tup es) fr=(br P false es fr).bind λds af=>R.of (fU ds) af:=by rw[ev]
@[simp] theorem C8:ev P k (.lst es) fr=(br P false es fr).bind λds af=>R.of (di ds) af:=by rw[ev]
@[simp] theorem C9{o:aS}:ev P k (.bin o a b) fr=(ev P (kf a (aT b)) a fr).bind λx af=>(ev P true b af).bind λy ak=>R.of (bG o x y) ak:=by rw[ev]
@[simp] theorem Dc{o:aJ}:ev P k (.cmp o a b) fr=(ev P (kf a (aT b)) a fr).bind λx af=>(ev P true b af).bind λy ak=>R.of ((cop o x y).map .bl) ak:=by rw[ev]
@[simp] theorem E7{o p:aJ}:ev P k (.ch o p a b c) fr=(ev P (kf a (aT b)) a fr).bind λx af=>(ev P (kf b (aT c)) b af).bind λy ak=>(R.of (cop o x y) ak).bind λk bE=>
   if k then (ev P true c bE).bind λz dX=>R.of ((cop p y z).map .bl) dX else .ok (.bl false) bE:=by rw[ev]
noncomputable def J9:V->Fr->R V:=λx h1=>match x with
 |.bl b=>.ok (.bl (!b)) h1
 |_=>.bad
@[simp] theorem E8:ev P k (.nt a) fr=(ev P true a fr).bind J9:=by rw[ev];rfl
noncomputable def Ir:V->Fr->R V:=λx h1=>match x with
 |.int i=>.ok (.int (-i)) h1
 |_=>.bad
@[simp] theorem De:ev P k (.neg a) fr=(ev P true a fr).bind Ir:=by rw[ev];rfl
noncomputable def GL(r:Fr->R V):V->Fr->R V:=λx h1=>match x with
 |.bl true=>r h1
 |.bl false=>.ok (.bl false) h1
 |_=>.bad
@[simp] theorem Df{k:Bool}{r:Fr->R V}:GL r (.bl k) fr=if k then r fr else .ok (.bl false) fr:=by cases k<;>rfl
@[simp] theorem E9:ev P k (.an a b) fr=(ev P true a fr).bind (GL λh1=>ev P k b h1):=by rw[ev];rfl
@[simp] theorem Fb:ev P k (.ix a b) fr=(ev P (kf a (aT b)) a fr).bind λx af=>(ev P true b af).bind λy ak=>R.of (eH x y) ak:=by rw[ev]
@[simp] theorem Fc:ev P k (.sl a lo hi) fr=(ev P (kf a (gF lo++gF hi)) a fr).bind λx af=>(dc P lo af).bind λl ak=>(dc P hi ak).bind λu bE=>R.of (fS x l u) bE:=by rw[ev]
@[simp] theorem Fd{f:Nat}:ev P k (.cl f es) fr=(dj P es fr).bind λas af=>eV P f as af:=by rw[ev]
@[simp] theorem Fe{g:BI}:ev P k (.bi g es) fr=(br P true es fr).bind λds af=>R.of (cg g ds) af:=by rw[ev]
noncomputable def xx(m:ME)(i:Nat):List V->Fr->R V:=λds af=>match af[i]? with
 |some (some (.own l))=>match jL m l ds with
  |some (v,l')=>.ok v (af.set i (some (.own l')))
  |none=>.bad
 |some (some (.bor l))=>match jL m l ds with
  |some (v,l')=>.ok v (af.set i (some (.bor l')))
  |none=>.bad
 |_=>.bad
def Dh{m:ME}{i:Nat}(hm:fz m=true):ev P k (.me m (.v i) es) fr=if (lent fr i).isSome then (br P (uS m) es fr).bind (xx m i)else .bad:=by
 rw[ev,eO hm];unfold gT;cases z:(lent fr i).isSome<;>simp[z]<;>rfl
def Di{m:ME}(hm:fz m=false):ev P k (.me m a es) fr=(ev P (kf a (dD es)) a fr).bind λx af=>(br P true es af).bind λds ak=>R.of (cT m x ds) ak:=by rw[ev,hm];rfl
@[simp] theorem Dj{ts:List TY}:ev P k (.dB a ts) fr=(ev P true a fr).bind λx af=>.ok (.bl (ts.any (bX x))) af:=by rw[ev]
noncomputable def dP(P:aB)(elt:E)(t:T)(cond:Eo)(fr:Fr):V->Option (Option V):=λd=>match bD t d (pI fr)with
 |none=>none
 |some ak=>match fT P cond ak with
  |.ok c _=>if c then (match ev P false elt ak with|.ok x _=>some (some x)|.bad=>none)else some none
  |.bad=>none
@[simp] theorem lT{elt:E}{t:T}{cond:Eo}:ev P k (.comp elt t it cond) fr=(bO P true it fr).bind λs af=>if undef t af then R.of ((bz (dP P elt t cond af) s).bind di) af else .bad:=by rw[ev];rfl
@[simp] theorem Dk:ev P k (.fR it) fr=(bO P true it fr).bind λs af=>R.of (di s) af:=by rw[ev]
@[simp] theorem An{kvs:List (D×D)}:ev P k (.cV kvs a) fr=(ev P true a fr).bind λx af=>R.of (cu x kvs) af:=by rw[ev]
@[simp] theorem Dl:ev P k (.iG a) fr=(ev P true a fr).bind λx af=>R.of (toT x) af:=by rw[ev]
@[simp] theorem Ao:br P k .nil fr=.ok [] fr:=by rw[br]
@[simp] theorem xy:br P k (.cons a es) fr=(ev P (k&&kf a (dD es)) a fr).bind λd af=>(br P k es af).bind λds ak=>.ok (d :: ds) ak:=by rw[br]
@[simp] theorem Aq:dj P .nil fr=.ok [] fr:=by rw[dj]
noncomputable def sZ(P:aB)(a:E)(es:Es)(fr:Fr):Option Nat->R (List (Nat ⊕ V))
 |some i=>(dj P es fr).bind λr af=>.ok (.inl i :: r) af
 |none=>(ev P false a fr).bind λd af=>(dj P es af).bind λr ak=>.ok (.inr d :: r) ak
@[simp] theorem tu{i:Nat}:sZ P a es fr (some i)=(dj P es fr).bind λr af=>.ok (.inl i :: r) af:=nd rfl
@[simp] theorem tw:sZ P a es fr none=(ev P false a fr).bind λd af=>(dj P es af).bind λr ak=>.ok (.inr d :: r) ak:=nd rfl
@[simp] theorem pT:dj P (.cons a es) fr=sZ P a es fr (gT fr a):=by rw[dj];cases gT fr a<;>rfl
@[simp] theorem Dm:dc P .no fr=.ok none fr:=by rw[dc]
@[simp] theorem Ar:dc P (.yes a) fr=(ev P true a fr).bind λd af=>R.of ((intOf d).map some) af:=by rw[dc]
@[simp] theorem Dn:fT P .no fr=.ok true fr:=by rw[fT]
@[simp] theorem As:aD P (.orr a b) fr=(aD P a fr).bind λk af=>if k then .ok true af else aD P b af:=by rw[aD]
@[simp] theorem Dp:aD P (.nt a) fr=(aD P a fr).bind λk af=>.ok (!k) af:=by rw[aD]
noncomputable def Dq:V->Fr->R Bool:=λx af=>.ok (truthy x) af
@[simp] theorem Au{x:V}:Dq x fr=.ok (truthy x) fr:=nd rfl
@[simp] theorem Av:bO P k (.seq a) fr=(src k fr a (ev P k a fr)).bind λx af=>R.of (dO x) af:=by rw[bO]
@[simp] theorem Aw:bO P k (.eF es) fr=(br P true es fr).bind λds af=>R.of (cG ds) af:=by rw[bO]
@[simp] theorem Ax:bO P k (.gS a b) fr=(ev P (kf a (aT b)) a fr).bind λx af=>(ev P true b af).bind λy ak=>R.of (lY x y) ak:=by rw[bO]
noncomputable def Dr(i:Nat)(af:Fr):V->R Fl
 |.lst l=>(R.of (put af i (.own l)) af).bind λak _=>.ok .nx ak
 |_=>.bad
@[simp] theorem xA{i:Nat}{l:List V}:Dr i fr (.lst l)=(R.of (put fr i (.own l)) fr).bind λak _=>.ok .nx ak:=nd rfl
@[simp] theorem vf{i:Nat}:ex P w (.set i a) fr=(ev P false a fr).bind λx af=>if isNew a then Dr i af x else (R.of (put af i (.val x)) af).bind λak _=>.ok .nx ak:=by
 rw[ex];rfl
@[simp] theorem Ds:ex P w (.ret a) fr=(ev P false a (gw fr)).bind λx af=>.ok (.ret x) af:=by rw[ex]
@[simp] theorem Dt:ex P w (.iff a sa sb) fr=(aD P a fr).bind λk af=>if k then exs P w sa af else exs P w sb af:=by rw[ex]
noncomputable def turnF(P:aB)(w:Nat)(t:T)(b:Ss):V->Fr->R Fl:=λd ak=>match bD t d ak with
 |some bE=>exs P w b bE
 |none=>.bad
@[simp] theorem oZ{t:T}:ex P w (.for t it ss) fr=(bO P false it (nR (itv it) fr)).bind λs af=>forL (turnF P w t ss) s af:=by rw[ex];rfl
@[simp] theorem Ay:exs P w .nil fr=.ok .nx fr:=by rw[exs]
noncomputable def Ff(P:aB)(w:Nat)(ss:Ss):Fl->Fr->R Fl:=λp h1=>match p with
 |.nx=>exs P w ss h1
 |p=>.ok p h1
@[simp] theorem xB:exs P w (.cons st ss) fr=(ex P w st fr).bind (Ff P w ss):=by rw[exs];rfl
end
def jd{P:aB}{f:Nat}{vs:List V}{fr:Fr}{v:V}(h:P f (vs.map .val)=some (v,[])):eV P f (vs.map .inr) fr=.ok v fr:=by
 have h1:∀vs:List V,bf (vs.map .inr)=[]:=λvs=>by induction vs<;>simp[bf, *]
 have h2:∀vs:List V,args fr (vs.map .inr)=some (vs.map .val):=λvs=>by induction vs<;>simp[args, *]
 simp[eV,h1,h2,h,back]
section
variable{P:aB}{f:Nat}{fr:Fr}{a b c v:V}
def cH(h:P f [.val a]=some (v,[])):eV P f [.inr a] fr=.ok v fr:=jd (vs:=[a]) h
def call2(h:P f [.val a,.val b]=some (v,[])):eV P f [.inr a,.inr b] fr=.ok v fr:=jd (vs:=[a,b]) h
def Fi(h:P f [.val a,.val b,.val c]=some (v,[])):eV P f [.inr a,.inr b,.inr c] fr=.ok v fr:=jd (vs:=[a,b,c]) h
end
section
variable{fr:Fr}{i:Nat}{k:Bool}{s:Sl}{v:V}{l:List V}
noncomputable def Kv(k:Bool):Option (Option Sl)->Option V
 |some (some (.val v))=>some v
 |some (some (.own l))=>if k then some (.lst l)else none
 |some (some (.bor l))=>if k then some (.lst l)else none
 |some (some (.ro l))=>if k then some (.lst l)else none
 |_=>none
@[simp] theorem Fj{r:R V}:src k fr (.v i) r=R.of (sU k fr i) fr:=nd rfl
noncomputable def Du(fr:Fr)(i:Nat)(s:Sl):Option (Option Sl)->Option Fr
 |some (some (.bor _))=>none
 |some (some (.ro _))=>none
 |_=>some (fr.set i (some s))
@[simp] theorem Dv:put fr i s=Du fr i s fr[i]?:=by unfold put Du;split<;>simp_all
@[simp] theorem tD{l:List Nat}{x:List V}:bD (.many l) (.tup x) fr=bM l x fr:=nd rfl
@[simp] theorem tE:bM [] [] fr=some fr:=nd rfl
@[simp] theorem qt{l:List Nat}{x:List V}:bM (i :: l) (v :: x) fr=(put fr i (.val v)).bind (bM l x):=nd rfl
noncomputable def vg(m:ME)(i:Nat)(ds:List V)(fr:Fr):Option (Option Sl)->R V
 |some (some (.own l))=>match jL m l ds with
  |some (v,l')=>.ok v (fr.set i (some (.own l')))
  |none=>.bad
 |some (some (.bor l))=>match jL m l ds with
  |some (v,l')=>.ok v (fr.set i (some (.bor l')))
  |none=>.bad
 |_=>.bad
@[simp] theorem Az{m:ME}{ds:List V}:xx m i ds fr=vg m i ds fr fr[i]?:=by unfold xx vg;split<;>simp_all<;>rfl
def AA:vg .pop i [] fr (some (some (.own (l++[v]))))=.ok v (fr.set i (some (.own l))):=by
 simp[vg,jL]
end
noncomputable def vo(o:Option Sl):Prop:=o=none\/∃y,o=some (.val y)
theorem vo.none:vo none:=.inl rfl
theorem vo.val{v:V}:vo (some (.val v)):=.inr ⟨v,rfl⟩
def Dw{fr:Fr}{i:Nat}{s:Sl}{b:Option Sl}(h:vo b):Du fr i s (some b)=some (fr.set i (some s)):=by rcases h with rfl|⟨y,rfl⟩<;>rfl
def dQ{b:Option Sl}(h:vo b):b.map Sl.fk=b:=by rcases h with rfl|⟨y,rfl⟩<;>rfl
def vh{α:Type}{l:List α}{i:Int}(h0:0<=i):aX l i=l[i.toNat]?:=by
 unfold aX cz;rw[eO h0];split
 .rfl
 .rw[LL (by omega)];rfl
noncomputable def nU:Fn:=⟨2,2,(.cons (.iff (.cmp .eq (.v 0) (.lst .nil)) (.cons (.ret (.bin .mul (.c (.int 7)) (.v 1))) .nil) .nil) (.cons (.ret (.bin .add (.ix (.v 0) (.bin .mod (.v 1) (.bi .len (.cons (.v 0) .nil)))) (.bin .mul (.c (.int 6553)) (.bin .fdiv (.v 1) (.bi .len (.cons (.v 0) .nil)))))) .nil))⟩
noncomputable def pU(c:Nat):Fn:=⟨3,4,(.cons (.set 3 (.bin .mod (.bin .add (.bin .mul (.bin .mod (.cl c (.cons (.v 0) (.cons (.v 1) .nil))) (.c (.int 2147483563))) (.c (.int 69069))) (.bin .mul (.c (.int 104723)) (.bin .add (.v 1) (.c (.int 1))))) (.c (.int 2147483563)))) (.cons (.set 3 (.bin .mod (.bin .add (.bin .mul (.v 3) (.v 3)) (.bin .fdiv (.v 3) (.c (.int 3)))) (.c (.int 2147483399)))) (.cons (.ret (.bin .mod (.bin .fdiv (.bin .mod (.bin .add (.bin .mul (.v 3) (.v 3)) (.bin .fdiv (.v 3) (.c (.int 7)))) (.c (.int 2147483647))) (.c (.int 11))) (.v 2))) .nil)))⟩
noncomputable def nV(ns:List Int)(k:Int):Int:=if ns=[]then 7*k else (ns[(k % ns.length).toNat]?.getD 0)+6553*(k / ns.length)
noncomputable def vj(ns:List Int)(k many:Int):Int:=
 let c:=(nV ns k % 2147483563*69069+104723*(k+1)) % 2147483563
 let c:=(c*c+c / 3) % 2147483399
 (c*c+c / 7) % 2147483647 / 11 % many
def Dy(ns:List Int)(k:Int){many:Int}(h:0<many):0<=vj ns k many:=LQ _ (by omega)
def Dz(ns:List Int)(k:Int){many:Int}(h:0<many):vj ns k many<many:=Ls _ h
noncomputable def kW(ns:List Int):V:=.aW (ns.map V.int)
def AB(ns:List Int):bF (cj (18+1)) (ns.map V.int) []=some (decide (ns=[])):=by cases ns<;>simp
section
variable{P:aB}{w:Nat}{fr af ak bE:Fr}{k b:Bool}{a e c:E}{es:Es}{ss sa sb:Ss}{st:S}{lo hi:Eo}{it:It}{v x y z:V}{vs:List V}{i:Nat}{l:List V}{Q:Fl->Fr->Prop}
def aE{d:D}(h:ofD d=some v):ev P k (.c d) fr=.ok v fr:=by rw[Ip,h];rfl
def ay(h:lZ k fr i=some v):ev P k (.v i) fr=.ok v fr:=by rw[Iq,h];rfl
def cP(h:br P false es fr=.ok vs af)(h2:fU vs=some v):ev P k (.tup es) fr=.ok v af:=by rw[C7,h,aj,h2];rfl
def nW(h:br P false es fr=.ok vs af)(h2:di vs=some v):ev P k (.lst es) fr=.ok v af:=by rw[C8,h,aj,h2];rfl
def aG{o:aS}(h:ev P (kf a (aT e)) a fr=.ok x af)(h2:ev P true e af=.ok y ak)(h3:bG o x y=some v):ev P k (.bin o a e) fr=.ok v ak:=by rw[C9,h,aj,h2,aj,h3];rfl
def bB{o:aJ}(h:ev P (kf a (aT e)) a fr=.ok x af)(h2:ev P true e af=.ok y ak)(h3:cop o x y=some b):ev P k (.cmp o a e) fr=.ok (.bl b) ak:=by rw[Dc,h,aj,h2,aj,h3];rfl
def Iu(h:ev P true a fr=.ok (.bl b) af):ev P k (.nt a) fr=.ok (.bl (!b)) af:=by rw[E8,h];rfl
def Fp{j:Int}(h:ev P true a fr=.ok (.int j) af):ev P k (.neg a) fr=.ok (.int (-j)) af:=by rw[De,h];rfl
def nX(h:ev P true a fr=.ok (.bl true) af)(h2:ev P k e af=.ok v ak):ev P k (.an a e) fr=.ok v ak:=by rw[E9,h,aj,Df];exact h2
def fN(h:ev P (kf a (aT e)) a fr=.ok x af)(h2:ev P true e af=.ok y ak)(h3:eH x y=some v):ev P k (.ix a e) fr=.ok v ak:=by rw[Fb,h,aj,h2,aj,h3];rfl
def fq{p q:Option Int}(h:ev P (kf a (gF lo++gF hi)) a fr=.ok x af)(h2:dc P lo af=.ok p ak)(h3:dc P hi ak=.ok q bE)(h4:fS x p q=some v):ev P k (.sl a lo hi) fr=.ok v bE:=by rw[Fc,h,aj,h2,aj,h3,aj,h4];rfl
def bZ{f:Nat}{as:List (Nat ⊕ V)}(h:dj P es fr=.ok as af)(h2:eV P f as af=.ok v ak):ev P k (.cl f es) fr=.ok v ak:=by rw[Fd,h,aj];exact h2
def dW{g:BI}(h:br P true es fr=.ok vs af)(h2:cg g vs=some v):ev P k (.bi g es) fr=.ok v af:=by rw[Fe,h,aj,h2];rfl
def yG{m:ME}(hm:fz m=true)(hl:(lent fr i).isSome=true)(h:br P (uS m) es fr=.ok vs af)(h2:vg m i vs af af[i]?=.ok v ak):ev P k (.me m (.v i) es) fr=.ok v ak:=by
 rw[Dh hm,eO hl,h,aj,Az];exact h2
def nY{m:ME}(hm:fz m=false)(h:ev P (kf a (dD es)) a fr=.ok x af)(h2:br P true es af=.ok vs ak)(h3:cT m x vs=some v):ev P k (.me m a es) fr=.ok v ak:=by rw[Di hm,h,aj,h2,aj,h3];rfl
def kX{ts:List TY}(h:ev P true a fr=.ok x af)(h2:ts.any (bX x)=b):ev P k (.dB a ts) fr=.ok (.bl b) af:=by rw[Dj,h,aj,h2]
def eX{t:T}{cond:Eo}(h:bO P true it fr=.ok vs af)(hu:undef t af=true)(h2:bz (dP P a t cond af) vs=some l)(h3:di l=some v):ev P k (.comp a t it cond) fr=.ok v af:=by
 rw[lT,h,aj,eO hu,h2];show R.of (di l) af=_;rw[h3];rfl
def tF(h:bO P true it fr=.ok vs af)(h2:di vs=some v):ev P k (.fR it) fr=.ok v af:=by rw[Dk,h,aj,h2];rfl
def dZ{kvs:List (D×D)}(h:ev P true a fr=.ok x af)(h2:cu x kvs=some v):ev P k (.cV kvs a) fr=.ok v af:=by rw[An,h,aj,h2];rfl
def yH(h:ev P true a fr=.ok x af)(h2:toT x=some v):ev P k (.iG a) fr=.ok v af:=by rw[Dl,h,aj,h2];rfl
def aH:br P k .nil fr=.ok [] fr:=Ao
def aA(h:ev P (k&&kf a (dD es)) a fr=.ok v af)(h2:br P k es af=.ok vs ak):br P k (.cons a es) fr=.ok (v :: vs) ak:=by rw[xy,h,aj,h2];rfl
def bh:dj P .nil fr=.ok [] fr:=Aq
def bq{as:List (Nat ⊕ V)}(hi:gT fr a=none)(h:ev P false a fr=.ok v af)(h2:dj P es af=.ok as ak):dj P (.cons a es) fr=.ok (.inr v :: as) ak:=by rw[pT,hi,tw,h,aj,h2];rfl
def Iv{as:List (Nat ⊕ V)}(hi:gT fr a=some i)(h2:dj P es fr=.ok as ak):dj P (.cons a es) fr=.ok (.inl i :: as) ak:=by rw[pT,hi,tu,h2];rfl
def dR:dc P .no fr=.ok none fr:=Dm
def cR{j:Int}(h:ev P true a fr=.ok (.int j) af):dc P (.yes a) fr=.ok (some j) af:=by rw[Ar,h];rfl
def gq{b2:Bool}(h:aD P a fr=.ok false af)(h2:aD P e af=.ok b2 ak):aD P (.orr a e) fr=.ok b2 ak:=by rw[As,h];exact h2
def gy(h:aD P a fr=.ok b af):aD P (.nt a) fr=.ok (!b) af:=by rw[Dp,h];rfl
noncomputable def plainT:E->Bool
 |.an _ _=>false
 |.orr _ _=>false
 |.nt _=>false
 |_=>true
def aV(hp:plainT a=true)(h:ev P true a fr=.ok x af)(h2:truthy x=b):aD P a fr=.ok b af:=by
 have:aD P a fr=(ev P true a fr).bind Dq:=by
  cases a<;>first | (cases hp;done) | (rw[aD];rfl;all_goals (intros;contradiction))
 rw[this,h,aj,Au,h2]
def fF(h:src k fr a (ev P k a fr)=.ok x af)(h2:dO x=some vs):bO P k (.seq a) fr=.ok vs af:=by rw[Av,h,aj,h2];rfl
def gg(h:sU k fr i=some v){r:R V}:src k fr (.v i) r=.ok v fr:=by rw[Fj,h];rfl
def kY(h:br P true es fr=.ok vs af)(h2:cG vs=some l):bO P k (.eF es) fr=.ok l af:=by rw[Aw,h,aj,h2];rfl
def vm{y:V}(h:ev P (kf a (aT e)) a fr=.ok x af)(h2:ev P true e af=.ok y ak)(h3:lY x y=some l):bO P k (.gS a e) fr=.ok l ak:=by rw[Ax,h,aj,h2,aj,h3];rfl
def bS(h:ev P false a fr=.ok v af)(hn:isNew a=false)(hp:put af i (.val v)=some ak)(q:Q .nx ak):Wp (ex P w (.set i a) fr) Q:=by
 rw[vf,h,aj,hn,hp];exact⟨_,_,rfl,q⟩
def DA(h:ev P false a fr=.ok (.lst l) af)(hn:isNew a=true)(hp:put af i (.own l)=some ak)(q:Q .nx ak):Wp (ex P w (.set i a) fr) Q:=by
 rw[vf,h,aj,hn,eO rfl,xA,hp];exact⟨_,_,rfl,q⟩
def b6(h:ev P false a (gw fr)=.ok v af)(q:Q (.ret v) af):Wp (ex P w (.ret a) fr) Q:=by rw[Ds,h];exact⟨_,_,rfl,q⟩
def bT(h:aD P a fr=.ok b af)(h2:b=true->Wp (exs P w sa af) Q)(h3:b=false->Wp (exs P w sb af) Q):Wp (ex P w (.iff a sa sb) fr) Q:=by
 rw[Dt,h,aj];cases b with
 |true=>exact h2 rfl
 |false=>exact h3 rfl
def bI(q:Q .nx fr):Wp (exs P w .nil fr) Q:=by rw[Ay];exact⟨_,_,rfl,q⟩
noncomputable def nx(P:aB)(w:Nat)(ss:Ss)(Q:Fl->Fr->Prop):Fl->Fr->Prop
 |.nx,fr=>Wp (exs P w ss fr) Q
 |g,fr=>Q g fr
def au(q:Wp (ex P w st fr) (nx P w ss Q)):Wp (exs P w (.cons st ss) fr) Q:=by
 rw[xB,wp_bind];refine q.mono λg af z=>?_;cases g with
 |nx=>exact z
 |bk=>exact⟨_,_,rfl,z⟩
 |ct=>exact⟨_,_,rfl,z⟩
 |ret v=>exact⟨_,_,rfl,z⟩
def tG{t:T}(h:bO P false it (nR (itv it) fr)=.ok vs af)(q:Wp (forL (turnF P w t ss) vs af) Q):Wp (ex P w (.for t it ss) fr) Q:=by rw[oZ,h,aj];exact q
def je{t:T}{d:V}(hb:bD t d fr=some af)(q:Wp (exs P w ss af) Q):Wp (turnF P w t ss d fr) Q:=by unfold turnF;rw[hb];exact q
def dI{t:T}{d:V}(hb:bD t d (pI fr)=some af)(h:ev P false a af=.ok v ak):dP P a t .no fr d=some (some v):=by
 unfold dP;rw[hb];dsimp only;rw[Dn];dsimp only;rw[h];rfl
def gG{p q:List Nat}:cop .eq (.str p) (.str q)=some (decide (p=q)):=mq
def jx{p q:List Nat}:cop .ne (.str p) (.str q)=some (!decide (p=q)):=by rw[kT,mq];rfl
def Iw{p q:Int}:cop .eq (.int p) (.int q)=some (decide (p=q)):=rQ
def yI{p q:Int}:cop .ne (.int p) (.int q)=some (!decide (p=q)):=by rw[kT,rQ];rfl
def Iz{p q:Int}:cop .lt (.int p) (.int q)=some (decide (p<q)):=rfl
def pV{p q:Int}:cop .le (.int p) (.int q)=some (decide (p<=q)):=rfl
def DB{p q:Int}:cop .gt (.int p) (.int q)=some (decide (q<p)):=rfl
def gz{p q:Int}(h:bx p q=true):bG .mul (.int p) (.int q)=some (.int (p*q)):=by rw[xq,eO h]
def jy{p q:Int}(h:0<q):bG .mod (.int p) (.int q)=some (.int (p % q)):=by rw[Ai,eO h]
def nZ{p q:Int}(h:0<q)(h2:q<1073741824):bG .fdiv (.int p) (.int q)=some (.int (p / q)):=by rw[xr,eO ⟨h,h2⟩]
end
def fG{fr:Fr}{i:Nat}{s:Sl}{o:Option Sl}(e:fr[i]?=some o)(h:vo o):put fr i s=some (fr.set i (some s)):=by rw[Dv,e,Dw h]
def tH{fr:Fr}{i j:Nat}{u v:V}{a b:Option Sl}(ea:fr[i]?=some a)(ha:vo a)(eb:(fr.set i (some (.val u)))[j]?=some b)(hb:vo b):bD (.many [i,j]) (.tup [u,v]) fr=some ((fr.set i (some (.val u))).set j (some (.val v))):=by
 simp only[tD,qt,tE,fG ea ha,Option.bind,fG eb hb]
def bind1{fr:Fr}{i:Nat}{v:V}{a:Option Sl}(ea:fr[i]?=some a)(ha:vo a):bD (.one i) v fr=some (fr.set i (some (.val v))):=fG ea ha
end Pv
local macro_rules|`(tactic|array_get_dec)=>`(tactic|first
 |exact Pv.aH|exact Pv.bh|exact Pv.dR
 | (apply Pv.ay;rfl) | (apply Pv.aE;rfl)|apply Pv.aG|apply Pv.bB|apply Pv.cP|apply Pv.nW|apply Pv.fN|apply Pv.fq|apply Pv.bZ|apply Pv.dW
 |apply Pv.Iu|apply Pv.Fp|apply Pv.yH|apply Pv.tF  | (apply Pv.yG rfl rfl) | (apply Pv.nY rfl)|apply Pv.dZ
 |apply Pv.aA | (apply Pv.bq rfl) | (apply Pv.Iv rfl)|apply Pv.cR|apply Pv.gy|apply Pv.aV rfl
 |exact Pv.kR|exact Pv.nT|exact Pv.fY|exact Pv.E6|exact Pv.sX|exact Pv.E3|exact Pv.E4
 | (with_reducible assumption)|exact Pv.bN|exact Pv.xo|exact Pv.gG|exact Pv.jx|exact Pv.Iw|exact Pv.yI|exact Pv.Iz|exact Pv.pV|exact Pv.DB
 | (show Pv.truthy _=_;rfl) | (show Pv.eH _ _=some _;rfl) | (show Pv.toT _=some _;rfl) | (show Pv.cu _ _=some _;rfl) | (show Pv.dO _=some _;rfl)|assumption)
namespace Pv
open Ev (D aS aJ TY BI ME T E Es Eo It S Ss Fn big deep b2i rep bx cz aX aC cut aO bV slots)
def DC(a b:Int):bx (a % 2147483563) b=true:=by have h1:=LQ a (b:=2147483563) (by decide);have h2:=Ls a (b:=2147483563) (by decide);simp[bx];omega
def IA(a b:Int):bx (a % 2147483399) b=true:=by have h1:=LQ a (b:=2147483399) (by decide);have h2:=Ls a (b:=2147483399) (by decide);simp[bx];omega
def DE{l:List V}{j:Int}{v:V}(h:aX l j=some v):eH (.aW l) (.int j)=some v:=h
def DF{l m:List V}:cop .eq (.aW l) (.lst m)=bF (cj (18+1)) l m:=rfl
def xC{F:List Fn}{w n c:Nat}(hc:F[c]?=some nU){ns:List Int}(hn:ns.length<=63)(k:Int):run F w (n+1) c [.val (kW ns),.val (.int k)]=some (.int (nV ns k),[]):=by
 refine cE hc rfl (au (bT (b:=decide (ns=[])) (aV rfl (bB (ay rfl) (nW aH sX) (DF.trans (AB ns))) rfl) (λh=>?_) λh=>bI ?_))
 .have h0:=Ld h;exact au (b6 (aG (aE rfl) (ay rfl) (gz rfl)) ⟨by rw[nV,eO h0],rfl⟩)
 .have h0:=of_decide_eq_false h;have hlen:0<ns.length:=List.length_pos_iff.mpr h0;have GN:(0:Int)<(ns.map V.int).length:=by rw[Ka];exact Int.natCast_pos.mpr hlen
  have h30:((ns.map V.int).length:Int)<1073741824:=by rw[Ka];omega
  have hm0:=LQ k (b:=(ns.length:Int)) (by omega);have hlt:(k % (ns.length:Int)).toNat<ns.length:=by have:=Ls k (b:=(ns.length:Int)) (by omega);omega
  have hx:aX (ns.map V.int) (k % ((ns.map V.int).length:Int))=some (.int (ns[(k % (ns.length:Int)).toNat]?.getD 0)):=by
   rw[Ka,vh hm0,GP,j9 hlt];rfl
  refine au (b6 (aG (fN (ay rfl) (aG (ay rfl) (dW (aA (ay rfl) aH) rS) (jy GN)) (DE hx)) (aG (aE rfl) (aG (ay rfl) (dW (aA (ay rfl) aH) rS) (nZ GN h30)) (gz rfl)) bN) ⟨?_,rfl⟩);rw[nV,yL h0,Ka]
def vn{F:List Fn}{w n c dr:Nat}(hc:F[c]?=some nU)(hd:F[dr]?=some (pU c)){ns:List Int}(hn:ns.length<=63)(k:Int){many:Int}(hm:0<many):run F w (n+2) dr [.val (kW ns),.val (.int k),.val (.int many)]=some (.int (vj ns k many),[]):=by
 refine cE hd rfl (au (bS (aG (aG (aG (aG (bZ (bq rfl (ay rfl) (bq rfl (ay rfl) bh)) (call2 (xC hc hn k))) (aE rfl) (jy (by decide))) (aE rfl) (gz (DC _ _))) (aG (aE rfl) (aG (ay rfl) (aE rfl) bN) (gz rfl)) bN) (aE rfl) (jy (by decide))) rfl rfl ?_));refine au (bS (aG (aG (aG (ay rfl) (ay rfl) (gz (DC _ _))) (aG (ay rfl) (aE rfl) (nZ (by decide) (by decide))) bN) (aE rfl) (jy (by decide))) rfl rfl ?_);exact au (b6 (aG (aG (aG (aG (aG (ay rfl) (ay rfl) (gz (IA _ _))) (aG (ay rfl) (aE rfl) (nZ (by decide) (by decide))) bN) (aE rfl) (jy (by decide))) (aE rfl) (nZ (by decide) (by decide))) (ay rfl) (jy hm)) ⟨rfl,rfl⟩)
inductive Pt where
 |keep (n:Nat)|put (s:List Nat)|drop (s:List Nat)
deriving DecidableEq
noncomputable def fZ:List Nat:=[107,101,101,112]
noncomputable def j8:List Nat:=[112,117,116]
noncomputable def iA:List Nat:=[100,114,111,112]
noncomputable def Pt.v:Pt->V
 |.keep n=>.tup [.str fZ,.int n]
 |.put s=>.tup [.str j8,.str s]
 |.drop s=>.tup [.str iA,.str s]
noncomputable def bJ(c:List Pt):V:=.tup (c.map Pt.v)
def vp(n:Nat)(a b:Pt):cj (n+2) a.v b.v=some (decide (a=b)):=by
 cases a<;>cases b<;>simp[Pt.v,fZ,j8,iA]
 all_goals omega
def DG(a b:List Pt):cj deep (bJ a) (bJ b)=some (decide (a=b)):=by
 simp only[bJ,Aj];exact jw (λa b=>vp 17 a b) a b
def getD_at{α:Type}{l:List α}{i:Int}(h0:0<=i)(h1:i<l.length)(d:α):aX l i=some (l.getD i.toNat d):=by
 have:i.toNat<l.length:=by omega
 rw[vh h0];simp[List.getD,j9 this]
def jO{α β:Type}(l:List α)(f:α->β):(l.map λx=>[f x]).flatten=l.map f:=by induction l<;>simp[*]
def vq(lo:Int)(n:Nat):range lo n=(List.range n).map λ(i:Nat)=>V.int (lo+i):=rfl
def tK{a b:List Pt}(h:a.length+b.length<=100000):bG .add (bJ a) (bJ b)=some (bJ (a++b)):=by
 simp only[bJ];rw[xm (by simpa using h)];simp
def xD{j:Int}{n:Nat}(h:n<=100000)(e:j=n):cG [.int j]=some (range 0 n):=by
 subst e;rw[Im (by omega) (by omega)];rfl
end Pv
namespace Pv
open Ev (rep)
end Pv
namespace Pv
end Pv
namespace Pv
open Ev (D aS aJ TY BI ME T E Es Eo It S Ss Fn big deep b2i rep bx cz aX aC cut aO bV slots)
def Fq{α:Type}(l:List α)(m:Nat):cut l none (some (m:Int))=l.take m:=by
 have h1:¬ (m:Int)<0:=by omega
 simp only[cut,aC,h1,K0,MV,Lx,Nat.sub_zero];by_cases h:m<=l.length
 .rw[M7 h]
 .rw[MZ (by omega),Lj (gV _),Lj (by omega)]
def yJ{α:Type}(l:List α)(m:Nat):cut l (some (m:Int)) none=l.drop m:=by
 have h1:¬ (m:Int)<0:=by omega
 simp only[cut,aC,h1,K0,MV];by_cases h:m<=l.length
 .rw[M7 h,Lj (by simp)]
 .rw[MZ (by omega),Ms (gV _),Ms (by omega)];simp
end Pv
namespace Pv
open Ev (deep big rep cut aX)
end Pv
namespace Pv
open Ev (D aS aJ TY BI ME T E Es Eo It S Ss Fn big deep rep cut aX)
end Pv
namespace Pv
end Pv
namespace Pv
open Ev (D aS aJ TY BI ME T E Es Eo It S Ss Fn big deep rep cut aX)
end Pv
namespace Pv
open Ev (D aS aJ TY BI ME T E Es Eo It S Ss Fn big deep b2i rep bx cz aX aC cut aO bV slots)
noncomputable def nC:S:=.iff (.orr (.nt (.dB (.v 0) [.tuple])) (.cmp .gt (.bi .len (.cons (.v 0) .nil)) (.c (.int 12)))) (.cons (.ret (.c (.bl false))) .nil) .nil
noncomputable def nD(jf:Nat):S:=.ret (.bi .all (.cons (.comp (.cl jf (.cons (.v 1) .nil)) (.one 1) (.seq (.v 0)) .no) .nil))
noncomputable def gH(jf:Nat):Fn:=⟨1,2,(.cons nC (.cons (nD jf) .nil))⟩
noncomputable def qu:S:=.iff (.orr (.nt (.dB (.v 0) [.tuple])) (.cmp .ne (.bi .len (.cons (.v 0) .nil)) (.c (.int 2)))) (.cons (.ret (.c (.bl false))) .nil) .nil
noncomputable def jP(jg:Nat):S:=.iff (.cmp .eq (.ix (.v 0) (.c (.int 0))) (.c (.str [107,101,101,112]))) (.cons (.ret (.cl jg (.cons (.ix (.v 0) (.c (.int 1))) .nil))) .nil) .nil
noncomputable def jQ(jh:Nat):S:=.ret (.an (.cmp .isin (.ix (.v 0) (.c (.int 0))) (.tup (.cons (.c (.str [112,117,116])) (.cons (.c (.str [100,114,111,112])) .nil)))) (.cl jh (.cons (.ix (.v 0) (.c (.int 1))) .nil)))
noncomputable def dM(jg:Nat)(jh:Nat):Fn:=⟨1,1,(.cons qu (.cons (jP jg) (.cons (jQ jh) .nil)))⟩
noncomputable def qv:S:=.iff (.orr (.dB (.v 0) [.bool]) (.nt (.dB (.v 0) [.int]))) (.cons (.ret (.c (.bl false))) .nil) .nil
noncomputable def qw:S:=.ret (.ch .le .le (.c (.int 1)) (.v 0) (.c (.int 99)))
noncomputable def fH:Fn:=⟨1,1,(.cons qv (.cons qw .nil))⟩
noncomputable def qx:S:=.iff (.orr (.nt (.dB (.v 0) [.str])) (.nt (.ch .le .le (.c (.int 1)) (.bi .len (.cons (.v 0) .nil)) (.c (.int 8))))) (.cons (.ret (.c (.bl false))) .nil) .nil
noncomputable def qy:S:=.ret (.bi .all (.cons (.comp (.cmp .isin (.v 1) (.c (.str [97,98,99,100,101,102,103,104,105,106,107,108,109,110,111,112,113,114,115,116,117,118,119,120,121,122,32]))) (.one 1) (.seq (.v 0)) .no) .nil))
noncomputable def fJ:Fn:=⟨1,2,(.cons qx (.cons qy .nil))⟩
noncomputable def lg:S:=.ret (.me .join (.c (.str [47])) (.cons (.comp (.bin .add (.cV [(.str [107,101,101,112],.str [61]),(.str [112,117,116],.str [43]),(.str [100,114,111,112],.str [45])] (.v 1)) (.bi .dz (.cons (.v 2) .nil))) (.many [1,2]) (.seq (.v 0)) .no) .nil))
noncomputable def iI:Fn:=⟨1,3,(.cons lg .nil)⟩
noncomputable def nE(fO:Nat):S:=.ret (.me .join (.c (.str [])) (.cons (.comp (.bin .add (.cl fO (.cons (.v 1) .nil)) (.c (.str [10]))) (.one 1) (.seq (.v 0)) .no) .nil))
noncomputable def qz(fO:Nat):Fn:=⟨1,2,(.cons (nE fO) .nil)⟩
noncomputable def lq:S:=.iff (.cmp .eq (.v 0) (.c (.str []))) (.cons (.ret (.tup .nil)) .nil) .nil
noncomputable def lu(gI:Nat):S:=.set 1 (.iG (.comp (.cl gI (.cons (.v 2) .nil)) (.one 2) (.seq (.fR (.gS (.v 0) (.c (.str [47]))))) .no))
noncomputable def ly(gK:Nat):S:=.iff (.nt (.cl gK (.cons (.v 1) .nil))) (.cons (.cZ 4) .nil) .nil
noncomputable def lz:S:=.ret (.v 1)
noncomputable def iJ(gI:Nat)(gK:Nat):Fn:=⟨1,3,(.cons lq (.cons (lu gI) (.cons (ly gK) (.cons lz .nil))))⟩
noncomputable def nF(iC:Nat)(fP:Nat):S:=.ret (.comp (.cl fP (.cons (.v 1) .nil)) (.one 1) (.seq (.cl iC (.cons (.v 0) .nil))) .no)
noncomputable def qA(iC:Nat)(fP:Nat):Fn:=⟨1,2,(.cons (nF iC fP) .nil)⟩
noncomputable def nG:S:=.iff (.cmp .cK (.sl (.v 0) .no (.yes (.c (.int 1)))) (.c (.str [61,43,45]))) (.cons (.cZ 4) .nil) .nil
noncomputable def nH:S:=.set 1 (.cV [(.str [61],.str [107,101,101,112]),(.str [43],.str [112,117,116]),(.str [45],.str [100,114,111,112])] (.sl (.v 0) .no (.yes (.c (.int 1)))))
noncomputable def nI(fQ:Nat):S:=.iff (.cmp .eq (.v 1) (.c (.str [107,101,101,112]))) (.cons (.ret (.tup (.cons (.v 1) (.cons (.cl fQ (.cons (.sl (.v 0) (.yes (.c (.int 1))) .no) .nil)) .nil)))) .nil) .nil
noncomputable def nJ:S:=.ret (.tup (.cons (.v 1) (.cons (.sl (.v 0) (.yes (.c (.int 1))) .no) .nil)))
noncomputable def gM(fQ:Nat):Fn:=⟨1,2,(.cons nG (.cons nH (.cons (nI fQ) (.cons nJ .nil))))⟩
noncomputable def lA:S:=.iff (.cmp .cK (.v 0) (.comp (.bi .dz (.cons (.v 1) .nil)) (.one 1) (.eF (.cons (.c (.int 1)) (.cons (.bin .add (.c (.int 99)) (.c (.int 1))) .nil))) .no)) (.cons (.cZ 4) .nil) .nil
noncomputable def lB:S:=.ret (.bi .ig (.cons (.v 0) .nil))
noncomputable def eg:Fn:=⟨1,2,(.cons lA (.cons lB .nil))⟩
noncomputable def pY:S:=.set 1 (.fR (.gS (.v 0) (.c (.str [10]))))
noncomputable def pZ:S:=.iff (.cmp .ne (.me .pop (.v 1) .nil) (.c (.str []))) (.cons (.cZ 4) .nil) .nil
noncomputable def qa:S:=.ret (.v 1)
noncomputable def lC:Fn:=⟨1,2,(.cons pY (.cons pZ (.cons qa .nil)))⟩
def DK{P:aB}{k:Bool}{fr af ak:Fr}{o p:aJ}{a b c:E}{x y z:V}{b1 b2:Bool}(h1:ev P (kf a (aT b)) a fr=.ok x af)(h2:ev P (kf b (aT c)) b af=.ok y ak)(h3:cop o x y=some b1)(h4:b1=true->ev P true c ak=.ok z ak/\cop p y z=some b2)(h5:b1=false->b2=false):ev P k (.ch o p a b c) fr=.ok (.bl b2) ak:=by
 rw[E7,h1,aj,h2,aj,h3];show(R.ok b1 ak).bind _=_;rw[aj];cases b1 with
 |false=>rw[h5 rfl];rfl
 |true=>obtain⟨e1,e2⟩:=h4 rfl;rw[eO rfl,e1,aj,e2];rfl
noncomputable def qb(n:Nat):List Nat:=(Nat.toDigits 10 n).map Char.toNat
def xG(n:Nat):Ev.cW (n:Int)=qb n:=by
 show((toString (n:Int)).toList).map Char.toNat=_;rw[show toString (n:Int)=String.ofList (Nat.toDigits 10 n)from rfl,String.toList_ofList];rfl
def AF:((List.range 100).all λn=>decide (1<=(qb n).length)&&decide ((qb n).length<=2)&&(qb n).all Ev.jW&&(Ev.jX (qb n)==some (n:Int)))=true:=by decide +kernel
structure Dg(n:Nat):Prop where
 lo:1<=(Ev.cW (n:Int)).length
 hi:(Ev.cW (n:Int)).length<=2
 sg:∀x∈Ev.cW (n:Int),48<=x/\x<=57
 nm:Ev.jX (Ev.cW (n:Int))=some (n:Int)
def dg{n:Nat}(h:n<=99):Dg n:=by
 have:=List.all_eq_true.mp AF n (by simp;omega);rw[<-xG]at this;simp only[pW,K2,MA,LJ,Ev.jW]at this;exact⟨this.1.1.1,this.1.1.2,this.1.2,this.2⟩
theorem qc{c:Nat}:∀{s:List Nat},c∉s->Ev.aM c s=[s]
 |[],_=>rfl
 |x :: s,h=>by
  simp only[L3,not_or]at h;simp only[Ev.aM,yL (show ¬ x=c from λz=>h.1 z.symm),qc h.2]
theorem ji{c:Nat}{r:List Nat}:∀{s:List Nat},c∉s->Ev.aM c (s++c :: r)=s :: Ev.aM c r
 |[],_=>by simp[Ev.aM]
 |x :: s,h=>by
  simp only[L3,not_or]at h;simp only[LH,Ev.aM,yL (show ¬ x=c from λz=>h.1 z.symm),ji h.2]
theorem lD{c:Nat}:∀{ps:List (List Nat)},ps≠[]->(∀p∈ps,c∉p)->Ev.aM c (aO [c] ps)=ps
 |[],h,_=>absurd rfl h
 |[s],_,h=>by simp only[aO];exact qc (h s (by simp))
 |s :: t :: r,_,h=>by
  simp only[aO];rw[LA,Mx,ji (h s (by simp)),lD (by simp) λp hp=>h p (by simp[hp])]
theorem jR{c:Nat}:∀{ps:List (List Nat)},(∀p∈ps,c∉p)->Ev.aM c (ps.map λp=>p++[c]).flatten=ps++[[]]
 |[],_=>rfl
 |s :: r,h=>by
  simp only[vv,Je];rw[LA,Mx,ji (h s (by simp)),jR λp hp=>h p (by simp[hp])];rfl
noncomputable def sgn:List Nat:=[97,98,99,100,101,102,103,104,105,106,107,108,109,110,111,112,113,114,115,116,117,118,119,120,121,122,32]
noncomputable def WS(s:List Nat):Prop:=1<=s.length/\s.length<=8/\∀x∈s,sgn.contains x=true
noncomputable def WP:Pt->Prop
 |.keep n=>1<=n/\n<=99
 |.put s=>WS s
 |.drop s=>WS s
structure Wide(c:List Pt):Prop where
 len:c.length<=12
 pt:∀p∈c,WP p
noncomputable def Pt.t:Pt->List Nat
 |.keep n=>61 :: Ev.cW n
 |.put s=>43 :: s
 |.drop s=>45 :: s
noncomputable def ct(c:List Pt):List Nat:=aO [47] (c.map Pt.t)
def vz{x:Nat}(h:sgn.contains x=true):x≠47/\x≠10:=by
 constructor <;> (intro e;subst e;revert h;decide)
def mC{p:Pt}(h:WP p):1<=p.t.length/\p.t.length<=9/\∀x∈p.t,x≠47/\x≠10:=by
 cases p with
 |keep n=>
  have d:=dg h.2;have d1:=d.hi;refine⟨by simp[Pt.t],by simp[Pt.t];omega,λx hx=>?_⟩;rcases List.mem_cons.mp hx with rfl|hx
  .decide
  .have:=d.sg x hx;omega
 |put s=>
  obtain⟨h1,h2,h3⟩:=h;refine⟨by simp[Pt.t],by simp[Pt.t];omega,λx hx=>?_⟩;rcases List.mem_cons.mp hx with rfl|hx
  .decide
  .exact vz (h3 x hx)
 |drop s=>
  obtain⟨h1,h2,h3⟩:=h;refine⟨by simp[Pt.t],by simp[Pt.t];omega,λx hx=>?_⟩;rcases List.mem_cons.mp hx with rfl|hx
  .decide
  .exact vz (h3 x hx)
theorem qd{x:Nat}{s:List Nat}:∀{l:List (List Nat)},x∈aO s l->x∈s\/∃p∈l,x∈p
 |[],h=>by simp[aO]at h
 |[p],h=>.inr ⟨p,by simp,h⟩
 |p :: q :: r,h=>by
  simp only[aO,List.mem_append]at h;rcases h with (h|h)|h
  .exact .inr ⟨p,by simp,h⟩
  .exact .inl h
  .rcases qd h with h|⟨t,h1,h2⟩
   .exact .inl h
   .exact .inr ⟨t,by simp[h1],h2⟩
theorem join_le{s:List Nat}{b:Nat}:∀{l:List (List Nat)},(∀p∈l,p.length<=b)->(aO s l).length<=l.length*(b+s.length)
 |[],_=>by simp[aO]
 |[p],h=>by have:=h p (by simp);simp[aO];omega
 |p :: q :: r,h=>by
  have h1:=h p (by simp);have h2:=join_le (s:=s) (l:=q :: r) λx hx=>h x (by simp[hx]);simp only[aO,vt];rw[pX,Mf];omega
def Ft{c:List Pt}(h:Wide c):10∉ct c:=λz=>by
 rcases qd z with z|⟨p,h1,h2⟩
 .simp at z
 .obtain⟨q,h3,rfl⟩:=List.mem_map.mp h1;exact((mC (h.pt q h3)).2.2 10 h2).2 rfl
def lE{c:List Pt}(h:Wide c):(ct c).length<=120:=by
 have h1:(ct c).length<=(c.map Pt.t).length*(9+[47].length):=join_le λp hp=>by
  obtain⟨q,h3,rfl⟩:=List.mem_map.mp hp;exact(mC (h.pt q h3)).2.1
 have h2:=h.len;simp at h1;omega
def xH{c:List Pt}(h:Wide c)(h0:c≠[]):Ev.aM 47 (ct c)=c.map Pt.t:=lD (by simpa using h0) λp hp z=>by
 obtain⟨q,h3,rfl⟩:=List.mem_map.mp hp;exact((mC (h.pt q h3)).2.2 47 z).1 rfl
def DL{c:List Pt}(h:Wide c):ct c=[]↔c=[]:=by
 constructor
 .intro e;cases c with
  |nil=>rfl
  |cons p c=>
   have h1:=(mC (h.pt p (by simp))).1;cases c with
   |nil=>simp only[ct,vv,Lr,aO]at e;rw[e]at h1;cases h1
   |cons q c=>
    have:=AD List.length e;simp[ct,aO]at this
 .rintro rfl;rfl
def Fv{s:List Nat}{l:List (List Nat)}{b:Nat}(hb:∀p∈l,p.length<=b)(h:l.length*(b+s.length)<=100000):cT .join (.str s) [.lst (l.map V.str)]=some (.str (aO s l)):=by
 have hs':strsOf (l.map V.str)=some l:=by simpa using iz (λx=>x) l
 have h1:∀{l:List (List Nat)},(∀p∈l,p.length<=b)->(l.map (·.length)).sum<=l.length*b:=λ{l}=>by
  induction l with
  |nil=>simp
  |cons p l ih=>
   intro h;have h2:=ih λq hq=>h q (by simp[hq]);have h3:=h p (by simp);simp only[vv,List.sum_cons,pX,Mf];omega
 have h2:(l.map (·.length)).sum+l.length*s.length<=big:=bw (by have:=h1 hb;rw[Nat.mul_add]at h;omega)
 delta cT;dsimp only;simp only[jK,hs',Option.bind];rw[eO h2]
theorem qe(t:List Nat):∀l:List (List Nat),mem (.str t) (l.map V.str)=some (l.contains t)
 |[]=>rfl
 |x :: l=>by
  rw[vv,mem_cons,qe t l,mq];show some (decide (x=t) ||l.contains t)=_;rw[MQ]
  congr 2
  by_cases h:x=t
  .simp[h]
  .rw[yK h];simp;exact λz=>h z.symm
section
variable{F:List Fn}{w n i:Nat}
def qB(h:F[i]?=some fH){k:Nat}(h1:1<=k)(h2:k<=99):run F w (n+1) i [.val (.int k)]=some (.bl true,[]):=by
 refine cE h rfl (au (bT (b:=false) (gq (aV rfl (kX (ay rfl) rfl) rfl) (gy (b:=true) (aV rfl (kX (ay rfl) rfl) rfl))) (λh=>absurd h (by decide)) λ_=>bI ?_));exact au (b6 (DK (b1:=true) (b2:=true) (z:=.int 99) (aE rfl) (ay rfl) (by rw[pV,K6 (by omega)]) (λ_=>⟨aE rfl,by rw[pV,K6 (by omega)]⟩) (λh=>absurd h (by decide))) ⟨rfl,rfl⟩)
def jS(h:F[i]?=some fJ){s:List Nat}(hs:WS s):run F w (n+1) i [.val (.str s)]=some (.bl true,[]):=by
 obtain⟨h1,h2,h3⟩:=hs;refine cE h rfl (au (bT (b:=false) (gq (gy (b:=true) (aV rfl (kX (ay rfl) rfl) rfl)) (gy (b:=true) (aV rfl (DK (b1:=true) (b2:=true) (z:=.int 8) (aE rfl) (dW (aA (ay rfl) aH) (len_str (by omega))) (by rw[pV,K6 (by omega)]) (λ_=>⟨aE rfl,by rw[pV,K6 (by omega)]⟩) (λh=>absurd h (by decide))) rfl))) (λh=>absurd h (by decide)) λ_=>bI ?_));have hc:bz (dP (run F w n) (.cmp .isin (.v 1) (.c (.str sgn))) (.one 1) .no [some (.val (.str s)),none]) (s.map λc=>.str [c])=some (s.map λc=>.bl (sgn.contains c)):=
  dH _ _ _ λc _=>dI rfl (bB (ay rfl) (aE rfl) xw)
 have ha:cg .all [.lst (s.map λc=>.bl (sgn.contains c))]=some (.bl true):=by
  rw[rT,jN];show some (V.bl _)=_;rw[List.all_eq_true.mpr];intro x hx;obtain⟨c,hc,rfl⟩:=List.mem_map.mp hx;exact h3 c hc
 exact au (b6 (dW (aA (eX (fF (gg rfl) rfl) rfl hc (cD (bw (by simp;omega)))) aH) ha) ⟨rfl,rfl⟩)
def qC{bP bQ:Nat}(hk:F[bP]?=some fH)(hs:F[bQ]?=some fJ)(h:F[i]?=some (dM bP bQ)){p:Pt}(hp:WP p):run F w (n+2) i [.val p.v]=some (.bl true,[]):=by
 refine cE h rfl ?_;have hd:∃a b,p.v=.tup [a,b]:=by cases p<;>exact⟨_,_,rfl⟩
 have st:∀a b,Wp (exs (run F w (n+1)) w (.cons (jP bP) (.cons (jQ bQ) .nil)) [some (.val (.tup [a,b]))]) (λg fr=>g=.ret (.bl true)/\outs 1 fr=[])->Wp (exs (run F w (n+1)) w (dM bP bQ).body (cL (dM bP bQ) [.val (.tup [a,b])])) λg fr=>g=.ret (.bl true)/\outs (dM bP bQ).np fr=[]:=λa b q=>
  au (bT (b:=false) (gq (gy (b:=true) (aV rfl (kX (ay rfl) rfl) rfl)) (aV rfl (bB (dW (aA (ay rfl) aH) rR) (aE rfl) yI) rfl)) (λh=>absurd h (by decide)) λ_=>bI q)
 cases p with
 |keep k=>
  exact st _ _ (au (bT (b:=true) (aV rfl (bB (fN (ay rfl) (aE rfl) rfl) (aE rfl) gG) rfl) (λ_=>au (b6 (bZ (bq rfl (fN (ay rfl) (aE rfl) rfl) bh) (cH (qB hk hp.1 hp.2))) ⟨rfl,rfl⟩)) λh=>absurd h (by decide)))
 |put s=>
  exact st _ _ (au (bT (b:=false) (aV rfl (bB (fN (ay rfl) (aE rfl) rfl) (aE rfl) gG) rfl) (λh=>absurd h (by decide)) λ_=>bI (au (b6 (nX (bB (fN (ay rfl) (aE rfl) rfl) (cP (aA (aE rfl) (aA (aE rfl) aH)) fY) rfl) (bZ (bq rfl (fN (ay rfl) (aE rfl) rfl) bh) (cH (jS hs hp)))) ⟨rfl,rfl⟩))))
 |drop s=>
  exact st _ _ (au (bT (b:=false) (aV rfl (bB (fN (ay rfl) (aE rfl) rfl) (aE rfl) gG) rfl) (λh=>absurd h (by decide)) λ_=>bI (au (b6 (nX (bB (fN (ay rfl) (aE rfl) rfl) (cP (aA (aE rfl) (aA (aE rfl) aH)) fY) rfl) (bZ (bq rfl (fN (ay rfl) (aE rfl) rfl) bh) (cH (jS hs hp)))) ⟨rfl,rfl⟩))))
def iK{bP bQ cO:Nat}(hk:F[bP]?=some fH)(hs:F[bQ]?=some fJ)(hp:F[cO]?=some (dM bP bQ))(h:F[i]?=some (gH cO)){c:List Pt}(hc:Wide c):run F w (n+3) i [.val (bJ c)]=some (.bl true,[]):=by
 have hl:=hc.len;have jj:bz (dP (run F w (n+2)) (.cl cO (.cons (.v 1) .nil)) (.one 1) .no [some (.val (bJ c)),none]) (c.map Pt.v)=some (c.map λ_=>.bl true):=
  dH _ _ _ λp h'=>dI rfl (bZ (bq rfl (ay rfl) bh) (cH (qC hk hs hp (hc.pt p h'))))
 have ha:cg .all [.lst (c.map λ_=>.bl true)]=some (.bl true):=by
  rw[rT,jN (λ_=>true) c];show some (V.bl _)=_;rw[List.all_eq_true.mpr];intro x hx;obtain⟨_,_,rfl⟩:=List.mem_map.mp hx;rfl
 refine cE h rfl (au (bT (b:=false) (gq (gy (b:=true) (aV rfl (kX (ay rfl) rfl) rfl)) (aV rfl (bB (dW (aA (ay rfl) aH) rR) (aE rfl) DB) (by show decide _=false;exact yK (by simp;omega)))) (λh=>absurd h (by decide)) λ_=>bI ?_));exact au (b6 (dW (aA (eX (fF (gg rfl) rfl) rfl jj (cD (bw (by simp;omega)))) aH) ha) ⟨rfl,rfl⟩)
def qf{k:Nat}(h:k<=99):cg .dz [.int (k:Int)]=some (.str (Ev.cW k)):=by
 delta cg;dsimp only;rw[eO (by omega)]
def eY(h:F[i]?=some iI){c:List Pt}(hc:Wide c):run F w (n+1) i [.val (bJ c)]=some (.str (ct c),[]):=by
 have hl:=hc.len;have jj:bz (dP (run F w n) (.bin .add (.cV [(.str [107,101,101,112],.str [61]),(.str [112,117,116],.str [43]),(.str [100,114,111,112],.str [45])] (.v 1)) (.bi .dz (.cons (.v 2) .nil))) (.many [1,2]) .no [some (.val (bJ c)),none,none]) (c.map Pt.v)=some (c.map λp=>.str p.t):=
  dH _ _ _ λp h'=>by
   have hp:=hc.pt p h';have ht:=(mC hp).2.1;cases p with
   |keep k=>exact dI rfl (aG (dZ (ay rfl) rfl) (dW (aA (ay rfl) aH) (qf hp.2)) (bY (by simp[Pt.t]at ht ⊢;omega)))
   |put s=>exact dI rfl (aG (dZ (ay rfl) rfl) (dW (aA (ay rfl) aH) rfl) (bY (by simp[Pt.t]at ht ⊢;omega)))
   |drop s=>exact dI rfl (aG (dZ (ay rfl) rfl) (dW (aA (ay rfl) aH) rfl) (bY (by simp[Pt.t]at ht ⊢;omega)))
 have hj:cT .join (.str [47]) [.lst (c.map λp=>V.str p.t)]=some (.str (ct c)):=by
  have:=Fv (s:=[47]) (l:=c.map Pt.t) (b:=9) (λp hp=>by
   obtain⟨q,h3,rfl⟩:=List.mem_map.mp hp;exact(mC (hc.pt q h3)).2.1) (by simp;omega)
  rwa [Ll]at this
 exact cE h rfl (au (b6 (nY rfl (aE rfl) (aA (eX (fF (gg rfl) rfl) rfl jj (cD (bw (by simp;omega)))) aH) hj) ⟨rfl,rfl⟩))
noncomputable def rt(rows:List (List Pt)):List Nat:=(rows.map λc=>ct c++[10]).flatten
theorem qg:∀{rows:List (List Pt)},(∀c∈rows,Wide c)->(rt rows).length<=rows.length*121
 |[],_=>by simp[rt]
 |c :: rows,h=>by
  have h1:=lE (h c (by simp));have h2:=qg (rows:=rows) λx hx=>h x (by simp[hx]);simp only[rt,vv,Je,vt,pX,Lq]at h2 ⊢;rw[Mf];omega
def nK{tL:Nat}{s0:Sl}{os:List (List V)}(ht:F[tL]?=some iI)(h:F[i]?=some (qz tL)){rows:List (List Pt)}(hr:∀c∈rows,Wide c)(hl:rows.length<=100):run F w (n+2) i [.val (.lst (rows.map bJ))]=some (.str (rt rows),[]):=by
 have jj:bz (dP (run F w (n+1)) (.bin .add (.cl tL (.cons (.v 1) .nil)) (.c (.str [10]))) (.one 1) .no [some (.val (.lst (rows.map bJ))),none]) (rows.map bJ)=some (rows.map λc=>.str (ct c++[10])):=
  dH _ _ _ λc h'=>by
   have:=lE (hr c h');exact dI rfl (aG (bZ (bq rfl (ay rfl) bh) (cH (eY ht (hr c h')))) (aE rfl) (bY (by simp;omega)))
 have hj:cT .join (.str []) [.lst (rows.map λc=>V.str (ct c++[10]))]=some (.str (rt rows)):=by
  have h1:=qg hr;have:=yF (l:=rows.map λc=>ct c++[10]) (by unfold rt at h1;omega)
  rwa [Ll]at this
 exact cE h rfl (au (b6 (nY rfl (aE rfl) (aA (eX (fF (gg rfl) rfl) rfl jj (cD (bw (by simp;omega)))) aH) hj) ⟨rfl,rfl⟩))
def lG(h:F[i]?=some eg){k:Nat}(h1:1<=k)(h2:k<=99):run F w (n+1) i [.val (.str (Ev.cW k))]=some (.int k,[]):=by
 have hr:cG [.int 1,.int (99+1)]=some ((List.range 99).map λ(j:Nat)=>V.int (1+j)):=Io (by decide) (by decide) (by decide) (by decide);have jj:bz (dP (run F w n) (.bi .dz (.cons (.v 1) .nil)) (.one 1) .no [some (.val (.str (Ev.cW k))),none]) ((List.range 99).map λ(j:Nat)=>V.int (1+j))=some (((List.range 99).map λ(j:Nat)=>Ev.cW ((1+j:Nat):Int)).map V.str):=by
  rw[Ll];refine dH _ _ _ λj hj=>dI rfl (dW (aA (ay rfl) aH) ?_);have:=List.mem_range.mp hj;rw[show(1:Int)+(j:Int)=((1+j:Nat):Int)by simp];exact qf (by omega)
 have hin:cop .cK (.str (Ev.cW k)) (.lst (((List.range 99).map λ(j:Nat)=>Ev.cW ((1+j:Nat):Int)).map V.str))=some false:=by
  rw[ve,xu,qe];show some (!_)=_;rw[show((List.range 99).map λ(j:Nat)=>Ev.cW ((1+j:Nat):Int)).contains (Ev.cW k)=true from ?_];rfl;rw[My];exact List.mem_map.mpr ⟨k - 1,by simp;omega,by congr 1;omega⟩
 refine cE h rfl (au (bT (b:=false) (aV rfl (bB (ay rfl) (eX (kY (aA (aE rfl) (aA (aG (aE rfl) (aE rfl) bN) aH)) hr) rfl jj (cD (bw (by simp)))) hin) rfl) (λh=>absurd h (by decide)) λ_=>bI ?_));exact au (b6 (dW (aA (ay rfl) aH) (by delta cg;dsimp only;rw[(dg h2).nm];rfl)) ⟨rfl,rfl⟩)
def nL{er:Nat}(hn:F[er]?=some eg)(h:F[i]?=some (gM er)){p:Pt}(hp:WP p):run F w (n+2) i [.val (.str p.t)]=some (p.v,[]):=by
 have s1:∀(x:Nat) (r:List Nat),fS (.str (x :: r)) none (some 1)=some (.str [x]):=λx r=>by rw[mw];exact AD (λz=>some (V.str z)) (Fq (x :: r) 1)
 have s2:∀(x:Nat) (r:List Nat),fS (.str (x :: r)) (some 1) none=some (.str r):=λx r=>by rw[mw];exact AD (λz=>some (V.str z)) (yJ (x :: r) 1)
 refine cE h rfl ?_;cases p with
 |keep k=>
  refine au (bT (b:=false) (aV rfl (bB (fq (ay rfl) dR (cR (aE rfl)) (s1 _ _)) (aE rfl) rfl) rfl) (λh=>absurd h (by decide)) λ_=>bI ?_);refine au (bS (dZ (fq (ay rfl) dR (cR (aE rfl)) (s1 _ _)) rfl) rfl rfl ?_);exact au (bT (b:=true) (aV rfl (bB (ay rfl) (aE rfl) gG) rfl) (λ_=>au (b6 (cP (aA (ay rfl) (aA (bZ (bq rfl (fq (ay rfl) (cR (aE rfl)) dR (s2 _ _)) bh) (cH (lG hn hp.1 hp.2))) aH)) fY) ⟨rfl,rfl⟩)) λh=>absurd h (by decide))
 |put s=>
  refine au (bT (b:=false) (aV rfl (bB (fq (ay rfl) dR (cR (aE rfl)) (s1 _ _)) (aE rfl) rfl) rfl) (λh=>absurd h (by decide)) λ_=>bI ?_);refine au (bS (dZ (fq (ay rfl) dR (cR (aE rfl)) (s1 _ _)) rfl) rfl rfl ?_);exact au (bT (b:=false) (aV rfl (bB (ay rfl) (aE rfl) gG) rfl) (λh=>absurd h (by decide)) λ_=>bI (au (b6 (cP (aA (ay rfl) (aA (fq (ay rfl) (cR (aE rfl)) dR (s2 _ _)) aH)) fY) ⟨rfl,rfl⟩)))
 |drop s=>
  refine au (bT (b:=false) (aV rfl (bB (fq (ay rfl) dR (cR (aE rfl)) (s1 _ _)) (aE rfl) rfl) rfl) (λh=>absurd h (by decide)) λ_=>bI ?_);refine au (bS (dZ (fq (ay rfl) dR (cR (aE rfl)) (s1 _ _)) rfl) rfl rfl ?_);exact au (bT (b:=false) (aV rfl (bB (ay rfl) (aE rfl) gG) rfl) (λh=>absurd h (by decide)) λ_=>bI (au (b6 (cP (aA (ay rfl) (aA (fq (ay rfl) (cR (aE rfl)) dR (s2 _ _)) aH)) fY) ⟨rfl,rfl⟩)))
def eZ{bP bQ cO gb er gO:Nat}(hk:F[bP]?=some fH)(hs:F[bQ]?=some fJ)(hp:F[cO]?=some (dM bP bQ))(hi:F[gb]?=some (gH cO))(hn:F[er]?=some eg)(hr:F[gO]?=some (gM er))(h:F[i]?=some (iJ gO gb)){c:List Pt}(hc:Wide c):run F w (n+4) i [.val (.str (ct c))]=some (bJ c,[]):=by
 have hl:=hc.len;refine cE h rfl ?_;by_cases h0:c=[]
 .subst h0;exact au (bT (b:=true) (aV rfl (bB (ay rfl) (aE rfl) gG) rfl) (λ_=>au (b6 (cP aH kR) ⟨rfl,rfl⟩)) λh=>absurd h (by decide))
 .have hne:ct c≠[]:=λz=>h0 ((DL hc).mp z);have fD:lY (.str (ct c)) (.str [47])=some (c.map λp=>.str p.t):=by
   show(if 47<128 then some ((Ev.aM 47 (ct c)).map V.str)else none)=_;rw[eO (by decide),xH hc h0,Ll];rfl
  have jj:bz (dP (run F w (n+3)) (.cl gO (.cons (.v 2) .nil)) (.one 2) .no [some (.val (.str (ct c))),none,none]) (c.map λp=>V.str p.t)=some (c.map Pt.v):=
   dH _ _ _ λp h'=>dI rfl (bZ (bq rfl (ay rfl) bh) (cH (nL (n:=n+1) hn hr (hc.pt p h'))))
  refine au (bT (b:=false) (aV rfl (bB (ay rfl) (aE rfl) gG) (yK hne)) (λh=>absurd h (by decide)) λ_=>bI ?_);refine au (bS (v:=bJ c) (yH (eX (fF (tF (vm (ay rfl) (aE rfl) fD) (cD (bw (by simp;omega)))) rfl) rfl jj (cD (bw (by simp;omega)))) (by show fU (c.map Pt.v)=_;unfold fU;rw[eO (bw (by simp;omega))];rfl)) rfl rfl ?_);refine au (bT (b:=false) (gy (b:=true) (aV rfl (bZ (bq rfl (ay rfl) bh) (cH (iK hk hs hp hi hc))) rfl)) (λh=>absurd h (by decide)) λ_=>bI ?_);exact au (b6 (ay rfl) ⟨rfl,rfl⟩)
def qh(h:F[i]?=some lC){rows:List (List Pt)}(hr:∀c∈rows,Wide c)(hl:rows.length<=100):run F w (n+1) i [.val (.str (rt rows))]=some (.lst (rows.map λc=>.str (ct c)),[]):=by
 have fD:lY (.str (rt rows)) (.str [10])=some ((rows.map λc=>.str (ct c))++[.str []]):=by
  show(if 10<128 then some ((Ev.aM 10 (rt rows)).map V.str)else none)=_;have:=jR (c:=10) (ps:=rows.map ct) λp hp=>by
   obtain⟨c,h1,rfl⟩:=List.mem_map.mp hp;exact Ft (hr c h1)
  rw[Ll]at this;rw[eO (by decide),show rt rows=(rows.map ((λp=>p++[10]) ∘ ct)).flatten from rfl,this];simp
 refine cE h rfl ?_;refine au (DA (tF (vm (ay rfl) (aE rfl) fD) (cD (bw (by simp;omega)))) rfl rfl ?_);refine au (bT (b:=false) (aV rfl (bB (yG rfl rfl aH AA) (aE rfl) jx) rfl) (λh=>absurd h (by decide)) λ_=>bI ?_);exact au (b6 (ay rfl) ⟨rfl,rfl⟩)
def iL{bP bQ cO gb er gO tM qi:Nat}(hk:F[bP]?=some fH)(hs:F[bQ]?=some fJ)(hp:F[cO]?=some (dM bP bQ))(hi:F[gb]?=some (gH cO))(hn:F[er]?=some eg)(hr:F[gO]?=some (gM er))(Kd:F[qi]?=some (iJ gO gb))(hlo:F[tM]?=some lC)(h:F[i]?=some (qA tM qi))
  {rows:List (List Pt)} (hrs:∀c∈rows,Wide c) (hl:rows.length<=100):run F w (n+5) i [.val (.str (rt rows))]=some (.lst (rows.map bJ),[]):=by
 have jj:bz (dP (run F w (n+4)) (.cl qi (.cons (.v 1) .nil)) (.one 1) .no [some (.val (.str (rt rows))),none]) (rows.map λc=>V.str (ct c))=some (rows.map bJ):=
  dH _ _ _ λc h'=>dI rfl (bZ (bq rfl (ay rfl) bh) (cH (eZ hk hs hp hi hn hr Kd (hrs c h'))))
 exact cE h rfl (au (b6 (eX (fF (bZ (bq rfl (ay rfl) bh) (cH (qh hlo hrs hl))) rfl) rfl jj (cD (bw (by simp;omega)))) ⟨rfl,rfl⟩))
end
end Pv
namespace Lw
@[reducible] noncomputable def ID:Ev.S:=.iff (.orr (.nt (.dB (.v 0) [.tuple])) (.cmp .gt (.bi .len (.cons (.v 0) .nil)) (.c (.int 12)))) (.cons (.ret (.c (.bl false))) .nil) .nil
@[reducible] noncomputable def IE:Ev.S:=.ret (.bi .all (.cons (.comp (.cl 1 (.cons (.v 1) .nil)) (.one 1) (.seq (.v 0)) .no) .nil))
@[reducible] noncomputable def f0:Ev.Fn:=⟨1,2,(.cons ID (.cons IE .nil))⟩
@[reducible] noncomputable def IF:Ev.S:=.iff (.orr (.nt (.dB (.v 0) [.tuple])) (.cmp .ne (.bi .len (.cons (.v 0) .nil)) (.c (.int 2)))) (.cons (.ret (.c (.bl false))) .nil) .nil
@[reducible] noncomputable def IG:Ev.S:=.iff (.cmp .eq (.ix (.v 0) (.c (.int 0))) (.c (.str [107,101,101,112]))) (.cons (.ret (.cl 2 (.cons (.ix (.v 0) (.c (.int 1))) .nil))) .nil) .nil
@[reducible] noncomputable def II:Ev.S:=.ret (.an (.cmp .isin (.ix (.v 0) (.c (.int 0))) (.tup (.cons (.c (.str [112,117,116])) (.cons (.c (.str [100,114,111,112])) .nil)))) (.cl 3 (.cons (.ix (.v 0) (.c (.int 1))) .nil)))
@[reducible] noncomputable def f1:Ev.Fn:=⟨1,1,(.cons IF (.cons IG (.cons II .nil)))⟩
@[reducible] noncomputable def IJ:Ev.S:=.iff (.orr (.dB (.v 0) [.bool]) (.nt (.dB (.v 0) [.int]))) (.cons (.ret (.c (.bl false))) .nil) .nil
@[reducible] noncomputable def IK:Ev.S:=.ret (.ch .le .le (.c (.int 1)) (.v 0) (.c (.int 99)))
@[reducible] noncomputable def f2:Ev.Fn:=⟨1,1,(.cons IJ (.cons IK .nil))⟩
@[reducible] noncomputable def IL:Ev.S:=.iff (.orr (.nt (.dB (.v 0) [.str])) (.nt (.ch .le .le (.c (.int 1)) (.bi .len (.cons (.v 0) .nil)) (.c (.int 8))))) (.cons (.ret (.c (.bl false))) .nil) .nil
@[reducible] noncomputable def IM:Ev.S:=.ret (.bi .all (.cons (.comp (.cmp .isin (.v 1) (.c (.str [97,98,99,100,101,102,103,104,105,106,107,108,109,110,111,112,113,114,115,116,117,118,119,120,121,122,32]))) (.one 1) (.seq (.v 0)) .no) .nil))
@[reducible] noncomputable def f3:Ev.Fn:=⟨1,2,(.cons IL (.cons IM .nil))⟩
@[reducible] noncomputable def IP:Ev.S:=.ret (.me .join (.c (.str [47])) (.cons (.comp (.bin .add (.cV [(.str [107,101,101,112],.str [61]),(.str [112,117,116],.str [43]),(.str [100,114,111,112],.str [45])] (.v 1)) (.bi .dz (.cons (.v 2) .nil))) (.many [1,2]) (.seq (.v 0)) .no) .nil))
@[reducible] noncomputable def f4:Ev.Fn:=⟨1,3,(.cons IP .nil)⟩
@[reducible] noncomputable def IQ:Ev.S:=.ret (.me .join (.c (.str [])) (.cons (.comp (.bin .add (.cl 4 (.cons (.v 1) .nil)) (.c (.str [10]))) (.one 1) (.seq (.v 0)) .no) .nil))
@[reducible] noncomputable def f5:Ev.Fn:=⟨1,2,(.cons IQ .nil)⟩
@[reducible] noncomputable def IS:Ev.S:=.iff (.cmp .eq (.v 0) (.c (.str []))) (.cons (.ret (.tup .nil)) .nil) .nil
@[reducible] noncomputable def IT:Ev.S:=.set 1 (.iG (.comp (.cl 8 (.cons (.v 2) .nil)) (.one 2) (.seq (.fR (.gS (.v 0) (.c (.str [47]))))) .no))
@[reducible] noncomputable def IU:Ev.S:=.iff (.nt (.cl 0 (.cons (.v 1) .nil))) (.cons (.cZ 4) .nil) .nil
@[reducible] noncomputable def IV:Ev.S:=.ret (.v 1)
@[reducible] noncomputable def f6:Ev.Fn:=⟨1,3,(.cons IS (.cons IT (.cons IU (.cons IV .nil))))⟩
@[reducible] noncomputable def IW:Ev.S:=.ret (.comp (.cl 6 (.cons (.v 1) .nil)) (.one 1) (.seq (.cl 10 (.cons (.v 0) .nil))) .no)
@[reducible] noncomputable def f7:Ev.Fn:=⟨1,2,(.cons IW .nil)⟩
@[reducible] noncomputable def IX:Ev.S:=.iff (.cmp .cK (.sl (.v 0) .no (.yes (.c (.int 1)))) (.c (.str [61,43,45]))) (.cons (.cZ 4) .nil) .nil
@[reducible] noncomputable def IY:Ev.S:=.set 1 (.cV [(.str [61],.str [107,101,101,112]),(.str [43],.str [112,117,116]),(.str [45],.str [100,114,111,112])] (.sl (.v 0) .no (.yes (.c (.int 1)))))
@[reducible] noncomputable def IZ:Ev.S:=.iff (.cmp .eq (.v 1) (.c (.str [107,101,101,112]))) (.cons (.ret (.tup (.cons (.v 1) (.cons (.cl 9 (.cons (.sl (.v 0) (.yes (.c (.int 1))) .no) .nil)) .nil)))) .nil) .nil
@[reducible] noncomputable def I0:Ev.S:=.ret (.tup (.cons (.v 1) (.cons (.sl (.v 0) (.yes (.c (.int 1))) .no) .nil)))
@[reducible] noncomputable def f8:Ev.Fn:=⟨1,2,(.cons IX (.cons IY (.cons IZ (.cons I0 .nil))))⟩
@[reducible] noncomputable def Ja:Ev.S:=.iff (.cmp .cK (.v 0) (.comp (.bi .dz (.cons (.v 1) .nil)) (.one 1) (.eF (.cons (.c (.int 1)) (.cons (.bin .add (.c (.int 99)) (.c (.int 1))) .nil))) .no)) (.cons (.cZ 4) .nil) .nil
@[reducible] noncomputable def Jb:Ev.S:=.ret (.bi .ig (.cons (.v 0) .nil))
@[reducible] noncomputable def f9:Ev.Fn:=⟨1,2,(.cons Ja (.cons Jb .nil))⟩
@[reducible] noncomputable def Fw:Ev.S:=.set 1 (.fR (.gS (.v 0) (.c (.str [10]))))
@[reducible] noncomputable def Fx:Ev.S:=.iff (.cmp .ne (.me .pop (.v 1) .nil) (.c (.str []))) (.cons (.cZ 4) .nil) .nil
@[reducible] noncomputable def Fy:Ev.S:=.ret (.v 1)
@[reducible] noncomputable def uL:Ev.Fn:=⟨1,2,(.cons Fw (.cons Fx (.cons Fy .nil)))⟩
@[reducible] noncomputable def Fz:Ev.S:=.iff (.cmp .eq (.v 0) (.lst .nil)) (.cons (.ret (.bin .mul (.c (.int 7)) (.v 1))) .nil) .nil
@[reducible] noncomputable def FA:Ev.S:=.ret (.bin .add (.ix (.v 0) (.bin .mod (.v 1) (.bi .len (.cons (.v 0) .nil)))) (.bin .mul (.c (.int 6553)) (.bin .fdiv (.v 1) (.bi .len (.cons (.v 0) .nil)))))
@[reducible] noncomputable def DM:Ev.Fn:=⟨2,2,(.cons Fz (.cons FA .nil))⟩
@[reducible] noncomputable def FD:Ev.S:=.set 3 (.bin .mod (.bin .add (.bin .mul (.bin .mod (.cl 11 (.cons (.v 0) (.cons (.v 1) .nil))) (.c (.int 2147483563))) (.c (.int 69069))) (.bin .mul (.c (.int 104723)) (.bin .add (.v 1) (.c (.int 1))))) (.c (.int 2147483563)))
@[reducible] noncomputable def FE:Ev.S:=.set 3 (.bin .mod (.bin .add (.bin .mul (.v 3) (.v 3)) (.bin .fdiv (.v 3) (.c (.int 3)))) (.c (.int 2147483399)))
@[reducible] noncomputable def FF:Ev.S:=.ret (.bin .mod (.bin .fdiv (.bin .mod (.bin .add (.bin .mul (.v 3) (.v 3)) (.bin .fdiv (.v 3) (.c (.int 7)))) (.c (.int 2147483647))) (.c (.int 11))) (.v 2))
@[reducible] noncomputable def DN:Ev.Fn:=⟨3,4,(.cons FD (.cons FE (.cons FF .nil)))⟩
@[reducible] noncomputable def FG:Ev.S:=.set 2 (.c (.str [97,98,99,100,101,102,103,104,105,106,107,108,109,110,111,112,113,114,115,116,117,118,119,120,121,122,32]))
@[reducible] noncomputable def FH:Ev.S:=.set 3 (.tup .nil)
@[reducible] noncomputable def tN:Ev.Ss:=(.cons (.set 5 (.bin .add (.bin .add (.v 1) (.c (.int 1))) (.bin .mul (.c (.int 12)) (.v 4)))) (.cons (.set 6 (.ix (.lst (.cons (.c (.str [107,101,101,112])) (.cons (.c (.str [112,117,116])) (.cons (.c (.str [100,114,111,112])) .nil)))) (.cl 12 (.cons (.v 0) (.cons (.v 5) (.cons (.c (.int 3)) .nil)))))) (.cons (.set 7 (.bin .add (.c (.int 1)) (.cl 12 (.cons (.v 0) (.cons (.bin .add (.v 5) (.c (.int 1))) (.cons (.c (.int 99)) .nil)))))) (.cons (.iff (.cmp .ne (.v 6) (.c (.str [107,101,101,112]))) (.cons (.set 8 (.bin .add (.c (.int 1)) (.cl 12 (.cons (.v 0) (.cons (.bin .add (.v 5) (.c (.int 1))) (.cons (.c (.int 8)) .nil)))))) (.cons (.set 7 (.me .join (.c (.str [])) (.cons (.comp (.ix (.v 2) (.cl 12 (.cons (.v 0) (.cons (.bin .add (.bin .add (.v 5) (.c (.int 2))) (.v 9)) (.cons (.c (.int 27)) .nil))))) (.one 9) (.eF (.cons (.v 8) .nil)) .no) .nil))) .nil)) .nil) (.cons (.set 3 (.bin .add (.v 3) (.tup (.cons (.tup (.cons (.v 6) (.cons (.v 7) .nil))) .nil)))) .nil)))))
@[reducible] noncomputable def FJ:Ev.S:=.for (.one 4) (.eF (.cons (.cl 12 (.cons (.v 0) (.cons (.v 1) (.cons (.c (.int 13)) .nil)))) .nil)) tN
@[reducible] noncomputable def FL:Ev.S:=.ret (.v 3)
@[reducible] noncomputable def qj:Ev.Fn:=⟨2,10,(.cons FG (.cons FH (.cons FJ (.cons FL .nil))))⟩
@[reducible] noncomputable def FO:Ev.S:=.set 1 (.comp (.cl 13 (.cons (.v 0) (.cons (.bin .mul (.c (.int 200)) (.v 7)) .nil))) (.one 7) (.eF (.cons (.cl 12 (.cons (.v 0) (.cons (.c (.int 900)) (.cons (.c (.int 5)) .nil)))) .nil)) .no)
@[reducible] noncomputable def FP:Ev.S:=.set 2 (.c (.str []))
@[reducible] noncomputable def tO:Ev.Ss:=(.cons (.set 4 (.bin .add (.bin .add (.bin .add (.v 4) (.c (.str [47]))) (.cV [(.str [107,101,101,112],.str [61]),(.str [112,117,116],.str [43]),(.str [100,114,111,112],.str [45])] (.v 5))) (.bi .dz (.cons (.v 6) .nil)))) .nil)
@[reducible] noncomputable def tP:Ev.Ss:=(.cons (.set 4 (.c (.str []))) (.cons (.for (.many [5,6]) (.seq (.v 3)) tO) (.cons (.iff (.orr (.cmp .ne (.cl 4 (.cons (.v 3) .nil)) (.sl (.v 4) (.yes (.c (.int 1))) .no)) (.orr (.cmp .ne (.cl 6 (.cons (.sl (.v 4) (.yes (.c (.int 1))) .no) .nil)) (.v 3)) (.nt (.cl 0 (.cons (.v 3) .nil))))) (.cons (.ret (.c (.bl false))) .nil) .nil) (.cons (.set 2 (.bin .add (.bin .add (.v 2) (.sl (.v 4) (.yes (.c (.int 1))) .no)) (.c (.str [10])))) .nil))))
@[reducible] noncomputable def FQ:Ev.S:=.for (.one 3) (.seq (.v 1)) tP
@[reducible] noncomputable def FT:Ev.S:=.iff (.orr (.cmp .ne (.cl 5 (.cons (.v 1) .nil)) (.v 2)) (.cmp .ne (.cl 7 (.cons (.v 2) .nil)) (.v 1))) (.cons (.ret (.c (.bl false))) .nil) .nil
@[reducible] noncomputable def FU:Ev.S:=.ret (.an (.cmp .eq (.cl 4 (.cons (.tup .nil) .nil)) (.c (.str []))) (.an (.cmp .eq (.cl 6 (.cons (.c (.str [])) .nil)) (.tup .nil)) (.cmp .eq (.cl 7 (.cons (.c (.str [])) .nil)) (.lst .nil))))
@[reducible] noncomputable def vA:Ev.Fn:=⟨1,8,(.cons FO (.cons FP (.cons FQ (.cons FT (.cons FU .nil)))))⟩
noncomputable def prog:List Ev.Fn:=[f0,f1,f2,f3,f4,f5,f6,f7,f8,f9,uL,DM,DN,qj,vA]
end Lw
namespace Lw
open PySem PySem.Spec PyProof.Rows L2 Sm
open Ev (D O Hh Fr R aB E Es Eo T S Ss Fl Src aS aJ TY BI ME)
noncomputable def top(i:Nat):Stmt:=PySem.Challenge.pw_pastways_k90_texts.main.body.getD i (.Pass ⟨0,0,0,0⟩)
abbrev i0 (a:Nat->Addr) (d:Nat->FuncData):FI:=⟨"is_change",a 0,d 0,["thing"]⟩
abbrev i1 (a:Nat->Addr) (d:Nat->FuncData):FI:=⟨"is_part",a 1,d 1,["thing"]⟩
abbrev i2 (a:Nat->Addr) (d:Nat->FuncData):FI:=⟨"is_kept",a 2,d 2,["thing"]⟩
abbrev i3 (a:Nat->Addr) (d:Nat->FuncData):FI:=⟨"is_some",a 3,d 3,["thing"]⟩
abbrev i4 (a:Nat->Addr) (d:Nat->FuncData):FI:=⟨"change_text",a 4,d 4,["change"]⟩
abbrev i5 (a:Nat->Addr) (d:Nat->FuncData):FI:=⟨"rows_text",a 5,d 5,["rows"]⟩
abbrev i6 (a:Nat->Addr) (d:Nat->FuncData):FI:=⟨"read_change",a 6,d 6,["text"]⟩
abbrev i7 (a:Nat->Addr) (d:Nat->FuncData):FI:=⟨"read_rows",a 7,d 7,["text"]⟩
abbrev i8 (a:Nat->Addr) (d:Nat->FuncData):FI:=⟨"read_part",a 8,d 8,["text"]⟩
abbrev i9 (a:Nat->Addr) (d:Nat->FuncData):FI:=⟨"read_number",a 9,d 9,["text"]⟩
abbrev DO (a:Nat->Addr) (d:Nat->FuncData):FI:=⟨"lines_of",a 10,d 10,["text"]⟩
abbrev DP (a:Nat->Addr) (d:Nat->FuncData):FI:=⟨"_law_cell",a 11,d 11,["_law_script","_law_k"]⟩
abbrev i12 (a:Nat->Addr) (d:Nat->FuncData):FI:=⟨"_law_drawn",a 12,d 12,["_law_script","_law_k","_law_many"]⟩
abbrev DQ (a:Nat->Addr) (d:Nat->FuncData):FI:=⟨"_law_wide",a 13,d 13,["_law_script","_law_at"]⟩
abbrev yN (a:Nat->Addr) (d:Nat->FuncData):FI:=⟨"law",a 14,d 14,["_law_script"]⟩
noncomputable def jT:List Str:=["all","bool","int","isinstance","len","range","str","tuple"]
def FY:("all" : Str)∈jT:=by decide +kernel
def DR:("bool" : Str)∈jT:=by decide +kernel
def yO:("int" : Str)∈jT:=by decide +kernel
def fc:("isinstance" : Str)∈jT:=by decide +kernel
def FZ:("len" : Str)∈jT:=by decide +kernel
def rU:("range" : Str)∈jT:=by decide +kernel
def yP:("str" : Str)∈jT:=by decide +kernel
def rV:("tuple" : Str)∈jT:=by decide +kernel
noncomputable def tb (a:Nat->Addr) (d:Nat->FuncData):Tb:=⟨prog,100000,[i0 a d,i1 a d,i2 a d,i3 a d,i4 a d,i5 a d,i6 a d,i7 a d,i8 a d,i9 a d,DO a d,DP a d,i12 a d,DQ a d,yN a d],jT,[("__name__",.str [108,97,119,95,112,97,115,116,119,97,121,115,95,107,57,48,95,116,101,120,116,115]),("SIGNS",.str [97,98,99,100,101,102,103,104,105,106,107,108,109,110,111,112,113,114,115,116,117,118,119,120,121,122,32]),("MOST_KEPT",.int 99),("MOST_SIGNS",.int 8),("MOST_PARTS",.int 12)],[("MARKS",[(.str [107,101,101,112],.str [61]),(.str [112,117,116],.str [43]),(.str [100,114,111,112],.str [45])]),("WORDS",[(.str [61],.str [107,101,101,112]),(.str [43],.str [112,117,116]),(.str [45],.str [100,114,111,112])])]⟩
section
variable{a:Nat->Addr}{d:Nat->FuncData}{n:Nat}
abbrev n0:List Str:=["thing"]
def s0:bH n0 ["thing"] (aN (top 5)):=⟨rfl,rfl,rfl,by decide +kernel,rfl,by decide +kernel,by decide +kernel⟩
abbrev n1:List Str:=["thing"]
def s1:bH n1 ["thing"] (aN (top 6)):=⟨rfl,rfl,rfl,by decide +kernel,rfl,by decide +kernel,by decide +kernel⟩
abbrev n2:List Str:=["thing"]
def s2:bH n2 ["thing"] (aN (top 7)):=⟨rfl,rfl,rfl,by decide +kernel,rfl,by decide +kernel,by decide +kernel⟩
abbrev n3:List Str:=["thing"]
def s3:bH n3 ["thing"] (aN (top 8)):=⟨rfl,rfl,rfl,by decide +kernel,rfl,by decide +kernel,by decide +kernel⟩
abbrev n4:List Str:=["change"]
def s4:bH n4 ["change"] (aN (top 15)):=⟨rfl,rfl,rfl,by decide +kernel,rfl,by decide +kernel,by decide +kernel⟩
abbrev n5:List Str:=["rows"]
def s5:bH n5 ["rows"] (aN (top 16)):=⟨rfl,rfl,rfl,by decide +kernel,rfl,by decide +kernel,by decide +kernel⟩
abbrev n6:List Str:=["text","change"]
def s6:bH n6 ["text"] (aN (top 17)):=⟨rfl,rfl,rfl,by decide +kernel,rfl,by decide +kernel,by decide +kernel⟩
abbrev n7:List Str:=["text"]
def s7:bH n7 ["text"] (aN (top 18)):=⟨rfl,rfl,rfl,by decide +kernel,rfl,by decide +kernel,by decide +kernel⟩
abbrev n8:List Str:=["text","word"]
def s8:bH n8 ["text"] (aN (top 19)):=⟨rfl,rfl,rfl,by decide +kernel,rfl,by decide +kernel,by decide +kernel⟩
abbrev n9:List Str:=["text"]
def s9:bH n9 ["text"] (aN (top 20)):=⟨rfl,rfl,rfl,by decide +kernel,rfl,by decide +kernel,by decide +kernel⟩
abbrev DS:List Str:=["text","lines"]
def Gy:bH DS ["text"] (aN (top 21)):=⟨rfl,rfl,rfl,by decide +kernel,rfl,by decide +kernel,by decide +kernel⟩
abbrev DT:List Str:=["_law_script","_law_k"]
def yj:bH DT ["_law_script","_law_k"] (aN (top 23)):=⟨rfl,rfl,rfl,by decide +kernel,rfl,by decide +kernel,by decide +kernel⟩
abbrev DU:List Str:=["_law_script","_law_k","_law_many","_law_cell_here"]
def s12:bH DU ["_law_script","_law_k","_law_many"] (aN (top 24)):=⟨rfl,rfl,rfl,by decide +kernel,rfl,by decide +kernel,by decide +kernel⟩
abbrev DV:List Str:=["_law_script","_law_at","_law_signs","_law_found","_law_k","_law_here","_law_word","_law_what","_law_many"]
def Ke:bH DV ["_law_script","_law_at"] (aN (top 25)):=⟨rfl,rfl,rfl,by decide +kernel,rfl,by decide +kernel,by decide +kernel⟩
abbrev DW:List Str:=["_law_script","_law_rows","_law_text","_law_change","_law_line","_law_word","_law_what"]
def Kf:bH DW ["_law_script"] (aN (top 26)):=⟨rfl,rfl,rfl,by decide +kernel,rfl,by decide +kernel,by decide +kernel⟩
set_option maxHeartbeats 0 in
def eE:allB (tb a d) n [(f0.body,top 5,n0),(f1.body,top 6,n1),(f2.body,top 7,n2),(f3.body,top 8,n3),(f4.body,top 15,n4),(f5.body,top 16,n5),(f6.body,top 17,n6),(f7.body,top 18,n7),(f8.body,top 19,n8),(f9.body,top 20,n9),(uL.body,top 21,DS),(DM.body,top 23,DT),(DN.body,top 24,DU),(qj.body,top 25,DV),(vA.body,top 26,DW)]:=by
 refine⟨?_,?_,?_,?_,?_,?_,?_,?_,?_,?_,?_,?_,?_,?_,?_,trivial⟩;all_goals try dsimp only
 all_goals repeat (first
  | ((with_reducible show JE _ _ _ _ _ _ _ (.BoolOp _ [_] _));refine BF ?_)
  | ((with_reducible show JE _ _ _ _ _ _ (.c _) (.Name _ _));refine jn (x:="MOST_KEPT") (.tail _ (.tail _ (.head _))))
  | ((with_reducible show JE _ _ _ _ _ _ (.c _) (.Name _ _));refine jn (x:="MOST_PARTS") (.tail _ (.tail _ (.tail _ (.tail _ (.head _))))))
  | ((with_reducible show JE _ _ _ _ _ _ (.c _) (.Name _ _));refine jn (x:="MOST_SIGNS") (.tail _ (.tail _ (.tail _ (.head _)))))
  | ((with_reducible show JE _ _ _ _ _ _ (.c _) (.Name _ _));refine jn (x:="SIGNS") (.tail _ (.head _)))
  | ((with_reducible show JT _ _ _ _ _ _ (.cmp .cK _ _) _);refine Cr (x:="WORDS") (.tail _ (.head _)) ?_)
  | ((with_reducible show JE _ _ _ _ _ _ (.v _) _);exact jv (by decide +kernel))
  | ((with_reducible show JA _ _ _ _ _ _ (.cons _ _) _);refine zv ?_ ?_)
  | ((with_reducible show iV _ _ _ _ _ _ (.cons _ _) _);refine wm ?_ ?_)
  | ((with_reducible show JA _ _ _ _ _ _ .nil _);refine BC)
  | ((with_reducible show iV _ _ _ _ _ _ .nil _);refine zC)
  | ((with_reducible show JE _ _ _ _ _ _ (.c (.int _)) _);refine BA)
  | ((with_reducible show JS _ _ _ _ _ _ (.ret _) _);refine BS ?_)
  | ((with_reducible show JE _ _ _ _ _ _ (.cl _ _) _);refine JY (by decide +kernel) rfl rfl ?_)
  | ((with_reducible show JE _ _ _ _ _ _ (.c (.str _)) _);refine BB)
  | ((with_reducible show JE _ _ _ _ _ _ (.bin .add _ _) _);refine kC (λX g=>B7) ?_ ?_)
  | ((with_reducible show JS _ _ _ _ _ _ (.iff _ _ _) _);refine BU ?_ ?_ ?_)
  | ((with_reducible show JG _ _ _ _ _ _ (.one _) _);exact JV (by decide +kernel))
  | ((with_reducible show JC _ _ _ _ _ _ .no _);refine EL)
  | ((with_reducible show JE _ _ _ _ _ _ (.tup _) _);refine BD ?_)
  | ((with_reducible show JE _ _ _ _ _ _ (.comp _ _ _ _) _);refine EV (by decide +kernel) (by decide +kernel) ?_ ?_ ?_ ?_)
  | ((with_reducible show JI _ _ _ _ _ _ (.seq _) _ _);refine BP ?_)
  | ((with_reducible show JE _ _ _ _ _ _ (.bin .mul _ _) _);refine kC (λX g=>Cf) ?_ ?_)
  | ((with_reducible show JT _ _ _ _ _ _ (.orr _ _) _);refine Ii ?_ ?_)
  | ((with_reducible show JW _ _ _ _ _ _ (.orr _ _) (.BoolOp _ (_ :: _ :: _) _));refine uy ?_ ?_)
  | ((with_reducible show JT _ _ _ _ _ _ (.nt _) _);refine EF ?_)
  | ((with_reducible show JT _ _ _ _ _ _ (.cmp .ne _ _) _);refine kD (λX g=>EO g) ?_ ?_ (kh _))
  | ((with_reducible show JE _ _ _ _ _ _ (.ix _ _) _);refine EG (λX g=>ET) ?_ ?_)
  | ((with_reducible show JE _ _ _ _ _ _ (.sl _ _ _) _);refine EI (λX g=>Ce) ?_ ?_ ?_)
  | ((with_reducible show JO _ _ _ _ _ _ .no _);refine EH)
  | ((with_reducible show JO _ _ _ _ _ _ (.yes _) _);refine BK ?_)
  | ((with_reducible show JW _ _ _ _ _ _ _ (.BoolOp .Or [_] _));refine zw ?_)
  | ((with_reducible show JE _ _ _ _ _ _ (.c (.bl _)) _);refine Ez)
  | ((with_reducible show JE _ _ _ _ _ _ (.bin .mod _ _) _);refine kC (λX g=>B8) ?_ ?_)
  | ((with_reducible show JE _ _ _ _ _ _ (.bi .len _) _);refine yc (x:="len") (id:="len") (λX g=>Ci) ?_ (hb:=FZ) (hv:=by decide +kernel))
  | ((with_reducible show JT _ _ _ _ _ _ (.cmp .eq _ _) _);refine kD (λX g=>yu g) ?_ ?_ (kh _))
  | ((with_reducible show mX _ _ _ _ _ _ (_ :: _) _);refine JX (by decide +kernel) ?_)
  | ((with_reducible show JS _ _ _ _ _ _ (.cZ _) _);refine Cn)
  | ((with_reducible show JE _ _ _ _ _ _ (.bin .fdiv _ _) _);refine kC (λX g=>zL) ?_ ?_)
  | ((with_reducible show JE _ _ _ _ _ _ (.an _ _) (.BoolOp _ (_ :: _ :: _) _));refine EE ?_ ?_)
  | ((with_reducible show JE _ _ _ _ _ _ (.me .join _ (.cons _ _)) _);refine EK PySem.F.plainAttrs_str PySem.F.slot_str_join PySem.F.type_str_join (λX g=>zQ) rfl ?_ ?_)
  | ((with_reducible show JE _ _ _ _ _ _ (.bi .dz _) _);refine yd (x:="str") (id:="str") (λX g=>zT) ?_ (hb:=yP) (hv:=by decide +kernel))
  | ((with_reducible show JE _ _ _ _ _ _ (.lst _) _);refine BE ?_)
  | ((with_reducible show JS _ _ _ _ _ _ (.for _ _ _) _);refine BV ?_ ?_ ?_)
  | ((with_reducible show JI _ _ _ _ _ _ (.eF (.cons _ .nil)) _ _);refine zy ?_ (hb:=rU))
  | ((with_reducible show JE _ _ _ _ _ _ (.cmp .eq _ _) _);refine uw (λX g=>yu g) ?_ ?_ (kh _))
  | ((with_reducible show JE _ _ _ _ _ _ (.dB _ [.tuple]) _);refine kG (t:=.tuple) (T:="tuple") ?_ (by decide +kernel) (h1:=fc) (h2:=rV))
  | ((with_reducible show JE _ _ _ _ _ _ (.bi .all _) _);refine yc (x:="all") (id:="all") (λX g=>Cg g) ?_ (hb:=FY) (hv:=by decide +kernel))
  | ((with_reducible show JE _ _ _ _ _ _ (.cmp .isin _ _) _);refine uw (λX g=>ES g) ?_ ?_ (by with_unfolding_all rfl))
  | ((with_reducible show JG _ _ _ _ _ _ (.many _) _);refine zB ?_)
  | ((with_reducible show mX _ _ _ _ _ _ [] _);refine zA)
  | ((with_reducible show JE _ _ _ _ _ _ (.fR (.gS _ _)) _);refine wO ?_ ?_)
  | ((with_reducible show JT _ _ _ _ _ _ (.cmp .gt _ _) _);refine kD (λX g=>ER) ?_ ?_ (kh _))
  | ((with_reducible show JE _ _ _ _ _ _ (.dB _ [.bool]) _);refine kG (t:=.bool) (T:="bool") ?_ (by decide +kernel) (h1:=fc) (h2:=DR))
  | ((with_reducible show JE _ _ _ _ _ _ (.dB _ [.int]) _);refine kG (t:=.int) (T:="int") ?_ (by decide +kernel) (h1:=fc) (h2:=yO))
  | ((with_reducible show JE _ _ _ _ _ _ (.ch _ _ _ _ _) _);refine EA (λX g=>nQ) (λX g=>nQ) ?_ ?_ ?_)
  | ((with_reducible show JE _ _ _ _ _ _ (.dB _ [.str]) _);refine kG (t:=.str) (T:="str") ?_ (by decide +kernel) (h1:=fc) (h2:=yP))
  | ((with_reducible show JT _ _ _ _ _ _ (.ch _ _ _ _ _) _);refine ED (λX g=>nQ) (λX g=>nQ) ?_ ?_ ?_)
  | ((with_reducible show JE _ _ _ _ _ _ (.cV _ _) _);refine rq (x:="MARKS") (.head _) ?_)
  | ((with_reducible show JE _ _ _ _ _ _ (.iG _) _);refine Cm ?_ (h1:=rV))
  | ((with_reducible show JE _ _ _ _ _ _ (.cV _ _) _);refine rq (x:="WORDS") (.tail _ (.head _)) ?_)
  | ((with_reducible show JT _ _ _ _ _ _ (.cmp .cK _ _) _);refine kD (λX g=>wI g) ?_ ?_ (by with_unfolding_all rfl))
  | ((with_reducible show JI _ _ _ _ _ _ (.eF (.cons _ (.cons _ .nil))) _ _);refine zz ?_ (hb:=rU))
  | ((with_reducible show JE _ _ _ _ _ _ (.bi .ig _) _);refine yd (x:="int") (id:="int") (λX g=>zU) ?_ (hb:=yO) (hv:=by decide +kernel))
  | ((with_reducible show JE _ _ _ _ _ _ (.me .pop _ .nil) _);refine BL PySem.F.plainAttrs_list PySem.F.slot_list_pop PySem.F.type_list_pop (λX g=>Cj) rfl ?_)
  | ((with_reducible show JS _ _ _ _ _ _ (.set _ (.comp _ _ _ _)) _);refine EW (by decide +kernel) (by decide +kernel) (by decide +kernel) ?_ ?_ ?_ ?_)
  | ((with_reducible show JE _ _ _ _ _ _ (.cV _ _) _);refine zV (.cons (.cons (.cons .nil))) ?_)
  | ((with_reducible show JS _ _ _ _ _ _ (.set _ _) _);refine Ih ?_ ?_;decide +kernel)
  | ((with_reducible show JT _ _ _ _ _ _ _ _);refine BH ?_))
end
def fu{α:Type _}{l:List α}(h:l.length=1):∃a,l=[a]:=by
 rcases l with _|⟨a,_|⟨b,l⟩⟩<;>simp at h ⊢
def xJ{α:Type _}{l:List α}(h:l.length=2):∃a b,l=[a,b]:=by
 rcases l with _|⟨a,l⟩
 .simp at h
 .obtain⟨b,rfl⟩:=fu (l:=l) (by simpa using h);exact⟨a,b,rfl⟩
def Jc{α:Type _}{l:List α}(h:l.length=3):∃a b c,l=[a,b,c]:=by
 rcases l with _|⟨a,l⟩
 .simp at h
 .obtain⟨b,c,rfl⟩:=xJ (l:=l) (by simpa using h);exact⟨a,b,c,rfl⟩
structure Fg(K:PySem.W.Frag)(x:Str)(i:Nat)(p:Addr)(d:FuncData):Prop where
 a:PySem.W.nsIn K mainGlobals x=some (some (.ref p))
 f:oS K x x (top i) p d
def Fg.t{K:PySem.W.Frag}{h:Heap}{mg:Str->Option Value}{x:Str}{i:Nat}{p:Addr}{d:FuncData}{ps:List Str}(F:Fg K x i p d)(X:K.In h)(G:h.Ns mainGlobals mg)(b:Binds K d ps []):mg x=some (.ref p)/\PySem.W.keepIn K (.ref p)=true/\Binds K d ps []:=⟨K3 X G F.a,F.f.kp,b⟩
def all_mk {l:PySem.W.OpenLaw}{w:World}{K:PySem.W.Frag}{h:Heap}{mg:Str->Option Value}{fa p0 p1 p2 p3 p4 p5 p6 p7 p8 p9 GQ GR GS GU DX:Addr}{d0 d1 d2 d3 d4 d5 d6 d7 d8 d9 GV GW GX GY DY:FuncData}(X:K.In h) (G:h.Ns mainGlobals mg) (Kg:mg "law" = some (.ref fa))
  (F0:Fg K "is_change" 5 p0 d0)
  (F1:Fg K "is_part" 6 p1 d1)
  (F2:Fg K "is_kept" 7 p2 d2)
  (F3:Fg K "is_some" 8 p3 d3)
  (F4:Fg K "change_text" 15 p4 d4)
  (F5:Fg K "rows_text" 16 p5 d5)
  (F6:Fg K "read_change" 17 p6 d6)
  (F7:Fg K "read_rows" 18 p7 d7)
  (F8:Fg K "read_part" 19 p8 d8)
  (F9:Fg K "read_number" 20 p9 d9)
  (DZ:Fg K "lines_of" 21 GQ GV)
  (D0:Fg K "_law_cell" 23 GR GW)
  (D3:Fg K "_law_drawn" 24 GS GX)
  (D4:Fg K "_law_wide" 25 GU GY)
  (vC:Fg K "law" 26 DX DY)
  (z0:PySem.W.nsIn K mainGlobals "all" = some none)
  (z1:PySem.W.nsIn K mainGlobals "bool" = some none)
  (z2:PySem.W.nsIn K mainGlobals "int" = some none)
  (z3:PySem.W.nsIn K mainGlobals "isinstance" = some none)
  (z4:PySem.W.nsIn K mainGlobals "len" = some none)
  (z5:PySem.W.nsIn K mainGlobals "range" = some none)
  (z6:PySem.W.nsIn K mainGlobals "str" = some none)
  (z7:PySem.W.nsIn K mainGlobals "tuple" = some none)
  {t0:Tok} (q0:PySem.W.nsIn K mainGlobals "__name__" = some (some (.str "law_pastways_k90_texts" t0)))
  {t1:Tok} (q1:PySem.W.nsIn K mainGlobals "SIGNS" = some (some (.str "abcdefghijklmnopqrstuvwxyz " t1)))
  {t2:Tok} (q2:PySem.W.nsIn K mainGlobals "MOST_KEPT" = some (some (.int 99 t2)))
  {t3:Tok} (q3:PySem.W.nsIn K mainGlobals "MOST_SIGNS" = some (some (.int 8 t3)))
  {t4:Tok} (q4:PySem.W.nsIn K mainGlobals "MOST_PARTS" = some (some (.int 12 t4)))
  {yQ:Addr} (GZ:PySem.W.nsIn K mainGlobals "MARKS" = some (some (.ref yQ))) (G0:PyProof.Rows.KTD.tabLook PyProof.Rows.KTD.flatLooks (λb=>K.lookup b) yQ [(aq [107,101,101,112],PyData.str (aq [61])),(aq [112,117,116],PyData.str (aq [43])),(aq [100,114,111,112],PyData.str (aq [45]))]=true) (G1:PyProof.Rows.KTD.hashesOf (λb=>K.lookup b) yQ=([(aq [107,101,101,112],PyData.str (aq [61])),(aq [112,117,116],PyData.str (aq [43])),(aq [100,114,111,112],PyData.str (aq [45]))]:List (Str×PyData)).map λp=>(PySem.strKind l.prog w).hash p.1)
  {yR:Addr} (G2:PySem.W.nsIn K mainGlobals "WORDS" = some (some (.ref yR))) (G3:PyProof.Rows.KTD.tabLook PyProof.Rows.KTD.flatLooks (λb=>K.lookup b) yR [(aq [61],PyData.str (aq [107,101,101,112])),(aq [43],PyData.str (aq [112,117,116])),(aq [45],PyData.str (aq [100,114,111,112]))]=true) (G4:PyProof.Rows.KTD.hashesOf (λb=>K.lookup b) yR=([(aq [61],PyData.str (aq [107,101,101,112])),(aq [43],PyData.str (aq [112,117,116])),(aq [45],PyData.str (aq [100,114,111,112]))]:List (Str×PyData)).map λp=>(PySem.strKind l.prog w).hash p.1)
  : ∃fd:FuncData,(∀(s:Shared) (v:Value),BindsTo s fd ⟨[v],[]⟩ [("_law_script",v)])/\∀base:Heap,K.In base->base.Ns mainGlobals mg->ff l.prog w K mg base iT 60 fa fd ["_law_script"] (jC K prog 100000 60 14):=by
 have e:=Kg.symm.trans (K3 X G vC.a);have e2:DX=fa:=by injection e with e;injection e with e;exact e.symm
 subst e2
 let aa:Nat->Addr:=λk=>[p0,p1,p2,p3,p4,p5,p6,p7,p8,p9,GQ,GR,GS,GU,DX].getD k p0
 let dd:Nat->FuncData:=λk=>[d0,d1,d2,d3,d4,d5,d6,d7,d8,d9,GV,GW,GX,GY,DY].getD k d0
 have T:Top l.prog w K mg (tb aa dd):=by
  refine⟨λf i hi=>(show ∀i∈(tb aa dd).fi,mg i.name=some (.ref i.addr)/\PySem.W.keepIn K (.ref i.addr)=true/\Binds K i.fd i.ps []from ?_) i (IC hi),?_,?_,?_⟩
  .refine List.forall_mem_cons.mpr ⟨F0.t X G (F0.f.binds λ_ _ _ _ _ _ us hl=>by obtain⟨_,rfl⟩:=fu hl;rfl),?_⟩;refine List.forall_mem_cons.mpr ⟨F1.t X G (F1.f.binds λ_ _ _ _ _ _ us hl=>by obtain⟨_,rfl⟩:=fu hl;rfl),?_⟩;refine List.forall_mem_cons.mpr ⟨F2.t X G (F2.f.binds λ_ _ _ _ _ _ us hl=>by obtain⟨_,rfl⟩:=fu hl;rfl),?_⟩;refine List.forall_mem_cons.mpr ⟨F3.t X G (F3.f.binds λ_ _ _ _ _ _ us hl=>by obtain⟨_,rfl⟩:=fu hl;rfl),?_⟩;refine List.forall_mem_cons.mpr ⟨F4.t X G (F4.f.binds λ_ _ _ _ _ _ us hl=>by obtain⟨_,rfl⟩:=fu hl;rfl),?_⟩;refine List.forall_mem_cons.mpr ⟨F5.t X G (F5.f.binds λ_ _ _ _ _ _ us hl=>by obtain⟨_,rfl⟩:=fu hl;rfl),?_⟩;refine List.forall_mem_cons.mpr ⟨F6.t X G (F6.f.binds λ_ _ _ _ _ _ us hl=>by obtain⟨_,rfl⟩:=fu hl;rfl),?_⟩;refine List.forall_mem_cons.mpr ⟨F7.t X G (F7.f.binds λ_ _ _ _ _ _ us hl=>by obtain⟨_,rfl⟩:=fu hl;rfl),?_⟩;refine List.forall_mem_cons.mpr ⟨F8.t X G (F8.f.binds λ_ _ _ _ _ _ us hl=>by obtain⟨_,rfl⟩:=fu hl;rfl),?_⟩;refine List.forall_mem_cons.mpr ⟨F9.t X G (F9.f.binds λ_ _ _ _ _ _ us hl=>by obtain⟨_,rfl⟩:=fu hl;rfl),?_⟩;refine List.forall_mem_cons.mpr ⟨DZ.t X G (DZ.f.binds λ_ _ _ _ _ _ us hl=>by obtain⟨_,rfl⟩:=fu hl;rfl),?_⟩;refine List.forall_mem_cons.mpr ⟨D0.t X G (D0.f.binds λ_ _ _ _ _ _ us hl=>by obtain⟨_,_,rfl⟩:=xJ hl;rfl),?_⟩;refine List.forall_mem_cons.mpr ⟨D3.t X G (D3.f.binds λ_ _ _ _ _ _ us hl=>by obtain⟨_,_,_,rfl⟩:=Jc hl;rfl),?_⟩;refine List.forall_mem_cons.mpr ⟨D4.t X G (D4.f.binds λ_ _ _ _ _ _ us hl=>by obtain⟨_,_,rfl⟩:=xJ hl;rfl),?_⟩;refine List.forall_mem_cons.mpr ⟨vC.t X G (vC.f.binds λ_ _ _ _ _ _ us hl=>by obtain⟨_,rfl⟩:=fu hl;rfl),?_⟩;exact λ_ h=>nomatch h
  .exact(show ∀x∈jT,mg x=none from List.forall_mem_cons.mpr ⟨Kc X G z0,List.forall_mem_cons.mpr ⟨Kc X G z1,List.forall_mem_cons.mpr ⟨Kc X G z2,List.forall_mem_cons.mpr ⟨Kc X G z3,List.forall_mem_cons.mpr ⟨Kc X G z4,List.forall_mem_cons.mpr ⟨Kc X G z5,List.forall_mem_cons.mpr ⟨Kc X G z6,List.forall_mem_cons.mpr ⟨Kc X G z7,λ_ h=>nomatch h⟩⟩⟩⟩⟩⟩⟩⟩)
  .exact λx d hx=>(show ∀y∈(tb aa dd).cs,∃v u,mg y.1=some u/\RelV v u/\qS K y.2 v from List.forall_mem_cons.mpr ⟨⟨.str "law_pastways_k90_texts",_,K3 X G q0,⟨_,rfl⟩,λ_ _=>⟨by decide +kernel,by decide⟩⟩,List.forall_mem_cons.mpr ⟨⟨.str "abcdefghijklmnopqrstuvwxyz ",_,K3 X G q1,⟨_,rfl⟩,λ_ _=>⟨by decide +kernel,by decide⟩⟩,List.forall_mem_cons.mpr ⟨⟨.int 99,_,K3 X G q2,⟨_,rfl⟩,λ_ _=>rfl⟩,List.forall_mem_cons.mpr ⟨⟨.int 8,_,K3 X G q3,⟨_,rfl⟩,λ_ _=>rfl⟩,List.forall_mem_cons.mpr ⟨⟨.int 12,_,K3 X G q4,⟨_,rfl⟩,λ_ _=>rfl⟩,λ_ h=>nomatch h⟩⟩⟩⟩⟩) (x,d) hx
  .exact λx d hx=>(show ∀y∈(tb aa dd).dk,∃a,mg y.1=some (.ref a)/\∀h:Heap,K.In h->StrTab l.prog w h a (tabOf y.2)from List.forall_mem_cons.mpr ⟨⟨yQ,K3 X G GZ,λh hK=>MR l.prog w hK G0 (by decide +kernel) G1⟩,List.forall_mem_cons.mpr ⟨⟨yR,K3 X G G2,λh hK=>MR l.prog w hK G3 (by decide +kernel) G4⟩,λ_ h=>nomatch h⟩⟩) (x,d) hx
 refine⟨DY,λs v=>?_,λbase _ _=>?_⟩
 .obtain⟨oc,od,kV,doc,pm,an,cdv,ct,osl,e,_⟩:=vC.f.ex;rw[e];exact .of_eq rfl
 refine uR (P:=l.prog) (w:=w) (base:=base) T (λn A0 f i hi=>?_) 60 14 (yN aa dd) rfl
 match f,hi with
 |0,hi=>obtain rfl:i0 aa dd=i:=ny hi;exact cX (i:=i0 aa dd) T A0 F0.f s0 rfl rfl (@allB.get _ _ _ 0 (f0.body,top 5,n0) eE rfl)
 |1,hi=>obtain rfl:i1 aa dd=i:=ny hi;exact cX (i:=i1 aa dd) T A0 F1.f s1 rfl rfl (@allB.get _ _ _ 1 (f1.body,top 6,n1) eE rfl)
 |2,hi=>obtain rfl:i2 aa dd=i:=ny hi;exact cX (i:=i2 aa dd) T A0 F2.f s2 rfl rfl (@allB.get _ _ _ 2 (f2.body,top 7,n2) eE rfl)
 |3,hi=>obtain rfl:i3 aa dd=i:=ny hi;exact cX (i:=i3 aa dd) T A0 F3.f s3 rfl rfl (@allB.get _ _ _ 3 (f3.body,top 8,n3) eE rfl)
 |4,hi=>obtain rfl:i4 aa dd=i:=ny hi;exact cX (i:=i4 aa dd) T A0 F4.f s4 rfl rfl (@allB.get _ _ _ 4 (f4.body,top 15,n4) eE rfl)
 |5,hi=>obtain rfl:i5 aa dd=i:=ny hi;exact cX (i:=i5 aa dd) T A0 F5.f s5 rfl rfl (@allB.get _ _ _ 5 (f5.body,top 16,n5) eE rfl)
 |6,hi=>obtain rfl:i6 aa dd=i:=ny hi;exact cX (i:=i6 aa dd) T A0 F6.f s6 rfl rfl (@allB.get _ _ _ 6 (f6.body,top 17,n6) eE rfl)
 |7,hi=>obtain rfl:i7 aa dd=i:=ny hi;exact cX (i:=i7 aa dd) T A0 F7.f s7 rfl rfl (@allB.get _ _ _ 7 (f7.body,top 18,n7) eE rfl)
 |8,hi=>obtain rfl:i8 aa dd=i:=ny hi;exact cX (i:=i8 aa dd) T A0 F8.f s8 rfl rfl (@allB.get _ _ _ 8 (f8.body,top 19,n8) eE rfl)
 |9,hi=>obtain rfl:i9 aa dd=i:=ny hi;exact cX (i:=i9 aa dd) T A0 F9.f s9 rfl rfl (@allB.get _ _ _ 9 (f9.body,top 20,n9) eE rfl)
 |10,hi=>obtain rfl:DO aa dd=i:=ny hi;exact cX (i:=DO aa dd) T A0 DZ.f Gy rfl rfl (@allB.get _ _ _ 10 (uL.body,top 21,DS) eE rfl)
 |11,hi=>obtain rfl:DP aa dd=i:=ny hi;exact cX (i:=DP aa dd) T A0 D0.f yj rfl rfl (@allB.get _ _ _ 11 (DM.body,top 23,DT) eE rfl)
 |12,hi=>obtain rfl:i12 aa dd=i:=ny hi;exact cX (i:=i12 aa dd) T A0 D3.f s12 rfl rfl (@allB.get _ _ _ 12 (DN.body,top 24,DU) eE rfl)
 |13,hi=>obtain rfl:DQ aa dd=i:=ny hi;exact cX (i:=DQ aa dd) T A0 D4.f Ke rfl rfl (@allB.get _ _ _ 13 (qj.body,top 25,DV) eE rfl)
 |14,hi=>obtain rfl:yN aa dd=i:=ny hi;exact cX (i:=yN aa dd) T A0 vC.f Kf rfl rfl (@allB.get _ _ _ 14 (vA.body,top 26,DW) eE rfl)
 |j+15,hi=>exact nomatch (show(none:Option FI)=some i from hi)
end Lw
namespace Lg
open Pv
open Lw (prog qj vA tN tO tP)
open Ev (deep big rep cut aX)
def drawn{ns:List Int}(k:Int)(m:Nat)(h:0<m):∃p:Nat,vj ns k (m:Int)=(p:Int)/\p<m:=by
 have h1:=Dy ns k (many:=(m:Int)) (by omega);have h2:=Dz ns k (many:=(m:Int)) (by omega);exact⟨(vj ns k (m:Int)).toNat,by omega,by omega⟩
theorem kc{α β:Type}{f:V->Option (Option V)}{e:α->V}{g:β->V}{P:β->Prop}:∀{l:List α},(∀a∈l,∃b,P b/\f (e a)=some (some (g b)))->∃bs:List β,bs.length=l.length/\(∀b∈bs,P b)/\bz f (l.map e)=some (bs.map g)
 |[],_=>⟨[],rfl,(λ_ h=>nomatch h),rfl⟩
 |a :: l,h=>by
  obtain⟨b,h1,h2⟩:=h a (by simp);obtain⟨bs,h3,h4,h5⟩:=kc (l:=l) λx hx=>h x (by simp[hx]);refine⟨b :: bs,by simp[h3],λx hx=>?_,?_⟩
  .rcases List.mem_cons.mp hx with rfl|hx
   .exact h1
   .exact h4 x hx
  .simp only[vv,bz,h2,h5,Option.bind];rfl
variable{w n:Nat}{ns:List Int}(hn:ns.length<=63)
include hn
theorem dr(k:Int)(m:Nat)(hm:0<m):∃p:Nat,p<m/\∀fr,eV (run prog w (n+2)) 12 [.inr (kW ns),.inr (.int k),.inr (.int (m:Int))] fr=.ok (.int (p:Int)) fr:=by
 obtain⟨p,e,h⟩:=drawn (ns:=ns) k m hm;refine⟨p,h,λfr=>?_⟩;have:=Fi (fr:=fr) (vn (F:=prog) (c:=11) (dr:=12) (w:=w) (n:=n) rfl rfl hn k (many:=(m:Int)) (by omega));rw[e]at this;exact this
omit hn in
noncomputable def wF(ns:List Int)(at_:Int)(c:List Pt)(a b d e f:Option Sl):Fr:=[some (.val (kW ns)),some (.val (.int at_)),some (.val (.str sgn)),some (.val (bJ c)),a,b,d,e,f,none]
def vD(at_:Int)(c:List Pt)(hc:c.length<=12)(k:Nat){a b d e f:Option Sl}(ha:vo a)(hb:vo b)(hd:vo d)(he:vo e)(hf:vo f){Q:Fl->Fr->Prop}
  (q:∀p a b d e f,WP p->vo a->vo b->vo d->vo e->vo f->Q .nx (wF ns at_ (c++[p]) a b d e f)):Wp (turnF (run prog w (n+2)) w (.one 4) tN (.int (k:Int)) (wF ns at_ c a b d e f)) Q:=by
 obtain⟨x,hx,d1⟩:=dr (w:=w) (n:=n) hn (at_+1+12*(k:Int)) 3 (by decide);obtain⟨y,hy,d2⟩:=dr (w:=w) (n:=n) hn (at_+1+12*(k:Int)+1) 99 (by decide);obtain⟨z,hz,d3⟩:=dr (w:=w) (n:=n) hn (at_+1+12*(k:Int)+1) 8 (by decide);obtain⟨wd,hw1,Kh⟩:∃wd,eH (.lst [.str fZ,.str j8,.str iA]) (.int (x:Int))=some (.str wd)/\(wd=fZ\/wd=j8\/wd=iA):=by
  match x,hx with
  |0,_=>exact⟨_,rfl,.inl rfl⟩
  |1,_=>exact⟨_,rfl,.inr (.inl rfl)⟩
  |2,_=>exact⟨_,rfl,.inr (.inr rfl)⟩
 refine je (af:=wF ns at_ c (some (.val (.int k))) b d e f) (bind1 rfl ha) ?_;refine au (bS (ak:=wF ns at_ c (some (.val (.int k))) (some (.val (.int (at_+1+12*(k:Int))))) d e f) (aG (aG (ay rfl) (aE rfl) bN) (aG (aE rfl) (ay rfl) (gz rfl)) bN) rfl (fG rfl hb) ?_);refine au (bS (ak:=wF ns at_ c (some (.val (.int k))) (some (.val (.int (at_+1+12*(k:Int))))) (some (.val (.str wd))) e f) (fN (nW (aA (aE rfl) (aA (aE rfl) (aA (aE rfl) aH))) E5) (bZ (bq rfl (ay rfl) (bq rfl (ay rfl) (bq rfl (aE rfl) bh))) (d1 _)) hw1) rfl (fG rfl hd) ?_);have a1:Pv.bG .add (.int 1) (.int (y:Int))=some (.int ((y+1:Nat):Int)):=by rw[bN];congr 2;omega
 have a2:Pv.bG .add (.int 1) (.int (z:Int))=some (.int ((z+1:Nat):Int)):=by rw[bN];congr 2;omega
 refine au (bS (ak:=wF ns at_ c (some (.val (.int k))) (some (.val (.int (at_+1+12*(k:Int))))) (some (.val (.str wd))) (some (.val (.int ((y+1:Nat):Int)))) f) (aG (aE rfl) (bZ (bq rfl (ay rfl) (bq rfl (aG (ay rfl) (aE rfl) bN) (bq rfl (aE rfl) bh))) (d2 _)) a1) rfl (fG rfl he) ?_);by_cases hk:wd=fZ
 .subst hk;refine au (bT (b:=false) (aV rfl (bB (ay rfl) (aE rfl) jx) rfl) (λh=>absurd h (by decide)) λ_=>bI ?_);refine au (bS (ak:=wF ns at_ (c++[.keep (y+1)]) (some (.val (.int k))) (some (.val (.int (at_+1+12*(k:Int))))) (some (.val (.str fZ))) (some (.val (.int ((y+1:Nat):Int)))) f) (aG (ay rfl) (cP (aA (cP (aA (ay rfl) (aA (ay rfl) aH)) fY) aH) nT) (tK (a:=c) (b:=[.keep (y+1)]) (by simp;omega))) rfl rfl (bI ?_));exact q _ _ _ _ _ _ ⟨by omega,by omega⟩ .val .val .val .val hf
 .refine au (bT (b:=true) (aV rfl (bB (ay rfl) (aE rfl) jx) (by show(!decide (wd=fZ))=true;rw[yK hk];rfl)) (λ_=>?_) λh=>absurd h (by decide));refine au (bS (ak:=wF ns at_ c (some (.val (.int k))) (some (.val (.int (at_+1+12*(k:Int))))) (some (.val (.str wd))) (some (.val (.int ((y+1:Nat):Int)))) (some (.val (.int ((z+1:Nat):Int))))) (aG (aE rfl) (bZ (bq rfl (ay rfl) (bq rfl (aG (ay rfl) (aE rfl) bN) (bq rfl (aE rfl) bh))) (d3 _)) a2) rfl (fG rfl hf) ?_);have hs:=kc (f:=dP (run prog w (n+2)) (.ix (.v 2) (.cl 12 (.cons (.v 0) (.cons (.bin .add (.bin .add (.v 5) (.c (.int 2))) (.v 9)) (.cons (.c (.int 27)) .nil))))) (.one 9) .no (wF ns at_ c (some (.val (.int k))) (some (.val (.int (at_+1+12*(k:Int))))) (some (.val (.str wd))) (some (.val (.int ((y+1:Nat):Int)))) (some (.val (.int ((z+1:Nat):Int)))))) (e:=λ(j:Nat)=>V.int (0+j)) (g:=λ(s:Nat)=>V.str [s]) (P:=λs=>sgn.contains s=true) (l:=List.range (z+1)) λj _=>by
   obtain⟨v,hv,d4⟩:=dr (w:=w) (n:=n) hn (at_+1+12*(k:Int)+2+(0+(j:Int))) 27 (by decide);obtain⟨s,hs1,hs2⟩:∃s,eH (.str sgn) (.int (v:Int))=some (.str [s])/\sgn.contains s=true:=by
    have hl:v<sgn.length:=hv;refine⟨sgn[v],?_,by rw[My];exact List.getElem_mem hl⟩;rw[Am,getD_at (by omega) (by show(v:Int)<27;omega) 0];simp[j9 hl]
   exact⟨s,hs2,dI rfl (fN (ay rfl) (bZ (bq rfl (ay rfl) (bq rfl (aG (aG (ay rfl) (aE rfl) bN) (ay rfl) bN) (bq rfl (aE rfl) bh))) (d4 _)) hs1)⟩
  obtain⟨s,s1,s2,s3⟩:=hs;rw[MU]at s1;have hj:=yF (l:=s.map λx=>[x]) (by rw[jO];simp;omega);rw[jO,List.map_id',Ll]at hj;have hW:WS s:=⟨by omega,by omega,s2⟩
  refine au (bS (ak:=wF ns at_ c (some (.val (.int k))) (some (.val (.int (at_+1+12*(k:Int))))) (some (.val (.str wd))) (some (.val (.str s))) (some (.val (.int ((z+1:Nat):Int))))) (nY rfl (aE rfl) (aA (eX (kY (aA (ay rfl) aH) (xD (n:=z+1) (by omega) rfl)) rfl s3 (cD (bw (by simp;omega)))) aH) hj) rfl rfl (bI ?_));rcases Kh with rfl|rfl|rfl
  .exact absurd rfl hk
  .exact au (bS (ak:=wF ns at_ (c++[.put s]) (some (.val (.int k))) (some (.val (.int (at_+1+12*(k:Int))))) (some (.val (.str j8))) (some (.val (.str s))) (some (.val (.int ((z+1:Nat):Int))))) (aG (ay rfl) (cP (aA (cP (aA (ay rfl) (aA (ay rfl) aH)) fY) aH) nT) (tK (a:=c) (b:=[.put s]) (by simp;omega))) rfl rfl (bI (q (.put s) _ _ _ _ _ hW .val .val .val .val .val)))
  .exact au (bS (ak:=wF ns at_ (c++[.drop s]) (some (.val (.int k))) (some (.val (.int (at_+1+12*(k:Int))))) (some (.val (.str iA))) (some (.val (.str s))) (some (.val (.int ((z+1:Nat):Int))))) (aG (ay rfl) (cP (aA (cP (aA (ay rfl) (aA (ay rfl) aH)) fY) aH) nT) (tK (a:=c) (b:=[.drop s]) (by simp;omega))) rfl rfl (bI (q (.drop s) _ _ _ _ _ hW .val .val .val .val .val)))
def xK(at_:Int):∃c,Wide c/\run prog w (n+3) 13 [.val (kW ns),.val (.int at_)]=some (bJ c,[]):=by
 obtain⟨m,hm,d0⟩:=dr (w:=w) (n:=n) hn at_ 13 (by decide);have key:Wp (exs (run prog w (n+2)) w qj.body (cL qj [.val (kW ns),.val (.int at_)])) λg fr=>∃c,Wide c/\g=.ret (bJ c)/\outs 2 fr=[]:=by
  refine au (bS (aE rfl) rfl rfl ?_);refine au (bS (cP aH kR) rfl rfl ?_);refine au (tG (vs:=(List.range m).map λ(j:Nat)=>V.int (j:Int)) (af:=wF ns at_ [] none none none none none) (kY (aA (bZ (bq rfl (ay rfl) (bq rfl (ay rfl) (bq rfl (aE rfl) bh))) (d0 _)) aH) ((xD (n:=m) (by omega) rfl).trans (by rw[vq];simp))) ?_);refine gY (e:=λ(j:Nat)=>V.int (j:Int)) (λp l fr=>p.length+l.length=m/\∃c a b d e f,c.length=p.length/\(∀q∈c,WP q)/\vo a/\vo b/\vo d/\vo e/\vo f/\fr=wF ns at_ c a b d e f) (λp k l fr ⟨hpl,c,a,b,d,e,f,h1,h2,ha,hb,hd,he,hf,hfr⟩=>?_) (λp fr ⟨hpl,c,a,b,d,e,f,h1,h2,ha,hb,hd,he,hf,hfr⟩=>?_) _ [] _ ⟨by simp,[],none,none,none,none,none,rfl,(λ_ h=>nomatch h),.none,.none,.none,.none,.none,rfl⟩
  .subst hfr;rw[pX]at hpl;refine vD hn at_ c (by omega) k ha hb hd he hf λq a b d e f hq ha hb hd he hf=>?_;rw[kU];exact⟨by simp;omega,c++[q],a,b,d,e,f,by simp[h1],λx hx=>by
    rcases List.mem_append.mp hx with hx|hx
    .exact h2 x hx
    .rw[List.mem_singleton.mp hx];exact hq,ha,hb,hd,he,hf,rfl⟩
  .subst hfr;rw[Lq]at hpl;refine au (b6 (v:=bJ c) (af:=wF ns at_ c a b d e f) ?_ ⟨c,⟨by omega,h2⟩,rfl,rfl⟩);have:gw (wF ns at_ c a b d e f)=wF ns at_ c a b d e f:=by
    show [_,_,_,_,a.map Sl.fk,b.map Sl.fk,d.map Sl.fk,e.map Sl.fk,f.map Sl.fk,_]=_;rw[dQ ha,dQ hb,dQ hd,dQ he,dQ hf];rfl
   rw[this];exact ay rfl
 obtain⟨g,fr,e,c,hc,rfl,ho⟩:=key;exact⟨c,hc,cE (fn:=qj) rfl rfl ⟨_,_,e,rfl,ho⟩⟩
omit hn in
theorem mD:∀c:List Pt,((c.map λp=>47 :: p.t).flatten).drop 1=ct c
 |[]=>rfl
 |[p]=>by simp[ct,Ev.aO]
 |p :: q :: r=>by
  have:=mD (q :: r);simp only[vv,Je,LH,LV,Lx]at this ⊢;rw[this];simp only[ct,vv,Ev.aO];simp
omit hn in
theorem xN{c:List Pt}(h:Wide c):((c.map λp=>47 :: p.t).flatten).length<=121:=by
 have h1:=AD List.length (mD c);have h2:=lE h;simp only[LG]at h1;omega
omit hn in
theorem AG(k:Nat)(a b:List Pt):cj (k+3) (bJ a) (bJ b)=some (decide (a=b)):=by
 unfold bJ;rw[C6];exact jw (λa b=>vp k a b) a b
omit hn in
theorem Ga(c:List Pt):Pv.cop .ne (bJ c) (bJ c)=some false:=by rw[kT,DG];simp
omit hn in
theorem AH(rows:List (List Pt)):Pv.cop .ne (.lst (rows.map bJ)) (.lst (rows.map bJ))=some false:=by
 rw[kT,Ak,jw (λa b=>AG 16 a b)];simp
omit hn in
noncomputable def lF(ns:List Int)(rows:List (List Pt))(t:List Nat)(a b d e:Option Sl):Fr:=[some (.val (kW ns)),some (.val (.lst (rows.map bJ))),some (.val (.str t)),a,b,d,e,none]
omit hn in
theorem vE{rows:List (List Pt)}{t:List Nat}{c:List Pt}(hc:Wide c){d e:Option Sl}(hd:vo d)(he:vo e){Q:Fl->Fr->Prop}(q:∀d e,vo d->vo e->Q .nx (lF ns rows t (some (.val (bJ c))) (some (.val (.str (c.map λp=>47 :: p.t).flatten))) d e)) :
  Wp (forL (turnF (run prog w (n+6)) w (.many [5,6]) tO) (c.map Pt.v) (lF ns rows t (some (.val (bJ c))) (some (.val (.str []))) d e)) Q:=by
 have G5:=xN hc;refine gY (e:=Pt.v) (λp l fr=>p++l=c/\∃d e,vo d/\vo e/\fr=lF ns rows t (some (.val (bJ c))) (some (.val (.str (p.map λp=>47 :: p.t).flatten))) d e) (λp a l fr ⟨hp,d,e,hd,he,hfr⟩=>?_) (λp fr ⟨hp,d,e,hd,he,hfr⟩=>?_) _ [] _ ⟨rfl,d,e,hd,he,rfl⟩
 .subst hfr;have ha:WP a:=hc.pt a (by rw[<-hp];simp);have hlen:((p.map λp=>47 :: p.t).flatten).length+(1+a.t.length)<=121:=by
   rw[<-hp]at G5;simp only[List.map_append,vv,List.flatten_append,Je,vt,pX]at G5;omega
  have hfl:((p++[a]).map λp=>47 :: p.t).flatten=(p.map λp=>47 :: p.t).flatten++[47]++a.t:=by simp
  generalize (p.map λp=>47 :: p.t).flatten=L at hlen hfl
  have a1:=bY (a:=L) (b:=[47]) (by simp;omega);cases a with
  |keep k=>
   simp only[Pt.t,pX]at hlen;have a2:=bY (a:=L++[47]) (b:=[61]) (by simp;omega);have a3:=bY (a:=L++[47]++[61]) (b:=Ev.cW k) (by simp;omega);refine je (af:=lF ns rows t (some (.val (bJ c))) (some (.val (.str L))) (some (.val (.str fZ))) (some (.val (.int k)))) (tH rfl hd rfl he) ?_;refine au (bS (aG (aG (aG (ay rfl) (aE rfl) a1) (dZ (ay rfl) rfl) a2) (dW (aA (ay rfl) aH) (qf ha.2)) a3) rfl rfl (bI ?_));rw[kU];exact⟨by simpa using hp,some (.val (.str fZ)),some (.val (.int k)),.val,.val,by rw[hfl];simp[lF,Pt.t]⟩
  |put s=>
   simp only[Pt.t,pX]at hlen;have a2:=bY (a:=L++[47]) (b:=[43]) (by simp;omega);have a3:=bY (a:=L++[47]++[43]) (b:=s) (by simp;omega);refine je (af:=lF ns rows t (some (.val (bJ c))) (some (.val (.str L))) (some (.val (.str j8))) (some (.val (.str s)))) (tH rfl hd rfl he) ?_;refine au (bS (aG (aG (aG (ay rfl) (aE rfl) a1) (dZ (ay rfl) rfl) a2) (dW (aA (ay rfl) aH) rfl) a3) rfl rfl (bI ?_));rw[kU];exact⟨by simpa using hp,some (.val (.str j8)),some (.val (.str s)),.val,.val,by rw[hfl];simp[lF,Pt.t]⟩
  |drop s=>
   simp only[Pt.t,pX]at hlen;have a2:=bY (a:=L++[47]) (b:=[45]) (by simp;omega);have a3:=bY (a:=L++[47]++[45]) (b:=s) (by simp;omega);refine je (af:=lF ns rows t (some (.val (bJ c))) (some (.val (.str L))) (some (.val (.str iA))) (some (.val (.str s)))) (tH rfl hd rfl he) ?_;refine au (bS (aG (aG (aG (ay rfl) (aE rfl) a1) (dZ (ay rfl) rfl) a2) (dW (aA (ay rfl) aH) rfl) a3) rfl rfl (bI ?_));rw[kU];exact⟨by simpa using hp,some (.val (.str iA)),some (.val (.str s)),.val,.val,by rw[hfl];simp[lF,Pt.t]⟩
 .subst hfr;rw[La]at hp;subst hp;exact q d e hd he
omit hn in
theorem xO{rows:List (List Pt)}{t:List Nat}{c:List Pt}(hc:Wide c)(ht:t.length<=90000){a b d e:Option Sl}(ha:vo a)(hb:vo b)(hd:vo d)(he:vo e){Q:Fl->Fr->Prop}
  (q:∀a b d e,vo a->vo b->vo d->vo e->Q .nx (lF ns rows (t++(ct c++[10])) a b d e)):Wp (turnF (run prog w (n+6)) w (.one 3) tP (bJ c) (lF ns rows t a b d e)) Q:=by
 have hct:=lE hc;have rc:=λfr=>cH (fr:=fr) (eY (F:=prog) (i:=4) (w:=w) (n:=n+5) rfl hc);have rr:=λfr=>cH (fr:=fr) (eZ (F:=prog) (bP:=2) (bQ:=3) (cO:=1) (gb:=0) (er:=9) (gO:=8) (i:=6) (w:=w) (n:=n+2) rfl rfl rfl rfl rfl rfl rfl hc);have ri:=λfr=>cH (fr:=fr) (iK (F:=prog) (bP:=2) (bQ:=3) (cO:=1) (i:=0) (w:=w) (n:=n+3) rfl rfl rfl rfl hc);have sl:fS (.str (c.map λp=>47 :: p.t).flatten) (some 1) none=some (.str (ct c)):=by rw[mw,<-mD];exact AD (λz=>some (V.str z)) (yJ _ 1)
 refine je (af:=lF ns rows t (some (.val (bJ c))) b d e) (bind1 rfl ha) ?_;refine au (bS (ak:=lF ns rows t (some (.val (bJ c))) (some (.val (.str []))) d e) (aE rfl) rfl (fG rfl hb) ?_);refine au (tG (vs:=c.map Pt.v) (af:=lF ns rows t (some (.val (bJ c))) (some (.val (.str []))) d e) (fF (gg rfl) rfl) (vE hc hd he λd e hd he=>?_));refine au (bT (b:=false) (gq (aV rfl (bB (bZ (bq rfl (ay rfl) bh) (rc _)) (fq (ay rfl) (cR (aE rfl)) dR sl) jx) (by simp)) (gq (aV rfl (bB (bZ (bq rfl (fq (ay rfl) (cR (aE rfl)) dR sl) bh) (rr _)) (ay rfl) (Ga c)) rfl) (gy (b:=true) (aV rfl (bZ (bq rfl (ay rfl) bh) (ri _)) rfl)))) (λh=>absurd h (by decide)) λ_=>bI ?_);refine au (bS (aG (aG (ay rfl) (fq (ay rfl) (cR (aE rfl)) dR sl) (bY (by omega))) (aE rfl) (bY (by simp;omega))) rfl rfl (bI ?_));have:=q (some (.val (bJ c))) (some (.val (.str (c.map λp=>47 :: p.t).flatten))) d e .val .val hd he;rw[<-LA]at this;exact this
def D5:run prog w (n+7) 14 [.val (kW ns)]=some (.bl true,[]):=by
 obtain⟨m,hm,d0⟩:=dr (w:=w) (n:=n+4) hn 900 5 (by decide);have Gb:=kc (f:=dP (run prog w (n+6)) (.cl 13 (.cons (.v 0) (.cons (.bin .mul (.c (.int 200)) (.v 7)) .nil))) (.one 7) .no [some (.val (kW ns)),none,none,none,none,none,none,none]) (e:=λ(j:Nat)=>V.int (0+j)) (g:=bJ) (P:=Wide) (l:=List.range m) λj _=>by
  obtain⟨c,hc,e⟩:=xK (w:=w) (n:=n+3) hn (200*(0+(j:Int)));exact⟨c,hc,dI rfl (bZ (bq rfl (ay rfl) (bq rfl (aG (aE rfl) (ay rfl) (gz rfl)) bh)) (call2 e))⟩
 obtain⟨rows,h1,h2,h3⟩:=Gb;rw[MU]at h1;refine cE (fn:=vA) rfl rfl ?_;refine au (bS (v:=.lst (rows.map bJ)) (eX (kY (aA (bZ (bq rfl (ay rfl) (bq rfl (aE rfl) (bq rfl (aE rfl) bh))) (d0 _)) aH) (xD (n:=m) (by omega) rfl)) rfl h3 (cD (bw (by simp;omega)))) rfl rfl ?_);refine au (bS (aE rfl) rfl rfl ?_);refine au (tG (vs:=rows.map bJ) (af:=lF ns rows [] none none none none) (fF (gg rfl) rfl) ?_);refine gY (e:=bJ) (λp l fr=>p++l=rows/\∃a b d e,vo a/\vo b/\vo d/\vo e/\fr=lF ns rows (rt p) a b d e) (λp c l fr ⟨hp,a,b,d,e,ha,hb,hd,he,hfr⟩=>?_) (λp fr ⟨hp,a,b,d,e,ha,hb,hd,he,hfr⟩=>?_) _ [] _ ⟨rfl,none,none,none,none,.none,.none,.none,.none,rfl⟩
 .subst hfr;have hW:∀x∈p,Wide x:=λx hx=>h2 x (by rw[<-hp];simp[hx]);have hpl:=AD List.length hp;rw[vt,pX]at hpl;have hl:=qg hW;refine xO (h2 c (by rw[<-hp];simp)) (by omega) ha hb hd he λa b d e ha hb hd he=>?_;rw[kU];refine⟨by simpa using hp,a,b,d,e,ha,hb,hd,he,?_⟩;rw[show rt (p++[c])=rt p++(ct c++[10])by simp[rt]]
 .subst hfr;rw[La]at hp;subst hp;have Kl:=λfr=>cH (fr:=fr) (nK (F:=prog) (tL:=4) (i:=5) (w:=w) (n:=n+4) (s0:=.val .bg) (os:=[]) rfl rfl h2 (by omega));have rr:=λfr=>cH (fr:=fr) (iL (F:=prog) (bP:=2) (bQ:=3) (cO:=1) (gb:=0) (er:=9) (gO:=8) (qi:=6) (tM:=10) (i:=7) (w:=w) (n:=n+1) rfl rfl rfl rfl rfl rfl rfl rfl rfl h2 (by omega));have w0:Wide []:=⟨by decide,λ_ h=>nomatch h⟩
  have c0:=λfr=>cH (fr:=fr) (eY (F:=prog) (i:=4) (w:=w) (n:=n+5) rfl w0);have r0:=λfr=>cH (fr:=fr) (eZ (F:=prog) (bP:=2) (bQ:=3) (cO:=1) (gb:=0) (er:=9) (gO:=8) (i:=6) (w:=w) (n:=n+2) rfl rfl rfl rfl rfl rfl rfl w0);have s0:=λfr=>cH (fr:=fr) (iL (F:=prog) (bP:=2) (bQ:=3) (cO:=1) (gb:=0) (er:=9) (gO:=8) (qi:=6) (tM:=10) (i:=7) (w:=w) (n:=n+1) rfl rfl rfl rfl rfl rfl rfl rfl rfl (rows:=[]) (λ_ h=>nomatch h) (by decide));refine au (bT (b:=false) (gq (aV rfl (bB (bZ (bq rfl (ay rfl) bh) (Kl _)) (ay rfl) jx) (by simp)) (aV rfl (bB (bZ (bq rfl (ay rfl) bh) (rr _)) (ay rfl) (AH _)) rfl)) (λh=>absurd h (by decide)) λ_=>bI ?_);refine au (b6 (af:=lF ns p (rt p) a b d e) ?_ ⟨rfl,rfl⟩);have:gw (lF ns p (rt p) a b d e)=lF ns p (rt p) a b d e:=by
   show [_,_,_,a.map Sl.fk,b.map Sl.fk,d.map Sl.fk,e.map Sl.fk,_]=_;rw[dQ ha,dQ hb,dQ hd,dQ he];rfl
  rw[this];exact nX (bB (bZ (bq rfl (cP aH kR) bh) (c0 _)) (aE rfl) gG) (nX (bB (bZ (bq rfl (aE rfl) bh) (r0 _)) (cP aH kR) rfl) (bB (bZ (bq rfl (aE rfl) bh) (s0 _)) (nW aH sX) rfl))
omit hn in
theorem good:∀ns:List Int,ns.length<=63->∃h',Ev.run prog 100000 60 14 [.ref 0] [.aW (ns.map Ev.D.int)]=.ok (.bl true) h':=λns h=>Ah (D5 (w:=100000) (n:=53) h)
end Lg
theorem Lw.good:∀ns:List Int,ns.length<=63->∃h',Ev.run Lw.prog 100000 60 14 [.ref 0] [.aW (ns.map Ev.D.int)]=.ok (.bl true) h':=Lg.good
namespace PySem.W.Fast
theorem tw13883820625868224721:True:=⟨⟩
theorem tw11283661003718536231:True:=⟨⟩
theorem tw6236865314874411843:True:=⟨⟩
theorem tw15126403820128848057:True:=⟨⟩
theorem tw11122289194300471794:True:=⟨⟩
theorem tw8269917161544559625:True:=⟨⟩
theorem tw15663029850462247192:True:=⟨⟩
theorem tw5174876395182319746:True:=⟨⟩
theorem tw17065719589026222086:True:=⟨⟩
theorem tw7289424740056176587:True:=⟨⟩
theorem tw15934607966291183117:True:=⟨⟩
theorem tw10639967160244132030:True:=⟨⟩
theorem tw4481813962022409462:True:=⟨⟩
theorem tw9414428486499412966:True:=⟨⟩
theorem tw12567740202731084141:True:=⟨⟩
theorem tw4029232500989752790:True:=⟨⟩
theorem tw68972425842052604:True:=⟨⟩
theorem tw8134970668917691658:True:=⟨⟩
theorem tw8504631047405038915:True:=⟨⟩
theorem tw8714168234896559841:True:=⟨⟩
theorem tw3197052673899705487:True:=⟨⟩
theorem tw10939731836966496211:True:=⟨⟩
theorem tw10923968158883370967:True:=⟨⟩
theorem tw5866231358869323442:True:=⟨⟩
theorem tw3701305179252167703:True:=⟨⟩
theorem tw15951958329511989716:True:=⟨⟩
theorem tw11021330683041582742:True:=⟨⟩
theorem tw9086122199933639043:True:=⟨⟩
theorem tw12475200195354270803:True:=⟨⟩
theorem tw10920219964293923338:True:=⟨⟩
theorem tw837607697064211505:True:=⟨⟩
theorem tw12544142973704293847:True:=⟨⟩
theorem tw4338685134362115734:True:=⟨⟩
theorem tw17868995877520403778:True:=⟨⟩
theorem tw5170871618168740310:True:=⟨⟩
theorem tw4471139781261183599:True:=⟨⟩
theorem tw5931411551166761808:True:=⟨⟩
theorem tw10084481035375628960:True:=⟨⟩
theorem tw5302196596761432597:True:=⟨⟩
theorem tw7725431813882754177:True:=⟨⟩
theorem tw15972765170381145752:True:=⟨⟩
theorem tw13867411335303504988:True:=⟨⟩
theorem tw11699736553869892798:True:=⟨⟩
theorem tw7662159402260367514:True:=⟨⟩
theorem tw18277483543088941108:True:=⟨⟩
theorem tw17123947595143672069:True:=⟨⟩
theorem tw7774189878774026144:True:=⟨⟩
theorem tw3760944875655314473:True:=⟨⟩
theorem tw13388346657737532912:True:=⟨⟩
theorem tw13677393964846761031:True:=⟨⟩
theorem tw7406198211696316971:True:=⟨⟩
theorem tw12316750596338374862:True:=⟨⟩
theorem tw18228969001496658637:True:=⟨⟩
theorem tw5426828896257447008:True:=⟨⟩
theorem tw4043891776328601532:True:=⟨⟩
theorem tw2656711747801639133:True:=⟨⟩
theorem tw1909344580533997281:True:=⟨⟩
theorem tw14577627796514168847:True:=⟨⟩
theorem tw1824151916611521239:True:=⟨⟩
theorem tw6616086574191729509:True:=⟨⟩
theorem tw15578050515495381333:True:=⟨⟩
theorem tw2475312495247026431:True:=⟨⟩
theorem tw13032781231061743782:True:=⟨⟩
theorem tw6382015102275561892:True:=⟨⟩
theorem tw11860457295264428620:True:=⟨⟩
theorem tw15815632285699739639:True:=⟨⟩
theorem tw17764313788543419612:True:=⟨⟩
theorem tw15059035651168790293:True:=⟨⟩
theorem tw8152158854781743697:True:=⟨⟩
theorem tw4706164859646574706:True:=⟨⟩
theorem tw15611729693387319855:True:=⟨⟩
theorem tw10114416186839580816:True:=⟨⟩
theorem tw116457100953951939:True:=⟨⟩
theorem tw1376290636148972497:True:=⟨⟩
theorem tw11093088942084159654:True:=⟨⟩
theorem tw7172107846258224254:True:=⟨⟩
theorem tw4739367095502228422:True:=⟨⟩
theorem tw15615996511177054814:True:=⟨⟩
theorem tw5345356624408265967:True:=⟨⟩
theorem tw4426340665358467322:True:=⟨⟩
theorem tw3898149519684663643:True:=⟨⟩
theorem tw6622254281835143284:True:=⟨⟩
theorem tw14351483599609013102:True:=⟨⟩
theorem tw7441182244354691523:True:=⟨⟩
theorem tw8021363718880779354:True:=⟨⟩
theorem tw2788511221861759932:True:=⟨⟩
theorem tw10933482174223994823:True:=⟨⟩
theorem tw7271805005879414509:True:=⟨⟩
theorem tw11938067802368591787:True:=⟨⟩
theorem tw2898788239936279806:True:=⟨⟩
theorem tw9848418272633666379:True:=⟨⟩
theorem tw17417587307235730576:True:=⟨⟩
theorem tw3392792717142540531:True:=⟨⟩
theorem tw3271153731714749057:True:=⟨⟩
theorem tw13587451197854056223:True:=⟨⟩
theorem tw1895330412443397907:True:=⟨⟩
theorem tw6495045611570401830:True:=⟨⟩
theorem tw9987139240509445920:True:=⟨⟩
theorem tw16287488013012482830:True:=⟨⟩
theorem tw17076215780804225911:True:=⟨⟩
theorem tw5314226226610919304:True:=⟨⟩
theorem tw2924247394279308470:True:=⟨⟩
theorem tw3442772177720785430:True:=⟨⟩
theorem tw5318145484357743227:True:=⟨⟩
theorem tw9729875417325720014:True:=⟨⟩
theorem tw7377092418016610011:True:=⟨⟩
theorem tw4160959482405026293:True:=⟨⟩
theorem tw15740504574533371361:True:=⟨⟩
theorem tw15454395594230524080:True:=⟨⟩
theorem tw14393611471787339010:True:=⟨⟩
theorem tw14872646408196134348:True:=⟨⟩
theorem tw7763024586306502927:True:=⟨⟩
theorem tw8926947552601208296:True:=⟨⟩
theorem tw15186593461843653933:True:=⟨⟩
theorem tw13241631347415901582:True:=⟨⟩
theorem tw18315818024505958731:True:=⟨⟩
theorem tw2824518479491835399:True:=⟨⟩
theorem tw16001209777410105669:True:=⟨⟩
end PySem.W.Fast
open PySem PySem.W PyProof.Rows
set_option maxRecDepth 100000 in
set_option maxHeartbeats 0 in
theorem PySem.Challenge.cw_pastways_k90_texts_holds : PySem.Challenge.rw_pastways_k90_texts.Holds := by
 w_on;o_law;k_head;(case hw=>w_witness2)
 k_fill
 refine Sm.zS (F:=Lw.prog) (wh:=100000) (n:=60) (f:=14) (x:="_law_script") (l:=PySem.Challenge.rw_pastways_k90_texts) rfl rfl ⟨rfl,by decide,by decide⟩ (λw h Y=>PySem.W.kIn_of Y) Lw.good ?F
 case F=>
  intro w mg fa h KX G hmg
  refine' Lw.all_mk KX G hmg ⟨?a0,L2.cA ?l0 ?c0 ?k0⟩ ⟨?a1,L2.cA ?l1 ?c1 ?k1⟩ ⟨?a2,L2.cA ?l2 ?c2 ?k2⟩ ⟨?a3,L2.cA ?l3 ?c3 ?k3⟩ ⟨?a4,L2.cA ?l4 ?c4 ?k4⟩ ⟨?a5,L2.cA ?l5 ?c5 ?k5⟩ ⟨?a6,L2.cA ?l6 ?c6 ?k6⟩ ⟨?a7,L2.cA ?l7 ?c7 ?k7⟩ ⟨?a8,L2.cA ?l8 ?c8 ?k8⟩ ⟨?a9,L2.cA ?l9 ?c9 ?k9⟩ ⟨?Kw,L2.cA ?Ky ?Kz ?KA⟩ ⟨?KC,L2.cA ?KD ?KG ?KH⟩ ⟨?KI,L2.cA ?KJ ?c12 ?KL⟩ ⟨?KN,L2.cA ?KO ?KP ?KQ⟩ ⟨?KR,L2.cA ?KS ?KU ?KW⟩ ?z0 ?z1 ?z2 ?z3 ?z4 ?z5 ?z6 ?z7 ?q0 ?q1 ?q2 ?q3 ?q4 ?GZ ?G0 ?G1 ?G2 ?G3 ?G4;all_goals try first|k_is|rfl|decide +kernel | (with_unfolding_all rfl)

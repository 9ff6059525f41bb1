import PyProof.Rows.All
import Wide.All
import OpenK.AllK
import Wide.FinOn
import Lean
import PyProof.EqAt
import PyProof.EqKinds
import PyProof.TupleCall
import PyProof.DictUpdate
import PyProof.NeKinds
import PyProof.StrLawsIn
import KE.KRevSl
import PyProof.ZipIter
import PyProof.ListRange
import PyProof.Rows.SortStr
import KE.KRevIter
import KE.KDictSum
import PyProof.EnumMake
import PyProof.EnumFor
import PySem.Challenge.RW_pastways_k62_whole_all_fit
set_option Elab.async false
set_option linter.all false
set_option maxRecDepth 100000
namespace L2
open PySem PySem.Spec PyProof.Rows
abbrev Key:=Sum Int Str
noncomputable def ni:Key->Value->Bool
 |.inl k,v=>Value.isInt k v
 |.inr x,v=>Value.isStrOf x v
noncomputable def RL(w:World):Key->Int
 |.inl k=>hashInt k
 |.inr x=>hashStr w x
theorem cY:∀{k:Key}{v:Value},ni k v=true->(∃i t,k=Sum.inl i/\v=Value.int i t)\/(∃x t,k=Sum.inr x/\v=Value.str x t)
 |.inl i,v,h=>by
  obtain⟨t,e⟩:=Value.isInt_shape (k:=i) (v:=v) h;exact .inl ⟨i,t,rfl,e⟩
 |.inr x,v,h=>by
  obtain⟨t,e⟩:=Value.isStrOf_shape (x:=x) (v:=v) h;exact .inr ⟨x,t,rfl,e⟩
theorem z9(i:Int)(t:Tok):ni (.inl i) (.int i t)=true:=by simp[ni,Value.isInt]
theorem Aa(x:Str)(t:Tok):ni (.inr x) (.str x t)=true:=by simp[ni,Value.isStrOf]
theorem Iw(a b:Int):decide ((Sum.inl a:Key)=Sum.inl b)=(a==b):=by
 by_cases e:a=b
 .subst e;simp
 .have h:¬ (Sum.inl a:Key)=Sum.inl b:=λq=>e (Sum.inl.inj q);rw[decide_eq_false h];exact(beq_eq_false_iff_ne.mpr e).symm
theorem Iz(a b:Str):decide ((Sum.inr a:Key)=Sum.inr b)=decide (a=b):=by
 by_cases e:a=b
 .subst e;simp
 .have h:¬ (Sum.inr a:Key)=Sum.inr b:=λq=>e (Sum.inr.inj q);rw[decide_eq_false h,decide_eq_false e]
theorem IA(a:Int)(b:Str):decide ((Sum.inl a:Key)=Sum.inr b)=false:=decide_eq_false (λq=>nomatch q)
theorem IB(a:Str)(b:Int):decide ((Sum.inr a:Key)=Sum.inl b)=false:=decide_eq_false (λq=>nomatch q)
noncomputable def cL(prog:Program)(w:World):PySem.KeyKind prog w Key where
 is:=ni
 hash:=RL w
 inj:=λv a b ha hb=>by
  rcases cY ha with ⟨i,t,rfl,rfl⟩|⟨x,t,rfl,rfl⟩
  .rcases cY hb with ⟨j,u,rfl,e⟩|⟨y,u,rfl,e⟩
   .injection e with e1 _;rw[e1]
   .exact nomatch e
  .rcases cY hb with ⟨j,u,rfl,e⟩|⟨y,u,rfl,e⟩
   .exact nomatch e
   .injection e with e1 _;rw[e1]
 byValue:=λk v h=>by
  rcases cY h with ⟨i,t,rfl,rfl⟩|⟨x,t,rfl,rfl⟩<;>rfl
 pyHash:=λhv h=>by
  rcases cY hv with ⟨i,t,rfl,rfl⟩|⟨x,t,rfl,rfl⟩
  .exact wpAny_pyHash_int h
  .exact wpAny_pyHash_str h
 eqBool:=λhu hv h=>by
  rcases cY hu with ⟨i,t,rfl,rfl⟩|⟨x,t,rfl,rfl⟩
  .rcases cY hv with ⟨j,u,rfl,rfl⟩|⟨y,u,rfl,rfl⟩
   .rw[Iw]at h;exact wpAny_eqBool_int h
   .rw[IA]at h;exact SeqAt.EqAt.int_str i t y u _ _ _ _ h
  .rcases cY hv with ⟨j,u,rfl,rfl⟩|⟨y,u,rfl,rfl⟩
   .rw[IB]at h;exact SeqAt.EqAt.str_int x t j u _ _ _ _ h
   .rw[Iz]at h;exact wpAny_eqBool_str h
 «strs»:=λk x t v h=>by
  rcases cY h with ⟨i,u,rfl,e⟩|⟨y,u,rfl,e⟩
  .exact nomatch e
  .injection e with e1 _
   subst e1;cases v<;>rfl
theorem vM(prog:Program)(w:World)(i:Int)(t:Tok):(cL prog w).is (.inl i) (.int i t)=true:=z9 i t
theorem vN(prog:Program)(w:World)(x:Str)(t:Tok):(cL prog w).is (.inr x) (.str x t)=true:=Aa x t
end L2
namespace L2
open PySem PySem.Spec PyProof.Rows
inductive V where
 |aG|bl (b:Bool)|int (i:Int)|str (x:Str)|Ab (b:Array UInt8)|Ac (b:UInt64)|ref (a:Addr)|ty (n:String)
 deriving DecidableEq
noncomputable def RelV:V->Value->Prop
 |.aG,u=>u=Value.none
 |.bl b,u=>u=Value.bool b
 |.int i,u=>∃t,u=Value.int i t
 |.str x,u=>∃t,u=Value.str x t
 |.Ab b,u=>∃t,u=Value.bytes b t
 |.Ac b,u=>∃t,u=Value.float b t
 |.ref a,u=>u=Value.ref a
 |.ty n,u=>u=Value.type n
abbrev Vals:List V->List Value->Prop:=Paired RelV
theorem Vals.length{xs:List V}{us:List Value}(r:Vals xs us):xs.length=us.length:=Paired.length r
theorem Vals.get:∀{xs:List V}{us:List Value}{i:Nat}{x:V},Vals xs us->xs[i]?=some x->∃u,us[i]?=some u/\RelV x u
 |_,_,_,_,.nil,e=>by simp at e
 |_,_,0,_,.cons r _,e=>by simp at e;subst e;exact⟨_,rfl,r⟩
 |_,_,i+1,x,.cons _ t,e=>by
  obtain⟨u,h1,h2⟩:=Vals.get (i:=i) (x:=x) t (by simpa using e);exact⟨u,by simpa using h1,h2⟩
theorem Vals.append:∀{xs ys:List V}{us ws:List Value},Vals xs us->Vals ys ws->Vals (xs++ys) (us++ws)
 |_,_,_,_,.nil,s=>s
 |_,_,_,_,.cons r t,s=>.cons r (Vals.append t s)
theorem Vals.take:∀{xs:List V}{us:List Value}(n:Nat),Vals xs us->Vals (xs.take n) (us.take n)
 |_,_,0,_=>.nil
 |_,_,_+1,.nil=>.nil
 |_,_,n+1,.cons r t=>.cons r (Vals.take n t)
theorem Vals.drop:∀{xs:List V}{us:List Value}(n:Nat),Vals xs us->Vals (xs.drop n) (us.drop n)
 |_,_,0,r=>r
 |_,_,_+1,.nil=>.nil
 |_,_,n+1,.cons _ t=>Vals.drop n t
noncomputable def lX:Option V->Option Value->Prop
 |some v,some u=>RelV v u
 |none,none=>True
 |_,_=>False
noncomputable def KV{κ:Type}:List (κ×V)->List (κ×Value)->Prop:=Paired λ(p:κ×V) (q:κ×Value)=>p.1=q.1/\RelV p.2 q.2
noncomputable def kV:Key->V
 |.inl i=>.int i
 |.inr x=>.str x
inductive HO where
 |lst (xs:List V)
 |tup (xs:List V)
 |dK (kvs:List (Key×V))|dT (kvs:List (List Key×V))
 |set (S:Int->Bool) (n:Nat)
 |ins (C dx:Addr) (fs:List (Str×V))
 |own (x:Addr)
 |xd (fs:List (Str×V))
 |met (f x:Addr)
 |gk (lo hi:Int)
 |bL (o:Obj) (u:HO)
 |tK (ps:Array Value)
 |ext (φ:Heap->Prop)
abbrev Hp:=Addr->Option HO
noncomputable def upd(H:Hp)(a:Addr)(o:HO):Hp:=λb=>if b=a then some o else H b
theorem fh{H:Hp}{a:Addr}{o:HO}:upd H a o a=some o:=by unfold upd;rw[if_pos rfl]
theorem aS{H:Hp}{a b:Addr}{o:HO}(h:b≠a):upd H a o b=H b:=by unfold upd;rw[if_neg h]
theorem gT{H:Hp}{a b:Addr}{o u:HO}(h:H a=some o)(h':H b=some u)(d:o≠u):a≠b:=by
 intro e;subst e;rw[h]at h';exact d (Option.some.inj h')
theorem bw{H:Hp}{a b:Addr}{o:HO}(h:H a=some o)(h':H b=none):a≠b:=by
 intro e;subst e;rw[h]at h';cases h'
section
variable(P:Program)(w:World)
noncomputable def dj(H:Hp)(h:Heap)(a:Addr):HO->Prop
 |.lst xs=>xs.length<=sizeLine/\∃(its:List Value) (n:Nat),Vals xs its/\h.get? a=some { cls:=.type "list",data:=.seq its.toArray n }
 |.tup xs=>xs.length<=sizeLine/\∃its:List Value,Vals xs its/\IsTup h a its.toArray
 |.dK kvs=>kvs.length<=sizeLine/\(a==sysModules)=false/\∃vs,KV kvs vs/\h.DictOf (cL P w) a vs
 |.dT kvs=>kvs.length<=sizeLine/\(a==sysModules)=false/\∃xs:List (List Key×Addr×Value),
   Paired (λ(p:List Key×V) (q:List Key×Addr×Value)=>p.1=q.1/\H q.2.1=some (.tup (p.1.map kV))/\RelV p.2 q.2.2) kvs xs/\
   ∃o es ep,h.get? a=some o/\o.ExactDict/\o.data=.dict es ep/\es.toList=xs.map (entryOfKey (tupleKind (cL P w)))/\(xs.map (·.1)).Nodup
 |.set S n=>h.SetOf (intKind P w) a S n
 |.ins C dx fs=>H dx=some (.own a)/\fs.length<=1000/\dx≠a/\h.get? a=some (PySem.W.instObj C dx)/\
   ∃mA,h.Ns1 dx mA/\(∀f,lX (fs.lookup f) (mA f))/\PySem.Within mA (fs.map (·.1))
 |.own _=>∃o,h.get? a=some o
 |.xd fs=>∃mA,h.Ns1 a mA/\∀f,lX (fs.lookup f) (mA f)
 |.gk lo hi=>∃t u v,h.get? a=some { cls:=.type "range",data:=.fields #[.int lo t,.int hi u,.int 1 v]}
 |.bL o u=>h.get? a=some o/\dj H h a u
 |.tK ps=>h.get? a=some { cls:=.none,data:=.fields ps }
 |.met f x=>h.get? a=some (PySem.W.methodObj (.ref f) (.ref x))
 |.ext φ=>φ h/\(∃o,h.get? a=some o)/\∀h1 h2:Heap,φ h1->(∀o,h1.get? a=some o->h2.get? a=some o)->φ h2
noncomputable def ef(H:Hp)(h:Heap):Prop:=∀a o,H a=some o->dj P w H h a o
end
section
variable{P:Program}{w:World}{H H':Hp}{h h':Heap}{a:Addr}{o:HO}
theorem dj.lt(x:dj P w H h a o):a<h.objs.size:=by
 cases o with
 |lst xs=>obtain⟨_,_,_,_,e⟩:=x;exact Heap.lt_size e
 |tup xs=>obtain⟨_,_,_,p⟩:=x;exact p.lt
 |dK kvs=>obtain⟨_,_,_,_,o,_,_,e,_⟩:=x;exact Heap.lt_size e
 |dT kvs=>obtain⟨_,_,_,_,o,_,_,e,_⟩:=x;exact Heap.lt_size e
 |set S n=>obtain⟨o,_,_,_,e,_⟩:=x;exact Heap.lt_size e
 |ins C dx fs=>obtain⟨_,_,_,e,_⟩:=x;exact Heap.lt_size e
 |own y=>obtain⟨_,e⟩:=x;exact Heap.lt_size e
 |xd fs=>obtain⟨_,⟨_,_,_,e,_⟩,_⟩:=x;exact Heap.lt_size e
 |gk lo hi=>obtain⟨_,_,_,e⟩:=x;exact Heap.lt_size e
 |bL ob u=>obtain⟨e,_⟩:=x;exact Heap.lt_size e
 |tK ps=>exact Heap.lt_size (show h.get? a=some _ from x)
 |met f y=>exact Heap.lt_size (show h.get? a=some _ from x)
 |ext φ=>obtain⟨_,⟨_,e⟩,_⟩:=x;exact Heap.lt_size e
theorem Paired.Cq{α β:Type}{F G:α->β->Prop}:∀{l₁:List α}{l₂:List β},Paired F l₁ l₂->(∀a b,F a b->G a b)->Paired G l₁ l₂
 |_,_,.nil,_=>.nil
 |_,_,.cons r t,f=>.cons (f _ _ r) (Paired.Cq t f)
theorem dj.stay(x:dj P w H h a o)(k:∀b u,(b=a\/H b=some (.own a))->h.get? b=some u->h'.get? b=some u)
  (ho:∀b,H b=some (.own a)->H' b=some (.own a)) (ht:∀b xs,H b=some (.tup xs)->H' b=some (.tup xs)):dj P w H' h' a o:=by
 induction o with
 |lst xs=>obtain⟨z,its,n,r,e⟩:=x;exact⟨z,its,n,r,k _ _ (.inl rfl) e⟩
 |tup xs=>obtain⟨z,its,r,ob,e,c⟩:=x;exact⟨z,its,r,ob,k _ _ (.inl rfl) e,c⟩
 |dK kvs=>obtain⟨z,y,vs,r,ob,es,ep,e,c⟩:=x;exact⟨z,y,vs,r,ob,es,ep,k _ _ (.inl rfl) e,c⟩
 |dT kvs=>
  obtain⟨z,y,xs,r,ob,es,ep,e,c⟩:=x;exact⟨z,y,xs,Paired.Cq r λp q z=>⟨z.1,ht _ _ z.2.1,z.2.2⟩,ob,es,ep,k _ _ (.inl rfl) e,c⟩
 |set S n=>obtain⟨ob,es,ep,t,e,c⟩:=x;exact⟨ob,es,ep,t,k _ _ (.inl rfl) e,c⟩
 |ins C dx fs=>
  obtain⟨d,z,ne,e,mA,⟨od,es,ep,e2,c⟩,r⟩:=x;exact⟨ho _ d,z,ne,k _ _ (.inl rfl) e,mA,⟨od,es,ep,k _ _ (.inr d) e2,c⟩,r⟩
 |own y=>obtain⟨ob,e⟩:=x;exact⟨ob,k _ _ (.inl rfl) e⟩
 |xd fs=>obtain⟨mA,⟨od,es,ep,e,c⟩,r⟩:=x;exact⟨mA,⟨od,es,ep,k _ _ (.inl rfl) e,c⟩,r⟩
 |gk lo hi=>obtain⟨t,u,v,e⟩:=x;exact⟨t,u,v,k _ _ (.inl rfl) e⟩
 |bL ob u ih=>obtain⟨e,q⟩:=x;exact⟨k _ _ (.inl rfl) e,ih q⟩
 |tK ps=>
  have e:h.get? a=some { cls:=.none,data:=.fields ps }:=x;show h'.get? a=some { cls:=.none,data:=.fields ps };exact k a _ (.inl rfl) e
 |met f y=>
  have e:h.get? a=some (PySem.W.methodObj (.ref f) (.ref y)):=x;show h'.get? a=some (PySem.W.methodObj (.ref f) (.ref y));exact k a _ (.inl rfl) e
 |ext φ=>obtain⟨p,⟨o,e⟩,st⟩:=x;exact⟨st _ _ p λo q=>k _ _ (.inl rfl) q,⟨o,k _ _ (.inl rfl) e⟩,st⟩
theorem ef.lt(x:ef P w H h)(e:H a=some o):a<h.objs.size:=(x a o e).lt
theorem ef.fresh(x:ef P w H h)(e:h.objs.size<=a):H a=none:=by
 cases q:H a with
 |none=>rfl
 |some u=>exact absurd (Nat.lt_of_lt_of_le (x.lt q) e) (Nat.lt_irrefl _)
theorem ef.kept(x:ef P w H h)(k:∀b u,h.get? b=some u->h'.get? b=some u):ef P w H h':=λa o e=>
 (x a o e).stay (λb u _ q=>k b u q) (λ_ q=>q) λ_ _ q=>q
theorem ef.laid(x:ef P w H h)(k:∀b u,h.get? b=some u->h'.get? b=some u)(hp:h.objs.size<=a)(new:dj P w (upd H a o) h' a o):ef P w (upd H a o) h':=λb u e=>by
 have hn:=x.fresh hp;by_cases hb:b=a
 .subst hb;rw[fh]at e;cases e;exact new
 .rw[aS hb]at e;exact(x b u e).stay (λc v _ q=>k c v q) (λc q=>by rw[aS (bw q hn)];exact q) λc xs q=>by rw[aS (bw q hn)];exact q
end
noncomputable def Rd(H:Hp)(a:Addr)(u:HO):Prop:=H a=some u\/∃o,H a=some (.bL o u)
theorem Rd.ok{P:Program}{w:World}{H:Hp}{h:Heap}{a:Addr}{u:HO}(r:Rd H a u)(x:ef P w H h):dj P w H h a u:=by
 rcases r with r|⟨o,r⟩
 .exact x a u r
 .obtain⟨_,q⟩:=x a _ r;exact q
noncomputable def Ad:Option HO->Prop
 |some (.lst _)=>True
 |some (.dK _)=>True
 |some (.dT _)=>True
 |some (.set _ _)=>True
 |some (.ins _ _ _)=>True
 |some (.ext _)=>True
 |_=>False
section
variable{P:Program}{w:World}{H:Hp}{h h':Heap}{x e:Addr}{o':HO}
theorem ef.write(ok:ef P w H h)(mu:Ad (H x))(he:e=x\/H e=some (.own x))(k:∀b u,b≠e->h.get? b=some u->h'.get? b=some u)(wu:∃u,h'.get? e=some u)
  (new:dj P w (upd H x o') h' x o'):ef P w (upd H x o') h':=λb u q=>by
 have IC:∀c y,H c=some (.own y)->c≠x:=λc y r z=>by subst z;rw[r]at mu;exact mu
 have RM:∀c xs,H c=some (.tup xs)->c≠x:=λc xs r z=>by subst z;rw[r]at mu;exact mu
 by_cases hb:b=x
 .subst hb;rw[fh]at q;cases q;exact new
 .rw[aS hb]at q;by_cases tL:b=e
  .have q':H b=some (.own x):=by
    rcases he with z|z
    .exact absurd (tL.trans z) hb
    .rw[tL];exact z
   rw[q]at q';cases q';obtain⟨v,hv⟩:=wu;exact⟨v,by rw[tL];exact hv⟩
  .refine(ok b u q).stay (λc v hc r=>k c v ?_ r) (λc r=>by rw[aS (IC c b r)];exact r) λc xs r=>by rw[aS (RM c xs r)];exact r
   rcases hc with rfl|hc
   .exact tL
   .rintro rfl;rcases he with z|z
    .exact IC c b hc z
    .rw[hc]at z;cases z;exact hb rfl
end
structure Un(fs ex:List Addr)(H H':Hp)(h h':Heap):Prop where
 keep:∀b o,h.get? b=some o->H b=none->b∉fs->b∉ex->h'.get? b=some o
 slot:∀b o,h.get? b=some o->H b=none->b∈fs->b∉ex->∃sl,h'.get? b=some { o with slots:=sl }
 free:∀b o,h.get? b=some o->H b=none->b∉ex->H' b=none
 there:∀b o,h.get? b=some o->b∉ex->∃o',h'.get? b=some o'
 tups:∀b xs,H b=some (.tup xs)->H' b=some (.tup xs)
 kQ:∀b o u,H b=some (.bL o u)->H' b=some (.bL o u)
 lY:∀b ps,H b=some (.tK ps)->∃more,H' b=some (.tK (ps++more))
section
variable{fs fs' ex ex':List Addr}{H H1 H2:Hp}{h h1 h2 h':Heap}{a x e:Addr}{o:HO}
theorem Un.any(u:Un fs ex H H1 h h1){b:Addr}{ob:Obj}(q:h.get? b=some ob)(n:H b=none)(hx:b∉ex):∃sl,h1.get? b=some { ob with slots:=sl }:=by
 by_cases hb:b∈fs
 .exact u.slot b ob q n hb hx
 .exact⟨ob.slots,u.keep b ob q n hb hx⟩
theorem Un.kept(k:∀b u,h.get? b=some u->h'.get? b=some u):Un fs ex H H h h':=
 ⟨λb ob q _ _ _=>k b ob q,λb ob q _ _ _=>⟨ob.slots,k b ob q⟩,λ_ _ _ n _=>n,λb ob q _=>⟨ob,k b ob q⟩,λ_ _ q=>q,λ_ _ _ q=>q,λ_ ps q=>⟨#[],by rw[q];simp⟩⟩
theorem Un.refl:Un fs ex H H h h:=Un.kept λ_ _ q=>q
theorem Un.laid(k:∀b u,h.get? b=some u->h'.get? b=some u)(hp:h.objs.size<=a)(hn:H a=none):Un fs ex H (upd H a o) h h' where
 keep:=λb u q _ _ _=>k b u q
 slot:=λb u q _ _ _=>⟨u.slots,k b u q⟩
 free:=λb u q n _=>by rw[aS (Nat.ne_of_lt (Nat.lt_of_lt_of_le (Heap.lt_size q) hp))];exact n
 there:=λb u q _=>⟨u,k b u q⟩
 tups:=λb xs q=>by rw[aS (bw q hn)];exact q
 kQ:=λb u xs q=>by rw[aS (bw q hn)];exact q
 lY:=λb ps q=>⟨#[],by rw[aS (bw q hn),q];simp⟩
theorem Un.write(mu:Ad (H x))(he:e=x\/H e=some (.own x))(k:∀b u,b≠e->h.get? b=some u->h'.get? b=some u)(wu:∃u,h'.get? e=some u):Un fs ex H (upd H x o) h h':=by
 have hx:∀b,H b=none->b≠x:=λb n z=>by subst z;rw[n]at mu;exact mu
 have hb:∀b,H b=none->b≠e:=λb n z=>by
  subst z;rcases he with r|r
  .exact hx b n r
  .rw[n]at r;cases r
 have hm:∀b u,H b=some u->¬ Ad (some u)->b≠x:=λb u q nm z=>by subst z;rw[q]at mu;exact nm mu
 refine⟨λb u q n _ _=>k b u (hb b n) q,λb u q n _ _=>⟨u.slots,k b u (hb b n) q⟩,λb u q n _=>by rw[aS (hx b n)];exact n,λb u q _=>?_,
  λb xs q=>by rw[aS (hm b _ q λz=>z)];exact q,λb u xs q=>by rw[aS (hm b _ q λz=>z)];exact q,λb ps q=>⟨#[],by rw[aS (hm b _ q λz=>z),q];simp⟩⟩
 by_cases tL:b=e
 .subst tL;exact wu
 .exact⟨u,k b u tL q⟩
end
noncomputable def EA(h:Heap)(H:Hp):List Addr:=(List.range h.objs.size).filter λa=>(H a).isSome
noncomputable def kR(h:Heap)(H:Hp):Heap:=PySem.W.hideAll h (EA h H)
theorem Ae(h:Heap)(H:Hp):(kR h H).objs.size=h.objs.size:=PySem.W.hideAll_size _ _
theorem Cr{h:Heap}{H:Hp}{b:Addr}{o:Obj}(e:h.get? b=some o)(n:H b=none):(kR h H).get? b=some o:=
 PySem.W.hideAll_get _ e λhm=>by
  have q:(H b).isSome=true:=(List.mem_filter.mp hm).2;rw[n]at q;simp at q
theorem Ga{h:Heap}{H:Hp}{b:Addr}{o:Obj}(e:(kR h H).get? b=some o):h.get? b=some o/\H b=none:=by
 have e':h.get? b=some o:=PySem.W.of_hideAll (EA h H) e;refine⟨e',?_⟩;cases q:H b with
 |none=>rfl
 |some x=>
  have hm:b∈EA h H:=List.mem_filter.mpr ⟨List.mem_range.mpr (Heap.lt_size e'),by simp[q]⟩;have z:(kR h H).get? b=none:=PySem.W.hideAll_none (EA h H) hm;rw[z]at e;cases e
noncomputable def Gb(g h:Heap)(L:Addr):List (Addr×Obj):=(List.range h.objs.size).filterMap λa=>if a=L\/(g.get? a).isSome=true then none else (h.get? a).map λo=>(a,o)
noncomputable def rest(g h:Heap)(L d:Addr):List (Addr×Obj):=(Gb g h L).filter λp=>decide (p.1≠d)
end L2
namespace L2
open PySem PySem.Spec PyProof.Rows
structure Mod(K:PySem.W.Frag)(mg:Str->Option Value)(base:Heap):Prop where
 EB:K.In base
 glob:base.Ns mainGlobals mg
 blt:∃mb,base.Ns builtinsNs mb/\∀x:Str,x≠"__name__" ->mb x=bootBuiltins x
 nolimit:base.NoLimit
structure Cx where
 prog:Program
 w:World
 K:PySem.W.Frag
 mg:Str->Option Value
 base:Heap
 A:Around
 N:List Str
 s₀:Shared
 H₀:Hp
 env:Env
 outer:List Env
 stack:List Env
 ex:List Addr
 fn:Str->Bool
 calm:Bool
 pn:List (Addr×Obj)
 xe:Value->Shared->Prop
noncomputable def frs(l:List Env):List Addr:=l.filterMap (·.frame)
noncomputable abbrev Cx.fs(X:Cx):List Addr:=frs X.outer
noncomputable def Af(sc:Scope)(x:Str):Prop:=sc.names.lookup x=some .local\/sc.names.lookup x=some .cell\/sc.names.lookup x=some .free
noncomputable def Loc(sc:Scope)(x:Str):Prop:=sc.names.lookup x=some .local\/sc.names.lookup x=some .cell
noncomputable def Look(env:Env)(h:Heap)(m:Str->Option Value)(x:Str)(u:Value):Prop:=
 (env.kindOf x=some .local/\m x=some u)\/((env.kindOf x=some .cell\/env.kindOf x=some .free)/\∃c,env.cells.lookup x=some c/\h.IsCell c (some u))
structure Cx.Ok(X:Cx):Prop where
 mod:Mod X.K X.mg X.base
 kind:X.env.scope.kind=.function
 glob:X.env.globals=mainGlobals
 blt:X.env.builtins=builtinsNs
 above:X.s₀.heap.objs.size<=X.env.locals
 inj:∀x y c,X.env.cells.lookup x=some c->X.env.cells.lookup y=some c->x=y
 has:∀x,(X.env.kindOf x=some .cell\/X.env.kindOf x=some .free)->∃c,X.env.cells.lookup x=some c
 wz:∀x c,X.fn x=true->X.env.cells.lookup x=some c->X.s₀.heap.objs.size<=c
 hd:X.calm=true->X.A.handled=none
 frames:X.A.frames=some X.stack
 stk:X.stack=X.outer\/(X.stack=X.env :: X.outer/\X.env.frame=some X.env.locals)
 EC:∀b∈X.ex,b≠X.env.locals/\∀x c,X.env.cells.lookup x=some c->c≠b
 bs:∀b o,X.base.get? b=some o->X.s₀.heap.get? b=some o/\X.H₀ b=none
 qV:X.base.objs.size<=X.s₀.heap.objs.size
 ql:∀b o,X.base.get? b=some o->b∉X.ex
 qm:∀b∈X.ex,b∉X.fs
 iX:X.s₀.heap.FunFrames X.base X.outer
 tM:∀b∈X.fs,X.H₀ b=none
structure Inv(X:Cx)(pins:List (Addr×Obj))(σ:List (Option V))(H:Hp)(s:Shared):Prop where
 ok:X.Ok
 os:s.os=X.s₀.os
 bare:AllBare s.gens
 base:Un X.fs X.ex X.H₀ H X.s₀.heap s.heap
 loc:∃m,s.heap.Ns X.env.locals m/\∀(i:Nat) (x:Str) (v:V),X.N[i]?=some x->σ[i]?=some (some v)->Af X.env.scope x->∃u,RelV v u/\Look X.env s.heap m x u
 cell:∀x c,X.env.cells.lookup x=some c->∃v,s.heap.IsCell c v
 free:H X.env.locals=none
 iK:∀x c,X.env.cells.lookup x=some c->H c=none
 pin:∀p∈X.pn++pins,s.heap.get? p.1=some p.2/\H p.1=none/\p.1≠X.env.locals/\p.1∉X.fs/\∀v,p.2.data≠.cell v
 hok:ef X.prog X.w H s.heap
 len:σ.length=X.N.length
section
variable{X:Cx}{pins:List (Addr×Obj)}{σ:List (Option V)}{H H':Hp}{s:Shared}{h':Heap}
theorem Cx.Ok.RN(ok:X.Ok){b:Addr}{o:Obj}(e:X.base.get? b=some o):b∉X.fs:=λhb=>by
 have:=(ok.iX.mem hb).1;rw[e]at this;cases this
theorem Inv.bs(I:Inv X pins σ H s):∀b o,X.base.get? b=some o->s.heap.get? b=some o/\H b=none:=λb o e=>
 ⟨I.base.keep b o (I.ok.bs b o e).1 (I.ok.bs b o e).2 (I.ok.RN e) (I.ok.ql b o e),I.base.free b o (I.ok.bs b o e).1 (I.ok.bs b o e).2 (I.ok.ql b o e)⟩
theorem Inv.bk(I:Inv X pins σ H s):∀b o,X.base.get? b=some o->s.heap.get? b=some o:=λb o e=>(I.bs b o e).1
theorem Inv.mod(I:Inv X pins σ H s):Mod X.K X.mg X.base:=I.ok.mod
theorem Inv.qW(I:Inv X pins σ H s):X.K.In s.heap:=I.ok.mod.EB.keeps I.bk
theorem Inv.lt(I:Inv X pins σ H s):X.env.locals<s.heap.objs.size:=let ⟨_,hn,_⟩:=I.loc;hn.lt
theorem Inv.sz(I:Inv X pins σ H s):X.s₀.heap.objs.size<=s.heap.objs.size:=Nat.le_trans I.ok.above (Nat.le_of_lt I.lt)
theorem Inv.RP(I:Inv X pins σ H s){a:Addr}(h:s.heap.objs.size<=a):a∉X.fs:=λhb=>by
 obtain⟨_,o,ho,_⟩:=I.ok.iX.mem hb;exact absurd (Nat.lt_of_lt_of_le (Heap.lt_size ho) (Nat.le_trans I.sz h)) (Nat.lt_irrefl _)
theorem Inv.tN(I:Inv X pins σ H s):∀x c,X.env.cells.lookup x=some c->c≠X.env.locals:=λx c e z=>by
 obtain⟨v,o,ho,hd⟩:=I.cell x c e;obtain⟨m,⟨o',es,ep,ho',hd',_⟩,_⟩:=I.loc;rw[z,ho']at ho;cases ho;rw[hd']at hd;cases hd
theorem Inv.iX(I:Inv X pins σ H s):s.heap.FunFrames X.base X.outer:=by
 have all:∀(l:List Env),(∀b∈frs l,b∈X.fs)->X.s₀.heap.FunFrames X.base l->s.heap.FunFrames X.base l:=by
  intro l;induction l with
  |nil=>intro _ _;trivial
  |cons env r ih=>
   intro hs hl;obtain⟨hk,⟨L,o,hf,hn,ho,hd⟩,hr⟩:=hl;have hL:L∈X.fs:=hs L (by unfold frs;rw[List.filterMap_cons,hf];exact List.mem_cons_self);obtain⟨sl,e⟩:=I.base.slot L o ho (I.ok.tM L hL) hL λz=>I.ok.qm L z hL;exact⟨hk,⟨L,_,hf,hn,e,hd⟩,ih (λb hb=>hs b (by unfold frs;rw[List.filterMap_cons,hf];exact List.mem_cons_of_mem _ hb)) hr⟩
 exact all X.outer (λ_ hb=>hb) I.ok.iX
theorem Inv.stack(I:Inv X pins σ H s):s.heap.FunFrames X.base X.stack:=by
 rcases I.ok.stk with e|⟨e,hf⟩
 .rw[e];exact I.iX
 .rw[e];obtain⟨m,hn,_⟩:=I.loc;refine .cons (by rw[I.ok.kind];decide) hf hn ?_ I.iX;exact Heap.get?_none_of_le (Nat.le_trans I.ok.qV I.ok.above)
theorem Inv.tO(I:Inv X pins σ H s):∀b∈frs X.stack,b∈X.env.locals :: X.fs:=λb hb=>by
 rcases I.ok.stk with e|⟨e,hf⟩
 .rw[e]at hb;exact List.mem_cons_of_mem _ hb
 .rw[e]at hb;unfold frs at hb;rw[List.filterMap_cons,hf]at hb;exact hb
theorem Inv.wA(I:Inv X pins σ H s):∀b∈frs X.stack,H b=none:=λb hb=>by
 rcases List.mem_cons.mp (I.tO b hb)with e|hb
 .rw[e];exact I.free
 .obtain⟨_,o,ho,_⟩:=I.ok.iX.mem hb;exact I.base.free b o ho (I.ok.tM b hb) λz=>I.ok.qm b z hb
theorem Inv.step{g':Array GenState}{t':Nat}{d':Drawn}{ch:List Addr}(I:Inv X pins σ H s)
  (hch:∀b∈ch,(b∈X.ex\/X.s₀.heap.objs.size<=b)/\b≠X.env.locals/\(∀x c,X.env.cells.lookup x=some c->c≠b)/\∀p∈X.pn++pins,p.1≠b)
  (keep:∀b o,b≠X.env.locals->b∉X.fs->b∉ch->s.heap.get? b=some o->H b=none->h'.get? b=some o)
  (slot:∀b o,b≠X.env.locals->b∈X.fs->b∉ch->s.heap.get? b=some o->H b=none->∃sl,h'.get? b=some { o with slots:=sl }) (free:∀b o,b∉ch->s.heap.get? b=some o->H b=none->H' b=none)
  (there:∀b o,b∉ch->s.heap.get? b=some o->∃o',h'.get? b=some o')
  (tups:∀b xs,H b=some (.tup xs)->H' b=some (.tup xs)) (kQ:∀b o u,H b=some (.bL o u)->H' b=some (.bL o u)) (lY:∀b ps,H b=some (.tK ps)->∃more,H' b=some (.tK (ps++more)))
  (ns:∀m,s.heap.Ns X.env.locals m->h'.Ns X.env.locals m) (hok:ef X.prog X.w H' h') (hg:AllBare g') :
  Inv X pins σ H' { s with heap:=h',gens:=g',drawn:=d',toks:=t' }:=by
 have PN:∀b o,X.s₀.heap.get? b=some o->b≠X.env.locals:=λb o e=>Nat.ne_of_lt (Nat.lt_of_lt_of_le (Heap.lt_size e) I.ok.above);have ED:∀b o,X.s₀.heap.get? b=some o->b∉X.ex->b∉ch:=λb o e hx hb=>by
  rcases(hch b hb).1 with z|z
  .exact hx z
  .exact absurd (Nat.lt_of_lt_of_le (Heap.lt_size e) z) (Nat.lt_irrefl _)
 have cellK:∀x c,X.env.cells.lookup x=some c->∀v,s.heap.IsCell c v->h'.IsCell c v:=λx c e v ⟨o,ho,hd⟩=>by
  have Ag:c∉ch:=λz=>(hch c z).2.2.1 x c e rfl;by_cases hc:c∈X.fs
  .obtain⟨sl,q⟩:=slot c o (I.tN x c e) hc Ag ho (I.iK x c e);exact⟨_,q,hd⟩
  .exact⟨o,keep c o (I.tN x c e) hc Ag ho (I.iK x c e),hd⟩
 refine⟨I.ok,I.os,hg,⟨λb o e n hb hx=>?_,λb o e n hb hx=>?_,λb o e n hx=>?_,λb o e hx=>?_,λb xs e=>tups b xs (I.base.tups b xs e),λb o xs e=>kQ b o xs (I.base.kQ b o xs e),λb ps e=>?_⟩,?_,λx c e=>?_,?_,λx c e=>?_,λp hp=>?_,hok,I.len⟩
 .exact keep b o (PN b o e) hb (ED b o e hx) (I.base.keep b o e n hb hx) (I.base.free b o e n hx)
 .obtain⟨sl,e1⟩:=I.base.slot b o e n hb hx;obtain⟨Ub,e2⟩:=slot b _ (PN b o e) hb (ED b o e hx) e1 (I.base.free b o e n hx);exact⟨Ub,e2⟩
 .obtain⟨o',e1⟩:=I.base.there b o e hx;exact free b o' (ED b o e hx) e1 (I.base.free b o e n hx)
 .obtain⟨o',e1⟩:=I.base.there b o e hx;exact there b o' (ED b o e hx) e1
 .obtain⟨m1,e1⟩:=I.base.lY b ps e;obtain⟨m2,e2⟩:=lY b _ e1;exact⟨m1++m2,by rw[e2,Array.append_assoc]⟩
 .obtain⟨m,hn,hl⟩:=I.loc;refine⟨m,ns m hn,λi x v e1 e2 e3=>?_⟩;obtain⟨u,r,l⟩:=hl i x v e1 e2 e3;refine⟨u,r,?_⟩;rcases l with l|⟨k,c,e,z⟩
  .exact .inl l
  .exact .inr ⟨k,c,e,cellK x c e _ z⟩
 .obtain⟨v,z⟩:=I.cell x c e;exact⟨v,cellK x c e v z⟩
 .obtain⟨m,⟨o,_,_,ho,_⟩,_⟩:=I.loc;exact free _ o (λz=>(hch _ z).2.1 rfl) ho I.free
 .obtain⟨v,o,ho,hd⟩:=I.cell x c e;exact free c o (λz=>(hch c z).2.2.1 x c e rfl) ho (I.iK x c e)
 .obtain⟨e,n,ne,nf,d⟩:=I.pin p hp;have Ag:p.1∉ch:=λz=>(hch p.1 z).2.2.2 p hp rfl;exact⟨keep p.1 p.2 ne nf Ag e n,free p.1 p.2 Ag e n,ne,nf,d⟩
theorem Inv.un{t':Nat}(I:Inv X pins σ H s)(u:Un X.fs [] H H' s.heap h')(hok:ef X.prog X.w H' h'):Inv X pins σ H' { s with heap:=h',toks:=t' }:=by
 obtain⟨m,⟨o,es,ep,ho,r⟩,_⟩:=id I.loc;obtain⟨sl,hL⟩:=u.any ho I.free (by simp);exact I.step (g':=s.gens) (d':=s.drawn) (ch:=[]) (λ_ z=>nomatch z) (λb o _ hb _ e n=>u.keep b o e n hb (by simp)) (λb o _ hb _ e n=>u.slot b o e n hb (by simp)) (λb o _ e n=>u.free b o e n (by simp)) (λb o _ e=>u.there b o e (by simp)) u.tups u.kQ u.lY (λm' hm=>by
  obtain⟨o',es',ID,ho',r'⟩:=hm;rw[ho]at ho';cases ho';exact⟨_,es',ID,hL,r'⟩) hok I.bare
theorem Inv.call{g':Array GenState}{t':Nat}{d':Drawn}{ch:List Addr}(I:Inv X pins σ H s)(u:Un (frs X.stack) ch H H' s.heap h')(hok:ef X.prog X.w H' h')(hg:AllBare g')
  (hch:∀b∈ch,(b∈X.ex\/X.s₀.heap.objs.size<=b)/\b≠X.env.locals/\(∀x c,X.env.cells.lookup x=some c->c≠b)/\∀p∈X.pn++pins,p.1≠b) :
  Inv X pins σ H' { s with heap:=h',gens:=g',drawn:=d',toks:=t' }:=by
 obtain⟨m,⟨o,es,ep,ho,r⟩,_⟩:=id I.loc;obtain⟨sl,hL⟩:=u.any ho I.free λz=>(hch _ z).2.1 rfl;exact I.step (ch:=ch) hch (λb o hL hb hc e n=>u.keep b o e n (λz=>(List.mem_cons.mp (I.tO b z)).elim hL hb) hc) (λb o _ _ hc e n=>u.any e n hc) (λb o hc e n=>u.free b o e n hc) (λb o hc e=>u.there b o e hc) u.tups u.kQ u.lY (λm' hm=>by
  obtain⟨o',es',ID,ho',r'⟩:=hm;rw[ho]at ho';cases ho';exact⟨_,es',ID,hL,r'⟩) hok hg
theorem Inv.turned{t':Nat}{it:Addr}(I:Inv X pins σ H s)(k:∀b o,b≠it->s.heap.get? b=some o->h'.get? b=some o)(hn:H it=none)(hL:it≠X.env.locals)
  (h1:it∈X.ex\/X.s₀.heap.objs.size<=it) (h2:∀x c,X.env.cells.lookup x=some c->c≠it) (h3:∀p∈X.pn++pins,p.1≠it):Inv X pins σ H { s with heap:=h',toks:=t' }:=by
 have PU:∀b u,H b=some u->b≠it:=λb u e z=>by rw[z,hn]at e;cases e
 refine I.step (g':=s.gens) (d':=s.drawn) (ch:=[it]) (λb hb=>?_) (λb o _ _ hc e _=>k b o (λz=>hc (by simp[z])) e) (λb o _ _ hc e _=>⟨o.slots,k b o (λz=>hc (by simp[z])) e⟩) (λ_ _ _ _ n=>n)
  (λb o hc e=>⟨o,k b o (λz=>hc (by simp[z])) e⟩) (λ_ _ e=>e) (λ_ _ _ e=>e) (λb ps e=>⟨#[],by rw[e];simp⟩) (λm hm=>?_) (λb u e=>?_) I.bare
 .have e:b=it:=by simpa using hb
  subst e;exact⟨h1,hL,h2,h3⟩
 .obtain⟨o,es,ep,ho,r⟩:=hm;exact⟨o,es,ep,k _ o (Ne.symm hL) ho,r⟩
 .refine(I.hok b u e).stay (λc v hc q=>k c v ?_ q) (λ_ q=>q) λ_ _ q=>q;rcases hc with z|z
  .rw[z];exact PU b u e
  .exact PU c _ z
theorem Inv.tok(I:Inv X pins σ H s)(t:Nat):Inv X pins σ H { s with toks:=t }:=I.un (h':=s.heap) (t':=t) Un.refl I.hok
theorem Inv.kept{t':Nat}(I:Inv X pins σ H s)(k:∀b u,s.heap.get? b=some u->h'.get? b=some u):Inv X pins σ H { s with heap:=h',toks:=t' }:=I.un (Un.kept k) (I.hok.kept k)
theorem Inv.laid{a:Addr}{o:HO}{t':Nat}(I:Inv X pins σ H s)(k:∀b u,s.heap.get? b=some u->h'.get? b=some u)(hp:s.heap.objs.size<=a)(new:dj X.prog X.w (upd H a o) h' a o) :
  Inv X pins σ (upd H a o) { s with heap:=h',toks:=t' }:=I.un (Un.laid k hp (I.hok.fresh hp)) (I.hok.laid k hp new)
theorem Inv.write{x e:Addr}{o:HO}{t':Nat}(I:Inv X pins σ H s)(mu:Ad (H x))(he:e=x\/H e=some (.own x))(k:∀b u,b≠e->s.heap.get? b=some u->h'.get? b=some u)(wu:∃u,h'.get? e=some u)
  (new:dj X.prog X.w (upd H x o) h' x o):Inv X pins σ (upd H x o) { s with heap:=h',toks:=t' }:=I.un (Un.write mu he k wu) (I.hok.write mu he k wu new)
theorem Inv.wC{EE:List (Addr×Obj)}(I:Inv X pins σ H s)(h:∀p∈EE,s.heap.get? p.1=some p.2/\H p.1=none/\p.1≠X.env.locals/\p.1∉X.fs/\∀v,p.2.data≠.cell v):Inv X EE σ H s:=
 ⟨I.ok,I.os,I.bare,I.base,I.loc,I.cell,I.free,I.iK,λp hp=>(List.mem_append.mp hp).elim (λz=>I.pin p (List.mem_append_left _ z)) (h p),I.hok,I.len⟩
theorem tP{N:List Str}(hN:N.Nodup){i j:Nat}{x:Str}(a:N[i]?=some x)(b:N[j]?=some x):i=j:=by
 obtain⟨h1,e1⟩:=List.getElem?_eq_some_iff.mp a;obtain⟨h2,e2⟩:=List.getElem?_eq_some_iff.mp b;exact(List.getElem_inj hN).mp (e1.trans e2.symm)
theorem Ah{M:Model}{A:Around}{E:Value->Shared->Prop}{i:Nat}{x:Str}{v:V}{u:Value}{Q:Unit->Shared->Prop}(I:Inv X pins σ H s)(hN:X.N.Nodup)(hi:X.N[i]?=some x)(hx:Loc X.env.scope x)(r:RelV v u)
  (h:∀s',Inv X pins (σ.set i (some v)) H s'->(∃a,Heap.SameBut a s.heap s'.heap/\(a=X.env.locals\/X.env.cells.lookup x=some a))->Q () s') (hf:X.fn x=true\/X.env.scope.names.lookup x=some .local:=by first|exact .inl rfl|exact .inr rfl|assumption):wpAny M A (storeName X.env x u) Q E s:=by
 obtain⟨m,hn,hl⟩:=id I.loc;have hcls:(X.env.scope.kind==.class || (X.env.scope.kind==.module&&X.env.locals != X.env.globals))=false:=by rw[I.ok.kind];rfl
 have IE:i<σ.length:=by rw[I.len];exact(List.getElem?_eq_some_iff.mp hi).1
 have tN:=I.tN;have tracked:∀{a:Addr} {h':Heap},(∃o,s.heap.get? a=some o/\H a=none)->Heap.SameBut a s.heap h'->ef X.prog X.w H h':=λ{a h'} ha hs b ob e=>by
  obtain⟨_,_,hfree⟩:=ha;refine(I.hok b ob e).stay (λc w' hc q=>(hs.2 c ?_).trans q) (λ_ q=>q) λ_ _ q=>q;rintro rfl;rcases hc with rfl|hc
  .rw[hfree]at e;cases e
  .rw[hfree]at hc;cases hc
 rcases hx with hk|hk
 .refine wpAny_storeName_local hk hn (λh' hn' hs=>?_) hcls;obtain⟨oL,_,_,Uc,_⟩:=id hn;refine h _ ⟨I.ok,I.os,I.bare,⟨λb o e n hb hx=>?_,λb o e n hb hx=>?_,I.base.free,λb o e hx=>?_,I.base.tups,I.base.kQ,I.base.lY⟩,⟨_,hn',λj y v' e1 e2 e3=>?_⟩,λy c e=>?_,I.free,I.iK,λp hp=>?_,tracked ⟨oL,Uc,I.free⟩ hs,by simpa using I.len⟩ ⟨_,hs,.inl rfl⟩
  .exact(hs.2 b (Nat.ne_of_lt (Nat.lt_of_lt_of_le (Heap.lt_size e) I.ok.above))).trans (I.base.keep b o e n hb hx)
  .obtain⟨sl,e1⟩:=I.base.slot b o e n hb hx;exact⟨sl,(hs.2 b (Nat.ne_of_lt (Nat.lt_of_lt_of_le (Heap.lt_size e) I.ok.above))).trans e1⟩
  .obtain⟨o',e1⟩:=I.base.there b o e hx;exact⟨o',(hs.2 b (Nat.ne_of_lt (Nat.lt_of_lt_of_le (Heap.lt_size e) I.ok.above))).trans e1⟩
  .by_cases hj:j=i
   .subst hj;rw[hi]at e1;cases e1;rw[List.getElem?_set_self IE]at e2;cases e2;exact⟨u,r,.inl ⟨hk,by simp⟩⟩
   .rw[List.getElem?_set_ne (Ne.symm hj)]at e2;obtain⟨u',r',q⟩:=hl j y v' e1 e2 e3;refine⟨u',r',?_⟩;rcases q with ⟨k,e⟩|⟨k,c,e,z⟩
    .refine .inl ⟨k,?_⟩;have:y≠x:=λe=>hj (tP hN e1 (e▸hi));simp[this,e]
    .exact .inr ⟨k,c,e,z.sameBut hs (tN y c e)⟩
  .obtain⟨w',z⟩:=I.cell y c e;exact⟨w',z.sameBut hs (tN y c e)⟩
  .obtain⟨e,n,ne,nf,d⟩:=I.pin p hp;exact⟨(hs.2 p.1 ne).trans e,n,ne,nf,d⟩
 .have hfn:X.fn x=true:=by
   rcases hf with z|z
   .exact z
   .rw[z]at hk;cases hk
  obtain⟨c,hc⟩:=I.ok.has x (.inl hk);obtain⟨w',z⟩:=I.cell x c hc;refine wpAny_storeName_cell I.ok.kind hk hc z (λh' hc' hs=>?_);obtain⟨oc,hoc,RQ⟩:=id z;refine h { s with heap:=h' } ⟨I.ok,I.os,I.bare,⟨λb o e n hb hx=>?_,λb o e n hb hx=>?_,I.base.free,λb o e hx=>?_,I.base.tups,I.base.kQ,I.base.lY⟩,⟨m,hn.sameBut hs (Ne.symm (tN x c hc)),λj y v' e1 e2 e3=>?_⟩,λy c' e=>?_,I.free,I.iK,λp hp=>?_,tracked ⟨oc,hoc,I.iK x c hc⟩ hs,by simpa using I.len⟩ ⟨c,hs,.inr hc⟩
  .exact(hs.2 b (Nat.ne_of_lt (Nat.lt_of_lt_of_le (Heap.lt_size e) (I.ok.wz x c hfn hc)))).trans (I.base.keep b o e n hb hx)
  .obtain⟨sl,e1⟩:=I.base.slot b o e n hb hx;exact⟨sl,(hs.2 b (Nat.ne_of_lt (Nat.lt_of_lt_of_le (Heap.lt_size e) (I.ok.wz x c hfn hc)))).trans e1⟩
  .obtain⟨o',e1⟩:=I.base.there b o e hx;exact⟨o',(hs.2 b (Nat.ne_of_lt (Nat.lt_of_lt_of_le (Heap.lt_size e) (I.ok.wz x c hfn hc)))).trans e1⟩
  .by_cases hj:j=i
   .subst hj;rw[hi]at e1;cases e1;rw[List.getElem?_set_self IE]at e2;cases e2;exact⟨u,r,.inr ⟨.inl hk,c,hc,hc'⟩⟩
   .rw[List.getElem?_set_ne (Ne.symm hj)]at e2;obtain⟨u',r',q⟩:=hl j y v' e1 e2 e3;refine⟨u',r',?_⟩;rcases q with q|⟨k,c',e,z'⟩
    .exact .inl q
    .refine .inr ⟨k,c',e,z'.sameBut hs ?_⟩;rintro rfl;exact hj (tP hN e1 (I.ok.inj _ _ _ e hc▸hi))
  .by_cases hcc:c'=c
   .subst hcc;exact⟨_,hc'⟩
   .obtain⟨w2,z2⟩:=I.cell y c' e;exact⟨w2,z2.sameBut hs hcc⟩
  .obtain⟨e,n,ne,nf,d⟩:=I.pin p hp;refine⟨(hs.2 p.1 ?_).trans e,n,ne,nf,d⟩;intro q;rw[q,hoc]at e;have q':oc=p.2:=Option.some.inj e;exact d w' (by rw[<-q'];exact RQ)
theorem tQ{M:Model}{A:Around}{E:Value->Shared->Prop}{i:Nat}{x:Str}{v:V}{u:Value}{Q:Unit->Shared->Prop}(I:Inv X pins σ H s)(hN:X.N.Nodup)(hi:X.N[i]?=some x)(hx:Loc X.env.scope x)(r:RelV v u)
  (h:∀s',Inv X pins (σ.set i (some v)) H s'->Q () s') (hf:X.fn x=true\/X.env.scope.names.lookup x=some .local:=by first|exact .inl rfl|exact .inr rfl|assumption):wpAny M A (storeName X.env x u) Q E s:=
 Ah I hN hi hx r (λs' I' _=>h s' I') hf
theorem Inv.Nn{s':Shared}{ch:List Addr}(I:Inv X pins σ H s)(ho:s'.os=s.os)(u:Un (frs X.stack) ch H H' s.heap s'.heap)(hok:ef X.prog X.w H' s'.heap)(hg:AllBare s'.gens)
  (hch:∀b∈ch,(b∈X.ex\/X.s₀.heap.objs.size<=b)/\b≠X.env.locals/\(∀x c,X.env.cells.lookup x=some c->c≠b)/\∀p∈X.pn++pins,p.1≠b):Inv X pins σ H' s':=by
 obtain⟨h',g',d',t',o'⟩:=s';have e:o'=s.os:=ho;subst e;exact I.call (g':=g') (t':=t') (d':=d') u hok hg hch
end
abbrev XK:=Value->Option Addr->Hp->Prop
abbrev St:=List (Option V)
abbrev VK:=V->Hp->Prop
abbrev TE:=St->Hp->VK->Prop
abbrev TT:=St->Hp->(Bool->Hp->Prop)->Prop
abbrev TA:=St->Hp->(List V->Hp->Prop)->Prop
structure Ends where
 nx:St->Hp->Prop
 rt:VK
 bk:St->Hp->Prop:=λ_ _=>False
 ct:St->Hp->Prop:=λ_ _=>False
abbrev TS:=Ends->St->Hp->Prop
noncomputable def EP(X:Cx)(pins:List (Addr×Obj))(σ:St)(Q:VK)(u:Value)(s':Shared):Prop:=∃v H',Inv X pins σ H' s'/\RelV v u/\Q v H'
noncomputable def TP(X:Cx)(pins:List (Addr×Obj))(σ:St)(Q:Bool->Hp->Prop)(b:Bool)(s':Shared):Prop:=∃H',Inv X pins σ H' s'/\Q b H'
noncomputable def AP(X:Cx)(pins:List (Addr×Obj))(σ:St)(Q:List V->Hp->Prop)(us:List Value)(s':Shared):Prop:=∃vs H',Inv X pins σ H' s'/\Vals vs us/\Q vs H'
noncomputable def SP(X:Cx)(pins:List (Addr×Obj))(D:Ends)(f:Flow)(s':Shared):Prop:=
 match f with
 |.next=>∃σ' H',Inv X pins σ' H' s'/\D.nx σ' H'
 |.brk=>∃σ' H',Inv X pins σ' H' s'/\D.bk σ' H'
 |.cont=>∃σ' H',Inv X pins σ' H' s'/\D.ct σ' H'
 |.ret u=>∃v σ' H',Inv X pins σ' H' s'/\RelV v u/\D.rt v H'
noncomputable def PE(X:Cx)(e:Expr)(t:TE):Prop:=
 ∀(pins:List (Addr×Obj)) (s:Shared) (σ:St) (H:Hp) (Q:VK),Inv X pins σ H s->t σ H Q->wpAny (model X.prog X.w) X.A (eval e X.env) (EP X pins σ Q) X.xe s
noncomputable def PT(X:Cx)(e:Expr)(t:TT):Prop:=
 ∀(pins:List (Addr×Obj)) (s:Shared) (σ:St) (H:Hp) (Q:Bool->Hp->Prop),Inv X pins σ H s->t σ H Q->wpAny (model X.prog X.w) X.A (isTrue e X.env (eval e X.env)) (TP X pins σ Q) X.xe s
noncomputable def PW(X:Cx)(e:Expr)(t:TT):Prop:=
 ∀(whole:Sem Value) (pins:List (Addr×Obj)) (s:Shared) (σ:St) (H:Hp) (Q:Bool->Hp->Prop),Inv X pins σ H s->t σ H Q->wpAny (model X.prog X.w) X.A (isTrue e X.env whole) (TP X pins σ Q) X.xe s
theorem PW.pt{X:Cx}{e:Expr}{t:TT}(h:PW X e t):PT X e t:=h _
noncomputable def PA(X:Cx)(es:List Expr)(t:TA):Prop:=
 ∀(pos:Pos) (pins:List (Addr×Obj)) (s:Shared) (σ:St) (H:Hp) (Q:List V->Hp->Prop),Inv X pins σ H s->t σ H Q->wpAny (model X.prog X.w) X.A (spliced (backTo pos (starEach es X.env))) (AP X pins σ Q) X.xe s
noncomputable def PS(X:Cx)(st:Stmt)(t:TS):Prop:=
 ∀(pins:List (Addr×Obj)) (s:Shared) (σ:St) (H:Hp) (D:Ends),Inv X pins σ H s->t D σ H->wpAny (model X.prog X.w) X.A (exec st X.env) (SP X pins D) X.xe s
noncomputable def gU(X:Cx)(st:List Stmt)(t:TS):Prop:=
 ∀(pins:List (Addr×Obj)) (s:Shared) (σ:St) (H:Hp) (D:Ends),Inv X pins σ H s->t D σ H->wpAny (model X.prog X.w) X.A (execs st X.env) (SP X pins D) X.xe s
theorem bB{α:Type}{t:Sem α}{Q Q':α->Shared->Prop}{M:Model}{A:Around}{E:Value->Shared->Prop}{s:Shared}(h:wpAny M A t Q E s)(hQ:∀a s,Q a s->Q' a s):wpAny M A t Q' E s:=wpAny_mono h hQ λ_ _ x=>x
end L2
namespace L2
open PySem PySem.Spec PyProof.Rows
section
variable{X:Cx}
theorem bin{a b:Expr}{ta tb:TE}(ha:PE X a ta)(hb:PE X b tb){pins:List (Addr×Obj)}{s:Shared}{σ:St}{H:Hp}{R:V->V->Hp->Prop}(I:Inv X pins σ H s)(h:ta σ H λx H1=>tb σ H1 λy H2=>R x y H2)
  {α:Type} {Q:α->Shared->Prop} {f:Value->Value->Sem α}
  (hf:∀v u s2 x y H2,Inv X pins σ H2 s2->RelV x v->RelV y u->R x y H2->wpAny (model X.prog X.w) X.A (f v u) Q X.xe s2) :
  wpAny (model X.prog X.w) X.A (eval a X.env) (λv s₁=>wpAny (model X.prog X.w) X.A (eval b X.env) (λu s₂=>wpAny (model X.prog X.w) X.A (f v u) Q X.xe s₂) X.xe s₁) X.xe s:=by
 refine bB (ha pins s σ H _ I h) λv s1 ⟨x,H1,I1,r1,q1⟩=>?_;refine bB (hb pins s1 σ H1 _ I1 q1) λu s2 ⟨y,H2,I2,r2,q2⟩=>?_;exact hf v u s2 x y H2 I2 r1 r2 q2
noncomputable def IF(i:Nat):TE:=λσ H Q=>∃v,σ[i]?=some (some v)/\Q v H
noncomputable def tC(v:V):TE:=λ_ H Q=>Q v H
theorem Ai {i:Nat}{x:Str}{pos:Pos}(hN:X.N[i]?=some x) (hv:Af X.env.scope x) (hd:(x==("__debug__" : Str))=false:=by decide) (hcd:(x==("__classdict__" : Str))=false:=by decide):PE X (.Name x pos) (IF i):=by
 intro pins s σ H Q I h;obtain⟨v,e,h⟩:=h;obtain⟨m,hn,hl⟩:=I.loc;obtain⟨u,r,l⟩:=hl i x v hN e hv;have fin:EP X pins σ Q u s:=⟨v,H,I,r,h⟩
 rcases l with ⟨hk,hm⟩|⟨hk,c,hc,hcell⟩
 .exact wpAny_Name (wpAny_loadName_local I.ok.kind hk hn hm fin) hd
 .rcases hk with hk|hk
  .exact wpAny_Name (wpAny_loadName_cell I.ok.kind hk hc hcell fin) hd
  .exact wpAny_Name (wpAny_loadName_free I.ok.kind hk hc hcell fin hcd) hd
theorem IG{i j pos}:PE X (.Constant (.int i) j pos) (tC (.int i)):=λ_ _ _ H _ I h=>wpAny_Constant_int ⟨.int i,H,I.tok _,⟨_,rfl⟩,h⟩
theorem Np{b j pos}:PE X (.Constant (.bool b) j pos) (tC (.bl b)):=λ_ _ _ H _ I h=>Constant_bool ⟨.bl b,H,I,rfl,h⟩
theorem II{j pos}:PE X (.Constant .none j pos) (tC .aG):=λ_ _ _ H _ I h=>Constant_none ⟨.aG,H,I,rfl,h⟩
theorem IJ{x j pos}:PE X (.Constant (.str x) j pos) (tC (.str x)):=λ_ _ _ H _ I h=>Calls.Constant_str ⟨.str x,H,I.tok _,⟨_,rfl⟩,h⟩
noncomputable def Gl(X:Cx)(x:Str):Prop:=X.env.kindOf x=some .globalImplicit
theorem wD{E:Value->Shared->Prop}{pins:List (Addr×Obj)}{s:Shared}{σ:St}{H:Hp}{x:Str}{u:Value}{pos:Pos}{Q:Value->Shared->Prop}(I:Inv X pins σ H s)(hg:Gl X x)(hm:X.mg x=some u)(h:Q u s)
  (hd:(x==("__debug__" : Str))=false:=by decide):wpAny (model X.prog X.w) X.A (eval (.Name x pos) X.env) Q E s:=
 Calls.Name_function_global I.ok.kind hg (Calls.loadGlobal_global (by rw[I.ok.glob];exact I.mod.glob.keeps I.bk) hm h) hd
theorem lZ{E:Value->Shared->Prop}{pins:List (Addr×Obj)}{s:Shared}{σ:St}{H:Hp}{x:Str}{u:Value}{pos:Pos}{Q:Value->Shared->Prop}(I:Inv X pins σ H s)(hg:Gl X x)(hm:X.mg x=none)(hv:bootBuiltins x=some u)(h:Q u s)
  (hn:x≠"__name__" :=by decide) (hd:(x==("__debug__" : Str))=false:=by decide):wpAny (model X.prog X.w) X.A (eval (.Name x pos) X.env) Q E s:=by
 obtain⟨mb,h1,h2⟩:=I.mod.blt;exact Calls.Name_function_global I.ok.kind hg (Calls.loadGlobal_builtin (by rw[I.ok.glob];exact I.mod.glob.keeps I.bk) hm (by rw[I.ok.blt];exact h1.keeps I.bk) ((h2 x hn).trans hv) h) hd
theorem wF {x:Str}{v:V}{u:Value}{pos:Pos}(hg:Gl X x) (hm:X.mg x=some u) (r:RelV v u) (hd:(x==("__debug__" : Str))=false:=by decide):PE X (.Name x pos) (tC v):=
 λ_ _ _ H _ I h=>wD I hg hm ⟨v,H,I,r,h⟩ hd
variable{a b:Expr}{ta tb:TE}{pos:Pos}
variable{tA EF:TT}{rest:List Expr}
noncomputable def RS(t u:TT):TT:=λσ H Q=>t σ H λc H1=>if c=true then u σ H1 Q else Q false H1
noncomputable def Ud(t u:TT):TT:=λσ H Q=>t σ H λc H1=>if c=true then Q true H1 else u σ H1 Q
noncomputable def RT(t:TT):TT:=λσ H Q=>t σ H λc H1=>Q (!c) H1
theorem Gd(ha:PT X a tA):PW X (.BoolOp .And [a] pos) tA:=by
 intro wh pins s σ H Q I h;refine isTrue_and (bB (ha pins s σ H Q I h) λc s1 e=>?_);cases c with
 |true=>exact isTrue_and_nil e
 |false=>exact e
theorem IK(ha:PT X a tA):PW X (.BoolOp .Or [a] pos) tA:=by
 intro wh pins s σ H Q I h;refine isTrue_or (bB (ha pins s σ H Q I h) λc s1 e=>?_);cases c with
 |false=>exact isTrue_or_nil e
 |true=>exact e
theorem IL(ha:PT X a tA)(hb:PW X (.BoolOp .And (b :: rest) pos) EF):PW X (.BoolOp .And (a :: b :: rest) pos) (RS tA EF):=by
 intro wh pins s σ H Q I h;refine isTrue_and (bB (ha pins s σ H _ I h) λc s1 ⟨H1,I1,q1⟩=>?_);cases c with
 |true=>exact hb wh pins s1 σ H1 Q I1 q1
 |false=>exact⟨H1,I1,q1⟩
theorem Nq(ha:PT X a tA)(hb:PW X (.BoolOp .Or (b :: rest) pos) EF):PW X (.BoolOp .Or (a :: b :: rest) pos) (Ud tA EF):=by
 intro wh pins s σ H Q I h;refine isTrue_or (bB (ha pins s σ H _ I h) λc s1 ⟨H1,I1,q1⟩=>?_);cases c with
 |true=>exact⟨H1,I1,q1⟩
 |false=>exact hb wh pins s1 σ H1 Q I1 q1
theorem IM(ha:PT X a tA):PT X (.UnaryOp .Not a pos) (RT tA):=by
 intro pins s σ H Q I h;exact isTrue_not (ha pins s σ H (λc H1=>Q (!c) H1) I h)
noncomputable def Nr(ta tb:TE):TE:=λσ H Q=>ta σ H λx H1=>∃c,x=.bl c/\if c=true then tb σ H1 Q else Q (.bl false) H1
theorem IP{op}{t:TE}(h:PE X a t):PE X (.BoolOp op [a] pos) t:=λpins s σ H Q I hw=>BoolOp_one (h pins s σ H Q I hw)
theorem IQ(ha:PE X a ta)(hb:PE X (.BoolOp .And (b :: rest) pos) tb):PE X (.BoolOp .And (a :: b :: rest) pos) (Nr ta tb):=by
 intro pins s σ H Q I h;refine BoolOp_and (bB (ha pins s σ H _ I h) λv s1 ⟨x,H1,I1,r1,q1⟩=>?_);obtain⟨c,rfl,q1⟩:=q1;cases r1;refine wpAny_truthy_bool ?_;cases c with
 |true=>exact hb pins s1 σ H1 Q I1 q1
 |false=>exact⟨.bl false,H1,I1,rfl,q1⟩
noncomputable def Ue(t:TT)(ta tb:TE):TE:=λσ H Q=>t σ H λc H1=>if c=true then ta σ H1 Q else tb σ H1 Q
theorem Cs{c:Expr}(hc:PT X c tA)(ha:PE X a ta)(hb:PE X b tb):PE X (.IfExp c a b pos) (Ue tA ta tb):=by
 intro pins s σ H Q I h;refine wpAny_IfExp (bB (hc pins s σ H _ I h) λd s1 ⟨H1,I1,q1⟩=>?_);cases d with
 |true=>exact ha pins s1 σ H1 Q I1 q1
 |false=>exact hb pins s1 σ H1 Q I1 q1
end
end L2
namespace L2
open PySem PySem.Spec PyProof.Rows
noncomputable def eY(K:PySem.W.Frag)(H:Hp)(a:Addr)(xs:List V):Prop:=
 Rd H a (.lst xs)\/
  ∃(o:Obj) (its:Array Value) (n:Nat),K.lookup a=some o/\o.cls=.type "list" /\o.dict=none/\o.data=.seq its n/\its.size<=sizeLine/\Vals xs its.toList
noncomputable def dm(K:PySem.W.Frag)(H:Hp)(a:Addr)(xs:List V):Prop:=
 Rd H a (.tup xs)\/
  ∃(o:Obj) (its:Array Value) (n:Nat),K.lookup a=some o/\o.cls=.type "tuple" /\o.data=.seq its n/\its.size<=sizeLine/\Vals xs its.toList
noncomputable def RU:Value->Option V
 |.none=>some .aG
 |.bool b=>some (.bl b)
 |.int i _=>some (.int i)
 |.str x _=>some (.str x)
 |.bytes b _=>some (.Ab b)
 |.float b _=>some (.Ac b)
 |.ref a=>some (.ref a)
 |.type n=>some (.ty n)
 |_=>none
theorem RelV.abs{x:V}{u:Value}(r:RelV x u):RU u=some x:=by
 cases x with
 |aG=>cases r;rfl
 |bl _=>cases r;rfl
 |int _=>obtain⟨t,rfl⟩:=r;rfl
 |str _=>obtain⟨t,rfl⟩:=r;rfl
 |Ab _=>obtain⟨t,rfl⟩:=r;rfl
 |Ac _=>obtain⟨t,rfl⟩:=r;rfl
 |ref _=>cases r;rfl
 |ty _=>cases r;rfl
theorem RelV.inj{x y:V}{u:Value}(r:RelV x u)(q:RelV y u):x=y:=Option.some.inj (r.abs.symm.trans q.abs)
theorem Vals.inj:∀{xs ys:List V}{us:List Value},Vals xs us->Vals ys us->xs=ys
 |_,_,_,.nil,.nil=>rfl
 |_,_,_,.cons r t,.cons r' t'=>by rw[r.inj r',Vals.inj t t']
section
variable{X:Cx}{pins:List (Addr×Obj)}{σ:St}{H:Hp}{s:Shared}{a:Addr}{xs ys:List V}
theorem eY.of{K:PySem.W.Frag}(h:H a=some (.lst xs)):eY K H a xs:=.inl (.inl h)
theorem dm.of{K:PySem.W.Frag}(h:H a=some (.tup xs)):dm K H a xs:=.inl (.inl h)
theorem Inv.list(I:Inv X pins σ H s)(h:eY X.K H a xs):∃its:List Value,Vals xs its/\PlainL s.heap a its.toArray/\xs.length<=sizeLine:=by
 rcases h with h|⟨o,its,n,hk,hc,hd,hs,hz,r⟩
 .obtain⟨z,its,n,r,e⟩:=h.ok I.hok;exact⟨its,r,⟨_,n,e,rfl,rfl,rfl⟩,z⟩
 .refine⟨its.toList,r,⟨o,n,I.qW a o hk,hc,hd,by simpa using hs⟩,?_⟩;have e:=r.length;simp only[Array.length_toList]at e;omega
theorem Inv.tuple(I:Inv X pins σ H s)(h:dm X.K H a xs):∃its:List Value,Vals xs its/\IsTup s.heap a its.toArray/\xs.length<=sizeLine:=by
 rcases h with h|⟨o,its,n,hk,hc,hs,hz,r⟩
 .obtain⟨z,its,r,p⟩:=h.ok I.hok;exact⟨its,r,p,z⟩
 .refine⟨its.toList,r,⟨o,I.qW a o hk,hc,n,by simpa using hs⟩,?_⟩;have e:=r.length;simp only[Array.length_toList]at e;omega
theorem Inv.Ct(I:Inv X pins σ H s)(h:eY X.K H a xs)(h':eY X.K H a ys):xs=ys:=by
 obtain⟨its,r,⟨o,n,e,_,_,d⟩,_⟩:=I.list h;obtain⟨its',r',⟨o',n',e',_,_,d'⟩,_⟩:=I.list h';rw[e]at e';cases e';rw[d]at d';injection d' with d1 _
 have:its=its':=by simpa using congrArg Array.toList d1
 subst this;exact r.inj r'
theorem Inv.mh(I:Inv X pins σ H s)(h:dm X.K H a xs)(h':dm X.K H a ys):xs=ys:=by
 obtain⟨its,r,⟨o,e,_,n,d⟩,_⟩:=I.tuple h;obtain⟨its',r',⟨o',e',_,n',d'⟩,_⟩:=I.tuple h';rw[e]at e';cases e';rw[d]at d';injection d' with d1 _
 have:its=its':=by simpa using congrArg Array.toList d1
 subst this;exact r.inj r'
end
abbrev Cx.kc(X:Cx)(E:Value->Shared->Prop):Cx:={ X with xe:=E }
abbrev Cx.qX(X:Cx):Cx:=X.kc λ_ _=>False
theorem Cx.Ok.kc{X:Cx}(ok:X.Ok)(E:Value->Shared->Prop):(X.kc E).Ok:=
 ⟨ok.mod,ok.kind,ok.glob,ok.blt,ok.above,ok.inj,ok.has,ok.wz,ok.hd,ok.frames,ok.stk,ok.EC,ok.bs,ok.qV,ok.ql,ok.qm,ok.iX,ok.tM⟩
theorem Cx.Ok.iQ{X:Cx}{E:Value->Shared->Prop}(ok:(X.kc E).Ok):X.Ok:=
 ⟨ok.mod,ok.kind,ok.glob,ok.blt,ok.above,ok.inj,ok.has,ok.wz,ok.hd,ok.frames,ok.stk,ok.EC,ok.bs,ok.qV,ok.ql,ok.qm,ok.iX,ok.tM⟩
section
variable{X:Cx}{pins:List (Addr×Obj)}{σ:St}{H:Hp}{s:Shared}{E:Value->Shared->Prop}
theorem Inv.kc(I:Inv X pins σ H s)(E:Value->Shared->Prop):Inv (X.kc E) pins σ H s:=⟨I.ok.kc E,I.os,I.bare,I.base,I.loc,I.cell,I.free,I.iK,I.pin,I.hok,I.len⟩
theorem Inv.iQ(I:Inv (X.kc E) pins σ H s):Inv X pins σ H s:=⟨I.ok.iQ,I.os,I.bare,I.base,I.loc,I.cell,I.free,I.iK,I.pin,I.hok,I.len⟩
theorem SP.iQ{D:Ends}{f:Flow}{s':Shared}(h:SP (X.kc E) pins D f s'):SP X pins D f s':=by
 cases f with
 |next=>obtain⟨σ',H',I,q⟩:=h;exact⟨σ',H',I.iQ,q⟩
 |brk=>obtain⟨σ',H',I,q⟩:=h;exact⟨σ',H',I.iQ,q⟩
 |cont=>obtain⟨σ',H',I,q⟩:=h;exact⟨σ',H',I.iQ,q⟩
 |ret u=>obtain⟨v,σ',H',I,r,q⟩:=h;exact⟨v,σ',H',I.iQ,r,q⟩
theorem gU.qX{st:List Stmt}{t:TS}(h:gU X.qX st t):gU X st t:=λpins s σ H D I hw=>
 wpAny_mono (h pins s σ H D (I.kc _) hw) (λ_ _ q=>q.iQ) λ_ _ z=>False.elim z
end
section
variable{X:Cx}{st:Stmt}{rest:List Stmt}{t u:TS}{e:Expr}{te:TE}{pos:Pos}
noncomputable def Nt:TS:=λD σ H=>D.nx σ H
noncomputable def RW(t u:TS):TS:=λD σ H=>t { D with nx:=u D } σ H
theorem Ge:gU X [] Nt:=λ_ _ σ H _ I h=>wpAny_execs_nil ⟨σ,H,I,h⟩
theorem Cu(h1:PS X st t)(h2:gU X rest u):gU X (st :: rest) (RW t u):=by
 intro pins s σ H D I h;refine wpAny_execs_cons (bB (h1 pins s σ H { D with nx:=u D } I h) λf s1 q=>?_);cases f with
 |next=>
  obtain⟨σ',H',I',q⟩:=q;exact h2 pins s1 σ' H' D I' q
 |ret v=>exact q
 |brk=>exact q
 |cont=>exact q
theorem Inv.quiet{pins:List (Addr×Obj)}{σ:St}{H:Hp}{s:Shared}(I:Inv X pins σ H s):interactive X.env=false:=by simp[interactive,I.ok.kind]
noncomputable def Nu(te:TE):TS:=λD σ H=>te σ H λ_ H1=>D.nx σ H1
theorem wG(he:PE X e te)(hs:swapsWith e none pos.line X.env=pure false:=by rfl):PS X (.Expr e pos) (Nu te):=by
 intro pins s σ H D I h;exact wpAny_Expr_any (bB (he pins s σ H _ I h) λv s1 ⟨x,H1,I1,r1,q1⟩=>⟨σ,H1,I1,q1⟩) I.quiet hs
noncomputable def RX(te:TE):TS:=λD σ H=>te σ H D.rt
theorem IS(he:PE X e te):PS X (.Return (some e) pos) (RX te):=by
 intro pins s σ H D I h;exact wpAny_Return_some (bB (he pins s σ H _ I h) λv s1 ⟨x,H1,I1,r1,q1⟩=>⟨x,σ,H1,I1,r1,q1⟩)
noncomputable def RY(c:TT)(t u:TS):TS:=λD σ H=>c σ H λb H1=>if b=true then t D σ H1 else u D σ H1
theorem Nv{c:Expr}{a b:List Stmt}{tc:TT}(hc:PT X c tc)(ha:gU X a t)(hb:gU X b u):PS X (.If c a b pos) (RY tc t u):=by
 intro pins s σ H D I h;refine wpAny_If (bB (hc pins s σ H _ I h) λd s1 ⟨H1,I1,q1⟩=>?_);cases d with
 |true=>exact ha pins s1 σ H1 D I1 q1
 |false=>exact hb pins s1 σ H1 D I1 q1
noncomputable def IT:TS:=λ_ _ _=>False
theorem Cv:PS X st IT:=λ_ _ _ _ _ _ h=>h.elim
end
abbrev TG:=V->St->Hp->(St->Hp->Prop)->Prop
abbrev qY:=List V->St->Hp->(St->Hp->Prop)->Prop
noncomputable def PG(X:Cx)(target:Expr)(t:TG):Prop:=
 ∀(pins:List (Addr×Obj)) (s:Shared) (σ:St) (H:Hp) (v:V) (u:Value) (Q:St->Hp->Prop),Inv X pins σ H s->RelV v u->t v σ H Q->
  wpAny (model X.prog X.w) X.A (assign target X.env u) (λ_ s'=>∃σ' H',Inv X pins σ' H' s'/\Q σ' H') X.xe s
noncomputable def nU(X:Cx)(ts:List Expr)(t:qY):Prop:=
 ∀(pins:List (Addr×Obj)) (s:Shared) (σ:St) (H:Hp) (vs:List V) (us:List Value) (Q:St->Hp->Prop),Inv X pins σ H s->Vals vs us->t vs σ H Q->
  wpAny (model X.prog X.w) X.A (assignInOrder ((assignEach ts X.env).map (·.2)) us) (λ_ s'=>∃σ' H',Inv X pins σ' H' s'/\Q σ' H') X.xe s
section
variable{X:Cx}{pos:Pos}
noncomputable def EG(i:Nat):TG:=λv σ H Q=>Q (σ.set i (some v)) H
theorem wH{i:Nat}{x:Str}(hN:X.N.Nodup)(hi:X.N[i]?=some x)(hx:Loc X.env.scope x)(hf:X.fn x=true\/X.env.scope.names.lookup x=some .local:=by first|exact .inl rfl|exact .inr rfl|assumption):PG X (.Name x pos) (EG i):=by
 intro pins s σ H v u Q I r h;exact wpAny_assign_Name (tQ I hN hi hx r (λs' I'=>⟨_,H,I',h⟩) hf)
noncomputable def RZ:qY:=λvs σ H Q=>vs=[]/\Q σ H
noncomputable def Nx(t:TG)(u:qY):qY:=λvs σ H Q=>∃v r,vs=v :: r/\t v σ H λσ' H'=>u r σ' H' Q
theorem Gf:nU X [] RZ:=by
 intro pins s σ H vs us Q I r h;obtain⟨e,h⟩:=h;subst e;cases r;exact assignInOrder_nil ⟨σ,H,I,h⟩
theorem Cw{e:Expr}{es:List Expr}{t:TG}{u:qY}(h1:PG X e t)(h2:nU X es u)
  (hs:(assignEach (e :: es) X.env).map (·.2)=assign e X.env :: (assignEach es X.env).map (·.2):=by rfl):nU X (e :: es) (Nx t u):=by
 intro pins s σ H vs us Q I r h;obtain⟨v,vr,e1,h⟩:=h;subst e1;cases r with
 |cons r rr=>
  rw[hs];refine assignInOrder_cons (bB (h1 pins s σ H _ _ _ I r h) λ_ s1 ⟨σ1,H1,I1,q1⟩=>?_);exact h2 pins s1 σ1 H1 _ _ Q I1 rr q1
noncomputable def R0(K:PySem.W.Frag)(n:Nat)(t:qY):TG:=λv σ H Q=>∃a xs,v=.ref a/\dm K H a xs/\xs.length=n/\t xs σ H Q
theorem IU{es:List Expr}{k:Nat}{t:qY}{n:Nat}(hc:X.calm=true)(h:nU X es t)
  (hn:(assignEach es X.env).length=n:=by rfl) (hst:(assignEach es X.env).findIdx? (·.1)=none:=by rfl):PG X (.Tuple es k pos) (R0 X.K n t):=by
 intro pins s σ H v u Q I r hw;obtain⟨a,xs,e1,hq,hl,hw⟩:=hw;subst e1;cases r;obtain⟨its,rv,ht,hz⟩:=I.tuple hq;refine assign_Tuple_tuple (I.ok.hd hc) ht (by simp[hn,<-hl,rv.length]) hst λh' hx=>?_;have I1:Inv X pins σ H { s with heap:=h' }:=I.kept (t':=s.toks) λb o e=>hx b o (Nat.ne_of_lt (Heap.lt_size e)) e;exact h pins _ σ H xs _ Q I1 (by simpa using rv) hw
noncomputable def R1(te:TE)(g:TG):TS:=λD σ H=>te σ H λx H1=>g x σ H1 D.nx
theorem IV{i:Nat}{x:Str}{e:Expr}{te:TE}{pos':Pos}(hN:X.N.Nodup)(hi:X.N[i]?=some x)(hx:Loc X.env.scope x)(he:PE X e te)(hs:swapsWith e (some (.Name x pos')) pos.line X.env=pure false:=by rfl)(hf:X.fn x=true\/X.env.scope.names.lookup x=some .local:=by first|exact .inl rfl|exact .inr rfl|assumption) :
  PS X (.Assign [.Name x pos'] e pos) (R1 te (EG i)):=by
 intro pins s σ H D I h;refine wpAny_Assign_Name (bB (he pins s σ H _ I h) λv s1 ⟨y,H1,I1,r1,q1⟩=>?_) hs;exact tQ I1 hN hi hx r1 (λs2 I2=>⟨_,H1,I2,q1⟩) hf
end
section
variable{X:Cx}{pos:Pos}
noncomputable def IW(c:TT)(tb:TS):TS:=λD σ H=>∃W:Nat->St->Hp->Prop,(∃m,W m σ H)/\∀m σ H,W m σ H->
 c σ H λb H1=>if b=true then ∃N:St->Hp->Prop,(∀σ' H',N σ' H'->∃m',m'<m/\W m' σ' H')/\tb { D with nx:=N,ct:=N,bk:=D.nx } σ H1 else D.nx σ H1
theorem Cy{c:Expr}{body:List Stmt}{tc:TT}{tb:TS}(hp:PassesOwn (model X.prog X.w) X.A X.env X.xe)(hc:PT X c tc)(hb:gU X body tb):PS X (.While c body [] pos) (IW tc tb):=by
 intro pins s σ H D I h;obtain⟨W,⟨m0,w0⟩,turn⟩:=h;refine wpAny_While (codeAny_whileLoop (λn s'=>∃σ' H',Inv X pins σ' H' s'/\W n σ' H') ?_ m0 ⟨σ,H,I,w0⟩);rintro n s1 ⟨σ1,H1,I1,w1⟩;refine wpAny_passesOwn hp (bB (hc pins s1 σ1 H1 _ I1 (turn n σ1 H1 w1)) λb s2 ⟨H2,I2,q2⟩=>?_);cases b with
 |true=>
  obtain⟨N,hN,q2⟩:=q2;rw[if_pos rfl];refine wpAny_passesOwn hp (bB (hb pins s2 σ1 H2 _ I2 q2) λf s3 q3=>?_);cases f with
  |next=>
   obtain⟨σ3,H3,I3,n3⟩:=q3;obtain⟨m',hm,w3⟩:=hN σ3 H3 n3;exact⟨m',hm,σ3,H3,I3,w3⟩
  |cont=>
   obtain⟨σ3,H3,I3,n3⟩:=q3;obtain⟨m',hm,w3⟩:=hN σ3 H3 n3;exact⟨m',hm,σ3,H3,I3,w3⟩
  |brk=>exact q3
  |ret v=>exact q3
 |false=>
  rw[if_neg Bool.false_ne_true];exact wpAny_execs_nil ⟨σ1,H2,I2,q2⟩
end
structure It where
 go:Nat->Hp->Prop
 EH:Nat->Hp->V->Hp->Prop
 stop:Nat->Hp->Prop
noncomputable def gW(X:Cx)(pins:List (Addr×Obj))(H:Hp)(b:Addr):Prop:=
 H b=none/\b≠X.env.locals/\b∉X.fs/\(b∈X.ex\/X.s₀.heap.objs.size<=b)/\(∀x c,X.env.cells.lookup x=some c->c≠b)/\∀p∈X.pn++pins,p.1≠b
theorem Inv.Cz{X:Cx}{pins:List (Addr×Obj)}{σ:St}{H H':Hp}{s:Shared}{b:Addr}(I:Inv X pins σ H s)(hb:s.heap.objs.size<=b)(hn:H' b=none):gW X pins H' b:=by
 refine⟨hn,Nat.ne_of_gt (Nat.lt_of_lt_of_le I.lt hb),I.RP hb,.inr (Nat.le_trans I.sz hb),λx c e z=>?_,λp hp z=>?_⟩
 .obtain⟨v,q⟩:=I.cell x c e;exact absurd (Nat.lt_of_lt_of_le q.lt (by rw[z];exact hb)) (Nat.lt_irrefl _)
 .exact absurd (Nat.lt_of_lt_of_le (Heap.lt_size (I.pin p hp).1) (by rw[z];exact hb)) (Nat.lt_irrefl _)
structure Turn(P:Program)(w:World)(K:PySem.W.Frag)(tg:Expr)(J:It)(fp:List Addr)(it:Addr)(tn:Nat->Heap->Prop):Prop where
 mem:it∈fp
 obj:∀i h,tn i h->∀b∈fp,∃o,h.get? b=some o/\∀v,o.data≠.cell v
 keep:∀i h h',tn i h->(∀b∈fp,∀o,h.get? b=some o->h'.get? b=some o)->tn i h'
 item:∀(X:Cx),X.prog=P->X.w=w->X.K=K->X.calm=true->∀(i:Nat) (pins:List (Addr×Obj)) (s:Shared) (σ:St) (H:Hp) (E:Value->Shared->Prop),Inv X pins σ H s->(∀b∈fp,gW X pins H b)->tn i s.heap->J.go i H->
  wpAny (model P w) X.A (pyNext (.ref it)) (λr s1=>∃u,r=some u/\
   wpAny (model P w) X.A (letOwnedTupleGo tg (.ref it) u) (λ_ s2=>∃x H',Inv X pins σ H' s2/\RelV x u/\J.EH i H x H'/\tn (i+1) s2.heap/\∀b∈fp,H' b=none) E s1) E s
 done:∀(X:Cx),X.prog=P->X.w=w->X.K=K->X.calm=true->∀(i:Nat) (pins:List (Addr×Obj)) (s:Shared) (σ:St) (H:Hp) (E:Value->Shared->Prop),Inv X pins σ H s->(∀b∈fp,gW X pins H b)->tn i s.heap->J.stop i H->
  wpAny (model P w) X.A (pyNext (.ref it)) (λr s1=>r=none/\Inv X pins σ H s1) E s
 self:∀(A:Around) (i:Nat) (s:Shared) (Q:Value->Shared->Prop) (E:Value->Shared->Prop),tn i s.heap->Q (.ref it) s->wpAny (model P w) A (pyIter (.ref it)) Q E s
abbrev TI:=St->Hp->(It->Hp->Prop)->Prop
noncomputable def PV(X:Cx)(pins:List (Addr×Obj))(σ:St)(tg:Expr)(R:It->Hp->Prop)(itv:Value)(s2:Shared):Prop:=
 ∃(it:Addr) (fp:List Addr) (tn:Nat->Heap->Prop) (J:It) (H':Hp),itv=.ref it/\Inv X pins σ H' s2/\Turn X.prog X.w X.K tg J fp it tn/\tn 0 s2.heap/\(∀b∈fp,gW X pins H' b)/\R J H'
noncomputable def PI(X:Cx)(tg iter:Expr)(wi:TI):Prop:=
 ∀(pins:List (Addr×Obj)) (s:Shared) (σ:St) (H:Hp) (R:It->Hp->Prop),Inv X pins σ H s->wi σ H R->
  wpAny (model X.prog X.w) X.A (eval iter X.env) (λv s1=>wpAny (model X.prog X.w) X.A (pyIter v) (PV X pins σ tg R) X.xe s1) X.xe s
theorem yi{M:Model}{A:Around}{E:Value->Shared->Prop}{s:Shared}{tg:Expr}{it:Addr}{u:Value}{o:Obj}{n:String}{vs:Array Value}{Q:Unit->Shared->Prop}(ho:s.heap.get? it=some o)(hc:o.cls=.type n)(hd:o.data=.fields vs)
    (hn:["enumerate","zip","dict_itemiterator","dict_reverseitemiterator","odict_iterator","itertools.zip_longest","itertools.pairwise"].contains n=false) (hQ:Q () s):wpAny M A (letOwnedTupleGo tg (.ref it) u) Q E s:=by
  unfold letOwnedTupleGo;cases tg<;>first
    |exact wpAny_pure hQ
    | (cases u<;>first
        |exact wpAny_pure hQ
        | (refine wpAny_bind (wpAny_load ho ?_)
           rw[hc,hd];show wpAny M A (if (["enumerate","zip","dict_itemiterator","dict_reverseitemiterator","odict_iterator","itertools.zip_longest","itertools.pairwise"].contains n&&vs[0]?==some (rawInt _))=true then _ else _) Q E s;rw[if_neg (by intro h;rw[hn,Bool.false_and]at h;cases h)];exact wpAny_pure hQ))
noncomputable def PX(K:PySem.W.Frag)(a:Addr):It:=
 ⟨λi H=>∃xs x,eY K H a xs/\xs[i]?=some x,λi H x H'=>H'=H/\∀xs,eY K H a xs->xs[i]?=some x,λi H=>∃xs,eY K H a xs/\xs.length<=i⟩
noncomputable def PY(K:PySem.W.Frag)(a:Addr):It:=
 ⟨λi H=>∃xs x,dm K H a xs/\xs[i]?=some x,λi H x H'=>H'=H/\∀xs,dm K H a xs->xs[i]?=some x,λi H=>∃xs,dm K H a xs/\xs.length<=i⟩
noncomputable def EI(lo:Int)(n:Nat):It:=⟨λi _=>i<n,λi H x H'=>H'=H/\x=.int (lo+i),λi _=>n<=i⟩
theorem Aj{P:Program}{w:World}{K:PySem.W.Frag}{tg:Expr}(a it:Addr):Turn P w K tg (PX K a) [it] it (λi h=>h.IsListIter it a i) where
 mem:=by simp
 obj:=λi h st b hb=>by
  have e:b=it:=by simpa using hb
  subst e;obtain⟨o,e,c,d⟩:=st;exact⟨o,e,λv z=>by rw[d]at z;cases z⟩
 keep:=λi h h' st k=>st.at λo e=>k it (by simp) o e
 item:=by
  intro X hP hw hK hc i pins s σ H E I hf st hg;subst hP hw hK;obtain⟨xs,x,hq,hx⟩:=hg;obtain⟨its,rv,p,hz⟩:=I.list hq;obtain⟨u,hu,ru⟩:=rv.get hx;obtain⟨f0,f1,f2,f3,f4,f5⟩:=hf it (by simp);refine wpAny_pyNext_list_item st p.isList (x:=u) (by simpa using hu) λh' st' sb=>?_;have I1:Inv X pins σ H { s with heap:=h' }:=I.turned (t':=s.toks) (λb o hb e=>(sb.2 b hb).trans e) f0 f1 f3 f4 f5;obtain⟨o,e,c,d⟩:=id st';exact⟨u,rfl,yi (s:={ s with heap:=h' }) e c d (by decide) ⟨x,H,I1,ru,⟨rfl,λys hy=>by rw[I.Ct hy hq];exact hx⟩,st',λb hb=>(hf b hb).1⟩⟩
 done:=by
  intro X hP hw hK hc i pins s σ H E I hf st hg;subst hP hw hK;obtain⟨xs,hq,hx⟩:=hg;obtain⟨its,rv,p,hz⟩:=I.list hq;obtain⟨f0,f1,f2,f3,f4,f5⟩:=hf it (by simp);have hl:=rv.length;exact wpAny_pyNext_list_end (I.ok.hd hc) st p.isList (by simp;omega) λh' eb=>⟨rfl,I.turned (t':=s.toks) (λb o hb e=>eb b o hb e) f0 f1 f3 f4 f5⟩
 self:=λ_ _ _ _ _ st h=>wpAny_pyIter_listiter st h
theorem yj{P:Program}{w:World}{K:PySem.W.Frag}{tg:Expr}(a it:Addr):Turn P w K tg (PY K a) [it] it (λi h=>h.IsTupleIter it a i) where
 mem:=by simp
 obj:=λi h st b hb=>by
  have e:b=it:=by simpa using hb
  subst e;obtain⟨o,e,c,d⟩:=st;exact⟨o,e,λv z=>by rw[d]at z;cases z⟩
 keep:=λi h h' st k=>st.at λo e=>k it (by simp) o e
 item:=by
  intro X hP hw hK hc i pins s σ H E I hf st hg;subst hP hw hK;obtain⟨xs,x,hq,hx⟩:=hg;obtain⟨its,rv,p,hz⟩:=I.tuple hq;obtain⟨u,hu,ru⟩:=rv.get hx;obtain⟨f0,f1,f2,f3,f4,f5⟩:=hf it (by simp);refine wpAny_pyNext_tuple_item st (show s.heap.IsTuple a its.toArray from p) (x:=u) (by simpa using hu) λh' st' sb=>?_;have I1:Inv X pins σ H { s with heap:=h' }:=I.turned (t':=s.toks) (λb o hb e=>(sb.2 b hb).trans e) f0 f1 f3 f4 f5;obtain⟨o,e,c,d⟩:=id st';exact⟨u,rfl,yi (s:={ s with heap:=h' }) e c d (by decide) ⟨x,H,I1,ru,⟨rfl,λys hy=>by rw[I.mh hy hq];exact hx⟩,st',λb hb=>(hf b hb).1⟩⟩
 done:=by
  intro X hP hw hK hc i pins s σ H E I hf st hg;subst hP hw hK;obtain⟨xs,hq,hx⟩:=hg;obtain⟨its,rv,p,hz⟩:=I.tuple hq;obtain⟨f0,f1,f2,f3,f4,f5⟩:=hf it (by simp);have hl:=rv.length;exact wpAny_pyNext_tuple_end (I.ok.hd hc) st (show s.heap.IsTuple a its.toArray from p) (by simp;omega) λh' eb=>⟨rfl,I.turned (t':=s.toks) (λb o hb e=>eb b o hb e) f0 f1 f3 f4 f5⟩
 self:=λ_ _ _ _ _ st h=>wpAny_pyIter_tupleiter st h
theorem yk{P:Program}{w:World}{K:PySem.W.Frag}{tg:Expr}(it:Addr)(lo:Int)(n:Nat):Turn P w K tg (EI lo n) [it] it (λi h=>IsRangeIter h it (lo+(i:Nat)*1) ((n:Int) - (i:Nat)) 1) where
 mem:=by simp
 obj:=λi h st b hb=>by
  have e:b=it:=by simpa using hb
  subst e;exact⟨_,st,λv z=>by
   have z':Data.fields _=Data.cell v:=z;cases z'⟩
 keep:=λi h h' st k=>k it (by simp) _ st
 item:=by
  intro X hP hw hK hc i pins s σ H E I hf st hg;subst hP hw hK;obtain⟨f0,f1,f2,f3,f4,f5⟩:=hf it (by simp);have W:=Walks.range (prog:=X.prog) (w:=X.w) (I.ok.hd hc) it lo 1 n;refine W.item i s _ _ hg st λv h' tk hv st' kk=>?_;obtain⟨t,rfl⟩:=hv;have I1:Inv X pins σ H { s with heap:=h',toks:=tk }:=I.turned (λb o hb e=>kk b o (by simpa using hb) e) f0 f1 f3 f4 f5;refine⟨_,rfl,yi (s:={ s with heap:=h',toks:=tk }) (n:="range_iterator") st' rfl rfl (by decide) ⟨.int (lo+i),H,I1,⟨t,?_⟩,⟨rfl,rfl⟩,st',λb hb=>(hf b hb).1⟩⟩;rw[Int.mul_one]
 done:=by
  intro X hP hw hK hc i pins s σ H E I hf st hg;subst hP hw hK;obtain⟨f0,f1,f2,f3,f4,f5⟩:=hf it (by simp);exact wpAny_pyNext_range_end (I.ok.hd hc) st (by have:n<=i:=hg;omega) λh' eb=>⟨rfl,I.turned (t':=s.toks) (λb o hb e=>eb b o hb e) f0 f1 f3 f4 f5⟩
 self:=λ_ _ _ _ _ st h=>wpAny_pyIter_rangeiter st h
end L2
namespace L2
open PySem PySem.Spec PyProof.Rows
section
variable{X:Cx}{tg:Expr}
theorem CB{pins:List (Addr×Obj)}{σ:St}{H:Hp}{s:Shared}{R:It->Hp->Prop}{E:Value->Shared->Prop}{lo hi:Int}{t u v:Tok}{tk:Nat}(I:Inv X pins σ H s)(h1:-(2 ^ 62)<=lo)(h2:lo<2 ^ 62)(h3:-(2 ^ 62)<=hi)(h4:hi<2 ^ 62)
  (q:R (EI lo (hi - lo).toNat) H):wpAny (model X.prog X.w) X.A (pyIter (.ref s.heap.objs.size)) (PV X pins σ tg R) E { s with heap:=s.heap.push { cls:=.type "range",data:=.fields #[.int lo t,.int hi u,.int 1 v]},toks:=tk }:=by
 refine wpAny_pyIter_range (IsRange.new ..) (small_one h1 h2 h3 h4) ?_;have I1:Inv X pins σ H { s with heap:=s.heap.push { cls:=.type "range",data:=.fields #[.int lo t,.int hi u,.int 1 v]},toks:=tk }:=I.kept λb o e=>Heap.get?_push_of_some _ e;refine⟨(s.heap.push { cls:=.type "range",data:=.fields #[.int lo t,.int hi u,.int 1 v]}).objs.size,[(s.heap.push { cls:=.type "range",data:=.fields #[.int lo t,.int hi u,.int 1 v]}).objs.size],_,_,H,rfl,
  I1.kept (t':=tk) λb o e=>Heap.get?_push_of_some _ e,yk _ lo (hi - lo).toNat,?_,λb hb=>?_,q⟩
 .have e1:lo+((0:Nat):Int)*1=lo:=by simp
  have e2:(((hi - lo).toNat:Nat):Int) - ((0:Nat):Int)=Builtin.Range.rangeSize lo hi 1:=by rw[rangeSize_one];split<;>omega
  show IsRangeIter _ _ (lo+((0:Nat):Int)*1) ((((hi - lo).toNat:Nat):Int) - ((0:Nat):Int)) 1;rw[e1,e2];exact Heap.get?_push_size _ rfl
 .have e:b=(s.heap.push { cls:=.type "range",data:=.fields #[.int lo t,.int hi u,.int 1 v]}).objs.size:=by simpa using hb
  subst e;exact I1.Cz (Nat.le_refl _) (I1.hok.fresh (Nat.le_refl _))
noncomputable def Ny(ta:TA):TI:=λσ H R=>ta σ H λvs H1=>∃j:Int,vs=[.int j]/\-(2 ^ 62)<=j/\j<2 ^ 62/\R (EI 0 j.toNat) H1
theorem Ak {a:Expr}{ta:TA}{p pos:Pos}(hg:Gl X "range") (hm:X.mg "range" = none) (ha:PA X [a] ta) (hs:starEach [a] X.env=[(false,eval a X.env)]:=by rfl):PI X tg (.Call (.Name "range" p) [a] [] pos) (Ny ta):=by
 intro pins s σ H R I h;refine Call_ (lZ I hg hm boot_range (PyProof.Rows.callWith_type1 (bB (ha pos pins s σ H _ I h) λus s1 ⟨vs,H1,I1,r1,q1⟩=>?_) hs rfl));obtain⟨j,e,q1,q2,q⟩:=q1;subst e;cases r1 with
 |cons r rr=>
  cases rr;obtain⟨t,rfl⟩:=r;exact call_range_1 (CB I1 (by omega) (by omega) q1 q2 (by simpa using q))
noncomputable def R3(wi:TI)(g:TG)(tb:TS):TS:=λD σ H=>wi σ H λJ H1=>∃W:Nat->Nat->St->Hp->Prop,(∃m,W 0 m σ H1)/\∀i m σ H,W i m σ H->
 (J.stop i H/\D.nx σ H)\/(J.go i H/\∃N:St->Hp->Prop,(∀σ' H',N σ' H'->∃m',m'<m/\W (i+1) m' σ' H')/\∀x H',J.EH i H x H'->g x σ H' λσ2 H2=>tb { D with nx:=N,ct:=N,bk:=D.nx } σ2 H2)
noncomputable def mj(fp:List Addr)(h:Heap):List (Addr×Obj):=fp.filterMap λb=>(h.get? b).map λo=>(b,o)
theorem jh{fp:List Addr}{h:Heap}{b:Addr}{o:Obj}(hb:b∈fp)(e:h.get? b=some o):(b,o)∈mj fp h:=List.mem_filterMap.mpr ⟨b,hb,by rw[e];rfl⟩
theorem Am{fp:List Addr}{h:Heap}{p:Addr×Obj}(hp:p∈mj fp h):p.1∈fp/\h.get? p.1=some p.2:=by
 obtain⟨b,hb,e⟩:=List.mem_filterMap.mp hp;cases q:h.get? b with
 |none=>rw[q]at e;cases e
 |some o=>
  rw[q]at e;have e':(b,o)=p:=Option.some.inj e;subst e';exact⟨hb,q⟩
theorem Inv.pinned{pins:List (Addr×Obj)}{σ:St}{H:Hp}{s:Shared}{fp:List Addr}(I:Inv X pins σ H s)(hf:∀b∈fp,gW X pins H b)(ho:∀b∈fp,∃o,s.heap.get? b=some o/\∀v,o.data≠.cell v):Inv X (pins++mj fp s.heap) σ H s:=
 I.wC λp hp=>(List.mem_append.mp hp).elim (λz=>I.pin p (List.mem_append_right _ z)) λz=>by
  obtain⟨hb,e⟩:=Am z;obtain⟨f0,f1,f2,_⟩:=hf p.1 hb;obtain⟨o,e',d⟩:=ho p.1 hb;rw[e]at e';cases e';exact⟨e,f0,f1,f2,d⟩
theorem Inv.kT{pins pl:List (Addr×Obj)}{σ:St}{H:Hp}{s:Shared}(I:Inv X (pins++pl) σ H s):Inv X pins σ H s:=I.wC λp hp=>I.pin p (List.mem_append_right _ (List.mem_append_left _ hp))
theorem IX{iter:Expr}{body:List Stmt}{wi:TI}{g:TG}{tb:TS}{pos:Pos}(hp:PassesOwn (model X.prog X.w) X.A X.env X.xe)(hc:X.calm=true)(hi:PI X tg iter wi)(hg:PG X tg g)(hb:gU X body tb)
  (hs:∀x,foldedSetIterable iter X.env x=pure x:=by intro _;rfl):PS X (.For tg iter body [] pos) (R3 wi g tb):=by
 intro pins s σ H D I h;refine wpAny_For (bB (hi pins s σ H _ I h) λv s1 h1=>bB h1 λitv s2 h2=>?_) hs;obtain⟨it,fp,tn,J,H2,e,I2,T,st2,f2,W,⟨m0,w0⟩,turn⟩:=h2;subst e;have kU:∀{H':Hp},(∀b∈fp,H' b=none)->∀b∈fp,gW X pins H' b:=λhn b hb=>⟨hn b hb,(f2 b hb).2⟩
 refine codeAny_forLoop_any (λn s'=>∃i σ' H',Inv X pins σ' H' s'/\tn i s'.heap/\(∀b∈fp,H' b=none)/\W i n σ' H') ?_ m0 ⟨0,σ,H2,I2,st2,λb hb=>(f2 b hb).1,w0⟩;rintro n s3 ⟨i,σ3,H3,I3,st3,bx,w3⟩;rcases turn i n σ3 H3 w3 with ⟨stop,qn⟩|⟨go,N,hN,step⟩
 .refine wpAny_passesOwn hp (bB (T.done X rfl rfl rfl hc i pins s3 σ3 H3 X.xe I3 (kU bx) st3 stop) λr s4 ⟨hr,I4⟩=>?_);subst hr;exact wpAny_execs_nil ⟨σ3,H3,I4,qn⟩
 .refine wpAny_passesOwn hp (bB (T.item X rfl rfl rfl hc i pins s3 σ3 H3 X.xe I3 (kU bx) st3 go) λr s4 ⟨u,hr,h4⟩=>?_);subst hr;refine wpAny_passesOwn hp (bB h4 λ_ s5 ⟨x,H5,I5,r5,y5,wI,mq⟩=>?_);have Ug:=I5.pinned (kU mq) (T.obj _ _ wI);refine wpAny_passesOwn hp (bB (hg _ s5 σ3 H5 x u _ Ug r5 (step x H5 y5)) λ_ s6 ⟨Uh,H6,I6,q6⟩=>?_);refine wpAny_passesOwn hp (bB (hb _ s6 Uh H6 _ I6 q6) λf s7 q7=>?_);have again:∀{mw:St} {H7:Hp},Inv X (pins++mj fp s5.heap) mw H7 s7->N mw H7->∃m,m<n/\∃i σ' H',Inv X pins σ' H' s7/\tn i s7.heap/\(∀b∈fp,H' b=none)/\W i m σ' H':=λ{mw H7} I7 n7=>by
   obtain⟨m',hm,w7⟩:=hN mw H7 n7;refine⟨m',hm,i+1,mw,H7,I7.kT,T.keep _ _ _ wI λb hb o e=>(I7.pin (b,o) (List.mem_append_right _ (List.mem_append_right _ (jh hb e)))).1,λb hb=>?_,w7⟩;obtain⟨o,e,d⟩:=T.obj _ _ wI b hb;exact(I7.pin (b,o) (List.mem_append_right _ (List.mem_append_right _ (jh hb e)))).2.1
  cases f with
  |next=>obtain⟨mw,H7,I7,n7⟩:=q7;exact again I7 n7
  |cont=>obtain⟨mw,H7,I7,n7⟩:=q7;exact again I7 n7
  |brk=>obtain⟨mw,H7,I7,q7⟩:=q7;exact⟨mw,H7,I7.kT,q7⟩
  |ret v=>obtain⟨x7,mw,H7,I7,r7,q7⟩:=q7;exact⟨x7,mw,H7,I7.kT,r7,q7⟩
end
end L2
namespace L2
open PySem PySem.Spec PyProof.Rows
abbrev R2:=V->V->Hp->VK->Prop
noncomputable def dh(X:Cx)(f:Value->Value->Sem Value)(r:R2):Prop:=
 ∀(pins:List (Addr×Obj)) (s:Shared) (σ:St) (H:Hp) (x y:V) (v u:Value) (Q:VK),Inv X pins σ H s->RelV x v->RelV y u->r x y H Q->
  wpAny (model X.prog X.w) X.A (f v u) (EP X pins σ Q) X.xe s
noncomputable def IY(X:Cx)(f:Value->Sem Value)(r:V->Hp->VK->Prop):Prop:=
 ∀(pins:List (Addr×Obj)) (s:Shared) (σ:St) (H:Hp) (x:V) (v:Value) (Q:VK),Inv X pins σ H s->RelV x v->r x H Q->
  wpAny (model X.prog X.w) X.A (f v) (EP X pins σ Q) X.xe s
noncomputable def fK(X:Cx)(f:Value)(r:List V->Hp->VK->Prop):Prop:=
 ∀(pins:List (Addr×Obj)) (s:Shared) (σ:St) (H:Hp) (xs:List V) (us:List Value) (Q:VK),Inv X pins σ H s->Vals xs us->r xs H Q->
  wpAny (model X.prog X.w) X.A (call f us) (EP X pins σ Q) X.xe s
noncomputable def R4(X:Cx)(r:V->Hp->(Bool->Hp->Prop)->Prop):Prop:=
 ∀(pins:List (Addr×Obj)) (s:Shared) (σ:St) (H:Hp) (x:V) (v:Value) (Q:Bool->Hp->Prop),Inv X pins σ H s->RelV x v->r x H Q->
  wpAny (model X.prog X.w) X.A (truthy v) (TP X pins σ Q) X.xe s
noncomputable def Ao(r:R2)(ta tb:TE):TE:=λσ H Q=>ta σ H λx H1=>tb σ H1 λy H2=>r x y H2 Q
noncomputable def Ui(r:V->Hp->VK->Prop)(ta:TE):TE:=λσ H Q=>ta σ H λx H1=>r x H1 Q
noncomputable def rI(C:Int->Int->Prop)(g:Int->Int->V):R2:=λx y H Q=>∃i j,x=.int i/\y=.int j/\C i j/\Q (g i j) H
noncomputable def tR(g:Int->Int->V):R2:=λx y H Q=>∃i j,x=.int i/\y=.int j/\Q (g i j) H
noncomputable def rU(g:Int->V):V->Hp->VK->Prop:=λx H Q=>∃i,x=.int i/\Q (g i) H
section
variable{X:Cx}{a b c:Expr}{ta tb tc:TE}{pos:Pos}
theorem yl(ha:PE X a ta)(hb:PE X b tb){pins:List (Addr×Obj)}{s:Shared}{σ:St}{H:Hp}{R:V->V->Hp->Prop}(I:Inv X pins σ H s)
  (h:ta σ H λx H1=>tb σ H1 λy H2=>R x y H2) {Q:Value->Shared->Prop} {f:Value->Value->Sem Value}
  (hf:∀v u s2 x y H2,Inv X pins σ H2 s2->RelV x v->RelV y u->R x y H2->wpAny (model X.prog X.w) X.A (f v u) Q X.xe s2) :
  wpAny (model X.prog X.w) X.A (eval a X.env) (λv s₁=>wpAny (model X.prog X.w) X.A (eval b X.env) (λu s₂=>wpAny (model X.prog X.w) X.A (f v u) Q X.xe s₂) X.xe s₁) X.xe s:=by
 refine bB (ha pins s σ H _ I h) λv s1 ⟨x,H1,I1,r1,q1⟩=>?_;refine bB (hb pins s1 σ H1 _ I1 q1) λu s2 ⟨y,H2,I2,r2,q2⟩=>?_;exact hf v u s2 x y H2 I2 r1 r2 q2
theorem Nz{op:Operator}{r:R2}(ho:dh X (binaryOp op) r)(ha:PE X a ta)(hb:PE X b tb):PE X (.BinOp a op b pos) (Ao r ta tb):=by
 intro pins s σ H Q I h;exact wpAny_BinOp (yl ha hb I h λv u s2 x y H2 I2 rx ry q=>ho pins s2 σ H2 x y v u Q I2 rx ry q)
theorem NB{op:UnaryOp}{r:V->Hp->VK->Prop}(ho:IY X (unaryOp op) r)(ha:PE X a ta):PE X (.UnaryOp op a pos) (Ui r ta):=by
 intro pins s σ H Q I h;exact UnaryOp_ (bB (ha pins s σ H _ I h) λv s1 ⟨x,H1,I1,r1,q1⟩=>ho pins s1 σ H1 x v Q I1 r1 q1)
theorem IZ{f:Value->Value->Sem Value}{C:Int->Int->Prop}{g:Int->Int->Int}
  (rule:∀(i j:Int) (t u:Tok) (s:Shared) (Q:Value->Shared->Prop) (E:Value->Shared->Prop),C i j->Q (.int (g i j) s.toks) { s with toks:=s.toks+1 }->wpAny (model X.prog X.w) X.A (f (.int i t) (.int j u)) Q E s) :
  dh X f (rI C λi j=>.int (g i j)):=by
 intro pins s σ H x y v u Q I rx ry h;obtain⟨i,j,rfl,rfl,hc,q⟩:=h;obtain⟨t,rfl⟩:=rx;obtain⟨t',rfl⟩:=ry;exact rule i j t t' s _ _ hc ⟨.int (g i j),H,I.tok _,⟨_,rfl⟩,q⟩
theorem I0{f:Value->Value->Sem Value}{g:Int->Int->Int}
  (rule:∀(i j:Int) (t u:Tok) (s:Shared) (Q:Value->Shared->Prop) (E:Value->Shared->Prop),Q (.int (g i j) s.toks) { s with toks:=s.toks+1 }->wpAny (model X.prog X.w) X.A (f (.int i t) (.int j u)) Q E s) :
  dh X f (tR λi j=>.int (g i j)):=by
 intro pins s σ H x y v u Q I rx ry h;obtain⟨i,j,rfl,rfl,q⟩:=h;obtain⟨t,rfl⟩:=rx;obtain⟨t',rfl⟩:=ry;exact rule i j t t' s _ _ ⟨.int (g i j),H,I.tok _,⟨_,rfl⟩,q⟩
theorem Ja{f:Value->Value->Sem Value}{g:Int->Int->Bool}
  (rule:∀(i j:Int) (t u:Tok) (s:Shared) (Q:Value->Shared->Prop) (E:Value->Shared->Prop),Q (.bool (g i j)) s->wpAny (model X.prog X.w) X.A (f (.int i t) (.int j u)) Q E s) :
  dh X f (tR λi j=>.bl (g i j)):=by
 intro pins s σ H x y v u Q I rx ry h;obtain⟨i,j,rfl,rfl,q⟩:=h;obtain⟨t,rfl⟩:=rx;obtain⟨t',rfl⟩:=ry;exact rule i j t t' s _ _ ⟨.bl (g i j),H,I,rfl,q⟩
noncomputable def R5(i j:Int):Prop:=0<j/\j<1073741824
noncomputable def CC(i j:Int):Prop:=(-(2 ^ 64)<i/\i<2 ^ 64)\/(-(2 ^ 64)<j/\j<2 ^ 64)
theorem CC.ok{i j:Int}(h:CC i j):IntMulOk i j:=by
 rcases h with ⟨h1,h2⟩|⟨h1,h2⟩
 .exact .of_left (intBits_le_64 h1 h2)
 .exact .of_right (intBits_le_64 h1 h2)
theorem Jb:dh X (binaryOp .Add) (tR λi j=>.int (i+j)):=I0 λ_ _ _ _ _ _ _ q=>add_int q
theorem Jc:dh X (binaryOp .Sub) (tR λi j=>.int (i - j)):=I0 λ_ _ _ _ _ _ _ q=>sub_int q
theorem Jd:dh X (binaryOp .Mult) (rI CC λi j=>.int (i*j)):=IZ λ_ _ _ _ _ _ _ hc q=>mul_int q hc.ok
theorem Gg:dh X (binaryOp .FloorDiv) (rI R5 λi j=>.int (i / j)):=IZ λi j _ _ _ _ _ hc q=>by
 have h1:(0:Int)<j:=hc.1;have h2:j<1073741824:=hc.2;exact floordiv_int (by omega) (by rw[Int.fdiv_eq_ediv_of_nonneg i (by omega)];exact q) (.inl (PyProof.noPylong_small (by omega)))
theorem Je:dh X (binaryOp .Mod) (rI (λ_ j=>0<j) λi j=>.int (i % j)):=IZ λi j _ _ _ _ _ hc q=>by
 have h1:(0:Int)<j:=hc;exact mod_int' (by omega) (by rw[Int.fmod_eq_emod_of_nonneg i (by omega)];exact q)
theorem Uj{f:Value->Sem Value}{g:Int->Int}
  (rule:∀(i:Int) (t:Tok) (s:Shared) (Q:Value->Shared->Prop) (E:Value->Shared->Prop),Q (.int (g i) s.toks) { s with toks:=s.toks+1 }->wpAny (model X.prog X.w) X.A (f (.int i t)) Q E s) :
  IY X f (rU λi=>.int (g i)):=by
 intro pins s σ H x v Q I rx h;obtain⟨i,rfl,q⟩:=h;obtain⟨t,rfl⟩:=rx;exact rule i t s _ _ ⟨.int (g i),H,I.tok _,⟨_,rfl⟩,q⟩
theorem Jf:IY X (unaryOp .USub) (rU λi=>.int (-i)):=Uj λ_ _ _ _ _ q=>neg_int q
end
section
variable{X:Cx}{a b c:Expr}{ta tb tc:TE}{pos:Pos}
theorem Aq{pins:List (Addr×Obj)}{σ:St}{H:Hp}{s:Shared}{Q:VK}{k k':Bool}(I:Inv X pins σ H s)(q:Q (.bl k) H)(e:k=k'):EP X pins σ Q (.bool k') s:=by
 subst e;exact⟨.bl k,H,I,rfl,q⟩
theorem NC:dh X (compareOp .Lt) (tR λi j=>.bl (decide (i<j))):=Ja λ_ _ _ _ _ _ _ q=>lt_int q
theorem ND:dh X (compareOp .Gt) (tR λi j=>.bl (decide (j<i))):=Ja λ_ _ _ _ _ _ _ q=>gt_int q
theorem Jg:dh X (compareOp .Is) (λx y H Q=>y=.aG/\Q (.bl (decide (x=.aG))) H):=by
 intro pins s σ H x y v u Q I rx ry h;obtain⟨rfl,q⟩:=h;cases ry;refine is_none_gen (Aq I q ?_);cases x<;>first
  | (cases rx;rfl)
  | (obtain⟨t,rfl⟩:=rx;rfl)
theorem Gh:dh X (compareOp .IsNot) (λx y H Q=>y=.aG/\Q (.bl (!decide (x=.aG))) H):=by
 intro pins s σ H x y v u Q I rx ry h;obtain⟨rfl,q⟩:=h;cases ry;refine isnot_none_gen (Aq I q ?_);cases x<;>first
  | (cases rx;rfl)
  | (obtain⟨t,rfl⟩:=rx;rfl)
theorem fO(b:Expr){op:CmpOp}(h:op≠.In:=by decide)(h2:op≠.NotIn:=by decide):behindInMarks op b=false:=by
 have e1:(op==CmpOp.In)=false:=by cases op<;>first|rfl|exact absurd rfl h
 have e2:(op==CmpOp.NotIn)=false:=by cases op<;>first|rfl|exact absurd rfl h2
 cases b<;>simp[behindInMarks,e1,e2]
theorem Gi{op:CmpOp}{r:R2}(ho:dh X (compareOp op) r)(ha:PE X a ta)(hb:PE X b tb)(hm:behindInMarks op b=false):PE X (.Compare a [op] [b] pos) (Ao r ta tb):=by
 intro pins s σ H Q I h;exact wpAny_Compare1 (yl ha hb I h λv u s2 x y H2 I2 rx ry q=>ho pins s2 σ H2 x y v u Q I2 rx ry q) hm
noncomputable def NF(t:TE):TT:=λσ H Q=>t σ H λx H'=>∃k,x=.bl k/\Q k H'
theorem Gj{op:CmpOp}{r:R2}(ho:dh X (compareOp op) r)(ha:PE X a ta)(hb:PE X b tb)(hm:behindInMarks op b=false):PT X (.Compare a [op] [b] pos) (NF (Ao r ta tb)):=by
 intro pins s σ H Q I h;refine wpAny_isTrue_Compare1 (bB (ha pins s σ H _ I h) λv s1 ⟨x,H1,I1,r1,q1⟩=>bB (hb pins s1 σ H1 _ I1 q1) λu s2 ⟨y,H2,I2,r2,q2⟩=>
  bB (ho pins s2 σ H2 x y v u _ I2 r1 r2 q2) λc s3 ⟨z,H3,I3,r3,k,e,q3⟩=>?_) hm
 subst e;cases r3;exact wpAny_truthy_bool ⟨H3,I3,q3⟩
noncomputable def CD(K:PySem.W.Frag)(x:V)(H:Hp)(k:Bool):Prop:=
 match x with
 |.aG=>k=false
 |.bl b=>k=b
 |.int i=>k=(i != 0)
 |.str y=>y.length<=sizeLine/\k=((y.length:Int) != 0)
 |.Ab y=>y.size<=sizeLine/\k=((y.size:Int) != 0)
 |.ref p=>(∃xs,eY K H p xs/\k = !xs.isEmpty)\/(∃xs,dm K H p xs/\k = !xs.isEmpty)\/∃kvs,H p=some (.dK kvs)/\k = !kvs.isEmpty
 |_=>False
theorem ym{κ:Type}{kvs:List (κ×V)}{vs:List (κ×Value)}(r:KV kvs vs):(!vs.isEmpty) = !kvs.isEmpty:=by
 cases r<;>rfl
theorem o6{xs:List V}{its:List Value}(r:Vals xs its):(!its.toArray.isEmpty) = !xs.isEmpty:=by
 cases r<;>simp
theorem ku:(sizeLine:Nat)<2 ^ 63:=by rw[sizeLine_eq];decide
theorem Jh:R4 X (λx H Q=>∃k,CD X.K x H k/\Q k H):=by
 intro pins s σ H x v Q I rx h;obtain⟨k,e,q⟩:=h;have hl:=ku;have hs:sizeLine=16777216:=sizeLine_eq;cases x with
 |aG=>
  cases rx;have e':k=false:=e;subst e';exact truthy_none ⟨H,I,q⟩
 |bl b=>
  cases rx;have e':k=b:=e;subst e';exact wpAny_truthy_bool ⟨H,I,q⟩
 |int i=>
  obtain⟨t,rfl⟩:=rx;have e':k=(i != 0):=e;subst e';exact PySem.P.truthy_int ⟨H,I,q⟩
 |str y=>
  obtain⟨t,rfl⟩:=rx;obtain⟨hy,e'⟩:y.length<=sizeLine/\k=((y.length:Int) != 0):=e;subst e';exact PySem.P.truthy_str (by omega) ⟨H,I.tok _,q⟩
 |Ab y=>
  obtain⟨t,rfl⟩:=rx;obtain⟨hy,e'⟩:y.size<=sizeLine/\k=((y.size:Int) != 0):=e;subst e';exact PySem.W.truthy_bytes (by omega) ⟨H,I.tok _,q⟩
 |ref p=>
  cases rx;have e':(∃xs,eY X.K H p xs/\k = !xs.isEmpty)\/(∃xs,dm X.K H p xs/\k = !xs.isEmpty)\/∃kvs,H p=some (.dK kvs)/\k = !kvs.isEmpty:=e;rcases e' with ⟨xs,hx,e'⟩|⟨xs,hx,e'⟩|⟨kvs,hx,e'⟩
  .subst e';obtain⟨its,r,pl,hz⟩:=I.list hx;have hlen:=r.length;exact wpAny_truthy_list pl.isList (by simp only[List.size_toArray];omega) ⟨H,I.tok _,by rw[o6 r];exact q⟩
  .subst e';obtain⟨its,r,pl,hz⟩:=I.tuple hx;have hlen:=r.length;exact truthy_tuple pl (by simp only[List.size_toArray];omega) ⟨H,I.tok _,by rw[o6 r];exact q⟩
  .subst e';obtain⟨hz,hS,vs,r,m⟩:kvs.length<=sizeLine/\(p==sysModules)=false/\∃vs,KV kvs vs/\s.heap.DictOf (cL X.prog X.w) p vs:=I.hok p _ hx;have hlen:kvs.length=vs.length:=Paired.length r;exact wpAny_truthy_dict hS m (by omega) ⟨H,I.tok _,by rw[ym r];exact q⟩
 |_=>exact(show False from e).elim
theorem CF(ha:PE X a ta)(he:∀whole,isTrue a X.env whole=(do let v <-whole;standAt a.pos;holding [v] (truthy v))) :
  PT X a (λσ H Q=>ta σ H λx H'=>∃k,CD X.K x H' k/\Q k H'):=by
 intro pins s σ H Q I h;exact isTrue_plain (bB (ha pins s σ H _ I h) λv s1 ⟨x,H1,I1,r1,q1⟩=>Jh pins s1 σ H1 x v Q I1 r1 q1) (he _)
theorem yo:dh X (binaryOp .Add) (λx y H Q=>∃i j,x=.str i/\y=.str j/\i.length+j.length<=sizeLine/\Q (.str (i++j)) H):=by
 intro pins s σ H x y v u Q I rx ry h;obtain⟨i,j,rfl,rfl,hz,q⟩:=h;obtain⟨t,rfl⟩:=rx;obtain⟨t',rfl⟩:=ry;exact add_str (λt' tk=>⟨.str (i++j),H,I.tok _,⟨_,rfl⟩,q⟩) hz
theorem vals1{x:V}{us:List Value}(r:Vals [x] us):∃u,us=[u]/\RelV x u:=by
 cases r with
 |cons r1 r2=>cases r2;exact⟨_,rfl,r1⟩
theorem vals2{x y:V}{us:List Value}(r:Vals [x,y] us):∃u w',us=[u,w']/\RelV x u/\RelV y w':=by
 cases r with
 |cons r1 r2=>
  cases r2 with
  |cons r3 r4=>cases r4;exact⟨_,_,rfl,r1,r3⟩
theorem Ar (hc:X.calm=true):fK X (.builtin "min") (λxs H Q=>∃i j,xs=[.int i,.int j]/\Q (.int (if j<i then j else i)) H):=by
 intro pins s σ H xs us Q I r h;obtain⟨i,j,rfl,q⟩:=h;obtain⟨u,w',rfl,⟨t,rfl⟩,⟨t',rfl⟩⟩:=vals2 r;refine min_two_ints (I.ok.hd hc) λh' tk k=>⟨_,H,I.kept k,?_,q⟩
 by_cases hj:j<i
 .rw[if_pos hj,if_pos hj];exact⟨_,rfl⟩
 .rw[if_neg hj,if_neg hj];exact⟨_,rfl⟩
end
end L2
namespace L2
open PySem PySem.Spec PyProof.Rows
structure VJ(h:Heap)(x dx C:Addr)(mA:Str->Option Value):Prop where
 obj:h.get? x=some (PySem.W.instObj C dx)
 ns:h.Ns1 dx mA
 ne:dx≠x
section
variable{prog:Program}{w:World}{A:Around}{E:Value->Shared->Prop}{s:Shared}{K:PySem.W.Frag}{x dx C f:Addr}{mA:Str->Option Value}{name:Str}{v:Value}
end
section
variable{P:Program}{w:World}{H H':Hp}{h h':Heap}{a C dx:Addr}{fs fs':List (Str×V)}
end
structure Uk(K:PySem.W.Frag)(C:Addr):Prop where
 pg:PySem.W.plainGet K C Str.empty=true
 hd:PySem.W.hasDictIn K C=true
 po:PySem.W.plainOver K C=true
 sa:PySem.W.findIn K (.ref C) "__setattr__" = some (some (.builtin "object.__setattr__"))
structure VL(K:PySem.W.Frag)(C:Addr)(f:Str)(v:V)(u:Value):Prop where
 at_:PySem.W.findIn K (.ref C) f=some (some u)
 rel:RelV v u
 get:PySem.W.specialIn K u "__get__" = some none
 cp:PySem.W.copiedNames.contains f=false
structure Meth(K:PySem.W.Frag)(C:Addr)(m:Str)(f:Addr):Prop where
 at_:PySem.W.findIn K (.ref C) m=some (some (.ref f))
 fn:PySem.W.isFn K (.ref f)=true
 kp:PySem.W.keepIn K (.ref f)=true
section
variable{X:Cx}{pins:List (Addr×Obj)}{σ:St}{H:Hp}{s:Shared}{a C dx:Addr}{fs:List (Str×V)}{f:Str}{v:V}{A:Around}{E:Value->Shared->Prop}
end
section
variable{X:Cx}{o e value:Expr}{f:Str}{pos pos' tpos:Pos}{ta tv:TE}
end
section
variable{X:Cx}{pins:List (Addr×Obj)}{σ:St}{H:Hp}{s:Shared}{A:Around}{E:Value->Shared->Prop}{Q:Value->Shared->Prop}{c:Value}{b:Bool}
inductive jx(K:PySem.W.Frag)(H:Hp):V->Value->Prop where
 |aG:jx K H .aG (.type "NoneType")
 |bl (x:Bool):jx K H (.bl x) (.type "bool")
 |int (i:Int):jx K H (.int i) (.type "int")
 |str (x:Str):jx K H (.str x) (.type "str")
 |Ac (x:UInt64):jx K H (.Ac x) (.type "float")
 |lst {a:Addr} {xs:List V} (e:H a=some (.lst xs)):jx K H (.ref a) (.type "list")
 |bL {a:Addr} {o:Obj} {xs:List V} (e:H a=some (.bL o (.lst xs))):jx K H (.ref a) (.type "list")
 |tup {a:Addr} {xs:List V} (e:H a=some (.tup xs)):jx K H (.ref a) (.type "tuple")
 |dK {a:Addr} {kvs:List (Key×V)} (e:H a=some (.dK kvs)):jx K H (.ref a) (.type "dict")
 |dT {a:Addr} {kvs:List (List Key×V)} (e:H a=some (.dT kvs)):jx K H (.ref a) (.type "dict")
 |ins {a C dx:Addr} {fs:List (Str×V)} (e:H a=some (.ins C dx fs)) (cl:Uk K C) (ha:PySem.W.findIn K (.ref C) "__class__" = some (some (.builtin "object.__class__")))
   (hn:PySem.W.specialIn K (.builtin "object.__class__") "__get__" = some (some (.builtin "getset_descriptor.__get__"))) (htk:PySem.W.takesIn K (.builtin "object.__class__")=some true)
   (hm:PySem.W.mroIn K C (.type "object")=some true):jx K H (.ref a) (.ref C)
end
end L2
namespace L2
open PySem PySem.Spec PyProof.Rows
structure fH(k:Nat)(A:Around):Prop where
 hd:A.handled=none
 dp:A.depth+3*k+5<recursionLimit
 un:A.units+16*k+200<cLine
theorem fH.deeper{k:Nat}{A:Around}(r:fH (k+1) A)(env:Env):fH k (A.deeper env):=
 ⟨r.hd,by have:=r.dp;show A.depth+1+3*k+5<_;omega,by have:=r.un;show A.units+3+16*k+200<_;omega⟩
theorem fH.depth{k:Nat}{A:Around}(r:fH k A):A.depth<recursionLimit:=by have:=r.dp;omega
theorem fH.units{k:Nat}{A:Around}(r:fH k A):A.units+64<cLine:=by have:=r.un;omega
noncomputable def R6:TA:=λ_ H Q=>Q [] H
noncomputable def NG(ta:TE)(tr:TA):TA:=λσ H Q=>ta σ H λx H1=>tr σ H1 λxs H2=>Q (x :: xs) H2
section
variable{X:Cx}{e:Expr}{es:List Expr}{te:TE}{t:TA}{pos:Pos}
theorem tS:PA X [] R6:=λ_ _ _ _ H Q I h=>Calls.spliced_nil ⟨[],H,I,.nil,h⟩
theorem qo(ha:PE X e te)(hr:PA X es t)(hs:starEach (e :: es) X.env=(false,eval e X.env) :: starEach es X.env:=by rfl):PA X (e :: es) (NG te t):=by
 intro pos pins s σ H Q I h;rw[hs];show wpAny _ _ (spliced ((false,eval e X.env) :: backTo pos (starEach es X.env))) _ _ s;refine Calls.spliced_cons (bB (ha pins s σ H _ I h) λu s1 ⟨x,H1,I1,r1,q1⟩=>?_);exact bB (hr pos pins s1 σ H1 _ I1 q1) λus s2 ⟨xs,H2,I2,r2,q2⟩=>⟨x :: xs,H2,I2,.cons r1 r2,q2⟩
noncomputable def R7(t:TA):TE:=λσ H Q=>t σ H λxs H1=>xs.length<=sizeLine/\∀p,H1 p=none->Q (.ref p) (upd H1 p (.tup xs))
noncomputable def R8(t:TA):TE:=λσ H Q=>t σ H λxs H1=>xs.length<=sizeLine/\∀p,H1 p=none->Q (.ref p) (upd H1 p (.lst xs))
theorem Ji{x1}(h:PA X es t):PE X (.Tuple es x1 pos) (R7 t):=by
 intro pins s σ H Q I hq;refine wpAny_Tuple_spliced (bB (h pos pins s σ H _ I hq) λus s1 ⟨xs,H1,I1,r,z,q⟩=>⟨by rw[<-r.length];exact z,?_⟩);have hf:H1 s1.heap.objs.size=none:=I1.hok.fresh (Nat.le_refl _);refine⟨.ref s1.heap.objs.size,upd H1 s1.heap.objs.size (.tup xs),I1.laid (t':=s1.toks) (λb u e=>Heap.get?_push_of_some _ e) (Nat.le_refl _) ?_,rfl,q _ hf⟩;exact⟨z,us,r,⟨_,Heap.get?_push_size _ rfl,rfl,_,rfl⟩⟩
theorem Jj(h:PA X es t):PE X (.List es pos) (R8 t):=by
 intro pins s σ H Q I hq;refine wpAny_List_spliced (bB (h pos pins s σ H _ I hq) λus s1 ⟨xs,H1,I1,r,z,q⟩=>⟨by rw[<-r.length];exact z,?_⟩);have hf:H1 s1.heap.objs.size=none:=I1.hok.fresh (Nat.le_refl _);refine⟨.ref s1.heap.objs.size,upd H1 s1.heap.objs.size (.lst xs),I1.laid (t':=s1.toks) (λb u e=>Heap.get?_push_of_some _ e) (Nat.le_refl _) ?_,rfl,q _ hf⟩;exact⟨z,us,0,r,Heap.get?_push_size _ rfl⟩
end
abbrev Sp:=List V->Hp->VK->XK->Prop
abbrev lQ:=List Env->Hp->Shared->XK->Value->Shared->Prop
structure yp(P:Program)(w:World)(K:PySem.W.Frag)(mg:Str->Option Value)(base:Heap)(A:Around)(outer:List Env)(s:Shared)(H:Hp):Prop where
 frames:A.frames=some outer
 mod:Mod K mg base
 bs:∀b o,base.get? b=some o->s.heap.get? b=some o/\H b=none
 qV:base.objs.size<=s.heap.objs.size
 iX:s.heap.FunFrames base outer
 tM:∀b∈frs outer,H b=none
 hok:ef P w H s.heap
 bare:AllBare s.gens
noncomputable def CE(outer:List Env)(P:Program)(w:World)(H:Hp)(s:Shared)(Q:VK)(u:Value)(s':Shared):Prop:=
 ∃v H',s'.os=s.os/\AllBare s'.gens/\Un (frs outer) [] H H' s.heap s'.heap/\ef P w H' s'.heap/\RelV v u/\Q v H'
noncomputable def CR(CX:lQ)(outer:List Env)(P:Program)(w:World)(H:Hp)(s:Shared)(Q:VK)(E:XK)(r:Result)(s':Shared):Prop:=
 match r with
 |.ok (.ret u)=>CE outer P w H s Q u s'
 |.ok _=>False
 |.error e=>CX outer H s E e s'
structure iA(P:Program)(w:World)(K:PySem.W.Frag)(mg:Str->Option Value)(base:Heap)(CX:lQ)(k:Nat)(f:Addr)(fd:FuncData)(ps:List Str)(sp:Sp):Prop where
 len:∀vs H Q E,sp vs H Q E->vs.length=ps.length
 run:∀(A:Around) (outer:List Env) (s:Shared) (H:Hp) (args:Args) (us:List Value) (vs:List V) (Q:VK) (E:XK),fH k A->yp P w K mg base A outer s H->BindsTo s fd args (ps.zip us)->Vals vs us->sp vs H Q E->
  codeAny (model P w) A (.call (.ref f) args) (CR CX outer P w H s Q E) s
section
variable{X:Cx}{pins:List (Addr×Obj)}{σ:St}{H:Hp}{s s':Shared}
theorem Inv.R9(I:Inv X pins σ H s):yp X.prog X.w X.K X.mg X.base X.A X.stack s H:=
 ⟨I.ok.frames,I.ok.mod,I.bs,Nat.le_trans I.ok.qV I.sz,I.stack,I.wA,I.hok,I.bare⟩
theorem Inv.after{Q:VK}{u:Value}(I:Inv X pins σ H s)(h:CE X.stack X.prog X.w H s Q u s'):EP X pins σ Q u s':=by
 obtain⟨v,H',os,bare,un,hok,r,q⟩:=h;obtain⟨hh,g,d,t,os'⟩:=s';obtain rfl:os'=s.os:=os;exact⟨v,H',I.call (h':=hh) (g':=g) (d':=d) (t':=t) (ch:=[]) un hok bare (λb z=>absurd z (by simp)),r,q⟩
end
noncomputable def NH(sp:Sp)(jy:List V)(E:XK)(t:TA):TE:=λσ H Q=>t σ H λvs H1=>sp (vs++jy) H1 Q E
noncomputable def Binds(K:PySem.W.Frag)(fd:FuncData)(ps:List Str)(ds:List Value):Prop:=
 ∀(s:Shared) (us:List Value),K.In s.heap->(us++ds).length=ps.length->BindsTo s fd ⟨us,[]⟩ (ps.zip (us++ds))
theorem Binds.all{K:PySem.W.Frag}{fd:FuncData}{ps:List Str}(h:∀us:List Value,us.length=ps.length->bindArgs fd ⟨us,[]⟩=pure (ps.zip us)):Binds K fd ps []:=λs us _ hl=>by
 rw[List.append_nil]at hl ⊢;exact .of_eq (h us hl)
noncomputable def Passes(CX:lQ)(X:Cx)(E:XK):Prop:=∀(pins:List (Addr×Obj)) (σ:St) (H:Hp) (s:Shared) (e:Value) (s':Shared),Inv X pins σ H s->CX X.stack H s E e s'->X.xe e s'
section
variable{X:Cx}{CX:lQ}{k:Nat}{f C:Addr}{fd:FuncData}{ps:List Str}{sp:Sp}{jy:List V}{ds:List Value}{E:XK}{x m:Str}{p pos apos:Pos}{e o:Expr}{es:List Expr}{ta:TE}{t:TA}
theorem Jk{pins:List (Addr×Obj)}{σ:St}{H:Hp}{s:Shared}{Q:VK}{us:List Value}{vs:List V}(F:iA X.prog X.w X.K X.mg X.base CX k f fd ps sp)(hr:fH k X.A)(hb:Binds X.K fd ps ds)(hd:Vals jy ds)(hx:Passes CX X E)
  (I:Inv X pins σ H s) (r:Vals vs us) (h:sp (vs++jy) H Q E):wpAny (model X.prog X.w) X.A (call (.ref f) us) (EP X pins σ Q) X.xe s:=by
 have r2:Vals (vs++jy) (us++ds):=r.append hd;have hl:(us++ds).length=ps.length:=by rw[<-r2.length];exact F.len _ _ _ _ h
 refine wpAny_call (codeAny_mono (F.run X.A X.stack s H ⟨us,[]⟩ (us++ds) (vs++jy) Q E hr I.R9 (hb s us I.qW hl) r2 h) λr s' hq=>?_);cases r with
 |error e=>exact hx pins σ H s e s' I hq
 |ok fl=>
  cases fl with
  |ret u=>exact I.after hq
  |next=>exact False.elim hq
  |brk=>exact False.elim hq
  |cont=>exact False.elim hq
theorem Gk(F:iA X.prog X.w X.K X.mg X.base CX k f fd ps sp)(hr:fH k X.A)(hg:Gl X x)(hm:X.mg x=some (.ref f))(hk:PySem.W.keepIn X.K (.ref f)=true)(hb:Binds X.K fd ps ds)(hd:Vals jy ds)(hx:Passes CX X E)
  (ha:PA X (e :: es) t) (hdb:(x==("__debug__" : Str))=false:=by decide) (he:starEach (e :: es) X.env=(false,eval e X.env) :: starEach es X.env:=by rfl) (hpl:(backTo pos (starEach es X.env)).any (·.1)=false:=by rfl) :
  PE X (.Call (.Name x p) (e :: es) [] pos) (NH sp jy E t):=by
 intro pins s σ H Q I h;refine wpAny_Call_Name_kw (wD I hg hm ?_ hdb);refine PySem.W.callWith_K (h₀:=X.base) I.ok.mod.EB hk (bB (ha pos pins s σ H _ I h) λus s1 ⟨vs,H1,I1,r,q⟩=>⟨I1.qW,?_⟩) he hpl;exact Jk F hr hb hd hx I1 r q
structure Mk(K:PySem.W.Frag)(C f:Addr):Prop where
 makes:PySem.W.makesIn K C=true
 init:PySem.W.findIn K (.ref C) "__init__" = some (some (.ref f))
 fn:PySem.W.isFn K (.ref f)=true
 kp:PySem.W.keepIn K (.ref C)=true
end
section
variable{X:Cx}{CX:lQ}{k:Nat}{f C:Addr}{fd:FuncData}{ps ks:List Str}{sp:Sp}{E:XK}{x m:Str}{p pos apos kpos:Pos}{e o:Expr}{es:List Expr}{kws:List Keyword}{te ta:TE}{t tk:TA}{nm:Option Str}
structure Ul(K:PySem.W.Frag)(fd:FuncData)(ps ks:List Str)(g:List Value->List Value->List Value)(gV:List V->List V->List V):Prop where
 to:∀(s:Shared) (us ws:List Value),K.In s.heap->(g us ws).length=ps.length->BindsTo s fd ⟨us,ks.zip ws⟩ (ps.zip (g us ws))
 rel:∀{vs:List V} {us:List Value} {zs:List V} {ws:List Value},Vals vs us->Vals zs ws->Vals (gV vs zs) (g us ws)
variable{g:List Value->List Value->List Value}{gV:List V->List V->List V}
end
structure bD(N P:List Str)(sc:Scope):Prop where
 kind:sc.kind=.function
 co:sc.isCoroutine=false
 gen:sc.isGenerator=false
 nd:N.Nodup
 pre:N.take P.length=P
 par:∀x∈P,sc.names.lookup x=some .local\/sc.names.lookup x=some .cell
 Jl:∀y∈sc.names,y.2≠.free
theorem qZ{kindOf:Str->Option NameKind}{x:Str}:∀{binds:List (Str×Value)}{m:Str->Option Value},(∀v,(x,v)∉binds)->bindL kindOf binds m x=m x
 |[],_,_=>rfl
 | (n,v) :: r,m,h=>by
  unfold bindL;rw[qZ λw hw=>h w (List.mem_cons_of_mem _ hw)];split
  .have:x≠n:=by rintro rfl;exact h v List.mem_cons_self
   simp[this]
  .rfl
theorem q8{kindOf:Str->Option NameKind}{x:Str}:∀{binds:List (Str×Value)}{m:Str->Option Value},(∀v,(x,v)∉binds)->bindC kindOf binds m x=m x
 |[],_,_=>rfl
 | (n,v) :: r,m,h=>by
  unfold bindC;rw[q8 λw hw=>h w (List.mem_cons_of_mem _ hw)];split
  .rfl
  .have:x≠n:=by rintro rfl;exact h v List.mem_cons_self
   simp[this]
theorem q9{kindOf:Str->Option NameKind}{x:Str}{v:Value}:∀{P:List Str}{vs:List Value}{i:Nat}{m:Str->Option Value},P.Nodup->P[i]?=some x->vs[i]?=some v->kindOf x=some .local->
  bindL kindOf (P.zip vs) m x=some v
 |[],_,_,_,_,h,_,_=>by simp at h
 |_ :: _,[],_,_,_,_,h,_=>by simp at h
 |p :: P,w :: vs,0,m,nd,h1,h2,hk=>by
  simp at h1 h2;subst h1;subst h2;show bindL kindOf ((p,w) :: P.zip vs) m p=_;unfold bindL;rw[qZ λv hv=>(List.nodup_cons.mp nd).1 (List.of_mem_zip hv).1,if_pos hk];simp
 |p :: P,w :: vs,i+1,m,nd,h1,h2,hk=>by
  show bindL kindOf ((p,w) :: P.zip vs) m x=_;unfold bindL;exact q9 (i:=i) (List.nodup_cons.mp nd).2 (by simpa using h1) (by simpa using h2) hk
theorem rj{kindOf:Str->Option NameKind}{x:Str}{v:Value}:∀{P:List Str}{vs:List Value}{i:Nat}{m:Str->Option Value},P.Nodup->P[i]?=some x->vs[i]?=some v->kindOf x≠some .local->
  bindC kindOf (P.zip vs) m x=some v
 |[],_,_,_,_,h,_,_=>by simp at h
 |_ :: _,[],_,_,_,_,h,_=>by simp at h
 |p :: P,w :: vs,0,m,nd,h1,h2,hk=>by
  simp at h1 h2;subst h1;subst h2;show bindC kindOf ((p,w) :: P.zip vs) m p=_;unfold bindC;rw[q8 λv hv=>(List.nodup_cons.mp nd).1 (List.of_mem_zip hv).1,if_neg hk];simp
 |p :: P,w :: vs,i+1,m,nd,h1,h2,hk=>by
  show bindC kindOf ((p,w) :: P.zip vs) m x=_;unfold bindC;exact rj (i:=i) (List.nodup_cons.mp nd).2 (by simpa using h1) (by simpa using h2) hk
noncomputable def start(N:List Str)(vs:List V):St:=vs.map some++List.replicate (N.length - vs.length) none
noncomputable def oG(CX:lQ)(P:Program)(w:World)(K:PySem.W.Frag)(mg:Str->Option Value)(base:Heap)(N:List Str)(qual:Str)(scope:Scope)(f:Addr)(cd:Value)(A:Around)(outer:List Env)(s:Shared)(H:Hp)(E:XK):Cx where
 prog:=P
 w:=w
 K:=K
 mg:=mg
 base:=base
 A:=A.deeper (envOfC qual scope s.heap.objs.size f cd)
 N:=N
 s₀:=s
 H₀:=H
 env:=envOfC qual scope s.heap.objs.size f cd
 outer:=outer
 stack:=envOfC qual scope s.heap.objs.size f cd :: outer
 ex:=[]
 calm:=true
 fn:=λ_=>true
 pn:=[]
 xe:=λe s'=>wpAny (model P w) (A.deeper (envOfC qual scope s.heap.objs.size f cd)) (leaving (envOfC qual scope s.heap.objs.size f cd) e) (λ_ s''=>CX outer H s E e s'') (λe' s''=>CX outer H s E e' s'') s'
theorem tT{sc:Scope}{n:Nat}{x:Str}(h:sc.names.lookup x=some .cell):∃c,(cellsFrom n sc.names []).lookup x=some c:=by
 have q:=PySem.W.cellsFrom_some sc.names n [] (.inl h);exact Option.isSome_iff_exists.mp q
theorem As{CX:lQ}{P:Program}{w:World}{K:PySem.W.Frag}{mg:Str->Option Value}{base:Heap}{N ps:List Str}{qual:Str}{scope:Scope}{f:Addr}{cd:Value}{A:Around}{outer:List Env}{s s1:Shared}{H:Hp}{E:XK}{us:List Value}{vs:List V}
  (S:bD N ps scope) (hd:A.handled=none) (e0:yp P w K mg base A outer s H) (hl:vs.length=ps.length) (r:Vals vs us)
  (x:InCallC s s.heap.objs.size (bindL (envOfC qual scope s.heap.objs.size f cd).kindOf (ps.zip us) λ_=>none) (cellsFrom (s.heap.objs.size+1) scope.names []) (bindC (envOfC qual scope s.heap.objs.size f cd).kindOf (ps.zip us) λ_=>none) s1) :
  Inv (oG CX P w K mg base N qual scope f cd A outer s H E) [] (start N vs) H s1:=by
 have hpl:ps.length<=N.length:=by have:=congrArg List.length S.pre;rw[List.length_take]at this;omega
 obtain⟨h1,tk,rfl,hk⟩:=x.done;have Au:∀b:Addr,b∉(oG CX P w K mg base N qual scope f cd A outer s H E).ex:=λb z=>absurd (show b∈([]:List Addr)from z) (by simp);refine⟨⟨e0.mod,S.kind,rfl,rfl,Nat.le_refl _,λy z c h1 h2=>?_,λy hy=>?_,λy c _ h=>?_,λ_=>hd,Around.frames_deeper e0.frames,.inr ⟨rfl,rfl⟩,λb z=>absurd z (Au b),e0.bs,e0.qV,λb _ _=>Au b,λb z=>absurd z (Au b),e0.iX,e0.tM⟩,
  rfl,e0.bare,Un.kept hk,⟨_,x.toInCall.ns,λi y v h1 h2 h3=>?_⟩,λy c h=>⟨_,x.cell y c h⟩,e0.hok.fresh (Nat.le_refl _),λy c h=>?_,λp hp=>absurd (show p∈([]:List (Addr×Obj))from hp) (by simp),e0.hok.kept hk,?_⟩
 .exact name_of_addr x.apart (PySem.mem_of_lookup h1) (PySem.mem_of_lookup h2)
 .have hy:scope.names.lookup y=some .cell\/scope.names.lookup y=some .free:=hy;rcases hy with hy|hy
  .exact tT hy
  .exact absurd rfl (S.Jl _ (PySem.mem_of_lookup hy))
 .exact Nat.le_of_lt (x.above y c (PySem.mem_of_lookup h))
 .have hi:i<vs.length:=by
   unfold start at h2;by_cases hi:i<vs.length
   .exact hi
   .rw[List.getElem?_append_right (by simpa using hi)]at h2;rw[List.getElem?_replicate]at h2;split at h2<;>cases h2
  have ha:vs[i]?=some v:=by
   unfold start at h2;rw[List.getElem?_append_left (by simpa using hi),List.getElem?_map]at h2;cases e:vs[i]? with
   |none=>rw[e]at h2;cases h2
   |some a=>rw[e]at h2;cases h2;rfl
  obtain⟨u,hu,rv⟩:=r.get ha;have hp:ps[i]?=some y:=by
   rw[<-S.pre,List.getElem?_take_of_lt (by omega)];exact h1
  have PZ:ps.Nodup:=by rw[<-S.pre];exact S.nd.sublist (List.take_sublist _ _)
  refine⟨u,rv,?_⟩;rcases S.par y (List.mem_of_getElem? hp)with k|k
  .exact .inl ⟨k,q9 PZ hp hu k⟩
  .obtain⟨c,e⟩:=tT (n:=s.heap.objs.size+1) k;refine .inr ⟨.inl k,c,e,?_⟩;have q:=x.cell y c e;rw[rj PZ hp hu (by show scope.names.lookup y≠_;rw[k];decide)]at q;exact q
 .exact e0.hok.fresh (Nat.le_of_lt (x.above y c (PySem.mem_of_lookup h)))
 .unfold start;show _=N.length;rw[List.length_append,List.length_map,List.length_replicate];omega
theorem NI{CX:lQ}{P:Program}{w:World}{K:PySem.W.Frag}{mg:Str->Option Value}{base:Heap}{k:Nat}{f:Addr}{name qual:Str}{params:Arguments}{body:List Stmt}{scope:Scope}{dV kV doc pm cdv ct oc:Value}{an od:Option Addr}
  {osl:Array (Option Value)} {N ps:List Str} {sp:Sp} (lk:K.lookup f=some ⟨oc,od,.func (PySem.W.fnOf name qual params body scope dV kV doc pm an cdv ct),osl⟩) (hcd:PySem.W.codeIn K cdv qual=true) (S:bD N ps scope)
  (len:∀vs H Q E,sp vs H Q E->vs.length=ps.length)
  (hbody:∀(A:Around) (outer:List Env) (s:Shared) (H:Hp) (vs:List V) (Q:VK) (E:XK),fH k (A.deeper (envOfC qual scope s.heap.objs.size f cdv))->sp vs H Q E->
   ∃t,gU (oG CX P w K mg base N qual scope f cdv A outer s H E) body t/\t { nx:=λ_ H'=>Q .aG H',rt:=Q } (start N vs) H) :
  iA P w K mg base CX (k+1) f (PySem.W.fnOf name qual params body scope dV kV doc pm an cdv ct) ps sp:=by
 refine⟨len,λA outer s H args us vs Q E hr e0 hb r kB=>?_⟩;have hl:=len _ _ _ _ kB;have KX:K.In s.heap:=e0.mod.EB.keeps λb o e=>(e0.bs b o e).1;have lim:s.heap.NoLimit:=e0.mod.nolimit.keeps λb o e=>(e0.bs b o e).1;have hkind:∀y∈ps.zip us,scope.names.lookup y.1=some .local\/(scope.names.lookup y.1=some .cell/\((cellsFrom (s.heap.objs.size+1) scope.names []).lookup y.1).isSome=true):=λ⟨n,v⟩ hy=>by
  rcases S.par n (List.of_mem_zip hy).1 with q|q
  .exact .inl q
  .exact .inr ⟨q,PySem.W.cellsFrom_some _ _ _ (.inl q)⟩
 refine codeAny_call_function hr.depth (KX _ _ lk) rfl S.co S.gen rfl (PySem.W.codeRec_of KX hcd) (hb _ _ _ _ ?_);refine wpAny_newFunctionEnv_cells S.kind hkind λenv he s1 x=>?_;subst he;refine⟨lim.keeps x.toInCall.keep,codeAny_func ?_⟩;obtain⟨t,ht,hq⟩:=hbody A outer s H vs Q E (hr.deeper _) kB;have I:Inv (oG CX P w K mg base N qual scope f cdv A outer s H E) [] (start N vs) H s1:=As S hr.hd e0 hl r x;refine wpAny_mono (ht [] s1 (start N vs) H _ I hq) (λfl s' hs=>?_) λe s' hs=>hs;have fin:∀{σ':St} {H':Hp} {v:V} {u:Value},Inv (oG CX P w K mg base N qual scope f cdv A outer s H E) [] σ' H' s'->RelV v u->Q v H'->CE outer P w H s Q u s':=
  λ{σ' H' v u} J rv q=>⟨v,H',J.os,J.bare,J.base,J.hok,rv,q⟩
 cases fl with
 |ret u=>
  obtain⟨v,σ',H',J,rv,q⟩:=hs;exact fin J rv q
 |next=>
  obtain⟨σ',H',J,q⟩:=hs;exact fin (v:=V.aG) (u:=Value.none) J rfl q
 |brk=>
  obtain⟨_,_,_,q⟩:=hs;exact False.elim q
 |cont=>
  obtain⟨_,_,_,q⟩:=hs;exact False.elim q
end L2
namespace L2
open PySem PySem.Spec PyProof.Rows
section
variable{X:Cx}{x:Str}{p pos:Pos}{e:Expr}{es:List Expr}{t:TA}{id T:String}{r:List V->Hp->VK->Prop}
noncomputable def Jm(r:List V->Hp->VK->Prop)(t:TA):TE:=λσ H Q=>t σ H λvs H1=>r vs H1 Q
theorem CG (hc:fK X (.builtin id) r) (hg:Gl X x) (hm:X.mg x=none) (hv:bootBuiltins x=some (.builtin id)) (ha:PA X (e :: es) t) (hn:x≠"__name__" :=by decide) (hdb:(x==("__debug__" : Str))=false:=by decide)
  (he:starEach (e :: es) X.env=(false,eval e X.env) :: starEach es X.env:=by rfl) (hpl:(backTo pos (starEach es X.env)).any (·.1)=false:=by rfl):PE X (.Call (.Name x p) (e :: es) [] pos) (Jm r t):=by
 intro pins s σ H Q I h;refine wpAny_Call_Name_kw (lZ I hg hm hv ?_ hn hdb);exact PyProof.Rows.callWith_builtin1 (bB (ha pos pins s σ H _ I h) λus s1 ⟨vs,H1,I1,r1,q1⟩=>hc pins s1 σ H1 vs us Q I1 r1 q1) he hpl
theorem rq (hc:fK X (.type T) r) (hg:Gl X x) (hm:X.mg x=none) (hv:bootBuiltins x=some (.type T)) (ha:PA X (e :: es) t) (hn:x≠"__name__" :=by decide) (hdb:(x==("__debug__" : Str))=false:=by decide)
  (he:starEach (e :: es) X.env=(false,eval e X.env) :: starEach es X.env:=by rfl) (hpl:(backTo pos (starEach es X.env)).any (·.1)=false:=by rfl):PE X (.Call (.Name x p) (e :: es) [] pos) (Jm r t):=by
 intro pins s σ H Q I h;refine wpAny_Call_Name_kw (lZ I hg hm hv ?_ hn hdb);exact PyProof.Rows.callWith_type1 (bB (ha pos pins s σ H _ I h) λus s1 ⟨vs,H1,I1,r1,q1⟩=>hc pins s1 σ H1 vs us Q I1 r1 q1) he hpl
end
end L2
namespace HT
open PySem PyProof.Rows
section
open PySem.SeqAt
open PySem.AutoSeq1 (wpAny_loadPart')
open PySem.MeetsSeq PySem.MeetsSeq2 PySem.MeetsSeq3
end
section
variable{prog:Program}{w:World}{A:Around}{E:Value->Shared->Prop}{s:Shared}
theorem Gm{t b:Addr}{vs ws:List Value}{Q:Value->Shared->Prop}(ht:IsTup s.heap t vs.toArray)(hb:IsTup s.heap b ws.toArray)(hv:vs≠[])
  (h1:ws=[]->Q (.ref t) s) (h2:ws≠[]->Q (.ref s.heap.objs.size) { s with heap:=s.heap.push { cls:=.type "tuple",data:=.seq (vs++ws).toArray }})
  (hsz:vs.length+ws.length<=sizeLine):wpAny (model prog w) A (binaryOp .Add (.ref t) (.ref b)) Q E s:=by
 obtain⟨⟨cls,dd,data,sl⟩,ho,hc,n,hd⟩:=id ht;obtain⟨⟨Sa,dd2,data2,sl2⟩,ho2,hc2,n2,hd2⟩:=id hb;simp only at hc hd hc2 hd2;subst hc hd hc2 hd2;have e:vs.toArray++ws.toArray=(vs++ws).toArray:=by simp
 by_cases hw:ws=[]
 .exact concat_meets ⟨_,ho,rfl⟩ ⟨_,ho2,rfl⟩ noFill_tuple_add seq_tuple_add PySem.F.slot_tuple_add PySem.F.entry_tuple_add (PySem.F.args_tuple_add_2 _ _)
   (tuple_addW1 t b vs.toArray ws.toArray n n2 dd dd2 sl sl2 (by simpa using hv) (by simp[hw])) ⟨ho,ho2,h1 hw⟩
 .refine concat_meets ⟨_,ho,rfl⟩ ⟨_,ho2,rfl⟩ noFill_tuple_add seq_tuple_add PySem.F.slot_tuple_add PySem.F.entry_tuple_add (PySem.F.args_tuple_add_2 _ _)
   (tuple_addW2 t b vs.toArray ws.toArray n n2 dd dd2 sl sl2 (by simpa using hv) (by simpa using hw) (by rw[List.size_toArray,List.size_toArray];exact hsz)) ⟨ho,ho2,?_⟩
  rw[e];exact h2 hw
noncomputable def aQ(n d:Nat):Option Int->Nat
 |none=>d
 |some v=>if v<0 then (v+(n:Int)).toNat else min v.toNat n
theorem tU(n d:Nat)(hd:d<=n)(o:Option Int):aQ n d o<=n:=by
 cases o with
 |none=>exact hd
 |some v=>
  show(if v<0 then (v+(n:Int)).toNat else min v.toNat n)<=n;by_cases hv:v<0
  .rw[if_pos hv];omega
  .rw[if_neg hv];exact Nat.min_le_right _ _
theorem wJ(v:Int)(n d:Nat):(if v<0 then max (v+(n:Int)) 0 else min v (n:Int))=((aQ n d (some v):Nat):Int):=by
 show(if v<0 then max (v+(n:Int)) 0 else min v (n:Int))=(((if v<0 then (v+(n:Int)).toNat else min v.toNat n):Nat):Int)
 by_cases hv:v<0
 .simp only[if_pos hv];omega
 .simp only[if_neg hv];omega
theorem yq(lo hi:Option Int)(n:Nat):Builtin.Slice.sliceAdjust lo hi 1 (n:Int)=(((aQ n 0 lo:Nat):Int),((aQ n n hi:Nat):Int)):=by
 have h1:¬ ((1:Int)<0):=by omega
 unfold Builtin.Slice.sliceAdjust;simp only[h1,if_false];refine Prod.ext ?_ ?_
 .cases lo with
  |none=>rfl
  |some v=>exact wJ v n 0
 .cases hi with
  |none=>rfl
  |some v=>exact wJ v n n
theorem yr(i j:Nat):Builtin.Slice.slicePlaces (i:Int) (j:Int) 1=j - i:=by
 unfold Builtin.Slice.slicePlaces;have h1:(1:Int) > 0:=by omega
 simp only[h1,if_true,Int.ediv_one];split<;>omega
theorem gX{v:Value}{o:Option Int}{Q:Option Int->Shared->Prop}(p:IsPart v o)(h:Q o s):wpAny (model prog w) A (Builtin.Slice.slicePartIndex v) Q E s:=by
 cases p with
 |none=>exact slicePart_none h
 |int i t=>exact slicePart_int h
theorem jz{sl:Addr}{vl vu:Value}{lo hi:Option Int}{n:Nat}{Q:Int×Int×Nat->Shared->Prop}(hs:s.heap.IsSliceOf sl vl vu .none)(pl:IsPart vl lo)(pu:IsPart vu hi)
  (h:Q (((aQ n 0 lo:Nat):Int),1,aQ n n hi - aQ n 0 lo) s):wpAny (model prog w) A (Builtin.Slice.sliceApplied (.ref sl) (pure (n:Int))) Q E s:=by
 obtain⟨os,hos,hcs,hds⟩:=id hs;unfold Builtin.Slice.sliceApplied Builtin.Slice.sliceFields;refine wpAny_bind (wpAny_bind (wpAny_field hos hds (x:=vl) rfl (wpAny_bind (wpAny_field hos hds (x:=vu) rfl (wpAny_bind (wpAny_field hos hds (x:=.none) rfl (wpAny_pure ?_)))))));refine wpAny_bind (slicePart_none ?_);show wpAny _ _ (if ((1:Int)==0)=true then _ else _) _ _ s;rw[if_neg (by decide)];refine wpAny_bind (gX pl (wpAny_bind (gX pu (wpAny_bind (wpAny_pure ?_)))));show wpAny _ _ (match Builtin.Slice.sliceAdjust lo hi 1 (n:Int)with | (lo,hi)=>pure (lo,(1:Int),Builtin.Slice.slicePlaces lo hi 1)) _ _ s;rw[yq lo hi n];show wpAny _ _ (pure (((aQ n 0 lo:Nat):Int),(1:Int),Builtin.Slice.slicePlaces ((aQ n 0 lo:Nat):Int) ((aQ n n hi:Nat):Int) 1)) _ _ s;rw[yr];exact wpAny_pure h
theorem CH(xs:Array Value)(i k:Nat):((List.range k).filterMap λ(m:Nat)=>xs[((i:Int)+(m:Int)*1).toNat]?).toArray=((xs.toList.drop i).take k).toArray:=by
 have e:(λ(m:Nat)=>xs[((i:Int)+(m:Int)*1).toNat]?)=λm=>xs[i+m]?:=by
  funext m
  have:((i:Int)+(m:Int)*1).toNat=i+m:=by omega
  rw[this]
 rw[e];have:=pick_run xs i k;rw[List.filterMap_map]at this;have e2:((λx=>xs[x]?) ∘ λx=>i+x)=λm=>xs[i+m]?:=rfl;rw[e2]at this;rw[this]
theorem nT{t sl:Addr}{items:Array Value}{vl vu:Value}{lo hi:Option Int}{Q:Value->Shared->Prop}(ht:IsTup s.heap t items)(hs:s.heap.IsSliceOf sl vl vu .none)(pl:IsPart vl lo)(pu:IsPart vu hi)
  (hw:¬ (aQ items.size 0 lo=0/\aQ items.size items.size hi=items.size))
  (h:Q (.ref s.heap.objs.size) { s with heap:=s.heap.push { cls:=.type "tuple",data:=.seq ((items.toList.drop (aQ items.size 0 lo)).take (aQ items.size items.size hi - aQ items.size 0 lo)).toArray }})
  (hsz:items.size<=sizeLine):wpAny (model prog w) A (getItem (.ref t) (.ref sl)) Q E s:=by
 have ji:sizeOk (.seq ((items.toList.drop (aQ items.size 0 lo)).take (aQ items.size items.size hi - aQ items.size 0 lo)).toArray):=by
  show((items.toList.drop (aQ items.size 0 lo)).take (aQ items.size items.size hi - aQ items.size 0 lo)).toArray.size<=sizeLine;rw[List.size_toArray,List.length_take,List.length_drop,Array.length_toList];omega
 have hj:aQ items.size items.size hi<=items.size:=tU _ _ (Nat.le_refl _) hi;obtain⟨os,hos,hcs,hds⟩:=id hs;have Av:s.TypeIs (.ref sl) "slice" :=⟨os,hos,hcs⟩
 unfold getItem;try with_reducible refine wpAny_holding ?_
 first|refine wpAny_bind (wpAny_pure ?_)|skip
 refine wpAny_bind (wpAny_sequenceKey ht.typeIs (by decide) ?_);refine wpAny_bind (wpAny_callSpecial?_slot (name:=Str.ofString "__getitem__") ht.typeIs PyProof.Rows.slot_tuple_getitem
  (wpAny_call_entry PyProof.Rows.slot_tuple_getitem ht.typeIs entry_tuple_getitem ?_ (args_tuple_getitem _ _)))
 show wpAny _ _ (Builtin.Tuple.tupleItemsOf (.ref t) >>= _) _ _ s;refine wpAny_bind (tupleItemsOf_ ht ?_);refine wpAny_bind (wpAny_typeOf Av ?_);rw[if_pos (by decide)];refine wpAny_bind (jz hs pl pu ?_);have hno:¬ ((((aQ items.size 0 lo:Nat):Int)==0&&(1:Int)==1&&(aQ items.size items.size hi - aQ items.size 0 lo)==items.size)=true):=by
  intro q;rw[Bool.and_eq_true,Bool.and_eq_true]at q;have q1:((aQ items.size 0 lo:Nat):Int)=0:=eq_of_beq q.1.1;have q2:aQ items.size items.size hi - aQ items.size 0 lo=items.size:=eq_of_beq q.2;exact hw ⟨by omega,by omega⟩
 show wpAny _ _ (if (((aQ items.size 0 lo:Nat):Int)==0&&(1:Int)==1&&(aQ items.size items.size hi - aQ items.size 0 lo)==items.size)=true then _ else _) _ _ s;rw[if_neg hno,CH];first
  |exact wpAny_bind (m:=Builtin.Tuple.tupleExact _) (wpAny_newObj_type (wpAny_pure ⟨_,rfl,wpAny_pure h⟩) ji)
  |exact wpAny_bind (m:=Builtin.Tuple.tupleExact _) (wpAny_newObj_type (wpAny_bind (wpAny_pure (wpAny_pure ⟨_,rfl,wpAny_pure h⟩))) ji)
  |exact wpAny_bind (wpAny_bind (m:=Builtin.Tuple.tupleExact _) (wpAny_newObj_type (wpAny_pure (wpAny_pure ⟨_,rfl,wpAny_pure h⟩)) ji))
  |exact wpAny_bind (wpAny_bind (m:=Builtin.Tuple.tupleExact _) (wpAny_newObj_type (wpAny_pure ⟨_,rfl,wpAny_pure h⟩) ji))
end
end HT
namespace L2
open PySem PySem.Spec PyProof.Rows
abbrev TO:=St->Hp->(Option Int->Hp->Prop)->Prop
noncomputable def PO(X:Cx)(e:Option Expr)(t:TO):Prop:=
 ∀(pins:List (Addr×Obj)) (s:Shared) (σ:St) (H:Hp) (Q:Option Int->Hp->Prop),Inv X pins σ H s->t σ H Q->
  wpAny (model X.prog X.w) X.A (evalPart e X.env) (λu s'=>∃o H',Inv X pins σ H' s'/\IsPart u o/\Q o H') X.xe s
noncomputable def Gn:TO:=λ_ H Q=>Q none H
noncomputable def NJ(t:TE):TO:=λσ H Q=>t σ H λx H1=>∃i,x=.int i/\Q (some i) H1
section
variable{X:Cx}{e:Expr}{te:TE}{lo hi:Option Expr}{tl th:TO}{pos p2:Pos}
theorem Gp:PO X none Gn:=by
 intro pins s σ H Q I h;rw[evalPart_none];exact wpAny_pure ⟨none,H,I,.none,h⟩
theorem wK(h:PE X e te):PO X (some e) (NJ te):=by
 intro pins s σ H Q I hw;rw[evalPart_some];refine bB (h pins s σ H _ I hw) λu s1 ⟨x,H1,I1,r1,q1⟩=>?_;obtain⟨i,rfl,q⟩:=q1;obtain⟨t,rfl⟩:=r1;exact⟨some i,H1,I1,.int i t,q⟩
noncomputable def kC(X:Cx)(r:V->Option Int->Option Int->Hp->VK->Prop):Prop:=
 ∀(pins:List (Addr×Obj)) (s:Shared) (σ:St) (H:Hp) (x:V) (v vl vu:Value) (lo hi:Option Int) (sl:Addr) (Q:VK),Inv X pins σ H s->RelV x v->s.heap.IsSliceOf sl vl vu .none->IsPart vl lo->IsPart vu hi->r x lo hi H Q->
  ∃T id,typeLookup (.type T) "__getitem__" = pure (some (.builtin id))/\s.TypeIs v T/\wpAny (model X.prog X.w) X.A (getItem v (.ref sl)) (EP X pins σ Q) X.xe s
noncomputable def Um(r:V->Option Int->Option Int->Hp->VK->Prop)(te:TE)(tl th:TO):TE:=λσ H Q=>te σ H λx H1=>tl σ H1 λl H2=>th σ H2 λu H3=>r x l u H3 Q
theorem CJ{r:V->Option Int->Option Int->Hp->VK->Prop}(hr:kC X r)(he:PE X e te)(hl:PO X lo tl)(hu:PO X hi th):PE X (.Subscript e (.Slice lo hi none p2) pos) (Um r te tl th):=by
 intro pins s σ H Q I h;refine Subscript_ (bB (he pins s σ H _ I h) λv s1 ⟨x,H1,I1,r1,q1⟩=>?_);refine wpAny_Slice (bB (hl pins s1 σ H1 _ I1 q1) λvl s2 ⟨l,H2,I2,pl,q2⟩=>bB (hu pins s2 σ H2 _ I2 q2) λvu s3 ⟨u,H3,I3,pu,q3⟩=>?_);rw[evalPart_none];refine wpAny_pure ?_;have I4:Inv X pins σ H3 { s3 with heap:=s3.heap.push { cls:=.type "slice",data:=.fields #[vl,vu,.none]}}:=I3.kept (t':=s3.toks) λb ob q=>Heap.get?_push_of_some _ q;obtain⟨T,id,hT,ht,hg⟩:=hr pins { s3 with heap:=s3.heap.push { cls:=.type "slice",data:=.fields #[vl,vu,.none]}} σ H3 x v vl vu l u s3.heap.objs.size Q I4 r1 (Heap.IsSliceOf.new ..) pl pu q3;show wpAny (model X.prog X.w) X.A (subscriptTail e (.Slice lo hi none p2) v (.ref s3.heap.objs.size)) (EP X pins σ Q) X.xe { s3 with heap:=s3.heap.push { cls:=.type "slice",data:=.fields #[vl,vu,.none]}};exact tail_any (ops:=[.ref s3.heap.objs.size,v]) ht hT hg (by with_unfolding_all rfl)
noncomputable def mz(xs:List V)(lo hi:Option Int):List V:=(xs.drop (HT.aQ xs.length 0 lo)).take (HT.aQ xs.length xs.length hi - HT.aQ xs.length 0 lo)
theorem nV(xs:List V)(lo hi:Option Int):(mz xs lo hi).length<=xs.length:=by
 unfold mz;rw[List.length_take,List.length_drop];omega
noncomputable def Sb(K:PySem.W.Frag):V->Option Int->Option Int->Hp->VK->Prop:=λx lo hi H Q=>∃a xs,x=.ref a/\dm K H a xs/\
 ¬ (HT.aQ xs.length 0 lo=0/\HT.aQ xs.length xs.length hi=xs.length)/\∀p,H p=none->Q (.ref p) (upd H p (.tup (mz xs lo hi)))
theorem Jo:kC X (Sb X.K):=by
 intro pins s σ H x v vl vu lo hi sl Q I rx hs pl pu h;obtain⟨a,xs,rfl,hx,hw,q⟩:=h;cases rx;obtain⟨its,r,ht,hz⟩:=I.tuple hx;have hlen:its.toArray.size=xs.length:=by rw[List.size_toArray];exact r.length.symm
 refine⟨"tuple",_,PyProof.Rows.slot_tuple_getitem.lookup,ht.typeIs,?_⟩;refine HT.nT ht hs pl pu (by rw[hlen];exact hw) ?_ (by rw[hlen];exact hz);rw[hlen];refine⟨.ref s.heap.objs.size,_,I.laid (t':=s.toks) (o:=.tup (mz xs lo hi)) (λb ob q=>Heap.get?_push_of_some _ q) (Nat.le_refl _) ?_,rfl,q _ (I.hok.fresh (Nat.le_refl _))⟩;exact⟨Nat.le_trans (nV xs lo hi) hz,_,(r.drop (HT.aQ xs.length 0 lo)).take (HT.aQ xs.length xs.length hi - HT.aQ xs.length 0 lo),IsTup.new _ _⟩
noncomputable def NK(K:PySem.W.Frag):R2:=λx y H Q=>∃a b xs ys,x=.ref a/\y=.ref b/\dm K H a xs/\dm K H b ys/\xs≠[]/\xs.length+ys.length<=sizeLine/\
 (ys=[]->Q (.ref a) H)/\(ys≠[]->∀p,H p=none->Q (.ref p) (upd H p (.tup (xs++ys))))
theorem Vals.qp{xs:List V}{us:List Value}(r:Vals xs us):us=[]↔xs=[]:=by
 cases r with
 |nil=>simp
 |cons _ _=>simp
theorem Gq:dh X (binaryOp .Add) (NK X.K):=by
 intro pins s σ H x y v u Q I rx ry h;obtain⟨a,b,xs,ys,rfl,rfl,ha,hb,hx,hz,q1,q2⟩:=h;cases rx;cases ry;obtain⟨its,r1,p1,_⟩:=I.tuple ha;obtain⟨its2,r2,p2,_⟩:=I.tuple hb;refine HT.Gm p1 p2 (λz=>hx (r1.qp.mp z)) (λz=>⟨.ref a,H,I,rfl,q1 (r2.qp.mp z)⟩) (λz=>?_) (by rw[<-r1.length,<-r2.length];exact hz);refine⟨.ref s.heap.objs.size,_,I.laid (t':=s.toks) (o:=.tup (xs++ys)) (λb ob q=>Heap.get?_push_of_some _ q) (Nat.le_refl _) ?_,rfl,q2 (λw=>z (r2.qp.mpr w)) _ (I.hok.fresh (Nat.le_refl _))⟩;exact⟨by rw[List.length_append];exact hz,_,r1.append r2,IsTup.new _ _⟩
end
end L2
namespace L2
open PySem PySem.Spec PyProof.Rows
noncomputable def dF(n:Nat)(i:Int):Option Nat:=if 0<=i then (if i<n then some i.toNat else none)else if -(n:Int)<=i then some (i+n).toNat else none
noncomputable def bI{α:Type}(xs:List α)(i:Int):Option α:=(dF xs.length i).bind λj=>xs[j]?
theorem Gr{n:Nat}{i:Int}{j:Nat}(h:dF n i=some j):seqIndex? i n=some j/\j<n/\-(n:Int)<=i/\i<n:=by
 unfold dF at h;by_cases h0:0<=i
 .rw[if_pos h0]at h;by_cases h1:i<n
  .rw[if_pos h1]at h;have e:i.toNat=j:=Option.some.inj h;exact⟨by rw[seqIndex_of h0 h1,e],by omega,by omega,h1⟩
  .rw[if_neg h1]at h;cases h
 .rw[if_neg h0]at h;by_cases h1:-(n:Int)<=i
  .rw[if_pos h1]at h;have e:(i+n).toNat=j:=Option.some.inj h;exact⟨by rw[seqIndex_neg (by omega) h1,e],by omega,h1,by omega⟩
  .rw[if_neg h1]at h;cases h
theorem qq{α:Type}{xs:List α}{i:Int}{v:α}(h:bI xs i=some v):∃j,seqIndex? i xs.length=some j/\xs[j]?=some v/\j<xs.length/\-(xs.length:Int)<=i/\i<xs.length:=by
 unfold bI at h;cases e:dF xs.length i with
 |none=>rw[e]at h;cases h
 |some j=>
  rw[e]at h;obtain⟨h1,h2,h3,h4⟩:=Gr e;exact⟨j,h1,h,h2,h3,h4⟩
theorem wL{α:Type}{xs:List α}{j:Nat}{v:α}(h:xs[j]?=some v):bI xs (j:Int)=some v:=by
 have hj:j<xs.length:=(List.getElem?_eq_some_iff.mp h).1;have e:dF xs.length (j:Int)=some j:=by
  unfold dF;rw[if_pos (by omega),if_pos (by omega)];simp
 unfold bI;rw[e];exact h
noncomputable def qt(b:Expr):Prop:=∀o i,subscripted b false o i=operate [o,i] (getItem o i)
noncomputable def wN(X:Cx)(r:R2):Prop:=
 ∀(value slice:Expr) (pins:List (Addr×Obj)) (s:Shared) (σ:St) (H:Hp) (x y:V) (v u:Value) (Q:VK),Inv X pins σ H s->RelV x v->RelV y u->r x y H Q->
  subscripted slice false v u=operate [v,u] (getItem v u)->wpAny (model X.prog X.w) X.A (subscriptTail value slice v u) (EP X pins σ Q) X.xe s
noncomputable def rA(X:Cx)(id:String)(r:V->List V->Hp->VK->Prop):Prop:=
 ∀(pins:List (Addr×Obj)) (s:Shared) (σ:St) (H:Hp) (x:V) (xs:List V) (v:Value) (us:List Value) (Q:VK),Inv X pins σ H s->RelV x v->Vals xs us->r x xs H Q->
  wpAny (model X.prog X.w) X.A (call (.builtin id) (v :: us)) (EP X pins σ Q) X.xe s
section
variable{X:Cx}{a b:Expr}{ta tb:TE}{pos:Pos}
theorem NL{r:R2}(hr:wN X r)(ha:PE X a ta)(hb:PE X b tb)(hs:qt b):PE X (.Subscript a b pos) (Ao r ta tb):=by
 intro pins s σ H Q I h;exact Subscript_ (yl ha hb I h λv u s2 x y H2 I2 rx ry q=>hr a b pins s2 σ H2 x y v u Q I2 rx ry q (hs _ _))
noncomputable def Sd(K:PySem.W.Frag):R2:=λx y H Q=>∃p xs i v,x=.ref p/\y=.int i/\eY K H p xs/\bI xs i=some v/\Q v H
noncomputable def Se(K:PySem.W.Frag):R2:=λx y H Q=>∃p xs i v,x=.ref p/\y=.int i/\dm K H p xs/\bI xs i=some v/\Q v H
noncomputable def Sf:R2:=λx y H Q=>∃z i c,x=.str z/\y=.int i/\z.length<=sizeLine/\bI z.cps.toList i=some c/\Q (.str ⟨#[c]⟩) H
theorem Gs:wN X (Sd X.K):=by
 intro value slice pins s σ H x y v u Q I rx ry h hs;obtain⟨p,xs,i,z,rfl,rfl,hq,he,q⟩:=h;cases rx;obtain⟨t,rfl⟩:=ry;obtain⟨its,r,pl,hz⟩:=I.list hq;obtain⟨j,h1,h2,h3,h4,h5⟩:=qq he;obtain⟨w,ew,rw'⟩:=r.get h2;have hl:=r.length;have hn:=ku;have fin:EP X pins σ Q w s:=⟨z,H,I,rw',q⟩
 by_cases h0:0<=i
 .have hj:i.toNat=j:=by
   rw[seqIndex_of h0 h5]at h1;exact Option.some.inj h1
  exact item_listR pl.isList h0 (by omega) (by rw[hj];simpa using ew) fin hs
 .have hj:(i+(its.toArray.size:Int)).toNat=j:=by
   rw[seqIndex_neg (by omega) h4]at h1;rw[List.size_toArray,<-hl];exact Option.some.inj h1
  exact subscriptTail_builtinR (x:=w) pl.isList.typeIs slot_list_getitem.lookup
   (wpAny_getItem_list_neg (Q:=λr s'=>r=w/\EP X pins σ Q r s') pl.isList (by omega) (by rw[List.size_toArray]<;>omega) (by omega) (by rw[hj];simpa using ew) ⟨rfl,fin⟩) hs
theorem Jp:wN X (Se X.K):=by
 intro value slice pins s σ H x y v u Q I rx ry h hs;obtain⟨p,xs,i,z,rfl,rfl,hq,he,q⟩:=h;cases rx;obtain⟨t,rfl⟩:=ry;obtain⟨its,r,pl,hz⟩:=I.tuple hq;obtain⟨j,h1,h2,h3,h4,h5⟩:=qq he;obtain⟨w,ew,rw'⟩:=r.get h2;have hl:=r.length;have hn:=ku;have fin:EP X pins σ Q w s:=⟨z,H,I,rw',q⟩
 exact subscriptTail_builtinR (x:=w) pl.typeIs slot_tuple_getitem.lookup
  (getItem_tuple (j:=j) (Q:=λr s'=>r=w/\EP X pins σ Q r s') pl (by omega) (by omega) (by rw[List.size_toArray,<-hl];exact h1) (by simpa using ew) ⟨rfl,fin⟩) hs
theorem Jq:wN X Sf:=by
 intro value slice pins s σ H x y v u Q I rx ry h hs;obtain⟨z,i,c,rfl,rfl,hz,he,q⟩:=h;obtain⟨t,rfl⟩:=rx;obtain⟨t',rfl⟩:=ry;obtain⟨j,h1,h2,h3,h4,h5⟩:=qq he;have hl:z.cps.toList.length=z.length:=by simp[Str.length]
 rw[hl]at h1 h4 h5;have hn:=ku;exact tail_any (typeIs_str s z t) slot_str_getitem.lookup (getItem_str (c:=c) (by
  have e1:decide (i < -(2 ^ 63:Int))=false:=decide_eq_false (by omega);have e2:decide (i≥2 ^ 63)=false:=decide_eq_false (by omega);rw[e1,e2,Bool.or_false]) (by rw[h1];simpa using h2) ⟨.str ⟨#[c]⟩,H,I.tok _,⟨_,rfl⟩,q⟩) hs
theorem tV(lo hi:Option Int)(n:Nat):(sliceBounds lo hi none n).1=((HT.aQ n 0 lo:Nat):Int)/\(sliceBounds lo hi none n).2.1=((HT.aQ n n hi:Nat):Int)/\(sliceBounds lo hi none n).2.2=1:=by
 refine⟨?_,?_,rfl⟩
 .cases lo with
  |none=>simp[sliceBounds,HT.aQ]
  |some i=>
   simp only[sliceBounds,HT.aQ,Option.getD_none,show(1:Int) > 0 by decide,if_true];by_cases h:i<0
   .simp only[h,if_true]<;>omega
   .simp only[h,if_false]<;>omega
 .cases hi with
  |none=>simp[sliceBounds,HT.aQ]
  |some i=>
   simp only[sliceBounds,HT.aQ,Option.getD_none,show(1:Int) > 0 by decide,if_true];by_cases h:i<0
   .simp only[h,if_true]<;>omega
   .simp only[h,if_false]<;>omega
theorem sF(its:List Value)(lo hi:Option Int):slicePick its.toArray lo hi none=((its.drop (HT.aQ its.length 0 lo)).take (HT.aQ its.length its.length hi - HT.aQ its.length 0 lo)).toArray:=by
 obtain⟨h1,h2,h3⟩:=tV lo hi its.toArray.size;unfold slicePick;rw[h1,h2,h3];simp only[sliceRange_one,pick_run,List.size_toArray]<;>rfl
noncomputable def Sg(K:PySem.W.Frag):V->Option Int->Option Int->Hp->VK->Prop:=λx lo hi H Q=>∃a xs,x=.ref a/\eY K H a xs/\∀p,H p=none->Q (.ref p) (upd H p (.lst (mz xs lo hi)))
theorem Gu:kC X (Sg X.K):=by
 intro pins s σ H x v vl vu lo hi sl Q I rx hs pl pu h;obtain⟨a,xs,rfl,hx,q⟩:=h;cases rx;obtain⟨its,r,ht,hz⟩:=I.list hx;have hlen:=r.length;refine⟨"list",_,slot_list_getitem.lookup,ht.isList.typeIs,?_⟩;refine wpAny_getItem_list_slice ht.isList hs pl pu .none (by simp) ?_ (by rw[List.size_toArray]<;>omega);rw[sF,<-hlen];refine⟨.ref s.heap.objs.size,_,I.laid (t':=s.toks) (o:=.lst (mz xs lo hi)) (λb ob q=>Heap.get?_push_of_some _ q) (Nat.le_refl _) ?_,rfl,q _ (I.hok.fresh (Nat.le_refl _))⟩;exact⟨Nat.le_trans (nV xs lo hi) hz,_,0,(r.drop (HT.aQ xs.length 0 lo)).take (HT.aQ xs.length xs.length hi - HT.aQ xs.length 0 lo),Heap.get?_push_size _ rfl⟩
noncomputable def sJ:V->Bool
 |.aG=>true
 |.bl _=>true
 |.int _=>true
 |.str _=>true
 |_=>false
theorem mC:fK X (.builtin "len") (λxs H Q=>∃p ys,xs=[.ref p]/\(eY X.K H p ys\/dm X.K H p ys)/\Q (.int ys.length) H):=by
 intro pins s σ H xs us Q I r h;obtain⟨p,ys,rfl,hq,q⟩:=h;obtain⟨u,rfl,rx⟩:=vals1 r;cases rx;have hn:=ku;rcases hq with hq|hq
 .obtain⟨its,r',pl,hz⟩:=I.list hq;have hlen:=r'.length;exact Calls.call_len_list pl.isList (by simp only[List.size_toArray]<;>omega) ⟨.int ys.length,H,I.tok _,⟨s.toks+1,by rw[List.size_toArray,hlen]⟩,q⟩
 .obtain⟨its,r',pl,hz⟩:=I.tuple hq;have hlen:=r'.length;exact len_tuple pl (by simp only[List.size_toArray]<;>omega) ⟨.int ys.length,H,I.tok _,⟨s.toks+1,by rw[List.size_toArray,hlen]⟩,q⟩
theorem tW:fK X (.builtin "len") (λxs H Q=>∃z,xs=[.str z]/\z.length<=sizeLine/\Q (.int z.length) H):=by
 intro pins s σ H xs us Q I r h;obtain⟨z,rfl,hz,q⟩:=h;obtain⟨u,rfl,t,rfl⟩:=vals1 r;have hn:=ku;exact len_str (by omega) ⟨.int z.length,H,I.tok _,⟨_,rfl⟩,q⟩
theorem lR:fK X (.type "tuple") (λxs H Q=>∃p ys,xs=[.ref p]/\((eY X.K H p ys/\∀l,H l=none->Q (.ref l) (upd H l (.tup ys)))\/(dm X.K H p ys/\Q (.ref p) H))):=by
 intro pins s σ H xs us Q I r h;obtain⟨p,ys,rfl,h⟩:=h;obtain⟨u,rfl,rx⟩:=vals1 r;cases rx;rcases h with ⟨hq,q⟩|⟨hq,q⟩
 .obtain⟨its,r',pl,hz⟩:=I.list hq;have hlen:=r'.length;refine call_tuple_list pl.isList (λh' kp=>?_) (by simp only[List.size_toArray]<;>omega);have I1:Inv X pins σ H { s with heap:=h' }:=I.kept (t':=s.toks) kp;have I2:Inv X pins σ (upd H h'.objs.size (.tup ys)) { s with heap:=h'.push { cls:=.type "tuple",data:=.seq its.toArray }}:=
   I1.laid (t':=s.toks) (λb o e=>Heap.get?_push_of_some _ e) (Nat.le_refl _) (show dj X.prog X.w _ _ _ (.tup ys)from ⟨hz,its,r',IsTup.new _ _⟩)
  exact⟨.ref h'.objs.size,_,I2,rfl,q _ (I1.hok.fresh (Nat.le_refl _))⟩
 .obtain⟨its,r',pl,hz⟩:=I.tuple hq;exact call_tuple_same pl ⟨.ref p,H,I,rfl,q⟩
noncomputable def Aw(K:PySem.W.Frag)(T:String)(x:V)(H:Hp):Prop:=match x with
 |.str _=>T = "str"
 |.int _=>T = "int"
 |.ref p=>(T = "list" /\∃xs,eY K H p xs)\/(T = "tuple" /\∃o,K.lookup p=some o/\o.cls=.type "tuple" /\o.dict=none)\/
   (T = "dict" /\((∃kvs,H p=some (.dK kvs))\/∃kvs,H p=some (.dT kvs)))\/(T = "set" /\∃S n,H p=some (.set S n))
 |_=>False
theorem Ax{pins:List (Addr×Obj)}{σ:St}{H:Hp}{s:Shared}{T:String}{x:V}{v:Value}(I:Inv X pins σ H s)(r:RelV x v)(ty:Aw X.K T x H) :
  s.TypeIs v T/\∀a,v=.ref a->∃ob,s.heap.get? a=some ob/\ob.dict=none:=by
 cases x with
 |str z=>
  obtain⟨t,rfl⟩:=r;cases (show T = "str" from ty);exact⟨typeIs_str s z t,λ_ e=>nomatch e⟩
 |int i=>
  obtain⟨t,rfl⟩:=r;cases (show T = "int" from ty);exact⟨typeIs_int s i t,λ_ e=>nomatch e⟩
 |ref p=>
  cases r;rcases ty with ⟨rfl,xs,hq⟩|⟨rfl,o,hk,hc,hd⟩|⟨rfl,hk⟩|⟨rfl,S,n,hk⟩
  .obtain⟨its,_,pl,_⟩:=I.list hq;refine⟨pl.isList.typeIs,λa e=>?_⟩;cases e;obtain⟨o,n,e,c,hd,_⟩:=pl;exact⟨o,e,hd⟩
  .refine⟨⟨o,I.qW p o hk,hc⟩,λa e=>?_⟩;cases e;exact⟨o,I.qW _ o hk,hd⟩
  .have z:∃o,s.heap.get? p=some o/\o.ExactDict:=by
    rcases hk with ⟨kvs,hk⟩|⟨kvs,hk⟩
    .obtain⟨_,_,_,_,o,_,_,e,ex,_⟩:=I.hok p _ hk;exact⟨o,e,ex⟩
    .obtain⟨_,_,_,_,o,_,_,e,ex,_⟩:=I.hok p _ hk;exact⟨o,e,ex⟩
   obtain⟨o,e,ex⟩:=z;refine⟨⟨o,e,ex.1⟩,λa e2=>?_⟩;cases e2;exact⟨o,e,ex.2.1⟩
  .obtain⟨o,_,_,_,e,ex,_⟩:=I.hok p _ hk;refine⟨⟨o,e,ex.1⟩,λa e2=>?_⟩;cases e2;exact⟨o,e,ex.2.1⟩
 |_=>exact False.elim ty
noncomputable def Sh(K:PySem.W.Frag)(T:String)(r:V->List V->Hp->VK->Prop)(to:TE):TE:=λσ H Q=>to σ H λx H1=>Aw K T x H1/\r x [] H1 Q
noncomputable def Uo(K:PySem.W.Frag)(T:String)(r:V->List V->Hp->VK->Prop)(to:TE)(t:TA):TE:=λσ H Q=>to σ H λx H1=>Aw K T x H1/\t σ H1 λxs H2=>r x xs H2 Q
variable{o e:Expr}{es:List Expr}{to:TE}{t:TA}{name:Str}{apos cpos:Pos}{T id:String}{r:V->List V->Hp->VK->Prop}
theorem Jr (pa:PlainAttrs T) (slot:Slot T name id) (hty:typeOf (.builtin id)=pure (.type "method_descriptor")) (hm:rA X id r) (ho:PE X o to)
  (hbase:attributeBase o name X.env (eval o X.env)=eval o X.env:=by rfl) (hline:(apos.endLine==cpos.line)=true:=by rfl):PE X (.Call (.Attribute o name apos) [] [] cpos) (Sh X.K T r to):=by
 intro pins s σ H Q I h;refine wpAny_Call_method0_late hbase hline (bB (ho pins s σ H _ I h) λv s1 ⟨x,H1,I1,r1,ty,q1⟩=>?_);obtain⟨h1,h2⟩:=Ax I1 r1 ty;exact⟨T,id,pa,slot,hty,h1,h2,Calls.callWith_builtin rfl (PySem.evalArgs_none (hm pins s1 σ H1 x [] v [] Q I1 r1 .nil q1))⟩
theorem NN (pa:PlainAttrs T) (slot:Slot T name id) (hty:typeOf (.builtin id)=pure (.type "method_descriptor")) (hm:rA X id r) (ho:PE X o to) (ha:PA X (e :: es) t)
  (hbase:attributeBase o name X.env (eval o X.env)=eval o X.env:=by rfl)
  (hfew:((backTo cpos (starEach (e :: es) X.env)).all (λx=>!x.1)&&(backToKw cpos (keywordEach [] X.env)).all (λx=>x.1.isSome)
   &&decide ((e :: es).length+([]:List Keyword).length+(if ([]:List Keyword).isEmpty then 0 else 1)<30))=true:=by rfl)
  (hline:(apos.endLine==cpos.line)=true:=by rfl) (hs:starEach (e :: es) X.env=(false,eval e X.env) :: starEach es X.env:=by rfl) (hplain:(backTo cpos (starEach es X.env)).any (·.1)=false:=by rfl) :
  PE X (.Call (.Attribute o name apos) (e :: es) [] cpos) (Uo X.K T r to t):=by
 intro pins s σ H Q I h;refine wpAny_Call_method_late hbase hfew hline rfl (bB (ho pins s σ H _ I h) λv s1 ⟨x,H1,I1,r1,ty,q1⟩=>?_);obtain⟨h1,h2⟩:=Ax I1 r1 ty;refine⟨T,id,pa,slot,hty,h1,h2,?_⟩;have hA:=ha cpos pins s1 σ H1 _ I1 q1;rw[hs]at hA ⊢;refine Calls.callWith_builtin (by show(false || (backTo cpos (starEach es X.env)).any (·.1))=false;rw[hplain]<;>rfl) (Calls.evalArgs_plain ?_);exact bB hA λus s2 ⟨vs,H2,I2,r2,q2⟩=>hm pins s2 σ H2 x vs v us Q I2 r1 r2 q2
end
end L2
namespace L2
open PySem PySem.Spec PyProof.Rows
noncomputable def Js(X:Cx)(id:String)(r:V->List V->Hp->VK->Prop):Prop:=
 ∀(pins:List (Addr×Obj)) (s:Shared) (σ:St) (H:Hp) (x:V) (xs:List V) (v:Value) (us:List Value) (Q:VK),Inv X pins σ H s->RelV x v->Vals xs us->r x xs H Q->
  wpAny (model X.prog X.w) X.A (call (.builtin id) (v :: us)) (EP X pins σ Q) X.xe s
theorem Vals.one:∀{x:V}{us:List Value},Vals [x] us->∃u,us=[u]/\RelV x u
 |_,_,.cons r .nil=>⟨_,rfl,r⟩
theorem Vals.zero:∀{us:List Value},Vals [] us->us=[]
 |_,.nil=>rfl
theorem Vals.dropLast{xs:List V}{us:List Value}(h:Vals xs us):Vals xs.dropLast us.dropLast:=by
 induction h with
 |nil=>exact .nil
 |cons r t ih=>
  cases t with
  |nil=>exact .nil
  |cons q t'=>exact .cons r ih
theorem Vals.reverse{xs:List V}{us:List Value}(h:Vals xs us):Vals xs.reverse us.reverse:=by
 induction h with
 |nil=>exact .nil
 |cons r t ih=>rw[List.reverse_cons,List.reverse_cons];exact Vals.append ih (.cons r .nil)
theorem Vals.rep{xs:List V}{us:List Value}(h:Vals xs us):∀k:Nat,Vals (List.replicate k xs).flatten (List.replicate k us).flatten
 |0=>.nil
 |k+1=>by
  rw[List.replicate_succ,List.replicate_succ,List.flatten_cons,List.flatten_cons];exact Vals.append h (Vals.rep h k)
theorem yt{α:Type}(l:List α):l.eraseIdx (l.length - 1)=l.dropLast:=by
 induction l with
 |nil=>rfl
 |cons a r ih=>
  cases r with
  |nil=>rfl
  |cons b r=>
   have e:(a :: b :: r).length - 1=((b :: r).length - 1)+1:=by
    have h1:(a :: b :: r).length=r.length+2:=rfl;have h2:(b :: r).length=r.length+1:=rfl;omega
   rw[e,List.eraseIdx_cons_succ,ih];all_goals rfl
theorem foldl_rep(its:List Value):∀(k:Nat) (acc:List Value),
  List.foldl (λx1 x2=>x1++x2) acc.toArray (List.replicate k its.toArray)=(acc++(List.replicate k its).flatten).toArray
 |0,acc=>by simp
 |k+1,acc=>by
  have e:acc.toArray++its.toArray=(acc++its).toArray:=by simp
  have e2:(acc++its)++(List.replicate k its).flatten=acc++(List.replicate (k+1) its).flatten:=by
   rw[List.replicate_succ,List.flatten_cons,List.append_assoc]
  rw[<-e2,<-foldl_rep its k (acc++its),<-e,List.replicate_succ,List.foldl_cons]
section
variable{X:Cx}{pins:List (Addr×Obj)}{σ:St}{H:Hp}{s:Shared}{l b:Addr}{xs ys zs:List V}
theorem Inv.CK{its its':List Value}{n:Nat}{f:Array Value->Array Value}{t':Nat}(I:Inv X pins σ H s)(hH:H l=some (.lst xs))
  (e:s.heap.get? l=some { cls:=.type "list",data:=.seq its.toArray n }) (hf:f its.toArray=its'.toArray) (hv:Vals ys its') (hz:ys.length<=sizeLine) :
  Inv X pins σ (upd H l (.lst ys)) { s with heap:=s.heap.update l (Obj.mapSeq f),toks:=t' }:=by
 have q:=PySem.IsL.update e f;rw[hf]at q;refine I.write (x:=l) (e:=l) (by rw[hH];exact trivial) (.inl rfl) (λb' u hb hu=>(Heap.get?_update_other s.heap (Obj.mapSeq f) (Ne.symm hb)).trans hu) ⟨_,q⟩ ?_;exact⟨hz,its',_,hv,q⟩
theorem Inv.CL{its:List Value}{t':Nat}(I:Inv X pins σ H s)(hv:Vals ys its)(hz:ys.length<=sizeLine) :
  Inv X pins σ (upd H s.heap.objs.size (.lst ys)) { s with heap:=s.heap.push { cls:=.type "list",data:=.seq its.toArray },toks:=t' }:=
 I.laid (λ_ _ q=>Heap.get?_push_of_some _ q) (Nat.le_refl _) ⟨hz,its,0,hv,Heap.get?_push_size _ rfl⟩
theorem Inv.fresh(I:Inv X pins σ H s):H s.heap.objs.size=none:=I.hok.fresh (Nat.le_refl _)
theorem Inv.oH (I:Inv X pins σ H s) (hH:H l=some (.lst xs)):xs.length<=sizeLine/\∃(its:List Value) (n:Nat),Vals xs its/\xs.length=its.length/\s.heap.get? l=some { cls:=.type "list",data:=.seq its.toArray n }:=by
 obtain⟨z,its,n,r,e⟩:=I.hok l _ hH;exact⟨z,its,n,r,r.length,e⟩
theorem tX{n:Nat}(h:n<=sizeLine):Builtin.List.listTooLong n=false:=by
 unfold Builtin.List.listTooLong;exact decide_eq_false (by omega)
end
section
variable{X:Cx}
noncomputable def Gv:V->List V->Hp->VK->Prop:=λx vs H Q=>∃l xs y,x=.ref l/\vs=[y]/\H l=some (.lst xs)/\xs.length<sizeLine/\Q .aG (upd H l (.lst (xs++[y])))
theorem rB:Js X "list.append" Gv:=by
 intro pins s σ H x vs v us Q I rx rv h;obtain⟨l,xs,y,rfl,rfl,hH,hz,q⟩:=h;cases rx;obtain⟨u,rfl,ru⟩:=rv.one;obtain⟨z,its,n,r,hl,e⟩:=I.oH hH;refine call_meets F.slot_list_append ⟨_,e,rfl⟩ F.entry_list_append (F.args_list_append_2 _ _) (PySem.list_append l its.toArray n u (by rw[List.size_toArray];omega)) ⟨e,?_⟩;refine⟨.aG,_,I.CK (its':=its++[u]) hH e (by simp) (r.append (.cons ru .nil)) ?_,rfl,q⟩;rw[List.length_append,List.length_singleton];omega
noncomputable def Gw:V->List V->Hp->VK->Prop:=λx vs H Q=>∃l b xs zs,x=.ref l/\vs=[.ref b]/\H l=some (.lst xs)/\H b=some (.lst zs)/\xs.length+zs.length<=sizeLine/\Q .aG (upd H l (.lst (xs++zs)))
theorem Ay:Js X "list.extend" Gw:=by
 intro pins s σ H x vs v us Q I rx rv h;obtain⟨l,b,xs,zs,rfl,rfl,hH,hB,hz,q⟩:=h;cases rx;obtain⟨u,rfl,ru⟩:=rv.one;cases ru;obtain⟨z,its,n,r,hl,e⟩:=I.oH hH;obtain⟨z2,its2,n2,r2,hl2,e2⟩:=I.oH hB;have hsz:its.toArray.size+its2.toArray.size<=sizeLine:=by rw[List.size_toArray,List.size_toArray];omega
 have yu:¬ (!its.toArray.isEmpty&&Builtin.List.listTooLong (its.toArray.size+its2.toArray.size))=true:=by
  rw[tX hsz,Bool.and_false];exact Bool.false_ne_true
 refine call_meets F.slot_list_extend ⟨_,e,rfl⟩ F.entry_list_extend (F.args_list_extend_2 _ _)
  (AutoSeq1.list_extend_list_list_0 l its.toArray n b its2.toArray n2 yu (by rw[List.size_toArray];omega) (by omega)) ⟨e,e2,?_⟩
 refine⟨.aG,_,I.CK (its':=its++its2) hH e (by simp) (r.append r2) ?_,rfl,q⟩;rw[List.length_append];omega
noncomputable def Si:V->List V->Hp->VK->Prop:=λx vs H Q=>∃l xs y,x=.ref l/\vs=[]/\H l=some (.lst xs)/\xs[xs.length - 1]?=some y/\Q y (upd H l (.lst xs.dropLast))
theorem Jt:Js X "list.pop" Si:=by
 intro pins s σ H x vs v us Q I rx rv h;obtain⟨l,xs,y,rfl,rfl,hH,hy,q⟩:=h;cases rx;have Up:=rv.zero;subst Up;obtain⟨z,its,n,r,hl,e⟩:=I.oH hH;obtain⟨u,hu,ru⟩:=r.get hy;have hy':its.toArray[its.toArray.size - 1]?=some u:=by
  show its.toArray[its.length - 1]?=some u;rw[<-Array.getElem?_toList,<-hl];exact hu
 refine call_meets F.slot_list_pop ⟨_,e,rfl⟩ F.entry_list_pop (F.args_list_pop_1 _) (MeetsSeq.list_pop_last l its.toArray n u hy' (by rw[List.size_toArray];omega)) ⟨e,?_⟩;refine⟨y,_,I.CK (its':=its.dropLast) hH e ?_ r.dropLast ?_,ru,q⟩
 .show its.toArray.eraseIdxIfInBounds (its.toArray.size - 1)=its.dropLast.toArray;rw[List.size_toArray,List.eraseIdxIfInBounds_toArray,yt]
 .rw[List.length_dropLast];omega
noncomputable def Sj:R2:=λx y H Q=>∃l b xs zs,x=.ref l/\y=.ref b/\H l=some (.lst xs)/\H b=some (.lst zs)/\xs.length+zs.length<=sizeLine/\∀p,H p=none->Q (.ref p) (upd H p (.lst (xs++zs)))
theorem Ju:dh X (binaryOp .Add) Sj:=by
 intro pins s σ H x y v u Q I rx ry h;obtain⟨l,b,xs,zs,rfl,rfl,hH,hB,hz,q⟩:=h;cases rx;cases ry;obtain⟨z,its,n,r,hl,e⟩:=I.oH hH;obtain⟨z2,its2,n2,r2,hl2,e2⟩:=I.oH hB;refine PySem.P.add_list e e2 ?_ (by rw[List.size_toArray,List.size_toArray];omega);have ea:its.toArray++its2.toArray=(its++its2).toArray:=by simp
 rw[ea];exact⟨.ref _,_,I.CL (t':=s.toks) (r.append r2) (by rw[List.length_append];omega),rfl,q _ I.fresh⟩
noncomputable def Sk:R2:=λx y H Q=>∃l k xs,x=.ref l/\y=.int k/\H l=some (.lst xs)/\-(2 ^ 63)<=k/\k<2 ^ 63/\xs.length*k.toNat<=sizeLine/\
 ∀p,H p=none->Q (.ref p) (upd H p (.lst (List.replicate k.toNat xs).flatten))
theorem len_rep{α:Type}(xs:List α)(k:Nat):(List.replicate k xs).flatten.length=k*xs.length:=by
 induction k with
 |zero=>simp
 |succ k ih=>rw[List.replicate_succ,List.flatten_cons,List.length_append,ih,Nat.succ_mul,Nat.add_comm]
theorem Jv:dh X (binaryOp .Mult) Sk:=by
 intro pins s σ H x y v u Q I rx ry h;obtain⟨l,k,xs,rfl,rfl,hH,h1,h2,hz,q⟩:=h;cases rx;obtain⟨t,rfl⟩:=ry;obtain⟨z,its,n,r,hl,e⟩:=I.oH hH;have hlen:its.toArray.size*k.toNat<=sizeLine:=by rw[List.size_toArray,<-hl];exact hz
 have hcap:¬ its.toArray.size*k.toNat > (2 ^ 63 - 1) / 8:=by
  have:(sizeLine:Nat)<=(2 ^ 63 - 1) / 8:=by decide
  omega
 have hfit:¬ (!Builtin.List.listFitsIndex k)=true:=by
  rw[fitsIndex_both h1 h2];exact Bool.false_ne_true
 have yu:¬ Builtin.List.listTooLong (its.toArray.size*k.toNat)=true:=by
  rw[tX hlen];exact Bool.false_ne_true
 have hnew:List.foldl (λx1 x2=>x1++x2) #[] (List.replicate (if its.toArray.isEmpty=true then 0 else k.toNat) its.toArray)=(List.replicate k.toNat its).flatten.toArray:=by
  have f0:∀m:Nat,List.foldl (λx1 x2=>x1++x2) #[] (List.replicate m its.toArray)=(List.replicate m its).flatten.toArray:=λm=>by
   have:=foldl_rep its m [];rw[List.nil_append]at this;exact this
  rw[f0];cases its with
  |nil=>simp
  |cons a r'=>rw[if_neg (by simp)]
 refine wpAny_binaryOp_repeat_ref (T:="list") (U:="int") (by decide) ⟨_,e,rfl⟩ (λs'=>typeIs_int s' k t) noFill_list_mul F.fills_int_mul F.slot_int_rmul repeat_list F.slot_int_index.lookup
  (call_meets F.slot_int_rmul (typeIs_int s k t) F.entry_int_rmul (F.args_int_rmul_2 _ _) (int___rmul___int_list k t l its.toArray n)
   ⟨e,rfl,⟨_,e,rfl⟩,call_meets F.slot_list_mul ⟨_,e,rfl⟩ F.entry_list_mul (F.args_list_mul_2 _ _) (AutoListH.list___mul___list_int_3 l its.toArray n k t hfit hcap yu) ⟨e,?_⟩⟩)
 rw[hnew];exact⟨.ref _,_,I.CL (t':=s.toks) (r.rep k.toNat) (by rw[len_rep,Nat.mul_comm];exact hz),rfl,q _ I.fresh⟩
end
section
variable{prog:Program}{w:World}{A:Around}{E:Value->Shared->Prop}{s:Shared}
end
section
variable{X:Cx}
end
end L2
namespace P0
open PySem PySem.W PySem.Calls PyProof.Rows
theorem o7{P:Params}{h:Heap}:∀(ns:List Int) (vs:List Value),WellAll P h vs (ns.map WData.int)->IntsAre vs ns:=by
 intro ns;induction ns with
 |nil=>
  intro vs w;rw[List.map_nil]at w;cases w;exact .nil
 |cons n ns ih=>
  intro vs w;rw[List.map_cons]at w;cases w with
  |cons a b=>
   cases a;exact .cons _ _ (ih _ b)
theorem Az{l:OpenLaw}{n:Nat}(hn:l.most=some n){P:Params}{h:Heap}{args:List WData}{vals:List Value}
  (hpre:l.row.toRowW.claim.pre args=true) (hwl:WellAll P h vals args) :
  ∃a vs ns,vals=[Value.ref a]/\args=[WData.list (ns.map WData.int)]/\h.get? a=some { cls:=.type "list",data:=.seq vs.toArray }/\IntsAre vs ns/\ns.length<=n:=by
 have hsh:WShape.hasAll [] args [.list .int]=true:=(pre_splitW hpre).1;have hc:l.pre.holds [] { args:=args }=true:=(pre_splitW hpre).2;obtain⟨d,r,rfl,h1,h2⟩:=hasAllW_cons hsh;obtain rfl:=hasAllW_nil h2;obtain⟨xs,rfl,h3⟩:=hasW_list h1;obtain⟨ns,rfl⟩:=items_int h3;have hlen:ns.length<=n:=by
  unfold OpenLaw.pre at hc;have h4:(WTm.not (.lt (.lit (.int (n:Int))) (.len (.arg 0)))).holds [] { args:=[.list (ns.map .int)]}=true:=by
   have h4:=(holds_andW hc).1;rw[hn]at h4;exact h4
  have h5:=condW_of h4 (w_not (w_lt w_lit (w_len_list (w_arg rfl))));rw[List.length_map]at h5;refine Nat.le_of_not_lt λq=>?_;have q':(n:Int)<((ns.length:Nat):Int):=by omega
  first
   | (rw[decide_eq_true q']at h5;exact absurd h5 (by decide))
   | (simp at h5;omega)
 cases hwl with
 |cons w1 w2=>
  cases w2;cases w1 with
  |list ho hall=>exact⟨_,_,ns,rfl,rfl,ho,o7 ns _ hall,hlen⟩
theorem AA(l:OpenLaw)(args:List WData):l.row.toRowW.claim.post args (.bool true) args=true:=
 postW_of (r:=l.row.toRowW) (X:=(true==true))
  (show WShape.has [] (.bool true) .bool=true by first|rfl|decide|simp[WShape.has,WShape.arms,WShape.armsAll])
  (show(WTm.eq .res (.lit (.bool true))).value [] { args:=args,res:=some (.bool true),after:=args }=some (.bool (true==true))from w_eq_bool (w_res rfl) w_lit) rfl
theorem vO{l:OpenLaw}{n:Nat}{q:Program}{loose:List Str}{XP:(Str->Option Value)->Heap->Prop}{YP:World->Heap->Prop}{d:DefRec}
  (hn:l.most=some n) (hdf:d.params.defaults=[])
  (call:∀(w:World) (s₀ s₁:Shared) (mg mb:Str->Option Value) (fa:Addr) (o:Obj) (pm cd doc:Value) (a:Addr) (vs:List Value) (ns:List Int),
   Ground q loose [] XP w s₀ mg mb s₁.heap->YP w s₁.heap->
   s₁.heap.get? fa=some o->o.data=.func (docDef d.name d.params d.body d.scope pm cd doc)->s₁.heap.CodeRec cd d.name->mg d.name=some (.ref fa)->
   s₁.heap.get? a=some { cls:=.type "list",data:=.seq vs.toArray }->IntsAre vs ns->ns.length<=n->s₁.gens = #[]->
   codeAny (model l.prog w) callerA (.call (.ref fa) ⟨[.ref a],[]⟩) (λr s'=>r=.ok (.ret (.bool true))/\OldK s₁.heap s'.heap/\s'.os=s₁.os/\AllBare s'.gens) s₁) :
  WalkO q loose XP YP l.row.toRowW d [] (λf vs=>PySem.call f vs):=by
 intro w s₀ s₁ mg mb G Y fa o pm cd doc dV kV ho hd hcd hD hmg hg args vals as hpre hlay hrd hwl hlo;obtain rfl:dV=.none:=Dflts.none hD hdf;obtain rfl:kV=.none:=Dflts.noKw hD;obtain⟨a,vs,ns,rfl,rfl,hobj,hints,hlen⟩:=Az hn hpre hwl;refine enter_call (codeAny_mono (call w s₀ s₁ mg mb fa o pm cd doc a vs ns G Y ho (fd_plain hd) hcd hmg hobj hints hlen hg) λr s' hq=>?_);obtain⟨rfl,h2,h3,h4⟩:=hq;exact⟨.inl ⟨.bool true,.bool true,[],rfl,λ_=>rfl,.bool true,AA l _,λ_=>⟨List.Pairwise.nil,λ_ hm=>(nomatch hm)⟩⟩,h2,h3,h4⟩
section
variable{prog:Program}{w:World}{A:Around}{E:Value->Shared->Prop}{s:Shared}{K:Frag}
end
end P0
namespace L2
open PySem PySem.Spec PyProof.Rows
theorem rC:∀{vs:List Value}{ns:List Int},IntsAre vs ns->Vals (ns.map V.int) vs
 |_,_,.nil=>.nil
 |_,_,.cons n t h=>.cons ⟨t,rfl⟩ (rC h)
noncomputable def qu(H:Hp):Prop:=∀b,H b=none\/∃o xs,H b=some (.bL o (.lst xs))
theorem CM{P:Program}{w:World}{K:PySem.W.Frag}{mg mb:Str->Option Value}{CX:lQ}{k:Nat}{fa a:Addr}{fd:FuncData}{x:Str}{sp:Sp}{s₁:Shared}{vs:List Value}{ns:List Int}
  (KX:K.In s₁.heap) (hns:s₁.heap.Ns mainGlobals mg) (hb:s₁.heap.Ns builtinsNs mb) (Jw:∀x:Str,x≠"__name__" ->mb x=bootBuiltins x) (hlim:s₁.heap.NoLimit) (hg:s₁.gens = #[])
  (ha:s₁.heap.get? a=some { cls:=.type "list",data:=.seq vs.toArray }) (hi:IntsAre vs ns) (hl:ns.length<=sizeLine) (hr:fH k callerA)
  (F:∀base:Heap,K.In base->base.Ns mainGlobals mg->iA P w K mg base CX k fa fd [x] sp) (hbind:∀(s:Shared) (u:Value),BindsTo s fd ⟨[u],[]⟩ [(x,u)])
  (kB:∀H:Hp,qu H->eY K H a (ns.map V.int)->sp [.ref a] H (λv _=>v=.bl true) λ_ _ _=>False)
  (AB:∀H e s',CX [] H s₁ (λ_ _ _=>False) e s'->False) :
  codeAny (model P w) callerA (.call (.ref fa) ⟨[.ref a],[]⟩) (λr s'=>r=.ok (.ret (.bool true))/\OldK s₁.heap s'.heap/\s'.os=s₁.os/\AllBare s'.gens) s₁:=by
 have rv:=rC hi;have Sn:=hi.length;have core:∀H:Hp,qu H->eY K H a (ns.map V.int)->ef P w H s₁.heap->(∀b,H b≠none->b=a)->(H a≠none->K.lookup a=none)->
   codeAny (model P w) callerA (.call (.ref fa) ⟨[.ref a],[]⟩) (λr s'=>r=.ok (.ret (.bool true))/\OldK s₁.heap s'.heap/\s'.os=s₁.os/\AllBare s'.gens) s₁:=by
  intro H hO hS hok hA hK;have wO:∀{b:Addr} {o:Obj},s₁.heap.get? b=some o->H b=none->(kR s₁.heap H).get? b=some o:=λe n=>Cr e n;have Au:∀{b:Addr} {o:Obj} {es:Array DictEntry} {ep:Nat},s₁.heap.get? b=some o->o.data=.dict es ep->H b=none:=λ{b o es ep} e d=>by
   cases q:H b with
   |none=>rfl
   |some u=>
    have e':b=a:=hA b (by rw[q];simp);subst e';rw[ha]at e;cases e;have d':Data.seq vs.toArray _=Data.dict es ep:=d;cases d'
  have EJ:∀{b:Addr} {m:Str->Option Value},s₁.heap.Ns b m->(kR s₁.heap H).Ns b m:=λ{b m} ⟨o,es,ep,e,d,r⟩=>⟨o,es,ep,wO e (Au e d),d,r⟩
  have P1:K.In (kR s₁.heap H):=λb o e=>wO (KX b o e) (by
   cases q:H b with
   |none=>rfl
   |some u=>
    have e':b=a:=hA b (by rw[q];simp);subst e';rw[hK (by rw[q];simp)]at e;cases e)
  have hM:Mod K mg (kR s₁.heap H):=⟨P1,EJ hns,⟨mb,EJ hb,Jw⟩,let ⟨mc,h1,h2⟩:=hlim;⟨mc,EJ h1,h2⟩⟩
  have e0:yp P w K mg (kR s₁.heap H) callerA [] s₁ H:=⟨rfl,hM,λb o e=>Ga e,Nat.le_of_eq (Ae _ _),trivial,λb hb=>absurd (show b∈([]:List Addr)from hb) (by simp),hok,.of_eq hg⟩
  refine codeAny_mono ((F _ P1 (EJ hns)).run callerA [] s₁ H ⟨[.ref a],[]⟩ [.ref a] [.ref a] _ _ hr e0 (hbind s₁ (.ref a)) (.cons rfl .nil) (kB H hO hS)) λr s' h=>?_;cases r with
  |error e=>exact(AB H e s' h).elim
  |ok fl=>
   cases fl with
   |next=>exact False.elim h
   |brk=>exact False.elim h
   |cont=>exact False.elim h
   |ret u=>
    obtain⟨v,H',os,bare,un,So,r',q⟩:=h;have q':v=.bl true:=q;subst q';obtain rfl:u=Value.bool true:=r';refine⟨rfl,OldK.of_keep λb o e=>?_,os,bare⟩;cases q:H b with
    |none=>exact un.keep b o e q (by intro z;exact absurd (show b∈([]:List Addr)from z) (by simp)) (by simp)
    |some u=>
     rcases hO b with z|⟨ob,xs,z⟩
     .rw[q]at z;cases z
     .have z2:=un.kQ b ob _ z;obtain⟨e1,_⟩:=hok b _ z;obtain⟨e2,_⟩:=So b _ z2;rw[e]at e1;cases e1;exact e2
 cases hk:K.lookup a with
 |some o=>
  have e:=KX a o hk;rw[ha]at e;cases e;refine core (λ_=>none) (λ_=>.inl rfl) (.inr ⟨_,vs.toArray,_,hk,rfl,rfl,rfl,by rw[List.size_toArray,Sn];exact hl,by simpa using rv⟩) (λb u z=>by have z':(none:Option HO)=some u:=z;cases z') (λb z=>absurd rfl z) λz=>absurd rfl z
 |none=>
  refine core (λb=>if b=a then some (.bL { cls:=.type "list",data:=.seq vs.toArray } (.lst (ns.map V.int)))else none) (λb=>?_) (.inl (.inr ⟨{ cls:=.type "list",data:=.seq vs.toArray },if_pos rfl⟩)) (λb u z=>?_) (λb z=>?_) λ_=>hk
  .by_cases hb:b=a
   .exact .inr ⟨_,_,if_pos hb⟩
   .exact .inl (if_neg hb)
  .by_cases hb:b=a
   .have z':=(if_pos hb).symm.trans z;cases z';subst hb;exact⟨ha,by rw[List.length_map];exact hl,vs,_,rv,ha⟩
   .have z':=(if_neg hb).symm.trans z;cases z'
  .by_cases hb:b=a
   .exact hb
   .exact absurd (if_neg hb) z
end L2
namespace L2
open PySem PySem.Spec PyProof.Rows
theorem Gx{l:PySem.W.OpenLaw}{n k:Nat}{q:Program}{loose:List Str}{XP:(Str->Option Value)->Heap->Prop}{YP:World->Heap->Prop}{d:DefRec}{K:Params->PySem.W.Frag}{CX:World->lQ}{sp:World->Sp}{x:Str}
  (hn:l.most=some n) (hn2:n<=sizeLine) (hdf:d.params.defaults=[]) (hr:fH k callerA)
  (hY:∀(w:World) (h:Heap),YP w h->(K w.params).In h)
  (F:∀(w:World) (mg:Str->Option Value) (fa:Addr) (h:Heap),(K w.params).In h->h.Ns mainGlobals mg->mg d.name=some (.ref fa)->
   ∃fd:FuncData,(∀(s:Shared) (u:Value),BindsTo s fd ⟨[u],[]⟩ [(x,u)])/\
    ∀base:Heap,(K w.params).In base->base.Ns mainGlobals mg->iA l.prog w (K w.params) mg base (CX w) k fa fd [x] (sp w))
  (kB:∀(w:World) (H:Hp) (a:Addr) (ns:List Int),ns.length<=n->qu H->eY (K w.params) H a (ns.map V.int)->sp w [.ref a] H (λv _=>v=.bl true) λ_ _ _=>False)
  (AB:∀(w:World) (H:Hp) (s:Shared) (e:Value) (s':Shared),CX w [] H s (λ_ _ _=>False) e s'->False) :
  PySem.W.WalkO q loose XP YP l.row.toRowW d [] (λf vs=>PySem.call f vs):=by
 refine P0.vO hn hdf λw s₀ s₁ mg mb fa o pm cd doc a vs ns G Y ho hd hcd hmg hobj hints hlen hg=>?_;have KX:=hY w _ Y;obtain⟨fd,hb,hF⟩:=F w mg fa _ KX G.T.g hmg;exact CM KX G.T.g G.T.b G.T.builtins G.T.nolimit hg hobj hints (Nat.le_trans hlen hn2) hr hF hb (λH hO hS=>kB w H a ns hlen hO hS) λH e s'=>AB w H s₁ e s'
theorem CN{l:PySem.W.OpenLaw}{n k:Nat}{q:Program}{loose:List Str}{XP:(Str->Option Value)->Heap->Prop}{YP:World->Heap->Prop}{d:DefRec}{K:Params->PySem.W.Frag}{CX:lQ}{sp:PySem.W.Frag->Sp}{x:Str}
  (hn:l.most=some n) (hn2:n<=sizeLine) (hdf:d.params.defaults=[]) (hr:fH k callerA)
  (hY:∀(w:World) (h:Heap),YP w h->(K w.params).In h)
  (F:∀(w:World) (mg:Str->Option Value) (fa:Addr) (h:Heap),(K w.params).In h->h.Ns mainGlobals mg->mg d.name=some (.ref fa)->
   ∃fd:FuncData,(∀(s:Shared) (u:Value),BindsTo s fd ⟨[u],[]⟩ [(x,u)])/\
    ∀base:Heap,(K w.params).In base->base.Ns mainGlobals mg->iA l.prog w (K w.params) mg base CX k fa fd [x] (sp (K w.params)))
  (kB:∀(K:PySem.W.Frag) (H:Hp) (a:Addr) (ns:List Int),ns.length<=n->qu H->eY K H a (ns.map V.int)->sp K [.ref a] H (λv _=>v=.bl true) λ_ _ _=>False)
  (AB:∀(H:Hp) (s:Shared) (e:Value) (s':Shared),CX [] H s (λ_ _ _=>False) e s'->False) :
  PySem.W.WalkO q loose XP YP l.row.toRowW d [] (λf vs=>PySem.call f vs):=
 Gx (K:=K) (CX:=λ_=>CX) (sp:=λw=>sp (K w.params)) hn hn2 hdf hr hY F (λw H a ns h1 h2 h3=>kB (K w.params) H a ns h1 h2 h3) λ_ H s e s'=>AB H s e s'
end L2
namespace L2
open PySem PySem.Spec PyProof.Rows
noncomputable def nj(s:Stmt):Arguments:=match s with
 |.FunctionDef _ a _ _ _ _ _ _ _ _=>a
 |_=>{ posonlyargs:=[],args:=[],vararg:=none,kwonlyargs:=[],kw_defaults:=[],kwarg:=none,defaults:=[]}
noncomputable def gE(s:Stmt):List Stmt:=match s with
 |.FunctionDef _ _ b _ _ _ _ _ _ _=>b
 |_=>[]
noncomputable def aO(s:Stmt):Scope:=match s with
 |.FunctionDef _ _ _ _ _ _ sc _ _ _=>sc
 |_=>{ kind:=.function,names:=[],isGenerator:=false,isCoroutine:=false }
abbrev mD:lQ:=λ_ _ _ _ _ _=>False
abbrev E0:XK:=λ_ _ _=>False
theorem NO{X:Cx}:Passes mD X E0:=λ_ _ _ _ _ _ _ h=>h.elim
structure rD(K:PySem.W.Frag)(x qual:Str)(st:Stmt)(f:Addr)(fd:FuncData):Prop where
 ex:∃(oc:Value) (od:Option Addr) (kV doc pm:Value) (an:Option Addr) (cdv ct:Value) (osl:Array (Option Value)),
  fd=PySem.W.fnOf x qual (nj st) (gE st) (aO st) .none kV doc pm an cdv ct/\K.lookup f=some ⟨oc,od,.func fd,osl⟩/\PySem.W.codeIn K cdv qual=true
 kp:PySem.W.keepIn K (.ref f)=true
section
variable{P:Program}{w:World}{K:PySem.W.Frag}{mg:Str->Option Value}{base:Heap}
theorem rD.ok{x qual:Str}{st:Stmt}{f:Addr}{fd:FuncData}{N ps:List Str}{k:Nat}{sp:Sp}(F:rD K x qual st f fd)(S:bD N ps (aO st))(len:∀vs H Q E,sp vs H Q E->vs.length=ps.length)
  (hbody:∀(cdv:Value) (A:Around) (outer:List Env) (s:Shared) (H:Hp) (vs:List V) (Q:VK) (E:XK),fH k (A.deeper (envOfC qual (aO st) s.heap.objs.size f cdv))->sp vs H Q E->
   ∃t,gU (oG mD P w K mg base N qual (aO st) f cdv A outer s H E).qX (gE st) t/\t { nx:=λ_ H'=>Q .aG H',rt:=Q } (start N vs) H):iA P w K mg base mD (k+1) f fd ps sp:=by
 obtain⟨oc,od,kV,doc,pm,an,cdv,ct,osl,rfl,lk,hcd⟩:=F.ex;refine NI lk hcd S len λA outer s H vs Q E hr kB=>?_;obtain⟨t,h,q⟩:=hbody cdv A outer s H vs Q E hr kB;exact⟨t,h.qX,q⟩
theorem rD.binds{x qual:Str}{st:Stmt}{f:Addr}{fd:FuncData}{ps:List Str}(F:rD K x qual st f fd)
  (h:∀(kV doc pm:Value) (an:Option Addr) (cdv ct:Value) (us:List Value),us.length=ps.length->bindArgs (PySem.W.fnOf x qual (nj st) (gE st) (aO st) .none kV doc pm an cdv ct) ⟨us,[]⟩=pure (ps.zip us)):Binds K fd ps []:=by
 obtain⟨oc,od,kV,doc,pm,an,cdv,ct,osl,rfl,lk,hcd⟩:=F.ex;exact .all (h kV doc pm an cdv ct)
theorem bZ{x qual:Str}{st:Stmt}{f:Addr}{oc:Value}{od an:Option Addr}{osl:Array (Option Value)}{kV doc pm cdv ct:Value}(l:K.lookup f=some ⟨oc,od,.func (PySem.W.fnOf x qual (nj st) (gE st) (aO st) .none kV doc pm an cdv ct),osl⟩)
  (c:PySem.W.codeIn K cdv qual=true) (k:PySem.W.keepIn K (.ref f)=true):rD K x qual st f (PySem.W.fnOf x qual (nj st) (gE st) (aO st) .none kV doc pm an cdv ct):=⟨⟨oc,od,kV,doc,pm,an,cdv,ct,osl,rfl,l,c⟩,k⟩
end
theorem EK{A:Around}{k:Nat}(hr:fH k A):A.units+1<cLine:=Nat.lt_of_le_of_lt (Nat.add_le_add_left (by decide:1<=64) _) hr.units
section
variable{X:Cx}
theorem pv (i:Nat) {x:Str}{pos:Pos}(hN:X.N[i]?=some x:=by rfl) (hv:Af X.env.scope x:=by first|exact Or.inl rfl|exact Or.inr (Or.inl rfl)|exact Or.inr (Or.inr rfl)) (hd:(x==("__debug__" : Str))=false:=by decide)
  (hcd:(x==("__classdict__" : Str))=false:=by decide):PE X (.Name x pos) (IF i):=Ai hN hv hd hcd
end
end L2
set_option maxRecDepth 100000
namespace L2
open PySem PySem.Spec PyProof.Rows
section
variable{κ:Type}[DecidableEq κ]
noncomputable def iB(kvs:List (κ×V))(k:κ):Option V:=(kvs.find? λkv=>decide (kv.1=k)).map (·.2)
noncomputable def putK(kvs:List (κ×V))(k:κ)(v:V):List (κ×V):=
 if (kvs.any λkv=>decide (kv.1=k))=true then kvs.map (λkv=>if kv.1=k then (kv.1,v)else kv)else kvs++[(k,v)]
theorem oJ{p:κ×V}{r:List (κ×V)}{k:κ}(e:p.1=k):iB (p :: r) k=some p.2:=by simp[iB,List.find?_cons,e]
theorem oK{p:κ×V}{r:List (κ×V)}{k:κ}(e:¬ p.1=k):iB (p :: r) k=iB r k:=by simp[iB,List.find?_cons,e]
theorem tY(k:κ):∀kvs:List (κ×V),(kvs.any λkv=>decide (kv.1=k))=(iB kvs k).isSome
 |[]=>rfl
 |p :: r=>by
  rw[List.any_cons];by_cases e:p.1=k
  .simp only[oJ e,decide_eq_true e,Bool.true_or,Option.isSome_some]
  .rw[oK e,decide_eq_false e,Bool.false_or];exact tY k r
theorem kg(kvs:List (κ×V))(k:κ)(v:V):(putK kvs k v).length<=kvs.length+1:=by
 unfold putK;split
 .rw[List.length_map];omega
 .rw[List.length_append,List.length_cons,List.length_nil];omega
theorem lX.AD{o:Option V}{u:Option Value}(r:lX o u):o.isSome=u.isSome:=by
 cases o with
 |none=>cases u with
  |none=>rfl
  |some _=>exact(show False from r).elim
 |some _=>cases u with
  |none=>exact(show False from r).elim
  |some _=>rfl
theorem lX.getD{o:Option V}{u:Option Value}{d:V}{d':Value}(r:lX o u)(rd:RelV d d'):RelV (o.getD d) (u.getD d'):=by
 cases o with
 |none=>cases u with
  |none=>exact rd
  |some _=>exact(show False from r).elim
 |some _=>cases u with
  |none=>exact(show False from r).elim
  |some _=>exact r
theorem KV.val{kvs:List (κ×V)}{vs:List (κ×Value)}(r:KV kvs vs)(k:κ):lX (iB kvs k) (valueAt vs k):=by
 unfold KV at r;induction r with
 |nil=>exact True.intro
 |@cons p q ps qs h t ih=>
  obtain⟨h1,h2⟩:=h;by_cases e:p.1=k
  .have e':q.1=k:=h1.symm.trans e;have b:valueAt (q :: qs) k=some q.2:=by simp[valueAt,List.find?_cons,e']
   rw[oJ e,b];exact h2
  .have e':¬ q.1=k:=λz=>e (h1.trans z);have b:valueAt (q :: qs) k=valueAt qs k:=by simp[valueAt,List.find?_cons,e']
   rw[oK e,b];exact ih
theorem KV.any{kvs:List (κ×V)}{vs:List (κ×Value)}(r:KV kvs vs)(k:κ):(kvs.any λkv=>decide (kv.1=k))=vs.any λkv=>decide (kv.1=k):=by
 unfold KV at r;induction r with
 |nil=>rfl
 |cons h t ih=>rw[List.any_cons,List.any_cons,ih,h.1]
theorem KV.repl{kvs:List (κ×V)}{vs:List (κ×Value)}(r:KV kvs vs)(k:κ){y:V}{u:Value}(ry:RelV y u) :
  KV (kvs.map λkv=>if kv.1=k then (kv.1,y)else kv) (vs.map λkv=>if kv.1=k then (kv.1,u)else kv):=by
 unfold KV at r ⊢;induction r with
 |nil=>exact .nil
 |@cons p q ps qs h t ih=>
  rw[List.map_cons,List.map_cons];refine .cons ?_ ih;obtain⟨h1,h2⟩:=h;by_cases e:p.1=k
  .rw[if_pos e,if_pos (h1.symm.trans e)];exact⟨h1,ry⟩
  .rw[if_neg e,if_neg (λz=>e (h1.trans z))];exact⟨h1,h2⟩
theorem KV.put{kvs:List (κ×V)}{vs:List (κ×Value)}(r:KV kvs vs)(k:κ){y:V}{u:Value}(ry:RelV y u):KV (putK kvs k y) (stored vs k u):=by
 unfold putK stored;rw[r.any k];by_cases e:(vs.any λkv=>decide (kv.1=k))=true
 .rw[if_pos e,if_pos e];exact r.repl k ry
 .rw[if_neg e,if_neg e];exact Paired.snoc r ⟨rfl,ry⟩
theorem KV.length{kvs:List (κ×V)}{vs:List (κ×Value)}(r:KV kvs vs):kvs.length=vs.length:=Paired.length r
end
theorem yv{P:Program}{w:World}{k:Key}{u:Value}(r:RelV (kV k) u):(cL P w).is k u=true:=by
 cases k with
 |inl i=>obtain⟨t,e⟩:=(show ∃t,u=Value.int i t from r);subst e;exact vM P w i t
 |inr x=>obtain⟨t,e⟩:=(show ∃t,u=Value.str x t from r);subst e;exact vN P w x t
theorem rE{P:Program}{w:World}:∀{ks:List Key}{us:List Value},Vals (ks.map kV) us->ItemsAre (cL P w) ks us
 |[],_,r=>by rw[List.map_nil]at r;cases r;exact .nil
 |k :: ks,_,r=>by
  rw[List.map_cons]at r;cases r with
  |cons h t=>exact .cons (yv h) (rE t)
abbrev KT(H:Hp):List (List Key×V)->List (List Key×Addr×Value)->Prop:=Paired λp q=>p.1=q.1/\H q.2.1=some (.tup (p.1.map kV))/\RelV p.2 q.2.2
theorem KT.val{H:Hp}{kvs:List (List Key×V)}{xs:List (List Key×Addr×Value)}(r:KT H kvs xs)(k:List Key):lX (iB kvs k) ((atKey xs k).map (·.2)):=by
 induction r with
 |nil=>exact True.intro
 |@cons p q ps qs h t ih=>
  obtain⟨h1,_,h2⟩:=h;by_cases e:p.1=k
  .have e':q.1=k:=h1.symm.trans e;have b:atKey (q :: qs) k=some q.2:=by simp[atKey,List.find?_cons,e']
   rw[oJ e,b];exact h2
  .have e':¬ q.1=k:=λz=>e (h1.trans z);have b:atKey (q :: qs) k=atKey qs k:=by simp[atKey,List.find?_cons,e']
   rw[oK e,b];exact ih
theorem KT.repl{H:Hp}{kvs:List (List Key×V)}{xs:List (List Key×Addr×Value)}(r:KT H kvs xs)(k:List Key){y:V}{u:Value}(ry:RelV y u) :
  KT H (kvs.map λkv=>if kv.1=k then (kv.1,y)else kv) (xs.map (putAt k u)):=by
 induction r with
 |nil=>exact .nil
 |@cons p q ps qs h t ih=>
  rw[List.map_cons,List.map_cons];refine .cons ?_ ih;obtain⟨h1,h2,h3⟩:=h;unfold putAt;by_cases e:p.1=k
  .rw[if_pos e,if_pos (h1.symm.trans e)];exact⟨h1,h2,ry⟩
  .rw[if_neg e,if_neg (λz=>e (h1.trans z))];exact⟨h1,h2,h3⟩
theorem KT.put{H:Hp}{kvs:List (List Key×V)}{xs:List (List Key×Addr×Value)}(r:KT H kvs xs)(k:List Key){b:Addr}{y:V}{u:Value}(hb:H b=some (.tup (k.map kV)))(ry:RelV y u) :
  KT H (putK kvs k y) (storedH xs k b u):=by
 have e:(kvs.any λkv=>decide (kv.1=k))=(atKey xs k).isSome:=by
  rw[tY,(r.val k).AD,Option.isSome_map]
 unfold putK storedH;rw[e];by_cases q:(atKey xs k).isSome=true
 .rw[if_pos q,if_pos q];exact r.repl k ry
 .rw[if_neg q,if_neg q];exact Paired.snoc r ⟨rfl,hb,ry⟩
theorem KT.keeps{H H':Hp}{kvs:List (List Key×V)}{xs:List (List Key×Addr×Value)}(r:KT H kvs xs)(ht:∀b ys,H b=some (.tup ys)->H' b=some (.tup ys)):KT H' kvs xs:=
 Paired.Cq r λ_ _ z=>⟨z.1,ht _ _ z.2.1,z.2.2⟩
section
variable{P:Program}{w:World}{H:Hp}{h:Heap}{a:Addr}
theorem EL{u:HO}(ok:ef P w H h)(e:Rd H a u):dj P w H h a u:=e.ok ok
theorem yw{kvs:List (Key×V)}(ok:ef P w H h)(e:Rd H a (.dK kvs)):kvs.length<=sizeLine/\(a==sysModules)=false/\∃vs,KV kvs vs/\h.DictOf (cL P w) a vs:=
 show dj P w H h a (.dK kvs)from EL ok e
theorem yx{kvs:List (Key×V)}(ok:ef P w H h)(e:H a=some (.dK kvs)):kvs.length<=sizeLine/\(a==sysModules)=false/\∃vs,KV kvs vs/\h.DictOf (cL P w) a vs:=yw ok (.inl e)
theorem tZ{ks:List Key}(ok:ef P w H h)(e:H a=some (.tup (ks.map kV))):(tupleKind (cL P w)).is h ks a:=by
 obtain⟨_,its,r,o,h1,h2,n,h3⟩:=(show dj P w H h a (.tup (ks.map kV))from ok a _ e)
 exact⟨o,its.toArray,n,h1,h2,h3,by simpa using rE r⟩
theorem yy{kvs:List (List Key×V)}(ok:ef P w H h)(e:Rd H a (.dT kvs)):kvs.length<=sizeLine/\(a==sysModules)=false/\
  ∃xs,KT H kvs xs/\h.DictOfH (tupleKind (cL P w)) a xs:=by
 obtain⟨z,y,xs,r,o,es,ep,h1,h2,h3,h4,h5⟩:=(show dj P w H h a (.dT kvs)from EL ok e)
 refine⟨z,y,xs,r,o,es,ep,h1,h2,h3,h4,λx hx=>?_,h5⟩;have all:∀{l:List (List Key×V)} {m:List (List Key×Addr×Value)},KT H l m->∀x∈m,(tupleKind (cL P w)).is h x.1 x.2.1:=by
  intro l m q;induction q with
  |nil=>intro x hx;exact nomatch hx
  |@cons p q ps qs hq t ih=>
   intro x hx;rcases List.mem_cons.mp hx with e|hx
   .subst e;exact tZ ok (by rw[<-hq.1];exact hq.2.1)
   .exact ih x hx
 exact all r x hx
theorem NP{kvs:List (List Key×V)}(ok:ef P w H h)(e:H a=some (.dT kvs)):kvs.length<=sizeLine/\(a==sysModules)=false/\
  ∃xs,KT H kvs xs/\h.DictOfH (tupleKind (cL P w)) a xs:=yy ok (.inl e)
end
noncomputable def t6(H:Hp)(a:Addr)(y:V)(r:Option V):Prop:=
 (∃kvs k,Rd H a (.dK kvs)/\y=kV k/\r=iB kvs k)\/∃kvs k b,Rd H a (.dT kvs)/\y=.ref b/\H b=some (.tup (k.map kV))/\r=iB kvs k
noncomputable def t7(H:Hp)(a:Addr)(y v:V)(H':Hp):Prop:=
 (∃kvs k,H a=some (.dK kvs)/\y=kV k/\kvs.length<sizeLine/\H'=upd H a (.dK (putK kvs k v)))\/
 ∃kvs k b,H a=some (.dT kvs)/\y=.ref b/\H b=some (.tup (k.map kV))/\kvs.length<sizeLine/\H'=upd H a (.dT (putK kvs k v))
theorem t6.k{H:Hp}{a:Addr}{kvs:List (Key×V)}{k:Key}(e:H a=some (.dK kvs)):t6 H a (kV k) (iB kvs k):=.inl ⟨kvs,k,.inl e,rfl,rfl⟩
theorem t7.k{H:Hp}{a:Addr}{kvs:List (Key×V)}{k:Key}{v:V}(e:H a=some (.dK kvs))(hl:kvs.length<sizeLine):t7 H a (kV k) v (upd H a (.dK (putK kvs k v))):=.inl ⟨kvs,k,e,rfl,hl,rfl⟩
section
variable{X:Cx}{pins:List (Addr×Obj)}{σ:St}{H:Hp}{s:Shared}{a:Addr}{y v:V}{u r:Value}{o:Option V}{A:Around}{E:Value->Shared->Prop}
theorem Inv.big(I:Inv X pins σ H s):sysModules<s.heap.objs.size:=by
 have h:mainGlobals<s.heap.objs.size:=(I.mod.glob.keeps I.bk).lt;exact Nat.lt_trans (by decide) h
theorem qv{h':Heap}{t':Nat}{ob:HO}(I:Inv X pins σ H s)(mu:Ad (H a))(hs:Heap.SameBut a s.heap h')(he:∃q,h'.get? a=some q)(new:dj X.prog X.w (upd H a ob) h' a ob) :
  Inv X pins σ (upd H a ob) { s with heap:=h',toks:=t' }:=
 I.write (x:=a) (e:=a) mu (.inl rfl) (λb q hb z=>(hs.2 b hb).trans z) he new
theorem AE{P:Program}{w:World}{H':Hp}{h':Heap}{kvs:List (Key×V)}{vs:List (Key×Value)}(z:kvs.length<=sizeLine)(hd:(a==sysModules)=false)(rel:KV kvs vs)(dd:h'.DictOf (cL P w) a vs) :
  dj P w H' h' a (.dK kvs):=⟨z,hd,vs,rel,dd⟩
theorem AF{H':Hp}{Q:Unit->Shared->Prop}(hu:A.units+1<cLine)(I:Inv X pins σ H s)(g:t7 H a y v H')(ry:RelV y u)(rv:RelV v r)(h:∀s',Inv X pins σ H' s'->Q () s') :
  wpAny (model X.prog X.w) A (setItem (.ref a) u r) Q E s:=by
 rcases g with ⟨kvs,k,e,ey,l,eH⟩|⟨kvs,k,b,e,ey,eb,l,eH⟩
 .subst ey eH;obtain⟨z,hd,vs,rel,dd⟩:=yx I.hok e;have hz:vs.length<=sizeLine:=by rw[<-rel.length];exact z
  have hl:(putK kvs k v).length<=sizeLine:=by have:=kg kvs k v;omega
  refine wpAny_setItem_pairs (hsz:=hz) (yv ry) dd λh' t8 hs=>h _ ?_;have he:∃q,h'.get? a=some q:=let ⟨q,_,_,hq,_⟩:=t8;⟨q,hq⟩;exact qv I (by rw[e];exact True.intro) hs he (AE hl hd (rel.put k rv) t8)
 .subst ey eH;cases (show u=Value.ref b from ry);obtain⟨z,hd,xs,rel,dd⟩:=NP I.hok e;have hz:xs.length<=sizeLine:=by rw[<-Paired.length rel];exact z
  have hl:(putK kvs k v).length<=sizeLine:=by have:=kg kvs k v;omega
  refine wpAny_setItem_heap (hsz:=hz) (tupleKind_room_in1 hu) (tZ I.hok eb) dd λh' t8 hs=>h _ ?_;obtain⟨q,es,ep,hq,h2,h3,h4,_,h5⟩:=t8;refine qv I (by rw[e];exact True.intro) hs ⟨q,hq⟩ ⟨hl,hd,_,(rel.put k eb rv).keeps λc ys ec=>?_,q,es,ep,hq,h2,h3,h4,h5⟩;rw[aS (gT ec e (λz=>nomatch z))];exact ec
end
section
variable{X:Cx}{pins:List (Addr×Obj)}{σ:St}{H:Hp}{s:Shared}{a:Addr}{kvs:List (Key×V)}{k:Key}{u:Value}{A:Around}{E:Value->Shared->Prop}
end
noncomputable def NQ(td ty tv:TE):TS:=λD σ H=>tv σ H λv H1=>td σ H1 λx H2=>ty σ H2 λy H3=>∃a H4,x=.ref a/\t7 H3 a y v H4/\D.nx σ H4
section
variable{X:Cx}{o i e value:Expr}{pos pos' tpos:Pos}{td ty tv:TE}
theorem Gy(hu:X.A.units+1<cLine)(ho:PE X o td)(hi:PE X i ty)(hv:PE X value tv)(hs:swapsWith value (some (.Subscript o i pos')) pos.line X.env=pure false) :
  PS X (.Assign [.Subscript o i pos'] value pos) (NQ td ty tv):=by
 intro pins s σ H D I h;refine wpAny_Assign_Subscript (bB (hv pins s σ H _ I h) λr s1 ⟨v,H1,I1,rv,q1⟩=>bB (ho pins s1 σ H1 _ I1 q1) λu s2 ⟨x,H2,I2,rx,q2⟩=>bB (hi pins s2 σ H2 _ I2 q2) λiv s3 ⟨y,H3,I3,ry,a,H4,ex,g,q3⟩=>?_) hs;subst ex;obtain rfl:u=Value.ref a:=rx;exact AF hu I3 g ry rv λs4 I4=>⟨σ,H4,I4,q3⟩
end
theorem CO {P:Program}{w:World}{H:Hp}(h:Heap) (hb:sysModules<h.objs.size):dj P w H (h.push { cls:=.type "dict",data:=.dict #[]}) h.objs.size (.dK []):=
 ⟨Nat.zero_le _,beq_eq_false_iff_ne.mpr (Ne.symm (Nat.ne_of_lt hb)),[],.nil,Heap.DictOf.new h⟩
noncomputable def Jx:TE:=λ_ H Q=>∀p,H p=none->Q (.ref p) (upd H p (.dK []))
section
variable{X:Cx}{pos:Pos}
theorem CP:PE X (.Dict [] [] pos) Jx:=λpins s σ H Q I h=>
 wpAny_Dict_empty ⟨.ref s.heap.objs.size,_,I.laid (a:=s.heap.objs.size) (o:=.dK []) (t':=s.toks) (λ_ _ q=>Heap.get?_push_of_some _ q) (Nat.le_refl _) (CO s.heap I.big),rfl,h _ (I.hok.fresh (Nat.le_refl _))⟩
end
noncomputable def jA(kvs more:List (Key×V)):List (Key×V):=more.foldl (λacc kv=>putK acc kv.1 kv.2) kvs
theorem KV.merge:∀{more:List (Key×V)}{rs:List (Key×Value)}{kvs:List (Key×V)}{vs:List (Key×Value)},KV more rs->KV kvs vs->KV (jA kvs more) (merged vs rs):=by
 intro more rs kvs vs r;unfold KV at r;induction r generalizing kvs vs with
 |nil=>intro q;exact q
 |@cons p q ps qs h t ih=>
  intro r0;have e:KV (putK kvs p.1 p.2) (stored vs q.1 q.2):=by
   have:=r0.put p.1 h.2;rw[<-h.1];exact this
  exact ih e
theorem lS:∀(more kvs:List (Key×V)),(jA kvs more).length<=kvs.length+more.length
 |[],kvs=>by show kvs.length<=kvs.length+0;omega
 |p :: r,kvs=>by
  have h1:=lS r (putK kvs p.1 p.2);have h2:=kg kvs p.1 p.2;show(jA (putK kvs p.1 p.2) r).length<=_;rw[List.length_cons];omega
structure M1(X:Cx)(o:Expr)(m:Str)(apos:Pos)(e:Expr)(cpos:Pos):Prop where
 base:attributeBase o m X.env (eval o X.env)=eval o X.env
 few:((backTo cpos (starEach [e] X.env)).all (λx=>!x.1)&&(backToKw cpos (keywordEach [] X.env)).all (λx=>x.1.isSome)
  &&decide (([e]:List Expr).length+([]:List Keyword).length+(if ([]:List Keyword).isEmpty then 0 else 1)<30))=true
 line:(apos.endLine==cpos.line)=true
 trees:backTo cpos (starEach [e] X.env)=[(false,eval e X.env)]
structure M2(X:Cx)(o:Expr)(m:Str)(apos:Pos)(e f:Expr)(cpos:Pos):Prop where
 base:attributeBase o m X.env (eval o X.env)=eval o X.env
 few:((backTo cpos (starEach [e,f] X.env)).all (λx=>!x.1)&&(backToKw cpos (keywordEach [] X.env)).all (λx=>x.1.isSome)
  &&decide (([e,f]:List Expr).length+([]:List Keyword).length+(if ([]:List Keyword).isEmpty then 0 else 1)<30))=true
 line:(apos.endLine==cpos.line)=true
 trees:backTo cpos (starEach [e,f] X.env)=[(false,eval e X.env),(false,eval f X.env)]
noncomputable def Jy(H:Hp)(a:Addr):Prop:=(∃kvs,Rd H a (.dK kvs))\/∃kvs,Rd H a (.dT kvs)
theorem AG{X:Cx}{pins:List (Addr×Obj)}{σ:St}{H:Hp}{s:Shared}{a:Addr}(I:Inv X pins σ H s)(d:Jy H a) :
  s.TypeIs (.ref a) "dict" /\(∀b,Value.ref a=.ref b->∃ob,s.heap.get? b=some ob/\ob.dict=none)/\(a==sysModules)=false:=by
 rcases d with ⟨kvs,e⟩|⟨kvs,e⟩
 .obtain⟨_,hd,vs,_,dd⟩:=yw I.hok e;refine⟨dd.typeIs,λb q=>?_,hd⟩;cases q;obtain⟨ob,_,_,h1,h2,_⟩:=dd;exact⟨ob,h1,h2.2.1⟩
 .obtain⟨_,hd,xs,_,dd⟩:=yy I.hok e;refine⟨dd.typeIs,λb q=>?_,hd⟩;cases q;obtain⟨ob,_,_,h1,h2,_⟩:=dd;exact⟨ob,h1,h2.2.1⟩
section
variable{X:Cx}{pins:List (Addr×Obj)}{σ:St}{H:Hp}{s:Shared}{a:Addr}{y d:V}{u r:Value}{o:Option V}{A:Around}{E:Value->Shared->Prop}
theorem Jz{Q:Value->Shared->Prop}(hu:A.units+1<cLine)(I:Inv X pins σ H s)(g:t6 H a y o)(ry:RelV y u)(rd:RelV d r)(h:∀w' s',Inv X pins σ H s'->RelV (o.getD d) w'->Q w' s') :
  wpAny (model X.prog X.w) A (call (.builtin "dict.get") [.ref a,u,r]) Q E s:=by
 rcases g with ⟨kvs,k,e,ey,l⟩|⟨kvs,k,b,e,ey,eb,l⟩
 .subst ey;obtain⟨z,hd,vs,rel,dd⟩:=yw I.hok e;refine call_meetsIn PySem.F.slot_dict_get dd.typeIs PySem.F.entry_dict_get (PySem.F.args_dict_get_3 _ _ _) (meets_dict_get_default (cL X.prog X.w) a (yv ry) hd r) ⟨_,dd.mapOf,h _ _ (I.tok _) ?_⟩;rw[l];exact(rel.val k).getD rd
 .subst ey;cases (show u=Value.ref b from ry);obtain⟨z,hd,xs,rel,dd⟩:=yy I.hok e;refine call_meetsIn PySem.F.slot_dict_get dd.typeIs PySem.F.entry_dict_get (PySem.F.args_dict_get_3 _ _ _) (meetsH_dict_get_default (tupleKind (cL X.prog X.w)) a b hd r) ⟨tupleKind_room_in1 hu,k,xs,tZ I.hok eb,dd,h _ _ (I.tok _) ?_⟩;rw[l];exact(rel.val k).getD rd
end
noncomputable def JB(td ty tx:TE):TE:=λσ H Q=>td σ H λx H1=>∃a,x=.ref a/\Jy H1 a/\ty σ H1 λy H2=>tx σ H2 λz H3=>∃o,t6 H3 a y o/\Q (o.getD z) H3
section
variable{X:Cx}{o e f:Expr}{apos cpos:Pos}{td ty tx:TE}
theorem CQ (hu:X.A.units+1<cLine) (ho:PE X o td) (he:PE X e ty) (hf:PE X f tx) (m:M2 X o "get" apos e f cpos):PE X (.Call (.Attribute o "get" apos) [e,f] [] cpos) (JB td ty tx):=by
 intro pins s σ H Q I h;refine wpAny_Call_method m.base m.few m.line PySem.F.plainAttrs_dict PySem.F.slot_dict_get PySem.F.type_dict_get (bB (ho pins s σ H _ I h) λu s1 ⟨x,H1,I1,rx,a,ex,d,q1⟩=>?_);subst ex;obtain rfl:u=Value.ref a:=rx;obtain⟨t1,t2,_⟩:=AG I1 d;refine⟨t1,t2,?_⟩;rw[m.trees];refine Calls.callWith_builtin rfl (Calls.evalArgs_plain (Calls.spliced_cons (bB (he pins s1 σ H1 _ I1 q1) λiv s2 ⟨y,H2,I2,ry,q2⟩=>
  Calls.spliced_cons (bB (hf pins s2 σ H2 _ I2 q2) λfv s3 ⟨z,H3,I3,rz,ov,g,q3⟩=>Calls.spliced_nil ?_))))
 exact Jz hu I3 g ry rz λw' s4 I4 rw'=>⟨_,H3,I4,rw',q3⟩
end
end L2
namespace Ev
inductive D where
 |aG|bl (b:Bool)|int (i:Int)|str (s:List Nat)|tup (ds:List D)|ref (n:Nat)
inductive O where
 |lst (ds:List D)|bL (ds:List D)
 |dct (kvs:List (Int×List Nat))
abbrev Hh:=List O
abbrev Fr:=List (Option D)
inductive R(α:Type) where
 |ok (a:α) (h:Hh)
 |bad
noncomputable def R.bind{α β:Type}(r:R α)(f:α->Hh->R β):R β:=
 match r with
 |.ok a h=>f a h
 |.bad=>.bad
@[simp] theorem ak{α β:Type}(a:α)(h:Hh)(f:α->Hh->R β):(R.ok a h).bind f=f a h:=rfl
@[simp] theorem CS{α β:Type}(f:α->Hh->R β):(R.bad:R α).bind f=.bad:=rfl
theorem ah{α β:Type}{r:R α}{f:α->Hh->R β}{b:β}{h:Hh}(e:r.bind f=.ok b h):∃a h1,r=.ok a h1/\f a h1=.ok b h:=by
 cases r with
 |ok a h1=>exact⟨a,h1,rfl,e⟩
 |bad=>cases e
noncomputable def R.of{α:Type}(o:Option α)(h:Hh):R α:=match o with
 |some a=>.ok a h
 |none=>.bad
@[simp] theorem dw{α:Type}(a:α)(h:Hh):R.of (some a) h=.ok a h:=rfl
@[simp] theorem of_none{α:Type}(h:Hh):R.of (none:Option α) h=.bad:=rfl
theorem aC{α:Type}{o:Option α}{h h':Hh}{a:α}(e:R.of o h=.ok a h'):o=some a/\h'=h:=by
 cases o with
 |none=>cases e
 |some b=>cases e;exact⟨rfl,rfl⟩
inductive bO where
 |add|sub|mul|fdiv|mod
inductive bJ where
 |eq|ne|lt|gt
 |iR|iY
inductive TY where
 |int|bool|str|tuple|list
inductive BI where
 |len|sum|min
 |all
 |yz
 |yC
 |kh
inductive ME where
 |join|append|extend|pop
inductive T where
 |one (i:Nat)|many (l:List Nat)
mutual
inductive E where
 |c (d:D)|v (i:Nat)|tup (es:Es)|lst (es:Es)
 |bin (o:bO) (a b:E)|cmp (o:bJ) (a b:E)
 |nt (a:E)|neg (a:E)|an (a b:E)|orr (a b:E)|jT (t a b:E)
 |ix (a b:E)|sl (a:E) (lo hi:Eo)
 |rv (a:E)
 |cl (f:Nat) (es:Es)|bi (b:BI) (es:Es)|me (m:ME) (o:E) (es:Es)
 |comp (elt:E) (t:T) (it:It) (cond:Eo)
 |je (it:It)
 |iZ (kvs:List (D×D)) (a:E)|iz (a:E)
 |gY|wQ (a k:E)|lT (a k x:E)
inductive Es where
 |nil|cons (e:E) (es:Es)
inductive Eo where
 |no|yes (e:E)
inductive It where
 |seq (e:E)|gk (es:Es)
 |enum (a:E)|rev (a:E)
end
mutual
inductive S where
 |set (i:Nat) (e:E)|yD (l:List Nat) (e:E)
 |dput (o i e:E)
 |oM (o e:E)|ja (i x y f:Nat)
 |exp (e:E)|ret (e:E)|iff (t:E) (a b:Ss)|for (t:T) (it:It) (b:Ss)|o8 (t:E) (b:Ss)
 |gf
inductive Ss where
 |nil|cons (s:S) (ss:Ss)
end
inductive Fl where
 |nx|bk|ct|ret (d:D)
noncomputable def big:Nat:=16777216
noncomputable def cS(f:D->D->Option Bool):List D->List D->Option Bool
 |[],[]=>some true
 |x :: xs,y :: ys=>do
  let b <-f x y
  let c <-cS f xs ys
  pure (b&&c)
 |_,_=>some false
noncomputable def bf(h:Hh)(n:Nat):Option (List D):=match h[n]? with
 |some (.lst ds)=>some ds
 |some (.bL ds)=>some ds
 |_=>none
noncomputable def b2i(b:Bool):Int:=if b then 1 else 0
noncomputable def jB(h:Hh)(f:D->D->Option Bool)(a b:Nat):Option Bool:=if a=b then (bf h a).map λ_=>true else match h[a]?,h[b]? with
 |some (.lst x),some (.lst y)=>cS f x y
 |some (.bL x),some (.lst y)=>cS f x y
 |some (.lst x),some (.bL y)=>cS f x y
 |_,_=>none
noncomputable def gg(h:Hh):Nat->D->D->Option Bool
 |0,_,_=>none
 |_+1,.aG,.aG=>some true
 |_+1,.bl a,.bl b=>some (a==b)
 |_+1,.int a,.int b=>some (a==b)
 |_+1,.bl a,.int b=>some (b2i a==b)
 |_+1,.int a,.bl b=>some (a==b2i b)
 |_+1,.str a,.str b=>some (a==b)
 |n+1,.tup a,.tup b=>cS (gg h n) a b
 |n+1,.ref a,.ref b=>jB h (gg h n) a b
 |_+1,.ref a,_=>(bf h a).map λ_=>false
 |_+1,_,.ref a=>(bf h a).map λ_=>false
 |_+1,_,_=>some false
noncomputable def deep:Nat:=20
noncomputable def truthy(h:Hh):D->Option Bool
 |.aG=>some false
 |.bl b=>some b
 |.int i=>some (i != 0)
 |.str s=>some (!s.isEmpty)
 |.tup ds=>some (!ds.isEmpty)
 |.ref n=>match h[n]? with
  |some (.dct kvs)=>some (!kvs.isEmpty)
  |_=>(bf h n).map λds=>!ds.isEmpty
noncomputable def alloc(ds:List D)(h:Hh):R D:=if ds.length<=big then .ok (.ref h.length) (h++[.lst ds])else .bad
noncomputable def rep{α:Type}(k:Nat)(l:List α):List α:=(List.replicate k l).flatten
noncomputable def cj(i j:Int):Bool:=(decide (-(2 ^ 64)<i)&&decide (i<2 ^ 64)) || (decide (-(2 ^ 64)<j)&&decide (j<2 ^ 64))
noncomputable def bK:bO->D->D->Hh->R D
 |.add,.int i,.int j,h=>.ok (.int (i+j)) h
 |.add,.str a,.str b,h=>if a.length+b.length<=big then .ok (.str (a++b)) h else .bad
 |.add,.tup a,.tup b,h=>if a.length+b.length<=big then .ok (.tup (a++b)) h else .bad
 |.add,.ref a,.ref b,h=>match h[a]?,h[b]? with
  |some (.lst x),some (.lst y)=>alloc (x++y) h
  |_,_=>.bad
 |.sub,.int i,.int j,h=>.ok (.int (i - j)) h
 |.mul,.int i,.int j,h=>if cj i j then .ok (.int (i*j)) h else .bad
 |.mul,.str a,.int k,h=>if 0<=k/\k<=1000/\a.length<=1000 then .ok (.str (rep k.toNat a)) h else .bad
 |.mul,.tup a,.int k,h=>if 0<=k/\k<=1000/\a.length<=1000 then .ok (.tup (rep k.toNat a)) h else .bad
 |.mul,.ref a,.int k,h=>match h[a]? with
  |some (.lst x)=>if 0<=k/\k<=1000/\x.length<=1000 then alloc (rep k.toNat x) h else .bad
  |_=>.bad
 |.fdiv,.int i,.int j,h=>if 0<j/\j<1073741824 then .ok (.int (i / j)) h else .bad
 |.mod,.int i,.int j,h=>if 0<j then .ok (.int (i % j)) h else .bad
 |_,_,_,_=>.bad
noncomputable def cop(o:bJ)(x y:D)(h:Hh):Option Bool:=match o,x,y with
 |.eq,x,y=>gg h deep x y
 |.ne,x,y=>(gg h deep x y).map (!·)
 |.lt,.int i,.int j=>some (decide (i<j))
 |.gt,.int i,.int j=>some (decide (j<i))
 |.iR,x,.aG=>some (match x with|.aG=>true|_=>false)
 |.iY,x,.aG=>some (match x with|.aG=>false|_=>true)
 |_,_,_=>none
noncomputable def dF(n:Nat)(i:Int):Option Nat:=if 0<=i then (if i<n then some i.toNat else none)else if -(n:Int)<=i then some (i+n).toNat else none
noncomputable def bI{α:Type}(xs:List α)(i:Int):Option α:=(dF xs.length i).bind λj=>xs[j]?
noncomputable def ee(x y:D)(h:Hh):Option D:=match x,y with
 |.tup ds,.int i=>bI ds i
 |.str s,.int i=>(bI s i).map λc=>.str [c]
 |.ref n,.int i=>(bf h n).bind λds=>bI ds i
 |_,_=>none
noncomputable def aQ(n d:Nat):Option Int->Nat
 |none=>d
 |some v=>if v<0 then (v+n).toNat else min v.toNat n
noncomputable def cut{α:Type}(xs:List α)(lo hi:Option Int):List α:=(xs.drop (aQ xs.length 0 lo)).take (aQ xs.length xs.length hi - aQ xs.length 0 lo)
noncomputable def fP(x:D)(lo hi:Option Int)(h:Hh):R D:=match x with
 |.tup ds=>.ok (.tup (cut ds lo hi)) h
 |.str s=>.ok (.str (cut s lo hi)) h
 |.ref n=>match bf h n with
  |some ds=>alloc (cut ds lo hi) h
  |none=>.bad
 |_=>.bad
noncomputable def kD(x:D)(h:Hh):R D:=match x with
 |.tup ds=>.ok (.tup ds.reverse) h
 |.ref n=>match bf h n with
  |some ds=>alloc ds.reverse h
  |none=>.bad
 |_=>.bad
noncomputable def boolsOf:List D->Option (List Bool)
 |[]=>some []
 |.bl b :: ds=>(boolsOf ds).map λr=>b :: r
 |_=>none
noncomputable def intsOf:List D->Option (List Int)
 |[]=>some []
 |.int i :: ds=>(intsOf ds).map λr=>i :: r
 |_=>none
noncomputable def strsOf:List D->Option (List (List Nat))
 |[]=>some []
 |.str s :: ds=>(strsOf ds).map λr=>s :: r
 |_=>none
noncomputable def cI(sep:List Nat):List (List Nat)->List Nat
 |[]=>[]
 |[s]=>s
 |s :: t :: r=>s++sep++cI sep (t :: r)
noncomputable def lexLe:List Nat->List Nat->Bool
 |[],_=>true
 |_ :: _,[]=>false
 |x :: xs,y :: ys=>if x=y then lexLe xs ys else decide (x<y)
noncomputable def JD(x:List Nat):List (List Nat)->List (List Nat)
 |[]=>[x]
 |y :: ys=>if lexLe x y then x :: y :: ys else y :: JD x ys
noncomputable def dX:List (List Nat)->List (List Nat)
 |[]=>[]
 |x :: xs=>JD x (dX xs)
noncomputable def bW(kvs:List (Int×List Nat))(k:Int):Option (List Nat):=(kvs.find? λp=>decide (p.1=k)).map (·.2)
noncomputable def cD(kvs:List (Int×List Nat))(k:Int)(s:List Nat):List (Int×List Nat):=if (kvs.any λp=>decide (p.1=k))=true then kvs.map (λp=>if p.1=k then (p.1,s)else p)else kvs++[(k,s)]
noncomputable def fj(h:Hh):D->Option (List (Int×List Nat))
 |.ref n=>match h[n]? with
  |some (.dct kvs)=>some kvs
  |_=>none
 |_=>none
noncomputable def CT(x y:D)(h:Hh):Option D:=match fj h x,y with
 |some kvs,.int k=>(bW kvs k).map .str
 |_,_=>none
noncomputable def t9(x y z:D)(h h0:Hh):Option D:=match fj h0 x,fj h x,y with
 |some _,some kvs,.int k=>some (match bW kvs k with|some s=>.str s|none=>z)
 |_,_,_=>none
noncomputable def sL(x y z:D)(h:Hh):Option Hh:=match x,y,z with
 |.ref n,.int k,.str s=>match h[n]? with
  |some (.dct kvs)=>if kvs.length<big then some (h.set n (.dct (cD kvs k s)))else none
  |_=>none
 |_,_,_=>none
noncomputable def b7(k m:List (Int×List Nat)):List (Int×List Nat):=m.foldl (λa p=>cD a p.1 p.2) k
noncomputable def sM(x y:D)(h h0:Hh):Option Hh:=match x,y with
 |.ref n,.ref m=>match fj h0 (.ref n),h[n]?,h[m]? with
  |some _,some (.dct k),some (.dct j)=>if n≠m/\k.length+j.length<=big then some (h.set n (.dct (b7 k j)))else none
  |_,_,_=>none
 |_,_=>none
noncomputable def insI(x:Int):List Int->List Int
 |[]=>[x]
 |y :: ys=>if x<=y then x :: y :: ys else y :: insI x ys
noncomputable def sortI:List Int->List Int
 |[]=>[]
 |x :: xs=>insI x (sortI xs)
noncomputable def cC(b:BI)(xs:List D)(h:Hh):R D:=match b,xs with
 |.len,[.str s]=>if s.length<=big then .ok (.int s.length) h else .bad
 |.len,[.tup ds]=>.ok (.int ds.length) h
 |.len,[.ref n]=>R.of ((bf h n).map λds=>.int ds.length) h
 |.all,[.ref n]=>R.of (((bf h n).bind boolsOf).map λbs=>.bl (bs.all id)) h
 |.sum,[.ref n]=>R.of (((bf h n).bind intsOf).map λis=>.int is.sum) h
 |.min,[.int i,.int j]=>.ok (.int (if j<i then j else i)) h
 |.kh,[.bl b]=>.ok (.int (if b then 1 else 0)) h
 |.yz,[.ref n]=>match (bf h n).bind intsOf with
  |some ss=>if ss.length<64 then alloc ((sortI ss).map .int) h else .bad
  |none=>.bad
 |.yC,[x]=>match fj h x with
  |some kvs=>if kvs.length<64 then alloc ((sortI (kvs.map (·.1))).map .int) h else .bad
  |none=>.bad
 |_,_=>.bad
noncomputable def eZ(m:ME)(o:D)(xs:List D)(h:Hh):R D:=match m,o,xs with
 |.join,.str sep,[.ref n]=>match (bf h n).bind strsOf with
  |some ss=>if (ss.map (·.length)).sum+ss.length*sep.length<=big then .ok (.str (cI sep ss)) h else .bad
  |none=>.bad
 |.append,.ref n,[x]=>match h[n]? with
  |some (.lst ds)=>if ds.length<big then .ok .aG (h.set n (.lst (ds++[x])))else .bad
  |_=>.bad
 |.extend,.ref n,[.ref m]=>match h[n]?,h[m]? with
  |some (.lst ds),some (.lst es)=>if ds.length+es.length<=big then .ok .aG (h.set n (.lst (ds++es)))else .bad
  |_,_=>.bad
 |.pop,.ref n,[]=>match h[n]? with
  |some (.lst ds)=>match ds[ds.length - 1]? with
   |some x=>.ok x (h.set n (.lst ds.dropLast))
   |none=>.bad
  |_=>.bad
 |_,_,_=>.bad
noncomputable def wR(m:ME)(x:D)(h:Hh):Bool:=match m,x with
 |.join,.str _=>true
 |.join,_=>false
 |_,.ref n=>(bf h n).isSome
 |_,_=>false
noncomputable def eL(x:D):List (D×D)->Option D
 |[]=>none
 | (k,v) :: r=>match gg [] 1 k x with
  |some true=>some v
  |some false=>eL x r
  |none=>none
abbrev Src:=List D×List (Nat×List D)
noncomputable def fk(h:Hh):D->Option Src
 |.tup ds=>some (ds,[])
 |.str s=>some (s.map λc=>.str [c],[])
 |.ref n=>(bf h n).map λds=>(ds,[(n,ds)])
 |_=>none
noncomputable def range(lo:Int)(n:Nat):List D:=(List.range n).map λ(i:Nat)=>.int (lo+i)
noncomputable def fy:List D->Option Src
 |[.int j]=>if -(2 ^ 62)<=j/\j<2 ^ 62 then some (range 0 j.toNat,[])else none
 |[.int i,.int j]=>if -(2 ^ 62)<=i/\i<2 ^ 62/\-(2 ^ 62)<=j/\j<2 ^ 62 then some (range i (j - i).toNat,[])else none
 |_=>none
noncomputable def gq:Int->List D->List D
 |_,[]=>[]
 |k,x :: xs=>.tup [.int k,x] :: gq (k+1) xs
noncomputable def yE(a b:List D):Bool:=@decide (a=b) (Classical.propDecidable _)
theorem rF(a b:List D):yE a b=true↔a=b:=@decide_eq_true_iff _ (Classical.propDecidable _)
@[simp] theorem yF(a:List D):yE a a=true:=(rF a a).mpr rfl
noncomputable def stays(h:Hh):List (Nat×List D)->Bool
 |[]=>true
 | (n,ds) :: r=>(match bf h n with|some es=>yE es ds|none=>false)&&stays h r
noncomputable def cG:List Nat->List D->Fr->Option Fr
 |[],[],fr=>some fr
 |i :: is,d :: ds,fr=>cG is ds (fr.set i (some d))
 |_,_,_=>none
noncomputable def br:T->D->Fr->Option Fr
 |.one i,d,fr=>some (fr.set i (some d))
 |.many l,.tup ds,fr=>cG l ds fr
 |_,_,_=>none
noncomputable def slots:T->List Nat
 |.one i=>[i]
 |.many l=>l
noncomputable def undef(t:T)(fr:Fr):Bool:=(slots t).all λi=>(fr[i]?.join).isNone
noncomputable def CU:D->Option (List D)
 |.tup ds=>some ds
 |_=>none
noncomputable def qw:D->Hh->R D
 |.tup ds,h=>.ok (.tup ds) h
 |.ref n,h=>match bf h n with
  |some ds=>if ds.length<=big then .ok (.tup ds) h else .bad
  |none=>.bad
 |_,_=>.bad
noncomputable def CV(h:Hh):D->Option Src
 |.ref n=>(bf h n).map λds=>(ds,[(n,ds)])
 |_=>none
noncomputable def cJ(f:D->Hh->R (Option D))(ck:List (Nat×List D)):List D->Hh->R (List D)
 |[],h=>if stays h ck then .ok [] h else .bad
 |d :: ds,h=>if stays h ck then (f d h).bind λo h1=>(cJ f ck ds h1).bind λr h2=>.ok (o.toList++r) h2 else .bad
noncomputable def forL(f:D->Fr->Hh->R (Fl×Fr))(ck:List (Nat×List D)):List D->Fr->Hh->R (Fl×Fr)
 |[],fr,h=>if stays h ck then .ok (.nx,fr) h else .bad
 |d :: ds,fr,h=>if stays h ck then (f d fr h).bind λp h1=>match p.1 with
   |.nx=>forL f ck ds p.2 h1
   |.ct=>forL f ck ds p.2 h1
   |.bk=>.ok (.nx,p.2) h1
   |.ret x=>.ok (.ret x,p.2) h1
  else .bad
noncomputable def dQ(t:Fr->Hh->R Bool)(f:Fr->Hh->R (Fl×Fr)):Nat->Fr->Hh->R (Fl×Fr)
 |0,_,_=>.bad
 |n+1,fr,h=>(t fr h).bind λb h1=>if b then (f fr h1).bind λp h2=>match p.1 with
   |.nx=>dQ t f n p.2 h2
   |.ct=>dQ t f n p.2 h2
   |.bk=>.ok (.nx,p.2) h2
   |.ret x=>.ok (.ret x,p.2) h2
  else .ok (.nx,fr) h1
abbrev aM:=Nat->List D->Hh->R D
noncomputable def intOf:D->Option Int
 |.int i=>some i
 |_=>none
mutual
noncomputable def ev(P:aM):E->Fr->Hh->R D
 |.c d,_,h=>.ok d h
 |.v i,fr,h=>R.of (fr[i]?.join) h
 |.tup es,fr,h=>(bX P es fr h).bind λds h1=>if ds.length<=big then .ok (.tup ds) h1 else .bad
 |.lst es,fr,h=>(bX P es fr h).bind λds h1=>alloc ds h1
 |.bin o a b,fr,h=>(ev P a fr h).bind λx h1=>(ev P b fr h1).bind λy h2=>bK o x y h2
 |.cmp o a b,fr,h=>(ev P a fr h).bind λx h1=>(ev P b fr h1).bind λy h2=>R.of ((cop o x y h2).map .bl) h2
 |.nt a,fr,h=>(ev P a fr h).bind λx h1=>match x with
   |.bl b=>.ok (.bl (!b)) h1
   |_=>.bad
 |.neg a,fr,h=>(ev P a fr h).bind λx h1=>match x with
   |.int i=>.ok (.int (-i)) h1
   |_=>.bad
 |.an a b,fr,h=>(ev P a fr h).bind λx h1=>match x with
   |.bl true=>ev P b fr h1
   |.bl false=>.ok (.bl false) h1
   |_=>.bad
 |.orr a b,fr,h=>(ev P a fr h).bind λx h1=>match x with
   |.bl true=>.ok (.bl true) h1
   |.bl false=>ev P b fr h1
   |_=>.bad
 |.jT t a b,fr,h=>(aF P t fr h).bind λk h1=>if k then ev P a fr h1 else ev P b fr h1
 |.ix a b,fr,h=>(ev P a fr h).bind λx h1=>(ev P b fr h1).bind λy h2=>R.of (ee x y h2) h2
 |.sl a lo hi,fr,h=>(ev P a fr h).bind λx h1=>(fL P lo fr h1).bind λl h2=>(fL P hi fr h2).bind λu h3=>fP x l u h3
 |.rv a,fr,h=>(ev P a fr h).bind λx h1=>kD x h1
 |.cl f es,fr,h=>(bX P es fr h).bind λds h1=>P f ds h1
 |.bi b es,fr,h=>(bX P es fr h).bind λds h1=>cC b ds h1
 |.me m o es,fr,h=>(ev P o fr h).bind λx h1=>if wR m x h1 then (bX P es fr h1).bind λds h2=>eZ m x ds h2 else .bad
 |.comp elt t it cond,fr,h=>(cz P it fr h).bind λs h1=>if undef t fr then
   (cJ (λd h2=>match br t d fr with
    |none=>.bad
    |some ao=>(gZ P cond ao h2).bind λk h3=>if k then (ev P elt ao h3).bind λx h4=>.ok (some x) h4 else .ok none h3) s.2 s.1 h1).bind λds h2=>alloc ds h2 else .bad
 |.je it,fr,h=>(cz P it fr h).bind λs h1=>alloc s.1 h1
 |.iZ kvs a,fr,h=>(ev P a fr h).bind λx h1=>R.of (eL x kvs) h1
 |.gY,_,h=>.ok (.ref h.length) (h++[.dct []])
 |.wQ a k,fr,h=>(ev P a fr h).bind λx h1=>(ev P k fr h1).bind λy h2=>R.of (CT x y h2) h2
 |.lT a k z,fr,h=>(ev P a fr h).bind λx h1=>(ev P k fr h1).bind λy h2=>(ev P z fr h2).bind λw h3=>R.of (t9 x y w h3 h1) h3
 |.iz a,fr,h=>(ev P a fr h).bind λx h1=>qw x h1
noncomputable def bX(P:aM):Es->Fr->Hh->R (List D)
 |.nil,_,h=>.ok [] h
 |.cons e es,fr,h=>(ev P e fr h).bind λd h1=>(bX P es fr h1).bind λds h2=>.ok (d :: ds) h2
noncomputable def fL(P:aM):Eo->Fr->Hh->R (Option Int)
 |.no,_,h=>.ok none h
 |.yes e,fr,h=>(ev P e fr h).bind λd h1=>R.of ((intOf d).map some) h1
noncomputable def gZ(P:aM):Eo->Fr->Hh->R Bool
 |.no,_,h=>.ok true h
 |.yes e,fr,h=>aF P e fr h
noncomputable def aF(P:aM):E->Fr->Hh->R Bool
 |.an a b,fr,h=>(aF P a fr h).bind λk h1=>if k then aF P b fr h1 else .ok false h1
 |.orr a b,fr,h=>(aF P a fr h).bind λk h1=>if k then .ok true h1 else aF P b fr h1
 |.nt a,fr,h=>(aF P a fr h).bind λk h1=>.ok (!k) h1
 |e,fr,h=>(ev P e fr h).bind λx h1=>R.of (truthy h1 x) h1
noncomputable def cz(P:aM):It->Fr->Hh->R Src
 |.seq e,fr,h=>(ev P e fr h).bind λx h1=>R.of (fk h1 x) h1
 |.gk es,fr,h=>(bX P es fr h).bind λds h1=>R.of (fy ds) h1
 |.enum a,fr,h=>(ev P a fr h).bind λx h1=>R.of ((CV h1 x).map λs=>(gq 0 s.1,s.2)) h1
 |.rev a,fr,h=>(ev P a fr h).bind λx h1=>R.of ((CU x).map λds=>(ds.reverse,[])) h1
end
noncomputable def ua(P:aM)(o e:E)(fr:Fr)(h:Hh):R (Fl×Fr):=(ev P o fr h).bind λx h1=>(ev P e fr h1).bind λy h2=>match sM x y h2 h1 with
 |some h3=>.ok (.nx,fr) h3
 |none=>.bad
mutual
noncomputable def ex(P:aM)(w:Nat):S->Fr->Hh->R (Fl×Fr)
 |.set i e,fr,h=>(ev P e fr h).bind λx h1=>.ok (.nx,fr.set i (some x)) h1
 |.yD l e,fr,h=>(ev P e fr h).bind λx h1=>match br (.many l) x fr with
   |some ao=>.ok (.nx,ao) h1
   |none=>.bad
 |.dput o i e,fr,h=>(ev P e fr h).bind λx h1=>(ev P o fr h1).bind λy h2=>(ev P i fr h2).bind λz h3=>match sL y z x h3 with
   |some h4=>.ok (.nx,fr) h4
   |none=>.bad
 |.oM o e,fr,h=>ua P o e fr h
 |.ja i x y f,fr,h=>(cz P (.seq (.v y)) (fr.set i (some (.ref h.length))) (h++[.dct []])).bind λs h1=>forL (λd ao h2=>match br (.one x) d ao with
   |some bx=>ua P (.v i) (.cl f (.cons (.v x) .nil)) bx h2
   |none=>.bad) s.2 s.1 (fr.set i (some (.ref h.length))) h1
 |.exp e,fr,h=>(ev P e fr h).bind λ_ h1=>.ok (.nx,fr) h1
 |.ret e,fr,h=>(ev P e fr h).bind λx h1=>.ok (.ret x,fr) h1
 |.iff t a b,fr,h=>(aF P t fr h).bind λk h1=>if k then exs P w a fr h1 else exs P w b fr h1
 |.for t it b,fr,h=>(cz P it fr h).bind λs h1=>forL (λd ao h2=>match br t d ao with
   |some bx=>exs P w b bx h2
   |none=>.bad) s.2 s.1 fr h1
 |.o8 t b,fr,h=>dQ (λao h2=>aF P t ao h2) (λao h2=>exs P w b ao h2) w fr h
 |.gf,_,_=>.bad
noncomputable def exs(P:aM)(w:Nat):Ss->Fr->Hh->R (Fl×Fr)
 |.nil,fr,h=>.ok (.nx,fr) h
 |.cons s ss,fr,h=>(ex P w s fr h).bind λp h1=>match p.1 with
   |.nx=>exs P w ss p.2 h1
   |_=>.ok p h1
end
structure Fn where
 np:Nat
 ns:Nat
 body:Ss
noncomputable def eS(fn:Fn)(ds:List D):Fr:=ds.map some++List.replicate (fn.ns - fn.np) none
noncomputable def endOf(r:R (Fl×Fr)):R D:=r.bind λp h=>match p.1 with
 |.ret d=>.ok d h
 |.nx=>.ok .aG h
 |_=>.bad
noncomputable def run(F:List Fn)(w:Nat):Nat->aM
 |0,_,_,_=>.bad
 |n+1,f,ds,h=>match F[f]? with
  |some fn=>if ds.length=fn.np then endOf (exs (run F w n) w fn.body (eS fn ds) h)else .bad
  |none=>.bad
end Ev
set_option maxRecDepth 100000
namespace Sm
open PySem PySem.Spec PyProof.Rows L2
noncomputable def aT(l:List Nat):Str:=⟨l.toArray⟩
theorem cO(l:List Nat):(aT l).length=l.length:=by simp[aT,Str.length]
theorem qx{a b:List Nat}(h:aT a=aT b):a=b:=by
 have h1:a.toArray=b.toArray:=congrArg Str.cps h;simpa using congrArg Array.toList h1
theorem iS:Ev.big=sizeLine:=by rw[sizeLine_eq];rfl
section
variable(K:PySem.W.Frag)
mutual
noncomputable def RV(H:Hp)(r:List Addr):Ev.D->V->Prop
 |.aG,v=>v=.aG
 |.bl b,v=>v=.bl b
 |.int i,v=>v=.int i
 |.str s,v=>v=.str (aT s)/\s.length<=sizeLine
 |.ref n,v=>∃a,v=.ref a/\r[n]?=some a
 |.tup ds,v=>∃a vs,v=.ref a/\dm K H a vs/\aD H r ds vs
noncomputable def aD(H:Hp)(r:List Addr):List Ev.D->List V->Prop
 |[],vs=>vs=[]
 |d :: ds,vs=>∃v w,vs=v :: w/\RV H r d v/\aD H r ds w
end
noncomputable def yG(H:Hp)(a:Addr)(vs:List V):Prop:=(∃o,H a=some (.bL o (.lst vs)))\/
 ∃(o:Obj) (its:Array Value) (n:Nat),K.lookup a=some o/\o.cls=.type "list" /\o.dict=none/\o.data=.seq its n/\its.size<=sizeLine/\Vals vs its.toList
noncomputable def dJ(kvs:List (Int×List Nat)):List (Key×V):=kvs.map λp=>(Sum.inl p.1,V.str (aT p.2))
noncomputable def RO(H:Hp)(r:List Addr):Ev.O->Addr->Prop
 |.lst ds,a=>∃vs,H a=some (.lst vs)/\aD K H r ds vs
 |.bL ds,a=>∃vs,yG K H a vs/\aD K H r ds vs
 |.dct kvs,a=>H a=some (.dK (dJ kvs))/\∀p∈kvs,p.2.length<=sizeLine
structure HR(H:Hp)(r:List Addr)(h:Ev.Hh):Prop where
 len:r.length=h.length
 ob:∀(n:Nat) o,h[n]?=some o->∃a,r[n]?=some a/\RO K H r o a
 inj:∀(n m:Nat) a x y,r[n]?=some a->r[m]?=some a->h[n]?=some (.lst x)->h[m]?=some (.lst y)->n=m
 jU:∀(n m:Nat) a x y,r[n]?=some a->r[m]?=some a->h[n]?=some (.dct x)->h[m]?=some (.dct y)->n=m
structure Fm(r r':List Addr)(H H':Hp):Prop where
 pre:∀(n:Nat) a,r[n]?=some a->r'[n]?=some a
 new:∀a∈r',a∈r\/H a=none
 keep:∀a o,H a=some o->a∉r->H' a=some o
 tups:∀a vs,dm K H a vs->dm K H' a vs
end
section
variable{K:PySem.W.Frag}{H H1 H2:Hp}{r r1 r2:List Addr}{h:Ev.Hh}
theorem Fm.refl:Fm K r r H H:=⟨λ_ _ e=>e,λ_ e=>.inl e,λ_ _ e _=>e,λ_ _ e=>e⟩
theorem Fm.trans(a:Fm K r r1 H H1)(b:Fm K r1 r2 H1 H2):Fm K r r2 H H2 where
 pre:=λn x e=>b.pre n x (a.pre n x e)
 new:=λx e=>by
  rcases b.new x e with q|q
  .exact a.new x q
  .by_cases z:x∈r
   .exact .inl z
   .refine .inr ?_;cases w:H x with
    |none=>rfl
    |some o=>rw[a.keep x o w z]at q;cases q
 keep:=λx o e n=>by
  refine b.keep x o (a.keep x o e n) λz=>?_;rcases a.new x z with q|q
  .exact n q
  .rw[e]at q;cases q
 tups:=λx vs e=>b.tups x vs (a.tups x vs e)
mutual
theorem RV.grow(f:∀(n:Nat) a,r[n]?=some a->r1[n]?=some a)(g:∀a vs,dm K H a vs->dm K H1 a vs):∀{d:Ev.D}{v:V},RV K H r d v->RV K H1 r1 d v
 |.aG,_,e=>e
 |.bl _,_,e=>e
 |.int _,_,e=>e
 |.str _,_,e=>e
 |.ref n,_,⟨a,e,z⟩=>⟨a,e,f n a z⟩
 |.tup ds,_,⟨a,vs,e,z,q⟩=>⟨a,vs,e,g a vs z,aD.grow f g q⟩
theorem aD.grow(f:∀(n:Nat) a,r[n]?=some a->r1[n]?=some a)(g:∀a vs,dm K H a vs->dm K H1 a vs):∀{ds:List Ev.D}{vs:List V},aD K H r ds vs->aD K H1 r1 ds vs
 |[],_,e=>e
 |_ :: _,_,⟨v,w,e,z,q⟩=>⟨v,w,e,RV.grow f g z,aD.grow f g q⟩
end
theorem RV.mono(f:Fm K r r1 H H1){d:Ev.D}{v:V}(q:RV K H r d v):RV K H1 r1 d v:=q.grow f.pre f.tups
theorem aD.mono(f:Fm K r r1 H H1){ds:List Ev.D}{vs:List V}(q:aD K H r ds vs):aD K H1 r1 ds vs:=q.grow f.pre f.tups
theorem aD.nil:aD K H r [] []:=by simp[aD]
theorem aD.cons{d:Ev.D}{v:V}{ds:List Ev.D}{vs:List V}(a:RV K H r d v)(b:aD K H r ds vs):aD K H r (d :: ds) (v :: vs):=by
 simp only[aD];exact⟨v,vs,rfl,a,b⟩
theorem aD.length:∀{ds:List Ev.D}{vs:List V},aD K H r ds vs->vs.length=ds.length
 |[],_,e=>by simp only[aD]at e;subst e;rfl
 |_ :: _,_,e=>by
  simp only[aD]at e;obtain⟨v,w,rfl,_,q⟩:=e;simp[aD.length q]
theorem aD.get:∀{ds:List Ev.D}{vs:List V}{i:Nat}{d:Ev.D},aD K H r ds vs->ds[i]?=some d->∃v,vs[i]?=some v/\RV K H r d v
 |[],_,_,_,_,e=>by simp at e
 |_ :: _,_,0,_,h,e=>by
  simp only[aD]at h;obtain⟨v,w,rfl,z,q⟩:=h;simp at e;subst e;exact⟨v,by simp,z⟩
 |_ :: _,_,i+1,_,h,e=>by
  simp only[aD]at h;obtain⟨v,w,rfl,z,q⟩:=h;obtain⟨u,a,b⟩:=aD.get (i:=i) q (by simpa using e);exact⟨u,by simpa using a,b⟩
theorem aD.append:∀{ds es:List Ev.D}{vs ws:List V},aD K H r ds vs->aD K H r es ws->aD K H r (ds++es) (vs++ws)
 |[],_,_,_,a,b=>by simp only[aD]at a;subst a;simpa using b
 |_ :: _,_,_,_,a,b=>by
  simp only[aD]at a;obtain⟨v,w,rfl,z,q⟩:=a;simp only[List.cons_append];exact .cons z (aD.append q b)
theorem aD.take:∀{ds:List Ev.D}{vs:List V}(n:Nat),aD K H r ds vs->aD K H r (ds.take n) (vs.take n)
 |_,_,0,_=>by simp[aD]
 |[],_,_+1,a=>by simp only[aD]at a;subst a;simp[aD]
 |_ :: _,_,n+1,a=>by
  simp only[aD]at a;obtain⟨v,w,rfl,z,q⟩:=a;simp only[List.take_succ_cons];exact .cons z (aD.take n q)
theorem aD.drop:∀{ds:List Ev.D}{vs:List V}(n:Nat),aD K H r ds vs->aD K H r (ds.drop n) (vs.drop n)
 |_,_,0,a=>by simpa using a
 |[],_,_+1,a=>by simp only[aD]at a;subst a;simp[aD]
 |_ :: _,_,n+1,a=>by
  simp only[aD]at a;obtain⟨v,w,rfl,z,q⟩:=a;simp only[List.drop_succ_cons];exact aD.drop n q
theorem aD.reverse:∀{ds:List Ev.D}{vs:List V},aD K H r ds vs->aD K H r ds.reverse vs.reverse
 |[],_,a=>by simp only[aD]at a;subst a;simp[aD]
 |_ :: _,_,a=>by
  simp only[aD]at a;obtain⟨v,w,rfl,z,q⟩:=a;simp only[List.reverse_cons];exact(aD.reverse q).append (.cons z .nil)
theorem aD.rep{ds:List Ev.D}{vs:List V}(a:aD K H r ds vs):∀k:Nat,aD K H r (Ev.rep k ds) (Ev.rep k vs)
 |0=>by simp[Ev.rep,aD]
 |k+1=>by
  have h:=aD.rep a k;simp only[Ev.rep,List.replicate_succ,List.flatten_cons]at h ⊢;exact a.append h
theorem Fm.laid{p:Addr}{o:HO}(hp:H p=none):Fm K r (r++[p]) H (upd H p o) where
 pre:=λn a e=>by rw[List.getElem?_append_left (List.getElem?_eq_some_iff.mp e).1];exact e
 new:=λa e=>by
  rcases List.mem_append.mp e with q|q
  .exact .inl q
  .rw[List.mem_singleton]at q;subst q;exact .inr hp
 keep:=λa ob e _=>by rw[aS (bw e hp)];exact e
 tups:=λa vs e=>by
  rcases e with (e|⟨ob,e⟩)|e
  .exact .inl (.inl (by rw[aS (bw e hp)];exact e))
  .exact .inl (.inr ⟨ob,by rw[aS (bw e hp)];exact e⟩)
  .exact .inr e
theorem Fm.tup{p:Addr}{o:HO}(hp:H p=none):Fm K r r H (upd H p o) where
 pre:=λn a e=>e
 new:=λa e=>.inl e
 keep:=λa ob e _=>by rw[aS (bw e hp)];exact e
 tups:=(Fm.laid (r:=r) hp).tups
theorem RO.mono{o:Ev.O}{a:Addr}(f:Fm K r r1 H H1)(q:RO K H r o a)(hl:∀ds vs,o=.lst ds->H a=some (.lst vs)->H1 a=some (.lst vs))(hf:∀ob vs,H a=some (.bL ob vs)->H1 a=some (.bL ob vs))
  (hd:∀kvs vs,o=.dct kvs->H a=some (.dK vs)->H1 a=some (.dK vs))
  : RO K H1 r1 o a:=by
 cases o with
 |lst ds=>
  obtain⟨vs,e,z⟩:=q;exact⟨vs,hl ds vs rfl e,z.mono f⟩
 |bL ds=>
  obtain⟨vs,e,z⟩:=q;refine⟨vs,?_,z.mono f⟩;rcases e with ⟨ob,e⟩|e
  .exact .inl ⟨ob,hf _ _ e⟩
  .exact .inr e
 |dct kvs=>exact⟨hd kvs _ rfl q.1,q.2⟩
theorem HR.tup{p:Addr}{o:HO}(hr:HR K H r h)(hp:H p=none):HR K (upd H p o) r h where
 len:=hr.len
 ob:=λn ob e=>by
  obtain⟨a,e1,q⟩:=hr.ob n ob e;exact⟨a,e1,q.mono (Fm.tup hp) (λ_ vs _ z=>by rw[aS (bw z hp)];exact z) (λ_ _ z=>by rw[aS (bw z hp)];exact z)
   (λ_ _ _ z=>by rw[aS (bw z hp)];exact z)
   ⟩
 inj:=hr.inj
 jU:=hr.jU
theorem HR.JF{p:Addr}{ds:List Ev.D}(hr:HR K H r h):∀(n m:Nat) a x y,(r++[p])[n]?=some a->(r++[p])[m]?=some a->(h++[Ev.O.lst ds])[n]?=some (.dct x)->(h++[Ev.O.lst ds])[m]?=some (.dct y)->n=m:=λn m a x y e1 e2 e3 e4=>by
 have out:∀(k:Nat) z,(h++[Ev.O.lst ds])[k]?=some (.dct z)->(r++[p])[k]?=some a->r[k]?=some a/\h[k]?=some (.dct z):=λk z q1 q2=>by
  by_cases hk:k<h.length
  .rw[List.getElem?_append_left hk]at q1;rw[List.getElem?_append_left (by rw[hr.len];exact hk)]at q2;exact⟨q2,q1⟩
  .have e5:=(List.getElem?_eq_some_iff.mp q1).1;simp only[List.length_append,List.length_singleton]at e5;have e6:k=h.length:=by omega
   subst e6;simp at q1
 exact hr.jU n m a x y (out n x e3 e1).1 (out m y e4 e2).1 (out n x e3 e1).2 (out m y e4 e2).2
theorem HR.lst{p:Addr}{ds:List Ev.D}{vs:List V}(hr:HR K H r h)(hp:H p=none)(q:aD K H r ds vs):HR K (upd H p (.lst vs)) (r++[p]) (h++[.lst ds]) where
 len:=by simp[hr.len]
 ob:=λn ob e=>by
  by_cases hn:n<h.length
  .rw[List.getElem?_append_left hn]at e;obtain⟨a,e1,z⟩:=hr.ob n ob e;exact⟨a,(Fm.laid (K:=K) (o:=.lst vs) hp).pre n a e1,z.mono (Fm.laid hp) (λ_ vs _ z=>by rw[aS (bw z hp)];exact z) (λ_ _ z=>by rw[aS (bw z hp)];exact z)
    (λ_ _ _ z=>by rw[aS (bw z hp)];exact z)
    ⟩
  .have e2:=(List.getElem?_eq_some_iff.mp e).1;simp only[List.length_append,List.length_singleton]at e2;have e3:n=h.length:=by omega
   subst e3;simp at e;subst e;exact⟨p,by rw[<-hr.len];simp,vs,fh,q.mono (Fm.laid hp)⟩
 inj:=λn m a x y e1 e2 e3 e4=>by
  have out:∀(k:Nat) z,(h++[Ev.O.lst ds])[k]?=some (.lst z)->(r++[p])[k]?=some a->(k<h.length/\r[k]?=some a/\h[k]?=some (.lst z)/\a≠p)\/(k=h.length/\a=p):=λk z q1 q2=>by
   by_cases hk:k<h.length
   .rw[List.getElem?_append_left hk]at q1;rw[List.getElem?_append_left (by rw[hr.len];exact hk)]at q2;obtain⟨b,e5,vs',e6,_⟩:=hr.ob k _ q1;rw[q2]at e5;cases e5;exact .inl ⟨hk,q2,q1,bw e6 hp⟩
   .have e5:=(List.getElem?_eq_some_iff.mp q1).1;simp only[List.length_append,List.length_singleton]at e5;have e6:k=r.length:=by rw[hr.len];omega
    subst e6;simp at q2;exact .inr ⟨hr.len,q2.symm⟩
  rcases out n x e3 e1 with ⟨h1,h2,h3,h4⟩|⟨h1,h2⟩
  .rcases out m y e4 e2 with ⟨k1,k2,k3,k4⟩|⟨k1,k2⟩
   .exact hr.inj n m a x y h2 k2 h3 k3
   .exact absurd k2 h4
  .rcases out m y e4 e2 with ⟨k1,k2,k3,k4⟩|⟨k1,k2⟩
   .exact absurd h2 k4
   .rw[h1,k1]
 jU:=hr.JF
theorem HR.dct{n:Nat}{kvs:List (Int×List Nat)}(hr:HR K H r h)(e:h[n]?=some (.dct kvs)):∃a,r[n]?=some a/\H a=some (.dK (dJ kvs))/\∀p∈kvs,p.2.length<=sizeLine:=by
 obtain⟨a,e1,e2,e3⟩:=hr.ob n _ e;exact⟨a,e1,e2,e3⟩
theorem HR.read{n:Nat}{ds:List Ev.D}(hr:HR K H r h)(e:Ev.bf h n=some ds):∃a vs,r[n]?=some a/\eY K H a vs/\aD K H r ds vs:=by
 unfold Ev.bf at e;split at e
 .rename_i z;cases e;obtain⟨a,e1,vs,e2,e3⟩:=hr.ob n _ z;exact⟨a,vs,e1,.inl (.inl e2),e3⟩
 .rename_i z;cases e;obtain⟨a,e1,vs,e2,e3⟩:=hr.ob n _ z;refine⟨a,vs,e1,?_,e3⟩;rcases e2 with ⟨ob,e2⟩|e2
  .exact .inl (.inr ⟨ob,e2⟩)
  .exact .inr e2
 .cases e
theorem Fm.write{a:Addr}{vs ws:List V}(ha:H a=some (.lst vs))(hm:a∈r):Fm K r r H (upd H a (.lst ws)) where
 pre:=λn b e=>e
 new:=λb e=>.inl e
 keep:=λb ob e n=>by rw[aS (λz=>n (by rw[z];exact hm))];exact e
 tups:=λb us e=>by
  rcases e with (e|⟨ob,e⟩)|e
  .exact .inl (.inl (by rw[aS (gT e ha (by intro z;cases z))];exact e))
  .exact .inl (.inr ⟨ob,by rw[aS (gT e ha (by intro z;cases z))];exact e⟩)
  .exact .inr e
theorem HR.write{n:Nat}{a:Addr}{ds es:List Ev.D}{vs ws:List V}(hr:HR K H r h)(hn:h[n]?=some (.lst ds))(uc:r[n]?=some a)(ha:H a=some (.lst vs))(q:aD K H r es ws) :
  HR K (upd H a (.lst ws)) r (h.set n (.lst es)) where
 len:=by simp[hr.len]
 ob:=λm ob e=>by
  have f:=Fm.write (K:=K) (ws:=ws) ha (List.mem_of_getElem? uc);by_cases hm:m=n
  .subst hm;rw[List.getElem?_set_self (List.getElem?_eq_some_iff.mp hn).1]at e;cases e;exact⟨a,uc,ws,fh,q.mono f⟩
  .rw[List.getElem?_set_ne (λz=>hm z.symm)]at e;obtain⟨b,e1,z⟩:=hr.ob m ob e;refine⟨b,e1,z.mono f (λUq us z3 z2=>?_) (λUr us z2=>by rw[aS (gT z2 ha (by intro z;cases z))];exact z2)
    (λ_ us _ z2=>by rw[aS (gT z2 ha (by intro z;cases z))];exact z2)
    ⟩
   by_cases hb:b=a
   .subst hb;subst z3;exact absurd (hr.inj m n b Uq ds e1 uc e hn) hm
   .rw[aS hb];exact z2
 inj:=λk m b x y e1 e2 e3 e4=>by
  have back:∀(j:Nat) z,(h.set n (Ev.O.lst es))[j]?=some (.lst z)->∃z',h[j]?=some (.lst z'):=λj z w=>by
   by_cases hj:j=n
   .subst hj;exact⟨ds,hn⟩
   .rw[List.getElem?_set_ne (λz=>hj z.symm)]at w;exact⟨z,w⟩
  obtain⟨x',e5⟩:=back k x e3;obtain⟨y',e6⟩:=back m y e4;exact hr.inj k m b x' y' e1 e2 e5 e6
 jU:=λk m b x y e1 e2 e3 e4=>by
  have back:∀(j:Nat) z,(h.set n (Ev.O.lst es))[j]?=some (.dct z)->h[j]?=some (.dct z):=λj z w=>by
   by_cases hj:j=n
   .subst hj;rw[List.getElem?_set_self (List.getElem?_eq_some_iff.mp hn).1]at w;cases w
   .rw[List.getElem?_set_ne (λz=>hj z.symm)]at w;exact w
  exact hr.jU k m b x y e1 e2 (back k x e3) (back m y e4)
theorem g7{p:Addr}{vs ws:List V}(hp:H p=some (.lst vs)):∀a us,dm K H a us->dm K (upd H p (.lst ws)) a us:=λb us e=>by
 rcases e with (e|⟨ob,e⟩)|e
 .exact .inl (.inl (by rw[aS (gT e hp (by intro z;cases z))];exact e))
 .exact .inl (.inr ⟨ob,by rw[aS (gT e hp (by intro z;cases z))];exact e⟩)
 .exact .inr e
theorem HR.other{p:Addr}{vs ws:List V}(hr:HR K H r h)(hp:H p=some (.lst vs))(hn:p∉r):HR K (upd H p (.lst ws)) r h where
 len:=hr.len
 ob:=λn ob e=>by
  obtain⟨a,e1,q⟩:=hr.ob n ob e;have ha:a≠p:=λz=>hn (by rw[<-z];exact List.mem_of_getElem? e1);refine⟨a,e1,?_⟩;cases ob with
  |lst ds=>
   obtain⟨us,e2,e3⟩:=q;exact⟨us,by rw[aS ha];exact e2,e3.grow (λ_ _ z=>z) (g7 hp)⟩
  |bL ds=>
   obtain⟨us,e2,e3⟩:=q;refine⟨us,?_,e3.grow (λ_ _ z=>z) (g7 hp)⟩;rcases e2 with ⟨o,e2⟩|e2
   .exact .inl ⟨o,by rw[aS ha];exact e2⟩
   .exact .inr e2
  |dct kvs=>exact⟨by rw[aS ha];exact q.1,q.2⟩
 inj:=hr.inj
 jU:=hr.jU
theorem Fm.other{p:Addr}{vs ws:List V}(f:Fm K r r1 H H1)(h0:H p=none)(hp:H1 p=some (.lst vs)):Fm K r r1 H (upd H1 p (.lst ws)) where
 pre:=f.pre
 new:=f.new
 keep:=λa o e n=>by rw[aS (bw e h0)];exact f.keep a o e n
 tups:=λa us e=>g7 hp a us (f.tups a us e)
theorem Fm.yH{p:Addr}{o:HO}(f:Fm K r r1 H H1)(hp:H p=some o)(hn:p∉r):p∉r1/\H1 p=some o:=by
 refine⟨λz=>?_,f.keep p o hp hn⟩;rcases f.new p z with q|q
 .exact hn q
 .rw[hp]at q;cases q
theorem HR.known{p:Addr}{ds:List Ev.D}{vs:List V}(hr:HR K H r h)(hp:H p=some (.lst vs))(hn:p∉r)(q:aD K H r ds vs):HR K H (r++[p]) (h++[.lst ds]):=by
 have pre:∀(n:Nat) a,r[n]?=some a->(r++[p])[n]?=some a:=λn a e=>by rw[List.getElem?_append_left (List.getElem?_eq_some_iff.mp e).1];exact e
 refine⟨by simp[hr.len],λn ob e=>?_,λn m a x y e1 e2 e3 e4=>?_
  ,hr.JF
  ⟩
 .by_cases hk:n<h.length
  .rw[List.getElem?_append_left hk]at e;obtain⟨a,e1,z⟩:=hr.ob n ob e;refine⟨a,pre n a e1,?_⟩;cases ob with
   |lst ds=>obtain⟨us,e2,e3⟩:=z;exact⟨us,e2,e3.grow pre λ_ _ z=>z⟩
   |bL ds=>obtain⟨us,e2,e3⟩:=z;exact⟨us,e2,e3.grow pre λ_ _ z=>z⟩
   |dct kvs=>exact z
  .have e2:=(List.getElem?_eq_some_iff.mp e).1;simp only[List.length_append,List.length_singleton]at e2;have e3:n=h.length:=by omega
   subst e3;simp at e;subst e;exact⟨p,by rw[<-hr.len];simp,vs,hp,q.grow pre λ_ _ z=>z⟩
 .have out:∀(k:Nat) z,(h++[Ev.O.lst ds])[k]?=some (.lst z)->(r++[p])[k]?=some a->(k<h.length/\r[k]?=some a/\h[k]?=some (.lst z)/\a≠p)\/(k=h.length/\a=p):=λk z q1 q2=>by
   by_cases hk:k<h.length
   .rw[List.getElem?_append_left hk]at q1;rw[List.getElem?_append_left (by rw[hr.len];exact hk)]at q2;exact .inl ⟨hk,q2,q1,λz=>hn (by rw[<-z];exact List.mem_of_getElem? q2)⟩
   .have e5:=(List.getElem?_eq_some_iff.mp q1).1;simp only[List.length_append,List.length_singleton]at e5;have e6:k=r.length:=by rw[hr.len];omega
    subst e6;simp at q2;exact .inr ⟨hr.len,q2.symm⟩
  rcases out n x e3 e1 with ⟨h1,h2,h3,h4⟩|⟨h1,h2⟩
  .rcases out m y e4 e2 with ⟨k1,k2,k3,k4⟩|⟨k1,k2⟩
   .exact hr.inj n m a x y h2 k2 h3 k3
   .exact absurd k2 h4
  .rcases out m y e4 e2 with ⟨k1,k2,k3,k4⟩|⟨k1,k2⟩
   .exact absurd h2 k4
   .rw[h1,k1]
theorem Fm.known{p:Addr}(f:Fm K r r1 H H1)(h0:H p=none):Fm K r (r1++[p]) H H1 where
 pre:=λn a e=>by
  have e':=f.pre n a e;rw[List.getElem?_append_left (List.getElem?_eq_some_iff.mp e').1];exact e'
 new:=λa e=>by
  rcases List.mem_append.mp e with q|q
  .exact f.new a q
  .rw[List.mem_singleton]at q;subst q;exact .inr h0
 keep:=f.keep
 tups:=f.tups
end
end Sm
set_option maxRecDepth 100000
namespace Sm
open PySem PySem.Spec PyProof.Rows L2
open Ev (D O Hh Fr R aM E Es Eo It T S Ss Fl Src bO bJ TY BI ME)
section
variable(K:PySem.W.Frag)
noncomputable def Res(r:List Addr)(H:Hp)(h':Hh)(d:D)(Q:VK):Prop:=∀v H' r',RV K H' r' d v->HR K H' r' h'->Fm K r r' H H'->Q v H'
structure SR(m:List Nat)(H:Hp)(r:List Addr)(fr:Fr)(s:L2.St):Prop where
 len:s.length=m.length
 sl:∀(j i:Nat) d,m[j]?=some i->fr[i]?=some (some d)->∃v,s[j]?=some (some v)/\RV K H r d v
inductive tJ(m:List Nat)(P:aM)(e:E)(s:L2.St)(H:Hp)(Q:VK):Prop
 |mk (r:List Addr) (fr:Fr) (h:Hh) (d:D) (h':Hh) (c0:SR K m H r fr s) (c1:HR K H r h) (c2:Ev.ev P e fr h=.ok d h') (c3:Res K r H h' d Q):tJ m P e s H Q
inductive JH(m:List Nat)(P:aM)(e:E)(s:L2.St)(H:Hp)(Q:Bool->Hp->Prop):Prop
 |mk (r:List Addr) (fr:Fr) (h:Hh) (k:Bool) (h':Hh) (c0:SR K m H r fr s) (c1:HR K H r h) (c2:Ev.aF P e fr h=.ok k h') (c3:∀H' r',HR K H' r' h'->Fm K r r' H H'->Q k H'):JH m P e s H Q
inductive JJ(m:List Nat)(P:aM)(es:Es)(s:L2.St)(H:Hp)(Q:List V->Hp->Prop):Prop
 |mk (r:List Addr) (fr:Fr) (h:Hh) (ds:List D) (h':Hh) (c0:SR K m H r fr s) (c1:HR K H r h) (c2:Ev.bX P es fr h=.ok ds h') (c3:∀vs H' r',aD K H' r' ds vs->HR K H' r' h'->Fm K r r' H H'->Q vs H'):JJ m P es s H Q
inductive P4(m:List Nat)(P:aM)(e:Eo)(s:L2.St)(H:Hp)(Q:Option Int->Hp->Prop):Prop
 |mk (r:List Addr) (fr:Fr) (h:Hh) (o:Option Int) (h':Hh) (c0:SR K m H r fr s) (c1:HR K H r h) (c2:Ev.fL P e fr h=.ok o h') (c3:∀H' r',HR K H' r' h'->Fm K r r' H H'->Q o H'):P4 m P e s H Q
inductive g8(f:D->D->Hh->R D)(x:V)(y:V)(H:Hp)(Q:VK):Prop
 |mk (r:List Addr) (h:Hh) (a:D) (b:D) (d:D) (h':Hh) (c0:HR K H r h) (c1:RV K H r a x) (c2:RV K H r b y) (c3:f a b h=.ok d h') (c4:Res K r H h' d Q):g8 f x y H Q
inductive Us(f:D->Hh->R D)(x:V)(H:Hp)(Q:VK):Prop
 |mk (r:List Addr) (h:Hh) (a:D) (d:D) (h':Hh) (c0:HR K H r h) (c1:RV K H r a x) (c2:f a h=.ok d h') (c3:Res K r H h' d Q):Us f x H Q
inductive o9(f:List D->Hh->R D)(xs:List V)(H:Hp)(Q:VK):Prop
 |mk (r:List Addr) (h:Hh) (as:List D) (d:D) (h':Hh) (c0:HR K H r h) (c1:aD K H r as xs) (c2:f as h=.ok d h') (c3:Res K r H h' d Q):o9 f xs H Q
inductive ud(f:D->List D->Hh->R D)(x:V)(xs:List V)(H:Hp)(Q:VK):Prop
 |mk (r:List Addr) (h:Hh) (a:D) (as:List D) (d:D) (h':Hh) (c0:HR K H r h) (c1:RV K H r a x) (c2:aD K H r as xs) (c3:f a as h=.ok d h') (c4:Res K r H h' d Q):ud f x xs H Q
inductive JK  (x:V) (lo:Option Int) (hi:Option Int) (H:Hp) (Q:VK):Prop
 |mk (r:List Addr) (h:Hh) (a:D) (d:D) (h':Hh) (c0:HR K H r h) (c1:RV K H r a x) (c2:Ev.fP a lo hi h=.ok d h') (c3:Res K r H h' d Q):JK x lo hi H Q
end
section
variable{K:PySem.W.Frag}{m:List Nat}{H H':Hp}{r r':List Addr}{fr:Fr}{s:L2.St}{h h':Hh}{d:D}{Q:VK}
theorem SR.mono(a:SR K m H r fr s)(f:Fm K r r' H H'):SR K m H' r' fr s:=⟨a.len,λj i d e1 e2=>by
 obtain⟨v,q,z⟩:=a.sl j i d e1 e2;exact⟨v,q,z.mono f⟩⟩
theorem Res.here{v:V}(q:Res K r H h d Q)(a:RV K H r d v)(b:HR K H r h):Q v H:=q v H r a b .refl
theorem Res.later(q:Res K r H h' d Q)(f:Fm K r r' H H'):Res K r' H' h' d Q:=λv H2 r2 a b g=>q v H2 r2 a b (f.trans g)
theorem Res.lst{ds:List D}{vs:List V}(q:Res K r H h' d Q)(e:Ev.alloc ds h=.ok d h')(a:aD K H r ds vs)(b:HR K H r h):vs.length<=sizeLine/\∀p,H p=none->Q (.ref p) (upd H p (.lst vs)):=by
 unfold Ev.alloc at e;split at e
 .rename_i z;cases e;refine⟨by rw[a.length,<-iS];exact z,λp hp=>?_⟩;exact q _ _ (r++[p]) ⟨p,rfl,by rw[<-b.len];simp⟩ (b.lst hp a) (.laid hp)
 .cases e
theorem Res.tup{ds:List D}{vs:List V}(q:Res K r H h (.tup ds) Q)(a:aD K H r ds vs)(b:HR K H r h){p:Addr}(hp:H p=none):Q (.ref p) (upd H p (.tup vs)):=
 q _ _ r ⟨p,vs,rfl,.of fh,a.mono (.tup hp)⟩ (b.tup hp) (.tup hp)
end
theorem PE.of{X:Cx}{e:Expr}{t t':TE}(h:PE X e t)(w:∀s H Q,t' s H Q->t s H Q):PE X e t':=λpins s σ H Q I q=>h pins s σ H Q I (w _ _ _ q)
theorem PT.of{X:Cx}{e:Expr}{t t':TT}(h:PT X e t)(w:∀s H Q,t' s H Q->t s H Q):PT X e t':=λpins s σ H Q I q=>h pins s σ H Q I (w _ _ _ q)
theorem PW.of{X:Cx}{e:Expr}{t t':TT}(h:PW X e t)(w:∀s H Q,t' s H Q->t s H Q):PW X e t':=λwh pins s σ H Q I q=>h wh pins s σ H Q I (w _ _ _ q)
theorem PA.of{X:Cx}{es:List Expr}{t t':TA}(h:PA X es t)(w:∀s H Q,t' s H Q->t s H Q):PA X es t':=λpos pins s σ H Q I q=>h pos pins s σ H Q I (w _ _ _ q)
theorem PO.of{X:Cx}{e:Option Expr}{t t':TO}(h:PO X e t)(w:∀s H Q,t' s H Q->t s H Q):PO X e t':=λpins s σ H Q I q=>h pins s σ H Q I (w _ _ _ q)
structure FI where
 name:Str
 addr:Addr
 fd:FuncData
 ps:List Str
noncomputable def nW(K:PySem.W.Frag)(F:List Ev.Fn)(w n f:Nat):Sp:=λvs H Q _=>∃r h ds d h',aD K H r ds vs/\HR K H r h/\Ev.run F w n f ds h=.ok d h'/\Res K r H h' d Q
noncomputable def wU(K:PySem.W.Frag)(d:D)(v:V):Prop:=∀H r,RV K H r d v
theorem wU.rv{K:PySem.W.Frag}{H:Hp}{r:List Addr}{d:D}{v:V}(h:wU K d v):RV K H r d v:=h H r
structure Tb where
 F:List Ev.Fn
 w:Nat
 fi:List FI
 bl:List Str
 cs:List (Str×D)
 dk:List (Str×List (D×D))
noncomputable def tabOf:List (D×D)->List (PyData×PyData)
 | (.str k,.str v) :: r=>(.str (aT k),.str (aT v)) :: tabOf r
 |_=>[]
structure Good(G:Tb)(n:Nat)(sc:Scope)(N:List Str)(df:Bool)(X:Cx):Prop where
 nm:X.N=N
 sc:X.env.scope=sc
 calm:X.calm=true
 own:df=true->∀x,X.fn x=true
 room:fH n X.A
 xe:X.xe=λ_ _=>False
 fn:∀(f:Nat) i,G.fi[f]?=some i->X.mg i.name=some (.ref i.addr)/\PySem.W.keepIn X.K (.ref i.addr)=true/\Binds X.K i.fd i.ps []/\iA X.prog X.w X.K X.mg X.base mD n i.addr i.fd i.ps (nW X.K G.F G.w n f)
 bl:∀x∈G.bl,X.mg x=none
 cs:∀x d,(x,d)∈G.cs->∃v u,X.mg x=some u/\RelV v u/\wU X.K d v
 dk:∀x kvs,(x,kvs)∈G.dk->∃a,X.mg x=some (.ref a)/\∀h:Heap,X.K.In h->StrTab X.prog X.w h a (tabOf kvs)
section
variable(G:Tb)(n:Nat)(sc:Scope)(N:List Str)(df:Bool)(m:List Nat)
noncomputable def JE(e:E)(x:Expr):Prop:=∀X,Good G n sc N df X->PE X x (tJ X.K m (Ev.run G.F G.w n) e)
noncomputable def JT(e:E)(x:Expr):Prop:=∀X,Good G n sc N df X->PT X x (JH X.K m (Ev.run G.F G.w n) e)
noncomputable def JW(e:E)(x:Expr):Prop:=∀X,Good G n sc N df X->PW X x (JH X.K m (Ev.run G.F G.w n) e)
noncomputable def JA(es:Es)(xs:List Expr):Prop:=∀X,Good G n sc N df X->PA X xs (JJ X.K m (Ev.run G.F G.w n) es)
noncomputable def JO(e:Eo)(x:Option Expr):Prop:=∀X,Good G n sc N df X->PO X x (P4 X.K m (Ev.run G.F G.w n) e)
end
section
variable{G:Tb}{n:Nat}{sc:Scope}{N:List Str}{df:Bool}{m:List Nat}{a b c:E}{xa xb xc:Expr}{pos:Pos}
theorem Good.vis{X:Cx}(g:Good G n sc N df X){x:Str}(h:sc.names.lookup x=some .local\/sc.names.lookup x=some .cell\/sc.names.lookup x=some .free):Af X.env.scope x:=by
 rw[g.sc];exact h
theorem Good.gl{X:Cx}(g:Good G n sc N df X){x:Str}(h:sc.names.lookup x=some .globalImplicit):Gl X x:=by
 unfold Gl Env.kindOf;rw[g.sc];exact h
theorem Sq(j i:Nat){x:Str}(hj:m[j]?=some i:=by rfl)(hN:N[j]?=some x:=by rfl)
  (hv:sc.names.lookup x=some .local\/sc.names.lookup x=some .cell\/sc.names.lookup x=some .free:=by first|exact Or.inl rfl|exact Or.inr (Or.inl rfl)|exact Or.inr (Or.inr rfl))
  (hd:(x==("__debug__" : Str))=false:=by decide) (hcd:(x==("__classdict__" : Str))=false:=by decide):JE G n sc N df m (.v i) (.Name x pos):=by
 intro X g;refine PE.of (Ai (i:=j) (by rw[g.nm];exact hN) (g.vis hv) hd hcd) λs H Q q=>?_;obtain⟨r,fr,h,d,h',sr,hr,e,q⟩:=q;simp only[Ev.ev]at e;obtain⟨e2,e3⟩:=Ev.aC e;subst e3;obtain⟨v,q1,q2⟩:=sr.sl j i d hj (by
  cases z:fr[i]? with
  |none=>rw[z]at e2;cases e2
  |some o=>
   rw[z]at e2;have e':o=some d:=e2;rw[e'])
 exact⟨v,q1,q.here q2 hr⟩
theorem pe{K:PySem.W.Frag}{P:aM}{d:D}{v:V}(hc:wU K d v):∀s H Q,tJ K m P (.c d) s H Q->tC v s H Q:=λs H Q q=>by
 obtain⟨r,fr,h,d',h',sr,hr,e,q⟩:=q;simp only[Ev.ev]at e;cases e;exact q.here hc.rv hr
theorem AH{i:Int}{j}:JE G n sc N df m (.c (.int i)) (.Constant (.int i) j pos):=λX g=>PE.of IG (pe λ_ _=>rfl)
theorem NR{k:Bool}{j}:JE G n sc N df m (.c (.bl k)) (.Constant (.bool k) j pos):=λX g=>PE.of Np (pe λ_ _=>rfl)
theorem JL{j}:JE G n sc N df m (.c .aG) (.Constant .none j pos):=λX g=>PE.of II (pe λ_ _=>rfl)
theorem JM{l:List Nat}{x:Str}{j}(hx:x=aT l:=by decide +kernel)(hl:l.length<=sizeLine:=by decide):JE G n sc N df m (.c (.str l)) (.Constant (.str x) j pos):=
 λX g=>PE.of IJ (pe λ_ _=>by subst hx;exact⟨rfl,hl⟩)
theorem Gz {x:Str}{d:D}(hm:(x,d)∈G.cs) (hg:sc.names.lookup x=some .globalImplicit:=by rfl) (hd:(x==("__debug__" : Str))=false:=by decide):JE G n sc N df m (.c d) (.Name x pos):=λX g=>by
 obtain⟨v,u,h1,h2,h3⟩:=g.cs x d hm;exact PE.of (wF (g.gl hg) h1 h2 hd) (pe h3)
theorem JN:JA G n sc N df m .nil []:=λX g=>PA.of tS λs H Q q=>by
 obtain⟨r,fr,h,ds,h',sr,hr,e,q⟩:=q;simp only[Ev.bX]at e;cases e;exact q [] H r .nil hr .refl
theorem GA{es:Es}{xs:List Expr}(ha:JE G n sc N df m a xa)(hs:JA G n sc N df m es xs)(hst:∀env:Env,starEach (xa :: xs) env=(false,eval xa env) :: starEach xs env:=by intro _;rfl):JA G n sc N df m (.cons a es) (xa :: xs):=
 λX g=>PA.of (qo (ha X g) (hs X g) (hst _)) λs H Q q=>by
  obtain⟨r,fr,h,ds,h',sr,hr,e,q⟩:=q;simp only[Ev.bX]at e;obtain⟨d,h1,e1,e⟩:=Ev.ah e;obtain⟨ds',h2,e2,e⟩:=Ev.ah e;cases e;refine⟨r,fr,h,d,h1,sr,hr,e1,λv H1 r1 v1 hr1 f1=>?_⟩;refine⟨r1,fr,h1,ds',_,sr.mono f1,hr1,e2,λvs H2 r2 v2 hr2 f2=>?_⟩;exact q _ H2 r2 (.cons (v1.mono f2) v2) hr2 (f1.trans f2)
theorem JP{es:Es}{xs:List Expr}{k}(hs:JA G n sc N df m es xs):JE G n sc N df m (.tup es) (.Tuple xs k pos):=λX g=>PE.of (Ji (hs X g)) λs H Q q=>by
 obtain⟨r,fr,h,d,h',sr,hr,e,q⟩:=q;simp only[Ev.ev]at e;obtain⟨ds,h1,e1,e⟩:=Ev.ah e;split at e
 .rename_i z;cases e;refine⟨r,fr,h,ds,_,sr,hr,e1,λvs H1 r1 v1 hr1 f1=>⟨by rw[v1.length,<-iS];exact z,λp hp=>?_⟩⟩;exact(q.later f1).tup v1 hr1 hp
 .cases e
theorem JQ{es:Es}{xs:List Expr}(hs:JA G n sc N df m es xs):JE G n sc N df m (.lst es) (.List xs pos):=λX g=>PE.of (Jj (hs X g)) λs H Q q=>by
 obtain⟨r,fr,h,d,h',sr,hr,e,q⟩:=q;simp only[Ev.ev]at e;obtain⟨ds,h1,e1,e⟩:=Ev.ah e;refine⟨r,fr,h,ds,h1,sr,hr,e1,λvs H1 r1 v1 hr1 f1=>?_⟩;exact(q.later f1).lst e v1 hr1
theorem pq{K:PySem.W.Frag}{P:aM}{f:D->D->Hh->R D}{e':E}(he:∀fr h,Ev.ev P e' fr h=(Ev.ev P a fr h).bind λx h1=>(Ev.ev P b fr h1).bind λy h2=>f x y h2) :
  ∀s H Q,tJ K m P e' s H Q->Ao (g8 K f) (tJ K m P a) (tJ K m P b) s H Q:=λs H Q q=>by
 obtain⟨r,fr,h,d,h',sr,hr,e,q⟩:=q;rw[he]at e;obtain⟨x,h1,e1,e⟩:=Ev.ah e;obtain⟨y,h2,e2,e⟩:=Ev.ah e;refine⟨r,fr,h,x,h1,sr,hr,e1,λv H1 r1 v1 hr1 f1=>?_⟩;refine⟨r1,fr,h1,y,h2,sr.mono f1,hr1,e2,λu H2 r2 v2 hr2 f2=>?_⟩;exact⟨r2,h2,x,y,d,h',hr2,v1.mono f2,v2,e,q.later (f1.trans f2)⟩
theorem mE{o:bO}{op:Operator}(ho:∀X,Good G n sc N df X->dh X (binaryOp op) (g8 X.K (Ev.bK o)))(ha:JE G n sc N df m a xa)(hb:JE G n sc N df m b xb):JE G n sc N df m (.bin o a b) (.BinOp xa op xb pos):=
 λX g=>PE.of (Nz (ho X g) (ha X g) (hb X g)) (pq λfr h=>by simp only[Ev.ev])
noncomputable def gw(o:bJ):D->D->Hh->R D:=λx y h=>R.of ((Ev.cop o x y h).map .bl) h
theorem mF{o:bJ}{op:CmpOp}(ho:∀X,Good G n sc N df X->dh X (compareOp op) (g8 X.K (gw o)))(ha:JE G n sc N df m a xa)(hb:JE G n sc N df m b xb)(hm:behindInMarks op xb=false):JE G n sc N df m (.cmp o a b) (.Compare xa [op] [xb] pos):=
 λX g=>PE.of (Gi (ho X g) (ha X g) (hb X g) hm) (pq λfr h=>by simp only[Ev.ev,gw])
theorem jr{o:bJ}{x y d:D}{h h':Hh}(e:gw o x y h=.ok d h'):∃k,Ev.cop o x y h=some k/\d=.bl k/\h'=h:=by
 unfold gw at e;obtain⟨e1,rfl⟩:=Ev.aC e;cases z:Ev.cop o x y h' with
 |none=>rw[z]at e1;cases e1
 |some k=>rw[z]at e1;cases e1;exact⟨k,rfl,rfl,rfl⟩
theorem kE{o:bJ}{op:CmpOp}(ho:∀X,Good G n sc N df X->dh X (compareOp op) (g8 X.K (gw o)))(ha:JE G n sc N df m a xa)(hb:JE G n sc N df m b xb)(hm:behindInMarks op xb=false):JT G n sc N df m (.cmp o a b) (.Compare xa [op] [xb] pos):=
 λX g=>PT.of (Gj (ho X g) (ha X g) (hb X g) hm) λs H Q q=>by
  obtain⟨r,fr,h,k,h',sr,hr,e,q⟩:=q;simp only[Ev.aF]at e;obtain⟨d,h1,e1,e⟩:=Ev.ah e;have e0:=e1;simp only[Ev.ev]at e0;obtain⟨x,h2,_,e0⟩:=Ev.ah e0;obtain⟨y,h3,_,e0⟩:=Ev.ah e0;obtain⟨k',e2,e3,e4⟩:=jr (o:=o) (show gw o x y h3=_ from e0);subst e3;simp only[Ev.truthy]at e;cases e;refine pq (e':=.cmp o a b) (f:=gw o) (λfr h=>by simp only[Ev.ev,gw]) s H _ ⟨r,fr,h,.bl k,_,sr,hr,e1,λv H1 r1 v1 hr1 f1=>?_⟩;exact⟨k,v1,q H1 r1 hr1 f1⟩
end
end Sm
set_option maxRecDepth 100000
namespace Sm
open PySem PySem.Spec PyProof.Rows L2
open Ev (D O Hh Fr R aM E Es Eo It T S Ss Fl Src bO bJ TY BI ME)
section
variable{G:Tb}{n:Nat}{sc:Scope}{N:List Str}{df:Bool}{m:List Nat}{a b c:E}{xa xb xc:Expr}{pos:Pos}
theorem AI(ha:JE G n sc N df m a xa):JE G n sc N df m (.neg a) (.UnaryOp .USub xa pos):=λX g=>PE.of (NB Jf (ha X g)) λs H Q q=>by
 obtain⟨r,fr,h,d,h',sr,hr,e,q⟩:=q;simp only[Ev.ev]at e;obtain⟨x,h1,e1,e⟩:=Ev.ah e;split at e
 .cases e;exact⟨r,fr,h,_,_,sr,hr,e1,λv H1 r1 v1 hr1 f1=>⟨_,v1,(q.later f1).here rfl hr1⟩⟩
 .cases e
theorem JR{op}(ha:JE G n sc N df m a xa):JE G n sc N df m a (.BoolOp op [xa] pos):=λX g=>IP (ha X g)
theorem NS{rest:List Expr}(ha:JE G n sc N df m a xa)(hb:JE G n sc N df m b (.BoolOp .And (xb :: rest) pos)):JE G n sc N df m (.an a b) (.BoolOp .And (xa :: xb :: rest) pos):=λX g=>PE.of (IQ (ha X g) (hb X g)) λs H Q q=>by
 obtain⟨r,fr,h,d,h',sr,hr,e,q⟩:=q;simp only[Ev.ev]at e;obtain⟨x,h1,e1,e⟩:=Ev.ah e;refine⟨r,fr,h,x,h1,sr,hr,e1,λv H1 r1 v1 hr1 f1=>?_⟩;split at e
 .exact⟨true,v1,r1,fr,h1,d,h',sr.mono f1,hr1,e,q.later f1⟩
 .cases e;exact⟨false,v1,(q.later f1).here rfl hr1⟩
 .cases e
theorem JU(ha:JT G n sc N df m a xa)(hb:JE G n sc N df m b xb)(hc:JE G n sc N df m c xc):JE G n sc N df m (.jT a b c) (.IfExp xa xb xc pos):=λX g=>PE.of (Cs (ha X g) (hb X g) (hc X g)) λs H Q q=>by
 obtain⟨r,fr,h,d,h',sr,hr,e,q⟩:=q;simp only[Ev.ev]at e;obtain⟨k,h1,e1,e⟩:=Ev.ah e;refine⟨r,fr,h,k,h1,sr,hr,e1,λH1 r1 hr1 f1=>?_⟩;cases k with
 |true=>exact⟨r1,fr,h1,d,h',sr.mono f1,hr1,e,q.later f1⟩
 |false=>exact⟨r1,fr,h1,d,h',sr.mono f1,hr1,e,q.later f1⟩
theorem JV(h:JW G n sc N df m a xa):JT G n sc N df m a xa:=λX g=>(h X g).pt
theorem JX(ha:JT G n sc N df m a xa):JW G n sc N df m a (.BoolOp .And [xa] pos):=λX g=>Gd (ha X g)
theorem GB(ha:JT G n sc N df m a xa):JW G n sc N df m a (.BoolOp .Or [xa] pos):=λX g=>IK (ha X g)
theorem EM{rest:List Expr}(ha:JT G n sc N df m a xa)(hb:JW G n sc N df m b (.BoolOp .And (xb :: rest) pos)):JW G n sc N df m (.an a b) (.BoolOp .And (xa :: xb :: rest) pos):=λX g=>PW.of (IL (ha X g) (hb X g)) λs H Q q=>by
 obtain⟨r,fr,h,k,h',sr,hr,e,q⟩:=q;simp only[Ev.aF]at e;obtain⟨k1,h1,e1,e⟩:=Ev.ah e;refine⟨r,fr,h,k1,h1,sr,hr,e1,λH1 r1 hr1 f1=>?_⟩;cases k1 with
 |true=>exact⟨r1,fr,h1,k,h',sr.mono f1,hr1,e,λH2 r2 hr2 f2=>q H2 r2 hr2 (f1.trans f2)⟩
 |false=>
  have e':R.ok false h1=R.ok k h':=e;cases e';exact q H1 r1 hr1 f1
theorem AJ{rest:List Expr}(ha:JT G n sc N df m a xa)(hb:JW G n sc N df m b (.BoolOp .Or (xb :: rest) pos)):JW G n sc N df m (.orr a b) (.BoolOp .Or (xa :: xb :: rest) pos):=λX g=>PW.of (Nq (ha X g) (hb X g)) λs H Q q=>by
 obtain⟨r,fr,h,k,h',sr,hr,e,q⟩:=q;simp only[Ev.aF]at e;obtain⟨k1,h1,e1,e⟩:=Ev.ah e;refine⟨r,fr,h,k1,h1,sr,hr,e1,λH1 r1 hr1 f1=>?_⟩;cases k1 with
 |false=>exact⟨r1,fr,h1,k,h',sr.mono f1,hr1,e,λH2 r2 hr2 f2=>q H2 r2 hr2 (f1.trans f2)⟩
 |true=>
  have e':R.ok true h1=R.ok k h':=e;cases e';exact q H1 r1 hr1 f1
theorem NT(ha:JT G n sc N df m a xa):JT G n sc N df m (.nt a) (.UnaryOp .Not xa pos):=λX g=>PT.of (IM (ha X g)) λs H Q q=>by
 obtain⟨r,fr,h,k,h',sr,hr,e,q⟩:=q;simp only[Ev.aF]at e;obtain⟨k1,h1,e1,e⟩:=Ev.ah e;cases e;exact⟨r,fr,h,k1,_,sr,hr,e1,λH1 r1 hr1 f1=>q H1 r1 hr1 f1⟩
theorem JY{K:PySem.W.Frag}{H:Hp}{r:List Addr}{h:Hh}{d:D}{v:V}{k:Bool}(hr:HR K H r h)(v1:RV K H r d v)(e:Ev.truthy h d=some k):CD K v H k:=by
 cases d with
 |aG=>simp only[RV]at v1;subst v1;cases e;rfl
 |bl x=>simp only[RV]at v1;subst v1;cases e;rfl
 |int x=>simp only[RV]at v1;subst v1;cases e;rfl
 |str x=>
  simp only[RV]at v1;obtain⟨rfl,z⟩:=v1;cases e;refine⟨by rw[cO];exact z,?_⟩;rw[cO];cases x with
  |nil=>rfl
  |cons c l=>simp;omega
 |tup ds=>
  simp only[RV]at v1;obtain⟨p,vs,rfl,z,q⟩:=v1;cases e;refine .inr (.inl ⟨vs,z,?_⟩);have hl:=q.length;cases ds<;>cases vs<;>simp_all
 |ref i=>
  simp only[RV]at v1;obtain⟨p,rfl,z⟩:=v1;by_cases P5:∃kvs,h[i]?=some (.dct kvs)
  .obtain⟨kvs,e1⟩:=P5;simp only[Ev.truthy,e1]at e;obtain⟨p',z1,z2,_⟩:=hr.dct e1;rw[z]at z1;cases z1;refine .inr (.inr ⟨_,z2,?_⟩);cases e;cases kvs<;>rfl
  have et:Ev.truthy h (.ref i)=(Ev.bf h i).map λds=>!ds.isEmpty:=by
   simp only[Ev.truthy];split
   .rename_i kvs z;exact(P5 ⟨kvs,z⟩).elim
   .rfl
  rw[et]at e;simp only[Option.map_eq_some_iff]at e;obtain⟨ds,e1,rfl⟩:=e;obtain⟨p',vs,e2,q1,q2⟩:=hr.read e1;rw[z]at e2;cases e2;refine .inl ⟨vs,q1,?_⟩;have hl:=q2.length;cases ds<;>cases vs<;>simp_all
theorem JZ(ha:JE G n sc N df m a xa)(he:∀(P:aM) fr h,Ev.aF P a fr h=(Ev.ev P a fr h).bind λx h1=>R.of (Ev.truthy h1 x) h1:=by intros;simp only[Ev.aF])
  (hx:∀(env:Env) whole,isTrue xa env whole=(do let v <-whole;standAt xa.pos;holding [v] (truthy v)):=by intro _ _;rfl):JT G n sc N df m a xa:=λX g=>PT.of (CF (ha X g) (hx _)) λs H Q q=>by
 obtain⟨r,fr,h,k,h',sr,hr,e,q⟩:=q;rw[he]at e;obtain⟨d,h1,e1,e⟩:=Ev.ah e;obtain⟨e,rfl⟩:=Ev.aC e;refine⟨r,fr,h,d,_,sr,hr,e1,λv H1 r1 v1 hr1 f1=>⟨k,JY hr1 v1 e,q H1 r1 hr1 f1⟩⟩
noncomputable def J0:D->D->Hh->R D:=λx y h=>R.of (Ev.ee x y h) h
theorem NU(ho:∀X,Good G n sc N df X->wN X (g8 X.K J0))(ha:JE G n sc N df m a xa)(hb:JE G n sc N df m b xb)(hs:qt xb:=by intro _ _;rfl):JE G n sc N df m (.ix a b) (.Subscript xa xb pos):=
 λX g=>PE.of (NL (ho X g) (ha X g) (hb X g) hs) (pq λfr h=>by simp only[Ev.ev,J0])
theorem NV:JO G n sc N df m .no none:=λX g=>PO.of Gp λs H Q q=>by
 obtain⟨r,fr,h,o,h',sr,hr,e,q⟩:=q;simp only[Ev.fL]at e;cases e;exact q H r hr .refl
theorem J1(ha:JE G n sc N df m a xa):JO G n sc N df m (.yes a) (some xa):=λX g=>PO.of (wK (ha X g)) λs H Q q=>by
 obtain⟨r,fr,h,o,h',sr,hr,e,q⟩:=q;simp only[Ev.fL]at e;obtain⟨d,h1,e1,e⟩:=Ev.ah e;obtain⟨e,rfl⟩:=Ev.aC e;cases d with
 |int i=>
  cases e;exact⟨r,fr,h,.int i,_,sr,hr,e1,λv H1 r1 v1 hr1 f1=>⟨i,v1,q H1 r1 hr1 f1⟩⟩
 |_=>cases e
theorem NW{lo hi:Eo}{xl xh:Option Expr}{p2}(ho:∀X,Good G n sc N df X->kC X (JK X.K))(ha:JE G n sc N df m a xa)(hl:JO G n sc N df m lo xl)(hu:JO G n sc N df m hi xh):JE G n sc N df m (.sl a lo hi) (.Subscript xa (.Slice xl xh none p2) pos):=
 λX g=>PE.of (CJ (ho X g) (ha X g) (hl X g) (hu X g)) λs H Q q=>by
  obtain⟨r,fr,h,d,h',sr,hr,e,q⟩:=q;simp only[Ev.ev]at e;obtain⟨x,h1,e1,e⟩:=Ev.ah e;obtain⟨l,h2,e2,e⟩:=Ev.ah e;obtain⟨u,h3,e3,e⟩:=Ev.ah e;refine⟨r,fr,h,x,h1,sr,hr,e1,λv H1 r1 v1 hr1 f1=>?_⟩;refine⟨r1,fr,h1,l,h2,sr.mono f1,hr1,e2,λH2 r2 hr2 f2=>?_⟩;refine⟨r2,fr,h2,u,h3,(sr.mono f1).mono f2,hr2,e3,λH3 r3 jf f3=>?_⟩;exact⟨r3,h3,x,d,h',jf,(v1.mono f2).mono f3,e,q.later ((f1.trans f2).trans f3)⟩
theorem wV{K:PySem.W.Frag}{P:aM}{es:Es}{f:List D->Hh->R D}{e':E}(he:∀fr h,Ev.ev P e' fr h=(Ev.bX P es fr h).bind f) :
  ∀s H Q,tJ K m P e' s H Q->Jm (o9 K f) (JJ K m P es) s H Q:=λs H Q q=>by
 obtain⟨r,fr,h,d,h',sr,hr,e,q⟩:=q;rw[he]at e;obtain⟨ds,h1,e1,e⟩:=Ev.ah e;exact⟨r,fr,h,ds,h1,sr,hr,e1,λvs H1 r1 v1 hr1 f1=>⟨r1,h1,ds,d,h',hr1,v1,e,q.later f1⟩⟩
theorem sN{k:BI}{es:Es}{x:Str}{id:String}{e0:Expr}{xs:List Expr}{p:Pos}(hc:∀X,Good G n sc N df X->fK X (.builtin id) (o9 X.K (Ev.cC k)))(hs:JA G n sc N df m es (e0 :: xs))(hb:x∈G.bl:=by decide +kernel)
  (hg:sc.names.lookup x=some .globalImplicit:=by rfl) (hv:bootBuiltins x=some (.builtin id)) (hn:x≠"__name__" :=by decide) (hd:(x==("__debug__" : Str))=false:=by decide)
  (hst:∀env:Env,starEach (e0 :: xs) env=(false,eval e0 env) :: starEach xs env:=by intro _;rfl) (hpl:∀env:Env,(backTo pos (starEach xs env)).any (·.1)=false:=by intro _;rfl) :
  JE G n sc N df m (.bi k es) (.Call (.Name x p) (e0 :: xs) [] pos):=
 λX g=>PE.of (CG (hc X g) (g.gl hg) (g.bl x hb) hv (hs X g) hn hd (hst _) (hpl _)) (wV λfr h=>by simp only[Ev.ev])
theorem NX{k:BI}{es:Es}{x:Str}{id:String}{e0:Expr}{xs:List Expr}{p:Pos}(hc:∀X,Good G n sc N df X->fK X (.type id) (o9 X.K (Ev.cC k)))(hs:JA G n sc N df m es (e0 :: xs))(hb:x∈G.bl:=by decide +kernel)
  (hg:sc.names.lookup x=some .globalImplicit:=by rfl) (hv:bootBuiltins x=some (.type id)) (hn:x≠"__name__" :=by decide) (hd:(x==("__debug__" : Str))=false:=by decide)
  (hst:∀env:Env,starEach (e0 :: xs) env=(false,eval e0 env) :: starEach xs env:=by intro _;rfl) (hpl:∀env:Env,(backTo pos (starEach xs env)).any (·.1)=false:=by intro _;rfl) :
  JE G n sc N df m (.bi k es) (.Call (.Name x p) (e0 :: xs) [] pos):=
 λX g=>PE.of (rq (hc X g) (g.gl hg) (g.bl x hb) hv (hs X g) hn hd (hst _) (hpl _)) (wV λfr h=>by simp only[Ev.ev])
theorem NY{f:Nat}{i:FI}{es:Es}{e0:Expr}{xs:List Expr}{p:Pos}(hf:G.fi[f]?=some i)(hs:JA G n sc N df m es (e0 :: xs))
  (hg:sc.names.lookup i.name=some .globalImplicit:=by rfl) (hd:(i.name==("__debug__" : Str))=false:=by decide)
  (hst:∀env:Env,starEach (e0 :: xs) env=(false,eval e0 env) :: starEach xs env:=by intro _;rfl) (hpl:∀env:Env,(backTo pos (starEach xs env)).any (·.1)=false:=by intro _;rfl) :
  JE G n sc N df m (.cl f es) (.Call (.Name i.name p) (e0 :: xs) [] pos):=λX g=>by
 obtain⟨h1,h2,h3,h4⟩:=g.fn f i hf;refine PE.of (Gk h4 g.room (g.gl hg) h1 h2 h3 .nil NO (hs X g) hd (hst _) (hpl _)) λs H Q q=>?_;obtain⟨r,fr,h,d,h',sr,hr,e,q⟩:=q;simp only[Ev.ev]at e;obtain⟨ds,h5,e1,e⟩:=Ev.ah e;refine⟨r,fr,h,ds,h5,sr,hr,e1,λvs H1 r1 v1 hr1 f1=>?_⟩;exact⟨r1,h5,ds,d,h',by rw[List.append_nil];exact v1,hr1,e,q.later f1⟩
noncomputable def CW:ME->String
 |.join=>"str"
 |_=>"list"
theorem AK{K:PySem.W.Frag}{H:Hp}{r:List Addr}{h:Hh}{k:ME}{d:D}{v:V}{ty:String}(hr:HR K H r h)(v1:RV K H r d v)(e:Ev.wR k d h=true)(ht:ty=CW k):Aw K ty v H:=by
 subst ht;have lst:∀i,d=.ref i->(Ev.bf h i).isSome=true->Aw K "list" v H:=λi ed es=>by
  subst ed;obtain⟨ds,e1⟩:=Option.isSome_iff_exists.mp es;obtain⟨p,vs,e2,q1,q2⟩:=hr.read e1;simp only[RV]at v1;obtain⟨p',rfl,e3⟩:=v1;rw[e2]at e3;cases e3;exact .inl ⟨rfl,vs,q1⟩
 cases k with
 |join=>
  cases d with
  |str l=>simp only[RV]at v1;obtain⟨rfl,_⟩:=v1;rfl
  |_=>cases e
 |append=>cases d with|ref i=>exact lst i rfl e|_=>cases e
 |extend=>cases d with|ref i=>exact lst i rfl e|_=>cases e
 |pop=>cases d with|ref i=>exact lst i rfl e|_=>cases e
theorem yI {k:ME}{es:Es}{e0:Expr}{xs:List Expr}{name:Str}{apos:Pos}{ty id:String}(pa:PlainAttrs ty) (slot:Slot ty name id) (hty:typeOf (.builtin id)=pure (.type "method_descriptor"))
  (hm:∀X,Good G n sc N df X->rA X id (ud X.K (Ev.eZ k))) (ht:ty=CW k) (ha:JE G n sc N df m a xa) (hs:JA G n sc N df m es (e0 :: xs))
  (hbase:∀env:Env,attributeBase xa name env (eval xa env)=eval xa env:=by intro _;rfl)
  (hfew:∀env:Env,((backTo pos (starEach (e0 :: xs) env)).all (λx=>!x.1)&&(backToKw pos (keywordEach [] env)).all (λx=>x.1.isSome)
   &&decide ((e0 :: xs).length+([]:List Keyword).length+(if ([]:List Keyword).isEmpty then 0 else 1)<30))=true:=by intro _;rfl)
  (hline:(apos.endLine==pos.line)=true:=by rfl) (hst:∀env:Env,starEach (e0 :: xs) env=(false,eval e0 env) :: starEach xs env:=by intro _;rfl) (hpl:∀env:Env,(backTo pos (starEach xs env)).any (·.1)=false:=by intro _;rfl) :
  JE G n sc N df m (.me k a es) (.Call (.Attribute xa name apos) (e0 :: xs) [] pos):=λX g=>
 PE.of (NN pa slot hty (hm X g) (ha X g) (hs X g) (hbase _) (hfew _) hline (hst _) (hpl _)) λs H Q q=>by
  obtain⟨r,fr,h,d,h',sr,hr,e,q⟩:=q;simp only[Ev.ev]at e;obtain⟨x,h1,e1,e⟩:=Ev.ah e;split at e
  .rename_i hk;obtain⟨ds,h2,e2,e⟩:=Ev.ah e;refine⟨r,fr,h,x,h1,sr,hr,e1,λv H1 r1 v1 hr1 f1=>⟨AK hr1 v1 hk ht,?_⟩⟩;refine⟨r1,fr,h1,ds,h2,sr.mono f1,hr1,e2,λvs H2 r2 v2 hr2 f2=>?_⟩;exact⟨r2,h2,x,ds,d,h',hr2,v1.mono f2,v2,e,q.later (f1.trans f2)⟩
  .cases e
theorem J2 {k:ME}{name:Str}{apos:Pos}{ty id:String}(pa:PlainAttrs ty) (slot:Slot ty name id) (hty:typeOf (.builtin id)=pure (.type "method_descriptor"))
  (hm:∀X,Good G n sc N df X->rA X id (ud X.K (Ev.eZ k))) (ht:ty=CW k) (ha:JE G n sc N df m a xa)
  (hbase:∀env:Env,attributeBase xa name env (eval xa env)=eval xa env:=by intro _;rfl) (hline:(apos.endLine==pos.line)=true:=by rfl) :
  JE G n sc N df m (.me k a .nil) (.Call (.Attribute xa name apos) [] [] pos):=λX g=>
 PE.of (Jr pa slot hty (hm X g) (ha X g) (hbase _) hline) λs H Q q=>by
  obtain⟨r,fr,h,d,h',sr,hr,e,q⟩:=q;simp only[Ev.ev]at e;obtain⟨x,h1,e1,e⟩:=Ev.ah e;split at e
  .rename_i hk;simp only[Ev.bX,Ev.ak]at e;refine⟨r,fr,h,x,h1,sr,hr,e1,λv H1 r1 v1 hr1 f1=>⟨AK hr1 v1 hk ht,?_⟩⟩;exact⟨r1,h1,x,[],d,h',hr1,v1,.nil,e,q.later f1⟩
  .cases e
end
end Sm
set_option maxRecDepth 100000
namespace Sm
open PySem PySem.Spec PyProof.Rows L2
open Ev (D O Hh Fr R aM E Es Eo T S Ss Fl Src bO bJ TY BI ME)
noncomputable def qy(K:PySem.W.Frag)(r0:List Addr)(H0:Hp)(s:Src)(J:L2.It):Prop:=∀(i:Nat) H1 r1 h1,HR K H1 r1 h1->Fm K r0 r1 H0 H1->Ev.stays h1 s.2=true->
 (∀d,s.1[i]?=some d->J.go i H1/\∀x H2,J.EH i H1 x H2->∃r2,RV K H2 r2 d x/\HR K H2 r2 h1/\Fm K r1 r2 H1 H2)/\(s.1.length<=i->J.stop i H1)
inductive P6(K:PySem.W.Frag)(m:List Nat)(P:aM)(it:Ev.It)(s:L2.St)(H:Hp)(Rr:L2.It->Hp->Prop):Prop
 |mk (r:List Addr) (fr:Fr) (h:Hh) (src:Src) (h':Hh) (c0:SR K m H r fr s) (c1:HR K H r h) (c2:Ev.cz P it fr h=.ok src h') (c3:∀J H' r',HR K H' r' h'->Fm K r r' H H'->qy K r' H' src J->Rr J H'):P6 K m P it s H Rr
noncomputable def JI(G:Tb)(n:Nat)(sc:Scope)(N:List Str)(df:Bool)(m:List Nat)(it:Ev.It)(tg x:Expr):Prop:=∀X,Good G n sc N df X->PI X tg x (P6 X.K m (Ev.run G.F G.w n) it)
noncomputable def EN(z:Str):L2.It:=⟨λi _=>i<z.length,λi H x H'=>H'=H/\∃c,z.cps[i]?=some c/\x=.str ⟨#[c]⟩,λi _=>z.length<=i⟩
theorem J3{M:Model}{A:Around}{E:Value->Shared->Prop}{s:Shared}{tg:Expr}{it:Value}{x:Str}{t:Tok}{Q:Unit->Shared->Prop}(hQ:Q () s):wpAny M A (letOwnedTupleGo tg it (.str x t)) Q E s:=by
 unfold letOwnedTupleGo;cases tg<;>first
  |exact wpAny_pure hQ
  | (cases it<;>exact wpAny_pure hQ)
theorem ue {P:Program}{w:World}{K:PySem.W.Frag}{tg:Expr}(z:Str) (t:Tok) (it:Addr) (ty:String) (hty:ty = "str_ascii_iterator" \/ty = "str_iterator") :
  Turn P w K tg (EN z) [it] it (λi h=>h.IsStrIter it ty z t i) where
 mem:=by simp
 obj:=λi h st b hb=>by
  have e:b=it:=by simpa using hb
  subst e;obtain⟨o,e,c,d⟩:=st;exact⟨o,e,λv z=>by rw[d]at z;cases z⟩
 keep:=λi h h' st k=>by
  obtain⟨o,e,c,d⟩:=st;exact⟨o,k it (by simp) o e,c,d⟩
 item:=by
  intro X hP hw hK hc i pins s σ H E I hf st hg;subst hP hw hK;obtain⟨f0,f1,f2,f3,f4,f5⟩:=hf it (by simp);have W:Walks X.prog X.w X.A it [it] [it] z.cps.size (SignAt z) (λi h=>h.IsStrIter it ty z t i):=by
   rcases hty with e|e
   .subst e;exact Walks.strAscii (I.ok.hd hc) it z t
   .subst e;exact Walks.strWide (I.ok.hd hc) it z t
  refine W.item i s _ _ hg st λv h' tk hv st' kk=>?_;obtain⟨c,u,hc',rfl⟩:=hv;have I1:Inv X pins σ H { s with heap:=h',toks:=tk }:=I.turned (λb o hb e=>kk b o (by simpa using hb) e) f0 f1 f3 f4 f5;exact⟨_,rfl,J3 ⟨.str ⟨#[c]⟩,H,I1,⟨u,rfl⟩,⟨rfl,c,hc',rfl⟩,st',λb hb=>(hf b hb).1⟩⟩
 done:=by
  intro X hP hw hK hc i pins s σ H E I hf st hg;subst hP hw hK;obtain⟨f0,f1,f2,f3,f4,f5⟩:=hf it (by simp);rcases hty with e|e
  .subst e;exact wpAny_pyNext_ascii_end (I.ok.hd hc) st (by simpa[Str.length,EN]using hg) λh' eb=>⟨rfl,I.turned (t':=s.toks) (λb o hb e=>eb b o hb e) f0 f1 f3 f4 f5⟩
  .subst e;exact wpAny_pyNext_wide_end (I.ok.hd hc) st (by simpa[Str.length,EN]using hg) λh' eb=>⟨rfl,I.turned (t':=s.toks) (λb o hb e=>eb b o hb e) f0 f1 f3 f4 f5⟩
 self:=λ_ _ _ _ _ st h=>by
  rcases hty with e|e
  .subst e;exact wpAny_pyIter_striter_ascii st h
  .subst e;exact wpAny_pyIter_striter_wide st h
noncomputable def EO(K:PySem.W.Frag)(x:V)(H:Hp)(Rr:L2.It->Hp->Prop):Prop:=
 (∃a xs,x=.ref a/\eY K H a xs/\Rr (PX K a) H)\/(∃a xs,x=.ref a/\dm K H a xs/\Rr (PY K a) H)\/∃z,x=.str z/\Rr (EN z) H
theorem J4{X:Cx}{tg l:Expr}{tl:TE}{wi:TI}(hl:PE X l tl)(hw:∀s H Rr,wi s H Rr->tl s H λx H1=>EO X.K x H1 Rr):PI X tg l wi:=by
 intro pins s σ H Rr I h;refine bB (hl pins s σ H _ I (hw _ _ _ h)) λv s1 ⟨x,H1,I1,r1,q1⟩=>?_;have fp:∀(o:Obj) b,b∈[s1.heap.objs.size]->gW X pins H1 b:=λo b hb=>by
  have e:b=s1.heap.objs.size:=by simpa using hb
  subst e;exact I1.Cz (Nat.le_refl _) (I1.hok.fresh (Nat.le_refl _))
 rcases q1 with ⟨a,xs,rfl,hq,q⟩|⟨a,xs,rfl,hq,q⟩|⟨z,rfl,q⟩
 .cases r1;obtain⟨its,rv,p,hz⟩:=I1.list hq;refine wpAny_pyIter_list p.isList ?_;exact⟨s1.heap.objs.size,[s1.heap.objs.size],_,_,H1,rfl,I1.kept (t':=s1.toks) λb o e=>Heap.get?_push_of_some _ e,Aj a _,⟨_,Heap.get?_push_size _ rfl,rfl,rfl⟩,fp default,q⟩
 .cases r1;obtain⟨its,rv,p,hz⟩:=I1.tuple hq;refine wpAny_pyIter_tuple (show s1.heap.IsTuple a its.toArray from p) ?_;exact⟨s1.heap.objs.size,[s1.heap.objs.size],_,_,H1,rfl,I1.kept (t':=s1.toks) λb o e=>Heap.get?_push_of_some _ e,yj a _,⟨_,Heap.get?_push_size _ rfl,rfl,rfl⟩,fp default,q⟩
 .obtain⟨t,rfl⟩:=r1;cases ha:z.cps.all (· < 128)
  .refine wpAny_pyIter_wide ha ?_;exact⟨s1.heap.objs.size,[s1.heap.objs.size],_,_,H1,rfl,I1.kept (t':=s1.toks) λb o e=>Heap.get?_push_of_some _ e,ue z t _ _ (.inr rfl),⟨_,Heap.get?_push_size _ rfl,rfl,rfl⟩,fp default,q⟩
  .refine wpAny_pyIter_ascii ha ?_;exact⟨s1.heap.objs.size,[s1.heap.objs.size],_,_,H1,rfl,I1.kept (t':=s1.toks) λb o e=>Heap.get?_push_of_some _ e,ue z t _ _ (.inl rfl),⟨_,Heap.get?_push_size _ rfl,rfl,rfl⟩,fp default,q⟩
theorem AL{h:Hh}{n:Nat}{ds:List D}(e:Ev.stays h [(n,ds)]=true):Ev.bf h n=some ds:=by
 simp only[Ev.stays,Bool.and_true]at e;split at e
 .rename_i es q;rw[q,(Ev.rF _ _).mp e]
 .cases e
theorem GC{K:PySem.W.Frag}{H:Hp}{r:List Addr}{h:Hh}{d:D}{v:V}{src:Src}{Rr:L2.It->Hp->Prop}(hr:HR K H r h)(v1:RV K H r d v)(e:Ev.fk h d=some src)(q:∀J,qy K r H src J->Rr J H):EO K v H Rr:=by
 cases d with
 |tup ds=>
  simp only[RV]at v1;obtain⟨a,vs,rfl,z,w⟩:=v1;cases e;refine .inr (.inl ⟨a,vs,rfl,z,q _ λi H1 r1 h1 hr1 f1 st=>⟨λd' e'=>?_,λhl=>?_⟩⟩)
  .obtain⟨u,e1,e2⟩:=w.get e';refine⟨⟨vs,u,f1.tups _ _ z,e1⟩,λx H2 y=>?_⟩;obtain⟨rfl,y⟩:=y;have:=y vs (f1.tups _ _ z);rw[e1]at this;cases this;exact⟨r1,e2.mono f1,hr1,.refl⟩
  .exact⟨vs,f1.tups _ _ z,by rw[w.length];exact hl⟩
 |str l=>
  simp only[RV]at v1;obtain⟨rfl,z⟩:=v1;cases e;refine .inr (.inr ⟨_,rfl,q _ λi H1 r1 h1 hr1 f1 st=>⟨λd' e'=>?_,λhl=>?_⟩⟩)
  .rw[List.getElem?_map]at e';cases e2:l[i]? with
   |none=>rw[e2]at e';cases e'
   |some c=>
    rw[e2]at e';cases e';refine⟨by show i<(aT l).length;rw[cO];exact(List.getElem?_eq_some_iff.mp e2).1,λx H2 y=>?_⟩;obtain⟨rfl,c',y1,rfl⟩:=y;have e3:(aT l).cps[i]?=some c:=by simp[aT,e2]
    rw[e3]at y1;cases y1;exact⟨r1,⟨rfl,by show 1<=sizeLine;decide⟩,hr1,.refl⟩
  .show(aT l).length<=i;rw[cO];simpa using hl
 |ref k=>
  simp only[RV]at v1;obtain⟨a,rfl,z⟩:=v1;simp only[Ev.fk,Option.map_eq_some_iff]at e;obtain⟨ds,e1,rfl⟩:=e;obtain⟨a',vs,e2,e3,e4⟩:=hr.read e1;rw[z]at e2;cases e2;refine .inl ⟨a,vs,rfl,e3,q _ λi H1 r1 h1 hr1 f1 st=>?_⟩;obtain⟨a',us,e5,e6,e7⟩:=hr1.read (AL st);rw[f1.pre _ _ z]at e5;cases e5;refine⟨λd' e'=>?_,λhl=>⟨us,e6,by rw[e7.length];exact hl⟩⟩;obtain⟨u,g1,g2⟩:=e7.get e';refine⟨⟨us,u,e6,g1⟩,λx H2 y=>?_⟩;obtain⟨rfl,y⟩:=y;have:=y us e6;rw[g1]at this;cases this;exact⟨r1,g2,hr1,.refl⟩
 |_=>cases e
section
variable{G:Tb}{n:Nat}{sc:Scope}{N:List Str}{df:Bool}{m:List Nat}{a b c:E}{xa xb xc tg:Expr}{pos:Pos}
theorem J5(ha:JE G n sc N df m a xa):JI G n sc N df m (.seq a) tg xa:=λX g=>J4 (ha X g) λs H Rr q=>by
 obtain⟨r,fr,h,src,h',sr,hr,e,q⟩:=q;simp only[Ev.cz]at e;obtain⟨d,h1,e1,e⟩:=Ev.ah e;obtain⟨e,rfl⟩:=Ev.aC e;refine⟨r,fr,h,d,_,sr,hr,e1,λv H1 r1 v1 hr1 f1=>?_⟩;exact GC hr1 v1 e λJ hJ=>q J H1 r1 hr1 f1 hJ
theorem PI.of{X:Cx}{tg l:Expr}{t t':TI}(h:PI X tg l t)(w:∀s H Q,t' s H Q->t s H Q):PI X tg l t':=λpins s σ H Q I q=>h pins s σ H Q I (w _ _ _ q)
theorem J6{K:PySem.W.Frag}{r:List Addr}{H:Hp}(lo:Int)(k:Nat):qy K r H (Ev.range lo k,[]) (EI lo k):=λi H1 r1 h1 hr1 f1 st=>by
 refine⟨λd e=>?_,λhl=>?_⟩
 .simp only[Ev.range,List.getElem?_map]at e;cases e2:(List.range k)[i]? with
  |none=>rw[e2]at e;cases e
  |some j=>
   rw[e2]at e;cases e;have hi:i<k:=by simpa using (List.getElem?_eq_some_iff.mp e2).1
   have hj:j=i:=by
    rw[List.getElem?_range hi]at e2;exact(Option.some.inj e2).symm
   subst hj;refine⟨hi,λx H2 y=>?_⟩;obtain⟨rfl,rfl⟩:=y;exact⟨r1,rfl,hr1,.refl⟩
 .have:(Ev.range lo k).length=k:=by simp[Ev.range]
  show k<=i;have hl':(Ev.range lo k).length<=i:=hl;omega
theorem GD {e1:E}{p:Pos}(hs:JA G n sc N df m (.cons e1 .nil) [xa]) (hg:sc.names.lookup ("range" : Str)=some .globalImplicit:=by rfl) (hb:("range" : Str)∈G.bl:=by decide +kernel)
  (hst:∀env:Env,starEach [xa] env=[(false,eval xa env)]:=by intro _;rfl):JI G n sc N df m (.gk (.cons e1 .nil)) tg (.Call (.Name "range" p) [xa] [] pos):=λX g=>
 PI.of (Ak (g.gl hg) (g.bl _ hb) (hs X g) (hst _)) λs H Rr q=>by
  obtain⟨r,fr,h,src,h',sr,hr,e,q⟩:=q;simp only[Ev.cz]at e;obtain⟨ds,h1,e1,e⟩:=Ev.ah e;obtain⟨e,rfl⟩:=Ev.aC e;refine⟨r,fr,h,ds,_,sr,hr,e1,λvs H1 r1 v1 hr1 f1=>?_⟩;unfold Ev.fy at e;split at e
  .rename_i j;split at e
   .rename_i hj;cases e;simp only[aD,RV]at v1;obtain⟨v,w,rfl,rfl,rfl⟩:=v1;exact⟨_,rfl,hj.1,hj.2,q _ H1 r1 hr1 f1 (J6 0 _)⟩
   .cases e
  .exfalso;simp only[Ev.bX]at e1;obtain⟨d,_,_,e1⟩:=Ev.ah e1;simp only[Ev.ak]at e1;cases e1
  .cases e
inductive gJ(K:PySem.W.Frag)(m:List Nat)(t:T)(v:V)(s:L2.St)(H:Hp)(Q:L2.St->Hp->Prop):Prop
 |mk (r:List Addr) (fr:Fr) (h:Hh) (d:D) (aj:Fr) (c0:SR K m H r fr s) (c1:HR K H r h) (c2:RV K H r d v) (c3:Ev.br t d fr=some aj) (c4:∀s',SR K m H r aj s'->Q s' H):gJ K m t v s H Q
noncomputable def JG(G:Tb)(n:Nat)(sc:Scope)(N:List Str)(df:Bool)(m:List Nat)(t:T)(x:Expr):Prop:=∀X,Good G n sc N df X->PG X x (gJ X.K m t)
theorem PG.of{X:Cx}{e:Expr}{t t':TG}(h:PG X e t)(w:∀v s H Q,t' v s H Q->t v s H Q):PG X e t':=λpins s σ H v u Q I r q=>h pins s σ H v u Q I r (w _ _ _ _ q)
theorem SR.set{K:PySem.W.Frag}{m:List Nat}{H:Hp}{r:List Addr}{fr:Fr}{s:L2.St}(sr:SR K m H r fr s)(hm:m.Nodup){j i:Nat}(hj:m[j]?=some i){d:D}{v:V}(v1:RV K H r d v):SR K m H r (fr.set i (some d)) (s.set j (some v)):=by
 refine⟨by simp[sr.len],λj' i' d' e1 e2=>?_⟩;by_cases hi:i'=i
 .subst hi;have:j'=j:=AM hm e1 hj;subst this;have hlt:i'<fr.length:=by
   have:=(List.getElem?_eq_some_iff.mp e2).1;simpa using this
  rw[List.getElem?_set_self hlt]at e2;cases e2;refine⟨v,List.getElem?_set_self ?_,v1⟩;rw[sr.len];exact(List.getElem?_eq_some_iff.mp hj).1
 .rw[List.getElem?_set_ne (λz=>hi z.symm)]at e2;obtain⟨u,q1,q2⟩:=sr.sl j' i' d' e1 e2;refine⟨u,?_,q2⟩;rw[List.getElem?_set_ne]
  .exact q1
  .intro z;subst z;rw[hj]at e1;cases e1;exact hi rfl
where
 AM {l:List Nat} (hl:l.Nodup) {i j:Nat} {x:Nat} (a:l[i]?=some x) (b:l[j]?=some x):i=j:=by
  have ha:=(List.getElem?_eq_some_iff.mp a)
  have hb:=(List.getElem?_eq_some_iff.mp b)
  obtain⟨h1,e1⟩:=ha;obtain⟨h2,e2⟩:=hb;exact(List.getElem_inj hl).mp (e1.trans e2.symm)
theorem Good.loc{X:Cx}(g:Good G n sc N df X){x:Str}(h:sc.names.lookup x=some .local\/(df=true/\sc.names.lookup x=some .cell)):Loc X.env.scope x/\(X.fn x=true\/X.env.scope.names.lookup x=some .local):=by
 rw[show Loc X.env.scope x↔Loc sc x by rw[g.sc],g.sc];rcases h with h|⟨h1,h⟩
 .exact⟨.inl h,.inr h⟩
 .exact⟨.inr h,.inl (g.own h1 x)⟩
theorem J7(j i:Nat){x:Str}(hm:m.Nodup)(hN:N.Nodup)(hj:m[j]?=some i:=by rfl)(AN:N[j]?=some x:=by rfl)
  (hl:sc.names.lookup x=some .local\/(df=true/\sc.names.lookup x=some .cell):=by first|exact Or.inl rfl|exact Or.inr ⟨rfl,rfl⟩):JG G n sc N df m (.one i) (.Name x pos):=λX g=>by
 obtain⟨h1,h2⟩:=g.loc hl;refine PG.of (wH (i:=j) (by rw[g.nm];exact hN) (by rw[g.nm];exact AN) h1 h2) λv s H Q q=>?_;obtain⟨r,fr,h,d,aj,sr,hr,v1,e,q⟩:=q;cases e;exact q _ (sr.set hm hj v1)
inductive P7(K:PySem.W.Frag)(m:List Nat)(l:List Nat)(vs:List V)(s:L2.St)(H:Hp)(Q:L2.St->Hp->Prop):Prop
 |mk (r:List Addr) (fr:Fr) (h:Hh) (ds:List D) (aj:Fr) (c0:SR K m H r fr s) (c1:HR K H r h) (c2:aD K H r ds vs) (c3:Ev.cG l ds fr=some aj) (c4:∀s',SR K m H r aj s'->Q s' H):P7 K m l vs s H Q
noncomputable def rG(G:Tb)(n:Nat)(sc:Scope)(N:List Str)(df:Bool)(m:List Nat)(l:List Nat)(xs:List Expr):Prop:=∀X,Good G n sc N df X->nU X xs (P7 X.K m l)
theorem nU.of{X:Cx}{e:List Expr}{t t':qY}(h:nU X e t)(w:∀v s H Q,t' v s H Q->t v s H Q):nU X e t':=λpins s σ H v u Q I r q=>h pins s σ H v u Q I r (w _ _ _ _ q)
theorem GF:rG G n sc N df m [] []:=λX g=>nU.of Gf λvs s H Q q=>by
 obtain⟨r,fr,h,ds,aj,sr,hr,v1,e,q⟩:=q;cases ds with
 |nil=>simp only[aD]at v1;subst v1;cases e;exact⟨rfl,q _ sr⟩
 |cons _ _=>cases e
theorem CY(j i:Nat){x:Str}{l:List Nat}{xs:List Expr}(hm:m.Nodup)(hN:N.Nodup)(hs:rG G n sc N df m l xs)(hj:m[j]?=some i:=by rfl)(AN:N[j]?=some x:=by rfl)
  (hl:sc.names.lookup x=some .local\/(df=true/\sc.names.lookup x=some .cell):=by first|exact Or.inl rfl|exact Or.inr ⟨rfl,rfl⟩)
  (hst:∀env:Env,(assignEach (.Name x pos :: xs) env).map (·.2)=assign (.Name x pos) env :: (assignEach xs env).map (·.2):=by intro _;rfl):rG G n sc N df m (i :: l) (.Name x pos :: xs):=λX g=>by
 obtain⟨h1,h2⟩:=g.loc hl;refine nU.of (Cw (wH (i:=j) (by rw[g.nm];exact hN) (by rw[g.nm];exact AN) h1 h2) (hs X g) (hst _)) λvs s H Q q=>?_;obtain⟨r,fr,h,ds,aj,sr,hr,v1,e,q⟩:=q;cases ds with
 |nil=>cases e
 |cons d ds=>
  simp only[aD]at v1;obtain⟨v,w,rfl,v2,v3⟩:=v1;exact⟨v,w,rfl,r,_,h,ds,aj,sr.set hm hj v2,hr,v3,e,q⟩
theorem GG{l:List Nat}{xs:List Expr}{k:Nat}(hs:rG G n sc N df m l xs)(hn:∀env:Env,(assignEach xs env).length=l.length:=by intro _;rfl)(hst:∀env:Env,(assignEach xs env).findIdx? (·.1)=none:=by intro _;rfl) :
  JG G n sc N df m (.many l) (.Tuple xs k pos):=λX g=>PG.of (IU (n:=l.length) g.calm (hs X g) (hn _) (hst _)) λv s H Q q=>by
 obtain⟨r,fr,h,d,aj,sr,hr,v1,e,q⟩:=q;cases d with
 |tup ds=>
  simp only[RV]at v1;obtain⟨p,vs,rfl,z,w⟩:=v1;have hlen:∀(l:List Nat) (ds:List D) fr aj,Ev.cG l ds fr=some aj->ds.length=l.length:=by
   intro l;induction l with
   |nil=>intro ds fr aj e;cases ds with|nil=>rfl|cons _ _=>cases e
   |cons i l ih=>intro ds fr aj e;cases ds with|nil=>cases e|cons d ds=>simp[ih ds _ _ e]
  exact⟨p,vs,rfl,z,by rw[w.length];exact hlen _ _ _ _ e,r,fr,h,ds,aj,sr,hr,w,e,q⟩
 |_=>cases e
end
end Sm
set_option maxRecDepth 100000
namespace Sm
open PySem PySem.Spec PyProof.Rows L2
open Ev (D O Hh Fr R aM E Es Eo T S Ss Fl Src bO bJ TY BI ME)
noncomputable def Fin(K:PySem.W.Frag)(m:List Nat)(r:List Addr)(H:Hp)(h':Hh)(fl:Fl)(aj:Fr)(Q:Ends):Prop:=match fl with
 |.nx=>∀s' H' r',SR K m H' r' aj s'->HR K H' r' h'->Fm K r r' H H'->Q.nx s' H'
 |.bk=>∀s' H' r',SR K m H' r' aj s'->HR K H' r' h'->Fm K r r' H H'->Q.bk s' H'
 |.ct=>∀s' H' r',SR K m H' r' aj s'->HR K H' r' h'->Fm K r r' H H'->Q.ct s' H'
 |.ret d=>Res K r H h' d Q.rt
theorem Fin.later{K:PySem.W.Frag}{m:List Nat}{r r':List Addr}{H H':Hp}{h':Hh}{fl:Fl}{aj:Fr}{Q:Ends}(q:Fin K m r H h' fl aj Q)(f:Fm K r r' H H'):Fin K m r' H' h' fl aj Q:=by
 cases fl with
 |nx=>exact λs2 H2 r2 a b g=>q s2 H2 r2 a b (f.trans g)
 |bk=>exact λs2 H2 r2 a b g=>q s2 H2 r2 a b (f.trans g)
 |ct=>exact λs2 H2 r2 a b g=>q s2 H2 r2 a b (f.trans g)
 |ret d=>exact Res.later q f
inductive P8(K:PySem.W.Frag)(m:List Nat)(P:aM)(w:Nat)(st:S)(Q:Ends)(s:L2.St)(H:Hp):Prop
 |mk (r:List Addr) (fr:Fr) (h:Hh) (fl:Fl) (aj:Fr) (h':Hh) (c0:SR K m H r fr s) (c1:HR K H r h) (c2:Ev.ex P w st fr h=.ok (fl,aj) h') (c3:Fin K m r H h' fl aj Q):P8 K m P w st Q s H
inductive CZ(K:PySem.W.Frag)(m:List Nat)(P:aM)(w:Nat)(ss:Ss)(Q:Ends)(s:L2.St)(H:Hp):Prop
 |mk (r:List Addr) (fr:Fr) (h:Hh) (fl:Fl) (aj:Fr) (h':Hh) (c0:SR K m H r fr s) (c1:HR K H r h) (c2:Ev.exs P w ss fr h=.ok (fl,aj) h') (c3:Fin K m r H h' fl aj Q):CZ K m P w ss Q s H
theorem PS.of{X:Cx}{st:Stmt}{t t':TS}(h:PS X st t)(w:∀Q s H,t' Q s H->t Q s H):PS X st t':=λpins s σ H Q I q=>h pins s σ H Q I (w _ _ _ q)
theorem gU.of{X:Cx}{st:List Stmt}{t t':TS}(h:gU X st t)(w:∀Q s H,t' Q s H->t Q s H):gU X st t':=λpins s σ H Q I q=>h pins s σ H Q I (w _ _ _ q)
section
variable(G:Tb)(n:Nat)(sc:Scope)(N:List Str)(df:Bool)(m:List Nat)
noncomputable def JS(st:S)(x:Stmt):Prop:=∀X,Good G n sc N df X->PS X x (P8 X.K m (Ev.run G.F G.w n) G.w st)
noncomputable def jC(ss:Ss)(xs:List Stmt):Prop:=∀X,Good G n sc N df X->gU X xs (CZ X.K m (Ev.run G.F G.w n) G.w ss)
end
section
variable{G:Tb}{n:Nat}{sc:Scope}{N:List Str}{df:Bool}{m:List Nat}{a b c:E}{xa xb xc tg:Expr}{pos:Pos}
theorem GH:jC G n sc N df m .nil []:=λX g=>gU.of Ge λQ s H q=>by
 obtain⟨r,fr,h,fl,aj,h',sr,hr,e,q⟩:=q;simp only[Ev.exs]at e;cases e;exact q s H r sr hr .refl
theorem C0{st:S}{ss:Ss}{x:Stmt}{xs:List Stmt}(h1:JS G n sc N df m st x)(h2:jC G n sc N df m ss xs):jC G n sc N df m (.cons st ss) (x :: xs):=λX g=>gU.of (Cu (h1 X g) (h2 X g)) λQ s H q=>by
 obtain⟨r,fr,h,fl,aj,h',sr,hr,e,q⟩:=q;simp only[Ev.exs]at e;obtain⟨⟨gF,af⟩,h1,e1,e⟩:=Ev.ah e;refine⟨r,fr,h,gF,af,h1,sr,hr,e1,?_⟩;cases gF with
 |nx=>exact λs1 H1 r1 AO hr1 f1=>⟨r1,af,h1,fl,aj,h',AO,hr1,e,q.later f1⟩
 |bk=>cases e;exact q
 |ct=>cases e;exact q
 |ret d=>cases e;exact q
theorem J8(j i:Nat){x:Str}{pos':Pos}(hm:m.Nodup)(hN:N.Nodup)(ha:JE G n sc N df m a xa)(hs:∀env:Env,swapsWith xa (some (.Name x pos')) pos.line env=pure false:=by intro _;rfl)(hj:m[j]?=some i:=by rfl)(AN:N[j]?=some x:=by rfl)
  (hl:sc.names.lookup x=some .local\/(df=true/\sc.names.lookup x=some .cell):=by first|exact Or.inl rfl|exact Or.inr ⟨rfl,rfl⟩):JS G n sc N df m (.set i a) (.Assign [.Name x pos'] xa pos):=λX g=>by
 obtain⟨h1,h2⟩:=g.loc hl;refine PS.of (IV (i:=j) (by rw[g.nm];exact hN) (by rw[g.nm];exact AN) h1 (ha X g) (hs _) h2) λQ s H q=>?_;obtain⟨r,fr,h,fl,aj,h',sr,hr,e,q⟩:=q;simp only[Ev.ex]at e;obtain⟨d,h1,e1,e⟩:=Ev.ah e;cases e;exact⟨r,fr,h,d,_,sr,hr,e1,λv H1 r1 v1 hr1 f1=>q _ H1 r1 ((sr.mono f1).set hm hj v1) hr1 f1⟩
theorem J9(ha:JE G n sc N df m a xa)(hs:∀env:Env,swapsWith xa none pos.line env=pure false:=by intro _;rfl):JS G n sc N df m (.exp a) (.Expr xa pos):=λX g=>PS.of (wG (ha X g) (hs _)) λQ s H q=>by
 obtain⟨r,fr,h,fl,aj,h',sr,hr,e,q⟩:=q;simp only[Ev.ex]at e;obtain⟨d,h1,e1,e⟩:=Ev.ah e;cases e;exact⟨r,fr,h,d,_,sr,hr,e1,λv H1 r1 v1 hr1 f1=>q s H1 r1 (sr.mono f1) hr1 f1⟩
theorem Ka(ha:JE G n sc N df m a xa):JS G n sc N df m (.ret a) (.Return (some xa) pos):=λX g=>PS.of (IS (ha X g)) λQ s H q=>by
 obtain⟨r,fr,h,fl,aj,h',sr,hr,e,q⟩:=q;simp only[Ev.ex]at e;obtain⟨d,h1,e1,e⟩:=Ev.ah e;cases e;exact⟨r,fr,h,d,_,sr,hr,e1,q⟩
theorem Kc{ta tb:Ss}{ya yb:List Stmt}(hc:JT G n sc N df m a xa)(h1:jC G n sc N df m ta ya)(h2:jC G n sc N df m tb yb):JS G n sc N df m (.iff a ta tb) (.If xa ya yb pos):=λX g=>PS.of (Nv (hc X g) (h1 X g) (h2 X g)) λQ s H q=>by
 obtain⟨r,fr,h,fl,aj,h',sr,hr,e,q⟩:=q;simp only[Ev.ex]at e;obtain⟨k,h3,e1,e⟩:=Ev.ah e;refine⟨r,fr,h,k,h3,sr,hr,e1,λH1 r1 hr1 f1=>?_⟩;cases k with
 |true=>exact⟨r1,fr,h3,fl,aj,h',sr.mono f1,hr1,e,q.later f1⟩
 |false=>exact⟨r1,fr,h3,fl,aj,h',sr.mono f1,hr1,e,q.later f1⟩
theorem Good.pass{X:Cx}(g:Good G n sc N df X):PassesOwn (model X.prog X.w) X.A X.env X.xe:=by
 rw[g.xe];exact PassesOwn.never
noncomputable def FN(K:PySem.W.Frag)(m:List Nat)(gF:Fl)(gm:Fr)(h4:Hh)(r1:List Addr)(H1:Hp)(s5:L2.St)(H5:Hp):Prop:=(gF=.nx\/gF=.ct)/\∃r5,SR K m H5 r5 gm s5/\HR K H5 r5 h4/\Fm K r1 r5 H1 H5
section
variable{K:PySem.W.Frag}{r r1 r2:List Addr}{H H1 H2:Hp}{h4 h':Hh}{fl gF:Fl}{gm aj:Fr}{Q:Ends}
noncomputable def yJ(L:R (Fl×Fr))(p:Fl×Fr)(h1:Hh):R (Fl×Fr):=match p.1 with
 |.nx=>L
 |.ct=>L
 |.bk=>.ok (.nx,p.2) h1
 |.ret x=>.ok (.ret x,p.2) h1
theorem wW{L:R (Fl×Fr)}(e:yJ L (gF,gm) h4=.ok (fl,aj) h')(z:gF=.nx\/gF=.ct):L=.ok (fl,aj) h':=by rcases z with rfl|rfl<;>exact e
theorem uf{L:R (Fl×Fr)}(e:yJ L (gF,gm) h4=.ok (fl,aj) h')(q:Fin K m r H h' fl aj Q)(f:Fm K r r1 H H1)(f2:Fm K r1 r2 H1 H2):Fin K m r2 H2 h4 gF gm { Q with nx:=FN K m gF gm h4 r1 H1,ct:=FN K m gF gm h4 r1 H1,bk:=Q.nx }:=by
 cases gF with
 |nx=>exact λs6 H6 r6 AQ AR f6=>⟨.inl rfl,r6,AQ,AR,f2.trans f6⟩
 |ct=>exact λs6 H6 r6 AQ AR f6=>⟨.inr rfl,r6,AQ,AR,f2.trans f6⟩
 |bk=>
  cases e;exact λs6 H6 r6 AQ AR f6=>q s6 H6 r6 AQ AR ((f.trans f2).trans f6)
 |ret d=>
  cases e;exact Res.later q (f.trans f2)
noncomputable def ug(P:aM)(w:Nat)(t:T)(tb:Ss):D->Fr->Hh->R (Fl×Fr):=λd ao h2=>match Ev.br t d ao with
 |some bx=>Ev.exs P w tb bx h2
 |none=>.bad
theorem uh(P:aM)(w:Nat)(t:T)(it:Ev.It)(tb:Ss)(fr:Fr)(h:Hh):Ev.ex P w (.for t it tb) fr h=(Ev.cz P it fr h).bind λs h1=>Ev.forL (ug P w t tb) s.2 s.1 fr h1:=by simp only[Ev.ex];rfl
theorem rH(f:D->Fr->Hh->R (Fl×Fr))(ck:List (Nat×List D))(d:D)(ds:List D)(fr:Fr)(h:Hh):Ev.forL f ck (d :: ds) fr h=if Ev.stays h ck then (f d fr h).bind λp h1=>yJ (Ev.forL f ck ds p.2 h1) p h1 else .bad:=rfl
noncomputable def FW(K:PySem.W.Frag)(m:List Nat)(f:D->Fr->Hh->R (Fl×Fr))(src:Src)(r1:List Addr)(H1:Hp)(o:Fl×Fr)(h':Hh)(i k:Nat)(s3:L2.St)(H3:Hp):Prop:=
 k=src.1.length - i/\i<=src.1.length/\∃r3 bx h3,SR K m H3 r3 bx s3/\HR K H3 r3 h3/\Fm K r1 r3 H1 H3/\Ev.forL f src.2 (src.1.drop i) bx h3=.ok o h'
theorem C1{P:aM}{w:Nat}{t:T}{tb:Ss}{src:Src}{J:L2.It}{i k:Nat}{s3:L2.St}{H3:Hp}(hJ:qy K r1 H1 src J)(q:Fin K m r H h' fl aj Q)(f1:Fm K r r1 H H1)(hW:FW K m (ug P w t tb) src r1 H1 (fl,aj) h' i k s3 H3) :
  (J.stop i H3/\Q.nx s3 H3)\/(J.go i H3/\∃N:L2.St->Hp->Prop,(∀σ' H',N σ' H'->∃m',m'<k/\FW K m (ug P w t tb) src r1 H1 (fl,aj) h' (i+1) m' σ' H')/\∀x H',J.EH i H3 x H'->gJ K m t x s3 H' λσ2 H2=>CZ K m P w tb { Q with nx:=N,ct:=N,bk:=Q.nx } σ2 H2):=by
 obtain⟨rfl,hle,r3,bx,h3,wX,jf,f3,e3⟩:=hW;rcases Nat.lt_or_ge i src.1.length with hlt|hge
 .rw[List.drop_eq_getElem_cons hlt,rH]at e3;split at e3
  .rename_i hst;obtain⟨g1,g2⟩:=(hJ i H3 r3 h3 jf f3 hst).1 src.1[i] (List.getElem?_eq_getElem hlt);obtain⟨⟨gF,gm⟩,h4,e4,e3⟩:=Ev.ah e3;unfold ug at e4;split at e4
   .rename_i mq e5;exact .inr ⟨g1,FN K m gF gm h4 r1 H1,λs5 H5 ⟨hfl,r5,AS,rJ,f5⟩=>⟨_,Nat.sub_lt_sub_left hlt (Nat.lt_succ_self i),rfl,hlt,r5,gm,h4,AS,rJ,f5,wW e3 hfl⟩,λx H4 y=>
     let ⟨r4,v4,P9,f4⟩:=g2 x H4 y
     ⟨r4,bx,h3,_,mq,wX.mono f4,P9,v4,e5,λs5 AS=>⟨r4,mq,h3,gF,gm,h4,AS,P9,e4,uf e3 q f1 (f3.trans f4)⟩⟩⟩
   .cases e4
  .cases e3
 .have hi:i=src.1.length:=Nat.le_antisymm hle hge;subst hi;rw[List.drop_length]at e3;unfold Ev.forL at e3;split at e3
  .rename_i hst;cases e3;exact .inl ⟨(hJ _ H3 r3 _ jf f3 hst).2 (Nat.le_refl _),q s3 H3 r3 wX jf (f1.trans f3)⟩
  .cases e3
end
theorem AU(t:Fr->Hh->R Bool)(f:Fr->Hh->R (Fl×Fr))(n:Nat)(fr:Fr)(h:Hh):Ev.dQ t f (n+1) fr h=(t fr h).bind λb h1=>if b then (f fr h1).bind λp h2=>yJ (Ev.dQ t f n p.2 h2) p h2 else .ok (.nx,fr) h1:=rfl
noncomputable def WW(K:PySem.W.Frag)(m:List Nat)(P:aM)(w:Nat)(a:E)(tb:Ss)(r:List Addr)(H:Hp)(o:Fl×Fr)(h':Hh)(k:Nat)(s1:L2.St)(H1:Hp):Prop:=
 ∃r1 af h1,SR K m H1 r1 af s1/\HR K H1 r1 h1/\Fm K r r1 H H1/\Ev.dQ (λao h2=>Ev.aF P a ao h2) (λao h2=>Ev.exs P w tb ao h2) k af h1=.ok o h'
theorem Kd{tb:Ss}{yb:List Stmt}(hc:JT G n sc N df m a xa)(h1:jC G n sc N df m tb yb):JS G n sc N df m (.o8 a tb) (.While xa yb [] pos):=λX g=>PS.of (Cy g.pass (hc X g) (h1 X g)) λQ s H q=>by
 obtain⟨r,fr,h,fl,aj,h',sr,hr,e,q⟩:=q;simp only[Ev.ex]at e;refine⟨WW X.K m (Ev.run G.F G.w n) G.w a tb r H (fl,aj) h',⟨_,r,fr,h,sr,hr,.refl,e⟩,λk s1 H1 hW=>?_⟩;obtain⟨r1,af,h1,AO,hr1,f1,e1⟩:=hW;cases k with
 |zero=>cases e1
 |succ k=>
  rw[AU]at e1;obtain⟨bb,h2,e2,e1⟩:=Ev.ah e1;refine⟨r1,af,h1,bb,h2,AO,hr1,e2,λH2 r2 hr2 f2=>?_⟩;cases bb with
  |false=>
   cases e1;exact q s1 H2 r2 (AO.mono f2) hr2 (f1.trans f2)
  |true=>
   rw[if_pos rfl]at e1;obtain⟨⟨gF,ao⟩,h3,e3,e1⟩:=Ev.ah e1;exact⟨FN X.K m gF ao h3 r H,λs3 H3 ⟨hfl,r3,wX,jf,f3⟩=>⟨k,Nat.lt_succ_self k,r3,ao,h3,wX,jf,f3,wW e1 hfl⟩,r2,af,h2,gF,ao,h3,AO.mono f2,hr2,e3,uf e1 q .refl (f1.trans f2)⟩
theorem Ke{t:T}{it:Ev.It}{tb:Ss}{yb:List Stmt}(hi:JI G n sc N df m it tg xa)(hg:JG G n sc N df m t tg)(h1:jC G n sc N df m tb yb)(hs:∀(env:Env) x,foldedSetIterable xa env x=pure x:=by intro _ _;rfl) :
  JS G n sc N df m (.for t it tb) (.For tg xa yb [] pos):=λX g=>PS.of (IX g.pass g.calm (hi X g) (hg X g) (h1 X g) (hs _)) λQ s H q=>by
 obtain⟨r,fr,h,fl,aj,h',sr,hr,e,q⟩:=q;rw[uh]at e;obtain⟨src,h2,e1,e⟩:=Ev.ah e;exact⟨r,fr,h,src,h2,sr,hr,e1,λJ H1 r1 hr1 f1 hJ=>⟨FW X.K m (ug (Ev.run G.F G.w n) G.w t tb) src r1 H1 (fl,aj) h',⟨src.1.length,rfl,Nat.zero_le _,r1,fr,h2,sr.mono f1,hr1,.refl,by rw[List.drop_zero];exact e⟩,λi k s3 H3 hW=>C1 hJ q f1 hW⟩⟩
end
theorem getElem?_range'{k j i:Nat}(h:(List.range k)[j]?=some i):i=j:=by
 obtain⟨h1,h2⟩:=List.getElem?_eq_some_iff.mp h;simpa using h2.symm
theorem C2{K:PySem.W.Frag}{H:Hp}{r:List Addr}{ds:List D}{vs:List V}{N:List Str}{fn:Ev.Fn}(v1:aD K H r ds vs)(hN:vs.length<=N.length):SR K (List.range N.length) H r (Ev.eS fn ds) (L2.start N vs):=by
 refine⟨by unfold L2.start;simp;omega,λj i d e1 e2=>?_⟩;have e3:=getElem?_range' e1;subst e3;unfold Ev.eS at e2;by_cases hj:i<ds.length
 .rw[List.getElem?_append_left (by simpa using hj),List.getElem?_map]at e2;cases e4:ds[i]? with
  |none=>rw[e4]at e2;cases e2
  |some d'=>
   rw[e4]at e2;cases e2;obtain⟨v,q1,q2⟩:=v1.get e4;refine⟨v,?_,q2⟩;unfold L2.start;rw[List.getElem?_append_left (by have:=v1.length;simpa using (by omega:i<vs.length)),List.getElem?_map,q1];rfl
 .rw[List.getElem?_append_right (by simpa using Nat.not_lt.mp hj),List.getElem?_replicate]at e2;split at e2<;>cases e2
section
variable{P:Program}{w:World}{K:PySem.W.Frag}{mg:Str->Option Value}{base:Heap}{G:Tb}
noncomputable def sO(P:Program)(w:World)(K:PySem.W.Frag)(mg:Str->Option Value)(base:Heap)(G:Tb)(n:Nat):Prop:=∀(f:Nat) i,G.fi[f]?=some i->iA P w K mg base mD n i.addr i.fd i.ps (nW K G.F G.w n f)
structure Top(P:Program)(w:World)(K:PySem.W.Frag)(mg:Str->Option Value)(G:Tb):Prop where
 fn:∀(f:Nat) i,G.fi[f]?=some i->mg i.name=some (.ref i.addr)/\PySem.W.keepIn K (.ref i.addr)=true/\Binds K i.fd i.ps []
 bl:∀x∈G.bl,mg x=none
 cs:∀x d,(x,d)∈G.cs->∃v u,mg x=some u/\RelV v u/\wU K d v
 dk:∀x kvs,(x,kvs)∈G.dk->∃a,mg x=some (.ref a)/\∀h:Heap,K.In h->StrTab P w h a (tabOf kvs)
theorem GI{f:Addr}{fd:FuncData}{ps:List Str}{k:Nat}:iA P w K mg base mD 0 f fd ps (nW K G.F G.w 0 k):=by
 have no:∀vs H Q E,¬ nW K G.F G.w 0 k vs H Q E:=λvs H Q E h=>by
  obtain⟨r,h,ds,d,h',_,_,e,_⟩:=h;cases e
 exact⟨λvs H Q E h=>absurd h (no vs H Q E),λA outer s H args us vs Q E _ _ _ _ h=>absurd h (no vs H Q E)⟩
theorem cK{x qual:Str}{st:Stmt}{i:FI}{N:List Str}{n f:Nat}{fn:Ev.Fn}(T:Top P w K mg G)(A0:sO P w K mg base G n)(F:rD K x qual st i.addr i.fd)(S:bD N i.ps (aO st))(hf:G.F[f]?=some fn)(hp:i.ps.length=fn.np)
  (hb:jC G n (aO st) N true (List.range N.length) fn.body (gE st)):iA P w K mg base mD (n+1) i.addr i.fd i.ps (nW K G.F G.w (n+1) f):=by
 have hlen:∀vs H Q E,nW K G.F G.w (n+1) f vs H Q E->vs.length=i.ps.length:=λvs H Q E h=>by
  obtain⟨r,h,ds,d,h',v1,_,e,_⟩:=h;simp only[Ev.run,hf]at e;split at e
  .rename_i z;rw[v1.length,z,hp]
  .cases e
 refine F.ok S hlen λcdv A outer s H vs Q E hr kB=>?_;have hl:=hlen vs H Q E kB;have hN:vs.length<=N.length:=by
  have:=congrArg List.length S.pre;rw[List.length_take]at this;omega
 have g:Good G n (aO st) N true (oG mD P w K mg base N qual (aO st) i.addr cdv A outer s H E).qX:=
  ⟨rfl,rfl,rfl,λ_ _=>rfl,hr,rfl,λf i hi=>⟨(T.fn f i hi).1,(T.fn f i hi).2.1,(T.fn f i hi).2.2,A0 f i hi⟩,T.bl,T.cs,T.dk⟩
 refine⟨_,hb _ g,?_⟩;obtain⟨r,h,ds,d,h',v1,hr1,e,q⟩:=kB;simp only[Ev.run,hf]at e;split at e
 .unfold Ev.endOf at e;obtain⟨⟨fl,aj⟩,h2,e1,e⟩:=Ev.ah e;refine⟨r,Ev.eS fn ds,h,fl,aj,h2,C2 v1 hN,hr1,e1,?_⟩;cases fl with
  |nx=>
   cases e;exact λs' H' r' _ hr' f'=>q _ H' r' rfl hr' f'
  |ret d'=>
   cases e;exact q
  |bk=>cases e
  |ct=>cases e
 .cases e
end
end Sm
set_option maxRecDepth 100000
namespace Sm
open PySem PySem.Spec PyProof.Rows L2 PySem.SeqAt
open Ev (D O Hh Fr R aM E Es Eo T S Ss Fl Src bO bJ TY BI ME)
theorem C3(kvs:List (Int×List Nat))(k:Int):((dJ kvs).find? λkv=>decide (kv.1=(Sum.inl k:Key)))=(kvs.find? λp=>decide (p.1=k)).map λp=>(Sum.inl p.1,V.str (aT p.2)):=by
 induction kvs with
 |nil=>rfl
 |cons p kvs ih=>
  simp only[dJ,List.map_cons,List.find?_cons]at ih ⊢;by_cases h:p.1=k
  .simp[h]
  .rw[decide_eq_false (by simpa using h),decide_eq_false h];exact ih
theorem GJ(kvs:List (Int×List Nat))(k:Int):iB (dJ kvs) (Sum.inl k:Key)=(Ev.bW kvs k).map λs=>V.str (aT s):=by
 unfold iB Ev.bW;rw[C3,Option.map_map,Option.map_map];rfl
theorem wY(kvs:List (Int×List Nat))(k:Int)(s:List Nat):putK (dJ kvs) (Sum.inl k:Key) (V.str (aT s))=dJ (Ev.cD kvs k s):=by
 have ha:((dJ kvs).any λkv=>decide (kv.1=(Sum.inl k:Key)))=(kvs.any λp=>decide (p.1=k)):=by
  unfold dJ;rw[List.any_map];congr 1;funext p;simp
 unfold putK Ev.cD;rw[ha];split
 .unfold dJ;rw[List.map_map,List.map_map];refine List.map_congr_left λp _=>?_;by_cases h:p.1=k<;>simp[h]
 .unfold dJ;rw[List.map_append];rfl
theorem GK{kvs:List (Int×List Nat)}{k:Int}{s:List Nat}(h:Ev.bW kvs k=some s):∃p∈kvs,p.2=s:=by
 unfold Ev.bW at h;obtain⟨p,e,rfl⟩:=Option.map_eq_some_iff.mp h;exact⟨p,List.mem_of_find?_eq_some e,rfl⟩
theorem wZ{kvs:List (Int×List Nat)}{k:Int}{s:List Nat}{p:Int×List Nat}(h:p∈Ev.cD kvs k s):p∈kvs\/p.2=s:=by
 unfold Ev.cD at h;split at h
 .obtain⟨q,hq,rfl⟩:=List.mem_map.mp h;split
  .exact .inr rfl
  .exact .inl hq
 .rcases List.mem_append.mp h with h|h
  .exact .inl h
  .rw[List.mem_singleton]at h;subst h;exact .inr rfl
section
variable{K:PySem.W.Frag}{H:Hp}{r:List Addr}{h:Hh}
theorem HR.gY{p:Addr}(hr:HR K H r h)(hp:H p=none):HR K (upd H p (.dK [])) (r++[p]) (h++[.dct []]) where
 len:=by simp[hr.len]
 ob:=λn ob e=>by
  by_cases hn:n<h.length
  .rw[List.getElem?_append_left hn]at e;obtain⟨a,e1,z⟩:=hr.ob n ob e;exact⟨a,(Fm.laid (K:=K) (o:=.dK []) hp).pre n a e1,z.mono (Fm.laid hp) (λ_ vs _ z=>by rw[aS (bw z hp)];exact z) (λ_ _ z=>by rw[aS (bw z hp)];exact z) (λ_ _ _ z=>by rw[aS (bw z hp)];exact z)⟩
  .have e2:=(List.getElem?_eq_some_iff.mp e).1;simp only[List.length_append,List.length_singleton]at e2;have e3:n=h.length:=by omega
   subst e3;simp at e;subst e;exact⟨p,by rw[<-hr.len];simp,fh,λq hq=>by cases hq⟩
 inj:=λn m a x y e1 e2 e3 e4=>by
  have out:∀(k:Nat) z,(h++[O.dct []])[k]?=some (.lst z)->(r++[p])[k]?=some a->r[k]?=some a/\h[k]?=some (.lst z):=λk z q1 q2=>by
   by_cases hk:k<h.length
   .rw[List.getElem?_append_left hk]at q1;rw[List.getElem?_append_left (by rw[hr.len];exact hk)]at q2;exact⟨q2,q1⟩
   .have e5:=(List.getElem?_eq_some_iff.mp q1).1;simp only[List.length_append,List.length_singleton]at e5;have e6:k=h.length:=by omega
    subst e6;simp at q1
  exact hr.inj n m a x y (out n x e3 e1).1 (out m y e4 e2).1 (out n x e3 e1).2 (out m y e4 e2).2
 jU:=λn m a x y e1 e2 e3 e4=>by
  have out:∀(k:Nat) z,(h++[O.dct []])[k]?=some (.dct z)->(r++[p])[k]?=some a->(r[k]?=some a/\h[k]?=some (.dct z)/\a≠p)\/(k=h.length/\a=p):=λk z q1 q2=>by
   by_cases hk:k<h.length
   .rw[List.getElem?_append_left hk]at q1;rw[List.getElem?_append_left (by rw[hr.len];exact hk)]at q2;obtain⟨b,e5,e6,_⟩:=hr.dct q1;rw[q2]at e5;cases e5;exact .inl ⟨q2,q1,bw e6 hp⟩
   .have e5:=(List.getElem?_eq_some_iff.mp q1).1;simp only[List.length_append,List.length_singleton]at e5;have e6:k=r.length:=by rw[hr.len];omega
    subst e6;simp at q2;exact .inr ⟨hr.len,q2.symm⟩
  rcases out n x e3 e1 with ⟨h2,h3,h4⟩|⟨h1,h2⟩
  .rcases out m y e4 e2 with ⟨k2,k3,k4⟩|⟨k1,k2⟩
   .exact hr.jU n m a x y h2 k2 h3 k3
   .exact absurd k2 h4
  .rcases out m y e4 e2 with ⟨k2,k3,k4⟩|⟨k1,k2⟩
   .exact absurd h2 k4
   .rw[h1,k1]
theorem Fm.dput{a:Addr}{vs ws:List (Key×V)}(ha:H a=some (.dK vs))(hm:a∈r):Fm K r r H (upd H a (.dK ws)) where
 pre:=λn b e=>e
 new:=λb e=>.inl e
 keep:=λb ob e n=>by rw[aS (λz=>n (by rw[z];exact hm))];exact e
 tups:=λb us e=>by
  rcases e with (e|⟨ob,e⟩)|e
  .exact .inl (.inl (by rw[aS (gT e ha (by intro z;cases z))];exact e))
  .exact .inl (.inr ⟨ob,by rw[aS (gT e ha (by intro z;cases z))];exact e⟩)
  .exact .inr e
theorem HR.dput{n:Nat}{a:Addr}{ds es:List (Int×List Nat)}(hr:HR K H r h)(hn:h[n]?=some (.dct ds))(uc:r[n]?=some a)(ha:H a=some (.dK (dJ ds)))(q:∀p∈es,p.2.length<=sizeLine) :
  HR K (upd H a (.dK (dJ es))) r (h.set n (.dct es)) where
 len:=by simp[hr.len]
 ob:=λm ob e=>by
  have f:=Fm.dput (K:=K) (ws:=dJ es) ha (List.mem_of_getElem? uc);by_cases hm:m=n
  .subst hm;rw[List.getElem?_set_self (List.getElem?_eq_some_iff.mp hn).1]at e;cases e;exact⟨a,uc,fh,q⟩
  .rw[List.getElem?_set_ne (λz=>hm z.symm)]at e;obtain⟨b,e1,z⟩:=hr.ob m ob e;refine⟨b,e1,z.mono f (λ_ us _ z2=>by rw[aS (gT z2 ha (by intro z;cases z))];exact z2) (λUr us z2=>by rw[aS (gT z2 ha (by intro z;cases z))];exact z2) (λkvs us z3 z2=>?_)⟩;by_cases hb:b=a
   .subst hb;subst z3;exact absurd (hr.jU m n b kvs ds e1 uc e hn) hm
   .rw[aS hb];exact z2
 inj:=λk m b x y e1 e2 e3 e4=>by
  have back:∀(j:Nat) z,(h.set n (O.dct es))[j]?=some (.lst z)->h[j]?=some (.lst z):=λj z w=>by
   by_cases hj:j=n
   .subst hj;rw[List.getElem?_set_self (List.getElem?_eq_some_iff.mp hn).1]at w;cases w
   .rw[List.getElem?_set_ne (λz=>hj z.symm)]at w;exact w
  exact hr.inj k m b x y e1 e2 (back k x e3) (back m y e4)
 jU:=λk m b x y e1 e2 e3 e4=>by
  have back:∀(j:Nat) z,(h.set n (O.dct es))[j]?=some (.dct z)->∃z',h[j]?=some (.dct z'):=λj z w=>by
   by_cases hj:j=n
   .subst hj;exact⟨ds,hn⟩
   .rw[List.getElem?_set_ne (λz=>hj z.symm)]at w;exact⟨z,w⟩
  obtain⟨x',e5⟩:=back k x e3;obtain⟨y',e6⟩:=back m y e4;exact hr.jU k m b x' y' e1 e2 e5 e6
end
theorem um{h:Hh}{x:D}{kvs:List (Int×List Nat)}(e:Ev.fj h x=some kvs):∃n,x=.ref n/\h[n]?=some (.dct kvs):=by
 cases x with
 |ref n=>
  simp only[Ev.fj]at e;split at e
  .rename_i k z;cases e;exact⟨n,rfl,z⟩
  .cases e
 |_=>cases e
theorem GL{h h0:Hh}{x y z d:D}(e:Ev.t9 x y z h h0=some d):∃n ER kvs k,x=.ref n/\h0[n]?=some (.dct ER)/\h[n]?=some (.dct kvs)/\y=.int k/\d=(match Ev.bW kvs k with|some s=>.str s|none=>z):=by
 unfold Ev.t9 at e;cases hx:Ev.fj h0 x with
 |none=>rw[hx]at e;cases e
 |some ER=>
  rw[hx]at e;obtain⟨n,rfl,w⟩:=um hx;cases hy:Ev.fj h (.ref n)with
  |none=>rw[hy]at e;cases e
  |some kvs=>
   rw[hy]at e;obtain⟨n',en,w'⟩:=um hy;cases en;cases y with
   |int k=>cases e;exact⟨n,ER,kvs,k,rfl,w,w',rfl,rfl⟩
   |_=>cases e
theorem C4{h h':Hh}{x y z:D}(e:Ev.sL x y z h=some h'):∃n kvs k s,x=.ref n/\y=.int k/\z=.str s/\h[n]?=some (.dct kvs)/\kvs.length<Ev.big/\h'=h.set n (.dct (Ev.cD kvs k s)):=by
 unfold Ev.sL at e;cases x with
 |ref n=>
  cases y with
  |int k=>
   cases z with
   |str s=>
    simp only at e;cases hn:h[n]? with
    |none=>rw[hn]at e;cases e
    |some o=>
     rw[hn]at e;cases o with
     |dct kvs=>
      simp only at e;by_cases hl:kvs.length<Ev.big
      .rw[if_pos hl]at e;cases e;exact⟨n,kvs,k,s,rfl,rfl,rfl,hn,hl,rfl⟩
      .rw[if_neg hl]at e;cases e
     |_=>cases e
   |_=>cases e
  |_=>cases e
 |_=>cases e
section
variable{G:Tb}{n:Nat}{sc:Scope}{N:List Str}{df:Bool}{m:List Nat}{a b c:E}{xa xb xc:Expr}{pos:Pos}
theorem GN:JE G n sc N df m .gY (.Dict [] [] pos):=λX g=>PE.of CP λs H Q q=>by
 obtain⟨r,fr,h,d,h',sr,hr,e,q⟩:=q;simp only[Ev.ev]at e;cases e;intro p hp;exact q _ _ (r++[p]) ⟨p,rfl,by rw[<-hr.len];simp⟩ (hr.gY hp) (Fm.laid hp)
theorem Kf {apos:Pos}(ha:JE G n sc N df m a xa) (hb:JE G n sc N df m b xb) (hc:JE G n sc N df m c xc) (hM:∀X:Cx,M2 X xa "get" apos xb xc pos:=by intro X;exact⟨rfl,rfl,rfl,rfl⟩):JE G n sc N df m (.lT a b c) (.Call (.Attribute xa "get" apos) [xb,xc] [] pos):=λX g=>PE.of (CQ (EK g.room) (ha X g) (hb X g) (hc X g) (hM X)) λs H Q q=>by
 obtain⟨r,fr,h,d,h',sr,hr,e,q⟩:=q;simp only[Ev.ev]at e;obtain⟨x,h1,e1,e⟩:=Ev.ah e;obtain⟨y,h2,e2,e⟩:=Ev.ah e;obtain⟨z,h3,e3,e⟩:=Ev.ah e;obtain⟨e,rfl⟩:=Ev.aC e;obtain⟨i,ER,kvs,k,rfl,y0,y1,rfl,rfl⟩:=GL e;refine⟨r,fr,h,.ref i,h1,sr,hr,e1,λv H1 r1 v1 hr1 f1=>?_⟩;obtain⟨p0,w1,w2,w3⟩:=hr1.dct y0;obtain⟨p,rfl,z4⟩:=id v1;rw[w1]at z4;cases z4;refine⟨p0,rfl,.inl ⟨_,.inl w2⟩,r1,fr,h1,.int k,h2,sr.mono f1,hr1,e2,λu H2 r2 v2 hr2 f2=>?_⟩;refine⟨r2,fr,h2,z,_,(sr.mono f1).mono f2,hr2,e3,λt H3 r3 v3 jf f3=>?_⟩;obtain⟨p1,x1,x2,x3⟩:=jf.dct y1;have x4:=f3.pre _ _ (f2.pre _ _ w1);rw[x1]at x4;cases x4;cases v2;have g:=t6.k (k:=Sum.inl k) x2;rw[GJ]at g;refine⟨_,g,?_⟩;cases ev:Ev.bW kvs k with
 |none=>rw[ev]at q;exact q _ H3 r3 v3 jf ((f1.trans f2).trans f3)
 |some s2=>
  rw[ev]at q;obtain⟨q0,Qa,rfl⟩:=GK ev;exact q _ H3 r3 ⟨rfl,x3 q0 Qa⟩ jf ((f1.trans f2).trans f3)
theorem GO{tp:Pos}(ho:JE G n sc N df m a xa)(hi:JE G n sc N df m b xb)(hv:JE G n sc N df m c xc)
  (hs:∀env:Env,swapsWith xc (some (.Subscript xa xb tp)) pos.line env=pure false:=by intro _;rfl):JS G n sc N df m (.dput a b c) (.Assign [.Subscript xa xb tp] xc pos):=λX g=>PS.of (Gy (EK g.room) (ho X g) (hi X g) (hv X g) (hs _)) λQ s H q=>by
 obtain⟨r,fr,h,fl,aj,h',sr,hr,e,q⟩:=q;simp only[Ev.ex]at e;obtain⟨x,h2,e1,e⟩:=Ev.ah e;obtain⟨y,h3,e2,e⟩:=Ev.ah e;obtain⟨z,h4,e3,e⟩:=Ev.ah e;refine⟨r,fr,h,x,h2,sr,hr,e1,λv H1 r1 v1 hr1 f1=>?_⟩;refine⟨r1,fr,h2,y,h3,sr.mono f1,hr1,e2,λu H2 r2 v2 hr2 f2=>?_⟩;refine⟨r2,fr,h3,z,h4,(sr.mono f1).mono f2,hr2,e3,λt H3 r3 v3 jf f3=>?_⟩;split at e
 .rename_i h5 e5;cases e;obtain⟨i,kvs,k,w,rfl,rfl,rfl,z5,hl,rfl⟩:=C4 e5;obtain⟨p1,x1,x2,x3⟩:=jf.dct z5;obtain⟨p,rfl,x4⟩:=v2.mono f3;rw[x1]at x4;cases x4;cases v3;obtain⟨rfl,lw⟩:=(v1.mono f2).mono f3;have lk:(dJ kvs).length<sizeLine:=by unfold dJ;rw[List.length_map];exact hl
  have g:=t7.k (k:=Sum.inl k) (v:=V.str (aT w)) x2 lk;rw[wY]at g;refine⟨p1,_,rfl,g,?_⟩;have fp:=Fm.dput (K:=X.K) (ws:=dJ (Ev.cD kvs k w)) x2 (List.mem_of_getElem? x1);exact q _ _ r3 ((((sr.mono f1).mono f2).mono f3).mono fp) (jf.dput z5 x1 x2 λp hp=>(wZ hp).elim (x3 p) λz=>by rw[z];exact lw) (((f1.trans f2).trans f3).trans fp)
 .cases e
end
end Sm
set_option maxRecDepth 100000
namespace L2
open PySem PySem.Spec PyProof.Rows
theorem NZ{X:Cx}{pins:List (Addr×Obj)}{σ:St}{H:Hp}{s:Shared}{A:Around}{E:Value->Shared->Prop}{a b:Addr}{kvs more:List (Key×V)}{Q:Value->Shared->Prop}(I:Inv X pins σ H s)(ea:H a=some (.dK kvs))(eb:H b=some (.dK more))(ne:a≠b)(hz:kvs.length+more.length<=sizeLine)
  (h:∀s',Inv X pins σ (upd H a (.dK (jA kvs more))) s'->Q .none s'):wpAny (model X.prog X.w) A (call (.builtin "dict.update") [.ref a,.ref b]) Q E s:=by
 obtain⟨z,hd,vs,rel,dd⟩:=yx I.hok ea;obtain⟨z2,hd2,w9,Kg,dd2⟩:=yx I.hok eb;refine call_meetsIn PySem.F.slot_dict_update dd.typeIs PySem.F.entry_dict_update (PySem.F.args_dict_update_2 _ _) (meets_dict_update (cL X.prog X.w) a b ne hd2) ⟨vs,w9,dd,dd2,by rw[<-rel.length,<-Kg.length];exact hz,λh' t8 _ hs=>h _ ?_⟩;have he:∃q,h'.get? a=some q:=let ⟨q,_,_,hq,_⟩:=t8;⟨q,hq⟩;exact qv (t':=s.toks) I (by rw[ea];exact True.intro) hs he (AE (Nat.le_trans (lS _ _) hz) hd (Kg.merge rel) t8)
noncomputable def N1(td ty:TE):TE:=λσ H Q=>td σ H λx H1=>∃a,x=.ref a/\Jy H1 a/\ty σ H1 λy H2=>∃b kvs more,y=.ref b/\a≠b/\H2 a=some (.dK kvs)/\H2 b=some (.dK more)/\kvs.length+more.length<=sizeLine/\Q .aG (upd H2 a (.dK (jA kvs more)))
theorem GP {X:Cx}{o e:Expr}{apos cpos:Pos}{td ty:TE}(ho:PE X o td) (he:PE X e ty) (m:M1 X o "update" apos e cpos):PE X (.Call (.Attribute o "update" apos) [e] [] cpos) (N1 td ty):=by
 intro pins s σ H Q I h;refine wpAny_Call_method m.base m.few m.line PySem.F.plainAttrs_dict PySem.F.slot_dict_update PySem.F.type_dict_update (bB (ho pins s σ H _ I h) λu s1 ⟨x,H1,I1,rx,a,ex,d,q1⟩=>?_);subst ex;obtain rfl:u=Value.ref a:=rx;obtain⟨t1,t2,_⟩:=AG I1 d;refine⟨t1,t2,?_⟩;rw[m.trees];refine Calls.callWith_builtin rfl (Calls.evalArgs_plain (Calls.spliced_cons (bB (he pins s1 σ H1 _ I1 q1) λiv s2 ⟨y,H2,I2,ry,b,kvs,more,ey,ne,ea,eb,hz,q2⟩=>Calls.spliced_nil ?_)));subst ey;obtain rfl:iv=Value.ref b:=ry;exact NZ I2 ea eb ne hz λs3 I3=>⟨.aG,_,I3,rfl,q2⟩
end L2
namespace Sm
open PySem PySem.Spec PyProof.Rows L2 PySem.SeqAt
open Ev (D O Hh Fr R aM E Es Eo T S Ss Fl Src bO bJ TY BI ME)
theorem rK:∀(m k:List (Int×List Nat)),jA (dJ k) (dJ m)=dJ (Ev.b7 k m)
 |[],k=>rfl
 |p :: m,k=>by
  show jA (putK (dJ k) (Sum.inl p.1) (V.str (aT p.2))) (dJ m)=_;rw[wY];exact rK m _
theorem rL:∀{m k:List (Int×List Nat)}{p:Int×List Nat},p∈Ev.b7 k m->p∈k\/∃q∈m,q.2=p.2
 |[],k,p,h=>.inl h
 |q :: m,k,p,h=>by
  have h:p∈Ev.b7 (Ev.cD k q.1 q.2) m:=h;rcases rL h with h|⟨q',h1,h2⟩
  .rcases wZ h with h|h
   .exact .inl h
   .exact .inr ⟨q,.head _,h.symm⟩
  .exact .inr ⟨q',.tail _ h1,h2⟩
theorem C5{h h' h0:Hh}{x y:D}(e:Ev.sM x y h h0=some h'):∃n m k0 k j,x=.ref n/\y=.ref m/\h0[n]?=some (.dct k0)/\h[n]?=some (.dct k)/\h[m]?=some (.dct j)/\n≠m/\k.length+j.length<=Ev.big/\h'=h.set n (.dct (Ev.b7 k j)):=by
 unfold Ev.sM at e;split at e
 .rename_i n m;split at e
  .rename_i k0 k j e0 e1 e2;split at e
   .rename_i hc;cases e;refine⟨n,m,k0,k,j,rfl,rfl,?_,e1,e2,hc.1,hc.2,rfl⟩;simp only[Ev.fj]at e0;split at e0
    .rename_i z;cases e0;exact z
    .cases e0
   .cases e
  .cases e
 .cases e
section
variable{G:Tb}{n:Nat}{sc:Scope}{N:List Str}{df:Bool}{m:List Nat}{a b c:E}{xa xb xc:Expr}{pos:Pos}
theorem GQ {apos p2:Pos}(ha:JE G n sc N df m a xa) (hb:JE G n sc N df m b xb) (hM:∀X:Cx,M1 X xa "update" apos xb p2:=by intro X;exact⟨rfl,rfl,rfl,rfl⟩)
  (hs:∀env:Env,swapsWith (.Call (.Attribute xa "update" apos) [xb] [] p2) none pos.line env=pure false:=by intro _;rfl):JS G n sc N df m (.oM a b) (.Expr (.Call (.Attribute xa "update" apos) [xb] [] p2) pos):=λX g=>PS.of (wG (GP (ha X g) (hb X g) (hM X)) (hs _)) λQ s H q=>by
 obtain⟨r,fr,h,fl,aj,h',sr,hr,e,q⟩:=q;simp only[Ev.ex,Ev.ua]at e;obtain⟨x,h1,e1,e⟩:=Ev.ah e;obtain⟨y,h2,e2,e⟩:=Ev.ah e;split at e
 .rename_i h3 e3;cases e;obtain⟨i,j,k0,k,l,rfl,rfl,y0,y1,y2,ne,hl,rfl⟩:=C5 e3;refine⟨r,fr,h,.ref i,h1,sr,hr,e1,λv H1 r1 v1 hr1 f1=>?_⟩;obtain⟨p0,w1,w2,w3⟩:=hr1.dct y0;obtain⟨p,rfl,z4⟩:=id v1;rw[w1]at z4;cases z4;refine⟨p0,rfl,.inl ⟨_,.inl w2⟩,r1,fr,h1,.ref j,h2,sr.mono f1,hr1,e2,λu H2 r2 v2 hr2 f2=>?_⟩;obtain⟨p1,x1,x2,x3⟩:=hr2.dct y1;have x4:=f2.pre _ _ w1;rw[x1]at x4;cases x4;obtain⟨p3,x5,x6,x7⟩:=hr2.dct y2;obtain⟨p4,rfl,z5⟩:=id v2;rw[x5]at z5;cases z5;have Ut:p0≠p3:=λz=>ne (by subst z;exact hr2.jU i j p0 k l x1 x5 y1 y2);refine⟨p3,_,_,rfl,Ut,x2,x6,?_,?_⟩
  .unfold dJ;rw[List.length_map,List.length_map,<-iS];exact hl
  rw[rK];have fp:=Fm.dput (K:=X.K) (ws:=dJ (Ev.b7 k l)) x2 (List.mem_of_getElem? x1);exact q _ _ r2 (((sr.mono f1).mono f2).mono fp) (hr2.dput y1 x1 x2 λp hp=>(rL hp).elim (x3 p) λ⟨q,hq,z⟩=>by rw[<-z];exact x7 q hq) ((f1.trans f2).trans fp)
 .cases e
theorem C6{P:aM}{w i x y f:Nat}{ss:Ss}{fr:Fr}{h:Hh}:Ev.exs P w (.cons (.ja i x y f) ss) fr h=Ev.exs P w (.cons (.set i .gY) (.cons (.for (.one x) (.seq (.v y)) (.cons (.oM (.v i) (.cl f (.cons (.v x) .nil))) .nil)) ss)) fr h:=by
 conv=>lhs;rw[Ev.exs,Ev.ex]
 conv=>rhs;rw[Ev.exs,Ev.ex,Ev.ev]
 simp only[Ev.ak];rw[Ev.exs,Ev.ex]
 congr 2
 funext s h1
 congr 1
 funext d ao h2
 cases Ev.br (.one x) d ao with
 |none=>rfl
 |some bx=>
  simp only[Ev.exs,Ev.ex];cases Ev.ua P (.v i) (.cl f (.cons (.v x) .nil)) bx h2 with
  |bad=>rfl
  |ok p h3=>
   obtain⟨g,q⟩:=p;cases g<;>rfl
theorem C7{i x y f:Nat}{ss:Ss}{s1 s2:Stmt}{xs:List Stmt}(h:jC G n sc N df m (.cons (.set i .gY) (.cons (.for (.one x) (.seq (.v y)) (.cons (.oM (.v i) (.cl f (.cons (.v x) .nil))) .nil)) ss)) (s1 :: s2 :: xs)):jC G n sc N df m (.cons (.ja i x y f) ss) (s1 :: s2 :: xs):=λX g=>gU.of (h X g) λQ s H q=>by
 obtain⟨r,fr,h,fl,aj,h',sr,hr,e,q⟩:=q;rw[C6]at e;exact⟨r,fr,h,fl,aj,h',sr,hr,e,q⟩
end
end Sm
set_option maxRecDepth 100000
namespace Sm
open PySem PySem.Spec PyProof.Rows L2
open Ev (D O Hh Fr R aM E Es Eo T S Ss Fl Src bO bJ TY BI ME)
theorem qz(env:Env):∀(names:List (Str×NameKind)) (acc:List (Str×Addr)),(∀x,(x,NameKind.free)∈names->∃c,env.cells.lookup x=some c)->(∀x c,acc.lookup x=some c->env.cells.lookup x=some c)->
  ∃cl,(forIn names acc (λ(x:Str×NameKind) cs=>if (x.2==NameKind.free)=true then (do let c <-cellOf env x.1;pure (ForInStep.yield ((x.1,c) :: cs)))else pure (ForInStep.yield cs)):Sem (List (Str×Addr)))=pure cl/\
   (∀x c,cl.lookup x=some c->env.cells.lookup x=some c)/\(∀x,(x,NameKind.free)∈names->(cl.lookup x).isSome=true)/\(∀x,(acc.lookup x).isSome=true->(cl.lookup x).isSome=true)
 |[],acc,_,h2=>⟨acc,rfl,h2,(λx h=>by simp at h),λ_ h=>h⟩
 | (y,k) :: r,acc,h1,h2=>by
  by_cases hk:k=.free
  .subst hk;obtain⟨c,hc⟩:=h1 y (List.mem_cons_self ..);have h2':∀x c',((y,c) :: acc).lookup x=some c'->env.cells.lookup x=some c':=λx c' e=>by
    rw[List.lookup_cons]at e;split at e
    .rename_i hx;have hx':x=y:=by simpa using hx
     cases e;rw[hx'];exact hc
    .exact h2 x c' e
   obtain⟨cl,e1,e2,e3,e4⟩:=qz env r ((y,c) :: acc) (λx hx=>h1 x (List.mem_cons_of_mem _ hx)) h2';refine⟨cl,?_,e2,λx hx=>?_,λx hx=>e4 x ?_⟩
   .rw[List.forIn_cons];simp only[beq_self_eq_true,if_true];unfold cellOf;rw[hc];exact e1
   .rcases List.mem_cons.mp hx with z|z
    .cases z;exact e4 y (by simp[List.lookup_cons])
    .exact e3 x z
   .rw[List.lookup_cons];split
    .rfl
    .exact hx
  .have hk':(k==NameKind.free)=false:=by simpa using hk
   obtain⟨cl,e1,e2,e3,e4⟩:=qz env r acc (λx hx=>h1 x (List.mem_cons_of_mem _ hx)) h2;refine⟨cl,?_,e2,λx hx=>?_,e4⟩
   .rw[List.forIn_cons];simp only[hk',Bool.false_eq_true,if_false];exact e1
   .rcases List.mem_cons.mp hx with z|z
    .cases z;exact absurd rfl hk
    .exact e3 x z
theorem GR{scope:Scope}{env:Env}(h:∀x,(x,NameKind.free)∈scope.names->∃c,env.cells.lookup x=some c) :
  ∃cl,closureFor scope env=pure cl/\(∀x c,cl.lookup x=some c->env.cells.lookup x=some c)/\∀x,(x,NameKind.free)∈scope.names->∃c,cl.lookup x=some c:=by
 obtain⟨cl,e1,e2,e3,_⟩:=qz env scope.names [] h (λx c e=>by simp at e);refine⟨cl,?_,e2,λx hx=>Option.isSome_iff_exists.mp (e3 x hx)⟩;unfold closureFor;show(forIn scope.names [] _ >>= λcs=>pure cs:Sem (List (Str×Addr)))=pure cl;have e:(forIn scope.names [] (λ(x:Str×NameKind) cs=>if (x.2==NameKind.free)=true then (do let c <-cellOf env x.1;pure (ForInStep.yield ((x.1,c) :: cs)))else pure (ForInStep.yield cs)):Sem (List (Str×Addr)))=pure cl:=e1;exact congrArg (λt:Sem (List (Str×Addr))=>t >>= λcs=>pure cs) e
noncomputable def g9(sc scope:Scope):Scope:={ scope with names:=scope.names.map λ(n,k)=>if (k==.free&&sc.kind==.function&&sc.names.lookup n==some .cell)then (n,.cell)else (n,k)}
theorem qA{env:Env}{sc scope:Scope}(h:env.scope=sc):relabel scope env=g9 sc scope:=by
 subst h;rfl
theorem rM{sc:Scope}:∀{names:List (Str×NameKind)}{x:Str},(∀y∈names,y.2≠.cell)->
  ((names.map λ(n,k)=>if (k==NameKind.free&&sc.kind==.function&&sc.names.lookup n==some .cell)then (n,NameKind.cell)else (n,k)).lookup x=some .cell\/
   (names.map λ(n,k)=>if (k==NameKind.free&&sc.kind==.function&&sc.names.lookup n==some .cell)then (n,NameKind.cell)else (n,k)).lookup x=some .free)->(x,NameKind.free)∈names
 |[],_,_,h=>by rcases h with h|h<;>simp at h
 | (n,k) :: r,x,hc,h=>by
  have ih:=@rM sc r x λy hy=>hc y (List.mem_cons_of_mem _ hy);simp only[List.map_cons]at h;have nk:∀(k':NameKind),(if (k==NameKind.free&&sc.kind==.function&&sc.names.lookup n==some .cell)then (n,NameKind.cell)else (n,k))=(n,k')->k'=.cell\/k'=.free->k=.free:=λk' e hk'=>by
   split at e
   .rename_i z;simp only[Bool.and_eq_true,beq_iff_eq]at z;exact z.1.1
   .cases e;rcases hk' with z|z
    .exact absurd z (hc (n,_) (List.mem_cons_self ..))
    .exact z
  generalize hg:(if (k==NameKind.free&&sc.kind==.function&&sc.names.lookup n==some .cell)then (n,NameKind.cell)else (n,k))=p at h nk
  have hp:p.1=n:=by rw[<-hg];split<;>rfl
  obtain⟨p1,p2⟩:=p;simp only at hp;subst hp;simp only[List.lookup_cons]at h;cases hx:(x==p1)with
  |true=>
   have hx':x=p1:=by simpa using hx
   rw[hx]at h;have:=nk p2 rfl (by rcases h with h|h<;>simp at h<;>simp[h]);subst this;rw[hx'];exact List.mem_cons_self ..
  |false=>
   rw[hx]at h;exact List.mem_cons_of_mem _ (ih h)
section
variable{prog:Program}{w:World}{A:Around}{R':Result->Shared->Prop}{s:Shared}
abbrev gf:Value->Shared->Prop:=λ_ _=>False
noncomputable def xg(ifs:List Expr)(env:Env):Sem Bool:=forIn ifs true λc r=>if r=true then do let ok <-isTrue c env (eval c env);pure (ForInStep.yield ok)else pure (ForInStep.yield r)
theorem uo{elt target iter:Expr}{ifs:List Expr}{scope:Scope}{pos:Pos}{it acc:Value}{env:Env}(I:Nat->Shared->Prop)
  (turn:∀n s,I n s->wpAny (model prog w) A (pyNext it) (λr s₁=>match r with
   |none=>R' (.ok .next) s₁
   |some v=>wpAny (model prog w) A (letOwnedTupleGo target it v) (λ_ s₂=>wpAny (model prog w) A (assign target env v) (λ_ s₃=>
     wpAny (model prog w) A (xg ifs env) (λok s₄=>
      if ok=true then wpAny (model prog w) A (eval elt env) (λx s₅=>
       wpAny (model prog w) A (call (.builtin "list.append") [acc,x]) (λ_ s₆=>∃m,m<n/\I m s₆) gf s₅) gf s₄
      else ∃m,m<n/\I m s₄) gf s₃) gf s₂) gf s₁) gf s)
  (n:Nat) (h:I n s):codeAny (model prog w) A (.compLoop (.ListComp elt [⟨target,iter,ifs,0⟩] scope pos) 0 it acc env) R' s:=by
 refine codeAny_loop rfl I (λn s hI=>?_) n h;show wpAny _ A ((compTurn (.ListComp elt [⟨target,iter,ifs,0⟩] scope pos) 0 it acc env).onRaise (λx=>do noteFrame x env;theTreesLotGoes x)) _ _ s;refine wpAny_noted ?_;rw[compTurn_list];refine wpAny_bind (wpAny_standAt (wpAny_bind (wpAny_mono (turn n s hI) (λr s₁ h₁=>?_) λ_ _ h'=>h'.elim)));cases r with
 |none=>exact wpAny_pure h₁
 |some v=>
  refine wpAny_bind (wpAny_mono h₁ (λ_ s₂ h₂=>?_) λ_ _ h'=>h'.elim);refine wpAny_bind (wpAny_mono h₂ (λ_ s₃ h₃=>wpAny_bind (wpAny_mono h₃ (λok s₄ h₄=>?_) λ_ _ h'=>h'.elim)) λ_ _ h'=>h'.elim);cases ok with
  |false=>exact wpAny_pure ⟨rfl,h₄⟩
  |true=>
   exact wpAny_bind (wpAny_bind (wpAny_mono h₄ (λx s₅ h₅=>wpAny_bind (wpAny_mono h₅ (λ_ s₆ h₆=>wpAny_pure (wpAny_pure ⟨rfl,h₆⟩)) λ_ _ h'=>h'.elim)) λ_ _ h'=>h'.elim))
end
inductive Qc(K:PySem.W.Frag)(m:List Nat)(P:aM)(e:Eo)(s:L2.St)(H:Hp)(Q:Bool->Hp->Prop):Prop
 |mk (r:List Addr) (fr:Fr) (h:Hh) (k:Bool) (h':Hh) (c0:SR K m H r fr s) (c1:HR K H r h) (c2:Ev.gZ P e fr h=.ok k h') (c3:∀H' r',HR K H' r' h'->Fm K r r' H H'->Q k H'):Qc K m P e s H Q
noncomputable def JC(G:Tb)(n:Nat)(sc:Scope)(N:List Str)(df:Bool)(m:List Nat)(e:Eo)(ifs:List Expr):Prop:=∀X,Good G n sc N df X->∀(pins:List (Addr×Obj)) (s:Shared) (σ:L2.St) (H:Hp) (Q:Bool->Hp->Prop),Inv X pins σ H s->
 Qc X.K m (Ev.run G.F G.w n) e σ H Q->wpAny (model X.prog X.w) X.A (xg ifs X.env) (TP X pins σ Q) X.xe s
section
variable{G:Tb}{n:Nat}{sc:Scope}{N:List Str}{df:Bool}{m:List Nat}{a b c:E}{xa xb xc tg:Expr}{pos:Pos}
theorem N2:JC G n sc N df m .no []:=λX g pins s σ H Q I q=>by
 obtain⟨r,fr,h,k,h',sr,hr,e,q⟩:=q;simp only[Ev.gZ]at e;cases e;exact wpAny_pure ⟨H,I,q H r hr .refl⟩
theorem Kh(hc:JT G n sc N df m a xa):JC G n sc N df m (.yes a) [xa]:=λX g pins s σ H Q I q=>by
 obtain⟨r,fr,h,k,h',sr,hr,e,q⟩:=q;simp only[Ev.gZ]at e;exact wpAny_tests_one (hc X g pins s σ H Q I ⟨r,fr,h,k,h',sr,hr,e,q⟩)
end
noncomputable def pC(X:Cx)(N':List Str)(scope:Scope)(cl:List (Str×Addr))(C:Addr)(s3:Shared)(H3:Hp)(fp:List Addr):Cx:=
 { X with N:=N',s₀:=s3,H₀:=H3,env:=compEnvC scope cl C X.env,outer:=X.stack,stack:=X.stack,ex:=fp,fn:=λ_=>false,pn:=[],xe:=λ_ _=>False }
noncomputable def namesOk(sc:Scope)(N:List Str)(m:List Nat)(scope:Scope)(t:T)(N':List Str)(m':List Nat):Prop:=m'.length=N'.length/\
 ∀(j:Nat) x i,N'[j]?=some x->m'[j]?=some i->i∈Ev.slots t\/((x,NameKind.free)∈scope.names/\∃jo:Nat,N[jo]?=some x/\m[jo]?=some i)
noncomputable def uq(sc:Scope)(N:List Str)(m:List Nat)(scope:Scope)(t:T)(N':List Str)(m':List Nat):Bool:=m'.length==N'.length&&
 (List.range N'.length).all λj=>match N'[j]?,m'[j]? with
  |some x,some i=>(Ev.slots t).contains i || (scope.names.contains (x,NameKind.free)&&(List.range N.length).any λjo=>N[jo]?==some x&&m[jo]?==some i)
  |_,_=>true
theorem namesOk.of{sc:Scope}{N:List Str}{m:List Nat}{scope:Scope}{t:T}{N':List Str}{m':List Nat}(h:uq sc N m scope t N' m'=true):namesOk sc N m scope t N' m':=by
 unfold uq at h;rw[Bool.and_eq_true]at h;refine⟨by simpa using h.1,λj x i e1 e2=>?_⟩;have hj:j<N'.length:=(List.getElem?_eq_some_iff.mp e1).1;have q:=List.all_eq_true.mp h.2 j (List.mem_range.mpr hj);rw[e1,e2]at q;simp only[Bool.or_eq_true,Bool.and_eq_true,List.any_eq_true]at q;rcases q with q|⟨q1,jo,_,q2⟩
 .exact .inl (by simpa using q)
 .exact .inr ⟨by simpa using q1,jo,by simpa using q2.1,by simpa using q2.2⟩
theorem vP{t:T}{d:D}{fr ao:Fr}(e:Ev.br t d fr=some ao){i:Nat}(hi:i∉Ev.slots t):ao[i]?=fr[i]?:=by
 have go:∀(l:List Nat) (ds:List D) (fr ao:Fr),Ev.cG l ds fr=some ao->i∉l->ao[i]?=fr[i]?:=by
  intro l;induction l with
  |nil=>
   intro ds fr ao e _;cases ds with
   |nil=>cases e;rfl
   |cons _ _=>cases e
  |cons j l ih=>
   intro ds fr ao e hj;cases ds with
   |nil=>cases e
   |cons d ds=>
    rw[ih ds _ _ e λz=>hj (List.mem_cons_of_mem _ z),List.getElem?_set_ne];intro z;exact hj (by rw[z];exact List.mem_cons_self ..)
 cases t with
 |one j=>
  cases e;rw[List.getElem?_set_ne];intro z;exact hi (by simp[Ev.slots,z])
 |many l=>
  cases d with
  |tup ds=>exact go l ds fr ao e hi
  |_=>cases e
theorem SR.unbind{K:PySem.W.Frag}{m:List Nat}{H:Hp}{r:List Addr}{t:T}{d:D}{fr ao:Fr}{s:L2.St}(sr:SR K m H r ao s)(e:Ev.br t d fr=some ao)(hu:Ev.undef t fr=true):SR K m H r fr s:=by
 refine⟨sr.len,λj i d' e1 e2=>sr.sl j i d' e1 ?_⟩;rw[vP e]
 .exact e2
 .intro hi;have q:=List.all_eq_true.mp hu i hi;rw[e2]at q;cases q
end Sm
set_option maxRecDepth 100000
namespace Sm
open PySem PySem.Spec PyProof.Rows L2
open Ev (D O Hh Fr R aM E Es Eo T S Ss Fl Src bO bJ TY BI ME)
structure mG(sc scope:Scope):Prop where
 kind:scope.kind=.function
 AV:∀y∈scope.names,y.2≠.cell
 free:∀x,(x,NameKind.free)∈scope.names->(sc.names.lookup x=some .cell\/sc.names.lookup x=some .free)/\scope.names.lookup x=some .free
 loc:∀y∈scope.names,y.2=.local->scope.names.lookup y.1=some .local
noncomputable def Kl(sc scope:Scope):Bool:=scope.kind==.function&&scope.names.all λy=>y.2 != .cell&&(y.2 != .free || ((sc.names.lookup y.1==some .cell ||sc.names.lookup y.1==some .free)&&scope.names.lookup y.1==some .free))&&(y.2 != .local ||scope.names.lookup y.1==some .local)
theorem mG.of{sc scope:Scope}(h:Kl sc scope=true):mG sc scope:=by
 unfold Kl at h;rw[Bool.and_eq_true]at h;have q:∀y∈scope.names,y.2≠.cell/\(y.2=.free->(sc.names.lookup y.1=some .cell\/sc.names.lookup y.1=some .free)/\scope.names.lookup y.1=some .free)/\(y.2=.local->scope.names.lookup y.1=some .local):=λy hy=>by
  have z:=List.all_eq_true.mp h.2 y hy;simp only[Bool.and_eq_true,Bool.or_eq_true,bne_iff_ne,beq_iff_eq,ne_eq]at z;refine⟨z.1.1,λe=>?_,λe=>?_⟩
  .rcases z.1.2 with w|w
   .exact absurd e w
   .exact w
  .rcases z.2 with w|w
   .exact absurd e w
   .exact w
 exact⟨by simpa using h.1,λy hy=>(q y hy).1,λx hx=>(q _ hx).2.1 rfl,λy hy=>(q y hy).2.2⟩
theorem rN{sc:Scope}:∀{names:List (Str×NameKind)}{x:Str},names.lookup x=some .free->
  ((names.map λ(n,k)=>if (k==NameKind.free&&sc.kind==.function&&sc.names.lookup n==some .cell)then (n,NameKind.cell)else (n,k)).lookup x=some .cell\/
   (names.map λ(n,k)=>if (k==NameKind.free&&sc.kind==.function&&sc.names.lookup n==some .cell)then (n,NameKind.cell)else (n,k)).lookup x=some .free)
 |[],_,h=>by simp at h
 | (n,k) :: r,x,h=>by
  have ih:=@rN sc r x;simp only[List.map_cons];simp only[List.lookup_cons]at h;by_cases hc:(k==NameKind.free&&sc.kind==.function&&sc.names.lookup n==some .cell)=true
  .rw[if_pos hc];simp only[List.lookup_cons];cases hx:(x==n)with
   |true=>exact .inl rfl
   |false=>rw[hx]at h;exact ih h
  .rw[if_neg hc];simp only[List.lookup_cons];cases hx:(x==n)with
   |true=>rw[hx]at h;exact .inr h
   |false=>rw[hx]at h;exact ih h
section
variable{G:Tb}{n:Nat}{sc scope:Scope}{N N':List Str}{df:Bool}{m m':List Nat}{elt:E}{t:T}{it:Ev.It}{cond:Eo}{xe xi tg:Expr}{ifs:List Expr}{pos:Pos}{X:Cx}
theorem Good.comp(g:Good G n sc N df X){cl:List (Str×Addr)}{C:Addr}{s3:Shared}{H3:Hp}{fp:List Addr}:Good G n (g9 sc scope) N' false (pC X N' scope cl C s3 H3 fp):=
 ⟨rfl,qA g.sc,g.calm,(λh=>by cases h),g.room,rfl,g.fn,g.bl,g.cs,g.dk⟩
theorem GS{pins:List (Addr×Obj)}{σ:L2.St}{H3:Hp}{s3:Shared}(g:Good G n sc N df X)(I:Inv X pins σ H3 s3)(hs:mG sc scope){cl:List (Str×Addr)}(jb:∀x c,cl.lookup x=some c->X.env.cells.lookup x=some c)
  (mH:∀x,(x,NameKind.free)∈scope.names->∃c,cl.lookup x=some c) {fp:List Addr} (hfp:∀b∈fp,gW X pins H3 b) (hfl:∀b∈fp,b<s3.heap.objs.size):(pC X N' scope cl s3.heap.objs.size s3 H3 fp).Ok where
 mod:=I.ok.mod
 kind:=hs.kind
 glob:=I.ok.glob
 blt:=I.ok.blt
 above:=Nat.le_refl _
 inj:=λx y c h1 h2=>I.ok.inj x y c (jb x c h1) (jb y c h2)
 has:=λx h=>by
  have h':(g9 sc scope).names.lookup x=some .cell\/(g9 sc scope).names.lookup x=some .free:=by
   rw[<-qA (scope:=scope) g.sc];exact h
  exact mH x (rM hs.AV h')
 wz:=λx c h=>by cases h
 hd:=I.ok.hd
 frames:=I.ok.frames
 stk:=.inl rfl
 EC:=λb hb=>⟨Nat.ne_of_lt (hfl b hb),λx c e=>(hfp b hb).2.2.2.2.1 x c (jb x c e)⟩
 bs:=I.bs
 qV:=Nat.le_trans I.ok.qV I.sz
 ql:=λb o e hb=>by
  rcases(hfp b hb).2.2.2.1 with z|z
  .exact I.ok.ql b o e z
  .have:=Heap.lt_size (I.ok.bs b o e).1;exact absurd (Nat.lt_of_lt_of_le this z) (Nat.lt_irrefl _)
 qm:=λb hb z=>by
  rcases List.mem_cons.mp (I.tO b z)with q|q
  .exact(hfp b hb).2.1 q
  .exact(hfp b hb).2.2.1 q
 iX:=I.stack
 tM:=I.wA
open Classical in
noncomputable def sig(scope:Scope)(N N':List Str)(m':List Nat)(K:PySem.W.Frag)(H:Hp)(r:List Addr)(fr:Fr)(σ:L2.St):L2.St:=
 (List.range N'.length).map λj=>if h:∃v,∃x i,N'[j]?=some x/\m'[j]?=some i/\(x,NameKind.free)∈scope.names/\(∃jo:Nat,N[jo]?=some x/\σ[jo]?=some (some v))/\∀d,fr[i]?=some (some d)->RV K H r d v then some h.choose else none
theorem Km{K:PySem.W.Frag}{H:Hp}{r:List Addr}{fr:Fr}{σ:L2.St}{j:Nat}{v:V}(h:(sig scope N N' m' K H r fr σ)[j]?=some (some v)) :
  ∃x i,N'[j]?=some x/\m'[j]?=some i/\(x,NameKind.free)∈scope.names/\(∃jo:Nat,N[jo]?=some x/\σ[jo]?=some (some v))/\∀d,fr[i]?=some (some d)->RV K H r d v:=by
 unfold sig at h;rw[List.getElem?_map]at h;cases e:(List.range N'.length)[j]? with
 |none=>rw[e]at h;cases h
 |some j'=>
  have:=getElem?_range' e;subst this;rw[e]at h;simp only[Option.map_some,Option.some.injEq]at h;split at h
  .rename_i hh;cases h;exact hh.choose_spec
  .cases h
theorem Kn{K:PySem.W.Frag}{H:Hp}{r:List Addr}{fr:Fr}{σ:L2.St}(sr:SR K m H r fr σ)(hn:namesOk sc N m scope t N' m')(hu:Ev.undef t fr=true):SR K m' H r fr (sig scope N N' m' K H r fr σ):=by
 refine⟨by unfold sig;simp[hn.1],λj i d e1 e2=>?_⟩;have hj:j<N'.length:=by rw[<-hn.1];exact(List.getElem?_eq_some_iff.mp e1).1
 have hx:N'[j]?=some N'[j]:=List.getElem?_eq_getElem hj;rcases hn.2 j _ i hx e1 with hi|⟨h1,jo,h2,h3⟩
 .exfalso;have q:=List.all_eq_true.mp hu i hi;rw[e2]at q;cases q
 .obtain⟨v,h4,h5⟩:=sr.sl jo i d h3 e2;have ex:∃v,∃x i,N'[j]?=some x/\m'[j]?=some i/\(x,NameKind.free)∈scope.names/\(∃jo:Nat,N[jo]?=some x/\σ[jo]?=some (some v))/\∀d,fr[i]?=some (some d)->RV K H r d v:=
   ⟨v,N'[j],i,hx,e1,h1,⟨jo,h2,h4⟩,λd' e'=>by rw[e2]at e';cases e';exact h5⟩
  refine⟨ex.choose,?_,?_⟩
  .unfold sig;rw[List.getElem?_map,List.getElem?_range hj];simp only[Option.map_some];rw[dif_pos ex]
  .obtain⟨x',i',q1,q2,q3,q4,q5⟩:=ex.choose_spec;rw[e1]at q2;cases q2;exact q5 d e2
theorem C8{pins:List (Addr×Obj)}{σ:L2.St}{H3:Hp}{s3:Shared}(g:Good G n sc N df X)(I:Inv X pins σ H3 s3)(hs:mG sc scope){cl:List (Str×Addr)}(jb:∀x c,cl.lookup x=some c->X.env.cells.lookup x=some c)
  (mH:∀x,(x,NameKind.free)∈scope.names->∃c,cl.lookup x=some c) {fp:List Addr} (hfp:∀b∈fp,gW X pins H3 b) (hfl:∀b∈fp,b<s3.heap.objs.size) {h1:Heap} {tk:Nat} {mm:Str->Option Value}
  (hns:h1.Ns s3.heap.objs.size mm) (hk:∀b o,s3.heap.get? b=some o->h1.get? b=some o) {r:List Addr} {fr:Fr} :
  Inv (pC X N' scope cl s3.heap.objs.size s3 H3 fp) [] (sig scope N N' m' X.K H3 r fr σ) H3 { s3 with heap:=h1,toks:=tk }:=by
 refine⟨GS g I hs jb mH hfp hfl,rfl,I.bare,Un.kept hk,⟨mm,hns,λj x v e1 e2 e3=>?_⟩,λx c e=>?_,I.hok.fresh (Nat.le_refl _),λx c e=>I.iK x c (jb x c e),(λp hp=>by simp[pC]at hp),I.hok.kept hk,(by unfold sig;simp[pC])⟩
 .obtain⟨x',i,q1,q2,q3,⟨jo,q4,q5⟩,_⟩:=Km e2;have Uu:N'[j]?=some x:=e1;rw[Uu]at q1;cases q1;obtain⟨f1,f2⟩:=hs.free x q3;obtain⟨mO,VM,Uv⟩:=I.loc;obtain⟨u,ru,lk⟩:=Uv jo x v (by rw[g.nm];exact q4) q5 (by rw[g.sc];rcases f1 with z|z<;>simp[Af,z]);refine⟨u,ru,?_⟩;have hkd:X.env.kindOf x=some .cell\/X.env.kindOf x=some .free:=by unfold Env.kindOf;rw[g.sc];exact f1
  rcases lk with ⟨z,_⟩|⟨_,c,hc,hcell⟩
  .rcases hkd with w|w <;> (rw[z]at w;cases w)
  .obtain⟨c',hc'⟩:=mH x q3;have:c'=c:=by
    have:=jb x c' hc';rw[hc]at this;cases this;rfl
   subst this;refine .inr ⟨?_,c',hc',?_⟩
   .show(relabel scope X.env).names.lookup x=some .cell\/(relabel scope X.env).names.lookup x=some .free;rw[qA (scope:=scope) g.sc];exact rN f2
   .obtain⟨o,ho,hd⟩:=hcell;exact⟨o,hk _ _ ho,hd⟩
 .obtain⟨v,o,ho,hd⟩:=I.cell x c (jb x c e);exact⟨v,o,hk _ _ ho,hd⟩
end
end Sm
set_option maxRecDepth 100000
namespace Sm
open PySem PySem.Spec PyProof.Rows L2
open Ev (D O Hh Fr R aM E Es Eo T S Ss Fl Src bO bJ TY BI ME)
section
variable{G:Tb}{n:Nat}{sc scope:Scope}{N N':List Str}{df:Bool}{m m':List Nat}{elt:E}{t:T}{it:Ev.It}{cond:Eo}{xe xi tg:Expr}{ifs:List Expr}{pos:Pos}{X:Cx}
noncomputable def yK(P:aM)(elt:E)(t:T)(cond:Eo)(fr:Fr):D->Hh->R (Option D):=λd h2=>match Ev.br t d fr with
 |none=>.bad
 |some ao=>(Ev.gZ P cond ao h2).bind λk h3=>if k then (Ev.ev P elt ao h3).bind λx h4=>.ok (some x) h4 else .ok none h3
theorem qB(P:aM)(elt:E)(t:T)(it:Ev.It)(cond:Eo)(fr:Fr)(h:Hh):Ev.ev P (.comp elt t it cond) fr h=(Ev.cz P it fr h).bind λs h1=>if Ev.undef t fr then
  (Ev.cJ (yK P elt t cond fr) s.2 s.1 h1).bind λds h2=>Ev.alloc ds h2 else .bad:=by
 simp only[Ev.ev];rfl
noncomputable def CI(Y:Cx)(m':List Nat)(f:D->Hh->R (Option D))(fr:Fr)(src:Src)(fp:List Addr)(tn:Nat->Heap->Prop)(r2:List Addr)(H2:Hp)(Dd:Addr)(ds:List D)(h2:Hh)(k:Nat)(s:Shared):Prop:=
 ∃i nX Hc rc hc dn vs rest,Inv Y [] nX Hc s/\tn i s.heap/\(∀b∈fp,Hc b=none)/\k=src.1.length - i/\i<=src.1.length/\
  SR Y.K m' Hc rc fr nX/\HR Y.K Hc rc hc/\Fm Y.K r2 rc H2 Hc/\Hc Dd=some (.lst vs)/\Dd∉rc/\aD Y.K Hc rc dn vs/\Ev.cJ f src.2 (src.1.drop i) hc=.ok rest h2/\dn++rest=ds
section
variable{Y:Cx}{sc':Scope}{J:L2.It}{fp:List Addr}{ita:Addr}{tn:Nat->Heap->Prop}{fr:Fr}{src:Src}{r2:List Addr}{H2:Hp}{Dd:Addr}{ds:List D}{h2:Hh}
theorem yL(gC:Good G n sc' N' false Y){α:Type}{tt:Sem α}{Q:α->Shared->Prop}{s:Shared}(hw:wpAny (model Y.prog Y.w) Y.A tt Q Y.xe s):wpAny (model Y.prog Y.w) Y.A tt Q gf s:=by rw[gC.xe]at hw;exact hw
theorem xj{i:Nat}{lU:L2.St}{H9:Hp}{r9:List Addr}{h9:Hh}{dn:List D}{vs:List V}{rest':List D}{s9:Shared}{p:List (Addr×Obj)}{f:D->Hh->R (Option D)}(hlt:i<src.1.length)(I9:Inv Y ([]++p) lU H9 s9)(bk:tn (i+1) s9.heap/\∀b∈fp,H9 b=none)(q:SR Y.K m' H9 r9 fr lU)(rO:HR Y.K H9 r9 h9)(fm:Fm Y.K r2 r9 H2 H9)(yN:H9 Dd=some (.lst vs))(yO:Dd∉r9)(rv:aD Y.K H9 r9 dn vs)(e7:Ev.cJ f src.2 (src.1.drop (i+1)) h9=.ok rest' h2)(ed:dn++rest'=ds) :
  ∃k,k<src.1.length - i/\CI Y m' f fr src fp tn r2 H2 Dd ds h2 k s9:=
 ⟨src.1.length - (i+1),Nat.sub_lt_sub_left hlt (Nat.lt_succ_self i),i+1,lU,H9,r9,h9,dn,vs,rest',I9.kT,bk.1,bk.2,rfl,hlt,q,rO,fm,yN,yO,rv,e7,ed⟩
theorem Ko{i:Nat}{lU:L2.St}{H9:Hp}{r9:List Addr}{h9:Hh}{dn:List D}{vs:List V}{xd:D}{v10:V}{ES:Value}{rest':List D}{s9:Shared}{p:List (Addr×Obj)}{f:D->Hh->R (Option D)}(hlt:i<src.1.length)(lV:H2 Dd=none)(hsz:ds.length<=sizeLine)(gC:Good G n sc' N' false Y)(I9:Inv Y ([]++p) lU H9 s9)(C9:RelV v10 ES)(bk:∀{σ':L2.St}{H':Hp}{s':Shared},Inv Y ([]++p) σ' H' s'->tn (i+1) s'.heap/\∀b∈fp,H' b=none)(q:SR Y.K m' H9 r9 fr lU)(rO:HR Y.K H9 r9 h9)(fm:Fm Y.K r2 r9 H2 H9)(nY:H9 Dd=some (.lst vs))(ur:Dd∉r9)(rv:aD Y.K H9 r9 dn vs)(Dc:RV Y.K H9 r9 xd v10)(e7:Ev.cJ f src.2 (src.1.drop (i+1)) h9=.ok rest' h2)(ed:dn++xd :: rest'=ds) :
  wpAny (model Y.prog Y.w) Y.A (call (.builtin "list.append") [.ref Dd,ES]) (λ_ ET=>∃k,k<src.1.length - i/\CI Y m' f fr src fp tn r2 H2 Dd ds h2 k ET) gf s9:=by
 have hlen:vs.length<sizeLine:=by
  have h1:=rv.length;have h2:=congrArg List.length ed;simp at h2;omega
 refine bB (yL gC (rB _ s9 lU H9 (.ref Dd) [v10] (.ref Dd) [ES] (λ_ Qd=>Qd=upd H9 Dd (.lst (vs++[v10]))) I9 rfl (.cons C9 .nil) ⟨Dd,vs,v10,rfl,rfl,nY,hlen,rfl⟩)) λ_ ET ⟨_,Qd,Qe,_,Su⟩=>?_;subst Su;refine xj (dn:=dn++[xd]) (vs:=vs++[v10]) hlt Qe (bk Qe) ?_ (rO.other nY ur) (fm.other lV nY) fh ur ?_ e7 ?_
 .exact⟨q.len,λj i' d' a1 a2=>by
   obtain⟨w,b1,b2⟩:=q.sl j i' d' a1 a2;exact⟨w,b1,b2.grow (λ_ _ z=>z) (g7 nY)⟩⟩
 .exact(rv.append (.cons Dc .nil)).grow (λ_ _ z=>z) (g7 nY)
 .rw[<-ed];simp
theorem AW(gC:Good G n sc' N' false Y)(hg:JG G n sc' N' false m' t tg)(hc:JC G n sc' N' false m' cond ifs)(he:JE G n sc' N' false m' elt xe)(Tn:Turn Y.prog Y.w Y.K tg J fp ita tn)(kU:∀{Hc:Hp},(∀b∈fp,Hc b=none)->∀b∈fp,gW Y [] Hc b)
  (hu:Ev.undef t fr=true) (hJ:qy Y.K r2 H2 src J) (lV:H2 Dd=none) (hsz:ds.length<=sizeLine) {R':Result->Shared->Prop}
  (Sv:∀s6 nX Hc rc vs,Inv Y [] nX Hc s6->HR Y.K Hc rc h2->Fm Y.K r2 rc H2 Hc->Hc Dd=some (.lst vs)->Dd∉rc->aD Y.K Hc rc ds vs->R' (.ok .next) s6) {k:Nat} {s:Shared}
  (h:CI Y m' (yK (Ev.run G.F G.w n) elt t cond fr) fr src fp tn r2 H2 Dd ds h2 k s):codeAny (model Y.prog Y.w) Y.A (.compLoop (.ListComp xe [⟨tg,xi,ifs,0⟩] scope pos) 0 (.ref ita) (.ref Dd) Y.env) R' s:=by
 refine uo (CI Y m' (yK (Ev.run G.F G.w n) elt t cond fr) fr src fp tn r2 H2 Dd ds h2) ?_ k h;rintro k s5 ⟨i,nX,Hc,rc,hc',dn,vs,rest,I5,wI,mq,rfl,hle,AS,rJ,uu,nY,ur,AX,e5,EU⟩;rcases Nat.lt_or_ge i src.1.length with hlt|hge
 .rw[List.drop_eq_getElem_cons hlt]at e5;simp only[Ev.cJ]at e5;split at e5
  .rename_i hst;obtain⟨hgo,_⟩:=hJ i Hc rc hc' rJ uu hst;obtain⟨g1,g2⟩:=hgo src.1[i] (List.getElem?_eq_getElem hlt);obtain⟨o,h6,e6,e5⟩:=Ev.ah e5;obtain⟨rest',h7,e7,e5⟩:=Ev.ah e5;cases e5;refine bB (Tn.item Y rfl rfl rfl gC.calm i [] s5 nX Hc gf I5 (kU mq) wI g1) λrr s6 ⟨u,Uw,h8⟩=>?_;subst Uw;refine bB h8 λ_ s7 ⟨x,H7,I7,rx,y7,Kp,Qf⟩=>?_;obtain⟨r7,v7,Qg,xm⟩:=g2 x H7 y7;obtain⟨Sw,Sx⟩:=xm.yH nY ur;unfold yK at e6;split at e6
   .cases e6
   .rename_i ao eb;obtain⟨kk,h9,e9,e6⟩:=Ev.ah e6;have Ux:=I7.pinned (kU Qf) (Tn.obj _ _ Kp);refine bB (yL gC (hg _ gC _ s7 nX H7 x u (λlU H8=>H8=H7/\SR Y.K m' H7 r7 ao lU) Ux rx ⟨r7,fr,hc',_,ao,AS.mono xm,Qg,v7,eb,λs' q=>⟨rfl,q⟩⟩)) λ_ s8 ⟨lU,H8,I8,Uy,EV⟩=>?_;subst Uy;refine bB (yL gC (hc _ gC _ s8 lU _ (λb H9=>b=kk/\∃r9,HR Y.K H9 r9 h9/\Fm Y.K r7 r9 _ H9) I8 ⟨r7,ao,hc',kk,h9,EV,Qg,e9,λH9 r9 rO f9=>⟨rfl,r9,rO,f9⟩⟩)) λbb s9 ⟨H9,I9,Jw,r9,rO,rP⟩=>?_;subst Jw;obtain⟨yO,yN⟩:=rP.yH Sx Sw;have back:∀{σ':L2.St} {H':Hp} {s':Shared},Inv Y ([]++mj fp s7.heap) σ' H' s'->tn (i+1) s'.heap/\∀b∈fp,H' b=none:=λ{σ' H' s'} I'=>
     ⟨Tn.keep _ _ _ Kp λb hb o e=>(I'.pin (b,o) (List.mem_append_right _ (List.mem_append_right _ (jh hb e)))).1,λb hb=>
      let ⟨o,e,_⟩:=Tn.obj _ _ Kp b hb
      (I'.pin (b,o) (List.mem_append_right _ (List.mem_append_right _ (jh hb e)))).2.1⟩
    cases bb with
    |false=>
     simp only[Bool.false_eq_true,if_false]at e6 ⊢;cases e6;exact xj hlt I9 (back I9) ((EV.mono rP).unbind eb hu) rO ((uu.trans xm).trans rP) yN yO ((AX.mono xm).mono rP) e7 EU
    |true=>
     simp only[if_true]at e6 ⊢;obtain⟨xd,VN,Uz,e6⟩:=Ev.ah e6;cases e6;refine bB (yL gC (he _ gC _ s9 lU H9 (λv AY=>∃xo,RV Y.K AY xo xd v/\HR Y.K AY xo _/\Fm Y.K r9 xo H9 AY) I9 ⟨r9,ao,h9,xd,_,EV.mono rP,rO,Uz,λv AY xo v10 De EW=>⟨xo,v10,De,EW⟩⟩)) λES Qh ⟨v10,AY,UA,C9,xo,Dc,De,yP⟩=>?_;obtain⟨N3,N4⟩:=yP.yH yN yO;exact Ko hlt lV hsz gC UA C9 back (((EV.mono rP).mono yP).unbind eb hu) De (((uu.trans xm).trans rP).trans yP) N4 N3 (((AX.mono xm).mono rP).mono yP) Dc e7 EU
  .cases e5
 .have hi':i=src.1.length:=Nat.le_antisymm hle hge;subst hi';rw[List.drop_length]at e5;simp only[Ev.cJ]at e5;split at e5
  .rename_i hst;cases e5;refine bB (Tn.done Y rfl rfl rfl gC.calm _ [] s5 nX Hc gf I5 (kU mq) wI ((hJ _ Hc rc _ rJ uu hst).2 (Nat.le_refl _))) λrr s6 ⟨hrr,I6⟩=>?_;subst hrr;rw[List.append_nil]at EU;subst EU;exact Sv s6 nX Hc rc vs I6 rJ uu nY ur AX
  .cases e5
end
theorem AZ(g:Good G n sc N df X)(hi:JI G n sc N df m it tg xi)(hg:JG G n (g9 sc scope) N' false m' t tg)(hc:JC G n (g9 sc scope) N' false m' cond ifs)(he:JE G n (g9 sc scope) N' false m' elt xe)
  (hn:namesOk sc N m scope t N' m') (hs:mG sc scope) {cl:List (Str×Addr)} (jb:∀x c,cl.lookup x=some c->X.env.cells.lookup x=some c) (mH:∀x,(x,NameKind.free)∈scope.names->∃c,cl.lookup x=some c)
  {pins:List (Addr×Obj)} {σ:L2.St} {H:Hp} {s:Shared} (I:Inv X pins σ H s) {r:List Addr} {fr:Fr} {h:Hh} {d:D} {h':Hh} (sr:SR X.K m H r fr σ) (hr:HR X.K H r h)
  (e:Ev.ev (Ev.run G.F G.w n) (.comp elt t it cond) fr h=.ok d h') (post:Value->Addr->Result->Shared->Prop)
  (hpost:∀Dd C s' H' r',Inv X pins σ H' s'->(∃mm,s'.heap.Ns C mm)->gW X pins H' C->RV X.K H' r' d (.ref Dd)->HR X.K H' r' h'->Fm X.K r r' H H'->post (.ref Dd) C (.ok .next) s') {E:Value->Shared->Prop} (hE:X.xe=λ_ _=>False) :
  wpAny (model X.prog X.w) X.A (eval xi X.env) (λx s₁=>wpAny (model X.prog X.w) X.A (pyIter x) (λitv s₂=>wpAny (model X.prog X.w) X.A (newList []) (λacc s₃=>
   wpAny (model X.prog X.w) X.A (newFunctionEnv scope X.env.globals cl [] X.env.qual none .none (some X.env)) (λcenv s₄=>
    codeAny (model X.prog X.w) X.A (.compStart (.ListComp xe [⟨tg,xi,ifs,0⟩] scope pos) 0 itv acc { cenv with scope:=relabel scope X.env }) (post acc cenv.locals) s₄) E s₃) E s₂) E s₁) E s:=by
 rw[qB]at e;obtain⟨src,h1,e1,e⟩:=Ev.ah e;split at e
 .rename_i hu;obtain⟨ds,h2,e2,e⟩:=Ev.ah e;have qX:∀{α:Type} {tt:Sem α} {Q:α->Shared->Prop} {s:Shared},wpAny (model X.prog X.w) X.A tt Q X.xe s->wpAny (model X.prog X.w) X.A tt Q E s:=λ{α tt Q s} hw=>wpAny_mono hw (λ_ _ q=>q) λ_ _ q=>by rw[hE]at q;exact q.elim
  refine bB (qX (hi X g pins s σ H (λJ H2=>∃r2,HR X.K H2 r2 h1/\Fm X.K r r2 H H2/\qy X.K r2 H2 src J) I ⟨r,fr,h,src,h1,sr,hr,e1,λJ H2 r2 hr2 f2 hJ=>⟨r2,hr2,f2,hJ⟩⟩)) λv s1 q1=>?_;refine bB (qX q1) λitv s2 q2=>?_;obtain⟨ita,fp,tn,J,H2,rfl,I2,Tn,st2,f2,r2,hr2,EX,hJ⟩:=q2;refine wpAny_newObj_type ?_;generalize EY:s2.heap.objs.size=Dd
  have lV:H2 Dd=none:=by rw[<-EY];exact I2.fresh
  have I3:Inv X pins σ (upd H2 Dd (.lst [])) { s2 with heap:=s2.heap.push { cls:=.type "list",data:=.seq ([]:List Value).toArray }}:=by
   have:=I2.CL (ys:=[]) (its:=[]) (t':=s2.toks) .nil (Nat.zero_le _);rw[EY]at this;exact this
  have Kq:∀b∈fp,b<s2.heap.objs.size:=λb hb=>by
   obtain⟨o,e,_⟩:=Tn.obj 0 _ st2 b hb;exact Heap.lt_size e
  generalize Kr:({ s2 with heap:=s2.heap.push { cls:=.type "list",data:=.seq ([]:List Value).toArray }}:Shared)=s3 at I3
  have Sy:s3.heap.objs.size=s2.heap.objs.size+1:=by rw[<-Kr];exact Heap.size_push ..
  have k3:∀b o,s2.heap.get? b=some o->s3.heap.get? b=some o:=λb o e=>by rw[<-Kr];exact Heap.get?_push_of_some _ e
  have Ks:∀b∈fp,b<s3.heap.objs.size:=λb hb=>Nat.lt_of_lt_of_le (Kq b hb) (by rw[Sy];exact Nat.le_succ _);have qC:∀b∈fp,gW X pins (upd H2 Dd (.lst [])) b:=λb hb=>⟨by rw[aS (λz=>absurd (Kq b hb) (by rw[z,EY];exact Nat.lt_irrefl _))];exact(f2 b hb).1,(f2 b hb).2⟩
  refine wpAny_newFunctionEnv (hs.AV) (λy hy=>by simp at hy) (λKu Sz SA=>?_) hs.kind;have k4:∀b o,s3.heap.get? b=some o->Ku.get? b=some o:=λb o e=>SA.extBut b o (Nat.ne_of_lt (Heap.lt_size e)) (Heap.get?_push_of_some _ e);have gC:Good G n (g9 sc scope) N' false (pC X N' scope cl s3.heap.objs.size s3 (upd H2 Dd (.lst [])) fp):=g.comp;have I4:Inv (pC X N' scope cl s3.heap.objs.size s3 (upd H2 Dd (.lst [])) fp) [] (sig scope N N' m' X.K (upd H2 Dd (.lst [])) r2 fr σ) (upd H2 Dd (.lst [])) { s3 with heap:=Ku,toks:=s3.toks+0 }:=
   C8 g I3 hs jb mH qC Ks Sz k4
  have wX:SR X.K m' (upd H2 Dd (.lst [])) r2 fr (sig scope N N' m' X.K (upd H2 Dd (.lst [])) r2 fr σ):=Kn (((sr.mono EX).mono (Fm.tup lV))) hn hu;have jf:HR X.K (upd H2 Dd (.lst [])) r2 h1:=hr2.tup lV;have Qi:Dd∉r2:=λhm=>by
   obtain⟨k,hk⟩:=List.getElem?_of_mem hm;have hlt:k<h1.length:=by rw[<-hr2.len];exact(List.getElem?_eq_some_iff.mp hk).1
   obtain⟨a,e3,e4⟩:=hr2.ob k _ (List.getElem?_eq_getElem hlt);rw[hk]at e3;cases e3;cases eo:h1[k]with
   |lst dd=>rw[eo]at e4;obtain⟨us,e5,_⟩:=e4;rw[lV]at e5;cases e5
   |bL dd=>
    rw[eo]at e4;obtain⟨us,e5,_⟩:=e4;rcases e5 with ⟨ob,e5⟩|⟨ob,_,_,e5,_⟩
    .rw[lV]at e5;cases e5
    .have:=Heap.lt_size (I2.qW _ _ e5);rw[EY]at this;exact absurd this (Nat.lt_irrefl _)
   |dct kvs=>rw[eo]at e4;have e5:=e4.1;rw[lV]at e5;cases e5
  have UB:H Dd=none:=by
   cases z:H Dd with
   |none=>rfl
   |some o=>
    have hnr:Dd∉r:=λhm=>by
     obtain⟨k,hk⟩:=List.getElem?_of_mem hm;exact Qi (List.mem_of_getElem? (EX.pre _ _ hk))
    have:=EX.keep _ _ z hnr;rw[lV]at this;cases this
  have kU:∀{Hc:Hp},(∀b∈fp,Hc b=none)->∀b∈fp,gW (pC X N' scope cl s3.heap.objs.size s3 (upd H2 Dd (.lst [])) fp) [] Hc b:=λ{Hc} hz b hb=>by
   refine⟨hz b hb,Nat.ne_of_lt (Ks b hb),(I4.ok).qm b hb,.inl hb,λx c e=>((I4.ok).EC b hb).2 x c e,λp hp=>?_⟩;simp[pC]at hp
  have hsz:ds.length<=sizeLine:=by
   unfold Ev.alloc at e;split at e
   .rename_i z;rw[<-iS];exact z
   .cases e
  have fin:codeAny (model X.prog X.w) X.A (.compLoop (.ListComp xe [⟨tg,xi,ifs,0⟩] scope pos) 0 (.ref ita) (.ref Dd) (compEnvC scope cl s3.heap.objs.size X.env)) (post (.ref Dd) s3.heap.objs.size) { s3 with heap:=Ku,toks:=s3.toks+0 }:=by
   refine AW gC hg hc he Tn kU hu hJ lV hsz (λs6 nX Hc rc vs I6 rJ uu nY ur AX=>?_) ⟨0,_,_,r2,h1,[],[],ds,I4,Tn.keep _ _ _ st2 λb hb o eo=>k4 b o (k3 b o eo),λb hb=>(qC b hb).1,rfl,Nat.zero_le _,wX,jf,Fm.tup lV,fh,Qi,.nil,by rw[List.drop_zero];exact e2,rfl⟩;unfold Ev.alloc at e;split at e
   .cases e;obtain⟨UC,SD,_⟩:=I6.loc;refine hpost Dd _ s6 Hc (rc++[Dd]) ?_ ⟨UC,SD⟩ ?_ ⟨Dd,rfl,?_⟩ (rJ.known nY ur AX) ((EX.trans uu).known ?_)
    .exact I3.Nn (ch:=fp) (I6.os) I6.base I6.hok I6.bare λb hb=>⟨(qC b hb).2.2.2.1,(qC b hb).2.1,(qC b hb).2.2.2.2.1,(qC b hb).2.2.2.2.2⟩
    .exact I3.Cz (Nat.le_refl _) I6.free
    .rw[<-rJ.len];simp
    .exact UB
   .cases e
  subst Kr;exact codeAny_compStart_list fin (Tn.self _ 0 _ _ _ (Tn.keep _ _ _ st2 λb hb o eo=>k4 b o (k3 b o eo)) fin)
 .cases e
end
end Sm
set_option maxRecDepth 100000
namespace Sm
open PySem PySem.Spec PyProof.Rows L2
open Ev (D O Hh Fr R aM E Es Eo T S Ss Fl Src bO bJ TY BI ME)
section
variable{G:Tb}{n:Nat}{sc scope:Scope}{N N':List Str}{df:Bool}{m m':List Nat}{elt:E}{t:T}{it:Ev.It}{cond:Eo}{xe xi tg:Expr}{ifs:List Expr}{pos:Pos}
theorem Good.cells{X:Cx}{pins:List (Addr×Obj)}{σ:L2.St}{H:Hp}{s:Shared}(g:Good G n sc N df X)(I:Inv X pins σ H s)(hs:mG sc scope) :
  ∃cl,closureFor scope X.env=pure cl/\(∀x c,cl.lookup x=some c->X.env.cells.lookup x=some c)/\∀x,(x,NameKind.free)∈scope.names->∃c,cl.lookup x=some c:=
 GR λx hx=>I.ok.has x (by unfold Env.kindOf;rw[g.sc];exact(hs.free x hx).1)
theorem Kv{X:Cx}{pins:List (Addr×Obj)}{σ:L2.St}{H:Hp}{s:Shared}(I:Inv X pins σ H s){C:Addr}(fp:gW X pins H C){h':Heap}(hs:Heap.SameBut C s.heap h'):Inv X pins σ H { s with heap:=h' }:=
 I.turned (t':=s.toks) (λb o hb e=>hs.extBut b o hb e) fp.1 fp.2.1 fp.2.2.2.1 fp.2.2.2.2.1 fp.2.2.2.2.2
theorem GU(hi:JI G n sc N df m it tg xi)(hg:JG G n (g9 sc scope) N' false m' t tg)(hc:JC G n (g9 sc scope) N' false m' cond ifs)(he:JE G n (g9 sc scope) N' false m' elt xe)
  (hn:namesOk sc N m scope t N' m') (hs:mG sc scope) (hf:∀(env:Env) x,foldedSetIterable xi env x=pure x:=by intro _ _;rfl):JE G n sc N df m (.comp elt t it cond) (.ListComp xe [⟨tg,xi,ifs,0⟩] scope pos):=λX g pins s σ H Q I q=>by
 obtain⟨r,fr,h,d,h',sr,hr,e,q⟩:=q;obtain⟨cl,hcl,jb,mH⟩:=g.cells I hs;rw[eval_ListComp];refine wpAny_comprehension_free (use:=none) (Q:=EP X pins σ Q) rfl (hf _) hcl hs.kind hs.loc ?_;refine AZ g hi hg hc he hn hs jb mH I sr hr e (λacc C=>compPost (model X.prog X.w) X.A X.xe none (EP X pins σ Q) acc C) (λDd C s' H' r' I' hC fp rv hr' UD=>?_) g.xe;obtain⟨mm,hC⟩:=hC;exact⟨mm,hC,λh'' UE=>⟨.ref Dd,H',Kv I' fp UE,rfl,q _ H' r' rv hr' UD⟩⟩
end
end Sm
set_option maxRecDepth 100000
namespace Sm
open PySem PySem.Spec PyProof.Rows L2 PySem.SeqAt
open Ev (D O Hh Fr R aM E Es Eo T S Ss Fl Src bO bJ TY BI ME)
structure uv(A:Around)(s:Shared)(u w:Value)(k:Bool):Prop where
 eq:EqAt A s u w k
 rc:RcAt A s u w k
 ne:RcNeAt A s u w (!k)
theorem qD{f:D->D->Option Bool}:∀{x y:List D},x.length≠y.length->∀{k},Ev.cS f x y=some k->k=false
 |[],[],h,_,_=>absurd rfl h
 |[],_ :: _,_,_,e=>by cases e;rfl
 |_ :: _,[],_,_,e=>by cases e;rfl
 |a :: x,b :: y,h,k,e=>by
  simp only[Ev.cS,Option.bind_eq_bind,Option.bind_eq_some_iff]at e;obtain⟨p,_,q,e2,e3⟩:=e;have:=qD (x:=x) (y:=y) (by simpa using h) e2;subst this;cases e3;simp
theorem xq{f:D->D->Option Bool}:∀{x y:List D}{k},Ev.cS f x y=some k->x.length=y.length->∃e:Nat->Bool,(∀(j:Nat) a b,x[j]?=some a->y[j]?=some b->f a b=some (e j))/\(List.range x.length).all e=k
 |[],[],_,h,_=>⟨λ_=>true,(λj a b h1=>by simp at h1),by cases h;simp⟩
 |[],_ :: _,_,_,h=>by simp at h
 |_ :: _,[],_,_,h=>by simp at h
 |a :: x,b :: y,k,h,hl=>by
  simp only[Ev.cS,Option.bind_eq_bind,Option.bind_eq_some_iff]at h;obtain⟨p,e1,q,e2,e3⟩:=h;cases e3;obtain⟨e,h1,h2⟩:=xq e2 (by simpa using hl);refine⟨λj=>match j with|0=>p|j+1=>e j,λj a' b' g1 g2=>?_,?_⟩
  .cases j with
   |zero=>simp at g1 g2;subst g1 g2;exact e1
   |succ j=>exact h1 j a' b' (by simpa using g1) (by simpa using g2)
  .rw[List.length_cons,List.range_succ_eq_map,List.all_cons,List.all_map,<-h2];rfl
theorem xr{f:D->D->Option Bool}:∀{x y:List D}{k},Ev.cS f x y=some k->∃e:Nat->Bool,∀(j:Nat) a b,x[j]?=some a->y[j]?=some b->f a b=some (e j)
 |[],_,_,_=>⟨λ_=>true,λj a b h1=>by simp at h1⟩
 |_ :: _,[],_,_=>⟨λ_=>true,λj a b _ h1=>by simp at h1⟩
 |a :: x,b :: y,k,h=>by
  simp only[Ev.cS,Option.bind_eq_bind,Option.bind_eq_some_iff]at h;obtain⟨p,e1,q,e2,e3⟩:=h;obtain⟨e,h1⟩:=xr e2;refine⟨λj=>match j with|0=>p|j+1=>e j,λj a' b' g1 g2=>?_⟩;cases j with
  |zero=>simp at g1 g2;subst g1 g2;exact e1
  |succ j=>exact h1 j a' b' (by simpa using g1) (by simpa using g2)
section
variable{X:Cx}{pins:List (Addr×Obj)}{σ:L2.St}{H:Hp}{s:Shared}{r:List Addr}{h:Hh}
theorem nq(I:Inv X pins σ H s){a b:Addr}{vs ws:List V}(h1:yG X.K H a vs)(h2:H b=some (.lst ws)):a≠b:=by
 rintro rfl;rcases h1 with ⟨o,h1⟩|⟨o,_,_,h1,_⟩
 .rw[h2]at h1;cases h1
 .have:=(I.bs a o (I.ok.mod.EB a o h1)).2;rw[h2]at this;cases this
theorem rQ{x y:List D}{vs ws:List V}{us zs:List Value}{f:D->D->Option Bool}{A:Around}{k:Bool}(v1:aD X.K H r x vs)(v2:aD X.K H r y ws)(p1:Vals vs us)(p2:Vals ws zs)
  (ih:∀a b va vb u w k,RV X.K H r a va->RV X.K H r b vb->RelV va u->RelV vb w->f a b=some k->uv A s u w k) (hl:x.length=y.length) (e:Ev.cS f x y=some k) :
  ∃e':Nat->Bool,(∀j (h1:j<us.toArray.size) (h2:j<zs.toArray.size),EqAt A s us.toArray[j] zs.toArray[j] (e' j))/\(List.range us.toArray.size).all e'=k/\us.length=zs.length:=by
 obtain⟨e',h1,h2⟩:=xq e hl;have l1:=v1.length;have l2:=v2.length;have l3:=p1.length;have l4:=p2.length;refine⟨e',λj g1 g2=>?_,?_,by omega⟩
 .have UG:j<us.length:=by simpa using g1
  have UH:j<zs.length:=by simpa using g2
  have ha:x[j]?=some x[j]:=List.getElem?_eq_getElem (by omega);have hb:y[j]?=some y[j]:=List.getElem?_eq_getElem (by omega);obtain⟨va,a1,a2⟩:=v1.get ha;obtain⟨vb,b1,b2⟩:=v2.get hb;obtain⟨u,a3,a4⟩:=p1.get a1;obtain⟨w,b3,b4⟩:=p2.get b1;have eu:us.toArray[j]=u:=by
   have:=(List.getElem?_eq_some_iff.mp a3).2;simpa using this
  have ew:zs.toArray[j]=w:=by
   have:=(List.getElem?_eq_some_iff.mp b3).2;simpa using this
  rw[eu,ew];exact(ih _ _ _ _ _ _ _ a2 b2 a4 b4 (h1 j _ _ ha hb)).eq
 .rw[<-h2];have:us.toArray.size=x.length:=by simp;omega
  rw[this]
noncomputable def bY(K:PySem.W.Frag)(H:Hp)(r:List Addr):D->V->Prop
 |.aG,v=>v=.aG
 |.bl b,v=>v=.bl b
 |.int i,v=>v=.int i
 |.str l,v=>v=.str (aT l)
 |.ref n,v=>∃a,v=.ref a/\r[n]?=some a
 |.tup ds,v=>∃a vs,v=.ref a/\dm K H a vs/\aD K H r ds vs
theorem RV.shape{d:D}{v:V}(h:RV X.K H r d v):bY X.K H r d v:=by
 cases d<;>simp only[RV]at h<;>simp only[bY]<;>first|exact h|exact h.1
theorem GV{a b:List Nat}:(aT a==aT b)=(a==b):=by
 by_cases e:a=b
 .subst e;simp
 .have e1:(aT a==aT b)=false:=beq_eq_false_iff_ne.mpr λz=>e (qx z);have e2:(a==b)=false:=beq_eq_false_iff_ne.mpr e;rw[e1,e2]
theorem oN{n:Nat}{A:Around}{x y:List D}{a b:Addr}{vs ws:List V}{k:Bool}(I:Inv X pins σ H s)(hu:A.units<cLine)(q1:eY X.K H a vs)(q2:eY X.K H b ws)(v1:aD X.K H r x vs)(v2:aD X.K H r y ws)(hab:a≠b)
  (ih:∀a b va vb u w k,RV X.K H r a va->RV X.K H r b vb->RelV va u->RelV vb w->Ev.gg h n a b=some k->uv A.in1 s u w k) (e:Ev.cS (Ev.gg h n) x y=some k):uv A s (.ref a) (.ref b) k:=by
 obtain⟨us,p1,nZ,_⟩:=I.list q1;obtain⟨zs,p2,oh,_⟩:=I.list q2;by_cases hl:x.length=y.length
 .obtain⟨e',h1,h2,h3⟩:=rQ v1 v2 p1 p2 ih hl e;have hs:us.toArray.size=zs.toArray.size:=by simpa using h3
  have rc:=RcAt.lists nZ.isList oh.isList hs hu h1;have ne:=RcNeAt.lists nZ.isList oh.isList hs hu h1;rw[h2]at rc ne;exact⟨.of_refs hab rc,rc,ne⟩
 .have hk:=qD hl e;subst hk;have hs:(us.toArray.size != zs.toArray.size)=true:=by
   have l1:=v1.length;have l2:=v2.length;have l3:=p1.length;have l4:=p2.length;simp only[List.size_toArray,bne_iff_ne,ne_eq];omega
  exact⟨.of_refs hab (.lists_lengths nZ.isList oh.isList hs hu),.lists_lengths nZ.isList oh.isList hs hu,.lists_lengths nZ.isList oh.isList hs hu⟩
theorem A6(I:Inv X pins σ H s)(hr:HR X.K H r h){n:Nat}{a:Addr}{ds:List D}(e:Ev.bf h n=some ds)(ha:r[n]?=some a):∃us:List Value,PlainL s.heap a us.toArray:=by
 obtain⟨a',vs,e1,e2,e3⟩:=hr.read e;rw[ha]at e1;cases e1;obtain⟨us,_,pl,_⟩:=I.list e2;exact⟨us,pl⟩
theorem A7(I:Inv X pins σ H s)(hr:HR X.K H r h):∀(n:Nat) (a b:D) (v:V) (k:Bool),RV X.K H r a v->RV X.K H r b v->Ev.gg h n a b=some k->k=true:=by
 intro n;induction n with
 |zero=>intro a b v k _ _ e;cases e
 |succ n ih=>
  have items:∀(x y:List D) (vs:List V) (k:Bool),aD X.K H r x vs->aD X.K H r y vs->Ev.cS (Ev.gg h n) x y=some k->k=true:=by
   intro x;induction x with
   |nil=>
    intro y vs k h1 h2 e;simp only[aD]at h1;subst h1;cases y with
    |nil=>cases e;rfl
    |cons _ _=>simp only[aD]at h2;obtain⟨_,_,h2,_⟩:=h2;cases h2
   |cons d x UI=>
    intro y vs k h1 h2 e;simp only[aD]at h1;obtain⟨v,w,rfl,h3,h4⟩:=h1;cases y with
    |nil=>simp only[aD]at h2;cases h2
    |cons d' y=>
     simp only[aD]at h2;obtain⟨v',w',e2,h5,h6⟩:=h2;cases e2;simp only[Ev.cS,Option.bind_eq_bind,Option.bind_eq_some_iff]at e;obtain⟨p,e1,q,e2,e3⟩:=e;cases e3;rw[ih d d' v p h3 h5 e1,UI y w q h4 h6 e2];rfl
  have lt:∀(a:Addr) (vs:List V) (i:Nat) (ds:List D),dm X.K H a vs->r[i]?=some a->Ev.bf h i=some ds->False:=λa vs i ds h1 h2 h3=>by
   obtain⟨us,pl⟩:=A6 I hr h3 h2;obtain⟨zs,_,pt,_⟩:=I.tuple h1;exact ne_of_list_tuple pl.isList pt rfl
  intro a b v k h1 h2 e;have s1:=h1.shape;have s2:=h2.shape;clear h1 h2;cases a with
  |aG=>simp only[bY]at s1;cases b with
   |aG=>cases e;rfl
   |ref m=>obtain⟨p,z,_⟩:=s2;rw[s1]at z;cases z
   |tup y=>obtain⟨p,_,z,_⟩:=s2;rw[s1]at z;cases z
   |_=>simp only[bY]at s2;rw[s1]at s2;cases s2
  |bl x=>simp only[bY]at s1;cases b with
   |bl y=>simp only[bY]at s2;rw[s1]at s2;cases s2;cases e;simp
   |ref m=>obtain⟨p,z,_⟩:=s2;rw[s1]at z;cases z
   |tup y=>obtain⟨p,_,z,_⟩:=s2;rw[s1]at z;cases z
   |_=>simp only[bY]at s2;rw[s1]at s2;cases s2
  |int x=>simp only[bY]at s1;cases b with
   |int y=>simp only[bY]at s2;rw[s1]at s2;cases s2;cases e;simp
   |ref m=>obtain⟨p,z,_⟩:=s2;rw[s1]at z;cases z
   |tup y=>obtain⟨p,_,z,_⟩:=s2;rw[s1]at z;cases z
   |_=>simp only[bY]at s2;rw[s1]at s2;cases s2
  |str x=>simp only[bY]at s1;cases b with
   |str y=>
    simp only[bY]at s2;rw[s1]at s2;have:x=y:=qx (by injection s2);subst this;cases e;simp
   |ref m=>obtain⟨p,z,_⟩:=s2;rw[s1]at z;cases z
   |tup y=>obtain⟨p,_,z,_⟩:=s2;rw[s1]at z;cases z
   |_=>simp only[bY]at s2;rw[s1]at s2;cases s2
  |tup x=>
   obtain⟨p,vs,rfl,z,w⟩:=s1;cases b with
   |tup y=>
    obtain⟨p',vs',z',z2,w2⟩:=s2;cases z';rw[I.mh z2 z]at w2;exact items x y vs k w w2 e
   |ref m=>
    obtain⟨p',z',z2⟩:=s2;cases z';obtain⟨ds,e1,_⟩:=Option.map_eq_some_iff.mp e;exact(lt _ _ _ _ z z2 e1).elim
   |_=>cases s2
  |ref i=>
   obtain⟨p,rfl,z⟩:=s1;cases b with
   |ref m=>
    obtain⟨p',z',z2⟩:=s2;cases z';replace e:Ev.jB h (Ev.gg h n) i m=some k:=e;unfold Ev.jB at e;split at e
    .simp only[Option.map_eq_some_iff]at e;obtain⟨_,_,e⟩:=e;exact e.symm
    .rename_i hne;split at e
     .rename_i x y g1 g2;exact absurd (hr.inj _ _ _ _ _ z z2 g1 g2) hne
     .rename_i x y g1 g2;obtain⟨p1,q1,EZ,q2,_⟩:=hr.ob _ _ g1;obtain⟨p2,q3,w9,q4,_⟩:=hr.ob _ _ g2;rw[z]at q1;cases q1;rw[z2]at q3;cases q3;exact absurd rfl (nq I q2 q4)
     .rename_i x y g1 g2;obtain⟨p1,q1,EZ,q2,_⟩:=hr.ob _ _ g1;obtain⟨p2,q3,w9,q4,_⟩:=hr.ob _ _ g2;rw[z]at q1;cases q1;rw[z2]at q3;cases q3;exact absurd rfl (nq I q4 q2)
     .cases e
   |tup y=>
    obtain⟨p',vs',z',z2,w2⟩:=s2;cases z';obtain⟨ds,e1,_⟩:=Option.map_eq_some_iff.mp e;exact(lt _ _ _ _ z2 z e1).elim
   |_=>cases s2
theorem GW{n:Nat}{A:Around}{x y:List D}{a b:Addr}{vs ws:List V}{k:Bool}(I:Inv X pins σ H s)(hr:HR X.K H r h)(hu:A.units<cLine)(q1:dm X.K H a vs)(q2:dm X.K H b ws)(v1:aD X.K H r x vs)(v2:aD X.K H r y ws)
  (ih:∀a b va vb u w k,RV X.K H r a va->RV X.K H r b vb->RelV va u->RelV vb w->Ev.gg h n a b=some k->uv A.in1 s u w k) (e:Ev.cS (Ev.gg h n) x y=some k):uv A s (.ref a) (.ref b) k:=by
 obtain⟨us,p1,nZ,_⟩:=I.tuple q1;obtain⟨zs,p2,oh,_⟩:=I.tuple q2;have l1:=v1.length;have l2:=v2.length;have l3:=p1.length;have l4:=p2.length;have both:RcAt A s (.ref a) (.ref b) k/\RcNeAt A s (.ref a) (.ref b) (!k):=by
  by_cases hl:x.length=y.length
  .obtain⟨e',h1,h2,h3⟩:=rQ v1 v2 p1 p2 ih hl e;have rc:=RcAt.tuples nZ oh hu h1;have ne:=RcNeAt.tuples nZ oh hu h1;have hs:us.toArray.size=zs.toArray.size:=by simpa using h3
   have hb:((List.range (min us.toArray.size zs.toArray.size)).all e'&&us.toArray.size==zs.toArray.size)=k:=by
    rw[<-hs,Nat.min_self,h2];simp
   rw[hb]at rc ne;exact⟨rc,ne⟩
  .have hk:=qD hl e;subst hk;have hcl:∃e':Nat->Bool,∀j (h1:j<us.toArray.size) (h2:j<zs.toArray.size),EqAt A.in1 s us.toArray[j] zs.toArray[j] (e' j):=by
    obtain⟨e',h1⟩:=xr e;refine⟨e',λj g1 g2=>?_⟩;have UG:j<us.length:=by simpa using g1
    have UH:j<zs.length:=by simpa using g2
    have ha:x[j]?=some x[j]:=List.getElem?_eq_getElem (by omega);have hb:y[j]?=some y[j]:=List.getElem?_eq_getElem (by omega);obtain⟨va,a1,a2⟩:=v1.get ha;obtain⟨vb,b1,b2⟩:=v2.get hb;obtain⟨u,a3,a4⟩:=p1.get a1;obtain⟨w,b3,b4⟩:=p2.get b1;have eu:us.toArray[j]=u:=by
     have:=(List.getElem?_eq_some_iff.mp a3).2;simpa using this
    have ew:zs.toArray[j]=w:=by
     have:=(List.getElem?_eq_some_iff.mp b3).2;simpa using this
    rw[eu,ew];exact(ih _ _ _ _ _ _ _ a2 b2 a4 b4 (h1 j _ _ ha hb)).eq
   obtain⟨e',h1⟩:=hcl;have rc:=RcAt.tuples nZ oh hu h1;have ne:=RcNeAt.tuples nZ oh hu h1;have hs:(us.toArray.size==zs.toArray.size)=false:=by
    simp only[List.size_toArray,beq_eq_false_iff_ne,ne_eq];omega
   rw[hs,Bool.and_false]at rc ne;exact⟨rc,ne⟩
 by_cases hab:a=b
 .subst hab;rw[I.mh q2 q1]at v2;have hk:k=true:=A7 I hr (n+1) (.tup x) (.tup y) (.ref a) k ⟨a,vs,rfl,q1,v1⟩ ⟨a,vs,rfl,q1,v2⟩ e;subst hk;exact⟨.same _,both.1,both.2⟩
 .exact⟨.of_refs hab both.1,both.1,both.2⟩
end
end Sm
set_option maxRecDepth 100000
namespace Sm
open PySem PySem.Spec PyProof.Rows L2 PySem.SeqAt
open Ev (D O Hh Fr R aM E Es Eo T S Ss Fl Src bO bJ TY BI ME)
section
variable{X:Cx}{pins:List (Addr×Obj)}{σ:L2.St}{H:Hp}{s:Shared}{r:List Addr}{h:Hh}
theorem E1(I:Inv X pins σ H s)(hr:HR X.K H r h):∀(n:Nat) (A:Around) (a b:D) (va vb:V) (u w:Value) (k:Bool),A.units+n<cLine->RV X.K H r a va->RV X.K H r b vb->RelV va u->RelV vb w->Ev.gg h n a b=some k->uv A s u w k:=by
 intro n;induction n with
 |zero=>intro A a b va vb u w k _ _ _ _ _ e;cases e
 |succ n ih=>
  intro A a b va vb u w k hu h1 h2 r1 r2 e;have bS:A.units<cLine:=by omega
  have ih':∀a b va vb u w k,RV X.K H r a va->RV X.K H r b vb->RelV va u->RelV vb w->Ev.gg h n a b=some k->uv A.in1 s u w k:=λa b va vb u w k=>ih A.in1 a b va vb u w k (by show A.units+1+n<cLine;omega);have s1:=h1.shape;have s2:=h2.shape;have lst:∀{i:Nat} {v:V} {u:Value} {ds:List D},bY X.K H r (.ref i) v->RelV v u->Ev.bf h i=some ds->∃p us,u=.ref p/\PlainL s.heap p (List.toArray us):=λ{i v u ds} hv ru el=>by
   obtain⟨p,rfl,z⟩:=hv;cases ru;obtain⟨us,pl⟩:=A6 I hr el z;exact⟨p,us,rfl,pl⟩
  have tup:∀{ds:List D} {v:V} {u:Value},bY X.K H r (.tup ds) v->RelV v u->∃p us,u=.ref p/\s.heap.IsTuple p (List.toArray us):=λ{ds v u} hv ru=>by
   obtain⟨p,vs,rfl,z,_⟩:=hv;cases ru;obtain⟨us,_,pt,_⟩:=I.tuple z;exact⟨p,us,rfl,pt⟩
  cases a with
  |aG=>
   simp only[bY]at s1;subst s1;cases r1;cases b with
   |aG=>simp only[bY]at s2;subst s2;cases r2;cases e;exact⟨.same _,.none_none,.none_none⟩
   |bl y=>simp only[bY]at s2;subst s2;cases r2;cases e;exact⟨.none_bool _,.none_bool _,.none_bool _⟩
   |int y=>simp only[bY]at s2;subst s2;obtain⟨t,rfl⟩:=r2;cases e;exact⟨.none_int _ _,.none_int _ _,.none_int _ _⟩
   |str y=>simp only[bY]at s2;subst s2;obtain⟨t,rfl⟩:=r2;cases e;exact⟨.none_str _ _,.none_str _ _,.none_str _ _⟩
   |tup y=>obtain⟨p,us,rfl,pt⟩:=tup s2 r2;cases e;exact⟨.none_tuple pt bS,.none_tuple pt bS,.none_tuple pt bS⟩
   |ref m=>
    obtain⟨ds,e1,rfl⟩:=Option.map_eq_some_iff.mp e;obtain⟨p,us,rfl,pl⟩:=lst s2 r2 e1;exact⟨.none_list pl.isList bS,.none_list pl.isList bS,.none_list pl.isList bS⟩
  |bl x=>
   simp only[bY]at s1;subst s1;cases r1;cases b with
   |aG=>simp only[bY]at s2;subst s2;cases r2;cases e;exact⟨.bool_none _,.bool_none _,.bool_none _⟩
   |bl y=>simp only[bY]at s2;subst s2;cases r2;cases e;exact⟨.bool_bool _ _,.bool_bool _ _,.bool_bool _ _⟩
   |int y=>simp only[bY]at s2;subst s2;obtain⟨t,rfl⟩:=r2;cases e;exact⟨.bool_int _ _ _,.bool_int _ _ _,.bool_int _ _ _⟩
   |str y=>simp only[bY]at s2;subst s2;obtain⟨t,rfl⟩:=r2;cases e;exact⟨.bool_str _ _ _,.bool_str _ _ _,.bool_str _ _ _⟩
   |tup y=>obtain⟨p,us,rfl,pt⟩:=tup s2 r2;cases e;exact⟨.bool_tuple _ pt bS,.bool_tuple _ pt bS,.bool_tuple _ pt bS⟩
   |ref m=>
    obtain⟨ds,e1,rfl⟩:=Option.map_eq_some_iff.mp e;obtain⟨p,us,rfl,pl⟩:=lst s2 r2 e1;exact⟨.bool_list _ pl.isList bS,.bool_list _ pl.isList bS,.bool_list _ pl.isList bS⟩
  |int x=>
   simp only[bY]at s1;subst s1;obtain⟨t0,rfl⟩:=r1;cases b with
   |aG=>simp only[bY]at s2;subst s2;cases r2;cases e;exact⟨.int_none _ _,.int_none _ _,.int_none _ _⟩
   |bl y=>simp only[bY]at s2;subst s2;cases r2;cases e;exact⟨.int_bool _ _ _,.int_bool _ _ _,.int_bool _ _ _⟩
   |int y=>simp only[bY]at s2;subst s2;obtain⟨t,rfl⟩:=r2;cases e;exact⟨.int_int _ _ _ _,.int_int _ _ _ _,.int_int _ _ _ _⟩
   |str y=>simp only[bY]at s2;subst s2;obtain⟨t,rfl⟩:=r2;cases e;exact⟨.int_str _ _ _ _,.int_str _ _ _ _,.int_str _ _ _ _⟩
   |tup y=>obtain⟨p,us,rfl,pt⟩:=tup s2 r2;cases e;exact⟨.int_tuple _ _ pt bS,.int_tuple _ _ pt bS,.int_tuple _ _ pt bS⟩
   |ref m=>
    obtain⟨ds,e1,rfl⟩:=Option.map_eq_some_iff.mp e;obtain⟨p,us,rfl,pl⟩:=lst s2 r2 e1;exact⟨.int_list _ _ pl.isList bS,.int_list _ _ pl.isList bS,.int_list _ _ pl.isList bS⟩
  |str x=>
   simp only[bY]at s1;subst s1;obtain⟨t0,rfl⟩:=r1;cases b with
   |aG=>simp only[bY]at s2;subst s2;cases r2;cases e;exact⟨.str_none _ _,.str_none _ _,.str_none _ _⟩
   |bl y=>simp only[bY]at s2;subst s2;cases r2;cases e;exact⟨.str_bool _ _ _,.str_bool _ _ _,.str_bool _ _ _⟩
   |int y=>simp only[bY]at s2;subst s2;obtain⟨t,rfl⟩:=r2;cases e;exact⟨.str_int _ _ _ _,.str_int _ _ _ _,.str_int _ _ _ _⟩
   |str y=>
    simp only[bY]at s2;subst s2;obtain⟨t,rfl⟩:=r2;cases e;rw[<-GV];exact⟨.str_str _ _ _ _,.str_str _ _ _ _,.str_str _ _ _ _⟩
   |tup y=>obtain⟨p,us,rfl,pt⟩:=tup s2 r2;cases e;exact⟨.str_tuple _ _ pt bS,.str_tuple _ _ pt bS,.str_tuple _ _ pt bS⟩
   |ref m=>
    obtain⟨ds,e1,rfl⟩:=Option.map_eq_some_iff.mp e;obtain⟨p,us,rfl,pl⟩:=lst s2 r2 e1;exact⟨.str_list _ _ pl.isList bS,.str_list _ _ pl.isList bS,.str_list _ _ pl.isList bS⟩
  |tup x=>
   cases b with
   |tup y=>
    obtain⟨p,vs,rfl,z,w1⟩:=s1;obtain⟨p',vs',rfl,z',w2⟩:=s2;cases r1;cases r2;exact GW I hr bS z z' w1 w2 ih' e
   |aG=>obtain⟨p,us,rfl,pt⟩:=tup s1 r1;simp only[bY]at s2;subst s2;cases r2;cases e;exact⟨.tuple_none pt bS,.tuple_none pt bS,.tuple_none pt bS⟩
   |bl y=>obtain⟨p,us,rfl,pt⟩:=tup s1 r1;simp only[bY]at s2;subst s2;cases r2;cases e;exact⟨.tuple_bool _ pt bS,.tuple_bool _ pt bS,.tuple_bool _ pt bS⟩
   |int y=>obtain⟨p,us,rfl,pt⟩:=tup s1 r1;simp only[bY]at s2;subst s2;obtain⟨t,rfl⟩:=r2;cases e;exact⟨.tuple_int _ _ pt bS,.tuple_int _ _ pt bS,.tuple_int _ _ pt bS⟩
   |str y=>obtain⟨p,us,rfl,pt⟩:=tup s1 r1;simp only[bY]at s2;subst s2;obtain⟨t,rfl⟩:=r2;cases e;exact⟨.tuple_str _ _ pt bS,.tuple_str _ _ pt bS,.tuple_str _ _ pt bS⟩
   |ref m=>
    obtain⟨p,us,rfl,pt⟩:=tup s1 r1;obtain⟨ds,e1,rfl⟩:=Option.map_eq_some_iff.mp e;obtain⟨p',us',rfl,pl⟩:=lst s2 r2 e1;exact⟨.tuple_list pt pl.isList bS,.tuple_list pt pl.isList bS,.tuple_list pt pl.isList bS⟩
  |ref i=>
   cases b with
   |ref m=>
    replace e:Ev.jB h (Ev.gg h n) i m=some k:=e;unfold Ev.jB at e;split at e
    .rename_i UJ;subst UJ;simp only[Option.map_eq_some_iff]at e;obtain⟨ds,e1,rfl⟩:=e;obtain⟨p,us,rfl,pl⟩:=lst s1 r1 e1;obtain⟨p0,rfl,z⟩:=s1;obtain⟨p1,rfl,z'⟩:=s2;rw[z]at z';cases z';cases r1;cases r2;have q:(List.range (List.toArray us).size).all (λ_=>true)=true:=by simp
     have rc:=RcAt.lists (A:=A) (e:=λ_=>true) pl.isList pl.isList rfl bS λj _ _=>EqAt.same _;have ne:=RcNeAt.lists (A:=A) (e:=λ_=>true) pl.isList pl.isList rfl bS λj _ _=>EqAt.same _;rw[q]at rc ne;exact⟨.same _,rc,ne⟩
    .rename_i hne;obtain⟨p0,rfl,z⟩:=s1;obtain⟨p1,rfl,z'⟩:=s2;cases r1;cases r2;split at e
     .rename_i x y g1 g2;obtain⟨q0,q1,EZ,q2,q3⟩:=hr.ob _ _ g1;obtain⟨q4,q5,w9,q6,q7⟩:=hr.ob _ _ g2;rw[z]at q1;cases q1;rw[z']at q5;cases q5;exact oN I bS (.of q2) (.of q6) q3 q7 (λw=>hne (hr.inj _ _ _ _ _ z (by rw[w];exact z') g1 g2)) ih' e
     .rename_i x y g1 g2;obtain⟨q0,q1,EZ,q2,q3⟩:=hr.ob _ _ g1;obtain⟨q4,q5,w9,q6,q7⟩:=hr.ob _ _ g2;rw[z]at q1;cases q1;rw[z']at q5;cases q5;exact oN I bS (E2 q2) (.of q6) q3 q7 (nq I q2 q6) ih' e
     .rename_i x y g1 g2;obtain⟨q0,q1,EZ,q2,q3⟩:=hr.ob _ _ g1;obtain⟨q4,q5,w9,q6,q7⟩:=hr.ob _ _ g2;rw[z]at q1;cases q1;rw[z']at q5;cases q5;exact oN I bS (.of q2) (E2 q6) q3 q7 (nq I q6 q2).symm ih' e
     .cases e
   |aG=>obtain⟨ds,e1,rfl⟩:=Option.map_eq_some_iff.mp e;obtain⟨p,us,rfl,pl⟩:=lst s1 r1 e1;simp only[bY]at s2;subst s2;cases r2;exact⟨.list_none pl.isList bS,.list_none pl.isList bS,.list_none pl.isList bS⟩
   |bl y=>obtain⟨ds,e1,rfl⟩:=Option.map_eq_some_iff.mp e;obtain⟨p,us,rfl,pl⟩:=lst s1 r1 e1;simp only[bY]at s2;subst s2;cases r2;exact⟨.list_bool _ pl.isList bS,.list_bool _ pl.isList bS,.list_bool _ pl.isList bS⟩
   |int y=>obtain⟨ds,e1,rfl⟩:=Option.map_eq_some_iff.mp e;obtain⟨p,us,rfl,pl⟩:=lst s1 r1 e1;simp only[bY]at s2;subst s2;obtain⟨t,rfl⟩:=r2;exact⟨.list_int _ _ pl.isList bS,.list_int _ _ pl.isList bS,.list_int _ _ pl.isList bS⟩
   |str y=>obtain⟨ds,e1,rfl⟩:=Option.map_eq_some_iff.mp e;obtain⟨p,us,rfl,pl⟩:=lst s1 r1 e1;simp only[bY]at s2;subst s2;obtain⟨t,rfl⟩:=r2;exact⟨.list_str _ _ pl.isList bS,.list_str _ _ pl.isList bS,.list_str _ _ pl.isList bS⟩
   |tup y=>
    obtain⟨ds,e1,rfl⟩:=Option.map_eq_some_iff.mp e;obtain⟨p,us,rfl,pl⟩:=lst s1 r1 e1;obtain⟨p',us',rfl,pt⟩:=tup s2 r2;exact⟨.list_tuple pl.isList pt bS,.list_tuple pl.isList pt bS,.list_tuple pl.isList pt bS⟩
where
 E2 {K:PySem.W.Frag} {H:Hp} {a:Addr} {vs:List V} (q:yG K H a vs):eY K H a vs:=by
  rcases q with ⟨ob,e2⟩|e2
  .exact .inl (.inr ⟨ob,e2⟩)
  .exact .inr e2
end
theorem Good.units{G:Tb}{n:Nat}{sc:Scope}{N:List Str}{df:Bool}{X:Cx}(g:Good G n sc N df X):X.A.units+1+Ev.deep<cLine:=by
 have:=g.room.un;have:Ev.deep=20:=rfl;omega
section
variable{G:Tb}{n:Nat}{sc:Scope}{N:List Str}{df:Bool}{X:Cx}
theorem xu{pins:List (Addr×Obj)}{σ:L2.St}{H:Hp}{s:Shared}{Q:VK}{r:List Addr}{h:Hh}{k:Bool}(I:Inv X pins σ H s)(hr:HR X.K H r h)(q:Res X.K r H h (.bl k) Q):EP X pins σ Q (.bool k) s:=
 ⟨.bl k,H,I,rfl,q.here rfl hr⟩
theorem E3(g:Good G n sc N df X):dh X (compareOp .Eq) (g8 X.K (gw .eq)):=by
 intro pins s σ H x y v u Q I rx ry q;obtain⟨r,h,a,b,d,h',hr,v1,v2,e,q⟩:=q;obtain⟨k,e1,rfl,rfl⟩:=jr e;have:=g.units;exact(E1 I hr Ev.deep X.A a b x y v u k (by omega) v1 v2 rx ry e1).rc _ _ _ _ (xu I hr q)
theorem N5(g:Good G n sc N df X):dh X (compareOp .NotEq) (g8 X.K (gw .ne)):=by
 intro pins s σ H x y v u Q I rx ry q;obtain⟨r,h,a,b,d,h',hr,v1,v2,e,q⟩:=q;obtain⟨k,e1,rfl,rfl⟩:=jr e;have:=g.units
 delta Ev.cop at e1;dsimp only at e1;simp only[Option.map_eq_some_iff]at e1
 obtain⟨k',e2,rfl⟩:=e1;exact(E1 I hr Ev.deep X.A a b x y v u k' (by omega) v1 v2 rx ry e2).ne _ _ _ _ (xu I hr q)
theorem A8{op:CmpOp}{o:bJ}{p:Int->Int->Bool}(ho:dh X (compareOp op) (tR λi j=>.bl (p i j)))(hc:∀a b h k,Ev.cop o a b h=some k->∃i j,a=.int i/\b=.int j/\k=p i j):dh X (compareOp op) (g8 X.K (gw o)):=by
 intro pins s σ H x y v u Q I rx ry q;obtain⟨r,h,a,b,d,h',hr,v1,v2,e,q⟩:=q;obtain⟨k,e1,rfl,rfl⟩:=jr e;obtain⟨i,j,rfl,rfl,rfl⟩:=hc _ _ _ _ e1;exact ho pins s σ H x y v u Q I rx ry ⟨i,j,v1,v2,q.here rfl hr⟩
theorem E4:dh X (compareOp .Lt) (g8 X.K (gw .lt)):=A8 NC λa b h k e=>by
 cases a<;>cases b <;> (delta Ev.cop at e;dsimp only at e)<;>first | (cases e;exact⟨_,_,rfl,rfl,rfl⟩)|cases e
theorem E5:dh X (compareOp .Gt) (g8 X.K (gw .gt)):=A8 ND λa b h k e=>by
 cases a<;>cases b <;> (delta Ev.cop at e;dsimp only at e)<;>first | (cases e;exact⟨_,_,rfl,rfl,rfl⟩)|cases e
theorem A9:dh X (compareOp .Is) (g8 X.K (gw .iR)):=by
 intro pins s σ H x y v u Q I rx ry q;obtain⟨r,h,a,b,d,h',hr,v1,v2,e,q⟩:=q;obtain⟨k,e1,rfl,rfl⟩:=jr e;cases b with
 |aG=>
  refine Jg pins s σ H x y v u Q I rx ry ⟨v2,?_⟩;have:=v1.shape;cases a with
  |aG=>simp only[bY]at this;subst this;cases e1;exact q.here rfl hr
  |bl _=>simp only[bY]at this;subst this;cases e1;exact q.here rfl hr
  |int _=>simp only[bY]at this;subst this;cases e1;exact q.here rfl hr
  |str _=>simp only[bY]at this;subst this;cases e1;exact q.here rfl hr
  |ref _=>obtain⟨p,rfl,_⟩:=this;cases e1;exact q.here rfl hr
  |tup _=>obtain⟨p,_,rfl,_⟩:=this;cases e1;exact q.here rfl hr
 |_=>cases a<;>cases e1
theorem xw:dh X (compareOp .IsNot) (g8 X.K (gw .iY)):=by
 intro pins s σ H x y v u Q I rx ry q;obtain⟨r,h,a,b,d,h',hr,v1,v2,e,q⟩:=q;obtain⟨k,e1,rfl,rfl⟩:=jr e;cases b with
 |aG=>
  refine Gh pins s σ H x y v u Q I rx ry ⟨v2,?_⟩;have:=v1.shape;cases a with
  |aG=>simp only[bY]at this;subst this;cases e1;exact q.here rfl hr
  |bl _=>simp only[bY]at this;subst this;cases e1;exact q.here rfl hr
  |int _=>simp only[bY]at this;subst this;cases e1;exact q.here rfl hr
  |str _=>simp only[bY]at this;subst this;cases e1;exact q.here rfl hr
  |ref _=>obtain⟨p,rfl,_⟩:=this;cases e1;exact q.here rfl hr
  |tup _=>obtain⟨p,_,rfl,_⟩:=this;cases e1;exact q.here rfl hr
 |_=>cases a<;>cases e1
end
end Sm
set_option maxRecDepth 100000
namespace Sm
open PySem PySem.Spec PyProof.Rows L2 PySem.SeqAt
open Ev (D O Hh Fr R aM E Es Eo T S Ss Fl Src bO bJ TY BI ME)
section
variable{X:Cx}{pins:List (Addr×Obj)}{σ:L2.St}{H:Hp}{s:Shared}{r:List Addr}{h:Hh}
end
section
variable{G:Tb}{n:Nat}{sc:Scope}{N:List Str}{df:Bool}{X:Cx}
theorem qE(a b:List Nat):aT a++aT b=aT (a++b):=by
 show Str.append (aT a) (aT b)=_;simp[Str.append,aT]
theorem GX{pins:List (Addr×Obj)}{σ:L2.St}{H:Hp}{s:Shared}{Q:Value->Shared->Prop}{E:Value->Shared->Prop}(I:Inv X pins σ H s){a b:Addr}{ys:List V}(h1:dm X.K H a [])(h2:dm X.K H b ys)(q:Q (.ref b) s):wpAny (model X.prog X.w) X.A (binaryOp .Add (.ref a) (.ref b)) Q E s:=by
 obtain⟨us,p1,UK,_⟩:=I.tuple h1;obtain⟨zs,p2,UL,_⟩:=I.tuple h2;cases p1;obtain⟨⟨cls,dd,data,sl⟩,ho,hc,n,hd⟩:=id UK;obtain⟨⟨Sa,dd2,data2,sl2⟩,ho2,hc2,n2,hd2⟩:=id UL;simp only at hc hd hc2 hd2;subst hc hd hc2 hd2;exact concat_meets ⟨_,ho,rfl⟩ ⟨_,ho2,rfl⟩ noFill_tuple_add seq_tuple_add PySem.F.slot_tuple_add PySem.F.entry_tuple_add (PySem.F.args_tuple_add_2 _ _)
  (tuple_addW0 a b _ _ n n2 dd dd2 sl sl2 (by simp)) ⟨ho,ho2,q⟩
theorem Kw:dh X (binaryOp .Add) (g8 X.K (Ev.bK .add)):=by
 intro pins s σ H x y v u Q I rx ry q;obtain⟨r,h,a,b,d,h',hr,v1,v2,e,q⟩:=q;have s1:=v1.shape;have s2:=v2.shape;cases a with
 |int i=>cases b with
  |int j=>cases e;exact Jb pins s σ H x y v u Q I rx ry ⟨i,j,s1,s2,q.here rfl hr⟩
  |_=>cases e
 |str i=>cases b with
  |str j=>
   delta Ev.bK at e;dsimp only at e
   split at e
   .rename_i hz;cases e;rw[iS]at hz;refine yo pins s σ H x y v u Q I rx ry ⟨aT i,aT j,s1,s2,by rw[cO,cO];exact hz,?_⟩;rw[qE];exact q.here ⟨rfl,by rw[List.length_append];exact hz⟩ hr
   .cases e
  |_=>cases e
 |tup i=>cases b with
  |tup j=>
   delta Ev.bK at e;dsimp only at e
   split at e
   .rename_i hz;cases e;rw[iS]at hz;obtain⟨pa,vs,rfl,z1,w1⟩:=s1;obtain⟨pb,ws,rfl,z2,w2⟩:=s2;have l1:=w1.length;have l2:=w2.length;cases vs with
    |nil=>
     cases rx;cases ry;refine GX I z1 z2 ⟨.ref pb,H,I,rfl,q.here ?_ hr⟩;have:i=[]:=by cases i with|nil=>rfl|cons _ _=>simp at l1
     subst this;exact⟨pb,ws,rfl,z2,by simpa using w2⟩
    |cons v0 vs=>
     refine Gq pins s σ H _ _ v u Q I rx ry ⟨pa,pb,v0 :: vs,ws,rfl,rfl,z1,z2,by simp,by rw[l1,l2];exact hz,λhw=>?_,λhw p hp=>?_⟩
     .subst hw;have:j=[]:=by cases j with|nil=>rfl|cons _ _=>simp at l2
      subst this;exact q.here ⟨pa,v0 :: vs,rfl,z1,by simpa using w1⟩ hr
     .exact q.tup (w1.append w2) hr hp
   .cases e
  |_=>cases e
 |ref i=>cases b with
  |ref j=>
   delta Ev.bK at e;dsimp only at e
   split at e
   .rename_i ds es e1 e2;obtain⟨pa,rfl,z1⟩:=s1;obtain⟨pb,rfl,z2⟩:=s2;cases rx;cases ry;obtain⟨p1,g1,vs,g2,g3⟩:=hr.ob _ _ e1;obtain⟨p2,k1,ws,k2,k3⟩:=hr.ob _ _ e2;rw[z1]at g1;cases g1;rw[z2]at k1;cases k1;obtain⟨hz,q2⟩:=q.lst e (g3.append k3) hr;exact Ju pins s σ H (.ref pa) (.ref pb) _ _ Q I rfl rfl ⟨_,_,vs,ws,rfl,rfl,g2,k2,by rw[List.length_append]at hz;exact hz,q2⟩
   .cases e
  |_=>cases e
 |_=>cases b<;>cases e
theorem Ky:dh X (binaryOp .Sub) (g8 X.K (Ev.bK .sub)):=by
 intro pins s σ H x y v u Q I rx ry q;obtain⟨r,h,a,b,d,h',hr,v1,v2,e,q⟩:=q;cases a with
 |int i=>cases b with
  |int j=>cases e;exact Jc pins s σ H x y v u Q I rx ry ⟨i,j,v1,v2,q.here rfl hr⟩
  |_=>cases e
 |_=>cases b<;>cases e
theorem GY:dh X (binaryOp .FloorDiv) (g8 X.K (Ev.bK .fdiv)):=by
 intro pins s σ H x y v u Q I rx ry q;obtain⟨r,h,a,b,d,h',hr,v1,v2,e,q⟩:=q;cases a with
 |int i=>cases b with
  |int j=>
   delta Ev.bK at e;dsimp only at e
   split at e
   .rename_i hz;cases e;exact Gg pins s σ H x y v u Q I rx ry ⟨i,j,v1,v2,hz,q.here rfl hr⟩
   .cases e
  |_=>cases e
 |_=>cases b<;>cases e
theorem Kz:dh X (binaryOp .Mod) (g8 X.K (Ev.bK .mod)):=by
 intro pins s σ H x y v u Q I rx ry q;obtain⟨r,h,a,b,d,h',hr,v1,v2,e,q⟩:=q;cases a with
 |int i=>cases b with
  |int j=>
   delta Ev.bK at e;dsimp only at e
   split at e
   .rename_i hz;cases e;exact Je pins s σ H x y v u Q I rx ry ⟨i,j,v1,v2,hz,q.here rfl hr⟩
   .cases e
  |_=>cases e
 |_=>cases b<;>cases e
end
end Sm
set_option maxRecDepth 100000
namespace Sm
open PySem PySem.Spec PyProof.Rows L2 PySem.SeqAt
open Ev (D O Hh Fr R aM E Es Eo T S Ss Fl Src bO bJ TY BI ME)
section
variable{X:Cx}
theorem KA(n:Nat)(i:Int):Ev.dF n i=L2.dF n i:=rfl
theorem KC{α:Type}(xs:List α)(i:Int):Ev.bI xs i=L2.bI xs i:=rfl
theorem aD.bI{K:PySem.W.Frag}{H:Hp}{r:List Addr}{ds:List D}{vs:List V}{i:Int}{d:D}(w:aD K H r ds vs)(e:Ev.bI ds i=some d):∃v,L2.bI vs i=some v/\RV K H r d v:=by
 unfold Ev.bI at e;obtain⟨j,e1,e2⟩:=Option.bind_eq_some_iff.mp e;obtain⟨v,e3,e4⟩:=w.get e2;exact⟨v,by unfold L2.bI;rw[w.length,<-KA,e1];exact e3,e4⟩
theorem N6:wN X (g8 X.K J0):=by
 intro value slice pins s σ H x y v u Q I rx ry q hs;obtain⟨r,h,a,b,d,h',hr,v1,v2,e,q⟩:=q;obtain⟨e,rfl⟩:=Ev.aC e;cases b with
 |int i=>
  have s2:=v2.shape;cases a with
  |tup ds=>
   obtain⟨p,vs,rfl,z,w⟩:=v1.shape;obtain⟨v',g1,g2⟩:=w.bI e;exact Jp value slice pins s σ H _ y v u Q I rx ry ⟨p,vs,i,v',rfl,s2,z,g1,q.here g2 hr⟩ hs
  |str l=>
   simp only[RV]at v1;obtain⟨rfl,hl⟩:=v1;simp only[Ev.ee,Option.map_eq_some_iff]at e;obtain⟨c,e1,rfl⟩:=e;exact Jq value slice pins s σ H _ y v u Q I rx ry ⟨aT l,i,c,rfl,s2,by rw[cO];exact hl,by simpa[aT,KC]using e1,q.here ⟨rfl,by show 1<=sizeLine;decide⟩ hr⟩ hs
  |ref m=>
   simp only[Ev.ee,Option.bind_eq_some_iff]at e;obtain⟨ds,e1,e2⟩:=e;obtain⟨p,rfl,z⟩:=v1.shape;obtain⟨p',vs,z',q1,w⟩:=hr.read e1;rw[z]at z';cases z';obtain⟨v',g1,g2⟩:=w.bI e2;exact Gs value slice pins s σ H _ y v u Q I rx ry ⟨p,vs,i,v',rfl,s2,q1,g1,q.here g2 hr⟩ hs
  |_=>cases e
 |_=>cases a<;>cases e
theorem aD.cut{K:PySem.W.Frag}{H:Hp}{r:List Addr}{ds:List D}{vs:List V}(w:aD K H r ds vs)(lo hi:Option Int):aD K H r (Ev.cut ds lo hi) (mz vs lo hi):=by
 unfold Ev.cut mz;rw[w.length];exact(w.drop _).take _
theorem rR{α:Type}(xs:List α)(lo hi:Option Int)(h:Ev.aQ xs.length 0 lo=0/\Ev.aQ xs.length xs.length hi=xs.length):Ev.cut xs lo hi=xs:=by
 unfold Ev.cut;rw[h.1,h.2];simp
theorem GZ{α:Type}(xs:List α)(lo hi:Option Int):(Ev.cut xs lo hi).length<=xs.length:=by
 unfold Ev.cut;rw[List.length_take,List.length_drop];omega
theorem sG{prog:Program}{w:World}{A:Around}{E:Value->Shared->Prop}{s:Shared}{t sl:Addr}{items:Array Value}{vl vu:Value}{lo hi:Option Int}{Q:Value->Shared->Prop}(ht:IsTup s.heap t items)(hs:s.heap.IsSliceOf sl vl vu .none)(pl:IsPart vl lo)(pu:IsPart vu hi)
  (hw:HT.aQ items.size 0 lo=0/\HT.aQ items.size items.size hi=items.size) (h:Q (.ref t) s):wpAny (model prog w) A (getItem (.ref t) (.ref sl)) Q E s:=by
 obtain⟨os,hos,hcs,hds⟩:=id hs;have Av:s.TypeIs (.ref sl) "slice" :=⟨os,hos,hcs⟩
 unfold getItem;try with_reducible refine wpAny_holding ?_
 first|refine wpAny_bind (wpAny_pure ?_)|skip
 refine wpAny_bind (wpAny_sequenceKey ht.typeIs (by decide) ?_);refine wpAny_bind (wpAny_callSpecial?_slot (name:=Str.ofString "__getitem__") ht.typeIs PyProof.Rows.slot_tuple_getitem
  (wpAny_call_entry PyProof.Rows.slot_tuple_getitem ht.typeIs entry_tuple_getitem ?_ (args_tuple_getitem _ _)))
 show wpAny _ _ (Builtin.Tuple.tupleItemsOf (.ref t) >>= _) _ _ s;refine wpAny_bind (tupleItemsOf_ ht ?_);refine wpAny_bind (wpAny_typeOf Av ?_);rw[if_pos (by decide)];refine wpAny_bind (HT.jz hs pl pu ?_);have hyes:(((HT.aQ items.size 0 lo:Nat):Int)==0&&(1:Int)==1&&(HT.aQ items.size items.size hi - HT.aQ items.size 0 lo)==items.size)=true:=by
  rw[hw.1,hw.2];simp
 show wpAny _ _ (if (((HT.aQ items.size 0 lo:Nat):Int)==0&&(1:Int)==1&&(HT.aQ items.size items.size hi - HT.aQ items.size 0 lo)==items.size)=true then _ else _) _ _ s;rw[if_pos hyes];refine wpAny_bind (m:=Builtin.Tuple.tupleIsExact (.ref t)) (wpAny_bind (wpAny_typeOf ht.typeIs (wpAny_pure ?_)));show wpAny _ _ (if ((Value.type "tuple" ==Value.type "tuple")=true)then _ else _) _ _ s;rw[if_pos (by decide)];exact wpAny_bind (wpAny_rule (wpAny_bind (wpAny_pure (wpAny_pure ⟨_,rfl,wpAny_pure h⟩))))
theorem Ba(lo hi:Option Int)(n:Nat):Builtin.Str.strSliceIndices lo hi 1 n=(List.range (Ev.aQ n n hi - Ev.aQ n 0 lo)).map (λk=>Ev.aQ n 0 lo+k):=by
 have KD:∀o:Option Int,((match o with|none=>(0:Int)|some i=>max 0 (min (if i<0 then i+(n:Int)else i) (n:Int))))=((Ev.aQ n 0 o:Nat):Int):=λo=>by
  cases o with
  |none=>rfl
  |some i=>simp only[Ev.aQ];split<;>omega
 have KG:∀o:Option Int,((match o with|none=>(n:Int)|some i=>max 0 (min (if i<0 then i+(n:Int)else i) (n:Int))))=((Ev.aQ n n o:Nat):Int):=λo=>by
  cases o with
  |none=>rfl
  |some i=>simp only[Ev.aQ];split<;>omega
 have e:Builtin.Str.strSliceIndices lo hi 1 n=sliceRange (match lo with|none=>(0:Int)|some i=>max 0 (min (if i<0 then i+(n:Int)else i) (n:Int))) (match hi with|none=>(n:Int)|some i=>max 0 (min (if i<0 then i+(n:Int)else i) (n:Int))) 1:=by
  unfold Builtin.Str.strSliceIndices;cases lo<;>cases hi<;>simp
 rw[e,KD,KG,sliceRange_one]
theorem KH(l:List Nat)(lo hi:Option Int):((Builtin.Str.strSliceIndices lo hi 1 (aT l).length).filterMap ((aT l).cps[·]?)).toArray=(Ev.cut l lo hi).toArray:=by
 rw[cO,Ba,pick_run];simp[aT,Ev.cut]
theorem KJ:kC X (JK X.K):=by
 intro pins s σ H x v vl vu lo hi sl Q I rx hs pl pu q;obtain⟨r,h,a,d,h',hr,v1,e,q⟩:=q;cases a with
 |tup ds=>
  cases e;obtain⟨p,vs,rfl,z,w⟩:=v1.shape;by_cases hw:HT.aQ vs.length 0 lo=0/\HT.aQ vs.length vs.length hi=vs.length
  .cases rx;obtain⟨us,pv,pt,hz⟩:=I.tuple z;have hl:=pv.length;have UM:Ev.aQ ds.length 0 lo=0/\Ev.aQ ds.length ds.length hi=ds.length:=by rw[<-w.length];exact hw
   refine⟨"tuple",_,PyProof.Rows.slot_tuple_getitem.lookup,pt.typeIs,?_⟩;refine sG pt hs pl pu (by rw[List.size_toArray,<-hl];exact hw) ⟨.ref p,H,I,rfl,q.here ?_ hr⟩;rw[rR ds lo hi UM];exact⟨p,vs,rfl,z,w⟩
  .exact Jo pins s σ H _ v vl vu lo hi sl Q I rx hs pl pu ⟨p,vs,rfl,z,hw,λp' hp=>q.tup (w.cut lo hi) hr hp⟩
 |str l=>
  simp only[RV]at v1;obtain⟨rfl,hl⟩:=v1;obtain⟨t,rfl⟩:=rx;cases e;refine⟨"str",_,PySem.F.slot_str_getitem.lookup,typeIs_str s _ t,?_⟩;have part:∀{v:Value} {o:Option Int},IsPart v o->∃p:Option (Int×Tok),v=partValue p/\p.map (·.1)=o:=λ{v o} hp=>by
   cases hp with
   |none=>exact⟨none,rfl,rfl⟩
   |int i t=>exact⟨some (i,t),rfl,rfl⟩
  obtain⟨l1,e1,e2⟩:=part pl;obtain⟨u1,e3,e4⟩:=part pu;subst e1 e3;obtain⟨os,hos,hcs,hds⟩:=hs;refine wpAny_getItem_str_slice (l:=l1) (u:=u1) (st:=none) ⟨os,hos,hcs,hds⟩ rfl ?_;have E6:((slicePicked (aT l) l1 u1 none).filterMap ((aT l).cps[·]?)).toArray=(Ev.cut l lo hi).toArray:=by
   show((Builtin.Str.strSliceIndices (l1.map (·.1)) (u1.map (·.1)) 1 (aT l).length).filterMap ((aT l).cps[·]?)).toArray=_;rw[e2,e4];exact KH l lo hi
  have hcl:=GZ l lo hi;unfold sliceMade;refine post_val_or_made (λ_=>?_) λt' k=>?_
  .rw[E6];show(Ev.cut l lo hi).toArray.size<=sizeLine;simp only[List.size_toArray];omega
  .have hres:(if (((none:Option (Int×Tok)).map (·.1)).getD 1==1&&(slicePicked (aT l) l1 u1 none).length==(aT l).length)=true then aT l else (⟨((slicePicked (aT l) l1 u1 none).filterMap ((aT l).cps[·]?)).toArray⟩:Str))=aT (Ev.cut l lo hi):=by
    split
    .rename_i hc;rw[Bool.and_eq_true]at hc;have hlen:(slicePicked (aT l) l1 u1 none).length=(aT l).length:=eq_of_beq hc.2;have hlen2:(slicePicked (aT l) l1 u1 none).length=Ev.aQ l.length l.length hi - Ev.aQ l.length 0 lo:=by
      show(Builtin.Str.strSliceIndices (l1.map (·.1)) (u1.map (·.1)) 1 (aT l).length).length=_;rw[e2,e4,Ba,cO];simp
     rw[cO]at hlen;have hb:Ev.aQ l.length l.length hi<=l.length:=HT.tU _ _ (Nat.le_refl _) hi;have ha:Ev.aQ l.length 0 lo<=l.length:=HT.tU _ _ (Nat.zero_le _) lo;rw[rR l lo hi ⟨by omega,by omega⟩]
    .rw[E6];rfl
   rw[hres];exact⟨.str (aT (Ev.cut l lo hi)),H,I.tok _,⟨_,rfl⟩,q.here ⟨rfl,by omega⟩ hr⟩
 |ref m=>
  simp only[Ev.fP]at e;split at e
  .rename_i ds e1;obtain⟨p,rfl,z⟩:=v1.shape;obtain⟨p',vs,z',q1,w⟩:=hr.read e1;rw[z]at z';cases z';obtain⟨hz,q2⟩:=q.lst e (w.cut lo hi) hr;exact Gu pins s σ H _ v vl vu lo hi sl Q I rx hs pl pu ⟨p,vs,rfl,q1,q2⟩
  .cases e
 |_=>cases e
theorem uw:∀(k:Nat) (l:List Nat) (acc:List Nat),(List.replicate k l.toArray).foldl (·++·) acc.toArray=(acc++Ev.rep k l).toArray
 |0,l,acc=>by simp[Ev.rep]
 |k+1,l,acc=>by
  rw[List.replicate_succ,List.foldl_cons];have:acc.toArray++l.toArray=(acc++l).toArray:=by simp
  rw[this,uw k l (acc++l)];simp[Ev.rep,List.replicate_succ]
theorem nv{α:Type}(k:Nat)(l:List α):(Ev.rep k l).length=k*l.length:=by
 unfold Ev.rep;exact len_rep l k
theorem G0{l:List Nat}{k:Int}(h:0<=k):Txt.mul (aT l) k=aT (Ev.rep k.toNat l):=by
 unfold Txt.mul;by_cases h1:k<1
 .have:k=0:=by omega
  subst this;rw[if_pos (by decide)];rfl
 .rw[if_neg h1];split
  .rename_i hc;rw[Bool.or_eq_true]at hc;rcases hc with hc|hc
   .have:k=1:=by simpa using hc
    subst this;simp[Ev.rep]
   .rw[cO]at hc;have:l=[]:=by cases l with|nil=>rfl|cons _ _=>simp at hc
    subst this;simp[Ev.rep,aT]
  .show(⟨(List.replicate k.toNat (aT l).cps).foldl (·++·) #[]⟩:Str)=_;have:=uw k.toNat l [];simp only[List.nil_append]at this;exact congrArg Str.mk this
theorem jV{a b:Nat}(h1:a<=1000)(h2:b<=1000):a*b<=sizeLine:=Nat.le_trans (Nat.mul_le_mul h1 h2) (by decide)
theorem G1{pins:List (Addr×Obj)}{σ:L2.St}{H:Hp}{s:Shared}{Q:VK}(I:Inv X pins σ H s){l:List Nat}{k:Int}{t u:Tok}(hk:0<=k/\k<=1000/\l.length<=1000)(q:Q (.str (aT (Ev.rep k.toNat l))) H) :
  wpAny (model X.prog X.w) X.A (binaryOp .Mult (.str (aT l) t) (.int k u)) (EP X pins σ Q) X.xe s:=by
 have hok:MulOk (aT l) k:=mulOk_of 1000 1000 (by rw[cO];exact hk.2.2) (by exact hk.2.1) (by omega) (by decide) (by decide);refine SB.mul hok λt' k'=>?_;rw[G0 hk.1];exact⟨.str _,H,I.tok _,⟨_,rfl⟩,q⟩
theorem oO:fillsNumberSlot (.type "tuple") "mul" = pure false:=
 PySem.fillsNumberSlot_seq (id:="tuple.__mul__") (r:=some (.builtin "tuple.__rmul__")) PySem.F.slot_tuple_mul.lookup (by decide +kernel) PySem.F.slot_tuple_rmul.lookup (by decide +kernel)
theorem ux:seqRepeat? (.type "tuple")=pure (some (.builtin "tuple.__mul__")):=by
 unfold seqRepeat?;rw[PySem.seqSlot_of (T:="tuple") (name:="__mul__") (id:="tuple.__mul__") PySem.F.slot_tuple_mul.lookup (by decide +kernel),PySem.seqSlot_of (T:="tuple") (name:="__rmul__") (id:="tuple.__rmul__") PySem.F.slot_tuple_rmul.lookup (by decide +kernel)];rfl
theorem yQ(a:Int)(t:Tok)(l:Addr)(items:Array Value)(n:Nat)(dd:Option Addr)(sl:Array (Option Value)) :
  Meets (Builtin.«int.__rmul__» ⟨[.int a t,.ref l],[]⟩) (λ_ R s=>s.heap.get? l=some { cls:=.type "tuple",dict:=dd,data:=.seq items n,slots:=sl }/\R (.ok (.ret Value.notImplemented)) s):=
 .of_wp λprog w A R s h=>by obtain⟨hp,g,d,tk,os⟩:=s;obtain⟨hl,h⟩:=h;wp_walk;exact⟨_,rfl,h⟩
theorem yR(l:Addr)(items:Array Value)(n:Nat)(dd:Option Addr)(sl:Array (Option Value))(k:Int)(u:Tok)(h1:¬ (decide (k < -2 ^ 63) ||decide (k≥2 ^ 63))=true)(h3:(items.isEmpty ||k==1)=true) :
  Meets (Builtin.«tuple.__mul__» ⟨[.ref l,.int k u],[]⟩) (λ_ R s=>s.heap.get? l=some { cls:=.type "tuple",dict:=dd,data:=.seq items n,slots:=sl }/\R (.ok (.ret (.ref l))) s):=
 .of_wp λprog w A R s h=>by obtain⟨hp,g,d,tk,os⟩:=s;obtain⟨hl,h⟩:=h;have f1:=AutoSeq1.idx_int;wp_walk using AutoSeq1.wpAny_loadPart' hl;rw[if_neg h1];wp_walk using AutoSeq1.wpAny_loadPart' hl;exact⟨_,rfl,h⟩
theorem yS(l:Addr)(items:Array Value)(n:Nat)(dd:Option Addr)(sl:Array (Option Value))(k:Int)(u:Tok)(h1:¬ (decide (k < -2 ^ 63) ||decide (k≥2 ^ 63))=true)(h3:¬ (items.isEmpty ||k==1)=true)(h4:(decide (k<=0) ||items.isEmpty)=true) :
  Meets (Builtin.«tuple.__mul__» ⟨[.ref l,.int k u],[]⟩) (λ_ R s=>s.heap.get? l=some { cls:=.type "tuple",dict:=dd,data:=.seq items n,slots:=sl }/\R (.ok (.ret (Value.ref s.heap.objs.size))) { s with heap:=s.heap.push { cls:=Value.type "tuple",data:=Data.seq #[]},toks:=s.toks }):=
 .of_wp λprog w A R s h=>by obtain⟨hp,g,d,tk,os⟩:=s;obtain⟨hl,h⟩:=h;have f1:=AutoSeq1.idx_int;wp_walk using AutoSeq1.wpAny_loadPart' hl;rw[if_neg h1];wp_walk using AutoSeq1.wpAny_loadPart' hl;exact⟨_,rfl,h⟩
theorem yT(l:Addr)(items:Array Value)(n:Nat)(dd:Option Addr)(sl:Array (Option Value))(k:Int)(u:Tok)(h1:¬ (decide (k < -2 ^ 63) ||decide (k≥2 ^ 63))=true)(h3:¬ (items.isEmpty ||k==1)=true)(h4:¬ (decide (k<=0) ||items.isEmpty)=true)
  (h5:¬ (items.size*k > (2 ^ 63 - 1) / 8)) (h6:¬ Builtin.Tuple.tupleTooMany (items.size*k)=true) (hsz:(List.foldl (λx1 x2=>x1++x2) #[] (List.replicate k.toNat items)).size<=sizeLine) :
  Meets (Builtin.«tuple.__mul__» ⟨[.ref l,.int k u],[]⟩) (λ_ R s=>s.heap.get? l=some { cls:=.type "tuple",dict:=dd,data:=.seq items n,slots:=sl }/\R (.ok (.ret (Value.ref s.heap.objs.size))) { s with heap:=s.heap.push { cls:=Value.type "tuple",data:=Data.seq (List.foldl (λx1 x2=>x1++x2) #[] (List.replicate k.toNat items))},toks:=s.toks }):=
 .of_wp λprog w A R s h=>by obtain⟨hp,g,d,tk,os⟩:=s;obtain⟨hl,h⟩:=h;have f1:=AutoSeq1.idx_int;wp_walk using AutoSeq1.wpAny_loadPart' hl;rw[if_neg h1];wp_walk using AutoSeq1.wpAny_loadPart' hl;rw[if_neg h5];wp_walk using AutoSeq1.wpAny_loadPart' hl;exact⟨_,rfl,h⟩
theorem rT:∀(k:Nat) (l acc:List Value),(List.replicate k l.toArray).foldl (·++·) acc.toArray=(acc++Ev.rep k l).toArray
 |0,l,acc=>by simp[Ev.rep]
 |k+1,l,acc=>by
  rw[List.replicate_succ,List.foldl_cons];have:acc.toArray++l.toArray=(acc++l).toArray:=by simp
  rw[this,rT k l (acc++l)];simp[Ev.rep,List.replicate_succ]
theorem G2{pins:List (Addr×Obj)}{σ:L2.St}{H:Hp}{s:Shared}{Q:VK}(I:Inv X pins σ H s){p:Addr}{vs:List V}{k:Int}{u:Tok}(hk:0<=k/\k<=1000/\vs.length<=1000)(hp:dm X.K H p vs)
  (q1:Ev.rep k.toNat vs=vs->Q (.ref p) H) (q2:∀p',H p'=none->Q (.ref p') (upd H p' (.tup (Ev.rep k.toNat vs)))) :
  wpAny (model X.prog X.w) X.A (binaryOp .Mult (.ref p) (.int k u)) (EP X pins σ Q) X.xe s:=by
 obtain⟨us,pv,pt,hz⟩:=I.tuple hp;obtain⟨⟨cls,dd,data,sl⟩,ho,hc,n,hd⟩:=id pt;simp only at hc hd;subst hc hd;have hl:=pv.length;have h1:¬ (decide (k < -2 ^ 63) ||decide (k≥2 ^ 63))=true:=by simp;omega
 refine wpAny_binaryOp_repeat_ref (T:="tuple") (U:="int") (by decide) ⟨_,ho,rfl⟩ (λs'=>typeIs_int s' k u) oO PySem.F.fills_int_mul PySem.F.slot_int_rmul ux PySem.F.slot_int_index.lookup
  (call_meets PySem.F.slot_int_rmul (typeIs_int s k u) PySem.F.entry_int_rmul (PySem.F.args_int_rmul_2 _ _) (yQ k u p us.toArray n dd sl) ⟨ho,rfl,⟨_,ho,rfl⟩,?_⟩)
 have hrep:∀m:Nat,(Ev.rep m us).length=m*us.length:=λm=>nv m us;by_cases h3:(us.toArray.isEmpty ||k==1)=true
 .refine call_meets PySem.F.slot_tuple_mul ⟨_,ho,rfl⟩ PySem.F.entry_tuple_mul (PySem.F.args_tuple_mul_2 _ _) (yR p us.toArray n dd sl k u h1 h3) ⟨ho,?_⟩;refine⟨.ref p,H,I,rfl,q1 ?_⟩;rw[Bool.or_eq_true]at h3;rcases h3 with h3|h3
  .have:us=[]:=by simpa using h3
   subst this;cases pv;simp[Ev.rep]
  .have:k=1:=by simpa using h3
   subst this;simp[Ev.rep]
 .have laid:∀m:Nat,m=k.toNat->EP X pins σ Q (.ref s.heap.objs.size) { s with heap:=s.heap.push { cls:=.type "tuple",data:=.seq (Ev.rep m us).toArray }}:=λm hm=>by
   subst hm;refine⟨.ref s.heap.objs.size,_,I.laid (t':=s.toks) (o:=.tup (Ev.rep k.toNat vs)) (λb ob q=>Heap.get?_push_of_some _ q) (Nat.le_refl _) ?_,rfl,q2 _ (I.hok.fresh (Nat.le_refl _))⟩;exact⟨by rw[nv];exact jV (by omega) hk.2.2,_,pv.rep k.toNat,IsTup.new _ _⟩
  by_cases h4:(decide (k<=0) ||us.toArray.isEmpty)=true
  .refine call_meets PySem.F.slot_tuple_mul ⟨_,ho,rfl⟩ PySem.F.entry_tuple_mul (PySem.F.args_tuple_mul_2 _ _) (yS p us.toArray n dd sl k u h1 h3 h4) ⟨ho,?_⟩;have hk0:k=0:=by
    rw[Bool.or_eq_true]at h4 h3;rcases h4 with h4|h4
    .have:k<=0:=of_decide_eq_true h4;omega
    .exact absurd (.inl h4) h3
   have:=laid 0 (by rw[hk0];rfl);exact this
  .have hm:us.toArray.size*k.toNat<=1000000:=by
    rw[List.size_toArray];exact Nat.mul_le_mul (by omega:us.length<=1000) (by omega:k.toNat<=1000)
   have hm':(us.toArray.size:Int)*k<=1000000:=by
    have e:(us.toArray.size:Int)*k=((us.toArray.size*k.toNat:Nat):Int):=by
     rw[Int.natCast_mul,Int.toNat_of_nonneg hk.1]
    rw[e];omega
   have hf:List.foldl (λx1 x2=>x1++x2) #[] (List.replicate k.toNat us.toArray)=(Ev.rep k.toNat us).toArray:=by
    have:=rT k.toNat us [];simpa using this
   refine call_meets PySem.F.slot_tuple_mul ⟨_,ho,rfl⟩ PySem.F.entry_tuple_mul (PySem.F.args_tuple_mul_2 _ _) (yT p us.toArray n dd sl k u h1 h3 h4 (by omega) ?_ ?_) ⟨ho,?_⟩
   .unfold Builtin.Tuple.tupleTooMany;simp only[decide_eq_true_eq];have:(sizeLine:Int)=16777216:=by rw[sizeLine_eq];rfl
    omega
   .rw[hf];simp only[List.size_toArray];rw[nv];exact jV (by omega) (by omega)
   .rw[hf];exact laid _ rfl
theorem KL:dh X (binaryOp .Mult) (g8 X.K (Ev.bK .mul)):=by
 intro pins s σ H x y v u Q I rx ry q;obtain⟨r,h,a,b,d,h',hr,v1,v2,e,q⟩:=q;cases b with
 |int k=>
  have s2:=v2.shape;simp only[bY]at s2;subst s2;cases a with
  |int i=>
   delta Ev.bK at e;dsimp only at e
   split at e
   .rename_i hz;cases e;refine Jd pins s σ H x _ v u Q I rx ry ⟨i,k,v1,rfl,?_,q.here rfl hr⟩;unfold Ev.cj at hz;simp only[Bool.or_eq_true,Bool.and_eq_true,decide_eq_true_eq]at hz;exact hz
   .cases e
  |str l=>
   delta Ev.bK at e;dsimp only at e
   split at e
   .rename_i hz;cases e;simp only[RV]at v1;obtain⟨rfl,hl⟩:=v1;obtain⟨t,rfl⟩:=rx;obtain⟨t',rfl⟩:=ry;exact G1 I hz (q.here ⟨rfl,by rw[nv];exact jV (by omega) hz.2.2⟩ hr)
   .cases e
  |tup ds=>
   delta Ev.bK at e;dsimp only at e
   split at e
   .rename_i hz;cases e;obtain⟨p,vs,rfl,z,w⟩:=v1.shape;cases rx;obtain⟨t',rfl⟩:=ry;refine G2 I ⟨hz.1,hz.2.1,by rw[w.length];exact hz.2.2⟩ z (λUN=>q.here ⟨p,vs,rfl,z,?_⟩ hr) λp' hp=>q.tup (w.rep k.toNat) hr hp;have:=w.rep k.toNat;rw[UN]at this;exact this
   .cases e
  |ref i=>
   delta Ev.bK at e;dsimp only at e
   split at e
   .rename_i ds e1;split at e
    .rename_i hz;obtain⟨p,rfl,z⟩:=v1.shape;obtain⟨p',g1,vs,g2,g3⟩:=hr.ob _ _ e1;rw[z]at g1;cases g1;obtain⟨hz2,q2⟩:=q.lst e (g3.rep k.toNat) hr;exact Jv pins s σ H (.ref p) _ v u Q I rx ry ⟨p,k,vs,rfl,rfl,g2,by omega,by omega,jV (by rw[g3.length];exact hz.2.2) (by omega),q2⟩
    .cases e
   .cases e
  |_=>cases e
 |_=>cases a<;>cases e
end
end Sm
set_option maxRecDepth 100000
namespace Sm
open PySem PySem.Spec PyProof.Rows L2 PySem.SeqAt
open Ev (D O Hh Fr R aM E Es Eo T S Ss Fl Src bO bJ TY BI ME)
section
variable{X:Cx}
theorem uy{K:PySem.W.Frag}{H:Hp}{r:List Addr}:∀{ds:List D}{bs:List Bool}{vs:List V}{us:List Value},Ev.boolsOf ds=some bs->aD K H r ds vs->Vals vs us->us=bs.map Value.bool
 |[],bs,vs,us,e,w,p=>by
  cases e;simp only[aD]at w;subst w;cases p;rfl
 |d :: ds,bs,vs,us,e,w,p=>by
  cases d with
  |bl b=>
   simp only[Ev.boolsOf,Option.map_eq_some_iff]at e;obtain⟨bs',e1,rfl⟩:=e;simp only[aD,RV]at w;obtain⟨v,w',rfl,rfl,w2⟩:=w;cases p with
   |cons p1 p2=>
    cases p1;rw[uy e1 w2 p2];rfl
  |_=>cases e
theorem xx{K:PySem.W.Frag}{H:Hp}{r:List Addr}:∀{ds:List D}{is:List Int}{vs:List V}{us:List Value},Ev.intsOf ds=some is->aD K H r ds vs->Vals vs us->IntsAre us is
 |[],bs,vs,us,e,w,p=>by
  cases e;simp only[aD]at w;subst w;cases p;exact .nil
 |d :: ds,bs,vs,us,e,w,p=>by
  cases d with
  |int b=>
   simp only[Ev.intsOf,Option.map_eq_some_iff]at e;obtain⟨bs',e1,rfl⟩:=e;simp only[aD,RV]at w;obtain⟨v,w',rfl,rfl,w2⟩:=w;cases p with
   |cons p1 p2=>
    obtain⟨t,rfl⟩:=p1;exact .cons _ _ (xx e1 w2 p2)
  |_=>cases e
theorem xy{K:PySem.W.Frag}{H:Hp}{r:List Addr}:∀{ds:List D}{ss:List (List Nat)}{vs:List V}{us:List Value},Ev.strsOf ds=some ss->aD K H r ds vs->Vals vs us->StrsAre us (ss.map aT)/\∀l∈ss,l.length<=sizeLine
 |[],bs,vs,us,e,w,p=>by
  cases e;simp only[aD]at w;subst w;cases p;exact⟨.nil,λl h=>nomatch h⟩
 |d :: ds,bs,vs,us,e,w,p=>by
  cases d with
  |str b=>
   simp only[Ev.strsOf,Option.map_eq_some_iff]at e;obtain⟨bs',e1,rfl⟩:=e;simp only[aD,RV]at w;obtain⟨v,w',rfl,⟨rfl,hb⟩,w2⟩:=w;cases p with
   |cons p1 p2=>
    obtain⟨t,rfl⟩:=p1;obtain⟨g1,g2⟩:=xy e1 w2 p2;refine⟨.cons _ _ g1,λl hl=>?_⟩;rcases List.mem_cons.mp hl with z|z
    .subst z;exact hb
    .exact g2 l z
  |_=>cases e
theorem rW{A:Around}{pins:List (Addr×Obj)}{σ:L2.St}{H:Hp}{s:Shared}(I:Inv X pins σ H s){p:Addr}{us:List Value}(pl:PlainL s.heap p us.toArray){Q:Value->Shared->Prop}{E:Value->Shared->Prop}
  (h:∀s₂:Shared,s₂={ s with heap:=s.heap.push { cls:=.type "list_iterator",data:=.fields #[.ref p,.int 0 0]}}->(s₂.heap.IsListIter s.heap.objs.size p 0/\s₂.heap.IsList p us.toArray)->p≠s.heap.objs.size->(∀b∈[s.heap.objs.size,p],b<s₂.heap.objs.size)->Q (.ref s.heap.objs.size) s₂) :
  wpAny (model X.prog X.w) A (pyIter (.ref p)) Q E s:=by
 have hlt:p<s.heap.objs.size:=by obtain⟨_,e,_⟩:=pl.isList;exact Heap.lt_size e
 refine wpAny_pyIter_list pl.isList (h _ rfl ⟨⟨_,Heap.get?_push_size _ rfl,rfl,rfl⟩,pl.isList.push _⟩ (Nat.ne_of_lt hlt) λb hb=>?_);show b<(s.heap.push _).objs.size;rw[Heap.size_push];rcases List.mem_cons.mp hb with z|z
 .rw[z];exact Nat.lt_succ_self _
 .rw[List.mem_singleton.mp z];exact Nat.lt_succ_of_lt hlt
theorem all_range{bs:List Bool}:(List.range bs.length).all (λi=>bs[i]?.getD true)=bs.all id:=by
 rw[Bool.eq_iff_iff,List.all_eq_true,List.all_eq_true];constructor
 .intro h b hb;obtain⟨i,hi,rfl⟩:=List.getElem_of_mem hb;simpa[hi]using h i (List.mem_range.mpr hi)
 .intro h i hi;have hi':=List.mem_range.mp hi;simpa[hi']using h bs[i] (by simp)
theorem any_range{bs:List Bool}:(List.range bs.length).any (λi=>bs[i]?.getD true)=bs.any id:=by
 rw[Bool.eq_iff_iff,List.any_eq_true,List.any_eq_true];constructor
 .rintro⟨i,hi,h⟩;have hi':=List.mem_range.mp hi;exact⟨bs[i],by simp,by simpa[hi']using h⟩
 .rintro⟨b,hb,h⟩;obtain⟨i,hi,rfl⟩:=List.getElem_of_mem hb;exact⟨i,List.mem_range.mpr hi,by simpa[hi]using h⟩
theorem rY {s s₂:Shared}{I p:Addr}{h':Heap}(e:s₂.heap=s.heap.push { cls:=.type "list_iterator",data:=.fields #[.ref p,.int 0 0]}) (hI:I=s.heap.objs.size) (hk:∀b o,b∉[I]->s₂.heap.get? b=some o->h'.get? b=some o) :
  ∀b o,s.heap.get? b=some o->h'.get? b=some o:=λb o q=>hk b o (by simp;rw[hI];exact Nat.ne_of_lt (Heap.lt_size q)) (by rw[e];exact Heap.get?_push_of_some _ q)
variable{G:Tb}{n:Nat}{sc:Scope}{N:List Str}{df:Bool}
theorem Df(g:Good G n sc N df X){pins:List (Addr×Obj)}{σ:L2.St}{H:Hp}{s:Shared}(I:Inv X pins σ H s){p:Addr}{bs:List Bool}(pl:PlainL s.heap p (bs.map Value.bool).toArray){Q:VK} :
  (Q (.bl (bs.all id)) H->wpAny (model X.prog X.w) X.A (call (.builtin "all") [.ref p]) (EP X pins σ Q) X.xe s)/\(Q (.bl (bs.any id)) H->wpAny (model X.prog X.w) X.A (call (.builtin "any") [.ref p]) (EP X pins σ Q) X.xe s):=by
 have hh:=I.ok.hd g.calm;have tr:TruthOf X.prog X.w X.A.in1 (λi v=>(bs.map Value.bool).toArray[i]?=some v) (λi=>bs[i]?.getD true):=λi v s' Q' E' hP hQ=>by
  simp only[List.getElem?_toArray,List.getElem?_map,Option.map_eq_some_iff]at hP;obtain⟨b,hb,rfl⟩:=hP;have Qj:Q' (bs[i]?.getD true) s':=hQ;rw[hb]at Qj;exact wpAny_truthy_bool Qj
 have hsz:(bs.map Value.bool).toArray.size=bs.length:=by simp
 constructor
 .intro q;refine call_all_walk (rW I pl λs₂ e st hne hfp=>?_);subst e;refine⟨_,_,_,_,_,_,_,rfl,Walks.list (A:=X.A.in1) hh _ p hne (bs.map Value.bool).toArray,st,tr,λh' tk hk=>?_⟩;rw[hsz,all_range];exact⟨.bl _,H,I.kept (rY rfl rfl hk),rfl,q⟩
 .intro q;refine call_any_walk (rW I pl λs₂ e st hne hfp=>?_);subst e;refine⟨_,_,_,_,_,_,_,rfl,Walks.list (A:=X.A.in1) hh _ p hne (bs.map Value.bool).toArray,st,tr,λh' tk hk=>?_⟩;rw[hsz,any_range];exact⟨.bl _,H,I.kept (rY rfl rfl hk),rfl,q⟩
theorem KN (g:Good G n sc N df X):fK X (.builtin "all") (o9 X.K (Ev.cC .all)):=by
 intro pins s σ H xs us Q I r q;obtain⟨rr,h,as,d,h',hr,v1,e,q⟩:=q
 match as,e with
 |[.ref m],e=>
  obtain⟨e,rfl⟩:=Ev.aC e;simp only[Option.map_eq_some_iff,Option.bind_eq_some_iff]at e;obtain⟨bs,⟨ds,e1,e2⟩,rfl⟩:=e;simp only[aD,RV]at v1;obtain⟨v,w,rfl,⟨p,rfl,z⟩,rfl⟩:=v1;obtain⟨u,rfl,ru⟩:=vals1 r;cases ru;obtain⟨p',vs,z',q1,w⟩:=hr.read e1;rw[z]at z';cases z';obtain⟨zs,pv,pl,_⟩:=I.list q1;have:=uy e2 w pv;subst this;exact(Df g I pl).1 (q.here rfl hr)
theorem KO (g:Good G n sc N df X):fK X (.builtin "sum") (o9 X.K (Ev.cC .sum)):=by
 intro pins s σ H xs us Q I r q;obtain⟨rr,h,as,d,h',hr,v1,e,q⟩:=q
 match as,e with
 |[.ref m],e=>
  obtain⟨e,rfl⟩:=Ev.aC e;simp only[Option.map_eq_some_iff,Option.bind_eq_some_iff]at e;obtain⟨is,⟨ds,e1,e2⟩,rfl⟩:=e;simp only[aD,RV]at v1;obtain⟨v,w,rfl,⟨p,rfl,z⟩,rfl⟩:=v1;obtain⟨u,rfl,ru⟩:=vals1 r;cases ru;obtain⟨p',vs,z',q1,w⟩:=hr.read e1;rw[z]at z';cases z';obtain⟨zs,pv,pl,_⟩:=I.list q1;have hi:=xx e2 w pv;obtain⟨ys,hys⟩:=(hi.allInts).items;have hl:s.heap.IsList p (intItems ys):=by rw[<-hys];exact pl.isList
  refine sum_intListG (I.ok.hd g.calm) hl λh'' tk t' hk=>?_;have hsum:preSum (numAt ys) ys.size=is.sum:=by
   have h1:numsOf zs.toArray.toList=is:=by rw[show zs.toArray.toList=zs from rfl];exact hi.numsOf
   rw[hys,nums_intItems]at h1;rw[preSum_eq,List.take_of_length_le (by simp),h1]
  rw[hsum];exact⟨.int is.sum,H,I.kept hk,⟨_,rfl⟩,q.here rfl hr⟩
theorem KP:fK X (.builtin "len") (o9 X.K (Ev.cC .len)):=by
 intro pins s σ H xs us Q I r q;obtain⟨rr,h,as,d,h',hr,v1,e,q⟩:=q
 match as,e with
 |[.str l],e=>
  delta Ev.cC at e;dsimp only at e
  split at e
  .cases e;simp only[aD,RV]at v1;obtain⟨v,w,rfl,⟨rfl,hl⟩,rfl⟩:=v1;refine tW pins s σ H _ us Q I r ⟨_,rfl,by rw[cO];exact hl,?_⟩;rw[cO];exact q.here rfl hr
  .cases e
 |[.tup ds],e=>
  cases e;simp only[aD,RV]at v1;obtain⟨v,w,rfl,⟨p,vs,rfl,z,w'⟩,rfl⟩:=v1;refine mC pins s σ H _ us Q I r ⟨p,vs,rfl,.inr z,?_⟩;rw[w'.length];exact q.here rfl hr
 |[.ref m],e=>
  obtain⟨e,rfl⟩:=Ev.aC e;simp only[Option.map_eq_some_iff]at e;obtain⟨ds,e1,rfl⟩:=e;simp only[aD,RV]at v1;obtain⟨v,w,rfl,⟨p,rfl,z⟩,rfl⟩:=v1;obtain⟨p',vs,z',q1,w⟩:=hr.read e1;rw[z]at z';cases z';refine mC pins s σ H _ us Q I r ⟨p,vs,rfl,.inl q1,?_⟩;rw[w.length];exact q.here rfl hr
theorem KQ (g:Good G n sc N df X):fK X (.builtin "min") (o9 X.K (Ev.cC .min)):=by
 intro pins s σ H xs us Q I r q;obtain⟨rr,h,as,d,h',hr,v1,e,q⟩:=q
 match as,e with
 |[.int i,.int j],e=>
  cases e;simp only[aD,RV]at v1;obtain⟨v,w,rfl,rfl,v',w',rfl,rfl,rfl⟩:=v1;exact Ar g.calm pins s σ H _ us Q I r ⟨i,j,rfl,q.here rfl hr⟩
theorem G3:fK X (.type "int") (o9 X.K (Ev.cC .kh)):=by
 intro pins s σ H xs us Q I r q;obtain⟨rr,h,as,d,h',hr,v1,e,q⟩:=q
 match as,e with
 |[.bl b],e=>
  cases e;simp only[aD,RV]at v1;obtain⟨v,w,rfl,rfl,rfl⟩:=v1;obtain⟨u,rfl,r1⟩:=vals1 r;cases (show u=Value.bool b from r1);exact call_int_bool ⟨.int (if b then 1 else 0),H,I.tok _,⟨_,rfl⟩,q.here rfl hr⟩
theorem Bb:rA X "list.append" (ud X.K (Ev.eZ .append)):=by
 intro pins s σ H x xs v us Q I rx rs q;obtain⟨r,h,a,as,d,h',hr,v1,v2,e,q⟩:=q;cases a with
 |ref m=>
  match as,e with
  |[b],e=>
   delta Ev.eZ at e;dsimp only at e
   split at e
   .rename_i ds e1;split at e
    .rename_i hz;cases e;rw[iS]at hz;obtain⟨p,rfl,z⟩:=v1.shape;simp only[aD]at v2;obtain⟨y,w,rfl,v3,rfl⟩:=v2;obtain⟨p',g1,vs,g2,g3⟩:=hr.ob _ _ e1;rw[z]at g1;cases g1;refine rB pins s σ H _ _ v us Q I rx rs ⟨p,vs,y,rfl,rfl,g2,by rw[g3.length];exact hz,?_⟩;have f:=Fm.write (K:=X.K) (ws:=vs++[y]) g2 (List.mem_of_getElem? z);exact q _ _ r rfl (hr.write e1 z g2 (g3.append (.cons v3 .nil))) f
    .cases e
   .cases e
  |[],e=>cases e
  |_ :: _ :: _,e=>cases e
 |_=>cases e
theorem Bc:rA X "list.extend" (ud X.K (Ev.eZ .extend)):=by
 intro pins s σ H x xs v us Q I rx rs q;obtain⟨r,h,a,as,d,h',hr,v1,v2,e,q⟩:=q;cases a with
 |ref m=>
  match as,e with
  |[.ref k],e=>
   delta Ev.eZ at e;dsimp only at e
   split at e
   .rename_i ds es e1 e2;split at e
    .rename_i hz;cases e;rw[iS]at hz;obtain⟨p,rfl,z⟩:=v1.shape;simp only[aD,RV]at v2;obtain⟨y,w,rfl,⟨p2,rfl,z2⟩,rfl⟩:=v2;obtain⟨p',g1,vs,g2,g3⟩:=hr.ob _ _ e1;rw[z]at g1;cases g1;obtain⟨p'',k1,ws,k2,k3⟩:=hr.ob _ _ e2;rw[z2]at k1;cases k1;refine Ay pins s σ H _ _ v us Q I rx rs ⟨p,p2,vs,ws,rfl,rfl,g2,k2,by rw[g3.length,k3.length];exact hz,?_⟩;have f:=Fm.write (K:=X.K) (ws:=vs++ws) g2 (List.mem_of_getElem? z);exact q _ _ r rfl (hr.write e1 z g2 (g3.append k3)) f
    .cases e
   .cases e
 |_=>cases e
theorem KR:rA X "list.pop" (ud X.K (Ev.eZ .pop)):=by
 intro pins s σ H x xs v us Q I rx rs q;obtain⟨r,h,a,as,d,h',hr,v1,v2,e,q⟩:=q;cases a with
 |ref m=>
  match as,e with
  |[],e=>
   delta Ev.eZ at e;dsimp only at e
   split at e
   .rename_i ds e1;split at e
    .rename_i y e2;cases e;obtain⟨p,rfl,z⟩:=v1.shape;simp only[aD]at v2;subst v2;obtain⟨p',g1,vs,g2,g3⟩:=hr.ob _ _ e1;rw[z]at g1;cases g1;obtain⟨vy,g4,g5⟩:=g3.get e2;refine Jt pins s σ H _ _ v us Q I rx rs ⟨p,vs,vy,rfl,rfl,g2,by rw[g3.length];exact g4,?_⟩;have f:=Fm.write (K:=X.K) (ws:=vs.dropLast) g2 (List.mem_of_getElem? z);have hd:aD X.K H r ds.dropLast vs.dropLast:=by
      rw[List.dropLast_eq_take,List.dropLast_eq_take,g3.length];exact g3.take _
     exact q _ _ r (g5.mono f) (hr.write e1 z g2 hd) f
    .cases e
   .cases e
  |_ :: _,e=>cases e
 |_=>cases e
theorem oQ(sep:List Nat):∀ss:List (List Nat),Str.join (aT sep) (ss.map aT)=aT (Ev.cI sep ss)
 |[]=>rfl
 |[s]=>rfl
 |s :: t :: r=>by
  have ih:=oQ sep (t :: r);show aT s++aT sep++Str.join (aT sep) ((t :: r).map aT)=_;rw[ih,qE,qE];rfl
theorem join_eq(sep:List Nat)(ss:List (List Nat)):Txt.join (aT sep) (ss.map aT)=aT (Ev.cI sep ss):=by
 rw[<-oQ];exact PySem.StrLaws.glued_eq_join _ _
theorem G4:rA X "str.join" (ud X.K (Ev.eZ .join)):=by
 intro pins s σ H x xs v us Q I rx rs q;obtain⟨r,h,a,as,d,h',hr,v1,v2,e,q⟩:=q;cases a with
 |str sep=>
  match as,e with
  |[.ref k],e=>
   delta Ev.eZ at e;dsimp only at e
   split at e
   .rename_i ss e1;split at e
    .rename_i hz;cases e;simp only[Option.bind_eq_some_iff]at e1;obtain⟨ds,e1,e2⟩:=e1;simp only[RV]at v1;obtain⟨rfl,hl⟩:=v1;obtain⟨t,rfl⟩:=rx;simp only[aD,RV]at v2;obtain⟨y,w,rfl,⟨p2,rfl,z2⟩,rfl⟩:=v2;obtain⟨u,rfl,ru⟩:=vals1 rs;cases ru;obtain⟨p',vs,z',q1,w⟩:=hr.read e1;rw[z2]at z';cases z';obtain⟨zs,pv,pl,_⟩:=I.list q1;obtain⟨g1,g2⟩:=xy e2 w pv;have hlen:((ss.map aT).map (·.length)).sum+(ss.map aT).length*(aT sep).length<=16777216:=by
      rw[List.map_map,List.length_map,cO];have:(λx:Str=>x.length) ∘ aT=λl:List Nat=>l.length:=funext λl=>cO l;rw[this];exact hz
     refine join_list pl.isList g1 hlen λt' k'=>?_;rw[join_eq];refine⟨.str _,H,I.tok _,⟨_,rfl⟩,q.here ⟨rfl,?_⟩ hr⟩;have hj:=PySem.StrLaws.join_length_le (aT sep) (ss.map aT);rw[oQ,cO]at hj;have:sizeLine=16777216:=sizeLine_eq;omega
    .cases e
   .cases e
 |_=>cases e
end
end Sm
set_option maxRecDepth 100000
namespace Sm
open PySem PySem.Spec PyProof.Rows L2 PySem.SeqAt
open Ev (D O Hh Fr R aM E Es Eo T S Ss Fl Src bO bJ TY BI ME)
section
variable{X:Cx}{G:Tb}{n:Nat}{sc:Scope}{N:List Str}{df:Bool}{m:List Nat}{a b c:E}{xa xb xc tg:Expr}{pos:Pos}
end
end Sm
set_option maxRecDepth 100000
namespace Sm
open PySem PySem.Spec PyProof.Rows L2 PySem.SeqAt
open Ev (D O Hh Fr R aM E Es Eo T S Ss Fl Src bO bJ TY BI ME)
section
variable{X:Cx}{G:Tb}{n:Nat}{sc:Scope}{N:List Str}{df:Bool}{m:List Nat}{a b c:E}{xa xb xc tg:Expr}{pos:Pos}
theorem Bd(n:Nat):Builtin.Slice.sliceAdjust none none (-1) (n:Int)=((n:Int) - 1,-1):=by
 unfold Builtin.Slice.sliceAdjust;simp
theorem Be(n:Nat):Builtin.Slice.slicePlaces ((n:Int) - 1) (-1) (-1)=n:=by
 unfold Builtin.Slice.slicePlaces;have h1:¬ ((-1:Int) > 0):=by omega
 simp only[h1,if_false];have h2:(- -1:Int)=1:=by omega
 rw[h2];simp only[Int.ediv_one];split<;>omega
theorem pD{prog:Program}{w:World}{A:Around}{E:Value->Shared->Prop}{s:Shared}{sl:Addr}{vk:Value}{n:Nat}{Q:Int×Int×Nat->Shared->Prop}(hs:s.heap.IsSliceOf sl .none .none vk)(pk:IsPart vk (some (-1)))
  (h:Q ((n:Int) - 1,-1,n) s):wpAny (model prog w) A (Builtin.Slice.sliceApplied (.ref sl) (pure (n:Int))) Q E s:=by
 obtain⟨os,hos,hcs,hds⟩:=id hs;unfold Builtin.Slice.sliceApplied Builtin.Slice.sliceFields;refine wpAny_bind (wpAny_bind (wpAny_field hos hds (x:=.none) rfl (wpAny_bind (wpAny_field hos hds (x:=.none) rfl (wpAny_bind (wpAny_field hos hds (x:=vk) rfl (wpAny_pure ?_)))))));refine wpAny_bind (HT.gX pk ?_);show wpAny _ _ (if ((-1:Int)==0)=true then _ else _) _ _ s;rw[if_neg (by decide)];refine wpAny_bind (HT.gX .none (wpAny_bind (HT.gX .none (wpAny_bind (wpAny_pure ?_)))));show wpAny _ _ (match Builtin.Slice.sliceAdjust none none (-1) (n:Int)with | (lo,hi)=>pure (lo,(-1:Int),Builtin.Slice.slicePlaces lo hi (-1))) _ _ s;rw[Bd n];show wpAny _ _ (pure ((n:Int) - 1,(-1:Int),Builtin.Slice.slicePlaces ((n:Int) - 1) (-1) (-1))) _ _ s;rw[Be];exact wpAny_pure h
theorem G5(xs:Array Value):((List.range xs.size).filterMap λ(m:Nat)=>xs[((xs.size:Int) - 1+(m:Int)*(-1)).toNat]?).toArray=xs.toList.reverse.toArray:=by
 have e:(List.range xs.size).filterMap (λ(m:Nat)=>xs[((xs.size:Int) - 1+(m:Int)*(-1)).toNat]?)=((List.range xs.size).map (λk=>xs.size - 1 - k)).filterMap (xs[·]?):=by
  rw[List.filterMap_map];have go:∀l:List Nat,(∀k∈l,k<xs.size)->l.filterMap (λ(m:Nat)=>xs[((xs.size:Int) - 1+(m:Int)*(-1)).toNat]?)=l.filterMap ((xs[·]?) ∘ λk=>xs.size - 1 - k):=by
   intro l hl;induction l with
   |nil=>rfl
   |cons k l ih=>
    have hk:=hl k (by simp);have e2:((xs.size:Int) - 1+(k:Int)*(-1)).toNat=xs.size - 1 - k:=by omega
    rw[List.filterMap_cons,List.filterMap_cons,e2,ih λk' h'=>hl k' (by simp[h'])];rfl
  exact go _ λk hk=>List.mem_range.mp hk
 rw[e,PySem.W.krv_range,List.filterMap_reverse,PySem.W.krv_all]
theorem yU{prog:Program}{w:World}{A:Around}{E:Value->Shared->Prop}{s:Shared}{t sl:Addr}{items:Array Value}{vk:Value}{Q:Value->Shared->Prop}(ht:IsTup s.heap t items)(hs:s.heap.IsSliceOf sl .none .none vk)(pk:IsPart vk (some (-1)))
  (h:Q (.ref s.heap.objs.size) { s with heap:=s.heap.push { cls:=.type "tuple",data:=.seq items.toList.reverse.toArray }})
  (hsz:items.size<=sizeLine):wpAny (model prog w) A (getItem (.ref t) (.ref sl)) Q E s:=by
 have ji:sizeOk (.seq items.toList.reverse.toArray):=by
  show items.toList.reverse.toArray.size<=sizeLine;rw[List.size_toArray,List.length_reverse,Array.length_toList];exact hsz
 obtain⟨os,hos,hcs,hds⟩:=id hs;have Av:s.TypeIs (.ref sl) "slice" :=⟨os,hos,hcs⟩
 unfold getItem;try with_reducible refine wpAny_holding ?_
 first|refine wpAny_bind (wpAny_pure ?_)|skip
 refine wpAny_bind (wpAny_sequenceKey ht.typeIs (by decide) ?_);refine wpAny_bind (wpAny_callSpecial?_slot (name:=Str.ofString "__getitem__") ht.typeIs PyProof.Rows.slot_tuple_getitem
  (wpAny_call_entry PyProof.Rows.slot_tuple_getitem ht.typeIs entry_tuple_getitem ?_ (args_tuple_getitem _ _)))
 show wpAny _ _ (Builtin.Tuple.tupleItemsOf (.ref t) >>= _) _ _ s;refine wpAny_bind (tupleItemsOf_ ht ?_);refine wpAny_bind (wpAny_typeOf Av ?_);rw[if_pos (by decide)];refine wpAny_bind (pD hs pk ?_);have hno:¬ (((items.size:Int) - 1==0&&(-1:Int)==1&&items.size==items.size)=true):=by simp
 show wpAny _ _ (if ((items.size:Int) - 1==0&&(-1:Int)==1&&items.size==items.size)=true then _ else _) _ _ s;rw[if_neg hno,G5];first
  |exact wpAny_bind (m:=Builtin.Tuple.tupleExact _) (wpAny_newObj_type (wpAny_pure ⟨_,rfl,wpAny_pure h⟩) ji)
  |exact wpAny_bind (m:=Builtin.Tuple.tupleExact _) (wpAny_newObj_type (wpAny_bind (wpAny_pure (wpAny_pure ⟨_,rfl,wpAny_pure h⟩))) ji)
  |exact wpAny_bind (wpAny_bind (m:=Builtin.Tuple.tupleExact _) (wpAny_newObj_type (wpAny_pure (wpAny_pure ⟨_,rfl,wpAny_pure h⟩)) ji))
  |exact wpAny_bind (wpAny_bind (m:=Builtin.Tuple.tupleExact _) (wpAny_newObj_type (wpAny_pure ⟨_,rfl,wpAny_pure h⟩) ji))
theorem Vals.reverse{vs:List V}{us:List Value}(w:Vals vs us):Vals vs.reverse us.reverse:=by
 induction w with
 |nil=>exact .nil
 |cons a _ ih=>rw[List.reverse_cons,List.reverse_cons];exact ih.append (.cons a .nil)
theorem N7{p1 p2 p3:Pos}{j}(ha:JE G n sc N df m a xa):JE G n sc N df m (.rv a) (.Subscript xa (.Slice none none (some (.UnaryOp .USub (.Constant (.int 1) j p1) p2)) p3) pos):=λX g=>by
 intro pins s σ H Q I q;obtain⟨r,fr,h,d,h',sr,hr,e,q⟩:=q;simp only[Ev.ev]at e;obtain⟨x,h1,e1,e⟩:=Ev.ah e;refine Subscript_ (bB (ha X g pins s σ H _ I ⟨r,fr,h,x,h1,sr,hr,e1,λv H1 r1 v1 hr1 f1=>(show(λ(v:V) (H1:Hp)=>∃r1,RV X.K H1 r1 x v/\HR X.K H1 r1 h1/\Fm X.K r r1 H H1) v H1 from ⟨r1,v1,hr1,f1⟩)⟩) λv s1 ⟨x1,H1,I1,rx,r1,v1,hr1,f1⟩=>?_);refine wpAny_Slice ?_;rw[evalPart_none];refine wpAny_pure (wpAny_pure ?_);have hm1:PE X (.UnaryOp .USub (.Constant (.int 1) j p1) p2) (tJ X.K m (Ev.run G.F G.w n) (.neg (.c (.int 1)))):=AI AH X g;refine bB (wK hm1 pins s1 σ H1 (λo H2=>o=some (-1)/\∃r2,RV X.K H2 r2 x x1/\HR X.K H2 r2 h1/\Fm X.K r r2 H H2) I1 ⟨r1,fr,h1,.int (-1),h1,sr.mono f1,hr1,by simp[Ev.ev],λv' H2 r2 v2 hr2 f2=>⟨-1,v2,rfl,r2,v1.mono f2,hr2,f1.trans f2⟩⟩) λvk s2 ⟨o,H2,I2,pk,q2⟩=>?_;obtain⟨rfl,r2,v2,hr2,f2⟩:=q2;have I4:Inv X pins σ H2 { s2 with heap:=s2.heap.push { cls:=.type "slice",data:=.fields #[.none,.none,vk]}}:=I2.kept (t':=s2.toks) λb ob q=>Heap.get?_push_of_some _ q;have hS:({ s2 with heap:=s2.heap.push { cls:=.type "slice",data:=.fields #[.none,.none,vk]}}:Shared).heap.IsSliceOf s2.heap.objs.size .none .none vk:=Heap.IsSliceOf.new s2.heap .none .none vk;have key:∃T id,typeLookup (.type T) "__getitem__" = pure (some (.builtin id))/\({ s2 with heap:=s2.heap.push { cls:=.type "slice",data:=.fields #[.none,.none,vk]}}:Shared).TypeIs v T/\wpAny (model X.prog X.w) X.A (getItem v (.ref s2.heap.objs.size)) (EP X pins σ Q) X.xe { s2 with heap:=s2.heap.push { cls:=.type "slice",data:=.fields #[.none,.none,vk]}}:=by
  revert I4 hS
  generalize ({ s2 with heap:=s2.heap.push { cls:=.type "slice",data:=.fields #[.none,.none,vk]}}:Shared)=s3
  intro I4 hS;cases x with
  |tup ds=>
   cases e;obtain⟨p,vs,rfl,z,w⟩:=v2.shape;cases rx;obtain⟨us,pv,pt,hz⟩:=I4.tuple z;refine⟨"tuple",_,PyProof.Rows.slot_tuple_getitem.lookup,pt.typeIs,?_⟩;refine yU pt hS pk ?_ (by rw[List.size_toArray,<-pv.length];exact hz);refine⟨.ref s3.heap.objs.size,_,I4.laid (t':=s3.toks) (o:=.tup vs.reverse) (λb ob q=>Heap.get?_push_of_some _ q) (Nat.le_refl _) ?_,rfl,(q.later f2).tup w.reverse hr2 (I4.hok.fresh (Nat.le_refl _))⟩;exact⟨by simpa using hz,_,Vals.reverse pv,⟨_,Heap.get?_push_size _ rfl,rfl,0,rfl⟩⟩
  |ref i=>
   simp only[Ev.kD]at e;split at e
   .rename_i ds e2;obtain⟨p,rfl,z⟩:=v2.shape;obtain⟨p',vs,z',q1,w⟩:=hr2.read e2;rw[z]at z';cases z';cases rx;obtain⟨us,pv,pt,hz⟩:=I4.list q1;obtain⟨hz2,q2⟩:=(q.later f2).lst e w.reverse hr2;refine⟨"list",_,slot_list_getitem.lookup,pt.isList.typeIs,?_⟩;refine wpAny_getItem_list_slice pt.isList hS .none .none pk (by simp) ?_ (by rw[List.size_toArray,<-pv.length];exact hz);rw[PySem.W.krv_pick];refine⟨.ref s3.heap.objs.size,_,I4.laid (t':=s3.toks) (o:=.lst vs.reverse) (λb ob q=>Heap.get?_push_of_some _ q) (Nat.le_refl _) ?_,rfl,q2 _ (I4.hok.fresh (Nat.le_refl _))⟩;exact⟨by simpa using hz,_,0,Vals.reverse pv,Heap.get?_push_size _ rfl⟩
   .cases e
  |_=>cases e
 obtain⟨T,id,hT,ht,hg⟩:=key;exact tail_any (ops:=[v,.ref s2.heap.objs.size]) ht hT hg (by with_unfolding_all rfl)
end
end Sm
set_option maxRecDepth 100000
namespace Sm
open PySem PySem.Spec PyProof.Rows L2 PySem.SeqAt
open Ev (D O Hh Fr R aM E Es Eo T S Ss Fl Src bO bJ TY BI ME)
section
variable{G:Tb}{n:Nat}{sc:Scope}{N:List Str}{df:Bool}{m:List Nat}{a b c:E}{xa xb xc tg:Expr}{pos:Pos}
theorem Dg (g:Good G n sc N df X):fK X (.type "tuple") (λxs H Q=>∃r h d x d' h',HR X.K H r h/\RV X.K H r d x/\xs=[x]/\Ev.qw d h=.ok d' h'/\Res X.K r H h' d' Q):=by
 intro pins s σ H xs us Q I rv q;obtain⟨r,h,d,x,d',h',hr,v1,rfl,e,q⟩:=q;cases d with
 |tup ds=>
  cases e;have v2:=v1;obtain⟨p,vs,rfl,z,w⟩:=v1.shape;exact lR pins s σ H _ us Q I rv ⟨p,vs,rfl,.inr ⟨z,q.here v2 hr⟩⟩
 |ref i=>
  simp only[Ev.qw]at e;split at e
  .rename_i ds e1;split at e
   .cases e;obtain⟨p,rfl,z⟩:=v1.shape;obtain⟨p',vs,z',q1,w⟩:=hr.read e1;rw[z]at z';cases z';exact lR pins s σ H _ us Q I rv ⟨p,vs,rfl,.inl ⟨q1,λl hl=>q.tup w hr hl⟩⟩
   .cases e
  .cases e
 |_=>cases e
theorem KS {p:Pos}(ha:JE G n sc N df m a xa) (h1:("tuple" : Str)∈G.bl:=by decide +kernel) (KU:sc.names.lookup ("tuple" : Str)=some .globalImplicit:=by rfl)
  (hst:∀env:Env,starEach [xa] env=[(false,eval xa env)]:=by intro _;rfl):JE G n sc N df m (.iz a) (.Call (.Name "tuple" p) [xa] [] pos):=λX g=>by
 refine PE.of (rq (Dg g) (g.gl KU) (g.bl _ h1) (by decide +kernel) (qo (ha X g) tS (hst _)) (by decide) (by decide) (hst _) rfl) λs H Q q=>?_;obtain⟨r,fr,h,d,h',sr,hr,e,q⟩:=q;simp only[Ev.ev]at e;obtain⟨x,h3,e1,e⟩:=Ev.ah e;refine⟨r,fr,h,x,_,sr,hr,e1,λv H1 r1 v1 hr1 f1=>?_⟩;exact⟨r1,h3,x,v,d,h',hr1,v1,rfl,e,q.later f1⟩
theorem KW{st:Stmt}:JS G n sc N df m .gf st:=λX g=>PS.of Cv λQ s H q=>by
 obtain⟨r,fr,h,fl,aj,h',sr,hr,e,q⟩:=q;simp only[Ev.ex]at e;cases e
end
section
variable{prog:Program}{w:World}{A:Around}{E:Value->Shared->Prop}{s:Shared}
end
end Sm
set_option maxRecDepth 100000
namespace Sm
open PySem PySem.Spec PyProof.Rows L2 PySem.SeqAt
open Ev (D O Hh Fr R aM E Es Eo T S Ss Fl Src bO bJ TY BI ME)
section
variable{G:Tb}{n:Nat}{sc:Scope}{N:List Str}{df:Bool}{m:List Nat}{a b c:E}{xa xb xc:Expr}{pos:Pos}
end
end Sm
set_option maxRecDepth 100000
namespace Sm
open PySem PySem.Spec PyProof.Rows L2 PySem.SeqAt
open Ev (D O Hh Fr R aM E Es Eo T S Ss Fl Src bO bJ TY BI ME)
noncomputable def qF:List (D×D)->Bool
 |[]=>true
 | (.str k,.str v) :: r=>decide (v.length<=1000)&&qF r
 |_=>false
theorem uz{s:List Nat}{r:D}:∀{kvs:List (D×D)},qF kvs=true->Ev.eL (.str s) kvs=some r->∃t,r=.str t/\t.length<=1000/\PySem.Spec.lookup (.str (aT s)) (tabOf kvs)=some (.str (aT t))
 |[],_,e=>by simp[Ev.eL]at e
 | (k,v) :: l,ha,e=>by
  cases k<;>cases v<;>simp only[qF,Bool.false_eq_true,Bool.and_eq_true,decide_eq_true_eq]at ha
  rename_i k v;simp only[Ev.eL]at e;rw[show Ev.gg [] 1 (.str k) (.str s)=some (k==s)from rfl]at e;simp only[tabOf,PySem.Spec.lookup];by_cases h:k=s
  .subst h;simp at e;subst e;refine⟨v,rfl,ha.1,?_⟩;have:PySem.Spec.same (.str (aT k)) (.str (aT k))=true:=by rw[PyProof.V.same_str];simp
   rw[this];rfl
  .have hb:(k==s)=false:=by simpa using h
   rw[hb]at e;simp only at e;obtain⟨t,h1,h2,h3⟩:=uz ha.2 e;refine⟨t,h1,h2,?_⟩;have:PySem.Spec.same (.str (aT k)) (.str (aT s))=false:=by
    rw[PyProof.V.same_str];simp;exact λz=>h (qx z)
   rw[this];exact h3
theorem uA{y r:D}:∀{kvs:List (D×D)},qF kvs=true->Ev.eL y kvs=some r->∃s,y=.str s
 |[],_,e=>by simp[Ev.eL]at e
 | (k,v) :: l,ha,e=>by
  cases k<;>cases v<;>simp only[qF,Bool.false_eq_true,Bool.and_eq_true,decide_eq_true_eq]at ha
  cases y with
  |str s=>exact⟨s,rfl⟩
  |ref a=>cases e
  |_=>first|exact uA ha.2 e|cases e
section
variable{G:Tb}{n:Nat}{sc:Scope}{N:List Str}{df:Bool}{m:List Nat}{a b c:E}{xa xb xc:Expr}{pos:Pos}
theorem G6 {x:Str}{kvs:List (D×D)}{p:Pos}(hm:(x,kvs)∈G.dk) (ha:JE G n sc N df m a xa) (hk:qF kvs=true:=by decide) (hg:sc.names.lookup x=some .globalImplicit:=by rfl) (hd:(x==("__debug__" : Str))=false:=by decide) (hs:qt xa:=by intro _ _;rfl) :
  JE G n sc N df m (.iZ kvs a) (.Subscript (.Name x p) xa pos):=λX g=>by
 intro pins s σ H Q I q;obtain⟨r,fr,h,d,h',sr,hr,e,q⟩:=q;simp only[Ev.ev]at e;replace e:=Ev.ah e;obtain⟨y,h1,e1,e⟩:=e;replace e:=Ev.aC e;obtain⟨e,y0⟩:=e;subst y0;obtain⟨ad,hmg,htab⟩:=g.dk x kvs hm;refine Subscript_ (yl (wF (v:=.ref ad) (g.gl hg) hmg rfl hd) (ha X g) I (R:=λx' y' H2=>x'=.ref ad/\∃r1,RV X.K H2 r1 y y'/\HR X.K H2 r1 h'/\Fm X.K r r1 H H2) ?_ λv u s2 x' y' H2 I2 rx ry z=>?_)
 .refine⟨r,fr,h,y,h',sr,hr,e1,λv H1 r1 v1 hr1 f1=>⟨rfl,r1,v1,hr1,f1⟩⟩
 .obtain⟨rfl,r1,v1,hr1,f1⟩:=z;obtain rfl:v=Value.ref ad:=rx;have hy:∃sx,y=.str sx:=uA hk e;obtain⟨sx,rfl⟩:=hy;obtain⟨t,rfl,ht,hl⟩:=uz hk e;simp only[RV]at v1;obtain⟨rfl,_⟩:=v1;obtain⟨tk,rfl⟩:=ry;refine item_strTab (htab s2.heap I2.qW) hl (λv hv=>?_) (hs _ _);obtain⟨t2,rfl⟩:=PyProof.V.Flat.str_inv hv;exact⟨.str (aT t),H2,I2.tok _,⟨t2,rfl⟩,q _ H2 r1 ⟨rfl,Nat.le_trans ht (by rw[sizeLine_eq];decide)⟩ hr1 f1⟩
end
end Sm
set_option maxRecDepth 100000
namespace Sm
open PySem PySem.Spec PyProof.Rows L2 PySem.SeqAt
open Ev (D O Hh Fr R aM E Es Eo T S Ss Fl Src bO bJ TY BI ME)
section
variable{X:Cx}{G:Tb}{n:Nat}{sc:Scope}{N:List Str}{df:Bool}{m:List Nat}{a b c:E}{xa xb xc xd tg:Expr}{pos:Pos}
end
end Sm
set_option maxRecDepth 100000
namespace Rv
open PySem PyProof.Rows
theorem mJ:Manifest.owners.lookup (String.ofList ['d','e','s','r','e','v','e','r'].reverse)=some Manifest.sig_reversed:=by kernel_rfl
theorem slot_next:Slot "reversed" "__next__" "reversed.__next__" :=
 .of (owner:="reversed") (n:="__next__") (by rw[typeLookup_type,builtinLookup_eq_fast];kernel_rfl) (by decide +kernel) (by decide +kernel) (by decide +kernel)
  (by first|exact .inl (by decide +kernel)|exact .inr (by decide +kernel)) (by rw[isSubtype_type];kernel_rfl)
theorem entry_next:entryFor table "reversed.__next__" = some Builtin.«reversed.__next__»:=entryFor_of_tree (by kernel_rfl)
theorem args_next (a:Value):argsOk "reversed.__next__" ⟨[a],[]⟩:=by
 unfold argsOk;rw[signature?_of (id:="reversed.__next__") (n:=['_','_','t','x','e','n','_','_']) (o:=['d','e','s','r','e','v','e','r']) (by kernel_rfl) mJ];kernel_rfl
theorem rZ:Slot "reversed" "__iter__" "reversed.__iter__" :=
 .of (owner:="reversed") (n:="__iter__") (by rw[typeLookup_type,builtinLookup_eq_fast];kernel_rfl) (by decide +kernel) (by decide +kernel) (by decide +kernel)
  (by first|exact .inl (by decide +kernel)|exact .inr (by decide +kernel)) (by rw[isSubtype_type];kernel_rfl)
theorem Bf (a:Value):argsOk "reversed.__iter__" ⟨[a],[]⟩:=by
 unfold argsOk;rw[signature?_of (id:="reversed.__iter__") (n:=['_','_','r','e','t','i','_','_']) (o:=['d','e','s','r','e','v','e','r']) (by kernel_rfl) mJ];kernel_rfl
theorem yV:entryFor table "reversed.__iter__" = some Builtin.«dict_keyiterator.__iter__»:=
 entryFor_alias (id':="dict_keyiterator.__iter__") (by kernel_rfl) (by first|rfl|decide +kernel | (unfold String.splitOn;simp +decide [String.splitOnAux])) (by decide +kernel) (by kernel_rfl)
theorem mK:Slot "reversed" "__length_hint__" "reversed.__length_hint__" :=
 .of (owner:="reversed") (n:="__length_hint__") (by rw[typeLookup_type,builtinLookup_eq_fast];kernel_rfl) (by decide +kernel) (by decide +kernel) (by decide +kernel)
  (by first|exact .inl (by decide +kernel)|exact .inr (by decide +kernel)) (by rw[isSubtype_type];kernel_rfl)
theorem yW:entryFor table "reversed.__length_hint__" = some Builtin.«reversed.__length_hint__»:=entryFor_of_tree (by kernel_rfl)
theorem Bg (a:Value):argsOk "reversed.__length_hint__" ⟨[a],[]⟩:=by
 unfold argsOk;rw[signature?_of (id:="reversed.__length_hint__") (n:=['_','_','t','n','i','h','_','h','t','g','n','e','l','_','_']) (o:=['d','e','s','r','e','v','e','r']) (by kernel_rfl) mJ];kernel_rfl
theorem KY:typeLookup (.type "reversed") "__len__" = pure none:=by rw[typeLookup_type,builtinLookup_eq_fast];kernel_rfl
theorem KZ:typeLookup (.type "tuple") "__reversed__" = pure none:=by rw[typeLookup_type,builtinLookup_eq_fast];kernel_rfl
section
variable{prog:Program}{w:World}{A:Around}{E:Value->Shared->Prop}{s:Shared}
theorem Bh:Slot "reversed" "__init__" "object.__init__" :=
 .of (owner:="object") (n:="__init__") (by rw[typeLookup_type,builtinLookup_eq_fast];kernel_rfl) (by decide +kernel) (by decide +kernel) (by decide +kernel)
  (by first|exact .inl (by decide +kernel)|exact .inr (by decide +kernel)) (by rw[isSubtype_type];kernel_rfl)
theorem called:TypeCalled "reversed" "reversed.__new__" "object.__init__" :=
 ⟨by decide +kernel,by decide +kernel,⟨_,_,F.mro_reversed⟩,F.made_reversed,by decide +kernel,F.sub_reversed_self,Bh⟩
noncomputable def gh (h:Heap) (a t:Addr) (i:Int):Prop:=∃o,h.get? a=some o/\o.cls=.type "reversed" /\o.data=.fields #[.ref t,rawInt i]
theorem gh.typeIs {a l:Addr}{i:Int}(x:gh s.heap a l i):s.TypeIs (.ref a) "reversed" :=let ⟨o,ho,hc,_⟩:=x;⟨o,ho,hc⟩
theorem gh.at{h h':Heap}{a l:Addr}{i:Int}(x:gh h a l i)(e:∀o,h.get? a=some o->h'.get? a=some o):gh h' a l i:=let ⟨o,ho,r⟩:=x;⟨o,e _ ho,r⟩
noncomputable def ny (l:Addr) (i:Int):Obj:={ cls:=.type "reversed",data:=.fields #[.ref l,rawInt i]}
theorem nA{h h':Heap}{t:Addr}{items:Array Value}(x:IsTup h t items)(e:∀o,h.get? t=some o->h'.get? t=some o):IsTup h' t items:=let ⟨o,ho,r⟩:=x;⟨o,e _ ho,r⟩
theorem Dh{t:Addr}{items:Array Value}{Q₁:Value->Shared->Prop}(ht:IsTup s.heap t items)(hfit:(items.size:Int)<2 ^ 63)
  (h:Q₁ (.ref s.heap.objs.size) { s with heap:=s.heap.push (ny t ((items.size:Int) - 1)),toks:=s.toks+1+1 }) :
  codeAny (model prog w) A (.call (.builtin "reversed.__new__") ⟨[.type "reversed",.ref t],[]⟩) (wants Q₁ E) s:=by
 refine codeAny_of_tree ?_;show wpAny _ A.in1 (do checkBuiltinCall "reversed.__new__" ⟨[.type "reversed",.ref t],[]⟩;again (.builtin "reversed.__new__" ⟨[.type "reversed",.ref t],[]⟩)) _ _ s;refine wpAny_bind (wpAny_of_eq (F.newCall_reversed_1 _) (wpAny_pure ⟨plainId_quiet F.plain_reversed_new _,codeAny_builtin F.entry_reversed_new ?_⟩));rw[Around.under_plainId F.plain_reversed_new _];unfold Builtin.«reversed.__new__»;refine wpAny_bind (wpAny_of_eq (newClass_reversed _) ?_);try dsimp only
 refine wpAny_bind (wpAny_of_eq (a:=()) (by first|rfl|kernel_rfl) ?_);refine wpAny_bind (wpAny_of_eq (a:=()) (by first|rfl|kernel_rfl) ?_);try dsimp only
 refine wpAny_bind (wpAny_specialOf ht.typeIs KZ ?_);try dsimp only
 refine wpAny_bind ?_
 wp_delta
 refine wpAny_bind (wpAny_isInstance (T:="tuple") (b:=false) ht.typeIs (by rw[isSubtype_type];kernel_rfl) ?_);refine wpAny_ite_split (λhab=>absurd hab (by decide)) (λ_=>?_);refine wpAny_bind (wpAny_specialOf ht.typeIs slot_tuple_getitem.lookup ?_);try dsimp only
 refine wpAny_ite_split (λ_=>?_) (λhab=>absurd (by decide) hab);refine wpAny_pure ?_;refine wpAny_ite_split (λhab=>absurd hab (by decide)) (λ_=>?_);refine wpAny_bind (len_tuple ht hfit ?_);refine wpAny_bind (m:=asInt? _) (wpAny_pure ?_);try dsimp only
 refine wpAny_bind (m:=Builtin.SmallTypes.newRecord _ _) ?_;unfold Builtin.SmallTypes.newRecord;refine wpAny_newObj_type ?_ (by size_fits);exact wpAny_pure h
theorem Di{t:Addr}{items:Array Value}{Q:Value->Shared->Prop}(ht:IsTup s.heap t items)(hfit:(items.size:Int)<2 ^ 63)
  (h:Q (.ref s.heap.objs.size) { s with heap:=s.heap.push (ny t ((items.size:Int) - 1)),toks:=s.toks+1+1 }):wpAny (model prog w) A (call (.type "reversed") [.ref t]) Q E s:=by
 refine callType_codes (Q₁:=λobj s₁=>obj=.ref s.heap.objs.size/\s₁={ s with heap:=s.heap.push (ny t ((items.size:Int) - 1)),toks:=s.toks+1+1 }) called (F.typeCall_reversed_1 _) F.entry_object_init (Dh ht hfit ⟨rfl,rfl⟩) ?_;rintro obj s₁ ⟨rfl,rfl⟩;have hT:({ s with heap:=s.heap.push (ny t ((items.size:Int) - 1)),toks:=s.toks+1+1 }:Shared).TypeIs (.ref s.heap.objs.size) "reversed" :=⟨_,Heap.get?_push_size _ rfl,rfl⟩
 refine⟨hT,F.args_object_init_2 _ _,?_⟩;exact object_init_meets (self:=Value.ref s.heap.objs.size) (rest:=[Value.ref t]) called.init.lookup called.made (by decide) prog w A.in1 _ _ ⟨hT,rfl,h⟩
theorem next_item{it t:Addr}{i:Nat}{items:Array Value}{x:Value}{Q:Option Value->Shared->Prop}(hit:gh s.heap it t (i:Int))(ht:IsTup s.heap t items)(hx:items[i]?=some x)(hfit:(items.size:Int)<2 ^ 62)
  (hQ:∀h' tk,gh h' it t ((i:Int) - 1)->Heap.SameBut it s.heap h'->Q (some x) { s with heap:=h',toks:=tk }):wpAny (model prog w) A (pyNext (.ref it)) Q E s:=by
 obtain⟨o,ho,hc,hd⟩:=id hit;have hi:i<items.size:=(Array.getElem?_eq_some_iff.mp hx).1;unfold pyNext;refine wpAny_bind (wpAny_attempt (wpAny_callSpecial?_slot (name:=Str.ofString "__next__") hit.typeIs slot_next
  (wpAny_call_entry slot_next hit.typeIs entry_next ?_ (args_next _))))
 unfold Builtin.«reversed.__next__»;refine wpAny_bind (wpAny_of_eq (a:=(Value.ref it,[])) rfl ?_);try dsimp only
 refine wpAny_bind (wpAny_field ho hd (x:=.ref t) rfl ?_);refine wpAny_bind (wpAny_field ho hd (x:=rawInt (i:Int)) rfl ?_);show wpAny _ _ (if (i:Int)<0 then _ else _) _ _ s;rw[if_neg (by omega)];try dsimp only
 refine wpAny_bind (wpAny_specialOf ht.typeIs slot_tuple_getitem.lookup ?_);try dsimp only
 refine wpAny_ite_split (λhab=>absurd hab (by decide)) (λ_=>?_);refine wpAny_bind (wpAny_mkInt ?_);refine wpAny_bind (wpAny_attempt (getItem_tuple (j:=i) ht (by omega) (by omega) (by unfold seqIndex?;simp;omega) hx ?_));try dsimp only
 refine wpAny_bind (wpAny_field ho hd (x:=rawInt (i:Int)) rfl ?_);show wpAny _ _ (setField (.ref it) 1 (rawInt ((i:Int) - 1)) >>= _) _ _ _;refine wpAny_bind (wpAny_setField ho hd (by simp) ?_);refine wpAny_pure ⟨x,rfl,wpAny_pure (hQ _ _ ?_ (Heap.SameBut.update ..))⟩;exact⟨_,Heap.get?_update_self _ ho (Obj.isFreed_of_fields (Obj.data_mapFields hd _)),(Obj.cls_mapFields ..).trans hc,by
  rw[Obj.data_mapFields hd];simp⟩
theorem next_end{it t:Addr}{Q:Option Value->Shared->Prop}(hh:A.handled=none)(hit:gh s.heap it t (-1))
  (hQ:∀h',Heap.ExtBut it s.heap h'->Q none { s with heap:=h' }):wpAny (model prog w) A (pyNext (.ref it)) Q E s:=by
 obtain⟨o,ho,hc,hd⟩:=id hit;unfold pyNext;refine wpAny_bind (wpAny_attempt (wpAny_callSpecial?_slot (name:=Str.ofString "__next__") hit.typeIs slot_next
  (wpAny_call_entry slot_next hit.typeIs entry_next ?_ (args_next _))))
 unfold Builtin.«reversed.__next__»;refine wpAny_bind (wpAny_of_eq (a:=(Value.ref it,[])) rfl ?_);try dsimp only
 refine wpAny_bind (wpAny_field ho hd (x:=.ref t) rfl ?_);refine wpAny_bind (wpAny_field ho hd (x:=rawInt (-1)) rfl ?_);show wpAny _ _ (if (-1:Int)<0 then _ else _) _ _ s;rw[if_pos (by decide)];refine wpAny_bind (wpAny_rule ?_);refine wpAny_bind ?_
 wp_delta
 refine wpAny_bind (wpAny_setField ho hd (by simp) ?_);have ho2:=Heap.get?_update_self (Obj.mapFields λx=>x.setIfInBounds 1 (rawInt (-1))) ho (Obj.isFreed_of_fields (Obj.data_mapFields hd _));refine wpAny_setField ho2 (Obj.data_mapFields hd _) (by simp) ?_;refine wpAny_bind ?_;unfold Builtin.SmallTypes.stopIteration;first
 |show wpAny _ _ (newExc (.type "StopIteration") [] >>= _) _ _ _
 | (refine wpAny_bind ?_;show wpAny _ _ (newExc (.type "StopIteration") [] >>= _) _ _ _)
 refine wpAny_bind ?_;simp only[newExc,newTuple];refine wpAny_bind (wpAny_newObj_type ?_ (by size_fits));refine wpAny_bind (m:=firstArgMember _ _) (wpAny_of_eq (a:=Value.none) (by first|rfl | (simp only[firstArgMember];rfl)) ?_);refine wpAny_newObj_type ?_ (by size_fits);simp only[raiseNew];refine wpAny_bind (wpAny_handled ?_);first|rw[show A.in1.handled=none from hh]|rw[hh]
 refine wpAny_bind (wpAny_pure (wpAny_throw ?_));refine wpAny_bind (wpAny_isInstance (T:="StopIteration") (b:=true) ⟨_,Heap.get?_push_size _ rfl,rfl⟩ isSubtype_stop ?_);exact wpAny_pure (hQ _ ((((Heap.SameBut.update ..).extBut.trans (Heap.SameBut.update ..).extBut).push _).push _))
theorem uB{it t:Addr}{i:Int}{Q:Value->Shared->Prop}(hit:gh s.heap it t i)(h:Q (.ref it) s):wpAny (model prog w) A (pyIter (.ref it)) Q E s:=by
 refine wpAny_pyIter_slot hit.typeIs rZ (wpAny_call_entry rZ hit.typeIs yV ?_ (Bf _));show wpAny _ _ (ret (.ref it)) _ _ s;exact wpAny_pure ⟨_,rfl,"reversed",_,hit.typeIs,slot_next.lookup,h⟩
theorem Dj{it t:Addr}{items:Array Value}{Q:Bool->Shared->Prop}(hit:gh s.heap it t ((items.size:Int) - 1))(ht:IsTup s.heap t items)(hfit:items.size<=sizeLine)
  (h:∀tk,Q ((items.size:Int) != 0) { s with toks:=tk }):wpAny (model prog w) A (Builtin.List.listLengthHint (.ref it)) Q E s:=by
 obtain⟨o,ho,hc,hd⟩:=id hit;unfold Builtin.List.listLengthHint;refine wpAny_bind (wpAny_specialOf hit.typeIs KY ?_);refine wpAny_ite_split (λhab=>absurd hab (by decide +kernel)) (λ_=>?_);refine wpAny_ite_split (λhab=>absurd hab (by decide)) (λ_=>?_);refine wpAny_bind (wpAny_specialOf hit.typeIs mK.lookup ?_);generalize hid:("reversed.__length_hint__" : String)=UO
 dsimp only;rw[show splitId UO=some ("reversed","__length_hint__")from by subst hid;decide +kernel];subst hid;dsimp only;refine wpAny_bind (wpAny_isInstance (T:="reversed") (b:=true) hit.typeIs (by rw[isSubtype_type];kernel_rfl) ?_);refine wpAny_ite_split (λhab=>absurd hab (by decide)) (λ_=>?_);refine wpAny_ite_split (λhab=>absurd hab (by decide +kernel)) (λ_=>?_);refine wpAny_bind (wpAny_rule ?_);refine wpAny_bind (wpAny_of_eq (mK.bind _) ?_);refine wpAny_bind (wpAny_attempt (wpAny_call_entry mK hit.typeIs yW ?_ (Bg _)));unfold Builtin.«reversed.__length_hint__»;refine wpAny_bind (wpAny_of_eq (a:=Value.ref it) rfl ?_);refine wpAny_bind (wpAny_field ho hd (x:=.ref t) rfl ?_);refine wpAny_ite_split (λhab=>absurd hab Bool.false_ne_true) (λ_=>?_);have hf2:(items.size:Int)<2 ^ 63:=by rw[sizeLine_eq]at hfit;omega
 refine wpAny_bind (len_tuple ht hf2 ?_);refine wpAny_bind (m:=asInt? _) (wpAny_pure ?_);refine wpAny_bind (wpAny_field ho hd (x:=rawInt ((items.size:Int) - 1)) rfl ?_);show wpAny _ _ (if (items.size:Int)<(items.size:Int) - 1+1 then _ else _) _ _ _;rw[if_neg (by omega)];have e1:(items.size:Int) - 1+1=(items.size:Int):=by omega
 rw[e1];unfold retInt;refine wpAny_bind (wpAny_mkInt (wpAny_pure ⟨_,rfl,?_⟩));generalize s.toks+1+1=tk
 show wpAny _ _ (asInt? (Value.int (items.size:Int) tk) >>= _) _ _ _;refine wpAny_bind ?_;refine wpAny_pure (a:=some (items.size:Int)) ?_;have UP:Builtin.List.listFitsIndex (items.size:Int)=true:=by unfold Builtin.List.listFitsIndex;rw[decide_eq_true (by omega),decide_eq_true (by omega)];rfl
 show wpAny _ _ (if (!Builtin.List.listFitsIndex (items.size:Int))=true then _ else _) _ _ _;rw[if_neg (by rw[UP];decide)];show wpAny _ _ (if (items.size:Int)<0 then _ else _) _ _ _;rw[if_neg (by omega)];have UQ:Builtin.List.listTooLong ((items.size:Int).toNat)=false:=by unfold Builtin.List.listTooLong;rw[Int.toNat_natCast];exact decide_eq_false (by omega)
 show wpAny _ _ (if Builtin.List.listTooLong ((items.size:Int).toNat)=true then _ else _) _ _ _;rw[if_neg (by rw[UQ];decide)];exact wpAny_pure (h _)
theorem _root_.PySem.Walks.K0(hh:A.handled=none)(I t:Addr)(hne:t≠I)(items:Array Value)(hfit:(items.size:Int)<2 ^ 62) :
  Walks prog w A I [I,t] [I] items.size (λi v=>items[items.size - 1 - i]?=some v) (λi h=>i<=items.size/\gh h I t ((items.size:Int) - 1 - (i:Int))/\IsTup h t items) where
 sub:=λb hb=>by simp at hb;simp[hb]
 frame:=λ_ _ _ x hk=>⟨x.1,x.2.1.at λo e=>hk I (by simp) o e,nA x.2.2 λo e=>hk t (by simp) o e⟩
 item:=λi s Q E hi x hQ=>by
  have e:(items.size:Int) - 1 - (i:Int)=((items.size - 1 - i:Nat):Int):=by omega
  have hit:=x.2.1;rw[e]at hit;have hx:items[items.size - 1 - i]?=some (items[items.size - 1 - i]'(by omega)):=Array.getElem?_eq_getElem (by omega);refine next_item hit x.2.2 hx hfit λh' tk K2 hs'=>?_;have e2:((items.size - 1 - i:Nat):Int) - 1=(items.size:Int) - 1 - ((i+1:Nat):Int):=by omega
  rw[e2]at K2;exact hQ _ h' tk hx ⟨hi,K2,nA x.2.2 λo eo=>(hs'.2 t hne).trans eo⟩ λb o hb eo=>hs'.extBut b o (λh=>hb (by simp[h])) eo
 done:=λs Q E x hQ=>by
  have e:(items.size:Int) - 1 - (items.size:Int) = -1:=by omega
  have hit:=x.2.1;rw[e]at hit;exact next_end hh hit λh' he'=>hQ h' s.toks λb o hb eo=>he' b o (λh=>hb (by simp[h])) eo
 self:=λ_ _ _ _ x hQ=>uB x.2.1 hQ
theorem yX{R:Result->Shared->Prop}{I t:Addr}{items:Array Value}(hh:A.handled=none)(hit:gh s.heap I t ((items.size:Int) - 1))(ht:IsTup s.heap t items)(hne:t≠I)(hlen:items.size<=sizeLine)
  (S:Addr) (hSI:S≠I) (hSt:S≠t) (res:Value) (c₀:Nat) (hS:s.heap.get? S=some { cls:=.type "list",data:=.seq #[] c₀ })
  (hR:∀h' tk acc' c',(∀b o,b≠S->b≠I->s.heap.get? b=some o->h'.get? b=some o)->h'.get? S=some { cls:=.type "list",dict:=none,data:=.seq acc' c',slots:=#[]}->
   ItemsOf (λi v=>items[items.size - 1 - i]?=some v) acc' items.size->R (.ok (.ret res)) { s with heap:=h',toks:=tk }) :
  wpAny (model prog w) A.in1 (Builtin.List.listExtendWith (.ref S) (.ref I) res)
   (λfin s'=>match fin with|.done f=>R (.ok f) s'|.again c'=>c'.quiet=true/\codeAny (model prog w) A c' R s') (λe s'=>R (.error e) s') s:=by
 have hf:(items.size:Int)<2 ^ 62:=by rw[sizeLine_eq]at hlen;omega
 have hSf:S∉[I,t]:=λhm=>by rcases List.mem_cons.mp hm with e|e;exact hSI e;exact hSt (List.mem_singleton.mp e)
 have W:=(Walks.K0 (prog:=prog) (w:=w) (A:=A.in1) hh I t hne items hf).toS;have key:∀(h:Heap) (c₁ tk:Nat),gh h I t ((items.size:Int) - 1 - ((0:Nat):Int))->IsTup h t items->(∀b o,b≠S->s.heap.get? b=some o->h.get? b=some o)->
   h.get? S=some { cls:=.type "list",data:=.seq #[] c₁ }->codeAny (model prog w) A (.builtin "list.extend.loop" ⟨[.ref S,.ref I,res],[]⟩) R { s with heap:=h,toks:=tk }:=by
  intro h c₁ tk hit ht hk N8;refine codeAny_extend_loopS W hlen S hSf res items.size 0 _ #[] c₁ rfl (Nat.zero_le _) ⟨Nat.zero_le _,hit,ht⟩ N8 (ItemsOf.nil _) λs' acc' c' hm hS' hacc=>?_;rw[Moved.eq_with hm];refine hR s'.heap s'.toks acc' c' (λb o hb hb2 e=>hm.heap b o (λhmem=>?_) (hk b o hb e)) hS' hacc;rcases List.mem_cons.mp hmem with e'|hmem
  .exact hb e'
  .exact hb2 (List.mem_singleton.mp hmem)
 unfold Builtin.List.listExtendWith;refine wpAny_bind (wpAny_typeOf (T:="reversed") hit.typeIs ?_);have h1:Builtin.List.listSameRef (.ref S) (.ref I)=false:=by simp[Builtin.List.listSameRef,hSI]
 have h2:(Value.type "reversed" ==Value.type "list")=false:=by decide
 have h3:(Value.type "reversed" ==Value.type "tuple")=false:=by decide
 simp only[h1,h2,h3,Bool.or_false,Bool.false_eq_true,if_false];refine wpAny_bind (uB hit ?_);refine wpAny_bind (wpAny_holding (Dj hit ht hlen λtk=>?_));have K3:gh s.heap I t ((items.size:Int) - 1 - ((0:Nat):Int)):=by simpa using hit
 refine wpAny_ite_split (λ_=>?_) (λ_=>wpAny_pure ⟨plainId_quiet F.plain_extend_loop _,key _ c₀ _ K3 ht (λb o _ e=>e) hS⟩);refine wpAny_bind (wpAny_rule ?_);refine wpAny_bind ?_;show wpAny _ _ (updateSeq S (·.push .none) >>= λ_=>updateSeq S (·.pop)) _ _ _;refine wpAny_bind (wpAny_updateSeq hS rfl ?_);have sP:=Heap.get?_update_self (Obj.mapSeq (·.push Value.none)) hS rfl;refine wpAny_updateSeq (hz:=by seq_fits) sP rfl ?_;have N9:=Heap.get?_update_self (Obj.mapSeq (·.pop)) sP rfl;have ot:∀b o,b≠S->s.heap.get? b=some o->((s.heap.update S (Obj.mapSeq (·.push Value.none))).update S (Obj.mapSeq (·.pop))).get? b=some o:=λb o hb e=>(Heap.get?_update_other _ _ (Ne.symm hb)).trans ((Heap.get?_update_other _ _ (Ne.symm hb)).trans e);exact wpAny_pure ⟨plainId_quiet F.plain_extend_loop _,key _ _ _ (K3.at λo e=>ot _ _ (Ne.symm hSI) e) (nA ht λo e=>ot _ _ (Ne.symm hSt) e) ot N9⟩
theorem Dk{R:Result->Shared->Prop}{I t:Addr}{items:Array Value}(hh:A.handled=none)(hit:gh s.heap I t ((items.size:Int) - 1))(ht:IsTup s.heap t items)(hne:t≠I)(hlen:items.size<=sizeLine)
  (S:Addr) (hSI:S≠I) (hSt:S≠t) (hS:s.heap.get? S=some { cls:=.type "list",data:=.seq #[]})
  (hR:∀h' tk acc' c',(∀b o,b≠S->b≠I->s.heap.get? b=some o->h'.get? b=some o)->h'.get? S=some { cls:=.type "list",dict:=none,data:=.seq acc' c',slots:=#[]}->
   ItemsOf (λi v=>items[items.size - 1 - i]?=some v) acc' items.size->R (.ok (.ret .none)) { s with heap:=h',toks:=tk }) :
  wpAny (model prog w) A.in1 (Builtin.«list.__init__» ⟨[.ref S,.ref I],[]⟩)
   (λfin s'=>match fin with|.done f=>R (.ok f) s'|.again c'=>c'.quiet=true/\codeAny (model prog w) A c' R s') (λe s'=>R (.error e) s') s:=by
 show wpAny _ _ (do let old <-Builtin.List.listItems (.ref S);Builtin.List.listUpdate (.ref S) (λ_=>#[]);letGo old.toList.reverse;Builtin.List.listExtendWith (.ref S) (.ref I) .none) _ _ s;refine wpAny_bind ?_;unfold Builtin.List.listItems;refine wpAny_bind (wpAny_seqItems hS rfl (wpAny_pure ?_));show wpAny _ _ (updateSeq S (λ_=>#[]) >>= λ_=>letGo (#[]:Array Value).toList.reverse >>= λ_=>Builtin.List.listExtendWith (.ref S) (.ref I) .none) _ _ s;refine wpAny_bind (wpAny_updateSeq hS rfl ?_);have sP:=Heap.get?_update_self (Obj.mapSeq (λ_=>(#[]:Array Value))) hS rfl;have K4:∀b o,b≠S->s.heap.get? b=some o->(s.heap.update S (Obj.mapSeq (λ_=>(#[]:Array Value)))).get? b=some o:=
  λb o hb e=>(Heap.get?_update_other _ _ (Ne.symm hb)).trans e
 refine wpAny_bind (wpAny_letGo ?_);refine yX hh (hit.at λo e=>K4 _ _ (Ne.symm hSI) e) (nA ht λo e=>K4 _ _ (Ne.symm hSt) e) hne hlen S hSI hSt .none _ sP λh' tk acc' c' hk hS' hacc=>?_;exact hR h' tk acc' c' (λb o hb hb2 e=>hk b o hb hb2 (K4 b o hb e)) hS' hacc
theorem sH{Q:Value->Shared->Prop}{I t:Addr}{items:Array Value}(hh:A.handled=none)(hit:gh s.heap I t ((items.size:Int) - 1))(ht:IsTup s.heap t items)(hne:t≠I)(hlen:items.size<=sizeLine)
  (hQ:∀h' tk acc' c',(∀b o,b≠I->s.heap.get? b=some o->h'.get? b=some o)->
   h'.get? s.heap.objs.size=some { cls:=.type "list",dict:=none,data:=.seq acc' c',slots:=#[]}->ItemsOf (λi v=>items[items.size - 1 - i]?=some v) acc' items.size->Q (.ref s.heap.objs.size) { s with heap:=h',toks:=tk }) :
  wpAny (model prog w) A (call (.type "list") [.ref I]) Q E s:=by
 refine callType_codes (Q₁:=λobj s₁=>obj=.ref s.heap.objs.size/\s₁={ s with heap:=s.heap.push { cls:=.type "list",data:=.seq #[]}}) F.called_list (F.typeCall_list_1 _) F.entry_list_init
  (code_list_new _ ⟨rfl,rfl⟩) λobj s₁ h₁=>?_
 obtain⟨rfl,rfl⟩:=h₁;have hS:(s.heap.push { cls:=.type "list",data:=.seq #[]}).get? s.heap.objs.size=some { cls:=.type "list",data:=.seq #[]}:=Heap.get?_push_size _ rfl;have hI:I<s.heap.objs.size:=by obtain⟨o,ho,_⟩:=hit;exact Heap.lt_size ho
 have hT:t<s.heap.objs.size:=by obtain⟨o,ho,_⟩:=ht;exact Heap.lt_size ho
 refine⟨⟨_,hS,rfl⟩,F.args_list_init_2 _ _,Dk (A:=A.in1) hh (hit.at λo e=>Heap.get?_push_of_some _ e) (nA ht λo e=>Heap.get?_push_of_some _ e) hne hlen _ (Nat.ne_of_gt hI) (Nat.ne_of_gt hT) hS λh' tk acc' c' hk hS' hacc=>?_⟩;exact⟨rfl,hQ h' tk acc' c' (λb o hb e=>hk b o (Nat.ne_of_lt (Heap.lt_size e)) hb (Heap.get?_push_of_some _ e)) hS' hacc⟩
end
end Rv
namespace Sm
open PySem PySem.Spec PyProof.Rows L2 PySem.SeqAt
open Ev (D O Hh Fr R aM E Es Eo T S Ss Fl Src bO bJ TY BI ME)
section
variable{X:Cx}{G:Tb}{n:Nat}{sc:Scope}{N:List Str}{df:Bool}{m:List Nat}{a b c:E}{xa xb xc tg:Expr}{pos:Pos}
theorem Dl{vs:List V}{us:List Value}(r:Vals vs us){acc:Array Value}(h:ItemsOf (λi v=>us.toArray[us.toArray.size - 1 - i]?=some v) acc us.toArray.size):Vals vs.reverse acc.toList:=by
 obtain⟨h1,h2⟩:=h;have e:acc.toList=us.reverse:=by
  apply List.ext_getElem?;intro i;by_cases hi:i<us.length
  .have ha:i<acc.size:=by rw[h1];simpa using hi
   have:=h2 i _ (Array.getElem?_eq_getElem ha);rw[List.getElem?_reverse hi];simp only[List.size_toArray,List.getElem?_toArray]at this;rw[this];simp[ha]
  .have hs:acc.size=us.length:=by rw[h1];simp
   rw[List.getElem?_eq_none (by rw[Array.length_toList];omega),List.getElem?_eq_none (by rw[List.length_reverse];omega)]
 rw[e];exact Vals.reverse r
theorem G7 {p p2 pos2:Pos}(ha:JE G n sc N df m a xa) (h1:("list" : Str)∈G.bl:=by decide +kernel) (KU:sc.names.lookup ("list" : Str)=some .globalImplicit:=by rfl)
  (hg:sc.names.lookup ("reversed" : Str)=some .globalImplicit:=by rfl) (hb:("reversed" : Str)∈G.bl:=by decide +kernel)
  (hst:∀env:Env,starEach [xa] env=[(false,eval xa env)]:=by intro _;rfl)
  (K5:∀env:Env,starEach [Expr.Call (.Name "reversed" p2) [xa] [] pos2] env=[(false,eval (Expr.Call (.Name "reversed" p2) [xa] [] pos2) env)]:=by intro _;rfl) :
  JE G n sc N df m (.je (.rev a)) (.Call (.Name "list" p) [.Call (.Name "reversed" p2) [xa] [] pos2] [] pos):=λX g=>by
 intro pins s σ H Q I q;obtain⟨r,fr,h,d,h',sr,hr,e,q⟩:=q;rw[Ev.ev,Ev.cz]at e;replace e:=Ev.ah e;obtain⟨src,h3,e1,e⟩:=e;replace e1:=Ev.ah e1;obtain⟨x,h4,e2,e1⟩:=e1;replace e1:=Ev.aC e1;obtain⟨e1,y0⟩:=e1;subst y0;refine wpAny_Call_Name_kw (lZ I (g.gl KU) (g.bl _ h1) (show bootBuiltins ("list" : Str)=some (.type "list")by decide +kernel) ?_ (by decide) (by decide));refine PyProof.Rows.callWith_type1 ?_ (K5 _) rfl;rw[K5];show wpAny _ _ (spliced ((false,eval (Expr.Call (.Name "reversed" p2) [xa] [] pos2) X.env) :: backTo pos [])) _ _ s;refine Calls.spliced_cons ?_;have UR:PA X [xa] _:=qo (ha X g) tS (by rw[hst];rfl);refine Call_ (lZ I (g.gl hg) (g.bl _ hb) (show bootBuiltins ("reversed" : Str)=some (.type "reversed")by decide +kernel) (PyProof.Rows.callWith_type1 (bB (UR pos2 pins s σ H (λvs H1=>∃r1 u,vs=[u]/\RV X.K H1 r1 x u/\HR X.K H1 r1 h3/\Fm X.K r r1 H H1) I ⟨r,fr,h,x,h3,sr,hr,e2,λu H1 r1 v1 hr1 f1=>⟨r1,u,rfl,v1,hr1,f1⟩⟩) λus s1 z=>?_) (hst _) rfl));obtain⟨vs,H1,I1,rv,r1,u,rfl,v1,hr1,f1⟩:=z;cases x<;>simp only[Ev.CU,Option.map,reduceCtorEq]at e1
 rename_i ds;cases e1;obtain⟨t,ws,rfl,z,w⟩:=v1.shape;cases rv with
 |cons ra rb=>
 cases rb;cases ra;obtain⟨its,pv,pt,hz⟩:=I1.tuple z;have hlen:its.toArray.size<=sizeLine:=by rw[List.size_toArray,<-pv.length];exact hz
 have hf:(its.toArray.size:Int)<2 ^ 63:=by rw[sizeLine_eq]at hlen;omega
 refine Rv.Di pt hf ?_;refine Calls.spliced_nil ?_;have I2:Inv X pins σ H1 { s1 with heap:=s1.heap.push (Rv.ny t ((its.toArray.size:Int) - 1)),toks:=s1.toks+1+1 }:=I1.kept λb o e=>Heap.get?_push_of_some _ e;have hne:t≠s1.heap.objs.size:=by obtain⟨o,ho,_⟩:=pt;exact Nat.ne_of_lt (Heap.lt_size ho)
 refine Rv.sH (I1.ok.hd g.calm) ⟨_,Heap.get?_push_size _ rfl,rfl,rfl⟩ (Rv.nA pt λo e=>Heap.get?_push_of_some _ e) hne hlen λh' tk acc' c' hk hS' hacc=>?_;obtain⟨hz2,q2⟩:=(q.later f1).lst e w.reverse hr1;have hp:s1.heap.objs.size<=(s1.heap.push (Rv.ny t ((its.toArray.size:Int) - 1))).objs.size:=by rw[size_push'];exact Nat.le_succ _
 refine⟨.ref _,_,I1.laid (t':=tk) (o:=.lst ws.reverse) (λb u e=>hk b u (Nat.ne_of_lt (Heap.lt_size e)) (Heap.get?_push_of_some _ e)) hp ?_,rfl,q2 _ (I1.hok.fresh hp)⟩;exact⟨by simpa using hz,acc'.toList,c',Dl pv hacc,by simpa using hS'⟩
end
end Sm
set_option maxRecDepth 100000
set_option maxRecDepth 100000
namespace Sm
open PySem PySem.Spec PyProof.Rows L2 PySem.SeqAt
open Ev (D O Hh Fr R aM E Es Eo T S Ss Fl Src bO bJ TY BI ME)
end Sm
set_option maxRecDepth 100000
namespace Sm
open PySem PySem.Spec PyProof.Rows L2 PySem.SeqAt
open Ev (D O Hh Fr R aM E Es Eo T S Ss Fl Src bO bJ TY BI ME)
end Sm
set_option maxRecDepth 100000
namespace Sm
open PySem PySem.Spec PyProof.Rows L2 PySem.SeqAt
open Ev (D O Hh Fr R aM E Es Eo T S Ss Fl Src bO bJ TY BI ME)
section
variable{G:Tb}{n:Nat}{sc:Scope}{N:List Str}{df:Bool}{m:List Nat}{a b c:E}{xa xb xc:Expr}{pos:Pos}
end
end Sm
set_option maxRecDepth 100000
namespace Sm
open PySem PySem.Spec PyProof.Rows L2 PySem.SeqAt
open Ev (D O Hh Fr R aM E Es Eo T S Ss Fl Src bO bJ TY BI ME)
theorem aD.ofInts{K:PySem.W.Frag}{H:Hp}{r:List Addr}:∀ns:List Int,aD K H r (ns.map D.int) (ns.map V.int)
 |[]=>.nil
 |_ :: l=>.cons rfl (aD.ofInts l)
theorem K6{K:PySem.W.Frag}{H:Hp}{a:Addr}{vs:List V}(hO:qu H)(hS:eY K H a vs):yG K H a vs:=by
 rcases hS with h|h
 .rcases h with h|⟨o,h⟩
  .rcases hO a with q|⟨o,xs,q⟩
   .rw[q]at h;cases h
   .rw[q]at h;cases h
  .exact .inl ⟨o,h⟩
 .exact .inr h
theorem Oa{K:PySem.W.Frag}{F:List Ev.Fn}{w n f:Nat}{H:Hp}{a:Addr}{ns:List Int}(hO:qu H)(hS:eY K H a (ns.map V.int)){h':Hh}(e:Ev.run F w n f [.ref 0] [.bL (ns.map D.int)]=.ok (.bl true) h') :
  nW K F w n f [.ref a] H (λv _=>v=.bl true) λ_ _ _=>False:=by
 refine⟨[a],[.bL (ns.map D.int)],[.ref 0],.bl true,h',.cons (show RV K H [a] (.ref 0) (.ref a)from ⟨a,rfl,rfl⟩) .nil,⟨rfl,λk o hk=>?_,λk l b x y _ _ hk _=>?_
  ,λk l b x y _ _ hk _=>by cases k with|zero=>simp at hk|succ k=>simp at hk
  ⟩,e,λv H' r' v1 _ _=>v1⟩
 .cases k with
  |zero=>
   simp at hk;subst hk;exact⟨a,rfl,_,K6 hO hS,aD.ofInts ns⟩
  |succ k=>simp at hk
 .cases k with
  |zero=>simp at hk
  |succ k=>simp at hk
theorem G8{F:List Ev.Fn}{wh n f:Nat}{l:PySem.W.OpenLaw}{q:Program}{loose:List Str}{XP:(Str->Option Value)->Heap->Prop}{YP:World->Heap->Prop}{d:DefRec}{K:Params->PySem.W.Frag}{x:Str}(hn:l.most=some 63)(hdf:d.params.defaults=[])(hr:fH n callerA)
  (hY:∀(w:World) (h:Heap),YP w h->(K w.params).In h) (good:∀ns:List Int,ns.length<=63->∃h',Ev.run F wh n f [.ref 0] [.bL (ns.map D.int)]=.ok (.bl true) h')
  (Fo:∀(w:World) (mg:Str->Option Value) (fa:Addr) (h:Heap),(K w.params).In h->h.Ns mainGlobals mg->mg d.name=some (.ref fa)->
   ∃fd:FuncData,(∀(s:Shared) (u:Value),BindsTo s fd ⟨[u],[]⟩ [(x,u)])/\∀base:Heap,(K w.params).In base->base.Ns mainGlobals mg->iA l.prog w (K w.params) mg base mD n fa fd [x] (nW (K w.params) F wh n f)) :
  PySem.W.WalkO q loose XP YP l.row.toRowW d [] (λf vs=>PySem.call f vs):=
 L2.CN (n:=63) (k:=n) (x:=x) (CX:=mD) (sp:=λK=>nW K F wh n f) hn (by decide) hdf hr hY Fo (λK H a ns hl hO hS=>by
  obtain⟨h',e⟩:=good ns hl;exact Oa hO hS e) λ_ _ _ _ z=>z
theorem Bj{P:Program}{w:World}{K:PySem.W.Frag}{mg:Str->Option Value}{base:Heap}{G:Tb}(T:Top P w K mg G)
  (st:∀n,sO P w K mg base G n->sO P w K mg base G (n+1)):∀n,sO P w K mg base G n
 |0=>λf i _=>GI
 |n+1=>st n (Bj T st n)
structure At(K:PySem.W.Frag)(x:Str)(st:Stmt)(i:FI):Prop where
 name:i.name=x
 ns:PySem.W.nsIn K mainGlobals x=some (some (.ref i.addr))
 fu:rD K x x st i.addr i.fd
 bd:Binds K i.fd i.ps []
end Sm
set_option maxRecDepth 100000
namespace Sm
open PySem PySem.Spec PyProof.Rows L2
open Ev (D O Hh Fr R aM E Es Eo It T S Ss Fl Src bO bJ TY BI ME)
section
variable{G:Tb}{n:Nat}{sc:Scope}{N:List Str}{df:Bool}{m:List Nat}{a b c:E}{xa xb xc:Expr}{pos:Pos}
noncomputable def hasB(N:List Str)(m:List Nat)(x:Str)(i:Nat):Bool:=(List.range N.length).any λj=>m[j]?==some i&&N[j]?==some x
theorem hasB.of{x:Str}{i:Nat}(h:hasB N m x i=true):∃j:Nat,m[j]?=some i/\N[j]?=some x:=by
 obtain⟨j,_,q⟩:=List.any_eq_true.mp h;rw[Bool.and_eq_true]at q;exact⟨j,by simpa using q.1,by simpa using q.2⟩
noncomputable def vB (sc:Scope) (N:List Str) (m:List Nat) (x:Str) (i:Nat):Bool:=hasB N m x i&&(sc.names.lookup x==some .local ||sc.names.lookup x==some .cell ||sc.names.lookup x==some .free)&&!(x==("__debug__" : Str))&&!(x==("__classdict__" : Str))
theorem jv{x:Str}{i:Nat}(h:vB sc N m x i=true):JE G n sc N df m (.v i) (.Name x pos):=by
 unfold vB at h;simp only[Bool.and_eq_true,Bool.not_eq_true',Bool.or_eq_true]at h;obtain⟨⟨⟨h1,h2⟩,h3⟩,h4⟩:=h;obtain⟨j,e1,e2⟩:=hasB.of h1;exact Sq j i e1 e2 (by rcases h2 with (h2|h2)|h2;exact .inl (by simpa using h2);exact .inr (.inl (by simpa using h2));exact .inr (.inr (by simpa using h2))) h3 h4
noncomputable def gB(sc:Scope)(N:List Str)(df:Bool)(m:List Nat)(x:Str)(i:Nat):Bool:=hasB N m x i&&(sc.names.lookup x==some .local || (df&&sc.names.lookup x==some .cell))&&decide m.Nodup&&decide N.Nodup
theorem gB.of{x:Str}{i:Nat}(h:gB sc N df m x i=true):∃j:Nat,m[j]?=some i/\N[j]?=some x/\(sc.names.lookup x=some .local\/(df=true/\sc.names.lookup x=some .cell))/\m.Nodup/\N.Nodup:=by
 unfold gB at h;simp only[Bool.and_eq_true,Bool.or_eq_true]at h;obtain⟨⟨⟨h1,h2⟩,h3⟩,h4⟩:=h;obtain⟨j,e1,e2⟩:=hasB.of h1;exact⟨j,e1,e2,by rcases h2 with h2|⟨h2,h5⟩;exact .inl (by simpa using h2);exact .inr ⟨h2,by simpa using h5⟩,of_decide_eq_true h3,of_decide_eq_true h4⟩
theorem US{x:Str}{i:Nat}(h:gB sc N df m x i=true):JG G n sc N df m (.one i) (.Name x pos):=by
 obtain⟨j,e1,e2,e3,e4,e5⟩:=gB.of h;exact J7 j i e4 e5 e1 e2 e3
theorem UT{x:Str}{i:Nat}{l:List Nat}{xs:List Expr}(h:gB sc N df m x i=true)(hs:rG G n sc N df m l xs):rG G n sc N df m (i :: l) (.Name x pos :: xs):=by
 obtain⟨j,e1,e2,e3,e4,e5⟩:=gB.of h;exact CY j i e4 e5 hs e1 e2 e3
theorem SE{i:Nat}{x:Str}{pos':Pos}(h:gB sc N df m x i=true)(ha:JE G n sc N df m a xa)(hs:∀env:Env,swapsWith xa (some (.Name x pos')) pos.line env=pure false:=by intro _;rfl):JS G n sc N df m (.set i a) (.Assign [.Name x pos'] xa pos):=by
 obtain⟨j,e1,e2,e3,e4,e5⟩:=gB.of h;exact J8 j i e4 e5 ha hs e1 e2 e3
noncomputable def Qk (sc:Scope) (x:Str):Bool:=sc.names.lookup x==some .globalImplicit&&!(x==("__debug__" : Str))
theorem UU{f:Nat}{i:FI}{es:Es}{x:Str}{e0:Expr}{xs:List Expr}{p:Pos}(h:Qk sc x=true)(hf:G.fi[f]?=some i)(hx:i.name=x)(hs:JA G n sc N df m es (e0 :: xs))
  (hst:∀env:Env,starEach (e0 :: xs) env=(false,eval e0 env) :: starEach xs env:=by intro _;rfl) (hpl:∀env:Env,(backTo pos (starEach xs env)).any (·.1)=false:=by intro _;rfl) :
  JE G n sc N df m (.cl f es) (.Call (.Name x p) (e0 :: xs) [] pos):=by
 subst hx;unfold Qk at h;simp only[Bool.and_eq_true,Bool.not_eq_true']at h;exact NY hf hs (by simpa using h.1) h.2 hst hpl
noncomputable def UW:Expr->List Str
 |.Name x _=>[x]
 |.Tuple xs _ _=>xs.filterMap λy=>match y with|.Name x _=>some x|_=>none
 |_=>[]
noncomputable def Ql(N:List Str)(m:List Nat)(scope:Scope):List (Str×Nat):=(N.zip m).filter λp=>scope.names.contains (p.1,NameKind.free)
noncomputable def cN(N:List Str)(m:List Nat)(scope:Scope)(tg:Expr):List Str:=UW tg++(Ql N m scope).map (·.1)
noncomputable def cM(N:List Str)(m:List Nat)(scope:Scope)(t:T):List Nat:=Ev.slots t++(Ql N m scope).map (·.2)
theorem Ob{elt:E}{t:T}{it:Ev.It}{cond:Eo}{tg xi xe:Expr}{ifs:List Expr}{scope:Scope}(hn:uq sc N m scope t (cN N m scope tg) (cM N m scope t)=true)(hs:Kl sc scope=true)
  (hi:JI G n sc N df m it tg xi) (hg:JG G n (g9 sc scope) (cN N m scope tg) false (cM N m scope t) t tg) (hc:JC G n (g9 sc scope) (cN N m scope tg) false (cM N m scope t) cond ifs)
  (he:JE G n (g9 sc scope) (cN N m scope tg) false (cM N m scope t) elt xe) (hf:∀(env:Env) x,foldedSetIterable xi env x=pure x:=by intro _ _;rfl):JE G n sc N df m (.comp elt t it cond) (.ListComp xe [⟨tg,xi,ifs,0⟩] scope pos):=
 GU hi hg hc he (namesOk.of hn) (mG.of hs) hf
theorem SG{rest:List Expr}(ha:JT G n sc N df m a xa)(hb:JW G n sc N df m b (.BoolOp .And (xb :: rest) pos)):JT G n sc N df m (.an a b) (.BoolOp .And (xa :: xb :: rest) pos):=JV (EM ha hb)
theorem SH{rest:List Expr}(ha:JT G n sc N df m a xa)(hb:JW G n sc N df m b (.BoolOp .Or (xb :: rest) pos)):JT G n sc N df m (.orr a b) (.BoolOp .Or (xa :: xb :: rest) pos):=JV (AJ ha hb)
noncomputable def allB(G:Tb)(n:Nat):List (Ss×Stmt×List Str)->Prop
 |[]=>True
 |p :: r=>jC G n (aO p.2.1) p.2.2 true (List.range p.2.2.length) p.1 (gE p.2.1)/\allB G n r
theorem allB.get:∀{l:List (Ss×Stmt×List Str)}{k:Nat}{p:Ss×Stmt×List Str},allB G n l->l[k]?=some p->jC G n (aO p.2.1) p.2.2 true (List.range p.2.2.length) p.1 (gE p.2.1)
 |[],_,_,_,e=>nomatch e
 |_ :: _,0,_,h,e=>by cases e;exact h.1
 |_ :: r,k+1,p,h,e=>allB.get (l:=r) (k:=k) h.2 (by simpa using e)
end
end Sm
namespace Pv
open Ev (D bO bJ TY BI ME T E Es Eo It S Ss Fn big deep b2i rep cj dF bI aQ cut cI dX slots)
theorem nd{α:Type _}{a b:α}(h:a=b):a=b:=h
inductive V where
 |aG|bl (b:Bool)|int (i:Int)|str (s:List Nat)|tup (l:List V)|lst (l:List V)|bL (l:List V)
 |dct (kvs:List (Int×List Nat))
inductive Sl where
 |val (v:V)|own (l:List V)|bor (l:List V)|ro (l:List V)
abbrev Fr:=List (Option Sl)
inductive R(α:Type) where
 |ok (a:α) (fr:Fr)
 |bad
noncomputable def R.bind{α β:Type}(r:R α)(f:α->Fr->R β):R β:=
 match r with
 |.ok a h=>f a h
 |.bad=>.bad
@[simp] theorem ak{α β:Type}(a:α)(h:Fr)(f:α->Fr->R β):(R.ok a h).bind f=f a h:=nd rfl
@[simp] theorem CS{α β:Type}(f:α->Fr->R β):(R.bad:R α).bind f=.bad:=nd rfl
theorem ah{α β:Type}{r:R α}{f:α->Fr->R β}{b:β}{h:Fr}(e:r.bind f=.ok b h):∃a h1,r=.ok a h1/\f a h1=.ok b h:=by
 cases r with
 |ok a h1=>exact⟨a,h1,rfl,e⟩
 |bad=>cases e
noncomputable def R.of{α:Type}(o:Option α)(h:Fr):R α:=match o with
 |some a=>.ok a h
 |none=>.bad
@[simp] theorem dw{α:Type}(a:α)(h:Fr):R.of (some a) h=.ok a h:=nd rfl
@[simp] theorem of_none{α:Type}(h:Fr):R.of (none:Option α) h=.bad:=nd rfl
theorem aC{α:Type}{o:Option α}{h h':Fr}{a:α}(e:R.of o h=.ok a h'):o=some a/\h'=h:=by
 cases o with
 |none=>cases e
 |some b=>cases e;exact⟨rfl,rfl⟩
inductive Fl where
 |nx|bk|ct|ret (v:V)
mutual
noncomputable def ofD:D->Option V
 |.aG=>some .aG
 |.bl b=>some (.bl b)
 |.int i=>some (.int i)
 |.str s=>some (.str s)
 |.tup ds=>(uC ds).map .tup
 |.ref _=>none
noncomputable def uC:List D->Option (List V)
 |[]=>some []
 |d :: ds=>(ofD d).bind λv=>(uC ds).map λvs=>v :: vs
end
noncomputable def cS(f:V->V->Option Bool):List V->List V->Option Bool
 |[],[]=>some true
 |x :: xs,y :: ys=>(f x y).bind λb=>(cS f xs ys).bind λc=>some (b&&c)
 |_,_=>some false
noncomputable def eT:Nat->V->V->Option Bool
 |0,_,_=>none
 |_+1,.aG,.aG=>some true
 |_+1,.bl a,.bl b=>some (a==b)
 |_+1,.int a,.int b=>some (a==b)
 |_+1,.bl a,.int b=>some (b2i a==b)
 |_+1,.int a,.bl b=>some (a==b2i b)
 |_+1,.str a,.str b=>some (a==b)
 |n+1,.tup a,.tup b=>cS (eT n) a b
 |n+1,.lst a,.lst b=>cS (eT n) a b
 |n+1,.bL a,.lst b=>cS (eT n) a b
 |n+1,.lst a,.bL b=>cS (eT n) a b
 |_+1,.bL _,.bL _=>none
 |_+1,.dct _,_=>none
 |_+1,_,.dct _=>none
 |_+1,_,_=>some false
noncomputable def truthy:V->Bool
 |.aG=>false
 |.bl b=>b
 |.int i=>i != 0
 |.str s=>!s.isEmpty
 |.tup ds=>!ds.isEmpty
 |.lst ds=>!ds.isEmpty
 |.bL ds=>!ds.isEmpty
 |.dct kvs=>!kvs.isEmpty
noncomputable def dz(l:List V):Option V:=if l.length<=big then some (.lst l)else none
noncomputable def jD(l:List V):Option V:=if l.length<=big then some (.tup l)else none
noncomputable def bK:bO->V->V->Option V
 |.add,.int i,.int j=>some (.int (i+j))
 |.add,.str a,.str b=>if a.length+b.length<=big then some (.str (a++b))else none
 |.add,.tup a,.tup b=>if a.length+b.length<=big then some (.tup (a++b))else none
 |.add,.lst a,.lst b=>dz (a++b)
 |.sub,.int i,.int j=>some (.int (i - j))
 |.mul,.int i,.int j=>if cj i j then some (.int (i*j))else none
 |.mul,.str a,.int k=>if 0<=k/\k<=1000/\a.length<=1000 then some (.str (rep k.toNat a))else none
 |.mul,.tup a,.int k=>if 0<=k/\k<=1000/\a.length<=1000 then some (.tup (rep k.toNat a))else none
 |.mul,.lst a,.int k=>if 0<=k/\k<=1000/\a.length<=1000 then dz (rep k.toNat a)else none
 |.fdiv,.int i,.int j=>if 0<j/\j<1073741824 then some (.int (i / j))else none
 |.mod,.int i,.int j=>if 0<j then some (.int (i % j))else none
 |_,_,_=>none
noncomputable def cop(o:bJ)(x y:V):Option Bool:=match o,x,y with
 |.eq,x,y=>eT deep x y
 |.ne,x,y=>(eT deep x y).map (!·)
 |.lt,.int i,.int j=>some (decide (i<j))
 |.gt,.int i,.int j=>some (decide (j<i))
 |.iR,x,.aG=>some (match x with|.aG=>true|_=>false)
 |.iY,x,.aG=>some (match x with|.aG=>false|_=>true)
 |_,_,_=>none
noncomputable def Dm:V->V->Option V
 |.dct kvs,.int k=>(Ev.bW kvs k).map .str
 |_,_=>none
noncomputable def uD:V->V->V->Option V
 |.dct kvs,.int k,z=>some (match Ev.bW kvs k with|some s=>.str s|none=>z)
 |_,_,_=>none
noncomputable def ee(x y:V):Option V:=match x,y with
 |.tup ds,.int i=>bI ds i
 |.str s,.int i=>(bI s i).map λc=>.str [c]
 |.lst ds,.int i=>bI ds i
 |.bL ds,.int i=>bI ds i
 |_,_=>none
noncomputable def fP(x:V)(lo hi:Option Int):Option V:=match x with
 |.tup ds=>some (.tup (cut ds lo hi))
 |.str s=>some (.str (cut s lo hi))
 |.lst ds=>dz (cut ds lo hi)
 |.bL ds=>dz (cut ds lo hi)
 |_=>none
noncomputable def toT:V->Option V
 |.tup l=>some (.tup l)
 |.lst l=>jD l
 |.bL l=>jD l
 |_=>none
noncomputable def kD:V->Option V
 |.tup ds=>some (.tup ds.reverse)
 |.lst ds=>dz ds.reverse
 |.bL ds=>dz ds.reverse
 |_=>none
noncomputable def boolsOf:List V->Option (List Bool)
 |[]=>some []
 |.bl b :: ds=>(boolsOf ds).map λr=>b :: r
 |_=>none
noncomputable def intsOf:List V->Option (List Int)
 |[]=>some []
 |.int i :: ds=>(intsOf ds).map λr=>i :: r
 |_=>none
noncomputable def strsOf:List V->Option (List (List Nat))
 |[]=>some []
 |.str s :: ds=>(strsOf ds).map λr=>s :: r
 |_=>none
noncomputable def om:V->Option (List V)
 |.lst l=>some l
 |.bL l=>some l
 |_=>none
noncomputable def K7:V->Option (List (Int×List Nat))
 |.dct kvs=>some kvs
 |_=>none
noncomputable def cC(b:BI)(xs:List V):Option V:=match b,xs with
 |.len,[.str s]=>if s.length<=big then some (.int s.length)else none
 |.len,[.tup ds]=>some (.int ds.length)
 |.len,[x]=>(om x).map λds=>.int ds.length
 |.all,[x]=>((om x).bind boolsOf).map λbs=>.bl (bs.all id)
 |.sum,[x]=>((om x).bind intsOf).map λis=>.int is.sum
 |.min,[.int i,.int j]=>some (.int (if j<i then j else i))
 |.kh,[.bl b]=>some (.int (if b then 1 else 0))
 |.yz,[x]=>((om x).bind intsOf).bind λss=>if ss.length<64 then dz ((Ev.sortI ss).map .int)else none
 |.yC,[x]=>(K7 x).bind λkvs=>if kvs.length<64 then dz ((Ev.sortI (kvs.map (·.1))).map .int)else none
 |_,_=>none
noncomputable def eZ(m:ME)(o:V)(xs:List V):Option V:=match m,o,xs with
 |.join,.str sep,[x]=>((om x).bind strsOf).bind λss=>if (ss.map (·.length)).sum+ss.length*sep.length<=big then some (.str (cI sep ss))else none
 |_,_,_=>none
noncomputable def jW(m:ME)(l:List V)(xs:List V):Option (V×List V):=match m,xs with
 |.append,[x]=>if l.length<big then some (.aG,l++[x])else none
 |.extend,[.lst es]=>if l.length+es.length<=big then some (.aG,l++es)else none
 |.pop,[]=>match l[l.length - 1]? with
  |some x=>some (x,l.dropLast)
  |none=>none
 |_,_=>none
noncomputable def Bk:ME->Bool
 |.extend=>true
 |_=>false
noncomputable def iL:ME->Bool
 |.append=>true
 |.extend=>true
 |.pop=>true
 |_=>false
noncomputable def sJ:V->Bool
 |.aG=>true
 |.bl _=>true
 |.int _=>true
 |.str _=>true
 |_=>false
noncomputable def yY(x:V):List (D×D)->Option V
 |[]=>none
 | (k,v) :: r=>match (ofD k).bind λk'=>eT 1 k' x with
  |some true=>ofD v
  |some false=>yY x r
  |none=>none
noncomputable def eL(x:V)(kvs:List (D×D)):Option V:=if sJ x then yY x kvs else none
noncomputable def fk:V->Option (List V)
 |.tup ds=>some ds
 |.str s=>some (s.map λc=>.str [c])
 |.lst ds=>some ds
 |.bL ds=>some ds
 |_=>none
noncomputable def yZ:V->Option (List V)
 |.tup ds=>some ds
 |_=>none
noncomputable def range(lo:Int)(n:Nat):List V:=(List.range n).map λ(i:Nat)=>.int (lo+i)
noncomputable def fy:List V->Option (List V)
 |[.int j]=>if -(2 ^ 62)<=j/\j<2 ^ 62 then some (range 0 j.toNat)else none
 |[.int i,.int j]=>if -(2 ^ 62)<=i/\i<2 ^ 62/\-(2 ^ 62)<=j/\j<2 ^ 62 then some (range i (j - i).toNat)else none
 |_=>none
noncomputable def gq:Int->List V->List V
 |_,[]=>[]
 |k,x :: xs=>.tup [.int k,x] :: gq (k+1) xs
noncomputable def put(fr:Fr)(i:Nat)(s:Sl):Option Fr:=match fr[i]? with
 |some (some (.bor _))=>none
 |some (some (.ro _))=>none
 |_=>some (fr.set i (some s))
noncomputable def cG:List Nat->List V->Fr->Option Fr
 |[],[],fr=>some fr
 |i :: is,d :: ds,fr=>(put fr i (.val d)).bind (cG is ds)
 |_,_,_=>none
noncomputable def br:T->V->Fr->Option Fr
 |.one i,d,fr=>put fr i (.val d)
 |.many l,.tup ds,fr=>cG l ds fr
 |_,_,_=>none
noncomputable def undef(t:T)(fr:Fr):Bool:=(slots t).all λi=>(fr[i]?.join).isNone
noncomputable def Sl.read:Sl->Sl
 |.own l=>.ro l
 |.bor l=>.ro l
 |s=>s
noncomputable def r8(fr:Fr):Fr:=fr.map (Option.map Sl.read)
noncomputable def Sl.eE:Sl->Sl
 |.own l=>.val (.lst l)
 |s=>s
noncomputable def fZ(fr:Fr):Fr:=fr.map (Option.map Sl.eE)
noncomputable def Sl.walk:Sl->Sl
 |.own l=>.val (.lst l)
 |.bor l=>.ro l
 |s=>s
noncomputable def kW(is:List Nat)(fr:Fr):Fr:=is.foldl (λfr i=>match fr[i]? with
 |some (some s)=>fr.set i (some s.walk)
 |_=>fr) fr
noncomputable def Sl.out:Sl->Option (List V)
 |.bor l=>some l
 |.ro l=>some l
 |_=>none
noncomputable def Sl.lend:Sl->Option Sl
 |.own l=>some (.bor l)
 |.bor l=>some (.bor l)
 |.ro l=>some (.ro l)
 |.val _=>none
noncomputable def lent(fr:Fr)(i:Nat):Option Sl:=match fr[i]? with
 |some (some s)=>s.lend
 |_=>none
noncomputable def Sl.with:Sl->List V->Sl
 |.own _,l=>.own l
 |.bor _,l=>.bor l
 |s,_=>s
noncomputable def back:List Nat->List (List V)->Fr->Option Fr
 |[],[],fr=>some fr
 |i :: is,l :: ls,fr=>match fr[i]? with
  |some (some s)=>back is ls (fr.set i (some (s.with l)))
  |_=>none
 |_,_,_=>none
noncomputable def cJ(f:V->Option (Option V)):List V->Option (List V)
 |[]=>some []
 |d :: ds=>(f d).bind λo=>(cJ f ds).bind λr=>some (o.toList++r)
noncomputable def forL(f:V->Fr->R Fl):List V->Fr->R Fl
 |[],fr=>.ok .nx fr
 |d :: ds,fr=>(f d fr).bind λp af=>match p with
   |.nx=>forL f ds af
   |.ct=>forL f ds af
   |.bk=>.ok .nx af
   |.ret x=>.ok (.ret x) af
noncomputable def dQ(t:Fr->R Bool)(f:Fr->R Fl):Nat->Fr->R Fl
 |0,_=>.bad
 |n+1,fr=>(t fr).bind λb af=>if b then (f af).bind λp ao=>match p with
   |.nx=>dQ t f n ao
   |.ct=>dQ t f n ao
   |.bk=>.ok .nx ao
   |.ret x=>.ok (.ret x) ao
  else .ok .nx af
noncomputable def jy:Es->List Nat
 |.nil=>[]
 |.cons (.v i) es=>i :: jy es
 |.cons _ es=>jy es
noncomputable def Qm(m:ME):E->List Nat
 |.v i=>if iL m then [i]else []
 |_=>[]
mutual
noncomputable def bE:E->List Nat
 |.c _=>[]|.v _=>[]|.tup es=>fQ es|.lst es=>fQ es
 |.bin _ a b=>bE a++bE b|.cmp _ a b=>bE a++bE b
 |.nt a=>bE a|.neg a=>bE a|.an a b=>bE a++bE b|.orr a b=>bE a++bE b|.jT t a b=>bE t++(bE a++bE b)
 |.ix a b=>bE a++bE b|.sl a lo hi=>bE a++(ki lo++ki hi)
 |.rv a=>bE a
 |.cl _ es=>fQ es++jy es|.bi _ es=>fQ es|.me m o es=>bE o++(fQ es++Qm m o)
 |.comp _ _ it _=>Dn it
 |.je it=>Dn it
 |.iZ _ a=>bE a
 |.gY=>[]|.wQ a k=>bE a++bE k|.lT a k x=>bE a++(bE k++bE x)
 |.iz a=>bE a
noncomputable def fQ:Es->List Nat
 |.nil=>[]
 |.cons e es=>bE e++fQ es
noncomputable def ki:Eo->List Nat
 |.no=>[]
 |.yes e=>bE e
noncomputable def Dn:It->List Nat
 |.seq e=>bE e|.gk es=>fQ es
 |.enum a=>bE a|.rev a=>bE a
end
noncomputable def kf(a:E)(l:List Nat):Bool:=match a with
 |.v i=>!l.contains i
 |_=>l.isEmpty
noncomputable def itv:It->List Nat
 |.seq (.v i)=>[i]
 |.enum (.v i)=>[i]
 |.rev (.v i)=>[i]
 |_=>[]
abbrev aM:=Nat->List Sl->Option (V×List (List V))
noncomputable def intOf:V->Option Int
 |.int i=>some i
 |_=>none
noncomputable def mL(k:Bool)(fr:Fr)(i:Nat):Option V:=match fr[i]? with
 |some (some (.val v))=>some v
 |some (some (.own l))=>if k then some (.lst l)else none
 |some (some (.bor l))=>if k then some (.lst l)else none
 |some (some (.ro l))=>if k then some (.lst l)else none
 |_=>none
noncomputable def qG(k:Bool)(fr:Fr)(i:Nat):Option V:=match fr[i]? with
 |some (some (.ro l))=>some (.lst l)
 |_=>mL k fr i
noncomputable def src(k:Bool)(fr:Fr)(e:E)(r:R V):R V:=match e with
 |.v i=>R.of (qG k fr i) fr
 |_=>r
noncomputable def kF(fr:Fr):E->Option Nat
 |.v i=>if (lent fr i).isSome then some i else none
 |_=>none
noncomputable def args(fr:Fr):List (Nat ⊕ V)->Option (List Sl)
 |[]=>some []
 |.inl i :: r=>(lent fr i).bind λs=>(args fr r).map λl=>s :: l
 |.inr v :: r=>(args fr r).map λl=>.val v :: l
noncomputable def bR:List (Nat ⊕ V)->List Nat
 |[]=>[]
 |.inl i :: r=>i :: bR r
 |.inr _ :: r=>bR r
noncomputable def cQ(P:aM)(f:Nat)(as:List (Nat ⊕ V))(fr:Fr):R V:=
 if (bR as).Nodup then match args fr as with
  |some sl=>match P f sl with
   |some (v,outs)=>R.of ((back (bR as) outs fr).map λaf=>(v,af)) fr |>.bind λp _=>.ok p.1 p.2
   |none=>.bad
  |none=>.bad
 else .bad
mutual
noncomputable def ev(P:aM):Bool->E->Fr->R V
 |_,.c d,fr=>R.of (ofD d) fr
 |k,.v i,fr=>R.of (mL k fr i) fr
 |_,.tup es,fr=>(bX P false es fr).bind λds af=>R.of (jD ds) af
 |_,.lst es,fr=>(bX P false es fr).bind λds af=>R.of (dz ds) af
 |_,.bin o a b,fr=>(ev P (kf a (bE b)) a fr).bind λx af=>(ev P true b af).bind λy ao=>R.of (bK o x y) ao
 |_,.cmp o a b,fr=>(ev P (kf a (bE b)) a fr).bind λx af=>(ev P true b af).bind λy ao=>R.of ((cop o x y).map .bl) ao
 |_,.gY,_=>.bad
 |_,.wQ a b,fr=>(ev P (kf a (bE b)) a fr).bind λx af=>(ev P true b af).bind λy ao=>R.of (Dm x y) ao
 |_,.lT a b c,fr=>(ev P (kf a (bE b++bE c)) a fr).bind λx af=>(ev P (kf b (bE c)) b af).bind λy ao=>(ev P false c ao).bind λz bx=>R.of (uD x y z) bx
 |_,.nt a,fr=>(ev P true a fr).bind λx af=>match x with
   |.bl b=>.ok (.bl (!b)) af
   |_=>.bad
 |_,.neg a,fr=>(ev P true a fr).bind λx af=>match x with
   |.int i=>.ok (.int (-i)) af
   |_=>.bad
 |k,.an a b,fr=>(ev P true a fr).bind λx af=>match x with
   |.bl true=>ev P k b af
   |.bl false=>.ok (.bl false) af
   |_=>.bad
 |k,.orr a b,fr=>(ev P true a fr).bind λx af=>match x with
   |.bl true=>.ok (.bl true) af
   |.bl false=>ev P k b af
   |_=>.bad
 |k,.jT t a b,fr=>(aF P t fr).bind λc af=>if c then ev P k a af else ev P k b af
 |_,.ix a b,fr=>(ev P (kf a (bE b)) a fr).bind λx af=>(ev P true b af).bind λy ao=>R.of (ee x y) ao
 |_,.sl a lo hi,fr=>(ev P (kf a (ki lo++ki hi)) a fr).bind λx af=>(fL P lo af).bind λl ao=>(fL P hi ao).bind λu bx=>R.of (fP x l u) bx
 |_,.rv a,fr=>(ev P true a fr).bind λx af=>R.of (kD x) af
 |_,.cl f es,fr=>(fM P es fr).bind λas af=>cQ P f as af
 |_,.bi b es,fr=>(bX P true es fr).bind λds af=>R.of (cC b ds) af
 |_,.me m o es,fr=>if iL m then match kF fr o with
   |some i=>(bX P (Bk m) es fr).bind λds af=>match af[i]? with
    |some (some (.own l))=>match jW m l ds with
     |some (v,l')=>.ok v (af.set i (some (.own l')))
     |none=>.bad
    |some (some (.bor l))=>match jW m l ds with
     |some (v,l')=>.ok v (af.set i (some (.bor l')))
     |none=>.bad
    |_=>.bad
   |none=>.bad
  else (ev P (kf o (fQ es)) o fr).bind λx af=>(bX P true es af).bind λds ao=>R.of (eZ m x ds) ao
 |_,.comp elt t it cond,fr=>(cz P true it fr).bind λs af=>if undef t af then
   R.of ((cJ (λd=>match br t d (r8 af)with
    |none=>none
    |some ao=>match gZ P cond ao with
     |.ok c _=>if c then (match ev P false elt ao with|.ok x _=>some (some x)|.bad=>none)else some none
     |.bad=>none) s).bind dz) af else .bad
 |_,.je it,fr=>(cz P true it fr).bind λs af=>R.of (dz s) af
 |_,.iZ kvs a,fr=>(ev P true a fr).bind λx af=>R.of (eL x kvs) af
 |_,.iz a,fr=>(ev P true a fr).bind λx af=>R.of (toT x) af
termination_by _ e=>(sizeOf e,0)
noncomputable def bX(P:aM):Bool->Es->Fr->R (List V)
 |_,.nil,fr=>.ok [] fr
 |k,.cons e es,fr=>(ev P (k&&kf e (fQ es)) e fr).bind λd af=>(bX P k es af).bind λds ao=>.ok (d :: ds) ao
termination_by _ e=>(sizeOf e,0)
noncomputable def fM(P:aM):Es->Fr->R (List (Nat ⊕ V))
 |.nil,fr=>.ok [] fr
 |.cons e es,fr=>match kF fr e with
   |some i=>(fM P es fr).bind λr af=>.ok (.inl i :: r) af
   |none=>(ev P false e fr).bind λd af=>(fM P es af).bind λr ao=>.ok (.inr d :: r) ao
termination_by e=>(sizeOf e,0)
noncomputable def fL(P:aM):Eo->Fr->R (Option Int)
 |.no,fr=>.ok none fr
 |.yes e,fr=>(ev P true e fr).bind λd af=>R.of ((intOf d).map some) af
termination_by e=>(sizeOf e,0)
noncomputable def gZ(P:aM):Eo->Fr->R Bool
 |.no,fr=>.ok true fr
 |.yes e,fr=>aF P e fr
termination_by e=>(sizeOf e,0)
noncomputable def aF(P:aM):E->Fr->R Bool
 |.an a b,fr=>(aF P a fr).bind λk af=>if k then aF P b af else .ok false af
 |.orr a b,fr=>(aF P a fr).bind λk af=>if k then .ok true af else aF P b af
 |.nt a,fr=>(aF P a fr).bind λk af=>.ok (!k) af
 |e,fr=>(ev P true e fr).bind λx af=>.ok (truthy x) af
termination_by e=>(sizeOf e,1)
noncomputable def cz(P:aM):Bool->It->Fr->R (List V)
 |k,.seq e,fr=>(src k fr e (ev P k e fr)).bind λx af=>R.of (fk x) af
 |_,.gk es,fr=>(bX P true es fr).bind λds af=>R.of (fy ds) af
 |k,.enum a,fr=>(src k fr a (ev P k a fr)).bind λx af=>R.of ((om x).map λs=>gq 0 s) af
 |_,.rev a,fr=>(ev P true a fr).bind λx af=>R.of ((yZ x).map λs=>s.reverse) af
termination_by _ e=>(sizeOf e,0)
end
noncomputable def isNew:E->Bool
 |.lst _=>true
 |.je _=>true
 |_=>false
noncomputable def jE(P:aM)(f:Nat):List V->List (Int×List Nat)->Option (List (Int×List Nat))
 |[],k=>some k
 |v :: vs,k=>match P f [.val v]with
  |some (.dct m,[])=>if k.length+m.length<=100000 then jE P f vs (Ev.b7 k m)else none
  |_=>none
noncomputable def iM(fr:Fr)(x:Nat)(vs:List V):Option Fr:=match vs.getLast? with
 |some v=>put fr x (.val v)
 |none=>some fr
mutual
noncomputable def ex(P:aM)(w:Nat):S->Fr->R Fl
 |.set i e,fr=>(ev P false e fr).bind λx af=>if isNew e then (match x with
   |.lst l=>(R.of (put af i (.own l)) af).bind λao _=>.ok .nx ao
   |_=>.bad)
  else (R.of (put af i (.val x)) af).bind λao _=>.ok .nx ao
 |.yD l e,fr=>(ev P false e fr).bind λx af=>(R.of (br (.many l) x af) af).bind λao _=>.ok .nx ao
 |.dput _ _ _,_=>.bad
 |.oM _ _,_=>.bad
 |.ja i x y f,fr=>if i≠y/\x≠i/\i<fr.length/\x<fr.length then (cz P false (.seq (.v y)) (kW [y] fr)).bind λvs af=>(R.of (jE P f vs []) af).bind λk ao=>(R.of (put ao i (.val (.dct k))) ao).bind λbx _=>(R.of (iM bx x vs) bx).bind λgm _=>.ok .nx gm else .bad
 |.exp e,fr=>(ev P true e fr).bind λ_ af=>.ok .nx af
 |.ret e,fr=>(ev P false e (fZ fr)).bind λx af=>.ok (.ret x) af
 |.iff t a b,fr=>(aF P t fr).bind λk af=>if k then exs P w a af else exs P w b af
 |.for t it b,fr=>(cz P false it (kW (itv it) fr)).bind λs af=>forL (λd ao=>match br t d ao with
   |some bx=>exs P w b bx
   |none=>.bad) s af
 |.o8 t b,fr=>dQ (λao=>aF P t ao) (λao=>exs P w b ao) w fr
 |.gf,_=>.bad
noncomputable def exs(P:aM)(w:Nat):Ss->Fr->R Fl
 |.nil,fr=>.ok .nx fr
 |.cons s ss,fr=>(ex P w s fr).bind λp af=>match p with
   |.nx=>exs P w ss af
   |p=>.ok p af
end
noncomputable def eS(fn:Fn)(ds:List Sl):Fr:=ds.map some++List.replicate (fn.ns - fn.np) none
noncomputable def outs(np:Nat)(fr:Fr):List (List V):=(fr.take np).filterMap λo=>o.bind Sl.out
noncomputable def E7:Ss:=.cons (.dput (.v 1) (.v 2) (.v 4)) (.cons (.set 2 (.bin .add (.v 2) (.c (.int 1)))) .nil)
noncomputable def uE:Ss:=.cons (.iff (.cmp .eq (.ix (.v 3) (.c (.int 0))) (.c (.str [100,114,111,112]))) (.cons (.for (.one 4) (.seq (.ix (.v 3) (.c (.int 1)))) E7) .nil) (.cons (.iff (.cmp .eq (.ix (.v 3) (.c (.int 0))) (.c (.str [107,101,101,112]))) (.cons (.set 2 (.bin .add (.v 2) (.ix (.v 3) (.c (.int 1))))) .nil) .nil) .nil)) .nil
noncomputable def gi:Fn:=⟨1,5,.cons (.set 1 .gY) (.cons (.set 2 (.c (.int 0))) (.cons (.for (.one 3) (.seq (.v 0)) uE) (.cons (.ret (.v 1)) .nil)))⟩
noncomputable def gj:List (Int×List Nat)->Int->List Nat->List (Int×List Nat)
 |k,_,[]=>k
 |k,p,c :: s=>gj (Ev.cD k p [c]) (p+1) s
noncomputable def aX:List V->Int->List (Int×List Nat)->Option (List (Int×List Nat))
 |[],_,k=>some k
 |.tup [.str w,.str s] :: r,p,k=>if w=[100,114,111,112]then (if k.length+s.length<=100000 then aX r (p+s.length) (gj k p s)else none)else if w=[107,101,101,112]then none else aX r p k
 |.tup [.str w,.int i] :: r,p,k=>if w=[107,101,101,112]then aX r (p+i) k else none
 |_ :: _,_,_=>none
open Classical in
noncomputable def xA(fn:Fn)(ds:List Sl):Option (V×List (List V)):=if fn=gi then match ds with
  |[.val (.tup l)]=>(aX l 0 []).map λk=>(.dct k,[])
  |_=>none
 else none
noncomputable def run(F:List Fn)(w:Nat):Nat->aM
 |0,_,_=>none
 |n+1,f,ds=>match F[f]? with
  |some fn=>if ds.length=fn.np then match exs (run F w n) w fn.body (eS fn ds)with
    |.ok (.ret v) fr=>some (v,outs fn.np fr)
    |.ok .nx fr=>some (.aG,outs fn.np fr)
    |_=>xA fn ds
   else none
  |none=>none
end Pv
namespace Pv
open Ev (D O Hh bO bJ TY BI ME T E Es Eo It S Ss Fn big deep b2i rep cj dF bI aQ cut cI dX slots bf)
section
variable(h:Hh)(S:Nat->Prop)
mutual
noncomputable def Rep:V->D->Prop
 |.aG,d=>d=.aG
 |.bl b,d=>d=.bl b
 |.int i,d=>d=.int i
 |.str s,d=>d=.str s
 |.tup l,d=>∃ds,d=.tup ds/\aq l ds
 |.lst l,d=>∃n ds,d=.ref n/\S n/\h[n]?=some (.lst ds)/\aq l ds
 |.bL l,d=>∃n ds,d=.ref n/\S n/\h[n]?=some (.bL ds)/\aq l ds
 |.dct kvs,d=>∃n,d=.ref n/\S n/\h[n]?=some (.dct kvs)
noncomputable def aq:List V->List D->Prop
 |[],ds=>ds=[]
 |v :: vs,ds=>∃d es,ds=d :: es/\Rep v d/\aq vs es
end
noncomputable def aY:V->D->Prop
 |.lst l,d=>∃n ds,d=.ref n/\h[n]?=some (.lst ds)/\aq h S l ds
 |v,d=>Rep h S v d
noncomputable def fN:List V->List D->Prop
 |[],ds=>ds=[]
 |v :: vs,ds=>∃d es,ds=d :: es/\aY h S v d/\fN vs es
end
abbrev U:Nat->Prop:=λ_=>True
section
variable{h h':Hh}{S S':Nat->Prop}
mutual
theorem Rep.mono(f:∀m,S m->h'[m]?=h[m]?)(g:∀m,S m->S' m):∀{v:V}{d:D},Rep h S v d->Rep h' S' v d
 |.aG,_,q=>q
 |.bl _,_,q=>q
 |.int _,_,q=>q
 |.str _,_,q=>q
 |.tup l,_,⟨ds,a,b⟩=>⟨ds,a,aq.mono f g b⟩
 |.lst l,_,⟨n,ds,a,b,c,e⟩=>⟨n,ds,a,g n b,by rw[f n b];exact c,aq.mono f g e⟩
 |.bL l,_,⟨n,ds,a,b,c,e⟩=>⟨n,ds,a,g n b,by rw[f n b];exact c,aq.mono f g e⟩
 |.dct kvs,_,⟨n,a,b,c⟩=>⟨n,a,g n b,by rw[f n b];exact c⟩
theorem aq.mono(f:∀m,S m->h'[m]?=h[m]?)(g:∀m,S m->S' m):∀{v:List V}{d:List D},aq h S v d->aq h' S' v d
 |[],_,q=>q
 |_ :: _,_,⟨d,es,a,b,c⟩=>⟨d,es,a,Rep.mono f g b,aq.mono f g c⟩
end
theorem aq.nil:aq h S [] []:=by simp[aq]
theorem aq.cons{v:V}{d:D}{vs:List V}{ds:List D}(a:Rep h S v d)(b:aq h S vs ds):aq h S (v :: vs) (d :: ds):=by simp only[aq];exact⟨d,ds,rfl,a,b⟩
theorem Rep.top{v:V}{d:D}(q:Rep h S v d):aY h S v d:=by
 cases v<;>first|exact q | (obtain⟨n,ds,a,b,c,e⟩:=q;exact⟨n,ds,a,c,e⟩)
theorem aY.u{v:V}{d:D}(q:aY h S v d):Rep h U v d:=by
 cases v with
 |lst l=>obtain⟨n,ds,a,b,c⟩:=q;exact⟨n,ds,a,trivial,b,c.mono (λ_ _=>rfl) λ_ _=>trivial⟩
 |_=>exact Rep.mono (S:=S) (λ_ _=>rfl) (λ_ _=>trivial) q
theorem aq.u{v:List V}{d:List D}(q:aq h S v d):aq h U v d:=q.mono (λ_ _=>rfl) λ_ _=>trivial
theorem aY.mono{v:V}{d:D}(f:∀m,m<h.length->h'[m]?=h[m]?)(k:∀m,S m->m<h.length)(g:∀m,S m->S' m)(q:aY h S v d):aY h' S' v d:=by
 cases v with
 |lst l=>
  obtain⟨n,ds,a,b,c⟩:=q;exact⟨n,ds,a,by rw[f n (List.getElem?_eq_some_iff.mp b).1];exact b,c.mono (λm z=>f m (k m z)) g⟩
 |_=>exact Rep.mono (λm z=>f m (k m z)) g q
theorem aq.length:∀{v:List V}{d:List D},aq h S v d->v.length=d.length
 |[],_,q=>by simp only[aq]at q;subst q;rfl
 |_ :: _,_,q=>by simp only[aq]at q;obtain⟨d,es,rfl,_,c⟩:=q;simp[c.length]
theorem aq.get:∀{v:List V}{d:List D}{i:Nat}{x:V},aq h S v d->v[i]?=some x->∃y,d[i]?=some y/\Rep h S x y
 |[],_,_,_,_,e=>by simp at e
 |_ :: _,_,0,_,q,e=>by
  simp only[aq]at q;obtain⟨d,es,rfl,b,_⟩:=q;simp at e;subst e;exact⟨d,by simp,b⟩
 |_ :: _,_,i+1,_,q,e=>by
  simp only[aq]at q;obtain⟨d,es,rfl,_,c⟩:=q;obtain⟨y,a,b⟩:=c.get (i:=i) (by simpa using e);exact⟨y,by simpa using a,b⟩
theorem aq.append:∀{v w:List V}{d e:List D},aq h S v d->aq h S w e->aq h S (v++w) (d++e)
 |[],_,_,_,a,b=>by simp only[aq]at a;subst a;simpa using b
 |_ :: _,_,_,_,a,b=>by
  simp only[aq]at a;obtain⟨d,es,rfl,x,y⟩:=a;exact .cons x (y.append b)
theorem aq.take:∀{v:List V}{d:List D}(n:Nat),aq h S v d->aq h S (v.take n) (d.take n)
 |_,_,0,_=>by simp[aq]
 |[],_,_+1,a=>by simp only[aq]at a;subst a;simp[aq]
 |_ :: _,_,n+1,a=>by
  simp only[aq]at a;obtain⟨d,es,rfl,x,y⟩:=a;simp only[List.take_succ_cons];exact .cons x (y.take n)
theorem aq.drop:∀{v:List V}{d:List D}(n:Nat),aq h S v d->aq h S (v.drop n) (d.drop n)
 |_,_,0,a=>by simpa using a
 |[],_,_+1,a=>by simp only[aq]at a;subst a;simp[aq]
 |_ :: _,_,n+1,a=>by
  simp only[aq]at a;obtain⟨d,es,rfl,x,y⟩:=a;simp only[List.drop_succ_cons];exact y.drop n
theorem aq.dropLast:∀{v:List V}{d:List D},aq h S v d->aq h S v.dropLast d.dropLast:=λ{v d} a=>by
 rw[List.dropLast_eq_take,List.dropLast_eq_take,a.length];exact a.take _
theorem aq.reverse:∀{v:List V}{d:List D},aq h S v d->aq h S v.reverse d.reverse
 |[],_,a=>by simp only[aq]at a;subst a;simp[aq]
 |_ :: _,_,a=>by
  simp only[aq]at a;obtain⟨d,es,rfl,x,y⟩:=a;simp only[List.reverse_cons];exact y.reverse.append (.cons x .nil)
theorem aq.rep{v:List V}{d:List D}(a:aq h S v d):∀k:Nat,aq h S (Ev.rep k v) (Ev.rep k d)
 |0=>by simp[Ev.rep,aq]
 |k+1=>by
  have z:=aq.rep a k;simp only[Ev.rep,List.replicate_succ,List.flatten_cons]at z ⊢;exact a.append z
theorem aq.cut{v:List V}{d:List D}(a:aq h S v d)(lo hi:Option Int):aq h S (Ev.cut v lo hi) (Ev.cut d lo hi):=by
 unfold Ev.cut;rw[a.length];exact(a.drop _).take _
theorem aq.map{α:Type}{f:α->V}{g:α->D}(q:∀a,Rep h S (f a) (g a)):∀l:List α,aq h S (l.map f) (l.map g)
 |[]=>.nil
 |_ :: l=>.cons (q _) (aq.map q l)
mutual
theorem Rep.uniq:∀{v w:V}{d:D},Rep h U v d->Rep h U w d->v=w
 |.aG,w,_,a,b=>by simp only[Rep]at a;subst a;cases w<;>simp[Rep]at b<;>rfl
 |.bl _,w,_,a,b=>by simp only[Rep]at a;subst a;cases w<;>simp[Rep]at b<;>rw[b]
 |.int _,w,_,a,b=>by simp only[Rep]at a;subst a;cases w<;>simp[Rep]at b<;>rw[b]
 |.str _,w,_,a,b=>by simp only[Rep]at a;subst a;cases w<;>simp[Rep]at b<;>rw[b]
 |.tup l,w,_,a,b=>by
  simp only[Rep]at a;obtain⟨ds,rfl,a⟩:=a;cases w<;>simp[Rep]at b
  rw[aq.uniq a b]
 |.lst l,w,_,a,b=>by
  simp only[Rep]at a;obtain⟨n,ds,rfl,_,a1,a⟩:=a;cases w<;>simp[Rep]at b
  .obtain⟨ds',b1,b⟩:=b;rw[a1]at b1;cases b1;rw[aq.uniq a b]
  .obtain⟨ds',b1,b⟩:=b;rw[a1]at b1;cases b1
  .rw[a1]at b;cases b
 |.bL l,w,_,a,b=>by
  simp only[Rep]at a;obtain⟨n,ds,rfl,_,a1,a⟩:=a;cases w<;>simp[Rep]at b
  .obtain⟨ds',b1,b⟩:=b;rw[a1]at b1;cases b1
  .obtain⟨ds',b1,b⟩:=b;rw[a1]at b1;cases b1;rw[aq.uniq a b]
  .rw[a1]at b;cases b
 |.dct kvs,w,_,a,b=>by
  simp only[Rep]at a;obtain⟨n,rfl,_,a1⟩:=a;cases w<;>simp[Rep]at b
  .obtain⟨ds',b1,b⟩:=b;rw[a1]at b1;cases b1
  .obtain⟨ds',b1,b⟩:=b;rw[a1]at b1;cases b1
  .rw[a1]at b;cases b;rfl
theorem aq.uniq:∀{v w:List V}{d:List D},aq h U v d->aq h U w d->v=w
 |[],w,_,a,b=>by simp only[aq]at a;subst a;cases w<;>simp[aq]at b;rfl
 |x :: xs,w,_,a,b=>by
  simp only[aq]at a;obtain⟨d,es,rfl,a1,a2⟩:=a;cases w<;>simp only[aq]at b
  .cases b
  obtain⟨d',es',e,b1,b2⟩:=b;cases e;rw[Rep.uniq a1 b1,aq.uniq a2 b2]
end
theorem uF{n:Nat}(f:∀v b,eT n v v=some b->b=true):∀l b,cS (eT n) l l=some b->b=true
 |[],b,e=>by simp[cS]at e;exact e
 |x :: xs,b,e=>by
  simp only[cS,Option.bind_eq_some_iff]at e;obtain⟨c,e1,c2,e2,e⟩:=e;rw[f x c e1,uF f xs c2 e2]at e;simpa using e.symm
theorem uG:∀n v b,eT n v v=some b->b=true
 |0,_,_,e=>by cases e
 |n+1,v,b,e=>by
  cases v<;>first|exact uF (uG n) _ _ e | (cases e<;>first|rfl|exact beq_self_eq_true _)
theorem uH{n:Nat}(f:∀{v w:V}{d e:D}{b},eT n v w=some b->Rep h U v d->Rep h U w e->Ev.gg h n d e=some b):∀{l m:List V}{ds es:List D}{b},cS (eT n) l m=some b->aq h U l ds->aq h U m es->Ev.cS (Ev.gg h n) ds es=some b
 |[],[],_,_,b,e,p,q=>by simp only[aq]at p q;subst p q;simpa[cS,Ev.cS]using e
 |[],_ :: _,_,_,b,e,p,q=>by simp only[aq]at p q;subst p;obtain⟨_,_,rfl,_⟩:=q;simpa[cS,Ev.cS]using e
 |_ :: _,[],_,_,b,e,p,q=>by simp only[aq]at p q;subst q;obtain⟨_,_,rfl,_⟩:=p;simpa[cS,Ev.cS]using e
 |x :: xs,y :: ys,_,_,b,e,p,q=>by
  simp only[aq]at p q;obtain⟨d,ds,rfl,p1,p2⟩:=p;obtain⟨d',ds',rfl,q1,q2⟩:=q;simp only[cS,Option.bind_eq_some_iff]at e;obtain⟨c,e1,c2,e2,e⟩:=e;simp[Ev.cS,f e1 p1 q1,uH f e2 p2 q2];simpa using e
theorem ig{n:Nat}{ds:List D}(q:h[n]?=some (.lst ds)):bf h n=some ds:=by simp[bf,q]
theorem iC{n:Nat}{ds:List D}(q:h[n]?=some (.bL ds)):bf h n=some ds:=by simp[bf,q]
theorem kG:∀(n:Nat) {v w:V}{d e:D}{b},eT n v w=some b->Rep h U v d->Rep h U w e->Ev.gg h n d e=some b
  |0,_,_,_,_,_,e,_,_=>by cases e
  |n+1,v,w,d,e,b,x,p,q=>by
    by_cases hr:∃m,d=.ref m/\e=.ref m
    . obtain⟨m,rfl,rfl⟩:=hr;have hvw:=p.uniq q;subst hvw;have hb:=uG _ _ _ x;subst hb;cases v<;>simp[Rep]at p
      . obtain⟨ds,p1,p2⟩:=p;show Ev.jB _ _ _ _=_;rw[Ev.jB,if_pos rfl,ig p1];rfl
      . obtain⟨ds,p1,p2⟩:=p;show Ev.jB _ _ _ _=_;rw[Ev.jB,if_pos rfl,iC p1];rfl
      . cases x
    . cases v<;>cases w<;>simp only[Rep]at p q <;>
      first
      | (subst p;subst q;exact x)
      | (obtain⟨ds,rfl,p⟩:=p;subst q;exact x)
      | (obtain⟨ds,rfl,q⟩:=q;subst p;exact x)
      | (obtain⟨ds,rfl,p⟩:=p;obtain⟨es,rfl,q⟩:=q;exact uH (λa b c=>kG n a b c) x p q)
      | (cases x;done)
      | (obtain⟨m,ds,rfl,_,p1,p⟩:=p;obtain⟨k,es,rfl,_,q1,q⟩:=q
         have hne:m≠k:=λz=>hr ⟨m,rfl,by rw[z]⟩;show Ev.jB _ _ _ _=_;rw[Ev.jB,if_neg hne,p1,q1];exact uH (λa b c=>kG n a b c) x p q)
      | (cases x;obtain⟨m,ds,rfl,_,p1,p⟩:=p;subst q;exact congrArg (Option.map λ_=>false) (ig p1))
      | (cases x;obtain⟨m,ds,rfl,_,p1,p⟩:=p;subst q;exact congrArg (Option.map λ_=>false) (iC p1))
      | (cases x;obtain⟨m,ds,rfl,_,p1,p⟩:=p;obtain⟨es,rfl,q⟩:=q;exact congrArg (Option.map λ_=>false) (ig p1))
      | (cases x;obtain⟨m,ds,rfl,_,p1,p⟩:=p;obtain⟨es,rfl,q⟩:=q;exact congrArg (Option.map λ_=>false) (iC p1))
      | (cases x;obtain⟨m,ds,rfl,_,q1,q⟩:=q;subst p;exact congrArg (Option.map λ_=>false) (ig q1))
      | (cases x;obtain⟨m,ds,rfl,_,q1,q⟩:=q;subst p;exact congrArg (Option.map λ_=>false) (iC q1))
      | (cases x;obtain⟨m,ds,rfl,_,q1,q⟩:=q;obtain⟨es,rfl,p⟩:=p;exact congrArg (Option.map λ_=>false) (ig q1))
      | (cases x;obtain⟨m,ds,rfl,_,q1,q⟩:=q;obtain⟨es,rfl,p⟩:=p;exact congrArg (Option.map λ_=>false) (iC q1))
end
end Pv
namespace Pv
open Ev (D O Hh bO bJ TY BI ME T E Es Eo It S Ss Fn big deep b2i rep cj dF bI aQ cut cI dX slots bf)
structure Al(h:Hh)(S:Nat->Prop)(h':Hh)(S':Nat->Prop):Prop where
 len:h.length<=h'.length
 keep:∀m,m<h.length->h'[m]?=h[m]?
 sub:∀m,S m->S' m
 new:∀m,S' m->S m\/(h.length<=m/\m<h'.length)
section
variable{h h':Hh}{S S':Nat->Prop}
theorem Al.refl:Al h S h S:=⟨Nat.le_refl _,λ_ _=>rfl,λ_ q=>q,λ_ q=>.inl q⟩
theorem Al.snoc(o:O):Al h S (h++[o]) (λm=>S m\/m=h.length) where
 len:=by simp
 keep:=λm q=>by rw[List.getElem?_append_left q]
 sub:=λ_ q=>.inl q
 new:=λm q=>by
  rcases q with q|q
  .exact .inl q
  .subst q;exact .inr ⟨Nat.le_refl _,by simp⟩
theorem fR{l:List V}{v:V}{ds:List D}(w:∀m,S m->m<h.length)(e:dz l=some v)(q:aq h S l ds):∃r h' S',Ev.alloc ds h=.ok r h'/\Rep h' S' v r/\Al h S h' S':=by
 unfold dz at e;split at e
 .rename_i z;cases e;refine⟨.ref h.length,h++[.lst ds],λm=>S m\/m=h.length,by unfold Ev.alloc;rw[if_pos (by rw[<-q.length];exact z)],?_,Al.snoc _⟩;simp only[Rep];refine⟨h.length,ds,rfl,.inr rfl,by simp,q.mono (λm z=>?_) λ_ z=>.inl z⟩;rw[List.getElem?_append_left (w m z)]
 .cases e
theorem kH{v:V}{l:List V}{d:D}(e:om v=some l)(q:aY h S v d):∃n ds,d=.ref n/\bf h n=some ds/\aq h S l ds:=by
 cases v<;>simp[om]at e
 .subst e;simp only[aY]at q;obtain⟨n,ds,rfl,a,b⟩:=q;exact⟨n,ds,rfl,ig a,b⟩
 .subst e;simp only[aY,Rep]at q;obtain⟨n,ds,rfl,_,a,b⟩:=q;exact⟨n,ds,rfl,iC a,b⟩
mutual
theorem mP:∀{d:D}{v:V},ofD d=some v->Rep h S v d
 |.aG,_,e=>by simp[ofD]at e;subst e;simp[Rep]
 |.bl _,_,e=>by simp[ofD]at e;subst e;simp[Rep]
 |.int _,_,e=>by simp[ofD]at e;subst e;simp[Rep]
 |.str _,_,e=>by simp[ofD]at e;subst e;simp[Rep]
 |.ref _,_,e=>by simp[ofD]at e
 |.tup ds,_,e=>by
  simp[ofD]at e;obtain⟨vs,e,rfl⟩:=e;exact⟨ds,rfl,xB e⟩
theorem xB:∀{d:List D}{v:List V},uC d=some v->aq h S v d
 |[],_,e=>by simp[uC]at e;subst e;exact .nil
 |d :: ds,_,e=>by
  simp only[uC,Option.bind_eq_some_iff,Option.map_eq_some_iff]at e;obtain⟨v,e1,vs,e2,rfl⟩:=e;exact .cons (mP e1) (xB e2)
end
theorem aq.emp{l:List V}{ds:List D}(q:aq h S l ds):ds.isEmpty=l.isEmpty:=by
 have:=q.length;cases l<;>cases ds<;>simp at this ⊢
theorem K8{v:V}{d:D}{kvs:List (Int×List Nat)}(z:K7 v=some kvs)(p:aY h S v d):∃n,d=.ref n/\h[n]?=some (.dct kvs):=by
 cases v<;>simp only[K7,reduceCtorEq,Option.some.injEq]at z
 subst z;simp only[aY,Rep]at p;obtain⟨n,rfl,_,a⟩:=p;exact⟨n,rfl,a⟩
theorem Bm{v:V}{d:D}(q:aY h S v d):Ev.truthy h d=some (truthy v):=by
 cases v<;>simp only[aY,Rep]at q
 .subst q;rfl
 .subst q;rfl
 .subst q;rfl
 .subst q;rfl
 .obtain⟨ds,rfl,q⟩:=q;simp only[Ev.truthy,truthy,q.emp]
 .obtain⟨n,ds,rfl,a,q⟩:=q;simp only[Ev.truthy,truthy,ig a,Option.map,q.emp];rw[a]
 .obtain⟨n,ds,rfl,_,a,q⟩:=q;simp only[Ev.truthy,truthy,iC a,Option.map,q.emp];rw[a]
 .obtain⟨n,rfl,_,a⟩:=q;simp only[Ev.truthy,truthy];rw[a]
theorem nn{α:Type}{v:α}{p:Prop}(z:none=some v):p:=Option.noConfusion rfl (heq_of_eq z)
theorem K9{o:bO}{x y v:V}{d e:D}(w:∀m,S m->m<h.length)(z:bK o x y=some v)(p:aY h S x d)(q:aY h S y e):∃r h' S',Ev.bK o d e h=.ok r h'/\Rep h' S' v r/\Al h S h' S':=by
 cases o<;>cases x<;>first|exact nn z | (cases y<;>first|exact nn z|skip)
 all_goals (delta bK at z;dsimp only at z;simp only[aY,Rep]at p q)
 .subst p q;cases z;exact⟨_,_,S,rfl,rfl,.refl⟩
 .subst p q;split at z
  .rename_i k;cases z;exact⟨_,_,S,by delta Ev.bK;dsimp only;rw[if_pos k],rfl,.refl⟩
  .cases z
 .obtain⟨ds,rfl,p⟩:=p;obtain⟨es,rfl,q⟩:=q;split at z
  .rename_i k;cases z;exact⟨_,_,S,by delta Ev.bK;dsimp only;rw[if_pos (by rw[<-p.length,<-q.length];exact k)],⟨_,rfl,p.append q⟩,.refl⟩
  .cases z
 .obtain⟨n,ds,rfl,a,p⟩:=p;obtain⟨m,es,rfl,b,q⟩:=q
  delta Ev.bK;dsimp only;simp only[a,b]
  exact fR w z (p.append q)
 .subst p q;cases z;exact⟨_,_,S,rfl,rfl,.refl⟩
 .subst p q;split at z
  .rename_i k;cases z;exact⟨_,_,S,by delta Ev.bK;dsimp only;rw[if_pos k],rfl,.refl⟩
  .cases z
 .subst p q;split at z
  .rename_i k;cases z;exact⟨_,_,S,by delta Ev.bK;dsimp only;rw[if_pos k],rfl,.refl⟩
  .cases z
 .obtain⟨ds,rfl,p⟩:=p;subst q;split at z
  .rename_i k;cases z;exact⟨_,_,S,by delta Ev.bK;dsimp only;rw[if_pos (by rw[<-p.length];exact k)],⟨_,rfl,p.rep _⟩,.refl⟩
  .cases z
 .obtain⟨n,ds,rfl,a,p⟩:=p;subst q;split at z
  .rename_i k
   delta Ev.bK;dsimp only;simp only[a]
   rw[if_pos (by rw[<-p.length];exact k)];exact fR w z (p.rep _)
  .cases z
 .subst p q;split at z
  .rename_i k;cases z;exact⟨_,_,S,by delta Ev.bK;dsimp only;rw[if_pos k],rfl,.refl⟩
  .cases z
 .subst p q;split at z
  .rename_i k;cases z;exact⟨_,_,S,by delta Ev.bK;dsimp only;rw[if_pos k],rfl,.refl⟩
  .cases z
theorem La{o:bJ}{x y:V}{d e:D}{b:Bool}(z:cop o x y=some b)(p:Rep h U x d)(q:Rep h U y e):Ev.cop o d e h=some b:=by
 cases o
 case eq=>delta cop at z;dsimp only at z;delta Ev.cop;dsimp only;exact kG deep z p q
 case ne=>
  delta cop at z;dsimp only at z;simp only[Option.map_eq_some_iff]at z;obtain⟨c,z,rfl⟩:=z
  delta Ev.cop;dsimp only;simp only[kG deep z p q];rfl
 case iR=>
  cases y <;> (delta cop at z;dsimp only at z) <;> (try simp only[reduceCtorEq]at z)
  simp only[Rep]at q;subst q;cases x<;>simp only[Rep]at p <;> (try obtain⟨_,rfl,_⟩:=p) <;> (try obtain⟨_,_,rfl,_⟩:=p) <;> (try subst p) <;> (delta Ev.cop;dsimp only;simpa using z)
 case iY=>
  cases y <;> (delta cop at z;dsimp only at z) <;> (try simp only[reduceCtorEq]at z)
  simp only[Rep]at q;subst q;cases x<;>simp only[Rep]at p <;> (try obtain⟨_,rfl,_⟩:=p) <;> (try obtain⟨_,_,rfl,_⟩:=p) <;> (try subst p) <;> (delta Ev.cop;dsimp only;simpa using z)
 all_goals (
  cases x<;>first|exact nn z | (cases y<;>first|exact nn z|skip)
  simp only[Rep]at p q;subst p q;exact z)
theorem y9{l:List V}{ds:List D}{i:Int}{v:V}(e:bI l i=some v)(q:aq h S l ds):∃d,bI ds i=some d/\Rep h S v d:=by
 unfold bI at e ⊢;rw[q.length]at e;cases z:dF ds.length i with
 |none=>rw[z]at e;cases e
 |some j=>rw[z]at e;exact q.get e
theorem Lb{x y v:V}{d e:D}(z:ee x y=some v)(p:aY h S x d)(q:aY h S y e):∃r,Ev.ee d e h=some r/\Rep h S v r:=by
 cases x<;>cases y<;>simp only[ee,reduceCtorEq]at z<;>simp only[aY,Rep]at p q
 .subst p q;simp only[Option.map_eq_some_iff]at z;obtain⟨c,z,rfl⟩:=z;exact⟨.str [c],by simp[Ev.ee,z],rfl⟩
 .obtain⟨ds,rfl,p⟩:=p;subst q;simpa[Ev.ee]using y9 z p
 .obtain⟨n,ds,rfl,a,p⟩:=p;subst q;simpa[Ev.ee,ig a]using y9 z p
 .obtain⟨n,ds,rfl,_,a,p⟩:=p;subst q;simpa[Ev.ee,iC a]using y9 z p
theorem Lc{x v:V}{d:D}{lo hi:Option Int}(w:∀m,S m->m<h.length)(z:fP x lo hi=some v)(p:aY h S x d):∃r h' S',Ev.fP d lo hi h=.ok r h'/\Rep h' S' v r/\Al h S h' S':=by
 cases x<;>simp only[fP,reduceCtorEq]at z<;>simp only[aY,Rep]at p
 .subst p;cases z;exact⟨_,_,S,rfl,rfl,.refl⟩
 .obtain⟨ds,rfl,p⟩:=p;cases z;exact⟨_,_,S,rfl,⟨_,rfl,p.cut _ _⟩,.refl⟩
 .obtain⟨n,ds,rfl,a,p⟩:=p;simp only[Ev.fP,ig a];exact fR w z (p.cut _ _)
 .obtain⟨n,ds,rfl,_,a,p⟩:=p;simp only[Ev.fP,iC a];exact fR w z (p.cut _ _)
theorem Le{x v:V}{d:D}(w:∀m,S m->m<h.length)(z:kD x=some v)(p:aY h S x d):∃r h' S',Ev.kD d h=.ok r h'/\Rep h' S' v r/\Al h S h' S':=by
 cases x<;>simp only[kD,reduceCtorEq]at z<;>simp only[aY,Rep]at p
 .obtain⟨ds,rfl,p⟩:=p;cases z;exact⟨_,_,S,rfl,⟨_,rfl,p.reverse⟩,.refl⟩
 .obtain⟨n,ds,rfl,a,p⟩:=p;simp only[Ev.kD,ig a];exact fR w z p.reverse
 .obtain⟨n,ds,rfl,_,a,p⟩:=p;simp only[Ev.kD,iC a];exact fR w z p.reverse
theorem Lf{x v:V}{d:D}(z:toT x=some v)(p:aY h S x d):∃r,Ev.qw d h=.ok r h/\Rep h S v r:=by
 cases x<;>simp only[toT,reduceCtorEq]at z<;>simp only[aY,Rep]at p
 .obtain⟨ds,rfl,p⟩:=p;cases z;exact⟨_,rfl,⟨_,rfl,p⟩⟩
 .obtain⟨n,ds,rfl,a,p⟩:=p;unfold jD at z;split at z
  .rename_i k;cases z;refine⟨.tup ds,?_,⟨_,rfl,p⟩⟩;simp only[Ev.qw,ig a];rw[if_pos (by rw[<-p.length];exact k)]
  .cases z
 .obtain⟨n,ds,rfl,_,a,p⟩:=p;unfold jD at z;split at z
  .rename_i k;cases z;refine⟨.tup ds,?_,⟨_,rfl,p⟩⟩;simp only[Ev.qw,iC a];rw[if_pos (by rw[<-p.length];exact k)]
  .cases z
theorem G9{x:V}{l:List V}{d:D}(z:om x=some l)(p:aY h S x d):∃s,Ev.CV h d=some s/\aq h S l s.1/\(∀q∈s.2,d=.ref q.1/\bf h q.1=some q.2):=by
 obtain⟨n,ds,rfl,a,q⟩:=kH z p;exact⟨(ds,[(n,ds)]),by simp[Ev.CV,a],q,by simp[a]⟩
theorem uI:∀{l:List V}{ds:List D}{bs},boolsOf l=some bs->aq h S l ds->Ev.boolsOf ds=some bs
 |[],_,_,e,q=>by simp only[aq]at q;subst q;exact e
 |x :: xs,_,bs,e,q=>by
  cases x<;>simp only[boolsOf,reduceCtorEq,Option.map_eq_some_iff]at e
  obtain⟨r,e,rfl⟩:=e;simp only[aq,Rep]at q;obtain⟨_,ds,rfl,rfl,q⟩:=q;simp[Ev.boolsOf,uI e q]
theorem qH:∀{l:List V}{ds:List D}{bs},intsOf l=some bs->aq h S l ds->Ev.intsOf ds=some bs
 |[],_,_,e,q=>by simp only[aq]at q;subst q;exact e
 |x :: xs,_,bs,e,q=>by
  cases x<;>simp only[intsOf,reduceCtorEq,Option.map_eq_some_iff]at e
  obtain⟨r,e,rfl⟩:=e;simp only[aq,Rep]at q;obtain⟨_,ds,rfl,rfl,q⟩:=q;simp[Ev.intsOf,qH e q]
theorem xC:∀{l:List V}{ds:List D}{bs},strsOf l=some bs->aq h S l ds->Ev.strsOf ds=some bs
 |[],_,_,e,q=>by simp only[aq]at q;subst q;exact e
 |x :: xs,_,bs,e,q=>by
  cases x<;>simp only[strsOf,reduceCtorEq,Option.map_eq_some_iff]at e
  obtain⟨r,e,rfl⟩:=e;simp only[aq,Rep]at q;obtain⟨_,ds,rfl,rfl,q⟩:=q;simp[Ev.strsOf,xC e q]
theorem fN.one{v:V}{ds:List D}(q:fN h S [v] ds):∃d,ds=[d]/\aY h S v d:=by
 simp only[fN]at q;obtain⟨d,es,rfl,a,rfl⟩:=q;exact⟨d,rfl,a⟩
theorem Lh{b:BI}{xs:List V}{v:V}{ds:List D}(w:∀m,S m->m<h.length)(z:cC b xs=some v)(p:fN h S xs ds):∃r h' S',Ev.cC b ds h=.ok r h'/\Rep h' S' v r/\Al h S h' S':=by
 delta cC at z
 rcases xs with _|⟨x,_|⟨y,_|⟨u,xs⟩⟩⟩
 .cases b<;>exact nn z
 .obtain⟨d,rfl,p1⟩:=p.one;cases b
  case len=>
   cases x
   case str s=>
    dsimp only at z;simp only[aY,Rep]at p1;subst p1;split at z
    .rename_i k;cases z;exact⟨_,_,S,by delta Ev.cC;dsimp only;rw[if_pos k],rfl,.refl⟩
    .cases z
   case tup l=>
    dsimp only at z;simp only[aY,Rep]at p1;obtain⟨es,rfl,p2⟩:=p1;cases z;exact⟨_,_,S,rfl,by simp[Rep,p2.length],.refl⟩
   all_goals
    dsimp only at z;simp only[Option.map_eq_some_iff]at z;obtain⟨l,z,rfl⟩:=z;obtain⟨n,es,rfl,a,q⟩:=kH z p1;exact⟨.int es.length,h,S,by delta Ev.cC;dsimp only;simp[a],by simp[Rep,q.length],.refl⟩
  case all=>
   dsimp only at z;simp only[Option.map_eq_some_iff,Option.bind_eq_some_iff]at z;obtain⟨bs,⟨l,z,z2⟩,rfl⟩:=z;obtain⟨n,es,rfl,a,q⟩:=kH z p1;exact⟨_,_,S,by delta Ev.cC;dsimp only;simp only[a,Option.bind,uI z2 q];rfl,rfl,.refl⟩
  case sum=>
   dsimp only at z;simp only[Option.map_eq_some_iff,Option.bind_eq_some_iff]at z;obtain⟨bs,⟨l,z,z2⟩,rfl⟩:=z;obtain⟨n,es,rfl,a,q⟩:=kH z p1;exact⟨_,_,S,by delta Ev.cC;dsimp only;simp only[a,Option.bind,qH z2 q];rfl,rfl,.refl⟩
  case min=>cases x<;>exact nn z
  case kh=>
   cases x
   case bl i=>
    dsimp only at z;simp only[aY,Rep]at p1;subst p1;cases z;exact⟨_,_,S,rfl,rfl,.refl⟩
   all_goals exact nn z
  case yz=>
   dsimp only at z;simp only[Option.bind_eq_some_iff]at z;obtain⟨ss,⟨l,z,z2⟩,z3⟩:=z;obtain⟨n,es,rfl,a,q⟩:=kH z p1;split at z3
   .rename_i hl
    delta Ev.cC;dsimp only;simp only[a,Option.bind,qH z2 q]
    rw[if_pos hl];exact fR w z3 (aq.map (f:=V.int) (g:=D.int) (λs=>by simp[Rep]) _)
   .cases z3
  case yC=>
   dsimp only at z;obtain⟨kvs,z1,z⟩:=Option.bind_eq_some_iff.mp z;obtain⟨n,rfl,a⟩:=K8 z1 p1;by_cases hl:kvs.length<64
   .rw[if_pos hl]at z
    delta Ev.cC;dsimp only;simp only[Ev.fj,a]
    rw[if_pos hl];exact fR w z (aq.map (f:=V.int) (g:=D.int) (λs=>by simp[Rep]) _)
   .rw[if_neg hl]at z;cases z
 .cases b
  case min=>
   cases x
   case int i=>
    cases y
    case int j=>
     dsimp only at z;simp only[fN,aY,Rep]at p;obtain⟨_,_,rfl,rfl,_,_,rfl,rfl,rfl⟩:=p;cases z;exact⟨_,_,S,rfl,rfl,.refl⟩
    all_goals exact nn z
   all_goals exact nn z
  case len=>cases x<;>exact nn z
  case kh=>cases x<;>exact nn z
  all_goals exact nn z
 .cases b
  case min=>cases x <;> (try cases y)<;>exact nn z
  case len=>cases x<;>exact nn z
  case kh=>cases x<;>exact nn z
  all_goals exact nn z
theorem Li{m:ME}{o:V}{xs:List V}{v:V}{d:D}{ds:List D}(z:eZ m o xs=some v)(hm:iL m=false)(po:aY h S o d)(p:fN h S xs ds):Ev.wR m d h=true/\∃r,Ev.eZ m d ds h=.ok r h/\Rep h S v r:=by
 unfold eZ at z;split at z
 .obtain⟨d,rfl,p1⟩:=p.one;simp only[aY,Rep]at po;subst po;simp only[Option.bind_eq_some_iff]at z;obtain⟨ss,⟨l,z,z2⟩,z3⟩:=z;obtain⟨n,es,rfl,a,q⟩:=kH z p1;split at z3
  .rename_i k;cases z3;refine⟨rfl,_,?_,rfl⟩
   delta Ev.eZ;dsimp only;simp only[a,Option.bind,xC z2 q]
   rw[if_pos k]
  .cases z3
 .cases z
theorem Hf{x:V}{d:D}(f:sJ x=true)(p:Rep h U x d):Rep [] U x d:=by
 cases x<;>simp only[sJ,Bool.false_eq_true]at f<;>exact p
theorem Dp{x:V}{d:D}(p:Rep h U x d):∀{kvs:List (D×D)}{v:V},eL x kvs=some v->∃r,Ev.eL d kvs=some r/\Rep h S v r:=by
 intro kvs v z;unfold eL at z;split at z
 .rename_i f;have p':=Hf f p;induction kvs with
  |nil=>cases z
  |cons kv r ih=>
   obtain⟨k,u⟩:=kv;simp only[yY]at z;simp only[Ev.eL];split at z
   .rename_i y;simp only[Option.bind_eq_some_iff]at y;obtain⟨k',y1,y2⟩:=y;rw[kG 1 y2 (mP y1) p'];exact⟨u,rfl,mP z⟩
   .rename_i y;simp only[Option.bind_eq_some_iff]at y;obtain⟨k',y1,y2⟩:=y;rw[kG 1 y2 (mP y1) p'];exact ih z
   .cases z
 .cases z
theorem Dq{x:V}{l:List V}{d:D}(z:fk x=some l)(p:aY h S x d):∃s,Ev.fk h d=some s/\aq h S l s.1/\(∀q∈s.2,d=.ref q.1/\bf h q.1=some q.2):=by
 cases x<;>simp only[fk,reduceCtorEq]at z<;>simp only[aY,Rep]at p
 .subst p;cases z;exact⟨_,rfl,aq.map (f:=λc=>V.str [c]) (g:=λc=>D.str [c]) (λ_=>by simp[Rep]) _,by simp⟩
 .obtain⟨ds,rfl,p⟩:=p;cases z;exact⟨_,rfl,p,by simp⟩
 .obtain⟨n,ds,rfl,a,p⟩:=p;cases z;exact⟨(ds,[(n,ds)]),by simp[Ev.fk,ig a],p,by simp[ig a]⟩
 .obtain⟨n,ds,rfl,_,a,p⟩:=p;cases z;exact⟨(ds,[(n,ds)]),by simp[Ev.fk,iC a],p,by simp[iC a]⟩
theorem uJ(lo:Int)(n:Nat):aq h S (range lo n) (Ev.range lo n):=aq.map (f:=λ(i:Nat)=>V.int (lo+i)) (g:=λ(i:Nat)=>D.int (lo+i)) (λ_=>by simp[Rep]) _
theorem Lj{xs l:List V}{ds:List D}(z:fy xs=some l)(p:fN h S xs ds):∃s,Ev.fy ds=some (s,[])/\aq h S l s:=by
 unfold fy at z;split at z
 .obtain⟨d,rfl,p1⟩:=p.one;simp only[aY,Rep]at p1;subst p1;split at z
  .rename_i k;cases z;exact⟨_,by simp only[Ev.fy];rw[if_pos k],uJ _ _⟩
  .cases z
 .simp only[fN,aY,Rep]at p;obtain⟨_,_,rfl,rfl,_,_,rfl,rfl,rfl⟩:=p;split at z
  .rename_i k;cases z;exact⟨_,by simp only[Ev.fy];rw[if_pos k],uJ _ _⟩
  .cases z
 .cases z
theorem xD:∀{a:List V}{ds:List D}(k:Int),aq h S a ds->aq h S (gq k a) (Ev.gq k ds)
 |[],_,_,p=>by simp only[aq]at p;subst p;simp[gq,Ev.gq,aq]
 |x :: xs,_,k,p=>by
  simp only[aq]at p;obtain⟨d,ds,rfl,p1,p2⟩:=p;simp only[gq,Ev.gq];exact .cons ⟨_,rfl,.cons rfl (.cons p1 .nil)⟩ (xD _ p2)
end
end Pv
namespace Pv
open Ev (D O Hh bO bJ TY BI ME T E Es Eo It S Ss Fn big deep b2i rep cj dF bI aQ cut cI dX slots bf)
noncomputable def kC(M B:Nat->Prop)(h:Hh)(S:Nat->Prop):Option Sl->Option D->Prop
 |none,p=>p=none
 |some (.val v),p=>∃d,p=some d/\Rep h S v d
 |some (.own l),p=>∃m ds,p=some (.ref m)/\(M m/\¬ B m)/\h[m]?=some (.lst ds)/\aq h S l ds
 |some (.bor l),p=>∃m ds,p=some (.ref m)/\(M m/\B m)/\h[m]?=some (.lst ds)/\aq h S l ds
 |some (.ro l),p=>∃m ds,p=some (.ref m)/\¬ M m/\h[m]?=some (.lst ds)/\aq h S l ds
noncomputable def gG:Option Sl->Bool
 |some (.own _)=>true
 |some (.bor _)=>true
 |_=>false
noncomputable def xE:Option Sl->Bool
 |some (.bor _)=>true
 |some (.ro _)=>true
 |_=>false
noncomputable def locked(fr:Fr)(i:Nat):Bool:=match fr[i]? with
 |some o=>xE o
 |none=>false
structure bu(M B:Nat->Prop)(h:Hh)(S:Nat->Prop)(fr:Fr)(aj:Ev.Fr):Prop where
 wS:∀m,S m->m<h.length/\¬ M m/\¬ B m
 wM:∀m,M m->m<h.length
 wB:∀m,B m->m<h.length
 len:fr.length=aj.length
 sl:∀(i:Nat) o p,fr[i]?=some o->aj[i]?=some p->kC M B h S o p
 inj:∀(i j:Nat) o o' m,fr[i]?=some o->fr[j]?=some o'->gG o=true->gG o'=true->aj[i]?=some (some (.ref m))->aj[j]?=some (some (.ref m))->i=j
structure Tk(X:Nat->Prop)(h:Hh)(S:Nat->Prop)(h':Hh)(S':Nat->Prop):Prop where
 len:h.length<=h'.length
 keep:∀m,m<h.length->¬ X m->h'[m]?=h[m]?
 sub:∀m,S m->S' m
 new:∀m,S' m->S m\/(h.length<=m/\m<h'.length)
noncomputable def Xs(M:Nat->Prop)(aj:Ev.Fr)(l:List Nat):Nat->Prop:=λm=>M m/\∃i∈l,aj[i]?=some (some (.ref m))
structure Out(M B:Nat->Prop)(c:List Nat)(h:Hh)(S:Nat->Prop)(fr:Fr)(aj:Ev.Fr)(h':Hh)(S':Nat->Prop)(af:Fr):Prop where
 f:bu M B h' S' af aj
 tr:Tk (Xs M aj c) h S h' S'
 lk:∀i,locked af i=locked fr i
section
variable{M B M':Nat->Prop}{h h' h1 h2:Hh}{S S' S1 S2:Nat->Prop}{fr af ao:Fr}{aj:Ev.Fr}{c c1 c2:List Nat}{v:V}{d:D}{X X1 X2:Nat->Prop}
theorem bu.get(f:bu M B h S fr aj){i:Nat}{o:Option Sl}(e:fr[i]?=some o):∃p,aj[i]?=some p/\kC M B h S o p:=by
 have h1:=(List.getElem?_eq_some_iff.mp e).1;rw[f.len]at h1;exact⟨aj[i],List.getElem?_eq_getElem h1,f.sl i o _ e (List.getElem?_eq_getElem h1)⟩
theorem bu.w(f:bu M B h S fr aj):∀m,S m->m<h.length:=λm q=>(f.wS m q).1
theorem Al.tr(a:Al h S h' S'):Tk X h S h' S':=⟨a.len,λm q _=>a.keep m q,a.sub,a.new⟩
theorem Tk.al(t:Tk X h S h' S')(z:∀m,¬ X m):Al h S h' S':=⟨t.len,λm q=>t.keep m q (z m),t.sub,t.new⟩
theorem Tk.weak(t:Tk X h S h' S')(q:∀m,X m->X1 m):Tk X1 h S h' S':=⟨t.len,λm k z=>t.keep m k λy=>z (q m y),t.sub,t.new⟩
theorem Tk.trans(a:Tk X1 h S h1 S1)(b:Tk X2 h1 S1 h2 S2):Tk (λm=>X1 m\/X2 m) h S h2 S2 where
 len:=Nat.le_trans a.len b.len
 keep:=λm q z=>by rw[b.keep m (Nat.lt_of_lt_of_le q a.len) (λy=>z (.inr y)),a.keep m q (λy=>z (.inl y))]
 sub:=λm q=>b.sub m (a.sub m q)
 new:=λm q=>by
  rcases b.new m q with q|⟨q1,q2⟩
  .rcases a.new m q with q|⟨q1,q2⟩
   .exact .inl q
   .exact .inr ⟨q1,Nat.lt_of_lt_of_le q2 b.len⟩
  .exact .inr ⟨Nat.le_trans a.len q1,q2⟩
theorem Al.trans(a:Al h S h1 S1)(b:Al h1 S1 h2 S2):Al h S h2 S2:=((a.tr (X:=λ_=>False)).trans (b.tr (X:=λ_=>False))).al λm z=>by simp at z
theorem Tk.refl:Tk X h S h S:=⟨Nat.le_refl _,λ_ _ _=>rfl,λ_ q=>q,λ_ q=>.inl q⟩
theorem Xs.app{l1 l2:List Nat}{m:Nat}:Xs M aj (l1++l2) m↔Xs M aj l1 m\/Xs M aj l2 m:=by
 unfold Xs;constructor
 .rintro⟨a,i,hi,e⟩;rcases List.mem_append.mp hi with hi|hi
  .exact .inl ⟨a,i,hi,e⟩
  .exact .inr ⟨a,i,hi,e⟩
 .rintro(⟨a,i,hi,e⟩|⟨a,i,hi,e⟩)
  .exact⟨a,i,List.mem_append.mpr (.inl hi),e⟩
  .exact⟨a,i,List.mem_append.mpr (.inr hi),e⟩
theorem Xs.nil{m:Nat}:¬ Xs M aj [] m:=by rintro⟨_,i,hi,_⟩;simp at hi
theorem Xs.mono{l1 l2:List Nat}(q:∀i∈l1,i∈l2){m:Nat}:Xs M aj l1 m->Xs M aj l2 m:=λ⟨a,i,hi,e⟩=>⟨a,i,q i hi,e⟩
theorem Rep.tr(q:Rep h S v d)(f:bu M B h S fr aj)(t:Tk (Xs M aj c) h S h' S'):Rep h' S' v d:=q.mono (λm z=>t.keep m (f.wS m z).1 (λy=>(f.wS m z).2.1 y.1)) t.sub
theorem aq.tr{l:List V}{ds:List D}(q:aq h S l ds)(f:bu M B h S fr aj)(t:Tk (Xs M aj c) h S h' S'):aq h' S' l ds:=q.mono (λm z=>t.keep m (f.wS m z).1 (λy=>(f.wS m z).2.1 y.1)) t.sub
theorem aY.tr(q:aY h S v d)(f:bu M B h S fr aj)(t:Tk X h S h' S')(z:∀m,¬ X m):aY h' S' v d:=q.mono (λm k=>t.keep m k (z m)) f.w t.sub
theorem kC.al{o:Option Sl}{p:Option D}(q:kC M B h S o p)(w:∀m,S m->m<h.length)(a:Al h S h' S'):kC M B h' S' o p:=by
 have k:∀m,S m->h'[m]?=h[m]?:=λm z=>a.keep m (w m z);have g:∀(m:Nat) (ds:List D),h[m]?=some (O.lst ds)->h'[m]?=some (O.lst ds):=λm ds z=>by rw[a.keep m (List.getElem?_eq_some_iff.mp z).1];exact z
 rcases o with _|s
 .exact q
 .cases s with
  |val v=>obtain⟨d,e,q⟩:=q;exact⟨d,e,q.mono k a.sub⟩
  |own l=>obtain⟨m,ds,e,z,y,q⟩:=q;exact⟨m,ds,e,z,g m ds y,q.mono k a.sub⟩
  |bor l=>obtain⟨m,ds,e,z,y,q⟩:=q;exact⟨m,ds,e,z,g m ds y,q.mono k a.sub⟩
  |ro l=>obtain⟨m,ds,e,z,y,q⟩:=q;exact⟨m,ds,e,z,g m ds y,q.mono k a.sub⟩
theorem bu.al(f:bu M B h S fr aj)(a:Al h S h' S'):bu M B h' S' fr aj where
 wS:=λm q=>by
  rcases a.new m q with q|⟨q1,q2⟩
  .exact⟨Nat.lt_of_lt_of_le (f.wS m q).1 a.len,(f.wS m q).2⟩
  .exact⟨q2,λz=>by have:=f.wM m z;omega,λz=>by have:=f.wB m z;omega⟩
 wM:=λm q=>Nat.lt_of_lt_of_le (f.wM m q) a.len
 wB:=λm q=>Nat.lt_of_lt_of_le (f.wB m q) a.len
 len:=f.len
 sl:=λi o p e1 e2=>(f.sl i o p e1 e2).al f.w a
 inj:=f.inj
theorem Out.refl(f:bu M B h S fr aj):Out M B c h S fr aj h S fr:=⟨f,.refl,λ_=>rfl⟩
theorem Out.trans(a:Out M B c1 h S fr aj h1 S1 af)(b:Out M B c2 h1 S1 af aj h2 S2 ao):Out M B (c1++c2) h S fr aj h2 S2 ao:=⟨b.f,(a.tr.trans b.tr).weak λm z=>Xs.app.mpr z,λi=>(b.lk i).trans (a.lk i)⟩
theorem Out.al(a:Out M B c h S fr aj h1 S1 af)(b:Al h1 S1 h2 S2):Out M B c h S fr aj h2 S2 af:=⟨a.f.al b,(a.tr.trans (b.tr (X:=λ_=>False))).weak (λm z=>by rcases z with z|z;exact z;exact z.elim),a.lk⟩
theorem Out.weak(a:Out M B c h S fr aj h1 S1 af)(q:∀i∈c,i∈c1):Out M B c1 h S fr aj h1 S1 af:=⟨a.f,a.tr.weak λm z=>Xs.mono q z,a.lk⟩
noncomputable def fS(k:Bool)(h:Hh)(S:Nat->Prop)(v:V)(d:D):Prop:=if k=true then aY h S v d else Rep h S v d
theorem fS.of{k:Bool}(q:Rep h S v d):fS k h S v d:=by unfold fS;split;exact q.top;exact q
theorem fS.t{k:Bool}(q:fS k h S v d):aY h S v d:=by unfold fS at q;split at q;exact q;exact q.top
theorem fS.n(q:fS false h S v d):Rep h S v d:=by simpa[fS]using q
theorem bu.slot(f:bu M B h S fr aj){i m:Nat}(e:aj[i]?=some (some (.ref m)))(hm:M m):∃o,fr[i]?=some o/\gG o=true:=by
 have hl:i<fr.length:=by rw[f.len];exact(List.getElem?_eq_some_iff.mp e).1
 refine⟨fr[i],List.getElem?_eq_getElem hl,?_⟩;have s:=f.sl i _ _ (List.getElem?_eq_getElem hl) e
 revert s
 generalize fr[i]=o
 intro s;rcases o with _|s'
 .cases s
 .cases s' with
  |own l=>rfl
  |bor l=>rfl
  |ro l=>obtain⟨m',ds,e,y,_⟩:=s;cases e;exact absurd hm y
  |val v=>
   obtain⟨d,e,q⟩:=s;cases e;exfalso;cases v<;>simp only[Rep,reduceCtorEq]at q
   .obtain⟨_,e,_⟩:=q;cases e
   .obtain⟨n,ds,e,sn,_⟩:=q;cases e;exact(f.wS _ sn).2.1 hm
   .obtain⟨n,ds,e,sn,_⟩:=q;cases e;exact(f.wS _ sn).2.1 hm
   .obtain⟨n,e,sn,_⟩:=q;cases e;exact(f.wS _ sn).2.1 hm
theorem fS.tr{k:Bool}{a:E}(q:fS k h S v d)(f:bu M B h S fr aj)(t:Tk (Xs M aj c) h S h' S')(hk:k=true->kf a c=true)(ha:∀i,a=.v i->aj[i]?.join=some d):fS k h' S' v d:=by
 unfold fS at q ⊢;split at q
 .rename_i e;rw[if_pos e];have hk:=hk e;have gen:c=[]->aY h' S' v d:=λz=>q.tr f t λm y=>by subst z;exact Xs.nil y
  by_cases hv:∃i,a=.v i
  .obtain⟨i0,rfl⟩:=hv;simp only[kf,Bool.not_eq_true',List.contains_eq_mem,decide_eq_false_iff_not]at hk;cases v
   case lst l=>
    simp only[aY]at q ⊢;obtain⟨n,ds,rfl,b1,b2⟩:=q;refine⟨n,ds,rfl,?_,b2.tr f t⟩;rw[t.keep n (List.getElem?_eq_some_iff.mp b1).1 ?_]
    .exact b1
    .rintro⟨mn,j,hj,ej⟩;have e2:aj[i0]?=some (some (D.ref n)):=by
      have:=ha i0 rfl;cases z:aj[i0]? with
      |none=>rw[z]at this;cases this
      |some p=>rw[z]at this;simp at this;rw[this]
     obtain⟨o1,y1,y2⟩:=f.slot e2 mn;obtain⟨o2,y3,y4⟩:=f.slot ej mn;have:=f.inj i0 j o1 o2 n y1 y3 y2 y4 e2 ej;subst this;exact hk hj
   all_goals exact Rep.tr (show Rep h S _ d from q) f t
  .have:kf a c=c.isEmpty:=by
    cases a<;>first|rfl|exact absurd ⟨_,rfl⟩ hv
   rw[this,List.isEmpty_iff]at hk;exact gen hk
 .rename_i e;rw[if_neg e];exact q.tr f t
theorem Hg{k:Bool}{i:Nat}(e:mL k fr i=some v)(f:bu M B h S fr aj):∃d,aj[i]?.join=some d/\fS k h S v d:=by
  unfold mL at e;split at e
  . rename_i z;obtain⟨p,e1,q⟩:=f.get z;obtain⟨d,rfl,q⟩:=q;cases e;exact⟨d,by rw[e1];rfl,.of q⟩
  all_goals first
    | (rename_i z
       obtain⟨p,e1,q⟩:=f.get z;obtain⟨m,ds,rfl,_,y,q⟩:=q;split at e
       . rename_i hk;cases e;exact⟨.ref m,by rw[e1];rfl,by unfold fS;rw[if_pos hk];exact⟨m,ds,rfl,y,q⟩⟩
       . cases e)
    |cases e
theorem jt{i:Nat}{s:Sl}(e:lent fr i=some s)(f:bu M B h S fr aj):∃m ds l o,fr[i]?=some o/\aj[i]?=some (some (.ref m))/\h[m]?=some (.lst ds)/\aq h S l ds/\((s=.bor l/\M m/\gG o=true)\/(s=.ro l/\¬ M m/\o=some (.ro l))):=by
 unfold lent at e;split at e
 .rename_i s' z;obtain⟨p,e1,q⟩:=f.get z;cases s' with
  |val v=>simp[Sl.lend]at e
  |own l=>
   simp[Sl.lend]at e;subst e;obtain⟨m,ds,rfl,y,y1,q⟩:=q;exact⟨m,ds,l,_,z,e1,y1,q,.inl ⟨rfl,y.1,rfl⟩⟩
  |bor l=>
   simp[Sl.lend]at e;subst e;obtain⟨m,ds,rfl,y,y1,q⟩:=q;exact⟨m,ds,l,_,z,e1,y1,q,.inl ⟨rfl,y.1,rfl⟩⟩
  |ro l=>
   simp[Sl.lend]at e;subst e;obtain⟨m,ds,rfl,y,y1,q⟩:=q;exact⟨m,ds,l,_,z,e1,y1,q,.inr ⟨rfl,y,rfl⟩⟩
 .cases e
noncomputable def uK(h:Hh)(S:Nat->Prop)(aj:Ev.Fr):List (Nat ⊕ V)->List D->Prop
 |[],ds=>ds=[]
 |.inl i :: r,ds=>∃d es,ds=d :: es/\aj[i]?=some (some d)/\uK h S aj r es
 |.inr v :: r,ds=>∃d es,ds=d :: es/\Rep h S v d/\uK h S aj r es
noncomputable def mQ(h:Hh)(S:Nat->Prop):List Sl->List D->List (List V)->Prop
 |[],_,os=>os=[]
 |.val _ :: sl,ds,os=>∃d es,ds=d :: es/\mQ h S sl es os
 |.own _ :: _,_,_=>False
 |_ :: sl,ds,os=>∃d es l r m cs,ds=d :: es/\os=l :: r/\d=.ref m/\h[m]?=some (.lst cs)/\aq h S l cs/\mQ h S sl es r
noncomputable def pF(P:aM)(P':Ev.aM):Prop:=∀f sl v os,P f sl=some (v,os)->∀(h:Hh) (S B:Nat->Prop) (ds:List D),bu B B h S (sl.map some) (ds.map some)->
 ∃d h' S',P' f ds h=.ok d h'/\Rep h' S' v d/\Tk B h S h' S'/\mQ h' S' sl ds os
theorem args_get(f:bu M B h S fr aj):∀{as:List (Nat ⊕ V)}{sl:List Sl}{ds:List D},args fr as=some sl->uK h S aj as ds->sl.length=ds.length/\∀(a:Nat) s d,sl[a]?=some s->ds[a]?=some d->
  (∃i,as[a]?=some (.inl i)/\lent fr i=some s/\aj[i]?=some (some d))\/(∃v,s=.val v/\Rep h S v d)
 |[],sl,ds,e,q=>by
  simp[args]at e;simp only[uK]at q;subst e q;simp
 |.inl i :: r,sl,ds,e,q=>by
  simp only[args,Option.bind_eq_some_iff,Option.map_eq_some_iff]at e;obtain⟨s,e1,l,e2,rfl⟩:=e;obtain⟨d,es,rfl,q1,q⟩:=q;obtain⟨h1,h2⟩:=args_get f e2 q;refine⟨by simp[h1],λa s' d' z1 z2=>?_⟩;cases a with
  |zero=>simp at z1 z2;subst z1 z2;exact .inl ⟨i,by simp,e1,q1⟩
  |succ a=>exact(h2 a s' d' (by simpa using z1) (by simpa using z2)).imp (λ⟨i,k,z⟩=>⟨i,by simpa using k,z⟩) id
 |.inr v :: r,sl,ds,e,q=>by
  simp only[args,Option.map_eq_some_iff]at e;obtain⟨l,e2,rfl⟩:=e;obtain⟨d,es,rfl,q1,q⟩:=q;obtain⟨h1,h2⟩:=args_get f e2 q;refine⟨by simp[h1],λa s' d' z1 z2=>?_⟩;cases a with
  |zero=>simp at z1 z2;subst z1 z2;exact .inr ⟨v,rfl,q1⟩
  |succ a=>exact(h2 a s' d' (by simpa using z1) (by simpa using z2)).imp (λ⟨i,k,z⟩=>⟨i,by simpa using k,z⟩) id
theorem gH:∀{as:List (Nat ⊕ V)}{a i:Nat},as[a]?=some (.inl i)->i∈bR as
 |[],_,_,e=>by simp at e
 |.inl j :: r,0,i,e=>by simp at e;subst e;simp[bR]
 |.inr j :: r,0,i,e=>by simp at e
 |.inl j :: r,a+1,i,e=>by have:=gH (as:=r) (a:=a) (i:=i) (by simpa using e);simp[bR,this]
 |.inr j :: r,a+1,i,e=>by have:=gH (as:=r) (a:=a) (i:=i) (by simpa using e);simp[bR,this]
theorem mR:∀{as:List (Nat ⊕ V)}{a b i:Nat},(bR as).Nodup->as[a]?=some (.inl i)->as[b]?=some (.inl i)->a=b
 |[],_,_,_,_,e,_=>by simp at e
 |x :: r,0,0,_,_,_,_=>rfl
 |.inr j :: r,0,b+1,i,n,e,_=>by simp at e
 |.inl j :: r,0,b+1,i,n,e,e2=>by
  simp at e;subst e;simp only[bR,List.nodup_cons]at n;exact absurd (gH (as:=r) (a:=b) (by simpa using e2)) n.1
 |.inr j :: r,a+1,0,i,n,_,e=>by simp at e
 |.inl j :: r,a+1,0,i,n,e2,e=>by
  simp at e;subst e;simp only[bR,List.nodup_cons]at n;exact absurd (gH (as:=r) (a:=a) (by simpa using e2)) n.1
 |.inl j :: r,a+1,b+1,i,n,e1,e2=>by
  simp only[bR,List.nodup_cons]at n;have:=mR (as:=r) (a:=a) (b:=b) (i:=i) n.2 (by simpa using e1) (by simpa using e2);omega
 |.inr j :: r,a+1,b+1,i,n,e1,e2=>by
  simp only[bR]at n;have:=mR (as:=r) (a:=a) (b:=b) (i:=i) n (by simpa using e1) (by simpa using e2);omega
theorem Dr{s:Sl}{l:List V}:gG (some (s.with l))=gG (some s):=by cases s<;>rfl
theorem xF{s:Sl}{l:List V}:xE (some (s.with l))=xE (some s):=by cases s<;>rfl
theorem uL:∀{is:List Nat}{ls:List (List V)}{fr af:Fr},back is ls fr=some af->is.Nodup->af.length=fr.length/\(∀i,i∉is->af[i]?=fr[i]?)/\∀i∈is,∃(k:Nat) (s:Sl) (l:List V),is[k]?=some i/\ls[k]?=some l/\fr[i]?=some (some s)/\af[i]?=some (some (s.with l))
 |[],[],fr,af,e,_=>by simp[back]at e;subst e;simp
 |[],_ :: _,_,_,e,_=>by simp[back]at e
 |_ :: _,[],_,_,e,_=>by simp[back]at e
 |i :: is,l :: ls,fr,af,e,n=>by
  simp only[back]at e;simp only[List.nodup_cons]at n;split at e
  .rename_i s z;obtain⟨h1,h2,h3⟩:=uL e n.2;refine⟨by simpa using h1,λj hj=>?_,λj hj=>?_⟩
   .simp at hj;rw[h2 j hj.2,List.getElem?_set_ne (λq=>hj.1 q.symm)]
   .rcases List.mem_cons.mp hj with rfl|hj
    .exact⟨0,s,l,by simp,by simp,z,by rw[h2 j n.1,List.getElem?_set_self (List.getElem?_eq_some_iff.mp z).1]⟩
    .obtain⟨k,s',l',a,b,c,d⟩:=h3 j hj;have hne:i≠j:=λq=>n.1 (q▸hj);rw[List.getElem?_set_ne hne]at c;exact⟨k+1,s',l',by simpa using a,by simpa using b,c,d⟩
  .cases e
theorem mS(f:bu M B h S fr aj):∀{as:List (Nat ⊕ V)}{sl:List Sl}{ds:List D}{os:List (List V)},args fr as=some sl->uK h S aj as ds->mQ h' S' sl ds os->
  ∀(k i:Nat) l,(bR as)[k]?=some i->os[k]?=some l->∃m cs,aj[i]?=some (some (.ref m))/\h'[m]?=some (.lst cs)/\aq h' S' l cs
 |[],sl,ds,os,e,q,o=>by simp[bR]
 |.inl i :: r,sl,ds,os,e,q,o=>by
  simp only[args,Option.bind_eq_some_iff,Option.map_eq_some_iff]at e;obtain⟨s,e1,l,e2,rfl⟩:=e;obtain⟨d,es,rfl,q1,q⟩:=q;obtain⟨m,cs,l0,o0,_,z2,z3,z4,z5⟩:=jt e1 f;have key:∃l1 r1 cs,os=l1 :: r1/\h'[m]?=some (.lst cs)/\aq h' S' l1 cs/\mQ h' S' l es r1:=by
   rw[q1]at z2;cases z2;rcases z5 with ⟨rfl,_⟩|⟨rfl,_⟩
   .obtain⟨d',es',l1,r1,m1,Bo,a1,a2,a3,a4,a5,a6⟩:=o;cases a1;cases a3;exact⟨l1,r1,Bo,a2,a4,a5,a6⟩
   .obtain⟨d',es',l1,r1,m1,Bo,a1,a2,a3,a4,a5,a6⟩:=o;cases a1;cases a3;exact⟨l1,r1,Bo,a2,a4,a5,a6⟩
  obtain⟨l1,r1,Bo,rfl,a4,a5,a6⟩:=key;intro k j l' y1 y2;cases k with
  |zero=>simp[bR]at y1 y2;subst y1 y2;exact⟨m,Bo,z2,a4,a5⟩
  |succ k=>exact mS f e2 q a6 k j l' (by simpa[bR]using y1) (by simpa using y2)
 |.inr v :: r,sl,ds,os,e,q,o=>by
  simp only[args,Option.map_eq_some_iff]at e;obtain⟨l,e2,rfl⟩:=e;obtain⟨d,es,rfl,q1,q⟩:=q;obtain⟨d',es',a1,a2⟩:=o;cases a1;intro k j l' y1 y2;exact mS f e2 q a2 k j l' (by simpa[bR]using y1) y2
theorem kX:∀{as:List (Nat ⊕ V)}{sl:List Sl}{i:Nat},args fr as=some sl->i∈bR as->∃s,lent fr i=some s
 |[],_,_,_,q=>by simp[bR]at q
 |.inl j :: r,_,i,z,q=>by
  simp only[args,Option.bind_eq_some_iff,Option.map_eq_some_iff]at z;obtain⟨s,e1,l,e2,rfl⟩:=z;simp[bR]at q;rcases q with rfl|q
  .exact⟨s,e1⟩
  .exact kX e2 q
 |.inr u :: r,_,i,z,q=>by
  simp only[args,Option.map_eq_some_iff]at z;obtain⟨l,e2,rfl⟩:=z;exact kX e2 (by simpa[bR]using q)
theorem Ds{P:aM}{P':Ev.aM}(HP:pF P P'){g:Nat}{as:List (Nat ⊕ V)}{ds:List D}(e:cQ P g as fr=.ok v af)(f:bu M B h S fr aj)(q:uK h S aj as ds) :
  ∃d h' S',P' g ds h=.ok d h'/\Rep h' S' v d/\Out M B (bR as) h S fr aj h' S' af:=by
 unfold cQ at e;split at e
 case isFalse=>cases e
 rename_i nd;cases z:args fr as with
 |none=>rw[z]at e;cases e
 |some sl=>
 rw[z]at e;simp only at e;cases z2:P g sl with
 |none=>rw[z2]at e;cases e
 |some vo=>
 obtain⟨v',os⟩:=vo;rw[z2]at e;simp only at e;cases z3:back (bR as) os fr with
 |none=>rw[z3]at e;cases e
 |some ao=>
 rw[z3]at e;simp at e;obtain⟨rfl,rfl⟩:=e;obtain⟨hl,hg⟩:=args_get f z q
 let B0:Nat->Prop:=λm=>∃i o,i∈bR as/\fr[i]?=some o/\gG o=true/\aj[i]?=some (some (.ref m))
 have pG:∀m,B0 m->M m:=λm ⟨i,o,_,a,b,c⟩=>by
  have s:=f.sl i o _ a c;rcases o with _|s'
  .cases b
  .cases s' with
   |val v=>cases b
   |ro l=>cases b
   |own l=>obtain⟨m',ds',e,y,_⟩:=s;cases e;exact y.1
   |bor l=>obtain⟨m',ds',e,y,_⟩:=s;cases e;exact y.1
 have F0:bu B0 B0 h S (sl.map some) (ds.map some):=by
  refine⟨λm y=>⟨(f.wS m y).1,λz=>(f.wS m y).2.1 (pG m z),λz=>(f.wS m y).2.1 (pG m z)⟩,λm y=>f.wM m (pG m y),λm y=>f.wM m (pG m y),by simp[hl],λa o p y1 y2=>?_,λa b o o' m y1 y2 y3 y4 y5 y6=>?_⟩
  .simp at y1 y2;obtain⟨s,y1,rfl⟩:=y1;obtain⟨d,y2,rfl⟩:=y2;rcases hg a s d y1 y2 with ⟨i,k1,k2,k3⟩|⟨u,rfl,k⟩
   .obtain⟨m,cs,l0,o0,w1,w2,w3,w4,w5⟩:=jt k2 f;rw[k3]at w2;cases w2;rcases w5 with ⟨rfl,w6,w7⟩|⟨rfl,w6,w7⟩
    .exact⟨m,cs,rfl,⟨⟨i,o0,gH k1,w1,w7,k3⟩,⟨i,o0,gH k1,w1,w7,k3⟩⟩,w3,w4⟩
    .exact⟨m,cs,rfl,λz=>w6 (pG m z),w3,w4⟩
   .exact⟨d,rfl,k⟩
  .simp at y1 y2 y5 y6;obtain⟨s,y1,rfl⟩:=y1;obtain⟨s',y2,rfl⟩:=y2;rcases hg a s _ y1 y5 with ⟨i,k1,k2,k3⟩|⟨u,rfl,k⟩
   .rcases hg b s' _ y2 y6 with ⟨j,k4,k5,k6⟩|⟨u,rfl,k⟩
    .obtain⟨m1,_,l1,o1,w1,w2,_,_,w5⟩:=jt k2 f;obtain⟨m2,_,l2,o2,x1,x2,_,_,x5⟩:=jt k5 f;have i1:gG o1=true:=by rcases w5 with ⟨_,_,w7⟩|⟨rfl,_,_⟩;exact w7;cases y3
     have i2:gG o2=true:=by rcases x5 with ⟨_,_,w7⟩|⟨rfl,_,_⟩;exact w7;cases y4
     have:=f.inj i j o1 o2 m w1 x1 i1 i2 k3 k6;subst this;exact mR nd k1 k4
    .cases y4
   .cases y3
 obtain⟨d,h',S',c1,c2,c3,c4⟩:=HP g sl v' os z2 h S B0 ds F0;obtain⟨b1,b2,b3⟩:=uL z3 nd;have hL:=mS f z q c4;have pH:∀m,S m->h'[m]?=h[m]?:=λm y=>c3.keep m (f.wS m y).1 (λz=>(f.wS m y).2.1 (pG m z));refine⟨d,h',S',c1,c2,⟨?_,?_,?_⟩⟩
 .refine⟨λm y=>?_,λm y=>Nat.lt_of_lt_of_le (f.wM m y) c3.len,λm y=>Nat.lt_of_lt_of_le (f.wB m y) c3.len,by rw[b1,f.len],λi o p y1 y2=>?_,λi j o o' m y1 y2 y3 y4 y5 y6=>?_⟩
  .rcases c3.new m y with y|⟨y1,y2⟩
   .exact⟨Nat.lt_of_lt_of_le (f.wS m y).1 c3.len,(f.wS m y).2⟩
   .exact⟨y2,λz=>by have:=f.wM m z;omega,λz=>by have:=f.wB m z;omega⟩
  .by_cases hi:i∈bR as
   .obtain⟨k,s,l,w1,w2,w3,w4⟩:=b3 i hi;rw[w4]at y1;cases y1;obtain⟨m,cs,x1,x2,x3⟩:=hL k i l w1 w2;rw[x1]at y2;cases y2;have old:=f.sl i _ _ w3 x1;cases s with
    |val u=>
     exfalso;have:∃s,lent fr i=some s:=kX z hi;obtain⟨s,hs⟩:=this;simp[lent,w3,Sl.lend]at hs
    |own u=>obtain⟨m',ds',e,y,_⟩:=old;cases e;exact⟨m,cs,rfl,y,x2,x3⟩
    |bor u=>obtain⟨m',ds',e,y,_⟩:=old;cases e;exact⟨m,cs,rfl,y,x2,x3⟩
    |ro u=>
     obtain⟨m',ds',e,y,y1,y2⟩:=old;cases e;refine⟨m,ds',rfl,y,?_,y2.mono pH c3.sub⟩;rw[c3.keep m (List.getElem?_eq_some_iff.mp y1).1 (λz=>y (pG m z))];exact y1
   .rw[b2 i hi]at y1;have old:=f.sl i o p y1 y2;rcases o with _|s
    .exact old
    .cases s with
     |val u=>obtain⟨d,e,q⟩:=old;exact⟨d,e,q.mono pH c3.sub⟩
     |own u=>
      obtain⟨m,ds',rfl,w1,w2,w3⟩:=old;refine⟨m,ds',rfl,w1,?_,w3.mono pH c3.sub⟩;rw[c3.keep m (f.wM m w1.1) (λ⟨j,o2,x1,x2,x3,x4⟩=>hi (f.inj i j _ o2 m y1 x2 rfl x3 y2 x4▸x1))];exact w2
     |bor u=>
      obtain⟨m,ds',rfl,w1,w2,w3⟩:=old;refine⟨m,ds',rfl,w1,?_,w3.mono pH c3.sub⟩;rw[c3.keep m (f.wM m w1.1) (λ⟨j,o2,x1,x2,x3,x4⟩=>hi (f.inj i j _ o2 m y1 x2 rfl x3 y2 x4▸x1))];exact w2
     |ro u=>
      obtain⟨m,ds',rfl,w1,w2,w3⟩:=old;refine⟨m,ds',rfl,w1,?_,w3.mono pH c3.sub⟩;rw[c3.keep m (List.getElem?_eq_some_iff.mp w2).1 (λz=>w1 (pG m z))];exact w2
  .have kind:∀(i:Nat) o,ao[i]?=some o->gG o=true->∃o0,fr[i]?=some o0/\gG o0=true:=λi o w1 w2=>by
    by_cases hi:i∈bR as
    .obtain⟨k,s,l,x1,x2,x3,x4⟩:=b3 i hi;rw[x4]at w1;cases w1;exact⟨_,x3,by rw[Dr]at w2;exact w2⟩
    .rw[b2 i hi]at w1;exact⟨o,w1,w2⟩
   obtain⟨oi,k1,k2⟩:=kind i o y1 y3;obtain⟨oj,k3,k4⟩:=kind j o' y2 y4;exact f.inj i j oi oj m k1 k3 k2 k4 y5 y6
 .exact c3.weak λm z=>⟨pG m z,by obtain⟨i,o,a1,a2,a3,a4⟩:=z;exact⟨i,a1,a4⟩⟩
 .intro i;unfold locked;by_cases hi:i∈bR as
  .obtain⟨k,s,l,x1,x2,x3,x4⟩:=b3 i hi;rw[x3,x4];exact xF
  .rw[b2 i hi]
end
end Pv
namespace Pv
open Ev (D O Hh)
theorem oR(k:List (Int×List Nat))(p:Int)(s:List Nat):(Ev.cD k p s).length<=k.length+1:=by
 unfold Ev.cD;split<;>simp
theorem E8{P:Ev.aM}{w:Nat}{d0 d3:D}{n:Nat}:∀(s:List Nat) (k:List (Int×List Nat)) (p:Int) (o:Option D) (h:Hh),h[n]?=some (.dct k)->k.length+s.length<=100000->
  ∃o',Ev.forL (λd ao h2=>match Ev.br (.one 4) d ao with|some bx=>Ev.exs P w E7 bx h2|none=>.bad) [] (s.map λc=>.str [c]) [some d0,some (.ref n),some (.int p),some d3,o] h=.ok (.nx,[some d0,some (.ref n),some (.int (p+s.length)),some d3,o']) (h.set n (.dct (gj k p s)))
 |[],k,p,o,h,hn,_=>⟨o,by
  simp only[List.map_nil,Ev.forL,gj];have:h.set n (.dct k)=h:=by
   obtain⟨hl,e⟩:=List.getElem?_eq_some_iff.mp hn;rw[<-e];exact List.set_getElem_self hl
  rw[this];simp[Ev.stays]⟩
 |c :: s,k,p,o,h,hn,hk=>by
  have hl:=(List.getElem?_eq_some_iff.mp hn).1;have h1:=oR k p [c];simp only[List.length_cons]at hk;obtain⟨o',ih⟩:=E8 (P:=P) (w:=w) (d0:=d0) (d3:=d3) (n:=n) s (Ev.cD k p [c]) (p+1) (some (.str [c])) (h.set n (.dct (Ev.cD k p [c]))) (by rw[List.getElem?_set_self hl]) (by omega);refine⟨o',?_⟩;have kb:k.length<Ev.big:=Nat.lt_of_le_of_lt (show k.length<=100000 by omega) (by decide);have st:Ev.exs P w E7 [some d0,some (.ref n),some (.int p),some d3,some (.str [c])] h=.ok (.nx,[some d0,some (.ref n),some (.int (p+1)),some d3,some (.str [c])]) (h.set n (.dct (Ev.cD k p [c]))):=by
   simp[E7,Ev.exs,Ev.ex,Ev.ev,Ev.R.bind,Ev.R.of,Ev.sL,hn,kb,Ev.bK]
  simp only[List.map_cons,Ev.forL,Ev.br,List.set];rw[st];simp only[Ev.ak];simp only[Ev.br]at ih;rw[ih,List.set_set];have e2:p+1+(s.length:Int)=p+((s.length+1:Nat):Int):=by omega
  simp[Ev.stays,gj,e2]
theorem Lk{v:V}{l:List V}{p:Int}{k k':List (Int×List Nat)}(e:aX (v :: l) p k=some k'):(∃s,v=.tup [.str [100,114,111,112],.str s]/\k.length+s.length<=100000/\aX l (p+s.length) (gj k p s)=some k')\/
  (∃i,v=.tup [.str [107,101,101,112],.int i]/\aX l (p+i) k=some k')\/∃w s,v=.tup [.str w,.str s]/\w≠[100,114,111,112]/\w≠[107,101,101,112]/\aX l p k=some k':=by
 match v,e with
 |.tup [.str w,.str s],e=>
  rw[aX]at e;by_cases h1:w=[100,114,111,112]
  .rw[if_pos h1]at e;by_cases h2:k.length+s.length<=100000
   .rw[if_pos h2]at e;exact .inl ⟨s,by rw[h1],h2,e⟩
   .rw[if_neg h2]at e;cases e
  .rw[if_neg h1]at e;by_cases h2:w=[107,101,101,112]
   .rw[if_pos h2]at e;cases e
   .rw[if_neg h2]at e;exact .inr (.inr ⟨w,s,rfl,h1,h2,e⟩)
 |.tup [.str w,.int i],e=>
  rw[aX]at e;by_cases h2:w=[107,101,101,112]
  .rw[if_pos h2]at e;exact .inr (.inl ⟨i,by rw[h2],e⟩)
  .rw[if_neg h2]at e;cases e
 |.tup [],e=>simp[aX]at e
 |.tup [_],e=>simp[aX]at e
 |.tup (_ :: _ :: _ :: _),e=>simp[aX]at e
 |.aG,e=>simp[aX]at e
 |.bl _,e=>simp[aX]at e
 |.int _,e=>simp[aX]at e
 |.str _,e=>simp[aX]at e
 |.lst _,e=>simp[aX]at e
 |.bL _,e=>simp[aX]at e
 |.dct _,e=>simp[aX]at e
 |.tup [.aG,_],e=>simp[aX]at e
 |.tup [.bl _,_],e=>simp[aX]at e
 |.tup [.int _,_],e=>simp[aX]at e
 |.tup [.tup _,_],e=>simp[aX]at e
 |.tup [.lst _,_],e=>simp[aX]at e
 |.tup [.bL _,_],e=>simp[aX]at e
 |.tup [.dct _,_],e=>simp[aX]at e
 |.tup [.str _,.aG],e=>simp[aX]at e
 |.tup [.str _,.bl _],e=>simp[aX]at e
 |.tup [.str _,.tup _],e=>simp[aX]at e
 |.tup [.str _,.lst _],e=>simp[aX]at e
 |.tup [.str _,.bL _],e=>simp[aX]at e
 |.tup [.str _,.dct _],e=>simp[aX]at e
theorem E9{P:Ev.aM}{w:Nat}{d0:D}{n:Nat}{h0:Hh}{S:Nat->Prop}:∀(l:List V) (ds:List D) (k k':List (Int×List Nat)) (p:Int) (o3 o4:Option D) (h:Hh),aq h0 S l ds->h[n]?=some (.dct k)->aX l p k=some k'->
  ∃p' Bp Bq,Ev.forL (λd ao h2=>match Ev.br (.one 3) d ao with|some bx=>Ev.exs P w uE bx h2|none=>.bad) [] ds [some d0,some (.ref n),some (.int p),o3,o4] h=.ok (.nx,[some d0,some (.ref n),some (.int p'),Bp,Bq]) (h.set n (.dct k'))
 |[],ds,k,k',p,o3,o4,h,q,hn,e=>by
  simp only[aq]at q;subst q;simp only[aX]at e;cases e;refine⟨p,o3,o4,?_⟩;have:h.set n (.dct k)=h:=by
   obtain⟨hl,e⟩:=List.getElem?_eq_some_iff.mp hn;rw[<-e];exact List.set_getElem_self hl
  rw[this];simp[Ev.forL,Ev.stays]
 |v :: l,ds,k,k',p,o3,o4,h,q,hn,e=>by
  have hl:=(List.getElem?_eq_some_iff.mp hn).1;simp only[aq]at q;obtain⟨d,es,rfl,q1,q2⟩:=q;have go:∀(k1:List (Int×List Nat)) (p1:Int) (o':Option D),Ev.exs P w uE [some d0,some (.ref n),some (.int p),some d,o4] h=.ok (.nx,[some d0,some (.ref n),some (.int p1),some d,o']) (h.set n (.dct k1))->aX l p1 k1=some k'->∃p' Bp Bq,Ev.forL (λd ao h2=>match Ev.br (.one 3) d ao with|some bx=>Ev.exs P w uE bx h2|none=>.bad) [] (d :: es) [some d0,some (.ref n),some (.int p),o3,o4] h=.ok (.nx,[some d0,some (.ref n),some (.int p'),Bp,Bq]) (h.set n (.dct k')):=λk1 p1 o' st e1=>by
   obtain⟨p',Bp,Bq,ih⟩:=E9 (P:=P) (w:=w) (d0:=d0) (n:=n) l es k1 k' p1 (some d) o' (h.set n (.dct k1)) q2 (by rw[List.getElem?_set_self hl]) e1;refine⟨p',Bp,Bq,?_⟩;simp only[Ev.forL,Ev.br,List.set];rw[st];simp only[Ev.ak];simp only[Ev.br]at ih;rw[ih,List.set_set];simp[Ev.stays]
  have hs:h.set n (.dct k)=h:=by
   obtain⟨hl,e⟩:=List.getElem?_eq_some_iff.mp hn;rw[<-e];exact List.set_getElem_self hl
  rcases Lk e with ⟨s,rfl,hk,e1⟩|⟨i,rfl,e1⟩|⟨w0,s,rfl,h1,h2,e1⟩
  .simp only[Rep,aq]at q1;obtain⟨_,rfl,d1,_,rfl,rfl,d2,_,rfl,rfl,rfl⟩:=q1;obtain⟨o',hin⟩:=E8 (P:=P) (w:=w) (d0:=d0) (d3:=.tup [.str [100,114,111,112],.str s]) (n:=n) s k p o4 h hn hk;refine go _ _ o' ?_ e1;simp only[Ev.br]at hin;simp[uE,Ev.exs,Ev.ex,Ev.aF,Ev.ev,Ev.R.bind,Ev.R.of,Ev.ee,Ev.bI,Ev.dF,Ev.cop,Ev.gg,Ev.deep,Ev.truthy,Ev.cz,Ev.fk,Ev.br,hin]
  .simp only[Rep,aq]at q1;obtain⟨_,rfl,d1,_,rfl,rfl,d2,_,rfl,rfl,rfl⟩:=q1;refine go k (p+i) o4 ?_ e1;rw[hs];simp[uE,Ev.exs,Ev.ex,Ev.aF,Ev.ev,Ev.R.bind,Ev.R.of,Ev.ee,Ev.bI,Ev.dF,Ev.cop,Ev.gg,Ev.deep,Ev.truthy,Ev.bK]
  .simp only[Rep,aq]at q1;obtain⟨_,rfl,d1,_,rfl,rfl,d2,_,rfl,rfl,rfl⟩:=q1;refine go k p o4 ?_ e1;rw[hs];simp[uE,Ev.exs,Ev.ex,Ev.aF,Ev.ev,Ev.R.bind,Ev.R.of,Ev.ee,Ev.bI,Ev.dF,Ev.cop,Ev.gg,Ev.deep,Ev.truthy,Ev.bK,h1,h2]
theorem Ll{F:List Ev.Fn}{w n f:Nat}{l:List V}{k:List (Int×List Nat)}{d:D}{h:Hh}{S:Nat->Prop}(hf:F[f]?=some gi)(q:Rep h S (.tup l) d)(e:aX l 0 []=some k):Ev.run F w (n+1) f [d] h=.ok (.ref h.length) (h++[.dct k]):=by
 simp only[Rep]at q;obtain⟨dl,rfl,q⟩:=q;obtain⟨p',o3,o4,g⟩:=E9 (P:=Ev.run F w n) (w:=w) (d0:=.tup dl) (n:=h.length) l dl [] k 0 none none (h++[.dct []]) q (by simp) e;have hs:(h++[O.dct []]).set h.length (.dct k)=h++[.dct k]:=by simp
 rw[hs]at g;simp only[Ev.br]at g;simp only[Ev.run,hf];show Ev.endOf (Ev.exs (Ev.run F w n) w gi.body [some (.tup dl),none,none,none,none] h)=_;simp[gi,Ev.exs,Ev.ex,Ev.ev,Ev.R.bind,Ev.R.of,Ev.cz,Ev.fk,Ev.br,g,Ev.endOf]
theorem Lm{fn:Ev.Fn}{sl:List Sl}{v:V}{os:List (List V)}(e:xA fn sl=some (v,os)):fn=gi/\∃l k,sl=[.val (.tup l)]/\aX l 0 []=some k/\v=.dct k/\os=[]:=by
 unfold xA at e;split at e
 .rename_i h;refine⟨h,?_⟩;split at e
  .rename_i l;obtain⟨k,e1,e2⟩:=Option.map_eq_some_iff.mp e;cases e2;exact⟨l,k,rfl,e1,rfl,rfl⟩
  .cases e
 .cases e
end Pv
namespace Pv
open Ev (D O Hh bO bJ TY BI ME T E Es Eo It S Ss Fn big deep b2i rep cj dF bI aQ cut cI dX slots bf)
section
variable{M B M':Nat->Prop}{h h' h1 h2:Hh}{S S' S1 S2:Nat->Prop}{fr af ao:Fr}{aj:Ev.Fr}{c c1 c2:List Nat}{v:V}{d:D}
theorem kI{n m:Nat}{o:O}(q:n≠m):(h.set n o)[m]?=h[m]?:=List.getElem?_set_ne q
theorem bu.mM(f:bu M B h S fr aj){i n:Nat}{o:Option Sl}(e:fr[i]?=some o)(hM:gG o=true)(e':aj[i]?=some (some (.ref n))):M n:=by
 have s:=f.sl i o _ e e';rcases o with _|s'
 .cases hM
 .cases s' with
  |val v=>cases hM
  |ro l=>cases hM
  |own l=>obtain⟨m',ds',e,y,_⟩:=s;cases e;exact y.1
  |bor l=>obtain⟨m',ds',e,y,_⟩:=s;cases e;exact y.1
theorem bu.write(f:bu M B h S fr aj){i n:Nat}{s:Sl}{l':List V}{ds':List D}(e:fr[i]?=some (some s))(hM:gG (some s)=true)(e':aj[i]?=some (some (.ref n)))(q:aq h S l' ds') :
  bu M B (h.set n (.lst ds')) S (fr.set i (some (s.with l'))) aj:=by
 have mn:=f.mM e hM e';have kp:∀m,S m->(h.set n (.lst ds'))[m]?=h[m]?:=λm z=>kI λy=>(f.wS m z).2.1 (y▸mn);have il:=(List.getElem?_eq_some_iff.mp e).1;refine⟨λm y=>by simpa using f.wS m y,λm y=>by simpa using f.wM m y,λm y=>by simpa using f.wB m y,by simp[f.len],λj o p y1 y2=>?_,λj k o o' m y1 y2 y3 y4 y5 y6=>?_⟩
 .by_cases hj:i=j
  .subst hj;rw[List.getElem?_set_self il]at y1;cases y1;rw[e']at y2;cases y2;have old:=f.sl i _ _ e e';have hn:(h.set n (.lst ds'))[n]?=some (.lst ds'):=List.getElem?_set_self (f.wM n mn);cases s with
   |val v=>cases hM
   |ro l=>cases hM
   |own l=>obtain⟨m',_,e,y,_⟩:=old;cases e;exact⟨n,ds',rfl,y,hn,q.mono kp λ_ z=>z⟩
   |bor l=>obtain⟨m',_,e,y,_⟩:=old;cases e;exact⟨n,ds',rfl,y,hn,q.mono kp λ_ z=>z⟩
  .rw[List.getElem?_set_ne hj]at y1;have old:=f.sl j o p y1 y2;rcases o with _|s'
   .exact old
   .cases s' with
    |val u=>obtain⟨d,e,q⟩:=old;exact⟨d,e,q.mono kp λ_ z=>z⟩
    |own u=>
     obtain⟨m,es,rfl,w1,w2,w3⟩:=old;refine⟨m,es,rfl,w1,?_,w3.mono kp λ_ z=>z⟩;rw[kI λ(z:n=m)=>hj (f.inj i j _ _ n e y1 hM rfl e' (by rw[z];exact y2))];exact w2
    |bor u=>
     obtain⟨m,es,rfl,w1,w2,w3⟩:=old;refine⟨m,es,rfl,w1,?_,w3.mono kp λ_ z=>z⟩;rw[kI λ(z:n=m)=>hj (f.inj i j _ _ n e y1 hM rfl e' (by rw[z];exact y2))];exact w2
    |ro u=>
     obtain⟨m,es,rfl,w1,w2,w3⟩:=old;refine⟨m,es,rfl,w1,?_,w3.mono kp λ_ z=>z⟩;rw[kI λ(z:n=m)=>w1 (z▸mn)];exact w2
 .have kind:∀(j:Nat) o,(fr.set i (some (s.with l')))[j]?=some o->gG o=true->∃o0,fr[j]?=some o0/\gG o0=true:=λj o w1 w2=>by
   by_cases hj:i=j
   .subst hj;exact⟨_,e,hM⟩
   .rw[List.getElem?_set_ne hj]at w1;exact⟨o,w1,w2⟩
  obtain⟨oi,k1,k2⟩:=kind j o y1 y3;obtain⟨oj,k3,k4⟩:=kind k o' y2 y4;exact f.inj j k oi oj m k1 k3 k2 k4 y5 y6
theorem Ln{m:ME}{l l':List V}{xs:List V}{n:Nat}{ds es:List D}(z:jW m l xs=some (v,l'))(e:h[n]?=some (.lst ds))(q:aq h S l ds)(p:fN h S xs es)(p':Bk m=false->aq h S xs es)(hS:∀k,S k->k≠n) :
  ∃r ds',Ev.eZ m (.ref n) es h=.ok r (h.set n (.lst ds'))/\Rep h S v r/\aq h S l' ds':=by
 unfold jW at z;split at z
 .have p':=p' rfl;split at z
  .rename_i k;cases z;simp only[aq]at p';obtain⟨d,_,rfl,p1,rfl⟩:=p';refine⟨_,_,?_,rfl,q.append (.cons p1 .nil)⟩
   delta Ev.eZ;dsimp only;simp only[e]
   rw[if_pos (by rw[<-q.length];exact k)]
  .cases z
 .split at z
  .rename_i k;cases z;obtain⟨d,rfl,p1⟩:=p.one;simp only[aY]at p1;obtain⟨n2,cs,rfl,e2,p1⟩:=p1;refine⟨_,_,?_,rfl,q.append p1⟩
   delta Ev.eZ;dsimp only;simp only[e,e2]
   rw[if_pos (by rw[<-q.length,<-p1.length];exact k)]
  .cases z
 .simp only[fN]at p;subst p;split at z
  .rename_i x y;cases z;obtain⟨d,k1,k2⟩:=q.get y;refine⟨d,_,?_,k2,q.dropLast⟩
   delta Ev.eZ;dsimp only;simp only[e]
   rw[<-q.length,k1]
  .cases z
 .cases z
theorem bu.set(f:bu M B h S fr aj){i:Nat}(e:put fr i (.val v)=some af)(q:Rep h S v d):bu M B h S af (aj.set i (some d))/\(∀j,locked af j=locked fr j)/\∀j,locked fr j=true->(aj.set i (some d))[j]?=aj[j]?:=by
 have hx:af=fr.set i (some (.val v))/\locked fr i=false:=by
  unfold put at e;unfold locked;split at e
  .cases e
  .cases e
  .rename_i k1 k2;cases e;refine⟨rfl,?_⟩;cases z:fr[i]? with
   |none=>rfl
   |some o=>
    rcases o with _|s
    .rfl
    .cases s with
     |bor l=>exact absurd z (k1 l)
     |ro l=>exact absurd z (k2 l)
     |_=>rfl
 obtain⟨rfl,hk⟩:=hx;have lk:∀j,locked (fr.set i (some (.val v))) j=locked fr j:=λj=>by
  by_cases hj:i=j
  .subst hj;rw[hk];unfold locked;by_cases hl:i<fr.length
   .rw[List.getElem?_set_self hl];rfl
   .rw[List.getElem?_eq_none (by simpa using hl)]
  .unfold locked;rw[List.getElem?_set_ne hj]
 refine⟨⟨f.wS,f.wM,f.wB,by simp[f.len],λj o p y1 y2=>?_,λj k o o' m y1 y2 y3 y4 y5 y6=>?_⟩,lk,λj hj=>?_⟩
 .by_cases hj:i=j
  .subst hj;have hl:i<fr.length:=by have:=(List.getElem?_eq_some_iff.mp y1).1;simpa using this
   rw[List.getElem?_set_self hl]at y1;rw[List.getElem?_set_self (by rw[<-f.len];exact hl)]at y2;cases y1;cases y2;exact⟨d,rfl,q⟩
  .rw[List.getElem?_set_ne hj]at y1 y2;exact f.sl j o p y1 y2
 .have hn:∀(j:Nat) o,(fr.set i (some (.val v)))[j]?=some o->gG o=true->i≠j:=λj o w1 w2 w3=>by
   subst w3;have hl:i<fr.length:=by have:=(List.getElem?_eq_some_iff.mp w1).1;simpa using this
   rw[List.getElem?_set_self hl]at w1;cases w1;cases w2
  have n1:=hn j o y1 y3;have n2:=hn k o' y2 y4;rw[List.getElem?_set_ne n1]at y1 y5;rw[List.getElem?_set_ne n2]at y2 y6;exact f.inj j k o o' m y1 y2 y3 y4 y5 y6
 .have:i≠j:=λz=>by subst z;rw[hk]at hj;cases hj
  rw[List.getElem?_set_ne this]
theorem bu.cG:∀{is:List Nat}{vs:List V}{ds:List D}{fr af:Fr}{aj:Ev.Fr},bu M B h S fr aj->cG is vs fr=some af->aq h S vs ds->∃bQ,Ev.cG is ds aj=some bQ/\bu M B h S af bQ/\(∀j,locked af j=locked fr j)/\∀j,locked fr j=true->bQ[j]?=aj[j]?
 |[],[],ds,fr,af,aj,f,e,q=>by
  simp[Pv.cG]at e;simp only[aq]at q;subst e q;exact⟨aj,rfl,f,λ_=>rfl,λ_ _=>rfl⟩
 |[],_ :: _,_,_,_,_,_,e,_=>by simp[Pv.cG]at e
 |_ :: _,[],_,_,_,_,_,e,_=>by simp[Pv.cG]at e
 |i :: is,v :: vs,ds,fr,af,aj,f,e,q=>by
  simp only[Pv.cG,Option.bind_eq_some_iff]at e;obtain⟨ao,e1,e2⟩:=e;simp only[aq]at q;obtain⟨d,es,rfl,q1,q2⟩:=q;obtain⟨f2,l2,r2⟩:=f.set e1 q1;obtain⟨bQ,a,f3,l3,r3⟩:=f2.cG e2 q2;exact⟨bQ,a,f3,λj=>(l3 j).trans (l2 j),λj hj=>(r3 j (by rw[l2 j];exact hj)).trans (r2 j hj)⟩
theorem bu.br(f:bu M B h S fr aj){t:T}(e:br t v fr=some af)(q:Rep h S v d):∃bQ,Ev.br t d aj=some bQ/\bu M B h S af bQ/\(∀j,locked af j=locked fr j)/\∀j,locked fr j=true->bQ[j]?=aj[j]?:=by
 cases t with
 |one i=>exact⟨_,rfl,f.set e q⟩
 |many l=>
  cases v<;>simp only[Pv.br,reduceCtorEq]at e
  simp only[Rep]at q;obtain⟨ds,rfl,q⟩:=q;exact f.cG e q
theorem bu.undef(f:bu M B h S fr aj){t:T}(e:undef t fr=true):Ev.undef t aj=true:=by
 unfold Pv.undef at e;unfold Ev.undef;rw[List.all_eq_true]at e ⊢;intro i hi;have:=e i hi;cases z:fr[i]? with
 |none=>
  have:aj[i]?=none:=by
   rw[List.getElem?_eq_none_iff]at z ⊢;rw[<-f.len];exact z
  rw[this];rfl
 |some o=>
  obtain⟨p,e1,q⟩:=f.get z;rw[z]at this;rcases o with _|s
  .simp only[kC]at q;subst q;rw[e1];rfl
  .simp at this
theorem xG{i:Nat}{o:Option Sl}(e:(r8 fr)[i]?=some o):∃o0,fr[i]?=some o0/\o=o0.map Sl.read:=by
 unfold r8 at e;rw[List.getElem?_map]at e;cases z:fr[i]? with
 |none=>rw[z]at e;cases e
 |some o0=>rw[z]at e;cases e;exact⟨o0,rfl,rfl⟩
theorem bu.ro(f:bu M B h S fr aj):bu (λ_=>False) B h S (r8 fr) aj:=by
 refine⟨λm y=>⟨(f.wS m y).1,id,(f.wS m y).2.2⟩,λm y=>y.elim,f.wB,by simp[r8,f.len],λi o p y1 y2=>?_,λi j o o' m y1 y2 y3 y4 y5 y6=>?_⟩
 .obtain⟨o0,z,rfl⟩:=xG y1;have q:=f.sl i o0 p z y2;rcases o0 with _|s
  .exact q
  .cases s with
   |val v=>exact q
   |own l=>obtain⟨m,ds,a,b,c,d⟩:=q;exact⟨m,ds,a,id,c,d⟩
   |bor l=>obtain⟨m,ds,a,b,c,d⟩:=q;exact⟨m,ds,a,id,c,d⟩
   |ro l=>obtain⟨m,ds,a,b,c,d⟩:=q;exact⟨m,ds,a,id,c,d⟩
 .obtain⟨o0,z,rfl⟩:=xG y1;rcases o0 with _|s
  .cases y3
  .cases s<;>cases y3
theorem gx:∀{ck:List (Nat×List D)},(∀q∈ck,bf h q.1=some q.2)->Ev.stays h ck=true
 |[],_=>rfl
 | (n,ds) :: r,q=>by
  simp only[Ev.stays,Bool.and_eq_true];refine⟨?_,gx λx hx=>q x (List.mem_cons_of_mem _ hx)⟩;rw[q (n,ds) (List.mem_cons_self ..)];exact Ev.yF _
theorem jF{n:Nat}{ds:List D}(q:bf h n=some ds)(k:h'[n]?=h[n]?):bf h' n=some ds:=by
 unfold bf at q ⊢;rw[k];exact q
theorem mT{n:Nat}{ds:List D}(q:bf h n=some ds):n<h.length:=by
 unfold bf at q;cases z:h[n]? with
 |none=>rw[z]at q;cases q
 |some o=>exact(List.getElem?_eq_some_iff.mp z).1
noncomputable def Dt(h:Hh)(S:Nat->Prop):Option V->Option D->Prop
 |none,o=>o=none
 |some v,o=>∃d,o=some d/\Rep h S v d
theorem xH{f:V->Option (Option V)}{f':D->Hh->Ev.R (Option D)}{ck:List (Nat×List D)}{h0:Hh}{S0:Nat->Prop}(w0:∀m,S0 m->m<h0.length)(st:∀q∈ck,bf h0 q.1=some q.2)
  (turn:∀v o d h S,Al h0 S0 h S->f v=some o->Rep h S v d->∃o' h' S',f' d h=.ok o' h'/\Dt h' S' o o'/\Al h S h' S') :
  ∀{vs:List V} {ds:List D} {rs:List V} {h:Hh} {S:Nat->Prop},Al h0 S0 h S->cJ f vs=some rs->aq h S vs ds->∃rs' h' S',Ev.cJ f' ck ds h=.ok rs' h'/\aq h' S' rs rs'/\Al h S h' S'
 |[],ds,rs,h,S,a,e,q=>by
  simp[cJ]at e;simp only[aq]at q;subst e q;refine⟨[],h,S,?_,.nil,.refl⟩;simp only[Ev.cJ];rw[if_pos (gx λx hx=>jF (st x hx) (a.keep _ (mT (st x hx))))]
 |v :: vs,ds,rs,h,S,a,e,q=>by
  simp only[cJ,Option.bind_eq_some_iff]at e;obtain⟨o,e1,r,e2,e3⟩:=e;cases e3;simp only[aq]at q;obtain⟨d,es,rfl,q1,q2⟩:=q;have w:∀m,S m->m<h.length:=λm z=>by
   rcases a.new m z with z|z
   .exact Nat.lt_of_lt_of_le (w0 m z) a.len
   .exact z.2
  obtain⟨o',h1,S1,t1,t2,t3⟩:=turn v o d h S a e1 q1;obtain⟨rs',h2,S2,u1,u2,u3⟩:=xH w0 st turn (a.trans t3) e2 (q2.mono (λm z=>t3.keep m (w m z)) t3.sub);have w1:∀m,S1 m->m<h1.length:=λm z=>by
   rcases t3.new m z with z|z
   .exact Nat.lt_of_lt_of_le (w m z) t3.len
   .exact z.2
  refine⟨o'.toList++rs',h2,S2,?_,?_,t3.trans u3⟩
  .simp only[Ev.cJ];rw[if_pos (gx λx hx=>jF (st x hx) (a.keep _ (mT (st x hx)))),t1,Ev.ak,u1,Ev.ak]
  .cases o with
   |none=>simp only[Dt]at t2;subst t2;simpa using u2
   |some v'=>
    simp only[Dt]at t2;obtain⟨d',rfl,t2⟩:=t2;exact .cons (t2.mono (λm z=>u3.keep m (w1 m z)) u3.sub) u2
end
noncomputable def jj(k:Bool)(h:Hh)(S:Nat->Prop)(v:List V)(d:List D):Prop:=if k=true then fN h S v d else aq h S v d
inductive Lo(P':Ev.aM)(e:E)(k:Bool)(v:V)(M B:Nat->Prop)(h:Hh)(S:Nat->Prop)(fr:Fr)(aj:Ev.Fr)(af:Fr):Prop
 |mk (d:D) (h':Hh) (S':Nat->Prop) (c0:Ev.ev P' e aj h=.ok d h') (c1:fS k h' S' v d) (c2:Out M B (bE e) h S fr aj h' S' af):Lo P' e k v M B h S fr aj af
inductive Lp(P':Ev.aM)(e:E)(b:Bool)(M B:Nat->Prop)(h:Hh)(S:Nat->Prop)(fr:Fr)(aj:Ev.Fr)(af:Fr):Prop
 |mk (h':Hh) (S':Nat->Prop) (c0:Ev.aF P' e aj h=.ok b h') (c1:Out M B (bE e) h S fr aj h' S' af):Lp P' e b M B h S fr aj af
inductive Lq(P':Ev.aM)(e:Es)(k:Bool)(v:List V)(M B:Nat->Prop)(h:Hh)(S:Nat->Prop)(fr:Fr)(aj:Ev.Fr)(af:Fr):Prop
 |mk (d:List D) (h':Hh) (S':Nat->Prop) (c0:Ev.bX P' e aj h=.ok d h') (c1:jj k h' S' v d) (c2:Out M B (fQ e) h S fr aj h' S' af):Lq P' e k v M B h S fr aj af
inductive Lr(P':Ev.aM)(e:Es)(v:List (Nat ⊕ V))(M B:Nat->Prop)(h:Hh)(S:Nat->Prop)(fr:Fr)(aj:Ev.Fr)(af:Fr):Prop
 |mk (d:List D) (h':Hh) (S':Nat->Prop) (c0:Ev.bX P' e aj h=.ok d h') (c1:uK h' S' aj v d) (c2:Out M B (fQ e) h S fr aj h' S' af):Lr P' e v M B h S fr aj af
inductive Ls(P':Ev.aM)(e:Eo)(v:Option Int)(M B:Nat->Prop)(h:Hh)(S:Nat->Prop)(fr:Fr)(aj:Ev.Fr)(af:Fr):Prop
 |mk (h':Hh) (S':Nat->Prop) (c0:Ev.fL P' e aj h=.ok v h') (c1:Out M B (ki e) h S fr aj h' S' af):Ls P' e v M B h S fr aj af
inductive Lu(P':Ev.aM)(e:Eo)(v:Bool)(M B:Nat->Prop)(h:Hh)(S:Nat->Prop)(fr:Fr)(aj:Ev.Fr)(af:Fr):Prop
 |mk (h':Hh) (S':Nat->Prop) (c0:Ev.gZ P' e aj h=.ok v h') (c1:Out M B (ki e) h S fr aj h' S' af):Lu P' e v M B h S fr aj af
inductive Lv(P':Ev.aM)(e:It)(k:Bool)(v:List V)(M B:Nat->Prop)(h:Hh)(S:Nat->Prop)(fr:Fr)(aj:Ev.Fr)(af:Fr):Prop
 |mk (s:Ev.Src) (h':Hh) (S':Nat->Prop) (c0:Ev.cz P' e aj h=.ok s h') (c1:aq h' S' v s.1) (c2:∀q∈s.2,bf h' q.1=some q.2/\(k=false->¬ M q.1)) (c3:Out M B (Dn e) h S fr aj h' S' af):Lv P' e k v M B h S fr aj af
section
variable(P:aM)(P':Ev.aM)
noncomputable def bg(e:E):Prop:=∀{k:Bool} {fr:Fr} {v:V} {af:Fr} {M B:Nat->Prop} {h:Hh} {S:Nat->Prop} {aj:Ev.Fr},ev P k e fr=.ok v af->bu M B h S fr aj->Lo P' e k v M B h S fr aj af
noncomputable def gr(e:E):Prop:=∀{fr:Fr} {b:Bool} {af:Fr} {M B:Nat->Prop} {h:Hh} {S:Nat->Prop} {aj:Ev.Fr},aF P e fr=.ok b af->bu M B h S fr aj->Lp P' e b M B h S fr aj af
noncomputable def jk(e:Es):Prop:=∀{k:Bool} {fr:Fr} {v:List V} {af:Fr} {M B:Nat->Prop} {h:Hh} {S:Nat->Prop} {aj:Ev.Fr},bX P k e fr=.ok v af->bu M B h S fr aj->Lq P' e k v M B h S fr aj af
noncomputable def pI(e:Es):Prop:=∀{fr:Fr} {v:List (Nat ⊕ V)} {af:Fr} {M B:Nat->Prop} {h:Hh} {S:Nat->Prop} {aj:Ev.Fr},fM P e fr=.ok v af->bu M B h S fr aj->Lr P' e v M B h S fr aj af
noncomputable def pJ(e:Eo):Prop:=∀{fr:Fr} {v:Option Int} {af:Fr} {M B:Nat->Prop} {h:Hh} {S:Nat->Prop} {aj:Ev.Fr},fL P e fr=.ok v af->bu M B h S fr aj->Ls P' e v M B h S fr aj af
noncomputable def sQ(e:Eo):Prop:=∀{fr:Fr} {v:Bool} {af:Fr} {M B:Nat->Prop} {h:Hh} {S:Nat->Prop} {aj:Ev.Fr},gZ P e fr=.ok v af->bu M B h S fr aj->Lu P' e v M B h S fr aj af
noncomputable def kY(e:It):Prop:=∀{k:Bool} {fr:Fr} {v:List V} {af:Fr} {M B:Nat->Prop} {h:Hh} {S:Nat->Prop} {aj:Ev.Fr},cz P k e fr=.ok v af->bu M B h S fr aj->Lv P' e k v M B h S fr aj af
end
section
variable{P:aM}{P':Ev.aM}{a b e tt:E}{es:Es}{lo hi:Eo}{it:It}
theorem Lx{d:D}:bg P P' (.c d):=λz f=>by
 simp only[ev]at z;replace z:=aC z;obtain⟨z,y0⟩:=z;subst y0;exact⟨d,_,_,by simp only[Ev.ev],.of (mP z),.refl f⟩
theorem Ly{i:Nat}:bg P P' (.v i):=λz f=>by
 simp only[ev]at z;replace z:=aC z;obtain⟨z,y0⟩:=z;subst y0;obtain⟨d,e1,q⟩:=Hg z f;exact⟨d,_,_,by simp only[Ev.ev,e1,Ev.dw],q,.refl f⟩
theorem jj.n{h:Hh}{S:Nat->Prop}{v:List V}{d:List D}(q:jj false h S v d):aq h S v d:=by simpa[jj]using q
theorem aq.tl{h:Hh}{S:Nat->Prop}:∀{v:List V}{d:List D},aq h S v d->fN h S v d
 |[],_,q=>q
 |_ :: _,_,⟨d,es,a,b,q⟩=>⟨d,es,a,b.top,q.tl⟩
theorem jj.t{k:Bool}{h:Hh}{S:Nat->Prop}{v:List V}{d:List D}(q:jj k h S v d):fN h S v d:=by
 unfold jj at q;split at q
 .exact q
 .exact q.tl
theorem Br(is:jk P P' es):bg P P' (.tup es):=λz f=>by
 simp only[ev]at z;obtain⟨ds,ao,z1,z2⟩:=ah z;replace z2:=aC z2;obtain⟨z2,y0⟩:=z2;subst y0;obtain⟨ds',h',S',e1,q,o⟩:=is z1 f;unfold jD at z2;split at z2
 .rename_i hk;cases z2;refine⟨.tup ds',h',S',?_,.of ⟨ds',rfl,q.n⟩,o⟩;simp only[Ev.ev,e1,Ev.ak];rw[if_pos (by rw[<-q.n.length];exact hk)]
 .cases z2
theorem Bs(is:jk P P' es):bg P P' (.lst es):=λz f=>by
 simp only[ev]at z;obtain⟨ds,ao,z1,z2⟩:=ah z;replace z2:=aC z2;obtain⟨z2,y0⟩:=z2;subst y0;obtain⟨ds',h',S',e1,q,o⟩:=is z1 f;obtain⟨r,h2,S2,a1,a2,a3⟩:=fR o.f.w z2 q.n;exact⟨r,h2,S2,by simp only[Ev.ev,e1,Ev.ak,a1],.of a2,o.al a3⟩
theorem nC{a:E}{aj:Ev.Fr}{h h1:Hh}{d:D}(e:Ev.ev P' a aj h=.ok d h1):∀i,a=.v i->aj[i]?.join=some d:=λi hi=>by
 subst hi;simp only[Ev.ev]at e;exact(Ev.aC e).1
theorem two(ia:bg P P' a)(ib:bg P P' b){α:Type}{X:V->V->Fr->R α}{u:α}{fr bL:Fr}{M B:Nat->Prop}{h:Hh}{S:Nat->Prop}{aj:Ev.Fr}
  (z:((ev P (kf a (bE b)) a fr).bind λx af=>(ev P true b af).bind λy ao=>X x y ao)=.ok u bL) (f:bu M B h S fr aj) :
  ∃x y d e h2 S2 ao,(∀{β:Type} (g:D->D->Hh->Ev.R β),((Ev.ev P' a aj h).bind λx h1=>(Ev.ev P' b aj h1).bind λy h2=>g x y h2)=g d e h2)/\X x y ao=.ok u bL/\aY h2 S2 x d/\aY h2 S2 y e/\Out M B (bE a++bE b) h S fr aj h2 S2 ao:=by
 replace z:=ah z;obtain⟨x,af,z1,z⟩:=z;replace z:=ah z;obtain⟨y,ao,z2,z⟩:=z;obtain⟨d,h1,S1,e1,q1,o1⟩:=ia z1 f;obtain⟨e,h2,S2,e2,q2,o2⟩:=ib z2 o1.f;exact⟨x,y,d,e,h2,S2,ao,λg=>by rw[e1,Ev.ak,e2,Ev.ak],z,(q1.tr o1.f o2.tr id (nC e1)).t,q2.t,o1.trans o2⟩
theorem Bt{o:bO}(ia:bg P P' a)(ib:bg P P' b):bg P P' (.bin o a b):=λz f=>by
 simp only[ev]at z;replace z:=two ia ib z f;obtain⟨x,y,d,e,h2,S2,ao,k,z,q1,q2,ou⟩:=z;replace z:=aC z;obtain⟨z,y0⟩:=z;subst y0;obtain⟨r,h3,S3,a1,a2,a3⟩:=K9 ou.f.w z q1 q2;exact⟨r,h3,S3,by simp only[Ev.ev];rw[k];exact a1,.of a2,ou.al a3⟩
theorem Bu{o:bJ}(ia:bg P P' a)(ib:bg P P' b):bg P P' (.cmp o a b):=λz f=>by
 simp only[ev]at z;replace z:=two ia ib z f;obtain⟨x,y,d,e,h2,S2,ao,k,z,q1,q2,ou⟩:=z;replace z:=aC z;obtain⟨z,y0⟩:=z;subst y0;simp only[Option.map_eq_some_iff]at z;obtain⟨b,z,rfl⟩:=z;exact⟨.bl b,h2,S2,by simp only[Ev.ev];rw[k,La z q1.u q2.u];rfl,.of rfl,ou⟩
theorem Fb(ia:bg P P' a)(ib:bg P P' b):bg P P' (.ix a b):=λz f=>by
 simp only[ev]at z;replace z:=two ia ib z f;obtain⟨x,y,d,e,h2,S2,ao,k,z,q1,q2,ou⟩:=z;replace z:=aC z;obtain⟨z,y0⟩:=z;subst y0;obtain⟨r,a1,a2⟩:=Lb z q1 q2;exact⟨r,h2,S2,by simp only[Ev.ev];rw[k,a1];rfl,.of a2,ou⟩
theorem Hi{x y v:V}{d e:D}{h:Hh}{S:Nat->Prop}(z:Dm x y=some v)(p:aY h S x d)(q:aY h S y e):∃r,Ev.CT d e h=some r/\Rep h S v r:=by
 unfold Dm at z;split at z
 .simp only[aY,Rep]at p q;obtain⟨n,rfl,_,p⟩:=p;subst q;obtain⟨s,e1,rfl⟩:=Option.map_eq_some_iff.mp z;exact⟨.str s,by simp[Ev.CT,Ev.fj,p,e1],rfl⟩
 .cases z
theorem Bv(ia:bg P P' a)(ib:bg P P' b):bg P P' (.wQ a b):=λz f=>by
 simp only[ev]at z;replace z:=two ia ib z f;obtain⟨x,y,d,e,h2,S2,ao,k,z,q1,q2,ou⟩:=z;replace z:=aC z;obtain⟨z,y0⟩:=z;subst y0;obtain⟨r,a1,a2⟩:=Hi z q1 q2;exact⟨r,h2,S2,by simp only[Ev.ev];rw[k,a1];rfl,.of a2,ou⟩
theorem Bw{c:E}(ia:bg P P' a)(ib:bg P P' b)(ic:bg P P' c):bg P P' (.lT a b c):=λz f=>by
 simp only[ev]at z;replace z:=ah z;obtain⟨x,af,z1,z⟩:=z;replace z:=ah z;obtain⟨y,ao,z2,z⟩:=z;replace z:=ah z;obtain⟨u,bx,z3,z⟩:=z;replace z:=aC z;obtain⟨z,y0⟩:=z;subst y0;obtain⟨d,h1,S1,e1,q1,o1⟩:=ia z1 f;obtain⟨e,h2,S2,e2,q2,o2⟩:=ib z2 o1.f;obtain⟨g,h3,S3,e3,q3,o3⟩:=ic z3 o2.f;have p0:=q1.t;have p1:=(q1.tr o1.f (o2.trans o3).tr id (nC e1)).t;have p2:=(q2.tr o2.f o3.tr id (nC e2)).t;have p3:Rep h3 S3 u g:=q3;unfold uD at z;split at z
 .cases z;simp only[aY,Rep]at p0 p1 p2;obtain⟨n,rfl,_,p0⟩:=p0;obtain⟨n',en,_,p1⟩:=p1;cases en;subst p2;rename_i kvs k _ _;cases hv:Ev.bW kvs k with
  |none=>exact⟨g,h3,S3,by simp only[Ev.ev,e1,Ev.ak,e2,e3];simp[Ev.t9,Ev.fj,p0,p1,hv,Ev.dw],.of p3,o1.trans (o2.trans o3)⟩
  |some s=>exact⟨.str s,h3,S3,by simp only[Ev.ev,e1,Ev.ak,e2,e3];simp[Ev.t9,Ev.fj,p0,p1,hv,Ev.dw],.of rfl,o1.trans (o2.trans o3)⟩
 .cases z
theorem Oc(ia:bg P P' a):bg P P' (.nt a):=λz f=>by
 simp only[ev]at z;replace z:=ah z;obtain⟨x,af,z1,z⟩:=z;obtain⟨d,h1,S1,e1,q1,o1⟩:=ia z1 f;cases x<;>simp only[reduceCtorEq]at z
 cases z;have q:=q1.t;simp only[aY,Rep]at q;subst q;exact⟨_,h1,S1,by simp only[Ev.ev,e1,Ev.ak],.of rfl,o1⟩
theorem Bx(ia:bg P P' a):bg P P' (.neg a):=λz f=>by
 simp only[ev]at z;replace z:=ah z;obtain⟨x,af,z1,z⟩:=z;obtain⟨d,h1,S1,e1,q1,o1⟩:=ia z1 f;cases x<;>simp only[reduceCtorEq]at z
 cases z;have q:=q1.t;simp only[aY,Rep]at q;subst q;exact⟨_,h1,S1,by simp only[Ev.ev,e1,Ev.ak],.of rfl,o1⟩
theorem Od(ia:bg P P' a)(ib:bg P P' b):bg P P' (.an a b):=λz f=>by
 simp only[ev]at z;replace z:=ah z;obtain⟨x,af,z1,z⟩:=z;obtain⟨d,h1,S1,e1,q1,o1⟩:=ia z1 f;cases x<;>try (cases z;done)
 rename_i k;have q:=q1.t;simp only[aY,Rep]at q;subst q;cases k with
 |true=>
  try simp only at z
  obtain⟨d,h2,S2,e2,q2,o2⟩:=ib z o1.f;exact⟨d,h2,S2,by simp only[Ev.ev,e1,Ev.ak,e2],q2,o1.trans o2⟩
 |false=>
  try simp only at z
  cases z;exact⟨_,h1,S1,by simp only[Ev.ev,e1,Ev.ak],.of rfl,o1.weak (by simp only[bE];intro i hi;simp[hi])⟩
theorem Lz(ia:bg P P' a)(ib:bg P P' b):bg P P' (.orr a b):=λz f=>by
 simp only[ev]at z;replace z:=ah z;obtain⟨x,af,z1,z⟩:=z;obtain⟨d,h1,S1,e1,q1,o1⟩:=ia z1 f;cases x<;>try (cases z;done)
 rename_i k;have q:=q1.t;simp only[aY,Rep]at q;subst q;cases k with
 |false=>
  try simp only at z
  obtain⟨d,h2,S2,e2,q2,o2⟩:=ib z o1.f;exact⟨d,h2,S2,by simp only[Ev.ev,e1,Ev.ak,e2],q2,o1.trans o2⟩
 |true=>
  try simp only at z
  cases z;exact⟨_,h1,S1,by simp only[Ev.ev,e1,Ev.ak],.of rfl,o1.weak (by simp only[bE];intro i hi;simp[hi])⟩
theorem By(it:gr P P' tt)(ia:bg P P' a)(ib:bg P P' b):bg P P' (.jT tt a b):=λz f=>by
 simp only[ev]at z;replace z:=ah z;obtain⟨k,af,z1,z⟩:=z;obtain⟨h1,S1,e1,o1⟩:=it z1 f;cases k with
 |true=>
  simp only[if_true]at z;obtain⟨d,h2,S2,e2,q2,o2⟩:=ia z o1.f;exact⟨d,h2,S2,by simp only[Ev.ev,e1,Ev.ak,if_true,e2],q2,(o1.trans o2).weak (by simp only[bE];intro i hi;simp at hi ⊢;rcases hi with hi|hi<;>simp[hi])⟩
 |false=>
  simp only[Bool.false_eq_true,if_false]at z;obtain⟨d,h2,S2,e2,q2,o2⟩:=ib z o1.f;exact⟨d,h2,S2,by simp only[Ev.ev,e1,Ev.ak];rw[if_neg (by decide)];exact e2,q2,(o1.trans o2).weak (by simp only[bE];intro i hi;simp at hi ⊢;rcases hi with hi|hi<;>simp[hi])⟩
theorem Fc(ia:bg P P' a)(il:pJ P P' lo)(ih:pJ P P' hi):bg P P' (.sl a lo hi):=λz f=>by
 simp only[ev]at z;replace z:=ah z;obtain⟨x,af,z1,z⟩:=z;replace z:=ah z;obtain⟨l,ao,z2,z⟩:=z;replace z:=ah z;obtain⟨u,bx,z3,z⟩:=z;replace z:=aC z;obtain⟨z,y0⟩:=z;subst y0;obtain⟨d,h1,S1,e1,q1,o1⟩:=ia z1 f;obtain⟨h2,S2,e2,o2⟩:=il z2 o1.f;obtain⟨h3,S3,e3,o3⟩:=ih z3 o2.f;have q:=(q1.tr o1.f (o2.trans o3).tr id (nC e1)).t;obtain⟨r,h4,S4,a1,a2,a3⟩:=Lc o3.f.w z q;exact⟨r,h4,S4,by simp only[Ev.ev,e1,Ev.ak,e2,e3,a1],.of a2,(o1.trans (o2.trans o3)).al a3⟩
theorem Fd(ia:bg P P' a):bg P P' (.rv a):=λz f=>by
 simp only[ev]at z;replace z:=ah z;obtain⟨x,af,z1,z⟩:=z;replace z:=aC z;obtain⟨z,y0⟩:=z;subst y0;obtain⟨d,h1,S1,e1,q1,o1⟩:=ia z1 f;obtain⟨r,h4,S4,a1,a2,a3⟩:=Le o1.f.w z q1.t;exact⟨r,h4,S4,by simp only[Ev.ev,e1,Ev.ak,a1],.of a2,o1.al a3⟩
theorem mU:∀{es:Es}{fr af:Fr}{as:List (Nat ⊕ V)},fM P es fr=.ok as af->∀i∈bR as,i∈jy es
 |.nil,_,_,_,z=>by simp only[fM]at z;cases z;simp[bR]
 |.cons e es,fr,af,as,z=>by
  simp only[fM]at z;cases y:kF fr e with
  |some i=>
   rw[y]at z;simp only at z;replace z:=ah z;obtain⟨xs,bx,z2,z⟩:=z;cases z;have hy:e=.v i:=by
    cases e<;>simp only[kF,reduceCtorEq]at y
    split at y
    .cases y;rfl
    .cases y
   subst hy;intro j hj;simp only[bR,List.mem_cons]at hj;simp only[jy,List.mem_cons];exact hj.imp id λhj=>mU z2 j hj
  |none=>
   rw[y]at z;simp only at z;replace z:=ah z;obtain⟨x,ao,z1,z⟩:=z;replace z:=ah z;obtain⟨xs,bx,z2,z⟩:=z;cases z;intro j hj;simp only[bR]at hj;have:=mU z2 j hj;cases e<;>simp only[jy]<;>first|exact this|exact List.mem_cons_of_mem _ this
theorem Fe(HP:pF P P'){g:Nat}(is:pI P P' es):bg P P' (.cl g es):=λz f=>by
 simp only[ev]at z;replace z:=ah z;obtain⟨as,af,z1,z⟩:=z;obtain⟨ds,h1,S1,e1,q1,o1⟩:=is z1 f;obtain⟨d,h2,S2,e2,q2,o2⟩:=Ds HP z o1.f q1;exact⟨d,h2,S2,by simp only[Ev.ev,e1,Ev.ak,e2],.of q2,(o1.trans o2).weak (by
  simp only[bE];intro i hi;rcases List.mem_append.mp hi with hi|hi
  .exact List.mem_append.mpr (.inl hi)
  .exact List.mem_append.mpr (.inr (mU z1 i hi)))⟩
theorem Ff{g:BI}(is:jk P P' es):bg P P' (.bi g es):=λz f=>by
 simp only[ev]at z;replace z:=ah z;obtain⟨as,af,z1,z⟩:=z;replace z:=aC z;obtain⟨z,y0⟩:=z;subst y0;obtain⟨ds,h1,S1,e1,q1,o1⟩:=is z1 f;obtain⟨r,h4,S4,a1,a2,a3⟩:=Lh o1.f.w z q1.t;exact⟨r,h4,S4,by simp only[Ev.ev,e1,Ev.ak,a1],.of a2,o1.al a3⟩
theorem xJ{kvs:List (D×D)}(ia:bg P P' a):bg P P' (.iZ kvs a):=λz f=>by
 simp only[ev]at z;replace z:=ah z;obtain⟨x,af,z1,z⟩:=z;replace z:=aC z;obtain⟨z,y0⟩:=z;subst y0;obtain⟨d,h1,S1,e1,q1,o1⟩:=ia z1 f;obtain⟨r,a1,a2⟩:=Dp (S:=S1) q1.t.u z;exact⟨r,h1,S1,by simp only[Ev.ev,e1,Ev.ak,a1,Ev.dw],.of a2,o1⟩
theorem BA(ia:bg P P' a):bg P P' (.iz a):=λz f=>by
 simp only[ev]at z;replace z:=ah z;obtain⟨x,af,z1,z⟩:=z;replace z:=aC z;obtain⟨z,y0⟩:=z;subst y0;obtain⟨d,h1,S1,e1,q1,o1⟩:=ia z1 f;obtain⟨r,a1,a2⟩:=Lf z q1.t;exact⟨r,h1,S1,by simp only[Ev.ev,e1,Ev.ak,a1],.of a2,o1⟩
theorem Fi{m:ME}{o:E}(io:bg P P' o)(is:jk P P' es):bg P P' (.me m o es):=λ{k fr v af M B h S aj} z f=>by
 simp only[ev]at z;by_cases hm:iL m=true
 .rw[if_pos hm]at z;cases y:kF fr o with
  |none=>rw[y]at z;cases z
  |some i=>
  rw[y]at z;try simp only at z
  replace z:=ah z;obtain⟨as,ao,z1,z⟩:=z;have hy:o=.v i/\∃s,lent fr i=some s:=by
   cases o<;>simp only[kF,reduceCtorEq]at y
   rename_i j;split at y
   .rename_i hs;cases y;exact⟨rfl,Option.isSome_iff_exists.mp hs⟩
   .cases y
  obtain⟨rfl,s,hs⟩:=hy;obtain⟨n,cs,_,_,_,w2,w3,_,_⟩:=jt hs f;obtain⟨ds,h1,S1,e1,q1,o1⟩:=is z1 f;have hr:Ev.wR m (.ref n) h=true:=by cases m<;>simp[iL]at hm<;>simp[Ev.wR,ig w3]
  have hap:Bk m=false->aq h1 S1 as ds:=λhh=>by rw[hh]at q1;exact q1.n
  have fin:∀s l l',ao[i]?=some (some s)->gG (some s)=true->(∃m' cs',aj[i]?=some (some (.ref m'))/\h1[m']?=some (.lst cs')/\aq h1 S1 l cs')->jW m l as=some (v,l')->af=ao.set i (some (s.with l'))->
    Lo P' (.me m (.v i) es) k v M B h S fr aj af:=by
   intro s l l' k1 k2 ⟨m',cs',k3,k4,k5⟩ k6 k7;rw[w2]at k3;cases k3;have mn:=o1.f.mM k1 k2 w2;obtain⟨r,ds',a1,a2,a3⟩:=Ln k6 k4 k5 q1.t hap λk z y=>(o1.f.wS k z).2.1 (y▸mn);have fw:=o1.f.write (l':=l') k1 k2 w2 a3;subst k7;refine⟨r,_,S1,?_,.of (a2.mono (λm z=>kI λy=>(o1.f.wS m z).2.1 (y▸mn)) λ_ z=>z),fw,?_,λj=>?_⟩
   .simp only[Ev.ev,w2,Option.join,Ev.dw,Ev.ak,hr,if_true,e1];simp only[Option.bind,id,Ev.dw,Ev.ak,hr,if_true,e1];exact a1
   .refine⟨by simpa using o1.tr.len,λm y1 y2=>?_,o1.tr.sub,λm y=>by simpa using o1.tr.new m y⟩;have y3:¬ Xs M aj (fQ es) m:=λz=>y2 (Xs.mono (by simp only[bE];intro i hi;simp[hi]) z);have y4:m≠n:=λz=>y2 ⟨z▸mn,i,by simp[bE,Qm,hm],by rw[z];exact w2⟩;rw[kI (λ(z:n=m)=>y4 z.symm)];exact o1.tr.keep m y1 y3
   .rw[<-o1.lk j];unfold locked;by_cases hj:i=j
    .subst hj;rw[List.getElem?_set_self (List.getElem?_eq_some_iff.mp k1).1,k1];exact xF
    .rw[List.getElem?_set_ne hj]
  split at z
  .rename_i l k1;have old:=o1.f.get k1;obtain⟨p,k2,m',cs',rfl,_,k4,k5⟩:=old;split at z
   .rename_i v' l' k6;cases z;exact fin _ l l' k1 rfl ⟨m',cs',k2,k4,k5⟩ k6 rfl
   .cases z
  .rename_i l k1;have old:=o1.f.get k1;obtain⟨p,k2,m',cs',rfl,_,k4,k5⟩:=old;split at z
   .rename_i v' l' k6;cases z;exact fin _ l l' k1 rfl ⟨m',cs',k2,k4,k5⟩ k6 rfl
   .cases z
  .cases z
 .rw[if_neg hm]at z;replace z:=ah z;obtain⟨x,ao,z1,z⟩:=z;replace z:=ah z;obtain⟨as,bx,z2,z⟩:=z;replace z:=aC z;obtain⟨z,y0⟩:=z;subst y0;obtain⟨d,h1,S1,e1,q1,o1⟩:=io z1 f;obtain⟨ds,h2,S2,e2,q2,o2⟩:=is z2 o1.f;have hm':iL m=false:=by simpa using hm
  have Fj:=(q1.tr o1.f o2.tr id (nC e1)).t;obtain⟨a1,r,a2,a3⟩:=Li z hm' Fj q2.t;have hr:Ev.wR m d h1=true:=by
   unfold eZ at z;split at z
   .have:=q1.t;simp only[aY,Rep]at this;subst this;rfl
   .cases z
  exact⟨r,h2,S2,by simp only[Ev.ev,e1,Ev.ak,hr,if_true,e2,a2],.of a3,(o1.trans o2).weak (by simp only[bE];intro i hi;simp at hi ⊢;rcases hi with hi|hi<;>simp[hi])⟩
theorem uM{elt:E}{t:T}{cond:Eo}(ii:kY P P' it)(ic:sQ P P' cond)(ie:bg P P' elt):bg P P' (.comp elt t it cond):=λz f=>by
 simp only[ev]at z;replace z:=ah z;obtain⟨vs,ao,z1,z⟩:=z;split at z
 case isFalse=>cases z
 rename_i hu;replace z:=aC z;obtain⟨z,y0⟩:=z;subst y0;simp only[Option.bind_eq_some_iff]at z;obtain⟨rs,z2,z3⟩:=z;obtain⟨s,h1,S1,e1,q1,q2,o1⟩:=ii z1 f;have UX:=o1.f.ro;obtain⟨rs',h2,S2,c1,c2,c3⟩:=xH (f':=λd h2=>match Ev.br t d _ with
    |none=>.bad
    |some ao=>(Ev.gZ P' cond ao h2).bind λk h3=>if k then (Ev.ev P' elt ao h3).bind λx h4=>.ok (some x) h4 else .ok none h3) (ck:=s.2) o1.f.w (λq hq=>(q2 q hq).1) (λv o d h S al y q=>by
  split at y
  .cases y
  .rename_i bx y1;obtain⟨jc,b1,b2,_,_⟩:=(UX.al al).br y1 q;rw[b1];split at y
   .rename_i c gm y2;obtain⟨h3,S3,c1,oc⟩:=ic y2 b2;have LA:Al h S h3 S3:=oc.tr.al λm z=>z.1;split at y
    .rename_i hc;subst hc;split at y
     .rename_i x mq y3;cases y;obtain⟨d',h4,S4,d1,d2,od⟩:=ie y3 (b2.al LA);refine⟨some d',h4,S4,?_,⟨d',rfl,d2.n⟩,LA.trans (od.tr.al λm z=>z.1)⟩;simp only[c1,Ev.ak,if_true,d1]
     .cases y
    .rename_i hc;cases y;refine⟨none,h3,S3,?_,rfl,LA⟩;simp only[c1,Ev.ak];rw[if_neg hc]
   .cases y) Al.refl z2 q1
 obtain⟨r,h4,S4,a1,a2,a3⟩:=fR (o1.f.al c3).w z3 c2;refine⟨r,h4,S4,?_,.of a2,(o1.al c3).al a3⟩;simp only[Ev.ev,e1,Ev.ak];rw[if_pos (o1.f.undef hu)];refine Eq.trans (congrArg (λq:Ev.R (List D)=>q.bind λds h2=>Ev.alloc ds h2) c1) ?_;simp only[Ev.ak,a1]
theorem BB(ii:kY P P' it):bg P P' (.je it):=λz f=>by
 simp only[ev]at z;replace z:=ah z;obtain⟨vs,ao,z1,z⟩:=z;replace z:=aC z;obtain⟨z,y0⟩:=z;subst y0;obtain⟨s,h1,S1,e1,q1,q2,o1⟩:=ii z1 f;obtain⟨r,h4,S4,a1,a2,a3⟩:=fR o1.f.w z q1;exact⟨r,h4,S4,by simp only[Ev.ev,e1,Ev.ak,a1],.of a2,o1.al a3⟩
theorem LB:jk P P' .nil:=λ{k fr v af M B h S aj} z f=>by
 simp only[bX]at z;cases z;refine⟨[],_,_,by simp only[Ev.bX],?_,.refl f⟩;unfold jj;split<;>rfl
theorem Hj(ie:bg P P' e)(is:jk P P' es):jk P P' (.cons e es):=λ{k fr v af M B h S aj} z f=>by
 simp only[bX]at z;replace z:=ah z;obtain⟨x,ao,z1,z⟩:=z;replace z:=ah z;obtain⟨xs,bx,z2,z⟩:=z;cases z;obtain⟨d,h1,S1,e1,q1,o1⟩:=ie z1 f;obtain⟨ds,h2,S2,e2,q2,o2⟩:=is z2 o1.f;have Fj:=q1.tr (a:=e) o1.f o2.tr (by intro z;simp at z;exact z.2) (nC e1);refine⟨d :: ds,h2,S2,by simp only[Ev.bX,e1,Ev.ak,e2],?_,o1.trans o2⟩;unfold jj at q2 ⊢;cases k with
 |true=>simp only[if_true]at q2 ⊢;exact⟨d,ds,rfl,Fj.t,q2⟩
 |false=>
  simp only[Bool.false_eq_true,if_false]at q2 ⊢;exact .cons (by simpa[fS]using Fj) q2
theorem Hl:pI P P' .nil:=λz f=>by
 simp only[fM]at z;cases z;exact⟨[],_,_,by simp only[Ev.bX],rfl,.refl f⟩
theorem Du(ie:bg P P' e)(is:pI P P' es):pI P P' (.cons e es):=λ{fr v af M B h S aj} z f=>by
 simp only[fM]at z;cases y:kF fr e with
 |some i=>
  rw[y]at z;try simp only at z
  replace z:=ah z;obtain⟨xs,bx,z2,z⟩:=z;cases z;have hy:e=.v i/\∃s,lent fr i=some s:=by
   cases e<;>simp only[kF,reduceCtorEq]at y
   rename_i j;split at y
   .rename_i hs;cases y;exact⟨rfl,Option.isSome_iff_exists.mp hs⟩
   .cases y
  obtain⟨rfl,s,hs⟩:=hy;obtain⟨n,cs,_,_,_,w2,w3,_,_⟩:=jt hs f;obtain⟨ds,h2,S2,e2,q2,o2⟩:=is z2 f;refine⟨.ref n :: ds,h2,S2,?_,⟨_,_,rfl,w2,q2⟩,o2.weak (by simp only[fQ,bE];intro i hi;simpa using hi)⟩;simp only[Ev.bX,Ev.ev,w2,Option.join,Option.bind,id,Ev.dw,Ev.ak,e2]
 |none=>
  rw[y]at z;try simp only at z
  replace z:=ah z;obtain⟨x,ao,z1,z⟩:=z;replace z:=ah z;obtain⟨xs,bx,z2,z⟩:=z;cases z;obtain⟨d,h1,S1,e1,q1,o1⟩:=ie z1 f;obtain⟨ds,h2,S2,e2,q2,o2⟩:=is z2 o1.f;exact⟨d :: ds,h2,S2,by simp only[Ev.bX,e1,Ev.ak,e2],⟨_,_,rfl,q1.n.tr o1.f o2.tr,q2⟩,o1.trans o2⟩
theorem Oe:pJ P P' .no:=λz f=>by
 simp only[fL]at z;cases z;exact⟨_,_,by simp only[Ev.fL],.refl f⟩
theorem LC(ie:bg P P' e):pJ P P' (.yes e):=λz f=>by
 simp only[fL]at z;replace z:=ah z;obtain⟨x,ao,z1,z⟩:=z;replace z:=aC z;obtain⟨z,y0⟩:=z;subst y0;obtain⟨d,h1,S1,e1,q1,o1⟩:=ie z1 f;cases x<;>simp[intOf]at z
 subst z;have q:=q1.t;simp only[aY,Rep]at q;subst q;exact⟨h1,S1,by simp only[Ev.fL,e1,Ev.ak];rfl,o1⟩
theorem LD:sQ P P' .no:=λz f=>by
 simp only[gZ]at z;cases z;exact⟨_,_,by simp only[Ev.gZ],.refl f⟩
theorem Ho(ie:gr P P' e):sQ P P' (.yes e):=λz f=>by
 simp only[gZ]at z;obtain⟨h1,S1,e1,o1⟩:=ie z f;exact⟨h1,S1,by simp only[Ev.gZ,e1],o1⟩
theorem SI(ia:gr P P' a)(ib:gr P P' b):gr P P' (.an a b):=λz f=>by
 simp only[aF]at z;replace z:=ah z;obtain⟨k,af,z1,z⟩:=z;obtain⟨h1,S1,e1,o1⟩:=ia z1 f;cases k with
 |true=>
  simp only[if_true]at z;obtain⟨h2,S2,e2,o2⟩:=ib z o1.f;exact⟨h2,S2,by simp only[Ev.aF,e1,Ev.ak,if_true,e2],o1.trans o2⟩
 |false=>
  simp only[Bool.false_eq_true,if_false]at z;cases z;exact⟨h1,S1,by simp only[Ev.aF,e1,Ev.ak];rfl,o1.weak (by simp only[bE];intro i hi;simp[hi])⟩
theorem Of(ia:gr P P' a)(ib:gr P P' b):gr P P' (.orr a b):=λz f=>by
 simp only[aF]at z;replace z:=ah z;obtain⟨k,af,z1,z⟩:=z;obtain⟨h1,S1,e1,o1⟩:=ia z1 f;cases k with
 |false=>
  simp only[Bool.false_eq_true,if_false]at z;obtain⟨h2,S2,e2,o2⟩:=ib z o1.f;exact⟨h2,S2,by simp only[Ev.aF,e1,Ev.ak];rw[if_neg (by decide)];exact e2,o1.trans o2⟩
 |true=>
  simp only[if_true]at z;cases z;exact⟨h1,S1,by simp only[Ev.aF,e1,Ev.ak];rfl,o1.weak (by simp only[bE];intro i hi;simp[hi])⟩
theorem SJ(ia:gr P P' a):gr P P' (.nt a):=λz f=>by
 simp only[aF]at z;replace z:=ah z;obtain⟨k,af,z1,z⟩:=z;obtain⟨h1,S1,e1,o1⟩:=ia z1 f;cases z;exact⟨h1,S1,by simp only[Ev.aF,e1,Ev.ak],o1⟩
theorem cZ(ie:bg P P' e)(h1:∀fr,aF P e fr=(ev P true e fr).bind λx af=>.ok (truthy x) af)(h2:∀fr h,Ev.aF P' e fr h=(Ev.ev P' e fr h).bind λx h1=>Ev.R.of (Ev.truthy h1 x) h1):gr P P' e:=λz f=>by
 rw[h1]at z;replace z:=ah z;obtain⟨x,af,z1,z⟩:=z;cases z;obtain⟨d,h1,S1,e1,q1,o1⟩:=ie z1 f;exact⟨h1,S1,by rw[h2,e1,Ev.ak,Bm q1.t];rfl,o1⟩
theorem BC(ie:bg P P' e){k:Bool}{fr:Fr}{v:V}{af:Fr}{M B:Nat->Prop}{h:Hh}{S:Nat->Prop}{aj:Ev.Fr}(z:src k fr e (ev P k e fr)=.ok v af)(f:bu M B h S fr aj) :
  ∃d h' S',Ev.ev P' e aj h=.ok d h'/\aY h' S' v d/\(k=false->∀n,d=.ref n->¬ M n)/\Out M B (bE e) h S fr aj h' S' af:=by
 have gen:ev P k e fr=.ok v af->∃d h' S',Ev.ev P' e aj h=.ok d h'/\aY h' S' v d/\(k=false->∀n,d=.ref n->¬ M n)/\Out M B (bE e) h S fr aj h' S' af:=λz=>by
  obtain⟨d,h1,S1,e1,q1,o1⟩:=ie z f;refine⟨d,h1,S1,e1,q1.t,λhk n hd=>?_,o1⟩;subst hk;have q:=q1.n;cases v<;>simp only[Rep]at q
  .cases q.symm.trans hd
  .cases q.symm.trans hd
  .cases q.symm.trans hd
  .cases q.symm.trans hd
  .obtain⟨_,q,_⟩:=q;cases q.symm.trans hd
  .obtain⟨m,ds,q,sm,_⟩:=q;cases q.symm.trans hd;exact(o1.f.wS _ sm).2.1
  .obtain⟨m,ds,q,sm,_⟩:=q;cases q.symm.trans hd;exact(o1.f.wS _ sm).2.1
  .obtain⟨m,q,sm,_⟩:=q;cases q.symm.trans hd;exact(o1.f.wS _ sm).2.1
 cases e
 case v i=>
  simp only[src]at z;replace z:=aC z;obtain⟨z,y0⟩:=z;subst y0;unfold qG at z;split at z
  .rename_i l y;cases z;obtain⟨p,e1,m,ds,rfl,y1,y2,y3⟩:=f.get y;exact⟨.ref m,h,S,by simp only[Ev.ev,e1,Option.join,Option.bind,id,Ev.dw],⟨m,ds,rfl,y2,y3⟩,λ_ n hn=>by cases hn;exact y1,.refl f⟩
  .exact gen (by simp only[ev,z,dw])
 all_goals exact gen z
theorem LF(ie:bg P P' e):kY P P' (.seq e):=λz f=>by
 simp only[cz]at z;replace z:=ah z;obtain⟨x,af,z1,z⟩:=z;replace z:=aC z;obtain⟨z,y0⟩:=z;subst y0;obtain⟨d,h1,S1,e1,q1,q2,o1⟩:=BC ie z1 f;obtain⟨s,a1,a2,a3⟩:=Dq z q1;exact⟨s,h1,S1,by simp only[Ev.cz,e1,Ev.ak,a1,Ev.dw],a2,λq hq=>⟨(a3 q hq).2,λhk=>q2 hk _ (a3 q hq).1⟩,o1⟩
theorem Hq(is:jk P P' es):kY P P' (.gk es):=λz f=>by
 simp only[cz]at z;replace z:=ah z;obtain⟨x,af,z1,z⟩:=z;replace z:=aC z;obtain⟨z,y0⟩:=z;subst y0;obtain⟨d,h1,S1,e1,q1,o1⟩:=is z1 f;obtain⟨s,a1,a2⟩:=Lj z q1.t;exact⟨(s,[]),h1,S1,by simp only[Ev.cz,e1,Ev.ak,a1,Ev.dw],a2,λq hq=>by simp at hq,o1⟩
theorem Dv(ie:bg P P' e):kY P P' (.enum e):=λz f=>by
 simp only[cz]at z;replace z:=ah z;obtain⟨x,af,z1,z⟩:=z;replace z:=aC z;obtain⟨z,y0⟩:=z;subst y0;obtain⟨d,h1,S1,e1,q1,q2,o1⟩:=BC ie z1 f;simp only[Option.map_eq_some_iff]at z;obtain⟨l,z,rfl⟩:=z;obtain⟨s,a1,a2,a3⟩:=G9 z q1;exact⟨(Ev.gq 0 s.1,s.2),h1,S1,by simp only[Ev.cz,e1,Ev.ak,a1,Option.map,Ev.dw],xD 0 a2,λq hq=>⟨(a3 q hq).2,λhk=>q2 hk _ (a3 q hq).1⟩,o1⟩
theorem Hr(ie:bg P P' e):kY P P' (.rev e):=λz f=>by
 simp only[cz]at z;replace z:=ah z;obtain⟨x,af,z1,z⟩:=z;replace z:=aC z;obtain⟨z,y0⟩:=z;subst y0;obtain⟨d,h1,S1,e1,q1,o1⟩:=ie z1 f;simp only[Option.map_eq_some_iff]at z;obtain⟨l,z,rfl⟩:=z;cases x<;>simp only[yZ,reduceCtorEq]at z
 cases z;have k1:=q1.t;simp only[aY,Rep]at k1;obtain⟨ds,y1,k2⟩:=k1;subst y1;exact⟨(ds.reverse,[]),h1,S1,by simp only[Ev.cz,e1,Ev.ak,Ev.CU,Option.map,Ev.dw],k2.reverse,λq hq=>by simp at hq,o1⟩
end
section
variable{P:aM}{P':Ev.aM}(HP:pF P P')
include HP
mutual
theorem aU:∀e:E,bg P P' e
 |.c _=>Lx
 |.v _=>Ly
 |.tup es=>Br (fT es)
 |.lst es=>Bs (fT es)
 |.bin _ a b=>Bt (aU a) (aU b)
 |.cmp _ a b=>Bu (aU a) (aU b)
 |.nt a=>Oc (aU a)
 |.neg a=>Bx (aU a)
 |.an a b=>Od (aU a) (aU b)
 |.orr a b=>Lz (aU a) (aU b)
 |.jT t a b=>By (gn t) (aU a) (aU b)
 |.ix a b=>Fb (aU a) (aU b)
 |.sl a lo hi=>Fc (aU a) (pK lo) (pK hi)
 |.rv a=>Fd (aU a)
 |.gY=>λz _=>by simp only[ev]at z;cases z
 |.wQ a b=>Bv (aU a) (aU b)
 |.lT a b c=>Bw (aU a) (aU b) (aU c)
 |.cl _ es=>Fe HP (uN es)
 |.bi _ es=>Ff (fT es)
 |.me _ o es=>Fi (aU o) (fT es)
 |.comp elt _ it cond=>uM (jG it) (BD cond) (aU elt)
 |.je it=>BB (jG it)
 |.iZ _ a=>xJ (aU a)
 |.iz a=>BA (aU a)
theorem gn:∀e:E,gr P P' e
 |.an a b=>SI (gn a) (gn b)
 |.orr a b=>Of (gn a) (gn b)
 |.nt a=>SJ (gn a)
 |.c x=>cZ Lx (λ_=>by simp only[aF]) (λ_ _=>by simp only[Ev.aF])
 |.v x=>cZ Ly (λ_=>by simp only[aF]) (λ_ _=>by simp only[Ev.aF])
 |.tup es=>cZ (Br (fT es)) (λ_=>by simp only[aF]) (λ_ _=>by simp only[Ev.aF])
 |.lst es=>cZ (Bs (fT es)) (λ_=>by simp only[aF]) (λ_ _=>by simp only[Ev.aF])
 |.bin _ a b=>cZ (Bt (aU a) (aU b)) (λ_=>by simp only[aF]) (λ_ _=>by simp only[Ev.aF])
 |.cmp _ a b=>cZ (Bu (aU a) (aU b)) (λ_=>by simp only[aF]) (λ_ _=>by simp only[Ev.aF])
 |.neg a=>cZ (Bx (aU a)) (λ_=>by simp only[aF]) (λ_ _=>by simp only[Ev.aF])
 |.jT t a b=>cZ (By (gn t) (aU a) (aU b)) (λ_=>by simp only[aF]) (λ_ _=>by simp only[Ev.aF])
 |.ix a b=>cZ (Fb (aU a) (aU b)) (λ_=>by simp only[aF]) (λ_ _=>by simp only[Ev.aF])
 |.sl a lo hi=>cZ (Fc (aU a) (pK lo) (pK hi)) (λ_=>by simp only[aF]) (λ_ _=>by simp only[Ev.aF])
 |.rv a=>cZ (Fd (aU a)) (λ_=>by simp only[aF]) (λ_ _=>by simp only[Ev.aF])
 |.gY=>cZ (λz _=>by simp only[ev]at z;cases z) (λ_=>by simp only[aF]) (λ_ _=>by simp only[Ev.aF])
 |.wQ a b=>cZ (Bv (aU a) (aU b)) (λ_=>by simp only[aF]) (λ_ _=>by simp only[Ev.aF])
 |.lT a b c=>cZ (Bw (aU a) (aU b) (aU c)) (λ_=>by simp only[aF]) (λ_ _=>by simp only[Ev.aF])
 |.cl _ es=>cZ (Fe HP (uN es)) (λ_=>by simp only[aF]) (λ_ _=>by simp only[Ev.aF])
 |.bi _ es=>cZ (Ff (fT es)) (λ_=>by simp only[aF]) (λ_ _=>by simp only[Ev.aF])
 |.me _ o es=>cZ (Fi (aU o) (fT es)) (λ_=>by simp only[aF]) (λ_ _=>by simp only[Ev.aF])
 |.comp elt _ it cond=>cZ (uM (jG it) (BD cond) (aU elt)) (λ_=>by simp only[aF]) (λ_ _=>by simp only[Ev.aF])
 |.je it=>cZ (BB (jG it)) (λ_=>by simp only[aF]) (λ_ _=>by simp only[Ev.aF])
 |.iZ _ a=>cZ (xJ (aU a)) (λ_=>by simp only[aF]) (λ_ _=>by simp only[Ev.aF])
 |.iz a=>cZ (BA (aU a)) (λ_=>by simp only[aF]) (λ_ _=>by simp only[Ev.aF])
theorem fT:∀e:Es,jk P P' e
 |.nil=>LB
 |.cons e es=>Hj (aU e) (fT es)
theorem uN:∀e:Es,pI P P' e
 |.nil=>Hl
 |.cons e es=>Du (aU e) (uN es)
theorem pK:∀e:Eo,pJ P P' e
 |.no=>Oe
 |.yes e=>LC (aU e)
theorem BD:∀e:Eo,sQ P P' e
 |.no=>LD
 |.yes e=>Ho (gn e)
theorem jG:∀e:It,kY P P' e
 |.seq e=>LF (aU e)
 |.gk es=>Hq (fT es)
 |.enum a=>Dv (aU a)
 |.rev a=>Hr (aU a)
end
end
end Pv
namespace Pv
open Ev (D O Hh bO bJ TY BI ME T E Es Eo It S Ss Fn big deep b2i rep cj dF bI aQ cut cI dX slots bf)
structure Tr(M B:Nat->Prop)(h:Hh)(S:Nat->Prop)(M':Nat->Prop)(h':Hh)(S':Nat->Prop):Prop where
 len:h.length<=h'.length
 keep:∀m,m<h.length->¬ M m->h'[m]?=h[m]?
 sub:∀m,S m->S' m
 new:∀m,S' m->S m\/(h.length<=m/\m<h'.length)\/(M m/\¬ B m)
 qI:∀m,M' m->M m\/h.length<=m
structure dM(M B:Nat->Prop)(h:Hh)(S:Nat->Prop)(fr:Fr)(aj:Ev.Fr)(M':Nat->Prop)(h':Hh)(S':Nat->Prop)(af:Fr)(bQ:Ev.Fr):Prop where
 f:bu M' B h' S' af bQ
 tr:Tr M B h S M' h' S'
 lk:∀i,locked af i=locked fr i
 rf:∀i,locked fr i=true->bQ[i]?=aj[i]?
noncomputable def gI(h:Hh)(S:Nat->Prop):Fl->Ev.Fl->Prop
 |.nx,g=>g=.nx
 |.bk,g=>g=.bk
 |.ct,g=>g=.ct
 |.ret v,g=>∃d,g=.ret d/\Rep h S v d
section
variable{M B M' M1 M2:Nat->Prop}{h h' h1 h2:Hh}{S S' S1 S2:Nat->Prop}{fr af ao:Fr}{aj bQ kZ:Ev.Fr}{c c1 c2:List Nat}{v:V}{d:D}
theorem dM.refl(f:bu M B h S fr aj):dM M B h S fr aj M h S fr aj:=⟨f,⟨Nat.le_refl _,λ_ _ _=>rfl,λ_ q=>q,λ_ q=>.inl q,λ_ q=>.inl q⟩,λ_=>rfl,λ_ _=>rfl⟩
theorem Out.s(o:Out M B c h S fr aj h1 S1 af):dM M B h S fr aj M h1 S1 af aj:=⟨o.f,⟨o.tr.len,λm y1 y2=>o.tr.keep m y1 (λz=>y2 z.1),o.tr.sub,λm q=>(o.tr.new m q).imp id .inl,λ_ q=>.inl q⟩,o.lk,λ_ _=>rfl⟩
theorem dM.trans(f0:bu M B h S fr aj)(a:dM M B h S fr aj M1 h1 S1 af bQ)(b:dM M1 B h1 S1 af bQ M2 h2 S2 ao kZ):dM M B h S fr aj M2 h2 S2 ao kZ where
 f:=b.f
 tr:=⟨Nat.le_trans a.tr.len b.tr.len,λm y1 y2=>by
   rw[b.tr.keep m (Nat.lt_of_lt_of_le y1 a.tr.len) (λz=>by
    rcases a.tr.qI m z with z|z
    .exact y2 z
    .omega),a.tr.keep m y1 y2],λm q=>b.tr.sub m (a.tr.sub m q),λm q=>by
   rcases b.tr.new m q with q|q|q
   .rcases a.tr.new m q with q|q|q
    .exact .inl q
    .exact .inr (.inl ⟨q.1,Nat.lt_of_lt_of_le q.2 b.tr.len⟩)
    .exact .inr (.inr q)
   .exact .inr (.inl ⟨Nat.le_trans a.tr.len q.1,q.2⟩)
   .rcases a.tr.qI m q.1 with z|z
    .exact .inr (.inr ⟨z,q.2⟩)
    .exact .inr (.inl ⟨z,Nat.lt_of_lt_of_le (a.f.wM m q.1) b.tr.len⟩),λm q=>by
   rcases b.tr.qI m q with q|q
   .exact a.tr.qI m q
   .exact .inr (Nat.le_trans a.tr.len q)⟩
 lk:=λi=>(b.lk i).trans (a.lk i)
 rf:=λi q=>(b.rf i (by rw[a.lk i];exact q)).trans (a.rf i q)
theorem bu.kind(f:bu M B h S fr aj)(g:Option Sl->Option Sl->Prop)(hl:af.length=fr.length)(hg:∀(i:Nat) o,af[i]?=some o->∃o0,fr[i]?=some o0/\(o=o0\/(∃l,o0=some (.own l)/\o=some (.val (.lst l)))\/(∃l,o0=some (.bor l)/\o=some (.ro l)))) :
  ∃M' S',dM M B h S fr aj M' h S' af aj:=by
 let X:Nat->Prop:=λm=>∃(i:Nat) (l:List V),fr[i]?=some (some (Sl.own l))/\af[i]?=some (some (Sl.val (V.lst l)))/\aj[i]?=some (some (D.ref m))
 let Y:Nat->Prop:=λm=>∃(i:Nat) (l:List V),fr[i]?=some (some (Sl.bor l))/\af[i]?=some (some (Sl.ro l))/\aj[i]?=some (some (D.ref m))
 have xM:∀m,X m->M m/\¬ B m:=λm ⟨i,l,a,_,b⟩=>by
  obtain⟨m',ds,e,q,_⟩:=f.sl i _ _ a b;cases e;exact q
 have yM:∀m,Y m->M m/\B m:=λm ⟨i,l,a,_,b⟩=>by
  obtain⟨m',ds,e,q,_⟩:=f.sl i _ _ a b;cases e;exact q
 have mono:∀{l:List V} {ds:List D},aq h S l ds->aq h (λm=>S m\/X m) l ds:=λq=>q.mono (λ_ _=>rfl) λ_ z=>.inl z;refine⟨λm=>M m/\¬ X m/\¬ Y m,λm=>S m\/X m,⟨⟨λm q=>?_,λm q=>f.wM m q.1,f.wB,by rw[hl,f.len],λi o p e1 e2=>?_,λi j o o' m y1 y2 y3 y4 y5 y6=>?_⟩,⟨Nat.le_refl _,λ_ _ _=>rfl,λ_ q=>.inl q,λm q=>?_,λm q=>.inl q.1⟩,λi=>?_,λ_ _=>rfl⟩⟩
 .rcases q with q|q
  .exact⟨(f.wS m q).1,λz=>(f.wS m q).2.1 z.1,(f.wS m q).2.2⟩
  .exact⟨f.wM m (xM m q).1,λz=>z.2.1 q,(xM m q).2⟩
 .obtain⟨o0,e0,k⟩:=hg i o e1;have old:=f.sl i o0 p e0 e2;rcases k with rfl|⟨l,rfl,rfl⟩|⟨l,rfl,rfl⟩
  .rcases o with _|s
   .exact old
   .cases s with
    |val v=>obtain⟨d,e,q⟩:=old;exact⟨d,e,q.mono (λ_ _=>rfl) λ_ z=>.inl z⟩
    |own l=>
     obtain⟨m,ds,rfl,z,y,q⟩:=old;refine⟨m,ds,rfl,⟨⟨z.1,λ⟨j,l',a1,a2,a3⟩=>?_,λ⟨j,l',a1,a2,a3⟩=>?_⟩,z.2⟩,y,mono q⟩
     .have:=f.inj i j _ _ m e0 a1 rfl rfl e2 a3;subst this;rw[e1]at a2;cases a2
     .have:=f.inj i j _ _ m e0 a1 rfl rfl e2 a3;subst this;rw[e1]at a2;cases a2
    |bor l=>
     obtain⟨m,ds,rfl,z,y,q⟩:=old;refine⟨m,ds,rfl,⟨⟨z.1,λ⟨j,l',a1,a2,a3⟩=>?_,λ⟨j,l',a1,a2,a3⟩=>?_⟩,z.2⟩,y,mono q⟩
     .have:=f.inj i j _ _ m e0 a1 rfl rfl e2 a3;subst this;rw[e1]at a2;cases a2
     .have:=f.inj i j _ _ m e0 a1 rfl rfl e2 a3;subst this;rw[e1]at a2;cases a2
    |ro l=>obtain⟨m,ds,rfl,z,y,q⟩:=old;exact⟨m,ds,rfl,λw=>z w.1,y,mono q⟩
  .obtain⟨m,ds,rfl,z,y,q⟩:=old;exact⟨.ref m,rfl,m,ds,rfl,.inr ⟨i,l,e0,e1,e2⟩,y,mono q⟩
  .obtain⟨m,ds,rfl,z,y,q⟩:=old;exact⟨m,ds,rfl,λw=>w.2.2 ⟨i,l,e0,e1,e2⟩,y,mono q⟩
 .have kd:∀(i:Nat) o,af[i]?=some o->gG o=true->∃o0,fr[i]?=some o0/\gG o0=true:=λi o w1 w2=>by
   obtain⟨o0,e0,k⟩:=hg i o w1;rcases k with rfl|⟨l,rfl,rfl⟩|⟨l,rfl,rfl⟩
   .exact⟨o,e0,w2⟩
   .cases w2
   .cases w2
  obtain⟨oi,k1,k2⟩:=kd i o y1 y3;obtain⟨oj,k3,k4⟩:=kd j o' y2 y4;exact f.inj i j oi oj m k1 k3 k2 k4 y5 y6
 .rcases q with q|q
  .exact .inl q
  .exact .inr (.inr (xM m q))
 .unfold locked;cases z:af[i]? with
  |none=>
   have:fr[i]?=none:=by rw[List.getElem?_eq_none_iff]at z ⊢;omega
   rw[this]
  |some o=>
   obtain⟨o0,e0,k⟩:=hg i o z;rw[e0];rcases k with rfl|⟨l,rfl,rfl⟩|⟨l,rfl,rfl⟩<;>rfl
theorem bu.eE(f:bu M B h S fr aj):∃M' S',dM M B h S fr aj M' h S' (fZ fr) aj:=by
 refine f.kind (λ_ _=>True) (by simp[fZ]) λi o e=>?_;unfold fZ at e;rw[List.getElem?_map]at e;cases z:fr[i]? with
 |none=>rw[z]at e;cases e
 |some o0=>
  rw[z]at e;cases e;refine⟨o0,rfl,?_⟩;rcases o0 with _|s
  .exact .inl rfl
  .cases s with
   |own l=>exact .inr (.inl ⟨l,rfl,rfl⟩)
   |_=>exact .inl rfl
theorem bu.walk:∀(is:List Nat) {M:Nat->Prop}{S:Nat->Prop}{fr:Fr},bu M B h S fr aj->∃M' S',dM M B h S fr aj M' h S' (kW is fr) aj
 |[],_,_,_,f=>⟨_,_,.refl f⟩
 |i :: is,M,S,fr,f=>by
  have one:∃M1 S1,dM M B h S fr aj M1 h S1 (match fr[i]? with|some (some s)=>fr.set i (some s.walk)|_=>fr) aj:=by
   split
   .rename_i s z;have hl:=(List.getElem?_eq_some_iff.mp z).1;refine f.kind (λ_ _=>True) (by simp) λj o e=>?_;by_cases hj:i=j
    .subst hj;rw[List.getElem?_set_self hl]at e;cases e;refine⟨_,z,?_⟩;cases s with
     |own l=>exact .inr (.inl ⟨l,rfl,rfl⟩)
     |bor l=>exact .inr (.inr ⟨l,rfl,rfl⟩)
     |_=>exact .inl rfl
    .rw[List.getElem?_set_ne hj]at e;exact⟨o,e,.inl rfl⟩
   .exact⟨M,S,.refl f⟩
  obtain⟨M1,S1,o1⟩:=one;obtain⟨M2,S2,o2⟩:=bu.walk is o1.f;exact⟨M2,S2,o1.trans f o2⟩
theorem bu.own(f:bu M B h S fr aj){i:Nat}{l:List V}{ds:List D}(e:put fr i (.own l)=some af)(q:aq h S l ds):dM M B h S fr aj (λm=>M m\/m=h.length) (h++[.lst ds]) S af (aj.set i (some (.ref h.length))):=by
 have hx:af=fr.set i (some (.own l))/\locked fr i=false:=by
  unfold put at e;unfold locked;split at e
  .cases e
  .cases e
  .rename_i k1 k2;cases e;refine⟨rfl,?_⟩;cases z:fr[i]? with
   |none=>rfl
   |some o=>
    rcases o with _|s
    .rfl
    .cases s with
     |bor l=>exact absurd z (k1 l)
     |ro l=>exact absurd z (k2 l)
     |_=>rfl
 obtain⟨rfl,hk⟩:=hx;have kp:∀m,m<h.length->(h++[O.lst ds])[m]?=h[m]?:=λm z=>by rw[List.getElem?_append_left z]
 have kS:∀m,S m->(h++[O.lst ds])[m]?=h[m]?:=λm z=>kp m (f.w m z);refine⟨⟨λm y=>⟨by have:=(f.wS m y).1;simp;omega,λz=>?_,(f.wS m y).2.2⟩,λm y=>?_,λm y=>by have:=f.wB m y;simp;omega,by simp[f.len],λj o p y1 y2=>?_,λj k o o' m y1 y2 y3 y4 y5 y6=>?_⟩,⟨by simp,λm y _=>kp m y,λ_ z=>z,λ_ z=>.inl z,λm z=>z.imp id (λz=>by omega)⟩,λj=>?_,λj hj=>?_⟩
 .rcases z with z|z
  .exact(f.wS m y).2.1 z
  .have:=(f.wS m y).1;omega
 .rcases y with y|y
  .have:=f.wM m y;simp;omega
  .subst y;simp
 .by_cases hj:i=j
  .subst hj;have hl:i<fr.length:=by have:=(List.getElem?_eq_some_iff.mp y1).1;simpa using this
   rw[List.getElem?_set_self hl]at y1;rw[List.getElem?_set_self (by rw[<-f.len];exact hl)]at y2;cases y1;cases y2;exact⟨h.length,ds,rfl,⟨.inr rfl,λz=>by have:=f.wB _ z;omega⟩,by simp,q.mono kS λ_ z=>z⟩
  .rw[List.getElem?_set_ne hj]at y1 y2;have old:=f.sl j o p y1 y2;rcases o with _|s
   .exact old
   .cases s with
    |val v=>obtain⟨d,e,q⟩:=old;exact⟨d,e,q.mono kS λ_ z=>z⟩
    |own l=>obtain⟨m,es,rfl,z,y,q⟩:=old;exact⟨m,es,rfl,⟨.inl z.1,z.2⟩,by rw[kp m (f.wM m z.1)];exact y,q.mono kS λ_ z=>z⟩
    |bor l=>obtain⟨m,es,rfl,z,y,q⟩:=old;exact⟨m,es,rfl,⟨.inl z.1,z.2⟩,by rw[kp m (f.wM m z.1)];exact y,q.mono kS λ_ z=>z⟩
    |ro l=>
     obtain⟨m,es,rfl,z,y,q⟩:=old;have hm:=(List.getElem?_eq_some_iff.mp y).1;exact⟨m,es,rfl,λw=>by rcases w with w|w;exact z w;omega,by rw[kp m hm];exact y,q.mono kS λ_ z=>z⟩
 .have low:∀(j:Nat) o,i≠j->fr[j]?=some o->gG o=true->aj[j]?=some (some (.ref m))->m<h.length:=λj o _ w1 w2 w3=>f.wM m (f.mM w1 w2 w3);have new:∀(j:Nat),j<fr.length->i=j->(aj.set i (some (.ref h.length)))[j]?=some (some (.ref m))->m=h.length:=λj hl hj w=>by
   subst hj;rw[List.getElem?_set_self (by rw[<-f.len];exact hl)]at w;cases w;rfl
  have lj:j<fr.length:=by have:=(List.getElem?_eq_some_iff.mp y1).1;simpa using this
  have lk:k<fr.length:=by have:=(List.getElem?_eq_some_iff.mp y2).1;simpa using this
  by_cases hj:i=j
  .by_cases hk2:i=k
   .rw[<-hj,<-hk2]
   .have a:=new j lj hj y5;rw[List.getElem?_set_ne hk2]at y2 y6;have b:=low k o' hk2 y2 y4 y6;omega
  .by_cases hk2:i=k
   .have a:=new k lk hk2 y6;rw[List.getElem?_set_ne hj]at y1 y5;have b:=low j o hj y1 y3 y5;omega
   .rw[List.getElem?_set_ne hj]at y1 y5;rw[List.getElem?_set_ne hk2]at y2 y6;exact f.inj j k o o' m y1 y2 y3 y4 y5 y6
 .by_cases hj:i=j
  .subst hj;rw[hk];unfold locked;by_cases hl:i<fr.length
   .rw[List.getElem?_set_self hl];rfl
   .rw[List.getElem?_eq_none (by simpa using hl)]
  .unfold locked;rw[List.getElem?_set_ne hj]
 .have:i≠j:=λz=>by subst z;rw[hk]at hj;cases hj
  rw[List.getElem?_set_ne this]
end
inductive Qn(P':Ev.aM)(w:Nat)(s:S)(g:Fl)(M B:Nat->Prop)(h:Hh)(S:Nat->Prop)(fr:Fr)(aj:Ev.Fr)(af:Fr):Prop
 |mk (g':Ev.Fl) (bQ:Ev.Fr) (M':Nat->Prop) (h':Hh) (S':Nat->Prop) (c0:Ev.ex P' w s aj h=.ok (g',bQ) h') (c1:gI h' S' g g') (c2:dM M B h S fr aj M' h' S' af bQ):Qn P' w s g M B h S fr aj af
inductive LG(P':Ev.aM)(w:Nat)(s:Ss)(g:Fl)(M B:Nat->Prop)(h:Hh)(S:Nat->Prop)(fr:Fr)(aj:Ev.Fr)(af:Fr):Prop
 |mk (g':Ev.Fl) (bQ:Ev.Fr) (M':Nat->Prop) (h':Hh) (S':Nat->Prop) (c0:Ev.exs P' w s aj h=.ok (g',bQ) h') (c1:gI h' S' g g') (c2:dM M B h S fr aj M' h' S' af bQ):LG P' w s g M B h S fr aj af
section
variable(P:aM)(P':Ev.aM)(w:Nat)
noncomputable def mV(s:S):Prop:=∀{fr:Fr} {g:Fl} {af:Fr} {M B:Nat->Prop} {h:Hh} {S:Nat->Prop} {aj:Ev.Fr},ex P w s fr=.ok g af->bu M B h S fr aj->Qn P' w s g M B h S fr aj af
noncomputable def pL(s:Ss):Prop:=∀{fr:Fr} {g:Fl} {af:Fr} {M B:Nat->Prop} {h:Hh} {S:Nat->Prop} {aj:Ev.Fr},exs P w s fr=.ok g af->bu M B h S fr aj->LG P' w s g M B h S fr aj af
end
section
variable{P:aM}{P':Ev.aM}{w:Nat}(HP:pF P P')
include HP
theorem Fp{i x f n0:Nat}{ck:List (Nat×List D)}(hxi:x≠i):∀(vs:List V) (ds:List D) (k K:List (Int×List Nat)) (h:Hh) (S:Nat->Prop) (fr:Ev.Fr),jE P f vs k=some K->aq h S vs ds->(∀m,S m->m<h.length/\m≠n0)->h[n0]?=some (.dct k)->fr[i]?=some (some (.ref n0))->(ds≠[]->x<fr.length)->(∀q∈ck,bf h q.1=some q.2)->
  ∃(h':Hh) (S':Nat->Prop),Ev.forL (λd ao h2=>match Ev.br (.one x) d ao with|some bx=>Ev.ua P' (.v i) (.cl f (.cons (.v x) .nil)) bx h2|none=>.bad) ck ds fr h=.ok (.nx,(ds.getLast?.map λd=>fr.set x (some d)).getD fr) h'/\h'[n0]?=some (.dct K)/\h.length<=h'.length/\(∀m,m<h.length->m≠n0->h'[m]?=h[m]?)/\(∀m,S m->S' m)/\(∀m,S' m->S m\/(h.length<=m/\m<h'.length))
 |[],ds,k,K,h,S,fr,e,q,w,hn,hi,hx,st=>by
  simp only[jE]at e;cases e;simp only[aq]at q;subst q;refine⟨h,S,?_,hn,Nat.le_refl _,λ_ _ _=>rfl,λ_ z=>z,λ_ z=>.inl z⟩;simp only[Ev.forL];rw[if_pos (gx st)];rfl
 |v :: vs,ds,k,K,h,S,fr,e,q,w,hn,hi,hx,st=>by
  simp only[jE]at e;split at e
  case h_2=>cases e
  rename_i m e1;split at e
  case isFalse=>cases e
  rename_i hk;simp only[aq]at q;obtain⟨d,es,rfl,q1,q2⟩:=q;have UY:=(List.getElem?_eq_some_iff.mp hn).1;have eS:bu (λ_=>False) (λ_=>False) h S ([Sl.val v].map some) ([d].map some):=⟨λm z=>⟨(w m z).1,λz=>z,λz=>z⟩,λm z=>z.elim,λm z=>z.elim,rfl,λj o p a b=>by
   cases j with
   |zero=>simp at a b;subst a b;exact⟨d,rfl,q1⟩
   |succ j=>simp at a,λj1 j2 o o' m a b c _ _ _=>by
   cases j1 with
   |zero=>simp at a;subst a;cases c
   |succ j=>simp at a⟩
  obtain⟨d',h1,S1,p1,p2,p3,p4⟩:=HP f [.val v] _ _ e1 h S (λ_=>False) [d] eS;simp only[Rep]at p2;obtain⟨j,rfl,sj,hj⟩:=p2;have k1:∀m,m<h.length->h1[m]?=h[m]?:=λm z=>p3.keep m z λz=>z;have w1:∀m,S1 m->m<h1.length/\m≠n0:=λm z=>by
   rcases p3.new m z with z|z
   .exact⟨Nat.lt_of_lt_of_le (w m z).1 p3.len,(w m z).2⟩
   .exact⟨z.2,λy=>by subst y;omega⟩
  have jn:n0≠j:=λz=>(w1 j sj).2 z.symm;have hn1:h1[n0]?=some (.dct k):=by rw[k1 n0 UY];exact hn
  have SK:=(List.getElem?_eq_some_iff.mp hn1).1;have km:∀m',m'≠n0->(h1.set n0 (.dct (Ev.b7 k m)))[m']?=h1[m']?:=λm' z=>List.getElem?_set_ne λy=>z y.symm;have UZ:∀q∈ck,q.1≠n0:=λq hq z=>by
   have:=st q hq;rw[z]at this;simp[bf,hn]at this
  obtain⟨h2,S2,g1,g2,g3,g4,g5,g6⟩:=Fp hxi vs es (Ev.b7 k m) K (h1.set n0 (.dct (Ev.b7 k m))) S1 (fr.set x (some d)) e (q2.mono (λm' z=>by rw[km m' (w m' z).2,k1 m' (w m' z).1]) p3.sub) (λm' z=>⟨by rw[List.length_set];exact(w1 m' z).1,(w1 m' z).2⟩) (List.getElem?_set_self SK) (by rw[List.getElem?_set_ne hxi];exact hi) (λ_=>by rw[List.length_set];exact hx (by simp))
   (λq hq=>jF (st q hq) (by rw[km _ (UZ q hq),k1 _ (mT (st q hq))]))
  rw[List.length_set]at g3 g4 g6;refine⟨h2,S2,?_,g2,Nat.le_trans p3.len g3,λm' z1 z2=>by rw[g4 m' (Nat.lt_of_lt_of_le z1 p3.len) z2,km m' z2,k1 m' z1],λm' z=>g5 m' (p3.sub m' z),λm' z=>?_⟩
  .have big:k.length+m.length<=Ev.big:=Nat.le_trans hk (by decide);have hxx:(fr.set x (some d))[x]?=some (some d):=List.getElem?_set_self (hx (by simp));have U0:(fr.set x (some d))[i]?=some (some (.ref n0)):=by rw[List.getElem?_set_ne hxi];exact hi
   have du:Ev.ua P' (.v i) (.cl f (.cons (.v x) .nil)) (fr.set x (some d)) h=.ok (.nx,fr.set x (some d)) (h1.set n0 (.dct (Ev.b7 k m))):=by
    simp[Ev.ua,Ev.ev,Ev.bX,U0,hxx,Ev.R.bind,Ev.R.of,p1,Ev.sM,Ev.fj,hn,hn1,hj,jn,big]
   simp only[Ev.forL];rw[if_pos (gx st)];simp only[Ev.br];rw[du];simp only[Ev.ak];simp only[Ev.br]at g1;rw[g1];cases es with
   |nil=>rfl
   |cons d2 es=>
    have:(d :: d2 :: es).getLast?=(d2 :: es).getLast?:=by simp[List.getLast?_cons_cons]
    rw[this];cases z:(d2 :: es).getLast? with
    |none=>simp at z
    |some d3=>simp[List.set_set]
  .rcases g6 m' z with z|z
   .rcases p3.new m' z with z|z
    .exact .inl z
    .exact .inr ⟨z.1,Nat.lt_of_lt_of_le z.2 g3⟩
   .exact .inr ⟨Nat.le_trans p3.len z.1,z.2⟩
omit HP in
theorem uO{h:Hh}{S:Nat->Prop}:∀{vs:List V}{ds:List D},aq h S vs ds->(vs.getLast?=none/\ds.getLast?=none)\/∃v d,vs.getLast?=some v/\ds.getLast?=some d/\Rep h S v d
 |[],ds,q=>by simp only[aq]at q;subst q;exact .inl ⟨rfl,rfl⟩
 |v :: vs,ds,q=>by
  simp only[aq]at q;obtain⟨d,es,rfl,q1,q2⟩:=q;refine .inr ?_;rcases uO q2 with ⟨a,b⟩|⟨v',d',a,b,c⟩
  .have a':=List.getLast?_eq_none_iff.mp a;have b':=List.getLast?_eq_none_iff.mp b;subst a' b';exact⟨v,d,rfl,rfl,q1⟩
  .refine⟨v',d',?_,?_,c⟩
   .cases vs with|nil=>cases a|cons x xs=>rw[List.getLast?_cons_cons];exact a
   .cases es with|nil=>cases b|cons x xs=>rw[List.getLast?_cons_cons];exact b
omit HP in
theorem bu.U1{M B:Nat->Prop}{h h':Hh}{S S':Nat->Prop}{fr:Fr}{aj:Ev.Fr}{n0:Nat}{k:List (Int×List Nat)}(f:bu M B h S fr aj)(hn:h[n0]?=some (.dct k))(nS:∀m,S m->m≠n0)(nM:¬ M n0)(nB:¬ B n0)(len:h.length<=h'.length)(keep:∀m,m<h.length->m≠n0->h'[m]?=h[m]?)(sub:∀m,S m->S' m)(new:∀m,S' m->S m\/(h.length<=m/\m<h'.length)\/m=n0):bu M B h' S' fr aj where
 wS:=λm q=>by
  rcases new m q with q|⟨q1,q2⟩|rfl
  .exact⟨Nat.lt_of_lt_of_le (f.wS m q).1 len,(f.wS m q).2⟩
  .exact⟨q2,λz=>by have:=f.wM m z;omega,λz=>by have:=f.wB m z;omega⟩
  .exact⟨Nat.lt_of_lt_of_le (List.getElem?_eq_some_iff.mp hn).1 len,nM,nB⟩
 wM:=λm q=>Nat.lt_of_lt_of_le (f.wM m q) len
 wB:=λm q=>Nat.lt_of_lt_of_le (f.wB m q) len
 len:=f.len
 sl:=λi o p e1 e2=>by
  have q:=f.sl i o p e1 e2;have k:∀m,S m->h'[m]?=h[m]?:=λm z=>keep m (f.w m z) (nS m z);have g:∀(m:Nat) (ds:List D),h[m]?=some (O.lst ds)->h'[m]?=some (O.lst ds):=λm ds z=>by
   rw[keep m (List.getElem?_eq_some_iff.mp z).1 (λy=>by rw[y,hn]at z;cases z)];exact z
  rcases o with _|s
  .exact q
  .cases s with
   |val v=>obtain⟨d,e,q⟩:=q;exact⟨d,e,q.mono k sub⟩
   |own l=>obtain⟨m,ds,e,z,y,q⟩:=q;exact⟨m,ds,e,z,g m ds y,q.mono k sub⟩
   |bor l=>obtain⟨m,ds,e,z,y,q⟩:=q;exact⟨m,ds,e,z,g m ds y,q.mono k sub⟩
   |ro l=>obtain⟨m,ds,e,z,y,q⟩:=q;exact⟨m,ds,e,z,g m ds y,q.mono k sub⟩
 inj:=f.inj
theorem Hs{i x y f:Nat}:mV P P' w (.ja i x y f):=λ{fr g af M B h S aj} z f0=>by
 simp only[ex]at z;split at z
 case isFalse=>cases z
 rename_i hc;obtain⟨U3,hxi,il,xl⟩:=hc;rw[f0.len]at il xl;replace z:=ah z;obtain⟨vs,ao,z1,z⟩:=z;replace z:=ah z;obtain⟨K,bx,z2,z⟩:=z;replace z2:=aC z2;obtain⟨z2,y0⟩:=z2;subst y0;replace z:=ah z;obtain⟨gm,mq,z3,z⟩:=z;replace z3:=aC z3;obtain⟨z3,y0⟩:=z3;subst y0;replace z:=ah z;obtain⟨VO,Qf,z4,z⟩:=z;replace z4:=aC z4;obtain⟨z4,y0⟩:=z4;subst y0;cases z;have hl1:(h++[O.dct []]).length=h.length+1:=by simp
 have f1:bu M B (h++[.dct []]) S fr aj:=f0.al ⟨by rw[hl1];omega,λm z=>List.getElem?_append_left z,λ_ z=>z,λ_ z=>.inl z⟩;obtain⟨M1,S1,o1⟩:=f1.walk [y];obtain⟨s,h2,S2,e1,q1,q2,o2⟩:=jG HP (.seq (.v y)) z1 o1.f;have pM:=e1;simp only[Ev.cz,Ev.ev]at pM;replace pM:=Ev.ah pM;obtain⟨dx,VP,e2,pM⟩:=pM;replace e2:=Ev.aC e2;obtain⟨e2,y0⟩:=e2;subst y0;replace pM:=Ev.aC pM;obtain⟨pM,y0⟩:=pM;subst y0;have e3:Ev.cz P' (.seq (.v y)) (aj.set i (some (.ref h.length))) (h++[.dct []])=.ok s (h++[.dct []]):=by
  rw[<-e1];simp only[Ev.cz,Ev.ev,List.getElem?_set_ne U3]
 have hn:(h++[O.dct []])[h.length]?=some (.dct []):=by simp
 have U4:¬ M1 h.length:=λz=>by
  rcases o1.tr.qI _ z with z|z
  .have:=f0.wM _ z;omega
  .rw[hl1]at z;omega
 have nB:¬ B h.length:=λz=>by have:=f0.wB _ z;omega
 have Qo:∀m,S2 m->S m\/(M m/\¬ B m):=λm z=>by
  rcases o2.tr.new m z with z|z
  .rcases o1.tr.new m z with z|z|z
   .exact .inl z
   .omega
   .exact .inr z
  .omega
 have LH:∀m,S2 m->m≠h.length:=λm z y=>by
  rcases Qo m z with z|z
  .have:=(f0.wS m z).1;omega
  .have:=f0.wM m z.1;omega
 obtain⟨h',S',g1,g2,g3,g4,g5,g6⟩:=Fp HP (i:=i) (x:=x) (f:=f) (n0:=h.length) (ck:=s.2) hxi vs s.1 [] K (h++[.dct []]) S2 (aj.set i (some (.ref h.length))) z2 q1 (λm z=>⟨(o2.f.wS m z).1,LH m z⟩) hn (List.getElem?_set_self il) (λ_=>by rw[List.length_set];exact xl) (λq hq=>(q2 q hq).1);have f2:=o2.f.U1 (S':=λm=>S' m\/m=h.length) hn LH U4 nB g3 g4 (λm z=>.inl (g5 m z)) (λm z=>by
  rcases z with z|z
  .exact(g6 m z).imp id .inl
  .exact .inr (.inr z))
 obtain⟨f3,l3,r3⟩:=f2.set z3 (d:=.ref h.length) (show Rep h' _ (.dct K) _ from ⟨_,rfl,.inr rfl,g2⟩);have q3:∀{v:V} {d:D},Rep (h++[.dct []]) S2 v d->Rep h' (λm=>S' m\/m=h.length) v d:=λq=>q.mono (λm z=>g4 m (o2.f.wS m z).1 (LH m z)) λm z=>.inl (g5 m z);have fin:∀{bL:Fr} {mW:Ev.Fr},bu M1 B h' (λm=>S' m\/m=h.length) bL mW->(∀j,locked bL j=locked mq j)->(∀j,locked mq j=true->mW[j]?=aj[j]?)->dM M B h S fr aj M1 h' (λm=>S' m\/m=h.length) bL mW:=λ{bL mW} fz lz rz=>⟨fz,⟨by rw[hl1]at g3;omega,λm y1 y2=>by
   rw[g4 m (by rw[hl1];omega) (by omega)];exact List.getElem?_append_left y1,λm z=>.inl (g5 m (o2.tr.sub m (o1.tr.sub m z))),λm z=>by
   rcases z with z|z
   .rcases g6 m z with z|z
    .rcases Qo m z with z|z
     .exact .inl z
     .exact .inr (.inr z)
    .rw[hl1]at z;exact .inr (.inl ⟨by omega,z.2⟩)
   .rw[hl1]at g3;exact .inr (.inl ⟨by omega,by omega⟩),λm z=>by
   rcases o1.tr.qI m z with z|z
   .exact .inl z
   .rw[hl1]at z;exact .inr (by omega)⟩,λj=>(lz j).trans ((o2.lk j).trans (o1.lk j)),λj z=>rz j (by rw[o2.lk j,o1.lk j];exact z)⟩
 have Qp:∀mW,(s.1.getLast?.map λd=>(aj.set i (some (.ref h.length))).set x (some d)).getD (aj.set i (some (.ref h.length)))=mW->Ev.ex P' w (.ja i x y f) aj h=.ok (.nx,mW) h':=λmW z=>by
  rw[<-z];simp only[Ev.ex,e3,Ev.ak];exact g1
 rcases uO q1 with ⟨a,b⟩|⟨v,d,a,b,c⟩
 .unfold iM at z4;rw[a]at z4;cases z4;exact⟨.nx,_,_,_,_,Qp _ (by rw[b];rfl),rfl,fin f3 l3 r3⟩
 .unfold iM at z4;rw[a]at z4;obtain⟨f4,l4,r4⟩:=f3.set z4 (q3 c);exact⟨.nx,_,_,_,_,Qp _ (by rw[b];rfl),rfl,fin f4 (λj=>(l4 j).trans (l3 j)) (λj z=>(r4 j (by rw[l3 j];exact z)).trans (r3 j z))⟩
theorem Ht{i:Nat}{e:E}:mV P P' w (.set i e):=λ{fr g af M B h S aj} z f=>by
 simp only[ex]at z;replace z:=ah z;obtain⟨x,ao,z1,z⟩:=z;by_cases hn:isNew e=true
 .rw[if_pos hn]at z;have key:∃l ds h1 S1,x=.lst l/\aq h1 S1 l ds/\Ev.ev P' e aj h=.ok (.ref h1.length) (h1++[.lst ds])/\Out M B (bE e) h S fr aj h1 S1 ao:=by
   cases e<;>simp only[isNew,Bool.false_eq_true]at hn
   case lst es=>
    simp only[ev]at z1;replace z1:=ah z1;obtain⟨l,bx,z2,z1⟩:=z1;replace z1:=aC z1;obtain⟨z1,y0⟩:=z1;subst y0;unfold dz at z1;split at z1
    case isFalse=>cases z1
    rename_i hk;cases z1;obtain⟨ds,h1,S1,e1,q1,o1⟩:=fT HP es z2 f;refine⟨l,ds,h1,S1,rfl,q1.n,?_,o1⟩;simp only[Ev.ev,e1,Ev.ak,Ev.alloc];rw[if_pos (by rw[<-q1.n.length];exact hk)]
   case je it=>
    simp only[ev]at z1;replace z1:=ah z1;obtain⟨l,bx,z2,z1⟩:=z1;replace z1:=aC z1;obtain⟨z1,y0⟩:=z1;subst y0;unfold dz at z1;split at z1
    case isFalse=>cases z1
    rename_i hk;cases z1;obtain⟨s,h1,S1,e1,q1,q2,o1⟩:=jG HP it z2 f;refine⟨l,s.1,h1,S1,rfl,q1,?_,o1⟩;simp only[Ev.ev,e1,Ev.ak,Ev.alloc];rw[if_pos (by rw[<-q1.length];exact hk)]
  obtain⟨l,ds,h1,S1,rfl,q1,e1,o1⟩:=key;simp only at z;replace z:=ah z;obtain⟨bx,gm,z2,z⟩:=z;replace z2:=aC z2;obtain⟨z2,y0⟩:=z2;subst y0;cases z;have o2:=o1.f.own z2 q1;exact⟨.nx,_,_,_,_,by simp only[Ev.ex,e1,Ev.ak],rfl,o1.s.trans f o2⟩
 .rw[if_neg hn]at z;replace z:=ah z;obtain⟨bx,gm,z2,z⟩:=z;replace z2:=aC z2;obtain⟨z2,y0⟩:=z2;subst y0;cases z;obtain⟨d,h1,S1,e1,q1,o1⟩:=aU HP e z1 f;obtain⟨f2,l2,r2⟩:=o1.f.set z2 q1.n;refine⟨.nx,_,_,_,_,by simp only[Ev.ex,e1,Ev.ak],rfl,o1.s.trans f ⟨f2,(dM.refl f2).tr,l2,r2⟩⟩
theorem Hu{l:List Nat}{e:E}:mV P P' w (.yD l e):=λ{fr g af M B h S aj} z f=>by
 simp only[ex]at z;replace z:=ah z;obtain⟨x,ao,z1,z⟩:=z;replace z:=ah z;obtain⟨bx,gm,z2,z⟩:=z;replace z2:=aC z2;obtain⟨z2,y0⟩:=z2;subst y0;cases z;obtain⟨d,h1,S1,e1,q1,o1⟩:=aU HP e z1 f;obtain⟨jc,b1,f2,l2,r2⟩:=o1.f.br z2 q1.n;exact⟨.nx,_,_,_,_,by simp only[Ev.ex,e1,Ev.ak,b1],rfl,o1.s.trans f ⟨f2,(dM.refl f2).tr,l2,r2⟩⟩
theorem LI{e:E}:mV P P' w (.exp e):=λ{fr g af M B h S aj} z f=>by
 simp only[ex]at z;replace z:=ah z;obtain⟨x,ao,z1,z⟩:=z;cases z;obtain⟨d,h1,S1,e1,q1,o1⟩:=aU HP e z1 f;exact⟨.nx,_,_,_,_,by simp only[Ev.ex,e1,Ev.ak],rfl,o1.s⟩
theorem LJ{e:E}:mV P P' w (.ret e):=λ{fr g af M B h S aj} z f=>by
 simp only[ex]at z;replace z:=ah z;obtain⟨x,ao,z1,z⟩:=z;cases z;obtain⟨M1,S1,o1⟩:=f.eE;obtain⟨d,h2,S2,e1,q1,o2⟩:=aU HP e z1 o1.f;exact⟨.ret d,_,_,_,_,by simp only[Ev.ex,e1,Ev.ak],⟨d,rfl,q1.n⟩,o1.trans f o2.s⟩
omit HP in
theorem qJ{F:V->Fr->R Fl}{F':D->Ev.Fr->Hh->Ev.R (Ev.Fl×Ev.Fr)}{ck:List (Nat×List D)}{B:Nat->Prop}{M0:Nat->Prop}{h0:Hh}{S0:Nat->Prop}{eS:Fr}{Dw:Ev.Fr}(f0:bu M0 B h0 S0 eS Dw)(st:∀q∈ck,bf h0 q.1=some q.2/\¬ M0 q.1)
  (turn:∀v d fr g af M h S aj,F v fr=.ok g af->bu M B h S fr aj->Rep h S v d->∃g' bQ M' h' S',F' d aj h=.ok (g',bQ) h'/\gI h' S' g g'/\dM M B h S fr aj M' h' S' af bQ) :
  ∀{vs:List V} {ds:List D} {fr:Fr} {g:Fl} {af:Fr} {M:Nat->Prop} {h:Hh} {S:Nat->Prop} {aj:Ev.Fr},forL F vs fr=.ok g af->dM M0 B h0 S0 eS Dw M h S fr aj->aq h S vs ds->
  ∃g' bQ M' h' S',Ev.forL F' ck ds aj h=.ok (g',bQ) h'/\gI h' S' g g'/\dM M0 B h0 S0 eS Dw M' h' S' af bQ
 |[],ds,fr,g,af,M,h,S,aj,e,o,q=>by
  simp only[forL]at e;simp only[aq]at q;subst q;cases e;refine⟨.nx,aj,M,h,S,?_,rfl,o⟩;simp only[Ev.forL];rw[if_pos (gx λx hx=>jF (st x hx).1 (o.tr.keep _ (mT (st x hx).1) (st x hx).2))]
 |v :: vs,ds,fr,g,af,M,h,S,aj,e,o,q=>by
  simp only[forL]at e;replace e:=ah e;obtain⟨p,ao,e1,e⟩:=e;simp only[aq]at q;obtain⟨d,es,rfl,q1,q2⟩:=q;obtain⟨g',kZ,M2,h2,S2,t1,t2,t3⟩:=turn v d fr p ao M h S aj e1 o.f q1;have o2:=o.trans f0 t3;have Fq:Ev.stays h ck=true:=gx λx hx=>jF (st x hx).1 (o.tr.keep _ (mT (st x hx).1) (st x hx).2);have Qq:aq h2 S2 vs es:=q2.mono (λm z=>t3.tr.keep m (o.f.wS m z).1 (o.f.wS m z).2.1) t3.tr.sub;cases p with
  |nx=>
   simp only[gI]at t2;subst t2;simp only at e;obtain⟨pN,jc,M3,h3,S3,u1,u2,u3⟩:=qJ f0 st turn e o2 Qq;refine⟨pN,jc,M3,h3,S3,?_,u2,u3⟩;simp only[Ev.forL];rw[if_pos Fq,t1,Ev.ak];exact u1
  |ct=>
   simp only[gI]at t2;subst t2;simp only at e;obtain⟨pN,jc,M3,h3,S3,u1,u2,u3⟩:=qJ f0 st turn e o2 Qq;refine⟨pN,jc,M3,h3,S3,?_,u2,u3⟩;simp only[Ev.forL];rw[if_pos Fq,t1,Ev.ak];exact u1
  |bk=>
   simp only[gI]at t2;subst t2;simp only at e;cases e;refine⟨.nx,kZ,M2,h2,S2,?_,rfl,o2⟩;simp only[Ev.forL];rw[if_pos Fq,t1,Ev.ak]
  |ret x=>
   simp only[gI]at t2;obtain⟨d2,rfl,t2⟩:=t2;simp only at e;cases e;refine⟨.ret d2,kZ,M2,h2,S2,?_,⟨d2,rfl,t2⟩,o2⟩;simp only[Ev.forL];rw[if_pos Fq,t1,Ev.ak]
theorem LK{t:T}{it:It}{b:Ss}(ib:pL P P' w b):mV P P' w (.for t it b):=λ{fr g af M B h S aj} z f=>by
 simp only[ex]at z;replace z:=ah z;obtain⟨vs,ao,z1,z⟩:=z;obtain⟨M1,S1,o1⟩:=f.walk (itv it);obtain⟨s,h2,S2,e1,q1,q2,o2⟩:=jG HP it z1 o1.f;have o3:=o1.trans f o2.s;obtain⟨g',bQ,M',h',S',u1,u2,u3⟩:=qJ (F':=λd ao h2=>match Ev.br t d ao with
   |some bx=>Ev.exs P' w b bx h2
   |none=>.bad) (ck:=s.2) o2.f (λq hq=>⟨(q2 q hq).1,(q2 q hq).2 rfl⟩) (λv d fr g af M h S aj y f q=>by
  split at y
  .rename_i bx y1;obtain⟨jc,b1,b2,b3,b4⟩:=f.br y1 q;rw[b1];obtain⟨g',bQ,M',h',S',c1,c2,c3⟩:=ib y b2;exact⟨g',bQ,M',h',S',c1,c2,(⟨b2,(dM.refl b2).tr,b3,b4⟩:dM M _ h S fr aj M h S bx jc).trans f c3⟩
  .cases y) z (dM.refl o2.f) q1
 refine⟨g',bQ,M',h',S',?_,u2,o3.trans f u3⟩;simp only[Ev.ex,e1,Ev.ak];exact u1
theorem uP{t:E}{b:Ss}(ib:pL P P' w b):∀(n:Nat) {fr:Fr}{g:Fl}{af:Fr}{M B:Nat->Prop}{h:Hh}{S:Nat->Prop}{aj:Ev.Fr},dQ (λao=>aF P t ao) (λao=>exs P w b ao) n fr=.ok g af->bu M B h S fr aj->
  ∃g' bQ M' h' S',Ev.dQ (λao h2=>Ev.aF P' t ao h2) (λao h2=>Ev.exs P' w b ao h2) n aj h=.ok (g',bQ) h'/\gI h' S' g g'/\dM M B h S fr aj M' h' S' af bQ
 |0,_,_,_,_,_,_,_,_,z,_=>by simp only[dQ]at z;cases z
 |n+1,fr,g,af,M,B,h,S,aj,z,f=>by
  simp only[dQ]at z;replace z:=ah z;obtain⟨k,ao,z1,z⟩:=z;obtain⟨h1,S1,e1,o1⟩:=gn HP t z1 f;cases k with
  |false=>
   simp only[Bool.false_eq_true,if_false]at z;cases z;refine⟨.nx,aj,M,h1,S1,?_,rfl,o1.s⟩;simp only[Ev.dQ,e1,Ev.ak];rw[if_neg (by decide)]
  |true=>
   simp only[if_true]at z;replace z:=ah z;obtain⟨p,bx,z2,z⟩:=z;obtain⟨g',jc,M2,h2,S2,t1,t2,t3⟩:=ib z2 o1.f;have o2:=o1.s.trans f t3;cases p with
   |nx=>
    simp only[gI]at t2;subst t2;simp only at z;obtain⟨pN,Dy,M3,h3,S3,u1,u2,u3⟩:=uP ib n z t3.f;refine⟨pN,Dy,M3,h3,S3,?_,u2,o2.trans f u3⟩;simp only[Ev.dQ,e1,Ev.ak,if_true,t1];exact u1
   |ct=>
    simp only[gI]at t2;subst t2;simp only at z;obtain⟨pN,Dy,M3,h3,S3,u1,u2,u3⟩:=uP ib n z t3.f;refine⟨pN,Dy,M3,h3,S3,?_,u2,o2.trans f u3⟩;simp only[Ev.dQ,e1,Ev.ak,if_true,t1];exact u1
   |bk=>
    simp only[gI]at t2;subst t2;simp only at z;cases z;refine⟨.nx,jc,M2,h2,S2,?_,rfl,o2⟩;simp only[Ev.dQ,e1,Ev.ak,if_true,t1]
   |ret x=>
    simp only[gI]at t2;obtain⟨d2,rfl,t2⟩:=t2;simp only at z;cases z;refine⟨.ret d2,jc,M2,h2,S2,?_,⟨d2,rfl,t2⟩,o2⟩;simp only[Ev.dQ,e1,Ev.ak,if_true,t1]
theorem LL{t:E}{a b:Ss}(ia:pL P P' w a)(ib:pL P P' w b):mV P P' w (.iff t a b):=λ{fr g af M B h S aj} z f=>by
 simp only[ex]at z;replace z:=ah z;obtain⟨k,ao,z1,z⟩:=z;obtain⟨h1,S1,e1,o1⟩:=gn HP t z1 f;cases k with
 |true=>
  simp only[if_true]at z;obtain⟨g',bQ,M',h',S',c1,c2,c3⟩:=ia z o1.f;exact⟨g',bQ,M',h',S',by simp only[Ev.ex,e1,Ev.ak,if_true,c1],c2,o1.s.trans f c3⟩
 |false=>
  simp only[Bool.false_eq_true,if_false]at z;obtain⟨g',bQ,M',h',S',c1,c2,c3⟩:=ib z o1.f;exact⟨g',bQ,M',h',S',by simp only[Ev.ex,e1,Ev.ak];rw[if_neg (by decide)];exact c1,c2,o1.s.trans f c3⟩
mutual
theorem Og:∀s:S,mV P P' w s
 |.set _ _=>Ht HP
 |.yD _ _=>Hu HP
 |.dput _ _ _=>λz _=>by simp only[ex]at z;cases z
 |.oM _ _=>λz _=>by simp only[ex]at z;cases z
 |.ja _ _ _ _=>Hs HP
 |.exp _=>LI HP
 |.ret _=>LJ HP
 |.iff _ a b=>LL HP (kJ a) (kJ b)
 |.for _ _ b=>LK HP (kJ b)
 |.o8 _ b=>λz f=>by
  simp only[ex]at z;obtain⟨g',bQ,M',h',S',c1,c2,c3⟩:=uP HP (kJ b) w z f;exact⟨g',bQ,M',h',S',by simp only[Ev.ex];exact c1,c2,c3⟩
 |.gf=>λz _=>by simp only[ex]at z;cases z
theorem kJ:∀s:Ss,pL P P' w s
 |.nil=>λz f=>by simp only[exs]at z;cases z;exact⟨.nx,_,_,_,_,by simp only[Ev.exs],rfl,.refl f⟩
 |.cons s ss=>λz f=>by
  simp only[exs]at z;replace z:=ah z;obtain⟨p,ao,z1,z⟩:=z;obtain⟨g',kZ,M2,h2,S2,t1,t2,t3⟩:=Og s z1 f;cases p with
  |nx=>
   simp only[gI]at t2;subst t2;simp only at z;obtain⟨pN,jc,M3,h3,S3,u1,u2,u3⟩:=kJ ss z t3.f;exact⟨pN,jc,M3,h3,S3,by simp only[Ev.exs,t1,Ev.ak,u1],u2,t3.trans f u3⟩
  |ct=>
   simp only[gI]at t2;subst t2;simp only at z;cases z;exact⟨.ct,kZ,M2,h2,S2,by simp only[Ev.exs,t1,Ev.ak],rfl,t3⟩
  |bk=>
   simp only[gI]at t2;subst t2;simp only at z;cases z;exact⟨.bk,kZ,M2,h2,S2,by simp only[Ev.exs,t1,Ev.ak],rfl,t3⟩
  |ret x=>
   simp only[gI]at t2;obtain⟨d2,rfl,t2⟩:=t2;simp only at z;cases z;exact⟨.ret d2,kZ,M2,h2,S2,by simp only[Ev.exs,t1,Ev.ak],⟨d2,rfl,t2⟩,t3⟩
end
end
theorem qK{h:Hh}{S:Nat->Prop}{B:Nat->Prop}{h0:Hh}{S0:Nat->Prop}:∀{sl:List Sl}{ds:List D}{cs:Fr},sl.length=ds.length->
  (∀(a:Nat) s d,sl[a]?=some s->ds[a]?=some d->kC B B h0 S0 (some s) (some d)/\locked cs a=xE (some s)/\(xE (some s)=true->∃m es l s',d=.ref m/\h[m]?=some (.lst es)/\aq h S l es/\cs[a]?=some (some s')/\s'.out=some l))->mQ h S sl ds ((cs.take sl.length).filterMap λo=>o.bind Sl.out)
 |[],ds,cs,_,_=>by simp[mQ]
 |s :: sl,[],cs,hl,_=>by simp at hl
 |s :: sl,d :: ds,[],hl,q=>by
  have ih:=qK (h:=h) (S:=S) (sl:=sl) (ds:=ds) (cs:=[]) (by simpa using hl) λa s' d' e1 e2=>by
   obtain⟨w1,w2,w3⟩:=q (a+1) s' d' (by simpa using e1) (by simpa using e2);exact⟨w1,by simpa[locked]using w2,λz=>by obtain⟨_,_,_,_,_,_,_,y,_⟩:=w3 z;simp at y⟩
  obtain⟨w1,w2,w3⟩:=q 0 s d (by simp) (by simp);cases s with
  |val v=>simp at ih ⊢;exact⟨d,ds,rfl,ih⟩
  |own l=>exact absurd w1 (by rintro⟨m,es,e,q,_⟩;exact q.2 q.1)
  |bor l=>obtain⟨_,_,_,_,_,_,_,y,_⟩:=w3 rfl;simp at y
  |ro l=>obtain⟨_,_,_,_,_,_,_,y,_⟩:=w3 rfl;simp at y
 |s :: sl,d :: ds,o :: cs,hl,q=>by
  have ih:=qK (h:=h) (S:=S) (sl:=sl) (ds:=ds) (cs:=cs) (by simpa using hl) λa s' d' e1 e2=>by
   obtain⟨w1,w2,w3⟩:=q (a+1) s' d' (by simpa using e1) (by simpa using e2);exact⟨w1,by simpa[locked]using w2,λz=>by simpa using w3 z⟩
  obtain⟨w1,w2,w3⟩:=q 0 s d (by simp) (by simp);cases s with
  |val v=>
   have:o.bind Sl.out=none:=by
    simp[locked]at w2;rcases o with _|s
    .rfl
    .cases s<;>first|rfl|cases w2
   simp only[List.length_cons,List.take_succ_cons,List.filterMap_cons,this];exact⟨d,ds,rfl,ih⟩
  |own l=>exact absurd w1 (by rintro⟨m,es,e,q,_⟩;exact q.2 q.1)
  |bor l=>
   obtain⟨m,es,l',s',a1,a2,a3,a4,a5⟩:=w3 rfl;simp at a4;subst a4;simp only[List.length_cons,List.take_succ_cons,List.filterMap_cons,Option.bind,a5];exact⟨d,ds,l',_,m,es,rfl,rfl,a1,a2,a3,ih⟩
  |ro l=>
   obtain⟨m,es,l',s',a1,a2,a3,a4,a5⟩:=w3 rfl;simp at a4;subst a4;simp only[List.length_cons,List.take_succ_cons,List.filterMap_cons,Option.bind,a5];exact⟨d,ds,l',_,m,es,rfl,rfl,a1,a2,a3,ih⟩
theorem BE(F:List Fn)(w:Nat):∀n,pF (run F w n) (Ev.run F w n)
 |0=>λf sl v os e=>by simp[run]at e
 |n+1=>λf sl v os e h S B ds F0=>by
  have HP:=BE F w n;simp only[run]at e;cases z:F[f]? with
  |none=>rw[z]at e;cases e
  |some fn=>
  rw[z]at e;simp only at e;split at e
  case isFalse=>cases e
  rename_i hl;have hlen:sl.length=ds.length:=by have:=F0.len;simpa using this
  have f1:bu B B h S (eS fn sl) (Ev.eS fn ds):=by
   unfold eS Ev.eS;have sp:∀(i:Nat) o,(sl.map some++List.replicate (fn.ns - fn.np) none)[i]?=some o->(sl.map some)[i]?=some o\/(sl.length<=i/\o=none):=λi o y=>by
    by_cases hi:i<sl.length
    .rw[List.getElem?_append_left (by simpa using hi)]at y;exact .inl y
    .rw[List.getElem?_append_right (by simpa using hi)]at y;have:=List.mem_of_getElem? y;exact .inr ⟨by omega,(List.mem_replicate.mp this).2⟩
   have lo:∀(i:Nat) p,i<sl.length->(ds.map some++List.replicate (fn.ns - fn.np) none)[i]?=some p->(ds.map some)[i]?=some p:=λi p hi y=>by
    rw[List.getElem?_append_left (by simpa[<-hlen]using hi)]at y;exact y
   refine⟨F0.wS,F0.wM,F0.wB,by simp[hlen],λi o p y1 y2=>?_,λi j o o' m y1 y2 y3 y4 y5 y6=>?_⟩
   .rcases sp i o y1 with y1|⟨hi,rfl⟩
    .have hi:i<sl.length:=by have:=(List.getElem?_eq_some_iff.mp y1).1;simpa using this
     exact F0.sl i o p y1 (lo i p hi y2)
    .rw[List.getElem?_append_right (by simpa[<-hlen]using hi)]at y2;have:=List.mem_of_getElem? y2;exact(List.mem_replicate.mp this).2
   .rcases sp i o y1 with y1|⟨hi,rfl⟩
    .rcases sp j o' y2 with y2|⟨hj,rfl⟩
     .have hi:i<sl.length:=by have:=(List.getElem?_eq_some_iff.mp y1).1;simpa using this
      have hj:j<sl.length:=by have:=(List.getElem?_eq_some_iff.mp y2).1;simpa using this
      exact F0.inj i j o o' m y1 y2 y3 y4 (lo i _ hi y5) (lo j _ hj y6)
     .cases y4
    .cases y3
  have fin:∀{g:Fl} {af:Fr},exs (run F w n) w fn.body (eS fn sl)=.ok g af->∃g' bQ M' h' S',Ev.exs (Ev.run F w n) w fn.body (Ev.eS fn ds) h=.ok (g',bQ) h'/\gI h' S' g g'/\Tk B h S h' S'/\mQ h' S' sl ds (outs fn.np af):=λ{g af} y=>by
   obtain⟨g',bQ,M',h',S',c1,c2,c3⟩:=kJ HP fn.body y f1;refine⟨g',bQ,M',h',S',c1,c2,⟨c3.tr.len,λm y1 y2=>c3.tr.keep m y1 y2,c3.tr.sub,λm q=>?_⟩,?_⟩
   .rcases c3.tr.new m q with q|q|q
    .exact .inl q
    .exact .inr q
    .exact absurd q.1 q.2
   .unfold outs;rw[<-hl];refine qK (B:=B) (h0:=h) (S0:=S) hlen λa s d e1 e2=>?_;have ha:a<sl.length:=(List.getElem?_eq_some_iff.mp e1).1;have h0:(eS fn sl)[a]?=some (some s):=by unfold eS;rw[List.getElem?_append_left (by simpa using ha)];simp[e1]
    have hlk:locked af a=xE (some s):=by rw[c3.lk a];unfold locked;rw[h0]
    refine⟨F0.sl a _ _ (by simp[e1]) (by simp[e2]),hlk,λhk=>?_⟩;have hr:=c3.rf a (by unfold locked;rw[h0];exact hk);have hd:(Ev.eS fn ds)[a]?=some (some d):=by unfold Ev.eS;rw[List.getElem?_append_left (by simpa[<-hlen]using ha)];simp[e2]
    rw[hd]at hr;cases y2:af[a]? with
    |none=>unfold locked at hlk;rw[y2]at hlk;rw[<-hlk]at hk;cases hk
    |some o=>
     have sr:=c3.f.sl a _ _ y2 hr;unfold locked at hlk;rw[y2,hk]at hlk;rcases o with _|s'
     .cases hlk
     .cases s' with
      |val v=>cases hlk
      |own l=>cases hlk
      |bor l=>obtain⟨m,es,e,_,k1,k2⟩:=sr;cases e;exact⟨m,es,l,_,rfl,k1,k2,rfl,rfl⟩
      |ro l=>obtain⟨m,es,e,_,k1,k2⟩:=sr;cases e;exact⟨m,es,l,_,rfl,k1,k2,rfl,rfl⟩
  simp only[Ev.run,z];have hl':ds.length=fn.np:=by omega
  rw[if_pos hl'];split at e
  .rename_i v' af y;cases e;obtain⟨g',bQ,M',h',S',c1,c2,c3,c4⟩:=fin y;simp only[gI]at c2;obtain⟨d,rfl,c2⟩:=c2;exact⟨d,h',S',by simp only[Ev.endOf,c1,Ev.ak],c2,c3,c4⟩
  .rename_i af y;cases e;obtain⟨g',bQ,M',h',S',c1,c2,c3,c4⟩:=fin y;simp only[gI]at c2;subst c2;exact⟨.aG,h',S',by simp only[Ev.endOf,c1,Ev.ak],rfl,c3,c4⟩
  .obtain⟨rfl,l,k,rfl,e1,rfl,rfl⟩:=Lm e;obtain⟨d,rfl⟩:∃d,ds=[d]:=by cases ds with|nil=>simp at hlen|cons d ds=>cases ds with|nil=>exact⟨d,rfl⟩|cons _ _=>simp at hlen
   obtain⟨d',ed,q⟩:=F0.sl 0 _ _ rfl rfl;cases ed;have r:=Ll (w:=w) (n:=n) z q e1;simp only[Ev.run,z]at r;rw[if_pos hl']at r;refine⟨_,_,λm=>S m\/m=h.length,r,⟨h.length,rfl,.inr rfl,by simp⟩,⟨by simp,λm y1 _=>by rw[List.getElem?_append_left y1],λm q=>.inl q,λm q=>?_⟩,?_⟩
   .rcases q with q|rfl
    .exact .inl q
    .exact .inr ⟨Nat.le_refl _,by simp⟩
   .exact⟨d,[],rfl,rfl⟩
end Pv
namespace Pv
open Ev (D O Hh Fn)
theorem Hv{F:List Fn}{w n f:Nat}{ns:List Int}(e:run F w n f [.val (.bL (ns.map V.int))]=some (.bl true,[])):∃h',Ev.run F w n f [.ref 0] [.bL (ns.map D.int)]=.ok (.bl true) h':=by
 have F0:bu (λ_=>False) (λ_=>False) [O.bL (ns.map D.int)] (λm=>m=0) ([Sl.val (.bL (ns.map V.int))].map some) ([D.ref 0].map some):=by
  refine⟨λm q=>⟨by subst q;simp,id,id⟩,λm q=>q.elim,λm q=>q.elim,rfl,λi o p y1 y2=>?_,λi j o o' m y1 y2 y3 y4 y5 y6=>?_⟩
  .cases i with
   |zero=>
    simp at y1 y2;subst y1 y2;refine⟨.ref 0,rfl,?_⟩;simp only[Rep];exact⟨0,_,rfl,rfl,rfl,aq.map (f:=V.int) (g:=D.int) (λ_=>by simp[Rep]) ns⟩
   |succ i=>simp at y1
  .cases i with
   |zero=>simp at y1;subst y1;cases y3
   |succ i=>simp at y1
 obtain⟨d,h',S',a,b,_,_⟩:=BE F w n f _ _ _ e _ _ _ _ F0;simp only[Rep]at b;subst b;exact⟨h',a⟩
end Pv
namespace Pv
open Ev (D bO bJ TY BI ME T E Es Eo It S Ss Fn big deep b2i rep cj dF bI aQ cut cI dX slots)
theorem cy{n:Nat}(h:n<=100000):n<=big:=Nat.le_trans h (by decide)
section
variable{i j:Int}{a b:List Nat}{x y:List V}{d e:V}{m n:Nat}{k l:Bool}
theorem dR(h:x.length<=big):dz x=some (.lst x):=by simp[dz,h]
theorem iT(h:x.length<=big):jD x=some (.tup x):=by simp[jD,h]
@[simp] theorem lg:dz []=some (.lst []):=dR (cy (by simp))
@[simp] theorem Oh:jD []=some (.tup []):=iT (cy (by simp))
@[simp] theorem sR{a}:dz [a]=some (.lst [a]):=dR (cy (by simp))
@[simp] theorem sS{a}:jD [a]=some (.tup [a]):=iT (cy (by simp))
@[simp] theorem sU{a b}:dz [a,b]=some (.lst [a,b]):=dR (cy (by simp))
@[simp] theorem za{a b}:jD [a,b]=some (.tup [a,b]):=iT (cy (by simp))
@[simp] theorem Oi{a b c}:jD [a,b,c]=some (.tup [a,b,c]):=iT (cy (by simp))
@[simp] theorem cT:bK .add (.int i) (.int j)=some (.int (i+j)):=nd rfl
theorem ly(h:a.length+b.length<=100000):bK .add (.str a) (.str b)=some (.str (a++b)):=by delta bK;dsimp only;simp[cy h]
theorem Dz(h:x.length+y.length<=100000):bK .add (.tup x) (.tup y)=some (.tup (x++y)):=by delta bK;dsimp only;simp[cy h]
theorem uQ(h:x.length+y.length<=100000):bK .add (.lst x) (.lst y)=some (.lst (x++y)):=by delta bK;dsimp only;simp[dR (cy (show(x++y).length<=100000 by simpa using h))]
@[simp] theorem DA:bK .sub (.int i) (.int j)=some (.int (i - j)):=nd rfl
@[simp] theorem oS:bK .mul (.int i) (.int j)=if cj i j then some (.int (i*j))else none:=nd rfl
theorem oU(h0:0<=j)(h1:j<=1000)(h2:a.length<=1000):bK .mul (.str a) (.int j)=some (.str (rep j.toNat a)):=by delta bK;dsimp only;simp[h0,h1,h2]
theorem uR(h0:0<=j)(h1:j<=1000)(h2:x.length<=1000)(h3:(rep j.toNat x).length<=100000):bK .mul (.lst x) (.int j)=some (.lst (rep j.toNat x)):=by delta bK;dsimp only;simp[h0,h1,h2,dR (cy h3)]
@[simp] theorem DB:bK .fdiv (.int i) (.int j)=if 0<j/\j<1073741824 then some (.int (i / j))else none:=nd rfl
@[simp] theorem Hw:bK .mod (.int i) (.int j)=if 0<j then some (.int (i % j))else none:=nd rfl
@[simp] theorem pO:cop .ne d e=(eT deep d e).map (!·):=nd rfl
@[simp] theorem LM:eT (n+1) (.int i) (.int j)=some (decide (i=j)):=by show some (i==j)=_;by_cases h:i=j<;>simp[h]
@[simp] theorem LN:eT (n+1) (.str a) (.str b)=some (decide (a=b)):=by show some (a==b)=_;by_cases h:a=b<;>simp[h]
@[simp] theorem LO:eT (n+1) (.bl k) (.bl l)=some (decide (k=l)):=by cases k<;>cases l<;>rfl
@[simp] theorem xK:eT deep (.int i) (.int j)=some (decide (i=j)):=LM
@[simp] theorem qL:eT deep (.str a) (.str b)=some (decide (a=b)):=LN
@[simp] theorem Hx:eT deep (.bl k) (.bl l)=some (decide (k=l)):=LO
@[simp] theorem xN:eT deep (.lst x) (.lst y)=cS (eT (18+1)) x y:=nd rfl
@[simp] theorem xO{f:V->V->Option Bool}:cS f [] []=some true:=nd rfl
@[simp] theorem U5{f:V->V->Option Bool}:cS f (d :: x) []=some false:=nd rfl
@[simp] theorem nE:ee (.str a) (.int i)=(bI a i).map λc=>.str [c]:=nd rfl
@[simp] theorem nF:ee (.lst x) (.int i)=bI x i:=nd rfl
@[simp] theorem gK{lo hi:Option Int}:fP (.str a) lo hi=some (.str (cut a lo hi)):=nd rfl
@[simp] theorem Hy{lo hi:Option Int}:fP (.lst x) lo hi=dz (cut x lo hi):=nd rfl
@[simp] theorem Hz:kD (.lst x)=dz x.reverse:=nd rfl
theorem len_str(h:a.length<=100000):cC .len [.str a]=some (.int a.length):=by delta cC;dsimp only;simp[cy h]
@[simp] theorem HA:cC .len [.lst x]=some (.int x.length):=nd rfl
@[simp] theorem xP:cC .len [.bL x]=some (.int x.length):=nd rfl
@[simp] theorem qM:cC .all [.lst x]=(boolsOf x).map λbs=>.bl (bs.all id):=nd rfl
@[simp] theorem HB:cC .sum [.lst x]=(intsOf x).map λis=>.int is.sum:=nd rfl
@[simp] theorem LP:cC .min [.int i,.int j]=some (.int (if j<i then j else i)):=nd rfl
@[simp] theorem uS{b:Bool}:cC .kh [.bl b]=some (.int (if b then 1 else 0)):=nd rfl
@[simp] theorem xQ:toT (.lst x)=jD x:=nd rfl
theorem LQ(h0:0<=j)(h1:j<=100000):fy [.int j]=some (range 0 j.toNat):=by
 simp only[fy];rw[if_pos ⟨by omega,by omega⟩]
theorem zb{α:Type}(g:α->Int)(l:List α):intsOf (l.map λx=>.int (g x))=some (l.map g):=by induction l<;>simp[intsOf, *]
theorem pP{α:Type}(g:α->List Nat)(l:List α):strsOf (l.map λx=>.str (g x))=some (l.map g):=by induction l<;>simp[strsOf, *]
theorem sd:∀l:List (List Nat),cI [] l=l.flatten
 |[]=>rfl
 |[s]=>by simp[cI]
 |s :: t :: r=>by simp[cI,sd (t :: r)]
@[simp] theorem U6:truthy (.bl k)=k:=nd rfl
@[simp] theorem T8:truthy (.lst x) = !x.isEmpty:=nd rfl
theorem zc{l:List (List Nat)}(h:l.flatten.length<=100000):eZ .join (.str []) [.lst (l.map V.str)]=some (.str l.flatten):=by
 have hs:=pP (λx=>x) l;have:(l.map (·.length)).sum<=big:=cy (by rw[<-List.length_flatten];exact h);simp only[List.map_id']at hs;have hs':strsOf (l.map V.str)=some l:=by simpa using pP (λx=>x) l
 delta eZ;dsimp only;simp[om,hs',sd,this]
end
theorem e8{α:Type}{f:V->Option (Option V)}(e:α->V)(g:α->V)(l:List α)(h:∀a∈l,f (e a)=some (some (g a))):cJ f (l.map e)=some (l.map g):=by
 induction l with
 |nil=>rfl
 |cons a l ih=>simp only[List.map_cons,cJ,h a (by simp),ih λu hu=>h u (by simp[hu]),Option.bind];rfl
theorem jH{α:Type}{f:V->Option (Option V)}(e:α->V)(p:α->Bool)(g:α->V)(l:List α)(h:∀a∈l,f (e a)=some (if p a then some (g a)else none)):cJ f (l.map e)=some ((l.filter p).map g):=by
 induction l with
 |nil=>rfl
 |cons a l ih=>
  simp only[List.map_cons,cJ,h a (by simp),ih λu hu=>h u (by simp[hu]),Option.bind];cases z:p a<;>simp[z]
noncomputable def Wp{α:Type}(r:R α)(Q:α->Fr->Prop):Prop:=∃a h,r=.ok a h/\Q a h
section
variable{α β:Type}{Q Q':α->Fr->Prop}
@[simp] theorem pQ(a:α)(h:Fr):Wp (.ok a h) Q=Q a h:=propext ⟨λ⟨_,_,e,q⟩=>by cases e;exact q,λq=>⟨_,_,rfl,q⟩⟩
@[simp] theorem U7:Wp (.bad:R α) Q=False:=propext ⟨λq=>(by obtain⟨_,_,e,_⟩:=q;cases e),False.elim⟩
@[simp] theorem wp_bind(r:R β)(f:β->Fr->R α):Wp (r.bind f) Q=Wp r λa h=>Wp (f a h) Q:=by cases r<;>simp
theorem Wp.mono{r:R α}(h:Wp r Q)(f:∀a h,Q a h->Q' a h):Wp r Q':=by
 obtain⟨a,h',e,q⟩:=h;exact⟨a,h',e,f a h' q⟩
end
noncomputable def fl(I Q:Fr->Prop)(X:V->Fr->Prop):Fl->Fr->Prop
 |.nx,fr=>I fr
 |.ct,fr=>I fr
 |.bk,fr=>Q fr
 |.ret v,fr=>X v fr
section
variable{I J:Fr->Prop}{X:V->Fr->Prop}{fr:Fr}{v:V}
@[simp] theorem gu:fl I J X .nx fr=I fr:=nd rfl
end
theorem gM{α:Type}{e:α->V}{f:V->Fr->R Fl}{Q:Fl->Fr->Prop}(I:List α->List α->Fr->Prop)(turn:∀p a l fr,I p (a :: l) fr->Wp (f (e a) fr) (fl (I (p++[a]) l) (Q .nx) λv=>Q (.ret v)))(fin:∀p fr,I p [] fr->Q .nx fr):∀(l p:List α) (fr:Fr),I p l fr->Wp (forL f (l.map e) fr) Q
 |[],p,fr,i=>by simp only[List.map_nil,forL,pQ];exact fin p fr i
 |a :: l,p,fr,i=>by
  simp only[List.map_cons,forL,wp_bind];refine(turn p a l fr i).mono λg h2 q=>?_;cases g with
  |nx=>exact gM I turn fin l _ h2 q
  |ct=>exact gM I turn fin l _ h2 q
  |bk=>exact(pQ _ _).mpr q
  |ret x=>exact(pQ _ _).mpr q
theorem qN{f:V->Fr->R Fl}{Q:Fl->Fr->Prop}{lo:Int}{N:Nat}(I:Nat->Fr->Prop)(turn:∀(k:Nat) fr,k<N->I k fr->Wp (f (.int (lo+(k:Nat))) fr) (fl (I (k+1)) (Q .nx) λv=>Q (.ret v)))(fin:∀fr,I N fr->Q .nx fr){fr:Fr}(i:I 0 fr):Wp (forL f (range lo N) fr) Q:=by
 have h:=gM (e:=λ(k:Nat)=>V.int (lo+k)) (f:=f) (Q:=Q) (λp l fr=>∃k,k<=N/\p=List.range k/\p++l=List.range N/\I k fr)
  (λp a l fr ⟨k,hk,hp,hl,q⟩=>by
   subst hp;have hlen:=congrArg List.length hl;simp at hlen;have ha:a=k:=by
    have:=congrArg (·[k]?) hl;simp[List.getElem?_append_right]at this;rw[List.getElem?_range (by omega)]at this;simpa using this
   subst ha;refine(turn a fr (by omega) q).mono λg h2 z=>?_;cases g with
   |nx=>exact⟨a+1,by omega,by simp[List.range_succ],by simpa using hl,z⟩
   |ct=>exact⟨a+1,by omega,by simp[List.range_succ],by simpa using hl,z⟩
   |bk=>exact z
   |ret x=>exact z)
  (λp fr ⟨k,hk,hp,hl,q⟩=>by
   subst hp;have hlen:=congrArg List.length hl;simp at hlen;subst hlen;exact fin fr q) (List.range N) [] fr ⟨0,Nat.zero_le _,rfl,by simp,i⟩
 exact h
theorem uT{t:Fr->R Bool}{f:Fr->R Fl}{Q:Fl->Fr->Prop}(I:Nat->Fr->Prop)(turn:∀k fr,I k fr->Wp (t fr) λb af=>if b then Wp (f af) (fl (λao=>∃j,j<k/\I j ao) (Q .nx) λv=>Q (.ret v))else Q .nx af):∀(n k:Nat) (fr:Fr),k<n->I k fr->Wp (dQ t f n fr) Q
 |0,k,fr,hk,_=>by omega
 |n+1,k,fr,hk,i=>by
  simp only[dQ,wp_bind];refine(turn k fr i).mono λb af q=>?_;cases b with
  |false=>simpa using q
  |true=>
   simp only[if_true,wp_bind]at q ⊢;refine q.mono λg ao z=>?_;cases g with
   |nx=>obtain⟨j,hj,z⟩:=z;exact uT I turn n j ao (by omega) z
   |ct=>obtain⟨j,hj,z⟩:=z;exact uT I turn n j ao (by omega) z
   |bk=>exact(pQ _ _).mpr z
   |ret x=>exact(pQ _ _).mpr z
noncomputable def fin(fn:Fn)(ds:List Sl):R Fl->Option (V×List (List V))
 |.ok (.ret v) fr=>some (v,outs fn.np fr)
 |.ok .nx fr=>some (.aG,outs fn.np fr)
 |_=>xA fn ds
@[simp] theorem HC{fn:Fn}{ds:List Sl}{v:V}{fr:Fr}:fin fn ds (.ok (.ret v) fr)=some (v,outs fn.np fr):=nd rfl
theorem run_eq{F:List Fn}{w n f:Nat}{ds:List Sl}{fn:Fn}(hf:F[f]?=some fn)(hl:ds.length=fn.np):run F w (n+1) f ds=fin fn ds (exs (run F w n) w fn.body (eS fn ds)):=by
 simp only[run,hf,hl,if_true];cases exs (run F w n) w fn.body (eS fn ds)with
 |bad=>rfl
 |ok g fr=>cases g<;>rfl
theorem b8{F:List Fn}{w n f:Nat}{ds:List Sl}{fn:Fn}{v:V}{os:List (List V)}(hf:F[f]?=some fn)(hl:ds.length=fn.np)(q:Wp (exs (run F w n) w fn.body (eS fn ds)) λg fr=>g=.ret v/\outs fn.np fr=os):run F w (n+1) f ds=some (v,os):=by
 rw[run_eq hf hl];obtain⟨g,fr,e,rfl,rfl⟩:=q;rw[e];rfl
section
variable{P:aM}{w:Nat}{fr:Fr}{k:Bool}{a b c:E}{es:Es}{ss sa sb:Ss}{st:S}{lo hi:Eo}{it:It}
@[simp] theorem SM{d:D}:ev P k (.c d) fr=R.of (ofD d) fr:=by rw[ev]
@[simp] theorem SN{i:Nat}:ev P k (.v i) fr=R.of (mL k fr i) fr:=by rw[ev]
@[simp] theorem LR:ev P k (.tup es) fr=(bX P false es fr).bind λds af=>R.of (jD ds) af:=by rw[ev]
@[simp] theorem LS:ev P k (.lst es) fr=(bX P false es fr).bind λds af=>R.of (dz ds) af:=by rw[ev]
@[simp] theorem LU{o:bO}:ev P k (.bin o a b) fr=(ev P (kf a (bE b)) a fr).bind λx af=>(ev P true b af).bind λy ao=>R.of (bK o x y) ao:=by rw[ev]
@[simp] theorem LV{o:bJ}:ev P k (.cmp o a b) fr=(ev P (kf a (bE b)) a fr).bind λx af=>(ev P true b af).bind λy ao=>R.of ((cop o x y).map .bl) ao:=by rw[ev]
noncomputable def U8:V->Fr->R V:=λx h1=>match x with
 |.bl b=>.ok (.bl (!b)) h1
 |_=>.bad
@[simp] theorem Oj:ev P k (.nt a) fr=(ev P true a fr).bind U8:=by rw[ev];rfl
noncomputable def SO:V->Fr->R V:=λx h1=>match x with
 |.int i=>.ok (.int (-i)) h1
 |_=>.bad
@[simp] theorem LW:ev P k (.neg a) fr=(ev P true a fr).bind SO:=by rw[ev];rfl
noncomputable def Qs(r:Fr->R V):V->Fr->R V:=λx h1=>match x with
 |.bl true=>r h1
 |.bl false=>.ok (.bl false) h1
 |_=>.bad
@[simp] theorem LX{k:Bool}{r:Fr->R V}:Qs r (.bl k) fr=if k then r fr else .ok (.bl false) fr:=by cases k<;>rfl
@[simp] theorem Ol:ev P k (.an a b) fr=(ev P true a fr).bind (Qs λh1=>ev P k b h1):=by rw[ev];rfl
@[simp] theorem LY:ev P k (.jT a b c) fr=(aF P a fr).bind λt af=>if t then ev P k b af else ev P k c af:=by rw[ev]
theorem LZ:ev P k (.lT a b c) fr=(ev P (kf a (bE b++bE c)) a fr).bind λx af=>(ev P (kf b (bE c)) b af).bind λy ao=>(ev P false c ao).bind λz bx=>R.of (uD x y z) bx:=by rw[ev]
@[simp] theorem Om:ev P k (.ix a b) fr=(ev P (kf a (bE b)) a fr).bind λx af=>(ev P true b af).bind λy ao=>R.of (ee x y) ao:=by rw[ev]
@[simp] theorem Oo:ev P k (.sl a lo hi) fr=(ev P (kf a (ki lo++ki hi)) a fr).bind λx af=>(fL P lo af).bind λl ao=>(fL P hi ao).bind λu bx=>R.of (fP x l u) bx:=by rw[ev]
@[simp] theorem Oq:ev P k (.rv a) fr=(ev P true a fr).bind λx af=>R.of (kD x) af:=by rw[ev]
@[simp] theorem Ot{f:Nat}:ev P k (.cl f es) fr=(fM P es fr).bind λas af=>cQ P f as af:=by rw[ev]
@[simp] theorem Ou{g:BI}:ev P k (.bi g es) fr=(bX P true es fr).bind λds af=>R.of (cC g ds) af:=by rw[ev]
noncomputable def DC(m:ME)(i:Nat):List V->Fr->R V:=λds af=>match af[i]? with
 |some (some (.own l))=>match jW m l ds with
  |some (v,l')=>.ok v (af.set i (some (.own l')))
  |none=>.bad
 |some (some (.bor l))=>match jW m l ds with
  |some (v,l')=>.ok v (af.set i (some (.bor l')))
  |none=>.bad
 |_=>.bad
theorem L0{m:ME}{i:Nat}(hm:iL m=true):ev P k (.me m (.v i) es) fr=if (lent fr i).isSome then (bX P (Bk m) es fr).bind (DC m i)else .bad:=by
 rw[ev,if_pos hm];unfold kF;cases z:(lent fr i).isSome<;>simp[z]<;>rfl
theorem L1{m:ME}(hm:iL m=false):ev P k (.me m a es) fr=(ev P (kf a (fQ es)) a fr).bind λx af=>(bX P true es af).bind λds ao=>R.of (eZ m x ds) ao:=by rw[ev,hm];rfl
noncomputable def lD(P:aM)(elt:E)(t:T)(cond:Eo)(fr:Fr):V->Option (Option V):=λd=>match br t d (r8 fr)with
 |none=>none
 |some ao=>match gZ P cond ao with
  |.ok c _=>if c then (match ev P false elt ao with|.ok x _=>some (some x)|.bad=>none)else some none
  |.bad=>none
@[simp] theorem qB{elt:E}{t:T}{cond:Eo}:ev P k (.comp elt t it cond) fr=(cz P true it fr).bind λs af=>if undef t af then R.of ((cJ (lD P elt t cond af) s).bind dz) af else .bad:=by rw[ev];rfl
@[simp] theorem L3:ev P k (.je it) fr=(cz P true it fr).bind λs af=>R.of (dz s) af:=by rw[ev]
@[simp] theorem HD{kvs:List (D×D)}:ev P k (.iZ kvs a) fr=(ev P true a fr).bind λx af=>R.of (eL x kvs) af:=by rw[ev]
@[simp] theorem L4:ev P k (.iz a) fr=(ev P true a fr).bind λx af=>R.of (toT x) af:=by rw[ev]
@[simp] theorem HE:bX P k .nil fr=.ok [] fr:=by rw[bX]
@[simp] theorem DE:bX P k (.cons a es) fr=(ev P (k&&kf a (fQ es)) a fr).bind λd af=>(bX P k es af).bind λds ao=>.ok (d :: ds) ao:=by rw[bX]
@[simp] theorem HF:fM P .nil fr=.ok [] fr:=by rw[fM]
noncomputable def zd(P:aM)(a:E)(es:Es)(fr:Fr):Option Nat->R (List (Nat ⊕ V))
 |some i=>(fM P es fr).bind λr af=>.ok (.inl i :: r) af
 |none=>(ev P false a fr).bind λd af=>(fM P es af).bind λr ao=>.ok (.inr d :: r) ao
@[simp] theorem ze{i:Nat}:zd P a es fr (some i)=(fM P es fr).bind λr af=>.ok (.inl i :: r) af:=nd rfl
@[simp] theorem zf:zd P a es fr none=(ev P false a fr).bind λd af=>(fM P es af).bind λr ao=>.ok (.inr d :: r) ao:=nd rfl
@[simp] theorem uU:fM P (.cons a es) fr=zd P a es fr (kF fr a):=by rw[fM];cases kF fr a<;>rfl
@[simp] theorem L5:fL P .no fr=.ok none fr:=by rw[fL]
@[simp] theorem HG:fL P (.yes a) fr=(ev P true a fr).bind λd af=>R.of ((intOf d).map some) af:=by rw[fL]
@[simp] theorem L6:gZ P .no fr=.ok true fr:=by rw[gZ]
@[simp] theorem HH:gZ P (.yes a) fr=aF P a fr:=by rw[gZ]
@[simp] theorem BF:aF P (.an a b) fr=(aF P a fr).bind λk af=>if k then aF P b af else .ok false af:=by rw[aF]
@[simp] theorem xR:aF P (.orr a b) fr=(aF P a fr).bind λk af=>if k then .ok true af else aF P b af:=by rw[aF]
@[simp] theorem L7:aF P (.nt a) fr=(aF P a fr).bind λk af=>.ok (!k) af:=by rw[aF]
noncomputable def L8:V->Fr->R Bool:=λx af=>.ok (truthy x) af
@[simp] theorem HJ{x:V}:L8 x fr=.ok (truthy x) fr:=nd rfl
@[simp] theorem HK:cz P k (.seq a) fr=(src k fr a (ev P k a fr)).bind λx af=>R.of (fk x) af:=by rw[cz]
@[simp] theorem HL:cz P k (.gk es) fr=(bX P true es fr).bind λds af=>R.of (fy ds) af:=by rw[cz]
@[simp] theorem HM:cz P k (.rev a) fr=(ev P true a fr).bind λx af=>R.of ((yZ x).map λs=>s.reverse) af:=by rw[cz]
noncomputable def Ma(i:Nat)(af:Fr):V->R Fl
 |.lst l=>(R.of (put af i (.own l)) af).bind λao _=>.ok .nx ao
 |_=>.bad
@[simp] theorem DF{i:Nat}{l:List V}:Ma i fr (.lst l)=(R.of (put fr i (.own l)) fr).bind λao _=>.ok .nx ao:=nd rfl
@[simp] theorem BG{i:Nat}:ex P w (.set i a) fr=(ev P false a fr).bind λx af=>if isNew a then Ma i af x else (R.of (put af i (.val x)) af).bind λao _=>.ok .nx ao:=by
 rw[ex];rfl
@[simp] theorem Mb:ex P w (.exp a) fr=(ev P true a fr).bind λ_ af=>.ok .nx af:=by rw[ex]
@[simp] theorem Mc:ex P w (.ret a) fr=(ev P false a (fZ fr)).bind λx af=>.ok (.ret x) af:=by rw[ex]
@[simp] theorem Me:ex P w (.iff a sa sb) fr=(aF P a fr).bind λk af=>if k then exs P w sa af else exs P w sb af:=by rw[ex]
noncomputable def turnF(P:aM)(w:Nat)(t:T)(b:Ss):V->Fr->R Fl:=λd ao=>match br t d ao with
 |some bx=>exs P w b bx
 |none=>.bad
@[simp] theorem uh{t:T}:ex P w (.for t it ss) fr=(cz P false it (kW (itv it) fr)).bind λs af=>forL (turnF P w t ss) s af:=by rw[ex];rfl
theorem HN{i x y f:Nat}:ex P w (.ja i x y f) fr=if i≠y/\x≠i/\i<fr.length/\x<fr.length then (cz P false (.seq (.v y)) (kW [y] fr)).bind λvs af=>(R.of (jE P f vs []) af).bind λk ao=>(R.of (put ao i (.val (.dct k))) ao).bind λbx _=>(R.of (iM bx x vs) bx).bind λgm _=>.ok .nx gm else .bad:=by rw[ex]
@[simp] theorem Mf:ex P w (.o8 a ss) fr=dQ (λao=>aF P a ao) (λao=>exs P w ss ao) w fr:=by rw[ex]
@[simp] theorem HQ:exs P w .nil fr=.ok .nx fr:=by rw[exs]
noncomputable def Ov(P:aM)(w:Nat)(ss:Ss):Fl->Fr->R Fl:=λp h1=>match p with
 |.nx=>exs P w ss h1
 |p=>.ok p h1
@[simp] theorem DG:exs P w (.cons st ss) fr=(ex P w st fr).bind (Ov P w ss):=by rw[exs];rfl
end
theorem mX{P:aM}{f:Nat}{vs:List V}{fr:Fr}{v:V}(h:P f (vs.map .val)=some (v,[])):cQ P f (vs.map .inr) fr=.ok v fr:=by
 have h1:∀vs:List V,bR (vs.map .inr)=[]:=λvs=>by induction vs<;>simp[bR, *]
 have h2:∀vs:List V,args fr (vs.map .inr)=some (vs.map .val):=λvs=>by induction vs<;>simp[args, *]
 simp[cQ,h1,h2,h,back]
section
variable{P:aM}{f:Nat}{fr:Fr}{a b c d v:V}
theorem cR(h:P f [.val a]=some (v,[])):cQ P f [.inr a] fr=.ok v fr:=mX (vs:=[a]) h
theorem call2(h:P f [.val a,.val b]=some (v,[])):cQ P f [.inr a,.inr b] fr=.ok v fr:=mX (vs:=[a,b]) h
theorem eO(h:P f [.val a,.val b,.val c]=some (v,[])):cQ P f [.inr a,.inr b,.inr c] fr=.ok v fr:=mX (vs:=[a,b,c]) h
end
end Pv
namespace Pv
open Ev (D bO bJ TY BI ME T E Es Eo It S Ss Fn big deep b2i rep cj dF bI aQ cut cI dX slots)
section
variable{fr:Fr}{i j:Nat}{k:Bool}{s:Sl}{v u:V}{l:List V}{o:Option Sl}
noncomputable def VQ(k:Bool):Option (Option Sl)->Option V
 |some (some (.val v))=>some v
 |some (some (.own l))=>if k then some (.lst l)else none
 |some (some (.bor l))=>if k then some (.lst l)else none
 |some (some (.ro l))=>if k then some (.lst l)else none
 |_=>none
@[simp] theorem Ow{r:R V}:src k fr (.v i) r=R.of (qG k fr i) fr:=nd rfl
noncomputable def Mg:Option (Option Sl)->Option Sl
 |some (some s)=>s.lend
 |_=>none
@[simp] theorem xS:lent fr i=Mg fr[i]?:=by unfold lent Mg;split<;>simp_all
@[simp] theorem T9:Mg (some (some (.own l)))=some (.bor l):=nd rfl
noncomputable def Mh(fr:Fr)(i:Nat)(s:Sl):Option (Option Sl)->Option Fr
 |some (some (.bor _))=>none
 |some (some (.ro _))=>none
 |_=>some (fr.set i (some s))
@[simp] theorem Mi:put fr i s=Mh fr i s fr[i]?:=by unfold put Mh;split<;>simp_all
@[simp] theorem zg{l:List Nat}{x:List V}:br (.many l) (.tup x) fr=cG l x fr:=nd rfl
@[simp] theorem zh:cG [] [] fr=some fr:=nd rfl
@[simp] theorem vQ{l:List Nat}{x:List V}:cG (i :: l) (v :: x) fr=(put fr i (.val v)).bind (cG l x):=nd rfl
noncomputable def gO(m:ME)(i:Nat)(ds:List V)(fr:Fr):Option (Option Sl)->R V
 |some (some (.own l))=>match jW m l ds with
  |some (v,l')=>.ok v (fr.set i (some (.own l')))
  |none=>.bad
 |some (some (.bor l))=>match jW m l ds with
  |some (v,l')=>.ok v (fr.set i (some (.bor l')))
  |none=>.bad
 |_=>.bad
@[simp] theorem HS{m:ME}{ds:List V}:DC m i ds fr=gO m i ds fr fr[i]?:=by unfold DC gO;split<;>simp_all<;>rfl
theorem nG{d:V}(h:l.length<100000):gO .append i [d] fr (some (some (.own l)))=.ok .aG (fr.set i (some (.own (l++[d])))):=by
 simp[gO,jW,Nat.lt_of_lt_of_le h (show 100000<=big by decide)]
theorem HU{d:V}(h:l.length<100000):gO .append i [d] fr (some (some (.bor l)))=.ok .aG (fr.set i (some (.bor (l++[d])))):=by
 simp[gO,jW,Nat.lt_of_lt_of_le h (show 100000<=big by decide)]
theorem xT{d:List V}(h:l.length+d.length<=100000):gO .extend i [.lst d] fr (some (some (.own l)))=.ok .aG (fr.set i (some (.own (l++d)))):=by
 simp[gO,jW,cy h]
theorem xU:gO .pop i [] fr (some (some (.own (l++[v]))))=.ok v (fr.set i (some (.own l))):=by
 simp[gO,jW]
theorem HV:gO .pop i [] fr (some (some (.bor (l++[v]))))=.ok v (fr.set i (some (.bor l))):=by
 simp[gO,jW]
end
noncomputable def vo(o:Option Sl):Prop:=o=none\/∃y,o=some (.val y)
theorem vo.none:vo none:=.inl rfl
theorem vo.val{v:V}:vo (some (.val v)):=.inr ⟨v,rfl⟩
theorem Mj{fr:Fr}{i:Nat}{s:Sl}{b:Option Sl}(h:vo b):Mh fr i s (some b)=some (fr.set i (some s)):=by rcases h with rfl|⟨y,rfl⟩<;>rfl
theorem dN{b:Option Sl}(h:vo b):b.map Sl.eE=b:=by rcases h with rfl|⟨y,rfl⟩<;>rfl
noncomputable def Ox(f:V->Fr->R Fl)(ds:List V):Fl->Fr->R Fl:=λp af=>match p with
 |.nx=>forL f ds af
 |.ct=>forL f ds af
 |.bk=>.ok .nx af
 |.ret x=>.ok (.ret x) af
section
variable{f:V->Fr->R Fl}{ds:List V}{d x:V}{fr:Fr}
@[simp] theorem rH:forL f (d :: ds) fr=(f d fr).bind (Ox f ds):=nd rfl
end
section
variable{a b c:E}{es:Es}{lo hi:Eo}{it:It}{l:List Nat}
end
theorem jI{α:Type}{l:List α}{i:Int}(h0:0<=i):bI l i=l[i.toNat]?:=by
 unfold bI dF;rw[if_pos h0];split
 .rfl
 .rw[List.getElem?_eq_none (by omega)];rfl
@[simp] theorem wL{α:Type}{l:List α}{n:Nat}:bI l (n:Int)=l[n]?:=by rw[jI (by omega)];simp
theorem Ml{α:Type}{l:List α}:bI l (-1:Int)=l.getLast?:=by
 unfold bI dF;cases l with
 |nil=>rfl
 |cons a l=>
  have h1:¬ (0:Int)<=-1:=by omega
  have h2:-(((a :: l).length:Nat):Int)<=-1:=by simp;omega
  rw[if_neg h1,if_pos h2,List.getLast?_eq_getElem?];simp only[Option.bind]
  congr 1
  simp;omega
noncomputable def sV:Fn:=⟨2,2,(.cons (.iff (.cmp .eq (.v 0) (.lst .nil)) (.cons (.ret (.bin .mul (.c (.int 7)) (.v 1))) .nil) .nil) (.cons (.ret (.bin .add (.ix (.v 0) (.bin .mod (.v 1) (.bi .len (.cons (.v 0) .nil)))) (.bin .mul (.c (.int 6553)) (.bin .fdiv (.v 1) (.bi .len (.cons (.v 0) .nil)))))) .nil))⟩
noncomputable def uV(c:Nat):Fn:=⟨3,4,(.cons (.set 3 (.bin .mod (.bin .add (.bin .mul (.bin .mod (.cl c (.cons (.v 0) (.cons (.v 1) .nil))) (.c (.int 2147483563))) (.c (.int 69069))) (.bin .mul (.c (.int 104723)) (.bin .add (.v 1) (.c (.int 1))))) (.c (.int 2147483563)))) (.cons (.set 3 (.bin .mod (.bin .add (.bin .mul (.v 3) (.v 3)) (.bin .fdiv (.v 3) (.c (.int 3)))) (.c (.int 2147483399)))) (.cons (.ret (.bin .mod (.bin .fdiv (.bin .mod (.bin .add (.bin .mul (.v 3) (.v 3)) (.bin .fdiv (.v 3) (.c (.int 7)))) (.c (.int 2147483647))) (.c (.int 11))) (.v 2))) .nil)))⟩
noncomputable def sW(ns:List Int)(k:Int):Int:=if ns=[]then 7*k else (ns[(k % ns.length).toNat]?.getD 0)+6553*(k / ns.length)
noncomputable def cF(ns:List Int)(k many:Int):Int:=
 let c:=(sW ns k % 2147483563*69069+104723*(k+1)) % 2147483563
 let c:=(c*c+c / 3) % 2147483399
 (c*c+c / 7) % 2147483647 / 11 % many
theorem ir(ns:List Int)(k:Int){many:Int}(h:0<many):0<=cF ns k many:=Int.emod_nonneg _ (by omega)
theorem iu(ns:List Int)(k:Int){many:Int}(h:0<many):cF ns k many<many:=Int.emod_lt_of_pos _ h
noncomputable def jJ(ns:List Int):V:=.bL (ns.map V.int)
theorem HW(ns:List Int):cS (eT (18+1)) (ns.map V.int) []=some (decide (ns=[])):=by cases ns<;>simp
end Pv
namespace Pv
open Ev (D bO bJ TY BI ME T E Es Eo It S Ss Fn big deep b2i rep cj dF bI aQ cut cI dX slots)
section
variable{P:aM}{w:Nat}{fr af ao bx gm:Fr}{k b:Bool}{a e c:E}{es:Es}{ss sa sb:Ss}{st:S}{lo hi:Eo}{it:It}{v x y z:V}{vs:List V}{i:Nat}{l:List V}{Q:Fl->Fr->Prop}
theorem bq{d:D}(h:ofD d=some v):ev P k (.c d) fr=.ok v fr:=by rw[SM,h];rfl
theorem ay(h:mL k fr i=some v):ev P k (.v i) fr=.ok v fr:=by rw[SN,h];rfl
theorem nH(h:bX P false es fr=.ok vs af)(h2:jD vs=some v):ev P k (.tup es) fr=.ok v af:=by rw[LR,h,ak,h2];rfl
theorem jl(h:bX P false es fr=.ok vs af)(h2:dz vs=some v):ev P k (.lst es) fr=.ok v af:=by rw[LS,h,ak,h2];rfl
theorem bF{o:bO}(h:ev P (kf a (bE e)) a fr=.ok x af)(h2:ev P true e af=.ok y ao)(h3:bK o x y=some v):ev P k (.bin o a e) fr=.ok v ao:=by rw[LU,h,ak,h2,ak,h3];rfl
theorem bM{o:bJ}(h:ev P (kf a (bE e)) a fr=.ok x af)(h2:ev P true e af=.ok y ao)(h3:cop o x y=some b):ev P k (.cmp o a e) fr=.ok (.bl b) ao:=by rw[LV,h,ak,h2,ak,h3];rfl
theorem SQ(h:ev P true a fr=.ok (.bl b) af):ev P k (.nt a) fr=.ok (.bl (!b)) af:=by rw[Oj,h];rfl
theorem Oz{j:Int}(h:ev P true a fr=.ok (.int j) af):ev P k (.neg a) fr=.ok (.int (-j)) af:=by rw[LW,h];rfl
theorem OA(h:ev P true a fr=.ok (.bl true) af)(h2:ev P k e af=.ok v ao):ev P k (.an a e) fr=.ok v ao:=by rw[Ol,h,ak,LX];exact h2
theorem zj(h:aF P a fr=.ok b af)(h2:b=true->ev P k e af=.ok v ao)(h3:b=false->ev P k c af=.ok v ao):ev P k (.jT a e c) fr=.ok v ao:=by
 rw[LY,h,ak];cases b with
 |true=>exact h2 rfl
 |false=>exact h3 rfl
theorem eF(h:ev P (kf a (bE e)) a fr=.ok x af)(h2:ev P true e af=.ok y ao)(h3:ee x y=some v):ev P k (.ix a e) fr=.ok v ao:=by rw[Om,h,ak,h2,ak,h3];rfl
theorem OB{z:V}(h:ev P (kf a (bE e++bE c)) a fr=.ok x af)(h2:ev P (kf e (bE c)) e af=.ok y ao)(h3:ev P false c ao=.ok z bx)(h4:uD x y z=some v):ev P k (.lT a e c) fr=.ok v bx:=by rw[LZ,h,ak,h2,ak,h3,ak,h4];rfl
theorem zk{p q:Option Int}(h:ev P (kf a (ki lo++ki hi)) a fr=.ok x af)(h2:fL P lo af=.ok p ao)(h3:fL P hi ao=.ok q bx)(h4:fP x p q=some v):ev P k (.sl a lo hi) fr=.ok v bx:=by rw[Oo,h,ak,h2,ak,h3,ak,h4];rfl
theorem Mm(h:ev P true a fr=.ok x af)(h2:kD x=some v):ev P k (.rv a) fr=.ok v af:=by rw[Oq,h,ak,h2];rfl
theorem bC{f:Nat}{as:List (Nat ⊕ V)}(h:fM P es fr=.ok as af)(h2:cQ P f as af=.ok v ao):ev P k (.cl f es) fr=.ok v ao:=by rw[Ot,h,ak];exact h2
theorem eU{g:BI}(h:bX P true es fr=.ok vs af)(h2:cC g vs=some v):ev P k (.bi g es) fr=.ok v af:=by rw[Ou,h,ak,h2];rfl
theorem Ft{m:ME}(hm:iL m=true)(hl:(lent fr i).isSome=true)(h:bX P (Bk m) es fr=.ok vs af)(h2:gO m i vs af af[i]?=.ok v ao):ev P k (.me m (.v i) es) fr=.ok v ao:=by
 rw[L0 hm,if_pos hl,h,ak,HS];exact h2
theorem zm{m:ME}(hm:iL m=false)(h:ev P (kf a (fQ es)) a fr=.ok x af)(h2:bX P true es af=.ok vs ao)(h3:eZ m x vs=some v):ev P k (.me m a es) fr=.ok v ao:=by rw[L1 hm,h,ak,h2,ak,h3];rfl
theorem fE{t:T}{cond:Eo}(h:cz P true it fr=.ok vs af)(hu:undef t af=true)(h2:cJ (lD P a t cond af) vs=some l)(h3:dz l=some v):ev P k (.comp a t it cond) fr=.ok v af:=by
 rw[qB,h,ak,if_pos hu,h2];show R.of (dz l) af=_;rw[h3];rfl
theorem zo(h:cz P true it fr=.ok vs af)(h2:dz vs=some v):ev P k (.je it) fr=.ok v af:=by rw[L3,h,ak,h2];rfl
theorem BH{kvs:List (D×D)}(h:ev P true a fr=.ok x af)(h2:eL x kvs=some v):ev P k (.iZ kvs a) fr=.ok v af:=by rw[HD,h,ak,h2];rfl
theorem pR(h:ev P true a fr=.ok x af)(h2:toT x=some v):ev P k (.iz a) fr=.ok v af:=by rw[L4,h,ak,h2];rfl
theorem aZ:bX P k .nil fr=.ok [] fr:=HE
theorem aV(h:ev P (k&&kf a (fQ es)) a fr=.ok v af)(h2:bX P k es af=.ok vs ao):bX P k (.cons a es) fr=.ok (v :: vs) ao:=by rw[DE,h,ak,h2];rfl
theorem aN:fM P .nil fr=.ok [] fr:=HF
theorem aK{as:List (Nat ⊕ V)}(hi:kF fr a=none)(h:ev P false a fr=.ok v af)(h2:fM P es af=.ok as ao):fM P (.cons a es) fr=.ok (.inr v :: as) ao:=by rw[uU,hi,zf,h,ak,h2];rfl
theorem Mn{as:List (Nat ⊕ V)}(hi:kF fr a=some i)(h2:fM P es fr=.ok as ao):fM P (.cons a es) fr=.ok (.inl i :: as) ao:=by rw[uU,hi,ze,h2];rfl
theorem sX:fL P .no fr=.ok none fr:=L5
theorem pT{j:Int}(h:ev P true a fr=.ok (.int j) af):fL P (.yes a) fr=.ok (some j) af:=by rw[HG,h];rfl
theorem jK(h:aF P a fr=.ok false af):aF P (.an a e) fr=.ok false af:=by rw[BF,h];rfl
theorem fF{b2:Bool}(h:aF P a fr=.ok true af)(h2:aF P e af=.ok b2 ao):aF P (.an a e) fr=.ok b2 ao:=by rw[BF,h];exact h2
theorem BJ(h:aF P a fr=.ok true af):aF P (.orr a e) fr=.ok true af:=by rw[xR,h];rfl
theorem jL{b2:Bool}(h:aF P a fr=.ok false af)(h2:aF P e af=.ok b2 ao):aF P (.orr a e) fr=.ok b2 ao:=by rw[xR,h];exact h2
theorem nJ(h:aF P a fr=.ok b af):aF P (.nt a) fr=.ok (!b) af:=by rw[L7,h];rfl
noncomputable def plainT:E->Bool
 |.an _ _=>false
 |.orr _ _=>false
 |.nt _=>false
 |_=>true
theorem aH(hp:plainT a=true)(h:ev P true a fr=.ok x af)(h2:truthy x=b):aF P a fr=.ok b af:=by
 have:aF P a fr=(ev P true a fr).bind L8:=by
  cases a<;>first | (cases hp;done) | (rw[aF];rfl;all_goals (intros;contradiction))
 rw[this,h,ak,HJ,h2]
theorem di(h:src k fr a (ev P k a fr)=.ok x af)(h2:fk x=some vs):cz P k (.seq a) fr=.ok vs af:=by rw[HK,h,ak,h2];rfl
theorem dO(h:qG k fr i=some v){r:R V}:src k fr (.v i) r=.ok v fr:=by rw[Ow,h];rfl
theorem mY(h:bX P true es fr=.ok vs af)(h2:fy vs=some l):cz P k (.gk es) fr=.ok l af:=by rw[HL,h,ak,h2];rfl
theorem BK(h:ev P true a fr=.ok x af)(h2:yZ x=some vs):cz P k (.rev a) fr=.ok vs.reverse af:=by rw[HM,h,ak,h2];rfl
theorem bG(h:ev P false a fr=.ok v af)(hn:isNew a=false)(hp:put af i (.val v)=some ao)(q:Q .nx ao):Wp (ex P w (.set i a) fr) Q:=by
 rw[BG,h,ak,hn,hp];exact⟨_,_,rfl,q⟩
theorem jM(h:ev P false a fr=.ok (.lst l) af)(hn:isNew a=true)(hp:put af i (.own l)=some ao)(q:Q .nx ao):Wp (ex P w (.set i a) fr) Q:=by
 rw[BG,h,ak,hn,if_pos rfl,DF,hp];exact⟨_,_,rfl,q⟩
theorem gv(h:ev P true a fr=.ok v af)(q:Q .nx af):Wp (ex P w (.exp a) fr) Q:=by rw[Mb,h];exact⟨_,_,rfl,q⟩
theorem bT(h:ev P false a (fZ fr)=.ok v af)(q:Q (.ret v) af):Wp (ex P w (.ret a) fr) Q:=by rw[Mc,h];exact⟨_,_,rfl,q⟩
theorem aP(h:aF P a fr=.ok b af)(h2:b=true->Wp (exs P w sa af) Q)(h3:b=false->Wp (exs P w sb af) Q):Wp (ex P w (.iff a sa sb) fr) Q:=by
 rw[Me,h,ak];cases b with
 |true=>exact h2 rfl
 |false=>exact h3 rfl
theorem aB(q:Q .nx fr):Wp (exs P w .nil fr) Q:=by rw[HQ];exact⟨_,_,rfl,q⟩
noncomputable def nx(P:aM)(w:Nat)(ss:Ss)(Q:Fl->Fr->Prop):Fl->Fr->Prop
 |.nx,fr=>Wp (exs P w ss fr) Q
 |g,fr=>Q g fr
theorem ai(q:Wp (ex P w st fr) (nx P w ss Q)):Wp (exs P w (.cons st ss) fr) Q:=by
 rw[DG,wp_bind];refine q.mono λg af z=>?_;cases g with
 |nx=>exact z
 |bk=>exact⟨_,_,rfl,z⟩
 |ct=>exact⟨_,_,rfl,z⟩
 |ret v=>exact⟨_,_,rfl,z⟩
theorem jX{t:T}(h:cz P false it (kW (itv it) fr)=.ok vs af)(q:Wp (forL (turnF P w t ss) vs af) Q):Wp (ex P w (.for t it ss) fr) Q:=by rw[uh,h,ak];exact q
theorem BL{i' x' y' f:Nat}{K:List (Int×List Nat)}(hc:i'≠y'/\x'≠i'/\i'<fr.length/\x'<fr.length)(h:cz P false (.seq (.v y')) (kW [y'] fr)=.ok vs af)(hk:jE P f vs []=some K)(h2:put af i' (.val (.dct K))=some ao)(h3:iM ao x' vs=some bx)(q:Q .nx bx):Wp (ex P w (.ja i' x' y' f) fr) Q:=by
 rw[HN,if_pos hc,h,ak,hk];show Wp ((R.of (put af i' (.val (.dct K))) af).bind _) Q;rw[h2];show Wp ((R.of (iM ao x' vs) ao).bind _) Q;rw[h3];exact⟨_,_,rfl,q⟩
theorem OC(q:Wp (dQ (λao=>aF P a ao) (λao=>exs P w ss ao) w fr) Q):Wp (ex P w (.o8 a ss) fr) Q:=by rw[Mf];exact q
theorem eg{t:T}{d:V}(hb:br t d fr=some af)(q:Wp (exs P w ss af) Q):Wp (turnF P w t ss d fr) Q:=by unfold turnF;rw[hb];exact q
theorem iU{t:T}{d:V}(hb:br t d (r8 fr)=some af)(h:ev P false a af=.ok v ao):lD P a t .no fr d=some (some v):=by
 unfold lD;rw[hb];dsimp only;rw[L6];dsimp only;rw[h];rfl
theorem nK{t:T}{d:V}(hb:br t d (r8 fr)=some af)(h:aF P c af=.ok b ao)(h2:b=true->ev P false a af=.ok v bx):lD P a t (.yes c) fr d=some (if b then some v else none):=by
 unfold lD;rw[hb];dsimp only;rw[HH,h];dsimp only;cases b with
 |true=>rw[h2 rfl];rfl
 |false=>rfl
theorem zp{p q:List Nat}:cop .eq (.str p) (.str q)=some (decide (p=q)):=qL
theorem iN{p q:List Nat}:cop .ne (.str p) (.str q)=some (!decide (p=q)):=by rw[pO,qL];rfl
theorem Mp{p q:Int}:cop .eq (.int p) (.int q)=some (decide (p=q)):=xK
theorem zq{p q:Int}:cop .ne (.int p) (.int q)=some (!decide (p=q)):=by rw[pO,xK];rfl
theorem Mq{p q:Int}:cop .lt (.int p) (.int q)=some (decide (p<q)):=rfl
theorem DH{p q:Int}:cop .gt (.int p) (.int q)=some (decide (q<p)):=rfl
theorem lE{p q:Int}(h:cj p q=true):bK .mul (.int p) (.int q)=some (.int (p*q)):=by rw[oS,if_pos h]
theorem nL{p q:Int}(h:0<q):bK .mod (.int p) (.int q)=some (.int (p % q)):=by rw[Hw,if_pos h]
theorem sY{p q:Int}(h:0<q)(h2:q<1073741824):bK .fdiv (.int p) (.int q)=some (.int (p / q)):=by rw[DB,if_pos ⟨h,h2⟩]
end
theorem gp{fr:Fr}{i:Nat}{s:Sl}{o:Option Sl}(e:fr[i]?=some o)(h:vo o):put fr i s=some (fr.set i (some s)):=by rw[Mi,e,Mj h]
theorem nO{fr:Fr}{i j:Nat}{u v:V}{a b:Option Sl}(ea:fr[i]?=some a)(ha:vo a)(eb:(fr.set i (some (.val u)))[j]?=some b)(hb:vo b):br (.many [i,j]) (.tup [u,v]) fr=some ((fr.set i (some (.val u))).set j (some (.val v))):=by
 simp only[zg,vQ,zh,gp ea ha,Option.bind,gp eb hb]
theorem bind1{fr:Fr}{i:Nat}{v:V}{a:Option Sl}(ea:fr[i]?=some a)(ha:vo a):br (.one i) v fr=some (fr.set i (some (.val v))):=gp ea ha
end Pv
local macro_rules|`(tactic|array_get_dec)=>`(tactic|first
 |exact Pv.aZ|exact Pv.aN|exact Pv.sX
 | (apply Pv.ay;rfl) | (apply Pv.bq;rfl)|apply Pv.bF|apply Pv.bM|apply Pv.nH|apply Pv.jl|apply Pv.eF|apply Pv.zk|apply Pv.bC|apply Pv.eU
 |apply Pv.SQ|apply Pv.Oz|apply Pv.pR|apply Pv.zo|apply Pv.Mm | (apply Pv.Ft rfl rfl) | (apply Pv.zm rfl)|apply Pv.BH
 |apply Pv.aV | (apply Pv.aK rfl) | (apply Pv.Mn rfl)|apply Pv.pT|apply Pv.nJ|apply Pv.aH rfl
 |exact Pv.Oh|exact Pv.sS|exact Pv.za|exact Pv.Oi|exact Pv.lg|exact Pv.sR|exact Pv.sU
 | (with_reducible assumption)|exact Pv.cT|exact Pv.DA|exact Pv.zp|exact Pv.iN|exact Pv.Mp|exact Pv.zq|exact Pv.Mq  | exact Pv.DH
 | (show Pv.truthy _=_;rfl) | (show Pv.ee _ _=some _;rfl) | (show Pv.toT _=some _;rfl) | (show Pv.eL _ _=some _;rfl) | (show Pv.fk _=some _;rfl)|assumption)
namespace Pv
open Ev (D bO bJ TY BI ME T E Es Eo It S Ss Fn big deep b2i rep cj dF bI aQ cut cI dX slots)
theorem Mr(a b:Int):cj (a % 2147483563) b=true:=by have h1:=Int.emod_nonneg a (b:=2147483563) (by decide);have h2:=Int.emod_lt_of_pos a (b:=2147483563) (by decide);simp[cj];omega
theorem SS(a b:Int):cj (a % 2147483399) b=true:=by have h1:=Int.emod_nonneg a (b:=2147483399) (by decide);have h2:=Int.emod_lt_of_pos a (b:=2147483399) (by decide);simp[cj];omega
theorem Ms{l:List V}{j:Int}{v:V}(h:bI l j=some v):ee (.bL l) (.int j)=some v:=h
theorem Mt{l m:List V}:cop .eq (.bL l) (.lst m)=cS (eT (18+1)) l m:=rfl
theorem DI{F:List Fn}{w n c:Nat}(hc:F[c]?=some sV){ns:List Int}(hn:ns.length<=63)(k:Int):run F w (n+1) c [.val (jJ ns),.val (.int k)]=some (.int (sW ns k),[]):=by
 refine b8 hc rfl (ai (aP (b:=decide (ns=[])) (aH rfl (bM (ay rfl) (jl aZ lg) (Mt.trans (HW ns))) rfl) (λh=>?_) λh=>aB ?_))
 .have h0:=of_decide_eq_true h;exact ai (bT (bF (bq rfl) (ay rfl) (lE rfl)) ⟨by rw[sW,if_pos h0],rfl⟩)
 .have h0:=of_decide_eq_false h;have hlen:0<ns.length:=List.length_pos_iff.mpr h0;have Qt:(0:Int)<(ns.map V.int).length:=by rw[List.length_map];exact Int.natCast_pos.mpr hlen
  have h30:((ns.map V.int).length:Int)<1073741824:=by rw[List.length_map];omega
  have hm0:=Int.emod_nonneg k (b:=(ns.length:Int)) (by omega);have hlt:(k % (ns.length:Int)).toNat<ns.length:=by have:=Int.emod_lt_of_pos k (b:=(ns.length:Int)) (by omega);omega
  have hx:bI (ns.map V.int) (k % ((ns.map V.int).length:Int))=some (.int (ns[(k % (ns.length:Int)).toNat]?.getD 0)):=by
   rw[List.length_map,jI hm0,List.getElem?_map,List.getElem?_eq_getElem hlt];rfl
  refine ai (bT (bF (eF (ay rfl) (bF (ay rfl) (eU (aV (ay rfl) aZ) xP) (nL Qt)) (Ms hx)) (bF (bq rfl) (bF (ay rfl) (eU (aV (ay rfl) aZ) xP) (sY Qt h30)) (lE rfl)) cT) ⟨?_,rfl⟩);rw[sW,if_neg h0,List.length_map]
theorem ek{F:List Fn}{w n c dr:Nat}(hc:F[c]?=some sV)(hd:F[dr]?=some (uV c)){ns:List Int}(hn:ns.length<=63)(k:Int){many:Int}(hm:0<many):run F w (n+2) dr [.val (jJ ns),.val (.int k),.val (.int many)]=some (.int (cF ns k many),[]):=by
 refine b8 hd rfl (ai (bG (bF (bF (bF (bF (bC (aK rfl (ay rfl) (aK rfl (ay rfl) aN)) (call2 (DI hc hn k))) (bq rfl) (nL (by decide))) (bq rfl) (lE (Mr _ _))) (bF (bq rfl) (bF (ay rfl) (bq rfl) cT) (lE rfl)) cT) (bq rfl) (nL (by decide))) rfl rfl ?_));refine ai (bG (bF (bF (bF (ay rfl) (ay rfl) (lE (Mr _ _))) (bF (ay rfl) (bq rfl) (sY (by decide) (by decide))) cT) (bq rfl) (nL (by decide))) rfl rfl ?_);exact ai (bT (bF (bF (bF (bF (bF (ay rfl) (ay rfl) (lE (SS _ _))) (bF (ay rfl) (bq rfl) (sY (by decide) (by decide))) cT) (bq rfl) (nL (by decide))) (bq rfl) (sY (by decide) (by decide))) (ay rfl) (nL hm)) ⟨rfl,rfl⟩)
noncomputable def fText(dr:Nat):Fn:=⟨3,4,(.cons (.ret (.me .join (.c (.str [])) (.cons (.comp (.ix (.c (.str [97,98,99,32])) (.cl dr (.cons (.v 0) (.cons (.bin .add (.bin .add (.v 1) (.c (.int 1))) (.v 3)) (.cons (.c (.int 4)) .nil))))) (.one 3) (.gk (.cons (.cl dr (.cons (.v 0) (.cons (.v 1) (.cons (.bin .add (.v 2) (.c (.int 1))) .nil)))) .nil)) .no) .nil))) .nil)⟩
noncomputable def Fv(dr:Nat):S:=.iff (.cmp .eq (.cl dr (.cons (.v 0) (.cons (.bin .add (.v 1) (.bin .mul (.c (.int 4)) (.v 4))) (.cons (.c (.int 4)) .nil)))) (.c (.int 0))) (.cons (.set 5 (.bin .mul (.ix (.c (.str [97,98,122])) (.cl dr (.cons (.v 0) (.cons (.bin .add (.bin .add (.v 1) (.bin .mul (.c (.int 4)) (.v 4))) (.c (.int 1))) (.cons (.c (.int 3)) .nil))))) (.bin .add (.c (.int 1)) (.cl dr (.cons (.v 0) (.cons (.bin .add (.bin .add (.v 1) (.bin .mul (.c (.int 4)) (.v 4))) (.c (.int 2))) (.cons (.c (.int 2)) .nil))))))) (.cons (.set 3 (.bin .add (.v 3) (.tup (.cons (.tup (.cons (.c (.str [112,117,116])) (.cons (.v 5) .nil))) .nil)))) .nil)) .nil
noncomputable def Fx(dr:Nat):S:=.iff (.cmp .lt (.v 4) (.bi .len (.cons (.v 2) .nil))) (.cons (.set 6 (.cmp .gt (.cl dr (.cons (.v 0) (.cons (.bin .add (.bin .add (.v 1) (.bin .mul (.c (.int 4)) (.v 4))) (.c (.int 3))) (.cons (.c (.int 3)) .nil)))) (.c (.int 0)))) (.cons (.set 3 (.bin .add (.v 3) (.tup (.cons (.jT (.v 6) (.tup (.cons (.c (.str [107,101,101,112])) (.cons (.c (.int 1)) .nil))) (.tup (.cons (.c (.str [100,114,111,112])) (.cons (.ix (.v 2) (.v 4)) .nil)))) .nil)))) .nil)) .nil
noncomputable def HX(dr:Nat):Fn:=⟨3,7,(.cons (.set 3 (.tup .nil)) (.cons (.for (.one 4) (.gk (.cons (.bin .add (.bi .len (.cons (.v 2) .nil)) (.c (.int 1))) .nil)) (.cons (Fv dr) (.cons (Fx dr) .nil))) (.cons (.ret (.v 3)) .nil)))⟩
inductive Pt where
 |keep (n:Nat)|put (s:List Nat)|drop (s:List Nat)
deriving DecidableEq
noncomputable def dY:List Nat:=[107,101,101,112]
noncomputable def mZ:List Nat:=[112,117,116]
noncomputable def jY:List Nat:=[100,114,111,112]
noncomputable def Pt.v:Pt->V
 |.keep n=>.tup [.str dY,.int n]
 |.put s=>.tup [.str mZ,.str s]
 |.drop s=>.tup [.str jY,.str s]
noncomputable def av(c:List Pt):V:=.tup (c.map Pt.v)
noncomputable def txt(ns:List Int)(at_ most:Int):List Nat:=(List.range (cF ns at_ (most+1)).toNat).map λ(k:Nat)=>[97,98,99,32].getD (cF ns (at_+1+k) 4).toNat 0
theorem HY(ns:List Int)(at_:Int){most:Int}(h:0<=most):(txt ns at_ most).length<=most.toNat:=by
 unfold txt;have h1:=iu ns at_ (many:=most+1) (by omega);have h2:=ir ns at_ (many:=most+1) (by omega);simp;omega
theorem getD_at{α:Type}{l:List α}{i:Int}(h0:0<=i)(h1:i<l.length)(d:α):bI l i=some (l.getD i.toNat d):=by
 have:i.toNat<l.length:=by omega
 rw[jI h0];simp[List.getD,List.getElem?_eq_getElem this]
theorem oq{α β:Type}(l:List α)(f:α->β):(l.map λx=>[f x]).flatten=l.map f:=by induction l<;>simp[*]
theorem BN(lo:Int)(n:Nat):range lo n=(List.range n).map λ(i:Nat)=>V.int (lo+i):=rfl
section
variable{F:List Fn}{w n c dr t:Nat}(hc:F[c]?=some sV)(hd:F[dr]?=some (uV c)){ns:List Int}(hn:ns.length<=63)
include hc hd hn
theorem DJ(ht:F[t]?=some (fText dr))(k most:Int)(hm:0<=most)(hm2:most<=1000):run F w (n+3) t [.val (jJ ns),.val (.int k),.val (.int most)]=some (.str (txt ns k most),[]):=by
 have b0:=ir ns k (many:=most+1) (by omega);have b1:=iu ns k (many:=most+1) (by omega);have d0:=λfr=>eO (fr:=fr) (ek (w:=w) (n:=n) hc hd hn k (many:=most+1) (by omega));have OD:cJ (lD (run F w (n+2)) (.ix (.c (.str [97,98,99,32])) (.cl dr (.cons (.v 0) (.cons (.bin .add (.bin .add (.v 1) (.c (.int 1))) (.v 3)) (.cons (.c (.int 4)) .nil))))) (.one 3) .no [some (.val (jJ ns)),some (.val (.int k)),some (.val (.int most)),none]) (range 0 (cF ns k (most+1)).toNat)=some (((List.range (cF ns k (most+1)).toNat).map λ(j:Nat)=>[[97,98,99,32].getD (cF ns (k+1+j) 4).toNat 0]).map V.str):=by
  rw[BN,List.map_map];refine e8 _ _ _ λj _=>?_;have d1:=λfr=>eO (fr:=fr) (ek (w:=w) (n:=n) hc hd hn (k+1+j) (many:=4) (by decide));have ix:ee (.str [97,98,99,32]) (.int (cF ns (k+1+j) 4))=some (.str [[97,98,99,32].getD (cF ns (k+1+j) 4).toNat 0]):=by
   rw[nE,getD_at (l:=[97,98,99,32]) (ir ns (k+1+j) (many:=4) (by decide)) (iu ns (k+1+j) (many:=4) (by decide)) 0];rfl
  rw[show(0:Int)+(j:Int)=j from Int.zero_add _];exact iU rfl (by (repeat (first|array_get_dec|exact d1 _)))
 have hj:=zc (l:=(List.range (cF ns k (most+1)).toNat).map λ(j:Nat)=>[[97,98,99,32].getD (cF ns (k+1+j) 4).toNat 0]) (by rw[oq];simp;omega);rw[oq]at hj;have U9:dz (((List.range (cF ns k (most+1)).toNat).map λ(j:Nat)=>[[97,98,99,32].getD (cF ns (k+1+j) 4).toNat 0]).map V.str)=some (.lst _):=dR (cy (by simp;omega));have rg:=LQ b0 (show cF ns k (most+1)<=100000 by omega);refine b8 ht rfl (ai (bT (zm rfl (bq rfl) (aV (fE (mY (by (repeat (first|array_get_dec|exact d0 _))) rg) rfl OD U9) aZ) hj) ⟨rfl,rfl⟩))
end
noncomputable def jm(ns:List Int)(at_:Int)(s:List Nat)(k:Nat):List Pt:=
 (if cF ns (at_+4*k) 4=0 then [.put (rep (1+cF ns (at_+4*k+2) 2).toNat [[97,98,122].getD (cF ns (at_+4*k+1) 3).toNat 0])]else [])++
 (match s[k]? with
 |some c=>[if 0<cF ns (at_+4*k+3) 3 then .keep 1 else .drop [c]]
 |none=>[])
noncomputable def fC(ns:List Int)(at_:Int)(s:List Nat)(k:Nat):List Pt:=(List.range k).flatMap (jm ns at_ s)
noncomputable def chg(ns:List Int)(at_:Int)(s:List Nat):List Pt:=fC ns at_ s (s.length+1)
theorem BO(ns:List Int)(at_:Int)(s:List Nat)(k:Nat):(jm ns at_ s k).length<=2:=by
 unfold jm;split<;>split<;>simp
theorem jq(ns:List Int)(at_:Int)(s:List Nat)(k:Nat):fC ns at_ s (k+1)=fC ns at_ s k++jm ns at_ s k:=by simp[fC,List.range_succ]
theorem m5(ns:List Int)(at_:Int)(s:List Nat):∀k,(fC ns at_ s k).length<=2*k
 |0=>by simp[fC]
 |k+1=>by
  have h1:=BO ns at_ s k;have h2:=m5 ns at_ s k;rw[jq,List.length_append];omega
theorem Mu(i:Int):cj 4 i=true:=by simp[cj]
theorem zu{a b:List Pt}(h:a.length+b.length<=100000):bK .add (av a) (av b)=some (av (a++b)):=by
 simp only[av];rw[Dz (by simpa using h)];simp
theorem zv{j:Int}{n:Nat}(h:n<=100000)(e:j=n):fy [.int j]=some (range 0 n):=by
 subst e;rw[LQ (by omega) (by omega)];rfl
theorem HZ{a:List Pt}{s:List Nat}(h:a.length<100000):bK .add (av a) (.tup [.tup [.str [112,117,116],.str s]])=some (av (a++[.put s])):=zu (a:=a) (b:=[.put s]) (by simp;omega)
theorem DK{a:List Pt}{s:List Nat}(h:a.length<100000):bK .add (av a) (.tup [.tup [.str [100,114,111,112],.str s]])=some (av (a++[.drop s])):=zu (a:=a) (b:=[.drop s]) (by simp;omega)
theorem DL{a:List Pt}(h:a.length<100000):bK .add (av a) (.tup [.tup [.str [107,101,101,112],.int 1]])=some (av (a++[.keep 1])):=zu (a:=a) (b:=[.keep 1]) (by simp;omega)
section
variable{F:List Fn}{w n c dr t:Nat}(hc:F[c]?=some sV)(hd:F[dr]?=some (uV c)){ns:List Int}(hn:ns.length<=63)
include hc hd hn
theorem DM(k:Int)(x:V)(fd:List Pt)(j:Nat)(u v:Option Sl)(hu:vo u)(hfd:fd.length<=10000) :
  Wp (ex (run F w (n+2)) w (Fv dr) [some (.val (jJ ns)),some (.val (.int k)),some (.val x),some (.val (av fd)),some (.val (.int j)),u,v]) λg fr=>g=.nx/\∃b,vo b/\fr=[some (.val (jJ ns)),some (.val (.int k)),some (.val x),some (.val (av (fd++if cF ns (k+4*j) 4=0 then [.put (rep (1+cF ns (k+4*j+2) 2).toNat [[97,98,122].getD (cF ns (k+4*j+1) 3).toNat 0])]else []))),some (.val (.int j)),b,v]:=by
 have d1:=λfr=>eO (fr:=fr) (ek (w:=w) (n:=n) hc hd hn (k+4*j) (many:=4) (by decide));have m4:bK .mul (.int 4) (.int j)=some (.int (4*j)):=by rw[oS,Mu];rfl
 refine aP (by (repeat (first|array_get_dec|exact d1 _))) (λh=>?_) λh=>?_
 .have h0:=of_decide_eq_true h;have d2:=λfr=>eO (fr:=fr) (ek (w:=w) (n:=n) hc hd hn (k+4*j+1) (many:=3) (by decide));have d3:=λfr=>eO (fr:=fr) (ek (w:=w) (n:=n) hc hd hn (k+4*j+2) (many:=2) (by decide));have c2:=ir ns (k+4*j+2) (many:=2) (by decide);have c3:=iu ns (k+4*j+2) (many:=2) (by decide);have ix:ee (.str [97,98,122]) (.int (cF ns (k+4*j+1) 3))=some (.str [[97,98,122].getD (cF ns (k+4*j+1) 3).toNat 0]):=by
   rw[nE,getD_at (l:=[97,98,122]) (ir ns (k+4*j+1) (many:=3) (by decide)) (iu ns (k+4*j+1) (many:=3) (by decide)) 0];rfl
  have ml:=oU (j:=1+cF ns (k+4*j+2) 2) (a:=[[97,98,122].getD (cF ns (k+4*j+1) 3).toNat 0]) (by omega) (by omega) (by simp);have ad:=HZ (a:=fd) (s:=rep (1+cF ns (k+4*j+2) 2).toNat [[97,98,122].getD (cF ns (k+4*j+1) 3).toNat 0]) (by omega);refine ai (bG (by (repeat (first|array_get_dec|exact d2 _|exact d3 _))) rfl (gp rfl hu) ?_);refine ai (bG (by repeat array_get_dec) rfl rfl (aB ?_));rw[if_pos h0];exact⟨rfl,_,.val,rfl⟩
 .have h0:=of_decide_eq_false h;rw[if_neg h0,List.append_nil];exact aB ⟨rfl,u,hu,rfl⟩
theorem DN(k:Int)(x:List Nat)(hx:x.length<=1000)(fd:List Pt)(j:Nat)(u v:Option Sl)(hv:vo v)(hfd:fd.length<=10000) :
  Wp (ex (run F w (n+2)) w (Fx dr) [some (.val (jJ ns)),some (.val (.int k)),some (.val (.str x)),some (.val (av fd)),some (.val (.int j)),u,v]) λg fr=>g=.nx/\∃b,vo b/\fr=[some (.val (jJ ns)),some (.val (.int k)),some (.val (.str x)),some (.val (av (fd++match x[j]? with
     |some c=>[if 0<cF ns (k+4*j+3) 3 then .keep 1 else .drop [c]]
     |none=>[]))),some (.val (.int j)),u,b]:=by
 have ln:cC .len [.str x]=some (.int (x.length:Nat)):=len_str (by omega);refine aP (by repeat array_get_dec) (λh=>?_) λh=>?_
 .have hlt:j<x.length:=by have:=of_decide_eq_true h;omega
  have d1:=λfr=>eO (fr:=fr) (ek (w:=w) (n:=n) hc hd hn (k+4*j+3) (many:=3) (by decide));have m4:bK .mul (.int 4) (.int j)=some (.int (4*j)):=by rw[oS,Mu];rfl
  have hg:x[j]?=some x[j]:=List.getElem?_eq_getElem hlt;have ix:ee (.str x) (.int j)=some (.str [x[j]]):=by rw[nE,wL,hg];rfl
  rw[hg];refine ai (bG (by (repeat (first|array_get_dec|exact d1 _))) rfl (gp rfl hv) ?_);by_cases hk:0<cF ns (k+4*j+3) 3
  .have ad:=DL (a:=fd) (by omega);have ht:truthy (.bl (decide (0<cF ns (k+4*j+3) 3)))=true:=decide_eq_true hk;refine ai (bG (bF (ay rfl) (nH (aV (zj (b:=true) (aH rfl (ay rfl) ht) (λ_=>by repeat array_get_dec) λh=>absurd h (by decide)) aZ) sS) ad) rfl rfl (aB ?_));refine⟨rfl,some (.val (.bl (decide (0<cF ns (k+4*j+3) 3)))),.val,?_⟩;simp only[if_pos hk];rfl
  .have ad:=DK (a:=fd) (s:=[x[j]]) (by omega);have ht:truthy (.bl (decide (0<cF ns (k+4*j+3) 3)))=false:=decide_eq_false hk;refine ai (bG (bF (ay rfl) (nH (aV (zj (b:=false) (aH rfl (ay rfl) ht) (λh=>absurd h (by decide)) λ_=>by repeat array_get_dec) aZ) sS) ad) rfl rfl (aB ?_));refine⟨rfl,some (.val (.bl (decide (0<cF ns (k+4*j+3) 3)))),.val,?_⟩;simp only[if_neg hk];rfl
 .have hlt:¬ j<x.length:=by have:=of_decide_eq_false h;omega
  rw[List.getElem?_eq_none (by omega),List.append_nil];exact aB ⟨rfl,v,hv,rfl⟩
theorem zw(ht:F[t]?=some (HX dr))(k:Int)(x:List Nat)(hx:x.length<=1000):run F w (n+3) t [.val (jJ ns),.val (.int k),.val (.str x)]=some (av (chg ns k x),[]):=by
 refine b8 ht rfl ?_;have ln:cC .len [.str x]=some (.int (x.length:Nat)):=len_str (by omega);have rg:fy [.int ((x.length:Nat)+1)]=some (range 0 (x.length+1)):=zv (by omega) (by omega);refine ai (bG (by repeat array_get_dec) rfl rfl ?_);refine ai (jX (mY (aV (bF (eU (aV (ay rfl) aZ) ln) (bq rfl) cT) aZ) rg) ?_);refine qN (λj fr=>∃a b c,vo a/\vo b/\vo c/\fr=[some (.val (jJ ns)),some (.val (.int k)),some (.val (.str x)),some (.val (av (fC ns k x j))),a,b,c]) (λj fr hj ⟨a,b,c',ha,hb,hc',hfr⟩=>?_) (λfr ⟨a,b,c',ha,hb,hc',hfr⟩=>?_) ⟨none,none,none,.none,.none,.none,rfl⟩
 .subst hfr;have hz:=m5 ns k x j;rw[show(0:Int)+(j:Int)=j from Int.zero_add _];refine eg (bind1 rfl ha) (ai ?_);refine(DM hc hd hn k (.str x) (fC ns k x j) j b c' hb (by omega)).mono λg fr ⟨q1,b2,hb2,q3⟩=>?_;subst q1 q3;refine ai ?_;refine(DN hc hd hn k x hx _ j b2 c' hc' (by split<;>simp<;>omega)).mono λg fr ⟨q1,b3,Va,q3⟩=>?_;subst q1 q3;refine aB ?_;rw[gu];refine⟨some (.val (.int j)),b2,b3,.val,hb2,Va,?_⟩;rw[jq,jm,List.append_assoc]
 .subst hfr;refine ai (bT (v:=av (chg ns k x)) (af:=[some (.val (jJ ns)),some (.val (.int k)),some (.val (.str x)),some (.val (av (fC ns k x (x.length+1)))),a,b,c']) ?_ ⟨rfl,rfl⟩);have sh:fZ [some (.val (jJ ns)),some (.val (.int k)),some (.val (.str x)),some (.val (av (fC ns k x (x.length+1)))),a,b,c']=[some (.val (jJ ns)),some (.val (.int k)),some (.val (.str x)),some (.val (av (fC ns k x (x.length+1)))),a,b,c']:=by
   show _ :: _ :: _ :: _ :: a.map Sl.eE :: b.map Sl.eE :: [c'.map Sl.eE]=_;rw[dN ha,dN hb,dN hc'];rfl
  rw[sh];exact ay rfl
end
end Pv
namespace Pv
open Ev (D bO bJ TY BI ME T E Es Eo It S Ss Fn big deep b2i rep cj dF bI aQ cut cI dX slots)
noncomputable def DO:S:=.iff (.cmp .eq (.ix (.v 0) (.c (.int 0))) (.c (.str [107,101,101,112]))) (.cons (.ret (.ix (.v 0) (.c (.int 1)))) .nil) .nil
noncomputable def DP:S:=.ret (.bi .len (.cons (.ix (.v 0) (.c (.int 1))) .nil))
noncomputable def dG:Fn:=⟨1,1,(.cons DO (.cons DP .nil))⟩
noncomputable def zx(b9:Nat):S:=.ret (.bi .sum (.cons (.comp (.cl b9 (.cons (.v 1) .nil)) (.one 1) (.seq (.v 0)) (.yes (.cmp .ne (.ix (.v 1) (.c (.int 0))) (.c (.str [112,117,116]))))) .nil))
noncomputable def fU(b9:Nat):Fn:=⟨1,2,(.cons (zx b9) .nil)⟩
noncomputable def BP(b9:Nat):S:=.ret (.bi .sum (.cons (.comp (.cl b9 (.cons (.v 1) .nil)) (.one 1) (.seq (.v 0)) (.yes (.cmp .ne (.ix (.v 1) (.c (.int 0))) (.c (.str [100,114,111,112]))))) .nil))
noncomputable def nQ(b9:Nat):Fn:=⟨1,2,(.cons (BP b9) .nil)⟩
noncomputable def DQ:S:=.set 1 (.lst .nil)
noncomputable def DR:S:=.set 2 (.c (.int 0))
noncomputable def DS:S:=.set 3 (.c (.str []))
noncomputable def DT:S:=.set 4 (.c (.str []))
noncomputable def DU(fc:Nat):Ss:=(.cons (.iff (.cmp .eq (.v 5) (.c (.str [100,114,111,112]))) (.cons (.set 3 (.bin .add (.v 3) (.v 6))) .nil) (.cons (.iff (.cmp .eq (.v 5) (.c (.str [112,117,116]))) (.cons (.set 4 (.bin .add (.v 4) (.v 6))) .nil) (.cons (.iff (.cmp .gt (.v 6) (.c (.int 0))) (.cons (.iff (.orr (.cmp .ne (.v 3) (.c (.str []))) (.cmp .ne (.v 4) (.c (.str [])))) (.cons (.exp (.me .extend (.v 1) (.cons (.cl fc (.cons (.v 2) (.cons (.v 3) (.cons (.v 4) .nil)))) .nil))) (.cons (.set 2 (.c (.int 0))) (.cons (.set 3 (.c (.str []))) (.cons (.set 4 (.c (.str []))) .nil)))) .nil) (.cons (.set 2 (.bin .add (.v 2) (.v 6))) .nil)) .nil) .nil)) .nil)) .nil)
noncomputable def DV(fc:Nat):S:=.for (.many [5,6]) (.seq (.v 0)) (DU fc)
noncomputable def DW(fc:Nat):S:=.exp (.me .extend (.v 1) (.cons (.cl fc (.cons (.v 2) (.cons (.v 3) (.cons (.v 4) .nil)))) .nil))
noncomputable def DX:S:=.ret (.iz (.v 1))
noncomputable def iV(fc:Nat):Fn:=⟨1,7,(.cons DQ (.cons DR (.cons DS (.cons DT (.cons (DV fc) (.cons (DW fc) (.cons DX .nil)))))))⟩
noncomputable def vR:S:=.set 3 (.lst .nil)
noncomputable def vS:S:=.iff (.cmp .gt (.v 0) (.c (.int 0))) (.cons (.exp (.me .append (.v 3) (.cons (.tup (.cons (.c (.str [107,101,101,112])) (.cons (.v 0) .nil))) .nil))) .nil) .nil
noncomputable def oz:S:=.iff (.cmp .ne (.v 1) (.c (.str []))) (.cons (.exp (.me .append (.v 3) (.cons (.tup (.cons (.c (.str [100,114,111,112])) (.cons (.v 1) .nil))) .nil))) .nil) .nil
noncomputable def kj:S:=.iff (.cmp .ne (.v 2) (.c (.str []))) (.cons (.exp (.me .append (.v 3) (.cons (.tup (.cons (.c (.str [112,117,116])) (.cons (.v 2) .nil))) .nil))) .nil) .nil
noncomputable def iO:S:=.ret (.v 3)
noncomputable def er:Fn:=⟨3,4,(.cons vR (.cons vS (.cons oz (.cons kj (.cons iO .nil)))))⟩
noncomputable def Pt.n:Pt->Nat
 |.keep n=>n
 |.put s=>s.length
 |.drop s=>s.length
noncomputable def tot(c:List Pt):Nat:=(c.map Pt.n).sum
theorem gb(a b:List Pt):tot (a++b)=tot a+tot b:=by simp[tot]
theorem bh(p:Pt)(c:List Pt):tot (p :: c)=p.n+tot c:=by simp[tot]
noncomputable def ez:Pt->Bool
 |.put _=>true
 |_=>false
noncomputable def dH:Pt->Bool
 |.drop _=>true
 |_=>false
noncomputable def fG:Pt->Bool
 |.keep _=>true
 |_=>false
noncomputable def aR(c:List Pt):Nat:=tot (c.filter λp=>!ez p)
noncomputable def gP(c:List Pt):Nat:=tot (c.filter λp=>!dH p)
noncomputable def cst(c:List Pt):Nat:=tot (c.filter λp=>!fG p)
section
variable{F:List Fn}{w n az i:Nat}
theorem jN(hs:F[i]?=some dG)(p:Pt)(hp:p.n<=100000):run F w (n+1) i [.val p.v]=some (.int p.n,[]):=by
 cases p with
 |keep k=>exact b8 hs rfl (ai (aP (b:=true) (aH rfl (bM (eF (ay rfl) (bq rfl) rfl) (bq rfl) zp) rfl) (λ_=>ai (bT (eF (ay rfl) (bq rfl) rfl) ⟨rfl,rfl⟩)) nofun))
 |put s=>exact b8 hs rfl (ai (aP (b:=false) (aH rfl (bM (eF (ay rfl) (bq rfl) rfl) (bq rfl) zp) rfl) nofun (λ_=>aB (ai (bT (eU (aV (eF (ay rfl) (bq rfl) rfl) aZ) (len_str hp)) ⟨rfl,rfl⟩)))))
 |drop s=>exact b8 hs rfl (ai (aP (b:=false) (aH rfl (bM (eF (ay rfl) (bq rfl) rfl) (bq rfl) zp) rfl) nofun (λ_=>aB (ai (bT (eU (aV (eF (ay rfl) (bq rfl) rfl) aZ) (len_str hp)) ⟨rfl,rfl⟩)))))
theorem SV{c:List Pt}{p:Pt}(h:p∈c):p.n<=tot c:=by
 induction c with
 |nil=>simp at h
 |cons q c ih=>
  rw[bh];rcases List.mem_cons.mp h with rfl|h
  .omega
  .have:=ih h;omega
theorem OE(c:List Pt):(c.map λp=>(p.n:Int)).sum=(tot c:Int):=by
 induction c with
 |nil=>rfl
 |cons p c ih=>simp only[List.map_cons,List.sum_cons,ih,bh];omega
theorem xV{word:List Nat}{pr:Pt->Bool}(hs:F[az]?=some dG)(hb:F[i]?=some ⟨1,2,.cons (.ret (.bi .sum (.cons (.comp (.cl az (.cons (.v 1) .nil)) (.one 1) (.seq (.v 0)) (.yes (.cmp .ne (.ix (.v 1) (.c (.int 0))) (.c (.str word))))) .nil))) .nil⟩)
  (hw:∀p:Pt,∃x u,p.v=.tup [.str x,u]/\(!decide (x=word))=pr p) (c:List Pt) (h1:c.length<=10000) (h2:tot c<=100000):run F w (n+2) i [.val (av c)]=some (.int (tot (c.filter pr)),[]):=by
 refine b8 hb rfl (ai (bT (eU (aV (fE (di (dO rfl) rfl) rfl (jH (e:=Pt.v) (p:=pr) (g:=λp=>.int p.n) c λp hp=>?_) (dR (cy ?_))) aZ) ?_) ⟨rfl,rfl⟩))
 .obtain⟨x,u,hx,Vb⟩:=hw p;have hcall:=λfr=>cR (fr:=fr) (jN (w:=w) (n:=n) hs p (Nat.le_trans (SV hp) h2));rw[hx]at hcall;rw[hx,<-Vb];exact nK rfl (aH rfl (bM (eF (ay rfl) (bq rfl) rfl) (bq rfl) iN) rfl) λ_=>bC (aK rfl (ay rfl) aN) (hcall _)
 .rw[List.length_map];exact Nat.le_trans (List.length_filter_le _ _) (Nat.le_trans h1 (by decide))
 .rw[HB,zb (λp:Pt=>(p.n:Int))];show some (V.int _)=_;rw[OE]
theorem iw(hs:F[az]?=some dG)(hb:F[i]?=some (fU az))(c:List Pt)(h1:c.length<=10000)(h2:tot c<=100000):run F w (n+2) i [.val (av c)]=some (.int (aR c),[]):=
 xV (pr:=λp=>!ez p) hs hb (λp=>by cases p<;>exact⟨_,_,rfl,rfl⟩) c h1 h2
theorem BQ(hs:F[az]?=some dG)(hb:F[i]?=some (nQ az))(c:List Pt)(h1:c.length<=10000)(h2:tot c<=100000):run F w (n+2) i [.val (av c)]=some (.int (gP c),[]):=
 xV (pr:=λp=>!dH p) hs hb (λp=>by cases p<;>exact⟨_,_,rfl,rfl⟩) c h1 h2
end
noncomputable def bV(k:Nat)(g w:List Nat):List Pt:=(if 0<k then [.keep k]else [])++(if g=[]then []else [.drop g])++(if w=[]then []else [.put w])
theorem ko(k:Nat)(g w:List Nat):(bV k g w).length<=3:=by unfold bV;split<;>split<;>split<;>simp
theorem oA{F:List Fn}{w n i:Nat}(hs:F[i]?=some er)(k:Nat)(g x:List Nat):run F w (n+1) i [.val (.int k),.val (.str g),.val (.str x)]=some (.lst ((bV k g x).map Pt.v),[]):=by
 refine b8 hs rfl ?_;refine ai (jM (l:=[]) (by repeat array_get_dec) rfl rfl ?_);have ap:∀(l:List V) (d:V) (fr:Fr) (i:Nat),l.length<=3->fr[i]?=some (some (.own l))->gO .append i [d] fr fr[i]?=.ok .aG (fr.set i (some (.own (l++[d])))):=λl d fr i h e=>by rw[e];exact nG (by omega)
 have fin:∀l:List V,Wp (exs (run F w n) w (.cons iO .nil) [some (.val (.int k)),some (.val (.str g)),some (.val (.str x)),some (.own l)]) λg fr=>g=.ret (.lst l)/\outs 3 fr=[]:=λl=>ai (bT (by repeat array_get_dec) ⟨rfl,rfl⟩);have s3:∀l:List V,l.length<=2->Wp (exs (run F w n) w (.cons kj (.cons iO .nil)) [some (.val (.int k)),some (.val (.str g)),some (.val (.str x)),some (.own l)]) λg fr=>g=.ret (.lst (l++(if x=[]then []else [Pt.put x]).map Pt.v))/\outs 3 fr=[]:=λl hl=>by
  refine ai (aP (by repeat array_get_dec) (λh=>?_) λh=>?_)
  .have hx:x≠[]:=by simpa using h
   refine ai (gv (by (repeat array_get_dec);exact ap _ _ _ _ (by omega) rfl) (aB ?_));rw[if_neg hx];exact fin _
  .have hx:x=[]:=by simpa using h
   refine aB ?_;rw[if_pos hx,List.map_nil,List.append_nil];exact fin _
 have s2:∀l:List V,l.length<=1->Wp (exs (run F w n) w (.cons oz (.cons kj (.cons iO .nil))) [some (.val (.int k)),some (.val (.str g)),some (.val (.str x)),some (.own l)]) λy fr=>y=.ret (.lst (l++((if g=[]then []else [Pt.drop g])++(if x=[]then []else [Pt.put x])).map Pt.v))/\outs 3 fr=[]:=λl hl=>by
  refine ai (aP (by repeat array_get_dec) (λh=>?_) λh=>?_)
  .have hx:g≠[]:=by simpa using h
   refine ai (gv (by (repeat array_get_dec);exact ap _ _ _ _ (by omega) rfl) (aB ?_));rw[if_neg hx,List.map_append,<-List.append_assoc];exact s3 _ (by simp;omega)
  .have hx:g=[]:=by simpa using h
   refine aB ?_;rw[if_pos hx,List.nil_append];exact s3 _ (by omega)
 refine ai (aP (by repeat array_get_dec) (λh=>?_) λh=>?_)
 .have hx:0<k:=by have:=of_decide_eq_true h;omega
  refine ai (gv (by (repeat array_get_dec);exact ap _ _ _ _ (by decide) rfl) (aB ?_));unfold bV;rw[if_pos hx,List.append_assoc];exact s2 _ (Nat.le_refl 1)
 .have hx:¬ 0<k:=by have:=of_decide_eq_false h;omega
  refine aB ?_;unfold bV;rw[if_neg hx];exact s2 _ (by decide)
abbrev FS:=List Pt×Nat×List Nat×List Nat
noncomputable def bH(st:FS):Pt->FS
 |.drop s=>(st.1,st.2.1,st.2.2.1++s,st.2.2.2)
 |.put s=>(st.1,st.2.1,st.2.2.1,st.2.2.2++s)
 |.keep k=>if 0<k then (if st.2.2.1=[]/\st.2.2.2=[]then (st.1,st.2.1+k,[],[])else (st.1++bV st.2.1 st.2.2.1 st.2.2.2,k,[],[]))else st
noncomputable def eV:FS:=([],0,[],[])
noncomputable def cU(st:FS):List Pt:=st.1++bV st.2.1 st.2.2.1 st.2.2.2
noncomputable def aL(c:List Pt):List Pt:=cU (c.foldl bH eV)
theorem Ia(p:List Pt)(a:Pt):(p++[a]).foldl bH eV=bH (p.foldl bH eV) a:=by simp
theorem uW(c:List Pt):∀st:FS,(c.foldl bH st).1.length<=st.1.length+3*c.length/\(c.foldl bH st).2.2.1.length<=st.2.2.1.length+tot c/\(c.foldl bH st).2.2.2.length<=st.2.2.2.length+tot c:=by
 induction c with
 |nil=>intro st;simp[tot]
 |cons p c ih=>
  intro st;have h:=ih (bH st p);have h2:(bH st p).1.length<=st.1.length+3/\(bH st p).2.2.1.length<=st.2.2.1.length+p.n/\(bH st p).2.2.2.length<=st.2.2.2.length+p.n:=by
   have:=ko st.2.1 st.2.2.1 st.2.2.2;cases p with
   |drop s=>simp[bH,Pt.n]
   |put s=>simp[bH,Pt.n]
   |keep k=>
    simp only[bH];split
    .split
     .simp
     .simp;omega
    .simp
  simp only[List.foldl_cons,List.length_cons,bh];omega
theorem iD{F:List Fn}{w n aW i:Nat}(hs:F[aW]?=some er)(hf:F[i]?=some (iV aW))(c:List Pt)(h1:c.length<=10000)(h2:tot c<=10000):run F w (n+2) i [.val (av c)]=some (av (aL c),[]):=by
 refine b8 hf rfl ?_;refine ai (jM (l:=[]) (by repeat array_get_dec) rfl rfl ?_);refine ai (bG (by repeat array_get_dec) rfl rfl ?_);refine ai (bG (by repeat array_get_dec) rfl rfl ?_);refine ai (bG (by repeat array_get_dec) rfl rfl ?_);refine ai (jX (vs:=c.map Pt.v) (di (dO rfl) rfl) ?_);have ext:∀(st:FS) (fr:Fr),st.1.length<=30010->gO .extend 1 [.lst ((bV st.2.1 st.2.2.1 st.2.2.2).map Pt.v)] fr (some (some (.own (st.1.map Pt.v))))=.ok .aG (fr.set 1 (some (.own ((cU st).map Pt.v)))):=λst fr h=>by
  have:=ko st.2.1 st.2.2.1 st.2.2.2;unfold cU;rw[List.map_append];exact xT (by simp;omega)
 refine gM (e:=Pt.v) (λp l fr=>p++l=c/\∃a b,vo a/\vo b/\fr=[some (.val (av c)),some (.own ((p.foldl bH eV).1.map Pt.v)),some (.val (.int (p.foldl bH eV).2.1)),some (.val (.str (p.foldl bH eV).2.2.1)),some (.val (.str (p.foldl bH eV).2.2.2)),a,b]) (λp x l fr ⟨hpl,a,b,ha,hb,hfr⟩=>?_) (λp fr ⟨hpl,a,b,ha,hb,hfr⟩=>?_) c [] _ ⟨rfl,none,none,.none,.none,rfl⟩
 .subst hfr;obtain⟨b1,b2,b3⟩:=uW p eV;have hlen:p.length+l.length+1=c.length:=by rw[<-hpl];simp;omega
  have uX:tot p+x.n+tot l=tot c:=by rw[<-hpl,gb,bh];omega
  rw[Ia];have iE:(p++[x])++l=c:=by simpa using hpl
  generalize p.foldl bH eV=st at *
  simp[eV]at b1 b2 b3;have rs:=λfr=>eO (fr:=fr) (oA (w:=w) (n:=n) hs st.2.1 st.2.2.1 st.2.2.2);have ex:=λfr=>ext st fr (by omega);cases x with
  |drop s=>
   have hs:s.length<=tot c:=by simp only[Pt.n]at uX;omega
   have ad:=ly (a:=st.2.2.1) (b:=s) (by omega);refine eg (nO rfl ha rfl hb) (ai (aP (by repeat array_get_dec) (λ_=>?_) λh=>absurd h (by decide)));refine ai (bG (by repeat array_get_dec) rfl rfl (aB (aB ?_)));rw[gu];exact⟨iE,_,_,.val,.val,rfl⟩
  |put s=>
   have hs:s.length<=tot c:=by simp only[Pt.n]at uX;omega
   have ad:=ly (a:=st.2.2.2) (b:=s) (by omega);refine eg (nO rfl ha rfl hb) (ai (aP (by repeat array_get_dec) (λh=>absurd h (by decide)) λ_=>?_));refine ai (aP (by repeat array_get_dec) (λ_=>?_) λh=>absurd h (by decide));refine ai (bG (by repeat array_get_dec) rfl rfl (aB (aB (aB ?_))));rw[gu];exact⟨iE,_,_,.val,.val,rfl⟩
  |keep k=>
   refine eg (nO rfl ha rfl hb) (ai (aP (by repeat array_get_dec) (λh=>absurd h (by decide)) λ_=>?_));refine ai (aP (by repeat array_get_dec) (λh=>absurd h (by decide)) λ_=>?_);refine ai (aP (by repeat array_get_dec) (λh=>?_) λh=>?_)
   .have hk:0<k:=by have:=of_decide_eq_true h;omega
    by_cases hg:st.2.2.1=[]/\st.2.2.2=[]
    .have n1:cop .ne (.str st.2.2.1) (.str [])=some false:=by rw[iN,hg.1];rfl
     have n2:cop .ne (.str st.2.2.2) (.str [])=some false:=by rw[iN,hg.2];rfl
     refine ai (aP (b:=false) (jL (aH rfl (by repeat array_get_dec) rfl) (aH rfl (by repeat array_get_dec) rfl)) (λh=>absurd h (by decide)) λ_=>aB ?_);refine ai (bG (by repeat array_get_dec) rfl rfl (aB (aB (aB (aB ?_)))));rw[gu];refine⟨iE,some (.val (.str dY)),some (.val (.int k)),.val,.val,?_⟩;simp only[bH,if_pos hk,if_pos hg];rw[hg.1,hg.2];rfl
    .have tt:aF (run F w (n+1)) (.orr (.cmp .ne (.v 3) (.c (.str []))) (.cmp .ne (.v 4) (.c (.str [])))) [some (.val (av c)),some (.own (st.1.map Pt.v)),some (.val (.int st.2.1)),some (.val (.str st.2.2.1)),some (.val (.str st.2.2.2)),some (.val (.str dY)),some (.val (.int k))]=.ok true [some (.val (av c)),some (.own (st.1.map Pt.v)),some (.val (.int st.2.1)),some (.val (.str st.2.2.1)),some (.val (.str st.2.2.2)),some (.val (.str dY)),some (.val (.int k))]:=by
      by_cases h3:st.2.2.1=[]
      .have h4:¬ st.2.2.2=[]:=λz=>hg ⟨h3,z⟩;have n1:cop .ne (.str st.2.2.1) (.str [])=some false:=by rw[iN,h3];rfl
       have n2:cop .ne (.str st.2.2.2) (.str [])=some true:=by rw[iN,decide_eq_false h4];rfl
       exact jL (aH rfl (by repeat array_get_dec) rfl) (aH rfl (by repeat array_get_dec) rfl)
      .have n1:cop .ne (.str st.2.2.1) (.str [])=some true:=by rw[iN,decide_eq_false h3];rfl
       exact BJ (aH rfl (by repeat array_get_dec) rfl)
     refine ai (aP tt (λ_=>?_) λh=>absurd h (by decide));refine ai (gv (by (repeat (first|array_get_dec|exact rs _|exact ex _))) ?_);refine ai (bG (by repeat array_get_dec) rfl rfl ?_);refine ai (bG (by repeat array_get_dec) rfl rfl ?_);refine ai (bG (by repeat array_get_dec) rfl rfl (aB ?_));refine ai (bG (by repeat array_get_dec) rfl rfl (aB (aB (aB (aB ?_)))));rw[gu];refine⟨iE,some (.val (.str dY)),some (.val (.int k)),.val,.val,?_⟩;simp only[bH,if_pos hk,if_neg hg];rw[Int.zero_add];rfl
   .have hk:¬ 0<k:=by have:=of_decide_eq_false h;omega
    refine aB (aB (aB (aB ?_)));rw[gu];refine⟨iE,some (.val (.str dY)),some (.val (.int k)),.val,.val,?_⟩;simp only[bH,if_neg hk];rfl
 .subst hfr;simp at hpl;subst hpl;obtain⟨b1,b2,b3⟩:=uW p eV;have e:aL p=cU (p.foldl bH eV):=rfl;rw[e];generalize p.foldl bH eV=st at *
  simp[eV]at b1 b2 b3;have sl:=ko st.2.1 st.2.2.1 st.2.2.2;have rs:=λfr=>eO (fr:=fr) (oA (w:=w) (n:=n) hs st.2.1 st.2.2.1 st.2.2.2);have ex:=λfr=>ext st fr (by omega);have mk:toT (.lst ((cU st).map Pt.v))=some (av (cU st)):=by rw[xQ];exact iT (cy (by simp[cU];omega))
  refine ai (gv (by (repeat (first|array_get_dec|exact rs _|exact ex _))) ?_);exact ai (bT (pR (ay rfl) mk) ⟨rfl,rfl⟩)
end Pv
namespace Pv
open Ev (D bO bJ TY BI ME T E Es Eo It S Ss Fn big deep b2i rep cj dF bI aQ cut cI dX slots)
noncomputable def lv(o:Option Sl)(l:List V):Prop:=o=some (.own l)\/o=some (.val (.lst l))
section
variable{o:Option Sl}{l:List V}{fr:Fr}{i:Nat}{s:Sl}
end
inductive Tq where
 |at (i:Nat)|sg (c:Nat)
deriving DecidableEq
noncomputable def Pt.asks:Pt->List (List Nat)
 |.keep n=>List.replicate n []
 |.drop s=>s.map λc=>[c]
 |.put _=>[]
noncomputable def asks(c:List Pt):List (List Nat):=c.flatMap Pt.asks
noncomputable def Pt.told(k:Nat):Pt->List Tq
 |.keep n=>(List.range n).map λj=>.at (k+j)
 |.drop _=>[]
 |.put s=>s.map .sg
noncomputable def told(k:Nat):List Pt->List Tq
 |[]=>[]
 |p :: c=>p.told k++told (k+p.asks.length) c
theorem eG(a b:List Pt):asks (a++b)=asks a++asks b:=by simp[asks]
theorem gy(a b:List Pt):∀k,told k (a++b)=told k a++told (k+(asks a).length) b:=by
 induction a with
 |nil=>intro k;simp[told,asks]
 |cons p a ih=>
  intro k;simp only[List.cons_append,told,ih,List.append_assoc]
  congr 3
  simp[asks];omega
noncomputable def lG(c:List Pt):List (List Nat)×List Tq:=(asks c,told 0 c)
noncomputable def Pt.word:Pt->List Nat
 |.keep _=>dY
 |.put _=>mZ
 |.drop _=>jY
noncomputable def pU(a b:List Nat):Bool:=!(decide (a=b) || (decide (a=mZ)&&decide (b=jY)))
noncomputable def kq:List (List Nat)->Bool
 |a :: b :: r=>pU a b&&kq (b :: r)
 |_=>true
noncomputable def Mv(p:Pt):Bool:=p.n != 0
noncomputable def kK(c:List Pt):Bool:=kq (c.map Pt.word)&&c.all Mv
theorem eW(k:Nat)(g x:List Nat):asks (bV k g x)=List.replicate k []++g.map λc=>[c]:=by
  unfold bV;by_cases hk:0<k<;>by_cases hg:g=[]<;>by_cases hx:x=[]<;>simp[hk,hg,hx,asks,Pt.asks]
  all_goals (have:k=0:=by omega
             subst this;simp)
theorem iy(k:Nat)(g x:List Nat)(j:Nat):told j (bV k g x)=(List.range k).map (λi=>Tq.at (j+i))++x.map Tq.sg:=by
  unfold bV;by_cases hk:0<k<;>by_cases hg:g=[]<;>by_cases hx:x=[]<;>simp[hk,hg,hx,told,Pt.told,Pt.asks]
  all_goals (have:k=0:=by omega
             subst this;simp)
theorem zy(st:FS)(p:Pt):asks (cU (bH st p))=asks (cU st++[p])/\∀j,told j (cU (bH st p))=told j (cU st++[p]):=by
 obtain⟨ps,k,g,x⟩:=st;have e1:∀a:List Pt,asks (a++[p])=asks a++p.asks:=λa=>by simp[asks]
 have e2:∀(a:List Pt) j,told j (a++[p])=told j a++p.told (j+(asks a).length):=λa j=>by simp[gy,told]
 rw[e1];cases p with
 |drop s=>
  refine⟨by simp[bH,cU,eG,eW,Pt.asks],λj=>?_⟩;rw[e2];simp[bH,cU,gy,iy,Pt.told]
 |put s=>
  refine⟨by simp[bH,cU,eG,eW,Pt.asks],λj=>?_⟩;rw[e2];simp[bH,cU,gy,iy,Pt.told]
 |keep m=>
  simp only[bH];split
  .split
   .rename_i h;obtain⟨rfl,rfl⟩:=h;refine⟨by simp[cU,eG,eW,Pt.asks],λj=>?_⟩;rw[e2];simp[cU,eG,gy,iy,eW,Pt.told,List.range_add,Nat.add_assoc]
   .refine⟨by simp[cU,eG,eW,Pt.asks],λj=>?_⟩;rw[e2];simp[cU,eG,gy,iy,eW,Pt.told,Nat.add_assoc]
  .rename_i h;have:m=0:=by omega
   subst this;refine⟨by simp[Pt.asks],λj=>?_⟩;rw[e2];simp[Pt.told]
theorem pV(c:List Pt):∀st:FS,asks (cU (c.foldl bH st))=asks (cU st++c)/\∀j,told j (cU (c.foldl bH st))=told j (cU st++c):=by
 induction c with
 |nil=>intro st;simp
 |cons p c ih=>
  intro st;obtain⟨h1,h2⟩:=ih (bH st p);obtain⟨h3,h4⟩:=zy st p;simp only[List.foldl_cons];have e:cU st++p :: c=(cU st++[p])++c:=by simp
  refine⟨?_,λj=>?_⟩
  .rw[h1,e,eG,eG _ c,h3]
  .rw[h2 j,e,gy,gy _ c,h4 j,h3]
theorem cW(c:List Pt):asks (aL c)=asks c:=by
 have:=(pV c eV).1;simpa[aL,eV,cU,bV]using this
theorem eB(c:List Pt)(j:Nat):told j (aL c)=told j c:=by
 have:=(pV c eV).2 j;simpa[aL,eV,cU,bV]using this
theorem lH(c:List Pt):lG (aL c)=lG c:=by simp[lG,cW,eB]
noncomputable def kps(c:List Pt):Nat:=tot (c.filter fG)
theorem jO(c:List Pt):(asks c).length=aR c:=by
 induction c with
 |nil=>rfl
 |cons p c ih=>cases p<;>simp[asks,aR,tot,ez,Pt.asks,Pt.n]at ih ⊢<;>omega
theorem uY(c:List Pt):∀j,(told j c).length=gP c:=by
 induction c with
 |nil=>intro j;rfl
 |cons p c ih=>intro j;cases p<;>simp[told,gP,tot,dH,Pt.told,Pt.n,ih]at ih ⊢
theorem jZ(n:Nat)(c:List Pt):aR (.keep n :: c)=n+aR c:=by simp[aR,tot,ez,Pt.n]
theorem lI(s:List Nat)(c:List Pt):aR (.drop s :: c)=s.length+aR c:=by simp[aR,tot,ez,Pt.n]
theorem j0(s:List Nat)(c:List Pt):aR (.put s :: c)=aR c:=by simp[aR,tot,ez,Pt.n]
theorem zz(n:Nat)(c:List Pt):gP (.keep n :: c)=n+gP c:=by simp[gP,tot,dH,Pt.n]
theorem zA(s:List Nat)(c:List Pt):gP (.drop s :: c)=gP c:=by simp[gP,tot,dH,Pt.n]
theorem zB(s:List Nat)(c:List Pt):gP (.put s :: c)=s.length+gP c:=by simp[gP,tot,dH,Pt.n]
theorem Fy(n:Nat)(c:List Pt):cst (.keep n :: c)=cst c:=by simp[cst,tot,fG,Pt.n]
theorem Fz(s:List Nat)(c:List Pt):cst (.drop s :: c)=s.length+cst c:=by simp[cst,tot,fG,Pt.n]
theorem FA(s:List Nat)(c:List Pt):cst (.put s :: c)=s.length+cst c:=by simp[cst,tot,fG,Pt.n]
theorem FD(n:Nat)(c:List Pt):kps (.keep n :: c)=n+kps c:=by simp[kps,tot,List.filter_cons,fG,Pt.n]
theorem FE(s:List Nat)(c:List Pt):kps (.drop s :: c)=kps c:=by simp[kps,tot,fG,Pt.n]
theorem FF(s:List Nat)(c:List Pt):kps (.put s :: c)=kps c:=by simp[kps,tot,fG,Pt.n]
noncomputable def isAt:Tq->Bool
 |.at _=>true
 |_=>false
theorem BR(c:List Pt):∀j,((told j c).filter isAt).length=kps c:=by
 induction c with
 |nil=>intro j;rfl
 |cons p c ih=>
  intro j;have e1:∀(m:Nat) (f:Nat->Nat),(((List.range m).map λi=>Tq.at (f i)).filter isAt).length=m:=λm f=>by
   rw[List.filter_eq_self.mpr]
   .simp
   .intro a ha;obtain⟨i,_,rfl⟩:=List.mem_map.mp ha;rfl
  have e2:∀s:List Nat,((s.map Tq.sg).filter isAt).length=0:=λs=>by
   rw[List.filter_eq_nil_iff.mpr]
   .rfl
   .intro a ha;obtain⟨i,_,rfl⟩:=List.mem_map.mp ha;simp[isAt]
  cases p with
  |keep m=>simp only[told,Pt.told,List.filter_append,List.length_append,e1,ih,kps,tot,fG,List.filter_cons,if_true,List.map_cons,List.sum_cons,Pt.n]
  |put s=>simp only[told,Pt.told,List.filter_append,List.length_append,e2,ih,kps,fG,List.filter_cons];simp
  |drop s=>simp only[told,Pt.told,List.filter_append,List.length_append,ih,kps,fG,List.filter_cons];simp
theorem BU(c:List Pt):(cst c:Int)=aR c - kps c+gP c - kps c:=by
 induction c with
 |nil=>rfl
 |cons p c ih=>cases p<;>simp only[Fy,Fz,FA,jZ,lI,j0,zz,zA,zB,FD,FE,FF]<;>omega
theorem BV(c:List Pt):tot c+kps c=aR c+gP c:=by
 induction c with
 |nil=>rfl
 |cons p c ih=>cases p<;>simp only[bh,Pt.n,jZ,lI,j0,zz,zA,zB,FD,FE,FF]<;>omega
theorem uZ(c:List Pt):aR (aL c)=aR c:=by rw[<-jO,<-jO,cW]
theorem u0(c:List Pt):gP (aL c)=gP c:=by rw[<-uY _ 0,<-uY _ 0,eB]
theorem u7(c:List Pt):kps (aL c)=kps c:=by rw[<-BR _ 0,<-BR _ 0,eB]
theorem oW(c:List Pt):cst (aL c)=cst c:=by
 have h1:=BU (aL c);have h2:=BU c;rw[uZ,u0,u7]at h1;omega
theorem fV(c:List Pt):tot (aL c)=tot c:=by
 have h1:=BV (aL c);have h2:=BV c;rw[uZ,u0,u7]at h1;omega
theorem xW:∀(a:List (List Nat)) (b:List (List Nat)),kq (a++b)=true↔kq a=true/\kq b=true/\∀x∈a.getLast?,∀y∈b.head?,pU x y=true
 |[],b=>by simp[kq]
 |[x],[]=>by simp[kq]
 |[x],y :: b=>by simp[kq,and_comm]
 |x :: y :: a,b=>by
  have:=xW (y :: a) b;simp only[List.cons_append]at this ⊢;simp only[kq,Bool.and_eq_true,this,List.getLast?_cons_cons];constructor
  .rintro⟨h1,h2,h3,h4⟩;exact⟨⟨h1,h2⟩,h3,h4⟩
  .rintro⟨⟨h1,h2⟩,h3,h4⟩;exact⟨h1,h2,h3,h4⟩
theorem vU(k:Nat)(g x:List Nat):kK (bV k g x)=true:=by
 unfold bV;by_cases hk:0<k<;>by_cases hg:g=[]<;>by_cases hx:x=[]<;>simp[hk,hg,hx,kK,Mv,kq,pU,Pt.word,Pt.n,dY,mZ,jY]
 all_goals omega
noncomputable def u9(st:FS):Prop:=kK st.1=true/\(st.1≠[]->0<st.2.1)/\∀p∈st.1.getLast?,p.word≠dY
theorem Ib{a b:List Pt}(ha:kK a=true)(hb:kK b=true)(h:∀p∈a.getLast?,∀q∈b.head?,pU p.word q.word=true):kK (a++b)=true:=by
 simp only[kK,Bool.and_eq_true]at ha hb ⊢;refine⟨?_,by rw[List.all_append,ha.2,hb.2];rfl⟩;rw[List.map_append,xW];refine⟨ha.1,hb.1,λx hx y hy=>?_⟩;simp at hx hy;obtain⟨p,hp,rfl⟩:=hx;obtain⟨q,hq,rfl⟩:=hy;exact h p hp q hq
theorem vc{k:Nat}{g x:List Nat}(hk:0<k):(bV k g x).head?=some (.keep k):=by simp[bV,hk]
theorem Ic{w:List Nat}(h:w≠dY)(hw:w=mZ\/w=jY):pU w dY=true:=by
 rcases hw with rfl|rfl<;>decide
theorem Ie(p:Pt):p.word=dY\/p.word=mZ\/p.word=jY:=by cases p<;>simp[Pt.word]
theorem vd{st:FS}(h:u9 st):kK (cU st)=true:=by
 refine Ib h.1 (vU _ _ _) λp hp q hq=>?_;have hne:st.1≠[]:=by intro z;rw[z]at hp;simp at hp
 rw[vc (h.2.1 hne)]at hq;simp at hq;subst hq;have hw:=h.2.2 p hp;exact Ic hw ((Ie p).resolve_left hw)
theorem ve{k:Nat}{g x:List Nat}(h:¬ (g=[]/\x=[])):∀p∈(bV k g x).getLast?,p.word≠dY:=by
 unfold bV;by_cases hx:x=[]
 .have hg:g≠[]:=λz=>h ⟨z,hx⟩;intro p hp;simp[hg,hx]at hp;subst hp;simp[Pt.word,jY,dY]
 .intro p hp;simp[hx]at hp;subst hp;simp[Pt.word,mZ,dY]
theorem BW{st:FS}(h:u9 st)(p:Pt):u9 (bH st p):=by
 cases p with
 |drop s=>exact h
 |put s=>exact h
 |keep k=>
  simp only[bH];split
  .rename_i hk;split
   .exact⟨h.1,λz=>by simp;omega,h.2.2⟩
   .rename_i Qu;refine⟨vd h,λ_=>hk,λp hp=>?_⟩;rw[List.getLast?_append]at hp;cases z:(bV st.2.1 st.2.2.1 st.2.2.2).getLast? with
    |none=>
     exfalso;rw[List.getLast?_eq_none_iff]at z;unfold bV at z;by_cases hx:st.2.2.2=[]<;>by_cases hg:st.2.2.1=[]<;>simp[hx,hg]at z Qu
    |some q=>
     rw[z]at hp;simp at hp;subst hp;exact ve Qu q z
  .exact h
theorem gz(c:List Pt):kK (aL c)=true:=by
 have:∀(c:List Pt) (st:FS),u9 st->u9 (c.foldl bH st):=λc=>by
  induction c with
  |nil=>exact λst h=>h
  |cons p c ih=>exact λst h=>ih _ (BW h p)
 exact vd (this c eV ⟨rfl,λz=>absurd rfl z,λp hp=>by simp[eV]at hp⟩)
end Pv
namespace Pv
open Ev (D bO bJ TY BI ME T E Es Eo It S Ss Fn big deep b2i rep cj dF bI aQ cut cI dX slots)
abbrev Bl:=List Nat×List Nat
abbrev BS:=List Bl×Bl
noncomputable def dZ(st:BS):Pt->BS
 |.drop s=>(st.1,(st.2.1++s,st.2.2))
 |.put s=>(st.1,(st.2.1,st.2.2++s))
 |.keep 0=>st
 |.keep (n+1)=>(st.1++st.2 :: List.replicate n ([],[]),([],[]))
noncomputable def oB:BS:=([],([],[]))
noncomputable def blocks(c:List Pt):BS:=c.foldl dZ oB
noncomputable def kL(st:List Pt×Nat)(b:Bl):List Pt×Nat:=if b.1=[]/\b.2=[]then (st.1,st.2+1)else (st.1++bV st.2 b.1 b.2,1)
noncomputable def pk(bs:List Bl):List Pt×Nat:=bs.foldl kL ([],0)
theorem DY(n:Nat):∀st:List Pt×Nat,(List.replicate n (([],[]):Bl)).foldl kL st=(st.1,st.2+n):=by
 induction n with
 |zero=>intro st;simp
 |succ n ih=>intro st;simp[List.replicate_succ,kL,ih];omega
noncomputable def xX(st:BS):FS:=((pk st.1).1,(pk st.1).2,st.2.1,st.2.2)
theorem DZ(st:BS)(p:Pt):bH (xX st) p=xX (dZ st p):=by
 obtain⟨bs,g,x⟩:=st;cases p with
 |drop s=>rfl
 |put s=>rfl
 |keep n=>
  cases n with
  |zero=>rfl
  |succ n=>
   have e:pk (bs++(g,x) :: List.replicate n ([],[]))=((kL (pk bs) (g,x)).1,(kL (pk bs) (g,x)).2+n):=by
    simp only[pk,List.foldl_append,List.foldl_cons,DY]
   simp only[xX,dZ,e,bH,Nat.succ_pos,if_true,kL];by_cases h:g=[]/\x=[]
   .simp[h];omega
   .simp[h];omega
theorem D0(c:List Pt):∀st:BS,c.foldl bH (xX st)=xX (c.foldl dZ st):=by
 induction c with
 |nil=>intro st;rfl
 |cons p c ih=>intro st;simp only[List.foldl_cons,DZ,ih]
theorem iP(c:List Pt):aL c=cU (xX (blocks c)):=by
 unfold aL blocks;rw[<-D0];rfl
noncomputable def BX(st:List (List Nat)×List Nat):List Nat->List (List Nat)×List Nat
 |[]=>(st.1++[st.2],[])
 |c :: _=>(st.1,st.2++[c])
noncomputable def spT(st:List (List Nat)×List Nat):Tq->List (List Nat)×List Nat
 |.at _=>(st.1++[st.2],[])
 |.sg c=>(st.1,st.2++[c])
theorem BY(s:List Nat):∀st,(s.map λc=>[c]).foldl BX st=(st.1,st.2++s):=by
 induction s with
 |nil=>intro st;simp
 |cons c s ih=>intro st;simp[BX,ih]
theorem D3(n:Nat):∀st,(List.replicate n []).foldl BX st=if n=0 then st else (st.1++st.2 :: List.replicate (n - 1) [],[]):=by
 induction n with
 |zero=>intro st;rfl
 |succ n ih=>
  intro st;simp only[List.replicate_succ,List.foldl_cons,BX,ih];cases n with
  |zero=>simp
  |succ n=>simp[List.replicate_succ]
theorem BZ(s:List Nat):∀st,(s.map Tq.sg).foldl spT st=(st.1,st.2++s):=by
 induction s with
 |nil=>intro st;simp
 |cons c s ih=>intro st;simp[spT,ih]
theorem D4(n:Nat):∀(k:Nat) st,((List.range n).map λj=>Tq.at (k+j)).foldl spT st=if n=0 then st else (st.1++st.2 :: List.replicate (n - 1) [],[]):=by
 induction n with
 |zero=>intro k st;rfl
 |succ n ih=>
  intro k st;rw[List.range_succ,List.map_append,List.foldl_append,ih];cases n with
  |zero=>simp[spT]
  |succ n=>
   simp[spT];rw[<-List.replicate_succ',List.replicate_succ]
theorem pW(c:List Pt):∀st:BS,(asks c).foldl BX (st.1.map Prod.fst,st.2.1)=((c.foldl dZ st).1.map Prod.fst,(c.foldl dZ st).2.1):=by
 induction c with
 |nil=>intro st;rfl
 |cons p c ih=>
  intro st;have e:asks (p :: c)=p.asks++asks c:=by simp[asks]
  rw[e,List.foldl_append,List.foldl_cons,<-ih]
  congr 1
  cases p with
  |drop s=>simp[Pt.asks,BY,dZ]
  |put s=>simp[Pt.asks,dZ]
  |keep n=>
   simp only[Pt.asks,D3];cases n with
   |zero=>rfl
   |succ n=>simp[dZ]
theorem pX(c:List Pt):∀(k:Nat) (st:BS),(told k c).foldl spT (st.1.map Prod.snd,st.2.2)=((c.foldl dZ st).1.map Prod.snd,(c.foldl dZ st).2.2):=by
 induction c with
 |nil=>intro k st;rfl
 |cons p c ih=>
  intro k st;rw[told,List.foldl_append,List.foldl_cons,<-ih (k+p.asks.length)]
  congr 1
  cases p with
  |put s=>simp[Pt.told,BZ,dZ]
  |drop s=>simp[Pt.told,dZ]
  |keep n=>
   simp only[Pt.told,D4];cases n with
   |zero=>rfl
   |succ n=>simp[dZ]
theorem xY{α β:Type}:∀{a b:List (α×β)},a.map Prod.fst=b.map Prod.fst->a.map Prod.snd=b.map Prod.snd->a=b
 |[],[],_,_=>rfl
 |[],_ :: _,h,_=>by simp at h
 |_ :: _,[],h,_=>by simp at h
 | (x,y) :: a,(x',y') :: b,h1,h2=>by
  simp at h1 h2;rw[h1.1,h2.1,xY h1.2 h2.2]
theorem m6{a b:List Pt}(h:lG a=lG b):blocks a=blocks b:=by
 have hA:asks a=asks b:=congrArg Prod.fst h;have hT:told 0 a=told 0 b:=congrArg Prod.snd h;have a1:=pW a oB;have b1:=pW b oB;have a2:=pX a 0 oB;have b2:=pX b 0 oB;rw[hA,b1]at a1;rw[hT,b2]at a2;have e1:=congrArg Prod.fst a1;have e2:=congrArg Prod.snd a1;have e3:=congrArg Prod.fst a2;have e4:=congrArg Prod.snd a2;unfold blocks;exact Prod.ext (xY e1.symm e3.symm) (Prod.ext e2.symm e4.symm)
theorem vf(a b:List Pt):aL a=aL b↔lG a=lG b:=by
 constructor
 .intro h;rw[<-lH a,<-lH b,h]
 .intro h;rw[iP,iP,m6 h]
theorem j3(a:List Pt):aL (aL a)=aL a:=(vf _ _).mpr (lH a)
noncomputable def Pt.sw:Pt->Pt
 |.keep n=>.keep n
 |.put s=>.drop s
 |.drop s=>.put s
noncomputable def sw(c:List Pt):List Pt:=c.map Pt.sw
theorem se(c:List Pt):∀st:BS,(sw c).foldl dZ (st.1.map Prod.swap,st.2.swap)=((c.foldl dZ st).1.map Prod.swap,(c.foldl dZ st).2.swap):=by
 induction c with
 |nil=>intro st;rfl
 |cons p c ih=>
  intro st;simp only[sw,List.map_cons,List.foldl_cons]at ih ⊢;rw[<-ih]
  congr 1
  cases p with
  |put s=>rfl
  |drop s=>rfl
  |keep n=>cases n<;>simp[Pt.sw,dZ]
theorem Ig{a b:List Pt}(h:aL a=aL b):aL (sw a)=aL (sw b):=by
 have hb:=m6 ((vf a b).mp h);rw[iP,iP];have a1:=se a oB;have b1:=se b oB;have e:blocks (sw a)=blocks (sw b):=by
  unfold blocks at hb ⊢;have z:((oB.1.map Prod.swap,oB.2.swap):BS)=oB:=rfl;rw[z]at a1 b1;rw[a1,b1,hb]
 rw[e]
noncomputable def iF(c:List Pt):List Pt:=aL (sw c)
theorem Mw(c:List Pt):aR (sw c)=gP c:=by
 induction c with
 |nil=>rfl
 |cons p c ih=>cases p<;>simp only[sw,List.map_cons,Pt.sw,jZ,lI,j0,zz,zA,zB]at ih ⊢<;>omega
noncomputable def au:List Pt->List Nat->Bool
 |[],t=>t.isEmpty
 |.keep n :: c,t=>decide (n<=t.length)&&au c (t.drop n)
 |.drop s :: c,t=>s.isPrefixOf t&&au c (t.drop s.length)
 |.put _ :: c,t=>au c t
noncomputable def aE:List Pt->List Nat->List Nat
 |[],_=>[]
 |.keep n :: c,t=>t.take n++aE c (t.drop n)
 |.drop s :: c,t=>aE c (t.drop s.length)
 |.put s :: c,t=>s++aE c t
noncomputable def aI:List (List Nat)->List Nat->Bool
 |[],[]=>true
 |x :: a,c :: t=>(decide (x=[]) ||decide (x=[c]))&&aI a t
 |_,_=>false
theorem B3(n:Nat)(a:List (List Nat)):∀t,aI (List.replicate n []++a) t=(decide (n<=t.length)&&aI a (t.drop n)):=by
 induction n with
 |zero=>intro t;simp
 |succ n ih=>
  intro t;cases t with
  |nil=>simp[List.replicate_succ,aI]
  |cons c t=>simp[List.replicate_succ,aI,ih]
theorem B4(s:List Nat)(a:List (List Nat)):∀t,aI ((s.map λc=>[c])++a) t=(s.isPrefixOf t&&aI a (t.drop s.length)):=by
 induction s with
 |nil=>intro t;simp
 |cons c s ih=>
  intro t;cases t with
  |nil=>simp[aI]
  |cons d t=>
   simp only[List.map_cons,List.cons_append,aI,ih,List.isPrefixOf,List.length_cons,List.drop_succ_cons];by_cases h:c=d<;>simp[h]
theorem cH(c:List Pt):∀t,au c t=aI (asks c) t:=by
 induction c with
 |nil=>intro t;cases t<;>rfl
 |cons p c ih=>
  intro t;have e:asks (p :: c)=p.asks++asks c:=by simp[asks]
  rw[e];cases p with
  |keep n=>simp[au,Pt.asks,B3,ih]
  |drop s=>simp[au,Pt.asks,B4,ih]
  |put s=>simp[au,Pt.asks,ih]
theorem gA(c:List Pt)(t:List Nat):au (aL c) t=au c t:=by rw[cH,cH,cW]
noncomputable def pick(t:List Nat):Tq->List Nat
 |.at i=>(t[i]?).toList
 |.sg c=>[c]
theorem B5(c:List Pt):∀(t:List Nat) (k:Nat),aE c (t.drop k)=(told k c).flatMap (pick t):=by
 induction c with
 |nil=>intro t k;rfl
 |cons p c ih=>
  intro t k;rw[told,List.flatMap_append,<-ih];cases p with
  |put s=>
   simp only[aE,Pt.told,Pt.asks,List.length_nil,Nat.add_zero]
   congr 1
   induction s with
   |nil=>rfl
   |cons c s ih=>simp[pick]at ih ⊢;exact ih
  |drop s=>simp[aE,Pt.told,Pt.asks,Nat.add_comm]
  |keep n=>
   simp only[aE,Pt.told,Pt.asks,List.length_replicate,List.drop_drop]
   congr 1
   induction n generalizing k with
   |zero=>simp
   |succ n ihn=>
    rw[List.range_succ,List.map_append,List.flatMap_append,<-ihn];rw[List.take_add_one];simp[pick]
theorem cP(c:List Pt)(t:List Nat):aE (aL c) t=aE c t:=by
 have h1:=B5 (aL c) t 0;have h2:=B5 c t 0;rw[eB,<-h2]at h1;simpa using h1
theorem vg(c:List Pt):∀t,au c t=true->au (sw c) (aE c t)=true/\aE (sw c) (aE c t)=t:=by
 induction c with
 |nil=>intro t h;simp[au]at h;subst h;simp[sw,au,aE]
 |cons p c ih=>
  intro t h;cases p with
  |keep n=>
   simp only[au,Bool.and_eq_true,decide_eq_true_eq]at h;obtain⟨h1,h2⟩:=ih _ h.2;have hl:(t.take n).length=n:=by simp;omega
   simp only[sw,List.map_cons,Pt.sw,aE,au]at h1 h2 ⊢;have e1:(t.take n++aE c (t.drop n)).drop n=aE c (t.drop n):=by rw[List.drop_append_of_le_length (by omega),List.drop_eq_nil_of_le (by omega)];rfl
   have e2:(t.take n++aE c (t.drop n)).take n=t.take n:=by rw[List.take_append_of_le_length (by omega),List.take_take,Nat.min_self]
   rw[e1,e2,h1,h2];simp;omega
  |drop s=>
   simp only[au,Bool.and_eq_true]at h;obtain⟨h1,h2⟩:=ih _ h.2;simp only[sw,List.map_cons,Pt.sw,aE,au]at h1 h2 ⊢;rw[h2];refine⟨h1,?_⟩;obtain⟨r,rfl⟩:=List.isPrefixOf_iff_prefix.mp h.1;simp
  |put s=>
   simp only[au]at h;obtain⟨h1,h2⟩:=ih _ h;simp only[sw,List.map_cons,Pt.sw,aE,au]at h1 h2 ⊢;simp[h1,h2]
end Pv
namespace Pv
open Ev (D bO bJ TY BI ME T E Es Eo It S Ss Fn big deep b2i rep cj dF bI aQ cut cI dX slots)
noncomputable def D5:S:=.set 2 (.c (.int 0))
noncomputable def D6(b9:Nat):Ss:=(.cons (.iff (.an (.cmp .eq (.ix (.v 3) (.c (.int 0))) (.c (.str [100,114,111,112]))) (.cmp .ne (.sl (.v 1) (.yes (.v 2)) (.yes (.bin .add (.v 2) (.cl b9 (.cons (.v 3) .nil))))) (.ix (.v 3) (.c (.int 1))))) (.cons (.ret (.c (.bl false))) .nil) .nil) (.cons (.iff (.cmp .ne (.ix (.v 3) (.c (.int 0))) (.c (.str [112,117,116]))) (.cons (.set 2 (.bin .add (.v 2) (.cl b9 (.cons (.v 3) .nil)))) .nil) .nil) .nil))
noncomputable def D7(b9:Nat):S:=.for (.one 3) (.seq (.v 0)) (D6 b9)
noncomputable def D8:S:=.ret (.cmp .eq (.v 2) (.bi .len (.cons (.v 1) .nil)))
noncomputable def kM(b9:Nat):Fn:=⟨2,4,(.cons D5 (.cons (D7 b9) (.cons D8 .nil)))⟩
noncomputable def D9(fW:Nat):S:=.iff (.nt (.cl fW (.cons (.v 0) (.cons (.v 1) .nil)))) (.cons (.gf) .nil) .nil
noncomputable def Ea:S:=.set 2 (.lst .nil)
noncomputable def Eb:S:=.set 3 (.c (.int 0))
noncomputable def Ec:Ss:=(.cons (.iff (.cmp .eq (.v 4) (.c (.str [112,117,116]))) (.cons (.exp (.me .append (.v 2) (.cons (.v 5) .nil))) .nil) (.cons (.iff (.cmp .eq (.v 4) (.c (.str [100,114,111,112]))) (.cons (.set 3 (.bin .add (.v 3) (.bi .len (.cons (.v 5) .nil)))) .nil) (.cons (.exp (.me .append (.v 2) (.cons (.sl (.v 1) (.yes (.v 3)) (.yes (.bin .add (.v 3) (.v 5)))) .nil))) (.cons (.set 3 (.bin .add (.v 3) (.v 5))) .nil))) .nil)) .nil)
noncomputable def Ed:S:=.for (.many [4,5]) (.seq (.v 0)) Ec
noncomputable def Ef:S:=.ret (.me .join (.c (.str [])) (.cons (.v 2) .nil))
noncomputable def vh(fW:Nat):Fn:=⟨2,6,(.cons (D9 fW) (.cons Ea (.cons Eb (.cons Ed (.cons Ef .nil)))))⟩
noncomputable def zC(cg:Nat):S:=.ret (.cl cg (.cons (.iz (.comp (.tup (.cons (.iZ [(.str [107,101,101,112],.str [107,101,101,112]),(.str [112,117,116],.str [100,114,111,112]),(.str [100,114,111,112],.str [112,117,116])] (.v 1)) (.cons (.v 2) .nil))) (.many [1,2]) (.seq (.v 0)) .no)) .nil))
noncomputable def Eg(cg:Nat):Fn:=⟨1,3,(.cons (zC cg) .nil)⟩
noncomputable def vV(cg:Nat):S:=.ret (.cl cg (.cons (.tup (.cons (.tup (.cons (.c (.str [107,101,101,112])) (.cons (.v 0) .nil))) .nil)) .nil))
noncomputable def j4(cg:Nat):Fn:=⟨1,1,(.cons (vV cg) .nil)⟩
theorem B6{α:Type}(l:List α)(p k:Nat):cut l (some (p:Int)) (some ((p:Int)+k))=(l.drop p).take k:=by
 have h1:¬ (p:Int)<0:=by omega
 have h2:¬ (p:Int)+k<0:=by omega
 have h3:((p:Int)+k).toNat=p+k:=by omega
 simp only[cut,aQ,h1,h2,if_false,h3,Int.toNat_natCast];by_cases hp:p<=l.length
 .rw[Nat.min_eq_left hp];by_cases hk:p+k<=l.length
  .rw[Nat.min_eq_left hk];congr 1;omega
  .rw[Nat.min_eq_right (by omega),List.take_of_length_le (by simp),List.take_of_length_le (by simp;omega)]
 .have e1:min p l.length=l.length:=by omega
  rw[e1,List.drop_eq_nil_of_le (Nat.le_refl _),List.drop_eq_nil_of_le (by omega)];simp
theorem pre_take{s t:List Nat}:s.isPrefixOf t=decide (t.take s.length=s):=by
 cases h:s.isPrefixOf t with
 |true=>
  obtain⟨r,rfl⟩:=List.isPrefixOf_iff_prefix.mp h;simp
 |false=>
  symm
  rw[decide_eq_false_iff_not];intro e;have:s.isPrefixOf t=true:=List.isPrefixOf_iff_prefix.mpr (by have z:=List.take_prefix s.length t;rw[e]at z;exact z);rw[h]at this;cases this
theorem xZ(a b:List Pt):aR (a++b)=aR a+aR b:=by simp[aR,tot]
theorem gQ{c:List Pt}:∀{t:List Nat},au c t=true->t.length=aR c:=by
 induction c with
 |nil=>intro t h;simp[au]at h;subst h;rfl
 |cons p c ih=>
  intro t h;cases p with
  |keep n=>simp only[au,Bool.and_eq_true,decide_eq_true_eq]at h;have:=ih h.2;rw[jZ];simp at this;omega
  |drop s=>
   simp only[au,Bool.and_eq_true]at h;have h2:=ih h.2;obtain⟨r,rfl⟩:=List.isPrefixOf_iff_prefix.mp h.1;rw[lI];simp at h2 ⊢;omega
  |put s=>rw[j0];exact ih h
theorem Eh(c:List Pt):∀t,(aE c t).length<=t.length+tot c:=by
 induction c with
 |nil=>intro t;simp[aE]
 |cons p c ih=>
  intro t;rw[bh];cases p with
  |keep n=>have:=ih (t.drop n);simp[aE,Pt.n]at this ⊢;omega
  |drop s=>have:=ih (t.drop s.length);simp[aE,Pt.n]at this ⊢;omega
  |put s=>have:=ih t;simp[aE,Pt.n]at this ⊢;omega
section
variable{F:List Fn}{w n az dI bN aW i:Nat}
theorem Ei(c:List Pt)(t:List Nat)(q:Nat)(p:Pt)(l:List Pt)(h:au c t=(decide (q<=t.length)&&au (p :: l) (t.drop q))) :
  (dH p=true->(∃s,p=.drop s/\(if (t.drop q).take s.length=s then au c t=(decide (q+s.length<=t.length)&&au l (t.drop (q+s.length)))else au c t=false)))/\
  (dH p=false->au c t=(decide (q+aR [p]<=t.length)&&au l (t.drop (q+aR [p])))):=by
 cases p with
 |drop s=>
  refine⟨λ_=>⟨s,rfl,?_⟩,λz=>by simp[dH]at z⟩;simp only[au,pre_take,List.drop_drop]at h;split
  .rename_i hs;rw[h];simp only[hs,decide_true,Bool.true_and];have hl:=congrArg List.length hs;simp at hl;by_cases hq:q<=t.length
   .by_cases hq2:q+s.length<=t.length
    .simp[hq,hq2]
    .omega
   .have:¬ q+s.length<=t.length:=by omega
    simp[hq,this]
  .rename_i hs;rw[h];simp[hs]
 |keep k=>
  refine⟨λz=>by simp[dH]at z,λ_=>?_⟩;have e:aR [.keep k]=k:=by rw[jZ];rfl
  rw[h,e];simp only[au,List.drop_drop,List.length_drop];by_cases hq:q<=t.length
  .by_cases hq2:q+k<=t.length
   .have:k<=t.length - q:=by omega
    simp[hq,hq2,this]
   .have:¬ k<=t.length - q:=by omega
    simp[hq2,this]
  .have:¬ q+k<=t.length:=by omega
   simp[hq,this]
 |put s=>
  refine⟨λz=>by simp[dH]at z,λ_=>?_⟩;have e:aR [.put s]=0:=by rw[j0];rfl
  rw[h,e];simp[au]
theorem jP(hs:F[az]?=some dG)(hf:F[i]?=some (kM az))(c:List Pt)(t:List Nat)(h1:tot c<=10000)(h2:t.length<=10000):run F w (n+2) i [.val (av c),.val (.str t)]=some (.bl (au c t),[]):=by
 refine b8 hf rfl ?_;refine ai (bG (by repeat array_get_dec) rfl rfl ?_);refine ai (jX (vs:=c.map Pt.v) (di (dO rfl) rfl) ?_);refine gM (e:=Pt.v) (λp l fr=>p++l=c/\au c t=(decide (aR p<=t.length)&&au l (t.drop (aR p)))/\∃a,vo a/\fr=[some (.val (av c)),some (.val (.str t)),some (.val (.int (aR p))),a]) (λp x l fr ⟨hpl,hfit,a,ha,hfr⟩=>?_) (λp fr ⟨hpl,hfit,a,ha,hfr⟩=>?_) c [] _ ⟨rfl,by simp[aR,tot],none,.none,rfl⟩
 .subst hfr;have uX:tot p+x.n+tot l=tot c:=by rw[<-hpl,gb,bh];omega
  have sz:=λfr=>cR (fr:=fr) (jN (w:=w) (n:=n) hs x (by omega));obtain⟨k1,k2⟩:=Ei c t (aR p) x l hfit;have iE:(p++[x])++l=c:=by simpa using hpl
  have eb:aR (p++[x])=aR p+aR [x]:=xZ p [x];have ei:((aR (p++[x]):Nat):Int)=(aR p:Int)+(aR [x]:Nat):=by rw[eb];simp
  cases x with
  |drop s=>
   obtain⟨s',e,k1⟩:=k1 rfl;cases e;have e2:aR [.drop s]=s.length:=by rw[lI];rfl
   rw[e2]at eb ei;have cu:fP (.str t) (some (aR p:Int)) (some ((aR p:Int)+((Pt.drop s).n:Nat)))=some (.str ((t.drop (aR p)).take s.length)):=by rw[gK];exact congrArg (λz=>some (V.str z)) (B6 t (aR p) s.length)
   by_cases hx:(t.drop (aR p)).take s.length=s
   .rw[if_pos hx]at k1;have ne:cop .ne (.str ((t.drop (aR p)).take s.length)) (.str s)=some false:=by rw[iN,decide_eq_true hx];rfl
    refine eg (bind1 rfl ha) (ai (aP (b:=false) (fF (b2:=false) (aH rfl (by repeat array_get_dec) rfl) (aH rfl (by (repeat (first|array_get_dec|exact sz _))) rfl)) (λh=>absurd h (by decide)) λ_=>aB ?_));refine ai (aP (by repeat array_get_dec) (λ_=>?_) λh=>absurd h (by decide));refine ai (bG (by (repeat (first|array_get_dec|exact sz _))) rfl rfl (aB (aB ?_)));rw[gu];exact⟨iE,by rw[eb];exact k1,some (.val (Pt.drop s).v),.val,by rw[ei];rfl⟩
   .rw[if_neg hx]at k1;have ne:cop .ne (.str ((t.drop (aR p)).take s.length)) (.str s)=some true:=by rw[iN,decide_eq_false hx];rfl
    refine eg (bind1 rfl ha) (ai (aP (b:=true) (fF (b2:=true) (aH rfl (by repeat array_get_dec) rfl) (aH rfl (by (repeat (first|array_get_dec|exact sz _))) rfl)) (λ_=>?_) λh=>absurd h (by decide)));refine ai (bT (by repeat array_get_dec) ?_);show nx _ _ _ _ _ _;rw[k1];exact⟨rfl,rfl⟩
  |keep k=>
   have k2:=k2 rfl;have e2:aR [.keep k]=k:=by rw[jZ];rfl
   rw[e2]at k2 eb ei;refine eg (bind1 rfl ha) (ai (aP (b:=false) (jK (aH rfl (by repeat array_get_dec) rfl)) (λh=>absurd h (by decide)) λ_=>aB ?_));refine ai (aP (by repeat array_get_dec) (λ_=>?_) λh=>absurd h (by decide));refine ai (bG (by (repeat (first|array_get_dec|exact sz _))) rfl rfl (aB (aB ?_)));rw[gu];exact⟨iE,by rw[eb];exact k2,some (.val (Pt.keep k).v),.val,by rw[ei];rfl⟩
  |put s=>
   have k2:=k2 rfl;have e2:aR [.put s]=0:=by rw[j0];rfl
   rw[e2]at k2 eb;refine eg (bind1 rfl ha) (ai (aP (b:=false) (jK (aH rfl (by repeat array_get_dec) rfl)) (λh=>absurd h (by decide)) λ_=>aB ?_));refine ai (aP (by repeat array_get_dec) (λh=>absurd h (by decide)) λ_=>aB (aB ?_));rw[gu];exact⟨iE,by rw[eb];exact k2,some (.val (Pt.put s).v),.val,by rw[eb];rfl⟩
 .subst hfr;simp at hpl;subst hpl;have e:decide ((aR p:Int)=(t.length:Nat))=au p t:=by
   rw[hfit];simp only[au];by_cases hq:aR p=t.length
   .have:(aR p:Int)=t.length:=by omega
    simp[this,hq]
   .have:¬ (aR p:Int)=t.length:=by omega
    simp[this];intro h;omega
  have ln:cC .len [.str t]=some (.int (t.length:Nat)):=len_str (by omega);have eq:cop .eq (.int (aR p)) (.int (t.length:Nat))=some (au p t):=by rw[Mp,e]
  have sh:fZ [some (.val (av p)),some (.val (.str t)),some (.val (.int (aR p))),a]=[some (.val (av p)),some (.val (.str t)),some (.val (.int (aR p))),a]:=by
   show _ :: _ :: _ :: [a.map Sl.eE]=_;rw[dN ha];rfl
  refine ai (bT (v:=.bl (au p t)) (af:=[some (.val (av p)),some (.val (.str t)),some (.val (.int (aR p))),a]) ?_ ⟨rfl,rfl⟩);rw[sh];repeat array_get_dec
theorem Ej(hs:F[az]?=some dG)(hf:F[dI]?=some (kM az))(hd:F[i]?=some (vh dI))(c:List Pt)(t:List Nat)(h1:tot c<=10000)(h2:t.length<=10000)(h3:c.length<=10000)(h:au c t=true):run F w (n+3) i [.val (av c),.val (.str t)]=some (.str (aE c t),[]):=by
 refine b8 hd rfl ?_;have ft:=λfr=>call2 (fr:=fr) (jP (w:=w) (n:=n) hs hf c t h1 h2);rw[h]at ft;refine ai (aP (b:=false) (nJ (aH (b:=true) rfl (by (repeat (first|array_get_dec|exact ft _))) rfl)) (λh=>absurd h (by decide)) λ_=>aB ?_);refine ai (jM (l:=[]) (by repeat array_get_dec) rfl rfl ?_);refine ai (bG (by repeat array_get_dec) rfl rfl ?_);refine ai (jX (vs:=c.map Pt.v) (di (dO rfl) rfl) ?_);refine gM (e:=Pt.v) (λp l fr=>p++l=c/\∃ps a b,vo a/\vo b/\ps.length<=p.length/\ps.flatten++aE l (t.drop (aR p))=aE c t/\fr=[some (.val (av c)),some (.val (.str t)),some (.own (ps.map V.str)),some (.val (.int (aR p))),a,b]) (λp x l fr ⟨hpl,ps,a,b,ha,hb,hl,hd,hfr⟩=>?_) (λp fr ⟨hpl,ps,a,b,ha,hb,hl,hd,hfr⟩=>?_) c [] _ ⟨rfl,[],none,none,.none,.none,by simp,by simp[aR,tot],rfl⟩
 .subst hfr;have iE:(p++[x])++l=c:=by simpa using hpl
  have eb:aR (p++[x])=aR p+aR [x]:=xZ p [x];have ei:((aR (p++[x]):Nat):Int)=(aR p:Int)+(aR [x]:Nat):=by rw[eb];simp
  have uX:tot p+x.n+tot l=tot c:=by rw[<-hpl,gb,bh];omega
  have hlen:p.length+l.length+1=c.length:=by rw[<-hpl];simp;omega
  have ap:∀(fr:Fr) (z:List Nat),gO .append 2 [.str z] fr (some (some (.own (ps.map V.str))))=.ok .aG (fr.set 2 (some (.own ((ps++[z]).map V.str)))):=λfr z=>by
   rw[List.map_append];exact nG (by simp;omega)
  cases x with
  |put s=>
   have e2:aR [.put s]=0:=by rw[j0];rfl
   rw[e2]at eb;refine eg (nO rfl ha rfl hb) (ai (aP (by repeat array_get_dec) (λ_=>?_) λh=>absurd h (by decide)));refine ai (gv (by (repeat (first|array_get_dec|exact ap _ _))) (aB (aB ?_)));rw[gu];exact⟨iE,ps++[s],some (.val (.str mZ)),some (.val (.str s)),.val,.val,by simp;omega,by rw[eb];simpa[aE]using hd,by rw[eb];rfl⟩
  |drop s=>
   have e2:aR [.drop s]=s.length:=by rw[lI];rfl
   rw[e2]at eb ei;have VR:s.length<=tot c:=by simp only[Pt.n]at uX;omega
   have ln:cC .len [.str s]=some (.int (s.length:Nat)):=len_str (by omega);refine eg (nO rfl ha rfl hb) (ai (aP (by repeat array_get_dec) (λh=>absurd h (by decide)) λ_=>?_));refine ai (aP (by repeat array_get_dec) (λ_=>?_) λh=>absurd h (by decide));refine ai (bG (by repeat array_get_dec) rfl rfl (aB (aB (aB ?_))));rw[gu];exact⟨iE,ps,some (.val (.str jY)),some (.val (.str s)),.val,.val,by simp;omega,by rw[eb];simpa[aE]using hd,by rw[ei];rfl⟩
  |keep k=>
   have e2:aR [.keep k]=k:=by rw[jZ];rfl
   rw[e2]at eb ei;have cu:fP (.str t) (some (aR p:Int)) (some ((aR p:Int)+(k:Nat)))=some (.str ((t.drop (aR p)).take k)):=by rw[gK,B6]
   refine eg (nO rfl ha rfl hb) (ai (aP (by repeat array_get_dec) (λh=>absurd h (by decide)) λ_=>?_));refine ai (aP (by repeat array_get_dec) (λh=>absurd h (by decide)) λ_=>?_);refine ai (gv (by (repeat (first|array_get_dec|exact ap _ _))) ?_);refine ai (bG (by repeat array_get_dec) rfl rfl (aB (aB (aB ?_))));rw[gu];exact⟨iE,ps++[(t.drop (aR p)).take k],some (.val (.str dY)),some (.val (.int k)),.val,.val,by simp;omega,by rw[eb];simpa[aE]using hd,by rw[ei];rfl⟩
 .subst hfr;simp at hpl;subst hpl;have hd':ps.flatten=aE p t:=by simpa[aE]using hd
  have dl:=Eh p t;have hj:=zc (l:=ps) (by rw[hd'];omega);rw[hd']at hj;have sh:fZ [some (.val (av p)),some (.val (.str t)),some (.own (ps.map V.str)),some (.val (.int (aR p))),a,b]=[some (.val (av p)),some (.val (.str t)),some (.val (.lst (ps.map V.str))),some (.val (.int (aR p))),a,b]:=by
   show _ :: _ :: _ :: _ :: a.map Sl.eE :: [b.map Sl.eE]=_;rw[dN ha,dN hb];rfl
  refine ai (bT (v:=.str (aE p t)) (af:=[some (.val (av p)),some (.val (.str t)),some (.val (.lst (ps.map V.str))),some (.val (.int (aR p))),a,b]) ?_ ⟨rfl,rfl⟩);rw[sh];repeat array_get_dec
theorem B7(c:List Pt):tot (sw c)=tot c:=by
 induction c with
 |nil=>rfl
 |cons p c ih=>simp only[sw,List.map_cons,bh]at ih ⊢;rw[ih];cases p<;>rfl
theorem zD(hst:F[aW]?=some er)(hf:F[bN]?=some (iV aW))(hu:F[i]?=some (Eg bN))(c:List Pt)(h1:c.length<=10000)(h2:tot c<=10000):run F w (n+3) i [.val (av c)]=some (av (iF c),[]):=by
 have hl:(c.map λp=>p.sw.v).length<=big:=by rw[List.length_map];exact Nat.le_trans h1 (by decide)
 have cf:=λfr=>cR (fr:=fr) (iD (w:=w) (n:=n) hst hf (sw c) (by rw[sw,List.length_map];exact h1) (by rw[B7];exact h2));rw[show av (sw c)=.tup (c.map λp=>p.sw.v)by simp only[av,sw,List.map_map];rfl]at cf;exact b8 hu rfl (ai (bT (bC (aK rfl (pR (fE (di (dO rfl) rfl) rfl (e8 _ (λp=>p.sw.v) c λp _=>by
  cases p<;>exact iU rfl (nH (aV (BH (ay rfl) rfl) (aV (ay rfl) aZ)) za)) (dR hl)) (iT hl)) aN) (cf _)) ⟨rfl,rfl⟩))
theorem vW(hst:F[aW]?=some er)(hf:F[bN]?=some (iV aW))(hu:F[i]?=some (j4 bN))(m:Nat)(h:m<=10000):run F w (n+3) i [.val (.int m)]=some (av (aL [.keep m]),[]):=
 b8 hu rfl (ai (bT (bC (aK rfl (nH (aV (nH (aV (bq rfl) (aV (ay rfl) aZ)) za) aZ) sS) aN) (cR (iD hst hf [.keep m] (Nat.succ_le_of_lt (Nat.zero_lt_succ _)) h))) ⟨rfl,rfl⟩))
end
end Pv
namespace Pv
open Ev (rep)
theorem B8(ns:List Int)(at_:Int)(s:List Nat)(k:Nat):tot (jm ns at_ s k)<=3:=by
 have h1:=iu ns (at_+4*k+2) (many:=2) (by decide);have h2:=ir ns (at_+4*k+2) (many:=2) (by decide);unfold jm;rw[gb];have a:tot (if cF ns (at_+4*k) 4=0 then [Pt.put (rep (1+cF ns (at_+4*k+2) 2).toNat [[97,98,122].getD (cF ns (at_+4*k+1) 3).toNat 0])]else [])<=2:=by
  split
  .simp[tot,Pt.n,rep];omega
  .simp[tot]
 cases s[k]? with
 |none=>simp[tot]at a ⊢;omega
 |some c=>
  have b:tot [if 0<cF ns (at_+4*k+3) 3 then Pt.keep 1 else Pt.drop [c]]<=1:=by split<;>simp[tot,Pt.n]
  simp only at b ⊢;omega
theorem sq(ns:List Int)(at_:Int)(s:List Nat):∀k,tot (fC ns at_ s k)<=3*k
 |0=>by simp[fC,tot]
 |k+1=>by
  have h1:=B8 ns at_ s k;have h2:=sq ns at_ s k;rw[jq,gb];omega
theorem vj:∀{a b:List (List Nat)}{t u:List Nat},aI a t=true->aI b u=true->aI (a++b) (t++u)=true
 |[],_,[],_,_,hb=>hb
 |x :: a,b,c :: t,u,ha,hb=>by
  simp only[aI,Bool.and_eq_true]at ha;simp only[List.cons_append,aI,Bool.and_eq_true];exact⟨ha.1,vj ha.2 hb⟩
 |[],_,_ :: _,_,ha,_=>by simp[aI]at ha
 |_ :: _,_,[],_,ha,_=>by simp[aI]at ha
theorem Ih(ns:List Int)(at_:Int)(s:List Nat)(k:Nat):aI (asks (jm ns at_ s k)) (s[k]?).toList=true:=by
 unfold jm;rw[eG];have a:asks (if cF ns (at_+4*k) 4=0 then [Pt.put (rep (1+cF ns (at_+4*k+2) 2).toNat [[97,98,122].getD (cF ns (at_+4*k+1) 3).toNat 0])]else [])=[]:=by
  split<;>simp[asks,Pt.asks]
 rw[a];cases s[k]? with
 |none=>simp[asks,aI]
 |some c=>simp only;split<;>simp[asks,Pt.asks,aI]
theorem B9(ns:List Int)(at_:Int)(s:List Nat):∀k,aI (asks (fC ns at_ s k)) (s.take k)=true
 |0=>by simp[fC,asks,aI]
 |k+1=>by
  rw[jq,eG,List.take_add_one];exact vj (B9 ns at_ s k) (Ih ns at_ s k)
theorem Ii(ns:List Int)(at_:Int)(s:List Nat):au (chg ns at_ s) s=true:=by
 have:=B9 ns at_ s (s.length+1);rw[List.take_of_length_le (by omega)]at this;rw[cH];exact this
end Pv
namespace Pv
inductive At where
 |k|d (c:Nat)|p (c:Nat)
noncomputable def Pt.aJ:Pt->List At
 |.keep n=>List.replicate n .k
 |.drop s=>s.map .d
 |.put s=>s.map .p
noncomputable def aJ(c:List Pt):List At:=c.flatMap Pt.aJ
theorem kN(a b:List Pt):aJ (a++b)=aJ a++aJ b:=by simp[aJ]
theorem cB(p:Pt)(c:List Pt):aJ (p :: c)=p.aJ++aJ c:=by simp[aJ]
theorem vm(p:Pt):p.aJ.length=p.n:=by cases p<;>simp[Pt.aJ,Pt.n]
theorem ju(c:List Pt):(aJ c).length=tot c:=by
 induction c with
 |nil=>rfl
 |cons p c ih=>rw[cB,List.length_append,vm,ih,bh]
noncomputable def tA:Nat->List At->List Tq
 |_,[]=>[]
 |i,.k :: a=>.at i :: tA (i+1) a
 |i,.d _ :: a=>tA (i+1) a
 |i,.p c :: a=>.sg c :: tA i a
noncomputable def aA:List At->List (List Nat)
 |[]=>[]
 |.k :: a=>[] :: aA a
 |.d c :: a=>[c] :: aA a
 |.p _ :: a=>aA a
noncomputable def dA:List At->List Nat->List Nat
 |[],_=>[]
 |.k :: a,t=>t.take 1++dA a (t.drop 1)
 |.d _ :: a,t=>dA a (t.drop 1)
 |.p c :: a,t=>c :: dA a t
noncomputable def oE:At->At
 |.k=>.k
 |.d c=>.p c
 |.p c=>.d c
noncomputable def cA:List At->Nat
 |[]=>0
 |.k :: a=>cA a
 |_ :: a=>cA a+1
theorem pY:∀a b:List At,aA (a++b)=aA a++aA b
 |[],_=>rfl
 |.k :: a,b=>by simp[aA,pY a b]
 |.d c :: a,b=>by simp[aA,pY a b]
 |.p c :: a,b=>by simp[aA,pY a b]
theorem pZ:∀(a b:List At) (i:Nat),tA i (a++b)=tA i a++tA (i+(aA a).length) b
 |[],_,_=>rfl
 |.k :: a,b,i=>by simp[tA,aA,pZ a b,Nat.add_assoc,Nat.add_comm 1]
 |.d c :: a,b,i=>by simp[tA,aA,pZ a b,Nat.add_assoc,Nat.add_comm 1]
 |.p c :: a,b,i=>by simp[tA,aA,pZ a b]
theorem qa:∀a b:List At,cA (a++b)=cA a+cA b
 |[],b=>by simp[cA]
 |.k :: a,b=>by simp[cA,qa a b]
 |.d c :: a,b=>by simp[cA,qa a b];omega
 |.p c :: a,b=>by simp[cA,qa a b];omega
theorem FG(p:Pt):aA p.aJ=p.asks:=by
 cases p with
 |keep n=>simp only[Pt.aJ,Pt.asks];induction n<;>simp_all [List.replicate_succ,aA]
 |drop s=>simp only[Pt.aJ,Pt.asks];induction s<;>simp_all [aA]
 |put s=>simp only[Pt.aJ,Pt.asks];induction s<;>simp_all [aA]
theorem OF(p:Pt):∀i,tA i p.aJ=p.told i:=by
 cases p with
 |keep n=>
  simp only[Pt.aJ,Pt.told];induction n with
  |zero=>intro i;rfl
  |succ n ih=>intro i;simp only[List.replicate_succ,tA,ih,List.range_succ_eq_map,List.map_cons,List.map_map];simp[Function.comp_def,Nat.add_assoc,Nat.add_comm 1]
 |drop s=>intro i;simp only[Pt.aJ,Pt.told];induction s generalizing i<;>simp_all [tA]
 |put s=>intro i;simp only[Pt.aJ,Pt.told];induction s generalizing i<;>simp_all [tA]
theorem OG(p:Pt):cA p.aJ=cst [p]:=by
 cases p with
 |keep n=>simp only[Pt.aJ];rw[Fy];induction n<;>simp_all [List.replicate_succ,cA,cst,tot]
 |drop s=>simp only[Pt.aJ];rw[Fz];induction s<;>simp_all [cA,cst,tot]
 |put s=>simp only[Pt.aJ];rw[FA];induction s<;>simp_all [cA,cst,tot]
theorem cX(c:List Pt):asks c=aA (aJ c):=by
 induction c with
 |nil=>rfl
 |cons p c ih=>rw[cB,pY,FG,<-ih];simp[asks]
theorem iG(c:List Pt):∀i,told i c=tA i (aJ c):=by
 induction c with
 |nil=>intro i;rfl
 |cons p c ih=>intro i;rw[cB,pZ,OF,FG,<-ih,told]
theorem qO(c:List Pt):cst c=cA (aJ c):=by
 induction c with
 |nil=>rfl
 |cons p c ih=>
  rw[cB,qa,OG,<-ih];simp[cst,tot];cases p<;>simp[List.filter_cons,fG]
theorem vn(c:List Pt):aJ (sw c)=(aJ c).map oE:=by
 induction c with
 |nil=>rfl
 |cons p c ih=>
  have:aJ (sw (p :: c))=p.sw.aJ++aJ (sw c):=by simp[aJ,sw]
  rw[this,ih,cB,List.map_append]
  congr 1
  cases p<;>simp[Pt.sw,Pt.aJ,oE,Function.comp_def]
theorem eK:∀(c:List Pt) (t:List Nat),aE c t=dA (aJ c) t:=by
 have k:∀(n:Nat) (a:List At) (t:List Nat),dA (List.replicate n .k++a) t=t.take n++dA a (t.drop n):=λn=>by
  induction n with
  |zero=>intro a t;simp
  |succ n ih=>
   intro a t;simp only[List.replicate_succ,List.cons_append,dA,ih,List.drop_drop];cases t with
   |nil=>simp
   |cons c t=>simp[Nat.add_comm 1]
 have d:∀(s:List Nat) (a:List At) (t:List Nat),dA (s.map .d++a) t=dA a (t.drop s.length):=λs=>by
  induction s with
  |nil=>intro a t;simp
  |cons c s ih=>intro a t;simp[dA,ih,Nat.add_comm 1]
 have p:∀(s:List Nat) (a:List At) (t:List Nat),dA (s.map .p++a) t=s++dA a t:=λs=>by
  induction s with
  |nil=>intro a t;simp
  |cons c s ih=>intro a t;simp[dA,ih]
 intro c;induction c with
 |nil=>intro t;rfl
 |cons q c ih=>
  intro t;rw[cB];cases q with
  |keep n=>simp only[Pt.aJ,k,aE,ih]
  |drop s=>simp only[Pt.aJ,d,aE,ih]
  |put s=>simp only[Pt.aJ,p,aE,ih]
noncomputable def Ca:List At->Bool
 |.d _ :: _=>false
 |_=>true
inductive Th:List At->List At->List At->Prop
 |nil:Th [] [] []
 |d {a b r c}:Th a b r->Th (.d c :: a) b (.d c :: r)
 |p {a b r c}:Ca a=true->Th a b r->Th a (.p c :: b) (.p c :: r)
 |kk {a b r}:Th a b r->Th (.k :: a) (.k :: b) (.k :: r)
 |kd {a b r c}:Th a b r->Th (.k :: a) (.d c :: b) (.d c :: r)
 |pk {a b r c}:Th a b r->Th (.p c :: a) (.k :: b) (.p c :: r)
 |pd {a b r c}:Th a b r->Th (.p c :: a) (.d c :: b) r
noncomputable def sub(L:List Tq):Tq->Tq
 |.at j=>L.getD j (.sg 0)
 |.sg c=>.sg c
theorem qb{L M:List Tq}{q:Tq}{j:Nat}(h:L.length=j):sub (L++q :: M) (.at j)=q:=by
 subst h;simp[sub]
theorem Th.told{a b r:List At}(h:Th a b r):∀(i j:Nat) (L:List Tq),L.length=j->tA i r=(tA j b).map (sub (L++tA i a)):=by
 induction h with
 |nil=>intro i j L hL;rfl
 |d h ih=>intro i j L hL;exact ih (i+1) j L hL
 |p _ h ih=>intro i j L hL;simp only[tA,List.map_cons];rw[ih i j L hL];rfl
 |kk h ih=>
  intro i j L hL;simp only[tA,List.map_cons];rw[ih (i+1) (j+1) (L++[.at i]) (by simp[hL]),qb hL];simp
 |kd h ih=>
  intro i j L hL;simp only[tA];rw[ih (i+1) (j+1) (L++[.at i]) (by simp[hL])];simp
 |@pk _ _ _ c h ih=>
  intro i j L hL;simp only[tA,List.map_cons];rw[ih i (j+1) (L++[.sg c]) (by simp[hL]),qb hL];simp
 |@pd _ _ _ c h ih=>
  intro i j L hL;simp only[tA];rw[ih i (j+1) (L++[.sg c]) (by simp[hL])];simp
theorem Th.back{a b r:List At}(h:Th a b r):∀(i j:Nat) (L:List Tq),L.length=j->tA i (r.map oE)=(tA j (a.map oE)).map (sub (L++tA i (b.map oE))):=by
 induction h with
 |nil=>intro i j L hL;rfl
 |d h ih=>intro i j L hL;simp only[List.map_cons,oE,tA];rw[ih i j L hL];rfl
 |p _ h ih=>intro i j L hL;exact ih (i+1) j L hL
 |kk h ih=>
  intro i j L hL;simp only[List.map_cons,oE,tA];rw[ih (i+1) (j+1) (L++[.at i]) (by simp[hL]),qb hL];simp
 |@kd _ _ _ c h ih=>
  intro i j L hL;simp only[List.map_cons,oE,tA];rw[ih i (j+1) (L++[.sg c]) (by simp[hL]),qb hL];simp
 |pk h ih=>
  intro i j L hL;simp only[List.map_cons,oE,tA];rw[ih (i+1) (j+1) (L++[.at i]) (by simp[hL])];simp
 |@pd _ _ _ c h ih=>
  intro i j L hL;simp only[List.map_cons,oE,tA];rw[ih i (j+1) (L++[.sg c]) (by simp[hL])];simp
theorem Th.fit{a b r:List At}(h:Th a b r):∀t,aI (aA a) t=true->aI (aA b) (dA a t)=true->aI (aA r) t=true:=by
 induction h with
 |nil=>intro t h1 _;exact h1
 |d h ih=>
  intro t h1 h2;cases t with
  |nil=>simp[aA,aI]at h1
  |cons x t=>simp only[aA,aI,Bool.and_eq_true]at h1 ⊢;exact⟨h1.1,ih t h1.2 h2⟩
 |p _ h ih=>intro t h1 h2;exact ih t h1 h2
 |kk h ih=>
  intro t h1 h2;cases t with
  |nil=>simp[aA,aI]at h1
  |cons x t=>simp only[aA,aI,Bool.and_eq_true,dA,List.take_succ_cons,List.take_zero,List.drop_succ_cons,List.drop_zero,List.singleton_append]at h1 h2 ⊢;exact⟨h1.1,ih t h1.2 h2.2⟩
 |kd h ih=>
  intro t h1 h2;cases t with
  |nil=>simp[aA,aI]at h1
  |cons x t=>simp only[aA,aI,Bool.and_eq_true,dA,List.take_succ_cons,List.take_zero,List.drop_succ_cons,List.drop_zero,List.singleton_append]at h1 h2 ⊢;exact⟨h2.1,ih t h1.2 h2.2⟩
 |pk h ih=>intro t h1 h2;simp only[aA,dA,aI,Bool.and_eq_true]at h1 h2 ⊢;exact ih t h1 h2.2
 |pd h ih=>intro t h1 h2;simp only[aA,dA,aI,Bool.and_eq_true]at h1 h2 ⊢;exact ih t h1 h2.2
theorem Th.all:∀(n:Nat) (a b:List At) (t:List Nat),a.length+b.length<=n->aI (aA a) t=true->aI (aA b) (dA a t)=true->∃r,Th a b r:=by
 intro n;induction n with
 |zero=>
  intro a b t hn _ _;obtain rfl:a=[]:=List.length_eq_zero_iff.mp (by omega);obtain rfl:b=[]:=List.length_eq_zero_iff.mp (by omega);exact⟨[],.nil⟩
 |succ n ih=>
  intro a b t hn h1 h2;cases a with
  |nil=>
   cases b with
   |nil=>exact⟨[],.nil⟩
   |cons y b=>
    cases y with
    |p c=>obtain⟨r,h⟩:=ih [] b t (by simp at hn ⊢;omega) h1 h2;exact⟨_,.p rfl h⟩
    |k=>simp[aA,dA,aI]at h2
    |d c=>simp[aA,dA,aI]at h2
  |cons x a=>
   by_cases hd:Ca (x :: a)=true
   .cases b with
    |nil=>
     cases x with
     |d c=>cases hd
     |k=>cases t<;>simp[aA,dA,aI]at h1 h2
     |p c=>simp[aA,dA,aI]at h2
    |cons y b=>
     cases y with
     |p c=>obtain⟨r,h⟩:=ih (x :: a) b t (by simp at hn ⊢;omega) h1 h2;exact⟨_,.p hd h⟩
     |k=>
      cases x with
      |d c=>cases hd
      |k=>
       cases t with
       |nil=>simp[aA,aI]at h1
       |cons z t=>
        simp[aA,aI,dA]at h1 h2;obtain⟨r,h⟩:=ih a b t (by simp at hn ⊢;omega) h1 h2;exact⟨_,.kk h⟩
      |p c=>
       simp[aA,aI,dA]at h1 h2;obtain⟨r,h⟩:=ih a b t (by simp at hn ⊢;omega) h1 h2;exact⟨_,.pk h⟩
     |d c'=>
      cases x with
      |d c=>cases hd
      |k=>
       cases t with
       |nil=>simp[aA,aI]at h1
       |cons z t=>
        simp[aA,aI,dA]at h1 h2;obtain⟨r,h⟩:=ih a b t (by simp at hn ⊢;omega) h1 h2.2;exact⟨_,.kd h⟩
      |p c=>
       simp[aA,aI,dA]at h1 h2;obtain⟨rfl,h2⟩:=h2;obtain⟨r,h⟩:=ih a b t (by simp at hn ⊢;omega) h1 h2;exact⟨_,.pd h⟩
   .cases x with
    |k=>exact absurd rfl hd
    |p c=>exact absurd rfl hd
    |d c=>
     cases t with
     |nil=>simp[aA,aI]at h1
     |cons z t=>
      simp[aA,aI]at h1;obtain⟨r,h⟩:=ih a b t (by simp at hn ⊢;omega) h1.2 h2;exact⟨_,.d h⟩
theorem Th.done{a b r:List At}(h:Th a b r):∀t,aI (aA a) t=true->dA r t=dA b (dA a t):=by
 induction h with
 |nil=>intro t _;rfl
 |d h ih=>
  intro t h1;cases t with
  |nil=>simp[aA,aI]at h1
  |cons x t=>simp only[aA,aI,Bool.and_eq_true]at h1;simp only[dA];exact ih t h1.2
 |p _ h ih=>intro t h1;simp only[dA];rw[ih t h1]
 |kk h ih=>
  intro t h1;cases t with
  |nil=>simp[aA,aI]at h1
  |cons x t=>simp only[aA,aI,Bool.and_eq_true]at h1;simp[dA,ih t h1.2]
 |kd h ih=>
  intro t h1;cases t with
  |nil=>simp[aA,aI]at h1
  |cons x t=>simp only[aA,aI,Bool.and_eq_true]at h1;simp[dA,ih t h1.2]
 |pk h ih=>intro t h1;simp[dA,ih t h1]
 |pd h ih=>intro t h1;simp[dA,ih t h1]
theorem Th.cost{a b r:List At}(h:Th a b r):cA r<=cA a+cA b:=by induction h<;>simp[cA]<;>omega
theorem Th.len{a b r:List At}(h:Th a b r):r.length<=a.length+b.length:=by induction h<;>simp<;>omega
theorem Th.ds{b r:List At}:∀{s:List Nat}{a:List At},Th (s.map .d++a) b r->∃r',r=s.map .d++r'/\Th a b r'
 |[],a,h=>⟨r,rfl,h⟩
 |c :: s,a,h=>by
  cases h with
  |d h=>obtain⟨r',rfl,h'⟩:=Th.ds h;exact⟨r',rfl,h'⟩
  |p hn h=>cases hn
theorem Th.ps{a r:List At}(hn:Ca a=true):∀{s:List Nat}{b:List At},Th a (s.map .p++b) r->∃r',r=s.map .p++r'/\Th a b r'
 |[],b,h=>⟨r,rfl,h⟩
 |c :: s,b,h=>by
  cases h with
  |d h=>cases hn
  |p _ h=>obtain⟨r',rfl,h'⟩:=Th.ps hn h;exact⟨r',rfl,h'⟩
theorem Th.Vc{a b r:List At}:∀{n:Nat},Th (List.replicate n .k++a) (List.replicate n .k++b) r->∃r',r=List.replicate n .k++r'/\Th a b r':=λ{n}=>by
 induction n generalizing r with
 |zero=>intro h;exact⟨r,rfl,h⟩
 |succ n ih=>intro h;cases h with|kk h=>obtain⟨r',rfl,h'⟩:=ih h;exact⟨r',rfl,h'⟩
theorem Th.Vd{a b r:List At}:∀{s:List Nat},Th (List.replicate s.length .k++a) (s.map .d++b) r->∃r',r=s.map .d++r'/\Th a b r':=λ{s}=>by
 induction s generalizing r with
 |nil=>intro h;exact⟨r,rfl,h⟩
 |cons c s ih=>intro h;cases h with|kd h=>obtain⟨r',rfl,h'⟩:=ih h;exact⟨r',rfl,h'⟩
theorem Th.Ve{a b r:List At}:∀{s:List Nat},Th (s.map .p++a) (List.replicate s.length .k++b) r->∃r',r=s.map .p++r'/\Th a b r':=λ{s}=>by
 induction s generalizing r with
 |nil=>intro h;exact⟨r,rfl,h⟩
 |cons c s ih=>intro h;cases h with|pk h=>obtain⟨r',rfl,h'⟩:=ih h;exact⟨r',rfl,h'⟩
theorem Th.Qv{a b r:List At}:∀{s s':List Nat},s.length=s'.length->Th (s.map .p++a) (s'.map .d++b) r->s=s'/\Th a b r
 |[],[],_,h=>⟨rfl,h⟩
 |[],_ :: _,hl,_=>by simp at hl
 |_ :: _,[],hl,_=>by simp at hl
 |c :: s,c' :: s',hl,h=>by cases h with|pd h=>obtain⟨rfl,h'⟩:=Th.Qv (by simpa using hl) h;exact⟨rfl,h'⟩
theorem Ek{c:List Pt}{t:List Nat}(h:au c t=true):(aE c t).length=gP c:=by
 rw[gQ (vg c t h).1,Mw]
end Pv
namespace Pv
open Ev (D bO bJ TY BI ME T E Es Eo It S Ss Fn big deep b2i rep cj dF bI aQ cut cI dX slots)
noncomputable def El(qP:Nat)(dS:Nat):S:=.iff (.cmp .ne (.cl qP (.cons (.v 0) .nil)) (.cl dS (.cons (.v 1) .nil))) (.cons (.gf) .nil) .nil
noncomputable def Em(cg:Nat):S:=.set 2 (.je (.rev (.cl cg (.cons (.v 0) .nil))))
noncomputable def En(cg:Nat):S:=.set 3 (.je (.rev (.cl cg (.cons (.v 1) .nil))))
noncomputable def Ep:S:=.set 4 (.lst .nil)
noncomputable def vp(b9:Nat)(qc:Nat)(jw:Nat):Ss:=(.cons (.iff (.an (.v 2) (.cmp .eq (.ix (.ix (.v 2) (.neg (.c (.int 1)))) (.c (.int 0))) (.c (.str [100,114,111,112])))) (.cons (.exp (.me .append (.v 4) (.cons (.me .pop (.v 2) .nil) .nil))) .nil) (.cons (.iff (.an (.v 3) (.cmp .eq (.ix (.ix (.v 3) (.neg (.c (.int 1)))) (.c (.int 0))) (.c (.str [112,117,116])))) (.cons (.exp (.me .append (.v 4) (.cons (.me .pop (.v 3) .nil) .nil))) .nil) (.cons (.set 5 (.bi .min (.cons (.cl b9 (.cons (.ix (.v 2) (.neg (.c (.int 1)))) .nil)) (.cons (.cl b9 (.cons (.ix (.v 3) (.neg (.c (.int 1)))) .nil)) .nil)))) (.cons (.exp (.me .extend (.v 4) (.cons (.cl qc (.cons (.cl jw (.cons (.v 2) (.cons (.v 5) .nil))) (.cons (.cl jw (.cons (.v 3) (.cons (.v 5) .nil))) .nil))) .nil))) .nil))) .nil)) .nil)
noncomputable def Er(b9:Nat)(qc:Nat)(jw:Nat):S:=.o8 (.orr (.v 2) (.v 3)) (vp b9 qc jw)
noncomputable def Et(cg:Nat):S:=.ret (.cl cg (.cons (.iz (.v 4)) .nil))
noncomputable def kO(qP:Nat)(dS:Nat)(cg:Nat)(b9:Nat)(qc:Nat)(jw:Nat):Fn:=⟨2,6,(.cons (El qP dS) (.cons (Em cg) (.cons (En cg) (.cons Ep (.cons (Er b9 qc jw) (.cons (Et cg) .nil))))))⟩
noncomputable def Ij:S:=.iff (.cmp .eq (.ix (.v 1) (.c (.int 0))) (.c (.str [107,101,101,112]))) (.cons (.ret (.lst (.cons (.v 0) .nil))) .nil) .nil
noncomputable def Ik:S:=.iff (.cmp .eq (.ix (.v 0) (.c (.int 0))) (.c (.str [107,101,101,112]))) (.cons (.ret (.lst (.cons (.v 1) .nil))) .nil) .nil
noncomputable def Il:S:=.iff (.cmp .ne (.ix (.v 0) (.c (.int 1))) (.ix (.v 1) (.c (.int 1)))) (.cons (.gf) .nil) .nil
noncomputable def Im:S:=.ret (.lst .nil)
noncomputable def sZ:Fn:=⟨2,2,(.cons Ij (.cons Ik (.cons Il (.cons Im .nil))))⟩
noncomputable def Cb(oX:Nat):S:=.set 2 (.cl oX (.cons (.me .pop (.v 0) .nil) (.cons (.v 1) .nil)))
noncomputable def Cc(b9:Nat):S:=.iff (.cmp .gt (.cl b9 (.cons (.ix (.v 2) (.c (.int 1))) .nil)) (.c (.int 0))) (.cons (.exp (.me .append (.v 0) (.cons (.ix (.v 2) (.c (.int 1))) .nil))) .nil) .nil
noncomputable def Cd:S:=.ret (.ix (.v 2) (.c (.int 0)))
noncomputable def kP(oX:Nat)(b9:Nat):Fn:=⟨2,3,(.cons (Cb oX) (.cons (Cc b9) (.cons Cd .nil)))⟩
noncomputable def zE:S:=.set 2 (.ix (.v 0) (.c (.int 0)))
noncomputable def zF:S:=.iff (.cmp .eq (.v 2) (.c (.str [107,101,101,112]))) (.cons (.ret (.tup (.cons (.tup (.cons (.v 2) (.cons (.v 1) .nil))) (.cons (.tup (.cons (.v 2) (.cons (.bin .sub (.ix (.v 0) (.c (.int 1))) (.v 1)) .nil))) .nil)))) .nil) .nil
noncomputable def zG:S:=.ret (.tup (.cons (.tup (.cons (.v 2) (.cons (.sl (.ix (.v 0) (.c (.int 1))) .no (.yes (.v 1))) .nil))) (.cons (.tup (.cons (.v 2) (.cons (.sl (.ix (.v 0) (.c (.int 1))) (.yes (.v 1)) .no) .nil))) .nil)))
noncomputable def iH:Fn:=⟨2,3,(.cons zE (.cons zF (.cons zG .nil)))⟩
noncomputable def Pt.tk(m:Nat):Pt->Pt
 |.keep _=>.keep m
 |.put s=>.put (s.take m)
 |.drop s=>.drop (s.take m)
noncomputable def Pt.dp(m:Nat):Pt->Pt
 |.keep k=>.keep (k - m)
 |.put s=>.put (s.drop m)
 |.drop s=>.drop (s.drop m)
theorem tw{α:Type}(l:List α)(m:Nat):cut l none (some (m:Int))=l.take m:=by
 have h1:¬ (m:Int)<0:=by omega
 simp only[cut,aQ,h1,if_false,Int.toNat_natCast,List.drop_zero,Nat.sub_zero];by_cases h:m<=l.length
 .rw[Nat.min_eq_left h]
 .rw[Nat.min_eq_right (by omega),List.take_of_length_le (Nat.le_refl _),List.take_of_length_le (by omega)]
theorem zH{α:Type}(l:List α)(m:Nat):cut l (some (m:Int)) none=l.drop m:=by
 have h1:¬ (m:Int)<0:=by omega
 simp only[cut,aQ,h1,if_false,Int.toNat_natCast];by_cases h:m<=l.length
 .rw[Nat.min_eq_left h,List.take_of_length_le (by simp)]
 .rw[Nat.min_eq_right (by omega),List.drop_eq_nil_of_le (Nat.le_refl _),List.drop_eq_nil_of_le (by omega)];simp
section
variable{F:List Fn}{w n cE az dc bP bN aW dP bz fX qd i:Nat}
theorem zI(hf:F[i]?=some iH)(p:Pt)(m:Nat)(h:m<=p.n):run F w (n+1) i [.val p.v,.val (.int m)]=some (.tup [(p.tk m).v,(p.dp m).v],[]):=by
 refine b8 hf rfl ?_;cases p with
 |keep k=>
  refine ai (bG (by repeat array_get_dec) rfl rfl ?_);refine ai (aP (by repeat array_get_dec) (λ_=>?_) λh=>absurd h (by decide));refine ai (bT (by repeat array_get_dec) ⟨?_,rfl⟩);have:(k:Int) - m=((k - m:Nat):Int):=by simp only[Pt.n]at h;omega
  exact congrArg (λz=>Fl.ret (V.tup [V.tup [V.str dY,V.int m],V.tup [V.str dY,V.int z]])) this
 |put s=>
  have c1:fP (.str s) none (some (m:Int))=some (.str (s.take m)):=by rw[gK,tw]
  have c2:fP (.str s) (some (m:Int)) none=some (.str (s.drop m)):=by rw[gK,zH]
  refine ai (bG (by repeat array_get_dec) rfl rfl ?_);refine ai (aP (by repeat array_get_dec) (λh=>absurd h (by decide)) λ_=>aB ?_);exact ai (bT (by repeat array_get_dec) ⟨rfl,rfl⟩)
 |drop s=>
  have c1:fP (.str s) none (some (m:Int))=some (.str (s.take m)):=by rw[gK,tw]
  have c2:fP (.str s) (some (m:Int)) none=some (.str (s.drop m)):=by rw[gK,zH]
  refine ai (bG (by repeat array_get_dec) rfl rfl ?_);refine ai (aP (by repeat array_get_dec) (λh=>absurd h (by decide)) λ_=>aB ?_);exact ai (bT (by repeat array_get_dec) ⟨rfl,rfl⟩)
theorem qQ(m:Nat)(p:Pt):(p.dp m).n=p.n - m:=by cases p<;>simp[Pt.dp,Pt.n]
theorem su(hs:F[az]?=some dG)(hp:F[cE]?=some iH)(hf:F[i]?=some (kP cE az))(L:List V)(p:Pt)(m:Nat)(h:m<=p.n)(hn:p.n<=100000)(hL:L.length<=10000) :
  run F w (n+2) i [.bor (L++[p.v]),.val (.int m)]=some ((p.tk m).v,[L++if 0<p.n - m then [(p.dp m).v]else []]):=by
 refine b8 hf rfl ?_;have c1:=λfr=>call2 (fr:=fr) (zI (F:=F) (w:=w) (n:=n) hp p m h);have c2:=λfr=>cR (fr:=fr) (jN (F:=F) (w:=w) (n:=n) hs (p.dp m) (by rw[qQ];omega));have po:∀fr:Fr,gO .pop 0 [] fr (some (some (.bor (L++[p.v]))))=.ok p.v (fr.set 0 (some (.bor L))):=λfr=>HV;have ap:∀fr:Fr,gO .append 0 [(p.dp m).v] fr (some (some (.bor L)))=.ok .aG (fr.set 0 (some (.bor (L++[(p.dp m).v])))):=λfr=>HU (by omega);refine ai (bG (by (repeat (first|array_get_dec|exact po _|exact c1 _))) rfl rfl ?_);refine ai (aP (by (repeat (first|array_get_dec|exact c2 _))) (λh=>?_) λh=>?_)
 .have h':=of_decide_eq_true h;rw[qQ]at h';rw[if_pos (by omega)];refine ai (gv (by (repeat (first|array_get_dec|exact ap _))) (aB ?_));exact ai (bT (by repeat array_get_dec) ⟨rfl,rfl⟩)
 .have h':=of_decide_eq_false h;rw[qQ]at h';rw[if_neg (by omega),List.append_nil];exact aB (ai (bT (by repeat array_get_dec) ⟨rfl,rfl⟩))
noncomputable def lJ:Pt->Pt->Option (List Pt)
 |l,.keep _=>some [l]
 |.keep _,g=>some [g]
 |.put s,.drop s'=>if s=s' then some []else none
 |_,_=>none
theorem Io(hf:F[i]?=some sZ)(p q:Pt)(r:List Pt)(h:lJ p q=some r):run F w (n+1) i [.val p.v,.val q.v]=some (.lst (r.map Pt.v),[]):=by
 refine b8 hf rfl ?_;cases q with
 |keep k=>
  simp only[lJ,Option.some.injEq]at h;subst h;refine ai (aP (by repeat array_get_dec) (λ_=>?_) λh=>absurd h (by decide));exact ai (bT (by repeat array_get_dec) ⟨rfl,rfl⟩)
 |put s=>
  cases p<;>simp[lJ]at h
  subst h;refine ai (aP (by repeat array_get_dec) (λh=>absurd h (by decide)) λ_=>aB ?_);refine ai (aP (by repeat array_get_dec) (λ_=>?_) λh=>absurd h (by decide));exact ai (bT (by repeat array_get_dec) ⟨rfl,rfl⟩)
 |drop s'=>
  cases p with
  |keep k=>
   simp only[lJ,Option.some.injEq]at h;subst h;refine ai (aP (by repeat array_get_dec) (λh=>absurd h (by decide)) λ_=>aB ?_);refine ai (aP (by repeat array_get_dec) (λ_=>?_) λh=>absurd h (by decide));exact ai (bT (by repeat array_get_dec) ⟨rfl,rfl⟩)
  |drop s=>simp[lJ]at h
  |put s=>
   simp only[lJ]at h;split at h
   .rename_i hs;subst hs;cases h;refine ai (aP (by repeat array_get_dec) (λh=>absurd h (by decide)) λ_=>aB ?_);refine ai (aP (by repeat array_get_dec) (λh=>absurd h (by decide)) λ_=>aB ?_);refine ai (aP (by repeat array_get_dec) (λh=>?_) λ_=>aB ?_)
    .simp at h
    .exact ai (bT (by repeat array_get_dec) ⟨rfl,rfl⟩)
   .cases h
theorem iI{l:List V}{v:V}:ee (.lst (l++[v])) (.int (-1))=some v:=by rw[nF,Ml];simp
theorem j5{l:List V}{v:V}:truthy (.lst (l++[v]))=true:=by simp
theorem FH{P:aM}{f i:Nat}{fr:Fr}{b v:V}{l l':List V}(e:fr[i]?=some (some (.own l)))(h:P f [.bor l,.val b]=some (v,[l'])):cQ P f [.inl i,.inr b] fr=.ok v (fr.set i (some (.own l'))):=by
 have e1:lent fr i=some (.bor l):=by rw[xS,e];rfl
 simp[cQ,bR,args,e1,h,back,e,Sl.with]
theorem iJ{c:List Pt}(h:kK c=true):∀p∈c,0<p.n:=λp hp=>by
 simp only[kK,Bool.and_eq_true,List.all_eq_true]at h;have:=h.2 p hp;simp only[Mv,bne_iff_ne,ne_eq]at this;omega
theorem gR:∀{c:List Pt},(∀p∈c,0<p.n)->c.length<=tot c
 |[],_=>by simp[tot]
 |p :: c,h=>by
  have h1:=h p (by simp);have h2:=gR (c:=c) λq hq=>h q (by simp[hq]);rw[bh,List.length_cons];omega
theorem zJ{p:Pt}{m:Nat}(h:m<=p.n):(p.tk m).aJ++(p.dp m).aJ=p.aJ/\(p.tk m).n=m:=by
 cases p with
 |keep k=>simp only[Pt.n]at h;simp[Pt.tk,Pt.dp,Pt.aJ,Pt.n,h]
 |put s=>simp only[Pt.n]at h;simp[Pt.tk,Pt.dp,Pt.aJ,Pt.n,h,<-List.map_append]
 |drop s=>simp only[Pt.n]at h;simp[Pt.tk,Pt.dp,Pt.aJ,Pt.n,h,<-List.map_append]
noncomputable def j6(m:Nat)(p:Pt):List Pt:=if 0<p.n - m then [p.dp m]else []
theorem x8{p:Pt}{m:Nat}(h:m<=p.n):p.aJ=(p.tk m).aJ++aJ (j6 m p):=by
 rw[<- (zJ h).1]
 congr 1
 unfold j6;split
 .simp[aJ]
 .rename_i hz;have:(p.dp m).aJ.length=0:=by rw[vm,qQ];omega
  rw[List.length_eq_zero_iff.mp this];rfl
theorem x9(m:Nat)(p:Pt):∀q∈j6 m p,0<q.n:=λq hq=>by
 unfold j6 at hq;split at hq
 .simp at hq;subst hq;rw[qQ];omega
 .simp at hq
theorem Ip(m:Nat)(p:Pt)(A:List Pt):((j6 m p++A).map Pt.v).reverse=(A.map Pt.v).reverse++if 0<p.n - m then [(p.dp m).v]else []:=by
 unfold j6;split<;>simp
theorem nR(m:Nat)(p:Pt):tot (j6 m p)=p.n - m:=by
 unfold j6;split
 .simp[tot,qQ]
 .simp[tot];omega
theorem yc{m:Nat}{p:Pt}:dH (p.tk m)=dH p/\ez (p.tk m)=ez p:=by cases p<;>exact⟨rfl,rfl⟩
theorem Mx{A B r:List At}(p q:Pt)(hp:dH p=false)(hq:ez q=false)(hn:p.n=q.n)(h:Th (p.aJ++A) (q.aJ++B) r):∃m r',lJ p q=some m/\m.length<=1/\r=aJ m++r'/\Th A B r':=by
 cases p with
 |drop s=>cases hp
 |keep k=>
  cases q with
  |put s=>cases hq
  |keep k'=>simp only[Pt.n]at hn;subst hn;obtain⟨r',rfl,h'⟩:=Th.Vc h;exact⟨[.keep k],r',rfl,by simp,by simp[aJ,Pt.aJ],h'⟩
  |drop s=>simp only[Pt.n]at hn;subst hn;obtain⟨r',rfl,h'⟩:=Th.Vd h;exact⟨[.drop s],r',rfl,by simp,by simp[aJ,Pt.aJ],h'⟩
 |put s=>
  cases q with
  |put s'=>cases hq
  |keep k'=>simp only[Pt.n]at hn;subst hn;obtain⟨r',rfl,h'⟩:=Th.Ve h;exact⟨[.put s],r',rfl,by simp,by simp[aJ,Pt.aJ],h'⟩
  |drop s'=>simp only[Pt.n]at hn;obtain⟨rfl,h'⟩:=Th.Qv hn h;exact⟨[],r,by simp[lJ],by simp,by simp[aJ],h'⟩
structure Tn(one other c:List Pt)(t:List Nat):Prop where
 Vf:aL c=c
 fit:au c t=true
 dn:aE c t=aE other (aE one t)
 Vg:told 0 c=(told 0 other).map (sub (told 0 one))
 Vh:told 0 (sw c)=(told 0 (sw one)).map (sub (told 0 (sw other)))
 cs:cst c<=cst one+cst other
 tt:tot c<=tot one+tot other
 ln:c.length<=tot c
 th:∃ps,c=aL ps/\Th (aJ (aL one)) (aJ (aL other)) (aJ ps)
theorem OH{one other ps:List Pt}{t:List Nat}(h1:au one t=true)(h2:au other (aE one t)=true)(h:Th (aJ (aL one)) (aJ (aL other)) (aJ ps)):Tn one other (aL ps) t:=by
 have f1:aI (aA (aJ (aL one))) t=true:=by rw[<-cX,cW,<-cH];exact h1
 have f2:aI (aA (aJ (aL other))) (dA (aJ (aL one)) t)=true:=by rw[<-cX,cW,<-eK,cP,<-cH];exact h2
 have b:=h.back 0 0 [] rfl;rw[<-vn,<-vn,<-vn,<-iG,<-iG,<-iG]at b;have sf:∀c i,told i (sw (aL c))=told i (sw c):=λc i=>by
  have:=congrArg (told i) (Ig (j3 c));rwa [eB,eB]at this
 refine⟨j3 _,?_,?_,?_,?_,?_,?_,gR (iJ (gz _)),ps,rfl,h⟩
 .rw[gA,cH,cX];exact h.fit t f1 f2
 .rw[cP,eK,h.done t f1,<-eK,cP,<-eK,cP]
 .have:=h.told 0 0 [] rfl;rw[<-iG,<-iG,<-iG,eB,eB]at this;rw[eB];exact this
 .rw[sf,<-sf one,<-sf other];exact b
 .have:=h.cost;rw[<-qO,<-qO,<-qO,oW,oW]at this;rw[oW];exact this
 .have:=h.len;rw[ju,ju,ju,fV,fV]at this;rw[fV];exact this
section
variable(hs:F[az]?=some dG)(hp:F[cE]?=some iH)(ht:F[bP]?=some (kP cE az))(hm:F[dc]?=some sZ){one other:List Pt}{r:List At}{N:Nat}(hN:N<=5000)
noncomputable def fJ(one other A B C:List Pt)(a:Option Sl):Fr:=[some (.val (av one)),some (.val (av other)),some (.own (A.map Pt.v).reverse),some (.own (B.map Pt.v).reverse),some (.own (C.map Pt.v)),a]
noncomputable def Qw(one other:List Pt)(r:List At)(N k:Nat)(fr:Fr):Prop:=∃A B C r' a,Th (aJ A) (aJ B) r'/\aJ C++r'=r/\(∀p∈A,0<p.n)/\(∀p∈B,0<p.n)/\C.length+k<=N/\k=tot A+tot B/\vo a/\fr=fJ one other A B C a
include hs hp ht hm hN
noncomputable def Ce(az dc bP:Nat):Ss:=(.cons (.set 5 (.bi .min (.cons (.cl az (.cons (.ix (.v 2) (.neg (.c (.int 1)))) .nil)) (.cons (.cl az (.cons (.ix (.v 3) (.neg (.c (.int 1)))) .nil)) .nil)))) (.cons (.exp (.me .extend (.v 4) (.cons (.cl dc (.cons (.cl bP (.cons (.v 2) (.cons (.v 5) .nil))) (.cons (.cl bP (.cons (.v 3) (.cons (.v 5) .nil))) .nil))) .nil))) .nil))
noncomputable def vq(az dc bP:Nat):Ss:=.cons (.iff (.an (.v 3) (.cmp .eq (.ix (.ix (.v 3) (.neg (.c (.int 1)))) (.c (.int 0))) (.c (.str [112,117,116])))) (.cons (.exp (.me .append (.v 4) (.cons (.me .pop (.v 3) .nil) .nil))) .nil) (Ce az dc bP)) .nil
noncomputable def vt(one other:List Pt)(r:List At)(N t:Nat)(g:Fl)(fr:Fr):Prop:=g=.nx/\∃j,j<t/\Qw one other r N j fr
omit hs hp ht hm hN in
theorem Cf{C:List Pt}(lC:C.length<=5000)(d:Pt)(fr:Fr):gO .append 4 [d.v] fr (some (some (.own (C.map Pt.v))))=.ok .aG (fr.set 4 (some (.own ((C++[d]).map Pt.v)))):=by
 rw[List.map_append];exact nG (by simp;omega)
omit hs hp ht hm in
theorem vv(A B C:List Pt)(s:List Nat)(r':List At)(a:Option Sl)(h:Th (aJ A) (aJ (.put s :: B)) r')(hn:Ca (aJ A)=true)(hC:aJ C++r'=r)(hA:∀p∈A,0<p.n)(hB:∀p∈(.put s :: B),0<p.n)(hk:C.length+(tot A+tot (.put s :: B))<=N)(ha:vo a) :
  Wp (exs (run F w (n+2)) w (vq az dc bP) (fJ one other A (.put s :: B) C a)) (vt one other r N (tot A+tot (.put s :: B))):=by
 have lC:C.length<=5000:=by omega
 rw[cB]at h;obtain⟨r2,e2,h2⟩:=Th.ps hn h;have hs1:=hB (.put s) (by simp);unfold fJ;rw[List.map_cons,List.reverse_cons];refine ai (aP (fF (aH rfl (ay rfl) j5) (by (repeat (first|array_get_dec|exact iI)))) (λ_=>?_) λh=>absurd h (by decide));refine ai (gv (by (repeat (first|array_get_dec|exact xU|exact Cf lC _ _))) (aB (aB ?_)));refine⟨rfl,tot A+tot B,by rw[bh];omega,A,B,C++[.put s],r2,a,h2,?_,hA,λx hx=>hB x (by simp[hx]),?_,rfl,ha,rfl⟩
 .rw[<-hC,e2,kN];simp[aJ,Pt.aJ]
 .rw[bh]at hk;simp;omega
omit hN in
theorem My(A B C mm:List Pt)(p q:Pt)(m:Nat)(a:Option Sl)(mn:cC .min [.int p.n,.int q.n]=some (.int m))(hm1:m<=p.n)(hm2:m<=q.n)(lp:p.n<=5000)(lq:q.n<=5000)(lA:A.length<=5000)(lB:B.length<=5000)(lC:C.length+mm.length<=10000)(e1:lJ (p.tk m) (q.tk m)=some mm)(ha:vo a)(Q:Fl->Fr->Prop)
  (hQ:Q .nx (fJ one other (j6 m p++A) (j6 m q++B) (C++mm) (some (.val (.int m))))):Wp (exs (run F w (n+2)) w (Ce az dc bP) (fJ one other (p :: A) (q :: B) C a)) Q:=by
 have z1:=λfr=>cR (fr:=fr) (jN (F:=F) (w:=w) (n:=n+1) hs p (Nat.le_trans lp (by decide)));have z2:=λfr=>cR (fr:=fr) (jN (F:=F) (w:=w) (n:=n+1) hs q (Nat.le_trans lq (by decide)));have t1:=su (F:=F) (w:=w) (n:=n) hs hp ht (A.map Pt.v).reverse p m hm1 (by omega) (by simp;omega);have t2:=su (F:=F) (w:=w) (n:=n) hs hp ht (B.map Pt.v).reverse q m hm2 (by omega) (by simp;omega);rw[<-Ip]at t1 t2;have cm:=λfr=>call2 (fr:=fr) (Io (F:=F) (w:=w) (n:=n+1) hm _ _ mm e1);have ex:∀fr:Fr,gO .extend 4 [.lst (mm.map Pt.v)] fr (some (some (.own (C.map Pt.v))))=.ok .aG (fr.set 4 (some (.own ((C++mm).map Pt.v)))):=λfr=>by
  rw[List.map_append];exact xT (by simp;omega)
 unfold fJ at hQ ⊢;rw[List.map_cons,List.reverse_cons,List.map_cons,List.reverse_cons];refine ai (bG (by (repeat (first|array_get_dec|exact iI|exact z1 _|exact z2 _))) rfl (gp rfl ha) ?_);exact ai (gv (by (repeat (first|array_get_dec|exact FH rfl t1|exact FH rfl t2|exact cm _|exact ex _))) (aB hQ))
theorem Eu(A B C:List Pt)(p q:Pt)(r':List At)(a:Option Sl)(hd:dH p=false)(hq:ez q=false)(h:Th (aJ (p :: A)) (aJ (q :: B)) r')(hC:aJ C++r'=r)(hA:∀x∈p :: A,0<x.n)(hB:∀x∈q :: B,0<x.n)(hk:C.length+(tot (p :: A)+tot (q :: B))<=N)(ha:vo a) :
  Wp (exs (run F w (n+2)) w (vq az dc bP) (fJ one other (p :: A) (q :: B) C a)) (vt one other r N (tot (p :: A)+tot (q :: B))):=by
 have hp0:=hA p (by simp);have Qa:=hB q (by simp);obtain⟨m,hm1,hm2,VS⟩:∃m:Nat,m<=p.n/\m<=q.n/\(m=p.n\/m=q.n):=⟨min p.n q.n,by omega,by omega,by omega⟩
 have mn:cC .min [.int p.n,.int q.n]=some (.int m):=by
  rw[LP];split
  .congr 2;omega
  .congr 2;omega
 rw[bh,bh]at hk;have lA:=gR (c:=A) λx hx=>hA x (by simp[hx]);have lB:=gR (c:=B) λx hx=>hB x (by simp[hx]);have h3:Th ((p.tk m).aJ++aJ (j6 m p++A)) ((q.tk m).aJ++aJ (j6 m q++B)) r':=by
  rw[kN,kN,<-List.append_assoc,<-List.append_assoc,<-x8 hm1,<-x8 hm2,<-cB,<-cB];exact h
 obtain⟨mm,r2,e1,e2,e3,h4⟩:=Mx (p.tk m) (q.tk m) (by rw[yc.1];exact hd) (by rw[yc.2];exact hq) (by rw[(zJ hm1).2,(zJ hm2).2]) h3;have fin:vt one other r N (tot (p :: A)+tot (q :: B)) .nx (fJ one other (j6 m p++A) (j6 m q++B) (C++mm) (some (.val (.int m)))):=by
  refine⟨rfl,_,?_,_,_,_,r2,_,h4,?_,?_,?_,?_,rfl,.val,rfl⟩
  .rw[gb,gb,nR,nR,bh,bh];omega
  .rw[kN,List.append_assoc,<-e3];exact hC
  .intro x hx;rcases List.mem_append.mp hx with hx|hx
   .exact x9 m p x hx
   .exact hA x (List.mem_cons_of_mem _ hx)
  .intro x hx;rcases List.mem_append.mp hx with hx|hx
   .exact x9 m q x hx
   .exact hB x (List.mem_cons_of_mem _ hx)
  .rw[gb,gb,nR,nR,List.length_append];omega
 have st:=My (one:=one) (other:=other) (w:=w) (n:=n) hs hp ht hm A B C mm p q m a mn hm1 hm2 (by omega) (by omega) (by omega) (by omega) (by omega) e1 ha _ (show nx (run F w (n+2)) w .nil (vt one other r N (tot (p :: A)+tot (q :: B))) .nx _ from aB fin);unfold fJ at st ⊢;rw[List.map_cons,List.reverse_cons,List.map_cons,List.reverse_cons]at st ⊢;cases q with
 |put s=>cases hq
 |keep k=>exact ai (aP (fF (aH rfl (ay rfl) j5) (by (repeat (first|array_get_dec|exact iI)))) (λh=>absurd h (by decide)) λ_=>st)
 |drop s=>exact ai (aP (fF (aH rfl (ay rfl) j5) (by (repeat (first|array_get_dec|exact iI)))) (λh=>absurd h (by decide)) λ_=>st)
omit hs hp ht hm hN in
theorem Qx{b r:List At}{x:At}(h:Th [] (x :: b) r):∃c,x=.p c:=by cases h with|p=>exact⟨_,rfl⟩
omit hs hp ht hm hN in
theorem Qy{a r:List At}{x:At}(h:Th (x :: a) [] r):∃c,x=.d c:=by cases h with|d=>exact⟨_,rfl⟩
theorem Cg(A B C:List Pt)(r':List At)(a:Option Sl)(hne:A≠[]\/B≠[])(h:Th (aJ A) (aJ B) r')(hC:aJ C++r'=r)(hA:∀p∈A,0<p.n)(hB:∀p∈B,0<p.n)(hk:C.length+(tot A+tot B)<=N)(ha:vo a) :
  Wp (exs (run F w (n+2)) w (vp az dc bP) (fJ one other A B C a)) (vt one other r N (tot A+tot B)):=by
 cases A with
 |nil=>
  cases B with
  |nil=>exact absurd hne (by simp)
  |cons q B'=>
   refine ai (aP (jK (aH rfl (ay rfl) rfl)) (λh=>absurd h (by decide)) λ_=>?_);have hq:=hB q (by simp);cases q with
   |put s=>exact(vv hN [] B' C s r' a h rfl hC hA hB hk ha).mono λg fr ⟨hg,hx⟩=>by subst hg;exact aB ⟨rfl,hx⟩
   |keep k=>
    rw[cB]at h;cases k with
    |zero=>exact absurd hq (Nat.lt_irrefl 0)
    |succ k=>obtain⟨c,e⟩:=Qx (x:=.k) h;cases e
   |drop s=>
    rw[cB]at h;cases s with
    |nil=>exact absurd hq (Nat.lt_irrefl 0)
    |cons c s=>obtain⟨c,e⟩:=Qx (x:=.d c) h;cases e
 |cons p A'=>
  have hp0:=hA p (by simp);cases hd:dH p with
  |true=>
   cases p with
   |keep k=>cases hd
   |put s=>cases hd
   |drop s=>
    have lC:C.length<=5000:=by omega
    rw[cB]at h;obtain⟨r2,e2,h2⟩:=Th.ds h;unfold fJ;rw[List.map_cons,List.reverse_cons];refine ai (aP (fF (aH rfl (ay rfl) j5) (by (repeat (first|array_get_dec|exact iI)))) (λ_=>?_) λh=>absurd h (by decide));refine ai (gv (by (repeat (first|array_get_dec|exact xU|exact Cf lC _ _))) (aB (aB ?_)));refine⟨rfl,tot A'+tot B,by rw[bh];omega,A',B,C++[.drop s],r2,a,h2,?_,λx hx=>hA x (by simp[hx]),hB,?_,rfl,ha,rfl⟩
    .rw[<-hC,e2,kN];simp[aJ,Pt.aJ]
    .rw[bh]at hk;simp;omega
  |false=>
   have st:Wp (exs (run F w (n+2)) w (vq az dc bP) (fJ one other (p :: A') B C a)) (vt one other r N (tot (p :: A')+tot B)):=by
    cases B with
    |nil=>
     exfalso;rw[cB]at h;cases p with
     |drop s=>cases hd
     |keep k=>cases k with|zero=>exact absurd hp0 (Nat.lt_irrefl 0)|succ k=>obtain⟨c,e⟩:=Qy (x:=.k) h;cases e
     |put s=>cases s with|nil=>exact absurd hp0 (Nat.lt_irrefl 0)|cons c s=>obtain⟨c,e⟩:=Qy (x:=.p c) h;cases e
    |cons q B'=>
     cases hq:ez q with
     |true=>
      have hnd:Ca (aJ (p :: A'))=true:=by
       rw[cB];cases p with
       |drop s=>cases hd
       |keep k=>cases k<;>first|exact absurd hp0 (Nat.lt_irrefl 0)|rfl
       |put s=>cases s<;>first|exact absurd hp0 (Nat.lt_irrefl 0)|rfl
      cases q with
      |keep k=>cases hq
      |drop s=>cases hq
      |put s=>exact vv hN (p :: A') B' C s r' a h hnd hC hA hB hk ha
     |false=>exact Eu hs hp ht hm hN A' B' C p q r' a hd hq h hC hA hB hk ha
   replace st:=st.mono (Q':=nx (run F w (n+2)) w .nil (vt one other r N (tot (p :: A')+tot B))) λg fr ⟨hg,hx⟩=>by subst hg;exact aB ⟨rfl,hx⟩
   unfold fJ at st ⊢;rw[List.map_cons,List.reverse_cons]at st ⊢;cases p with
   |drop s=>cases hd
   |keep k=>exact ai (aP (fF (aH rfl (ay rfl) j5) (by (repeat (first|array_get_dec|exact iI)))) (λh=>absurd h (by decide)) λ_=>st)
   |put s=>exact ai (aP (fF (aH rfl (ay rfl) j5) (by (repeat (first|array_get_dec|exact iI)))) (λh=>absurd h (by decide)) λ_=>st)
omit hN in
theorem Ew(hst:F[aW]?=some er)(hf:F[bN]?=some (iV aW))(hb:F[bz]?=some (fU az))(ha:F[dP]?=some (nQ az))(Ci:F[i]?=some (kO dP bz bN az dc bP))(hw:5000<w)
  (one other:List Pt) (t:List Nat) (h1:au one t=true) (h2:au other (aE one t)=true) (b1:tot one<=2000) (b2:tot other<=2000) (l1:one.length<=2000) (l2:other.length<=2000) :
  ∃c,run F w (n+3) i [.val (av one),.val (av other)]=some (av c,[])/\Tn one other c t:=by
 have f1:aI (aA (aJ (aL one))) t=true:=by rw[<-cX,cW,<-cH];exact h1
 have f2:aI (aA (aJ (aL other))) (dA (aJ (aL one)) t)=true:=by rw[<-cX,cW,<-eK,cP,<-cH];exact h2
 obtain⟨r,hr⟩:=Th.all _ _ _ t (Nat.le_refl _) f1 f2;have e1:gP one=aR other:=by rw[<-Ek h1,gQ h2]
 have ne:cop .ne (.int (gP one)) (.int (aR other))=some false:=by rw[zq,e1];simp
 have c1:=λfr=>cR (fr:=fr) (BQ (F:=F) (w:=w) (n:=n) hs ha one (by omega) (by omega));have c2:=λfr=>cR (fr:=fr) (iw (F:=F) (w:=w) (n:=n) hs hb other (by omega) (by omega));have c3:=λfr=>cR (fr:=fr) (iD (F:=F) (w:=w) (n:=n) hst hf one (by omega) (by omega));have c4:=λfr=>cR (fr:=fr) (iD (F:=F) (w:=w) (n:=n) hst hf other (by omega) (by omega));have t1:=fV one;have t2:=fV other;have g1:=gR (iJ (gz one));have g2:=gR (iJ (gz other));have m1:dz ((aL one).map Pt.v).reverse=some (.lst ((aL one).map Pt.v).reverse):=dR (cy (by simp;omega));have m2:dz ((aL other).map Pt.v).reverse=some (.lst ((aL other).map Pt.v).reverse):=dR (cy (by simp;omega));have key:Wp (exs (run F w (n+2)) w (kO dP bz bN az dc bP).body (eS (kO dP bz bN az dc bP) [.val (av one),.val (av other)])) λg fr=>∃ps,aJ ps=r/\g=.ret (av (aL ps))/\outs 2 fr=[]:=by
  refine ai (aP (by (repeat (first|array_get_dec|exact c1 _|exact c2 _))) (λh=>absurd h (by decide)) λ_=>aB ?_);refine ai (jM (l:=((aL one).map Pt.v).reverse) (zo (BK (bC (aK rfl (ay rfl) aN) (c3 _)) rfl) m1) rfl rfl ?_);refine ai (jM (l:=((aL other).map Pt.v).reverse) (zo (BK (bC (aK rfl (ay rfl) aN) (c4 _)) rfl) m2) rfl rfl ?_);refine ai (jM (l:=[]) (by repeat array_get_dec) rfl rfl ?_);refine ai (OC (uT (Qw one other r (tot one+tot other)) (λk fr hI=>?_) w (tot one+tot other) _ (by omega) ⟨aL one,aL other,[],r,none,hr,rfl,iJ (gz one),iJ (gz other),by simp,by omega,.none,rfl⟩));obtain⟨A,B,C,r',a,hT,hC,hA,hB,hk,hkk,Qz,rfl⟩:=hI;by_cases hne:A≠[]\/B≠[]
  .have ht1:aF (run F w (n+2)) (.orr (.v 2) (.v 3)) (fJ one other A B C a)=.ok true (fJ one other A B C a):=by
    cases A with
    |cons p A=>unfold fJ;rw[List.map_cons,List.reverse_cons];exact BJ (aH rfl (ay rfl) j5)
    |nil=>
     cases B with
     |nil=>simp at hne
     |cons q B=>unfold fJ;rw[List.map_cons,List.reverse_cons];exact jL (aH rfl (ay rfl) rfl) (aH rfl (ay rfl) j5)
   refine⟨true,_,ht1,?_⟩;dsimp only;rw[if_pos rfl];refine(Cg hs hp ht hm (N:=tot one+tot other) (by omega) A B C r' a hne hT hC hA hB (by omega) Qz).mono λg fr ⟨hg,hx⟩=>?_;subst hg hkk;exact hx
  .obtain⟨rfl,rfl⟩:A=[]/\B=[]:=by simpa using hne
   refine⟨false,_,jL (aH rfl (ay rfl) rfl) (aH rfl (ay rfl) rfl),?_⟩;dsimp only;rw[if_neg (by decide)];cases hT;rw[List.append_nil]at hC;subst hC;have lC:=hr.len;rw[ju,ju,ju]at lC;have mt:toT (.lst (C.map Pt.v))=some (av C):=by rw[xQ];exact iT (cy (by simp;omega))
   have c5:=λfr=>cR (fr:=fr) (iD (F:=F) (w:=w) (n:=n) hst hf C (by omega) (by omega));have sh:fZ (fJ one other [] [] C a)=[some (.val (av one)),some (.val (av other)),some (.val (.lst [])),some (.val (.lst [])),some (.val (.lst (C.map Pt.v))),a]:=by
    show _ :: _ :: _ :: _ :: _ :: [a.map Sl.eE]=_;rw[dN Qz];rfl
   refine ai (bT (v:=av (aL C)) (af:=[some (.val (av one)),some (.val (av other)),some (.val (.lst [])),some (.val (.lst [])),some (.val (.lst (C.map Pt.v))),a]) ?_ ⟨C,rfl,rfl,rfl⟩);rw[sh];exact bC (aK rfl (pR (ay rfl) mt) aN) (c5 _)
 obtain⟨g,fr,e,ps,hps,rfl,ho⟩:=key;refine⟨aL ps,?_,OH h1 h2 (hps▸hr)⟩;rw[run_eq Ci rfl,e];simp only[HC];rw[show outs (kO dP bz bN az dc bP).np fr=[]from ho]
end
end
end Pv
namespace Pv
open Ev (D bO bJ TY BI ME T E Es Eo It S Ss Fn big deep b2i rep cj dF bI aQ cut cI dX slots)
section
variable{F:List Fn}{w n cE az dc bP bN aW dP bz fX qd i:Nat}
noncomputable def Ch:List Nat->List (List Pt)->Prop
 |_,[]=>True
 |t,c :: rs=>au c t=true/\Ch (aE c t) rs
noncomputable def qe(t:List Nat)(rs:List (List Pt)):List Nat:=rs.foldl (λs c=>aE c s) t
noncomputable def yd(T:List Tq)(rs:List (List Pt)):List Tq:=rs.foldl (λT c=>(told 0 c).map (sub T)) T
noncomputable def Ex(rs:List (List Pt)):Nat:=(rs.map tot).sum
theorem vz{c:List Pt}{t:List Nat}(h:au c t=true):au (iF c) (aE c t)=true/\aE (iF c) (aE c t)=t:=by
 have:=vg c t h;simp only[iF];rw[gA,cP];exact this
structure An(c:List Pt)(t:List Nat)(rs:List (List Pt)):Prop where
 Vf:aL c=c
 fit:au c t=true
 dn:aE c t=qe t rs
 Vg:told 0 c=yd (told 0 [.keep t.length]) rs
 Vh:told 0 (sw c)=yd (told 0 [.keep (qe t rs).length]) (rs.map iF).reverse
 tt:tot c<=t.length+Ex rs
 ln:c.length<=tot c
section
variable(hs:F[az]?=some dG)(hp:F[cE]?=some iH)(ht:F[bP]?=some (kP cE az))(hm:F[dc]?=some sZ)
 (hst:F[aW]?=some er) (hf:F[bN]?=some (iV aW)) (hb:F[bz]?=some (fU az)) (ha:F[dP]?=some (nQ az)) (Ci:F[qd]?=some (kO dP bz bN az dc bP)) (hno:F[fX]?=some (j4 bN)) (hw:5000<w)
include hs hp ht hm hst hf hb ha Ci hno hw
end
end
end Pv
namespace Pv
section
variable{t:List Nat}{p q rs:List (List Pt)}{s e w x y c:List Pt}
end
open Ev (D bO bJ TY BI ME T E Es Eo It S Ss Fn big deep b2i rep cj dF bI aQ cut cI dX slots)
inductive Hd(L:List V):Sl->List (List V)->Prop
 |val:Hd L (.val (.lst L)) []
 |bor:Hd L (.bor L) [L]
section
variable{F:List Fn}{w n cE az dc bP bN aW dP bz fX qd i:Nat}
section
variable(hs:F[az]?=some dG)(hp:F[cE]?=some iH)(ht:F[bP]?=some (kP cE az))(hm:F[dc]?=some sZ)
 (hst:F[aW]?=some er) (hf:F[bN]?=some (iV aW)) (hb:F[bz]?=some (fU az)) (ha:F[dP]?=some (nQ az)) (Ci:F[qd]?=some (kO dP bz bN az dc bP)) (hno:F[fX]?=some (j4 bN)) (hw:5000<w)
include hs hp ht hm hst hf hb ha Ci hno hw
end
end
end Pv
namespace Pv
open Ev (deep big rep cut bI)
noncomputable def vA:At->Bool
 |.p _=>false
 |_=>true
@[simp] theorem Vi:vA .k=true:=nd rfl
@[simp] theorem Vj{c:Nat}:vA (.d c)=true:=nd rfl
@[simp] theorem Vk{c:Nat}:vA (.p c)=false:=nd rfl
theorem zK(f:Pt->Bool)(g:At->Bool)(h:∀p:Pt,∀x∈p.aJ,g x=f p)(c:List Pt):aJ (c.filter f)=(aJ c).filter g:=by
 induction c with
 |nil=>rfl
 |cons p c ih=>
  rw[cB,List.filter_append,List.filter_cons];cases e:f p with
  |true=>
   rw[if_pos rfl,cB,ih,List.filter_eq_self (l:=p.aJ) |>.mpr λx hx=>by rw[h p x hx,e]]
  |false=>
   rw[if_neg (by simp),ih,List.filter_eq_nil_iff (l:=p.aJ) |>.mpr λx hx=>by rw[h p x hx,e];simp];rfl
theorem Mz(c:List Pt):aJ (c.filter λp=>!ez p)=(aJ c).filter vA:=zK _ _ (λp x hx=>by
 cases p with
 |keep n=>rw[List.eq_of_mem_replicate hx];rfl
 |drop s=>obtain⟨_,_,rfl⟩:=List.mem_map.mp hx;rfl
 |put s=>obtain⟨_,_,rfl⟩:=List.mem_map.mp hx;rfl) c
theorem tB:∀a:List At,aA (a.filter vA)=aA a
 |[]=>rfl
 |.k :: a=>by simp[aA,tB a]
 |.d c :: a=>by simp[aA,tB a]
 |.p c :: a=>by simp[aA,tB a]
noncomputable def dU(c:List Pt):List Pt:=aL (c.filter λp=>!ez p)
theorem qf(c:List Pt):asks (dU c)=asks c:=by unfold dU;rw[cW,cX,Mz,tB,<-cX]
theorem sy{c:List Pt}{t:List Nat}(h:au c t=true):au (dU c) t=true:=by rw[cH,qf,<-cH];exact h
noncomputable def FJ:List At->Bool
 |.p _ :: _=>false
 |_=>true
structure Cut(c:List Pt)(p:Nat)(A B:List Pt):Prop where
 at_:aJ A++aJ B=aJ (aL c)
 bA:aR A=p
 hd:FJ (aJ B)=true
 pA:∀q∈A,0<q.n
 pB:∀q∈B,0<q.n
 fA:kK A=true
 fB:kK B=true
section
variable{c A B:List Pt}{p:Nat}{t:List Nat}
end
end Pv
namespace Pv
open Ev (D bO bJ TY BI ME T E Es Eo It S Ss Fn big deep rep cut bI)
noncomputable def vC(cg:Nat):S:=.ret (.cl cg (.cons (.iz (.comp (.v 1) (.one 1) (.seq (.v 0)) (.yes (.cmp .ne (.ix (.v 1) (.c (.int 0))) (.c (.str [112,117,116])))))) .nil))
noncomputable def zL(cg:Nat):Fn:=⟨1,2,(.cons (vC cg) .nil)⟩
noncomputable def zM(cg:Nat):S:=.ret (.cl cg (.cons (.bin .add (.v 0) (.v 1)) .nil))
noncomputable def Ey(cg:Nat):Fn:=⟨2,2,(.cons (zM cg) .nil)⟩
noncomputable def Cj(lK:Nat)(j7:Nat):S:=.ret (.cl lK (.cons (.cl lK (.cons (.cl j7 (.cons (.v 0) .nil)) (.cons (.v 1) .nil))) (.cons (.cl j7 (.cons (.v 2) .nil)) .nil)))
noncomputable def Iq(lK:Nat)(j7:Nat):Fn:=⟨3,3,(.cons (Cj lK j7) .nil)⟩
section
variable{F:List Fn}{w n az aW bN bz cE bP fX vD OI Ir i:Nat}
theorem zN(f:Pt->Bool)(c:List Pt):tot (c.filter f)<=tot c:=by
 induction c with
 |nil=>exact Nat.le_refl _
 |cons p c ih=>
  rw[List.filter_cons];split
  .rw[bh,bh];omega
  .rw[bh];omega
theorem vE(hst:F[aW]?=some er)(hf:F[bN]?=some (iV aW))(hd:F[i]?=some (zL bN))(c:List Pt)(h1:c.length<=10000)(h2:tot c<=10000):run F w (n+3) i [.val (av c)]=some (av (dU c),[]):=by
 have l1:(c.filter λp=>!ez p).length<=10000:=Nat.le_trans (List.length_filter_le _ _) h1;have hl:((c.filter λp=>!ez p).map Pt.v).length<=big:=by rw[List.length_map];exact Nat.le_trans l1 (by decide)
 have cf:=λfr=>cR (fr:=fr) (iD (w:=w) (n:=n) hst hf (c.filter λp=>!ez p) l1 (Nat.le_trans (zN _ _) h2));exact b8 hd rfl (ai (bT (bC (aK rfl (pR (fE (di (dO rfl) rfl) rfl (jH Pt.v (λp=>!ez p) Pt.v c λp _=>by
  cases p<;>exact nK rfl (aH rfl (bM (eF (ay rfl) (bq rfl) rfl) (bq rfl) iN) rfl) λ_=>ay rfl) (dR hl)) (iT hl)) aN) (cf _)) ⟨rfl,rfl⟩))
section
variable(hst:F[aW]?=some er)(hf:F[bN]?=some (iV aW))(hj:F[vD]?=some (Ey bN))(hn:F[fX]?=some (j4 bN))(ha:F[Ir]?=some (Iq vD fX))
include hst hf hj hn ha
end
end
end Pv
namespace Pv
open Ev (D bO bJ TY BI ME T E Es Eo It S Ss Fn big deep rep cut bI)
structure CA(a:List At)(p:Nat)(x y:List At):Prop where
 ap:x++y=a
 ln:(aA x).length=p
 hd:FJ y=true
section
variable{F:List Fn}{w n az aW bN bz dP cE bP OI i:Nat}
end
end Pv
namespace Pv
open Ev (D bO bJ TY BI ME T E Es Eo It S Ss Fn big deep rep cut bI)
abbrev Row:=List Nat×List Pt
noncomputable def Ck(rs:List Row):List (List Pt):=rs.map Prod.snd
noncomputable def who(st:List V)(o:List Nat):Tq->V
 |.at i=>st.getD i .aG
 |.sg _=>.str o
noncomputable def Vl(st:List V)(r:Row):List V:=(told 0 r.2).map (who st r.1)
noncomputable def ows(st:List V)(rs:List Row):List V:=rs.foldl Vl st
open Classical in
noncomputable def bB(t:List Nat)(a c:List Pt):List Pt:=if h:∃X,Tn a c X t then h.choose else []
noncomputable def Vm(K:List Row):Prop:=∀A a b B,K=A++a :: b :: B->a.1≠b.1
structure Nm(t:List Nat)(rs K:List Row):Prop where
 ch:Ch t (Ck K)
 tx:qe t (Ck K)=qe t (Ck rs)
 ow:∀st:List V,st.length=t.length->ows st K=ows st rs
 fm:∀q∈K,aL q.2=q.2/\0<cst q.2
 ad:Vm K
 ln:K.length<=rs.length
 sb:∀q∈K,∃r∈rs,r.1=q.1
 tt:Ex (Ck K)<=Ex (Ck rs)
section
variable{t:List Nat}{rs K:List Row}{o:List Nat}{c:List Pt}
end
end Pv
namespace Pv
open Ev (D bO bJ TY BI ME T E Es Eo It S Ss Fn big deep rep cut bI)
inductive Pa(f:Bool):List At->List At->List At->Prop
 |nil:Pa f [] [] []
 |p1 {a b r:List At} {c:Nat}:(f=true\/FJ b=true)->Pa f a b r->Pa f (.p c :: a) b (.p c :: r)
 |p2 {a b r:List At} {c:Nat}:(f=false\/FJ a=true)->Pa f a b r->Pa f a (.p c :: b) (.k :: r)
 |kk {a b r:List At}:Pa f a b r->Pa f (.k :: a) (.k :: b) (.k :: r)
 |dk {a b r:List At} {c:Nat}:Pa f a b r->Pa f (.d c :: a) (.k :: b) (.d c :: r)
 |kd {a b r:List At} {c:Nat}:Pa f a b r->Pa f (.k :: a) (.d c :: b) r
 |dd {a b r:List At} {c e:Nat}:Pa f a b r->Pa f (.d c :: a) (.d e :: b) r
structure Jn(f:Bool)(a b l m:List At)(W:Nat->List Tq):Prop where
 bk:Pa (!f) b a m
 t1:∀(i:Nat) (U:List Tq),(tA U.length m).map (sub (U++tA i a))=W i
 t2:∀(i:Nat) (U:List Tq),(tA U.length l).map (sub (U++tA i b))=W i
 ft:∀t:List Nat,aI (aA a) t=true->aI (aA b) t=true->aI (aA m) (dA a t)=true/\aI (aA l) (dA b t)=true/\dA m (dA a t)=dA l (dA b t)
noncomputable def sI:S:=.ret (.an (.cmp .gt (.bi .len (.cons (.v 0) .nil)) (.c (.int 0))) (.cmp .eq (.ix (.ix (.v 0) (.neg (.c (.int 1)))) (.c (.int 0))) (.c (.str [112,117,116]))))
noncomputable def vX:Fn:=⟨1,1,(.cons sI .nil)⟩
section
variable{F:List Fn}{w n az aW bN cE bP MA Ua i:Nat}
variable(hs:F[az]?=some dG)(hp:F[cE]?=some iH)(ht:F[bP]?=some (kP cE az))(Vn:F[MA]?=some vX){one other:List Pt}{f:Bool}{r:List At}{N:Nat}
include hs hp ht Vn
end
noncomputable def pS:List At->List Nat
 |[]=>[]
 |.p c :: a=>c :: pS a
 |_ :: a=>pS a
theorem qg:∀a b:List At,pS (a++b)=pS a++pS b
 |[],_=>rfl
 |.k :: a,b=>qg a b
 |.d _ :: a,b=>qg a b
 |.p c :: a,b=>congrArg (c :: ·) (qg a b)
theorem OJ(n:Nat):pS (List.replicate n .k)=[]:=by
 induction n with
 |zero=>rfl
 |succ n ih=>exact ih
end Pv
namespace Pv
open Ev (D bO bJ TY BI ME T E Es Eo It S Ss Fn big deep rep cut bI)
theorem ye(k:List (Int×List Nat))(p q:Int)(s:List Nat):Ev.bW (Ev.cD k p s) q=if q=p then some s else Ev.bW k q:=by
 unfold Ev.cD;split
 .rename_i h;unfold Ev.bW;induction k with
  |nil=>simp at h
  |cons x k ih=>
   simp only[List.map_cons,List.find?_cons];by_cases hx:x.1=p
   .rw[if_pos hx];by_cases hq:q=p
    .simp[hx,hq]
    .have:¬ (x.1=q):=λz=>hq (by rw[<-z,hx]);simp only[decide_eq_false this,if_neg hq];clear ih h;induction k with
     |nil=>rfl
     |cons y k ih=>
      simp only[List.map_cons,List.find?_cons];by_cases hy:y.1=p
      .rw[if_pos hy];have:¬ (y.1=q):=λz=>hq (by rw[<-z,hy]);simp only[decide_eq_false this];exact ih
      .rw[if_neg hy];by_cases hz:y.1=q
       .simp[hz]
       .simp only[decide_eq_false hz];exact ih
   .rw[if_neg hx];by_cases hq:x.1=q
    .have:¬ q=p:=λz=>hx (by rw[hq,z]);simp[hq,this]
    .simp only[decide_eq_false hq];exact ih (by simpa[hx]using h)
 .rename_i h;unfold Ev.bW;rw[List.find?_append];by_cases hq:q=p
  .subst hq;have:k.find? (λx=>decide (x.1=q))=none:=by
    rw[List.find?_eq_none];intro x hx hz;exact h (List.any_eq_true.mpr ⟨x,hx,hz⟩)
   rw[this];simp
  .have:¬ p=q:=λz=>hq z.symm;simp[hq,this]
noncomputable def KI(t:List Nat)(k:List (Int×List Nat)):Prop:=∀p s,Ev.bW k p=some s->∃(i c:Nat),p=i/\t[i]?=some c/\s=[c]
theorem KI.put{t:List Nat}{k:List (Int×List Nat)}(h:KI t k){i c:Nat}(hc:t[i]?=some c):KI t (Ev.cD k i [c]):=λp s e=>by
 rw[ye]at e;split at e
 .rename_i hp;cases e;exact⟨i,c,hp,hc,rfl⟩
 .exact h p s e
theorem KI.vF{t:List Nat}:∀(s:List Nat) {k:List (Int×List Nat)}(i:Nat),KI t k->(t.drop i).take s.length=s->KI t (gj k i s)
 |[],k,i,h,_=>h
 |c :: s,k,i,h,e=>by
  have hl:i<t.length:=by
   refine Nat.lt_of_not_le λz=>?_;rw[List.drop_eq_nil_of_le z]at e;simp at e
  rw[List.drop_eq_getElem_cons hl,List.length_cons,List.take_succ_cons,List.cons.injEq]at e;have:=KI.vF s (i+1) (h.put (i:=i) (c:=c) (by rw[List.getElem?_eq_getElem hl,e.1])) e.2;exact this
theorem vG:∀(s:List Nat) (k:List (Int×List Nat)) (p:Int),(gj k p s).length<=k.length+s.length
 |[],k,p=>by simp[gj]
 |c :: s,k,p=>by
  have h1:=vG s (Ev.cD k p [c]) (p+1);have h2:(Ev.cD k p [c]).length<=k.length+1:=by unfold Ev.cD;split<;>simp
  rw[gj,List.length_cons];omega
noncomputable def nD:List Pt->Nat
 |[]=>0
 |.drop s :: c=>s.length+nD c
 |_ :: c=>nD c
theorem iW:∀c:List Pt,nD c<=tot c
 |[]=>Nat.zero_le _
 |.drop s :: c=>by have:=iW c;rw[bh];simp only[nD,Pt.n];omega
 |.put s :: c=>by have:=iW c;rw[bh];simp only[nD,Pt.n];omega
 |.keep n :: c=>by have:=iW c;rw[bh];simp only[nD,Pt.n];omega
theorem tD:∀(c:List Pt) (t:List Nat) (i:Nat) (k:List (Int×List Nat)),au c (t.drop i)=true->KI t k->k.length+nD c<=1000->∃k',aX (c.map Pt.v) i k=some k'/\KI t k'/\k'.length<=k.length+nD c
 |[],t,i,k,_,h,_=>⟨k,rfl,h,by omega⟩
 |.keep m :: c,t,i,k,hf,h,hb=>by
  have hf':au c (t.drop (i+m))=true:=by simp only[au,Bool.and_eq_true]at hf;have:=hf.2;rwa [List.drop_drop]at this
  obtain⟨k',e1,e2,e3⟩:=tD c t (i+m) k hf' h hb;refine⟨k',?_,e2,e3⟩;show aX (.tup [.str [107,101,101,112],.int m] :: c.map Pt.v) i k=_;rw[aX,if_pos rfl,<-e1];congr 1
 |.put s :: c,t,i,k,hf,h,hb=>by
  obtain⟨k',e1,e2,e3⟩:=tD c t i k hf h hb;refine⟨k',?_,e2,e3⟩;show aX (.tup [.str [112,117,116],.str s] :: c.map Pt.v) i k=_;rw[aX,if_neg (by decide),if_neg (by decide)];exact e1
 |.drop s :: c,t,i,k,hf,h,hb=>by
  simp only[au,Bool.and_eq_true,decide_eq_true_eq]at hf;simp only[nD]at hb;have hl:=vG s k i;obtain⟨k',e1,e2,e3⟩:=tD c t (i+s.length) (gj k i s) (by have:=hf.2;rwa [List.drop_drop]at this) (h.vF s i (List.prefix_iff_eq_take.mp (List.isPrefixOf_iff_prefix.mp hf.1)).symm) (by omega);refine⟨k',?_,e2,by simp only[nD];omega⟩;show aX (.tup [.str [100,114,111,112],.str s] :: c.map Pt.v) i k=_;rw[aX,if_pos rfl,if_pos (by omega),<-e1];congr 1
section
variable{F:List Fn}{w n i:Nat}
end
theorem MB:∀s:List Nat,pS (s.map .p)=s
 |[]=>rfl
 |c :: s=>congrArg (c :: ·) (MB s)
theorem MC:∀s:List Nat,pS (s.map .d)=[]
 |[]=>rfl
 |_ :: s=>MC s
end Pv
namespace Pv
noncomputable def nP(c:List Pt):Nat:=(pS (aJ c)).length
theorem qR(p:Pt)(c:List Pt):nP (p :: c)=(pS p.aJ).length+nP c:=by unfold nP;rw[cB,qg,List.length_append]
theorem jQ:∀c:List Pt,tot c=aR c+nP c
 |[]=>rfl
 |.keep n :: c=>by rw[bh,jZ,qR,jQ c,Pt.aJ,OJ];simp[Pt.n];omega
 |.drop s :: c=>by rw[bh,lI,qR,jQ c,Pt.aJ,MC];simp[Pt.n];omega
 |.put s :: c=>by rw[bh,j0,qR,jQ c,Pt.aJ,MB];simp[Pt.n];omega
structure Ld(f:Bool)(one other l:List Pt)(t:List Nat):Prop where
 ft:au l (aE other t)=true
 fm:aL l=l
 np:nP l=nP one
 nd:nD l<=nD one
noncomputable def yf(rs:List (List Pt)):Nat:=(rs.map nP).sum
noncomputable def Fw(rs:List (List Pt)):Prop:=∀c∈rs,aL c=c/\nD c<=60
structure Rp(c:List Pt)(os:List (List Pt))(t:List Nat)(c':List Pt)(L:List (List Pt)):Prop where
 ft:au c' (qe t os)=true
 ch:Ch (aE c t) L
 tx:qe (aE c t) L=aE c' (qe t os)
 tl:∀T,yd T (c :: L)=yd T (os++[c'])
 ln:L.length=os.length
 pt:yf L=yf os
 fw:Fw os->Fw L
 np:nP c'=nP c
 nd:nD c'<=nD c
 fm:aL c=c->aL c'=c'
structure Rs(as os:List (List Pt))(t:List Nat)(M Y:List (List Pt)):Prop where
 c1:Ch (qe t os) M
 c2:Ch (qe t as) Y
 tl:∀T,yd T (as++Y)=yd T (os++M)
 l1:M.length=as.length
 l2:Y.length=os.length
 p1:yf M=yf as
 p2:yf Y=yf os
 f1:(∀c∈as,nD c<=60)->Fw M
 f2:Fw os->Fw Y
end Pv
namespace Pv
open Ev (D bO bJ TY BI ME T E Es Eo It S Ss Fn big deep rep cut bI)
noncomputable def KE(t:List Nat)(k:List (Int×List Nat)):Prop:=∀e∈k,∃(i c:Nat),e.1=i/\t[i]?=some c/\e.2=[c]
theorem vH{k:List (Int×List Nat)}{p:Int}{s:List Nat}{e:Int×List Nat}(h:e∈Ev.cD k p s):e∈k\/(e.1=p/\e.2=s):=by
 unfold Ev.cD at h;split at h
 .obtain⟨q,hq,rfl⟩:=List.mem_map.mp h;split
  .rename_i z;exact .inr ⟨z,rfl⟩
  .exact .inl hq
 .rcases List.mem_append.mp h with h|h
  .exact .inl h
  .rw[List.mem_singleton]at h;subst h;exact .inr ⟨rfl,rfl⟩
theorem KE.put{t:List Nat}{k:List (Int×List Nat)}(h:KE t k){i c:Nat}(hc:t[i]?=some c):KE t (Ev.cD k i [c]):=λe he=>by
 rcases vH he with he|⟨h1,h2⟩
 .exact h e he
 .exact⟨i,c,h1,hc,h2⟩
theorem KE.vF{t:List Nat}:∀(s:List Nat) {k:List (Int×List Nat)}(i:Nat),KE t k->(t.drop i).take s.length=s->KE t (gj k i s)
 |[],k,i,h,_=>h
 |c :: s,k,i,h,e=>by
  have hl:i<t.length:=by
   refine Nat.lt_of_not_le λz=>?_;rw[List.drop_eq_nil_of_le z]at e;simp at e
  rw[List.drop_eq_getElem_cons hl,List.length_cons,List.take_succ_cons,List.cons.injEq]at e;exact KE.vF s (i+1) (h.put (i:=i) (c:=c) (by rw[List.getElem?_eq_getElem hl,e.1])) e.2
theorem KE.merge{t:List Nat}:∀{m k:List (Int×List Nat)},KE t k->KE t m->KE t (Ev.b7 k m)
 |[],_,h,_=>h
 |e :: m,k,h,g=>by
  obtain⟨i,c,h1,h2,h3⟩:=g e (.head _);show KE t (Ev.b7 (Ev.cD k e.1 e.2) m);rw[h1,h3];exact KE.merge (h.put h2) λx hx=>g x (.tail _ hx)
theorem KE.val{t:List Nat}{k:List (Int×List Nat)}(h:KE t k){p:Int}{s:List Nat}(e:Ev.bW k p=some s):∃(i c:Nat),p=i/\t[i]?=some c/\s=[c]:=by
 unfold Ev.bW at e;obtain⟨q,e1,rfl⟩:=Option.map_eq_some_iff.mp e;obtain⟨i,c,h1,h2,h3⟩:=h q (List.mem_of_find?_eq_some e1);have:=List.find?_some e1;exact⟨i,c,by rw[<-h1];exact(of_decide_eq_true this).symm,h2,h3⟩
noncomputable def eX(k:List (Int×List Nat))(p:Int):Prop:=(Ev.bW k p).isSome=true
theorem yg{k:List (Int×List Nat)}{p q:Int}{s:List Nat}:eX (Ev.cD k p s) q↔q=p\/eX k q:=by
 unfold eX;rw[ye];by_cases h:q=p<;>simp[h]
theorem oY:∀(s:List Nat) (k:List (Int×List Nat)) (i:Nat) (q:Int),(eX k q\/∃j:Nat,j<s.length/\q=((i+j:Nat):Int))->eX (gj k i s) q
 |[],k,i,q,h=>by
  rcases h with h|⟨j,hj,_⟩
  .exact h
  .simp at hj
 |c :: s,k,i,q,h=>by
  show eX (gj (Ev.cD k i [c]) ((i:Int)+1) s) q;have e:(i:Int)+1=((i+1:Nat):Int):=by omega
  rw[e];refine oY s _ (i+1) q ?_;rw[yg];rcases h with h|⟨j,hj,h⟩
  .exact .inl (.inr h)
  .cases j with
   |zero=>exact .inl (.inl (by rw[h];omega))
   |succ j=>exact .inr ⟨j,by simpa using hj,by rw[h];omega⟩
theorem m7:∀{m k:List (Int×List Nat)}{q:Int},eX k q\/eX m q->eX (Ev.b7 k m) q
 |[],k,q,h=>h.elim id λh=>by simp[eX,Ev.bW]at h
 |e :: m,k,q,h=>by
  show eX (Ev.b7 (Ev.cD k e.1 e.2) m) q;refine m7 ?_;rw[yg];rcases h with h|h
  .exact .inl (.inr h)
  .by_cases hq:q=e.1
   .exact .inl (.inl hq)
   .refine .inr ?_;unfold eX Ev.bW at h ⊢;rw[List.find?_cons,decide_eq_false (λz=>hq z.symm)]at h;exact h
theorem tE:∀(c:List Pt) (t:List Nat) (i:Nat) (k k':List (Int×List Nat)),au c (t.drop i)=true->KE t k->aX (c.map Pt.v) i k=some k'->KE t k'
 |[],t,i,k,k',_,h,e=>by cases e;exact h
 |.keep m :: c,t,i,k,k',hf,h,e=>by
  have hf':au c (t.drop (i+m))=true:=by simp only[au,Bool.and_eq_true]at hf;have:=hf.2;rwa [List.drop_drop]at this
  have e:aX (.tup [.str [107,101,101,112],.int m] :: c.map Pt.v) i k=some k':=e;rw[aX,if_pos rfl]at e;exact tE c t (i+m) k k' hf' h e
 |.put s :: c,t,i,k,k',hf,h,e=>by
  have e:aX (.tup [.str [112,117,116],.str s] :: c.map Pt.v) i k=some k':=e;rw[aX,if_neg (by decide),if_neg (by decide)]at e;exact tE c t i k k' hf h e
 |.drop s :: c,t,i,k,k',hf,h,e=>by
  simp only[au,Bool.and_eq_true,decide_eq_true_eq]at hf;have e:aX (.tup [.str [100,114,111,112],.str s] :: c.map Pt.v) i k=some k':=e;rw[aX,if_pos rfl]at e;split at e
  .exact tE c t (i+s.length) (gj k i s) k' (by have:=hf.2;rwa [List.drop_drop]at this) (h.vF s i (List.prefix_iff_eq_take.mp (List.isPrefixOf_iff_prefix.mp hf.1)).symm) e
  .cases e
theorem qh:∀(c:List Pt) (i:Nat) (k k':List (Int×List Nat)),aX (c.map Pt.v) i k=some k'->∀q:Int,(eX k q\/∃p x,(asks c)[p]?=some [x]/\q=((i+p:Nat):Int))->eX k' q
 |[],i,k,k',e,q,h=>by
  cases e;rcases h with h|⟨p,x,h,_⟩
  .exact h
  .simp[asks]at h
 |.keep m :: c,i,k,k',e,q,h=>by
  have e:aX (.tup [.str [107,101,101,112],.int m] :: c.map Pt.v) i k=some k':=e;rw[aX,if_pos rfl]at e;refine qh c (i+m) k k' e q (h.imp id λ⟨p,x,h1,h2⟩=>?_);have h1:(List.replicate m []++asks c)[p]?=some [x]:=h1;by_cases hp:p<m
  .rw[List.getElem?_append_left (by simpa using hp)]at h1;simp[hp]at h1
  .rw[List.getElem?_append_right (by simp;omega),List.length_replicate]at h1;exact⟨p - m,x,h1,by rw[h2];omega⟩
 |.put s :: c,i,k,k',e,q,h=>by
  have e:aX (.tup [.str [112,117,116],.str s] :: c.map Pt.v) i k=some k':=e;rw[aX,if_neg (by decide),if_neg (by decide)]at e;exact qh c i k k' e q h
 |.drop s :: c,i,k,k',e,q,h=>by
  have e:aX (.tup [.str [100,114,111,112],.str s] :: c.map Pt.v) i k=some k':=e;rw[aX,if_pos rfl]at e;split at e
  .refine qh c (i+s.length) (gj k i s) k' e q ?_;rcases h with h|⟨p,x,h1,h2⟩
   .exact .inl (oY s k i q (.inl h))
   .have h1:(s.map (λc=>[c])++asks c)[p]?=some [x]:=h1;by_cases hp:p<s.length
    .exact .inl (oY s k i q (.inr ⟨p,hp,h2⟩))
    .rw[List.getElem?_append_right (by simp;omega),List.length_map]at h1;exact .inr ⟨p - s.length,x,h1,by rw[h2];omega⟩
  .cases e
theorem qS(c:List Pt){t:List Nat}(hf:au c t=true)(b:nD c<=1000):∃k,aX (c.map Pt.v) 0 []=some k/\k.length<=nD c/\(∀u,au c u=true->KE u k)/\∀p x,(asks c)[p]?=some [x]->eX k (p:Nat):=by
 obtain⟨k,e1,_,e3⟩:=tD c t 0 [] hf (λp s e=>by cases e) (by simpa using b);refine⟨k,e1,by simpa using e3,λu hu=>tE c u 0 [] k hu (λe he=>by cases he) e1,λp x h=>qh c 0 [] k e1 _ (.inr ⟨p,x,h,by simp⟩)⟩
noncomputable def bU(s:Nat)(a:List (List Nat)):List Nat:=a.map λy=>y.headD s
theorem lM:∀{c:List Pt}{y:List Nat},y∈asks c->y=[]\/∃x,y=[x]
 |[],y,h=>by simp[asks]at h
 |p :: c,y,h=>by
  have h:y∈p.asks++asks c:=h;rcases List.mem_append.mp h with h|h
  .cases p with
   |keep n=>exact .inl (List.eq_of_mem_replicate h)
   |put s=>simp[Pt.asks]at h
   |drop s=>obtain⟨x,_,rfl⟩:=List.mem_map.mp h;exact .inr ⟨x,rfl⟩
  .exact lM h
theorem lN:∀{a:List (List Nat)}{t:List Nat},aI a t=true↔a.length=t.length/\∀(p:Nat) y x,a[p]?=some y->t[p]?=some x->y=[]\/y=[x]
 |[],[]=>by simp[aI]
 |[],_ :: _=>by simp[aI]
 |_ :: _,[]=>by simp[aI]
 |y :: a,x :: t=>by
  simp only[aI,Bool.and_eq_true,Bool.or_eq_true,decide_eq_true_eq,List.length_cons,Nat.add_right_cancel_iff,lN (a:=a) (t:=t)];constructor
  .rintro⟨h1,h2,h3⟩;refine⟨h2,λp z w e1 e2=>?_⟩;cases p with
   |zero=>simp at e1 e2;subst e1 e2;exact h1
   |succ p=>exact h3 p z w (by simpa using e1) (by simpa using e2)
  .rintro⟨h1,h2⟩;exact⟨h2 0 y x rfl rfl,h1,λp z w e1 e2=>h2 (p+1) z w (by simpa using e1) (by simpa using e2)⟩
theorem oZ(s:Nat)(a:List (List Nat)):(bU s a).length=a.length:=by simp[bU]
theorem qT{s:Nat}{a:List (List Nat)}{p:Nat}{y:List Nat}(h:a[p]?=some y):(bU s a)[p]?=some (y.headD s):=by simp[bU,h]
theorem fD(s:Nat)(c:List Pt):au c (bU s (asks c))=true:=by
 rw[cH,lN];refine⟨(oZ s _).symm,λp y x h1 h2=>?_⟩;rw[qT h1]at h2;cases h2;rcases lM (List.mem_of_getElem? h1)with rfl|⟨z,rfl⟩
 .exact .inl rfl
 .exact .inr rfl
noncomputable def vl(x:List Nat):Tq->Nat
 |.at p=>x.getD p 0
 |.sg c=>c
noncomputable def kp(g:Nat->Bool):Nat->List (List Nat)->List Nat
 |_,[]=>[]
 |i,y :: a=>if decide (y=[])&&g i then i :: kp g (i+1) a else kp g (i+1) a
inductive Pw(a:List (List Nat)):List Tq->List Tq->Prop
 |nil:Pw a [] []
 |at {p L M}:Pw a L M->Pw a (.at p :: L) (.at p :: M)
 |sg {y L M}:Pw a L M->Pw a (.sg y :: L) (.sg y :: M)
 |as {y p L M}:a[p]?=some [y]->Pw a L M->Pw a (.sg y :: L) (.at p :: M)
structure Wi(c d:List Pt):Prop where
 fa:au d (bU 97 (asks c))=true
 fb:au d (bU 98 (asks c))=true
 da:aE c (bU 97 (asks c))=aE d (bU 97 (asks c))
 db:aE c (bU 98 (asks c))=aE d (bU 98 (asks c))
theorem MD{c:List Pt}{x:List Nat}(h:au c x=true){p y:Nat}(e:(asks c)[p]?=some [y]):x[p]?=some y:=by
 rw[cH,lN]at h;have hp:p<x.length:=by rw[<-h.1];exact(List.getElem?_eq_some_iff.mp e).1
 have e2:=List.getElem?_eq_getElem hp;have:=h.2 p _ _ e e2;simp at this;rw[e2,<-this]
theorem OL{c d:List Pt}(h:∀x,au c x=true->au d x=true/\aE d x=aE c x):Wi c d:=
 ⟨(h _ (fD 97 c)).1,(h _ (fD 98 c)).1,(h _ (fD 97 c)).2.symm,(h _ (fD 98 c)).2.symm⟩
theorem Th.OM{a b r:List At}(h:Th a b r):∀t,aI (aA r) t=true->aI (aA a) t=true/\aI (aA b) (dA a t)=true:=by
 induction h with
 |nil=>intro t h;cases t<;>simp[aA,aI,dA]at h ⊢
 |d h ih=>
  intro t h1;cases t with
  |nil=>simp[aA,aI]at h1
  |cons x t=>
   simp only[aA,aI,Bool.and_eq_true]at h1 ⊢;obtain⟨i1,i2⟩:=ih t h1.2;exact⟨⟨h1.1,i1⟩,by simpa[dA]using i2⟩
 |p _ h ih=>intro t h1;exact ih t h1
 |kk h ih=>
  intro t h1;cases t with
  |nil=>simp[aA,aI]at h1
  |cons x t=>
   simp only[aA,aI,Bool.and_eq_true]at h1;obtain⟨i1,i2⟩:=ih t h1.2;exact⟨by simp[aA,aI,i1],by simp[aA,aI,dA,i2]⟩
 |kd h ih=>
  intro t h1;cases t with
  |nil=>simp[aA,aI]at h1
  |cons x t=>
   simp only[aA,aI,Bool.and_eq_true]at h1;obtain⟨i1,i2⟩:=ih t h1.2;have hx:=h1.1;simp at hx;exact⟨by simp[aA,aI,i1],by simp[aA,aI,dA,i2,hx]⟩
 |pk h ih=>intro t h1;obtain⟨i1,i2⟩:=ih t h1;exact⟨i1,by simp[aA,aI,dA,i2]⟩
 |pd h ih=>intro t h1;obtain⟨i1,i2⟩:=ih t h1;exact⟨i1,by simp[aA,aI,dA,i2]⟩
theorem vI{one other c:List Pt}{t:List Nat}(T:Tn one other c t){x:List Nat}(h:au c x=true):au one x=true/\au other (aE one x)=true/\aE c x=aE other (aE one x):=by
 obtain⟨ps,rfl,th⟩:=T.th;rw[gA,cH,cX]at h;obtain⟨h1,h2⟩:=th.OM x h;have h3:=th.done x h1;rw[<-eK,<-eK,<-eK,cP,cP]at h3;rw[<-cX,cW,<-cH]at h1;rw[<-eK,cP,<-cX,cW,<-cH]at h2;exact⟨h1,h2,by rw[cP];exact h3⟩
theorem MF{one other c:List Pt}{t:List Nat}(T:Tn one other c t){x:List Nat}(h1:au one x=true)(h2:au other (aE one x)=true):au c x=true:=by
 obtain⟨ps,rfl,th⟩:=T.th;rw[gA,cH,cX];refine th.fit x ?_ ?_
 .rw[<-cX,cW,<-cH];exact h1
 .rw[<-cX,cW,<-eK,cP,<-cH];exact h2
theorem sA{c s:List Pt}{t:List Nat}(T:Tn c (iF c) s t){x:List Nat}:au s x=au c x/\(au c x=true->aE s x=x):=by
 have key:au c x=true->au s x=true/\aE s x=x:=λh=>by
  obtain⟨u1,u2⟩:=vz h;have h2:=MF T h u1;exact⟨h2,by rw[(vI T h2).2.2];exact u2⟩
 refine⟨?_,λh=>(key h).2⟩;cases e:au c x with
 |true=>exact(key e).1
 |false=>
  cases e2:au s x with
  |false=>rfl
  |true=>rw[(vI T e2).1]at e;cases e
end Pv
namespace Pv
open Ev (D bO bJ TY BI ME T E Es Eo It S Ss Fn big deep rep cut bI)
noncomputable def vY(fW:Nat)(vJ:Nat):S:=.ret (.jT (.cl fW (.cons (.v 0) (.cons (.v 1) .nil))) (.cl vJ (.cons (.v 0) (.cons (.v 1) .nil))) (.c (.aG)))
noncomputable def sC(fW:Nat)(vJ:Nat):Fn:=⟨2,2,(.cons (vY fW vJ) .nil)⟩
noncomputable def zO:S:=.ret (.me .join (.c (.str [])) (.cons (.comp (.lT (.v 1) (.v 3) (.v 2)) (.one 3) (.gk (.cons (.v 0) .nil)) .no) .nil))
noncomputable def jR:Fn:=⟨3,4,(.cons zO .nil)⟩
noncomputable def vZ(cV:Nat):S:=.set 1 (.cl cV (.cons (.v 0) .nil))
noncomputable def v9(gD:Nat)(dS:Nat):S:=.ret (.comp (.cl gD (.cons (.cl dS (.cons (.v 0) .nil)) (.cons (.v 1) (.cons (.v 2) .nil)))) (.one 2) (.seq (.c (.tup [.str [97],.str [98]]))) .no)
noncomputable def sD(cV:Nat)(gD:Nat)(dS:Nat):Fn:=⟨1,3,(.cons (vZ cV) (.cons (v9 gD dS) .nil))⟩
noncomputable def zP(m8:Nat)(j8:Nat):S:=.ret (.bi .all (.cons (.comp (.cmp .eq (.cl j8 (.cons (.v 0) (.cons (.v 2) .nil))) (.cl j8 (.cons (.v 1) (.cons (.v 2) .nil)))) (.one 2) (.seq (.cl m8 (.cons (.v 0) .nil))) .no) .nil))
noncomputable def Ez(m8:Nat)(j8:Nat):Fn:=⟨2,3,(.cons (zP m8 j8) .nil)⟩
noncomputable def wc(cV:Nat):S:=.ja 1 2 0 cV
noncomputable def we(gD:Nat)(dS:Nat):S:=.set 3 (.cl gD (.cons (.cl dS (.cons (.ix (.v 0) (.c (.int 0))) .nil)) (.cons (.v 1) (.cons (.ix (.c (.tup [.str [97],.str [98]])) (.c (.int 0))) .nil))))
noncomputable def wg(fW:Nat):S:=.iff (.bi .all (.cons (.comp (.cl fW (.cons (.v 4) (.cons (.v 3) .nil))) (.one 4) (.seq (.v 0)) .no) .nil)) (.cons (.ret (.v 3)) .nil) .nil
noncomputable def wj:S:=.ret (.c (.aG))
noncomputable def sE(cV:Nat)(gD:Nat)(dS:Nat)(fW:Nat):Fn:=⟨1,5,(.cons (wc cV) (.cons (we gD dS) (.cons (wg fW) (.cons wj .nil))))⟩
section
variable{F:List Fn}{w n az bz jS dB dI m9 nc ng bN aW i:Nat}
noncomputable def ou(c:List Pt)(x:List Nat):Option (List Nat):=if au c x=true then some (aE c x)else none
noncomputable def oV:Option (List Nat)->V
 |some s=>.str s
 |none=>.aG
theorem ON(a b:Option (List Nat)):Pv.cop .eq (oV a) (oV b)=some (decide (a=b)):=by
 show eT deep _ _=_;cases a with
 |none=>cases b<;>rfl
 |some a=>
  cases b with
  |none=>rfl
  |some b=>show eT deep (.str a) (.str b)=_;rw[qL];simp
theorem oF(hs:F[az]?=some dG)(hf:F[dI]?=some (kM az))(hd:F[m9]?=some (vh dI))(h:F[i]?=some (sC dI m9))(c:List Pt)(x:List Nat)(b1:tot c<=2000)(l1:c.length<=2000)(b2:x.length<=2000):run F w (n+4) i [.val (av c),.val (.str x)]=some (oV (ou c x),[]):=by
 have c1:=λfr=>call2 (fr:=fr) (jP (F:=F) (w:=w) (n:=n+1) hs hf c x (by omega) (by omega));have c2:=λ(h:au c x=true) fr=>call2 (fr:=fr) (Ej (F:=F) (w:=w) (n:=n) hs hf hd c x (by omega) (by omega) (by omega) h);refine b8 h rfl (ai (bT (af:=[some (.val (av c)),some (.val (.str x))]) (zj (b:=au c x) (aH rfl (bC (aK rfl (ay rfl) (aK rfl (ay rfl) aN)) (c1 _)) rfl) (λz=>?_) λz=>?_) ⟨rfl,rfl⟩))
 .unfold ou;rw[if_pos z];exact bC (aK rfl (ay rfl) (aK rfl (ay rfl) aN)) (c2 z _)
 .unfold ou;rw[if_neg (by rw[z];decide)];exact bq rfl
noncomputable def j9(k:List (Int×List Nat))(s:Nat)(m:Nat):List Nat:=((List.range m).map λ(p:Nat)=>(Ev.bW k (p:Int)).getD [s]).flatten
theorem lO(h:F[i]?=some jR)(k:List (Int×List Nat))(s m:Nat)(hm:m<=1000)(hl:(j9 k s m).length<=1000):run F w (n+1) i [.val (.int (m:Nat)),.val (.dct k),.val (.str [s])]=some (.str (j9 k s m),[]):=by
 have jn:=zc (l:=(List.range m).map λ(p:Nat)=>(Ev.bW k (p:Int)).getD [s]) (Nat.le_trans hl (by decide));rw[List.map_map]at jn;refine b8 h rfl (ai (bT (zm rfl (bq rfl) (aV (fE (mY (aV (ay rfl) aZ) (zv (by omega) rfl)) rfl (e8 (λ(p:Nat)=>V.int (0+(p:Nat))) (λp=>V.str ((Ev.bW k (p:Int)).getD [s])) (List.range m) λp _=>iU rfl (OB (ay rfl) (ay rfl) (ay rfl) ?_)) (dR (cy (by simp;omega)))) aZ) jn) ⟨rfl,rfl⟩));simp only[uD,Int.zero_add];cases Ev.bW k (p:Int)<;>rfl
theorem MG{k:List (Int×List Nat)}{s:Nat}{a:List (List Nat)}(h:∀(p:Nat) y,a[p]?=some y->(Ev.bW k (p:Int)).getD [s]=[y.headD s]):j9 k s a.length=bU s a:=by
 have e:((List.range a.length).map λ(p:Nat)=>(Ev.bW k (p:Int)).getD [s])=a.map λy=>[y.headD s]:=by
  apply List.ext_getElem?;intro p;by_cases hp:p<a.length
  .have e:=List.getElem?_eq_getElem hp;simp only[List.getElem?_map,e,Option.map];rw[List.getElem?_range hp];simp[h p _ e]
  .rw[List.getElem?_eq_none (by simp;omega),List.getElem?_eq_none (by simp;omega)]
 unfold j9 bU;rw[e];clear h e;induction a with
 |nil=>rfl
 |cons y a ih=>rw[List.map_cons,List.map_cons,List.flatten_cons,ih];rfl
theorem qU(hd:F[i]?=some gi){c:List Pt}{k:List (Int×List Nat)}(e:aX (c.map Pt.v) 0 []=some k):run F w (n+1) i [.val (av c)]=some (.dct k,[]):=by
 have bad:exs (run F w n) w gi.body (eS gi [.val (av c)])=.bad:=by
  show exs _ _ (.cons (.set 1 .gY) _) _=_;rw[exs,ex,ev];rfl
 rw[run_eq hd rfl,bad];have fb:fin gi [.val (av c)] .bad=xA gi [.val (av c)]:=by simp only[fin]
 rw[fb];unfold xA;rw[if_pos rfl];show(aX (c.map Pt.v) 0 []).map _=_;rw[e];rfl
theorem wk(hs:F[az]?=some dG)(hb:F[bz]?=some (fU az))(hd:F[jS]?=some gi)(hfl:F[dB]?=some jR)(h:F[i]?=some (sD jS dB bz))(c:List Pt)(b1:tot c<=900)(l1:c.length<=900) :
  run F w (n+3) i [.val (av c)]=some (.lst [.str (bU 97 (asks c)),.str (bU 98 (asks c))],[]):=by
 have nd:=iW c;obtain⟨k,e1,_,e3,e4⟩:=qS c (fD 97 c) (by omega);have r1:=λfr=>cR (fr:=fr) (qU (F:=F) (w:=w) (n:=n+1) hd e1);have r2:=λfr=>cR (fr:=fr) (iw (F:=F) (w:=w) (n:=n) hs hb c (by omega) (by omega));have la:=jO c;have ba:aR c<=tot c:=by have:=jQ c;omega
 have fq:∀s,j9 k s (aR c)=bU s (asks c):=λs=>by
  rw[<-la];refine MG λp y e=>?_;rcases lM (List.mem_of_getElem? e)with rfl|⟨x,rfl⟩
  .cases ev:Ev.bW k (p:Int)with
   |none=>rfl
   |some u=>
    obtain⟨i1,c1,h1,h2,h3⟩:=(e3 _ (fD 97 c)).val ev;obtain⟨i2,c2,g1,g2,g3⟩:=(e3 _ (fD 98 c)).val ev;have z1:i1=p:=by omega
    have z2:i2=p:=by omega
    subst z1 z2;rw[qT e]at h2 g2;cases h2;cases g2;rw[h3]at g3;simp at g3
  .have hh:=e4 p x e;unfold eX at hh;cases ev:Ev.bW k (p:Int)with
   |none=>rw[ev]at hh;cases hh
   |some u=>
    obtain⟨i1,c1,h1,h2,h3⟩:=(e3 _ (fD 97 c)).val ev;have z1:i1=p:=by omega
    subst z1;rw[qT e]at h2;cases h2;rw[h3];rfl
 have r3:∀s fr,cQ (run F w (n+2)) dB [.inr (.int (aR c:Nat)),.inr (.dct k),.inr (.str [s])] fr=.ok (.str (bU s (asks c))) fr:=λs fr=>by
  rw[<-fq];exact eO (fr:=fr) (lO (F:=F) (w:=w) (n:=n+1) hfl k s (aR c) (by omega) (by rw[fq,oZ];omega))
 refine b8 h rfl ?_;refine ai (bG (bC (aK rfl (ay rfl) aN) (r1 _)) rfl rfl ?_);refine ai (bT (fE (di (bq rfl) rfl) rfl (e8 (λs:Nat=>V.str [s]) (λs=>V.str (bU s (asks c))) [97,98] λs _=>iU rfl (bC (aK rfl (bC (aK rfl (ay rfl) aN) (r2 _)) (aK rfl (ay rfl) (aK rfl (ay rfl) aN))) (r3 s _))) sU) ⟨rfl,rfl⟩)
theorem MH{c:List Pt}{x:List Nat}(h:au c x=true):ou c x=some (aE c x):=if_pos h
theorem OO{c d:List Pt}:Wi c d↔ou c (bU 97 (asks c))=ou d (bU 97 (asks c))/\ou c (bU 98 (asks c))=ou d (bU 98 (asks c)):=by
 have key:∀s,ou c (bU s (asks c))=ou d (bU s (asks c))↔au d (bU s (asks c))=true/\aE c (bU s (asks c))=aE d (bU s (asks c)):=λs=>by
  rw[MH (fD s c)];unfold ou;split
  .rename_i h;simp[h]
  .rename_i h;simp[h]
 rw[key,key];exact⟨λh=>⟨⟨h.fa,h.da⟩,h.fb,h.db⟩,λh=>⟨h.1.1,h.2.1,h.1.2,h.2.2⟩⟩
open Classical in
noncomputable def Cm(c d:List Pt):Bool:=decide (Wi c d)
theorem yh{c d:List Pt}:Cm c d=true↔Wi c d:=by unfold Cm;simp
theorem zQ(hs:F[az]?=some dG)(hb:F[bz]?=some (fU az))(hd:F[jS]?=some gi)(hfl:F[dB]?=some jR)(hf:F[dI]?=some (kM az))(hdn:F[m9]?=some (vh dI))(ho:F[nc]?=some (sC dI m9))(Vo:F[ng]?=some (sD jS dB bz))(h:F[i]?=some (Ez ng nc))
  (c d:List Pt) (b1:tot c<=900) (b2:tot d<=900) (l1:c.length<=900) (l2:d.length<=900):run F w (n+5) i [.val (av c),.val (av d)]=some (.bl (Cm c d),[]):=by
 have r1:=λfr=>cR (fr:=fr) (wk (F:=F) (w:=w) (n:=n+1) hs hb hd hfl Vo c b1 l1);have ba:aR c<=tot c:=by have:=jQ c;omega
 have ln:∀s,(bU s (asks c)).length<=2000:=λs=>by rw[oZ,jO];omega
 have r2:=λs fr=>call2 (fr:=fr) (oF (F:=F) (w:=w) (n:=n) hs hf hdn ho c (bU s (asks c)) (by omega) (by omega) (ln s));have r3:=λs fr=>call2 (fr:=fr) (oF (F:=F) (w:=w) (n:=n) hs hf hdn ho d (bU s (asks c)) (by omega) (by omega) (ln s));have al:cC .all [.lst ([97,98].map λs=>V.bl (decide (ou c (bU s (asks c))=ou d (bU s (asks c)))))]=some (.bl (Cm c d)):=by
  rw[qM];show some (V.bl (decide _&&(decide _&&true)))=_;refine congrArg (λb=>some (V.bl b)) ?_;rw[Bool.eq_iff_iff,yh,OO];simp
 exact b8 h rfl (ai (bT (eU (aV (fE (di (bC (aK rfl (ay rfl) aN) (r1 _)) rfl) rfl (e8 (λs:Nat=>V.str (bU s (asks c))) (λs=>V.bl (decide (ou c (bU s (asks c))=ou d (bU s (asks c))))) [97,98] λs _=>iU rfl (bM (bC (aK rfl (ay rfl) (aK rfl (ay rfl) aN)) (r2 s _)) (bC (aK rfl (ay rfl) (aK rfl (ay rfl) aN)) (r3 s _)) (ON _ _))) sU) aZ) al) ⟨rfl,rfl⟩))
inductive PR(c d:List Pt):V->Prop
 |no:aL c=aL d->PR c d .aG
 |yes {x:List Nat}:aL c≠aL d->ou c x≠ou d x->x.length<=tot c+tot d->PR c d (.str x)
theorem FL{t:List Nat}(hd:F[i]?=some gi):∀(rows:List (List Pt)) (k:List (Int×List Nat)),(∀c∈rows,au c t=true/\nD c<=1000)->KE t k->k.length+(rows.map nD).sum<=10000->∃K,jE (run F w (n+1)) i (rows.map av) k=some K/\KE t K/\(∀q,eX k q->eX K q)/\∀c∈rows,∀p x,(asks c)[p]?=some [x]->eX K (p:Nat)
 |[],k,_,h,_=>⟨k,rfl,h,λ_ h=>h,λc hc=>by cases hc⟩
 |c :: rows,k,hr,h,hb=>by
  obtain⟨h1,h2⟩:=hr c (.head _);obtain⟨m,e1,e2,e3,e4⟩:=qS c h1 h2;rw[List.map_cons,List.sum_cons]at hb;have ml:(Ev.b7 k m).length<=k.length+m.length:=by
   have:∀(m k:List (Int×List Nat)),(Ev.b7 k m).length<=k.length+m.length:=λm=>by
    induction m with
    |nil=>intro k;exact Nat.le_refl _
    |cons p m ih=>intro k;have:=ih (Ev.cD k p.1 p.2);have:=oR k p.1 p.2;show(Ev.b7 (Ev.cD k p.1 p.2) m).length<=_;rw[List.length_cons];omega
   exact this m k
  obtain⟨K,g1,g2,g3,g4⟩:=FL hd rows (Ev.b7 k m) (λx hx=>hr x (.tail _ hx)) (h.merge (e3 t h1)) (by omega);refine⟨K,?_,g2,λq hq=>g3 q (m7 (.inl hq)),λx hx p y e=>?_⟩
  .rw[List.map_cons,jE,qU hd e1];show(if k.length+m.length<=100000 then _ else none)=_;rw[if_pos (by omega)];exact g1
  .rcases List.mem_cons.mp hx with rfl|hx
   .exact g3 _ (m7 (.inr (e4 p y e)))
   .exact g4 x hx p y e
theorem wm{s0:Sl}{os:List (List V)}(hs:F[az]?=some dG)(hb:F[bz]?=some (fU az))(hd:F[jS]?=some gi)(hfl:F[dB]?=some jR)(hf:F[dI]?=some (kM az))(h:F[i]?=some (sE jS dB bz dI))(t:List Nat)(c0:List Pt)(rows:List (List Pt))(hr:∀c∈c0 :: rows,au c t=true/\tot c<=900/\c.length<=900)(hl:rows.length<=10)(hS:Hd ((c0 :: rows).map av) s0 os) :
  ∃u,run F w (n+3) i [s0]=some (.str u,os)/\u.length=t.length/\∀c∈c0 :: rows,au c u=true:=by
 have nb:∀l:List (List Pt),(∀c∈l,tot c<=900)->(l.map nD).sum<=l.length*900:=λl=>by
  induction l with
  |nil=>intro _;simp
  |cons c l ih=>
   intro q;have:=ih λx hx=>q x (.tail _ hx);have:=q c (.head _);have:=iW c;rw[List.map_cons,List.sum_cons,List.length_cons,Nat.add_mul];omega
 have nb:=nb (c0 :: rows) λc hc=>(hr c hc).2.1;rw[List.length_cons]at nb;obtain⟨K,k1,k2,_,k4⟩:=FL (w:=w) (n:=n+1) (t:=t) hd (c0 :: rows) [] (λc hc=>⟨(hr c hc).1,by have:=(hr c hc).2.1;have:=iW c;omega⟩) (λe he=>by cases he) (by
  have:(rows.length+1)*900<=11*900:=Nat.mul_le_mul_right _ (by omega);simp only[List.length_nil];omega)
 obtain⟨h1,h2,h3⟩:=hr c0 (.head _);have et:=gQ h1;have ba:aR c0<=tot c0:=by have:=jQ c0;omega
 have vk:∀p:Nat,Ev.bW K (p:Int)=none\/∃c,t[p]?=some c/\Ev.bW K (p:Int)=some [c]:=λp=>by
  cases ev:Ev.bW K (p:Int)with
  |none=>exact .inl rfl
  |some u=>
   obtain⟨j,c,g1,g2,g3⟩:=k2.val ev;have:j=p:=by omega
   subst this;exact .inr ⟨c,g2,by rw[g3]⟩
 have fu:j9 K 97 t.length=(List.range t.length).map λ(p:Nat)=>((Ev.bW K (p:Int)).getD [97]).headD 0:=by
  unfold j9;generalize t.length=m
  have:∀l:List Nat,(l.map λ(p:Nat)=>(Ev.bW K (p:Int)).getD [97]).flatten=l.map λ(p:Nat)=>((Ev.bW K (p:Int)).getD [97]).headD 0:=λl=>by
   induction l with
   |nil=>rfl
   |cons p l ih=>
    rw[List.map_cons,List.map_cons,List.flatten_cons,ih];rcases vk p with z|⟨c,_,z⟩<;>rw[z]<;>rfl
  exact this _
 have lu:(j9 K 97 t.length).length=t.length:=by rw[fu];simp
 have ff:∀c∈c0 :: rows,au c (j9 K 97 t.length)=true:=λc hc=>by
  have hc1:=(hr c hc).1;rw[cH,lN];refine⟨by rw[lu,jO,gQ hc1],λp y x e1 e2=>?_⟩;rcases lM (List.mem_of_getElem? e1)with rfl|⟨z,rfl⟩
  .exact .inl rfl
  .refine .inr ?_;have hh:=k4 c hc p z e1;have ha:=MD hc1 e1;rcases vk p with q|⟨c',q1,q2⟩
   .unfold eX at hh;rw[q]at hh;cases hh
   .rw[ha]at q1;cases q1;have hp:p<t.length:=(List.getElem?_eq_some_iff.mp ha).1;rw[fu,List.getElem?_map,List.getElem?_range hp]at e2;simp[q2]at e2;rw[e2]
 refine⟨j9 K 97 t.length,?_,lu,ff⟩;have rb:=λfr=>cR (fr:=fr) (iw (F:=F) (w:=w) (n:=n) hs hb c0 (by omega) (by omega));rw[<-et]at rb;have rf:=λfr=>eO (fr:=fr) (lO (F:=F) (w:=w) (n:=n+1) hfl K 97 t.length (by omega) (by omega));generalize j9 K 97 t.length=u at lu ff rf
 have ri:=λc (hc:c∈c0 :: rows) fr=>call2 (fr:=fr) (jP (F:=F) (w:=w) (n:=n) hs hf c u (by have:=(hr c hc).2.1;omega) (by omega));have al:cC .all [.lst ((c0 :: rows).map λc=>V.bl (au c u))]=some (.bl true):=by
  rw[qM];have:∀l:List (List Pt),(∀c∈l,au c u=true)->(boolsOf (l.map λc=>V.bl (au c u))).map (λbs=>V.bl (bs.all id))=some (.bl true):=λl=>by
   induction l with
   |nil=>intro _;rfl
   |cons c l ih=>
    intro q;have:=ih λx hx=>q x (.tail _ hx);rw[List.map_cons,q c (.head _)];cases e:boolsOf (l.map λc=>V.bl (au c u))with
    |none=>rw[e]at this;cases this
    |some bs=>
     rw[e]at this;simp only[boolsOf,e,Option.map]at this ⊢;simpa using this
  exact this _ ff
 have g1:∀k a b c d,qG k [some s0.walk,a,b,c,d] 0=some (.lst ((c0 :: rows).map av)):=λk _ _ _ _=>by cases hS<;>rfl
 have g2:∀a b c d,mL true [some s0.walk,a,b,c,d] 0=some (.lst ((c0 :: rows).map av)):=λ_ _ _ _=>by cases hS<;>rfl
 have g3:s0.walk.eE=s0.walk:=by cases hS<;>rfl
 have g4:∀a b c d,outs 1 [some s0.walk,a,b,c,d]=os:=λ_ _ _ _=>by cases hS<;>rfl
 have MI:ee (.lst ((c0 :: rows).map av)) (.int 0)=some (av c0):=by rw[nF,jI (by decide)];rfl
 obtain⟨cl,hcl⟩:∃v,((c0 :: rows).map av).getLast?=some v:=⟨_,List.getLast?_eq_some_getLast (by simp)⟩
 have lp:iM [some s0.walk,some (.val (.dct K)),none,none,none] 2 ((c0 :: rows).map av)=some [some s0.walk,some (.val (.dct K)),some (.val cl),none,none]:=by unfold iM;rw[hcl];rfl
 refine b8 h rfl ?_;refine ai (BL (af:=[some s0.walk,none,none,none,none]) (ao:=[some s0.walk,some (.val (.dct K)),none,none,none]) ⟨by decide,by decide,by show 1<5;decide,by show 2<5;decide⟩ (di (dO (g1 _ _ _ _ _)) rfl) k1 rfl lp ?_);refine ai (bG (af:=[some s0.walk,some (.val (.dct K)),some (.val cl),none,none]) (bC (aK rfl (bC (aK rfl (eF (ay (g2 _ _ _ _)) (bq rfl) MI) aN) (rb _)) (aK rfl (ay rfl) (aK rfl (eF (bq rfl) (bq rfl) rfl) aN))) (rf _)) rfl rfl ?_);refine ai (aP (b:=true) (af:=[some s0.walk,some (.val (.dct K)),some (.val cl),some (.val (.str u)),none]) (aH rfl (eU (aV (fE (di (dO (g1 _ _ _ _ _)) rfl) rfl (e8 av (λc=>V.bl (au c u)) (c0 :: rows) λc hc=>iU rfl (bC (aK rfl (ay rfl) (aK rfl (ay rfl) aN)) (ri c hc _))) (dR (cy (by simp;omega)))) aZ) al) rfl) (λ_=>?_) λh=>absurd h (by decide));have sh:fZ [some s0.walk,some (.val (.dct K)),some (.val cl),some (.val (.str u)),none]=[some s0.walk,some (.val (.dct K)),some (.val cl),some (.val (.str u)),none]:=by
  show some s0.walk.eE :: _=_;rw[g3];rfl
 refine ai (bT (af:=[some s0.walk,some (.val (.dct K)),some (.val cl),some (.val (.str u)),none]) ?_ ⟨rfl,g4 _ _ _ _⟩);rw[sh];exact ay rfl
end
end Pv
namespace Pv
open Ev (D bO bJ TY BI ME T E Es Eo It S Ss Fn big deep rep cut bI)
noncomputable def K1(k:List (Int×List Nat)):Prop:=∀e∈k,∃c:Nat,e.2=[c]
theorem KE.k1{t:List Nat}{k:List (Int×List Nat)}(h:KE t k):K1 k:=λe he=>by
 obtain⟨_,c,_,_,h3⟩:=h e he;exact⟨c,h3⟩
theorem K1.merge:∀{m k:List (Int×List Nat)},K1 k->K1 m->K1 (Ev.b7 k m)
 |[],_,h,_=>h
 |e :: m,k,h,g=>by
  show K1 (Ev.b7 (Ev.cD k e.1 e.2) m);refine K1.merge (λx hx=>?_) λx hx=>g x (.tail _ hx);rcases vH hx with hx|⟨_,h2⟩
  .exact h x hx
  .rw[h2];exact g e (.head _)
theorem K1.val{k:List (Int×List Nat)}(h:K1 k)(p:Int)(s:Nat):((Ev.bW k p).getD [s]).length=1:=by
 cases e:Ev.bW k p with
 |none=>rfl
 |some u=>
  unfold Ev.bW at e;obtain⟨q,e1,rfl⟩:=Option.map_eq_some_iff.mp e;obtain⟨c,h3⟩:=h q (List.mem_of_find?_eq_some e1);rw[Option.getD_some,h3];rfl
theorem MJ{k:List (Int×List Nat)}(h:K1 k)(s m:Nat):(j9 k s m).length=m:=by
 unfold j9;have:∀l:List Nat,((l.map λ(p:Nat)=>(Ev.bW k (p:Int)).getD [s]).flatten).length=l.length:=λl=>by
  induction l with
  |nil=>rfl
  |cons p l ih=>rw[List.map_cons,List.flatten_cons,List.length_append,ih,h.val,List.length_cons];omega
 rw[this,List.length_range]
noncomputable def lW(rows:List (List Pt)):Bool:=by
 classical exact decide (¬ ∃t,∀c∈rows,au c t=true)
theorem gS{rows:List (List Pt)}:lW rows=false↔∃t,∀c∈rows,au c t=true:=by
 unfold lW;simp
theorem qi{r q:List (List Pt)}(h:∀t,(∀c∈r,au c t=true)↔∀c∈q,au c t=true):lW r=lW q:=by
 have:lW r=false↔lW q=false:=by rw[gS,gS];exact exists_congr h
 cases h1:lW r<;>cases h2:lW q<;>simp[h1,h2]at this ⊢
theorem fY(o:Option (List Nat)):Pv.cop .iR (oV o) .aG=some o.isNone:=by cases o<;>rfl
theorem gc(o:Option (List Nat)):Pv.cop .iY (oV o) .aG=some (!o.isNone):=by cases o<;>rfl
section
variable{F:List Fn}{w n az bz jS dB dI i:Nat}
theorem Cn(hd:F[i]?=some gi):∀(rows:List (List Pt)) (k:List (Int×List Nat)),(∀c∈rows,(∃t,au c t=true)/\nD c<=1000)->K1 k->k.length+(rows.map nD).sum<=10000->∃K,jE (run F w (n+1)) i (rows.map av) k=some K/\K1 K
 |[],k,_,h,_=>⟨k,rfl,h⟩
 |c :: rows,k,hr,h,hb=>by
  obtain⟨⟨t,h1⟩,h2⟩:=hr c (.head _);obtain⟨m,e1,e2,e3,_⟩:=qS c h1 h2;rw[List.map_cons,List.sum_cons]at hb;have ml:(Ev.b7 k m).length<=k.length+m.length:=by
   have:∀(m k:List (Int×List Nat)),(Ev.b7 k m).length<=k.length+m.length:=λm=>by
    induction m with
    |nil=>intro k;exact Nat.le_refl _
    |cons p m ih=>intro k;have:=ih (Ev.cD k p.1 p.2);have:=oR k p.1 p.2;show(Ev.b7 (Ev.cD k p.1 p.2) m).length<=_;rw[List.length_cons];omega
   exact this m k
  obtain⟨K,g1,g2⟩:=Cn hd rows (Ev.b7 k m) (λx hx=>hr x (.tail _ hx)) (h.merge (e3 t h1).k1) (by omega);refine⟨K,?_,g2⟩;rw[List.map_cons,jE,qU hd e1];show(if k.length+m.length<=100000 then _ else none)=_;rw[if_pos (by omega)];exact g1
theorem Co(u:List Nat):∀l:List (List Pt),(boolsOf (l.map λc=>V.bl (au c u))).map (λbs=>V.bl (bs.all id))=some (.bl (l.all λc=>au c u))
 |[]=>rfl
 |c :: l=>by
  have:=Co u l;rw[List.map_cons];cases e:boolsOf (l.map λc=>V.bl (au c u))with
  |none=>rw[e]at this;cases this
  |some bs=>
   rw[e]at this;simp only[boolsOf,e,Option.map]at this ⊢;simp only[Option.some.injEq,V.bl.injEq]at this ⊢;rw[List.all_cons,List.all_cons,this];rfl
theorem wo{s0:Sl}{os:List (List V)}(hs:F[az]?=some dG)(hb:F[bz]?=some (fU az))(hd:F[jS]?=some gi)(hfl:F[dB]?=some jR)(hf:F[dI]?=some (kM az))(h:F[i]?=some (sE jS dB bz dI))(c0:List Pt)(rows:List (List Pt))(hr:∀c∈c0 :: rows,(∃t,au c t=true)/\tot c<=900/\c.length<=900)(hl:rows.length<=10)(hS:Hd ((c0 :: rows).map av) s0 os) :
  ∃o,run F w (n+3) i [s0]=some (oV o,os)/\o.isNone=lW (c0 :: rows)/\∀u,o=some u->u.length=aR c0/\∀c∈c0 :: rows,au c u=true:=by
 cases hno:lW (c0 :: rows)with
 |false=>
  obtain⟨t,ht⟩:=gS.mp hno;obtain⟨u,r,l,f⟩:=wm (w:=w) (n:=n) hs hb hd hfl hf h t c0 rows (λc hc=>⟨ht c hc,(hr c hc).2⟩) hl hS;exact⟨some u,r,rfl,λv e=>by cases e;exact⟨by rw[l,gQ (ht c0 (.head _))],f⟩⟩
 |true=>
  have hno:¬ ∃t,∀c∈c0 :: rows,au c t=true:=λz=>by rw[gS.mpr z]at hno;cases hno
  refine⟨none,?_,rfl,λu e=>by cases e⟩;have nb:∀l:List (List Pt),(∀c∈l,tot c<=900)->(l.map nD).sum<=l.length*900:=λl=>by
   induction l with
   |nil=>intro _;simp
   |cons c l ih=>
    intro q;have:=ih λx hx=>q x (.tail _ hx);have:=q c (.head _);have:=iW c;rw[List.map_cons,List.sum_cons,List.length_cons,Nat.add_mul];omega
  have nb:=nb (c0 :: rows) λc hc=>(hr c hc).2.1;rw[List.length_cons]at nb;obtain⟨K,k1,k2⟩:=Cn (w:=w) (n:=n+1) hd (c0 :: rows) [] (λc hc=>⟨(hr c hc).1,by have:=(hr c hc).2.1;have:=iW c;omega⟩) (λe he=>by cases he) (by
   have:(rows.length+1)*900<=11*900:=Nat.mul_le_mul_right _ (by omega);simp only[List.length_nil];omega)
  obtain⟨h1,h2,h3⟩:=hr c0 (.head _);have ba:aR c0<=tot c0:=by have:=jQ c0;omega
  have lu:=MJ k2 97 (aR c0);have rb:=λfr=>cR (fr:=fr) (iw (F:=F) (w:=w) (n:=n) hs hb c0 (by omega) (by omega));have rf:=λfr=>eO (fr:=fr) (lO (F:=F) (w:=w) (n:=n+1) hfl K 97 (aR c0) (by omega) (by omega));generalize j9 K 97 (aR c0)=u at lu rf
  have ri:=λc (hc:c∈c0 :: rows) fr=>call2 (fr:=fr) (jP (F:=F) (w:=w) (n:=n) hs hf c u (by have:=(hr c hc).2.1;omega) (by omega));have al:cC .all [.lst ((c0 :: rows).map λc=>V.bl (au c u))]=some (.bl false):=by
   rw[qM,Co];cases e:(c0 :: rows).all λc=>au c u with
   |false=>rfl
   |true=>exact absurd ⟨u,List.all_eq_true.mp e⟩ hno
  have g1:∀k a b c d,qG k [some s0.walk,a,b,c,d] 0=some (.lst ((c0 :: rows).map av)):=λk _ _ _ _=>by cases hS<;>rfl
  have g2:∀a b c d,mL true [some s0.walk,a,b,c,d] 0=some (.lst ((c0 :: rows).map av)):=λ_ _ _ _=>by cases hS<;>rfl
  have g4:∀a b c d,outs 1 [some s0.walk,a,b,c,d]=os:=λ_ _ _ _=>by cases hS<;>rfl
  have MI:ee (.lst ((c0 :: rows).map av)) (.int 0)=some (av c0):=by rw[nF,jI (by decide)];rfl
  obtain⟨cl,hcl⟩:∃v,((c0 :: rows).map av).getLast?=some v:=⟨_,List.getLast?_eq_some_getLast (by simp)⟩
  have lp:iM [some s0.walk,some (.val (.dct K)),none,none,none] 2 ((c0 :: rows).map av)=some [some s0.walk,some (.val (.dct K)),some (.val cl),none,none]:=by unfold iM;rw[hcl];rfl
  refine b8 h rfl ?_;refine ai (BL (af:=[some s0.walk,none,none,none,none]) (ao:=[some s0.walk,some (.val (.dct K)),none,none,none]) ⟨by decide,by decide,by show 1<5;decide,by show 2<5;decide⟩ (di (dO (g1 _ _ _ _ _)) rfl) k1 rfl lp ?_);refine ai (bG (af:=[some s0.walk,some (.val (.dct K)),some (.val cl),none,none]) (bC (aK rfl (bC (aK rfl (eF (ay (g2 _ _ _ _)) (bq rfl) MI) aN) (rb _)) (aK rfl (ay rfl) (aK rfl (eF (bq rfl) (bq rfl) rfl) aN))) (rf _)) rfl rfl ?_);refine ai (aP (b:=false) (af:=[some s0.walk,some (.val (.dct K)),some (.val cl),some (.val (.str u)),none]) (aH rfl (eU (aV (fE (di (dO (g1 _ _ _ _ _)) rfl) rfl (e8 av (λc=>V.bl (au c u)) (c0 :: rows) λc hc=>iU rfl (bC (aK rfl (ay rfl) (aK rfl (ay rfl) aN)) (ri c hc _))) (dR (cy (by simp;omega)))) aZ) al) rfl) (λh=>absurd h (by decide)) λ_=>aB ?_);have g3:s0.walk.eE=s0.walk:=by cases hS<;>rfl
  have sh:fZ [some s0.walk,some (.val (.dct K)),some (.val cl),some (.val (.str u)),none]=[some s0.walk,some (.val (.dct K)),some (.val cl),some (.val (.str u)),none]:=by
   show some s0.walk.eE :: _=_;rw[g3];rfl
  refine ai (bT (af:=[some s0.walk,some (.val (.dct K)),some (.val cl),some (.val (.str u)),none]) ?_ ⟨rfl,g4 _ _ _ _⟩);rw[sh];exact bq rfl
end
end Pv
set_option maxRecDepth 100000
namespace Lw
@[reducible] noncomputable def SW:Ev.S:=.iff (.cmp .eq (.ix (.v 0) (.c (.int 0))) (.c (.str [107,101,101,112]))) (.cons (.ret (.ix (.v 0) (.c (.int 1)))) .nil) .nil
@[reducible] noncomputable def SX:Ev.S:=.ret (.bi .len (.cons (.ix (.v 0) (.c (.int 1))) .nil))
@[reducible] noncomputable def f0:Ev.Fn:=⟨1,1,(.cons SW (.cons SX .nil))⟩
@[reducible] noncomputable def SY:Ev.S:=.ret (.bi .sum (.cons (.comp (.cl 0 (.cons (.v 1) .nil)) (.one 1) (.seq (.v 0)) (.yes (.cmp .ne (.ix (.v 1) (.c (.int 0))) (.c (.str [112,117,116]))))) .nil))
@[reducible] noncomputable def f1:Ev.Fn:=⟨1,2,(.cons SY .nil)⟩
@[reducible] noncomputable def S5:Ev.S:=.ret (.bi .sum (.cons (.comp (.cl 0 (.cons (.v 1) .nil)) (.one 1) (.seq (.v 0)) (.yes (.cmp .ne (.ix (.v 1) (.c (.int 0))) (.c (.str [100,114,111,112]))))) .nil))
@[reducible] noncomputable def f2:Ev.Fn:=⟨1,2,(.cons S5 .nil)⟩
@[reducible] noncomputable def S6:Ev.S:=.set 1 (.lst .nil)
@[reducible] noncomputable def S7:Ev.S:=.set 2 (.c (.int 0))
@[reducible] noncomputable def S8:Ev.S:=.set 3 (.c (.str []))
@[reducible] noncomputable def S9:Ev.S:=.set 4 (.c (.str []))
@[reducible] noncomputable def Tc:Ev.Ss:=(.cons (.iff (.cmp .eq (.v 5) (.c (.str [100,114,111,112]))) (.cons (.set 3 (.bin .add (.v 3) (.v 6))) .nil) (.cons (.iff (.cmp .eq (.v 5) (.c (.str [112,117,116]))) (.cons (.set 4 (.bin .add (.v 4) (.v 6))) .nil) (.cons (.iff (.cmp .gt (.v 6) (.c (.int 0))) (.cons (.iff (.orr (.cmp .ne (.v 3) (.c (.str []))) (.cmp .ne (.v 4) (.c (.str [])))) (.cons (.exp (.me .extend (.v 1) (.cons (.cl 4 (.cons (.v 2) (.cons (.v 3) (.cons (.v 4) .nil)))) .nil))) (.cons (.set 2 (.c (.int 0))) (.cons (.set 3 (.c (.str []))) (.cons (.set 4 (.c (.str []))) .nil)))) .nil) (.cons (.set 2 (.bin .add (.v 2) (.v 6))) .nil)) .nil) .nil)) .nil)) .nil)
@[reducible] noncomputable def Td:Ev.S:=.for (.many [5,6]) (.seq (.v 0)) Tc
@[reducible] noncomputable def Te:Ev.S:=.exp (.me .extend (.v 1) (.cons (.cl 4 (.cons (.v 2) (.cons (.v 3) (.cons (.v 4) .nil)))) .nil))
@[reducible] noncomputable def Tf:Ev.S:=.ret (.iz (.v 1))
@[reducible] noncomputable def f3:Ev.Fn:=⟨1,7,(.cons S6 (.cons S7 (.cons S8 (.cons S9 (.cons Td (.cons Te (.cons Tf .nil)))))))⟩
@[reducible] noncomputable def Tg:Ev.S:=.set 3 (.lst .nil)
@[reducible] noncomputable def Ti:Ev.S:=.iff (.cmp .gt (.v 0) (.c (.int 0))) (.cons (.exp (.me .append (.v 3) (.cons (.tup (.cons (.c (.str [107,101,101,112])) (.cons (.v 0) .nil))) .nil))) .nil) .nil
@[reducible] noncomputable def Tj:Ev.S:=.iff (.cmp .ne (.v 1) (.c (.str []))) (.cons (.exp (.me .append (.v 3) (.cons (.tup (.cons (.c (.str [100,114,111,112])) (.cons (.v 1) .nil))) .nil))) .nil) .nil
@[reducible] noncomputable def To:Ev.S:=.iff (.cmp .ne (.v 2) (.c (.str []))) (.cons (.exp (.me .append (.v 3) (.cons (.tup (.cons (.c (.str [112,117,116])) (.cons (.v 2) .nil))) .nil))) .nil) .nil
@[reducible] noncomputable def Tp:Ev.S:=.ret (.v 3)
@[reducible] noncomputable def f4:Ev.Fn:=⟨3,4,(.cons Tg (.cons Ti (.cons Tj (.cons To (.cons Tp .nil)))))⟩
@[reducible] noncomputable def Tt:Ev.S:=.set 2 (.c (.int 0))
@[reducible] noncomputable def Tu:Ev.Ss:=(.cons (.iff (.an (.cmp .eq (.ix (.v 3) (.c (.int 0))) (.c (.str [100,114,111,112]))) (.cmp .ne (.sl (.v 1) (.yes (.v 2)) (.yes (.bin .add (.v 2) (.cl 0 (.cons (.v 3) .nil))))) (.ix (.v 3) (.c (.int 1))))) (.cons (.ret (.c (.bl false))) .nil) .nil) (.cons (.iff (.cmp .ne (.ix (.v 3) (.c (.int 0))) (.c (.str [112,117,116]))) (.cons (.set 2 (.bin .add (.v 2) (.cl 0 (.cons (.v 3) .nil)))) .nil) .nil) .nil))
@[reducible] noncomputable def Tv:Ev.S:=.for (.one 3) (.seq (.v 0)) Tu
@[reducible] noncomputable def Tw:Ev.S:=.ret (.cmp .eq (.v 2) (.bi .len (.cons (.v 1) .nil)))
@[reducible] noncomputable def f5:Ev.Fn:=⟨2,4,(.cons Tt (.cons Tv (.cons Tw .nil)))⟩
@[reducible] noncomputable def Tz:Ev.S:=.iff (.nt (.cl 5 (.cons (.v 0) (.cons (.v 1) .nil)))) (.cons (.gf) .nil) .nil
@[reducible] noncomputable def TF:Ev.S:=.set 2 (.lst .nil)
@[reducible] noncomputable def TH:Ev.S:=.set 3 (.c (.int 0))
@[reducible] noncomputable def TJ:Ev.Ss:=(.cons (.iff (.cmp .eq (.v 4) (.c (.str [112,117,116]))) (.cons (.exp (.me .append (.v 2) (.cons (.v 5) .nil))) .nil) (.cons (.iff (.cmp .eq (.v 4) (.c (.str [100,114,111,112]))) (.cons (.set 3 (.bin .add (.v 3) (.bi .len (.cons (.v 5) .nil)))) .nil) (.cons (.exp (.me .append (.v 2) (.cons (.sl (.v 1) (.yes (.v 3)) (.yes (.bin .add (.v 3) (.v 5)))) .nil))) (.cons (.set 3 (.bin .add (.v 3) (.v 5))) .nil))) .nil)) .nil)
@[reducible] noncomputable def TL:Ev.S:=.for (.many [4,5]) (.seq (.v 0)) TJ
@[reducible] noncomputable def TM:Ev.S:=.ret (.me .join (.c (.str [])) (.cons (.v 2) .nil))
@[reducible] noncomputable def f6:Ev.Fn:=⟨2,6,(.cons Tz (.cons TF (.cons TH (.cons TL (.cons TM .nil)))))⟩
@[reducible] noncomputable def TN:Ev.S:=.ret (.cl 3 (.cons (.iz (.comp (.tup (.cons (.iZ [(.str [107,101,101,112],.str [107,101,101,112]),(.str [112,117,116],.str [100,114,111,112]),(.str [100,114,111,112],.str [112,117,116])] (.v 1)) (.cons (.v 2) .nil))) (.many [1,2]) (.seq (.v 0)) .no)) .nil))
@[reducible] noncomputable def f7:Ev.Fn:=⟨1,3,(.cons TN .nil)⟩
@[reducible] noncomputable def TQ:Ev.S:=.ret (.cl 3 (.cons (.tup (.cons (.tup (.cons (.c (.str [107,101,101,112])) (.cons (.v 0) .nil))) .nil)) .nil))
@[reducible] noncomputable def f8:Ev.Fn:=⟨1,1,(.cons TQ .nil)⟩
@[reducible] noncomputable def TR:Ev.S:=.iff (.cmp .ne (.cl 2 (.cons (.v 0) .nil)) (.cl 1 (.cons (.v 1) .nil))) (.cons (.gf) .nil) .nil
@[reducible] noncomputable def TU:Ev.S:=.set 2 (.je (.rev (.cl 3 (.cons (.v 0) .nil))))
@[reducible] noncomputable def TV:Ev.S:=.set 3 (.je (.rev (.cl 3 (.cons (.v 1) .nil))))
@[reducible] noncomputable def TX:Ev.S:=.set 4 (.lst .nil)
@[reducible] noncomputable def TZ:Ev.Ss:=(.cons (.iff (.an (.v 2) (.cmp .eq (.ix (.ix (.v 2) (.neg (.c (.int 1)))) (.c (.int 0))) (.c (.str [100,114,111,112])))) (.cons (.exp (.me .append (.v 4) (.cons (.me .pop (.v 2) .nil) .nil))) .nil) (.cons (.iff (.an (.v 3) (.cmp .eq (.ix (.ix (.v 3) (.neg (.c (.int 1)))) (.c (.int 0))) (.c (.str [112,117,116])))) (.cons (.exp (.me .append (.v 4) (.cons (.me .pop (.v 3) .nil) .nil))) .nil) (.cons (.set 5 (.bi .min (.cons (.cl 0 (.cons (.ix (.v 2) (.neg (.c (.int 1)))) .nil)) (.cons (.cl 0 (.cons (.ix (.v 3) (.neg (.c (.int 1)))) .nil)) .nil)))) (.cons (.exp (.me .extend (.v 4) (.cons (.cl 10 (.cons (.cl 11 (.cons (.v 2) (.cons (.v 5) .nil))) (.cons (.cl 11 (.cons (.v 3) (.cons (.v 5) .nil))) .nil))) .nil))) .nil))) .nil)) .nil)
@[reducible] noncomputable def T3:Ev.S:=.o8 (.orr (.v 2) (.v 3)) TZ
@[reducible] noncomputable def T4:Ev.S:=.ret (.cl 3 (.cons (.iz (.v 4)) .nil))
@[reducible] noncomputable def f9:Ev.Fn:=⟨2,6,(.cons TR (.cons TU (.cons TV (.cons TX (.cons T3 (.cons T4 .nil))))))⟩
@[reducible] noncomputable def OP:Ev.S:=.iff (.cmp .eq (.ix (.v 1) (.c (.int 0))) (.c (.str [107,101,101,112]))) (.cons (.ret (.lst (.cons (.v 0) .nil))) .nil) .nil
@[reducible] noncomputable def OQ:Ev.S:=.iff (.cmp .eq (.ix (.v 0) (.c (.int 0))) (.c (.str [107,101,101,112]))) (.cons (.ret (.lst (.cons (.v 1) .nil))) .nil) .nil
@[reducible] noncomputable def OR:Ev.S:=.iff (.cmp .ne (.ix (.v 0) (.c (.int 1))) (.ix (.v 1) (.c (.int 1)))) (.cons (.gf) .nil) .nil
@[reducible] noncomputable def OS:Ev.S:=.ret (.lst .nil)
@[reducible] noncomputable def EW:Ev.Fn:=⟨2,2,(.cons OP (.cons OQ (.cons OR (.cons OS .nil))))⟩
@[reducible] noncomputable def OT:Ev.S:=.set 2 (.cl 12 (.cons (.me .pop (.v 0) .nil) (.cons (.v 1) .nil)))
@[reducible] noncomputable def OU:Ev.S:=.iff (.cmp .gt (.cl 0 (.cons (.ix (.v 2) (.c (.int 1))) .nil)) (.c (.int 0))) (.cons (.exp (.me .append (.v 0) (.cons (.ix (.v 2) (.c (.int 1))) .nil))) .nil) .nil
@[reducible] noncomputable def OV:Ev.S:=.ret (.ix (.v 2) (.c (.int 0)))
@[reducible] noncomputable def QA:Ev.Fn:=⟨2,3,(.cons OT (.cons OU (.cons OV .nil)))⟩
@[reducible] noncomputable def OW:Ev.S:=.set 2 (.ix (.v 0) (.c (.int 0)))
@[reducible] noncomputable def OX:Ev.S:=.iff (.cmp .eq (.v 2) (.c (.str [107,101,101,112]))) (.cons (.ret (.tup (.cons (.tup (.cons (.v 2) (.cons (.v 1) .nil))) (.cons (.tup (.cons (.v 2) (.cons (.bin .sub (.ix (.v 0) (.c (.int 1))) (.v 1)) .nil))) .nil)))) .nil) .nil
@[reducible] noncomputable def OY:Ev.S:=.ret (.tup (.cons (.tup (.cons (.v 2) (.cons (.sl (.ix (.v 0) (.c (.int 1))) .no (.yes (.v 1))) .nil))) (.cons (.tup (.cons (.v 2) (.cons (.sl (.ix (.v 0) (.c (.int 1))) (.yes (.v 1)) .no) .nil))) .nil)))
@[reducible] noncomputable def QB:Ev.Fn:=⟨2,3,(.cons OW (.cons OX (.cons OY .nil)))⟩
@[reducible] noncomputable def OZ:Ev.S:=.set 1 (.gY)
@[reducible] noncomputable def O0:Ev.S:=.set 2 (.c (.int 0))
@[reducible] noncomputable def O1:Ev.Ss:=(.cons (.dput (.v 1) (.v 2) (.v 4)) (.cons (.set 2 (.bin .add (.v 2) (.c (.int 1)))) .nil))
@[reducible] noncomputable def O2:Ev.Ss:=(.cons (.iff (.cmp .eq (.ix (.v 3) (.c (.int 0))) (.c (.str [100,114,111,112]))) (.cons (.for (.one 4) (.seq (.ix (.v 3) (.c (.int 1)))) O1) .nil) (.cons (.iff (.cmp .eq (.ix (.v 3) (.c (.int 0))) (.c (.str [107,101,101,112]))) (.cons (.set 2 (.bin .add (.v 2) (.ix (.v 3) (.c (.int 1))))) .nil) .nil) .nil)) .nil)
@[reducible] noncomputable def O3:Ev.S:=.for (.one 3) (.seq (.v 0)) O2
@[reducible] noncomputable def O4:Ev.S:=.ret (.v 1)
@[reducible] noncomputable def QC:Ev.Fn:=⟨1,5,(.cons OZ (.cons O0 (.cons O3 (.cons O4 .nil))))⟩
@[reducible] noncomputable def O5:Ev.S:=.ret (.bi .all (.cons (.comp (.cmp .eq (.cl 18 (.cons (.v 0) (.cons (.v 2) .nil))) (.cl 18 (.cons (.v 1) (.cons (.v 2) .nil)))) (.one 2) (.seq (.cl 16 (.cons (.v 0) .nil))) .no) .nil))
@[reducible] noncomputable def QD:Ev.Fn:=⟨2,3,(.cons O5 .nil)⟩
@[reducible] noncomputable def O6:Ev.S:=.ja 1 2 0 13
@[reducible] noncomputable def O7:Ev.S:=.set 3 (.cl 17 (.cons (.cl 1 (.cons (.ix (.v 0) (.c (.int 0))) .nil)) (.cons (.v 1) (.cons (.ix (.c (.tup [.str [97],.str [98]])) (.c (.int 0))) .nil))))
@[reducible] noncomputable def O8:Ev.S:=.iff (.bi .all (.cons (.comp (.cl 5 (.cons (.v 4) (.cons (.v 3) .nil))) (.one 4) (.seq (.v 0)) .no) .nil)) (.cons (.ret (.v 3)) .nil) .nil
@[reducible] noncomputable def O9:Ev.S:=.ret (.c (.aG))
@[reducible] noncomputable def QE:Ev.Fn:=⟨1,5,(.cons O6 (.cons O7 (.cons O8 (.cons O9 .nil))))⟩
@[reducible] noncomputable def Pb:Ev.S:=.set 1 (.cl 13 (.cons (.v 0) .nil))
@[reducible] noncomputable def Pc:Ev.S:=.ret (.comp (.cl 17 (.cons (.cl 1 (.cons (.v 0) .nil)) (.cons (.v 1) (.cons (.v 2) .nil)))) (.one 2) (.seq (.c (.tup [.str [97],.str [98]]))) .no)
@[reducible] noncomputable def QF:Ev.Fn:=⟨1,3,(.cons Pb (.cons Pc .nil))⟩
@[reducible] noncomputable def Pd:Ev.S:=.ret (.me .join (.c (.str [])) (.cons (.comp (.lT (.v 1) (.v 3) (.v 2)) (.one 3) (.gk (.cons (.v 0) .nil)) .no) .nil))
@[reducible] noncomputable def QG:Ev.Fn:=⟨3,4,(.cons Pd .nil)⟩
@[reducible] noncomputable def Pe:Ev.S:=.ret (.jT (.cl 5 (.cons (.v 0) (.cons (.v 1) .nil))) (.cl 6 (.cons (.v 0) (.cons (.v 1) .nil))) (.c (.aG)))
@[reducible] noncomputable def QH:Ev.Fn:=⟨2,2,(.cons Pe .nil)⟩
@[reducible] noncomputable def Pf:Ev.S:=.ret (.cl 3 (.cons (.iz (.comp (.v 1) (.one 1) (.seq (.v 0)) (.yes (.cmp .ne (.ix (.v 1) (.c (.int 0))) (.c (.str [112,117,116])))))) .nil))
@[reducible] noncomputable def QI:Ev.Fn:=⟨1,2,(.cons Pf .nil)⟩
@[reducible] noncomputable def Pg:Ev.S:=.iff (.cmp .eq (.v 0) (.lst .nil)) (.cons (.ret (.bin .mul (.c (.int 7)) (.v 1))) .nil) .nil
@[reducible] noncomputable def Ph:Ev.S:=.ret (.bin .add (.ix (.v 0) (.bin .mod (.v 1) (.bi .len (.cons (.v 0) .nil)))) (.bin .mul (.c (.int 6553)) (.bin .fdiv (.v 1) (.bi .len (.cons (.v 0) .nil)))))
@[reducible] noncomputable def QJ:Ev.Fn:=⟨2,2,(.cons Pg (.cons Ph .nil))⟩
@[reducible] noncomputable def Pj:Ev.S:=.set 3 (.bin .mod (.bin .add (.bin .mul (.bin .mod (.cl 20 (.cons (.v 0) (.cons (.v 1) .nil))) (.c (.int 2147483563))) (.c (.int 69069))) (.bin .mul (.c (.int 104723)) (.bin .add (.v 1) (.c (.int 1))))) (.c (.int 2147483563)))
@[reducible] noncomputable def Pk:Ev.S:=.set 3 (.bin .mod (.bin .add (.bin .mul (.v 3) (.v 3)) (.bin .fdiv (.v 3) (.c (.int 3)))) (.c (.int 2147483399)))
@[reducible] noncomputable def Pn:Ev.S:=.ret (.bin .mod (.bin .fdiv (.bin .mod (.bin .add (.bin .mul (.v 3) (.v 3)) (.bin .fdiv (.v 3) (.c (.int 7)))) (.c (.int 2147483647))) (.c (.int 11))) (.v 2))
@[reducible] noncomputable def QK:Ev.Fn:=⟨3,4,(.cons Pj (.cons Pk (.cons Pn .nil)))⟩
@[reducible] noncomputable def Po:Ev.S:=.ret (.me .join (.c (.str [])) (.cons (.comp (.ix (.c (.str [97,98,99,32])) (.cl 21 (.cons (.v 0) (.cons (.bin .add (.bin .add (.v 1) (.c (.int 1))) (.v 3)) (.cons (.c (.int 4)) .nil))))) (.one 3) (.gk (.cons (.cl 21 (.cons (.v 0) (.cons (.v 1) (.cons (.bin .add (.v 2) (.c (.int 1))) .nil)))) .nil)) .no) .nil))
@[reducible] noncomputable def QL:Ev.Fn:=⟨3,4,(.cons Po .nil)⟩
@[reducible] noncomputable def Pp:Ev.S:=.set 3 (.tup .nil)
@[reducible] noncomputable def Pq:Ev.Ss:=(.cons (.iff (.cmp .eq (.cl 21 (.cons (.v 0) (.cons (.bin .add (.v 1) (.bin .mul (.c (.int 4)) (.v 4))) (.cons (.c (.int 4)) .nil)))) (.c (.int 0))) (.cons (.set 5 (.bin .mul (.ix (.c (.str [97,98,122])) (.cl 21 (.cons (.v 0) (.cons (.bin .add (.bin .add (.v 1) (.bin .mul (.c (.int 4)) (.v 4))) (.c (.int 1))) (.cons (.c (.int 3)) .nil))))) (.bin .add (.c (.int 1)) (.cl 21 (.cons (.v 0) (.cons (.bin .add (.bin .add (.v 1) (.bin .mul (.c (.int 4)) (.v 4))) (.c (.int 2))) (.cons (.c (.int 2)) .nil))))))) (.cons (.set 3 (.bin .add (.v 3) (.tup (.cons (.tup (.cons (.c (.str [112,117,116])) (.cons (.v 5) .nil))) .nil)))) .nil)) .nil) (.cons (.iff (.cmp .lt (.v 4) (.bi .len (.cons (.v 2) .nil))) (.cons (.set 6 (.cmp .gt (.cl 21 (.cons (.v 0) (.cons (.bin .add (.bin .add (.v 1) (.bin .mul (.c (.int 4)) (.v 4))) (.c (.int 3))) (.cons (.c (.int 3)) .nil)))) (.c (.int 0)))) (.cons (.set 3 (.bin .add (.v 3) (.tup (.cons (.jT (.v 6) (.tup (.cons (.c (.str [107,101,101,112])) (.cons (.c (.int 1)) .nil))) (.tup (.cons (.c (.str [100,114,111,112])) (.cons (.ix (.v 2) (.v 4)) .nil)))) .nil)))) .nil)) .nil) .nil))
@[reducible] noncomputable def Pr:Ev.S:=.for (.one 4) (.gk (.cons (.bin .add (.bi .len (.cons (.v 2) .nil)) (.c (.int 1))) .nil)) Pq
@[reducible] noncomputable def Pu:Ev.S:=.ret (.v 3)
@[reducible] noncomputable def QM:Ev.Fn:=⟨3,7,(.cons Pp (.cons Pr (.cons Pu .nil)))⟩
@[reducible] noncomputable def FO:Ev.S:=.set 1 (.cl 22 (.cons (.v 0) (.cons (.c (.int 0)) (.cons (.c (.int 5)) .nil))))
@[reducible] noncomputable def FP:Ev.S:=.set 2 (.lst .nil)
@[reducible] noncomputable def zR:Ev.Ss:=(.cons (.set 4 (.bin .add (.c (.int 20)) (.bin .mul (.c (.int 40)) (.v 3)))) (.cons (.set 5 (.cl 21 (.cons (.v 0) (.cons (.v 4) (.cons (.bin .add (.bi .len (.cons (.v 1) .nil)) (.c (.int 4))) .nil))))) (.cons (.set 6 (.bin .add (.bin .add (.sl (.v 1) .no (.yes (.v 5))) (.bin .mul (.ix (.c (.str [97,98,99])) (.cl 21 (.cons (.v 0) (.cons (.bin .add (.v 4) (.c (.int 1))) (.cons (.c (.int 3)) .nil))))) (.bi .kh (.cons (.cmp .lt (.v 5) (.bi .len (.cons (.v 1) .nil))) .nil)))) (.sl (.v 1) (.yes (.bin .add (.v 5) (.c (.int 1)))) .no))) (.cons (.exp (.me .append (.v 2) (.cons (.cl 23 (.cons (.v 0) (.cons (.bin .add (.v 4) (.c (.int 2))) (.cons (.v 6) .nil)))) .nil))) .nil))))
@[reducible] noncomputable def FQ:Ev.S:=.for (.one 3) (.gk (.cons (.bin .add (.c (.int 1)) (.cl 21 (.cons (.v 0) (.cons (.c (.int 10)) (.cons (.c (.int 4)) .nil))))) .nil)) zR
@[reducible] noncomputable def zS:Ev.S:=.set 7 (.cl 15 (.cons (.v 2) .nil))
@[reducible] noncomputable def zT:Ev.S:=.iff (.an (.cmp .iY (.v 7) (.c (.aG))) (.cmp .ne (.bi .len (.cons (.v 7) .nil)) (.bi .len (.cons (.v 1) .nil)))) (.cons (.ret (.c (.bl false))) .nil) .nil
@[reducible] noncomputable def zU:Ev.S:=.iff (.an (.cmp .iY (.v 7) (.c (.aG))) (.cmp .ne (.comp (.v 11) (.one 11) (.seq (.v 2)) (.yes (.nt (.cl 5 (.cons (.v 11) (.cons (.v 7) .nil)))))) (.lst .nil))) (.cons (.ret (.c (.bl false))) .nil) .nil
@[reducible] noncomputable def zV:Ev.S:=.iff (.orr (.cmp .ne (.cmp .iR (.cl 15 (.cons (.rv (.v 2)) .nil)) (.c (.aG))) (.cmp .iR (.v 7) (.c (.aG)))) (.cmp .ne (.cmp .iR (.cl 15 (.cons (.bin .add (.v 2) (.v 2)) .nil)) (.c (.aG))) (.cmp .iR (.v 7) (.c (.aG))))) (.cons (.ret (.c (.bl false))) .nil) .nil
@[reducible] noncomputable def zW:Ev.Ss:=(.cons (.iff (.an (.cmp .gt (.v 5) (.c (.int 0))) (.an (.cmp .iY (.v 7) (.c (.aG))) (.cmp .iR (.cl 15 (.cons (.sl (.v 2) .no (.yes (.v 5))) .nil)) (.c (.aG))))) (.cons (.ret (.c (.bl false))) .nil) .nil) (.cons (.iff (.orr (.nt (.cl 5 (.cons (.ix (.v 2) (.v 5)) (.cons (.cl 15 (.cons (.lst (.cons (.ix (.v 2) (.v 5)) .nil)) .nil)) .nil)))) (.cmp .iY (.cl 15 (.cons (.lst (.cons (.ix (.v 2) (.v 5)) (.cons (.cl 8 (.cons (.bin .add (.cl 1 (.cons (.ix (.v 2) (.v 5)) .nil)) (.c (.int 1))) .nil)) .nil))) .nil)) (.c (.aG)))) (.cons (.ret (.c (.bl false))) .nil) .nil) (.cons (.set 8 (.cl 9 (.cons (.ix (.v 2) (.v 5)) (.cons (.cl 7 (.cons (.ix (.v 2) (.v 5)) .nil)) .nil)))) (.cons (.iff (.orr (.nt (.cl 14 (.cons (.v 8) (.cons (.cl 8 (.cons (.bi .len (.cons (.v 1) .nil)) .nil)) .nil)))) (.cmp .ne (.cmp .iR (.cl 15 (.cons (.bin .add (.v 2) (.lst (.cons (.v 8) .nil))) .nil)) (.c (.aG))) (.cmp .iR (.v 7) (.c (.aG))))) (.cons (.ret (.c (.bl false))) .nil) .nil) (.cons (.iff (.cmp .ne (.cmp .iR (.cl 15 (.cons (.comp (.cl 19 (.cons (.v 12) .nil)) (.one 12) (.seq (.v 2)) .no) .nil)) (.c (.aG))) (.cmp .iR (.v 7) (.c (.aG)))) (.cons (.ret (.c (.bl false))) .nil) .nil) .nil)))))
@[reducible] noncomputable def zX:Ev.S:=.for (.one 5) (.gk (.cons (.bi .len (.cons (.v 2) .nil)) .nil)) zW
@[reducible] noncomputable def tF:Ev.S:=.set 9 (.cl 8 (.cons (.bi .len (.cons (.v 1) .nil)) .nil))
@[reducible] noncomputable def zY:Ev.Ss:=(.cons (.set 9 (.cl 9 (.cons (.v 9) (.cons (.cl 9 (.cons (.v 10) (.cons (.cl 7 (.cons (.v 10) .nil)) .nil))) .nil)))) .nil)
@[reducible] noncomputable def tG:Ev.S:=.for (.one 10) (.seq (.bin .mul (.v 2) (.bi .kh (.cons (.cmp .iY (.v 7) (.c (.aG))) .nil)))) zY
@[reducible] noncomputable def qj:Ev.S:=.iff (.cmp .iR (.v 7) (.c (.aG))) (.cons (.ret (.c (.bl true))) .nil) .nil
@[reducible] noncomputable def qk:Ev.S:=.ret (.an (.cl 5 (.cons (.v 9) (.cons (.v 7) .nil))) (.cmp .eq (.comp (.v 13) (.one 13) (.seq (.v 2)) (.yes (.nt (.cl 5 (.cons (.v 13) (.cons (.cl 15 (.cons (.lst (.cons (.v 9) .nil)) .nil)) .nil)))))) (.lst .nil)))
@[reducible] noncomputable def FT:Ev.Fn:=⟨1,14,(.cons FO (.cons FP (.cons FQ (.cons zS (.cons zT (.cons zU (.cons zV (.cons zX (.cons tF (.cons tG (.cons qj (.cons qk .nil))))))))))))⟩
noncomputable def prog:List Ev.Fn:=[f0,f1,f2,f3,f4,f5,f6,f7,f8,f9,EW,QA,QB,QC,QD,QE,QF,QG,QH,QI,QJ,QK,QL,QM,FT]
end Lw
set_option maxRecDepth 100000
namespace Lw
open PySem PySem.Spec PyProof.Rows L2 Sm
open Ev (D O Hh Fr R aM E Es Eo T S Ss Fl Src bO bJ TY BI ME)
noncomputable def top(i:Nat):Stmt:=PySem.Challenge.pw_pastways_k62_whole_all_fit.main.body.getD i (.Pass ⟨0,0,0,0⟩)
abbrev i0 (a:Nat->Addr) (d:Nat->FuncData):FI:=⟨"size",a 0,d 0,["part"]⟩
abbrev i1 (a:Nat->Addr) (d:Nat->FuncData):FI:=⟨"before",a 1,d 1,["change"]⟩
abbrev i2 (a:Nat->Addr) (d:Nat->FuncData):FI:=⟨"after",a 2,d 2,["change"]⟩
abbrev i3 (a:Nat->Addr) (d:Nat->FuncData):FI:=⟨"form",a 3,d 3,["change"]⟩
abbrev i4 (a:Nat->Addr) (d:Nat->FuncData):FI:=⟨"stretch",a 4,d 4,["kept","gone","new"]⟩
abbrev i5 (a:Nat->Addr) (d:Nat->FuncData):FI:=⟨"fits",a 5,d 5,["change","text"]⟩
abbrev i6 (a:Nat->Addr) (d:Nat->FuncData):FI:=⟨"done",a 6,d 6,["change","text"]⟩
abbrev i7 (a:Nat->Addr) (d:Nat->FuncData):FI:=⟨"undone",a 7,d 7,["change"]⟩
abbrev i8 (a:Nat->Addr) (d:Nat->FuncData):FI:=⟨"nothing",a 8,d 8,["many"]⟩
abbrev i9 (a:Nat->Addr) (d:Nat->FuncData):FI:=⟨"then",a 9,d 9,["one","other"]⟩
abbrev MK (a:Nat->Addr) (d:Nat->FuncData):FI:=⟨"met",a 10,d 10,["left","gone_through"]⟩
abbrev ML (a:Nat->Addr) (d:Nat->FuncData):FI:=⟨"taken",a 11,d 11,["parts","many"]⟩
abbrev i12 (a:Nat->Addr) (d:Nat->FuncData):FI:=⟨"parted",a 12,d 12,["part","many"]⟩
abbrev MM (a:Nat->Addr) (d:Nat->FuncData):FI:=⟨"dropped_signs",a 13,d 13,["change"]⟩
abbrev MN (a:Nat->Addr) (d:Nat->FuncData):FI:=⟨"within",a 14,d 14,["one","other"]⟩
abbrev MO (a:Nat->Addr) (d:Nat->FuncData):FI:=⟨"all_fit",a 15,d 15,["changes"]⟩
abbrev MP (a:Nat->Addr) (d:Nat->FuncData):FI:=⟨"fitting",a 16,d 16,["change"]⟩
abbrev MQ (a:Nat->Addr) (d:Nat->FuncData):FI:=⟨"filled",a 17,d 17,["many","signs","sign"]⟩
abbrev MR (a:Nat->Addr) (d:Nat->FuncData):FI:=⟨"outcome",a 18,d 18,["change","text"]⟩
abbrev MS (a:Nat->Addr) (d:Nat->FuncData):FI:=⟨"drops_of",a 19,d 19,["change"]⟩
abbrev MT (a:Nat->Addr) (d:Nat->FuncData):FI:=⟨"_law_cell",a 20,d 20,["_law_script","_law_k"]⟩
abbrev MU (a:Nat->Addr) (d:Nat->FuncData):FI:=⟨"_law_drawn",a 21,d 21,["_law_script","_law_k","_law_many"]⟩
abbrev MV (a:Nat->Addr) (d:Nat->FuncData):FI:=⟨"_law_text",a 22,d 22,["_law_script","_law_at","_law_most"]⟩
abbrev MW (a:Nat->Addr) (d:Nat->FuncData):FI:=⟨"_law_change",a 23,d 23,["_law_script","_law_at","_law_text_here"]⟩
abbrev FU (a:Nat->Addr) (d:Nat->FuncData):FI:=⟨"law",a 24,d 24,["_law_script"]⟩
noncomputable def nh:List Str:=["all","int","len","list","min","range","reversed","sum","tuple"]
theorem Px:("all" : Str)∈nh:=by decide +kernel
theorem Py:("int" : Str)∈nh:=by decide +kernel
theorem Pz:("len" : Str)∈nh:=by decide +kernel
theorem MX:("list" : Str)∈nh:=by decide +kernel
theorem PB:("min" : Str)∈nh:=by decide +kernel
theorem Iu:("range" : Str)∈nh:=by decide +kernel
theorem zZ:("reversed" : Str)∈nh:=by decide +kernel
theorem PC:("sum" : Str)∈nh:=by decide +kernel
theorem Iv:("tuple" : Str)∈nh:=by decide +kernel
noncomputable def tb (a:Nat->Addr) (d:Nat->FuncData):Tb:=⟨prog,100000,[i0 a d,i1 a d,i2 a d,i3 a d,i4 a d,i5 a d,i6 a d,i7 a d,i8 a d,i9 a d,MK a d,ML a d,i12 a d,MM a d,MN a d,MO a d,MP a d,MQ a d,MR a d,MS a d,MT a d,MU a d,MV a d,MW a d,FU a d],nh,[("__name__",.str [108,97,119,95,112,97,115,116,119,97,121,115,95,107,54,50,95,119,104,111,108,101,95,97,108,108,95,102,105,116]),("FILLS",.tup [.str [97],.str [98]])],[("TURNED",[(.str [107,101,101,112],.str [107,101,101,112]),(.str [112,117,116],.str [100,114,111,112]),(.str [100,114,111,112],.str [112,117,116])])]⟩
section
variable{a:Nat->Addr}{d:Nat->FuncData}{n:Nat}
abbrev n0:List Str:=["part"]
theorem s0:bD n0 ["part"] (aO (top 1)):=⟨rfl,rfl,rfl,by decide +kernel,rfl,by decide +kernel,by decide +kernel⟩
abbrev n1:List Str:=["change"]
theorem s1:bD n1 ["change"] (aO (top 2)):=⟨rfl,rfl,rfl,by decide +kernel,rfl,by decide +kernel,by decide +kernel⟩
abbrev n2:List Str:=["change"]
theorem s2:bD n2 ["change"] (aO (top 3)):=⟨rfl,rfl,rfl,by decide +kernel,rfl,by decide +kernel,by decide +kernel⟩
abbrev n3:List Str:=["change","parts","kept","gone","new","word","what"]
theorem s3:bD n3 ["change"] (aO (top 4)):=⟨rfl,rfl,rfl,by decide +kernel,rfl,by decide +kernel,by decide +kernel⟩
abbrev n4:List Str:=["kept","gone","new","parts"]
theorem s4:bD n4 ["kept","gone","new"] (aO (top 5)):=⟨rfl,rfl,rfl,by decide +kernel,rfl,by decide +kernel,by decide +kernel⟩
abbrev n5:List Str:=["change","text","place","part"]
theorem s5:bD n5 ["change","text"] (aO (top 11)):=⟨rfl,rfl,rfl,by decide +kernel,rfl,by decide +kernel,by decide +kernel⟩
abbrev n6:List Str:=["change","text","pieces","place","word","what"]
theorem s6:bD n6 ["change","text"] (aO (top 12)):=⟨rfl,rfl,rfl,by decide +kernel,rfl,by decide +kernel,by decide +kernel⟩
abbrev n7:List Str:=["change"]
theorem s7:bD n7 ["change"] (aO (top 13)):=⟨rfl,rfl,rfl,by decide +kernel,rfl,by decide +kernel,by decide +kernel⟩
abbrev n8:List Str:=["many"]
theorem s8:bD n8 ["many"] (aO (top 14)):=⟨rfl,rfl,rfl,by decide +kernel,rfl,by decide +kernel,by decide +kernel⟩
abbrev n9:List Str:=["one","other","ones","others","parts","many"]
theorem s9:bD n9 ["one","other"] (aO (top 15)):=⟨rfl,rfl,rfl,by decide +kernel,rfl,by decide +kernel,by decide +kernel⟩
abbrev QN:List Str:=["left","gone_through"]
theorem Qh:bD QN ["left","gone_through"] (aO (top 16)):=⟨rfl,rfl,rfl,by decide +kernel,rfl,by decide +kernel,by decide +kernel⟩
abbrev QO:List Str:=["parts","many","halves"]
theorem ET:bD QO ["parts","many"] (aO (top 17)):=⟨rfl,rfl,rfl,by decide +kernel,rfl,by decide +kernel,by decide +kernel⟩
abbrev QS:List Str:=["part","many","word"]
theorem s12:bD QS ["part","many"] (aO (top 18)):=⟨rfl,rfl,rfl,by decide +kernel,rfl,by decide +kernel,by decide +kernel⟩
abbrev QT:List Str:=["change","signs","place","part","sign"]
theorem Vp:bD QT ["change"] (aO (top 20)):=⟨rfl,rfl,rfl,by decide +kernel,rfl,by decide +kernel,by decide +kernel⟩
abbrev QU:List Str:=["one","other"]
theorem Vq:bD QU ["one","other"] (aO (top 23)):=⟨rfl,rfl,rfl,by decide +kernel,rfl,by decide +kernel,by decide +kernel⟩
abbrev QV:List Str:=["changes","signs","change","text"]
theorem Vr:bD QV ["changes"] (aO (top 24)):=⟨rfl,rfl,rfl,by decide +kernel,rfl,by decide +kernel,by decide +kernel⟩
abbrev QW:List Str:=["change","signs"]
theorem Vs:bD QW ["change"] (aO (top 25)):=⟨rfl,rfl,rfl,by decide +kernel,rfl,by decide +kernel,by decide +kernel⟩
abbrev QX:List Str:=["many","signs","sign"]
theorem Vt:bD QX ["many","signs","sign"] (aO (top 26)):=⟨rfl,rfl,rfl,by decide +kernel,rfl,by decide +kernel,by decide +kernel⟩
abbrev QY:List Str:=["change","text"]
theorem Vu:bD QY ["change","text"] (aO (top 27)):=⟨rfl,rfl,rfl,by decide +kernel,rfl,by decide +kernel,by decide +kernel⟩
abbrev QZ:List Str:=["change"]
theorem Vv:bD QZ ["change"] (aO (top 29)):=⟨rfl,rfl,rfl,by decide +kernel,rfl,by decide +kernel,by decide +kernel⟩
abbrev Q0:List Str:=["_law_script","_law_k"]
theorem Vw:bD Q0 ["_law_script","_law_k"] (aO (top 31)):=⟨rfl,rfl,rfl,by decide +kernel,rfl,by decide +kernel,by decide +kernel⟩
abbrev Q2:List Str:=["_law_script","_law_k","_law_many","_law_cell_here"]
theorem Vx:bD Q2 ["_law_script","_law_k","_law_many"] (aO (top 32)):=⟨rfl,rfl,rfl,by decide +kernel,rfl,by decide +kernel,by decide +kernel⟩
abbrev Q3:List Str:=["_law_script","_law_at","_law_most"]
theorem Vy:bD Q3 ["_law_script","_law_at","_law_most"] (aO (top 33)):=⟨rfl,rfl,rfl,by decide +kernel,rfl,by decide +kernel,by decide +kernel⟩
abbrev Q4:List Str:=["_law_script","_law_at","_law_text_here","_law_found","_law_k","_law_new","_law_is_kept"]
theorem Vz:bD Q4 ["_law_script","_law_at","_law_text_here"] (aO (top 34)):=⟨rfl,rfl,rfl,by decide +kernel,rfl,by decide +kernel,by decide +kernel⟩
abbrev Q5:List Str:=["_law_script","_law_text_here","_law_rows","_law_k","_law_here","_law_at","_law_some","_law_told","_law_still","_law_whole","_law_one"]
theorem VA:bD Q5 ["_law_script"] (aO (top 35)):=⟨rfl,rfl,rfl,by decide +kernel,rfl,by decide +kernel,by decide +kernel⟩
set_option maxHeartbeats 0 in
theorem dD:allB (tb a d) n [(f0.body,top 1,n0),(f1.body,top 2,n1),(f2.body,top 3,n2),(f3.body,top 4,n3),(f4.body,top 5,n4),(f5.body,top 11,n5),(f6.body,top 12,n6),(f7.body,top 13,n7),(f8.body,top 14,n8),(f9.body,top 15,n9),(EW.body,top 16,QN),(QA.body,top 17,QO),(QB.body,top 18,QS),(QC.body,top 20,QT),(QD.body,top 23,QU),(QE.body,top 24,QV),(QF.body,top 25,QW),(QG.body,top 26,QX),(QH.body,top 27,QY),(QI.body,top 29,QZ),(QJ.body,top 31,Q0),(QK.body,top 32,Q2),(QL.body,top 33,Q3),(QM.body,top 34,Q4),(FT.body,top 35,Q5)]:=by
 refine⟨?_,?_,?_,?_,?_,?_,?_,?_,?_,?_,?_,?_,?_,?_,?_,?_,?_,?_,?_,?_,?_,?_,?_,?_,?_,trivial⟩;all_goals dsimp only
 all_goals repeat (first
  | ((with_reducible show JE _ _ _ _ _ _ (.c _) (.Name _ _));refine Gz (x:="FILLS") (.tail _ (.head _)))
  | ((with_reducible show jC _ _ _ _ _ _ (.cons (.ja _ _ _ _) _) _);refine C7 ?_)
  | ((with_reducible show JE _ _ _ _ _ _ _ (.BoolOp _ [_] _));refine JR ?_)
  | ((with_reducible show JE _ _ _ _ _ _ (.v _) _);exact jv (by decide +kernel))
  | ((with_reducible show JA _ _ _ _ _ _ (.cons _ _) _);refine GA ?_ ?_)
  | ((with_reducible show jC _ _ _ _ _ _ (.cons _ _) _);refine C0 ?_ ?_)
  | ((with_reducible show JA _ _ _ _ _ _ .nil _);refine JN)
  | ((with_reducible show jC _ _ _ _ _ _ .nil _);refine GH)
  | ((with_reducible show JE _ _ _ _ _ _ (.c (.int _)) _);refine AH)
  | ((with_reducible show JE _ _ _ _ _ _ (.cl _ _) _);refine UU (by decide +kernel) rfl rfl ?_)
  | ((with_reducible show JE _ _ _ _ _ _ (.ix _ _) _);refine NU (λX g=>N6) ?_ ?_)
  | ((with_reducible show JS _ _ _ _ _ _ (.ret _) _);refine Ka ?_)
  | ((with_reducible show JE _ _ _ _ _ _ (.bin .add _ _) _);refine mE (λX g=>Kw) ?_ ?_)
  | ((with_reducible show JE _ _ _ _ _ _ (.c (.str _)) _);refine JM)
  | ((with_reducible show JS _ _ _ _ _ _ (.iff _ _ _) _);refine Kc ?_ ?_ ?_)
  | ((with_reducible show JG _ _ _ _ _ _ (.one _) _);exact US (by decide +kernel))
  | ((with_reducible show JE _ _ _ _ _ _ (.tup _) _);refine JP ?_)
  | ((with_reducible show JI _ _ _ _ _ _ (.seq _) _ _);refine J5 ?_)
  | ((with_reducible show JT _ _ _ _ _ _ (.cmp .ne _ _) _);refine kE (λX g=>N5 g) ?_ ?_ (fO _))
  | ((with_reducible show JE _ _ _ _ _ _ (.c .aG) _);refine JL)
  | ((with_reducible show JT _ _ _ _ _ _ (.cmp .eq _ _) _);refine kE (λX g=>E3 g) ?_ ?_ (fO _))
  | ((with_reducible show JE _ _ _ _ _ _ (.lst _) _);refine JQ ?_)
  | ((with_reducible show JE _ _ _ _ _ _ (.bi .len _) _);refine sN (x:="len") (id:="len") (λX g=>KP) ?_ (hb:=Pz) (hv:=by decide +kernel))
  | ((with_reducible show JE _ _ _ _ _ _ (.bin .mul _ _) _);refine mE (λX g=>KL) ?_ ?_)
  | ((with_reducible show JE _ _ _ _ _ _ (.comp _ _ _ _) _);refine Ob (by decide +kernel) (by decide +kernel) ?_ ?_ ?_ ?_)
  | ((with_reducible show JS _ _ _ _ _ _ (.exp _) _);refine J9 ?_)
  | ((with_reducible show JS _ _ _ _ _ _ (.for _ _ _) _);refine Ke ?_ ?_ ?_)
  | ((with_reducible show JE _ _ _ _ _ _ (.me .append _ (.cons _ _)) _);refine yI PySem.F.plainAttrs_list PySem.F.slot_list_append PySem.F.type_list_append (λX g=>Bb) rfl ?_ ?_)
  | ((with_reducible show JO _ _ _ _ _ _ (.yes _) _);refine J1 ?_)
  | ((with_reducible show JE _ _ _ _ _ _ (.c (.bl _)) _);refine NR)
  | ((with_reducible show JE _ _ _ _ _ _ (.cmp .iR _ _) _);refine mF (λX g=>A9) ?_ ?_ (fO _))
  | ((with_reducible show JT _ _ _ _ _ _ (.an _ _) _);refine SG ?_ ?_)
  | ((with_reducible show JW _ _ _ _ _ _ (.an _ _) (.BoolOp _ (_ :: _ :: _) _));refine EM ?_ ?_)
  | ((with_reducible show JE _ _ _ _ _ _ (.sl _ _ _) _);refine NW (λX g=>KJ) ?_ ?_ ?_)
  | ((with_reducible show JC _ _ _ _ _ _ .no _);refine N2)
  | ((with_reducible show rG _ _ _ _ _ _ (_ :: _) _);refine UT (by decide +kernel) ?_)
  | ((with_reducible show JW _ _ _ _ _ _ _ (.BoolOp .And [_] _));refine JX ?_)
  | ((with_reducible show JE _ _ _ _ _ _ (.bin .mod _ _) _);refine mE (λX g=>Kz) ?_ ?_)
  | ((with_reducible show JC _ _ _ _ _ _ (.yes _) _);refine Kh ?_)
  | ((with_reducible show JT _ _ _ _ _ _ (.orr _ _) _);refine SH ?_ ?_)
  | ((with_reducible show JW _ _ _ _ _ _ (.orr _ _) (.BoolOp _ (_ :: _ :: _) _));refine AJ ?_ ?_)
  | ((with_reducible show JW _ _ _ _ _ _ _ (.BoolOp .Or [_] _));refine GB ?_)
  | ((with_reducible show JT _ _ _ _ _ _ (.nt _) _);refine NT ?_)
  | ((with_reducible show JO _ _ _ _ _ _ .no _);refine NV)
  | ((with_reducible show JI _ _ _ _ _ _ (.gk (.cons _ .nil)) _ _);refine GD ?_ (hb:=Iu))
  | ((with_reducible show JT _ _ _ _ _ _ (.cmp .gt _ _) _);refine kE (λX g=>E5) ?_ ?_ (fO _))
  | ((with_reducible show JE _ _ _ _ _ _ (.iz _) _);refine KS ?_ (h1:=Iv))
  | ((with_reducible show JE _ _ _ _ _ _ (.neg _) _);refine AI ?_)
  | ((with_reducible show JE _ _ _ _ _ _ (.bin .fdiv _ _) _);refine mE (λX g=>GY) ?_ ?_)
  | ((with_reducible show JT _ _ _ _ _ _ (.cmp .iY _ _) _);refine kE (λX g=>xw) ?_ ?_ (fO _))
  | ((with_reducible show JG _ _ _ _ _ _ (.many _) _);refine GG ?_)
  | ((with_reducible show rG _ _ _ _ _ _ [] _);refine GF)
  | ((with_reducible show JE _ _ _ _ _ _ (.me .extend _ (.cons _ _)) _);refine yI PySem.F.plainAttrs_list PySem.F.slot_list_extend PySem.F.type_list_extend (λX g=>Bc) rfl ?_ ?_)
  | ((with_reducible show JE _ _ _ _ _ _ (.cmp .eq _ _) _);refine mF (λX g=>E3 g) ?_ ?_ (fO _))
  | ((with_reducible show JS _ _ _ _ _ _ .gf _);refine KW)
  | ((with_reducible show JE _ _ _ _ _ _ (.me .join _ (.cons _ _)) _);refine yI PySem.F.plainAttrs_str PySem.F.slot_str_join PySem.F.type_str_join (λX g=>G4) rfl ?_ ?_)
  | ((with_reducible show JE _ _ _ _ _ _ (.me .pop _ .nil) _);refine J2 PySem.F.plainAttrs_list PySem.F.slot_list_pop PySem.F.type_list_pop (λX g=>KR) rfl ?_)
  | ((with_reducible show JE _ _ _ _ _ _ (.bi .sum _) _);refine sN (x:="sum") (id:="sum") (λX g=>KO g) ?_ (hb:=PC) (hv:=by decide +kernel))
  | ((with_reducible show JE _ _ _ _ _ _ (.je (.rev _)) _);refine G7 ?_ (h1:=MX) (hb:=zZ))
  | ((with_reducible show JE _ _ _ _ _ _ .gY _);exact GN)
  | ((with_reducible show JE _ _ _ _ _ _ (.bi .all _) _);refine sN (x:="all") (id:="all") (λX g=>KN g) ?_ (hb:=Px) (hv:=by decide +kernel))
  | ((with_reducible show JE _ _ _ _ _ _ (.jT _ _ _) _);refine JU ?_ ?_ ?_)
  | ((with_reducible show JE _ _ _ _ _ _ (.bi .kh _) _);refine NX (x:="int") (id:="int") (λX g=>G3) ?_ (hb:=Py) (hv:=by decide +kernel))
  | ((with_reducible show JT _ _ _ _ _ _ (.cmp .iR _ _) _);refine kE (λX g=>A9) ?_ ?_ (fO _))
  | ((with_reducible show JE _ _ _ _ _ _ (.iZ _ _) _);refine G6 (x:="TURNED") (.head _) ?_)
  | ((with_reducible show JS _ _ _ _ _ _ (.o8 _ _) _);refine Kd ?_ ?_)
  | ((with_reducible show JE _ _ _ _ _ _ (.bi .min _) _);refine sN (x:="min") (id:="min") (λX g=>KQ g) ?_ (hb:=PB) (hv:=by decide +kernel))
  | ((with_reducible show JE _ _ _ _ _ _ (.bin .sub _ _) _);refine mE (λX g=>Ky) ?_ ?_)
  | ((with_reducible show JS _ _ _ _ _ _ (.dput _ _ _) _);refine GO ?_ ?_ ?_)
  | ((with_reducible show JS _ _ _ _ _ _ (.oM _ _) _);refine GQ ?_ ?_)
  | ((with_reducible show JE _ _ _ _ _ _ (.lT _ _ _) _);refine Kf ?_ ?_ ?_)
  | ((with_reducible show JT _ _ _ _ _ _ (.cmp .lt _ _) _);refine kE (λX g=>E4) ?_ ?_ (fO _))
  | ((with_reducible show JE _ _ _ _ _ _ (.cmp .gt _ _) _);refine mF (λX g=>E5) ?_ ?_ (fO _))
  | ((with_reducible show JE _ _ _ _ _ _ (.cmp .lt _ _) _);refine mF (λX g=>E4) ?_ ?_ (fO _))
  | ((with_reducible show JE _ _ _ _ _ _ (.rv _) _);refine N7 ?_)
  | ((with_reducible show JE _ _ _ _ _ _ (.cmp .iY _ _) _);refine mF (λX g=>xw) ?_ ?_ (fO _))
  | ((with_reducible show JE _ _ _ _ _ _ (.an _ _) (.BoolOp _ (_ :: _ :: _) _));refine NS ?_ ?_)
  | ((with_reducible show JS _ _ _ _ _ _ (.set _ _) _);refine SE (by decide +kernel) ?_)
  | ((with_reducible show JT _ _ _ _ _ _ _ _);refine JZ ?_))
end
end Lw
set_option maxRecDepth 100000
namespace Lw
open PySem PySem.Spec PyProof.Rows L2 Sm
open Ev (D O Hh Fr R aM E Es Eo T S Ss Fl Src bO bJ TY BI ME)
theorem jd{α:Type _}{l:List α}(h:l.length=1):∃a,l=[a]:=by
 rcases l with _|⟨a,_|⟨b,l⟩⟩<;>simp at h ⊢
theorem kr{α:Type _}{l:List α}(h:l.length=2):∃a b,l=[a,b]:=by
 rcases l with _|⟨a,l⟩
 .simp at h
 .obtain⟨b,rfl⟩:=jd (l:=l) (by simpa using h);exact⟨a,b,rfl⟩
theorem vK{α:Type _}{l:List α}(h:l.length=3):∃a b c,l=[a,b,c]:=by
 rcases l with _|⟨a,l⟩
 .simp at h
 .obtain⟨b,c,rfl⟩:=kr (l:=l) (by simpa using h);exact⟨a,b,c,rfl⟩
structure Fg(K:PySem.W.Frag)(x:Str)(i:Nat)(p:Addr)(d:FuncData):Prop where
 a:PySem.W.nsIn K mainGlobals x=some (some (.ref p))
 f:rD K x x (top i) p d
theorem Fg.t{K:PySem.W.Frag}{h:Heap}{mg:Str->Option Value}{x:Str}{i:Nat}{p:Addr}{d:FuncData}{ps:List Str}(F:Fg K x i p d)(X:K.In h)(G:h.Ns mainGlobals mg)(b:Binds K d ps []):mg x=some (.ref p)/\PySem.W.keepIn K (.ref p)=true/\Binds K d ps []:=⟨PySem.W.mg_of X G F.a,F.f.kp,b⟩
theorem all_mk {l:PySem.W.OpenLaw}{w:World}{K:PySem.W.Frag}{h:Heap}{mg:Str->Option Value}{fa p0 p1 p2 p3 p4 p5 p6 p7 p8 p9 Q6 Q7 Q8 Q9 Ra Rb Rc Rf Rg Rh Ri Rj Rk Rl MY:Addr}{d0 d1 d2 d3 d4 d5 d6 d7 d8 d9 Rm Rn Rq Rt Ru Rw Rx Ry Rz RA RB RC RD RE MZ:FuncData}(X:K.In h) (G:h.Ns mainGlobals mg) (VB:mg "law" = some (.ref fa))
  (F0:Fg K "size" 1 p0 d0)
  (F1:Fg K "before" 2 p1 d1)
  (F2:Fg K "after" 3 p2 d2)
  (F3:Fg K "form" 4 p3 d3)
  (F4:Fg K "stretch" 5 p4 d4)
  (F5:Fg K "fits" 11 p5 d5)
  (F6:Fg K "done" 12 p6 d6)
  (F7:Fg K "undone" 13 p7 d7)
  (F8:Fg K "nothing" 14 p8 d8)
  (F9:Fg K "then" 15 p9 d9)
  (M4:Fg K "met" 16 Q6 Rm)
  (M5:Fg K "taken" 17 Q7 Rn)
  (M6:Fg K "parted" 18 Q8 Rq)
  (M7:Fg K "dropped_signs" 20 Q9 Rt)
  (M8:Fg K "within" 23 Ra Ru)
  (M9:Fg K "all_fit" 24 Rb Rw)
  (Na:Fg K "fitting" 25 Rc Rx)
  (Nb:Fg K "filled" 26 Rf Ry)
  (Nc:Fg K "outcome" 27 Rg Rz)
  (Nd:Fg K "drops_of" 29 Rh RA)
  (Nf:Fg K "_law_cell" 31 Ri RB)
  (Ng:Fg K "_law_drawn" 32 Rj RC)
  (Nh:Fg K "_law_text" 33 Rk RD)
  (Ni:Fg K "_law_change" 34 Rl RE)
  (Cp:Fg K "law" 35 MY MZ)
  (z0:PySem.W.nsIn K mainGlobals "all" = some none)
  (z1:PySem.W.nsIn K mainGlobals "int" = some none)
  (z2:PySem.W.nsIn K mainGlobals "len" = some none)
  (z3:PySem.W.nsIn K mainGlobals "list" = some none)
  (z4:PySem.W.nsIn K mainGlobals "min" = some none)
  (z5:PySem.W.nsIn K mainGlobals "range" = some none)
  (z6:PySem.W.nsIn K mainGlobals "reversed" = some none)
  (z7:PySem.W.nsIn K mainGlobals "sum" = some none)
  (z8:PySem.W.nsIn K mainGlobals "tuple" = some none)
  {t0:Tok} (q0:PySem.W.nsIn K mainGlobals "__name__" = some (some (.str "law_pastways_k62_whole_all_fit" t0)))
  {T5 T6:Tok} {FY:Addr} {VC:Option Addr} {VD:Nat} {VE:Array (Option Value)} (q1:PySem.W.nsIn K mainGlobals "FILLS" = some (some (.ref FY))) (RG:K.lookup FY=some ⟨.type "tuple",VC,.seq #[.str "a" T5,.str "b" T6] VD,VE⟩)
  {FZ:Addr} (RH:PySem.W.nsIn K mainGlobals "TURNED" = some (some (.ref FZ))) (RI:PyProof.Rows.KTD.tabLook PyProof.Rows.KTD.flatLooks (λb=>K.lookup b) FZ [(aT [107,101,101,112],PyData.str (aT [107,101,101,112])),(aT [112,117,116],PyData.str (aT [100,114,111,112])),(aT [100,114,111,112],PyData.str (aT [112,117,116]))]=true) (RJ:PyProof.Rows.KTD.hashesOf (λb=>K.lookup b) FZ=([(aT [107,101,101,112],PyData.str (aT [107,101,101,112])),(aT [112,117,116],PyData.str (aT [100,114,111,112])),(aT [100,114,111,112],PyData.str (aT [112,117,116]))]:List (Str×PyData)).map λp=>(PySem.strKind l.prog w).hash p.1)
  : ∃fd:FuncData,(∀(s:Shared) (v:Value),BindsTo s fd ⟨[v],[]⟩ [("_law_script",v)])/\∀base:Heap,K.In base->base.Ns mainGlobals mg->iA l.prog w K mg base mD 60 fa fd ["_law_script"] (nW K prog 100000 60 24):=by
 have e:=VB.symm.trans (PySem.W.mg_of X G Cp.a);have e2:MY=fa:=by injection e with e;injection e with e;exact e.symm
 subst e2
 let aa:Nat->Addr:=λk=>[p0,p1,p2,p3,p4,p5,p6,p7,p8,p9,Q6,Q7,Q8,Q9,Ra,Rb,Rc,Rf,Rg,Rh,Ri,Rj,Rk,Rl,MY].getD k p0
 let dd:Nat->FuncData:=λk=>[d0,d1,d2,d3,d4,d5,d6,d7,d8,d9,Rm,Rn,Rq,Rt,Ru,Rw,Rx,Ry,Rz,RA,RB,RC,RD,RE,MZ].getD k d0
 have T:Top l.prog w K mg (tb aa dd):=by
  refine⟨λf i hi=>(show ∀i∈(tb aa dd).fi,mg i.name=some (.ref i.addr)/\PySem.W.keepIn K (.ref i.addr)=true/\Binds K i.fd i.ps []from ?_) i (List.mem_of_getElem? hi),?_,?_,?_⟩
  .refine List.forall_mem_cons.mpr ⟨F0.t X G (F0.f.binds λ_ _ _ _ _ _ us hl=>by obtain⟨_,rfl⟩:=jd hl;rfl),?_⟩;refine List.forall_mem_cons.mpr ⟨F1.t X G (F1.f.binds λ_ _ _ _ _ _ us hl=>by obtain⟨_,rfl⟩:=jd hl;rfl),?_⟩;refine List.forall_mem_cons.mpr ⟨F2.t X G (F2.f.binds λ_ _ _ _ _ _ us hl=>by obtain⟨_,rfl⟩:=jd hl;rfl),?_⟩;refine List.forall_mem_cons.mpr ⟨F3.t X G (F3.f.binds λ_ _ _ _ _ _ us hl=>by obtain⟨_,rfl⟩:=jd hl;rfl),?_⟩;refine List.forall_mem_cons.mpr ⟨F4.t X G (F4.f.binds λ_ _ _ _ _ _ us hl=>by obtain⟨_,_,_,rfl⟩:=vK hl;rfl),?_⟩;refine List.forall_mem_cons.mpr ⟨F5.t X G (F5.f.binds λ_ _ _ _ _ _ us hl=>by obtain⟨_,_,rfl⟩:=kr hl;rfl),?_⟩;refine List.forall_mem_cons.mpr ⟨F6.t X G (F6.f.binds λ_ _ _ _ _ _ us hl=>by obtain⟨_,_,rfl⟩:=kr hl;rfl),?_⟩;refine List.forall_mem_cons.mpr ⟨F7.t X G (F7.f.binds λ_ _ _ _ _ _ us hl=>by obtain⟨_,rfl⟩:=jd hl;rfl),?_⟩;refine List.forall_mem_cons.mpr ⟨F8.t X G (F8.f.binds λ_ _ _ _ _ _ us hl=>by obtain⟨_,rfl⟩:=jd hl;rfl),?_⟩;refine List.forall_mem_cons.mpr ⟨F9.t X G (F9.f.binds λ_ _ _ _ _ _ us hl=>by obtain⟨_,_,rfl⟩:=kr hl;rfl),?_⟩;refine List.forall_mem_cons.mpr ⟨M4.t X G (M4.f.binds λ_ _ _ _ _ _ us hl=>by obtain⟨_,_,rfl⟩:=kr hl;rfl),?_⟩;refine List.forall_mem_cons.mpr ⟨M5.t X G (M5.f.binds λ_ _ _ _ _ _ us hl=>by obtain⟨_,_,rfl⟩:=kr hl;rfl),?_⟩;refine List.forall_mem_cons.mpr ⟨M6.t X G (M6.f.binds λ_ _ _ _ _ _ us hl=>by obtain⟨_,_,rfl⟩:=kr hl;rfl),?_⟩;refine List.forall_mem_cons.mpr ⟨M7.t X G (M7.f.binds λ_ _ _ _ _ _ us hl=>by obtain⟨_,rfl⟩:=jd hl;rfl),?_⟩;refine List.forall_mem_cons.mpr ⟨M8.t X G (M8.f.binds λ_ _ _ _ _ _ us hl=>by obtain⟨_,_,rfl⟩:=kr hl;rfl),?_⟩;refine List.forall_mem_cons.mpr ⟨M9.t X G (M9.f.binds λ_ _ _ _ _ _ us hl=>by obtain⟨_,rfl⟩:=jd hl;rfl),?_⟩;refine List.forall_mem_cons.mpr ⟨Na.t X G (Na.f.binds λ_ _ _ _ _ _ us hl=>by obtain⟨_,rfl⟩:=jd hl;rfl),?_⟩;refine List.forall_mem_cons.mpr ⟨Nb.t X G (Nb.f.binds λ_ _ _ _ _ _ us hl=>by obtain⟨_,_,_,rfl⟩:=vK hl;rfl),?_⟩;refine List.forall_mem_cons.mpr ⟨Nc.t X G (Nc.f.binds λ_ _ _ _ _ _ us hl=>by obtain⟨_,_,rfl⟩:=kr hl;rfl),?_⟩;refine List.forall_mem_cons.mpr ⟨Nd.t X G (Nd.f.binds λ_ _ _ _ _ _ us hl=>by obtain⟨_,rfl⟩:=jd hl;rfl),?_⟩;refine List.forall_mem_cons.mpr ⟨Nf.t X G (Nf.f.binds λ_ _ _ _ _ _ us hl=>by obtain⟨_,_,rfl⟩:=kr hl;rfl),?_⟩;refine List.forall_mem_cons.mpr ⟨Ng.t X G (Ng.f.binds λ_ _ _ _ _ _ us hl=>by obtain⟨_,_,_,rfl⟩:=vK hl;rfl),?_⟩;refine List.forall_mem_cons.mpr ⟨Nh.t X G (Nh.f.binds λ_ _ _ _ _ _ us hl=>by obtain⟨_,_,_,rfl⟩:=vK hl;rfl),?_⟩;refine List.forall_mem_cons.mpr ⟨Ni.t X G (Ni.f.binds λ_ _ _ _ _ _ us hl=>by obtain⟨_,_,_,rfl⟩:=vK hl;rfl),?_⟩;refine List.forall_mem_cons.mpr ⟨Cp.t X G (Cp.f.binds λ_ _ _ _ _ _ us hl=>by obtain⟨_,rfl⟩:=jd hl;rfl),?_⟩;exact λ_ h=>nomatch h
  .exact(show ∀x∈nh,mg x=none from List.forall_mem_cons.mpr ⟨PySem.W.mg_none_of X G z0,List.forall_mem_cons.mpr ⟨PySem.W.mg_none_of X G z1,List.forall_mem_cons.mpr ⟨PySem.W.mg_none_of X G z2,List.forall_mem_cons.mpr ⟨PySem.W.mg_none_of X G z3,List.forall_mem_cons.mpr ⟨PySem.W.mg_none_of X G z4,List.forall_mem_cons.mpr ⟨PySem.W.mg_none_of X G z5,List.forall_mem_cons.mpr ⟨PySem.W.mg_none_of X G z6,List.forall_mem_cons.mpr ⟨PySem.W.mg_none_of X G z7,List.forall_mem_cons.mpr ⟨PySem.W.mg_none_of X G z8,λ_ h=>nomatch h⟩⟩⟩⟩⟩⟩⟩⟩⟩)
  .exact λx d hx=>(show ∀y∈(tb aa dd).cs,∃v u,mg y.1=some u/\RelV v u/\wU K y.2 v from List.forall_mem_cons.mpr ⟨⟨.str "law_pastways_k62_whole_all_fit",_,PySem.W.mg_of X G q0,⟨_,rfl⟩,λ_ _=>⟨by decide +kernel,by decide⟩⟩,List.forall_mem_cons.mpr ⟨⟨.ref FY,_,PySem.W.mg_of X G q1,rfl,λ_ _=>⟨FY,[V.str "a",V.str "b"],rfl,.inr ⟨_,_,_,RG,rfl,rfl,by show 2<=sizeLine;decide,.cons ⟨_,rfl⟩ (.cons ⟨_,rfl⟩ .nil)⟩,⟨_,_,rfl,⟨by decide +kernel,by decide⟩,⟨_,_,rfl,⟨by decide +kernel,by decide⟩,rfl⟩⟩⟩⟩,λ_ h=>nomatch h⟩⟩) (x,d) hx
  .exact λx d hx=>(show ∀y∈(tb aa dd).dk,∃a,mg y.1=some (.ref a)/\∀h:Heap,K.In h->StrTab l.prog w h a (tabOf y.2)from List.forall_mem_cons.mpr ⟨⟨FZ,PySem.W.mg_of X G RH,λh hK=>PySem.W.kt_tab_in l.prog w hK RI (by decide +kernel) RJ⟩,λ_ h=>nomatch h⟩) (x,d) hx
 refine⟨MZ,λs v=>?_,λbase _ _=>?_⟩
 .obtain⟨oc,od,kV,doc,pm,an,cdv,ct,osl,e,_⟩:=Cp.f.ex;rw[e];exact .of_eq rfl
 refine Bj (P:=l.prog) (w:=w) (base:=base) T (λn A0 f i hi=>?_) 60 24 (FU aa dd) rfl
 match f,hi with
 |0,hi=>obtain rfl:i0 aa dd=i:=Option.some.inj hi;exact cK (i:=i0 aa dd) T A0 F0.f s0 rfl rfl (dD.get (k:=0) rfl)
 |1,hi=>obtain rfl:i1 aa dd=i:=Option.some.inj hi;exact cK (i:=i1 aa dd) T A0 F1.f s1 rfl rfl (dD.get (k:=1) rfl)
 |2,hi=>obtain rfl:i2 aa dd=i:=Option.some.inj hi;exact cK (i:=i2 aa dd) T A0 F2.f s2 rfl rfl (dD.get (k:=2) rfl)
 |3,hi=>obtain rfl:i3 aa dd=i:=Option.some.inj hi;exact cK (i:=i3 aa dd) T A0 F3.f s3 rfl rfl (dD.get (k:=3) rfl)
 |4,hi=>obtain rfl:i4 aa dd=i:=Option.some.inj hi;exact cK (i:=i4 aa dd) T A0 F4.f s4 rfl rfl (dD.get (k:=4) rfl)
 |5,hi=>obtain rfl:i5 aa dd=i:=Option.some.inj hi;exact cK (i:=i5 aa dd) T A0 F5.f s5 rfl rfl (dD.get (k:=5) rfl)
 |6,hi=>obtain rfl:i6 aa dd=i:=Option.some.inj hi;exact cK (i:=i6 aa dd) T A0 F6.f s6 rfl rfl (dD.get (k:=6) rfl)
 |7,hi=>obtain rfl:i7 aa dd=i:=Option.some.inj hi;exact cK (i:=i7 aa dd) T A0 F7.f s7 rfl rfl (dD.get (k:=7) rfl)
 |8,hi=>obtain rfl:i8 aa dd=i:=Option.some.inj hi;exact cK (i:=i8 aa dd) T A0 F8.f s8 rfl rfl (dD.get (k:=8) rfl)
 |9,hi=>obtain rfl:i9 aa dd=i:=Option.some.inj hi;exact cK (i:=i9 aa dd) T A0 F9.f s9 rfl rfl (dD.get (k:=9) rfl)
 |10,hi=>obtain rfl:MK aa dd=i:=Option.some.inj hi;exact cK (i:=MK aa dd) T A0 M4.f Qh rfl rfl (dD.get (k:=10) rfl)
 |11,hi=>obtain rfl:ML aa dd=i:=Option.some.inj hi;exact cK (i:=ML aa dd) T A0 M5.f ET rfl rfl (dD.get (k:=11) rfl)
 |12,hi=>obtain rfl:i12 aa dd=i:=Option.some.inj hi;exact cK (i:=i12 aa dd) T A0 M6.f s12 rfl rfl (dD.get (k:=12) rfl)
 |13,hi=>obtain rfl:MM aa dd=i:=Option.some.inj hi;exact cK (i:=MM aa dd) T A0 M7.f Vp rfl rfl (dD.get (k:=13) rfl)
 |14,hi=>obtain rfl:MN aa dd=i:=Option.some.inj hi;exact cK (i:=MN aa dd) T A0 M8.f Vq rfl rfl (dD.get (k:=14) rfl)
 |15,hi=>obtain rfl:MO aa dd=i:=Option.some.inj hi;exact cK (i:=MO aa dd) T A0 M9.f Vr rfl rfl (dD.get (k:=15) rfl)
 |16,hi=>obtain rfl:MP aa dd=i:=Option.some.inj hi;exact cK (i:=MP aa dd) T A0 Na.f Vs rfl rfl (dD.get (k:=16) rfl)
 |17,hi=>obtain rfl:MQ aa dd=i:=Option.some.inj hi;exact cK (i:=MQ aa dd) T A0 Nb.f Vt rfl rfl (dD.get (k:=17) rfl)
 |18,hi=>obtain rfl:MR aa dd=i:=Option.some.inj hi;exact cK (i:=MR aa dd) T A0 Nc.f Vu rfl rfl (dD.get (k:=18) rfl)
 |19,hi=>obtain rfl:MS aa dd=i:=Option.some.inj hi;exact cK (i:=MS aa dd) T A0 Nd.f Vv rfl rfl (dD.get (k:=19) rfl)
 |20,hi=>obtain rfl:MT aa dd=i:=Option.some.inj hi;exact cK (i:=MT aa dd) T A0 Nf.f Vw rfl rfl (dD.get (k:=20) rfl)
 |21,hi=>obtain rfl:MU aa dd=i:=Option.some.inj hi;exact cK (i:=MU aa dd) T A0 Ng.f Vx rfl rfl (dD.get (k:=21) rfl)
 |22,hi=>obtain rfl:MV aa dd=i:=Option.some.inj hi;exact cK (i:=MV aa dd) T A0 Nh.f Vy rfl rfl (dD.get (k:=22) rfl)
 |23,hi=>obtain rfl:MW aa dd=i:=Option.some.inj hi;exact cK (i:=MW aa dd) T A0 Ni.f Vz rfl rfl (dD.get (k:=23) rfl)
 |24,hi=>obtain rfl:FU aa dd=i:=Option.some.inj hi;exact cK (i:=FU aa dd) T A0 Cp.f VA rfl rfl (dD.get (k:=24) rfl)
 |j+25,hi=>exact nomatch (show(none:Option FI)=some i from hi)
end Lw
namespace Lg
open Pv
open Lw (prog FT zR zW zY FO FP FQ zS zT zU zV zX tF tG qj qk)
open Ev (deep big rep cut bI)
theorem PD(ns:List Int)(k:Int)(x:List Nat)(b:Nat)(h:x.length<=b):(chg ns k x).length<=2*b+2/\tot (chg ns k x)<=3*b+3:=by
 have h1:=m5 ns k x (x.length+1);have h2:=sq ns k x (x.length+1);simp only[chg];omega
theorem nI(i:Int):Pv.cop .ne (.int i) (.int i)=some false:=by rw[zq];simp
theorem nB{a b:Bool}(h:a=b):Pv.cop .ne (.bl a) (.bl b)=some false:=by subst h;rw[pO,Hx];simp
theorem eN:Pv.cop .eq (.lst []) (.lst [])=some true:=by show eT deep _ _=_;rw[xN,xO]
theorem nN:Pv.cop .ne (.lst []) (.lst [])=some false:=by rw[pO,xN,xO];rfl
theorem PF(i:Int):Ev.cj 40 i=true:=by simp[Ev.cj]
theorem z0(k:Nat):((0:Int)+(k:Nat))=(k:Nat):=by omega
theorem f_len{c:List Pt}(h:aL c=c):c.length<=tot c:=by rw[<-h];exact gR (iJ (gz _))
theorem lP(u:List Nat):au [.keep u.length] u=true/\aE [.keep u.length] u=u:=by simp[au,aE]
theorem PJ{P:aM}{f i:Nat}{fr:Fr}{v:V}{l:List V}(e:fr[i]?=some (some (.own l)))(h:P f [.bor l]=some (v,[l])):cQ P f [.inl i] fr=.ok v (fr.set i (some (.own l))):=by
 have e1:lent fr i=some (.bor l):=by rw[xS,e];rfl
 simp[cQ,bR,args,e1,h,back,e,Sl.with]
structure Ro(c:List Pt)(m b:Nat):Prop where
 ft:∃x,x.length=m/\au c x=true
 tt:tot c<=b
 ln:c.length<=b
theorem Ro.aR{c:List Pt}{m b:Nat}(h:Ro c m b){x:List Nat}(hx:au c x=true):x.length=m:=by
 obtain⟨y,h1,h2⟩:=h.ft;rw[gQ hx,<-gQ h2,h1]
noncomputable def rV(rs:List (List Pt)):V:=.lst (rs.map av)
section
variable{w n:Nat}{ns:List Int}
theorem fi(c:List Pt)(x:List Nat)(b1:tot c<=900)(b2:x.length<=900)(fr:Fr):cQ (run prog w (n+5)) 5 [.inr (av c),.inr (.str x)] fr=.ok (.bl (au c x)) fr:=
 call2 (fr:=fr) (jP (F:=prog) (az:=0) (i:=5) (w:=w) (n:=n+3) rfl rfl c x (by omega) (by omega))
theorem bB(hw:5000<w){one other:List Pt}{t:List Nat}(h1:au one t=true)(h2:au other (aE one t)=true)(b1:tot one<=900)(b2:tot other<=900)(l1:one.length<=900)(l2:other.length<=900):∃c,(∀fr,cQ (run prog w (n+5)) 9 [.inr (av one),.inr (av other)] fr=.ok (av c) fr)/\Tn one other c t:=by
 obtain⟨c,r,T⟩:=Ew (F:=prog) (w:=w) (n:=n+2) (i:=9) (az:=0) (cE:=12) (bP:=11) (dc:=10) (aW:=4) (bN:=3) (bz:=1) (dP:=2) rfl rfl rfl rfl rfl rfl rfl rfl rfl hw one other t h1 h2 (by omega) (by omega) (by omega) (by omega);exact⟨c,λfr=>call2 r,T⟩
theorem VF(c d:List Pt)(b1:tot c<=60)(b2:tot d<=60)(l1:c.length<=60)(l2:d.length<=60)(fr:Fr):cQ (run prog w (n+5)) 14 [.inr (av c),.inr (av d)] fr=.ok (.bl (Cm c d)) fr:=
 call2 (fr:=fr) (zQ (F:=prog) (w:=w) (n:=n) (i:=14) (az:=0) (bz:=1) (jS:=13) (dB:=17) (dI:=5) (m9:=6) (nc:=18) (ng:=16) rfl rfl rfl rfl rfl rfl rfl rfl rfl c d (by omega) (by omega) (by omega) (by omega))
structure Al(rows:List (List Pt))(m:Nat)(o:Option (List Nat)):Prop where
 no:o.isNone=lW rows
 fit:∀u,o=some u->u.length=m/\∀c∈rows,au c u=true
theorem Nj{s0:Sl}{os:List (List V)}{rows:List (List Pt)}{m:Nat}(h0:rows≠[])(hr:∀c∈rows,∃m,Ro c m 900)(hm:∀c,rows.head?=some c->Ro c m 900)(hl:rows.length<=11)(hS:Hd (rows.map av) s0 os):∃o,run prog w (n+5) 15 [s0]=some (oV o,os)/\Al rows m o:=by
 cases rows with
 |nil=>exact absurd rfl h0
 |cons c rows=>
  obtain⟨o,r,h1,h2⟩:=wo (F:=prog) (w:=w) (n:=n+2) (i:=15) (az:=0) (bz:=1) (jS:=13) (dB:=17) (dI:=5) rfl rfl rfl rfl rfl rfl c rows (λd hd=>by
   obtain⟨m,q⟩:=hr d hd;obtain⟨x,_,z⟩:=q.ft;exact⟨⟨x,z⟩,q.tt,q.ln⟩) (by rw[List.length_cons]at hl;omega) hS
  refine⟨o,r,h1,λu e=>⟨?_,(h2 u e).2⟩⟩;exact(hm c rfl).aR ((h2 u e).2 c (.head _))
theorem vL{rows:List (List Pt)}{m b:Nat}(h0:rows≠[])(hr:∀c∈rows,Ro c m b)(hb:b<=900)(hl:rows.length<=11):∃o,(∀fr,cQ (run prog w (n+5)) 15 [.inr (rV rows)] fr=.ok (oV o) fr)/\Al rows m o:=by
 have up:∀c∈rows,Ro c m 900:=λc hc=>⟨(hr c hc).ft,by have:=(hr c hc).tt;omega,by have:=(hr c hc).ln;omega⟩
 obtain⟨o,r,a⟩:=Nj (w:=w) (n:=n) h0 (λc hc=>⟨m,up c hc⟩) (λc e=>up c (List.mem_of_mem_head? e)) hl .val;exact⟨o,λfr=>cR r,a⟩
theorem VG{rows:List (List Pt)}{m b:Nat}(h0:rows≠[])(hr:∀c∈rows,Ro c m b)(hb:b<=900)(hl:rows.length<=11):∃o,(∀fr:Fr,fr[2]?=some (some (.own (rows.map av)))->cQ (run prog w (n+5)) 15 [.inl 2] fr=.ok (oV o) (fr.set 2 (some (.own (rows.map av)))))/\Al rows m o:=by
 have up:∀c∈rows,Ro c m 900:=λc hc=>⟨(hr c hc).ft,by have:=(hr c hc).tt;omega,by have:=(hr c hc).ln;omega⟩
 obtain⟨o,r,a⟩:=Nj (w:=w) (n:=n) h0 (λc hc=>⟨m,up c hc⟩) (λc e=>up c (List.mem_of_mem_head? e)) hl .bor;exact⟨o,λfr e=>PJ e r,a⟩
structure St(c s:List Pt):Prop where
 fit:∀x,au s x=au c x
 dn:∀x,au c x=true->aE s x=x
theorem RK(hw:5000<w){c:List Pt}{m:Nat}(h:Ro c m 18):∃s,(∀fr,cQ (run prog w (n+5)) 7 [.inr (av c)] fr=.ok (av (iF c)) fr)/\(∀fr,cQ (run prog w (n+5)) 9 [.inr (av c),.inr (av (iF c))] fr=.ok (av s) fr)/\St c s/\Ro s m 36:=by
 have z1:=h.tt;have z2:=h.ln;obtain⟨x,l,f⟩:=h.ft;obtain⟨u1,u2⟩:=vz f;have tu:tot (iF c)=tot c:=by simp only[iF];rw[fV,B7]
 have lu:(iF c).length<=tot (iF c):=by simp only[iF];exact gR (iJ (gz _))
 obtain⟨s,r,S⟩:=bB (w:=w) (n:=n) hw f u1 (by omega) (by omega) (by omega) (by omega);have s1:=S.tt;have s2:=S.ln;exact⟨s,λfr=>cR (fr:=fr) (zD (F:=prog) (aW:=4) (bN:=3) (i:=7) (w:=w) (n:=n+2) rfl rfl rfl c (by omega) (by omega)),r,⟨λx=>(sA (x:=x) S).1,λx=>(sA (x:=x) S).2⟩,⟨x,l,S.fit⟩,by omega,by omega⟩
theorem no(m:Nat)(h:m<=900)(fr:Fr):cQ (run prog w (n+5)) 8 [.inr (.int (m:Nat))] fr=.ok (av (aL [.keep m])) fr:=
 cR (fr:=fr) (vW (F:=prog) (aW:=4) (bN:=3) (i:=8) (w:=w) (n:=n+2) rfl rfl rfl m (by omega))
theorem tH(m:Nat)(b:Nat)(h:m<=b):Ro (aL [.keep m]) m b:=by
 have t:tot (aL [.keep m])=m:=by rw[fV];simp[tot,Pt.n]
 have l:=f_len (j3 [.keep m]);exact⟨⟨List.replicate m 0,by simp,by rw[gA];have:=(lP (List.replicate m 0)).1;rwa [List.length_replicate]at this⟩,by omega,by omega⟩
noncomputable def lF(ns:List Int)(t:List Nat)(s:Sl)(l:List (Option Sl)):Fr:=some (.val (jJ ns)) :: some (.val (.str t)) :: some s :: l
theorem VH{rows:List (List Pt)}{k:Nat}{c:List Pt}(h:rows[k]?=some c):ee (.lst (rows.map av)) (.int (k:Int))=some (av c):=by
 rw[nF,jI (Int.natCast_nonneg k)];show(rows.map av)[k]?=_;rw[List.getElem?_map,h];rfl
section
variable(hn:ns.length<=63)
include hn
theorem PK{t:List Nat}(ht:t.length<=5){rows:List (List Pt)}(hl:rows.length<=10)(k:Nat){a3 a4 a5 a6:Option Sl}(v3:vo a3)(v4:vo a4)(v5:vo a5)(v6:vo a6) :
  Wp (turnF (run prog w (n+5)) w (.one 3) zR (.int (0+(k:Nat))) (lF ns t (.own (rows.map av)) [a3,a4,a5,a6,none,none,none,none,none,none,none])) λg fr=>g=.nx/\∃r a3 a4 a5 a6,Ro r t.length 18/\vo a3/\vo a4/\vo a5/\vo a6/\fr=lF ns t (.own ((rows++[r]).map av)) [a3,a4,a5,a6,none,none,none,none,none,none,none]:=by
 rw[z0];have d1:=λfr=>eO (fr:=fr) (ek (F:=prog) (c:=20) (dr:=21) (w:=w) (n:=n+3) rfl rfl hn (20+40*(k:Nat)) (many:=(t.length:Int)+4) (by omega));have b1:=ir ns (20+40*(k:Nat)) (many:=(t.length:Int)+4) (by omega);have b2:=iu ns (20+40*(k:Nat)) (many:=(t.length:Int)+4) (by omega);generalize cF ns (20+40*(k:Nat)) ((t.length:Int)+4)=d at d1 b1 b2
 obtain⟨p,rfl⟩:∃p:Nat,d=p:=⟨d.toNat,by omega⟩
 have d2:=λfr=>eO (fr:=fr) (ek (F:=prog) (c:=20) (dr:=21) (w:=w) (n:=n+3) rfl rfl hn (20+40*(k:Nat)+1) (many:=3) (by omega));have e1:=ir ns (20+40*(k:Nat)+1) (many:=3) (by omega);have e2:=iu ns (20+40*(k:Nat)+1) (many:=3) (by omega);generalize cF ns (20+40*(k:Nat)+1) 3=e at d2 e1 e2
 obtain⟨y,hy⟩:∃y:Nat,ee (.str [97,98,99]) (.int e)=some (.str [y]):=by
  rw[nE,jI e1];have:e.toNat<3:=by omega
  rw[List.getElem?_eq_getElem (by simpa using this)];exact⟨_,rfl⟩
 have l2:cC .len [.str t]=some (.int (t.length:Nat)):=len_str (by omega);have s1:fP (.str t) none (some (p:Int))=some (.str (t.take p)):=by rw[gK,tw]
 have s2:fP (.str t) (some ((p:Int)+1)) none=some (.str (t.drop (p+1))):=by
  rw[gK];have:((p:Int)+1)=((p+1:Nat):Int):=by omega
  rw[this,zH]
 obtain⟨z,m1,hz⟩:∃z:List Nat,Pv.bK .mul (.str [y]) (.int (if decide ((p:Int)<(t.length:Nat))then 1 else 0))=some (.str z)/\(t.take p++z++t.drop (p+1)).length=t.length:=by
  by_cases h:p<t.length
  .refine⟨[y],?_,by simp;omega⟩;rw[decide_eq_true (by omega)];exact oU (by decide) (by decide) (by simp)
  .refine⟨[],?_,by simp;omega⟩;rw[decide_eq_false (by omega)];exact oU (by decide) (by decide) (by simp)
 have zl:(t.take p).length+z.length+(t.drop (p+1)).length=t.length:=by rw[<-hz];simp only[List.length_append]
 have a1:Pv.bK .add (.str (t.take p)) (.str z)=some (.str (t.take p++z)):=ly (by omega);have a2:Pv.bK .add (.str (t.take p++z)) (.str (t.drop (p+1)))=some (.str (t.take p++z++t.drop (p+1))):=ly (by rw[List.length_append];omega);generalize t.take p++z++t.drop (p+1)=x at hz a2
 have c1:=λfr=>eO (fr:=fr) (zw (F:=prog) (c:=20) (dr:=21) (t:=23) (w:=w) (n:=n+2) rfl rfl hn rfl (20+40*(k:Nat)+2) x (by omega));have g1:=PD ns (20+40*(k:Nat)+2) x 5 (by omega);have f1:=Ii ns (20+40*(k:Nat)+2) x;generalize chg ns (20+40*(k:Nat)+2) x=c at c1 g1 f1
 refine eg (bind1 rfl v3) ?_;refine ai (bG (bF (bq rfl) (bF (bq rfl) (ay rfl) (lE (PF _))) cT) rfl (gp rfl v4) ?_);refine ai (bG (bC (aK rfl (ay rfl) (aK rfl (ay rfl) (aK rfl (bF (eU (aV (ay rfl) aZ) l2) (bq rfl) cT) aN))) (d1 _)) rfl (gp rfl v5) ?_);refine ai (bG (bF (bF (zk (ay rfl) sX (pT (ay rfl)) s1) (bF (eF (bq rfl) (bC (aK rfl (ay rfl) (aK rfl (bF (ay rfl) (bq rfl) cT) (aK rfl (bq rfl) aN))) (d2 _)) hy) (eU (aV (bM (ay rfl) (eU (aV (ay rfl) aZ) l2) Mq) aZ) uS) m1) a1) (zk (ay rfl) (pT (bF (ay rfl) (bq rfl) cT)) sX s2) a2) rfl (gp rfl v6) ?_);refine ai (gv (Ft rfl rfl (aV (bC (aK rfl (ay rfl) (aK rfl (bF (ay rfl) (bq rfl) cT) (aK rfl (ay rfl) aN))) (c1 _)) aZ) (nG (by simp;omega))) (aB ?_));exact⟨rfl,c,_,_,_,_,⟨⟨x,hz,f1⟩,by omega,by omega⟩,.val,.val,.val,.val,by rw[List.map_append];rfl⟩
end
theorem Nk{rows:List (List Pt)}(h:rows.length<=100):dz (rows.map av)=some (rV rows):=dR (cy (by rw[List.length_map];omega))
theorem PL(hw:5000<w){t:List Nat}(ht:t.length<=5){rows:List (List Pt)}(hr:∀c∈rows,Ro c t.length 18)(hl:rows.length<=4){o:Option (List Nat)}(ho:Al rows t.length o){k:Nat}(hk:k<rows.length){a3 a4 a5 a6 a8:Option Sl}(v5:vo a5)(v8:vo a8) :
  Wp (turnF (run prog w (n+5)) w (.one 5) zW (.int (0+(k:Nat))) (lF ns t (.own (rows.map av)) [a3,a4,a5,a6,some (.val (oV o)),a8,none,none,none,none,none])) λg fr=>g=.nx/\∃a5 a8,vo a5/\vo a8/\fr=lF ns t (.own (rows.map av)) [a3,a4,a5,a6,some (.val (oV o)),a8,none,none,none,none,none]:=by
 rw[z0];have hc:=List.getElem?_eq_getElem hk;have mem:rows[k]∈rows:=List.getElem_mem hk;generalize rows[k]=c at hc mem
 have rc:=hr c mem;have z1:=rc.tt;have z2:=rc.ln;obtain⟨x,lx,fx⟩:=rc.ft;have bc:Pv.aR c=t.length:=by rw[<-gQ fx,lx]
 have ix:=VH hc;have h0:rows≠[]:=λz=>by rw[z]at hk;cases hk
 have sl:fP (.lst (rows.map av)) none (some (k:Int))=some (rV (rows.take k)):=by
  rw[Hy,tw,<-List.map_take];exact Nk (by simp;omega)
 obtain⟨o1,r1,A1⟩:=vL (w:=w) (n:=n) (rows:=[c]) (m:=t.length) (b:=18) (by simp) (λd hd=>by rw[List.mem_singleton]at hd;subst hd;exact rc) (by omega) (by simp);obtain⟨u1,rfl⟩:∃u,o1=some u:=by
  cases o1 with
  |some u=>exact⟨u,rfl⟩
  |none=>
   have:=A1.no;rw[gS.mpr ⟨x,λd hd=>by rw[List.mem_singleton]at hd;subst hd;exact fx⟩]at this;cases this
 obtain⟨VT,VI⟩:=A1.fit u1 rfl;have F1:=λfr=>fi (w:=w) (n:=n) c u1 (by omega) (by omega) fr;rw[VI c (.head _)]at F1;obtain⟨o2,r2,A2⟩:=Nj (w:=w) (n:=n) (rows:=[c,aL [.keep (t.length+1)]]) (m:=t.length) (by simp) (λd hd=>by
  rcases List.mem_cons.mp hd with rfl|hd
  .exact⟨_,rc.ft,by omega,by omega⟩
  .rw[List.mem_singleton]at hd;subst hd;exact⟨_,tH (t.length+1) 900 (by omega)⟩) (λd e=>by cases e;exact⟨rc.ft,by omega,by omega⟩) (by simp) .val
 have r2:=λfr=>cR (fr:=fr) r2;have n2:o2.isNone=true:=by
  rw[A2.no];cases e:lW [c,aL [.keep (t.length+1)]]with
  |true=>rfl
  |false=>
   obtain⟨y,hy⟩:=gS.mp e;have y1:=rc.aR (hy c (.head _));have y2:=(tH (t.length+1) 900 (by omega)).aR (hy _ (.tail _ (.head _)));omega
 have rb:=λfr=>cR (fr:=fr) (iw (F:=prog) (az:=0) (i:=1) (w:=w) (n:=n+3) rfl rfl c (by omega) (by omega));rw[bc]at rb;have rn:=λfr=>no (w:=w) (n:=n) (t.length+1) (by omega) fr;have rn:∀fr,cQ (run prog w (n+5)) 8 [.inr (.int ((t.length:Int)+1))] fr=.ok (av (aL [.keep (t.length+1)])) fr:=rn;obtain⟨s,us,rs,S,rS⟩:=RK (w:=w) (n:=n) hw rc;have s1:=rS.tt;have s2:=rS.ln;have N:=tH t.length 60 (by omega);have wi:=λfr=>VF (w:=w) (n:=n) s (aL [.keep t.length]) (by omega) N.tt (by omega) N.ln fr;rw[yh.mpr (OL λx hx=>by
  have l:=rS.aR hx;rw[gA,cP,<-l,S.dn x (by rw[<-S.fit];exact hx)];exact lP x)]at wi
 have rm:=λfr=>no (w:=w) (n:=n) t.length (by omega) fr;have l2:cC .len [.str t]=some (.int (t.length:Nat)):=len_str (by omega);obtain⟨o3,r3,A3⟩:=vL (w:=w) (n:=n) (rows:=rows++[s]) (m:=t.length) (b:=36) (by simp) (λd hd=>by
  rcases List.mem_append.mp hd with hd|hd
  .exact⟨(hr d hd).ft,by have:=(hr d hd).tt;omega,by have:=(hr d hd).ln;omega⟩
  .rw[List.mem_singleton]at hd;subst hd;exact rS) (by omega) (by simp;omega)
 have n3:o3.isNone=o.isNone:=by
  rw[A3.no,ho.no];refine qi λy=>⟨λh d hd=>h d (List.mem_append_left _ hd),λh d hd=>?_⟩
  rcases List.mem_append.mp hd with hd|hd
  .exact h d hd
  .rw[List.mem_singleton]at hd;subst hd;rw[S.fit];exact h c mem
 have ad:Pv.bK .add (.lst (rows.map av)) (.lst [av s])=some (rV (rows++[s])):=by
  rw[uQ (by simp;omega),<-show(rows++[s]).map av=rows.map av++[av s]by simp];rfl
 have bd:∀d∈rows,Ro (dU d) t.length 18:=λd hd=>by
  have q:=hr d hd;obtain⟨y,h1,h2⟩:=q.ft;have q1:=q.tt;have f:=f_len (show aL (dU d)=dU d by unfold dU;exact j3 _);have td:tot (dU d)<=tot d:=by
   unfold dU;rw[fV];clear q h1 h2 q1 f hd;induction d with
   |nil=>exact Nat.le_refl _
   |cons p d ih=>
    rw[List.filter_cons];split<;>simp only[tot,List.map_cons,List.sum_cons]at ih ⊢<;>omega
  exact⟨⟨y,h1,sy h2⟩,by omega,by omega⟩
 have dg:=λd (hd:d∈rows) fr=>cR (fr:=fr) (vE (F:=prog) (aW:=4) (bN:=3) (i:=19) (w:=w) (n:=n+2) rfl rfl rfl d (by have:=(hr d hd).ln;omega) (by have:=(hr d hd).tt;omega));obtain⟨o4,r4,A4⟩:=vL (w:=w) (n:=n) (rows:=rows.map dU) (m:=t.length) (b:=18) (by simpa using h0) (λd hd=>by
  obtain⟨e,he,rfl⟩:=List.mem_map.mp hd;exact bd e he) (by omega) (by simp;omega)
 have n4:o4.isNone=o.isNone:=by
  rw[A4.no,ho.no];refine qi λy=>⟨λh d hd=>?_,λh d hd=>?_⟩
  .have:=h _ (List.mem_map_of_mem hd);rw[cH,qf,<-cH]at this;exact this
  .obtain⟨e,he,rfl⟩:=List.mem_map.mp hd;exact sy (h e he)
 have m4:dz (rows.map λd=>av (dU d))=some (rV (rows.map dU)):=by
  have:=Nk (rows:=rows.map dU) (by simp;omega);rw[List.map_map]at this;exact this
 refine eg (bind1 rfl v5) ?_;refine ai (aP (b:=false) (af:=lF ns t (.own (rows.map av)) [a3,a4,some (.val (.int (k:Nat))),a6,some (.val (oV o)),a8,none,none,none,none,none]) ?_ (λh=>absurd h (by decide)) λ_=>aB ?_)
 .by_cases hk0:0<k
  .refine fF (aH rfl (bM (ay rfl) (bq rfl) DH) (decide_eq_true (by omega))) ?_;cases o with
   |none=>exact jK (aH rfl (bM (ay rfl) (bq rfl) (gc none)) rfl)
   |some u=>
    obtain⟨_,fu⟩:=ho.fit u rfl;obtain⟨o5,r5,A5⟩:=vL (w:=w) (n:=n) (rows:=rows.take k) (m:=t.length) (b:=18) (λz=>by
     have:=congrArg List.length z;rw[List.length_take,List.length_nil]at this;omega) (λd hd=>hr d (List.mem_of_mem_take hd)) (by omega) (by simp;omega)
    have n5:o5.isNone=false:=by rw[A5.no];exact gS.mpr ⟨u,λd hd=>fu d (List.mem_of_mem_take hd)⟩
    exact fF (aH rfl (bM (ay rfl) (bq rfl) (gc (some u))) rfl) (aH rfl (bM (bC (aK rfl (zk (ay rfl) sX (pT (ay rfl)) sl) aN) (r5 _)) (bq rfl) (fY o5)) n5)
  .exact jK (aH rfl (bM (ay rfl) (bq rfl) DH) (decide_eq_false (by omega)))
 refine ai (aP (b:=false) (jL (nJ (b:=true) (aH rfl (bC (aK rfl (eF (ay rfl) (ay rfl) ix) (aK rfl (bC (aK rfl (jl (aV (eF (ay rfl) (ay rfl) ix) aZ) sR) aN) (r1 _)) aN)) (F1 _)) rfl)) (aH rfl (bM (bC (aK rfl (jl (aV (eF (ay rfl) (ay rfl) ix) (aV (bC (aK rfl (bF (bC (aK rfl (eF (ay rfl) (ay rfl) ix) aN) (rb _)) (bq rfl) cT) aN) (rn _)) aZ)) sU) aN) (r2 _)) (bq rfl) (gc o2)) (by rw[n2];rfl))) (λh=>absurd h (by decide)) λ_=>aB ?_);refine ai (bG (bC (aK rfl (eF (ay rfl) (ay rfl) ix) (aK rfl (bC (aK rfl (eF (ay rfl) (ay rfl) ix) aN) (us _)) aN)) (rs _)) rfl (gp rfl v8) ?_);refine ai (aP (b:=false) (jL (nJ (b:=true) (aH rfl (bC (aK rfl (ay rfl) (aK rfl (bC (aK rfl (eU (aV (ay rfl) aZ) l2) aN) (rm _)) aN)) (wi _)) rfl)) (aH rfl (bM (bM (bC (aK rfl (bF (ay rfl) (jl (aV (ay rfl) aZ) sR) ad) aN) (r3 _)) (bq rfl) (fY o3)) (bM (ay rfl) (bq rfl) (fY o)) (nB n3)) rfl)) (λh=>absurd h (by decide)) λ_=>aB ?_);refine ai (aP (b:=false) (aH rfl (bM (bM (bC (aK rfl (fE (di (dO rfl) rfl) rfl (e8 av (λd=>av (dU d)) rows λd hd=>iU rfl (bC (aK rfl (ay rfl) aN) (dg d hd _))) m4) aN) (r4 _)) (bq rfl) (fY o4)) (bM (ay rfl) (bq rfl) (fY o)) (nB n4)) rfl) (λh=>absurd h (by decide)) λ_=>aB (aB ?_));exact⟨rfl,_,_,.val,.val,rfl⟩
structure Wh(p:List (List Pt))(u:List Nat)(W:List Pt):Prop where
 fit:au W u=true
 all:∀x,au W x=true->aE W x=x/\∀c∈p,au c x=true
 tt:tot W<=5+36*p.length
 ln:W.length<=5+36*p.length
theorem PM(hw:5000<w){t u:List Nat}{S0:Sl}{p:List (List Pt)}{c:List Pt}(hp:p.length<=8)(hc:Ro c t.length 18)(hu:au c u=true){W:List Pt}(hW:Wh p u W){a3 a4 a5 a6 a7 a8 jg:Option Sl}(v10:vo jg) :
  Wp (turnF (run prog w (n+5)) w (.one 10) zY (av c) (lF ns t S0 [a3,a4,a5,a6,a7,a8,some (.val (av W)),jg,none,none,none])) λg fr=>g=.nx/\∃W jg,Wh (p++[c]) u W/\vo jg/\fr=lF ns t S0 [a3,a4,a5,a6,a7,a8,some (.val (av W)),jg,none,none,none]:=by
 obtain⟨s,us,rs,S,rS⟩:=RK (w:=w) (n:=n) hw hc;have s1:=rS.tt;have s2:=rS.ln;have w1:=hW.tt;have w2:=hW.ln;have dW:=(hW.all u hW.fit).1;obtain⟨X,rX,T⟩:=bB (w:=w) (n:=n) hw hW.fit (other:=s) (by rw[dW,S.fit];exact hu) (by omega) (by omega) (by omega) (by omega);have t1:=T.tt;have t2:=T.ln;refine eg (bind1 rfl v10) ?_;refine ai (bG (bC (aK rfl (ay rfl) (aK rfl (bC (aK rfl (ay rfl) (aK rfl (bC (aK rfl (ay rfl) aN) (us _)) aN)) (rs _)) aN)) (rX _)) rfl rfl (aB ?_));refine⟨rfl,X,_,⟨T.fit,λx hx=>?_,by simp;omega,by simp;omega⟩,.val,rfl⟩;obtain⟨h1,h2,h3⟩:=vI T hx;obtain⟨g1,g2⟩:=hW.all x h1;rw[g1]at h2 h3;rw[S.fit]at h2;refine⟨by rw[h3,S.dn x h2],λd hd=>?_⟩;rcases List.mem_append.mp hd with hd|hd
 .exact g2 d hd
 .rw[List.mem_singleton]at hd;subst hd;exact h2
theorem none_{f:V->Option (Option V)}(l:List (List Pt))(h:∀a∈l,f (av a)=some none):cJ f (l.map av)=some []:=by
 have:=jH (f:=f) av (λ_=>false) (λ_=>V.aG) l λa ha=>by rw[h a ha];rfl
 rw[this];simp
theorem T7(hw:5000<w){t:List Nat}(ht:t.length<=5){rows:List (List Pt)}(hr:∀c∈rows,Ro c t.length 18)(hl:rows.length<=4){o:Option (List Nat)}(ho:Al rows t.length o){a3 a4 a5 a6 a8:Option Sl}(v3:vo a3)(v4:vo a4)(v5:vo a5)(v6:vo a6)(v8:vo a8) :
  Wp (exs (run prog w (n+5)) w (.cons tF (.cons tG (.cons qj (.cons qk .nil)))) (lF ns t (.own (rows.map av)) [a3,a4,a5,a6,some (.val (oV o)),a8,none,none,none,none,none])) λg fr=>g=.ret (.bl true)/\outs 1 fr=[]:=by
 have rm:=λfr=>no (w:=w) (n:=n) t.length (by omega) fr;have l2:cC .len [.str t]=some (.int (t.length:Nat)):=len_str (by omega);refine ai (bG (bC (aK rfl (eU (aV (ay rfl) aZ) l2) aN) (rm _)) rfl rfl ?_);cases o with
 |none=>
  have ml:Pv.bK .mul (.lst (rows.map av)) (.int (if !(Option.isNone (none:Option (List Nat)))then 1 else 0))=some (.lst []):=uR (j:=0) (by decide) (by decide) (by simp;omega) (by simp[rep]);refine ai (jX (vs:=[]) (af:=lF ns t (.own (rows.map av)) [a3,a4,a5,a6,some (.val .aG),a8,some (.val (av (aL [.keep t.length]))),none,none,none,none]) (di (bF (ay rfl) (eU (aV (bM (ay rfl) (bq rfl) (gc none)) aZ) uS) ml) rfl) ?_);refine gM (e:=av) (λp l fr=>fr=lF ns t (.own (rows.map av)) [a3,a4,a5,a6,some (.val .aG),a8,some (.val (av (aL [.keep t.length]))),none,none,none,none]/\l=[]) (λp c l fr h=>absurd h.2 (by simp)) (λp fr h=>?_) [] [] _ ⟨rfl,rfl⟩;obtain⟨rfl,_⟩:=h;exact ai (aP (b:=true) (aH rfl (bM (ay rfl) (bq rfl) (fY none)) rfl) (λ_=>ai (bT (bq rfl) ⟨rfl,rfl⟩)) λh=>absurd h (by decide))
 |some u=>
  obtain⟨lu,fu⟩:=ho.fit u rfl;have ml:Pv.bK .mul (.lst (rows.map av)) (.int (if !(Option.isNone (some u))then 1 else 0))=some (.lst (rows.map av)):=by
   have:=uR (j:=1) (x:=rows.map av) (by decide) (by decide) (by simp;omega) (by simp[rep];omega);simpa[rep]using this
  have N:=tH t.length 5 ht;have nu:au (aL [.keep t.length]) u=true:=by rw[gA,<-lu];exact(lP u).1
  have W0:Wh [] u (aL [.keep t.length]):=⟨nu,λx hx=>⟨by rw[cP,<-N.aR hx];exact(lP x).2,λc hc=>by cases hc⟩,N.tt,N.ln⟩
  refine ai (jX (vs:=rows.map av) (af:=lF ns t (.own (rows.map av)) [a3,a4,a5,a6,some (.val (.str u)),a8,some (.val (av (aL [.keep t.length]))),none,none,none,none]) (di (bF (ay rfl) (eU (aV (bM (ay rfl) (bq rfl) (gc (some u))) aZ) uS) ml) rfl) ?_);refine gM (e:=av) (λp l fr=>p++l=rows/\∃W jg,Wh p u W/\vo jg/\fr=lF ns t (.own (rows.map av)) [a3,a4,a5,a6,some (.val (.str u)),a8,some (.val (av W)),jg,none,none,none]) (λp c l fr ⟨hp,W,jg,hW,v10,hfr⟩=>?_) (λp fr ⟨hp,W,jg,hW,v10,hfr⟩=>?_) _ [] _ ⟨rfl,_,none,W0,.none,rfl⟩
  .subst hfr;have hc:c∈rows:=by rw[<-hp];simp
   have hpl:p.length<=8:=by have:=congrArg List.length hp;rw[List.length_append]at this;omega
   refine(PM (w:=w) (n:=n) (ns:=ns) hw hpl (hr c hc) (fu c hc) hW v10).mono λg fr ⟨hg,X,a,hX,va,e⟩=>?_;subst hg;exact⟨by rw[<-hp,List.append_assoc];rfl,X,a,hX,va,e⟩
  .subst hfr;rw[List.append_nil]at hp;subst hp;have w1:=hW.tt;have w2:=hW.ln;have FW:=λfr=>fi (w:=w) (n:=n) W u (by omega) (by omega) fr;rw[hW.fit]at FW;obtain⟨o1,r1,A1⟩:=vL (w:=w) (n:=n) (rows:=[W]) (m:=t.length) (b:=900) (by simp) (λd hd=>by rw[List.mem_singleton]at hd;subst hd;exact⟨⟨u,lu,hW.fit⟩,by omega,by omega⟩) (by omega) (by simp);obtain⟨v,rfl⟩:∃u,o1=some u:=by
    cases o1 with
    |some u=>exact⟨u,rfl⟩
    |none=>
     have:=A1.no;rw[gS.mpr ⟨u,λd hd=>by rw[List.mem_singleton]at hd;subst hd;exact hW.fit⟩]at this;cases this
   obtain⟨lv,fv⟩:=A1.fit v rfl;have al:=(hW.all v (fv W (.head _))).2;have ff:=λc (hc:c∈p) fr=>fi (w:=w) (n:=n) c v (by have:=(hr c hc).tt;omega) (by omega) fr;have sh:fZ (lF ns t (.own (p.map av)) [a3,a4,a5,a6,some (.val (.str u)),a8,some (.val (av W)),jg,none,none,none])=lF ns t (.val (rV p)) [a3,a4,a5,a6,some (.val (.str u)),a8,some (.val (av W)),jg,none,none,none]:=by
    show _ :: _ :: _ :: [a3.map Sl.eE,a4.map Sl.eE,a5.map Sl.eE,a6.map Sl.eE,_,a8.map Sl.eE,_,jg.map Sl.eE,_,_,_]=_;rw[dN v3,dN v4,dN v5,dN v6,dN v8,dN v10];rfl
   refine ai (aP (b:=false) (af:=lF ns t (.own (p.map av)) [a3,a4,a5,a6,some (.val (.str u)),a8,some (.val (av W)),jg,none,none,none]) (aH rfl (bM (ay rfl) (bq rfl) (fY (some u))) rfl) (λh=>absurd h (by decide)) λ_=>aB ?_);refine ai (bT (v:=.bl true) (af:=lF ns t (.val (rV p)) [a3,a4,a5,a6,some (.val (.str u)),a8,some (.val (av W)),jg,none,none,none]) ?_ ⟨rfl,rfl⟩);refine(congrArg (ev _ _ _) sh).trans ?_;exact OA (bC (aK rfl (ay rfl) (aK rfl (ay rfl) aN)) (FW _)) (bM (fE (di (dO rfl) rfl) rfl (none_ _ λc hc=>nK (b:=false) (v:=.aG) (bx:=[]) rfl (nJ (b:=true) (aH rfl (bC (aK rfl (ay rfl) (aK rfl (bC (aK rfl (jl (aV (ay rfl) aZ) sR) aN) (r1 _)) aN)) (ff c hc _)) (al c hc))) λh=>absurd h (by decide)) lg) (jl aZ lg) eN)
theorem mid(hw:5000<w){t:List Nat}(ht:t.length<=5){rows:List (List Pt)}(h0:rows≠[])(hr:∀c∈rows,Ro c t.length 18)(hl:rows.length<=4){a3 a4 a5 a6:Option Sl}(v3:vo a3)(v4:vo a4)(v5:vo a5)(v6:vo a6) :
  Wp (exs (run prog w (n+5)) w (.cons zS (.cons zT (.cons zU (.cons zV (.cons zX (.cons tF (.cons tG (.cons qj (.cons qk .nil))))))))) (lF ns t (.own (rows.map av)) [a3,a4,a5,a6,none,none,none,none,none,none,none])) λg fr=>g=.ret (.bl true)/\outs 1 fr=[]:=by
 obtain⟨o,r0,A0⟩:=VG (w:=w) (n:=n) (m:=t.length) (b:=18) h0 hr (by omega) (by omega);have l2:cC .len [.str t]=some (.int (t.length:Nat)):=len_str (by omega);obtain⟨o1,r1,A1⟩:=vL (w:=w) (n:=n) (rows:=rows.reverse) (m:=t.length) (b:=18) (by simpa using h0) (λc hc=>hr c (List.mem_reverse.mp hc)) (by omega) (by simp;omega);obtain⟨o2,r2,A2⟩:=vL (w:=w) (n:=n) (rows:=rows++rows) (m:=t.length) (b:=18) (by simpa using h0) (λc hc=>hr c (by simpa using hc)) (by omega) (by simp;omega);have n1:o1.isNone=o.isNone:=by rw[A1.no,A0.no];exact qi λy=>by simp
 have n2:o2.isNone=o.isNone:=by rw[A2.no,A0.no];exact qi λy=>by simp
 have rv:kD (.lst (rows.map av))=some (rV rows.reverse):=by
  rw[Hz,<-List.map_reverse];exact Nk (by simp;omega)
 have ad:Pv.bK .add (.lst (rows.map av)) (.lst (rows.map av))=some (rV (rows++rows)):=by
  rw[uQ (by simp;omega),<-List.map_append];rfl
 refine ai (bG (bC (Mn rfl aN) (r0 _ rfl)) rfl rfl ?_);refine ai (aP (b:=false) (af:=lF ns t (.own (rows.map av)) [a3,a4,a5,a6,some (.val (oV o)),none,none,none,none,none,none]) ?_ (λh=>absurd h (by decide)) λ_=>aB ?_)
 .cases o with
  |none=>exact jK (aH rfl (bM (ay rfl) (bq rfl) (gc none)) rfl)
  |some u=>
   have l1:cC .len [.str u]=some (.int (t.length:Nat)):=by rw[len_str (by have:=(A0.fit u rfl).1;omega),(A0.fit u rfl).1]
   exact fF (aH rfl (bM (ay rfl) (bq rfl) (gc (some u))) rfl) (aH rfl (bM (eU (aV (ay rfl) aZ) l1) (eU (aV (ay rfl) aZ) l2) (nI _)) rfl)
 refine ai (aP (b:=false) (af:=lF ns t (.own (rows.map av)) [a3,a4,a5,a6,some (.val (oV o)),none,none,none,none,none,none]) ?_ (λh=>absurd h (by decide)) λ_=>aB ?_)
 .cases o with
  |none=>exact jK (aH rfl (bM (ay rfl) (bq rfl) (gc none)) rfl)
  |some u=>
   obtain⟨lu,fu⟩:=A0.fit u rfl;have ff:=λc (hc:c∈rows) fr=>fi (w:=w) (n:=n) c u (by have:=(hr c hc).tt;omega) (by omega) fr;exact fF (aH rfl (bM (ay rfl) (bq rfl) (gc (some u))) rfl) (aH rfl (bM (fE (di (dO rfl) rfl) rfl (none_ _ λc hc=>nK (b:=false) (v:=.aG) (bx:=[]) rfl (nJ (b:=true) (aH rfl (bC (aK rfl (ay rfl) (aK rfl (ay rfl) aN)) (ff c hc _)) (fu c hc))) λh=>absurd h (by decide)) lg) (jl aZ lg) nN) rfl)
 refine ai (aP (b:=false) (af:=lF ns t (.own (rows.map av)) [a3,a4,a5,a6,some (.val (oV o)),none,none,none,none,none,none]) (jL (aH rfl (bM (bM (bC (aK rfl (Mm (ay rfl) rv) aN) (r1 _)) (bq rfl) (fY o1)) (bM (ay rfl) (bq rfl) (fY o)) (nB n1)) rfl) (aH rfl (bM (bM (bC (aK rfl (bF (ay rfl) (ay rfl) ad) aN) (r2 _)) (bq rfl) (fY o2)) (bM (ay rfl) (bq rfl) (fY o)) (nB n2)) rfl)) (λh=>absurd h (by decide)) λ_=>aB ?_);have ll:cC .len [.lst (rows.map av)]=some (.int (rows.length:Nat)):=by rw[HA,List.length_map]
 refine ai (jX (vs:=range 0 rows.length) (af:=lF ns t (.own (rows.map av)) [a3,a4,a5,a6,some (.val (oV o)),none,none,none,none,none,none]) (mY (aV (eU (aV (ay rfl) aZ) ll) aZ) (zv (by omega) rfl)) ?_);refine qN (lo:=0) (N:=rows.length) (λk fr=>∃a5 a8,vo a5/\vo a8/\fr=lF ns t (.own (rows.map av)) [a3,a4,a5,a6,some (.val (oV o)),a8,none,none,none,none,none]) (λk fr hk ⟨a5,a8,v5,v8,hfr⟩=>?_) (λfr ⟨a5,a8,v5,v8,hfr⟩=>?_) ⟨a5,none,v5,.none,rfl⟩
 .subst hfr;refine(PL (w:=w) (n:=n) (ns:=ns) hw ht hr hl A0 hk v5 v8).mono λg fr ⟨hg,e⟩=>?_;subst hg;exact e
 .subst hfr;exact T7 hw ht hr hl A0 v3 v4 v5 v6 v8
variable(hn:ns.length<=63)
include hn
theorem Nl(hw:5000<w):run prog w (n+6) 24 [.val (jJ ns)]=some (.bl true,[]):=by
 have ht:(txt ns 0 5).length<=5:=HY ns 0 (most:=5) (by decide);have c1:=λfr=>eO (fr:=fr) (DJ (F:=prog) (c:=20) (dr:=21) (t:=22) (w:=w) (n:=n+2) rfl rfl hn rfl 0 5 (by decide) (by decide));generalize txt ns 0 5=t at ht c1
 have d1:=λfr=>eO (fr:=fr) (ek (F:=prog) (c:=20) (dr:=21) (w:=w) (n:=n+3) rfl rfl hn 10 (many:=4) (by omega));have b1:=ir ns 10 (many:=4) (by omega);have b2:=iu ns 10 (many:=4) (by omega);generalize cF ns 10 4=d at d1 b1 b2
 obtain⟨p,rfl⟩:∃p:Nat,d=p:=⟨d.toNat,by omega⟩
 refine b8 (fn:=FT) rfl rfl ?_;refine ai (bG (bC (aK rfl (ay rfl) (aK rfl (bq rfl) (aK rfl (bq rfl) aN))) (c1 _)) rfl rfl ?_);refine ai (jM (l:=[]) (jl aZ lg) rfl rfl ?_);refine ai (jX (vs:=range 0 (1+p)) (af:=lF ns t (.own []) [none,none,none,none,none,none,none,none,none,none,none]) (mY (aV (bF (bq rfl) (bC (aK rfl (ay rfl) (aK rfl (bq rfl) (aK rfl (bq rfl) aN))) (d1 _)) cT) aZ) (zv (by omega) (by omega))) ?_);refine qN (lo:=0) (N:=1+p) (λk fr=>∃rows a3 a4 a5 a6,rows.length=k/\(∀c∈rows,Ro c t.length 18)/\vo a3/\vo a4/\vo a5/\vo a6/\fr=lF ns t (.own (rows.map av)) [a3,a4,a5,a6,none,none,none,none,none,none,none]) (λk fr hk ⟨rows,a3,a4,a5,a6,hl,hr,v3,v4,v5,v6,hfr⟩=>?_) (λfr ⟨rows,a3,a4,a5,a6,hl,hr,v3,v4,v5,v6,hfr⟩=>?_) ⟨[],none,none,none,none,rfl,(λc hc=>by cases hc),.none,.none,.none,.none,rfl⟩
 .subst hfr;refine(PK (w:=w) (n:=n) hn ht (by omega) k v3 v4 v5 v6).mono λg fr ⟨hg,r,b3,b4,b5,b6,q,u3,u4,u5,u6,e⟩=>?_;subst hg;refine⟨rows++[r],b3,b4,b5,b6,by simp[hl],λc hc=>?_,u3,u4,u5,u6,e⟩;rcases List.mem_append.mp hc with hc|hc
  .exact hr c hc
  .rw[List.mem_singleton]at hc;subst hc;exact q
 .subst hfr;exact mid hw ht (λz=>by rw[z]at hl;simp at hl;omega) hr (by omega) v3 v4 v5 v6
end
theorem good:∀ns:List Int,ns.length<=63->∃h',Ev.run prog 100000 60 24 [.ref 0] [.bL (ns.map Ev.D.int)]=.ok (.bl true) h':=λns h=>Hv (Nl (w:=100000) (n:=54) h (by decide))
end Lg
theorem Lw.good:∀ns:List Int,ns.length<=63->∃h',Ev.run Lw.prog 100000 60 24 [.ref 0] [.bL (ns.map Ev.D.int)]=.ok (.bl true) h':=Lg.good
namespace PySem.W.Fast
theorem tw4996961943748883798:True:=⟨⟩
theorem tw7958739900621609118:True:=⟨⟩
theorem tw2401967547219113466:True:=⟨⟩
theorem tw2153023656960638498:True:=⟨⟩
theorem tw12832967633785051972:True:=⟨⟩
theorem tw3035877026369692659:True:=⟨⟩
theorem tw568692312198398857:True:=⟨⟩
theorem tw6807906461926859913:True:=⟨⟩
theorem tw14976317219016067541:True:=⟨⟩
theorem tw12858253597684126573:True:=⟨⟩
theorem tw11433225600884917897:True:=⟨⟩
theorem tw16978599798393831398:True:=⟨⟩
theorem tw8940581788435438594:True:=⟨⟩
theorem tw5903870762609639658:True:=⟨⟩
theorem tw3797261117976398252:True:=⟨⟩
theorem tw12706954472093378459:True:=⟨⟩
theorem tw9988029062086622711:True:=⟨⟩
theorem tw11621067105513527446:True:=⟨⟩
theorem tw3592006559548526679:True:=⟨⟩
theorem tw6882751614760894935:True:=⟨⟩
theorem tw8265877272699676655:True:=⟨⟩
theorem tw9558438683946117599:True:=⟨⟩
theorem tw2730405774551293487:True:=⟨⟩
theorem tw15438086402765511290:True:=⟨⟩
theorem tw12228417820177300071:True:=⟨⟩
theorem tw9285919761851591306:True:=⟨⟩
theorem tw4014226036232839165:True:=⟨⟩
theorem tw2711432198905962170:True:=⟨⟩
theorem tw10259972932951542236:True:=⟨⟩
theorem tw11770893944948606797:True:=⟨⟩
theorem tw560036450926158993:True:=⟨⟩
theorem tw3436255393337266604:True:=⟨⟩
theorem tw11350619180584977357:True:=⟨⟩
theorem tw16369998579015081735:True:=⟨⟩
theorem tw6721147029946462496:True:=⟨⟩
theorem tw15600887737287213339:True:=⟨⟩
theorem tw11725610659959432044:True:=⟨⟩
theorem tw7769242893329486537:True:=⟨⟩
theorem tw14747333851660833161:True:=⟨⟩
theorem tw14876577475977414584:True:=⟨⟩
theorem tw7941191294838672424:True:=⟨⟩
theorem tw15925048975741240294:True:=⟨⟩
theorem tw11114964723920405848:True:=⟨⟩
theorem tw7072062437356477486:True:=⟨⟩
theorem tw16246504352313450736:True:=⟨⟩
theorem tw17818856470481506436:True:=⟨⟩
theorem tw3417004087852234189:True:=⟨⟩
theorem tw14396768621139962803:True:=⟨⟩
theorem tw9982048792958771865:True:=⟨⟩
theorem tw7848426150925515406:True:=⟨⟩
theorem tw2176734330481981275:True:=⟨⟩
theorem tw5030807720901491036:True:=⟨⟩
theorem tw15080340430401303315:True:=⟨⟩
theorem tw9519923369906639737:True:=⟨⟩
theorem tw17075696643530400256:True:=⟨⟩
theorem tw10443725219317045500:True:=⟨⟩
theorem tw14088867496068818138:True:=⟨⟩
theorem tw16376509332127823258:True:=⟨⟩
theorem tw9723783892082931035:True:=⟨⟩
theorem tw13503096932295659510:True:=⟨⟩
theorem tw1885038183804312312:True:=⟨⟩
theorem tw16899366551554402777:True:=⟨⟩
theorem tw16697307088247774576:True:=⟨⟩
theorem tw6420214305409360251:True:=⟨⟩
theorem tw16246314430306175910:True:=⟨⟩
theorem tw9508483566501323461:True:=⟨⟩
theorem tw776192933644335265:True:=⟨⟩
theorem tw6511623910713812144:True:=⟨⟩
theorem tw8192297455298965338:True:=⟨⟩
theorem tw5197406479424236061:True:=⟨⟩
theorem tw17293890439580921390:True:=⟨⟩
theorem tw8681328810311696351:True:=⟨⟩
theorem tw4877723359970754645:True:=⟨⟩
theorem tw11141486218754626771:True:=⟨⟩
theorem tw15687811281592009000:True:=⟨⟩
theorem tw6627715422509844851:True:=⟨⟩
theorem tw2849656246483554242:True:=⟨⟩
theorem tw5072978237179568151:True:=⟨⟩
theorem tw10418809892191893936:True:=⟨⟩
theorem tw14488238118535018822:True:=⟨⟩
theorem tw15010891370114348027:True:=⟨⟩
theorem tw5822872316840028097:True:=⟨⟩
theorem tw6386629834566510863:True:=⟨⟩
theorem tw11381763317577491917:True:=⟨⟩
theorem tw9208681515683994104:True:=⟨⟩
theorem tw12856845685396758747:True:=⟨⟩
theorem tw16068955260358710972:True:=⟨⟩
theorem tw15338952177000433844:True:=⟨⟩
theorem tw1063984855367288041:True:=⟨⟩
theorem tw5949450506648875168:True:=⟨⟩
theorem tw292522060352997901:True:=⟨⟩
theorem tw10851542850039700369:True:=⟨⟩
theorem tw3535902463868586216:True:=⟨⟩
theorem tw490935487649996851:True:=⟨⟩
theorem tw9332446915708923685:True:=⟨⟩
theorem tw6278003921034159479:True:=⟨⟩
theorem tw4568156949843176325:True:=⟨⟩
theorem tw273908589852042461:True:=⟨⟩
theorem tw6513739754016598788:True:=⟨⟩
theorem tw12267628319972398143:True:=⟨⟩
theorem tw7921754989649092645:True:=⟨⟩
theorem tw11549574485550488564:True:=⟨⟩
theorem tw8278673655058429457:True:=⟨⟩
theorem tw5631567071310125981:True:=⟨⟩
theorem tw11927907922827048386:True:=⟨⟩
theorem tw4164740649032571848:True:=⟨⟩
theorem tw10560690280201369186:True:=⟨⟩
theorem tw17765460795460528589:True:=⟨⟩
theorem tw9324888114762494783:True:=⟨⟩
theorem tw5735825752832465790:True:=⟨⟩
theorem tw8554860759985727399:True:=⟨⟩
theorem tw276128716728817333:True:=⟨⟩
theorem tw14492921687965354682:True:=⟨⟩
theorem tw13051986990731534833:True:=⟨⟩
theorem tw3444891958764832154:True:=⟨⟩
theorem tw8627608196343436524:True:=⟨⟩
theorem tw13564258527203376096:True:=⟨⟩
theorem tw5784953695915750685:True:=⟨⟩
theorem tw8580573065114494365:True:=⟨⟩
theorem tw15758646366858030244:True:=⟨⟩
theorem tw5434288937960945405:True:=⟨⟩
theorem tw6203827064504570943:True:=⟨⟩
theorem tw10467913370721664726:True:=⟨⟩
theorem tw16890190629776053255:True:=⟨⟩
theorem tw5436907759830838361:True:=⟨⟩
theorem tw10941826657226031987:True:=⟨⟩
theorem tw16656158409892111109:True:=⟨⟩
theorem tw13688905268681947938:True:=⟨⟩
theorem tw14762117667979572601:True:=⟨⟩
theorem tw6624054535556716725:True:=⟨⟩
theorem tw10901245287158025489:True:=⟨⟩
theorem tw17447583533948498472:True:=⟨⟩
theorem tw17415766424640414229:True:=⟨⟩
theorem tw16618662043541310800:True:=⟨⟩
theorem tw7717352551704552872:True:=⟨⟩
theorem tw5651324988013084242:True:=⟨⟩
theorem tw1269686433914869904:True:=⟨⟩
theorem tw10268304996840653715:True:=⟨⟩
theorem tw10165773617530094706:True:=⟨⟩
theorem tw1752374273869676930:True:=⟨⟩
theorem tw2126211404196558642:True:=⟨⟩
theorem tw5707038474885722984:True:=⟨⟩
theorem tw14477790359889127964:True:=⟨⟩
theorem tw17087015556013970033:True:=⟨⟩
theorem tw8427196041836756960:True:=⟨⟩
theorem tw13660145815149984118:True:=⟨⟩
theorem tw9123241209114346219:True:=⟨⟩
theorem tw15491016366156208907:True:=⟨⟩
theorem tw13461908871245760307:True:=⟨⟩
theorem tw9397768392352450553:True:=⟨⟩
theorem tw2820726209614811900:True:=⟨⟩
theorem tw14591255275555907814:True:=⟨⟩
theorem tw2371760137164485205:True:=⟨⟩
theorem tw11433790157115590678:True:=⟨⟩
theorem tw1178311704728416699:True:=⟨⟩
theorem tw9365934215784090677:True:=⟨⟩
theorem tw9883091852899920790:True:=⟨⟩
theorem tw17843450953923644752:True:=⟨⟩
theorem tw7767388585555318534:True:=⟨⟩
theorem tw18426820926332309421:True:=⟨⟩
theorem tw17873760195422801404:True:=⟨⟩
theorem tw10848541130593075138:True:=⟨⟩
theorem tw12025547364209045034:True:=⟨⟩
theorem tw11679669417994996987:True:=⟨⟩
theorem tw5108234108899543489:True:=⟨⟩
theorem tw9209052396356349963:True:=⟨⟩
theorem tw9864129846928906521:True:=⟨⟩
theorem tw13113092068279284838:True:=⟨⟩
theorem tw3198211050044238776:True:=⟨⟩
theorem tw5359408673911616212:True:=⟨⟩
theorem tw17674373903725509384:True:=⟨⟩
theorem tw13740324706529401837:True:=⟨⟩
theorem tw14361323762832445094:True:=⟨⟩
theorem tw10397423733087261648:True:=⟨⟩
theorem tw3045337003582260687:True:=⟨⟩
theorem tw12311998057367696577:True:=⟨⟩
theorem tw2490560558122862678:True:=⟨⟩
theorem tw13724640696695471055:True:=⟨⟩
theorem tw17012279262875557572:True:=⟨⟩
end PySem.W.Fast
open PySem PySem.W PyProof.Rows
set_option maxRecDepth 100000 in
set_option maxHeartbeats 0 in
theorem PySem.Challenge.cw_pastways_k62_whole_all_fit_holds : PySem.Challenge.rw_pastways_k62_whole_all_fit.Holds := by
 w_on;o_law;k_head;(case hw=>w_witness2)
 k_fill
 refine Sm.G8 (F:=Lw.prog) (wh:=100000) (n:=60) (f:=24) (x:="_law_script") (l:=PySem.Challenge.rw_pastways_k62_whole_all_fit) rfl rfl ⟨rfl,by decide,by decide⟩ (λw h Y=>PySem.W.kIn_of Y) Lw.good ?F
 case F=>
  intro w mg fa h KX G hmg
  refine' Lw.all_mk KX G hmg ⟨?a0,L2.bZ ?l0 ?c0 ?k0⟩ ⟨?a1,L2.bZ ?l1 ?c1 ?k1⟩ ⟨?a2,L2.bZ ?l2 ?c2 ?k2⟩ ⟨?a3,L2.bZ ?l3 ?c3 ?k3⟩ ⟨?a4,L2.bZ ?l4 ?c4 ?k4⟩ ⟨?a5,L2.bZ ?l5 ?c5 ?k5⟩ ⟨?a6,L2.bZ ?l6 ?c6 ?k6⟩ ⟨?a7,L2.bZ ?l7 ?c7 ?k7⟩ ⟨?a8,L2.bZ ?l8 ?c8 ?k8⟩ ⟨?a9,L2.bZ ?l9 ?c9 ?k9⟩ ⟨?jg,L2.bZ ?VU ?VV ?VW⟩ ⟨?VX,L2.bZ ?VY ?VZ ?V0⟩ ⟨?V1,L2.bZ ?V2 ?c12 ?V3⟩ ⟨?V4,L2.bZ ?V5 ?V6 ?V7⟩ ⟨?V8,L2.bZ ?V9 ?Wa ?Wb⟩ ⟨?Wc,L2.bZ ?Wd ?We ?Wf⟩ ⟨?Wg,L2.bZ ?Wj ?Wk ?Wl⟩ ⟨?Wm,L2.bZ ?Wn ?Wo ?Wq⟩ ⟨?Wr,L2.bZ ?Ws ?Wt ?Wu⟩ ⟨?Wv,L2.bZ ?Ww ?Wx ?Wy⟩ ⟨?Wz,L2.bZ ?WA ?WB ?WC⟩ ⟨?WD,L2.bZ ?WE ?WG ?WH⟩ ⟨?WI,L2.bZ ?WJ ?WK ?WL⟩ ⟨?WM,L2.bZ ?WN ?WO ?WQ⟩ ⟨?WR,L2.bZ ?WS ?WT ?WU⟩ ?z0 ?z1 ?z2 ?z3 ?z4 ?z5 ?z6 ?z7 ?z8 ?q0 ?q1 ?RG ?RH ?RI ?RJ;all_goals try first|k_is|rfl|decide +kernel | (with_unfolding_all rfl)

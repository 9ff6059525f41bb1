import PyProof.Rows.All
import Wide.All
import OpenK.AllK
import Wide.FinOn
import Lean
import PyProof.EqAt
import PyProof.EqKinds
import PyProof.TupleCall
import PyProof.DictUpdate
import PyProof.NeKinds
import PyProof.StrLawsIn
import KE.KRevSl
import PyProof.ZipIter
import PyProof.ListRange
import PyProof.Rows.SortStr
import KE.KRevIter
import KE.KDictSum
import PyProof.EnumMake
import PyProof.EnumFor
import PySem.Challenge.RW_pastways_k63_squeezed
set_option Elab.async false
set_option linter.all false
set_option maxRecDepth 100000
namespace L2
open PySem PySem.Spec PyProof.Rows
abbrev Key:=Sum Int Str
noncomputable def DY:Key->Value->Bool
 |.inl k,v=>Value.isInt k v
 |.inr x,v=>Value.isStrOf x v
noncomputable def Qq(w:World):Key->Int
 |.inl k=>hashInt k
 |.inr x=>hashStr w x
theorem dw:∀{k:Key}{v:Value},DY k v=true->(∃i t,k=Sum.inl i/\v=Value.int i t)\/(∃x t,k=Sum.inr x/\v=Value.str x t)
 |.inl i,v,h=>by
  obtain⟨t,e⟩:=Value.isInt_shape (k:=i) (v:=v) h;exact .inl ⟨i,t,rfl,e⟩
 |.inr x,v,h=>by
  obtain⟨t,e⟩:=Value.isStrOf_shape (x:=x) (v:=v) h;exact .inr ⟨x,t,rfl,e⟩
theorem IJ(a b:Int):decide ((Sum.inl a:Key)=Sum.inl b)=(a==b):=by
 by_cases e:a=b
 .subst e;simp
 .have h:¬ (Sum.inl a:Key)=Sum.inl b:=λq=>e (Sum.inl.inj q);rw[decide_eq_false h];exact(beq_eq_false_iff_ne.mpr e).symm
theorem IK(a b:Str):decide ((Sum.inr a:Key)=Sum.inr b)=decide (a=b):=by
 by_cases e:a=b
 .subst e;simp
 .have h:¬ (Sum.inr a:Key)=Sum.inr b:=λq=>e (Sum.inr.inj q);rw[decide_eq_false h,decide_eq_false e]
theorem IL(a:Int)(b:Str):decide ((Sum.inl a:Key)=Sum.inr b)=false:=decide_eq_false (λq=>nomatch q)
theorem IM(a:Str)(b:Int):decide ((Sum.inr a:Key)=Sum.inl b)=false:=decide_eq_false (λq=>nomatch q)
noncomputable def qK(prog:Program)(w:World):PySem.KeyKind prog w Key where
 is:=DY
 hash:=Qq w
 inj:=λv a b ha hb=>by
  rcases dw ha with ⟨i,t,rfl,rfl⟩|⟨x,t,rfl,rfl⟩
  .rcases dw hb with ⟨j,u,rfl,e⟩|⟨y,u,rfl,e⟩
   .injection e with e1 _;rw[e1]
   .exact nomatch e
  .rcases dw hb with ⟨j,u,rfl,e⟩|⟨y,u,rfl,e⟩
   .exact nomatch e
   .injection e with e1 _;rw[e1]
 byValue:=λk v h=>by
  rcases dw h with ⟨i,t,rfl,rfl⟩|⟨x,t,rfl,rfl⟩<;>rfl
 pyHash:=λhv h=>by
  rcases dw hv with ⟨i,t,rfl,rfl⟩|⟨x,t,rfl,rfl⟩
  .exact wpAny_pyHash_int h
  .exact wpAny_pyHash_str h
 eqBool:=λhu hv h=>by
  rcases dw hu with ⟨i,t,rfl,rfl⟩|⟨x,t,rfl,rfl⟩
  .rcases dw hv with ⟨j,u,rfl,rfl⟩|⟨y,u,rfl,rfl⟩
   .rw[IJ]at h;exact wpAny_eqBool_int h
   .rw[IL]at h;exact SeqAt.EqAt.int_str i t y u _ _ _ _ h
  .rcases dw hv with ⟨j,u,rfl,rfl⟩|⟨y,u,rfl,rfl⟩
   .rw[IM]at h;exact SeqAt.EqAt.str_int x t j u _ _ _ _ h
   .rw[IK]at h;exact wpAny_eqBool_str h
 «strs»:=λk x t v h=>by
  rcases dw h with ⟨i,u,rfl,e⟩|⟨y,u,rfl,e⟩
  .exact nomatch e
  .injection e with e1 _
   subst e1;cases v<;>rfl
end L2
namespace L2
open PySem PySem.Spec PyProof.Rows
inductive V where
 |aQ|bl (b:Bool)|int (i:Int)|str (x:Str)|mz (b:Array UInt8)|zN (b:UInt64)|ref (a:Addr)|ty (n:String)
 deriving DecidableEq
noncomputable def RelV:V->Value->Prop
 |.aQ,u=>u=Value.none
 |.bl b,u=>u=Value.bool b
 |.int i,u=>∃t,u=Value.int i t
 |.str x,u=>∃t,u=Value.str x t
 |.mz b,u=>∃t,u=Value.bytes b t
 |.zN b,u=>∃t,u=Value.float b t
 |.ref a,u=>u=Value.ref a
 |.ty n,u=>u=Value.type n
abbrev Vals:List V->List Value->Prop:=Paired RelV
theorem Vals.length{xs:List V}{us:List Value}(r:Vals xs us):xs.length=us.length:=Paired.length r
theorem Vals.get:∀{xs:List V}{us:List Value}{i:Nat}{x:V},Vals xs us->xs[i]?=some x->∃u,us[i]?=some u/\RelV x u
 |_,_,_,_,.nil,e=>by simp at e
 |_,_,0,_,.cons r _,e=>by simp at e;subst e;exact⟨_,rfl,r⟩
 |_,_,i+1,x,.cons _ t,e=>by
  obtain⟨u,h1,h2⟩:=Vals.get (i:=i) (x:=x) t (by simpa using e);exact⟨u,by simpa using h1,h2⟩
theorem Vals.append:∀{xs ys:List V}{us ws:List Value},Vals xs us->Vals ys ws->Vals (xs++ys) (us++ws)
 |_,_,_,_,.nil,s=>s
 |_,_,_,_,.cons r t,s=>.cons r (Vals.append t s)
theorem Vals.take:∀{xs:List V}{us:List Value}(n:Nat),Vals xs us->Vals (xs.take n) (us.take n)
 |_,_,0,_=>.nil
 |_,_,_+1,.nil=>.nil
 |_,_,n+1,.cons r t=>.cons r (Vals.take n t)
theorem Vals.drop:∀{xs:List V}{us:List Value}(n:Nat),Vals xs us->Vals (xs.drop n) (us.drop n)
 |_,_,0,r=>r
 |_,_,_+1,.nil=>.nil
 |_,_,n+1,.cons _ t=>Vals.drop n t
noncomputable def IP:Option V->Option Value->Prop
 |some v,some u=>RelV v u
 |none,none=>True
 |_,_=>False
noncomputable def KV{κ:Type}:List (κ×V)->List (κ×Value)->Prop:=Paired λ(p:κ×V) (q:κ×Value)=>p.1=q.1/\RelV p.2 q.2
noncomputable def kV:Key->V
 |.inl i=>.int i
 |.inr x=>.str x
inductive HO where
 |lst (xs:List V)
 |tup (xs:List V)
 |dK (kvs:List (Key×V))|dT (kvs:List (List Key×V))
 |set (S:Int->Bool) (n:Nat)
 |ins (C dx:Addr) (fs:List (Str×V))
 |own (x:Addr)
 |xd (fs:List (Str×V))
 |met (f x:Addr)
 |g8 (lo hi:Int)
 |bS (o:Obj) (u:HO)
 |rQ (ps:Array Value)
 |ext (φ:Heap->Prop)
abbrev Hp:=Addr->Option HO
noncomputable def upd(H:Hp)(a:Addr)(o:HO):Hp:=λb=>if b=a then some o else H b
theorem eG{H:Hp}{a:Addr}{o:HO}:upd H a o a=some o:=by unfold upd;rw[if_pos rfl]
theorem bz{H:Hp}{a b:Addr}{o:HO}(h:b≠a):upd H a o b=H b:=by unfold upd;rw[if_neg h]
theorem pP{H:Hp}{a b:Addr}{o u:HO}(h:H a=some o)(h':H b=some u)(d:o≠u):a≠b:=by
 intro e;subst e;rw[h]at h';exact d (Option.some.inj h')
theorem bU{H:Hp}{a b:Addr}{o:HO}(h:H a=some o)(h':H b=none):a≠b:=by
 intro e;subst e;rw[h]at h';cases h'
section
variable(P:Program)(w:World)
noncomputable def fG(H:Hp)(h:Heap)(a:Addr):HO->Prop
 |.lst xs=>xs.length<=sizeLine/\∃(its:List Value) (n:Nat),Vals xs its/\h.get? a=some { cls:=.type "list",data:=.seq its.toArray n }
 |.tup xs=>xs.length<=sizeLine/\∃its:List Value,Vals xs its/\IsTup h a its.toArray
 |.dK kvs=>kvs.length<=sizeLine/\(a==sysModules)=false/\∃vs,KV kvs vs/\h.DictOf (qK P w) a vs
 |.dT kvs=>kvs.length<=sizeLine/\(a==sysModules)=false/\∃xs:List (List Key×Addr×Value),
   Paired (λ(p:List Key×V) (q:List Key×Addr×Value)=>p.1=q.1/\H q.2.1=some (.tup (p.1.map kV))/\RelV p.2 q.2.2) kvs xs/\
   ∃o es ep,h.get? a=some o/\o.ExactDict/\o.data=.dict es ep/\es.toList=xs.map (entryOfKey (tupleKind (qK P w)))/\(xs.map (·.1)).Nodup
 |.set S n=>h.SetOf (intKind P w) a S n
 |.ins C dx fs=>H dx=some (.own a)/\fs.length<=1000/\dx≠a/\h.get? a=some (PySem.W.instObj C dx)/\
   ∃mA,h.Ns1 dx mA/\(∀f,IP (fs.lookup f) (mA f))/\PySem.Within mA (fs.map (·.1))
 |.own _=>∃o,h.get? a=some o
 |.xd fs=>∃mA,h.Ns1 a mA/\∀f,IP (fs.lookup f) (mA f)
 |.g8 lo hi=>∃t u v,h.get? a=some { cls:=.type "range",data:=.fields #[.int lo t,.int hi u,.int 1 v]}
 |.bS o u=>h.get? a=some o/\fG H h a u
 |.rQ ps=>h.get? a=some { cls:=.none,data:=.fields ps }
 |.met f x=>h.get? a=some (PySem.W.methodObj (.ref f) (.ref x))
 |.ext φ=>φ h/\(∃o,h.get? a=some o)/\∀h1 h2:Heap,φ h1->(∀o,h1.get? a=some o->h2.get? a=some o)->φ h2
noncomputable def eK(H:Hp)(h:Heap):Prop:=∀a o,H a=some o->fG P w H h a o
end
section
variable{P:Program}{w:World}{H H':Hp}{h h':Heap}{a:Addr}{o:HO}
theorem fG.lt(x:fG P w H h a o):a<h.objs.size:=by
 cases o with
 |lst xs=>obtain⟨_,_,_,_,e⟩:=x;exact Heap.lt_size e
 |tup xs=>obtain⟨_,_,_,p⟩:=x;exact p.lt
 |dK kvs=>obtain⟨_,_,_,_,o,_,_,e,_⟩:=x;exact Heap.lt_size e
 |dT kvs=>obtain⟨_,_,_,_,o,_,_,e,_⟩:=x;exact Heap.lt_size e
 |set S n=>obtain⟨o,_,_,_,e,_⟩:=x;exact Heap.lt_size e
 |ins C dx fs=>obtain⟨_,_,_,e,_⟩:=x;exact Heap.lt_size e
 |own y=>obtain⟨_,e⟩:=x;exact Heap.lt_size e
 |xd fs=>obtain⟨_,⟨_,_,_,e,_⟩,_⟩:=x;exact Heap.lt_size e
 |g8 lo hi=>obtain⟨_,_,_,e⟩:=x;exact Heap.lt_size e
 |bS ob u=>obtain⟨e,_⟩:=x;exact Heap.lt_size e
 |rQ ps=>exact Heap.lt_size (show h.get? a=some _ from x)
 |met f y=>exact Heap.lt_size (show h.get? a=some _ from x)
 |ext φ=>obtain⟨_,⟨_,e⟩,_⟩:=x;exact Heap.lt_size e
theorem Paired.IQ{α β:Type}{F G:α->β->Prop}:∀{l₁:List α}{l₂:List β},Paired F l₁ l₂->(∀a b,F a b->G a b)->Paired G l₁ l₂
 |_,_,.nil,_=>.nil
 |_,_,.cons r t,f=>.cons (f _ _ r) (Paired.IQ t f)
theorem fG.stay(x:fG P w H h a o)(k:∀b u,(b=a\/H b=some (.own a))->h.get? b=some u->h'.get? b=some u)
  (ho:∀b,H b=some (.own a)->H' b=some (.own a)) (ht:∀b xs,H b=some (.tup xs)->H' b=some (.tup xs)):fG P w H' h' a o:=by
 induction o with
 |lst xs=>obtain⟨z,its,n,r,e⟩:=x;exact⟨z,its,n,r,k _ _ (.inl rfl) e⟩
 |tup xs=>obtain⟨z,its,r,ob,e,c⟩:=x;exact⟨z,its,r,ob,k _ _ (.inl rfl) e,c⟩
 |dK kvs=>obtain⟨z,y,vs,r,ob,es,ep,e,c⟩:=x;exact⟨z,y,vs,r,ob,es,ep,k _ _ (.inl rfl) e,c⟩
 |dT kvs=>
  obtain⟨z,y,xs,r,ob,es,ep,e,c⟩:=x;exact⟨z,y,xs,Paired.IQ r λp q z=>⟨z.1,ht _ _ z.2.1,z.2.2⟩,ob,es,ep,k _ _ (.inl rfl) e,c⟩
 |set S n=>obtain⟨ob,es,ep,t,e,c⟩:=x;exact⟨ob,es,ep,t,k _ _ (.inl rfl) e,c⟩
 |ins C dx fs=>
  obtain⟨d,z,ne,e,mA,⟨od,es,ep,e2,c⟩,r⟩:=x;exact⟨ho _ d,z,ne,k _ _ (.inl rfl) e,mA,⟨od,es,ep,k _ _ (.inr d) e2,c⟩,r⟩
 |own y=>obtain⟨ob,e⟩:=x;exact⟨ob,k _ _ (.inl rfl) e⟩
 |xd fs=>obtain⟨mA,⟨od,es,ep,e,c⟩,r⟩:=x;exact⟨mA,⟨od,es,ep,k _ _ (.inl rfl) e,c⟩,r⟩
 |g8 lo hi=>obtain⟨t,u,v,e⟩:=x;exact⟨t,u,v,k _ _ (.inl rfl) e⟩
 |bS ob u ih=>obtain⟨e,q⟩:=x;exact⟨k _ _ (.inl rfl) e,ih q⟩
 |rQ ps=>
  have e:h.get? a=some { cls:=.none,data:=.fields ps }:=x;show h'.get? a=some { cls:=.none,data:=.fields ps };exact k a _ (.inl rfl) e
 |met f y=>
  have e:h.get? a=some (PySem.W.methodObj (.ref f) (.ref y)):=x;show h'.get? a=some (PySem.W.methodObj (.ref f) (.ref y));exact k a _ (.inl rfl) e
 |ext φ=>obtain⟨p,⟨o,e⟩,st⟩:=x;exact⟨st _ _ p λo q=>k _ _ (.inl rfl) q,⟨o,k _ _ (.inl rfl) e⟩,st⟩
theorem eK.lt(x:eK P w H h)(e:H a=some o):a<h.objs.size:=(x a o e).lt
theorem eK.fresh(x:eK P w H h)(e:h.objs.size<=a):H a=none:=by
 cases q:H a with
 |none=>rfl
 |some u=>exact absurd (Nat.lt_of_lt_of_le (x.lt q) e) (Nat.lt_irrefl _)
theorem eK.kept(x:eK P w H h)(k:∀b u,h.get? b=some u->h'.get? b=some u):eK P w H h':=λa o e=>
 (x a o e).stay (λb u _ q=>k b u q) (λ_ q=>q) λ_ _ q=>q
theorem eK.laid(x:eK P w H h)(k:∀b u,h.get? b=some u->h'.get? b=some u)(hp:h.objs.size<=a)(new:fG P w (upd H a o) h' a o):eK P w (upd H a o) h':=λb u e=>by
 have hn:=x.fresh hp;by_cases hb:b=a
 .subst hb;rw[eG]at e;cases e;exact new
 .rw[bz hb]at e;exact(x b u e).stay (λc v _ q=>k c v q) (λc q=>by rw[bz (bU q hn)];exact q) λc xs q=>by rw[bz (bU q hn)];exact q
end
noncomputable def Rd(H:Hp)(a:Addr)(u:HO):Prop:=H a=some u\/∃o,H a=some (.bS o u)
theorem Rd.ok{P:Program}{w:World}{H:Hp}{h:Heap}{a:Addr}{u:HO}(r:Rd H a u)(x:eK P w H h):fG P w H h a u:=by
 rcases r with r|⟨o,r⟩
 .exact x a u r
 .obtain⟨_,q⟩:=x a _ r;exact q
noncomputable def DZ:Option HO->Prop
 |some (.lst _)=>True
 |some (.dK _)=>True
 |some (.dT _)=>True
 |some (.set _ _)=>True
 |some (.ins _ _ _)=>True
 |some (.ext _)=>True
 |_=>False
section
variable{P:Program}{w:World}{H:Hp}{h h':Heap}{x e:Addr}{o':HO}
theorem eK.write(ok:eK P w H h)(mu:DZ (H x))(he:e=x\/H e=some (.own x))(k:∀b u,b≠e->h.get? b=some u->h'.get? b=some u)(wc:∃u,h'.get? e=some u)
  (new:fG P w (upd H x o') h' x o'):eK P w (upd H x o') h':=λb u q=>by
 have IS:∀c y,H c=some (.own y)->c≠x:=λc y r z=>by subst z;rw[r]at mu;exact mu
 have Qs:∀c xs,H c=some (.tup xs)->c≠x:=λc xs r z=>by subst z;rw[r]at mu;exact mu
 by_cases hb:b=x
 .subst hb;rw[eG]at q;cases q;exact new
 .rw[bz hb]at q;by_cases tT:b=e
  .have q':H b=some (.own x):=by
    rcases he with z|z
    .exact absurd (tT.trans z) hb
    .rw[tT];exact z
   rw[q]at q';cases q';obtain⟨v,hv⟩:=wc;exact⟨v,by rw[tT];exact hv⟩
  .refine(ok b u q).stay (λc v hc r=>k c v ?_ r) (λc r=>by rw[bz (IS c b r)];exact r) λc xs r=>by rw[bz (Qs c xs r)];exact r
   rcases hc with rfl|hc
   .exact tT
   .rintro rfl;rcases he with z|z
    .exact IS c b hc z
    .rw[hc]at z;cases z;exact hb rfl
end
structure Un(fs ex:List Addr)(H H':Hp)(h h':Heap):Prop where
 keep:∀b o,h.get? b=some o->H b=none->b∉fs->b∉ex->h'.get? b=some o
 slot:∀b o,h.get? b=some o->H b=none->b∈fs->b∉ex->∃sl,h'.get? b=some { o with slots:=sl }
 free:∀b o,h.get? b=some o->H b=none->b∉ex->H' b=none
 there:∀b o,h.get? b=some o->b∉ex->∃o',h'.get? b=some o'
 tups:∀b xs,H b=some (.tup xs)->H' b=some (.tup xs)
 jC:∀b o u,H b=some (.bS o u)->H' b=some (.bS o u)
 j8:∀b ps,H b=some (.rQ ps)->∃more,H' b=some (.rQ (ps++more))
section
variable{fs fs' ex ex':List Addr}{H H1 H2:Hp}{h h1 h2 h':Heap}{a x e:Addr}{o:HO}
theorem Un.any(u:Un fs ex H H1 h h1){b:Addr}{ob:Obj}(q:h.get? b=some ob)(n:H b=none)(hx:b∉ex):∃sl,h1.get? b=some { ob with slots:=sl }:=by
 by_cases hb:b∈fs
 .exact u.slot b ob q n hb hx
 .exact⟨ob.slots,u.keep b ob q n hb hx⟩
theorem Un.kept(k:∀b u,h.get? b=some u->h'.get? b=some u):Un fs ex H H h h':=
 ⟨λb ob q _ _ _=>k b ob q,λb ob q _ _ _=>⟨ob.slots,k b ob q⟩,λ_ _ _ n _=>n,λb ob q _=>⟨ob,k b ob q⟩,λ_ _ q=>q,λ_ _ _ q=>q,λ_ ps q=>⟨#[],by rw[q];simp⟩⟩
theorem Un.refl:Un fs ex H H h h:=Un.kept λ_ _ q=>q
theorem Un.laid(k:∀b u,h.get? b=some u->h'.get? b=some u)(hp:h.objs.size<=a)(hn:H a=none):Un fs ex H (upd H a o) h h' where
 keep:=λb u q _ _ _=>k b u q
 slot:=λb u q _ _ _=>⟨u.slots,k b u q⟩
 free:=λb u q n _=>by rw[bz (Nat.ne_of_lt (Nat.lt_of_lt_of_le (Heap.lt_size q) hp))];exact n
 there:=λb u q _=>⟨u,k b u q⟩
 tups:=λb xs q=>by rw[bz (bU q hn)];exact q
 jC:=λb u xs q=>by rw[bz (bU q hn)];exact q
 j8:=λb ps q=>⟨#[],by rw[bz (bU q hn),q];simp⟩
theorem Un.write(mu:DZ (H x))(he:e=x\/H e=some (.own x))(k:∀b u,b≠e->h.get? b=some u->h'.get? b=some u)(wc:∃u,h'.get? e=some u):Un fs ex H (upd H x o) h h':=by
 have hx:∀b,H b=none->b≠x:=λb n z=>by subst z;rw[n]at mu;exact mu
 have hb:∀b,H b=none->b≠e:=λb n z=>by
  subst z;rcases he with r|r
  .exact hx b n r
  .rw[n]at r;cases r
 have hm:∀b u,H b=some u->¬ DZ (some u)->b≠x:=λb u q nm z=>by subst z;rw[q]at mu;exact nm mu
 refine⟨λb u q n _ _=>k b u (hb b n) q,λb u q n _ _=>⟨u.slots,k b u (hb b n) q⟩,λb u q n _=>by rw[bz (hx b n)];exact n,λb u q _=>?_,
  λb xs q=>by rw[bz (hm b _ q λz=>z)];exact q,λb u xs q=>by rw[bz (hm b _ q λz=>z)];exact q,λb ps q=>⟨#[],by rw[bz (hm b _ q λz=>z),q];simp⟩⟩
 by_cases tT:b=e
 .subst tT;exact wc
 .exact⟨u,k b u tT q⟩
end
noncomputable def D4(h:Heap)(H:Hp):List Addr:=(List.range h.objs.size).filter λa=>(H a).isSome
noncomputable def kX(h:Heap)(H:Hp):Heap:=PySem.W.hideAll h (D4 h H)
theorem zO(h:Heap)(H:Hp):(kX h H).objs.size=h.objs.size:=PySem.W.hideAll_size _ _
theorem Ca{h:Heap}{H:Hp}{b:Addr}{o:Obj}(e:h.get? b=some o)(n:H b=none):(kX h H).get? b=some o:=
 PySem.W.hideAll_get _ e λhm=>by
  have q:(H b).isSome=true:=(List.mem_filter.mp hm).2;rw[n]at q;simp at q
theorem FU{h:Heap}{H:Hp}{b:Addr}{o:Obj}(e:(kX h H).get? b=some o):h.get? b=some o/\H b=none:=by
 have e':h.get? b=some o:=PySem.W.of_hideAll (D4 h H) e;refine⟨e',?_⟩;cases q:H b with
 |none=>rfl
 |some x=>
  have hm:b∈D4 h H:=List.mem_filter.mpr ⟨List.mem_range.mpr (Heap.lt_size e'),by simp[q]⟩;have z:(kX h H).get? b=none:=PySem.W.hideAll_none (D4 h H) hm;rw[z]at e;cases e
noncomputable def FY(g h:Heap)(L:Addr):List (Addr×Obj):=(List.range h.objs.size).filterMap λa=>if a=L\/(g.get? a).isSome=true then none else (h.get? a).map λo=>(a,o)
noncomputable def rest(g h:Heap)(L d:Addr):List (Addr×Obj):=(FY g h L).filter λp=>decide (p.1≠d)
end L2
namespace L2
open PySem PySem.Spec PyProof.Rows
structure Mod(K:PySem.W.Frag)(mg:Str->Option Value)(base:Heap):Prop where
 cY:K.In base
 glob:base.Ns mainGlobals mg
 blt:∃mb,base.Ns builtinsNs mb/\∀x:Str,x≠"__name__" ->mb x=bootBuiltins x
 nolimit:base.NoLimit
structure Cx where
 prog:Program
 w:World
 K:PySem.W.Frag
 mg:Str->Option Value
 base:Heap
 A:Around
 N:List Str
 s₀:Shared
 H₀:Hp
 env:Env
 outer:List Env
 stack:List Env
 ex:List Addr
 fn:Str->Bool
 calm:Bool
 pn:List (Addr×Obj)
 xe:Value->Shared->Prop
noncomputable def frs(l:List Env):List Addr:=l.filterMap (·.frame)
noncomputable abbrev Cx.fs(X:Cx):List Addr:=frs X.outer
noncomputable def rR(sc:Scope)(x:Str):Prop:=sc.names.lookup x=some .local\/sc.names.lookup x=some .cell\/sc.names.lookup x=some .free
noncomputable def Loc(sc:Scope)(x:Str):Prop:=sc.names.lookup x=some .local\/sc.names.lookup x=some .cell
noncomputable def Look(env:Env)(h:Heap)(m:Str->Option Value)(x:Str)(u:Value):Prop:=
 (env.kindOf x=some .local/\m x=some u)\/((env.kindOf x=some .cell\/env.kindOf x=some .free)/\∃c,env.cells.lookup x=some c/\h.IsCell c (some u))
structure Cx.Ok(X:Cx):Prop where
 mod:Mod X.K X.mg X.base
 kind:X.env.scope.kind=.function
 glob:X.env.globals=mainGlobals
 blt:X.env.builtins=builtinsNs
 above:X.s₀.heap.objs.size<=X.env.locals
 inj:∀x y c,X.env.cells.lookup x=some c->X.env.cells.lookup y=some c->x=y
 has:∀x,(X.env.kindOf x=some .cell\/X.env.kindOf x=some .free)->∃c,X.env.cells.lookup x=some c
 tU:∀x c,X.fn x=true->X.env.cells.lookup x=some c->X.s₀.heap.objs.size<=c
 hd:X.calm=true->X.A.handled=none
 frames:X.A.frames=some X.stack
 stk:X.stack=X.outer\/(X.stack=X.env :: X.outer/\X.env.frame=some X.env.locals)
 zP:∀b∈X.ex,b≠X.env.locals/\∀x c,X.env.cells.lookup x=some c->c≠b
 bs:∀b o,X.base.get? b=some o->X.s₀.heap.get? b=some o/\X.H₀ b=none
 mC:X.base.objs.size<=X.s₀.heap.objs.size
 oX:∀b o,X.base.get? b=some o->b∉X.ex
 oY:∀b∈X.ex,b∉X.fs
 gH:X.s₀.heap.FunFrames X.base X.outer
 oq:∀b∈X.fs,X.H₀ b=none
structure Inv(X:Cx)(pins:List (Addr×Obj))(σ:List (Option V))(H:Hp)(s:Shared):Prop where
 ok:X.Ok
 os:s.os=X.s₀.os
 bare:AllBare s.gens
 base:Un X.fs X.ex X.H₀ H X.s₀.heap s.heap
 loc:∃m,s.heap.Ns X.env.locals m/\∀(i:Nat) (x:Str) (v:V),X.N[i]?=some x->σ[i]?=some (some v)->rR X.env.scope x->∃u,RelV v u/\Look X.env s.heap m x u
 cell:∀x c,X.env.cells.lookup x=some c->∃v,s.heap.IsCell c v
 free:H X.env.locals=none
 gy:∀x c,X.env.cells.lookup x=some c->H c=none
 pin:∀p∈X.pn++pins,s.heap.get? p.1=some p.2/\H p.1=none/\p.1≠X.env.locals/\p.1∉X.fs/\∀v,p.2.data≠.cell v
 hok:eK X.prog X.w H s.heap
 len:σ.length=X.N.length
section
variable{X:Cx}{pins:List (Addr×Obj)}{σ:List (Option V)}{H H':Hp}{s:Shared}{h':Heap}
theorem Cx.Ok.Qt(ok:X.Ok){b:Addr}{o:Obj}(e:X.base.get? b=some o):b∉X.fs:=λhb=>by
 have:=(ok.gH.mem hb).1;rw[e]at this;cases this
theorem Inv.bs(I:Inv X pins σ H s):∀b o,X.base.get? b=some o->s.heap.get? b=some o/\H b=none:=λb o e=>
 ⟨I.base.keep b o (I.ok.bs b o e).1 (I.ok.bs b o e).2 (I.ok.Qt e) (I.ok.oX b o e),I.base.free b o (I.ok.bs b o e).1 (I.ok.bs b o e).2 (I.ok.oX b o e)⟩
theorem Inv.bk(I:Inv X pins σ H s):∀b o,X.base.get? b=some o->s.heap.get? b=some o:=λb o e=>(I.bs b o e).1
theorem Inv.mod(I:Inv X pins σ H s):Mod X.K X.mg X.base:=I.ok.mod
theorem Inv.jD(I:Inv X pins σ H s):X.K.In s.heap:=I.ok.mod.cY.keeps I.bk
theorem Inv.lt(I:Inv X pins σ H s):X.env.locals<s.heap.objs.size:=let ⟨_,hn,_⟩:=I.loc;hn.lt
theorem Inv.sz(I:Inv X pins σ H s):X.s₀.heap.objs.size<=s.heap.objs.size:=Nat.le_trans I.ok.above (Nat.le_of_lt I.lt)
theorem Inv.Qu(I:Inv X pins σ H s){a:Addr}(h:s.heap.objs.size<=a):a∉X.fs:=λhb=>by
 obtain⟨_,o,ho,_⟩:=I.ok.gH.mem hb;exact absurd (Nat.lt_of_lt_of_le (Heap.lt_size ho) (Nat.le_trans I.sz h)) (Nat.lt_irrefl _)
theorem Inv.mD(I:Inv X pins σ H s):∀x c,X.env.cells.lookup x=some c->c≠X.env.locals:=λx c e z=>by
 obtain⟨v,o,ho,hd⟩:=I.cell x c e;obtain⟨m,⟨o',es,ep,ho',hd',_⟩,_⟩:=I.loc;rw[z,ho']at ho;cases ho;rw[hd']at hd;cases hd
theorem Inv.gH(I:Inv X pins σ H s):s.heap.FunFrames X.base X.outer:=by
 have all:∀(l:List Env),(∀b∈frs l,b∈X.fs)->X.s₀.heap.FunFrames X.base l->s.heap.FunFrames X.base l:=by
  intro l;induction l with
  |nil=>intro _ _;trivial
  |cons env r ih=>
   intro hs hl;obtain⟨hk,⟨L,o,hf,hn,ho,hd⟩,hr⟩:=hl;have hL:L∈X.fs:=hs L (by unfold frs;rw[List.filterMap_cons,hf];exact List.mem_cons_self);obtain⟨sl,e⟩:=I.base.slot L o ho (I.ok.oq L hL) hL λz=>I.ok.oY L z hL;exact⟨hk,⟨L,_,hf,hn,e,hd⟩,ih (λb hb=>hs b (by unfold frs;rw[List.filterMap_cons,hf];exact List.mem_cons_of_mem _ hb)) hr⟩
 exact all X.outer (λ_ hb=>hb) I.ok.gH
theorem Inv.stack(I:Inv X pins σ H s):s.heap.FunFrames X.base X.stack:=by
 rcases I.ok.stk with e|⟨e,hf⟩
 .rw[e];exact I.gH
 .rw[e];obtain⟨m,hn,_⟩:=I.loc;refine .cons (by rw[I.ok.kind];decide) hf hn ?_ I.gH;exact Heap.get?_none_of_le (Nat.le_trans I.ok.mC I.ok.above)
theorem Inv.pQ(I:Inv X pins σ H s):∀b∈frs X.stack,b∈X.env.locals :: X.fs:=λb hb=>by
 rcases I.ok.stk with e|⟨e,hf⟩
 .rw[e]at hb;exact List.mem_cons_of_mem _ hb
 .rw[e]at hb;unfold frs at hb;rw[List.filterMap_cons,hf]at hb;exact hb
theorem Inv.qL(I:Inv X pins σ H s):∀b∈frs X.stack,H b=none:=λb hb=>by
 rcases List.mem_cons.mp (I.pQ b hb)with e|hb
 .rw[e];exact I.free
 .obtain⟨_,o,ho,_⟩:=I.ok.gH.mem hb;exact I.base.free b o ho (I.ok.oq b hb) λz=>I.ok.oY b z hb
theorem Inv.step{g':Array GenState}{t':Nat}{d':Drawn}{ch:List Addr}(I:Inv X pins σ H s)
  (hch:∀b∈ch,(b∈X.ex\/X.s₀.heap.objs.size<=b)/\b≠X.env.locals/\(∀x c,X.env.cells.lookup x=some c->c≠b)/\∀p∈X.pn++pins,p.1≠b)
  (keep:∀b o,b≠X.env.locals->b∉X.fs->b∉ch->s.heap.get? b=some o->H b=none->h'.get? b=some o)
  (slot:∀b o,b≠X.env.locals->b∈X.fs->b∉ch->s.heap.get? b=some o->H b=none->∃sl,h'.get? b=some { o with slots:=sl }) (free:∀b o,b∉ch->s.heap.get? b=some o->H b=none->H' b=none)
  (there:∀b o,b∉ch->s.heap.get? b=some o->∃o',h'.get? b=some o')
  (tups:∀b xs,H b=some (.tup xs)->H' b=some (.tup xs)) (jC:∀b o u,H b=some (.bS o u)->H' b=some (.bS o u)) (j8:∀b ps,H b=some (.rQ ps)->∃more,H' b=some (.rQ (ps++more)))
  (ns:∀m,s.heap.Ns X.env.locals m->h'.Ns X.env.locals m) (hok:eK X.prog X.w H' h') (hg:AllBare g') :
  Inv X pins σ H' { s with heap:=h',gens:=g',drawn:=d',toks:=t' }:=by
 have Pg:∀b o,X.s₀.heap.get? b=some o->b≠X.env.locals:=λb o e=>Nat.ne_of_lt (Nat.lt_of_lt_of_le (Heap.lt_size e) I.ok.above);have D5:∀b o,X.s₀.heap.get? b=some o->b∉X.ex->b∉ch:=λb o e hx hb=>by
  rcases(hch b hb).1 with z|z
  .exact hx z
  .exact absurd (Nat.lt_of_lt_of_le (Heap.lt_size e) z) (Nat.lt_irrefl _)
 have cellK:∀x c,X.env.cells.lookup x=some c->∀v,s.heap.IsCell c v->h'.IsCell c v:=λx c e v ⟨o,ho,hd⟩=>by
  have zQ:c∉ch:=λz=>(hch c z).2.2.1 x c e rfl;by_cases hc:c∈X.fs
  .obtain⟨sl,q⟩:=slot c o (I.mD x c e) hc zQ ho (I.gy x c e);exact⟨_,q,hd⟩
  .exact⟨o,keep c o (I.mD x c e) hc zQ ho (I.gy x c e),hd⟩
 refine⟨I.ok,I.os,hg,⟨λb o e n hb hx=>?_,λb o e n hb hx=>?_,λb o e n hx=>?_,λb o e hx=>?_,λb xs e=>tups b xs (I.base.tups b xs e),λb o xs e=>jC b o xs (I.base.jC b o xs e),λb ps e=>?_⟩,?_,λx c e=>?_,?_,λx c e=>?_,λp hp=>?_,hok,I.len⟩
 .exact keep b o (Pg b o e) hb (D5 b o e hx) (I.base.keep b o e n hb hx) (I.base.free b o e n hx)
 .obtain⟨sl,e1⟩:=I.base.slot b o e n hb hx;obtain⟨Sj,e2⟩:=slot b _ (Pg b o e) hb (D5 b o e hx) e1 (I.base.free b o e n hx);exact⟨Sj,e2⟩
 .obtain⟨o',e1⟩:=I.base.there b o e hx;exact free b o' (D5 b o e hx) e1 (I.base.free b o e n hx)
 .obtain⟨o',e1⟩:=I.base.there b o e hx;exact there b o' (D5 b o e hx) e1
 .obtain⟨m1,e1⟩:=I.base.j8 b ps e;obtain⟨m2,e2⟩:=j8 b _ e1;exact⟨m1++m2,by rw[e2,Array.append_assoc]⟩
 .obtain⟨m,hn,hl⟩:=I.loc;refine⟨m,ns m hn,λi x v e1 e2 e3=>?_⟩;obtain⟨u,r,l⟩:=hl i x v e1 e2 e3;refine⟨u,r,?_⟩;rcases l with l|⟨k,c,e,z⟩
  .exact .inl l
  .exact .inr ⟨k,c,e,cellK x c e _ z⟩
 .obtain⟨v,z⟩:=I.cell x c e;exact⟨v,cellK x c e v z⟩
 .obtain⟨m,⟨o,_,_,ho,_⟩,_⟩:=I.loc;exact free _ o (λz=>(hch _ z).2.1 rfl) ho I.free
 .obtain⟨v,o,ho,hd⟩:=I.cell x c e;exact free c o (λz=>(hch c z).2.2.1 x c e rfl) ho (I.gy x c e)
 .obtain⟨e,n,ne,nf,d⟩:=I.pin p hp;have zQ:p.1∉ch:=λz=>(hch p.1 z).2.2.2 p hp rfl;exact⟨keep p.1 p.2 ne nf zQ e n,free p.1 p.2 zQ e n,ne,nf,d⟩
theorem Inv.un{t':Nat}(I:Inv X pins σ H s)(u:Un X.fs [] H H' s.heap h')(hok:eK X.prog X.w H' h'):Inv X pins σ H' { s with heap:=h',toks:=t' }:=by
 obtain⟨m,⟨o,es,ep,ho,r⟩,_⟩:=id I.loc;obtain⟨sl,hL⟩:=u.any ho I.free (by simp);exact I.step (g':=s.gens) (d':=s.drawn) (ch:=[]) (λ_ z=>nomatch z) (λb o _ hb _ e n=>u.keep b o e n hb (by simp)) (λb o _ hb _ e n=>u.slot b o e n hb (by simp)) (λb o _ e n=>u.free b o e n (by simp)) (λb o _ e=>u.there b o e (by simp)) u.tups u.jC u.j8 (λm' hm=>by
  obtain⟨o',es',IT,ho',r'⟩:=hm;rw[ho]at ho';cases ho';exact⟨_,es',IT,hL,r'⟩) hok I.bare
theorem Inv.call{g':Array GenState}{t':Nat}{d':Drawn}{ch:List Addr}(I:Inv X pins σ H s)(u:Un (frs X.stack) ch H H' s.heap h')(hok:eK X.prog X.w H' h')(hg:AllBare g')
  (hch:∀b∈ch,(b∈X.ex\/X.s₀.heap.objs.size<=b)/\b≠X.env.locals/\(∀x c,X.env.cells.lookup x=some c->c≠b)/\∀p∈X.pn++pins,p.1≠b) :
  Inv X pins σ H' { s with heap:=h',gens:=g',drawn:=d',toks:=t' }:=by
 obtain⟨m,⟨o,es,ep,ho,r⟩,_⟩:=id I.loc;obtain⟨sl,hL⟩:=u.any ho I.free λz=>(hch _ z).2.1 rfl;exact I.step (ch:=ch) hch (λb o hL hb hc e n=>u.keep b o e n (λz=>(List.mem_cons.mp (I.pQ b z)).elim hL hb) hc) (λb o _ _ hc e n=>u.any e n hc) (λb o hc e n=>u.free b o e n hc) (λb o hc e=>u.there b o e hc) u.tups u.jC u.j8 (λm' hm=>by
  obtain⟨o',es',IT,ho',r'⟩:=hm;rw[ho]at ho';cases ho';exact⟨_,es',IT,hL,r'⟩) hok hg
theorem Inv.turned{t':Nat}{it:Addr}(I:Inv X pins σ H s)(k:∀b o,b≠it->s.heap.get? b=some o->h'.get? b=some o)(hn:H it=none)(hL:it≠X.env.locals)
  (h1:it∈X.ex\/X.s₀.heap.objs.size<=it) (h2:∀x c,X.env.cells.lookup x=some c->c≠it) (h3:∀p∈X.pn++pins,p.1≠it):Inv X pins σ H { s with heap:=h',toks:=t' }:=by
 have Ph:∀b u,H b=some u->b≠it:=λb u e z=>by rw[z,hn]at e;cases e
 refine I.step (g':=s.gens) (d':=s.drawn) (ch:=[it]) (λb hb=>?_) (λb o _ _ hc e _=>k b o (λz=>hc (by simp[z])) e) (λb o _ _ hc e _=>⟨o.slots,k b o (λz=>hc (by simp[z])) e⟩) (λ_ _ _ _ n=>n)
  (λb o hc e=>⟨o,k b o (λz=>hc (by simp[z])) e⟩) (λ_ _ e=>e) (λ_ _ _ e=>e) (λb ps e=>⟨#[],by rw[e];simp⟩) (λm hm=>?_) (λb u e=>?_) I.bare
 .have e:b=it:=by simpa using hb
  subst e;exact⟨h1,hL,h2,h3⟩
 .obtain⟨o,es,ep,ho,r⟩:=hm;exact⟨o,es,ep,k _ o (Ne.symm hL) ho,r⟩
 .refine(I.hok b u e).stay (λc v hc q=>k c v ?_ q) (λ_ q=>q) λ_ _ q=>q;rcases hc with z|z
  .rw[z];exact Ph b u e
  .exact Ph c _ z
theorem Inv.tok(I:Inv X pins σ H s)(t:Nat):Inv X pins σ H { s with toks:=t }:=I.un (h':=s.heap) (t':=t) Un.refl I.hok
theorem Inv.kept{t':Nat}(I:Inv X pins σ H s)(k:∀b u,s.heap.get? b=some u->h'.get? b=some u):Inv X pins σ H { s with heap:=h',toks:=t' }:=I.un (Un.kept k) (I.hok.kept k)
theorem Inv.laid{a:Addr}{o:HO}{t':Nat}(I:Inv X pins σ H s)(k:∀b u,s.heap.get? b=some u->h'.get? b=some u)(hp:s.heap.objs.size<=a)(new:fG X.prog X.w (upd H a o) h' a o) :
  Inv X pins σ (upd H a o) { s with heap:=h',toks:=t' }:=I.un (Un.laid k hp (I.hok.fresh hp)) (I.hok.laid k hp new)
theorem Inv.write{x e:Addr}{o:HO}{t':Nat}(I:Inv X pins σ H s)(mu:DZ (H x))(he:e=x\/H e=some (.own x))(k:∀b u,b≠e->s.heap.get? b=some u->h'.get? b=some u)(wc:∃u,h'.get? e=some u)
  (new:fG X.prog X.w (upd H x o) h' x o):Inv X pins σ (upd H x o) { s with heap:=h',toks:=t' }:=I.un (Un.write mu he k wc) (I.hok.write mu he k wc new)
theorem Inv.we{D6:List (Addr×Obj)}(I:Inv X pins σ H s)(h:∀p∈D6,s.heap.get? p.1=some p.2/\H p.1=none/\p.1≠X.env.locals/\p.1∉X.fs/\∀v,p.2.data≠.cell v):Inv X D6 σ H s:=
 ⟨I.ok,I.os,I.bare,I.base,I.loc,I.cell,I.free,I.gy,λp hp=>(List.mem_append.mp hp).elim (λz=>I.pin p (List.mem_append_left _ z)) (h p),I.hok,I.len⟩
theorem oZ{N:List Str}(hN:N.Nodup){i j:Nat}{x:Str}(a:N[i]?=some x)(b:N[j]?=some x):i=j:=by
 obtain⟨h1,e1⟩:=List.getElem?_eq_some_iff.mp a;obtain⟨h2,e2⟩:=List.getElem?_eq_some_iff.mp b;exact(List.getElem_inj hN).mp (e1.trans e2.symm)
theorem rS{M:Model}{A:Around}{E:Value->Shared->Prop}{i:Nat}{x:Str}{v:V}{u:Value}{Q:Unit->Shared->Prop}(I:Inv X pins σ H s)(hN:X.N.Nodup)(hi:X.N[i]?=some x)(hx:Loc X.env.scope x)(r:RelV v u)
  (h:∀s',Inv X pins (σ.set i (some v)) H s'->(∃a,Heap.SameBut a s.heap s'.heap/\(a=X.env.locals\/X.env.cells.lookup x=some a))->Q () s') (hf:X.fn x=true\/X.env.scope.names.lookup x=some .local:=by first|exact .inl rfl|exact .inr rfl|assumption):wpAny M A (storeName X.env x u) Q E s:=by
 obtain⟨m,hn,hl⟩:=id I.loc;have hcls:(X.env.scope.kind==.class || (X.env.scope.kind==.module&&X.env.locals != X.env.globals))=false:=by rw[I.ok.kind];rfl
 have yl:i<σ.length:=by rw[I.len];exact(List.getElem?_eq_some_iff.mp hi).1
 have mD:=I.mD;have tracked:∀{a:Addr} {h':Heap},(∃o,s.heap.get? a=some o/\H a=none)->Heap.SameBut a s.heap h'->eK X.prog X.w H h':=λ{a h'} ha hs b ob e=>by
  obtain⟨_,_,hfree⟩:=ha;refine(I.hok b ob e).stay (λc w' hc q=>(hs.2 c ?_).trans q) (λ_ q=>q) λ_ _ q=>q;rintro rfl;rcases hc with rfl|hc
  .rw[hfree]at e;cases e
  .rw[hfree]at hc;cases hc
 rcases hx with hk|hk
 .refine wpAny_storeName_local hk hn (λh' hn' hs=>?_) hcls;obtain⟨oL,_,_,Pj,_⟩:=id hn;refine h _ ⟨I.ok,I.os,I.bare,⟨λb o e n hb hx=>?_,λb o e n hb hx=>?_,I.base.free,λb o e hx=>?_,I.base.tups,I.base.jC,I.base.j8⟩,⟨_,hn',λj y v' e1 e2 e3=>?_⟩,λy c e=>?_,I.free,I.gy,λp hp=>?_,tracked ⟨oL,Pj,I.free⟩ hs,by simpa using I.len⟩ ⟨_,hs,.inl rfl⟩
  .exact(hs.2 b (Nat.ne_of_lt (Nat.lt_of_lt_of_le (Heap.lt_size e) I.ok.above))).trans (I.base.keep b o e n hb hx)
  .obtain⟨sl,e1⟩:=I.base.slot b o e n hb hx;exact⟨sl,(hs.2 b (Nat.ne_of_lt (Nat.lt_of_lt_of_le (Heap.lt_size e) I.ok.above))).trans e1⟩
  .obtain⟨o',e1⟩:=I.base.there b o e hx;exact⟨o',(hs.2 b (Nat.ne_of_lt (Nat.lt_of_lt_of_le (Heap.lt_size e) I.ok.above))).trans e1⟩
  .by_cases hj:j=i
   .subst hj;rw[hi]at e1;cases e1;rw[List.getElem?_set_self yl]at e2;cases e2;exact⟨u,r,.inl ⟨hk,by simp⟩⟩
   .rw[List.getElem?_set_ne (Ne.symm hj)]at e2;obtain⟨u',r',q⟩:=hl j y v' e1 e2 e3;refine⟨u',r',?_⟩;rcases q with ⟨k,e⟩|⟨k,c,e,z⟩
    .refine .inl ⟨k,?_⟩;have:y≠x:=λe=>hj (oZ hN e1 (e▸hi));simp[this,e]
    .exact .inr ⟨k,c,e,z.sameBut hs (mD y c e)⟩
  .obtain⟨w',z⟩:=I.cell y c e;exact⟨w',z.sameBut hs (mD y c e)⟩
  .obtain⟨e,n,ne,nf,d⟩:=I.pin p hp;exact⟨(hs.2 p.1 ne).trans e,n,ne,nf,d⟩
 .have hfn:X.fn x=true:=by
   rcases hf with z|z
   .exact z
   .rw[z]at hk;cases hk
  obtain⟨c,hc⟩:=I.ok.has x (.inl hk);obtain⟨w',z⟩:=I.cell x c hc;refine wpAny_storeName_cell I.ok.kind hk hc z (λh' hc' hs=>?_);obtain⟨oc,hoc,Qv⟩:=id z;refine h { s with heap:=h' } ⟨I.ok,I.os,I.bare,⟨λb o e n hb hx=>?_,λb o e n hb hx=>?_,I.base.free,λb o e hx=>?_,I.base.tups,I.base.jC,I.base.j8⟩,⟨m,hn.sameBut hs (Ne.symm (mD x c hc)),λj y v' e1 e2 e3=>?_⟩,λy c' e=>?_,I.free,I.gy,λp hp=>?_,tracked ⟨oc,hoc,I.gy x c hc⟩ hs,by simpa using I.len⟩ ⟨c,hs,.inr hc⟩
  .exact(hs.2 b (Nat.ne_of_lt (Nat.lt_of_lt_of_le (Heap.lt_size e) (I.ok.tU x c hfn hc)))).trans (I.base.keep b o e n hb hx)
  .obtain⟨sl,e1⟩:=I.base.slot b o e n hb hx;exact⟨sl,(hs.2 b (Nat.ne_of_lt (Nat.lt_of_lt_of_le (Heap.lt_size e) (I.ok.tU x c hfn hc)))).trans e1⟩
  .obtain⟨o',e1⟩:=I.base.there b o e hx;exact⟨o',(hs.2 b (Nat.ne_of_lt (Nat.lt_of_lt_of_le (Heap.lt_size e) (I.ok.tU x c hfn hc)))).trans e1⟩
  .by_cases hj:j=i
   .subst hj;rw[hi]at e1;cases e1;rw[List.getElem?_set_self yl]at e2;cases e2;exact⟨u,r,.inr ⟨.inl hk,c,hc,hc'⟩⟩
   .rw[List.getElem?_set_ne (Ne.symm hj)]at e2;obtain⟨u',r',q⟩:=hl j y v' e1 e2 e3;refine⟨u',r',?_⟩;rcases q with q|⟨k,c',e,z'⟩
    .exact .inl q
    .refine .inr ⟨k,c',e,z'.sameBut hs ?_⟩;rintro rfl;exact hj (oZ hN e1 (I.ok.inj _ _ _ e hc▸hi))
  .by_cases hcc:c'=c
   .subst hcc;exact⟨_,hc'⟩
   .obtain⟨w2,z2⟩:=I.cell y c' e;exact⟨w2,z2.sameBut hs hcc⟩
  .obtain⟨e,n,ne,nf,d⟩:=I.pin p hp;refine⟨(hs.2 p.1 ?_).trans e,n,ne,nf,d⟩;intro q;rw[q,hoc]at e;have q':oc=p.2:=Option.some.inj e;exact d w' (by rw[<-q'];exact Qv)
theorem o4{M:Model}{A:Around}{E:Value->Shared->Prop}{i:Nat}{x:Str}{v:V}{u:Value}{Q:Unit->Shared->Prop}(I:Inv X pins σ H s)(hN:X.N.Nodup)(hi:X.N[i]?=some x)(hx:Loc X.env.scope x)(r:RelV v u)
  (h:∀s',Inv X pins (σ.set i (some v)) H s'->Q () s') (hf:X.fn x=true\/X.env.scope.names.lookup x=some .local:=by first|exact .inl rfl|exact .inr rfl|assumption):wpAny M A (storeName X.env x u) Q E s:=
 rS I hN hi hx r (λs' I' _=>h s' I') hf
theorem Inv.tF{s':Shared}{ch:List Addr}(I:Inv X pins σ H s)(ho:s'.os=s.os)(u:Un (frs X.stack) ch H H' s.heap s'.heap)(hok:eK X.prog X.w H' s'.heap)(hg:AllBare s'.gens)
  (hch:∀b∈ch,(b∈X.ex\/X.s₀.heap.objs.size<=b)/\b≠X.env.locals/\(∀x c,X.env.cells.lookup x=some c->c≠b)/\∀p∈X.pn++pins,p.1≠b):Inv X pins σ H' s':=by
 obtain⟨h',g',d',t',o'⟩:=s';have e:o'=s.os:=ho;subst e;exact I.call (g':=g') (t':=t') (d':=d') u hok hg hch
end
abbrev XK:=Value->Option Addr->Hp->Prop
abbrev St:=List (Option V)
abbrev VK:=V->Hp->Prop
abbrev TE:=St->Hp->VK->Prop
abbrev TT:=St->Hp->(Bool->Hp->Prop)->Prop
abbrev TA:=St->Hp->(List V->Hp->Prop)->Prop
structure Ends where
 nx:St->Hp->Prop
 rt:VK
 bk:St->Hp->Prop:=λ_ _=>False
 ct:St->Hp->Prop:=λ_ _=>False
abbrev TS:=Ends->St->Hp->Prop
noncomputable def EP(X:Cx)(pins:List (Addr×Obj))(σ:St)(Q:VK)(u:Value)(s':Shared):Prop:=∃v H',Inv X pins σ H' s'/\RelV v u/\Q v H'
noncomputable def TP(X:Cx)(pins:List (Addr×Obj))(σ:St)(Q:Bool->Hp->Prop)(b:Bool)(s':Shared):Prop:=∃H',Inv X pins σ H' s'/\Q b H'
noncomputable def AP(X:Cx)(pins:List (Addr×Obj))(σ:St)(Q:List V->Hp->Prop)(us:List Value)(s':Shared):Prop:=∃vs H',Inv X pins σ H' s'/\Vals vs us/\Q vs H'
noncomputable def SP(X:Cx)(pins:List (Addr×Obj))(D:Ends)(f:Flow)(s':Shared):Prop:=
 match f with
 |.next=>∃σ' H',Inv X pins σ' H' s'/\D.nx σ' H'
 |.brk=>∃σ' H',Inv X pins σ' H' s'/\D.bk σ' H'
 |.cont=>∃σ' H',Inv X pins σ' H' s'/\D.ct σ' H'
 |.ret u=>∃v σ' H',Inv X pins σ' H' s'/\RelV v u/\D.rt v H'
noncomputable def PE(X:Cx)(e:Expr)(t:TE):Prop:=
 ∀(pins:List (Addr×Obj)) (s:Shared) (σ:St) (H:Hp) (Q:VK),Inv X pins σ H s->t σ H Q->wpAny (model X.prog X.w) X.A (eval e X.env) (EP X pins σ Q) X.xe s
noncomputable def PT(X:Cx)(e:Expr)(t:TT):Prop:=
 ∀(pins:List (Addr×Obj)) (s:Shared) (σ:St) (H:Hp) (Q:Bool->Hp->Prop),Inv X pins σ H s->t σ H Q->wpAny (model X.prog X.w) X.A (isTrue e X.env (eval e X.env)) (TP X pins σ Q) X.xe s
noncomputable def PW(X:Cx)(e:Expr)(t:TT):Prop:=
 ∀(whole:Sem Value) (pins:List (Addr×Obj)) (s:Shared) (σ:St) (H:Hp) (Q:Bool->Hp->Prop),Inv X pins σ H s->t σ H Q->wpAny (model X.prog X.w) X.A (isTrue e X.env whole) (TP X pins σ Q) X.xe s
theorem PW.pt{X:Cx}{e:Expr}{t:TT}(h:PW X e t):PT X e t:=h _
noncomputable def PA(X:Cx)(es:List Expr)(t:TA):Prop:=
 ∀(pos:Pos) (pins:List (Addr×Obj)) (s:Shared) (σ:St) (H:Hp) (Q:List V->Hp->Prop),Inv X pins σ H s->t σ H Q->wpAny (model X.prog X.w) X.A (spliced (backTo pos (starEach es X.env))) (AP X pins σ Q) X.xe s
noncomputable def PS(X:Cx)(st:Stmt)(t:TS):Prop:=
 ∀(pins:List (Addr×Obj)) (s:Shared) (σ:St) (H:Hp) (D:Ends),Inv X pins σ H s->t D σ H->wpAny (model X.prog X.w) X.A (exec st X.env) (SP X pins D) X.xe s
noncomputable def er(X:Cx)(st:List Stmt)(t:TS):Prop:=
 ∀(pins:List (Addr×Obj)) (s:Shared) (σ:St) (H:Hp) (D:Ends),Inv X pins σ H s->t D σ H->wpAny (model X.prog X.w) X.A (execs st X.env) (SP X pins D) X.xe s
theorem bJ{α:Type}{t:Sem α}{Q Q':α->Shared->Prop}{M:Model}{A:Around}{E:Value->Shared->Prop}{s:Shared}(h:wpAny M A t Q E s)(hQ:∀a s,Q a s->Q' a s):wpAny M A t Q' E s:=wpAny_mono h hQ λ_ _ x=>x
end L2
namespace L2
open PySem PySem.Spec PyProof.Rows
section
variable{X:Cx}
theorem bin{a b:Expr}{ta tb:TE}(ha:PE X a ta)(hb:PE X b tb){pins:List (Addr×Obj)}{s:Shared}{σ:St}{H:Hp}{R:V->V->Hp->Prop}(I:Inv X pins σ H s)(h:ta σ H λx H1=>tb σ H1 λy H2=>R x y H2)
  {α:Type} {Q:α->Shared->Prop} {f:Value->Value->Sem α}
  (hf:∀v u s2 x y H2,Inv X pins σ H2 s2->RelV x v->RelV y u->R x y H2->wpAny (model X.prog X.w) X.A (f v u) Q X.xe s2) :
  wpAny (model X.prog X.w) X.A (eval a X.env) (λv s₁=>wpAny (model X.prog X.w) X.A (eval b X.env) (λu s₂=>wpAny (model X.prog X.w) X.A (f v u) Q X.xe s₂) X.xe s₁) X.xe s:=by
 refine bJ (ha pins s σ H _ I h) λv s1 ⟨x,H1,I1,r1,q1⟩=>?_;refine bJ (hb pins s1 σ H1 _ I1 q1) λu s2 ⟨y,H2,I2,r2,q2⟩=>?_;exact hf v u s2 x y H2 I2 r1 r2 q2
noncomputable def IU(i:Nat):TE:=λσ H Q=>∃v,σ[i]?=some (some v)/\Q v H
noncomputable def tC(v:V):TE:=λ_ H Q=>Q v H
theorem pR {i:Nat}{x:Str}{pos:Pos}(hN:X.N[i]?=some x) (hv:rR X.env.scope x) (hd:(x==("__debug__" : Str))=false:=by decide) (hcd:(x==("__classdict__" : Str))=false:=by decide):PE X (.Name x pos) (IU i):=by
 intro pins s σ H Q I h;obtain⟨v,e,h⟩:=h;obtain⟨m,hn,hl⟩:=I.loc;obtain⟨u,r,l⟩:=hl i x v hN e hv;have fin:EP X pins σ Q u s:=⟨v,H,I,r,h⟩
 rcases l with ⟨hk,hm⟩|⟨hk,c,hc,hcell⟩
 .exact wpAny_Name (wpAny_loadName_local I.ok.kind hk hn hm fin) hd
 .rcases hk with hk|hk
  .exact wpAny_Name (wpAny_loadName_cell I.ok.kind hk hc hcell fin) hd
  .exact wpAny_Name (wpAny_loadName_free I.ok.kind hk hc hcell fin hcd) hd
theorem zR{i j pos}:PE X (.Constant (.int i) j pos) (tC (.int i)):=λ_ _ _ H _ I h=>wpAny_Constant_int ⟨.int i,H,I.tok _,⟨_,rfl⟩,h⟩
theorem Nq{b j pos}:PE X (.Constant (.bool b) j pos) (tC (.bl b)):=λ_ _ _ H _ I h=>Constant_bool ⟨.bl b,H,I,rfl,h⟩
theorem IV{j pos}:PE X (.Constant .none j pos) (tC .aQ):=λ_ _ _ H _ I h=>Constant_none ⟨.aQ,H,I,rfl,h⟩
theorem zS{x j pos}:PE X (.Constant (.str x) j pos) (tC (.str x)):=λ_ _ _ H _ I h=>Calls.Constant_str ⟨.str x,H,I.tok _,⟨_,rfl⟩,h⟩
noncomputable def Gl(X:Cx)(x:Str):Prop:=X.env.kindOf x=some .globalImplicit
theorem nB{E:Value->Shared->Prop}{pins:List (Addr×Obj)}{s:Shared}{σ:St}{H:Hp}{x:Str}{u:Value}{pos:Pos}{Q:Value->Shared->Prop}(I:Inv X pins σ H s)(hg:Gl X x)(hm:X.mg x=some u)(h:Q u s)
  (hd:(x==("__debug__" : Str))=false:=by decide):wpAny (model X.prog X.w) X.A (eval (.Name x pos) X.env) Q E s:=
 Calls.Name_function_global I.ok.kind hg (Calls.loadGlobal_global (by rw[I.ok.glob];exact I.mod.glob.keeps I.bk) hm h) hd
theorem kC{E:Value->Shared->Prop}{pins:List (Addr×Obj)}{s:Shared}{σ:St}{H:Hp}{x:Str}{u:Value}{pos:Pos}{Q:Value->Shared->Prop}(I:Inv X pins σ H s)(hg:Gl X x)(hm:X.mg x=none)(hv:bootBuiltins x=some u)(h:Q u s)
  (hn:x≠"__name__" :=by decide) (hd:(x==("__debug__" : Str))=false:=by decide):wpAny (model X.prog X.w) X.A (eval (.Name x pos) X.env) Q E s:=by
 obtain⟨mb,h1,h2⟩:=I.mod.blt;exact Calls.Name_function_global I.ok.kind hg (Calls.loadGlobal_builtin (by rw[I.ok.glob];exact I.mod.glob.keeps I.bk) hm (by rw[I.ok.blt];exact h1.keeps I.bk) ((h2 x hn).trans hv) h) hd
theorem FZ {x:Str}{v:V}{u:Value}{pos:Pos}(hg:Gl X x) (hm:X.mg x=some u) (r:RelV v u) (hd:(x==("__debug__" : Str))=false:=by decide):PE X (.Name x pos) (tC v):=
 λ_ _ _ H _ I h=>nB I hg hm ⟨v,H,I,r,h⟩ hd
theorem Ga {x:Str}{v:V}{u:Value}{pos:Pos}(hg:Gl X x) (hm:X.mg x=none) (hv:bootBuiltins x=some u) (r:RelV v u) (hn:x≠"__name__" :=by decide) (hd:(x==("__debug__" : Str))=false:=by decide):PE X (.Name x pos) (tC v):=
 λ_ _ _ H _ I h=>kC I hg hm hv ⟨v,H,I,r,h⟩ hn hd
variable{a b:Expr}{ta tb:TE}{pos:Pos}
noncomputable def tB(t:TE):TT:=λσ H Q=>t σ H λx H1=>∃c,x=.bl c/\Q c H1
theorem IW{e:Expr}{t:TE}(h:PE X e t)(he:∀whole,isTrue e X.env whole=(do let v <-whole;standAt e.pos;holding [v] (truthy v)):=by intro _;rfl):PT X e (tB t):=by
 intro pins s σ H Q I hw;refine isTrue_plain (bJ (h pins s σ H _ I hw) λv s1 ⟨x,H1,I1,r1,q1⟩=>?_) (he _);obtain⟨d,rfl,q⟩:=q1;cases r1;exact wpAny_truthy_bool ⟨H1,I1,q⟩
variable{tA D7:TT}{rest:List Expr}
noncomputable def Qw(t u:TT):TT:=λσ H Q=>t σ H λc H1=>if c=true then u σ H1 Q else Q false H1
noncomputable def Sk(t u:TT):TT:=λσ H Q=>t σ H λc H1=>if c=true then Q true H1 else u σ H1 Q
noncomputable def Qx(t:TT):TT:=λσ H Q=>t σ H λc H1=>Q (!c) H1
theorem Gb(ha:PT X a tA):PW X (.BoolOp .And [a] pos) tA:=by
 intro wh pins s σ H Q I h;refine isTrue_and (bJ (ha pins s σ H Q I h) λc s1 e=>?_);cases c with
 |true=>exact isTrue_and_nil e
 |false=>exact e
theorem zT(ha:PT X a tA):PW X (.BoolOp .Or [a] pos) tA:=by
 intro wh pins s σ H Q I h;refine isTrue_or (bJ (ha pins s σ H Q I h) λc s1 e=>?_);cases c with
 |false=>exact isTrue_or_nil e
 |true=>exact e
theorem IX(ha:PT X a tA)(hb:PW X (.BoolOp .And (b :: rest) pos) D7):PW X (.BoolOp .And (a :: b :: rest) pos) (Qw tA D7):=by
 intro wh pins s σ H Q I h;refine isTrue_and (bJ (ha pins s σ H _ I h) λc s1 ⟨H1,I1,q1⟩=>?_);cases c with
 |true=>exact hb wh pins s1 σ H1 Q I1 q1
 |false=>exact⟨H1,I1,q1⟩
theorem D8(ha:PT X a tA)(hb:PW X (.BoolOp .Or (b :: rest) pos) D7):PW X (.BoolOp .Or (a :: b :: rest) pos) (Sk tA D7):=by
 intro wh pins s σ H Q I h;refine isTrue_or (bJ (ha pins s σ H _ I h) λc s1 ⟨H1,I1,q1⟩=>?_);cases c with
 |true=>exact⟨H1,I1,q1⟩
 |false=>exact hb wh pins s1 σ H1 Q I1 q1
theorem IY(ha:PT X a tA):PT X (.UnaryOp .Not a pos) (Qx tA):=by
 intro pins s σ H Q I h;exact isTrue_not (ha pins s σ H (λc H1=>Q (!c) H1) I h)
noncomputable def Sn(t:TT)(ta tb:TE):TE:=λσ H Q=>t σ H λc H1=>if c=true then ta σ H1 Q else tb σ H1 Q
theorem Cb{c:Expr}(hc:PT X c tA)(ha:PE X a ta)(hb:PE X b tb):PE X (.IfExp c a b pos) (Sn tA ta tb):=by
 intro pins s σ H Q I h;refine wpAny_IfExp (bJ (hc pins s σ H _ I h) λd s1 ⟨H1,I1,q1⟩=>?_);cases d with
 |true=>exact ha pins s1 σ H1 Q I1 q1
 |false=>exact hb pins s1 σ H1 Q I1 q1
end
end L2
namespace L2
open PySem PySem.Spec PyProof.Rows
noncomputable def eX(K:PySem.W.Frag)(H:Hp)(a:Addr)(xs:List V):Prop:=
 Rd H a (.lst xs)\/
  ∃(o:Obj) (its:Array Value) (n:Nat),K.lookup a=some o/\o.cls=.type "list" /\o.dict=none/\o.data=.seq its n/\its.size<=sizeLine/\Vals xs its.toList
noncomputable def dD(K:PySem.W.Frag)(H:Hp)(a:Addr)(xs:List V):Prop:=
 Rd H a (.tup xs)\/
  ∃(o:Obj) (its:Array Value) (n:Nat),K.lookup a=some o/\o.cls=.type "tuple" /\o.data=.seq its n/\its.size<=sizeLine/\Vals xs its.toList
noncomputable def Qy:Value->Option V
 |.none=>some .aQ
 |.bool b=>some (.bl b)
 |.int i _=>some (.int i)
 |.str x _=>some (.str x)
 |.bytes b _=>some (.mz b)
 |.float b _=>some (.zN b)
 |.ref a=>some (.ref a)
 |.type n=>some (.ty n)
 |_=>none
theorem RelV.abs{x:V}{u:Value}(r:RelV x u):Qy u=some x:=by
 cases x with
 |aQ=>cases r;rfl
 |bl _=>cases r;rfl
 |int _=>obtain⟨t,rfl⟩:=r;rfl
 |str _=>obtain⟨t,rfl⟩:=r;rfl
 |mz _=>obtain⟨t,rfl⟩:=r;rfl
 |zN _=>obtain⟨t,rfl⟩:=r;rfl
 |ref _=>cases r;rfl
 |ty _=>cases r;rfl
theorem RelV.inj{x y:V}{u:Value}(r:RelV x u)(q:RelV y u):x=y:=Option.some.inj (r.abs.symm.trans q.abs)
theorem Vals.inj:∀{xs ys:List V}{us:List Value},Vals xs us->Vals ys us->xs=ys
 |_,_,_,.nil,.nil=>rfl
 |_,_,_,.cons r t,.cons r' t'=>by rw[r.inj r',Vals.inj t t']
section
variable{X:Cx}{pins:List (Addr×Obj)}{σ:St}{H:Hp}{s:Shared}{a:Addr}{xs ys:List V}
theorem eX.of{K:PySem.W.Frag}(h:H a=some (.lst xs)):eX K H a xs:=.inl (.inl h)
theorem dD.of{K:PySem.W.Frag}(h:H a=some (.tup xs)):dD K H a xs:=.inl (.inl h)
theorem Inv.list(I:Inv X pins σ H s)(h:eX X.K H a xs):∃its:List Value,Vals xs its/\PlainL s.heap a its.toArray/\xs.length<=sizeLine:=by
 rcases h with h|⟨o,its,n,hk,hc,hd,hs,hz,r⟩
 .obtain⟨z,its,n,r,e⟩:=h.ok I.hok;exact⟨its,r,⟨_,n,e,rfl,rfl,rfl⟩,z⟩
 .refine⟨its.toList,r,⟨o,n,I.jD a o hk,hc,hd,by simpa using hs⟩,?_⟩;have e:=r.length;simp only[Array.length_toList]at e;omega
theorem Inv.tuple(I:Inv X pins σ H s)(h:dD X.K H a xs):∃its:List Value,Vals xs its/\IsTup s.heap a its.toArray/\xs.length<=sizeLine:=by
 rcases h with h|⟨o,its,n,hk,hc,hs,hz,r⟩
 .obtain⟨z,its,r,p⟩:=h.ok I.hok;exact⟨its,r,p,z⟩
 .refine⟨its.toList,r,⟨o,I.jD a o hk,hc,n,by simpa using hs⟩,?_⟩;have e:=r.length;simp only[Array.length_toList]at e;omega
theorem Inv.Cc(I:Inv X pins σ H s)(h:eX X.K H a xs)(h':eX X.K H a ys):xs=ys:=by
 obtain⟨its,r,⟨o,n,e,_,_,d⟩,_⟩:=I.list h;obtain⟨its',r',⟨o',n',e',_,_,d'⟩,_⟩:=I.list h';rw[e]at e';cases e';rw[d]at d';injection d' with d1 _
 have:its=its':=by simpa using congrArg Array.toList d1
 subst this;exact r.inj r'
theorem Inv.mE(I:Inv X pins σ H s)(h:dD X.K H a xs)(h':dD X.K H a ys):xs=ys:=by
 obtain⟨its,r,⟨o,e,_,n,d⟩,_⟩:=I.tuple h;obtain⟨its',r',⟨o',e',_,n',d'⟩,_⟩:=I.tuple h';rw[e]at e';cases e';rw[d]at d';injection d' with d1 _
 have:its=its':=by simpa using congrArg Array.toList d1
 subst this;exact r.inj r'
end
abbrev Cx.gn(X:Cx)(E:Value->Shared->Prop):Cx:={ X with xe:=E }
abbrev Cx.cJ(X:Cx):Cx:=X.gn λ_ _=>False
theorem Cx.Ok.gn{X:Cx}(ok:X.Ok)(E:Value->Shared->Prop):(X.gn E).Ok:=
 ⟨ok.mod,ok.kind,ok.glob,ok.blt,ok.above,ok.inj,ok.has,ok.tU,ok.hd,ok.frames,ok.stk,ok.zP,ok.bs,ok.mC,ok.oX,ok.oY,ok.gH,ok.oq⟩
theorem Cx.Ok.dJ{X:Cx}{E:Value->Shared->Prop}(ok:(X.gn E).Ok):X.Ok:=
 ⟨ok.mod,ok.kind,ok.glob,ok.blt,ok.above,ok.inj,ok.has,ok.tU,ok.hd,ok.frames,ok.stk,ok.zP,ok.bs,ok.mC,ok.oX,ok.oY,ok.gH,ok.oq⟩
section
variable{X:Cx}{pins:List (Addr×Obj)}{σ:St}{H:Hp}{s:Shared}{E:Value->Shared->Prop}
theorem Inv.gn(I:Inv X pins σ H s)(E:Value->Shared->Prop):Inv (X.gn E) pins σ H s:=⟨I.ok.gn E,I.os,I.bare,I.base,I.loc,I.cell,I.free,I.gy,I.pin,I.hok,I.len⟩
theorem Inv.dJ(I:Inv (X.gn E) pins σ H s):Inv X pins σ H s:=⟨I.ok.dJ,I.os,I.bare,I.base,I.loc,I.cell,I.free,I.gy,I.pin,I.hok,I.len⟩
theorem SP.dJ{D:Ends}{f:Flow}{s':Shared}(h:SP (X.gn E) pins D f s'):SP X pins D f s':=by
 cases f with
 |next=>obtain⟨σ',H',I,q⟩:=h;exact⟨σ',H',I.dJ,q⟩
 |brk=>obtain⟨σ',H',I,q⟩:=h;exact⟨σ',H',I.dJ,q⟩
 |cont=>obtain⟨σ',H',I,q⟩:=h;exact⟨σ',H',I.dJ,q⟩
 |ret u=>obtain⟨v,σ',H',I,r,q⟩:=h;exact⟨v,σ',H',I.dJ,r,q⟩
theorem PE.cJ{e:Expr}{t:TE}(h:PE X.cJ e t):PE X e t:=λpins s σ H Q I hw=>
 wpAny_mono (h pins s σ H Q (I.gn _) hw) (λ_ _ ⟨v,H',I',r,q⟩=>⟨v,H',I'.dJ,r,q⟩) λ_ _ z=>False.elim z
theorem PT.cJ{e:Expr}{t:TT}(h:PT X.cJ e t):PT X e t:=λpins s σ H Q I hw=>
 wpAny_mono (h pins s σ H Q (I.gn _) hw) (λ_ _ ⟨H',I',q⟩=>⟨H',I'.dJ,q⟩) λ_ _ z=>False.elim z
theorem er.cJ{st:List Stmt}{t:TS}(h:er X.cJ st t):er X st t:=λpins s σ H D I hw=>
 wpAny_mono (h pins s σ H D (I.gn _) hw) (λ_ _ q=>q.dJ) λ_ _ z=>False.elim z
end
section
variable{X:Cx}{st:Stmt}{rest:List Stmt}{t u:TS}{e:Expr}{te:TE}{pos:Pos}
noncomputable def Nr:TS:=λD σ H=>D.nx σ H
noncomputable def Qz(t u:TS):TS:=λD σ H=>t { D with nx:=u D } σ H
theorem wg:er X [] Nr:=λ_ _ σ H _ I h=>wpAny_execs_nil ⟨σ,H,I,h⟩
theorem jE(h1:PS X st t)(h2:er X rest u):er X (st :: rest) (Qz t u):=by
 intro pins s σ H D I h;refine wpAny_execs_cons (bJ (h1 pins s σ H { D with nx:=u D } I h) λf s1 q=>?_);cases f with
 |next=>
  obtain⟨σ',H',I',q⟩:=q;exact h2 pins s1 σ' H' D I' q
 |ret v=>exact q
 |brk=>exact q
 |cont=>exact q
theorem wj(h1:PS X st t):er X [st] t:=by
 intro pins s σ H D I h;refine wpAny_execs_cons (bJ (h1 pins s σ H D I h) λf s1 q=>?_);cases f with
 |next=>exact wpAny_execs_nil q
 |ret v=>exact q
 |brk=>exact q
 |cont=>exact q
theorem Inv.quiet{pins:List (Addr×Obj)}{σ:St}{H:Hp}{s:Shared}(I:Inv X pins σ H s):interactive X.env=false:=by simp[interactive,I.ok.kind]
noncomputable def Nt(te:TE):TS:=λD σ H=>te σ H λ_ H1=>D.nx σ H1
theorem wk(he:PE X e te)(hs:swapsWith e none pos.line X.env=pure false:=by rfl):PS X (.Expr e pos) (Nt te):=by
 intro pins s σ H D I h;exact wpAny_Expr_any (bJ (he pins s σ H _ I h) λv s1 ⟨x,H1,I1,r1,q1⟩=>⟨σ,H1,I1,q1⟩) I.quiet hs
noncomputable def QA(te:TE):TS:=λD σ H=>te σ H D.rt
theorem zU(he:PE X e te):PS X (.Return (some e) pos) (QA te):=by
 intro pins s σ H D I h;exact wpAny_Return_some (bJ (he pins s σ H _ I h) λv s1 ⟨x,H1,I1,r1,q1⟩=>⟨x,σ,H1,I1,r1,q1⟩)
noncomputable def QB(c:TT)(t u:TS):TS:=λD σ H=>c σ H λb H1=>if b=true then t D σ H1 else u D σ H1
theorem ym{c:Expr}{a b:List Stmt}{tc:TT}(hc:PT X c tc)(ha:er X a t)(hb:er X b u):PS X (.If c a b pos) (QB tc t u):=by
 intro pins s σ H D I h;refine wpAny_If (bJ (hc pins s σ H _ I h) λd s1 ⟨H1,I1,q1⟩=>?_);cases d with
 |true=>exact ha pins s1 σ H1 D I1 q1
 |false=>exact hb pins s1 σ H1 D I1 q1
noncomputable def zV:TS:=λ_ _ _=>False
theorem Cd:PS X st zV:=λ_ _ _ _ _ _ h=>h.elim
theorem zW{sts:List Stmt}:er X sts zV:=λ_ _ _ _ _ _ h=>h.elim
end
abbrev TG:=V->St->Hp->(St->Hp->Prop)->Prop
abbrev rT:=List V->St->Hp->(St->Hp->Prop)->Prop
noncomputable def PG(X:Cx)(target:Expr)(t:TG):Prop:=
 ∀(pins:List (Addr×Obj)) (s:Shared) (σ:St) (H:Hp) (v:V) (u:Value) (Q:St->Hp->Prop),Inv X pins σ H s->RelV v u->t v σ H Q->
  wpAny (model X.prog X.w) X.A (assign target X.env u) (λ_ s'=>∃σ' H',Inv X pins σ' H' s'/\Q σ' H') X.xe s
noncomputable def oz(X:Cx)(ts:List Expr)(t:rT):Prop:=
 ∀(pins:List (Addr×Obj)) (s:Shared) (σ:St) (H:Hp) (vs:List V) (us:List Value) (Q:St->Hp->Prop),Inv X pins σ H s->Vals vs us->t vs σ H Q->
  wpAny (model X.prog X.w) X.A (assignInOrder ((assignEach ts X.env).map (·.2)) us) (λ_ s'=>∃σ' H',Inv X pins σ' H' s'/\Q σ' H') X.xe s
section
variable{X:Cx}{pos:Pos}
noncomputable def D9(i:Nat):TG:=λv σ H Q=>Q (σ.set i (some v)) H
theorem wm{i:Nat}{x:Str}(hN:X.N.Nodup)(hi:X.N[i]?=some x)(hx:Loc X.env.scope x)(hf:X.fn x=true\/X.env.scope.names.lookup x=some .local:=by first|exact .inl rfl|exact .inr rfl|assumption):PG X (.Name x pos) (D9 i):=by
 intro pins s σ H v u Q I r h;exact wpAny_assign_Name (o4 I hN hi hx r (λs' I'=>⟨_,H,I',h⟩) hf)
noncomputable def QC:rT:=λvs σ H Q=>vs=[]/\Q σ H
noncomputable def Nu(t:TG)(u:rT):rT:=λvs σ H Q=>∃v r,vs=v :: r/\t v σ H λσ' H'=>u r σ' H' Q
theorem Gd:oz X [] QC:=by
 intro pins s σ H vs us Q I r h;obtain⟨e,h⟩:=h;subst e;cases r;exact assignInOrder_nil ⟨σ,H,I,h⟩
theorem Ce{e:Expr}{es:List Expr}{t:TG}{u:rT}(h1:PG X e t)(h2:oz X es u)
  (hs:(assignEach (e :: es) X.env).map (·.2)=assign e X.env :: (assignEach es X.env).map (·.2):=by rfl):oz X (e :: es) (Nu t u):=by
 intro pins s σ H vs us Q I r h;obtain⟨v,vr,e1,h⟩:=h;subst e1;cases r with
 |cons r rr=>
  rw[hs];refine assignInOrder_cons (bJ (h1 pins s σ H _ _ _ I r h) λ_ s1 ⟨σ1,H1,I1,q1⟩=>?_);exact h2 pins s1 σ1 H1 _ _ Q I1 rr q1
noncomputable def QD(K:PySem.W.Frag)(n:Nat)(t:rT):TG:=λv σ H Q=>∃a xs,v=.ref a/\dD K H a xs/\xs.length=n/\t xs σ H Q
theorem IZ{es:List Expr}{k:Nat}{t:rT}{n:Nat}(hc:X.calm=true)(h:oz X es t)
  (hn:(assignEach es X.env).length=n:=by rfl) (hst:(assignEach es X.env).findIdx? (·.1)=none:=by rfl):PG X (.Tuple es k pos) (QD X.K n t):=by
 intro pins s σ H v u Q I r hw;obtain⟨a,xs,e1,hq,hl,hw⟩:=hw;subst e1;cases r;obtain⟨its,rv,ht,hz⟩:=I.tuple hq;refine assign_Tuple_tuple (I.ok.hd hc) ht (by simp[hn,<-hl,rv.length]) hst λh' hx=>?_;have I1:Inv X pins σ H { s with heap:=h' }:=I.kept (t':=s.toks) λb o e=>hx b o (Nat.ne_of_lt (Heap.lt_size e)) e;exact h pins _ σ H xs _ Q I1 (by simpa using rv) hw
noncomputable def QE(te:TE)(g:TG):TS:=λD σ H=>te σ H λx H1=>g x σ H1 D.nx
theorem tV{i:Nat}{x:Str}{e:Expr}{te:TE}{pos':Pos}(hN:X.N.Nodup)(hi:X.N[i]?=some x)(hx:Loc X.env.scope x)(he:PE X e te)(hs:swapsWith e (some (.Name x pos')) pos.line X.env=pure false:=by rfl)(hf:X.fn x=true\/X.env.scope.names.lookup x=some .local:=by first|exact .inl rfl|exact .inr rfl|assumption) :
  PS X (.Assign [.Name x pos'] e pos) (QE te (D9 i)):=by
 intro pins s σ H D I h;refine wpAny_Assign_Name (bJ (he pins s σ H _ I h) λv s1 ⟨y,H1,I1,r1,q1⟩=>?_) hs;exact o4 I1 hN hi hx r1 (λs2 I2=>⟨_,H1,I2,q1⟩) hf
end
section
variable{X:Cx}{pos:Pos}
noncomputable def Ja(c:TT)(tb:TS):TS:=λD σ H=>∃W:Nat->St->Hp->Prop,(∃m,W m σ H)/\∀m σ H,W m σ H->
 c σ H λb H1=>if b=true then ∃N:St->Hp->Prop,(∀σ' H',N σ' H'->∃m',m'<m/\W m' σ' H')/\tb { D with nx:=N,ct:=N,bk:=D.nx } σ H1 else D.nx σ H1
theorem tW{c:Expr}{body:List Stmt}{tc:TT}{tb:TS}(hp:PassesOwn (model X.prog X.w) X.A X.env X.xe)(hc:PT X c tc)(hb:er X body tb):PS X (.While c body [] pos) (Ja tc tb):=by
 intro pins s σ H D I h;obtain⟨W,⟨m0,w0⟩,turn⟩:=h;refine wpAny_While (codeAny_whileLoop (λn s'=>∃σ' H',Inv X pins σ' H' s'/\W n σ' H') ?_ m0 ⟨σ,H,I,w0⟩);rintro n s1 ⟨σ1,H1,I1,w1⟩;refine wpAny_passesOwn hp (bJ (hc pins s1 σ1 H1 _ I1 (turn n σ1 H1 w1)) λb s2 ⟨H2,I2,q2⟩=>?_);cases b with
 |true=>
  obtain⟨N,hN,q2⟩:=q2;rw[if_pos rfl];refine wpAny_passesOwn hp (bJ (hb pins s2 σ1 H2 _ I2 q2) λf s3 q3=>?_);cases f with
  |next=>
   obtain⟨σ3,H3,I3,n3⟩:=q3;obtain⟨m',hm,w3⟩:=hN σ3 H3 n3;exact⟨m',hm,σ3,H3,I3,w3⟩
  |cont=>
   obtain⟨σ3,H3,I3,n3⟩:=q3;obtain⟨m',hm,w3⟩:=hN σ3 H3 n3;exact⟨m',hm,σ3,H3,I3,w3⟩
  |brk=>exact q3
  |ret v=>exact q3
 |false=>
  rw[if_neg Bool.false_ne_true];exact wpAny_execs_nil ⟨σ1,H2,I2,q2⟩
end
structure It where
 go:Nat->Hp->Prop
 zX:Nat->Hp->V->Hp->Prop
 stop:Nat->Hp->Prop
noncomputable def g9(X:Cx)(pins:List (Addr×Obj))(H:Hp)(b:Addr):Prop:=
 H b=none/\b≠X.env.locals/\b∉X.fs/\(b∈X.ex\/X.s₀.heap.objs.size<=b)/\(∀x c,X.env.cells.lookup x=some c->c≠b)/\∀p∈X.pn++pins,p.1≠b
theorem Inv.Cf{X:Cx}{pins:List (Addr×Obj)}{σ:St}{H H':Hp}{s:Shared}{b:Addr}(I:Inv X pins σ H s)(hb:s.heap.objs.size<=b)(hn:H' b=none):g9 X pins H' b:=by
 refine⟨hn,Nat.ne_of_gt (Nat.lt_of_lt_of_le I.lt hb),I.Qu hb,.inr (Nat.le_trans I.sz hb),λx c e z=>?_,λp hp z=>?_⟩
 .obtain⟨v,q⟩:=I.cell x c e;exact absurd (Nat.lt_of_lt_of_le q.lt (by rw[z];exact hb)) (Nat.lt_irrefl _)
 .exact absurd (Nat.lt_of_lt_of_le (Heap.lt_size (I.pin p hp).1) (by rw[z];exact hb)) (Nat.lt_irrefl _)
structure Turn(P:Program)(w:World)(K:PySem.W.Frag)(tg:Expr)(J:It)(fp:List Addr)(it:Addr)(tn:Nat->Heap->Prop):Prop where
 mem:it∈fp
 obj:∀i h,tn i h->∀b∈fp,∃o,h.get? b=some o/\∀v,o.data≠.cell v
 keep:∀i h h',tn i h->(∀b∈fp,∀o,h.get? b=some o->h'.get? b=some o)->tn i h'
 item:∀(X:Cx),X.prog=P->X.w=w->X.K=K->X.calm=true->∀(i:Nat) (pins:List (Addr×Obj)) (s:Shared) (σ:St) (H:Hp) (E:Value->Shared->Prop),Inv X pins σ H s->(∀b∈fp,g9 X pins H b)->tn i s.heap->J.go i H->
  wpAny (model P w) X.A (pyNext (.ref it)) (λr s1=>∃u,r=some u/\
   wpAny (model P w) X.A (letOwnedTupleGo tg (.ref it) u) (λ_ s2=>∃x H',Inv X pins σ H' s2/\RelV x u/\J.zX i H x H'/\tn (i+1) s2.heap/\∀b∈fp,H' b=none) E s1) E s
 done:∀(X:Cx),X.prog=P->X.w=w->X.K=K->X.calm=true->∀(i:Nat) (pins:List (Addr×Obj)) (s:Shared) (σ:St) (H:Hp) (E:Value->Shared->Prop),Inv X pins σ H s->(∀b∈fp,g9 X pins H b)->tn i s.heap->J.stop i H->
  wpAny (model P w) X.A (pyNext (.ref it)) (λr s1=>r=none/\Inv X pins σ H s1) E s
 self:∀(A:Around) (i:Nat) (s:Shared) (Q:Value->Shared->Prop) (E:Value->Shared->Prop),tn i s.heap->Q (.ref it) s->wpAny (model P w) A (pyIter (.ref it)) Q E s
abbrev TI:=St->Hp->(It->Hp->Prop)->Prop
noncomputable def wo(X:Cx)(pins:List (Addr×Obj))(σ:St)(tg:Expr)(R:It->Hp->Prop)(itv:Value)(s2:Shared):Prop:=
 ∃(it:Addr) (fp:List Addr) (tn:Nat->Heap->Prop) (J:It) (H':Hp),itv=.ref it/\Inv X pins σ H' s2/\Turn X.prog X.w X.K tg J fp it tn/\tn 0 s2.heap/\(∀b∈fp,g9 X pins H' b)/\R J H'
noncomputable def PI(X:Cx)(tg iter:Expr)(wi:TI):Prop:=
 ∀(pins:List (Addr×Obj)) (s:Shared) (σ:St) (H:Hp) (R:It->Hp->Prop),Inv X pins σ H s->wi σ H R->
  wpAny (model X.prog X.w) X.A (eval iter X.env) (λv s1=>wpAny (model X.prog X.w) X.A (pyIter v) (wo X pins σ tg R) X.xe s1) X.xe s
theorem yo{M:Model}{A:Around}{E:Value->Shared->Prop}{s:Shared}{tg:Expr}{it:Addr}{u:Value}{o:Obj}{n:String}{vs:Array Value}{Q:Unit->Shared->Prop}(ho:s.heap.get? it=some o)(hc:o.cls=.type n)(hd:o.data=.fields vs)
    (hn:["enumerate","zip","dict_itemiterator","dict_reverseitemiterator","odict_iterator","itertools.zip_longest","itertools.pairwise"].contains n=false) (hQ:Q () s):wpAny M A (letOwnedTupleGo tg (.ref it) u) Q E s:=by
  unfold letOwnedTupleGo;cases tg<;>first
    |exact wpAny_pure hQ
    | (cases u<;>first
        |exact wpAny_pure hQ
        | (refine wpAny_bind (wpAny_load ho ?_)
           rw[hc,hd];show wpAny M A (if (["enumerate","zip","dict_itemiterator","dict_reverseitemiterator","odict_iterator","itertools.zip_longest","itertools.pairwise"].contains n&&vs[0]?==some (rawInt _))=true then _ else _) Q E s;rw[if_neg (by intro h;rw[hn,Bool.false_and]at h;cases h)];exact wpAny_pure hQ))
noncomputable def Pk(K:PySem.W.Frag)(a:Addr):It:=
 ⟨λi H=>∃xs x,eX K H a xs/\xs[i]?=some x,λi H x H'=>H'=H/\∀xs,eX K H a xs->xs[i]?=some x,λi H=>∃xs,eX K H a xs/\xs.length<=i⟩
noncomputable def Pn(K:PySem.W.Frag)(a:Addr):It:=
 ⟨λi H=>∃xs x,dD K H a xs/\xs[i]?=some x,λi H x H'=>H'=H/\∀xs,dD K H a xs->xs[i]?=some x,λi H=>∃xs,dD K H a xs/\xs.length<=i⟩
noncomputable def Ea(lo:Int)(n:Nat):It:=⟨λi _=>i<n,λi H x H'=>H'=H/\x=.int (lo+i),λi _=>n<=i⟩
theorem zY{P:Program}{w:World}{K:PySem.W.Frag}{tg:Expr}(a it:Addr):Turn P w K tg (Pk K a) [it] it (λi h=>h.IsListIter it a i) where
 mem:=by simp
 obj:=λi h st b hb=>by
  have e:b=it:=by simpa using hb
  subst e;obtain⟨o,e,c,d⟩:=st;exact⟨o,e,λv z=>by rw[d]at z;cases z⟩
 keep:=λi h h' st k=>st.at λo e=>k it (by simp) o e
 item:=by
  intro X hP hw hK hc i pins s σ H E I hf st hg;subst hP hw hK;obtain⟨xs,x,hq,hx⟩:=hg;obtain⟨its,rv,p,hz⟩:=I.list hq;obtain⟨u,hu,ru⟩:=rv.get hx;obtain⟨f0,f1,f2,f3,f4,f5⟩:=hf it (by simp);refine wpAny_pyNext_list_item st p.isList (x:=u) (by simpa using hu) λh' st' sb=>?_;have I1:Inv X pins σ H { s with heap:=h' }:=I.turned (t':=s.toks) (λb o hb e=>(sb.2 b hb).trans e) f0 f1 f3 f4 f5;obtain⟨o,e,c,d⟩:=id st';exact⟨u,rfl,yo (s:={ s with heap:=h' }) e c d (by decide) ⟨x,H,I1,ru,⟨rfl,λys hy=>by rw[I.Cc hy hq];exact hx⟩,st',λb hb=>(hf b hb).1⟩⟩
 done:=by
  intro X hP hw hK hc i pins s σ H E I hf st hg;subst hP hw hK;obtain⟨xs,hq,hx⟩:=hg;obtain⟨its,rv,p,hz⟩:=I.list hq;obtain⟨f0,f1,f2,f3,f4,f5⟩:=hf it (by simp);have hl:=rv.length;exact wpAny_pyNext_list_end (I.ok.hd hc) st p.isList (by simp;omega) λh' eb=>⟨rfl,I.turned (t':=s.toks) (λb o hb e=>eb b o hb e) f0 f1 f3 f4 f5⟩
 self:=λ_ _ _ _ _ st h=>wpAny_pyIter_listiter st h
theorem yp{P:Program}{w:World}{K:PySem.W.Frag}{tg:Expr}(a it:Addr):Turn P w K tg (Pn K a) [it] it (λi h=>h.IsTupleIter it a i) where
 mem:=by simp
 obj:=λi h st b hb=>by
  have e:b=it:=by simpa using hb
  subst e;obtain⟨o,e,c,d⟩:=st;exact⟨o,e,λv z=>by rw[d]at z;cases z⟩
 keep:=λi h h' st k=>st.at λo e=>k it (by simp) o e
 item:=by
  intro X hP hw hK hc i pins s σ H E I hf st hg;subst hP hw hK;obtain⟨xs,x,hq,hx⟩:=hg;obtain⟨its,rv,p,hz⟩:=I.tuple hq;obtain⟨u,hu,ru⟩:=rv.get hx;obtain⟨f0,f1,f2,f3,f4,f5⟩:=hf it (by simp);refine wpAny_pyNext_tuple_item st (show s.heap.IsTuple a its.toArray from p) (x:=u) (by simpa using hu) λh' st' sb=>?_;have I1:Inv X pins σ H { s with heap:=h' }:=I.turned (t':=s.toks) (λb o hb e=>(sb.2 b hb).trans e) f0 f1 f3 f4 f5;obtain⟨o,e,c,d⟩:=id st';exact⟨u,rfl,yo (s:={ s with heap:=h' }) e c d (by decide) ⟨x,H,I1,ru,⟨rfl,λys hy=>by rw[I.mE hy hq];exact hx⟩,st',λb hb=>(hf b hb).1⟩⟩
 done:=by
  intro X hP hw hK hc i pins s σ H E I hf st hg;subst hP hw hK;obtain⟨xs,hq,hx⟩:=hg;obtain⟨its,rv,p,hz⟩:=I.tuple hq;obtain⟨f0,f1,f2,f3,f4,f5⟩:=hf it (by simp);have hl:=rv.length;exact wpAny_pyNext_tuple_end (I.ok.hd hc) st (show s.heap.IsTuple a its.toArray from p) (by simp;omega) λh' eb=>⟨rfl,I.turned (t':=s.toks) (λb o hb e=>eb b o hb e) f0 f1 f3 f4 f5⟩
 self:=λ_ _ _ _ _ st h=>wpAny_pyIter_tupleiter st h
theorem yq{P:Program}{w:World}{K:PySem.W.Frag}{tg:Expr}(it:Addr)(lo:Int)(n:Nat):Turn P w K tg (Ea lo n) [it] it (λi h=>IsRangeIter h it (lo+(i:Nat)*1) ((n:Int) - (i:Nat)) 1) where
 mem:=by simp
 obj:=λi h st b hb=>by
  have e:b=it:=by simpa using hb
  subst e;exact⟨_,st,λv z=>by
   have z':Data.fields _=Data.cell v:=z;cases z'⟩
 keep:=λi h h' st k=>k it (by simp) _ st
 item:=by
  intro X hP hw hK hc i pins s σ H E I hf st hg;subst hP hw hK;obtain⟨f0,f1,f2,f3,f4,f5⟩:=hf it (by simp);have W:=Walks.range (prog:=X.prog) (w:=X.w) (I.ok.hd hc) it lo 1 n;refine W.item i s _ _ hg st λv h' tk hv st' kk=>?_;obtain⟨t,rfl⟩:=hv;have I1:Inv X pins σ H { s with heap:=h',toks:=tk }:=I.turned (λb o hb e=>kk b o (by simpa using hb) e) f0 f1 f3 f4 f5;refine⟨_,rfl,yo (s:={ s with heap:=h',toks:=tk }) (n:="range_iterator") st' rfl rfl (by decide) ⟨.int (lo+i),H,I1,⟨t,?_⟩,⟨rfl,rfl⟩,st',λb hb=>(hf b hb).1⟩⟩;rw[Int.mul_one]
 done:=by
  intro X hP hw hK hc i pins s σ H E I hf st hg;subst hP hw hK;obtain⟨f0,f1,f2,f3,f4,f5⟩:=hf it (by simp);exact wpAny_pyNext_range_end (I.ok.hd hc) st (by have:n<=i:=hg;omega) λh' eb=>⟨rfl,I.turned (t':=s.toks) (λb o hb e=>eb b o hb e) f0 f1 f3 f4 f5⟩
 self:=λ_ _ _ _ _ st h=>wpAny_pyIter_rangeiter st h
end L2
namespace L2
open PySem PySem.Spec PyProof.Rows
section
variable{X:Cx}{tg:Expr}
theorem Cg{pins:List (Addr×Obj)}{σ:St}{H:Hp}{s:Shared}{R:It->Hp->Prop}{E:Value->Shared->Prop}{lo hi:Int}{t u v:Tok}{tk:Nat}(I:Inv X pins σ H s)(h1:-(2 ^ 62)<=lo)(h2:lo<2 ^ 62)(h3:-(2 ^ 62)<=hi)(h4:hi<2 ^ 62)
  (q:R (Ea lo (hi - lo).toNat) H):wpAny (model X.prog X.w) X.A (pyIter (.ref s.heap.objs.size)) (wo X pins σ tg R) E { s with heap:=s.heap.push { cls:=.type "range",data:=.fields #[.int lo t,.int hi u,.int 1 v]},toks:=tk }:=by
 refine wpAny_pyIter_range (IsRange.new ..) (small_one h1 h2 h3 h4) ?_;have I1:Inv X pins σ H { s with heap:=s.heap.push { cls:=.type "range",data:=.fields #[.int lo t,.int hi u,.int 1 v]},toks:=tk }:=I.kept λb o e=>Heap.get?_push_of_some _ e;refine⟨(s.heap.push { cls:=.type "range",data:=.fields #[.int lo t,.int hi u,.int 1 v]}).objs.size,[(s.heap.push { cls:=.type "range",data:=.fields #[.int lo t,.int hi u,.int 1 v]}).objs.size],_,_,H,rfl,
  I1.kept (t':=tk) λb o e=>Heap.get?_push_of_some _ e,yq _ lo (hi - lo).toNat,?_,λb hb=>?_,q⟩
 .have e1:lo+((0:Nat):Int)*1=lo:=by simp
  have e2:(((hi - lo).toNat:Nat):Int) - ((0:Nat):Int)=Builtin.Range.rangeSize lo hi 1:=by rw[rangeSize_one];split<;>omega
  show IsRangeIter _ _ (lo+((0:Nat):Int)*1) ((((hi - lo).toNat:Nat):Int) - ((0:Nat):Int)) 1;rw[e1,e2];exact Heap.get?_push_size _ rfl
 .have e:b=(s.heap.push { cls:=.type "range",data:=.fields #[.int lo t,.int hi u,.int 1 v]}).objs.size:=by simpa using hb
  subst e;exact I1.Cf (Nat.le_refl _) (I1.hok.fresh (Nat.le_refl _))
noncomputable def Nv(ta:TA):TI:=λσ H R=>ta σ H λvs H1=>∃j:Int,vs=[.int j]/\-(2 ^ 62)<=j/\j<2 ^ 62/\R (Ea 0 j.toNat) H1
theorem zZ {a:Expr}{ta:TA}{p pos:Pos}(hg:Gl X "range") (hm:X.mg "range" = none) (ha:PA X [a] ta) (hs:starEach [a] X.env=[(false,eval a X.env)]:=by rfl):PI X tg (.Call (.Name "range" p) [a] [] pos) (Nv ta):=by
 intro pins s σ H R I h;refine Call_ (kC I hg hm boot_range (PyProof.Rows.callWith_type1 (bJ (ha pos pins s σ H _ I h) λus s1 ⟨vs,H1,I1,r1,q1⟩=>?_) hs rfl));obtain⟨j,e,q1,q2,q⟩:=q1;subst e;cases r1 with
 |cons r rr=>
  cases rr;obtain⟨t,rfl⟩:=r;exact call_range_1 (Cg I1 (by omega) (by omega) q1 q2 (by simpa using q))
noncomputable def QF(wi:TI)(g:TG)(tb:TS):TS:=λD σ H=>wi σ H λJ H1=>∃W:Nat->Nat->St->Hp->Prop,(∃m,W 0 m σ H1)/\∀i m σ H,W i m σ H->
 (J.stop i H/\D.nx σ H)\/(J.go i H/\∃N:St->Hp->Prop,(∀σ' H',N σ' H'->∃m',m'<m/\W (i+1) m' σ' H')/\∀x H',J.zX i H x H'->g x σ H' λσ2 H2=>tb { D with nx:=N,ct:=N,bk:=D.nx } σ2 H2)
noncomputable def mF(fp:List Addr)(h:Heap):List (Addr×Obj):=fp.filterMap λb=>(h.get? b).map λo=>(b,o)
theorem jl{fp:List Addr}{h:Heap}{b:Addr}{o:Obj}(hb:b∈fp)(e:h.get? b=some o):(b,o)∈mF fp h:=List.mem_filterMap.mpr ⟨b,hb,by rw[e];rfl⟩
theorem z9{fp:List Addr}{h:Heap}{p:Addr×Obj}(hp:p∈mF fp h):p.1∈fp/\h.get? p.1=some p.2:=by
 obtain⟨b,hb,e⟩:=List.mem_filterMap.mp hp;cases q:h.get? b with
 |none=>rw[q]at e;cases e
 |some o=>
  rw[q]at e;have e':(b,o)=p:=Option.some.inj e;subst e';exact⟨hb,q⟩
theorem Inv.pinned{pins:List (Addr×Obj)}{σ:St}{H:Hp}{s:Shared}{fp:List Addr}(I:Inv X pins σ H s)(hf:∀b∈fp,g9 X pins H b)(ho:∀b∈fp,∃o,s.heap.get? b=some o/\∀v,o.data≠.cell v):Inv X (pins++mF fp s.heap) σ H s:=
 I.we λp hp=>(List.mem_append.mp hp).elim (λz=>I.pin p (List.mem_append_right _ z)) λz=>by
  obtain⟨hb,e⟩:=z9 z;obtain⟨f0,f1,f2,_⟩:=hf p.1 hb;obtain⟨o,e',d⟩:=ho p.1 hb;rw[e]at e';cases e';exact⟨e,f0,f1,f2,d⟩
theorem Inv.kY{pins pl:List (Addr×Obj)}{σ:St}{H:Hp}{s:Shared}(I:Inv X (pins++pl) σ H s):Inv X pins σ H s:=I.we λp hp=>I.pin p (List.mem_append_right _ (List.mem_append_left _ hp))
theorem Aa{iter:Expr}{body:List Stmt}{wi:TI}{g:TG}{tb:TS}{pos:Pos}(hp:PassesOwn (model X.prog X.w) X.A X.env X.xe)(hc:X.calm=true)(hi:PI X tg iter wi)(hg:PG X tg g)(hb:er X body tb)
  (hs:∀x,foldedSetIterable iter X.env x=pure x:=by intro _;rfl):PS X (.For tg iter body [] pos) (QF wi g tb):=by
 intro pins s σ H D I h;refine wpAny_For (bJ (hi pins s σ H _ I h) λv s1 h1=>bJ h1 λitv s2 h2=>?_) hs;obtain⟨it,fp,tn,J,H2,e,I2,T,st2,f2,W,⟨m0,w0⟩,turn⟩:=h2;subst e;have kZ:∀{H':Hp},(∀b∈fp,H' b=none)->∀b∈fp,g9 X pins H' b:=λhn b hb=>⟨hn b hb,(f2 b hb).2⟩
 refine codeAny_forLoop_any (λn s'=>∃i σ' H',Inv X pins σ' H' s'/\tn i s'.heap/\(∀b∈fp,H' b=none)/\W i n σ' H') ?_ m0 ⟨0,σ,H2,I2,st2,λb hb=>(f2 b hb).1,w0⟩;rintro n s3 ⟨i,σ3,H3,I3,st3,aS,w3⟩;rcases turn i n σ3 H3 w3 with ⟨stop,qn⟩|⟨go,N,hN,step⟩
 .refine wpAny_passesOwn hp (bJ (T.done X rfl rfl rfl hc i pins s3 σ3 H3 X.xe I3 (kZ aS) st3 stop) λr s4 ⟨hr,I4⟩=>?_);subst hr;exact wpAny_execs_nil ⟨σ3,H3,I4,qn⟩
 .refine wpAny_passesOwn hp (bJ (T.item X rfl rfl rfl hc i pins s3 σ3 H3 X.xe I3 (kZ aS) st3 go) λr s4 ⟨u,hr,h4⟩=>?_);subst hr;refine wpAny_passesOwn hp (bJ h4 λ_ s5 ⟨x,H5,I5,r5,y5,wu,jW⟩=>?_);have So:=I5.pinned (kZ jW) (T.obj _ _ wu);refine wpAny_passesOwn hp (bJ (hg _ s5 σ3 H5 x u _ So r5 (step x H5 y5)) λ_ s6 ⟨Sq,H6,I6,q6⟩=>?_);refine wpAny_passesOwn hp (bJ (hb _ s6 Sq H6 _ I6 q6) λf s7 q7=>?_);have again:∀{mG:St} {H7:Hp},Inv X (pins++mF fp s5.heap) mG H7 s7->N mG H7->∃m,m<n/\∃i σ' H',Inv X pins σ' H' s7/\tn i s7.heap/\(∀b∈fp,H' b=none)/\W i m σ' H':=λ{mG H7} I7 n7=>by
   obtain⟨m',hm,w7⟩:=hN mG H7 n7;refine⟨m',hm,i+1,mG,H7,I7.kY,T.keep _ _ _ wu λb hb o e=>(I7.pin (b,o) (List.mem_append_right _ (List.mem_append_right _ (jl hb e)))).1,λb hb=>?_,w7⟩;obtain⟨o,e,d⟩:=T.obj _ _ wu b hb;exact(I7.pin (b,o) (List.mem_append_right _ (List.mem_append_right _ (jl hb e)))).2.1
  cases f with
  |next=>obtain⟨mG,H7,I7,n7⟩:=q7;exact again I7 n7
  |cont=>obtain⟨mG,H7,I7,n7⟩:=q7;exact again I7 n7
  |brk=>obtain⟨mG,H7,I7,q7⟩:=q7;exact⟨mG,H7,I7.kY,q7⟩
  |ret v=>obtain⟨x7,mG,H7,I7,r7,q7⟩:=q7;exact⟨x7,mG,H7,I7.kY,r7,q7⟩
end
end L2
namespace L2
open PySem PySem.Spec PyProof.Rows
abbrev R2:=V->V->Hp->VK->Prop
noncomputable def dQ(X:Cx)(f:Value->Value->Sem Value)(r:R2):Prop:=
 ∀(pins:List (Addr×Obj)) (s:Shared) (σ:St) (H:Hp) (x y:V) (v u:Value) (Q:VK),Inv X pins σ H s->RelV x v->RelV y u->r x y H Q->
  wpAny (model X.prog X.w) X.A (f v u) (EP X pins σ Q) X.xe s
noncomputable def Jb(X:Cx)(f:Value->Sem Value)(r:V->Hp->VK->Prop):Prop:=
 ∀(pins:List (Addr×Obj)) (s:Shared) (σ:St) (H:Hp) (x:V) (v:Value) (Q:VK),Inv X pins σ H s->RelV x v->r x H Q->
  wpAny (model X.prog X.w) X.A (f v) (EP X pins σ Q) X.xe s
noncomputable def gz(X:Cx)(f:Value)(r:List V->Hp->VK->Prop):Prop:=
 ∀(pins:List (Addr×Obj)) (s:Shared) (σ:St) (H:Hp) (xs:List V) (us:List Value) (Q:VK),Inv X pins σ H s->Vals xs us->r xs H Q->
  wpAny (model X.prog X.w) X.A (call f us) (EP X pins σ Q) X.xe s
noncomputable def QG(X:Cx)(r:V->Hp->(Bool->Hp->Prop)->Prop):Prop:=
 ∀(pins:List (Addr×Obj)) (s:Shared) (σ:St) (H:Hp) (x:V) (v:Value) (Q:Bool->Hp->Prop),Inv X pins σ H s->RelV x v->r x H Q->
  wpAny (model X.prog X.w) X.A (truthy v) (TP X pins σ Q) X.xe s
noncomputable def Ab(r:R2)(ta tb:TE):TE:=λσ H Q=>ta σ H λx H1=>tb σ H1 λy H2=>r x y H2 Q
noncomputable def Su(r:V->Hp->VK->Prop)(ta:TE):TE:=λσ H Q=>ta σ H λx H1=>r x H1 Q
noncomputable def rI(C:Int->Int->Prop)(g:Int->Int->V):R2:=λx y H Q=>∃i j,x=.int i/\y=.int j/\C i j/\Q (g i j) H
noncomputable def tY(g:Int->Int->V):R2:=λx y H Q=>∃i j,x=.int i/\y=.int j/\Q (g i j) H
noncomputable def rU(g:Int->V):V->Hp->VK->Prop:=λx H Q=>∃i,x=.int i/\Q (g i) H
section
variable{X:Cx}{a b c:Expr}{ta tb tc:TE}{pos:Pos}
theorem Ci(ha:PE X a ta)(hb:PE X b tb){pins:List (Addr×Obj)}{s:Shared}{σ:St}{H:Hp}{R:V->V->Hp->Prop}(I:Inv X pins σ H s)
  (h:ta σ H λx H1=>tb σ H1 λy H2=>R x y H2) {Q:Value->Shared->Prop} {f:Value->Value->Sem Value}
  (hf:∀v u s2 x y H2,Inv X pins σ H2 s2->RelV x v->RelV y u->R x y H2->wpAny (model X.prog X.w) X.A (f v u) Q X.xe s2) :
  wpAny (model X.prog X.w) X.A (eval a X.env) (λv s₁=>wpAny (model X.prog X.w) X.A (eval b X.env) (λu s₂=>wpAny (model X.prog X.w) X.A (f v u) Q X.xe s₂) X.xe s₁) X.xe s:=by
 refine bJ (ha pins s σ H _ I h) λv s1 ⟨x,H1,I1,r1,q1⟩=>?_;refine bJ (hb pins s1 σ H1 _ I1 q1) λu s2 ⟨y,H2,I2,r2,q2⟩=>?_;exact hf v u s2 x y H2 I2 r1 r2 q2
theorem Nx{op:Operator}{r:R2}(ho:dQ X (binaryOp op) r)(ha:PE X a ta)(hb:PE X b tb):PE X (.BinOp a op b pos) (Ab r ta tb):=by
 intro pins s σ H Q I h;exact wpAny_BinOp (Ci ha hb I h λv u s2 x y H2 I2 rx ry q=>ho pins s2 σ H2 x y v u Q I2 rx ry q)
theorem Ny{op:UnaryOp}{r:V->Hp->VK->Prop}(ho:Jb X (unaryOp op) r)(ha:PE X a ta):PE X (.UnaryOp op a pos) (Su r ta):=by
 intro pins s σ H Q I h;exact UnaryOp_ (bJ (ha pins s σ H _ I h) λv s1 ⟨x,H1,I1,r1,q1⟩=>ho pins s1 σ H1 x v Q I1 r1 q1)
theorem Jc{f:Value->Value->Sem Value}{C:Int->Int->Prop}{g:Int->Int->Int}
  (rule:∀(i j:Int) (t u:Tok) (s:Shared) (Q:Value->Shared->Prop) (E:Value->Shared->Prop),C i j->Q (.int (g i j) s.toks) { s with toks:=s.toks+1 }->wpAny (model X.prog X.w) X.A (f (.int i t) (.int j u)) Q E s) :
  dQ X f (rI C λi j=>.int (g i j)):=by
 intro pins s σ H x y v u Q I rx ry h;obtain⟨i,j,rfl,rfl,hc,q⟩:=h;obtain⟨t,rfl⟩:=rx;obtain⟨t',rfl⟩:=ry;exact rule i j t t' s _ _ hc ⟨.int (g i j),H,I.tok _,⟨_,rfl⟩,q⟩
theorem Jd{f:Value->Value->Sem Value}{g:Int->Int->Int}
  (rule:∀(i j:Int) (t u:Tok) (s:Shared) (Q:Value->Shared->Prop) (E:Value->Shared->Prop),Q (.int (g i j) s.toks) { s with toks:=s.toks+1 }->wpAny (model X.prog X.w) X.A (f (.int i t) (.int j u)) Q E s) :
  dQ X f (tY λi j=>.int (g i j)):=by
 intro pins s σ H x y v u Q I rx ry h;obtain⟨i,j,rfl,rfl,q⟩:=h;obtain⟨t,rfl⟩:=rx;obtain⟨t',rfl⟩:=ry;exact rule i j t t' s _ _ ⟨.int (g i j),H,I.tok _,⟨_,rfl⟩,q⟩
theorem Je{f:Value->Value->Sem Value}{g:Int->Int->Bool}
  (rule:∀(i j:Int) (t u:Tok) (s:Shared) (Q:Value->Shared->Prop) (E:Value->Shared->Prop),Q (.bool (g i j)) s->wpAny (model X.prog X.w) X.A (f (.int i t) (.int j u)) Q E s) :
  dQ X f (tY λi j=>.bl (g i j)):=by
 intro pins s σ H x y v u Q I rx ry h;obtain⟨i,j,rfl,rfl,q⟩:=h;obtain⟨t,rfl⟩:=rx;obtain⟨t',rfl⟩:=ry;exact rule i j t t' s _ _ ⟨.bl (g i j),H,I,rfl,q⟩
noncomputable def QH(i j:Int):Prop:=0<j/\j<1073741824
noncomputable def Cj(i j:Int):Prop:=(-(2 ^ 64)<i/\i<2 ^ 64)\/(-(2 ^ 64)<j/\j<2 ^ 64)
theorem Cj.ok{i j:Int}(h:Cj i j):IntMulOk i j:=by
 rcases h with ⟨h1,h2⟩|⟨h1,h2⟩
 .exact .of_left (intBits_le_64 h1 h2)
 .exact .of_right (intBits_le_64 h1 h2)
theorem Jf:dQ X (binaryOp .Add) (tY λi j=>.int (i+j)):=Jd λ_ _ _ _ _ _ _ q=>add_int q
theorem Jg:dQ X (binaryOp .Sub) (tY λi j=>.int (i - j)):=Jd λ_ _ _ _ _ _ _ q=>sub_int q
theorem Jh:dQ X (binaryOp .Mult) (rI Cj λi j=>.int (i*j)):=Jc λ_ _ _ _ _ _ _ hc q=>mul_int q hc.ok
theorem Ge:dQ X (binaryOp .FloorDiv) (rI QH λi j=>.int (i / j)):=Jc λi j _ _ _ _ _ hc q=>by
 have h1:(0:Int)<j:=hc.1;have h2:j<1073741824:=hc.2;exact floordiv_int (by omega) (by rw[Int.fdiv_eq_ediv_of_nonneg i (by omega)];exact q) (.inl (PyProof.noPylong_small (by omega)))
theorem Ji:dQ X (binaryOp .Mod) (rI (λ_ j=>0<j) λi j=>.int (i % j)):=Jc λi j _ _ _ _ _ hc q=>by
 have h1:(0:Int)<j:=hc;exact mod_int' (by omega) (by rw[Int.fmod_eq_emod_of_nonneg i (by omega)];exact q)
theorem Sv{f:Value->Sem Value}{g:Int->Int}
  (rule:∀(i:Int) (t:Tok) (s:Shared) (Q:Value->Shared->Prop) (E:Value->Shared->Prop),Q (.int (g i) s.toks) { s with toks:=s.toks+1 }->wpAny (model X.prog X.w) X.A (f (.int i t)) Q E s) :
  Jb X f (rU λi=>.int (g i)):=by
 intro pins s σ H x v Q I rx h;obtain⟨i,rfl,q⟩:=h;obtain⟨t,rfl⟩:=rx;exact rule i t s _ _ ⟨.int (g i),H,I.tok _,⟨_,rfl⟩,q⟩
theorem Jj:Jb X (unaryOp .USub) (rU λi=>.int (-i)):=Sv λ_ _ _ _ _ q=>neg_int q
end
noncomputable def QI:V->V->Bool
 |.aQ,.aQ=>true|.aQ,.int _=>true|.int _,.aQ=>true|.aQ,.bl _=>true|.bl _,.aQ=>true|.aQ,.str _=>true|.str _,.aQ=>true
 |.int _,.int _=>true|.bl _,.bl _=>true|.str _,.str _=>true|.mz _,.mz _=>true
 |.int _,.str _=>true|.str _,.int _=>true|.bl _,.str _=>true|.str _,.bl _=>true
 |_,_=>false
noncomputable def Sw:R2:=λx y H Q=>QI x y=true/\Q (.bl (!decide (x=y))) H
theorem Gf{i j:Int}:decide (V.int i=V.int j)=(i==j):=by
 rw[Bool.eq_iff_iff];simp
theorem Jk{i j:Bool}:decide (V.bl i=V.bl j)=(i==j):=by
 rw[Bool.eq_iff_iff];simp
theorem Gg{i j:Str}:decide (V.str i=V.str j)=(i==j):=by
 rw[Bool.eq_iff_iff];simp
theorem Gh{i j:Array UInt8}:decide (V.mz i=V.mz j)=(i.toList==j.toList):=by
 rw[Bool.eq_iff_iff];cases i;cases j;simp
section
variable{X:Cx}{a b c:Expr}{ta tb tc:TE}{pos:Pos}
theorem dW{pins:List (Addr×Obj)}{σ:St}{H:Hp}{s:Shared}{Q:VK}{k k':Bool}(I:Inv X pins σ H s)(q:Q (.bl k) H)(e:k=k'):EP X pins σ Q (.bool k') s:=by
 subst e;exact⟨.bl k,H,I,rfl,q⟩
theorem Nz:dQ X (compareOp .NotEq) Sw:=by
 intro pins s σ H x y v u Q I rx ry h;obtain⟨hs,q⟩:=h;cases x with
 |aQ=>
  cases rx;cases y with
  |aQ=>cases ry;exact PySem.EqNone.ne_none_none (dW I q (by simp))
  |bl j=>cases ry;exact PySem.EqNone.ne_none_bool (dW I q (by simp))
  |int j=>obtain⟨t',rfl⟩:=ry;exact PySem.EqNone.ne_none_int (dW I q (by simp))
  |str j=>obtain⟨t',rfl⟩:=ry;exact PySem.EqNone.ne_none_str (dW I q (by simp))
  |_=>exact absurd (show false=true from hs) Bool.false_ne_true
 |bl i=>
  cases rx;cases y with
  |aQ=>cases ry;exact PySem.EqNone.ne_bool_none (dW I q (by simp))
  |bl j=>cases ry;exact ne_bool (dW I q (congrArg not Jk))
  |str j=>obtain⟨t',rfl⟩:=ry;exact PySem.EqMixed.ne_bool_str (dW I q (by simp))
  |_=>exact absurd (show false=true from hs) Bool.false_ne_true
 |int i=>
  obtain⟨t,rfl⟩:=rx;cases y with
  |aQ=>cases ry;exact PySem.EqNone.ne_int_none (dW I q (by simp))
  |int j=>obtain⟨t',rfl⟩:=ry;exact ne_int (dW I q (congrArg not Gf))
  |str j=>obtain⟨t',rfl⟩:=ry;exact PySem.EqMixed.ne_int_str (dW I q (by simp))
  |_=>exact absurd (show false=true from hs) Bool.false_ne_true
 |str i=>
  obtain⟨t,rfl⟩:=rx;cases y with
  |aQ=>cases ry;exact PySem.EqNone.ne_str_none (dW I q (by simp))
  |bl j=>cases ry;exact PySem.EqMixed.ne_str_bool (dW I q (by simp))
  |int j=>obtain⟨t',rfl⟩:=ry;exact PySem.EqMixed.ne_str_int (dW I q (by simp))
  |str j=>obtain⟨t',rfl⟩:=ry;exact ne_str (dW I q (congrArg not Gg))
  |_=>exact absurd (show false=true from hs) Bool.false_ne_true
 |mz i=>
  obtain⟨t,rfl⟩:=rx;cases y with
  |mz j=>obtain⟨t',rfl⟩:=ry;exact PySem.W.ne_bytes (dW I q (congrArg not Gh))
  |_=>exact absurd (show false=true from hs) Bool.false_ne_true
 |_=>cases y<;>exact absurd (show false=true from hs) Bool.false_ne_true
theorem NB:dQ X (compareOp .Lt) (tY λi j=>.bl (decide (i<j))):=Je λ_ _ _ _ _ _ _ q=>lt_int q
theorem NC:dQ X (compareOp .Gt) (tY λi j=>.bl (decide (j<i))):=Je λ_ _ _ _ _ _ _ q=>gt_int q
theorem jF(b:Expr){op:CmpOp}(h:op≠.In:=by decide)(h2:op≠.NotIn:=by decide):behindInMarks op b=false:=by
 have e1:(op==CmpOp.In)=false:=by cases op<;>first|rfl|exact absurd rfl h
 have e2:(op==CmpOp.NotIn)=false:=by cases op<;>first|rfl|exact absurd rfl h2
 cases b<;>simp[behindInMarks,e1,e2]
theorem Gi{op:CmpOp}{r:R2}(ho:dQ X (compareOp op) r)(ha:PE X a ta)(hb:PE X b tb)(hm:behindInMarks op b=false):PE X (.Compare a [op] [b] pos) (Ab r ta tb):=by
 intro pins s σ H Q I h;exact wpAny_Compare1 (Ci ha hb I h λv u s2 x y H2 I2 rx ry q=>ho pins s2 σ H2 x y v u Q I2 rx ry q) hm
noncomputable def ND(t:TE):TT:=λσ H Q=>t σ H λx H'=>∃k,x=.bl k/\Q k H'
theorem wz{op:CmpOp}{r:R2}(ho:dQ X (compareOp op) r)(ha:PE X a ta)(hb:PE X b tb)(hm:behindInMarks op b=false):PT X (.Compare a [op] [b] pos) (ND (Ab r ta tb)):=by
 intro pins s σ H Q I h;refine wpAny_isTrue_Compare1 (bJ (ha pins s σ H _ I h) λv s1 ⟨x,H1,I1,r1,q1⟩=>bJ (hb pins s1 σ H1 _ I1 q1) λu s2 ⟨y,H2,I2,r2,q2⟩=>
  bJ (ho pins s2 σ H2 x y v u _ I2 r1 r2 q2) λc s3 ⟨z,H3,I3,r3,k,e,q3⟩=>?_) hm
 subst e;cases r3;exact wpAny_truthy_bool ⟨H3,I3,q3⟩
noncomputable def Ck(K:PySem.W.Frag)(x:V)(H:Hp)(k:Bool):Prop:=
 match x with
 |.aQ=>k=false
 |.bl b=>k=b
 |.int i=>k=(i != 0)
 |.str y=>y.length<=sizeLine/\k=((y.length:Int) != 0)
 |.mz y=>y.size<=sizeLine/\k=((y.size:Int) != 0)
 |.ref p=>(∃xs,eX K H p xs/\k = !xs.isEmpty)\/(∃xs,dD K H p xs/\k = !xs.isEmpty)\/∃kvs,H p=some (.dK kvs)/\k = !kvs.isEmpty
 |_=>False
theorem yr{κ:Type}{kvs:List (κ×V)}{vs:List (κ×Value)}(r:KV kvs vs):(!vs.isEmpty) = !kvs.isEmpty:=by
 cases r<;>rfl
theorem pT{xs:List V}{its:List Value}(r:Vals xs its):(!its.toArray.isEmpty) = !xs.isEmpty:=by
 cases r<;>simp
theorem kD:(sizeLine:Nat)<2 ^ 63:=by rw[sizeLine_eq];decide
theorem Jl:QG X (λx H Q=>∃k,Ck X.K x H k/\Q k H):=by
 intro pins s σ H x v Q I rx h;obtain⟨k,e,q⟩:=h;have hl:=kD;have hs:sizeLine=16777216:=sizeLine_eq;cases x with
 |aQ=>
  cases rx;have e':k=false:=e;subst e';exact truthy_none ⟨H,I,q⟩
 |bl b=>
  cases rx;have e':k=b:=e;subst e';exact wpAny_truthy_bool ⟨H,I,q⟩
 |int i=>
  obtain⟨t,rfl⟩:=rx;have e':k=(i != 0):=e;subst e';exact PySem.P.truthy_int ⟨H,I,q⟩
 |str y=>
  obtain⟨t,rfl⟩:=rx;obtain⟨hy,e'⟩:y.length<=sizeLine/\k=((y.length:Int) != 0):=e;subst e';exact PySem.P.truthy_str (by omega) ⟨H,I.tok _,q⟩
 |mz y=>
  obtain⟨t,rfl⟩:=rx;obtain⟨hy,e'⟩:y.size<=sizeLine/\k=((y.size:Int) != 0):=e;subst e';exact PySem.W.truthy_bytes (by omega) ⟨H,I.tok _,q⟩
 |ref p=>
  cases rx;have e':(∃xs,eX X.K H p xs/\k = !xs.isEmpty)\/(∃xs,dD X.K H p xs/\k = !xs.isEmpty)\/∃kvs,H p=some (.dK kvs)/\k = !kvs.isEmpty:=e;rcases e' with ⟨xs,hx,e'⟩|⟨xs,hx,e'⟩|⟨kvs,hx,e'⟩
  .subst e';obtain⟨its,r,pl,hz⟩:=I.list hx;have hlen:=r.length;exact wpAny_truthy_list pl.isList (by simp only[List.size_toArray];omega) ⟨H,I.tok _,by rw[pT r];exact q⟩
  .subst e';obtain⟨its,r,pl,hz⟩:=I.tuple hx;have hlen:=r.length;exact truthy_tuple pl (by simp only[List.size_toArray];omega) ⟨H,I.tok _,by rw[pT r];exact q⟩
  .subst e';obtain⟨hz,hS,vs,r,m⟩:kvs.length<=sizeLine/\(p==sysModules)=false/\∃vs,KV kvs vs/\s.heap.DictOf (qK X.prog X.w) p vs:=I.hok p _ hx;have hlen:kvs.length=vs.length:=Paired.length r;exact wpAny_truthy_dict hS m (by omega) ⟨H,I.tok _,by rw[yr r];exact q⟩
 |_=>exact(show False from e).elim
theorem Cm(ha:PE X a ta)(he:∀whole,isTrue a X.env whole=(do let v <-whole;standAt a.pos;holding [v] (truthy v))) :
  PT X a (λσ H Q=>ta σ H λx H'=>∃k,Ck X.K x H' k/\Q k H'):=by
 intro pins s σ H Q I h;exact isTrue_plain (bJ (ha pins s σ H _ I h) λv s1 ⟨x,H1,I1,r1,q1⟩=>Jl pins s1 σ H1 x v Q I1 r1 q1) (he _)
theorem yt:dQ X (binaryOp .Add) (λx y H Q=>∃i j,x=.str i/\y=.str j/\i.length+j.length<=sizeLine/\Q (.str (i++j)) H):=by
 intro pins s σ H x y v u Q I rx ry h;obtain⟨i,j,rfl,rfl,hz,q⟩:=h;obtain⟨t,rfl⟩:=rx;obtain⟨t',rfl⟩:=ry;exact add_str (λt' tk=>⟨.str (i++j),H,I.tok _,⟨_,rfl⟩,q⟩) hz
theorem vals1{x:V}{us:List Value}(r:Vals [x] us):∃u,us=[u]/\RelV x u:=by
 cases r with
 |cons r1 r2=>cases r2;exact⟨_,rfl,r1⟩
theorem vals2{x y:V}{us:List Value}(r:Vals [x,y] us):∃u w',us=[u,w']/\RelV x u/\RelV y w':=by
 cases r with
 |cons r1 r2=>
  cases r2 with
  |cons r3 r4=>cases r4;exact⟨_,_,rfl,r1,r3⟩
theorem Ac (hc:X.calm=true):gz X (.builtin "min") (λxs H Q=>∃i j,xs=[.int i,.int j]/\Q (.int (if j<i then j else i)) H):=by
 intro pins s σ H xs us Q I r h;obtain⟨i,j,rfl,q⟩:=h;obtain⟨u,w',rfl,⟨t,rfl⟩,⟨t',rfl⟩⟩:=vals2 r;refine min_two_ints (I.ok.hd hc) λh' tk k=>⟨_,H,I.kept k,?_,q⟩
 by_cases hj:j<i
 .rw[if_pos hj,if_pos hj];exact⟨_,rfl⟩
 .rw[if_neg hj,if_neg hj];exact⟨_,rfl⟩
end
end L2
namespace L2
open PySem PySem.Spec PyProof.Rows
structure Uy(h:Heap)(x dx C:Addr)(mA:Str->Option Value):Prop where
 obj:h.get? x=some (PySem.W.instObj C dx)
 ns:h.Ns1 dx mA
 ne:dx≠x
section
variable{prog:Program}{w:World}{A:Around}{E:Value->Shared->Prop}{s:Shared}{K:PySem.W.Frag}{x dx C f:Addr}{mA:Str->Option Value}{name:Str}{v:Value}
end
section
variable{P:Program}{w:World}{H H':Hp}{h h':Heap}{a C dx:Addr}{fs fs':List (Str×V)}
end
structure Sx(K:PySem.W.Frag)(C:Addr):Prop where
 pg:PySem.W.plainGet K C Str.empty=true
 hd:PySem.W.hasDictIn K C=true
 po:PySem.W.plainOver K C=true
 sa:PySem.W.findIn K (.ref C) "__setattr__" = some (some (.builtin "object.__setattr__"))
structure UA(K:PySem.W.Frag)(C:Addr)(f:Str)(v:V)(u:Value):Prop where
 at_:PySem.W.findIn K (.ref C) f=some (some u)
 rel:RelV v u
 get:PySem.W.specialIn K u "__get__" = some none
 cp:PySem.W.copiedNames.contains f=false
structure Meth(K:PySem.W.Frag)(C:Addr)(m:Str)(f:Addr):Prop where
 at_:PySem.W.findIn K (.ref C) m=some (some (.ref f))
 fn:PySem.W.isFn K (.ref f)=true
 kp:PySem.W.keepIn K (.ref f)=true
section
variable{X:Cx}{pins:List (Addr×Obj)}{σ:St}{H:Hp}{s:Shared}{a C dx:Addr}{fs:List (Str×V)}{f:Str}{v:V}{A:Around}{E:Value->Shared->Prop}
end
section
variable{X:Cx}{o e value:Expr}{f:Str}{pos pos' tpos:Pos}{ta tv:TE}
end
section
variable{X:Cx}{pins:List (Addr×Obj)}{σ:St}{H:Hp}{s:Shared}{A:Around}{E:Value->Shared->Prop}{Q:Value->Shared->Prop}{c:Value}{b:Bool}
inductive jG(K:PySem.W.Frag)(H:Hp):V->Value->Prop where
 |aQ:jG K H .aQ (.type "NoneType")
 |bl (x:Bool):jG K H (.bl x) (.type "bool")
 |int (i:Int):jG K H (.int i) (.type "int")
 |str (x:Str):jG K H (.str x) (.type "str")
 |zN (x:UInt64):jG K H (.zN x) (.type "float")
 |lst {a:Addr} {xs:List V} (e:H a=some (.lst xs)):jG K H (.ref a) (.type "list")
 |bS {a:Addr} {o:Obj} {xs:List V} (e:H a=some (.bS o (.lst xs))):jG K H (.ref a) (.type "list")
 |tup {a:Addr} {xs:List V} (e:H a=some (.tup xs)):jG K H (.ref a) (.type "tuple")
 |dK {a:Addr} {kvs:List (Key×V)} (e:H a=some (.dK kvs)):jG K H (.ref a) (.type "dict")
 |dT {a:Addr} {kvs:List (List Key×V)} (e:H a=some (.dT kvs)):jG K H (.ref a) (.type "dict")
 |ins {a C dx:Addr} {fs:List (Str×V)} (e:H a=some (.ins C dx fs)) (cl:Sx K C) (ha:PySem.W.findIn K (.ref C) "__class__" = some (some (.builtin "object.__class__")))
   (hn:PySem.W.specialIn K (.builtin "object.__class__") "__get__" = some (some (.builtin "getset_descriptor.__get__"))) (htk:PySem.W.takesIn K (.builtin "object.__class__")=some true)
   (hm:PySem.W.mroIn K C (.type "object")=some true):jG K H (.ref a) (.ref C)
end
end L2
namespace L2
open PySem PySem.Spec PyProof.Rows
structure gp(k:Nat)(A:Around):Prop where
 hd:A.handled=none
 dp:A.depth+3*k+5<recursionLimit
 un:A.units+16*k+200<cLine
theorem gp.deeper{k:Nat}{A:Around}(r:gp (k+1) A)(env:Env):gp k (A.deeper env):=
 ⟨r.hd,by have:=r.dp;show A.depth+1+3*k+5<_;omega,by have:=r.un;show A.units+3+16*k+200<_;omega⟩
theorem gp.depth{k:Nat}{A:Around}(r:gp k A):A.depth<recursionLimit:=by have:=r.dp;omega
noncomputable def QJ:TA:=λ_ H Q=>Q [] H
noncomputable def NF(ta:TE)(tr:TA):TA:=λσ H Q=>ta σ H λx H1=>tr σ H1 λxs H2=>Q (x :: xs) H2
section
variable{X:Cx}{e:Expr}{es:List Expr}{te:TE}{t:TA}{pos:Pos}
theorem kE:PA X [] QJ:=λ_ _ _ _ H Q I h=>Calls.spliced_nil ⟨[],H,I,.nil,h⟩
theorem fD(ha:PE X e te)(hr:PA X es t)(hs:starEach (e :: es) X.env=(false,eval e X.env) :: starEach es X.env:=by rfl):PA X (e :: es) (NF te t):=by
 intro pos pins s σ H Q I h;rw[hs];show wpAny _ _ (spliced ((false,eval e X.env) :: backTo pos (starEach es X.env))) _ _ s;refine Calls.spliced_cons (bJ (ha pins s σ H _ I h) λu s1 ⟨x,H1,I1,r1,q1⟩=>?_);exact bJ (hr pos pins s1 σ H1 _ I1 q1) λus s2 ⟨xs,H2,I2,r2,q2⟩=>⟨x :: xs,H2,I2,.cons r1 r2,q2⟩
noncomputable def QK(t:TA):TE:=λσ H Q=>t σ H λxs H1=>xs.length<=sizeLine/\∀p,H1 p=none->Q (.ref p) (upd H1 p (.tup xs))
noncomputable def QL(t:TA):TE:=λσ H Q=>t σ H λxs H1=>xs.length<=sizeLine/\∀p,H1 p=none->Q (.ref p) (upd H1 p (.lst xs))
theorem Ad{x1}(h:PA X es t):PE X (.Tuple es x1 pos) (QK t):=by
 intro pins s σ H Q I hq;refine wpAny_Tuple_spliced (bJ (h pos pins s σ H _ I hq) λus s1 ⟨xs,H1,I1,r,z,q⟩=>⟨by rw[<-r.length];exact z,?_⟩);have hf:H1 s1.heap.objs.size=none:=I1.hok.fresh (Nat.le_refl _);refine⟨.ref s1.heap.objs.size,upd H1 s1.heap.objs.size (.tup xs),I1.laid (t':=s1.toks) (λb u e=>Heap.get?_push_of_some _ e) (Nat.le_refl _) ?_,rfl,q _ hf⟩;exact⟨z,us,r,⟨_,Heap.get?_push_size _ rfl,rfl,_,rfl⟩⟩
theorem Ae(h:PA X es t):PE X (.List es pos) (QL t):=by
 intro pins s σ H Q I hq;refine wpAny_List_spliced (bJ (h pos pins s σ H _ I hq) λus s1 ⟨xs,H1,I1,r,z,q⟩=>⟨by rw[<-r.length];exact z,?_⟩);have hf:H1 s1.heap.objs.size=none:=I1.hok.fresh (Nat.le_refl _);refine⟨.ref s1.heap.objs.size,upd H1 s1.heap.objs.size (.lst xs),I1.laid (t':=s1.toks) (λb u e=>Heap.get?_push_of_some _ e) (Nat.le_refl _) ?_,rfl,q _ hf⟩;exact⟨z,us,0,r,Heap.get?_push_size _ rfl⟩
end
abbrev Sp:=List V->Hp->VK->XK->Prop
abbrev kF:=List Env->Hp->Shared->XK->Value->Shared->Prop
structure qM(P:Program)(w:World)(K:PySem.W.Frag)(mg:Str->Option Value)(base:Heap)(A:Around)(outer:List Env)(s:Shared)(H:Hp):Prop where
 frames:A.frames=some outer
 mod:Mod K mg base
 bs:∀b o,base.get? b=some o->s.heap.get? b=some o/\H b=none
 mC:base.objs.size<=s.heap.objs.size
 gH:s.heap.FunFrames base outer
 oq:∀b∈frs outer,H b=none
 hok:eK P w H s.heap
 bare:AllBare s.gens
noncomputable def CE(outer:List Env)(P:Program)(w:World)(H:Hp)(s:Shared)(Q:VK)(u:Value)(s':Shared):Prop:=
 ∃v H',s'.os=s.os/\AllBare s'.gens/\Un (frs outer) [] H H' s.heap s'.heap/\eK P w H' s'.heap/\RelV v u/\Q v H'
noncomputable def CR(CX:kF)(outer:List Env)(P:Program)(w:World)(H:Hp)(s:Shared)(Q:VK)(E:XK)(r:Result)(s':Shared):Prop:=
 match r with
 |.ok (.ret u)=>CE outer P w H s Q u s'
 |.ok _=>False
 |.error e=>CX outer H s E e s'
structure eO(P:Program)(w:World)(K:PySem.W.Frag)(mg:Str->Option Value)(base:Heap)(CX:kF)(k:Nat)(f:Addr)(fd:FuncData)(ps:List Str)(sp:Sp):Prop where
 len:∀vs H Q E,sp vs H Q E->vs.length=ps.length
 run:∀(A:Around) (outer:List Env) (s:Shared) (H:Hp) (args:Args) (us:List Value) (vs:List V) (Q:VK) (E:XK),gp k A->qM P w K mg base A outer s H->BindsTo s fd args (ps.zip us)->Vals vs us->sp vs H Q E->
  codeAny (model P w) A (.call (.ref f) args) (CR CX outer P w H s Q E) s
section
variable{X:Cx}{pins:List (Addr×Obj)}{σ:St}{H:Hp}{s s':Shared}
theorem Inv.j9(I:Inv X pins σ H s):qM X.prog X.w X.K X.mg X.base X.A X.stack s H:=
 ⟨I.ok.frames,I.ok.mod,I.bs,Nat.le_trans I.ok.mC I.sz,I.stack,I.qL,I.hok,I.bare⟩
theorem Inv.after{Q:VK}{u:Value}(I:Inv X pins σ H s)(h:CE X.stack X.prog X.w H s Q u s'):EP X pins σ Q u s':=by
 obtain⟨v,H',os,bare,un,hok,r,q⟩:=h;obtain⟨hh,g,d,t,os'⟩:=s';obtain rfl:os'=s.os:=os;exact⟨v,H',I.call (h':=hh) (g':=g) (d':=d) (t':=t) (ch:=[]) un hok bare (λb z=>absurd z (by simp)),r,q⟩
end
noncomputable def NG(sp:Sp)(jH:List V)(E:XK)(t:TA):TE:=λσ H Q=>t σ H λvs H1=>sp (vs++jH) H1 Q E
noncomputable def Binds(K:PySem.W.Frag)(fd:FuncData)(ps:List Str)(ds:List Value):Prop:=
 ∀(s:Shared) (us:List Value),K.In s.heap->(us++ds).length=ps.length->BindsTo s fd ⟨us,[]⟩ (ps.zip (us++ds))
theorem Binds.all{K:PySem.W.Frag}{fd:FuncData}{ps:List Str}(h:∀us:List Value,us.length=ps.length->bindArgs fd ⟨us,[]⟩=pure (ps.zip us)):Binds K fd ps []:=λs us _ hl=>by
 rw[List.append_nil]at hl ⊢;exact .of_eq (h us hl)
noncomputable def Passes(CX:kF)(X:Cx)(E:XK):Prop:=∀(pins:List (Addr×Obj)) (σ:St) (H:Hp) (s:Shared) (e:Value) (s':Shared),Inv X pins σ H s->CX X.stack H s E e s'->X.xe e s'
section
variable{X:Cx}{CX:kF}{k:Nat}{f C:Addr}{fd:FuncData}{ps:List Str}{sp:Sp}{jH:List V}{ds:List Value}{E:XK}{x m:Str}{p pos apos:Pos}{e o:Expr}{es:List Expr}{ta:TE}{t:TA}
theorem Jm{pins:List (Addr×Obj)}{σ:St}{H:Hp}{s:Shared}{Q:VK}{us:List Value}{vs:List V}(F:eO X.prog X.w X.K X.mg X.base CX k f fd ps sp)(hr:gp k X.A)(hb:Binds X.K fd ps ds)(hd:Vals jH ds)(hx:Passes CX X E)
  (I:Inv X pins σ H s) (r:Vals vs us) (h:sp (vs++jH) H Q E):wpAny (model X.prog X.w) X.A (call (.ref f) us) (EP X pins σ Q) X.xe s:=by
 have r2:Vals (vs++jH) (us++ds):=r.append hd;have hl:(us++ds).length=ps.length:=by rw[<-r2.length];exact F.len _ _ _ _ h
 refine wpAny_call (codeAny_mono (F.run X.A X.stack s H ⟨us,[]⟩ (us++ds) (vs++jH) Q E hr I.j9 (hb s us I.jD hl) r2 h) λr s' hq=>?_);cases r with
 |error e=>exact hx pins σ H s e s' I hq
 |ok fl=>
  cases fl with
  |ret u=>exact I.after hq
  |next=>exact False.elim hq
  |brk=>exact False.elim hq
  |cont=>exact False.elim hq
theorem qN(F:eO X.prog X.w X.K X.mg X.base CX k f fd ps sp)(hr:gp k X.A)(hg:Gl X x)(hm:X.mg x=some (.ref f))(hk:PySem.W.keepIn X.K (.ref f)=true)(hb:Binds X.K fd ps ds)(hd:Vals jH ds)(hx:Passes CX X E)
  (ha:PA X (e :: es) t) (hdb:(x==("__debug__" : Str))=false:=by decide) (he:starEach (e :: es) X.env=(false,eval e X.env) :: starEach es X.env:=by rfl) (hpl:(backTo pos (starEach es X.env)).any (·.1)=false:=by rfl) :
  PE X (.Call (.Name x p) (e :: es) [] pos) (NG sp jH E t):=by
 intro pins s σ H Q I h;refine wpAny_Call_Name_kw (nB I hg hm ?_ hdb);refine PySem.W.callWith_K (h₀:=X.base) I.ok.mod.cY hk (bJ (ha pos pins s σ H _ I h) λus s1 ⟨vs,H1,I1,r,q⟩=>⟨I1.jD,?_⟩) he hpl;exact Jm F hr hb hd hx I1 r q
structure Mk(K:PySem.W.Frag)(C f:Addr):Prop where
 makes:PySem.W.makesIn K C=true
 init:PySem.W.findIn K (.ref C) "__init__" = some (some (.ref f))
 fn:PySem.W.isFn K (.ref f)=true
 kp:PySem.W.keepIn K (.ref C)=true
end
section
variable{X:Cx}{CX:kF}{k:Nat}{f C:Addr}{fd:FuncData}{ps ks:List Str}{sp:Sp}{E:XK}{x m:Str}{p pos apos kpos:Pos}{e o:Expr}{es:List Expr}{kws:List Keyword}{te ta:TE}{t tk:TA}{nm:Option Str}
structure Sy(K:PySem.W.Frag)(fd:FuncData)(ps ks:List Str)(g:List Value->List Value->List Value)(gV:List V->List V->List V):Prop where
 to:∀(s:Shared) (us ws:List Value),K.In s.heap->(g us ws).length=ps.length->BindsTo s fd ⟨us,ks.zip ws⟩ (ps.zip (g us ws))
 rel:∀{vs:List V} {us:List Value} {zs:List V} {ws:List Value},Vals vs us->Vals zs ws->Vals (gV vs zs) (g us ws)
variable{g:List Value->List Value->List Value}{gV:List V->List V->List V}
end
structure bG(N P:List Str)(sc:Scope):Prop where
 kind:sc.kind=.function
 co:sc.isCoroutine=false
 gen:sc.isGenerator=false
 nd:N.Nodup
 pre:N.take P.length=P
 par:∀x∈P,sc.names.lookup x=some .local\/sc.names.lookup x=some .cell
 Jo:∀y∈sc.names,y.2≠.free
theorem rV{kindOf:Str->Option NameKind}{x:Str}:∀{binds:List (Str×Value)}{m:Str->Option Value},(∀v,(x,v)∉binds)->bindL kindOf binds m x=m x
 |[],_,_=>rfl
 | (n,v) :: r,m,h=>by
  unfold bindL;rw[rV λw hw=>h w (List.mem_cons_of_mem _ hw)];split
  .have:x≠n:=by rintro rfl;exact h v List.mem_cons_self
   simp[this]
  .rfl
theorem rW{kindOf:Str->Option NameKind}{x:Str}:∀{binds:List (Str×Value)}{m:Str->Option Value},(∀v,(x,v)∉binds)->bindC kindOf binds m x=m x
 |[],_,_=>rfl
 | (n,v) :: r,m,h=>by
  unfold bindC;rw[rW λw hw=>h w (List.mem_cons_of_mem _ hw)];split
  .rfl
  .have:x≠n:=by rintro rfl;exact h v List.mem_cons_self
   simp[this]
theorem rY{kindOf:Str->Option NameKind}{x:Str}{v:Value}:∀{P:List Str}{vs:List Value}{i:Nat}{m:Str->Option Value},P.Nodup->P[i]?=some x->vs[i]?=some v->kindOf x=some .local->
  bindL kindOf (P.zip vs) m x=some v
 |[],_,_,_,_,h,_,_=>by simp at h
 |_ :: _,[],_,_,_,_,h,_=>by simp at h
 |p :: P,w :: vs,0,m,nd,h1,h2,hk=>by
  simp at h1 h2;subst h1;subst h2;show bindL kindOf ((p,w) :: P.zip vs) m p=_;unfold bindL;rw[rV λv hv=>(List.nodup_cons.mp nd).1 (List.of_mem_zip hv).1,if_pos hk];simp
 |p :: P,w :: vs,i+1,m,nd,h1,h2,hk=>by
  show bindL kindOf ((p,w) :: P.zip vs) m x=_;unfold bindL;exact rY (i:=i) (List.nodup_cons.mp nd).2 (by simpa using h1) (by simpa using h2) hk
theorem rZ{kindOf:Str->Option NameKind}{x:Str}{v:Value}:∀{P:List Str}{vs:List Value}{i:Nat}{m:Str->Option Value},P.Nodup->P[i]?=some x->vs[i]?=some v->kindOf x≠some .local->
  bindC kindOf (P.zip vs) m x=some v
 |[],_,_,_,_,h,_,_=>by simp at h
 |_ :: _,[],_,_,_,_,h,_=>by simp at h
 |p :: P,w :: vs,0,m,nd,h1,h2,hk=>by
  simp at h1 h2;subst h1;subst h2;show bindC kindOf ((p,w) :: P.zip vs) m p=_;unfold bindC;rw[rW λv hv=>(List.nodup_cons.mp nd).1 (List.of_mem_zip hv).1,if_neg hk];simp
 |p :: P,w :: vs,i+1,m,nd,h1,h2,hk=>by
  show bindC kindOf ((p,w) :: P.zip vs) m x=_;unfold bindC;exact rZ (i:=i) (List.nodup_cons.mp nd).2 (by simpa using h1) (by simpa using h2) hk
noncomputable def start(N:List Str)(vs:List V):St:=vs.map some++List.replicate (N.length - vs.length) none
noncomputable def jd(CX:kF)(P:Program)(w:World)(K:PySem.W.Frag)(mg:Str->Option Value)(base:Heap)(N:List Str)(qual:Str)(scope:Scope)(f:Addr)(cd:Value)(A:Around)(outer:List Env)(s:Shared)(H:Hp)(E:XK):Cx where
 prog:=P
 w:=w
 K:=K
 mg:=mg
 base:=base
 A:=A.deeper (envOfC qual scope s.heap.objs.size f cd)
 N:=N
 s₀:=s
 H₀:=H
 env:=envOfC qual scope s.heap.objs.size f cd
 outer:=outer
 stack:=envOfC qual scope s.heap.objs.size f cd :: outer
 ex:=[]
 calm:=true
 fn:=λ_=>true
 pn:=[]
 xe:=λe s'=>wpAny (model P w) (A.deeper (envOfC qual scope s.heap.objs.size f cd)) (leaving (envOfC qual scope s.heap.objs.size f cd) e) (λ_ s''=>CX outer H s E e s'') (λe' s''=>CX outer H s E e' s'') s'
theorem tZ{sc:Scope}{n:Nat}{x:Str}(h:sc.names.lookup x=some .cell):∃c,(cellsFrom n sc.names []).lookup x=some c:=by
 have q:=PySem.W.cellsFrom_some sc.names n [] (.inl h);exact Option.isSome_iff_exists.mp q
theorem r8{CX:kF}{P:Program}{w:World}{K:PySem.W.Frag}{mg:Str->Option Value}{base:Heap}{N ps:List Str}{qual:Str}{scope:Scope}{f:Addr}{cd:Value}{A:Around}{outer:List Env}{s s1:Shared}{H:Hp}{E:XK}{us:List Value}{vs:List V}
  (S:bG N ps scope) (hd:A.handled=none) (e0:qM P w K mg base A outer s H) (hl:vs.length=ps.length) (r:Vals vs us)
  (x:InCallC s s.heap.objs.size (bindL (envOfC qual scope s.heap.objs.size f cd).kindOf (ps.zip us) λ_=>none) (cellsFrom (s.heap.objs.size+1) scope.names []) (bindC (envOfC qual scope s.heap.objs.size f cd).kindOf (ps.zip us) λ_=>none) s1) :
  Inv (jd CX P w K mg base N qual scope f cd A outer s H E) [] (start N vs) H s1:=by
 have hpl:ps.length<=N.length:=by have:=congrArg List.length S.pre;rw[List.length_take]at this;omega
 obtain⟨h1,tk,rfl,hk⟩:=x.done;have Af:∀b:Addr,b∉(jd CX P w K mg base N qual scope f cd A outer s H E).ex:=λb z=>absurd (show b∈([]:List Addr)from z) (by simp);refine⟨⟨e0.mod,S.kind,rfl,rfl,Nat.le_refl _,λy z c h1 h2=>?_,λy hy=>?_,λy c _ h=>?_,λ_=>hd,Around.frames_deeper e0.frames,.inr ⟨rfl,rfl⟩,λb z=>absurd z (Af b),e0.bs,e0.mC,λb _ _=>Af b,λb z=>absurd z (Af b),e0.gH,e0.oq⟩,
  rfl,e0.bare,Un.kept hk,⟨_,x.toInCall.ns,λi y v h1 h2 h3=>?_⟩,λy c h=>⟨_,x.cell y c h⟩,e0.hok.fresh (Nat.le_refl _),λy c h=>?_,λp hp=>absurd (show p∈([]:List (Addr×Obj))from hp) (by simp),e0.hok.kept hk,?_⟩
 .exact name_of_addr x.apart (PySem.mem_of_lookup h1) (PySem.mem_of_lookup h2)
 .have hy:scope.names.lookup y=some .cell\/scope.names.lookup y=some .free:=hy;rcases hy with hy|hy
  .exact tZ hy
  .exact absurd rfl (S.Jo _ (PySem.mem_of_lookup hy))
 .exact Nat.le_of_lt (x.above y c (PySem.mem_of_lookup h))
 .have hi:i<vs.length:=by
   unfold start at h2;by_cases hi:i<vs.length
   .exact hi
   .rw[List.getElem?_append_right (by simpa using hi)]at h2;rw[List.getElem?_replicate]at h2;split at h2<;>cases h2
  have ha:vs[i]?=some v:=by
   unfold start at h2;rw[List.getElem?_append_left (by simpa using hi),List.getElem?_map]at h2;cases e:vs[i]? with
   |none=>rw[e]at h2;cases h2
   |some a=>rw[e]at h2;cases h2;rfl
  obtain⟨u,hu,rv⟩:=r.get ha;have hp:ps[i]?=some y:=by
   rw[<-S.pre,List.getElem?_take_of_lt (by omega)];exact h1
  have Po:ps.Nodup:=by rw[<-S.pre];exact S.nd.sublist (List.take_sublist _ _)
  refine⟨u,rv,?_⟩;rcases S.par y (List.mem_of_getElem? hp)with k|k
  .exact .inl ⟨k,rY Po hp hu k⟩
  .obtain⟨c,e⟩:=tZ (n:=s.heap.objs.size+1) k;refine .inr ⟨.inl k,c,e,?_⟩;have q:=x.cell y c e;rw[rZ Po hp hu (by show scope.names.lookup y≠_;rw[k];decide)]at q;exact q
 .exact e0.hok.fresh (Nat.le_of_lt (x.above y c (PySem.mem_of_lookup h)))
 .unfold start;show _=N.length;rw[List.length_append,List.length_map,List.length_replicate];omega
theorem Eb{CX:kF}{P:Program}{w:World}{K:PySem.W.Frag}{mg:Str->Option Value}{base:Heap}{k:Nat}{f:Addr}{name qual:Str}{params:Arguments}{body:List Stmt}{scope:Scope}{dV kV doc pm cdv ct oc:Value}{an od:Option Addr}
  {osl:Array (Option Value)} {N ps:List Str} {sp:Sp} (lk:K.lookup f=some ⟨oc,od,.func (PySem.W.fnOf name qual params body scope dV kV doc pm an cdv ct),osl⟩) (hcd:PySem.W.codeIn K cdv qual=true) (S:bG N ps scope)
  (len:∀vs H Q E,sp vs H Q E->vs.length=ps.length)
  (hbody:∀(A:Around) (outer:List Env) (s:Shared) (H:Hp) (vs:List V) (Q:VK) (E:XK),gp k (A.deeper (envOfC qual scope s.heap.objs.size f cdv))->sp vs H Q E->
   ∃t,er (jd CX P w K mg base N qual scope f cdv A outer s H E) body t/\t { nx:=λ_ H'=>Q .aQ H',rt:=Q } (start N vs) H) :
  eO P w K mg base CX (k+1) f (PySem.W.fnOf name qual params body scope dV kV doc pm an cdv ct) ps sp:=by
 refine⟨len,λA outer s H args us vs Q E hr e0 hb r ig=>?_⟩;have hl:=len _ _ _ _ ig;have KX:K.In s.heap:=e0.mod.cY.keeps λb o e=>(e0.bs b o e).1;have lim:s.heap.NoLimit:=e0.mod.nolimit.keeps λb o e=>(e0.bs b o e).1;have hkind:∀y∈ps.zip us,scope.names.lookup y.1=some .local\/(scope.names.lookup y.1=some .cell/\((cellsFrom (s.heap.objs.size+1) scope.names []).lookup y.1).isSome=true):=λ⟨n,v⟩ hy=>by
  rcases S.par n (List.of_mem_zip hy).1 with q|q
  .exact .inl q
  .exact .inr ⟨q,PySem.W.cellsFrom_some _ _ _ (.inl q)⟩
 refine codeAny_call_function hr.depth (KX _ _ lk) rfl S.co S.gen rfl (PySem.W.codeRec_of KX hcd) (hb _ _ _ _ ?_);refine wpAny_newFunctionEnv_cells S.kind hkind λenv he s1 x=>?_;subst he;refine⟨lim.keeps x.toInCall.keep,codeAny_func ?_⟩;obtain⟨t,ht,hq⟩:=hbody A outer s H vs Q E (hr.deeper _) ig;have I:Inv (jd CX P w K mg base N qual scope f cdv A outer s H E) [] (start N vs) H s1:=r8 S hr.hd e0 hl r x;refine wpAny_mono (ht [] s1 (start N vs) H _ I hq) (λfl s' hs=>?_) λe s' hs=>hs;have fin:∀{σ':St} {H':Hp} {v:V} {u:Value},Inv (jd CX P w K mg base N qual scope f cdv A outer s H E) [] σ' H' s'->RelV v u->Q v H'->CE outer P w H s Q u s':=
  λ{σ' H' v u} J rv q=>⟨v,H',J.os,J.bare,J.base,J.hok,rv,q⟩
 cases fl with
 |ret u=>
  obtain⟨v,σ',H',J,rv,q⟩:=hs;exact fin J rv q
 |next=>
  obtain⟨σ',H',J,q⟩:=hs;exact fin (v:=V.aQ) (u:=Value.none) J rfl q
 |brk=>
  obtain⟨_,_,_,q⟩:=hs;exact False.elim q
 |cont=>
  obtain⟨_,_,_,q⟩:=hs;exact False.elim q
end L2
namespace L2
open PySem PySem.Spec PyProof.Rows
section
variable{X:Cx}{x:Str}{p pos:Pos}{e:Expr}{es:List Expr}{t:TA}{id T:String}{r:List V->Hp->VK->Prop}
noncomputable def Jp(r:List V->Hp->VK->Prop)(t:TA):TE:=λσ H Q=>t σ H λvs H1=>r vs H1 Q
theorem t6 (hc:gz X (.builtin id) r) (hg:Gl X x) (hm:X.mg x=none) (hv:bootBuiltins x=some (.builtin id)) (ha:PA X (e :: es) t) (hn:x≠"__name__" :=by decide) (hdb:(x==("__debug__" : Str))=false:=by decide)
  (he:starEach (e :: es) X.env=(false,eval e X.env) :: starEach es X.env:=by rfl) (hpl:(backTo pos (starEach es X.env)).any (·.1)=false:=by rfl):PE X (.Call (.Name x p) (e :: es) [] pos) (Jp r t):=by
 intro pins s σ H Q I h;refine wpAny_Call_Name_kw (kC I hg hm hv ?_ hn hdb);exact PyProof.Rows.callWith_builtin1 (bJ (ha pos pins s σ H _ I h) λus s1 ⟨vs,H1,I1,r1,q1⟩=>hc pins s1 σ H1 vs us Q I1 r1 q1) he hpl
theorem Ag (hc:gz X (.type T) r) (hg:Gl X x) (hm:X.mg x=none) (hv:bootBuiltins x=some (.type T)) (ha:PA X (e :: es) t) (hn:x≠"__name__" :=by decide) (hdb:(x==("__debug__" : Str))=false:=by decide)
  (he:starEach (e :: es) X.env=(false,eval e X.env) :: starEach es X.env:=by rfl) (hpl:(backTo pos (starEach es X.env)).any (·.1)=false:=by rfl):PE X (.Call (.Name x p) (e :: es) [] pos) (Jp r t):=by
 intro pins s σ H Q I h;refine wpAny_Call_Name_kw (kC I hg hm hv ?_ hn hdb);exact PyProof.Rows.callWith_type1 (bJ (ha pos pins s σ H _ I h) λus s1 ⟨vs,H1,I1,r1,q1⟩=>hc pins s1 σ H1 vs us Q I1 r1 q1) he hpl
end
end L2
namespace HT
open PySem PyProof.Rows
section
open PySem.SeqAt
open PySem.AutoSeq1 (wpAny_loadPart')
open PySem.MeetsSeq PySem.MeetsSeq2 PySem.MeetsSeq3
end
section
variable{prog:Program}{w:World}{A:Around}{E:Value->Shared->Prop}{s:Shared}
theorem Gj{t b:Addr}{vs ws:List Value}{Q:Value->Shared->Prop}(ht:IsTup s.heap t vs.toArray)(hb:IsTup s.heap b ws.toArray)(hv:vs≠[])
  (h1:ws=[]->Q (.ref t) s) (h2:ws≠[]->Q (.ref s.heap.objs.size) { s with heap:=s.heap.push { cls:=.type "tuple",data:=.seq (vs++ws).toArray }})
  (hsz:vs.length+ws.length<=sizeLine):wpAny (model prog w) A (binaryOp .Add (.ref t) (.ref b)) Q E s:=by
 obtain⟨⟨cls,dd,data,sl⟩,ho,hc,n,hd⟩:=id ht;obtain⟨⟨QM,dd2,data2,sl2⟩,ho2,hc2,n2,hd2⟩:=id hb;simp only at hc hd hc2 hd2;subst hc hd hc2 hd2;have e:vs.toArray++ws.toArray=(vs++ws).toArray:=by simp
 by_cases hw:ws=[]
 .exact concat_meets ⟨_,ho,rfl⟩ ⟨_,ho2,rfl⟩ noFill_tuple_add seq_tuple_add PySem.F.slot_tuple_add PySem.F.entry_tuple_add (PySem.F.args_tuple_add_2 _ _)
   (tuple_addW1 t b vs.toArray ws.toArray n n2 dd dd2 sl sl2 (by simpa using hv) (by simp[hw])) ⟨ho,ho2,h1 hw⟩
 .refine concat_meets ⟨_,ho,rfl⟩ ⟨_,ho2,rfl⟩ noFill_tuple_add seq_tuple_add PySem.F.slot_tuple_add PySem.F.entry_tuple_add (PySem.F.args_tuple_add_2 _ _)
   (tuple_addW2 t b vs.toArray ws.toArray n n2 dd dd2 sl sl2 (by simpa using hv) (by simpa using hw) (by rw[List.size_toArray,List.size_toArray];exact hsz)) ⟨ho,ho2,?_⟩
  rw[e];exact h2 hw
noncomputable def aO(n d:Nat):Option Int->Nat
 |none=>d
 |some v=>if v<0 then (v+(n:Int)).toNat else min v.toNat n
theorem t7(n d:Nat)(hd:d<=n)(o:Option Int):aO n d o<=n:=by
 cases o with
 |none=>exact hd
 |some v=>
  show(if v<0 then (v+(n:Int)).toNat else min v.toNat n)<=n;by_cases hv:v<0
  .rw[if_pos hv];omega
  .rw[if_neg hv];exact Nat.min_le_right _ _
theorem wA(v:Int)(n d:Nat):(if v<0 then max (v+(n:Int)) 0 else min v (n:Int))=((aO n d (some v):Nat):Int):=by
 show(if v<0 then max (v+(n:Int)) 0 else min v (n:Int))=(((if v<0 then (v+(n:Int)).toNat else min v.toNat n):Nat):Int)
 by_cases hv:v<0
 .simp only[if_pos hv];omega
 .simp only[if_neg hv];omega
theorem yu(lo hi:Option Int)(n:Nat):Builtin.Slice.sliceAdjust lo hi 1 (n:Int)=(((aO n 0 lo:Nat):Int),((aO n n hi:Nat):Int)):=by
 have h1:¬ ((1:Int)<0):=by omega
 unfold Builtin.Slice.sliceAdjust;simp only[h1,if_false];refine Prod.ext ?_ ?_
 .cases lo with
  |none=>rfl
  |some v=>exact wA v n 0
 .cases hi with
  |none=>rfl
  |some v=>exact wA v n n
theorem yv(i j:Nat):Builtin.Slice.slicePlaces (i:Int) (j:Int) 1=j - i:=by
 unfold Builtin.Slice.slicePlaces;have h1:(1:Int) > 0:=by omega
 simp only[h1,if_true,Int.ediv_one];split<;>omega
theorem pU{v:Value}{o:Option Int}{Q:Option Int->Shared->Prop}(p:IsPart v o)(h:Q o s):wpAny (model prog w) A (Builtin.Slice.slicePartIndex v) Q E s:=by
 cases p with
 |none=>exact slicePart_none h
 |int i t=>exact slicePart_int h
theorem jI{sl:Addr}{vl vu:Value}{lo hi:Option Int}{n:Nat}{Q:Int×Int×Nat->Shared->Prop}(hs:s.heap.IsSliceOf sl vl vu .none)(pl:IsPart vl lo)(pu:IsPart vu hi)
  (h:Q (((aO n 0 lo:Nat):Int),1,aO n n hi - aO n 0 lo) s):wpAny (model prog w) A (Builtin.Slice.sliceApplied (.ref sl) (pure (n:Int))) Q E s:=by
 obtain⟨os,hos,hcs,hds⟩:=id hs;unfold Builtin.Slice.sliceApplied Builtin.Slice.sliceFields;refine wpAny_bind (wpAny_bind (wpAny_field hos hds (x:=vl) rfl (wpAny_bind (wpAny_field hos hds (x:=vu) rfl (wpAny_bind (wpAny_field hos hds (x:=.none) rfl (wpAny_pure ?_)))))));refine wpAny_bind (slicePart_none ?_);show wpAny _ _ (if ((1:Int)==0)=true then _ else _) _ _ s;rw[if_neg (by decide)];refine wpAny_bind (pU pl (wpAny_bind (pU pu (wpAny_bind (wpAny_pure ?_)))));show wpAny _ _ (match Builtin.Slice.sliceAdjust lo hi 1 (n:Int)with | (lo,hi)=>pure (lo,(1:Int),Builtin.Slice.slicePlaces lo hi 1)) _ _ s;rw[yu lo hi n];show wpAny _ _ (pure (((aO n 0 lo:Nat):Int),(1:Int),Builtin.Slice.slicePlaces ((aO n 0 lo:Nat):Int) ((aO n n hi:Nat):Int) 1)) _ _ s;rw[yv];exact wpAny_pure h
theorem Cn(xs:Array Value)(i k:Nat):((List.range k).filterMap λ(m:Nat)=>xs[((i:Int)+(m:Int)*1).toNat]?).toArray=((xs.toList.drop i).take k).toArray:=by
 have e:(λ(m:Nat)=>xs[((i:Int)+(m:Int)*1).toNat]?)=λm=>xs[i+m]?:=by
  funext m
  have:((i:Int)+(m:Int)*1).toNat=i+m:=by omega
  rw[this]
 rw[e];have:=pick_run xs i k;rw[List.filterMap_map]at this;have e2:((λx=>xs[x]?) ∘ λx=>i+x)=λm=>xs[i+m]?:=rfl;rw[e2]at this;rw[this]
theorem om{t sl:Addr}{items:Array Value}{vl vu:Value}{lo hi:Option Int}{Q:Value->Shared->Prop}(ht:IsTup s.heap t items)(hs:s.heap.IsSliceOf sl vl vu .none)(pl:IsPart vl lo)(pu:IsPart vu hi)
  (hw:¬ (aO items.size 0 lo=0/\aO items.size items.size hi=items.size))
  (h:Q (.ref s.heap.objs.size) { s with heap:=s.heap.push { cls:=.type "tuple",data:=.seq ((items.toList.drop (aO items.size 0 lo)).take (aO items.size items.size hi - aO items.size 0 lo)).toArray }})
  (hsz:items.size<=sizeLine):wpAny (model prog w) A (getItem (.ref t) (.ref sl)) Q E s:=by
 have tG:sizeOk (.seq ((items.toList.drop (aO items.size 0 lo)).take (aO items.size items.size hi - aO items.size 0 lo)).toArray):=by
  show((items.toList.drop (aO items.size 0 lo)).take (aO items.size items.size hi - aO items.size 0 lo)).toArray.size<=sizeLine;rw[List.size_toArray,List.length_take,List.length_drop,Array.length_toList];omega
 have hj:aO items.size items.size hi<=items.size:=t7 _ _ (Nat.le_refl _) hi;obtain⟨os,hos,hcs,hds⟩:=id hs;have Jq:s.TypeIs (.ref sl) "slice" :=⟨os,hos,hcs⟩
 unfold getItem;try with_reducible refine wpAny_holding ?_
 first|refine wpAny_bind (wpAny_pure ?_)|skip
 refine wpAny_bind (wpAny_sequenceKey ht.typeIs (by decide) ?_);refine wpAny_bind (wpAny_callSpecial?_slot (name:=Str.ofString "__getitem__") ht.typeIs PyProof.Rows.slot_tuple_getitem
  (wpAny_call_entry PyProof.Rows.slot_tuple_getitem ht.typeIs entry_tuple_getitem ?_ (args_tuple_getitem _ _)))
 show wpAny _ _ (Builtin.Tuple.tupleItemsOf (.ref t) >>= _) _ _ s;refine wpAny_bind (tupleItemsOf_ ht ?_);refine wpAny_bind (wpAny_typeOf Jq ?_);rw[if_pos (by decide)];refine wpAny_bind (jI hs pl pu ?_);have hno:¬ ((((aO items.size 0 lo:Nat):Int)==0&&(1:Int)==1&&(aO items.size items.size hi - aO items.size 0 lo)==items.size)=true):=by
  intro q;rw[Bool.and_eq_true,Bool.and_eq_true]at q;have q1:((aO items.size 0 lo:Nat):Int)=0:=eq_of_beq q.1.1;have q2:aO items.size items.size hi - aO items.size 0 lo=items.size:=eq_of_beq q.2;exact hw ⟨by omega,by omega⟩
 show wpAny _ _ (if (((aO items.size 0 lo:Nat):Int)==0&&(1:Int)==1&&(aO items.size items.size hi - aO items.size 0 lo)==items.size)=true then _ else _) _ _ s;rw[if_neg hno,Cn];first
  |exact wpAny_bind (m:=Builtin.Tuple.tupleExact _) (wpAny_newObj_type (wpAny_pure ⟨_,rfl,wpAny_pure h⟩) tG)
  |exact wpAny_bind (m:=Builtin.Tuple.tupleExact _) (wpAny_newObj_type (wpAny_bind (wpAny_pure (wpAny_pure ⟨_,rfl,wpAny_pure h⟩))) tG)
  |exact wpAny_bind (wpAny_bind (m:=Builtin.Tuple.tupleExact _) (wpAny_newObj_type (wpAny_pure (wpAny_pure ⟨_,rfl,wpAny_pure h⟩)) tG))
  |exact wpAny_bind (wpAny_bind (m:=Builtin.Tuple.tupleExact _) (wpAny_newObj_type (wpAny_pure ⟨_,rfl,wpAny_pure h⟩) tG))
end
end HT
namespace L2
open PySem PySem.Spec PyProof.Rows
abbrev TO:=St->Hp->(Option Int->Hp->Prop)->Prop
noncomputable def PO(X:Cx)(e:Option Expr)(t:TO):Prop:=
 ∀(pins:List (Addr×Obj)) (s:Shared) (σ:St) (H:Hp) (Q:Option Int->Hp->Prop),Inv X pins σ H s->t σ H Q->
  wpAny (model X.prog X.w) X.A (evalPart e X.env) (λu s'=>∃o H',Inv X pins σ H' s'/\IsPart u o/\Q o H') X.xe s
noncomputable def Gk:TO:=λ_ H Q=>Q none H
noncomputable def NH(t:TE):TO:=λσ H Q=>t σ H λx H1=>∃i,x=.int i/\Q (some i) H1
section
variable{X:Cx}{e:Expr}{te:TE}{lo hi:Option Expr}{tl th:TO}{pos p2:Pos}
theorem Gm:PO X none Gk:=by
 intro pins s σ H Q I h;rw[evalPart_none];exact wpAny_pure ⟨none,H,I,.none,h⟩
theorem Gn(h:PE X e te):PO X (some e) (NH te):=by
 intro pins s σ H Q I hw;rw[evalPart_some];refine bJ (h pins s σ H _ I hw) λu s1 ⟨x,H1,I1,r1,q1⟩=>?_;obtain⟨i,rfl,q⟩:=q1;obtain⟨t,rfl⟩:=r1;exact⟨some i,H1,I1,.int i t,q⟩
noncomputable def kG(X:Cx)(r:V->Option Int->Option Int->Hp->VK->Prop):Prop:=
 ∀(pins:List (Addr×Obj)) (s:Shared) (σ:St) (H:Hp) (x:V) (v vl vu:Value) (lo hi:Option Int) (sl:Addr) (Q:VK),Inv X pins σ H s->RelV x v->s.heap.IsSliceOf sl vl vu .none->IsPart vl lo->IsPart vu hi->r x lo hi H Q->
  ∃T id,typeLookup (.type T) "__getitem__" = pure (some (.builtin id))/\s.TypeIs v T/\wpAny (model X.prog X.w) X.A (getItem v (.ref sl)) (EP X pins σ Q) X.xe s
noncomputable def Sz(r:V->Option Int->Option Int->Hp->VK->Prop)(te:TE)(tl th:TO):TE:=λσ H Q=>te σ H λx H1=>tl σ H1 λl H2=>th σ H2 λu H3=>r x l u H3 Q
theorem Co{r:V->Option Int->Option Int->Hp->VK->Prop}(hr:kG X r)(he:PE X e te)(hl:PO X lo tl)(hu:PO X hi th):PE X (.Subscript e (.Slice lo hi none p2) pos) (Sz r te tl th):=by
 intro pins s σ H Q I h;refine Subscript_ (bJ (he pins s σ H _ I h) λv s1 ⟨x,H1,I1,r1,q1⟩=>?_);refine wpAny_Slice (bJ (hl pins s1 σ H1 _ I1 q1) λvl s2 ⟨l,H2,I2,pl,q2⟩=>bJ (hu pins s2 σ H2 _ I2 q2) λvu s3 ⟨u,H3,I3,pu,q3⟩=>?_);rw[evalPart_none];refine wpAny_pure ?_;have I4:Inv X pins σ H3 { s3 with heap:=s3.heap.push { cls:=.type "slice",data:=.fields #[vl,vu,.none]}}:=I3.kept (t':=s3.toks) λb ob q=>Heap.get?_push_of_some _ q;obtain⟨T,id,hT,ht,hg⟩:=hr pins { s3 with heap:=s3.heap.push { cls:=.type "slice",data:=.fields #[vl,vu,.none]}} σ H3 x v vl vu l u s3.heap.objs.size Q I4 r1 (Heap.IsSliceOf.new ..) pl pu q3;show wpAny (model X.prog X.w) X.A (subscriptTail e (.Slice lo hi none p2) v (.ref s3.heap.objs.size)) (EP X pins σ Q) X.xe { s3 with heap:=s3.heap.push { cls:=.type "slice",data:=.fields #[vl,vu,.none]}};exact tail_any (ops:=[.ref s3.heap.objs.size,v]) ht hT hg (by with_unfolding_all rfl)
noncomputable def mH(xs:List V)(lo hi:Option Int):List V:=(xs.drop (HT.aO xs.length 0 lo)).take (HT.aO xs.length xs.length hi - HT.aO xs.length 0 lo)
theorem oA(xs:List V)(lo hi:Option Int):(mH xs lo hi).length<=xs.length:=by
 unfold mH;rw[List.length_take,List.length_drop];omega
noncomputable def QN(K:PySem.W.Frag):V->Option Int->Option Int->Hp->VK->Prop:=λx lo hi H Q=>∃a xs,x=.ref a/\dD K H a xs/\
 ¬ (HT.aO xs.length 0 lo=0/\HT.aO xs.length xs.length hi=xs.length)/\∀p,H p=none->Q (.ref p) (upd H p (.tup (mH xs lo hi)))
theorem Jr:kG X (QN X.K):=by
 intro pins s σ H x v vl vu lo hi sl Q I rx hs pl pu h;obtain⟨a,xs,rfl,hx,hw,q⟩:=h;cases rx;obtain⟨its,r,ht,hz⟩:=I.tuple hx;have hlen:its.toArray.size=xs.length:=by rw[List.size_toArray];exact r.length.symm
 refine⟨"tuple",_,PyProof.Rows.slot_tuple_getitem.lookup,ht.typeIs,?_⟩;refine HT.om ht hs pl pu (by rw[hlen];exact hw) ?_ (by rw[hlen];exact hz);rw[hlen];refine⟨.ref s.heap.objs.size,_,I.laid (t':=s.toks) (o:=.tup (mH xs lo hi)) (λb ob q=>Heap.get?_push_of_some _ q) (Nat.le_refl _) ?_,rfl,q _ (I.hok.fresh (Nat.le_refl _))⟩;exact⟨Nat.le_trans (oA xs lo hi) hz,_,(r.drop (HT.aO xs.length 0 lo)).take (HT.aO xs.length xs.length hi - HT.aO xs.length 0 lo),IsTup.new _ _⟩
noncomputable def NI(K:PySem.W.Frag):R2:=λx y H Q=>∃a b xs ys,x=.ref a/\y=.ref b/\dD K H a xs/\dD K H b ys/\xs≠[]/\xs.length+ys.length<=sizeLine/\
 (ys=[]->Q (.ref a) H)/\(ys≠[]->∀p,H p=none->Q (.ref p) (upd H p (.tup (xs++ys))))
theorem Vals.qO{xs:List V}{us:List Value}(r:Vals xs us):us=[]↔xs=[]:=by
 cases r with
 |nil=>simp
 |cons _ _=>simp
theorem Gp:dQ X (binaryOp .Add) (NI X.K):=by
 intro pins s σ H x y v u Q I rx ry h;obtain⟨a,b,xs,ys,rfl,rfl,ha,hb,hx,hz,q1,q2⟩:=h;cases rx;cases ry;obtain⟨its,r1,p1,_⟩:=I.tuple ha;obtain⟨its2,r2,p2,_⟩:=I.tuple hb;refine HT.Gj p1 p2 (λz=>hx (r1.qO.mp z)) (λz=>⟨.ref a,H,I,rfl,q1 (r2.qO.mp z)⟩) (λz=>?_) (by rw[<-r1.length,<-r2.length];exact hz);refine⟨.ref s.heap.objs.size,_,I.laid (t':=s.toks) (o:=.tup (xs++ys)) (λb ob q=>Heap.get?_push_of_some _ q) (Nat.le_refl _) ?_,rfl,q2 (λw=>z (r2.qO.mpr w)) _ (I.hok.fresh (Nat.le_refl _))⟩;exact⟨by rw[List.length_append];exact hz,_,r1.append r2,IsTup.new _ _⟩
end
end L2
namespace L2
open PySem PySem.Spec PyProof.Rows
noncomputable def dM(n:Nat)(i:Int):Option Nat:=if 0<=i then (if i<n then some i.toNat else none)else if -(n:Int)<=i then some (i+n).toNat else none
noncomputable def bB{α:Type}(xs:List α)(i:Int):Option α:=(dM xs.length i).bind λj=>xs[j]?
theorem Gq{n:Nat}{i:Int}{j:Nat}(h:dM n i=some j):seqIndex? i n=some j/\j<n/\-(n:Int)<=i/\i<n:=by
 unfold dM at h;by_cases h0:0<=i
 .rw[if_pos h0]at h;by_cases h1:i<n
  .rw[if_pos h1]at h;have e:i.toNat=j:=Option.some.inj h;exact⟨by rw[seqIndex_of h0 h1,e],by omega,by omega,h1⟩
  .rw[if_neg h1]at h;cases h
 .rw[if_neg h0]at h;by_cases h1:-(n:Int)<=i
  .rw[if_pos h1]at h;have e:(i+n).toNat=j:=Option.some.inj h;exact⟨by rw[seqIndex_neg (by omega) h1,e],by omega,h1,by omega⟩
  .rw[if_neg h1]at h;cases h
theorem qP{α:Type}{xs:List α}{i:Int}{v:α}(h:bB xs i=some v):∃j,seqIndex? i xs.length=some j/\xs[j]?=some v/\j<xs.length/\-(xs.length:Int)<=i/\i<xs.length:=by
 unfold bB at h;cases e:dM xs.length i with
 |none=>rw[e]at h;cases h
 |some j=>
  rw[e]at h;obtain⟨h1,h2,h3,h4⟩:=Gq e;exact⟨j,h1,h,h2,h3,h4⟩
theorem wC{α:Type}{xs:List α}{j:Nat}{v:α}(h:xs[j]?=some v):bB xs (j:Int)=some v:=by
 have hj:j<xs.length:=(List.getElem?_eq_some_iff.mp h).1;have e:dM xs.length (j:Int)=some j:=by
  unfold dM;rw[if_pos (by omega),if_pos (by omega)];simp
 unfold bB;rw[e];exact h
noncomputable def wD(b:Expr):Prop:=∀o i,subscripted b false o i=operate [o,i] (getItem o i)
noncomputable def wF(X:Cx)(r:R2):Prop:=
 ∀(value slice:Expr) (pins:List (Addr×Obj)) (s:Shared) (σ:St) (H:Hp) (x y:V) (v u:Value) (Q:VK),Inv X pins σ H s->RelV x v->RelV y u->r x y H Q->
  subscripted slice false v u=operate [v,u] (getItem v u)->wpAny (model X.prog X.w) X.A (subscriptTail value slice v u) (EP X pins σ Q) X.xe s
noncomputable def sd(X:Cx)(id:String)(r:V->List V->Hp->VK->Prop):Prop:=
 ∀(pins:List (Addr×Obj)) (s:Shared) (σ:St) (H:Hp) (x:V) (xs:List V) (v:Value) (us:List Value) (Q:VK),Inv X pins σ H s->RelV x v->Vals xs us->r x xs H Q->
  wpAny (model X.prog X.w) X.A (call (.builtin id) (v :: us)) (EP X pins σ Q) X.xe s
section
variable{X:Cx}{a b:Expr}{ta tb:TE}{pos:Pos}
theorem NJ{r:R2}(hr:wF X r)(ha:PE X a ta)(hb:PE X b tb)(hs:wD b):PE X (.Subscript a b pos) (Ab r ta tb):=by
 intro pins s σ H Q I h;exact Subscript_ (Ci ha hb I h λv u s2 x y H2 I2 rx ry q=>hr a b pins s2 σ H2 x y v u Q I2 rx ry q (hs _ _))
noncomputable def QO(K:PySem.W.Frag):R2:=λx y H Q=>∃p xs i v,x=.ref p/\y=.int i/\eX K H p xs/\bB xs i=some v/\Q v H
noncomputable def QS(K:PySem.W.Frag):R2:=λx y H Q=>∃p xs i v,x=.ref p/\y=.int i/\dD K H p xs/\bB xs i=some v/\Q v H
noncomputable def QT:R2:=λx y H Q=>∃z i c,x=.str z/\y=.int i/\z.length<=sizeLine/\bB z.cps.toList i=some c/\Q (.str ⟨#[c]⟩) H
theorem Gr:wF X (QO X.K):=by
 intro value slice pins s σ H x y v u Q I rx ry h hs;obtain⟨p,xs,i,z,rfl,rfl,hq,he,q⟩:=h;cases rx;obtain⟨t,rfl⟩:=ry;obtain⟨its,r,pl,hz⟩:=I.list hq;obtain⟨j,h1,h2,h3,h4,h5⟩:=qP he;obtain⟨w,ew,rw'⟩:=r.get h2;have hl:=r.length;have hn:=kD;have fin:EP X pins σ Q w s:=⟨z,H,I,rw',q⟩
 by_cases h0:0<=i
 .have hj:i.toNat=j:=by
   rw[seqIndex_of h0 h5]at h1;exact Option.some.inj h1
  exact item_listR pl.isList h0 (by omega) (by rw[hj];simpa using ew) fin hs
 .have hj:(i+(its.toArray.size:Int)).toNat=j:=by
   rw[seqIndex_neg (by omega) h4]at h1;rw[List.size_toArray,<-hl];exact Option.some.inj h1
  exact subscriptTail_builtinR (x:=w) pl.isList.typeIs slot_list_getitem.lookup
   (wpAny_getItem_list_neg (Q:=λr s'=>r=w/\EP X pins σ Q r s') pl.isList (by omega) (by rw[List.size_toArray]<;>omega) (by omega) (by rw[hj];simpa using ew) ⟨rfl,fin⟩) hs
theorem Js:wF X (QS X.K):=by
 intro value slice pins s σ H x y v u Q I rx ry h hs;obtain⟨p,xs,i,z,rfl,rfl,hq,he,q⟩:=h;cases rx;obtain⟨t,rfl⟩:=ry;obtain⟨its,r,pl,hz⟩:=I.tuple hq;obtain⟨j,h1,h2,h3,h4,h5⟩:=qP he;obtain⟨w,ew,rw'⟩:=r.get h2;have hl:=r.length;have hn:=kD;have fin:EP X pins σ Q w s:=⟨z,H,I,rw',q⟩
 exact subscriptTail_builtinR (x:=w) pl.typeIs slot_tuple_getitem.lookup
  (getItem_tuple (j:=j) (Q:=λr s'=>r=w/\EP X pins σ Q r s') pl (by omega) (by omega) (by rw[List.size_toArray,<-hl];exact h1) (by simpa using ew) ⟨rfl,fin⟩) hs
theorem Jt:wF X QT:=by
 intro value slice pins s σ H x y v u Q I rx ry h hs;obtain⟨z,i,c,rfl,rfl,hz,he,q⟩:=h;obtain⟨t,rfl⟩:=rx;obtain⟨t',rfl⟩:=ry;obtain⟨j,h1,h2,h3,h4,h5⟩:=qP he;have hl:z.cps.toList.length=z.length:=by simp[Str.length]
 rw[hl]at h1 h4 h5;have hn:=kD;exact tail_any (typeIs_str s z t) slot_str_getitem.lookup (getItem_str (c:=c) (by
  have e1:decide (i < -(2 ^ 63:Int))=false:=decide_eq_false (by omega);have e2:decide (i≥2 ^ 63)=false:=decide_eq_false (by omega);rw[e1,e2,Bool.or_false]) (by rw[h1];simpa using h2) ⟨.str ⟨#[c]⟩,H,I.tok _,⟨_,rfl⟩,q⟩) hs
theorem t8(lo hi:Option Int)(n:Nat):(sliceBounds lo hi none n).1=((HT.aO n 0 lo:Nat):Int)/\(sliceBounds lo hi none n).2.1=((HT.aO n n hi:Nat):Int)/\(sliceBounds lo hi none n).2.2=1:=by
 refine⟨?_,?_,rfl⟩
 .cases lo with
  |none=>simp[sliceBounds,HT.aO]
  |some i=>
   simp only[sliceBounds,HT.aO,Option.getD_none,show(1:Int) > 0 by decide,if_true];by_cases h:i<0
   .simp only[h,if_true]<;>omega
   .simp only[h,if_false]<;>omega
 .cases hi with
  |none=>simp[sliceBounds,HT.aO]
  |some i=>
   simp only[sliceBounds,HT.aO,Option.getD_none,show(1:Int) > 0 by decide,if_true];by_cases h:i<0
   .simp only[h,if_true]<;>omega
   .simp only[h,if_false]<;>omega
theorem tu(its:List Value)(lo hi:Option Int):slicePick its.toArray lo hi none=((its.drop (HT.aO its.length 0 lo)).take (HT.aO its.length its.length hi - HT.aO its.length 0 lo)).toArray:=by
 obtain⟨h1,h2,h3⟩:=t8 lo hi its.toArray.size;unfold slicePick;rw[h1,h2,h3];simp only[sliceRange_one,pick_run,List.size_toArray]<;>rfl
noncomputable def QU(K:PySem.W.Frag):V->Option Int->Option Int->Hp->VK->Prop:=λx lo hi H Q=>∃a xs,x=.ref a/\eX K H a xs/\∀p,H p=none->Q (.ref p) (upd H p (.lst (mH xs lo hi)))
theorem Gs:kG X (QU X.K):=by
 intro pins s σ H x v vl vu lo hi sl Q I rx hs pl pu h;obtain⟨a,xs,rfl,hx,q⟩:=h;cases rx;obtain⟨its,r,ht,hz⟩:=I.list hx;have hlen:=r.length;refine⟨"list",_,slot_list_getitem.lookup,ht.isList.typeIs,?_⟩;refine wpAny_getItem_list_slice ht.isList hs pl pu .none (by simp) ?_ (by rw[List.size_toArray]<;>omega);rw[tu,<-hlen];refine⟨.ref s.heap.objs.size,_,I.laid (t':=s.toks) (o:=.lst (mH xs lo hi)) (λb ob q=>Heap.get?_push_of_some _ q) (Nat.le_refl _) ?_,rfl,q _ (I.hok.fresh (Nat.le_refl _))⟩;exact⟨Nat.le_trans (oA xs lo hi) hz,_,0,(r.drop (HT.aO xs.length 0 lo)).take (HT.aO xs.length xs.length hi - HT.aO xs.length 0 lo),Heap.get?_push_size _ rfl⟩
noncomputable def tK:V->Bool
 |.aQ=>true
 |.bl _=>true
 |.int _=>true
 |.str _=>true
 |_=>false
theorem mJ:gz X (.builtin "len") (λxs H Q=>∃p ys,xs=[.ref p]/\(eX X.K H p ys\/dD X.K H p ys)/\Q (.int ys.length) H):=by
 intro pins s σ H xs us Q I r h;obtain⟨p,ys,rfl,hq,q⟩:=h;obtain⟨u,rfl,rx⟩:=vals1 r;cases rx;have hn:=kD;rcases hq with hq|hq
 .obtain⟨its,r',pl,hz⟩:=I.list hq;have hlen:=r'.length;exact Calls.call_len_list pl.isList (by simp only[List.size_toArray]<;>omega) ⟨.int ys.length,H,I.tok _,⟨s.toks+1,by rw[List.size_toArray,hlen]⟩,q⟩
 .obtain⟨its,r',pl,hz⟩:=I.tuple hq;have hlen:=r'.length;exact len_tuple pl (by simp only[List.size_toArray]<;>omega) ⟨.int ys.length,H,I.tok _,⟨s.toks+1,by rw[List.size_toArray,hlen]⟩,q⟩
theorem t9:gz X (.builtin "len") (λxs H Q=>∃z,xs=[.str z]/\z.length<=sizeLine/\Q (.int z.length) H):=by
 intro pins s σ H xs us Q I r h;obtain⟨z,rfl,hz,q⟩:=h;obtain⟨u,rfl,t,rfl⟩:=vals1 r;have hn:=kD;exact len_str (by omega) ⟨.int z.length,H,I.tok _,⟨_,rfl⟩,q⟩
theorem lT:gz X (.type "tuple") (λxs H Q=>∃p ys,xs=[.ref p]/\((eX X.K H p ys/\∀l,H l=none->Q (.ref l) (upd H l (.tup ys)))\/(dD X.K H p ys/\Q (.ref p) H))):=by
 intro pins s σ H xs us Q I r h;obtain⟨p,ys,rfl,h⟩:=h;obtain⟨u,rfl,rx⟩:=vals1 r;cases rx;rcases h with ⟨hq,q⟩|⟨hq,q⟩
 .obtain⟨its,r',pl,hz⟩:=I.list hq;have hlen:=r'.length;refine call_tuple_list pl.isList (λh' kp=>?_) (by simp only[List.size_toArray]<;>omega);have I1:Inv X pins σ H { s with heap:=h' }:=I.kept (t':=s.toks) kp;have I2:Inv X pins σ (upd H h'.objs.size (.tup ys)) { s with heap:=h'.push { cls:=.type "tuple",data:=.seq its.toArray }}:=
   I1.laid (t':=s.toks) (λb o e=>Heap.get?_push_of_some _ e) (Nat.le_refl _) (show fG X.prog X.w _ _ _ (.tup ys)from ⟨hz,its,r',IsTup.new _ _⟩)
  exact⟨.ref h'.objs.size,_,I2,rfl,q _ (I1.hok.fresh (Nat.le_refl _))⟩
 .obtain⟨its,r',pl,hz⟩:=I.tuple hq;exact call_tuple_same pl ⟨.ref p,H,I,rfl,q⟩
noncomputable def Ah(K:PySem.W.Frag)(T:String)(x:V)(H:Hp):Prop:=match x with
 |.str _=>T = "str"
 |.int _=>T = "int"
 |.ref p=>(T = "list" /\∃xs,eX K H p xs)\/(T = "tuple" /\∃o,K.lookup p=some o/\o.cls=.type "tuple" /\o.dict=none)\/
   (T = "dict" /\((∃kvs,H p=some (.dK kvs))\/∃kvs,H p=some (.dT kvs)))\/(T = "set" /\∃S n,H p=some (.set S n))
 |_=>False
theorem Ai{pins:List (Addr×Obj)}{σ:St}{H:Hp}{s:Shared}{T:String}{x:V}{v:Value}(I:Inv X pins σ H s)(r:RelV x v)(ty:Ah X.K T x H) :
  s.TypeIs v T/\∀a,v=.ref a->∃ob,s.heap.get? a=some ob/\ob.dict=none:=by
 cases x with
 |str z=>
  obtain⟨t,rfl⟩:=r;cases (show T = "str" from ty);exact⟨typeIs_str s z t,λ_ e=>nomatch e⟩
 |int i=>
  obtain⟨t,rfl⟩:=r;cases (show T = "int" from ty);exact⟨typeIs_int s i t,λ_ e=>nomatch e⟩
 |ref p=>
  cases r;rcases ty with ⟨rfl,xs,hq⟩|⟨rfl,o,hk,hc,hd⟩|⟨rfl,hk⟩|⟨rfl,S,n,hk⟩
  .obtain⟨its,_,pl,_⟩:=I.list hq;refine⟨pl.isList.typeIs,λa e=>?_⟩;cases e;obtain⟨o,n,e,c,hd,_⟩:=pl;exact⟨o,e,hd⟩
  .refine⟨⟨o,I.jD p o hk,hc⟩,λa e=>?_⟩;cases e;exact⟨o,I.jD _ o hk,hd⟩
  .have z:∃o,s.heap.get? p=some o/\o.ExactDict:=by
    rcases hk with ⟨kvs,hk⟩|⟨kvs,hk⟩
    .obtain⟨_,_,_,_,o,_,_,e,ex,_⟩:=I.hok p _ hk;exact⟨o,e,ex⟩
    .obtain⟨_,_,_,_,o,_,_,e,ex,_⟩:=I.hok p _ hk;exact⟨o,e,ex⟩
   obtain⟨o,e,ex⟩:=z;refine⟨⟨o,e,ex.1⟩,λa e2=>?_⟩;cases e2;exact⟨o,e,ex.2.1⟩
  .obtain⟨o,_,_,_,e,ex,_⟩:=I.hok p _ hk;refine⟨⟨o,e,ex.1⟩,λa e2=>?_⟩;cases e2;exact⟨o,e,ex.2.1⟩
 |_=>exact False.elim ty
noncomputable def QV(K:PySem.W.Frag)(T:String)(r:V->List V->Hp->VK->Prop)(to:TE):TE:=λσ H Q=>to σ H λx H1=>Ah K T x H1/\r x [] H1 Q
noncomputable def SA(K:PySem.W.Frag)(T:String)(r:V->List V->Hp->VK->Prop)(to:TE)(t:TA):TE:=λσ H Q=>to σ H λx H1=>Ah K T x H1/\t σ H1 λxs H2=>r x xs H2 Q
variable{o e:Expr}{es:List Expr}{to:TE}{t:TA}{name:Str}{apos cpos:Pos}{T id:String}{r:V->List V->Hp->VK->Prop}
theorem Ju (pa:PlainAttrs T) (slot:Slot T name id) (hty:typeOf (.builtin id)=pure (.type "method_descriptor")) (hm:sd X id r) (ho:PE X o to)
  (hbase:attributeBase o name X.env (eval o X.env)=eval o X.env:=by rfl) (hline:(apos.endLine==cpos.line)=true:=by rfl):PE X (.Call (.Attribute o name apos) [] [] cpos) (QV X.K T r to):=by
 intro pins s σ H Q I h;refine wpAny_Call_method0_late hbase hline (bJ (ho pins s σ H _ I h) λv s1 ⟨x,H1,I1,r1,ty,q1⟩=>?_);obtain⟨h1,h2⟩:=Ai I1 r1 ty;exact⟨T,id,pa,slot,hty,h1,h2,Calls.callWith_builtin rfl (PySem.evalArgs_none (hm pins s1 σ H1 x [] v [] Q I1 r1 .nil q1))⟩
theorem Ec (pa:PlainAttrs T) (slot:Slot T name id) (hty:typeOf (.builtin id)=pure (.type "method_descriptor")) (hm:sd X id r) (ho:PE X o to) (ha:PA X (e :: es) t)
  (hbase:attributeBase o name X.env (eval o X.env)=eval o X.env:=by rfl)
  (hfew:((backTo cpos (starEach (e :: es) X.env)).all (λx=>!x.1)&&(backToKw cpos (keywordEach [] X.env)).all (λx=>x.1.isSome)
   &&decide ((e :: es).length+([]:List Keyword).length+(if ([]:List Keyword).isEmpty then 0 else 1)<30))=true:=by rfl)
  (hline:(apos.endLine==cpos.line)=true:=by rfl) (hs:starEach (e :: es) X.env=(false,eval e X.env) :: starEach es X.env:=by rfl) (hplain:(backTo cpos (starEach es X.env)).any (·.1)=false:=by rfl) :
  PE X (.Call (.Attribute o name apos) (e :: es) [] cpos) (SA X.K T r to t):=by
 intro pins s σ H Q I h;refine wpAny_Call_method_late hbase hfew hline rfl (bJ (ho pins s σ H _ I h) λv s1 ⟨x,H1,I1,r1,ty,q1⟩=>?_);obtain⟨h1,h2⟩:=Ai I1 r1 ty;refine⟨T,id,pa,slot,hty,h1,h2,?_⟩;have hA:=ha cpos pins s1 σ H1 _ I1 q1;rw[hs]at hA ⊢;refine Calls.callWith_builtin (by show(false || (backTo cpos (starEach es X.env)).any (·.1))=false;rw[hplain]<;>rfl) (Calls.evalArgs_plain ?_);exact bJ hA λus s2 ⟨vs,H2,I2,r2,q2⟩=>hm pins s2 σ H2 x vs v us Q I2 r1 r2 q2
end
end L2
namespace L2
open PySem PySem.Spec PyProof.Rows
noncomputable def Jv(X:Cx)(id:String)(r:V->List V->Hp->VK->Prop):Prop:=
 ∀(pins:List (Addr×Obj)) (s:Shared) (σ:St) (H:Hp) (x:V) (xs:List V) (v:Value) (us:List Value) (Q:VK),Inv X pins σ H s->RelV x v->Vals xs us->r x xs H Q->
  wpAny (model X.prog X.w) X.A (call (.builtin id) (v :: us)) (EP X pins σ Q) X.xe s
theorem Vals.one:∀{x:V}{us:List Value},Vals [x] us->∃u,us=[u]/\RelV x u
 |_,_,.cons r .nil=>⟨_,rfl,r⟩
theorem Vals.zero:∀{us:List Value},Vals [] us->us=[]
 |_,.nil=>rfl
theorem Vals.dropLast{xs:List V}{us:List Value}(h:Vals xs us):Vals xs.dropLast us.dropLast:=by
 induction h with
 |nil=>exact .nil
 |cons r t ih=>
  cases t with
  |nil=>exact .nil
  |cons q t'=>exact .cons r ih
theorem Vals.reverse{xs:List V}{us:List Value}(h:Vals xs us):Vals xs.reverse us.reverse:=by
 induction h with
 |nil=>exact .nil
 |cons r t ih=>rw[List.reverse_cons,List.reverse_cons];exact Vals.append ih (.cons r .nil)
theorem Vals.rep{xs:List V}{us:List Value}(h:Vals xs us):∀k:Nat,Vals (List.replicate k xs).flatten (List.replicate k us).flatten
 |0=>.nil
 |k+1=>by
  rw[List.replicate_succ,List.replicate_succ,List.flatten_cons,List.flatten_cons];exact Vals.append h (Vals.rep h k)
theorem yw{α:Type}(l:List α):l.eraseIdx (l.length - 1)=l.dropLast:=by
 induction l with
 |nil=>rfl
 |cons a r ih=>
  cases r with
  |nil=>rfl
  |cons b r=>
   have e:(a :: b :: r).length - 1=((b :: r).length - 1)+1:=by
    have h1:(a :: b :: r).length=r.length+2:=rfl;have h2:(b :: r).length=r.length+1:=rfl;omega
   rw[e,List.eraseIdx_cons_succ,ih];all_goals rfl
theorem foldl_rep(its:List Value):∀(k:Nat) (acc:List Value),
  List.foldl (λx1 x2=>x1++x2) acc.toArray (List.replicate k its.toArray)=(acc++(List.replicate k its).flatten).toArray
 |0,acc=>by simp
 |k+1,acc=>by
  have e:acc.toArray++its.toArray=(acc++its).toArray:=by simp
  have e2:(acc++its)++(List.replicate k its).flatten=acc++(List.replicate (k+1) its).flatten:=by
   rw[List.replicate_succ,List.flatten_cons,List.append_assoc]
  rw[<-e2,<-foldl_rep its k (acc++its),<-e,List.replicate_succ,List.foldl_cons]
section
variable{X:Cx}{pins:List (Addr×Obj)}{σ:St}{H:Hp}{s:Shared}{l b:Addr}{xs ys zs:List V}
theorem Inv.Cp{its its':List Value}{n:Nat}{f:Array Value->Array Value}{t':Nat}(I:Inv X pins σ H s)(hH:H l=some (.lst xs))
  (e:s.heap.get? l=some { cls:=.type "list",data:=.seq its.toArray n }) (hf:f its.toArray=its'.toArray) (hv:Vals ys its') (hz:ys.length<=sizeLine) :
  Inv X pins σ (upd H l (.lst ys)) { s with heap:=s.heap.update l (Obj.mapSeq f),toks:=t' }:=by
 have q:=PySem.IsL.update e f;rw[hf]at q;refine I.write (x:=l) (e:=l) (by rw[hH];exact trivial) (.inl rfl) (λb' u hb hu=>(Heap.get?_update_other s.heap (Obj.mapSeq f) (Ne.symm hb)).trans hu) ⟨_,q⟩ ?_;exact⟨hz,its',_,hv,q⟩
theorem Inv.Cq{its:List Value}{t':Nat}(I:Inv X pins σ H s)(hv:Vals ys its)(hz:ys.length<=sizeLine) :
  Inv X pins σ (upd H s.heap.objs.size (.lst ys)) { s with heap:=s.heap.push { cls:=.type "list",data:=.seq its.toArray },toks:=t' }:=
 I.laid (λ_ _ q=>Heap.get?_push_of_some _ q) (Nat.le_refl _) ⟨hz,its,0,hv,Heap.get?_push_size _ rfl⟩
theorem Inv.fresh(I:Inv X pins σ H s):H s.heap.objs.size=none:=I.hok.fresh (Nat.le_refl _)
theorem Inv.lg (I:Inv X pins σ H s) (hH:H l=some (.lst xs)):xs.length<=sizeLine/\∃(its:List Value) (n:Nat),Vals xs its/\xs.length=its.length/\s.heap.get? l=some { cls:=.type "list",data:=.seq its.toArray n }:=by
 obtain⟨z,its,n,r,e⟩:=I.hok l _ hH;exact⟨z,its,n,r,r.length,e⟩
theorem ua{n:Nat}(h:n<=sizeLine):Builtin.List.listTooLong n=false:=by
 unfold Builtin.List.listTooLong;exact decide_eq_false (by omega)
end
section
variable{X:Cx}
noncomputable def Gu:V->List V->Hp->VK->Prop:=λx vs H Q=>∃l xs y,x=.ref l/\vs=[y]/\H l=some (.lst xs)/\xs.length<sizeLine/\Q .aQ (upd H l (.lst (xs++[y])))
theorem sj:Jv X "list.append" Gu:=by
 intro pins s σ H x vs v us Q I rx rv h;obtain⟨l,xs,y,rfl,rfl,hH,hz,q⟩:=h;cases rx;obtain⟨u,rfl,ru⟩:=rv.one;obtain⟨z,its,n,r,hl,e⟩:=I.lg hH;refine call_meets F.slot_list_append ⟨_,e,rfl⟩ F.entry_list_append (F.args_list_append_2 _ _) (PySem.list_append l its.toArray n u (by rw[List.size_toArray];omega)) ⟨e,?_⟩;refine⟨.aQ,_,I.Cp (its':=its++[u]) hH e (by simp) (r.append (.cons ru .nil)) ?_,rfl,q⟩;rw[List.length_append,List.length_singleton];omega
noncomputable def Gv:V->List V->Hp->VK->Prop:=λx vs H Q=>∃l b xs zs,x=.ref l/\vs=[.ref b]/\H l=some (.lst xs)/\H b=some (.lst zs)/\xs.length+zs.length<=sizeLine/\Q .aQ (upd H l (.lst (xs++zs)))
theorem Aj:Jv X "list.extend" Gv:=by
 intro pins s σ H x vs v us Q I rx rv h;obtain⟨l,b,xs,zs,rfl,rfl,hH,hB,hz,q⟩:=h;cases rx;obtain⟨u,rfl,ru⟩:=rv.one;cases ru;obtain⟨z,its,n,r,hl,e⟩:=I.lg hH;obtain⟨z2,its2,n2,r2,hl2,e2⟩:=I.lg hB;have hsz:its.toArray.size+its2.toArray.size<=sizeLine:=by rw[List.size_toArray,List.size_toArray];omega
 have yx:¬ (!its.toArray.isEmpty&&Builtin.List.listTooLong (its.toArray.size+its2.toArray.size))=true:=by
  rw[ua hsz,Bool.and_false];exact Bool.false_ne_true
 refine call_meets F.slot_list_extend ⟨_,e,rfl⟩ F.entry_list_extend (F.args_list_extend_2 _ _)
  (AutoSeq1.list_extend_list_list_0 l its.toArray n b its2.toArray n2 yx (by rw[List.size_toArray];omega) (by omega)) ⟨e,e2,?_⟩
 refine⟨.aQ,_,I.Cp (its':=its++its2) hH e (by simp) (r.append r2) ?_,rfl,q⟩;rw[List.length_append];omega
noncomputable def QW:V->List V->Hp->VK->Prop:=λx vs H Q=>∃l xs y,x=.ref l/\vs=[]/\H l=some (.lst xs)/\xs[xs.length - 1]?=some y/\Q y (upd H l (.lst xs.dropLast))
theorem Jw:Jv X "list.pop" QW:=by
 intro pins s σ H x vs v us Q I rx rv h;obtain⟨l,xs,y,rfl,rfl,hH,hy,q⟩:=h;cases rx;have SD:=rv.zero;subst SD;obtain⟨z,its,n,r,hl,e⟩:=I.lg hH;obtain⟨u,hu,ru⟩:=r.get hy;have hy':its.toArray[its.toArray.size - 1]?=some u:=by
  show its.toArray[its.length - 1]?=some u;rw[<-Array.getElem?_toList,<-hl];exact hu
 refine call_meets F.slot_list_pop ⟨_,e,rfl⟩ F.entry_list_pop (F.args_list_pop_1 _) (MeetsSeq.list_pop_last l its.toArray n u hy' (by rw[List.size_toArray];omega)) ⟨e,?_⟩;refine⟨y,_,I.Cp (its':=its.dropLast) hH e ?_ r.dropLast ?_,ru,q⟩
 .show its.toArray.eraseIdxIfInBounds (its.toArray.size - 1)=its.dropLast.toArray;rw[List.size_toArray,List.eraseIdxIfInBounds_toArray,yw]
 .rw[List.length_dropLast];omega
noncomputable def QX:R2:=λx y H Q=>∃l b xs zs,x=.ref l/\y=.ref b/\H l=some (.lst xs)/\H b=some (.lst zs)/\xs.length+zs.length<=sizeLine/\∀p,H p=none->Q (.ref p) (upd H p (.lst (xs++zs)))
theorem Jx:dQ X (binaryOp .Add) QX:=by
 intro pins s σ H x y v u Q I rx ry h;obtain⟨l,b,xs,zs,rfl,rfl,hH,hB,hz,q⟩:=h;cases rx;cases ry;obtain⟨z,its,n,r,hl,e⟩:=I.lg hH;obtain⟨z2,its2,n2,r2,hl2,e2⟩:=I.lg hB;refine PySem.P.add_list e e2 ?_ (by rw[List.size_toArray,List.size_toArray];omega);have ea:its.toArray++its2.toArray=(its++its2).toArray:=by simp
 rw[ea];exact⟨.ref _,_,I.Cq (t':=s.toks) (r.append r2) (by rw[List.length_append];omega),rfl,q _ I.fresh⟩
noncomputable def QY:R2:=λx y H Q=>∃l k xs,x=.ref l/\y=.int k/\H l=some (.lst xs)/\-(2 ^ 63)<=k/\k<2 ^ 63/\xs.length*k.toNat<=sizeLine/\
 ∀p,H p=none->Q (.ref p) (upd H p (.lst (List.replicate k.toNat xs).flatten))
theorem len_rep{α:Type}(xs:List α)(k:Nat):(List.replicate k xs).flatten.length=k*xs.length:=by
 induction k with
 |zero=>simp
 |succ k ih=>rw[List.replicate_succ,List.flatten_cons,List.length_append,ih,Nat.succ_mul,Nat.add_comm]
theorem Jy:dQ X (binaryOp .Mult) QY:=by
 intro pins s σ H x y v u Q I rx ry h;obtain⟨l,k,xs,rfl,rfl,hH,h1,h2,hz,q⟩:=h;cases rx;obtain⟨t,rfl⟩:=ry;obtain⟨z,its,n,r,hl,e⟩:=I.lg hH;have hlen:its.toArray.size*k.toNat<=sizeLine:=by rw[List.size_toArray,<-hl];exact hz
 have hcap:¬ its.toArray.size*k.toNat > (2 ^ 63 - 1) / 8:=by
  have:(sizeLine:Nat)<=(2 ^ 63 - 1) / 8:=by decide
  omega
 have hfit:¬ (!Builtin.List.listFitsIndex k)=true:=by
  rw[fitsIndex_both h1 h2];exact Bool.false_ne_true
 have yx:¬ Builtin.List.listTooLong (its.toArray.size*k.toNat)=true:=by
  rw[ua hlen];exact Bool.false_ne_true
 have hnew:List.foldl (λx1 x2=>x1++x2) #[] (List.replicate (if its.toArray.isEmpty=true then 0 else k.toNat) its.toArray)=(List.replicate k.toNat its).flatten.toArray:=by
  have f0:∀m:Nat,List.foldl (λx1 x2=>x1++x2) #[] (List.replicate m its.toArray)=(List.replicate m its).flatten.toArray:=λm=>by
   have:=foldl_rep its m [];rw[List.nil_append]at this;exact this
  rw[f0];cases its with
  |nil=>simp
  |cons a r'=>rw[if_neg (by simp)]
 refine wpAny_binaryOp_repeat_ref (T:="list") (U:="int") (by decide) ⟨_,e,rfl⟩ (λs'=>typeIs_int s' k t) noFill_list_mul F.fills_int_mul F.slot_int_rmul repeat_list F.slot_int_index.lookup
  (call_meets F.slot_int_rmul (typeIs_int s k t) F.entry_int_rmul (F.args_int_rmul_2 _ _) (int___rmul___int_list k t l its.toArray n)
   ⟨e,rfl,⟨_,e,rfl⟩,call_meets F.slot_list_mul ⟨_,e,rfl⟩ F.entry_list_mul (F.args_list_mul_2 _ _) (AutoListH.list___mul___list_int_3 l its.toArray n k t hfit hcap yx) ⟨e,?_⟩⟩)
 rw[hnew];exact⟨.ref _,_,I.Cq (t':=s.toks) (r.rep k.toNat) (by rw[len_rep,Nat.mul_comm];exact hz),rfl,q _ I.fresh⟩
end
section
variable{prog:Program}{w:World}{A:Around}{E:Value->Shared->Prop}{s:Shared}
end
section
variable{X:Cx}
end
end L2
namespace Pp
open PySem PySem.W PySem.Calls PyProof.Rows
theorem pV{P:Params}{h:Heap}:∀(ns:List Int) (vs:List Value),WellAll P h vs (ns.map WData.int)->IntsAre vs ns:=by
 intro ns;induction ns with
 |nil=>
  intro vs w;rw[List.map_nil]at w;cases w;exact .nil
 |cons n ns ih=>
  intro vs w;rw[List.map_cons]at w;cases w with
  |cons a b=>
   cases a;exact .cons _ _ (ih _ b)
theorem Ak{l:OpenLaw}{n:Nat}(hn:l.most=some n){P:Params}{h:Heap}{args:List WData}{vals:List Value}
  (hpre:l.row.toRowW.claim.pre args=true) (hwl:WellAll P h vals args) :
  ∃a vs ns,vals=[Value.ref a]/\args=[WData.list (ns.map WData.int)]/\h.get? a=some { cls:=.type "list",data:=.seq vs.toArray }/\IntsAre vs ns/\ns.length<=n:=by
 have hsh:WShape.hasAll [] args [.list .int]=true:=(pre_splitW hpre).1;have hc:l.pre.holds [] { args:=args }=true:=(pre_splitW hpre).2;obtain⟨d,r,rfl,h1,h2⟩:=hasAllW_cons hsh;obtain rfl:=hasAllW_nil h2;obtain⟨xs,rfl,h3⟩:=hasW_list h1;obtain⟨ns,rfl⟩:=items_int h3;have hlen:ns.length<=n:=by
  unfold OpenLaw.pre at hc;have h4:(WTm.not (.lt (.lit (.int (n:Int))) (.len (.arg 0)))).holds [] { args:=[.list (ns.map .int)]}=true:=by
   have h4:=(holds_andW hc).1;rw[hn]at h4;exact h4
  have h5:=condW_of h4 (w_not (w_lt w_lit (w_len_list (w_arg rfl))));rw[List.length_map]at h5;refine Nat.le_of_not_lt λq=>?_;have q':(n:Int)<((ns.length:Nat):Int):=by omega
  first
   | (rw[decide_eq_true q']at h5;exact absurd h5 (by decide))
   | (simp at h5;omega)
 cases hwl with
 |cons w1 w2=>
  cases w2;cases w1 with
  |list ho hall=>exact⟨_,_,ns,rfl,rfl,ho,pV ns _ hall,hlen⟩
theorem Am(l:OpenLaw)(args:List WData):l.row.toRowW.claim.post args (.bool true) args=true:=
 postW_of (r:=l.row.toRowW) (X:=(true==true))
  (show WShape.has [] (.bool true) .bool=true by first|rfl|decide|simp[WShape.has,WShape.arms,WShape.armsAll])
  (show(WTm.eq .res (.lit (.bool true))).value [] { args:=args,res:=some (.bool true),after:=args }=some (.bool (true==true))from w_eq_bool (w_res rfl) w_lit) rfl
theorem vV{l:OpenLaw}{n:Nat}{q:Program}{loose:List Str}{XP:(Str->Option Value)->Heap->Prop}{YP:World->Heap->Prop}{d:DefRec}
  (hn:l.most=some n) (hdf:d.params.defaults=[])
  (call:∀(w:World) (s₀ s₁:Shared) (mg mb:Str->Option Value) (fa:Addr) (o:Obj) (pm cd doc:Value) (a:Addr) (vs:List Value) (ns:List Int),
   Ground q loose [] XP w s₀ mg mb s₁.heap->YP w s₁.heap->
   s₁.heap.get? fa=some o->o.data=.func (docDef d.name d.params d.body d.scope pm cd doc)->s₁.heap.CodeRec cd d.name->mg d.name=some (.ref fa)->
   s₁.heap.get? a=some { cls:=.type "list",data:=.seq vs.toArray }->IntsAre vs ns->ns.length<=n->s₁.gens = #[]->
   codeAny (model l.prog w) callerA (.call (.ref fa) ⟨[.ref a],[]⟩) (λr s'=>r=.ok (.ret (.bool true))/\OldK s₁.heap s'.heap/\s'.os=s₁.os/\AllBare s'.gens) s₁) :
  WalkO q loose XP YP l.row.toRowW d [] (λf vs=>PySem.call f vs):=by
 intro w s₀ s₁ mg mb G Y fa o pm cd doc dV kV ho hd hcd hD hmg hg args vals as hpre hlay hrd hwl hlo;obtain rfl:dV=.none:=Dflts.none hD hdf;obtain rfl:kV=.none:=Dflts.noKw hD;obtain⟨a,vs,ns,rfl,rfl,hobj,hints,hlen⟩:=Ak hn hpre hwl;refine enter_call (codeAny_mono (call w s₀ s₁ mg mb fa o pm cd doc a vs ns G Y ho (fd_plain hd) hcd hmg hobj hints hlen hg) λr s' hq=>?_);obtain⟨rfl,h2,h3,h4⟩:=hq;exact⟨.inl ⟨.bool true,.bool true,[],rfl,λ_=>rfl,.bool true,Am l _,λ_=>⟨List.Pairwise.nil,λ_ hm=>(nomatch hm)⟩⟩,h2,h3,h4⟩
section
variable{prog:Program}{w:World}{A:Around}{E:Value->Shared->Prop}{s:Shared}{K:Frag}
end
end Pp
namespace L2
open PySem PySem.Spec PyProof.Rows
theorem sq:∀{vs:List Value}{ns:List Int},IntsAre vs ns->Vals (ns.map V.int) vs
 |_,_,.nil=>.nil
 |_,_,.cons n t h=>.cons ⟨t,rfl⟩ (sq h)
noncomputable def qQ(H:Hp):Prop:=∀b,H b=none\/∃o xs,H b=some (.bS o (.lst xs))
theorem Cr{P:Program}{w:World}{K:PySem.W.Frag}{mg mb:Str->Option Value}{CX:kF}{k:Nat}{fa a:Addr}{fd:FuncData}{x:Str}{sp:Sp}{s₁:Shared}{vs:List Value}{ns:List Int}
  (KX:K.In s₁.heap) (hns:s₁.heap.Ns mainGlobals mg) (hb:s₁.heap.Ns builtinsNs mb) (Jz:∀x:Str,x≠"__name__" ->mb x=bootBuiltins x) (hlim:s₁.heap.NoLimit) (hg:s₁.gens = #[])
  (ha:s₁.heap.get? a=some { cls:=.type "list",data:=.seq vs.toArray }) (hi:IntsAre vs ns) (hl:ns.length<=sizeLine) (hr:gp k callerA)
  (F:∀base:Heap,K.In base->base.Ns mainGlobals mg->eO P w K mg base CX k fa fd [x] sp) (hbind:∀(s:Shared) (u:Value),BindsTo s fd ⟨[u],[]⟩ [(x,u)])
  (ig:∀H:Hp,qQ H->eX K H a (ns.map V.int)->sp [.ref a] H (λv _=>v=.bl true) λ_ _ _=>False)
  (Ao:∀H e s',CX [] H s₁ (λ_ _ _=>False) e s'->False) :
  codeAny (model P w) callerA (.call (.ref fa) ⟨[.ref a],[]⟩) (λr s'=>r=.ok (.ret (.bool true))/\OldK s₁.heap s'.heap/\s'.os=s₁.os/\AllBare s'.gens) s₁:=by
 have rv:=sq hi;have QZ:=hi.length;have core:∀H:Hp,qQ H->eX K H a (ns.map V.int)->eK P w H s₁.heap->(∀b,H b≠none->b=a)->(H a≠none->K.lookup a=none)->
   codeAny (model P w) callerA (.call (.ref fa) ⟨[.ref a],[]⟩) (λr s'=>r=.ok (.ret (.bool true))/\OldK s₁.heap s'.heap/\s'.os=s₁.os/\AllBare s'.gens) s₁:=by
  intro H hO hS hok hA hK;have wG:∀{b:Addr} {o:Obj},s₁.heap.get? b=some o->H b=none->(kX s₁.heap H).get? b=some o:=λe n=>Ca e n;have Af:∀{b:Addr} {o:Obj} {es:Array DictEntry} {ep:Nat},s₁.heap.get? b=some o->o.data=.dict es ep->H b=none:=λ{b o es ep} e d=>by
   cases q:H b with
   |none=>rfl
   |some u=>
    have e':b=a:=hA b (by rw[q];simp);subst e';rw[ha]at e;cases e;have d':Data.seq vs.toArray _=Data.dict es ep:=d;cases d'
  have Ed:∀{b:Addr} {m:Str->Option Value},s₁.heap.Ns b m->(kX s₁.heap H).Ns b m:=λ{b m} ⟨o,es,ep,e,d,r⟩=>⟨o,es,ep,wG e (Af e d),d,r⟩
  have Pq:K.In (kX s₁.heap H):=λb o e=>wG (KX b o e) (by
   cases q:H b with
   |none=>rfl
   |some u=>
    have e':b=a:=hA b (by rw[q];simp);subst e';rw[hK (by rw[q];simp)]at e;cases e)
  have hM:Mod K mg (kX s₁.heap H):=⟨Pq,Ed hns,⟨mb,Ed hb,Jz⟩,let ⟨mc,h1,h2⟩:=hlim;⟨mc,Ed h1,h2⟩⟩
  have e0:qM P w K mg (kX s₁.heap H) callerA [] s₁ H:=⟨rfl,hM,λb o e=>FU e,Nat.le_of_eq (zO _ _),trivial,λb hb=>absurd (show b∈([]:List Addr)from hb) (by simp),hok,.of_eq hg⟩
  refine codeAny_mono ((F _ Pq (Ed hns)).run callerA [] s₁ H ⟨[.ref a],[]⟩ [.ref a] [.ref a] _ _ hr e0 (hbind s₁ (.ref a)) (.cons rfl .nil) (ig H hO hS)) λr s' h=>?_;cases r with
  |error e=>exact(Ao H e s' h).elim
  |ok fl=>
   cases fl with
   |next=>exact False.elim h
   |brk=>exact False.elim h
   |cont=>exact False.elim h
   |ret u=>
    obtain⟨v,H',os,bare,un,Q0,r',q⟩:=h;have q':v=.bl true:=q;subst q';obtain rfl:u=Value.bool true:=r';refine⟨rfl,OldK.of_keep λb o e=>?_,os,bare⟩;cases q:H b with
    |none=>exact un.keep b o e q (by intro z;exact absurd (show b∈([]:List Addr)from z) (by simp)) (by simp)
    |some u=>
     rcases hO b with z|⟨ob,xs,z⟩
     .rw[q]at z;cases z
     .have z2:=un.jC b ob _ z;obtain⟨e1,_⟩:=hok b _ z;obtain⟨e2,_⟩:=Q0 b _ z2;rw[e]at e1;cases e1;exact e2
 cases hk:K.lookup a with
 |some o=>
  have e:=KX a o hk;rw[ha]at e;cases e;refine core (λ_=>none) (λ_=>.inl rfl) (.inr ⟨_,vs.toArray,_,hk,rfl,rfl,rfl,by rw[List.size_toArray,QZ];exact hl,by simpa using rv⟩) (λb u z=>by have z':(none:Option HO)=some u:=z;cases z') (λb z=>absurd rfl z) λz=>absurd rfl z
 |none=>
  refine core (λb=>if b=a then some (.bS { cls:=.type "list",data:=.seq vs.toArray } (.lst (ns.map V.int)))else none) (λb=>?_) (.inl (.inr ⟨{ cls:=.type "list",data:=.seq vs.toArray },if_pos rfl⟩)) (λb u z=>?_) (λb z=>?_) λ_=>hk
  .by_cases hb:b=a
   .exact .inr ⟨_,_,if_pos hb⟩
   .exact .inl (if_neg hb)
  .by_cases hb:b=a
   .have z':=(if_pos hb).symm.trans z;cases z';subst hb;exact⟨ha,by rw[List.length_map];exact hl,vs,_,rv,ha⟩
   .have z':=(if_neg hb).symm.trans z;cases z'
  .by_cases hb:b=a
   .exact hb
   .exact absurd (if_neg hb) z
end L2
namespace L2
open PySem PySem.Spec PyProof.Rows
theorem Gw{l:PySem.W.OpenLaw}{n k:Nat}{q:Program}{loose:List Str}{XP:(Str->Option Value)->Heap->Prop}{YP:World->Heap->Prop}{d:DefRec}{K:Params->PySem.W.Frag}{CX:World->kF}{sp:World->Sp}{x:Str}
  (hn:l.most=some n) (hn2:n<=sizeLine) (hdf:d.params.defaults=[]) (hr:gp k callerA)
  (hY:∀(w:World) (h:Heap),YP w h->(K w.params).In h)
  (F:∀(w:World) (mg:Str->Option Value) (fa:Addr) (h:Heap),(K w.params).In h->h.Ns mainGlobals mg->mg d.name=some (.ref fa)->
   ∃fd:FuncData,(∀(s:Shared) (u:Value),BindsTo s fd ⟨[u],[]⟩ [(x,u)])/\
    ∀base:Heap,(K w.params).In base->base.Ns mainGlobals mg->eO l.prog w (K w.params) mg base (CX w) k fa fd [x] (sp w))
  (ig:∀(w:World) (H:Hp) (a:Addr) (ns:List Int),ns.length<=n->qQ H->eX (K w.params) H a (ns.map V.int)->sp w [.ref a] H (λv _=>v=.bl true) λ_ _ _=>False)
  (Ao:∀(w:World) (H:Hp) (s:Shared) (e:Value) (s':Shared),CX w [] H s (λ_ _ _=>False) e s'->False) :
  PySem.W.WalkO q loose XP YP l.row.toRowW d [] (λf vs=>PySem.call f vs):=by
 refine Pp.vV hn hdf λw s₀ s₁ mg mb fa o pm cd doc a vs ns G Y ho hd hcd hmg hobj hints hlen hg=>?_;have KX:=hY w _ Y;obtain⟨fd,hb,hF⟩:=F w mg fa _ KX G.T.g hmg;exact Cr KX G.T.g G.T.b G.T.builtins G.T.nolimit hg hobj hints (Nat.le_trans hlen hn2) hr hF hb (λH hO hS=>ig w H a ns hlen hO hS) λH e s'=>Ao w H s₁ e s'
theorem Cs{l:PySem.W.OpenLaw}{n k:Nat}{q:Program}{loose:List Str}{XP:(Str->Option Value)->Heap->Prop}{YP:World->Heap->Prop}{d:DefRec}{K:Params->PySem.W.Frag}{CX:kF}{sp:PySem.W.Frag->Sp}{x:Str}
  (hn:l.most=some n) (hn2:n<=sizeLine) (hdf:d.params.defaults=[]) (hr:gp k callerA)
  (hY:∀(w:World) (h:Heap),YP w h->(K w.params).In h)
  (F:∀(w:World) (mg:Str->Option Value) (fa:Addr) (h:Heap),(K w.params).In h->h.Ns mainGlobals mg->mg d.name=some (.ref fa)->
   ∃fd:FuncData,(∀(s:Shared) (u:Value),BindsTo s fd ⟨[u],[]⟩ [(x,u)])/\
    ∀base:Heap,(K w.params).In base->base.Ns mainGlobals mg->eO l.prog w (K w.params) mg base CX k fa fd [x] (sp (K w.params)))
  (ig:∀(K:PySem.W.Frag) (H:Hp) (a:Addr) (ns:List Int),ns.length<=n->qQ H->eX K H a (ns.map V.int)->sp K [.ref a] H (λv _=>v=.bl true) λ_ _ _=>False)
  (Ao:∀(H:Hp) (s:Shared) (e:Value) (s':Shared),CX [] H s (λ_ _ _=>False) e s'->False) :
  PySem.W.WalkO q loose XP YP l.row.toRowW d [] (λf vs=>PySem.call f vs):=
 Gw (K:=K) (CX:=λ_=>CX) (sp:=λw=>sp (K w.params)) hn hn2 hdf hr hY F (λw H a ns h1 h2 h3=>ig (K w.params) H a ns h1 h2 h3) λ_ H s e s'=>Ao H s e s'
end L2
namespace L2
open PySem PySem.Spec PyProof.Rows
noncomputable def nC(s:Stmt):Arguments:=match s with
 |.FunctionDef _ a _ _ _ _ _ _ _ _=>a
 |_=>{ posonlyargs:=[],args:=[],vararg:=none,kwonlyargs:=[],kw_defaults:=[],kwarg:=none,defaults:=[]}
noncomputable def cW(s:Stmt):List Stmt:=match s with
 |.FunctionDef _ _ b _ _ _ _ _ _ _=>b
 |_=>[]
noncomputable def ay(s:Stmt):Scope:=match s with
 |.FunctionDef _ _ _ _ _ _ sc _ _ _=>sc
 |_=>{ kind:=.function,names:=[],isGenerator:=false,isCoroutine:=false }
abbrev jk:kF:=λ_ _ _ _ _ _=>False
abbrev E0:XK:=λ_ _ _=>False
theorem NK{X:Cx}:Passes jk X E0:=λ_ _ _ _ _ _ _ h=>h.elim
structure lU(K:PySem.W.Frag)(x qual:Str)(st:Stmt)(f:Addr)(fd:FuncData):Prop where
 ex:∃(oc:Value) (od:Option Addr) (kV doc pm:Value) (an:Option Addr) (cdv ct:Value) (osl:Array (Option Value)),
  fd=PySem.W.fnOf x qual (nC st) (cW st) (ay st) .none kV doc pm an cdv ct/\K.lookup f=some ⟨oc,od,.func fd,osl⟩/\PySem.W.codeIn K cdv qual=true
 kp:PySem.W.keepIn K (.ref f)=true
section
variable{P:Program}{w:World}{K:PySem.W.Frag}{mg:Str->Option Value}{base:Heap}
theorem lU.ok{x qual:Str}{st:Stmt}{f:Addr}{fd:FuncData}{N ps:List Str}{k:Nat}{sp:Sp}(F:lU K x qual st f fd)(S:bG N ps (ay st))(len:∀vs H Q E,sp vs H Q E->vs.length=ps.length)
  (hbody:∀(cdv:Value) (A:Around) (outer:List Env) (s:Shared) (H:Hp) (vs:List V) (Q:VK) (E:XK),gp k (A.deeper (envOfC qual (ay st) s.heap.objs.size f cdv))->sp vs H Q E->
   ∃t,er (jd jk P w K mg base N qual (ay st) f cdv A outer s H E).cJ (cW st) t/\t { nx:=λ_ H'=>Q .aQ H',rt:=Q } (start N vs) H):eO P w K mg base jk (k+1) f fd ps sp:=by
 obtain⟨oc,od,kV,doc,pm,an,cdv,ct,osl,rfl,lk,hcd⟩:=F.ex;refine Eb lk hcd S len λA outer s H vs Q E hr ig=>?_;obtain⟨t,h,q⟩:=hbody cdv A outer s H vs Q E hr ig;exact⟨t,h.cJ,q⟩
theorem lU.binds{x qual:Str}{st:Stmt}{f:Addr}{fd:FuncData}{ps:List Str}(F:lU K x qual st f fd)
  (h:∀(kV doc pm:Value) (an:Option Addr) (cdv ct:Value) (us:List Value),us.length=ps.length->bindArgs (PySem.W.fnOf x qual (nC st) (cW st) (ay st) .none kV doc pm an cdv ct) ⟨us,[]⟩=pure (ps.zip us)):Binds K fd ps []:=by
 obtain⟨oc,od,kV,doc,pm,an,cdv,ct,osl,rfl,lk,hcd⟩:=F.ex;exact .all (h kV doc pm an cdv ct)
theorem cH{x qual:Str}{st:Stmt}{f:Addr}{oc:Value}{od an:Option Addr}{osl:Array (Option Value)}{kV doc pm cdv ct:Value}(l:K.lookup f=some ⟨oc,od,.func (PySem.W.fnOf x qual (nC st) (cW st) (ay st) .none kV doc pm an cdv ct),osl⟩)
  (c:PySem.W.codeIn K cdv qual=true) (k:PySem.W.keepIn K (.ref f)=true):lU K x qual st f (PySem.W.fnOf x qual (nC st) (cW st) (ay st) .none kV doc pm an cdv ct):=⟨⟨oc,od,kV,doc,pm,an,cdv,ct,osl,rfl,l,c⟩,k⟩
end
section
variable{X:Cx}
theorem pv (i:Nat) {x:Str}{pos:Pos}(hN:X.N[i]?=some x:=by rfl) (hv:rR X.env.scope x:=by first|exact Or.inl rfl|exact Or.inr (Or.inl rfl)|exact Or.inr (Or.inr rfl)) (hd:(x==("__debug__" : Str))=false:=by decide)
  (hcd:(x==("__classdict__" : Str))=false:=by decide):PE X (.Name x pos) (IU i):=pR hN hv hd hcd
end
end L2
set_option maxRecDepth 100000
namespace L2
open PySem PySem.Spec PyProof.Rows
section
variable{κ:Type}[DecidableEq κ]
end
section
variable{P:Program}{w:World}{H:Hp}{h:Heap}{a:Addr}
end
section
variable{X:Cx}{pins:List (Addr×Obj)}{σ:St}{H:Hp}{s:Shared}{a:Addr}{y v:V}{u r:Value}{o:Option V}{A:Around}{E:Value->Shared->Prop}
end
section
variable{X:Cx}{pins:List (Addr×Obj)}{σ:St}{H:Hp}{s:Shared}{a:Addr}{kvs:List (Key×V)}{k:Key}{u:Value}{A:Around}{E:Value->Shared->Prop}
end
section
variable{X:Cx}{o i e value:Expr}{pos pos' tpos:Pos}{td ty tv:TE}
end
section
variable{X:Cx}{pos:Pos}
end
structure M1(X:Cx)(o:Expr)(m:Str)(apos:Pos)(e:Expr)(cpos:Pos):Prop where
 base:attributeBase o m X.env (eval o X.env)=eval o X.env
 few:((backTo cpos (starEach [e] X.env)).all (λx=>!x.1)&&(backToKw cpos (keywordEach [] X.env)).all (λx=>x.1.isSome)
  &&decide (([e]:List Expr).length+([]:List Keyword).length+(if ([]:List Keyword).isEmpty then 0 else 1)<30))=true
 line:(apos.endLine==cpos.line)=true
 trees:backTo cpos (starEach [e] X.env)=[(false,eval e X.env)]
structure M2(X:Cx)(o:Expr)(m:Str)(apos:Pos)(e f:Expr)(cpos:Pos):Prop where
 base:attributeBase o m X.env (eval o X.env)=eval o X.env
 few:((backTo cpos (starEach [e,f] X.env)).all (λx=>!x.1)&&(backToKw cpos (keywordEach [] X.env)).all (λx=>x.1.isSome)
  &&decide (([e,f]:List Expr).length+([]:List Keyword).length+(if ([]:List Keyword).isEmpty then 0 else 1)<30))=true
 line:(apos.endLine==cpos.line)=true
 trees:backTo cpos (starEach [e,f] X.env)=[(false,eval e X.env),(false,eval f X.env)]
section
variable{X:Cx}{pins:List (Addr×Obj)}{σ:St}{H:Hp}{s:Shared}{a:Addr}{y d:V}{u r:Value}{o:Option V}{A:Around}{E:Value->Shared->Prop}
end
section
variable{X:Cx}{o e f:Expr}{apos cpos:Pos}{td ty tx:TE}
end
end L2
namespace Ev
inductive D where
 |aQ|bl (b:Bool)|int (i:Int)|str (s:List Nat)|tup (ds:List D)|ref (n:Nat)
inductive O where
 |lst (ds:List D)|bS (ds:List D)
abbrev Hh:=List O
abbrev Fr:=List (Option D)
inductive R(α:Type) where
 |ok (a:α) (h:Hh)
 |bad
noncomputable def R.bind{α β:Type}(r:R α)(f:α->Hh->R β):R β:=
 match r with
 |.ok a h=>f a h
 |.bad=>.bad
@[simp] theorem ao{α β:Type}(a:α)(h:Hh)(f:α->Hh->R β):(R.ok a h).bind f=f a h:=rfl
@[simp] theorem Ct{α β:Type}(f:α->Hh->R β):(R.bad:R α).bind f=.bad:=rfl
theorem ah{α β:Type}{r:R α}{f:α->Hh->R β}{b:β}{h:Hh}(e:r.bind f=.ok b h):∃a h1,r=.ok a h1/\f a h1=.ok b h:=by
 cases r with
 |ok a h1=>exact⟨a,h1,rfl,e⟩
 |bad=>cases e
noncomputable def R.of{α:Type}(o:Option α)(h:Hh):R α:=match o with
 |some a=>.ok a h
 |none=>.bad
@[simp] theorem dh{α:Type}(a:α)(h:Hh):R.of (some a) h=.ok a h:=rfl
@[simp] theorem of_none{α:Type}(h:Hh):R.of (none:Option α) h=.bad:=rfl
theorem aN{α:Type}{o:Option α}{h h':Hh}{a:α}(e:R.of o h=.ok a h'):o=some a/\h'=h:=by
 cases o with
 |none=>cases e
 |some b=>cases e;exact⟨rfl,rfl⟩
inductive bw where
 |add|sub|mul|fdiv|mod
inductive bq where
 |eq|ne|lt|gt
inductive TY where
 |int|bool|str|tuple|list
inductive BI where
 |len|sum|min
inductive ME where
 |join|append|extend|pop
inductive T where
 |one (i:Nat)|many (l:List Nat)
mutual
inductive E where
 |c (d:D)|v (i:Nat)|tup (es:Es)|lst (es:Es)
 |bin (o:bw) (a b:E)|cmp (o:bq) (a b:E)
 |nt (a:E)|neg (a:E)|an (a b:E)|orr (a b:E)|gk (t a b:E)
 |ix (a b:E)|sl (a:E) (lo hi:Eo)
 |cl (f:Nat) (es:Es)|bi (b:BI) (es:Es)|me (m:ME) (o:E) (es:Es)
 |comp (elt:E) (t:T) (it:It) (cond:Eo)
 |gQ (it:It)
 |je (kvs:List (D×D)) (a:E)|iG (a:E)
inductive Es where
 |nil|cons (e:E) (es:Es)
inductive Eo where
 |no|yes (e:E)
inductive It where
 |seq (e:E)|g8 (es:Es)
 |enum (a:E)|rev (a:E)
end
mutual
inductive S where
 |set (i:Nat) (e:E)|mK (l:List Nat) (e:E)
 |exp (e:E)|ret (e:E)|iff (t:E) (a b:Ss)|for (t:T) (it:It) (b:Ss)|iW (t:E) (b:Ss)
 |ez (c:Nat)
 |tr (f k:Nat) (es:Es)
inductive Ss where
 |nil|cons (s:S) (ss:Ss)
end
inductive Fl where
 |nx|bk|ct|ret (d:D)
noncomputable def big:Nat:=16777216
noncomputable def cj(f:D->D->Option Bool):List D->List D->Option Bool
 |[],[]=>some true
 |x :: xs,y :: ys=>do
  let b <-f x y
  let c <-cj f xs ys
  pure (b&&c)
 |_,_=>some false
noncomputable def bf(h:Hh)(n:Nat):Option (List D):=match h[n]? with
 |some (.lst ds)=>some ds
 |some (.bS ds)=>some ds
 |_=>none
noncomputable def b2i(b:Bool):Int:=if b then 1 else 0
noncomputable def jJ(h:Hh)(f:D->D->Option Bool)(a b:Nat):Option Bool:=if a=b then (bf h a).map λ_=>true else match h[a]?,h[b]? with
 |some (.lst x),some (.lst y)=>cj f x y
 |some (.bS x),some (.lst y)=>cj f x y
 |some (.lst x),some (.bS y)=>cj f x y
 |_,_=>none
noncomputable def iH(h:Hh):Nat->D->D->Option Bool
 |0,_,_=>none
 |_+1,.aQ,.aQ=>some true
 |_+1,.bl a,.bl b=>some (a==b)
 |_+1,.int a,.int b=>some (a==b)
 |_+1,.bl a,.int b=>some (b2i a==b)
 |_+1,.int a,.bl b=>some (a==b2i b)
 |_+1,.str a,.str b=>some (a==b)
 |n+1,.tup a,.tup b=>cj (iH h n) a b
 |n+1,.ref a,.ref b=>jJ h (iH h n) a b
 |_+1,.ref a,_=>(bf h a).map λ_=>false
 |_+1,_,.ref a=>(bf h a).map λ_=>false
 |_+1,_,_=>some false
noncomputable def deep:Nat:=20
noncomputable def truthy(h:Hh):D->Option Bool
 |.aQ=>some false
 |.bl b=>some b
 |.int i=>some (i != 0)
 |.str s=>some (!s.isEmpty)
 |.tup ds=>some (!ds.isEmpty)
 |.ref n=>(bf h n).map λds=>!ds.isEmpty
noncomputable def alloc(ds:List D)(h:Hh):R D:=if ds.length<=big then .ok (.ref h.length) (h++[.lst ds])else .bad
noncomputable def rep{α:Type}(k:Nat)(l:List α):List α:=(List.replicate k l).flatten
noncomputable def bV(i j:Int):Bool:=(decide (-(2 ^ 64)<i)&&decide (i<2 ^ 64)) || (decide (-(2 ^ 64)<j)&&decide (j<2 ^ 64))
noncomputable def bQ:bw->D->D->Hh->R D
 |.add,.int i,.int j,h=>.ok (.int (i+j)) h
 |.add,.str a,.str b,h=>if a.length+b.length<=big then .ok (.str (a++b)) h else .bad
 |.add,.tup a,.tup b,h=>if a.length+b.length<=big then .ok (.tup (a++b)) h else .bad
 |.add,.ref a,.ref b,h=>match h[a]?,h[b]? with
  |some (.lst x),some (.lst y)=>alloc (x++y) h
  |_,_=>.bad
 |.sub,.int i,.int j,h=>.ok (.int (i - j)) h
 |.mul,.int i,.int j,h=>if bV i j then .ok (.int (i*j)) h else .bad
 |.mul,.str a,.int k,h=>if 0<=k/\k<=1000/\a.length<=1000 then .ok (.str (rep k.toNat a)) h else .bad
 |.mul,.tup a,.int k,h=>if 0<=k/\k<=1000/\a.length<=1000 then .ok (.tup (rep k.toNat a)) h else .bad
 |.mul,.ref a,.int k,h=>match h[a]? with
  |some (.lst x)=>if 0<=k/\k<=1000/\x.length<=1000 then alloc (rep k.toNat x) h else .bad
  |_=>.bad
 |.fdiv,.int i,.int j,h=>if 0<j/\j<1073741824 then .ok (.int (i / j)) h else .bad
 |.mod,.int i,.int j,h=>if 0<j then .ok (.int (i % j)) h else .bad
 |_,_,_,_=>.bad
noncomputable def cop(o:bq)(x y:D)(h:Hh):Option Bool:=match o,x,y with
 |.eq,x,y=>iH h deep x y
 |.ne,x,y=>(iH h deep x y).map (!·)
 |.lt,.int i,.int j=>some (decide (i<j))
 |.gt,.int i,.int j=>some (decide (j<i))
 |_,_,_=>none
noncomputable def dM(n:Nat)(i:Int):Option Nat:=if 0<=i then (if i<n then some i.toNat else none)else if -(n:Int)<=i then some (i+n).toNat else none
noncomputable def bB{α:Type}(xs:List α)(i:Int):Option α:=(dM xs.length i).bind λj=>xs[j]?
noncomputable def eY(x y:D)(h:Hh):Option D:=match x,y with
 |.tup ds,.int i=>bB ds i
 |.str s,.int i=>(bB s i).map λc=>.str [c]
 |.ref n,.int i=>(bf h n).bind λds=>bB ds i
 |_,_=>none
noncomputable def aO(n d:Nat):Option Int->Nat
 |none=>d
 |some v=>if v<0 then (v+n).toNat else min v.toNat n
noncomputable def cut{α:Type}(xs:List α)(lo hi:Option Int):List α:=(xs.drop (aO xs.length 0 lo)).take (aO xs.length xs.length hi - aO xs.length 0 lo)
noncomputable def gR(x:D)(lo hi:Option Int)(h:Hh):R D:=match x with
 |.tup ds=>.ok (.tup (cut ds lo hi)) h
 |.str s=>.ok (.str (cut s lo hi)) h
 |.ref n=>match bf h n with
  |some ds=>alloc (cut ds lo hi) h
  |none=>.bad
 |_=>.bad
noncomputable def boolsOf:List D->Option (List Bool)
 |[]=>some []
 |.bl b :: ds=>(boolsOf ds).map λr=>b :: r
 |_=>none
noncomputable def intsOf:List D->Option (List Int)
 |[]=>some []
 |.int i :: ds=>(intsOf ds).map λr=>i :: r
 |_=>none
noncomputable def strsOf:List D->Option (List (List Nat))
 |[]=>some []
 |.str s :: ds=>(strsOf ds).map λr=>s :: r
 |_=>none
noncomputable def b8(sep:List Nat):List (List Nat)->List Nat
 |[]=>[]
 |[s]=>s
 |s :: t :: r=>s++sep++b8 sep (t :: r)
noncomputable def lexLe:List Nat->List Nat->Bool
 |[],_=>true
 |_ :: _,[]=>false
 |x :: xs,y :: ys=>if x=y then lexLe xs ys else decide (x<y)
noncomputable def JB(x:List Nat):List (List Nat)->List (List Nat)
 |[]=>[x]
 |y :: ys=>if lexLe x y then x :: y :: ys else y :: JB x ys
noncomputable def dz:List (List Nat)->List (List Nat)
 |[]=>[]
 |x :: xs=>JB x (dz xs)
noncomputable def eL(b:BI)(xs:List D)(h:Hh):R D:=match b,xs with
 |.len,[.str s]=>if s.length<=big then .ok (.int s.length) h else .bad
 |.len,[.tup ds]=>.ok (.int ds.length) h
 |.len,[.ref n]=>R.of ((bf h n).map λds=>.int ds.length) h
 |.sum,[.ref n]=>R.of (((bf h n).bind intsOf).map λis=>.int is.sum) h
 |.min,[.int i,.int j]=>.ok (.int (if j<i then j else i)) h
 |_,_=>.bad
noncomputable def eZ(m:ME)(o:D)(xs:List D)(h:Hh):R D:=match m,o,xs with
 |.join,.str sep,[.ref n]=>match (bf h n).bind strsOf with
  |some ss=>if (ss.map (·.length)).sum+ss.length*sep.length<=big then .ok (.str (b8 sep ss)) h else .bad
  |none=>.bad
 |.append,.ref n,[x]=>match h[n]? with
  |some (.lst ds)=>if ds.length<big then .ok .aQ (h.set n (.lst (ds++[x])))else .bad
  |_=>.bad
 |.extend,.ref n,[.ref m]=>match h[n]?,h[m]? with
  |some (.lst ds),some (.lst es)=>if ds.length+es.length<=big then .ok .aQ (h.set n (.lst (ds++es)))else .bad
  |_,_=>.bad
 |.pop,.ref n,[]=>match h[n]? with
  |some (.lst ds)=>match ds[ds.length - 1]? with
   |some x=>.ok x (h.set n (.lst ds.dropLast))
   |none=>.bad
  |_=>.bad
 |_,_,_=>.bad
noncomputable def pW(m:ME)(x:D)(h:Hh):Bool:=match m,x with
 |.join,.str _=>true
 |.join,_=>false
 |_,.ref n=>(bf h n).isSome
 |_,_=>false
noncomputable def ir(x:D):List (D×D)->Option D
 |[]=>none
 | (k,v) :: r=>match iH [] 1 k x with
  |some true=>some v
  |some false=>ir x r
  |none=>none
abbrev Src:=List D×List (Nat×List D)
noncomputable def gc(h:Hh):D->Option Src
 |.tup ds=>some (ds,[])
 |.str s=>some (s.map λc=>.str [c],[])
 |.ref n=>(bf h n).map λds=>(ds,[(n,ds)])
 |_=>none
noncomputable def range(lo:Int)(n:Nat):List D:=(List.range n).map λ(i:Nat)=>.int (lo+i)
noncomputable def fk:List D->Option Src
 |[.int j]=>if -(2 ^ 62)<=j/\j<2 ^ 62 then some (range 0 j.toNat,[])else none
 |[.int i,.int j]=>if -(2 ^ 62)<=i/\i<2 ^ 62/\-(2 ^ 62)<=j/\j<2 ^ 62 then some (range i (j - i).toNat,[])else none
 |_=>none
noncomputable def gA:Int->List D->List D
 |_,[]=>[]
 |k,x :: xs=>.tup [.int k,x] :: gA (k+1) xs
noncomputable def yy(a b:List D):Bool:=@decide (a=b) (Classical.propDecidable _)
theorem sy(a b:List D):yy a b=true↔a=b:=@decide_eq_true_iff _ (Classical.propDecidable _)
@[simp] theorem yz(a:List D):yy a a=true:=(sy a a).mpr rfl
noncomputable def stays(h:Hh):List (Nat×List D)->Bool
 |[]=>true
 | (n,ds) :: r=>(match bf h n with|some es=>yy es ds|none=>false)&&stays h r
noncomputable def cI:List Nat->List D->Fr->Option Fr
 |[],[],fr=>some fr
 |i :: is,d :: ds,fr=>cI is ds (fr.set i (some d))
 |_,_,_=>none
noncomputable def br:T->D->Fr->Option Fr
 |.one i,d,fr=>some (fr.set i (some d))
 |.many l,.tup ds,fr=>cI l ds fr
 |_,_,_=>none
noncomputable def slots:T->List Nat
 |.one i=>[i]
 |.many l=>l
noncomputable def undef(t:T)(fr:Fr):Bool:=(slots t).all λi=>(fr[i]?.join).isNone
noncomputable def Cu:D->Option (List D)
 |.tup ds=>some ds
 |_=>none
noncomputable def qR:D->Hh->R D
 |.tup ds,h=>.ok (.tup ds) h
 |.ref n,h=>match bf h n with
  |some ds=>if ds.length<=big then .ok (.tup ds) h else .bad
  |none=>.bad
 |_,_=>.bad
noncomputable def Cv(h:Hh):D->Option Src
 |.ref n=>(bf h n).map λds=>(ds,[(n,ds)])
 |_=>none
noncomputable def cQ(f:D->Hh->R (Option D))(ck:List (Nat×List D)):List D->Hh->R (List D)
 |[],h=>if stays h ck then .ok [] h else .bad
 |d :: ds,h=>if stays h ck then (f d h).bind λo h1=>(cQ f ck ds h1).bind λr h2=>.ok (o.toList++r) h2 else .bad
noncomputable def forL(f:D->Fr->Hh->R (Fl×Fr))(ck:List (Nat×List D)):List D->Fr->Hh->R (Fl×Fr)
 |[],fr,h=>if stays h ck then .ok (.nx,fr) h else .bad
 |d :: ds,fr,h=>if stays h ck then (f d fr h).bind λp h1=>match p.1 with
   |.nx=>forL f ck ds p.2 h1
   |.ct=>forL f ck ds p.2 h1
   |.bk=>.ok (.nx,p.2) h1
   |.ret x=>.ok (.ret x,p.2) h1
  else .bad
noncomputable def di(t:Fr->Hh->R Bool)(f:Fr->Hh->R (Fl×Fr)):Nat->Fr->Hh->R (Fl×Fr)
 |0,_,_=>.bad
 |n+1,fr,h=>(t fr h).bind λb h1=>if b then (f fr h1).bind λp h2=>match p.1 with
   |.nx=>di t f n p.2 h2
   |.ct=>di t f n p.2 h2
   |.bk=>.ok (.nx,p.2) h2
   |.ret x=>.ok (.ret x,p.2) h2
  else .ok (.nx,fr) h1
abbrev aG:=Nat->List D->Hh->R D
noncomputable def intOf:D->Option Int
 |.int i=>some i
 |_=>none
mutual
noncomputable def ev(P:aG):E->Fr->Hh->R D
 |.c d,_,h=>.ok d h
 |.v i,fr,h=>R.of (fr[i]?.join) h
 |.tup es,fr,h=>(bR P es fr h).bind λds h1=>if ds.length<=big then .ok (.tup ds) h1 else .bad
 |.lst es,fr,h=>(bR P es fr h).bind λds h1=>alloc ds h1
 |.bin o a b,fr,h=>(ev P a fr h).bind λx h1=>(ev P b fr h1).bind λy h2=>bQ o x y h2
 |.cmp o a b,fr,h=>(ev P a fr h).bind λx h1=>(ev P b fr h1).bind λy h2=>R.of ((cop o x y h2).map .bl) h2
 |.nt a,fr,h=>(ev P a fr h).bind λx h1=>match x with
   |.bl b=>.ok (.bl (!b)) h1
   |_=>.bad
 |.neg a,fr,h=>(ev P a fr h).bind λx h1=>match x with
   |.int i=>.ok (.int (-i)) h1
   |_=>.bad
 |.an a b,fr,h=>(ev P a fr h).bind λx h1=>match x with
   |.bl true=>ev P b fr h1
   |.bl false=>.ok (.bl false) h1
   |_=>.bad
 |.orr a b,fr,h=>(ev P a fr h).bind λx h1=>match x with
   |.bl true=>.ok (.bl true) h1
   |.bl false=>ev P b fr h1
   |_=>.bad
 |.gk t a b,fr,h=>(aF P t fr h).bind λk h1=>if k then ev P a fr h1 else ev P b fr h1
 |.ix a b,fr,h=>(ev P a fr h).bind λx h1=>(ev P b fr h1).bind λy h2=>R.of (eY x y h2) h2
 |.sl a lo hi,fr,h=>(ev P a fr h).bind λx h1=>(fJ P lo fr h1).bind λl h2=>(fJ P hi fr h2).bind λu h3=>gR x l u h3
 |.cl f es,fr,h=>(bR P es fr h).bind λds h1=>P f ds h1
 |.bi b es,fr,h=>(bR P es fr h).bind λds h1=>eL b ds h1
 |.me m o es,fr,h=>(ev P o fr h).bind λx h1=>if pW m x h1 then (bR P es fr h1).bind λds h2=>eZ m x ds h2 else .bad
 |.comp elt t it cond,fr,h=>(cK P it fr h).bind λs h1=>if undef t fr then
   (cQ (λd h2=>match br t d fr with
    |none=>.bad
    |some aq=>(iu P cond aq h2).bind λk h3=>if k then (ev P elt aq h3).bind λx h4=>.ok (some x) h4 else .ok none h3) s.2 s.1 h1).bind λds h2=>alloc ds h2 else .bad
 |.gQ it,fr,h=>(cK P it fr h).bind λs h1=>alloc s.1 h1
 |.je kvs a,fr,h=>(ev P a fr h).bind λx h1=>R.of (ir x kvs) h1
 |.iG a,fr,h=>(ev P a fr h).bind λx h1=>qR x h1
noncomputable def bR(P:aG):Es->Fr->Hh->R (List D)
 |.nil,_,h=>.ok [] h
 |.cons e es,fr,h=>(ev P e fr h).bind λd h1=>(bR P es fr h1).bind λds h2=>.ok (d :: ds) h2
noncomputable def fJ(P:aG):Eo->Fr->Hh->R (Option Int)
 |.no,_,h=>.ok none h
 |.yes e,fr,h=>(ev P e fr h).bind λd h1=>R.of ((intOf d).map some) h1
noncomputable def iu(P:aG):Eo->Fr->Hh->R Bool
 |.no,_,h=>.ok true h
 |.yes e,fr,h=>aF P e fr h
noncomputable def aF(P:aG):E->Fr->Hh->R Bool
 |.an a b,fr,h=>(aF P a fr h).bind λk h1=>if k then aF P b fr h1 else .ok false h1
 |.orr a b,fr,h=>(aF P a fr h).bind λk h1=>if k then .ok true h1 else aF P b fr h1
 |.nt a,fr,h=>(aF P a fr h).bind λk h1=>.ok (!k) h1
 |e,fr,h=>(ev P e fr h).bind λx h1=>R.of (truthy h1 x) h1
noncomputable def cK(P:aG):It->Fr->Hh->R Src
 |.seq e,fr,h=>(ev P e fr h).bind λx h1=>R.of (gc h1 x) h1
 |.g8 es,fr,h=>(bR P es fr h).bind λds h1=>R.of (fk ds) h1
 |.enum a,fr,h=>(ev P a fr h).bind λx h1=>R.of ((Cv h1 x).map λs=>(gA 0 s.1,s.2)) h1
 |.rev a,fr,h=>(ev P a fr h).bind λx h1=>R.of ((Cu x).map λds=>(ds.reverse,[])) h1
end
noncomputable def xo:Nat:=1000
noncomputable def Cw(k:Nat):D->Option D
 |.int c=>if 0<=c/\c<k then some (.tup [.str [114,101,102,117,115,101,100],.int c])else none
 |_=>none
noncomputable def tryD(k:Nat):R D->R D->R D
 |.ok d h,_=>.ok d h
 |.bad,q=>q.bind λc h=>R.of (Cw k c) h
mutual
noncomputable def ex(P:aG)(w:Nat):S->Fr->Hh->R (Fl×Fr)
 |.set i e,fr,h=>(ev P e fr h).bind λx h1=>.ok (.nx,fr.set i (some x)) h1
 |.mK l e,fr,h=>(ev P e fr h).bind λx h1=>match br (.many l) x fr with
   |some aq=>.ok (.nx,aq) h1
   |none=>.bad
 |.exp e,fr,h=>(ev P e fr h).bind λ_ h1=>.ok (.nx,fr) h1
 |.ret e,fr,h=>(ev P e fr h).bind λx h1=>.ok (.ret x,fr) h1
 |.iff t a b,fr,h=>(aF P t fr h).bind λk h1=>if k then exs P w a fr h1 else exs P w b fr h1
 |.for t it b,fr,h=>(cK P it fr h).bind λs h1=>forL (λd aq h2=>match br t d aq with
   |some aS=>exs P w b aS h2
   |none=>.bad) s.2 s.1 fr h1
 |.iW t b,fr,h=>di (λaq h2=>aF P t aq h2) (λaq h2=>exs P w b aq h2) w fr h
 |.ez _,_,_=>.bad
 |.tr f k es,fr,h=>(bR P es fr h).bind λds h1=>(tryD k (P f ds h1) (P (f+xo) ds h1)).bind λx h2=>.ok (.ret x,fr) h2
noncomputable def exs(P:aG)(w:Nat):Ss->Fr->Hh->R (Fl×Fr)
 |.nil,fr,h=>.ok (.nx,fr) h
 |.cons s ss,fr,h=>(ex P w s fr h).bind λp h1=>match p.1 with
   |.nx=>exs P w ss p.2 h1
   |_=>.ok p h1
end
structure Fn where
 np:Nat
 ns:Nat
 body:Ss
noncomputable def dg(fn:Fn)(ds:List D):Fr:=ds.map some++List.replicate (fn.ns - fn.np) none
noncomputable def endOf(r:R (Fl×Fr)):R D:=r.bind λp h=>match p.1 with
 |.ret d=>.ok d h
 |.nx=>.ok .aQ h
 |_=>.bad
abbrev XR:=Option (Nat×Hh)
abbrev cC:=Nat->List D->Hh->XR
mutual
noncomputable def xe(P:aG)(X:cC):E->Fr->Hh->XR
 |.cl f es,fr,h=>match bR P es fr h with
  |.ok ds h1=>X f ds h1
  |.bad=>xa P X es fr h
 |.ix a _,fr,h=>xe P X a fr h
 |.me m o es,fr,h=>match ev P o fr h with
  |.ok x h1=>if pW m x h1 then xa P X es fr h1 else none
  |.bad=>none
 |_,_,_=>none
noncomputable def xa(P:aG)(X:cC):Es->Fr->Hh->XR
 |.nil,_,_=>none
 |.cons e es,fr,h=>match ev P e fr h with
  |.ok _ h1=>xa P X es fr h1
  |.bad=>xe P X e fr h
end
noncomputable def cR(f:D->Fr->Hh->R (Fl×Fr))(g:D->Fr->Hh->XR)(ck:List (Nat×List D)):List D->Fr->Hh->XR
 |[],_,_=>none
 |d :: ds,fr,h=>if stays h ck then match f d fr h with
   |.ok (.nx,af) h1=>cR f g ck ds af h1
   |.ok (.ct,af) h1=>cR f g ck ds af h1
   |.ok _ _=>none
   |.bad=>g d fr h
  else none
noncomputable def fq(t:Fr->Hh->R Bool)(f:Fr->Hh->R (Fl×Fr))(g:Fr->Hh->XR):Nat->Fr->Hh->XR
 |0,_,_=>none
 |n+1,fr,h=>match t fr h with
  |.ok true h1=>match f fr h1 with
   |.ok (.nx,af) h2=>fq t f g n af h2
   |.ok (.ct,af) h2=>fq t f g n af h2
   |.ok _ _=>none
   |.bad=>g fr h1
  |_=>none
mutual
noncomputable def xs(P:aG)(X:cC)(w:Nat):S->Fr->Hh->XR
 |.ez c,_,h=>some (c,h)
 |.set _ e,fr,h=>xe P X e fr h
 |.exp e,fr,h=>xe P X e fr h
 |.ret e,fr,h=>xe P X e fr h
 |.iff t a b,fr,h=>match aF P t fr h with
  |.ok k h1=>if k then xss P X w a fr h1 else xss P X w b fr h1
  |.bad=>xe P X t fr h
 |.for t it b,fr,h=>match cK P it fr h with
  |.ok s h1=>cR (λd aq h2=>match br t d aq with|some aS=>exs P w b aS h2|none=>.bad) (λd aq h2=>match br t d aq with|some aS=>xss P X w b aS h2|none=>none) s.2 s.1 fr h1
  |.bad=>none
 |.iW t b,fr,h=>fq (λaq h2=>aF P t aq h2) (λaq h2=>exs P w b aq h2) (λaq h2=>xss P X w b aq h2) w fr h
 |_,_,_=>none
noncomputable def xss(P:aG)(X:cC)(w:Nat):Ss->Fr->Hh->XR
 |.nil,_,_=>none
 |.cons s ss,fr,h=>match ex P w s fr h with
  |.ok (.nx,af) h1=>xss P X w ss af h1
  |.ok _ _=>none
  |.bad=>xs P X w s fr h
end
noncomputable def lV(X:cC)(f:Nat)(ds:List D)(h:Hh):R D:=if xo<=f then (match X (f - xo) ds h with
  |some (c,h')=>.ok (.int c) h'
  |none=>.bad)else .bad
noncomputable def runs(F:List Fn)(w:Nat):Nat->aG×cC
 |0=>(λ_ _ _=>.bad,λ_ _ _=>none)
 |n+1=>
  let X:cC:=λf ds h=>match F[f]? with
   |some fn=>if ds.length=fn.np then xss (runs F w n).1 (runs F w n).2 w fn.body (dg fn ds) h else none
   |none=>none
  (λf ds h=>match F[f]? with
   |some fn=>if ds.length=fn.np then endOf (exs (runs F w n).1 w fn.body (dg fn ds) h)else .bad
   |none=>lV X f ds h,X)
noncomputable def run(F:List Fn)(w n:Nat):aG:=(runs F w n).1
noncomputable def cy(F:List Fn)(w n:Nat):cC:=(runs F w n).2
theorem fK(F:List Fn)(w n f:Nat)(ds:List D)(h:Hh):run F w (n+1) f ds h=match F[f]? with
  |some fn=>if ds.length=fn.np then endOf (exs (run F w n) w fn.body (dg fn ds) h)else .bad
  |none=>lV (cy F w (n+1)) f ds h:=rfl
theorem iw(F:List Fn)(w n f:Nat)(ds:List D)(h:Hh):cy F w (n+1) f ds h=match F[f]? with
  |some fn=>if ds.length=fn.np then xss (run F w n) (cy F w n) w fn.body (dg fn ds) h else none
  |none=>none:=rfl
mutual
noncomputable def mL(rz:List Nat):E->Bool
 |.cl f es=>!rz.contains f&&wH rz es
 |.ix a _=>mL rz a
 |.me _ _ es=>wH rz es
 |_=>true
noncomputable def wH(rz:List Nat):Es->Bool
 |.nil=>true
 |.cons e es=>mL rz e&&wH rz es
end
mutual
noncomputable def oB(rz:List Nat):S->Bool
 |.ez _=>false
 |.set _ e=>mL rz e
 |.exp e=>mL rz e
 |.ret e=>mL rz e
 |.iff t a b=>mL rz t&&(kg rz a&&kg rz b)
 |.for _ _ b=>kg rz b
 |.iW _ b=>kg rz b
 |_=>true
noncomputable def kg(rz:List Nat):Ss->Bool
 |.nil=>true
 |.cons s ss=>oB rz s&&kg rz ss
end
section
variable{P:aG}{X:cC}{w:Nat}{rz:List Nat}(hz:∀f,rz.contains f=false->∀ds h,X f ds h=none)
include hz
mutual
theorem o5:∀(e:E) {fr:Fr}{h:Hh},mL rz e=true->xe P X e fr h=none
 |.cl f es,fr,h,z=>by
  simp only[mL,Bool.and_eq_true,Bool.not_eq_true']at z;simp only[xe];split
  .exact hz f z.1 _ _
  .exact yC es z.2
 |.ix a b,fr,h,z=>by
  simp only[mL]at z;simp only[xe];exact o5 a z
 |.me m o es,fr,h,z=>by
  simp only[mL]at z;simp only[xe];split
  .split
   .exact yC es z
   .rfl
  .rfl
 |.c _,_,_,_=>rfl|.v _,_,_,_=>rfl|.tup _,_,_,_=>rfl|.lst _,_,_,_=>rfl
 |.bin _ _ _,_,_,_=>rfl|.cmp _ _ _,_,_,_=>rfl
 |.nt _,_,_,_=>rfl|.neg _,_,_,_=>rfl|.an _ _,_,_,_=>rfl|.orr _ _,_,_,_=>rfl|.gk _ _ _,_,_,_=>rfl
 |.sl _ _ _,_,_,_=>rfl
 |.bi _ _,_,_,_=>rfl
 |.comp _ _ _ _,_,_,_=>rfl|.gQ _,_,_,_=>rfl
 |.je _ _,_,_,_=>rfl|.iG _,_,_,_=>rfl
theorem yC:∀(es:Es) {fr:Fr}{h:Hh},wH rz es=true->xa P X es fr h=none
 |.nil,_,_,_=>rfl
 |.cons e es,fr,h,z=>by
  simp only[wH,Bool.and_eq_true]at z;simp only[xa];split
  .exact yC es z.2
  .exact o5 e z.1
end
omit hz in
theorem mP{f:D->Fr->Hh->R (Fl×Fr)}{g:D->Fr->Hh->XR}{ck:List (Nat×List D)}(hg:∀d fr h,g d fr h=none):∀(ds:List D) (fr:Fr) (h:Hh),cR f g ck ds fr h=none
 |[],_,_=>rfl
 |d :: ds,fr,h=>by
  simp only[cR];split
  .split
   .exact mP hg ds _ _
   .exact mP hg ds _ _
   .rfl
   .exact hg _ _ _
  .rfl
omit hz in
theorem mQ{t:Fr->Hh->R Bool}{f:Fr->Hh->R (Fl×Fr)}{g:Fr->Hh->XR}(hg:∀fr h,g fr h=none):∀(n:Nat) (fr:Fr) (h:Hh),fq t f g n fr h=none
 |0,_,_=>rfl
 |n+1,fr,h=>by
  simp only[fq];split
  .split
   .exact mQ hg n _ _
   .exact mQ hg n _ _
   .rfl
   .exact hg _ _
  .rfl
mutual
theorem JD:∀(s:S) {fr:Fr}{h:Hh},oB rz s=true->xs P X w s fr h=none
 |.ez c,_,_,z=>by simp[oB]at z
 |.set i e,fr,h,z=>by simp only[oB]at z;simp only[xs];exact o5 hz e z
 |.exp e,fr,h,z=>by simp only[oB]at z;simp only[xs];exact o5 hz e z
 |.ret e,fr,h,z=>by simp only[oB]at z;simp only[xs];exact o5 hz e z
 |.iff t a b,fr,h,z=>by
  simp only[oB,Bool.and_eq_true]at z;simp only[xs];split
  .split
   .exact lu a z.2.1
   .exact lu b z.2.2
  .exact o5 hz t z.1
 |.for t it b,fr,h,z=>by
  simp only[oB]at z;simp only[xs];split
  .refine mP (λd fr h=>?_) _ _ _;split
   .exact lu b z
   .rfl
  .rfl
 |.iW t b,fr,h,z=>by
  simp only[oB]at z;simp only[xs];exact mQ (λfr h=>lu b z) _ _ _
 |.mK _ _,_,_,_=>rfl
 |.tr _ _ _,_,_,_=>rfl
theorem lu:∀(s:Ss) {fr:Fr}{h:Hh},kg rz s=true->xss P X w s fr h=none
 |.nil,_,_,_=>rfl
 |.cons s ss,fr,h,z=>by
  simp only[kg,Bool.and_eq_true]at z;simp only[xss];split
  .exact lu ss z.2
  .rfl
  .exact JD s z.1
end
end
noncomputable def oE(rz:List Nat):Nat->List Fn->Bool
 |_,[]=>true
 |k,fn :: r=>(rz.contains k ||kg rz fn.body)&&oE rz (k+1) r
theorem oE.get{rz:List Nat}:∀{F:List Fn}{k f:Nat}{fn:Fn},oE rz k F=true->F[f]?=some fn->rz.contains (k+f)=false->kg rz fn.body=true
 |_ :: r,k,0,fn,z,e,n=>by
  simp only[oE,Bool.and_eq_true,Bool.or_eq_true]at z;cases e;rcases z.1 with z|z
  .rw[Nat.add_zero,z]at n;cases n
  .exact z
 |_ :: r,k,f+1,fn,z,e,n=>by
  simp only[oE,Bool.and_eq_true]at z;exact oE.get (F:=r) (k:=k+1) (f:=f) z.2 (by simpa using e) (by rw[show k+1+f=k+(f+1)by omega];exact n)
theorem wI{F:List Fn}{rz:List Nat}(hF:oE rz 0 F=true)(w:Nat):∀(n f:Nat),rz.contains f=false->∀ds h,cy F w n f ds h=none
 |0,_,_,_,_=>rfl
 |n+1,f,k,ds,h=>by
  rw[iw];cases y:F[f]? with
  |none=>rfl
  |some fn=>
   simp only;split
   .exact lu (wI hF w n) _ (oE.get hF y (by rw[Nat.zero_add];exact k))
   .rfl
section
variable{P:aG}{X:cC}{w:Nat}(hX:∀f ds h r,X f ds h=some r->P f ds h=.bad)
include hX
mutual
theorem eB:∀(e:E) {fr:Fr}{h:Hh}{r:Nat×Hh},xe P X e fr h=some r->ev P e fr h=.bad/\aF P e fr h=.bad
 |.cl f es,fr,h,r,z=>by
  simp only[xe]at z;have q:ev P (.cl f es) fr h=.bad:=by
   rw[ev];cases y:bR P es fr h with
   |ok ds h1=>rw[y]at z;exact hX _ _ _ _ z
   |bad=>rfl
  exact⟨q,by rw[aF,q];rfl;all_goals (intros;contradiction)⟩
 |.ix a b,fr,h,r,z=>by
  simp only[xe]at z;have q:ev P (.ix a b) fr h=.bad:=by rw[ev,(eB a z).1];rfl
  exact⟨q,by rw[aF,q];rfl;all_goals (intros;contradiction)⟩
 |.me m o es,fr,h,r,z=>by
  simp only[xe]at z;have q:ev P (.me m o es) fr h=.bad:=by
   rw[ev];cases y:ev P o fr h with
   |ok x h1=>
    rw[y]at z;simp only at z;split at z
    .rename_i k;simp only[ao,if_pos k];rw[uc es z];rfl
    .cases z
   |bad=>rfl
  exact⟨q,by rw[aF,q];rfl;all_goals (intros;contradiction)⟩
 |.c _,_,_,_,z=>nomatch z|.v _,_,_,_,z=>nomatch z|.tup _,_,_,_,z=>nomatch z|.lst _,_,_,_,z=>nomatch z
 |.bin _ _ _,_,_,_,z=>nomatch z|.cmp _ _ _,_,_,_,z=>nomatch z
 |.nt _,_,_,_,z=>nomatch z|.neg _,_,_,_,z=>nomatch z|.an _ _,_,_,_,z=>nomatch z|.orr _ _,_,_,_,z=>nomatch z|.gk _ _ _,_,_,_,z=>nomatch z
 |.sl _ _ _,_,_,_,z=>nomatch z
 |.bi _ _,_,_,_,z=>nomatch z
 |.comp _ _ _ _,_,_,_,z=>nomatch z|.gQ _,_,_,_,z=>nomatch z
 |.je _ _,_,_,_,z=>nomatch z|.iG _,_,_,_,z=>nomatch z
theorem uc:∀(es:Es) {fr:Fr}{h:Hh}{r:Nat×Hh},xa P X es fr h=some r->bR P es fr h=.bad
 |.nil,_,_,_,z=>nomatch z
 |.cons e es,fr,h,r,z=>by
  simp only[xa]at z;rw[bR];cases y:ev P e fr h with
  |ok d h1=>rw[y]at z;simp only[ao];rw[uc es z];rfl
  |bad=>rfl
end
omit hX in
theorem gI{f:D->Fr->Hh->R (Fl×Fr)}{g:D->Fr->Hh->XR}{ck:List (Nat×List D)}(hg:∀d fr h r,g d fr h=some r->f d fr h=.bad):∀(ds:List D) {fr:Fr}{h:Hh}{r:Nat×Hh},cR f g ck ds fr h=some r->forL f ck ds fr h=.bad
 |[],_,_,_,z=>nomatch z
 |d :: ds,fr,h,r,z=>by
  simp only[cR]at z;split at z
  case isFalse=>cases z
  rename_i k;simp only[forL,if_pos k];split at z
  .rename_i e;rw[e];exact gI hg ds z
  .rename_i e;rw[e];exact gI hg ds z
  .cases z
  .rw[hg _ _ _ _ z];rfl
omit hX in
theorem gK{t:Fr->Hh->R Bool}{f:Fr->Hh->R (Fl×Fr)}{g:Fr->Hh->XR}(hg:∀fr h r,g fr h=some r->f fr h=.bad):∀(n:Nat) {fr:Fr}{h:Hh}{r:Nat×Hh},fq t f g n fr h=some r->di t f n fr h=.bad
 |0,_,_,_,z=>nomatch z
 |n+1,fr,h,r,z=>by
  simp only[fq]at z;split at z
  case h_2=>cases z
  rename_i e0;simp only[di,e0,ao,if_true];split at z
  .rename_i e;rw[e];exact gK hg n z
  .rename_i e;rw[e];exact gK hg n z
  .cases z
  .rw[hg _ _ _ z];rfl
mutual
theorem mR:∀(s:S) {fr:Fr}{h:Hh}{r:Nat×Hh},xs P X w s fr h=some r->ex P w s fr h=.bad
 |.ez c,_,_,_,_=>by rw[ex]
 |.set i e,fr,h,r,z=>by rw[ex,(eB hX e z).1];rfl
 |.exp e,fr,h,r,z=>by rw[ex,(eB hX e z).1];rfl
 |.ret e,fr,h,r,z=>by rw[ex,(eB hX e z).1];rfl
 |.iff t a b,fr,h,r,z=>by
  simp only[xs]at z;rw[ex];cases y:aF P t fr h with
  |bad=>rfl
  |ok k h1=>
   rw[y]at z;simp only at z;simp only[ao];cases k with
   |true=>exact cX a z
   |false=>exact cX b z
 |.for t it b,fr,h,r,z=>by
  simp only[xs]at z;rw[ex];cases y:cK P it fr h with
  |bad=>rfl
  |ok s h1=>
   rw[y]at z;simp only at z;simp only[ao];refine gI (λd fr h r q=>?_) _ z;cases k:br t d fr with
   |none=>rw[k]at q
   |some aS=>rw[k]at q;exact cX b q
 |.iW t b,fr,h,r,z=>by
  simp only[xs]at z;rw[ex];exact gK (λfr h r q=>cX b q) _ z
 |.mK _ _,_,_,_,z=>nomatch z
 |.tr _ _ _,_,_,_,z=>nomatch z
theorem cX:∀(s:Ss) {fr:Fr}{h:Hh}{r:Nat×Hh},xss P X w s fr h=some r->exs P w s fr h=.bad
 |.nil,_,_,_,z=>nomatch z
 |.cons s ss,fr,h,r,z=>by
  simp only[xss]at z;rw[exs];split at z
  .rename_i e;rw[e];exact cX ss z
  .cases z
  .rw[mR s z];rfl
end
end
theorem o6(F:List Fn)(w:Nat):∀(n f:Nat) (ds:List D) (h:Hh) (r:Nat×Hh),cy F w n f ds h=some r->run F w n f ds h=.bad
 |0,_,_,_,_,_=>rfl
 |n+1,f,ds,h,r,z=>by
  rw[iw]at z;rw[fK];cases y:F[f]? with
  |none=>rw[y]at z;cases z
  |some fn=>
   rw[y]at z;simp only at z ⊢;split at z
   .rename_i k;rw[if_pos k,cX (o6 F w n) _ z];rfl
   .cases z
end Ev
set_option maxRecDepth 100000
namespace Sm
open PySem PySem.Spec PyProof.Rows L2
noncomputable def bC(l:List Nat):Str:=⟨l.toArray⟩
theorem cL(l:List Nat):(bC l).length=l.length:=by simp[bC,Str.length]
theorem wJ{a b:List Nat}(h:bC a=bC b):a=b:=by
 have h1:a.toArray=b.toArray:=congrArg Str.cps h;simpa using congrArg Array.toList h1
theorem jK:Ev.big=sizeLine:=by rw[sizeLine_eq];rfl
section
variable(K:PySem.W.Frag)
mutual
noncomputable def RV(H:Hp)(r:List Addr):Ev.D->V->Prop
 |.aQ,v=>v=.aQ
 |.bl b,v=>v=.bl b
 |.int i,v=>v=.int i
 |.str s,v=>v=.str (bC s)/\s.length<=sizeLine
 |.ref n,v=>∃a,v=.ref a/\r[n]?=some a
 |.tup ds,v=>∃a vs,v=.ref a/\dD K H a vs/\aH H r ds vs
noncomputable def aH(H:Hp)(r:List Addr):List Ev.D->List V->Prop
 |[],vs=>vs=[]
 |d :: ds,vs=>∃v w,vs=v :: w/\RV H r d v/\aH H r ds w
end
noncomputable def yD(H:Hp)(a:Addr)(vs:List V):Prop:=(∃o,H a=some (.bS o (.lst vs)))\/
 ∃(o:Obj) (its:Array Value) (n:Nat),K.lookup a=some o/\o.cls=.type "list" /\o.dict=none/\o.data=.seq its n/\its.size<=sizeLine/\Vals vs its.toList
noncomputable def RO(H:Hp)(r:List Addr):Ev.O->Addr->Prop
 |.lst ds,a=>∃vs,H a=some (.lst vs)/\aH K H r ds vs
 |.bS ds,a=>∃vs,yD K H a vs/\aH K H r ds vs
structure HR(H:Hp)(r:List Addr)(h:Ev.Hh):Prop where
 len:r.length=h.length
 ob:∀(n:Nat) o,h[n]?=some o->∃a,r[n]?=some a/\RO K H r o a
 inj:∀(n m:Nat) a x y,r[n]?=some a->r[m]?=some a->h[n]?=some (.lst x)->h[m]?=some (.lst y)->n=m
structure Fm(r r':List Addr)(H H':Hp):Prop where
 pre:∀(n:Nat) a,r[n]?=some a->r'[n]?=some a
 new:∀a∈r',a∈r\/H a=none
 keep:∀a o,H a=some o->a∉r->H' a=some o
 tups:∀a vs,dD K H a vs->dD K H' a vs
end
section
variable{K:PySem.W.Frag}{H H1 H2:Hp}{r r1 r2:List Addr}{h:Ev.Hh}
theorem Fm.refl:Fm K r r H H:=⟨λ_ _ e=>e,λ_ e=>.inl e,λ_ _ e _=>e,λ_ _ e=>e⟩
theorem Fm.trans(a:Fm K r r1 H H1)(b:Fm K r1 r2 H1 H2):Fm K r r2 H H2 where
 pre:=λn x e=>b.pre n x (a.pre n x e)
 new:=λx e=>by
  rcases b.new x e with q|q
  .exact a.new x q
  .by_cases z:x∈r
   .exact .inl z
   .refine .inr ?_;cases w:H x with
    |none=>rfl
    |some o=>rw[a.keep x o w z]at q;cases q
 keep:=λx o e n=>by
  refine b.keep x o (a.keep x o e n) λz=>?_;rcases a.new x z with q|q
  .exact n q
  .rw[e]at q;cases q
 tups:=λx vs e=>b.tups x vs (a.tups x vs e)
mutual
theorem RV.grow(f:∀(n:Nat) a,r[n]?=some a->r1[n]?=some a)(g:∀a vs,dD K H a vs->dD K H1 a vs):∀{d:Ev.D}{v:V},RV K H r d v->RV K H1 r1 d v
 |.aQ,_,e=>e
 |.bl _,_,e=>e
 |.int _,_,e=>e
 |.str _,_,e=>e
 |.ref n,_,⟨a,e,z⟩=>⟨a,e,f n a z⟩
 |.tup ds,_,⟨a,vs,e,z,q⟩=>⟨a,vs,e,g a vs z,aH.grow f g q⟩
theorem aH.grow(f:∀(n:Nat) a,r[n]?=some a->r1[n]?=some a)(g:∀a vs,dD K H a vs->dD K H1 a vs):∀{ds:List Ev.D}{vs:List V},aH K H r ds vs->aH K H1 r1 ds vs
 |[],_,e=>e
 |_ :: _,_,⟨v,w,e,z,q⟩=>⟨v,w,e,RV.grow f g z,aH.grow f g q⟩
end
theorem RV.mono(f:Fm K r r1 H H1){d:Ev.D}{v:V}(q:RV K H r d v):RV K H1 r1 d v:=q.grow f.pre f.tups
theorem aH.mono(f:Fm K r r1 H H1){ds:List Ev.D}{vs:List V}(q:aH K H r ds vs):aH K H1 r1 ds vs:=q.grow f.pre f.tups
theorem aH.nil:aH K H r [] []:=by simp[aH]
theorem aH.cons{d:Ev.D}{v:V}{ds:List Ev.D}{vs:List V}(a:RV K H r d v)(b:aH K H r ds vs):aH K H r (d :: ds) (v :: vs):=by
 simp only[aH];exact⟨v,vs,rfl,a,b⟩
theorem aH.length:∀{ds:List Ev.D}{vs:List V},aH K H r ds vs->vs.length=ds.length
 |[],_,e=>by simp only[aH]at e;subst e;rfl
 |_ :: _,_,e=>by
  simp only[aH]at e;obtain⟨v,w,rfl,_,q⟩:=e;simp[aH.length q]
theorem aH.get:∀{ds:List Ev.D}{vs:List V}{i:Nat}{d:Ev.D},aH K H r ds vs->ds[i]?=some d->∃v,vs[i]?=some v/\RV K H r d v
 |[],_,_,_,_,e=>by simp at e
 |_ :: _,_,0,_,h,e=>by
  simp only[aH]at h;obtain⟨v,w,rfl,z,q⟩:=h;simp at e;subst e;exact⟨v,by simp,z⟩
 |_ :: _,_,i+1,_,h,e=>by
  simp only[aH]at h;obtain⟨v,w,rfl,z,q⟩:=h;obtain⟨u,a,b⟩:=aH.get (i:=i) q (by simpa using e);exact⟨u,by simpa using a,b⟩
theorem aH.append:∀{ds es:List Ev.D}{vs ws:List V},aH K H r ds vs->aH K H r es ws->aH K H r (ds++es) (vs++ws)
 |[],_,_,_,a,b=>by simp only[aH]at a;subst a;simpa using b
 |_ :: _,_,_,_,a,b=>by
  simp only[aH]at a;obtain⟨v,w,rfl,z,q⟩:=a;simp only[List.cons_append];exact .cons z (aH.append q b)
theorem aH.take:∀{ds:List Ev.D}{vs:List V}(n:Nat),aH K H r ds vs->aH K H r (ds.take n) (vs.take n)
 |_,_,0,_=>by simp[aH]
 |[],_,_+1,a=>by simp only[aH]at a;subst a;simp[aH]
 |_ :: _,_,n+1,a=>by
  simp only[aH]at a;obtain⟨v,w,rfl,z,q⟩:=a;simp only[List.take_succ_cons];exact .cons z (aH.take n q)
theorem aH.drop:∀{ds:List Ev.D}{vs:List V}(n:Nat),aH K H r ds vs->aH K H r (ds.drop n) (vs.drop n)
 |_,_,0,a=>by simpa using a
 |[],_,_+1,a=>by simp only[aH]at a;subst a;simp[aH]
 |_ :: _,_,n+1,a=>by
  simp only[aH]at a;obtain⟨v,w,rfl,z,q⟩:=a;simp only[List.drop_succ_cons];exact aH.drop n q
theorem aH.reverse:∀{ds:List Ev.D}{vs:List V},aH K H r ds vs->aH K H r ds.reverse vs.reverse
 |[],_,a=>by simp only[aH]at a;subst a;simp[aH]
 |_ :: _,_,a=>by
  simp only[aH]at a;obtain⟨v,w,rfl,z,q⟩:=a;simp only[List.reverse_cons];exact(aH.reverse q).append (.cons z .nil)
theorem aH.rep{ds:List Ev.D}{vs:List V}(a:aH K H r ds vs):∀k:Nat,aH K H r (Ev.rep k ds) (Ev.rep k vs)
 |0=>by simp[Ev.rep,aH]
 |k+1=>by
  have h:=aH.rep a k;simp only[Ev.rep,List.replicate_succ,List.flatten_cons]at h ⊢;exact a.append h
theorem Fm.laid{p:Addr}{o:HO}(hp:H p=none):Fm K r (r++[p]) H (upd H p o) where
 pre:=λn a e=>by rw[List.getElem?_append_left (List.getElem?_eq_some_iff.mp e).1];exact e
 new:=λa e=>by
  rcases List.mem_append.mp e with q|q
  .exact .inl q
  .rw[List.mem_singleton]at q;subst q;exact .inr hp
 keep:=λa ob e _=>by rw[bz (bU e hp)];exact e
 tups:=λa vs e=>by
  rcases e with (e|⟨ob,e⟩)|e
  .exact .inl (.inl (by rw[bz (bU e hp)];exact e))
  .exact .inl (.inr ⟨ob,by rw[bz (bU e hp)];exact e⟩)
  .exact .inr e
theorem Fm.tup{p:Addr}{o:HO}(hp:H p=none):Fm K r r H (upd H p o) where
 pre:=λn a e=>e
 new:=λa e=>.inl e
 keep:=λa ob e _=>by rw[bz (bU e hp)];exact e
 tups:=(Fm.laid (r:=r) hp).tups
theorem RO.mono{o:Ev.O}{a:Addr}(f:Fm K r r1 H H1)(q:RO K H r o a)(hl:∀ds vs,o=.lst ds->H a=some (.lst vs)->H1 a=some (.lst vs))(hf:∀ob vs,H a=some (.bS ob vs)->H1 a=some (.bS ob vs))
  : RO K H1 r1 o a:=by
 cases o with
 |lst ds=>
  obtain⟨vs,e,z⟩:=q;exact⟨vs,hl ds vs rfl e,z.mono f⟩
 |bS ds=>
  obtain⟨vs,e,z⟩:=q;refine⟨vs,?_,z.mono f⟩;rcases e with ⟨ob,e⟩|e
  .exact .inl ⟨ob,hf _ _ e⟩
  .exact .inr e
theorem HR.tup{p:Addr}{o:HO}(hr:HR K H r h)(hp:H p=none):HR K (upd H p o) r h where
 len:=hr.len
 ob:=λn ob e=>by
  obtain⟨a,e1,q⟩:=hr.ob n ob e;exact⟨a,e1,q.mono (Fm.tup hp) (λ_ vs _ z=>by rw[bz (bU z hp)];exact z) (λ_ _ z=>by rw[bz (bU z hp)];exact z)
   ⟩
 inj:=hr.inj
theorem HR.lst{p:Addr}{ds:List Ev.D}{vs:List V}(hr:HR K H r h)(hp:H p=none)(q:aH K H r ds vs):HR K (upd H p (.lst vs)) (r++[p]) (h++[.lst ds]) where
 len:=by simp[hr.len]
 ob:=λn ob e=>by
  by_cases hn:n<h.length
  .rw[List.getElem?_append_left hn]at e;obtain⟨a,e1,z⟩:=hr.ob n ob e;exact⟨a,(Fm.laid (K:=K) (o:=.lst vs) hp).pre n a e1,z.mono (Fm.laid hp) (λ_ vs _ z=>by rw[bz (bU z hp)];exact z) (λ_ _ z=>by rw[bz (bU z hp)];exact z)
    ⟩
  .have e2:=(List.getElem?_eq_some_iff.mp e).1;simp only[List.length_append,List.length_singleton]at e2;have e3:n=h.length:=by omega
   subst e3;simp at e;subst e;exact⟨p,by rw[<-hr.len];simp,vs,eG,q.mono (Fm.laid hp)⟩
 inj:=λn m a x y e1 e2 e3 e4=>by
  have out:∀(k:Nat) z,(h++[Ev.O.lst ds])[k]?=some (.lst z)->(r++[p])[k]?=some a->(k<h.length/\r[k]?=some a/\h[k]?=some (.lst z)/\a≠p)\/(k=h.length/\a=p):=λk z q1 q2=>by
   by_cases hk:k<h.length
   .rw[List.getElem?_append_left hk]at q1;rw[List.getElem?_append_left (by rw[hr.len];exact hk)]at q2;obtain⟨b,e5,vs',e6,_⟩:=hr.ob k _ q1;rw[q2]at e5;cases e5;exact .inl ⟨hk,q2,q1,bU e6 hp⟩
   .have e5:=(List.getElem?_eq_some_iff.mp q1).1;simp only[List.length_append,List.length_singleton]at e5;have e6:k=r.length:=by rw[hr.len];omega
    subst e6;simp at q2;exact .inr ⟨hr.len,q2.symm⟩
  rcases out n x e3 e1 with ⟨h1,h2,h3,h4⟩|⟨h1,h2⟩
  .rcases out m y e4 e2 with ⟨k1,k2,k3,k4⟩|⟨k1,k2⟩
   .exact hr.inj n m a x y h2 k2 h3 k3
   .exact absurd k2 h4
  .rcases out m y e4 e2 with ⟨k1,k2,k3,k4⟩|⟨k1,k2⟩
   .exact absurd h2 k4
   .rw[h1,k1]
theorem HR.read{n:Nat}{ds:List Ev.D}(hr:HR K H r h)(e:Ev.bf h n=some ds):∃a vs,r[n]?=some a/\eX K H a vs/\aH K H r ds vs:=by
 unfold Ev.bf at e;split at e
 .rename_i z;cases e;obtain⟨a,e1,vs,e2,e3⟩:=hr.ob n _ z;exact⟨a,vs,e1,.inl (.inl e2),e3⟩
 .rename_i z;cases e;obtain⟨a,e1,vs,e2,e3⟩:=hr.ob n _ z;refine⟨a,vs,e1,?_,e3⟩;rcases e2 with ⟨ob,e2⟩|e2
  .exact .inl (.inr ⟨ob,e2⟩)
  .exact .inr e2
 .cases e
theorem Fm.write{a:Addr}{vs ws:List V}(ha:H a=some (.lst vs))(hm:a∈r):Fm K r r H (upd H a (.lst ws)) where
 pre:=λn b e=>e
 new:=λb e=>.inl e
 keep:=λb ob e n=>by rw[bz (λz=>n (by rw[z];exact hm))];exact e
 tups:=λb us e=>by
  rcases e with (e|⟨ob,e⟩)|e
  .exact .inl (.inl (by rw[bz (pP e ha (by intro z;cases z))];exact e))
  .exact .inl (.inr ⟨ob,by rw[bz (pP e ha (by intro z;cases z))];exact e⟩)
  .exact .inr e
theorem HR.write{n:Nat}{a:Addr}{ds es:List Ev.D}{vs ws:List V}(hr:HR K H r h)(hn:h[n]?=some (.lst ds))(JF:r[n]?=some a)(ha:H a=some (.lst vs))(q:aH K H r es ws) :
  HR K (upd H a (.lst ws)) r (h.set n (.lst es)) where
 len:=by simp[hr.len]
 ob:=λm ob e=>by
  have f:=Fm.write (K:=K) (ws:=ws) ha (List.mem_of_getElem? JF);by_cases hm:m=n
  .subst hm;rw[List.getElem?_set_self (List.getElem?_eq_some_iff.mp hn).1]at e;cases e;exact⟨a,JF,ws,eG,q.mono f⟩
  .rw[List.getElem?_set_ne (λz=>hm z.symm)]at e;obtain⟨b,e1,z⟩:=hr.ob m ob e;refine⟨b,e1,z.mono f (λSE us z3 z2=>?_) (λUB us z2=>by rw[bz (pP z2 ha (by intro z;cases z))];exact z2)
    ⟩
   by_cases hb:b=a
   .subst hb;subst z3;exact absurd (hr.inj m n b SE ds e1 JF e hn) hm
   .rw[bz hb];exact z2
 inj:=λk m b x y e1 e2 e3 e4=>by
  have back:∀(j:Nat) z,(h.set n (Ev.O.lst es))[j]?=some (.lst z)->∃z',h[j]?=some (.lst z'):=λj z w=>by
   by_cases hj:j=n
   .subst hj;exact⟨ds,hn⟩
   .rw[List.getElem?_set_ne (λz=>hj z.symm)]at w;exact⟨z,w⟩
  obtain⟨x',e5⟩:=back k x e3;obtain⟨y',e6⟩:=back m y e4;exact hr.inj k m b x' y' e1 e2 e5 e6
theorem iy{p:Addr}{vs ws:List V}(hp:H p=some (.lst vs)):∀a us,dD K H a us->dD K (upd H p (.lst ws)) a us:=λb us e=>by
 rcases e with (e|⟨ob,e⟩)|e
 .exact .inl (.inl (by rw[bz (pP e hp (by intro z;cases z))];exact e))
 .exact .inl (.inr ⟨ob,by rw[bz (pP e hp (by intro z;cases z))];exact e⟩)
 .exact .inr e
theorem HR.other{p:Addr}{vs ws:List V}(hr:HR K H r h)(hp:H p=some (.lst vs))(hn:p∉r):HR K (upd H p (.lst ws)) r h where
 len:=hr.len
 ob:=λn ob e=>by
  obtain⟨a,e1,q⟩:=hr.ob n ob e;have ha:a≠p:=λz=>hn (by rw[<-z];exact List.mem_of_getElem? e1);refine⟨a,e1,?_⟩;cases ob with
  |lst ds=>
   obtain⟨us,e2,e3⟩:=q;exact⟨us,by rw[bz ha];exact e2,e3.grow (λ_ _ z=>z) (iy hp)⟩
  |bS ds=>
   obtain⟨us,e2,e3⟩:=q;refine⟨us,?_,e3.grow (λ_ _ z=>z) (iy hp)⟩;rcases e2 with ⟨o,e2⟩|e2
   .exact .inl ⟨o,by rw[bz ha];exact e2⟩
   .exact .inr e2
 inj:=hr.inj
theorem Fm.other{p:Addr}{vs ws:List V}(f:Fm K r r1 H H1)(h0:H p=none)(hp:H1 p=some (.lst vs)):Fm K r r1 H (upd H1 p (.lst ws)) where
 pre:=f.pre
 new:=f.new
 keep:=λa o e n=>by rw[bz (bU e h0)];exact f.keep a o e n
 tups:=λa us e=>iy hp a us (f.tups a us e)
theorem Fm.yE{p:Addr}{o:HO}(f:Fm K r r1 H H1)(hp:H p=some o)(hn:p∉r):p∉r1/\H1 p=some o:=by
 refine⟨λz=>?_,f.keep p o hp hn⟩;rcases f.new p z with q|q
 .exact hn q
 .rw[hp]at q;cases q
theorem HR.known{p:Addr}{ds:List Ev.D}{vs:List V}(hr:HR K H r h)(hp:H p=some (.lst vs))(hn:p∉r)(q:aH K H r ds vs):HR K H (r++[p]) (h++[.lst ds]):=by
 have pre:∀(n:Nat) a,r[n]?=some a->(r++[p])[n]?=some a:=λn a e=>by rw[List.getElem?_append_left (List.getElem?_eq_some_iff.mp e).1];exact e
 refine⟨by simp[hr.len],λn ob e=>?_,λn m a x y e1 e2 e3 e4=>?_
  ⟩
 .by_cases hk:n<h.length
  .rw[List.getElem?_append_left hk]at e;obtain⟨a,e1,z⟩:=hr.ob n ob e;refine⟨a,pre n a e1,?_⟩;cases ob with
   |lst ds=>obtain⟨us,e2,e3⟩:=z;exact⟨us,e2,e3.grow pre λ_ _ z=>z⟩
   |bS ds=>obtain⟨us,e2,e3⟩:=z;exact⟨us,e2,e3.grow pre λ_ _ z=>z⟩
  .have e2:=(List.getElem?_eq_some_iff.mp e).1;simp only[List.length_append,List.length_singleton]at e2;have e3:n=h.length:=by omega
   subst e3;simp at e;subst e;exact⟨p,by rw[<-hr.len];simp,vs,hp,q.grow pre λ_ _ z=>z⟩
 .have out:∀(k:Nat) z,(h++[Ev.O.lst ds])[k]?=some (.lst z)->(r++[p])[k]?=some a->(k<h.length/\r[k]?=some a/\h[k]?=some (.lst z)/\a≠p)\/(k=h.length/\a=p):=λk z q1 q2=>by
   by_cases hk:k<h.length
   .rw[List.getElem?_append_left hk]at q1;rw[List.getElem?_append_left (by rw[hr.len];exact hk)]at q2;exact .inl ⟨hk,q2,q1,λz=>hn (by rw[<-z];exact List.mem_of_getElem? q2)⟩
   .have e5:=(List.getElem?_eq_some_iff.mp q1).1;simp only[List.length_append,List.length_singleton]at e5;have e6:k=r.length:=by rw[hr.len];omega
    subst e6;simp at q2;exact .inr ⟨hr.len,q2.symm⟩
  rcases out n x e3 e1 with ⟨h1,h2,h3,h4⟩|⟨h1,h2⟩
  .rcases out m y e4 e2 with ⟨k1,k2,k3,k4⟩|⟨k1,k2⟩
   .exact hr.inj n m a x y h2 k2 h3 k3
   .exact absurd k2 h4
  .rcases out m y e4 e2 with ⟨k1,k2,k3,k4⟩|⟨k1,k2⟩
   .exact absurd h2 k4
   .rw[h1,k1]
theorem Fm.known{p:Addr}(f:Fm K r r1 H H1)(h0:H p=none):Fm K r (r1++[p]) H H1 where
 pre:=λn a e=>by
  have e':=f.pre n a e;rw[List.getElem?_append_left (List.getElem?_eq_some_iff.mp e').1];exact e'
 new:=λa e=>by
  rcases List.mem_append.mp e with q|q
  .exact f.new a q
  .rw[List.mem_singleton]at q;subst q;exact .inr h0
 keep:=f.keep
 tups:=f.tups
end
end Sm
set_option maxRecDepth 100000
namespace Sm
open PySem PySem.Spec PyProof.Rows L2
open Ev (D O Hh Fr R aG E Es Eo It T S Ss Fl Src bw bq TY BI ME)
section
variable(K:PySem.W.Frag)
noncomputable def Res(r:List Addr)(H:Hp)(h':Hh)(d:D)(Q:VK):Prop:=∀v H' r',RV K H' r' d v->HR K H' r' h'->Fm K r r' H H'->Q v H'
structure SR(m:List Nat)(H:Hp)(r:List Addr)(fr:Fr)(s:L2.St):Prop where
 len:s.length=m.length
 sl:∀(j i:Nat) d,m[j]?=some i->fr[i]?=some (some d)->∃v,s[j]?=some (some v)/\RV K H r d v
inductive tJ(m:List Nat)(P:aG)(e:E)(s:L2.St)(H:Hp)(Q:VK):Prop
 |mk (r:List Addr) (fr:Fr) (h:Hh) (d:D) (h':Hh) (c0:SR K m H r fr s) (c1:HR K H r h) (c2:Ev.ev P e fr h=.ok d h') (c3:Res K r H h' d Q):tJ m P e s H Q
inductive JH(m:List Nat)(P:aG)(e:E)(s:L2.St)(H:Hp)(Q:Bool->Hp->Prop):Prop
 |mk (r:List Addr) (fr:Fr) (h:Hh) (k:Bool) (h':Hh) (c0:SR K m H r fr s) (c1:HR K H r h) (c2:Ev.aF P e fr h=.ok k h') (c3:∀H' r',HR K H' r' h'->Fm K r r' H H'->Q k H'):JH m P e s H Q
inductive JJ(m:List Nat)(P:aG)(es:Es)(s:L2.St)(H:Hp)(Q:List V->Hp->Prop):Prop
 |mk (r:List Addr) (fr:Fr) (h:Hh) (ds:List D) (h':Hh) (c0:SR K m H r fr s) (c1:HR K H r h) (c2:Ev.bR P es fr h=.ok ds h') (c3:∀vs H' r',aH K H' r' ds vs->HR K H' r' h'->Fm K r r' H H'->Q vs H'):JJ m P es s H Q
inductive Pr(m:List Nat)(P:aG)(e:Eo)(s:L2.St)(H:Hp)(Q:Option Int->Hp->Prop):Prop
 |mk (r:List Addr) (fr:Fr) (h:Hh) (o:Option Int) (h':Hh) (c0:SR K m H r fr s) (c1:HR K H r h) (c2:Ev.fJ P e fr h=.ok o h') (c3:∀H' r',HR K H' r' h'->Fm K r r' H H'->Q o H'):Pr m P e s H Q
inductive iX(f:D->D->Hh->R D)(x:V)(y:V)(H:Hp)(Q:VK):Prop
 |mk (r:List Addr) (h:Hh) (a:D) (b:D) (d:D) (h':Hh) (c0:HR K H r h) (c1:RV K H r a x) (c2:RV K H r b y) (c3:f a b h=.ok d h') (c4:Res K r H h' d Q):iX f x y H Q
inductive SG(f:D->Hh->R D)(x:V)(H:Hp)(Q:VK):Prop
 |mk (r:List Addr) (h:Hh) (a:D) (d:D) (h':Hh) (c0:HR K H r h) (c1:RV K H r a x) (c2:f a h=.ok d h') (c3:Res K r H h' d Q):SG f x H Q
inductive wK(f:List D->Hh->R D)(xs:List V)(H:Hp)(Q:VK):Prop
 |mk (r:List Addr) (h:Hh) (as:List D) (d:D) (h':Hh) (c0:HR K H r h) (c1:aH K H r as xs) (c2:f as h=.ok d h') (c3:Res K r H h' d Q):wK f xs H Q
inductive ud(f:D->List D->Hh->R D)(x:V)(xs:List V)(H:Hp)(Q:VK):Prop
 |mk (r:List Addr) (h:Hh) (a:D) (as:List D) (d:D) (h':Hh) (c0:HR K H r h) (c1:RV K H r a x) (c2:aH K H r as xs) (c3:f a as h=.ok d h') (c4:Res K r H h' d Q):ud f x xs H Q
inductive JK  (x:V) (lo:Option Int) (hi:Option Int) (H:Hp) (Q:VK):Prop
 |mk (r:List Addr) (h:Hh) (a:D) (d:D) (h':Hh) (c0:HR K H r h) (c1:RV K H r a x) (c2:Ev.gR a lo hi h=.ok d h') (c3:Res K r H h' d Q):JK x lo hi H Q
end
section
variable{K:PySem.W.Frag}{m:List Nat}{H H':Hp}{r r':List Addr}{fr:Fr}{s:L2.St}{h h':Hh}{d:D}{Q:VK}
theorem SR.mono(a:SR K m H r fr s)(f:Fm K r r' H H'):SR K m H' r' fr s:=⟨a.len,λj i d e1 e2=>by
 obtain⟨v,q,z⟩:=a.sl j i d e1 e2;exact⟨v,q,z.mono f⟩⟩
theorem Res.here{v:V}(q:Res K r H h d Q)(a:RV K H r d v)(b:HR K H r h):Q v H:=q v H r a b .refl
theorem Res.later(q:Res K r H h' d Q)(f:Fm K r r' H H'):Res K r' H' h' d Q:=λv H2 r2 a b g=>q v H2 r2 a b (f.trans g)
theorem Res.lst{ds:List D}{vs:List V}(q:Res K r H h' d Q)(e:Ev.alloc ds h=.ok d h')(a:aH K H r ds vs)(b:HR K H r h):vs.length<=sizeLine/\∀p,H p=none->Q (.ref p) (upd H p (.lst vs)):=by
 unfold Ev.alloc at e;split at e
 .rename_i z;cases e;refine⟨by rw[a.length,<-jK];exact z,λp hp=>?_⟩;exact q _ _ (r++[p]) ⟨p,rfl,by rw[<-b.len];simp⟩ (b.lst hp a) (.laid hp)
 .cases e
theorem Res.tup{ds:List D}{vs:List V}(q:Res K r H h (.tup ds) Q)(a:aH K H r ds vs)(b:HR K H r h){p:Addr}(hp:H p=none):Q (.ref p) (upd H p (.tup vs)):=
 q _ _ r ⟨p,vs,rfl,.of eG,a.mono (.tup hp)⟩ (b.tup hp) (.tup hp)
end
theorem PE.of{X:Cx}{e:Expr}{t t':TE}(h:PE X e t)(w:∀s H Q,t' s H Q->t s H Q):PE X e t':=λpins s σ H Q I q=>h pins s σ H Q I (w _ _ _ q)
theorem PT.of{X:Cx}{e:Expr}{t t':TT}(h:PT X e t)(w:∀s H Q,t' s H Q->t s H Q):PT X e t':=λpins s σ H Q I q=>h pins s σ H Q I (w _ _ _ q)
theorem PW.of{X:Cx}{e:Expr}{t t':TT}(h:PW X e t)(w:∀s H Q,t' s H Q->t s H Q):PW X e t':=λwh pins s σ H Q I q=>h wh pins s σ H Q I (w _ _ _ q)
theorem PA.of{X:Cx}{es:List Expr}{t t':TA}(h:PA X es t)(w:∀s H Q,t' s H Q->t s H Q):PA X es t':=λpos pins s σ H Q I q=>h pos pins s σ H Q I (w _ _ _ q)
theorem PO.of{X:Cx}{e:Option Expr}{t t':TO}(h:PO X e t)(w:∀s H Q,t' s H Q->t s H Q):PO X e t':=λpins s σ H Q I q=>h pins s σ H Q I (w _ _ _ q)
structure FI where
 name:Str
 addr:Addr
 fd:FuncData
 ps:List Str
noncomputable def lW(K:PySem.W.Frag)(F:List Ev.Fn)(w n f:Nat):Sp:=λvs H Q _=>∃r h ds d h',aH K H r ds vs/\HR K H r h/\Ev.run F w n f ds h=.ok d h'/\Res K r H h' d Q
noncomputable def wL(K:PySem.W.Frag)(d:D)(v:V):Prop:=∀H r,RV K H r d v
theorem wL.rv{K:PySem.W.Frag}{H:Hp}{r:List Addr}{d:D}{v:V}(h:wL K d v):RV K H r d v:=h H r
structure Tb where
 F:List Ev.Fn
 w:Nat
 fi:List FI
 bl:List Str
 cs:List (Str×D)
 dk:List (Str×List (D×D))
noncomputable def tabOf:List (D×D)->List (PyData×PyData)
 | (.str k,.str v) :: r=>(.str (bC k),.str (bC v)) :: tabOf r
 |_=>[]
structure Good(G:Tb)(n:Nat)(sc:Scope)(N:List Str)(df:Bool)(X:Cx):Prop where
 nm:X.N=N
 sc:X.env.scope=sc
 calm:X.calm=true
 own:df=true->∀x,X.fn x=true
 room:gp n X.A
 xe:X.xe=λ_ _=>False
 fn:∀(f:Nat) i,G.fi[f]?=some i->X.mg i.name=some (.ref i.addr)/\PySem.W.keepIn X.K (.ref i.addr)=true/\Binds X.K i.fd i.ps []/\eO X.prog X.w X.K X.mg X.base jk n i.addr i.fd i.ps (lW X.K G.F G.w n f)
 bl:∀x∈G.bl,X.mg x=none
 cs:∀x d,(x,d)∈G.cs->∃v u,X.mg x=some u/\RelV v u/\wL X.K d v
 dk:∀x kvs,(x,kvs)∈G.dk->∃a,X.mg x=some (.ref a)/\∀h:Heap,X.K.In h->StrTab X.prog X.w h a (tabOf kvs)
section
variable(G:Tb)(n:Nat)(sc:Scope)(N:List Str)(df:Bool)(m:List Nat)
noncomputable def JE(e:E)(x:Expr):Prop:=∀X,Good G n sc N df X->PE X x (tJ X.K m (Ev.run G.F G.w n) e)
noncomputable def JT(e:E)(x:Expr):Prop:=∀X,Good G n sc N df X->PT X x (JH X.K m (Ev.run G.F G.w n) e)
noncomputable def JW(e:E)(x:Expr):Prop:=∀X,Good G n sc N df X->PW X x (JH X.K m (Ev.run G.F G.w n) e)
noncomputable def JA(es:Es)(xs:List Expr):Prop:=∀X,Good G n sc N df X->PA X xs (JJ X.K m (Ev.run G.F G.w n) es)
noncomputable def JO(e:Eo)(x:Option Expr):Prop:=∀X,Good G n sc N df X->PO X x (Pr X.K m (Ev.run G.F G.w n) e)
end
section
variable{G:Tb}{n:Nat}{sc:Scope}{N:List Str}{df:Bool}{m:List Nat}{a b c:E}{xa xb xc:Expr}{pos:Pos}
theorem Good.vis{X:Cx}(g:Good G n sc N df X){x:Str}(h:sc.names.lookup x=some .local\/sc.names.lookup x=some .cell\/sc.names.lookup x=some .free):rR X.env.scope x:=by
 rw[g.sc];exact h
theorem Good.gl{X:Cx}(g:Good G n sc N df X){x:Str}(h:sc.names.lookup x=some .globalImplicit):Gl X x:=by
 unfold Gl Env.kindOf;rw[g.sc];exact h
theorem Q2(j i:Nat){x:Str}(hj:m[j]?=some i:=by rfl)(hN:N[j]?=some x:=by rfl)
  (hv:sc.names.lookup x=some .local\/sc.names.lookup x=some .cell\/sc.names.lookup x=some .free:=by first|exact Or.inl rfl|exact Or.inr (Or.inl rfl)|exact Or.inr (Or.inr rfl))
  (hd:(x==("__debug__" : Str))=false:=by decide) (hcd:(x==("__classdict__" : Str))=false:=by decide):JE G n sc N df m (.v i) (.Name x pos):=by
 intro X g;refine PE.of (pR (i:=j) (by rw[g.nm];exact hN) (g.vis hv) hd hcd) λs H Q q=>?_;obtain⟨r,fr,h,d,h',sr,hr,e,q⟩:=q;simp only[Ev.ev]at e;obtain⟨e2,e3⟩:=Ev.aN e;subst e3;obtain⟨v,q1,q2⟩:=sr.sl j i d hj (by
  cases z:fr[i]? with
  |none=>rw[z]at e2;cases e2
  |some o=>
   rw[z]at e2;have e':o=some d:=e2;rw[e'])
 exact⟨v,q1,q.here q2 hr⟩
theorem tL{K:PySem.W.Frag}{P:aG}{d:D}{v:V}(hc:wL K d v):∀s H Q,tJ K m P (.c d) s H Q->tC v s H Q:=λs H Q q=>by
 obtain⟨r,fr,h,d',h',sr,hr,e,q⟩:=q;simp only[Ev.ev]at e;cases e;exact q.here hc.rv hr
theorem JL{i:Int}{j}:JE G n sc N df m (.c (.int i)) (.Constant (.int i) j pos):=λX g=>PE.of zR (tL λ_ _=>rfl)
theorem NL{k:Bool}{j}:JE G n sc N df m (.c (.bl k)) (.Constant (.bool k) j pos):=λX g=>PE.of Nq (tL λ_ _=>rfl)
theorem JM{j}:JE G n sc N df m (.c .aQ) (.Constant .none j pos):=λX g=>PE.of IV (tL λ_ _=>rfl)
theorem JN{l:List Nat}{x:Str}{j}(hx:x=bC l:=by decide +kernel)(hl:l.length<=sizeLine:=by decide):JE G n sc N df m (.c (.str l)) (.Constant (.str x) j pos):=
 λX g=>PE.of zS (tL λ_ _=>by subst hx;exact⟨rfl,hl⟩)
theorem JP:JA G n sc N df m .nil []:=λX g=>PA.of kE λs H Q q=>by
 obtain⟨r,fr,h,ds,h',sr,hr,e,q⟩:=q;simp only[Ev.bR]at e;cases e;exact q [] H r .nil hr .refl
theorem Gx{es:Es}{xs:List Expr}(ha:JE G n sc N df m a xa)(hs:JA G n sc N df m es xs)(hst:∀env:Env,starEach (xa :: xs) env=(false,eval xa env) :: starEach xs env:=by intro _;rfl):JA G n sc N df m (.cons a es) (xa :: xs):=
 λX g=>PA.of (fD (ha X g) (hs X g) (hst _)) λs H Q q=>by
  obtain⟨r,fr,h,ds,h',sr,hr,e,q⟩:=q;simp only[Ev.bR]at e;obtain⟨d,h1,e1,e⟩:=Ev.ah e;obtain⟨ds',h2,e2,e⟩:=Ev.ah e;cases e;refine⟨r,fr,h,d,h1,sr,hr,e1,λv H1 r1 v1 hr1 f1=>?_⟩;refine⟨r1,fr,h1,ds',_,sr.mono f1,hr1,e2,λvs H2 r2 v2 hr2 f2=>?_⟩;exact q _ H2 r2 (.cons (v1.mono f2) v2) hr2 (f1.trans f2)
theorem JQ{es:Es}{xs:List Expr}{k}(hs:JA G n sc N df m es xs):JE G n sc N df m (.tup es) (.Tuple xs k pos):=λX g=>PE.of (Ad (hs X g)) λs H Q q=>by
 obtain⟨r,fr,h,d,h',sr,hr,e,q⟩:=q;simp only[Ev.ev]at e;obtain⟨ds,h1,e1,e⟩:=Ev.ah e;split at e
 .rename_i z;cases e;refine⟨r,fr,h,ds,_,sr,hr,e1,λvs H1 r1 v1 hr1 f1=>⟨by rw[v1.length,<-jK];exact z,λp hp=>?_⟩⟩;exact(q.later f1).tup v1 hr1 hp
 .cases e
theorem JR{es:Es}{xs:List Expr}(hs:JA G n sc N df m es xs):JE G n sc N df m (.lst es) (.List xs pos):=λX g=>PE.of (Ae (hs X g)) λs H Q q=>by
 obtain⟨r,fr,h,d,h',sr,hr,e,q⟩:=q;simp only[Ev.ev]at e;obtain⟨ds,h1,e1,e⟩:=Ev.ah e;refine⟨r,fr,h,ds,h1,sr,hr,e1,λvs H1 r1 v1 hr1 f1=>?_⟩;exact(q.later f1).lst e v1 hr1
theorem pX{K:PySem.W.Frag}{P:aG}{f:D->D->Hh->R D}{e':E}(he:∀fr h,Ev.ev P e' fr h=(Ev.ev P a fr h).bind λx h1=>(Ev.ev P b fr h1).bind λy h2=>f x y h2) :
  ∀s H Q,tJ K m P e' s H Q->Ab (iX K f) (tJ K m P a) (tJ K m P b) s H Q:=λs H Q q=>by
 obtain⟨r,fr,h,d,h',sr,hr,e,q⟩:=q;rw[he]at e;obtain⟨x,h1,e1,e⟩:=Ev.ah e;obtain⟨y,h2,e2,e⟩:=Ev.ah e;refine⟨r,fr,h,x,h1,sr,hr,e1,λv H1 r1 v1 hr1 f1=>?_⟩;refine⟨r1,fr,h1,y,h2,sr.mono f1,hr1,e2,λu H2 r2 v2 hr2 f2=>?_⟩;exact⟨r2,h2,x,y,d,h',hr2,v1.mono f2,v2,e,q.later (f1.trans f2)⟩
theorem mS{o:bw}{op:Operator}(ho:∀X,Good G n sc N df X->dQ X (binaryOp op) (iX X.K (Ev.bQ o)))(ha:JE G n sc N df m a xa)(hb:JE G n sc N df m b xb):JE G n sc N df m (.bin o a b) (.BinOp xa op xb pos):=
 λX g=>PE.of (Nx (ho X g) (ha X g) (hb X g)) (pX λfr h=>by simp only[Ev.ev])
noncomputable def iJ(o:bq):D->D->Hh->R D:=λx y h=>R.of ((Ev.cop o x y h).map .bl) h
theorem Aq{o:bq}{op:CmpOp}(ho:∀X,Good G n sc N df X->dQ X (compareOp op) (iX X.K (iJ o)))(ha:JE G n sc N df m a xa)(hb:JE G n sc N df m b xb)(hm:behindInMarks op xb=false):JE G n sc N df m (.cmp o a b) (.Compare xa [op] [xb] pos):=
 λX g=>PE.of (Gi (ho X g) (ha X g) (hb X g) hm) (pX λfr h=>by simp only[Ev.ev,iJ])
theorem nE{o:bq}{x y d:D}{h h':Hh}(e:iJ o x y h=.ok d h'):∃k,Ev.cop o x y h=some k/\d=.bl k/\h'=h:=by
 unfold iJ at e;obtain⟨e1,rfl⟩:=Ev.aN e;cases z:Ev.cop o x y h' with
 |none=>rw[z]at e1;cases e1
 |some k=>rw[z]at e1;cases e1;exact⟨k,rfl,rfl,rfl⟩
theorem pY{o:bq}{op:CmpOp}(ho:∀X,Good G n sc N df X->dQ X (compareOp op) (iX X.K (iJ o)))(ha:JE G n sc N df m a xa)(hb:JE G n sc N df m b xb)(hm:behindInMarks op xb=false):JT G n sc N df m (.cmp o a b) (.Compare xa [op] [xb] pos):=
 λX g=>PT.of (wz (ho X g) (ha X g) (hb X g) hm) λs H Q q=>by
  obtain⟨r,fr,h,k,h',sr,hr,e,q⟩:=q;simp only[Ev.aF]at e;obtain⟨d,h1,e1,e⟩:=Ev.ah e;have e0:=e1;simp only[Ev.ev]at e0;obtain⟨x,h2,_,e0⟩:=Ev.ah e0;obtain⟨y,h3,_,e0⟩:=Ev.ah e0;obtain⟨k',e2,e3,e4⟩:=nE (o:=o) (show iJ o x y h3=_ from e0);subst e3;simp only[Ev.truthy]at e;cases e;refine pX (e':=.cmp o a b) (f:=iJ o) (λfr h=>by simp only[Ev.ev,iJ]) s H _ ⟨r,fr,h,.bl k,_,sr,hr,e1,λv H1 r1 v1 hr1 f1=>?_⟩;exact⟨k,v1,q H1 r1 hr1 f1⟩
end
end Sm
set_option maxRecDepth 100000
namespace Sm
open PySem PySem.Spec PyProof.Rows L2
open Ev (D O Hh Fr R aG E Es Eo It T S Ss Fl Src bw bq TY BI ME)
section
variable{G:Tb}{n:Nat}{sc:Scope}{N:List Str}{df:Bool}{m:List Nat}{a b c:E}{xa xb xc:Expr}{pos:Pos}
theorem JU(ha:JE G n sc N df m a xa):JE G n sc N df m (.neg a) (.UnaryOp .USub xa pos):=λX g=>PE.of (Ny Jj (ha X g)) λs H Q q=>by
 obtain⟨r,fr,h,d,h',sr,hr,e,q⟩:=q;simp only[Ev.ev]at e;obtain⟨x,h1,e1,e⟩:=Ev.ah e;split at e
 .cases e;exact⟨r,fr,h,_,_,sr,hr,e1,λv H1 r1 v1 hr1 f1=>⟨_,v1,(q.later f1).here rfl hr1⟩⟩
 .cases e
theorem JV(ha:JT G n sc N df m a xa)(hb:JE G n sc N df m b xb)(hc:JE G n sc N df m c xc):JE G n sc N df m (.gk a b c) (.IfExp xa xb xc pos):=λX g=>PE.of (Cb (ha X g) (hb X g) (hc X g)) λs H Q q=>by
 obtain⟨r,fr,h,d,h',sr,hr,e,q⟩:=q;simp only[Ev.ev]at e;obtain⟨k,h1,e1,e⟩:=Ev.ah e;refine⟨r,fr,h,k,h1,sr,hr,e1,λH1 r1 hr1 f1=>?_⟩;cases k with
 |true=>exact⟨r1,fr,h1,d,h',sr.mono f1,hr1,e,q.later f1⟩
 |false=>exact⟨r1,fr,h1,d,h',sr.mono f1,hr1,e,q.later f1⟩
theorem JX(h:JW G n sc N df m a xa):JT G n sc N df m a xa:=λX g=>(h X g).pt
theorem JY(ha:JT G n sc N df m a xa):JW G n sc N df m a (.BoolOp .And [xa] pos):=λX g=>Gb (ha X g)
theorem Gy(ha:JT G n sc N df m a xa):JW G n sc N df m a (.BoolOp .Or [xa] pos):=λX g=>zT (ha X g)
theorem Ef{rest:List Expr}(ha:JT G n sc N df m a xa)(hb:JW G n sc N df m b (.BoolOp .And (xb :: rest) pos)):JW G n sc N df m (.an a b) (.BoolOp .And (xa :: xb :: rest) pos):=λX g=>PW.of (IX (ha X g) (hb X g)) λs H Q q=>by
 obtain⟨r,fr,h,k,h',sr,hr,e,q⟩:=q;simp only[Ev.aF]at e;obtain⟨k1,h1,e1,e⟩:=Ev.ah e;refine⟨r,fr,h,k1,h1,sr,hr,e1,λH1 r1 hr1 f1=>?_⟩;cases k1 with
 |true=>exact⟨r1,fr,h1,k,h',sr.mono f1,hr1,e,λH2 r2 hr2 f2=>q H2 r2 hr2 (f1.trans f2)⟩
 |false=>
  have e':R.ok false h1=R.ok k h':=e;cases e';exact q H1 r1 hr1 f1
theorem Ar{rest:List Expr}(ha:JT G n sc N df m a xa)(hb:JW G n sc N df m b (.BoolOp .Or (xb :: rest) pos)):JW G n sc N df m (.orr a b) (.BoolOp .Or (xa :: xb :: rest) pos):=λX g=>PW.of (D8 (ha X g) (hb X g)) λs H Q q=>by
 obtain⟨r,fr,h,k,h',sr,hr,e,q⟩:=q;simp only[Ev.aF]at e;obtain⟨k1,h1,e1,e⟩:=Ev.ah e;refine⟨r,fr,h,k1,h1,sr,hr,e1,λH1 r1 hr1 f1=>?_⟩;cases k1 with
 |false=>exact⟨r1,fr,h1,k,h',sr.mono f1,hr1,e,λH2 r2 hr2 f2=>q H2 r2 hr2 (f1.trans f2)⟩
 |true=>
  have e':R.ok true h1=R.ok k h':=e;cases e';exact q H1 r1 hr1 f1
theorem JZ{K:PySem.W.Frag}{H:Hp}{r:List Addr}{h:Hh}{d:D}{v:V}{k:Bool}(hr:HR K H r h)(v1:RV K H r d v)(e:Ev.truthy h d=some k):Ck K v H k:=by
 cases d with
 |aQ=>simp only[RV]at v1;subst v1;cases e;rfl
 |bl x=>simp only[RV]at v1;subst v1;cases e;rfl
 |int x=>simp only[RV]at v1;subst v1;cases e;rfl
 |str x=>
  simp only[RV]at v1;obtain⟨rfl,z⟩:=v1;cases e;refine⟨by rw[cL];exact z,?_⟩;rw[cL];cases x with
  |nil=>rfl
  |cons c l=>simp;omega
 |tup ds=>
  simp only[RV]at v1;obtain⟨p,vs,rfl,z,q⟩:=v1;cases e;refine .inr (.inl ⟨vs,z,?_⟩);have hl:=q.length;cases ds<;>cases vs<;>simp_all
 |ref i=>
  simp only[RV]at v1;obtain⟨p,rfl,z⟩:=v1;simp only[Ev.truthy]at e;simp only[Option.map_eq_some_iff]at e;obtain⟨ds,e1,rfl⟩:=e;obtain⟨p',vs,e2,q1,q2⟩:=hr.read e1;rw[z]at e2;cases e2;refine .inl ⟨vs,q1,?_⟩;have hl:=q2.length;cases ds<;>cases vs<;>simp_all
theorem J0(ha:JE G n sc N df m a xa)(he:∀(P:aG) fr h,Ev.aF P a fr h=(Ev.ev P a fr h).bind λx h1=>R.of (Ev.truthy h1 x) h1:=by intros;simp only[Ev.aF])
  (hx:∀(env:Env) whole,isTrue xa env whole=(do let v <-whole;standAt xa.pos;holding [v] (truthy v)):=by intro _ _;rfl):JT G n sc N df m a xa:=λX g=>PT.of (Cm (ha X g) (hx _)) λs H Q q=>by
 obtain⟨r,fr,h,k,h',sr,hr,e,q⟩:=q;rw[he]at e;obtain⟨d,h1,e1,e⟩:=Ev.ah e;obtain⟨e,rfl⟩:=Ev.aN e;refine⟨r,fr,h,d,_,sr,hr,e1,λv H1 r1 v1 hr1 f1=>⟨k,JZ hr1 v1 e,q H1 r1 hr1 f1⟩⟩
noncomputable def J1:D->D->Hh->R D:=λx y h=>R.of (Ev.eY x y h) h
theorem NO(ho:∀X,Good G n sc N df X->wF X (iX X.K J1))(ha:JE G n sc N df m a xa)(hb:JE G n sc N df m b xb)(hs:wD xb:=by intro _ _;rfl):JE G n sc N df m (.ix a b) (.Subscript xa xb pos):=
 λX g=>PE.of (NJ (ho X g) (ha X g) (hb X g) hs) (pX λfr h=>by simp only[Ev.ev,J1])
theorem NP:JO G n sc N df m .no none:=λX g=>PO.of Gm λs H Q q=>by
 obtain⟨r,fr,h,o,h',sr,hr,e,q⟩:=q;simp only[Ev.fJ]at e;cases e;exact q H r hr .refl
theorem J2(ha:JE G n sc N df m a xa):JO G n sc N df m (.yes a) (some xa):=λX g=>PO.of (Gn (ha X g)) λs H Q q=>by
 obtain⟨r,fr,h,o,h',sr,hr,e,q⟩:=q;simp only[Ev.fJ]at e;obtain⟨d,h1,e1,e⟩:=Ev.ah e;obtain⟨e,rfl⟩:=Ev.aN e;cases d with
 |int i=>
  cases e;exact⟨r,fr,h,.int i,_,sr,hr,e1,λv H1 r1 v1 hr1 f1=>⟨i,v1,q H1 r1 hr1 f1⟩⟩
 |_=>cases e
theorem NQ{lo hi:Eo}{xl xh:Option Expr}{p2}(ho:∀X,Good G n sc N df X->kG X (JK X.K))(ha:JE G n sc N df m a xa)(hl:JO G n sc N df m lo xl)(hu:JO G n sc N df m hi xh):JE G n sc N df m (.sl a lo hi) (.Subscript xa (.Slice xl xh none p2) pos):=
 λX g=>PE.of (Co (ho X g) (ha X g) (hl X g) (hu X g)) λs H Q q=>by
  obtain⟨r,fr,h,d,h',sr,hr,e,q⟩:=q;simp only[Ev.ev]at e;obtain⟨x,h1,e1,e⟩:=Ev.ah e;obtain⟨l,h2,e2,e⟩:=Ev.ah e;obtain⟨u,h3,e3,e⟩:=Ev.ah e;refine⟨r,fr,h,x,h1,sr,hr,e1,λv H1 r1 v1 hr1 f1=>?_⟩;refine⟨r1,fr,h1,l,h2,sr.mono f1,hr1,e2,λH2 r2 hr2 f2=>?_⟩;refine⟨r2,fr,h2,u,h3,(sr.mono f1).mono f2,hr2,e3,λH3 r3 kH f3=>?_⟩;exact⟨r3,h3,x,d,h',kH,(v1.mono f2).mono f3,e,q.later ((f1.trans f2).trans f3)⟩
theorem Gz{K:PySem.W.Frag}{P:aG}{es:Es}{f:List D->Hh->R D}{e':E}(he:∀fr h,Ev.ev P e' fr h=(Ev.bR P es fr h).bind f) :
  ∀s H Q,tJ K m P e' s H Q->Jp (wK K f) (JJ K m P es) s H Q:=λs H Q q=>by
 obtain⟨r,fr,h,d,h',sr,hr,e,q⟩:=q;rw[he]at e;obtain⟨ds,h1,e1,e⟩:=Ev.ah e;exact⟨r,fr,h,ds,h1,sr,hr,e1,λvs H1 r1 v1 hr1 f1=>⟨r1,h1,ds,d,h',hr1,v1,e,q.later f1⟩⟩
theorem yF{k:BI}{es:Es}{x:Str}{id:String}{e0:Expr}{xs:List Expr}{p:Pos}(hc:∀X,Good G n sc N df X->gz X (.builtin id) (wK X.K (Ev.eL k)))(hs:JA G n sc N df m es (e0 :: xs))(hb:x∈G.bl:=by decide +kernel)
  (hg:sc.names.lookup x=some .globalImplicit:=by rfl) (hv:bootBuiltins x=some (.builtin id)) (hn:x≠"__name__" :=by decide) (hd:(x==("__debug__" : Str))=false:=by decide)
  (hst:∀env:Env,starEach (e0 :: xs) env=(false,eval e0 env) :: starEach xs env:=by intro _;rfl) (hpl:∀env:Env,(backTo pos (starEach xs env)).any (·.1)=false:=by intro _;rfl) :
  JE G n sc N df m (.bi k es) (.Call (.Name x p) (e0 :: xs) [] pos):=
 λX g=>PE.of (t6 (hc X g) (g.gl hg) (g.bl x hb) hv (hs X g) hn hd (hst _) (hpl _)) (Gz λfr h=>by simp only[Ev.ev])
theorem NR{f:Nat}{i:FI}{es:Es}{e0:Expr}{xs:List Expr}{p:Pos}(hf:G.fi[f]?=some i)(hs:JA G n sc N df m es (e0 :: xs))
  (hg:sc.names.lookup i.name=some .globalImplicit:=by rfl) (hd:(i.name==("__debug__" : Str))=false:=by decide)
  (hst:∀env:Env,starEach (e0 :: xs) env=(false,eval e0 env) :: starEach xs env:=by intro _;rfl) (hpl:∀env:Env,(backTo pos (starEach xs env)).any (·.1)=false:=by intro _;rfl) :
  JE G n sc N df m (.cl f es) (.Call (.Name i.name p) (e0 :: xs) [] pos):=λX g=>by
 obtain⟨h1,h2,h3,h4⟩:=g.fn f i hf;refine PE.of (qN h4 g.room (g.gl hg) h1 h2 h3 .nil NK (hs X g) hd (hst _) (hpl _)) λs H Q q=>?_;obtain⟨r,fr,h,d,h',sr,hr,e,q⟩:=q;simp only[Ev.ev]at e;obtain⟨ds,h5,e1,e⟩:=Ev.ah e;refine⟨r,fr,h,ds,h5,sr,hr,e1,λvs H1 r1 v1 hr1 f1=>?_⟩;exact⟨r1,h5,ds,d,h',by rw[List.append_nil];exact v1,hr1,e,q.later f1⟩
noncomputable def yG:ME->String
 |.join=>"str"
 |_=>"list"
theorem ue{K:PySem.W.Frag}{H:Hp}{r:List Addr}{h:Hh}{k:ME}{d:D}{v:V}{ty:String}(hr:HR K H r h)(v1:RV K H r d v)(e:Ev.pW k d h=true)(ht:ty=yG k):Ah K ty v H:=by
 subst ht;have lst:∀i,d=.ref i->(Ev.bf h i).isSome=true->Ah K "list" v H:=λi ed es=>by
  subst ed;obtain⟨ds,e1⟩:=Option.isSome_iff_exists.mp es;obtain⟨p,vs,e2,q1,q2⟩:=hr.read e1;simp only[RV]at v1;obtain⟨p',rfl,e3⟩:=v1;rw[e2]at e3;cases e3;exact .inl ⟨rfl,vs,q1⟩
 cases k with
 |join=>
  cases d with
  |str l=>simp only[RV]at v1;obtain⟨rfl,_⟩:=v1;rfl
  |_=>cases e
 |append=>cases d with|ref i=>exact lst i rfl e|_=>cases e
 |extend=>cases d with|ref i=>exact lst i rfl e|_=>cases e
 |pop=>cases d with|ref i=>exact lst i rfl e|_=>cases e
theorem yH {k:ME}{es:Es}{e0:Expr}{xs:List Expr}{name:Str}{apos:Pos}{ty id:String}(pa:PlainAttrs ty) (slot:Slot ty name id) (hty:typeOf (.builtin id)=pure (.type "method_descriptor"))
  (hm:∀X,Good G n sc N df X->sd X id (ud X.K (Ev.eZ k))) (ht:ty=yG k) (ha:JE G n sc N df m a xa) (hs:JA G n sc N df m es (e0 :: xs))
  (hbase:∀env:Env,attributeBase xa name env (eval xa env)=eval xa env:=by intro _;rfl)
  (hfew:∀env:Env,((backTo pos (starEach (e0 :: xs) env)).all (λx=>!x.1)&&(backToKw pos (keywordEach [] env)).all (λx=>x.1.isSome)
   &&decide ((e0 :: xs).length+([]:List Keyword).length+(if ([]:List Keyword).isEmpty then 0 else 1)<30))=true:=by intro _;rfl)
  (hline:(apos.endLine==pos.line)=true:=by rfl) (hst:∀env:Env,starEach (e0 :: xs) env=(false,eval e0 env) :: starEach xs env:=by intro _;rfl) (hpl:∀env:Env,(backTo pos (starEach xs env)).any (·.1)=false:=by intro _;rfl) :
  JE G n sc N df m (.me k a es) (.Call (.Attribute xa name apos) (e0 :: xs) [] pos):=λX g=>
 PE.of (Ec pa slot hty (hm X g) (ha X g) (hs X g) (hbase _) (hfew _) hline (hst _) (hpl _)) λs H Q q=>by
  obtain⟨r,fr,h,d,h',sr,hr,e,q⟩:=q;simp only[Ev.ev]at e;obtain⟨x,h1,e1,e⟩:=Ev.ah e;split at e
  .rename_i hk;obtain⟨ds,h2,e2,e⟩:=Ev.ah e;refine⟨r,fr,h,x,h1,sr,hr,e1,λv H1 r1 v1 hr1 f1=>⟨ue hr1 v1 hk ht,?_⟩⟩;refine⟨r1,fr,h1,ds,h2,sr.mono f1,hr1,e2,λvs H2 r2 v2 hr2 f2=>?_⟩;exact⟨r2,h2,x,ds,d,h',hr2,v1.mono f2,v2,e,q.later (f1.trans f2)⟩
  .cases e
theorem J3 {k:ME}{name:Str}{apos:Pos}{ty id:String}(pa:PlainAttrs ty) (slot:Slot ty name id) (hty:typeOf (.builtin id)=pure (.type "method_descriptor"))
  (hm:∀X,Good G n sc N df X->sd X id (ud X.K (Ev.eZ k))) (ht:ty=yG k) (ha:JE G n sc N df m a xa)
  (hbase:∀env:Env,attributeBase xa name env (eval xa env)=eval xa env:=by intro _;rfl) (hline:(apos.endLine==pos.line)=true:=by rfl) :
  JE G n sc N df m (.me k a .nil) (.Call (.Attribute xa name apos) [] [] pos):=λX g=>
 PE.of (Ju pa slot hty (hm X g) (ha X g) (hbase _) hline) λs H Q q=>by
  obtain⟨r,fr,h,d,h',sr,hr,e,q⟩:=q;simp only[Ev.ev]at e;obtain⟨x,h1,e1,e⟩:=Ev.ah e;split at e
  .rename_i hk;simp only[Ev.bR,Ev.ao]at e;refine⟨r,fr,h,x,h1,sr,hr,e1,λv H1 r1 v1 hr1 f1=>⟨ue hr1 v1 hk ht,?_⟩⟩;exact⟨r1,h1,x,[],d,h',hr1,v1,.nil,e,q.later f1⟩
  .cases e
end
end Sm
set_option maxRecDepth 100000
namespace Sm
open PySem PySem.Spec PyProof.Rows L2
open Ev (D O Hh Fr R aG E Es Eo T S Ss Fl Src bw bq TY BI ME)
noncomputable def qS(K:PySem.W.Frag)(r0:List Addr)(H0:Hp)(s:Src)(J:L2.It):Prop:=∀(i:Nat) H1 r1 h1,HR K H1 r1 h1->Fm K r0 r1 H0 H1->Ev.stays h1 s.2=true->
 (∀d,s.1[i]?=some d->J.go i H1/\∀x H2,J.zX i H1 x H2->∃r2,RV K H2 r2 d x/\HR K H2 r2 h1/\Fm K r1 r2 H1 H2)/\(s.1.length<=i->J.stop i H1)
inductive Pu(K:PySem.W.Frag)(m:List Nat)(P:aG)(it:Ev.It)(s:L2.St)(H:Hp)(Rr:L2.It->Hp->Prop):Prop
 |mk (r:List Addr) (fr:Fr) (h:Hh) (src:Src) (h':Hh) (c0:SR K m H r fr s) (c1:HR K H r h) (c2:Ev.cK P it fr h=.ok src h') (c3:∀J H' r',HR K H' r' h'->Fm K r r' H H'->qS K r' H' src J->Rr J H'):Pu K m P it s H Rr
noncomputable def JI(G:Tb)(n:Nat)(sc:Scope)(N:List Str)(df:Bool)(m:List Nat)(it:Ev.It)(tg x:Expr):Prop:=∀X,Good G n sc N df X->PI X tg x (Pu X.K m (Ev.run G.F G.w n) it)
noncomputable def Eg(z:Str):L2.It:=⟨λi _=>i<z.length,λi H x H'=>H'=H/\∃c,z.cps[i]?=some c/\x=.str ⟨#[c]⟩,λi _=>z.length<=i⟩
theorem J4{M:Model}{A:Around}{E:Value->Shared->Prop}{s:Shared}{tg:Expr}{it:Value}{x:Str}{t:Tok}{Q:Unit->Shared->Prop}(hQ:Q () s):wpAny M A (letOwnedTupleGo tg it (.str x t)) Q E s:=by
 unfold letOwnedTupleGo;cases tg<;>first
  |exact wpAny_pure hQ
  | (cases it<;>exact wpAny_pure hQ)
theorem uf {P:Program}{w:World}{K:PySem.W.Frag}{tg:Expr}(z:Str) (t:Tok) (it:Addr) (ty:String) (hty:ty = "str_ascii_iterator" \/ty = "str_iterator") :
  Turn P w K tg (Eg z) [it] it (λi h=>h.IsStrIter it ty z t i) where
 mem:=by simp
 obj:=λi h st b hb=>by
  have e:b=it:=by simpa using hb
  subst e;obtain⟨o,e,c,d⟩:=st;exact⟨o,e,λv z=>by rw[d]at z;cases z⟩
 keep:=λi h h' st k=>by
  obtain⟨o,e,c,d⟩:=st;exact⟨o,k it (by simp) o e,c,d⟩
 item:=by
  intro X hP hw hK hc i pins s σ H E I hf st hg;subst hP hw hK;obtain⟨f0,f1,f2,f3,f4,f5⟩:=hf it (by simp);have W:Walks X.prog X.w X.A it [it] [it] z.cps.size (SignAt z) (λi h=>h.IsStrIter it ty z t i):=by
   rcases hty with e|e
   .subst e;exact Walks.strAscii (I.ok.hd hc) it z t
   .subst e;exact Walks.strWide (I.ok.hd hc) it z t
  refine W.item i s _ _ hg st λv h' tk hv st' kk=>?_;obtain⟨c,u,hc',rfl⟩:=hv;have I1:Inv X pins σ H { s with heap:=h',toks:=tk }:=I.turned (λb o hb e=>kk b o (by simpa using hb) e) f0 f1 f3 f4 f5;exact⟨_,rfl,J4 ⟨.str ⟨#[c]⟩,H,I1,⟨u,rfl⟩,⟨rfl,c,hc',rfl⟩,st',λb hb=>(hf b hb).1⟩⟩
 done:=by
  intro X hP hw hK hc i pins s σ H E I hf st hg;subst hP hw hK;obtain⟨f0,f1,f2,f3,f4,f5⟩:=hf it (by simp);rcases hty with e|e
  .subst e;exact wpAny_pyNext_ascii_end (I.ok.hd hc) st (by simpa[Str.length,Eg]using hg) λh' eb=>⟨rfl,I.turned (t':=s.toks) (λb o hb e=>eb b o hb e) f0 f1 f3 f4 f5⟩
  .subst e;exact wpAny_pyNext_wide_end (I.ok.hd hc) st (by simpa[Str.length,Eg]using hg) λh' eb=>⟨rfl,I.turned (t':=s.toks) (λb o hb e=>eb b o hb e) f0 f1 f3 f4 f5⟩
 self:=λ_ _ _ _ _ st h=>by
  rcases hty with e|e
  .subst e;exact wpAny_pyIter_striter_ascii st h
  .subst e;exact wpAny_pyIter_striter_wide st h
noncomputable def Eh(K:PySem.W.Frag)(x:V)(H:Hp)(Rr:L2.It->Hp->Prop):Prop:=
 (∃a xs,x=.ref a/\eX K H a xs/\Rr (Pk K a) H)\/(∃a xs,x=.ref a/\dD K H a xs/\Rr (Pn K a) H)\/∃z,x=.str z/\Rr (Eg z) H
theorem J5{X:Cx}{tg l:Expr}{tl:TE}{wi:TI}(hl:PE X l tl)(hw:∀s H Rr,wi s H Rr->tl s H λx H1=>Eh X.K x H1 Rr):PI X tg l wi:=by
 intro pins s σ H Rr I h;refine bJ (hl pins s σ H _ I (hw _ _ _ h)) λv s1 ⟨x,H1,I1,r1,q1⟩=>?_;have fp:∀(o:Obj) b,b∈[s1.heap.objs.size]->g9 X pins H1 b:=λo b hb=>by
  have e:b=s1.heap.objs.size:=by simpa using hb
  subst e;exact I1.Cf (Nat.le_refl _) (I1.hok.fresh (Nat.le_refl _))
 rcases q1 with ⟨a,xs,rfl,hq,q⟩|⟨a,xs,rfl,hq,q⟩|⟨z,rfl,q⟩
 .cases r1;obtain⟨its,rv,p,hz⟩:=I1.list hq;refine wpAny_pyIter_list p.isList ?_;exact⟨s1.heap.objs.size,[s1.heap.objs.size],_,_,H1,rfl,I1.kept (t':=s1.toks) λb o e=>Heap.get?_push_of_some _ e,zY a _,⟨_,Heap.get?_push_size _ rfl,rfl,rfl⟩,fp default,q⟩
 .cases r1;obtain⟨its,rv,p,hz⟩:=I1.tuple hq;refine wpAny_pyIter_tuple (show s1.heap.IsTuple a its.toArray from p) ?_;exact⟨s1.heap.objs.size,[s1.heap.objs.size],_,_,H1,rfl,I1.kept (t':=s1.toks) λb o e=>Heap.get?_push_of_some _ e,yp a _,⟨_,Heap.get?_push_size _ rfl,rfl,rfl⟩,fp default,q⟩
 .obtain⟨t,rfl⟩:=r1;cases ha:z.cps.all (· < 128)
  .refine wpAny_pyIter_wide ha ?_;exact⟨s1.heap.objs.size,[s1.heap.objs.size],_,_,H1,rfl,I1.kept (t':=s1.toks) λb o e=>Heap.get?_push_of_some _ e,uf z t _ _ (.inr rfl),⟨_,Heap.get?_push_size _ rfl,rfl,rfl⟩,fp default,q⟩
  .refine wpAny_pyIter_ascii ha ?_;exact⟨s1.heap.objs.size,[s1.heap.objs.size],_,_,H1,rfl,I1.kept (t':=s1.toks) λb o e=>Heap.get?_push_of_some _ e,uf z t _ _ (.inl rfl),⟨_,Heap.get?_push_size _ rfl,rfl,rfl⟩,fp default,q⟩
theorem As{h:Hh}{n:Nat}{ds:List D}(e:Ev.stays h [(n,ds)]=true):Ev.bf h n=some ds:=by
 simp only[Ev.stays,Bool.and_true]at e;split at e
 .rename_i es q;rw[q,(Ev.sy _ _).mp e]
 .cases e
theorem GA{K:PySem.W.Frag}{H:Hp}{r:List Addr}{h:Hh}{d:D}{v:V}{src:Src}{Rr:L2.It->Hp->Prop}(hr:HR K H r h)(v1:RV K H r d v)(e:Ev.gc h d=some src)(q:∀J,qS K r H src J->Rr J H):Eh K v H Rr:=by
 cases d with
 |tup ds=>
  simp only[RV]at v1;obtain⟨a,vs,rfl,z,w⟩:=v1;cases e;refine .inr (.inl ⟨a,vs,rfl,z,q _ λi H1 r1 h1 hr1 f1 st=>⟨λd' e'=>?_,λhl=>?_⟩⟩)
  .obtain⟨u,e1,e2⟩:=w.get e';refine⟨⟨vs,u,f1.tups _ _ z,e1⟩,λx H2 y=>?_⟩;obtain⟨rfl,y⟩:=y;have:=y vs (f1.tups _ _ z);rw[e1]at this;cases this;exact⟨r1,e2.mono f1,hr1,.refl⟩
  .exact⟨vs,f1.tups _ _ z,by rw[w.length];exact hl⟩
 |str l=>
  simp only[RV]at v1;obtain⟨rfl,z⟩:=v1;cases e;refine .inr (.inr ⟨_,rfl,q _ λi H1 r1 h1 hr1 f1 st=>⟨λd' e'=>?_,λhl=>?_⟩⟩)
  .rw[List.getElem?_map]at e';cases e2:l[i]? with
   |none=>rw[e2]at e';cases e'
   |some c=>
    rw[e2]at e';cases e';refine⟨by show i<(bC l).length;rw[cL];exact(List.getElem?_eq_some_iff.mp e2).1,λx H2 y=>?_⟩;obtain⟨rfl,c',y1,rfl⟩:=y;have e3:(bC l).cps[i]?=some c:=by simp[bC,e2]
    rw[e3]at y1;cases y1;exact⟨r1,⟨rfl,by show 1<=sizeLine;decide⟩,hr1,.refl⟩
  .show(bC l).length<=i;rw[cL];simpa using hl
 |ref k=>
  simp only[RV]at v1;obtain⟨a,rfl,z⟩:=v1;simp only[Ev.gc,Option.map_eq_some_iff]at e;obtain⟨ds,e1,rfl⟩:=e;obtain⟨a',vs,e2,e3,e4⟩:=hr.read e1;rw[z]at e2;cases e2;refine .inl ⟨a,vs,rfl,e3,q _ λi H1 r1 h1 hr1 f1 st=>?_⟩;obtain⟨a',us,e5,e6,e7⟩:=hr1.read (As st);rw[f1.pre _ _ z]at e5;cases e5;refine⟨λd' e'=>?_,λhl=>⟨us,e6,by rw[e7.length];exact hl⟩⟩;obtain⟨u,g1,g2⟩:=e7.get e';refine⟨⟨us,u,e6,g1⟩,λx H2 y=>?_⟩;obtain⟨rfl,y⟩:=y;have:=y us e6;rw[g1]at this;cases this;exact⟨r1,g2,hr1,.refl⟩
 |_=>cases e
section
variable{G:Tb}{n:Nat}{sc:Scope}{N:List Str}{df:Bool}{m:List Nat}{a b c:E}{xa xb xc tg:Expr}{pos:Pos}
theorem J6(ha:JE G n sc N df m a xa):JI G n sc N df m (.seq a) tg xa:=λX g=>J5 (ha X g) λs H Rr q=>by
 obtain⟨r,fr,h,src,h',sr,hr,e,q⟩:=q;simp only[Ev.cK]at e;obtain⟨d,h1,e1,e⟩:=Ev.ah e;obtain⟨e,rfl⟩:=Ev.aN e;refine⟨r,fr,h,d,_,sr,hr,e1,λv H1 r1 v1 hr1 f1=>?_⟩;exact GA hr1 v1 e λJ hJ=>q J H1 r1 hr1 f1 hJ
theorem PI.of{X:Cx}{tg l:Expr}{t t':TI}(h:PI X tg l t)(w:∀s H Q,t' s H Q->t s H Q):PI X tg l t':=λpins s σ H Q I q=>h pins s σ H Q I (w _ _ _ q)
theorem J7{K:PySem.W.Frag}{r:List Addr}{H:Hp}(lo:Int)(k:Nat):qS K r H (Ev.range lo k,[]) (Ea lo k):=λi H1 r1 h1 hr1 f1 st=>by
 refine⟨λd e=>?_,λhl=>?_⟩
 .simp only[Ev.range,List.getElem?_map]at e;cases e2:(List.range k)[i]? with
  |none=>rw[e2]at e;cases e
  |some j=>
   rw[e2]at e;cases e;have hi:i<k:=by simpa using (List.getElem?_eq_some_iff.mp e2).1
   have hj:j=i:=by
    rw[List.getElem?_range hi]at e2;exact(Option.some.inj e2).symm
   subst hj;refine⟨hi,λx H2 y=>?_⟩;obtain⟨rfl,rfl⟩:=y;exact⟨r1,rfl,hr1,.refl⟩
 .have:(Ev.range lo k).length=k:=by simp[Ev.range]
  show k<=i;have hl':(Ev.range lo k).length<=i:=hl;omega
theorem GB {e1:E}{p:Pos}(hs:JA G n sc N df m (.cons e1 .nil) [xa]) (hg:sc.names.lookup ("range" : Str)=some .globalImplicit:=by rfl) (hb:("range" : Str)∈G.bl:=by decide +kernel)
  (hst:∀env:Env,starEach [xa] env=[(false,eval xa env)]:=by intro _;rfl):JI G n sc N df m (.g8 (.cons e1 .nil)) tg (.Call (.Name "range" p) [xa] [] pos):=λX g=>
 PI.of (zZ (g.gl hg) (g.bl _ hb) (hs X g) (hst _)) λs H Rr q=>by
  obtain⟨r,fr,h,src,h',sr,hr,e,q⟩:=q;simp only[Ev.cK]at e;obtain⟨ds,h1,e1,e⟩:=Ev.ah e;obtain⟨e,rfl⟩:=Ev.aN e;refine⟨r,fr,h,ds,_,sr,hr,e1,λvs H1 r1 v1 hr1 f1=>?_⟩;unfold Ev.fk at e;split at e
  .rename_i j;split at e
   .rename_i hj;cases e;simp only[aH,RV]at v1;obtain⟨v,w,rfl,rfl,rfl⟩:=v1;exact⟨_,rfl,hj.1,hj.2,q _ H1 r1 hr1 f1 (J7 0 _)⟩
   .cases e
  .exfalso;simp only[Ev.bR]at e1;obtain⟨d,_,_,e1⟩:=Ev.ah e1;simp only[Ev.ao]at e1;cases e1
  .cases e
inductive gJ(K:PySem.W.Frag)(m:List Nat)(t:T)(v:V)(s:L2.St)(H:Hp)(Q:L2.St->Hp->Prop):Prop
 |mk (r:List Addr) (fr:Fr) (h:Hh) (d:D) (ai:Fr) (c0:SR K m H r fr s) (c1:HR K H r h) (c2:RV K H r d v) (c3:Ev.br t d fr=some ai) (c4:∀s',SR K m H r ai s'->Q s' H):gJ K m t v s H Q
noncomputable def JG(G:Tb)(n:Nat)(sc:Scope)(N:List Str)(df:Bool)(m:List Nat)(t:T)(x:Expr):Prop:=∀X,Good G n sc N df X->PG X x (gJ X.K m t)
theorem PG.of{X:Cx}{e:Expr}{t t':TG}(h:PG X e t)(w:∀v s H Q,t' v s H Q->t v s H Q):PG X e t':=λpins s σ H v u Q I r q=>h pins s σ H v u Q I r (w _ _ _ _ q)
theorem SR.set{K:PySem.W.Frag}{m:List Nat}{H:Hp}{r:List Addr}{fr:Fr}{s:L2.St}(sr:SR K m H r fr s)(hm:m.Nodup){j i:Nat}(hj:m[j]?=some i){d:D}{v:V}(v1:RV K H r d v):SR K m H r (fr.set i (some d)) (s.set j (some v)):=by
 refine⟨by simp[sr.len],λj' i' d' e1 e2=>?_⟩;by_cases hi:i'=i
 .subst hi;have:j'=j:=Au hm e1 hj;subst this;have hlt:i'<fr.length:=by
   have:=(List.getElem?_eq_some_iff.mp e2).1;simpa using this
  rw[List.getElem?_set_self hlt]at e2;cases e2;refine⟨v,List.getElem?_set_self ?_,v1⟩;rw[sr.len];exact(List.getElem?_eq_some_iff.mp hj).1
 .rw[List.getElem?_set_ne (λz=>hi z.symm)]at e2;obtain⟨u,q1,q2⟩:=sr.sl j' i' d' e1 e2;refine⟨u,?_,q2⟩;rw[List.getElem?_set_ne]
  .exact q1
  .intro z;subst z;rw[hj]at e1;cases e1;exact hi rfl
where
 Au {l:List Nat} (hl:l.Nodup) {i j:Nat} {x:Nat} (a:l[i]?=some x) (b:l[j]?=some x):i=j:=by
  have ha:=(List.getElem?_eq_some_iff.mp a)
  have hb:=(List.getElem?_eq_some_iff.mp b)
  obtain⟨h1,e1⟩:=ha;obtain⟨h2,e2⟩:=hb;exact(List.getElem_inj hl).mp (e1.trans e2.symm)
theorem Good.loc{X:Cx}(g:Good G n sc N df X){x:Str}(h:sc.names.lookup x=some .local\/(df=true/\sc.names.lookup x=some .cell)):Loc X.env.scope x/\(X.fn x=true\/X.env.scope.names.lookup x=some .local):=by
 rw[show Loc X.env.scope x↔Loc sc x by rw[g.sc],g.sc];rcases h with h|⟨h1,h⟩
 .exact⟨.inl h,.inr h⟩
 .exact⟨.inr h,.inl (g.own h1 x)⟩
theorem J8(j i:Nat){x:Str}(hm:m.Nodup)(hN:N.Nodup)(hj:m[j]?=some i:=by rfl)(Av:N[j]?=some x:=by rfl)
  (hl:sc.names.lookup x=some .local\/(df=true/\sc.names.lookup x=some .cell):=by first|exact Or.inl rfl|exact Or.inr ⟨rfl,rfl⟩):JG G n sc N df m (.one i) (.Name x pos):=λX g=>by
 obtain⟨h1,h2⟩:=g.loc hl;refine PG.of (wm (i:=j) (by rw[g.nm];exact hN) (by rw[g.nm];exact Av) h1 h2) λv s H Q q=>?_;obtain⟨r,fr,h,d,ai,sr,hr,v1,e,q⟩:=q;cases e;exact q _ (sr.set hm hj v1)
inductive Px(K:PySem.W.Frag)(m:List Nat)(l:List Nat)(vs:List V)(s:L2.St)(H:Hp)(Q:L2.St->Hp->Prop):Prop
 |mk (r:List Addr) (fr:Fr) (h:Hh) (ds:List D) (ai:Fr) (c0:SR K m H r fr s) (c1:HR K H r h) (c2:aH K H r ds vs) (c3:Ev.cI l ds fr=some ai) (c4:∀s',SR K m H r ai s'->Q s' H):Px K m l vs s H Q
noncomputable def sA(G:Tb)(n:Nat)(sc:Scope)(N:List Str)(df:Bool)(m:List Nat)(l:List Nat)(xs:List Expr):Prop:=∀X,Good G n sc N df X->oz X xs (Px X.K m l)
theorem oz.of{X:Cx}{e:List Expr}{t t':rT}(h:oz X e t)(w:∀v s H Q,t' v s H Q->t v s H Q):oz X e t':=λpins s σ H v u Q I r q=>h pins s σ H v u Q I r (w _ _ _ _ q)
theorem GC:sA G n sc N df m [] []:=λX g=>oz.of Gd λvs s H Q q=>by
 obtain⟨r,fr,h,ds,ai,sr,hr,v1,e,q⟩:=q;cases ds with
 |nil=>simp only[aH]at v1;subst v1;cases e;exact⟨rfl,q _ sr⟩
 |cons _ _=>cases e
theorem Cy(j i:Nat){x:Str}{l:List Nat}{xs:List Expr}(hm:m.Nodup)(hN:N.Nodup)(hs:sA G n sc N df m l xs)(hj:m[j]?=some i:=by rfl)(Av:N[j]?=some x:=by rfl)
  (hl:sc.names.lookup x=some .local\/(df=true/\sc.names.lookup x=some .cell):=by first|exact Or.inl rfl|exact Or.inr ⟨rfl,rfl⟩)
  (hst:∀env:Env,(assignEach (.Name x pos :: xs) env).map (·.2)=assign (.Name x pos) env :: (assignEach xs env).map (·.2):=by intro _;rfl):sA G n sc N df m (i :: l) (.Name x pos :: xs):=λX g=>by
 obtain⟨h1,h2⟩:=g.loc hl;refine oz.of (Ce (wm (i:=j) (by rw[g.nm];exact hN) (by rw[g.nm];exact Av) h1 h2) (hs X g) (hst _)) λvs s H Q q=>?_;obtain⟨r,fr,h,ds,ai,sr,hr,v1,e,q⟩:=q;cases ds with
 |nil=>cases e
 |cons d ds=>
  simp only[aH]at v1;obtain⟨v,w,rfl,v2,v3⟩:=v1;exact⟨v,w,rfl,r,_,h,ds,ai,sr.set hm hj v2,hr,v3,e,q⟩
theorem GD{l:List Nat}{xs:List Expr}{k:Nat}(hs:sA G n sc N df m l xs)(hn:∀env:Env,(assignEach xs env).length=l.length:=by intro _;rfl)(hst:∀env:Env,(assignEach xs env).findIdx? (·.1)=none:=by intro _;rfl) :
  JG G n sc N df m (.many l) (.Tuple xs k pos):=λX g=>PG.of (IZ (n:=l.length) g.calm (hs X g) (hn _) (hst _)) λv s H Q q=>by
 obtain⟨r,fr,h,d,ai,sr,hr,v1,e,q⟩:=q;cases d with
 |tup ds=>
  simp only[RV]at v1;obtain⟨p,vs,rfl,z,w⟩:=v1;have hlen:∀(l:List Nat) (ds:List D) fr ai,Ev.cI l ds fr=some ai->ds.length=l.length:=by
   intro l;induction l with
   |nil=>intro ds fr ai e;cases ds with|nil=>rfl|cons _ _=>cases e
   |cons i l ih=>intro ds fr ai e;cases ds with|nil=>cases e|cons d ds=>simp[ih ds _ _ e]
  exact⟨p,vs,rfl,z,by rw[w.length];exact hlen _ _ _ _ e,r,fr,h,ds,ai,sr,hr,w,e,q⟩
 |_=>cases e
end
end Sm
set_option maxRecDepth 100000
namespace Sm
open PySem PySem.Spec PyProof.Rows L2
open Ev (D O Hh Fr R aG E Es Eo T S Ss Fl Src bw bq TY BI ME)
noncomputable def Fin(K:PySem.W.Frag)(m:List Nat)(r:List Addr)(H:Hp)(h':Hh)(fl:Fl)(ai:Fr)(Q:Ends):Prop:=match fl with
 |.nx=>∀s' H' r',SR K m H' r' ai s'->HR K H' r' h'->Fm K r r' H H'->Q.nx s' H'
 |.bk=>∀s' H' r',SR K m H' r' ai s'->HR K H' r' h'->Fm K r r' H H'->Q.bk s' H'
 |.ct=>∀s' H' r',SR K m H' r' ai s'->HR K H' r' h'->Fm K r r' H H'->Q.ct s' H'
 |.ret d=>Res K r H h' d Q.rt
theorem Fin.later{K:PySem.W.Frag}{m:List Nat}{r r':List Addr}{H H':Hp}{h':Hh}{fl:Fl}{ai:Fr}{Q:Ends}(q:Fin K m r H h' fl ai Q)(f:Fm K r r' H H'):Fin K m r' H' h' fl ai Q:=by
 cases fl with
 |nx=>exact λs2 H2 r2 a b g=>q s2 H2 r2 a b (f.trans g)
 |bk=>exact λs2 H2 r2 a b g=>q s2 H2 r2 a b (f.trans g)
 |ct=>exact λs2 H2 r2 a b g=>q s2 H2 r2 a b (f.trans g)
 |ret d=>exact Res.later q f
inductive Py(K:PySem.W.Frag)(m:List Nat)(P:aG)(w:Nat)(st:S)(Q:Ends)(s:L2.St)(H:Hp):Prop
 |mk (r:List Addr) (fr:Fr) (h:Hh) (fl:Fl) (ai:Fr) (h':Hh) (c0:SR K m H r fr s) (c1:HR K H r h) (c2:Ev.ex P w st fr h=.ok (fl,ai) h') (c3:Fin K m r H h' fl ai Q):Py K m P w st Q s H
inductive qT(K:PySem.W.Frag)(m:List Nat)(P:aG)(w:Nat)(ss:Ss)(Q:Ends)(s:L2.St)(H:Hp):Prop
 |mk (r:List Addr) (fr:Fr) (h:Hh) (fl:Fl) (ai:Fr) (h':Hh) (c0:SR K m H r fr s) (c1:HR K H r h) (c2:Ev.exs P w ss fr h=.ok (fl,ai) h') (c3:Fin K m r H h' fl ai Q):qT K m P w ss Q s H
theorem PS.of{X:Cx}{st:Stmt}{t t':TS}(h:PS X st t)(w:∀Q s H,t' Q s H->t Q s H):PS X st t':=λpins s σ H Q I q=>h pins s σ H Q I (w _ _ _ q)
theorem er.of{X:Cx}{st:List Stmt}{t t':TS}(h:er X st t)(w:∀Q s H,t' Q s H->t Q s H):er X st t':=λpins s σ H Q I q=>h pins s σ H Q I (w _ _ _ q)
section
variable(G:Tb)(n:Nat)(sc:Scope)(N:List Str)(df:Bool)(m:List Nat)
noncomputable def JS(st:S)(x:Stmt):Prop:=∀X,Good G n sc N df X->PS X x (Py X.K m (Ev.run G.F G.w n) G.w st)
noncomputable def jL(ss:Ss)(xs:List Stmt):Prop:=∀X,Good G n sc N df X->er X xs (qT X.K m (Ev.run G.F G.w n) G.w ss)
end
section
variable{G:Tb}{n:Nat}{sc:Scope}{N:List Str}{df:Bool}{m:List Nat}{a b c:E}{xa xb xc tg:Expr}{pos:Pos}
theorem wN:jL G n sc N df m .nil []:=λX g=>er.of wg λQ s H q=>by
 obtain⟨r,fr,h,fl,ai,h',sr,hr,e,q⟩:=q;simp only[Ev.exs]at e;cases e;exact q s H r sr hr .refl
theorem ug{st:S}{ss:Ss}{x:Stmt}{xs:List Stmt}(h1:JS G n sc N df m st x)(h2:jL G n sc N df m ss xs):jL G n sc N df m (.cons st ss) (x :: xs):=λX g=>er.of (jE (h1 X g) (h2 X g)) λQ s H q=>by
 obtain⟨r,fr,h,fl,ai,h',sr,hr,e,q⟩:=q;simp only[Ev.exs]at e;obtain⟨⟨eS,af⟩,h1,e1,e⟩:=Ev.ah e;refine⟨r,fr,h,eS,af,h1,sr,hr,e1,?_⟩;cases eS with
 |nx=>exact λs1 H1 r1 lY hr1 f1=>⟨r1,af,h1,fl,ai,h',lY,hr1,e,q.later f1⟩
 |bk=>cases e;exact q
 |ct=>cases e;exact q
 |ret d=>cases e;exact q
theorem J9(j i:Nat){x:Str}{pos':Pos}(hm:m.Nodup)(hN:N.Nodup)(ha:JE G n sc N df m a xa)(hs:∀env:Env,swapsWith xa (some (.Name x pos')) pos.line env=pure false:=by intro _;rfl)(hj:m[j]?=some i:=by rfl)(Av:N[j]?=some x:=by rfl)
  (hl:sc.names.lookup x=some .local\/(df=true/\sc.names.lookup x=some .cell):=by first|exact Or.inl rfl|exact Or.inr ⟨rfl,rfl⟩):JS G n sc N df m (.set i a) (.Assign [.Name x pos'] xa pos):=λX g=>by
 obtain⟨h1,h2⟩:=g.loc hl;refine PS.of (tV (i:=j) (by rw[g.nm];exact hN) (by rw[g.nm];exact Av) h1 (ha X g) (hs _) h2) λQ s H q=>?_;obtain⟨r,fr,h,fl,ai,h',sr,hr,e,q⟩:=q;simp only[Ev.ex]at e;obtain⟨d,h1,e1,e⟩:=Ev.ah e;cases e;exact⟨r,fr,h,d,_,sr,hr,e1,λv H1 r1 v1 hr1 f1=>q _ H1 r1 ((sr.mono f1).set hm hj v1) hr1 f1⟩
theorem Ka(ha:JE G n sc N df m a xa)(hs:∀env:Env,swapsWith xa none pos.line env=pure false:=by intro _;rfl):JS G n sc N df m (.exp a) (.Expr xa pos):=λX g=>PS.of (wk (ha X g) (hs _)) λQ s H q=>by
 obtain⟨r,fr,h,fl,ai,h',sr,hr,e,q⟩:=q;simp only[Ev.ex]at e;obtain⟨d,h1,e1,e⟩:=Ev.ah e;cases e;exact⟨r,fr,h,d,_,sr,hr,e1,λv H1 r1 v1 hr1 f1=>q s H1 r1 (sr.mono f1) hr1 f1⟩
theorem Aw(ha:JE G n sc N df m a xa):JS G n sc N df m (.ret a) (.Return (some xa) pos):=λX g=>PS.of (zU (ha X g)) λQ s H q=>by
 obtain⟨r,fr,h,fl,ai,h',sr,hr,e,q⟩:=q;simp only[Ev.ex]at e;obtain⟨d,h1,e1,e⟩:=Ev.ah e;cases e;exact⟨r,fr,h,d,_,sr,hr,e1,q⟩
theorem Kc{ta tb:Ss}{ya yb:List Stmt}(hc:JT G n sc N df m a xa)(h1:jL G n sc N df m ta ya)(h2:jL G n sc N df m tb yb):JS G n sc N df m (.iff a ta tb) (.If xa ya yb pos):=λX g=>PS.of (ym (hc X g) (h1 X g) (h2 X g)) λQ s H q=>by
 obtain⟨r,fr,h,fl,ai,h',sr,hr,e,q⟩:=q;simp only[Ev.ex]at e;obtain⟨k,h3,e1,e⟩:=Ev.ah e;refine⟨r,fr,h,k,h3,sr,hr,e1,λH1 r1 hr1 f1=>?_⟩;cases k with
 |true=>exact⟨r1,fr,h3,fl,ai,h',sr.mono f1,hr1,e,q.later f1⟩
 |false=>exact⟨r1,fr,h3,fl,ai,h',sr.mono f1,hr1,e,q.later f1⟩
theorem Good.pass{X:Cx}(g:Good G n sc N df X):PassesOwn (model X.prog X.w) X.A X.env X.xe:=by
 rw[g.xe];exact PassesOwn.never
noncomputable def FN(K:PySem.W.Frag)(m:List Nat)(eS:Fl)(fO:Fr)(h4:Hh)(r1:List Addr)(H1:Hp)(s5:L2.St)(H5:Hp):Prop:=(eS=.nx\/eS=.ct)/\∃r5,SR K m H5 r5 fO s5/\HR K H5 r5 h4/\Fm K r1 r5 H1 H5
section
variable{K:PySem.W.Frag}{r r1 r2:List Addr}{H H1 H2:Hp}{h4 h':Hh}{fl eS:Fl}{fO ai:Fr}{Q:Ends}
noncomputable def yI(L:R (Fl×Fr))(p:Fl×Fr)(h1:Hh):R (Fl×Fr):=match p.1 with
 |.nx=>L
 |.ct=>L
 |.bk=>.ok (.nx,p.2) h1
 |.ret x=>.ok (.ret x,p.2) h1
theorem wO{L:R (Fl×Fr)}(e:yI L (eS,fO) h4=.ok (fl,ai) h')(z:eS=.nx\/eS=.ct):L=.ok (fl,ai) h':=by rcases z with rfl|rfl<;>exact e
theorem uh{L:R (Fl×Fr)}(e:yI L (eS,fO) h4=.ok (fl,ai) h')(q:Fin K m r H h' fl ai Q)(f:Fm K r r1 H H1)(f2:Fm K r1 r2 H1 H2):Fin K m r2 H2 h4 eS fO { Q with nx:=FN K m eS fO h4 r1 H1,ct:=FN K m eS fO h4 r1 H1,bk:=Q.nx }:=by
 cases eS with
 |nx=>exact λs6 H6 r6 Ax Ay f6=>⟨.inl rfl,r6,Ax,Ay,f2.trans f6⟩
 |ct=>exact λs6 H6 r6 Ax Ay f6=>⟨.inr rfl,r6,Ax,Ay,f2.trans f6⟩
 |bk=>
  cases e;exact λs6 H6 r6 Ax Ay f6=>q s6 H6 r6 Ax Ay ((f.trans f2).trans f6)
 |ret d=>
  cases e;exact Res.later q (f.trans f2)
noncomputable def kh(P:aG)(w:Nat)(t:T)(tb:Ss):D->Fr->Hh->R (Fl×Fr):=λd aq h2=>match Ev.br t d aq with
 |some aS=>Ev.exs P w tb aS h2
 |none=>.bad
theorem um(P:aG)(w:Nat)(t:T)(it:Ev.It)(tb:Ss)(fr:Fr)(h:Hh):Ev.ex P w (.for t it tb) fr h=(Ev.cK P it fr h).bind λs h1=>Ev.forL (kh P w t tb) s.2 s.1 fr h1:=by simp only[Ev.ex];rfl
theorem sC(f:D->Fr->Hh->R (Fl×Fr))(ck:List (Nat×List D))(d:D)(ds:List D)(fr:Fr)(h:Hh):Ev.forL f ck (d :: ds) fr h=if Ev.stays h ck then (f d fr h).bind λp h1=>yI (Ev.forL f ck ds p.2 h1) p h1 else .bad:=rfl
noncomputable def FW(K:PySem.W.Frag)(m:List Nat)(f:D->Fr->Hh->R (Fl×Fr))(src:Src)(r1:List Addr)(H1:Hp)(o:Fl×Fr)(h':Hh)(i k:Nat)(s3:L2.St)(H3:Hp):Prop:=
 k=src.1.length - i/\i<=src.1.length/\∃r3 aS h3,SR K m H3 r3 aS s3/\HR K H3 r3 h3/\Fm K r1 r3 H1 H3/\Ev.forL f src.2 (src.1.drop i) aS h3=.ok o h'
theorem Cz{P:aG}{w:Nat}{t:T}{tb:Ss}{src:Src}{J:L2.It}{i k:Nat}{s3:L2.St}{H3:Hp}(hJ:qS K r1 H1 src J)(q:Fin K m r H h' fl ai Q)(f1:Fm K r r1 H H1)(hW:FW K m (kh P w t tb) src r1 H1 (fl,ai) h' i k s3 H3) :
  (J.stop i H3/\Q.nx s3 H3)\/(J.go i H3/\∃N:L2.St->Hp->Prop,(∀σ' H',N σ' H'->∃m',m'<k/\FW K m (kh P w t tb) src r1 H1 (fl,ai) h' (i+1) m' σ' H')/\∀x H',J.zX i H3 x H'->gJ K m t x s3 H' λσ2 H2=>qT K m P w tb { Q with nx:=N,ct:=N,bk:=Q.nx } σ2 H2):=by
 obtain⟨rfl,hle,r3,aS,h3,pZ,kH,f3,e3⟩:=hW;rcases Nat.lt_or_ge i src.1.length with hlt|hge
 .rw[List.drop_eq_getElem_cons hlt,sC]at e3;split at e3
  .rename_i hst;obtain⟨g1,g2⟩:=(hJ i H3 r3 h3 kH f3 hst).1 src.1[i] (List.getElem?_eq_getElem hlt);obtain⟨⟨eS,fO⟩,h4,e4,e3⟩:=Ev.ah e3;unfold kh at e4;split at e4
   .rename_i jW e5;exact .inr ⟨g1,FN K m eS fO h4 r1 H1,λs5 H5 ⟨hfl,r5,qa,sD,f5⟩=>⟨_,Nat.sub_lt_sub_left hlt (Nat.lt_succ_self i),rfl,hlt,r5,fO,h4,qa,sD,f5,wO e3 hfl⟩,λx H4 y=>
     let ⟨r4,v4,oF,f4⟩:=g2 x H4 y
     ⟨r4,aS,h3,_,jW,pZ.mono f4,oF,v4,e5,λs5 qa=>⟨r4,jW,h3,eS,fO,h4,qa,oF,e4,uh e3 q f1 (f3.trans f4)⟩⟩⟩
   .cases e4
  .cases e3
 .have hi:i=src.1.length:=Nat.le_antisymm hle hge;subst hi;rw[List.drop_length]at e3;unfold Ev.forL at e3;split at e3
  .rename_i hst;cases e3;exact .inl ⟨(hJ _ H3 r3 _ kH f3 hst).2 (Nat.le_refl _),q s3 H3 r3 pZ kH (f1.trans f3)⟩
  .cases e3
end
theorem Az(t:Fr->Hh->R Bool)(f:Fr->Hh->R (Fl×Fr))(n:Nat)(fr:Fr)(h:Hh):Ev.di t f (n+1) fr h=(t fr h).bind λb h1=>if b then (f fr h1).bind λp h2=>yI (Ev.di t f n p.2 h2) p h2 else .ok (.nx,fr) h1:=rfl
noncomputable def WW(K:PySem.W.Frag)(m:List Nat)(P:aG)(w:Nat)(a:E)(tb:Ss)(r:List Addr)(H:Hp)(o:Fl×Fr)(h':Hh)(k:Nat)(s1:L2.St)(H1:Hp):Prop:=
 ∃r1 af h1,SR K m H1 r1 af s1/\HR K H1 r1 h1/\Fm K r r1 H H1/\Ev.di (λaq h2=>Ev.aF P a aq h2) (λaq h2=>Ev.exs P w tb aq h2) k af h1=.ok o h'
theorem Kd{tb:Ss}{yb:List Stmt}(hc:JT G n sc N df m a xa)(h1:jL G n sc N df m tb yb):JS G n sc N df m (.iW a tb) (.While xa yb [] pos):=λX g=>PS.of (tW g.pass (hc X g) (h1 X g)) λQ s H q=>by
 obtain⟨r,fr,h,fl,ai,h',sr,hr,e,q⟩:=q;simp only[Ev.ex]at e;refine⟨WW X.K m (Ev.run G.F G.w n) G.w a tb r H (fl,ai) h',⟨_,r,fr,h,sr,hr,.refl,e⟩,λk s1 H1 hW=>?_⟩;obtain⟨r1,af,h1,lY,hr1,f1,e1⟩:=hW;cases k with
 |zero=>cases e1
 |succ k=>
  rw[Az]at e1;obtain⟨bb,h2,e2,e1⟩:=Ev.ah e1;refine⟨r1,af,h1,bb,h2,lY,hr1,e2,λH2 r2 hr2 f2=>?_⟩;cases bb with
  |false=>
   cases e1;exact q s1 H2 r2 (lY.mono f2) hr2 (f1.trans f2)
  |true=>
   rw[if_pos rfl]at e1;obtain⟨⟨eS,aq⟩,h3,e3,e1⟩:=Ev.ah e1;exact⟨FN X.K m eS aq h3 r H,λs3 H3 ⟨hfl,r3,pZ,kH,f3⟩=>⟨k,Nat.lt_succ_self k,r3,aq,h3,pZ,kH,f3,wO e1 hfl⟩,r2,af,h2,eS,aq,h3,lY.mono f2,hr2,e3,uh e1 q .refl (f1.trans f2)⟩
theorem Ke{t:T}{it:Ev.It}{tb:Ss}{yb:List Stmt}(hi:JI G n sc N df m it tg xa)(hg:JG G n sc N df m t tg)(h1:jL G n sc N df m tb yb)(hs:∀(env:Env) x,foldedSetIterable xa env x=pure x:=by intro _ _;rfl) :
  JS G n sc N df m (.for t it tb) (.For tg xa yb [] pos):=λX g=>PS.of (Aa g.pass g.calm (hi X g) (hg X g) (h1 X g) (hs _)) λQ s H q=>by
 obtain⟨r,fr,h,fl,ai,h',sr,hr,e,q⟩:=q;rw[um]at e;obtain⟨src,h2,e1,e⟩:=Ev.ah e;exact⟨r,fr,h,src,h2,sr,hr,e1,λJ H1 r1 hr1 f1 hJ=>⟨FW X.K m (kh (Ev.run G.F G.w n) G.w t tb) src r1 H1 (fl,ai) h',⟨src.1.length,rfl,Nat.zero_le _,r1,fr,h2,sr.mono f1,hr1,.refl,by rw[List.drop_zero];exact e⟩,λi k s3 H3 hW=>Cz hJ q f1 hW⟩⟩
end
theorem getElem?_range'{k j i:Nat}(h:(List.range k)[j]?=some i):i=j:=by
 obtain⟨h1,h2⟩:=List.getElem?_eq_some_iff.mp h;simpa using h2.symm
theorem o7{K:PySem.W.Frag}{H:Hp}{r:List Addr}{ds:List D}{vs:List V}{N:List Str}{fn:Ev.Fn}(v1:aH K H r ds vs)(hN:vs.length<=N.length):SR K (List.range N.length) H r (Ev.dg fn ds) (L2.start N vs):=by
 refine⟨by unfold L2.start;simp;omega,λj i d e1 e2=>?_⟩;have e3:=getElem?_range' e1;subst e3;unfold Ev.dg at e2;by_cases hj:i<ds.length
 .rw[List.getElem?_append_left (by simpa using hj),List.getElem?_map]at e2;cases e4:ds[i]? with
  |none=>rw[e4]at e2;cases e2
  |some d'=>
   rw[e4]at e2;cases e2;obtain⟨v,q1,q2⟩:=v1.get e4;refine⟨v,?_,q2⟩;unfold L2.start;rw[List.getElem?_append_left (by have:=v1.length;simpa using (by omega:i<vs.length)),List.getElem?_map,q1];rfl
 .rw[List.getElem?_append_right (by simpa using Nat.not_lt.mp hj),List.getElem?_replicate]at e2;split at e2<;>cases e2
section
variable{P:Program}{w:World}{K:PySem.W.Frag}{mg:Str->Option Value}{base:Heap}{G:Tb}
noncomputable def nF(P:Program)(w:World)(K:PySem.W.Frag)(mg:Str->Option Value)(base:Heap)(G:Tb)(n:Nat):Prop:=∀(f:Nat) i,G.fi[f]?=some i->eO P w K mg base jk n i.addr i.fd i.ps (lW K G.F G.w n f)
structure Top(P:Program)(w:World)(K:PySem.W.Frag)(mg:Str->Option Value)(G:Tb):Prop where
 fn:∀(f:Nat) i,G.fi[f]?=some i->mg i.name=some (.ref i.addr)/\PySem.W.keepIn K (.ref i.addr)=true/\Binds K i.fd i.ps []
 bl:∀x∈G.bl,mg x=none
 cs:∀x d,(x,d)∈G.cs->∃v u,mg x=some u/\RelV v u/\wL K d v
 dk:∀x kvs,(x,kvs)∈G.dk->∃a,mg x=some (.ref a)/\∀h:Heap,K.In h->StrTab P w h a (tabOf kvs)
theorem GF{f:Addr}{fd:FuncData}{ps:List Str}{k:Nat}:eO P w K mg base jk 0 f fd ps (lW K G.F G.w 0 k):=by
 have no:∀vs H Q E,¬ lW K G.F G.w 0 k vs H Q E:=λvs H Q E h=>by
  obtain⟨r,h,ds,d,h',_,_,e,_⟩:=h;cases e
 exact⟨λvs H Q E h=>absurd h (no vs H Q E),λA outer s H args us vs Q E _ _ _ _ h=>absurd h (no vs H Q E)⟩
theorem dN{x qual:Str}{st:Stmt}{i:FI}{N:List Str}{n f:Nat}{fn:Ev.Fn}(T:Top P w K mg G)(A0:nF P w K mg base G n)(F:lU K x qual st i.addr i.fd)(S:bG N i.ps (ay st))(hf:G.F[f]?=some fn)(hp:i.ps.length=fn.np)
  (hb:jL G n (ay st) N true (List.range N.length) fn.body (cW st)):eO P w K mg base jk (n+1) i.addr i.fd i.ps (lW K G.F G.w (n+1) f):=by
 have hlen:∀vs H Q E,lW K G.F G.w (n+1) f vs H Q E->vs.length=i.ps.length:=λvs H Q E h=>by
  obtain⟨r,h,ds,d,h',v1,_,e,_⟩:=h;simp only[Ev.fK,hf]at e;split at e
  .rename_i z;rw[v1.length,z,hp]
  .cases e
 refine F.ok S hlen λcdv A outer s H vs Q E hr ig=>?_;have hl:=hlen vs H Q E ig;have hN:vs.length<=N.length:=by
  have:=congrArg List.length S.pre;rw[List.length_take]at this;omega
 have g:Good G n (ay st) N true (jd jk P w K mg base N qual (ay st) i.addr cdv A outer s H E).cJ:=
  ⟨rfl,rfl,rfl,λ_ _=>rfl,hr,rfl,λf i hi=>⟨(T.fn f i hi).1,(T.fn f i hi).2.1,(T.fn f i hi).2.2,A0 f i hi⟩,T.bl,T.cs,T.dk⟩
 refine⟨_,hb _ g,?_⟩;obtain⟨r,h,ds,d,h',v1,hr1,e,q⟩:=ig;simp only[Ev.fK,hf]at e;split at e
 .unfold Ev.endOf at e;obtain⟨⟨fl,ai⟩,h2,e1,e⟩:=Ev.ah e;refine⟨r,Ev.dg fn ds,h,fl,ai,h2,o7 v1 hN,hr1,e1,?_⟩;cases fl with
  |nx=>
   cases e;exact λs' H' r' _ hr' f'=>q _ H' r' rfl hr' f'
  |ret d'=>
   cases e;exact q
  |bk=>cases e
  |ct=>cases e
 .cases e
end
end Sm
set_option maxRecDepth 100000
namespace Sm
open PySem PySem.Spec PyProof.Rows L2 PySem.SeqAt
open Ev (D O Hh Fr R aG E Es Eo T S Ss Fl Src bw bq TY BI ME)
end Sm
set_option maxRecDepth 100000
namespace L2
open PySem PySem.Spec PyProof.Rows
end L2
namespace Sm
open PySem PySem.Spec PyProof.Rows L2 PySem.SeqAt
open Ev (D O Hh Fr R aG E Es Eo T S Ss Fl Src bw bq TY BI ME)
end Sm
set_option maxRecDepth 100000
namespace Sm
open PySem PySem.Spec PyProof.Rows L2
open Ev (D O Hh Fr R aG E Es Eo T S Ss Fl Src bw bq TY BI ME)
theorem qU(env:Env):∀(names:List (Str×NameKind)) (acc:List (Str×Addr)),(∀x,(x,NameKind.free)∈names->∃c,env.cells.lookup x=some c)->(∀x c,acc.lookup x=some c->env.cells.lookup x=some c)->
  ∃cl,(forIn names acc (λ(x:Str×NameKind) cs=>if (x.2==NameKind.free)=true then (do let c <-cellOf env x.1;pure (ForInStep.yield ((x.1,c) :: cs)))else pure (ForInStep.yield cs)):Sem (List (Str×Addr)))=pure cl/\
   (∀x c,cl.lookup x=some c->env.cells.lookup x=some c)/\(∀x,(x,NameKind.free)∈names->(cl.lookup x).isSome=true)/\(∀x,(acc.lookup x).isSome=true->(cl.lookup x).isSome=true)
 |[],acc,_,h2=>⟨acc,rfl,h2,(λx h=>by simp at h),λ_ h=>h⟩
 | (y,k) :: r,acc,h1,h2=>by
  by_cases hk:k=.free
  .subst hk;obtain⟨c,hc⟩:=h1 y (List.mem_cons_self ..);have h2':∀x c',((y,c) :: acc).lookup x=some c'->env.cells.lookup x=some c':=λx c' e=>by
    rw[List.lookup_cons]at e;split at e
    .rename_i hx;have hx':x=y:=by simpa using hx
     cases e;rw[hx'];exact hc
    .exact h2 x c' e
   obtain⟨cl,e1,e2,e3,e4⟩:=qU env r ((y,c) :: acc) (λx hx=>h1 x (List.mem_cons_of_mem _ hx)) h2';refine⟨cl,?_,e2,λx hx=>?_,λx hx=>e4 x ?_⟩
   .rw[List.forIn_cons];simp only[beq_self_eq_true,if_true];unfold cellOf;rw[hc];exact e1
   .rcases List.mem_cons.mp hx with z|z
    .cases z;exact e4 y (by simp[List.lookup_cons])
    .exact e3 x z
   .rw[List.lookup_cons];split
    .rfl
    .exact hx
  .have hk':(k==NameKind.free)=false:=by simpa using hk
   obtain⟨cl,e1,e2,e3,e4⟩:=qU env r acc (λx hx=>h1 x (List.mem_cons_of_mem _ hx)) h2;refine⟨cl,?_,e2,λx hx=>?_,e4⟩
   .rw[List.forIn_cons];simp only[hk',Bool.false_eq_true,if_false];exact e1
   .rcases List.mem_cons.mp hx with z|z
    .cases z;exact absurd rfl hk
    .exact e3 x z
theorem GG{scope:Scope}{env:Env}(h:∀x,(x,NameKind.free)∈scope.names->∃c,env.cells.lookup x=some c) :
  ∃cl,closureFor scope env=pure cl/\(∀x c,cl.lookup x=some c->env.cells.lookup x=some c)/\∀x,(x,NameKind.free)∈scope.names->∃c,cl.lookup x=some c:=by
 obtain⟨cl,e1,e2,e3,_⟩:=qU env scope.names [] h (λx c e=>by simp at e);refine⟨cl,?_,e2,λx hx=>Option.isSome_iff_exists.mp (e3 x hx)⟩;unfold closureFor;show(forIn scope.names [] _ >>= λcs=>pure cs:Sem (List (Str×Addr)))=pure cl;have e:(forIn scope.names [] (λ(x:Str×NameKind) cs=>if (x.2==NameKind.free)=true then (do let c <-cellOf env x.1;pure (ForInStep.yield ((x.1,c) :: cs)))else pure (ForInStep.yield cs)):Sem (List (Str×Addr)))=pure cl:=e1;exact congrArg (λt:Sem (List (Str×Addr))=>t >>= λcs=>pure cs) e
noncomputable def iz(sc scope:Scope):Scope:={ scope with names:=scope.names.map λ(n,k)=>if (k==.free&&sc.kind==.function&&sc.names.lookup n==some .cell)then (n,.cell)else (n,k)}
theorem qV{env:Env}{sc scope:Scope}(h:env.scope=sc):relabel scope env=iz sc scope:=by
 subst h;rfl
theorem sE{sc:Scope}:∀{names:List (Str×NameKind)}{x:Str},(∀y∈names,y.2≠.cell)->
  ((names.map λ(n,k)=>if (k==NameKind.free&&sc.kind==.function&&sc.names.lookup n==some .cell)then (n,NameKind.cell)else (n,k)).lookup x=some .cell\/
   (names.map λ(n,k)=>if (k==NameKind.free&&sc.kind==.function&&sc.names.lookup n==some .cell)then (n,NameKind.cell)else (n,k)).lookup x=some .free)->(x,NameKind.free)∈names
 |[],_,_,h=>by rcases h with h|h<;>simp at h
 | (n,k) :: r,x,hc,h=>by
  have ih:=@sE sc r x λy hy=>hc y (List.mem_cons_of_mem _ hy);simp only[List.map_cons]at h;have nk:∀(k':NameKind),(if (k==NameKind.free&&sc.kind==.function&&sc.names.lookup n==some .cell)then (n,NameKind.cell)else (n,k))=(n,k')->k'=.cell\/k'=.free->k=.free:=λk' e hk'=>by
   split at e
   .rename_i z;simp only[Bool.and_eq_true,beq_iff_eq]at z;exact z.1.1
   .cases e;rcases hk' with z|z
    .exact absurd z (hc (n,_) (List.mem_cons_self ..))
    .exact z
  generalize hg:(if (k==NameKind.free&&sc.kind==.function&&sc.names.lookup n==some .cell)then (n,NameKind.cell)else (n,k))=p at h nk
  have hp:p.1=n:=by rw[<-hg];split<;>rfl
  obtain⟨p1,p2⟩:=p;simp only at hp;subst hp;simp only[List.lookup_cons]at h;cases hx:(x==p1)with
  |true=>
   have hx':x=p1:=by simpa using hx
   rw[hx]at h;have:=nk p2 rfl (by rcases h with h|h<;>simp at h<;>simp[h]);subst this;rw[hx'];exact List.mem_cons_self ..
  |false=>
   rw[hx]at h;exact List.mem_cons_of_mem _ (ih h)
section
variable{prog:Program}{w:World}{A:Around}{R':Result->Shared->Prop}{s:Shared}
abbrev ez:Value->Shared->Prop:=λ_ _=>False
noncomputable def wQ(ifs:List Expr)(env:Env):Sem Bool:=forIn ifs true λc r=>if r=true then do let ok <-isTrue c env (eval c env);pure (ForInStep.yield ok)else pure (ForInStep.yield r)
theorem uo{elt target iter:Expr}{ifs:List Expr}{scope:Scope}{pos:Pos}{it acc:Value}{env:Env}(I:Nat->Shared->Prop)
  (turn:∀n s,I n s->wpAny (model prog w) A (pyNext it) (λr s₁=>match r with
   |none=>R' (.ok .next) s₁
   |some v=>wpAny (model prog w) A (letOwnedTupleGo target it v) (λ_ s₂=>wpAny (model prog w) A (assign target env v) (λ_ s₃=>
     wpAny (model prog w) A (wQ ifs env) (λok s₄=>
      if ok=true then wpAny (model prog w) A (eval elt env) (λx s₅=>
       wpAny (model prog w) A (call (.builtin "list.append") [acc,x]) (λ_ s₆=>∃m,m<n/\I m s₆) ez s₅) ez s₄
      else ∃m,m<n/\I m s₄) ez s₃) ez s₂) ez s₁) ez s)
  (n:Nat) (h:I n s):codeAny (model prog w) A (.compLoop (.ListComp elt [⟨target,iter,ifs,0⟩] scope pos) 0 it acc env) R' s:=by
 refine codeAny_loop rfl I (λn s hI=>?_) n h;show wpAny _ A ((compTurn (.ListComp elt [⟨target,iter,ifs,0⟩] scope pos) 0 it acc env).onRaise (λx=>do noteFrame x env;theTreesLotGoes x)) _ _ s;refine wpAny_noted ?_;rw[compTurn_list];refine wpAny_bind (wpAny_standAt (wpAny_bind (wpAny_mono (turn n s hI) (λr s₁ h₁=>?_) λ_ _ h'=>h'.elim)));cases r with
 |none=>exact wpAny_pure h₁
 |some v=>
  refine wpAny_bind (wpAny_mono h₁ (λ_ s₂ h₂=>?_) λ_ _ h'=>h'.elim);refine wpAny_bind (wpAny_mono h₂ (λ_ s₃ h₃=>wpAny_bind (wpAny_mono h₃ (λok s₄ h₄=>?_) λ_ _ h'=>h'.elim)) λ_ _ h'=>h'.elim);cases ok with
  |false=>exact wpAny_pure ⟨rfl,h₄⟩
  |true=>
   exact wpAny_bind (wpAny_bind (wpAny_mono h₄ (λx s₅ h₅=>wpAny_bind (wpAny_mono h₅ (λ_ s₆ h₆=>wpAny_pure (wpAny_pure ⟨rfl,h₆⟩)) λ_ _ h'=>h'.elim)) λ_ _ h'=>h'.elim))
end
inductive Pz(K:PySem.W.Frag)(m:List Nat)(P:aG)(e:Eo)(s:L2.St)(H:Hp)(Q:Bool->Hp->Prop):Prop
 |mk (r:List Addr) (fr:Fr) (h:Hh) (k:Bool) (h':Hh) (c0:SR K m H r fr s) (c1:HR K H r h) (c2:Ev.iu P e fr h=.ok k h') (c3:∀H' r',HR K H' r' h'->Fm K r r' H H'->Q k H'):Pz K m P e s H Q
noncomputable def JC(G:Tb)(n:Nat)(sc:Scope)(N:List Str)(df:Bool)(m:List Nat)(e:Eo)(ifs:List Expr):Prop:=∀X,Good G n sc N df X->∀(pins:List (Addr×Obj)) (s:Shared) (σ:L2.St) (H:Hp) (Q:Bool->Hp->Prop),Inv X pins σ H s->
 Pz X.K m (Ev.run G.F G.w n) e σ H Q->wpAny (model X.prog X.w) X.A (wQ ifs X.env) (TP X pins σ Q) X.xe s
section
variable{G:Tb}{n:Nat}{sc:Scope}{N:List Str}{df:Bool}{m:List Nat}{a b c:E}{xa xb xc tg:Expr}{pos:Pos}
theorem NS:JC G n sc N df m .no []:=λX g pins s σ H Q I q=>by
 obtain⟨r,fr,h,k,h',sr,hr,e,q⟩:=q;simp only[Ev.iu]at e;cases e;exact wpAny_pure ⟨H,I,q H r hr .refl⟩
theorem Kf(hc:JT G n sc N df m a xa):JC G n sc N df m (.yes a) [xa]:=λX g pins s σ H Q I q=>by
 obtain⟨r,fr,h,k,h',sr,hr,e,q⟩:=q;simp only[Ev.iu]at e;exact wpAny_tests_one (hc X g pins s σ H Q I ⟨r,fr,h,k,h',sr,hr,e,q⟩)
end
noncomputable def qb(X:Cx)(N':List Str)(scope:Scope)(cl:List (Str×Addr))(C:Addr)(s3:Shared)(H3:Hp)(fp:List Addr):Cx:=
 { X with N:=N',s₀:=s3,H₀:=H3,env:=compEnvC scope cl C X.env,outer:=X.stack,stack:=X.stack,ex:=fp,fn:=λ_=>false,pn:=[],xe:=λ_ _=>False }
noncomputable def namesOk(sc:Scope)(N:List Str)(m:List Nat)(scope:Scope)(t:T)(N':List Str)(m':List Nat):Prop:=m'.length=N'.length/\
 ∀(j:Nat) x i,N'[j]?=some x->m'[j]?=some i->i∈Ev.slots t\/((x,NameKind.free)∈scope.names/\∃jo:Nat,N[jo]?=some x/\m[jo]?=some i)
noncomputable def uq(sc:Scope)(N:List Str)(m:List Nat)(scope:Scope)(t:T)(N':List Str)(m':List Nat):Bool:=m'.length==N'.length&&
 (List.range N'.length).all λj=>match N'[j]?,m'[j]? with
  |some x,some i=>(Ev.slots t).contains i || (scope.names.contains (x,NameKind.free)&&(List.range N.length).any λjo=>N[jo]?==some x&&m[jo]?==some i)
  |_,_=>true
theorem namesOk.of{sc:Scope}{N:List Str}{m:List Nat}{scope:Scope}{t:T}{N':List Str}{m':List Nat}(h:uq sc N m scope t N' m'=true):namesOk sc N m scope t N' m':=by
 unfold uq at h;rw[Bool.and_eq_true]at h;refine⟨by simpa using h.1,λj x i e1 e2=>?_⟩;have hj:j<N'.length:=(List.getElem?_eq_some_iff.mp e1).1;have q:=List.all_eq_true.mp h.2 j (List.mem_range.mpr hj);rw[e1,e2]at q;simp only[Bool.or_eq_true,Bool.and_eq_true,List.any_eq_true]at q;rcases q with q|⟨q1,jo,_,q2⟩
 .exact .inl (by simpa using q)
 .exact .inr ⟨by simpa using q1,jo,by simpa using q2.1,by simpa using q2.2⟩
theorem vW{t:T}{d:D}{fr aq:Fr}(e:Ev.br t d fr=some aq){i:Nat}(hi:i∉Ev.slots t):aq[i]?=fr[i]?:=by
 have go:∀(l:List Nat) (ds:List D) (fr aq:Fr),Ev.cI l ds fr=some aq->i∉l->aq[i]?=fr[i]?:=by
  intro l;induction l with
  |nil=>
   intro ds fr aq e _;cases ds with
   |nil=>cases e;rfl
   |cons _ _=>cases e
  |cons j l ih=>
   intro ds fr aq e hj;cases ds with
   |nil=>cases e
   |cons d ds=>
    rw[ih ds _ _ e λz=>hj (List.mem_cons_of_mem _ z),List.getElem?_set_ne];intro z;exact hj (by rw[z];exact List.mem_cons_self ..)
 cases t with
 |one j=>
  cases e;rw[List.getElem?_set_ne];intro z;exact hi (by simp[Ev.slots,z])
 |many l=>
  cases d with
  |tup ds=>exact go l ds fr aq e hi
  |_=>cases e
theorem SR.unbind{K:PySem.W.Frag}{m:List Nat}{H:Hp}{r:List Addr}{t:T}{d:D}{fr aq:Fr}{s:L2.St}(sr:SR K m H r aq s)(e:Ev.br t d fr=some aq)(hu:Ev.undef t fr=true):SR K m H r fr s:=by
 refine⟨sr.len,λj i d' e1 e2=>sr.sl j i d' e1 ?_⟩;rw[vW e]
 .exact e2
 .intro hi;have q:=List.all_eq_true.mp hu i hi;rw[e2]at q;cases q
end Sm
set_option maxRecDepth 100000
namespace Sm
open PySem PySem.Spec PyProof.Rows L2
open Ev (D O Hh Fr R aG E Es Eo T S Ss Fl Src bw bq TY BI ME)
structure mT(sc scope:Scope):Prop where
 kind:scope.kind=.function
 AA:∀y∈scope.names,y.2≠.cell
 free:∀x,(x,NameKind.free)∈scope.names->(sc.names.lookup x=some .cell\/sc.names.lookup x=some .free)/\scope.names.lookup x=some .free
 loc:∀y∈scope.names,y.2=.local->scope.names.lookup y.1=some .local
noncomputable def Kg(sc scope:Scope):Bool:=scope.kind==.function&&scope.names.all λy=>y.2 != .cell&&(y.2 != .free || ((sc.names.lookup y.1==some .cell ||sc.names.lookup y.1==some .free)&&scope.names.lookup y.1==some .free))&&(y.2 != .local ||scope.names.lookup y.1==some .local)
theorem mT.of{sc scope:Scope}(h:Kg sc scope=true):mT sc scope:=by
 unfold Kg at h;rw[Bool.and_eq_true]at h;have q:∀y∈scope.names,y.2≠.cell/\(y.2=.free->(sc.names.lookup y.1=some .cell\/sc.names.lookup y.1=some .free)/\scope.names.lookup y.1=some .free)/\(y.2=.local->scope.names.lookup y.1=some .local):=λy hy=>by
  have z:=List.all_eq_true.mp h.2 y hy;simp only[Bool.and_eq_true,Bool.or_eq_true,bne_iff_ne,beq_iff_eq,ne_eq]at z;refine⟨z.1.1,λe=>?_,λe=>?_⟩
  .rcases z.1.2 with w|w
   .exact absurd e w
   .exact w
  .rcases z.2 with w|w
   .exact absurd e w
   .exact w
 exact⟨by simpa using h.1,λy hy=>(q y hy).1,λx hx=>(q _ hx).2.1 rfl,λy hy=>(q y hy).2.2⟩
theorem sG{sc:Scope}:∀{names:List (Str×NameKind)}{x:Str},names.lookup x=some .free->
  ((names.map λ(n,k)=>if (k==NameKind.free&&sc.kind==.function&&sc.names.lookup n==some .cell)then (n,NameKind.cell)else (n,k)).lookup x=some .cell\/
   (names.map λ(n,k)=>if (k==NameKind.free&&sc.kind==.function&&sc.names.lookup n==some .cell)then (n,NameKind.cell)else (n,k)).lookup x=some .free)
 |[],_,h=>by simp at h
 | (n,k) :: r,x,h=>by
  have ih:=@sG sc r x;simp only[List.map_cons];simp only[List.lookup_cons]at h;by_cases hc:(k==NameKind.free&&sc.kind==.function&&sc.names.lookup n==some .cell)=true
  .rw[if_pos hc];simp only[List.lookup_cons];cases hx:(x==n)with
   |true=>exact .inl rfl
   |false=>rw[hx]at h;exact ih h
  .rw[if_neg hc];simp only[List.lookup_cons];cases hx:(x==n)with
   |true=>rw[hx]at h;exact .inr h
   |false=>rw[hx]at h;exact ih h
section
variable{G:Tb}{n:Nat}{sc scope:Scope}{N N':List Str}{df:Bool}{m m':List Nat}{elt:E}{t:T}{it:Ev.It}{cond:Eo}{xe xi tg:Expr}{ifs:List Expr}{pos:Pos}{X:Cx}
theorem Good.comp(g:Good G n sc N df X){cl:List (Str×Addr)}{C:Addr}{s3:Shared}{H3:Hp}{fp:List Addr}:Good G n (iz sc scope) N' false (qb X N' scope cl C s3 H3 fp):=
 ⟨rfl,qV g.sc,g.calm,(λh=>by cases h),g.room,rfl,g.fn,g.bl,g.cs,g.dk⟩
theorem GH{pins:List (Addr×Obj)}{σ:L2.St}{H3:Hp}{s3:Shared}(g:Good G n sc N df X)(I:Inv X pins σ H3 s3)(hs:mT sc scope){cl:List (Str×Addr)}(jf:∀x c,cl.lookup x=some c->X.env.cells.lookup x=some c)
  (mU:∀x,(x,NameKind.free)∈scope.names->∃c,cl.lookup x=some c) {fp:List Addr} (hfp:∀b∈fp,g9 X pins H3 b) (hfl:∀b∈fp,b<s3.heap.objs.size):(qb X N' scope cl s3.heap.objs.size s3 H3 fp).Ok where
 mod:=I.ok.mod
 kind:=hs.kind
 glob:=I.ok.glob
 blt:=I.ok.blt
 above:=Nat.le_refl _
 inj:=λx y c h1 h2=>I.ok.inj x y c (jf x c h1) (jf y c h2)
 has:=λx h=>by
  have h':(iz sc scope).names.lookup x=some .cell\/(iz sc scope).names.lookup x=some .free:=by
   rw[<-qV (scope:=scope) g.sc];exact h
  exact mU x (sE hs.AA h')
 tU:=λx c h=>by cases h
 hd:=I.ok.hd
 frames:=I.ok.frames
 stk:=.inl rfl
 zP:=λb hb=>⟨Nat.ne_of_lt (hfl b hb),λx c e=>(hfp b hb).2.2.2.2.1 x c (jf x c e)⟩
 bs:=I.bs
 mC:=Nat.le_trans I.ok.mC I.sz
 oX:=λb o e hb=>by
  rcases(hfp b hb).2.2.2.1 with z|z
  .exact I.ok.oX b o e z
  .have:=Heap.lt_size (I.ok.bs b o e).1;exact absurd (Nat.lt_of_lt_of_le this z) (Nat.lt_irrefl _)
 oY:=λb hb z=>by
  rcases List.mem_cons.mp (I.pQ b z)with q|q
  .exact(hfp b hb).2.1 q
  .exact(hfp b hb).2.2.1 q
 gH:=I.stack
 oq:=I.qL
open Classical in
noncomputable def sig(scope:Scope)(N N':List Str)(m':List Nat)(K:PySem.W.Frag)(H:Hp)(r:List Addr)(fr:Fr)(σ:L2.St):L2.St:=
 (List.range N'.length).map λj=>if h:∃v,∃x i,N'[j]?=some x/\m'[j]?=some i/\(x,NameKind.free)∈scope.names/\(∃jo:Nat,N[jo]?=some x/\σ[jo]?=some (some v))/\∀d,fr[i]?=some (some d)->RV K H r d v then some h.choose else none
theorem Kh{K:PySem.W.Frag}{H:Hp}{r:List Addr}{fr:Fr}{σ:L2.St}{j:Nat}{v:V}(h:(sig scope N N' m' K H r fr σ)[j]?=some (some v)) :
  ∃x i,N'[j]?=some x/\m'[j]?=some i/\(x,NameKind.free)∈scope.names/\(∃jo:Nat,N[jo]?=some x/\σ[jo]?=some (some v))/\∀d,fr[i]?=some (some d)->RV K H r d v:=by
 unfold sig at h;rw[List.getElem?_map]at h;cases e:(List.range N'.length)[j]? with
 |none=>rw[e]at h;cases h
 |some j'=>
  have:=getElem?_range' e;subst this;rw[e]at h;simp only[Option.map_some,Option.some.injEq]at h;split at h
  .rename_i hh;cases h;exact hh.choose_spec
  .cases h
theorem Kl{K:PySem.W.Frag}{H:Hp}{r:List Addr}{fr:Fr}{σ:L2.St}(sr:SR K m H r fr σ)(hn:namesOk sc N m scope t N' m')(hu:Ev.undef t fr=true):SR K m' H r fr (sig scope N N' m' K H r fr σ):=by
 refine⟨by unfold sig;simp[hn.1],λj i d e1 e2=>?_⟩;have hj:j<N'.length:=by rw[<-hn.1];exact(List.getElem?_eq_some_iff.mp e1).1
 have hx:N'[j]?=some N'[j]:=List.getElem?_eq_getElem hj;rcases hn.2 j _ i hx e1 with hi|⟨h1,jo,h2,h3⟩
 .exfalso;have q:=List.all_eq_true.mp hu i hi;rw[e2]at q;cases q
 .obtain⟨v,h4,h5⟩:=sr.sl jo i d h3 e2;have ex:∃v,∃x i,N'[j]?=some x/\m'[j]?=some i/\(x,NameKind.free)∈scope.names/\(∃jo:Nat,N[jo]?=some x/\σ[jo]?=some (some v))/\∀d,fr[i]?=some (some d)->RV K H r d v:=
   ⟨v,N'[j],i,hx,e1,h1,⟨jo,h2,h4⟩,λd' e'=>by rw[e2]at e';cases e';exact h5⟩
  refine⟨ex.choose,?_,?_⟩
  .unfold sig;rw[List.getElem?_map,List.getElem?_range hj];simp only[Option.map_some];rw[dif_pos ex]
  .obtain⟨x',i',q1,q2,q3,q4,q5⟩:=ex.choose_spec;rw[e1]at q2;cases q2;exact q5 d e2
theorem CB{pins:List (Addr×Obj)}{σ:L2.St}{H3:Hp}{s3:Shared}(g:Good G n sc N df X)(I:Inv X pins σ H3 s3)(hs:mT sc scope){cl:List (Str×Addr)}(jf:∀x c,cl.lookup x=some c->X.env.cells.lookup x=some c)
  (mU:∀x,(x,NameKind.free)∈scope.names->∃c,cl.lookup x=some c) {fp:List Addr} (hfp:∀b∈fp,g9 X pins H3 b) (hfl:∀b∈fp,b<s3.heap.objs.size) {h1:Heap} {tk:Nat} {mm:Str->Option Value}
  (hns:h1.Ns s3.heap.objs.size mm) (hk:∀b o,s3.heap.get? b=some o->h1.get? b=some o) {r:List Addr} {fr:Fr} :
  Inv (qb X N' scope cl s3.heap.objs.size s3 H3 fp) [] (sig scope N N' m' X.K H3 r fr σ) H3 { s3 with heap:=h1,toks:=tk }:=by
 refine⟨GH g I hs jf mU hfp hfl,rfl,I.bare,Un.kept hk,⟨mm,hns,λj x v e1 e2 e3=>?_⟩,λx c e=>?_,I.hok.fresh (Nat.le_refl _),λx c e=>I.gy x c (jf x c e),(λp hp=>by simp[qb]at hp),I.hok.kept hk,(by unfold sig;simp[qb])⟩
 .obtain⟨x',i,q1,q2,q3,⟨jo,q4,q5⟩,_⟩:=Kh e2;have SH:N'[j]?=some x:=e1;rw[SH]at q1;cases q1;obtain⟨f1,f2⟩:=hs.free x q3;obtain⟨mO,UC,SI⟩:=I.loc;obtain⟨u,ru,lk⟩:=SI jo x v (by rw[g.nm];exact q4) q5 (by rw[g.sc];rcases f1 with z|z<;>simp[rR,z]);refine⟨u,ru,?_⟩;have hkd:X.env.kindOf x=some .cell\/X.env.kindOf x=some .free:=by unfold Env.kindOf;rw[g.sc];exact f1
  rcases lk with ⟨z,_⟩|⟨_,c,hc,hcell⟩
  .rcases hkd with w|w <;> (rw[z]at w;cases w)
  .obtain⟨c',hc'⟩:=mU x q3;have:c'=c:=by
    have:=jf x c' hc';rw[hc]at this;cases this;rfl
   subst this;refine .inr ⟨?_,c',hc',?_⟩
   .show(relabel scope X.env).names.lookup x=some .cell\/(relabel scope X.env).names.lookup x=some .free;rw[qV (scope:=scope) g.sc];exact sG f2
   .obtain⟨o,ho,hd⟩:=hcell;exact⟨o,hk _ _ ho,hd⟩
 .obtain⟨v,o,ho,hd⟩:=I.cell x c (jf x c e);exact⟨v,o,hk _ _ ho,hd⟩
end
end Sm
set_option maxRecDepth 100000
namespace Sm
open PySem PySem.Spec PyProof.Rows L2
open Ev (D O Hh Fr R aG E Es Eo T S Ss Fl Src bw bq TY BI ME)
section
variable{G:Tb}{n:Nat}{sc scope:Scope}{N N':List Str}{df:Bool}{m m':List Nat}{elt:E}{t:T}{it:Ev.It}{cond:Eo}{xe xi tg:Expr}{ifs:List Expr}{pos:Pos}{X:Cx}
noncomputable def yJ(P:aG)(elt:E)(t:T)(cond:Eo)(fr:Fr):D->Hh->R (Option D):=λd h2=>match Ev.br t d fr with
 |none=>.bad
 |some aq=>(Ev.iu P cond aq h2).bind λk h3=>if k then (Ev.ev P elt aq h3).bind λx h4=>.ok (some x) h4 else .ok none h3
theorem qW(P:aG)(elt:E)(t:T)(it:Ev.It)(cond:Eo)(fr:Fr)(h:Hh):Ev.ev P (.comp elt t it cond) fr h=(Ev.cK P it fr h).bind λs h1=>if Ev.undef t fr then
  (Ev.cQ (yJ P elt t cond fr) s.2 s.1 h1).bind λds h2=>Ev.alloc ds h2 else .bad:=by
 simp only[Ev.ev];rfl
noncomputable def CI(Y:Cx)(m':List Nat)(f:D->Hh->R (Option D))(fr:Fr)(src:Src)(fp:List Addr)(tn:Nat->Heap->Prop)(r2:List Addr)(H2:Hp)(Dd:Addr)(ds:List D)(h2:Hh)(k:Nat)(s:Shared):Prop:=
 ∃i oG Hc rc hc dn vs rest,Inv Y [] oG Hc s/\tn i s.heap/\(∀b∈fp,Hc b=none)/\k=src.1.length - i/\i<=src.1.length/\
  SR Y.K m' Hc rc fr oG/\HR Y.K Hc rc hc/\Fm Y.K r2 rc H2 Hc/\Hc Dd=some (.lst vs)/\Dd∉rc/\aH Y.K Hc rc dn vs/\Ev.cQ f src.2 (src.1.drop i) hc=.ok rest h2/\dn++rest=ds
section
variable{Y:Cx}{sc':Scope}{J:L2.It}{fp:List Addr}{ita:Addr}{tn:Nat->Heap->Prop}{fr:Fr}{src:Src}{r2:List Addr}{H2:Hp}{Dd:Addr}{ds:List D}{h2:Hh}
theorem yK(gC:Good G n sc' N' false Y){α:Type}{tt:Sem α}{Q:α->Shared->Prop}{s:Shared}(hw:wpAny (model Y.prog Y.w) Y.A tt Q Y.xe s):wpAny (model Y.prog Y.w) Y.A tt Q ez s:=by rw[gC.xe]at hw;exact hw
theorem wR{i:Nat}{lZ:L2.St}{H9:Hp}{r9:List Addr}{h9:Hh}{dn:List D}{vs:List V}{rest':List D}{s9:Shared}{p:List (Addr×Obj)}{f:D->Hh->R (Option D)}(hlt:i<src.1.length)(I9:Inv Y ([]++p) lZ H9 s9)(bk:tn (i+1) s9.heap/\∀b∈fp,H9 b=none)(q:SR Y.K m' H9 r9 fr lZ)(sH:HR Y.K H9 r9 h9)(fm:Fm Y.K r2 r9 H2 H9)(yL:H9 Dd=some (.lst vs))(yN:Dd∉r9)(rv:aH Y.K H9 r9 dn vs)(e7:Ev.cQ f src.2 (src.1.drop (i+1)) h9=.ok rest' h2)(ed:dn++rest'=ds) :
  ∃k,k<src.1.length - i/\CI Y m' f fr src fp tn r2 H2 Dd ds h2 k s9:=
 ⟨src.1.length - (i+1),Nat.sub_lt_sub_left hlt (Nat.lt_succ_self i),i+1,lZ,H9,r9,h9,dn,vs,rest',I9.kY,bk.1,bk.2,rfl,hlt,q,sH,fm,yL,yN,rv,e7,ed⟩
theorem Km{i:Nat}{lZ:L2.St}{H9:Hp}{r9:List Addr}{h9:Hh}{dn:List D}{vs:List V}{xd:D}{v10:V}{Ei:Value}{rest':List D}{s9:Shared}{p:List (Addr×Obj)}{f:D->Hh->R (Option D)}(hlt:i<src.1.length)(mV:H2 Dd=none)(hsz:ds.length<=sizeLine)(gC:Good G n sc' N' false Y)(I9:Inv Y ([]++p) lZ H9 s9)(CC:RelV v10 Ei)(bk:∀{σ':L2.St}{H':Hp}{s':Shared},Inv Y ([]++p) σ' H' s'->tn (i+1) s'.heap/\∀b∈fp,H' b=none)(q:SR Y.K m' H9 r9 fr lZ)(sH:HR Y.K H9 r9 h9)(fm:Fm Y.K r2 r9 H2 H9)(oH:H9 Dd=some (.lst vs))(ur:Dd∉r9)(rv:aH Y.K H9 r9 dn vs)(CD:RV Y.K H9 r9 xd v10)(e7:Ev.cQ f src.2 (src.1.drop (i+1)) h9=.ok rest' h2)(ed:dn++xd :: rest'=ds) :
  wpAny (model Y.prog Y.w) Y.A (call (.builtin "list.append") [.ref Dd,Ei]) (λ_ Ej=>∃k,k<src.1.length - i/\CI Y m' f fr src fp tn r2 H2 Dd ds h2 k Ej) ez s9:=by
 have hlen:vs.length<sizeLine:=by
  have h1:=rv.length;have h2:=congrArg List.length ed;simp at h2;omega
 refine bJ (yK gC (sj _ s9 lZ H9 (.ref Dd) [v10] (.ref Dd) [Ei] (λ_ PB=>PB=upd H9 Dd (.lst (vs++[v10]))) I9 rfl (.cons CC .nil) ⟨Dd,vs,v10,rfl,rfl,oH,hlen,rfl⟩)) λ_ Ej ⟨_,PB,PC,_,Q3⟩=>?_;subst Q3;refine wR (dn:=dn++[xd]) (vs:=vs++[v10]) hlt PC (bk PC) ?_ (sH.other oH ur) (fm.other mV oH) eG ur ?_ e7 ?_
 .exact⟨q.len,λj i' d' a1 a2=>by
   obtain⟨w,b1,b2⟩:=q.sl j i' d' a1 a2;exact⟨w,b1,b2.grow (λ_ _ z=>z) (iy oH)⟩⟩
 .exact(rv.append (.cons CD .nil)).grow (λ_ _ z=>z) (iy oH)
 .rw[<-ed];simp
theorem AB(gC:Good G n sc' N' false Y)(hg:JG G n sc' N' false m' t tg)(hc:JC G n sc' N' false m' cond ifs)(he:JE G n sc' N' false m' elt xe)(Tn:Turn Y.prog Y.w Y.K tg J fp ita tn)(kZ:∀{Hc:Hp},(∀b∈fp,Hc b=none)->∀b∈fp,g9 Y [] Hc b)
  (hu:Ev.undef t fr=true) (hJ:qS Y.K r2 H2 src J) (mV:H2 Dd=none) (hsz:ds.length<=sizeLine) {R':Result->Shared->Prop}
  (Q4:∀s6 oG Hc rc vs,Inv Y [] oG Hc s6->HR Y.K Hc rc h2->Fm Y.K r2 rc H2 Hc->Hc Dd=some (.lst vs)->Dd∉rc->aH Y.K Hc rc ds vs->R' (.ok .next) s6) {k:Nat} {s:Shared}
  (h:CI Y m' (yJ (Ev.run G.F G.w n) elt t cond fr) fr src fp tn r2 H2 Dd ds h2 k s):codeAny (model Y.prog Y.w) Y.A (.compLoop (.ListComp xe [⟨tg,xi,ifs,0⟩] scope pos) 0 (.ref ita) (.ref Dd) Y.env) R' s:=by
 refine uo (CI Y m' (yJ (Ev.run G.F G.w n) elt t cond fr) fr src fp tn r2 H2 Dd ds h2) ?_ k h;rintro k s5 ⟨i,oG,Hc,rc,hc',dn,vs,rest,I5,wu,jW,rfl,hle,qa,sD,uu,oH,ur,AD,e5,Ek⟩;rcases Nat.lt_or_ge i src.1.length with hlt|hge
 .rw[List.drop_eq_getElem_cons hlt]at e5;simp only[Ev.cQ]at e5;split at e5
  .rename_i hst;obtain⟨hgo,_⟩:=hJ i Hc rc hc' sD uu hst;obtain⟨g1,g2⟩:=hgo src.1[i] (List.getElem?_eq_getElem hlt);obtain⟨o,h6,e6,e5⟩:=Ev.ah e5;obtain⟨rest',h7,e7,e5⟩:=Ev.ah e5;cases e5;refine bJ (Tn.item Y rfl rfl rfl gC.calm i [] s5 oG Hc ez I5 (kZ jW) wu g1) λrr s6 ⟨u,SJ,h8⟩=>?_;subst SJ;refine bJ h8 λ_ s7 ⟨x,H7,I7,rx,y7,Kn,SK⟩=>?_;obtain⟨r7,v7,PD,wU⟩:=g2 x H7 y7;obtain⟨Q5,Q6⟩:=wU.yE oH ur;unfold yJ at e6;split at e6
   .cases e6
   .rename_i aq eb;obtain⟨kk,h9,e9,e6⟩:=Ev.ah e6;have SM:=I7.pinned (kZ SK) (Tn.obj _ _ Kn);refine bJ (yK gC (hg _ gC _ s7 oG H7 x u (λlZ H8=>H8=H7/\SR Y.K m' H7 r7 aq lZ) SM rx ⟨r7,fr,hc',_,aq,qa.mono wU,PD,v7,eb,λs' q=>⟨rfl,q⟩⟩)) λ_ s8 ⟨lZ,H8,I8,SN,El⟩=>?_;subst SN;refine bJ (yK gC (hc _ gC _ s8 lZ _ (λb H9=>b=kk/\∃r9,HR Y.K H9 r9 h9/\Fm Y.K r7 r9 _ H9) I8 ⟨r7,aq,hc',kk,h9,El,PD,e9,λH9 r9 sH f9=>⟨rfl,r9,sH,f9⟩⟩)) λbb s9 ⟨H9,I9,Jz,r9,sH,sI⟩=>?_;subst Jz;obtain⟨yN,yL⟩:=sI.yE Q6 Q5;have back:∀{σ':L2.St} {H':Hp} {s':Shared},Inv Y ([]++mF fp s7.heap) σ' H' s'->tn (i+1) s'.heap/\∀b∈fp,H' b=none:=λ{σ' H' s'} I'=>
     ⟨Tn.keep _ _ _ Kn λb hb o e=>(I'.pin (b,o) (List.mem_append_right _ (List.mem_append_right _ (jl hb e)))).1,λb hb=>
      let ⟨o,e,_⟩:=Tn.obj _ _ Kn b hb
      (I'.pin (b,o) (List.mem_append_right _ (List.mem_append_right _ (jl hb e)))).2.1⟩
    cases bb with
    |false=>
     simp only[Bool.false_eq_true,if_false]at e6 ⊢;cases e6;exact wR hlt I9 (back I9) ((El.mono sI).unbind eb hu) sH ((uu.trans wU).trans sI) yL yN ((AD.mono wU).mono sI) e7 Ek
    |true=>
     simp only[if_true]at e6 ⊢;obtain⟨xd,UD,SO,e6⟩:=Ev.ah e6;cases e6;refine bJ (yK gC (he _ gC _ s9 lZ H9 (λv AE=>∃wV,RV Y.K AE wV xd v/\HR Y.K AE wV _/\Fm Y.K r9 wV H9 AE) I9 ⟨r9,aq,h9,xd,_,El.mono sI,sH,SO,λv AE wV v10 CF qc=>⟨wV,v10,CF,qc⟩⟩)) λEi Ko ⟨v10,AE,SQ,CC,wV,CD,CF,yO⟩=>?_;obtain⟨NT,NU⟩:=yO.yE yL yN;exact Km hlt mV hsz gC SQ CC back (((El.mono sI).mono yO).unbind eb hu) CF (((uu.trans wU).trans sI).trans yO) NU NT (((AD.mono wU).mono sI).mono yO) CD e7 Ek
  .cases e5
 .have hi':i=src.1.length:=Nat.le_antisymm hle hge;subst hi';rw[List.drop_length]at e5;simp only[Ev.cQ]at e5;split at e5
  .rename_i hst;cases e5;refine bJ (Tn.done Y rfl rfl rfl gC.calm _ [] s5 oG Hc ez I5 (kZ jW) wu ((hJ _ Hc rc _ sD uu hst).2 (Nat.le_refl _))) λrr s6 ⟨hrr,I6⟩=>?_;subst hrr;rw[List.append_nil]at Ek;subst Ek;exact Q4 s6 oG Hc rc vs I6 sD uu oH ur AD
  .cases e5
end
theorem AF(g:Good G n sc N df X)(hi:JI G n sc N df m it tg xi)(hg:JG G n (iz sc scope) N' false m' t tg)(hc:JC G n (iz sc scope) N' false m' cond ifs)(he:JE G n (iz sc scope) N' false m' elt xe)
  (hn:namesOk sc N m scope t N' m') (hs:mT sc scope) {cl:List (Str×Addr)} (jf:∀x c,cl.lookup x=some c->X.env.cells.lookup x=some c) (mU:∀x,(x,NameKind.free)∈scope.names->∃c,cl.lookup x=some c)
  {pins:List (Addr×Obj)} {σ:L2.St} {H:Hp} {s:Shared} (I:Inv X pins σ H s) {r:List Addr} {fr:Fr} {h:Hh} {d:D} {h':Hh} (sr:SR X.K m H r fr σ) (hr:HR X.K H r h)
  (e:Ev.ev (Ev.run G.F G.w n) (.comp elt t it cond) fr h=.ok d h') (post:Value->Addr->Result->Shared->Prop)
  (hpost:∀Dd C s' H' r',Inv X pins σ H' s'->(∃mm,s'.heap.Ns C mm)->g9 X pins H' C->RV X.K H' r' d (.ref Dd)->HR X.K H' r' h'->Fm X.K r r' H H'->post (.ref Dd) C (.ok .next) s') {E:Value->Shared->Prop} (hE:X.xe=λ_ _=>False) :
  wpAny (model X.prog X.w) X.A (eval xi X.env) (λx s₁=>wpAny (model X.prog X.w) X.A (pyIter x) (λitv s₂=>wpAny (model X.prog X.w) X.A (newList []) (λacc s₃=>
   wpAny (model X.prog X.w) X.A (newFunctionEnv scope X.env.globals cl [] X.env.qual none .none (some X.env)) (λcenv s₄=>
    codeAny (model X.prog X.w) X.A (.compStart (.ListComp xe [⟨tg,xi,ifs,0⟩] scope pos) 0 itv acc { cenv with scope:=relabel scope X.env }) (post acc cenv.locals) s₄) E s₃) E s₂) E s₁) E s:=by
 rw[qW]at e;obtain⟨src,h1,e1,e⟩:=Ev.ah e;split at e
 .rename_i hu;obtain⟨ds,h2,e2,e⟩:=Ev.ah e;have cJ:∀{α:Type} {tt:Sem α} {Q:α->Shared->Prop} {s:Shared},wpAny (model X.prog X.w) X.A tt Q X.xe s->wpAny (model X.prog X.w) X.A tt Q E s:=λ{α tt Q s} hw=>wpAny_mono hw (λ_ _ q=>q) λ_ _ q=>by rw[hE]at q;exact q.elim
  refine bJ (cJ (hi X g pins s σ H (λJ H2=>∃r2,HR X.K H2 r2 h1/\Fm X.K r r2 H H2/\qS X.K r2 H2 src J) I ⟨r,fr,h,src,h1,sr,hr,e1,λJ H2 r2 hr2 f2 hJ=>⟨r2,hr2,f2,hJ⟩⟩)) λv s1 q1=>?_;refine bJ (cJ q1) λitv s2 q2=>?_;obtain⟨ita,fp,tn,J,H2,rfl,I2,Tn,st2,f2,r2,hr2,Em,hJ⟩:=q2;refine wpAny_newObj_type ?_;generalize En:s2.heap.objs.size=Dd
  have mV:H2 Dd=none:=by rw[<-En];exact I2.fresh
  have I3:Inv X pins σ (upd H2 Dd (.lst [])) { s2 with heap:=s2.heap.push { cls:=.type "list",data:=.seq ([]:List Value).toArray }}:=by
   have:=I2.Cq (ys:=[]) (its:=[]) (t':=s2.toks) .nil (Nat.zero_le _);rw[En]at this;exact this
  have Kp:∀b∈fp,b<s2.heap.objs.size:=λb hb=>by
   obtain⟨o,e,_⟩:=Tn.obj 0 _ st2 b hb;exact Heap.lt_size e
  generalize Kq:({ s2 with heap:=s2.heap.push { cls:=.type "list",data:=.seq ([]:List Value).toArray }}:Shared)=s3 at I3
  have Q7:s3.heap.objs.size=s2.heap.objs.size+1:=by rw[<-Kq];exact Heap.size_push ..
  have k3:∀b o,s2.heap.get? b=some o->s3.heap.get? b=some o:=λb o e=>by rw[<-Kq];exact Heap.get?_push_of_some _ e
  have Kr:∀b∈fp,b<s3.heap.objs.size:=λb hb=>Nat.lt_of_lt_of_le (Kp b hb) (by rw[Q7];exact Nat.le_succ _);have qX:∀b∈fp,g9 X pins (upd H2 Dd (.lst [])) b:=λb hb=>⟨by rw[bz (λz=>absurd (Kp b hb) (by rw[z,En];exact Nat.lt_irrefl _))];exact(f2 b hb).1,(f2 b hb).2⟩
  refine wpAny_newFunctionEnv (hs.AA) (λy hy=>by simp at hy) (λKs Q8 Q9=>?_) hs.kind;have k4:∀b o,s3.heap.get? b=some o->Ks.get? b=some o:=λb o e=>Q9.extBut b o (Nat.ne_of_lt (Heap.lt_size e)) (Heap.get?_push_of_some _ e);have gC:Good G n (iz sc scope) N' false (qb X N' scope cl s3.heap.objs.size s3 (upd H2 Dd (.lst [])) fp):=g.comp;have I4:Inv (qb X N' scope cl s3.heap.objs.size s3 (upd H2 Dd (.lst [])) fp) [] (sig scope N N' m' X.K (upd H2 Dd (.lst [])) r2 fr σ) (upd H2 Dd (.lst [])) { s3 with heap:=Ks,toks:=s3.toks+0 }:=
   CB g I3 hs jf mU qX Kr Q8 k4
  have pZ:SR X.K m' (upd H2 Dd (.lst [])) r2 fr (sig scope N N' m' X.K (upd H2 Dd (.lst [])) r2 fr σ):=Kl (((sr.mono Em).mono (Fm.tup mV))) hn hu;have kH:HR X.K (upd H2 Dd (.lst [])) r2 h1:=hr2.tup mV;have PF:Dd∉r2:=λhm=>by
   obtain⟨k,hk⟩:=List.getElem?_of_mem hm;have hlt:k<h1.length:=by rw[<-hr2.len];exact(List.getElem?_eq_some_iff.mp hk).1
   obtain⟨a,e3,e4⟩:=hr2.ob k _ (List.getElem?_eq_getElem hlt);rw[hk]at e3;cases e3;cases eo:h1[k]with
   |lst dd=>rw[eo]at e4;obtain⟨us,e5,_⟩:=e4;rw[mV]at e5;cases e5
   |bS dd=>
    rw[eo]at e4;obtain⟨us,e5,_⟩:=e4;rcases e5 with ⟨ob,e5⟩|⟨ob,_,_,e5,_⟩
    .rw[mV]at e5;cases e5
    .have:=Heap.lt_size (I2.jD _ _ e5);rw[En]at this;exact absurd this (Nat.lt_irrefl _)
  have SS:H Dd=none:=by
   cases z:H Dd with
   |none=>rfl
   |some o=>
    have hnr:Dd∉r:=λhm=>by
     obtain⟨k,hk⟩:=List.getElem?_of_mem hm;exact PF (List.mem_of_getElem? (Em.pre _ _ hk))
    have:=Em.keep _ _ z hnr;rw[mV]at this;cases this
  have kZ:∀{Hc:Hp},(∀b∈fp,Hc b=none)->∀b∈fp,g9 (qb X N' scope cl s3.heap.objs.size s3 (upd H2 Dd (.lst [])) fp) [] Hc b:=λ{Hc} hz b hb=>by
   refine⟨hz b hb,Nat.ne_of_lt (Kr b hb),(I4.ok).oY b hb,.inl hb,λx c e=>((I4.ok).zP b hb).2 x c e,λp hp=>?_⟩;simp[qb]at hp
  have hsz:ds.length<=sizeLine:=by
   unfold Ev.alloc at e;split at e
   .rename_i z;rw[<-jK];exact z
   .cases e
  have fin:codeAny (model X.prog X.w) X.A (.compLoop (.ListComp xe [⟨tg,xi,ifs,0⟩] scope pos) 0 (.ref ita) (.ref Dd) (compEnvC scope cl s3.heap.objs.size X.env)) (post (.ref Dd) s3.heap.objs.size) { s3 with heap:=Ks,toks:=s3.toks+0 }:=by
   refine AB gC hg hc he Tn kZ hu hJ mV hsz (λs6 oG Hc rc vs I6 sD uu oH ur AD=>?_) ⟨0,_,_,r2,h1,[],[],ds,I4,Tn.keep _ _ _ st2 λb hb o eo=>k4 b o (k3 b o eo),λb hb=>(qX b hb).1,rfl,Nat.zero_le _,pZ,kH,Fm.tup mV,eG,PF,.nil,by rw[List.drop_zero];exact e2,rfl⟩;unfold Ev.alloc at e;split at e
   .cases e;obtain⟨SV,Ra,_⟩:=I6.loc;refine hpost Dd _ s6 Hc (rc++[Dd]) ?_ ⟨SV,Ra⟩ ?_ ⟨Dd,rfl,?_⟩ (sD.known oH ur AD) ((Em.trans uu).known ?_)
    .exact I3.tF (ch:=fp) (I6.os) I6.base I6.hok I6.bare λb hb=>⟨(qX b hb).2.2.2.1,(qX b hb).2.1,(qX b hb).2.2.2.2.1,(qX b hb).2.2.2.2.2⟩
    .exact I3.Cf (Nat.le_refl _) I6.free
    .rw[<-sD.len];simp
    .exact SS
   .cases e
  subst Kq;exact codeAny_compStart_list fin (Tn.self _ 0 _ _ _ (Tn.keep _ _ _ st2 λb hb o eo=>k4 b o (k3 b o eo)) fin)
 .cases e
end
end Sm
set_option maxRecDepth 100000
namespace Sm
open PySem PySem.Spec PyProof.Rows L2
open Ev (D O Hh Fr R aG E Es Eo T S Ss Fl Src bw bq TY BI ME)
section
variable{G:Tb}{n:Nat}{sc scope:Scope}{N N':List Str}{df:Bool}{m m':List Nat}{elt:E}{t:T}{it:Ev.It}{cond:Eo}{xe xi tg:Expr}{ifs:List Expr}{pos:Pos}
theorem Good.cells{X:Cx}{pins:List (Addr×Obj)}{σ:L2.St}{H:Hp}{s:Shared}(g:Good G n sc N df X)(I:Inv X pins σ H s)(hs:mT sc scope) :
  ∃cl,closureFor scope X.env=pure cl/\(∀x c,cl.lookup x=some c->X.env.cells.lookup x=some c)/\∀x,(x,NameKind.free)∈scope.names->∃c,cl.lookup x=some c:=
 GG λx hx=>I.ok.has x (by unfold Env.kindOf;rw[g.sc];exact(hs.free x hx).1)
theorem Ku{X:Cx}{pins:List (Addr×Obj)}{σ:L2.St}{H:Hp}{s:Shared}(I:Inv X pins σ H s){C:Addr}(fp:g9 X pins H C){h':Heap}(hs:Heap.SameBut C s.heap h'):Inv X pins σ H { s with heap:=h' }:=
 I.turned (t':=s.toks) (λb o hb e=>hs.extBut b o hb e) fp.1 fp.2.1 fp.2.2.2.1 fp.2.2.2.2.1 fp.2.2.2.2.2
theorem GI(hi:JI G n sc N df m it tg xi)(hg:JG G n (iz sc scope) N' false m' t tg)(hc:JC G n (iz sc scope) N' false m' cond ifs)(he:JE G n (iz sc scope) N' false m' elt xe)
  (hn:namesOk sc N m scope t N' m') (hs:mT sc scope) (hf:∀(env:Env) x,foldedSetIterable xi env x=pure x:=by intro _ _;rfl):JE G n sc N df m (.comp elt t it cond) (.ListComp xe [⟨tg,xi,ifs,0⟩] scope pos):=λX g pins s σ H Q I q=>by
 obtain⟨r,fr,h,d,h',sr,hr,e,q⟩:=q;obtain⟨cl,hcl,jf,mU⟩:=g.cells I hs;rw[eval_ListComp];refine wpAny_comprehension_free (use:=none) (Q:=EP X pins σ Q) rfl (hf _) hcl hs.kind hs.loc ?_;refine AF g hi hg hc he hn hs jf mU I sr hr e (λacc C=>compPost (model X.prog X.w) X.A X.xe none (EP X pins σ Q) acc C) (λDd C s' H' r' I' hC fp rv hr' SW=>?_) g.xe;obtain⟨mm,hC⟩:=hC;exact⟨mm,hC,λh'' SX=>⟨.ref Dd,H',Ku I' fp SX,rfl,q _ H' r' rv hr' SW⟩⟩
end
end Sm
set_option maxRecDepth 100000
namespace Sm
open PySem PySem.Spec PyProof.Rows L2 PySem.SeqAt
open Ev (D O Hh Fr R aG E Es Eo T S Ss Fl Src bw bq TY BI ME)
structure uv(A:Around)(s:Shared)(u w:Value)(k:Bool):Prop where
 eq:EqAt A s u w k
 rc:RcAt A s u w k
 ne:RcNeAt A s u w (!k)
theorem qY{f:D->D->Option Bool}:∀{x y:List D},x.length≠y.length->∀{k},Ev.cj f x y=some k->k=false
 |[],[],h,_,_=>absurd rfl h
 |[],_ :: _,_,_,e=>by cases e;rfl
 |_ :: _,[],_,_,e=>by cases e;rfl
 |a :: x,b :: y,h,k,e=>by
  simp only[Ev.cj,Option.bind_eq_bind,Option.bind_eq_some_iff]at e;obtain⟨p,_,q,e2,e3⟩:=e;have:=qY (x:=x) (y:=y) (by simpa using h) e2;subst this;cases e3;simp
theorem wW{f:D->D->Option Bool}:∀{x y:List D}{k},Ev.cj f x y=some k->x.length=y.length->∃e:Nat->Bool,(∀(j:Nat) a b,x[j]?=some a->y[j]?=some b->f a b=some (e j))/\(List.range x.length).all e=k
 |[],[],_,h,_=>⟨λ_=>true,(λj a b h1=>by simp at h1),by cases h;simp⟩
 |[],_ :: _,_,_,h=>by simp at h
 |_ :: _,[],_,_,h=>by simp at h
 |a :: x,b :: y,k,h,hl=>by
  simp only[Ev.cj,Option.bind_eq_bind,Option.bind_eq_some_iff]at h;obtain⟨p,e1,q,e2,e3⟩:=h;cases e3;obtain⟨e,h1,h2⟩:=wW e2 (by simpa using hl);refine⟨λj=>match j with|0=>p|j+1=>e j,λj a' b' g1 g2=>?_,?_⟩
  .cases j with
   |zero=>simp at g1 g2;subst g1 g2;exact e1
   |succ j=>exact h1 j a' b' (by simpa using g1) (by simpa using g2)
  .rw[List.length_cons,List.range_succ_eq_map,List.all_cons,List.all_map,<-h2];rfl
theorem wX{f:D->D->Option Bool}:∀{x y:List D}{k},Ev.cj f x y=some k->∃e:Nat->Bool,∀(j:Nat) a b,x[j]?=some a->y[j]?=some b->f a b=some (e j)
 |[],_,_,_=>⟨λ_=>true,λj a b h1=>by simp at h1⟩
 |_ :: _,[],_,_=>⟨λ_=>true,λj a b _ h1=>by simp at h1⟩
 |a :: x,b :: y,k,h=>by
  simp only[Ev.cj,Option.bind_eq_bind,Option.bind_eq_some_iff]at h;obtain⟨p,e1,q,e2,e3⟩:=h;obtain⟨e,h1⟩:=wX e2;refine⟨λj=>match j with|0=>p|j+1=>e j,λj a' b' g1 g2=>?_⟩;cases j with
  |zero=>simp at g1 g2;subst g1 g2;exact e1
  |succ j=>exact h1 j a' b' (by simpa using g1) (by simpa using g2)
section
variable{X:Cx}{pins:List (Addr×Obj)}{σ:L2.St}{H:Hp}{s:Shared}{r:List Addr}{h:Hh}
theorem nG(I:Inv X pins σ H s){a b:Addr}{vs ws:List V}(h1:yD X.K H a vs)(h2:H b=some (.lst ws)):a≠b:=by
 rintro rfl;rcases h1 with ⟨o,h1⟩|⟨o,_,_,h1,_⟩
 .rw[h2]at h1;cases h1
 .have:=(I.bs a o (I.ok.mod.cY a o h1)).2;rw[h2]at this;cases this
theorem sJ{x y:List D}{vs ws:List V}{us zs:List Value}{f:D->D->Option Bool}{A:Around}{k:Bool}(v1:aH X.K H r x vs)(v2:aH X.K H r y ws)(p1:Vals vs us)(p2:Vals ws zs)
  (ih:∀a b va vb u w k,RV X.K H r a va->RV X.K H r b vb->RelV va u->RelV vb w->f a b=some k->uv A s u w k) (hl:x.length=y.length) (e:Ev.cj f x y=some k) :
  ∃e':Nat->Bool,(∀j (h1:j<us.toArray.size) (h2:j<zs.toArray.size),EqAt A s us.toArray[j] zs.toArray[j] (e' j))/\(List.range us.toArray.size).all e'=k/\us.length=zs.length:=by
 obtain⟨e',h1,h2⟩:=wW e hl;have l1:=v1.length;have l2:=v2.length;have l3:=p1.length;have l4:=p2.length;refine⟨e',λj g1 g2=>?_,?_,by omega⟩
 .have SY:j<us.length:=by simpa using g1
  have S5:j<zs.length:=by simpa using g2
  have ha:x[j]?=some x[j]:=List.getElem?_eq_getElem (by omega);have hb:y[j]?=some y[j]:=List.getElem?_eq_getElem (by omega);obtain⟨va,a1,a2⟩:=v1.get ha;obtain⟨vb,b1,b2⟩:=v2.get hb;obtain⟨u,a3,a4⟩:=p1.get a1;obtain⟨w,b3,b4⟩:=p2.get b1;have eu:us.toArray[j]=u:=by
   have:=(List.getElem?_eq_some_iff.mp a3).2;simpa using this
  have ew:zs.toArray[j]=w:=by
   have:=(List.getElem?_eq_some_iff.mp b3).2;simpa using this
  rw[eu,ew];exact(ih _ _ _ _ _ _ _ a2 b2 a4 b4 (h1 j _ _ ha hb)).eq
 .rw[<-h2];have:us.toArray.size=x.length:=by simp;omega
  rw[this]
noncomputable def cF(K:PySem.W.Frag)(H:Hp)(r:List Addr):D->V->Prop
 |.aQ,v=>v=.aQ
 |.bl b,v=>v=.bl b
 |.int i,v=>v=.int i
 |.str l,v=>v=.str (bC l)
 |.ref n,v=>∃a,v=.ref a/\r[n]?=some a
 |.tup ds,v=>∃a vs,v=.ref a/\dD K H a vs/\aH K H r ds vs
theorem RV.shape{d:D}{v:V}(h:RV X.K H r d v):cF X.K H r d v:=by
 cases d<;>simp only[RV]at h<;>simp only[cF]<;>first|exact h|exact h.1
theorem GJ{a b:List Nat}:(bC a==bC b)=(a==b):=by
 by_cases e:a=b
 .subst e;simp
 .have e1:(bC a==bC b)=false:=beq_eq_false_iff_ne.mpr λz=>e (wJ z);have e2:(a==b)=false:=beq_eq_false_iff_ne.mpr e;rw[e1,e2]
theorem o8{n:Nat}{A:Around}{x y:List D}{a b:Addr}{vs ws:List V}{k:Bool}(I:Inv X pins σ H s)(hu:A.units<cLine)(q1:eX X.K H a vs)(q2:eX X.K H b ws)(v1:aH X.K H r x vs)(v2:aH X.K H r y ws)(hab:a≠b)
  (ih:∀a b va vb u w k,RV X.K H r a va->RV X.K H r b vb->RelV va u->RelV vb w->Ev.iH h n a b=some k->uv A.in1 s u w k) (e:Ev.cj (Ev.iH h n) x y=some k):uv A s (.ref a) (.ref b) k:=by
 obtain⟨us,p1,oJ,_⟩:=I.list q1;obtain⟨zs,p2,oK,_⟩:=I.list q2;by_cases hl:x.length=y.length
 .obtain⟨e',h1,h2,h3⟩:=sJ v1 v2 p1 p2 ih hl e;have hs:us.toArray.size=zs.toArray.size:=by simpa using h3
  have rc:=RcAt.lists oJ.isList oK.isList hs hu h1;have ne:=RcNeAt.lists oJ.isList oK.isList hs hu h1;rw[h2]at rc ne;exact⟨.of_refs hab rc,rc,ne⟩
 .have hk:=qY hl e;subst hk;have hs:(us.toArray.size != zs.toArray.size)=true:=by
   have l1:=v1.length;have l2:=v2.length;have l3:=p1.length;have l4:=p2.length;simp only[List.size_toArray,bne_iff_ne,ne_eq];omega
  exact⟨.of_refs hab (.lists_lengths oJ.isList oK.isList hs hu),.lists_lengths oJ.isList oK.isList hs hu,.lists_lengths oJ.isList oK.isList hs hu⟩
theorem AG(I:Inv X pins σ H s)(hr:HR X.K H r h){n:Nat}{a:Addr}{ds:List D}(e:Ev.bf h n=some ds)(ha:r[n]?=some a):∃us:List Value,PlainL s.heap a us.toArray:=by
 obtain⟨a',vs,e1,e2,e3⟩:=hr.read e;rw[ha]at e1;cases e1;obtain⟨us,_,pl,_⟩:=I.list e2;exact⟨us,pl⟩
theorem AH(I:Inv X pins σ H s)(hr:HR X.K H r h):∀(n:Nat) (a b:D) (v:V) (k:Bool),RV X.K H r a v->RV X.K H r b v->Ev.iH h n a b=some k->k=true:=by
 intro n;induction n with
 |zero=>intro a b v k _ _ e;cases e
 |succ n ih=>
  have items:∀(x y:List D) (vs:List V) (k:Bool),aH X.K H r x vs->aH X.K H r y vs->Ev.cj (Ev.iH h n) x y=some k->k=true:=by
   intro x;induction x with
   |nil=>
    intro y vs k h1 h2 e;simp only[aH]at h1;subst h1;cases y with
    |nil=>cases e;rfl
    |cons _ _=>simp only[aH]at h2;obtain⟨_,_,h2,_⟩:=h2;cases h2
   |cons d x S6=>
    intro y vs k h1 h2 e;simp only[aH]at h1;obtain⟨v,w,rfl,h3,h4⟩:=h1;cases y with
    |nil=>simp only[aH]at h2;cases h2
    |cons d' y=>
     simp only[aH]at h2;obtain⟨v',w',e2,h5,h6⟩:=h2;cases e2;simp only[Ev.cj,Option.bind_eq_bind,Option.bind_eq_some_iff]at e;obtain⟨p,e1,q,e2,e3⟩:=e;cases e3;rw[ih d d' v p h3 h5 e1,S6 y w q h4 h6 e2];rfl
  have lt:∀(a:Addr) (vs:List V) (i:Nat) (ds:List D),dD X.K H a vs->r[i]?=some a->Ev.bf h i=some ds->False:=λa vs i ds h1 h2 h3=>by
   obtain⟨us,pl⟩:=AG I hr h3 h2;obtain⟨zs,_,pt,_⟩:=I.tuple h1;exact ne_of_list_tuple pl.isList pt rfl
  intro a b v k h1 h2 e;have s1:=h1.shape;have s2:=h2.shape;clear h1 h2;cases a with
  |aQ=>simp only[cF]at s1;cases b with
   |aQ=>cases e;rfl
   |ref m=>obtain⟨p,z,_⟩:=s2;rw[s1]at z;cases z
   |tup y=>obtain⟨p,_,z,_⟩:=s2;rw[s1]at z;cases z
   |_=>simp only[cF]at s2;rw[s1]at s2;cases s2
  |bl x=>simp only[cF]at s1;cases b with
   |bl y=>simp only[cF]at s2;rw[s1]at s2;cases s2;cases e;simp
   |ref m=>obtain⟨p,z,_⟩:=s2;rw[s1]at z;cases z
   |tup y=>obtain⟨p,_,z,_⟩:=s2;rw[s1]at z;cases z
   |_=>simp only[cF]at s2;rw[s1]at s2;cases s2
  |int x=>simp only[cF]at s1;cases b with
   |int y=>simp only[cF]at s2;rw[s1]at s2;cases s2;cases e;simp
   |ref m=>obtain⟨p,z,_⟩:=s2;rw[s1]at z;cases z
   |tup y=>obtain⟨p,_,z,_⟩:=s2;rw[s1]at z;cases z
   |_=>simp only[cF]at s2;rw[s1]at s2;cases s2
  |str x=>simp only[cF]at s1;cases b with
   |str y=>
    simp only[cF]at s2;rw[s1]at s2;have:x=y:=wJ (by injection s2);subst this;cases e;simp
   |ref m=>obtain⟨p,z,_⟩:=s2;rw[s1]at z;cases z
   |tup y=>obtain⟨p,_,z,_⟩:=s2;rw[s1]at z;cases z
   |_=>simp only[cF]at s2;rw[s1]at s2;cases s2
  |tup x=>
   obtain⟨p,vs,rfl,z,w⟩:=s1;cases b with
   |tup y=>
    obtain⟨p',vs',z',z2,w2⟩:=s2;cases z';rw[I.mE z2 z]at w2;exact items x y vs k w w2 e
   |ref m=>
    obtain⟨p',z',z2⟩:=s2;cases z';obtain⟨ds,e1,_⟩:=Option.map_eq_some_iff.mp e;exact(lt _ _ _ _ z z2 e1).elim
   |_=>cases s2
  |ref i=>
   obtain⟨p,rfl,z⟩:=s1;cases b with
   |ref m=>
    obtain⟨p',z',z2⟩:=s2;cases z';replace e:Ev.jJ h (Ev.iH h n) i m=some k:=e;unfold Ev.jJ at e;split at e
    .simp only[Option.map_eq_some_iff]at e;obtain⟨_,_,e⟩:=e;exact e.symm
    .rename_i hne;split at e
     .rename_i x y g1 g2;exact absurd (hr.inj _ _ _ _ _ z z2 g1 g2) hne
     .rename_i x y g1 g2;obtain⟨p1,q1,Ep,q2,_⟩:=hr.ob _ _ g1;obtain⟨p2,q3,Er,q4,_⟩:=hr.ob _ _ g2;rw[z]at q1;cases q1;rw[z2]at q3;cases q3;exact absurd rfl (nG I q2 q4)
     .rename_i x y g1 g2;obtain⟨p1,q1,Ep,q2,_⟩:=hr.ob _ _ g1;obtain⟨p2,q3,Er,q4,_⟩:=hr.ob _ _ g2;rw[z]at q1;cases q1;rw[z2]at q3;cases q3;exact absurd rfl (nG I q4 q2)
     .cases e
   |tup y=>
    obtain⟨p',vs',z',z2,w2⟩:=s2;cases z';obtain⟨ds,e1,_⟩:=Option.map_eq_some_iff.mp e;exact(lt _ _ _ _ z2 z e1).elim
   |_=>cases s2
theorem GK{n:Nat}{A:Around}{x y:List D}{a b:Addr}{vs ws:List V}{k:Bool}(I:Inv X pins σ H s)(hr:HR X.K H r h)(hu:A.units<cLine)(q1:dD X.K H a vs)(q2:dD X.K H b ws)(v1:aH X.K H r x vs)(v2:aH X.K H r y ws)
  (ih:∀a b va vb u w k,RV X.K H r a va->RV X.K H r b vb->RelV va u->RelV vb w->Ev.iH h n a b=some k->uv A.in1 s u w k) (e:Ev.cj (Ev.iH h n) x y=some k):uv A s (.ref a) (.ref b) k:=by
 obtain⟨us,p1,oJ,_⟩:=I.tuple q1;obtain⟨zs,p2,oK,_⟩:=I.tuple q2;have l1:=v1.length;have l2:=v2.length;have l3:=p1.length;have l4:=p2.length;have both:RcAt A s (.ref a) (.ref b) k/\RcNeAt A s (.ref a) (.ref b) (!k):=by
  by_cases hl:x.length=y.length
  .obtain⟨e',h1,h2,h3⟩:=sJ v1 v2 p1 p2 ih hl e;have rc:=RcAt.tuples oJ oK hu h1;have ne:=RcNeAt.tuples oJ oK hu h1;have hs:us.toArray.size=zs.toArray.size:=by simpa using h3
   have hb:((List.range (min us.toArray.size zs.toArray.size)).all e'&&us.toArray.size==zs.toArray.size)=k:=by
    rw[<-hs,Nat.min_self,h2];simp
   rw[hb]at rc ne;exact⟨rc,ne⟩
  .have hk:=qY hl e;subst hk;have hcl:∃e':Nat->Bool,∀j (h1:j<us.toArray.size) (h2:j<zs.toArray.size),EqAt A.in1 s us.toArray[j] zs.toArray[j] (e' j):=by
    obtain⟨e',h1⟩:=wX e;refine⟨e',λj g1 g2=>?_⟩;have SY:j<us.length:=by simpa using g1
    have S5:j<zs.length:=by simpa using g2
    have ha:x[j]?=some x[j]:=List.getElem?_eq_getElem (by omega);have hb:y[j]?=some y[j]:=List.getElem?_eq_getElem (by omega);obtain⟨va,a1,a2⟩:=v1.get ha;obtain⟨vb,b1,b2⟩:=v2.get hb;obtain⟨u,a3,a4⟩:=p1.get a1;obtain⟨w,b3,b4⟩:=p2.get b1;have eu:us.toArray[j]=u:=by
     have:=(List.getElem?_eq_some_iff.mp a3).2;simpa using this
    have ew:zs.toArray[j]=w:=by
     have:=(List.getElem?_eq_some_iff.mp b3).2;simpa using this
    rw[eu,ew];exact(ih _ _ _ _ _ _ _ a2 b2 a4 b4 (h1 j _ _ ha hb)).eq
   obtain⟨e',h1⟩:=hcl;have rc:=RcAt.tuples oJ oK hu h1;have ne:=RcNeAt.tuples oJ oK hu h1;have hs:(us.toArray.size==zs.toArray.size)=false:=by
    simp only[List.size_toArray,beq_eq_false_iff_ne,ne_eq];omega
   rw[hs,Bool.and_false]at rc ne;exact⟨rc,ne⟩
 by_cases hab:a=b
 .subst hab;rw[I.mE q2 q1]at v2;have hk:k=true:=AH I hr (n+1) (.tup x) (.tup y) (.ref a) k ⟨a,vs,rfl,q1,v1⟩ ⟨a,vs,rfl,q1,v2⟩ e;subst hk;exact⟨.same _,both.1,both.2⟩
 .exact⟨.of_refs hab both.1,both.1,both.2⟩
end
end Sm
set_option maxRecDepth 100000
namespace Sm
open PySem PySem.Spec PyProof.Rows L2 PySem.SeqAt
open Ev (D O Hh Fr R aG E Es Eo T S Ss Fl Src bw bq TY BI ME)
section
variable{X:Cx}{pins:List (Addr×Obj)}{σ:L2.St}{H:Hp}{s:Shared}{r:List Addr}{h:Hh}
theorem Et(I:Inv X pins σ H s)(hr:HR X.K H r h):∀(n:Nat) (A:Around) (a b:D) (va vb:V) (u w:Value) (k:Bool),A.units+n<cLine->RV X.K H r a va->RV X.K H r b vb->RelV va u->RelV vb w->Ev.iH h n a b=some k->uv A s u w k:=by
 intro n;induction n with
 |zero=>intro A a b va vb u w k _ _ _ _ _ e;cases e
 |succ n ih=>
  intro A a b va vb u w k hu h1 h2 r1 r2 e;have bN:A.units<cLine:=by omega
  have ih':∀a b va vb u w k,RV X.K H r a va->RV X.K H r b vb->RelV va u->RelV vb w->Ev.iH h n a b=some k->uv A.in1 s u w k:=λa b va vb u w k=>ih A.in1 a b va vb u w k (by show A.units+1+n<cLine;omega);have s1:=h1.shape;have s2:=h2.shape;have lst:∀{i:Nat} {v:V} {u:Value} {ds:List D},cF X.K H r (.ref i) v->RelV v u->Ev.bf h i=some ds->∃p us,u=.ref p/\PlainL s.heap p (List.toArray us):=λ{i v u ds} hv ru el=>by
   obtain⟨p,rfl,z⟩:=hv;cases ru;obtain⟨us,pl⟩:=AG I hr el z;exact⟨p,us,rfl,pl⟩
  have tup:∀{ds:List D} {v:V} {u:Value},cF X.K H r (.tup ds) v->RelV v u->∃p us,u=.ref p/\s.heap.IsTuple p (List.toArray us):=λ{ds v u} hv ru=>by
   obtain⟨p,vs,rfl,z,_⟩:=hv;cases ru;obtain⟨us,_,pt,_⟩:=I.tuple z;exact⟨p,us,rfl,pt⟩
  cases a with
  |aQ=>
   simp only[cF]at s1;subst s1;cases r1;cases b with
   |aQ=>simp only[cF]at s2;subst s2;cases r2;cases e;exact⟨.same _,.none_none,.none_none⟩
   |bl y=>simp only[cF]at s2;subst s2;cases r2;cases e;exact⟨.none_bool _,.none_bool _,.none_bool _⟩
   |int y=>simp only[cF]at s2;subst s2;obtain⟨t,rfl⟩:=r2;cases e;exact⟨.none_int _ _,.none_int _ _,.none_int _ _⟩
   |str y=>simp only[cF]at s2;subst s2;obtain⟨t,rfl⟩:=r2;cases e;exact⟨.none_str _ _,.none_str _ _,.none_str _ _⟩
   |tup y=>obtain⟨p,us,rfl,pt⟩:=tup s2 r2;cases e;exact⟨.none_tuple pt bN,.none_tuple pt bN,.none_tuple pt bN⟩
   |ref m=>
    obtain⟨ds,e1,rfl⟩:=Option.map_eq_some_iff.mp e;obtain⟨p,us,rfl,pl⟩:=lst s2 r2 e1;exact⟨.none_list pl.isList bN,.none_list pl.isList bN,.none_list pl.isList bN⟩
  |bl x=>
   simp only[cF]at s1;subst s1;cases r1;cases b with
   |aQ=>simp only[cF]at s2;subst s2;cases r2;cases e;exact⟨.bool_none _,.bool_none _,.bool_none _⟩
   |bl y=>simp only[cF]at s2;subst s2;cases r2;cases e;exact⟨.bool_bool _ _,.bool_bool _ _,.bool_bool _ _⟩
   |int y=>simp only[cF]at s2;subst s2;obtain⟨t,rfl⟩:=r2;cases e;exact⟨.bool_int _ _ _,.bool_int _ _ _,.bool_int _ _ _⟩
   |str y=>simp only[cF]at s2;subst s2;obtain⟨t,rfl⟩:=r2;cases e;exact⟨.bool_str _ _ _,.bool_str _ _ _,.bool_str _ _ _⟩
   |tup y=>obtain⟨p,us,rfl,pt⟩:=tup s2 r2;cases e;exact⟨.bool_tuple _ pt bN,.bool_tuple _ pt bN,.bool_tuple _ pt bN⟩
   |ref m=>
    obtain⟨ds,e1,rfl⟩:=Option.map_eq_some_iff.mp e;obtain⟨p,us,rfl,pl⟩:=lst s2 r2 e1;exact⟨.bool_list _ pl.isList bN,.bool_list _ pl.isList bN,.bool_list _ pl.isList bN⟩
  |int x=>
   simp only[cF]at s1;subst s1;obtain⟨t0,rfl⟩:=r1;cases b with
   |aQ=>simp only[cF]at s2;subst s2;cases r2;cases e;exact⟨.int_none _ _,.int_none _ _,.int_none _ _⟩
   |bl y=>simp only[cF]at s2;subst s2;cases r2;cases e;exact⟨.int_bool _ _ _,.int_bool _ _ _,.int_bool _ _ _⟩
   |int y=>simp only[cF]at s2;subst s2;obtain⟨t,rfl⟩:=r2;cases e;exact⟨.int_int _ _ _ _,.int_int _ _ _ _,.int_int _ _ _ _⟩
   |str y=>simp only[cF]at s2;subst s2;obtain⟨t,rfl⟩:=r2;cases e;exact⟨.int_str _ _ _ _,.int_str _ _ _ _,.int_str _ _ _ _⟩
   |tup y=>obtain⟨p,us,rfl,pt⟩:=tup s2 r2;cases e;exact⟨.int_tuple _ _ pt bN,.int_tuple _ _ pt bN,.int_tuple _ _ pt bN⟩
   |ref m=>
    obtain⟨ds,e1,rfl⟩:=Option.map_eq_some_iff.mp e;obtain⟨p,us,rfl,pl⟩:=lst s2 r2 e1;exact⟨.int_list _ _ pl.isList bN,.int_list _ _ pl.isList bN,.int_list _ _ pl.isList bN⟩
  |str x=>
   simp only[cF]at s1;subst s1;obtain⟨t0,rfl⟩:=r1;cases b with
   |aQ=>simp only[cF]at s2;subst s2;cases r2;cases e;exact⟨.str_none _ _,.str_none _ _,.str_none _ _⟩
   |bl y=>simp only[cF]at s2;subst s2;cases r2;cases e;exact⟨.str_bool _ _ _,.str_bool _ _ _,.str_bool _ _ _⟩
   |int y=>simp only[cF]at s2;subst s2;obtain⟨t,rfl⟩:=r2;cases e;exact⟨.str_int _ _ _ _,.str_int _ _ _ _,.str_int _ _ _ _⟩
   |str y=>
    simp only[cF]at s2;subst s2;obtain⟨t,rfl⟩:=r2;cases e;rw[<-GJ];exact⟨.str_str _ _ _ _,.str_str _ _ _ _,.str_str _ _ _ _⟩
   |tup y=>obtain⟨p,us,rfl,pt⟩:=tup s2 r2;cases e;exact⟨.str_tuple _ _ pt bN,.str_tuple _ _ pt bN,.str_tuple _ _ pt bN⟩
   |ref m=>
    obtain⟨ds,e1,rfl⟩:=Option.map_eq_some_iff.mp e;obtain⟨p,us,rfl,pl⟩:=lst s2 r2 e1;exact⟨.str_list _ _ pl.isList bN,.str_list _ _ pl.isList bN,.str_list _ _ pl.isList bN⟩
  |tup x=>
   cases b with
   |tup y=>
    obtain⟨p,vs,rfl,z,w1⟩:=s1;obtain⟨p',vs',rfl,z',w2⟩:=s2;cases r1;cases r2;exact GK I hr bN z z' w1 w2 ih' e
   |aQ=>obtain⟨p,us,rfl,pt⟩:=tup s1 r1;simp only[cF]at s2;subst s2;cases r2;cases e;exact⟨.tuple_none pt bN,.tuple_none pt bN,.tuple_none pt bN⟩
   |bl y=>obtain⟨p,us,rfl,pt⟩:=tup s1 r1;simp only[cF]at s2;subst s2;cases r2;cases e;exact⟨.tuple_bool _ pt bN,.tuple_bool _ pt bN,.tuple_bool _ pt bN⟩
   |int y=>obtain⟨p,us,rfl,pt⟩:=tup s1 r1;simp only[cF]at s2;subst s2;obtain⟨t,rfl⟩:=r2;cases e;exact⟨.tuple_int _ _ pt bN,.tuple_int _ _ pt bN,.tuple_int _ _ pt bN⟩
   |str y=>obtain⟨p,us,rfl,pt⟩:=tup s1 r1;simp only[cF]at s2;subst s2;obtain⟨t,rfl⟩:=r2;cases e;exact⟨.tuple_str _ _ pt bN,.tuple_str _ _ pt bN,.tuple_str _ _ pt bN⟩
   |ref m=>
    obtain⟨p,us,rfl,pt⟩:=tup s1 r1;obtain⟨ds,e1,rfl⟩:=Option.map_eq_some_iff.mp e;obtain⟨p',us',rfl,pl⟩:=lst s2 r2 e1;exact⟨.tuple_list pt pl.isList bN,.tuple_list pt pl.isList bN,.tuple_list pt pl.isList bN⟩
  |ref i=>
   cases b with
   |ref m=>
    replace e:Ev.jJ h (Ev.iH h n) i m=some k:=e;unfold Ev.jJ at e;split at e
    .rename_i S7;subst S7;simp only[Option.map_eq_some_iff]at e;obtain⟨ds,e1,rfl⟩:=e;obtain⟨p,us,rfl,pl⟩:=lst s1 r1 e1;obtain⟨p0,rfl,z⟩:=s1;obtain⟨p1,rfl,z'⟩:=s2;rw[z]at z';cases z';cases r1;cases r2;have q:(List.range (List.toArray us).size).all (λ_=>true)=true:=by simp
     have rc:=RcAt.lists (A:=A) (e:=λ_=>true) pl.isList pl.isList rfl bN λj _ _=>EqAt.same _;have ne:=RcNeAt.lists (A:=A) (e:=λ_=>true) pl.isList pl.isList rfl bN λj _ _=>EqAt.same _;rw[q]at rc ne;exact⟨.same _,rc,ne⟩
    .rename_i hne;obtain⟨p0,rfl,z⟩:=s1;obtain⟨p1,rfl,z'⟩:=s2;cases r1;cases r2;split at e
     .rename_i x y g1 g2;obtain⟨q0,q1,Ep,q2,q3⟩:=hr.ob _ _ g1;obtain⟨q4,q5,Er,q6,q7⟩:=hr.ob _ _ g2;rw[z]at q1;cases q1;rw[z']at q5;cases q5;exact o8 I bN (.of q2) (.of q6) q3 q7 (λw=>hne (hr.inj _ _ _ _ _ z (by rw[w];exact z') g1 g2)) ih' e
     .rename_i x y g1 g2;obtain⟨q0,q1,Ep,q2,q3⟩:=hr.ob _ _ g1;obtain⟨q4,q5,Er,q6,q7⟩:=hr.ob _ _ g2;rw[z]at q1;cases q1;rw[z']at q5;cases q5;exact o8 I bN (Eu q2) (.of q6) q3 q7 (nG I q2 q6) ih' e
     .rename_i x y g1 g2;obtain⟨q0,q1,Ep,q2,q3⟩:=hr.ob _ _ g1;obtain⟨q4,q5,Er,q6,q7⟩:=hr.ob _ _ g2;rw[z]at q1;cases q1;rw[z']at q5;cases q5;exact o8 I bN (.of q2) (Eu q6) q3 q7 (nG I q6 q2).symm ih' e
     .cases e
   |aQ=>obtain⟨ds,e1,rfl⟩:=Option.map_eq_some_iff.mp e;obtain⟨p,us,rfl,pl⟩:=lst s1 r1 e1;simp only[cF]at s2;subst s2;cases r2;exact⟨.list_none pl.isList bN,.list_none pl.isList bN,.list_none pl.isList bN⟩
   |bl y=>obtain⟨ds,e1,rfl⟩:=Option.map_eq_some_iff.mp e;obtain⟨p,us,rfl,pl⟩:=lst s1 r1 e1;simp only[cF]at s2;subst s2;cases r2;exact⟨.list_bool _ pl.isList bN,.list_bool _ pl.isList bN,.list_bool _ pl.isList bN⟩
   |int y=>obtain⟨ds,e1,rfl⟩:=Option.map_eq_some_iff.mp e;obtain⟨p,us,rfl,pl⟩:=lst s1 r1 e1;simp only[cF]at s2;subst s2;obtain⟨t,rfl⟩:=r2;exact⟨.list_int _ _ pl.isList bN,.list_int _ _ pl.isList bN,.list_int _ _ pl.isList bN⟩
   |str y=>obtain⟨ds,e1,rfl⟩:=Option.map_eq_some_iff.mp e;obtain⟨p,us,rfl,pl⟩:=lst s1 r1 e1;simp only[cF]at s2;subst s2;obtain⟨t,rfl⟩:=r2;exact⟨.list_str _ _ pl.isList bN,.list_str _ _ pl.isList bN,.list_str _ _ pl.isList bN⟩
   |tup y=>
    obtain⟨ds,e1,rfl⟩:=Option.map_eq_some_iff.mp e;obtain⟨p,us,rfl,pl⟩:=lst s1 r1 e1;obtain⟨p',us',rfl,pt⟩:=tup s2 r2;exact⟨.list_tuple pl.isList pt bN,.list_tuple pl.isList pt bN,.list_tuple pl.isList pt bN⟩
where
 Eu {K:PySem.W.Frag} {H:Hp} {a:Addr} {vs:List V} (q:yD K H a vs):eX K H a vs:=by
  rcases q with ⟨ob,e2⟩|e2
  .exact .inl (.inr ⟨ob,e2⟩)
  .exact .inr e2
end
theorem Good.units{G:Tb}{n:Nat}{sc:Scope}{N:List Str}{df:Bool}{X:Cx}(g:Good G n sc N df X):X.A.units+1+Ev.deep<cLine:=by
 have:=g.room.un;have:Ev.deep=20:=rfl;omega
section
variable{G:Tb}{n:Nat}{sc:Scope}{N:List Str}{df:Bool}{X:Cx}
theorem wY{pins:List (Addr×Obj)}{σ:L2.St}{H:Hp}{s:Shared}{Q:VK}{r:List Addr}{h:Hh}{k:Bool}(I:Inv X pins σ H s)(hr:HR X.K H r h)(q:Res X.K r H h (.bl k) Q):EP X pins σ Q (.bool k) s:=
 ⟨.bl k,H,I,rfl,q.here rfl hr⟩
theorem Ew(g:Good G n sc N df X):dQ X (compareOp .Eq) (iX X.K (iJ .eq)):=by
 intro pins s σ H x y v u Q I rx ry q;obtain⟨r,h,a,b,d,h',hr,v1,v2,e,q⟩:=q;obtain⟨k,e1,rfl,rfl⟩:=nE e;have:=g.units;exact(Et I hr Ev.deep X.A a b x y v u k (by omega) v1 v2 rx ry e1).rc _ _ _ _ (wY I hr q)
theorem NV(g:Good G n sc N df X):dQ X (compareOp .NotEq) (iX X.K (iJ .ne)):=by
 intro pins s σ H x y v u Q I rx ry q;obtain⟨r,h,a,b,d,h',hr,v1,v2,e,q⟩:=q;obtain⟨k,e1,rfl,rfl⟩:=nE e;have:=g.units
 delta Ev.cop at e1;dsimp only at e1;simp only[Option.map_eq_some_iff]at e1
 obtain⟨k',e2,rfl⟩:=e1;exact(Et I hr Ev.deep X.A a b x y v u k' (by omega) v1 v2 rx ry e2).ne _ _ _ _ (wY I hr q)
theorem AI{op:CmpOp}{o:bq}{p:Int->Int->Bool}(ho:dQ X (compareOp op) (tY λi j=>.bl (p i j)))(hc:∀a b h k,Ev.cop o a b h=some k->∃i j,a=.int i/\b=.int j/\k=p i j):dQ X (compareOp op) (iX X.K (iJ o)):=by
 intro pins s σ H x y v u Q I rx ry q;obtain⟨r,h,a,b,d,h',hr,v1,v2,e,q⟩:=q;obtain⟨k,e1,rfl,rfl⟩:=nE e;obtain⟨i,j,rfl,rfl,rfl⟩:=hc _ _ _ _ e1;exact ho pins s σ H x y v u Q I rx ry ⟨i,j,v1,v2,q.here rfl hr⟩
theorem NW:dQ X (compareOp .Lt) (iX X.K (iJ .lt)):=AI NB λa b h k e=>by
 cases a<;>cases b <;> (delta Ev.cop at e;dsimp only at e)<;>first | (cases e;exact⟨_,_,rfl,rfl,rfl⟩)|cases e
theorem Ey:dQ X (compareOp .Gt) (iX X.K (iJ .gt)):=AI NC λa b h k e=>by
 cases a<;>cases b <;> (delta Ev.cop at e;dsimp only at e)<;>first | (cases e;exact⟨_,_,rfl,rfl,rfl⟩)|cases e
end
end Sm
set_option maxRecDepth 100000
namespace Sm
open PySem PySem.Spec PyProof.Rows L2 PySem.SeqAt
open Ev (D O Hh Fr R aG E Es Eo T S Ss Fl Src bw bq TY BI ME)
section
variable{X:Cx}{pins:List (Addr×Obj)}{σ:L2.St}{H:Hp}{s:Shared}{r:List Addr}{h:Hh}
end
section
variable{G:Tb}{n:Nat}{sc:Scope}{N:List Str}{df:Bool}{X:Cx}
theorem qZ(a b:List Nat):bC a++bC b=bC (a++b):=by
 show Str.append (bC a) (bC b)=_;simp[Str.append,bC]
theorem GL{pins:List (Addr×Obj)}{σ:L2.St}{H:Hp}{s:Shared}{Q:Value->Shared->Prop}{E:Value->Shared->Prop}(I:Inv X pins σ H s){a b:Addr}{ys:List V}(h1:dD X.K H a [])(h2:dD X.K H b ys)(q:Q (.ref b) s):wpAny (model X.prog X.w) X.A (binaryOp .Add (.ref a) (.ref b)) Q E s:=by
 obtain⟨us,p1,S8,_⟩:=I.tuple h1;obtain⟨zs,p2,S9,_⟩:=I.tuple h2;cases p1;obtain⟨⟨cls,dd,data,sl⟩,ho,hc,n,hd⟩:=id S8;obtain⟨⟨QM,dd2,data2,sl2⟩,ho2,hc2,n2,hd2⟩:=id S9;simp only at hc hd hc2 hd2;subst hc hd hc2 hd2;exact concat_meets ⟨_,ho,rfl⟩ ⟨_,ho2,rfl⟩ noFill_tuple_add seq_tuple_add PySem.F.slot_tuple_add PySem.F.entry_tuple_add (PySem.F.args_tuple_add_2 _ _)
  (tuple_addW0 a b _ _ n n2 dd dd2 sl sl2 (by simp)) ⟨ho,ho2,q⟩
theorem Kv:dQ X (binaryOp .Add) (iX X.K (Ev.bQ .add)):=by
 intro pins s σ H x y v u Q I rx ry q;obtain⟨r,h,a,b,d,h',hr,v1,v2,e,q⟩:=q;have s1:=v1.shape;have s2:=v2.shape;cases a with
 |int i=>cases b with
  |int j=>cases e;exact Jf pins s σ H x y v u Q I rx ry ⟨i,j,s1,s2,q.here rfl hr⟩
  |_=>cases e
 |str i=>cases b with
  |str j=>
   delta Ev.bQ at e;dsimp only at e
   split at e
   .rename_i hz;cases e;rw[jK]at hz;refine yt pins s σ H x y v u Q I rx ry ⟨bC i,bC j,s1,s2,by rw[cL,cL];exact hz,?_⟩;rw[qZ];exact q.here ⟨rfl,by rw[List.length_append];exact hz⟩ hr
   .cases e
  |_=>cases e
 |tup i=>cases b with
  |tup j=>
   delta Ev.bQ at e;dsimp only at e
   split at e
   .rename_i hz;cases e;rw[jK]at hz;obtain⟨pa,vs,rfl,z1,w1⟩:=s1;obtain⟨pb,ws,rfl,z2,w2⟩:=s2;have l1:=w1.length;have l2:=w2.length;cases vs with
    |nil=>
     cases rx;cases ry;refine GL I z1 z2 ⟨.ref pb,H,I,rfl,q.here ?_ hr⟩;have:i=[]:=by cases i with|nil=>rfl|cons _ _=>simp at l1
     subst this;exact⟨pb,ws,rfl,z2,by simpa using w2⟩
    |cons v0 vs=>
     refine Gp pins s σ H _ _ v u Q I rx ry ⟨pa,pb,v0 :: vs,ws,rfl,rfl,z1,z2,by simp,by rw[l1,l2];exact hz,λhw=>?_,λhw p hp=>?_⟩
     .subst hw;have:j=[]:=by cases j with|nil=>rfl|cons _ _=>simp at l2
      subst this;exact q.here ⟨pa,v0 :: vs,rfl,z1,by simpa using w1⟩ hr
     .exact q.tup (w1.append w2) hr hp
   .cases e
  |_=>cases e
 |ref i=>cases b with
  |ref j=>
   delta Ev.bQ at e;dsimp only at e
   split at e
   .rename_i ds es e1 e2;obtain⟨pa,rfl,z1⟩:=s1;obtain⟨pb,rfl,z2⟩:=s2;cases rx;cases ry;obtain⟨p1,g1,vs,g2,g3⟩:=hr.ob _ _ e1;obtain⟨p2,k1,ws,k2,k3⟩:=hr.ob _ _ e2;rw[z1]at g1;cases g1;rw[z2]at k1;cases k1;obtain⟨hz,q2⟩:=q.lst e (g3.append k3) hr;exact Jx pins s σ H (.ref pa) (.ref pb) _ _ Q I rfl rfl ⟨_,_,vs,ws,rfl,rfl,g2,k2,by rw[List.length_append]at hz;exact hz,q2⟩
   .cases e
  |_=>cases e
 |_=>cases b<;>cases e
theorem Kw:dQ X (binaryOp .Sub) (iX X.K (Ev.bQ .sub)):=by
 intro pins s σ H x y v u Q I rx ry q;obtain⟨r,h,a,b,d,h',hr,v1,v2,e,q⟩:=q;cases a with
 |int i=>cases b with
  |int j=>cases e;exact Jg pins s σ H x y v u Q I rx ry ⟨i,j,v1,v2,q.here rfl hr⟩
  |_=>cases e
 |_=>cases b<;>cases e
theorem GN:dQ X (binaryOp .FloorDiv) (iX X.K (Ev.bQ .fdiv)):=by
 intro pins s σ H x y v u Q I rx ry q;obtain⟨r,h,a,b,d,h',hr,v1,v2,e,q⟩:=q;cases a with
 |int i=>cases b with
  |int j=>
   delta Ev.bQ at e;dsimp only at e
   split at e
   .rename_i hz;cases e;exact Ge pins s σ H x y v u Q I rx ry ⟨i,j,v1,v2,hz,q.here rfl hr⟩
   .cases e
  |_=>cases e
 |_=>cases b<;>cases e
theorem Ky:dQ X (binaryOp .Mod) (iX X.K (Ev.bQ .mod)):=by
 intro pins s σ H x y v u Q I rx ry q;obtain⟨r,h,a,b,d,h',hr,v1,v2,e,q⟩:=q;cases a with
 |int i=>cases b with
  |int j=>
   delta Ev.bQ at e;dsimp only at e
   split at e
   .rename_i hz;cases e;exact Ji pins s σ H x y v u Q I rx ry ⟨i,j,v1,v2,hz,q.here rfl hr⟩
   .cases e
  |_=>cases e
 |_=>cases b<;>cases e
end
end Sm
set_option maxRecDepth 100000
namespace Sm
open PySem PySem.Spec PyProof.Rows L2 PySem.SeqAt
open Ev (D O Hh Fr R aG E Es Eo T S Ss Fl Src bw bq TY BI ME)
section
variable{X:Cx}
theorem Kz(n:Nat)(i:Int):Ev.dM n i=L2.dM n i:=rfl
theorem KA{α:Type}(xs:List α)(i:Int):Ev.bB xs i=L2.bB xs i:=rfl
theorem aH.bB{K:PySem.W.Frag}{H:Hp}{r:List Addr}{ds:List D}{vs:List V}{i:Int}{d:D}(w:aH K H r ds vs)(e:Ev.bB ds i=some d):∃v,L2.bB vs i=some v/\RV K H r d v:=by
 unfold Ev.bB at e;obtain⟨j,e1,e2⟩:=Option.bind_eq_some_iff.mp e;obtain⟨v,e3,e4⟩:=w.get e2;exact⟨v,by unfold L2.bB;rw[w.length,<-Kz,e1];exact e3,e4⟩
theorem NX:wF X (iX X.K J1):=by
 intro value slice pins s σ H x y v u Q I rx ry q hs;obtain⟨r,h,a,b,d,h',hr,v1,v2,e,q⟩:=q;obtain⟨e,rfl⟩:=Ev.aN e;cases b with
 |int i=>
  have s2:=v2.shape;cases a with
  |tup ds=>
   obtain⟨p,vs,rfl,z,w⟩:=v1.shape;obtain⟨v',g1,g2⟩:=w.bB e;exact Js value slice pins s σ H _ y v u Q I rx ry ⟨p,vs,i,v',rfl,s2,z,g1,q.here g2 hr⟩ hs
  |str l=>
   simp only[RV]at v1;obtain⟨rfl,hl⟩:=v1;simp only[Ev.eY,Option.map_eq_some_iff]at e;obtain⟨c,e1,rfl⟩:=e;exact Jt value slice pins s σ H _ y v u Q I rx ry ⟨bC l,i,c,rfl,s2,by rw[cL];exact hl,by simpa[bC,KA]using e1,q.here ⟨rfl,by show 1<=sizeLine;decide⟩ hr⟩ hs
  |ref m=>
   simp only[Ev.eY,Option.bind_eq_some_iff]at e;obtain⟨ds,e1,e2⟩:=e;obtain⟨p,rfl,z⟩:=v1.shape;obtain⟨p',vs,z',q1,w⟩:=hr.read e1;rw[z]at z';cases z';obtain⟨v',g1,g2⟩:=w.bB e2;exact Gr value slice pins s σ H _ y v u Q I rx ry ⟨p,vs,i,v',rfl,s2,q1,g1,q.here g2 hr⟩ hs
  |_=>cases e
 |_=>cases a<;>cases e
theorem aH.cut{K:PySem.W.Frag}{H:Hp}{r:List Addr}{ds:List D}{vs:List V}(w:aH K H r ds vs)(lo hi:Option Int):aH K H r (Ev.cut ds lo hi) (mH vs lo hi):=by
 unfold Ev.cut mH;rw[w.length];exact(w.drop _).take _
theorem sL{α:Type}(xs:List α)(lo hi:Option Int)(h:Ev.aO xs.length 0 lo=0/\Ev.aO xs.length xs.length hi=xs.length):Ev.cut xs lo hi=xs:=by
 unfold Ev.cut;rw[h.1,h.2];simp
theorem GO{α:Type}(xs:List α)(lo hi:Option Int):(Ev.cut xs lo hi).length<=xs.length:=by
 unfold Ev.cut;rw[List.length_take,List.length_drop];omega
theorem tw{prog:Program}{w:World}{A:Around}{E:Value->Shared->Prop}{s:Shared}{t sl:Addr}{items:Array Value}{vl vu:Value}{lo hi:Option Int}{Q:Value->Shared->Prop}(ht:IsTup s.heap t items)(hs:s.heap.IsSliceOf sl vl vu .none)(pl:IsPart vl lo)(pu:IsPart vu hi)
  (hw:HT.aO items.size 0 lo=0/\HT.aO items.size items.size hi=items.size) (h:Q (.ref t) s):wpAny (model prog w) A (getItem (.ref t) (.ref sl)) Q E s:=by
 obtain⟨os,hos,hcs,hds⟩:=id hs;have Jq:s.TypeIs (.ref sl) "slice" :=⟨os,hos,hcs⟩
 unfold getItem;try with_reducible refine wpAny_holding ?_
 first|refine wpAny_bind (wpAny_pure ?_)|skip
 refine wpAny_bind (wpAny_sequenceKey ht.typeIs (by decide) ?_);refine wpAny_bind (wpAny_callSpecial?_slot (name:=Str.ofString "__getitem__") ht.typeIs PyProof.Rows.slot_tuple_getitem
  (wpAny_call_entry PyProof.Rows.slot_tuple_getitem ht.typeIs entry_tuple_getitem ?_ (args_tuple_getitem _ _)))
 show wpAny _ _ (Builtin.Tuple.tupleItemsOf (.ref t) >>= _) _ _ s;refine wpAny_bind (tupleItemsOf_ ht ?_);refine wpAny_bind (wpAny_typeOf Jq ?_);rw[if_pos (by decide)];refine wpAny_bind (HT.jI hs pl pu ?_);have hyes:(((HT.aO items.size 0 lo:Nat):Int)==0&&(1:Int)==1&&(HT.aO items.size items.size hi - HT.aO items.size 0 lo)==items.size)=true:=by
  rw[hw.1,hw.2];simp
 show wpAny _ _ (if (((HT.aO items.size 0 lo:Nat):Int)==0&&(1:Int)==1&&(HT.aO items.size items.size hi - HT.aO items.size 0 lo)==items.size)=true then _ else _) _ _ s;rw[if_pos hyes];refine wpAny_bind (m:=Builtin.Tuple.tupleIsExact (.ref t)) (wpAny_bind (wpAny_typeOf ht.typeIs (wpAny_pure ?_)));show wpAny _ _ (if ((Value.type "tuple" ==Value.type "tuple")=true)then _ else _) _ _ s;rw[if_pos (by decide)];exact wpAny_bind (wpAny_rule (wpAny_bind (wpAny_pure (wpAny_pure ⟨_,rfl,wpAny_pure h⟩))))
theorem AJ(lo hi:Option Int)(n:Nat):Builtin.Str.strSliceIndices lo hi 1 n=(List.range (Ev.aO n n hi - Ev.aO n 0 lo)).map (λk=>Ev.aO n 0 lo+k):=by
 have KD:∀o:Option Int,((match o with|none=>(0:Int)|some i=>max 0 (min (if i<0 then i+(n:Int)else i) (n:Int))))=((Ev.aO n 0 o:Nat):Int):=λo=>by
  cases o with
  |none=>rfl
  |some i=>simp only[Ev.aO];split<;>omega
 have KG:∀o:Option Int,((match o with|none=>(n:Int)|some i=>max 0 (min (if i<0 then i+(n:Int)else i) (n:Int))))=((Ev.aO n n o:Nat):Int):=λo=>by
  cases o with
  |none=>rfl
  |some i=>simp only[Ev.aO];split<;>omega
 have e:Builtin.Str.strSliceIndices lo hi 1 n=sliceRange (match lo with|none=>(0:Int)|some i=>max 0 (min (if i<0 then i+(n:Int)else i) (n:Int))) (match hi with|none=>(n:Int)|some i=>max 0 (min (if i<0 then i+(n:Int)else i) (n:Int))) 1:=by
  unfold Builtin.Str.strSliceIndices;cases lo<;>cases hi<;>simp
 rw[e,KD,KG,sliceRange_one]
theorem KH(l:List Nat)(lo hi:Option Int):((Builtin.Str.strSliceIndices lo hi 1 (bC l).length).filterMap ((bC l).cps[·]?)).toArray=(Ev.cut l lo hi).toArray:=by
 rw[cL,AJ,pick_run];simp[bC,Ev.cut]
theorem KI:kG X (JK X.K):=by
 intro pins s σ H x v vl vu lo hi sl Q I rx hs pl pu q;obtain⟨r,h,a,d,h',hr,v1,e,q⟩:=q;cases a with
 |tup ds=>
  cases e;obtain⟨p,vs,rfl,z,w⟩:=v1.shape;by_cases hw:HT.aO vs.length 0 lo=0/\HT.aO vs.length vs.length hi=vs.length
  .cases rx;obtain⟨us,pv,pt,hz⟩:=I.tuple z;have hl:=pv.length;have Tc:Ev.aO ds.length 0 lo=0/\Ev.aO ds.length ds.length hi=ds.length:=by rw[<-w.length];exact hw
   refine⟨"tuple",_,PyProof.Rows.slot_tuple_getitem.lookup,pt.typeIs,?_⟩;refine tw pt hs pl pu (by rw[List.size_toArray,<-hl];exact hw) ⟨.ref p,H,I,rfl,q.here ?_ hr⟩;rw[sL ds lo hi Tc];exact⟨p,vs,rfl,z,w⟩
  .exact Jr pins s σ H _ v vl vu lo hi sl Q I rx hs pl pu ⟨p,vs,rfl,z,hw,λp' hp=>q.tup (w.cut lo hi) hr hp⟩
 |str l=>
  simp only[RV]at v1;obtain⟨rfl,hl⟩:=v1;obtain⟨t,rfl⟩:=rx;cases e;refine⟨"str",_,PySem.F.slot_str_getitem.lookup,typeIs_str s _ t,?_⟩;have part:∀{v:Value} {o:Option Int},IsPart v o->∃p:Option (Int×Tok),v=partValue p/\p.map (·.1)=o:=λ{v o} hp=>by
   cases hp with
   |none=>exact⟨none,rfl,rfl⟩
   |int i t=>exact⟨some (i,t),rfl,rfl⟩
  obtain⟨l1,e1,e2⟩:=part pl;obtain⟨u1,e3,e4⟩:=part pu;subst e1 e3;obtain⟨os,hos,hcs,hds⟩:=hs;refine wpAny_getItem_str_slice (l:=l1) (u:=u1) (st:=none) ⟨os,hos,hcs,hds⟩ rfl ?_;have Ez:((slicePicked (bC l) l1 u1 none).filterMap ((bC l).cps[·]?)).toArray=(Ev.cut l lo hi).toArray:=by
   show((Builtin.Str.strSliceIndices (l1.map (·.1)) (u1.map (·.1)) 1 (bC l).length).filterMap ((bC l).cps[·]?)).toArray=_;rw[e2,e4];exact KH l lo hi
  have hcl:=GO l lo hi;unfold sliceMade;refine post_val_or_made (λ_=>?_) λt' k=>?_
  .rw[Ez];show(Ev.cut l lo hi).toArray.size<=sizeLine;simp only[List.size_toArray];omega
  .have hres:(if (((none:Option (Int×Tok)).map (·.1)).getD 1==1&&(slicePicked (bC l) l1 u1 none).length==(bC l).length)=true then bC l else (⟨((slicePicked (bC l) l1 u1 none).filterMap ((bC l).cps[·]?)).toArray⟩:Str))=bC (Ev.cut l lo hi):=by
    split
    .rename_i hc;rw[Bool.and_eq_true]at hc;have hlen:(slicePicked (bC l) l1 u1 none).length=(bC l).length:=eq_of_beq hc.2;have hlen2:(slicePicked (bC l) l1 u1 none).length=Ev.aO l.length l.length hi - Ev.aO l.length 0 lo:=by
      show(Builtin.Str.strSliceIndices (l1.map (·.1)) (u1.map (·.1)) 1 (bC l).length).length=_;rw[e2,e4,AJ,cL];simp
     rw[cL]at hlen;have hb:Ev.aO l.length l.length hi<=l.length:=HT.t7 _ _ (Nat.le_refl _) hi;have ha:Ev.aO l.length 0 lo<=l.length:=HT.t7 _ _ (Nat.zero_le _) lo;rw[sL l lo hi ⟨by omega,by omega⟩]
    .rw[Ez];rfl
   rw[hres];exact⟨.str (bC (Ev.cut l lo hi)),H,I.tok _,⟨_,rfl⟩,q.here ⟨rfl,by omega⟩ hr⟩
 |ref m=>
  simp only[Ev.gR]at e;split at e
  .rename_i ds e1;obtain⟨p,rfl,z⟩:=v1.shape;obtain⟨p',vs,z',q1,w⟩:=hr.read e1;rw[z]at z';cases z';obtain⟨hz,q2⟩:=q.lst e (w.cut lo hi) hr;exact Gs pins s σ H _ v vl vu lo hi sl Q I rx hs pl pu ⟨p,vs,rfl,q1,q2⟩
  .cases e
 |_=>cases e
theorem uw:∀(k:Nat) (l:List Nat) (acc:List Nat),(List.replicate k l.toArray).foldl (·++·) acc.toArray=(acc++Ev.rep k l).toArray
 |0,l,acc=>by simp[Ev.rep]
 |k+1,l,acc=>by
  rw[List.replicate_succ,List.foldl_cons];have:acc.toArray++l.toArray=(acc++l).toArray:=by simp
  rw[this,uw k l (acc++l)];simp[Ev.rep,List.replicate_succ]
theorem nH{α:Type}(k:Nat)(l:List α):(Ev.rep k l).length=k*l.length:=by
 unfold Ev.rep;exact len_rep l k
theorem GP{l:List Nat}{k:Int}(h:0<=k):Txt.mul (bC l) k=bC (Ev.rep k.toNat l):=by
 unfold Txt.mul;by_cases h1:k<1
 .have:k=0:=by omega
  subst this;rw[if_pos (by decide)];rfl
 .rw[if_neg h1];split
  .rename_i hc;rw[Bool.or_eq_true]at hc;rcases hc with hc|hc
   .have:k=1:=by simpa using hc
    subst this;simp[Ev.rep]
   .rw[cL]at hc;have:l=[]:=by cases l with|nil=>rfl|cons _ _=>simp at hc
    subst this;simp[Ev.rep,bC]
  .show(⟨(List.replicate k.toNat (bC l).cps).foldl (·++·) #[]⟩:Str)=_;have:=uw k.toNat l [];simp only[List.nil_append]at this;exact congrArg Str.mk this
theorem jX{a b:Nat}(h1:a<=1000)(h2:b<=1000):a*b<=sizeLine:=Nat.le_trans (Nat.mul_le_mul h1 h2) (by decide)
theorem GQ{pins:List (Addr×Obj)}{σ:L2.St}{H:Hp}{s:Shared}{Q:VK}(I:Inv X pins σ H s){l:List Nat}{k:Int}{t u:Tok}(hk:0<=k/\k<=1000/\l.length<=1000)(q:Q (.str (bC (Ev.rep k.toNat l))) H) :
  wpAny (model X.prog X.w) X.A (binaryOp .Mult (.str (bC l) t) (.int k u)) (EP X pins σ Q) X.xe s:=by
 have hok:MulOk (bC l) k:=mulOk_of 1000 1000 (by rw[cL];exact hk.2.2) (by exact hk.2.1) (by omega) (by decide) (by decide);refine SB.mul hok λt' k'=>?_;rw[GP hk.1];exact⟨.str _,H,I.tok _,⟨_,rfl⟩,q⟩
theorem o9:fillsNumberSlot (.type "tuple") "mul" = pure false:=
 PySem.fillsNumberSlot_seq (id:="tuple.__mul__") (r:=some (.builtin "tuple.__rmul__")) PySem.F.slot_tuple_mul.lookup (by decide +kernel) PySem.F.slot_tuple_rmul.lookup (by decide +kernel)
theorem ux:seqRepeat? (.type "tuple")=pure (some (.builtin "tuple.__mul__")):=by
 unfold seqRepeat?;rw[PySem.seqSlot_of (T:="tuple") (name:="__mul__") (id:="tuple.__mul__") PySem.F.slot_tuple_mul.lookup (by decide +kernel),PySem.seqSlot_of (T:="tuple") (name:="__rmul__") (id:="tuple.__rmul__") PySem.F.slot_tuple_rmul.lookup (by decide +kernel)];rfl
theorem yP(a:Int)(t:Tok)(l:Addr)(items:Array Value)(n:Nat)(dd:Option Addr)(sl:Array (Option Value)) :
  Meets (Builtin.«int.__rmul__» ⟨[.int a t,.ref l],[]⟩) (λ_ R s=>s.heap.get? l=some { cls:=.type "tuple",dict:=dd,data:=.seq items n,slots:=sl }/\R (.ok (.ret Value.notImplemented)) s):=
 .of_wp λprog w A R s h=>by obtain⟨hp,g,d,tk,os⟩:=s;obtain⟨hl,h⟩:=h;wp_walk;exact⟨_,rfl,h⟩
theorem yQ(l:Addr)(items:Array Value)(n:Nat)(dd:Option Addr)(sl:Array (Option Value))(k:Int)(u:Tok)(h1:¬ (decide (k < -2 ^ 63) ||decide (k≥2 ^ 63))=true)(h3:(items.isEmpty ||k==1)=true) :
  Meets (Builtin.«tuple.__mul__» ⟨[.ref l,.int k u],[]⟩) (λ_ R s=>s.heap.get? l=some { cls:=.type "tuple",dict:=dd,data:=.seq items n,slots:=sl }/\R (.ok (.ret (.ref l))) s):=
 .of_wp λprog w A R s h=>by obtain⟨hp,g,d,tk,os⟩:=s;obtain⟨hl,h⟩:=h;have f1:=AutoSeq1.idx_int;wp_walk using AutoSeq1.wpAny_loadPart' hl;rw[if_neg h1];wp_walk using AutoSeq1.wpAny_loadPart' hl;exact⟨_,rfl,h⟩
theorem yR(l:Addr)(items:Array Value)(n:Nat)(dd:Option Addr)(sl:Array (Option Value))(k:Int)(u:Tok)(h1:¬ (decide (k < -2 ^ 63) ||decide (k≥2 ^ 63))=true)(h3:¬ (items.isEmpty ||k==1)=true)(h4:(decide (k<=0) ||items.isEmpty)=true) :
  Meets (Builtin.«tuple.__mul__» ⟨[.ref l,.int k u],[]⟩) (λ_ R s=>s.heap.get? l=some { cls:=.type "tuple",dict:=dd,data:=.seq items n,slots:=sl }/\R (.ok (.ret (Value.ref s.heap.objs.size))) { s with heap:=s.heap.push { cls:=Value.type "tuple",data:=Data.seq #[]},toks:=s.toks }):=
 .of_wp λprog w A R s h=>by obtain⟨hp,g,d,tk,os⟩:=s;obtain⟨hl,h⟩:=h;have f1:=AutoSeq1.idx_int;wp_walk using AutoSeq1.wpAny_loadPart' hl;rw[if_neg h1];wp_walk using AutoSeq1.wpAny_loadPart' hl;exact⟨_,rfl,h⟩
theorem yS(l:Addr)(items:Array Value)(n:Nat)(dd:Option Addr)(sl:Array (Option Value))(k:Int)(u:Tok)(h1:¬ (decide (k < -2 ^ 63) ||decide (k≥2 ^ 63))=true)(h3:¬ (items.isEmpty ||k==1)=true)(h4:¬ (decide (k<=0) ||items.isEmpty)=true)
  (h5:¬ (items.size*k > (2 ^ 63 - 1) / 8)) (h6:¬ Builtin.Tuple.tupleTooMany (items.size*k)=true) (hsz:(List.foldl (λx1 x2=>x1++x2) #[] (List.replicate k.toNat items)).size<=sizeLine) :
  Meets (Builtin.«tuple.__mul__» ⟨[.ref l,.int k u],[]⟩) (λ_ R s=>s.heap.get? l=some { cls:=.type "tuple",dict:=dd,data:=.seq items n,slots:=sl }/\R (.ok (.ret (Value.ref s.heap.objs.size))) { s with heap:=s.heap.push { cls:=Value.type "tuple",data:=Data.seq (List.foldl (λx1 x2=>x1++x2) #[] (List.replicate k.toNat items))},toks:=s.toks }):=
 .of_wp λprog w A R s h=>by obtain⟨hp,g,d,tk,os⟩:=s;obtain⟨hl,h⟩:=h;have f1:=AutoSeq1.idx_int;wp_walk using AutoSeq1.wpAny_loadPart' hl;rw[if_neg h1];wp_walk using AutoSeq1.wpAny_loadPart' hl;rw[if_neg h5];wp_walk using AutoSeq1.wpAny_loadPart' hl;exact⟨_,rfl,h⟩
theorem sM:∀(k:Nat) (l acc:List Value),(List.replicate k l.toArray).foldl (·++·) acc.toArray=(acc++Ev.rep k l).toArray
 |0,l,acc=>by simp[Ev.rep]
 |k+1,l,acc=>by
  rw[List.replicate_succ,List.foldl_cons];have:acc.toArray++l.toArray=(acc++l).toArray:=by simp
  rw[this,sM k l (acc++l)];simp[Ev.rep,List.replicate_succ]
theorem GR{pins:List (Addr×Obj)}{σ:L2.St}{H:Hp}{s:Shared}{Q:VK}(I:Inv X pins σ H s){p:Addr}{vs:List V}{k:Int}{u:Tok}(hk:0<=k/\k<=1000/\vs.length<=1000)(hp:dD X.K H p vs)
  (q1:Ev.rep k.toNat vs=vs->Q (.ref p) H) (q2:∀p',H p'=none->Q (.ref p') (upd H p' (.tup (Ev.rep k.toNat vs)))) :
  wpAny (model X.prog X.w) X.A (binaryOp .Mult (.ref p) (.int k u)) (EP X pins σ Q) X.xe s:=by
 obtain⟨us,pv,pt,hz⟩:=I.tuple hp;obtain⟨⟨cls,dd,data,sl⟩,ho,hc,n,hd⟩:=id pt;simp only at hc hd;subst hc hd;have hl:=pv.length;have h1:¬ (decide (k < -2 ^ 63) ||decide (k≥2 ^ 63))=true:=by simp;omega
 refine wpAny_binaryOp_repeat_ref (T:="tuple") (U:="int") (by decide) ⟨_,ho,rfl⟩ (λs'=>typeIs_int s' k u) o9 PySem.F.fills_int_mul PySem.F.slot_int_rmul ux PySem.F.slot_int_index.lookup
  (call_meets PySem.F.slot_int_rmul (typeIs_int s k u) PySem.F.entry_int_rmul (PySem.F.args_int_rmul_2 _ _) (yP k u p us.toArray n dd sl) ⟨ho,rfl,⟨_,ho,rfl⟩,?_⟩)
 have hrep:∀m:Nat,(Ev.rep m us).length=m*us.length:=λm=>nH m us;by_cases h3:(us.toArray.isEmpty ||k==1)=true
 .refine call_meets PySem.F.slot_tuple_mul ⟨_,ho,rfl⟩ PySem.F.entry_tuple_mul (PySem.F.args_tuple_mul_2 _ _) (yQ p us.toArray n dd sl k u h1 h3) ⟨ho,?_⟩;refine⟨.ref p,H,I,rfl,q1 ?_⟩;rw[Bool.or_eq_true]at h3;rcases h3 with h3|h3
  .have:us=[]:=by simpa using h3
   subst this;cases pv;simp[Ev.rep]
  .have:k=1:=by simpa using h3
   subst this;simp[Ev.rep]
 .have laid:∀m:Nat,m=k.toNat->EP X pins σ Q (.ref s.heap.objs.size) { s with heap:=s.heap.push { cls:=.type "tuple",data:=.seq (Ev.rep m us).toArray }}:=λm hm=>by
   subst hm;refine⟨.ref s.heap.objs.size,_,I.laid (t':=s.toks) (o:=.tup (Ev.rep k.toNat vs)) (λb ob q=>Heap.get?_push_of_some _ q) (Nat.le_refl _) ?_,rfl,q2 _ (I.hok.fresh (Nat.le_refl _))⟩;exact⟨by rw[nH];exact jX (by omega) hk.2.2,_,pv.rep k.toNat,IsTup.new _ _⟩
  by_cases h4:(decide (k<=0) ||us.toArray.isEmpty)=true
  .refine call_meets PySem.F.slot_tuple_mul ⟨_,ho,rfl⟩ PySem.F.entry_tuple_mul (PySem.F.args_tuple_mul_2 _ _) (yR p us.toArray n dd sl k u h1 h3 h4) ⟨ho,?_⟩;have hk0:k=0:=by
    rw[Bool.or_eq_true]at h4 h3;rcases h4 with h4|h4
    .have:k<=0:=of_decide_eq_true h4;omega
    .exact absurd (.inl h4) h3
   have:=laid 0 (by rw[hk0];rfl);exact this
  .have hm:us.toArray.size*k.toNat<=1000000:=by
    rw[List.size_toArray];exact Nat.mul_le_mul (by omega:us.length<=1000) (by omega:k.toNat<=1000)
   have hm':(us.toArray.size:Int)*k<=1000000:=by
    have e:(us.toArray.size:Int)*k=((us.toArray.size*k.toNat:Nat):Int):=by
     rw[Int.natCast_mul,Int.toNat_of_nonneg hk.1]
    rw[e];omega
   have hf:List.foldl (λx1 x2=>x1++x2) #[] (List.replicate k.toNat us.toArray)=(Ev.rep k.toNat us).toArray:=by
    have:=sM k.toNat us [];simpa using this
   refine call_meets PySem.F.slot_tuple_mul ⟨_,ho,rfl⟩ PySem.F.entry_tuple_mul (PySem.F.args_tuple_mul_2 _ _) (yS p us.toArray n dd sl k u h1 h3 h4 (by omega) ?_ ?_) ⟨ho,?_⟩
   .unfold Builtin.Tuple.tupleTooMany;simp only[decide_eq_true_eq];have:(sizeLine:Int)=16777216:=by rw[sizeLine_eq];rfl
    omega
   .rw[hf];simp only[List.size_toArray];rw[nH];exact jX (by omega) (by omega)
   .rw[hf];exact laid _ rfl
theorem KJ:dQ X (binaryOp .Mult) (iX X.K (Ev.bQ .mul)):=by
 intro pins s σ H x y v u Q I rx ry q;obtain⟨r,h,a,b,d,h',hr,v1,v2,e,q⟩:=q;cases b with
 |int k=>
  have s2:=v2.shape;simp only[cF]at s2;subst s2;cases a with
  |int i=>
   delta Ev.bQ at e;dsimp only at e
   split at e
   .rename_i hz;cases e;refine Jh pins s σ H x _ v u Q I rx ry ⟨i,k,v1,rfl,?_,q.here rfl hr⟩;unfold Ev.bV at hz;simp only[Bool.or_eq_true,Bool.and_eq_true,decide_eq_true_eq]at hz;exact hz
   .cases e
  |str l=>
   delta Ev.bQ at e;dsimp only at e
   split at e
   .rename_i hz;cases e;simp only[RV]at v1;obtain⟨rfl,hl⟩:=v1;obtain⟨t,rfl⟩:=rx;obtain⟨t',rfl⟩:=ry;exact GQ I hz (q.here ⟨rfl,by rw[nH];exact jX (by omega) hz.2.2⟩ hr)
   .cases e
  |tup ds=>
   delta Ev.bQ at e;dsimp only at e
   split at e
   .rename_i hz;cases e;obtain⟨p,vs,rfl,z,w⟩:=v1.shape;cases rx;obtain⟨t',rfl⟩:=ry;refine GR I ⟨hz.1,hz.2.1,by rw[w.length];exact hz.2.2⟩ z (λTd=>q.here ⟨p,vs,rfl,z,?_⟩ hr) λp' hp=>q.tup (w.rep k.toNat) hr hp;have:=w.rep k.toNat;rw[Td]at this;exact this
   .cases e
  |ref i=>
   delta Ev.bQ at e;dsimp only at e
   split at e
   .rename_i ds e1;split at e
    .rename_i hz;obtain⟨p,rfl,z⟩:=v1.shape;obtain⟨p',g1,vs,g2,g3⟩:=hr.ob _ _ e1;rw[z]at g1;cases g1;obtain⟨hz2,q2⟩:=q.lst e (g3.rep k.toNat) hr;exact Jy pins s σ H (.ref p) _ v u Q I rx ry ⟨p,k,vs,rfl,rfl,g2,by omega,by omega,jX (by rw[g3.length];exact hz.2.2) (by omega),q2⟩
    .cases e
   .cases e
  |_=>cases e
 |_=>cases a<;>cases e
end
end Sm
set_option maxRecDepth 100000
namespace Sm
open PySem PySem.Spec PyProof.Rows L2 PySem.SeqAt
open Ev (D O Hh Fr R aG E Es Eo T S Ss Fl Src bw bq TY BI ME)
section
variable{X:Cx}
theorem wZ{K:PySem.W.Frag}{H:Hp}{r:List Addr}:∀{ds:List D}{is:List Int}{vs:List V}{us:List Value},Ev.intsOf ds=some is->aH K H r ds vs->Vals vs us->IntsAre us is
 |[],bs,vs,us,e,w,p=>by
  cases e;simp only[aH]at w;subst w;cases p;exact .nil
 |d :: ds,bs,vs,us,e,w,p=>by
  cases d with
  |int b=>
   simp only[Ev.intsOf,Option.map_eq_some_iff]at e;obtain⟨bs',e1,rfl⟩:=e;simp only[aH,RV]at w;obtain⟨v,w',rfl,rfl,w2⟩:=w;cases p with
   |cons p1 p2=>
    obtain⟨t,rfl⟩:=p1;exact .cons _ _ (wZ e1 w2 p2)
  |_=>cases e
theorem w9{K:PySem.W.Frag}{H:Hp}{r:List Addr}:∀{ds:List D}{ss:List (List Nat)}{vs:List V}{us:List Value},Ev.strsOf ds=some ss->aH K H r ds vs->Vals vs us->StrsAre us (ss.map bC)/\∀l∈ss,l.length<=sizeLine
 |[],bs,vs,us,e,w,p=>by
  cases e;simp only[aH]at w;subst w;cases p;exact⟨.nil,λl h=>nomatch h⟩
 |d :: ds,bs,vs,us,e,w,p=>by
  cases d with
  |str b=>
   simp only[Ev.strsOf,Option.map_eq_some_iff]at e;obtain⟨bs',e1,rfl⟩:=e;simp only[aH,RV]at w;obtain⟨v,w',rfl,⟨rfl,hb⟩,w2⟩:=w;cases p with
   |cons p1 p2=>
    obtain⟨t,rfl⟩:=p1;obtain⟨g1,g2⟩:=w9 e1 w2 p2;refine⟨.cons _ _ g1,λl hl=>?_⟩;rcases List.mem_cons.mp hl with z|z
    .subst z;exact hb
    .exact g2 l z
  |_=>cases e
variable{G:Tb}{n:Nat}{sc:Scope}{N:List Str}{df:Bool}
theorem KL (g:Good G n sc N df X):gz X (.builtin "sum") (wK X.K (Ev.eL .sum)):=by
 intro pins s σ H xs us Q I r q;obtain⟨rr,h,as,d,h',hr,v1,e,q⟩:=q
 match as,e with
 |[.ref m],e=>
  obtain⟨e,rfl⟩:=Ev.aN e;simp only[Option.map_eq_some_iff,Option.bind_eq_some_iff]at e;obtain⟨is,⟨ds,e1,e2⟩,rfl⟩:=e;simp only[aH,RV]at v1;obtain⟨v,w,rfl,⟨p,rfl,z⟩,rfl⟩:=v1;obtain⟨u,rfl,ru⟩:=vals1 r;cases ru;obtain⟨p',vs,z',q1,w⟩:=hr.read e1;rw[z]at z';cases z';obtain⟨zs,pv,pl,_⟩:=I.list q1;have hi:=wZ e2 w pv;obtain⟨ys,hys⟩:=(hi.allInts).items;have hl:s.heap.IsList p (intItems ys):=by rw[<-hys];exact pl.isList
  refine sum_intListG (I.ok.hd g.calm) hl λh'' tk t' hk=>?_;have hsum:preSum (numAt ys) ys.size=is.sum:=by
   have h1:numsOf zs.toArray.toList=is:=by rw[show zs.toArray.toList=zs from rfl];exact hi.numsOf
   rw[hys,nums_intItems]at h1;rw[preSum_eq,List.take_of_length_le (by simp),h1]
  rw[hsum];exact⟨.int is.sum,H,I.kept hk,⟨_,rfl⟩,q.here rfl hr⟩
theorem KN:gz X (.builtin "len") (wK X.K (Ev.eL .len)):=by
 intro pins s σ H xs us Q I r q;obtain⟨rr,h,as,d,h',hr,v1,e,q⟩:=q
 match as,e with
 |[.str l],e=>
  delta Ev.eL at e;dsimp only at e
  split at e
  .cases e;simp only[aH,RV]at v1;obtain⟨v,w,rfl,⟨rfl,hl⟩,rfl⟩:=v1;refine t9 pins s σ H _ us Q I r ⟨_,rfl,by rw[cL];exact hl,?_⟩;rw[cL];exact q.here rfl hr
  .cases e
 |[.tup ds],e=>
  cases e;simp only[aH,RV]at v1;obtain⟨v,w,rfl,⟨p,vs,rfl,z,w'⟩,rfl⟩:=v1;refine mJ pins s σ H _ us Q I r ⟨p,vs,rfl,.inr z,?_⟩;rw[w'.length];exact q.here rfl hr
 |[.ref m],e=>
  obtain⟨e,rfl⟩:=Ev.aN e;simp only[Option.map_eq_some_iff]at e;obtain⟨ds,e1,rfl⟩:=e;simp only[aH,RV]at v1;obtain⟨v,w,rfl,⟨p,rfl,z⟩,rfl⟩:=v1;obtain⟨p',vs,z',q1,w⟩:=hr.read e1;rw[z]at z';cases z';refine mJ pins s σ H _ us Q I r ⟨p,vs,rfl,.inl q1,?_⟩;rw[w.length];exact q.here rfl hr
theorem KO (g:Good G n sc N df X):gz X (.builtin "min") (wK X.K (Ev.eL .min)):=by
 intro pins s σ H xs us Q I r q;obtain⟨rr,h,as,d,h',hr,v1,e,q⟩:=q
 match as,e with
 |[.int i,.int j],e=>
  cases e;simp only[aH,RV]at v1;obtain⟨v,w,rfl,rfl,v',w',rfl,rfl,rfl⟩:=v1;exact Ac g.calm pins s σ H _ us Q I r ⟨i,j,rfl,q.here rfl hr⟩
theorem AK:sd X "list.append" (ud X.K (Ev.eZ .append)):=by
 intro pins s σ H x xs v us Q I rx rs q;obtain⟨r,h,a,as,d,h',hr,v1,v2,e,q⟩:=q;cases a with
 |ref m=>
  match as,e with
  |[b],e=>
   delta Ev.eZ at e;dsimp only at e
   split at e
   .rename_i ds e1;split at e
    .rename_i hz;cases e;rw[jK]at hz;obtain⟨p,rfl,z⟩:=v1.shape;simp only[aH]at v2;obtain⟨y,w,rfl,v3,rfl⟩:=v2;obtain⟨p',g1,vs,g2,g3⟩:=hr.ob _ _ e1;rw[z]at g1;cases g1;refine sj pins s σ H _ _ v us Q I rx rs ⟨p,vs,y,rfl,rfl,g2,by rw[g3.length];exact hz,?_⟩;have f:=Fm.write (K:=X.K) (ws:=vs++[y]) g2 (List.mem_of_getElem? z);exact q _ _ r rfl (hr.write e1 z g2 (g3.append (.cons v3 .nil))) f
    .cases e
   .cases e
  |[],e=>cases e
  |_ :: _ :: _,e=>cases e
 |_=>cases e
theorem AL:sd X "list.extend" (ud X.K (Ev.eZ .extend)):=by
 intro pins s σ H x xs v us Q I rx rs q;obtain⟨r,h,a,as,d,h',hr,v1,v2,e,q⟩:=q;cases a with
 |ref m=>
  match as,e with
  |[.ref k],e=>
   delta Ev.eZ at e;dsimp only at e
   split at e
   .rename_i ds es e1 e2;split at e
    .rename_i hz;cases e;rw[jK]at hz;obtain⟨p,rfl,z⟩:=v1.shape;simp only[aH,RV]at v2;obtain⟨y,w,rfl,⟨p2,rfl,z2⟩,rfl⟩:=v2;obtain⟨p',g1,vs,g2,g3⟩:=hr.ob _ _ e1;rw[z]at g1;cases g1;obtain⟨p'',k1,ws,k2,k3⟩:=hr.ob _ _ e2;rw[z2]at k1;cases k1;refine Aj pins s σ H _ _ v us Q I rx rs ⟨p,p2,vs,ws,rfl,rfl,g2,k2,by rw[g3.length,k3.length];exact hz,?_⟩;have f:=Fm.write (K:=X.K) (ws:=vs++ws) g2 (List.mem_of_getElem? z);exact q _ _ r rfl (hr.write e1 z g2 (g3.append k3)) f
    .cases e
   .cases e
 |_=>cases e
theorem KP:sd X "list.pop" (ud X.K (Ev.eZ .pop)):=by
 intro pins s σ H x xs v us Q I rx rs q;obtain⟨r,h,a,as,d,h',hr,v1,v2,e,q⟩:=q;cases a with
 |ref m=>
  match as,e with
  |[],e=>
   delta Ev.eZ at e;dsimp only at e
   split at e
   .rename_i ds e1;split at e
    .rename_i y e2;cases e;obtain⟨p,rfl,z⟩:=v1.shape;simp only[aH]at v2;subst v2;obtain⟨p',g1,vs,g2,g3⟩:=hr.ob _ _ e1;rw[z]at g1;cases g1;obtain⟨vy,g4,g5⟩:=g3.get e2;refine Jw pins s σ H _ _ v us Q I rx rs ⟨p,vs,vy,rfl,rfl,g2,by rw[g3.length];exact g4,?_⟩;have f:=Fm.write (K:=X.K) (ws:=vs.dropLast) g2 (List.mem_of_getElem? z);have hd:aH X.K H r ds.dropLast vs.dropLast:=by
      rw[List.dropLast_eq_take,List.dropLast_eq_take,g3.length];exact g3.take _
     exact q _ _ r (g5.mono f) (hr.write e1 z g2 hd) f
    .cases e
   .cases e
  |_ :: _,e=>cases e
 |_=>cases e
theorem pe(sep:List Nat):∀ss:List (List Nat),Str.join (bC sep) (ss.map bC)=bC (Ev.b8 sep ss)
 |[]=>rfl
 |[s]=>rfl
 |s :: t :: r=>by
  have ih:=pe sep (t :: r);show bC s++bC sep++Str.join (bC sep) ((t :: r).map bC)=_;rw[ih,qZ,qZ];rfl
theorem join_eq(sep:List Nat)(ss:List (List Nat)):Txt.join (bC sep) (ss.map bC)=bC (Ev.b8 sep ss):=by
 rw[<-pe];exact PySem.StrLaws.glued_eq_join _ _
theorem GS:sd X "str.join" (ud X.K (Ev.eZ .join)):=by
 intro pins s σ H x xs v us Q I rx rs q;obtain⟨r,h,a,as,d,h',hr,v1,v2,e,q⟩:=q;cases a with
 |str sep=>
  match as,e with
  |[.ref k],e=>
   delta Ev.eZ at e;dsimp only at e
   split at e
   .rename_i ss e1;split at e
    .rename_i hz;cases e;simp only[Option.bind_eq_some_iff]at e1;obtain⟨ds,e1,e2⟩:=e1;simp only[RV]at v1;obtain⟨rfl,hl⟩:=v1;obtain⟨t,rfl⟩:=rx;simp only[aH,RV]at v2;obtain⟨y,w,rfl,⟨p2,rfl,z2⟩,rfl⟩:=v2;obtain⟨u,rfl,ru⟩:=vals1 rs;cases ru;obtain⟨p',vs,z',q1,w⟩:=hr.read e1;rw[z2]at z';cases z';obtain⟨zs,pv,pl,_⟩:=I.list q1;obtain⟨g1,g2⟩:=w9 e2 w pv;have hlen:((ss.map bC).map (·.length)).sum+(ss.map bC).length*(bC sep).length<=16777216:=by
      rw[List.map_map,List.length_map,cL];have:(λx:Str=>x.length) ∘ bC=λl:List Nat=>l.length:=funext λl=>cL l;rw[this];exact hz
     refine join_list pl.isList g1 hlen λt' k'=>?_;rw[join_eq];refine⟨.str _,H,I.tok _,⟨_,rfl⟩,q.here ⟨rfl,?_⟩ hr⟩;have hj:=PySem.StrLaws.join_length_le (bC sep) (ss.map bC);rw[pe,cL]at hj;have:sizeLine=16777216:=sizeLine_eq;omega
    .cases e
   .cases e
 |_=>cases e
end
end Sm
set_option maxRecDepth 100000
namespace Sm
open PySem PySem.Spec PyProof.Rows L2 PySem.SeqAt
open Ev (D O Hh Fr R aG E Es Eo T S Ss Fl Src bw bq TY BI ME)
section
variable{X:Cx}{G:Tb}{n:Nat}{sc:Scope}{N:List Str}{df:Bool}{m:List Nat}{a b c:E}{xa xb xc tg:Expr}{pos:Pos}
end
end Sm
set_option maxRecDepth 100000
namespace Sm
open PySem PySem.Spec PyProof.Rows L2 PySem.SeqAt
open Ev (D O Hh Fr R aG E Es Eo T S Ss Fl Src bw bq TY BI ME)
section
variable{X:Cx}{G:Tb}{n:Nat}{sc:Scope}{N:List Str}{df:Bool}{m:List Nat}{a b c:E}{xa xb xc tg:Expr}{pos:Pos}
theorem Vals.reverse{vs:List V}{us:List Value}(w:Vals vs us):Vals vs.reverse us.reverse:=by
 induction w with
 |nil=>exact .nil
 |cons a _ ih=>rw[List.reverse_cons,List.reverse_cons];exact ih.append (.cons a .nil)
end
end Sm
set_option maxRecDepth 100000
namespace Sm
open PySem PySem.Spec PyProof.Rows L2 PySem.SeqAt
open Ev (D O Hh Fr R aG E Es Eo T S Ss Fl Src bw bq TY BI ME)
section
variable{G:Tb}{n:Nat}{sc:Scope}{N:List Str}{df:Bool}{m:List Nat}{a b c:E}{xa xb xc tg:Expr}{pos:Pos}
theorem CG (g:Good G n sc N df X):gz X (.type "tuple") (λxs H Q=>∃r h d x d' h',HR X.K H r h/\RV X.K H r d x/\xs=[x]/\Ev.qR d h=.ok d' h'/\Res X.K r H h' d' Q):=by
 intro pins s σ H xs us Q I rv q;obtain⟨r,h,d,x,d',h',hr,v1,rfl,e,q⟩:=q;cases d with
 |tup ds=>
  cases e;have v2:=v1;obtain⟨p,vs,rfl,z,w⟩:=v1.shape;exact lT pins s σ H _ us Q I rv ⟨p,vs,rfl,.inr ⟨z,q.here v2 hr⟩⟩
 |ref i=>
  simp only[Ev.qR]at e;split at e
  .rename_i ds e1;split at e
   .cases e;obtain⟨p,rfl,z⟩:=v1.shape;obtain⟨p',vs,z',q1,w⟩:=hr.read e1;rw[z]at z';cases z';exact lT pins s σ H _ us Q I rv ⟨p,vs,rfl,.inl ⟨q1,λl hl=>q.tup w hr hl⟩⟩
   .cases e
  .cases e
 |_=>cases e
theorem KQ {p:Pos}(ha:JE G n sc N df m a xa) (h1:("tuple" : Str)∈G.bl:=by decide +kernel) (KR:sc.names.lookup ("tuple" : Str)=some .globalImplicit:=by rfl)
  (hst:∀env:Env,starEach [xa] env=[(false,eval xa env)]:=by intro _;rfl):JE G n sc N df m (.iG a) (.Call (.Name "tuple" p) [xa] [] pos):=λX g=>by
 refine PE.of (Ag (CG g) (g.gl KR) (g.bl _ h1) (by decide +kernel) (fD (ha X g) kE (hst _)) (by decide) (by decide) (hst _) rfl) λs H Q q=>?_;obtain⟨r,fr,h,d,h',sr,hr,e,q⟩:=q;simp only[Ev.ev]at e;obtain⟨x,h3,e1,e⟩:=Ev.ah e;refine⟨r,fr,h,x,_,sr,hr,e1,λv H1 r1 v1 hr1 f1=>?_⟩;exact⟨r1,h3,x,v,d,h',hr1,v1,rfl,e,q.later f1⟩
theorem KS{c:Nat}{st:Stmt}:JS G n sc N df m (.ez c) st:=λX g=>PS.of Cd λQ s H q=>by
 obtain⟨r,fr,h,fl,ai,h',sr,hr,e,q⟩:=q;simp only[Ev.ex]at e;cases e
end
section
variable{prog:Program}{w:World}{A:Around}{E:Value->Shared->Prop}{s:Shared}
end
end Sm
set_option maxRecDepth 100000
namespace Sm
open PySem PySem.Spec PyProof.Rows L2 PySem.SeqAt
open Ev (D O Hh Fr R aG E Es Eo T S Ss Fl Src bw bq TY BI ME)
section
variable{G:Tb}{n:Nat}{sc:Scope}{N:List Str}{df:Bool}{m:List Nat}{a b c:E}{xa xb xc:Expr}{pos:Pos}
end
end Sm
set_option maxRecDepth 100000
namespace Sm
open PySem PySem.Spec PyProof.Rows L2 PySem.SeqAt
open Ev (D O Hh Fr R aG E Es Eo T S Ss Fl Src bw bq TY BI ME)
section
variable{G:Tb}{n:Nat}{sc:Scope}{N:List Str}{df:Bool}{m:List Nat}{a b c:E}{xa xb xc:Expr}{pos:Pos}
end
end Sm
set_option maxRecDepth 100000
namespace Sm
open PySem PySem.Spec PyProof.Rows L2 PySem.SeqAt
open Ev (D O Hh Fr R aG E Es Eo T S Ss Fl Src bw bq TY BI ME)
section
variable{X:Cx}{G:Tb}{n:Nat}{sc:Scope}{N:List Str}{df:Bool}{m:List Nat}{a b c:E}{xa xb xc xd tg:Expr}{pos:Pos}
end
end Sm
set_option maxRecDepth 100000
namespace Rv
open PySem PyProof.Rows
theorem mW:Manifest.owners.lookup (String.ofList ['d','e','s','r','e','v','e','r'].reverse)=some Manifest.sig_reversed:=by kernel_rfl
theorem slot_next:Slot "reversed" "__next__" "reversed.__next__" :=
 .of (owner:="reversed") (n:="__next__") (by rw[typeLookup_type,builtinLookup_eq_fast];kernel_rfl) (by decide +kernel) (by decide +kernel) (by decide +kernel)
  (by first|exact .inl (by decide +kernel)|exact .inr (by decide +kernel)) (by rw[isSubtype_type];kernel_rfl)
theorem entry_next:entryFor table "reversed.__next__" = some Builtin.«reversed.__next__»:=entryFor_of_tree (by kernel_rfl)
theorem args_next (a:Value):argsOk "reversed.__next__" ⟨[a],[]⟩:=by
 unfold argsOk;rw[signature?_of (id:="reversed.__next__") (n:=['_','_','t','x','e','n','_','_']) (o:=['d','e','s','r','e','v','e','r']) (by kernel_rfl) mW];kernel_rfl
theorem sN:Slot "reversed" "__iter__" "reversed.__iter__" :=
 .of (owner:="reversed") (n:="__iter__") (by rw[typeLookup_type,builtinLookup_eq_fast];kernel_rfl) (by decide +kernel) (by decide +kernel) (by decide +kernel)
  (by first|exact .inl (by decide +kernel)|exact .inr (by decide +kernel)) (by rw[isSubtype_type];kernel_rfl)
theorem AM (a:Value):argsOk "reversed.__iter__" ⟨[a],[]⟩:=by
 unfold argsOk;rw[signature?_of (id:="reversed.__iter__") (n:=['_','_','r','e','t','i','_','_']) (o:=['d','e','s','r','e','v','e','r']) (by kernel_rfl) mW];kernel_rfl
theorem yT:entryFor table "reversed.__iter__" = some Builtin.«dict_keyiterator.__iter__»:=
 entryFor_alias (id':="dict_keyiterator.__iter__") (by kernel_rfl) (by first|rfl|decide +kernel | (unfold String.splitOn;simp +decide [String.splitOnAux])) (by decide +kernel) (by kernel_rfl)
theorem mX:Slot "reversed" "__length_hint__" "reversed.__length_hint__" :=
 .of (owner:="reversed") (n:="__length_hint__") (by rw[typeLookup_type,builtinLookup_eq_fast];kernel_rfl) (by decide +kernel) (by decide +kernel) (by decide +kernel)
  (by first|exact .inl (by decide +kernel)|exact .inr (by decide +kernel)) (by rw[isSubtype_type];kernel_rfl)
theorem yU:entryFor table "reversed.__length_hint__" = some Builtin.«reversed.__length_hint__»:=entryFor_of_tree (by kernel_rfl)
theorem AN (a:Value):argsOk "reversed.__length_hint__" ⟨[a],[]⟩:=by
 unfold argsOk;rw[signature?_of (id:="reversed.__length_hint__") (n:=['_','_','t','n','i','h','_','h','t','g','n','e','l','_','_']) (o:=['d','e','s','r','e','v','e','r']) (by kernel_rfl) mW];kernel_rfl
theorem KU:typeLookup (.type "reversed") "__len__" = pure none:=by rw[typeLookup_type,builtinLookup_eq_fast];kernel_rfl
theorem KW:typeLookup (.type "tuple") "__reversed__" = pure none:=by rw[typeLookup_type,builtinLookup_eq_fast];kernel_rfl
section
variable{prog:Program}{w:World}{A:Around}{E:Value->Shared->Prop}{s:Shared}
theorem AO:Slot "reversed" "__init__" "object.__init__" :=
 .of (owner:="object") (n:="__init__") (by rw[typeLookup_type,builtinLookup_eq_fast];kernel_rfl) (by decide +kernel) (by decide +kernel) (by decide +kernel)
  (by first|exact .inl (by decide +kernel)|exact .inr (by decide +kernel)) (by rw[isSubtype_type];kernel_rfl)
theorem called:TypeCalled "reversed" "reversed.__new__" "object.__init__" :=
 ⟨by decide +kernel,by decide +kernel,⟨_,_,F.mro_reversed⟩,F.made_reversed,by decide +kernel,F.sub_reversed_self,AO⟩
noncomputable def gq (h:Heap) (a t:Addr) (i:Int):Prop:=∃o,h.get? a=some o/\o.cls=.type "reversed" /\o.data=.fields #[.ref t,rawInt i]
theorem gq.typeIs {a l:Addr}{i:Int}(x:gq s.heap a l i):s.TypeIs (.ref a) "reversed" :=let ⟨o,ho,hc,_⟩:=x;⟨o,ho,hc⟩
theorem gq.at{h h':Heap}{a l:Addr}{i:Int}(x:gq h a l i)(e:∀o,h.get? a=some o->h'.get? a=some o):gq h' a l i:=let ⟨o,ho,r⟩:=x;⟨o,e _ ho,r⟩
noncomputable def nI (l:Addr) (i:Int):Obj:={ cls:=.type "reversed",data:=.fields #[.ref l,rawInt i]}
theorem nJ{h h':Heap}{t:Addr}{items:Array Value}(x:IsTup h t items)(e:∀o,h.get? t=some o->h'.get? t=some o):IsTup h' t items:=let ⟨o,ho,r⟩:=x;⟨o,e _ ho,r⟩
theorem CH{t:Addr}{items:Array Value}{Q₁:Value->Shared->Prop}(ht:IsTup s.heap t items)(hfit:(items.size:Int)<2 ^ 63)
  (h:Q₁ (.ref s.heap.objs.size) { s with heap:=s.heap.push (nI t ((items.size:Int) - 1)),toks:=s.toks+1+1 }) :
  codeAny (model prog w) A (.call (.builtin "reversed.__new__") ⟨[.type "reversed",.ref t],[]⟩) (wants Q₁ E) s:=by
 refine codeAny_of_tree ?_;show wpAny _ A.in1 (do checkBuiltinCall "reversed.__new__" ⟨[.type "reversed",.ref t],[]⟩;again (.builtin "reversed.__new__" ⟨[.type "reversed",.ref t],[]⟩)) _ _ s;refine wpAny_bind (wpAny_of_eq (F.newCall_reversed_1 _) (wpAny_pure ⟨plainId_quiet F.plain_reversed_new _,codeAny_builtin F.entry_reversed_new ?_⟩));rw[Around.under_plainId F.plain_reversed_new _];unfold Builtin.«reversed.__new__»;refine wpAny_bind (wpAny_of_eq (newClass_reversed _) ?_);try dsimp only
 refine wpAny_bind (wpAny_of_eq (a:=()) (by first|rfl|kernel_rfl) ?_);refine wpAny_bind (wpAny_of_eq (a:=()) (by first|rfl|kernel_rfl) ?_);try dsimp only
 refine wpAny_bind (wpAny_specialOf ht.typeIs KW ?_);try dsimp only
 refine wpAny_bind ?_
 wp_delta
 refine wpAny_bind (wpAny_isInstance (T:="tuple") (b:=false) ht.typeIs (by rw[isSubtype_type];kernel_rfl) ?_);refine wpAny_ite_split (λhab=>absurd hab (by decide)) (λ_=>?_);refine wpAny_bind (wpAny_specialOf ht.typeIs slot_tuple_getitem.lookup ?_);try dsimp only
 refine wpAny_ite_split (λ_=>?_) (λhab=>absurd (by decide) hab);refine wpAny_pure ?_;refine wpAny_ite_split (λhab=>absurd hab (by decide)) (λ_=>?_);refine wpAny_bind (len_tuple ht hfit ?_);refine wpAny_bind (m:=asInt? _) (wpAny_pure ?_);try dsimp only
 refine wpAny_bind (m:=Builtin.SmallTypes.newRecord _ _) ?_;unfold Builtin.SmallTypes.newRecord;refine wpAny_newObj_type ?_ (by size_fits);exact wpAny_pure h
theorem CJ{t:Addr}{items:Array Value}{Q:Value->Shared->Prop}(ht:IsTup s.heap t items)(hfit:(items.size:Int)<2 ^ 63)
  (h:Q (.ref s.heap.objs.size) { s with heap:=s.heap.push (nI t ((items.size:Int) - 1)),toks:=s.toks+1+1 }):wpAny (model prog w) A (call (.type "reversed") [.ref t]) Q E s:=by
 refine callType_codes (Q₁:=λobj s₁=>obj=.ref s.heap.objs.size/\s₁={ s with heap:=s.heap.push (nI t ((items.size:Int) - 1)),toks:=s.toks+1+1 }) called (F.typeCall_reversed_1 _) F.entry_object_init (CH ht hfit ⟨rfl,rfl⟩) ?_;rintro obj s₁ ⟨rfl,rfl⟩;have hT:({ s with heap:=s.heap.push (nI t ((items.size:Int) - 1)),toks:=s.toks+1+1 }:Shared).TypeIs (.ref s.heap.objs.size) "reversed" :=⟨_,Heap.get?_push_size _ rfl,rfl⟩
 refine⟨hT,F.args_object_init_2 _ _,?_⟩;exact object_init_meets (self:=Value.ref s.heap.objs.size) (rest:=[Value.ref t]) called.init.lookup called.made (by decide) prog w A.in1 _ _ ⟨hT,rfl,h⟩
theorem next_item{it t:Addr}{i:Nat}{items:Array Value}{x:Value}{Q:Option Value->Shared->Prop}(hit:gq s.heap it t (i:Int))(ht:IsTup s.heap t items)(hx:items[i]?=some x)(hfit:(items.size:Int)<2 ^ 62)
  (hQ:∀h' tk,gq h' it t ((i:Int) - 1)->Heap.SameBut it s.heap h'->Q (some x) { s with heap:=h',toks:=tk }):wpAny (model prog w) A (pyNext (.ref it)) Q E s:=by
 obtain⟨o,ho,hc,hd⟩:=id hit;have hi:i<items.size:=(Array.getElem?_eq_some_iff.mp hx).1;unfold pyNext;refine wpAny_bind (wpAny_attempt (wpAny_callSpecial?_slot (name:=Str.ofString "__next__") hit.typeIs slot_next
  (wpAny_call_entry slot_next hit.typeIs entry_next ?_ (args_next _))))
 unfold Builtin.«reversed.__next__»;refine wpAny_bind (wpAny_of_eq (a:=(Value.ref it,[])) rfl ?_);try dsimp only
 refine wpAny_bind (wpAny_field ho hd (x:=.ref t) rfl ?_);refine wpAny_bind (wpAny_field ho hd (x:=rawInt (i:Int)) rfl ?_);show wpAny _ _ (if (i:Int)<0 then _ else _) _ _ s;rw[if_neg (by omega)];try dsimp only
 refine wpAny_bind (wpAny_specialOf ht.typeIs slot_tuple_getitem.lookup ?_);try dsimp only
 refine wpAny_ite_split (λhab=>absurd hab (by decide)) (λ_=>?_);refine wpAny_bind (wpAny_mkInt ?_);refine wpAny_bind (wpAny_attempt (getItem_tuple (j:=i) ht (by omega) (by omega) (by unfold seqIndex?;simp;omega) hx ?_));try dsimp only
 refine wpAny_bind (wpAny_field ho hd (x:=rawInt (i:Int)) rfl ?_);show wpAny _ _ (setField (.ref it) 1 (rawInt ((i:Int) - 1)) >>= _) _ _ _;refine wpAny_bind (wpAny_setField ho hd (by simp) ?_);refine wpAny_pure ⟨x,rfl,wpAny_pure (hQ _ _ ?_ (Heap.SameBut.update ..))⟩;exact⟨_,Heap.get?_update_self _ ho (Obj.isFreed_of_fields (Obj.data_mapFields hd _)),(Obj.cls_mapFields ..).trans hc,by
  rw[Obj.data_mapFields hd];simp⟩
theorem next_end{it t:Addr}{Q:Option Value->Shared->Prop}(hh:A.handled=none)(hit:gq s.heap it t (-1))
  (hQ:∀h',Heap.ExtBut it s.heap h'->Q none { s with heap:=h' }):wpAny (model prog w) A (pyNext (.ref it)) Q E s:=by
 obtain⟨o,ho,hc,hd⟩:=id hit;unfold pyNext;refine wpAny_bind (wpAny_attempt (wpAny_callSpecial?_slot (name:=Str.ofString "__next__") hit.typeIs slot_next
  (wpAny_call_entry slot_next hit.typeIs entry_next ?_ (args_next _))))
 unfold Builtin.«reversed.__next__»;refine wpAny_bind (wpAny_of_eq (a:=(Value.ref it,[])) rfl ?_);try dsimp only
 refine wpAny_bind (wpAny_field ho hd (x:=.ref t) rfl ?_);refine wpAny_bind (wpAny_field ho hd (x:=rawInt (-1)) rfl ?_);show wpAny _ _ (if (-1:Int)<0 then _ else _) _ _ s;rw[if_pos (by decide)];refine wpAny_bind (wpAny_rule ?_);refine wpAny_bind ?_
 wp_delta
 refine wpAny_bind (wpAny_setField ho hd (by simp) ?_);have ho2:=Heap.get?_update_self (Obj.mapFields λx=>x.setIfInBounds 1 (rawInt (-1))) ho (Obj.isFreed_of_fields (Obj.data_mapFields hd _));refine wpAny_setField ho2 (Obj.data_mapFields hd _) (by simp) ?_;refine wpAny_bind ?_;unfold Builtin.SmallTypes.stopIteration;first
 |show wpAny _ _ (newExc (.type "StopIteration") [] >>= _) _ _ _
 | (refine wpAny_bind ?_;show wpAny _ _ (newExc (.type "StopIteration") [] >>= _) _ _ _)
 refine wpAny_bind ?_;simp only[newExc,newTuple];refine wpAny_bind (wpAny_newObj_type ?_ (by size_fits));refine wpAny_bind (m:=firstArgMember _ _) (wpAny_of_eq (a:=Value.none) (by first|rfl | (simp only[firstArgMember];rfl)) ?_);refine wpAny_newObj_type ?_ (by size_fits);simp only[raiseNew];refine wpAny_bind (wpAny_handled ?_);first|rw[show A.in1.handled=none from hh]|rw[hh]
 refine wpAny_bind (wpAny_pure (wpAny_throw ?_));refine wpAny_bind (wpAny_isInstance (T:="StopIteration") (b:=true) ⟨_,Heap.get?_push_size _ rfl,rfl⟩ isSubtype_stop ?_);exact wpAny_pure (hQ _ ((((Heap.SameBut.update ..).extBut.trans (Heap.SameBut.update ..).extBut).push _).push _))
theorem uy{it t:Addr}{i:Int}{Q:Value->Shared->Prop}(hit:gq s.heap it t i)(h:Q (.ref it) s):wpAny (model prog w) A (pyIter (.ref it)) Q E s:=by
 refine wpAny_pyIter_slot hit.typeIs sN (wpAny_call_entry sN hit.typeIs yT ?_ (AM _));show wpAny _ _ (ret (.ref it)) _ _ s;exact wpAny_pure ⟨_,rfl,"reversed",_,hit.typeIs,slot_next.lookup,h⟩
theorem CK{it t:Addr}{items:Array Value}{Q:Bool->Shared->Prop}(hit:gq s.heap it t ((items.size:Int) - 1))(ht:IsTup s.heap t items)(hfit:items.size<=sizeLine)
  (h:∀tk,Q ((items.size:Int) != 0) { s with toks:=tk }):wpAny (model prog w) A (Builtin.List.listLengthHint (.ref it)) Q E s:=by
 obtain⟨o,ho,hc,hd⟩:=id hit;unfold Builtin.List.listLengthHint;refine wpAny_bind (wpAny_specialOf hit.typeIs KU ?_);refine wpAny_ite_split (λhab=>absurd hab (by decide +kernel)) (λ_=>?_);refine wpAny_ite_split (λhab=>absurd hab (by decide)) (λ_=>?_);refine wpAny_bind (wpAny_specialOf hit.typeIs mX.lookup ?_);generalize hid:("reversed.__length_hint__" : String)=Te
 dsimp only;rw[show splitId Te=some ("reversed","__length_hint__")from by subst hid;decide +kernel];subst hid;dsimp only;refine wpAny_bind (wpAny_isInstance (T:="reversed") (b:=true) hit.typeIs (by rw[isSubtype_type];kernel_rfl) ?_);refine wpAny_ite_split (λhab=>absurd hab (by decide)) (λ_=>?_);refine wpAny_ite_split (λhab=>absurd hab (by decide +kernel)) (λ_=>?_);refine wpAny_bind (wpAny_rule ?_);refine wpAny_bind (wpAny_of_eq (mX.bind _) ?_);refine wpAny_bind (wpAny_attempt (wpAny_call_entry mX hit.typeIs yU ?_ (AN _)));unfold Builtin.«reversed.__length_hint__»;refine wpAny_bind (wpAny_of_eq (a:=Value.ref it) rfl ?_);refine wpAny_bind (wpAny_field ho hd (x:=.ref t) rfl ?_);refine wpAny_ite_split (λhab=>absurd hab Bool.false_ne_true) (λ_=>?_);have hf2:(items.size:Int)<2 ^ 63:=by rw[sizeLine_eq]at hfit;omega
 refine wpAny_bind (len_tuple ht hf2 ?_);refine wpAny_bind (m:=asInt? _) (wpAny_pure ?_);refine wpAny_bind (wpAny_field ho hd (x:=rawInt ((items.size:Int) - 1)) rfl ?_);show wpAny _ _ (if (items.size:Int)<(items.size:Int) - 1+1 then _ else _) _ _ _;rw[if_neg (by omega)];have e1:(items.size:Int) - 1+1=(items.size:Int):=by omega
 rw[e1];unfold retInt;refine wpAny_bind (wpAny_mkInt (wpAny_pure ⟨_,rfl,?_⟩));generalize s.toks+1+1=tk
 show wpAny _ _ (asInt? (Value.int (items.size:Int) tk) >>= _) _ _ _;refine wpAny_bind ?_;refine wpAny_pure (a:=some (items.size:Int)) ?_;have Tf:Builtin.List.listFitsIndex (items.size:Int)=true:=by unfold Builtin.List.listFitsIndex;rw[decide_eq_true (by omega),decide_eq_true (by omega)];rfl
 show wpAny _ _ (if (!Builtin.List.listFitsIndex (items.size:Int))=true then _ else _) _ _ _;rw[if_neg (by rw[Tf];decide)];show wpAny _ _ (if (items.size:Int)<0 then _ else _) _ _ _;rw[if_neg (by omega)];have Tg:Builtin.List.listTooLong ((items.size:Int).toNat)=false:=by unfold Builtin.List.listTooLong;rw[Int.toNat_natCast];exact decide_eq_false (by omega)
 show wpAny _ _ (if Builtin.List.listTooLong ((items.size:Int).toNat)=true then _ else _) _ _ _;rw[if_neg (by rw[Tg];decide)];exact wpAny_pure (h _)
theorem _root_.PySem.Walks.KY(hh:A.handled=none)(I t:Addr)(hne:t≠I)(items:Array Value)(hfit:(items.size:Int)<2 ^ 62) :
  Walks prog w A I [I,t] [I] items.size (λi v=>items[items.size - 1 - i]?=some v) (λi h=>i<=items.size/\gq h I t ((items.size:Int) - 1 - (i:Int))/\IsTup h t items) where
 sub:=λb hb=>by simp at hb;simp[hb]
 frame:=λ_ _ _ x hk=>⟨x.1,x.2.1.at λo e=>hk I (by simp) o e,nJ x.2.2 λo e=>hk t (by simp) o e⟩
 item:=λi s Q E hi x hQ=>by
  have e:(items.size:Int) - 1 - (i:Int)=((items.size - 1 - i:Nat):Int):=by omega
  have hit:=x.2.1;rw[e]at hit;have hx:items[items.size - 1 - i]?=some (items[items.size - 1 - i]'(by omega)):=Array.getElem?_eq_getElem (by omega);refine next_item hit x.2.2 hx hfit λh' tk KZ hs'=>?_;have e2:((items.size - 1 - i:Nat):Int) - 1=(items.size:Int) - 1 - ((i+1:Nat):Int):=by omega
  rw[e2]at KZ;exact hQ _ h' tk hx ⟨hi,KZ,nJ x.2.2 λo eo=>(hs'.2 t hne).trans eo⟩ λb o hb eo=>hs'.extBut b o (λh=>hb (by simp[h])) eo
 done:=λs Q E x hQ=>by
  have e:(items.size:Int) - 1 - (items.size:Int) = -1:=by omega
  have hit:=x.2.1;rw[e]at hit;exact next_end hh hit λh' he'=>hQ h' s.toks λb o hb eo=>he' b o (λh=>hb (by simp[h])) eo
 self:=λ_ _ _ _ x hQ=>uy x.2.1 hQ
theorem yV{R:Result->Shared->Prop}{I t:Addr}{items:Array Value}(hh:A.handled=none)(hit:gq s.heap I t ((items.size:Int) - 1))(ht:IsTup s.heap t items)(hne:t≠I)(hlen:items.size<=sizeLine)
  (S:Addr) (hSI:S≠I) (hSt:S≠t) (res:Value) (c₀:Nat) (hS:s.heap.get? S=some { cls:=.type "list",data:=.seq #[] c₀ })
  (hR:∀h' tk acc' c',(∀b o,b≠S->b≠I->s.heap.get? b=some o->h'.get? b=some o)->h'.get? S=some { cls:=.type "list",dict:=none,data:=.seq acc' c',slots:=#[]}->
   ItemsOf (λi v=>items[items.size - 1 - i]?=some v) acc' items.size->R (.ok (.ret res)) { s with heap:=h',toks:=tk }) :
  wpAny (model prog w) A.in1 (Builtin.List.listExtendWith (.ref S) (.ref I) res)
   (λfin s'=>match fin with|.done f=>R (.ok f) s'|.again c'=>c'.quiet=true/\codeAny (model prog w) A c' R s') (λe s'=>R (.error e) s') s:=by
 have hf:(items.size:Int)<2 ^ 62:=by rw[sizeLine_eq]at hlen;omega
 have hSf:S∉[I,t]:=λhm=>by rcases List.mem_cons.mp hm with e|e;exact hSI e;exact hSt (List.mem_singleton.mp e)
 have W:=(Walks.KY (prog:=prog) (w:=w) (A:=A.in1) hh I t hne items hf).toS;have key:∀(h:Heap) (c₁ tk:Nat),gq h I t ((items.size:Int) - 1 - ((0:Nat):Int))->IsTup h t items->(∀b o,b≠S->s.heap.get? b=some o->h.get? b=some o)->
   h.get? S=some { cls:=.type "list",data:=.seq #[] c₁ }->codeAny (model prog w) A (.builtin "list.extend.loop" ⟨[.ref S,.ref I,res],[]⟩) R { s with heap:=h,toks:=tk }:=by
  intro h c₁ tk hit ht hk NY;refine codeAny_extend_loopS W hlen S hSf res items.size 0 _ #[] c₁ rfl (Nat.zero_le _) ⟨Nat.zero_le _,hit,ht⟩ NY (ItemsOf.nil _) λs' acc' c' hm hS' hacc=>?_;rw[Moved.eq_with hm];refine hR s'.heap s'.toks acc' c' (λb o hb hb2 e=>hm.heap b o (λhmem=>?_) (hk b o hb e)) hS' hacc;rcases List.mem_cons.mp hmem with e'|hmem
  .exact hb e'
  .exact hb2 (List.mem_singleton.mp hmem)
 unfold Builtin.List.listExtendWith;refine wpAny_bind (wpAny_typeOf (T:="reversed") hit.typeIs ?_);have h1:Builtin.List.listSameRef (.ref S) (.ref I)=false:=by simp[Builtin.List.listSameRef,hSI]
 have h2:(Value.type "reversed" ==Value.type "list")=false:=by decide
 have h3:(Value.type "reversed" ==Value.type "tuple")=false:=by decide
 simp only[h1,h2,h3,Bool.or_false,Bool.false_eq_true,if_false];refine wpAny_bind (uy hit ?_);refine wpAny_bind (wpAny_holding (CK hit ht hlen λtk=>?_));have K0:gq s.heap I t ((items.size:Int) - 1 - ((0:Nat):Int)):=by simpa using hit
 refine wpAny_ite_split (λ_=>?_) (λ_=>wpAny_pure ⟨plainId_quiet F.plain_extend_loop _,key _ c₀ _ K0 ht (λb o _ e=>e) hS⟩);refine wpAny_bind (wpAny_rule ?_);refine wpAny_bind ?_;show wpAny _ _ (updateSeq S (·.push .none) >>= λ_=>updateSeq S (·.pop)) _ _ _;refine wpAny_bind (wpAny_updateSeq hS rfl ?_);have tM:=Heap.get?_update_self (Obj.mapSeq (·.push Value.none)) hS rfl;refine wpAny_updateSeq (hz:=by seq_fits) tM rfl ?_;have NZ:=Heap.get?_update_self (Obj.mapSeq (·.pop)) tM rfl;have ot:∀b o,b≠S->s.heap.get? b=some o->((s.heap.update S (Obj.mapSeq (·.push Value.none))).update S (Obj.mapSeq (·.pop))).get? b=some o:=λb o hb e=>(Heap.get?_update_other _ _ (Ne.symm hb)).trans ((Heap.get?_update_other _ _ (Ne.symm hb)).trans e);exact wpAny_pure ⟨plainId_quiet F.plain_extend_loop _,key _ _ _ (K0.at λo e=>ot _ _ (Ne.symm hSI) e) (nJ ht λo e=>ot _ _ (Ne.symm hSt) e) ot NZ⟩
theorem CL{R:Result->Shared->Prop}{I t:Addr}{items:Array Value}(hh:A.handled=none)(hit:gq s.heap I t ((items.size:Int) - 1))(ht:IsTup s.heap t items)(hne:t≠I)(hlen:items.size<=sizeLine)
  (S:Addr) (hSI:S≠I) (hSt:S≠t) (hS:s.heap.get? S=some { cls:=.type "list",data:=.seq #[]})
  (hR:∀h' tk acc' c',(∀b o,b≠S->b≠I->s.heap.get? b=some o->h'.get? b=some o)->h'.get? S=some { cls:=.type "list",dict:=none,data:=.seq acc' c',slots:=#[]}->
   ItemsOf (λi v=>items[items.size - 1 - i]?=some v) acc' items.size->R (.ok (.ret .none)) { s with heap:=h',toks:=tk }) :
  wpAny (model prog w) A.in1 (Builtin.«list.__init__» ⟨[.ref S,.ref I],[]⟩)
   (λfin s'=>match fin with|.done f=>R (.ok f) s'|.again c'=>c'.quiet=true/\codeAny (model prog w) A c' R s') (λe s'=>R (.error e) s') s:=by
 show wpAny _ _ (do let old <-Builtin.List.listItems (.ref S);Builtin.List.listUpdate (.ref S) (λ_=>#[]);letGo old.toList.reverse;Builtin.List.listExtendWith (.ref S) (.ref I) .none) _ _ s;refine wpAny_bind ?_;unfold Builtin.List.listItems;refine wpAny_bind (wpAny_seqItems hS rfl (wpAny_pure ?_));show wpAny _ _ (updateSeq S (λ_=>#[]) >>= λ_=>letGo (#[]:Array Value).toList.reverse >>= λ_=>Builtin.List.listExtendWith (.ref S) (.ref I) .none) _ _ s;refine wpAny_bind (wpAny_updateSeq hS rfl ?_);have tM:=Heap.get?_update_self (Obj.mapSeq (λ_=>(#[]:Array Value))) hS rfl;have K3:∀b o,b≠S->s.heap.get? b=some o->(s.heap.update S (Obj.mapSeq (λ_=>(#[]:Array Value)))).get? b=some o:=
  λb o hb e=>(Heap.get?_update_other _ _ (Ne.symm hb)).trans e
 refine wpAny_bind (wpAny_letGo ?_);refine yV hh (hit.at λo e=>K3 _ _ (Ne.symm hSI) e) (nJ ht λo e=>K3 _ _ (Ne.symm hSt) e) hne hlen S hSI hSt .none _ tM λh' tk acc' c' hk hS' hacc=>?_;exact hR h' tk acc' c' (λb o hb hb2 e=>hk b o hb hb2 (K3 b o hb e)) hS' hacc
theorem tD{Q:Value->Shared->Prop}{I t:Addr}{items:Array Value}(hh:A.handled=none)(hit:gq s.heap I t ((items.size:Int) - 1))(ht:IsTup s.heap t items)(hne:t≠I)(hlen:items.size<=sizeLine)
  (hQ:∀h' tk acc' c',(∀b o,b≠I->s.heap.get? b=some o->h'.get? b=some o)->
   h'.get? s.heap.objs.size=some { cls:=.type "list",dict:=none,data:=.seq acc' c',slots:=#[]}->ItemsOf (λi v=>items[items.size - 1 - i]?=some v) acc' items.size->Q (.ref s.heap.objs.size) { s with heap:=h',toks:=tk }) :
  wpAny (model prog w) A (call (.type "list") [.ref I]) Q E s:=by
 refine callType_codes (Q₁:=λobj s₁=>obj=.ref s.heap.objs.size/\s₁={ s with heap:=s.heap.push { cls:=.type "list",data:=.seq #[]}}) F.called_list (F.typeCall_list_1 _) F.entry_list_init
  (code_list_new _ ⟨rfl,rfl⟩) λobj s₁ h₁=>?_
 obtain⟨rfl,rfl⟩:=h₁;have hS:(s.heap.push { cls:=.type "list",data:=.seq #[]}).get? s.heap.objs.size=some { cls:=.type "list",data:=.seq #[]}:=Heap.get?_push_size _ rfl;have hI:I<s.heap.objs.size:=by obtain⟨o,ho,_⟩:=hit;exact Heap.lt_size ho
 have hT:t<s.heap.objs.size:=by obtain⟨o,ho,_⟩:=ht;exact Heap.lt_size ho
 refine⟨⟨_,hS,rfl⟩,F.args_list_init_2 _ _,CL (A:=A.in1) hh (hit.at λo e=>Heap.get?_push_of_some _ e) (nJ ht λo e=>Heap.get?_push_of_some _ e) hne hlen _ (Nat.ne_of_gt hI) (Nat.ne_of_gt hT) hS λh' tk acc' c' hk hS' hacc=>?_⟩;exact⟨rfl,hQ h' tk acc' c' (λb o hb e=>hk b o (Nat.ne_of_lt (Heap.lt_size e)) hb (Heap.get?_push_of_some _ e)) hS' hacc⟩
end
end Rv
namespace Sm
open PySem PySem.Spec PyProof.Rows L2 PySem.SeqAt
open Ev (D O Hh Fr R aG E Es Eo T S Ss Fl Src bw bq TY BI ME)
section
variable{X:Cx}{G:Tb}{n:Nat}{sc:Scope}{N:List Str}{df:Bool}{m:List Nat}{a b c:E}{xa xb xc tg:Expr}{pos:Pos}
theorem CM{vs:List V}{us:List Value}(r:Vals vs us){acc:Array Value}(h:ItemsOf (λi v=>us.toArray[us.toArray.size - 1 - i]?=some v) acc us.toArray.size):Vals vs.reverse acc.toList:=by
 obtain⟨h1,h2⟩:=h;have e:acc.toList=us.reverse:=by
  apply List.ext_getElem?;intro i;by_cases hi:i<us.length
  .have ha:i<acc.size:=by rw[h1];simpa using hi
   have:=h2 i _ (Array.getElem?_eq_getElem ha);rw[List.getElem?_reverse hi];simp only[List.size_toArray,List.getElem?_toArray]at this;rw[this];simp[ha]
  .have hs:acc.size=us.length:=by rw[h1];simp
   rw[List.getElem?_eq_none (by rw[Array.length_toList];omega),List.getElem?_eq_none (by rw[List.length_reverse];omega)]
 rw[e];exact Vals.reverse r
theorem GU {p p2 pos2:Pos}(ha:JE G n sc N df m a xa) (h1:("list" : Str)∈G.bl:=by decide +kernel) (KR:sc.names.lookup ("list" : Str)=some .globalImplicit:=by rfl)
  (hg:sc.names.lookup ("reversed" : Str)=some .globalImplicit:=by rfl) (hb:("reversed" : Str)∈G.bl:=by decide +kernel)
  (hst:∀env:Env,starEach [xa] env=[(false,eval xa env)]:=by intro _;rfl)
  (K4:∀env:Env,starEach [Expr.Call (.Name "reversed" p2) [xa] [] pos2] env=[(false,eval (Expr.Call (.Name "reversed" p2) [xa] [] pos2) env)]:=by intro _;rfl) :
  JE G n sc N df m (.gQ (.rev a)) (.Call (.Name "list" p) [.Call (.Name "reversed" p2) [xa] [] pos2] [] pos):=λX g=>by
 intro pins s σ H Q I q;obtain⟨r,fr,h,d,h',sr,hr,e,q⟩:=q;rw[Ev.ev,Ev.cK]at e;replace e:=Ev.ah e;obtain⟨src,h3,e1,e⟩:=e;replace e1:=Ev.ah e1;obtain⟨x,h4,e2,e1⟩:=e1;replace e1:=Ev.aN e1;obtain⟨e1,y0⟩:=e1;subst y0;refine wpAny_Call_Name_kw (kC I (g.gl KR) (g.bl _ h1) (show bootBuiltins ("list" : Str)=some (.type "list")by decide +kernel) ?_ (by decide) (by decide));refine PyProof.Rows.callWith_type1 ?_ (K4 _) rfl;rw[K4];show wpAny _ _ (spliced ((false,eval (Expr.Call (.Name "reversed" p2) [xa] [] pos2) X.env) :: backTo pos [])) _ _ s;refine Calls.spliced_cons ?_;have Ti:PA X [xa] _:=fD (ha X g) kE (by rw[hst];rfl);refine Call_ (kC I (g.gl hg) (g.bl _ hb) (show bootBuiltins ("reversed" : Str)=some (.type "reversed")by decide +kernel) (PyProof.Rows.callWith_type1 (bJ (Ti pos2 pins s σ H (λvs H1=>∃r1 u,vs=[u]/\RV X.K H1 r1 x u/\HR X.K H1 r1 h3/\Fm X.K r r1 H H1) I ⟨r,fr,h,x,h3,sr,hr,e2,λu H1 r1 v1 hr1 f1=>⟨r1,u,rfl,v1,hr1,f1⟩⟩) λus s1 z=>?_) (hst _) rfl));obtain⟨vs,H1,I1,rv,r1,u,rfl,v1,hr1,f1⟩:=z;cases x<;>simp only[Ev.Cu,Option.map,reduceCtorEq]at e1
 rename_i ds;cases e1;obtain⟨t,ws,rfl,z,w⟩:=v1.shape;cases rv with
 |cons ra rb=>
 cases rb;cases ra;obtain⟨its,pv,pt,hz⟩:=I1.tuple z;have hlen:its.toArray.size<=sizeLine:=by rw[List.size_toArray,<-pv.length];exact hz
 have hf:(its.toArray.size:Int)<2 ^ 63:=by rw[sizeLine_eq]at hlen;omega
 refine Rv.CJ pt hf ?_;refine Calls.spliced_nil ?_;have I2:Inv X pins σ H1 { s1 with heap:=s1.heap.push (Rv.nI t ((its.toArray.size:Int) - 1)),toks:=s1.toks+1+1 }:=I1.kept λb o e=>Heap.get?_push_of_some _ e;have hne:t≠s1.heap.objs.size:=by obtain⟨o,ho,_⟩:=pt;exact Nat.ne_of_lt (Heap.lt_size ho)
 refine Rv.tD (I1.ok.hd g.calm) ⟨_,Heap.get?_push_size _ rfl,rfl,rfl⟩ (Rv.nJ pt λo e=>Heap.get?_push_of_some _ e) hne hlen λh' tk acc' c' hk hS' hacc=>?_;obtain⟨hz2,q2⟩:=(q.later f1).lst e w.reverse hr1;have hp:s1.heap.objs.size<=(s1.heap.push (Rv.nI t ((its.toArray.size:Int) - 1))).objs.size:=by rw[size_push'];exact Nat.le_succ _
 refine⟨.ref _,_,I1.laid (t':=tk) (o:=.lst ws.reverse) (λb u e=>hk b u (Nat.ne_of_lt (Heap.lt_size e)) (Heap.get?_push_of_some _ e)) hp ?_,rfl,q2 _ (I1.hok.fresh hp)⟩;exact⟨by simpa using hz,acc'.toList,c',CM pv hacc,by simpa using hS'⟩
end
end Sm
set_option maxRecDepth 100000
set_option maxRecDepth 100000
namespace Sm
open PySem PySem.Spec PyProof.Rows L2 PySem.SeqAt
open Ev (D O Hh Fr R aG E Es Eo T S Ss Fl Src bw bq TY BI ME)
end Sm
set_option maxRecDepth 100000
namespace Sm
open PySem PySem.Spec PyProof.Rows L2 PySem.SeqAt
open Ev (D O Hh Fr R aG E Es Eo T S Ss Fl Src bw bq TY BI ME)
end Sm
set_option maxRecDepth 100000
namespace Sm
open PySem PySem.Spec PyProof.Rows L2 PySem.SeqAt
open Ev (D O Hh Fr R aG E Es Eo T S Ss Fl Src bw bq TY BI ME)
section
variable{G:Tb}{n:Nat}{sc:Scope}{N:List Str}{df:Bool}{m:List Nat}{a b c:E}{xa xb xc:Expr}{pos:Pos}
end
end Sm
set_option maxRecDepth 100000
namespace Sm
open PySem PySem.Spec PyProof.Rows L2 PySem.SeqAt
open Ev (D O Hh Fr R aG E Es Eo T S Ss Fl Src bw bq TY BI ME)
theorem aH.ofInts{K:PySem.W.Frag}{H:Hp}{r:List Addr}:∀ns:List Int,aH K H r (ns.map D.int) (ns.map V.int)
 |[]=>.nil
 |_ :: l=>.cons rfl (aH.ofInts l)
theorem K5{K:PySem.W.Frag}{H:Hp}{a:Addr}{vs:List V}(hO:qQ H)(hS:eX K H a vs):yD K H a vs:=by
 rcases hS with h|h
 .rcases h with h|⟨o,h⟩
  .rcases hO a with q|⟨o,xs,q⟩
   .rw[q]at h;cases h
   .rw[q]at h;cases h
  .exact .inl ⟨o,h⟩
 .exact .inr h
theorem N1{K:PySem.W.Frag}{F:List Ev.Fn}{w n f:Nat}{H:Hp}{a:Addr}{ns:List Int}(hO:qQ H)(hS:eX K H a (ns.map V.int)){h':Hh}(e:Ev.run F w n f [.ref 0] [.bS (ns.map D.int)]=.ok (.bl true) h') :
  lW K F w n f [.ref a] H (λv _=>v=.bl true) λ_ _ _=>False:=by
 refine⟨[a],[.bS (ns.map D.int)],[.ref 0],.bl true,h',.cons (show RV K H [a] (.ref 0) (.ref a)from ⟨a,rfl,rfl⟩) .nil,⟨rfl,λk o hk=>?_,λk l b x y _ _ hk _=>?_
  ⟩,e,λv H' r' v1 _ _=>v1⟩
 .cases k with
  |zero=>
   simp at hk;subst hk;exact⟨a,rfl,_,K5 hO hS,aH.ofInts ns⟩
  |succ k=>simp at hk
 .cases k with
  |zero=>simp at hk
  |succ k=>simp at hk
theorem GV{F:List Ev.Fn}{wh n f:Nat}{l:PySem.W.OpenLaw}{q:Program}{loose:List Str}{XP:(Str->Option Value)->Heap->Prop}{YP:World->Heap->Prop}{d:DefRec}{K:Params->PySem.W.Frag}{x:Str}(hn:l.most=some 63)(hdf:d.params.defaults=[])(hr:gp n callerA)
  (hY:∀(w:World) (h:Heap),YP w h->(K w.params).In h) (good:∀ns:List Int,ns.length<=63->∃h',Ev.run F wh n f [.ref 0] [.bS (ns.map D.int)]=.ok (.bl true) h')
  (Fo:∀(w:World) (mg:Str->Option Value) (fa:Addr) (h:Heap),(K w.params).In h->h.Ns mainGlobals mg->mg d.name=some (.ref fa)->
   ∃fd:FuncData,(∀(s:Shared) (u:Value),BindsTo s fd ⟨[u],[]⟩ [(x,u)])/\∀base:Heap,(K w.params).In base->base.Ns mainGlobals mg->eO l.prog w (K w.params) mg base jk n fa fd [x] (lW (K w.params) F wh n f)) :
  PySem.W.WalkO q loose XP YP l.row.toRowW d [] (λf vs=>PySem.call f vs):=
 L2.Cs (n:=63) (k:=n) (x:=x) (CX:=jk) (sp:=λK=>lW K F wh n f) hn (by decide) hdf hr hY Fo (λK H a ns hl hO hS=>by
  obtain⟨h',e⟩:=good ns hl;exact N1 hO hS e) λ_ _ _ _ z=>z
structure At(K:PySem.W.Frag)(x:Str)(st:Stmt)(i:FI):Prop where
 name:i.name=x
 ns:PySem.W.nsIn K mainGlobals x=some (some (.ref i.addr))
 fu:lU K x x st i.addr i.fd
 bd:Binds K i.fd i.ps []
end Sm
set_option maxRecDepth 100000
namespace Sm
open PySem PySem.Spec PyProof.Rows L2
open Ev (D O Hh Fr R aG E Es Eo It T S Ss Fl Src bw bq TY BI ME)
section
variable{G:Tb}{n:Nat}{sc:Scope}{N:List Str}{df:Bool}{m:List Nat}{a b c:E}{xa xb xc:Expr}{pos:Pos}
noncomputable def hasB(N:List Str)(m:List Nat)(x:Str)(i:Nat):Bool:=(List.range N.length).any λj=>m[j]?==some i&&N[j]?==some x
theorem hasB.of{x:Str}{i:Nat}(h:hasB N m x i=true):∃j:Nat,m[j]?=some i/\N[j]?=some x:=by
 obtain⟨j,_,q⟩:=List.any_eq_true.mp h;rw[Bool.and_eq_true]at q;exact⟨j,by simpa using q.1,by simpa using q.2⟩
noncomputable def vB (sc:Scope) (N:List Str) (m:List Nat) (x:Str) (i:Nat):Bool:=hasB N m x i&&(sc.names.lookup x==some .local ||sc.names.lookup x==some .cell ||sc.names.lookup x==some .free)&&!(x==("__debug__" : Str))&&!(x==("__classdict__" : Str))
theorem jv{x:Str}{i:Nat}(h:vB sc N m x i=true):JE G n sc N df m (.v i) (.Name x pos):=by
 unfold vB at h;simp only[Bool.and_eq_true,Bool.not_eq_true',Bool.or_eq_true]at h;obtain⟨⟨⟨h1,h2⟩,h3⟩,h4⟩:=h;obtain⟨j,e1,e2⟩:=hasB.of h1;exact Q2 j i e1 e2 (by rcases h2 with (h2|h2)|h2;exact .inl (by simpa using h2);exact .inr (.inl (by simpa using h2));exact .inr (.inr (by simpa using h2))) h3 h4
noncomputable def gB(sc:Scope)(N:List Str)(df:Bool)(m:List Nat)(x:Str)(i:Nat):Bool:=hasB N m x i&&(sc.names.lookup x==some .local || (df&&sc.names.lookup x==some .cell))&&decide m.Nodup&&decide N.Nodup
theorem gB.of{x:Str}{i:Nat}(h:gB sc N df m x i=true):∃j:Nat,m[j]?=some i/\N[j]?=some x/\(sc.names.lookup x=some .local\/(df=true/\sc.names.lookup x=some .cell))/\m.Nodup/\N.Nodup:=by
 unfold gB at h;simp only[Bool.and_eq_true,Bool.or_eq_true]at h;obtain⟨⟨⟨h1,h2⟩,h3⟩,h4⟩:=h;obtain⟨j,e1,e2⟩:=hasB.of h1;exact⟨j,e1,e2,by rcases h2 with h2|⟨h2,h5⟩;exact .inl (by simpa using h2);exact .inr ⟨h2,by simpa using h5⟩,of_decide_eq_true h3,of_decide_eq_true h4⟩
theorem Tj{x:Str}{i:Nat}(h:gB sc N df m x i=true):JG G n sc N df m (.one i) (.Name x pos):=by
 obtain⟨j,e1,e2,e3,e4,e5⟩:=gB.of h;exact J8 j i e4 e5 e1 e2 e3
theorem To{x:Str}{i:Nat}{l:List Nat}{xs:List Expr}(h:gB sc N df m x i=true)(hs:sA G n sc N df m l xs):sA G n sc N df m (i :: l) (.Name x pos :: xs):=by
 obtain⟨j,e1,e2,e3,e4,e5⟩:=gB.of h;exact Cy j i e4 e5 hs e1 e2 e3
theorem Rb{i:Nat}{x:Str}{pos':Pos}(h:gB sc N df m x i=true)(ha:JE G n sc N df m a xa)(hs:∀env:Env,swapsWith xa (some (.Name x pos')) pos.line env=pure false:=by intro _;rfl):JS G n sc N df m (.set i a) (.Assign [.Name x pos'] xa pos):=by
 obtain⟨j,e1,e2,e3,e4,e5⟩:=gB.of h;exact J9 j i e4 e5 ha hs e1 e2 e3
noncomputable def qd (sc:Scope) (x:Str):Bool:=sc.names.lookup x==some .globalImplicit&&!(x==("__debug__" : Str))
theorem PJ{f:Nat}{i:FI}{es:Es}{x:Str}{e0:Expr}{xs:List Expr}{p:Pos}(h:qd sc x=true)(hf:G.fi[f]?=some i)(hx:i.name=x)(hs:JA G n sc N df m es (e0 :: xs))
  (hst:∀env:Env,starEach (e0 :: xs) env=(false,eval e0 env) :: starEach xs env:=by intro _;rfl) (hpl:∀env:Env,(backTo pos (starEach xs env)).any (·.1)=false:=by intro _;rfl) :
  JE G n sc N df m (.cl f es) (.Call (.Name x p) (e0 :: xs) [] pos):=by
 subst hx;unfold qd at h;simp only[Bool.and_eq_true,Bool.not_eq_true']at h;exact NR hf hs (by simpa using h.1) h.2 hst hpl
noncomputable def Tp:Expr->List Str
 |.Name x _=>[x]
 |.Tuple xs _ _=>xs.filterMap λy=>match y with|.Name x _=>some x|_=>none
 |_=>[]
noncomputable def PK(N:List Str)(m:List Nat)(scope:Scope):List (Str×Nat):=(N.zip m).filter λp=>scope.names.contains (p.1,NameKind.free)
noncomputable def cN(N:List Str)(m:List Nat)(scope:Scope)(tg:Expr):List Str:=Tp tg++(PK N m scope).map (·.1)
noncomputable def cM(N:List Str)(m:List Nat)(scope:Scope)(t:T):List Nat:=Ev.slots t++(PK N m scope).map (·.2)
theorem N3{elt:E}{t:T}{it:Ev.It}{cond:Eo}{tg xi xe:Expr}{ifs:List Expr}{scope:Scope}(hn:uq sc N m scope t (cN N m scope tg) (cM N m scope t)=true)(hs:Kg sc scope=true)
  (hi:JI G n sc N df m it tg xi) (hg:JG G n (iz sc scope) (cN N m scope tg) false (cM N m scope t) t tg) (hc:JC G n (iz sc scope) (cN N m scope tg) false (cM N m scope t) cond ifs)
  (he:JE G n (iz sc scope) (cN N m scope tg) false (cM N m scope t) elt xe) (hf:∀(env:Env) x,foldedSetIterable xi env x=pure x:=by intro _ _;rfl):JE G n sc N df m (.comp elt t it cond) (.ListComp xe [⟨tg,xi,ifs,0⟩] scope pos):=
 GI hi hg hc he (namesOk.of hn) (mT.of hs) hf
theorem Rc{rest:List Expr}(ha:JT G n sc N df m a xa)(hb:JW G n sc N df m b (.BoolOp .And (xb :: rest) pos)):JT G n sc N df m (.an a b) (.BoolOp .And (xa :: xb :: rest) pos):=JX (Ef ha hb)
theorem Rf{rest:List Expr}(ha:JT G n sc N df m a xa)(hb:JW G n sc N df m b (.BoolOp .Or (xb :: rest) pos)):JT G n sc N df m (.orr a b) (.BoolOp .Or (xa :: xb :: rest) pos):=JX (Ar ha hb)
noncomputable def allB(G:Tb)(n:Nat):List (Ss×Stmt×List Str)->Prop
 |[]=>True
 |p :: r=>jL G n (ay p.2.1) p.2.2 true (List.range p.2.2.length) p.1 (cW p.2.1)/\allB G n r
theorem allB.get:∀{l:List (Ss×Stmt×List Str)}{k:Nat}{p:Ss×Stmt×List Str},allB G n l->l[k]?=some p->jL G n (ay p.2.1) p.2.2 true (List.range p.2.2.length) p.1 (cW p.2.1)
 |[],_,_,_,e=>nomatch e
 |_ :: _,0,_,h,e=>by cases e;exact h.1
 |_ :: r,k+1,p,h,e=>allB.get (l:=r) (k:=k) h.2 (by simpa using e)
end
end Sm
set_option maxRecDepth 100000
namespace Sm
open PySem PySem.Spec PyProof.Rows L2 PySem.W
noncomputable def XI(h:Heap)(x C:Addr):Prop:=∃ox:Obj,h.get? x=some ox/\ox.cls=.ref C/\∃vs,ox.data=.fields vs
structure XC(K:PySem.W.Frag)(C:Addr):Prop where
 ob:∃nm q N bs bm hdct sn sub ab col dd k0 k1 k2 k3 k5 newId,K.lookup C=some (excClassObj nm q C N bs bm hdct sn sub ab col dd k0 k1 k2 k3 k5 newId)/\∀h:Heap,K.In h->OwnTailQ h [.type "ValueError",.type "Exception",.type "BaseException",.type "object"] bm
 ga:findIn K (.ref C) "__getattribute__" = some (some (.builtin "BaseException.__getattribute__"))
 gh:findIn K (.ref C) "__getattr__" = some none
 cl:findIn K (.ref C) "__class__" = some (some (.builtin "object.__class__"))
 so:subIn K (.ref C) (.type "object")=some true
 me:kitCls K (.ref C) (.ref C)=some true
section
variable{prog:Program}{w:World}{A:Around}{E:Value->Shared->Prop}{s:Shared}{K:PySem.W.Frag}{x C:Addr}
theorem nK{M:Model}{h:Heap}(i:XI h x C):Looks M h (typeOf (.ref x)) (.ref C):=λA Q E s k q=>by
 obtain⟨ox,h1,h2,_⟩:=i;exact wpAny_typeOf_ref (k _ _ h1) (by rw[h2];exact q)
theorem K6 {R:Result->Shared->Prop}{tp:Value}(cY:K.In s.heap) (i:XI s.heap x C) (so:subIn K (.ref C) (.type "object")=some true) (h:R (.ok (.ret (.ref C))) s) :
  codeAny (model prog w) A (.call (.builtin "getset_descriptor.__get__") ⟨[.builtin "object.__class__",.ref x,tp],[]⟩) R s:=by
 refine codeAny_call_builtin (by decide +kernel) KF.entry_gs (KF.slot_gs.check _ _ _ _ _ _ _ _ KF.type_class (KF.args_gs _ _ _) ?_);unfold Builtin.«getset_descriptor.__get__» Builtin.Getset_descriptor.descrGet;rw[dga_obj];show wpAny _ _ (do Builtin.Getset_descriptor.descrCheckInstance (.builtin "object.__class__") (.ref x);again _) _ _ _;refine wpAny_bind ?_;unfold Builtin.Getset_descriptor.descrCheckInstance;have e1:Builtin.Getset_descriptor.descrNameAndClass (.builtin "object.__class__")=pure (("__class__" : Str),Value.type "object"):=by kernel_rfl
 rw[e1];show wpAny _ _ (do let b <-isInstance (.ref x) (.type "object");_) _ _ _;refine wpAny_bind ?_;unfold isInstance;refine wpAny_bind (nK i _ _ _ _ (λ_ _ e=>e) ?_);refine looks_subIn cY so _ _ _ _ (λ_ _ e=>e) ?_;refine wpAny_pure ?_;refine wpAny_pure ⟨by kernel_rfl,?_⟩;refine codeAny_builtin KF.entry_class ?_;show wpAny _ _ (do let t <-shownTypeOf (.ref x);ret t) _ _ _;refine wpAny_bind ?_;unfold shownTypeOf;refine wpAny_bind (nK i _ _ _ _ (λ_ _ e=>e) ?_);refine wpAny_pure ?_;exact wpAny_pure h
theorem GW {M:Model}{h:Heap}(cY:K.In h) (cl:findIn K (.ref C) "__class__" = some (some (.builtin "object.__class__"))):Looks M h (Builtin.ObjectAttr.find (.ref x) (.ref C) "__class__") (.bind (.builtin "getset_descriptor.__get__") (.builtin "object.__class__")):=λA Q E s k q=>by
 unfold Builtin.ObjectAttr.find;refine wpAny_bind (looks_findIn cY cl _ _ _ _ k ?_);refine wpAny_bind ?_;show wpAny _ _ (specialOf _ _) _ _ _;unfold specialOf;rw[KF.type_class];show wpAny _ _ (typeLookup (.type "getset_descriptor") _) _ _ _;refine looks_findIn cY (K:=K) (t:=.type "getset_descriptor") (r:=some (.builtin "getset_descriptor.__get__")) (by kernel_rfl) _ _ _ _ k ?_;refine wpAny_bind ?_;show wpAny _ _ (do let b <-Builtin.ObjectAttr.takesStores _;_) _ _ _;refine wpAny_bind ?_;unfold Builtin.ObjectAttr.takesStores;refine wpAny_bind ?_;unfold specialOf;rw[KF.type_class];show wpAny _ _ (typeLookup (.type "getset_descriptor") _) _ _ _;refine looks_findIn cY (K:=K) (t:=.type "getset_descriptor") (r:=some (.builtin "getset_descriptor.__set__")) (by kernel_rfl) _ _ _ _ k ?_;refine wpAny_pure ?_;refine wpAny_pure ?_;exact wpAny_bind (wpAny_rule (wpAny_pure q))
theorem CN {Q:Option Value->Shared->Prop}(c:XC K C) (cY:K.In s.heap) (i:XI s.heap x C) (h:Q (some (.ref C)) { s with toks:=s.toks+1 }):wpAny (model prog w) A (getAttr? (.ref x) "__class__") Q E s:=by
 obtain⟨⟨nm,q,N,bs,bm,hdct,sn,sub,ab,col,dd,k0,k1,k2,k3,k5,newId,lk,ht⟩,ga,gh,cl,so,me⟩:=c;obtain⟨ox,i1,i2,_⟩:=id i;unfold getAttr?;refine wpAny_bind (wpAny_mkText ?_);unfold getAttrBy?;refine wpAny_bind (wpAny_attempt ?_);unfold getAttrBy;refine wpAny_holding (wpAny_bind (nK i _ _ _ _ (λ_ _ e=>e) ?_));refine wpAny_bind (looks_findIn cY ga _ _ _ _ (λ_ _ e=>e) ?_);show wpAny _ _ (getAttrByItsOwn _ _ _ _ _ _) _ _ _;unfold getAttrByItsOwn;refine wpAny_bind (looks_hook cY (mc:=.ref C) (r:=none) gh _ _ _ _ (λ_ _ e=>e) ?_);refine wpAny_bind (wpAny_attempt (wpAny_holding ?_));show wpAny _ _ (boundAndCalled _ _ _) _ _ _;unfold boundAndCalled;rw[PySem.F.attrBase_ValueError.ga.bind];show wpAny _ _ (call (.builtin "BaseException.__getattribute__") [.ref x,.str "__class__" s.toks]) _ _ _;refine wpAny_call (codeAny_call_builtin (by decide +kernel) PySem.F.entry_bexc_ga (wpAny_check_ga_own PySem.F.attrBase_ValueError (cY _ _ lk) (ht _ cY) i1 i2 ?_));unfold Builtin.«object.__getattribute__»;have e1:slotArgs "__getattribute__" 1 ⟨[.ref x,.str "__class__" s.toks],[]⟩=pure (Value.ref x,[Value.str "__class__" s.toks]):=rfl;rw[e1];show wpAny _ _ (do let tp <-typeOf (.ref x);_) _ _ _;refine wpAny_bind (nK i _ _ _ _ (λ_ _ e=>e) ?_);refine wpAny_bind (GW cY cl _ _ _ _ (λ_ _ e=>e) ?_);show wpAny _ _ (do let r <-holding _ (call _ _);ret r) _ _ _;refine wpAny_bind (wpAny_holding (wpAny_call (K6 cY i so ?_)));refine wpAny_pure ?_;refine wpAny_pure ?_;exact wpAny_pure h
theorem K7(c:XC K C):KitX K (.ref x) (.ref C) (λh=>XI h x C):=by
 refine⟨λM h cY i=>nK i,λM h cY _=>(kit_cls cY c.me).2.1,λh tp dd its n sl cY e=>?_,λ{prog w A E Q s} cY i hq=>CN c cY i hq⟩;by_cases z:C=tp
 .subst z;obtain⟨nm,q,N,bs,bm,hdct,sn,sub,ab,col,dd,k0,k1,k2,k3,k5,newId,lk,ht⟩:=c.ob;have:=cY _ _ lk;rw[e]at this;have z:=congrArg Obj.cls (Option.some.inj this);injection z with z
  exact absurd z (by decide)
 .simpa using z
theorem K8(c:XC K C){D:Value}{b:Bool}(cY:K.In s.heap)(i:XI s.heap x C)(e:kitOne K (.ref C) D=some b){Q:Value->Shared->Prop}(h:∀tk,Q (.bool b) { s with toks:=tk }) :
  wpAny (model prog w) A (call (.builtin "isinstance") [.ref x,D]) Q E s:=kia_one (K7 c) cY i e (λz=>nomatch z) h
end
end Sm
set_option maxRecDepth 100000
namespace Sm
open PySem PySem.Spec PyProof.Rows L2 PySem.W
noncomputable def EA(l:List Env)(H':Hp)(h g B:Heap):Prop:=∀b o,g.get? b=some o->((H' b).isSome=true\/(h.get? b).isSome=true)->b∉frs l->B.get? b=some o
structure iI(P:Program)(w:World)(l:List Env)(H:Hp)(s:Shared)(a C:Addr)(H':Hp)(s':Shared):Prop where
 os:s'.os=s.os
 bare:AllBare s'.gens
 un:Un (frs l) [] H H' s.heap s'.heap
 hok:eK P w H' s'.heap
 fl:∃B a0,Heap.FlyingW B l a (.ref C) a0 s'.heap/\EA l H' s.heap s'.heap B
noncomputable def qe(P:Program)(w:World):kF:=λouter H s E e s'=>∃a C H',e=.ref a/\iI P w outer H s a C H' s'/\E (.ref C) none H'
theorem AQ{P:Program}{w:World}{H:Hp}{h:Heap}{a:Addr}{o:HO}(x:fG P w H h a o):∃ob,h.get? a=some ob:=by
 cases o with
 |lst xs=>obtain⟨_,_,_,_,e⟩:=x;exact⟨_,e⟩
 |tup xs=>obtain⟨_,_,_,ob,e,_⟩:=x;exact⟨_,e⟩
 |dK kvs=>obtain⟨_,_,_,_,o,_,_,e,_⟩:=x;exact⟨_,e⟩
 |dT kvs=>obtain⟨_,_,_,_,o,_,_,e,_⟩:=x;exact⟨_,e⟩
 |set S n=>obtain⟨o,_,_,_,e,_⟩:=x;exact⟨_,e⟩
 |ins C dx fs=>obtain⟨_,_,_,e,_⟩:=x;exact⟨_,e⟩
 |own y=>obtain⟨_,e⟩:=x;exact⟨_,e⟩
 |xd fs=>obtain⟨_,⟨_,_,_,e,_⟩,_⟩:=x;exact⟨_,e⟩
 |g8 lo hi=>obtain⟨_,_,_,e⟩:=x;exact⟨_,e⟩
 |bS ob u=>obtain⟨e,_⟩:=x;exact⟨_,e⟩
 |rQ ps=>exact⟨_,(show h.get? a=some _ from x)⟩
 |met f y=>exact⟨_,(show h.get? a=some _ from x)⟩
 |ext φ=>obtain⟨_,e,_⟩:=x;exact e
theorem pq{P:Program}{w:World}{l:List Env}{H H':Hp}{h g g2 B:Heap}(u:Un (frs l) [] H H' h g)(hok:eK P w H' g)(mh:EA l H' h g B)(st:Heap.StaysIn B g2)(up:∀b∈frs l,∀o,g.get? b=some o->∃sl,g2.get? b=some { o with slots:=sl })(hb:∀b∈frs l,H' b=none) :
  Un (frs l) [] H H' h g2/\eK P w H' g2/\EA l H' h g2 B:=by
 have same:∀b o,g.get? b=some o->((H' b).isSome=true\/(h.get? b).isSome=true)->b∉frs l->g2.get? b=some o:=λb o e z n=>st b o (mh b o e z n);refine⟨⟨λb o e n hf hx=>same b o (u.keep b o e n hf hx) (.inr (by rw[e];rfl)) hf,λb o e n hf hx=>?_,u.free,λb o e hx=>?_,u.tups,u.jC,u.j8⟩,λa o e=>?_,λb o e z n=>?_⟩
 .obtain⟨sl,e1⟩:=u.slot b o e n hf hx;obtain⟨sl2,e2⟩:=up b hf _ e1;exact⟨sl2,e2⟩
 .obtain⟨o',e1⟩:=u.there b o e hx;by_cases hf:b∈frs l
  .obtain⟨sl,e2⟩:=up b hf _ e1;exact⟨_,e2⟩
  .exact⟨o',same b o' e1 (.inr (by rw[e];rfl)) hf⟩
 .refine(hok a o e).stay (λb v z q=>?_) (λ_ q=>q) λ_ _ q=>q;have tr:(H' b).isSome=true:=by
   rcases z with z|z
   .rw[z,e];rfl
   .rw[z];rfl
  exact same b v q (.inl tr) λhf=>by rw[hb b hf]at tr;cases tr
 .have ex:∃o',g.get? b=some o':=by
   rcases z with z|z
   .obtain⟨x,e1⟩:=Option.isSome_iff_exists.mp z;exact AQ (hok b x e1)
   .obtain⟨x,e1⟩:=Option.isSome_iff_exists.mp z;exact u.there b x e1 (by simp)
  obtain⟨o',e1⟩:=ex;have e2:=same b o' e1 z n;rw[e]at e2;cases e2;exact mh b o e1 z n
section
variable{X:Cx}{pins:List (Addr×Obj)}{σ:L2.St}{H H':Hp}{s s':Shared}{a C:Addr}
theorem pC(I:Inv X pins σ H s)(u:Un (frs X.stack) [] H H' s.heap s'.heap):∀b∈frs X.stack,H' b=none:=λb hb=>by
 obtain⟨_,o,ho,_⟩:=I.stack.mem hb;exact u.free b o ho (I.qL b hb) (by simp)
theorem sO(hx:X.ex=[])(hs:X.stack=X.env :: X.outer)(I:Inv X pins σ H s){g2:Heap}{B:Heap}{a0:Value}(os:s'.os=s.os)(bare:AllBare s'.gens)(u:Un (frs X.stack) [] H H' s.heap s'.heap)(hok:eK X.prog X.w H' s'.heap)(mh:EA X.stack H' s.heap s'.heap B)
  (ff:∀b∈frs X.stack,∃o,s'.heap.get? b=some o/\∀vs,o.data≠.fields vs) (fl:Heap.FlyingW B X.outer a (.ref C) a0 g2) (up:Heap.UpToSlots s'.heap g2):iI X.prog X.w X.outer X.H₀ X.s₀ a C H' { s' with heap:=g2 }:=by
 obtain⟨u2,q8,uz⟩:=pq u hok mh fl.1 (λb hb o e=>by
  obtain⟨o',e1,e2⟩:=ff b hb;rw[e]at e1;cases e1;exact up b o e e2) (pC I u)
 have I2:Inv X pins σ H' { s' with heap:=g2 }:=I.tF (s':={ s' with heap:=g2 }) (ch:=[]) os u2 q8 bare (λb z=>absurd z (by simp));refine⟨os.trans I.os,bare,by have:=I2.base;rw[hx]at this;exact this,q8,B,a0,fl,λb o e z n=>?_⟩;have hne:b≠X.env.locals:=λy=>by
  rcases z with z|z
  .rw[y,I2.free]at z;cases z
  .obtain⟨x,e1⟩:=Option.isSome_iff_exists.mp z;rw[y]at e1;exact absurd (Heap.lt_size e1) (Nat.not_lt.mpr I.ok.above)
 refine uz b o e (z.imp id λz=>?_) λhb=>?_
 .obtain⟨x,e1⟩:=Option.isSome_iff_exists.mp z;obtain⟨x',e2⟩:=I.base.there b x e1 (by rw[hx];simp);rw[e2];rfl
 .rcases List.mem_cons.mp (I.pQ b hb)with y|y
  .exact hne y
  .exact n y
theorem qf:∀{l:List Env}{h base B:Heap},Heap.FunFrames h base l->(∀b∈frs l,B.get? b=none)->Heap.FunFrames h B l
 |[],_,_,_,_,_=>trivial
 |env :: r,h,base,B,hl,n=>by
  obtain⟨hk,⟨L,o,hf,hn,ho,hd⟩,hr⟩:=hl;exact⟨hk,⟨L,o,hf,n L (by unfold frs;rw[List.filterMap_cons,hf];exact List.mem_cons_self),ho,hd⟩,qf hr λb hb=>n b (by unfold frs;rw[List.filterMap_cons,hf];exact List.mem_cons_of_mem _ hb)⟩
theorem CO{Q:Unit->Shared->Prop}{E:Value->Shared->Prop}(hx:X.ex=[])(hs:X.stack=X.env :: X.outer)(hf:X.env.frame=some X.env.locals)(I:Inv X pins σ H s)(f:iI X.prog X.w X.stack H s a C H' s')(q:∀s'',iI X.prog X.w X.outer X.H₀ X.s₀ a C H' s''->Q () s'') :
  wpAny (model X.prog X.w) X.A (leaving X.env (.ref a)) Q E s':=by
 obtain⟨os,bare,un,hok,B,a0,fl,mh⟩:=f;have ff:∀b∈frs X.stack,∃o,s'.heap.get? b=some o/\∀vs,o.data≠.fields vs:=λb hb=>(fl.2.2.1.mem hb).2;rw[hs]at fl;exact wpAny_leaves_onW (by rw[I.ok.frames,hs]) hf fl λh' uA up=>q _ (sO hx hs I os bare un hok mh ff uA up)
theorem yW{Q:Unit->Shared->Prop}{E:Value->Shared->Prop}{h1:Heap}{args:List Value}(hx:X.ex=[])(hs:X.stack=X.env :: X.outer)(hf:X.env.frame=some X.env.locals)(I:Inv X pins σ H s)(m:Heap.MadeExcOf s.heap h1 a (.ref C) args)(q:∀s'',iI X.prog X.w X.outer X.H₀ X.s₀ a C H s''->Q () s'') :
  wpAny (model X.prog X.w) X.A (leaving X.env (.ref a)) Q E { s with heap:=h1 }:=by
 have cut:∀b∈frs X.stack,(hideAll s.heap (frs X.stack)).get? b=none:=λb hb=>hideAll_none _ hb;have K9:=qf (B:=hideAll s.heap (frs X.stack)) I.stack cut;have ff:∀b∈frs X.stack,∃o,s.heap.get? b=some o/\∀vs,o.data≠.fields vs:=λb hb=>(K9.mem hb).2;refine wpAny_leaves_madeW (base:=hideAll s.heap (frs X.stack)) (h:=s.heap) (by rw[I.ok.frames,hs]) hf (λb o e=>of_hideAll _ e) (by rw[hs]at K9 ⊢;exact K9) m λh' t uA _ _ up=>q _ ?_;have:=sO (s':=s) hx hs I (g2:=h') rfl I.bare Un.refl I.hok (B:=hideAll s.heap (frs X.stack)) (λb o e _ n=>hideAll_get _ e n) ff uA λb o e hd=>up b o (m.keeps b o e) hd;exact this
theorem iI.inv(f:iI X.prog X.w X.stack H s a C H' s')(I:Inv X pins σ H s):Inv X pins σ H' s':=I.tF (ch:=[]) f.os f.un f.hok f.bare (λb z=>absurd z (by simp))
theorem iI.xi{P:Program}{w:World}{l:List Env}(f:iI P w l H s a C H' s'):XI s'.heap a C:=by
 obtain⟨B,a0,fl,_⟩:=f.fl;obtain⟨oe,vs,T,oT,ts,h1,h2,h3,_⟩:=fl.2.2.2;exact⟨oe,h1,h2.1,vs,h3⟩
theorem iI.new{P:Program}{w:World}{l:List Env}(f:iI P w l H s a C H' s'):a∉frs l/\H' a=none:=by
 obtain⟨oe,h1,h2,vs,h3⟩:=f.xi;obtain⟨B,a0,fl,mh⟩:=f.fl;have n1:a∉frs l:=λhb=>by
  obtain⟨_,o,e1,e2⟩:=fl.2.2.1.mem hb;rw[h1]at e1;cases e1;exact e2 vs h3
 refine⟨n1,?_⟩;cases z:H' a with
 |none=>rfl
 |some x=>
  have:=mh a oe h1 (.inl (by rw[z];rfl)) n1;rw[fl.2.1]at this;cases this
theorem iI.on{A:Around}{M:Model}{P:Program}{w:World}{l:List Env}{Q:Unit->Shared->Prop}{E:Value->Shared->Prop}(f:iI P w l H s a C H' s')(hb:∀b∈frs l,H' b=none)(q:∀s'',iI P w l H s a C H' s''->Q () s''):wpAny M A (setFlight (.ref a) none) Q E s':=by
 obtain⟨os,bare,un,hok,B,a0,fl,mh⟩:=f;refine lands_againW fl λh2 AR up=>q _ ?_;obtain⟨u2,q8,uz⟩:=pq un hok mh AR.1 (λb hb o e=>by
  obtain⟨_,o',e1,e2⟩:=fl.2.2.1.mem hb;rw[e]at e1;cases e1;exact up b o e e2) hb
 exact⟨os,bare,u2,q8,B,a0,AR,uz⟩
theorem yX(I:Inv X pins σ H s)(f:iI X.prog X.w X.stack H s a C H' s')(hs:X.stack=X.env :: X.outer)(hf:X.env.frame=some X.env.locals){Q:Unit->Shared->Prop}{E:Value->Shared->Prop}
  (q:∀s'',iI X.prog X.w X.stack H s a C H' s''->Q () s''):wpAny (model X.prog X.w) X.A (noteFrame (.ref a) X.env) (λ_ s₂=>wpAny (model X.prog X.w) X.A (setFlight (.ref a) none) Q E s₂) E s':=by
 obtain⟨os,bare,un,hok,B,a0,fl,mh⟩:=f;have ff:∀b∈frs X.stack,∃o,s'.heap.get? b=some o/\∀vs,o.data≠.fields vs:=λb hb=>(fl.2.2.1.mem hb).2;have fr:=pC I un;rw[hs]at fl;refine wpAny_looks_onW (by rw[I.ok.frames,hs]) hf fl λh1 hl1 up1=>wpAny_landsW hl1 λh2 AR Tt=>q _ ?_;obtain⟨u2,q8,uz⟩:=pq un hok mh AR.1 (λb hb o e=>by
  obtain⟨o',e1,e2⟩:=ff b hb;rw[e]at e1;cases e1;obtain⟨sl,e3⟩:=up1 b o e e2;obtain⟨sl2,e4⟩:=Tt b _ e3 e2;exact⟨sl2,e4⟩) fr
 exact⟨os,bare,u2,q8,B,a0,by rw[hs];exact AR,uz⟩
end
end Sm
set_option maxRecDepth 100000
namespace Sm
open PySem PySem.Spec PyProof.Rows L2 PySem.W
section
variable{X:Cx}
theorem La{e:Expr}{t t':TE}(h:PE X e t)(w:∀s H Q,t' s H Q->t s H Q):PE X e t':=λpins s σ H Q I q=>h pins s σ H Q I (w _ _ _ q)
theorem GY{a:Addr}{oe:Obj}{C:Addr}{D:V}{Du:Value}{b:Bool}{ed:Expr}{xe:Str}{p p1 pos:Pos}(hp:(a,oe)∈X.pn)(ho:oe.cls=.ref C)(hd:∃vs,oe.data=.fields vs)(c:XC X.K C)(hD:PE X ed (tC D))(rD:∀u,RelV D u->u=Du)(k:kitOne X.K (.ref C) Du=some b)
  (hN:X.N[0]?=some xe) (hv:rR X.env.scope xe) (hg:Gl X "isinstance") (hm:X.mg "isinstance" = none) (hst:∀env:Env,starEach [.Name xe p1,ed] env=(false,eval (.Name xe p1) env) :: starEach [ed] env) (Lb:∀env:Env,starEach [ed] env=(false,eval ed env) :: starEach [] env)
  (Lc:(xe==("__debug__" : Str))=false) (Tu:(xe==("__classdict__" : Str))=false) :
  PE X (.Call (.Name "isinstance" p) [.Name xe p1,ed] [] pos) (λσ H Q=>σ[0]?=some (some (.ref a))/\Q (.bl b) H):=by
 have hc:gz X (.builtin "isinstance") (λxs H Q=>xs=[.ref a,D]/\Q (.bl b) H):=by
  intro pins s σ H xs us Q I rv q;obtain⟨rfl,q⟩:=q;cases rv with
  |cons r1 rv=>
   cases rv with
   |cons r2 rv=>
    cases rv;cases r1;obtain rfl:=rD _ r2;obtain⟨h1,_⟩:=I.pin (a,oe) (List.mem_append.mpr (.inl hp));exact K8 c I.jD ⟨oe,h1,ho,hd⟩ k λtk=>⟨.bl b,H,I.tok _,rfl,q⟩
 refine La (t6 hc hg hm (by decide +kernel) (fD (pR hN hv Lc Tu) (fD hD kE (Lb _)) (hst _)) (by decide) (by decide) (hst _) (by rw[Lb];rfl)) λs H Q q=>?_;exact⟨_,q.1,rfl,q.2⟩
theorem q9:∀{bs:List Bool}{its:List Value},Vals (bs.map V.bl) its->its=bs.map Value.bool
 |[],_,h=>by cases h;rfl
 |b :: bs,_,h=>by
  cases h with
  |cons r h=>cases r;rw[q9 h];rfl
noncomputable def EB:Value->Bool
 |.bool b=>b
 |_=>false
theorem uB(bs:List Bool):∀y∈(bs.map Value.bool).toArray,MeetsSeq.EqGives y (.bool true) (EB y):=λy hy=>by
 rw[List.mem_toArray,List.mem_map]at hy;obtain⟨b,_,rfl⟩:=hy;intro prog w A E s Q q;refine SeqAt.EqAt.bool_bool b true prog w E Q ?_;cases b<;>exact q
section
variable{o:Expr}{to:TE}{j:Nat}{ap pos p1:Pos}
theorem GZ (ho:PE X o to) (hbase:attributeBase o "count" X.env (eval o X.env)=eval o X.env:=by rfl) (hline:(ap.endLine==pos.line)=true:=by rfl):PE X (.Call (.Attribute o "count" ap) [.Constant (.bool true) j p1] [] pos) (λσ H Q=>to σ H λx H1=>∃(l:Addr) (bs:List Bool),x=.ref l/\H1 l=some (.lst (bs.map V.bl))/\Q (.int (bs.countP id)) H1):=by
 intro pins s σ H Q I h;refine wpAny_Call_method_late hbase rfl hline rfl (bJ (ho pins s σ H _ I h) λv s1 ⟨x,H1,I1,r1,l,bs,ex,hl,q⟩=>?_);subst ex;cases r1;obtain⟨z,its,n,r,hn,e⟩:=I1.lg hl;obtain rfl:=q9 r;refine⟨"list","list.count",PySem.F.plainAttrs_list,PySem.F.slot_list_count,PySem.F.type_list_count,⟨_,e,rfl⟩,λa ha=>by cases ha;exact⟨_,e,rfl⟩,?_⟩;show wpAny _ _ (callWith pos (.builtin "list.count") [.ref l] [(false,eval (.Constant (.bool true) j p1) X.env)] []) _ _ _;refine PySem.P.count_list (Constant_bool ⟨_,n,EB,e,uB bs,?_⟩);refine⟨.int (bs.countP id),H1,I1.tok _,⟨s1.toks,?_⟩,q⟩;have:List.countP EB (bs.map Value.bool)=bs.countP id:=by rw[List.countP_map];rfl
 rw[List.toList_toArray,this]
theorem G0 (ho:PE X o to) (hbase:attributeBase o "index" X.env (eval o X.env)=eval o X.env:=by rfl) (hline:(ap.endLine==pos.line)=true:=by rfl):PE X (.Call (.Attribute o "index" ap) [.Constant (.bool true) j p1] [] pos) (λσ H Q=>to σ H λx H1=>∃(l:Addr) (bs:List Bool) (k:Nat),x=.ref l/\H1 l=some (.lst (bs.map V.bl))/\(bs[k]?=some true/\(∀m,m<k->bs[m]?=some false)/\k<1000)/\Q (.int k) H1):=by
 intro pins s σ H Q I h;refine wpAny_Call_method_late hbase rfl hline rfl (bJ (ho pins s σ H _ I h) λv s1 ⟨x,H1,I1,r1,l,bs,k,ex,hl,⟨hk1,hk2,UE⟩,q⟩=>?_);subst ex;cases r1;obtain⟨z,its,n,r,hn,e⟩:=I1.lg hl;obtain rfl:=q9 r;refine⟨"list","list.index",PySem.F.plainAttrs_list,PySem.F.slot_list_index,PySem.F.type_list_index,⟨_,e,rfl⟩,λa ha=>by cases ha;exact⟨_,e,rfl⟩,?_⟩;show wpAny _ _ (callWith pos (.builtin "list.index") [.ref l] [(false,eval (.Constant (.bool true) j p1) X.env)] []) _ _ _;have hlt:=(List.getElem?_eq_some_iff.mp hk1).1;refine PySem.P.index_list (Constant_bool ⟨_,n,EB,k,by simpa using hlt,e,uB bs,by omega,?_,λm hm h2=>?_,?_⟩)
 .simp only[List.getElem_toArray,List.getElem_map];show bs[k]=true;exact(List.getElem?_eq_some_iff.mp hk1).2
 .simp only[List.getElem_toArray,List.getElem_map];show bs[m]'(by simpa using hm)=false;exact(List.getElem?_eq_some_iff.mp (hk2 m h2)).2
 .exact⟨.int k,H1,I1.tok _,⟨_,rfl⟩,q⟩
end
structure Tv(K:PySem.W.Frag)(C:Addr)(c:Nat)(D0 D1 D2 D3:Addr):Prop where
 xc:XC K C
 k0:kitOne K (.ref C) (.ref D0)=some (decide (c=0))
 k1:kitOne K (.ref C) (.ref D1)=some (decide (c=1))
 k2:kitOne K (.ref C) (.ref D2)=some (decide (c=2))
 k3:kitOne K (.ref C) (.ref D3)=some (decide (c=3))
 kv:kitOne K (.ref C) (.type "ValueError")=some true
 lt:c<4
structure UG(X:Cx)(n0 n1 n2 n3:Str)(D0 D1 D2 D3:Addr):Prop where
 g0:Gl X n0
 g1:Gl X n1
 g2:Gl X n2
 g3:Gl X n3
 gi:Gl X "isinstance"
 gv:Gl X "ValueError"
 m0:X.mg n0=some (.ref D0)
 m1:X.mg n1=some (.ref D1)
 m2:X.mg n2=some (.ref D2)
 m3:X.mg n3=some (.ref D3)
 mi:X.mg "isinstance" = none
 mv:X.mg "ValueError" = none
theorem G1{st:List Stmt}{t t':TS}(h:er X st t)(w:∀D σ H,t' D σ H->t D σ H):er X st t':=λpins s σ H D I q=>h pins s σ H D I (w _ _ _ q)
structure EC(K:PySem.W.Frag)(C D0:Addr)(c:Nat):Prop where
 xc:XC K C
 k0:kitOne K (.ref C) (.ref D0)=some true
 kv:kitOne K (.ref C) (.type "ValueError")=some true
 c0:c=0
set_option maxHeartbeats 1000000 in
theorem AS{a:Addr}{oe:Obj}{C D0:Addr}{c:Nat}{x0:Str}{tb:List Stmt}{p0 p1 p2 p3 p4 p5 p6 p7 p8 p9 ED EE EF EG EH EI EJ EK EL AU PL PM Tw Tz TF TH TJ:Pos}
  (hp:(a,oe)∈X.pn) (ho:oe.cls=.ref C) (hd:∃vs,oe.data=.fields vs) (k:EC X.K C D0 c) (g0:Gl X x0) (gi:Gl X "isinstance") (gv:Gl X "ValueError") (m0:X.mg x0=some (.ref D0)) (mi:X.mg "isinstance" = none) (mv:X.mg "ValueError" = none) (EM:(x0==("__debug__" : Str))=false)
  (hN:X.N=(["_law_e","_law_flags"]:List Str)) (h0:X.env.scope.names.lookup ("_law_e" : Str)=some .local) (h1:X.env.scope.names.lookup ("_law_flags" : Str)=some .local)
  (hl1:(p7.endLine==p8.line)=true) (hl2:(PL.endLine==PM.line)=true) :
  er X [.Assign [.Name "_law_flags" p0] (.List [.Call (.Name "isinstance" p1) [.Name "_law_e" p2,.Name x0 p3] [] p4] p5) p6,
   .If (.BoolOp .Or [.Compare (.Call (.Attribute (.Name "_law_flags" p9) "count" p7) [.Constant (.bool true) 0 ED] [] p8) [.NotEq] [.Constant (.int 1) 0 EE] EF,.UnaryOp .Not (.Call (.Name "isinstance" EG) [.Name "_law_e" EH,.Name "ValueError" EI] [] EJ) EK] EL) tb [] AU,
   .Return (some (.Tuple [.Constant (.str "refused") 0 Tw,.Call (.Attribute (.Name "_law_flags" Tz) "index" PL) [.Constant (.bool true) 0 TF] [] PM] 0 TH)) TJ] (λD σ H=>σ=[some (.ref a),none]/\∀p H',(∀b o,H b=some o->H' b=some o)->H' p=some (.tup [.str "refused",.int c])->D.rt (.ref p) H'):=by
 have v0:rR X.env.scope ("_law_e" : Str):=.inl h0;have v1:rR X.env.scope ("_law_flags" : Str):=.inl h1;have n0:X.N[0]?=some ("_law_e" : Str):=by rw[hN];rfl
 have n1:X.N[1]?=some ("_law_flags" : Str):=by rw[hN];rfl
 have nd:X.N.Nodup:=by rw[hN];decide
 have PN:∀{ed:Expr} {D:V} {Du:Value} {b:Bool} {q0 q1 q2:Pos},PE X ed (tC D)->(∀u,RelV D u->u=Du)->kitOne X.K (.ref C) Du=some b->(∀env:Env,starEach [.Name "_law_e" q1,ed] env=(false,eval (.Name "_law_e" q1) env) :: starEach [ed] env)->(∀env:Env,starEach [ed] env=(false,eval ed env) :: starEach [] env)->
   PE X (.Call (.Name "isinstance" q0) [.Name "_law_e" q1,ed] [] q2) (λσ H Q=>σ[0]?=some (some (.ref a))/\Q (.bl b) H):=λh1 h2 h3 h4 h5=>GY hp ho hd k.xc h1 h2 h3 n0 v0 gi mi h4 h5 (by decide) (by decide)
 have i0:=λ{q0 q1 q2 q3:Pos}=>PN (q0:=q0) (q1:=q1) (q2:=q2) (FZ (pos:=q3) g0 m0 (v:=.ref D0) rfl EM) (λu r=>r) k.k0 (λ_=>rfl) (λ_=>rfl);have iv:=λ{q0 q1 q2 q3:Pos}=>PN (q0:=q0) (q1:=q1) (q2:=q2) (Ga (pos:=q3) gv mv (by decide +kernel) (v:=.ty "ValueError") rfl) (λu r=>r) k.kv (λ_=>rfl) (λ_=>rfl);have PU:=λ{q:Pos}=>pR (X:=X) (pos:=q) n1 v1;refine G1 (jE (tV (i:=1) (pos':=p0) nd n1 (.inl h1) (Ae (fD i0 kE)) rfl (.inr h1))
  (jE (ym (PW.pt (D8 (wz Nz (GZ PU rfl hl1) zR (jF _)) (zT (IY (IW iv))))) zW wg) (wj (zU (Ad (fD zS (fD (G0 PU rfl hl2) kE))))))) λD σ H q=>?_
 obtain⟨rfl,q⟩:=q;obtain rfl:=k.c0;refine⟨rfl,by show 1<=sizeLine;decide,λl hl=>?_⟩;have keep:∀{H1:Hp} {q:Addr} {x:HO},(∀b o,H b=some o->H1 b=some o)->H1 q=none->∀b o,H b=some o->upd H1 q x b=some o:=λk1 k2 b o e=>by rw[bz (bU (k1 b o e) k2)];exact k1 b o e
 have k1:=keep (x:=.lst [V.bl true]) (λ_ _ e=>e) hl;refine⟨_,rfl,l,[true],rfl,eG,?_⟩;refine⟨rfl,_,rfl,?_⟩;dsimp only;rw[if_neg (by decide)];refine⟨rfl,_,rfl,?_⟩;dsimp only;rw[if_neg (by decide)];refine⟨_,rfl,l,[true],0,rfl,eG,⟨rfl,λm h=>absurd h (Nat.not_lt_zero _),by decide⟩,?_⟩;exact⟨by show 2<=sizeLine;decide,λt ht=>q t _ (keep k1 ht) eG⟩
end
end Sm
set_option maxRecDepth 100000
namespace Sm
open PySem PySem.Spec PyProof.Rows L2 PySem.W
section
variable{P:Program}{w:World}{K:PySem.W.Frag}{mg:Str->Option Value}{base:Heap}
noncomputable def EN(P:Program)(w:World)(K:PySem.W.Frag)(mg:Str->Option Value)(base:Heap)(N:List Str)(qual:Str)(scope:Scope)(f:Addr)(cd:Value)(A:Around)(outer:List Env)(s:Shared)(H:Hp)(a:Addr)(oe:Obj):Cx:=
 { jd jk P w K mg base N qual scope f cd A outer s H E0 with calm:=false,pn:=[(a,oe)],xe:=λ_ _=>False }
theorem CP{x qual:Str}{st:Stmt}{f:Addr}{fd:FuncData}{N ps:List Str}{A:Around}{outer:List Env}{s:Shared}{H:Hp}{args:Args}{us:List Value}{vs:List V}{Q:VK}{a:Addr}{oe:Obj}(F:lU K x qual st f fd)(S:bG N ps (ay st))(dp:A.depth<recursionLimit)
  (e0:qM P w K mg base A outer s H) (hb:BindsTo s fd args (ps.zip us)) (r:Vals vs us) (hl:vs.length=ps.length) (p1:s.heap.get? a=some oe) (p2:H a=none) (p3:a∉frs outer) (p4:∀v,oe.data≠.cell v)
  (hbody:∀(cdv:Value) (X:Cx),X=EN P w K mg base N qual (ay st) f cdv A outer s H a oe->∃t,er X (cW st) t/\t { nx:=λ_ H'=>Q .aQ H',rt:=Q } (start N vs) H) :
  codeAny (model P w) A (.call (.ref f) args) (CR jk outer P w H s Q E0) s:=by
 obtain⟨oc,od,kV,doc,pm,an,cdv,ct,osl,rfl,lk,hcd⟩:=F.ex;have KX:K.In s.heap:=e0.mod.cY.keeps λb o e=>(e0.bs b o e).1;have lim:s.heap.NoLimit:=e0.mod.nolimit.keeps λb o e=>(e0.bs b o e).1;have hkind:∀y∈ps.zip us,(ay st).names.lookup y.1=some .local\/((ay st).names.lookup y.1=some .cell/\((cellsFrom (s.heap.objs.size+1) (ay st).names []).lookup y.1).isSome=true):=λ⟨n,v⟩ hy=>by
  rcases S.par n (List.of_mem_zip hy).1 with q|q
  .exact .inl q
  .exact .inr ⟨q,PySem.W.cellsFrom_some _ _ _ (.inl q)⟩
 refine codeAny_call_function dp (KX _ _ lk) rfl S.co S.gen rfl (PySem.W.codeRec_of KX hcd) (hb _ _ _ _ ?_);refine wpAny_newFunctionEnv_cells S.kind hkind λenv he s1 y=>?_;subst he;refine⟨lim.keeps y.toInCall.keep,codeAny_func ?_⟩;obtain⟨t,ht,hq⟩:=hbody cdv _ rfl;have I0:Inv (jd jk P w K mg base N qual (ay st) f cdv { A with handled:=none } outer s H E0) [] (start N vs) H s1:=r8 S rfl ⟨e0.frames,e0.mod,e0.bs,e0.mC,e0.gH,e0.oq,e0.hok,e0.bare⟩ hl r y;have ok:=I0.ok;have I:Inv (EN P w K mg base N qual (ay st) f cdv A outer s H a oe) [] (start N vs) H s1:=
  ⟨⟨ok.mod,ok.kind,ok.glob,ok.blt,ok.above,ok.inj,ok.has,ok.tU,(λh=>nomatch h),Around.frames_deeper e0.frames,ok.stk,ok.zP,ok.bs,ok.mC,ok.oX,ok.oY,ok.gH,ok.oq⟩,I0.os,I0.bare,I0.base,I0.loc,I0.cell,I0.free,I0.gy,
   λp hp=>by
    obtain rfl:p=(a,oe):=by simpa[EN]using hp
    exact⟨y.toInCall.keep _ _ p1,p2,λz=>by
     have:=Heap.lt_size p1;rw[show a=s.heap.objs.size from z]at this;exact absurd this (Nat.lt_irrefl _),p3,p4⟩,I0.hok,I0.len⟩
 refine wpAny_mono (ht [] s1 (start N vs) H _ I hq) (λfl s' hs=>?_) λe s' hs=>hs.elim;have fin:∀{σ':L2.St} {H':Hp} {v:V} {u:Value},Inv (EN P w K mg base N qual (ay st) f cdv A outer s H a oe) [] σ' H' s'->RelV v u->Q v H'->CE outer P w H s Q u s':=
  λ{σ' H' v u} J rv q=>⟨v,H',J.os,J.bare,J.base,J.hok,rv,q⟩
 cases fl with
 |ret u=>
  obtain⟨v,σ',H',J,rv,q⟩:=hs;exact fin J rv q
 |next=>
  obtain⟨σ',H',J,q⟩:=hs;exact fin (v:=V.aQ) (u:=Value.none) J rfl q
 |brk=>
  obtain⟨_,_,_,q⟩:=hs;exact False.elim q
 |cont=>
  obtain⟨_,_,_,q⟩:=hs;exact False.elim q
end
end Sm
set_option maxRecDepth 100000
namespace Sm
open PySem PySem.Spec PyProof.Rows L2 PySem.W
section
variable{X:Cx}{pins:List (Addr×Obj)}{σ:L2.St}{H H':Hp}{s s':Shared}{a C:Addr}
theorem AV{M:Model}{A:Around}{E:Value->Shared->Prop}{i:Nat}{x:Str}{v:V}{Q:Unit->Shared->Prop}(I:Inv X pins σ H s)(hN:X.N.Nodup)(hi:X.N[i]?=some x)(hk:X.env.scope.names.lookup x=some .local)(hv:σ[i]?=some (some v))
  (h:∀s',Inv X pins (σ.set i none) H s'->Q () s'):wpAny M A (unbindName X.env x) Q E s:=by
 obtain⟨m,hn,hl⟩:=id I.loc;have hcls:(X.env.scope.kind==.class || (X.env.scope.kind==.module&&X.env.locals != X.env.globals))=false:=by rw[I.ok.kind];rfl
 have mD:=I.mD;obtain⟨u,r,q⟩:=hl i x v hi hv (.inl hk);have hm:m x=some u:=by
  rcases q with ⟨_,e⟩|⟨k,_⟩
  .exact e
  .rcases k with k|k
   .rw[show X.env.kindOf x=X.env.scope.names.lookup x from rfl,hk]at k;cases k
   .rw[show X.env.kindOf x=X.env.scope.names.lookup x from rfl,hk]at k;cases k
 refine wpAny_unbindName_local hk hn hm hcls λh' u' hn' hs=>?_;obtain⟨oL,_,_,Pj,_⟩:=id hn;have tracked:eK X.prog X.w H h':=λb ob e=>by
  refine(I.hok b ob e).stay (λc w' hc q=>(hs.2 c ?_).trans q) (λ_ q=>q) λ_ _ q=>q;rintro rfl;rcases hc with rfl|hc
  .rw[I.free]at e;cases e
  .rw[I.free]at hc;cases hc
 refine h _ ⟨I.ok,I.os,I.bare,⟨λb o e n hb hx=>?_,λb o e n hb hx=>?_,I.base.free,λb o e hx=>?_,I.base.tups,I.base.jC,I.base.j8⟩,⟨_,hn',λj y v' e1 e2 e3=>?_⟩,λy c e=>?_,I.free,I.gy,λp hp=>?_,tracked,by simpa using I.len⟩
 .exact(hs.2 b (Nat.ne_of_lt (Nat.lt_of_lt_of_le (Heap.lt_size e) I.ok.above))).trans (I.base.keep b o e n hb hx)
 .obtain⟨sl,e1⟩:=I.base.slot b o e n hb hx;exact⟨sl,(hs.2 b (Nat.ne_of_lt (Nat.lt_of_lt_of_le (Heap.lt_size e) I.ok.above))).trans e1⟩
 .obtain⟨o',e1⟩:=I.base.there b o e hx;exact⟨o',(hs.2 b (Nat.ne_of_lt (Nat.lt_of_lt_of_le (Heap.lt_size e) I.ok.above))).trans e1⟩
 .have yl:i<σ.length:=by rw[I.len];exact(List.getElem?_eq_some_iff.mp hi).1
  by_cases hj:j=i
  .subst hj;rw[List.getElem?_set_self yl]at e2;cases e2
  .rw[List.getElem?_set_ne (Ne.symm hj)]at e2;obtain⟨u',r',q⟩:=hl j y v' e1 e2 e3;refine⟨u',r',?_⟩;rcases q with ⟨k,e⟩|⟨k,c,e,z⟩
   .refine .inl ⟨k,?_⟩;have:y≠x:=λe=>hj (oZ hN e1 (e▸hi));simp[this,e]
   .exact .inr ⟨k,c,e,z.sameBut hs (mD y c e)⟩
 .obtain⟨w',z⟩:=I.cell y c e;exact⟨w',z.sameBut hs (mD y c e)⟩
 .obtain⟨e,n,ne,nf,d⟩:=I.pin p hp;exact⟨(hs.2 p.1 ne).trans e,n,ne,nf,d⟩
structure CQ(K:PySem.W.Frag)(mg:Str->Option Value)(rf:Addr)(rd:FuncData)(sP:Stmt)(Wc:Addr)(KC:Addr->Nat->Prop):Prop where
 fn:lU K "_law_refused" "_law_refused" sP rf rd
 sc:bG ["_law_e","_law_flags"] ["_law_e"] (ay sP)
 bd:Binds K rd ["_law_e"] []
 mr:mg "_law_refused" = some (.ref rf)
 mw:mg "WayError" = some (.ref Wc)
 body:∀(Y:Cx) (a:Addr) (oe:Obj) (C:Addr) (c:Nat),Y.N=(["_law_e","_law_flags"]:List Str)->Y.env.scope=ay sP->Y.K=K->Y.mg=mg->(a,oe)∈Y.pn->oe.cls=.ref C->(∃vs,oe.data=.fields vs)->KC C c->
  er Y (cW sP) (λD σ H=>σ=[some (.ref a),none]/\∀p H',(∀b o,H b=some o->H' b=some o)->H' p=some (.tup [.str "refused",.int c])->D.rt (.ref p) H')
theorem Le{rf:Addr}{rd:FuncData}{sP:Stmt}{Wc:Addr}{KC:Addr->Nat->Prop}{c i:Nat}{D:Ends}{p1 p2 p3 p4 p5 p6:Pos}{E:Value->Shared->Prop}(R:CQ X.K X.mg rf rd sP Wc KC)(k:KC C c)(kw:exmOne X.K (.ref C) (.ref Wc)=some true)
  (hs:X.stack=X.env :: X.outer) (hf:X.env.frame=some X.env.locals) (dp:X.A.depth<recursionLimit) (hN:X.N.Nodup) (hi:X.N[i]?=some ("_law_e" : Str)) (hk:X.env.scope.names.lookup ("_law_e" : Str)=some .local) (g1:Gl X "_law_refused") (g2:Gl X "WayError")
  (I1:Inv X pins σ H s) (f:iI X.prog X.w X.stack H s a C H' s') (q:∀p qg,(∀b o,H' b=some o->qg b=some o)->qg p=some (.tup [.str "refused",.int c])->D.rt (.ref p) qg) :
  wpAny (model X.prog X.w) X.A (noteFrame (.ref a) X.env) (λ_ s₂=>wpAny (model X.prog X.w) X.A (setFlight (.ref a) none) (λ_ s₃=>wpAny (model X.prog X.w) X.A (handleBy (.ref a) X.env [.ExceptHandler (some (.Name "WayError" p1)) (some "_law_e") [.Return (some (.Call (.Name "_law_refused" p2) [.Name "_law_e" p3] [] p4)) p5] p6]) (SP X pins D) E s₃) E s₂) E s':=by
 refine yX I1 f hs hf λs2 f2=>?_;have I2:=f2.inv I1;have TL:=f2.un;refine wpAny_handleBy_cons (codeAny_handlers_test ?_) (λz=>nomatch z);refine Calls.Name_function_global I2.ok.kind g2 (Calls.loadGlobal_global (by rw[I2.ok.glob];exact I2.mod.glob.keeps I2.bk) R.mw ?_) (by decide);refine exm_one I2.jD (nK f2.xi) kw _ _ _ _ (λ_ _ e=>e) ?_;show codeAny _ _ (Code.handlers (.ref a) [.ExceptHandler none (some "_law_e") _ p6] X.env) _ s2;refine codeAny_handlers_suite_as ?_;refine f2.on (pC I1 TL) λs3 f3=>?_;have I3:=f3.inv I1;obtain⟨nf,na⟩:=f3.new;obtain⟨oe,x1,x2,vs,x3⟩:=f3.xi;refine rS I3 hN hi (.inl hk) (v:=.ref a) rfl (λs4 I4 ⟨b,TM,hb⟩=>?_) (.inr hk);have hab:a≠b:=λz=>by
  subst z;rcases hb with z|z
  .obtain⟨m,⟨o,es,ep,e1,e2,_⟩,_⟩:=I3.loc;rw[<-z,x1]at e1;cases e1;rw[x3]at e2;cases e2
  .obtain⟨v,o,e1,e2⟩:=I3.cell _ _ z;rw[x1]at e1;cases e1;rw[x3]at e2;cases e2
 have x4:s4.heap.get? a=some oe:=(TM.2 a hab).trans x1;have hσ:(σ.set i (some (V.ref a)))[i]?=some (some (.ref a)):=List.getElem?_set_self (by rw[I3.len];exact(List.getElem?_eq_some_iff.mp hi).1);refine wpAny_execs_cons (wpAny_Return_some (wpAny_Call_Name_kw ?_));refine Calls.Name_function_global I4.ok.kind g1 (Calls.loadGlobal_global (by rw[I4.ok.glob];exact I4.mod.glob.keeps I4.bk) R.mr ?_) (by decide);refine callWith_K (h₀:=X.base) I4.ok.mod.cY R.fn.kp ?_ rfl rfl;show wpAny _ _ (spliced ((false,eval (.Name "_law_e" p3) X.env) :: [])) _ _ _;refine Calls.spliced_cons ?_;obtain⟨m,hn,hl⟩:=I4.loc;obtain⟨u,r,l⟩:=hl i _ _ hi hσ (.inl hk);cases r;have hm:m "_law_e" = some (.ref a):=by
  rcases l with ⟨_,e⟩|⟨z,_⟩
  .exact e
  .rcases z with z|z<;>rw[show X.env.kindOf "_law_e" = X.env.scope.names.lookup ("_law_e" : Str)from rfl,hk]at z<;>cases z
 refine wpAny_Name (wpAny_loadName_local I4.ok.kind hk hn hm ?_) (by decide);refine Calls.spliced_nil ⟨I4.jD,?_⟩;have e0:qM X.prog X.w X.K X.mg X.base (X.A.mark (some (.ref a))) X.stack s4 H':=⟨I4.j9.frames,I4.j9.mod,I4.j9.bs,I4.j9.mC,I4.j9.gH,I4.j9.oq,I4.j9.hok,I4.j9.bare⟩
 refine wpAny_call (codeAny_mono (CP (args:=⟨[.ref a],[]⟩) (us:=[.ref a]) (vs:=[.ref a]) (Q:=λv qg=>∃p,v=.ref p/\(∀b o,H' b=some o->qg b=some o)/\qg p=some (.tup [.str "refused",.int c])) R.fn R.sc dp e0 (R.bd s4 [.ref a] I4.jD rfl) (.cons rfl .nil) rfl x4 na nf (λv=>by rw[x3];exact λz=>nomatch z) λcdv Y hY=>⟨_,R.body Y a oe C c (by rw[hY];rfl) (by rw[hY];rfl) (by rw[hY];rfl) (by rw[hY];rfl) (by rw[hY];exact List.mem_singleton.mpr rfl) x2 ⟨vs,x3⟩ k,rfl,λp qg k1 k2=>⟨p,rfl,k1,k2⟩⟩) λres s5 hq=>?_);cases res with
 |error e=>exact hq.elim
 |ok fl=>
  cases fl with
  |next=>exact hq.elim
  |brk=>exact hq.elim
  |cont=>exact hq.elim
  |ret u5=>
   obtain⟨v,H5,TN,N4,TQ,Rg,r5,p,rfl,k1,k2⟩:=hq;have I5:Inv X pins _ H5 s5:=I4.tF (ch:=[]) TN TQ Rg N4 (λb z=>absurd z (by simp));show wpAny _ _ (do bindName X.env "_law_e" .none;unbindBehindTheSuite X.env "_law_e" p6) _ _ s5;refine wpAny_bind (wpAny_bindName (o4 I5 hN hi (.inl hk) (v:=.aQ) rfl (λs6 I6=>?_) (.inr hk)));refine wpAny_onRaise (AV I6 hN hi hk (v:=.aQ) (List.getElem?_set_self (by simpa using (List.getElem?_eq_some_iff.mp hσ).1)) λs7 I7=>?_);exact⟨.ref p,_,H5,I7,r5,q p H5 k1 k2⟩
end
end Sm
set_option maxRecDepth 100000
namespace Sm
open PySem PySem.Spec PyProof.Rows L2
open Ev (D O Hh Fr R aG E Es Eo It T S Ss Fl Src bw bq TY BI ME)
abbrev EO:List Value:=[.type "ValueError",.type "Exception",.type "BaseException",.type "object"]
noncomputable def xg (K:PySem.W.Frag) (C:Addr):Prop:=∃nm q N bs bm hdct sn sub ab col dd k0 k1 k2 k3 k5,K.lookup C=some (excClassObj nm q C N bs bm hdct sn sub ab col dd k0 k1 k2 k3 k5 "ValueError.__new__")/\bm.contains (.type "BaseException")=true/\∀h:Heap,K.In h->∃mN,h.Ns N mN/\mN "__init__" = none/\OwnTail h EO bm
noncomputable def uC(K:PySem.W.Frag)(cl:Nat->Addr)(F:List Ev.Fn)(w n f:Nat):Sp:=λvs H Q E=>∃r h ds c h',aH K H r ds vs/\HR K H r h/\Ev.cy F w n f ds h=some (c,h')/\∀H' r',HR K H' r' h'->Fm K r r' H H'->E (.ref (cl c)) none H'
inductive tX(K:PySem.W.Frag)(cl:Nat->Addr)(m:List Nat)(E:XK)(f:Fr->Hh->Ev.XR)(s:L2.St)(H:Hp):Prop
 |mk (r:List Addr) (fr:Fr) (h:Hh) (c:Nat) (h':Hh) (sr:SR K m H r fr s) (hr:HR K H r h) (e:f fr h=some (c,h')) (q:∀H' r',HR K H' r' h'->Fm K r r' H H'->E (.ref (cl c)) none H'):tX K cl m E f s H
structure GX(G:Tb)(cl:Nat->Addr)(cz:List (Str×Nat))(rz su:List Nat)(n:Nat)(sc:Scope)(N:List Str)(df:Bool)(E:XK)(X:Cx):Prop where
 g:Good G n sc N df X.cJ
 own:PassesOwn (model X.prog X.w) X.A X.env X.xe
 ps:Passes (qe X.prog X.w) X E
 md:∀(pins:List (Addr×Obj)) (σ:L2.St) (H:Hp) (s:Shared) (h1:Heap) (e C:Addr) (args:List Value),Inv X pins σ H s->Heap.MadeExcOf s.heap h1 e (.ref C) args->E (.ref C) none H->X.xe (.ref e) { s with heap:=h1 }
 fn:∀(f:Nat) i,G.fi[f]?=some i->su.contains f=true->eO X.prog X.w X.K X.mg X.base (qe X.prog X.w) n i.addr i.fd i.ps (uC X.K cl G.F G.w n f)
 nz:∀f,rz.contains f=false->∀ds h,Ev.cy G.F G.w n f ds h=none
 cs:∀x c,(x,c)∈cz->X.mg x=some (.ref (cl c))/\xg X.K (cl c)
theorem PA.cJ{X:Cx}{es:List Expr}{t:TA}(h:PA X.cJ es t):PA X es t:=λpos pins s σ H Q I hw=>
 wpAny_mono (h pos pins s σ H Q (I.gn _) hw) (λ_ _ ⟨vs,H',I',r,q⟩=>⟨vs,H',I'.dJ,r,q⟩) λ_ _ z=>False.elim z
theorem PS.cJ{X:Cx}{st:Stmt}{t:TS}(h:PS X.cJ st t):PS X st t:=λpins s σ H D I hw=>
 wpAny_mono (h pins s σ H D (I.gn _) hw) (λ_ _ q=>q.dJ) λ_ _ z=>False.elim z
section
variable(G:Tb)(cl:Nat->Addr)(cz:List (Str×Nat))(rz su:List Nat)(n:Nat)(sc:Scope)(N:List Str)(df:Bool)(m:List Nat)
noncomputable def AW(e:E)(x:Expr):Prop:=∀X Ex,GX G cl cz rz su n sc N df Ex X->PE X x (λs H _=>tX X.K cl m Ex (Ev.xe (Ev.run G.F G.w n) (Ev.cy G.F G.w n) e) s H)
noncomputable def AX(es:Es)(xs:List Expr):Prop:=∀X Ex,GX G cl cz rz su n sc N df Ex X->PA X xs (λs H _=>tX X.K cl m Ex (Ev.xa (Ev.run G.F G.w n) (Ev.cy G.F G.w n) es) s H)
noncomputable def sQ(st:S)(x:Stmt):Prop:=∀X Ex,GX G cl cz rz su n sc N df Ex X->PS X x (λ_ s H=>tX X.K cl m Ex (Ev.xs (Ev.run G.F G.w n) (Ev.cy G.F G.w n) G.w st) s H)
noncomputable def jg(ss:Ss)(xs:List Stmt):Prop:=∀X Ex,GX G cl cz rz su n sc N df Ex X->er X xs (λ_ s H=>tX X.K cl m Ex (Ev.xss (Ev.run G.F G.w n) (Ev.cy G.F G.w n) G.w ss) s H)
end
section
variable{G:Tb}{cl:Nat->Addr}{cz:List (Str×Nat)}{rz su:List Nat}{n:Nat}{sc:Scope}{N:List Str}{df:Bool}{m:List Nat}{a b:E}{xa xb:Expr}{pos:Pos}
theorem uD{es:Es}{xs:List Expr}(h:Ev.wH rz es=true):AX G cl cz rz su n sc N df m es xs:=λX Ex g pos pins s σ H Q I q=>by
 obtain⟨r,fr,h1,c,h',sr,hr,e,q⟩:=q;rw[Ev.yC g.nz _ h]at e;cases e
theorem iY{s:S}{x:Stmt}(h:Ev.oB rz s=true):sQ G cl cz rz su n sc N df m s x:=λX Ex g pins s σ H Q I q=>by
 obtain⟨r,fr,h1,c,h',sr,hr,e,q⟩:=q;rw[Ev.JD g.nz _ h]at e;cases e
theorem dj{s:Ss}{xs:List Stmt}(h:Ev.kg rz s=true):jg G cl cz rz su n sc N df m s xs:=λX Ex g pins s σ H Q I q=>by
 obtain⟨r,fr,h1,c,h',sr,hr,e,q⟩:=q;rw[Ev.lu g.nz _ h]at e;cases e
theorem ER{f:Nat}{i:FI}{es:Es}{x:Str}{e0:Expr}{xs:List Expr}{p:Pos}(h:qd sc x=true)(hu:su.contains f=true)(hf:G.fi[f]?=some i)(hx:i.name=x)(hs:JA G n sc N df m es (e0 :: xs))(ks:AX G cl cz rz su n sc N df m es (e0 :: xs))
  (hst:∀env:Env,starEach (e0 :: xs) env=(false,eval e0 env) :: starEach xs env:=by intro _;rfl) (hpl:∀env:Env,(backTo pos (starEach xs env)).any (·.1)=false:=by intro _;rfl) :
  AW G cl cz rz su n sc N df m (.cl f es) (.Call (.Name x p) (e0 :: xs) [] pos):=λX Ex g pins s σ H Q I q=>by
 subst hx;unfold qd at h;simp only[Bool.and_eq_true,Bool.not_eq_true']at h;obtain⟨h1,h2,h3,_⟩:=g.g.fn f i hf;have hg:Gl X i.name:=g.g.gl (by simpa using h.1);obtain⟨r,fr,hh,c,h',sr,hr,e,q⟩:=q;simp only[Ev.xe]at e;split at e
 .rename_i ds hd ey;refine qN (g.fn f i hf hu) g.g.room hg h1 h2 h3 .nil g.ps (PA.cJ (hs X.cJ g.g)) h.2 (hst _) (hpl _) pins s σ H Q I ⟨r,fr,hh,ds,hd,sr,hr,ey,λvs H1 r1 v1 hr1 f1=>?_⟩;exact⟨r1,hd,ds,c,h',by rw[List.append_nil];exact v1,hr1,e,λH' r' y1 y2=>q H' r' y1 (f1.trans y2)⟩
 .exact qN (g.fn f i hf hu) g.g.room hg h1 h2 h3 .nil g.ps (ks X Ex g) h.2 (hst _) (hpl _) pins s σ H Q I ⟨r,fr,hh,c,h',sr,hr,e,q⟩
theorem CS{es:Es}{xs:List Expr}(ha:JE G n sc N df m a xa)(ka:AW G cl cz rz su n sc N df m a xa)(ks:AX G cl cz rz su n sc N df m es xs)(hst:∀env:Env,starEach (xa :: xs) env=(false,eval xa env) :: starEach xs env:=by intro _;rfl):AX G cl cz rz su n sc N df m (.cons a es) (xa :: xs):=λX Ex g pos pins s σ H Q I q=>by
 obtain⟨r,fr,hh,c,h',sr,hr,e,q⟩:=q;simp only[Ev.xa]at e;split at e
 .rename_i d hd ey;exact fD (PE.cJ (ha X.cJ g.g)) (ks X Ex g) (hst _) pos pins s σ H Q I ⟨r,fr,hh,d,hd,sr,hr,ey,λv H1 r1 v1 hr1 f1=>⟨r1,fr,hd,c,h',sr.mono f1,hr1,e,λH' r' y1 y2=>q H' r' y1 (f1.trans y2)⟩⟩
 .exact fD (ka X Ex g) (t:=λ_ _ _=>False) (λ_ _ _ _ _ _ _ z=>z.elim) (hst _) pos pins s σ H Q I ⟨r,fr,hh,c,h',sr,hr,e,q⟩
theorem G2(ka:AW G cl cz rz su n sc N df m a xa)(hs:∀env:Env,swapsWith xa none pos.line env=pure false:=by intro _;rfl):sQ G cl cz rz su n sc N df m (.exp a) (.Expr xa pos):=λX Ex g pins s σ H Q I q=>by
 obtain⟨r,fr,hh,c,h',sr,hr,e,q⟩:=q;simp only[Ev.xs]at e;exact wk (ka X Ex g) (hs _) pins s σ H Q I ⟨r,fr,hh,c,h',sr,hr,e,q⟩
theorem G3{i:Nat}{x:Str}{pos':Pos}(h:gB sc N df m x i=true)(ka:AW G cl cz rz su n sc N df m a xa)(hs:∀env:Env,swapsWith xa (some (.Name x pos')) pos.line env=pure false:=by intro _;rfl):sQ G cl cz rz su n sc N df m (.set i a) (.Assign [.Name x pos'] xa pos):=λX Ex g pins s σ H Q I q=>by
 obtain⟨r,fr,hh,c,h',sr,hr,e,q⟩:=q;simp only[Ev.xs]at e;obtain⟨j,e1,e2,e3,e4,e5⟩:=gB.of h;obtain⟨h1,h2⟩:=g.g.loc e3;exact tV (X:=X) (i:=j) (by rw[show X.N=N from g.g.nm];exact e5) (by rw[show X.N=N from g.g.nm];exact e2) h1 (ka X Ex g) (hs _) h2 pins s σ H Q I ⟨r,fr,hh,c,h',sr,hr,e,q⟩
theorem kI{ta tb:Ss}{ya yb:List Stmt}(hc:JT G n sc N df m a xa)(kc:Ev.mL rz a=true)(h1:jg G cl cz rz su n sc N df m ta ya)(h2:jg G cl cz rz su n sc N df m tb yb):sQ G cl cz rz su n sc N df m (.iff a ta tb) (.If xa ya yb pos):=λX Ex g pins s σ H Q I q=>by
 obtain⟨r,fr,hh,c,h',sr,hr,e,q⟩:=q;simp only[Ev.xs]at e;split at e
 .rename_i k h3 ey;refine ym (PT.cJ (hc X.cJ g.g)) (h1 X Ex g) (h2 X Ex g) pins s σ H Q I ⟨r,fr,hh,k,h3,sr,hr,ey,λH1 r1 hr1 f1=>?_⟩;cases k with
  |true=>exact⟨r1,fr,h3,c,h',sr.mono f1,hr1,by simpa using e,λH' r' y1 y2=>q H' r' y1 (f1.trans y2)⟩
  |false=>exact⟨r1,fr,h3,c,h',sr.mono f1,hr1,by simpa using e,λH' r' y1 y2=>q H' r' y1 (f1.trans y2)⟩
 .rw[Ev.o5 g.nz _ kc]at e;cases e
theorem bO{st:S}{ss:Ss}{x:Stmt}{xs:List Stmt}(h1:JS G n sc N df m st x)(k1:sQ G cl cz rz su n sc N df m st x)(ks:jg G cl cz rz su n sc N df m ss xs):jg G cl cz rz su n sc N df m (.cons st ss) (x :: xs):=λX Ex g pins s σ H Q I q=>by
 obtain⟨r,fr,hh,c,h',sr,hr,e,q⟩:=q;simp only[Ev.xss]at e;split at e
 .rename_i af h3 ey;exact jE (PS.cJ (h1 X.cJ g.g)) (ks X Ex g) pins s σ H Q I ⟨r,fr,hh,.nx,af,h3,sr,hr,ey,λs1 H1 r1 lY hr1 f1=>⟨r1,af,h3,c,h',lY,hr1,e,λH' r' y1 y2=>q H' r' y1 (f1.trans y2)⟩⟩
 .cases e
 .exact jE (k1 X Ex g) (ks X Ex g) pins s σ H Q I ⟨r,fr,hh,c,h',sr,hr,e,q⟩
theorem xj{c:Nat}{x t:Str}{np cp p1 pos:Pos}{j:Nat}(hx:(x,c)∈cz:=by decide +kernel)(h:qd sc x=true:=by decide +kernel):sQ G cl cz rz su n sc N df m (.ez c) (.Raise (some (.Call (.Name x np) [.Constant (.str t) j p1] [] cp)) none pos):=λX Ex g pins s σ H Q I q=>by
 obtain⟨r,fr,hh,c',h',sr,hr,e,q⟩:=q;simp only[Ev.xs]at e;cases e;unfold qd at h;simp only[Bool.and_eq_true,Bool.not_eq_true']at h;have hg:Gl X x:=g.g.gl (by simpa using h.1);obtain⟨hm,nm,qn,Nn,bs,bm,hdct,sn,sub,ab,col,dd,k0,k1,k2,k3,k5,lk,hb,hN⟩:=g.cs x _ hx;have qE:=q H r hr .refl;obtain⟨mN,n1,n2,n3⟩:=hN s.heap I.jD;refine wpAny_Raise_call_subT (nm:=nm) (q:=qn) (N:=Nn) (bs:=bs) (hdct:=hdct) (sn:=sn) (sub:=sub) (ab:=ab) (col:=col) (dd:=dd) (k0:=k0) (k1:=k1) (k2:=k2) (k3:=k3) (k5:=k5) PySem.F.excBase_ValueError hb g.g.room.hd rfl n2 (nB I hg hm ⟨rfl,?_⟩ h.2);refine Calls.evalArgs_plain ?_;show wpAny _ _ (spliced ((false,eval (.Constant (.str t) j p1) X.env) :: [])) _ _ _;refine Calls.spliced_cons (Calls.Constant_str (Calls.spliced_nil ⟨rfl,by show 1<=sizeLine;decide,I.jD _ _ lk,n1,n3,λh1 e mk=>?_⟩));exact g.md pins σ H { s with toks:=s.toks+1 } h1 e _ _ (I.tok _) mk qE
section
variable{P:Program}{w:World}{K:PySem.W.Frag}{mg:Str->Option Value}{base:Heap}
noncomputable def uE(P:Program)(w:World)(K:PySem.W.Frag)(mg:Str->Option Value)(base:Heap)(G:Tb)(cl:Nat->Addr)(su:List Nat)(n:Nat):Prop:=∀(f:Nat) i,G.fi[f]?=some i->su.contains f=true->eO P w K mg base (qe P w) n i.addr i.fd i.ps (uC K cl G.F G.w n f)
theorem Lf{f:Addr}{fd:FuncData}{ps:List Str}{k:Nat}(z:∀ds h,Ev.cy G.F G.w n k ds h=none):eO P w K mg base (qe P w) n f fd ps (uC K cl G.F G.w n k):=by
 have no:∀vs H Q E,¬ uC K cl G.F G.w n k vs H Q E:=λvs H Q E h=>by
  obtain⟨r,h,ds,c,h',_,_,e,_⟩:=h;rw[z]at e;cases e
 exact⟨λvs H Q E h=>absurd h (no vs H Q E),λA outer s H args us vs Q E _ _ _ _ h=>absurd h (no vs H Q E)⟩
theorem uF{x qual:Str}{st:Stmt}{i:FI}{N:List Str}{f:Nat}{fn:Ev.Fn}(T:Top P w K mg G)(A0:nF P w K mg base G n)(A1:uE P w K mg base G cl su n)(hz:Ev.oE rz 0 G.F=true)(hc:∀x c,(x,c)∈cz->mg x=some (.ref (cl c))/\xg K (cl c))
  (F:lU K x qual st i.addr i.fd) (S:bG N i.ps (ay st)) (hf:G.F[f]?=some fn) (hp:i.ps.length=fn.np)
  (hb:jg G cl cz rz su n (ay st) N true (List.range N.length) fn.body (cW st)):eO P w K mg base (qe P w) (n+1) i.addr i.fd i.ps (uC K cl G.F G.w (n+1) f):=by
 have hlen:∀vs H Q E,uC K cl G.F G.w (n+1) f vs H Q E->vs.length=i.ps.length:=λvs H Q E h=>by
  obtain⟨r,h,ds,c,h',v1,_,e,_⟩:=h;simp only[Ev.iw,hf]at e;split at e
  .rename_i z;rw[v1.length,z,hp]
  .cases e
 obtain⟨oc,od,kV,doc,pm,an,cdv,ct,osl,e0,lk,hcd⟩:=F.ex;rw[e0]at lk ⊢;refine Eb lk hcd S hlen λA outer s H vs Q Ex hr ig=>?_;have hl:=hlen vs H Q Ex ig;have hN:vs.length<=N.length:=by
  have:=congrArg List.length S.pre;rw[List.length_take]at this;omega
 have g:Good G n (ay st) N true (jd (qe P w) P w K mg base N qual (ay st) i.addr cdv A outer s H Ex).cJ:=
  ⟨rfl,rfl,rfl,λ_ _=>rfl,hr,rfl,λf i hi=>⟨(T.fn f i hi).1,(T.fn f i hi).2.1,(T.fn f i hi).2.2,A0 f i hi⟩,T.bl,T.cs,T.dk⟩
 have gx:GX G cl cz rz su n (ay st) N true Ex (jd (qe P w) P w K mg base N qual (ay st) i.addr cdv A outer s H Ex):=
  ⟨g,PassesOwn.leaving,λpins σ H1 s1 e s' I ⟨a,C,H',h1,fl,q⟩=>by
    subst h1;exact CO rfl rfl rfl I fl λs'' uA=>⟨a,C,H',rfl,uA,q⟩,
   λpins σ H1 s1 h1 e C args I mk q=>yW rfl rfl rfl I mk λs'' uA=>⟨e,C,H1,rfl,uA,q⟩,A1,Ev.wI hz G.w n,hc⟩
 refine⟨_,hb _ Ex gx,?_⟩;obtain⟨r,h,ds,c,h',v1,hr1,e,q⟩:=ig;simp only[Ev.iw,hf]at e;split at e
 .exact⟨r,Ev.dg fn ds,h,c,h',o7 v1 hN,hr1,e,q⟩
 .cases e
theorem Lh{X:Cx}{k:Nat}{f:Addr}{fd:FuncData}{ps:List Str}{sp:Sp}{x:Str}{p pos:Pos}{e:Expr}{es:List Expr}{t:TA}{pins:List (Addr×Obj)}{σ:L2.St}{H:Hp}{s:Shared}{Ex:XK}{Q:Value->Shared->Prop}{E':Value->Shared->Prop}
  (F:eO X.prog X.w X.K X.mg X.base (qe X.prog X.w) k f fd ps sp) (hr:gp k X.A) (hg:Gl X x) (hm:X.mg x=some (.ref f)) (hk:PySem.W.keepIn X.K (.ref f)=true) (hb:Binds X.K fd ps []) (hd:(x==("__debug__" : Str))=false) (ha:PA X (e :: es) t) (TR:X.xe=λ_ _=>False)
  (hst:starEach (e :: es) X.env=(false,eval e X.env) :: starEach es X.env) (hpl:(backTo pos (starEach es X.env)).any (·.1)=false)
  (I:Inv X pins σ H s) (h:t σ H λvs H1=>sp vs H1 (λ_ _=>False) Ex) (q:∀H1 s1 a C H' s',Inv X pins σ H1 s1->iI X.prog X.w X.stack H1 s1 a C H' s'->Ex (.ref C) none H'->E' (.ref a) s') :
  wpAny (model X.prog X.w) X.A (eval (.Call (.Name x p) (e :: es) [] pos) X.env) Q E' s:=by
 refine wpAny_Call_Name_kw (nB I hg hm ?_ hd);refine PySem.W.callWith_K (h₀:=X.base) I.ok.mod.cY hk (wpAny_mono (ha pos pins s σ H _ I h) (λus s1 ⟨vs,H1,I1,r,q1⟩=>⟨I1.jD,?_⟩) (λ_ _ z=>by rw[TR]at z;exact z.elim)) hst hpl;have hl:us.length=ps.length:=by rw[<-r.length];exact F.len _ _ _ _ q1
 have hb1:=hb s1 us I1.jD (by rw[List.append_nil];exact hl);rw[List.append_nil]at hb1;refine wpAny_call (codeAny_mono (F.run X.A X.stack s1 H1 ⟨us,[]⟩ us vs _ Ex hr I1.j9 hb1 r q1) λres s' hq=>?_);cases res with
 |error e=>
  obtain⟨a,C,H',rfl,fl,e1⟩:=hq;exact q H1 s1 a C H' s' I1 fl e1
 |ok fl=>
  cases fl with
  |ret u=>obtain⟨v,H',_,_,_,_,_,z⟩:=hq;exact z.elim
  |next=>exact hq.elim
  |brk=>exact hq.elim
  |cont=>exact hq.elim
theorem G4{H H':Hp}{r:List Addr}{h:Hh}(k:∀b o,H b=some o->H' b=some o):Fm K r r H H'/\(HR K H r h->HR K H' r h):=by
 have f:Fm K r r H H':=⟨λ_ _ e=>e,λ_ e=>.inl e,λa o e _=>k a o e,λa vs e=>by
  rcases e with (e|⟨ob,e⟩)|e
  .exact .inl (.inl (k _ _ e))
  .exact .inl (.inr ⟨ob,k _ _ e⟩)
  .exact .inr e⟩
 refine⟨f,λhr=>⟨hr.len,λn o e=>?_,hr.inj
  ⟩⟩
 obtain⟨a,e1,q⟩:=hr.ob n o e;exact⟨a,e1,q.mono f (λ_ _ _ z=>k _ _ z) (λ_ _ z=>k _ _ z)
  ⟩
theorem Li{F:List Ev.Fn}{w n f:Nat}{ds:List D}{h h':Hh}{d:D}(hF:F.length<=1000)(e:Ev.run F w n (f+Ev.xo) ds h=.ok d h'):∃c:Nat,d=.int c/\Ev.cy F w n f ds h=some (c,h'):=by
 cases n with
 |zero=>cases e
 |succ n=>
  rw[Ev.fK,List.getElem?_eq_none (by show F.length<=f+1000;omega)]at e;simp only[Ev.lV]at e;rw[if_pos (Nat.le_add_left _ _),Nat.add_sub_cancel]at e;split at e
  .rename_i c h2 z;cases e;exact⟨c,rfl,z⟩
  .cases e
theorem G5{x qual:Str}{st:Stmt}{i j:FI}{N:List Str}{ft f:Nat}{fn:Ev.Fn}{es:Es}{e0:Expr}{xs:List Expr}{p cp p0 p1 p2 p3 p4 p5 p6 p7:Pos}{rf Wc:Addr}{KC:Addr->Nat->Prop}{nc:Nat}{rd:FuncData}{sP:Stmt}{ix:Nat}(T:Top P w K mg G)(A0:nF P w K mg base G n)(A1:uE P w K mg base G cl su n)(hG:G.F.length<=1000)
  (R:CQ K mg rf rd sP Wc KC) (kc:∀c,c<nc->KC (cl c) c/\PySem.W.exmOne K (.ref (cl c)) (.ref Wc)=some true)
  (F:lU K x qual st i.addr i.fd) (S:bG N i.ps (ay st)) (PV:G.F[ft]?=some fn) (hp:i.ps.length=fn.np) (hbody:fn.body=.cons (.tr f nc es) .nil) (hj:G.fi[f]?=some j) (TU:su.contains f=true)
  (hst:cW st=[.Try [.Return (some (.Call (.Name j.name p) (e0 :: xs) [] cp)) p0] [.ExceptHandler (some (.Name "WayError" p1)) (some "_law_e") [.Return (some (.Call (.Name "_law_refused" p2) [.Name "_law_e" p3] [] p4)) p5] p6] [] [] p7])
  (hs:JA G n (ay st) N true (List.range N.length) es (e0 :: xs)) (hcl:qd (ay st) j.name=true) (h1:N[ix]?=some ("_law_e" : Str)) (h2:(ay st).names.lookup ("_law_e" : Str)=some .local) (h3:(ay st).names.lookup ("_law_refused" : Str)=some .globalImplicit) (h4:(ay st).names.lookup ("WayError" : Str)=some .globalImplicit)
  (se:∀env:Env,starEach (e0 :: xs) env=(false,eval e0 env) :: starEach xs env:=by intro _;rfl) (sp:∀env:Env,(backTo cp (starEach xs env)).any (·.1)=false:=by intro _;rfl) :
  eO P w K mg base jk (n+1) i.addr i.fd i.ps (lW K G.F G.w (n+1) ft):=by
 have hlen:∀vs H Q E,lW K G.F G.w (n+1) ft vs H Q E->vs.length=i.ps.length:=λvs H Q E h=>by
  obtain⟨r,h,ds,d,h',v1,_,e,_⟩:=h;simp only[Ev.fK,PV]at e;split at e
  .rename_i z;rw[v1.length,z,hp]
  .cases e
 refine F.ok S hlen λcdv A outer s H vs Q Ex hr ig=>?_;have hl:=hlen vs H Q Ex ig;have hN:vs.length<=N.length:=by
  have:=congrArg List.length S.pre;rw[List.length_take]at this;omega
 generalize hX:(jd jk P w K mg base N qual (ay st) i.addr cdv A outer s H Ex).cJ=X
 have g:Good G n (ay st) N true X:=by
  rw[<-hX];exact⟨rfl,rfl,rfl,λ_ _=>rfl,hr,rfl,λf i hi=>⟨(T.fn f i hi).1,(T.fn f i hi).2.1,(T.fn f i hi).2.2,A0 f i hi⟩,T.bl,T.cs,T.dk⟩
 have TV:X.stack=X.env :: X.outer:=by rw[<-hX];rfl
 have xf:X.env.frame=some X.env.locals:=by rw[<-hX];rfl
 have xK:X.K=K:=by rw[<-hX];rfl
 have xm:X.mg=mg:=by rw[<-hX];rfl
 have F1:eO X.prog X.w X.K X.mg X.base (qe X.prog X.w) n j.addr j.fd j.ps (uC X.K cl G.F G.w n f):=by rw[<-hX];exact A1 f j hj TU
 refine⟨qT X.K (List.range N.length) (Ev.run G.F G.w n) G.w fn.body,?_,?_⟩
 .rw[hst,hbody];refine er.of (wj (t:=qT X.K (List.range N.length) (Ev.run G.F G.w n) G.w (.cons (.tr f nc es) .nil)) λpins s1 σ1 H1 D I q=>?_) λQ s H q=>q;obtain⟨r,fr,h,fl,ai,h',sr,hr',e,q⟩:=q;simp only[Ev.exs,Ev.ex]at e;obtain⟨⟨eS,af⟩,h2',e2,e⟩:=Ev.ah e;obtain⟨ds,h3',e3,e2⟩:=Ev.ah e2;obtain⟨y,UH,e4,e2⟩:=Ev.ah e2;cases e2;cases e;refine wpAny_Try_except ?_;cases ey:Ev.run G.F G.w n f ds h3' with
  |ok d hd=>
   rw[ey]at e4;obtain⟨rfl,rfl⟩:d=y/\hd=h':=by simpa[Ev.tryD]using e4
   have st1:=ug (Aw (pos:=p0) (PJ (pos:=cp) (p:=p) hcl hj rfl hs se sp)) (wN (G:=G) (n:=n) (sc:=ay st) (N:=N) (df:=true) (m:=List.range N.length)) X g pins s1 σ1 H1 { nx:=λ_ _=>False,rt:=D.rt } I ⟨r,fr,h,.ret d,fr,_,sr,hr',by simp only[Ev.exs,Ev.ex,Ev.ev,e3,Ev.ao,ey],q⟩;refine wpAny_mono st1 (λf s2 hq=>?_) (λ_ _ z=>by rw[g.xe]at z;exact z.elim);cases f with
   |ret u=>exact hq
   |next=>obtain⟨_,_,_,z⟩:=hq;exact z.elim
   |brk=>obtain⟨_,_,_,z⟩:=hq;exact z.elim
   |cont=>obtain⟨_,_,_,z⟩:=hq;exact z.elim
  |bad=>
   rw[ey]at e4;simp only[Ev.tryD]at e4;obtain⟨dc,UI,e5,e4⟩:=Ev.ah e4;obtain⟨c,rfl,ex⟩:=Li hG e5;obtain⟨e6,e7⟩:=Ev.aN e4;subst e7;simp only[Ev.Cw]at e6;split at e6
   case isFalse=>cases e6
   rename_i hc4;cases e6;have c4:c<nc:=by omega
   obtain⟨g1,g2,g3,_⟩:=g.fn f j hj;unfold qd at hcl;simp only[Bool.and_eq_true,Bool.not_eq_true']at hcl;refine wpAny_execs_cons (wpAny_Return_some ?_);refine Lh (Ex:=λv _ H'=>v=.ref (cl c)/\∃r',HR X.K H' r' h'/\Fm X.K r r' H1 H') F1 g.room (g.gl (by simpa using hcl.1)) g1 g2 g3 hcl.2 (hs X g) g.xe (se _) (sp _) I ⟨r,fr,h,ds,h3',sr,hr',e3,λvs H2 r2 v2 hr2 f2=>⟨r2,h3',ds,c,h',v2,hr2,ex,λH' r' y1 y2=>⟨rfl,r',y1,f2.trans y2⟩⟩⟩ λH2 s2 a C H' s' I2 fl ⟨hC,r',kH,f3⟩=>?_;cases hC;obtain⟨k1,k2⟩:=kc c c4;refine Le (i:=ix) (c:=c) (by rw[xK,xm];exact R) k1 (by rw[xK];exact k2) TV xf g.room.depth (by rw[g.nm];exact S.nd) (by rw[g.nm];exact h1) (by rw[g.sc];exact h2) (g.gl h3) (g.gl h4) I2 fl λp qg m1 m2=>?_;obtain⟨f4,oF⟩:=G4 (K:=X.K) (r:=r') (h:=h') m1;refine q _ qg r' ⟨p,[.str "refused",.int c],rfl,.of m2,⟨_,_,rfl,⟨by decide +kernel,by decide⟩,⟨_,_,rfl,rfl,rfl⟩⟩⟩ (oF kH) (f3.trans f4)
 .obtain⟨r,h,ds,d,h',v1,hr1,e,q⟩:=ig;simp only[Ev.fK,PV]at e;split at e
  .unfold Ev.endOf at e;obtain⟨⟨fl,ai⟩,h2,e1,e⟩:=Ev.ah e;refine⟨r,Ev.dg fn ds,h,fl,ai,h2,by rw[xK];exact o7 v1 hN,by rw[xK];exact hr1,e1,?_⟩;rw[xK];cases fl with
   |nx=>
    cases e;exact λs' H' r' _ hr' f'=>q _ H' r' rfl hr' f'
   |ret d'=>
    cases e;exact q
   |bk=>cases e
   |ct=>cases e
  .cases e
theorem ri{base:Heap}(st:∀n,nF P w K mg base G n->uE P w K mg base G cl su n->nF P w K mg base G (n+1)/\uE P w K mg base G cl su (n+1)):∀n,nF P w K mg base G n/\uE P w K mg base G cl su n
 |0=>⟨λf i _=>GF,λf i _ _=>Lf λ_ _=>rfl⟩
 |n+1=>st n (ri st n).1 (ri st n).2
end
end
end Sm
set_option maxRecDepth 100000
namespace Sm
open PySem PySem.Spec PyProof.Rows L2 PySem.W
noncomputable def uG(K:PySem.W.Frag)(N:Addr):Bool:=nsOkIn K N&&quietNames.all λn=>nsIn K N n==some none
noncomputable def Lj(K:PySem.W.Frag)(C Wc:Addr):Bool:=
 findIn K (.ref C) "__getattribute__" ==some (some (.builtin "BaseException.__getattribute__"))&&findIn K (.ref C) "__getattr__" ==some none&&findIn K (.ref C) "__class__" ==some (some (.builtin "object.__class__"))
 &&subIn K (.ref C) (.type "object")==some true&&kitCls K (.ref C) (.ref C)==some true
 &&kitOne K (.ref C) (.ref C)==some true&&kitOne K (.ref C) (.type "ValueError")==some true&&exmOne K (.ref C) (.ref Wc)==some true
structure Lk(K:PySem.W.Frag)(x:Str)(C Wc:Addr):Prop where
 ns:nsIn K mainGlobals x=some (some (.ref C))
 rs:xg K C
 cs:EC K C C 0
 em:exmOne K (.ref C) (.ref Wc)=some true
structure Uz(K:PySem.W.Frag)(x:Str)(C Wc D0 D1 D2 D3:Addr)(c:Nat):Prop where
 ns:nsIn K mainGlobals x=some (some (.ref C))
 rs:xg K C
 cs:Tv K C c D0 D1 D2 D3
 em:exmOne K (.ref C) (.ref Wc)=some true
theorem uG.ns{K:PySem.W.Frag}{N:Addr}{h:Heap}(q:uG K N=true)(cY:K.In h):∃m,h.Ns N m/\∀n∈quietNames,m n=none:=by
 unfold uG at q;rw[Bool.and_eq_true]at q;have hn:=Heap.Ns.of_isNs (isNs_of_in cY q.1);exact⟨_,hn,λn hn'=>nsMap_none_of_in cY q.1 (beq_iff_eq.mp (List.all_eq_true.mp q.2 n hn'))⟩
theorem G6{K:PySem.W.Frag}{x:Str}{C Wc N:Addr}{nm q:Str}{bs:List Value}{hdct:Bool}{sn:List Str}{sub:List Value}{ab:Bool}{col:Option Bool}{dd TZ:Option Addr}{k0 k1 k2 k3 k5:Option Value}{c0:Value}{cd:ClassData}{sl:Array (Option Value)}
  (a:nsIn K mainGlobals x=some (some (.ref C))) (l:K.lookup C=some (excClassObj nm q C N bs (.ref Wc :: EO) hdct sn sub ab col dd k0 k1 k2 k3 k5 "ValueError.__new__")) (lw:K.lookup Wc=some ⟨c0,TZ,.cls cd,sl⟩) (n:uG K N=true) (nw:uG K cd.ns=true) (f:Lj K C Wc=true):Lk K x C Wc:=by
 unfold Lj at f;simp only[Bool.and_eq_true,beq_iff_eq]at f;obtain⟨⟨⟨⟨⟨⟨⟨f1,f2⟩,f3⟩,f4⟩,f5⟩,f6⟩,f7⟩,f8⟩:=f;have tq:∀h:Heap,K.In h->OwnTailQ h EO (.ref Wc :: EO):=λh cY=>by
  obtain⟨m,h1,h2⟩:=uG.ns nw cY;exact .own (cY _ _ lw) h1 h2 .base
 refine⟨a,⟨_,_,_,_,_,_,_,_,_,_,_,_,_,_,_,_,l,rfl,λh cY=>?_⟩,⟨⟨⟨_,_,_,_,_,_,_,_,_,_,_,_,_,_,_,_,_,l,tq⟩,f1,f2,f3,f4,f5⟩,f6,f7,rfl⟩,f8⟩;obtain⟨m,h1,h2⟩:=uG.ns n cY;exact⟨m,h1,h2 _ (by simp[quietNames]),(tq h cY).tail⟩
end Sm
set_option maxRecDepth 100000
namespace Sm
open PySem PySem.Spec PyProof.Rows L2
open Ev (D O Hh Fr R aG E Es Eo It T S Ss Fl Src bw bq TY BI ME)
theorem PG.cJ{X:Cx}{e:Expr}{t:TG}(h:PG X.cJ e t):PG X e t:=λpins s σ H v u Q I r q=>
 wpAny_mono (h pins s σ H v u Q (I.gn _) r q) (λ_ _ ⟨σ',H',I',q⟩=>⟨σ',H',I'.dJ,q⟩) λ_ _ z=>False.elim z
theorem wo.dJ{X:Cx}{pins:List (Addr×Obj)}{σ:L2.St}{tg:Expr}{R:L2.It->Hp->Prop}{itv:Value}{s:Shared}(h:wo X.cJ pins σ tg R itv s):wo X pins σ tg R itv s:=by
 obtain⟨it,J,fp,tn,H',e,I,x⟩:=h;exact⟨it,J,fp,tn,H',e,I.dJ,x⟩
theorem PI.cJ{X:Cx}{tg iter:Expr}{wi:TI}(h:PI X.cJ tg iter wi):PI X tg iter wi:=λpins s σ H Rr I hw=>
 wpAny_mono (h pins s σ H Rr (I.gn _) hw) (λv s1 q=>wpAny_mono q (λ_ _ y=>wo.dJ y) λ_ _ z=>False.elim z) λ_ _ z=>False.elim z
section
variable{G:Tb}{cl:Nat->Addr}{cz:List (Str×Nat)}{rz su:List Nat}{n:Nat}{sc:Scope}{N:List Str}{df:Bool}{m:List Nat}{a b:E}{xa xb tg:Expr}{pos:Pos}
noncomputable def PX(X:Cx)(cl:Nat->Addr)(m:List Nat)(Ex:XK)(G:Tb)(n:Nat)(tb:Ss):TS:=λD s H=>qT X.K m (Ev.run G.F G.w n) G.w tb D s H\/tX X.K cl m Ex (Ev.xss (Ev.run G.F G.w n) (Ev.cy G.F G.w n) G.w tb) s H
theorem uH{X:Cx}{Ex:XK}{tb:Ss}{yb:List Stmt}(g:GX G cl cz rz su n sc N df Ex X)(h1:jL G n sc N df m tb yb)(k1:jg G cl cz rz su n sc N df m tb yb):er X yb (PX X cl m Ex G n tb):=λpins s σ H D I q=>by
 rcases q with q|q
 .exact er.cJ (h1 X.cJ g.g) pins s σ H D I q
 .exact k1 X Ex g pins s σ H D I q
theorem G7{tb:Ss}{yb:List Stmt}(hc:JT G n sc N df m a xa)(h1:jL G n sc N df m tb yb)(k1:jg G cl cz rz su n sc N df m tb yb):sQ G cl cz rz su n sc N df m (.iW a tb) (.While xa yb [] pos):=λX Ex g pins s σ H Q I q=>by
 obtain⟨r,fr,hh,c,h',sr,hr,e,q⟩:=q;simp only[Ev.xs]at e;refine tW g.own (PT.cJ (hc X.cJ g.g)) (uH g h1 k1) pins s σ H Q I ⟨λk s1 H1=>∃r1 af h1,SR X.K m H1 r1 af s1/\HR X.K H1 r1 h1/\Fm X.K r r1 H H1/\Ev.fq (λaq h2=>Ev.aF (Ev.run G.F G.w n) a aq h2) (λaq h2=>Ev.exs (Ev.run G.F G.w n) G.w tb aq h2) (λaq h2=>Ev.xss (Ev.run G.F G.w n) (Ev.cy G.F G.w n) G.w tb aq h2) k af h1=some (c,h'),⟨_,r,fr,hh,sr,hr,.refl,e⟩,λk s1 H1 hW=>?_⟩;obtain⟨r1,af,T3,lY,hr1,f1,e1⟩:=hW;cases k with
 |zero=>cases e1
 |succ k=>
  simp only[Ev.fq]at e1;split at e1
  case h_2=>cases e1
  rename_i h2 e2;refine⟨r1,af,T3,true,h2,lY,hr1,e2,λH2 r2 hr2 f2=>?_⟩;dsimp only;rw[if_pos rfl];split at e1
  .rename_i aS h3 e3;exact⟨λs' H'=>∃r',SR X.K m H' r' aS s'/\HR X.K H' r' h3/\Fm X.K r r' H H',λs' H' ⟨r',z1,z2,z3⟩=>⟨k,Nat.lt_succ_self k,r',aS,h3,z1,z2,z3,e1⟩,.inl ⟨r2,af,h2,.nx,aS,h3,lY.mono f2,hr2,e3,λs' H' r' z1 z2 z3=>⟨r',z1,z2,(f1.trans f2).trans z3⟩⟩⟩
  .rename_i aS h3 e3;exact⟨λs' H'=>∃r',SR X.K m H' r' aS s'/\HR X.K H' r' h3/\Fm X.K r r' H H',λs' H' ⟨r',z1,z2,z3⟩=>⟨k,Nat.lt_succ_self k,r',aS,h3,z1,z2,z3,e1⟩,.inl ⟨r2,af,h2,.ct,aS,h3,lY.mono f2,hr2,e3,λs' H' r' z1 z2 z3=>⟨r',z1,z2,(f1.trans f2).trans z3⟩⟩⟩
  .cases e1
  .exact⟨λ_ _=>False,λ_ _ z=>z.elim,.inr ⟨r2,af,h2,c,h',lY.mono f2,hr2,e1,λH' r' y1 y2=>q H' r' y1 ((f1.trans f2).trans y2)⟩⟩
theorem G8{t:T}{it:Ev.It}{tb:Ss}{yb:List Stmt}(hi:JI G n sc N df m it tg xa)(hg:JG G n sc N df m t tg)(h1:jL G n sc N df m tb yb)(k1:jg G cl cz rz su n sc N df m tb yb)(hs:∀(env:Env) x,foldedSetIterable xa env x=pure x:=by intro _ _;rfl) :
  sQ G cl cz rz su n sc N df m (.for t it tb) (.For tg xa yb [] pos):=λX Ex g pins s σ H Q I q=>by
 obtain⟨r,fr,hh,c,h',sr,hr,e,q⟩:=q;simp only[Ev.xs]at e;split at e
 case h_2=>cases e
 rename_i src h2 e1;refine Aa g.own g.g.calm (PI.cJ (hi X.cJ g.g)) (PG.cJ (hg X.cJ g.g)) (uH g h1 k1) (hs _) pins s σ H Q I ⟨r,fr,hh,src,h2,sr,hr,e1,λJ H1 r1 hr1 f1 hJ=>⟨λi k s3 H3=>k=src.1.length - i/\i<=src.1.length/\∃r3 aS h3,SR X.K m H3 r3 aS s3/\HR X.K H3 r3 h3/\Fm X.K r1 r3 H1 H3/\Ev.cR (kh (Ev.run G.F G.w n) G.w t tb) (λd aq h2=>match Ev.br t d aq with|some aS=>Ev.xss (Ev.run G.F G.w n) (Ev.cy G.F G.w n) G.w tb aS h2|none=>none) src.2 (src.1.drop i) aS h3=some (c,h'),
  ⟨src.1.length,rfl,Nat.zero_le _,r1,fr,h2,sr.mono f1,hr1,.refl,by rw[List.drop_zero];exact e⟩,λi k s3 H3 hW=>?_⟩⟩
 obtain⟨rfl,hle,r3,aS,h3,pZ,kH,f3,e3⟩:=hW;rcases Nat.lt_or_ge i src.1.length with hlt|hge
 .rw[List.drop_eq_getElem_cons hlt]at e3;simp only[Ev.cR]at e3;split at e3
  case isFalse=>cases e3
  rename_i hst;obtain⟨g1,g2⟩:=(hJ i H3 r3 h3 kH f3 hst).1 src.1[i] (List.getElem?_eq_getElem hlt);have go:∀{eS:Fl} {fO:Fr} {h4:Hh},(eS=.nx\/eS=.ct)->kh (Ev.run G.F G.w n) G.w t tb src.1[i] aS h3=.ok (eS,fO) h4->Ev.cR (kh (Ev.run G.F G.w n) G.w t tb) (λd aq h2=>match Ev.br t d aq with|some aS=>Ev.xss (Ev.run G.F G.w n) (Ev.cy G.F G.w n) G.w tb aS h2|none=>none) src.2 (src.1.drop (i+1)) fO h4=some (c,h')->
    (J.stop i H3/\Q.nx s3 H3)\/(J.go i H3/\∃Nn:L2.St->Hp->Prop,(∀σ' H',Nn σ' H'->∃m',m'<src.1.length - i/\(m'=src.1.length - (i+1)/\i+1<=src.1.length/\∃r3 aS h3,SR X.K m H' r3 aS σ'/\HR X.K H' r3 h3/\Fm X.K r1 r3 H1 H'/\Ev.cR (kh (Ev.run G.F G.w n) G.w t tb) (λd aq h2=>match Ev.br t d aq with|some aS=>Ev.xss (Ev.run G.F G.w n) (Ev.cy G.F G.w n) G.w tb aS h2|none=>none) src.2 (src.1.drop (i+1)) aS h3=some (c,h')))/\∀x H',J.zX i H3 x H'->gJ X.K m t x s3 H' λσ2 H2=>PX X cl m Ex G n tb { Q with nx:=Nn,ct:=Nn,bk:=Q.nx } σ2 H2):=λ{eS fO h4} hfl e4 e5=>by
   unfold kh at e4;split at e4
   .rename_i jW e6;refine .inr ⟨g1,λs' H'=>∃r',SR X.K m H' r' fO s'/\HR X.K H' r' h4/\Fm X.K r1 r' H1 H',λs' H' ⟨r',z1,z2,z3⟩=>⟨_,Nat.sub_lt_sub_left hlt (Nat.lt_succ_self i),rfl,hlt,r',fO,h4,z1,z2,z3,e5⟩,λx H4 y=>?_⟩;obtain⟨r4,v4,oF,f4⟩:=g2 x H4 y;refine⟨r4,aS,h3,_,jW,pZ.mono f4,oF,v4,e6,λs5 qa=>.inl ⟨r4,jW,h3,eS,fO,h4,qa,oF,e4,?_⟩⟩;rcases hfl with rfl|rfl
    .exact λs' H' r' z1 z2 z3=>⟨r',z1,z2,(f3.trans f4).trans z3⟩
    .exact λs' H' r' z1 z2 z3=>⟨r',z1,z2,(f3.trans f4).trans z3⟩
   .cases e4
  split at e3
  .rename_i e4;exact go (.inl rfl) e4 e3
  .rename_i e4;exact go (.inr rfl) e4 e3
  .cases e3
  .split at e3
   .rename_i jW e6;refine .inr ⟨g1,λ_ _=>False,λ_ _ z=>z.elim,λx H4 y=>?_⟩;obtain⟨r4,v4,oF,f4⟩:=g2 x H4 y;exact⟨r4,aS,h3,_,jW,pZ.mono f4,oF,v4,e6,λs5 qa=>.inr ⟨r4,jW,h3,c,h',qa,oF,e3,λH' r' y1 y2=>q H' r' y1 ((f1.trans (f3.trans f4)).trans y2)⟩⟩
   .cases e3
 .have hi:i=src.1.length:=Nat.le_antisymm hle hge;subst hi;rw[List.drop_length]at e3;cases e3
theorem N5 {k:ME}{es:Es}{e0:Expr}{xs:List Expr}{name:Str}{apos:Pos}{ty id:String}(pa:PlainAttrs ty) (slot:Slot ty name id) (hty:typeOf (.builtin id)=pure (.type "method_descriptor")) (ht:ty=yG k) (ha:JE G n sc N df m a xa) (ks:AX G cl cz rz su n sc N df m es (e0 :: xs))
  (hbase:∀env:Env,attributeBase xa name env (eval xa env)=eval xa env:=by intro _;rfl)
  (hfew:∀env:Env,((backTo pos (starEach (e0 :: xs) env)).all (λx=>!x.1)&&(backToKw pos (keywordEach [] env)).all (λx=>x.1.isSome)
   &&decide ((e0 :: xs).length+([]:List Keyword).length+(if ([]:List Keyword).isEmpty then 0 else 1)<30))=true:=by intro _;rfl)
  (hline:(apos.endLine==pos.line)=true:=by rfl) (hst:∀env:Env,starEach (e0 :: xs) env=(false,eval e0 env) :: starEach xs env:=by intro _;rfl) (hpl:∀env:Env,(backTo pos (starEach xs env)).any (·.1)=false:=by intro _;rfl) :
  AW G cl cz rz su n sc N df m (.me k a es) (.Call (.Attribute xa name apos) (e0 :: xs) [] pos):=λX Ex g pins s σ H Q I q=>by
 obtain⟨r,fr,hh,c,h',sr,hr,e,q⟩:=q;simp only[Ev.xe]at e;split at e
 case h_2=>cases e
 rename_i x h1 e1;split at e
 case isFalse=>cases e
 rename_i hk;exact Ec (X:=X) (r:=λ_ _ _ _=>False) pa slot hty (λ_ _ _ _ _ _ _ _ _ _ _ _ z=>z.elim) (PE.cJ (ha X.cJ g.g)) (ks X Ex g) (hbase _) (hfew _) hline (hst _) (hpl _) pins s σ H Q I ⟨r,fr,hh,x,h1,sr,hr,e1,λv H1 r1 v1 hr1 f1=>⟨ue hr1 v1 hk ht,r1,fr,h1,c,h',sr.mono f1,hr1,e,λH' r' y1 y2=>q H' r' y1 (f1.trans y2)⟩⟩
end
end Sm
namespace Pv
open Ev (D bw bq TY BI ME T E Es Eo It S Ss Fn big deep b2i rep bV dM bB aO cut b8 dz slots)
theorem nd{α:Type _}{a b:α}(h:a=b):a=b:=h
inductive V where
 |aQ|bl (b:Bool)|int (i:Int)|str (s:List Nat)|tup (l:List V)|lst (l:List V)|bS (l:List V)
inductive Sl where
 |val (v:V)|own (l:List V)|bor (l:List V)|ro (l:List V)
abbrev Fr:=List (Option Sl)
inductive R(α:Type) where
 |ok (a:α) (fr:Fr)
 |bad
noncomputable def R.bind{α β:Type}(r:R α)(f:α->Fr->R β):R β:=
 match r with
 |.ok a h=>f a h
 |.bad=>.bad
@[simp] theorem ao{α β:Type}(a:α)(h:Fr)(f:α->Fr->R β):(R.ok a h).bind f=f a h:=nd rfl
@[simp] theorem Ct{α β:Type}(f:α->Fr->R β):(R.bad:R α).bind f=.bad:=nd rfl
theorem ah{α β:Type}{r:R α}{f:α->Fr->R β}{b:β}{h:Fr}(e:r.bind f=.ok b h):∃a h1,r=.ok a h1/\f a h1=.ok b h:=by
 cases r with
 |ok a h1=>exact⟨a,h1,rfl,e⟩
 |bad=>cases e
noncomputable def R.of{α:Type}(o:Option α)(h:Fr):R α:=match o with
 |some a=>.ok a h
 |none=>.bad
@[simp] theorem dh{α:Type}(a:α)(h:Fr):R.of (some a) h=.ok a h:=nd rfl
@[simp] theorem of_none{α:Type}(h:Fr):R.of (none:Option α) h=.bad:=nd rfl
theorem aN{α:Type}{o:Option α}{h h':Fr}{a:α}(e:R.of o h=.ok a h'):o=some a/\h'=h:=by
 cases o with
 |none=>cases e
 |some b=>cases e;exact⟨rfl,rfl⟩
inductive Fl where
 |nx|bk|ct|ret (v:V)
mutual
noncomputable def ofD:D->Option V
 |.aQ=>some .aQ
 |.bl b=>some (.bl b)
 |.int i=>some (.int i)
 |.str s=>some (.str s)
 |.tup ds=>(uI ds).map .tup
 |.ref _=>none
noncomputable def uI:List D->Option (List V)
 |[]=>some []
 |d :: ds=>(ofD d).bind λv=>(uI ds).map λvs=>v :: vs
end
noncomputable def cj(f:V->V->Option Bool):List V->List V->Option Bool
 |[],[]=>some true
 |x :: xs,y :: ys=>(f x y).bind λb=>(cj f xs ys).bind λc=>some (b&&c)
 |_,_=>some false
noncomputable def dR:Nat->V->V->Option Bool
 |0,_,_=>none
 |_+1,.aQ,.aQ=>some true
 |_+1,.bl a,.bl b=>some (a==b)
 |_+1,.int a,.int b=>some (a==b)
 |_+1,.bl a,.int b=>some (b2i a==b)
 |_+1,.int a,.bl b=>some (a==b2i b)
 |_+1,.str a,.str b=>some (a==b)
 |n+1,.tup a,.tup b=>cj (dR n) a b
 |n+1,.lst a,.lst b=>cj (dR n) a b
 |n+1,.bS a,.lst b=>cj (dR n) a b
 |n+1,.lst a,.bS b=>cj (dR n) a b
 |_+1,.bS _,.bS _=>none
 |_+1,_,_=>some false
noncomputable def truthy:V->Bool
 |.aQ=>false
 |.bl b=>b
 |.int i=>i != 0
 |.str s=>!s.isEmpty
 |.tup ds=>!ds.isEmpty
 |.lst ds=>!ds.isEmpty
 |.bS ds=>!ds.isEmpty
noncomputable def e8(l:List V):Option V:=if l.length<=big then some (.lst l)else none
noncomputable def jM(l:List V):Option V:=if l.length<=big then some (.tup l)else none
noncomputable def bQ:bw->V->V->Option V
 |.add,.int i,.int j=>some (.int (i+j))
 |.add,.str a,.str b=>if a.length+b.length<=big then some (.str (a++b))else none
 |.add,.tup a,.tup b=>if a.length+b.length<=big then some (.tup (a++b))else none
 |.add,.lst a,.lst b=>e8 (a++b)
 |.sub,.int i,.int j=>some (.int (i - j))
 |.mul,.int i,.int j=>if bV i j then some (.int (i*j))else none
 |.mul,.str a,.int k=>if 0<=k/\k<=1000/\a.length<=1000 then some (.str (rep k.toNat a))else none
 |.mul,.tup a,.int k=>if 0<=k/\k<=1000/\a.length<=1000 then some (.tup (rep k.toNat a))else none
 |.mul,.lst a,.int k=>if 0<=k/\k<=1000/\a.length<=1000 then e8 (rep k.toNat a)else none
 |.fdiv,.int i,.int j=>if 0<j/\j<1073741824 then some (.int (i / j))else none
 |.mod,.int i,.int j=>if 0<j then some (.int (i % j))else none
 |_,_,_=>none
noncomputable def cop(o:bq)(x y:V):Option Bool:=match o,x,y with
 |.eq,x,y=>dR deep x y
 |.ne,x,y=>(dR deep x y).map (!·)
 |.lt,.int i,.int j=>some (decide (i<j))
 |.gt,.int i,.int j=>some (decide (j<i))
 |_,_,_=>none
noncomputable def eY(x y:V):Option V:=match x,y with
 |.tup ds,.int i=>bB ds i
 |.str s,.int i=>(bB s i).map λc=>.str [c]
 |.lst ds,.int i=>bB ds i
 |.bS ds,.int i=>bB ds i
 |_,_=>none
noncomputable def gR(x:V)(lo hi:Option Int):Option V:=match x with
 |.tup ds=>some (.tup (cut ds lo hi))
 |.str s=>some (.str (cut s lo hi))
 |.lst ds=>e8 (cut ds lo hi)
 |.bS ds=>e8 (cut ds lo hi)
 |_=>none
noncomputable def toT:V->Option V
 |.tup l=>some (.tup l)
 |.lst l=>jM l
 |.bS l=>jM l
 |_=>none
noncomputable def boolsOf:List V->Option (List Bool)
 |[]=>some []
 |.bl b :: ds=>(boolsOf ds).map λr=>b :: r
 |_=>none
noncomputable def intsOf:List V->Option (List Int)
 |[]=>some []
 |.int i :: ds=>(intsOf ds).map λr=>i :: r
 |_=>none
noncomputable def strsOf:List V->Option (List (List Nat))
 |[]=>some []
 |.str s :: ds=>(strsOf ds).map λr=>s :: r
 |_=>none
noncomputable def sR:V->Option (List V)
 |.lst l=>some l
 |.bS l=>some l
 |_=>none
noncomputable def eL(b:BI)(xs:List V):Option V:=match b,xs with
 |.len,[.str s]=>if s.length<=big then some (.int s.length)else none
 |.len,[.tup ds]=>some (.int ds.length)
 |.len,[x]=>(sR x).map λds=>.int ds.length
 |.sum,[x]=>((sR x).bind intsOf).map λis=>.int is.sum
 |.min,[.int i,.int j]=>some (.int (if j<i then j else i))
 |_,_=>none
noncomputable def eZ(m:ME)(o:V)(xs:List V):Option V:=match m,o,xs with
 |.join,.str sep,[x]=>((sR x).bind strsOf).bind λss=>if (ss.map (·.length)).sum+ss.length*sep.length<=big then some (.str (b8 sep ss))else none
 |_,_,_=>none
noncomputable def jY(m:ME)(l:List V)(xs:List V):Option (V×List V):=match m,xs with
 |.append,[x]=>if l.length<big then some (.aQ,l++[x])else none
 |.extend,[.lst es]=>if l.length+es.length<=big then some (.aQ,l++es)else none
 |.pop,[]=>match l[l.length - 1]? with
  |some x=>some (x,l.dropLast)
  |none=>none
 |_,_=>none
noncomputable def xq:ME->Bool
 |.extend=>true
 |_=>false
noncomputable def iA:ME->Bool
 |.append=>true
 |.extend=>true
 |.pop=>true
 |_=>false
noncomputable def tK:V->Bool
 |.aQ=>true
 |.bl _=>true
 |.int _=>true
 |.str _=>true
 |_=>false
noncomputable def yY(x:V):List (D×D)->Option V
 |[]=>none
 | (k,v) :: r=>match (ofD k).bind λk'=>dR 1 k' x with
  |some true=>ofD v
  |some false=>yY x r
  |none=>none
noncomputable def ir(x:V)(kvs:List (D×D)):Option V:=if tK x then yY x kvs else none
noncomputable def gc:V->Option (List V)
 |.tup ds=>some ds
 |.str s=>some (s.map λc=>.str [c])
 |.lst ds=>some ds
 |.bS ds=>some ds
 |_=>none
noncomputable def yZ:V->Option (List V)
 |.tup ds=>some ds
 |_=>none
noncomputable def range(lo:Int)(n:Nat):List V:=(List.range n).map λ(i:Nat)=>.int (lo+i)
noncomputable def fk:List V->Option (List V)
 |[.int j]=>if -(2 ^ 62)<=j/\j<2 ^ 62 then some (range 0 j.toNat)else none
 |[.int i,.int j]=>if -(2 ^ 62)<=i/\i<2 ^ 62/\-(2 ^ 62)<=j/\j<2 ^ 62 then some (range i (j - i).toNat)else none
 |_=>none
noncomputable def gA:Int->List V->List V
 |_,[]=>[]
 |k,x :: xs=>.tup [.int k,x] :: gA (k+1) xs
noncomputable def put(fr:Fr)(i:Nat)(s:Sl):Option Fr:=match fr[i]? with
 |some (some (.bor _))=>none
 |some (some (.ro _))=>none
 |_=>some (fr.set i (some s))
noncomputable def cI:List Nat->List V->Fr->Option Fr
 |[],[],fr=>some fr
 |i :: is,d :: ds,fr=>(put fr i (.val d)).bind (cI is ds)
 |_,_,_=>none
noncomputable def br:T->V->Fr->Option Fr
 |.one i,d,fr=>put fr i (.val d)
 |.many l,.tup ds,fr=>cI l ds fr
 |_,_,_=>none
noncomputable def undef(t:T)(fr:Fr):Bool:=(slots t).all λi=>(fr[i]?.join).isNone
noncomputable def Sl.read:Sl->Sl
 |.own l=>.ro l
 |.bor l=>.ro l
 |s=>s
noncomputable def sS(fr:Fr):Fr:=fr.map (Option.map Sl.read)
noncomputable def Sl.fP:Sl->Sl
 |.own l=>.val (.lst l)
 |s=>s
noncomputable def gD(fr:Fr):Fr:=fr.map (Option.map Sl.fP)
noncomputable def Sl.walk:Sl->Sl
 |.own l=>.val (.lst l)
 |.bor l=>.ro l
 |s=>s
noncomputable def nL(is:List Nat)(fr:Fr):Fr:=is.foldl (λfr i=>match fr[i]? with
 |some (some s)=>fr.set i (some s.walk)
 |_=>fr) fr
noncomputable def Sl.out:Sl->Option (List V)
 |.bor l=>some l
 |.ro l=>some l
 |_=>none
noncomputable def Sl.lend:Sl->Option Sl
 |.own l=>some (.bor l)
 |.bor l=>some (.bor l)
 |.ro l=>some (.ro l)
 |.val _=>none
noncomputable def lent(fr:Fr)(i:Nat):Option Sl:=match fr[i]? with
 |some (some s)=>s.lend
 |_=>none
noncomputable def Sl.with:Sl->List V->Sl
 |.own _,l=>.own l
 |.bor _,l=>.bor l
 |s,_=>s
noncomputable def back:List Nat->List (List V)->Fr->Option Fr
 |[],[],fr=>some fr
 |i :: is,l :: ls,fr=>match fr[i]? with
  |some (some s)=>back is ls (fr.set i (some (s.with l)))
  |_=>none
 |_,_,_=>none
noncomputable def cQ(f:V->Option (Option V)):List V->Option (List V)
 |[]=>some []
 |d :: ds=>(f d).bind λo=>(cQ f ds).bind λr=>some (o.toList++r)
noncomputable def forL(f:V->Fr->R Fl):List V->Fr->R Fl
 |[],fr=>.ok .nx fr
 |d :: ds,fr=>(f d fr).bind λp af=>match p with
   |.nx=>forL f ds af
   |.ct=>forL f ds af
   |.bk=>.ok .nx af
   |.ret x=>.ok (.ret x) af
noncomputable def di(t:Fr->R Bool)(f:Fr->R Fl):Nat->Fr->R Fl
 |0,_=>.bad
 |n+1,fr=>(t fr).bind λb af=>if b then (f af).bind λp aq=>match p with
   |.nx=>di t f n aq
   |.ct=>di t f n aq
   |.bk=>.ok .nx aq
   |.ret x=>.ok (.ret x) aq
  else .ok .nx af
noncomputable def jH:Es->List Nat
 |.nil=>[]
 |.cons (.v i) es=>i :: jH es
 |.cons _ es=>jH es
noncomputable def PY(m:ME):E->List Nat
 |.v i=>if iA m then [i]else []
 |_=>[]
mutual
noncomputable def bY:E->List Nat
 |.c _=>[]|.v _=>[]|.tup es=>fE es|.lst es=>fE es
 |.bin _ a b=>bY a++bY b|.cmp _ a b=>bY a++bY b
 |.nt a=>bY a|.neg a=>bY a|.an a b=>bY a++bY b|.orr a b=>bY a++bY b|.gk t a b=>bY t++(bY a++bY b)
 |.ix a b=>bY a++bY b|.sl a lo hi=>bY a++(ki lo++ki hi)
 |.cl _ es=>fE es++jH es|.bi _ es=>fE es|.me m o es=>bY o++(fE es++PY m o)
 |.comp _ _ it _=>CT it
 |.gQ it=>CT it
 |.je _ a=>bY a
 |.iG a=>bY a
noncomputable def fE:Es->List Nat
 |.nil=>[]
 |.cons e es=>bY e++fE es
noncomputable def ki:Eo->List Nat
 |.no=>[]
 |.yes e=>bY e
noncomputable def CT:It->List Nat
 |.seq e=>bY e|.g8 es=>fE es
 |.enum a=>bY a|.rev a=>bY a
end
noncomputable def kf(a:E)(l:List Nat):Bool:=match a with
 |.v i=>!l.contains i
 |_=>l.isEmpty
noncomputable def itv:It->List Nat
 |.seq (.v i)=>[i]
 |.enum (.v i)=>[i]
 |.rev (.v i)=>[i]
 |_=>[]
abbrev aG:=Nat->List Sl->Option (V×List (List V))
noncomputable def intOf:V->Option Int
 |.int i=>some i
 |_=>none
noncomputable def mY(k:Bool)(fr:Fr)(i:Nat):Option V:=match fr[i]? with
 |some (some (.val v))=>some v
 |some (some (.own l))=>if k then some (.lst l)else none
 |some (some (.bor l))=>if k then some (.lst l)else none
 |some (some (.ro l))=>if k then some (.lst l)else none
 |_=>none
noncomputable def y9(k:Bool)(fr:Fr)(i:Nat):Option V:=match fr[i]? with
 |some (some (.ro l))=>some (.lst l)
 |_=>mY k fr i
noncomputable def src(k:Bool)(fr:Fr)(e:E)(r:R V):R V:=match e with
 |.v i=>R.of (y9 k fr i) fr
 |_=>r
noncomputable def fQ(fr:Fr):E->Option Nat
 |.v i=>if (lent fr i).isSome then some i else none
 |_=>none
noncomputable def args(fr:Fr):List (Nat ⊕ V)->Option (List Sl)
 |[]=>some []
 |.inl i :: r=>(lent fr i).bind λs=>(args fr r).map λl=>s :: l
 |.inr v :: r=>(args fr r).map λl=>.val v :: l
noncomputable def bH:List (Nat ⊕ V)->List Nat
 |[]=>[]
 |.inl i :: r=>i :: bH r
 |.inr _ :: r=>bH r
noncomputable def dO(P:aG)(f:Nat)(as:List (Nat ⊕ V))(fr:Fr):R V:=
 if (bH as).Nodup then match args fr as with
  |some sl=>match P f sl with
   |some (v,outs)=>R.of ((back (bH as) outs fr).map λaf=>(v,af)) fr |>.bind λp _=>.ok p.1 p.2
   |none=>.bad
  |none=>.bad
 else .bad
mutual
noncomputable def ev(P:aG):Bool->E->Fr->R V
 |_,.c d,fr=>R.of (ofD d) fr
 |k,.v i,fr=>R.of (mY k fr i) fr
 |_,.tup es,fr=>(bR P false es fr).bind λds af=>R.of (jM ds) af
 |_,.lst es,fr=>(bR P false es fr).bind λds af=>R.of (e8 ds) af
 |_,.bin o a b,fr=>(ev P (kf a (bY b)) a fr).bind λx af=>(ev P true b af).bind λy aq=>R.of (bQ o x y) aq
 |_,.cmp o a b,fr=>(ev P (kf a (bY b)) a fr).bind λx af=>(ev P true b af).bind λy aq=>R.of ((cop o x y).map .bl) aq
 |_,.nt a,fr=>(ev P true a fr).bind λx af=>match x with
   |.bl b=>.ok (.bl (!b)) af
   |_=>.bad
 |_,.neg a,fr=>(ev P true a fr).bind λx af=>match x with
   |.int i=>.ok (.int (-i)) af
   |_=>.bad
 |k,.an a b,fr=>(ev P true a fr).bind λx af=>match x with
   |.bl true=>ev P k b af
   |.bl false=>.ok (.bl false) af
   |_=>.bad
 |k,.orr a b,fr=>(ev P true a fr).bind λx af=>match x with
   |.bl true=>.ok (.bl true) af
   |.bl false=>ev P k b af
   |_=>.bad
 |k,.gk t a b,fr=>(aF P t fr).bind λc af=>if c then ev P k a af else ev P k b af
 |_,.ix a b,fr=>(ev P (kf a (bY b)) a fr).bind λx af=>(ev P true b af).bind λy aq=>R.of (eY x y) aq
 |_,.sl a lo hi,fr=>(ev P (kf a (ki lo++ki hi)) a fr).bind λx af=>(fJ P lo af).bind λl aq=>(fJ P hi aq).bind λu aS=>R.of (gR x l u) aS
 |_,.cl f es,fr=>(dS P es fr).bind λas af=>dO P f as af
 |_,.bi b es,fr=>(bR P true es fr).bind λds af=>R.of (eL b ds) af
 |_,.me m o es,fr=>if iA m then match fQ fr o with
   |some i=>(bR P (xq m) es fr).bind λds af=>match af[i]? with
    |some (some (.own l))=>match jY m l ds with
     |some (v,l')=>.ok v (af.set i (some (.own l')))
     |none=>.bad
    |some (some (.bor l))=>match jY m l ds with
     |some (v,l')=>.ok v (af.set i (some (.bor l')))
     |none=>.bad
    |_=>.bad
   |none=>.bad
  else (ev P (kf o (fE es)) o fr).bind λx af=>(bR P true es af).bind λds aq=>R.of (eZ m x ds) aq
 |_,.comp elt t it cond,fr=>(cK P true it fr).bind λs af=>if undef t af then
   R.of ((cQ (λd=>match br t d (sS af)with
    |none=>none
    |some aq=>match iu P cond aq with
     |.ok c _=>if c then (match ev P false elt aq with|.ok x _=>some (some x)|.bad=>none)else some none
     |.bad=>none) s).bind e8) af else .bad
 |_,.gQ it,fr=>(cK P true it fr).bind λs af=>R.of (e8 s) af
 |_,.je kvs a,fr=>(ev P true a fr).bind λx af=>R.of (ir x kvs) af
 |_,.iG a,fr=>(ev P true a fr).bind λx af=>R.of (toT x) af
termination_by _ e=>(sizeOf e,0)
noncomputable def bR(P:aG):Bool->Es->Fr->R (List V)
 |_,.nil,fr=>.ok [] fr
 |k,.cons e es,fr=>(ev P (k&&kf e (fE es)) e fr).bind λd af=>(bR P k es af).bind λds aq=>.ok (d :: ds) aq
termination_by _ e=>(sizeOf e,0)
noncomputable def dS(P:aG):Es->Fr->R (List (Nat ⊕ V))
 |.nil,fr=>.ok [] fr
 |.cons e es,fr=>match fQ fr e with
   |some i=>(dS P es fr).bind λr af=>.ok (.inl i :: r) af
   |none=>(ev P false e fr).bind λd af=>(dS P es af).bind λr aq=>.ok (.inr d :: r) aq
termination_by e=>(sizeOf e,0)
noncomputable def fJ(P:aG):Eo->Fr->R (Option Int)
 |.no,fr=>.ok none fr
 |.yes e,fr=>(ev P true e fr).bind λd af=>R.of ((intOf d).map some) af
termination_by e=>(sizeOf e,0)
noncomputable def iu(P:aG):Eo->Fr->R Bool
 |.no,fr=>.ok true fr
 |.yes e,fr=>aF P e fr
termination_by e=>(sizeOf e,0)
noncomputable def aF(P:aG):E->Fr->R Bool
 |.an a b,fr=>(aF P a fr).bind λk af=>if k then aF P b af else .ok false af
 |.orr a b,fr=>(aF P a fr).bind λk af=>if k then .ok true af else aF P b af
 |.nt a,fr=>(aF P a fr).bind λk af=>.ok (!k) af
 |e,fr=>(ev P true e fr).bind λx af=>.ok (truthy x) af
termination_by e=>(sizeOf e,1)
noncomputable def cK(P:aG):Bool->It->Fr->R (List V)
 |k,.seq e,fr=>(src k fr e (ev P k e fr)).bind λx af=>R.of (gc x) af
 |_,.g8 es,fr=>(bR P true es fr).bind λds af=>R.of (fk ds) af
 |k,.enum a,fr=>(src k fr a (ev P k a fr)).bind λx af=>R.of ((sR x).map λs=>gA 0 s) af
 |_,.rev a,fr=>(ev P true a fr).bind λx af=>R.of ((yZ x).map λs=>s.reverse) af
termination_by _ e=>(sizeOf e,0)
end
noncomputable def isNew:E->Bool
 |.lst .nil=>true
 |.gQ _=>true
 |_=>false
noncomputable def za(k:Nat):V->Option V
 |.int c=>if 0<=c/\c<k then some (.tup [.str [114,101,102,117,115,101,100],.int c])else none
 |_=>none
mutual
noncomputable def ex(P:aG)(w:Nat):S->Fr->R Fl
 |.set i e,fr=>(ev P false e fr).bind λx af=>if isNew e then (match x with
   |.lst l=>(R.of (put af i (.own l)) af).bind λaq _=>.ok .nx aq
   |_=>.bad)
  else (R.of (put af i (.val x)) af).bind λaq _=>.ok .nx aq
 |.mK l e,fr=>(ev P false e fr).bind λx af=>(R.of (br (.many l) x af) af).bind λaq _=>.ok .nx aq
 |.exp e,fr=>(ev P true e fr).bind λ_ af=>.ok .nx af
 |.ret e,fr=>(ev P false e (gD fr)).bind λx af=>.ok (.ret x) af
 |.iff t a b,fr=>(aF P t fr).bind λk af=>if k then exs P w a af else exs P w b af
 |.for t it b,fr=>(cK P false it (nL (itv it) fr)).bind λs af=>forL (λd aq=>match br t d aq with
   |some aS=>exs P w b aS
   |none=>.bad) s af
 |.iW t b,fr=>di (λaq=>aF P t aq) (λaq=>exs P w b aq) w fr
 |.ez _,_=>.bad
 |.tr f k es,fr=>(dS P es fr).bind λas af=>if (bH as).isEmpty then (match dO P f as af with
   |.ok v aq=>.ok (.ret v) aq
   |.bad=>(dO P (f+Ev.xo) as af).bind λc aq=>R.of ((za k c).map .ret) aq)
  else .bad
noncomputable def exs(P:aG)(w:Nat):Ss->Fr->R Fl
 |.nil,fr=>.ok .nx fr
 |.cons s ss,fr=>(ex P w s fr).bind λp af=>match p with
   |.nx=>exs P w ss af
   |p=>.ok p af
end
noncomputable def dg(fn:Fn)(ds:List Sl):Fr:=ds.map some++List.replicate (fn.ns - fn.np) none
noncomputable def outs(np:Nat)(fr:Fr):List (List V):=(fr.take np).filterMap λo=>o.bind Sl.out
noncomputable def AY(_:Fn)(_:List Sl):Option (V×List (List V)):=none
abbrev cC:=Nat->List Sl->Option Nat
noncomputable def nM(X:cC)(f:Nat)(as:List (Nat ⊕ V))(fr:Fr):Option Nat:=if (bH as).Nodup then (args fr as).bind (X f)else none
mutual
noncomputable def xe(P:aG)(X:cC):E->Fr->Option Nat
 |.cl f es,fr=>match dS P es fr with
  |.ok as af=>nM X f as af
  |.bad=>uJ P X es fr
 |.ix a _,fr=>xe P X a fr
 |.me m o es,fr=>if iA m then match fQ fr o with
   |some _=>xr P X (xq m) es fr
   |none=>none
  else none
 |_,_=>none
noncomputable def uJ(P:aG)(X:cC):Es->Fr->Option Nat
 |.nil,_=>none
 |.cons e es,fr=>match fQ fr e with
  |some _=>uJ P X es fr
  |none=>match ev P false e fr with
   |.ok _ af=>uJ P X es af
   |.bad=>xe P X e fr
noncomputable def xr(P:aG)(X:cC)(k:Bool):Es->Fr->Option Nat
 |.nil,_=>none
 |.cons e es,fr=>match ev P (k&&kf e (fE es)) e fr with
  |.ok _ af=>xr P X k es af
  |.bad=>xe P X e fr
end
noncomputable def cR(f:V->Fr->R Fl)(g:V->Fr->Option Nat):List V->Fr->Option Nat
 |[],_=>none
 |d :: ds,fr=>match f d fr with
   |.ok .nx af=>cR f g ds af
   |.ok .ct af=>cR f g ds af
   |.ok _ _=>none
   |.bad=>g d fr
noncomputable def fq(t:Fr->R Bool)(f:Fr->R Fl)(g:Fr->Option Nat):Nat->Fr->Option Nat
 |0,_=>none
 |n+1,fr=>match t fr with
  |.ok true af=>match f af with
   |.ok .nx aq=>fq t f g n aq
   |.ok .ct aq=>fq t f g n aq
   |.ok _ _=>none
   |.bad=>g af
  |_=>none
mutual
noncomputable def xs(P:aG)(X:cC)(w:Nat):S->Fr->Option Nat
 |.ez c,_=>some c
 |.set _ e,fr=>xe P X e fr
 |.exp e,fr=>xe P X e fr
 |.ret e,fr=>xe P X e (gD fr)
 |.iff t a b,fr=>match aF P t fr with
  |.ok k af=>if k then xss P X w a af else xss P X w b af
  |.bad=>xe P X t fr
 |.for t it b,fr=>match cK P false it (nL (itv it) fr)with
  |.ok s af=>cR (λd aq=>match br t d aq with|some aS=>exs P w b aS|none=>.bad) (λd aq=>match br t d aq with|some aS=>xss P X w b aS|none=>none) s af
  |.bad=>none
 |.iW t b,fr=>fq (λaq=>aF P t aq) (λaq=>exs P w b aq) (λaq=>xss P X w b aq) w fr
 |_,_=>none
noncomputable def xss(P:aG)(X:cC)(w:Nat):Ss->Fr->Option Nat
 |.nil,_=>none
 |.cons s ss,fr=>match ex P w s fr with
  |.ok .nx af=>xss P X w ss af
  |.ok _ _=>none
  |.bad=>xs P X w s fr
end
noncomputable def Sl.fQ:Sl->Bool
 |.val _=>true
 |_=>false
noncomputable def lV(X:cC)(f:Nat)(ds:List Sl):Option (V×List (List V)):=if Ev.xo<=f/\ds.all Sl.fQ=true then (X (f - Ev.xo) ds).map λ(c:Nat)=>((.int (c:Int),[]):V×List (List V))else none
noncomputable def runs(F:List Fn)(w:Nat):Nat->aG×cC
 |0=>(λ_ _=>none,λ_ _=>none)
 |n+1=>
  let X:cC:=λf ds=>match F[f]? with
   |some fn=>if ds.length=fn.np then xss (runs F w n).1 (runs F w n).2 w fn.body (dg fn ds)else none
   |none=>none
  (λf ds=>match F[f]? with
   |some fn=>if ds.length=fn.np then match exs ((runs F w n).1) w fn.body (dg fn ds)with
     |.ok (.ret v) fr=>some (v,outs fn.np fr)
     |.ok .nx fr=>some (.aQ,outs fn.np fr)
     |_=>AY fn ds
    else none
   |none=>lV X f ds,X)
noncomputable def run(F:List Fn)(w n:Nat):aG:=(runs F w n).1
noncomputable def cy(F:List Fn)(w n:Nat):cC:=(runs F w n).2
theorem fK(F:List Fn)(w n f:Nat)(ds:List Sl):run F w (n+1) f ds=match F[f]? with
   |some fn=>if ds.length=fn.np then match exs (run F w n) w fn.body (dg fn ds)with
     |.ok (.ret v) fr=>some (v,outs fn.np fr)
     |.ok .nx fr=>some (.aQ,outs fn.np fr)
     |_=>AY fn ds
    else none
   |none=>lV (cy F w (n+1)) f ds:=nd rfl
theorem iw(F:List Fn)(w n f:Nat)(ds:List Sl):cy F w (n+1) f ds=match F[f]? with
   |some fn=>if ds.length=fn.np then xss (run F w n) (cy F w n) w fn.body (dg fn ds)else none
   |none=>none:=nd rfl
end Pv
namespace Pv
open Ev (D O Hh bw bq TY BI ME T E Es Eo It S Ss Fn big deep b2i rep bV dM bB aO cut b8 dz slots bf)
section
variable(h:Hh)(S:Nat->Prop)
mutual
noncomputable def Rep:V->D->Prop
 |.aQ,d=>d=.aQ
 |.bl b,d=>d=.bl b
 |.int i,d=>d=.int i
 |.str s,d=>d=.str s
 |.tup l,d=>∃ds,d=.tup ds/\au l ds
 |.lst l,d=>∃n ds,d=.ref n/\S n/\h[n]?=some (.lst ds)/\au l ds
 |.bS l,d=>∃n ds,d=.ref n/\S n/\h[n]?=some (.bS ds)/\au l ds
noncomputable def au:List V->List D->Prop
 |[],ds=>ds=[]
 |v :: vs,ds=>∃d es,ds=d :: es/\Rep v d/\au vs es
end
noncomputable def bx:V->D->Prop
 |.lst l,d=>∃n ds,d=.ref n/\h[n]?=some (.lst ds)/\au h S l ds
 |v,d=>Rep h S v d
noncomputable def fL:List V->List D->Prop
 |[],ds=>ds=[]
 |v :: vs,ds=>∃d es,ds=d :: es/\bx h S v d/\fL vs es
end
abbrev U:Nat->Prop:=λ_=>True
section
variable{h h':Hh}{S S':Nat->Prop}
mutual
theorem Rep.mono(f:∀m,S m->h'[m]?=h[m]?)(g:∀m,S m->S' m):∀{v:V}{d:D},Rep h S v d->Rep h' S' v d
 |.aQ,_,q=>q
 |.bl _,_,q=>q
 |.int _,_,q=>q
 |.str _,_,q=>q
 |.tup l,_,⟨ds,a,b⟩=>⟨ds,a,au.mono f g b⟩
 |.lst l,_,⟨n,ds,a,b,c,e⟩=>⟨n,ds,a,g n b,by rw[f n b];exact c,au.mono f g e⟩
 |.bS l,_,⟨n,ds,a,b,c,e⟩=>⟨n,ds,a,g n b,by rw[f n b];exact c,au.mono f g e⟩
theorem au.mono(f:∀m,S m->h'[m]?=h[m]?)(g:∀m,S m->S' m):∀{v:List V}{d:List D},au h S v d->au h' S' v d
 |[],_,q=>q
 |_ :: _,_,⟨d,es,a,b,c⟩=>⟨d,es,a,Rep.mono f g b,au.mono f g c⟩
end
theorem au.nil:au h S [] []:=by simp[au]
theorem au.cons{v:V}{d:D}{vs:List V}{ds:List D}(a:Rep h S v d)(b:au h S vs ds):au h S (v :: vs) (d :: ds):=by simp only[au];exact⟨d,ds,rfl,a,b⟩
theorem Rep.top{v:V}{d:D}(q:Rep h S v d):bx h S v d:=by
 cases v<;>first|exact q | (obtain⟨n,ds,a,b,c,e⟩:=q;exact⟨n,ds,a,c,e⟩)
theorem bx.u{v:V}{d:D}(q:bx h S v d):Rep h U v d:=by
 cases v with
 |lst l=>obtain⟨n,ds,a,b,c⟩:=q;exact⟨n,ds,a,trivial,b,c.mono (λ_ _=>rfl) λ_ _=>trivial⟩
 |_=>exact Rep.mono (S:=S) (λ_ _=>rfl) (λ_ _=>trivial) q
theorem au.u{v:List V}{d:List D}(q:au h S v d):au h U v d:=q.mono (λ_ _=>rfl) λ_ _=>trivial
theorem bx.mono{v:V}{d:D}(f:∀m,m<h.length->h'[m]?=h[m]?)(k:∀m,S m->m<h.length)(g:∀m,S m->S' m)(q:bx h S v d):bx h' S' v d:=by
 cases v with
 |lst l=>
  obtain⟨n,ds,a,b,c⟩:=q;exact⟨n,ds,a,by rw[f n (List.getElem?_eq_some_iff.mp b).1];exact b,c.mono (λm z=>f m (k m z)) g⟩
 |_=>exact Rep.mono (λm z=>f m (k m z)) g q
theorem au.length:∀{v:List V}{d:List D},au h S v d->v.length=d.length
 |[],_,q=>by simp only[au]at q;subst q;rfl
 |_ :: _,_,q=>by simp only[au]at q;obtain⟨d,es,rfl,_,c⟩:=q;simp[c.length]
theorem au.get:∀{v:List V}{d:List D}{i:Nat}{x:V},au h S v d->v[i]?=some x->∃y,d[i]?=some y/\Rep h S x y
 |[],_,_,_,_,e=>by simp at e
 |_ :: _,_,0,_,q,e=>by
  simp only[au]at q;obtain⟨d,es,rfl,b,_⟩:=q;simp at e;subst e;exact⟨d,by simp,b⟩
 |_ :: _,_,i+1,_,q,e=>by
  simp only[au]at q;obtain⟨d,es,rfl,_,c⟩:=q;obtain⟨y,a,b⟩:=c.get (i:=i) (by simpa using e);exact⟨y,by simpa using a,b⟩
theorem au.append:∀{v w:List V}{d e:List D},au h S v d->au h S w e->au h S (v++w) (d++e)
 |[],_,_,_,a,b=>by simp only[au]at a;subst a;simpa using b
 |_ :: _,_,_,_,a,b=>by
  simp only[au]at a;obtain⟨d,es,rfl,x,y⟩:=a;exact .cons x (y.append b)
theorem au.take:∀{v:List V}{d:List D}(n:Nat),au h S v d->au h S (v.take n) (d.take n)
 |_,_,0,_=>by simp[au]
 |[],_,_+1,a=>by simp only[au]at a;subst a;simp[au]
 |_ :: _,_,n+1,a=>by
  simp only[au]at a;obtain⟨d,es,rfl,x,y⟩:=a;simp only[List.take_succ_cons];exact .cons x (y.take n)
theorem au.drop:∀{v:List V}{d:List D}(n:Nat),au h S v d->au h S (v.drop n) (d.drop n)
 |_,_,0,a=>by simpa using a
 |[],_,_+1,a=>by simp only[au]at a;subst a;simp[au]
 |_ :: _,_,n+1,a=>by
  simp only[au]at a;obtain⟨d,es,rfl,x,y⟩:=a;simp only[List.drop_succ_cons];exact y.drop n
theorem au.dropLast:∀{v:List V}{d:List D},au h S v d->au h S v.dropLast d.dropLast:=λ{v d} a=>by
 rw[List.dropLast_eq_take,List.dropLast_eq_take,a.length];exact a.take _
theorem au.reverse:∀{v:List V}{d:List D},au h S v d->au h S v.reverse d.reverse
 |[],_,a=>by simp only[au]at a;subst a;simp[au]
 |_ :: _,_,a=>by
  simp only[au]at a;obtain⟨d,es,rfl,x,y⟩:=a;simp only[List.reverse_cons];exact y.reverse.append (.cons x .nil)
theorem au.rep{v:List V}{d:List D}(a:au h S v d):∀k:Nat,au h S (Ev.rep k v) (Ev.rep k d)
 |0=>by simp[Ev.rep,au]
 |k+1=>by
  have z:=au.rep a k;simp only[Ev.rep,List.replicate_succ,List.flatten_cons]at z ⊢;exact a.append z
theorem au.cut{v:List V}{d:List D}(a:au h S v d)(lo hi:Option Int):au h S (Ev.cut v lo hi) (Ev.cut d lo hi):=by
 unfold Ev.cut;rw[a.length];exact(a.drop _).take _
theorem au.map{α:Type}{f:α->V}{g:α->D}(q:∀a,Rep h S (f a) (g a)):∀l:List α,au h S (l.map f) (l.map g)
 |[]=>.nil
 |_ :: l=>.cons (q _) (au.map q l)
mutual
theorem Rep.uniq:∀{v w:V}{d:D},Rep h U v d->Rep h U w d->v=w
 |.aQ,w,_,a,b=>by simp only[Rep]at a;subst a;cases w<;>simp[Rep]at b<;>rfl
 |.bl _,w,_,a,b=>by simp only[Rep]at a;subst a;cases w<;>simp[Rep]at b<;>rw[b]
 |.int _,w,_,a,b=>by simp only[Rep]at a;subst a;cases w<;>simp[Rep]at b<;>rw[b]
 |.str _,w,_,a,b=>by simp only[Rep]at a;subst a;cases w<;>simp[Rep]at b<;>rw[b]
 |.tup l,w,_,a,b=>by
  simp only[Rep]at a;obtain⟨ds,rfl,a⟩:=a;cases w<;>simp[Rep]at b
  rw[au.uniq a b]
 |.lst l,w,_,a,b=>by
  simp only[Rep]at a;obtain⟨n,ds,rfl,_,a1,a⟩:=a;cases w<;>simp[Rep]at b
  .obtain⟨ds',b1,b⟩:=b;rw[a1]at b1;cases b1;rw[au.uniq a b]
  .obtain⟨ds',b1,b⟩:=b;rw[a1]at b1;cases b1
 |.bS l,w,_,a,b=>by
  simp only[Rep]at a;obtain⟨n,ds,rfl,_,a1,a⟩:=a;cases w<;>simp[Rep]at b
  .obtain⟨ds',b1,b⟩:=b;rw[a1]at b1;cases b1
  .obtain⟨ds',b1,b⟩:=b;rw[a1]at b1;cases b1;rw[au.uniq a b]
theorem au.uniq:∀{v w:List V}{d:List D},au h U v d->au h U w d->v=w
 |[],w,_,a,b=>by simp only[au]at a;subst a;cases w<;>simp[au]at b;rfl
 |x :: xs,w,_,a,b=>by
  simp only[au]at a;obtain⟨d,es,rfl,a1,a2⟩:=a;cases w<;>simp only[au]at b
  .cases b
  obtain⟨d',es',e,b1,b2⟩:=b;cases e;rw[Rep.uniq a1 b1,au.uniq a2 b2]
end
theorem uK{n:Nat}(f:∀v b,dR n v v=some b->b=true):∀l b,cj (dR n) l l=some b->b=true
 |[],b,e=>by simp[cj]at e;exact e
 |x :: xs,b,e=>by
  simp only[cj,Option.bind_eq_some_iff]at e;obtain⟨c,e1,c2,e2,e⟩:=e;rw[f x c e1,uK f xs c2 e2]at e;simpa using e.symm
theorem uL:∀n v b,dR n v v=some b->b=true
 |0,_,_,e=>by cases e
 |n+1,v,b,e=>by
  cases v<;>first|exact uK (uL n) _ _ e | (cases e<;>first|rfl|exact beq_self_eq_true _)
theorem uM{n:Nat}(f:∀{v w:V}{d e:D}{b},dR n v w=some b->Rep h U v d->Rep h U w e->Ev.iH h n d e=some b):∀{l m:List V}{ds es:List D}{b},cj (dR n) l m=some b->au h U l ds->au h U m es->Ev.cj (Ev.iH h n) ds es=some b
 |[],[],_,_,b,e,p,q=>by simp only[au]at p q;subst p q;simpa[cj,Ev.cj]using e
 |[],_ :: _,_,_,b,e,p,q=>by simp only[au]at p q;subst p;obtain⟨_,_,rfl,_⟩:=q;simpa[cj,Ev.cj]using e
 |_ :: _,[],_,_,b,e,p,q=>by simp only[au]at p q;subst q;obtain⟨_,_,rfl,_⟩:=p;simpa[cj,Ev.cj]using e
 |x :: xs,y :: ys,_,_,b,e,p,q=>by
  simp only[au]at p q;obtain⟨d,ds,rfl,p1,p2⟩:=p;obtain⟨d',ds',rfl,q1,q2⟩:=q;simp only[cj,Option.bind_eq_some_iff]at e;obtain⟨c,e1,c2,e2,e⟩:=e;simp[Ev.cj,f e1 p1 q1,uM f e2 p2 q2];simpa using e
theorem iK{n:Nat}{ds:List D}(q:h[n]?=some (.lst ds)):bf h n=some ds:=by simp[bf,q]
theorem jh{n:Nat}{ds:List D}(q:h[n]?=some (.bS ds)):bf h n=some ds:=by simp[bf,q]
theorem kJ:∀(n:Nat) {v w:V}{d e:D}{b},dR n v w=some b->Rep h U v d->Rep h U w e->Ev.iH h n d e=some b
  |0,_,_,_,_,_,e,_,_=>by cases e
  |n+1,v,w,d,e,b,x,p,q=>by
    by_cases hr:∃m,d=.ref m/\e=.ref m
    . obtain⟨m,rfl,rfl⟩:=hr;have hvw:=p.uniq q;subst hvw;have hb:=uL _ _ _ x;subst hb;cases v<;>simp[Rep]at p
      . obtain⟨ds,p1,p2⟩:=p;show Ev.jJ _ _ _ _=_;rw[Ev.jJ,if_pos rfl,iK p1];rfl
      . obtain⟨ds,p1,p2⟩:=p;show Ev.jJ _ _ _ _=_;rw[Ev.jJ,if_pos rfl,jh p1];rfl
    . cases v<;>cases w<;>simp only[Rep]at p q <;>
      first
      | (subst p;subst q;exact x)
      | (obtain⟨ds,rfl,p⟩:=p;subst q;exact x)
      | (obtain⟨ds,rfl,q⟩:=q;subst p;exact x)
      | (obtain⟨ds,rfl,p⟩:=p;obtain⟨es,rfl,q⟩:=q;exact uM (λa b c=>kJ n a b c) x p q)
      | (cases x;done)
      | (obtain⟨m,ds,rfl,_,p1,p⟩:=p;obtain⟨k,es,rfl,_,q1,q⟩:=q
         have hne:m≠k:=λz=>hr ⟨m,rfl,by rw[z]⟩;show Ev.jJ _ _ _ _=_;rw[Ev.jJ,if_neg hne,p1,q1];exact uM (λa b c=>kJ n a b c) x p q)
      | (cases x;obtain⟨m,ds,rfl,_,p1,p⟩:=p;subst q;exact congrArg (Option.map λ_=>false) (iK p1))
      | (cases x;obtain⟨m,ds,rfl,_,p1,p⟩:=p;subst q;exact congrArg (Option.map λ_=>false) (jh p1))
      | (cases x;obtain⟨m,ds,rfl,_,p1,p⟩:=p;obtain⟨es,rfl,q⟩:=q;exact congrArg (Option.map λ_=>false) (iK p1))
      | (cases x;obtain⟨m,ds,rfl,_,p1,p⟩:=p;obtain⟨es,rfl,q⟩:=q;exact congrArg (Option.map λ_=>false) (jh p1))
      | (cases x;obtain⟨m,ds,rfl,_,q1,q⟩:=q;subst p;exact congrArg (Option.map λ_=>false) (iK q1))
      | (cases x;obtain⟨m,ds,rfl,_,q1,q⟩:=q;subst p;exact congrArg (Option.map λ_=>false) (jh q1))
      | (cases x;obtain⟨m,ds,rfl,_,q1,q⟩:=q;obtain⟨es,rfl,p⟩:=p;exact congrArg (Option.map λ_=>false) (iK q1))
      | (cases x;obtain⟨m,ds,rfl,_,q1,q⟩:=q;obtain⟨es,rfl,p⟩:=p;exact congrArg (Option.map λ_=>false) (jh q1))
end
end Pv
namespace Pv
open Ev (D O Hh bw bq TY BI ME T E Es Eo It S Ss Fn big deep b2i rep bV dM bB aO cut b8 dz slots bf)
structure Al(h:Hh)(S:Nat->Prop)(h':Hh)(S':Nat->Prop):Prop where
 len:h.length<=h'.length
 keep:∀m,m<h.length->h'[m]?=h[m]?
 sub:∀m,S m->S' m
 new:∀m,S' m->S m\/(h.length<=m/\m<h'.length)
section
variable{h h':Hh}{S S':Nat->Prop}
theorem Al.refl:Al h S h S:=⟨Nat.le_refl _,λ_ _=>rfl,λ_ q=>q,λ_ q=>.inl q⟩
theorem Al.snoc(o:O):Al h S (h++[o]) (λm=>S m\/m=h.length) where
 len:=by simp
 keep:=λm q=>by rw[List.getElem?_append_left q]
 sub:=λ_ q=>.inl q
 new:=λm q=>by
  rcases q with q|q
  .exact .inl q
  .subst q;exact .inr ⟨Nat.le_refl _,by simp⟩
theorem jN{l:List V}{v:V}{ds:List D}(w:∀m,S m->m<h.length)(e:e8 l=some v)(q:au h S l ds):∃r h' S',Ev.alloc ds h=.ok r h'/\Rep h' S' v r/\Al h S h' S':=by
 unfold e8 at e;split at e
 .rename_i z;cases e;refine⟨.ref h.length,h++[.lst ds],λm=>S m\/m=h.length,by unfold Ev.alloc;rw[if_pos (by rw[<-q.length];exact z)],?_,Al.snoc _⟩;simp only[Rep];refine⟨h.length,ds,rfl,.inr rfl,by simp,q.mono (λm z=>?_) λ_ z=>.inl z⟩;rw[List.getElem?_append_left (w m z)]
 .cases e
theorem qh{v:V}{l:List V}{d:D}(e:sR v=some l)(q:bx h S v d):∃n ds,d=.ref n/\bf h n=some ds/\au h S l ds:=by
 cases v<;>simp[sR]at e
 .subst e;simp only[bx]at q;obtain⟨n,ds,rfl,a,b⟩:=q;exact⟨n,ds,rfl,iK a,b⟩
 .subst e;simp only[bx,Rep]at q;obtain⟨n,ds,rfl,_,a,b⟩:=q;exact⟨n,ds,rfl,jh a,b⟩
mutual
theorem mZ:∀{d:D}{v:V},ofD d=some v->Rep h S v d
 |.aQ,_,e=>by simp[ofD]at e;subst e;simp[Rep]
 |.bl _,_,e=>by simp[ofD]at e;subst e;simp[Rep]
 |.int _,_,e=>by simp[ofD]at e;subst e;simp[Rep]
 |.str _,_,e=>by simp[ofD]at e;subst e;simp[Rep]
 |.ref _,_,e=>by simp[ofD]at e
 |.tup ds,_,e=>by
  simp[ofD]at e;obtain⟨vs,e,rfl⟩:=e;exact⟨ds,rfl,xu e⟩
theorem xu:∀{d:List D}{v:List V},uI d=some v->au h S v d
 |[],_,e=>by simp[uI]at e;subst e;exact .nil
 |d :: ds,_,e=>by
  simp only[uI,Option.bind_eq_some_iff,Option.map_eq_some_iff]at e;obtain⟨v,e1,vs,e2,rfl⟩:=e;exact .cons (mZ e1) (xu e2)
end
theorem au.emp{l:List V}{ds:List D}(q:au h S l ds):ds.isEmpty=l.isEmpty:=by
 have:=q.length;cases l<;>cases ds<;>simp at this ⊢
theorem AZ{v:V}{d:D}(q:bx h S v d):Ev.truthy h d=some (truthy v):=by
 cases v<;>simp only[bx,Rep]at q
 .subst q;rfl
 .subst q;rfl
 .subst q;rfl
 .subst q;rfl
 .obtain⟨ds,rfl,q⟩:=q;simp only[Ev.truthy,truthy,q.emp]
 .obtain⟨n,ds,rfl,a,q⟩:=q;simp only[Ev.truthy,truthy,iK a,Option.map,q.emp]
 .obtain⟨n,ds,rfl,_,a,q⟩:=q;simp only[Ev.truthy,truthy,jh a,Option.map,q.emp]
theorem nn{α:Type}{v:α}{p:Prop}(z:none=some v):p:=Option.noConfusion rfl (heq_of_eq z)
theorem Ll{o:bw}{x y v:V}{d e:D}(w:∀m,S m->m<h.length)(z:bQ o x y=some v)(p:bx h S x d)(q:bx h S y e):∃r h' S',Ev.bQ o d e h=.ok r h'/\Rep h' S' v r/\Al h S h' S':=by
 cases o<;>cases x<;>first|exact nn z | (cases y<;>first|exact nn z|skip)
 all_goals (delta bQ at z;dsimp only at z;simp only[bx,Rep]at p q)
 .subst p q;cases z;exact⟨_,_,S,rfl,rfl,.refl⟩
 .subst p q;split at z
  .rename_i k;cases z;exact⟨_,_,S,by delta Ev.bQ;dsimp only;rw[if_pos k],rfl,.refl⟩
  .cases z
 .obtain⟨ds,rfl,p⟩:=p;obtain⟨es,rfl,q⟩:=q;split at z
  .rename_i k;cases z;exact⟨_,_,S,by delta Ev.bQ;dsimp only;rw[if_pos (by rw[<-p.length,<-q.length];exact k)],⟨_,rfl,p.append q⟩,.refl⟩
  .cases z
 .obtain⟨n,ds,rfl,a,p⟩:=p;obtain⟨m,es,rfl,b,q⟩:=q
  delta Ev.bQ;dsimp only;simp only[a,b]
  exact jN w z (p.append q)
 .subst p q;cases z;exact⟨_,_,S,rfl,rfl,.refl⟩
 .subst p q;split at z
  .rename_i k;cases z;exact⟨_,_,S,by delta Ev.bQ;dsimp only;rw[if_pos k],rfl,.refl⟩
  .cases z
 .subst p q;split at z
  .rename_i k;cases z;exact⟨_,_,S,by delta Ev.bQ;dsimp only;rw[if_pos k],rfl,.refl⟩
  .cases z
 .obtain⟨ds,rfl,p⟩:=p;subst q;split at z
  .rename_i k;cases z;exact⟨_,_,S,by delta Ev.bQ;dsimp only;rw[if_pos (by rw[<-p.length];exact k)],⟨_,rfl,p.rep _⟩,.refl⟩
  .cases z
 .obtain⟨n,ds,rfl,a,p⟩:=p;subst q;split at z
  .rename_i k
   delta Ev.bQ;dsimp only;simp only[a]
   rw[if_pos (by rw[<-p.length];exact k)];exact jN w z (p.rep _)
  .cases z
 .subst p q;split at z
  .rename_i k;cases z;exact⟨_,_,S,by delta Ev.bQ;dsimp only;rw[if_pos k],rfl,.refl⟩
  .cases z
 .subst p q;split at z
  .rename_i k;cases z;exact⟨_,_,S,by delta Ev.bQ;dsimp only;rw[if_pos k],rfl,.refl⟩
  .cases z
theorem Lm{o:bq}{x y:V}{d e:D}{b:Bool}(z:cop o x y=some b)(p:Rep h U x d)(q:Rep h U y e):Ev.cop o d e h=some b:=by
 cases o
 case eq=>delta cop at z;dsimp only at z;delta Ev.cop;dsimp only;exact kJ deep z p q
 case ne=>
  delta cop at z;dsimp only at z;simp only[Option.map_eq_some_iff]at z;obtain⟨c,z,rfl⟩:=z
  delta Ev.cop;dsimp only;simp only[kJ deep z p q];rfl
 all_goals (
  cases x<;>first|exact nn z | (cases y<;>first|exact nn z|skip)
  simp only[Rep]at p q;subst p q;exact z)
theorem zb{l:List V}{ds:List D}{i:Int}{v:V}(e:bB l i=some v)(q:au h S l ds):∃d,bB ds i=some d/\Rep h S v d:=by
 unfold bB at e ⊢;rw[q.length]at e;cases z:dM ds.length i with
 |none=>rw[z]at e;cases e
 |some j=>rw[z]at e;exact q.get e
theorem Ln{x y v:V}{d e:D}(z:eY x y=some v)(p:bx h S x d)(q:bx h S y e):∃r,Ev.eY d e h=some r/\Rep h S v r:=by
 cases x<;>cases y<;>simp only[eY,reduceCtorEq]at z<;>simp only[bx,Rep]at p q
 .subst p q;simp only[Option.map_eq_some_iff]at z;obtain⟨c,z,rfl⟩:=z;exact⟨.str [c],by simp[Ev.eY,z],rfl⟩
 .obtain⟨ds,rfl,p⟩:=p;subst q;simpa[Ev.eY]using zb z p
 .obtain⟨n,ds,rfl,a,p⟩:=p;subst q;simpa[Ev.eY,iK a]using zb z p
 .obtain⟨n,ds,rfl,_,a,p⟩:=p;subst q;simpa[Ev.eY,jh a]using zb z p
theorem Lo{x v:V}{d:D}{lo hi:Option Int}(w:∀m,S m->m<h.length)(z:gR x lo hi=some v)(p:bx h S x d):∃r h' S',Ev.gR d lo hi h=.ok r h'/\Rep h' S' v r/\Al h S h' S':=by
 cases x<;>simp only[gR,reduceCtorEq]at z<;>simp only[bx,Rep]at p
 .subst p;cases z;exact⟨_,_,S,rfl,rfl,.refl⟩
 .obtain⟨ds,rfl,p⟩:=p;cases z;exact⟨_,_,S,rfl,⟨_,rfl,p.cut _ _⟩,.refl⟩
 .obtain⟨n,ds,rfl,a,p⟩:=p;simp only[Ev.gR,iK a];exact jN w z (p.cut _ _)
 .obtain⟨n,ds,rfl,_,a,p⟩:=p;simp only[Ev.gR,jh a];exact jN w z (p.cut _ _)
theorem Lp{x v:V}{d:D}(z:toT x=some v)(p:bx h S x d):∃r,Ev.qR d h=.ok r h/\Rep h S v r:=by
 cases x<;>simp only[toT,reduceCtorEq]at z<;>simp only[bx,Rep]at p
 .obtain⟨ds,rfl,p⟩:=p;cases z;exact⟨_,rfl,⟨_,rfl,p⟩⟩
 .obtain⟨n,ds,rfl,a,p⟩:=p;unfold jM at z;split at z
  .rename_i k;cases z;refine⟨.tup ds,?_,⟨_,rfl,p⟩⟩;simp only[Ev.qR,iK a];rw[if_pos (by rw[<-p.length];exact k)]
  .cases z
 .obtain⟨n,ds,rfl,_,a,p⟩:=p;unfold jM at z;split at z
  .rename_i k;cases z;refine⟨.tup ds,?_,⟨_,rfl,p⟩⟩;simp only[Ev.qR,jh a];rw[if_pos (by rw[<-p.length];exact k)]
  .cases z
theorem G9{x:V}{l:List V}{d:D}(z:sR x=some l)(p:bx h S x d):∃s,Ev.Cv h d=some s/\au h S l s.1/\(∀q∈s.2,d=.ref q.1/\bf h q.1=some q.2):=by
 obtain⟨n,ds,rfl,a,q⟩:=qh z p;exact⟨(ds,[(n,ds)]),by simp[Ev.Cv,a],q,by simp[a]⟩
theorem CU:∀{l:List V}{ds:List D}{bs},boolsOf l=some bs->au h S l ds->Ev.boolsOf ds=some bs
 |[],_,_,e,q=>by simp only[au]at q;subst q;exact e
 |x :: xs,_,bs,e,q=>by
  cases x<;>simp only[boolsOf,reduceCtorEq,Option.map_eq_some_iff]at e
  obtain⟨r,e,rfl⟩:=e;simp only[au,Rep]at q;obtain⟨_,ds,rfl,rfl,q⟩:=q;simp[Ev.boolsOf,CU e q]
theorem xx:∀{l:List V}{ds:List D}{bs},intsOf l=some bs->au h S l ds->Ev.intsOf ds=some bs
 |[],_,_,e,q=>by simp only[au]at q;subst q;exact e
 |x :: xs,_,bs,e,q=>by
  cases x<;>simp only[intsOf,reduceCtorEq,Option.map_eq_some_iff]at e
  obtain⟨r,e,rfl⟩:=e;simp only[au,Rep]at q;obtain⟨_,ds,rfl,rfl,q⟩:=q;simp[Ev.intsOf,xx e q]
theorem xy:∀{l:List V}{ds:List D}{bs},strsOf l=some bs->au h S l ds->Ev.strsOf ds=some bs
 |[],_,_,e,q=>by simp only[au]at q;subst q;exact e
 |x :: xs,_,bs,e,q=>by
  cases x<;>simp only[strsOf,reduceCtorEq,Option.map_eq_some_iff]at e
  obtain⟨r,e,rfl⟩:=e;simp only[au,Rep]at q;obtain⟨_,ds,rfl,rfl,q⟩:=q;simp[Ev.strsOf,xy e q]
theorem fL.one{v:V}{ds:List D}(q:fL h S [v] ds):∃d,ds=[d]/\bx h S v d:=by
 simp only[fL]at q;obtain⟨d,es,rfl,a,rfl⟩:=q;exact⟨d,rfl,a⟩
theorem Lq{b:BI}{xs:List V}{v:V}{ds:List D}(w:∀m,S m->m<h.length)(z:eL b xs=some v)(p:fL h S xs ds):∃r h' S',Ev.eL b ds h=.ok r h'/\Rep h' S' v r/\Al h S h' S':=by
 delta eL at z
 rcases xs with _|⟨x,_|⟨y,_|⟨u,xs⟩⟩⟩
 .cases b<;>exact nn z
 .obtain⟨d,rfl,p1⟩:=p.one;cases b
  case len=>
   cases x
   case str s=>
    dsimp only at z;simp only[bx,Rep]at p1;subst p1;split at z
    .rename_i k;cases z;exact⟨_,_,S,by delta Ev.eL;dsimp only;rw[if_pos k],rfl,.refl⟩
    .cases z
   case tup l=>
    dsimp only at z;simp only[bx,Rep]at p1;obtain⟨es,rfl,p2⟩:=p1;cases z;exact⟨_,_,S,rfl,by simp[Rep,p2.length],.refl⟩
   all_goals
    dsimp only at z;simp only[Option.map_eq_some_iff]at z;obtain⟨l,z,rfl⟩:=z;obtain⟨n,es,rfl,a,q⟩:=qh z p1;exact⟨.int es.length,h,S,by delta Ev.eL;dsimp only;simp[a],by simp[Rep,q.length],.refl⟩
  case sum=>
   dsimp only at z;simp only[Option.map_eq_some_iff,Option.bind_eq_some_iff]at z;obtain⟨bs,⟨l,z,z2⟩,rfl⟩:=z;obtain⟨n,es,rfl,a,q⟩:=qh z p1;exact⟨_,_,S,by delta Ev.eL;dsimp only;simp only[a,Option.bind,xx z2 q];rfl,rfl,.refl⟩
  case min=>cases x<;>exact nn z
 .cases b
  case min=>
   cases x
   case int i=>
    cases y
    case int j=>
     dsimp only at z;simp only[fL,bx,Rep]at p;obtain⟨_,_,rfl,rfl,_,_,rfl,rfl,rfl⟩:=p;cases z;exact⟨_,_,S,rfl,rfl,.refl⟩
    all_goals exact nn z
   all_goals exact nn z
  case len=>cases x<;>exact nn z
  all_goals exact nn z
 .cases b
  case min=>cases x <;> (try cases y)<;>exact nn z
  case len=>cases x<;>exact nn z
  all_goals exact nn z
theorem Lr{m:ME}{o:V}{xs:List V}{v:V}{d:D}{ds:List D}(z:eZ m o xs=some v)(hm:iA m=false)(po:bx h S o d)(p:fL h S xs ds):Ev.pW m d h=true/\∃r,Ev.eZ m d ds h=.ok r h/\Rep h S v r:=by
 unfold eZ at z;split at z
 .obtain⟨d,rfl,p1⟩:=p.one;simp only[bx,Rep]at po;subst po;simp only[Option.bind_eq_some_iff]at z;obtain⟨ss,⟨l,z,z2⟩,z3⟩:=z;obtain⟨n,es,rfl,a,q⟩:=qh z p1;split at z3
  .rename_i k;cases z3;refine⟨rfl,_,?_,rfl⟩
   delta Ev.eZ;dsimp only;simp only[a,Option.bind,xy z2 q]
   rw[if_pos k]
  .cases z3
 .cases z
theorem Hf{x:V}{d:D}(f:tK x=true)(p:Rep h U x d):Rep [] U x d:=by
 cases x<;>simp only[tK,Bool.false_eq_true]at f<;>exact p
theorem CV{x:V}{d:D}(p:Rep h U x d):∀{kvs:List (D×D)}{v:V},ir x kvs=some v->∃r,Ev.ir d kvs=some r/\Rep h S v r:=by
 intro kvs v z;unfold ir at z;split at z
 .rename_i f;have p':=Hf f p;induction kvs with
  |nil=>cases z
  |cons kv r ih=>
   obtain⟨k,u⟩:=kv;simp only[yY]at z;simp only[Ev.ir];split at z
   .rename_i y;simp only[Option.bind_eq_some_iff]at y;obtain⟨k',y1,y2⟩:=y;rw[kJ 1 y2 (mZ y1) p'];exact⟨u,rfl,mZ z⟩
   .rename_i y;simp only[Option.bind_eq_some_iff]at y;obtain⟨k',y1,y2⟩:=y;rw[kJ 1 y2 (mZ y1) p'];exact ih z
   .cases z
 .cases z
theorem CW{x:V}{l:List V}{d:D}(z:gc x=some l)(p:bx h S x d):∃s,Ev.gc h d=some s/\au h S l s.1/\(∀q∈s.2,d=.ref q.1/\bf h q.1=some q.2):=by
 cases x<;>simp only[gc,reduceCtorEq]at z<;>simp only[bx,Rep]at p
 .subst p;cases z;exact⟨_,rfl,au.map (f:=λc=>V.str [c]) (g:=λc=>D.str [c]) (λ_=>by simp[Rep]) _,by simp⟩
 .obtain⟨ds,rfl,p⟩:=p;cases z;exact⟨_,rfl,p,by simp⟩
 .obtain⟨n,ds,rfl,a,p⟩:=p;cases z;exact⟨(ds,[(n,ds)]),by simp[Ev.gc,iK a],p,by simp[iK a]⟩
 .obtain⟨n,ds,rfl,_,a,p⟩:=p;cases z;exact⟨(ds,[(n,ds)]),by simp[Ev.gc,jh a],p,by simp[jh a]⟩
theorem uN(lo:Int)(n:Nat):au h S (range lo n) (Ev.range lo n):=au.map (f:=λ(i:Nat)=>V.int (lo+i)) (g:=λ(i:Nat)=>D.int (lo+i)) (λ_=>by simp[Rep]) _
theorem Ls{xs l:List V}{ds:List D}(z:fk xs=some l)(p:fL h S xs ds):∃s,Ev.fk ds=some (s,[])/\au h S l s:=by
 unfold fk at z;split at z
 .obtain⟨d,rfl,p1⟩:=p.one;simp only[bx,Rep]at p1;subst p1;split at z
  .rename_i k;cases z;exact⟨_,by simp only[Ev.fk];rw[if_pos k],uN _ _⟩
  .cases z
 .simp only[fL,bx,Rep]at p;obtain⟨_,_,rfl,rfl,_,_,rfl,rfl,rfl⟩:=p;split at z
  .rename_i k;cases z;exact⟨_,by simp only[Ev.fk];rw[if_pos k],uN _ _⟩
  .cases z
 .cases z
theorem xA:∀{a:List V}{ds:List D}(k:Int),au h S a ds->au h S (gA k a) (Ev.gA k ds)
 |[],_,_,p=>by simp only[au]at p;subst p;simp[gA,Ev.gA,au]
 |x :: xs,_,k,p=>by
  simp only[au]at p;obtain⟨d,ds,rfl,p1,p2⟩:=p;simp only[gA,Ev.gA];exact .cons ⟨_,rfl,.cons rfl (.cons p1 .nil)⟩ (xA _ p2)
end
end Pv
namespace Pv
open Ev (D O Hh bw bq TY BI ME T E Es Eo It S Ss Fn big deep b2i rep bV dM bB aO cut b8 dz slots bf)
noncomputable def kG(M B:Nat->Prop)(h:Hh)(S:Nat->Prop):Option Sl->Option D->Prop
 |none,p=>p=none
 |some (.val v),p=>∃d,p=some d/\Rep h S v d
 |some (.own l),p=>∃m ds,p=some (.ref m)/\(M m/\¬ B m)/\h[m]?=some (.lst ds)/\au h S l ds
 |some (.bor l),p=>∃m ds,p=some (.ref m)/\(M m/\B m)/\h[m]?=some (.lst ds)/\au h S l ds
 |some (.ro l),p=>∃m ds,p=some (.ref m)/\¬ M m/\h[m]?=some (.lst ds)/\au h S l ds
noncomputable def gS:Option Sl->Bool
 |some (.own _)=>true
 |some (.bor _)=>true
 |_=>false
noncomputable def xB:Option Sl->Bool
 |some (.bor _)=>true
 |some (.ro _)=>true
 |_=>false
noncomputable def locked(fr:Fr)(i:Nat):Bool:=match fr[i]? with
 |some o=>xB o
 |none=>false
structure aT(M B:Nat->Prop)(h:Hh)(S:Nat->Prop)(fr:Fr)(ai:Ev.Fr):Prop where
 wS:∀m,S m->m<h.length/\¬ M m/\¬ B m
 wM:∀m,M m->m<h.length
 wB:∀m,B m->m<h.length
 len:fr.length=ai.length
 sl:∀(i:Nat) o p,fr[i]?=some o->ai[i]?=some p->kG M B h S o p
 inj:∀(i j:Nat) o o' m,fr[i]?=some o->fr[j]?=some o'->gS o=true->gS o'=true->ai[i]?=some (some (.ref m))->ai[j]?=some (some (.ref m))->i=j
structure Tk(X:Nat->Prop)(h:Hh)(S:Nat->Prop)(h':Hh)(S':Nat->Prop):Prop where
 len:h.length<=h'.length
 keep:∀m,m<h.length->¬ X m->h'[m]?=h[m]?
 sub:∀m,S m->S' m
 new:∀m,S' m->S m\/(h.length<=m/\m<h'.length)
noncomputable def Xs(M:Nat->Prop)(ai:Ev.Fr)(l:List Nat):Nat->Prop:=λm=>M m/\∃i∈l,ai[i]?=some (some (.ref m))
structure Out(M B:Nat->Prop)(c:List Nat)(h:Hh)(S:Nat->Prop)(fr:Fr)(ai:Ev.Fr)(h':Hh)(S':Nat->Prop)(af:Fr):Prop where
 f:aT M B h' S' af ai
 tr:Tk (Xs M ai c) h S h' S'
 lk:∀i,locked af i=locked fr i
section
variable{M B M':Nat->Prop}{h h' h1 h2:Hh}{S S' S1 S2:Nat->Prop}{fr af aq:Fr}{ai:Ev.Fr}{c c1 c2:List Nat}{v:V}{d:D}{X X1 X2:Nat->Prop}
theorem aT.get(f:aT M B h S fr ai){i:Nat}{o:Option Sl}(e:fr[i]?=some o):∃p,ai[i]?=some p/\kG M B h S o p:=by
 have h1:=(List.getElem?_eq_some_iff.mp e).1;rw[f.len]at h1;exact⟨ai[i],List.getElem?_eq_getElem h1,f.sl i o _ e (List.getElem?_eq_getElem h1)⟩
theorem aT.w(f:aT M B h S fr ai):∀m,S m->m<h.length:=λm q=>(f.wS m q).1
theorem Al.tr(a:Al h S h' S'):Tk X h S h' S':=⟨a.len,λm q _=>a.keep m q,a.sub,a.new⟩
theorem Tk.al(t:Tk X h S h' S')(z:∀m,¬ X m):Al h S h' S':=⟨t.len,λm q=>t.keep m q (z m),t.sub,t.new⟩
theorem Tk.weak(t:Tk X h S h' S')(q:∀m,X m->X1 m):Tk X1 h S h' S':=⟨t.len,λm k z=>t.keep m k λy=>z (q m y),t.sub,t.new⟩
theorem Tk.trans(a:Tk X1 h S h1 S1)(b:Tk X2 h1 S1 h2 S2):Tk (λm=>X1 m\/X2 m) h S h2 S2 where
 len:=Nat.le_trans a.len b.len
 keep:=λm q z=>by rw[b.keep m (Nat.lt_of_lt_of_le q a.len) (λy=>z (.inr y)),a.keep m q (λy=>z (.inl y))]
 sub:=λm q=>b.sub m (a.sub m q)
 new:=λm q=>by
  rcases b.new m q with q|⟨q1,q2⟩
  .rcases a.new m q with q|⟨q1,q2⟩
   .exact .inl q
   .exact .inr ⟨q1,Nat.lt_of_lt_of_le q2 b.len⟩
  .exact .inr ⟨Nat.le_trans a.len q1,q2⟩
theorem Al.trans(a:Al h S h1 S1)(b:Al h1 S1 h2 S2):Al h S h2 S2:=((a.tr (X:=λ_=>False)).trans (b.tr (X:=λ_=>False))).al λm z=>by simp at z
theorem Tk.refl:Tk X h S h S:=⟨Nat.le_refl _,λ_ _ _=>rfl,λ_ q=>q,λ_ q=>.inl q⟩
theorem Xs.app{l1 l2:List Nat}{m:Nat}:Xs M ai (l1++l2) m↔Xs M ai l1 m\/Xs M ai l2 m:=by
 unfold Xs;constructor
 .rintro⟨a,i,hi,e⟩;rcases List.mem_append.mp hi with hi|hi
  .exact .inl ⟨a,i,hi,e⟩
  .exact .inr ⟨a,i,hi,e⟩
 .rintro(⟨a,i,hi,e⟩|⟨a,i,hi,e⟩)
  .exact⟨a,i,List.mem_append.mpr (.inl hi),e⟩
  .exact⟨a,i,List.mem_append.mpr (.inr hi),e⟩
theorem Xs.nil{m:Nat}:¬ Xs M ai [] m:=by rintro⟨_,i,hi,_⟩;simp at hi
theorem Xs.mono{l1 l2:List Nat}(q:∀i∈l1,i∈l2){m:Nat}:Xs M ai l1 m->Xs M ai l2 m:=λ⟨a,i,hi,e⟩=>⟨a,i,q i hi,e⟩
theorem Rep.tr(q:Rep h S v d)(f:aT M B h S fr ai)(t:Tk (Xs M ai c) h S h' S'):Rep h' S' v d:=q.mono (λm z=>t.keep m (f.wS m z).1 (λy=>(f.wS m z).2.1 y.1)) t.sub
theorem au.tr{l:List V}{ds:List D}(q:au h S l ds)(f:aT M B h S fr ai)(t:Tk (Xs M ai c) h S h' S'):au h' S' l ds:=q.mono (λm z=>t.keep m (f.wS m z).1 (λy=>(f.wS m z).2.1 y.1)) t.sub
theorem bx.tr(q:bx h S v d)(f:aT M B h S fr ai)(t:Tk X h S h' S')(z:∀m,¬ X m):bx h' S' v d:=q.mono (λm k=>t.keep m k (z m)) f.w t.sub
theorem kG.al{o:Option Sl}{p:Option D}(q:kG M B h S o p)(w:∀m,S m->m<h.length)(a:Al h S h' S'):kG M B h' S' o p:=by
 have k:∀m,S m->h'[m]?=h[m]?:=λm z=>a.keep m (w m z);have g:∀(m:Nat) (ds:List D),h[m]?=some (O.lst ds)->h'[m]?=some (O.lst ds):=λm ds z=>by rw[a.keep m (List.getElem?_eq_some_iff.mp z).1];exact z
 rcases o with _|s
 .exact q
 .cases s with
  |val v=>obtain⟨d,e,q⟩:=q;exact⟨d,e,q.mono k a.sub⟩
  |own l=>obtain⟨m,ds,e,z,y,q⟩:=q;exact⟨m,ds,e,z,g m ds y,q.mono k a.sub⟩
  |bor l=>obtain⟨m,ds,e,z,y,q⟩:=q;exact⟨m,ds,e,z,g m ds y,q.mono k a.sub⟩
  |ro l=>obtain⟨m,ds,e,z,y,q⟩:=q;exact⟨m,ds,e,z,g m ds y,q.mono k a.sub⟩
theorem aT.al(f:aT M B h S fr ai)(a:Al h S h' S'):aT M B h' S' fr ai where
 wS:=λm q=>by
  rcases a.new m q with q|⟨q1,q2⟩
  .exact⟨Nat.lt_of_lt_of_le (f.wS m q).1 a.len,(f.wS m q).2⟩
  .exact⟨q2,λz=>by have:=f.wM m z;omega,λz=>by have:=f.wB m z;omega⟩
 wM:=λm q=>Nat.lt_of_lt_of_le (f.wM m q) a.len
 wB:=λm q=>Nat.lt_of_lt_of_le (f.wB m q) a.len
 len:=f.len
 sl:=λi o p e1 e2=>(f.sl i o p e1 e2).al f.w a
 inj:=f.inj
theorem Out.refl(f:aT M B h S fr ai):Out M B c h S fr ai h S fr:=⟨f,.refl,λ_=>rfl⟩
theorem Out.trans(a:Out M B c1 h S fr ai h1 S1 af)(b:Out M B c2 h1 S1 af ai h2 S2 aq):Out M B (c1++c2) h S fr ai h2 S2 aq:=⟨b.f,(a.tr.trans b.tr).weak λm z=>Xs.app.mpr z,λi=>(b.lk i).trans (a.lk i)⟩
theorem Out.al(a:Out M B c h S fr ai h1 S1 af)(b:Al h1 S1 h2 S2):Out M B c h S fr ai h2 S2 af:=⟨a.f.al b,(a.tr.trans (b.tr (X:=λ_=>False))).weak (λm z=>by rcases z with z|z;exact z;exact z.elim),a.lk⟩
theorem Out.weak(a:Out M B c h S fr ai h1 S1 af)(q:∀i∈c,i∈c1):Out M B c1 h S fr ai h1 S1 af:=⟨a.f,a.tr.weak λm z=>Xs.mono q z,a.lk⟩
noncomputable def fR(k:Bool)(h:Hh)(S:Nat->Prop)(v:V)(d:D):Prop:=if k=true then bx h S v d else Rep h S v d
theorem fR.of{k:Bool}(q:Rep h S v d):fR k h S v d:=by unfold fR;split;exact q.top;exact q
theorem fR.t{k:Bool}(q:fR k h S v d):bx h S v d:=by unfold fR at q;split at q;exact q;exact q.top
theorem fR.n(q:fR false h S v d):Rep h S v d:=by simpa[fR]using q
theorem aT.slot(f:aT M B h S fr ai){i m:Nat}(e:ai[i]?=some (some (.ref m)))(hm:M m):∃o,fr[i]?=some o/\gS o=true:=by
 have hl:i<fr.length:=by rw[f.len];exact(List.getElem?_eq_some_iff.mp e).1
 refine⟨fr[i],List.getElem?_eq_getElem hl,?_⟩;have s:=f.sl i _ _ (List.getElem?_eq_getElem hl) e
 revert s
 generalize fr[i]=o
 intro s;rcases o with _|s'
 .cases s
 .cases s' with
  |own l=>rfl
  |bor l=>rfl
  |ro l=>obtain⟨m',ds,e,y,_⟩:=s;cases e;exact absurd hm y
  |val v=>
   obtain⟨d,e,q⟩:=s;cases e;exfalso;cases v<;>simp only[Rep,reduceCtorEq]at q
   .obtain⟨_,e,_⟩:=q;cases e
   .obtain⟨n,ds,e,sn,_⟩:=q;cases e;exact(f.wS _ sn).2.1 hm
   .obtain⟨n,ds,e,sn,_⟩:=q;cases e;exact(f.wS _ sn).2.1 hm
theorem fR.tr{k:Bool}{a:E}(q:fR k h S v d)(f:aT M B h S fr ai)(t:Tk (Xs M ai c) h S h' S')(hk:k=true->kf a c=true)(ha:∀i,a=.v i->ai[i]?.join=some d):fR k h' S' v d:=by
 unfold fR at q ⊢;split at q
 .rename_i e;rw[if_pos e];have hk:=hk e;have gen:c=[]->bx h' S' v d:=λz=>q.tr f t λm y=>by subst z;exact Xs.nil y
  by_cases hv:∃i,a=.v i
  .obtain⟨i0,rfl⟩:=hv;simp only[kf,Bool.not_eq_true',List.contains_eq_mem,decide_eq_false_iff_not]at hk;cases v
   case lst l=>
    simp only[bx]at q ⊢;obtain⟨n,ds,rfl,b1,b2⟩:=q;refine⟨n,ds,rfl,?_,b2.tr f t⟩;rw[t.keep n (List.getElem?_eq_some_iff.mp b1).1 ?_]
    .exact b1
    .rintro⟨mn,j,hj,ej⟩;have e2:ai[i0]?=some (some (D.ref n)):=by
      have:=ha i0 rfl;cases z:ai[i0]? with
      |none=>rw[z]at this;cases this
      |some p=>rw[z]at this;simp at this;rw[this]
     obtain⟨o1,y1,y2⟩:=f.slot e2 mn;obtain⟨o2,y3,y4⟩:=f.slot ej mn;have:=f.inj i0 j o1 o2 n y1 y3 y2 y4 e2 ej;subst this;exact hk hj
   all_goals exact Rep.tr (show Rep h S _ d from q) f t
  .have:kf a c=c.isEmpty:=by
    cases a<;>first|rfl|exact absurd ⟨_,rfl⟩ hv
   rw[this,List.isEmpty_iff]at hk;exact gen hk
 .rename_i e;rw[if_neg e];exact q.tr f t
theorem Hg{k:Bool}{i:Nat}(e:mY k fr i=some v)(f:aT M B h S fr ai):∃d,ai[i]?.join=some d/\fR k h S v d:=by
  unfold mY at e;split at e
  . rename_i z;obtain⟨p,e1,q⟩:=f.get z;obtain⟨d,rfl,q⟩:=q;cases e;exact⟨d,by rw[e1];rfl,.of q⟩
  all_goals first
    | (rename_i z
       obtain⟨p,e1,q⟩:=f.get z;obtain⟨m,ds,rfl,_,y,q⟩:=q;split at e
       . rename_i hk;cases e;exact⟨.ref m,by rw[e1];rfl,by unfold fR;rw[if_pos hk];exact⟨m,ds,rfl,y,q⟩⟩
       . cases e)
    |cases e
theorem gT{i:Nat}{s:Sl}(e:lent fr i=some s)(f:aT M B h S fr ai):∃m ds l o,fr[i]?=some o/\ai[i]?=some (some (.ref m))/\h[m]?=some (.lst ds)/\au h S l ds/\((s=.bor l/\M m/\gS o=true)\/(s=.ro l/\¬ M m/\o=some (.ro l))):=by
 unfold lent at e;split at e
 .rename_i s' z;obtain⟨p,e1,q⟩:=f.get z;cases s' with
  |val v=>simp[Sl.lend]at e
  |own l=>
   simp[Sl.lend]at e;subst e;obtain⟨m,ds,rfl,y,y1,q⟩:=q;exact⟨m,ds,l,_,z,e1,y1,q,.inl ⟨rfl,y.1,rfl⟩⟩
  |bor l=>
   simp[Sl.lend]at e;subst e;obtain⟨m,ds,rfl,y,y1,q⟩:=q;exact⟨m,ds,l,_,z,e1,y1,q,.inl ⟨rfl,y.1,rfl⟩⟩
  |ro l=>
   simp[Sl.lend]at e;subst e;obtain⟨m,ds,rfl,y,y1,q⟩:=q;exact⟨m,ds,l,_,z,e1,y1,q,.inr ⟨rfl,y,rfl⟩⟩
 .cases e
noncomputable def sU(h:Hh)(S:Nat->Prop)(ai:Ev.Fr):List (Nat ⊕ V)->List D->Prop
 |[],ds=>ds=[]
 |.inl i :: r,ds=>∃d es,ds=d :: es/\ai[i]?=some (some d)/\sU h S ai r es
 |.inr v :: r,ds=>∃d es,ds=d :: es/\Rep h S v d/\sU h S ai r es
noncomputable def kj(h:Hh)(S:Nat->Prop):List Sl->List D->List (List V)->Prop
 |[],_,os=>os=[]
 |.val _ :: sl,ds,os=>∃d es,ds=d :: es/\kj h S sl es os
 |.own _ :: _,_,_=>False
 |_ :: sl,ds,os=>∃d es l r m cs,ds=d :: es/\os=l :: r/\d=.ref m/\h[m]?=some (.lst cs)/\au h S l cs/\kj h S sl es r
noncomputable def nO(P:aG)(P':Ev.aG):Prop:=∀f sl v os,P f sl=some (v,os)->∀(h:Hh) (S B:Nat->Prop) (ds:List D),aT B B h S (sl.map some) (ds.map some)->
 ∃d h' S',P' f ds h=.ok d h'/\Rep h' S' v d/\Tk B h S h' S'/\kj h' S' sl ds os
theorem args_get(f:aT M B h S fr ai):∀{as:List (Nat ⊕ V)}{sl:List Sl}{ds:List D},args fr as=some sl->sU h S ai as ds->sl.length=ds.length/\∀(a:Nat) s d,sl[a]?=some s->ds[a]?=some d->
  (∃i,as[a]?=some (.inl i)/\lent fr i=some s/\ai[i]?=some (some d))\/(∃v,s=.val v/\Rep h S v d)
 |[],sl,ds,e,q=>by
  simp[args]at e;simp only[sU]at q;subst e q;simp
 |.inl i :: r,sl,ds,e,q=>by
  simp only[args,Option.bind_eq_some_iff,Option.map_eq_some_iff]at e;obtain⟨s,e1,l,e2,rfl⟩:=e;obtain⟨d,es,rfl,q1,q⟩:=q;obtain⟨h1,h2⟩:=args_get f e2 q;refine⟨by simp[h1],λa s' d' z1 z2=>?_⟩;cases a with
  |zero=>simp at z1 z2;subst z1 z2;exact .inl ⟨i,by simp,e1,q1⟩
  |succ a=>exact(h2 a s' d' (by simpa using z1) (by simpa using z2)).imp (λ⟨i,k,z⟩=>⟨i,by simpa using k,z⟩) id
 |.inr v :: r,sl,ds,e,q=>by
  simp only[args,Option.map_eq_some_iff]at e;obtain⟨l,e2,rfl⟩:=e;obtain⟨d,es,rfl,q1,q⟩:=q;obtain⟨h1,h2⟩:=args_get f e2 q;refine⟨by simp[h1],λa s' d' z1 z2=>?_⟩;cases a with
  |zero=>simp at z1 z2;subst z1 z2;exact .inr ⟨v,rfl,q1⟩
  |succ a=>exact(h2 a s' d' (by simpa using z1) (by simpa using z2)).imp (λ⟨i,k,z⟩=>⟨i,by simpa using k,z⟩) id
theorem gU:∀{as:List (Nat ⊕ V)}{a i:Nat},as[a]?=some (.inl i)->i∈bH as
 |[],_,_,e=>by simp at e
 |.inl j :: r,0,i,e=>by simp at e;subst e;simp[bH]
 |.inr j :: r,0,i,e=>by simp at e
 |.inl j :: r,a+1,i,e=>by have:=gU (as:=r) (a:=a) (i:=i) (by simpa using e);simp[bH,this]
 |.inr j :: r,a+1,i,e=>by have:=gU (as:=r) (a:=a) (i:=i) (by simpa using e);simp[bH,this]
theorem m5:∀{as:List (Nat ⊕ V)}{a b i:Nat},(bH as).Nodup->as[a]?=some (.inl i)->as[b]?=some (.inl i)->a=b
 |[],_,_,_,_,e,_=>by simp at e
 |x :: r,0,0,_,_,_,_=>rfl
 |.inr j :: r,0,b+1,i,n,e,_=>by simp at e
 |.inl j :: r,0,b+1,i,n,e,e2=>by
  simp at e;subst e;simp only[bH,List.nodup_cons]at n;exact absurd (gU (as:=r) (a:=b) (by simpa using e2)) n.1
 |.inr j :: r,a+1,0,i,n,_,e=>by simp at e
 |.inl j :: r,a+1,0,i,n,e2,e=>by
  simp at e;subst e;simp only[bH,List.nodup_cons]at n;exact absurd (gU (as:=r) (a:=a) (by simpa using e2)) n.1
 |.inl j :: r,a+1,b+1,i,n,e1,e2=>by
  simp only[bH,List.nodup_cons]at n;have:=m5 (as:=r) (a:=a) (b:=b) (i:=i) n.2 (by simpa using e1) (by simpa using e2);omega
 |.inr j :: r,a+1,b+1,i,n,e1,e2=>by
  simp only[bH]at n;have:=m5 (as:=r) (a:=a) (b:=b) (i:=i) n (by simpa using e1) (by simpa using e2);omega
theorem CY{s:Sl}{l:List V}:gS (some (s.with l))=gS (some s):=by cases s<;>rfl
theorem xC{s:Sl}{l:List V}:xB (some (s.with l))=xB (some s):=by cases s<;>rfl
theorem uO:∀{is:List Nat}{ls:List (List V)}{fr af:Fr},back is ls fr=some af->is.Nodup->af.length=fr.length/\(∀i,i∉is->af[i]?=fr[i]?)/\∀i∈is,∃(k:Nat) (s:Sl) (l:List V),is[k]?=some i/\ls[k]?=some l/\fr[i]?=some (some s)/\af[i]?=some (some (s.with l))
 |[],[],fr,af,e,_=>by simp[back]at e;subst e;simp
 |[],_ :: _,_,_,e,_=>by simp[back]at e
 |_ :: _,[],_,_,e,_=>by simp[back]at e
 |i :: is,l :: ls,fr,af,e,n=>by
  simp only[back]at e;simp only[List.nodup_cons]at n;split at e
  .rename_i s z;obtain⟨h1,h2,h3⟩:=uO e n.2;refine⟨by simpa using h1,λj hj=>?_,λj hj=>?_⟩
   .simp at hj;rw[h2 j hj.2,List.getElem?_set_ne (λq=>hj.1 q.symm)]
   .rcases List.mem_cons.mp hj with rfl|hj
    .exact⟨0,s,l,by simp,by simp,z,by rw[h2 j n.1,List.getElem?_set_self (List.getElem?_eq_some_iff.mp z).1]⟩
    .obtain⟨k,s',l',a,b,c,d⟩:=h3 j hj;have hne:i≠j:=λq=>n.1 (q▸hj);rw[List.getElem?_set_ne hne]at c;exact⟨k+1,s',l',by simpa using a,by simpa using b,c,d⟩
  .cases e
theorem m6(f:aT M B h S fr ai):∀{as:List (Nat ⊕ V)}{sl:List Sl}{ds:List D}{os:List (List V)},args fr as=some sl->sU h S ai as ds->kj h' S' sl ds os->
  ∀(k i:Nat) l,(bH as)[k]?=some i->os[k]?=some l->∃m cs,ai[i]?=some (some (.ref m))/\h'[m]?=some (.lst cs)/\au h' S' l cs
 |[],sl,ds,os,e,q,o=>by simp[bH]
 |.inl i :: r,sl,ds,os,e,q,o=>by
  simp only[args,Option.bind_eq_some_iff,Option.map_eq_some_iff]at e;obtain⟨s,e1,l,e2,rfl⟩:=e;obtain⟨d,es,rfl,q1,q⟩:=q;obtain⟨m,cs,l0,o0,_,z2,z3,z4,z5⟩:=gT e1 f;have key:∃l1 r1 cs,os=l1 :: r1/\h'[m]?=some (.lst cs)/\au h' S' l1 cs/\kj h' S' l es r1:=by
   rw[q1]at z2;cases z2;rcases z5 with ⟨rfl,_⟩|⟨rfl,_⟩
   .obtain⟨d',es',l1,r1,m1,A3,a1,a2,a3,a4,a5,a6⟩:=o;cases a1;cases a3;exact⟨l1,r1,A3,a2,a4,a5,a6⟩
   .obtain⟨d',es',l1,r1,m1,A3,a1,a2,a3,a4,a5,a6⟩:=o;cases a1;cases a3;exact⟨l1,r1,A3,a2,a4,a5,a6⟩
  obtain⟨l1,r1,A3,rfl,a4,a5,a6⟩:=key;intro k j l' y1 y2;cases k with
  |zero=>simp[bH]at y1 y2;subst y1 y2;exact⟨m,A3,z2,a4,a5⟩
  |succ k=>exact m6 f e2 q a6 k j l' (by simpa[bH]using y1) (by simpa using y2)
 |.inr v :: r,sl,ds,os,e,q,o=>by
  simp only[args,Option.map_eq_some_iff]at e;obtain⟨l,e2,rfl⟩:=e;obtain⟨d,es,rfl,q1,q⟩:=q;obtain⟨d',es',a1,a2⟩:=o;cases a1;intro k j l' y1 y2;exact m6 f e2 q a2 k j l' (by simpa[bH]using y1) y2
theorem ly:∀{as:List (Nat ⊕ V)}{sl:List Sl}{i:Nat},args fr as=some sl->i∈bH as->∃s,lent fr i=some s
 |[],_,_,_,q=>by simp[bH]at q
 |.inl j :: r,_,i,z,q=>by
  simp only[args,Option.bind_eq_some_iff,Option.map_eq_some_iff]at z;obtain⟨s,e1,l,e2,rfl⟩:=z;simp[bH]at q;rcases q with rfl|q
  .exact⟨s,e1⟩
  .exact ly e2 q
 |.inr u :: r,_,i,z,q=>by
  simp only[args,Option.map_eq_some_iff]at z;obtain⟨l,e2,rfl⟩:=z;exact ly e2 (by simpa[bH]using q)
noncomputable def LB(fr:Fr)(ai:Ev.Fr)(as:List (Nat ⊕ V)):Nat->Prop:=λm=>∃(i:Nat) (o:Option Sl),i∈bH as/\fr[i]?=some o/\gS o=true/\ai[i]?=some (some (.ref m))
theorem LB.m(f:aT M B h S fr ai){as:List (Nat ⊕ V)}:∀m,LB fr ai as m->M m:=λm ⟨i,o,_,a,b,c⟩=>by
  have s:=f.sl i o _ a c;rcases o with _|s'
  .cases b
  .cases s' with
   |val v=>cases b
   |ro l=>cases b
   |own l=>obtain⟨m',ds',e,y,_⟩:=s;cases e;exact y.1
   |bor l=>obtain⟨m',ds',e,y,_⟩:=s;cases e;exact y.1
theorem xD(f:aT M B h S fr ai){as:List (Nat ⊕ V)}{sl:List Sl}{ds:List D}(nd:(bH as).Nodup)(z:args fr as=some sl)(q:sU h S ai as ds):aT (LB fr ai as) (LB fr ai as) h S (sl.map some) (ds.map some):=by
 have oM:=LB.m f (as:=as);obtain⟨hl,hg⟩:=args_get f z q;refine⟨λm y=>⟨(f.wS m y).1,λz=>(f.wS m y).2.1 (oM m z),λz=>(f.wS m y).2.1 (oM m z)⟩,λm y=>f.wM m (oM m y),λm y=>f.wM m (oM m y),by simp[hl],λa o p y1 y2=>?_,λa b o o' m y1 y2 y3 y4 y5 y6=>?_⟩
 .simp at y1 y2;obtain⟨s,y1,rfl⟩:=y1;obtain⟨d,y2,rfl⟩:=y2;rcases hg a s d y1 y2 with ⟨i,k1,k2,k3⟩|⟨u,rfl,k⟩
  .obtain⟨m,cs,l0,o0,w1,w2,w3,w4,w5⟩:=gT k2 f;rw[k3]at w2;cases w2;rcases w5 with ⟨rfl,w6,w7⟩|⟨rfl,w6,w7⟩
   .exact⟨m,cs,rfl,⟨⟨i,o0,gU k1,w1,w7,k3⟩,⟨i,o0,gU k1,w1,w7,k3⟩⟩,w3,w4⟩
   .exact⟨m,cs,rfl,λz=>w6 (oM m z),w3,w4⟩
  .exact⟨d,rfl,k⟩
 .simp at y1 y2 y5 y6;obtain⟨s,y1,rfl⟩:=y1;obtain⟨s',y2,rfl⟩:=y2;rcases hg a s _ y1 y5 with ⟨i,k1,k2,k3⟩|⟨u,rfl,k⟩
  .rcases hg b s' _ y2 y6 with ⟨j,k4,k5,k6⟩|⟨u,rfl,k⟩
   .obtain⟨m1,_,l1,o1,w1,w2,_,_,w5⟩:=gT k2 f;obtain⟨m2,_,l2,o2,x1,x2,_,_,x5⟩:=gT k5 f;have i1:gS o1=true:=by rcases w5 with ⟨_,_,w7⟩|⟨rfl,_,_⟩;exact w7;cases y3
    have i2:gS o2=true:=by rcases x5 with ⟨_,_,w7⟩|⟨rfl,_,_⟩;exact w7;cases y4
    have:=f.inj i j o1 o2 m w1 x1 i1 i2 k3 k6;subst this;exact m5 nd k1 k4
   .cases y4
  .cases y3
theorem pD{P:aG}{P':Ev.aG}(HP:nO P P'){g:Nat}{as:List (Nat ⊕ V)}{ds:List D}(e:dO P g as fr=.ok v af)(f:aT M B h S fr ai)(q:sU h S ai as ds) :
  ∃d h' S',P' g ds h=.ok d h'/\Rep h' S' v d/\Out M B (bH as) h S fr ai h' S' af:=by
 unfold dO at e;split at e
 case isFalse=>cases e
 rename_i nd;cases z:args fr as with
 |none=>rw[z]at e;cases e
 |some sl=>
 rw[z]at e;simp only at e;cases z2:P g sl with
 |none=>rw[z2]at e;cases e
 |some vo=>
 obtain⟨v',os⟩:=vo;rw[z2]at e;simp only at e;cases z3:back (bH as) os fr with
 |none=>rw[z3]at e;cases e
 |some aq=>
 rw[z3]at e;simp at e;obtain⟨rfl,rfl⟩:=e;obtain⟨hl,hg⟩:=args_get f z q
 let B0:Nat->Prop:=LB fr ai as
 have oM:∀m,B0 m->M m:=LB.m f;have F0:aT B0 B0 h S (sl.map some) (ds.map some):=xD f nd z q;obtain⟨d,h',S',c1,c2,c3,c4⟩:=HP g sl v' os z2 h S B0 ds F0;obtain⟨b1,b2,b3⟩:=uO z3 nd;have hL:=m6 f z q c4;have qi:∀m,S m->h'[m]?=h[m]?:=λm y=>c3.keep m (f.wS m y).1 (λz=>(f.wS m y).2.1 (oM m z));refine⟨d,h',S',c1,c2,⟨?_,?_,?_⟩⟩
 .refine⟨λm y=>?_,λm y=>Nat.lt_of_lt_of_le (f.wM m y) c3.len,λm y=>Nat.lt_of_lt_of_le (f.wB m y) c3.len,by rw[b1,f.len],λi o p y1 y2=>?_,λi j o o' m y1 y2 y3 y4 y5 y6=>?_⟩
  .rcases c3.new m y with y|⟨y1,y2⟩
   .exact⟨Nat.lt_of_lt_of_le (f.wS m y).1 c3.len,(f.wS m y).2⟩
   .exact⟨y2,λz=>by have:=f.wM m z;omega,λz=>by have:=f.wB m z;omega⟩
  .by_cases hi:i∈bH as
   .obtain⟨k,s,l,w1,w2,w3,w4⟩:=b3 i hi;rw[w4]at y1;cases y1;obtain⟨m,cs,x1,x2,x3⟩:=hL k i l w1 w2;rw[x1]at y2;cases y2;have old:=f.sl i _ _ w3 x1;cases s with
    |val u=>
     exfalso;have:∃s,lent fr i=some s:=ly z hi;obtain⟨s,hs⟩:=this;simp[lent,w3,Sl.lend]at hs
    |own u=>obtain⟨m',ds',e,y,_⟩:=old;cases e;exact⟨m,cs,rfl,y,x2,x3⟩
    |bor u=>obtain⟨m',ds',e,y,_⟩:=old;cases e;exact⟨m,cs,rfl,y,x2,x3⟩
    |ro u=>
     obtain⟨m',ds',e,y,y1,y2⟩:=old;cases e;refine⟨m,ds',rfl,y,?_,y2.mono qi c3.sub⟩;rw[c3.keep m (List.getElem?_eq_some_iff.mp y1).1 (λz=>y (oM m z))];exact y1
   .rw[b2 i hi]at y1;have old:=f.sl i o p y1 y2;rcases o with _|s
    .exact old
    .cases s with
     |val u=>obtain⟨d,e,q⟩:=old;exact⟨d,e,q.mono qi c3.sub⟩
     |own u=>
      obtain⟨m,ds',rfl,w1,w2,w3⟩:=old;refine⟨m,ds',rfl,w1,?_,w3.mono qi c3.sub⟩;rw[c3.keep m (f.wM m w1.1) (λ⟨j,o2,x1,x2,x3,x4⟩=>hi (f.inj i j _ o2 m y1 x2 rfl x3 y2 x4▸x1))];exact w2
     |bor u=>
      obtain⟨m,ds',rfl,w1,w2,w3⟩:=old;refine⟨m,ds',rfl,w1,?_,w3.mono qi c3.sub⟩;rw[c3.keep m (f.wM m w1.1) (λ⟨j,o2,x1,x2,x3,x4⟩=>hi (f.inj i j _ o2 m y1 x2 rfl x3 y2 x4▸x1))];exact w2
     |ro u=>
      obtain⟨m,ds',rfl,w1,w2,w3⟩:=old;refine⟨m,ds',rfl,w1,?_,w3.mono qi c3.sub⟩;rw[c3.keep m (List.getElem?_eq_some_iff.mp w2).1 (λz=>w1 (oM m z))];exact w2
  .have kind:∀(i:Nat) o,aq[i]?=some o->gS o=true->∃o0,fr[i]?=some o0/\gS o0=true:=λi o w1 w2=>by
    by_cases hi:i∈bH as
    .obtain⟨k,s,l,x1,x2,x3,x4⟩:=b3 i hi;rw[x4]at w1;cases w1;exact⟨_,x3,by rw[CY]at w2;exact w2⟩
    .rw[b2 i hi]at w1;exact⟨o,w1,w2⟩
   obtain⟨oi,k1,k2⟩:=kind i o y1 y3;obtain⟨oj,k3,k4⟩:=kind j o' y2 y4;exact f.inj i j oi oj m k1 k3 k2 k4 y5 y6
 .exact c3.weak λm z=>⟨oM m z,by obtain⟨i,o,a1,a2,a3,a4⟩:=z;exact⟨i,a1,a4⟩⟩
 .intro i;unfold locked;by_cases hi:i∈bH as
  .obtain⟨k,s,l,x1,x2,x3,x4⟩:=b3 i hi;rw[x3,x4];exact xC
  .rw[b2 i hi]
end
end Pv
namespace Pv
open Ev (D O Hh)
end Pv
namespace Pv
open Ev (D O Hh bw bq TY BI ME T E Es Eo It S Ss Fn big deep b2i rep bV dM bB aO cut b8 dz slots bf)
section
variable{M B M':Nat->Prop}{h h' h1 h2:Hh}{S S' S1 S2:Nat->Prop}{fr af aq:Fr}{ai:Ev.Fr}{c c1 c2:List Nat}{v:V}{d:D}
theorem kK{n m:Nat}{o:O}(q:n≠m):(h.set n o)[m]?=h[m]?:=List.getElem?_set_ne q
theorem aT.mM(f:aT M B h S fr ai){i n:Nat}{o:Option Sl}(e:fr[i]?=some o)(hM:gS o=true)(e':ai[i]?=some (some (.ref n))):M n:=by
 have s:=f.sl i o _ e e';rcases o with _|s'
 .cases hM
 .cases s' with
  |val v=>cases hM
  |ro l=>cases hM
  |own l=>obtain⟨m',ds',e,y,_⟩:=s;cases e;exact y.1
  |bor l=>obtain⟨m',ds',e,y,_⟩:=s;cases e;exact y.1
theorem aT.write(f:aT M B h S fr ai){i n:Nat}{s:Sl}{l':List V}{ds':List D}(e:fr[i]?=some (some s))(hM:gS (some s)=true)(e':ai[i]?=some (some (.ref n)))(q:au h S l' ds') :
  aT M B (h.set n (.lst ds')) S (fr.set i (some (s.with l'))) ai:=by
 have mn:=f.mM e hM e';have kp:∀m,S m->(h.set n (.lst ds'))[m]?=h[m]?:=λm z=>kK λy=>(f.wS m z).2.1 (y▸mn);have il:=(List.getElem?_eq_some_iff.mp e).1;refine⟨λm y=>by simpa using f.wS m y,λm y=>by simpa using f.wM m y,λm y=>by simpa using f.wB m y,by simp[f.len],λj o p y1 y2=>?_,λj k o o' m y1 y2 y3 y4 y5 y6=>?_⟩
 .by_cases hj:i=j
  .subst hj;rw[List.getElem?_set_self il]at y1;cases y1;rw[e']at y2;cases y2;have old:=f.sl i _ _ e e';have hn:(h.set n (.lst ds'))[n]?=some (.lst ds'):=List.getElem?_set_self (f.wM n mn);cases s with
   |val v=>cases hM
   |ro l=>cases hM
   |own l=>obtain⟨m',_,e,y,_⟩:=old;cases e;exact⟨n,ds',rfl,y,hn,q.mono kp λ_ z=>z⟩
   |bor l=>obtain⟨m',_,e,y,_⟩:=old;cases e;exact⟨n,ds',rfl,y,hn,q.mono kp λ_ z=>z⟩
  .rw[List.getElem?_set_ne hj]at y1;have old:=f.sl j o p y1 y2;rcases o with _|s'
   .exact old
   .cases s' with
    |val u=>obtain⟨d,e,q⟩:=old;exact⟨d,e,q.mono kp λ_ z=>z⟩
    |own u=>
     obtain⟨m,es,rfl,w1,w2,w3⟩:=old;refine⟨m,es,rfl,w1,?_,w3.mono kp λ_ z=>z⟩;rw[kK λ(z:n=m)=>hj (f.inj i j _ _ n e y1 hM rfl e' (by rw[z];exact y2))];exact w2
    |bor u=>
     obtain⟨m,es,rfl,w1,w2,w3⟩:=old;refine⟨m,es,rfl,w1,?_,w3.mono kp λ_ z=>z⟩;rw[kK λ(z:n=m)=>hj (f.inj i j _ _ n e y1 hM rfl e' (by rw[z];exact y2))];exact w2
    |ro u=>
     obtain⟨m,es,rfl,w1,w2,w3⟩:=old;refine⟨m,es,rfl,w1,?_,w3.mono kp λ_ z=>z⟩;rw[kK λ(z:n=m)=>w1 (z▸mn)];exact w2
 .have kind:∀(j:Nat) o,(fr.set i (some (s.with l')))[j]?=some o->gS o=true->∃o0,fr[j]?=some o0/\gS o0=true:=λj o w1 w2=>by
   by_cases hj:i=j
   .subst hj;exact⟨_,e,hM⟩
   .rw[List.getElem?_set_ne hj]at w1;exact⟨o,w1,w2⟩
  obtain⟨oi,k1,k2⟩:=kind j o y1 y3;obtain⟨oj,k3,k4⟩:=kind k o' y2 y4;exact f.inj j k oi oj m k1 k3 k2 k4 y5 y6
theorem Lu{m:ME}{l l':List V}{xs:List V}{n:Nat}{ds es:List D}(z:jY m l xs=some (v,l'))(e:h[n]?=some (.lst ds))(q:au h S l ds)(p:fL h S xs es)(p':xq m=false->au h S xs es)(hS:∀k,S k->k≠n) :
  ∃r ds',Ev.eZ m (.ref n) es h=.ok r (h.set n (.lst ds'))/\Rep h S v r/\au h S l' ds':=by
 unfold jY at z;split at z
 .have p':=p' rfl;split at z
  .rename_i k;cases z;simp only[au]at p';obtain⟨d,_,rfl,p1,rfl⟩:=p';refine⟨_,_,?_,rfl,q.append (.cons p1 .nil)⟩
   delta Ev.eZ;dsimp only;simp only[e]
   rw[if_pos (by rw[<-q.length];exact k)]
  .cases z
 .split at z
  .rename_i k;cases z;obtain⟨d,rfl,p1⟩:=p.one;simp only[bx]at p1;obtain⟨n2,cs,rfl,e2,p1⟩:=p1;refine⟨_,_,?_,rfl,q.append p1⟩
   delta Ev.eZ;dsimp only;simp only[e,e2]
   rw[if_pos (by rw[<-q.length,<-p1.length];exact k)]
  .cases z
 .simp only[fL]at p;subst p;split at z
  .rename_i x y;cases z;obtain⟨d,k1,k2⟩:=q.get y;refine⟨d,_,?_,k2,q.dropLast⟩
   delta Ev.eZ;dsimp only;simp only[e]
   rw[<-q.length,k1]
  .cases z
 .cases z
theorem aT.set(f:aT M B h S fr ai){i:Nat}(e:put fr i (.val v)=some af)(q:Rep h S v d):aT M B h S af (ai.set i (some d))/\(∀j,locked af j=locked fr j)/\∀j,locked fr j=true->(ai.set i (some d))[j]?=ai[j]?:=by
 have hx:af=fr.set i (some (.val v))/\locked fr i=false:=by
  unfold put at e;unfold locked;split at e
  .cases e
  .cases e
  .rename_i k1 k2;cases e;refine⟨rfl,?_⟩;cases z:fr[i]? with
   |none=>rfl
   |some o=>
    rcases o with _|s
    .rfl
    .cases s with
     |bor l=>exact absurd z (k1 l)
     |ro l=>exact absurd z (k2 l)
     |_=>rfl
 obtain⟨rfl,hk⟩:=hx;have lk:∀j,locked (fr.set i (some (.val v))) j=locked fr j:=λj=>by
  by_cases hj:i=j
  .subst hj;rw[hk];unfold locked;by_cases hl:i<fr.length
   .rw[List.getElem?_set_self hl];rfl
   .rw[List.getElem?_eq_none (by simpa using hl)]
  .unfold locked;rw[List.getElem?_set_ne hj]
 refine⟨⟨f.wS,f.wM,f.wB,by simp[f.len],λj o p y1 y2=>?_,λj k o o' m y1 y2 y3 y4 y5 y6=>?_⟩,lk,λj hj=>?_⟩
 .by_cases hj:i=j
  .subst hj;have hl:i<fr.length:=by have:=(List.getElem?_eq_some_iff.mp y1).1;simpa using this
   rw[List.getElem?_set_self hl]at y1;rw[List.getElem?_set_self (by rw[<-f.len];exact hl)]at y2;cases y1;cases y2;exact⟨d,rfl,q⟩
  .rw[List.getElem?_set_ne hj]at y1 y2;exact f.sl j o p y1 y2
 .have hn:∀(j:Nat) o,(fr.set i (some (.val v)))[j]?=some o->gS o=true->i≠j:=λj o w1 w2 w3=>by
   subst w3;have hl:i<fr.length:=by have:=(List.getElem?_eq_some_iff.mp w1).1;simpa using this
   rw[List.getElem?_set_self hl]at w1;cases w1;cases w2
  have n1:=hn j o y1 y3;have n2:=hn k o' y2 y4;rw[List.getElem?_set_ne n1]at y1 y5;rw[List.getElem?_set_ne n2]at y2 y6;exact f.inj j k o o' m y1 y2 y3 y4 y5 y6
 .have:i≠j:=λz=>by subst z;rw[hk]at hj;cases hj
  rw[List.getElem?_set_ne this]
theorem aT.cI:∀{is:List Nat}{vs:List V}{ds:List D}{fr af:Fr}{ai:Ev.Fr},aT M B h S fr ai->cI is vs fr=some af->au h S vs ds->∃aX,Ev.cI is ds ai=some aX/\aT M B h S af aX/\(∀j,locked af j=locked fr j)/\∀j,locked fr j=true->aX[j]?=ai[j]?
 |[],[],ds,fr,af,ai,f,e,q=>by
  simp[Pv.cI]at e;simp only[au]at q;subst e q;exact⟨ai,rfl,f,λ_=>rfl,λ_ _=>rfl⟩
 |[],_ :: _,_,_,_,_,_,e,_=>by simp[Pv.cI]at e
 |_ :: _,[],_,_,_,_,_,e,_=>by simp[Pv.cI]at e
 |i :: is,v :: vs,ds,fr,af,ai,f,e,q=>by
  simp only[Pv.cI,Option.bind_eq_some_iff]at e;obtain⟨aq,e1,e2⟩:=e;simp only[au]at q;obtain⟨d,es,rfl,q1,q2⟩:=q;obtain⟨f2,l2,r2⟩:=f.set e1 q1;obtain⟨aX,a,f3,l3,r3⟩:=f2.cI e2 q2;exact⟨aX,a,f3,λj=>(l3 j).trans (l2 j),λj hj=>(r3 j (by rw[l2 j];exact hj)).trans (r2 j hj)⟩
theorem aT.br(f:aT M B h S fr ai){t:T}(e:br t v fr=some af)(q:Rep h S v d):∃aX,Ev.br t d ai=some aX/\aT M B h S af aX/\(∀j,locked af j=locked fr j)/\∀j,locked fr j=true->aX[j]?=ai[j]?:=by
 cases t with
 |one i=>exact⟨_,rfl,f.set e q⟩
 |many l=>
  cases v<;>simp only[Pv.br,reduceCtorEq]at e
  simp only[Rep]at q;obtain⟨ds,rfl,q⟩:=q;exact f.cI e q
theorem aT.undef(f:aT M B h S fr ai){t:T}(e:undef t fr=true):Ev.undef t ai=true:=by
 unfold Pv.undef at e;unfold Ev.undef;rw[List.all_eq_true]at e ⊢;intro i hi;have:=e i hi;cases z:fr[i]? with
 |none=>
  have:ai[i]?=none:=by
   rw[List.getElem?_eq_none_iff]at z ⊢;rw[<-f.len];exact z
  rw[this];rfl
 |some o=>
  obtain⟨p,e1,q⟩:=f.get z;rw[z]at this;rcases o with _|s
  .simp only[kG]at q;subst q;rw[e1];rfl
  .simp at this
theorem xE{i:Nat}{o:Option Sl}(e:(sS fr)[i]?=some o):∃o0,fr[i]?=some o0/\o=o0.map Sl.read:=by
 unfold sS at e;rw[List.getElem?_map]at e;cases z:fr[i]? with
 |none=>rw[z]at e;cases e
 |some o0=>rw[z]at e;cases e;exact⟨o0,rfl,rfl⟩
theorem aT.ro(f:aT M B h S fr ai):aT (λ_=>False) B h S (sS fr) ai:=by
 refine⟨λm y=>⟨(f.wS m y).1,id,(f.wS m y).2.2⟩,λm y=>y.elim,f.wB,by simp[sS,f.len],λi o p y1 y2=>?_,λi j o o' m y1 y2 y3 y4 y5 y6=>?_⟩
 .obtain⟨o0,z,rfl⟩:=xE y1;have q:=f.sl i o0 p z y2;rcases o0 with _|s
  .exact q
  .cases s with
   |val v=>exact q
   |own l=>obtain⟨m,ds,a,b,c,d⟩:=q;exact⟨m,ds,a,id,c,d⟩
   |bor l=>obtain⟨m,ds,a,b,c,d⟩:=q;exact⟨m,ds,a,id,c,d⟩
   |ro l=>obtain⟨m,ds,a,b,c,d⟩:=q;exact⟨m,ds,a,id,c,d⟩
 .obtain⟨o0,z,rfl⟩:=xE y1;rcases o0 with _|s
  .cases y3
  .cases s<;>cases y3
theorem iL:∀{ck:List (Nat×List D)},(∀q∈ck,bf h q.1=some q.2)->Ev.stays h ck=true
 |[],_=>rfl
 | (n,ds) :: r,q=>by
  simp only[Ev.stays,Bool.and_eq_true];refine⟨?_,iL λx hx=>q x (List.mem_cons_of_mem _ hx)⟩;rw[q (n,ds) (List.mem_cons_self ..)];exact Ev.yz _
theorem jO{n:Nat}{ds:List D}(q:bf h n=some ds)(k:h'[n]?=h[n]?):bf h' n=some ds:=by
 unfold bf at q ⊢;rw[k];exact q
theorem kL{n:Nat}{ds:List D}(q:bf h n=some ds):n<h.length:=by
 unfold bf at q;cases z:h[n]? with
 |none=>rw[z]at q;cases q
 |some o=>exact(List.getElem?_eq_some_iff.mp z).1
noncomputable def CZ(h:Hh)(S:Nat->Prop):Option V->Option D->Prop
 |none,o=>o=none
 |some v,o=>∃d,o=some d/\Rep h S v d
theorem xF{f:V->Option (Option V)}{f':D->Hh->Ev.R (Option D)}{ck:List (Nat×List D)}{h0:Hh}{S0:Nat->Prop}(w0:∀m,S0 m->m<h0.length)(st:∀q∈ck,bf h0 q.1=some q.2)
  (turn:∀v o d h S,Al h0 S0 h S->f v=some o->Rep h S v d->∃o' h' S',f' d h=.ok o' h'/\CZ h' S' o o'/\Al h S h' S') :
  ∀{vs:List V} {ds:List D} {rs:List V} {h:Hh} {S:Nat->Prop},Al h0 S0 h S->cQ f vs=some rs->au h S vs ds->∃rs' h' S',Ev.cQ f' ck ds h=.ok rs' h'/\au h' S' rs rs'/\Al h S h' S'
 |[],ds,rs,h,S,a,e,q=>by
  simp[cQ]at e;simp only[au]at q;subst e q;refine⟨[],h,S,?_,.nil,.refl⟩;simp only[Ev.cQ];rw[if_pos (iL λx hx=>jO (st x hx) (a.keep _ (kL (st x hx))))]
 |v :: vs,ds,rs,h,S,a,e,q=>by
  simp only[cQ,Option.bind_eq_some_iff]at e;obtain⟨o,e1,r,e2,e3⟩:=e;cases e3;simp only[au]at q;obtain⟨d,es,rfl,q1,q2⟩:=q;have w:∀m,S m->m<h.length:=λm z=>by
   rcases a.new m z with z|z
   .exact Nat.lt_of_lt_of_le (w0 m z) a.len
   .exact z.2
  obtain⟨o',h1,S1,t1,t2,t3⟩:=turn v o d h S a e1 q1;obtain⟨rs',h2,S2,u1,u2,u3⟩:=xF w0 st turn (a.trans t3) e2 (q2.mono (λm z=>t3.keep m (w m z)) t3.sub);have w1:∀m,S1 m->m<h1.length:=λm z=>by
   rcases t3.new m z with z|z
   .exact Nat.lt_of_lt_of_le (w m z) t3.len
   .exact z.2
  refine⟨o'.toList++rs',h2,S2,?_,?_,t3.trans u3⟩
  .simp only[Ev.cQ];rw[if_pos (iL λx hx=>jO (st x hx) (a.keep _ (kL (st x hx)))),t1,Ev.ao,u1,Ev.ao]
  .cases o with
   |none=>simp only[CZ]at t2;subst t2;simpa using u2
   |some v'=>
    simp only[CZ]at t2;obtain⟨d',rfl,t2⟩:=t2;exact .cons (t2.mono (λm z=>u3.keep m (w1 m z)) u3.sub) u2
end
noncomputable def jm(k:Bool)(h:Hh)(S:Nat->Prop)(v:List V)(d:List D):Prop:=if k=true then fL h S v d else au h S v d
inductive Lv(P':Ev.aG)(e:E)(k:Bool)(v:V)(M B:Nat->Prop)(h:Hh)(S:Nat->Prop)(fr:Fr)(ai:Ev.Fr)(af:Fr):Prop
 |mk (d:D) (h':Hh) (S':Nat->Prop) (c0:Ev.ev P' e ai h=.ok d h') (c1:fR k h' S' v d) (c2:Out M B (bY e) h S fr ai h' S' af):Lv P' e k v M B h S fr ai af
inductive Lx(P':Ev.aG)(e:E)(b:Bool)(M B:Nat->Prop)(h:Hh)(S:Nat->Prop)(fr:Fr)(ai:Ev.Fr)(af:Fr):Prop
 |mk (h':Hh) (S':Nat->Prop) (c0:Ev.aF P' e ai h=.ok b h') (c1:Out M B (bY e) h S fr ai h' S' af):Lx P' e b M B h S fr ai af
inductive Ly(P':Ev.aG)(e:Es)(k:Bool)(v:List V)(M B:Nat->Prop)(h:Hh)(S:Nat->Prop)(fr:Fr)(ai:Ev.Fr)(af:Fr):Prop
 |mk (d:List D) (h':Hh) (S':Nat->Prop) (c0:Ev.bR P' e ai h=.ok d h') (c1:jm k h' S' v d) (c2:Out M B (fE e) h S fr ai h' S' af):Ly P' e k v M B h S fr ai af
inductive Lz(P':Ev.aG)(e:Es)(v:List (Nat ⊕ V))(M B:Nat->Prop)(h:Hh)(S:Nat->Prop)(fr:Fr)(ai:Ev.Fr)(af:Fr):Prop
 |mk (d:List D) (h':Hh) (S':Nat->Prop) (c0:Ev.bR P' e ai h=.ok d h') (c1:sU h' S' ai v d) (c2:Out M B (fE e) h S fr ai h' S' af):Lz P' e v M B h S fr ai af
inductive LA(P':Ev.aG)(e:Eo)(v:Option Int)(M B:Nat->Prop)(h:Hh)(S:Nat->Prop)(fr:Fr)(ai:Ev.Fr)(af:Fr):Prop
 |mk (h':Hh) (S':Nat->Prop) (c0:Ev.fJ P' e ai h=.ok v h') (c1:Out M B (ki e) h S fr ai h' S' af):LA P' e v M B h S fr ai af
inductive LC(P':Ev.aG)(e:Eo)(v:Bool)(M B:Nat->Prop)(h:Hh)(S:Nat->Prop)(fr:Fr)(ai:Ev.Fr)(af:Fr):Prop
 |mk (h':Hh) (S':Nat->Prop) (c0:Ev.iu P' e ai h=.ok v h') (c1:Out M B (ki e) h S fr ai h' S' af):LC P' e v M B h S fr ai af
inductive LD(P':Ev.aG)(e:It)(k:Bool)(v:List V)(M B:Nat->Prop)(h:Hh)(S:Nat->Prop)(fr:Fr)(ai:Ev.Fr)(af:Fr):Prop
 |mk (s:Ev.Src) (h':Hh) (S':Nat->Prop) (c0:Ev.cK P' e ai h=.ok s h') (c1:au h' S' v s.1) (c2:∀q∈s.2,bf h' q.1=some q.2/\(k=false->¬ M q.1)) (c3:Out M B (CT e) h S fr ai h' S' af):LD P' e k v M B h S fr ai af
section
variable(P:aG)(P':Ev.aG)
noncomputable def bE(e:E):Prop:=∀{k:Bool} {fr:Fr} {v:V} {af:Fr} {M B:Nat->Prop} {h:Hh} {S:Nat->Prop} {ai:Ev.Fr},ev P k e fr=.ok v af->aT M B h S fr ai->Lv P' e k v M B h S fr ai af
noncomputable def gE(e:E):Prop:=∀{fr:Fr} {b:Bool} {af:Fr} {M B:Nat->Prop} {h:Hh} {S:Nat->Prop} {ai:Ev.Fr},aF P e fr=.ok b af->aT M B h S fr ai->Lx P' e b M B h S fr ai af
noncomputable def jn(e:Es):Prop:=∀{k:Bool} {fr:Fr} {v:List V} {af:Fr} {M B:Nat->Prop} {h:Hh} {S:Nat->Prop} {ai:Ev.Fr},bR P k e fr=.ok v af->aT M B h S fr ai->Ly P' e k v M B h S fr ai af
noncomputable def qj(e:Es):Prop:=∀{fr:Fr} {v:List (Nat ⊕ V)} {af:Fr} {M B:Nat->Prop} {h:Hh} {S:Nat->Prop} {ai:Ev.Fr},dS P e fr=.ok v af->aT M B h S fr ai->Lz P' e v M B h S fr ai af
noncomputable def qk(e:Eo):Prop:=∀{fr:Fr} {v:Option Int} {af:Fr} {M B:Nat->Prop} {h:Hh} {S:Nat->Prop} {ai:Ev.Fr},fJ P e fr=.ok v af->aT M B h S fr ai->LA P' e v M B h S fr ai af
noncomputable def tN(e:Eo):Prop:=∀{fr:Fr} {v:Bool} {af:Fr} {M B:Nat->Prop} {h:Hh} {S:Nat->Prop} {ai:Ev.Fr},iu P e fr=.ok v af->aT M B h S fr ai->LC P' e v M B h S fr ai af
noncomputable def lz(e:It):Prop:=∀{k:Bool} {fr:Fr} {v:List V} {af:Fr} {M B:Nat->Prop} {h:Hh} {S:Nat->Prop} {ai:Ev.Fr},cK P k e fr=.ok v af->aT M B h S fr ai->LD P' e k v M B h S fr ai af
end
section
variable{P:aG}{P':Ev.aG}{a b e tt:E}{es:Es}{lo hi:Eo}{it:It}
theorem LF{d:D}:bE P P' (.c d):=λz f=>by
 simp only[ev]at z;replace z:=aN z;obtain⟨z,y0⟩:=z;subst y0;exact⟨d,_,_,by simp only[Ev.ev],.of (mZ z),.refl f⟩
theorem LG{i:Nat}:bE P P' (.v i):=λz f=>by
 simp only[ev]at z;replace z:=aN z;obtain⟨z,y0⟩:=z;subst y0;obtain⟨d,e1,q⟩:=Hg z f;exact⟨d,_,_,by simp only[Ev.ev,e1,Ev.dh],q,.refl f⟩
theorem jm.n{h:Hh}{S:Nat->Prop}{v:List V}{d:List D}(q:jm false h S v d):au h S v d:=by simpa[jm]using q
theorem au.tl{h:Hh}{S:Nat->Prop}:∀{v:List V}{d:List D},au h S v d->fL h S v d
 |[],_,q=>q
 |_ :: _,_,⟨d,es,a,b,q⟩=>⟨d,es,a,b.top,q.tl⟩
theorem jm.t{k:Bool}{h:Hh}{S:Nat->Prop}{v:List V}{d:List D}(q:jm k h S v d):fL h S v d:=by
 unfold jm at q;split at q
 .exact q
 .exact q.tl
theorem A4(is:jn P P' es):bE P P' (.tup es):=λz f=>by
 simp only[ev]at z;obtain⟨ds,aq,z1,z2⟩:=ah z;replace z2:=aN z2;obtain⟨z2,y0⟩:=z2;subst y0;obtain⟨ds',h',S',e1,q,o⟩:=is z1 f;unfold jM at z2;split at z2
 .rename_i hk;cases z2;refine⟨.tup ds',h',S',?_,.of ⟨ds',rfl,q.n⟩,o⟩;simp only[Ev.ev,e1,Ev.ao];rw[if_pos (by rw[<-q.n.length];exact hk)]
 .cases z2
theorem A5(is:jn P P' es):bE P P' (.lst es):=λz f=>by
 simp only[ev]at z;obtain⟨ds,aq,z1,z2⟩:=ah z;replace z2:=aN z2;obtain⟨z2,y0⟩:=z2;subst y0;obtain⟨ds',h',S',e1,q,o⟩:=is z1 f;obtain⟨r,h2,S2,a1,a2,a3⟩:=jN o.f.w z2 q.n;exact⟨r,h2,S2,by simp only[Ev.ev,e1,Ev.ao,a1],.of a2,o.al a3⟩
theorem tO{a:E}{ai:Ev.Fr}{h h1:Hh}{d:D}(e:Ev.ev P' a ai h=.ok d h1):∀i,a=.v i->ai[i]?.join=some d:=λi hi=>by
 subst hi;simp only[Ev.ev]at e;exact(Ev.aN e).1
theorem two(ia:bE P P' a)(ib:bE P P' b){α:Type}{X:V->V->Fr->R α}{u:α}{fr bS:Fr}{M B:Nat->Prop}{h:Hh}{S:Nat->Prop}{ai:Ev.Fr}
  (z:((ev P (kf a (bY b)) a fr).bind λx af=>(ev P true b af).bind λy aq=>X x y aq)=.ok u bS) (f:aT M B h S fr ai) :
  ∃x y d e h2 S2 aq,(∀{β:Type} (g:D->D->Hh->Ev.R β),((Ev.ev P' a ai h).bind λx h1=>(Ev.ev P' b ai h1).bind λy h2=>g x y h2)=g d e h2)/\X x y aq=.ok u bS/\bx h2 S2 x d/\bx h2 S2 y e/\Out M B (bY a++bY b) h S fr ai h2 S2 aq:=by
 replace z:=ah z;obtain⟨x,af,z1,z⟩:=z;replace z:=ah z;obtain⟨y,aq,z2,z⟩:=z;obtain⟨d,h1,S1,e1,q1,o1⟩:=ia z1 f;obtain⟨e,h2,S2,e2,q2,o2⟩:=ib z2 o1.f;exact⟨x,y,d,e,h2,S2,aq,λg=>by rw[e1,Ev.ao,e2,Ev.ao],z,(q1.tr o1.f o2.tr id (tO e1)).t,q2.t,o1.trans o2⟩
theorem A6{o:bw}(ia:bE P P' a)(ib:bE P P' b):bE P P' (.bin o a b):=λz f=>by
 simp only[ev]at z;replace z:=two ia ib z f;obtain⟨x,y,d,e,h2,S2,aq,k,z,q1,q2,ou⟩:=z;replace z:=aN z;obtain⟨z,y0⟩:=z;subst y0;obtain⟨r,h3,S3,a1,a2,a3⟩:=Ll ou.f.w z q1 q2;exact⟨r,h3,S3,by simp only[Ev.ev];rw[k];exact a1,.of a2,ou.al a3⟩
theorem A7{o:bq}(ia:bE P P' a)(ib:bE P P' b):bE P P' (.cmp o a b):=λz f=>by
 simp only[ev]at z;replace z:=two ia ib z f;obtain⟨x,y,d,e,h2,S2,aq,k,z,q1,q2,ou⟩:=z;replace z:=aN z;obtain⟨z,y0⟩:=z;subst y0;simp only[Option.map_eq_some_iff]at z;obtain⟨b,z,rfl⟩:=z;exact⟨.bl b,h2,S2,by simp only[Ev.ev];rw[k,Lm z q1.u q2.u];rfl,.of rfl,ou⟩
theorem ES(ia:bE P P' a)(ib:bE P P' b):bE P P' (.ix a b):=λz f=>by
 simp only[ev]at z;replace z:=two ia ib z f;obtain⟨x,y,d,e,h2,S2,aq,k,z,q1,q2,ou⟩:=z;replace z:=aN z;obtain⟨z,y0⟩:=z;subst y0;obtain⟨r,a1,a2⟩:=Ln z q1 q2;exact⟨r,h2,S2,by simp only[Ev.ev];rw[k,a1];rfl,.of a2,ou⟩
theorem N6(ia:bE P P' a):bE P P' (.nt a):=λz f=>by
 simp only[ev]at z;replace z:=ah z;obtain⟨x,af,z1,z⟩:=z;obtain⟨d,h1,S1,e1,q1,o1⟩:=ia z1 f;cases x<;>simp only[reduceCtorEq]at z
 cases z;have q:=q1.t;simp only[bx,Rep]at q;subst q;exact⟨_,h1,S1,by simp only[Ev.ev,e1,Ev.ao],.of rfl,o1⟩
theorem A8(ia:bE P P' a):bE P P' (.neg a):=λz f=>by
 simp only[ev]at z;replace z:=ah z;obtain⟨x,af,z1,z⟩:=z;obtain⟨d,h1,S1,e1,q1,o1⟩:=ia z1 f;cases x<;>simp only[reduceCtorEq]at z
 cases z;have q:=q1.t;simp only[bx,Rep]at q;subst q;exact⟨_,h1,S1,by simp only[Ev.ev,e1,Ev.ao],.of rfl,o1⟩
theorem N7(ia:bE P P' a)(ib:bE P P' b):bE P P' (.an a b):=λz f=>by
 simp only[ev]at z;replace z:=ah z;obtain⟨x,af,z1,z⟩:=z;obtain⟨d,h1,S1,e1,q1,o1⟩:=ia z1 f;cases x<;>try (cases z;done)
 rename_i k;have q:=q1.t;simp only[bx,Rep]at q;subst q;cases k with
 |true=>
  try simp only at z
  obtain⟨d,h2,S2,e2,q2,o2⟩:=ib z o1.f;exact⟨d,h2,S2,by simp only[Ev.ev,e1,Ev.ao,e2],q2,o1.trans o2⟩
 |false=>
  try simp only at z
  cases z;exact⟨_,h1,S1,by simp only[Ev.ev,e1,Ev.ao],.of rfl,o1.weak (by simp only[bY];intro i hi;simp[hi])⟩
theorem LH(ia:bE P P' a)(ib:bE P P' b):bE P P' (.orr a b):=λz f=>by
 simp only[ev]at z;replace z:=ah z;obtain⟨x,af,z1,z⟩:=z;obtain⟨d,h1,S1,e1,q1,o1⟩:=ia z1 f;cases x<;>try (cases z;done)
 rename_i k;have q:=q1.t;simp only[bx,Rep]at q;subst q;cases k with
 |false=>
  try simp only at z
  obtain⟨d,h2,S2,e2,q2,o2⟩:=ib z o1.f;exact⟨d,h2,S2,by simp only[Ev.ev,e1,Ev.ao,e2],q2,o1.trans o2⟩
 |true=>
  try simp only at z
  cases z;exact⟨_,h1,S1,by simp only[Ev.ev,e1,Ev.ao],.of rfl,o1.weak (by simp only[bY];intro i hi;simp[hi])⟩
theorem A9(it:gE P P' tt)(ia:bE P P' a)(ib:bE P P' b):bE P P' (.gk tt a b):=λz f=>by
 simp only[ev]at z;replace z:=ah z;obtain⟨k,af,z1,z⟩:=z;obtain⟨h1,S1,e1,o1⟩:=it z1 f;cases k with
 |true=>
  simp only[if_true]at z;obtain⟨d,h2,S2,e2,q2,o2⟩:=ia z o1.f;exact⟨d,h2,S2,by simp only[Ev.ev,e1,Ev.ao,if_true,e2],q2,(o1.trans o2).weak (by simp only[bY];intro i hi;simp at hi ⊢;rcases hi with hi|hi<;>simp[hi])⟩
 |false=>
  simp only[Bool.false_eq_true,if_false]at z;obtain⟨d,h2,S2,e2,q2,o2⟩:=ib z o1.f;exact⟨d,h2,S2,by simp only[Ev.ev,e1,Ev.ao];rw[if_neg (by decide)];exact e2,q2,(o1.trans o2).weak (by simp only[bY];intro i hi;simp at hi ⊢;rcases hi with hi|hi<;>simp[hi])⟩
theorem ET(ia:bE P P' a)(il:qk P P' lo)(ih:qk P P' hi):bE P P' (.sl a lo hi):=λz f=>by
 simp only[ev]at z;replace z:=ah z;obtain⟨x,af,z1,z⟩:=z;replace z:=ah z;obtain⟨l,aq,z2,z⟩:=z;replace z:=ah z;obtain⟨u,aS,z3,z⟩:=z;replace z:=aN z;obtain⟨z,y0⟩:=z;subst y0;obtain⟨d,h1,S1,e1,q1,o1⟩:=ia z1 f;obtain⟨h2,S2,e2,o2⟩:=il z2 o1.f;obtain⟨h3,S3,e3,o3⟩:=ih z3 o2.f;have q:=(q1.tr o1.f (o2.trans o3).tr id (tO e1)).t;obtain⟨r,h4,S4,a1,a2,a3⟩:=Lo o3.f.w z q;exact⟨r,h4,S4,by simp only[Ev.ev,e1,Ev.ao,e2,e3,a1],.of a2,(o1.trans (o2.trans o3)).al a3⟩
theorem m7:∀{es:Es}{fr af:Fr}{as:List (Nat ⊕ V)},dS P es fr=.ok as af->∀i∈bH as,i∈jH es
 |.nil,_,_,_,z=>by simp only[dS]at z;cases z;simp[bH]
 |.cons e es,fr,af,as,z=>by
  simp only[dS]at z;cases y:fQ fr e with
  |some i=>
   rw[y]at z;simp only at z;replace z:=ah z;obtain⟨xs,aS,z2,z⟩:=z;cases z;have hy:e=.v i:=by
    cases e<;>simp only[fQ,reduceCtorEq]at y
    split at y
    .cases y;rfl
    .cases y
   subst hy;intro j hj;simp only[bH,List.mem_cons]at hj;simp only[jH,List.mem_cons];exact hj.imp id λhj=>m7 z2 j hj
  |none=>
   rw[y]at z;simp only at z;replace z:=ah z;obtain⟨x,aq,z1,z⟩:=z;replace z:=ah z;obtain⟨xs,aS,z2,z⟩:=z;cases z;intro j hj;simp only[bH]at hj;have:=m7 z2 j hj;cases e<;>simp only[jH]<;>first|exact this|exact List.mem_cons_of_mem _ this
theorem EU(HP:nO P P'){g:Nat}(is:qj P P' es):bE P P' (.cl g es):=λz f=>by
 simp only[ev]at z;replace z:=ah z;obtain⟨as,af,z1,z⟩:=z;obtain⟨ds,h1,S1,e1,q1,o1⟩:=is z1 f;obtain⟨d,h2,S2,e2,q2,o2⟩:=pD HP z o1.f q1;exact⟨d,h2,S2,by simp only[Ev.ev,e1,Ev.ao,e2],.of q2,(o1.trans o2).weak (by
  simp only[bY];intro i hi;rcases List.mem_append.mp hi with hi|hi
  .exact List.mem_append.mpr (.inl hi)
  .exact List.mem_append.mpr (.inr (m7 z1 i hi)))⟩
theorem EV{g:BI}(is:jn P P' es):bE P P' (.bi g es):=λz f=>by
 simp only[ev]at z;replace z:=ah z;obtain⟨as,af,z1,z⟩:=z;replace z:=aN z;obtain⟨z,y0⟩:=z;subst y0;obtain⟨ds,h1,S1,e1,q1,o1⟩:=is z1 f;obtain⟨r,h4,S4,a1,a2,a3⟩:=Lq o1.f.w z q1.t;exact⟨r,h4,S4,by simp only[Ev.ev,e1,Ev.ao,a1],.of a2,o1.al a3⟩
theorem xG{kvs:List (D×D)}(ia:bE P P' a):bE P P' (.je kvs a):=λz f=>by
 simp only[ev]at z;replace z:=ah z;obtain⟨x,af,z1,z⟩:=z;replace z:=aN z;obtain⟨z,y0⟩:=z;subst y0;obtain⟨d,h1,S1,e1,q1,o1⟩:=ia z1 f;obtain⟨r,a1,a2⟩:=CV (S:=S1) q1.t.u z;exact⟨r,h1,S1,by simp only[Ev.ev,e1,Ev.ao,a1,Ev.dh],.of a2,o1⟩
theorem Ba(ia:bE P P' a):bE P P' (.iG a):=λz f=>by
 simp only[ev]at z;replace z:=ah z;obtain⟨x,af,z1,z⟩:=z;replace z:=aN z;obtain⟨z,y0⟩:=z;subst y0;obtain⟨d,h1,S1,e1,q1,o1⟩:=ia z1 f;obtain⟨r,a1,a2⟩:=Lp z q1.t;exact⟨r,h1,S1,by simp only[Ev.ev,e1,Ev.ao,a1],.of a2,o1⟩
theorem EW{m:ME}{o:E}(io:bE P P' o)(is:jn P P' es):bE P P' (.me m o es):=λ{k fr v af M B h S ai} z f=>by
 simp only[ev]at z;by_cases hm:iA m=true
 .rw[if_pos hm]at z;cases y:fQ fr o with
  |none=>rw[y]at z;cases z
  |some i=>
  rw[y]at z;try simp only at z
  replace z:=ah z;obtain⟨as,aq,z1,z⟩:=z;have hy:o=.v i/\∃s,lent fr i=some s:=by
   cases o<;>simp only[fQ,reduceCtorEq]at y
   rename_i j;split at y
   .rename_i hs;cases y;exact⟨rfl,Option.isSome_iff_exists.mp hs⟩
   .cases y
  obtain⟨rfl,s,hs⟩:=hy;obtain⟨n,cs,_,_,_,w2,w3,_,_⟩:=gT hs f;obtain⟨ds,h1,S1,e1,q1,o1⟩:=is z1 f;have hr:Ev.pW m (.ref n) h=true:=by cases m<;>simp[iA]at hm<;>simp[Ev.pW,iK w3]
  have hap:xq m=false->au h1 S1 as ds:=λhh=>by rw[hh]at q1;exact q1.n
  have fin:∀s l l',aq[i]?=some (some s)->gS (some s)=true->(∃m' cs',ai[i]?=some (some (.ref m'))/\h1[m']?=some (.lst cs')/\au h1 S1 l cs')->jY m l as=some (v,l')->af=aq.set i (some (s.with l'))->
    Lv P' (.me m (.v i) es) k v M B h S fr ai af:=by
   intro s l l' k1 k2 ⟨m',cs',k3,k4,k5⟩ k6 k7;rw[w2]at k3;cases k3;have mn:=o1.f.mM k1 k2 w2;obtain⟨r,ds',a1,a2,a3⟩:=Lu k6 k4 k5 q1.t hap λk z y=>(o1.f.wS k z).2.1 (y▸mn);have fw:=o1.f.write (l':=l') k1 k2 w2 a3;subst k7;refine⟨r,_,S1,?_,.of (a2.mono (λm z=>kK λy=>(o1.f.wS m z).2.1 (y▸mn)) λ_ z=>z),fw,?_,λj=>?_⟩
   .simp only[Ev.ev,w2,Option.join,Ev.dh,Ev.ao,hr,if_true,e1];simp only[Option.bind,id,Ev.dh,Ev.ao,hr,if_true,e1];exact a1
   .refine⟨by simpa using o1.tr.len,λm y1 y2=>?_,o1.tr.sub,λm y=>by simpa using o1.tr.new m y⟩;have y3:¬ Xs M ai (fE es) m:=λz=>y2 (Xs.mono (by simp only[bY];intro i hi;simp[hi]) z);have y4:m≠n:=λz=>y2 ⟨z▸mn,i,by simp[bY,PY,hm],by rw[z];exact w2⟩;rw[kK (λ(z:n=m)=>y4 z.symm)];exact o1.tr.keep m y1 y3
   .rw[<-o1.lk j];unfold locked;by_cases hj:i=j
    .subst hj;rw[List.getElem?_set_self (List.getElem?_eq_some_iff.mp k1).1,k1];exact xC
    .rw[List.getElem?_set_ne hj]
  split at z
  .rename_i l k1;have old:=o1.f.get k1;obtain⟨p,k2,m',cs',rfl,_,k4,k5⟩:=old;split at z
   .rename_i v' l' k6;cases z;exact fin _ l l' k1 rfl ⟨m',cs',k2,k4,k5⟩ k6 rfl
   .cases z
  .rename_i l k1;have old:=o1.f.get k1;obtain⟨p,k2,m',cs',rfl,_,k4,k5⟩:=old;split at z
   .rename_i v' l' k6;cases z;exact fin _ l l' k1 rfl ⟨m',cs',k2,k4,k5⟩ k6 rfl
   .cases z
  .cases z
 .rw[if_neg hm]at z;replace z:=ah z;obtain⟨x,aq,z1,z⟩:=z;replace z:=ah z;obtain⟨as,aS,z2,z⟩:=z;replace z:=aN z;obtain⟨z,y0⟩:=z;subst y0;obtain⟨d,h1,S1,e1,q1,o1⟩:=io z1 f;obtain⟨ds,h2,S2,e2,q2,o2⟩:=is z2 o1.f;have hm':iA m=false:=by simpa using hm
  have EX:=(q1.tr o1.f o2.tr id (tO e1)).t;obtain⟨a1,r,a2,a3⟩:=Lr z hm' EX q2.t;have hr:Ev.pW m d h1=true:=by
   unfold eZ at z;split at z
   .have:=q1.t;simp only[bx,Rep]at this;subst this;rfl
   .cases z
  exact⟨r,h2,S2,by simp only[Ev.ev,e1,Ev.ao,hr,if_true,e2,a2],.of a3,(o1.trans o2).weak (by simp only[bY];intro i hi;simp at hi ⊢;rcases hi with hi|hi<;>simp[hi])⟩
theorem uP{elt:E}{t:T}{cond:Eo}(ii:lz P P' it)(ic:tN P P' cond)(ie:bE P P' elt):bE P P' (.comp elt t it cond):=λz f=>by
 simp only[ev]at z;replace z:=ah z;obtain⟨vs,aq,z1,z⟩:=z;split at z
 case isFalse=>cases z
 rename_i hu;replace z:=aN z;obtain⟨z,y0⟩:=z;subst y0;simp only[Option.bind_eq_some_iff]at z;obtain⟨rs,z2,z3⟩:=z;obtain⟨s,h1,S1,e1,q1,q2,o1⟩:=ii z1 f;have T4:=o1.f.ro;obtain⟨rs',h2,S2,c1,c2,c3⟩:=xF (f':=λd h2=>match Ev.br t d _ with
    |none=>.bad
    |some aq=>(Ev.iu P' cond aq h2).bind λk h3=>if k then (Ev.ev P' elt aq h3).bind λx h4=>.ok (some x) h4 else .ok none h3) (ck:=s.2) o1.f.w (λq hq=>(q2 q hq).1) (λv o d h S al y q=>by
  split at y
  .cases y
  .rename_i aS y1;obtain⟨gM,b1,b2,_,_⟩:=(T4.al al).br y1 q;rw[b1];split at y
   .rename_i c fO y2;obtain⟨h3,S3,c1,oc⟩:=ic y2 b2;have LI:Al h S h3 S3:=oc.tr.al λm z=>z.1;split at y
    .rename_i hc;subst hc;split at y
     .rename_i x jW y3;cases y;obtain⟨d',h4,S4,d1,d2,od⟩:=ie y3 (b2.al LI);refine⟨some d',h4,S4,?_,⟨d',rfl,d2.n⟩,LI.trans (od.tr.al λm z=>z.1)⟩;simp only[c1,Ev.ao,if_true,d1]
     .cases y
    .rename_i hc;cases y;refine⟨none,h3,S3,?_,rfl,LI⟩;simp only[c1,Ev.ao];rw[if_neg hc]
   .cases y) Al.refl z2 q1
 obtain⟨r,h4,S4,a1,a2,a3⟩:=jN (o1.f.al c3).w z3 c2;refine⟨r,h4,S4,?_,.of a2,(o1.al c3).al a3⟩;simp only[Ev.ev,e1,Ev.ao];rw[if_pos (o1.f.undef hu)];refine Eq.trans (congrArg (λq:Ev.R (List D)=>q.bind λds h2=>Ev.alloc ds h2) c1) ?_;simp only[Ev.ao,a1]
theorem Bb(ii:lz P P' it):bE P P' (.gQ it):=λz f=>by
 simp only[ev]at z;replace z:=ah z;obtain⟨vs,aq,z1,z⟩:=z;replace z:=aN z;obtain⟨z,y0⟩:=z;subst y0;obtain⟨s,h1,S1,e1,q1,q2,o1⟩:=ii z1 f;obtain⟨r,h4,S4,a1,a2,a3⟩:=jN o1.f.w z q1;exact⟨r,h4,S4,by simp only[Ev.ev,e1,Ev.ao,a1],.of a2,o1.al a3⟩
theorem LJ:jn P P' .nil:=λ{k fr v af M B h S ai} z f=>by
 simp only[bR]at z;cases z;refine⟨[],_,_,by simp only[Ev.bR],?_,.refl f⟩;unfold jm;split<;>rfl
theorem Hi(ie:bE P P' e)(is:jn P P' es):jn P P' (.cons e es):=λ{k fr v af M B h S ai} z f=>by
 simp only[bR]at z;replace z:=ah z;obtain⟨x,aq,z1,z⟩:=z;replace z:=ah z;obtain⟨xs,aS,z2,z⟩:=z;cases z;obtain⟨d,h1,S1,e1,q1,o1⟩:=ie z1 f;obtain⟨ds,h2,S2,e2,q2,o2⟩:=is z2 o1.f;have EX:=q1.tr (a:=e) o1.f o2.tr (by intro z;simp at z;exact z.2) (tO e1);refine⟨d :: ds,h2,S2,by simp only[Ev.bR,e1,Ev.ao,e2],?_,o1.trans o2⟩;unfold jm at q2 ⊢;cases k with
 |true=>simp only[if_true]at q2 ⊢;exact⟨d,ds,rfl,EX.t,q2⟩
 |false=>
  simp only[Bool.false_eq_true,if_false]at q2 ⊢;exact .cons (by simpa[fR]using EX) q2
theorem Hj:qj P P' .nil:=λz f=>by
 simp only[dS]at z;cases z;exact⟨[],_,_,by simp only[Ev.bR],rfl,.refl f⟩
theorem C1(ie:bE P P' e)(is:qj P P' es):qj P P' (.cons e es):=λ{fr v af M B h S ai} z f=>by
 simp only[dS]at z;cases y:fQ fr e with
 |some i=>
  rw[y]at z;try simp only at z
  replace z:=ah z;obtain⟨xs,aS,z2,z⟩:=z;cases z;have hy:e=.v i/\∃s,lent fr i=some s:=by
   cases e<;>simp only[fQ,reduceCtorEq]at y
   rename_i j;split at y
   .rename_i hs;cases y;exact⟨rfl,Option.isSome_iff_exists.mp hs⟩
   .cases y
  obtain⟨rfl,s,hs⟩:=hy;obtain⟨n,cs,_,_,_,w2,w3,_,_⟩:=gT hs f;obtain⟨ds,h2,S2,e2,q2,o2⟩:=is z2 f;refine⟨.ref n :: ds,h2,S2,?_,⟨_,_,rfl,w2,q2⟩,o2.weak (by simp only[fE,bY];intro i hi;simpa using hi)⟩;simp only[Ev.bR,Ev.ev,w2,Option.join,Option.bind,id,Ev.dh,Ev.ao,e2]
 |none=>
  rw[y]at z;try simp only at z
  replace z:=ah z;obtain⟨x,aq,z1,z⟩:=z;replace z:=ah z;obtain⟨xs,aS,z2,z⟩:=z;cases z;obtain⟨d,h1,S1,e1,q1,o1⟩:=ie z1 f;obtain⟨ds,h2,S2,e2,q2,o2⟩:=is z2 o1.f;exact⟨d :: ds,h2,S2,by simp only[Ev.bR,e1,Ev.ao,e2],⟨_,_,rfl,q1.n.tr o1.f o2.tr,q2⟩,o1.trans o2⟩
theorem N8:qk P P' .no:=λz f=>by
 simp only[fJ]at z;cases z;exact⟨_,_,by simp only[Ev.fJ],.refl f⟩
theorem LK(ie:bE P P' e):qk P P' (.yes e):=λz f=>by
 simp only[fJ]at z;replace z:=ah z;obtain⟨x,aq,z1,z⟩:=z;replace z:=aN z;obtain⟨z,y0⟩:=z;subst y0;obtain⟨d,h1,S1,e1,q1,o1⟩:=ie z1 f;cases x<;>simp[intOf]at z
 subst z;have q:=q1.t;simp only[bx,Rep]at q;subst q;exact⟨h1,S1,by simp only[Ev.fJ,e1,Ev.ao];rfl,o1⟩
theorem LL:tN P P' .no:=λz f=>by
 simp only[iu]at z;cases z;exact⟨_,_,by simp only[Ev.iu],.refl f⟩
theorem Hl(ie:gE P P' e):tN P P' (.yes e):=λz f=>by
 simp only[iu]at z;obtain⟨h1,S1,e1,o1⟩:=ie z f;exact⟨h1,S1,by simp only[Ev.iu,e1],o1⟩
theorem Rh(ia:gE P P' a)(ib:gE P P' b):gE P P' (.an a b):=λz f=>by
 simp only[aF]at z;replace z:=ah z;obtain⟨k,af,z1,z⟩:=z;obtain⟨h1,S1,e1,o1⟩:=ia z1 f;cases k with
 |true=>
  simp only[if_true]at z;obtain⟨h2,S2,e2,o2⟩:=ib z o1.f;exact⟨h2,S2,by simp only[Ev.aF,e1,Ev.ao,if_true,e2],o1.trans o2⟩
 |false=>
  simp only[Bool.false_eq_true,if_false]at z;cases z;exact⟨h1,S1,by simp only[Ev.aF,e1,Ev.ao];rfl,o1.weak (by simp only[bY];intro i hi;simp[hi])⟩
theorem N9(ia:gE P P' a)(ib:gE P P' b):gE P P' (.orr a b):=λz f=>by
 simp only[aF]at z;replace z:=ah z;obtain⟨k,af,z1,z⟩:=z;obtain⟨h1,S1,e1,o1⟩:=ia z1 f;cases k with
 |false=>
  simp only[Bool.false_eq_true,if_false]at z;obtain⟨h2,S2,e2,o2⟩:=ib z o1.f;exact⟨h2,S2,by simp only[Ev.aF,e1,Ev.ao];rw[if_neg (by decide)];exact e2,o1.trans o2⟩
 |true=>
  simp only[if_true]at z;cases z;exact⟨h1,S1,by simp only[Ev.aF,e1,Ev.ao];rfl,o1.weak (by simp only[bY];intro i hi;simp[hi])⟩
theorem Ri(ia:gE P P' a):gE P P' (.nt a):=λz f=>by
 simp only[aF]at z;replace z:=ah z;obtain⟨k,af,z1,z⟩:=z;obtain⟨h1,S1,e1,o1⟩:=ia z1 f;cases z;exact⟨h1,S1,by simp only[Ev.aF,e1,Ev.ao],o1⟩
theorem eE(ie:bE P P' e)(h1:∀fr,aF P e fr=(ev P true e fr).bind λx af=>.ok (truthy x) af)(h2:∀fr h,Ev.aF P' e fr h=(Ev.ev P' e fr h).bind λx h1=>Ev.R.of (Ev.truthy h1 x) h1):gE P P' e:=λz f=>by
 rw[h1]at z;replace z:=ah z;obtain⟨x,af,z1,z⟩:=z;cases z;obtain⟨d,h1,S1,e1,q1,o1⟩:=ie z1 f;exact⟨h1,S1,by rw[h2,e1,Ev.ao,AZ q1.t];rfl,o1⟩
theorem Bc(ie:bE P P' e){k:Bool}{fr:Fr}{v:V}{af:Fr}{M B:Nat->Prop}{h:Hh}{S:Nat->Prop}{ai:Ev.Fr}(z:src k fr e (ev P k e fr)=.ok v af)(f:aT M B h S fr ai) :
  ∃d h' S',Ev.ev P' e ai h=.ok d h'/\bx h' S' v d/\(k=false->∀n,d=.ref n->¬ M n)/\Out M B (bY e) h S fr ai h' S' af:=by
 have gen:ev P k e fr=.ok v af->∃d h' S',Ev.ev P' e ai h=.ok d h'/\bx h' S' v d/\(k=false->∀n,d=.ref n->¬ M n)/\Out M B (bY e) h S fr ai h' S' af:=λz=>by
  obtain⟨d,h1,S1,e1,q1,o1⟩:=ie z f;refine⟨d,h1,S1,e1,q1.t,λhk n hd=>?_,o1⟩;subst hk;have q:=q1.n;cases v<;>simp only[Rep]at q
  .cases q.symm.trans hd
  .cases q.symm.trans hd
  .cases q.symm.trans hd
  .cases q.symm.trans hd
  .obtain⟨_,q,_⟩:=q;cases q.symm.trans hd
  .obtain⟨m,ds,q,sm,_⟩:=q;cases q.symm.trans hd;exact(o1.f.wS _ sm).2.1
  .obtain⟨m,ds,q,sm,_⟩:=q;cases q.symm.trans hd;exact(o1.f.wS _ sm).2.1
 cases e
 case v i=>
  simp only[src]at z;replace z:=aN z;obtain⟨z,y0⟩:=z;subst y0;unfold y9 at z;split at z
  .rename_i l y;cases z;obtain⟨p,e1,m,ds,rfl,y1,y2,y3⟩:=f.get y;exact⟨.ref m,h,S,by simp only[Ev.ev,e1,Option.join,Option.bind,id,Ev.dh],⟨m,ds,rfl,y2,y3⟩,λ_ n hn=>by cases hn;exact y1,.refl f⟩
  .exact gen (by simp only[ev,z,dh])
 all_goals exact gen z
theorem LM(ie:bE P P' e):lz P P' (.seq e):=λz f=>by
 simp only[cK]at z;replace z:=ah z;obtain⟨x,af,z1,z⟩:=z;replace z:=aN z;obtain⟨z,y0⟩:=z;subst y0;obtain⟨d,h1,S1,e1,q1,q2,o1⟩:=Bc ie z1 f;obtain⟨s,a1,a2,a3⟩:=CW z q1;exact⟨s,h1,S1,by simp only[Ev.cK,e1,Ev.ao,a1,Ev.dh],a2,λq hq=>⟨(a3 q hq).2,λhk=>q2 hk _ (a3 q hq).1⟩,o1⟩
theorem Ho(is:jn P P' es):lz P P' (.g8 es):=λz f=>by
 simp only[cK]at z;replace z:=ah z;obtain⟨x,af,z1,z⟩:=z;replace z:=aN z;obtain⟨z,y0⟩:=z;subst y0;obtain⟨d,h1,S1,e1,q1,o1⟩:=is z1 f;obtain⟨s,a1,a2⟩:=Ls z q1.t;exact⟨(s,[]),h1,S1,by simp only[Ev.cK,e1,Ev.ao,a1,Ev.dh],a2,λq hq=>by simp at hq,o1⟩
theorem C2(ie:bE P P' e):lz P P' (.enum e):=λz f=>by
 simp only[cK]at z;replace z:=ah z;obtain⟨x,af,z1,z⟩:=z;replace z:=aN z;obtain⟨z,y0⟩:=z;subst y0;obtain⟨d,h1,S1,e1,q1,q2,o1⟩:=Bc ie z1 f;simp only[Option.map_eq_some_iff]at z;obtain⟨l,z,rfl⟩:=z;obtain⟨s,a1,a2,a3⟩:=G9 z q1;exact⟨(Ev.gA 0 s.1,s.2),h1,S1,by simp only[Ev.cK,e1,Ev.ao,a1,Option.map,Ev.dh],xA 0 a2,λq hq=>⟨(a3 q hq).2,λhk=>q2 hk _ (a3 q hq).1⟩,o1⟩
theorem Hq(ie:bE P P' e):lz P P' (.rev e):=λz f=>by
 simp only[cK]at z;replace z:=ah z;obtain⟨x,af,z1,z⟩:=z;replace z:=aN z;obtain⟨z,y0⟩:=z;subst y0;obtain⟨d,h1,S1,e1,q1,o1⟩:=ie z1 f;simp only[Option.map_eq_some_iff]at z;obtain⟨l,z,rfl⟩:=z;cases x<;>simp only[yZ,reduceCtorEq]at z
 cases z;have k1:=q1.t;simp only[bx,Rep]at k1;obtain⟨ds,y1,k2⟩:=k1;subst y1;exact⟨(ds.reverse,[]),h1,S1,by simp only[Ev.cK,e1,Ev.ao,Ev.Cu,Option.map,Ev.dh],k2.reverse,λq hq=>by simp at hq,o1⟩
end
section
variable{P:aG}{P':Ev.aG}(HP:nO P P')
include HP
mutual
theorem bg:∀e:E,bE P P' e
 |.c _=>LF
 |.v _=>LG
 |.tup es=>A4 (fS es)
 |.lst es=>A5 (fS es)
 |.bin _ a b=>A6 (bg a) (bg b)
 |.cmp _ a b=>A7 (bg a) (bg b)
 |.nt a=>N6 (bg a)
 |.neg a=>A8 (bg a)
 |.an a b=>N7 (bg a) (bg b)
 |.orr a b=>LH (bg a) (bg b)
 |.gk t a b=>A9 (fz t) (bg a) (bg b)
 |.ix a b=>ES (bg a) (bg b)
 |.sl a lo hi=>ET (bg a) (ql lo) (ql hi)
 |.cl _ es=>EU HP (m8 es)
 |.bi _ es=>EV (fS es)
 |.me _ o es=>EW (bg o) (fS es)
 |.comp elt _ it cond=>uP (jP it) (Bd cond) (bg elt)
 |.gQ it=>Bb (jP it)
 |.je _ a=>xG (bg a)
 |.iG a=>Ba (bg a)
theorem fz:∀e:E,gE P P' e
 |.an a b=>Rh (fz a) (fz b)
 |.orr a b=>N9 (fz a) (fz b)
 |.nt a=>Ri (fz a)
 |.c x=>eE LF (λ_=>by simp only[aF]) (λ_ _=>by simp only[Ev.aF])
 |.v x=>eE LG (λ_=>by simp only[aF]) (λ_ _=>by simp only[Ev.aF])
 |.tup es=>eE (A4 (fS es)) (λ_=>by simp only[aF]) (λ_ _=>by simp only[Ev.aF])
 |.lst es=>eE (A5 (fS es)) (λ_=>by simp only[aF]) (λ_ _=>by simp only[Ev.aF])
 |.bin _ a b=>eE (A6 (bg a) (bg b)) (λ_=>by simp only[aF]) (λ_ _=>by simp only[Ev.aF])
 |.cmp _ a b=>eE (A7 (bg a) (bg b)) (λ_=>by simp only[aF]) (λ_ _=>by simp only[Ev.aF])
 |.neg a=>eE (A8 (bg a)) (λ_=>by simp only[aF]) (λ_ _=>by simp only[Ev.aF])
 |.gk t a b=>eE (A9 (fz t) (bg a) (bg b)) (λ_=>by simp only[aF]) (λ_ _=>by simp only[Ev.aF])
 |.ix a b=>eE (ES (bg a) (bg b)) (λ_=>by simp only[aF]) (λ_ _=>by simp only[Ev.aF])
 |.sl a lo hi=>eE (ET (bg a) (ql lo) (ql hi)) (λ_=>by simp only[aF]) (λ_ _=>by simp only[Ev.aF])
 |.cl _ es=>eE (EU HP (m8 es)) (λ_=>by simp only[aF]) (λ_ _=>by simp only[Ev.aF])
 |.bi _ es=>eE (EV (fS es)) (λ_=>by simp only[aF]) (λ_ _=>by simp only[Ev.aF])
 |.me _ o es=>eE (EW (bg o) (fS es)) (λ_=>by simp only[aF]) (λ_ _=>by simp only[Ev.aF])
 |.comp elt _ it cond=>eE (uP (jP it) (Bd cond) (bg elt)) (λ_=>by simp only[aF]) (λ_ _=>by simp only[Ev.aF])
 |.gQ it=>eE (Bb (jP it)) (λ_=>by simp only[aF]) (λ_ _=>by simp only[Ev.aF])
 |.je _ a=>eE (xG (bg a)) (λ_=>by simp only[aF]) (λ_ _=>by simp only[Ev.aF])
 |.iG a=>eE (Ba (bg a)) (λ_=>by simp only[aF]) (λ_ _=>by simp only[Ev.aF])
theorem fS:∀e:Es,jn P P' e
 |.nil=>LJ
 |.cons e es=>Hi (bg e) (fS es)
theorem m8:∀e:Es,qj P P' e
 |.nil=>Hj
 |.cons e es=>C1 (bg e) (m8 es)
theorem ql:∀e:Eo,qk P P' e
 |.no=>N8
 |.yes e=>LK (bg e)
theorem Bd:∀e:Eo,tN P P' e
 |.no=>LL
 |.yes e=>Hl (fz e)
theorem jP:∀e:It,lz P P' e
 |.seq e=>LM (bg e)
 |.g8 es=>Ho (fS es)
 |.enum a=>C2 (bg a)
 |.rev a=>Hq (bg a)
end
end
end Pv
namespace Pv
open Ev (D O Hh bw bq TY BI ME T E Es Eo It S Ss Fn big deep b2i rep bV dM bB aO cut b8 dz slots bf)
structure Tr(M B:Nat->Prop)(h:Hh)(S:Nat->Prop)(M':Nat->Prop)(h':Hh)(S':Nat->Prop):Prop where
 len:h.length<=h'.length
 keep:∀m,m<h.length->¬ M m->h'[m]?=h[m]?
 sub:∀m,S m->S' m
 new:∀m,S' m->S m\/(h.length<=m/\m<h'.length)\/(M m/\¬ B m)
 rj:∀m,M' m->M m\/h.length<=m
structure cZ(M B:Nat->Prop)(h:Hh)(S:Nat->Prop)(fr:Fr)(ai:Ev.Fr)(M':Nat->Prop)(h':Hh)(S':Nat->Prop)(af:Fr)(aX:Ev.Fr):Prop where
 f:aT M' B h' S' af aX
 tr:Tr M B h S M' h' S'
 lk:∀i,locked af i=locked fr i
 rf:∀i,locked fr i=true->aX[i]?=ai[i]?
noncomputable def fc(h:Hh)(S:Nat->Prop):Fl->Ev.Fl->Prop
 |.nx,g=>g=.nx
 |.bk,g=>g=.bk
 |.ct,g=>g=.ct
 |.ret v,g=>∃d,g=.ret d/\Rep h S v d
section
variable{M B M' M1 M2:Nat->Prop}{h h' h1 h2:Hh}{S S' S1 S2:Nat->Prop}{fr af aq:Fr}{ai aX ji:Ev.Fr}{c c1 c2:List Nat}{v:V}{d:D}
theorem cZ.refl(f:aT M B h S fr ai):cZ M B h S fr ai M h S fr ai:=⟨f,⟨Nat.le_refl _,λ_ _ _=>rfl,λ_ q=>q,λ_ q=>.inl q,λ_ q=>.inl q⟩,λ_=>rfl,λ_ _=>rfl⟩
theorem Out.s(o:Out M B c h S fr ai h1 S1 af):cZ M B h S fr ai M h1 S1 af ai:=⟨o.f,⟨o.tr.len,λm y1 y2=>o.tr.keep m y1 (λz=>y2 z.1),o.tr.sub,λm q=>(o.tr.new m q).imp id .inl,λ_ q=>.inl q⟩,o.lk,λ_ _=>rfl⟩
theorem cZ.trans(f0:aT M B h S fr ai)(a:cZ M B h S fr ai M1 h1 S1 af aX)(b:cZ M1 B h1 S1 af aX M2 h2 S2 aq ji):cZ M B h S fr ai M2 h2 S2 aq ji where
 f:=b.f
 tr:=⟨Nat.le_trans a.tr.len b.tr.len,λm y1 y2=>by
   rw[b.tr.keep m (Nat.lt_of_lt_of_le y1 a.tr.len) (λz=>by
    rcases a.tr.rj m z with z|z
    .exact y2 z
    .omega),a.tr.keep m y1 y2],λm q=>b.tr.sub m (a.tr.sub m q),λm q=>by
   rcases b.tr.new m q with q|q|q
   .rcases a.tr.new m q with q|q|q
    .exact .inl q
    .exact .inr (.inl ⟨q.1,Nat.lt_of_lt_of_le q.2 b.tr.len⟩)
    .exact .inr (.inr q)
   .exact .inr (.inl ⟨Nat.le_trans a.tr.len q.1,q.2⟩)
   .rcases a.tr.rj m q.1 with z|z
    .exact .inr (.inr ⟨z,q.2⟩)
    .exact .inr (.inl ⟨z,Nat.lt_of_lt_of_le (a.f.wM m q.1) b.tr.len⟩),λm q=>by
   rcases b.tr.rj m q with q|q
   .exact a.tr.rj m q
   .exact .inr (Nat.le_trans a.tr.len q)⟩
 lk:=λi=>(b.lk i).trans (a.lk i)
 rf:=λi q=>(b.rf i (by rw[a.lk i];exact q)).trans (a.rf i q)
theorem aT.kind(f:aT M B h S fr ai)(g:Option Sl->Option Sl->Prop)(hl:af.length=fr.length)(hg:∀(i:Nat) o,af[i]?=some o->∃o0,fr[i]?=some o0/\(o=o0\/(∃l,o0=some (.own l)/\o=some (.val (.lst l)))\/(∃l,o0=some (.bor l)/\o=some (.ro l)))) :
  ∃M' S',cZ M B h S fr ai M' h S' af ai:=by
 let X:Nat->Prop:=λm=>∃(i:Nat) (l:List V),fr[i]?=some (some (Sl.own l))/\af[i]?=some (some (Sl.val (V.lst l)))/\ai[i]?=some (some (D.ref m))
 let Y:Nat->Prop:=λm=>∃(i:Nat) (l:List V),fr[i]?=some (some (Sl.bor l))/\af[i]?=some (some (Sl.ro l))/\ai[i]?=some (some (D.ref m))
 have xM:∀m,X m->M m/\¬ B m:=λm ⟨i,l,a,_,b⟩=>by
  obtain⟨m',ds,e,q,_⟩:=f.sl i _ _ a b;cases e;exact q
 have yM:∀m,Y m->M m/\B m:=λm ⟨i,l,a,_,b⟩=>by
  obtain⟨m',ds,e,q,_⟩:=f.sl i _ _ a b;cases e;exact q
 have mono:∀{l:List V} {ds:List D},au h S l ds->au h (λm=>S m\/X m) l ds:=λq=>q.mono (λ_ _=>rfl) λ_ z=>.inl z;refine⟨λm=>M m/\¬ X m/\¬ Y m,λm=>S m\/X m,⟨⟨λm q=>?_,λm q=>f.wM m q.1,f.wB,by rw[hl,f.len],λi o p e1 e2=>?_,λi j o o' m y1 y2 y3 y4 y5 y6=>?_⟩,⟨Nat.le_refl _,λ_ _ _=>rfl,λ_ q=>.inl q,λm q=>?_,λm q=>.inl q.1⟩,λi=>?_,λ_ _=>rfl⟩⟩
 .rcases q with q|q
  .exact⟨(f.wS m q).1,λz=>(f.wS m q).2.1 z.1,(f.wS m q).2.2⟩
  .exact⟨f.wM m (xM m q).1,λz=>z.2.1 q,(xM m q).2⟩
 .obtain⟨o0,e0,k⟩:=hg i o e1;have old:=f.sl i o0 p e0 e2;rcases k with rfl|⟨l,rfl,rfl⟩|⟨l,rfl,rfl⟩
  .rcases o with _|s
   .exact old
   .cases s with
    |val v=>obtain⟨d,e,q⟩:=old;exact⟨d,e,q.mono (λ_ _=>rfl) λ_ z=>.inl z⟩
    |own l=>
     obtain⟨m,ds,rfl,z,y,q⟩:=old;refine⟨m,ds,rfl,⟨⟨z.1,λ⟨j,l',a1,a2,a3⟩=>?_,λ⟨j,l',a1,a2,a3⟩=>?_⟩,z.2⟩,y,mono q⟩
     .have:=f.inj i j _ _ m e0 a1 rfl rfl e2 a3;subst this;rw[e1]at a2;cases a2
     .have:=f.inj i j _ _ m e0 a1 rfl rfl e2 a3;subst this;rw[e1]at a2;cases a2
    |bor l=>
     obtain⟨m,ds,rfl,z,y,q⟩:=old;refine⟨m,ds,rfl,⟨⟨z.1,λ⟨j,l',a1,a2,a3⟩=>?_,λ⟨j,l',a1,a2,a3⟩=>?_⟩,z.2⟩,y,mono q⟩
     .have:=f.inj i j _ _ m e0 a1 rfl rfl e2 a3;subst this;rw[e1]at a2;cases a2
     .have:=f.inj i j _ _ m e0 a1 rfl rfl e2 a3;subst this;rw[e1]at a2;cases a2
    |ro l=>obtain⟨m,ds,rfl,z,y,q⟩:=old;exact⟨m,ds,rfl,λw=>z w.1,y,mono q⟩
  .obtain⟨m,ds,rfl,z,y,q⟩:=old;exact⟨.ref m,rfl,m,ds,rfl,.inr ⟨i,l,e0,e1,e2⟩,y,mono q⟩
  .obtain⟨m,ds,rfl,z,y,q⟩:=old;exact⟨m,ds,rfl,λw=>w.2.2 ⟨i,l,e0,e1,e2⟩,y,mono q⟩
 .have kd:∀(i:Nat) o,af[i]?=some o->gS o=true->∃o0,fr[i]?=some o0/\gS o0=true:=λi o w1 w2=>by
   obtain⟨o0,e0,k⟩:=hg i o w1;rcases k with rfl|⟨l,rfl,rfl⟩|⟨l,rfl,rfl⟩
   .exact⟨o,e0,w2⟩
   .cases w2
   .cases w2
  obtain⟨oi,k1,k2⟩:=kd i o y1 y3;obtain⟨oj,k3,k4⟩:=kd j o' y2 y4;exact f.inj i j oi oj m k1 k3 k2 k4 y5 y6
 .rcases q with q|q
  .exact .inl q
  .exact .inr (.inr (xM m q))
 .unfold locked;cases z:af[i]? with
  |none=>
   have:fr[i]?=none:=by rw[List.getElem?_eq_none_iff]at z ⊢;omega
   rw[this]
  |some o=>
   obtain⟨o0,e0,k⟩:=hg i o z;rw[e0];rcases k with rfl|⟨l,rfl,rfl⟩|⟨l,rfl,rfl⟩<;>rfl
theorem aT.fP(f:aT M B h S fr ai):∃M' S',cZ M B h S fr ai M' h S' (gD fr) ai:=by
 refine f.kind (λ_ _=>True) (by simp[gD]) λi o e=>?_;unfold gD at e;rw[List.getElem?_map]at e;cases z:fr[i]? with
 |none=>rw[z]at e;cases e
 |some o0=>
  rw[z]at e;cases e;refine⟨o0,rfl,?_⟩;rcases o0 with _|s
  .exact .inl rfl
  .cases s with
   |own l=>exact .inr (.inl ⟨l,rfl,rfl⟩)
   |_=>exact .inl rfl
theorem aT.walk:∀(is:List Nat) {M:Nat->Prop}{S:Nat->Prop}{fr:Fr},aT M B h S fr ai->∃M' S',cZ M B h S fr ai M' h S' (nL is fr) ai
 |[],_,_,_,f=>⟨_,_,.refl f⟩
 |i :: is,M,S,fr,f=>by
  have one:∃M1 S1,cZ M B h S fr ai M1 h S1 (match fr[i]? with|some (some s)=>fr.set i (some s.walk)|_=>fr) ai:=by
   split
   .rename_i s z;have hl:=(List.getElem?_eq_some_iff.mp z).1;refine f.kind (λ_ _=>True) (by simp) λj o e=>?_;by_cases hj:i=j
    .subst hj;rw[List.getElem?_set_self hl]at e;cases e;refine⟨_,z,?_⟩;cases s with
     |own l=>exact .inr (.inl ⟨l,rfl,rfl⟩)
     |bor l=>exact .inr (.inr ⟨l,rfl,rfl⟩)
     |_=>exact .inl rfl
    .rw[List.getElem?_set_ne hj]at e;exact⟨o,e,.inl rfl⟩
   .exact⟨M,S,.refl f⟩
  obtain⟨M1,S1,o1⟩:=one;obtain⟨M2,S2,o2⟩:=aT.walk is o1.f;exact⟨M2,S2,o1.trans f o2⟩
theorem aT.own(f:aT M B h S fr ai){i:Nat}{l:List V}{ds:List D}(e:put fr i (.own l)=some af)(q:au h S l ds):cZ M B h S fr ai (λm=>M m\/m=h.length) (h++[.lst ds]) S af (ai.set i (some (.ref h.length))):=by
 have hx:af=fr.set i (some (.own l))/\locked fr i=false:=by
  unfold put at e;unfold locked;split at e
  .cases e
  .cases e
  .rename_i k1 k2;cases e;refine⟨rfl,?_⟩;cases z:fr[i]? with
   |none=>rfl
   |some o=>
    rcases o with _|s
    .rfl
    .cases s with
     |bor l=>exact absurd z (k1 l)
     |ro l=>exact absurd z (k2 l)
     |_=>rfl
 obtain⟨rfl,hk⟩:=hx;have kp:∀m,m<h.length->(h++[O.lst ds])[m]?=h[m]?:=λm z=>by rw[List.getElem?_append_left z]
 have kS:∀m,S m->(h++[O.lst ds])[m]?=h[m]?:=λm z=>kp m (f.w m z);refine⟨⟨λm y=>⟨by have:=(f.wS m y).1;simp;omega,λz=>?_,(f.wS m y).2.2⟩,λm y=>?_,λm y=>by have:=f.wB m y;simp;omega,by simp[f.len],λj o p y1 y2=>?_,λj k o o' m y1 y2 y3 y4 y5 y6=>?_⟩,⟨by simp,λm y _=>kp m y,λ_ z=>z,λ_ z=>.inl z,λm z=>z.imp id (λz=>by omega)⟩,λj=>?_,λj hj=>?_⟩
 .rcases z with z|z
  .exact(f.wS m y).2.1 z
  .have:=(f.wS m y).1;omega
 .rcases y with y|y
  .have:=f.wM m y;simp;omega
  .subst y;simp
 .by_cases hj:i=j
  .subst hj;have hl:i<fr.length:=by have:=(List.getElem?_eq_some_iff.mp y1).1;simpa using this
   rw[List.getElem?_set_self hl]at y1;rw[List.getElem?_set_self (by rw[<-f.len];exact hl)]at y2;cases y1;cases y2;exact⟨h.length,ds,rfl,⟨.inr rfl,λz=>by have:=f.wB _ z;omega⟩,by simp,q.mono kS λ_ z=>z⟩
  .rw[List.getElem?_set_ne hj]at y1 y2;have old:=f.sl j o p y1 y2;rcases o with _|s
   .exact old
   .cases s with
    |val v=>obtain⟨d,e,q⟩:=old;exact⟨d,e,q.mono kS λ_ z=>z⟩
    |own l=>obtain⟨m,es,rfl,z,y,q⟩:=old;exact⟨m,es,rfl,⟨.inl z.1,z.2⟩,by rw[kp m (f.wM m z.1)];exact y,q.mono kS λ_ z=>z⟩
    |bor l=>obtain⟨m,es,rfl,z,y,q⟩:=old;exact⟨m,es,rfl,⟨.inl z.1,z.2⟩,by rw[kp m (f.wM m z.1)];exact y,q.mono kS λ_ z=>z⟩
    |ro l=>
     obtain⟨m,es,rfl,z,y,q⟩:=old;have hm:=(List.getElem?_eq_some_iff.mp y).1;exact⟨m,es,rfl,λw=>by rcases w with w|w;exact z w;omega,by rw[kp m hm];exact y,q.mono kS λ_ z=>z⟩
 .have low:∀(j:Nat) o,i≠j->fr[j]?=some o->gS o=true->ai[j]?=some (some (.ref m))->m<h.length:=λj o _ w1 w2 w3=>f.wM m (f.mM w1 w2 w3);have new:∀(j:Nat),j<fr.length->i=j->(ai.set i (some (.ref h.length)))[j]?=some (some (.ref m))->m=h.length:=λj hl hj w=>by
   subst hj;rw[List.getElem?_set_self (by rw[<-f.len];exact hl)]at w;cases w;rfl
  have lj:j<fr.length:=by have:=(List.getElem?_eq_some_iff.mp y1).1;simpa using this
  have lk:k<fr.length:=by have:=(List.getElem?_eq_some_iff.mp y2).1;simpa using this
  by_cases hj:i=j
  .by_cases hk2:i=k
   .rw[<-hj,<-hk2]
   .have a:=new j lj hj y5;rw[List.getElem?_set_ne hk2]at y2 y6;have b:=low k o' hk2 y2 y4 y6;omega
  .by_cases hk2:i=k
   .have a:=new k lk hk2 y6;rw[List.getElem?_set_ne hj]at y1 y5;have b:=low j o hj y1 y3 y5;omega
   .rw[List.getElem?_set_ne hj]at y1 y5;rw[List.getElem?_set_ne hk2]at y2 y6;exact f.inj j k o o' m y1 y2 y3 y4 y5 y6
 .by_cases hj:i=j
  .subst hj;rw[hk];unfold locked;by_cases hl:i<fr.length
   .rw[List.getElem?_set_self hl];rfl
   .rw[List.getElem?_eq_none (by simpa using hl)]
  .unfold locked;rw[List.getElem?_set_ne hj]
 .have:i≠j:=λz=>by subst z;rw[hk]at hj;cases hj
  rw[List.getElem?_set_ne this]
end
inductive PZ(P':Ev.aG)(w:Nat)(s:S)(g:Fl)(M B:Nat->Prop)(h:Hh)(S:Nat->Prop)(fr:Fr)(ai:Ev.Fr)(af:Fr):Prop
 |mk (g':Ev.Fl) (aX:Ev.Fr) (M':Nat->Prop) (h':Hh) (S':Nat->Prop) (c0:Ev.ex P' w s ai h=.ok (g',aX) h') (c1:fc h' S' g g') (c2:cZ M B h S fr ai M' h' S' af aX):PZ P' w s g M B h S fr ai af
inductive LN(P':Ev.aG)(w:Nat)(s:Ss)(g:Fl)(M B:Nat->Prop)(h:Hh)(S:Nat->Prop)(fr:Fr)(ai:Ev.Fr)(af:Fr):Prop
 |mk (g':Ev.Fl) (aX:Ev.Fr) (M':Nat->Prop) (h':Hh) (S':Nat->Prop) (c0:Ev.exs P' w s ai h=.ok (g',aX) h') (c1:fc h' S' g g') (c2:cZ M B h S fr ai M' h' S' af aX):LN P' w s g M B h S fr ai af
section
variable(P:aG)(P':Ev.aG)(w:Nat)
noncomputable def m9(s:S):Prop:=∀{fr:Fr} {g:Fl} {af:Fr} {M B:Nat->Prop} {h:Hh} {S:Nat->Prop} {ai:Ev.Fr},ex P w s fr=.ok g af->aT M B h S fr ai->PZ P' w s g M B h S fr ai af
noncomputable def qm(s:Ss):Prop:=∀{fr:Fr} {g:Fl} {af:Fr} {M B:Nat->Prop} {h:Hh} {S:Nat->Prop} {ai:Ev.Fr},exs P w s fr=.ok g af->aT M B h S fr ai->LN P' w s g M B h S fr ai af
end
section
variable{P:aG}{P':Ev.aG}{w:Nat}(HP:nO P P')
include HP
theorem Hr{i:Nat}{e:E}:m9 P P' w (.set i e):=λ{fr g af M B h S ai} z f=>by
 simp only[ex]at z;replace z:=ah z;obtain⟨x,aq,z1,z⟩:=z;by_cases hn:isNew e=true
 .rw[if_pos hn]at z;have key:∃l ds h1 S1,x=.lst l/\au h1 S1 l ds/\Ev.ev P' e ai h=.ok (.ref h1.length) (h1++[.lst ds])/\Out M B (bY e) h S fr ai h1 S1 aq:=by
   cases e <;> (try simp only[isNew,Bool.false_eq_true]at hn)
   case lst es=>
    simp only[ev]at z1;replace z1:=ah z1;obtain⟨l,aS,z2,z1⟩:=z1;replace z1:=aN z1;obtain⟨z1,y0⟩:=z1;subst y0;unfold e8 at z1;split at z1
    case isFalse=>cases z1
    rename_i hk;cases z1;obtain⟨ds,h1,S1,e1,q1,o1⟩:=fS HP es z2 f;refine⟨l,ds,h1,S1,rfl,q1.n,?_,o1⟩;simp only[Ev.ev,e1,Ev.ao,Ev.alloc];rw[if_pos (by rw[<-q1.n.length];exact hk)]
   case gQ it=>
    simp only[ev]at z1;replace z1:=ah z1;obtain⟨l,aS,z2,z1⟩:=z1;replace z1:=aN z1;obtain⟨z1,y0⟩:=z1;subst y0;unfold e8 at z1;split at z1
    case isFalse=>cases z1
    rename_i hk;cases z1;obtain⟨s,h1,S1,e1,q1,q2,o1⟩:=jP HP it z2 f;refine⟨l,s.1,h1,S1,rfl,q1,?_,o1⟩;simp only[Ev.ev,e1,Ev.ao,Ev.alloc];rw[if_pos (by rw[<-q1.length];exact hk)]
  obtain⟨l,ds,h1,S1,rfl,q1,e1,o1⟩:=key;simp only at z;replace z:=ah z;obtain⟨aS,fO,z2,z⟩:=z;replace z2:=aN z2;obtain⟨z2,y0⟩:=z2;subst y0;cases z;have o2:=o1.f.own z2 q1;exact⟨.nx,_,_,_,_,by simp only[Ev.ex,e1,Ev.ao],rfl,o1.s.trans f o2⟩
 .rw[if_neg hn]at z;replace z:=ah z;obtain⟨aS,fO,z2,z⟩:=z;replace z2:=aN z2;obtain⟨z2,y0⟩:=z2;subst y0;cases z;obtain⟨d,h1,S1,e1,q1,o1⟩:=bg HP e z1 f;obtain⟨f2,l2,r2⟩:=o1.f.set z2 q1.n;refine⟨.nx,_,_,_,_,by simp only[Ev.ex,e1,Ev.ao],rfl,o1.s.trans f ⟨f2,(cZ.refl f2).tr,l2,r2⟩⟩
theorem Hs{l:List Nat}{e:E}:m9 P P' w (.mK l e):=λ{fr g af M B h S ai} z f=>by
 simp only[ex]at z;replace z:=ah z;obtain⟨x,aq,z1,z⟩:=z;replace z:=ah z;obtain⟨aS,fO,z2,z⟩:=z;replace z2:=aN z2;obtain⟨z2,y0⟩:=z2;subst y0;cases z;obtain⟨d,h1,S1,e1,q1,o1⟩:=bg HP e z1 f;obtain⟨gM,b1,f2,l2,r2⟩:=o1.f.br z2 q1.n;exact⟨.nx,_,_,_,_,by simp only[Ev.ex,e1,Ev.ao,b1],rfl,o1.s.trans f ⟨f2,(cZ.refl f2).tr,l2,r2⟩⟩
theorem LO{e:E}:m9 P P' w (.exp e):=λ{fr g af M B h S ai} z f=>by
 simp only[ex]at z;replace z:=ah z;obtain⟨x,aq,z1,z⟩:=z;cases z;obtain⟨d,h1,S1,e1,q1,o1⟩:=bg HP e z1 f;exact⟨.nx,_,_,_,_,by simp only[Ev.ex,e1,Ev.ao],rfl,o1.s⟩
theorem LP{e:E}:m9 P P' w (.ret e):=λ{fr g af M B h S ai} z f=>by
 simp only[ex]at z;replace z:=ah z;obtain⟨x,aq,z1,z⟩:=z;cases z;obtain⟨M1,S1,o1⟩:=f.fP;obtain⟨d,h2,S2,e1,q1,o2⟩:=bg HP e z1 o1.f;exact⟨.ret d,_,_,_,_,by simp only[Ev.ex,e1,Ev.ao],⟨d,rfl,q1.n⟩,o1.trans f o2.s⟩
omit HP in
theorem rq{F:V->Fr->R Fl}{F':D->Ev.Fr->Hh->Ev.R (Ev.Fl×Ev.Fr)}{ck:List (Nat×List D)}{B:Nat->Prop}{M0:Nat->Prop}{h0:Hh}{S0:Nat->Prop}{dg:Fr}{C3:Ev.Fr}(f0:aT M0 B h0 S0 dg C3)(st:∀q∈ck,bf h0 q.1=some q.2/\¬ M0 q.1)
  (turn:∀v d fr g af M h S ai,F v fr=.ok g af->aT M B h S fr ai->Rep h S v d->∃g' aX M' h' S',F' d ai h=.ok (g',aX) h'/\fc h' S' g g'/\cZ M B h S fr ai M' h' S' af aX) :
  ∀{vs:List V} {ds:List D} {fr:Fr} {g:Fl} {af:Fr} {M:Nat->Prop} {h:Hh} {S:Nat->Prop} {ai:Ev.Fr},forL F vs fr=.ok g af->cZ M0 B h0 S0 dg C3 M h S fr ai->au h S vs ds->
  ∃g' aX M' h' S',Ev.forL F' ck ds ai h=.ok (g',aX) h'/\fc h' S' g g'/\cZ M0 B h0 S0 dg C3 M' h' S' af aX
 |[],ds,fr,g,af,M,h,S,ai,e,o,q=>by
  simp only[forL]at e;simp only[au]at q;subst q;cases e;refine⟨.nx,ai,M,h,S,?_,rfl,o⟩;simp only[Ev.forL];rw[if_pos (iL λx hx=>jO (st x hx).1 (o.tr.keep _ (kL (st x hx).1) (st x hx).2))]
 |v :: vs,ds,fr,g,af,M,h,S,ai,e,o,q=>by
  simp only[forL]at e;replace e:=ah e;obtain⟨p,aq,e1,e⟩:=e;simp only[au]at q;obtain⟨d,es,rfl,q1,q2⟩:=q;obtain⟨g',ji,M2,h2,S2,t1,t2,t3⟩:=turn v d fr p aq M h S ai e1 o.f q1;have o2:=o.trans f0 t3;have EY:Ev.stays h ck=true:=iL λx hx=>jO (st x hx).1 (o.tr.keep _ (kL (st x hx).1) (st x hx).2);have P0:au h2 S2 vs es:=q2.mono (λm z=>t3.tr.keep m (o.f.wS m z).1 (o.f.wS m z).2.1) t3.tr.sub;cases p with
  |nx=>
   simp only[fc]at t2;subst t2;simp only at e;obtain⟨qo,gM,M3,h3,S3,u1,u2,u3⟩:=rq f0 st turn e o2 P0;refine⟨qo,gM,M3,h3,S3,?_,u2,u3⟩;simp only[Ev.forL];rw[if_pos EY,t1,Ev.ao];exact u1
  |ct=>
   simp only[fc]at t2;subst t2;simp only at e;obtain⟨qo,gM,M3,h3,S3,u1,u2,u3⟩:=rq f0 st turn e o2 P0;refine⟨qo,gM,M3,h3,S3,?_,u2,u3⟩;simp only[Ev.forL];rw[if_pos EY,t1,Ev.ao];exact u1
  |bk=>
   simp only[fc]at t2;subst t2;simp only at e;cases e;refine⟨.nx,ji,M2,h2,S2,?_,rfl,o2⟩;simp only[Ev.forL];rw[if_pos EY,t1,Ev.ao]
  |ret x=>
   simp only[fc]at t2;obtain⟨d2,rfl,t2⟩:=t2;simp only at e;cases e;refine⟨.ret d2,ji,M2,h2,S2,?_,⟨d2,rfl,t2⟩,o2⟩;simp only[Ev.forL];rw[if_pos EY,t1,Ev.ao]
theorem LQ{t:T}{it:It}{b:Ss}(ib:qm P P' w b):m9 P P' w (.for t it b):=λ{fr g af M B h S ai} z f=>by
 simp only[ex]at z;replace z:=ah z;obtain⟨vs,aq,z1,z⟩:=z;obtain⟨M1,S1,o1⟩:=f.walk (itv it);obtain⟨s,h2,S2,e1,q1,q2,o2⟩:=jP HP it z1 o1.f;have o3:=o1.trans f o2.s;obtain⟨g',aX,M',h',S',u1,u2,u3⟩:=rq (F':=λd aq h2=>match Ev.br t d aq with
   |some aS=>Ev.exs P' w b aS h2
   |none=>.bad) (ck:=s.2) o2.f (λq hq=>⟨(q2 q hq).1,(q2 q hq).2 rfl⟩) (λv d fr g af M h S ai y f q=>by
  split at y
  .rename_i aS y1;obtain⟨gM,b1,b2,b3,b4⟩:=f.br y1 q;rw[b1];obtain⟨g',aX,M',h',S',c1,c2,c3⟩:=ib y b2;exact⟨g',aX,M',h',S',c1,c2,(⟨b2,(cZ.refl b2).tr,b3,b4⟩:cZ M _ h S fr ai M h S aS gM).trans f c3⟩
  .cases y) z (cZ.refl o2.f) q1
 refine⟨g',aX,M',h',S',?_,u2,o3.trans f u3⟩;simp only[Ev.ex,e1,Ev.ao];exact u1
theorem uQ{t:E}{b:Ss}(ib:qm P P' w b):∀(n:Nat) {fr:Fr}{g:Fl}{af:Fr}{M B:Nat->Prop}{h:Hh}{S:Nat->Prop}{ai:Ev.Fr},di (λaq=>aF P t aq) (λaq=>exs P w b aq) n fr=.ok g af->aT M B h S fr ai->
  ∃g' aX M' h' S',Ev.di (λaq h2=>Ev.aF P' t aq h2) (λaq h2=>Ev.exs P' w b aq h2) n ai h=.ok (g',aX) h'/\fc h' S' g g'/\cZ M B h S fr ai M' h' S' af aX
 |0,_,_,_,_,_,_,_,_,z,_=>by simp only[di]at z;cases z
 |n+1,fr,g,af,M,B,h,S,ai,z,f=>by
  simp only[di]at z;replace z:=ah z;obtain⟨k,aq,z1,z⟩:=z;obtain⟨h1,S1,e1,o1⟩:=fz HP t z1 f;cases k with
  |false=>
   simp only[Bool.false_eq_true,if_false]at z;cases z;refine⟨.nx,ai,M,h1,S1,?_,rfl,o1.s⟩;simp only[Ev.di,e1,Ev.ao];rw[if_neg (by decide)]
  |true=>
   simp only[if_true]at z;replace z:=ah z;obtain⟨p,aS,z2,z⟩:=z;obtain⟨g',gM,M2,h2,S2,t1,t2,t3⟩:=ib z2 o1.f;have o2:=o1.s.trans f t3;cases p with
   |nx=>
    simp only[fc]at t2;subst t2;simp only at z;obtain⟨qo,C4,M3,h3,S3,u1,u2,u3⟩:=uQ ib n z t3.f;refine⟨qo,C4,M3,h3,S3,?_,u2,o2.trans f u3⟩;simp only[Ev.di,e1,Ev.ao,if_true,t1];exact u1
   |ct=>
    simp only[fc]at t2;subst t2;simp only at z;obtain⟨qo,C4,M3,h3,S3,u1,u2,u3⟩:=uQ ib n z t3.f;refine⟨qo,C4,M3,h3,S3,?_,u2,o2.trans f u3⟩;simp only[Ev.di,e1,Ev.ao,if_true,t1];exact u1
   |bk=>
    simp only[fc]at t2;subst t2;simp only at z;cases z;refine⟨.nx,gM,M2,h2,S2,?_,rfl,o2⟩;simp only[Ev.di,e1,Ev.ao,if_true,t1]
   |ret x=>
    simp only[fc]at t2;obtain⟨d2,rfl,t2⟩:=t2;simp only at z;cases z;refine⟨.ret d2,gM,M2,h2,S2,?_,⟨d2,rfl,t2⟩,o2⟩;simp only[Ev.di,e1,Ev.ao,if_true,t1]
theorem LR{t:E}{a b:Ss}(ia:qm P P' w a)(ib:qm P P' w b):m9 P P' w (.iff t a b):=λ{fr g af M B h S ai} z f=>by
 simp only[ex]at z;replace z:=ah z;obtain⟨k,aq,z1,z⟩:=z;obtain⟨h1,S1,e1,o1⟩:=fz HP t z1 f;cases k with
 |true=>
  simp only[if_true]at z;obtain⟨g',aX,M',h',S',c1,c2,c3⟩:=ia z o1.f;exact⟨g',aX,M',h',S',by simp only[Ev.ex,e1,Ev.ao,if_true,c1],c2,o1.s.trans f c3⟩
 |false=>
  simp only[Bool.false_eq_true,if_false]at z;obtain⟨g',aX,M',h',S',c1,c2,c3⟩:=ib z o1.f;exact⟨g',aX,M',h',S',by simp only[Ev.ex,e1,Ev.ao];rw[if_neg (by decide)];exact c1,c2,o1.s.trans f c3⟩
noncomputable def uR(P':Ev.aG):Prop:=∀f ds h d h',P' (f+Ev.xo) ds h=.ok d h'->P' f ds h=.bad
theorem Oa(HE:uR P'){g kk:Nat}{es:Es}:m9 P P' w (.tr g kk es):=λ{fr _ af M B h S ai} z f=>by
 simp only[ex]at z;replace z:=ah z;obtain⟨as,aq,z1,z⟩:=z;obtain⟨ds,h1,S1,e1,q1,o1⟩:=m8 HP es z1 f;split at z
 case isFalse=>cases z
 split at z
 .rename_i v aS y;cases z;obtain⟨d,h2,S2,e2,q2,o2⟩:=pD HP y o1.f q1;exact⟨.ret d,ai,M,h2,S2,by simp only[Ev.ex,e1,Ev.ao,e2,Ev.tryD],⟨d,rfl,q2⟩,(o1.trans o2).s⟩
 .replace z:=ah z;obtain⟨c,aS,z2,z⟩:=z;replace z:=aN z;obtain⟨z,rfl⟩:=z;obtain⟨d,h2,S2,e2,q2,o2⟩:=pD HP z2 o1.f q1;have e3:=HE _ _ _ _ _ e2;cases c with
  |int c=>
   simp only[Rep]at q2;subst q2;simp only[za]at z;split at z
   case isFalse=>cases z
   rename_i hc;cases z;refine⟨.ret (.tup [.str [114,101,102,117,115,101,100],.int c]),ai,M,h2,S2,by simp only[Ev.ex,e1,Ev.ao,e2,e3,Ev.tryD,Ev.Cw,if_pos hc,Ev.dh],⟨_,rfl,?_⟩,(o1.trans o2).s⟩;simp[Rep,au]
  |_=>cases z
mutual
theorem EZ(HE:uR P'):∀s:S,m9 P P' w s
 |.set _ _=>Hr HP
 |.mK _ _=>Hs HP
 |.exp _=>LO HP
 |.ret _=>LP HP
 |.iff _ a b=>LR HP (iB HE a) (iB HE b)
 |.for _ _ b=>LQ HP (iB HE b)
 |.tr _ _ _=>Oa HP HE
 |.iW _ b=>λz f=>by
  simp only[ex]at z;obtain⟨g',aX,M',h',S',c1,c2,c3⟩:=uQ HP (iB HE b) w z f;exact⟨g',aX,M',h',S',by simp only[Ev.ex];exact c1,c2,c3⟩
 |.ez _=>λz _=>by simp only[ex]at z;cases z
theorem iB(HE:uR P'):∀s:Ss,qm P P' w s
 |.nil=>λz f=>by simp only[exs]at z;cases z;exact⟨.nx,_,_,_,_,by simp only[Ev.exs],rfl,.refl f⟩
 |.cons s ss=>λz f=>by
  simp only[exs]at z;replace z:=ah z;obtain⟨p,aq,z1,z⟩:=z;obtain⟨g',ji,M2,h2,S2,t1,t2,t3⟩:=EZ HE s z1 f;cases p with
  |nx=>
   simp only[fc]at t2;subst t2;simp only at z;obtain⟨qo,gM,M3,h3,S3,u1,u2,u3⟩:=iB HE ss z t3.f;exact⟨qo,gM,M3,h3,S3,by simp only[Ev.exs,t1,Ev.ao,u1],u2,t3.trans f u3⟩
  |ct=>
   simp only[fc]at t2;subst t2;simp only at z;cases z;exact⟨.ct,ji,M2,h2,S2,by simp only[Ev.exs,t1,Ev.ao],rfl,t3⟩
  |bk=>
   simp only[fc]at t2;subst t2;simp only at z;cases z;exact⟨.bk,ji,M2,h2,S2,by simp only[Ev.exs,t1,Ev.ao],rfl,t3⟩
  |ret x=>
   simp only[fc]at t2;obtain⟨d2,rfl,t2⟩:=t2;simp only at z;cases z;exact⟨.ret d2,ji,M2,h2,S2,by simp only[Ev.exs,t1,Ev.ao],⟨d2,rfl,t2⟩,t3⟩
end
end
structure gr(M:Nat->Prop)(h h':Hh):Prop where
 len:h.length<=h'.length
 keep:∀m,m<h.length->¬ M m->h'[m]?=h[m]?
inductive jQ(c:Nat)(M:Nat->Prop)(h:Hh)(r:Ev.XR):Prop
 |mk (h':Hh) (e:r=some (c,h')) (k:gr M h h'):jQ c M h r
noncomputable def qp(X:cC)(X':Ev.cC):Prop:=∀f sl c,X f sl=some c->∀(h:Hh) (S B:Nat->Prop) (ds:List D),aT B B h S (sl.map some) (ds.map some)->jQ c B h (X' f ds h)
theorem gr.after{M M1 B:Nat->Prop}{h h1 h2:Hh}{S S1:Nat->Prop}{fr af:Fr}{ai aX:Ev.Fr}(o:cZ M B h S fr ai M1 h1 S1 af aX)(r:gr M1 h1 h2):gr M h h2:=⟨Nat.le_trans o.tr.len r.len,λm y1 y2=>by
 rw[r.keep m (Nat.lt_of_lt_of_le y1 o.tr.len) (λz=>by
  rcases o.tr.rj m z with z|z
  .exact y2 z
  .omega),o.tr.keep m y1 y2]⟩
section
variable{P:aG}{P':Ev.aG}{X:cC}{X':Ev.cC}{w:Nat}(HP:nO P P')(HE:uR P')(HX:qp X X')(HB:∀f ds h r,X' f ds h=some r->P' f ds h=.bad)
include HP HX HB
mutual
theorem lD:∀(e:E) {fr:Fr}{c:Nat}{M B:Nat->Prop}{h:Hh}{S:Nat->Prop}{ai:Ev.Fr},xe P X e fr=some c->aT M B h S fr ai->jQ c M h (Ev.xe P' X' e ai h)
 |.cl g es,fr,c,M,B,h,S,ai,z,f=>by
  simp only[xe]at z;simp only[Ev.xe];split at z
  .rename_i as af y;obtain⟨ds,h1,S1,e1,q1,o1⟩:=m8 HP es y f;rw[e1];unfold nM at z;split at z
   case isFalse=>cases z
   rename_i nd;rw[Option.bind_eq_some_iff]at z;obtain⟨sl,z1,z2⟩:=z;obtain⟨h2,e2,k⟩:=HX _ _ _ z2 h1 S1 _ ds (xD o1.f nd z1 q1);exact⟨h2,e2,gr.after o1.s ⟨k.len,λm y1 y2=>k.keep m y1 λz=>y2 (LB.m o1.f m z)⟩⟩
  .obtain⟨h2,e2,k⟩:=uS es z f;rw[Ev.uc HB es e2];exact⟨h2,e2,k⟩
 |.ix a b,fr,c,M,B,h,S,ai,z,f=>by
  simp only[xe]at z;simp only[Ev.xe];exact lD a z f
 |.me m o es,fr,c,M,B,h,S,ai,z,f=>by
  simp only[xe]at z;split at z
  case isFalse=>cases z
  rename_i hm;split at z
  case h_2=>cases z
  rename_i i hi;cases o with
  |v j=>
   simp only[fQ]at hi;split at hi
   case isFalse=>cases hi
   rename_i hl;cases hi;obtain⟨s,hs⟩:=Option.isSome_iff_exists.mp hl;obtain⟨n,ds,l,o,k1,k2,k3,k4,k5⟩:=gT hs f;simp only[Ev.xe,Ev.ev,k2];have e0:Ev.pW m (.ref n) h=true:=by
    have:bf h n=some ds:=by unfold bf;rw[k3]
    cases m<;>first | (simp[Ev.pW,this];done)|cases hm
   simp only[Option.join,Option.bind,id,Ev.dh];rw[if_pos e0];exact Be es z f
  |_=>cases hi
 |.c _,_,_,_,_,_,_,_,z,_=>nomatch z|.v _,_,_,_,_,_,_,_,z,_=>nomatch z|.tup _,_,_,_,_,_,_,_,z,_=>nomatch z|.lst _,_,_,_,_,_,_,_,z,_=>nomatch z
 |.bin _ _ _,_,_,_,_,_,_,_,z,_=>nomatch z|.cmp _ _ _,_,_,_,_,_,_,_,z,_=>nomatch z
 |.nt _,_,_,_,_,_,_,_,z,_=>nomatch z|.neg _,_,_,_,_,_,_,_,z,_=>nomatch z|.an _ _,_,_,_,_,_,_,_,z,_=>nomatch z|.orr _ _,_,_,_,_,_,_,_,z,_=>nomatch z|.gk _ _ _,_,_,_,_,_,_,_,z,_=>nomatch z
 |.sl _ _ _,_,_,_,_,_,_,_,z,_=>nomatch z
 |.bi _ _,_,_,_,_,_,_,_,z,_=>nomatch z
 |.comp _ _ _ _,_,_,_,_,_,_,_,z,_=>nomatch z|.gQ _,_,_,_,_,_,_,_,z,_=>nomatch z
 |.je _ _,_,_,_,_,_,_,_,z,_=>nomatch z|.iG _,_,_,_,_,_,_,_,z,_=>nomatch z
theorem uS:∀(es:Es) {fr:Fr}{c:Nat}{M B:Nat->Prop}{h:Hh}{S:Nat->Prop}{ai:Ev.Fr},uJ P X es fr=some c->aT M B h S fr ai->jQ c M h (Ev.xa P' X' es ai h)
 |.nil,_,_,_,_,_,_,_,z,_=>nomatch z
 |.cons e es,fr,c,M,B,h,S,ai,z,f=>by
  simp only[uJ]at z;simp only[Ev.xa];split at z
  .rename_i i hi;cases e with
   |v j=>
    simp only[fQ]at hi;split at hi
    case isFalse=>cases hi
    rename_i hl;cases hi;obtain⟨s,hs⟩:=Option.isSome_iff_exists.mp hl;obtain⟨n,ds,l,o,k1,k2,k3,k4,k5⟩:=gT hs f;simp only[Ev.ev,k2,Option.join,Option.bind,id,Ev.dh];exact uS es z f
   |_=>cases hi
  .split at z
   .rename_i y;obtain⟨d,h1,S1,e1,q1,o1⟩:=bg HP e y f;rw[e1];obtain⟨h2,e2,k⟩:=uS es z o1.f;exact⟨h2,e2,gr.after o1.s k⟩
   .obtain⟨h2,e2,k⟩:=lD e z f;rw[(Ev.eB HB e e2).1];exact⟨h2,e2,k⟩
theorem Be:∀(es:Es) {k:Bool}{fr:Fr}{c:Nat}{M B:Nat->Prop}{h:Hh}{S:Nat->Prop}{ai:Ev.Fr},xr P X k es fr=some c->aT M B h S fr ai->jQ c M h (Ev.xa P' X' es ai h)
 |.nil,_,_,_,_,_,_,_,_,z,_=>nomatch z
 |.cons e es,k,fr,c,M,B,h,S,ai,z,f=>by
  simp only[xr]at z;simp only[Ev.xa];split at z
  .rename_i y;obtain⟨d,h1,S1,e1,q1,o1⟩:=bg HP e y f;rw[e1];obtain⟨h2,e2,k⟩:=Be es z o1.f;exact⟨h2,e2,gr.after o1.s k⟩
  .obtain⟨h2,e2,k⟩:=lD e z f;rw[(Ev.eB HB e e2).1];exact⟨h2,e2,k⟩
end
omit HP HX HB in
theorem xH{f:V->Fr->R Fl}{g:V->Fr->Option Nat}{f':D->Ev.Fr->Hh->Ev.R (Ev.Fl×Ev.Fr)}{g':D->Ev.Fr->Hh->Ev.XR}{ck:List (Nat×List D)}{B:Nat->Prop}
  (hf:∀{v d fr fl af M h S ai},f v fr=.ok fl af->aT M B h S fr ai->Rep h S v d->∃gl aX M' h' S',f' d ai h=.ok (gl,aX) h'/\fc h' S' fl gl/\cZ M B h S fr ai M' h' S' af aX)
  (hg:∀{v d fr c M h S ai},g v fr=some c->aT M B h S fr ai->Rep h S v d->jQ c M h (g' d ai h)) (hb:∀d fr h r,g' d fr h=some r->f' d fr h=.bad) :
  ∀(vs:List V) {ds:List D} {fr:Fr} {c:Nat} {M:Nat->Prop} {h:Hh} {S:Nat->Prop} {ai:Ev.Fr},cR f g vs fr=some c->aT M B h S fr ai->au h S vs ds->(∀q∈ck,bf h q.1=some q.2/\¬ M q.1)->jQ c M h (Ev.cR f' g' ck ds ai h)
 |[],_,_,_,_,_,_,_,z,_,_,_=>nomatch z
 |v :: vs,ds,fr,c,M,h,S,ai,z,f0,q,st=>by
  simp only[au]at q;obtain⟨d,es,rfl,q1,q2⟩:=q;simp only[cR]at z;simp only[Ev.cR];rw[if_pos (iL λq hq=>(st q hq).1)];have go:∀{af:Fr} {aX:Ev.Fr} {M1:Nat->Prop} {h1:Hh} {S1:Nat->Prop},cR f g vs af=some c->cZ M B h S fr ai M1 h1 S1 af aX->jQ c M h (Ev.cR f' g' ck es aX h1):=λ{af aX M1 h1 S1} z1 o=>by
   obtain⟨h2,e2,k⟩:=xH hf hg hb vs z1 o.f (q2.mono (λm y=>o.tr.keep m (f0.wS m y).1 (f0.wS m y).2.1) o.tr.sub) (λq hq=>⟨jO (st q hq).1 (o.tr.keep _ (kL (st q hq).1) (st q hq).2),λy=>by
    rcases o.tr.rj _ y with y|y
    .exact(st q hq).2 y
    .have:=kL (st q hq).1;omega⟩)
   exact⟨h2,e2,gr.after o k⟩
  split at z
  .rename_i y;obtain⟨gl,aX,M1,h1,S1,t1,t2,t3⟩:=hf y f0 q1;simp only[fc]at t2;subst t2;rw[t1];exact go z t3
  .rename_i y;obtain⟨gl,aX,M1,h1,S1,t1,t2,t3⟩:=hf y f0 q1;simp only[fc]at t2;subst t2;rw[t1];exact go z t3
  .cases z
  .obtain⟨h2,e2,k⟩:=hg z f0 q1;rw[hb _ _ _ _ e2];exact⟨h2,e2,k⟩
include HE
mutual
theorem Ob:∀(s:S) {fr:Fr}{c:Nat}{M B:Nat->Prop}{h:Hh}{S:Nat->Prop}{ai:Ev.Fr},xs P X w s fr=some c->aT M B h S fr ai->jQ c M h (Ev.xs P' X' w s ai h)
 |.ez c,fr,_,M,B,h,S,ai,z,f=>by
  simp only[xs]at z;cases z;exact⟨h,rfl,Nat.le_refl _,λ_ _ _=>rfl⟩
 |.set i e,fr,c,M,B,h,S,ai,z,f=>by
  simp only[xs]at z;simp only[Ev.xs];exact lD HP HX HB e z f
 |.exp e,fr,c,M,B,h,S,ai,z,f=>by
  simp only[xs]at z;simp only[Ev.xs];exact lD HP HX HB e z f
 |.ret e,fr,c,M,B,h,S,ai,z,f=>by
  simp only[xs]at z;simp only[Ev.xs];obtain⟨M1,S1,o⟩:=f.fP;obtain⟨h2,e2,k⟩:=lD HP HX HB e z o.f;exact⟨h2,e2,gr.after o k⟩
 |.iff t a b,fr,c,M,B,h,S,ai,z,f=>by
  simp only[xs]at z;simp only[Ev.xs];split at z
  .rename_i k af y;obtain⟨h1,S1,e1,o1⟩:=fz HP t y f;rw[e1];cases k with
   |true=>
    obtain⟨h2,e2,k⟩:=kM a (by simpa using z) o1.f;exact⟨h2,by simpa using e2,gr.after o1.s k⟩
   |false=>
    obtain⟨h2,e2,k⟩:=kM b (by simpa using z) o1.f;exact⟨h2,by simpa using e2,gr.after o1.s k⟩
  .obtain⟨h2,e2,k⟩:=lD HP HX HB t z f;rw[(Ev.eB HB t e2).2];exact⟨h2,e2,k⟩
 |.for t it b,fr,c,M,B,h,S,ai,z,f=>by
  simp only[xs]at z;simp only[Ev.xs];split at z
  case h_2=>cases z
  rename_i vs af y;obtain⟨M0,S0,o0⟩:=f.walk (itv it);obtain⟨s,h1,S1,e1,q1,q2,o1⟩:=jP HP it y o0.f;rw[e1];have o2:=o0.trans f o1.s;obtain⟨h2,e2,k⟩:=xH (B:=B) (ck:=s.2) (f':=λd aq h2=>match Ev.br t d aq with|some aS=>Ev.exs P' w b aS h2|none=>.bad) (g':=λd aq h2=>match Ev.br t d aq with|some aS=>Ev.xss P' X' w b aS h2|none=>none)
   (λ{v d fr fl af M h S ai} y1 f1 r1=>by
    split at y1
    .rename_i aS e3;obtain⟨gM,b1,b2,b3,b4⟩:=f1.br e3 r1;rw[b1];obtain⟨g',aX,M',h',S',c1,c2,c3⟩:=iB HP HE b y1 b2;exact⟨g',aX,M',h',S',c1,c2,(⟨b2,(cZ.refl b2).tr,b3,b4⟩:cZ M _ h S fr ai M h S aS gM).trans f1 c3⟩
    .cases y1)
   (λ{v d fr c M h S ai} y1 f1 r1=>by
    split at y1
    .rename_i aS e3;obtain⟨gM,b1,b2,b3,b4⟩:=f1.br e3 r1;rw[b1];exact kM b y1 b2
    .cases y1)
   (λd fr h r y1=>by
    split at y1
    .rename_i e3;exact Ev.cX HB b y1
    .cases y1) vs z o2.f q1 (λq hq=>⟨(q2 q hq).1,(q2 q hq).2 rfl⟩)
  exact⟨h2,e2,gr.after o2 k⟩
 |.iW t b,fr,c,M,B,h,S,ai,z,f=>by
  simp only[xs]at z;simp only[Ev.xs];have go:∀(n:Nat) {fr:Fr} {M:Nat->Prop} {h:Hh} {S:Nat->Prop} {ai:Ev.Fr},fq (λaq=>aF P t aq) (λaq=>exs P w b aq) (λaq=>xss P X w b aq) n fr=some c->aT M B h S fr ai->jQ c M h (Ev.fq (λaq h2=>Ev.aF P' t aq h2) (λaq h2=>Ev.exs P' w b aq h2) (λaq h2=>Ev.xss P' X' w b aq h2) n ai h):=λn=>by
   induction n with
   |zero=>intro _ _ _ _ _ z _;cases z
   |succ n ih=>
    intro fr M h S ai z f;simp only[fq]at z;simp only[Ev.fq];split at z
    case h_2=>cases z
    rename_i af y;obtain⟨h1,S1,e1,o1⟩:=fz HP t y f;rw[e1];simp only;split at z
    .rename_i y2;obtain⟨gl,ji,M2,h2,S2,t1,t2,t3⟩:=iB HP HE b y2 o1.f;simp only[fc]at t2;subst t2;rw[t1];obtain⟨h3,e3,k⟩:=ih z t3.f;exact⟨h3,e3,gr.after (o1.s.trans f t3) k⟩
    .rename_i y2;obtain⟨gl,ji,M2,h2,S2,t1,t2,t3⟩:=iB HP HE b y2 o1.f;simp only[fc]at t2;subst t2;rw[t1];obtain⟨h3,e3,k⟩:=ih z t3.f;exact⟨h3,e3,gr.after (o1.s.trans f t3) k⟩
    .cases z
    .obtain⟨h3,e3,k⟩:=kM b z o1.f;rw[Ev.cX HB b e3];exact⟨h3,e3,gr.after o1.s k⟩
  exact go w z f
 |.mK _ _,_,_,_,_,_,_,_,z,_=>nomatch z
 |.tr _ _ _,_,_,_,_,_,_,_,z,_=>nomatch z
theorem kM:∀(s:Ss) {fr:Fr}{c:Nat}{M B:Nat->Prop}{h:Hh}{S:Nat->Prop}{ai:Ev.Fr},xss P X w s fr=some c->aT M B h S fr ai->jQ c M h (Ev.xss P' X' w s ai h)
 |.nil,_,_,_,_,_,_,_,z,_=>nomatch z
 |.cons s ss,fr,c,M,B,h,S,ai,z,f=>by
  simp only[xss]at z;simp only[Ev.xss];split at z
  .rename_i y;obtain⟨gl,ji,M2,h2,S2,t1,t2,t3⟩:=EZ HP HE s y f;simp only[fc]at t2;subst t2;rw[t1];obtain⟨h3,e3,k⟩:=kM ss z t3.f;exact⟨h3,e3,gr.after t3 k⟩
  .cases z
  .obtain⟨h3,e3,k⟩:=Ob s z f;rw[Ev.mR HB s e3];exact⟨h3,e3,k⟩
end
end
theorem rA{h:Hh}{S:Nat->Prop}{B:Nat->Prop}{h0:Hh}{S0:Nat->Prop}:∀{sl:List Sl}{ds:List D}{cs:Fr},sl.length=ds.length->
  (∀(a:Nat) s d,sl[a]?=some s->ds[a]?=some d->kG B B h0 S0 (some s) (some d)/\locked cs a=xB (some s)/\(xB (some s)=true->∃m es l s',d=.ref m/\h[m]?=some (.lst es)/\au h S l es/\cs[a]?=some (some s')/\s'.out=some l))->kj h S sl ds ((cs.take sl.length).filterMap λo=>o.bind Sl.out)
 |[],ds,cs,_,_=>by simp[kj]
 |s :: sl,[],cs,hl,_=>by simp at hl
 |s :: sl,d :: ds,[],hl,q=>by
  have ih:=rA (h:=h) (S:=S) (sl:=sl) (ds:=ds) (cs:=[]) (by simpa using hl) λa s' d' e1 e2=>by
   obtain⟨w1,w2,w3⟩:=q (a+1) s' d' (by simpa using e1) (by simpa using e2);exact⟨w1,by simpa[locked]using w2,λz=>by obtain⟨_,_,_,_,_,_,_,y,_⟩:=w3 z;simp at y⟩
  obtain⟨w1,w2,w3⟩:=q 0 s d (by simp) (by simp);cases s with
  |val v=>simp at ih ⊢;exact⟨d,ds,rfl,ih⟩
  |own l=>exact absurd w1 (by rintro⟨m,es,e,q,_⟩;exact q.2 q.1)
  |bor l=>obtain⟨_,_,_,_,_,_,_,y,_⟩:=w3 rfl;simp at y
  |ro l=>obtain⟨_,_,_,_,_,_,_,y,_⟩:=w3 rfl;simp at y
 |s :: sl,d :: ds,o :: cs,hl,q=>by
  have ih:=rA (h:=h) (S:=S) (sl:=sl) (ds:=ds) (cs:=cs) (by simpa using hl) λa s' d' e1 e2=>by
   obtain⟨w1,w2,w3⟩:=q (a+1) s' d' (by simpa using e1) (by simpa using e2);exact⟨w1,by simpa[locked]using w2,λz=>by simpa using w3 z⟩
  obtain⟨w1,w2,w3⟩:=q 0 s d (by simp) (by simp);cases s with
  |val v=>
   have:o.bind Sl.out=none:=by
    simp[locked]at w2;rcases o with _|s
    .rfl
    .cases s<;>first|rfl|cases w2
   simp only[List.length_cons,List.take_succ_cons,List.filterMap_cons,this];exact⟨d,ds,rfl,ih⟩
  |own l=>exact absurd w1 (by rintro⟨m,es,e,q,_⟩;exact q.2 q.1)
  |bor l=>
   obtain⟨m,es,l',s',a1,a2,a3,a4,a5⟩:=w3 rfl;simp at a4;subst a4;simp only[List.length_cons,List.take_succ_cons,List.filterMap_cons,Option.bind,a5];exact⟨d,ds,l',_,m,es,rfl,rfl,a1,a2,a3,ih⟩
  |ro l=>
   obtain⟨m,es,l',s',a1,a2,a3,a4,a5⟩:=w3 rfl;simp at a4;subst a4;simp only[List.length_cons,List.take_succ_cons,List.filterMap_cons,Option.bind,a5];exact⟨d,ds,l',_,m,es,rfl,rfl,a1,a2,a3,ih⟩
theorem Bf{fn:Fn}{sl:List Sl}{ds:List D}{B:Nat->Prop}{h:Hh}{S:Nat->Prop}(F0:aT B B h S (sl.map some) (ds.map some))(hlen:sl.length=ds.length):aT B B h S (dg fn sl) (Ev.dg fn ds):=by
 unfold dg Ev.dg;have sp:∀(i:Nat) o,(sl.map some++List.replicate (fn.ns - fn.np) none)[i]?=some o->(sl.map some)[i]?=some o\/(sl.length<=i/\o=none):=λi o y=>by
  by_cases hi:i<sl.length
  .rw[List.getElem?_append_left (by simpa using hi)]at y;exact .inl y
  .rw[List.getElem?_append_right (by simpa using hi)]at y;have:=List.mem_of_getElem? y;exact .inr ⟨by omega,(List.mem_replicate.mp this).2⟩
 have lo:∀(i:Nat) p,i<sl.length->(ds.map some++List.replicate (fn.ns - fn.np) none)[i]?=some p->(ds.map some)[i]?=some p:=λi p hi y=>by
  rw[List.getElem?_append_left (by simpa[<-hlen]using hi)]at y;exact y
 refine⟨F0.wS,F0.wM,F0.wB,by simp[hlen],λi o p y1 y2=>?_,λi j o o' m y1 y2 y3 y4 y5 y6=>?_⟩
 .rcases sp i o y1 with y1|⟨hi,rfl⟩
  .have hi:i<sl.length:=by have:=(List.getElem?_eq_some_iff.mp y1).1;simpa using this
   exact F0.sl i o p y1 (lo i p hi y2)
  .rw[List.getElem?_append_right (by simpa[<-hlen]using hi)]at y2;have:=List.mem_of_getElem? y2;exact(List.mem_replicate.mp this).2
 .rcases sp i o y1 with y1|⟨hi,rfl⟩
  .rcases sp j o' y2 with y2|⟨hj,rfl⟩
   .have hi:i<sl.length:=by have:=(List.getElem?_eq_some_iff.mp y1).1;simpa using this
    have hj:j<sl.length:=by have:=(List.getElem?_eq_some_iff.mp y2).1;simpa using this
    exact F0.inj i j o o' m y1 y2 y3 y4 (lo i _ hi y5) (lo j _ hj y6)
   .cases y4
  .cases y3
theorem Ht{F:List Fn}(hF:F.length<=Ev.xo)(w n:Nat):uR (Ev.run F w n):=λf ds h d h' e=>by
 cases n with
 |zero=>cases e
 |succ n=>
  rw[Ev.fK,List.getElem?_eq_none (by omega)]at e;simp only[Ev.lV]at e;rw[if_pos (by omega),Nat.add_sub_cancel]at e;split at e
  .rename_i z;exact Ev.o6 F w _ _ _ _ _ z
  .cases e
theorem LS{X:cC}{X':Ev.cC}(HX:qp X X'){f:Nat}{sl:List Sl}{v:V}{os:List (List V)}(e:lV X f sl=some (v,os)){h:Hh}{S B:Nat->Prop}{ds:List D}(F0:aT B B h S (sl.map some) (ds.map some)) :
  ∃d h' S',Ev.lV X' f ds h=.ok d h'/\Rep h' S' v d/\Tk B h S h' S'/\kj h' S' sl ds os:=by
 unfold lV at e;split at e
 case isFalse=>cases e
 rename_i hk;rw[Option.map_eq_some_iff]at e;obtain⟨c,e1,e2⟩:=e;cases e2;obtain⟨h',e3,k⟩:=HX _ _ _ e1 h S B ds F0;refine⟨.int c,h',S,by simp only[Ev.lV];rw[if_pos hk.1,e3],by simp[Rep],⟨k.len,k.keep,λ_ q=>q,λ_ q=>.inl q⟩,?_⟩;have hlen:sl.length=ds.length:=by have:=F0.len;simpa using this
 have:∀{sl:List Sl} {ds:List D},sl.length=ds.length->sl.all Sl.fQ=true->kj h' S sl ds []:=λ{sl}=>by
  induction sl with
  |nil=>intro ds _ _;rfl
  |cons s sl ih=>
   intro ds hl ha;cases ds with
   |nil=>simp at hl
   |cons d ds=>
    simp only[List.all_cons,Bool.and_eq_true]at ha;cases s with
    |val v=>exact⟨d,ds,rfl,ih (by simpa using hl) ha.2⟩
    |_=>cases ha.1
 exact this hlen hk.2
theorem xJ{F:List Fn}(hF:F.length<=Ev.xo)(w:Nat):∀n,nO (run F w n) (Ev.run F w n)/\qp (cy F w n) (Ev.cy F w n)
 |0=>⟨λf sl v os e=>(nomatch e),λf sl c e=>(nomatch e)⟩
 |n+1=>by
  obtain⟨HP,HX⟩:=xJ hF w n;have HE:=Ht hF w n;have hx:qp (cy F w (n+1)) (Ev.cy F w (n+1)):=λf sl c e h S B ds F0=>by
   rw[iw]at e;rw[Ev.iw];cases z:F[f]? with
   |none=>rw[z]at e;cases e
   |some fn=>
    rw[z]at e;simp only at e ⊢;split at e
    case isFalse=>cases e
    rename_i hl;have hlen:sl.length=ds.length:=by have:=F0.len;simpa using this
    rw[if_pos (by omega)];exact kM HP HE HX (Ev.o6 F w n) fn.body e (Bf F0 hlen)
  refine⟨λf sl v os e h S B ds F0=>?_,hx⟩;rw[fK]at e;cases z:F[f]? with
  |none=>
   rw[z]at e;rw[Ev.fK,z];exact LS hx e F0
  |some fn=>
  rw[z]at e;simp only at e;split at e
  case isFalse=>cases e
  rename_i hl;have hlen:sl.length=ds.length:=by have:=F0.len;simpa using this
  have f1:aT B B h S (dg fn sl) (Ev.dg fn ds):=Bf F0 hlen;have fin:∀{g:Fl} {af:Fr},exs (run F w n) w fn.body (dg fn sl)=.ok g af->∃g' aX M' h' S',Ev.exs (Ev.run F w n) w fn.body (Ev.dg fn ds) h=.ok (g',aX) h'/\fc h' S' g g'/\Tk B h S h' S'/\kj h' S' sl ds (outs fn.np af):=λ{g af} y=>by
   obtain⟨g',aX,M',h',S',c1,c2,c3⟩:=iB HP HE fn.body y f1;refine⟨g',aX,M',h',S',c1,c2,⟨c3.tr.len,λm y1 y2=>c3.tr.keep m y1 y2,c3.tr.sub,λm q=>?_⟩,?_⟩
   .rcases c3.tr.new m q with q|q|q
    .exact .inl q
    .exact .inr q
    .exact absurd q.1 q.2
   .unfold outs;rw[<-hl];refine rA (B:=B) (h0:=h) (S0:=S) hlen λa s d e1 e2=>?_;have ha:a<sl.length:=(List.getElem?_eq_some_iff.mp e1).1;have h0:(dg fn sl)[a]?=some (some s):=by unfold dg;rw[List.getElem?_append_left (by simpa using ha)];simp[e1]
    have hlk:locked af a=xB (some s):=by rw[c3.lk a];unfold locked;rw[h0]
    refine⟨F0.sl a _ _ (by simp[e1]) (by simp[e2]),hlk,λhk=>?_⟩;have hr:=c3.rf a (by unfold locked;rw[h0];exact hk);have hd:(Ev.dg fn ds)[a]?=some (some d):=by unfold Ev.dg;rw[List.getElem?_append_left (by simpa[<-hlen]using ha)];simp[e2]
    rw[hd]at hr;cases y2:af[a]? with
    |none=>unfold locked at hlk;rw[y2]at hlk;rw[<-hlk]at hk;cases hk
    |some o=>
     have sr:=c3.f.sl a _ _ y2 hr;unfold locked at hlk;rw[y2,hk]at hlk;rcases o with _|s'
     .cases hlk
     .cases s' with
      |val v=>cases hlk
      |own l=>cases hlk
      |bor l=>obtain⟨m,es,e,_,k1,k2⟩:=sr;cases e;exact⟨m,es,l,_,rfl,k1,k2,rfl,rfl⟩
      |ro l=>obtain⟨m,es,e,_,k1,k2⟩:=sr;cases e;exact⟨m,es,l,_,rfl,k1,k2,rfl,rfl⟩
  simp only[Ev.fK,z];have hl':ds.length=fn.np:=by omega
  rw[if_pos hl'];split at e
  .rename_i v' af y;cases e;obtain⟨g',aX,M',h',S',c1,c2,c3,c4⟩:=fin y;simp only[fc]at c2;obtain⟨d,rfl,c2⟩:=c2;exact⟨d,h',S',by simp only[Ev.endOf,c1,Ev.ao],c2,c3,c4⟩
  .rename_i af y;cases e;obtain⟨g',aX,M',h',S',c1,c2,c3,c4⟩:=fin y;simp only[fc]at c2;subst c2;exact⟨.aQ,h',S',by simp only[Ev.endOf,c1,Ev.ao],rfl,c3,c4⟩
  .cases e
end Pv
namespace Pv
open Ev (D O Hh Fn)
theorem Hu{F:List Fn}{w n f:Nat}{ns:List Int}(e:run F w n f [.val (.bS (ns.map V.int))]=some (.bl true,[]))(hF:F.length<=1000:=by decide):∃h',Ev.run F w n f [.ref 0] [.bS (ns.map D.int)]=.ok (.bl true) h':=by
 have F0:aT (λ_=>False) (λ_=>False) [O.bS (ns.map D.int)] (λm=>m=0) ([Sl.val (.bS (ns.map V.int))].map some) ([D.ref 0].map some):=by
  refine⟨λm q=>⟨by subst q;simp,id,id⟩,λm q=>q.elim,λm q=>q.elim,rfl,λi o p y1 y2=>?_,λi j o o' m y1 y2 y3 y4 y5 y6=>?_⟩
  .cases i with
   |zero=>
    simp at y1 y2;subst y1 y2;refine⟨.ref 0,rfl,?_⟩;simp only[Rep];exact⟨0,_,rfl,rfl,rfl,au.map (f:=V.int) (g:=D.int) (λ_=>by simp[Rep]) ns⟩
   |succ i=>simp at y1
  .cases i with
   |zero=>simp at y1;subst y1;cases y3
   |succ i=>simp at y1
 obtain⟨d,h',S',a,b,_,_⟩:=(xJ hF w n).1 f _ _ _ e _ _ _ _ F0;simp only[Rep]at b;subst b;exact⟨h',a⟩
end Pv
namespace Pv
open Ev (D bw bq TY BI ME T E Es Eo It S Ss Fn big deep b2i rep bV dM bB aO cut b8 dz slots)
theorem cS{n:Nat}(h:n<=100000):n<=big:=Nat.le_trans h (by decide)
section
variable{i j:Int}{a b:List Nat}{x y:List V}{d e:V}{m n:Nat}{k l:Bool}
theorem iZ(h:x.length<=big):e8 x=some (.lst x):=by simp[e8,h]
theorem kN(h:x.length<=big):jM x=some (.tup x):=by simp[jM,h]
@[simp] theorem gF:e8 []=some (.lst []):=iZ (cS (by simp))
@[simp] theorem tP:jM []=some (.tup []):=kN (cS (by simp))
@[simp] theorem Oc{a}:e8 [a]=some (.lst [a]):=iZ (cS (by simp))
@[simp] theorem iC{a}:jM [a]=some (.tup [a]):=kN (cS (by simp))
@[simp] theorem Od{a b}:e8 [a,b]=some (.lst [a,b]):=iZ (cS (by simp))
@[simp] theorem bP{a b}:jM [a,b]=some (.tup [a,b]):=kN (cS (by simp))
@[simp] theorem Oe{a b c}:jM [a,b,c]=some (.tup [a,b,c]):=kN (cS (by simp))
@[simp] theorem b9:bQ .add (.int i) (.int j)=some (.int (i+j)):=nd rfl
theorem lE(h:a.length+b.length<=100000):bQ .add (.str a) (.str b)=some (.str (a++b)):=by delta bQ;dsimp only;simp[cS h]
theorem pF(h:x.length+y.length<=100000):bQ .add (.tup x) (.tup y)=some (.tup (x++y)):=by delta bQ;dsimp only;simp[cS h]
@[simp] theorem uT:bQ .sub (.int i) (.int j)=some (.int (i - j)):=nd rfl
@[simp] theorem pG:bQ .mul (.int i) (.int j)=if bV i j then some (.int (i*j))else none:=nd rfl
theorem C5(h0:0<=j)(h1:j<=1000)(h2:a.length<=1000):bQ .mul (.str a) (.int j)=some (.str (rep j.toNat a)):=by delta bQ;dsimp only;simp[h0,h1,h2]
@[simp] theorem C6:bQ .fdiv (.int i) (.int j)=if 0<j/\j<1073741824 then some (.int (i / j))else none:=nd rfl
@[simp] theorem Hv:bQ .mod (.int i) (.int j)=if 0<j then some (.int (i % j))else none:=nd rfl
@[simp] theorem LU:cop .eq d e=dR deep d e:=nd rfl
@[simp] theorem ng:cop .ne d e=(dR deep d e).map (!·):=nd rfl
@[simp] theorem LV:dR (n+1) (.int i) (.int j)=some (decide (i=j)):=by show some (i==j)=_;by_cases h:i=j<;>simp[h]
@[simp] theorem Bg:dR (n+1) (.str a) (.str b)=some (decide (a=b)):=by show some (a==b)=_;by_cases h:a=b<;>simp[h]
@[simp] theorem T5:dR (n+1) (.str a) (.int i)=some false:=nd rfl
@[simp] theorem T6:dR (n+1) (.int i) (.str a)=some false:=nd rfl
@[simp] theorem T7:dR (n+1) (.tup x) (.tup y)=cj (dR n) x y:=nd rfl
@[simp] theorem xN:dR deep (.int i) (.int j)=some (decide (i=j)):=LV
@[simp] theorem xO:dR deep (.str a) (.str b)=some (decide (a=b)):=Bg
@[simp] theorem nQ:dR deep (.lst x) (.lst y)=cj (dR (18+1)) x y:=nd rfl
@[simp] theorem rB{f:V->V->Option Bool}:cj f [] []=some true:=nd rfl
@[simp] theorem T8{f:V->V->Option Bool}:cj f [] (d :: x)=some false:=nd rfl
@[simp] theorem T9{f:V->V->Option Bool}:cj f (d :: x) []=some false:=nd rfl
@[simp] theorem uU{f:V->V->Option Bool}:cj f (d :: x) (e :: y)=(f d e).bind λb=>(cj f x y).bind λc=>some (b&&c):=nd rfl
theorem rC{α:Type}[DecidableEq α]{f:V->V->Option Bool}{g:α->V}(h:∀a b,f (g a) (g b)=some (decide (a=b))):∀l m:List α,cj f (l.map g) (m.map g)=some (decide (l=m))
 |[],[]=>by simp
 |[],_ :: _=>by simp
 |_ :: _,[]=>by simp
 |a :: l,b :: m=>by simp[h,rC h l m]
@[simp] theorem rE:eY (.str a) (.int i)=(bB a i).map λc=>.str [c]:=nd rfl
@[simp] theorem Hw:eY (.lst x) (.int i)=bB x i:=nd rfl
@[simp] theorem iM{lo hi:Option Int}:gR (.str a) lo hi=some (.str (cut a lo hi)):=nd rfl
theorem len_str(h:a.length<=100000):eL .len [.str a]=some (.int a.length):=by delta eL;dsimp only;simp[cS h]
@[simp] theorem xP:eL .len [.bS x]=some (.int x.length):=nd rfl
@[simp] theorem Hx:eL .sum [.lst x]=(intsOf x).map λis=>.int is.sum:=nd rfl
@[simp] theorem LW:eL .min [.int i,.int j]=some (.int (if j<i then j else i)):=nd rfl
@[simp] theorem xQ:toT (.lst x)=jM x:=nd rfl
theorem LX(h0:0<=j)(h1:j<=100000):fk [.int j]=some (range 0 j.toNat):=by
 simp only[fk];rw[if_pos ⟨by omega,by omega⟩]
theorem zc{α:Type}(g:α->Int)(l:List α):intsOf (l.map λx=>.int (g x))=some (l.map g):=by induction l<;>simp[intsOf, *]
theorem qq{α:Type}(g:α->List Nat)(l:List α):strsOf (l.map λx=>.str (g x))=some (l.map g):=by induction l<;>simp[strsOf, *]
theorem sV:∀l:List (List Nat),b8 [] l=l.flatten
 |[]=>rfl
 |[s]=>by simp[b8]
 |s :: t :: r=>by simp[b8,sV (t :: r)]
@[simp] theorem Ua:truthy (.bl k)=k:=nd rfl
@[simp] theorem Sg:truthy (.lst x) = !x.isEmpty:=nd rfl
theorem Of{l:List (List Nat)}(h:l.flatten.length<=100000):eZ .join (.str []) [.lst (l.map V.str)]=some (.str l.flatten):=by
 have hs:=qq (λx=>x) l;have:(l.map (·.length)).sum<=big:=cS (by rw[<-List.length_flatten];exact h);simp only[List.map_id']at hs;have hs':strsOf (l.map V.str)=some l:=by simpa using qq (λx=>x) l
 delta eZ;dsimp only;simp[sR,hs',sV,this]
end
theorem Bh{α:Type}{f:V->Option (Option V)}(e:α->V)(g:α->V)(l:List α)(h:∀a∈l,f (e a)=some (some (g a))):cQ f (l.map e)=some (l.map g):=by
 induction l with
 |nil=>rfl
 |cons a l ih=>simp only[List.map_cons,cQ,h a (by simp),ih λu hu=>h u (by simp[hu]),Option.bind];rfl
theorem uV{α:Type}{f:V->Option (Option V)}(e:α->V)(p:α->Bool)(g:α->V)(l:List α)(h:∀a∈l,f (e a)=some (if p a then some (g a)else none)):cQ f (l.map e)=some ((l.filter p).map g):=by
 induction l with
 |nil=>rfl
 |cons a l ih=>
  simp only[List.map_cons,cQ,h a (by simp),ih λu hu=>h u (by simp[hu]),Option.bind];cases z:p a<;>simp[z]
noncomputable def Wp{α:Type}(r:R α)(Q:α->Fr->Prop):Prop:=∃a h,r=.ok a h/\Q a h
section
variable{α β:Type}{Q Q':α->Fr->Prop}
@[simp] theorem qs(a:α)(h:Fr):Wp (.ok a h) Q=Q a h:=propext ⟨λ⟨_,_,e,q⟩=>by cases e;exact q,λq=>⟨_,_,rfl,q⟩⟩
@[simp] theorem Ub:Wp (.bad:R α) Q=False:=propext ⟨λq=>(by obtain⟨_,_,e,_⟩:=q;cases e),False.elim⟩
@[simp] theorem wp_bind(r:R β)(f:β->Fr->R α):Wp (r.bind f) Q=Wp r λa h=>Wp (f a h) Q:=by cases r<;>simp
theorem Wp.mono{r:R α}(h:Wp r Q)(f:∀a h,Q a h->Q' a h):Wp r Q':=by
 obtain⟨a,h',e,q⟩:=h;exact⟨a,h',e,f a h' q⟩
end
noncomputable def fl(I Q:Fr->Prop)(X:V->Fr->Prop):Fl->Fr->Prop
 |.nx,fr=>I fr
 |.ct,fr=>I fr
 |.bk,fr=>Q fr
 |.ret v,fr=>X v fr
section
variable{I J:Fr->Prop}{X:V->Fr->Prop}{fr:Fr}{v:V}
@[simp] theorem gf:fl I J X .nx fr=I fr:=nd rfl
end
theorem iN{α:Type}{e:α->V}{f:V->Fr->R Fl}{Q:Fl->Fr->Prop}(I:List α->List α->Fr->Prop)(turn:∀p a l fr,I p (a :: l) fr->Wp (f (e a) fr) (fl (I (p++[a]) l) (Q .nx) λv=>Q (.ret v)))(fin:∀p fr,I p [] fr->Q .nx fr):∀(l p:List α) (fr:Fr),I p l fr->Wp (forL f (l.map e) fr) Q
 |[],p,fr,i=>by simp only[List.map_nil,forL,qs];exact fin p fr i
 |a :: l,p,fr,i=>by
  simp only[List.map_cons,forL,wp_bind];refine(turn p a l fr i).mono λg h2 q=>?_;cases g with
  |nx=>exact iN I turn fin l _ h2 q
  |ct=>exact iN I turn fin l _ h2 q
  |bk=>exact(qs _ _).mpr q
  |ret x=>exact(qs _ _).mpr q
theorem xR{f:V->Fr->R Fl}{Q:Fl->Fr->Prop}{lo:Int}{N:Nat}(I:Nat->Fr->Prop)(turn:∀(k:Nat) fr,k<N->I k fr->Wp (f (.int (lo+(k:Nat))) fr) (fl (I (k+1)) (Q .nx) λv=>Q (.ret v)))(fin:∀fr,I N fr->Q .nx fr){fr:Fr}(i:I 0 fr):Wp (forL f (range lo N) fr) Q:=by
 have h:=iN (e:=λ(k:Nat)=>V.int (lo+k)) (f:=f) (Q:=Q) (λp l fr=>∃k,k<=N/\p=List.range k/\p++l=List.range N/\I k fr)
  (λp a l fr ⟨k,hk,hp,hl,q⟩=>by
   subst hp;have hlen:=congrArg List.length hl;simp at hlen;have ha:a=k:=by
    have:=congrArg (·[k]?) hl;simp[List.getElem?_append_right]at this;rw[List.getElem?_range (by omega)]at this;simpa using this
   subst ha;refine(turn a fr (by omega) q).mono λg h2 z=>?_;cases g with
   |nx=>exact⟨a+1,by omega,by simp[List.range_succ],by simpa using hl,z⟩
   |ct=>exact⟨a+1,by omega,by simp[List.range_succ],by simpa using hl,z⟩
   |bk=>exact z
   |ret x=>exact z)
  (λp fr ⟨k,hk,hp,hl,q⟩=>by
   subst hp;have hlen:=congrArg List.length hl;simp at hlen;subst hlen;exact fin fr q) (List.range N) [] fr ⟨0,Nat.zero_le _,rfl,by simp,i⟩
 exact h
theorem uW{t:Fr->R Bool}{f:Fr->R Fl}{Q:Fl->Fr->Prop}(I:Nat->Fr->Prop)(turn:∀k fr,I k fr->Wp (t fr) λb af=>if b then Wp (f af) (fl (λaq=>∃j,j<k/\I j aq) (Q .nx) λv=>Q (.ret v))else Q .nx af):∀(n k:Nat) (fr:Fr),k<n->I k fr->Wp (di t f n fr) Q
 |0,k,fr,hk,_=>by omega
 |n+1,k,fr,hk,i=>by
  simp only[di,wp_bind];refine(turn k fr i).mono λb af q=>?_;cases b with
  |false=>simpa using q
  |true=>
   simp only[if_true,wp_bind]at q ⊢;refine q.mono λg aq z=>?_;cases g with
   |nx=>obtain⟨j,hj,z⟩:=z;exact uW I turn n j aq (by omega) z
   |ct=>obtain⟨j,hj,z⟩:=z;exact uW I turn n j aq (by omega) z
   |bk=>exact(qs _ _).mpr z
   |ret x=>exact(qs _ _).mpr z
noncomputable def fin(fn:Fn)(ds:List Sl):R Fl->Option (V×List (List V))
 |.ok (.ret v) fr=>some (v,outs fn.np fr)
 |.ok .nx fr=>some (.aQ,outs fn.np fr)
 |_=>AY fn ds
@[simp] theorem Hy{fn:Fn}{ds:List Sl}{v:V}{fr:Fr}:fin fn ds (.ok (.ret v) fr)=some (v,outs fn.np fr):=nd rfl
theorem run_eq{F:List Fn}{w n f:Nat}{ds:List Sl}{fn:Fn}(hf:F[f]?=some fn)(hl:ds.length=fn.np):run F w (n+1) f ds=fin fn ds (exs (run F w n) w fn.body (dg fn ds)):=by
 simp only[fK,hf,hl,if_true];cases exs (run F w n) w fn.body (dg fn ds)with
 |bad=>rfl
 |ok g fr=>cases g<;>rfl
theorem cg{F:List Fn}{w n f:Nat}{ds:List Sl}{fn:Fn}{v:V}{os:List (List V)}(hf:F[f]?=some fn)(hl:ds.length=fn.np)(q:Wp (exs (run F w n) w fn.body (dg fn ds)) λg fr=>g=.ret v/\outs fn.np fr=os):run F w (n+1) f ds=some (v,os):=by
 rw[run_eq hf hl];obtain⟨g,fr,e,rfl,rfl⟩:=q;rw[e];rfl
section
variable{P:aG}{w:Nat}{fr:Fr}{k:Bool}{a b c:E}{es:Es}{ss sa sb:Ss}{st:S}{lo hi:Eo}{it:It}
@[simp] theorem Rj{d:D}:ev P k (.c d) fr=R.of (ofD d) fr:=by rw[ev]
@[simp] theorem Rk{i:Nat}:ev P k (.v i) fr=R.of (mY k fr i) fr:=by rw[ev]
@[simp] theorem LY:ev P k (.tup es) fr=(bR P false es fr).bind λds af=>R.of (jM ds) af:=by rw[ev]
@[simp] theorem LZ:ev P k (.lst es) fr=(bR P false es fr).bind λds af=>R.of (e8 ds) af:=by rw[ev]
@[simp] theorem L0{o:bw}:ev P k (.bin o a b) fr=(ev P (kf a (bY b)) a fr).bind λx af=>(ev P true b af).bind λy aq=>R.of (bQ o x y) aq:=by rw[ev]
@[simp] theorem L1{o:bq}:ev P k (.cmp o a b) fr=(ev P (kf a (bY b)) a fr).bind λx af=>(ev P true b af).bind λy aq=>R.of ((cop o x y).map .bl) aq:=by rw[ev]
noncomputable def Uc:V->Fr->R V:=λx h1=>match x with
 |.bl b=>.ok (.bl (!b)) h1
 |_=>.bad
@[simp] theorem Og:ev P k (.nt a) fr=(ev P true a fr).bind Uc:=by rw[ev];rfl
noncomputable def Rl:V->Fr->R V:=λx h1=>match x with
 |.int i=>.ok (.int (-i)) h1
 |_=>.bad
@[simp] theorem L3:ev P k (.neg a) fr=(ev P true a fr).bind Rl:=by rw[ev];rfl
@[simp] theorem L4:ev P k (.gk a b c) fr=(aF P a fr).bind λt af=>if t then ev P k b af else ev P k c af:=by rw[ev]
@[simp] theorem Oh:ev P k (.ix a b) fr=(ev P (kf a (bY b)) a fr).bind λx af=>(ev P true b af).bind λy aq=>R.of (eY x y) aq:=by rw[ev]
@[simp] theorem Oi:ev P k (.sl a lo hi) fr=(ev P (kf a (ki lo++ki hi)) a fr).bind λx af=>(fJ P lo af).bind λl aq=>(fJ P hi aq).bind λu aS=>R.of (gR x l u) aS:=by rw[ev]
@[simp] theorem Oj{f:Nat}:ev P k (.cl f es) fr=(dS P es fr).bind λas af=>dO P f as af:=by rw[ev]
@[simp] theorem Ol{g:BI}:ev P k (.bi g es) fr=(bR P true es fr).bind λds af=>R.of (eL g ds) af:=by rw[ev]
noncomputable def C7(m:ME)(i:Nat):List V->Fr->R V:=λds af=>match af[i]? with
 |some (some (.own l))=>match jY m l ds with
  |some (v,l')=>.ok v (af.set i (some (.own l')))
  |none=>.bad
 |some (some (.bor l))=>match jY m l ds with
  |some (v,l')=>.ok v (af.set i (some (.bor l')))
  |none=>.bad
 |_=>.bad
theorem L5{m:ME}{i:Nat}(hm:iA m=true):ev P k (.me m (.v i) es) fr=if (lent fr i).isSome then (bR P (xq m) es fr).bind (C7 m i)else .bad:=by
 rw[ev,if_pos hm];unfold fQ;cases z:(lent fr i).isSome<;>simp[z]<;>rfl
theorem L6{m:ME}(hm:iA m=false):ev P k (.me m a es) fr=(ev P (kf a (fE es)) a fr).bind λx af=>(bR P true es af).bind λds aq=>R.of (eZ m x ds) aq:=by rw[ev,hm];rfl
noncomputable def lF(P:aG)(elt:E)(t:T)(cond:Eo)(fr:Fr):V->Option (Option V):=λd=>match br t d (sS fr)with
 |none=>none
 |some aq=>match iu P cond aq with
  |.ok c _=>if c then (match ev P false elt aq with|.ok x _=>some (some x)|.bad=>none)else some none
  |.bad=>none
@[simp] theorem qW{elt:E}{t:T}{cond:Eo}:ev P k (.comp elt t it cond) fr=(cK P true it fr).bind λs af=>if undef t af then R.of ((cQ (lF P elt t cond af) s).bind e8) af else .bad:=by rw[ev];rfl
@[simp] theorem L7:ev P k (.gQ it) fr=(cK P true it fr).bind λs af=>R.of (e8 s) af:=by rw[ev]
@[simp] theorem Hz{kvs:List (D×D)}:ev P k (.je kvs a) fr=(ev P true a fr).bind λx af=>R.of (ir x kvs) af:=by rw[ev]
@[simp] theorem L8:ev P k (.iG a) fr=(ev P true a fr).bind λx af=>R.of (toT x) af:=by rw[ev]
@[simp] theorem HA:bR P k .nil fr=.ok [] fr:=by rw[bR]
@[simp] theorem C8:bR P k (.cons a es) fr=(ev P (k&&kf a (fE es)) a fr).bind λd af=>(bR P k es af).bind λds aq=>.ok (d :: ds) aq:=by rw[bR]
@[simp] theorem HC:dS P .nil fr=.ok [] fr:=by rw[dS]
noncomputable def zd(P:aG)(a:E)(es:Es)(fr:Fr):Option Nat->R (List (Nat ⊕ V))
 |some i=>(dS P es fr).bind λr af=>.ok (.inl i :: r) af
 |none=>(ev P false a fr).bind λd af=>(dS P es af).bind λr aq=>.ok (.inr d :: r) aq
@[simp] theorem ze{i:Nat}:zd P a es fr (some i)=(dS P es fr).bind λr af=>.ok (.inl i :: r) af:=nd rfl
@[simp] theorem zf:zd P a es fr none=(ev P false a fr).bind λd af=>(dS P es af).bind λr aq=>.ok (.inr d :: r) aq:=nd rfl
@[simp] theorem uX:dS P (.cons a es) fr=zd P a es fr (fQ fr a):=by rw[dS];cases fQ fr a<;>rfl
@[simp] theorem Ma:fJ P .no fr=.ok none fr:=by rw[fJ]
@[simp] theorem HD:fJ P (.yes a) fr=(ev P true a fr).bind λd af=>R.of ((intOf d).map some) af:=by rw[fJ]
@[simp] theorem Mb:iu P .no fr=.ok true fr:=by rw[iu]
@[simp] theorem HF:iu P (.yes a) fr=aF P a fr:=by rw[iu]
@[simp] theorem Bj:aF P (.an a b) fr=(aF P a fr).bind λk af=>if k then aF P b af else .ok false af:=by rw[aF]
@[simp] theorem xS:aF P (.orr a b) fr=(aF P a fr).bind λk af=>if k then .ok true af else aF P b af:=by rw[aF]
@[simp] theorem Mc:aF P (.nt a) fr=(aF P a fr).bind λk af=>.ok (!k) af:=by rw[aF]
noncomputable def Me:V->Fr->R Bool:=λx af=>.ok (truthy x) af
@[simp] theorem HG{x:V}:Me x fr=.ok (truthy x) fr:=nd rfl
@[simp] theorem HH:cK P k (.seq a) fr=(src k fr a (ev P k a fr)).bind λx af=>R.of (gc x) af:=by rw[cK]
@[simp] theorem HJ:cK P k (.g8 es) fr=(bR P true es fr).bind λds af=>R.of (fk ds) af:=by rw[cK]
@[simp] theorem HK:cK P k (.rev a) fr=(ev P true a fr).bind λx af=>R.of ((yZ x).map λs=>s.reverse) af:=by rw[cK]
noncomputable def Mf(i:Nat)(af:Fr):V->R Fl
 |.lst l=>(R.of (put af i (.own l)) af).bind λaq _=>.ok .nx aq
 |_=>.bad
@[simp] theorem C9{i:Nat}{l:List V}:Mf i fr (.lst l)=(R.of (put fr i (.own l)) fr).bind λaq _=>.ok .nx aq:=nd rfl
@[simp] theorem Bk{i:Nat}:ex P w (.set i a) fr=(ev P false a fr).bind λx af=>if isNew a then Mf i af x else (R.of (put af i (.val x)) af).bind λaq _=>.ok .nx aq:=by
 rw[ex];rfl
@[simp] theorem Mg:ex P w (.exp a) fr=(ev P true a fr).bind λ_ af=>.ok .nx af:=by rw[ex]
@[simp] theorem Mh:ex P w (.ret a) fr=(ev P false a (gD fr)).bind λx af=>.ok (.ret x) af:=by rw[ex]
@[simp] theorem Mi:ex P w (.iff a sa sb) fr=(aF P a fr).bind λk af=>if k then exs P w sa af else exs P w sb af:=by rw[ex]
noncomputable def turnF(P:aG)(w:Nat)(t:T)(b:Ss):V->Fr->R Fl:=λd aq=>match br t d aq with
 |some aS=>exs P w b aS
 |none=>.bad
@[simp] theorem um{t:T}:ex P w (.for t it ss) fr=(cK P false it (nL (itv it) fr)).bind λs af=>forL (turnF P w t ss) s af:=by rw[ex];rfl
@[simp] theorem Mj:ex P w (.iW a ss) fr=di (λaq=>aF P a aq) (λaq=>exs P w ss aq) w fr:=by rw[ex]
@[simp] theorem HL:exs P w .nil fr=.ok .nx fr:=by rw[exs]
noncomputable def Om(P:aG)(w:Nat)(ss:Ss):Fl->Fr->R Fl:=λp h1=>match p with
 |.nx=>exs P w ss h1
 |p=>.ok p h1
@[simp] theorem Dc:exs P w (.cons st ss) fr=(ex P w st fr).bind (Om P w ss):=by rw[exs];rfl
end
theorem gW{P:aG}{f:Nat}{vs:List V}{fr:Fr}{v:V}(h:P f (vs.map .val)=some (v,[])):dO P f (vs.map .inr) fr=.ok v fr:=by
 have h1:∀vs:List V,bH (vs.map .inr)=[]:=λvs=>by induction vs<;>simp[bH, *]
 have h2:∀vs:List V,args fr (vs.map .inr)=some (vs.map .val):=λvs=>by induction vs<;>simp[args, *]
 simp[dO,h1,h2,h,back]
section
variable{P:aG}{f:Nat}{fr:Fr}{a b c d v:V}
theorem cT(h:P f [.val a]=some (v,[])):dO P f [.inr a] fr=.ok v fr:=gW (vs:=[a]) h
theorem call2(h:P f [.val a,.val b]=some (v,[])):dO P f [.inr a,.inr b] fr=.ok v fr:=gW (vs:=[a,b]) h
theorem gg(h:P f [.val a,.val b,.val c]=some (v,[])):dO P f [.inr a,.inr b,.inr c] fr=.ok v fr:=gW (vs:=[a,b,c]) h
theorem Oo(h:P f [.val a,.val b,.val c,.val d]=some (v,[])):dO P f [.inr a,.inr b,.inr c,.inr d] fr=.ok v fr:=gW (vs:=[a,b,c,d]) h
end
end Pv
namespace Pv
open Ev (D bw bq TY BI ME T E Es Eo It S Ss Fn big deep b2i rep bV dM bB aO cut b8 dz slots)
section
variable{fr:Fr}{i j:Nat}{k:Bool}{s:Sl}{v u:V}{l:List V}{o:Option Sl}
noncomputable def UJ(k:Bool):Option (Option Sl)->Option V
 |some (some (.val v))=>some v
 |some (some (.own l))=>if k then some (.lst l)else none
 |some (some (.bor l))=>if k then some (.lst l)else none
 |some (some (.ro l))=>if k then some (.lst l)else none
 |_=>none
@[simp] theorem Oq{r:R V}:src k fr (.v i) r=R.of (y9 k fr i) fr:=nd rfl
noncomputable def Ml:Option (Option Sl)->Option Sl
 |some (some s)=>s.lend
 |_=>none
@[simp] theorem HM:lent fr i=Ml fr[i]?:=by unfold lent Ml;split<;>simp_all
@[simp] theorem Sh:Ml (some (some (.own l)))=some (.bor l):=nd rfl
noncomputable def Mm(fr:Fr)(i:Nat)(s:Sl):Option (Option Sl)->Option Fr
 |some (some (.bor _))=>none
 |some (some (.ro _))=>none
 |_=>some (fr.set i (some s))
@[simp] theorem Mn:put fr i s=Mm fr i s fr[i]?:=by unfold put Mm;split<;>simp_all
@[simp] theorem zg{l:List Nat}{x:List V}:br (.many l) (.tup x) fr=cI l x fr:=nd rfl
@[simp] theorem zh:cI [] [] fr=some fr:=nd rfl
@[simp] theorem vX{l:List Nat}{x:List V}:cI (i :: l) (v :: x) fr=(put fr i (.val v)).bind (cI l x):=nd rfl
noncomputable def gm(m:ME)(i:Nat)(ds:List V)(fr:Fr):Option (Option Sl)->R V
 |some (some (.own l))=>match jY m l ds with
  |some (v,l')=>.ok v (fr.set i (some (.own l')))
  |none=>.bad
 |some (some (.bor l))=>match jY m l ds with
  |some (v,l')=>.ok v (fr.set i (some (.bor l')))
  |none=>.bad
 |_=>.bad
@[simp] theorem HN{m:ME}{ds:List V}:C7 m i ds fr=gm m i ds fr fr[i]?:=by unfold C7 gm;split<;>simp_all<;>rfl
theorem kO{d:V}(h:l.length<100000):gm .append i [d] fr (some (some (.own l)))=.ok .aQ (fr.set i (some (.own (l++[d])))):=by
 simp[gm,jY,Nat.lt_of_lt_of_le h (show 100000<=big by decide)]
theorem HQ{d:V}(h:l.length<100000):gm .append i [d] fr (some (some (.bor l)))=.ok .aQ (fr.set i (some (.bor (l++[d])))):=by
 simp[gm,jY,Nat.lt_of_lt_of_le h (show 100000<=big by decide)]
theorem xT{d:List V}(h:l.length+d.length<=100000):gm .extend i [.lst d] fr (some (some (.own l)))=.ok .aQ (fr.set i (some (.own (l++d)))):=by
 simp[gm,jY,cS h]
theorem kP:gm .pop i [] fr (some (some (.own (l++[v]))))=.ok v (fr.set i (some (.own l))):=by
 simp[gm,jY]
theorem HS:gm .pop i [] fr (some (some (.bor (l++[v]))))=.ok v (fr.set i (some (.bor l))):=by
 simp[gm,jY]
end
noncomputable def vo(o:Option Sl):Prop:=o=none\/∃y,o=some (.val y)
theorem vo.none:vo none:=.inl rfl
theorem vo.val{v:V}:vo (some (.val v)):=.inr ⟨v,rfl⟩
theorem Mp{fr:Fr}{i:Nat}{s:Sl}{b:Option Sl}(h:vo b):Mm fr i s (some b)=some (fr.set i (some s)):=by rcases h with rfl|⟨y,rfl⟩<;>rfl
theorem ek{b:Option Sl}(h:vo b):b.map Sl.fP=b:=by rcases h with rfl|⟨y,rfl⟩<;>rfl
noncomputable def Ot(f:V->Fr->R Fl)(ds:List V):Fl->Fr->R Fl:=λp af=>match p with
 |.nx=>forL f ds af
 |.ct=>forL f ds af
 |.bk=>.ok .nx af
 |.ret x=>.ok (.ret x) af
section
variable{f:V->Fr->R Fl}{ds:List V}{d x:V}{fr:Fr}
@[simp] theorem sC:forL f (d :: ds) fr=(f d fr).bind (Ot f ds):=nd rfl
end
section
variable{a b c:E}{es:Es}{lo hi:Eo}{it:It}{l:List Nat}
end
theorem uY{α:Type}{l:List α}{i:Int}(h0:0<=i):bB l i=l[i.toNat]?:=by
 unfold bB dM;rw[if_pos h0];split
 .rfl
 .rw[List.getElem?_eq_none (by omega)];rfl
@[simp] theorem wC{α:Type}{l:List α}{n:Nat}:bB l (n:Int)=l[n]?:=by rw[uY (by omega)];simp
theorem uZ{α:Type}{l:List α}:bB l (-1:Int)=l.getLast?:=by
 unfold bB dM;cases l with
 |nil=>rfl
 |cons a l=>
  have h1:¬ (0:Int)<=-1:=by omega
  have h2:-(((a :: l).length:Nat):Int)<=-1:=by simp;omega
  rw[if_neg h1,if_pos h2,List.getLast?_eq_getElem?];simp only[Option.bind]
  congr 1
  simp;omega
noncomputable def tQ:Fn:=⟨2,2,(.cons (.iff (.cmp .eq (.v 0) (.lst .nil)) (.cons (.ret (.bin .mul (.c (.int 7)) (.v 1))) .nil) .nil) (.cons (.ret (.bin .add (.ix (.v 0) (.bin .mod (.v 1) (.bi .len (.cons (.v 0) .nil)))) (.bin .mul (.c (.int 6553)) (.bin .fdiv (.v 1) (.bi .len (.cons (.v 0) .nil)))))) .nil))⟩
noncomputable def u0(c:Nat):Fn:=⟨3,4,(.cons (.set 3 (.bin .mod (.bin .add (.bin .mul (.bin .mod (.cl c (.cons (.v 0) (.cons (.v 1) .nil))) (.c (.int 2147483563))) (.c (.int 69069))) (.bin .mul (.c (.int 104723)) (.bin .add (.v 1) (.c (.int 1))))) (.c (.int 2147483563)))) (.cons (.set 3 (.bin .mod (.bin .add (.bin .mul (.v 3) (.v 3)) (.bin .fdiv (.v 3) (.c (.int 3)))) (.c (.int 2147483399)))) (.cons (.ret (.bin .mod (.bin .fdiv (.bin .mod (.bin .add (.bin .mul (.v 3) (.v 3)) (.bin .fdiv (.v 3) (.c (.int 7)))) (.c (.int 2147483647))) (.c (.int 11))) (.v 2))) .nil)))⟩
noncomputable def tR(ns:List Int)(k:Int):Int:=if ns=[]then 7*k else (ns[(k % ns.length).toNat]?.getD 0)+6553*(k / ns.length)
noncomputable def cG(ns:List Int)(k many:Int):Int:=
 let c:=(tR ns k % 2147483563*69069+104723*(k+1)) % 2147483563
 let c:=(c*c+c / 3) % 2147483399
 (c*c+c / 7) % 2147483647 / 11 % many
theorem jR(ns:List Int)(k:Int){many:Int}(h:0<many):0<=cG ns k many:=Int.emod_nonneg _ (by omega)
theorem jS(ns:List Int)(k:Int){many:Int}(h:0<many):cG ns k many<many:=Int.emod_lt_of_pos _ h
noncomputable def fM(ns:List Int):V:=.bS (ns.map V.int)
theorem HU(ns:List Int):cj (dR (18+1)) (ns.map V.int) []=some (decide (ns=[])):=by cases ns<;>simp
end Pv
namespace Pv
open Ev (D bw bq TY BI ME T E Es Eo It S Ss Fn big deep b2i rep bV dM bB aO cut b8 dz slots)
section
variable{P:aG}{w:Nat}{fr af aq aS fO:Fr}{k b:Bool}{a e c:E}{es:Es}{ss sa sb:Ss}{st:S}{lo hi:Eo}{it:It}{v x y z:V}{vs:List V}{i:Nat}{l:List V}{Q:Fl->Fr->Prop}
theorem aI{d:D}(h:ofD d=some v):ev P k (.c d) fr=.ok v fr:=by rw[Rj,h];rfl
theorem az(h:mY k fr i=some v):ev P k (.v i) fr=.ok v fr:=by rw[Rk,h];rfl
theorem aU(h:bR P false es fr=.ok vs af)(h2:jM vs=some v):ev P k (.tup es) fr=.ok v af:=by rw[LY,h,ao,h2];rfl
theorem dG(h:bR P false es fr=.ok vs af)(h2:e8 vs=some v):ev P k (.lst es) fr=.ok v af:=by rw[LZ,h,ao,h2];rfl
theorem bu{o:bw}(h:ev P (kf a (bY e)) a fr=.ok x af)(h2:ev P true e af=.ok y aq)(h3:bQ o x y=some v):ev P k (.bin o a e) fr=.ok v aq:=by rw[L0,h,ao,h2,ao,h3];rfl
theorem bM{o:bq}(h:ev P (kf a (bY e)) a fr=.ok x af)(h2:ev P true e af=.ok y aq)(h3:cop o x y=some b):ev P k (.cmp o a e) fr=.ok (.bl b) aq:=by rw[L1,h,ao,h2,ao,h3];rfl
theorem Rm(h:ev P true a fr=.ok (.bl b) af):ev P k (.nt a) fr=.ok (.bl (!b)) af:=by rw[Og,h];rfl
theorem nS{j:Int}(h:ev P true a fr=.ok (.int j) af):ev P k (.neg a) fr=.ok (.int (-j)) af:=by rw[L3,h];rfl
theorem jZ(h:aF P a fr=.ok b af)(h2:b=true->ev P k e af=.ok v aq)(h3:b=false->ev P k c af=.ok v aq):ev P k (.gk a e c) fr=.ok v aq:=by
 rw[L4,h,ao];cases b with
 |true=>exact h2 rfl
 |false=>exact h3 rfl
theorem dX(h:ev P (kf a (bY e)) a fr=.ok x af)(h2:ev P true e af=.ok y aq)(h3:eY x y=some v):ev P k (.ix a e) fr=.ok v aq:=by rw[Oh,h,ao,h2,ao,h3];rfl
theorem Mq{p q:Option Int}(h:ev P (kf a (ki lo++ki hi)) a fr=.ok x af)(h2:fJ P lo af=.ok p aq)(h3:fJ P hi aq=.ok q aS)(h4:gR x p q=some v):ev P k (.sl a lo hi) fr=.ok v aS:=by rw[Oi,h,ao,h2,ao,h3,ao,h4];rfl
theorem b6{f:Nat}{as:List (Nat ⊕ V)}(h:dS P es fr=.ok as af)(h2:dO P f as af=.ok v aq):ev P k (.cl f es) fr=.ok v aq:=by rw[Oj,h,ao];exact h2
theorem jj{g:BI}(h:bR P true es fr=.ok vs af)(h2:eL g vs=some v):ev P k (.bi g es) fr=.ok v af:=by rw[Ol,h,ao,h2];rfl
theorem lG{m:ME}(hm:iA m=true)(hl:(lent fr i).isSome=true)(h:bR P (xq m) es fr=.ok vs af)(h2:gm m i vs af af[i]?=.ok v aq):ev P k (.me m (.v i) es) fr=.ok v aq:=by
 rw[L5 hm,if_pos hl,h,ao,HN];exact h2
theorem E1{m:ME}(hm:iA m=false)(h:ev P (kf a (fE es)) a fr=.ok x af)(h2:bR P true es af=.ok vs aq)(h3:eZ m x vs=some v):ev P k (.me m a es) fr=.ok v aq:=by rw[L6 hm,h,ao,h2,ao,h3];rfl
theorem Bm{t:T}{cond:Eo}(h:cK P true it fr=.ok vs af)(hu:undef t af=true)(h2:cQ (lF P a t cond af) vs=some l)(h3:e8 l=some v):ev P k (.comp a t it cond) fr=.ok v af:=by
 rw[qW,h,ao,if_pos hu,h2];show R.of (e8 l) af=_;rw[h3];rfl
theorem zj(h:cK P true it fr=.ok vs af)(h2:e8 vs=some v):ev P k (.gQ it) fr=.ok v af:=by rw[L7,h,ao,h2];rfl
theorem Mr{kvs:List (D×D)}(h:ev P true a fr=.ok x af)(h2:ir x kvs=some v):ev P k (.je kvs a) fr=.ok v af:=by rw[Hz,h,ao,h2];rfl
theorem zk(h:ev P true a fr=.ok x af)(h2:toT x=some v):ev P k (.iG a) fr=.ok v af:=by rw[L8,h,ao,h2];rfl
theorem av:bR P k .nil fr=.ok [] fr:=HA
theorem ak(h:ev P (k&&kf a (fE es)) a fr=.ok v af)(h2:bR P k es af=.ok vs aq):bR P k (.cons a es) fr=.ok (v :: vs) aq:=by rw[C8,h,ao,h2];rfl
theorem aY:dS P .nil fr=.ok [] fr:=HC
theorem aR{as:List (Nat ⊕ V)}(hi:fQ fr a=none)(h:ev P false a fr=.ok v af)(h2:dS P es af=.ok as aq):dS P (.cons a es) fr=.ok (.inr v :: as) aq:=by rw[uX,hi,zf,h,ao,h2];rfl
theorem Rn{as:List (Nat ⊕ V)}(hi:fQ fr a=some i)(h2:dS P es fr=.ok as aq):dS P (.cons a es) fr=.ok (.inl i :: as) aq:=by rw[uX,hi,ze,h2];rfl
theorem Ou:fJ P .no fr=.ok none fr:=Ma
theorem u6{j:Int}(h:ev P true a fr=.ok (.int j) af):fJ P (.yes a) fr=.ok (some j) af:=by rw[HD,h];rfl
theorem u7(h:aF P a fr=.ok false af):aF P (.an a e) fr=.ok false af:=by rw[Bj,h];rfl
theorem fT{b2:Bool}(h:aF P a fr=.ok true af)(h2:aF P e af=.ok b2 aq):aF P (.an a e) fr=.ok b2 aq:=by rw[Bj,h];exact h2
theorem Bo(h:aF P a fr=.ok true af):aF P (.orr a e) fr=.ok true af:=by rw[xS,h];rfl
theorem qt{b2:Bool}(h:aF P a fr=.ok false af)(h2:aF P e af=.ok b2 aq):aF P (.orr a e) fr=.ok b2 aq:=by rw[xS,h];exact h2
theorem Ov(h:aF P a fr=.ok b af):aF P (.nt a) fr=.ok (!b) af:=by rw[Mc,h];rfl
noncomputable def plainT:E->Bool
 |.an _ _=>false
 |.orr _ _=>false
 |.nt _=>false
 |_=>true
theorem aJ(hp:plainT a=true)(h:ev P true a fr=.ok x af)(h2:truthy x=b):aF P a fr=.ok b af:=by
 have:aF P a fr=(ev P true a fr).bind Me:=by
  cases a<;>first | (cases hp;done) | (rw[aF];rfl;all_goals (intros;contradiction))
 rw[this,h,ao,HG,h2]
theorem kQ(h:src k fr a (ev P k a fr)=.ok x af)(h2:gc x=some vs):cK P k (.seq a) fr=.ok vs af:=by rw[HH,h,ao,h2];rfl
theorem jw(h:y9 k fr i=some v){r:R V}:src k fr (.v i) r=.ok v fr:=by rw[Oq,h];rfl
theorem u9(h:bR P true es fr=.ok vs af)(h2:fk vs=some l):cK P k (.g8 es) fr=.ok l af:=by rw[HJ,h,ao,h2];rfl
theorem Bp(h:ev P true a fr=.ok x af)(h2:yZ x=some vs):cK P k (.rev a) fr=.ok vs.reverse af:=by rw[HK,h,ao,h2];rfl
theorem bh(h:ev P false a fr=.ok v af)(hn:isNew a=false)(hp:put af i (.val v)=some aq)(q:Q .nx aq):Wp (ex P w (.set i a) fr) Q:=by
 rw[Bk,h,ao,hn,hp];exact⟨_,_,rfl,q⟩
theorem iD(h:ev P false a fr=.ok (.lst l) af)(hn:isNew a=true)(hp:put af i (.own l)=some aq)(q:Q .nx aq):Wp (ex P w (.set i a) fr) Q:=by
 rw[Bk,h,ao,hn,if_pos rfl,C9,hp];exact⟨_,_,rfl,q⟩
theorem gG(h:ev P true a fr=.ok v af)(q:Q .nx af):Wp (ex P w (.exp a) fr) Q:=by rw[Mg,h];exact⟨_,_,rfl,q⟩
theorem bZ(h:ev P false a (gD fr)=.ok v af)(q:Q (.ret v) af):Wp (ex P w (.ret a) fr) Q:=by rw[Mh,h];exact⟨_,_,rfl,q⟩
theorem aM(h:aF P a fr=.ok b af)(h2:b=true->Wp (exs P w sa af) Q)(h3:b=false->Wp (exs P w sb af) Q):Wp (ex P w (.iff a sa sb) fr) Q:=by
 rw[Mi,h,ao];cases b with
 |true=>exact h2 rfl
 |false=>exact h3 rfl
theorem aC(q:Q .nx fr):Wp (exs P w .nil fr) Q:=by rw[HL];exact⟨_,_,rfl,q⟩
noncomputable def nx(P:aG)(w:Nat)(ss:Ss)(Q:Fl->Fr->Prop):Fl->Fr->Prop
 |.nx,fr=>Wp (exs P w ss fr) Q
 |g,fr=>Q g fr
theorem aj(q:Wp (ex P w st fr) (nx P w ss Q)):Wp (exs P w (.cons st ss) fr) Q:=by
 rw[Dc,wp_bind];refine q.mono λg af z=>?_;cases g with
 |nx=>exact z
 |bk=>exact⟨_,_,rfl,z⟩
 |ct=>exact⟨_,_,rfl,z⟩
 |ret v=>exact⟨_,_,rfl,z⟩
theorem nT{t:T}(h:cK P false it (nL (itv it) fr)=.ok vs af)(q:Wp (forL (turnF P w t ss) vs af) Q):Wp (ex P w (.for t it ss) fr) Q:=by rw[um,h,ao];exact q
theorem Ow(q:Wp (di (λaq=>aF P a aq) (λaq=>exs P w ss aq) w fr) Q):Wp (ex P w (.iW a ss) fr) Q:=by rw[Mj];exact q
theorem gu{t:T}{d:V}(hb:br t d fr=some af)(q:Wp (exs P w ss af) Q):Wp (turnF P w t ss d fr) Q:=by unfold turnF;rw[hb];exact q
theorem Ms{t:T}{d:V}(hb:br t d (sS fr)=some af)(h:ev P false a af=.ok v aq):lF P a t .no fr d=some (some v):=by
 unfold lF;rw[hb];dsimp only;rw[Mb];dsimp only;rw[h];rfl
theorem HV{t:T}{d:V}(hb:br t d (sS fr)=some af)(h:aF P c af=.ok b aq)(h2:b=true->ev P false a af=.ok v aS):lF P a t (.yes c) fr d=some (if b then some v else none):=by
 unfold lF;rw[hb];dsimp only;rw[HF,h];dsimp only;cases b with
 |true=>rw[h2 rfl];rfl
 |false=>rfl
theorem lI{p q:List Nat}:cop .eq (.str p) (.str q)=some (decide (p=q)):=xO
theorem jq{p q:List Nat}:cop .ne (.str p) (.str q)=some (!decide (p=q)):=by rw[ng,xO];rfl
theorem vc{p q:Int}:cop .eq (.int p) (.int q)=some (decide (p=q)):=xN
theorem zl{p q:Int}:cop .ne (.int p) (.int q)=some (!decide (p=q)):=by rw[ng,xN];rfl
theorem De{p q:Int}:cop .lt (.int p) (.int q)=some (decide (p<q)):=rfl
theorem nh{p q:Int}:cop .gt (.int p) (.int q)=some (decide (q<p)):=rfl
theorem j0{p q:Int}(h:bV p q=true):bQ .mul (.int p) (.int q)=some (.int (p*q)):=by rw[pG,if_pos h]
theorem nU{p q:Int}(h:0<q):bQ .mod (.int p) (.int q)=some (.int (p % q)):=by rw[Hv,if_pos h]
theorem tS{p q:Int}(h:0<q)(h2:q<1073741824):bQ .fdiv (.int p) (.int q)=some (.int (p / q)):=by rw[C6,if_pos ⟨h,h2⟩]
end
theorem gw{fr:Fr}{i:Nat}{s:Sl}{o:Option Sl}(e:fr[i]?=some o)(h:vo o):put fr i s=some (fr.set i (some s)):=by rw[Mn,e,Mp h]
theorem jr{fr:Fr}{i j:Nat}{u v:V}{a b:Option Sl}(ea:fr[i]?=some a)(ha:vo a)(eb:(fr.set i (some (.val u)))[j]?=some b)(hb:vo b):br (.many [i,j]) (.tup [u,v]) fr=some ((fr.set i (some (.val u))).set j (some (.val v))):=by
 simp only[zg,vX,zh,gw ea ha,Option.bind,gw eb hb]
theorem bind1{fr:Fr}{i:Nat}{v:V}{a:Option Sl}(ea:fr[i]?=some a)(ha:vo a):br (.one i) v fr=some (fr.set i (some (.val v))):=gw ea ha
end Pv
namespace Pv
open Ev (D O Hh bw bq TY BI ME T E Es Eo It S Ss Fn)
section
variable{P:aG}{X:cC}{w:Nat}(hX:∀f sl c,X f sl=some c->P f sl=none)
include hX
mutual
theorem eB:∀(e:E) {fr:Fr}{c:Nat},xe P X e fr=some c->(∀k,ev P k e fr=.bad)/\aF P e fr=.bad
 |.cl f es,fr,c,z=>by
  simp only[xe]at z;have q:∀k,ev P k (.cl f es) fr=.bad:=λk=>by
   rw[ev];cases y:dS P es fr with
   |ok as af=>
    rw[y]at z;simp only at z;simp only[ao];unfold nM at z;unfold dO;split at z
    case isFalse=>cases z
    rename_i nd;rw[if_pos nd];rw[Option.bind_eq_some_iff]at z;obtain⟨sl,z1,z2⟩:=z;rw[z1];simp only;rw[hX _ _ _ z2]
   |bad=>rfl
  exact⟨q,by rw[aF,q];rfl;all_goals (intros;contradiction)⟩
 |.ix a b,fr,c,z=>by
  simp only[xe]at z;have q:∀k,ev P k (.ix a b) fr=.bad:=λk=>by rw[ev,(eB a z).1];rfl
  exact⟨q,by rw[aF,q];rfl;all_goals (intros;contradiction)⟩
 |.me m o es,fr,c,z=>by
  simp only[xe]at z;split at z
  case isFalse=>cases z
  rename_i hm;split at z
  case h_2=>cases z
  rename_i i hi;have q:∀k,ev P k (.me m o es) fr=.bad:=λk=>by
   rw[ev,if_pos hm,hi];simp only;rw[xU es z];rfl
  exact⟨q,by rw[aF,q];rfl;all_goals (intros;contradiction)⟩
 |.c _,_,_,z=>nomatch z|.v _,_,_,z=>nomatch z|.tup _,_,_,z=>nomatch z|.lst _,_,_,z=>nomatch z
 |.bin _ _ _,_,_,z=>nomatch z|.cmp _ _ _,_,_,z=>nomatch z
 |.nt _,_,_,z=>nomatch z|.neg _,_,_,z=>nomatch z|.an _ _,_,_,z=>nomatch z|.orr _ _,_,_,z=>nomatch z|.gk _ _ _,_,_,z=>nomatch z
 |.sl _ _ _,_,_,z=>nomatch z
 |.bi _ _,_,_,z=>nomatch z
 |.comp _ _ _ _,_,_,z=>nomatch z|.gQ _,_,_,z=>nomatch z
 |.je _ _,_,_,z=>nomatch z|.iG _,_,_,z=>nomatch z
theorem xV:∀(es:Es) {fr:Fr}{c:Nat},uJ P X es fr=some c->dS P es fr=.bad
 |.nil,_,_,z=>nomatch z
 |.cons e es,fr,c,z=>by
  simp only[uJ]at z;rw[dS];split at z
  .rw[xV es z];rfl
  .split at z
   .rename_i y2;rw[y2];simp only[ao];rw[xV es z];rfl
   .rw[(eB e z).1];rfl
theorem xU:∀(es:Es) {k:Bool}{fr:Fr}{c:Nat},xr P X k es fr=some c->bR P k es fr=.bad
 |.nil,_,_,_,z=>nomatch z
 |.cons e es,k,fr,c,z=>by
  simp only[xr]at z;rw[bR];split at z
  .rename_i y2;rw[y2];simp only[ao];rw[xU es z];rfl
  .rw[(eB e z).1];rfl
end
omit hX in
theorem gI{f:V->Fr->R Fl}{g:V->Fr->Option Nat}(hg:∀d fr c,g d fr=some c->f d fr=.bad):∀(vs:List V) {fr:Fr}{c:Nat},cR f g vs fr=some c->forL f vs fr=.bad
 |[],_,_,z=>nomatch z
 |d :: ds,fr,c,z=>by
  simp only[cR]at z;simp only[forL];split at z
  .rename_i e;rw[e];exact gI hg ds z
  .rename_i e;rw[e];exact gI hg ds z
  .cases z
  .rw[hg _ _ _ z];rfl
omit hX in
theorem gK{t:Fr->R Bool}{f:Fr->R Fl}{g:Fr->Option Nat}(hg:∀fr c,g fr=some c->f fr=.bad):∀(n:Nat) {fr:Fr}{c:Nat},fq t f g n fr=some c->di t f n fr=.bad
 |0,_,_,z=>nomatch z
 |n+1,fr,c,z=>by
  simp only[fq]at z;split at z
  case h_2=>cases z
  rename_i e0;simp only[di,e0,ao,if_true];split at z
  .rename_i e;rw[e];exact gK hg n z
  .rename_i e;rw[e];exact gK hg n z
  .cases z
  .rw[hg _ _ z];rfl
mutual
theorem mR:∀(s:S) {fr:Fr}{c:Nat},xs P X w s fr=some c->ex P w s fr=.bad
 |.ez c,_,_,_=>by rw[ex]
 |.set i e,fr,c,z=>by rw[ex,(eB hX e z).1];rfl
 |.exp e,fr,c,z=>by rw[ex,(eB hX e z).1];rfl
 |.ret e,fr,c,z=>by rw[ex,(eB hX e z).1];rfl
 |.iff t a b,fr,c,z=>by
  simp only[xs]at z;rw[ex];cases y:aF P t fr with
  |bad=>rfl
  |ok k h1=>
   rw[y]at z;simp only at z;simp only[ao];cases k with
   |true=>exact cX a z
   |false=>exact cX b z
 |.for t it b,fr,c,z=>by
  simp only[xs]at z;rw[ex];split at z
  case h_2=>cases z
  rename_i y;rw[y];simp only[ao];refine gI (λd fr c q=>?_) _ z;cases k:br t d fr with
  |none=>rfl
  |some aS=>rw[k]at q;exact cX b q
 |.iW t b,fr,c,z=>by
  simp only[xs]at z;rw[ex];exact gK (λfr c q=>cX b q) _ z
 |.mK _ _,_,_,z=>nomatch z
 |.tr _ _ _,_,_,z=>nomatch z
theorem cX:∀(s:Ss) {fr:Fr}{c:Nat},xss P X w s fr=some c->exs P w s fr=.bad
 |.nil,_,_,z=>nomatch z
 |.cons s ss,fr,c,z=>by
  simp only[xss]at z;rw[exs];split at z
  .rename_i e;rw[e];exact cX ss z
  .cases z
  .rw[mR s z];rfl
end
end
theorem Ox{P:aG}{X:cC}{w:Nat}{fn:Fn}{ds:List Sl}{fr:Fr}{c:Nat}(z:xss P X w fn.body fr=some c):AY fn ds=none:=by
 unfold AY;rfl
theorem ja(F:List Fn)(w:Nat):∀(n f:Nat) (sl:List Sl) (c:Nat),cy F w n f sl=some c->run F w n f sl=none
 |0,_,_,_,_=>rfl
 |n+1,f,ds,c,z=>by
  rw[iw]at z;rw[fK];cases y:F[f]? with
  |none=>rw[y]at z;cases z
  |some fn=>
   rw[y]at z;simp only at z ⊢;split at z
   .rename_i k;rw[if_pos k,cX (ja F w n) _ z];exact Ox z
   .cases z
section
variable{F:List Fn}{P:aG}{X:cC}{w n f c:Nat}{fr af aq:Fr}{s:S}{ss sa sb:Ss}{e t:E}{b:Bool}{es:Es}{v:V}
theorem ni(hX:∀f sl c,X f sl=some c->P f sl=none)(h:xs P X w s fr=some c):xss P X w (.cons s ss) fr=some c:=by
 simp only[xss,mR hX s h];exact h
theorem Bq(h:Wp (ex P w s fr) λg af=>g=.nx/\xss P X w ss af=some c):xss P X w (.cons s ss) fr=some c:=by
 obtain⟨g,af,e,rfl,q⟩:=h;simp only[xss,e];exact q
theorem E2(h:aF P t fr=.ok b af)(h2:(if b then xss P X w sa af else xss P X w sb af)=some c):xs P X w (.iff t sa sb) fr=some c:=by
 simp only[xs,h];exact h2
theorem Oz:xs P X w (.ez c) fr=some c:=rfl
theorem OA{i:Nat}(h:xe P X e fr=some c):xs P X w (.set i e) fr=some c:=h
theorem Ro{as:List (Nat ⊕ V)}(h:dS P es fr=.ok as af)(h2:nM X f as af=some c):xe P X (.cl f es) fr=some c:=by simp only[xe,h];exact h2
theorem E3{fn:Fn}{ds:List Sl}(hf:F[f]?=some fn)(hl:ds.length=fn.np)(h:xss (run F w n) (cy F w n) w fn.body (dg fn ds)=some c):cy F w (n+1) f ds=some c:=by
 rw[iw,hf];simp only;rw[if_pos hl];exact h
theorem jx:∀vs:List V,bH (vs.map .inr)=[]/\args fr (vs.map .inr)=some (vs.map Sl.val)
 |[]=>⟨rfl,rfl⟩
 |v :: vs=>⟨(jx vs).1,by rw[List.map_cons,args,(jx vs).2];rfl⟩
theorem Br{vs:List V}(h:X f (vs.map .val)=some c):nM X f (vs.map .inr) fr=some c:=by
 have h1:=jx (fr:=fr);unfold nM;rw[(h1 vs).1,(h1 vs).2];exact h
theorem zm{vs:List V}(h:P f (vs.map .val)=none):dO P f (vs.map .inr) fr=.bad:=by
 have h1:=jx (fr:=fr);unfold dO;rw[(h1 vs).1,(h1 vs).2];simp only[h];rfl
theorem OB{ds:List Sl}(hF:F.length<=1000)(ha:ds.all Sl.fQ=true)(h:cy F w n f ds=some c):run F w n (f+1000) ds=some (.int (c:Int),[]):=by
 cases n with
 |zero=>cases h
 |succ n=>
  rw[fK,List.getElem?_eq_none (by omega)];simp only[lV];rw[if_pos ⟨Nat.le_add_left _ _,ha⟩,show f+1000 - Ev.xo=f from Nat.add_sub_cancel ..];rw[h];rfl
theorem OC{Q:Fl->Fr->Prop}{vs:List V}{kk:Nat}(h:dS P es fr=.ok (vs.map .inr) af)(h2:P f (vs.map .val)=some (v,[]))(q:Q (.ret v) af):Wp (ex P w (.tr f kk es) fr) Q:=by
 have hl:=λvs=>(jx (fr:=fr) vs).1;have:=gW (P:=P) (f:=f) (fr:=af) h2;simp only[ex,h,ao,hl,this];exact⟨_,_,rfl,q⟩
theorem Mt{Q:Fl->Fr->Prop}{vs:List V}{kk:Nat}(h:dS (run F w n) es fr=.ok (vs.map .inr) af)(hF:F.length<=1000)(h2:cy F w n f (vs.map .val)=some c)(hc:c<kk)(q:Q (.ret (.tup [.str [114,101,102,117,115,101,100],.int (c:Int)])) af):Wp (ex (run F w n) w (.tr f kk es) fr) Q:=by
 have hl:=λvs=>(jx (fr:=fr) vs).1;have ha:(vs.map Sl.val).all Sl.fQ=true:=by simp[Sl.fQ]
 have h3:=zm (P:=run F w n) (f:=f) (fr:=af) (ja F w n f _ c h2);have h4:=gW (P:=run F w n) (f:=f+1000) (fr:=af) (OB hF ha h2);have h5:za kk (.int (c:Int))=some (.tup [.str [114,101,102,117,115,101,100],.int (c:Int)]):=by simp only[za];rw[if_pos (by omega)]
 simp only[ex,h,ao,hl,h3];show Wp ((dO (run F w n) (f+1000) (vs.map .inr) af).bind _) Q;rw[h4,ao,h5];exact⟨_,_,rfl,q⟩
end
end Pv
local macro_rules|`(tactic|array_get_dec)=>`(tactic|first
 |exact Pv.av|exact Pv.aY|exact Pv.Ou
 | (apply Pv.az;rfl) | (apply Pv.aI;rfl)|apply Pv.bu|apply Pv.bM|apply Pv.aU|apply Pv.dG|apply Pv.dX|apply Pv.Mq|apply Pv.b6|apply Pv.jj
 |apply Pv.Rm|apply Pv.nS|apply Pv.zk|apply Pv.zj  | (apply Pv.lG rfl rfl) | (apply Pv.E1 rfl)|apply Pv.Mr
 |apply Pv.ak | (apply Pv.aR rfl) | (apply Pv.Rn rfl)|apply Pv.u6|apply Pv.Ov|apply Pv.aJ rfl
 |exact Pv.tP|exact Pv.iC|exact Pv.bP|exact Pv.Oe|exact Pv.gF|exact Pv.Oc|exact Pv.Od
 | (with_reducible assumption)|exact Pv.b9|exact Pv.uT|exact Pv.lI|exact Pv.jq|exact Pv.vc|exact Pv.zl|exact Pv.De  | exact Pv.nh
 | (show Pv.truthy _=_;rfl) | (show Pv.eY _ _=some _;rfl) | (show Pv.toT _=some _;rfl) | (show Pv.ir _ _=some _;rfl) | (show Pv.gc _=some _;rfl)|assumption)
namespace Pv
open Ev (D bw bq TY BI ME T E Es Eo It S Ss Fn big deep b2i rep bV dM bB aO cut b8 dz slots)
theorem Mu(a b:Int):bV (a % 2147483563) b=true:=by have h1:=Int.emod_nonneg a (b:=2147483563) (by decide);have h2:=Int.emod_lt_of_pos a (b:=2147483563) (by decide);simp[bV];omega
theorem Rq(a b:Int):bV (a % 2147483399) b=true:=by have h1:=Int.emod_nonneg a (b:=2147483399) (by decide);have h2:=Int.emod_lt_of_pos a (b:=2147483399) (by decide);simp[bV];omega
theorem Mv{l:List V}{j:Int}{v:V}(h:bB l j=some v):eY (.bS l) (.int j)=some v:=h
theorem Mw{l m:List V}:cop .eq (.bS l) (.lst m)=cj (dR (18+1)) l m:=rfl
theorem Df{F:List Fn}{w n c:Nat}(hc:F[c]?=some tQ){ns:List Int}(hn:ns.length<=63)(k:Int):run F w (n+1) c [.val (fM ns),.val (.int k)]=some (.int (tR ns k),[]):=by
 refine cg hc rfl (aj (aM (b:=decide (ns=[])) (aJ rfl (bM (az rfl) (dG av gF) (Mw.trans (HU ns))) rfl) (λh=>?_) λh=>aC ?_))
 .have h0:=of_decide_eq_true h;exact aj (bZ (bu (aI rfl) (az rfl) (j0 rfl)) ⟨by rw[tR,if_pos h0],rfl⟩)
 .have h0:=of_decide_eq_false h;have hlen:0<ns.length:=List.length_pos_iff.mpr h0;have P1:(0:Int)<(ns.map V.int).length:=by rw[List.length_map];exact Int.natCast_pos.mpr hlen
  have h30:((ns.map V.int).length:Int)<1073741824:=by rw[List.length_map];omega
  have hm0:=Int.emod_nonneg k (b:=(ns.length:Int)) (by omega);have hlt:(k % (ns.length:Int)).toNat<ns.length:=by have:=Int.emod_lt_of_pos k (b:=(ns.length:Int)) (by omega);omega
  have hx:bB (ns.map V.int) (k % ((ns.map V.int).length:Int))=some (.int (ns[(k % (ns.length:Int)).toNat]?.getD 0)):=by
   rw[List.length_map,uY hm0,List.getElem?_map,List.getElem?_eq_getElem hlt];rfl
  refine aj (bZ (bu (dX (az rfl) (bu (az rfl) (jj (ak (az rfl) av) xP) (nU P1)) (Mv hx)) (bu (aI rfl) (bu (az rfl) (jj (ak (az rfl) av) xP) (tS P1 h30)) (j0 rfl)) b9) ⟨?_,rfl⟩);rw[tR,if_neg h0,List.length_map]
theorem fh{F:List Fn}{w n c dr:Nat}(hc:F[c]?=some tQ)(hd:F[dr]?=some (u0 c)){ns:List Int}(hn:ns.length<=63)(k:Int){many:Int}(hm:0<many):run F w (n+2) dr [.val (fM ns),.val (.int k),.val (.int many)]=some (.int (cG ns k many),[]):=by
 refine cg hd rfl (aj (bh (bu (bu (bu (bu (b6 (aR rfl (az rfl) (aR rfl (az rfl) aY)) (call2 (Df hc hn k))) (aI rfl) (nU (by decide))) (aI rfl) (j0 (Mu _ _))) (bu (aI rfl) (bu (az rfl) (aI rfl) b9) (j0 rfl)) b9) (aI rfl) (nU (by decide))) rfl rfl ?_));refine aj (bh (bu (bu (bu (az rfl) (az rfl) (j0 (Mu _ _))) (bu (az rfl) (aI rfl) (tS (by decide) (by decide))) b9) (aI rfl) (nU (by decide))) rfl rfl ?_);exact aj (bZ (bu (bu (bu (bu (bu (az rfl) (az rfl) (j0 (Rq _ _))) (bu (az rfl) (aI rfl) (tS (by decide) (by decide))) b9) (aI rfl) (nU (by decide))) (aI rfl) (tS (by decide) (by decide))) (az rfl) (nU hm)) ⟨rfl,rfl⟩)
noncomputable def fText(dr:Nat):Fn:=⟨3,4,(.cons (.ret (.me .join (.c (.str [])) (.cons (.comp (.ix (.c (.str [97,98,99,32])) (.cl dr (.cons (.v 0) (.cons (.bin .add (.bin .add (.v 1) (.c (.int 1))) (.v 3)) (.cons (.c (.int 4)) .nil))))) (.one 3) (.g8 (.cons (.cl dr (.cons (.v 0) (.cons (.v 1) (.cons (.bin .add (.v 2) (.c (.int 1))) .nil)))) .nil)) .no) .nil))) .nil)⟩
noncomputable def E4(dr:Nat):S:=.iff (.cmp .eq (.cl dr (.cons (.v 0) (.cons (.bin .add (.v 1) (.bin .mul (.c (.int 4)) (.v 4))) (.cons (.c (.int 4)) .nil)))) (.c (.int 0))) (.cons (.set 5 (.bin .mul (.ix (.c (.str [97,98,122])) (.cl dr (.cons (.v 0) (.cons (.bin .add (.bin .add (.v 1) (.bin .mul (.c (.int 4)) (.v 4))) (.c (.int 1))) (.cons (.c (.int 3)) .nil))))) (.bin .add (.c (.int 1)) (.cl dr (.cons (.v 0) (.cons (.bin .add (.bin .add (.v 1) (.bin .mul (.c (.int 4)) (.v 4))) (.c (.int 2))) (.cons (.c (.int 2)) .nil))))))) (.cons (.set 3 (.bin .add (.v 3) (.tup (.cons (.tup (.cons (.c (.str [112,117,116])) (.cons (.v 5) .nil))) .nil)))) .nil)) .nil
noncomputable def E5(dr:Nat):S:=.iff (.cmp .lt (.v 4) (.bi .len (.cons (.v 2) .nil))) (.cons (.set 6 (.cmp .gt (.cl dr (.cons (.v 0) (.cons (.bin .add (.bin .add (.v 1) (.bin .mul (.c (.int 4)) (.v 4))) (.c (.int 3))) (.cons (.c (.int 3)) .nil)))) (.c (.int 0)))) (.cons (.set 3 (.bin .add (.v 3) (.tup (.cons (.gk (.v 6) (.tup (.cons (.c (.str [107,101,101,112])) (.cons (.c (.int 1)) .nil))) (.tup (.cons (.c (.str [100,114,111,112])) (.cons (.ix (.v 2) (.v 4)) .nil)))) .nil)))) .nil)) .nil
noncomputable def HW(dr:Nat):Fn:=⟨3,7,(.cons (.set 3 (.tup .nil)) (.cons (.for (.one 4) (.g8 (.cons (.bin .add (.bi .len (.cons (.v 2) .nil)) (.c (.int 1))) .nil)) (.cons (E4 dr) (.cons (E5 dr) .nil))) (.cons (.ret (.v 3)) .nil)))⟩
inductive Pt where
 |keep (n:Nat)|put (s:List Nat)|drop (s:List Nat)
deriving DecidableEq
noncomputable def ef:List Nat:=[107,101,101,112]
noncomputable def nj:List Nat:=[112,117,116]
noncomputable def j3:List Nat:=[100,114,111,112]
noncomputable def Pt.v:Pt->V
 |.keep n=>.tup [.str ef,.int n]
 |.put s=>.tup [.str nj,.str s]
 |.drop s=>.tup [.str j3,.str s]
noncomputable def aK(c:List Pt):V:=.tup (c.map Pt.v)
theorem Mx(n:Nat)(a b:Pt):dR (n+2) a.v b.v=some (decide (a=b)):=by
 cases a<;>cases b<;>simp[Pt.v,ef,nj,j3]
 all_goals omega
noncomputable def txt(ns:List Int)(at_ most:Int):List Nat:=(List.range (cG ns at_ (most+1)).toNat).map λ(k:Nat)=>[97,98,99,32].getD (cG ns (at_+1+k) 4).toNat 0
theorem HY(ns:List Int)(at_:Int){most:Int}(h:0<=most):(txt ns at_ most).length<=most.toNat:=by
 unfold txt;have h1:=jS ns at_ (many:=most+1) (by omega);have h2:=jR ns at_ (many:=most+1) (by omega);simp;omega
theorem getD_at{α:Type}{l:List α}{i:Int}(h0:0<=i)(h1:i<l.length)(d:α):bB l i=some (l.getD i.toNat d):=by
 have:i.toNat<l.length:=by omega
 rw[uY h0];simp[List.getD,List.getElem?_eq_getElem this]
theorem oN{α β:Type}(l:List α)(f:α->β):(l.map λx=>[f x]).flatten=l.map f:=by induction l<;>simp[*]
theorem Bs(lo:Int)(n:Nat):range lo n=(List.range n).map λ(i:Nat)=>V.int (lo+i):=rfl
section
variable{F:List Fn}{w n c dr t:Nat}(hc:F[c]?=some tQ)(hd:F[dr]?=some (u0 c)){ns:List Int}(hn:ns.length<=63)
include hc hd hn
theorem Dg(ht:F[t]?=some (fText dr))(k most:Int)(hm:0<=most)(hm2:most<=1000):run F w (n+3) t [.val (fM ns),.val (.int k),.val (.int most)]=some (.str (txt ns k most),[]):=by
 have b0:=jR ns k (many:=most+1) (by omega);have b1:=jS ns k (many:=most+1) (by omega);have d0:=λfr=>gg (fr:=fr) (fh (w:=w) (n:=n) hc hd hn k (many:=most+1) (by omega));have OD:cQ (lF (run F w (n+2)) (.ix (.c (.str [97,98,99,32])) (.cl dr (.cons (.v 0) (.cons (.bin .add (.bin .add (.v 1) (.c (.int 1))) (.v 3)) (.cons (.c (.int 4)) .nil))))) (.one 3) .no [some (.val (fM ns)),some (.val (.int k)),some (.val (.int most)),none]) (range 0 (cG ns k (most+1)).toNat)=some (((List.range (cG ns k (most+1)).toNat).map λ(j:Nat)=>[[97,98,99,32].getD (cG ns (k+1+j) 4).toNat 0]).map V.str):=by
  rw[Bs,List.map_map];refine Bh _ _ _ λj _=>?_;have d1:=λfr=>gg (fr:=fr) (fh (w:=w) (n:=n) hc hd hn (k+1+j) (many:=4) (by decide));have ix:eY (.str [97,98,99,32]) (.int (cG ns (k+1+j) 4))=some (.str [[97,98,99,32].getD (cG ns (k+1+j) 4).toNat 0]):=by
   rw[rE,getD_at (l:=[97,98,99,32]) (jR ns (k+1+j) (many:=4) (by decide)) (jS ns (k+1+j) (many:=4) (by decide)) 0];rfl
  rw[show(0:Int)+(j:Int)=j from Int.zero_add _];exact Ms rfl (by (repeat (first|array_get_dec|exact d1 _)))
 have hj:=Of (l:=(List.range (cG ns k (most+1)).toNat).map λ(j:Nat)=>[[97,98,99,32].getD (cG ns (k+1+j) 4).toNat 0]) (by rw[oN];simp;omega);rw[oN]at hj;have Ud:e8 (((List.range (cG ns k (most+1)).toNat).map λ(j:Nat)=>[[97,98,99,32].getD (cG ns (k+1+j) 4).toNat 0]).map V.str)=some (.lst _):=iZ (cS (by simp;omega));have rg:=LX b0 (show cG ns k (most+1)<=100000 by omega);refine cg ht rfl (aj (bZ (E1 rfl (aI rfl) (ak (Bm (u9 (by (repeat (first|array_get_dec|exact d0 _))) rg) rfl OD Ud) av) hj) ⟨rfl,rfl⟩))
end
noncomputable def jt(ns:List Int)(at_:Int)(s:List Nat)(k:Nat):List Pt:=
 (if cG ns (at_+4*k) 4=0 then [.put (rep (1+cG ns (at_+4*k+2) 2).toNat [[97,98,122].getD (cG ns (at_+4*k+1) 3).toNat 0])]else [])++
 (match s[k]? with
 |some c=>[if 0<cG ns (at_+4*k+3) 3 then .keep 1 else .drop [c]]
 |none=>[])
noncomputable def fy(ns:List Int)(at_:Int)(s:List Nat)(k:Nat):List Pt:=(List.range k).flatMap (jt ns at_ s)
noncomputable def chg(ns:List Int)(at_:Int)(s:List Nat):List Pt:=fy ns at_ s (s.length+1)
theorem Bt(ns:List Int)(at_:Int)(s:List Nat)(k:Nat):(jt ns at_ s k).length<=2:=by
 unfold jt;split<;>split<;>simp
theorem ju(ns:List Int)(at_:Int)(s:List Nat)(k:Nat):fy ns at_ s (k+1)=fy ns at_ s k++jt ns at_ s k:=by simp[fy,List.range_succ]
theorem nq(ns:List Int)(at_:Int)(s:List Nat):∀k,(fy ns at_ s k).length<=2*k
 |0=>by simp[fy]
 |k+1=>by
  have h1:=Bt ns at_ s k;have h2:=nq ns at_ s k;rw[ju,List.length_append];omega
theorem My(i:Int):bV 4 i=true:=by simp[bV]
theorem zo{a b:List Pt}(h:a.length+b.length<=100000):bQ .add (aK a) (aK b)=some (aK (a++b)):=by
 simp only[aK];rw[pF (by simpa using h)];simp
theorem Mz{j:Int}{n:Nat}(h:n<=100000)(e:j=n):fk [.int j]=some (range 0 n):=by
 subst e;rw[LX (by omega) (by omega)];rfl
theorem HZ{a:List Pt}{s:List Nat}(h:a.length<100000):bQ .add (aK a) (.tup [.tup [.str [112,117,116],.str s]])=some (aK (a++[.put s])):=zo (a:=a) (b:=[.put s]) (by simp;omega)
theorem Dh{a:List Pt}{s:List Nat}(h:a.length<100000):bQ .add (aK a) (.tup [.tup [.str [100,114,111,112],.str s]])=some (aK (a++[.drop s])):=zo (a:=a) (b:=[.drop s]) (by simp;omega)
theorem Di{a:List Pt}(h:a.length<100000):bQ .add (aK a) (.tup [.tup [.str [107,101,101,112],.int 1]])=some (aK (a++[.keep 1])):=zo (a:=a) (b:=[.keep 1]) (by simp;omega)
section
variable{F:List Fn}{w n c dr t:Nat}(hc:F[c]?=some tQ)(hd:F[dr]?=some (u0 c)){ns:List Int}(hn:ns.length<=63)
include hc hd hn
theorem Dj(k:Int)(x:V)(fd:List Pt)(j:Nat)(u v:Option Sl)(hu:vo u)(hfd:fd.length<=10000) :
  Wp (ex (run F w (n+2)) w (E4 dr) [some (.val (fM ns)),some (.val (.int k)),some (.val x),some (.val (aK fd)),some (.val (.int j)),u,v]) λg fr=>g=.nx/\∃b,vo b/\fr=[some (.val (fM ns)),some (.val (.int k)),some (.val x),some (.val (aK (fd++if cG ns (k+4*j) 4=0 then [.put (rep (1+cG ns (k+4*j+2) 2).toNat [[97,98,122].getD (cG ns (k+4*j+1) 3).toNat 0])]else []))),some (.val (.int j)),b,v]:=by
 have d1:=λfr=>gg (fr:=fr) (fh (w:=w) (n:=n) hc hd hn (k+4*j) (many:=4) (by decide));have m4:bQ .mul (.int 4) (.int j)=some (.int (4*j)):=by rw[pG,My];rfl
 refine aM (by (repeat (first|array_get_dec|exact d1 _))) (λh=>?_) λh=>?_
 .have h0:=of_decide_eq_true h;have d2:=λfr=>gg (fr:=fr) (fh (w:=w) (n:=n) hc hd hn (k+4*j+1) (many:=3) (by decide));have d3:=λfr=>gg (fr:=fr) (fh (w:=w) (n:=n) hc hd hn (k+4*j+2) (many:=2) (by decide));have c2:=jR ns (k+4*j+2) (many:=2) (by decide);have c3:=jS ns (k+4*j+2) (many:=2) (by decide);have ix:eY (.str [97,98,122]) (.int (cG ns (k+4*j+1) 3))=some (.str [[97,98,122].getD (cG ns (k+4*j+1) 3).toNat 0]):=by
   rw[rE,getD_at (l:=[97,98,122]) (jR ns (k+4*j+1) (many:=3) (by decide)) (jS ns (k+4*j+1) (many:=3) (by decide)) 0];rfl
  have ml:=C5 (j:=1+cG ns (k+4*j+2) 2) (a:=[[97,98,122].getD (cG ns (k+4*j+1) 3).toNat 0]) (by omega) (by omega) (by simp);have ad:=HZ (a:=fd) (s:=rep (1+cG ns (k+4*j+2) 2).toNat [[97,98,122].getD (cG ns (k+4*j+1) 3).toNat 0]) (by omega);refine aj (bh (by (repeat (first|array_get_dec|exact d2 _|exact d3 _))) rfl (gw rfl hu) ?_);refine aj (bh (by repeat array_get_dec) rfl rfl (aC ?_));rw[if_pos h0];exact⟨rfl,_,.val,rfl⟩
 .have h0:=of_decide_eq_false h;rw[if_neg h0,List.append_nil];exact aC ⟨rfl,u,hu,rfl⟩
theorem Dk(k:Int)(x:List Nat)(hx:x.length<=1000)(fd:List Pt)(j:Nat)(u v:Option Sl)(hv:vo v)(hfd:fd.length<=10000) :
  Wp (ex (run F w (n+2)) w (E5 dr) [some (.val (fM ns)),some (.val (.int k)),some (.val (.str x)),some (.val (aK fd)),some (.val (.int j)),u,v]) λg fr=>g=.nx/\∃b,vo b/\fr=[some (.val (fM ns)),some (.val (.int k)),some (.val (.str x)),some (.val (aK (fd++match x[j]? with
     |some c=>[if 0<cG ns (k+4*j+3) 3 then .keep 1 else .drop [c]]
     |none=>[]))),some (.val (.int j)),u,b]:=by
 have ln:eL .len [.str x]=some (.int (x.length:Nat)):=len_str (by omega);refine aM (by repeat array_get_dec) (λh=>?_) λh=>?_
 .have hlt:j<x.length:=by have:=of_decide_eq_true h;omega
  have d1:=λfr=>gg (fr:=fr) (fh (w:=w) (n:=n) hc hd hn (k+4*j+3) (many:=3) (by decide));have m4:bQ .mul (.int 4) (.int j)=some (.int (4*j)):=by rw[pG,My];rfl
  have hg:x[j]?=some x[j]:=List.getElem?_eq_getElem hlt;have ix:eY (.str x) (.int j)=some (.str [x[j]]):=by rw[rE,wC,hg];rfl
  rw[hg];refine aj (bh (by (repeat (first|array_get_dec|exact d1 _))) rfl (gw rfl hv) ?_);by_cases hk:0<cG ns (k+4*j+3) 3
  .have ad:=Di (a:=fd) (by omega);have ht:truthy (.bl (decide (0<cG ns (k+4*j+3) 3)))=true:=decide_eq_true hk;refine aj (bh (bu (az rfl) (aU (ak (jZ (b:=true) (aJ rfl (az rfl) ht) (λ_=>by repeat array_get_dec) λh=>absurd h (by decide)) av) iC) ad) rfl rfl (aC ?_));refine⟨rfl,some (.val (.bl (decide (0<cG ns (k+4*j+3) 3)))),.val,?_⟩;simp only[if_pos hk];rfl
  .have ad:=Dh (a:=fd) (s:=[x[j]]) (by omega);have ht:truthy (.bl (decide (0<cG ns (k+4*j+3) 3)))=false:=decide_eq_false hk;refine aj (bh (bu (az rfl) (aU (ak (jZ (b:=false) (aJ rfl (az rfl) ht) (λh=>absurd h (by decide)) λ_=>by repeat array_get_dec) av) iC) ad) rfl rfl (aC ?_));refine⟨rfl,some (.val (.bl (decide (0<cG ns (k+4*j+3) 3)))),.val,?_⟩;simp only[if_neg hk];rfl
 .have hlt:¬ j<x.length:=by have:=of_decide_eq_false h;omega
  rw[List.getElem?_eq_none (by omega),List.append_nil];exact aC ⟨rfl,v,hv,rfl⟩
theorem zp(ht:F[t]?=some (HW dr))(k:Int)(x:List Nat)(hx:x.length<=1000):run F w (n+3) t [.val (fM ns),.val (.int k),.val (.str x)]=some (aK (chg ns k x),[]):=by
 refine cg ht rfl ?_;have ln:eL .len [.str x]=some (.int (x.length:Nat)):=len_str (by omega);have rg:fk [.int ((x.length:Nat)+1)]=some (range 0 (x.length+1)):=Mz (by omega) (by omega);refine aj (bh (by repeat array_get_dec) rfl rfl ?_);refine aj (nT (u9 (ak (bu (jj (ak (az rfl) av) ln) (aI rfl) b9) av) rg) ?_);refine xR (λj fr=>∃a b c,vo a/\vo b/\vo c/\fr=[some (.val (fM ns)),some (.val (.int k)),some (.val (.str x)),some (.val (aK (fy ns k x j))),a,b,c]) (λj fr hj ⟨a,b,c',ha,hb,hc',hfr⟩=>?_) (λfr ⟨a,b,c',ha,hb,hc',hfr⟩=>?_) ⟨none,none,none,.none,.none,.none,rfl⟩
 .subst hfr;have hz:=nq ns k x j;rw[show(0:Int)+(j:Int)=j from Int.zero_add _];refine gu (bind1 rfl ha) (aj ?_);refine(Dj hc hd hn k (.str x) (fy ns k x j) j b c' hb (by omega)).mono λg fr ⟨q1,b2,hb2,q3⟩=>?_;subst q1 q3;refine aj ?_;refine(Dk hc hd hn k x hx _ j b2 c' hc' (by split<;>simp<;>omega)).mono λg fr ⟨q1,b3,Ue,q3⟩=>?_;subst q1 q3;refine aC ?_;rw[gf];refine⟨some (.val (.int j)),b2,b3,.val,hb2,Ue,?_⟩;rw[ju,jt,List.append_assoc]
 .subst hfr;refine aj (bZ (v:=aK (chg ns k x)) (af:=[some (.val (fM ns)),some (.val (.int k)),some (.val (.str x)),some (.val (aK (fy ns k x (x.length+1)))),a,b,c']) ?_ ⟨rfl,rfl⟩);have sh:gD [some (.val (fM ns)),some (.val (.int k)),some (.val (.str x)),some (.val (aK (fy ns k x (x.length+1)))),a,b,c']=[some (.val (fM ns)),some (.val (.int k)),some (.val (.str x)),some (.val (aK (fy ns k x (x.length+1)))),a,b,c']:=by
   show _ :: _ :: _ :: _ :: a.map Sl.fP :: b.map Sl.fP :: [c'.map Sl.fP]=_;rw[ek ha,ek hb,ek hc'];rfl
  rw[sh];exact az rfl
end
end Pv
namespace Pv
open Ev (D bw bq TY BI ME T E Es Eo It S Ss Fn big deep b2i rep bV dM bB aO cut b8 dz slots)
noncomputable def Dl:S:=.iff (.cmp .eq (.ix (.v 0) (.c (.int 0))) (.c (.str [107,101,101,112]))) (.cons (.ret (.ix (.v 0) (.c (.int 1)))) .nil) .nil
noncomputable def Dm:S:=.ret (.bi .len (.cons (.ix (.v 0) (.c (.int 1))) .nil))
noncomputable def eT:Fn:=⟨1,1,(.cons Dl (.cons Dm .nil))⟩
noncomputable def zq(cB:Nat):S:=.ret (.bi .sum (.cons (.comp (.cl cB (.cons (.v 1) .nil)) (.one 1) (.seq (.v 0)) (.yes (.cmp .ne (.ix (.v 1) (.c (.int 0))) (.c (.str [112,117,116]))))) .nil))
noncomputable def jT(cB:Nat):Fn:=⟨1,2,(.cons (zq cB) .nil)⟩
noncomputable def Bu(cB:Nat):S:=.ret (.bi .sum (.cons (.comp (.cl cB (.cons (.v 1) .nil)) (.one 1) (.seq (.v 0)) (.yes (.cmp .ne (.ix (.v 1) (.c (.int 0))) (.c (.str [100,114,111,112]))))) .nil))
noncomputable def kR(cB:Nat):Fn:=⟨1,2,(.cons (Bu cB) .nil)⟩
noncomputable def Dn(cB:Nat):S:=.ret (.bi .sum (.cons (.comp (.cl cB (.cons (.v 1) .nil)) (.one 1) (.seq (.v 0)) (.yes (.cmp .ne (.ix (.v 1) (.c (.int 0))) (.c (.str [107,101,101,112]))))) .nil))
noncomputable def MA(cB:Nat):Fn:=⟨1,2,(.cons (Dn cB) .nil)⟩
noncomputable def Dp:S:=.set 1 (.lst .nil)
noncomputable def Dq:S:=.set 2 (.c (.int 0))
noncomputable def Dr:S:=.set 3 (.c (.str []))
noncomputable def Ds:S:=.set 4 (.c (.str []))
noncomputable def Dt(fj:Nat):Ss:=(.cons (.iff (.cmp .eq (.v 5) (.c (.str [100,114,111,112]))) (.cons (.set 3 (.bin .add (.v 3) (.v 6))) .nil) (.cons (.iff (.cmp .eq (.v 5) (.c (.str [112,117,116]))) (.cons (.set 4 (.bin .add (.v 4) (.v 6))) .nil) (.cons (.iff (.cmp .gt (.v 6) (.c (.int 0))) (.cons (.iff (.orr (.cmp .ne (.v 3) (.c (.str []))) (.cmp .ne (.v 4) (.c (.str [])))) (.cons (.exp (.me .extend (.v 1) (.cons (.cl fj (.cons (.v 2) (.cons (.v 3) (.cons (.v 4) .nil)))) .nil))) (.cons (.set 2 (.c (.int 0))) (.cons (.set 3 (.c (.str []))) (.cons (.set 4 (.c (.str []))) .nil)))) .nil) (.cons (.set 2 (.bin .add (.v 2) (.v 6))) .nil)) .nil) .nil)) .nil)) .nil)
noncomputable def Dv(fj:Nat):S:=.for (.many [5,6]) (.seq (.v 0)) (Dt fj)
noncomputable def Dw(fj:Nat):S:=.exp (.me .extend (.v 1) (.cons (.cl fj (.cons (.v 2) (.cons (.v 3) (.cons (.v 4) .nil)))) .nil))
noncomputable def Dy:S:=.ret (.iG (.v 1))
noncomputable def nu(fj:Nat):Fn:=⟨1,7,(.cons Dp (.cons Dq (.cons Dr (.cons Ds (.cons (Dv fj) (.cons (Dw fj) (.cons Dy .nil)))))))⟩
noncomputable def vY:S:=.set 3 (.lst .nil)
noncomputable def vZ:S:=.iff (.cmp .gt (.v 0) (.c (.int 0))) (.cons (.exp (.me .append (.v 3) (.cons (.tup (.cons (.c (.str [107,101,101,112])) (.cons (.v 0) .nil))) .nil))) .nil) .nil
noncomputable def oO:S:=.iff (.cmp .ne (.v 1) (.c (.str []))) (.cons (.exp (.me .append (.v 3) (.cons (.tup (.cons (.c (.str [100,114,111,112])) (.cons (.v 1) .nil))) .nil))) .nil) .nil
noncomputable def ko:S:=.iff (.cmp .ne (.v 2) (.c (.str []))) (.cons (.exp (.me .append (.v 3) (.cons (.tup (.cons (.c (.str [112,117,116])) (.cons (.v 2) .nil))) .nil))) .nil) .nil
noncomputable def iU:S:=.ret (.v 3)
noncomputable def gX:Fn:=⟨3,4,(.cons vY (.cons vZ (.cons oO (.cons ko (.cons iU .nil)))))⟩
noncomputable def Pt.n:Pt->Nat
 |.keep n=>n
 |.put s=>s.length
 |.drop s=>s.length
noncomputable def tot(c:List Pt):Nat:=(c.map Pt.n).sum
theorem gj(a b:List Pt):tot (a++b)=tot a+tot b:=by simp[tot]
theorem cE(p:Pt)(c:List Pt):tot (p :: c)=p.n+tot c:=by simp[tot]
noncomputable def iE:Pt->Bool
 |.put _=>true
 |_=>false
noncomputable def fU:Pt->Bool
 |.drop _=>true
 |_=>false
noncomputable def eU:Pt->Bool
 |.keep _=>true
 |_=>false
noncomputable def bF(c:List Pt):Nat:=tot (c.filter λp=>!iE p)
noncomputable def fC(c:List Pt):Nat:=tot (c.filter λp=>!fU p)
noncomputable def cst(c:List Pt):Nat:=tot (c.filter λp=>!eU p)
section
variable{F:List Fn}{w n aE i:Nat}
theorem lJ(hs:F[i]?=some eT)(p:Pt)(hp:p.n<=100000):run F w (n+1) i [.val p.v]=some (.int p.n,[]):=by
 cases p with
 |keep k=>exact cg hs rfl (aj (aM (b:=true) (aJ rfl (bM (dX (az rfl) (aI rfl) rfl) (aI rfl) lI) rfl) (λ_=>aj (bZ (dX (az rfl) (aI rfl) rfl) ⟨rfl,rfl⟩)) nofun))
 |put s=>exact cg hs rfl (aj (aM (b:=false) (aJ rfl (bM (dX (az rfl) (aI rfl) rfl) (aI rfl) lI) rfl) nofun (λ_=>aC (aj (bZ (jj (ak (dX (az rfl) (aI rfl) rfl) av) (len_str hp)) ⟨rfl,rfl⟩)))))
 |drop s=>exact cg hs rfl (aj (aM (b:=false) (aJ rfl (bM (dX (az rfl) (aI rfl) rfl) (aI rfl) lI) rfl) nofun (λ_=>aC (aj (bZ (jj (ak (dX (az rfl) (aI rfl) rfl) av) (len_str hp)) ⟨rfl,rfl⟩)))))
theorem Rt{c:List Pt}{p:Pt}(h:p∈c):p.n<=tot c:=by
 induction c with
 |nil=>simp at h
 |cons q c ih=>
  rw[cE];rcases List.mem_cons.mp h with rfl|h
  .omega
  .have:=ih h;omega
theorem OE(c:List Pt):(c.map λp=>(p.n:Int)).sum=(tot c:Int):=by
 induction c with
 |nil=>rfl
 |cons p c ih=>simp only[List.map_cons,List.sum_cons,ih,cE];omega
theorem rF{word:List Nat}{pr:Pt->Bool}(hs:F[aE]?=some eT)(hb:F[i]?=some ⟨1,2,.cons (.ret (.bi .sum (.cons (.comp (.cl aE (.cons (.v 1) .nil)) (.one 1) (.seq (.v 0)) (.yes (.cmp .ne (.ix (.v 1) (.c (.int 0))) (.c (.str word))))) .nil))) .nil⟩)
  (hw:∀p:Pt,∃x u,p.v=.tup [.str x,u]/\(!decide (x=word))=pr p) (c:List Pt) (h1:c.length<=10000) (h2:tot c<=100000):run F w (n+2) i [.val (aK c)]=some (.int (tot (c.filter pr)),[]):=by
 refine cg hb rfl (aj (bZ (jj (ak (Bm (kQ (jw rfl) rfl) rfl (uV (e:=Pt.v) (p:=pr) (g:=λp=>.int p.n) c λp hp=>?_) (iZ (cS ?_))) av) ?_) ⟨rfl,rfl⟩))
 .obtain⟨x,u,hx,Ug⟩:=hw p;have hcall:=λfr=>cT (fr:=fr) (lJ (w:=w) (n:=n) hs p (Nat.le_trans (Rt hp) h2));rw[hx]at hcall;rw[hx,<-Ug];exact HV rfl (aJ rfl (bM (dX (az rfl) (aI rfl) rfl) (aI rfl) jq) rfl) λ_=>b6 (aR rfl (az rfl) aY) (hcall _)
 .rw[List.length_map];exact Nat.le_trans (List.length_filter_le _ _) (Nat.le_trans h1 (by decide))
 .rw[Hx,zc (λp:Pt=>(p.n:Int))];show some (V.int _)=_;rw[OE]
theorem qu(hs:F[aE]?=some eT)(hb:F[i]?=some (jT aE))(c:List Pt)(h1:c.length<=10000)(h2:tot c<=100000):run F w (n+2) i [.val (aK c)]=some (.int (bF c),[]):=
 rF (pr:=λp=>!iE p) hs hb (λp=>by cases p<;>exact⟨_,_,rfl,rfl⟩) c h1 h2
theorem sW(hs:F[aE]?=some eT)(hb:F[i]?=some (kR aE))(c:List Pt)(h1:c.length<=10000)(h2:tot c<=100000):run F w (n+2) i [.val (aK c)]=some (.int (fC c),[]):=
 rF (pr:=λp=>!fU p) hs hb (λp=>by cases p<;>exact⟨_,_,rfl,rfl⟩) c h1 h2
theorem vd(hs:F[aE]?=some eT)(hb:F[i]?=some (MA aE))(c:List Pt)(h1:c.length<=10000)(h2:tot c<=100000):run F w (n+2) i [.val (aK c)]=some (.int (cst c),[]):=
 rF (pr:=λp=>!eU p) hs hb (λp=>by cases p<;>exact⟨_,_,rfl,rfl⟩) c h1 h2
end
noncomputable def bW(k:Nat)(g w:List Nat):List Pt:=(if 0<k then [.keep k]else [])++(if g=[]then []else [.drop g])++(if w=[]then []else [.put w])
theorem kq(k:Nat)(g w:List Nat):(bW k g w).length<=3:=by unfold bW;split<;>split<;>split<;>simp
theorem oQ{F:List Fn}{w n i:Nat}(hs:F[i]?=some gX)(k:Nat)(g x:List Nat):run F w (n+1) i [.val (.int k),.val (.str g),.val (.str x)]=some (.lst ((bW k g x).map Pt.v),[]):=by
 refine cg hs rfl ?_;refine aj (iD (l:=[]) (by repeat array_get_dec) rfl rfl ?_);have ap:∀(l:List V) (d:V) (fr:Fr) (i:Nat),l.length<=3->fr[i]?=some (some (.own l))->gm .append i [d] fr fr[i]?=.ok .aQ (fr.set i (some (.own (l++[d])))):=λl d fr i h e=>by rw[e];exact kO (by omega)
 have fin:∀l:List V,Wp (exs (run F w n) w (.cons iU .nil) [some (.val (.int k)),some (.val (.str g)),some (.val (.str x)),some (.own l)]) λg fr=>g=.ret (.lst l)/\outs 3 fr=[]:=λl=>aj (bZ (by repeat array_get_dec) ⟨rfl,rfl⟩);have s3:∀l:List V,l.length<=2->Wp (exs (run F w n) w (.cons ko (.cons iU .nil)) [some (.val (.int k)),some (.val (.str g)),some (.val (.str x)),some (.own l)]) λg fr=>g=.ret (.lst (l++(if x=[]then []else [Pt.put x]).map Pt.v))/\outs 3 fr=[]:=λl hl=>by
  refine aj (aM (by repeat array_get_dec) (λh=>?_) λh=>?_)
  .have hx:x≠[]:=by simpa using h
   refine aj (gG (by (repeat array_get_dec);exact ap _ _ _ _ (by omega) rfl) (aC ?_));rw[if_neg hx];exact fin _
  .have hx:x=[]:=by simpa using h
   refine aC ?_;rw[if_pos hx,List.map_nil,List.append_nil];exact fin _
 have s2:∀l:List V,l.length<=1->Wp (exs (run F w n) w (.cons oO (.cons ko (.cons iU .nil))) [some (.val (.int k)),some (.val (.str g)),some (.val (.str x)),some (.own l)]) λy fr=>y=.ret (.lst (l++((if g=[]then []else [Pt.drop g])++(if x=[]then []else [Pt.put x])).map Pt.v))/\outs 3 fr=[]:=λl hl=>by
  refine aj (aM (by repeat array_get_dec) (λh=>?_) λh=>?_)
  .have hx:g≠[]:=by simpa using h
   refine aj (gG (by (repeat array_get_dec);exact ap _ _ _ _ (by omega) rfl) (aC ?_));rw[if_neg hx,List.map_append,<-List.append_assoc];exact s3 _ (by simp;omega)
  .have hx:g=[]:=by simpa using h
   refine aC ?_;rw[if_pos hx,List.nil_append];exact s3 _ (by omega)
 refine aj (aM (by repeat array_get_dec) (λh=>?_) λh=>?_)
 .have hx:0<k:=by have:=of_decide_eq_true h;omega
  refine aj (gG (by (repeat array_get_dec);exact ap _ _ _ _ (by decide) rfl) (aC ?_));unfold bW;rw[if_pos hx,List.append_assoc];exact s2 _ (Nat.le_refl 1)
 .have hx:¬ 0<k:=by have:=of_decide_eq_false h;omega
  refine aC ?_;unfold bW;rw[if_neg hx];exact s2 _ (by decide)
abbrev FS:=List Pt×Nat×List Nat×List Nat
noncomputable def bD(st:FS):Pt->FS
 |.drop s=>(st.1,st.2.1,st.2.2.1++s,st.2.2.2)
 |.put s=>(st.1,st.2.1,st.2.2.1,st.2.2.2++s)
 |.keep k=>if 0<k then (if st.2.2.1=[]/\st.2.2.2=[]then (st.1,st.2.1+k,[],[])else (st.1++bW st.2.1 st.2.2.1 st.2.2.2,k,[],[]))else st
noncomputable def eV:FS:=([],0,[],[])
noncomputable def cU(st:FS):List Pt:=st.1++bW st.2.1 st.2.2.1 st.2.2.2
noncomputable def aD(c:List Pt):List Pt:=cU (c.foldl bD eV)
theorem Ia(p:List Pt)(a:Pt):(p++[a]).foldl bD eV=bD (p.foldl bD eV) a:=by simp
theorem ve(c:List Pt):∀st:FS,(c.foldl bD st).1.length<=st.1.length+3*c.length/\(c.foldl bD st).2.2.1.length<=st.2.2.1.length+tot c/\(c.foldl bD st).2.2.2.length<=st.2.2.2.length+tot c:=by
 induction c with
 |nil=>intro st;simp[tot]
 |cons p c ih=>
  intro st;have h:=ih (bD st p);have h2:(bD st p).1.length<=st.1.length+3/\(bD st p).2.2.1.length<=st.2.2.1.length+p.n/\(bD st p).2.2.2.length<=st.2.2.2.length+p.n:=by
   have:=kq st.2.1 st.2.2.1 st.2.2.2;cases p with
   |drop s=>simp[bD,Pt.n]
   |put s=>simp[bD,Pt.n]
   |keep k=>
    simp only[bD];split
    .split
     .simp
     .simp;omega
    .simp
  simp only[List.foldl_cons,List.length_cons,cE];omega
theorem iO{F:List Fn}{w n aZ i:Nat}(hs:F[aZ]?=some gX)(hf:F[i]?=some (nu aZ))(c:List Pt)(h1:c.length<=10000)(h2:tot c<=10000):run F w (n+2) i [.val (aK c)]=some (aK (aD c),[]):=by
 refine cg hf rfl ?_;refine aj (iD (l:=[]) (by repeat array_get_dec) rfl rfl ?_);refine aj (bh (by repeat array_get_dec) rfl rfl ?_);refine aj (bh (by repeat array_get_dec) rfl rfl ?_);refine aj (bh (by repeat array_get_dec) rfl rfl ?_);refine aj (nT (vs:=c.map Pt.v) (kQ (jw rfl) rfl) ?_);have ext:∀(st:FS) (fr:Fr),st.1.length<=30010->gm .extend 1 [.lst ((bW st.2.1 st.2.2.1 st.2.2.2).map Pt.v)] fr (some (some (.own (st.1.map Pt.v))))=.ok .aQ (fr.set 1 (some (.own ((cU st).map Pt.v)))):=λst fr h=>by
  have:=kq st.2.1 st.2.2.1 st.2.2.2;unfold cU;rw[List.map_append];exact xT (by simp;omega)
 refine iN (e:=Pt.v) (λp l fr=>p++l=c/\∃a b,vo a/\vo b/\fr=[some (.val (aK c)),some (.own ((p.foldl bD eV).1.map Pt.v)),some (.val (.int (p.foldl bD eV).2.1)),some (.val (.str (p.foldl bD eV).2.2.1)),some (.val (.str (p.foldl bD eV).2.2.2)),a,b]) (λp x l fr ⟨hpl,a,b,ha,hb,hfr⟩=>?_) (λp fr ⟨hpl,a,b,ha,hb,hfr⟩=>?_) c [] _ ⟨rfl,none,none,.none,.none,rfl⟩
 .subst hfr;obtain⟨b1,b2,b3⟩:=ve p eV;have hlen:p.length+l.length+1=c.length:=by rw[<-hpl];simp;omega
  have MB:tot p+x.n+tot l=tot c:=by rw[<-hpl,gj,cE];omega
  rw[Ia];have lK:(p++[x])++l=c:=by simpa using hpl
  generalize p.foldl bD eV=st at *
  simp[eV]at b1 b2 b3;have rs:=λfr=>gg (fr:=fr) (oQ (w:=w) (n:=n) hs st.2.1 st.2.2.1 st.2.2.2);have ex:=λfr=>ext st fr (by omega);cases x with
  |drop s=>
   have hs:s.length<=tot c:=by simp only[Pt.n]at MB;omega
   have ad:=lE (a:=st.2.2.1) (b:=s) (by omega);refine gu (jr rfl ha rfl hb) (aj (aM (by repeat array_get_dec) (λ_=>?_) λh=>absurd h (by decide)));refine aj (bh (by repeat array_get_dec) rfl rfl (aC (aC ?_)));rw[gf];exact⟨lK,_,_,.val,.val,rfl⟩
  |put s=>
   have hs:s.length<=tot c:=by simp only[Pt.n]at MB;omega
   have ad:=lE (a:=st.2.2.2) (b:=s) (by omega);refine gu (jr rfl ha rfl hb) (aj (aM (by repeat array_get_dec) (λh=>absurd h (by decide)) λ_=>?_));refine aj (aM (by repeat array_get_dec) (λ_=>?_) λh=>absurd h (by decide));refine aj (bh (by repeat array_get_dec) rfl rfl (aC (aC (aC ?_))));rw[gf];exact⟨lK,_,_,.val,.val,rfl⟩
  |keep k=>
   refine gu (jr rfl ha rfl hb) (aj (aM (by repeat array_get_dec) (λh=>absurd h (by decide)) λ_=>?_));refine aj (aM (by repeat array_get_dec) (λh=>absurd h (by decide)) λ_=>?_);refine aj (aM (by repeat array_get_dec) (λh=>?_) λh=>?_)
   .have hk:0<k:=by have:=of_decide_eq_true h;omega
    by_cases hg:st.2.2.1=[]/\st.2.2.2=[]
    .have n1:cop .ne (.str st.2.2.1) (.str [])=some false:=by rw[jq,hg.1];rfl
     have n2:cop .ne (.str st.2.2.2) (.str [])=some false:=by rw[jq,hg.2];rfl
     refine aj (aM (b:=false) (qt (aJ rfl (by repeat array_get_dec) rfl) (aJ rfl (by repeat array_get_dec) rfl)) (λh=>absurd h (by decide)) λ_=>aC ?_);refine aj (bh (by repeat array_get_dec) rfl rfl (aC (aC (aC (aC ?_)))));rw[gf];refine⟨lK,some (.val (.str ef)),some (.val (.int k)),.val,.val,?_⟩;simp only[bD,if_pos hk,if_pos hg];rw[hg.1,hg.2];rfl
    .have tt:aF (run F w (n+1)) (.orr (.cmp .ne (.v 3) (.c (.str []))) (.cmp .ne (.v 4) (.c (.str [])))) [some (.val (aK c)),some (.own (st.1.map Pt.v)),some (.val (.int st.2.1)),some (.val (.str st.2.2.1)),some (.val (.str st.2.2.2)),some (.val (.str ef)),some (.val (.int k))]=.ok true [some (.val (aK c)),some (.own (st.1.map Pt.v)),some (.val (.int st.2.1)),some (.val (.str st.2.2.1)),some (.val (.str st.2.2.2)),some (.val (.str ef)),some (.val (.int k))]:=by
      by_cases h3:st.2.2.1=[]
      .have h4:¬ st.2.2.2=[]:=λz=>hg ⟨h3,z⟩;have n1:cop .ne (.str st.2.2.1) (.str [])=some false:=by rw[jq,h3];rfl
       have n2:cop .ne (.str st.2.2.2) (.str [])=some true:=by rw[jq,decide_eq_false h4];rfl
       exact qt (aJ rfl (by repeat array_get_dec) rfl) (aJ rfl (by repeat array_get_dec) rfl)
      .have n1:cop .ne (.str st.2.2.1) (.str [])=some true:=by rw[jq,decide_eq_false h3];rfl
       exact Bo (aJ rfl (by repeat array_get_dec) rfl)
     refine aj (aM tt (λ_=>?_) λh=>absurd h (by decide));refine aj (gG (by (repeat (first|array_get_dec|exact rs _|exact ex _))) ?_);refine aj (bh (by repeat array_get_dec) rfl rfl ?_);refine aj (bh (by repeat array_get_dec) rfl rfl ?_);refine aj (bh (by repeat array_get_dec) rfl rfl (aC ?_));refine aj (bh (by repeat array_get_dec) rfl rfl (aC (aC (aC (aC ?_)))));rw[gf];refine⟨lK,some (.val (.str ef)),some (.val (.int k)),.val,.val,?_⟩;simp only[bD,if_pos hk,if_neg hg];rw[Int.zero_add];rfl
   .have hk:¬ 0<k:=by have:=of_decide_eq_false h;omega
    refine aC (aC (aC (aC ?_)));rw[gf];refine⟨lK,some (.val (.str ef)),some (.val (.int k)),.val,.val,?_⟩;simp only[bD,if_neg hk];rfl
 .subst hfr;simp at hpl;subst hpl;obtain⟨b1,b2,b3⟩:=ve p eV;have e:aD p=cU (p.foldl bD eV):=rfl;rw[e];generalize p.foldl bD eV=st at *
  simp[eV]at b1 b2 b3;have sl:=kq st.2.1 st.2.2.1 st.2.2.2;have rs:=λfr=>gg (fr:=fr) (oQ (w:=w) (n:=n) hs st.2.1 st.2.2.1 st.2.2.2);have ex:=λfr=>ext st fr (by omega);have mk:toT (.lst ((cU st).map Pt.v))=some (aK (cU st)):=by rw[xQ];exact kN (cS (by simp[cU];omega))
  refine aj (gG (by (repeat (first|array_get_dec|exact rs _|exact ex _))) ?_);exact aj (bZ (zk (az rfl) mk) ⟨rfl,rfl⟩)
end Pv
namespace Pv
open Ev (D bw bq TY BI ME T E Es Eo It S Ss Fn big deep b2i rep bV dM bB aO cut b8 dz slots)
section
variable{o:Option Sl}{l:List V}{fr:Fr}{i:Nat}{s:Sl}
end
inductive Tq where
 |at (i:Nat)|sg (c:Nat)
deriving DecidableEq
noncomputable def Pt.asks:Pt->List (List Nat)
 |.keep n=>List.replicate n []
 |.drop s=>s.map λc=>[c]
 |.put _=>[]
noncomputable def asks(c:List Pt):List (List Nat):=c.flatMap Pt.asks
noncomputable def Pt.told(k:Nat):Pt->List Tq
 |.keep n=>(List.range n).map λj=>.at (k+j)
 |.drop _=>[]
 |.put s=>s.map .sg
noncomputable def told(k:Nat):List Pt->List Tq
 |[]=>[]
 |p :: c=>p.told k++told (k+p.asks.length) c
theorem dY(a b:List Pt):asks (a++b)=asks a++asks b:=by simp[asks]
theorem gO(a b:List Pt):∀k,told k (a++b)=told k a++told (k+(asks a).length) b:=by
 induction a with
 |nil=>intro k;simp[told,asks]
 |cons p a ih=>
  intro k;simp only[List.cons_append,told,ih,List.append_assoc]
  congr 3
  simp[asks];omega
noncomputable def j4(c:List Pt):List (List Nat)×List Tq:=(asks c,told 0 c)
noncomputable def Pt.word:Pt->List Nat
 |.keep _=>ef
 |.put _=>nj
 |.drop _=>j3
noncomputable def qv(a b:List Nat):Bool:=!(decide (a=b) || (decide (a=nj)&&decide (b=j3)))
noncomputable def ku:List (List Nat)->Bool
 |a :: b :: r=>qv a b&&ku (b :: r)
 |_=>true
noncomputable def MC(p:Pt):Bool:=p.n != 0
noncomputable def kT(c:List Pt):Bool:=ku (c.map Pt.word)&&c.all MC
theorem eW(k:Nat)(g x:List Nat):asks (bW k g x)=List.replicate k []++g.map λc=>[c]:=by
  unfold bW;by_cases hk:0<k<;>by_cases hg:g=[]<;>by_cases hx:x=[]<;>simp[hk,hg,hx,asks,Pt.asks]
  all_goals (have:k=0:=by omega
             subst this;simp)
theorem iF(k:Nat)(g x:List Nat)(j:Nat):told j (bW k g x)=(List.range k).map (λi=>Tq.at (j+i))++x.map Tq.sg:=by
  unfold bW;by_cases hk:0<k<;>by_cases hg:g=[]<;>by_cases hx:x=[]<;>simp[hk,hg,hx,told,Pt.told,Pt.asks]
  all_goals (have:k=0:=by omega
             subst this;simp)
theorem zu(st:FS)(p:Pt):asks (cU (bD st p))=asks (cU st++[p])/\∀j,told j (cU (bD st p))=told j (cU st++[p]):=by
 obtain⟨ps,k,g,x⟩:=st;have e1:∀a:List Pt,asks (a++[p])=asks a++p.asks:=λa=>by simp[asks]
 have e2:∀(a:List Pt) j,told j (a++[p])=told j a++p.told (j+(asks a).length):=λa j=>by simp[gO,told]
 rw[e1];cases p with
 |drop s=>
  refine⟨by simp[bD,cU,dY,eW,Pt.asks],λj=>?_⟩;rw[e2];simp[bD,cU,gO,iF,Pt.told]
 |put s=>
  refine⟨by simp[bD,cU,dY,eW,Pt.asks],λj=>?_⟩;rw[e2];simp[bD,cU,gO,iF,Pt.told]
 |keep m=>
  simp only[bD];split
  .split
   .rename_i h;obtain⟨rfl,rfl⟩:=h;refine⟨by simp[cU,dY,eW,Pt.asks],λj=>?_⟩;rw[e2];simp[cU,dY,gO,iF,eW,Pt.told,List.range_add,Nat.add_assoc]
   .refine⟨by simp[cU,dY,eW,Pt.asks],λj=>?_⟩;rw[e2];simp[cU,dY,gO,iF,eW,Pt.told,Nat.add_assoc]
  .rename_i h;have:m=0:=by omega
   subst this;refine⟨by simp[Pt.asks],λj=>?_⟩;rw[e2];simp[Pt.told]
theorem qw(c:List Pt):∀st:FS,asks (cU (c.foldl bD st))=asks (cU st++c)/\∀j,told j (cU (c.foldl bD st))=told j (cU st++c):=by
 induction c with
 |nil=>intro st;simp
 |cons p c ih=>
  intro st;obtain⟨h1,h2⟩:=ih (bD st p);obtain⟨h3,h4⟩:=zu st p;simp only[List.foldl_cons];have e:cU st++p :: c=(cU st++[p])++c:=by simp
  refine⟨?_,λj=>?_⟩
  .rw[h1,e,dY,dY _ c,h3]
  .rw[h2 j,e,gO,gO _ c,h4 j,h3]
theorem fV(c:List Pt):asks (aD c)=asks c:=by
 have:=(qw c eV).1;simpa[aD,eV,cU,bW]using this
theorem dU(c:List Pt)(j:Nat):told j (aD c)=told j c:=by
 have:=(qw c eV).2 j;simpa[aD,eV,cU,bW]using this
theorem lM(c:List Pt):j4 (aD c)=j4 c:=by simp[j4,fV,dU]
noncomputable def kps(c:List Pt):Nat:=tot (c.filter eU)
theorem pH(c:List Pt):(asks c).length=bF c:=by
 induction c with
 |nil=>rfl
 |cons p c ih=>cases p<;>simp[asks,bF,tot,iE,Pt.asks,Pt.n]at ih ⊢<;>omega
theorem lN(c:List Pt):∀j,(told j c).length=fC c:=by
 induction c with
 |nil=>intro j;rfl
 |cons p c ih=>intro j;cases p<;>simp[told,fC,tot,fU,Pt.told,Pt.n,ih]at ih ⊢
theorem qx(n:Nat)(c:List Pt):bF (.keep n :: c)=n+bF c:=by simp[bF,tot,iE,Pt.n]
theorem qy(s:List Nat)(c:List Pt):bF (.drop s :: c)=s.length+bF c:=by simp[bF,tot,iE,Pt.n]
theorem qz(s:List Nat)(c:List Pt):bF (.put s :: c)=bF c:=by simp[bF,tot,iE,Pt.n]
theorem zv(n:Nat)(c:List Pt):fC (.keep n :: c)=n+fC c:=by simp[fC,tot,fU,Pt.n]
theorem zw(s:List Nat)(c:List Pt):fC (.drop s :: c)=fC c:=by simp[fC,tot,fU,Pt.n]
theorem zx(s:List Nat)(c:List Pt):fC (.put s :: c)=s.length+fC c:=by simp[fC,tot,fU,Pt.n]
theorem E6(n:Nat)(c:List Pt):cst (.keep n :: c)=cst c:=by simp[cst,tot,eU,Pt.n]
theorem E7(s:List Nat)(c:List Pt):cst (.drop s :: c)=s.length+cst c:=by simp[cst,tot,eU,Pt.n]
theorem E8(s:List Nat)(c:List Pt):cst (.put s :: c)=s.length+cst c:=by simp[cst,tot,eU,Pt.n]
theorem E9(n:Nat)(c:List Pt):kps (.keep n :: c)=n+kps c:=by simp[kps,tot,List.filter_cons,eU,Pt.n]
theorem Fb(s:List Nat)(c:List Pt):kps (.drop s :: c)=kps c:=by simp[kps,tot,eU,Pt.n]
theorem Fc(s:List Nat)(c:List Pt):kps (.put s :: c)=kps c:=by simp[kps,tot,eU,Pt.n]
noncomputable def isAt:Tq->Bool
 |.at _=>true
 |_=>false
theorem Bv(c:List Pt):∀j,((told j c).filter isAt).length=kps c:=by
 induction c with
 |nil=>intro j;rfl
 |cons p c ih=>
  intro j;have e1:∀(m:Nat) (f:Nat->Nat),(((List.range m).map λi=>Tq.at (f i)).filter isAt).length=m:=λm f=>by
   rw[List.filter_eq_self.mpr]
   .simp
   .intro a ha;obtain⟨i,_,rfl⟩:=List.mem_map.mp ha;rfl
  have e2:∀s:List Nat,((s.map Tq.sg).filter isAt).length=0:=λs=>by
   rw[List.filter_eq_nil_iff.mpr]
   .rfl
   .intro a ha;obtain⟨i,_,rfl⟩:=List.mem_map.mp ha;simp[isAt]
  cases p with
  |keep m=>simp only[told,Pt.told,List.filter_append,List.length_append,e1,ih,kps,tot,eU,List.filter_cons,if_true,List.map_cons,List.sum_cons,Pt.n]
  |put s=>simp only[told,Pt.told,List.filter_append,List.length_append,e2,ih,kps,eU,List.filter_cons];simp
  |drop s=>simp only[told,Pt.told,List.filter_append,List.length_append,ih,kps,eU,List.filter_cons];simp
theorem vf(c:List Pt):(cst c:Int)=bF c - kps c+fC c - kps c:=by
 induction c with
 |nil=>rfl
 |cons p c ih=>cases p<;>simp only[E6,E7,E8,qx,qy,qz,zv,zw,zx,E9,Fb,Fc]<;>omega
theorem vg(c:List Pt):tot c+kps c=bF c+fC c:=by
 induction c with
 |nil=>rfl
 |cons p c ih=>cases p<;>simp only[cE,Pt.n,qx,qy,qz,zv,zw,zx,E9,Fb,Fc]<;>omega
theorem vh(c:List Pt):bF (aD c)=bF c:=by rw[<-pH,<-pH,fV]
theorem vj(c:List Pt):fC (aD c)=fC c:=by rw[<-lN _ 0,<-lN _ 0,dU]
theorem vm(c:List Pt):kps (aD c)=kps c:=by rw[<-Bv _ 0,<-Bv _ 0,dU]
theorem jU(c:List Pt):cst (aD c)=cst c:=by
 have h1:=vf (aD c);have h2:=vf c;rw[vh,vj,vm]at h1;omega
theorem fW(c:List Pt):tot (aD c)=tot c:=by
 have h1:=vg (aD c);have h2:=vg c;rw[vh,vj,vm]at h1;omega
theorem xW:∀(a:List (List Nat)) (b:List (List Nat)),ku (a++b)=true↔ku a=true/\ku b=true/\∀x∈a.getLast?,∀y∈b.head?,qv x y=true
 |[],b=>by simp[ku]
 |[x],[]=>by simp[ku]
 |[x],y :: b=>by simp[ku,and_comm]
 |x :: y :: a,b=>by
  have:=xW (y :: a) b;simp only[List.cons_append]at this ⊢;simp only[ku,Bool.and_eq_true,this,List.getLast?_cons_cons];constructor
  .rintro⟨h1,h2,h3,h4⟩;exact⟨⟨h1,h2⟩,h3,h4⟩
  .rintro⟨⟨h1,h2⟩,h3,h4⟩;exact⟨h1,h2,h3,h4⟩
theorem v5(k:Nat)(g x:List Nat):kT (bW k g x)=true:=by
 unfold bW;by_cases hk:0<k<;>by_cases hg:g=[]<;>by_cases hx:x=[]<;>simp[hk,hg,hx,kT,MC,ku,qv,Pt.word,Pt.n,ef,nj,j3]
 all_goals omega
noncomputable def vn(st:FS):Prop:=kT st.1=true/\(st.1≠[]->0<st.2.1)/\∀p∈st.1.getLast?,p.word≠ef
theorem Ib{a b:List Pt}(ha:kT a=true)(hb:kT b=true)(h:∀p∈a.getLast?,∀q∈b.head?,qv p.word q.word=true):kT (a++b)=true:=by
 simp only[kT,Bool.and_eq_true]at ha hb ⊢;refine⟨?_,by rw[List.all_append,ha.2,hb.2];rfl⟩;rw[List.map_append,xW];refine⟨ha.1,hb.1,λx hx y hy=>?_⟩;simp at hx hy;obtain⟨p,hp,rfl⟩:=hx;obtain⟨q,hq,rfl⟩:=hy;exact h p hp q hq
theorem vp{k:Nat}{g x:List Nat}(hk:0<k):(bW k g x).head?=some (.keep k):=by simp[bW,hk]
theorem Ic{w:List Nat}(h:w≠ef)(hw:w=nj\/w=j3):qv w ef=true:=by
 rcases hw with rfl|rfl<;>decide
theorem Ie(p:Pt):p.word=ef\/p.word=nj\/p.word=j3:=by cases p<;>simp[Pt.word]
theorem vq{st:FS}(h:vn st):kT (cU st)=true:=by
 refine Ib h.1 (v5 _ _ _) λp hp q hq=>?_;have hne:st.1≠[]:=by intro z;rw[z]at hp;simp at hp
 rw[vp (h.2.1 hne)]at hq;simp at hq;subst hq;have hw:=h.2.2 p hp;exact Ic hw ((Ie p).resolve_left hw)
theorem vt{k:Nat}{g x:List Nat}(h:¬ (g=[]/\x=[])):∀p∈(bW k g x).getLast?,p.word≠ef:=by
 unfold bW;by_cases hx:x=[]
 .have hg:g≠[]:=λz=>h ⟨z,hx⟩;intro p hp;simp[hg,hx]at hp;subst hp;simp[Pt.word,j3,ef]
 .intro p hp;simp[hx]at hp;subst hp;simp[Pt.word,nj,ef]
theorem Bw{st:FS}(h:vn st)(p:Pt):vn (bD st p):=by
 cases p with
 |drop s=>exact h
 |put s=>exact h
 |keep k=>
  simp only[bD];split
  .rename_i hk;split
   .exact⟨h.1,λz=>by simp;omega,h.2.2⟩
   .rename_i P4;refine⟨vq h,λ_=>hk,λp hp=>?_⟩;rw[List.getLast?_append]at hp;cases z:(bW st.2.1 st.2.2.1 st.2.2.2).getLast? with
    |none=>
     exfalso;rw[List.getLast?_eq_none_iff]at z;unfold bW at z;by_cases hx:st.2.2.2=[]<;>by_cases hg:st.2.2.1=[]<;>simp[hx,hg]at z P4
    |some q=>
     rw[z]at hp;simp at hp;subst hp;exact vt P4 q z
  .exact h
theorem iP(c:List Pt):kT (aD c)=true:=by
 have:∀(c:List Pt) (st:FS),vn st->vn (c.foldl bD st):=λc=>by
  induction c with
  |nil=>exact λst h=>h
  |cons p c ih=>exact λst h=>ih _ (Bw h p)
 exact vq (this c eV ⟨rfl,λz=>absurd rfl z,λp hp=>by simp[eV]at hp⟩)
end Pv
namespace Pv
open Ev (D bw bq TY BI ME T E Es Eo It S Ss Fn big deep b2i rep bV dM bB aO cut b8 dz slots)
abbrev Bl:=List Nat×List Nat
abbrev BS:=List Bl×Bl
noncomputable def eg(st:BS):Pt->BS
 |.drop s=>(st.1,(st.2.1++s,st.2.2))
 |.put s=>(st.1,(st.2.1,st.2.2++s))
 |.keep 0=>st
 |.keep (n+1)=>(st.1++st.2 :: List.replicate n ([],[]),([],[]))
noncomputable def oR:BS:=([],([],[]))
noncomputable def blocks(c:List Pt):BS:=c.foldl eg oR
noncomputable def kU(st:List Pt×Nat)(b:Bl):List Pt×Nat:=if b.1=[]/\b.2=[]then (st.1,st.2+1)else (st.1++bW st.2 b.1 b.2,1)
noncomputable def pk(bs:List Bl):List Pt×Nat:=bs.foldl kU ([],0)
theorem Dz(n:Nat):∀st:List Pt×Nat,(List.replicate n (([],[]):Bl)).foldl kU st=(st.1,st.2+n):=by
 induction n with
 |zero=>intro st;simp
 |succ n ih=>intro st;simp[List.replicate_succ,kU,ih];omega
noncomputable def xX(st:BS):FS:=((pk st.1).1,(pk st.1).2,st.2.1,st.2.2)
theorem DA(st:BS)(p:Pt):bD (xX st) p=xX (eg st p):=by
 obtain⟨bs,g,x⟩:=st;cases p with
 |drop s=>rfl
 |put s=>rfl
 |keep n=>
  cases n with
  |zero=>rfl
  |succ n=>
   have e:pk (bs++(g,x) :: List.replicate n ([],[]))=((kU (pk bs) (g,x)).1,(kU (pk bs) (g,x)).2+n):=by
    simp only[pk,List.foldl_append,List.foldl_cons,Dz]
   simp only[xX,eg,e,bD,Nat.succ_pos,if_true,kU];by_cases h:g=[]/\x=[]
   .simp[h];omega
   .simp[h];omega
theorem DB(c:List Pt):∀st:BS,c.foldl bD (xX st)=xX (c.foldl eg st):=by
 induction c with
 |nil=>intro st;rfl
 |cons p c ih=>intro st;simp only[List.foldl_cons,DA,ih]
theorem iV(c:List Pt):aD c=cU (xX (blocks c)):=by
 unfold aD blocks;rw[<-DB];rfl
noncomputable def Bx(st:List (List Nat)×List Nat):List Nat->List (List Nat)×List Nat
 |[]=>(st.1++[st.2],[])
 |c :: _=>(st.1,st.2++[c])
noncomputable def spT(st:List (List Nat)×List Nat):Tq->List (List Nat)×List Nat
 |.at _=>(st.1++[st.2],[])
 |.sg c=>(st.1,st.2++[c])
theorem By(s:List Nat):∀st,(s.map λc=>[c]).foldl Bx st=(st.1,st.2++s):=by
 induction s with
 |nil=>intro st;simp
 |cons c s ih=>intro st;simp[Bx,ih]
theorem DC(n:Nat):∀st,(List.replicate n []).foldl Bx st=if n=0 then st else (st.1++st.2 :: List.replicate (n - 1) [],[]):=by
 induction n with
 |zero=>intro st;rfl
 |succ n ih=>
  intro st;simp only[List.replicate_succ,List.foldl_cons,Bx,ih];cases n with
  |zero=>simp
  |succ n=>simp[List.replicate_succ]
theorem BA(s:List Nat):∀st,(s.map Tq.sg).foldl spT st=(st.1,st.2++s):=by
 induction s with
 |nil=>intro st;simp
 |cons c s ih=>intro st;simp[spT,ih]
theorem DE(n:Nat):∀(k:Nat) st,((List.range n).map λj=>Tq.at (k+j)).foldl spT st=if n=0 then st else (st.1++st.2 :: List.replicate (n - 1) [],[]):=by
 induction n with
 |zero=>intro k st;rfl
 |succ n ih=>
  intro k st;rw[List.range_succ,List.map_append,List.foldl_append,ih];cases n with
  |zero=>simp[spT]
  |succ n=>
   simp[spT];rw[<-List.replicate_succ',List.replicate_succ]
theorem qA(c:List Pt):∀st:BS,(asks c).foldl Bx (st.1.map Prod.fst,st.2.1)=((c.foldl eg st).1.map Prod.fst,(c.foldl eg st).2.1):=by
 induction c with
 |nil=>intro st;rfl
 |cons p c ih=>
  intro st;have e:asks (p :: c)=p.asks++asks c:=by simp[asks]
  rw[e,List.foldl_append,List.foldl_cons,<-ih]
  congr 1
  cases p with
  |drop s=>simp[Pt.asks,By,eg]
  |put s=>simp[Pt.asks,eg]
  |keep n=>
   simp only[Pt.asks,DC];cases n with
   |zero=>rfl
   |succ n=>simp[eg]
theorem qB(c:List Pt):∀(k:Nat) (st:BS),(told k c).foldl spT (st.1.map Prod.snd,st.2.2)=((c.foldl eg st).1.map Prod.snd,(c.foldl eg st).2.2):=by
 induction c with
 |nil=>intro k st;rfl
 |cons p c ih=>
  intro k st;rw[told,List.foldl_append,List.foldl_cons,<-ih (k+p.asks.length)]
  congr 1
  cases p with
  |put s=>simp[Pt.told,BA,eg]
  |drop s=>simp[Pt.told,eg]
  |keep n=>
   simp only[Pt.told,DE];cases n with
   |zero=>rfl
   |succ n=>simp[eg]
theorem xY{α β:Type}:∀{a b:List (α×β)},a.map Prod.fst=b.map Prod.fst->a.map Prod.snd=b.map Prod.snd->a=b
 |[],[],_,_=>rfl
 |[],_ :: _,h,_=>by simp at h
 |_ :: _,[],h,_=>by simp at h
 | (x,y) :: a,(x',y') :: b,h1,h2=>by
  simp at h1 h2;rw[h1.1,h2.1,xY h1.2 h2.2]
theorem nv{a b:List Pt}(h:j4 a=j4 b):blocks a=blocks b:=by
 have hA:asks a=asks b:=congrArg Prod.fst h;have hT:told 0 a=told 0 b:=congrArg Prod.snd h;have a1:=qA a oR;have b1:=qA b oR;have a2:=qB a 0 oR;have b2:=qB b 0 oR;rw[hA,b1]at a1;rw[hT,b2]at a2;have e1:=congrArg Prod.fst a1;have e2:=congrArg Prod.snd a1;have e3:=congrArg Prod.fst a2;have e4:=congrArg Prod.snd a2;unfold blocks;exact Prod.ext (xY e1.symm e3.symm) (Prod.ext e2.symm e4.symm)
theorem pI(a b:List Pt):aD a=aD b↔j4 a=j4 b:=by
 constructor
 .intro h;rw[<-lM a,<-lM b,h]
 .intro h;rw[iV,iV,nv h]
theorem jb(a:List Pt):aD (aD a)=aD a:=(pI _ _).mpr (lM a)
noncomputable def Pt.sw:Pt->Pt
 |.keep n=>.keep n
 |.put s=>.drop s
 |.drop s=>.put s
noncomputable def sw(c:List Pt):List Pt:=c.map Pt.sw
theorem sX(c:List Pt):∀st:BS,(sw c).foldl eg (st.1.map Prod.swap,st.2.swap)=((c.foldl eg st).1.map Prod.swap,(c.foldl eg st).2.swap):=by
 induction c with
 |nil=>intro st;rfl
 |cons p c ih=>
  intro st;simp only[sw,List.map_cons,List.foldl_cons]at ih ⊢;rw[<-ih]
  congr 1
  cases p with
  |put s=>rfl
  |drop s=>rfl
  |keep n=>cases n<;>simp[Pt.sw,eg]
theorem Ig{a b:List Pt}(h:aD a=aD b):aD (sw a)=aD (sw b):=by
 have hb:=nv ((pI a b).mp h);rw[iV,iV];have a1:=sX a oR;have b1:=sX b oR;have e:blocks (sw a)=blocks (sw b):=by
  unfold blocks at hb ⊢;have z:((oR.1.map Prod.swap,oR.2.swap):BS)=oR:=rfl;rw[z]at a1 b1;rw[a1,b1,hb]
 rw[e]
noncomputable def Ru(c:List Pt):List Pt:=aD (sw c)
theorem MD(c:List Pt):bF (sw c)=fC c:=by
 induction c with
 |nil=>rfl
 |cons p c ih=>cases p<;>simp only[sw,List.map_cons,Pt.sw,qx,qy,qz,zv,zw,zx]at ih ⊢<;>omega
noncomputable def aV:List Pt->List Nat->Bool
 |[],t=>t.isEmpty
 |.keep n :: c,t=>decide (n<=t.length)&&aV c (t.drop n)
 |.drop s :: c,t=>s.isPrefixOf t&&aV c (t.drop s.length)
 |.put _ :: c,t=>aV c t
noncomputable def aB:List Pt->List Nat->List Nat
 |[],_=>[]
 |.keep n :: c,t=>t.take n++aB c (t.drop n)
 |.drop s :: c,t=>aB c (t.drop s.length)
 |.put s :: c,t=>s++aB c t
noncomputable def aP:List (List Nat)->List Nat->Bool
 |[],[]=>true
 |x :: a,c :: t=>(decide (x=[]) ||decide (x=[c]))&&aP a t
 |_,_=>false
theorem BB(n:Nat)(a:List (List Nat)):∀t,aP (List.replicate n []++a) t=(decide (n<=t.length)&&aP a (t.drop n)):=by
 induction n with
 |zero=>intro t;simp
 |succ n ih=>
  intro t;cases t with
  |nil=>simp[List.replicate_succ,aP]
  |cons c t=>simp[List.replicate_succ,aP,ih]
theorem BC(s:List Nat)(a:List (List Nat)):∀t,aP ((s.map λc=>[c])++a) t=(s.isPrefixOf t&&aP a (t.drop s.length)):=by
 induction s with
 |nil=>intro t;simp
 |cons c s ih=>
  intro t;cases t with
  |nil=>simp[aP]
  |cons d t=>
   simp only[List.map_cons,List.cons_append,aP,ih,List.isPrefixOf,List.length_cons,List.drop_succ_cons];by_cases h:c=d<;>simp[h]
theorem fY(c:List Pt):∀t,aV c t=aP (asks c) t:=by
 induction c with
 |nil=>intro t;cases t<;>rfl
 |cons p c ih=>
  intro t;have e:asks (p :: c)=p.asks++asks c:=by simp[asks]
  rw[e];cases p with
  |keep n=>simp[aV,Pt.asks,BB,ih]
  |drop s=>simp[aV,Pt.asks,BC,ih]
  |put s=>simp[aV,Pt.asks,ih]
theorem vv(c:List Pt)(t:List Nat):aV (aD c) t=aV c t:=by rw[fY,fY,fV]
noncomputable def pick(t:List Nat):Tq->List Nat
 |.at i=>(t[i]?).toList
 |.sg c=>[c]
theorem BD(c:List Pt):∀(t:List Nat) (k:Nat),aB c (t.drop k)=(told k c).flatMap (pick t):=by
 induction c with
 |nil=>intro t k;rfl
 |cons p c ih=>
  intro t k;rw[told,List.flatMap_append,<-ih];cases p with
  |put s=>
   simp only[aB,Pt.told,Pt.asks,List.length_nil,Nat.add_zero]
   congr 1
   induction s with
   |nil=>rfl
   |cons c s ih=>simp[pick]at ih ⊢;exact ih
  |drop s=>simp[aB,Pt.told,Pt.asks,Nat.add_comm]
  |keep n=>
   simp only[aB,Pt.told,Pt.asks,List.length_replicate,List.drop_drop]
   congr 1
   induction n generalizing k with
   |zero=>simp
   |succ n ihn=>
    rw[List.range_succ,List.map_append,List.flatMap_append,<-ihn];rw[List.take_add_one];simp[pick]
theorem gY(c:List Pt)(t:List Nat):aB (aD c) t=aB c t:=by
 have h1:=BD (aD c) t 0;have h2:=BD c t 0;rw[dU,<-h2]at h1;simpa using h1
theorem DF(c:List Pt):∀t,aV c t=true->aV (sw c) (aB c t)=true/\aB (sw c) (aB c t)=t:=by
 induction c with
 |nil=>intro t h;simp[aV]at h;subst h;simp[sw,aV,aB]
 |cons p c ih=>
  intro t h;cases p with
  |keep n=>
   simp only[aV,Bool.and_eq_true,decide_eq_true_eq]at h;obtain⟨h1,h2⟩:=ih _ h.2;have hl:(t.take n).length=n:=by simp;omega
   simp only[sw,List.map_cons,Pt.sw,aB,aV]at h1 h2 ⊢;have e1:(t.take n++aB c (t.drop n)).drop n=aB c (t.drop n):=by rw[List.drop_append_of_le_length (by omega),List.drop_eq_nil_of_le (by omega)];rfl
   have e2:(t.take n++aB c (t.drop n)).take n=t.take n:=by rw[List.take_append_of_le_length (by omega),List.take_take,Nat.min_self]
   rw[e1,e2,h1,h2];simp;omega
  |drop s=>
   simp only[aV,Bool.and_eq_true]at h;obtain⟨h1,h2⟩:=ih _ h.2;simp only[sw,List.map_cons,Pt.sw,aB,aV]at h1 h2 ⊢;rw[h2];refine⟨h1,?_⟩;obtain⟨r,rfl⟩:=List.isPrefixOf_iff_prefix.mp h.1;simp
  |put s=>
   simp only[aV]at h;obtain⟨h1,h2⟩:=ih _ h;simp only[sw,List.map_cons,Pt.sw,aB,aV]at h1 h2 ⊢;simp[h1,h2]
end Pv
namespace Pv
open Ev (D bw bq TY BI ME T E Es Eo It S Ss Fn big deep b2i rep bV dM bB aO cut b8 dz slots)
noncomputable def v8(dB:Nat):S:=.ret (.cl dB (.cons (.tup (.cons (.tup (.cons (.c (.str [107,101,101,112])) (.cons (.v 0) .nil))) .nil)) .nil))
noncomputable def ny(dB:Nat):Fn:=⟨1,1,(.cons (v8 dB) .nil)⟩
noncomputable def DG:S:=.set 2 (.c (.int 0))
noncomputable def DH:S:=.set 3 (.c (.str []))
noncomputable def DI:Ss:=(.cons (.iff (.cmp .eq (.v 4) (.c (.str [112,117,116]))) (.cons (.set 3 (.bin .add (.v 3) (.v 5))) .nil) (.cons (.iff (.cmp .eq (.v 4) (.c (.str [100,114,111,112]))) (.cons (.iff (.cmp .ne (.sl (.v 1) (.yes (.v 2)) (.yes (.bin .add (.v 2) (.bi .len (.cons (.v 5) .nil))))) (.v 5)) (.cons (.ret (.c (.aQ))) .nil) .nil) (.cons (.set 2 (.bin .add (.v 2) (.bi .len (.cons (.v 5) .nil)))) .nil)) (.cons (.set 3 (.bin .add (.v 3) (.sl (.v 1) (.yes (.v 2)) (.yes (.bin .add (.v 2) (.v 5)))))) (.cons (.set 2 (.bin .add (.v 2) (.v 5))) .nil))) .nil)) .nil)
noncomputable def DJ:S:=.for (.many [4,5]) (.seq (.v 0)) DI
noncomputable def DK:S:=.ret (.gk (.cmp .eq (.v 2) (.bi .len (.cons (.v 1) .nil))) (.v 3) (.c (.aQ)))
noncomputable def MF:Fn:=⟨2,6,(.cons DG (.cons DH (.cons DJ (.cons DK .nil))))⟩
theorem vz{α:Type}(l:List α)(p k:Nat):cut l (some (p:Int)) (some ((p:Int)+k))=(l.drop p).take k:=by
 have h1:¬ (p:Int)<0:=by omega
 have h2:¬ (p:Int)+k<0:=by omega
 have h3:((p:Int)+k).toNat=p+k:=by omega
 simp only[cut,aO,h1,h2,if_false,h3,Int.toNat_natCast];by_cases hp:p<=l.length
 .rw[Nat.min_eq_left hp];by_cases hk:p+k<=l.length
  .rw[Nat.min_eq_left hk];congr 1;omega
  .rw[Nat.min_eq_right (by omega),List.take_of_length_le (by simp),List.take_of_length_le (by simp;omega)]
 .have e1:min p l.length=l.length:=by omega
  rw[e1,List.drop_eq_nil_of_le (Nat.le_refl _),List.drop_eq_nil_of_le (by omega)];simp
theorem pre_take{s t:List Nat}:s.isPrefixOf t=decide (t.take s.length=s):=by
 cases h:s.isPrefixOf t with
 |true=>
  obtain⟨r,rfl⟩:=List.isPrefixOf_iff_prefix.mp h;simp
 |false=>
  symm
  rw[decide_eq_false_iff_not];intro e;have:s.isPrefixOf t=true:=List.isPrefixOf_iff_prefix.mpr (by have z:=List.take_prefix s.length t;rw[e]at z;exact z);rw[h]at this;cases this
theorem rG(a b:List Pt):bF (a++b)=bF a+bF b:=by simp[bF,tot]
theorem gZ{c:List Pt}:∀{t:List Nat},aV c t=true->t.length=bF c:=by
 induction c with
 |nil=>intro t h;simp[aV]at h;subst h;rfl
 |cons p c ih=>
  intro t h;cases p with
  |keep n=>simp only[aV,Bool.and_eq_true,decide_eq_true_eq]at h;have:=ih h.2;rw[qx];simp at this;omega
  |drop s=>
   simp only[aV,Bool.and_eq_true]at h;have h2:=ih h.2;obtain⟨r,rfl⟩:=List.isPrefixOf_iff_prefix.mp h.1;rw[qy];simp at h2 ⊢;omega
  |put s=>rw[qz];exact ih h
theorem lO(c:List Pt):∀t,(aB c t).length<=t.length+tot c:=by
 induction c with
 |nil=>intro t;simp[aB]
 |cons p c ih=>
  intro t;rw[cE];cases p with
  |keep n=>have:=ih (t.drop n);simp[aB,Pt.n]at this ⊢;omega
  |drop s=>have:=ih (t.drop s.length);simp[aB,Pt.n]at this ⊢;omega
  |put s=>have:=ih t;simp[aB,Pt.n]at this ⊢;omega
section
variable{F:List Fn}{w n aE vA bT aZ i:Nat}
end
end Pv
namespace Pv
open Ev (rep)
theorem BE(ns:List Int)(at_:Int)(s:List Nat)(k:Nat):tot (jt ns at_ s k)<=3:=by
 have h1:=jS ns (at_+4*k+2) (many:=2) (by decide);have h2:=jR ns (at_+4*k+2) (many:=2) (by decide);unfold jt;rw[gj];have a:tot (if cG ns (at_+4*k) 4=0 then [Pt.put (rep (1+cG ns (at_+4*k+2) 2).toNat [[97,98,122].getD (cG ns (at_+4*k+1) 3).toNat 0])]else [])<=2:=by
  split
  .simp[tot,Pt.n,rep];omega
  .simp[tot]
 cases s[k]? with
 |none=>simp[tot]at a ⊢;omega
 |some c=>
  have b:tot [if 0<cG ns (at_+4*k+3) 3 then Pt.keep 1 else Pt.drop [c]]<=1:=by split<;>simp[tot,Pt.n]
  simp only at b ⊢;omega
theorem sY(ns:List Int)(at_:Int)(s:List Nat):∀k,tot (fy ns at_ s k)<=3*k
 |0=>by simp[fy,tot]
 |k+1=>by
  have h1:=BE ns at_ s k;have h2:=sY ns at_ s k;rw[ju,gj];omega
theorem pJ:∀{a:List (List Nat)}{t:List Nat},aP a t=true->a.length=t.length
 |[],[],_=>rfl
 |x :: a,c :: t,h=>by simp[aP]at h;simp[pJ h.2]
 |[],_ :: _,h=>by simp[aP]at h
 |_ :: _,[],h=>by simp[aP]at h
theorem pK:∀{a b:List (List Nat)}{t u:List Nat},aP a t=true->aP b u=true->aP (a++b) (t++u)=true
 |[],_,[],_,_,hb=>hb
 |x :: a,b,c :: t,u,ha,hb=>by
  simp only[aP,Bool.and_eq_true]at ha;simp only[List.cons_append,aP,Bool.and_eq_true];exact⟨ha.1,pK ha.2 hb⟩
 |[],_,_ :: _,_,ha,_=>by simp[aP]at ha
 |_ :: _,_,[],_,ha,_=>by simp[aP]at ha
theorem Ih(ns:List Int)(at_:Int)(s:List Nat)(k:Nat):aP (asks (jt ns at_ s k)) (s[k]?).toList=true:=by
 unfold jt;rw[dY];have a:asks (if cG ns (at_+4*k) 4=0 then [Pt.put (rep (1+cG ns (at_+4*k+2) 2).toNat [[97,98,122].getD (cG ns (at_+4*k+1) 3).toNat 0])]else [])=[]:=by
  split<;>simp[asks,Pt.asks]
 rw[a];cases s[k]? with
 |none=>simp[asks,aP]
 |some c=>simp only;split<;>simp[asks,Pt.asks,aP]
theorem BF(ns:List Int)(at_:Int)(s:List Nat):∀k,aP (asks (fy ns at_ s k)) (s.take k)=true
 |0=>by simp[fy,asks,aP]
 |k+1=>by
  rw[ju,dY,List.take_add_one];exact pK (BF ns at_ s k) (Ih ns at_ s k)
theorem xZ(ns:List Int)(at_:Int)(s:List Nat):aV (chg ns at_ s) s=true:=by
 have:=BF ns at_ s (s.length+1);rw[List.take_of_length_le (by omega)]at this;rw[fY];exact this
end Pv
namespace Pv
inductive At where
 |k|d (c:Nat)|p (c:Nat)
noncomputable def Pt.aL:Pt->List At
 |.keep n=>List.replicate n .k
 |.drop s=>s.map .d
 |.put s=>s.map .p
noncomputable def aL(c:List Pt):List At:=c.flatMap Pt.aL
theorem jy(a b:List Pt):aL (a++b)=aL a++aL b:=by simp[aL]
theorem cV(p:Pt)(c:List Pt):aL (p :: c)=p.aL++aL c:=by simp[aL]
theorem vC(p:Pt):p.aL.length=p.n:=by cases p<;>simp[Pt.aL,Pt.n]
theorem jz(c:List Pt):(aL c).length=tot c:=by
 induction c with
 |nil=>rfl
 |cons p c ih=>rw[cV,List.length_append,vC,ih,cE]
noncomputable def tA:Nat->List At->List Tq
 |_,[]=>[]
 |i,.k :: a=>.at i :: tA (i+1) a
 |i,.d _ :: a=>tA (i+1) a
 |i,.p c :: a=>.sg c :: tA i a
noncomputable def aA:List At->List (List Nat)
 |[]=>[]
 |.k :: a=>[] :: aA a
 |.d c :: a=>[c] :: aA a
 |.p _ :: a=>aA a
noncomputable def dA:List At->List Nat->List Nat
 |[],_=>[]
 |.k :: a,t=>t.take 1++dA a (t.drop 1)
 |.d _ :: a,t=>dA a (t.drop 1)
 |.p c :: a,t=>c :: dA a t
noncomputable def oS:At->At
 |.k=>.k
 |.d c=>.p c
 |.p c=>.d c
noncomputable def cA:List At->Nat
 |[]=>0
 |.k :: a=>cA a
 |_ :: a=>cA a+1
theorem qC:∀a b:List At,aA (a++b)=aA a++aA b
 |[],_=>rfl
 |.k :: a,b=>by simp[aA,qC a b]
 |.d c :: a,b=>by simp[aA,qC a b]
 |.p c :: a,b=>by simp[aA,qC a b]
theorem qD:∀(a b:List At) (i:Nat),tA i (a++b)=tA i a++tA (i+(aA a).length) b
 |[],_,_=>rfl
 |.k :: a,b,i=>by simp[tA,aA,qD a b,Nat.add_assoc,Nat.add_comm 1]
 |.d c :: a,b,i=>by simp[tA,aA,qD a b,Nat.add_assoc,Nat.add_comm 1]
 |.p c :: a,b,i=>by simp[tA,aA,qD a b]
theorem qF:∀a b:List At,cA (a++b)=cA a+cA b
 |[],b=>by simp[cA]
 |.k :: a,b=>by simp[cA,qF a b]
 |.d c :: a,b=>by simp[cA,qF a b];omega
 |.p c :: a,b=>by simp[cA,qF a b];omega
theorem Fd(p:Pt):aA p.aL=p.asks:=by
 cases p with
 |keep n=>simp only[Pt.aL,Pt.asks];induction n<;>simp_all [List.replicate_succ,aA]
 |drop s=>simp only[Pt.aL,Pt.asks];induction s<;>simp_all [aA]
 |put s=>simp only[Pt.aL,Pt.asks];induction s<;>simp_all [aA]
theorem OF(p:Pt):∀i,tA i p.aL=p.told i:=by
 cases p with
 |keep n=>
  simp only[Pt.aL,Pt.told];induction n with
  |zero=>intro i;rfl
  |succ n ih=>intro i;simp only[List.replicate_succ,tA,ih,List.range_succ_eq_map,List.map_cons,List.map_map];simp[Function.comp_def,Nat.add_assoc,Nat.add_comm 1]
 |drop s=>intro i;simp only[Pt.aL,Pt.told];induction s generalizing i<;>simp_all [tA]
 |put s=>intro i;simp only[Pt.aL,Pt.told];induction s generalizing i<;>simp_all [tA]
theorem OG(p:Pt):cA p.aL=cst [p]:=by
 cases p with
 |keep n=>simp only[Pt.aL];rw[E6];induction n<;>simp_all [List.replicate_succ,cA,cst,tot]
 |drop s=>simp only[Pt.aL];rw[E7];induction s<;>simp_all [cA,cst,tot]
 |put s=>simp only[Pt.aL];rw[E8];induction s<;>simp_all [cA,cst,tot]
theorem fZ(c:List Pt):asks c=aA (aL c):=by
 induction c with
 |nil=>rfl
 |cons p c ih=>rw[cV,qC,Fd,<-ih];simp[asks]
theorem dZ(c:List Pt):∀i,told i c=tA i (aL c):=by
 induction c with
 |nil=>intro i;rfl
 |cons p c ih=>intro i;rw[cV,qD,OF,Fd,<-ih,told]
theorem nV(c:List Pt):cst c=cA (aL c):=by
 induction c with
 |nil=>rfl
 |cons p c ih=>
  rw[cV,qF,OG,<-ih];simp[cst,tot];cases p<;>simp[List.filter_cons,eU]
theorem vE(c:List Pt):aL (sw c)=(aL c).map oS:=by
 induction c with
 |nil=>rfl
 |cons p c ih=>
  have:aL (sw (p :: c))=p.sw.aL++aL (sw c):=by simp[aL,sw]
  rw[this,ih,cV,List.map_append]
  congr 1
  cases p<;>simp[Pt.sw,Pt.aL,oS,Function.comp_def]
theorem eH:∀(c:List Pt) (t:List Nat),aB c t=dA (aL c) t:=by
 have k:∀(n:Nat) (a:List At) (t:List Nat),dA (List.replicate n .k++a) t=t.take n++dA a (t.drop n):=λn=>by
  induction n with
  |zero=>intro a t;simp
  |succ n ih=>
   intro a t;simp only[List.replicate_succ,List.cons_append,dA,ih,List.drop_drop];cases t with
   |nil=>simp
   |cons c t=>simp[Nat.add_comm 1]
 have d:∀(s:List Nat) (a:List At) (t:List Nat),dA (s.map .d++a) t=dA a (t.drop s.length):=λs=>by
  induction s with
  |nil=>intro a t;simp
  |cons c s ih=>intro a t;simp[dA,ih,Nat.add_comm 1]
 have p:∀(s:List Nat) (a:List At) (t:List Nat),dA (s.map .p++a) t=s++dA a t:=λs=>by
  induction s with
  |nil=>intro a t;simp
  |cons c s ih=>intro a t;simp[dA,ih]
 intro c;induction c with
 |nil=>intro t;rfl
 |cons q c ih=>
  intro t;rw[cV];cases q with
  |keep n=>simp only[Pt.aL,k,aB,ih]
  |drop s=>simp only[Pt.aL,d,aB,ih]
  |put s=>simp only[Pt.aL,p,aB,ih]
noncomputable def BG:List At->Bool
 |.d _ :: _=>false
 |_=>true
inductive Th:List At->List At->List At->Prop
 |nil:Th [] [] []
 |d {a b r c}:Th a b r->Th (.d c :: a) b (.d c :: r)
 |p {a b r c}:BG a=true->Th a b r->Th a (.p c :: b) (.p c :: r)
 |kk {a b r}:Th a b r->Th (.k :: a) (.k :: b) (.k :: r)
 |kd {a b r c}:Th a b r->Th (.k :: a) (.d c :: b) (.d c :: r)
 |pk {a b r c}:Th a b r->Th (.p c :: a) (.k :: b) (.p c :: r)
 |pd {a b r c}:Th a b r->Th (.p c :: a) (.d c :: b) r
noncomputable def sub(L:List Tq):Tq->Tq
 |.at j=>L.getD j (.sg 0)
 |.sg c=>.sg c
theorem qG{L M:List Tq}{q:Tq}{j:Nat}(h:L.length=j):sub (L++q :: M) (.at j)=q:=by
 subst h;simp[sub]
theorem Th.told{a b r:List At}(h:Th a b r):∀(i j:Nat) (L:List Tq),L.length=j->tA i r=(tA j b).map (sub (L++tA i a)):=by
 induction h with
 |nil=>intro i j L hL;rfl
 |d h ih=>intro i j L hL;exact ih (i+1) j L hL
 |p _ h ih=>intro i j L hL;simp only[tA,List.map_cons];rw[ih i j L hL];rfl
 |kk h ih=>
  intro i j L hL;simp only[tA,List.map_cons];rw[ih (i+1) (j+1) (L++[.at i]) (by simp[hL]),qG hL];simp
 |kd h ih=>
  intro i j L hL;simp only[tA];rw[ih (i+1) (j+1) (L++[.at i]) (by simp[hL])];simp
 |@pk _ _ _ c h ih=>
  intro i j L hL;simp only[tA,List.map_cons];rw[ih i (j+1) (L++[.sg c]) (by simp[hL]),qG hL];simp
 |@pd _ _ _ c h ih=>
  intro i j L hL;simp only[tA];rw[ih i (j+1) (L++[.sg c]) (by simp[hL])];simp
theorem Th.back{a b r:List At}(h:Th a b r):∀(i j:Nat) (L:List Tq),L.length=j->tA i (r.map oS)=(tA j (a.map oS)).map (sub (L++tA i (b.map oS))):=by
 induction h with
 |nil=>intro i j L hL;rfl
 |d h ih=>intro i j L hL;simp only[List.map_cons,oS,tA];rw[ih i j L hL];rfl
 |p _ h ih=>intro i j L hL;exact ih (i+1) j L hL
 |kk h ih=>
  intro i j L hL;simp only[List.map_cons,oS,tA];rw[ih (i+1) (j+1) (L++[.at i]) (by simp[hL]),qG hL];simp
 |@kd _ _ _ c h ih=>
  intro i j L hL;simp only[List.map_cons,oS,tA];rw[ih i (j+1) (L++[.sg c]) (by simp[hL]),qG hL];simp
 |pk h ih=>
  intro i j L hL;simp only[List.map_cons,oS,tA];rw[ih (i+1) (j+1) (L++[.at i]) (by simp[hL])];simp
 |@pd _ _ _ c h ih=>
  intro i j L hL;simp only[List.map_cons,oS,tA];rw[ih i (j+1) (L++[.sg c]) (by simp[hL])];simp
theorem Th.fit{a b r:List At}(h:Th a b r):∀t,aP (aA a) t=true->aP (aA b) (dA a t)=true->aP (aA r) t=true:=by
 induction h with
 |nil=>intro t h1 _;exact h1
 |d h ih=>
  intro t h1 h2;cases t with
  |nil=>simp[aA,aP]at h1
  |cons x t=>simp only[aA,aP,Bool.and_eq_true]at h1 ⊢;exact⟨h1.1,ih t h1.2 h2⟩
 |p _ h ih=>intro t h1 h2;exact ih t h1 h2
 |kk h ih=>
  intro t h1 h2;cases t with
  |nil=>simp[aA,aP]at h1
  |cons x t=>simp only[aA,aP,Bool.and_eq_true,dA,List.take_succ_cons,List.take_zero,List.drop_succ_cons,List.drop_zero,List.singleton_append]at h1 h2 ⊢;exact⟨h1.1,ih t h1.2 h2.2⟩
 |kd h ih=>
  intro t h1 h2;cases t with
  |nil=>simp[aA,aP]at h1
  |cons x t=>simp only[aA,aP,Bool.and_eq_true,dA,List.take_succ_cons,List.take_zero,List.drop_succ_cons,List.drop_zero,List.singleton_append]at h1 h2 ⊢;exact⟨h2.1,ih t h1.2 h2.2⟩
 |pk h ih=>intro t h1 h2;simp only[aA,dA,aP,Bool.and_eq_true]at h1 h2 ⊢;exact ih t h1 h2.2
 |pd h ih=>intro t h1 h2;simp only[aA,dA,aP,Bool.and_eq_true]at h1 h2 ⊢;exact ih t h1 h2.2
theorem Th.all:∀(n:Nat) (a b:List At) (t:List Nat),a.length+b.length<=n->aP (aA a) t=true->aP (aA b) (dA a t)=true->∃r,Th a b r:=by
 intro n;induction n with
 |zero=>
  intro a b t hn _ _;obtain rfl:a=[]:=List.length_eq_zero_iff.mp (by omega);obtain rfl:b=[]:=List.length_eq_zero_iff.mp (by omega);exact⟨[],.nil⟩
 |succ n ih=>
  intro a b t hn h1 h2;cases a with
  |nil=>
   cases b with
   |nil=>exact⟨[],.nil⟩
   |cons y b=>
    cases y with
    |p c=>obtain⟨r,h⟩:=ih [] b t (by simp at hn ⊢;omega) h1 h2;exact⟨_,.p rfl h⟩
    |k=>simp[aA,dA,aP]at h2
    |d c=>simp[aA,dA,aP]at h2
  |cons x a=>
   by_cases hd:BG (x :: a)=true
   .cases b with
    |nil=>
     cases x with
     |d c=>cases hd
     |k=>cases t<;>simp[aA,dA,aP]at h1 h2
     |p c=>simp[aA,dA,aP]at h2
    |cons y b=>
     cases y with
     |p c=>obtain⟨r,h⟩:=ih (x :: a) b t (by simp at hn ⊢;omega) h1 h2;exact⟨_,.p hd h⟩
     |k=>
      cases x with
      |d c=>cases hd
      |k=>
       cases t with
       |nil=>simp[aA,aP]at h1
       |cons z t=>
        simp[aA,aP,dA]at h1 h2;obtain⟨r,h⟩:=ih a b t (by simp at hn ⊢;omega) h1 h2;exact⟨_,.kk h⟩
      |p c=>
       simp[aA,aP,dA]at h1 h2;obtain⟨r,h⟩:=ih a b t (by simp at hn ⊢;omega) h1 h2;exact⟨_,.pk h⟩
     |d c'=>
      cases x with
      |d c=>cases hd
      |k=>
       cases t with
       |nil=>simp[aA,aP]at h1
       |cons z t=>
        simp[aA,aP,dA]at h1 h2;obtain⟨r,h⟩:=ih a b t (by simp at hn ⊢;omega) h1 h2.2;exact⟨_,.kd h⟩
      |p c=>
       simp[aA,aP,dA]at h1 h2;obtain⟨rfl,h2⟩:=h2;obtain⟨r,h⟩:=ih a b t (by simp at hn ⊢;omega) h1 h2;exact⟨_,.pd h⟩
   .cases x with
    |k=>exact absurd rfl hd
    |p c=>exact absurd rfl hd
    |d c=>
     cases t with
     |nil=>simp[aA,aP]at h1
     |cons z t=>
      simp[aA,aP]at h1;obtain⟨r,h⟩:=ih a b t (by simp at hn ⊢;omega) h1.2 h2;exact⟨_,.d h⟩
theorem Th.done{a b r:List At}(h:Th a b r):∀t,aP (aA a) t=true->dA r t=dA b (dA a t):=by
 induction h with
 |nil=>intro t _;rfl
 |d h ih=>
  intro t h1;cases t with
  |nil=>simp[aA,aP]at h1
  |cons x t=>simp only[aA,aP,Bool.and_eq_true]at h1;simp only[dA];exact ih t h1.2
 |p _ h ih=>intro t h1;simp only[dA];rw[ih t h1]
 |kk h ih=>
  intro t h1;cases t with
  |nil=>simp[aA,aP]at h1
  |cons x t=>simp only[aA,aP,Bool.and_eq_true]at h1;simp[dA,ih t h1.2]
 |kd h ih=>
  intro t h1;cases t with
  |nil=>simp[aA,aP]at h1
  |cons x t=>simp only[aA,aP,Bool.and_eq_true]at h1;simp[dA,ih t h1.2]
 |pk h ih=>intro t h1;simp[dA,ih t h1]
 |pd h ih=>intro t h1;simp[dA,ih t h1]
theorem Th.cost{a b r:List At}(h:Th a b r):cA r<=cA a+cA b:=by induction h<;>simp[cA]<;>omega
theorem Th.len{a b r:List At}(h:Th a b r):r.length<=a.length+b.length:=by induction h<;>simp<;>omega
theorem Th.ds{b r:List At}:∀{s:List Nat}{a:List At},Th (s.map .d++a) b r->∃r',r=s.map .d++r'/\Th a b r'
 |[],a,h=>⟨r,rfl,h⟩
 |c :: s,a,h=>by
  cases h with
  |d h=>obtain⟨r',rfl,h'⟩:=Th.ds h;exact⟨r',rfl,h'⟩
  |p hn h=>cases hn
theorem Th.ps{a r:List At}(hn:BG a=true):∀{s:List Nat}{b:List At},Th a (s.map .p++b) r->∃r',r=s.map .p++r'/\Th a b r'
 |[],b,h=>⟨r,rfl,h⟩
 |c :: s,b,h=>by
  cases h with
  |d h=>cases hn
  |p _ h=>obtain⟨r',rfl,h'⟩:=Th.ps hn h;exact⟨r',rfl,h'⟩
theorem Th.Uh{a b r:List At}:∀{n:Nat},Th (List.replicate n .k++a) (List.replicate n .k++b) r->∃r',r=List.replicate n .k++r'/\Th a b r':=λ{n}=>by
 induction n generalizing r with
 |zero=>intro h;exact⟨r,rfl,h⟩
 |succ n ih=>intro h;cases h with|kk h=>obtain⟨r',rfl,h'⟩:=ih h;exact⟨r',rfl,h'⟩
theorem Th.Ui{a b r:List At}:∀{s:List Nat},Th (List.replicate s.length .k++a) (s.map .d++b) r->∃r',r=s.map .d++r'/\Th a b r':=λ{s}=>by
 induction s generalizing r with
 |nil=>intro h;exact⟨r,rfl,h⟩
 |cons c s ih=>intro h;cases h with|kd h=>obtain⟨r',rfl,h'⟩:=ih h;exact⟨r',rfl,h'⟩
theorem Th.Uj{a b r:List At}:∀{s:List Nat},Th (s.map .p++a) (List.replicate s.length .k++b) r->∃r',r=s.map .p++r'/\Th a b r':=λ{s}=>by
 induction s generalizing r with
 |nil=>intro h;exact⟨r,rfl,h⟩
 |cons c s ih=>intro h;cases h with|pk h=>obtain⟨r',rfl,h'⟩:=ih h;exact⟨r',rfl,h'⟩
theorem Th.P5{a b r:List At}:∀{s s':List Nat},s.length=s'.length->Th (s.map .p++a) (s'.map .d++b) r->s=s'/\Th a b r
 |[],[],_,h=>⟨rfl,h⟩
 |[],_ :: _,hl,_=>by simp at hl
 |_ :: _,[],hl,_=>by simp at hl
 |c :: s,c' :: s',hl,h=>by cases h with|pd h=>obtain⟨rfl,h'⟩:=Th.P5 (by simpa using hl) h;exact⟨rfl,h'⟩
theorem g6:∀(a:List At) (i q:Nat),Tq.at q∈tA i a↔∃j,q=i+j/\(aA a)[j]?=some []
 |[],i,q=>by simp[tA,aA]
 |.k :: a,i,q=>by
  simp only[tA,List.mem_cons,g6 a,aA];constructor
  .rintro(h|⟨j,rfl,h⟩)
   .cases h;exact⟨0,rfl,by simp⟩
   .exact⟨j+1,by omega,by simpa using h⟩
  .rintro⟨j,rfl,h⟩;cases j with
   |zero=>exact .inl rfl
   |succ j=>exact .inr ⟨j,by omega,by simpa using h⟩
 |.d c :: a,i,q=>by
  simp only[tA,g6 a,aA];constructor
  .rintro⟨j,rfl,h⟩;exact⟨j+1,by omega,by simpa using h⟩
  .rintro⟨j,rfl,h⟩;cases j with
   |zero=>simp at h
   |succ j=>exact⟨j,by omega,by simpa using h⟩
 |.p c :: a,i,q=>by simp[tA,g6 a,aA]
theorem rJ:∀{a:List (List Nat)}{t:List Nat},aP a t=true->∀(j:Nat) x,a[j]?=some x->x=[]\/∃c,t[j]?=some c/\x=[c]
 |y :: a,c :: t,h,j,x,e=>by
  simp only[aP,Bool.and_eq_true,Bool.or_eq_true,decide_eq_true_eq]at h;cases j with
  |zero=>simp at e;subst e;exact h.1.imp id λz=>⟨c,by simp,z⟩
  |succ j=>simpa using rJ h.2 j x (by simpa using e)
 |[],[],_,j,x,e=>by simp at e
 |[],_ :: _,h,_,_,_=>by simp[aP]at h
 |_ :: _,[],h,_,_,_=>by simp[aP]at h
theorem BH{a:List At}{A:List (List Nat)}{t:List Nat}(ha:aP (aA a) t=true)(hb:aP A t=true)(h:∀q:Nat,Tq.at q∈tA 0 a↔A[q]?=some []):aA a=A:=by
 have la:=pJ ha;have lb:=pJ hb;apply List.ext_getElem?;intro j;by_cases hj:j<t.length
 .obtain⟨x,hx⟩:∃x,(aA a)[j]?=some x:=⟨_,List.getElem?_eq_getElem (by omega)⟩
  obtain⟨y,hy⟩:∃y,A[j]?=some y:=⟨_,List.getElem?_eq_getElem (by omega)⟩
  have k1:=g6 a 0 j;rw[h j,hy]at k1;have hxy:x=[]↔y=[]:=by
   constructor
   .rintro rfl;have:=k1.mpr ⟨j,by omega,hx⟩;cases this;rfl
   .rintro rfl;obtain⟨i,hi,e⟩:=k1.mp rfl;obtain rfl:i=j:=by omega
    rw[e]at hx;cases hx;rfl
  rw[hx,hy];rcases rJ ha j x hx with EM|⟨c,hc,Lc⟩
  .rw[EM,hxy.mp EM]
  .rcases rJ hb j y hy with P6|⟨c',hc',hy1⟩
   .rw[P6,hxy.mpr P6]
   .rw[hc]at hc';cases hc';rw[Lc,hy1]
 .rw[List.getElem?_eq_none (by omega),List.getElem?_eq_none (by omega)]
theorem BJ{a b:List At}{t:List Nat}(ha:aP (aA a) t=true)(hb:aP (aA b) t=true)(h:tA 0 a=tA 0 b):aA a=aA b:=
 BH ha hb λq=>by
  rw[h,g6 b 0 q];constructor
  .rintro⟨j,hj,e⟩;obtain rfl:q=j:=by omega
   exact e
  .intro e;exact⟨q,by omega,e⟩
theorem BK{a b:List Pt}{t:List Nat}(ha:aV a t=true)(hb:aV b t=true)(h:told 0 a=told 0 b):aD a=aD b:=by
 rw[pI];rw[fY]at ha hb;have h':=h;rw[fZ]at ha hb;rw[dZ,dZ]at h';have:=BJ ha hb h';simp only[j4,h,fZ,this]
theorem lP{c:List Pt}{t:List Nat}(h:aV c t=true):(aB c t).length=fC c:=by
 rw[gZ (DF c t h).1,MD]
end Pv
namespace Pv
open Ev (D bw bq TY BI ME T E Es Eo It S Ss Fn big deep b2i rep bV dM bB aO cut b8 dz slots)
noncomputable def DL(rK:Nat)(pL:Nat):S:=.iff (.cmp .ne (.cl rK (.cons (.v 0) .nil)) (.cl pL (.cons (.v 1) .nil))) (.cons (.ez 0) .nil) .nil
noncomputable def DM(dB:Nat):S:=.set 2 (.gQ (.rev (.cl dB (.cons (.v 0) .nil))))
noncomputable def DN(dB:Nat):S:=.set 3 (.gQ (.rev (.cl dB (.cons (.v 1) .nil))))
noncomputable def DO:S:=.set 4 (.lst .nil)
noncomputable def vF(cB:Nat)(qH:Nat)(jA:Nat):Ss:=(.cons (.iff (.an (.v 2) (.cmp .eq (.ix (.ix (.v 2) (.neg (.c (.int 1)))) (.c (.int 0))) (.c (.str [100,114,111,112])))) (.cons (.exp (.me .append (.v 4) (.cons (.me .pop (.v 2) .nil) .nil))) .nil) (.cons (.iff (.an (.v 3) (.cmp .eq (.ix (.ix (.v 3) (.neg (.c (.int 1)))) (.c (.int 0))) (.c (.str [112,117,116])))) (.cons (.exp (.me .append (.v 4) (.cons (.me .pop (.v 3) .nil) .nil))) .nil) (.cons (.set 5 (.bi .min (.cons (.cl cB (.cons (.ix (.v 2) (.neg (.c (.int 1)))) .nil)) (.cons (.cl cB (.cons (.ix (.v 3) (.neg (.c (.int 1)))) .nil)) .nil)))) (.cons (.exp (.me .extend (.v 4) (.cons (.cl qH (.cons (.cl jA (.cons (.v 2) (.cons (.v 5) .nil))) (.cons (.cl jA (.cons (.v 3) (.cons (.v 5) .nil))) .nil))) .nil))) .nil))) .nil)) .nil)
noncomputable def DP(cB:Nat)(qH:Nat)(jA:Nat):S:=.iW (.orr (.v 2) (.v 3)) (vF cB qH jA)
noncomputable def DQ(dB:Nat):S:=.ret (.cl dB (.cons (.iG (.v 4)) .nil))
noncomputable def jV(rK:Nat)(pL:Nat)(dB:Nat)(cB:Nat)(qH:Nat)(jA:Nat):Fn:=⟨2,6,(.cons (DL rK pL) (.cons (DM dB) (.cons (DN dB) (.cons DO (.cons (DP cB qH jA) (.cons (DQ dB) .nil))))))⟩
noncomputable def Ii:S:=.iff (.cmp .eq (.ix (.v 1) (.c (.int 0))) (.c (.str [107,101,101,112]))) (.cons (.ret (.lst (.cons (.v 0) .nil))) .nil) .nil
noncomputable def Ij:S:=.iff (.cmp .eq (.ix (.v 0) (.c (.int 0))) (.c (.str [107,101,101,112]))) (.cons (.ret (.lst (.cons (.v 1) .nil))) .nil) .nil
noncomputable def Ik:S:=.iff (.cmp .ne (.ix (.v 0) (.c (.int 1))) (.ix (.v 1) (.c (.int 1)))) (.cons (.ez 0) .nil) .nil
noncomputable def Il:S:=.ret (.lst .nil)
noncomputable def nW:Fn:=⟨2,2,(.cons Ii (.cons Ij (.cons Ik (.cons Il .nil))))⟩
noncomputable def BL(pM:Nat):S:=.set 2 (.cl pM (.cons (.me .pop (.v 0) .nil) (.cons (.v 1) .nil)))
noncomputable def BN(cB:Nat):S:=.iff (.cmp .gt (.cl cB (.cons (.ix (.v 2) (.c (.int 1))) .nil)) (.c (.int 0))) (.cons (.exp (.me .append (.v 0) (.cons (.ix (.v 2) (.c (.int 1))) .nil))) .nil) .nil
noncomputable def BO:S:=.ret (.ix (.v 2) (.c (.int 0)))
noncomputable def iQ(pM:Nat)(cB:Nat):Fn:=⟨2,3,(.cons (BL pM) (.cons (BN cB) (.cons BO .nil)))⟩
noncomputable def zy:S:=.set 2 (.ix (.v 0) (.c (.int 0)))
noncomputable def zz:S:=.iff (.cmp .eq (.v 2) (.c (.str [107,101,101,112]))) (.cons (.ret (.tup (.cons (.tup (.cons (.v 2) (.cons (.v 1) .nil))) (.cons (.tup (.cons (.v 2) (.cons (.bin .sub (.ix (.v 0) (.c (.int 1))) (.v 1)) .nil))) .nil)))) .nil) .nil
noncomputable def zA:S:=.ret (.tup (.cons (.tup (.cons (.v 2) (.cons (.sl (.ix (.v 0) (.c (.int 1))) .no (.yes (.v 1))) .nil))) (.cons (.tup (.cons (.v 2) (.cons (.sl (.ix (.v 0) (.c (.int 1))) (.yes (.v 1)) .no) .nil))) .nil)))
noncomputable def gb:Fn:=⟨2,3,(.cons zy (.cons zz (.cons zA .nil)))⟩
noncomputable def Pt.tk(m:Nat):Pt->Pt
 |.keep _=>.keep m
 |.put s=>.put (s.take m)
 |.drop s=>.drop (s.take m)
noncomputable def Pt.dp(m:Nat):Pt->Pt
 |.keep k=>.keep (k - m)
 |.put s=>.put (s.drop m)
 |.drop s=>.drop (s.drop m)
theorem Fe{α:Type}(l:List α)(m:Nat):cut l none (some (m:Int))=l.take m:=by
 have h1:¬ (m:Int)<0:=by omega
 simp only[cut,aO,h1,if_false,Int.toNat_natCast,List.drop_zero,Nat.sub_zero];by_cases h:m<=l.length
 .rw[Nat.min_eq_left h]
 .rw[Nat.min_eq_right (by omega),List.take_of_length_le (Nat.le_refl _),List.take_of_length_le (by omega)]
theorem Ff{α:Type}(l:List α)(m:Nat):cut l (some (m:Int)) none=l.drop m:=by
 have h1:¬ (m:Int)<0:=by omega
 simp only[cut,aO,h1,if_false,Int.toNat_natCast];by_cases h:m<=l.length
 .rw[Nat.min_eq_left h,List.take_of_length_le (by simp)]
 .rw[Nat.min_eq_right (by omega),List.drop_eq_nil_of_le (Nat.le_refl _),List.drop_eq_nil_of_le (by omega)];simp
section
variable{F:List Fn}{w n bK aE b5 aW bT aZ b7 bL eF kW i:Nat}
theorem zB(hf:F[i]?=some gb)(p:Pt)(m:Nat)(h:m<=p.n):run F w (n+1) i [.val p.v,.val (.int m)]=some (.tup [(p.tk m).v,(p.dp m).v],[]):=by
 refine cg hf rfl ?_;cases p with
 |keep k=>
  refine aj (bh (by repeat array_get_dec) rfl rfl ?_);refine aj (aM (by repeat array_get_dec) (λ_=>?_) λh=>absurd h (by decide));refine aj (bZ (by repeat array_get_dec) ⟨?_,rfl⟩);have:(k:Int) - m=((k - m:Nat):Int):=by simp only[Pt.n]at h;omega
  exact congrArg (λz=>Fl.ret (V.tup [V.tup [V.str ef,V.int m],V.tup [V.str ef,V.int z]])) this
 |put s=>
  have c1:gR (.str s) none (some (m:Int))=some (.str (s.take m)):=by rw[iM,Fe]
  have c2:gR (.str s) (some (m:Int)) none=some (.str (s.drop m)):=by rw[iM,Ff]
  refine aj (bh (by repeat array_get_dec) rfl rfl ?_);refine aj (aM (by repeat array_get_dec) (λh=>absurd h (by decide)) λ_=>aC ?_);exact aj (bZ (by repeat array_get_dec) ⟨rfl,rfl⟩)
 |drop s=>
  have c1:gR (.str s) none (some (m:Int))=some (.str (s.take m)):=by rw[iM,Fe]
  have c2:gR (.str s) (some (m:Int)) none=some (.str (s.drop m)):=by rw[iM,Ff]
  refine aj (bh (by repeat array_get_dec) rfl rfl ?_);refine aj (aM (by repeat array_get_dec) (λh=>absurd h (by decide)) λ_=>aC ?_);exact aj (bZ (by repeat array_get_dec) ⟨rfl,rfl⟩)
theorem rL(m:Nat)(p:Pt):(p.dp m).n=p.n - m:=by cases p<;>simp[Pt.dp,Pt.n]
theorem sZ(hs:F[aE]?=some eT)(hp:F[bK]?=some gb)(hf:F[i]?=some (iQ bK aE))(L:List V)(p:Pt)(m:Nat)(h:m<=p.n)(hn:p.n<=100000)(hL:L.length<=10000) :
  run F w (n+2) i [.bor (L++[p.v]),.val (.int m)]=some ((p.tk m).v,[L++if 0<p.n - m then [(p.dp m).v]else []]):=by
 refine cg hf rfl ?_;have c1:=λfr=>call2 (fr:=fr) (zB (F:=F) (w:=w) (n:=n) hp p m h);have c2:=λfr=>cT (fr:=fr) (lJ (F:=F) (w:=w) (n:=n) hs (p.dp m) (by rw[rL];omega));have po:∀fr:Fr,gm .pop 0 [] fr (some (some (.bor (L++[p.v]))))=.ok p.v (fr.set 0 (some (.bor L))):=λfr=>HS;have ap:∀fr:Fr,gm .append 0 [(p.dp m).v] fr (some (some (.bor L)))=.ok .aQ (fr.set 0 (some (.bor (L++[(p.dp m).v])))):=λfr=>HQ (by omega);refine aj (bh (by (repeat (first|array_get_dec|exact po _|exact c1 _))) rfl rfl ?_);refine aj (aM (by (repeat (first|array_get_dec|exact c2 _))) (λh=>?_) λh=>?_)
 .have h':=of_decide_eq_true h;rw[rL]at h';rw[if_pos (by omega)];refine aj (gG (by (repeat (first|array_get_dec|exact ap _))) (aC ?_));exact aj (bZ (by repeat array_get_dec) ⟨rfl,rfl⟩)
 .have h':=of_decide_eq_false h;rw[rL]at h';rw[if_neg (by omega),List.append_nil];exact aC (aj (bZ (by repeat array_get_dec) ⟨rfl,rfl⟩))
noncomputable def lQ:Pt->Pt->Option (List Pt)
 |l,.keep _=>some [l]
 |.keep _,g=>some [g]
 |.put s,.drop s'=>if s=s' then some []else none
 |_,_=>none
theorem Im(hf:F[i]?=some nW)(p q:Pt)(r:List Pt)(h:lQ p q=some r):run F w (n+1) i [.val p.v,.val q.v]=some (.lst (r.map Pt.v),[]):=by
 refine cg hf rfl ?_;cases q with
 |keep k=>
  simp only[lQ,Option.some.injEq]at h;subst h;refine aj (aM (by repeat array_get_dec) (λ_=>?_) λh=>absurd h (by decide));exact aj (bZ (by repeat array_get_dec) ⟨rfl,rfl⟩)
 |put s=>
  cases p<;>simp[lQ]at h
  subst h;refine aj (aM (by repeat array_get_dec) (λh=>absurd h (by decide)) λ_=>aC ?_);refine aj (aM (by repeat array_get_dec) (λ_=>?_) λh=>absurd h (by decide));exact aj (bZ (by repeat array_get_dec) ⟨rfl,rfl⟩)
 |drop s'=>
  cases p with
  |keep k=>
   simp only[lQ,Option.some.injEq]at h;subst h;refine aj (aM (by repeat array_get_dec) (λh=>absurd h (by decide)) λ_=>aC ?_);refine aj (aM (by repeat array_get_dec) (λ_=>?_) λh=>absurd h (by decide));exact aj (bZ (by repeat array_get_dec) ⟨rfl,rfl⟩)
  |drop s=>simp[lQ]at h
  |put s=>
   simp only[lQ]at h;split at h
   .rename_i hs;subst hs;cases h;refine aj (aM (by repeat array_get_dec) (λh=>absurd h (by decide)) λ_=>aC ?_);refine aj (aM (by repeat array_get_dec) (λh=>absurd h (by decide)) λ_=>aC ?_);refine aj (aM (by repeat array_get_dec) (λh=>?_) λ_=>aC ?_)
    .simp at h
    .exact aj (bZ (by repeat array_get_dec) ⟨rfl,rfl⟩)
   .cases h
theorem iR{l:List V}{v:V}:eY (.lst (l++[v])) (.int (-1))=some v:=by rw[Hw,uZ];simp
theorem j5{l:List V}{v:V}:truthy (.lst (l++[v]))=true:=by simp
theorem Fi{P:aG}{f i:Nat}{fr:Fr}{b v:V}{l l':List V}(e:fr[i]?=some (some (.own l)))(h:P f [.bor l,.val b]=some (v,[l'])):dO P f [.inl i,.inr b] fr=.ok v (fr.set i (some (.own l'))):=by
 have e1:lent fr i=some (.bor l):=by rw[HM,e];rfl
 simp[dO,bH,args,e1,h,back,e,Sl.with]
theorem jB{c:List Pt}(h:kT c=true):∀p∈c,0<p.n:=λp hp=>by
 simp only[kT,Bool.and_eq_true,List.all_eq_true]at h;have:=h.2 p hp;simp only[MC,bne_iff_ne,ne_eq]at this;omega
theorem iS:∀{c:List Pt},(∀p∈c,0<p.n)->c.length<=tot c
 |[],_=>by simp[tot]
 |p :: c,h=>by
  have h1:=h p (by simp);have h2:=iS (c:=c) λq hq=>h q (by simp[hq]);rw[cE,List.length_cons];omega
theorem zC{p:Pt}{m:Nat}(h:m<=p.n):(p.tk m).aL++(p.dp m).aL=p.aL/\(p.tk m).n=m:=by
 cases p with
 |keep k=>simp only[Pt.n]at h;simp[Pt.tk,Pt.dp,Pt.aL,Pt.n,h]
 |put s=>simp only[Pt.n]at h;simp[Pt.tk,Pt.dp,Pt.aL,Pt.n,h,<-List.map_append]
 |drop s=>simp only[Pt.n]at h;simp[Pt.tk,Pt.dp,Pt.aL,Pt.n,h,<-List.map_append]
noncomputable def j6(m:Nat)(p:Pt):List Pt:=if 0<p.n - m then [p.dp m]else []
theorem x6{p:Pt}{m:Nat}(h:m<=p.n):p.aL=(p.tk m).aL++aL (j6 m p):=by
 rw[<- (zC h).1]
 congr 1
 unfold j6;split
 .simp[aL]
 .rename_i hz;have:(p.dp m).aL.length=0:=by rw[vC,rL];omega
  rw[List.length_eq_zero_iff.mp this];rfl
theorem x8(m:Nat)(p:Pt):∀q∈j6 m p,0<q.n:=λq hq=>by
 unfold j6 at hq;split at hq
 .simp at hq;subst hq;rw[rL];omega
 .simp at hq
theorem Io(m:Nat)(p:Pt)(A:List Pt):((j6 m p++A).map Pt.v).reverse=(A.map Pt.v).reverse++if 0<p.n - m then [(p.dp m).v]else []:=by
 unfold j6;split<;>simp
theorem nX(m:Nat)(p:Pt):tot (j6 m p)=p.n - m:=by
 unfold j6;split
 .simp[tot,rL]
 .simp[tot];omega
theorem x9{m:Nat}{p:Pt}:fU (p.tk m)=fU p/\iE (p.tk m)=iE p:=by cases p<;>exact⟨rfl,rfl⟩
theorem MG{A B r:List At}(p q:Pt)(hp:fU p=false)(hq:iE q=false)(hn:p.n=q.n)(h:Th (p.aL++A) (q.aL++B) r):∃m r',lQ p q=some m/\m.length<=1/\r=aL m++r'/\Th A B r':=by
 cases p with
 |drop s=>cases hp
 |keep k=>
  cases q with
  |put s=>cases hq
  |keep k'=>simp only[Pt.n]at hn;subst hn;obtain⟨r',rfl,h'⟩:=Th.Uh h;exact⟨[.keep k],r',rfl,by simp,by simp[aL,Pt.aL],h'⟩
  |drop s=>simp only[Pt.n]at hn;subst hn;obtain⟨r',rfl,h'⟩:=Th.Ui h;exact⟨[.drop s],r',rfl,by simp,by simp[aL,Pt.aL],h'⟩
 |put s=>
  cases q with
  |put s'=>cases hq
  |keep k'=>simp only[Pt.n]at hn;subst hn;obtain⟨r',rfl,h'⟩:=Th.Uj h;exact⟨[.put s],r',rfl,by simp,by simp[aL,Pt.aL],h'⟩
  |drop s'=>simp only[Pt.n]at hn;obtain⟨rfl,h'⟩:=Th.P5 hn h;exact⟨[],r,by simp[lQ],by simp,by simp[aL],h'⟩
structure Tn(one other c:List Pt)(t:List Nat):Prop where
 yc:aD c=c
 fit:aV c t=true
 dn:aB c t=aB other (aB one t)
 Fj:told 0 c=(told 0 other).map (sub (told 0 one))
 Uk:told 0 (sw c)=(told 0 (sw one)).map (sub (told 0 (sw other)))
 cs:cst c<=cst one+cst other
 tt:tot c<=tot one+tot other
 ln:c.length<=tot c
 th:∃ps,c=aD ps/\Th (aL (aD one)) (aL (aD other)) (aL ps)
theorem OH{one other ps:List Pt}{t:List Nat}(h1:aV one t=true)(h2:aV other (aB one t)=true)(h:Th (aL (aD one)) (aL (aD other)) (aL ps)):Tn one other (aD ps) t:=by
 have f1:aP (aA (aL (aD one))) t=true:=by rw[<-fZ,fV,<-fY];exact h1
 have f2:aP (aA (aL (aD other))) (dA (aL (aD one)) t)=true:=by rw[<-fZ,fV,<-eH,gY,<-fY];exact h2
 have b:=h.back 0 0 [] rfl;rw[<-vE,<-vE,<-vE,<-dZ,<-dZ,<-dZ]at b;have sf:∀c i,told i (sw (aD c))=told i (sw c):=λc i=>by
  have:=congrArg (told i) (Ig (jb c));rwa [dU,dU]at this
 refine⟨jb _,?_,?_,?_,?_,?_,?_,iS (jB (iP _)),ps,rfl,h⟩
 .rw[vv,fY,fZ];exact h.fit t f1 f2
 .rw[gY,eH,h.done t f1,<-eH,gY,<-eH,gY]
 .have:=h.told 0 0 [] rfl;rw[<-dZ,<-dZ,<-dZ,dU,dU]at this;rw[dU];exact this
 .rw[sf,<-sf one,<-sf other];exact b
 .have:=h.cost;rw[<-nV,<-nV,<-nV,jU,jU]at this;rw[jU];exact this
 .have:=h.len;rw[jz,jz,jz,fW,fW]at this;rw[fW];exact this
section
variable(hs:F[aE]?=some eT)(hp:F[bK]?=some gb)(ht:F[aW]?=some (iQ bK aE))(hm:F[b5]?=some nW){one other:List Pt}{r:List At}{N:Nat}(hN:N<=5000)
noncomputable def fF(one other A B C:List Pt)(a:Option Sl):Fr:=[some (.val (aK one)),some (.val (aK other)),some (.own (A.map Pt.v).reverse),some (.own (B.map Pt.v).reverse),some (.own (C.map Pt.v)),a]
noncomputable def P7(one other:List Pt)(r:List At)(N k:Nat)(fr:Fr):Prop:=∃A B C r' a,Th (aL A) (aL B) r'/\aL C++r'=r/\(∀p∈A,0<p.n)/\(∀p∈B,0<p.n)/\C.length+k<=N/\k=tot A+tot B/\vo a/\fr=fF one other A B C a
include hs hp ht hm hN
noncomputable def BP(aE b5 aW:Nat):Ss:=(.cons (.set 5 (.bi .min (.cons (.cl aE (.cons (.ix (.v 2) (.neg (.c (.int 1)))) .nil)) (.cons (.cl aE (.cons (.ix (.v 3) (.neg (.c (.int 1)))) .nil)) .nil)))) (.cons (.exp (.me .extend (.v 4) (.cons (.cl b5 (.cons (.cl aW (.cons (.v 2) (.cons (.v 5) .nil))) (.cons (.cl aW (.cons (.v 3) (.cons (.v 5) .nil))) .nil))) .nil))) .nil))
noncomputable def vG(aE b5 aW:Nat):Ss:=.cons (.iff (.an (.v 3) (.cmp .eq (.ix (.ix (.v 3) (.neg (.c (.int 1)))) (.c (.int 0))) (.c (.str [112,117,116])))) (.cons (.exp (.me .append (.v 4) (.cons (.me .pop (.v 3) .nil) .nil))) .nil) (BP aE b5 aW)) .nil
noncomputable def vH(one other:List Pt)(r:List At)(N t:Nat)(g:Fl)(fr:Fr):Prop:=g=.nx/\∃j,j<t/\P7 one other r N j fr
omit hs hp ht hm hN in
theorem BQ{C:List Pt}(lC:C.length<=5000)(d:Pt)(fr:Fr):gm .append 4 [d.v] fr (some (some (.own (C.map Pt.v))))=.ok .aQ (fr.set 4 (some (.own ((C++[d]).map Pt.v)))):=by
 rw[List.map_append];exact kO (by simp;omega)
omit hs hp ht hm in
theorem vI(A B C:List Pt)(s:List Nat)(r':List At)(a:Option Sl)(h:Th (aL A) (aL (.put s :: B)) r')(hn:BG (aL A)=true)(hC:aL C++r'=r)(hA:∀p∈A,0<p.n)(hB:∀p∈(.put s :: B),0<p.n)(hk:C.length+(tot A+tot (.put s :: B))<=N)(ha:vo a) :
  Wp (exs (run F w (n+2)) w (vG aE b5 aW) (fF one other A (.put s :: B) C a)) (vH one other r N (tot A+tot (.put s :: B))):=by
 have lC:C.length<=5000:=by omega
 rw[cV]at h;obtain⟨r2,e2,h2⟩:=Th.ps hn h;have hs1:=hB (.put s) (by simp);unfold fF;rw[List.map_cons,List.reverse_cons];refine aj (aM (fT (aJ rfl (az rfl) j5) (by (repeat (first|array_get_dec|exact iR)))) (λ_=>?_) λh=>absurd h (by decide));refine aj (gG (by (repeat (first|array_get_dec|exact kP|exact BQ lC _ _))) (aC (aC ?_)));refine⟨rfl,tot A+tot B,by rw[cE];omega,A,B,C++[.put s],r2,a,h2,?_,hA,λx hx=>hB x (by simp[hx]),?_,rfl,ha,rfl⟩
 .rw[<-hC,e2,jy];simp[aL,Pt.aL]
 .rw[cE]at hk;simp;omega
omit hN in
theorem MH(A B C mm:List Pt)(p q:Pt)(m:Nat)(a:Option Sl)(mn:eL .min [.int p.n,.int q.n]=some (.int m))(hm1:m<=p.n)(hm2:m<=q.n)(lp:p.n<=5000)(lq:q.n<=5000)(lA:A.length<=5000)(lB:B.length<=5000)(lC:C.length+mm.length<=10000)(e1:lQ (p.tk m) (q.tk m)=some mm)(ha:vo a)(Q:Fl->Fr->Prop)
  (hQ:Q .nx (fF one other (j6 m p++A) (j6 m q++B) (C++mm) (some (.val (.int m))))):Wp (exs (run F w (n+2)) w (BP aE b5 aW) (fF one other (p :: A) (q :: B) C a)) Q:=by
 have z1:=λfr=>cT (fr:=fr) (lJ (F:=F) (w:=w) (n:=n+1) hs p (Nat.le_trans lp (by decide)));have z2:=λfr=>cT (fr:=fr) (lJ (F:=F) (w:=w) (n:=n+1) hs q (Nat.le_trans lq (by decide)));have t1:=sZ (F:=F) (w:=w) (n:=n) hs hp ht (A.map Pt.v).reverse p m hm1 (by omega) (by simp;omega);have t2:=sZ (F:=F) (w:=w) (n:=n) hs hp ht (B.map Pt.v).reverse q m hm2 (by omega) (by simp;omega);rw[<-Io]at t1 t2;have cm:=λfr=>call2 (fr:=fr) (Im (F:=F) (w:=w) (n:=n+1) hm _ _ mm e1);have ex:∀fr:Fr,gm .extend 4 [.lst (mm.map Pt.v)] fr (some (some (.own (C.map Pt.v))))=.ok .aQ (fr.set 4 (some (.own ((C++mm).map Pt.v)))):=λfr=>by
  rw[List.map_append];exact xT (by simp;omega)
 unfold fF at hQ ⊢;rw[List.map_cons,List.reverse_cons,List.map_cons,List.reverse_cons];refine aj (bh (by (repeat (first|array_get_dec|exact iR|exact z1 _|exact z2 _))) rfl (gw rfl ha) ?_);exact aj (gG (by (repeat (first|array_get_dec|exact Fi rfl t1|exact Fi rfl t2|exact cm _|exact ex _))) (aC hQ))
theorem DR(A B C:List Pt)(p q:Pt)(r':List At)(a:Option Sl)(hd:fU p=false)(hq:iE q=false)(h:Th (aL (p :: A)) (aL (q :: B)) r')(hC:aL C++r'=r)(hA:∀x∈p :: A,0<x.n)(hB:∀x∈q :: B,0<x.n)(hk:C.length+(tot (p :: A)+tot (q :: B))<=N)(ha:vo a) :
  Wp (exs (run F w (n+2)) w (vG aE b5 aW) (fF one other (p :: A) (q :: B) C a)) (vH one other r N (tot (p :: A)+tot (q :: B))):=by
 have hp0:=hA p (by simp);have UK:=hB q (by simp);obtain⟨m,hm1,hm2,UL⟩:∃m:Nat,m<=p.n/\m<=q.n/\(m=p.n\/m=q.n):=⟨min p.n q.n,by omega,by omega,by omega⟩
 have mn:eL .min [.int p.n,.int q.n]=some (.int m):=by
  rw[LW];split
  .congr 2;omega
  .congr 2;omega
 rw[cE,cE]at hk;have lA:=iS (c:=A) λx hx=>hA x (by simp[hx]);have lB:=iS (c:=B) λx hx=>hB x (by simp[hx]);have h3:Th ((p.tk m).aL++aL (j6 m p++A)) ((q.tk m).aL++aL (j6 m q++B)) r':=by
  rw[jy,jy,<-List.append_assoc,<-List.append_assoc,<-x6 hm1,<-x6 hm2,<-cV,<-cV];exact h
 obtain⟨mm,r2,e1,e2,e3,h4⟩:=MG (p.tk m) (q.tk m) (by rw[x9.1];exact hd) (by rw[x9.2];exact hq) (by rw[(zC hm1).2,(zC hm2).2]) h3;have fin:vH one other r N (tot (p :: A)+tot (q :: B)) .nx (fF one other (j6 m p++A) (j6 m q++B) (C++mm) (some (.val (.int m)))):=by
  refine⟨rfl,_,?_,_,_,_,r2,_,h4,?_,?_,?_,?_,rfl,.val,rfl⟩
  .rw[gj,gj,nX,nX,cE,cE];omega
  .rw[jy,List.append_assoc,<-e3];exact hC
  .intro x hx;rcases List.mem_append.mp hx with hx|hx
   .exact x8 m p x hx
   .exact hA x (List.mem_cons_of_mem _ hx)
  .intro x hx;rcases List.mem_append.mp hx with hx|hx
   .exact x8 m q x hx
   .exact hB x (List.mem_cons_of_mem _ hx)
  .rw[gj,gj,nX,nX,List.length_append];omega
 have st:=MH (one:=one) (other:=other) (w:=w) (n:=n) hs hp ht hm A B C mm p q m a mn hm1 hm2 (by omega) (by omega) (by omega) (by omega) (by omega) e1 ha _ (show nx (run F w (n+2)) w .nil (vH one other r N (tot (p :: A)+tot (q :: B))) .nx _ from aC fin);unfold fF at st ⊢;rw[List.map_cons,List.reverse_cons,List.map_cons,List.reverse_cons]at st ⊢;cases q with
 |put s=>cases hq
 |keep k=>exact aj (aM (fT (aJ rfl (az rfl) j5) (by (repeat (first|array_get_dec|exact iR)))) (λh=>absurd h (by decide)) λ_=>st)
 |drop s=>exact aj (aM (fT (aJ rfl (az rfl) j5) (by (repeat (first|array_get_dec|exact iR)))) (λh=>absurd h (by decide)) λ_=>st)
omit hs hp ht hm hN in
theorem P8{b r:List At}{x:At}(h:Th [] (x :: b) r):∃c,x=.p c:=by cases h with|p=>exact⟨_,rfl⟩
omit hs hp ht hm hN in
theorem P9{a r:List At}{x:At}(h:Th (x :: a) [] r):∃c,x=.d c:=by cases h with|d=>exact⟨_,rfl⟩
theorem BR(A B C:List Pt)(r':List At)(a:Option Sl)(hne:A≠[]\/B≠[])(h:Th (aL A) (aL B) r')(hC:aL C++r'=r)(hA:∀p∈A,0<p.n)(hB:∀p∈B,0<p.n)(hk:C.length+(tot A+tot B)<=N)(ha:vo a) :
  Wp (exs (run F w (n+2)) w (vF aE b5 aW) (fF one other A B C a)) (vH one other r N (tot A+tot B)):=by
 cases A with
 |nil=>
  cases B with
  |nil=>exact absurd hne (by simp)
  |cons q B'=>
   refine aj (aM (u7 (aJ rfl (az rfl) rfl)) (λh=>absurd h (by decide)) λ_=>?_);have hq:=hB q (by simp);cases q with
   |put s=>exact(vI hN [] B' C s r' a h rfl hC hA hB hk ha).mono λg fr ⟨hg,hx⟩=>by subst hg;exact aC ⟨rfl,hx⟩
   |keep k=>
    rw[cV]at h;cases k with
    |zero=>exact absurd hq (Nat.lt_irrefl 0)
    |succ k=>obtain⟨c,e⟩:=P8 (x:=.k) h;cases e
   |drop s=>
    rw[cV]at h;cases s with
    |nil=>exact absurd hq (Nat.lt_irrefl 0)
    |cons c s=>obtain⟨c,e⟩:=P8 (x:=.d c) h;cases e
 |cons p A'=>
  have hp0:=hA p (by simp);cases hd:fU p with
  |true=>
   cases p with
   |keep k=>cases hd
   |put s=>cases hd
   |drop s=>
    have lC:C.length<=5000:=by omega
    rw[cV]at h;obtain⟨r2,e2,h2⟩:=Th.ds h;unfold fF;rw[List.map_cons,List.reverse_cons];refine aj (aM (fT (aJ rfl (az rfl) j5) (by (repeat (first|array_get_dec|exact iR)))) (λ_=>?_) λh=>absurd h (by decide));refine aj (gG (by (repeat (first|array_get_dec|exact kP|exact BQ lC _ _))) (aC (aC ?_)));refine⟨rfl,tot A'+tot B,by rw[cE];omega,A',B,C++[.drop s],r2,a,h2,?_,λx hx=>hA x (by simp[hx]),hB,?_,rfl,ha,rfl⟩
    .rw[<-hC,e2,jy];simp[aL,Pt.aL]
    .rw[cE]at hk;simp;omega
  |false=>
   have st:Wp (exs (run F w (n+2)) w (vG aE b5 aW) (fF one other (p :: A') B C a)) (vH one other r N (tot (p :: A')+tot B)):=by
    cases B with
    |nil=>
     exfalso;rw[cV]at h;cases p with
     |drop s=>cases hd
     |keep k=>cases k with|zero=>exact absurd hp0 (Nat.lt_irrefl 0)|succ k=>obtain⟨c,e⟩:=P9 (x:=.k) h;cases e
     |put s=>cases s with|nil=>exact absurd hp0 (Nat.lt_irrefl 0)|cons c s=>obtain⟨c,e⟩:=P9 (x:=.p c) h;cases e
    |cons q B'=>
     cases hq:iE q with
     |true=>
      have hnd:BG (aL (p :: A'))=true:=by
       rw[cV];cases p with
       |drop s=>cases hd
       |keep k=>cases k<;>first|exact absurd hp0 (Nat.lt_irrefl 0)|rfl
       |put s=>cases s<;>first|exact absurd hp0 (Nat.lt_irrefl 0)|rfl
      cases q with
      |keep k=>cases hq
      |drop s=>cases hq
      |put s=>exact vI hN (p :: A') B' C s r' a h hnd hC hA hB hk ha
     |false=>exact DR hs hp ht hm hN A' B' C p q r' a hd hq h hC hA hB hk ha
   replace st:=st.mono (Q':=nx (run F w (n+2)) w .nil (vH one other r N (tot (p :: A')+tot B))) λg fr ⟨hg,hx⟩=>by subst hg;exact aC ⟨rfl,hx⟩
   unfold fF at st ⊢;rw[List.map_cons,List.reverse_cons]at st ⊢;cases p with
   |drop s=>cases hd
   |keep k=>exact aj (aM (fT (aJ rfl (az rfl) j5) (by (repeat (first|array_get_dec|exact iR)))) (λh=>absurd h (by decide)) λ_=>st)
   |put s=>exact aj (aM (fT (aJ rfl (az rfl) j5) (by (repeat (first|array_get_dec|exact iR)))) (λh=>absurd h (by decide)) λ_=>st)
omit hN in
theorem vJ(hst:F[aZ]?=some gX)(hf:F[bT]?=some (nu aZ))(hb:F[bL]?=some (jT aE))(ha:F[b7]?=some (kR aE))(vK:F[i]?=some (jV b7 bL bT aE b5 aW))(hw:5000<w)
  (one other:List Pt) (t:List Nat) (h1:aV one t=true) (h2:aV other (aB one t)=true) (b1:tot one<=2000) (b2:tot other<=2000) (l1:one.length<=2000) (l2:other.length<=2000) :
  ∃c,run F w (n+3) i [.val (aK one),.val (aK other)]=some (aK c,[])/\Tn one other c t:=by
 have f1:aP (aA (aL (aD one))) t=true:=by rw[<-fZ,fV,<-fY];exact h1
 have f2:aP (aA (aL (aD other))) (dA (aL (aD one)) t)=true:=by rw[<-fZ,fV,<-eH,gY,<-fY];exact h2
 obtain⟨r,hr⟩:=Th.all _ _ _ t (Nat.le_refl _) f1 f2;have e1:fC one=bF other:=by rw[<-lP h1,gZ h2]
 have ne:cop .ne (.int (fC one)) (.int (bF other))=some false:=by rw[zl,e1];simp
 have c1:=λfr=>cT (fr:=fr) (sW (F:=F) (w:=w) (n:=n) hs ha one (by omega) (by omega));have c2:=λfr=>cT (fr:=fr) (qu (F:=F) (w:=w) (n:=n) hs hb other (by omega) (by omega));have c3:=λfr=>cT (fr:=fr) (iO (F:=F) (w:=w) (n:=n) hst hf one (by omega) (by omega));have c4:=λfr=>cT (fr:=fr) (iO (F:=F) (w:=w) (n:=n) hst hf other (by omega) (by omega));have t1:=fW one;have t2:=fW other;have g1:=iS (jB (iP one));have g2:=iS (jB (iP other));have m1:e8 ((aD one).map Pt.v).reverse=some (.lst ((aD one).map Pt.v).reverse):=iZ (cS (by simp;omega));have m2:e8 ((aD other).map Pt.v).reverse=some (.lst ((aD other).map Pt.v).reverse):=iZ (cS (by simp;omega));have key:Wp (exs (run F w (n+2)) w (jV b7 bL bT aE b5 aW).body (dg (jV b7 bL bT aE b5 aW) [.val (aK one),.val (aK other)])) λg fr=>∃ps,aL ps=r/\g=.ret (aK (aD ps))/\outs 2 fr=[]:=by
  refine aj (aM (by (repeat (first|array_get_dec|exact c1 _|exact c2 _))) (λh=>absurd h (by decide)) λ_=>aC ?_);refine aj (iD (l:=((aD one).map Pt.v).reverse) (zj (Bp (b6 (aR rfl (az rfl) aY) (c3 _)) rfl) m1) rfl rfl ?_);refine aj (iD (l:=((aD other).map Pt.v).reverse) (zj (Bp (b6 (aR rfl (az rfl) aY) (c4 _)) rfl) m2) rfl rfl ?_);refine aj (iD (l:=[]) (by repeat array_get_dec) rfl rfl ?_);refine aj (Ow (uW (P7 one other r (tot one+tot other)) (λk fr hI=>?_) w (tot one+tot other) _ (by omega) ⟨aD one,aD other,[],r,none,hr,rfl,jB (iP one),jB (iP other),by simp,by omega,.none,rfl⟩));obtain⟨A,B,C,r',a,hT,hC,hA,hB,hk,hkk,Qa,rfl⟩:=hI;by_cases hne:A≠[]\/B≠[]
  .have ht1:aF (run F w (n+2)) (.orr (.v 2) (.v 3)) (fF one other A B C a)=.ok true (fF one other A B C a):=by
    cases A with
    |cons p A=>unfold fF;rw[List.map_cons,List.reverse_cons];exact Bo (aJ rfl (az rfl) j5)
    |nil=>
     cases B with
     |nil=>simp at hne
     |cons q B=>unfold fF;rw[List.map_cons,List.reverse_cons];exact qt (aJ rfl (az rfl) rfl) (aJ rfl (az rfl) j5)
   refine⟨true,_,ht1,?_⟩;dsimp only;rw[if_pos rfl];refine(BR hs hp ht hm (N:=tot one+tot other) (by omega) A B C r' a hne hT hC hA hB (by omega) Qa).mono λg fr ⟨hg,hx⟩=>?_;subst hg hkk;exact hx
  .obtain⟨rfl,rfl⟩:A=[]/\B=[]:=by simpa using hne
   refine⟨false,_,qt (aJ rfl (az rfl) rfl) (aJ rfl (az rfl) rfl),?_⟩;dsimp only;rw[if_neg (by decide)];cases hT;rw[List.append_nil]at hC;subst hC;have lC:=hr.len;rw[jz,jz,jz]at lC;have mt:toT (.lst (C.map Pt.v))=some (aK C):=by rw[xQ];exact kN (cS (by simp;omega))
   have c5:=λfr=>cT (fr:=fr) (iO (F:=F) (w:=w) (n:=n) hst hf C (by omega) (by omega));have sh:gD (fF one other [] [] C a)=[some (.val (aK one)),some (.val (aK other)),some (.val (.lst [])),some (.val (.lst [])),some (.val (.lst (C.map Pt.v))),a]:=by
    show _ :: _ :: _ :: _ :: _ :: [a.map Sl.fP]=_;rw[ek Qa];rfl
   refine aj (bZ (v:=aK (aD C)) (af:=[some (.val (aK one)),some (.val (aK other)),some (.val (.lst [])),some (.val (.lst [])),some (.val (.lst (C.map Pt.v))),a]) ?_ ⟨C,rfl,rfl,rfl⟩);rw[sh];exact b6 (aR rfl (zk (az rfl) mt) aY) (c5 _)
 obtain⟨g,fr,e,ps,hps,rfl,ho⟩:=key;refine⟨aD ps,?_,OH h1 h2 (hps▸hr)⟩;rw[run_eq vK rfl,e];simp only[Hy];rw[show outs (jV b7 bL bT aE b5 aW).np fr=[]from ho]
end
end
end Pv
namespace Pv
open Ev (D bw bq TY BI ME T E Es Eo It S Ss Fn big deep b2i rep bV dM bB aO cut b8 dz slots)
section
variable{F:List Fn}{w n bK aE b5 aW bT aZ b7 bL eF kW i:Nat}
theorem DS(hf:F[i]?=some MF)(c:List Pt)(t:List Nat)(h1:tot c<=10000)(h2:t.length<=10000)(h:aV c t=true):run F w (n+1) i [.val (aK c),.val (.str t)]=some (.str (aB c t),[]):=by
 refine cg hf rfl ?_;refine aj (bh (by repeat array_get_dec) rfl rfl ?_);refine aj (bh (by repeat array_get_dec) rfl rfl ?_);refine aj (nT (vs:=c.map Pt.v) (kQ (jw rfl) rfl) ?_);have dl:=lO c t;refine iN (e:=Pt.v) (λp l fr=>p++l=c/\bF p<=t.length/\aV l (t.drop (bF p))=true/\∃f a b,f++aB l (t.drop (bF p))=aB c t/\vo a/\vo b/\fr=[some (.val (aK c)),some (.val (.str t)),some (.val (.int (bF p))),some (.val (.str f)),a,b]) (λp x l fr ⟨hpl,Qc,hfit,f,a,b,hd,ha,hb,hfr⟩=>?_) (λp fr ⟨hpl,Qc,hfit,f,a,b,hd,ha,hb,hfr⟩=>?_) c [] _ ⟨rfl,by simp[bF,tot],by simpa[bF,tot]using h,[],none,none,by simp[bF,tot],.none,.none,rfl⟩
 .subst hfr;have lK:(p++[x])++l=c:=by simpa using hpl
  have lf:=congrArg List.length hd;rw[List.length_append]at lf;cases x with
  |put s=>
   have e2:bF (p++[.put s])=bF p:=by rw[rG,qz];simp[bF,tot]
   have ad:=lE (a:=f) (b:=s) (by simp[aB]at lf;omega);refine gu (jr rfl ha rfl hb) (aj (aM (by repeat array_get_dec) (λ_=>?_) λh=>absurd h (by decide)));refine aj (bh (by repeat array_get_dec) rfl rfl (aC (aC ?_)));rw[gf,e2];exact⟨lK,Qc,hfit,f++s,_,_,by simpa[aB]using hd,.val,.val,rfl⟩
  |drop s=>
   simp only[aV,Bool.and_eq_true]at hfit;have e2:bF (p++[.drop s])=bF p+s.length:=by rw[rG,qy];simp[bF,tot]
   have e3:((bF (p++[.drop s]):Nat):Int)=(bF p:Int)+(s.length:Nat):=by rw[e2];simp
   have hs:=hfit.1;rw[pre_take]at hs;have hs:=of_decide_eq_true hs;have hl:s.length<=(t.drop (bF p)).length:=by have:=congrArg List.length hs;simp at this ⊢;omega
   have hl2:bF p+s.length<=t.length:=by simp at hl;omega
   have ln:eL .len [.str s]=some (.int (s.length:Nat)):=len_str (by omega);have cu:gR (.str t) (some (bF p:Int)) (some ((bF p:Int)+(s.length:Nat)))=some (.str s):=by rw[iM,vz,hs]
   refine gu (jr rfl ha rfl hb) (aj (aM (by repeat array_get_dec) (λh=>absurd h (by decide)) λ_=>?_));refine aj (aM (by repeat array_get_dec) (λ_=>?_) λh=>absurd h (by decide));refine aj (aM (by repeat array_get_dec) (λh=>?_) λ_=>aC ?_)
   .simp at h
   .refine aj (bh (by repeat array_get_dec) rfl rfl (aC (aC (aC ?_))));rw[gf];refine⟨lK,by omega,?_,f,_,_,?_,.val,.val,by rw[e3];rfl⟩
    .rw[e2,<-List.drop_drop];exact hfit.2
    .rw[e2,<-List.drop_drop];simpa[aB]using hd
  |keep k=>
   simp only[aV,Bool.and_eq_true,decide_eq_true_eq]at hfit;have e2:bF (p++[.keep k])=bF p+k:=by rw[rG,qx];simp[bF,tot]
   have e3:((bF (p++[.keep k]):Nat):Int)=(bF p:Int)+(k:Nat):=by rw[e2];simp
   have hl2:bF p+k<=t.length:=by have:=hfit.1;simp at this;omega
   have cu:gR (.str t) (some (bF p:Int)) (some ((bF p:Int)+(k:Nat)))=some (.str ((t.drop (bF p)).take k)):=by rw[iM,vz]
   have ad:=lE (a:=f) (b:=(t.drop (bF p)).take k) (by simp[aB]at lf ⊢;omega);refine gu (jr rfl ha rfl hb) (aj (aM (by repeat array_get_dec) (λh=>absurd h (by decide)) λ_=>?_));refine aj (aM (by repeat array_get_dec) (λh=>absurd h (by decide)) λ_=>?_);refine aj (bh (by repeat array_get_dec) rfl rfl ?_);refine aj (bh (by repeat array_get_dec) rfl rfl (aC (aC (aC ?_))));rw[gf];refine⟨lK,by omega,?_,f++(t.drop (bF p)).take k,_,_,?_,.val,.val,by rw[e3];rfl⟩
   .rw[e2,<-List.drop_drop];exact hfit.2
   .rw[e2,<-List.drop_drop];simpa[aB]using hd
 .subst hfr;simp at hpl;subst hpl;have hd':f=aB p t:=by simpa[aB]using hd
  subst hd';have e0:=gZ h;have ln:eL .len [.str t]=some (.int (t.length:Nat)):=len_str (by omega);have eq:cop .eq (.int (bF p)) (.int (t.length:Nat))=some true:=by rw[vc,e0];simp
  have sh:gD [some (.val (aK p)),some (.val (.str t)),some (.val (.int (bF p))),some (.val (.str (aB p t))),a,b]=[some (.val (aK p)),some (.val (.str t)),some (.val (.int (bF p))),some (.val (.str (aB p t))),a,b]:=by
   show _ :: _ :: _ :: _ :: a.map Sl.fP :: [b.map Sl.fP]=_;rw[ek ha,ek hb];rfl
  refine aj (bZ (v:=.str (aB p t)) (af:=[some (.val (aK p)),some (.val (.str t)),some (.val (.int (bF p))),some (.val (.str (aB p t))),a,b]) ?_ ⟨rfl,rfl⟩);rw[sh];exact jZ (b:=true) (aJ rfl (by repeat array_get_dec) rfl) (λ_=>az rfl) λh=>absurd h (by decide)
noncomputable def Ch:List Nat->List (List Pt)->Prop
 |_,[]=>True
 |t,c :: rs=>aV c t=true/\Ch (aB c t) rs
noncomputable def cO(t:List Nat)(rs:List (List Pt)):List Nat:=rs.foldl (λs c=>aB c s) t
noncomputable def yd(T:List Tq)(rs:List (List Pt)):List Tq:=rs.foldl (λT c=>(told 0 c).map (sub T)) T
noncomputable def dI(rs:List (List Pt)):Nat:=(rs.map tot).sum
theorem Ip(t:List Nat)(p q:List (List Pt)):cO t (p++q)=cO (cO t p) q:=by simp[cO]
theorem vL{t:List Nat}:∀{p q:List (List Pt)},Ch t (p++q)↔Ch t p/\Ch (cO t p) q
 |[],q=>⟨λh=>⟨trivial,h⟩,λh=>h.2⟩
 |c :: p,q=>by
  show(aV c t=true/\Ch (aB c t) (p++q))↔(aV c t=true/\Ch (aB c t) p)/\Ch (cO (aB c t) p) q;rw[vL,and_assoc]
theorem Rx{a b:List Pt}{t:List Nat}(fa:aD a=a)(fb:aD b=b)(ha:aV a t=true)(hb:aV b t=true)(h:told 0 a=told 0 b):a=b:=by rw[<-fa,<-fb];exact BK ha hb h
structure An(c:List Pt)(t:List Nat)(rs:List (List Pt)):Prop where
 yc:aD c=c
 fit:aV c t=true
 dn:aB c t=cO t rs
 Fj:told 0 c=yd (told 0 [.keep t.length]) rs
 Uk:told 0 (sw c)=yd (told 0 [.keep (cO t rs).length]) (rs.map Ru).reverse
 tt:tot c<=t.length+dI rs
 ln:c.length<=tot c
section
variable(hs:F[aE]?=some eT)(hp:F[bK]?=some gb)(ht:F[aW]?=some (iQ bK aE))(hm:F[b5]?=some nW)
 (hst:F[aZ]?=some gX) (hf:F[bT]?=some (nu aZ)) (hb:F[bL]?=some (jT aE)) (ha:F[b7]?=some (kR aE)) (vK:F[kW]?=some (jV b7 bL bT aE b5 aW)) (hno:F[eF]?=some (ny bT)) (hw:5000<w)
include hs hp ht hm hst hf hb ha vK hno hw
end
end
end Pv
namespace Pv
section
variable{t:List Nat}{p q rs:List (List Pt)}{s e w x y c:List Pt}
end
open Ev (D bw bq TY BI ME T E Es Eo It S Ss Fn big deep b2i rep bV dM bB aO cut b8 dz slots)
inductive Hd(L:List V):Sl->List (List V)->Prop
 |val:Hd L (.val (.lst L)) []
 |bor:Hd L (.bor L) [L]
section
variable{F:List Fn}{w n bK aE b5 aW bT aZ b7 bL eF kW i:Nat}
section
variable(hs:F[aE]?=some eT)(hp:F[bK]?=some gb)(ht:F[aW]?=some (iQ bK aE))(hm:F[b5]?=some nW)
 (hst:F[aZ]?=some gX) (hf:F[bT]?=some (nu aZ)) (hb:F[bL]?=some (jT aE)) (ha:F[b7]?=some (kR aE)) (vK:F[kW]?=some (jV b7 bL bT aE b5 aW)) (hno:F[eF]?=some (ny bT)) (hw:5000<w)
include hs hp ht hm hst hf hb ha vK hno hw
end
end
end Pv
namespace Pv
open Ev (deep big rep cut bB)
theorem qI:∀(a b:List At) (t:List Nat),dA (a++b) t=dA a (t.take (aA a).length)++dA b (t.drop (aA a).length)
 |[],b,t=>by simp[dA,aA]
 |.k :: a,b,t=>by
  simp only[List.cons_append,dA,aA,List.length_cons,qI a b];cases t with
  |nil=>simp
  |cons c t=>simp
 |.d c :: a,b,t=>by
  simp only[List.cons_append,dA,aA,List.length_cons,qI a b];cases t with
  |nil=>simp
  |cons c t=>simp
 |.p c :: a,b,t=>by simp only[List.cons_append,dA,aA,qI a b]
noncomputable def Fp:List At->Bool
 |.p _ :: _=>false
 |_=>true
structure Cut(c:List Pt)(p:Nat)(A B:List Pt):Prop where
 at_:aL A++aL B=aL (aD c)
 bA:bF A=p
 hd:Fp (aL B)=true
 pA:∀q∈A,0<q.n
 pB:∀q∈B,0<q.n
 fA:kT A=true
 fB:kT B=true
section
variable{c A B:List Pt}{p:Nat}{t:List Nat}
theorem vM(c:List Pt):bF c=(aA (aL c)).length:=by rw[<-fZ,pH]
end
end Pv
namespace Pv
open Ev (D bw bq TY BI ME T E Es Eo It S Ss Fn big deep rep cut bB)
noncomputable def zD(dB:Nat):S:=.ret (.cl dB (.cons (.bin .add (.v 0) (.v 1)) .nil))
noncomputable def DT(dB:Nat):Fn:=⟨2,2,(.cons (zD dB) .nil)⟩
noncomputable def BU(lR:Nat)(j7:Nat):S:=.ret (.cl lR (.cons (.cl lR (.cons (.cl j7 (.cons (.v 0) .nil)) (.cons (.v 1) .nil))) (.cons (.cl j7 (.cons (.v 2) .nil)) .nil)))
noncomputable def Iq(lR:Nat)(j7:Nat):Fn:=⟨3,3,(.cons (BU lR j7) .nil)⟩
section
variable{F:List Fn}{w n aE aZ bT bL bK aW eF vN OI Ir i:Nat}
section
variable(hst:F[aZ]?=some gX)(hf:F[bT]?=some (nu aZ))(hj:F[vN]?=some (DT bT))(hn:F[eF]?=some (ny bT))(ha:F[Ir]?=some (Iq vN eF))
include hst hf hj hn ha
end
end
end Pv
namespace Pv
open Ev (D bw bq TY BI ME T E Es Eo It S Ss Fn big deep rep cut bB)
structure CA(a:List At)(p:Nat)(x y:List At):Prop where
 ap:x++y=a
 ln:(aA x).length=p
 hd:Fp y=true
theorem OJ(n i:Nat):tA i (List.replicate n .k)=(List.range n).map λj=>Tq.at (i+j):=by
 have:=dZ [.keep n] i;simp only[aL,Pt.aL,List.flatMap_cons,List.flatMap_nil,List.append_nil]at this;rw[<-this];simp[told,Pt.told]
section
variable{F:List Fn}{w n aE aZ bT bL b7 bK aW OI i:Nat}
end
end Pv
namespace Pv
open Ev (D bw bq TY BI ME T E Es Eo It S Ss Fn big deep rep cut bB)
abbrev Row:=List Nat×List Pt
noncomputable def bI(r:Row):V:=.tup [.str r.1,aK r.2]
noncomputable def bX(rs:List Row):List (List Pt):=rs.map Prod.snd
theorem rM(a b:List Row):bX (a++b)=bX a++bX b:=List.map_append
noncomputable def who(st:List V)(o:List Nat):Tq->V
 |.at i=>st.getD i .aQ
 |.sg _=>.str o
noncomputable def mj(st:List V)(r:Row):List V:=(told 0 r.2).map (who st r.1)
noncomputable def ows(st:List V)(rs:List Row):List V:=rs.foldl mj st
theorem Iu(st:List V)(a b:List Row):ows st (a++b)=ows (ows st a) b:=by simp[ows]
theorem Iv(st:List V)(r:Row):(mj st r).length=fC r.2:=by simp[mj,lN]
theorem Iw{c:List Pt}{i:Nat}(h:Tq.at i∈told 0 c):i<bF c:=by
 rw[dZ]at h;obtain⟨j,rfl,hj⟩:=(g6 (aL c) 0 i).mp h;have:=(List.getElem?_eq_some_iff.mp hj).1;rw[<-vM]at this;omega
theorem Iz{a c X:List Pt}{st:List V}{o:List Nat}(h:bF c=fC a)(hX:told 0 X=(told 0 c).map (sub (told 0 a))):mj st (o,X)=mj (mj st (o,a)) (o,c):=by
 unfold mj;rw[hX,List.map_map];refine List.map_congr_left λx hx=>?_;cases x with
 |sg d=>rfl
 |«at» i=>
  have hi:=Iw hx;rw[h,<-lN a 0]at hi;simp[Function.comp,sub,who,List.getD,List.getElem?_eq_getElem hi]
theorem Fq:∀{a:List At},cA a=0->a=List.replicate (aA a).length .k
 |[],_=>rfl
 |.k :: a,h=>by
  simp only[aA,List.length_cons,List.replicate_succ];rw[<-Fq (a:=a) (by simpa[cA]using h)]
 |.d c :: a,h=>by simp[cA]at h
 |.p c :: a,h=>by simp[cA]at h
theorem Ft{c:List Pt}(h:cst c=0):aL c=List.replicate (bF c) .k:=by
 rw[vM];exact Fq (by rw[<-nV];exact h)
theorem MI{Y:List Pt}{u:List Nat}(h:aL Y=List.replicate u.length .k):aB Y u=u:=by
 rw[eH,h];have:aB [.keep u.length] u=u:=by simp[aB]
 rw[eH]at this;simpa[aL,Pt.aL]using this
theorem zE{c:List Pt}{t:List Nat}(h:cst c=0)(f:aV c t=true):aB c t=t:=MI (by rw[Ft h,gZ f])
theorem BV{c:List Pt}{st:List V}{o:List Nat}(h:cst c=0)(hl:st.length=bF c):mj st (o,c)=st:=by
 unfold mj;rw[dZ,Ft h,OJ,List.map_map];apply List.ext_getElem?;intro i;by_cases hi:i<st.length
 .rw[List.getElem?_map,List.getElem?_range (by omega)];simp[who,List.getD,List.getElem?_eq_getElem hi]
 .rw[List.getElem?_eq_none (by simp;omega),List.getElem?_eq_none (by omega)]
open Classical in
noncomputable def bJ(t:List Nat)(a c:List Pt):List Pt:=if h:∃X,Tn a c X t then h.choose else []
theorem MJ{t:List Nat}{a c X:List Pt}(T:Tn a c X t):bJ t a c=X:=by
 have h:∃X,Tn a c X t:=⟨X,T⟩
 unfold bJ;rw[dif_pos h];have S:=h.choose_spec;exact Rx S.yc T.yc S.fit T.fit (S.Fj.trans T.Fj.symm)
noncomputable def fN(K:List Row)(r:Row)(X:List Pt):List Row:=if cst X=0 then K else K++[(r.1,X)]
noncomputable def stp(t:List Nat)(K:List Row)(r:Row):List Row:=match K.getLast? with
 |some q=>if q.1=r.1 then fN K.dropLast r (bJ (cO t (bX K.dropLast)) q.2 r.2)else fN K r (aD r.2)
 |none=>fN K r (aD r.2)
theorem vO{t:List Nat}{K:List Row}{o:List Nat}{a c X:List Pt}(T:Tn a c X (cO t (bX K))):stp t (K++[(o,a)]) (o,c)=fN K (o,c) X:=by
 unfold stp;simp only[List.getLast?_append,List.getLast?_singleton,Option.some_or,List.dropLast_concat,if_true];rw[MJ T]
theorem nA{t:List Nat}{K:List Row}{r:Row}(h:∀K' q,K=K'++[q]->q.1≠r.1):stp t K r=fN K r (aD r.2):=by
 unfold stp;split
 .rename_i q hq;obtain⟨K',rfl⟩:=List.getLast?_eq_some_iff.mp hq;rw[if_neg (h K' q rfl)]
 .rfl
noncomputable def g7(t:List Nat)(rs:List Row):List Row:=rs.foldl (stp t) []
theorem IA(t:List Nat)(a b:List Row):g7 t (a++b)=b.foldl (stp t) (g7 t a):=by simp[g7]
noncomputable def oU(K:List Row):Prop:=∀A a b B,K=A++a :: b :: B->a.1≠b.1
theorem oU.init{K:List Row}{x:Row}(h:oU (K++[x])):oU K:=λA a b B e=>h A a b (B++[x]) (by simp[e])
theorem oU.snoc{K:List Row}{x:Row}(h:oU K)(h2:∀K' q,K=K'++[q]->q.1≠x.1):oU (K++[x]):=by
 intro A a b B e;rcases List.eq_nil_or_concat B with rfl|⟨B',y,hy⟩
 .rw[show A++[a,b]=(A++[a])++[b]by simp]at e;obtain⟨e1,e2⟩:=List.append_inj' e rfl;cases e2;exact h2 A a e1
 .rw[List.concat_eq_append]at hy;subst hy;rw[show A++a :: b :: (B'++[y])=(A++a :: b :: B')++[y]by simp]at e;obtain⟨e1,e2⟩:=List.append_inj' e rfl;exact h A a b B' e1
theorem oU.last{K:List Row}{x:Row}(h:oU (K++[x])):∀K' q,K=K'++[q]->q.1≠x.1:=λK' q e=>h K' q x [] (by simp[e])
structure Nm(t:List Nat)(rs K:List Row):Prop where
 ch:Ch t (bX K)
 tx:cO t (bX K)=cO t (bX rs)
 ow:∀st:List V,st.length=t.length->ows st K=ows st rs
 fm:∀q∈K,aD q.2=q.2/\0<cst q.2
 ad:oU K
 ln:K.length<=rs.length
 sb:∀q∈K,∃r∈rs,r.1=q.1
 tt:dI (bX K)<=dI (bX rs)
theorem Nm.nil(t:List Nat):Nm t [] []:=by
 refine⟨trivial,rfl,λ_ _=>rfl,?_,?_,Nat.le_refl _,?_,Nat.le_refl _⟩
 .intro q h;cases h
 .intro A a b B e;simp at e
 .intro q h;cases h
theorem ye{t:List Nat}:∀{rs:List Row}{st:List V},st.length=t.length->Ch t (bX rs)->(ows st rs).length=(cO t (bX rs)).length
 |[],st,h,_=>h
 |r :: rs,st,h,hc=>by
  have h1:aV r.2 t=true:=hc.1;exact ye (t:=aB r.2 t) (by rw[Iv,lP h1]) hc.2
theorem jc(K:List Row)(r:Row):dI (bX (K++[r]))=dI (bX K)+tot r.2:=by simp[dI,bX]
theorem gP(t:List Nat)(K:List Row)(r:Row):cO t (bX (K++[r]))=aB r.2 (cO t (bX K)):=by rw[rM,Ip];rfl
theorem nY{t:List Nat}{K:List Row}{r:Row}:Ch t (bX (K++[r]))↔Ch t (bX K)/\aV r.2 (cO t (bX K))=true:=by
 rw[rM,vL];exact⟨λh=>⟨h.1,h.2.1⟩,λh=>⟨h.1,h.2,trivial⟩⟩
theorem lS(st:List V)(K:List Row)(r:Row):ows st (K++[r])=mj (ows st K) r:=by rw[Iu];rfl
section
variable{t:List Nat}{rs K:List Row}{o:List Nat}{c:List Pt}
theorem Nm.push{K':List Row}{X:List Pt}(hK:Ch t (bX K'))(hX:aV X (cO t (bX K'))=true)(tx:aB X (cO t (bX K'))=cO t (bX (rs++[(o,c)])))
  (ow:∀st:List V,st.length=t.length->mj (ows st K') (o,X)=ows st (rs++[(o,c)])) (fm:∀q∈K',aD q.2=q.2/\0<cst q.2) (fX:aD X=X) (ad:oU K') (al:∀K2 q,K'=K2++[q]->q.1≠o)
  (ln:K'.length<=rs.length) (sb:∀q∈K',∃r∈rs,r.1=q.1) (tt:dI (bX K')+tot X<=dI (bX (rs++[(o,c)]))):Nm t (rs++[(o,c)]) (fN K' (o,c) X):=by
 have sb':∀q∈K',∃r∈rs++[(o,c)],r.1=q.1:=λq hq=>by
  obtain⟨r,hr,e⟩:=sb q hq;exact⟨r,List.mem_append_left _ hr,e⟩
 unfold fN;split
 .rename_i h0;refine⟨hK,?_,λst hs=>?_,fm,ad,by simp;omega,sb',by omega⟩
  .rw[<-tx,zE h0 hX]
  .rw[<-ow st hs,BV h0 (by rw[ye hs hK,gZ hX])]
 .rename_i h0;refine⟨nY.mpr ⟨hK,hX⟩,by rw[gP];exact tx,λst hs=>by rw[lS];exact ow st hs,λq hq=>?_,ad.snoc al,by simp;omega,λq hq=>?_,by rw[jc];exact tt⟩
  .rcases List.mem_append.mp hq with hq|hq
   .exact fm q hq
   .rw[List.mem_singleton]at hq;subst hq;exact⟨fX,by simp only;omega⟩
  .rcases List.mem_append.mp hq with hq|hq
   .exact sb' q hq
   .rw[List.mem_singleton]at hq;subst hq;exact⟨(o,c),by simp,rfl⟩
theorem Nm.step(N:Nm t rs K)(hf:aV c (cO t (bX rs))=true)(hT:∀K' a,K=K'++[(o,a)]->∃X,Tn a c X (cO t (bX K'))):Nm t (rs++[(o,c)]) (stp t K (o,c)):=by
 by_cases h:∃K' a,K=K'++[(o,a)]
 .obtain⟨K',a,rfl⟩:=h;obtain⟨X,T⟩:=hT K' a rfl;rw[vO T];obtain⟨c1,c2⟩:=nY.mp N.ch;have e1:=N.tx;rw[gP]at e1;have tt:=N.tt;rw[jc]at tt;have t2:=T.tt;refine Nm.push c1 T.fit ?_ (λst hs=>?_) (λq hq=>N.fm q (List.mem_append_left _ hq)) T.yc N.ad.init (λK2 q e=>N.ad.last K2 q e) (by have:=N.ln;simp at this;omega) (λq hq=>N.sb q (List.mem_append_left _ hq)) (by rw[jc];simp only at tt ⊢;omega)
  .rw[T.dn,gP,<-e1]
  .rw[lS,<-N.ow st hs,lS];refine Iz ?_ T.Fj;rw[<-gZ hf,<-e1];exact lP c2
 .have hn:∀K' q,K=K'++[q]->q.1≠o:=λK' q e z=>h ⟨K',q.2,by rw[e];subst z;rfl⟩;rw[nA hn];refine Nm.push N.ch (by rw[vv,N.tx];exact hf) ?_ (λst hs=>?_) N.fm (jb c) N.ad hn N.ln N.sb (by rw[jc,fW];have:=N.tt;simp only;omega)
  .rw[gY,N.tx,gP]
  .rw[lS,N.ow st hs];unfold mj;rw[dU]
end
end Pv
namespace Pv
open Ev (D bw bq TY BI ME T E Es Eo It S Ss Fn big deep rep cut bB)
inductive Pa(f:Bool):List At->List At->List At->Prop
 |nil:Pa f [] [] []
 |p1 {a b r:List At} {c:Nat}:(f=true\/Fp b=true)->Pa f a b r->Pa f (.p c :: a) b (.p c :: r)
 |p2 {a b r:List At} {c:Nat}:(f=false\/Fp a=true)->Pa f a b r->Pa f a (.p c :: b) (.k :: r)
 |kk {a b r:List At}:Pa f a b r->Pa f (.k :: a) (.k :: b) (.k :: r)
 |dk {a b r:List At} {c:Nat}:Pa f a b r->Pa f (.d c :: a) (.k :: b) (.d c :: r)
 |kd {a b r:List At} {c:Nat}:Pa f a b r->Pa f (.k :: a) (.d c :: b) r
 |dd {a b r:List At} {c e:Nat}:Pa f a b r->Pa f (.d c :: a) (.d e :: b) r
structure Jn(f:Bool)(a b l m:List At)(W:Nat->List Tq):Prop where
 bk:Pa (!f) b a m
 t1:∀(i:Nat) (U:List Tq),(tA U.length m).map (sub (U++tA i a))=W i
 t2:∀(i:Nat) (U:List Tq),(tA U.length l).map (sub (U++tA i b))=W i
 ft:∀t:List Nat,aP (aA a) t=true->aP (aA b) t=true->aP (aA m) (dA a t)=true/\aP (aA l) (dA b t)=true/\dA m (dA a t)=dA l (dA b t)
noncomputable def tE:S:=.ret (.an (.cmp .gt (.bi .len (.cons (.v 0) .nil)) (.c (.int 0))) (.cmp .eq (.ix (.ix (.v 0) (.neg (.c (.int 1)))) (.c (.int 0))) (.c (.str [112,117,116]))))
noncomputable def v9:Fn:=⟨1,1,(.cons tE .nil)⟩
section
variable{F:List Fn}{w n aE aZ bT bK aW MK Si i:Nat}
variable(hs:F[aE]?=some eT)(hp:F[bK]?=some gb)(ht:F[aW]?=some (iQ bK aE))(Ul:F[MK]?=some v9){one other:List Pt}{f:Bool}{r:List At}{N:Nat}
include hs hp ht Ul
end
noncomputable def pS:List At->List Nat
 |[]=>[]
 |.p c :: a=>c :: pS a
 |_ :: a=>pS a
end Pv
namespace Pv
open Ev (D bw bq TY BI ME T E Es Eo It S Ss Fn big deep rep cut bB)
noncomputable def nD:List Pt->Nat
 |[]=>0
 |.drop s :: c=>s.length+nD c
 |_ :: c=>nD c
section
variable{F:List Fn}{w n i:Nat}
end
end Pv
namespace Pv
noncomputable def nP(c:List Pt):Nat:=(pS (aL c)).length
structure Ld(f:Bool)(one other l:List Pt)(t:List Nat):Prop where
 ft:aV l (aB other t)=true
 fm:aD l=l
 np:nP l=nP one
 nd:nD l<=nD one
noncomputable def yf(rs:List (List Pt)):Nat:=(rs.map nP).sum
noncomputable def Fw(rs:List (List Pt)):Prop:=∀c∈rs,aD c=c/\nD c<=60
structure Rp(c:List Pt)(os:List (List Pt))(t:List Nat)(c':List Pt)(L:List (List Pt)):Prop where
 ft:aV c' (cO t os)=true
 ch:Ch (aB c t) L
 tx:cO (aB c t) L=aB c' (cO t os)
 tl:∀T,yd T (c :: L)=yd T (os++[c'])
 ln:L.length=os.length
 pt:yf L=yf os
 fw:Fw os->Fw L
 np:nP c'=nP c
 nd:nD c'<=nD c
 fm:aD c=c->aD c'=c'
structure Rs(as os:List (List Pt))(t:List Nat)(M Y:List (List Pt)):Prop where
 c1:Ch (cO t os) M
 c2:Ch (cO t as) Y
 tl:∀T,yd T (as++Y)=yd T (os++M)
 l1:M.length=as.length
 l2:Y.length=os.length
 p1:yf M=yf as
 p2:yf Y=yf os
 f1:(∀c∈as,nD c<=60)->Fw M
 f2:Fw os->Fw Y
end Pv
namespace Pv
open Ev (D bw bq TY BI ME T E Es Eo It S Ss Fn big deep rep cut bB)
noncomputable def nZ(s:Nat)(a:List (List Nat)):List Nat:=a.map λy=>y.headD s
noncomputable def vl(x:List Nat):Tq->Nat
 |.at p=>x.getD p 0
 |.sg c=>c
noncomputable def kp(g:Nat->Bool):Nat->List (List Nat)->List Nat
 |_,[]=>[]
 |i,y :: a=>if decide (y=[])&&g i then i :: kp g (i+1) a else kp g (i+1) a
inductive Pw(a:List (List Nat)):List Tq->List Tq->Prop
 |nil:Pw a [] []
 |at {p L M}:Pw a L M->Pw a (.at p :: L) (.at p :: M)
 |sg {y L M}:Pw a L M->Pw a (.sg y :: L) (.sg y :: M)
 |as {y p L M}:a[p]?=some [y]->Pw a L M->Pw a (.sg y :: L) (.at p :: M)
structure Wi(c d:List Pt):Prop where
 fa:aV d (nZ 97 (asks c))=true
 fb:aV d (nZ 98 (asks c))=true
 da:aB c (nZ 97 (asks c))=aB d (nZ 97 (asks c))
 db:aB c (nZ 98 (asks c))=aB d (nZ 98 (asks c))
end Pv
namespace Pv
open Ev (D bw bq TY BI ME T E Es Eo It S Ss Fn big deep rep cut bB)
section
variable{F:List Fn}{w n aE bL Ry DU vA Um Qd Qe bT aZ i:Nat}
noncomputable def ou(c:List Pt)(x:List Nat):Option (List Nat):=if aV c x=true then some (aB c x)else none
inductive PR(c d:List Pt):V->Prop
 |no:aD c=aD d->PR c d .aQ
 |yes {x:List Nat}:aD c≠aD d->ou c x≠ou d x->x.length<=tot c+tot d->PR c d (.str x)
end
end Pv
namespace Pv
open Ev (D bw bq TY BI ME T E Es Eo It S Ss Fn big deep rep cut bB)
noncomputable def K1(k:List (Int×List Nat)):Prop:=∀e∈k,∃c:Nat,e.2=[c]
section
variable{F:List Fn}{w n aE bL Ry DU vA i:Nat}
end
end Pv
namespace Pv
open Ev (D bw bq TY BI ME T E Es Eo It S Ss Fn big deep b2i rep bV dM bB aO cut b8 dz slots)
noncomputable def mk(x:List Nat)(l:List Pt)(k:Nat)(f:List Nat):Option (List Nat):=if k<=x.length/\aV l (x.drop k)=true then some (f++aB l (x.drop k))else none
end Pv
namespace Pv
open Ev (D bw bq TY BI ME T E Es Eo It S Ss Fn)
section
variable{F:List Fn}{w n aE vA i:Nat}
end
end Pv
namespace Pv
open Ev (D bw bq TY BI ME T E Es Eo It S Ss Fn)
section
variable{P:aG}{X:cC}{w c:Nat}{fr af:Fr}{t:T}{it:It}{b:Ss}{vs:List V}{d:V}
noncomputable def oh(P:aG)(X:cC)(w:Nat)(t:T)(b:Ss):V->Fr->Option Nat:=λd aq=>match br t d aq with
 |some aS=>xss P X w b aS
 |none=>none
theorem OL(h:cK P false it (nL (itv it) fr)=.ok vs af)(q:cR (turnF P w t b) (oh P X w t b) vs af=some c):xs P X w (.for t it b) fr=some c:=by
 simp only[xs,h];exact q
theorem IB(h:Wp (turnF P w t b d fr) (fl (λaf=>cR (turnF P w t b) (oh P X w t b) vs af=some c) (λ_=>False) λ_ _=>False)):cR (turnF P w t b) (oh P X w t b) (d :: vs) fr=some c:=by
 obtain⟨g,af,e,q⟩:=h;simp only[cR,e];cases g with
 |nx=>exact q
 |ct=>exact q
 |bk=>exact q.elim
 |ret v=>exact q.elim
theorem IC(hX:∀f sl c,X f sl=some c->P f sl=none)(hb:br t d fr=some af)(h:xss P X w b af=some c):cR (turnF P w t b) (oh P X w t b) (d :: vs) fr=some c:=by
 have e:turnF P w t b d fr=.bad:=by unfold turnF;rw[hb];exact cX hX b h
 have e2:oh P X w t b d fr=some c:=by unfold oh;rw[hb];exact h
 simp only[cR,e];exact e2
end
section
variable{F:List Fn}{w n aE b5 aW bT bL b7 i:Nat}
theorem BW(hs:F[aE]?=some eT)(hb:F[bL]?=some (jT aE))(ha:F[b7]?=some (kR aE))(vK:F[i]?=some (jV b7 bL bT aE b5 aW))(one other:List Pt)(b1:tot one<=2000)(b2:tot other<=2000)(l1:one.length<=2000)(l2:other.length<=2000)(h:fC one≠bF other):cy F w (n+3) i [.val (aK one),.val (aK other)]=some 0:=by
 have c1:=λfr=>cT (fr:=fr) (sW (F:=F) (w:=w) (n:=n) hs ha one (by omega) (by omega));have c2:=λfr=>cT (fr:=fr) (qu (F:=F) (w:=w) (n:=n) hs hb other (by omega) (by omega));have ne:cop .ne (.int (fC one)) (.int (bF other))=some true:=by rw[zl];simp;omega
 refine E3 vK rfl (ni (ja F w (n+2)) (E2 (b:=true) (aJ rfl (bM (b6 (aR rfl (az rfl) aY) (c1 _)) (b6 (aR rfl (az rfl) aY) (c2 _)) ne) rfl) ?_));rw[if_pos rfl];exact ni (ja F w (n+2)) Oz
end
end Pv
namespace Pv
open Ev (D bw bq TY BI ME T E Es Eo It S Ss Fn big deep b2i rep bV dM bB aO cut b8 dz slots)
section
variable{P:aG}{X:cC}{w c:Nat}{fr:Fr}
end
section
variable{F:List Fn}{w n bK aE b5 aW bT aZ b7 bL eF kW i:Nat}
variable(hs:F[aE]?=some eT)(hp:F[bK]?=some gb)(ht:F[aW]?=some (iQ bK aE))(hm:F[b5]?=some nW){one other:List Pt}
include hs hp ht hm
end
end Pv
namespace Pv
open Ev (D bw bq TY BI ME T E Es Eo It S Ss Fn big deep b2i rep bV dM bB aO cut b8 dz slots)
section
variable{F:List Fn}{w n bK aE b5 aW bT aZ b7 bL eF kW i:Nat}
variable(hs:F[aE]?=some eT)(hp:F[bK]?=some gb)(ht:F[aW]?=some (iQ bK aE))(hm:F[b5]?=some nW)
include hs hp ht hm
end
end Pv
set_option maxRecDepth 100000
namespace Lw
@[reducible] noncomputable def Rz:Ev.S:=.iff (.cmp .eq (.ix (.v 0) (.c (.int 0))) (.c (.str [107,101,101,112]))) (.cons (.ret (.ix (.v 0) (.c (.int 1)))) .nil) .nil
@[reducible] noncomputable def RA:Ev.S:=.ret (.bi .len (.cons (.ix (.v 0) (.c (.int 1))) .nil))
@[reducible] noncomputable def f0:Ev.Fn:=⟨1,1,(.cons Rz (.cons RA .nil))⟩
@[reducible] noncomputable def RB:Ev.S:=.ret (.bi .sum (.cons (.comp (.cl 0 (.cons (.v 1) .nil)) (.one 1) (.seq (.v 0)) (.yes (.cmp .ne (.ix (.v 1) (.c (.int 0))) (.c (.str [112,117,116]))))) .nil))
@[reducible] noncomputable def f1:Ev.Fn:=⟨1,2,(.cons RB .nil)⟩
@[reducible] noncomputable def RC:Ev.S:=.ret (.bi .sum (.cons (.comp (.cl 0 (.cons (.v 1) .nil)) (.one 1) (.seq (.v 0)) (.yes (.cmp .ne (.ix (.v 1) (.c (.int 0))) (.c (.str [100,114,111,112]))))) .nil))
@[reducible] noncomputable def f2:Ev.Fn:=⟨1,2,(.cons RC .nil)⟩
@[reducible] noncomputable def RD:Ev.S:=.ret (.bi .sum (.cons (.comp (.cl 0 (.cons (.v 1) .nil)) (.one 1) (.seq (.v 0)) (.yes (.cmp .ne (.ix (.v 1) (.c (.int 0))) (.c (.str [107,101,101,112]))))) .nil))
@[reducible] noncomputable def f3:Ev.Fn:=⟨1,2,(.cons RD .nil)⟩
@[reducible] noncomputable def RE:Ev.S:=.set 1 (.lst .nil)
@[reducible] noncomputable def RG:Ev.S:=.set 2 (.c (.int 0))
@[reducible] noncomputable def RH:Ev.S:=.set 3 (.c (.str []))
@[reducible] noncomputable def RI:Ev.S:=.set 4 (.c (.str []))
@[reducible] noncomputable def RJ:Ev.Ss:=(.cons (.iff (.cmp .eq (.v 5) (.c (.str [100,114,111,112]))) (.cons (.set 3 (.bin .add (.v 3) (.v 6))) .nil) (.cons (.iff (.cmp .eq (.v 5) (.c (.str [112,117,116]))) (.cons (.set 4 (.bin .add (.v 4) (.v 6))) .nil) (.cons (.iff (.cmp .gt (.v 6) (.c (.int 0))) (.cons (.iff (.orr (.cmp .ne (.v 3) (.c (.str []))) (.cmp .ne (.v 4) (.c (.str [])))) (.cons (.exp (.me .extend (.v 1) (.cons (.cl 5 (.cons (.v 2) (.cons (.v 3) (.cons (.v 4) .nil)))) .nil))) (.cons (.set 2 (.c (.int 0))) (.cons (.set 3 (.c (.str []))) (.cons (.set 4 (.c (.str []))) .nil)))) .nil) (.cons (.set 2 (.bin .add (.v 2) (.v 6))) .nil)) .nil) .nil)) .nil)) .nil)
@[reducible] noncomputable def RK:Ev.S:=.for (.many [5,6]) (.seq (.v 0)) RJ
@[reducible] noncomputable def RL:Ev.S:=.exp (.me .extend (.v 1) (.cons (.cl 5 (.cons (.v 2) (.cons (.v 3) (.cons (.v 4) .nil)))) .nil))
@[reducible] noncomputable def RM:Ev.S:=.ret (.iG (.v 1))
@[reducible] noncomputable def f4:Ev.Fn:=⟨1,7,(.cons RE (.cons RG (.cons RH (.cons RI (.cons RK (.cons RL (.cons RM .nil)))))))⟩
@[reducible] noncomputable def RN:Ev.S:=.set 3 (.lst .nil)
@[reducible] noncomputable def RP:Ev.S:=.iff (.cmp .gt (.v 0) (.c (.int 0))) (.cons (.exp (.me .append (.v 3) (.cons (.tup (.cons (.c (.str [107,101,101,112])) (.cons (.v 0) .nil))) .nil))) .nil) .nil
@[reducible] noncomputable def RQ:Ev.S:=.iff (.cmp .ne (.v 1) (.c (.str []))) (.cons (.exp (.me .append (.v 3) (.cons (.tup (.cons (.c (.str [100,114,111,112])) (.cons (.v 1) .nil))) .nil))) .nil) .nil
@[reducible] noncomputable def RS:Ev.S:=.iff (.cmp .ne (.v 2) (.c (.str []))) (.cons (.exp (.me .append (.v 3) (.cons (.tup (.cons (.c (.str [112,117,116])) (.cons (.v 2) .nil))) .nil))) .nil) .nil
@[reducible] noncomputable def RT:Ev.S:=.ret (.v 3)
@[reducible] noncomputable def f5:Ev.Fn:=⟨3,4,(.cons RN (.cons RP (.cons RQ (.cons RS (.cons RT .nil)))))⟩
@[reducible] noncomputable def RU:Ev.S:=.iff (.cmp .ne (.cl 2 (.cons (.v 0) .nil)) (.cl 1 (.cons (.v 1) .nil))) (.cons (.ez 0) .nil) .nil
@[reducible] noncomputable def RW:Ev.S:=.set 2 (.gQ (.rev (.cl 4 (.cons (.v 0) .nil))))
@[reducible] noncomputable def RX:Ev.S:=.set 3 (.gQ (.rev (.cl 4 (.cons (.v 1) .nil))))
@[reducible] noncomputable def RY:Ev.S:=.set 4 (.lst .nil)
@[reducible] noncomputable def RZ:Ev.Ss:=(.cons (.iff (.an (.v 2) (.cmp .eq (.ix (.ix (.v 2) (.neg (.c (.int 1)))) (.c (.int 0))) (.c (.str [100,114,111,112])))) (.cons (.exp (.me .append (.v 4) (.cons (.me .pop (.v 2) .nil) .nil))) .nil) (.cons (.iff (.an (.v 3) (.cmp .eq (.ix (.ix (.v 3) (.neg (.c (.int 1)))) (.c (.int 0))) (.c (.str [112,117,116])))) (.cons (.exp (.me .append (.v 4) (.cons (.me .pop (.v 3) .nil) .nil))) .nil) (.cons (.set 5 (.bi .min (.cons (.cl 0 (.cons (.ix (.v 2) (.neg (.c (.int 1)))) .nil)) (.cons (.cl 0 (.cons (.ix (.v 3) (.neg (.c (.int 1)))) .nil)) .nil)))) (.cons (.exp (.me .extend (.v 4) (.cons (.cl 7 (.cons (.cl 8 (.cons (.v 2) (.cons (.v 5) .nil))) (.cons (.cl 8 (.cons (.v 3) (.cons (.v 5) .nil))) .nil))) .nil))) .nil))) .nil)) .nil)
@[reducible] noncomputable def R0:Ev.S:=.iW (.orr (.v 2) (.v 3)) RZ
@[reducible] noncomputable def R1:Ev.S:=.ret (.cl 4 (.cons (.iG (.v 4)) .nil))
@[reducible] noncomputable def f6:Ev.Fn:=⟨2,6,(.cons RU (.cons RW (.cons RX (.cons RY (.cons R0 (.cons R1 .nil))))))⟩
@[reducible] noncomputable def R3:Ev.S:=.iff (.cmp .eq (.ix (.v 1) (.c (.int 0))) (.c (.str [107,101,101,112]))) (.cons (.ret (.lst (.cons (.v 0) .nil))) .nil) .nil
@[reducible] noncomputable def R4:Ev.S:=.iff (.cmp .eq (.ix (.v 0) (.c (.int 0))) (.c (.str [107,101,101,112]))) (.cons (.ret (.lst (.cons (.v 1) .nil))) .nil) .nil
@[reducible] noncomputable def R5:Ev.S:=.iff (.cmp .ne (.ix (.v 0) (.c (.int 1))) (.ix (.v 1) (.c (.int 1)))) (.cons (.ez 0) .nil) .nil
@[reducible] noncomputable def R6:Ev.S:=.ret (.lst .nil)
@[reducible] noncomputable def f7:Ev.Fn:=⟨2,2,(.cons R3 (.cons R4 (.cons R5 (.cons R6 .nil))))⟩
@[reducible] noncomputable def R7:Ev.S:=.set 2 (.cl 9 (.cons (.me .pop (.v 0) .nil) (.cons (.v 1) .nil)))
@[reducible] noncomputable def R8:Ev.S:=.iff (.cmp .gt (.cl 0 (.cons (.ix (.v 2) (.c (.int 1))) .nil)) (.c (.int 0))) (.cons (.exp (.me .append (.v 0) (.cons (.ix (.v 2) (.c (.int 1))) .nil))) .nil) .nil
@[reducible] noncomputable def R9:Ev.S:=.ret (.ix (.v 2) (.c (.int 0)))
@[reducible] noncomputable def f8:Ev.Fn:=⟨2,3,(.cons R7 (.cons R8 (.cons R9 .nil)))⟩
@[reducible] noncomputable def Sa:Ev.S:=.set 2 (.ix (.v 0) (.c (.int 0)))
@[reducible] noncomputable def Sb:Ev.S:=.iff (.cmp .eq (.v 2) (.c (.str [107,101,101,112]))) (.cons (.ret (.tup (.cons (.tup (.cons (.v 2) (.cons (.v 1) .nil))) (.cons (.tup (.cons (.v 2) (.cons (.bin .sub (.ix (.v 0) (.c (.int 1))) (.v 1)) .nil))) .nil)))) .nil) .nil
@[reducible] noncomputable def Sd:Ev.S:=.ret (.tup (.cons (.tup (.cons (.v 2) (.cons (.sl (.ix (.v 0) (.c (.int 1))) .no (.yes (.v 1))) .nil))) (.cons (.tup (.cons (.v 2) (.cons (.sl (.ix (.v 0) (.c (.int 1))) (.yes (.v 1)) .no) .nil))) .nil)))
@[reducible] noncomputable def f9:Ev.Fn:=⟨2,3,(.cons Sa (.cons Sb (.cons Sd .nil)))⟩
@[reducible] noncomputable def OM:Ev.S:=.set 1 (.lst .nil)
@[reducible] noncomputable def zF:Ev.Ss:=(.cons (.set 4 (.cl 4 (.cons (.v 3) .nil))) (.cons (.iff (.an (.v 1) (.cmp .eq (.ix (.ix (.v 1) (.neg (.c (.int 1)))) (.c (.int 0))) (.v 2))) (.cons (.set 4 (.cl 6 (.cons (.ix (.me .pop (.v 1) .nil) (.c (.int 1))) (.cons (.v 3) .nil)))) .nil) .nil) (.cons (.iff (.cmp .gt (.cl 3 (.cons (.v 4) .nil)) (.c (.int 0))) (.cons (.exp (.me .append (.v 1) (.cons (.tup (.cons (.v 2) (.cons (.v 4) .nil))) .nil))) .nil) .nil) .nil)))
@[reducible] noncomputable def ON:Ev.S:=.for (.many [2,3]) (.seq (.v 0)) zF
@[reducible] noncomputable def OO:Ev.S:=.ret (.v 1)
@[reducible] noncomputable def qc:Ev.Fn:=⟨1,5,(.cons OM (.cons ON (.cons OO .nil)))⟩
@[reducible] noncomputable def OP:Ev.S:=.iff (.cmp .eq (.v 0) (.lst .nil)) (.cons (.ret (.bin .mul (.c (.int 7)) (.v 1))) .nil) .nil
@[reducible] noncomputable def OQ:Ev.S:=.ret (.bin .add (.ix (.v 0) (.bin .mod (.v 1) (.bi .len (.cons (.v 0) .nil)))) (.bin .mul (.c (.int 6553)) (.bin .fdiv (.v 1) (.bi .len (.cons (.v 0) .nil)))))
@[reducible] noncomputable def ML:Ev.Fn:=⟨2,2,(.cons OP (.cons OQ .nil))⟩
@[reducible] noncomputable def OR:Ev.S:=.set 3 (.bin .mod (.bin .add (.bin .mul (.bin .mod (.cl 11 (.cons (.v 0) (.cons (.v 1) .nil))) (.c (.int 2147483563))) (.c (.int 69069))) (.bin .mul (.c (.int 104723)) (.bin .add (.v 1) (.c (.int 1))))) (.c (.int 2147483563)))
@[reducible] noncomputable def OS:Ev.S:=.set 3 (.bin .mod (.bin .add (.bin .mul (.v 3) (.v 3)) (.bin .fdiv (.v 3) (.c (.int 3)))) (.c (.int 2147483399)))
@[reducible] noncomputable def OT:Ev.S:=.ret (.bin .mod (.bin .fdiv (.bin .mod (.bin .add (.bin .mul (.v 3) (.v 3)) (.bin .fdiv (.v 3) (.c (.int 7)))) (.c (.int 2147483647))) (.c (.int 11))) (.v 2))
@[reducible] noncomputable def MM:Ev.Fn:=⟨3,4,(.cons OR (.cons OS (.cons OT .nil)))⟩
@[reducible] noncomputable def OU:Ev.S:=.ret (.me .join (.c (.str [])) (.cons (.comp (.ix (.c (.str [97,98,99,32])) (.cl 12 (.cons (.v 0) (.cons (.bin .add (.bin .add (.v 1) (.c (.int 1))) (.v 3)) (.cons (.c (.int 4)) .nil))))) (.one 3) (.g8 (.cons (.cl 12 (.cons (.v 0) (.cons (.v 1) (.cons (.bin .add (.v 2) (.c (.int 1))) .nil)))) .nil)) .no) .nil))
@[reducible] noncomputable def MN:Ev.Fn:=⟨3,4,(.cons OU .nil)⟩
@[reducible] noncomputable def OV:Ev.S:=.set 3 (.tup .nil)
@[reducible] noncomputable def OW:Ev.Ss:=(.cons (.iff (.cmp .eq (.cl 12 (.cons (.v 0) (.cons (.bin .add (.v 1) (.bin .mul (.c (.int 4)) (.v 4))) (.cons (.c (.int 4)) .nil)))) (.c (.int 0))) (.cons (.set 5 (.bin .mul (.ix (.c (.str [97,98,122])) (.cl 12 (.cons (.v 0) (.cons (.bin .add (.bin .add (.v 1) (.bin .mul (.c (.int 4)) (.v 4))) (.c (.int 1))) (.cons (.c (.int 3)) .nil))))) (.bin .add (.c (.int 1)) (.cl 12 (.cons (.v 0) (.cons (.bin .add (.bin .add (.v 1) (.bin .mul (.c (.int 4)) (.v 4))) (.c (.int 2))) (.cons (.c (.int 2)) .nil))))))) (.cons (.set 3 (.bin .add (.v 3) (.tup (.cons (.tup (.cons (.c (.str [112,117,116])) (.cons (.v 5) .nil))) .nil)))) .nil)) .nil) (.cons (.iff (.cmp .lt (.v 4) (.bi .len (.cons (.v 2) .nil))) (.cons (.set 6 (.cmp .gt (.cl 12 (.cons (.v 0) (.cons (.bin .add (.bin .add (.v 1) (.bin .mul (.c (.int 4)) (.v 4))) (.c (.int 3))) (.cons (.c (.int 3)) .nil)))) (.c (.int 0)))) (.cons (.set 3 (.bin .add (.v 3) (.tup (.cons (.gk (.v 6) (.tup (.cons (.c (.str [107,101,101,112])) (.cons (.c (.int 1)) .nil))) (.tup (.cons (.c (.str [100,114,111,112])) (.cons (.ix (.v 2) (.v 4)) .nil)))) .nil)))) .nil)) .nil) .nil))
@[reducible] noncomputable def OX:Ev.S:=.for (.one 4) (.g8 (.cons (.bin .add (.bi .len (.cons (.v 2) .nil)) (.c (.int 1))) .nil)) OW
@[reducible] noncomputable def OY:Ev.S:=.ret (.v 3)
@[reducible] noncomputable def MO:Ev.Fn:=⟨3,7,(.cons OV (.cons OX (.cons OY .nil)))⟩
@[reducible] noncomputable def OZ:Ev.S:=.set 2 (.c (.int 0))
@[reducible] noncomputable def O0:Ev.S:=.set 3 (.c (.str []))
@[reducible] noncomputable def O1:Ev.Ss:=(.cons (.iff (.cmp .eq (.v 4) (.c (.str [112,117,116]))) (.cons (.set 3 (.bin .add (.v 3) (.v 5))) .nil) (.cons (.iff (.cmp .eq (.v 4) (.c (.str [100,114,111,112]))) (.cons (.iff (.cmp .ne (.sl (.v 1) (.yes (.v 2)) (.yes (.bin .add (.v 2) (.bi .len (.cons (.v 5) .nil))))) (.v 5)) (.cons (.ret (.c (.aQ))) .nil) .nil) (.cons (.set 2 (.bin .add (.v 2) (.bi .len (.cons (.v 5) .nil)))) .nil)) (.cons (.set 3 (.bin .add (.v 3) (.sl (.v 1) (.yes (.v 2)) (.yes (.bin .add (.v 2) (.v 5)))))) (.cons (.set 2 (.bin .add (.v 2) (.v 5))) .nil))) .nil)) .nil)
@[reducible] noncomputable def O2:Ev.S:=.for (.many [4,5]) (.seq (.v 0)) O1
@[reducible] noncomputable def O3:Ev.S:=.ret (.gk (.cmp .eq (.v 2) (.bi .len (.cons (.v 1) .nil))) (.v 3) (.c (.aQ)))
@[reducible] noncomputable def MP:Ev.Fn:=⟨2,6,(.cons OZ (.cons O0 (.cons O2 (.cons O3 .nil))))⟩
@[reducible] noncomputable def Fv:Ev.S:=.iff (.cmp .eq (.cl 12 (.cons (.v 0) (.cons (.bin .add (.v 1) (.c (.int 60))) (.cons (.c (.int 5)) .nil)))) (.c (.int 0))) (.cons (.ret (.gk (.cmp .ne (.v 2) (.c (.str []))) (.tup (.cons (.tup (.cons (.c (.str [107,101,101,112])) (.cons (.bi .len (.cons (.v 2) .nil)) .nil))) .nil)) (.tup .nil))) .nil) .nil
@[reducible] noncomputable def zG:Ev.S:=.iff (.cmp .lt (.bi .len (.cons (.v 2) .nil)) (.c (.int 7))) (.cons (.ret (.cl 14 (.cons (.v 0) (.cons (.v 1) (.cons (.v 2) .nil))))) .nil) .nil
@[reducible] noncomputable def zH:Ev.S:=.set 3 (.cl 12 (.cons (.v 0) (.cons (.bin .add (.v 1) (.c (.int 61))) (.cons (.bin .sub (.bi .len (.cons (.v 2) .nil)) (.c (.int 3))) .nil))))
@[reducible] noncomputable def zI:Ev.S:=.set 4 (.gk (.cmp .gt (.v 3) (.c (.int 0))) (.tup (.cons (.tup (.cons (.c (.str [107,101,101,112])) (.cons (.v 3) .nil))) .nil)) (.tup .nil))
@[reducible] noncomputable def zJ:Ev.S:=.set 5 (.bin .sub (.bin .sub (.bi .len (.cons (.v 2) .nil)) (.v 3)) (.c (.int 3)))
@[reducible] noncomputable def zK:Ev.S:=.ret (.bin .add (.bin .add (.v 4) (.cl 14 (.cons (.v 0) (.cons (.v 1) (.cons (.sl (.v 2) (.yes (.v 3)) (.yes (.bin .add (.v 3) (.c (.int 3))))) .nil))))) (.gk (.cmp .gt (.v 5) (.c (.int 0))) (.tup (.cons (.tup (.cons (.c (.str [107,101,101,112])) (.cons (.v 5) .nil))) .nil)) (.tup .nil)))
@[reducible] noncomputable def oV:Ev.Fn:=⟨3,6,(.cons Fv (.cons zG (.cons zH (.cons zI (.cons zJ (.cons zK .nil))))))⟩
@[reducible] noncomputable def O4:Ev.S:=.set 4 (.lst .nil)
@[reducible] noncomputable def Fx:Ev.Ss:=(.cons (.set 6 (.ix (.lst (.cons (.c (.str [97,110,110])) (.cons (.c (.str [98,111])) (.cons (.c (.str [97,110,110])) (.cons (.c (.str [99])) .nil))))) (.cl 12 (.cons (.v 0) (.cons (.bin .add (.bin .add (.v 1) (.c (.int 1))) (.bin .mul (.c (.int 70)) (.v 5))) (.cons (.c (.int 4)) .nil)))))) (.cons (.set 7 (.cl 16 (.cons (.v 0) (.cons (.bin .add (.bin .add (.v 1) (.c (.int 2))) (.bin .mul (.c (.int 70)) (.v 5))) (.cons (.v 2) .nil))))) (.cons (.set 2 (.cl 15 (.cons (.v 7) (.cons (.v 2) .nil)))) (.cons (.exp (.me .append (.v 4) (.cons (.tup (.cons (.v 6) (.cons (.v 7) .nil))) .nil))) .nil))))
@[reducible] noncomputable def O5:Ev.S:=.for (.one 5) (.g8 (.cons (.cl 12 (.cons (.v 0) (.cons (.v 1) (.cons (.bin .add (.v 3) (.c (.int 1))) .nil)))) .nil)) Fx
@[reducible] noncomputable def O6:Ev.S:=.ret (.v 4)
@[reducible] noncomputable def vQ:Ev.Fn:=⟨4,8,(.cons O4 (.cons O5 (.cons O6 .nil)))⟩
@[reducible] noncomputable def O7:Ev.S:=.tr 10 1 (.cons (.v 0) .nil)
@[reducible] noncomputable def Fy:Ev.Fn:=⟨1,2,(.cons O7 .nil)⟩
@[reducible] noncomputable def O8:Ev.S:=.set 1 (.cl 13 (.cons (.v 0) (.cons (.c (.int 0)) (.cons (.c (.int 6)) .nil))))
@[reducible] noncomputable def O9:Ev.S:=.set 2 (.cl 17 (.cons (.v 0) (.cons (.c (.int 20)) (.cons (.v 1) (.cons (.c (.int 5)) .nil)))))
@[reducible] noncomputable def Pb:Ev.S:=.set 3 (.lst .nil)
@[reducible] noncomputable def zL:Ev.Ss:=(.cons (.iff (.an (.cmp .ne (.v 3) (.lst .nil)) (.cmp .eq (.ix (.ix (.v 3) (.neg (.c (.int 1)))) (.c (.int 0))) (.v 4))) (.cons (.set 5 (.cl 6 (.cons (.ix (.me .pop (.v 3) .nil) (.c (.int 1))) (.cons (.v 5) .nil)))) .nil) .nil) (.cons (.iff (.cmp .gt (.cl 3 (.cons (.v 5) .nil)) (.c (.int 0))) (.cons (.exp (.me .append (.v 3) (.cons (.tup (.cons (.v 4) (.cons (.cl 4 (.cons (.v 5) .nil)) .nil))) .nil))) .nil) .nil) .nil))
@[reducible] noncomputable def Pc:Ev.S:=.for (.many [4,5]) (.seq (.v 2)) zL
@[reducible] noncomputable def Fz:Ev.S:=.iff (.cmp .ne (.cl 18 (.cons (.v 2) .nil)) (.v 3)) (.cons (.ret (.c (.bl false))) .nil) .nil
@[reducible] noncomputable def FA:Ev.S:=.set 6 (.tup (.cons (.tup (.cons (.c (.str [112,117,116])) (.cons (.c (.str [97,98])) .nil))) .nil))
@[reducible] noncomputable def FD:Ev.S:=.set 7 (.tup (.cons (.tup (.cons (.c (.str [100,114,111,112])) (.cons (.c (.str [97,98])) .nil))) .nil))
@[reducible] noncomputable def FE:Ev.S:=.iff (.cmp .ne (.cl 18 (.cons (.lst (.cons (.tup (.cons (.c (.str [98,111])) (.cons (.v 6) .nil))) (.cons (.tup (.cons (.c (.str [98,111])) (.cons (.v 7) .nil))) (.cons (.tup (.cons (.c (.str [98,111])) (.cons (.v 6) .nil))) .nil)))) .nil)) (.lst (.cons (.tup (.cons (.c (.str [98,111])) (.cons (.v 6) .nil))) .nil))) (.cons (.ret (.c (.bl false))) .nil) .nil
@[reducible] noncomputable def FF:Ev.S:=.iff (.cmp .ne (.cl 18 (.cons (.lst (.cons (.tup (.cons (.c (.str [98,111])) (.cons (.v 6) .nil))) (.cons (.tup (.cons (.c (.str [97,110,110])) (.cons (.tup (.cons (.tup (.cons (.c (.str [107,101,101,112])) (.cons (.c (.int 2)) .nil))) .nil)) .nil))) (.cons (.tup (.cons (.c (.str [98,111])) (.cons (.v 7) .nil))) (.cons (.tup (.cons (.c (.str [99])) (.cons (.tup .nil) .nil))) .nil))))) .nil)) (.lst .nil)) (.cons (.ret (.c (.bl false))) .nil) .nil
@[reducible] noncomputable def FG:Ev.S:=.set 8 (.lst (.cons (.tup (.cons (.c (.str [98,111])) (.cons (.v 6) .nil))) (.cons (.tup (.cons (.c (.str [98,111])) (.cons (.tup (.cons (.tup (.cons (.c (.str [107,101,101,112])) (.cons (.c (.int 3)) .nil))) .nil)) .nil))) .nil)))
@[reducible] noncomputable def BX:Ev.S:=.iff (.cmp .ne (.cl 18 (.cons (.v 8) .nil)) (.tup (.cons (.c (.str [114,101,102,117,115,101,100])) (.cons (.c (.int 0)) .nil)))) (.cons (.ret (.c (.bl false))) .nil) .nil
@[reducible] noncomputable def BY:Ev.S:=.iff (.cmp .eq (.cl 18 (.cons (.lst (.cons (.tup (.cons (.c (.str [98,111])) (.cons (.v 6) .nil))) (.cons (.tup (.cons (.c (.str [97,110,110])) (.cons (.tup (.cons (.tup (.cons (.c (.str [100,114,111,112])) (.cons (.c (.str [120])) .nil))) .nil)) .nil))) .nil))) .nil)) (.tup (.cons (.c (.str [114,101,102,117,115,101,100])) (.cons (.c (.int 0)) .nil)))) (.cons (.ret (.c (.bl false))) .nil) .nil
@[reducible] noncomputable def BZ:Ev.S:=.set 9 (.tup (.cons (.tup (.cons (.c (.str [107,101,101,112])) (.cons (.c (.int 1)) .nil))) (.cons (.tup (.cons (.c (.str [107,101,101,112])) (.cons (.c (.int 1)) .nil))) (.cons (.tup (.cons (.c (.str [112,117,116])) (.cons (.c (.str [97])) .nil))) (.cons (.tup (.cons (.c (.str [100,114,111,112])) (.cons (.c (.str [98])) .nil))) .nil)))))
@[reducible] noncomputable def B3:Ev.S:=.iff (.cmp .ne (.cl 18 (.cons (.lst (.cons (.tup (.cons (.c (.str [97,110,110])) (.cons (.v 9) .nil))) .nil)) .nil)) (.lst (.cons (.tup (.cons (.c (.str [97,110,110])) (.cons (.tup (.cons (.tup (.cons (.c (.str [107,101,101,112])) (.cons (.c (.int 2)) .nil))) (.cons (.tup (.cons (.c (.str [100,114,111,112])) (.cons (.c (.str [98])) .nil))) (.cons (.tup (.cons (.c (.str [112,117,116])) (.cons (.c (.str [97])) .nil))) .nil)))) .nil))) .nil))) (.cons (.ret (.c (.bl false))) .nil) .nil
@[reducible] noncomputable def B4:Ev.S:=.ret (.cmp .eq (.cl 18 (.cons (.lst .nil) .nil)) (.lst .nil))
@[reducible] noncomputable def B5:Ev.Fn:=⟨1,10,(.cons O8 (.cons O9 (.cons Pb (.cons Pc (.cons Fz (.cons FA (.cons FD (.cons FE (.cons FF (.cons FG (.cons BX (.cons BY (.cons BZ (.cons B3 (.cons B4 .nil)))))))))))))))⟩
noncomputable def prog:List Ev.Fn:=[f0,f1,f2,f3,f4,f5,f6,f7,f8,f9,qc,ML,MM,MN,MO,MP,oV,vQ,Fy,B5]
end Lw
set_option maxRecDepth 100000
namespace Lw
open PySem PySem.Spec PyProof.Rows L2 Sm
open Ev (D O Hh Fr R aG E Es Eo T S Ss Fl Src bw bq TY BI ME)
noncomputable def top(i:Nat):Stmt:=PySem.Challenge.pw_pastways_k63_squeezed.main.body.getD i (.Pass ⟨0,0,0,0⟩)
abbrev i0 (a:Nat->Addr) (d:Nat->FuncData):FI:=⟨"size",a 0,d 0,["part"]⟩
abbrev i1 (a:Nat->Addr) (d:Nat->FuncData):FI:=⟨"before",a 1,d 1,["change"]⟩
abbrev i2 (a:Nat->Addr) (d:Nat->FuncData):FI:=⟨"after",a 2,d 2,["change"]⟩
abbrev i3 (a:Nat->Addr) (d:Nat->FuncData):FI:=⟨"cost",a 3,d 3,["change"]⟩
abbrev i4 (a:Nat->Addr) (d:Nat->FuncData):FI:=⟨"form",a 4,d 4,["change"]⟩
abbrev i5 (a:Nat->Addr) (d:Nat->FuncData):FI:=⟨"stretch",a 5,d 5,["kept","gone","new"]⟩
abbrev i6 (a:Nat->Addr) (d:Nat->FuncData):FI:=⟨"then",a 6,d 6,["one","other"]⟩
abbrev i7 (a:Nat->Addr) (d:Nat->FuncData):FI:=⟨"met",a 7,d 7,["left","gone_through"]⟩
abbrev i8 (a:Nat->Addr) (d:Nat->FuncData):FI:=⟨"taken",a 8,d 8,["parts","many"]⟩
abbrev i9 (a:Nat->Addr) (d:Nat->FuncData):FI:=⟨"parted",a 9,d 9,["part","many"]⟩
abbrev yg (a:Nat->Addr) (d:Nat->FuncData):FI:=⟨"squeezed",a 10,d 10,["rows"]⟩
abbrev MQ (a:Nat->Addr) (d:Nat->FuncData):FI:=⟨"_law_cell",a 11,d 11,["_law_script","_law_k"]⟩
abbrev i12 (a:Nat->Addr) (d:Nat->FuncData):FI:=⟨"_law_drawn",a 12,d 12,["_law_script","_law_k","_law_many"]⟩
abbrev MR (a:Nat->Addr) (d:Nat->FuncData):FI:=⟨"_law_text",a 13,d 13,["_law_script","_law_at","_law_most"]⟩
abbrev MS (a:Nat->Addr) (d:Nat->FuncData):FI:=⟨"_law_change",a 14,d 14,["_law_script","_law_at","_law_text_here"]⟩
abbrev MT (a:Nat->Addr) (d:Nat->FuncData):FI:=⟨"_law_made",a 15,d 15,["_law_change_here","_law_text_here"]⟩
abbrev MU (a:Nat->Addr) (d:Nat->FuncData):FI:=⟨"_law_small",a 16,d 16,["_law_script","_law_at","_law_text_here"]⟩
abbrev MV (a:Nat->Addr) (d:Nat->FuncData):FI:=⟨"_law_rows",a 17,d 17,["_law_script","_law_at","_law_text_here","_law_most"]⟩
abbrev Qf (a:Nat->Addr) (d:Nat->FuncData):FI:=⟨"_law_told",a 18,d 18,["_law_rows_here"]⟩
abbrev FH (a:Nat->Addr) (d:Nat->FuncData):FI:=⟨"law",a 19,d 19,["_law_script"]⟩
noncomputable def qJ:List Str:=["ValueError","isinstance","len","list","min","range","reversed","sum","tuple"]
theorem Pd:("len" : Str)∈qJ:=by decide +kernel
theorem MW:("list" : Str)∈qJ:=by decide +kernel
theorem Pe:("min" : Str)∈qJ:=by decide +kernel
theorem ID:("range" : Str)∈qJ:=by decide +kernel
theorem zM:("reversed" : Str)∈qJ:=by decide +kernel
theorem Pf:("sum" : Str)∈qJ:=by decide +kernel
theorem IE:("tuple" : Str)∈qJ:=by decide +kernel
noncomputable def tb (a:Nat->Addr) (d:Nat->FuncData):Tb:=⟨prog,100000,[i0 a d,i1 a d,i2 a d,i3 a d,i4 a d,i5 a d,i6 a d,i7 a d,i8 a d,i9 a d,yg a d,MQ a d,i12 a d,MR a d,MS a d,MT a d,MU a d,MV a d,Qf a d,FH a d],qJ,[("__name__",.str [108,97,119,95,112,97,115,116,119,97,121,115,95,107,54,51,95,115,113,117,101,101,122,101,100])],[]⟩
section
variable{a:Nat->Addr}{d:Nat->FuncData}{n:Nat}
abbrev n0:List Str:=["part"]
theorem s0:bG n0 ["part"] (ay (top 1)):=⟨rfl,rfl,rfl,by decide +kernel,rfl,by decide +kernel,by decide +kernel⟩
abbrev n1:List Str:=["change"]
theorem s1:bG n1 ["change"] (ay (top 2)):=⟨rfl,rfl,rfl,by decide +kernel,rfl,by decide +kernel,by decide +kernel⟩
abbrev n2:List Str:=["change"]
theorem s2:bG n2 ["change"] (ay (top 3)):=⟨rfl,rfl,rfl,by decide +kernel,rfl,by decide +kernel,by decide +kernel⟩
abbrev n3:List Str:=["change"]
theorem s3:bG n3 ["change"] (ay (top 4)):=⟨rfl,rfl,rfl,by decide +kernel,rfl,by decide +kernel,by decide +kernel⟩
abbrev n4:List Str:=["change","parts","kept","gone","new","word","what"]
theorem s4:bG n4 ["change"] (ay (top 5)):=⟨rfl,rfl,rfl,by decide +kernel,rfl,by decide +kernel,by decide +kernel⟩
abbrev n5:List Str:=["kept","gone","new","parts"]
theorem s5:bG n5 ["kept","gone","new"] (ay (top 6)):=⟨rfl,rfl,rfl,by decide +kernel,rfl,by decide +kernel,by decide +kernel⟩
abbrev n6:List Str:=["one","other","ones","others","parts","many"]
theorem s6:bG n6 ["one","other"] (ay (top 11)):=⟨rfl,rfl,rfl,by decide +kernel,rfl,by decide +kernel,by decide +kernel⟩
abbrev n7:List Str:=["left","gone_through"]
theorem s7:bG n7 ["left","gone_through"] (ay (top 12)):=⟨rfl,rfl,rfl,by decide +kernel,rfl,by decide +kernel,by decide +kernel⟩
abbrev n8:List Str:=["parts","many","halves"]
theorem s8:bG n8 ["parts","many"] (ay (top 13)):=⟨rfl,rfl,rfl,by decide +kernel,rfl,by decide +kernel,by decide +kernel⟩
abbrev n9:List Str:=["part","many","word"]
theorem s9:bG n9 ["part","many"] (ay (top 14)):=⟨rfl,rfl,rfl,by decide +kernel,rfl,by decide +kernel,by decide +kernel⟩
abbrev B6:List Str:=["rows","kept","own","change","whole"]
theorem Ko:bG B6 ["rows"] (ay (top 16)):=⟨rfl,rfl,rfl,by decide +kernel,rfl,by decide +kernel,by decide +kernel⟩
abbrev MX:List Str:=["_law_script","_law_k"]
theorem Ej:bG MX ["_law_script","_law_k"] (ay (top 18)):=⟨rfl,rfl,rfl,by decide +kernel,rfl,by decide +kernel,by decide +kernel⟩
abbrev MY:List Str:=["_law_script","_law_k","_law_many","_law_cell_here"]
theorem s12:bG MY ["_law_script","_law_k","_law_many"] (ay (top 19)):=⟨rfl,rfl,rfl,by decide +kernel,rfl,by decide +kernel,by decide +kernel⟩
abbrev MZ:List Str:=["_law_script","_law_at","_law_most"]
theorem Uo:bG MZ ["_law_script","_law_at","_law_most"] (ay (top 20)):=⟨rfl,rfl,rfl,by decide +kernel,rfl,by decide +kernel,by decide +kernel⟩
abbrev M4:List Str:=["_law_script","_law_at","_law_text_here","_law_found","_law_k","_law_new","_law_is_kept"]
theorem Up:bG M4 ["_law_script","_law_at","_law_text_here"] (ay (top 21)):=⟨rfl,rfl,rfl,by decide +kernel,rfl,by decide +kernel,by decide +kernel⟩
abbrev M5:List Str:=["_law_change_here","_law_text_here","_law_place","_law_found","_law_word","_law_what"]
theorem Uq:bG M5 ["_law_change_here","_law_text_here"] (ay (top 22)):=⟨rfl,rfl,rfl,by decide +kernel,rfl,by decide +kernel,by decide +kernel⟩
abbrev M6:List Str:=["_law_script","_law_at","_law_text_here","_law_place","_law_here","_law_rest"]
theorem Ur:bG M6 ["_law_script","_law_at","_law_text_here"] (ay (top 23)):=⟨rfl,rfl,rfl,by decide +kernel,rfl,by decide +kernel,by decide +kernel⟩
abbrev M7:List Str:=["_law_script","_law_at","_law_text_here","_law_most","_law_found","_law_k","_law_own","_law_change_here"]
theorem Us:bG M7 ["_law_script","_law_at","_law_text_here","_law_most"] (ay (top 24)):=⟨rfl,rfl,rfl,by decide +kernel,rfl,by decide +kernel,by decide +kernel⟩
abbrev M8:List Str:=["_law_rows_here","_law_e"]
theorem Ut:bG M8 ["_law_rows_here"] (ay (top 26)):=⟨rfl,rfl,rfl,by decide +kernel,rfl,by decide +kernel,by decide +kernel⟩
abbrev M9:List Str:=["_law_script","_law_text_here","_law_rows_here","_law_due","_law_own","_law_change_here","_law_here","_law_back","_law_odd","_law_loose"]
theorem Uu:bG M9 ["_law_script"] (ay (top 27)):=⟨rfl,rfl,rfl,by decide +kernel,rfl,by decide +kernel,by decide +kernel⟩
noncomputable def cz:List (Str×Nat):=[("NoFit",0)]
noncomputable def rz:List Nat:=[6,7,10,19]
noncomputable def su:List Nat:=[6,7,10]
theorem hz:Ev.oE rz 0 prog=true:=by decide +kernel
noncomputable def Se(s:Stmt):List Expr:=match cW s with
 |[.Try [.Return (some (.Call _ xs _ _)) _] _ _ _ _]=>xs
 |_=>[]
set_option maxHeartbeats 0 in
theorem ee{cl:Nat->Addr}:allB (tb a d) n [(f0.body,top 1,n0),(f1.body,top 2,n1),(f2.body,top 3,n2),(f3.body,top 4,n3),(f4.body,top 5,n4),(f5.body,top 6,n5),(f6.body,top 11,n6),(f7.body,top 12,n7),(f8.body,top 13,n8),(f9.body,top 14,n9),(qc.body,top 16,B6),(ML.body,top 18,MX),(MM.body,top 19,MY),(MN.body,top 20,MZ),(MO.body,top 21,M4),(MP.body,top 22,M5),(oV.body,top 23,M6),(vQ.body,top 24,M7),(B5.body,top 27,M9)]/\jg (tb a d) cl cz rz su n (ay (top 11)) n6 true (List.range n6.length) f6.body (cW (top 11))/\jg (tb a d) cl cz rz su n (ay (top 12)) n7 true (List.range n7.length) f7.body (cW (top 12))/\jg (tb a d) cl cz rz su n (ay (top 16)) B6 true (List.range B6.length) qc.body (cW (top 16))/\JA (tb a d) n (ay (top 26)) M8 true (List.range M8.length) (.cons (.v 0) .nil) (Se (top 26)):=by
 refine⟨⟨?_,?_,?_,?_,?_,?_,?_,?_,?_,?_,?_,?_,?_,?_,?_,?_,?_,?_,?_,trivial⟩,bO ?_ (kI ?_ (by decide +kernel) (bO ?_ (xj) (dj (by decide +kernel))) (dj (by decide +kernel))) (bO ?_ (iY (by decide +kernel)) (bO ?_ (iY (by decide +kernel)) (bO ?_ (iY (by decide +kernel)) (bO ?_ (G7 ?_ ?_ (bO ?_ (kI ?_ (by decide +kernel) (dj (by decide +kernel)) (bO ?_ (kI ?_ (by decide +kernel) (dj (by decide +kernel)) (bO ?_ (iY (by decide +kernel)) (bO ?_ (G2 (N5 (k:=.extend) PySem.F.plainAttrs_list PySem.F.slot_list_extend PySem.F.type_list_extend rfl ?_ (CS ?_ (ER (by decide +kernel) (by decide +kernel) rfl rfl ?_ (uD (by decide +kernel))) (uD (by decide +kernel))))) (dj (by decide +kernel))))) (dj (by decide +kernel)))) (dj (by decide +kernel)))) (dj (by decide +kernel)))))),bO ?_ (iY (by decide +kernel)) (bO ?_ (iY (by decide +kernel)) (bO ?_ (kI ?_ (by decide +kernel) (bO ?_ (xj) (dj (by decide +kernel))) (dj (by decide +kernel))) (dj (by decide +kernel)))),bO ?_ (iY (by decide +kernel)) (bO ?_ (G8 ?_ ?_ ?_ (bO ?_ (iY (by decide +kernel)) (bO ?_ (kI ?_ (by decide +kernel) (bO ?_ (G3 (by decide +kernel) (ER (by decide +kernel) (by decide +kernel) rfl rfl ?_ (uD (by decide +kernel)))) (dj (by decide +kernel))) (dj (by decide +kernel))) (dj (by decide +kernel))))) (dj (by decide +kernel))),?_⟩;all_goals try dsimp only
 all_goals repeat (first
  | ((with_reducible show JA _ _ _ _ _ _ (.cons _ _) _);refine Gx ?_ ?_)
  | ((with_reducible show JE _ _ _ _ _ _ (.v _) _);exact jv (by decide +kernel))
  | ((with_reducible show JA _ _ _ _ _ _ .nil _);refine JP)
  | ((with_reducible show jL _ _ _ _ _ _ (.cons _ _) _);refine ug ?_ ?_)
  | ((with_reducible show JE _ _ _ _ _ _ (.c (.int _)) _);refine JL)
  | ((with_reducible show jL _ _ _ _ _ _ .nil _);refine wN)
  | ((with_reducible show JE _ _ _ _ _ _ (.c (.str _)) _);refine JN)
  | ((with_reducible show JE _ _ _ _ _ _ (.tup _) _);refine JQ ?_)
  | ((with_reducible show JE _ _ _ _ _ _ (.cl _ _) _);refine PJ (by decide +kernel) rfl rfl ?_)
  | ((with_reducible show JE _ _ _ _ _ _ (.bin .add _ _) _);refine mS (λX g=>Kv) ?_ ?_)
  | ((with_reducible show JS _ _ _ _ _ _ (.iff _ _ _) _);refine Kc ?_ ?_ ?_)
  | ((with_reducible show JE _ _ _ _ _ _ (.ix _ _) _);refine NO (λX g=>NX) ?_ ?_)
  | ((with_reducible show JS _ _ _ _ _ _ (.ret _) _);refine Aw ?_)
  | ((with_reducible show JE _ _ _ _ _ _ (.lst _) _);refine JR ?_)
  | ((with_reducible show JT _ _ _ _ _ _ (.cmp .eq _ _) _);refine pY (λX g=>Ew g) ?_ ?_ (jF _))
  | ((with_reducible show JT _ _ _ _ _ _ (.cmp .ne _ _) _);refine pY (λX g=>NV g) ?_ ?_ (jF _))
  | ((with_reducible show JE _ _ _ _ _ _ (.bin .mul _ _) _);refine mS (λX g=>KJ) ?_ ?_)
  | ((with_reducible show JE _ _ _ _ _ _ (.bi .len _) _);refine yF (x:="len") (id:="len") (λX g=>KN) ?_ (hb:=Pd) (hv:=by decide +kernel))
  | ((with_reducible show JS _ _ _ _ _ _ (.exp _) _);refine Ka ?_)
  | ((with_reducible show JE _ _ _ _ _ _ (.me .append _ (.cons _ _)) _);refine yH PySem.F.plainAttrs_list PySem.F.slot_list_append PySem.F.type_list_append (λX g=>AK) rfl ?_ ?_)
  | ((with_reducible show sA _ _ _ _ _ _ (_ :: _) _);refine To (by decide +kernel) ?_)
  | ((with_reducible show JO _ _ _ _ _ _ (.yes _) _);refine J2 ?_)
  | ((with_reducible show JI _ _ _ _ _ _ (.seq _) _ _);refine J6 ?_)
  | ((with_reducible show JT _ _ _ _ _ _ (.cmp .gt _ _) _);refine pY (λX g=>Ey) ?_ ?_ (jF _))
  | ((with_reducible show JG _ _ _ _ _ _ (.one _) _);exact Tj (by decide +kernel))
  | ((with_reducible show JS _ _ _ _ _ _ (.for _ _ _) _);refine Ke ?_ ?_ ?_)
  | ((with_reducible show JE _ _ _ _ _ _ (.neg _) _);refine JU ?_)
  | ((with_reducible show JE _ _ _ _ _ _ (.bin .mod _ _) _);refine mS (λX g=>Ky) ?_ ?_)
  | ((with_reducible show JE _ _ _ _ _ _ (.c (.bl _)) _);refine NL)
  | ((with_reducible show JE _ _ _ _ _ _ (.me .pop _ .nil) _);refine J3 PySem.F.plainAttrs_list PySem.F.slot_list_pop PySem.F.type_list_pop (λX g=>KP) rfl ?_)
  | ((with_reducible show JE _ _ _ _ _ _ (.sl _ _ _) _);refine NQ (λX g=>KI) ?_ ?_ ?_)
  | ((with_reducible show JE _ _ _ _ _ _ (.gk _ _ _) _);refine JV ?_ ?_ ?_)
  | ((with_reducible show JE _ _ _ _ _ _ (.comp _ _ _ _) _);refine N3 (by decide +kernel) (by decide +kernel) ?_ ?_ ?_ ?_)
  | ((with_reducible show JG _ _ _ _ _ _ (.many _) _);refine GD ?_)
  | ((with_reducible show sA _ _ _ _ _ _ [] _);refine GC)
  | ((with_reducible show JT _ _ _ _ _ _ (.an _ _) _);refine Rc ?_ ?_)
  | ((with_reducible show JW _ _ _ _ _ _ (.an _ _) (.BoolOp _ (_ :: _ :: _) _));refine Ef ?_ ?_)
  | ((with_reducible show JW _ _ _ _ _ _ _ (.BoolOp .And [_] _));refine JY ?_)
  | ((with_reducible show JE _ _ _ _ _ _ (.bin .sub _ _) _);refine mS (λX g=>Kw) ?_ ?_)
  | ((with_reducible show JE _ _ _ _ _ _ (.bin .fdiv _ _) _);refine mS (λX g=>GN) ?_ ?_)
  | ((with_reducible show JE _ _ _ _ _ _ (.bi .sum _) _);refine yF (x:="sum") (id:="sum") (λX g=>KL g) ?_ (hb:=Pf) (hv:=by decide +kernel))
  | ((with_reducible show JC _ _ _ _ _ _ (.yes _) _);refine Kf ?_)
  | ((with_reducible show JE _ _ _ _ _ _ (.me .extend _ (.cons _ _)) _);refine yH PySem.F.plainAttrs_list PySem.F.slot_list_extend PySem.F.type_list_extend (λX g=>AL) rfl ?_ ?_)
  | ((with_reducible show JI _ _ _ _ _ _ (.g8 (.cons _ .nil)) _ _);refine GB ?_ (hb:=ID))
  | ((with_reducible show JT _ _ _ _ _ _ (.orr _ _) _);refine Rf ?_ ?_)
  | ((with_reducible show JW _ _ _ _ _ _ (.orr _ _) (.BoolOp _ (_ :: _ :: _) _));refine Ar ?_ ?_)
  | ((with_reducible show JW _ _ _ _ _ _ _ (.BoolOp .Or [_] _));refine Gy ?_)
  | ((with_reducible show JE _ _ _ _ _ _ (.iG _) _);refine KQ ?_ (h1:=IE))
  | ((with_reducible show JS _ _ _ _ _ _ (.ez _) _);refine KS)
  | ((with_reducible show JE _ _ _ _ _ _ (.gQ (.rev _)) _);refine GU ?_ (h1:=MW) (hb:=zM))
  | ((with_reducible show JO _ _ _ _ _ _ .no _);refine NP)
  | ((with_reducible show JT _ _ _ _ _ _ (.cmp .lt _ _) _);refine pY (λX g=>NW) ?_ ?_ (jF _))
  | ((with_reducible show JE _ _ _ _ _ _ (.c .aQ) _);refine JM)
  | ((with_reducible show JS _ _ _ _ _ _ (.iW _ _) _);refine Kd ?_ ?_)
  | ((with_reducible show JE _ _ _ _ _ _ (.bi .min _) _);refine yF (x:="min") (id:="min") (λX g=>KO g) ?_ (hb:=Pe) (hv:=by decide +kernel))
  | ((with_reducible show JE _ _ _ _ _ _ (.me .join _ (.cons _ _)) _);refine yH PySem.F.plainAttrs_str PySem.F.slot_str_join PySem.F.type_str_join (λX g=>GS) rfl ?_ ?_)
  | ((with_reducible show JC _ _ _ _ _ _ .no _);refine NS)
  | ((with_reducible show JE _ _ _ _ _ _ (.cmp .gt _ _) _);refine Aq (λX g=>Ey) ?_ ?_ (jF _))
  | ((with_reducible show JE _ _ _ _ _ _ (.cmp .eq _ _) _);refine Aq (λX g=>Ew g) ?_ ?_ (jF _))
  | ((with_reducible show JS _ _ _ _ _ _ (.set _ _) _);refine Rb ?_ ?_;decide +kernel)
  | ((with_reducible show JT _ _ _ _ _ _ _ _);refine J0 ?_))
end
end Lw
set_option maxRecDepth 100000
namespace Lw
open PySem PySem.Spec PyProof.Rows L2 Sm
open Ev (D O Hh Fr R aG E Es Eo T S Ss Fl Src bw bq TY BI ME)
theorem kB{α:Type _}{l:List α}(h:l.length=1):∃a,l=[a]:=by
 rcases l with _|⟨a,_|⟨b,l⟩⟩<;>simp at h ⊢
theorem pN{α:Type _}{l:List α}(h:l.length=2):∃a b,l=[a,b]:=by
 rcases l with _|⟨a,l⟩
 .simp at h
 .obtain⟨b,rfl⟩:=kB (l:=l) (by simpa using h);exact⟨a,b,rfl⟩
theorem rN{α:Type _}{l:List α}(h:l.length=3):∃a b c,l=[a,b,c]:=by
 rcases l with _|⟨a,l⟩
 .simp at h
 .obtain⟨b,c,rfl⟩:=pN (l:=l) (by simpa using h);exact⟨a,b,c,rfl⟩
theorem Sf{α:Type _}{l:List α}(h:l.length=4):∃a b c d,l=[a,b,c,d]:=by
 rcases l with _|⟨a,l⟩
 .simp at h
 .obtain⟨b,c,d,rfl⟩:=rN (l:=l) (by simpa using h);exact⟨a,b,c,d,rfl⟩
structure Fg(K:PySem.W.Frag)(x:Str)(i:Nat)(p:Addr)(d:FuncData):Prop where
 a:PySem.W.nsIn K mainGlobals x=some (some (.ref p))
 f:lU K x x (top i) p d
theorem Fg.t{K:PySem.W.Frag}{h:Heap}{mg:Str->Option Value}{x:Str}{i:Nat}{p:Addr}{d:FuncData}{ps:List Str}(F:Fg K x i p d)(X:K.In h)(G:h.Ns mainGlobals mg)(b:Binds K d ps []):mg x=some (.ref p)/\PySem.W.keepIn K (.ref p)=true/\Binds K d ps []:=⟨PySem.W.mg_of X G F.a,F.f.kp,b⟩
theorem all_mk {l:PySem.W.OpenLaw}{w:World}{K:PySem.W.Frag}{h:Heap}{mg:Str->Option Value}{fa p0 p1 p2 p3 p4 p5 p6 p7 p8 p9 ED EE EF EG EH EI EJ EK EL AU:Addr}{d0 d1 d2 d3 d4 d5 d6 d7 d8 d9 Qg Qh Qi Qj Qk Ql Qm Qn Qo Na:FuncData}(X:K.In h) (G:h.Ns mainGlobals mg) (Uv:mg "law" = some (.ref fa))
  (F0:Fg K "size" 1 p0 d0)
  (F1:Fg K "before" 2 p1 d1)
  (F2:Fg K "after" 3 p2 d2)
  (F3:Fg K "cost" 4 p3 d3)
  (F4:Fg K "form" 5 p4 d4)
  (F5:Fg K "stretch" 6 p5 d5)
  (F6:Fg K "then" 11 p6 d6)
  (F7:Fg K "met" 12 p7 d7)
  (F8:Fg K "taken" 13 p8 d8)
  (F9:Fg K "parted" 14 p9 d9)
  (FJ:Fg K "squeezed" 16 ED Qg)
  (Nb:Fg K "_law_cell" 18 EE Qh)
  (Nc:Fg K "_law_drawn" 19 EF Qi)
  (Nd:Fg K "_law_text" 20 EG Qj)
  (Nf:Fg K "_law_change" 21 EH Qk)
  (Ng:Fg K "_law_made" 22 EI Ql)
  (Nh:Fg K "_law_small" 23 EJ Qm)
  (Ni:Fg K "_law_rows" 24 EK Qn)
  (Nj:Fg K "_law_told" 26 EL Qo)
  (B7:Fg K "law" 27 AU Na)
  {pr Wc C0:Addr} {dr:FuncData} (FR:Fg K "_law_refused" 25 pr dr) (xw:PySem.W.nsIn K mainGlobals "WayError" = some (some (.ref Wc)))
  (X0:Lk K "NoFit" C0 Wc)
  (z0:PySem.W.nsIn K mainGlobals "ValueError" = some none)
  (z1:PySem.W.nsIn K mainGlobals "isinstance" = some none)
  (z2:PySem.W.nsIn K mainGlobals "len" = some none)
  (z3:PySem.W.nsIn K mainGlobals "list" = some none)
  (z4:PySem.W.nsIn K mainGlobals "min" = some none)
  (z5:PySem.W.nsIn K mainGlobals "range" = some none)
  (z6:PySem.W.nsIn K mainGlobals "reversed" = some none)
  (z7:PySem.W.nsIn K mainGlobals "sum" = some none)
  (z8:PySem.W.nsIn K mainGlobals "tuple" = some none)
  {t0:Tok} (q0:PySem.W.nsIn K mainGlobals "__name__" = some (some (.str "law_pastways_k63_squeezed" t0)))
  : ∃fd:FuncData,(∀(s:Shared) (v:Value),BindsTo s fd ⟨[v],[]⟩ [("_law_script",v)])/\∀base:Heap,K.In base->base.Ns mainGlobals mg->eO l.prog w K mg base jk 60 fa fd ["_law_script"] (lW K prog 100000 60 19):=by
 have e:=Uv.symm.trans (PySem.W.mg_of X G B7.a);have e2:AU=fa:=by injection e with e;injection e with e;exact e.symm
 subst e2
 let aa:Nat->Addr:=λk=>[p0,p1,p2,p3,p4,p5,p6,p7,p8,p9,ED,EE,EF,EG,EH,EI,EJ,EK,EL,AU].getD k p0
 let dd:Nat->FuncData:=λk=>[d0,d1,d2,d3,d4,d5,d6,d7,d8,d9,Qg,Qh,Qi,Qj,Qk,Ql,Qm,Qn,Qo,Na].getD k d0
 have T:Top l.prog w K mg (tb aa dd):=by
  refine⟨λf i hi=>(show ∀i∈(tb aa dd).fi,mg i.name=some (.ref i.addr)/\PySem.W.keepIn K (.ref i.addr)=true/\Binds K i.fd i.ps []from ?_) i (List.mem_of_getElem? hi),?_,?_,?_⟩
  .refine List.forall_mem_cons.mpr ⟨F0.t X G (F0.f.binds λ_ _ _ _ _ _ us hl=>by obtain⟨_,rfl⟩:=kB hl;rfl),?_⟩;refine List.forall_mem_cons.mpr ⟨F1.t X G (F1.f.binds λ_ _ _ _ _ _ us hl=>by obtain⟨_,rfl⟩:=kB hl;rfl),?_⟩;refine List.forall_mem_cons.mpr ⟨F2.t X G (F2.f.binds λ_ _ _ _ _ _ us hl=>by obtain⟨_,rfl⟩:=kB hl;rfl),?_⟩;refine List.forall_mem_cons.mpr ⟨F3.t X G (F3.f.binds λ_ _ _ _ _ _ us hl=>by obtain⟨_,rfl⟩:=kB hl;rfl),?_⟩;refine List.forall_mem_cons.mpr ⟨F4.t X G (F4.f.binds λ_ _ _ _ _ _ us hl=>by obtain⟨_,rfl⟩:=kB hl;rfl),?_⟩;refine List.forall_mem_cons.mpr ⟨F5.t X G (F5.f.binds λ_ _ _ _ _ _ us hl=>by obtain⟨_,_,_,rfl⟩:=rN hl;rfl),?_⟩;refine List.forall_mem_cons.mpr ⟨F6.t X G (F6.f.binds λ_ _ _ _ _ _ us hl=>by obtain⟨_,_,rfl⟩:=pN hl;rfl),?_⟩;refine List.forall_mem_cons.mpr ⟨F7.t X G (F7.f.binds λ_ _ _ _ _ _ us hl=>by obtain⟨_,_,rfl⟩:=pN hl;rfl),?_⟩;refine List.forall_mem_cons.mpr ⟨F8.t X G (F8.f.binds λ_ _ _ _ _ _ us hl=>by obtain⟨_,_,rfl⟩:=pN hl;rfl),?_⟩;refine List.forall_mem_cons.mpr ⟨F9.t X G (F9.f.binds λ_ _ _ _ _ _ us hl=>by obtain⟨_,_,rfl⟩:=pN hl;rfl),?_⟩;refine List.forall_mem_cons.mpr ⟨FJ.t X G (FJ.f.binds λ_ _ _ _ _ _ us hl=>by obtain⟨_,rfl⟩:=kB hl;rfl),?_⟩;refine List.forall_mem_cons.mpr ⟨Nb.t X G (Nb.f.binds λ_ _ _ _ _ _ us hl=>by obtain⟨_,_,rfl⟩:=pN hl;rfl),?_⟩;refine List.forall_mem_cons.mpr ⟨Nc.t X G (Nc.f.binds λ_ _ _ _ _ _ us hl=>by obtain⟨_,_,_,rfl⟩:=rN hl;rfl),?_⟩;refine List.forall_mem_cons.mpr ⟨Nd.t X G (Nd.f.binds λ_ _ _ _ _ _ us hl=>by obtain⟨_,_,_,rfl⟩:=rN hl;rfl),?_⟩;refine List.forall_mem_cons.mpr ⟨Nf.t X G (Nf.f.binds λ_ _ _ _ _ _ us hl=>by obtain⟨_,_,_,rfl⟩:=rN hl;rfl),?_⟩;refine List.forall_mem_cons.mpr ⟨Ng.t X G (Ng.f.binds λ_ _ _ _ _ _ us hl=>by obtain⟨_,_,rfl⟩:=pN hl;rfl),?_⟩;refine List.forall_mem_cons.mpr ⟨Nh.t X G (Nh.f.binds λ_ _ _ _ _ _ us hl=>by obtain⟨_,_,_,rfl⟩:=rN hl;rfl),?_⟩;refine List.forall_mem_cons.mpr ⟨Ni.t X G (Ni.f.binds λ_ _ _ _ _ _ us hl=>by obtain⟨_,_,_,_,rfl⟩:=Sf hl;rfl),?_⟩;refine List.forall_mem_cons.mpr ⟨Nj.t X G (Nj.f.binds λ_ _ _ _ _ _ us hl=>by obtain⟨_,rfl⟩:=kB hl;rfl),?_⟩;refine List.forall_mem_cons.mpr ⟨B7.t X G (B7.f.binds λ_ _ _ _ _ _ us hl=>by obtain⟨_,rfl⟩:=kB hl;rfl),?_⟩;exact λ_ h=>nomatch h
  .exact(show ∀x∈qJ,mg x=none from List.forall_mem_cons.mpr ⟨PySem.W.mg_none_of X G z0,List.forall_mem_cons.mpr ⟨PySem.W.mg_none_of X G z1,List.forall_mem_cons.mpr ⟨PySem.W.mg_none_of X G z2,List.forall_mem_cons.mpr ⟨PySem.W.mg_none_of X G z3,List.forall_mem_cons.mpr ⟨PySem.W.mg_none_of X G z4,List.forall_mem_cons.mpr ⟨PySem.W.mg_none_of X G z5,List.forall_mem_cons.mpr ⟨PySem.W.mg_none_of X G z6,List.forall_mem_cons.mpr ⟨PySem.W.mg_none_of X G z7,List.forall_mem_cons.mpr ⟨PySem.W.mg_none_of X G z8,λ_ h=>nomatch h⟩⟩⟩⟩⟩⟩⟩⟩⟩)
  .exact λx d hx=>(show ∀y∈(tb aa dd).cs,∃v u,mg y.1=some u/\RelV v u/\wL K y.2 v from List.forall_mem_cons.mpr ⟨⟨.str "law_pastways_k63_squeezed",_,PySem.W.mg_of X G q0,⟨_,rfl⟩,λ_ _=>⟨by decide +kernel,by decide⟩⟩,λ_ h=>nomatch h⟩) (x,d) hx
  .exact λx d hx=>(show ∀y∈(tb aa dd).dk,∃a,mg y.1=some (.ref a)/\∀h:Heap,K.In h->StrTab l.prog w h a (tabOf y.2)from λ_ h=>nomatch h) (x,d) hx
 refine⟨Na,λs v=>?_,λbase _ _=>?_⟩
 .obtain⟨oc,od,kV,doc,pm,an,cdv,ct,osl,e,_⟩:=B7.f.ex;rw[e];exact .of_eq rfl
 let cl:Nat->Addr:=λk=>[C0].getD k C0
 have hc:∀x c,(x,c)∈cz->mg x=some (.ref (cl c))/\xg K (cl c):=λx c hx=>(show ∀y∈cz,mg y.1=some (.ref (cl y.2))/\xg K (cl y.2)from List.forall_mem_cons.mpr ⟨⟨PySem.W.mg_of X G X0.ns,X0.rs⟩,λ_ h=>nomatch h⟩) (x,c) hx;have kc:∀c,c<1->(λC c=>EC K C C0 c) (cl c) c/\PySem.W.exmOne K (.ref (cl c)) (.ref Wc)=some true:=λc h=>match c,h with
  |0,_=>⟨X0.cs,X0.em⟩
 have R:CQ K mg pr dr (top 25) Wc (λC c=>EC K C C0 c):=⟨FR.f,⟨rfl,rfl,rfl,by decide +kernel,rfl,by decide +kernel,by decide +kernel⟩,FR.f.binds λ_ _ _ _ _ _ us hl=>by obtain⟨_,rfl⟩:=kB hl;rfl,PySem.W.mg_of X G FR.a,PySem.W.mg_of X G xw,λY a oe C c h1 h2 h3 h4 hp ho hd k=>AS hp ho hd (by rw[h3];exact k) (by show Y.env.scope.names.lookup _=_;rw[h2];rfl) (by show Y.env.scope.names.lookup _=_;rw[h2];rfl) (by show Y.env.scope.names.lookup _=_;rw[h2];rfl) (by rw[h4];exact PySem.W.mg_of X G X0.ns) (by rw[h4];exact PySem.W.mg_none_of X G z1) (by rw[h4];exact PySem.W.mg_none_of X G z0) (by decide) h1 (by rw[h2];rfl) (by rw[h2];rfl) rfl rfl⟩
 refine(ri (P:=l.prog) (w:=w) (G:=tb aa dd) (cl:=cl) (su:=su) (base:=base) (λn A0 A1=>⟨λf i hi=>?_,λf i hi hu=>?_⟩) 60).1 19 (FH aa dd) rfl
 .match f,hi with
  |0,hi=>obtain rfl:i0 aa dd=i:=Option.some.inj hi;exact dN (i:=i0 aa dd) T A0 F0.f s0 rfl rfl (@allB.get _ _ _ 0 (f0.body,top 1,n0) (ee (cl:=cl)).1 rfl)
  |1,hi=>obtain rfl:i1 aa dd=i:=Option.some.inj hi;exact dN (i:=i1 aa dd) T A0 F1.f s1 rfl rfl (@allB.get _ _ _ 1 (f1.body,top 2,n1) (ee (cl:=cl)).1 rfl)
  |2,hi=>obtain rfl:i2 aa dd=i:=Option.some.inj hi;exact dN (i:=i2 aa dd) T A0 F2.f s2 rfl rfl (@allB.get _ _ _ 2 (f2.body,top 3,n2) (ee (cl:=cl)).1 rfl)
  |3,hi=>obtain rfl:i3 aa dd=i:=Option.some.inj hi;exact dN (i:=i3 aa dd) T A0 F3.f s3 rfl rfl (@allB.get _ _ _ 3 (f3.body,top 4,n3) (ee (cl:=cl)).1 rfl)
  |4,hi=>obtain rfl:i4 aa dd=i:=Option.some.inj hi;exact dN (i:=i4 aa dd) T A0 F4.f s4 rfl rfl (@allB.get _ _ _ 4 (f4.body,top 5,n4) (ee (cl:=cl)).1 rfl)
  |5,hi=>obtain rfl:i5 aa dd=i:=Option.some.inj hi;exact dN (i:=i5 aa dd) T A0 F5.f s5 rfl rfl (@allB.get _ _ _ 5 (f5.body,top 6,n5) (ee (cl:=cl)).1 rfl)
  |6,hi=>obtain rfl:i6 aa dd=i:=Option.some.inj hi;exact dN (i:=i6 aa dd) T A0 F6.f s6 rfl rfl (@allB.get _ _ _ 6 (f6.body,top 11,n6) (ee (cl:=cl)).1 rfl)
  |7,hi=>obtain rfl:i7 aa dd=i:=Option.some.inj hi;exact dN (i:=i7 aa dd) T A0 F7.f s7 rfl rfl (@allB.get _ _ _ 7 (f7.body,top 12,n7) (ee (cl:=cl)).1 rfl)
  |8,hi=>obtain rfl:i8 aa dd=i:=Option.some.inj hi;exact dN (i:=i8 aa dd) T A0 F8.f s8 rfl rfl (@allB.get _ _ _ 8 (f8.body,top 13,n8) (ee (cl:=cl)).1 rfl)
  |9,hi=>obtain rfl:i9 aa dd=i:=Option.some.inj hi;exact dN (i:=i9 aa dd) T A0 F9.f s9 rfl rfl (@allB.get _ _ _ 9 (f9.body,top 14,n9) (ee (cl:=cl)).1 rfl)
  |10,hi=>obtain rfl:yg aa dd=i:=Option.some.inj hi;exact dN (i:=yg aa dd) T A0 FJ.f Ko rfl rfl (@allB.get _ _ _ 10 (qc.body,top 16,B6) (ee (cl:=cl)).1 rfl)
  |11,hi=>obtain rfl:MQ aa dd=i:=Option.some.inj hi;exact dN (i:=MQ aa dd) T A0 Nb.f Ej rfl rfl (@allB.get _ _ _ 11 (ML.body,top 18,MX) (ee (cl:=cl)).1 rfl)
  |12,hi=>obtain rfl:i12 aa dd=i:=Option.some.inj hi;exact dN (i:=i12 aa dd) T A0 Nc.f s12 rfl rfl (@allB.get _ _ _ 12 (MM.body,top 19,MY) (ee (cl:=cl)).1 rfl)
  |13,hi=>obtain rfl:MR aa dd=i:=Option.some.inj hi;exact dN (i:=MR aa dd) T A0 Nd.f Uo rfl rfl (@allB.get _ _ _ 13 (MN.body,top 20,MZ) (ee (cl:=cl)).1 rfl)
  |14,hi=>obtain rfl:MS aa dd=i:=Option.some.inj hi;exact dN (i:=MS aa dd) T A0 Nf.f Up rfl rfl (@allB.get _ _ _ 14 (MO.body,top 21,M4) (ee (cl:=cl)).1 rfl)
  |15,hi=>obtain rfl:MT aa dd=i:=Option.some.inj hi;exact dN (i:=MT aa dd) T A0 Ng.f Uq rfl rfl (@allB.get _ _ _ 15 (MP.body,top 22,M5) (ee (cl:=cl)).1 rfl)
  |16,hi=>obtain rfl:MU aa dd=i:=Option.some.inj hi;exact dN (i:=MU aa dd) T A0 Nh.f Ur rfl rfl (@allB.get _ _ _ 16 (oV.body,top 23,M6) (ee (cl:=cl)).1 rfl)
  |17,hi=>obtain rfl:MV aa dd=i:=Option.some.inj hi;exact dN (i:=MV aa dd) T A0 Ni.f Us rfl rfl (@allB.get _ _ _ 17 (vQ.body,top 24,M7) (ee (cl:=cl)).1 rfl)
  |18,hi=>obtain rfl:Qf aa dd=i:=Option.some.inj hi;exact G5 (ix:=1) (j:=yg aa dd) T A0 A1 (by show prog.length<=1000;decide) R kc Nj.f Ut rfl rfl rfl rfl (by decide +kernel) rfl (ee (cl:=cl)).2.2.2.2 (show qd (ay (top 26)) "squeezed" = true by decide +kernel) rfl rfl rfl rfl
  |19,hi=>obtain rfl:FH aa dd=i:=Option.some.inj hi;exact dN (i:=FH aa dd) T A0 B7.f Uu rfl rfl (@allB.get _ _ _ 18 (B5.body,top 27,M9) (ee (cl:=cl)).1 rfl)
  |j+20,hi=>exact nomatch (show(none:Option FI)=some i from hi)
 .match f,hi,hu with
  |6,hi,_=>obtain rfl:i6 aa dd=i:=Option.some.inj hi;exact uF (i:=i6 aa dd) T A0 A1 hz hc F6.f s6 rfl rfl (ee (cl:=cl)).2.1
  |7,hi,_=>obtain rfl:i7 aa dd=i:=Option.some.inj hi;exact uF (i:=i7 aa dd) T A0 A1 hz hc F7.f s7 rfl rfl (ee (cl:=cl)).2.2.1
  |10,hi,_=>obtain rfl:yg aa dd=i:=Option.some.inj hi;exact uF (i:=yg aa dd) T A0 A1 hz hc FJ.f Ko rfl rfl (ee (cl:=cl)).2.2.2.1
  |0,_,hu=>exact absurd hu (by decide)
  |1,_,hu=>exact absurd hu (by decide)
  |2,_,hu=>exact absurd hu (by decide)
  |3,_,hu=>exact absurd hu (by decide)
  |4,_,hu=>exact absurd hu (by decide)
  |5,_,hu=>exact absurd hu (by decide)
  |8,_,hu=>exact absurd hu (by decide)
  |9,_,hu=>exact absurd hu (by decide)
  |11,_,hu=>exact absurd hu (by decide)
  |12,_,hu=>exact absurd hu (by decide)
  |13,_,hu=>exact absurd hu (by decide)
  |14,_,hu=>exact absurd hu (by decide)
  |15,_,hu=>exact absurd hu (by decide)
  |16,_,hu=>exact absurd hu (by decide)
  |17,_,hu=>exact absurd hu (by decide)
  |18,_,hu=>exact absurd hu (by decide)
  |19,_,hu=>exact absurd hu (by decide)
  |j+20,hi,_=>exact nomatch (show(none:Option FI)=some i from hi)
end Lw
namespace Lg
open Pv
open Lw (prog qc oV vQ Fy B5 zF Fx zL Fz FA FD FE FF FG BX BY BZ B3 B4 Fv zG zH zI zJ zK)
open Ev (deep big rep cut bB)
theorem FL(ns:List Int)(k:Int)(x:List Nat)(b:Nat)(h:x.length<=b):(chg ns k x).length<=2*b+2/\tot (chg ns k x)<=3*b+3:=by
 have h1:=nq ns k x (x.length+1);have h2:=sY ns k x (x.length+1);simp only[chg];omega
theorem Uw(a b:Nat):Pv.bQ .add (.int (a:Int)) (.int (b:Int))=some (.int ((a+b:Nat):Int)):=by rw[b9];congr 2
theorem Nk{a b:Nat}(h:b<=a):Pv.bQ .sub (.int (a:Int)) (.int (b:Int))=some (.int ((a - b:Nat):Int)):=by rw[uT];congr 2;omega
theorem yh{c o:List Pt}{t u:List Nat}(h:aV c t=true)(h2:aV o u=true):aV (c++o) (t++u)=true/\aB (c++o) (t++u)=aB c t++aB o u:=by
 have hb:(aA (aL c)).length=t.length:=by rw[<-vM,gZ h]
 refine⟨?_,?_⟩
 .rw[fY,dY];rw[fY]at h h2;exact pK h h2
 .rw[eH,jy,qI,hb,<-eH,<-eH];simp
theorem pO(u:List Nat):aV [.keep u.length] u=true/\aB [.keep u.length] u=u:=by simp[aV,aB]
theorem FO(i:Int):Ev.bV 70 i=true:=by simp[Ev.bV]
theorem drawn{ns:List Int}(k:Int)(m:Nat)(h:0<m):∃p:Nat,cG ns k (m:Int)=(p:Int)/\p<m:=by
 have h1:=jR ns k (many:=(m:Int)) (by omega);have h2:=jS ns k (many:=(m:Int)) (by omega);exact⟨(cG ns k (m:Int)).toNat,by omega,by omega⟩
theorem IF(a b:Row):dR (18+1) (bI a) (bI b)=some (decide (a=b)):=by
 have h:dR 18 (aK a.2) (aK b.2)=some (decide (a.2=b.2)):=rC (f:=dR 17) (g:=Pt.v) (Mx 15) a.2 b.2;show cj (dR 18) [.str a.1,aK a.2] [.str b.1,aK b.2]=_;rw[uU,uU,rB,h,Bg];obtain⟨a1,a2⟩:=a;obtain⟨b1,b2⟩:=b;by_cases e1:a1=b1<;>by_cases e2:a2=b2<;>simp[e1,e2]
theorem nR(K:List Row):Pv.cop .ne (.lst (K.map bI)) (.lst (K.map bI))=some false:=by rw[ng,nQ,rC IF];simp
theorem nN:Pv.cop .ne (.lst []) (.lst [])=some false:=by rw[ng,nQ,rB];rfl
section
variable{w n:Nat}{ns:List Int}
theorem FP:∀(rs:List (List Pt)) (t:List Nat),(cO t rs).length<=t.length+dI rs
 |[],t=>by simp[cO,dI]
 |c :: rs,t=>by
  have h1:=lO c t;have h2:=FP rs (aB c t);have h3:dI (c :: rs)=tot c+dI rs:=by simp[dI]
  have h4:cO t (c :: rs)=cO (aB c t) rs:=rfl;rw[h3,h4];omega
structure Rw(t:List Nat)(rs:List Row):Prop where
 ch:Ch t (bX rs)
 ln:∀r∈rs,r.2.length<=900
 tt:t.length+dI (bX rs)<=900
theorem Rw.at{t:List Nat}{rs p l:List Row}{r:Row}(h:Rw t rs)(e:p++r :: l=rs):aV r.2 (cO t (bX p))=true/\r.2.length<=900/\tot r.2<=900/\(cO t (bX p)).length<=900/\dI (bX p)+tot r.2<=900:=by
 have h1:=h.ch;have h2:=h.tt;have h3:=FP (bX p) t;rw[<-e,rM]at h1 h2;have h4:dI (bX p++bX (r :: l))=dI (bX p)+(tot r.2+dI (bX l)):=by simp[dI,bX]
 rw[h4]at h2;exact⟨((vL.mp h1).2).1,h.ln r (by rw[<-e];simp),by omega,by omega,by omega⟩
noncomputable def oW(w n:Nat)(K:List Row)(r:Row)(K2:List Row):Prop:=tot r.2<=900/\r.2.length<=900/\(((∀K' q,K=K'++[q]->q.1≠r.1)/\K2=fN K r (aD r.2))\/∃K' q X,K=K'++[q]/\q.1=r.1/\run prog w (n+7) 6 [.val (aK q.2),.val (aK r.2)]=some (aK X,[])/\aD X=X/\tot X<=900/\K2=fN K' r X)
noncomputable def yi(w n:Nat):List Row->List Row->List Row->Prop
 |K,[],K2=>K=K2
 |K,r :: l,K2=>∃K1,oW w n K r K1/\yi w n K1 l K2
theorem yj(K:List Row)(r:Row)(X:List Pt):(fN K r X).length<=K.length+1:=by unfold fN;split<;>simp
theorem oW.len{K K2:List Row}{r:Row}(h:oW w n K r K2):K2.length<=K.length+1:=by
 obtain⟨_,_,⟨_,rfl⟩|⟨K',q,X,rfl,_,_,_,_,rfl⟩⟩:=h
 .exact yj _ _ _
 .have:=yj K' r X;simp;omega
noncomputable def sF(rs K:List Row)(x y z:Option Sl):Fr:=[some (.val (.lst (rs.map bI))),some (.own (K.map bI)),x,y,z]
theorem vR{rs K:List Row}{r:Row}{X:List Pt}{Q:Fl->Fr->Prop}(hK:K.length<=900)(b1:tot X<=900)(b2:X.length<=900)(q:Q .nx (sF rs (fN K r X) (some (.val (.str r.1))) (some (.val (aK r.2))) (some (.val (aK X))))) :
  Wp (exs (run prog w (n+7)) w (.cons (.iff (.cmp .gt (.cl 3 (.cons (.v 4) .nil)) (.c (.int 0))) (.cons (.exp (.me .append (.v 1) (.cons (.tup (.cons (.v 2) (.cons (.v 4) .nil))) .nil))) .nil) .nil) .nil) (sF rs K (some (.val (.str r.1))) (some (.val (aK r.2))) (some (.val (aK X))))) Q:=by
 have k:=λfr=>cT (fr:=fr) (vd (F:=prog) (aE:=0) (i:=3) (w:=w) (n:=n+5) rfl rfl X (by omega) (by omega));by_cases h:cst X=0
 .rw[fN,if_pos h]at q;exact aj (aM (b:=false) (aJ rfl (bM (b6 (aR rfl (az rfl) aY) (k _)) (aI rfl) nh) (by simp[truthy,h])) (λh=>absurd h (by decide)) λ_=>aC (aC q))
 .rw[fN,if_neg h]at q;refine aj (aM (b:=true) (aJ rfl (bM (b6 (aR rfl (az rfl) aY) (k _)) (aI rfl) nh) (by simp[truthy];omega)) (λ_=>?_) λh=>absurd h (by decide));refine aj (gG (lG rfl rfl (ak (aU (ak (az rfl) (ak (az rfl) av)) bP) av) (kO (by simp;omega))) (aC (aC ?_)));unfold sF at q ⊢;rw[List.map_append]at q;exact q
theorem FQ{K:List Row}{q:Row}(h:q∈K):tot q.2<=dI (bX K):=by
 induction K with
 |nil=>cases h
 |cons a K ih=>
  have e:dI (bX (a :: K))=tot a.2+dI (bX K):=by simp[dI,bX]
  rw[e];rcases List.mem_cons.mp h with rfl|h
  .omega
  .have:=ih h;omega
theorem f_len{c:List Pt}(h:aD c=c):c.length<=tot c:=by rw[<-h];exact iS (jB (iP _))
theorem yk{rs K K2:List Row}{r:Row}{x y z:Option Sl}{Q:Fl->Fr->Prop}(S:oW w n K r K2)(hK:K.length<=900)(hx:vo x)(hy:vo y)(hz:vo z)(q:∀x y z,vo x->vo y->vo z->Q .nx (sF rs K2 x y z)):Wp (turnF (run prog w (n+7)) w (.many [2,3]) zF (bI r) (sF rs K x y z)) Q:=by
 obtain⟨h3,h2,S⟩:=S;have f:=λfr=>cT (fr:=fr) (iO (F:=prog) (aZ:=5) (i:=4) (w:=w) (n:=n+5) rfl rfl r.2 (by omega) (by omega));have ft:tot (aD r.2)=tot r.2:=fW _;have Ux:=f_len (jb r.2);refine gu (af:=sF rs K (some (.val (.str r.1))) (some (.val (aK r.2))) z) (jr rfl hx rfl hy) ?_;refine aj (bh (aq:=sF rs K (some (.val (.str r.1))) (some (.val (aK r.2))) (some (.val (aK (aD r.2))))) (b6 (aR rfl (az rfl) aY) (f _)) rfl (gw rfl hz) ?_);have il:∀K' q,K=K'++[q]->eY (.lst (K.map bI)) (.int (-1))=some (bI q):=λK' q e0=>by
  show bB (K.map bI) (-1)=_;rw[e0,uZ,List.map_append];simp
 have tr:∀K' q,K=K'++[q]->truthy (.lst (K.map bI))=true:=λK' q e0=>by rw[e0];show(!((K'++[q]).map bI).isEmpty)=true;simp
 rcases S with ⟨hno,rfl⟩|⟨K',q0,X,e0,ho,rX,fX,tX,rfl⟩
 .rcases List.eq_nil_or_concat K with e0|⟨K',q0,e0⟩
  .refine aj (aM (b:=false) (u7 (aJ rfl (az rfl) (by rw[e0];rfl))) (λh=>absurd h (by decide)) λ_=>aC ?_);exact vR (by omega) (by omega) (by omega) (q _ _ _ .val .val .val)
  .rw[List.concat_eq_append]at e0;have ho:=hno K' q0 e0;refine aj (aM (b:=false) (fT (aJ rfl (az rfl) (tr _ _ e0)) (aJ rfl (bM (dX (dX (az rfl) (nS (aI rfl)) (il _ _ e0)) (aI rfl) rfl) (az rfl) lI) (by simp[truthy,ho]))) (λh=>absurd h (by decide)) λ_=>aC ?_);exact vR (by omega) (by omega) (by omega) (q _ _ _ .val .val .val)
 .have rX:=λfr=>call2 (fr:=fr) rX;have lX:=f_len fX;refine aj (aM (b:=true) (fT (aJ rfl (az rfl) (tr _ _ e0)) (aJ rfl (bM (dX (dX (az rfl) (nS (aI rfl)) (il _ _ e0)) (aI rfl) rfl) (az rfl) lI) (by simp[truthy,ho]))) (λ_=>?_) λh=>absurd h (by decide));have po:gm .pop 1 [] (sF rs K (some (.val (.str r.1))) (some (.val (aK r.2))) (some (.val (aK (aD r.2))))) (some (some (.own (K.map bI))))=.ok (bI q0) (sF rs K' (some (.val (.str r.1))) (some (.val (aK r.2))) (some (.val (aK (aD r.2))))):=by
   rw[e0,List.map_append];exact kP
  refine aj (bh (b6 (aR rfl (dX (lG rfl rfl av po) (aI rfl) rfl) (aR rfl (az rfl) aY)) (rX _)) rfl rfl (aC ?_));exact vR (by have:=congrArg List.length e0;simp at this;omega) (by omega) (by omega) (q _ _ _ .val .val .val)
theorem IG{rs K:List Row}(S:yi w n [] rs K)(hl:rs.length<=100):run prog w (n+8) 10 [.val (.lst (rs.map bI))]=some (.lst (K.map bI),[]):=by
 refine cg (fn:=qc) rfl rfl ?_;refine aj (iD (l:=[]) (dG av gF) rfl rfl ?_);refine aj (nT (vs:=rs.map bI) (kQ (jw rfl) rfl) ?_);refine iN (e:=bI) (λp l fr=>p++l=rs/\∃K1 x y z,yi w n K1 l K/\K1.length<=p.length/\vo x/\vo y/\vo z/\fr=sF rs K1 x y z) (λp r l fr ⟨hpl,K1,x,y,z,S,kl,hx,hy,hz,hfr⟩=>?_) (λp fr ⟨hpl,K1,x,y,z,S,kl,hx,hy,hz,hfr⟩=>?_) rs [] _ ⟨rfl,[],none,none,none,S,Nat.le_refl _,.none,.none,.none,rfl⟩
 .subst hfr;obtain⟨K2,S1,S2⟩:=S;have pl:p.length<=100:=by rw[<-hpl]at hl;simp at hl;omega
  refine yk S1 (by omega) hx hy hz λx y z hx hy hz=>?_;rw[gf];exact⟨by simpa using hpl,K2,x,y,z,S2,by have:=S1.len;simp;omega,hx,hy,hz,rfl⟩
 .subst hfr;cases S;refine aj (bZ (af:=[some (.val (.lst (rs.map bI))),some (.val (.lst (K.map bI))),x,y,z]) ?_ ⟨rfl,rfl⟩);have sh:gD (sF rs K x y z)=[some (.val (.lst (rs.map bI))),some (.val (.lst (K.map bI))),x,y,z]:=by
   show [_,_,x.map Sl.fP,y.map Sl.fP,z.map Sl.fP]=_;rw[ek hx,ek hy,ek hz];rfl
  rw[sh];exact az rfl
theorem II{r1 r2:Row}{l:List Row}(h1:tot r1.2<=900)(h2:r1.2.length<=900)(h3:tot r2.2<=900)(h4:r2.2.length<=900)(hc:cst (aD r1.2)≠0)(ho:r1.1=r2.1)(ne:fC (aD r1.2)≠bF r2.2):cy prog w (n+8) 10 [.val (.lst ((r1 :: r2 :: l).map bI))]=some 0:=by
 have S:oW w n [] r1 [(r1.1,aD r1.2)]:=⟨h1,h2,.inl ⟨λK' q e=>by simp at e,by rw[fN,if_neg hc];rfl⟩⟩
 have hX:=ja prog w (n+7);have f:=λfr=>cT (fr:=fr) (iO (F:=prog) (aZ:=5) (i:=4) (w:=w) (n:=n+5) rfl rfl r2.2 (by omega) (by omega));have ft:tot (aD r1.2)=tot r1.2:=fW _;have Ux:=f_len (jb r1.2);have rX:=BW (F:=prog) (aE:=0) (bT:=4) (b5:=7) (aW:=8) (bL:=1) (b7:=2) (i:=6) (w:=w) (n:=n+4) rfl rfl rfl rfl (aD r1.2) r2.2 (by omega) (by omega) (by omega) (by omega) ne;refine E3 (fn:=qc) rfl rfl ?_;refine Bq (iD (l:=[]) (dG av gF) rfl rfl ⟨rfl,?_⟩);refine ni hX (OL (vs:=(r1 :: r2 :: l).map bI) (kQ (jw rfl) rfl) ?_);refine IB (yk (rs:=r1 :: r2 :: l) S (by simp) .none .none .none λx y z hx hy hz=>?_);rw[gf];refine IC hX (af:=sF (r1 :: r2 :: l) [(r1.1,aD r1.2)] (some (.val (.str r2.1))) (some (.val (aK r2.2))) z) (jr rfl hx rfl hy) ?_;refine Bq (bh (aq:=sF (r1 :: r2 :: l) [(r1.1,aD r1.2)] (some (.val (.str r2.1))) (some (.val (aK r2.2))) (some (.val (aK (aD r2.2))))) (b6 (aR rfl (az rfl) aY) (f _)) rfl (gw rfl hz) ⟨rfl,?_⟩);refine ni hX (E2 (b:=true) (fT (aJ rfl (az rfl) rfl) (aJ rfl (bM (dX (dX (az rfl) (nS (aI rfl)) rfl) (aI rfl) rfl) (az rfl) lI) (by simp[truthy,ho]))) ?_);rw[if_pos rfl];have po:gm .pop 1 [] (sF (r1 :: r2 :: l) [(r1.1,aD r1.2)] (some (.val (.str r2.1))) (some (.val (aK r2.2))) (some (.val (aK (aD r2.2))))) (some (some (.own ([(r1.1,aD r1.2)].map bI))))=.ok (bI (r1.1,aD r1.2)) (sF (r1 :: r2 :: l) [] (some (.val (.str r2.1))) (some (.val (aK r2.2))) (some (.val (aK (aD r2.2))))):=kP (l:=[]);exact ni hX (OA (Ro (aR rfl (dX (lG rfl rfl av po) (aI rfl) rfl) (aR rfl (az rfl) aY)) (Br (vs:=[aK (aD r1.2),aK r2.2]) rX)))
theorem vS(hw:5000<w){t:List Nat}{rs:List Row}(R:Rw t rs):∀(l p:List Row),p++l=rs->Nm t p (g7 t p)->yi w n (g7 t p) l (g7 t rs)/\Nm t rs (g7 t rs)
 |[],p,hpl,N=>by rw[List.append_nil]at hpl;subst hpl;exact⟨rfl,N⟩
 |r :: l,p,hpl,N=>by
  obtain⟨h1,h2,h3,h4,h5⟩:=R.at hpl;have es:g7 t (p++[r])=stp t (g7 t p) r:=by rw[IA];rfl
  have UM:=N.tt;have T:∀K' a,g7 t p=K'++[(r.1,a)]->∃X,run prog w (n+7) 6 [.val (aK a),.val (aK r.2)]=some (aK X,[])/\Tn a r.2 X (cO t (bX K')):=λK' a e=>by
   have m:(r.1,a)∈g7 t p:=by rw[e];simp
   have b1:=FQ m;have b2:=f_len (N.fm _ m).1;have c1:=N.ch;have c2:=N.tx;rw[e]at c1 c2;rw[gP]at c2;exact vJ (F:=prog) (aE:=0) (bK:=9) (aW:=8) (b5:=7) (aZ:=5) (bT:=4) (bL:=1) (b7:=2) (i:=6) (w:=w) (n:=n+4) rfl rfl rfl rfl rfl rfl rfl rfl rfl hw a r.2 (cO t (bX K')) (nY.mp c1).2 (by rw[c2];exact h1) (by simp only at b1;omega) (by omega) (by simp only at b1 b2;omega) (by omega)
  have N2:Nm t (p++[r]) (g7 t (p++[r])):=by
   rw[es];exact N.step h1 λK' a e=>by obtain⟨X,_,hX⟩:=T K' a e;exact⟨X,hX⟩
  obtain⟨S,NN⟩:=vS hw R l (p++[r]) (by simpa using hpl) N2;refine⟨⟨_,⟨h3,h2,?_⟩,S⟩,NN⟩;rcases List.eq_nil_or_concat (g7 t p)with e0|⟨K',q,e0⟩
  .have e1:stp t (g7 t p) r=fN (g7 t p) r (aD r.2):=nA λK2 q2 e2=>by rw[e0]at e2;simp at e2
   exact .inl ⟨λK2 q2 e2=>by rw[e0]at e2;simp at e2,by rw[es,e1]⟩
  .rw[List.concat_eq_append]at e0;by_cases ho:q.1=r.1
   .obtain⟨X,rX,TX⟩:=T K' q.2 (by rw[e0,<-ho]);have e1:stp t (g7 t p) r=fN K' r X:=by
     rw[e0,show q=(r.1,q.2)by rw[<-ho]];exact vO (o:=r.1) (c:=r.2) TX
    have tX:=TX.tt;have mq:=FQ (K:=g7 t p) (q:=q) (by rw[e0];simp);exact .inr ⟨K',q,X,e0,ho,rX,TX.yc,by omega,by rw[es,e1]⟩
   .have e1:stp t (g7 t p) r=fN (g7 t p) r (aD r.2):=nA λK2 q2 e2=>by
     rw[e0]at e2;obtain⟨_,e3⟩:=List.append_inj' e2 rfl;cases e3;exact ho
    exact .inl ⟨λK2 q2 e2=>by
     rw[e0]at e2;obtain⟨_,e3⟩:=List.append_inj' e2 rfl;cases e3;exact ho,by rw[es,e1]⟩
theorem iT{rs K:List Row}(S:yi w n [] rs K)(hl:rs.length<=100):run prog w (n+9) 18 [.val (.lst (rs.map bI))]=some (.lst (K.map bI),[]):=
 cg (fn:=Fy) rfl rfl (aj (OC (vs:=[.lst (rs.map bI)]) (aR rfl (az rfl) aY) (IG S hl) ⟨rfl,rfl⟩))
theorem B8{rs:List Row}(h:cy prog w (n+8) 10 [.val (.lst (rs.map bI))]=some 0):run prog w (n+9) 18 [.val (.lst (rs.map bI))]=some (.tup [.str [114,101,102,117,115,101,100],.int 0],[]):=
 cg (fn:=Fy) rfl rfl (aj (Mt (vs:=[.lst (rs.map bI)]) (aR rfl (az rfl) aY) (by decide) h (by decide) ⟨rfl,rfl⟩))
variable(hn:ns.length<=63)
include hn
theorem B9(a:Int)(t:List Nat)(ht:t.length<=400):∃c,run prog w (n+7) 16 [.val (fM ns),.val (.int a),.val (.str t)]=some (aK c,[])/\aV c t=true/\c.length<=14/\tot c<=t.length+21/\((aB c t).length<=t.length+12\/(aB c t).length<=27):=by
 have dr:=λ(k:Int) (m:Nat) (hm:0<m) fr=>gg (fr:=fr) (fh (F:=prog) (c:=11) (dr:=12) (w:=w) (n:=n+4) rfl rfl hn k (many:=(m:Int)) (by omega));have ch:=λ(x:List Nat) (hx:x.length<=400) fr=>gg (fr:=fr) (zp (F:=prog) (c:=11) (dr:=12) (t:=14) (w:=w) (n:=n+3) rfl rfl hn rfl a x (by omega));have ln:eL .len [.str t]=some (.int (t.length:Nat)):=len_str (by omega);have d5:=dr (a+60) 5 (by decide);by_cases h5:cG ns (a+60) 5=0
 .by_cases he:t=[]
  .subst he;refine⟨[],cg (fn:=oV) rfl rfl (aj (aM (b:=true) (aJ rfl (bM (b6 (aR rfl (az rfl) (aR rfl (bu (az rfl) (aI rfl) b9) (aR rfl (aI rfl) aY))) (d5 _)) (aI rfl) vc) (by show decide _=_;exact decide_eq_true h5)) (λ_=>?_) λh=>absurd h (by decide))),rfl,by simp,by simp[tot],.inl (by simp[aB])⟩;exact aj (bZ (jZ (b:=false) (aJ rfl (bM (az rfl) (aI rfl) jq) rfl) (λh=>absurd h (by decide)) λ_=>aU av tP) ⟨rfl,rfl⟩)
  .have k:=pO t;refine⟨[.keep t.length],cg (fn:=oV) rfl rfl (aj (aM (b:=true) (aJ rfl (bM (b6 (aR rfl (az rfl) (aR rfl (bu (az rfl) (aI rfl) b9) (aR rfl (aI rfl) aY))) (d5 _)) (aI rfl) vc) (by show decide _=_;exact decide_eq_true h5)) (λ_=>?_) λh=>absurd h (by decide))),k.1,by simp,by simp[tot,Pt.n],.inl (by rw[k.2];omega)⟩;exact aj (bZ (jZ (b:=true) (aJ rfl (bM (az rfl) (aI rfl) jq) (by show(!decide (t=[]))=true;simp[he])) (λ_=>aU (ak (aU (ak (aI rfl) (ak (jj (ak (az rfl) av) ln) av)) bP) av) iC) λh=>absurd h (by decide)) ⟨rfl,rfl⟩)
 .have first:∀{Q:Fl->Fr->Prop},Wp (exs (run prog w (n+6)) w (.cons zG (.cons zH (.cons zI (.cons zJ (.cons zK .nil))))) [some (.val (fM ns)),some (.val (.int a)),some (.val (.str t)),none,none,none]) Q->Wp (exs (run prog w (n+6)) w oV.body (dg oV [.val (fM ns),.val (.int a),.val (.str t)])) Q:=λq=>
   aj (aM (b:=false) (aJ rfl (bM (b6 (aR rfl (az rfl) (aR rfl (bu (az rfl) (aI rfl) b9) (aR rfl (aI rfl) aY))) (d5 _)) (aI rfl) vc) (by show decide _=_;exact decide_eq_false h5)) (λh=>absurd h (by decide)) λ_=>aC q)
  by_cases h7:t.length<7
  .obtain⟨lc,tc⟩:=FL ns a t 6 (by omega);have dl:=lO (chg ns a t) t;refine⟨chg ns a t,cg (fn:=oV) rfl rfl (first (aj (aM (b:=true) (aJ rfl (bM (jj (ak (az rfl) av) ln) (aI rfl) De) (by show decide _=_;exact decide_eq_true (by omega))) (λ_=>?_) λh=>absurd h (by decide)))),xZ ns a t,by omega,by omega,.inr (by omega)⟩;exact aj (bZ (b6 (aR rfl (az rfl) (aR rfl (az rfl) (aR rfl (az rfl) aY))) (ch t (by omega) _)) ⟨rfl,rfl⟩)
  .obtain⟨P,eP,hP⟩:=drawn (ns:=ns) (a+61) (t.length - 3) (by omega);have dP:=dr (a+61) (t.length - 3) (by omega);rw[eP]at dP;have ml:((t.drop P).take 3).length=3:=by simp;omega
   obtain⟨lc,tc⟩:=FL ns a ((t.drop P).take 3) 3 (by omega);have fm:=xZ ns a ((t.drop P).take 3);have dm:=lO (chg ns a ((t.drop P).take 3)) ((t.drop P).take 3);have cm:=ch ((t.drop P).take 3) (by omega);generalize chg ns a ((t.drop P).take 3)=m at lc tc fm dm cm
   have hx:∃H:List Pt,H.length<=1/\tot H=P/\aV H (t.take P)=true/\aB H (t.take P)=t.take P/\∀fr:Fr,mY true fr 3=some (.int (P:Int))->mY false fr 3=some (.int (P:Int))->ev (run prog w (n+6)) false (.gk (.cmp .gt (.v 3) (.c (.int 0))) (.tup (.cons (.tup (.cons (.c (.str [107,101,101,112])) (.cons (.v 3) .nil))) .nil)) (.tup .nil)) fr=.ok (aK H) fr:=by
    cases P with
    |zero=>exact⟨[],by simp,by simp[tot],by simp[aV],by simp[aB],λfr h h'=>jZ (b:=false) (aJ rfl (bM (az h) (aI rfl) nh) rfl) (λh=>absurd h (by decide)) λ_=>aU av tP⟩
    |succ P=>
     have k:=pO (t.take (P+1));rw[show(t.take (P+1)).length=P+1 by simp;omega]at k;exact⟨[.keep (P+1)],by simp,by simp[tot,Pt.n],k.1,k.2,λfr h h'=>jZ (b:=true) (aJ rfl (bM (az h) (aI rfl) nh) (by show decide _=_;exact decide_eq_true (by omega))) (λ_=>aU (ak (aU (ak (aI rfl) (ak (az h') av)) bP) av) iC) λh=>absurd h (by decide)⟩
   obtain⟨H,lH,tH,fH,dH,rH⟩:=hx;have kr:=pO (t.drop (P+3));rw[show(t.drop (P+3)).length=t.length - P - 3 by simp;omega]at kr;have A1:=yh fH fm;have A2:=yh A1.1 kr.1;have et:t.take P++(t.drop P).take 3++t.drop (P+3)=t:=by rw[List.append_assoc,<-List.drop_drop,List.take_append_drop,List.take_append_drop]
   rw[et]at A2;have s1:=Nk (a:=t.length) (b:=3) (by omega);have s2:=Nk (a:=t.length) (b:=P) (by omega);have s3:=Nk (a:=t.length - P) (b:=3) (by omega);have sl:gR (.str t) (some (P:Int)) (some ((P+3:Nat):Int))=some (.str ((t.drop P).take 3)):=by
    rw[iM];exact congrArg (λz=>some (V.str z)) (vz t P 3)
   have a1:Pv.bQ .add (aK H) (aK m)=some (aK (H++m)):=by
    show Pv.bQ .add (.tup (H.map Pt.v)) (.tup (m.map Pt.v))=_;rw[pF (by simp;omega),<-List.map_append];rfl
   have a2:Pv.bQ .add (aK (H++m)) (.tup [.tup [.str [107,101,101,112],.int ((t.length - P - 3:Nat):Int)]])=some (aK (H++m++[.keep (t.length - P - 3)])):=by
    show Pv.bQ .add (.tup ((H++m).map Pt.v)) (.tup [_])=_;rw[pF (by simp;omega)];show _=some (V.tup (((H++m)++[Pt.keep (t.length - P - 3)]).map Pt.v));rw[List.map_append (l₂:=[Pt.keep (t.length - P - 3)])];rfl
   refine⟨H++m++[.keep (t.length - P - 3)],cg (fn:=oV) rfl rfl (first ?_),A2.1,by simp;omega,by rw[gj,gj];simp[tot,Pt.n]at tH tc ⊢;omega,.inl (by rw[A2.2,A1.2,dH,kr.2];simp;omega)⟩;refine aj (aM (b:=false) (aJ rfl (bM (jj (ak (az rfl) av) ln) (aI rfl) De) (by show decide _=_;exact decide_eq_false (by omega))) (λh=>absurd h (by decide)) λ_=>aC ?_);refine aj (bh (b6 (aR rfl (az rfl) (aR rfl (bu (az rfl) (aI rfl) b9) (aR rfl (bu (jj (ak (az rfl) av) ln) (aI rfl) s1) aY))) (dP _)) rfl rfl ?_);refine aj (bh (rH _ rfl rfl) rfl rfl ?_);refine aj (bh (bu (bu (jj (ak (az rfl) av) ln) (az rfl) s2) (aI rfl) s3) rfl rfl ?_);exact aj (bZ (bu (bu (az rfl) (b6 (aR rfl (az rfl) (aR rfl (az rfl) (aR rfl (Mq (az rfl) (u6 (az rfl)) (u6 (bu (az rfl) (aI rfl) (Uw P 3))) sl) aY))) (cm _)) a1) (jZ (b:=true) (aJ rfl (bM (az rfl) (aI rfl) nh) (by show decide _=_;exact decide_eq_true (by omega))) (λ_=>aU (ak (aU (ak (aI rfl) (ak (az rfl) av)) bP) av) iC) λh=>absurd h (by decide)) a2) ⟨rfl,rfl⟩)
theorem DV{t:List Nat}(ht:t.length<=6):∃rs,run prog w (n+8) 17 [.val (fM ns),.val (.int 20),.val (.str t),.val (.int 5)]=some (.lst (rs.map bI),[])/\Rw t rs/\rs.length<=6:=by
 have dr:=λ(k:Int) (m:Nat) (hm:0<m) fr=>gg (fr:=fr) (fh (F:=prog) (c:=11) (dr:=12) (w:=w) (n:=n+5) rfl rfl hn k (many:=(m:Int)) (by omega));obtain⟨N,eN,hN⟩:=drawn (ns:=ns) 20 6 (by decide);have d0:=dr 20 6 (by decide);rw[eN]at d0;have key:Wp (exs (run prog w (n+7)) w vQ.body (dg vQ [.val (fM ns),.val (.int 20),.val (.str t),.val (.int 5)])) λr fr=>∃rs,(Rw t rs/\rs.length<=6)/\r=.ret (.lst (rs.map bI))/\outs 4 fr=[]:=by
  refine aj (iD (l:=[]) (dG av gF) rfl rfl ?_);refine aj (nT (vs:=range 0 N) (u9 (ak (b6 (aR rfl (az rfl) (aR rfl (az rfl) (aR rfl (bu (az rfl) (aI rfl) b9) aY))) (d0 _)) av) (Mz (by omega) rfl)) ?_);refine xR (lo:=0) (N:=N) (λk fr=>∃rs x y z,rs.length=k/\Ch t (bX rs)/\(∀r∈rs,r.2.length<=900)/\(cO t (bX rs)).length<=27+12*k/\dI (bX rs)<=140*k/\vo x/\vo y/\vo z/\fr=[some (.val (fM ns)),some (.val (.int 20)),some (.val (.str (cO t (bX rs)))),some (.val (.int 5)),some (.own (rs.map bI)),x,y,z]) (λk fr hk ⟨rs,x,y,z,h1,h2,h3,h4,h5,hx,hy,hz,hfr⟩=>?_) (λfr ⟨rs,x,y,z,h1,h2,h3,h4,h5,hx,hy,hz,hfr⟩=>?_) ⟨[],none,none,none,rfl,trivial,(λr hr=>(List.not_mem_nil hr).elim),(by show t.length<=_;omega),(by simp[dI,bX]),.none,.none,.none,rfl⟩
  .subst hfr;have d1:=dr (20+1+70*((0:Int)+(k:Nat))) 4 (by decide);obtain⟨d,ed,hd⟩:=drawn (ns:=ns) (20+1+70*((0:Int)+(k:Nat))) 4 (by decide);rw[ed]at d1;obtain⟨o,ho⟩:∃o:List Nat,eY (.lst [.str [97,110,110],.str [98,111],.str [97,110,110],.str [99]]) (.int (d:Int))=some (.str o):=by
    match d,hd with
    |0,_=>exact⟨_,rfl⟩
    |1,_=>exact⟨_,rfl⟩
    |2,_=>exact⟨_,rfl⟩
    |3,_=>exact⟨_,rfl⟩
   obtain⟨c,rc,f1,f2,f3,f4⟩:=B9 (w:=w) (n:=n) hn (20+2+70*((0:Int)+(k:Nat))) (cO t (bX rs)) (by omega);have rc:=λfr=>gg (fr:=fr) rc;have rm:=λfr=>call2 (fr:=fr) (DS (F:=prog) (i:=15) (w:=w) (n:=n+6) rfl c (cO t (bX rs)) (by omega) (by omega) f1);refine gu (bind1 rfl hx) (aj (bh (dX (dG (ak (aI rfl) (ak (aI rfl) (ak (aI rfl) (ak (aI rfl) av)))) (iZ (cS (by simp)))) (b6 (aR rfl (az rfl) (aR rfl (bu (bu (az rfl) (aI rfl) b9) (bu (aI rfl) (az rfl) (j0 (FO _))) b9) (aR rfl (aI rfl) aY))) (d1 _)) ho) rfl (gw rfl hy) ?_));refine aj (bh (b6 (aR rfl (az rfl) (aR rfl (bu (bu (az rfl) (aI rfl) b9) (bu (aI rfl) (az rfl) (j0 (FO _))) b9) (aR rfl (az rfl) aY))) (rc _)) rfl (gw rfl hz) ?_);refine aj (bh (b6 (aR rfl (az rfl) (aR rfl (az rfl) aY)) (rm _)) rfl rfl ?_);refine aj (gG (lG rfl rfl (ak (aU (ak (az rfl) (ak (az rfl) av)) bP) av) (kO (by simp;omega))) (aC ?_));rw[gf];refine⟨rs++[(o,c)],_,_,_,by simp[h1],nY.mpr ⟨h2,f1⟩,λr hr=>?_,?_,?_,.val,.val,.val,by rw[gP,List.map_append];rfl⟩
   .rcases List.mem_append.mp hr with hr|hr
    .exact h3 r hr
    .rw[List.mem_singleton]at hr;subst hr;simp only;omega
   .rw[gP];simp only;omega
   .rw[jc];simp only;omega
  .subst hfr;refine aj (bZ (af:=[some (.val (fM ns)),some (.val (.int 20)),some (.val (.str (cO t (bX rs)))),some (.val (.int 5)),some (.val (.lst (rs.map bI))),x,y,z]) ?_ ⟨rs,⟨⟨h2,h3,by omega⟩,by omega⟩,rfl,rfl⟩);have sh:gD [some (.val (fM ns)),some (.val (.int 20)),some (.val (.str (cO t (bX rs)))),some (.val (.int 5)),some (.own (rs.map bI)),x,y,z]=[some (.val (fM ns)),some (.val (.int 20)),some (.val (.str (cO t (bX rs)))),some (.val (.int 5)),some (.val (.lst (rs.map bI))),x,y,z]:=by
    show [_,_,_,_,_,x.map Sl.fP,y.map Sl.fP,z.map Sl.fP]=_;rw[ek hx,ek hy,ek hz];rfl
   rw[sh];exact az rfl
 obtain⟨r,fr,e,rs,h,hr,ho⟩:=key;exact⟨rs,cg (fn:=vQ) rfl rfl ⟨r,fr,e,hr,ho⟩,h⟩
omit hn in
theorem Nl{a q:Row}{K':List Row}(e:[a]=K'++[q]):q=a:=by
 obtain⟨_,e3⟩:=List.append_inj' (s₁:=[]) (t₁:=[a]) e rfl;cases e3;rfl
noncomputable def cP:List Pt:=[.put [97,98]]
noncomputable def cD:List Pt:=[.drop [97,98]]
noncomputable def rP:Row:=([98,111],cP)
noncomputable def rD:Row:=([98,111],cD)
omit hn in
theorem DW{K:List Row}{r:Row}(h1:tot r.2<=900)(h2:r.2.length<=900)(h:∀K' q,K=K'++[q]->q.1≠r.1)(hc:cst (aD r.2)≠0):oW w n K r (K++[(r.1,aD r.2)]):=⟨h1,h2,.inl ⟨h,by rw[fN,if_neg hc]⟩⟩
omit hn in
theorem FT{K:List Row}{r:Row}(h1:tot r.2<=900)(h2:r.2.length<=900)(h:∀K' q,K=K'++[q]->q.1≠r.1)(hc:cst (aD r.2)=0):oW w n K r K:=⟨h1,h2,.inl ⟨h,by rw[fN,if_pos hc]⟩⟩
omit hn in
theorem vU{r:Row}:∀K' (q:Row),([]:List Row)=K'++[q]->q.1≠r.1:=λK' q e=>by simp at e
omit hn in
theorem S0:oW w n [] rP [rP]:=DW (r:=rP) (by decide) (by decide) vU (by decide)
omit hn in
theorem S1(hw:5000<w):oW w n [rP] rD []:=by
 obtain⟨X,rX,TX⟩:=vJ (F:=prog) (aE:=0) (bK:=9) (aW:=8) (b5:=7) (aZ:=5) (bT:=4) (bL:=1) (b7:=2) (i:=6) (w:=w) (n:=n+4) rfl rfl rfl rfl rfl rfl rfl rfl rfl hw cP cD [] rfl rfl (by decide) (by decide) (by decide) (by decide);have b:=gZ TX.fit;have a:=lP TX.fit;rw[TX.dn]at a;have a':(aB cD (aB cP [])).length=0:=rfl;have e1:=vg X;have e2:=vf X;have tX:=TX.tt;refine⟨by decide,by decide,.inr ⟨[],rP,X,rfl,rfl,rX,TX.yc,?_,?_⟩⟩
 .simp only[List.length_nil]at b;omega
 .rw[fN,if_pos];simp only[List.length_nil]at b;omega
noncomputable def dF(ns:List Int)(t:List Nat)(rs K:List Row)(x y:Option Sl):Fr:=[some (.val (fM ns)),some (.val (.str t)),some (.val (.lst (rs.map bI))),some (.own (K.map bI)),x,y,none,none,none,none]
omit hn in
theorem rO{t:List Nat}{rs K:List Row}{r:Row}{c:List Pt}{Q:Fl->Fr->Prop}(hK:K.length<=900)(b1:tot c<=900)(b2:c.length<=900)(q:Q .nx (dF ns t rs (fN K r (aD c)) (some (.val (.str r.1))) (some (.val (aK c))))) :
  Wp (exs (run prog w (n+7)) w (.cons (.iff (.cmp .gt (.cl 3 (.cons (.v 5) .nil)) (.c (.int 0))) (.cons (.exp (.me .append (.v 3) (.cons (.tup (.cons (.v 4) (.cons (.cl 4 (.cons (.v 5) .nil)) .nil))) .nil))) .nil) .nil) .nil) (dF ns t rs K (some (.val (.str r.1))) (some (.val (aK c))))) Q:=by
 have k:=λfr=>cT (fr:=fr) (vd (F:=prog) (aE:=0) (i:=3) (w:=w) (n:=n+5) rfl rfl c (by omega) (by omega));have f:=λfr=>cT (fr:=fr) (iO (F:=prog) (aZ:=5) (i:=4) (w:=w) (n:=n+5) rfl rfl c (by omega) (by omega));by_cases h:cst c=0
 .rw[fN,if_pos (by rw[jU];exact h)]at q;exact aj (aM (b:=false) (aJ rfl (bM (b6 (aR rfl (az rfl) aY) (k _)) (aI rfl) nh) (by simp[truthy,h])) (λh=>absurd h (by decide)) λ_=>aC (aC q))
 .rw[fN,if_neg (by rw[jU];exact h)]at q;refine aj (aM (b:=true) (aJ rfl (bM (b6 (aR rfl (az rfl) aY) (k _)) (aI rfl) nh) (by simp[truthy];omega)) (λ_=>?_) λh=>absurd h (by decide));refine aj (gG (lG rfl rfl (ak (aU (ak (az rfl) (ak (b6 (aR rfl (az rfl) aY) (f _)) av)) bP) av) (kO (by simp;omega))) (aC (aC ?_)));unfold dF at q ⊢;rw[List.map_append]at q;exact q
omit hn in
theorem ne_nil(K:List Row):Pv.cop .ne (.lst (K.map bI)) (.lst [])=some (!K.isEmpty):=by
 cases K with
 |nil=>exact nN
 |cons a K=>rw[ng,nQ];rfl
omit hn in
theorem DX{t:List Nat}{rs K K2:List Row}{r:Row}{x y:Option Sl}{Q:Fl->Fr->Prop}(S:oW w n K r K2)(hK:K.length<=900)(hx:vo x)(hy:vo y)(q:∀x y,vo x->vo y->Q .nx (dF ns t rs K2 x y)):Wp (turnF (run prog w (n+7)) w (.many [4,5]) zL (bI r) (dF ns t rs K x y)) Q:=by
 obtain⟨h3,h2,S⟩:=S;refine gu (af:=dF ns t rs K (some (.val (.str r.1))) (some (.val (aK r.2)))) (jr rfl hx rfl hy) ?_;have il:∀K' q,K=K'++[q]->eY (.lst (K.map bI)) (.int (-1))=some (bI q):=λK' q e0=>by
  show bB (K.map bI) (-1)=_;rw[e0,uZ,List.map_append];simp
 rcases S with ⟨hno,rfl⟩|⟨K',q0,X,e0,ho,rX,fX,tX,rfl⟩
 .rcases List.eq_nil_or_concat K with e0|⟨K',q0,e0⟩
  .refine aj (aM (b:=false) (u7 (aJ rfl (bM (az rfl) (dG av gF) (ne_nil K)) (by rw[e0];rfl))) (λh=>absurd h (by decide)) λ_=>aC ?_);exact rO (by omega) (by omega) (by omega) (q _ _ .val .val)
  .rw[List.concat_eq_append]at e0;have ho:=hno K' q0 e0;refine aj (aM (b:=false) (fT (aJ rfl (bM (az rfl) (dG av gF) (ne_nil K)) (by rw[e0];simp[truthy])) (aJ rfl (bM (dX (dX (az rfl) (nS (aI rfl)) (il _ _ e0)) (aI rfl) rfl) (az rfl) lI) (by simp[truthy,ho]))) (λh=>absurd h (by decide)) λ_=>aC ?_);exact rO (by omega) (by omega) (by omega) (q _ _ .val .val)
 .have rX:=λfr=>call2 (fr:=fr) rX;have lX:=f_len fX;refine aj (aM (b:=true) (fT (aJ rfl (bM (az rfl) (dG av gF) (ne_nil K)) (by rw[e0];simp[truthy])) (aJ rfl (bM (dX (dX (az rfl) (nS (aI rfl)) (il _ _ e0)) (aI rfl) rfl) (az rfl) lI) (by simp[truthy,ho]))) (λ_=>?_) λh=>absurd h (by decide));have po:gm .pop 3 [] (dF ns t rs K (some (.val (.str r.1))) (some (.val (aK r.2)))) (some (some (.own (K.map bI))))=.ok (bI q0) (dF ns t rs K' (some (.val (.str r.1))) (some (.val (aK r.2)))):=by
   rw[e0,List.map_append];exact kP
  refine aj (bh (b6 (aR rfl (dX (lG rfl rfl av po) (aI rfl) rfl) (aR rfl (az rfl) aY)) (rX _)) rfl rfl (aC ?_));have:=q _ _ (.val (v:=.str r.1)) (.val (v:=aK X));rw[<-fX]at this;exact rO (by have:=congrArg List.length e0;simp at this;omega) (by omega) (by omega) (by rw[fX]at this;rw[fX];exact this)
omit hn in
theorem eN:Pv.cop .eq (.lst []) (.lst [])=some true:=by rw[LU,nQ,rB]
theorem Np(hw:5000<w):run prog w (n+10) 19 [.val (fM ns)]=some (.bl true,[]):=by
 have ht:(txt ns 0 6).length<=6:=HY ns 0 (most:=6) (by decide);have c1:=λfr=>gg (fr:=fr) (Dg (F:=prog) (c:=11) (dr:=12) (t:=13) (w:=w) (n:=n+6) rfl rfl hn rfl 0 6 (by decide) (by decide));generalize txt ns 0 6=t at ht c1
 obtain⟨rs,r1,R,hl⟩:=DV (w:=w) (n:=n+1) hn ht;have r1:=λfr=>Oo (fr:=fr) r1;obtain⟨S,N⟩:=vS (w:=w) (n:=n) hw R rs [] rfl (Nm.nil t);obtain⟨S',_⟩:=vS (w:=w) (n:=n+2) hw R rs [] rfl (Nm.nil t);have q0:=λfr=>cT (fr:=fr) (iT (w:=w) (n:=n) S (by omega));generalize g7 t rs=K at S S' N q0
 have Qp:∀(o:List Nat) (c:List Pt),o≠[98,111]->∀K' (q:Row),[rP]=K'++[q]->q.1≠((o,c):Row).1:=λo c h K' q e=>by rw[Nl e];exact λe=>h e.symm
 have q1:run prog w (n+9) 18 [.val (.lst [.tup [.str [98,111],aK cP],.tup [.str [98,111],aK cD],.tup [.str [98,111],aK cP]])]=some (.lst [.tup [.str [98,111],aK cP]],[]):=iT (rs:=[rP,rD,rP]) (K:=[rP]) ⟨_,S0,_,S1 hw,_,S0,rfl⟩ (by simp);have q2:run prog w (n+9) 18 [.val (.lst [.tup [.str [98,111],aK cP],.tup [.str [97,110,110],aK [.keep 2]],.tup [.str [98,111],aK cD],.tup [.str [99],aK []]])]=some (.lst [],[]):=iT (rs:=[rP,([97,110,110],[.keep 2]),rD,([99],[])]) (K:=[]) ⟨_,S0,_,FT (r:=([97,110,110],[.keep 2])) (by decide) (by decide) (Qp _ _ (by decide)) (by decide),_,S1 hw,_,FT (r:=([99],[])) (by decide) (by decide) vU (by decide),rfl⟩ (by simp);have q3:run prog w (n+9) 18 [.val (.lst [.tup [.str [98,111],aK cP],.tup [.str [98,111],aK [.keep 3]]])]=some (.tup [.str [114,101,102,117,115,101,100],.int 0],[]):=B8 (rs:=[rP,([98,111],[.keep 3])]) (II (r1:=rP) (r2:=([98,111],[.keep 3])) (l:=[]) (by decide) (by decide) (by decide) (by decide) (by decide) rfl (by decide));have q4:run prog w (n+9) 18 [.val (.lst [.tup [.str [98,111],aK cP],.tup [.str [97,110,110],aK [.drop [120]]]])]=some (.lst [.tup [.str [98,111],aK cP],.tup [.str [97,110,110],aK [.drop [120]]]],[]):=iT (rs:=[rP,([97,110,110],[.drop [120]])]) (K:=[rP,([97,110,110],[.drop [120]])]) ⟨_,S0,_,DW (r:=([97,110,110],[.drop [120]])) (by decide) (by decide) (Qp _ _ (by decide)) (by decide),rfl⟩ (by simp);have q5:run prog w (n+9) 18 [.val (.lst [.tup [.str [97,110,110],aK [.keep 1,.keep 1,.put [97],.drop [98]]]])]=some (.lst [.tup [.str [97,110,110],aK [.keep 2,.drop [98],.put [97]]]],[]):=iT (rs:=[([97,110,110],[.keep 1,.keep 1,.put [97],.drop [98]])]) (K:=[([97,110,110],[.keep 2,.drop [98],.put [97]])]) ⟨_,DW (r:=([97,110,110],[.keep 1,.keep 1,.put [97],.drop [98]])) (by decide) (by decide) vU (by decide),rfl⟩ (by simp);have q6:run prog w (n+9) 18 [.val (.lst [])]=some (.lst [],[]):=iT (rs:=[]) (K:=[]) rfl (by simp);have q1:=λfr=>cT (fr:=fr) q1;have q2:=λfr=>cT (fr:=fr) q2;have q3:=λfr=>cT (fr:=fr) q3;have q4:=λfr=>cT (fr:=fr) q4;have q5:=λfr=>cT (fr:=fr) q5;have q6:=λfr=>cT (fr:=fr) q6;refine cg (fn:=B5) rfl rfl ?_;refine aj (bh (b6 (aR rfl (az rfl) (aR rfl (aI rfl) (aR rfl (aI rfl) aY))) (c1 _)) rfl rfl ?_);refine aj (bh (b6 (aR rfl (az rfl) (aR rfl (aI rfl) (aR rfl (az rfl) (aR rfl (aI rfl) aY)))) (r1 _)) rfl rfl ?_);refine aj (iD (l:=[]) (dG av gF) rfl rfl ?_);refine aj (nT (vs:=rs.map bI) (kQ (jw rfl) rfl) ?_);refine iN (e:=bI) (λp l fr=>p++l=rs/\∃K1 x y,yi w (n+2) K1 l K/\K1.length<=p.length/\vo x/\vo y/\fr=dF ns t rs K1 x y) (λp r l fr ⟨hpl,K1,x,y,S,kl,hx,hy,hfr⟩=>?_) (λp fr ⟨hpl,K1,x,y,S,kl,hx,hy,hfr⟩=>?_) rs [] _ ⟨rfl,[],none,none,S',Nat.le_refl _,.none,.none,rfl⟩
 .subst hfr;obtain⟨K2,S1,S2⟩:=S;have pl:p.length<=100:=by rw[<-hpl]at hl;simp at hl;omega
  refine DX S1 (by omega) hx hy λx y hx hy=>?_;rw[gf];exact⟨by simpa using hpl,K2,x,y,S2,by have:=S1.len;simp;omega,hx,hy,rfl⟩
 .subst hfr;cases S;have vP:∀{k:Bool} {fr:Fr},ev (run prog w (n+9)) k (.tup (.cons (.tup (.cons (.c (.str [112,117,116])) (.cons (.c (.str [97,98])) .nil))) .nil)) fr=.ok (aK cP) fr:=aU (ak (aU (ak (aI rfl) (ak (aI rfl) av)) bP) av) iC;have vD:∀{k:Bool} {fr:Fr},ev (run prog w (n+9)) k (.tup (.cons (.tup (.cons (.c (.str [100,114,111,112])) (.cons (.c (.str [97,98])) .nil))) .nil)) fr=.ok (aK cD) fr:=aU (ak (aU (ak (aI rfl) (ak (aI rfl) av)) bP) av) iC;refine aj (aM (b:=false) (aJ rfl (bM (b6 (aR rfl (az rfl) aY) (q0 _)) (az rfl) (nR _)) rfl) (λh=>absurd h (by decide)) λ_=>aC ?_);refine aj (bh vP rfl rfl ?_);refine aj (bh vD rfl rfl ?_);refine aj (aM (b:=false) (aJ rfl (bM (b6 (aR rfl (dG (ak (aU (ak (aI rfl) (ak (az rfl) av)) bP) (ak (aU (ak (aI rfl) (ak (az rfl) av)) bP) (ak (aU (ak (aI rfl) (ak (az rfl) av)) bP) av))) rfl) aY) (q1 _)) (dG (ak (aU (ak (aI rfl) (ak (az rfl) av)) bP) av) rfl) (nR [rP])) rfl) (λh=>absurd h (by decide)) λ_=>aC ?_);refine aj (aM (b:=false) (aJ rfl (bM (b6 (aR rfl (dG (ak (aU (ak (aI rfl) (ak (az rfl) av)) bP) (ak (aU (ak (aI rfl) (ak (aU (ak (aU (ak (aI rfl) (ak (aI rfl) av)) bP) av) iC) av)) bP) (ak (aU (ak (aI rfl) (ak (az rfl) av)) bP) (ak (aU (ak (aI rfl) (ak (aU av tP) av)) bP) av)))) rfl) aY) (q2 _)) (dG av gF) nN) rfl) (λh=>absurd h (by decide)) λ_=>aC ?_);refine aj (bh (v:=.lst [.tup [.str [98,111],aK cP],.tup [.str [98,111],aK [.keep 3]]]) (dG (ak (aU (ak (aI rfl) (ak (az rfl) av)) bP) (ak (aU (ak (aI rfl) (ak (aU (ak (aU (ak (aI rfl) (ak (aI rfl) av)) bP) av) iC) av)) bP) av)) rfl) rfl rfl ?_);refine aj (aM (b:=false) (aJ rfl (bM (b6 (aR rfl (az rfl) aY) (q3 _)) (aU (ak (aI rfl) (ak (aI rfl) av)) bP) (b:=false) rfl) rfl) (λh=>absurd h (by decide)) λ_=>aC ?_);refine aj (aM (b:=false) (aJ rfl (bM (b6 (aR rfl (dG (ak (aU (ak (aI rfl) (ak (az rfl) av)) bP) (ak (aU (ak (aI rfl) (ak (aU (ak (aU (ak (aI rfl) (ak (aI rfl) av)) bP) av) iC) av)) bP) av)) rfl) aY) (q4 _)) (aU (ak (aI rfl) (ak (aI rfl) av)) bP) (b:=false) rfl) rfl) (λh=>absurd h (by decide)) λ_=>aC ?_);refine aj (bh (v:=aK [.keep 1,.keep 1,.put [97],.drop [98]]) (aU (ak (aU (ak (aI rfl) (ak (aI rfl) av)) bP) (ak (aU (ak (aI rfl) (ak (aI rfl) av)) bP) (ak (aU (ak (aI rfl) (ak (aI rfl) av)) bP) (ak (aU (ak (aI rfl) (ak (aI rfl) av)) bP) av)))) rfl) rfl rfl ?_);refine aj (aM (b:=false) (aJ rfl (bM (b6 (aR rfl (dG (ak (aU (ak (aI rfl) (ak (az rfl) av)) bP) av) rfl) aY) (q5 _)) (dG (ak (aU (ak (aI rfl) (ak (aU (ak (aU (ak (aI rfl) (ak (aI rfl) av)) bP) (ak (aU (ak (aI rfl) (ak (aI rfl) av)) bP) (ak (aU (ak (aI rfl) (ak (aI rfl) av)) bP) av))) rfl) av)) bP) av) rfl) (nR [([97,110,110],[.keep 2,.drop [98],.put [97]])])) rfl) (λh=>absurd h (by decide)) λ_=>aC ?_);exact aj (bZ (bM (b6 (aR rfl (dG av gF) aY) (q6 _)) (dG av gF) eN) ⟨rfl,rfl⟩)
end
theorem good:∀ns:List Int,ns.length<=63->∃h',Ev.run prog 100000 60 19 [.ref 0] [.bS (ns.map Ev.D.int)]=.ok (.bl true) h':=λns h=>Hu (Np (w:=100000) (n:=50) h (by decide))
end Lg
theorem Lw.good:∀ns:List Int,ns.length<=63->∃h',Ev.run Lw.prog 100000 60 19 [.ref 0] [.bS (ns.map Ev.D.int)]=.ok (.bl true) h':=Lg.good
namespace PySem.W.Fast
theorem tw1103558953250174480:True:=⟨⟩
theorem tw2314980522775722708:True:=⟨⟩
theorem tw8738433964597390843:True:=⟨⟩
theorem tw764626473455031693:True:=⟨⟩
theorem tw12158205805142626707:True:=⟨⟩
theorem tw16081366622790142743:True:=⟨⟩
theorem tw16592935315415652406:True:=⟨⟩
theorem tw14884379172541977079:True:=⟨⟩
theorem tw5067081961139547537:True:=⟨⟩
theorem tw2669975102113807512:True:=⟨⟩
theorem tw14868620186425715398:True:=⟨⟩
theorem tw11461129828669432869:True:=⟨⟩
theorem tw17009974195256797162:True:=⟨⟩
theorem tw2150756768293076177:True:=⟨⟩
theorem tw14624390294285527000:True:=⟨⟩
theorem tw2863141815222355452:True:=⟨⟩
theorem tw8801678110847678030:True:=⟨⟩
theorem tw2518490943750022023:True:=⟨⟩
theorem tw7220444490858196846:True:=⟨⟩
theorem tw14944088418758108537:True:=⟨⟩
theorem tw558166194569342708:True:=⟨⟩
theorem tw15624589610393569878:True:=⟨⟩
theorem tw2198096450043884580:True:=⟨⟩
theorem tw4187496735816055592:True:=⟨⟩
theorem tw4659558652628952595:True:=⟨⟩
theorem tw10341010041395249799:True:=⟨⟩
theorem tw2694591523501684321:True:=⟨⟩
theorem tw13747064521241913229:True:=⟨⟩
theorem tw14637116937979347896:True:=⟨⟩
theorem tw798952104932240393:True:=⟨⟩
theorem tw3370398363772271768:True:=⟨⟩
theorem tw6171391216484913852:True:=⟨⟩
theorem tw16789671504884355441:True:=⟨⟩
theorem tw12670549739525910018:True:=⟨⟩
theorem tw11177470177996784392:True:=⟨⟩
theorem tw17202077305411018874:True:=⟨⟩
theorem tw9836864828491483718:True:=⟨⟩
theorem tw7741215614188245087:True:=⟨⟩
theorem tw17496728094663628823:True:=⟨⟩
theorem tw14409089914816105637:True:=⟨⟩
theorem tw15429927483513101656:True:=⟨⟩
theorem tw9358800091483392510:True:=⟨⟩
theorem tw10272779237965569349:True:=⟨⟩
theorem tw11380517002408507845:True:=⟨⟩
theorem tw14023882590618642784:True:=⟨⟩
theorem tw7427364114844211287:True:=⟨⟩
theorem tw1955759560895262655:True:=⟨⟩
theorem tw17636487114998739994:True:=⟨⟩
theorem tw8049444144216970314:True:=⟨⟩
theorem tw1674156470604314173:True:=⟨⟩
theorem tw15098851099958423224:True:=⟨⟩
theorem tw1307448911281699294:True:=⟨⟩
theorem tw854144424476258449:True:=⟨⟩
theorem tw16749811374494595724:True:=⟨⟩
theorem tw15475342749866517973:True:=⟨⟩
theorem tw166488200687021261:True:=⟨⟩
theorem tw3585498294376655962:True:=⟨⟩
theorem tw15211123390482490700:True:=⟨⟩
theorem tw12998810434857937467:True:=⟨⟩
theorem tw16979561164754085811:True:=⟨⟩
theorem tw9301838649835637342:True:=⟨⟩
theorem tw5431465864335627827:True:=⟨⟩
theorem tw16400228603857416904:True:=⟨⟩
theorem tw149891881230779907:True:=⟨⟩
theorem tw4469863354218752488:True:=⟨⟩
theorem tw2671487869994552589:True:=⟨⟩
theorem tw430498520255571596:True:=⟨⟩
theorem tw10395691670768791453:True:=⟨⟩
theorem tw16176528047574845027:True:=⟨⟩
theorem tw4038170597294348097:True:=⟨⟩
theorem tw7858309880915381627:True:=⟨⟩
theorem tw11374037945766405255:True:=⟨⟩
theorem tw1296267921547076361:True:=⟨⟩
theorem tw5724743611054889685:True:=⟨⟩
theorem tw10203318280342817238:True:=⟨⟩
theorem tw7714053937138273408:True:=⟨⟩
theorem tw1003334957595214237:True:=⟨⟩
theorem tw15620069816211320870:True:=⟨⟩
theorem tw6967707845844981214:True:=⟨⟩
theorem tw8066800170140414633:True:=⟨⟩
theorem tw13469765549430133233:True:=⟨⟩
theorem tw3329229958434634377:True:=⟨⟩
theorem tw5968147460731715294:True:=⟨⟩
theorem tw4504694256928990564:True:=⟨⟩
theorem tw8550256087626631667:True:=⟨⟩
theorem tw7161707266422569925:True:=⟨⟩
theorem tw4881661526997867890:True:=⟨⟩
theorem tw15485535786834407251:True:=⟨⟩
theorem tw2442382074363347547:True:=⟨⟩
theorem tw3593285378811920655:True:=⟨⟩
theorem tw1076651318529026808:True:=⟨⟩
theorem tw18076632744414304339:True:=⟨⟩
theorem tw17964338567847823392:True:=⟨⟩
theorem tw482941225138271378:True:=⟨⟩
theorem tw7916119959407552531:True:=⟨⟩
theorem tw6394850249588759042:True:=⟨⟩
theorem tw7336467890274559003:True:=⟨⟩
theorem tw18085819346086128725:True:=⟨⟩
theorem tw4808133290255475300:True:=⟨⟩
theorem tw16514887621130862781:True:=⟨⟩
theorem tw12430873899865665776:True:=⟨⟩
theorem tw749270881170386830:True:=⟨⟩
theorem tw10558557795191918306:True:=⟨⟩
theorem tw13361171895295825696:True:=⟨⟩
theorem tw17238129758380127500:True:=⟨⟩
theorem tw14458724170600008168:True:=⟨⟩
theorem tw2451125659287040349:True:=⟨⟩
theorem tw8628065288366577141:True:=⟨⟩
theorem tw12769883227340072424:True:=⟨⟩
theorem tw8415165864608431840:True:=⟨⟩
theorem tw1137397313527205521:True:=⟨⟩
theorem tw147346269641643451:True:=⟨⟩
theorem tw427134908110169614:True:=⟨⟩
theorem tw4425963339362456551:True:=⟨⟩
theorem tw1424221713457038121:True:=⟨⟩
theorem tw8654565881199824537:True:=⟨⟩
theorem tw1212335733863756346:True:=⟨⟩
theorem tw1619299790945146261:True:=⟨⟩
theorem tw17442663383046756349:True:=⟨⟩
theorem tw9897536038401173438:True:=⟨⟩
theorem tw12424470492413828717:True:=⟨⟩
theorem tw9872648581688066053:True:=⟨⟩
theorem tw17441606021894644724:True:=⟨⟩
theorem tw6054974073582304334:True:=⟨⟩
theorem tw2649588564760158909:True:=⟨⟩
theorem tw4999703957786667973:True:=⟨⟩
theorem tw6713182487320010312:True:=⟨⟩
theorem tw17786791734694300135:True:=⟨⟩
theorem tw4661323360158516001:True:=⟨⟩
theorem tw14925783293330547591:True:=⟨⟩
theorem tw7720213322865979442:True:=⟨⟩
theorem tw10116391401281340137:True:=⟨⟩
theorem tw16927455657180829902:True:=⟨⟩
theorem tw2525582022772422625:True:=⟨⟩
theorem tw15685289486544488503:True:=⟨⟩
theorem tw19514624871358896:True:=⟨⟩
theorem tw14101988505147500408:True:=⟨⟩
theorem tw16135589100299513709:True:=⟨⟩
theorem tw10835809700541237582:True:=⟨⟩
theorem tw15960631660683901198:True:=⟨⟩
theorem tw2000360512085592118:True:=⟨⟩
theorem tw17582949919334664382:True:=⟨⟩
theorem tw18058742426607340052:True:=⟨⟩
theorem tw11527518540186506147:True:=⟨⟩
theorem tw18235408418431201539:True:=⟨⟩
theorem tw2100220060166556833:True:=⟨⟩
theorem tw6865891437217905273:True:=⟨⟩
theorem tw5398183242545387874:True:=⟨⟩
theorem tw14433978234363853460:True:=⟨⟩
theorem tw9168137048884003132:True:=⟨⟩
theorem tw10512250922783880789:True:=⟨⟩
theorem tw10428895642522988528:True:=⟨⟩
theorem tw15509519896648535285:True:=⟨⟩
theorem tw9053460624562972214:True:=⟨⟩
theorem tw2991419497243374743:True:=⟨⟩
theorem tw16174290811556124402:True:=⟨⟩
theorem tw10860865063182918132:True:=⟨⟩
theorem tw13282017796187342054:True:=⟨⟩
theorem tw11899812743402208111:True:=⟨⟩
theorem tw115337895122357184:True:=⟨⟩
theorem tw10922447562887766272:True:=⟨⟩
theorem tw14794286933430416644:True:=⟨⟩
end PySem.W.Fast
open PySem PySem.W PyProof.Rows
set_option maxRecDepth 100000 in
set_option maxHeartbeats 0 in
theorem PySem.Challenge.cw_pastways_k63_squeezed_holds : PySem.Challenge.rw_pastways_k63_squeezed.Holds := by
 w_on;o_law;k_head;(case hw=>w_witness2)
 k_fill
 refine Sm.GV (F:=Lw.prog) (wh:=100000) (n:=60) (f:=19) (x:="_law_script") (l:=PySem.Challenge.rw_pastways_k63_squeezed) rfl rfl ⟨rfl,by decide,by decide⟩ (λw h Y=>PySem.W.kIn_of Y) Lw.good ?F
 case F=>
  intro w mg fa h KX G hmg
  refine' Lw.all_mk KX G hmg ⟨?a0,L2.cH ?l0 ?c0 ?k0⟩ ⟨?a1,L2.cH ?l1 ?c1 ?k1⟩ ⟨?a2,L2.cH ?l2 ?c2 ?k2⟩ ⟨?a3,L2.cH ?l3 ?c3 ?k3⟩ ⟨?a4,L2.cH ?l4 ?c4 ?k4⟩ ⟨?a5,L2.cH ?l5 ?c5 ?k5⟩ ⟨?a6,L2.cH ?l6 ?c6 ?k6⟩ ⟨?a7,L2.cH ?l7 ?c7 ?k7⟩ ⟨?a8,L2.cH ?l8 ?c8 ?k8⟩ ⟨?a9,L2.cH ?l9 ?c9 ?k9⟩ ⟨?UN,L2.cH ?UO ?UP ?UQ⟩ ⟨?UR,L2.cH ?US ?UT ?UU⟩ ⟨?UW,L2.cH ?UX ?c12 ?UY⟩ ⟨?UZ,L2.cH ?U0 ?U1 ?U3⟩ ⟨?U4,L2.cH ?U5 ?U6 ?U7⟩ ⟨?U8,L2.cH ?U9 ?Va ?Vb⟩ ⟨?Vc,L2.cH ?Vd ?Ve ?Vf⟩ ⟨?Vg,L2.cH ?Vh ?Vi ?Vj⟩ ⟨?Vk,L2.cH ?Vl ?Vm ?Vn⟩ ⟨?Vo,L2.cH ?Vp ?Vq ?Vr⟩ ⟨?ar,L2.cH ?lr ?cr ?kr⟩ ?xw (Sm.G6 ?Vs ?Vt ?Vu ?Vv ?Vw ?Vx) ?z0 ?z1 ?z2 ?z3 ?z4 ?z5 ?z6 ?z7 ?z8 ?q0;all_goals try first|k_is|rfl|decide +kernel | (with_unfolding_all rfl)
  all_goals kernel_rfl

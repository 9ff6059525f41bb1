import PyProof.Rows.All
import Wide.All
import OpenK.AllK
import Wide.FinOn
import Lean
import PyProof.EqAt
import PyProof.EqKinds
import PyProof.TupleCall
import PyProof.DictUpdate
import PyProof.NeKinds
import PyProof.StrLawsIn
import KE.KRevSl
import PyProof.ZipIter
import PyProof.ListRange
import PyProof.Rows.SortStr
import KE.KRevIter
import KE.KDictSum
import PyProof.EnumMake
import PyProof.EnumFor
import PySem.Challenge.RW_pastways_k10_doing
set_option Elab.async false
set_option linter.all false
set_option maxRecDepth 100000
namespace L2
open PySem PySem.Spec PyProof.Rows
abbrev Key:=Sum Int Str
noncomputable def Af:Key->Value->Bool
 |.inl k,v=>Value.isInt k v
 |.inr x,v=>Value.isStrOf x v
noncomputable def Ks(w:World):Key->Int
 |.inl k=>hashInt k
 |.inr x=>hashStr w x
theorem cC:∀{k:Key}{v:Value},Af k v=true->(∃i t,k=Sum.inl i/\v=Value.int i t)\/(∃x t,k=Sum.inr x/\v=Value.str x t)
 |.inl i,v,h=>by
  obtain⟨t,e⟩:=Value.isInt_shape (k:=i) (v:=v) h;exact .inl ⟨i,t,rfl,e⟩
 |.inr x,v,h=>by
  obtain⟨t,e⟩:=Value.isStrOf_shape (x:=x) (v:=v) h;exact .inr ⟨x,t,rfl,e⟩
theorem Dw(a b:Int):decide ((Sum.inl a:Key)=Sum.inl b)=(a==b):=by
 by_cases e:a=b
 .subst e;simp
 .have h:¬ (Sum.inl a:Key)=Sum.inl b:=λq=>e (Sum.inl.inj q);rw[decide_eq_false h];exact(beq_eq_false_iff_ne.mpr e).symm
theorem Dy(a b:Str):decide ((Sum.inr a:Key)=Sum.inr b)=decide (a=b):=by
 by_cases e:a=b
 .subst e;simp
 .have h:¬ (Sum.inr a:Key)=Sum.inr b:=λq=>e (Sum.inr.inj q);rw[decide_eq_false h,decide_eq_false e]
theorem Dz(a:Int)(b:Str):decide ((Sum.inl a:Key)=Sum.inr b)=false:=decide_eq_false (λq=>nomatch q)
theorem DA(a:Str)(b:Int):decide ((Sum.inr a:Key)=Sum.inl b)=false:=decide_eq_false (λq=>nomatch q)
noncomputable def nB(prog:Program)(w:World):PySem.KeyKind prog w Key where
 is:=Af
 hash:=Ks w
 inj:=λv a b ha hb=>by
  rcases cC ha with ⟨i,t,rfl,rfl⟩|⟨x,t,rfl,rfl⟩
  .rcases cC hb with ⟨j,u,rfl,e⟩|⟨y,u,rfl,e⟩
   .injection e with e1 _;rw[e1]
   .exact nomatch e
  .rcases cC hb with ⟨j,u,rfl,e⟩|⟨y,u,rfl,e⟩
   .exact nomatch e
   .injection e with e1 _;rw[e1]
 byValue:=λk v h=>by
  rcases cC h with ⟨i,t,rfl,rfl⟩|⟨x,t,rfl,rfl⟩<;>rfl
 pyHash:=λhv h=>by
  rcases cC hv with ⟨i,t,rfl,rfl⟩|⟨x,t,rfl,rfl⟩
  .exact wpAny_pyHash_int h
  .exact wpAny_pyHash_str h
 eqBool:=λhu hv h=>by
  rcases cC hu with ⟨i,t,rfl,rfl⟩|⟨x,t,rfl,rfl⟩
  .rcases cC hv with ⟨j,u,rfl,rfl⟩|⟨y,u,rfl,rfl⟩
   .rw[Dw]at h;exact wpAny_eqBool_int h
   .rw[Dz]at h;exact SeqAt.EqAt.int_str i t y u _ _ _ _ h
  .rcases cC hv with ⟨j,u,rfl,rfl⟩|⟨y,u,rfl,rfl⟩
   .rw[DA]at h;exact SeqAt.EqAt.str_int x t j u _ _ _ _ h
   .rw[Dy]at h;exact wpAny_eqBool_str h
 «strs»:=λk x t v h=>by
  rcases cC h with ⟨i,u,rfl,e⟩|⟨y,u,rfl,e⟩
  .exact nomatch e
  .injection e with e1 _
   subst e1;cases v<;>rfl
end L2
namespace L2
open PySem PySem.Spec PyProof.Rows
inductive V where
 |az|bl (b:Bool)|int (i:Int)|str (x:Str)|jK (b:Array UInt8)|rV (b:UInt64)|ref (a:Addr)|ty (n:String)
 deriving DecidableEq
noncomputable def RelV:V->Value->Prop
 |.az,u=>u=Value.none
 |.bl b,u=>u=Value.bool b
 |.int i,u=>∃t,u=Value.int i t
 |.str x,u=>∃t,u=Value.str x t
 |.jK b,u=>∃t,u=Value.bytes b t
 |.rV b,u=>∃t,u=Value.float b t
 |.ref a,u=>u=Value.ref a
 |.ty n,u=>u=Value.type n
abbrev Vals:List V->List Value->Prop:=Paired RelV
theorem Vals.length{xs:List V}{us:List Value}(r:Vals xs us):xs.length=us.length:=Paired.length r
theorem Vals.get:∀{xs:List V}{us:List Value}{i:Nat}{x:V},Vals xs us->xs[i]?=some x->∃u,us[i]?=some u/\RelV x u
 |_,_,_,_,.nil,e=>by simp at e
 |_,_,0,_,.cons r _,e=>by simp at e;subst e;exact⟨_,rfl,r⟩
 |_,_,i+1,x,.cons _ t,e=>by
  obtain⟨u,h1,h2⟩:=Vals.get (i:=i) (x:=x) t (by simpa using e);exact⟨u,by simpa using h1,h2⟩
theorem Vals.append:∀{xs ys:List V}{us ws:List Value},Vals xs us->Vals ys ws->Vals (xs++ys) (us++ws)
 |_,_,_,_,.nil,s=>s
 |_,_,_,_,.cons r t,s=>.cons r (Vals.append t s)
theorem Vals.take:∀{xs:List V}{us:List Value}(n:Nat),Vals xs us->Vals (xs.take n) (us.take n)
 |_,_,0,_=>.nil
 |_,_,_+1,.nil=>.nil
 |_,_,n+1,.cons r t=>.cons r (Vals.take n t)
theorem Vals.drop:∀{xs:List V}{us:List Value}(n:Nat),Vals xs us->Vals (xs.drop n) (us.drop n)
 |_,_,0,r=>r
 |_,_,_+1,.nil=>.nil
 |_,_,n+1,.cons _ t=>Vals.drop n t
noncomputable def xZ:Option V->Option Value->Prop
 |some v,some u=>RelV v u
 |none,none=>True
 |_,_=>False
noncomputable def KV{κ:Type}:List (κ×V)->List (κ×Value)->Prop:=Paired λ(p:κ×V) (q:κ×Value)=>p.1=q.1/\RelV p.2 q.2
noncomputable def kV:Key->V
 |.inl i=>.int i
 |.inr x=>.str x
inductive HO where
 |lst (xs:List V)
 |tup (xs:List V)
 |dK (kvs:List (Key×V))|dT (kvs:List (List Key×V))
 |set (S:Int->Bool) (n:Nat)
 |ins (C dx:Addr) (fs:List (Str×V))
 |own (x:Addr)
 |xd (fs:List (Str×V))
 |met (f x:Addr)
 |gj (lo hi:Int)
 |bq (o:Obj) (u:HO)
 |oz (ps:Array Value)
 |ext (φ:Heap->Prop)
abbrev Hp:=Addr->Option HO
noncomputable def upd(H:Hp)(a:Addr)(o:HO):Hp:=λb=>if b=a then some o else H b
theorem cj{H:Hp}{a:Addr}{o:HO}:upd H a o a=some o:=by unfold upd;rw[if_pos rfl]
theorem aO{H:Hp}{a b:Addr}{o:HO}(h:b≠a):upd H a o b=H b:=by unfold upd;rw[if_neg h]
theorem mh{H:Hp}{a b:Addr}{o u:HO}(h:H a=some o)(h':H b=some u)(d:o≠u):a≠b:=by
 intro e;subst e;rw[h]at h';exact d (Option.some.inj h')
theorem bD{H:Hp}{a b:Addr}{o:HO}(h:H a=some o)(h':H b=none):a≠b:=by
 intro e;subst e;rw[h]at h';cases h'
section
variable(P:Program)(w:World)
noncomputable def cG(H:Hp)(h:Heap)(a:Addr):HO->Prop
 |.lst xs=>xs.length<=sizeLine/\∃(its:List Value) (n:Nat),Vals xs its/\h.get? a=some { cls:=.type "list",data:=.seq its.toArray n }
 |.tup xs=>xs.length<=sizeLine/\∃its:List Value,Vals xs its/\IsTup h a its.toArray
 |.dK kvs=>kvs.length<=sizeLine/\(a==sysModules)=false/\∃vs,KV kvs vs/\h.DictOf (nB P w) a vs
 |.dT kvs=>kvs.length<=sizeLine/\(a==sysModules)=false/\∃xs:List (List Key×Addr×Value),
   Paired (λ(p:List Key×V) (q:List Key×Addr×Value)=>p.1=q.1/\H q.2.1=some (.tup (p.1.map kV))/\RelV p.2 q.2.2) kvs xs/\
   ∃o es ep,h.get? a=some o/\o.ExactDict/\o.data=.dict es ep/\es.toList=xs.map (entryOfKey (tupleKind (nB P w)))/\(xs.map (·.1)).Nodup
 |.set S n=>h.SetOf (intKind P w) a S n
 |.ins C dx fs=>H dx=some (.own a)/\fs.length<=1000/\dx≠a/\h.get? a=some (PySem.W.instObj C dx)/\
   ∃mA,h.Ns1 dx mA/\(∀f,xZ (fs.lookup f) (mA f))/\PySem.Within mA (fs.map (·.1))
 |.own _=>∃o,h.get? a=some o
 |.xd fs=>∃mA,h.Ns1 a mA/\∀f,xZ (fs.lookup f) (mA f)
 |.gj lo hi=>∃t u v,h.get? a=some { cls:=.type "range",data:=.fields #[.int lo t,.int hi u,.int 1 v]}
 |.bq o u=>h.get? a=some o/\cG H h a u
 |.oz ps=>h.get? a=some { cls:=.none,data:=.fields ps }
 |.met f x=>h.get? a=some (PySem.W.methodObj (.ref f) (.ref x))
 |.ext φ=>φ h/\(∃o,h.get? a=some o)/\∀h1 h2:Heap,φ h1->(∀o,h1.get? a=some o->h2.get? a=some o)->φ h2
noncomputable def cV(H:Hp)(h:Heap):Prop:=∀a o,H a=some o->cG P w H h a o
end
section
variable{P:Program}{w:World}{H H':Hp}{h h':Heap}{a:Addr}{o:HO}
theorem cG.lt(x:cG P w H h a o):a<h.objs.size:=by
 cases o with
 |lst xs=>obtain⟨_,_,_,_,e⟩:=x;exact Heap.lt_size e
 |tup xs=>obtain⟨_,_,_,p⟩:=x;exact p.lt
 |dK kvs=>obtain⟨_,_,_,_,o,_,_,e,_⟩:=x;exact Heap.lt_size e
 |dT kvs=>obtain⟨_,_,_,_,o,_,_,e,_⟩:=x;exact Heap.lt_size e
 |set S n=>obtain⟨o,_,_,_,e,_⟩:=x;exact Heap.lt_size e
 |ins C dx fs=>obtain⟨_,_,_,e,_⟩:=x;exact Heap.lt_size e
 |own y=>obtain⟨_,e⟩:=x;exact Heap.lt_size e
 |xd fs=>obtain⟨_,⟨_,_,_,e,_⟩,_⟩:=x;exact Heap.lt_size e
 |gj lo hi=>obtain⟨_,_,_,e⟩:=x;exact Heap.lt_size e
 |bq ob u=>obtain⟨e,_⟩:=x;exact Heap.lt_size e
 |oz ps=>exact Heap.lt_size (show h.get? a=some _ from x)
 |met f y=>exact Heap.lt_size (show h.get? a=some _ from x)
 |ext φ=>obtain⟨_,⟨_,e⟩,_⟩:=x;exact Heap.lt_size e
theorem Paired.DB{α β:Type}{F G:α->β->Prop}:∀{l₁:List α}{l₂:List β},Paired F l₁ l₂->(∀a b,F a b->G a b)->Paired G l₁ l₂
 |_,_,.nil,_=>.nil
 |_,_,.cons r t,f=>.cons (f _ _ r) (Paired.DB t f)
theorem cG.stay(x:cG P w H h a o)(k:∀b u,(b=a\/H b=some (.own a))->h.get? b=some u->h'.get? b=some u)
  (ho:∀b,H b=some (.own a)->H' b=some (.own a)) (ht:∀b xs,H b=some (.tup xs)->H' b=some (.tup xs)):cG P w H' h' a o:=by
 induction o with
 |lst xs=>obtain⟨z,its,n,r,e⟩:=x;exact⟨z,its,n,r,k _ _ (.inl rfl) e⟩
 |tup xs=>obtain⟨z,its,r,ob,e,c⟩:=x;exact⟨z,its,r,ob,k _ _ (.inl rfl) e,c⟩
 |dK kvs=>obtain⟨z,y,vs,r,ob,es,ep,e,c⟩:=x;exact⟨z,y,vs,r,ob,es,ep,k _ _ (.inl rfl) e,c⟩
 |dT kvs=>
  obtain⟨z,y,xs,r,ob,es,ep,e,c⟩:=x;exact⟨z,y,xs,Paired.DB r λp q z=>⟨z.1,ht _ _ z.2.1,z.2.2⟩,ob,es,ep,k _ _ (.inl rfl) e,c⟩
 |set S n=>obtain⟨ob,es,ep,t,e,c⟩:=x;exact⟨ob,es,ep,t,k _ _ (.inl rfl) e,c⟩
 |ins C dx fs=>
  obtain⟨d,z,ne,e,mA,⟨od,es,ep,e2,c⟩,r⟩:=x;exact⟨ho _ d,z,ne,k _ _ (.inl rfl) e,mA,⟨od,es,ep,k _ _ (.inr d) e2,c⟩,r⟩
 |own y=>obtain⟨ob,e⟩:=x;exact⟨ob,k _ _ (.inl rfl) e⟩
 |xd fs=>obtain⟨mA,⟨od,es,ep,e,c⟩,r⟩:=x;exact⟨mA,⟨od,es,ep,k _ _ (.inl rfl) e,c⟩,r⟩
 |gj lo hi=>obtain⟨t,u,v,e⟩:=x;exact⟨t,u,v,k _ _ (.inl rfl) e⟩
 |bq ob u ih=>obtain⟨e,q⟩:=x;exact⟨k _ _ (.inl rfl) e,ih q⟩
 |oz ps=>
  have e:h.get? a=some { cls:=.none,data:=.fields ps }:=x;show h'.get? a=some { cls:=.none,data:=.fields ps };exact k a _ (.inl rfl) e
 |met f y=>
  have e:h.get? a=some (PySem.W.methodObj (.ref f) (.ref y)):=x;show h'.get? a=some (PySem.W.methodObj (.ref f) (.ref y));exact k a _ (.inl rfl) e
 |ext φ=>obtain⟨p,⟨o,e⟩,st⟩:=x;exact⟨st _ _ p λo q=>k _ _ (.inl rfl) q,⟨o,k _ _ (.inl rfl) e⟩,st⟩
theorem cV.lt(x:cV P w H h)(e:H a=some o):a<h.objs.size:=(x a o e).lt
theorem cV.fresh(x:cV P w H h)(e:h.objs.size<=a):H a=none:=by
 cases q:H a with
 |none=>rfl
 |some u=>exact absurd (Nat.lt_of_lt_of_le (x.lt q) e) (Nat.lt_irrefl _)
theorem cV.kept(x:cV P w H h)(k:∀b u,h.get? b=some u->h'.get? b=some u):cV P w H h':=λa o e=>
 (x a o e).stay (λb u _ q=>k b u q) (λ_ q=>q) λ_ _ q=>q
theorem cV.laid(x:cV P w H h)(k:∀b u,h.get? b=some u->h'.get? b=some u)(hp:h.objs.size<=a)(new:cG P w (upd H a o) h' a o):cV P w (upd H a o) h':=λb u e=>by
 have hn:=x.fresh hp;by_cases hb:b=a
 .subst hb;rw[cj]at e;cases e;exact new
 .rw[aO hb]at e;exact(x b u e).stay (λc v _ q=>k c v q) (λc q=>by rw[aO (bD q hn)];exact q) λc xs q=>by rw[aO (bD q hn)];exact q
end
noncomputable def Rd(H:Hp)(a:Addr)(u:HO):Prop:=H a=some u\/∃o,H a=some (.bq o u)
theorem Rd.ok{P:Program}{w:World}{H:Hp}{h:Heap}{a:Addr}{u:HO}(r:Rd H a u)(x:cV P w H h):cG P w H h a u:=by
 rcases r with r|⟨o,r⟩
 .exact x a u r
 .obtain⟨_,q⟩:=x a _ r;exact q
noncomputable def Ag:Option HO->Prop
 |some (.lst _)=>True
 |some (.dK _)=>True
 |some (.dT _)=>True
 |some (.set _ _)=>True
 |some (.ins _ _ _)=>True
 |some (.ext _)=>True
 |_=>False
section
variable{P:Program}{w:World}{H:Hp}{h h':Heap}{x e:Addr}{o':HO}
theorem cV.write(ok:cV P w H h)(mu:Ag (H x))(he:e=x\/H e=some (.own x))(k:∀b u,b≠e->h.get? b=some u->h'.get? b=some u)(rW:∃u,h'.get? e=some u)
  (new:cG P w (upd H x o') h' x o'):cV P w (upd H x o') h':=λb u q=>by
 have DC:∀c y,H c=some (.own y)->c≠x:=λc y r z=>by subst z;rw[r]at mu;exact mu
 have Ku:∀c xs,H c=some (.tup xs)->c≠x:=λc xs r z=>by subst z;rw[r]at mu;exact mu
 by_cases hb:b=x
 .subst hb;rw[cj]at q;cases q;exact new
 .rw[aO hb]at q;by_cases pZ:b=e
  .have q':H b=some (.own x):=by
    rcases he with z|z
    .exact absurd (pZ.trans z) hb
    .rw[pZ];exact z
   rw[q]at q';cases q';obtain⟨v,hv⟩:=rW;exact⟨v,by rw[pZ];exact hv⟩
  .refine(ok b u q).stay (λc v hc r=>k c v ?_ r) (λc r=>by rw[aO (DC c b r)];exact r) λc xs r=>by rw[aO (Ku c xs r)];exact r
   rcases hc with rfl|hc
   .exact pZ
   .rintro rfl;rcases he with z|z
    .exact DC c b hc z
    .rw[hc]at z;cases z;exact hb rfl
end
structure Un(fs ex:List Addr)(H H':Hp)(h h':Heap):Prop where
 keep:∀b o,h.get? b=some o->H b=none->b∉fs->b∉ex->h'.get? b=some o
 slot:∀b o,h.get? b=some o->H b=none->b∈fs->b∉ex->∃sl,h'.get? b=some { o with slots:=sl }
 free:∀b o,h.get? b=some o->H b=none->b∉ex->H' b=none
 there:∀b o,h.get? b=some o->b∉ex->∃o',h'.get? b=some o'
 tups:∀b xs,H b=some (.tup xs)->H' b=some (.tup xs)
 ir:∀b o u,H b=some (.bq o u)->H' b=some (.bq o u)
 iQ:∀b ps,H b=some (.oz ps)->∃more,H' b=some (.oz (ps++more))
section
variable{fs fs' ex ex':List Addr}{H H1 H2:Hp}{h h1 h2 h':Heap}{a x e:Addr}{o:HO}
theorem Un.any(u:Un fs ex H H1 h h1){b:Addr}{ob:Obj}(q:h.get? b=some ob)(n:H b=none)(hx:b∉ex):∃sl,h1.get? b=some { ob with slots:=sl }:=by
 by_cases hb:b∈fs
 .exact u.slot b ob q n hb hx
 .exact⟨ob.slots,u.keep b ob q n hb hx⟩
theorem Un.kept(k:∀b u,h.get? b=some u->h'.get? b=some u):Un fs ex H H h h':=
 ⟨λb ob q _ _ _=>k b ob q,λb ob q _ _ _=>⟨ob.slots,k b ob q⟩,λ_ _ _ n _=>n,λb ob q _=>⟨ob,k b ob q⟩,λ_ _ q=>q,λ_ _ _ q=>q,λ_ ps q=>⟨#[],by rw[q];simp⟩⟩
theorem Un.refl:Un fs ex H H h h:=Un.kept λ_ _ q=>q
theorem Un.laid(k:∀b u,h.get? b=some u->h'.get? b=some u)(hp:h.objs.size<=a)(hn:H a=none):Un fs ex H (upd H a o) h h' where
 keep:=λb u q _ _ _=>k b u q
 slot:=λb u q _ _ _=>⟨u.slots,k b u q⟩
 free:=λb u q n _=>by rw[aO (Nat.ne_of_lt (Nat.lt_of_lt_of_le (Heap.lt_size q) hp))];exact n
 there:=λb u q _=>⟨u,k b u q⟩
 tups:=λb xs q=>by rw[aO (bD q hn)];exact q
 ir:=λb u xs q=>by rw[aO (bD q hn)];exact q
 iQ:=λb ps q=>⟨#[],by rw[aO (bD q hn),q];simp⟩
theorem Un.write(mu:Ag (H x))(he:e=x\/H e=some (.own x))(k:∀b u,b≠e->h.get? b=some u->h'.get? b=some u)(rW:∃u,h'.get? e=some u):Un fs ex H (upd H x o) h h':=by
 have hx:∀b,H b=none->b≠x:=λb n z=>by subst z;rw[n]at mu;exact mu
 have hb:∀b,H b=none->b≠e:=λb n z=>by
  subst z;rcases he with r|r
  .exact hx b n r
  .rw[n]at r;cases r
 have hm:∀b u,H b=some u->¬ Ag (some u)->b≠x:=λb u q nm z=>by subst z;rw[q]at mu;exact nm mu
 refine⟨λb u q n _ _=>k b u (hb b n) q,λb u q n _ _=>⟨u.slots,k b u (hb b n) q⟩,λb u q n _=>by rw[aO (hx b n)];exact n,λb u q _=>?_,
  λb xs q=>by rw[aO (hm b _ q λz=>z)];exact q,λb u xs q=>by rw[aO (hm b _ q λz=>z)];exact q,λb ps q=>⟨#[],by rw[aO (hm b _ q λz=>z),q];simp⟩⟩
 by_cases pZ:b=e
 .subst pZ;exact rW
 .exact⟨u,k b u pZ q⟩
end
noncomputable def Ah(h:Heap)(H:Hp):List Addr:=(List.range h.objs.size).filter λa=>(H a).isSome
noncomputable def jm(h:Heap)(H:Hp):Heap:=PySem.W.hideAll h (Ah h H)
theorem vf(h:Heap)(H:Hp):(jm h H).objs.size=h.objs.size:=PySem.W.hideAll_size _ _
theorem x6{h:Heap}{H:Hp}{b:Addr}{o:Obj}(e:h.get? b=some o)(n:H b=none):(jm h H).get? b=some o:=
 PySem.W.hideAll_get _ e λhm=>by
  have q:(H b).isSome=true:=(List.mem_filter.mp hm).2;rw[n]at q;simp at q
theorem Bt{h:Heap}{H:Hp}{b:Addr}{o:Obj}(e:(jm h H).get? b=some o):h.get? b=some o/\H b=none:=by
 have e':h.get? b=some o:=PySem.W.of_hideAll (Ah h H) e;refine⟨e',?_⟩;cases q:H b with
 |none=>rfl
 |some x=>
  have hm:b∈Ah h H:=List.mem_filter.mpr ⟨List.mem_range.mpr (Heap.lt_size e'),by simp[q]⟩;have z:(jm h H).get? b=none:=PySem.W.hideAll_none (Ah h H) hm;rw[z]at e;cases e
noncomputable def Bu(g h:Heap)(L:Addr):List (Addr×Obj):=(List.range h.objs.size).filterMap λa=>if a=L\/(g.get? a).isSome=true then none else (h.get? a).map λo=>(a,o)
noncomputable def rest(g h:Heap)(L d:Addr):List (Addr×Obj):=(Bu g h L).filter λp=>decide (p.1≠d)
end L2
namespace L2
open PySem PySem.Spec PyProof.Rows
structure Mod(K:PySem.W.Frag)(mg:Str->Option Value)(base:Heap):Prop where
 bW:K.In base
 glob:base.Ns mainGlobals mg
 blt:∃mb,base.Ns builtinsNs mb/\∀x:Str,x≠"__name__" ->mb x=bootBuiltins x
 nolimit:base.NoLimit
structure Cx where
 prog:Program
 w:World
 K:PySem.W.Frag
 mg:Str->Option Value
 base:Heap
 A:Around
 N:List Str
 s₀:Shared
 H₀:Hp
 env:Env
 outer:List Env
 stack:List Env
 ex:List Addr
 fn:Str->Bool
 calm:Bool
 pn:List (Addr×Obj)
 xe:Value->Shared->Prop
noncomputable def frs(l:List Env):List Addr:=l.filterMap (·.frame)
noncomputable abbrev Cx.fs(X:Cx):List Addr:=frs X.outer
noncomputable def oA(sc:Scope)(x:Str):Prop:=sc.names.lookup x=some .local\/sc.names.lookup x=some .cell\/sc.names.lookup x=some .free
noncomputable def Loc(sc:Scope)(x:Str):Prop:=sc.names.lookup x=some .local\/sc.names.lookup x=some .cell
noncomputable def Look(env:Env)(h:Heap)(m:Str->Option Value)(x:Str)(u:Value):Prop:=
 (env.kindOf x=some .local/\m x=some u)\/((env.kindOf x=some .cell\/env.kindOf x=some .free)/\∃c,env.cells.lookup x=some c/\h.IsCell c (some u))
structure Cx.Ok(X:Cx):Prop where
 mod:Mod X.K X.mg X.base
 kind:X.env.scope.kind=.function
 glob:X.env.globals=mainGlobals
 blt:X.env.builtins=builtinsNs
 above:X.s₀.heap.objs.size<=X.env.locals
 inj:∀x y c,X.env.cells.lookup x=some c->X.env.cells.lookup y=some c->x=y
 has:∀x,(X.env.kindOf x=some .cell\/X.env.kindOf x=some .free)->∃c,X.env.cells.lookup x=some c
 qa:∀x c,X.fn x=true->X.env.cells.lookup x=some c->X.s₀.heap.objs.size<=c
 hd:X.calm=true->X.A.handled=none
 frames:X.A.frames=some X.stack
 stk:X.stack=X.outer\/(X.stack=X.env :: X.outer/\X.env.frame=some X.env.locals)
 vg:∀b∈X.ex,b≠X.env.locals/\∀x c,X.env.cells.lookup x=some c->c≠b
 bs:∀b o,X.base.get? b=some o->X.s₀.heap.get? b=some o/\X.H₀ b=none
 jL:X.base.objs.size<=X.s₀.heap.objs.size
 lE:∀b o,X.base.get? b=some o->b∉X.ex
 lF:∀b∈X.ex,b∉X.fs
 fy:X.s₀.heap.FunFrames X.base X.outer
 kT:∀b∈X.fs,X.H₀ b=none
structure Inv(X:Cx)(pins:List (Addr×Obj))(σ:List (Option V))(H:Hp)(s:Shared):Prop where
 ok:X.Ok
 os:s.os=X.s₀.os
 bare:AllBare s.gens
 base:Un X.fs X.ex X.H₀ H X.s₀.heap s.heap
 loc:∃m,s.heap.Ns X.env.locals m/\∀(i:Nat) (x:Str) (v:V),X.N[i]?=some x->σ[i]?=some (some v)->oA X.env.scope x->∃u,RelV v u/\Look X.env s.heap m x u
 cell:∀x c,X.env.cells.lookup x=some c->∃v,s.heap.IsCell c v
 free:H X.env.locals=none
 fh:∀x c,X.env.cells.lookup x=some c->H c=none
 pin:∀p∈X.pn++pins,s.heap.get? p.1=some p.2/\H p.1=none/\p.1≠X.env.locals/\p.1∉X.fs/\∀v,p.2.data≠.cell v
 hok:cV X.prog X.w H s.heap
 len:σ.length=X.N.length
section
variable{X:Cx}{pins:List (Addr×Obj)}{σ:List (Option V)}{H H':Hp}{s:Shared}{h':Heap}
theorem Cx.Ok.Kv(ok:X.Ok){b:Addr}{o:Obj}(e:X.base.get? b=some o):b∉X.fs:=λhb=>by
 have:=(ok.fy.mem hb).1;rw[e]at this;cases this
theorem Inv.bs(I:Inv X pins σ H s):∀b o,X.base.get? b=some o->s.heap.get? b=some o/\H b=none:=λb o e=>
 ⟨I.base.keep b o (I.ok.bs b o e).1 (I.ok.bs b o e).2 (I.ok.Kv e) (I.ok.lE b o e),I.base.free b o (I.ok.bs b o e).1 (I.ok.bs b o e).2 (I.ok.lE b o e)⟩
theorem Inv.bk(I:Inv X pins σ H s):∀b o,X.base.get? b=some o->s.heap.get? b=some o:=λb o e=>(I.bs b o e).1
theorem Inv.mod(I:Inv X pins σ H s):Mod X.K X.mg X.base:=I.ok.mod
theorem Inv.dj(I:Inv X pins σ H s):X.K.In s.heap:=I.ok.mod.bW.keeps I.bk
theorem Inv.lt(I:Inv X pins σ H s):X.env.locals<s.heap.objs.size:=let ⟨_,hn,_⟩:=I.loc;hn.lt
theorem Inv.sz(I:Inv X pins σ H s):X.s₀.heap.objs.size<=s.heap.objs.size:=Nat.le_trans I.ok.above (Nat.le_of_lt I.lt)
theorem Inv.Kw(I:Inv X pins σ H s){a:Addr}(h:s.heap.objs.size<=a):a∉X.fs:=λhb=>by
 obtain⟨_,o,ho,_⟩:=I.ok.fy.mem hb;exact absurd (Nat.lt_of_lt_of_le (Heap.lt_size ho) (Nat.le_trans I.sz h)) (Nat.lt_irrefl _)
theorem Inv.jM(I:Inv X pins σ H s):∀x c,X.env.cells.lookup x=some c->c≠X.env.locals:=λx c e z=>by
 obtain⟨v,o,ho,hd⟩:=I.cell x c e;obtain⟨m,⟨o',es,ep,ho',hd',_⟩,_⟩:=I.loc;rw[z,ho']at ho;cases ho;rw[hd']at hd;cases hd
theorem Inv.fy(I:Inv X pins σ H s):s.heap.FunFrames X.base X.outer:=by
 have all:∀(l:List Env),(∀b∈frs l,b∈X.fs)->X.s₀.heap.FunFrames X.base l->s.heap.FunFrames X.base l:=by
  intro l;induction l with
  |nil=>intro _ _;trivial
  |cons env r ih=>
   intro hs hl;obtain⟨hk,⟨L,o,hf,hn,ho,hd⟩,hr⟩:=hl;have hL:L∈X.fs:=hs L (by unfold frs;rw[List.filterMap_cons,hf];exact List.mem_cons_self);obtain⟨sl,e⟩:=I.base.slot L o ho (I.ok.kT L hL) hL λz=>I.ok.lF L z hL;exact⟨hk,⟨L,_,hf,hn,e,hd⟩,ih (λb hb=>hs b (by unfold frs;rw[List.filterMap_cons,hf];exact List.mem_cons_of_mem _ hb)) hr⟩
 exact all X.outer (λ_ hb=>hb) I.ok.fy
theorem Inv.stack(I:Inv X pins σ H s):s.heap.FunFrames X.base X.stack:=by
 rcases I.ok.stk with e|⟨e,hf⟩
 .rw[e];exact I.fy
 .rw[e];obtain⟨m,hn,_⟩:=I.loc;refine .cons (by rw[I.ok.kind];decide) hf hn ?_ I.fy;exact Heap.get?_none_of_le (Nat.le_trans I.ok.jL I.ok.above)
theorem Inv.mj(I:Inv X pins σ H s):∀b∈frs X.stack,b∈X.env.locals :: X.fs:=λb hb=>by
 rcases I.ok.stk with e|⟨e,hf⟩
 .rw[e]at hb;exact List.mem_cons_of_mem _ hb
 .rw[e]at hb;unfold frs at hb;rw[List.filterMap_cons,hf]at hb;exact hb
theorem Inv.nC(I:Inv X pins σ H s):∀b∈frs X.stack,H b=none:=λb hb=>by
 rcases List.mem_cons.mp (I.mj b hb)with e|hb
 .rw[e];exact I.free
 .obtain⟨_,o,ho,_⟩:=I.ok.fy.mem hb;exact I.base.free b o ho (I.ok.kT b hb) λz=>I.ok.lF b z hb
theorem Inv.step{g':Array GenState}{t':Nat}{d':Drawn}{ch:List Addr}(I:Inv X pins σ H s)
  (hch:∀b∈ch,(b∈X.ex\/X.s₀.heap.objs.size<=b)/\b≠X.env.locals/\(∀x c,X.env.cells.lookup x=some c->c≠b)/\∀p∈X.pn++pins,p.1≠b)
  (keep:∀b o,b≠X.env.locals->b∉X.fs->b∉ch->s.heap.get? b=some o->H b=none->h'.get? b=some o)
  (slot:∀b o,b≠X.env.locals->b∈X.fs->b∉ch->s.heap.get? b=some o->H b=none->∃sl,h'.get? b=some { o with slots:=sl }) (free:∀b o,b∉ch->s.heap.get? b=some o->H b=none->H' b=none)
  (there:∀b o,b∉ch->s.heap.get? b=some o->∃o',h'.get? b=some o')
  (tups:∀b xs,H b=some (.tup xs)->H' b=some (.tup xs)) (ir:∀b o u,H b=some (.bq o u)->H' b=some (.bq o u)) (iQ:∀b ps,H b=some (.oz ps)->∃more,H' b=some (.oz (ps++more)))
  (ns:∀m,s.heap.Ns X.env.locals m->h'.Ns X.env.locals m) (hok:cV X.prog X.w H' h') (hg:AllBare g') :
  Inv X pins σ H' { s with heap:=h',gens:=g',drawn:=d',toks:=t' }:=by
 have JF:∀b o,X.s₀.heap.get? b=some o->b≠X.env.locals:=λb o e=>Nat.ne_of_lt (Nat.lt_of_lt_of_le (Heap.lt_size e) I.ok.above);have Ai:∀b o,X.s₀.heap.get? b=some o->b∉X.ex->b∉ch:=λb o e hx hb=>by
  rcases(hch b hb).1 with z|z
  .exact hx z
  .exact absurd (Nat.lt_of_lt_of_le (Heap.lt_size e) z) (Nat.lt_irrefl _)
 have cellK:∀x c,X.env.cells.lookup x=some c->∀v,s.heap.IsCell c v->h'.IsCell c v:=λx c e v ⟨o,ho,hd⟩=>by
  have vh:c∉ch:=λz=>(hch c z).2.2.1 x c e rfl;by_cases hc:c∈X.fs
  .obtain⟨sl,q⟩:=slot c o (I.jM x c e) hc vh ho (I.fh x c e);exact⟨_,q,hd⟩
  .exact⟨o,keep c o (I.jM x c e) hc vh ho (I.fh x c e),hd⟩
 refine⟨I.ok,I.os,hg,⟨λb o e n hb hx=>?_,λb o e n hb hx=>?_,λb o e n hx=>?_,λb o e hx=>?_,λb xs e=>tups b xs (I.base.tups b xs e),λb o xs e=>ir b o xs (I.base.ir b o xs e),λb ps e=>?_⟩,?_,λx c e=>?_,?_,λx c e=>?_,λp hp=>?_,hok,I.len⟩
 .exact keep b o (JF b o e) hb (Ai b o e hx) (I.base.keep b o e n hb hx) (I.base.free b o e n hx)
 .obtain⟨sl,e1⟩:=I.base.slot b o e n hb hx;obtain⟨Mr,e2⟩:=slot b _ (JF b o e) hb (Ai b o e hx) e1 (I.base.free b o e n hx);exact⟨Mr,e2⟩
 .obtain⟨o',e1⟩:=I.base.there b o e hx;exact free b o' (Ai b o e hx) e1 (I.base.free b o e n hx)
 .obtain⟨o',e1⟩:=I.base.there b o e hx;exact there b o' (Ai b o e hx) e1
 .obtain⟨m1,e1⟩:=I.base.iQ b ps e;obtain⟨m2,e2⟩:=iQ b _ e1;exact⟨m1++m2,by rw[e2,Array.append_assoc]⟩
 .obtain⟨m,hn,hl⟩:=I.loc;refine⟨m,ns m hn,λi x v e1 e2 e3=>?_⟩;obtain⟨u,r,l⟩:=hl i x v e1 e2 e3;refine⟨u,r,?_⟩;rcases l with l|⟨k,c,e,z⟩
  .exact .inl l
  .exact .inr ⟨k,c,e,cellK x c e _ z⟩
 .obtain⟨v,z⟩:=I.cell x c e;exact⟨v,cellK x c e v z⟩
 .obtain⟨m,⟨o,_,_,ho,_⟩,_⟩:=I.loc;exact free _ o (λz=>(hch _ z).2.1 rfl) ho I.free
 .obtain⟨v,o,ho,hd⟩:=I.cell x c e;exact free c o (λz=>(hch c z).2.2.1 x c e rfl) ho (I.fh x c e)
 .obtain⟨e,n,ne,nf,d⟩:=I.pin p hp;have vh:p.1∉ch:=λz=>(hch p.1 z).2.2.2 p hp rfl;exact⟨keep p.1 p.2 ne nf vh e n,free p.1 p.2 vh e n,ne,nf,d⟩
theorem Inv.un{t':Nat}(I:Inv X pins σ H s)(u:Un X.fs [] H H' s.heap h')(hok:cV X.prog X.w H' h'):Inv X pins σ H' { s with heap:=h',toks:=t' }:=by
 obtain⟨m,⟨o,es,ep,ho,r⟩,_⟩:=id I.loc;obtain⟨sl,hL⟩:=u.any ho I.free (by simp);exact I.step (g':=s.gens) (d':=s.drawn) (ch:=[]) (λ_ z=>nomatch z) (λb o _ hb _ e n=>u.keep b o e n hb (by simp)) (λb o _ hb _ e n=>u.slot b o e n hb (by simp)) (λb o _ e n=>u.free b o e n (by simp)) (λb o _ e=>u.there b o e (by simp)) u.tups u.ir u.iQ (λm' hm=>by
  obtain⟨o',es',DE,ho',r'⟩:=hm;rw[ho]at ho';cases ho';exact⟨_,es',DE,hL,r'⟩) hok I.bare
theorem Inv.call{g':Array GenState}{t':Nat}{d':Drawn}{ch:List Addr}(I:Inv X pins σ H s)(u:Un (frs X.stack) ch H H' s.heap h')(hok:cV X.prog X.w H' h')(hg:AllBare g')
  (hch:∀b∈ch,(b∈X.ex\/X.s₀.heap.objs.size<=b)/\b≠X.env.locals/\(∀x c,X.env.cells.lookup x=some c->c≠b)/\∀p∈X.pn++pins,p.1≠b) :
  Inv X pins σ H' { s with heap:=h',gens:=g',drawn:=d',toks:=t' }:=by
 obtain⟨m,⟨o,es,ep,ho,r⟩,_⟩:=id I.loc;obtain⟨sl,hL⟩:=u.any ho I.free λz=>(hch _ z).2.1 rfl;exact I.step (ch:=ch) hch (λb o hL hb hc e n=>u.keep b o e n (λz=>(List.mem_cons.mp (I.mj b z)).elim hL hb) hc) (λb o _ _ hc e n=>u.any e n hc) (λb o hc e n=>u.free b o e n hc) (λb o hc e=>u.there b o e hc) u.tups u.ir u.iQ (λm' hm=>by
  obtain⟨o',es',DE,ho',r'⟩:=hm;rw[ho]at ho';cases ho';exact⟨_,es',DE,hL,r'⟩) hok hg
theorem Inv.turned{t':Nat}{it:Addr}(I:Inv X pins σ H s)(k:∀b o,b≠it->s.heap.get? b=some o->h'.get? b=some o)(hn:H it=none)(hL:it≠X.env.locals)
  (h1:it∈X.ex\/X.s₀.heap.objs.size<=it) (h2:∀x c,X.env.cells.lookup x=some c->c≠it) (h3:∀p∈X.pn++pins,p.1≠it):Inv X pins σ H { s with heap:=h',toks:=t' }:=by
 have JH:∀b u,H b=some u->b≠it:=λb u e z=>by rw[z,hn]at e;cases e
 refine I.step (g':=s.gens) (d':=s.drawn) (ch:=[it]) (λb hb=>?_) (λb o _ _ hc e _=>k b o (λz=>hc (by simp[z])) e) (λb o _ _ hc e _=>⟨o.slots,k b o (λz=>hc (by simp[z])) e⟩) (λ_ _ _ _ n=>n)
  (λb o hc e=>⟨o,k b o (λz=>hc (by simp[z])) e⟩) (λ_ _ e=>e) (λ_ _ _ e=>e) (λb ps e=>⟨#[],by rw[e];simp⟩) (λm hm=>?_) (λb u e=>?_) I.bare
 .have e:b=it:=by simpa using hb
  subst e;exact⟨h1,hL,h2,h3⟩
 .obtain⟨o,es,ep,ho,r⟩:=hm;exact⟨o,es,ep,k _ o (Ne.symm hL) ho,r⟩
 .refine(I.hok b u e).stay (λc v hc q=>k c v ?_ q) (λ_ q=>q) λ_ _ q=>q;rcases hc with z|z
  .rw[z];exact JH b u e
  .exact JH c _ z
theorem Inv.tok(I:Inv X pins σ H s)(t:Nat):Inv X pins σ H { s with toks:=t }:=I.un (h':=s.heap) (t':=t) Un.refl I.hok
theorem Inv.kept{t':Nat}(I:Inv X pins σ H s)(k:∀b u,s.heap.get? b=some u->h'.get? b=some u):Inv X pins σ H { s with heap:=h',toks:=t' }:=I.un (Un.kept k) (I.hok.kept k)
theorem Inv.laid{a:Addr}{o:HO}{t':Nat}(I:Inv X pins σ H s)(k:∀b u,s.heap.get? b=some u->h'.get? b=some u)(hp:s.heap.objs.size<=a)(new:cG X.prog X.w (upd H a o) h' a o) :
  Inv X pins σ (upd H a o) { s with heap:=h',toks:=t' }:=I.un (Un.laid k hp (I.hok.fresh hp)) (I.hok.laid k hp new)
theorem Inv.write{x e:Addr}{o:HO}{t':Nat}(I:Inv X pins σ H s)(mu:Ag (H x))(he:e=x\/H e=some (.own x))(k:∀b u,b≠e->s.heap.get? b=some u->h'.get? b=some u)(rW:∃u,h'.get? e=some u)
  (new:cG X.prog X.w (upd H x o) h' x o):Inv X pins σ (upd H x o) { s with heap:=h',toks:=t' }:=I.un (Un.write mu he k rW) (I.hok.write mu he k rW new)
theorem Inv.rX{Aj:List (Addr×Obj)}(I:Inv X pins σ H s)(h:∀p∈Aj,s.heap.get? p.1=some p.2/\H p.1=none/\p.1≠X.env.locals/\p.1∉X.fs/\∀v,p.2.data≠.cell v):Inv X Aj σ H s:=
 ⟨I.ok,I.os,I.bare,I.base,I.loc,I.cell,I.free,I.fh,λp hp=>(List.mem_append.mp hp).elim (λz=>I.pin p (List.mem_append_left _ z)) (h p),I.hok,I.len⟩
theorem lG{N:List Str}(hN:N.Nodup){i j:Nat}{x:Str}(a:N[i]?=some x)(b:N[j]?=some x):i=j:=by
 obtain⟨h1,e1⟩:=List.getElem?_eq_some_iff.mp a;obtain⟨h2,e2⟩:=List.getElem?_eq_some_iff.mp b;exact(List.getElem_inj hN).mp (e1.trans e2.symm)
theorem oB{M:Model}{A:Around}{E:Value->Shared->Prop}{i:Nat}{x:Str}{v:V}{u:Value}{Q:Unit->Shared->Prop}(I:Inv X pins σ H s)(hN:X.N.Nodup)(hi:X.N[i]?=some x)(hx:Loc X.env.scope x)(r:RelV v u)
  (h:∀s',Inv X pins (σ.set i (some v)) H s'->(∃a,Heap.SameBut a s.heap s'.heap/\(a=X.env.locals\/X.env.cells.lookup x=some a))->Q () s') (hf:X.fn x=true\/X.env.scope.names.lookup x=some .local:=by first|exact .inl rfl|exact .inr rfl|assumption):wpAny M A (storeName X.env x u) Q E s:=by
 obtain⟨m,hn,hl⟩:=id I.loc;have hcls:(X.env.scope.kind==.class || (X.env.scope.kind==.module&&X.env.locals != X.env.globals))=false:=by rw[I.ok.kind];rfl
 have t6:i<σ.length:=by rw[I.len];exact(List.getElem?_eq_some_iff.mp hi).1
 have jM:=I.jM;have tracked:∀{a:Addr} {h':Heap},(∃o,s.heap.get? a=some o/\H a=none)->Heap.SameBut a s.heap h'->cV X.prog X.w H h':=λ{a h'} ha hs b ob e=>by
  obtain⟨_,_,hfree⟩:=ha;refine(I.hok b ob e).stay (λc w' hc q=>(hs.2 c ?_).trans q) (λ_ q=>q) λ_ _ q=>q;rintro rfl;rcases hc with rfl|hc
  .rw[hfree]at e;cases e
  .rw[hfree]at hc;cases hc
 rcases hx with hk|hk
 .refine wpAny_storeName_local hk hn (λh' hn' hs=>?_) hcls;obtain⟨oL,_,_,JJ,_⟩:=id hn;refine h _ ⟨I.ok,I.os,I.bare,⟨λb o e n hb hx=>?_,λb o e n hb hx=>?_,I.base.free,λb o e hx=>?_,I.base.tups,I.base.ir,I.base.iQ⟩,⟨_,hn',λj y v' e1 e2 e3=>?_⟩,λy c e=>?_,I.free,I.fh,λp hp=>?_,tracked ⟨oL,JJ,I.free⟩ hs,by simpa using I.len⟩ ⟨_,hs,.inl rfl⟩
  .exact(hs.2 b (Nat.ne_of_lt (Nat.lt_of_lt_of_le (Heap.lt_size e) I.ok.above))).trans (I.base.keep b o e n hb hx)
  .obtain⟨sl,e1⟩:=I.base.slot b o e n hb hx;exact⟨sl,(hs.2 b (Nat.ne_of_lt (Nat.lt_of_lt_of_le (Heap.lt_size e) I.ok.above))).trans e1⟩
  .obtain⟨o',e1⟩:=I.base.there b o e hx;exact⟨o',(hs.2 b (Nat.ne_of_lt (Nat.lt_of_lt_of_le (Heap.lt_size e) I.ok.above))).trans e1⟩
  .by_cases hj:j=i
   .subst hj;rw[hi]at e1;cases e1;rw[List.getElem?_set_self t6]at e2;cases e2;exact⟨u,r,.inl ⟨hk,by simp⟩⟩
   .rw[List.getElem?_set_ne (Ne.symm hj)]at e2;obtain⟨u',r',q⟩:=hl j y v' e1 e2 e3;refine⟨u',r',?_⟩;rcases q with ⟨k,e⟩|⟨k,c,e,z⟩
    .refine .inl ⟨k,?_⟩;have:y≠x:=λe=>hj (lG hN e1 (e▸hi));simp[this,e]
    .exact .inr ⟨k,c,e,z.sameBut hs (jM y c e)⟩
  .obtain⟨w',z⟩:=I.cell y c e;exact⟨w',z.sameBut hs (jM y c e)⟩
  .obtain⟨e,n,ne,nf,d⟩:=I.pin p hp;exact⟨(hs.2 p.1 ne).trans e,n,ne,nf,d⟩
 .have hfn:X.fn x=true:=by
   rcases hf with z|z
   .exact z
   .rw[z]at hk;cases hk
  obtain⟨c,hc⟩:=I.ok.has x (.inl hk);obtain⟨w',z⟩:=I.cell x c hc;refine wpAny_storeName_cell I.ok.kind hk hc z (λh' hc' hs=>?_);obtain⟨oc,hoc,Ky⟩:=id z;refine h { s with heap:=h' } ⟨I.ok,I.os,I.bare,⟨λb o e n hb hx=>?_,λb o e n hb hx=>?_,I.base.free,λb o e hx=>?_,I.base.tups,I.base.ir,I.base.iQ⟩,⟨m,hn.sameBut hs (Ne.symm (jM x c hc)),λj y v' e1 e2 e3=>?_⟩,λy c' e=>?_,I.free,I.fh,λp hp=>?_,tracked ⟨oc,hoc,I.fh x c hc⟩ hs,by simpa using I.len⟩ ⟨c,hs,.inr hc⟩
  .exact(hs.2 b (Nat.ne_of_lt (Nat.lt_of_lt_of_le (Heap.lt_size e) (I.ok.qa x c hfn hc)))).trans (I.base.keep b o e n hb hx)
  .obtain⟨sl,e1⟩:=I.base.slot b o e n hb hx;exact⟨sl,(hs.2 b (Nat.ne_of_lt (Nat.lt_of_lt_of_le (Heap.lt_size e) (I.ok.qa x c hfn hc)))).trans e1⟩
  .obtain⟨o',e1⟩:=I.base.there b o e hx;exact⟨o',(hs.2 b (Nat.ne_of_lt (Nat.lt_of_lt_of_le (Heap.lt_size e) (I.ok.qa x c hfn hc)))).trans e1⟩
  .by_cases hj:j=i
   .subst hj;rw[hi]at e1;cases e1;rw[List.getElem?_set_self t6]at e2;cases e2;exact⟨u,r,.inr ⟨.inl hk,c,hc,hc'⟩⟩
   .rw[List.getElem?_set_ne (Ne.symm hj)]at e2;obtain⟨u',r',q⟩:=hl j y v' e1 e2 e3;refine⟨u',r',?_⟩;rcases q with q|⟨k,c',e,z'⟩
    .exact .inl q
    .refine .inr ⟨k,c',e,z'.sameBut hs ?_⟩;rintro rfl;exact hj (lG hN e1 (I.ok.inj _ _ _ e hc▸hi))
  .by_cases hcc:c'=c
   .subst hcc;exact⟨_,hc'⟩
   .obtain⟨w2,z2⟩:=I.cell y c' e;exact⟨w2,z2.sameBut hs hcc⟩
  .obtain⟨e,n,ne,nf,d⟩:=I.pin p hp;refine⟨(hs.2 p.1 ?_).trans e,n,ne,nf,d⟩;intro q;rw[q,hoc]at e;have q':oc=p.2:=Option.some.inj e;exact d w' (by rw[<-q'];exact Ky)
theorem lH{M:Model}{A:Around}{E:Value->Shared->Prop}{i:Nat}{x:Str}{v:V}{u:Value}{Q:Unit->Shared->Prop}(I:Inv X pins σ H s)(hN:X.N.Nodup)(hi:X.N[i]?=some x)(hx:Loc X.env.scope x)(r:RelV v u)
  (h:∀s',Inv X pins (σ.set i (some v)) H s'->Q () s') (hf:X.fn x=true\/X.env.scope.names.lookup x=some .local:=by first|exact .inl rfl|exact .inr rfl|assumption):wpAny M A (storeName X.env x u) Q E s:=
 oB I hN hi hx r (λs' I' _=>h s' I') hf
theorem Inv.pK{s':Shared}{ch:List Addr}(I:Inv X pins σ H s)(ho:s'.os=s.os)(u:Un (frs X.stack) ch H H' s.heap s'.heap)(hok:cV X.prog X.w H' s'.heap)(hg:AllBare s'.gens)
  (hch:∀b∈ch,(b∈X.ex\/X.s₀.heap.objs.size<=b)/\b≠X.env.locals/\(∀x c,X.env.cells.lookup x=some c->c≠b)/\∀p∈X.pn++pins,p.1≠b):Inv X pins σ H' s':=by
 obtain⟨h',g',d',t',o'⟩:=s';have e:o'=s.os:=ho;subst e;exact I.call (g':=g') (t':=t') (d':=d') u hok hg hch
end
abbrev XK:=Value->Option Addr->Hp->Prop
abbrev St:=List (Option V)
abbrev VK:=V->Hp->Prop
abbrev TE:=St->Hp->VK->Prop
abbrev TT:=St->Hp->(Bool->Hp->Prop)->Prop
abbrev TA:=St->Hp->(List V->Hp->Prop)->Prop
structure Ends where
 nx:St->Hp->Prop
 rt:VK
 bk:St->Hp->Prop:=λ_ _=>False
 ct:St->Hp->Prop:=λ_ _=>False
abbrev TS:=Ends->St->Hp->Prop
noncomputable def EP(X:Cx)(pins:List (Addr×Obj))(σ:St)(Q:VK)(u:Value)(s':Shared):Prop:=∃v H',Inv X pins σ H' s'/\RelV v u/\Q v H'
noncomputable def TP(X:Cx)(pins:List (Addr×Obj))(σ:St)(Q:Bool->Hp->Prop)(b:Bool)(s':Shared):Prop:=∃H',Inv X pins σ H' s'/\Q b H'
noncomputable def AP(X:Cx)(pins:List (Addr×Obj))(σ:St)(Q:List V->Hp->Prop)(us:List Value)(s':Shared):Prop:=∃vs H',Inv X pins σ H' s'/\Vals vs us/\Q vs H'
noncomputable def SP(X:Cx)(pins:List (Addr×Obj))(D:Ends)(f:Flow)(s':Shared):Prop:=
 match f with
 |.next=>∃σ' H',Inv X pins σ' H' s'/\D.nx σ' H'
 |.brk=>∃σ' H',Inv X pins σ' H' s'/\D.bk σ' H'
 |.cont=>∃σ' H',Inv X pins σ' H' s'/\D.ct σ' H'
 |.ret u=>∃v σ' H',Inv X pins σ' H' s'/\RelV v u/\D.rt v H'
noncomputable def PE(X:Cx)(e:Expr)(t:TE):Prop:=
 ∀(pins:List (Addr×Obj)) (s:Shared) (σ:St) (H:Hp) (Q:VK),Inv X pins σ H s->t σ H Q->wpAny (model X.prog X.w) X.A (eval e X.env) (EP X pins σ Q) X.xe s
noncomputable def PT(X:Cx)(e:Expr)(t:TT):Prop:=
 ∀(pins:List (Addr×Obj)) (s:Shared) (σ:St) (H:Hp) (Q:Bool->Hp->Prop),Inv X pins σ H s->t σ H Q->wpAny (model X.prog X.w) X.A (isTrue e X.env (eval e X.env)) (TP X pins σ Q) X.xe s
noncomputable def PW(X:Cx)(e:Expr)(t:TT):Prop:=
 ∀(whole:Sem Value) (pins:List (Addr×Obj)) (s:Shared) (σ:St) (H:Hp) (Q:Bool->Hp->Prop),Inv X pins σ H s->t σ H Q->wpAny (model X.prog X.w) X.A (isTrue e X.env whole) (TP X pins σ Q) X.xe s
theorem PW.pt{X:Cx}{e:Expr}{t:TT}(h:PW X e t):PT X e t:=h _
noncomputable def PA(X:Cx)(es:List Expr)(t:TA):Prop:=
 ∀(pos:Pos) (pins:List (Addr×Obj)) (s:Shared) (σ:St) (H:Hp) (Q:List V->Hp->Prop),Inv X pins σ H s->t σ H Q->wpAny (model X.prog X.w) X.A (spliced (backTo pos (starEach es X.env))) (AP X pins σ Q) X.xe s
noncomputable def PS(X:Cx)(st:Stmt)(t:TS):Prop:=
 ∀(pins:List (Addr×Obj)) (s:Shared) (σ:St) (H:Hp) (D:Ends),Inv X pins σ H s->t D σ H->wpAny (model X.prog X.w) X.A (exec st X.env) (SP X pins D) X.xe s
noncomputable def dH(X:Cx)(st:List Stmt)(t:TS):Prop:=
 ∀(pins:List (Addr×Obj)) (s:Shared) (σ:St) (H:Hp) (D:Ends),Inv X pins σ H s->t D σ H->wpAny (model X.prog X.w) X.A (execs st X.env) (SP X pins D) X.xe s
theorem bB{α:Type}{t:Sem α}{Q Q':α->Shared->Prop}{M:Model}{A:Around}{E:Value->Shared->Prop}{s:Shared}(h:wpAny M A t Q E s)(hQ:∀a s,Q a s->Q' a s):wpAny M A t Q' E s:=wpAny_mono h hQ λ_ _ x=>x
end L2
namespace L2
open PySem PySem.Spec PyProof.Rows
section
variable{X:Cx}
theorem bin{a b:Expr}{ta tb:TE}(ha:PE X a ta)(hb:PE X b tb){pins:List (Addr×Obj)}{s:Shared}{σ:St}{H:Hp}{R:V->V->Hp->Prop}(I:Inv X pins σ H s)(h:ta σ H λx H1=>tb σ H1 λy H2=>R x y H2)
  {α:Type} {Q:α->Shared->Prop} {f:Value->Value->Sem α}
  (hf:∀v u s2 x y H2,Inv X pins σ H2 s2->RelV x v->RelV y u->R x y H2->wpAny (model X.prog X.w) X.A (f v u) Q X.xe s2) :
  wpAny (model X.prog X.w) X.A (eval a X.env) (λv s₁=>wpAny (model X.prog X.w) X.A (eval b X.env) (λu s₂=>wpAny (model X.prog X.w) X.A (f v u) Q X.xe s₂) X.xe s₁) X.xe s:=by
 refine bB (ha pins s σ H _ I h) λv s1 ⟨x,H1,I1,r1,q1⟩=>?_;refine bB (hb pins s1 σ H1 _ I1 q1) λu s2 ⟨y,H2,I2,r2,q2⟩=>?_;exact hf v u s2 x y H2 I2 r1 r2 q2
noncomputable def DF(i:Nat):TE:=λσ H Q=>∃v,σ[i]?=some (some v)/\Q v H
noncomputable def tC(v:V):TE:=λ_ H Q=>Q v H
theorem mq {i:Nat}{x:Str}{pos:Pos}(hN:X.N[i]?=some x) (hv:oA X.env.scope x) (hd:(x==("__debug__" : Str))=false:=by decide) (hcd:(x==("__classdict__" : Str))=false:=by decide):PE X (.Name x pos) (DF i):=by
 intro pins s σ H Q I h;obtain⟨v,e,h⟩:=h;obtain⟨m,hn,hl⟩:=I.loc;obtain⟨u,r,l⟩:=hl i x v hN e hv;have fin:EP X pins σ Q u s:=⟨v,H,I,r,h⟩
 rcases l with ⟨hk,hm⟩|⟨hk,c,hc,hcell⟩
 .exact wpAny_Name (wpAny_loadName_local I.ok.kind hk hn hm fin) hd
 .rcases hk with hk|hk
  .exact wpAny_Name (wpAny_loadName_cell I.ok.kind hk hc hcell fin) hd
  .exact wpAny_Name (wpAny_loadName_free I.ok.kind hk hc hcell fin hcd) hd
theorem vj{i j pos}:PE X (.Constant (.int i) j pos) (tC (.int i)):=λ_ _ _ H _ I h=>wpAny_Constant_int ⟨.int i,H,I.tok _,⟨_,rfl⟩,h⟩
theorem HJ{b j pos}:PE X (.Constant (.bool b) j pos) (tC (.bl b)):=λ_ _ _ H _ I h=>Constant_bool ⟨.bl b,H,I,rfl,h⟩
theorem DG{j pos}:PE X (.Constant .none j pos) (tC .az):=λ_ _ _ H _ I h=>Constant_none ⟨.az,H,I,rfl,h⟩
theorem vm{x j pos}:PE X (.Constant (.str x) j pos) (tC (.str x)):=λ_ _ _ H _ I h=>Calls.Constant_str ⟨.str x,H,I.tok _,⟨_,rfl⟩,h⟩
noncomputable def Gl(X:Cx)(x:Str):Prop:=X.env.kindOf x=some .globalImplicit
theorem kD{E:Value->Shared->Prop}{pins:List (Addr×Obj)}{s:Shared}{σ:St}{H:Hp}{x:Str}{u:Value}{pos:Pos}{Q:Value->Shared->Prop}(I:Inv X pins σ H s)(hg:Gl X x)(hm:X.mg x=some u)(h:Q u s)
  (hd:(x==("__debug__" : Str))=false:=by decide):wpAny (model X.prog X.w) X.A (eval (.Name x pos) X.env) Q E s:=
 Calls.Name_function_global I.ok.kind hg (Calls.loadGlobal_global (by rw[I.ok.glob];exact I.mod.glob.keeps I.bk) hm h) hd
theorem mz{E:Value->Shared->Prop}{pins:List (Addr×Obj)}{s:Shared}{σ:St}{H:Hp}{x:Str}{u:Value}{pos:Pos}{Q:Value->Shared->Prop}(I:Inv X pins σ H s)(hg:Gl X x)(hm:X.mg x=none)(hv:bootBuiltins x=some u)(h:Q u s)
  (hn:x≠"__name__" :=by decide) (hd:(x==("__debug__" : Str))=false:=by decide):wpAny (model X.prog X.w) X.A (eval (.Name x pos) X.env) Q E s:=by
 obtain⟨mb,h1,h2⟩:=I.mod.blt;exact Calls.Name_function_global I.ok.kind hg (Calls.loadGlobal_builtin (by rw[I.ok.glob];exact I.mod.glob.keeps I.bk) hm (by rw[I.ok.blt];exact h1.keeps I.bk) ((h2 x hn).trans hv) h) hd
theorem kE {x:Str}{v:V}{u:Value}{pos:Pos}(hg:Gl X x) (hm:X.mg x=some u) (r:RelV v u) (hd:(x==("__debug__" : Str))=false:=by decide):PE X (.Name x pos) (tC v):=
 λ_ _ _ H _ I h=>kD I hg hm ⟨v,H,I,r,h⟩ hd
theorem rY {x:Str}{v:V}{u:Value}{pos:Pos}(hg:Gl X x) (hm:X.mg x=none) (hv:bootBuiltins x=some u) (r:RelV v u) (hn:x≠"__name__" :=by decide) (hd:(x==("__debug__" : Str))=false:=by decide):PE X (.Name x pos) (tC v):=
 λ_ _ _ H _ I h=>mz I hg hm hv ⟨v,H,I,r,h⟩ hn hd
variable{a b:Expr}{ta tb:TE}{pos:Pos}
noncomputable def tB(t:TE):TT:=λσ H Q=>t σ H λx H1=>∃c,x=.bl c/\Q c H1
theorem DH{e:Expr}{t:TE}(h:PE X e t)(he:∀whole,isTrue e X.env whole=(do let v <-whole;standAt e.pos;holding [v] (truthy v)):=by intro _;rfl):PT X e (tB t):=by
 intro pins s σ H Q I hw;refine isTrue_plain (bB (h pins s σ H _ I hw) λv s1 ⟨x,H1,I1,r1,q1⟩=>?_) (he _);obtain⟨d,rfl,q⟩:=q1;cases r1;exact wpAny_truthy_bool ⟨H1,I1,q⟩
variable{tA Ak:TT}{rest:List Expr}
noncomputable def Kz(t u:TT):TT:=λσ H Q=>t σ H λc H1=>if c=true then u σ H1 Q else Q false H1
noncomputable def Ms(t u:TT):TT:=λσ H Q=>t σ H λc H1=>if c=true then Q true H1 else u σ H1 Q
noncomputable def KA(t:TT):TT:=λσ H Q=>t σ H λc H1=>Q (!c) H1
theorem Bv(ha:PT X a tA):PW X (.BoolOp .And [a] pos) tA:=by
 intro wh pins s σ H Q I h;refine isTrue_and (bB (ha pins s σ H Q I h) λc s1 e=>?_);cases c with
 |true=>exact isTrue_and_nil e
 |false=>exact e
theorem vn(ha:PT X a tA):PW X (.BoolOp .Or [a] pos) tA:=by
 intro wh pins s σ H Q I h;refine isTrue_or (bB (ha pins s σ H Q I h) λc s1 e=>?_);cases c with
 |false=>exact isTrue_or_nil e
 |true=>exact e
theorem DI(ha:PT X a tA)(hb:PW X (.BoolOp .And (b :: rest) pos) Ak):PW X (.BoolOp .And (a :: b :: rest) pos) (Kz tA Ak):=by
 intro wh pins s σ H Q I h;refine isTrue_and (bB (ha pins s σ H _ I h) λc s1 ⟨H1,I1,q1⟩=>?_);cases c with
 |true=>exact hb wh pins s1 σ H1 Q I1 q1
 |false=>exact⟨H1,I1,q1⟩
theorem Am(ha:PT X a tA)(hb:PW X (.BoolOp .Or (b :: rest) pos) Ak):PW X (.BoolOp .Or (a :: b :: rest) pos) (Ms tA Ak):=by
 intro wh pins s σ H Q I h;refine isTrue_or (bB (ha pins s σ H _ I h) λc s1 ⟨H1,I1,q1⟩=>?_);cases c with
 |true=>exact⟨H1,I1,q1⟩
 |false=>exact hb wh pins s1 σ H1 Q I1 q1
theorem vp(ha:PT X a tA):PT X (.UnaryOp .Not a pos) (KA tA):=by
 intro pins s σ H Q I h;exact isTrue_not (ha pins s σ H (λc H1=>Q (!c) H1) I h)
noncomputable def HK(ta tb:TE):TE:=λσ H Q=>ta σ H λx H1=>∃c,x=.bl c/\if c=true then tb σ H1 Q else Q (.bl false) H1
theorem DJ{op}{t:TE}(h:PE X a t):PE X (.BoolOp op [a] pos) t:=λpins s σ H Q I hw=>BoolOp_one (h pins s σ H Q I hw)
theorem DK(ha:PE X a ta)(hb:PE X (.BoolOp .And (b :: rest) pos) tb):PE X (.BoolOp .And (a :: b :: rest) pos) (HK ta tb):=by
 intro pins s σ H Q I h;refine BoolOp_and (bB (ha pins s σ H _ I h) λv s1 ⟨x,H1,I1,r1,q1⟩=>?_);obtain⟨c,rfl,q1⟩:=q1;cases r1;refine wpAny_truthy_bool ?_;cases c with
 |true=>exact hb pins s1 σ H1 Q I1 q1
 |false=>exact⟨.bl false,H1,I1,rfl,q1⟩
noncomputable def Mt(t:TT)(ta tb:TE):TE:=λσ H Q=>t σ H λc H1=>if c=true then ta σ H1 Q else tb σ H1 Q
theorem x8{c:Expr}(hc:PT X c tA)(ha:PE X a ta)(hb:PE X b tb):PE X (.IfExp c a b pos) (Mt tA ta tb):=by
 intro pins s σ H Q I h;refine wpAny_IfExp (bB (hc pins s σ H _ I h) λd s1 ⟨H1,I1,q1⟩=>?_);cases d with
 |true=>exact ha pins s1 σ H1 Q I1 q1
 |false=>exact hb pins s1 σ H1 Q I1 q1
end
end L2
namespace L2
open PySem PySem.Spec PyProof.Rows
noncomputable def dI(K:PySem.W.Frag)(H:Hp)(a:Addr)(xs:List V):Prop:=
 Rd H a (.lst xs)\/
  ∃(o:Obj) (its:Array Value) (n:Nat),K.lookup a=some o/\o.cls=.type "list" /\o.dict=none/\o.data=.seq its n/\its.size<=sizeLine/\Vals xs its.toList
noncomputable def cH(K:PySem.W.Frag)(H:Hp)(a:Addr)(xs:List V):Prop:=
 Rd H a (.tup xs)\/
  ∃(o:Obj) (its:Array Value) (n:Nat),K.lookup a=some o/\o.cls=.type "tuple" /\o.data=.seq its n/\its.size<=sizeLine/\Vals xs its.toList
noncomputable def KD:Value->Option V
 |.none=>some .az
 |.bool b=>some (.bl b)
 |.int i _=>some (.int i)
 |.str x _=>some (.str x)
 |.bytes b _=>some (.jK b)
 |.float b _=>some (.rV b)
 |.ref a=>some (.ref a)
 |.type n=>some (.ty n)
 |_=>none
theorem RelV.abs{x:V}{u:Value}(r:RelV x u):KD u=some x:=by
 cases x with
 |az=>cases r;rfl
 |bl _=>cases r;rfl
 |int _=>obtain⟨t,rfl⟩:=r;rfl
 |str _=>obtain⟨t,rfl⟩:=r;rfl
 |jK _=>obtain⟨t,rfl⟩:=r;rfl
 |rV _=>obtain⟨t,rfl⟩:=r;rfl
 |ref _=>cases r;rfl
 |ty _=>cases r;rfl
theorem RelV.inj{x y:V}{u:Value}(r:RelV x u)(q:RelV y u):x=y:=Option.some.inj (r.abs.symm.trans q.abs)
theorem Vals.inj:∀{xs ys:List V}{us:List Value},Vals xs us->Vals ys us->xs=ys
 |_,_,_,.nil,.nil=>rfl
 |_,_,_,.cons r t,.cons r' t'=>by rw[r.inj r',Vals.inj t t']
section
variable{X:Cx}{pins:List (Addr×Obj)}{σ:St}{H:Hp}{s:Shared}{a:Addr}{xs ys:List V}
theorem dI.of{K:PySem.W.Frag}(h:H a=some (.lst xs)):dI K H a xs:=.inl (.inl h)
theorem cH.of{K:PySem.W.Frag}(h:H a=some (.tup xs)):cH K H a xs:=.inl (.inl h)
theorem Inv.list(I:Inv X pins σ H s)(h:dI X.K H a xs):∃its:List Value,Vals xs its/\PlainL s.heap a its.toArray/\xs.length<=sizeLine:=by
 rcases h with h|⟨o,its,n,hk,hc,hd,hs,hz,r⟩
 .obtain⟨z,its,n,r,e⟩:=h.ok I.hok;exact⟨its,r,⟨_,n,e,rfl,rfl,rfl⟩,z⟩
 .refine⟨its.toList,r,⟨o,n,I.dj a o hk,hc,hd,by simpa using hs⟩,?_⟩;have e:=r.length;simp only[Array.length_toList]at e;omega
theorem Inv.tuple(I:Inv X pins σ H s)(h:cH X.K H a xs):∃its:List Value,Vals xs its/\IsTup s.heap a its.toArray/\xs.length<=sizeLine:=by
 rcases h with h|⟨o,its,n,hk,hc,hs,hz,r⟩
 .obtain⟨z,its,r,p⟩:=h.ok I.hok;exact⟨its,r,p,z⟩
 .refine⟨its.toList,r,⟨o,I.dj a o hk,hc,n,by simpa using hs⟩,?_⟩;have e:=r.length;simp only[Array.length_toList]at e;omega
theorem Inv.x9(I:Inv X pins σ H s)(h:dI X.K H a xs)(h':dI X.K H a ys):xs=ys:=by
 obtain⟨its,r,⟨o,n,e,_,_,d⟩,_⟩:=I.list h;obtain⟨its',r',⟨o',n',e',_,_,d'⟩,_⟩:=I.list h';rw[e]at e';cases e';rw[d]at d';injection d' with d1 _
 have:its=its':=by simpa using congrArg Array.toList d1
 subst this;exact r.inj r'
theorem Inv.jN(I:Inv X pins σ H s)(h:cH X.K H a xs)(h':cH X.K H a ys):xs=ys:=by
 obtain⟨its,r,⟨o,e,_,n,d⟩,_⟩:=I.tuple h;obtain⟨its',r',⟨o',e',_,n',d'⟩,_⟩:=I.tuple h';rw[e]at e';cases e';rw[d]at d';injection d' with d1 _
 have:its=its':=by simpa using congrArg Array.toList d1
 subst this;exact r.inj r'
end
abbrev Cx.gM(X:Cx)(E:Value->Shared->Prop):Cx:={ X with xe:=E }
abbrev Cx.fO(X:Cx):Cx:=X.gM λ_ _=>False
theorem Cx.Ok.gM{X:Cx}(ok:X.Ok)(E:Value->Shared->Prop):(X.gM E).Ok:=
 ⟨ok.mod,ok.kind,ok.glob,ok.blt,ok.above,ok.inj,ok.has,ok.qa,ok.hd,ok.frames,ok.stk,ok.vg,ok.bs,ok.jL,ok.lE,ok.lF,ok.fy,ok.kT⟩
theorem Cx.Ok.eW{X:Cx}{E:Value->Shared->Prop}(ok:(X.gM E).Ok):X.Ok:=
 ⟨ok.mod,ok.kind,ok.glob,ok.blt,ok.above,ok.inj,ok.has,ok.qa,ok.hd,ok.frames,ok.stk,ok.vg,ok.bs,ok.jL,ok.lE,ok.lF,ok.fy,ok.kT⟩
section
variable{X:Cx}{pins:List (Addr×Obj)}{σ:St}{H:Hp}{s:Shared}{E:Value->Shared->Prop}
theorem Inv.gM(I:Inv X pins σ H s)(E:Value->Shared->Prop):Inv (X.gM E) pins σ H s:=⟨I.ok.gM E,I.os,I.bare,I.base,I.loc,I.cell,I.free,I.fh,I.pin,I.hok,I.len⟩
theorem Inv.eW(I:Inv (X.gM E) pins σ H s):Inv X pins σ H s:=⟨I.ok.eW,I.os,I.bare,I.base,I.loc,I.cell,I.free,I.fh,I.pin,I.hok,I.len⟩
theorem SP.eW{D:Ends}{f:Flow}{s':Shared}(h:SP (X.gM E) pins D f s'):SP X pins D f s':=by
 cases f with
 |next=>obtain⟨σ',H',I,q⟩:=h;exact⟨σ',H',I.eW,q⟩
 |brk=>obtain⟨σ',H',I,q⟩:=h;exact⟨σ',H',I.eW,q⟩
 |cont=>obtain⟨σ',H',I,q⟩:=h;exact⟨σ',H',I.eW,q⟩
 |ret u=>obtain⟨v,σ',H',I,r,q⟩:=h;exact⟨v,σ',H',I.eW,r,q⟩
theorem PT.fO{e:Expr}{t:TT}(h:PT X.fO e t):PT X e t:=λpins s σ H Q I hw=>
 wpAny_mono (h pins s σ H Q (I.gM _) hw) (λ_ _ ⟨H',I',q⟩=>⟨H',I'.eW,q⟩) λ_ _ z=>False.elim z
theorem dH.fO{st:List Stmt}{t:TS}(h:dH X.fO st t):dH X st t:=λpins s σ H D I hw=>
 wpAny_mono (h pins s σ H D (I.gM _) hw) (λ_ _ q=>q.eW) λ_ _ z=>False.elim z
end
section
variable{X:Cx}{st:Stmt}{rest:List Stmt}{t u:TS}{e:Expr}{te:TE}{pos:Pos}
noncomputable def HL:TS:=λD σ H=>D.nx σ H
noncomputable def KG(t u:TS):TS:=λD σ H=>t { D with nx:=u D } σ H
theorem rZ:dH X [] HL:=λ_ _ σ H _ I h=>wpAny_execs_nil ⟨σ,H,I,h⟩
theorem gq(h1:PS X st t)(h2:dH X rest u):dH X (st :: rest) (KG t u):=by
 intro pins s σ H D I h;refine wpAny_execs_cons (bB (h1 pins s σ H { D with nx:=u D } I h) λf s1 q=>?_);cases f with
 |next=>
  obtain⟨σ',H',I',q⟩:=q;exact h2 pins s1 σ' H' D I' q
 |ret v=>exact q
 |brk=>exact q
 |cont=>exact q
theorem r8(h1:PS X st t):dH X [st] t:=by
 intro pins s σ H D I h;refine wpAny_execs_cons (bB (h1 pins s σ H D I h) λf s1 q=>?_);cases f with
 |next=>exact wpAny_execs_nil q
 |ret v=>exact q
 |brk=>exact q
 |cont=>exact q
theorem Inv.quiet{pins:List (Addr×Obj)}{σ:St}{H:Hp}{s:Shared}(I:Inv X pins σ H s):interactive X.env=false:=by simp[interactive,I.ok.kind]
noncomputable def HM(te:TE):TS:=λD σ H=>te σ H λ_ H1=>D.nx σ H1
theorem Bw(he:PE X e te)(hs:swapsWith e none pos.line X.env=pure false:=by rfl):PS X (.Expr e pos) (HM te):=by
 intro pins s σ H D I h;exact wpAny_Expr_any (bB (he pins s σ H _ I h) λv s1 ⟨x,H1,I1,r1,q1⟩=>⟨σ,H1,I1,q1⟩) I.quiet hs
noncomputable def KH(te:TE):TS:=λD σ H=>te σ H D.rt
theorem vq(he:PE X e te):PS X (.Return (some e) pos) (KH te):=by
 intro pins s σ H D I h;exact wpAny_Return_some (bB (he pins s σ H _ I h) λv s1 ⟨x,H1,I1,r1,q1⟩=>⟨x,σ,H1,I1,r1,q1⟩)
noncomputable def KI(c:TT)(t u:TS):TS:=λD σ H=>c σ H λb H1=>if b=true then t D σ H1 else u D σ H1
theorem t7{c:Expr}{a b:List Stmt}{tc:TT}(hc:PT X c tc)(ha:dH X a t)(hb:dH X b u):PS X (.If c a b pos) (KI tc t u):=by
 intro pins s σ H D I h;refine wpAny_If (bB (hc pins s σ H _ I h) λd s1 ⟨H1,I1,q1⟩=>?_);cases d with
 |true=>exact ha pins s1 σ H1 D I1 q1
 |false=>exact hb pins s1 σ H1 D I1 q1
noncomputable def vt:TS:=λ_ _ _=>False
theorem yc:PS X st vt:=λ_ _ _ _ _ _ h=>h.elim
theorem vv{sts:List Stmt}:dH X sts vt:=λ_ _ _ _ _ _ h=>h.elim
end
abbrev TG:=V->St->Hp->(St->Hp->Prop)->Prop
abbrev oE:=List V->St->Hp->(St->Hp->Prop)->Prop
noncomputable def PG(X:Cx)(target:Expr)(t:TG):Prop:=
 ∀(pins:List (Addr×Obj)) (s:Shared) (σ:St) (H:Hp) (v:V) (u:Value) (Q:St->Hp->Prop),Inv X pins σ H s->RelV v u->t v σ H Q->
  wpAny (model X.prog X.w) X.A (assign target X.env u) (λ_ s'=>∃σ' H',Inv X pins σ' H' s'/\Q σ' H') X.xe s
noncomputable def kU(X:Cx)(ts:List Expr)(t:oE):Prop:=
 ∀(pins:List (Addr×Obj)) (s:Shared) (σ:St) (H:Hp) (vs:List V) (us:List Value) (Q:St->Hp->Prop),Inv X pins σ H s->Vals vs us->t vs σ H Q->
  wpAny (model X.prog X.w) X.A (assignInOrder ((assignEach ts X.env).map (·.2)) us) (λ_ s'=>∃σ' H',Inv X pins σ' H' s'/\Q σ' H') X.xe s
section
variable{X:Cx}{pos:Pos}
noncomputable def Ao(i:Nat):TG:=λv σ H Q=>Q (σ.set i (some v)) H
theorem sd{i:Nat}{x:Str}(hN:X.N.Nodup)(hi:X.N[i]?=some x)(hx:Loc X.env.scope x)(hf:X.fn x=true\/X.env.scope.names.lookup x=some .local:=by first|exact .inl rfl|exact .inr rfl|assumption):PG X (.Name x pos) (Ao i):=by
 intro pins s σ H v u Q I r h;exact wpAny_assign_Name (lH I hN hi hx r (λs' I'=>⟨_,H,I',h⟩) hf)
noncomputable def KJ:oE:=λvs σ H Q=>vs=[]/\Q σ H
noncomputable def HN(t:TG)(u:oE):oE:=λvs σ H Q=>∃v r,vs=v :: r/\t v σ H λσ' H'=>u r σ' H' Q
theorem Bx:kU X [] KJ:=by
 intro pins s σ H vs us Q I r h;obtain⟨e,h⟩:=h;subst e;cases r;exact assignInOrder_nil ⟨σ,H,I,h⟩
theorem yd{e:Expr}{es:List Expr}{t:TG}{u:oE}(h1:PG X e t)(h2:kU X es u)
  (hs:(assignEach (e :: es) X.env).map (·.2)=assign e X.env :: (assignEach es X.env).map (·.2):=by rfl):kU X (e :: es) (HN t u):=by
 intro pins s σ H vs us Q I r h;obtain⟨v,vr,e1,h⟩:=h;subst e1;cases r with
 |cons r rr=>
  rw[hs];refine assignInOrder_cons (bB (h1 pins s σ H _ _ _ I r h) λ_ s1 ⟨σ1,H1,I1,q1⟩=>?_);exact h2 pins s1 σ1 H1 _ _ Q I1 rr q1
noncomputable def KL(K:PySem.W.Frag)(n:Nat)(t:oE):TG:=λv σ H Q=>∃a xs,v=.ref a/\cH K H a xs/\xs.length=n/\t xs σ H Q
theorem DL{es:List Expr}{k:Nat}{t:oE}{n:Nat}(hc:X.calm=true)(h:kU X es t)
  (hn:(assignEach es X.env).length=n:=by rfl) (hst:(assignEach es X.env).findIdx? (·.1)=none:=by rfl):PG X (.Tuple es k pos) (KL X.K n t):=by
 intro pins s σ H v u Q I r hw;obtain⟨a,xs,e1,hq,hl,hw⟩:=hw;subst e1;cases r;obtain⟨its,rv,ht,hz⟩:=I.tuple hq;refine assign_Tuple_tuple (I.ok.hd hc) ht (by simp[hn,<-hl,rv.length]) hst λh' hx=>?_;have I1:Inv X pins σ H { s with heap:=h' }:=I.kept (t':=s.toks) λb o e=>hx b o (Nat.ne_of_lt (Heap.lt_size e)) e;exact h pins _ σ H xs _ Q I1 (by simpa using rv) hw
noncomputable def KN(te:TE)(g:TG):TS:=λD σ H=>te σ H λx H1=>g x σ H1 D.nx
theorem qb{i:Nat}{x:Str}{e:Expr}{te:TE}{pos':Pos}(hN:X.N.Nodup)(hi:X.N[i]?=some x)(hx:Loc X.env.scope x)(he:PE X e te)(hs:swapsWith e (some (.Name x pos')) pos.line X.env=pure false:=by rfl)(hf:X.fn x=true\/X.env.scope.names.lookup x=some .local:=by first|exact .inl rfl|exact .inr rfl|assumption) :
  PS X (.Assign [.Name x pos'] e pos) (KN te (Ao i)):=by
 intro pins s σ H D I h;refine wpAny_Assign_Name (bB (he pins s σ H _ I h) λv s1 ⟨y,H1,I1,r1,q1⟩=>?_) hs;exact lH I1 hN hi hx r1 (λs2 I2=>⟨_,H1,I2,q1⟩) hf
end
section
variable{X:Cx}{pos:Pos}
end
structure It where
 go:Nat->Hp->Prop
 Aq:Nat->Hp->V->Hp->Prop
 stop:Nat->Hp->Prop
noncomputable def fP(X:Cx)(pins:List (Addr×Obj))(H:Hp)(b:Addr):Prop:=
 H b=none/\b≠X.env.locals/\b∉X.fs/\(b∈X.ex\/X.s₀.heap.objs.size<=b)/\(∀x c,X.env.cells.lookup x=some c->c≠b)/\∀p∈X.pn++pins,p.1≠b
theorem Inv.ye{X:Cx}{pins:List (Addr×Obj)}{σ:St}{H H':Hp}{s:Shared}{b:Addr}(I:Inv X pins σ H s)(hb:s.heap.objs.size<=b)(hn:H' b=none):fP X pins H' b:=by
 refine⟨hn,Nat.ne_of_gt (Nat.lt_of_lt_of_le I.lt hb),I.Kw hb,.inr (Nat.le_trans I.sz hb),λx c e z=>?_,λp hp z=>?_⟩
 .obtain⟨v,q⟩:=I.cell x c e;exact absurd (Nat.lt_of_lt_of_le q.lt (by rw[z];exact hb)) (Nat.lt_irrefl _)
 .exact absurd (Nat.lt_of_lt_of_le (Heap.lt_size (I.pin p hp).1) (by rw[z];exact hb)) (Nat.lt_irrefl _)
structure Turn(P:Program)(w:World)(K:PySem.W.Frag)(tg:Expr)(J:It)(fp:List Addr)(it:Addr)(tn:Nat->Heap->Prop):Prop where
 mem:it∈fp
 obj:∀i h,tn i h->∀b∈fp,∃o,h.get? b=some o/\∀v,o.data≠.cell v
 keep:∀i h h',tn i h->(∀b∈fp,∀o,h.get? b=some o->h'.get? b=some o)->tn i h'
 item:∀(X:Cx),X.prog=P->X.w=w->X.K=K->X.calm=true->∀(i:Nat) (pins:List (Addr×Obj)) (s:Shared) (σ:St) (H:Hp) (E:Value->Shared->Prop),Inv X pins σ H s->(∀b∈fp,fP X pins H b)->tn i s.heap->J.go i H->
  wpAny (model P w) X.A (pyNext (.ref it)) (λr s1=>∃u,r=some u/\
   wpAny (model P w) X.A (letOwnedTupleGo tg (.ref it) u) (λ_ s2=>∃x H',Inv X pins σ H' s2/\RelV x u/\J.Aq i H x H'/\tn (i+1) s2.heap/\∀b∈fp,H' b=none) E s1) E s
 done:∀(X:Cx),X.prog=P->X.w=w->X.K=K->X.calm=true->∀(i:Nat) (pins:List (Addr×Obj)) (s:Shared) (σ:St) (H:Hp) (E:Value->Shared->Prop),Inv X pins σ H s->(∀b∈fp,fP X pins H b)->tn i s.heap->J.stop i H->
  wpAny (model P w) X.A (pyNext (.ref it)) (λr s1=>r=none/\Inv X pins σ H s1) E s
 self:∀(A:Around) (i:Nat) (s:Shared) (Q:Value->Shared->Prop) (E:Value->Shared->Prop),tn i s.heap->Q (.ref it) s->wpAny (model P w) A (pyIter (.ref it)) Q E s
abbrev TI:=St->Hp->(It->Hp->Prop)->Prop
noncomputable def JK(X:Cx)(pins:List (Addr×Obj))(σ:St)(tg:Expr)(R:It->Hp->Prop)(itv:Value)(s2:Shared):Prop:=
 ∃(it:Addr) (fp:List Addr) (tn:Nat->Heap->Prop) (J:It) (H':Hp),itv=.ref it/\Inv X pins σ H' s2/\Turn X.prog X.w X.K tg J fp it tn/\tn 0 s2.heap/\(∀b∈fp,fP X pins H' b)/\R J H'
noncomputable def PI(X:Cx)(tg iter:Expr)(wi:TI):Prop:=
 ∀(pins:List (Addr×Obj)) (s:Shared) (σ:St) (H:Hp) (R:It->Hp->Prop),Inv X pins σ H s->wi σ H R->
  wpAny (model X.prog X.w) X.A (eval iter X.env) (λv s1=>wpAny (model X.prog X.w) X.A (pyIter v) (JK X pins σ tg R) X.xe s1) X.xe s
theorem t8{M:Model}{A:Around}{E:Value->Shared->Prop}{s:Shared}{tg:Expr}{it:Addr}{u:Value}{o:Obj}{n:String}{vs:Array Value}{Q:Unit->Shared->Prop}(ho:s.heap.get? it=some o)(hc:o.cls=.type n)(hd:o.data=.fields vs)
    (hn:["enumerate","zip","dict_itemiterator","dict_reverseitemiterator","odict_iterator","itertools.zip_longest","itertools.pairwise"].contains n=false) (hQ:Q () s):wpAny M A (letOwnedTupleGo tg (.ref it) u) Q E s:=by
  unfold letOwnedTupleGo;cases tg<;>first
    |exact wpAny_pure hQ
    | (cases u<;>first
        |exact wpAny_pure hQ
        | (refine wpAny_bind (wpAny_load ho ?_)
           rw[hc,hd];show wpAny M A (if (["enumerate","zip","dict_itemiterator","dict_reverseitemiterator","odict_iterator","itertools.zip_longest","itertools.pairwise"].contains n&&vs[0]?==some (rawInt _))=true then _ else _) Q E s;rw[if_neg (by intro h;rw[hn,Bool.false_and]at h;cases h)];exact wpAny_pure hQ))
noncomputable def JL(K:PySem.W.Frag)(a:Addr):It:=
 ⟨λi H=>∃xs x,dI K H a xs/\xs[i]?=some x,λi H x H'=>H'=H/\∀xs,dI K H a xs->xs[i]?=some x,λi H=>∃xs,dI K H a xs/\xs.length<=i⟩
noncomputable def JM(K:PySem.W.Frag)(a:Addr):It:=
 ⟨λi H=>∃xs x,cH K H a xs/\xs[i]?=some x,λi H x H'=>H'=H/\∀xs,cH K H a xs->xs[i]?=some x,λi H=>∃xs,cH K H a xs/\xs.length<=i⟩
noncomputable def Ar(lo:Int)(n:Nat):It:=⟨λi _=>i<n,λi H x H'=>H'=H/\x=.int (lo+i),λi _=>n<=i⟩
theorem vz{P:Program}{w:World}{K:PySem.W.Frag}{tg:Expr}(a it:Addr):Turn P w K tg (JL K a) [it] it (λi h=>h.IsListIter it a i) where
 mem:=by simp
 obj:=λi h st b hb=>by
  have e:b=it:=by simpa using hb
  subst e;obtain⟨o,e,c,d⟩:=st;exact⟨o,e,λv z=>by rw[d]at z;cases z⟩
 keep:=λi h h' st k=>st.at λo e=>k it (by simp) o e
 item:=by
  intro X hP hw hK hc i pins s σ H E I hf st hg;subst hP hw hK;obtain⟨xs,x,hq,hx⟩:=hg;obtain⟨its,rv,p,hz⟩:=I.list hq;obtain⟨u,hu,ru⟩:=rv.get hx;obtain⟨f0,f1,f2,f3,f4,f5⟩:=hf it (by simp);refine wpAny_pyNext_list_item st p.isList (x:=u) (by simpa using hu) λh' st' sb=>?_;have I1:Inv X pins σ H { s with heap:=h' }:=I.turned (t':=s.toks) (λb o hb e=>(sb.2 b hb).trans e) f0 f1 f3 f4 f5;obtain⟨o,e,c,d⟩:=id st';exact⟨u,rfl,t8 (s:={ s with heap:=h' }) e c d (by decide) ⟨x,H,I1,ru,⟨rfl,λys hy=>by rw[I.x9 hy hq];exact hx⟩,st',λb hb=>(hf b hb).1⟩⟩
 done:=by
  intro X hP hw hK hc i pins s σ H E I hf st hg;subst hP hw hK;obtain⟨xs,hq,hx⟩:=hg;obtain⟨its,rv,p,hz⟩:=I.list hq;obtain⟨f0,f1,f2,f3,f4,f5⟩:=hf it (by simp);have hl:=rv.length;exact wpAny_pyNext_list_end (I.ok.hd hc) st p.isList (by simp;omega) λh' eb=>⟨rfl,I.turned (t':=s.toks) (λb o hb e=>eb b o hb e) f0 f1 f3 f4 f5⟩
 self:=λ_ _ _ _ _ st h=>wpAny_pyIter_listiter st h
theorem t9{P:Program}{w:World}{K:PySem.W.Frag}{tg:Expr}(a it:Addr):Turn P w K tg (JM K a) [it] it (λi h=>h.IsTupleIter it a i) where
 mem:=by simp
 obj:=λi h st b hb=>by
  have e:b=it:=by simpa using hb
  subst e;obtain⟨o,e,c,d⟩:=st;exact⟨o,e,λv z=>by rw[d]at z;cases z⟩
 keep:=λi h h' st k=>st.at λo e=>k it (by simp) o e
 item:=by
  intro X hP hw hK hc i pins s σ H E I hf st hg;subst hP hw hK;obtain⟨xs,x,hq,hx⟩:=hg;obtain⟨its,rv,p,hz⟩:=I.tuple hq;obtain⟨u,hu,ru⟩:=rv.get hx;obtain⟨f0,f1,f2,f3,f4,f5⟩:=hf it (by simp);refine wpAny_pyNext_tuple_item st (show s.heap.IsTuple a its.toArray from p) (x:=u) (by simpa using hu) λh' st' sb=>?_;have I1:Inv X pins σ H { s with heap:=h' }:=I.turned (t':=s.toks) (λb o hb e=>(sb.2 b hb).trans e) f0 f1 f3 f4 f5;obtain⟨o,e,c,d⟩:=id st';exact⟨u,rfl,t8 (s:={ s with heap:=h' }) e c d (by decide) ⟨x,H,I1,ru,⟨rfl,λys hy=>by rw[I.jN hy hq];exact hx⟩,st',λb hb=>(hf b hb).1⟩⟩
 done:=by
  intro X hP hw hK hc i pins s σ H E I hf st hg;subst hP hw hK;obtain⟨xs,hq,hx⟩:=hg;obtain⟨its,rv,p,hz⟩:=I.tuple hq;obtain⟨f0,f1,f2,f3,f4,f5⟩:=hf it (by simp);have hl:=rv.length;exact wpAny_pyNext_tuple_end (I.ok.hd hc) st (show s.heap.IsTuple a its.toArray from p) (by simp;omega) λh' eb=>⟨rfl,I.turned (t':=s.toks) (λb o hb e=>eb b o hb e) f0 f1 f3 f4 f5⟩
 self:=λ_ _ _ _ _ st h=>wpAny_pyIter_tupleiter st h
theorem ua{P:Program}{w:World}{K:PySem.W.Frag}{tg:Expr}(it:Addr)(lo:Int)(n:Nat):Turn P w K tg (Ar lo n) [it] it (λi h=>IsRangeIter h it (lo+(i:Nat)*1) ((n:Int) - (i:Nat)) 1) where
 mem:=by simp
 obj:=λi h st b hb=>by
  have e:b=it:=by simpa using hb
  subst e;exact⟨_,st,λv z=>by
   have z':Data.fields _=Data.cell v:=z;cases z'⟩
 keep:=λi h h' st k=>k it (by simp) _ st
 item:=by
  intro X hP hw hK hc i pins s σ H E I hf st hg;subst hP hw hK;obtain⟨f0,f1,f2,f3,f4,f5⟩:=hf it (by simp);have W:=Walks.range (prog:=X.prog) (w:=X.w) (I.ok.hd hc) it lo 1 n;refine W.item i s _ _ hg st λv h' tk hv st' kk=>?_;obtain⟨t,rfl⟩:=hv;have I1:Inv X pins σ H { s with heap:=h',toks:=tk }:=I.turned (λb o hb e=>kk b o (by simpa using hb) e) f0 f1 f3 f4 f5;refine⟨_,rfl,t8 (s:={ s with heap:=h',toks:=tk }) (n:="range_iterator") st' rfl rfl (by decide) ⟨.int (lo+i),H,I1,⟨t,?_⟩,⟨rfl,rfl⟩,st',λb hb=>(hf b hb).1⟩⟩;rw[Int.mul_one]
 done:=by
  intro X hP hw hK hc i pins s σ H E I hf st hg;subst hP hw hK;obtain⟨f0,f1,f2,f3,f4,f5⟩:=hf it (by simp);exact wpAny_pyNext_range_end (I.ok.hd hc) st (by have:n<=i:=hg;omega) λh' eb=>⟨rfl,I.turned (t':=s.toks) (λb o hb e=>eb b o hb e) f0 f1 f3 f4 f5⟩
 self:=λ_ _ _ _ _ st h=>wpAny_pyIter_rangeiter st h
end L2
namespace L2
open PySem PySem.Spec PyProof.Rows
section
variable{X:Cx}{tg:Expr}
theorem yf{pins:List (Addr×Obj)}{σ:St}{H:Hp}{s:Shared}{R:It->Hp->Prop}{E:Value->Shared->Prop}{lo hi:Int}{t u v:Tok}{tk:Nat}(I:Inv X pins σ H s)(h1:-(2 ^ 62)<=lo)(h2:lo<2 ^ 62)(h3:-(2 ^ 62)<=hi)(h4:hi<2 ^ 62)
  (q:R (Ar lo (hi - lo).toNat) H):wpAny (model X.prog X.w) X.A (pyIter (.ref s.heap.objs.size)) (JK X pins σ tg R) E { s with heap:=s.heap.push { cls:=.type "range",data:=.fields #[.int lo t,.int hi u,.int 1 v]},toks:=tk }:=by
 refine wpAny_pyIter_range (IsRange.new ..) (small_one h1 h2 h3 h4) ?_;have I1:Inv X pins σ H { s with heap:=s.heap.push { cls:=.type "range",data:=.fields #[.int lo t,.int hi u,.int 1 v]},toks:=tk }:=I.kept λb o e=>Heap.get?_push_of_some _ e;refine⟨(s.heap.push { cls:=.type "range",data:=.fields #[.int lo t,.int hi u,.int 1 v]}).objs.size,[(s.heap.push { cls:=.type "range",data:=.fields #[.int lo t,.int hi u,.int 1 v]}).objs.size],_,_,H,rfl,
  I1.kept (t':=tk) λb o e=>Heap.get?_push_of_some _ e,ua _ lo (hi - lo).toNat,?_,λb hb=>?_,q⟩
 .have e1:lo+((0:Nat):Int)*1=lo:=by simp
  have e2:(((hi - lo).toNat:Nat):Int) - ((0:Nat):Int)=Builtin.Range.rangeSize lo hi 1:=by rw[rangeSize_one];split<;>omega
  show IsRangeIter _ _ (lo+((0:Nat):Int)*1) ((((hi - lo).toNat:Nat):Int) - ((0:Nat):Int)) 1;rw[e1,e2];exact Heap.get?_push_size _ rfl
 .have e:b=(s.heap.push { cls:=.type "range",data:=.fields #[.int lo t,.int hi u,.int 1 v]}).objs.size:=by simpa using hb
  subst e;exact I1.ye (Nat.le_refl _) (I1.hok.fresh (Nat.le_refl _))
noncomputable def HQ(ta:TA):TI:=λσ H R=>ta σ H λvs H1=>∃j:Int,vs=[.int j]/\-(2 ^ 62)<=j/\j<2 ^ 62/\R (Ar 0 j.toNat) H1
theorem vA {a:Expr}{ta:TA}{p pos:Pos}(hg:Gl X "range") (hm:X.mg "range" = none) (ha:PA X [a] ta) (hs:starEach [a] X.env=[(false,eval a X.env)]:=by rfl):PI X tg (.Call (.Name "range" p) [a] [] pos) (HQ ta):=by
 intro pins s σ H R I h;refine Call_ (mz I hg hm boot_range (PyProof.Rows.callWith_type1 (bB (ha pos pins s σ H _ I h) λus s1 ⟨vs,H1,I1,r1,q1⟩=>?_) hs rfl));obtain⟨j,e,q1,q2,q⟩:=q1;subst e;cases r1 with
 |cons r rr=>
  cases rr;obtain⟨t,rfl⟩:=r;exact call_range_1 (yf I1 (by omega) (by omega) q1 q2 (by simpa using q))
noncomputable def KO(wi:TI)(g:TG)(tb:TS):TS:=λD σ H=>wi σ H λJ H1=>∃W:Nat->Nat->St->Hp->Prop,(∃m,W 0 m σ H1)/\∀i m σ H,W i m σ H->
 (J.stop i H/\D.nx σ H)\/(J.go i H/\∃N:St->Hp->Prop,(∀σ' H',N σ' H'->∃m',m'<m/\W (i+1) m' σ' H')/\∀x H',J.Aq i H x H'->g x σ H' λσ2 H2=>tb { D with nx:=N,ct:=N,bk:=D.nx } σ2 H2)
noncomputable def jO(fp:List Addr)(h:Heap):List (Addr×Obj):=fp.filterMap λb=>(h.get? b).map λo=>(b,o)
theorem gZ{fp:List Addr}{h:Heap}{b:Addr}{o:Obj}(hb:b∈fp)(e:h.get? b=some o):(b,o)∈jO fp h:=List.mem_filterMap.mpr ⟨b,hb,by rw[e];rfl⟩
theorem vC{fp:List Addr}{h:Heap}{p:Addr×Obj}(hp:p∈jO fp h):p.1∈fp/\h.get? p.1=some p.2:=by
 obtain⟨b,hb,e⟩:=List.mem_filterMap.mp hp;cases q:h.get? b with
 |none=>rw[q]at e;cases e
 |some o=>
  rw[q]at e;have e':(b,o)=p:=Option.some.inj e;subst e';exact⟨hb,q⟩
theorem Inv.pinned{pins:List (Addr×Obj)}{σ:St}{H:Hp}{s:Shared}{fp:List Addr}(I:Inv X pins σ H s)(hf:∀b∈fp,fP X pins H b)(ho:∀b∈fp,∃o,s.heap.get? b=some o/\∀v,o.data≠.cell v):Inv X (pins++jO fp s.heap) σ H s:=
 I.rX λp hp=>(List.mem_append.mp hp).elim (λz=>I.pin p (List.mem_append_right _ z)) λz=>by
  obtain⟨hb,e⟩:=vC z;obtain⟨f0,f1,f2,_⟩:=hf p.1 hb;obtain⟨o,e',d⟩:=ho p.1 hb;rw[e]at e';cases e';exact⟨e,f0,f1,f2,d⟩
theorem Inv.jn{pins pl:List (Addr×Obj)}{σ:St}{H:Hp}{s:Shared}(I:Inv X (pins++pl) σ H s):Inv X pins σ H s:=I.rX λp hp=>I.pin p (List.mem_append_right _ (List.mem_append_left _ hp))
theorem DM{iter:Expr}{body:List Stmt}{wi:TI}{g:TG}{tb:TS}{pos:Pos}(hp:PassesOwn (model X.prog X.w) X.A X.env X.xe)(hc:X.calm=true)(hi:PI X tg iter wi)(hg:PG X tg g)(hb:dH X body tb)
  (hs:∀x,foldedSetIterable iter X.env x=pure x:=by intro _;rfl):PS X (.For tg iter body [] pos) (KO wi g tb):=by
 intro pins s σ H D I h;refine wpAny_For (bB (hi pins s σ H _ I h) λv s1 h1=>bB h1 λitv s2 h2=>?_) hs;obtain⟨it,fp,tn,J,H2,e,I2,T,st2,f2,W,⟨m0,w0⟩,turn⟩:=h2;subst e;have jq:∀{H':Hp},(∀b∈fp,H' b=none)->∀b∈fp,fP X pins H' b:=λhn b hb=>⟨hn b hb,(f2 b hb).2⟩
 refine codeAny_forLoop_any (λn s'=>∃i σ' H',Inv X pins σ' H' s'/\tn i s'.heap/\(∀b∈fp,H' b=none)/\W i n σ' H') ?_ m0 ⟨0,σ,H2,I2,st2,λb hb=>(f2 b hb).1,w0⟩;rintro n s3 ⟨i,σ3,H3,I3,st3,bw,w3⟩;rcases turn i n σ3 H3 w3 with ⟨stop,qn⟩|⟨go,N,hN,step⟩
 .refine wpAny_passesOwn hp (bB (T.done X rfl rfl rfl hc i pins s3 σ3 H3 X.xe I3 (jq bw) st3 stop) λr s4 ⟨hr,I4⟩=>?_);subst hr;exact wpAny_execs_nil ⟨σ3,H3,I4,qn⟩
 .refine wpAny_passesOwn hp (bB (T.item X rfl rfl rfl hc i pins s3 σ3 H3 X.xe I3 (jq bw) st3 go) λr s4 ⟨u,hr,h4⟩=>?_);subst hr;refine wpAny_passesOwn hp (bB h4 λ_ s5 ⟨x,H5,I5,r5,y5,sf,oF⟩=>?_);have Mu:=I5.pinned (jq oF) (T.obj _ _ sf);refine wpAny_passesOwn hp (bB (hg _ s5 σ3 H5 x u _ Mu r5 (step x H5 y5)) λ_ s6 ⟨Mv,H6,I6,q6⟩=>?_);refine wpAny_passesOwn hp (bB (hb _ s6 Mv H6 _ I6 q6) λf s7 q7=>?_);have again:∀{jP:St} {H7:Hp},Inv X (pins++jO fp s5.heap) jP H7 s7->N jP H7->∃m,m<n/\∃i σ' H',Inv X pins σ' H' s7/\tn i s7.heap/\(∀b∈fp,H' b=none)/\W i m σ' H':=λ{jP H7} I7 n7=>by
   obtain⟨m',hm,w7⟩:=hN jP H7 n7;refine⟨m',hm,i+1,jP,H7,I7.jn,T.keep _ _ _ sf λb hb o e=>(I7.pin (b,o) (List.mem_append_right _ (List.mem_append_right _ (gZ hb e)))).1,λb hb=>?_,w7⟩;obtain⟨o,e,d⟩:=T.obj _ _ sf b hb;exact(I7.pin (b,o) (List.mem_append_right _ (List.mem_append_right _ (gZ hb e)))).2.1
  cases f with
  |next=>obtain⟨jP,H7,I7,n7⟩:=q7;exact again I7 n7
  |cont=>obtain⟨jP,H7,I7,n7⟩:=q7;exact again I7 n7
  |brk=>obtain⟨jP,H7,I7,q7⟩:=q7;exact⟨jP,H7,I7.jn,q7⟩
  |ret v=>obtain⟨x7,jP,H7,I7,r7,q7⟩:=q7;exact⟨x7,jP,H7,I7.jn,r7,q7⟩
end
end L2
namespace L2
open PySem PySem.Spec PyProof.Rows
abbrev R2:=V->V->Hp->VK->Prop
noncomputable def cI(X:Cx)(f:Value->Value->Sem Value)(r:R2):Prop:=
 ∀(pins:List (Addr×Obj)) (s:Shared) (σ:St) (H:Hp) (x y:V) (v u:Value) (Q:VK),Inv X pins σ H s->RelV x v->RelV y u->r x y H Q->
  wpAny (model X.prog X.w) X.A (f v u) (EP X pins σ Q) X.xe s
noncomputable def gD(X:Cx)(f:Value)(r:List V->Hp->VK->Prop):Prop:=
 ∀(pins:List (Addr×Obj)) (s:Shared) (σ:St) (H:Hp) (xs:List V) (us:List Value) (Q:VK),Inv X pins σ H s->Vals xs us->r xs H Q->
  wpAny (model X.prog X.w) X.A (call f us) (EP X pins σ Q) X.xe s
noncomputable def KP(X:Cx)(r:V->Hp->(Bool->Hp->Prop)->Prop):Prop:=
 ∀(pins:List (Addr×Obj)) (s:Shared) (σ:St) (H:Hp) (x:V) (v:Value) (Q:Bool->Hp->Prop),Inv X pins σ H s->RelV x v->r x H Q->
  wpAny (model X.prog X.w) X.A (truthy v) (TP X pins σ Q) X.xe s
noncomputable def vD(r:R2)(ta tb:TE):TE:=λσ H Q=>ta σ H λx H1=>tb σ H1 λy H2=>r x y H2 Q
noncomputable def rI(C:Int->Int->Prop)(g:Int->Int->V):R2:=λx y H Q=>∃i j,x=.int i/\y=.int j/\C i j/\Q (g i j) H
noncomputable def sj(g:Int->Int->V):R2:=λx y H Q=>∃i j,x=.int i/\y=.int j/\Q (g i j) H
section
variable{X:Cx}{a b c:Expr}{ta tb tc:TE}{pos:Pos}
theorem yg(ha:PE X a ta)(hb:PE X b tb){pins:List (Addr×Obj)}{s:Shared}{σ:St}{H:Hp}{R:V->V->Hp->Prop}(I:Inv X pins σ H s)
  (h:ta σ H λx H1=>tb σ H1 λy H2=>R x y H2) {Q:Value->Shared->Prop} {f:Value->Value->Sem Value}
  (hf:∀v u s2 x y H2,Inv X pins σ H2 s2->RelV x v->RelV y u->R x y H2->wpAny (model X.prog X.w) X.A (f v u) Q X.xe s2) :
  wpAny (model X.prog X.w) X.A (eval a X.env) (λv s₁=>wpAny (model X.prog X.w) X.A (eval b X.env) (λu s₂=>wpAny (model X.prog X.w) X.A (f v u) Q X.xe s₂) X.xe s₁) X.xe s:=by
 refine bB (ha pins s σ H _ I h) λv s1 ⟨x,H1,I1,r1,q1⟩=>?_;refine bB (hb pins s1 σ H1 _ I1 q1) λu s2 ⟨y,H2,I2,r2,q2⟩=>?_;exact hf v u s2 x y H2 I2 r1 r2 q2
theorem As{op:Operator}{r:R2}(ho:cI X (binaryOp op) r)(ha:PE X a ta)(hb:PE X b tb):PE X (.BinOp a op b pos) (vD r ta tb):=by
 intro pins s σ H Q I h;exact wpAny_BinOp (yg ha hb I h λv u s2 x y H2 I2 rx ry q=>ho pins s2 σ H2 x y v u Q I2 rx ry q)
theorem DN{f:Value->Value->Sem Value}{C:Int->Int->Prop}{g:Int->Int->Int}
  (rule:∀(i j:Int) (t u:Tok) (s:Shared) (Q:Value->Shared->Prop) (E:Value->Shared->Prop),C i j->Q (.int (g i j) s.toks) { s with toks:=s.toks+1 }->wpAny (model X.prog X.w) X.A (f (.int i t) (.int j u)) Q E s) :
  cI X f (rI C λi j=>.int (g i j)):=by
 intro pins s σ H x y v u Q I rx ry h;obtain⟨i,j,rfl,rfl,hc,q⟩:=h;obtain⟨t,rfl⟩:=rx;obtain⟨t',rfl⟩:=ry;exact rule i j t t' s _ _ hc ⟨.int (g i j),H,I.tok _,⟨_,rfl⟩,q⟩
theorem KQ{f:Value->Value->Sem Value}{g:Int->Int->Int}
  (rule:∀(i j:Int) (t u:Tok) (s:Shared) (Q:Value->Shared->Prop) (E:Value->Shared->Prop),Q (.int (g i j) s.toks) { s with toks:=s.toks+1 }->wpAny (model X.prog X.w) X.A (f (.int i t) (.int j u)) Q E s) :
  cI X f (sj λi j=>.int (g i j)):=by
 intro pins s σ H x y v u Q I rx ry h;obtain⟨i,j,rfl,rfl,q⟩:=h;obtain⟨t,rfl⟩:=rx;obtain⟨t',rfl⟩:=ry;exact rule i j t t' s _ _ ⟨.int (g i j),H,I.tok _,⟨_,rfl⟩,q⟩
theorem DO{f:Value->Value->Sem Value}{g:Int->Int->Bool}
  (rule:∀(i j:Int) (t u:Tok) (s:Shared) (Q:Value->Shared->Prop) (E:Value->Shared->Prop),Q (.bool (g i j)) s->wpAny (model X.prog X.w) X.A (f (.int i t) (.int j u)) Q E s) :
  cI X f (sj λi j=>.bl (g i j)):=by
 intro pins s σ H x y v u Q I rx ry h;obtain⟨i,j,rfl,rfl,q⟩:=h;obtain⟨t,rfl⟩:=rx;obtain⟨t',rfl⟩:=ry;exact rule i j t t' s _ _ ⟨.bl (g i j),H,I,rfl,q⟩
noncomputable def KR(i j:Int):Prop:=0<j/\j<1073741824
noncomputable def yh(i j:Int):Prop:=(-(2 ^ 64)<i/\i<2 ^ 64)\/(-(2 ^ 64)<j/\j<2 ^ 64)
theorem yh.ok{i j:Int}(h:yh i j):IntMulOk i j:=by
 rcases h with ⟨h1,h2⟩|⟨h1,h2⟩
 .exact .of_left (intBits_le_64 h1 h2)
 .exact .of_right (intBits_le_64 h1 h2)
theorem DP:cI X (binaryOp .Add) (sj λi j=>.int (i+j)):=KQ λ_ _ _ _ _ _ _ q=>add_int q
theorem DQ:cI X (binaryOp .Mult) (rI yh λi j=>.int (i*j)):=DN λ_ _ _ _ _ _ _ hc q=>mul_int q hc.ok
theorem By:cI X (binaryOp .FloorDiv) (rI KR λi j=>.int (i / j)):=DN λi j _ _ _ _ _ hc q=>by
 have h1:(0:Int)<j:=hc.1;have h2:j<1073741824:=hc.2;exact floordiv_int (by omega) (by rw[Int.fdiv_eq_ediv_of_nonneg i (by omega)];exact q) (.inl (PyProof.noPylong_small (by omega)))
theorem DR:cI X (binaryOp .Mod) (rI (λ_ j=>0<j) λi j=>.int (i % j)):=DN λi j _ _ _ _ _ hc q=>by
 have h1:(0:Int)<j:=hc;exact mod_int' (by omega) (by rw[Int.fmod_eq_emod_of_nonneg i (by omega)];exact q)
end
noncomputable def KS:V->V->Bool
 |.az,.az=>true|.az,.int _=>true|.int _,.az=>true|.az,.bl _=>true|.bl _,.az=>true|.az,.str _=>true|.str _,.az=>true
 |.int _,.int _=>true|.bl _,.bl _=>true|.str _,.str _=>true|.jK _,.jK _=>true
 |.int _,.str _=>true|.str _,.int _=>true|.bl _,.str _=>true|.str _,.bl _=>true
 |_,_=>false
noncomputable def Mw:R2:=λx y H Q=>KS x y=true/\Q (.bl (!decide (x=y))) H
theorem BA{i j:Int}:decide (V.int i=V.int j)=(i==j):=by
 rw[Bool.eq_iff_iff];simp
theorem DS{i j:Bool}:decide (V.bl i=V.bl j)=(i==j):=by
 rw[Bool.eq_iff_iff];simp
theorem BB{i j:Str}:decide (V.str i=V.str j)=(i==j):=by
 rw[Bool.eq_iff_iff];simp
theorem BC{i j:Array UInt8}:decide (V.jK i=V.jK j)=(i.toList==j.toList):=by
 rw[Bool.eq_iff_iff];cases i;cases j;simp
section
variable{X:Cx}{a b c:Expr}{ta tb tc:TE}{pos:Pos}
theorem cE{pins:List (Addr×Obj)}{σ:St}{H:Hp}{s:Shared}{Q:VK}{k k':Bool}(I:Inv X pins σ H s)(q:Q (.bl k) H)(e:k=k'):EP X pins σ Q (.bool k') s:=by
 subst e;exact⟨.bl k,H,I,rfl,q⟩
theorem HS:cI X (compareOp .NotEq) Mw:=by
 intro pins s σ H x y v u Q I rx ry h;obtain⟨hs,q⟩:=h;cases x with
 |az=>
  cases rx;cases y with
  |az=>cases ry;exact PySem.EqNone.ne_none_none (cE I q (by simp))
  |bl j=>cases ry;exact PySem.EqNone.ne_none_bool (cE I q (by simp))
  |int j=>obtain⟨t',rfl⟩:=ry;exact PySem.EqNone.ne_none_int (cE I q (by simp))
  |str j=>obtain⟨t',rfl⟩:=ry;exact PySem.EqNone.ne_none_str (cE I q (by simp))
  |_=>exact absurd (show false=true from hs) Bool.false_ne_true
 |bl i=>
  cases rx;cases y with
  |az=>cases ry;exact PySem.EqNone.ne_bool_none (cE I q (by simp))
  |bl j=>cases ry;exact ne_bool (cE I q (congrArg not DS))
  |str j=>obtain⟨t',rfl⟩:=ry;exact PySem.EqMixed.ne_bool_str (cE I q (by simp))
  |_=>exact absurd (show false=true from hs) Bool.false_ne_true
 |int i=>
  obtain⟨t,rfl⟩:=rx;cases y with
  |az=>cases ry;exact PySem.EqNone.ne_int_none (cE I q (by simp))
  |int j=>obtain⟨t',rfl⟩:=ry;exact ne_int (cE I q (congrArg not BA))
  |str j=>obtain⟨t',rfl⟩:=ry;exact PySem.EqMixed.ne_int_str (cE I q (by simp))
  |_=>exact absurd (show false=true from hs) Bool.false_ne_true
 |str i=>
  obtain⟨t,rfl⟩:=rx;cases y with
  |az=>cases ry;exact PySem.EqNone.ne_str_none (cE I q (by simp))
  |bl j=>cases ry;exact PySem.EqMixed.ne_str_bool (cE I q (by simp))
  |int j=>obtain⟨t',rfl⟩:=ry;exact PySem.EqMixed.ne_str_int (cE I q (by simp))
  |str j=>obtain⟨t',rfl⟩:=ry;exact ne_str (cE I q (congrArg not BB))
  |_=>exact absurd (show false=true from hs) Bool.false_ne_true
 |jK i=>
  obtain⟨t,rfl⟩:=rx;cases y with
  |jK j=>obtain⟨t',rfl⟩:=ry;exact PySem.W.ne_bytes (cE I q (congrArg not BC))
  |_=>exact absurd (show false=true from hs) Bool.false_ne_true
 |_=>cases y<;>exact absurd (show false=true from hs) Bool.false_ne_true
theorem HU:cI X (compareOp .Lt) (sj λi j=>.bl (decide (i<j))):=DO λ_ _ _ _ _ _ _ q=>lt_int q
theorem HV:cI X (compareOp .Gt) (sj λi j=>.bl (decide (j<i))):=DO λ_ _ _ _ _ _ _ q=>gt_int q
theorem DT:cI X (compareOp .Is) (λx y H Q=>y=.az/\Q (.bl (decide (x=.az))) H):=by
 intro pins s σ H x y v u Q I rx ry h;obtain⟨rfl,q⟩:=h;cases ry;refine is_none_gen (cE I q ?_);cases x<;>first
  | (cases rx;rfl)
  | (obtain⟨t,rfl⟩:=rx;rfl)
theorem BD:cI X (compareOp .IsNot) (λx y H Q=>y=.az/\Q (.bl (!decide (x=.az))) H):=by
 intro pins s σ H x y v u Q I rx ry h;obtain⟨rfl,q⟩:=h;cases ry;refine isnot_none_gen (cE I q ?_);cases x<;>first
  | (cases rx;rfl)
  | (obtain⟨t,rfl⟩:=rx;rfl)
theorem fQ(b:Expr){op:CmpOp}(h:op≠.In:=by decide)(h2:op≠.NotIn:=by decide):behindInMarks op b=false:=by
 have e1:(op==CmpOp.In)=false:=by cases op<;>first|rfl|exact absurd rfl h
 have e2:(op==CmpOp.NotIn)=false:=by cases op<;>first|rfl|exact absurd rfl h2
 cases b<;>simp[behindInMarks,e1,e2]
theorem BE{op:CmpOp}{r:R2}(ho:cI X (compareOp op) r)(ha:PE X a ta)(hb:PE X b tb)(hm:behindInMarks op b=false):PE X (.Compare a [op] [b] pos) (vD r ta tb):=by
 intro pins s σ H Q I h;exact wpAny_Compare1 (yg ha hb I h λv u s2 x y H2 I2 rx ry q=>ho pins s2 σ H2 x y v u Q I2 rx ry q) hm
noncomputable def HW(t:TE):TT:=λσ H Q=>t σ H λx H'=>∃k,x=.bl k/\Q k H'
theorem sq{op:CmpOp}{r:R2}(ho:cI X (compareOp op) r)(ha:PE X a ta)(hb:PE X b tb)(hm:behindInMarks op b=false):PT X (.Compare a [op] [b] pos) (HW (vD r ta tb)):=by
 intro pins s σ H Q I h;refine wpAny_isTrue_Compare1 (bB (ha pins s σ H _ I h) λv s1 ⟨x,H1,I1,r1,q1⟩=>bB (hb pins s1 σ H1 _ I1 q1) λu s2 ⟨y,H2,I2,r2,q2⟩=>
  bB (ho pins s2 σ H2 x y v u _ I2 r1 r2 q2) λc s3 ⟨z,H3,I3,r3,k,e,q3⟩=>?_) hm
 subst e;cases r3;exact wpAny_truthy_bool ⟨H3,I3,q3⟩
noncomputable def yi(K:PySem.W.Frag)(x:V)(H:Hp)(k:Bool):Prop:=
 match x with
 |.az=>k=false
 |.bl b=>k=b
 |.int i=>k=(i != 0)
 |.str y=>y.length<=sizeLine/\k=((y.length:Int) != 0)
 |.jK y=>y.size<=sizeLine/\k=((y.size:Int) != 0)
 |.ref p=>(∃xs,dI K H p xs/\k = !xs.isEmpty)\/(∃xs,cH K H p xs/\k = !xs.isEmpty)\/∃kvs,H p=some (.dK kvs)/\k = !kvs.isEmpty
 |_=>False
theorem uc{κ:Type}{kvs:List (κ×V)}{vs:List (κ×Value)}(r:KV kvs vs):(!vs.isEmpty) = !kvs.isEmpty:=by
 cases r<;>rfl
theorem mC{xs:List V}{its:List Value}(r:Vals xs its):(!its.toArray.isEmpty) = !xs.isEmpty:=by
 cases r<;>simp
theorem ja:(sizeLine:Nat)<2 ^ 63:=by rw[sizeLine_eq];decide
theorem DU:KP X (λx H Q=>∃k,yi X.K x H k/\Q k H):=by
 intro pins s σ H x v Q I rx h;obtain⟨k,e,q⟩:=h;have hl:=ja;have hs:sizeLine=16777216:=sizeLine_eq;cases x with
 |az=>
  cases rx;have e':k=false:=e;subst e';exact truthy_none ⟨H,I,q⟩
 |bl b=>
  cases rx;have e':k=b:=e;subst e';exact wpAny_truthy_bool ⟨H,I,q⟩
 |int i=>
  obtain⟨t,rfl⟩:=rx;have e':k=(i != 0):=e;subst e';exact PySem.P.truthy_int ⟨H,I,q⟩
 |str y=>
  obtain⟨t,rfl⟩:=rx;obtain⟨hy,e'⟩:y.length<=sizeLine/\k=((y.length:Int) != 0):=e;subst e';exact PySem.P.truthy_str (by omega) ⟨H,I.tok _,q⟩
 |jK y=>
  obtain⟨t,rfl⟩:=rx;obtain⟨hy,e'⟩:y.size<=sizeLine/\k=((y.size:Int) != 0):=e;subst e';exact PySem.W.truthy_bytes (by omega) ⟨H,I.tok _,q⟩
 |ref p=>
  cases rx;have e':(∃xs,dI X.K H p xs/\k = !xs.isEmpty)\/(∃xs,cH X.K H p xs/\k = !xs.isEmpty)\/∃kvs,H p=some (.dK kvs)/\k = !kvs.isEmpty:=e;rcases e' with ⟨xs,hx,e'⟩|⟨xs,hx,e'⟩|⟨kvs,hx,e'⟩
  .subst e';obtain⟨its,r,pl,hz⟩:=I.list hx;have hlen:=r.length;exact wpAny_truthy_list pl.isList (by simp only[List.size_toArray];omega) ⟨H,I.tok _,by rw[mC r];exact q⟩
  .subst e';obtain⟨its,r,pl,hz⟩:=I.tuple hx;have hlen:=r.length;exact truthy_tuple pl (by simp only[List.size_toArray];omega) ⟨H,I.tok _,by rw[mC r];exact q⟩
  .subst e';obtain⟨hz,hS,vs,r,m⟩:kvs.length<=sizeLine/\(p==sysModules)=false/\∃vs,KV kvs vs/\s.heap.DictOf (nB X.prog X.w) p vs:=I.hok p _ hx;have hlen:kvs.length=vs.length:=Paired.length r;exact wpAny_truthy_dict hS m (by omega) ⟨H,I.tok _,by rw[uc r];exact q⟩
 |_=>exact(show False from e).elim
theorem yj(ha:PE X a ta)(he:∀whole,isTrue a X.env whole=(do let v <-whole;standAt a.pos;holding [v] (truthy v))) :
  PT X a (λσ H Q=>ta σ H λx H'=>∃k,yi X.K x H' k/\Q k H'):=by
 intro pins s σ H Q I h;exact isTrue_plain (bB (ha pins s σ H _ I h) λv s1 ⟨x,H1,I1,r1,q1⟩=>DU pins s1 σ H1 x v Q I1 r1 q1) (he _)
theorem ud:cI X (binaryOp .Add) (λx y H Q=>∃i j,x=.str i/\y=.str j/\i.length+j.length<=sizeLine/\Q (.str (i++j)) H):=by
 intro pins s σ H x y v u Q I rx ry h;obtain⟨i,j,rfl,rfl,hz,q⟩:=h;obtain⟨t,rfl⟩:=rx;obtain⟨t',rfl⟩:=ry;exact add_str (λt' tk=>⟨.str (i++j),H,I.tok _,⟨_,rfl⟩,q⟩) hz
theorem vals1{x:V}{us:List Value}(r:Vals [x] us):∃u,us=[u]/\RelV x u:=by
 cases r with
 |cons r1 r2=>cases r2;exact⟨_,rfl,r1⟩
theorem vals2{x y:V}{us:List Value}(r:Vals [x,y] us):∃u w',us=[u,w']/\RelV x u/\RelV y w':=by
 cases r with
 |cons r1 r2=>
  cases r2 with
  |cons r3 r4=>cases r4;exact⟨_,_,rfl,r1,r3⟩
end
end L2
namespace L2
open PySem PySem.Spec PyProof.Rows
structure yk(h:Heap)(x dx C:Addr)(mA:Str->Option Value):Prop where
 obj:h.get? x=some (PySem.W.instObj C dx)
 ns:h.Ns1 dx mA
 ne:dx≠x
theorem vE{h:Heap}{dx:Addr}{mA:Str->Option Value}(n:h.Ns1 dx mA):∃od,h.get? dx=some od/\∀name,PySem.W.lookIn name od=some (mA name):=by
 obtain⟨o,es,ep,ho,hd,hk,_,hm⟩:=n;refine⟨o,ho,λname=>?_⟩;have e:=hm name;unfold nsFind findBy at e;rw[<-Array.find?_toList]at e;unfold PySem.W.lookIn;rw[hd];dsimp only;split
 .rename_i y q;rw[q]at e;exact congrArg some e
 .rename_i q;rw[q]at e;have a:es.toList.any (·.refKey)=false:=by
   rw[List.any_eq_false];intro y hy;obtain⟨z,t,hkey⟩:=hk y (Array.mem_toList_iff.mp hy);simp[DictEntry.refKey,hkey]
  have a':¬ es.toList.any (·.refKey)=true:=by rw[a];exact Bool.false_ne_true
  rw[if_neg a'];exact congrArg some e
theorem yk.look{h:Heap}{x dx C:Addr}{mA:Str->Option Value}(I:yk h x dx C mA):∃od,PySem.W.InstAt h x (PySem.W.instObj C dx) C (some od)/\∀name,PySem.W.lookIn name od=some (mA name):=
 let ⟨od,ho,hl⟩:=vE I.ns
 ⟨od,⟨I.obj,rfl,rfl,ho⟩,hl⟩
section
variable{prog:Program}{w:World}{A:Around}{E:Value->Shared->Prop}{s:Shared}{K:PySem.W.Frag}{x dx C f:Addr}{mA:Str->Option Value}{name:Str}{v:Value}
end
section
variable{P:Program}{w:World}{H H':Hp}{h h':Heap}{a C dx:Addr}{fs fs':List (Str×V)}
theorem BF(hok:cV P w H h)(e:H a=some (.ins C dx fs)):∃mA,yk h a dx C mA/\(∀f,xZ (fs.lookup f) (mA f))/\PySem.Within mA (fs.map (·.1))/\fs.length<=1000/\H dx=some (.own a):=by
 obtain⟨d,z,ne,ob,mA,n,r,q⟩:=(show cG P w H h a (.ins C dx fs)from hok a _ e)
 exact⟨mA,⟨ob,n,ne⟩,r,q,z,d⟩
end
structure DV(K:PySem.W.Frag)(C:Addr):Prop where
 pg:PySem.W.plainGet K C Str.empty=true
 hd:PySem.W.hasDictIn K C=true
 po:PySem.W.plainOver K C=true
 sa:PySem.W.findIn K (.ref C) "__setattr__" = some (some (.builtin "object.__setattr__"))
theorem DV.get{K:PySem.W.Frag}{C:Addr}(c:DV K C)(f:Str):PySem.W.plainGet K C f=true:=c.pg
structure Og(K:PySem.W.Frag)(C:Addr)(f:Str)(v:V)(u:Value):Prop where
 at_:PySem.W.findIn K (.ref C) f=some (some u)
 rel:RelV v u
 get:PySem.W.specialIn K u "__get__" = some none
 cp:PySem.W.copiedNames.contains f=false
structure Meth(K:PySem.W.Frag)(C:Addr)(m:Str)(f:Addr):Prop where
 at_:PySem.W.findIn K (.ref C) m=some (some (.ref f))
 fn:PySem.W.isFn K (.ref f)=true
 kp:PySem.W.keepIn K (.ref f)=true
section
variable{X:Cx}{pins:List (Addr×Obj)}{σ:St}{H:Hp}{s:Shared}{a C dx:Addr}{fs:List (Str×V)}{f:Str}{v:V}{A:Around}{E:Value->Shared->Prop}
end
section
variable{X:Cx}{o e value:Expr}{f:Str}{pos pos' tpos:Pos}{ta tv:TE}
end
section
variable{X:Cx}{pins:List (Addr×Obj)}{σ:St}{H:Hp}{s:Shared}{A:Around}{E:Value->Shared->Prop}{Q:Value->Shared->Prop}{c:Value}{b:Bool}
inductive gO(K:PySem.W.Frag)(H:Hp):V->Value->Prop where
 |az:gO K H .az (.type "NoneType")
 |bl (x:Bool):gO K H (.bl x) (.type "bool")
 |int (i:Int):gO K H (.int i) (.type "int")
 |str (x:Str):gO K H (.str x) (.type "str")
 |rV (x:UInt64):gO K H (.rV x) (.type "float")
 |lst {a:Addr} {xs:List V} (e:H a=some (.lst xs)):gO K H (.ref a) (.type "list")
 |bq {a:Addr} {o:Obj} {xs:List V} (e:H a=some (.bq o (.lst xs))):gO K H (.ref a) (.type "list")
 |tup {a:Addr} {xs:List V} (e:H a=some (.tup xs)):gO K H (.ref a) (.type "tuple")
 |dK {a:Addr} {kvs:List (Key×V)} (e:H a=some (.dK kvs)):gO K H (.ref a) (.type "dict")
 |dT {a:Addr} {kvs:List (List Key×V)} (e:H a=some (.dT kvs)):gO K H (.ref a) (.type "dict")
 |ins {a C dx:Addr} {fs:List (Str×V)} (e:H a=some (.ins C dx fs)) (cl:DV K C) (ha:PySem.W.findIn K (.ref C) "__class__" = some (some (.builtin "object.__class__")))
   (hn:PySem.W.specialIn K (.builtin "object.__class__") "__get__" = some (some (.builtin "getset_descriptor.__get__"))) (htk:PySem.W.takesIn K (.builtin "object.__class__")=some true)
   (hm:PySem.W.mroIn K C (.type "object")=some true):gO K H (.ref a) (.ref C)
theorem iJ{x:V}{u t:Value}(I:Inv X pins σ H s)(rx:RelV x u)(ty:gO X.K H x t)(e:PySem.W.kitOne X.K t c=some b)(h:∀tk,Q (.bool b) { s with toks:=tk }) :
  wpAny (model X.prog X.w) A (call (.builtin "isinstance") [u,c]) Q E s:=by
 cases ty with
 |az=>cases (show u=Value.none from rx);exact PySem.W.kia_one PySem.W.kitx_none I.dj True.intro e (λz=>nomatch z) h
 |bl y=>cases (show u=Value.bool y from rx);exact PySem.W.kia_one PySem.W.kitx_bool I.dj True.intro e (λz=>nomatch z) h
 |int i=>obtain⟨t,q⟩:=(show ∃t,u=Value.int i t from rx);cases q;exact PySem.W.kia_one PySem.W.kitx_int I.dj True.intro e (λz=>nomatch z) h
 |str y=>obtain⟨t,q⟩:=(show ∃t,u=Value.str y t from rx);cases q;exact PySem.W.kia_one PySem.W.kitx_str I.dj True.intro e (λz=>nomatch z) h
 |rV y=>obtain⟨t,q⟩:=(show ∃t,u=Value.float y t from rx);cases q;exact PySem.W.kia_one PySem.W.kitx_float I.dj True.intro e (λz=>nomatch z) h
 |@lst a xs ea=>
  cases (show u=Value.ref a from rx);obtain⟨_,_,n,_,h1⟩:=(show cG X.prog X.w H s.heap a (.lst xs)from I.hok a _ ea)
  exact PySem.W.kia_one PySem.W.kitx_list I.dj ⟨_,h1,rfl⟩ e (λz=>nomatch z) h
 |@bq a ob xs ea=>
  cases (show u=Value.ref a from rx);obtain⟨_,_,_,n,_,h1⟩:=(show cG X.prog X.w H s.heap a (.bq ob (.lst xs))from I.hok a _ ea)
  exact PySem.W.kia_one PySem.W.kitx_list I.dj ⟨_,h1,rfl⟩ e (λz=>nomatch z) h
 |@tup a xs ea=>
  cases (show u=Value.ref a from rx);obtain⟨_,_,_,p⟩:=(show cG X.prog X.w H s.heap a (.tup xs)from I.hok a _ ea)
  obtain⟨o,h1,h2,_⟩:=p;exact PySem.W.kia_one PySem.W.kitx_tuple I.dj ⟨o,h1,h2⟩ e (λz=>nomatch z) h
 |@dK a kvs ea=>
  cases (show u=Value.ref a from rx);obtain⟨_,_,vs,_,p⟩:=(show cG X.prog X.w H s.heap a (.dK kvs)from I.hok a _ ea)
  obtain⟨o,es,ep,h1,h2,_⟩:=p;exact PySem.W.kia_one PySem.W.kitx_dict I.dj ⟨o,h1,h2.1⟩ e (λz=>nomatch z) h
 |@dT a kvs ea=>
  cases (show u=Value.ref a from rx);obtain⟨_,_,xs,_,o,es,ep,h1,h2,_⟩:=(show cG X.prog X.w H s.heap a (.dT kvs)from I.hok a _ ea)
  exact PySem.W.kia_one PySem.W.kitx_dict I.dj ⟨o,h1,h2.1⟩ e (λz=>nomatch z) h
 |@ins a C dx fs ea cl ha hn htk hm=>
  cases (show u=Value.ref a from rx);obtain⟨mA,O,_⟩:=BF I.hok ea;obtain⟨od,J,_⟩:=O.look;exact PySem.W.kia_one (PySem.W.kitx_own (cl.get _) cl.hd ha hn htk hm) I.dj J e (λz=>nomatch z) h
end
end L2
namespace L2
open PySem PySem.Spec PyProof.Rows
structure eT(k:Nat)(A:Around):Prop where
 hd:A.handled=none
 dp:A.depth+3*k+5<recursionLimit
 un:A.units+16*k+200<cLine
theorem eT.deeper{k:Nat}{A:Around}(r:eT (k+1) A)(env:Env):eT k (A.deeper env):=
 ⟨r.hd,by have:=r.dp;show A.depth+1+3*k+5<_;omega,by have:=r.un;show A.units+3+16*k+200<_;omega⟩
theorem eT.depth{k:Nat}{A:Around}(r:eT k A):A.depth<recursionLimit:=by have:=r.dp;omega
noncomputable def KU:TA:=λ_ H Q=>Q [] H
noncomputable def HY(ta:TE)(tr:TA):TA:=λσ H Q=>ta σ H λx H1=>tr σ H1 λxs H2=>Q (x :: xs) H2
section
variable{X:Cx}{e:Expr}{es:List Expr}{te:TE}{t:TA}{pos:Pos}
theorem iu:PA X [] KU:=λ_ _ _ _ H Q I h=>Calls.spliced_nil ⟨[],H,I,.nil,h⟩
theorem cU(ha:PE X e te)(hr:PA X es t)(hs:starEach (e :: es) X.env=(false,eval e X.env) :: starEach es X.env:=by rfl):PA X (e :: es) (HY te t):=by
 intro pos pins s σ H Q I h;rw[hs];show wpAny _ _ (spliced ((false,eval e X.env) :: backTo pos (starEach es X.env))) _ _ s;refine Calls.spliced_cons (bB (ha pins s σ H _ I h) λu s1 ⟨x,H1,I1,r1,q1⟩=>?_);exact bB (hr pos pins s1 σ H1 _ I1 q1) λus s2 ⟨xs,H2,I2,r2,q2⟩=>⟨x :: xs,H2,I2,.cons r1 r2,q2⟩
noncomputable def KW(t:TA):TE:=λσ H Q=>t σ H λxs H1=>xs.length<=sizeLine/\∀p,H1 p=none->Q (.ref p) (upd H1 p (.tup xs))
noncomputable def KY(t:TA):TE:=λσ H Q=>t σ H λxs H1=>xs.length<=sizeLine/\∀p,H1 p=none->Q (.ref p) (upd H1 p (.lst xs))
theorem vF{x1}(h:PA X es t):PE X (.Tuple es x1 pos) (KW t):=by
 intro pins s σ H Q I hq;refine wpAny_Tuple_spliced (bB (h pos pins s σ H _ I hq) λus s1 ⟨xs,H1,I1,r,z,q⟩=>⟨by rw[<-r.length];exact z,?_⟩);have hf:H1 s1.heap.objs.size=none:=I1.hok.fresh (Nat.le_refl _);refine⟨.ref s1.heap.objs.size,upd H1 s1.heap.objs.size (.tup xs),I1.laid (t':=s1.toks) (λb u e=>Heap.get?_push_of_some _ e) (Nat.le_refl _) ?_,rfl,q _ hf⟩;exact⟨z,us,r,⟨_,Heap.get?_push_size _ rfl,rfl,_,rfl⟩⟩
theorem qc(h:PA X es t):PE X (.List es pos) (KY t):=by
 intro pins s σ H Q I hq;refine wpAny_List_spliced (bB (h pos pins s σ H _ I hq) λus s1 ⟨xs,H1,I1,r,z,q⟩=>⟨by rw[<-r.length];exact z,?_⟩);have hf:H1 s1.heap.objs.size=none:=I1.hok.fresh (Nat.le_refl _);refine⟨.ref s1.heap.objs.size,upd H1 s1.heap.objs.size (.lst xs),I1.laid (t':=s1.toks) (λb u e=>Heap.get?_push_of_some _ e) (Nat.le_refl _) ?_,rfl,q _ hf⟩;exact⟨z,us,0,r,Heap.get?_push_size _ rfl⟩
end
abbrev Sp:=List V->Hp->VK->XK->Prop
abbrev jb:=List Env->Hp->Shared->XK->Value->Shared->Prop
structure nE(P:Program)(w:World)(K:PySem.W.Frag)(mg:Str->Option Value)(base:Heap)(A:Around)(outer:List Env)(s:Shared)(H:Hp):Prop where
 frames:A.frames=some outer
 mod:Mod K mg base
 bs:∀b o,base.get? b=some o->s.heap.get? b=some o/\H b=none
 jL:base.objs.size<=s.heap.objs.size
 fy:s.heap.FunFrames base outer
 kT:∀b∈frs outer,H b=none
 hok:cV P w H s.heap
 bare:AllBare s.gens
noncomputable def CE(outer:List Env)(P:Program)(w:World)(H:Hp)(s:Shared)(Q:VK)(u:Value)(s':Shared):Prop:=
 ∃v H',s'.os=s.os/\AllBare s'.gens/\Un (frs outer) [] H H' s.heap s'.heap/\cV P w H' s'.heap/\RelV v u/\Q v H'
noncomputable def CR(CX:jb)(outer:List Env)(P:Program)(w:World)(H:Hp)(s:Shared)(Q:VK)(E:XK)(r:Result)(s':Shared):Prop:=
 match r with
 |.ok (.ret u)=>CE outer P w H s Q u s'
 |.ok _=>False
 |.error e=>CX outer H s E e s'
structure dz(P:Program)(w:World)(K:PySem.W.Frag)(mg:Str->Option Value)(base:Heap)(CX:jb)(k:Nat)(f:Addr)(fd:FuncData)(ps:List Str)(sp:Sp):Prop where
 len:∀vs H Q E,sp vs H Q E->vs.length=ps.length
 run:∀(A:Around) (outer:List Env) (s:Shared) (H:Hp) (args:Args) (us:List Value) (vs:List V) (Q:VK) (E:XK),eT k A->nE P w K mg base A outer s H->BindsTo s fd args (ps.zip us)->Vals vs us->sp vs H Q E->
  codeAny (model P w) A (.call (.ref f) args) (CR CX outer P w H s Q E) s
section
variable{X:Cx}{pins:List (Addr×Obj)}{σ:St}{H:Hp}{s s':Shared}
theorem Inv.iR(I:Inv X pins σ H s):nE X.prog X.w X.K X.mg X.base X.A X.stack s H:=
 ⟨I.ok.frames,I.ok.mod,I.bs,Nat.le_trans I.ok.jL I.sz,I.stack,I.nC,I.hok,I.bare⟩
theorem Inv.after{Q:VK}{u:Value}(I:Inv X pins σ H s)(h:CE X.stack X.prog X.w H s Q u s'):EP X pins σ Q u s':=by
 obtain⟨v,H',os,bare,un,hok,r,q⟩:=h;obtain⟨hh,g,d,t,os'⟩:=s';obtain rfl:os'=s.os:=os;exact⟨v,H',I.call (h':=hh) (g':=g) (d':=d) (t':=t) (ch:=[]) un hok bare (λb z=>absurd z (by simp)),r,q⟩
end
noncomputable def HZ(sp:Sp)(iw:List V)(E:XK)(t:TA):TE:=λσ H Q=>t σ H λvs H1=>sp (vs++iw) H1 Q E
noncomputable def Binds(K:PySem.W.Frag)(fd:FuncData)(ps:List Str)(ds:List Value):Prop:=
 ∀(s:Shared) (us:List Value),K.In s.heap->(us++ds).length=ps.length->BindsTo s fd ⟨us,[]⟩ (ps.zip (us++ds))
theorem Binds.all{K:PySem.W.Frag}{fd:FuncData}{ps:List Str}(h:∀us:List Value,us.length=ps.length->bindArgs fd ⟨us,[]⟩=pure (ps.zip us)):Binds K fd ps []:=λs us _ hl=>by
 rw[List.append_nil]at hl ⊢;exact .of_eq (h us hl)
noncomputable def Passes(CX:jb)(X:Cx)(E:XK):Prop:=∀(pins:List (Addr×Obj)) (σ:St) (H:Hp) (s:Shared) (e:Value) (s':Shared),Inv X pins σ H s->CX X.stack H s E e s'->X.xe e s'
section
variable{X:Cx}{CX:jb}{k:Nat}{f C:Addr}{fd:FuncData}{ps:List Str}{sp:Sp}{iw:List V}{ds:List Value}{E:XK}{x m:Str}{p pos apos:Pos}{e o:Expr}{es:List Expr}{ta:TE}{t:TA}
theorem DW{pins:List (Addr×Obj)}{σ:St}{H:Hp}{s:Shared}{Q:VK}{us:List Value}{vs:List V}(F:dz X.prog X.w X.K X.mg X.base CX k f fd ps sp)(hr:eT k X.A)(hb:Binds X.K fd ps ds)(hd:Vals iw ds)(hx:Passes CX X E)
  (I:Inv X pins σ H s) (r:Vals vs us) (h:sp (vs++iw) H Q E):wpAny (model X.prog X.w) X.A (call (.ref f) us) (EP X pins σ Q) X.xe s:=by
 have r2:Vals (vs++iw) (us++ds):=r.append hd;have hl:(us++ds).length=ps.length:=by rw[<-r2.length];exact F.len _ _ _ _ h
 refine wpAny_call (codeAny_mono (F.run X.A X.stack s H ⟨us,[]⟩ (us++ds) (vs++iw) Q E hr I.iR (hb s us I.dj hl) r2 h) λr s' hq=>?_);cases r with
 |error e=>exact hx pins σ H s e s' I hq
 |ok fl=>
  cases fl with
  |ret u=>exact I.after hq
  |next=>exact False.elim hq
  |brk=>exact False.elim hq
  |cont=>exact False.elim hq
theorem BG(F:dz X.prog X.w X.K X.mg X.base CX k f fd ps sp)(hr:eT k X.A)(hg:Gl X x)(hm:X.mg x=some (.ref f))(hk:PySem.W.keepIn X.K (.ref f)=true)(hb:Binds X.K fd ps ds)(hd:Vals iw ds)(hx:Passes CX X E)
  (ha:PA X (e :: es) t) (hdb:(x==("__debug__" : Str))=false:=by decide) (he:starEach (e :: es) X.env=(false,eval e X.env) :: starEach es X.env:=by rfl) (hpl:(backTo pos (starEach es X.env)).any (·.1)=false:=by rfl) :
  PE X (.Call (.Name x p) (e :: es) [] pos) (HZ sp iw E t):=by
 intro pins s σ H Q I h;refine wpAny_Call_Name_kw (kD I hg hm ?_ hdb);refine PySem.W.callWith_K (h₀:=X.base) I.ok.mod.bW hk (bB (ha pos pins s σ H _ I h) λus s1 ⟨vs,H1,I1,r,q⟩=>⟨I1.dj,?_⟩) he hpl;exact DW F hr hb hd hx I1 r q
structure Mk(K:PySem.W.Frag)(C f:Addr):Prop where
 makes:PySem.W.makesIn K C=true
 init:PySem.W.findIn K (.ref C) "__init__" = some (some (.ref f))
 fn:PySem.W.isFn K (.ref f)=true
 kp:PySem.W.keepIn K (.ref C)=true
end
section
variable{X:Cx}{CX:jb}{k:Nat}{f C:Addr}{fd:FuncData}{ps ks:List Str}{sp:Sp}{E:XK}{x m:Str}{p pos apos kpos:Pos}{e o:Expr}{es:List Expr}{kws:List Keyword}{te ta:TE}{t tk:TA}{nm:Option Str}
structure Mx(K:PySem.W.Frag)(fd:FuncData)(ps ks:List Str)(g:List Value->List Value->List Value)(gV:List V->List V->List V):Prop where
 to:∀(s:Shared) (us ws:List Value),K.In s.heap->(g us ws).length=ps.length->BindsTo s fd ⟨us,ks.zip ws⟩ (ps.zip (g us ws))
 rel:∀{vs:List V} {us:List Value} {zs:List V} {ws:List Value},Vals vs us->Vals zs ws->Vals (gV vs zs) (g us ws)
variable{g:List Value->List Value->List Value}{gV:List V->List V->List V}
end
structure bK(N P:List Str)(sc:Scope):Prop where
 kind:sc.kind=.function
 co:sc.isCoroutine=false
 gen:sc.isGenerator=false
 nd:N.Nodup
 pre:N.take P.length=P
 par:∀x∈P,sc.names.lookup x=some .local\/sc.names.lookup x=some .cell
 DX:∀y∈sc.names,y.2≠.free
theorem oG{kindOf:Str->Option NameKind}{x:Str}:∀{binds:List (Str×Value)}{m:Str->Option Value},(∀v,(x,v)∉binds)->bindL kindOf binds m x=m x
 |[],_,_=>rfl
 | (n,v) :: r,m,h=>by
  unfold bindL;rw[oG λw hw=>h w (List.mem_cons_of_mem _ hw)];split
  .have:x≠n:=by rintro rfl;exact h v List.mem_cons_self
   simp[this]
  .rfl
theorem oH{kindOf:Str->Option NameKind}{x:Str}:∀{binds:List (Str×Value)}{m:Str->Option Value},(∀v,(x,v)∉binds)->bindC kindOf binds m x=m x
 |[],_,_=>rfl
 | (n,v) :: r,m,h=>by
  unfold bindC;rw[oH λw hw=>h w (List.mem_cons_of_mem _ hw)];split
  .rfl
  .have:x≠n:=by rintro rfl;exact h v List.mem_cons_self
   simp[this]
theorem oJ{kindOf:Str->Option NameKind}{x:Str}{v:Value}:∀{P:List Str}{vs:List Value}{i:Nat}{m:Str->Option Value},P.Nodup->P[i]?=some x->vs[i]?=some v->kindOf x=some .local->
  bindL kindOf (P.zip vs) m x=some v
 |[],_,_,_,_,h,_,_=>by simp at h
 |_ :: _,[],_,_,_,_,h,_=>by simp at h
 |p :: P,w :: vs,0,m,nd,h1,h2,hk=>by
  simp at h1 h2;subst h1;subst h2;show bindL kindOf ((p,w) :: P.zip vs) m p=_;unfold bindL;rw[oG λv hv=>(List.nodup_cons.mp nd).1 (List.of_mem_zip hv).1,if_pos hk];simp
 |p :: P,w :: vs,i+1,m,nd,h1,h2,hk=>by
  show bindL kindOf ((p,w) :: P.zip vs) m x=_;unfold bindL;exact oJ (i:=i) (List.nodup_cons.mp nd).2 (by simpa using h1) (by simpa using h2) hk
theorem oK{kindOf:Str->Option NameKind}{x:Str}{v:Value}:∀{P:List Str}{vs:List Value}{i:Nat}{m:Str->Option Value},P.Nodup->P[i]?=some x->vs[i]?=some v->kindOf x≠some .local->
  bindC kindOf (P.zip vs) m x=some v
 |[],_,_,_,_,h,_,_=>by simp at h
 |_ :: _,[],_,_,_,_,h,_=>by simp at h
 |p :: P,w :: vs,0,m,nd,h1,h2,hk=>by
  simp at h1 h2;subst h1;subst h2;show bindC kindOf ((p,w) :: P.zip vs) m p=_;unfold bindC;rw[oH λv hv=>(List.nodup_cons.mp nd).1 (List.of_mem_zip hv).1,if_neg hk];simp
 |p :: P,w :: vs,i+1,m,nd,h1,h2,hk=>by
  show bindC kindOf ((p,w) :: P.zip vs) m x=_;unfold bindC;exact oK (i:=i) (List.nodup_cons.mp nd).2 (by simpa using h1) (by simpa using h2) hk
noncomputable def start(N:List Str)(vs:List V):St:=vs.map some++List.replicate (N.length - vs.length) none
noncomputable def gP(CX:jb)(P:Program)(w:World)(K:PySem.W.Frag)(mg:Str->Option Value)(base:Heap)(N:List Str)(qual:Str)(scope:Scope)(f:Addr)(cd:Value)(A:Around)(outer:List Env)(s:Shared)(H:Hp)(E:XK):Cx where
 prog:=P
 w:=w
 K:=K
 mg:=mg
 base:=base
 A:=A.deeper (envOfC qual scope s.heap.objs.size f cd)
 N:=N
 s₀:=s
 H₀:=H
 env:=envOfC qual scope s.heap.objs.size f cd
 outer:=outer
 stack:=envOfC qual scope s.heap.objs.size f cd :: outer
 ex:=[]
 calm:=true
 fn:=λ_=>true
 pn:=[]
 xe:=λe s'=>wpAny (model P w) (A.deeper (envOfC qual scope s.heap.objs.size f cd)) (leaving (envOfC qual scope s.heap.objs.size f cd) e) (λ_ s''=>CX outer H s E e s'') (λe' s''=>CX outer H s E e' s'') s'
theorem qd{sc:Scope}{n:Nat}{x:Str}(h:sc.names.lookup x=some .cell):∃c,(cellsFrom n sc.names []).lookup x=some c:=by
 have q:=PySem.W.cellsFrom_some sc.names n [] (.inl h);exact Option.isSome_iff_exists.mp q
theorem oM{CX:jb}{P:Program}{w:World}{K:PySem.W.Frag}{mg:Str->Option Value}{base:Heap}{N ps:List Str}{qual:Str}{scope:Scope}{f:Addr}{cd:Value}{A:Around}{outer:List Env}{s s1:Shared}{H:Hp}{E:XK}{us:List Value}{vs:List V}
  (S:bK N ps scope) (hd:A.handled=none) (e0:nE P w K mg base A outer s H) (hl:vs.length=ps.length) (r:Vals vs us)
  (x:InCallC s s.heap.objs.size (bindL (envOfC qual scope s.heap.objs.size f cd).kindOf (ps.zip us) λ_=>none) (cellsFrom (s.heap.objs.size+1) scope.names []) (bindC (envOfC qual scope s.heap.objs.size f cd).kindOf (ps.zip us) λ_=>none) s1) :
  Inv (gP CX P w K mg base N qual scope f cd A outer s H E) [] (start N vs) H s1:=by
 have hpl:ps.length<=N.length:=by have:=congrArg List.length S.pre;rw[List.length_take]at this;omega
 obtain⟨h1,tk,rfl,hk⟩:=x.done;have vG:∀b:Addr,b∉(gP CX P w K mg base N qual scope f cd A outer s H E).ex:=λb z=>absurd (show b∈([]:List Addr)from z) (by simp);refine⟨⟨e0.mod,S.kind,rfl,rfl,Nat.le_refl _,λy z c h1 h2=>?_,λy hy=>?_,λy c _ h=>?_,λ_=>hd,Around.frames_deeper e0.frames,.inr ⟨rfl,rfl⟩,λb z=>absurd z (vG b),e0.bs,e0.jL,λb _ _=>vG b,λb z=>absurd z (vG b),e0.fy,e0.kT⟩,
  rfl,e0.bare,Un.kept hk,⟨_,x.toInCall.ns,λi y v h1 h2 h3=>?_⟩,λy c h=>⟨_,x.cell y c h⟩,e0.hok.fresh (Nat.le_refl _),λy c h=>?_,λp hp=>absurd (show p∈([]:List (Addr×Obj))from hp) (by simp),e0.hok.kept hk,?_⟩
 .exact name_of_addr x.apart (PySem.mem_of_lookup h1) (PySem.mem_of_lookup h2)
 .have hy:scope.names.lookup y=some .cell\/scope.names.lookup y=some .free:=hy;rcases hy with hy|hy
  .exact qd hy
  .exact absurd rfl (S.DX _ (PySem.mem_of_lookup hy))
 .exact Nat.le_of_lt (x.above y c (PySem.mem_of_lookup h))
 .have hi:i<vs.length:=by
   unfold start at h2;by_cases hi:i<vs.length
   .exact hi
   .rw[List.getElem?_append_right (by simpa using hi)]at h2;rw[List.getElem?_replicate]at h2;split at h2<;>cases h2
  have ha:vs[i]?=some v:=by
   unfold start at h2;rw[List.getElem?_append_left (by simpa using hi),List.getElem?_map]at h2;cases e:vs[i]? with
   |none=>rw[e]at h2;cases h2
   |some a=>rw[e]at h2;cases h2;rfl
  obtain⟨u,hu,rv⟩:=r.get ha;have hp:ps[i]?=some y:=by
   rw[<-S.pre,List.getElem?_take_of_lt (by omega)];exact h1
  have JN:ps.Nodup:=by rw[<-S.pre];exact S.nd.sublist (List.take_sublist _ _)
  refine⟨u,rv,?_⟩;rcases S.par y (List.mem_of_getElem? hp)with k|k
  .exact .inl ⟨k,oJ JN hp hu k⟩
  .obtain⟨c,e⟩:=qd (n:=s.heap.objs.size+1) k;refine .inr ⟨.inl k,c,e,?_⟩;have q:=x.cell y c e;rw[oK JN hp hu (by show scope.names.lookup y≠_;rw[k];decide)]at q;exact q
 .exact e0.hok.fresh (Nat.le_of_lt (x.above y c (PySem.mem_of_lookup h)))
 .unfold start;show _=N.length;rw[List.length_append,List.length_map,List.length_replicate];omega
theorem Au{CX:jb}{P:Program}{w:World}{K:PySem.W.Frag}{mg:Str->Option Value}{base:Heap}{k:Nat}{f:Addr}{name qual:Str}{params:Arguments}{body:List Stmt}{scope:Scope}{dV kV doc pm cdv ct oc:Value}{an od:Option Addr}
  {osl:Array (Option Value)} {N ps:List Str} {sp:Sp} (lk:K.lookup f=some ⟨oc,od,.func (PySem.W.fnOf name qual params body scope dV kV doc pm an cdv ct),osl⟩) (hcd:PySem.W.codeIn K cdv qual=true) (S:bK N ps scope)
  (len:∀vs H Q E,sp vs H Q E->vs.length=ps.length)
  (hbody:∀(A:Around) (outer:List Env) (s:Shared) (H:Hp) (vs:List V) (Q:VK) (E:XK),eT k (A.deeper (envOfC qual scope s.heap.objs.size f cdv))->sp vs H Q E->
   ∃t,dH (gP CX P w K mg base N qual scope f cdv A outer s H E) body t/\t { nx:=λ_ H'=>Q .az H',rt:=Q } (start N vs) H) :
  dz P w K mg base CX (k+1) f (PySem.W.fnOf name qual params body scope dV kV doc pm an cdv ct) ps sp:=by
 refine⟨len,λA outer s H args us vs Q E hr e0 hb r fR=>?_⟩;have hl:=len _ _ _ _ fR;have KX:K.In s.heap:=e0.mod.bW.keeps λb o e=>(e0.bs b o e).1;have lim:s.heap.NoLimit:=e0.mod.nolimit.keeps λb o e=>(e0.bs b o e).1;have hkind:∀y∈ps.zip us,scope.names.lookup y.1=some .local\/(scope.names.lookup y.1=some .cell/\((cellsFrom (s.heap.objs.size+1) scope.names []).lookup y.1).isSome=true):=λ⟨n,v⟩ hy=>by
  rcases S.par n (List.of_mem_zip hy).1 with q|q
  .exact .inl q
  .exact .inr ⟨q,PySem.W.cellsFrom_some _ _ _ (.inl q)⟩
 refine codeAny_call_function hr.depth (KX _ _ lk) rfl S.co S.gen rfl (PySem.W.codeRec_of KX hcd) (hb _ _ _ _ ?_);refine wpAny_newFunctionEnv_cells S.kind hkind λenv he s1 x=>?_;subst he;refine⟨lim.keeps x.toInCall.keep,codeAny_func ?_⟩;obtain⟨t,ht,hq⟩:=hbody A outer s H vs Q E (hr.deeper _) fR;have I:Inv (gP CX P w K mg base N qual scope f cdv A outer s H E) [] (start N vs) H s1:=oM S hr.hd e0 hl r x;refine wpAny_mono (ht [] s1 (start N vs) H _ I hq) (λfl s' hs=>?_) λe s' hs=>hs;have fin:∀{σ':St} {H':Hp} {v:V} {u:Value},Inv (gP CX P w K mg base N qual scope f cdv A outer s H E) [] σ' H' s'->RelV v u->Q v H'->CE outer P w H s Q u s':=
  λ{σ' H' v u} J rv q=>⟨v,H',J.os,J.bare,J.base,J.hok,rv,q⟩
 cases fl with
 |ret u=>
  obtain⟨v,σ',H',J,rv,q⟩:=hs;exact fin J rv q
 |next=>
  obtain⟨σ',H',J,q⟩:=hs;exact fin (v:=V.az) (u:=Value.none) J rfl q
 |brk=>
  obtain⟨_,_,_,q⟩:=hs;exact False.elim q
 |cont=>
  obtain⟨_,_,_,q⟩:=hs;exact False.elim q
end L2
namespace L2
open PySem PySem.Spec PyProof.Rows
section
variable{X:Cx}{x:Str}{p pos:Pos}{e:Expr}{es:List Expr}{t:TA}{id T:String}{r:List V->Hp->VK->Prop}
noncomputable def DY(r:List V->Hp->VK->Prop)(t:TA):TE:=λσ H Q=>t σ H λvs H1=>r vs H1 Q
theorem lI (hc:gD X (.builtin id) r) (hg:Gl X x) (hm:X.mg x=none) (hv:bootBuiltins x=some (.builtin id)) (ha:PA X (e :: es) t) (hn:x≠"__name__" :=by decide) (hdb:(x==("__debug__" : Str))=false:=by decide)
  (he:starEach (e :: es) X.env=(false,eval e X.env) :: starEach es X.env:=by rfl) (hpl:(backTo pos (starEach es X.env)).any (·.1)=false:=by rfl):PE X (.Call (.Name x p) (e :: es) [] pos) (DY r t):=by
 intro pins s σ H Q I h;refine wpAny_Call_Name_kw (mz I hg hm hv ?_ hn hdb);exact PyProof.Rows.callWith_builtin1 (bB (ha pos pins s σ H _ I h) λus s1 ⟨vs,H1,I1,r1,q1⟩=>hc pins s1 σ H1 vs us Q I1 r1 q1) he hpl
theorem vH (hc:gD X (.type T) r) (hg:Gl X x) (hm:X.mg x=none) (hv:bootBuiltins x=some (.type T)) (ha:PA X (e :: es) t) (hn:x≠"__name__" :=by decide) (hdb:(x==("__debug__" : Str))=false:=by decide)
  (he:starEach (e :: es) X.env=(false,eval e X.env) :: starEach es X.env:=by rfl) (hpl:(backTo pos (starEach es X.env)).any (·.1)=false:=by rfl):PE X (.Call (.Name x p) (e :: es) [] pos) (DY r t):=by
 intro pins s σ H Q I h;refine wpAny_Call_Name_kw (mz I hg hm hv ?_ hn hdb);exact PyProof.Rows.callWith_type1 (bB (ha pos pins s σ H _ I h) λus s1 ⟨vs,H1,I1,r1,q1⟩=>hc pins s1 σ H1 vs us Q I1 r1 q1) he hpl
end
end L2
namespace HT
open PySem PyProof.Rows
section
open PySem.SeqAt
open PySem.AutoSeq1 (wpAny_loadPart')
open PySem.MeetsSeq PySem.MeetsSeq2 PySem.MeetsSeq3
end
section
variable{prog:Program}{w:World}{A:Around}{E:Value->Shared->Prop}{s:Shared}
theorem BH{t b:Addr}{vs ws:List Value}{Q:Value->Shared->Prop}(ht:IsTup s.heap t vs.toArray)(hb:IsTup s.heap b ws.toArray)(hv:vs≠[])
  (h1:ws=[]->Q (.ref t) s) (h2:ws≠[]->Q (.ref s.heap.objs.size) { s with heap:=s.heap.push { cls:=.type "tuple",data:=.seq (vs++ws).toArray }})
  (hsz:vs.length+ws.length<=sizeLine):wpAny (model prog w) A (binaryOp .Add (.ref t) (.ref b)) Q E s:=by
 obtain⟨⟨cls,dd,data,sl⟩,ho,hc,n,hd⟩:=id ht;obtain⟨⟨KZ,dd2,data2,sl2⟩,ho2,hc2,n2,hd2⟩:=id hb;simp only at hc hd hc2 hd2;subst hc hd hc2 hd2;have e:vs.toArray++ws.toArray=(vs++ws).toArray:=by simp
 by_cases hw:ws=[]
 .exact concat_meets ⟨_,ho,rfl⟩ ⟨_,ho2,rfl⟩ noFill_tuple_add seq_tuple_add PySem.F.slot_tuple_add PySem.F.entry_tuple_add (PySem.F.args_tuple_add_2 _ _)
   (tuple_addW1 t b vs.toArray ws.toArray n n2 dd dd2 sl sl2 (by simpa using hv) (by simp[hw])) ⟨ho,ho2,h1 hw⟩
 .refine concat_meets ⟨_,ho,rfl⟩ ⟨_,ho2,rfl⟩ noFill_tuple_add seq_tuple_add PySem.F.slot_tuple_add PySem.F.entry_tuple_add (PySem.F.args_tuple_add_2 _ _)
   (tuple_addW2 t b vs.toArray ws.toArray n n2 dd dd2 sl sl2 (by simpa using hv) (by simpa using hw) (by rw[List.size_toArray,List.size_toArray];exact hsz)) ⟨ho,ho2,?_⟩
  rw[e];exact h2 hw
noncomputable def aD(n d:Nat):Option Int->Nat
 |none=>d
 |some v=>if v<0 then (v+(n:Int)).toNat else min v.toNat n
theorem qe(n d:Nat)(hd:d<=n)(o:Option Int):aD n d o<=n:=by
 cases o with
 |none=>exact hd
 |some v=>
  show(if v<0 then (v+(n:Int)).toNat else min v.toNat n)<=n;by_cases hv:v<0
  .rw[if_pos hv];omega
  .rw[if_neg hv];exact Nat.min_le_right _ _
theorem sy(v:Int)(n d:Nat):(if v<0 then max (v+(n:Int)) 0 else min v (n:Int))=((aD n d (some v):Nat):Int):=by
 show(if v<0 then max (v+(n:Int)) 0 else min v (n:Int))=(((if v<0 then (v+(n:Int)).toNat else min v.toNat n):Nat):Int)
 by_cases hv:v<0
 .simp only[if_pos hv];omega
 .simp only[if_neg hv];omega
theorem ue(lo hi:Option Int)(n:Nat):Builtin.Slice.sliceAdjust lo hi 1 (n:Int)=(((aD n 0 lo:Nat):Int),((aD n n hi:Nat):Int)):=by
 have h1:¬ ((1:Int)<0):=by omega
 unfold Builtin.Slice.sliceAdjust;simp only[h1,if_false];refine Prod.ext ?_ ?_
 .cases lo with
  |none=>rfl
  |some v=>exact sy v n 0
 .cases hi with
  |none=>rfl
  |some v=>exact sy v n n
theorem uf(i j:Nat):Builtin.Slice.slicePlaces (i:Int) (j:Int) 1=j - i:=by
 unfold Builtin.Slice.slicePlaces;have h1:(1:Int) > 0:=by omega
 simp only[h1,if_true,Int.ediv_one];split<;>omega
theorem mD{v:Value}{o:Option Int}{Q:Option Int->Shared->Prop}(p:IsPart v o)(h:Q o s):wpAny (model prog w) A (Builtin.Slice.slicePartIndex v) Q E s:=by
 cases p with
 |none=>exact slicePart_none h
 |int i t=>exact slicePart_int h
theorem iy{sl:Addr}{vl vu:Value}{lo hi:Option Int}{n:Nat}{Q:Int×Int×Nat->Shared->Prop}(hs:s.heap.IsSliceOf sl vl vu .none)(pl:IsPart vl lo)(pu:IsPart vu hi)
  (h:Q (((aD n 0 lo:Nat):Int),1,aD n n hi - aD n 0 lo) s):wpAny (model prog w) A (Builtin.Slice.sliceApplied (.ref sl) (pure (n:Int))) Q E s:=by
 obtain⟨os,hos,hcs,hds⟩:=id hs;unfold Builtin.Slice.sliceApplied Builtin.Slice.sliceFields;refine wpAny_bind (wpAny_bind (wpAny_field hos hds (x:=vl) rfl (wpAny_bind (wpAny_field hos hds (x:=vu) rfl (wpAny_bind (wpAny_field hos hds (x:=.none) rfl (wpAny_pure ?_)))))));refine wpAny_bind (slicePart_none ?_);show wpAny _ _ (if ((1:Int)==0)=true then _ else _) _ _ s;rw[if_neg (by decide)];refine wpAny_bind (mD pl (wpAny_bind (mD pu (wpAny_bind (wpAny_pure ?_)))));show wpAny _ _ (match Builtin.Slice.sliceAdjust lo hi 1 (n:Int)with | (lo,hi)=>pure (lo,(1:Int),Builtin.Slice.slicePlaces lo hi 1)) _ _ s;rw[ue lo hi n];show wpAny _ _ (pure (((aD n 0 lo:Nat):Int),(1:Int),Builtin.Slice.slicePlaces ((aD n 0 lo:Nat):Int) ((aD n n hi:Nat):Int) 1)) _ _ s;rw[uf];exact wpAny_pure h
theorem yl(xs:Array Value)(i k:Nat):((List.range k).filterMap λ(m:Nat)=>xs[((i:Int)+(m:Int)*1).toNat]?).toArray=((xs.toList.drop i).take k).toArray:=by
 have e:(λ(m:Nat)=>xs[((i:Int)+(m:Int)*1).toNat]?)=λm=>xs[i+m]?:=by
  funext m
  have:((i:Int)+(m:Int)*1).toNat=i+m:=by omega
  rw[this]
 rw[e];have:=pick_run xs i k;rw[List.filterMap_map]at this;have e2:((λx=>xs[x]?) ∘ λx=>i+x)=λm=>xs[i+m]?:=rfl;rw[e2]at this;rw[this]
theorem kR{t sl:Addr}{items:Array Value}{vl vu:Value}{lo hi:Option Int}{Q:Value->Shared->Prop}(ht:IsTup s.heap t items)(hs:s.heap.IsSliceOf sl vl vu .none)(pl:IsPart vl lo)(pu:IsPart vu hi)
  (hw:¬ (aD items.size 0 lo=0/\aD items.size items.size hi=items.size))
  (h:Q (.ref s.heap.objs.size) { s with heap:=s.heap.push { cls:=.type "tuple",data:=.seq ((items.toList.drop (aD items.size 0 lo)).take (aD items.size items.size hi - aD items.size 0 lo)).toArray }})
  (hsz:items.size<=sizeLine):wpAny (model prog w) A (getItem (.ref t) (.ref sl)) Q E s:=by
 have pL:sizeOk (.seq ((items.toList.drop (aD items.size 0 lo)).take (aD items.size items.size hi - aD items.size 0 lo)).toArray):=by
  show((items.toList.drop (aD items.size 0 lo)).take (aD items.size items.size hi - aD items.size 0 lo)).toArray.size<=sizeLine;rw[List.size_toArray,List.length_take,List.length_drop,Array.length_toList];omega
 have hj:aD items.size items.size hi<=items.size:=qe _ _ (Nat.le_refl _) hi;obtain⟨os,hos,hcs,hds⟩:=id hs;have DZ:s.TypeIs (.ref sl) "slice" :=⟨os,hos,hcs⟩
 unfold getItem;try with_reducible refine wpAny_holding ?_
 first|refine wpAny_bind (wpAny_pure ?_)|skip
 refine wpAny_bind (wpAny_sequenceKey ht.typeIs (by decide) ?_);refine wpAny_bind (wpAny_callSpecial?_slot (name:=Str.ofString "__getitem__") ht.typeIs PyProof.Rows.slot_tuple_getitem
  (wpAny_call_entry PyProof.Rows.slot_tuple_getitem ht.typeIs entry_tuple_getitem ?_ (args_tuple_getitem _ _)))
 show wpAny _ _ (Builtin.Tuple.tupleItemsOf (.ref t) >>= _) _ _ s;refine wpAny_bind (tupleItemsOf_ ht ?_);refine wpAny_bind (wpAny_typeOf DZ ?_);rw[if_pos (by decide)];refine wpAny_bind (iy hs pl pu ?_);have hno:¬ ((((aD items.size 0 lo:Nat):Int)==0&&(1:Int)==1&&(aD items.size items.size hi - aD items.size 0 lo)==items.size)=true):=by
  intro q;rw[Bool.and_eq_true,Bool.and_eq_true]at q;have q1:((aD items.size 0 lo:Nat):Int)=0:=eq_of_beq q.1.1;have q2:aD items.size items.size hi - aD items.size 0 lo=items.size:=eq_of_beq q.2;exact hw ⟨by omega,by omega⟩
 show wpAny _ _ (if (((aD items.size 0 lo:Nat):Int)==0&&(1:Int)==1&&(aD items.size items.size hi - aD items.size 0 lo)==items.size)=true then _ else _) _ _ s;rw[if_neg hno,yl];first
  |exact wpAny_bind (m:=Builtin.Tuple.tupleExact _) (wpAny_newObj_type (wpAny_pure ⟨_,rfl,wpAny_pure h⟩) pL)
  |exact wpAny_bind (m:=Builtin.Tuple.tupleExact _) (wpAny_newObj_type (wpAny_bind (wpAny_pure (wpAny_pure ⟨_,rfl,wpAny_pure h⟩))) pL)
  |exact wpAny_bind (wpAny_bind (m:=Builtin.Tuple.tupleExact _) (wpAny_newObj_type (wpAny_pure (wpAny_pure ⟨_,rfl,wpAny_pure h⟩)) pL))
  |exact wpAny_bind (wpAny_bind (m:=Builtin.Tuple.tupleExact _) (wpAny_newObj_type (wpAny_pure ⟨_,rfl,wpAny_pure h⟩) pL))
end
end HT
namespace L2
open PySem PySem.Spec PyProof.Rows
abbrev TO:=St->Hp->(Option Int->Hp->Prop)->Prop
noncomputable def PO(X:Cx)(e:Option Expr)(t:TO):Prop:=
 ∀(pins:List (Addr×Obj)) (s:Shared) (σ:St) (H:Hp) (Q:Option Int->Hp->Prop),Inv X pins σ H s->t σ H Q->
  wpAny (model X.prog X.w) X.A (evalPart e X.env) (λu s'=>∃o H',Inv X pins σ H' s'/\IsPart u o/\Q o H') X.xe s
noncomputable def BJ:TO:=λ_ H Q=>Q none H
noncomputable def Ia(t:TE):TO:=λσ H Q=>t σ H λx H1=>∃i,x=.int i/\Q (some i) H1
section
variable{X:Cx}{e:Expr}{te:TE}{lo hi:Option Expr}{tl th:TO}{pos p2:Pos}
theorem BK:PO X none BJ:=by
 intro pins s σ H Q I h;rw[evalPart_none];exact wpAny_pure ⟨none,H,I,.none,h⟩
theorem BL(h:PE X e te):PO X (some e) (Ia te):=by
 intro pins s σ H Q I hw;rw[evalPart_some];refine bB (h pins s σ H _ I hw) λu s1 ⟨x,H1,I1,r1,q1⟩=>?_;obtain⟨i,rfl,q⟩:=q1;obtain⟨t,rfl⟩:=r1;exact⟨some i,H1,I1,.int i t,q⟩
noncomputable def jc(X:Cx)(r:V->Option Int->Option Int->Hp->VK->Prop):Prop:=
 ∀(pins:List (Addr×Obj)) (s:Shared) (σ:St) (H:Hp) (x:V) (v vl vu:Value) (lo hi:Option Int) (sl:Addr) (Q:VK),Inv X pins σ H s->RelV x v->s.heap.IsSliceOf sl vl vu .none->IsPart vl lo->IsPart vu hi->r x lo hi H Q->
  ∃T id,typeLookup (.type T) "__getitem__" = pure (some (.builtin id))/\s.TypeIs v T/\wpAny (model X.prog X.w) X.A (getItem v (.ref sl)) (EP X pins σ Q) X.xe s
noncomputable def My(r:V->Option Int->Option Int->Hp->VK->Prop)(te:TE)(tl th:TO):TE:=λσ H Q=>te σ H λx H1=>tl σ H1 λl H2=>th σ H2 λu H3=>r x l u H3 Q
theorem ym{r:V->Option Int->Option Int->Hp->VK->Prop}(hr:jc X r)(he:PE X e te)(hl:PO X lo tl)(hu:PO X hi th):PE X (.Subscript e (.Slice lo hi none p2) pos) (My r te tl th):=by
 intro pins s σ H Q I h;refine Subscript_ (bB (he pins s σ H _ I h) λv s1 ⟨x,H1,I1,r1,q1⟩=>?_);refine wpAny_Slice (bB (hl pins s1 σ H1 _ I1 q1) λvl s2 ⟨l,H2,I2,pl,q2⟩=>bB (hu pins s2 σ H2 _ I2 q2) λvu s3 ⟨u,H3,I3,pu,q3⟩=>?_);rw[evalPart_none];refine wpAny_pure ?_;have I4:Inv X pins σ H3 { s3 with heap:=s3.heap.push { cls:=.type "slice",data:=.fields #[vl,vu,.none]}}:=I3.kept (t':=s3.toks) λb ob q=>Heap.get?_push_of_some _ q;obtain⟨T,id,hT,ht,hg⟩:=hr pins { s3 with heap:=s3.heap.push { cls:=.type "slice",data:=.fields #[vl,vu,.none]}} σ H3 x v vl vu l u s3.heap.objs.size Q I4 r1 (Heap.IsSliceOf.new ..) pl pu q3;show wpAny (model X.prog X.w) X.A (subscriptTail e (.Slice lo hi none p2) v (.ref s3.heap.objs.size)) (EP X pins σ Q) X.xe { s3 with heap:=s3.heap.push { cls:=.type "slice",data:=.fields #[vl,vu,.none]}};exact tail_any (ops:=[.ref s3.heap.objs.size,v]) ht hT hg (by with_unfolding_all rfl)
noncomputable def jQ(xs:List V)(lo hi:Option Int):List V:=(xs.drop (HT.aD xs.length 0 lo)).take (HT.aD xs.length xs.length hi - HT.aD xs.length 0 lo)
theorem kW(xs:List V)(lo hi:Option Int):(jQ xs lo hi).length<=xs.length:=by
 unfold jQ;rw[List.length_take,List.length_drop];omega
noncomputable def K0(K:PySem.W.Frag):V->Option Int->Option Int->Hp->VK->Prop:=λx lo hi H Q=>∃a xs,x=.ref a/\cH K H a xs/\
 ¬ (HT.aD xs.length 0 lo=0/\HT.aD xs.length xs.length hi=xs.length)/\∀p,H p=none->Q (.ref p) (upd H p (.tup (jQ xs lo hi)))
theorem D4:jc X (K0 X.K):=by
 intro pins s σ H x v vl vu lo hi sl Q I rx hs pl pu h;obtain⟨a,xs,rfl,hx,hw,q⟩:=h;cases rx;obtain⟨its,r,ht,hz⟩:=I.tuple hx;have hlen:its.toArray.size=xs.length:=by rw[List.size_toArray];exact r.length.symm
 refine⟨"tuple",_,PyProof.Rows.slot_tuple_getitem.lookup,ht.typeIs,?_⟩;refine HT.kR ht hs pl pu (by rw[hlen];exact hw) ?_ (by rw[hlen];exact hz);rw[hlen];refine⟨.ref s.heap.objs.size,_,I.laid (t':=s.toks) (o:=.tup (jQ xs lo hi)) (λb ob q=>Heap.get?_push_of_some _ q) (Nat.le_refl _) ?_,rfl,q _ (I.hok.fresh (Nat.le_refl _))⟩;exact⟨Nat.le_trans (kW xs lo hi) hz,_,(r.drop (HT.aD xs.length 0 lo)).take (HT.aD xs.length xs.length hi - HT.aD xs.length 0 lo),IsTup.new _ _⟩
noncomputable def Ib(K:PySem.W.Frag):R2:=λx y H Q=>∃a b xs ys,x=.ref a/\y=.ref b/\cH K H a xs/\cH K H b ys/\xs≠[]/\xs.length+ys.length<=sizeLine/\
 (ys=[]->Q (.ref a) H)/\(ys≠[]->∀p,H p=none->Q (.ref p) (upd H p (.tup (xs++ys))))
theorem Vals.nF{xs:List V}{us:List Value}(r:Vals xs us):us=[]↔xs=[]:=by
 cases r with
 |nil=>simp
 |cons _ _=>simp
theorem BN:cI X (binaryOp .Add) (Ib X.K):=by
 intro pins s σ H x y v u Q I rx ry h;obtain⟨a,b,xs,ys,rfl,rfl,ha,hb,hx,hz,q1,q2⟩:=h;cases rx;cases ry;obtain⟨its,r1,p1,_⟩:=I.tuple ha;obtain⟨its2,r2,p2,_⟩:=I.tuple hb;refine HT.BH p1 p2 (λz=>hx (r1.nF.mp z)) (λz=>⟨.ref a,H,I,rfl,q1 (r2.nF.mp z)⟩) (λz=>?_) (by rw[<-r1.length,<-r2.length];exact hz);refine⟨.ref s.heap.objs.size,_,I.laid (t':=s.toks) (o:=.tup (xs++ys)) (λb ob q=>Heap.get?_push_of_some _ q) (Nat.le_refl _) ?_,rfl,q2 (λw=>z (r2.nF.mpr w)) _ (I.hok.fresh (Nat.le_refl _))⟩;exact⟨by rw[List.length_append];exact hz,_,r1.append r2,IsTup.new _ _⟩
end
end L2
namespace L2
open PySem PySem.Spec PyProof.Rows
noncomputable def cT(n:Nat)(i:Int):Option Nat:=if 0<=i then (if i<n then some i.toNat else none)else if -(n:Int)<=i then some (i+n).toNat else none
noncomputable def bh{α:Type}(xs:List α)(i:Int):Option α:=(cT xs.length i).bind λj=>xs[j]?
theorem BO{n:Nat}{i:Int}{j:Nat}(h:cT n i=some j):seqIndex? i n=some j/\j<n/\-(n:Int)<=i/\i<n:=by
 unfold cT at h;by_cases h0:0<=i
 .rw[if_pos h0]at h;by_cases h1:i<n
  .rw[if_pos h1]at h;have e:i.toNat=j:=Option.some.inj h;exact⟨by rw[seqIndex_of h0 h1,e],by omega,by omega,h1⟩
  .rw[if_neg h1]at h;cases h
 .rw[if_neg h0]at h;by_cases h1:-(n:Int)<=i
  .rw[if_pos h1]at h;have e:(i+n).toNat=j:=Option.some.inj h;exact⟨by rw[seqIndex_neg (by omega) h1,e],by omega,h1,by omega⟩
  .rw[if_neg h1]at h;cases h
theorem nG{α:Type}{xs:List α}{i:Int}{v:α}(h:bh xs i=some v):∃j,seqIndex? i xs.length=some j/\xs[j]?=some v/\j<xs.length/\-(xs.length:Int)<=i/\i<xs.length:=by
 unfold bh at h;cases e:cT xs.length i with
 |none=>rw[e]at h;cases h
 |some j=>
  rw[e]at h;obtain⟨h1,h2,h3,h4⟩:=BO e;exact⟨j,h1,h,h2,h3,h4⟩
theorem sA{α:Type}{xs:List α}{j:Nat}{v:α}(h:xs[j]?=some v):bh xs (j:Int)=some v:=by
 have hj:j<xs.length:=(List.getElem?_eq_some_iff.mp h).1;have e:cT xs.length (j:Int)=some j:=by
  unfold cT;rw[if_pos (by omega),if_pos (by omega)];simp
 unfold bh;rw[e];exact h
noncomputable def sC(b:Expr):Prop:=∀o i,subscripted b false o i=operate [o,i] (getItem o i)
noncomputable def sD(X:Cx)(r:R2):Prop:=
 ∀(value slice:Expr) (pins:List (Addr×Obj)) (s:Shared) (σ:St) (H:Hp) (x y:V) (v u:Value) (Q:VK),Inv X pins σ H s->RelV x v->RelV y u->r x y H Q->
  subscripted slice false v u=operate [v,u] (getItem v u)->wpAny (model X.prog X.w) X.A (subscriptTail value slice v u) (EP X pins σ Q) X.xe s
noncomputable def vI(X:Cx)(id:String)(r:V->List V->Hp->VK->Prop):Prop:=
 ∀(pins:List (Addr×Obj)) (s:Shared) (σ:St) (H:Hp) (x:V) (xs:List V) (v:Value) (us:List Value) (Q:VK),Inv X pins σ H s->RelV x v->Vals xs us->r x xs H Q->
  wpAny (model X.prog X.w) X.A (call (.builtin id) (v :: us)) (EP X pins σ Q) X.xe s
section
variable{X:Cx}{a b:Expr}{ta tb:TE}{pos:Pos}
theorem Ic{r:R2}(hr:sD X r)(ha:PE X a ta)(hb:PE X b tb)(hs:sC b):PE X (.Subscript a b pos) (vD r ta tb):=by
 intro pins s σ H Q I h;exact Subscript_ (yg ha hb I h λv u s2 x y H2 I2 rx ry q=>hr a b pins s2 σ H2 x y v u Q I2 rx ry q (hs _ _))
noncomputable def K1(K:PySem.W.Frag):R2:=λx y H Q=>∃p xs i v,x=.ref p/\y=.int i/\dI K H p xs/\bh xs i=some v/\Q v H
noncomputable def K2(K:PySem.W.Frag):R2:=λx y H Q=>∃p xs i v,x=.ref p/\y=.int i/\cH K H p xs/\bh xs i=some v/\Q v H
noncomputable def K3:R2:=λx y H Q=>∃z i c,x=.str z/\y=.int i/\z.length<=sizeLine/\bh z.cps.toList i=some c/\Q (.str ⟨#[c]⟩) H
theorem BP:sD X (K1 X.K):=by
 intro value slice pins s σ H x y v u Q I rx ry h hs;obtain⟨p,xs,i,z,rfl,rfl,hq,he,q⟩:=h;cases rx;obtain⟨t,rfl⟩:=ry;obtain⟨its,r,pl,hz⟩:=I.list hq;obtain⟨j,h1,h2,h3,h4,h5⟩:=nG he;obtain⟨w,ew,rw'⟩:=r.get h2;have hl:=r.length;have hn:=ja;have fin:EP X pins σ Q w s:=⟨z,H,I,rw',q⟩
 by_cases h0:0<=i
 .have hj:i.toNat=j:=by
   rw[seqIndex_of h0 h5]at h1;exact Option.some.inj h1
  exact item_listR pl.isList h0 (by omega) (by rw[hj];simpa using ew) fin hs
 .have hj:(i+(its.toArray.size:Int)).toNat=j:=by
   rw[seqIndex_neg (by omega) h4]at h1;rw[List.size_toArray,<-hl];exact Option.some.inj h1
  exact subscriptTail_builtinR (x:=w) pl.isList.typeIs slot_list_getitem.lookup
   (wpAny_getItem_list_neg (Q:=λr s'=>r=w/\EP X pins σ Q r s') pl.isList (by omega) (by rw[List.size_toArray]<;>omega) (by omega) (by rw[hj];simpa using ew) ⟨rfl,fin⟩) hs
theorem D5:sD X (K2 X.K):=by
 intro value slice pins s σ H x y v u Q I rx ry h hs;obtain⟨p,xs,i,z,rfl,rfl,hq,he,q⟩:=h;cases rx;obtain⟨t,rfl⟩:=ry;obtain⟨its,r,pl,hz⟩:=I.tuple hq;obtain⟨j,h1,h2,h3,h4,h5⟩:=nG he;obtain⟨w,ew,rw'⟩:=r.get h2;have hl:=r.length;have hn:=ja;have fin:EP X pins σ Q w s:=⟨z,H,I,rw',q⟩
 exact subscriptTail_builtinR (x:=w) pl.typeIs slot_tuple_getitem.lookup
  (getItem_tuple (j:=j) (Q:=λr s'=>r=w/\EP X pins σ Q r s') pl (by omega) (by omega) (by rw[List.size_toArray,<-hl];exact h1) (by simpa using ew) ⟨rfl,fin⟩) hs
theorem D6:sD X K3:=by
 intro value slice pins s σ H x y v u Q I rx ry h hs;obtain⟨z,i,c,rfl,rfl,hz,he,q⟩:=h;obtain⟨t,rfl⟩:=rx;obtain⟨t',rfl⟩:=ry;obtain⟨j,h1,h2,h3,h4,h5⟩:=nG he;have hl:z.cps.toList.length=z.length:=by simp[Str.length]
 rw[hl]at h1 h4 h5;have hn:=ja;exact tail_any (typeIs_str s z t) slot_str_getitem.lookup (getItem_str (c:=c) (by
  have e1:decide (i < -(2 ^ 63:Int))=false:=decide_eq_false (by omega);have e2:decide (i≥2 ^ 63)=false:=decide_eq_false (by omega);rw[e1,e2,Bool.or_false]) (by rw[h1];simpa using h2) ⟨.str ⟨#[c]⟩,H,I.tok _,⟨_,rfl⟩,q⟩) hs
theorem qf(lo hi:Option Int)(n:Nat):(sliceBounds lo hi none n).1=((HT.aD n 0 lo:Nat):Int)/\(sliceBounds lo hi none n).2.1=((HT.aD n n hi:Nat):Int)/\(sliceBounds lo hi none n).2.2=1:=by
 refine⟨?_,?_,rfl⟩
 .cases lo with
  |none=>simp[sliceBounds,HT.aD]
  |some i=>
   simp only[sliceBounds,HT.aD,Option.getD_none,show(1:Int) > 0 by decide,if_true];by_cases h:i<0
   .simp only[h,if_true]<;>omega
   .simp only[h,if_false]<;>omega
 .cases hi with
  |none=>simp[sliceBounds,HT.aD]
  |some i=>
   simp only[sliceBounds,HT.aD,Option.getD_none,show(1:Int) > 0 by decide,if_true];by_cases h:i<0
   .simp only[h,if_true]<;>omega
   .simp only[h,if_false]<;>omega
theorem pH(its:List Value)(lo hi:Option Int):slicePick its.toArray lo hi none=((its.drop (HT.aD its.length 0 lo)).take (HT.aD its.length its.length hi - HT.aD its.length 0 lo)).toArray:=by
 obtain⟨h1,h2,h3⟩:=qf lo hi its.toArray.size;unfold slicePick;rw[h1,h2,h3];simp only[sliceRange_one,pick_run,List.size_toArray]<;>rfl
noncomputable def K4(K:PySem.W.Frag):V->Option Int->Option Int->Hp->VK->Prop:=λx lo hi H Q=>∃a xs,x=.ref a/\dI K H a xs/\∀p,H p=none->Q (.ref p) (upd H p (.lst (jQ xs lo hi)))
theorem BQ:jc X (K4 X.K):=by
 intro pins s σ H x v vl vu lo hi sl Q I rx hs pl pu h;obtain⟨a,xs,rfl,hx,q⟩:=h;cases rx;obtain⟨its,r,ht,hz⟩:=I.list hx;have hlen:=r.length;refine⟨"list",_,slot_list_getitem.lookup,ht.isList.typeIs,?_⟩;refine wpAny_getItem_list_slice ht.isList hs pl pu .none (by simp) ?_ (by rw[List.size_toArray]<;>omega);rw[pH,<-hlen];refine⟨.ref s.heap.objs.size,_,I.laid (t':=s.toks) (o:=.lst (jQ xs lo hi)) (λb ob q=>Heap.get?_push_of_some _ q) (Nat.le_refl _) ?_,rfl,q _ (I.hok.fresh (Nat.le_refl _))⟩;exact⟨Nat.le_trans (kW xs lo hi) hz,_,0,(r.drop (HT.aD xs.length 0 lo)).take (HT.aD xs.length xs.length hi - HT.aD xs.length 0 lo),Heap.get?_push_size _ rfl⟩
noncomputable def pM:V->Bool
 |.az=>true
 |.bl _=>true
 |.int _=>true
 |.str _=>true
 |_=>false
theorem jR:gD X (.builtin "len") (λxs H Q=>∃p ys,xs=[.ref p]/\(dI X.K H p ys\/cH X.K H p ys)/\Q (.int ys.length) H):=by
 intro pins s σ H xs us Q I r h;obtain⟨p,ys,rfl,hq,q⟩:=h;obtain⟨u,rfl,rx⟩:=vals1 r;cases rx;have hn:=ja;rcases hq with hq|hq
 .obtain⟨its,r',pl,hz⟩:=I.list hq;have hlen:=r'.length;exact Calls.call_len_list pl.isList (by simp only[List.size_toArray]<;>omega) ⟨.int ys.length,H,I.tok _,⟨s.toks+1,by rw[List.size_toArray,hlen]⟩,q⟩
 .obtain⟨its,r',pl,hz⟩:=I.tuple hq;have hlen:=r'.length;exact len_tuple pl (by simp only[List.size_toArray]<;>omega) ⟨.int ys.length,H,I.tok _,⟨s.toks+1,by rw[List.size_toArray,hlen]⟩,q⟩
theorem qg:gD X (.builtin "len") (λxs H Q=>∃z,xs=[.str z]/\z.length<=sizeLine/\Q (.int z.length) H):=by
 intro pins s σ H xs us Q I r h;obtain⟨z,rfl,hz,q⟩:=h;obtain⟨u,rfl,t,rfl⟩:=vals1 r;have hn:=ja;exact len_str (by omega) ⟨.int z.length,H,I.tok _,⟨_,rfl⟩,q⟩
theorem jE:gD X (.type "tuple") (λxs H Q=>∃p ys,xs=[.ref p]/\((dI X.K H p ys/\∀l,H l=none->Q (.ref l) (upd H l (.tup ys)))\/(cH X.K H p ys/\Q (.ref p) H))):=by
 intro pins s σ H xs us Q I r h;obtain⟨p,ys,rfl,h⟩:=h;obtain⟨u,rfl,rx⟩:=vals1 r;cases rx;rcases h with ⟨hq,q⟩|⟨hq,q⟩
 .obtain⟨its,r',pl,hz⟩:=I.list hq;have hlen:=r'.length;refine call_tuple_list pl.isList (λh' kp=>?_) (by simp only[List.size_toArray]<;>omega);have I1:Inv X pins σ H { s with heap:=h' }:=I.kept (t':=s.toks) kp;have I2:Inv X pins σ (upd H h'.objs.size (.tup ys)) { s with heap:=h'.push { cls:=.type "tuple",data:=.seq its.toArray }}:=
   I1.laid (t':=s.toks) (λb o e=>Heap.get?_push_of_some _ e) (Nat.le_refl _) (show cG X.prog X.w _ _ _ (.tup ys)from ⟨hz,its,r',IsTup.new _ _⟩)
  exact⟨.ref h'.objs.size,_,I2,rfl,q _ (I1.hok.fresh (Nat.le_refl _))⟩
 .obtain⟨its,r',pl,hz⟩:=I.tuple hq;exact call_tuple_same pl ⟨.ref p,H,I,rfl,q⟩
noncomputable def Av(K:PySem.W.Frag)(T:String)(x:V)(H:Hp):Prop:=match x with
 |.str _=>T = "str"
 |.int _=>T = "int"
 |.ref p=>(T = "list" /\∃xs,dI K H p xs)\/(T = "tuple" /\∃o,K.lookup p=some o/\o.cls=.type "tuple" /\o.dict=none)\/
   (T = "dict" /\((∃kvs,H p=some (.dK kvs))\/∃kvs,H p=some (.dT kvs)))\/(T = "set" /\∃S n,H p=some (.set S n))
 |_=>False
theorem D7{pins:List (Addr×Obj)}{σ:St}{H:Hp}{s:Shared}{T:String}{x:V}{v:Value}(I:Inv X pins σ H s)(r:RelV x v)(ty:Av X.K T x H) :
  s.TypeIs v T/\∀a,v=.ref a->∃ob,s.heap.get? a=some ob/\ob.dict=none:=by
 cases x with
 |str z=>
  obtain⟨t,rfl⟩:=r;cases (show T = "str" from ty);exact⟨typeIs_str s z t,λ_ e=>nomatch e⟩
 |int i=>
  obtain⟨t,rfl⟩:=r;cases (show T = "int" from ty);exact⟨typeIs_int s i t,λ_ e=>nomatch e⟩
 |ref p=>
  cases r;rcases ty with ⟨rfl,xs,hq⟩|⟨rfl,o,hk,hc,hd⟩|⟨rfl,hk⟩|⟨rfl,S,n,hk⟩
  .obtain⟨its,_,pl,_⟩:=I.list hq;refine⟨pl.isList.typeIs,λa e=>?_⟩;cases e;obtain⟨o,n,e,c,hd,_⟩:=pl;exact⟨o,e,hd⟩
  .refine⟨⟨o,I.dj p o hk,hc⟩,λa e=>?_⟩;cases e;exact⟨o,I.dj _ o hk,hd⟩
  .have z:∃o,s.heap.get? p=some o/\o.ExactDict:=by
    rcases hk with ⟨kvs,hk⟩|⟨kvs,hk⟩
    .obtain⟨_,_,_,_,o,_,_,e,ex,_⟩:=I.hok p _ hk;exact⟨o,e,ex⟩
    .obtain⟨_,_,_,_,o,_,_,e,ex,_⟩:=I.hok p _ hk;exact⟨o,e,ex⟩
   obtain⟨o,e,ex⟩:=z;refine⟨⟨o,e,ex.1⟩,λa e2=>?_⟩;cases e2;exact⟨o,e,ex.2.1⟩
  .obtain⟨o,_,_,_,e,ex,_⟩:=I.hok p _ hk;refine⟨⟨o,e,ex.1⟩,λa e2=>?_⟩;cases e2;exact⟨o,e,ex.2.1⟩
 |_=>exact False.elim ty
noncomputable def Mz(K:PySem.W.Frag)(T:String)(r:V->List V->Hp->VK->Prop)(to:TE)(t:TA):TE:=λσ H Q=>to σ H λx H1=>Av K T x H1/\t σ H1 λxs H2=>r x xs H2 Q
variable{o e:Expr}{es:List Expr}{to:TE}{t:TA}{name:Str}{apos cpos:Pos}{T id:String}{r:V->List V->Hp->VK->Prop}
theorem Ie (pa:PlainAttrs T) (slot:Slot T name id) (hty:typeOf (.builtin id)=pure (.type "method_descriptor")) (hm:vI X id r) (ho:PE X o to) (ha:PA X (e :: es) t)
  (hbase:attributeBase o name X.env (eval o X.env)=eval o X.env:=by rfl)
  (hfew:((backTo cpos (starEach (e :: es) X.env)).all (λx=>!x.1)&&(backToKw cpos (keywordEach [] X.env)).all (λx=>x.1.isSome)
   &&decide ((e :: es).length+([]:List Keyword).length+(if ([]:List Keyword).isEmpty then 0 else 1)<30))=true:=by rfl)
  (hline:(apos.endLine==cpos.line)=true:=by rfl) (hs:starEach (e :: es) X.env=(false,eval e X.env) :: starEach es X.env:=by rfl) (hplain:(backTo cpos (starEach es X.env)).any (·.1)=false:=by rfl) :
  PE X (.Call (.Attribute o name apos) (e :: es) [] cpos) (Mz X.K T r to t):=by
 intro pins s σ H Q I h;refine wpAny_Call_method_late hbase hfew hline rfl (bB (ho pins s σ H _ I h) λv s1 ⟨x,H1,I1,r1,ty,q1⟩=>?_);obtain⟨h1,h2⟩:=D7 I1 r1 ty;refine⟨T,id,pa,slot,hty,h1,h2,?_⟩;have hA:=ha cpos pins s1 σ H1 _ I1 q1;rw[hs]at hA ⊢;refine Calls.callWith_builtin (by show(false || (backTo cpos (starEach es X.env)).any (·.1))=false;rw[hplain]<;>rfl) (Calls.evalArgs_plain ?_);exact bB hA λus s2 ⟨vs,H2,I2,r2,q2⟩=>hm pins s2 σ H2 x vs v us Q I2 r1 r2 q2
end
end L2
namespace L2
open PySem PySem.Spec PyProof.Rows
noncomputable def JP(X:Cx)(id:String)(r:V->List V->Hp->VK->Prop):Prop:=
 ∀(pins:List (Addr×Obj)) (s:Shared) (σ:St) (H:Hp) (x:V) (xs:List V) (v:Value) (us:List Value) (Q:VK),Inv X pins σ H s->RelV x v->Vals xs us->r x xs H Q->
  wpAny (model X.prog X.w) X.A (call (.builtin id) (v :: us)) (EP X pins σ Q) X.xe s
theorem Vals.one:∀{x:V}{us:List Value},Vals [x] us->∃u,us=[u]/\RelV x u
 |_,_,.cons r .nil=>⟨_,rfl,r⟩
theorem Vals.rep{xs:List V}{us:List Value}(h:Vals xs us):∀k:Nat,Vals (List.replicate k xs).flatten (List.replicate k us).flatten
 |0=>.nil
 |k+1=>by
  rw[List.replicate_succ,List.replicate_succ,List.flatten_cons,List.flatten_cons];exact Vals.append h (Vals.rep h k)
theorem foldl_rep(its:List Value):∀(k:Nat) (acc:List Value),
  List.foldl (λx1 x2=>x1++x2) acc.toArray (List.replicate k its.toArray)=(acc++(List.replicate k its).flatten).toArray
 |0,acc=>by simp
 |k+1,acc=>by
  have e:acc.toArray++its.toArray=(acc++its).toArray:=by simp
  have e2:(acc++its)++(List.replicate k its).flatten=acc++(List.replicate (k+1) its).flatten:=by
   rw[List.replicate_succ,List.flatten_cons,List.append_assoc]
  rw[<-e2,<-foldl_rep its k (acc++its),<-e,List.replicate_succ,List.foldl_cons]
section
variable{X:Cx}{pins:List (Addr×Obj)}{σ:St}{H:Hp}{s:Shared}{l b:Addr}{xs ys zs:List V}
theorem Inv.D8{its its':List Value}{n:Nat}{f:Array Value->Array Value}{t':Nat}(I:Inv X pins σ H s)(hH:H l=some (.lst xs))
  (e:s.heap.get? l=some { cls:=.type "list",data:=.seq its.toArray n }) (hf:f its.toArray=its'.toArray) (hv:Vals ys its') (hz:ys.length<=sizeLine) :
  Inv X pins σ (upd H l (.lst ys)) { s with heap:=s.heap.update l (Obj.mapSeq f),toks:=t' }:=by
 have q:=PySem.IsL.update e f;rw[hf]at q;refine I.write (x:=l) (e:=l) (by rw[hH];exact trivial) (.inl rfl) (λb' u hb hu=>(Heap.get?_update_other s.heap (Obj.mapSeq f) (Ne.symm hb)).trans hu) ⟨_,q⟩ ?_;exact⟨hz,its',_,hv,q⟩
theorem Inv.yo{its:List Value}{t':Nat}(I:Inv X pins σ H s)(hv:Vals ys its)(hz:ys.length<=sizeLine) :
  Inv X pins σ (upd H s.heap.objs.size (.lst ys)) { s with heap:=s.heap.push { cls:=.type "list",data:=.seq its.toArray },toks:=t' }:=
 I.laid (λ_ _ q=>Heap.get?_push_of_some _ q) (Nat.le_refl _) ⟨hz,its,0,hv,Heap.get?_push_size _ rfl⟩
theorem Inv.fresh(I:Inv X pins σ H s):H s.heap.objs.size=none:=I.hok.fresh (Nat.le_refl _)
theorem Inv.jS (I:Inv X pins σ H s) (hH:H l=some (.lst xs)):xs.length<=sizeLine/\∃(its:List Value) (n:Nat),Vals xs its/\xs.length=its.length/\s.heap.get? l=some { cls:=.type "list",data:=.seq its.toArray n }:=by
 obtain⟨z,its,n,r,e⟩:=I.hok l _ hH;exact⟨z,its,n,r,r.length,e⟩
theorem qh{n:Nat}(h:n<=sizeLine):Builtin.List.listTooLong n=false:=by
 unfold Builtin.List.listTooLong;exact decide_eq_false (by omega)
end
section
variable{X:Cx}
noncomputable def BR:V->List V->Hp->VK->Prop:=λx vs H Q=>∃l xs y,x=.ref l/\vs=[y]/\H l=some (.lst xs)/\xs.length<sizeLine/\Q .az (upd H l (.lst (xs++[y])))
theorem oN:JP X "list.append" BR:=by
 intro pins s σ H x vs v us Q I rx rv h;obtain⟨l,xs,y,rfl,rfl,hH,hz,q⟩:=h;cases rx;obtain⟨u,rfl,ru⟩:=rv.one;obtain⟨z,its,n,r,hl,e⟩:=I.jS hH;refine call_meets F.slot_list_append ⟨_,e,rfl⟩ F.entry_list_append (F.args_list_append_2 _ _) (PySem.list_append l its.toArray n u (by rw[List.size_toArray];omega)) ⟨e,?_⟩;refine⟨.az,_,I.D8 (its':=its++[u]) hH e (by simp) (r.append (.cons ru .nil)) ?_,rfl,q⟩;rw[List.length_append,List.length_singleton];omega
noncomputable def BS:V->List V->Hp->VK->Prop:=λx vs H Q=>∃l b xs zs,x=.ref l/\vs=[.ref b]/\H l=some (.lst xs)/\H b=some (.lst zs)/\xs.length+zs.length<=sizeLine/\Q .az (upd H l (.lst (xs++zs)))
theorem vJ:JP X "list.extend" BS:=by
 intro pins s σ H x vs v us Q I rx rv h;obtain⟨l,b,xs,zs,rfl,rfl,hH,hB,hz,q⟩:=h;cases rx;obtain⟨u,rfl,ru⟩:=rv.one;cases ru;obtain⟨z,its,n,r,hl,e⟩:=I.jS hH;obtain⟨z2,its2,n2,r2,hl2,e2⟩:=I.jS hB;have hsz:its.toArray.size+its2.toArray.size<=sizeLine:=by rw[List.size_toArray,List.size_toArray];omega
 have ug:¬ (!its.toArray.isEmpty&&Builtin.List.listTooLong (its.toArray.size+its2.toArray.size))=true:=by
  rw[qh hsz,Bool.and_false];exact Bool.false_ne_true
 refine call_meets F.slot_list_extend ⟨_,e,rfl⟩ F.entry_list_extend (F.args_list_extend_2 _ _)
  (AutoSeq1.list_extend_list_list_0 l its.toArray n b its2.toArray n2 ug (by rw[List.size_toArray];omega) (by omega)) ⟨e,e2,?_⟩
 refine⟨.az,_,I.D8 (its':=its++its2) hH e (by simp) (r.append r2) ?_,rfl,q⟩;rw[List.length_append];omega
noncomputable def K5:R2:=λx y H Q=>∃l b xs zs,x=.ref l/\y=.ref b/\H l=some (.lst xs)/\H b=some (.lst zs)/\xs.length+zs.length<=sizeLine/\∀p,H p=none->Q (.ref p) (upd H p (.lst (xs++zs)))
theorem vK:cI X (binaryOp .Add) K5:=by
 intro pins s σ H x y v u Q I rx ry h;obtain⟨l,b,xs,zs,rfl,rfl,hH,hB,hz,q⟩:=h;cases rx;cases ry;obtain⟨z,its,n,r,hl,e⟩:=I.jS hH;obtain⟨z2,its2,n2,r2,hl2,e2⟩:=I.jS hB;refine PySem.P.add_list e e2 ?_ (by rw[List.size_toArray,List.size_toArray];omega);have ea:its.toArray++its2.toArray=(its++its2).toArray:=by simp
 rw[ea];exact⟨.ref _,_,I.yo (t':=s.toks) (r.append r2) (by rw[List.length_append];omega),rfl,q _ I.fresh⟩
noncomputable def K6:R2:=λx y H Q=>∃l k xs,x=.ref l/\y=.int k/\H l=some (.lst xs)/\-(2 ^ 63)<=k/\k<2 ^ 63/\xs.length*k.toNat<=sizeLine/\
 ∀p,H p=none->Q (.ref p) (upd H p (.lst (List.replicate k.toNat xs).flatten))
theorem len_rep{α:Type}(xs:List α)(k:Nat):(List.replicate k xs).flatten.length=k*xs.length:=by
 induction k with
 |zero=>simp
 |succ k ih=>rw[List.replicate_succ,List.flatten_cons,List.length_append,ih,Nat.succ_mul,Nat.add_comm]
theorem D9:cI X (binaryOp .Mult) K6:=by
 intro pins s σ H x y v u Q I rx ry h;obtain⟨l,k,xs,rfl,rfl,hH,h1,h2,hz,q⟩:=h;cases rx;obtain⟨t,rfl⟩:=ry;obtain⟨z,its,n,r,hl,e⟩:=I.jS hH;have hlen:its.toArray.size*k.toNat<=sizeLine:=by rw[List.size_toArray,<-hl];exact hz
 have hcap:¬ its.toArray.size*k.toNat > (2 ^ 63 - 1) / 8:=by
  have:(sizeLine:Nat)<=(2 ^ 63 - 1) / 8:=by decide
  omega
 have hfit:¬ (!Builtin.List.listFitsIndex k)=true:=by
  rw[fitsIndex_both h1 h2];exact Bool.false_ne_true
 have ug:¬ Builtin.List.listTooLong (its.toArray.size*k.toNat)=true:=by
  rw[qh hlen];exact Bool.false_ne_true
 have hnew:List.foldl (λx1 x2=>x1++x2) #[] (List.replicate (if its.toArray.isEmpty=true then 0 else k.toNat) its.toArray)=(List.replicate k.toNat its).flatten.toArray:=by
  have f0:∀m:Nat,List.foldl (λx1 x2=>x1++x2) #[] (List.replicate m its.toArray)=(List.replicate m its).flatten.toArray:=λm=>by
   have:=foldl_rep its m [];rw[List.nil_append]at this;exact this
  rw[f0];cases its with
  |nil=>simp
  |cons a r'=>rw[if_neg (by simp)]
 refine wpAny_binaryOp_repeat_ref (T:="list") (U:="int") (by decide) ⟨_,e,rfl⟩ (λs'=>typeIs_int s' k t) noFill_list_mul F.fills_int_mul F.slot_int_rmul repeat_list F.slot_int_index.lookup
  (call_meets F.slot_int_rmul (typeIs_int s k t) F.entry_int_rmul (F.args_int_rmul_2 _ _) (int___rmul___int_list k t l its.toArray n)
   ⟨e,rfl,⟨_,e,rfl⟩,call_meets F.slot_list_mul ⟨_,e,rfl⟩ F.entry_list_mul (F.args_list_mul_2 _ _) (AutoListH.list___mul___list_int_3 l its.toArray n k t hfit hcap ug) ⟨e,?_⟩⟩)
 rw[hnew];exact⟨.ref _,_,I.yo (t':=s.toks) (r.rep k.toNat) (by rw[len_rep,Nat.mul_comm];exact hz),rfl,q _ I.fresh⟩
end
section
variable{prog:Program}{w:World}{A:Around}{E:Value->Shared->Prop}{s:Shared}
end
section
variable{X:Cx}
end
end L2
namespace JQ
open PySem PySem.W PySem.Calls PyProof.Rows
theorem mE{P:Params}{h:Heap}:∀(ns:List Int) (vs:List Value),WellAll P h vs (ns.map WData.int)->IntsAre vs ns:=by
 intro ns;induction ns with
 |nil=>
  intro vs w;rw[List.map_nil]at w;cases w;exact .nil
 |cons n ns ih=>
  intro vs w;rw[List.map_cons]at w;cases w with
  |cons a b=>
   cases a;exact .cons _ _ (ih _ b)
theorem vL{l:OpenLaw}{n:Nat}(hn:l.most=some n){P:Params}{h:Heap}{args:List WData}{vals:List Value}
  (hpre:l.row.toRowW.claim.pre args=true) (hwl:WellAll P h vals args) :
  ∃a vs ns,vals=[Value.ref a]/\args=[WData.list (ns.map WData.int)]/\h.get? a=some { cls:=.type "list",data:=.seq vs.toArray }/\IntsAre vs ns/\ns.length<=n:=by
 have hsh:WShape.hasAll [] args [.list .int]=true:=(pre_splitW hpre).1;have hc:l.pre.holds [] { args:=args }=true:=(pre_splitW hpre).2;obtain⟨d,r,rfl,h1,h2⟩:=hasAllW_cons hsh;obtain rfl:=hasAllW_nil h2;obtain⟨xs,rfl,h3⟩:=hasW_list h1;obtain⟨ns,rfl⟩:=items_int h3;have hlen:ns.length<=n:=by
  unfold OpenLaw.pre at hc;have h4:(WTm.not (.lt (.lit (.int (n:Int))) (.len (.arg 0)))).holds [] { args:=[.list (ns.map .int)]}=true:=by
   have h4:=(holds_andW hc).1;rw[hn]at h4;exact h4
  have h5:=condW_of h4 (w_not (w_lt w_lit (w_len_list (w_arg rfl))));rw[List.length_map]at h5;refine Nat.le_of_not_lt λq=>?_;have q':(n:Int)<((ns.length:Nat):Int):=by omega
  first
   | (rw[decide_eq_true q']at h5;exact absurd h5 (by decide))
   | (simp at h5;omega)
 cases hwl with
 |cons w1 w2=>
  cases w2;cases w1 with
  |list ho hall=>exact⟨_,_,ns,rfl,rfl,ho,mE ns _ hall,hlen⟩
theorem vM(l:OpenLaw)(args:List WData):l.row.toRowW.claim.post args (.bool true) args=true:=
 postW_of (r:=l.row.toRowW) (X:=(true==true))
  (show WShape.has [] (.bool true) .bool=true by first|rfl|decide|simp[WShape.has,WShape.arms,WShape.armsAll])
  (show(WTm.eq .res (.lit (.bool true))).value [] { args:=args,res:=some (.bool true),after:=args }=some (.bool (true==true))from w_eq_bool (w_res rfl) w_lit) rfl
theorem rN{l:OpenLaw}{n:Nat}{q:Program}{loose:List Str}{XP:(Str->Option Value)->Heap->Prop}{YP:World->Heap->Prop}{d:DefRec}
  (hn:l.most=some n) (hdf:d.params.defaults=[])
  (call:∀(w:World) (s₀ s₁:Shared) (mg mb:Str->Option Value) (fa:Addr) (o:Obj) (pm cd doc:Value) (a:Addr) (vs:List Value) (ns:List Int),
   Ground q loose [] XP w s₀ mg mb s₁.heap->YP w s₁.heap->
   s₁.heap.get? fa=some o->o.data=.func (docDef d.name d.params d.body d.scope pm cd doc)->s₁.heap.CodeRec cd d.name->mg d.name=some (.ref fa)->
   s₁.heap.get? a=some { cls:=.type "list",data:=.seq vs.toArray }->IntsAre vs ns->ns.length<=n->s₁.gens = #[]->
   codeAny (model l.prog w) callerA (.call (.ref fa) ⟨[.ref a],[]⟩) (λr s'=>r=.ok (.ret (.bool true))/\OldK s₁.heap s'.heap/\s'.os=s₁.os/\AllBare s'.gens) s₁) :
  WalkO q loose XP YP l.row.toRowW d [] (λf vs=>PySem.call f vs):=by
 intro w s₀ s₁ mg mb G Y fa o pm cd doc dV kV ho hd hcd hD hmg hg args vals as hpre hlay hrd hwl hlo;obtain rfl:dV=.none:=Dflts.none hD hdf;obtain rfl:kV=.none:=Dflts.noKw hD;obtain⟨a,vs,ns,rfl,rfl,hobj,hints,hlen⟩:=vL hn hpre hwl;refine enter_call (codeAny_mono (call w s₀ s₁ mg mb fa o pm cd doc a vs ns G Y ho (fd_plain hd) hcd hmg hobj hints hlen hg) λr s' hq=>?_);obtain⟨rfl,h2,h3,h4⟩:=hq;exact⟨.inl ⟨.bool true,.bool true,[],rfl,λ_=>rfl,.bool true,vM l _,λ_=>⟨List.Pairwise.nil,λ_ hm=>(nomatch hm)⟩⟩,h2,h3,h4⟩
section
variable{prog:Program}{w:World}{A:Around}{E:Value->Shared->Prop}{s:Shared}{K:Frag}
end
end JQ
namespace L2
open PySem PySem.Spec PyProof.Rows
theorem oO:∀{vs:List Value}{ns:List Int},IntsAre vs ns->Vals (ns.map V.int) vs
 |_,_,.nil=>.nil
 |_,_,.cons n t h=>.cons ⟨t,rfl⟩ (oO h)
noncomputable def nH(H:Hp):Prop:=∀b,H b=none\/∃o xs,H b=some (.bq o (.lst xs))
theorem yp{P:Program}{w:World}{K:PySem.W.Frag}{mg mb:Str->Option Value}{CX:jb}{k:Nat}{fa a:Addr}{fd:FuncData}{x:Str}{sp:Sp}{s₁:Shared}{vs:List Value}{ns:List Int}
  (KX:K.In s₁.heap) (hns:s₁.heap.Ns mainGlobals mg) (hb:s₁.heap.Ns builtinsNs mb) (Ea:∀x:Str,x≠"__name__" ->mb x=bootBuiltins x) (hlim:s₁.heap.NoLimit) (hg:s₁.gens = #[])
  (ha:s₁.heap.get? a=some { cls:=.type "list",data:=.seq vs.toArray }) (hi:IntsAre vs ns) (hl:ns.length<=sizeLine) (hr:eT k callerA)
  (F:∀base:Heap,K.In base->base.Ns mainGlobals mg->dz P w K mg base CX k fa fd [x] sp) (hbind:∀(s:Shared) (u:Value),BindsTo s fd ⟨[u],[]⟩ [(x,u)])
  (fR:∀H:Hp,nH H->dI K H a (ns.map V.int)->sp [.ref a] H (λv _=>v=.bl true) λ_ _ _=>False)
  (vN:∀H e s',CX [] H s₁ (λ_ _ _=>False) e s'->False) :
  codeAny (model P w) callerA (.call (.ref fa) ⟨[.ref a],[]⟩) (λr s'=>r=.ok (.ret (.bool true))/\OldK s₁.heap s'.heap/\s'.os=s₁.os/\AllBare s'.gens) s₁:=by
 have rv:=oO hi;have K7:=hi.length;have core:∀H:Hp,nH H->dI K H a (ns.map V.int)->cV P w H s₁.heap->(∀b,H b≠none->b=a)->(H a≠none->K.lookup a=none)->
   codeAny (model P w) callerA (.call (.ref fa) ⟨[.ref a],[]⟩) (λr s'=>r=.ok (.ret (.bool true))/\OldK s₁.heap s'.heap/\s'.os=s₁.os/\AllBare s'.gens) s₁:=by
  intro H hO hS hok hA hK;have sE:∀{b:Addr} {o:Obj},s₁.heap.get? b=some o->H b=none->(jm s₁.heap H).get? b=some o:=λe n=>x6 e n;have vG:∀{b:Addr} {o:Obj} {es:Array DictEntry} {ep:Nat},s₁.heap.get? b=some o->o.data=.dict es ep->H b=none:=λ{b o es ep} e d=>by
   cases q:H b with
   |none=>rfl
   |some u=>
    have e':b=a:=hA b (by rw[q];simp);subst e';rw[ha]at e;cases e;have d':Data.seq vs.toArray _=Data.dict es ep:=d;cases d'
  have Aw:∀{b:Addr} {m:Str->Option Value},s₁.heap.Ns b m->(jm s₁.heap H).Ns b m:=λ{b m} ⟨o,es,ep,e,d,r⟩=>⟨o,es,ep,sE e (vG e d),d,r⟩
  have JR:K.In (jm s₁.heap H):=λb o e=>sE (KX b o e) (by
   cases q:H b with
   |none=>rfl
   |some u=>
    have e':b=a:=hA b (by rw[q];simp);subst e';rw[hK (by rw[q];simp)]at e;cases e)
  have hM:Mod K mg (jm s₁.heap H):=⟨JR,Aw hns,⟨mb,Aw hb,Ea⟩,let ⟨mc,h1,h2⟩:=hlim;⟨mc,Aw h1,h2⟩⟩
  have e0:nE P w K mg (jm s₁.heap H) callerA [] s₁ H:=⟨rfl,hM,λb o e=>Bt e,Nat.le_of_eq (vf _ _),trivial,λb hb=>absurd (show b∈([]:List Addr)from hb) (by simp),hok,.of_eq hg⟩
  refine codeAny_mono ((F _ JR (Aw hns)).run callerA [] s₁ H ⟨[.ref a],[]⟩ [.ref a] [.ref a] _ _ hr e0 (hbind s₁ (.ref a)) (.cons rfl .nil) (fR H hO hS)) λr s' h=>?_;cases r with
  |error e=>exact(vN H e s' h).elim
  |ok fl=>
   cases fl with
   |next=>exact False.elim h
   |brk=>exact False.elim h
   |cont=>exact False.elim h
   |ret u=>
    obtain⟨v,H',os,bare,un,K8,r',q⟩:=h;have q':v=.bl true:=q;subst q';obtain rfl:u=Value.bool true:=r';refine⟨rfl,OldK.of_keep λb o e=>?_,os,bare⟩;cases q:H b with
    |none=>exact un.keep b o e q (by intro z;exact absurd (show b∈([]:List Addr)from z) (by simp)) (by simp)
    |some u=>
     rcases hO b with z|⟨ob,xs,z⟩
     .rw[q]at z;cases z
     .have z2:=un.ir b ob _ z;obtain⟨e1,_⟩:=hok b _ z;obtain⟨e2,_⟩:=K8 b _ z2;rw[e]at e1;cases e1;exact e2
 cases hk:K.lookup a with
 |some o=>
  have e:=KX a o hk;rw[ha]at e;cases e;refine core (λ_=>none) (λ_=>.inl rfl) (.inr ⟨_,vs.toArray,_,hk,rfl,rfl,rfl,by rw[List.size_toArray,K7];exact hl,by simpa using rv⟩) (λb u z=>by have z':(none:Option HO)=some u:=z;cases z') (λb z=>absurd rfl z) λz=>absurd rfl z
 |none=>
  refine core (λb=>if b=a then some (.bq { cls:=.type "list",data:=.seq vs.toArray } (.lst (ns.map V.int)))else none) (λb=>?_) (.inl (.inr ⟨{ cls:=.type "list",data:=.seq vs.toArray },if_pos rfl⟩)) (λb u z=>?_) (λb z=>?_) λ_=>hk
  .by_cases hb:b=a
   .exact .inr ⟨_,_,if_pos hb⟩
   .exact .inl (if_neg hb)
  .by_cases hb:b=a
   .have z':=(if_pos hb).symm.trans z;cases z';subst hb;exact⟨ha,by rw[List.length_map];exact hl,vs,_,rv,ha⟩
   .have z':=(if_neg hb).symm.trans z;cases z'
  .by_cases hb:b=a
   .exact hb
   .exact absurd (if_neg hb) z
end L2
namespace L2
open PySem PySem.Spec PyProof.Rows
theorem BU{l:PySem.W.OpenLaw}{n k:Nat}{q:Program}{loose:List Str}{XP:(Str->Option Value)->Heap->Prop}{YP:World->Heap->Prop}{d:DefRec}{K:Params->PySem.W.Frag}{CX:World->jb}{sp:World->Sp}{x:Str}
  (hn:l.most=some n) (hn2:n<=sizeLine) (hdf:d.params.defaults=[]) (hr:eT k callerA)
  (hY:∀(w:World) (h:Heap),YP w h->(K w.params).In h)
  (F:∀(w:World) (mg:Str->Option Value) (fa:Addr) (h:Heap),(K w.params).In h->h.Ns mainGlobals mg->mg d.name=some (.ref fa)->
   ∃fd:FuncData,(∀(s:Shared) (u:Value),BindsTo s fd ⟨[u],[]⟩ [(x,u)])/\
    ∀base:Heap,(K w.params).In base->base.Ns mainGlobals mg->dz l.prog w (K w.params) mg base (CX w) k fa fd [x] (sp w))
  (fR:∀(w:World) (H:Hp) (a:Addr) (ns:List Int),ns.length<=n->nH H->dI (K w.params) H a (ns.map V.int)->sp w [.ref a] H (λv _=>v=.bl true) λ_ _ _=>False)
  (vN:∀(w:World) (H:Hp) (s:Shared) (e:Value) (s':Shared),CX w [] H s (λ_ _ _=>False) e s'->False) :
  PySem.W.WalkO q loose XP YP l.row.toRowW d [] (λf vs=>PySem.call f vs):=by
 refine JQ.rN hn hdf λw s₀ s₁ mg mb fa o pm cd doc a vs ns G Y ho hd hcd hmg hobj hints hlen hg=>?_;have KX:=hY w _ Y;obtain⟨fd,hb,hF⟩:=F w mg fa _ KX G.T.g hmg;exact yp KX G.T.g G.T.b G.T.builtins G.T.nolimit hg hobj hints (Nat.le_trans hlen hn2) hr hF hb (λH hO hS=>fR w H a ns hlen hO hS) λH e s'=>vN w H s₁ e s'
theorem yq{l:PySem.W.OpenLaw}{n k:Nat}{q:Program}{loose:List Str}{XP:(Str->Option Value)->Heap->Prop}{YP:World->Heap->Prop}{d:DefRec}{K:Params->PySem.W.Frag}{CX:jb}{sp:PySem.W.Frag->Sp}{x:Str}
  (hn:l.most=some n) (hn2:n<=sizeLine) (hdf:d.params.defaults=[]) (hr:eT k callerA)
  (hY:∀(w:World) (h:Heap),YP w h->(K w.params).In h)
  (F:∀(w:World) (mg:Str->Option Value) (fa:Addr) (h:Heap),(K w.params).In h->h.Ns mainGlobals mg->mg d.name=some (.ref fa)->
   ∃fd:FuncData,(∀(s:Shared) (u:Value),BindsTo s fd ⟨[u],[]⟩ [(x,u)])/\
    ∀base:Heap,(K w.params).In base->base.Ns mainGlobals mg->dz l.prog w (K w.params) mg base CX k fa fd [x] (sp (K w.params)))
  (fR:∀(K:PySem.W.Frag) (H:Hp) (a:Addr) (ns:List Int),ns.length<=n->nH H->dI K H a (ns.map V.int)->sp K [.ref a] H (λv _=>v=.bl true) λ_ _ _=>False)
  (vN:∀(H:Hp) (s:Shared) (e:Value) (s':Shared),CX [] H s (λ_ _ _=>False) e s'->False) :
  PySem.W.WalkO q loose XP YP l.row.toRowW d [] (λf vs=>PySem.call f vs):=
 BU (K:=K) (CX:=λ_=>CX) (sp:=λw=>sp (K w.params)) hn hn2 hdf hr hY F (λw H a ns h1 h2 h3=>fR (K w.params) H a ns h1 h2 h3) λ_ H s e s'=>vN H s e s'
end L2
namespace L2
open PySem PySem.Spec PyProof.Rows
noncomputable def kF(s:Stmt):Arguments:=match s with
 |.FunctionDef _ a _ _ _ _ _ _ _ _=>a
 |_=>{ posonlyargs:=[],args:=[],vararg:=none,kwonlyargs:=[],kw_defaults:=[],kwarg:=none,defaults:=[]}
noncomputable def cJ(s:Stmt):List Stmt:=match s with
 |.FunctionDef _ _ b _ _ _ _ _ _ _=>b
 |_=>[]
noncomputable def au(s:Stmt):Scope:=match s with
 |.FunctionDef _ _ _ _ _ _ sc _ _ _=>sc
 |_=>{ kind:=.function,names:=[],isGenerator:=false,isCoroutine:=false }
abbrev gU:jb:=λ_ _ _ _ _ _=>False
abbrev E0:XK:=λ_ _ _=>False
theorem Ig{X:Cx}:Passes gU X E0:=λ_ _ _ _ _ _ _ h=>h.elim
structure jF(K:PySem.W.Frag)(x qual:Str)(st:Stmt)(f:Addr)(fd:FuncData):Prop where
 ex:∃(oc:Value) (od:Option Addr) (kV doc pm:Value) (an:Option Addr) (cdv ct:Value) (osl:Array (Option Value)),
  fd=PySem.W.fnOf x qual (kF st) (cJ st) (au st) .none kV doc pm an cdv ct/\K.lookup f=some ⟨oc,od,.func fd,osl⟩/\PySem.W.codeIn K cdv qual=true
 kp:PySem.W.keepIn K (.ref f)=true
section
variable{P:Program}{w:World}{K:PySem.W.Frag}{mg:Str->Option Value}{base:Heap}
theorem jF.ok{x qual:Str}{st:Stmt}{f:Addr}{fd:FuncData}{N ps:List Str}{k:Nat}{sp:Sp}(F:jF K x qual st f fd)(S:bK N ps (au st))(len:∀vs H Q E,sp vs H Q E->vs.length=ps.length)
  (hbody:∀(cdv:Value) (A:Around) (outer:List Env) (s:Shared) (H:Hp) (vs:List V) (Q:VK) (E:XK),eT k (A.deeper (envOfC qual (au st) s.heap.objs.size f cdv))->sp vs H Q E->
   ∃t,dH (gP gU P w K mg base N qual (au st) f cdv A outer s H E).fO (cJ st) t/\t { nx:=λ_ H'=>Q .az H',rt:=Q } (start N vs) H):dz P w K mg base gU (k+1) f fd ps sp:=by
 obtain⟨oc,od,kV,doc,pm,an,cdv,ct,osl,rfl,lk,hcd⟩:=F.ex;refine Au lk hcd S len λA outer s H vs Q E hr fR=>?_;obtain⟨t,h,q⟩:=hbody cdv A outer s H vs Q E hr fR;exact⟨t,h.fO,q⟩
theorem jF.binds{x qual:Str}{st:Stmt}{f:Addr}{fd:FuncData}{ps:List Str}(F:jF K x qual st f fd)
  (h:∀(kV doc pm:Value) (an:Option Addr) (cdv ct:Value) (us:List Value),us.length=ps.length->bindArgs (PySem.W.fnOf x qual (kF st) (cJ st) (au st) .none kV doc pm an cdv ct) ⟨us,[]⟩=pure (ps.zip us)):Binds K fd ps []:=by
 obtain⟨oc,od,kV,doc,pm,an,cdv,ct,osl,rfl,lk,hcd⟩:=F.ex;exact .all (h kV doc pm an cdv ct)
theorem cW{x qual:Str}{st:Stmt}{f:Addr}{oc:Value}{od an:Option Addr}{osl:Array (Option Value)}{kV doc pm cdv ct:Value}(l:K.lookup f=some ⟨oc,od,.func (PySem.W.fnOf x qual (kF st) (cJ st) (au st) .none kV doc pm an cdv ct),osl⟩)
  (c:PySem.W.codeIn K cdv qual=true) (k:PySem.W.keepIn K (.ref f)=true):jF K x qual st f (PySem.W.fnOf x qual (kF st) (cJ st) (au st) .none kV doc pm an cdv ct):=⟨⟨oc,od,kV,doc,pm,an,cdv,ct,osl,rfl,l,c⟩,k⟩
end
section
variable{X:Cx}
theorem pv (i:Nat) {x:Str}{pos:Pos}(hN:X.N[i]?=some x:=by rfl) (hv:oA X.env.scope x:=by first|exact Or.inl rfl|exact Or.inr (Or.inl rfl)|exact Or.inr (Or.inr rfl)) (hd:(x==("__debug__" : Str))=false:=by decide)
  (hcd:(x==("__classdict__" : Str))=false:=by decide):PE X (.Name x pos) (DF i):=mq hN hv hd hcd
end
end L2
set_option maxRecDepth 100000
namespace L2
open PySem PySem.Spec PyProof.Rows
section
variable{κ:Type}[DecidableEq κ]
end
section
variable{P:Program}{w:World}{H:Hp}{h:Heap}{a:Addr}
end
section
variable{X:Cx}{pins:List (Addr×Obj)}{σ:St}{H:Hp}{s:Shared}{a:Addr}{y v:V}{u r:Value}{o:Option V}{A:Around}{E:Value->Shared->Prop}
end
section
variable{X:Cx}{pins:List (Addr×Obj)}{σ:St}{H:Hp}{s:Shared}{a:Addr}{kvs:List (Key×V)}{k:Key}{u:Value}{A:Around}{E:Value->Shared->Prop}
end
section
variable{X:Cx}{o i e value:Expr}{pos pos' tpos:Pos}{td ty tv:TE}
end
section
variable{X:Cx}{pos:Pos}
end
structure M1(X:Cx)(o:Expr)(m:Str)(apos:Pos)(e:Expr)(cpos:Pos):Prop where
 base:attributeBase o m X.env (eval o X.env)=eval o X.env
 few:((backTo cpos (starEach [e] X.env)).all (λx=>!x.1)&&(backToKw cpos (keywordEach [] X.env)).all (λx=>x.1.isSome)
  &&decide (([e]:List Expr).length+([]:List Keyword).length+(if ([]:List Keyword).isEmpty then 0 else 1)<30))=true
 line:(apos.endLine==cpos.line)=true
 trees:backTo cpos (starEach [e] X.env)=[(false,eval e X.env)]
structure M2(X:Cx)(o:Expr)(m:Str)(apos:Pos)(e f:Expr)(cpos:Pos):Prop where
 base:attributeBase o m X.env (eval o X.env)=eval o X.env
 few:((backTo cpos (starEach [e,f] X.env)).all (λx=>!x.1)&&(backToKw cpos (keywordEach [] X.env)).all (λx=>x.1.isSome)
  &&decide (([e,f]:List Expr).length+([]:List Keyword).length+(if ([]:List Keyword).isEmpty then 0 else 1)<30))=true
 line:(apos.endLine==cpos.line)=true
 trees:backTo cpos (starEach [e,f] X.env)=[(false,eval e X.env),(false,eval f X.env)]
section
variable{X:Cx}{pins:List (Addr×Obj)}{σ:St}{H:Hp}{s:Shared}{a:Addr}{y d:V}{u r:Value}{o:Option V}{A:Around}{E:Value->Shared->Prop}
end
section
variable{X:Cx}{o e f:Expr}{apos cpos:Pos}{td ty tx:TE}
end
end L2
namespace Ev
inductive D where
 |az|bl (b:Bool)|int (i:Int)|str (s:List Nat)|tup (ds:List D)|ref (n:Nat)
inductive O where
 |lst (ds:List D)|bq (ds:List D)
abbrev Hh:=List O
abbrev Fr:=List (Option D)
inductive R(α:Type) where
 |ok (a:α) (h:Hh)
 |bad
noncomputable def R.bind{α β:Type}(r:R α)(f:α->Hh->R β):R β:=
 match r with
 |.ok a h=>f a h
 |.bad=>.bad
@[simp] theorem aj{α β:Type}(a:α)(h:Hh)(f:α->Hh->R β):(R.ok a h).bind f=f a h:=rfl
@[simp] theorem yr{α β:Type}(f:α->Hh->R β):(R.bad:R α).bind f=.bad:=rfl
theorem ah{α β:Type}{r:R α}{f:α->Hh->R β}{b:β}{h:Hh}(e:r.bind f=.ok b h):∃a h1,r=.ok a h1/\f a h1=.ok b h:=by
 cases r with
 |ok a h1=>exact⟨a,h1,rfl,e⟩
 |bad=>cases e
noncomputable def R.of{α:Type}(o:Option α)(h:Hh):R α:=match o with
 |some a=>.ok a h
 |none=>.bad
@[simp] theorem cy{α:Type}(a:α)(h:Hh):R.of (some a) h=.ok a h:=rfl
@[simp] theorem of_none{α:Type}(h:Hh):R.of (none:Option α) h=.bad:=rfl
theorem aE{α:Type}{o:Option α}{h h':Hh}{a:α}(e:R.of o h=.ok a h'):o=some a/\h'=h:=by
 cases o with
 |none=>cases e
 |some b=>cases e;exact⟨rfl,rfl⟩
inductive aU where
 |add|sub|mul|fdiv|mod
inductive aP where
 |eq|ne|lt|gt
 |oQ|lJ
inductive TY where
 |int|bool|str|tuple|list
inductive BI where
 |len|sum|min
inductive ME where
 |join|append|extend|pop
inductive T where
 |one (i:Nat)|many (l:List Nat)
mutual
inductive E where
 |c (d:D)|v (i:Nat)|tup (es:Es)|lst (es:Es)
 |bin (o:aU) (a b:E)|cmp (o:aP) (a b:E)
 |nt (a:E)|neg (a:E)|an (a b:E)|orr (a b:E)|fG (t a b:E)
 |ix (a b:E)|sl (a:E) (lo hi:Eo)
 |cl (f:Nat) (es:Es)|bi (b:BI) (es:Es)|me (m:ME) (o:E) (es:Es)
 |eX (a:E) (ts:List TY)
 |comp (elt:E) (t:T) (it:It) (cond:Eo)
 |gW (it:It)
 |gQ (kvs:List (D×D)) (a:E)|gG (a:E)
inductive Es where
 |nil|cons (e:E) (es:Es)
inductive Eo where
 |no|yes (e:E)
inductive It where
 |seq (e:E)|gj (es:Es)
 |enum (a:E)|rev (a:E)
end
mutual
inductive S where
 |set (i:Nat) (e:E)|jT (l:List Nat) (e:E)
 |exp (e:E)|ret (e:E)|iff (t:E) (a b:Ss)|for (t:T) (it:It) (b:Ss)|jU (t:E) (b:Ss)
 |cX (c:Nat)
 |tr (f k:Nat) (es:Es)
inductive Ss where
 |nil|cons (s:S) (ss:Ss)
end
inductive Fl where
 |nx|bk|ct|ret (d:D)
noncomputable def big:Nat:=16777216
noncomputable def bU(f:D->D->Option Bool):List D->List D->Option Bool
 |[],[]=>some true
 |x :: xs,y :: ys=>do
  let b <-f x y
  let c <-bU f xs ys
  pure (b&&c)
 |_,_=>some false
noncomputable def aH(h:Hh)(n:Nat):Option (List D):=match h[n]? with
 |some (.lst ds)=>some ds
 |some (.bq ds)=>some ds
 |_=>none
noncomputable def b2i(b:Bool):Int:=if b then 1 else 0
noncomputable def iz(h:Hh)(f:D->D->Option Bool)(a b:Nat):Option Bool:=if a=b then (aH h a).map λ_=>true else match h[a]?,h[b]? with
 |some (.lst x),some (.lst y)=>bU f x y
 |some (.bq x),some (.lst y)=>bU f x y
 |some (.lst x),some (.bq y)=>bU f x y
 |_,_=>none
noncomputable def gk(h:Hh):Nat->D->D->Option Bool
 |0,_,_=>none
 |_+1,.az,.az=>some true
 |_+1,.bl a,.bl b=>some (a==b)
 |_+1,.int a,.int b=>some (a==b)
 |_+1,.bl a,.int b=>some (b2i a==b)
 |_+1,.int a,.bl b=>some (a==b2i b)
 |_+1,.str a,.str b=>some (a==b)
 |n+1,.tup a,.tup b=>bU (gk h n) a b
 |n+1,.ref a,.ref b=>iz h (gk h n) a b
 |_+1,.ref a,_=>(aH h a).map λ_=>false
 |_+1,_,.ref a=>(aH h a).map λ_=>false
 |_+1,_,_=>some false
noncomputable def deep:Nat:=20
noncomputable def truthy(h:Hh):D->Option Bool
 |.az=>some false
 |.bl b=>some b
 |.int i=>some (i != 0)
 |.str s=>some (!s.isEmpty)
 |.tup ds=>some (!ds.isEmpty)
 |.ref n=>(aH h n).map λds=>!ds.isEmpty
noncomputable def alloc(ds:List D)(h:Hh):R D:=if ds.length<=big then .ok (.ref h.length) (h++[.lst ds])else .bad
noncomputable def rep{α:Type}(k:Nat)(l:List α):List α:=(List.replicate k l).flatten
noncomputable def bL(i j:Int):Bool:=(decide (-(2 ^ 64)<i)&&decide (i<2 ^ 64)) || (decide (-(2 ^ 64)<j)&&decide (j<2 ^ 64))
noncomputable def bI:aU->D->D->Hh->R D
 |.add,.int i,.int j,h=>.ok (.int (i+j)) h
 |.add,.str a,.str b,h=>if a.length+b.length<=big then .ok (.str (a++b)) h else .bad
 |.add,.tup a,.tup b,h=>if a.length+b.length<=big then .ok (.tup (a++b)) h else .bad
 |.add,.ref a,.ref b,h=>match h[a]?,h[b]? with
  |some (.lst x),some (.lst y)=>alloc (x++y) h
  |_,_=>.bad
 |.sub,.int i,.int j,h=>.ok (.int (i - j)) h
 |.mul,.int i,.int j,h=>if bL i j then .ok (.int (i*j)) h else .bad
 |.mul,.str a,.int k,h=>if 0<=k/\k<=1000/\a.length<=1000 then .ok (.str (rep k.toNat a)) h else .bad
 |.mul,.tup a,.int k,h=>if 0<=k/\k<=1000/\a.length<=1000 then .ok (.tup (rep k.toNat a)) h else .bad
 |.mul,.ref a,.int k,h=>match h[a]? with
  |some (.lst x)=>if 0<=k/\k<=1000/\x.length<=1000 then alloc (rep k.toNat x) h else .bad
  |_=>.bad
 |.fdiv,.int i,.int j,h=>if 0<j/\j<1073741824 then .ok (.int (i / j)) h else .bad
 |.mod,.int i,.int j,h=>if 0<j then .ok (.int (i % j)) h else .bad
 |_,_,_,_=>.bad
noncomputable def cop(o:aP)(x y:D)(h:Hh):Option Bool:=match o,x,y with
 |.eq,x,y=>gk h deep x y
 |.ne,x,y=>(gk h deep x y).map (!·)
 |.lt,.int i,.int j=>some (decide (i<j))
 |.gt,.int i,.int j=>some (decide (j<i))
 |.oQ,x,.az=>some (match x with|.az=>true|_=>false)
 |.lJ,x,.az=>some (match x with|.az=>false|_=>true)
 |_,_,_=>none
noncomputable def cT(n:Nat)(i:Int):Option Nat:=if 0<=i then (if i<n then some i.toNat else none)else if -(n:Int)<=i then some (i+n).toNat else none
noncomputable def bh{α:Type}(xs:List α)(i:Int):Option α:=(cT xs.length i).bind λj=>xs[j]?
noncomputable def eY(x y:D)(h:Hh):Option D:=match x,y with
 |.tup ds,.int i=>bh ds i
 |.str s,.int i=>(bh s i).map λc=>.str [c]
 |.ref n,.int i=>(aH h n).bind λds=>bh ds i
 |_,_=>none
noncomputable def aD(n d:Nat):Option Int->Nat
 |none=>d
 |some v=>if v<0 then (v+n).toNat else min v.toNat n
noncomputable def cut{α:Type}(xs:List α)(lo hi:Option Int):List α:=(xs.drop (aD xs.length 0 lo)).take (aD xs.length xs.length hi - aD xs.length 0 lo)
noncomputable def fH(x:D)(lo hi:Option Int)(h:Hh):R D:=match x with
 |.tup ds=>.ok (.tup (cut ds lo hi)) h
 |.str s=>.ok (.str (cut s lo hi)) h
 |.ref n=>match aH h n with
  |some ds=>alloc (cut ds lo hi) h
  |none=>.bad
 |_=>.bad
noncomputable def cz(h:Hh):D->TY->Bool
 |.bl _,.bool=>true
 |.bl _,.int=>true
 |.int _,.int=>true
 |.str _,.str=>true
 |.tup _,.tuple=>true
 |.ref n,.list=>(aH h n).isSome
 |_,_=>false
noncomputable def boolsOf:List D->Option (List Bool)
 |[]=>some []
 |.bl b :: ds=>(boolsOf ds).map λr=>b :: r
 |_=>none
noncomputable def intsOf:List D->Option (List Int)
 |[]=>some []
 |.int i :: ds=>(intsOf ds).map λr=>i :: r
 |_=>none
noncomputable def strsOf:List D->Option (List (List Nat))
 |[]=>some []
 |.str s :: ds=>(strsOf ds).map λr=>s :: r
 |_=>none
noncomputable def bO(sep:List Nat):List (List Nat)->List Nat
 |[]=>[]
 |[s]=>s
 |s :: t :: r=>s++sep++bO sep (t :: r)
noncomputable def lexLe:List Nat->List Nat->Bool
 |[],_=>true
 |_ :: _,[]=>false
 |x :: xs,y :: ys=>if x=y then lexLe xs ys else decide (x<y)
noncomputable def Eb(x:List Nat):List (List Nat)->List (List Nat)
 |[]=>[x]
 |y :: ys=>if lexLe x y then x :: y :: ys else y :: Eb x ys
noncomputable def cP:List (List Nat)->List (List Nat)
 |[]=>[]
 |x :: xs=>Eb x (cP xs)
noncomputable def dS(b:BI)(xs:List D)(h:Hh):R D:=match b,xs with
 |.len,[.str s]=>if s.length<=big then .ok (.int s.length) h else .bad
 |.len,[.tup ds]=>.ok (.int ds.length) h
 |.len,[.ref n]=>R.of ((aH h n).map λds=>.int ds.length) h
 |.sum,[.ref n]=>R.of (((aH h n).bind intsOf).map λis=>.int is.sum) h
 |.min,[.int i,.int j]=>.ok (.int (if j<i then j else i)) h
 |_,_=>.bad
noncomputable def dZ(m:ME)(o:D)(xs:List D)(h:Hh):R D:=match m,o,xs with
 |.join,.str sep,[.ref n]=>match (aH h n).bind strsOf with
  |some ss=>if (ss.map (·.length)).sum+ss.length*sep.length<=big then .ok (.str (bO sep ss)) h else .bad
  |none=>.bad
 |.append,.ref n,[x]=>match h[n]? with
  |some (.lst ds)=>if ds.length<big then .ok .az (h.set n (.lst (ds++[x])))else .bad
  |_=>.bad
 |.extend,.ref n,[.ref m]=>match h[n]?,h[m]? with
  |some (.lst ds),some (.lst es)=>if ds.length+es.length<=big then .ok .az (h.set n (.lst (ds++es)))else .bad
  |_,_=>.bad
 |.pop,.ref n,[]=>match h[n]? with
  |some (.lst ds)=>match ds[ds.length - 1]? with
   |some x=>.ok x (h.set n (.lst ds.dropLast))
   |none=>.bad
  |_=>.bad
 |_,_,_=>.bad
noncomputable def mF(m:ME)(x:D)(h:Hh):Bool:=match m,x with
 |.join,.str _=>true
 |.join,_=>false
 |_,.ref n=>(aH h n).isSome
 |_,_=>false
noncomputable def fS(x:D):List (D×D)->Option D
 |[]=>none
 | (k,v) :: r=>match gk [] 1 k x with
  |some true=>some v
  |some false=>fS x r
  |none=>none
abbrev Src:=List D×List (Nat×List D)
noncomputable def eF(h:Hh):D->Option Src
 |.tup ds=>some (ds,[])
 |.str s=>some (s.map λc=>.str [c],[])
 |.ref n=>(aH h n).map λds=>(ds,[(n,ds)])
 |_=>none
noncomputable def range(lo:Int)(n:Nat):List D:=(List.range n).map λ(i:Nat)=>.int (lo+i)
noncomputable def dN:List D->Option Src
 |[.int j]=>if -(2 ^ 62)<=j/\j<2 ^ 62 then some (range 0 j.toNat,[])else none
 |[.int i,.int j]=>if -(2 ^ 62)<=i/\i<2 ^ 62/\-(2 ^ 62)<=j/\j<2 ^ 62 then some (range i (j - i).toNat,[])else none
 |_=>none
noncomputable def fj:Int->List D->List D
 |_,[]=>[]
 |k,x :: xs=>.tup [.int k,x] :: fj (k+1) xs
noncomputable def uh(a b:List D):Bool:=@decide (a=b) (Classical.propDecidable _)
theorem oR(a b:List D):uh a b=true↔a=b:=@decide_eq_true_iff _ (Classical.propDecidable _)
@[simp] theorem um(a:List D):uh a a=true:=(oR a a).mpr rfl
noncomputable def stays(h:Hh):List (Nat×List D)->Bool
 |[]=>true
 | (n,ds) :: r=>(match aH h n with|some es=>uh es ds|none=>false)&&stays h r
noncomputable def bP:List Nat->List D->Fr->Option Fr
 |[],[],fr=>some fr
 |i :: is,d :: ds,fr=>bP is ds (fr.set i (some d))
 |_,_,_=>none
noncomputable def aZ:T->D->Fr->Option Fr
 |.one i,d,fr=>some (fr.set i (some d))
 |.many l,.tup ds,fr=>bP l ds fr
 |_,_,_=>none
noncomputable def slots:T->List Nat
 |.one i=>[i]
 |.many l=>l
noncomputable def undef(t:T)(fr:Fr):Bool:=(slots t).all λi=>(fr[i]?.join).isNone
noncomputable def Ec:D->Option (List D)
 |.tup ds=>some ds
 |_=>none
noncomputable def nI:D->Hh->R D
 |.tup ds,h=>.ok (.tup ds) h
 |.ref n,h=>match aH h n with
  |some ds=>if ds.length<=big then .ok (.tup ds) h else .bad
  |none=>.bad
 |_,_=>.bad
noncomputable def yt(h:Hh):D->Option Src
 |.ref n=>(aH h n).map λds=>(ds,[(n,ds)])
 |_=>none
noncomputable def bZ(f:D->Hh->R (Option D))(ck:List (Nat×List D)):List D->Hh->R (List D)
 |[],h=>if stays h ck then .ok [] h else .bad
 |d :: ds,h=>if stays h ck then (f d h).bind λo h1=>(bZ f ck ds h1).bind λr h2=>.ok (o.toList++r) h2 else .bad
noncomputable def forL(f:D->Fr->Hh->R (Fl×Fr))(ck:List (Nat×List D)):List D->Fr->Hh->R (Fl×Fr)
 |[],fr,h=>if stays h ck then .ok (.nx,fr) h else .bad
 |d :: ds,fr,h=>if stays h ck then (f d fr h).bind λp h1=>match p.1 with
   |.nx=>forL f ck ds p.2 h1
   |.ct=>forL f ck ds p.2 h1
   |.bk=>.ok (.nx,p.2) h1
   |.ret x=>.ok (.ret x,p.2) h1
  else .bad
noncomputable def dB(t:Fr->Hh->R Bool)(f:Fr->Hh->R (Fl×Fr)):Nat->Fr->Hh->R (Fl×Fr)
 |0,_,_=>.bad
 |n+1,fr,h=>(t fr h).bind λb h1=>if b then (f fr h1).bind λp h2=>match p.1 with
   |.nx=>dB t f n p.2 h2
   |.ct=>dB t f n p.2 h2
   |.bk=>.ok (.nx,p.2) h2
   |.ret x=>.ok (.ret x,p.2) h2
  else .ok (.nx,fr) h1
abbrev ay:=Nat->List D->Hh->R D
noncomputable def intOf:D->Option Int
 |.int i=>some i
 |_=>none
mutual
noncomputable def ev(P:ay):E->Fr->Hh->R D
 |.c d,_,h=>.ok d h
 |.v i,fr,h=>R.of (fr[i]?.join) h
 |.tup es,fr,h=>(bz P es fr h).bind λds h1=>if ds.length<=big then .ok (.tup ds) h1 else .bad
 |.lst es,fr,h=>(bz P es fr h).bind λds h1=>alloc ds h1
 |.bin o a b,fr,h=>(ev P a fr h).bind λx h1=>(ev P b fr h1).bind λy h2=>bI o x y h2
 |.cmp o a b,fr,h=>(ev P a fr h).bind λx h1=>(ev P b fr h1).bind λy h2=>R.of ((cop o x y h2).map .bl) h2
 |.nt a,fr,h=>(ev P a fr h).bind λx h1=>match x with
   |.bl b=>.ok (.bl (!b)) h1
   |_=>.bad
 |.neg a,fr,h=>(ev P a fr h).bind λx h1=>match x with
   |.int i=>.ok (.int (-i)) h1
   |_=>.bad
 |.an a b,fr,h=>(ev P a fr h).bind λx h1=>match x with
   |.bl true=>ev P b fr h1
   |.bl false=>.ok (.bl false) h1
   |_=>.bad
 |.orr a b,fr,h=>(ev P a fr h).bind λx h1=>match x with
   |.bl true=>.ok (.bl true) h1
   |.bl false=>ev P b fr h1
   |_=>.bad
 |.fG t a b,fr,h=>(av P t fr h).bind λk h1=>if k then ev P a fr h1 else ev P b fr h1
 |.ix a b,fr,h=>(ev P a fr h).bind λx h1=>(ev P b fr h1).bind λy h2=>R.of (eY x y h2) h2
 |.sl a lo hi,fr,h=>(ev P a fr h).bind λx h1=>(dU P lo fr h1).bind λl h2=>(dU P hi fr h2).bind λu h3=>fH x l u h3
 |.cl f es,fr,h=>(bz P es fr h).bind λds h1=>P f ds h1
 |.bi b es,fr,h=>(bz P es fr h).bind λds h1=>dS b ds h1
 |.me m o es,fr,h=>(ev P o fr h).bind λx h1=>if mF m x h1 then (bz P es fr h1).bind λds h2=>dZ m x ds h2 else .bad
 |.eX a ts,fr,h=>(ev P a fr h).bind λx h1=>.ok (.bl (ts.any (cz h1 x))) h1
 |.comp elt t it cond,fr,h=>(b9 P it fr h).bind λs h1=>if undef t fr then
   (bZ (λd h2=>match aZ t d fr with
    |none=>.bad
    |some ak=>(gX P cond ak h2).bind λk h3=>if k then (ev P elt ak h3).bind λx h4=>.ok (some x) h4 else .ok none h3) s.2 s.1 h1).bind λds h2=>alloc ds h2 else .bad
 |.gW it,fr,h=>(b9 P it fr h).bind λs h1=>alloc s.1 h1
 |.gQ kvs a,fr,h=>(ev P a fr h).bind λx h1=>R.of (fS x kvs) h1
 |.gG a,fr,h=>(ev P a fr h).bind λx h1=>nI x h1
noncomputable def bz(P:ay):Es->Fr->Hh->R (List D)
 |.nil,_,h=>.ok [] h
 |.cons e es,fr,h=>(ev P e fr h).bind λd h1=>(bz P es fr h1).bind λds h2=>.ok (d :: ds) h2
noncomputable def dU(P:ay):Eo->Fr->Hh->R (Option Int)
 |.no,_,h=>.ok none h
 |.yes e,fr,h=>(ev P e fr h).bind λd h1=>R.of ((intOf d).map some) h1
noncomputable def gX(P:ay):Eo->Fr->Hh->R Bool
 |.no,_,h=>.ok true h
 |.yes e,fr,h=>av P e fr h
noncomputable def av(P:ay):E->Fr->Hh->R Bool
 |.an a b,fr,h=>(av P a fr h).bind λk h1=>if k then av P b fr h1 else .ok false h1
 |.orr a b,fr,h=>(av P a fr h).bind λk h1=>if k then .ok true h1 else av P b fr h1
 |.nt a,fr,h=>(av P a fr h).bind λk h1=>.ok (!k) h1
 |e,fr,h=>(ev P e fr h).bind λx h1=>R.of (truthy h1 x) h1
noncomputable def b9(P:ay):It->Fr->Hh->R Src
 |.seq e,fr,h=>(ev P e fr h).bind λx h1=>R.of (eF h1 x) h1
 |.gj es,fr,h=>(bz P es fr h).bind λds h1=>R.of (dN ds) h1
 |.enum a,fr,h=>(ev P a fr h).bind λx h1=>R.of ((yt h1 x).map λs=>(fj 0 s.1,s.2)) h1
 |.rev a,fr,h=>(ev P a fr h).bind λx h1=>R.of ((Ec x).map λds=>(ds.reverse,[])) h1
end
noncomputable def xo:Nat:=1000
noncomputable def yu(k:Nat):D->Option D
 |.int c=>if 0<=c/\c<k then some (.tup [.str [114,101,102,117,115,101,100],.int c])else none
 |_=>none
noncomputable def tryD(k:Nat):R D->R D->R D
 |.ok d h,_=>.ok d h
 |.bad,q=>q.bind λc h=>R.of (yu k c) h
mutual
noncomputable def ex(P:ay)(w:Nat):S->Fr->Hh->R (Fl×Fr)
 |.set i e,fr,h=>(ev P e fr h).bind λx h1=>.ok (.nx,fr.set i (some x)) h1
 |.jT l e,fr,h=>(ev P e fr h).bind λx h1=>match aZ (.many l) x fr with
   |some ak=>.ok (.nx,ak) h1
   |none=>.bad
 |.exp e,fr,h=>(ev P e fr h).bind λ_ h1=>.ok (.nx,fr) h1
 |.ret e,fr,h=>(ev P e fr h).bind λx h1=>.ok (.ret x,fr) h1
 |.iff t a b,fr,h=>(av P t fr h).bind λk h1=>if k then exs P w a fr h1 else exs P w b fr h1
 |.for t it b,fr,h=>(b9 P it fr h).bind λs h1=>forL (λd ak h2=>match aZ t d ak with
   |some bw=>exs P w b bw h2
   |none=>.bad) s.2 s.1 fr h1
 |.jU t b,fr,h=>dB (λak h2=>av P t ak h2) (λak h2=>exs P w b ak h2) w fr h
 |.cX _,_,_=>.bad
 |.tr f k es,fr,h=>(bz P es fr h).bind λds h1=>(tryD k (P f ds h1) (P (f+xo) ds h1)).bind λx h2=>.ok (.ret x,fr) h2
noncomputable def exs(P:ay)(w:Nat):Ss->Fr->Hh->R (Fl×Fr)
 |.nil,fr,h=>.ok (.nx,fr) h
 |.cons s ss,fr,h=>(ex P w s fr h).bind λp h1=>match p.1 with
   |.nx=>exs P w ss p.2 h1
   |_=>.ok p h1
end
structure Fn where
 np:Nat
 ns:Nat
 body:Ss
noncomputable def cK(fn:Fn)(ds:List D):Fr:=ds.map some++List.replicate (fn.ns - fn.np) none
noncomputable def endOf(r:R (Fl×Fr)):R D:=r.bind λp h=>match p.1 with
 |.ret d=>.ok d h
 |.nx=>.ok .az h
 |_=>.bad
abbrev XR:=Option (Nat×Hh)
abbrev bS:=Nat->List D->Hh->XR
mutual
noncomputable def xe(P:ay)(X:bS):E->Fr->Hh->XR
 |.cl f es,fr,h=>match bz P es fr h with
  |.ok ds h1=>X f ds h1
  |.bad=>xa P X es fr h
 |.ix a _,fr,h=>xe P X a fr h
 |.me m o es,fr,h=>match ev P o fr h with
  |.ok x h1=>if mF m x h1 then xa P X es fr h1 else none
  |.bad=>none
 |_,_,_=>none
noncomputable def xa(P:ay)(X:bS):Es->Fr->Hh->XR
 |.nil,_,_=>none
 |.cons e es,fr,h=>match ev P e fr h with
  |.ok _ h1=>xa P X es fr h1
  |.bad=>xe P X e fr h
end
noncomputable def dO(f:D->Fr->Hh->R (Fl×Fr))(g:D->Fr->Hh->XR)(ck:List (Nat×List D)):List D->Fr->Hh->XR
 |[],_,_=>none
 |d :: ds,fr,h=>if stays h ck then match f d fr h with
   |.ok (.nx,af) h1=>dO f g ck ds af h1
   |.ok (.ct,af) h1=>dO f g ck ds af h1
   |.ok _ _=>none
   |.bad=>g d fr h
  else none
noncomputable def ee(t:Fr->Hh->R Bool)(f:Fr->Hh->R (Fl×Fr))(g:Fr->Hh->XR):Nat->Fr->Hh->XR
 |0,_,_=>none
 |n+1,fr,h=>match t fr h with
  |.ok true h1=>match f fr h1 with
   |.ok (.nx,af) h2=>ee t f g n af h2
   |.ok (.ct,af) h2=>ee t f g n af h2
   |.ok _ _=>none
   |.bad=>g fr h1
  |_=>none
mutual
noncomputable def xs(P:ay)(X:bS)(w:Nat):S->Fr->Hh->XR
 |.cX c,_,h=>some (c,h)
 |.set _ e,fr,h=>xe P X e fr h
 |.exp e,fr,h=>xe P X e fr h
 |.ret e,fr,h=>xe P X e fr h
 |.iff t a b,fr,h=>match av P t fr h with
  |.ok k h1=>if k then xss P X w a fr h1 else xss P X w b fr h1
  |.bad=>xe P X t fr h
 |.for t it b,fr,h=>match b9 P it fr h with
  |.ok s h1=>dO (λd ak h2=>match aZ t d ak with|some bw=>exs P w b bw h2|none=>.bad) (λd ak h2=>match aZ t d ak with|some bw=>xss P X w b bw h2|none=>none) s.2 s.1 fr h1
  |.bad=>none
 |.jU t b,fr,h=>ee (λak h2=>av P t ak h2) (λak h2=>exs P w b ak h2) (λak h2=>xss P X w b ak h2) w fr h
 |_,_,_=>none
noncomputable def xss(P:ay)(X:bS)(w:Nat):Ss->Fr->Hh->XR
 |.nil,_,_=>none
 |.cons s ss,fr,h=>match ex P w s fr h with
  |.ok (.nx,af) h1=>xss P X w ss af h1
  |.ok _ _=>none
  |.bad=>xs P X w s fr h
end
noncomputable def jG(X:bS)(f:Nat)(ds:List D)(h:Hh):R D:=if xo<=f then (match X (f - xo) ds h with
  |some (c,h')=>.ok (.int c) h'
  |none=>.bad)else .bad
noncomputable def runs(F:List Fn)(w:Nat):Nat->ay×bS
 |0=>(λ_ _ _=>.bad,λ_ _ _=>none)
 |n+1=>
  let X:bS:=λf ds h=>match F[f]? with
   |some fn=>if ds.length=fn.np then xss (runs F w n).1 (runs F w n).2 w fn.body (cK fn ds) h else none
   |none=>none
  (λf ds h=>match F[f]? with
   |some fn=>if ds.length=fn.np then endOf (exs (runs F w n).1 w fn.body (cK fn ds) h)else .bad
   |none=>jG X f ds h,X)
noncomputable def run(F:List Fn)(w n:Nat):ay:=(runs F w n).1
noncomputable def cL(F:List Fn)(w n:Nat):bS:=(runs F w n).2
theorem dW(F:List Fn)(w n f:Nat)(ds:List D)(h:Hh):run F w (n+1) f ds h=match F[f]? with
  |some fn=>if ds.length=fn.np then endOf (exs (run F w n) w fn.body (cK fn ds) h)else .bad
  |none=>jG (cL F w (n+1)) f ds h:=rfl
theorem fT(F:List Fn)(w n f:Nat)(ds:List D)(h:Hh):cL F w (n+1) f ds h=match F[f]? with
  |some fn=>if ds.length=fn.np then xss (run F w n) (cL F w n) w fn.body (cK fn ds) h else none
  |none=>none:=rfl
mutual
noncomputable def jV(rz:List Nat):E->Bool
 |.cl f es=>!rz.contains f&&vO rz es
 |.ix a _=>jV rz a
 |.me _ _ es=>vO rz es
 |_=>true
noncomputable def vO(rz:List Nat):Es->Bool
 |.nil=>true
 |.cons e es=>jV rz e&&vO rz es
end
mutual
noncomputable def mG(rz:List Nat):S->Bool
 |.cX _=>false
 |.set _ e=>jV rz e
 |.exp e=>jV rz e
 |.ret e=>jV rz e
 |.iff t a b=>jV rz t&&(iS rz a&&iS rz b)
 |.for _ _ b=>iS rz b
 |.jU _ b=>iS rz b
 |_=>true
noncomputable def iS(rz:List Nat):Ss->Bool
 |.nil=>true
 |.cons s ss=>mG rz s&&iS rz ss
end
section
variable{P:ay}{X:bS}{w:Nat}{rz:List Nat}(hz:∀f,rz.contains f=false->∀ds h,X f ds h=none)
include hz
mutual
theorem lK:∀(e:E) {fr:Fr}{h:Hh},jV rz e=true->xe P X e fr h=none
 |.cl f es,fr,h,z=>by
  simp only[jV,Bool.and_eq_true,Bool.not_eq_true']at z;simp only[xe];split
  .exact hz f z.1 _ _
  .exact yv es z.2
 |.ix a b,fr,h,z=>by
  simp only[jV]at z;simp only[xe];exact lK a z
 |.me m o es,fr,h,z=>by
  simp only[jV]at z;simp only[xe];split
  .split
   .exact yv es z
   .rfl
  .rfl
 |.c _,_,_,_=>rfl|.v _,_,_,_=>rfl|.tup _,_,_,_=>rfl|.lst _,_,_,_=>rfl
 |.bin _ _ _,_,_,_=>rfl|.cmp _ _ _,_,_,_=>rfl
 |.nt _,_,_,_=>rfl|.neg _,_,_,_=>rfl|.an _ _,_,_,_=>rfl|.orr _ _,_,_,_=>rfl|.fG _ _ _,_,_,_=>rfl
 |.sl _ _ _,_,_,_=>rfl
 |.bi _ _,_,_,_=>rfl
 |.eX _ _,_,_,_=>rfl
 |.comp _ _ _ _,_,_,_=>rfl|.gW _,_,_,_=>rfl
 |.gQ _ _,_,_,_=>rfl|.gG _,_,_,_=>rfl
theorem yv:∀(es:Es) {fr:Fr}{h:Hh},vO rz es=true->xa P X es fr h=none
 |.nil,_,_,_=>rfl
 |.cons e es,fr,h,z=>by
  simp only[vO,Bool.and_eq_true]at z;simp only[xa];split
  .exact yv es z.2
  .exact lK e z.1
end
omit hz in
theorem jW{f:D->Fr->Hh->R (Fl×Fr)}{g:D->Fr->Hh->XR}{ck:List (Nat×List D)}(hg:∀d fr h,g d fr h=none):∀(ds:List D) (fr:Fr) (h:Hh),dO f g ck ds fr h=none
 |[],_,_=>rfl
 |d :: ds,fr,h=>by
  simp only[dO];split
  .split
   .exact jW hg ds _ _
   .exact jW hg ds _ _
   .rfl
   .exact hg _ _ _
  .rfl
omit hz in
theorem jX{t:Fr->Hh->R Bool}{f:Fr->Hh->R (Fl×Fr)}{g:Fr->Hh->XR}(hg:∀fr h,g fr h=none):∀(n:Nat) (fr:Fr) (h:Hh),ee t f g n fr h=none
 |0,_,_=>rfl
 |n+1,fr,h=>by
  simp only[ee];split
  .split
   .exact jX hg n _ _
   .exact jX hg n _ _
   .rfl
   .exact hg _ _
  .rfl
mutual
theorem K9:∀(s:S) {fr:Fr}{h:Hh},mG rz s=true->xs P X w s fr h=none
 |.cX c,_,_,z=>by simp[mG]at z
 |.set i e,fr,h,z=>by simp only[mG]at z;simp only[xs];exact lK hz e z
 |.exp e,fr,h,z=>by simp only[mG]at z;simp only[xs];exact lK hz e z
 |.ret e,fr,h,z=>by simp only[mG]at z;simp only[xs];exact lK hz e z
 |.iff t a b,fr,h,z=>by
  simp only[mG,Bool.and_eq_true]at z;simp only[xs];split
  .split
   .exact jr a z.2.1
   .exact jr b z.2.2
  .exact lK hz t z.1
 |.for t it b,fr,h,z=>by
  simp only[mG]at z;simp only[xs];split
  .refine jW (λd fr h=>?_) _ _ _;split
   .exact jr b z
   .rfl
  .rfl
 |.jU t b,fr,h,z=>by
  simp only[mG]at z;simp only[xs];exact jX (λfr h=>jr b z) _ _ _
 |.jT _ _,_,_,_=>rfl
 |.tr _ _ _,_,_,_=>rfl
theorem jr:∀(s:Ss) {fr:Fr}{h:Hh},iS rz s=true->xss P X w s fr h=none
 |.nil,_,_,_=>rfl
 |.cons s ss,fr,h,z=>by
  simp only[iS,Bool.and_eq_true]at z;simp only[xss];split
  .exact jr ss z.2
  .rfl
  .exact K9 s z.1
end
end
noncomputable def kX(rz:List Nat):Nat->List Fn->Bool
 |_,[]=>true
 |k,fn :: r=>(rz.contains k ||iS rz fn.body)&&kX rz (k+1) r
theorem kX.get{rz:List Nat}:∀{F:List Fn}{k f:Nat}{fn:Fn},kX rz k F=true->F[f]?=some fn->rz.contains (k+f)=false->iS rz fn.body=true
 |_ :: r,k,0,fn,z,e,n=>by
  simp only[kX,Bool.and_eq_true,Bool.or_eq_true]at z;cases e;rcases z.1 with z|z
  .rw[Nat.add_zero,z]at n;cases n
  .exact z
 |_ :: r,k,f+1,fn,z,e,n=>by
  simp only[kX,Bool.and_eq_true]at z;exact kX.get (F:=r) (k:=k+1) (f:=f) z.2 (by simpa using e) (by rw[show k+1+f=k+(f+1)by omega];exact n)
theorem sF{F:List Fn}{rz:List Nat}(hF:kX rz 0 F=true)(w:Nat):∀(n f:Nat),rz.contains f=false->∀ds h,cL F w n f ds h=none
 |0,_,_,_,_=>rfl
 |n+1,f,k,ds,h=>by
  rw[fT];cases y:F[f]? with
  |none=>rfl
  |some fn=>
   simp only;split
   .exact jr (sF hF w n) _ (kX.get hF y (by rw[Nat.zero_add];exact k))
   .rfl
section
variable{P:ay}{X:bS}{w:Nat}(hX:∀f ds h r,X f ds h=some r->P f ds h=.bad)
include hX
mutual
theorem cY:∀(e:E) {fr:Fr}{h:Hh}{r:Nat×Hh},xe P X e fr h=some r->ev P e fr h=.bad/\av P e fr h=.bad
 |.cl f es,fr,h,r,z=>by
  simp only[xe]at z;have q:ev P (.cl f es) fr h=.bad:=by
   rw[ev];cases y:bz P es fr h with
   |ok ds h1=>rw[y]at z;exact hX _ _ _ _ z
   |bad=>rfl
  exact⟨q,by rw[av,q];rfl;all_goals (intros;contradiction)⟩
 |.ix a b,fr,h,r,z=>by
  simp only[xe]at z;have q:ev P (.ix a b) fr h=.bad:=by rw[ev,(cY a z).1];rfl
  exact⟨q,by rw[av,q];rfl;all_goals (intros;contradiction)⟩
 |.me m o es,fr,h,r,z=>by
  simp only[xe]at z;have q:ev P (.me m o es) fr h=.bad:=by
   rw[ev];cases y:ev P o fr h with
   |ok x h1=>
    rw[y]at z;simp only at z;split at z
    .rename_i k;simp only[aj,if_pos k];rw[qi es z];rfl
    .cases z
   |bad=>rfl
  exact⟨q,by rw[av,q];rfl;all_goals (intros;contradiction)⟩
 |.c _,_,_,_,z=>nomatch z|.v _,_,_,_,z=>nomatch z|.tup _,_,_,_,z=>nomatch z|.lst _,_,_,_,z=>nomatch z
 |.bin _ _ _,_,_,_,z=>nomatch z|.cmp _ _ _,_,_,_,z=>nomatch z
 |.nt _,_,_,_,z=>nomatch z|.neg _,_,_,_,z=>nomatch z|.an _ _,_,_,_,z=>nomatch z|.orr _ _,_,_,_,z=>nomatch z|.fG _ _ _,_,_,_,z=>nomatch z
 |.sl _ _ _,_,_,_,z=>nomatch z
 |.bi _ _,_,_,_,z=>nomatch z
 |.eX _ _,_,_,_,z=>nomatch z
 |.comp _ _ _ _,_,_,_,z=>nomatch z|.gW _,_,_,_,z=>nomatch z
 |.gQ _ _,_,_,_,z=>nomatch z|.gG _,_,_,_,z=>nomatch z
theorem qi:∀(es:Es) {fr:Fr}{h:Hh}{r:Nat×Hh},xa P X es fr h=some r->bz P es fr h=.bad
 |.nil,_,_,_,z=>nomatch z
 |.cons e es,fr,h,r,z=>by
  simp only[xa]at z;rw[bz];cases y:ev P e fr h with
  |ok d h1=>rw[y]at z;simp only[aj];rw[qi es z];rfl
  |bad=>rfl
end
omit hX in
theorem fz{f:D->Fr->Hh->R (Fl×Fr)}{g:D->Fr->Hh->XR}{ck:List (Nat×List D)}(hg:∀d fr h r,g d fr h=some r->f d fr h=.bad):∀(ds:List D) {fr:Fr}{h:Hh}{r:Nat×Hh},dO f g ck ds fr h=some r->forL f ck ds fr h=.bad
 |[],_,_,_,z=>nomatch z
 |d :: ds,fr,h,r,z=>by
  simp only[dO]at z;split at z
  case isFalse=>cases z
  rename_i k;simp only[forL,if_pos k];split at z
  .rename_i e;rw[e];exact fz hg ds z
  .rename_i e;rw[e];exact fz hg ds z
  .cases z
  .rw[hg _ _ _ _ z];rfl
omit hX in
theorem fC{t:Fr->Hh->R Bool}{f:Fr->Hh->R (Fl×Fr)}{g:Fr->Hh->XR}(hg:∀fr h r,g fr h=some r->f fr h=.bad):∀(n:Nat) {fr:Fr}{h:Hh}{r:Nat×Hh},ee t f g n fr h=some r->dB t f n fr h=.bad
 |0,_,_,_,z=>nomatch z
 |n+1,fr,h,r,z=>by
  simp only[ee]at z;split at z
  case h_2=>cases z
  rename_i e0;simp only[dB,e0,aj,if_true];split at z
  .rename_i e;rw[e];exact fC hg n z
  .rename_i e;rw[e];exact fC hg n z
  .cases z
  .rw[hg _ _ _ z];rfl
mutual
theorem jY:∀(s:S) {fr:Fr}{h:Hh}{r:Nat×Hh},xs P X w s fr h=some r->ex P w s fr h=.bad
 |.cX c,_,_,_,_=>by rw[ex]
 |.set i e,fr,h,r,z=>by rw[ex,(cY hX e z).1];rfl
 |.exp e,fr,h,r,z=>by rw[ex,(cY hX e z).1];rfl
 |.ret e,fr,h,r,z=>by rw[ex,(cY hX e z).1];rfl
 |.iff t a b,fr,h,r,z=>by
  simp only[xs]at z;rw[ex];cases y:av P t fr h with
  |bad=>rfl
  |ok k h1=>
   rw[y]at z;simp only at z;simp only[aj];cases k with
   |true=>exact cA a z
   |false=>exact cA b z
 |.for t it b,fr,h,r,z=>by
  simp only[xs]at z;rw[ex];cases y:b9 P it fr h with
  |bad=>rfl
  |ok s h1=>
   rw[y]at z;simp only at z;simp only[aj];refine fz (λd fr h r q=>?_) _ z;cases k:aZ t d fr with
   |none=>rw[k]at q
   |some bw=>rw[k]at q;exact cA b q
 |.jU t b,fr,h,r,z=>by
  simp only[xs]at z;rw[ex];exact fC (λfr h r q=>cA b q) _ z
 |.jT _ _,_,_,_,z=>nomatch z
 |.tr _ _ _,_,_,_,z=>nomatch z
theorem cA:∀(s:Ss) {fr:Fr}{h:Hh}{r:Nat×Hh},xss P X w s fr h=some r->exs P w s fr h=.bad
 |.nil,_,_,_,z=>nomatch z
 |.cons s ss,fr,h,r,z=>by
  simp only[xss]at z;rw[exs];split at z
  .rename_i e;rw[e];exact cA ss z
  .cases z
  .rw[jY s z];rfl
end
end
theorem lM(F:List Fn)(w:Nat):∀(n f:Nat) (ds:List D) (h:Hh) (r:Nat×Hh),cL F w n f ds h=some r->run F w n f ds h=.bad
 |0,_,_,_,_,_=>rfl
 |n+1,f,ds,h,r,z=>by
  rw[fT]at z;rw[dW];cases y:F[f]? with
  |none=>rw[y]at z;cases z
  |some fn=>
   rw[y]at z;simp only at z ⊢;split at z
   .rename_i k;rw[if_pos k,cA (lM F w n) _ z];rfl
   .cases z
end Ev
set_option maxRecDepth 100000
namespace Sm
open PySem PySem.Spec PyProof.Rows L2
noncomputable def aS(l:List Nat):Str:=⟨l.toArray⟩
theorem bR(l:List Nat):(aS l).length=l.length:=by simp[aS,Str.length]
theorem sG{a b:List Nat}(h:aS a=aS b):a=b:=by
 have h1:a.toArray=b.toArray:=congrArg Str.cps h;simpa using congrArg Array.toList h1
theorem iA:Ev.big=sizeLine:=by rw[sizeLine_eq];rfl
section
variable(K:PySem.W.Frag)
mutual
noncomputable def RV(H:Hp)(r:List Addr):Ev.D->V->Prop
 |.az,v=>v=.az
 |.bl b,v=>v=.bl b
 |.int i,v=>v=.int i
 |.str s,v=>v=.str (aS s)/\s.length<=sizeLine
 |.ref n,v=>∃a,v=.ref a/\r[n]?=some a
 |.tup ds,v=>∃a vs,v=.ref a/\cH K H a vs/\aC H r ds vs
noncomputable def aC(H:Hp)(r:List Addr):List Ev.D->List V->Prop
 |[],vs=>vs=[]
 |d :: ds,vs=>∃v w,vs=v :: w/\RV H r d v/\aC H r ds w
end
noncomputable def uo(H:Hp)(a:Addr)(vs:List V):Prop:=(∃o,H a=some (.bq o (.lst vs)))\/
 ∃(o:Obj) (its:Array Value) (n:Nat),K.lookup a=some o/\o.cls=.type "list" /\o.dict=none/\o.data=.seq its n/\its.size<=sizeLine/\Vals vs its.toList
noncomputable def RO(H:Hp)(r:List Addr):Ev.O->Addr->Prop
 |.lst ds,a=>∃vs,H a=some (.lst vs)/\aC K H r ds vs
 |.bq ds,a=>∃vs,uo K H a vs/\aC K H r ds vs
structure HR(H:Hp)(r:List Addr)(h:Ev.Hh):Prop where
 len:r.length=h.length
 ob:∀(n:Nat) o,h[n]?=some o->∃a,r[n]?=some a/\RO K H r o a
 inj:∀(n m:Nat) a x y,r[n]?=some a->r[m]?=some a->h[n]?=some (.lst x)->h[m]?=some (.lst y)->n=m
structure Fm(r r':List Addr)(H H':Hp):Prop where
 pre:∀(n:Nat) a,r[n]?=some a->r'[n]?=some a
 new:∀a∈r',a∈r\/H a=none
 keep:∀a o,H a=some o->a∉r->H' a=some o
 tups:∀a vs,cH K H a vs->cH K H' a vs
end
section
variable{K:PySem.W.Frag}{H H1 H2:Hp}{r r1 r2:List Addr}{h:Ev.Hh}
theorem Fm.refl:Fm K r r H H:=⟨λ_ _ e=>e,λ_ e=>.inl e,λ_ _ e _=>e,λ_ _ e=>e⟩
theorem Fm.trans(a:Fm K r r1 H H1)(b:Fm K r1 r2 H1 H2):Fm K r r2 H H2 where
 pre:=λn x e=>b.pre n x (a.pre n x e)
 new:=λx e=>by
  rcases b.new x e with q|q
  .exact a.new x q
  .by_cases z:x∈r
   .exact .inl z
   .refine .inr ?_;cases w:H x with
    |none=>rfl
    |some o=>rw[a.keep x o w z]at q;cases q
 keep:=λx o e n=>by
  refine b.keep x o (a.keep x o e n) λz=>?_;rcases a.new x z with q|q
  .exact n q
  .rw[e]at q;cases q
 tups:=λx vs e=>b.tups x vs (a.tups x vs e)
mutual
theorem RV.grow(f:∀(n:Nat) a,r[n]?=some a->r1[n]?=some a)(g:∀a vs,cH K H a vs->cH K H1 a vs):∀{d:Ev.D}{v:V},RV K H r d v->RV K H1 r1 d v
 |.az,_,e=>e
 |.bl _,_,e=>e
 |.int _,_,e=>e
 |.str _,_,e=>e
 |.ref n,_,⟨a,e,z⟩=>⟨a,e,f n a z⟩
 |.tup ds,_,⟨a,vs,e,z,q⟩=>⟨a,vs,e,g a vs z,aC.grow f g q⟩
theorem aC.grow(f:∀(n:Nat) a,r[n]?=some a->r1[n]?=some a)(g:∀a vs,cH K H a vs->cH K H1 a vs):∀{ds:List Ev.D}{vs:List V},aC K H r ds vs->aC K H1 r1 ds vs
 |[],_,e=>e
 |_ :: _,_,⟨v,w,e,z,q⟩=>⟨v,w,e,RV.grow f g z,aC.grow f g q⟩
end
theorem RV.mono(f:Fm K r r1 H H1){d:Ev.D}{v:V}(q:RV K H r d v):RV K H1 r1 d v:=q.grow f.pre f.tups
theorem aC.mono(f:Fm K r r1 H H1){ds:List Ev.D}{vs:List V}(q:aC K H r ds vs):aC K H1 r1 ds vs:=q.grow f.pre f.tups
theorem aC.nil:aC K H r [] []:=by simp[aC]
theorem aC.cons{d:Ev.D}{v:V}{ds:List Ev.D}{vs:List V}(a:RV K H r d v)(b:aC K H r ds vs):aC K H r (d :: ds) (v :: vs):=by
 simp only[aC];exact⟨v,vs,rfl,a,b⟩
theorem aC.length:∀{ds:List Ev.D}{vs:List V},aC K H r ds vs->vs.length=ds.length
 |[],_,e=>by simp only[aC]at e;subst e;rfl
 |_ :: _,_,e=>by
  simp only[aC]at e;obtain⟨v,w,rfl,_,q⟩:=e;simp[aC.length q]
theorem aC.get:∀{ds:List Ev.D}{vs:List V}{i:Nat}{d:Ev.D},aC K H r ds vs->ds[i]?=some d->∃v,vs[i]?=some v/\RV K H r d v
 |[],_,_,_,_,e=>by simp at e
 |_ :: _,_,0,_,h,e=>by
  simp only[aC]at h;obtain⟨v,w,rfl,z,q⟩:=h;simp at e;subst e;exact⟨v,by simp,z⟩
 |_ :: _,_,i+1,_,h,e=>by
  simp only[aC]at h;obtain⟨v,w,rfl,z,q⟩:=h;obtain⟨u,a,b⟩:=aC.get (i:=i) q (by simpa using e);exact⟨u,by simpa using a,b⟩
theorem aC.append:∀{ds es:List Ev.D}{vs ws:List V},aC K H r ds vs->aC K H r es ws->aC K H r (ds++es) (vs++ws)
 |[],_,_,_,a,b=>by simp only[aC]at a;subst a;simpa using b
 |_ :: _,_,_,_,a,b=>by
  simp only[aC]at a;obtain⟨v,w,rfl,z,q⟩:=a;simp only[List.cons_append];exact .cons z (aC.append q b)
theorem aC.take:∀{ds:List Ev.D}{vs:List V}(n:Nat),aC K H r ds vs->aC K H r (ds.take n) (vs.take n)
 |_,_,0,_=>by simp[aC]
 |[],_,_+1,a=>by simp only[aC]at a;subst a;simp[aC]
 |_ :: _,_,n+1,a=>by
  simp only[aC]at a;obtain⟨v,w,rfl,z,q⟩:=a;simp only[List.take_succ_cons];exact .cons z (aC.take n q)
theorem aC.drop:∀{ds:List Ev.D}{vs:List V}(n:Nat),aC K H r ds vs->aC K H r (ds.drop n) (vs.drop n)
 |_,_,0,a=>by simpa using a
 |[],_,_+1,a=>by simp only[aC]at a;subst a;simp[aC]
 |_ :: _,_,n+1,a=>by
  simp only[aC]at a;obtain⟨v,w,rfl,z,q⟩:=a;simp only[List.drop_succ_cons];exact aC.drop n q
theorem aC.rep{ds:List Ev.D}{vs:List V}(a:aC K H r ds vs):∀k:Nat,aC K H r (Ev.rep k ds) (Ev.rep k vs)
 |0=>by simp[Ev.rep,aC]
 |k+1=>by
  have h:=aC.rep a k;simp only[Ev.rep,List.replicate_succ,List.flatten_cons]at h ⊢;exact a.append h
theorem Fm.laid{p:Addr}{o:HO}(hp:H p=none):Fm K r (r++[p]) H (upd H p o) where
 pre:=λn a e=>by rw[List.getElem?_append_left (List.getElem?_eq_some_iff.mp e).1];exact e
 new:=λa e=>by
  rcases List.mem_append.mp e with q|q
  .exact .inl q
  .rw[List.mem_singleton]at q;subst q;exact .inr hp
 keep:=λa ob e _=>by rw[aO (bD e hp)];exact e
 tups:=λa vs e=>by
  rcases e with (e|⟨ob,e⟩)|e
  .exact .inl (.inl (by rw[aO (bD e hp)];exact e))
  .exact .inl (.inr ⟨ob,by rw[aO (bD e hp)];exact e⟩)
  .exact .inr e
theorem Fm.tup{p:Addr}{o:HO}(hp:H p=none):Fm K r r H (upd H p o) where
 pre:=λn a e=>e
 new:=λa e=>.inl e
 keep:=λa ob e _=>by rw[aO (bD e hp)];exact e
 tups:=(Fm.laid (r:=r) hp).tups
theorem RO.mono{o:Ev.O}{a:Addr}(f:Fm K r r1 H H1)(q:RO K H r o a)(hl:∀ds vs,o=.lst ds->H a=some (.lst vs)->H1 a=some (.lst vs))(hf:∀ob vs,H a=some (.bq ob vs)->H1 a=some (.bq ob vs))
  : RO K H1 r1 o a:=by
 cases o with
 |lst ds=>
  obtain⟨vs,e,z⟩:=q;exact⟨vs,hl ds vs rfl e,z.mono f⟩
 |bq ds=>
  obtain⟨vs,e,z⟩:=q;refine⟨vs,?_,z.mono f⟩;rcases e with ⟨ob,e⟩|e
  .exact .inl ⟨ob,hf _ _ e⟩
  .exact .inr e
theorem HR.tup{p:Addr}{o:HO}(hr:HR K H r h)(hp:H p=none):HR K (upd H p o) r h where
 len:=hr.len
 ob:=λn ob e=>by
  obtain⟨a,e1,q⟩:=hr.ob n ob e;exact⟨a,e1,q.mono (Fm.tup hp) (λ_ vs _ z=>by rw[aO (bD z hp)];exact z) (λ_ _ z=>by rw[aO (bD z hp)];exact z)
   ⟩
 inj:=hr.inj
theorem HR.lst{p:Addr}{ds:List Ev.D}{vs:List V}(hr:HR K H r h)(hp:H p=none)(q:aC K H r ds vs):HR K (upd H p (.lst vs)) (r++[p]) (h++[.lst ds]) where
 len:=by simp[hr.len]
 ob:=λn ob e=>by
  by_cases hn:n<h.length
  .rw[List.getElem?_append_left hn]at e;obtain⟨a,e1,z⟩:=hr.ob n ob e;exact⟨a,(Fm.laid (K:=K) (o:=.lst vs) hp).pre n a e1,z.mono (Fm.laid hp) (λ_ vs _ z=>by rw[aO (bD z hp)];exact z) (λ_ _ z=>by rw[aO (bD z hp)];exact z)
    ⟩
  .have e2:=(List.getElem?_eq_some_iff.mp e).1;simp only[List.length_append,List.length_singleton]at e2;have e3:n=h.length:=by omega
   subst e3;simp at e;subst e;exact⟨p,by rw[<-hr.len];simp,vs,cj,q.mono (Fm.laid hp)⟩
 inj:=λn m a x y e1 e2 e3 e4=>by
  have out:∀(k:Nat) z,(h++[Ev.O.lst ds])[k]?=some (.lst z)->(r++[p])[k]?=some a->(k<h.length/\r[k]?=some a/\h[k]?=some (.lst z)/\a≠p)\/(k=h.length/\a=p):=λk z q1 q2=>by
   by_cases hk:k<h.length
   .rw[List.getElem?_append_left hk]at q1;rw[List.getElem?_append_left (by rw[hr.len];exact hk)]at q2;obtain⟨b,e5,vs',e6,_⟩:=hr.ob k _ q1;rw[q2]at e5;cases e5;exact .inl ⟨hk,q2,q1,bD e6 hp⟩
   .have e5:=(List.getElem?_eq_some_iff.mp q1).1;simp only[List.length_append,List.length_singleton]at e5;have e6:k=r.length:=by rw[hr.len];omega
    subst e6;simp at q2;exact .inr ⟨hr.len,q2.symm⟩
  rcases out n x e3 e1 with ⟨h1,h2,h3,h4⟩|⟨h1,h2⟩
  .rcases out m y e4 e2 with ⟨k1,k2,k3,k4⟩|⟨k1,k2⟩
   .exact hr.inj n m a x y h2 k2 h3 k3
   .exact absurd k2 h4
  .rcases out m y e4 e2 with ⟨k1,k2,k3,k4⟩|⟨k1,k2⟩
   .exact absurd h2 k4
   .rw[h1,k1]
theorem HR.read{n:Nat}{ds:List Ev.D}(hr:HR K H r h)(e:Ev.aH h n=some ds):∃a vs,r[n]?=some a/\dI K H a vs/\aC K H r ds vs:=by
 unfold Ev.aH at e;split at e
 .rename_i z;cases e;obtain⟨a,e1,vs,e2,e3⟩:=hr.ob n _ z;exact⟨a,vs,e1,.inl (.inl e2),e3⟩
 .rename_i z;cases e;obtain⟨a,e1,vs,e2,e3⟩:=hr.ob n _ z;refine⟨a,vs,e1,?_,e3⟩;rcases e2 with ⟨ob,e2⟩|e2
  .exact .inl (.inr ⟨ob,e2⟩)
  .exact .inr e2
 .cases e
theorem Fm.write{a:Addr}{vs ws:List V}(ha:H a=some (.lst vs))(hm:a∈r):Fm K r r H (upd H a (.lst ws)) where
 pre:=λn b e=>e
 new:=λb e=>.inl e
 keep:=λb ob e n=>by rw[aO (λz=>n (by rw[z];exact hm))];exact e
 tups:=λb us e=>by
  rcases e with (e|⟨ob,e⟩)|e
  .exact .inl (.inl (by rw[aO (mh e ha (by intro z;cases z))];exact e))
  .exact .inl (.inr ⟨ob,by rw[aO (mh e ha (by intro z;cases z))];exact e⟩)
  .exact .inr e
theorem HR.write{n:Nat}{a:Addr}{ds es:List Ev.D}{vs ws:List V}(hr:HR K H r h)(hn:h[n]?=some (.lst ds))(Ed:r[n]?=some a)(ha:H a=some (.lst vs))(q:aC K H r es ws) :
  HR K (upd H a (.lst ws)) r (h.set n (.lst es)) where
 len:=by simp[hr.len]
 ob:=λm ob e=>by
  have f:=Fm.write (K:=K) (ws:=ws) ha (List.mem_of_getElem? Ed);by_cases hm:m=n
  .subst hm;rw[List.getElem?_set_self (List.getElem?_eq_some_iff.mp hn).1]at e;cases e;exact⟨a,Ed,ws,cj,q.mono f⟩
  .rw[List.getElem?_set_ne (λz=>hm z.symm)]at e;obtain⟨b,e1,z⟩:=hr.ob m ob e;refine⟨b,e1,z.mono f (λMA us z3 z2=>?_) (λOh us z2=>by rw[aO (mh z2 ha (by intro z;cases z))];exact z2)
    ⟩
   by_cases hb:b=a
   .subst hb;subst z3;exact absurd (hr.inj m n b MA ds e1 Ed e hn) hm
   .rw[aO hb];exact z2
 inj:=λk m b x y e1 e2 e3 e4=>by
  have back:∀(j:Nat) z,(h.set n (Ev.O.lst es))[j]?=some (.lst z)->∃z',h[j]?=some (.lst z'):=λj z w=>by
   by_cases hj:j=n
   .subst hj;exact⟨ds,hn⟩
   .rw[List.getElem?_set_ne (λz=>hj z.symm)]at w;exact⟨z,w⟩
  obtain⟨x',e5⟩:=back k x e3;obtain⟨y',e6⟩:=back m y e4;exact hr.inj k m b x' y' e1 e2 e5 e6
theorem fU{p:Addr}{vs ws:List V}(hp:H p=some (.lst vs)):∀a us,cH K H a us->cH K (upd H p (.lst ws)) a us:=λb us e=>by
 rcases e with (e|⟨ob,e⟩)|e
 .exact .inl (.inl (by rw[aO (mh e hp (by intro z;cases z))];exact e))
 .exact .inl (.inr ⟨ob,by rw[aO (mh e hp (by intro z;cases z))];exact e⟩)
 .exact .inr e
theorem HR.other{p:Addr}{vs ws:List V}(hr:HR K H r h)(hp:H p=some (.lst vs))(hn:p∉r):HR K (upd H p (.lst ws)) r h where
 len:=hr.len
 ob:=λn ob e=>by
  obtain⟨a,e1,q⟩:=hr.ob n ob e;have ha:a≠p:=λz=>hn (by rw[<-z];exact List.mem_of_getElem? e1);refine⟨a,e1,?_⟩;cases ob with
  |lst ds=>
   obtain⟨us,e2,e3⟩:=q;exact⟨us,by rw[aO ha];exact e2,e3.grow (λ_ _ z=>z) (fU hp)⟩
  |bq ds=>
   obtain⟨us,e2,e3⟩:=q;refine⟨us,?_,e3.grow (λ_ _ z=>z) (fU hp)⟩;rcases e2 with ⟨o,e2⟩|e2
   .exact .inl ⟨o,by rw[aO ha];exact e2⟩
   .exact .inr e2
 inj:=hr.inj
theorem Fm.other{p:Addr}{vs ws:List V}(f:Fm K r r1 H H1)(h0:H p=none)(hp:H1 p=some (.lst vs)):Fm K r r1 H (upd H1 p (.lst ws)) where
 pre:=f.pre
 new:=f.new
 keep:=λa o e n=>by rw[aO (bD e h0)];exact f.keep a o e n
 tups:=λa us e=>fU hp a us (f.tups a us e)
theorem Fm.uq{p:Addr}{o:HO}(f:Fm K r r1 H H1)(hp:H p=some o)(hn:p∉r):p∉r1/\H1 p=some o:=by
 refine⟨λz=>?_,f.keep p o hp hn⟩;rcases f.new p z with q|q
 .exact hn q
 .rw[hp]at q;cases q
theorem HR.known{p:Addr}{ds:List Ev.D}{vs:List V}(hr:HR K H r h)(hp:H p=some (.lst vs))(hn:p∉r)(q:aC K H r ds vs):HR K H (r++[p]) (h++[.lst ds]):=by
 have pre:∀(n:Nat) a,r[n]?=some a->(r++[p])[n]?=some a:=λn a e=>by rw[List.getElem?_append_left (List.getElem?_eq_some_iff.mp e).1];exact e
 refine⟨by simp[hr.len],λn ob e=>?_,λn m a x y e1 e2 e3 e4=>?_
  ⟩
 .by_cases hk:n<h.length
  .rw[List.getElem?_append_left hk]at e;obtain⟨a,e1,z⟩:=hr.ob n ob e;refine⟨a,pre n a e1,?_⟩;cases ob with
   |lst ds=>obtain⟨us,e2,e3⟩:=z;exact⟨us,e2,e3.grow pre λ_ _ z=>z⟩
   |bq ds=>obtain⟨us,e2,e3⟩:=z;exact⟨us,e2,e3.grow pre λ_ _ z=>z⟩
  .have e2:=(List.getElem?_eq_some_iff.mp e).1;simp only[List.length_append,List.length_singleton]at e2;have e3:n=h.length:=by omega
   subst e3;simp at e;subst e;exact⟨p,by rw[<-hr.len];simp,vs,hp,q.grow pre λ_ _ z=>z⟩
 .have out:∀(k:Nat) z,(h++[Ev.O.lst ds])[k]?=some (.lst z)->(r++[p])[k]?=some a->(k<h.length/\r[k]?=some a/\h[k]?=some (.lst z)/\a≠p)\/(k=h.length/\a=p):=λk z q1 q2=>by
   by_cases hk:k<h.length
   .rw[List.getElem?_append_left hk]at q1;rw[List.getElem?_append_left (by rw[hr.len];exact hk)]at q2;exact .inl ⟨hk,q2,q1,λz=>hn (by rw[<-z];exact List.mem_of_getElem? q2)⟩
   .have e5:=(List.getElem?_eq_some_iff.mp q1).1;simp only[List.length_append,List.length_singleton]at e5;have e6:k=r.length:=by rw[hr.len];omega
    subst e6;simp at q2;exact .inr ⟨hr.len,q2.symm⟩
  rcases out n x e3 e1 with ⟨h1,h2,h3,h4⟩|⟨h1,h2⟩
  .rcases out m y e4 e2 with ⟨k1,k2,k3,k4⟩|⟨k1,k2⟩
   .exact hr.inj n m a x y h2 k2 h3 k3
   .exact absurd k2 h4
  .rcases out m y e4 e2 with ⟨k1,k2,k3,k4⟩|⟨k1,k2⟩
   .exact absurd h2 k4
   .rw[h1,k1]
theorem Fm.known{p:Addr}(f:Fm K r r1 H H1)(h0:H p=none):Fm K r (r1++[p]) H H1 where
 pre:=λn a e=>by
  have e':=f.pre n a e;rw[List.getElem?_append_left (List.getElem?_eq_some_iff.mp e').1];exact e'
 new:=λa e=>by
  rcases List.mem_append.mp e with q|q
  .exact f.new a q
  .rw[List.mem_singleton]at q;subst q;exact .inr h0
 keep:=f.keep
 tups:=f.tups
end
end Sm
set_option maxRecDepth 100000
namespace Sm
open PySem PySem.Spec PyProof.Rows L2
open Ev (D O Hh Fr R ay E Es Eo It T S Ss Fl Src aU aP TY BI ME)
section
variable(K:PySem.W.Frag)
noncomputable def Res(r:List Addr)(H:Hp)(h':Hh)(d:D)(Q:VK):Prop:=∀v H' r',RV K H' r' d v->HR K H' r' h'->Fm K r r' H H'->Q v H'
structure SR(m:List Nat)(H:Hp)(r:List Addr)(fr:Fr)(s:L2.St):Prop where
 len:s.length=m.length
 sl:∀(j i:Nat) d,m[j]?=some i->fr[i]?=some (some d)->∃v,s[j]?=some (some v)/\RV K H r d v
inductive tJ(m:List Nat)(P:ay)(e:E)(s:L2.St)(H:Hp)(Q:VK):Prop
 |mk (r:List Addr) (fr:Fr) (h:Hh) (d:D) (h':Hh) (c0:SR K m H r fr s) (c1:HR K H r h) (c2:Ev.ev P e fr h=.ok d h') (c3:Res K r H h' d Q):tJ m P e s H Q
inductive Ef(m:List Nat)(P:ay)(e:E)(s:L2.St)(H:Hp)(Q:Bool->Hp->Prop):Prop
 |mk (r:List Addr) (fr:Fr) (h:Hh) (k:Bool) (h':Hh) (c0:SR K m H r fr s) (c1:HR K H r h) (c2:Ev.av P e fr h=.ok k h') (c3:∀H' r',HR K H' r' h'->Fm K r r' H H'->Q k H'):Ef m P e s H Q
inductive Eg(m:List Nat)(P:ay)(es:Es)(s:L2.St)(H:Hp)(Q:List V->Hp->Prop):Prop
 |mk (r:List Addr) (fr:Fr) (h:Hh) (ds:List D) (h':Hh) (c0:SR K m H r fr s) (c1:HR K H r h) (c2:Ev.bz P es fr h=.ok ds h') (c3:∀vs H' r',aC K H' r' ds vs->HR K H' r' h'->Fm K r r' H H'->Q vs H'):Eg m P es s H Q
inductive JU(m:List Nat)(P:ay)(e:Eo)(s:L2.St)(H:Hp)(Q:Option Int->Hp->Prop):Prop
 |mk (r:List Addr) (fr:Fr) (h:Hh) (o:Option Int) (h':Hh) (c0:SR K m H r fr s) (c1:HR K H r h) (c2:Ev.dU P e fr h=.ok o h') (c3:∀H' r',HR K H' r' h'->Fm K r r' H H'->Q o H'):JU m P e s H Q
inductive gm(f:D->D->Hh->R D)(x:V)(y:V)(H:Hp)(Q:VK):Prop
 |mk (r:List Addr) (h:Hh) (a:D) (b:D) (d:D) (h':Hh) (c0:HR K H r h) (c1:RV K H r a x) (c2:RV K H r b y) (c3:f a b h=.ok d h') (c4:Res K r H h' d Q):gm f x y H Q
inductive MB(f:D->Hh->R D)(x:V)(H:Hp)(Q:VK):Prop
 |mk (r:List Addr) (h:Hh) (a:D) (d:D) (h':Hh) (c0:HR K H r h) (c1:RV K H r a x) (c2:f a h=.ok d h') (c3:Res K r H h' d Q):MB f x H Q
inductive Ax(f:List D->Hh->R D)(xs:List V)(H:Hp)(Q:VK):Prop
 |mk (r:List Addr) (h:Hh) (as:List D) (d:D) (h':Hh) (c0:HR K H r h) (c1:aC K H r as xs) (c2:f as h=.ok d h') (c3:Res K r H h' d Q):Ax f xs H Q
inductive vP(f:D->List D->Hh->R D)(x:V)(xs:List V)(H:Hp)(Q:VK):Prop
 |mk (r:List Addr) (h:Hh) (a:D) (as:List D) (d:D) (h':Hh) (c0:HR K H r h) (c1:RV K H r a x) (c2:aC K H r as xs) (c3:f a as h=.ok d h') (c4:Res K r H h' d Q):vP f x xs H Q
inductive Eh  (x:V) (lo:Option Int) (hi:Option Int) (H:Hp) (Q:VK):Prop
 |mk (r:List Addr) (h:Hh) (a:D) (d:D) (h':Hh) (c0:HR K H r h) (c1:RV K H r a x) (c2:Ev.fH a lo hi h=.ok d h') (c3:Res K r H h' d Q):Eh x lo hi H Q
end
section
variable{K:PySem.W.Frag}{m:List Nat}{H H':Hp}{r r':List Addr}{fr:Fr}{s:L2.St}{h h':Hh}{d:D}{Q:VK}
theorem SR.mono(a:SR K m H r fr s)(f:Fm K r r' H H'):SR K m H' r' fr s:=⟨a.len,λj i d e1 e2=>by
 obtain⟨v,q,z⟩:=a.sl j i d e1 e2;exact⟨v,q,z.mono f⟩⟩
theorem Res.here{v:V}(q:Res K r H h d Q)(a:RV K H r d v)(b:HR K H r h):Q v H:=q v H r a b .refl
theorem Res.later(q:Res K r H h' d Q)(f:Fm K r r' H H'):Res K r' H' h' d Q:=λv H2 r2 a b g=>q v H2 r2 a b (f.trans g)
theorem Res.lst{ds:List D}{vs:List V}(q:Res K r H h' d Q)(e:Ev.alloc ds h=.ok d h')(a:aC K H r ds vs)(b:HR K H r h):vs.length<=sizeLine/\∀p,H p=none->Q (.ref p) (upd H p (.lst vs)):=by
 unfold Ev.alloc at e;split at e
 .rename_i z;cases e;refine⟨by rw[a.length,<-iA];exact z,λp hp=>?_⟩;exact q _ _ (r++[p]) ⟨p,rfl,by rw[<-b.len];simp⟩ (b.lst hp a) (.laid hp)
 .cases e
theorem Res.tup{ds:List D}{vs:List V}(q:Res K r H h (.tup ds) Q)(a:aC K H r ds vs)(b:HR K H r h){p:Addr}(hp:H p=none):Q (.ref p) (upd H p (.tup vs)):=
 q _ _ r ⟨p,vs,rfl,.of cj,a.mono (.tup hp)⟩ (b.tup hp) (.tup hp)
end
theorem PE.of{X:Cx}{e:Expr}{t t':TE}(h:PE X e t)(w:∀s H Q,t' s H Q->t s H Q):PE X e t':=λpins s σ H Q I q=>h pins s σ H Q I (w _ _ _ q)
theorem PT.of{X:Cx}{e:Expr}{t t':TT}(h:PT X e t)(w:∀s H Q,t' s H Q->t s H Q):PT X e t':=λpins s σ H Q I q=>h pins s σ H Q I (w _ _ _ q)
theorem PW.of{X:Cx}{e:Expr}{t t':TT}(h:PW X e t)(w:∀s H Q,t' s H Q->t s H Q):PW X e t':=λwh pins s σ H Q I q=>h wh pins s σ H Q I (w _ _ _ q)
theorem PA.of{X:Cx}{es:List Expr}{t t':TA}(h:PA X es t)(w:∀s H Q,t' s H Q->t s H Q):PA X es t':=λpos pins s σ H Q I q=>h pos pins s σ H Q I (w _ _ _ q)
theorem PO.of{X:Cx}{e:Option Expr}{t t':TO}(h:PO X e t)(w:∀s H Q,t' s H Q->t s H Q):PO X e t':=λpins s σ H Q I q=>h pins s σ H Q I (w _ _ _ q)
structure FI where
 name:Str
 addr:Addr
 fd:FuncData
 ps:List Str
noncomputable def jH(K:PySem.W.Frag)(F:List Ev.Fn)(w n f:Nat):Sp:=λvs H Q _=>∃r h ds d h',aC K H r ds vs/\HR K H r h/\Ev.run F w n f ds h=.ok d h'/\Res K r H h' d Q
noncomputable def sH(K:PySem.W.Frag)(d:D)(v:V):Prop:=∀H r,RV K H r d v
theorem sH.rv{K:PySem.W.Frag}{H:Hp}{r:List Addr}{d:D}{v:V}(h:sH K d v):RV K H r d v:=h H r
structure Tb where
 F:List Ev.Fn
 w:Nat
 fi:List FI
 bl:List Str
 cs:List (Str×D)
 dk:List (Str×List (D×D))
noncomputable def tabOf:List (D×D)->List (PyData×PyData)
 | (.str k,.str v) :: r=>(.str (aS k),.str (aS v)) :: tabOf r
 |_=>[]
structure Good(G:Tb)(n:Nat)(sc:Scope)(N:List Str)(df:Bool)(X:Cx):Prop where
 nm:X.N=N
 sc:X.env.scope=sc
 calm:X.calm=true
 own:df=true->∀x,X.fn x=true
 room:eT n X.A
 xe:X.xe=λ_ _=>False
 fn:∀(f:Nat) i,G.fi[f]?=some i->X.mg i.name=some (.ref i.addr)/\PySem.W.keepIn X.K (.ref i.addr)=true/\Binds X.K i.fd i.ps []/\dz X.prog X.w X.K X.mg X.base gU n i.addr i.fd i.ps (jH X.K G.F G.w n f)
 bl:∀x∈G.bl,X.mg x=none
 cs:∀x d,(x,d)∈G.cs->∃v u,X.mg x=some u/\RelV v u/\sH X.K d v
 dk:∀x kvs,(x,kvs)∈G.dk->∃a,X.mg x=some (.ref a)/\∀h:Heap,X.K.In h->StrTab X.prog X.w h a (tabOf kvs)
section
variable(G:Tb)(n:Nat)(sc:Scope)(N:List Str)(df:Bool)(m:List Nat)
noncomputable def JE(e:E)(x:Expr):Prop:=∀X,Good G n sc N df X->PE X x (tJ X.K m (Ev.run G.F G.w n) e)
noncomputable def JT(e:E)(x:Expr):Prop:=∀X,Good G n sc N df X->PT X x (Ef X.K m (Ev.run G.F G.w n) e)
noncomputable def JW(e:E)(x:Expr):Prop:=∀X,Good G n sc N df X->PW X x (Ef X.K m (Ev.run G.F G.w n) e)
noncomputable def JA(es:Es)(xs:List Expr):Prop:=∀X,Good G n sc N df X->PA X xs (Eg X.K m (Ev.run G.F G.w n) es)
noncomputable def JO(e:Eo)(x:Option Expr):Prop:=∀X,Good G n sc N df X->PO X x (JU X.K m (Ev.run G.F G.w n) e)
end
section
variable{G:Tb}{n:Nat}{sc:Scope}{N:List Str}{df:Bool}{m:List Nat}{a b c:E}{xa xb xc:Expr}{pos:Pos}
theorem Good.vis{X:Cx}(g:Good G n sc N df X){x:Str}(h:sc.names.lookup x=some .local\/sc.names.lookup x=some .cell\/sc.names.lookup x=some .free):oA X.env.scope x:=by
 rw[g.sc];exact h
theorem Good.gl{X:Cx}(g:Good G n sc N df X){x:Str}(h:sc.names.lookup x=some .globalImplicit):Gl X x:=by
 unfold Gl Env.kindOf;rw[g.sc];exact h
theorem La(j i:Nat){x:Str}(hj:m[j]?=some i:=by rfl)(hN:N[j]?=some x:=by rfl)
  (hv:sc.names.lookup x=some .local\/sc.names.lookup x=some .cell\/sc.names.lookup x=some .free:=by first|exact Or.inl rfl|exact Or.inr (Or.inl rfl)|exact Or.inr (Or.inr rfl))
  (hd:(x==("__debug__" : Str))=false:=by decide) (hcd:(x==("__classdict__" : Str))=false:=by decide):JE G n sc N df m (.v i) (.Name x pos):=by
 intro X g;refine PE.of (mq (i:=j) (by rw[g.nm];exact hN) (g.vis hv) hd hcd) λs H Q q=>?_;obtain⟨r,fr,h,d,h',sr,hr,e,q⟩:=q;simp only[Ev.ev]at e;obtain⟨e2,e3⟩:=Ev.aE e;subst e3;obtain⟨v,q1,q2⟩:=sr.sl j i d hj (by
  cases z:fr[i]? with
  |none=>rw[z]at e2;cases e2
  |some o=>
   rw[z]at e2;have e':o=some d:=e2;rw[e'])
 exact⟨v,q1,q.here q2 hr⟩
theorem pN{K:PySem.W.Frag}{P:ay}{d:D}{v:V}(hc:sH K d v):∀s H Q,tJ K m P (.c d) s H Q->tC v s H Q:=λs H Q q=>by
 obtain⟨r,fr,h,d',h',sr,hr,e,q⟩:=q;simp only[Ev.ev]at e;cases e;exact q.here hc.rv hr
theorem Ei{i:Int}{j}:JE G n sc N df m (.c (.int i)) (.Constant (.int i) j pos):=λX g=>PE.of vj (pN λ_ _=>rfl)
theorem Ih{k:Bool}{j}:JE G n sc N df m (.c (.bl k)) (.Constant (.bool k) j pos):=λX g=>PE.of HJ (pN λ_ _=>rfl)
theorem Ej{j}:JE G n sc N df m (.c .az) (.Constant .none j pos):=λX g=>PE.of DG (pN λ_ _=>rfl)
theorem Ek{l:List Nat}{x:Str}{j}(hx:x=aS l:=by decide +kernel)(hl:l.length<=sizeLine:=by decide):JE G n sc N df m (.c (.str l)) (.Constant (.str x) j pos):=
 λX g=>PE.of vm (pN λ_ _=>by subst hx;exact⟨rfl,hl⟩)
theorem El:JA G n sc N df m .nil []:=λX g=>PA.of iu λs H Q q=>by
 obtain⟨r,fr,h,ds,h',sr,hr,e,q⟩:=q;simp only[Ev.bz]at e;cases e;exact q [] H r .nil hr .refl
theorem BV{es:Es}{xs:List Expr}(ha:JE G n sc N df m a xa)(hs:JA G n sc N df m es xs)(hst:∀env:Env,starEach (xa :: xs) env=(false,eval xa env) :: starEach xs env:=by intro _;rfl):JA G n sc N df m (.cons a es) (xa :: xs):=
 λX g=>PA.of (cU (ha X g) (hs X g) (hst _)) λs H Q q=>by
  obtain⟨r,fr,h,ds,h',sr,hr,e,q⟩:=q;simp only[Ev.bz]at e;obtain⟨d,h1,e1,e⟩:=Ev.ah e;obtain⟨ds',h2,e2,e⟩:=Ev.ah e;cases e;refine⟨r,fr,h,d,h1,sr,hr,e1,λv H1 r1 v1 hr1 f1=>?_⟩;refine⟨r1,fr,h1,ds',_,sr.mono f1,hr1,e2,λvs H2 r2 v2 hr2 f2=>?_⟩;exact q _ H2 r2 (.cons (v1.mono f2) v2) hr2 (f1.trans f2)
theorem Em{es:Es}{xs:List Expr}{k}(hs:JA G n sc N df m es xs):JE G n sc N df m (.tup es) (.Tuple xs k pos):=λX g=>PE.of (vF (hs X g)) λs H Q q=>by
 obtain⟨r,fr,h,d,h',sr,hr,e,q⟩:=q;simp only[Ev.ev]at e;obtain⟨ds,h1,e1,e⟩:=Ev.ah e;split at e
 .rename_i z;cases e;refine⟨r,fr,h,ds,_,sr,hr,e1,λvs H1 r1 v1 hr1 f1=>⟨by rw[v1.length,<-iA];exact z,λp hp=>?_⟩⟩;exact(q.later f1).tup v1 hr1 hp
 .cases e
theorem En{es:Es}{xs:List Expr}(hs:JA G n sc N df m es xs):JE G n sc N df m (.lst es) (.List xs pos):=λX g=>PE.of (qc (hs X g)) λs H Q q=>by
 obtain⟨r,fr,h,d,h',sr,hr,e,q⟩:=q;simp only[Ev.ev]at e;obtain⟨ds,h1,e1,e⟩:=Ev.ah e;refine⟨r,fr,h,ds,h1,sr,hr,e1,λvs H1 r1 v1 hr1 f1=>?_⟩;exact(q.later f1).lst e v1 hr1
theorem mH{K:PySem.W.Frag}{P:ay}{f:D->D->Hh->R D}{e':E}(he:∀fr h,Ev.ev P e' fr h=(Ev.ev P a fr h).bind λx h1=>(Ev.ev P b fr h1).bind λy h2=>f x y h2) :
  ∀s H Q,tJ K m P e' s H Q->vD (gm K f) (tJ K m P a) (tJ K m P b) s H Q:=λs H Q q=>by
 obtain⟨r,fr,h,d,h',sr,hr,e,q⟩:=q;rw[he]at e;obtain⟨x,h1,e1,e⟩:=Ev.ah e;obtain⟨y,h2,e2,e⟩:=Ev.ah e;refine⟨r,fr,h,x,h1,sr,hr,e1,λv H1 r1 v1 hr1 f1=>?_⟩;refine⟨r1,fr,h1,y,h2,sr.mono f1,hr1,e2,λu H2 r2 v2 hr2 f2=>?_⟩;exact⟨r2,h2,x,y,d,h',hr2,v1.mono f2,v2,e,q.later (f1.trans f2)⟩
theorem mJ{o:aU}{op:Operator}(ho:∀X,Good G n sc N df X->cI X (binaryOp op) (gm X.K (Ev.bI o)))(ha:JE G n sc N df m a xa)(hb:JE G n sc N df m b xb):JE G n sc N df m (.bin o a b) (.BinOp xa op xb pos):=
 λX g=>PE.of (As (ho X g) (ha X g) (hb X g)) (mH λfr h=>by simp only[Ev.ev])
noncomputable def fD(o:aP):D->D->Hh->R D:=λx y h=>R.of ((Ev.cop o x y h).map .bl) h
theorem qj{o:aP}{op:CmpOp}(ho:∀X,Good G n sc N df X->cI X (compareOp op) (gm X.K (fD o)))(ha:JE G n sc N df m a xa)(hb:JE G n sc N df m b xb)(hm:behindInMarks op xb=false):JE G n sc N df m (.cmp o a b) (.Compare xa [op] [xb] pos):=
 λX g=>PE.of (BE (ho X g) (ha X g) (hb X g) hm) (mH λfr h=>by simp only[Ev.ev,fD])
theorem g9{o:aP}{x y d:D}{h h':Hh}(e:fD o x y h=.ok d h'):∃k,Ev.cop o x y h=some k/\d=.bl k/\h'=h:=by
 unfold fD at e;obtain⟨e1,rfl⟩:=Ev.aE e;cases z:Ev.cop o x y h' with
 |none=>rw[z]at e1;cases e1
 |some k=>rw[z]at e1;cases e1;exact⟨k,rfl,rfl,rfl⟩
theorem jZ{o:aP}{op:CmpOp}(ho:∀X,Good G n sc N df X->cI X (compareOp op) (gm X.K (fD o)))(ha:JE G n sc N df m a xa)(hb:JE G n sc N df m b xb)(hm:behindInMarks op xb=false):JT G n sc N df m (.cmp o a b) (.Compare xa [op] [xb] pos):=
 λX g=>PT.of (sq (ho X g) (ha X g) (hb X g) hm) λs H Q q=>by
  obtain⟨r,fr,h,k,h',sr,hr,e,q⟩:=q;simp only[Ev.av]at e;obtain⟨d,h1,e1,e⟩:=Ev.ah e;have e0:=e1;simp only[Ev.ev]at e0;obtain⟨x,h2,_,e0⟩:=Ev.ah e0;obtain⟨y,h3,_,e0⟩:=Ev.ah e0;obtain⟨k',e2,e3,e4⟩:=g9 (o:=o) (show fD o x y h3=_ from e0);subst e3;simp only[Ev.truthy]at e;cases e;refine mH (e':=.cmp o a b) (f:=fD o) (λfr h=>by simp only[Ev.ev,fD]) s H _ ⟨r,fr,h,.bl k,_,sr,hr,e1,λv H1 r1 v1 hr1 f1=>?_⟩;exact⟨k,v1,q H1 r1 hr1 f1⟩
end
end Sm
set_option maxRecDepth 100000
namespace Sm
open PySem PySem.Spec PyProof.Rows L2
open Ev (D O Hh Fr R ay E Es Eo It T S Ss Fl Src aU aP TY BI ME)
section
variable{G:Tb}{n:Nat}{sc:Scope}{N:List Str}{df:Bool}{m:List Nat}{a b c:E}{xa xb xc:Expr}{pos:Pos}
theorem Ep{op}(ha:JE G n sc N df m a xa):JE G n sc N df m a (.BoolOp op [xa] pos):=λX g=>DJ (ha X g)
theorem Ii{rest:List Expr}(ha:JE G n sc N df m a xa)(hb:JE G n sc N df m b (.BoolOp .And (xb :: rest) pos)):JE G n sc N df m (.an a b) (.BoolOp .And (xa :: xb :: rest) pos):=λX g=>PE.of (DK (ha X g) (hb X g)) λs H Q q=>by
 obtain⟨r,fr,h,d,h',sr,hr,e,q⟩:=q;simp only[Ev.ev]at e;obtain⟨x,h1,e1,e⟩:=Ev.ah e;refine⟨r,fr,h,x,h1,sr,hr,e1,λv H1 r1 v1 hr1 f1=>?_⟩;split at e
 .exact⟨true,v1,r1,fr,h1,d,h',sr.mono f1,hr1,e,q.later f1⟩
 .cases e;exact⟨false,v1,(q.later f1).here rfl hr1⟩
 .cases e
theorem Er(ha:JT G n sc N df m a xa)(hb:JE G n sc N df m b xb)(hc:JE G n sc N df m c xc):JE G n sc N df m (.fG a b c) (.IfExp xa xb xc pos):=λX g=>PE.of (x8 (ha X g) (hb X g) (hc X g)) λs H Q q=>by
 obtain⟨r,fr,h,d,h',sr,hr,e,q⟩:=q;simp only[Ev.ev]at e;obtain⟨k,h1,e1,e⟩:=Ev.ah e;refine⟨r,fr,h,k,h1,sr,hr,e1,λH1 r1 hr1 f1=>?_⟩;cases k with
 |true=>exact⟨r1,fr,h1,d,h',sr.mono f1,hr1,e,q.later f1⟩
 |false=>exact⟨r1,fr,h1,d,h',sr.mono f1,hr1,e,q.later f1⟩
theorem Et(h:JW G n sc N df m a xa):JT G n sc N df m a xa:=λX g=>(h X g).pt
theorem Eu(ha:JT G n sc N df m a xa):JW G n sc N df m a (.BoolOp .And [xa] pos):=λX g=>Bv (ha X g)
theorem BW(ha:JT G n sc N df m a xa):JW G n sc N df m a (.BoolOp .Or [xa] pos):=λX g=>vn (ha X g)
theorem Ay{rest:List Expr}(ha:JT G n sc N df m a xa)(hb:JW G n sc N df m b (.BoolOp .And (xb :: rest) pos)):JW G n sc N df m (.an a b) (.BoolOp .And (xa :: xb :: rest) pos):=λX g=>PW.of (DI (ha X g) (hb X g)) λs H Q q=>by
 obtain⟨r,fr,h,k,h',sr,hr,e,q⟩:=q;simp only[Ev.av]at e;obtain⟨k1,h1,e1,e⟩:=Ev.ah e;refine⟨r,fr,h,k1,h1,sr,hr,e1,λH1 r1 hr1 f1=>?_⟩;cases k1 with
 |true=>exact⟨r1,fr,h1,k,h',sr.mono f1,hr1,e,λH2 r2 hr2 f2=>q H2 r2 hr2 (f1.trans f2)⟩
 |false=>
  have e':R.ok false h1=R.ok k h':=e;cases e';exact q H1 r1 hr1 f1
theorem vQ{rest:List Expr}(ha:JT G n sc N df m a xa)(hb:JW G n sc N df m b (.BoolOp .Or (xb :: rest) pos)):JW G n sc N df m (.orr a b) (.BoolOp .Or (xa :: xb :: rest) pos):=λX g=>PW.of (Am (ha X g) (hb X g)) λs H Q q=>by
 obtain⟨r,fr,h,k,h',sr,hr,e,q⟩:=q;simp only[Ev.av]at e;obtain⟨k1,h1,e1,e⟩:=Ev.ah e;refine⟨r,fr,h,k1,h1,sr,hr,e1,λH1 r1 hr1 f1=>?_⟩;cases k1 with
 |false=>exact⟨r1,fr,h1,k,h',sr.mono f1,hr1,e,λH2 r2 hr2 f2=>q H2 r2 hr2 (f1.trans f2)⟩
 |true=>
  have e':R.ok true h1=R.ok k h':=e;cases e';exact q H1 r1 hr1 f1
theorem Ij(ha:JT G n sc N df m a xa):JT G n sc N df m (.nt a) (.UnaryOp .Not xa pos):=λX g=>PT.of (vp (ha X g)) λs H Q q=>by
 obtain⟨r,fr,h,k,h',sr,hr,e,q⟩:=q;simp only[Ev.av]at e;obtain⟨k1,h1,e1,e⟩:=Ev.ah e;cases e;exact⟨r,fr,h,k1,_,sr,hr,e1,λH1 r1 hr1 f1=>q H1 r1 hr1 f1⟩
theorem Ew{K:PySem.W.Frag}{H:Hp}{r:List Addr}{h:Hh}{d:D}{v:V}{k:Bool}(hr:HR K H r h)(v1:RV K H r d v)(e:Ev.truthy h d=some k):yi K v H k:=by
 cases d with
 |az=>simp only[RV]at v1;subst v1;cases e;rfl
 |bl x=>simp only[RV]at v1;subst v1;cases e;rfl
 |int x=>simp only[RV]at v1;subst v1;cases e;rfl
 |str x=>
  simp only[RV]at v1;obtain⟨rfl,z⟩:=v1;cases e;refine⟨by rw[bR];exact z,?_⟩;rw[bR];cases x with
  |nil=>rfl
  |cons c l=>simp;omega
 |tup ds=>
  simp only[RV]at v1;obtain⟨p,vs,rfl,z,q⟩:=v1;cases e;refine .inr (.inl ⟨vs,z,?_⟩);have hl:=q.length;cases ds<;>cases vs<;>simp_all
 |ref i=>
  simp only[RV]at v1;obtain⟨p,rfl,z⟩:=v1;simp only[Ev.truthy]at e;simp only[Option.map_eq_some_iff]at e;obtain⟨ds,e1,rfl⟩:=e;obtain⟨p',vs,e2,q1,q2⟩:=hr.read e1;rw[z]at e2;cases e2;refine .inl ⟨vs,q1,?_⟩;have hl:=q2.length;cases ds<;>cases vs<;>simp_all
theorem Ey(ha:JE G n sc N df m a xa)(he:∀(P:ay) fr h,Ev.av P a fr h=(Ev.ev P a fr h).bind λx h1=>R.of (Ev.truthy h1 x) h1:=by intros;simp only[Ev.av])
  (hx:∀(env:Env) whole,isTrue xa env whole=(do let v <-whole;standAt xa.pos;holding [v] (truthy v)):=by intro _ _;rfl):JT G n sc N df m a xa:=λX g=>PT.of (yj (ha X g) (hx _)) λs H Q q=>by
 obtain⟨r,fr,h,k,h',sr,hr,e,q⟩:=q;rw[he]at e;obtain⟨d,h1,e1,e⟩:=Ev.ah e;obtain⟨e,rfl⟩:=Ev.aE e;refine⟨r,fr,h,d,_,sr,hr,e1,λv H1 r1 v1 hr1 f1=>⟨k,Ew hr1 v1 e,q H1 r1 hr1 f1⟩⟩
noncomputable def Ez:D->D->Hh->R D:=λx y h=>R.of (Ev.eY x y h) h
theorem Ik(ho:∀X,Good G n sc N df X->sD X (gm X.K Ez))(ha:JE G n sc N df m a xa)(hb:JE G n sc N df m b xb)(hs:sC xb:=by intro _ _;rfl):JE G n sc N df m (.ix a b) (.Subscript xa xb pos):=
 λX g=>PE.of (Ic (ho X g) (ha X g) (hb X g) hs) (mH λfr h=>by simp only[Ev.ev,Ez])
theorem Il:JO G n sc N df m .no none:=λX g=>PO.of BK λs H Q q=>by
 obtain⟨r,fr,h,o,h',sr,hr,e,q⟩:=q;simp only[Ev.dU]at e;cases e;exact q H r hr .refl
theorem EA(ha:JE G n sc N df m a xa):JO G n sc N df m (.yes a) (some xa):=λX g=>PO.of (BL (ha X g)) λs H Q q=>by
 obtain⟨r,fr,h,o,h',sr,hr,e,q⟩:=q;simp only[Ev.dU]at e;obtain⟨d,h1,e1,e⟩:=Ev.ah e;obtain⟨e,rfl⟩:=Ev.aE e;cases d with
 |int i=>
  cases e;exact⟨r,fr,h,.int i,_,sr,hr,e1,λv H1 r1 v1 hr1 f1=>⟨i,v1,q H1 r1 hr1 f1⟩⟩
 |_=>cases e
theorem Im{lo hi:Eo}{xl xh:Option Expr}{p2}(ho:∀X,Good G n sc N df X->jc X (Eh X.K))(ha:JE G n sc N df m a xa)(hl:JO G n sc N df m lo xl)(hu:JO G n sc N df m hi xh):JE G n sc N df m (.sl a lo hi) (.Subscript xa (.Slice xl xh none p2) pos):=
 λX g=>PE.of (ym (ho X g) (ha X g) (hl X g) (hu X g)) λs H Q q=>by
  obtain⟨r,fr,h,d,h',sr,hr,e,q⟩:=q;simp only[Ev.ev]at e;obtain⟨x,h1,e1,e⟩:=Ev.ah e;obtain⟨l,h2,e2,e⟩:=Ev.ah e;obtain⟨u,h3,e3,e⟩:=Ev.ah e;refine⟨r,fr,h,x,h1,sr,hr,e1,λv H1 r1 v1 hr1 f1=>?_⟩;refine⟨r1,fr,h1,l,h2,sr.mono f1,hr1,e2,λH2 r2 hr2 f2=>?_⟩;refine⟨r2,fr,h2,u,h3,(sr.mono f1).mono f2,hr2,e3,λH3 r3 mK f3=>?_⟩;exact⟨r3,h3,x,d,h',mK,(v1.mono f2).mono f3,e,q.later ((f1.trans f2).trans f3)⟩
theorem BX{K:PySem.W.Frag}{P:ay}{es:Es}{f:List D->Hh->R D}{e':E}(he:∀fr h,Ev.ev P e' fr h=(Ev.bz P es fr h).bind f) :
  ∀s H Q,tJ K m P e' s H Q->DY (Ax K f) (Eg K m P es) s H Q:=λs H Q q=>by
 obtain⟨r,fr,h,d,h',sr,hr,e,q⟩:=q;rw[he]at e;obtain⟨ds,h1,e1,e⟩:=Ev.ah e;exact⟨r,fr,h,ds,h1,sr,hr,e1,λvs H1 r1 v1 hr1 f1=>⟨r1,h1,ds,d,h',hr1,v1,e,q.later f1⟩⟩
theorem Io{k:BI}{es:Es}{x:Str}{id:String}{e0:Expr}{xs:List Expr}{p:Pos}(hc:∀X,Good G n sc N df X->gD X (.builtin id) (Ax X.K (Ev.dS k)))(hs:JA G n sc N df m es (e0 :: xs))(hb:x∈G.bl:=by decide +kernel)
  (hg:sc.names.lookup x=some .globalImplicit:=by rfl) (hv:bootBuiltins x=some (.builtin id)) (hn:x≠"__name__" :=by decide) (hd:(x==("__debug__" : Str))=false:=by decide)
  (hst:∀env:Env,starEach (e0 :: xs) env=(false,eval e0 env) :: starEach xs env:=by intro _;rfl) (hpl:∀env:Env,(backTo pos (starEach xs env)).any (·.1)=false:=by intro _;rfl) :
  JE G n sc N df m (.bi k es) (.Call (.Name x p) (e0 :: xs) [] pos):=
 λX g=>PE.of (lI (hc X g) (g.gl hg) (g.bl x hb) hv (hs X g) hn hd (hst _) (hpl _)) (BX λfr h=>by simp only[Ev.ev])
theorem Ip{f:Nat}{i:FI}{es:Es}{e0:Expr}{xs:List Expr}{p:Pos}(hf:G.fi[f]?=some i)(hs:JA G n sc N df m es (e0 :: xs))
  (hg:sc.names.lookup i.name=some .globalImplicit:=by rfl) (hd:(i.name==("__debug__" : Str))=false:=by decide)
  (hst:∀env:Env,starEach (e0 :: xs) env=(false,eval e0 env) :: starEach xs env:=by intro _;rfl) (hpl:∀env:Env,(backTo pos (starEach xs env)).any (·.1)=false:=by intro _;rfl) :
  JE G n sc N df m (.cl f es) (.Call (.Name i.name p) (e0 :: xs) [] pos):=λX g=>by
 obtain⟨h1,h2,h3,h4⟩:=g.fn f i hf;refine PE.of (BG h4 g.room (g.gl hg) h1 h2 h3 .nil Ig (hs X g) hd (hst _) (hpl _)) λs H Q q=>?_;obtain⟨r,fr,h,d,h',sr,hr,e,q⟩:=q;simp only[Ev.ev]at e;obtain⟨ds,h5,e1,e⟩:=Ev.ah e;refine⟨r,fr,h,ds,h5,sr,hr,e1,λvs H1 r1 v1 hr1 f1=>?_⟩;exact⟨r1,h5,ds,d,h',by rw[List.append_nil];exact v1,hr1,e,q.later f1⟩
noncomputable def EB:ME->String
 |.join=>"str"
 |_=>"list"
theorem EC{K:PySem.W.Frag}{H:Hp}{r:List Addr}{h:Hh}{k:ME}{d:D}{v:V}{ty:String}(hr:HR K H r h)(v1:RV K H r d v)(e:Ev.mF k d h=true)(ht:ty=EB k):Av K ty v H:=by
 subst ht;have lst:∀i,d=.ref i->(Ev.aH h i).isSome=true->Av K "list" v H:=λi ed es=>by
  subst ed;obtain⟨ds,e1⟩:=Option.isSome_iff_exists.mp es;obtain⟨p,vs,e2,q1,q2⟩:=hr.read e1;simp only[RV]at v1;obtain⟨p',rfl,e3⟩:=v1;rw[e2]at e3;cases e3;exact .inl ⟨rfl,vs,q1⟩
 cases k with
 |join=>
  cases d with
  |str l=>simp only[RV]at v1;obtain⟨rfl,_⟩:=v1;rfl
  |_=>cases e
 |append=>cases d with|ref i=>exact lst i rfl e|_=>cases e
 |extend=>cases d with|ref i=>exact lst i rfl e|_=>cases e
 |pop=>cases d with|ref i=>exact lst i rfl e|_=>cases e
theorem ur {k:ME}{es:Es}{e0:Expr}{xs:List Expr}{name:Str}{apos:Pos}{ty id:String}(pa:PlainAttrs ty) (slot:Slot ty name id) (hty:typeOf (.builtin id)=pure (.type "method_descriptor"))
  (hm:∀X,Good G n sc N df X->vI X id (vP X.K (Ev.dZ k))) (ht:ty=EB k) (ha:JE G n sc N df m a xa) (hs:JA G n sc N df m es (e0 :: xs))
  (hbase:∀env:Env,attributeBase xa name env (eval xa env)=eval xa env:=by intro _;rfl)
  (hfew:∀env:Env,((backTo pos (starEach (e0 :: xs) env)).all (λx=>!x.1)&&(backToKw pos (keywordEach [] env)).all (λx=>x.1.isSome)
   &&decide ((e0 :: xs).length+([]:List Keyword).length+(if ([]:List Keyword).isEmpty then 0 else 1)<30))=true:=by intro _;rfl)
  (hline:(apos.endLine==pos.line)=true:=by rfl) (hst:∀env:Env,starEach (e0 :: xs) env=(false,eval e0 env) :: starEach xs env:=by intro _;rfl) (hpl:∀env:Env,(backTo pos (starEach xs env)).any (·.1)=false:=by intro _;rfl) :
  JE G n sc N df m (.me k a es) (.Call (.Attribute xa name apos) (e0 :: xs) [] pos):=λX g=>
 PE.of (Ie pa slot hty (hm X g) (ha X g) (hs X g) (hbase _) (hfew _) hline (hst _) (hpl _)) λs H Q q=>by
  obtain⟨r,fr,h,d,h',sr,hr,e,q⟩:=q;simp only[Ev.ev]at e;obtain⟨x,h1,e1,e⟩:=Ev.ah e;split at e
  .rename_i hk;obtain⟨ds,h2,e2,e⟩:=Ev.ah e;refine⟨r,fr,h,x,h1,sr,hr,e1,λv H1 r1 v1 hr1 f1=>⟨EC hr1 v1 hk ht,?_⟩⟩;refine⟨r1,fr,h1,ds,h2,sr.mono f1,hr1,e2,λvs H2 r2 v2 hr2 f2=>?_⟩;exact⟨r2,h2,x,ds,d,h',hr2,v1.mono f2,v2,e,q.later (f1.trans f2)⟩
  .cases e
end
end Sm
set_option maxRecDepth 100000
namespace Sm
open PySem PySem.Spec PyProof.Rows L2
open Ev (D O Hh Fr R ay E Es Eo T S Ss Fl Src aU aP TY BI ME)
noncomputable def nJ(K:PySem.W.Frag)(r0:List Addr)(H0:Hp)(s:Src)(J:L2.It):Prop:=∀(i:Nat) H1 r1 h1,HR K H1 r1 h1->Fm K r0 r1 H0 H1->Ev.stays h1 s.2=true->
 (∀d,s.1[i]?=some d->J.go i H1/\∀x H2,J.Aq i H1 x H2->∃r2,RV K H2 r2 d x/\HR K H2 r2 h1/\Fm K r1 r2 H1 H2)/\(s.1.length<=i->J.stop i H1)
inductive JV(K:PySem.W.Frag)(m:List Nat)(P:ay)(it:Ev.It)(s:L2.St)(H:Hp)(Rr:L2.It->Hp->Prop):Prop
 |mk (r:List Addr) (fr:Fr) (h:Hh) (src:Src) (h':Hh) (c0:SR K m H r fr s) (c1:HR K H r h) (c2:Ev.b9 P it fr h=.ok src h') (c3:∀J H' r',HR K H' r' h'->Fm K r r' H H'->nJ K r' H' src J->Rr J H'):JV K m P it s H Rr
noncomputable def JI(G:Tb)(n:Nat)(sc:Scope)(N:List Str)(df:Bool)(m:List Nat)(it:Ev.It)(tg x:Expr):Prop:=∀X,Good G n sc N df X->PI X tg x (JV X.K m (Ev.run G.F G.w n) it)
noncomputable def Az(z:Str):L2.It:=⟨λi _=>i<z.length,λi H x H'=>H'=H/\∃c,z.cps[i]?=some c/\x=.str ⟨#[c]⟩,λi _=>z.length<=i⟩
theorem ED{M:Model}{A:Around}{E:Value->Shared->Prop}{s:Shared}{tg:Expr}{it:Value}{x:Str}{t:Tok}{Q:Unit->Shared->Prop}(hQ:Q () s):wpAny M A (letOwnedTupleGo tg it (.str x t)) Q E s:=by
 unfold letOwnedTupleGo;cases tg<;>first
  |exact wpAny_pure hQ
  | (cases it<;>exact wpAny_pure hQ)
theorem qk {P:Program}{w:World}{K:PySem.W.Frag}{tg:Expr}(z:Str) (t:Tok) (it:Addr) (ty:String) (hty:ty = "str_ascii_iterator" \/ty = "str_iterator") :
  Turn P w K tg (Az z) [it] it (λi h=>h.IsStrIter it ty z t i) where
 mem:=by simp
 obj:=λi h st b hb=>by
  have e:b=it:=by simpa using hb
  subst e;obtain⟨o,e,c,d⟩:=st;exact⟨o,e,λv z=>by rw[d]at z;cases z⟩
 keep:=λi h h' st k=>by
  obtain⟨o,e,c,d⟩:=st;exact⟨o,k it (by simp) o e,c,d⟩
 item:=by
  intro X hP hw hK hc i pins s σ H E I hf st hg;subst hP hw hK;obtain⟨f0,f1,f2,f3,f4,f5⟩:=hf it (by simp);have W:Walks X.prog X.w X.A it [it] [it] z.cps.size (SignAt z) (λi h=>h.IsStrIter it ty z t i):=by
   rcases hty with e|e
   .subst e;exact Walks.strAscii (I.ok.hd hc) it z t
   .subst e;exact Walks.strWide (I.ok.hd hc) it z t
  refine W.item i s _ _ hg st λv h' tk hv st' kk=>?_;obtain⟨c,u,hc',rfl⟩:=hv;have I1:Inv X pins σ H { s with heap:=h',toks:=tk }:=I.turned (λb o hb e=>kk b o (by simpa using hb) e) f0 f1 f3 f4 f5;exact⟨_,rfl,ED ⟨.str ⟨#[c]⟩,H,I1,⟨u,rfl⟩,⟨rfl,c,hc',rfl⟩,st',λb hb=>(hf b hb).1⟩⟩
 done:=by
  intro X hP hw hK hc i pins s σ H E I hf st hg;subst hP hw hK;obtain⟨f0,f1,f2,f3,f4,f5⟩:=hf it (by simp);rcases hty with e|e
  .subst e;exact wpAny_pyNext_ascii_end (I.ok.hd hc) st (by simpa[Str.length,Az]using hg) λh' eb=>⟨rfl,I.turned (t':=s.toks) (λb o hb e=>eb b o hb e) f0 f1 f3 f4 f5⟩
  .subst e;exact wpAny_pyNext_wide_end (I.ok.hd hc) st (by simpa[Str.length,Az]using hg) λh' eb=>⟨rfl,I.turned (t':=s.toks) (λb o hb e=>eb b o hb e) f0 f1 f3 f4 f5⟩
 self:=λ_ _ _ _ _ st h=>by
  rcases hty with e|e
  .subst e;exact wpAny_pyIter_striter_ascii st h
  .subst e;exact wpAny_pyIter_striter_wide st h
noncomputable def AA(K:PySem.W.Frag)(x:V)(H:Hp)(Rr:L2.It->Hp->Prop):Prop:=
 (∃a xs,x=.ref a/\dI K H a xs/\Rr (JL K a) H)\/(∃a xs,x=.ref a/\cH K H a xs/\Rr (JM K a) H)\/∃z,x=.str z/\Rr (Az z) H
theorem EE{X:Cx}{tg l:Expr}{tl:TE}{wi:TI}(hl:PE X l tl)(hw:∀s H Rr,wi s H Rr->tl s H λx H1=>AA X.K x H1 Rr):PI X tg l wi:=by
 intro pins s σ H Rr I h;refine bB (hl pins s σ H _ I (hw _ _ _ h)) λv s1 ⟨x,H1,I1,r1,q1⟩=>?_;have fp:∀(o:Obj) b,b∈[s1.heap.objs.size]->fP X pins H1 b:=λo b hb=>by
  have e:b=s1.heap.objs.size:=by simpa using hb
  subst e;exact I1.ye (Nat.le_refl _) (I1.hok.fresh (Nat.le_refl _))
 rcases q1 with ⟨a,xs,rfl,hq,q⟩|⟨a,xs,rfl,hq,q⟩|⟨z,rfl,q⟩
 .cases r1;obtain⟨its,rv,p,hz⟩:=I1.list hq;refine wpAny_pyIter_list p.isList ?_;exact⟨s1.heap.objs.size,[s1.heap.objs.size],_,_,H1,rfl,I1.kept (t':=s1.toks) λb o e=>Heap.get?_push_of_some _ e,vz a _,⟨_,Heap.get?_push_size _ rfl,rfl,rfl⟩,fp default,q⟩
 .cases r1;obtain⟨its,rv,p,hz⟩:=I1.tuple hq;refine wpAny_pyIter_tuple (show s1.heap.IsTuple a its.toArray from p) ?_;exact⟨s1.heap.objs.size,[s1.heap.objs.size],_,_,H1,rfl,I1.kept (t':=s1.toks) λb o e=>Heap.get?_push_of_some _ e,t9 a _,⟨_,Heap.get?_push_size _ rfl,rfl,rfl⟩,fp default,q⟩
 .obtain⟨t,rfl⟩:=r1;cases ha:z.cps.all (· < 128)
  .refine wpAny_pyIter_wide ha ?_;exact⟨s1.heap.objs.size,[s1.heap.objs.size],_,_,H1,rfl,I1.kept (t':=s1.toks) λb o e=>Heap.get?_push_of_some _ e,qk z t _ _ (.inr rfl),⟨_,Heap.get?_push_size _ rfl,rfl,rfl⟩,fp default,q⟩
  .refine wpAny_pyIter_ascii ha ?_;exact⟨s1.heap.objs.size,[s1.heap.objs.size],_,_,H1,rfl,I1.kept (t':=s1.toks) λb o e=>Heap.get?_push_of_some _ e,qk z t _ _ (.inl rfl),⟨_,Heap.get?_push_size _ rfl,rfl,rfl⟩,fp default,q⟩
theorem vR{h:Hh}{n:Nat}{ds:List D}(e:Ev.stays h [(n,ds)]=true):Ev.aH h n=some ds:=by
 simp only[Ev.stays,Bool.and_true]at e;split at e
 .rename_i es q;rw[q,(Ev.oR _ _).mp e]
 .cases e
theorem BY{K:PySem.W.Frag}{H:Hp}{r:List Addr}{h:Hh}{d:D}{v:V}{src:Src}{Rr:L2.It->Hp->Prop}(hr:HR K H r h)(v1:RV K H r d v)(e:Ev.eF h d=some src)(q:∀J,nJ K r H src J->Rr J H):AA K v H Rr:=by
 cases d with
 |tup ds=>
  simp only[RV]at v1;obtain⟨a,vs,rfl,z,w⟩:=v1;cases e;refine .inr (.inl ⟨a,vs,rfl,z,q _ λi H1 r1 h1 hr1 f1 st=>⟨λd' e'=>?_,λhl=>?_⟩⟩)
  .obtain⟨u,e1,e2⟩:=w.get e';refine⟨⟨vs,u,f1.tups _ _ z,e1⟩,λx H2 y=>?_⟩;obtain⟨rfl,y⟩:=y;have:=y vs (f1.tups _ _ z);rw[e1]at this;cases this;exact⟨r1,e2.mono f1,hr1,.refl⟩
  .exact⟨vs,f1.tups _ _ z,by rw[w.length];exact hl⟩
 |str l=>
  simp only[RV]at v1;obtain⟨rfl,z⟩:=v1;cases e;refine .inr (.inr ⟨_,rfl,q _ λi H1 r1 h1 hr1 f1 st=>⟨λd' e'=>?_,λhl=>?_⟩⟩)
  .rw[List.getElem?_map]at e';cases e2:l[i]? with
   |none=>rw[e2]at e';cases e'
   |some c=>
    rw[e2]at e';cases e';refine⟨by show i<(aS l).length;rw[bR];exact(List.getElem?_eq_some_iff.mp e2).1,λx H2 y=>?_⟩;obtain⟨rfl,c',y1,rfl⟩:=y;have e3:(aS l).cps[i]?=some c:=by simp[aS,e2]
    rw[e3]at y1;cases y1;exact⟨r1,⟨rfl,by show 1<=sizeLine;decide⟩,hr1,.refl⟩
  .show(aS l).length<=i;rw[bR];simpa using hl
 |ref k=>
  simp only[RV]at v1;obtain⟨a,rfl,z⟩:=v1;simp only[Ev.eF,Option.map_eq_some_iff]at e;obtain⟨ds,e1,rfl⟩:=e;obtain⟨a',vs,e2,e3,e4⟩:=hr.read e1;rw[z]at e2;cases e2;refine .inl ⟨a,vs,rfl,e3,q _ λi H1 r1 h1 hr1 f1 st=>?_⟩;obtain⟨a',us,e5,e6,e7⟩:=hr1.read (vR st);rw[f1.pre _ _ z]at e5;cases e5;refine⟨λd' e'=>?_,λhl=>⟨us,e6,by rw[e7.length];exact hl⟩⟩;obtain⟨u,g1,g2⟩:=e7.get e';refine⟨⟨us,u,e6,g1⟩,λx H2 y=>?_⟩;obtain⟨rfl,y⟩:=y;have:=y us e6;rw[g1]at this;cases this;exact⟨r1,g2,hr1,.refl⟩
 |_=>cases e
section
variable{G:Tb}{n:Nat}{sc:Scope}{N:List Str}{df:Bool}{m:List Nat}{a b c:E}{xa xb xc tg:Expr}{pos:Pos}
theorem EF(ha:JE G n sc N df m a xa):JI G n sc N df m (.seq a) tg xa:=λX g=>EE (ha X g) λs H Rr q=>by
 obtain⟨r,fr,h,src,h',sr,hr,e,q⟩:=q;simp only[Ev.b9]at e;obtain⟨d,h1,e1,e⟩:=Ev.ah e;obtain⟨e,rfl⟩:=Ev.aE e;refine⟨r,fr,h,d,_,sr,hr,e1,λv H1 r1 v1 hr1 f1=>?_⟩;exact BY hr1 v1 e λJ hJ=>q J H1 r1 hr1 f1 hJ
theorem PI.of{X:Cx}{tg l:Expr}{t t':TI}(h:PI X tg l t)(w:∀s H Q,t' s H Q->t s H Q):PI X tg l t':=λpins s σ H Q I q=>h pins s σ H Q I (w _ _ _ q)
theorem EG{K:PySem.W.Frag}{r:List Addr}{H:Hp}(lo:Int)(k:Nat):nJ K r H (Ev.range lo k,[]) (Ar lo k):=λi H1 r1 h1 hr1 f1 st=>by
 refine⟨λd e=>?_,λhl=>?_⟩
 .simp only[Ev.range,List.getElem?_map]at e;cases e2:(List.range k)[i]? with
  |none=>rw[e2]at e;cases e
  |some j=>
   rw[e2]at e;cases e;have hi:i<k:=by simpa using (List.getElem?_eq_some_iff.mp e2).1
   have hj:j=i:=by
    rw[List.getElem?_range hi]at e2;exact(Option.some.inj e2).symm
   subst hj;refine⟨hi,λx H2 y=>?_⟩;obtain⟨rfl,rfl⟩:=y;exact⟨r1,rfl,hr1,.refl⟩
 .have:(Ev.range lo k).length=k:=by simp[Ev.range]
  show k<=i;have hl':(Ev.range lo k).length<=i:=hl;omega
theorem BZ {e1:E}{p:Pos}(hs:JA G n sc N df m (.cons e1 .nil) [xa]) (hg:sc.names.lookup ("range" : Str)=some .globalImplicit:=by rfl) (hb:("range" : Str)∈G.bl:=by decide +kernel)
  (hst:∀env:Env,starEach [xa] env=[(false,eval xa env)]:=by intro _;rfl):JI G n sc N df m (.gj (.cons e1 .nil)) tg (.Call (.Name "range" p) [xa] [] pos):=λX g=>
 PI.of (vA (g.gl hg) (g.bl _ hb) (hs X g) (hst _)) λs H Rr q=>by
  obtain⟨r,fr,h,src,h',sr,hr,e,q⟩:=q;simp only[Ev.b9]at e;obtain⟨ds,h1,e1,e⟩:=Ev.ah e;obtain⟨e,rfl⟩:=Ev.aE e;refine⟨r,fr,h,ds,_,sr,hr,e1,λvs H1 r1 v1 hr1 f1=>?_⟩;unfold Ev.dN at e;split at e
  .rename_i j;split at e
   .rename_i hj;cases e;simp only[aC,RV]at v1;obtain⟨v,w,rfl,rfl,rfl⟩:=v1;exact⟨_,rfl,hj.1,hj.2,q _ H1 r1 hr1 f1 (EG 0 _)⟩
   .cases e
  .exfalso;simp only[Ev.bz]at e1;obtain⟨d,_,_,e1⟩:=Ev.ah e1;simp only[Ev.aj]at e1;cases e1
  .cases e
inductive gJ(K:PySem.W.Frag)(m:List Nat)(t:T)(v:V)(s:L2.St)(H:Hp)(Q:L2.St->Hp->Prop):Prop
 |mk (r:List Addr) (fr:Fr) (h:Hh) (d:D) (ai:Fr) (c0:SR K m H r fr s) (c1:HR K H r h) (c2:RV K H r d v) (c3:Ev.aZ t d fr=some ai) (c4:∀s',SR K m H r ai s'->Q s' H):gJ K m t v s H Q
noncomputable def JG(G:Tb)(n:Nat)(sc:Scope)(N:List Str)(df:Bool)(m:List Nat)(t:T)(x:Expr):Prop:=∀X,Good G n sc N df X->PG X x (gJ X.K m t)
theorem PG.of{X:Cx}{e:Expr}{t t':TG}(h:PG X e t)(w:∀v s H Q,t' v s H Q->t v s H Q):PG X e t':=λpins s σ H v u Q I r q=>h pins s σ H v u Q I r (w _ _ _ _ q)
theorem SR.set{K:PySem.W.Frag}{m:List Nat}{H:Hp}{r:List Addr}{fr:Fr}{s:L2.St}(sr:SR K m H r fr s)(hm:m.Nodup){j i:Nat}(hj:m[j]?=some i){d:D}{v:V}(v1:RV K H r d v):SR K m H r (fr.set i (some d)) (s.set j (some v)):=by
 refine⟨by simp[sr.len],λj' i' d' e1 e2=>?_⟩;by_cases hi:i'=i
 .subst hi;have:j'=j:=vS hm e1 hj;subst this;have hlt:i'<fr.length:=by
   have:=(List.getElem?_eq_some_iff.mp e2).1;simpa using this
  rw[List.getElem?_set_self hlt]at e2;cases e2;refine⟨v,List.getElem?_set_self ?_,v1⟩;rw[sr.len];exact(List.getElem?_eq_some_iff.mp hj).1
 .rw[List.getElem?_set_ne (λz=>hi z.symm)]at e2;obtain⟨u,q1,q2⟩:=sr.sl j' i' d' e1 e2;refine⟨u,?_,q2⟩;rw[List.getElem?_set_ne]
  .exact q1
  .intro z;subst z;rw[hj]at e1;cases e1;exact hi rfl
where
 vS {l:List Nat} (hl:l.Nodup) {i j:Nat} {x:Nat} (a:l[i]?=some x) (b:l[j]?=some x):i=j:=by
  have ha:=(List.getElem?_eq_some_iff.mp a)
  have hb:=(List.getElem?_eq_some_iff.mp b)
  obtain⟨h1,e1⟩:=ha;obtain⟨h2,e2⟩:=hb;exact(List.getElem_inj hl).mp (e1.trans e2.symm)
theorem Good.loc{X:Cx}(g:Good G n sc N df X){x:Str}(h:sc.names.lookup x=some .local\/(df=true/\sc.names.lookup x=some .cell)):Loc X.env.scope x/\(X.fn x=true\/X.env.scope.names.lookup x=some .local):=by
 rw[show Loc X.env.scope x↔Loc sc x by rw[g.sc],g.sc];rcases h with h|⟨h1,h⟩
 .exact⟨.inl h,.inr h⟩
 .exact⟨.inr h,.inl (g.own h1 x)⟩
theorem EH(j i:Nat){x:Str}(hm:m.Nodup)(hN:N.Nodup)(hj:m[j]?=some i:=by rfl)(vU:N[j]?=some x:=by rfl)
  (hl:sc.names.lookup x=some .local\/(df=true/\sc.names.lookup x=some .cell):=by first|exact Or.inl rfl|exact Or.inr ⟨rfl,rfl⟩):JG G n sc N df m (.one i) (.Name x pos):=λX g=>by
 obtain⟨h1,h2⟩:=g.loc hl;refine PG.of (sd (i:=j) (by rw[g.nm];exact hN) (by rw[g.nm];exact vU) h1 h2) λv s H Q q=>?_;obtain⟨r,fr,h,d,ai,sr,hr,v1,e,q⟩:=q;cases e;exact q _ (sr.set hm hj v1)
inductive JX(K:PySem.W.Frag)(m:List Nat)(l:List Nat)(vs:List V)(s:L2.St)(H:Hp)(Q:L2.St->Hp->Prop):Prop
 |mk (r:List Addr) (fr:Fr) (h:Hh) (ds:List D) (ai:Fr) (c0:SR K m H r fr s) (c1:HR K H r h) (c2:aC K H r ds vs) (c3:Ev.bP l ds fr=some ai) (c4:∀s',SR K m H r ai s'->Q s' H):JX K m l vs s H Q
noncomputable def oS(G:Tb)(n:Nat)(sc:Scope)(N:List Str)(df:Bool)(m:List Nat)(l:List Nat)(xs:List Expr):Prop:=∀X,Good G n sc N df X->kU X xs (JX X.K m l)
theorem kU.of{X:Cx}{e:List Expr}{t t':oE}(h:kU X e t)(w:∀v s H Q,t' v s H Q->t v s H Q):kU X e t':=λpins s σ H v u Q I r q=>h pins s σ H v u Q I r (w _ _ _ _ q)
theorem B3:oS G n sc N df m [] []:=λX g=>kU.of Bx λvs s H Q q=>by
 obtain⟨r,fr,h,ds,ai,sr,hr,v1,e,q⟩:=q;cases ds with
 |nil=>simp only[aC]at v1;subst v1;cases e;exact⟨rfl,q _ sr⟩
 |cons _ _=>cases e
theorem yw(j i:Nat){x:Str}{l:List Nat}{xs:List Expr}(hm:m.Nodup)(hN:N.Nodup)(hs:oS G n sc N df m l xs)(hj:m[j]?=some i:=by rfl)(vU:N[j]?=some x:=by rfl)
  (hl:sc.names.lookup x=some .local\/(df=true/\sc.names.lookup x=some .cell):=by first|exact Or.inl rfl|exact Or.inr ⟨rfl,rfl⟩)
  (hst:∀env:Env,(assignEach (.Name x pos :: xs) env).map (·.2)=assign (.Name x pos) env :: (assignEach xs env).map (·.2):=by intro _;rfl):oS G n sc N df m (i :: l) (.Name x pos :: xs):=λX g=>by
 obtain⟨h1,h2⟩:=g.loc hl;refine kU.of (yd (sd (i:=j) (by rw[g.nm];exact hN) (by rw[g.nm];exact vU) h1 h2) (hs X g) (hst _)) λvs s H Q q=>?_;obtain⟨r,fr,h,ds,ai,sr,hr,v1,e,q⟩:=q;cases ds with
 |nil=>cases e
 |cons d ds=>
  simp only[aC]at v1;obtain⟨v,w,rfl,v2,v3⟩:=v1;exact⟨v,w,rfl,r,_,h,ds,ai,sr.set hm hj v2,hr,v3,e,q⟩
theorem B4{l:List Nat}{xs:List Expr}{k:Nat}(hs:oS G n sc N df m l xs)(hn:∀env:Env,(assignEach xs env).length=l.length:=by intro _;rfl)(hst:∀env:Env,(assignEach xs env).findIdx? (·.1)=none:=by intro _;rfl) :
  JG G n sc N df m (.many l) (.Tuple xs k pos):=λX g=>PG.of (DL (n:=l.length) g.calm (hs X g) (hn _) (hst _)) λv s H Q q=>by
 obtain⟨r,fr,h,d,ai,sr,hr,v1,e,q⟩:=q;cases d with
 |tup ds=>
  simp only[RV]at v1;obtain⟨p,vs,rfl,z,w⟩:=v1;have hlen:∀(l:List Nat) (ds:List D) fr ai,Ev.bP l ds fr=some ai->ds.length=l.length:=by
   intro l;induction l with
   |nil=>intro ds fr ai e;cases ds with|nil=>rfl|cons _ _=>cases e
   |cons i l ih=>intro ds fr ai e;cases ds with|nil=>cases e|cons d ds=>simp[ih ds _ _ e]
  exact⟨p,vs,rfl,z,by rw[w.length];exact hlen _ _ _ _ e,r,fr,h,ds,ai,sr,hr,w,e,q⟩
 |_=>cases e
end
end Sm
set_option maxRecDepth 100000
namespace Sm
open PySem PySem.Spec PyProof.Rows L2
open Ev (D O Hh Fr R ay E Es Eo T S Ss Fl Src aU aP TY BI ME)
noncomputable def Fin(K:PySem.W.Frag)(m:List Nat)(r:List Addr)(H:Hp)(h':Hh)(fl:Fl)(ai:Fr)(Q:Ends):Prop:=match fl with
 |.nx=>∀s' H' r',SR K m H' r' ai s'->HR K H' r' h'->Fm K r r' H H'->Q.nx s' H'
 |.bk=>∀s' H' r',SR K m H' r' ai s'->HR K H' r' h'->Fm K r r' H H'->Q.bk s' H'
 |.ct=>∀s' H' r',SR K m H' r' ai s'->HR K H' r' h'->Fm K r r' H H'->Q.ct s' H'
 |.ret d=>Res K r H h' d Q.rt
theorem Fin.later{K:PySem.W.Frag}{m:List Nat}{r r':List Addr}{H H':Hp}{h':Hh}{fl:Fl}{ai:Fr}{Q:Ends}(q:Fin K m r H h' fl ai Q)(f:Fm K r r' H H'):Fin K m r' H' h' fl ai Q:=by
 cases fl with
 |nx=>exact λs2 H2 r2 a b g=>q s2 H2 r2 a b (f.trans g)
 |bk=>exact λs2 H2 r2 a b g=>q s2 H2 r2 a b (f.trans g)
 |ct=>exact λs2 H2 r2 a b g=>q s2 H2 r2 a b (f.trans g)
 |ret d=>exact Res.later q f
inductive JY(K:PySem.W.Frag)(m:List Nat)(P:ay)(w:Nat)(st:S)(Q:Ends)(s:L2.St)(H:Hp):Prop
 |mk (r:List Addr) (fr:Fr) (h:Hh) (fl:Fl) (ai:Fr) (h':Hh) (c0:SR K m H r fr s) (c1:HR K H r h) (c2:Ev.ex P w st fr h=.ok (fl,ai) h') (c3:Fin K m r H h' fl ai Q):JY K m P w st Q s H
inductive ql(K:PySem.W.Frag)(m:List Nat)(P:ay)(w:Nat)(ss:Ss)(Q:Ends)(s:L2.St)(H:Hp):Prop
 |mk (r:List Addr) (fr:Fr) (h:Hh) (fl:Fl) (ai:Fr) (h':Hh) (c0:SR K m H r fr s) (c1:HR K H r h) (c2:Ev.exs P w ss fr h=.ok (fl,ai) h') (c3:Fin K m r H h' fl ai Q):ql K m P w ss Q s H
theorem PS.of{X:Cx}{st:Stmt}{t t':TS}(h:PS X st t)(w:∀Q s H,t' Q s H->t Q s H):PS X st t':=λpins s σ H Q I q=>h pins s σ H Q I (w _ _ _ q)
theorem dH.of{X:Cx}{st:List Stmt}{t t':TS}(h:dH X st t)(w:∀Q s H,t' Q s H->t Q s H):dH X st t':=λpins s σ H Q I q=>h pins s σ H Q I (w _ _ _ q)
section
variable(G:Tb)(n:Nat)(sc:Scope)(N:List Str)(df:Bool)(m:List Nat)
noncomputable def JS(st:S)(x:Stmt):Prop:=∀X,Good G n sc N df X->PS X x (JY X.K m (Ev.run G.F G.w n) G.w st)
noncomputable def j0(ss:Ss)(xs:List Stmt):Prop:=∀X,Good G n sc N df X->dH X xs (ql X.K m (Ev.run G.F G.w n) G.w ss)
end
section
variable{G:Tb}{n:Nat}{sc:Scope}{N:List Str}{df:Bool}{m:List Nat}{a b c:E}{xa xb xc tg:Expr}{pos:Pos}
theorem sI:j0 G n sc N df m .nil []:=λX g=>dH.of rZ λQ s H q=>by
 obtain⟨r,fr,h,fl,ai,h',sr,hr,e,q⟩:=q;simp only[Ev.exs]at e;cases e;exact q s H r sr hr .refl
theorem qm{st:S}{ss:Ss}{x:Stmt}{xs:List Stmt}(h1:JS G n sc N df m st x)(h2:j0 G n sc N df m ss xs):j0 G n sc N df m (.cons st ss) (x :: xs):=λX g=>dH.of (gq (h1 X g) (h2 X g)) λQ s H q=>by
 obtain⟨r,fr,h,fl,ai,h',sr,hr,e,q⟩:=q;simp only[Ev.exs]at e;obtain⟨⟨gn,af⟩,h1,e1,e⟩:=Ev.ah e;refine⟨r,fr,h,gn,af,h1,sr,hr,e1,?_⟩;cases gn with
 |nx=>exact λs1 H1 r1 EI hr1 f1=>⟨r1,af,h1,fl,ai,h',EI,hr1,e,q.later f1⟩
 |bk=>cases e;exact q
 |ct=>cases e;exact q
 |ret d=>cases e;exact q
theorem EJ(j i:Nat){x:Str}{pos':Pos}(hm:m.Nodup)(hN:N.Nodup)(ha:JE G n sc N df m a xa)(hs:∀env:Env,swapsWith xa (some (.Name x pos')) pos.line env=pure false:=by intro _;rfl)(hj:m[j]?=some i:=by rfl)(vU:N[j]?=some x:=by rfl)
  (hl:sc.names.lookup x=some .local\/(df=true/\sc.names.lookup x=some .cell):=by first|exact Or.inl rfl|exact Or.inr ⟨rfl,rfl⟩):JS G n sc N df m (.set i a) (.Assign [.Name x pos'] xa pos):=λX g=>by
 obtain⟨h1,h2⟩:=g.loc hl;refine PS.of (qb (i:=j) (by rw[g.nm];exact hN) (by rw[g.nm];exact vU) h1 (ha X g) (hs _) h2) λQ s H q=>?_;obtain⟨r,fr,h,fl,ai,h',sr,hr,e,q⟩:=q;simp only[Ev.ex]at e;obtain⟨d,h1,e1,e⟩:=Ev.ah e;cases e;exact⟨r,fr,h,d,_,sr,hr,e1,λv H1 r1 v1 hr1 f1=>q _ H1 r1 ((sr.mono f1).set hm hj v1) hr1 f1⟩
theorem EK(ha:JE G n sc N df m a xa)(hs:∀env:Env,swapsWith xa none pos.line env=pure false:=by intro _;rfl):JS G n sc N df m (.exp a) (.Expr xa pos):=λX g=>PS.of (Bw (ha X g) (hs _)) λQ s H q=>by
 obtain⟨r,fr,h,fl,ai,h',sr,hr,e,q⟩:=q;simp only[Ev.ex]at e;obtain⟨d,h1,e1,e⟩:=Ev.ah e;cases e;exact⟨r,fr,h,d,_,sr,hr,e1,λv H1 r1 v1 hr1 f1=>q s H1 r1 (sr.mono f1) hr1 f1⟩
theorem vV(ha:JE G n sc N df m a xa):JS G n sc N df m (.ret a) (.Return (some xa) pos):=λX g=>PS.of (vq (ha X g)) λQ s H q=>by
 obtain⟨r,fr,h,fl,ai,h',sr,hr,e,q⟩:=q;simp only[Ev.ex]at e;obtain⟨d,h1,e1,e⟩:=Ev.ah e;cases e;exact⟨r,fr,h,d,_,sr,hr,e1,q⟩
theorem EL{ta tb:Ss}{ya yb:List Stmt}(hc:JT G n sc N df m a xa)(h1:j0 G n sc N df m ta ya)(h2:j0 G n sc N df m tb yb):JS G n sc N df m (.iff a ta tb) (.If xa ya yb pos):=λX g=>PS.of (t7 (hc X g) (h1 X g) (h2 X g)) λQ s H q=>by
 obtain⟨r,fr,h,fl,ai,h',sr,hr,e,q⟩:=q;simp only[Ev.ex]at e;obtain⟨k,h3,e1,e⟩:=Ev.ah e;refine⟨r,fr,h,k,h3,sr,hr,e1,λH1 r1 hr1 f1=>?_⟩;cases k with
 |true=>exact⟨r1,fr,h3,fl,ai,h',sr.mono f1,hr1,e,q.later f1⟩
 |false=>exact⟨r1,fr,h3,fl,ai,h',sr.mono f1,hr1,e,q.later f1⟩
theorem Good.pass{X:Cx}(g:Good G n sc N df X):PassesOwn (model X.prog X.w) X.A X.env X.xe:=by
 rw[g.xe];exact PassesOwn.never
noncomputable def FN(K:PySem.W.Frag)(m:List Nat)(gn:Fl)(gY:Fr)(h4:Hh)(r1:List Addr)(H1:Hp)(s5:L2.St)(H5:Hp):Prop:=(gn=.nx\/gn=.ct)/\∃r5,SR K m H5 r5 gY s5/\HR K H5 r5 h4/\Fm K r1 r5 H1 H5
section
variable{K:PySem.W.Frag}{r r1 r2:List Addr}{H H1 H2:Hp}{h4 h':Hh}{fl gn:Fl}{gY ai:Fr}{Q:Ends}
noncomputable def yx(L:R (Fl×Fr))(p:Fl×Fr)(h1:Hh):R (Fl×Fr):=match p.1 with
 |.nx=>L
 |.ct=>L
 |.bk=>.ok (.nx,p.2) h1
 |.ret x=>.ok (.ret x,p.2) h1
theorem B5{L:R (Fl×Fr)}(e:yx L (gn,gY) h4=.ok (fl,ai) h')(z:gn=.nx\/gn=.ct):L=.ok (fl,ai) h':=by rcases z with rfl|rfl<;>exact e
theorem yy{L:R (Fl×Fr)}(e:yx L (gn,gY) h4=.ok (fl,ai) h')(q:Fin K m r H h' fl ai Q)(f:Fm K r r1 H H1)(f2:Fm K r1 r2 H1 H2):Fin K m r2 H2 h4 gn gY { Q with nx:=FN K m gn gY h4 r1 H1,ct:=FN K m gn gY h4 r1 H1,bk:=Q.nx }:=by
 cases gn with
 |nx=>exact λs6 H6 r6 vW vX f6=>⟨.inl rfl,r6,vW,vX,f2.trans f6⟩
 |ct=>exact λs6 H6 r6 vW vX f6=>⟨.inr rfl,r6,vW,vX,f2.trans f6⟩
 |bk=>
  cases e;exact λs6 H6 r6 vW vX f6=>q s6 H6 r6 vW vX ((f.trans f2).trans f6)
 |ret d=>
  cases e;exact Res.later q (f.trans f2)
noncomputable def qo(P:ay)(w:Nat)(t:T)(tb:Ss):D->Fr->Hh->R (Fl×Fr):=λd ak h2=>match Ev.aZ t d ak with
 |some bw=>Ev.exs P w tb bw h2
 |none=>.bad
theorem qp(P:ay)(w:Nat)(t:T)(it:Ev.It)(tb:Ss)(fr:Fr)(h:Hh):Ev.ex P w (.for t it tb) fr h=(Ev.b9 P it fr h).bind λs h1=>Ev.forL (qo P w t tb) s.2 s.1 fr h1:=by simp only[Ev.ex];rfl
theorem oU(f:D->Fr->Hh->R (Fl×Fr))(ck:List (Nat×List D))(d:D)(ds:List D)(fr:Fr)(h:Hh):Ev.forL f ck (d :: ds) fr h=if Ev.stays h ck then (f d fr h).bind λp h1=>yx (Ev.forL f ck ds p.2 h1) p h1 else .bad:=rfl
noncomputable def FW(K:PySem.W.Frag)(m:List Nat)(f:D->Fr->Hh->R (Fl×Fr))(src:Src)(r1:List Addr)(H1:Hp)(o:Fl×Fr)(h':Hh)(i k:Nat)(s3:L2.St)(H3:Hp):Prop:=
 k=src.1.length - i/\i<=src.1.length/\∃r3 bw h3,SR K m H3 r3 bw s3/\HR K H3 r3 h3/\Fm K r1 r3 H1 H3/\Ev.forL f src.2 (src.1.drop i) bw h3=.ok o h'
theorem yz{P:ay}{w:Nat}{t:T}{tb:Ss}{src:Src}{J:L2.It}{i k:Nat}{s3:L2.St}{H3:Hp}(hJ:nJ K r1 H1 src J)(q:Fin K m r H h' fl ai Q)(f1:Fm K r r1 H H1)(hW:FW K m (qo P w t tb) src r1 H1 (fl,ai) h' i k s3 H3) :
  (J.stop i H3/\Q.nx s3 H3)\/(J.go i H3/\∃N:L2.St->Hp->Prop,(∀σ' H',N σ' H'->∃m',m'<k/\FW K m (qo P w t tb) src r1 H1 (fl,ai) h' (i+1) m' σ' H')/\∀x H',J.Aq i H3 x H'->gJ K m t x s3 H' λσ2 H2=>ql K m P w tb { Q with nx:=N,ct:=N,bk:=Q.nx } σ2 H2):=by
 obtain⟨rfl,hle,r3,bw,h3,AB,mK,f3,e3⟩:=hW;rcases Nat.lt_or_ge i src.1.length with hlt|hge
 .rw[List.drop_eq_getElem_cons hlt,oU]at e3;split at e3
  .rename_i hst;obtain⟨g1,g2⟩:=(hJ i H3 r3 h3 mK f3 hst).1 src.1[i] (List.getElem?_eq_getElem hlt);obtain⟨⟨gn,gY⟩,h4,e4,e3⟩:=Ev.ah e3;unfold qo at e4;split at e4
   .rename_i oF e5;exact .inr ⟨g1,FN K m gn gY h4 r1 H1,λs5 H5 ⟨hfl,r5,vY,oW,f5⟩=>⟨_,Nat.sub_lt_sub_left hlt (Nat.lt_succ_self i),rfl,hlt,r5,gY,h4,vY,oW,f5,B5 e3 hfl⟩,λx H4 y=>
     let ⟨r4,v4,AD,f4⟩:=g2 x H4 y
     ⟨r4,bw,h3,_,oF,AB.mono f4,AD,v4,e5,λs5 vY=>⟨r4,oF,h3,gn,gY,h4,vY,AD,e4,yy e3 q f1 (f3.trans f4)⟩⟩⟩
   .cases e4
  .cases e3
 .have hi:i=src.1.length:=Nat.le_antisymm hle hge;subst hi;rw[List.drop_length]at e3;unfold Ev.forL at e3;split at e3
  .rename_i hst;cases e3;exact .inl ⟨(hJ _ H3 r3 _ mK f3 hst).2 (Nat.le_refl _),q s3 H3 r3 AB mK (f1.trans f3)⟩
  .cases e3
end
theorem EM{t:T}{it:Ev.It}{tb:Ss}{yb:List Stmt}(hi:JI G n sc N df m it tg xa)(hg:JG G n sc N df m t tg)(h1:j0 G n sc N df m tb yb)(hs:∀(env:Env) x,foldedSetIterable xa env x=pure x:=by intro _ _;rfl) :
  JS G n sc N df m (.for t it tb) (.For tg xa yb [] pos):=λX g=>PS.of (DM g.pass g.calm (hi X g) (hg X g) (h1 X g) (hs _)) λQ s H q=>by
 obtain⟨r,fr,h,fl,ai,h',sr,hr,e,q⟩:=q;rw[qp]at e;obtain⟨src,h2,e1,e⟩:=Ev.ah e;exact⟨r,fr,h,src,h2,sr,hr,e1,λJ H1 r1 hr1 f1 hJ=>⟨FW X.K m (qo (Ev.run G.F G.w n) G.w t tb) src r1 H1 (fl,ai) h',⟨src.1.length,rfl,Nat.zero_le _,r1,fr,h2,sr.mono f1,hr1,.refl,by rw[List.drop_zero];exact e⟩,λi k s3 H3 hW=>yz hJ q f1 hW⟩⟩
end
theorem getElem?_range'{k j i:Nat}(h:(List.range k)[j]?=some i):i=j:=by
 obtain⟨h1,h2⟩:=List.getElem?_eq_some_iff.mp h;simpa using h2.symm
theorem lN{K:PySem.W.Frag}{H:Hp}{r:List Addr}{ds:List D}{vs:List V}{N:List Str}{fn:Ev.Fn}(v1:aC K H r ds vs)(hN:vs.length<=N.length):SR K (List.range N.length) H r (Ev.cK fn ds) (L2.start N vs):=by
 refine⟨by unfold L2.start;simp;omega,λj i d e1 e2=>?_⟩;have e3:=getElem?_range' e1;subst e3;unfold Ev.cK at e2;by_cases hj:i<ds.length
 .rw[List.getElem?_append_left (by simpa using hj),List.getElem?_map]at e2;cases e4:ds[i]? with
  |none=>rw[e4]at e2;cases e2
  |some d'=>
   rw[e4]at e2;cases e2;obtain⟨v,q1,q2⟩:=v1.get e4;refine⟨v,?_,q2⟩;unfold L2.start;rw[List.getElem?_append_left (by have:=v1.length;simpa using (by omega:i<vs.length)),List.getElem?_map,q1];rfl
 .rw[List.getElem?_append_right (by simpa using Nat.not_lt.mp hj),List.getElem?_replicate]at e2;split at e2<;>cases e2
section
variable{P:Program}{w:World}{K:PySem.W.Frag}{mg:Str->Option Value}{base:Heap}{G:Tb}
noncomputable def kG(P:Program)(w:World)(K:PySem.W.Frag)(mg:Str->Option Value)(base:Heap)(G:Tb)(n:Nat):Prop:=∀(f:Nat) i,G.fi[f]?=some i->dz P w K mg base gU n i.addr i.fd i.ps (jH K G.F G.w n f)
structure Top(P:Program)(w:World)(K:PySem.W.Frag)(mg:Str->Option Value)(G:Tb):Prop where
 fn:∀(f:Nat) i,G.fi[f]?=some i->mg i.name=some (.ref i.addr)/\PySem.W.keepIn K (.ref i.addr)=true/\Binds K i.fd i.ps []
 bl:∀x∈G.bl,mg x=none
 cs:∀x d,(x,d)∈G.cs->∃v u,mg x=some u/\RelV v u/\sH K d v
 dk:∀x kvs,(x,kvs)∈G.dk->∃a,mg x=some (.ref a)/\∀h:Heap,K.In h->StrTab P w h a (tabOf kvs)
theorem B6{f:Addr}{fd:FuncData}{ps:List Str}{k:Nat}:dz P w K mg base gU 0 f fd ps (jH K G.F G.w 0 k):=by
 have no:∀vs H Q E,¬ jH K G.F G.w 0 k vs H Q E:=λvs H Q E h=>by
  obtain⟨r,h,ds,d,h',_,_,e,_⟩:=h;cases e
 exact⟨λvs H Q E h=>absurd h (no vs H Q E),λA outer s H args us vs Q E _ _ _ _ h=>absurd h (no vs H Q E)⟩
theorem fk{x qual:Str}{st:Stmt}{i:FI}{N:List Str}{n f:Nat}{fn:Ev.Fn}(T:Top P w K mg G)(A0:kG P w K mg base G n)(F:jF K x qual st i.addr i.fd)(S:bK N i.ps (au st))(hf:G.F[f]?=some fn)(hp:i.ps.length=fn.np)
  (hb:j0 G n (au st) N true (List.range N.length) fn.body (cJ st)):dz P w K mg base gU (n+1) i.addr i.fd i.ps (jH K G.F G.w (n+1) f):=by
 have hlen:∀vs H Q E,jH K G.F G.w (n+1) f vs H Q E->vs.length=i.ps.length:=λvs H Q E h=>by
  obtain⟨r,h,ds,d,h',v1,_,e,_⟩:=h;simp only[Ev.dW,hf]at e;split at e
  .rename_i z;rw[v1.length,z,hp]
  .cases e
 refine F.ok S hlen λcdv A outer s H vs Q E hr fR=>?_;have hl:=hlen vs H Q E fR;have hN:vs.length<=N.length:=by
  have:=congrArg List.length S.pre;rw[List.length_take]at this;omega
 have g:Good G n (au st) N true (gP gU P w K mg base N qual (au st) i.addr cdv A outer s H E).fO:=
  ⟨rfl,rfl,rfl,λ_ _=>rfl,hr,rfl,λf i hi=>⟨(T.fn f i hi).1,(T.fn f i hi).2.1,(T.fn f i hi).2.2,A0 f i hi⟩,T.bl,T.cs,T.dk⟩
 refine⟨_,hb _ g,?_⟩;obtain⟨r,h,ds,d,h',v1,hr1,e,q⟩:=fR;simp only[Ev.dW,hf]at e;split at e
 .unfold Ev.endOf at e;obtain⟨⟨fl,ai⟩,h2,e1,e⟩:=Ev.ah e;refine⟨r,Ev.cK fn ds,h,fl,ai,h2,lN v1 hN,hr1,e1,?_⟩;cases fl with
  |nx=>
   cases e;exact λs' H' r' _ hr' f'=>q _ H' r' rfl hr' f'
  |ret d'=>
   cases e;exact q
  |bk=>cases e
  |ct=>cases e
 .cases e
end
end Sm
set_option maxRecDepth 100000
namespace Sm
open PySem PySem.Spec PyProof.Rows L2 PySem.SeqAt
open Ev (D O Hh Fr R ay E Es Eo T S Ss Fl Src aU aP TY BI ME)
end Sm
set_option maxRecDepth 100000
namespace L2
open PySem PySem.Spec PyProof.Rows
end L2
namespace Sm
open PySem PySem.Spec PyProof.Rows L2 PySem.SeqAt
open Ev (D O Hh Fr R ay E Es Eo T S Ss Fl Src aU aP TY BI ME)
end Sm
set_option maxRecDepth 100000
namespace Sm
open PySem PySem.Spec PyProof.Rows L2
open Ev (D O Hh Fr R ay E Es Eo T S Ss Fl Src aU aP TY BI ME)
theorem nK(env:Env):∀(names:List (Str×NameKind)) (acc:List (Str×Addr)),(∀x,(x,NameKind.free)∈names->∃c,env.cells.lookup x=some c)->(∀x c,acc.lookup x=some c->env.cells.lookup x=some c)->
  ∃cl,(forIn names acc (λ(x:Str×NameKind) cs=>if (x.2==NameKind.free)=true then (do let c <-cellOf env x.1;pure (ForInStep.yield ((x.1,c) :: cs)))else pure (ForInStep.yield cs)):Sem (List (Str×Addr)))=pure cl/\
   (∀x c,cl.lookup x=some c->env.cells.lookup x=some c)/\(∀x,(x,NameKind.free)∈names->(cl.lookup x).isSome=true)/\(∀x,(acc.lookup x).isSome=true->(cl.lookup x).isSome=true)
 |[],acc,_,h2=>⟨acc,rfl,h2,(λx h=>by simp at h),λ_ h=>h⟩
 | (y,k) :: r,acc,h1,h2=>by
  by_cases hk:k=.free
  .subst hk;obtain⟨c,hc⟩:=h1 y (List.mem_cons_self ..);have h2':∀x c',((y,c) :: acc).lookup x=some c'->env.cells.lookup x=some c':=λx c' e=>by
    rw[List.lookup_cons]at e;split at e
    .rename_i hx;have hx':x=y:=by simpa using hx
     cases e;rw[hx'];exact hc
    .exact h2 x c' e
   obtain⟨cl,e1,e2,e3,e4⟩:=nK env r ((y,c) :: acc) (λx hx=>h1 x (List.mem_cons_of_mem _ hx)) h2';refine⟨cl,?_,e2,λx hx=>?_,λx hx=>e4 x ?_⟩
   .rw[List.forIn_cons];simp only[beq_self_eq_true,if_true];unfold cellOf;rw[hc];exact e1
   .rcases List.mem_cons.mp hx with z|z
    .cases z;exact e4 y (by simp[List.lookup_cons])
    .exact e3 x z
   .rw[List.lookup_cons];split
    .rfl
    .exact hx
  .have hk':(k==NameKind.free)=false:=by simpa using hk
   obtain⟨cl,e1,e2,e3,e4⟩:=nK env r acc (λx hx=>h1 x (List.mem_cons_of_mem _ hx)) h2;refine⟨cl,?_,e2,λx hx=>?_,e4⟩
   .rw[List.forIn_cons];simp only[hk',Bool.false_eq_true,if_false];exact e1
   .rcases List.mem_cons.mp hx with z|z
    .cases z;exact absurd rfl hk
    .exact e3 x z
theorem B7{scope:Scope}{env:Env}(h:∀x,(x,NameKind.free)∈scope.names->∃c,env.cells.lookup x=some c) :
  ∃cl,closureFor scope env=pure cl/\(∀x c,cl.lookup x=some c->env.cells.lookup x=some c)/\∀x,(x,NameKind.free)∈scope.names->∃c,cl.lookup x=some c:=by
 obtain⟨cl,e1,e2,e3,_⟩:=nK env scope.names [] h (λx c e=>by simp at e);refine⟨cl,?_,e2,λx hx=>Option.isSome_iff_exists.mp (e3 x hx)⟩;unfold closureFor;show(forIn scope.names [] _ >>= λcs=>pure cs:Sem (List (Str×Addr)))=pure cl;have e:(forIn scope.names [] (λ(x:Str×NameKind) cs=>if (x.2==NameKind.free)=true then (do let c <-cellOf env x.1;pure (ForInStep.yield ((x.1,c) :: cs)))else pure (ForInStep.yield cs)):Sem (List (Str×Addr)))=pure cl:=e1;exact congrArg (λt:Sem (List (Str×Addr))=>t >>= λcs=>pure cs) e
noncomputable def fV(sc scope:Scope):Scope:={ scope with names:=scope.names.map λ(n,k)=>if (k==.free&&sc.kind==.function&&sc.names.lookup n==some .cell)then (n,.cell)else (n,k)}
theorem nL{env:Env}{sc scope:Scope}(h:env.scope=sc):relabel scope env=fV sc scope:=by
 subst h;rfl
theorem oX{sc:Scope}:∀{names:List (Str×NameKind)}{x:Str},(∀y∈names,y.2≠.cell)->
  ((names.map λ(n,k)=>if (k==NameKind.free&&sc.kind==.function&&sc.names.lookup n==some .cell)then (n,NameKind.cell)else (n,k)).lookup x=some .cell\/
   (names.map λ(n,k)=>if (k==NameKind.free&&sc.kind==.function&&sc.names.lookup n==some .cell)then (n,NameKind.cell)else (n,k)).lookup x=some .free)->(x,NameKind.free)∈names
 |[],_,_,h=>by rcases h with h|h<;>simp at h
 | (n,k) :: r,x,hc,h=>by
  have ih:=@oX sc r x λy hy=>hc y (List.mem_cons_of_mem _ hy);simp only[List.map_cons]at h;have nk:∀(k':NameKind),(if (k==NameKind.free&&sc.kind==.function&&sc.names.lookup n==some .cell)then (n,NameKind.cell)else (n,k))=(n,k')->k'=.cell\/k'=.free->k=.free:=λk' e hk'=>by
   split at e
   .rename_i z;simp only[Bool.and_eq_true,beq_iff_eq]at z;exact z.1.1
   .cases e;rcases hk' with z|z
    .exact absurd z (hc (n,_) (List.mem_cons_self ..))
    .exact z
  generalize hg:(if (k==NameKind.free&&sc.kind==.function&&sc.names.lookup n==some .cell)then (n,NameKind.cell)else (n,k))=p at h nk
  have hp:p.1=n:=by rw[<-hg];split<;>rfl
  obtain⟨p1,p2⟩:=p;simp only at hp;subst hp;simp only[List.lookup_cons]at h;cases hx:(x==p1)with
  |true=>
   have hx':x=p1:=by simpa using hx
   rw[hx]at h;have:=nk p2 rfl (by rcases h with h|h<;>simp at h<;>simp[h]);subst this;rw[hx'];exact List.mem_cons_self ..
  |false=>
   rw[hx]at h;exact List.mem_cons_of_mem _ (ih h)
section
variable{prog:Program}{w:World}{A:Around}{R':Result->Shared->Prop}{s:Shared}
abbrev cX:Value->Shared->Prop:=λ_ _=>False
noncomputable def sJ(ifs:List Expr)(env:Env):Sem Bool:=forIn ifs true λc r=>if r=true then do let ok <-isTrue c env (eval c env);pure (ForInStep.yield ok)else pure (ForInStep.yield r)
theorem qq{elt target iter:Expr}{ifs:List Expr}{scope:Scope}{pos:Pos}{it acc:Value}{env:Env}(I:Nat->Shared->Prop)
  (turn:∀n s,I n s->wpAny (model prog w) A (pyNext it) (λr s₁=>match r with
   |none=>R' (.ok .next) s₁
   |some v=>wpAny (model prog w) A (letOwnedTupleGo target it v) (λ_ s₂=>wpAny (model prog w) A (assign target env v) (λ_ s₃=>
     wpAny (model prog w) A (sJ ifs env) (λok s₄=>
      if ok=true then wpAny (model prog w) A (eval elt env) (λx s₅=>
       wpAny (model prog w) A (call (.builtin "list.append") [acc,x]) (λ_ s₆=>∃m,m<n/\I m s₆) cX s₅) cX s₄
      else ∃m,m<n/\I m s₄) cX s₃) cX s₂) cX s₁) cX s)
  (n:Nat) (h:I n s):codeAny (model prog w) A (.compLoop (.ListComp elt [⟨target,iter,ifs,0⟩] scope pos) 0 it acc env) R' s:=by
 refine codeAny_loop rfl I (λn s hI=>?_) n h;show wpAny _ A ((compTurn (.ListComp elt [⟨target,iter,ifs,0⟩] scope pos) 0 it acc env).onRaise (λx=>do noteFrame x env;theTreesLotGoes x)) _ _ s;refine wpAny_noted ?_;rw[compTurn_list];refine wpAny_bind (wpAny_standAt (wpAny_bind (wpAny_mono (turn n s hI) (λr s₁ h₁=>?_) λ_ _ h'=>h'.elim)));cases r with
 |none=>exact wpAny_pure h₁
 |some v=>
  refine wpAny_bind (wpAny_mono h₁ (λ_ s₂ h₂=>?_) λ_ _ h'=>h'.elim);refine wpAny_bind (wpAny_mono h₂ (λ_ s₃ h₃=>wpAny_bind (wpAny_mono h₃ (λok s₄ h₄=>?_) λ_ _ h'=>h'.elim)) λ_ _ h'=>h'.elim);cases ok with
  |false=>exact wpAny_pure ⟨rfl,h₄⟩
  |true=>
   exact wpAny_bind (wpAny_bind (wpAny_mono h₄ (λx s₅ h₅=>wpAny_bind (wpAny_mono h₅ (λ_ s₆ h₆=>wpAny_pure (wpAny_pure ⟨rfl,h₆⟩)) λ_ _ h'=>h'.elim)) λ_ _ h'=>h'.elim))
end
inductive JZ(K:PySem.W.Frag)(m:List Nat)(P:ay)(e:Eo)(s:L2.St)(H:Hp)(Q:Bool->Hp->Prop):Prop
 |mk (r:List Addr) (fr:Fr) (h:Hh) (k:Bool) (h':Hh) (c0:SR K m H r fr s) (c1:HR K H r h) (c2:Ev.gX P e fr h=.ok k h') (c3:∀H' r',HR K H' r' h'->Fm K r r' H H'->Q k H'):JZ K m P e s H Q
noncomputable def JC(G:Tb)(n:Nat)(sc:Scope)(N:List Str)(df:Bool)(m:List Nat)(e:Eo)(ifs:List Expr):Prop:=∀X,Good G n sc N df X->∀(pins:List (Addr×Obj)) (s:Shared) (σ:L2.St) (H:Hp) (Q:Bool->Hp->Prop),Inv X pins σ H s->
 JZ X.K m (Ev.run G.F G.w n) e σ H Q->wpAny (model X.prog X.w) X.A (sJ ifs X.env) (TP X pins σ Q) X.xe s
section
variable{G:Tb}{n:Nat}{sc:Scope}{N:List Str}{df:Bool}{m:List Nat}{a b c:E}{xa xb xc tg:Expr}{pos:Pos}
theorem Iq:JC G n sc N df m .no []:=λX g pins s σ H Q I q=>by
 obtain⟨r,fr,h,k,h',sr,hr,e,q⟩:=q;simp only[Ev.gX]at e;cases e;exact wpAny_pure ⟨H,I,q H r hr .refl⟩
end
noncomputable def mL(X:Cx)(N':List Str)(scope:Scope)(cl:List (Str×Addr))(C:Addr)(s3:Shared)(H3:Hp)(fp:List Addr):Cx:=
 { X with N:=N',s₀:=s3,H₀:=H3,env:=compEnvC scope cl C X.env,outer:=X.stack,stack:=X.stack,ex:=fp,fn:=λ_=>false,pn:=[],xe:=λ_ _=>False }
noncomputable def namesOk(sc:Scope)(N:List Str)(m:List Nat)(scope:Scope)(t:T)(N':List Str)(m':List Nat):Prop:=m'.length=N'.length/\
 ∀(j:Nat) x i,N'[j]?=some x->m'[j]?=some i->i∈Ev.slots t\/((x,NameKind.free)∈scope.names/\∃jo:Nat,N[jo]?=some x/\m[jo]?=some i)
noncomputable def qs(sc:Scope)(N:List Str)(m:List Nat)(scope:Scope)(t:T)(N':List Str)(m':List Nat):Bool:=m'.length==N'.length&&
 (List.range N'.length).all λj=>match N'[j]?,m'[j]? with
  |some x,some i=>(Ev.slots t).contains i || (scope.names.contains (x,NameKind.free)&&(List.range N.length).any λjo=>N[jo]?==some x&&m[jo]?==some i)
  |_,_=>true
theorem namesOk.of{sc:Scope}{N:List Str}{m:List Nat}{scope:Scope}{t:T}{N':List Str}{m':List Nat}(h:qs sc N m scope t N' m'=true):namesOk sc N m scope t N' m':=by
 unfold qs at h;rw[Bool.and_eq_true]at h;refine⟨by simpa using h.1,λj x i e1 e2=>?_⟩;have hj:j<N'.length:=(List.getElem?_eq_some_iff.mp e1).1;have q:=List.all_eq_true.mp h.2 j (List.mem_range.mpr hj);rw[e1,e2]at q;simp only[Bool.or_eq_true,Bool.and_eq_true,List.any_eq_true]at q;rcases q with q|⟨q1,jo,_,q2⟩
 .exact .inl (by simpa using q)
 .exact .inr ⟨by simpa using q1,jo,by simpa using q2.1,by simpa using q2.2⟩
theorem rO{t:T}{d:D}{fr ak:Fr}(e:Ev.aZ t d fr=some ak){i:Nat}(hi:i∉Ev.slots t):ak[i]?=fr[i]?:=by
 have go:∀(l:List Nat) (ds:List D) (fr ak:Fr),Ev.bP l ds fr=some ak->i∉l->ak[i]?=fr[i]?:=by
  intro l;induction l with
  |nil=>
   intro ds fr ak e _;cases ds with
   |nil=>cases e;rfl
   |cons _ _=>cases e
  |cons j l ih=>
   intro ds fr ak e hj;cases ds with
   |nil=>cases e
   |cons d ds=>
    rw[ih ds _ _ e λz=>hj (List.mem_cons_of_mem _ z),List.getElem?_set_ne];intro z;exact hj (by rw[z];exact List.mem_cons_self ..)
 cases t with
 |one j=>
  cases e;rw[List.getElem?_set_ne];intro z;exact hi (by simp[Ev.slots,z])
 |many l=>
  cases d with
  |tup ds=>exact go l ds fr ak e hi
  |_=>cases e
theorem SR.unbind{K:PySem.W.Frag}{m:List Nat}{H:Hp}{r:List Addr}{t:T}{d:D}{fr ak:Fr}{s:L2.St}(sr:SR K m H r ak s)(e:Ev.aZ t d fr=some ak)(hu:Ev.undef t fr=true):SR K m H r fr s:=by
 refine⟨sr.len,λj i d' e1 e2=>sr.sl j i d' e1 ?_⟩;rw[rO e]
 .exact e2
 .intro hi;have q:=List.all_eq_true.mp hu i hi;rw[e2]at q;cases q
end Sm
set_option maxRecDepth 100000
namespace Sm
open PySem PySem.Spec PyProof.Rows L2
open Ev (D O Hh Fr R ay E Es Eo T S Ss Fl Src aU aP TY BI ME)
structure j3(sc scope:Scope):Prop where
 kind:scope.kind=.function
 vZ:∀y∈scope.names,y.2≠.cell
 free:∀x,(x,NameKind.free)∈scope.names->(sc.names.lookup x=some .cell\/sc.names.lookup x=some .free)/\scope.names.lookup x=some .free
 loc:∀y∈scope.names,y.2=.local->scope.names.lookup y.1=some .local
noncomputable def EN(sc scope:Scope):Bool:=scope.kind==.function&&scope.names.all λy=>y.2 != .cell&&(y.2 != .free || ((sc.names.lookup y.1==some .cell ||sc.names.lookup y.1==some .free)&&scope.names.lookup y.1==some .free))&&(y.2 != .local ||scope.names.lookup y.1==some .local)
theorem j3.of{sc scope:Scope}(h:EN sc scope=true):j3 sc scope:=by
 unfold EN at h;rw[Bool.and_eq_true]at h;have q:∀y∈scope.names,y.2≠.cell/\(y.2=.free->(sc.names.lookup y.1=some .cell\/sc.names.lookup y.1=some .free)/\scope.names.lookup y.1=some .free)/\(y.2=.local->scope.names.lookup y.1=some .local):=λy hy=>by
  have z:=List.all_eq_true.mp h.2 y hy;simp only[Bool.and_eq_true,Bool.or_eq_true,bne_iff_ne,beq_iff_eq,ne_eq]at z;refine⟨z.1.1,λe=>?_,λe=>?_⟩
  .rcases z.1.2 with w|w
   .exact absurd e w
   .exact w
  .rcases z.2 with w|w
   .exact absurd e w
   .exact w
 exact⟨by simpa using h.1,λy hy=>(q y hy).1,λx hx=>(q _ hx).2.1 rfl,λy hy=>(q y hy).2.2⟩
theorem oY{sc:Scope}:∀{names:List (Str×NameKind)}{x:Str},names.lookup x=some .free->
  ((names.map λ(n,k)=>if (k==NameKind.free&&sc.kind==.function&&sc.names.lookup n==some .cell)then (n,NameKind.cell)else (n,k)).lookup x=some .cell\/
   (names.map λ(n,k)=>if (k==NameKind.free&&sc.kind==.function&&sc.names.lookup n==some .cell)then (n,NameKind.cell)else (n,k)).lookup x=some .free)
 |[],_,h=>by simp at h
 | (n,k) :: r,x,h=>by
  have ih:=@oY sc r x;simp only[List.map_cons];simp only[List.lookup_cons]at h;by_cases hc:(k==NameKind.free&&sc.kind==.function&&sc.names.lookup n==some .cell)=true
  .rw[if_pos hc];simp only[List.lookup_cons];cases hx:(x==n)with
   |true=>exact .inl rfl
   |false=>rw[hx]at h;exact ih h
  .rw[if_neg hc];simp only[List.lookup_cons];cases hx:(x==n)with
   |true=>rw[hx]at h;exact .inr h
   |false=>rw[hx]at h;exact ih h
section
variable{G:Tb}{n:Nat}{sc scope:Scope}{N N':List Str}{df:Bool}{m m':List Nat}{elt:E}{t:T}{it:Ev.It}{cond:Eo}{xe xi tg:Expr}{ifs:List Expr}{pos:Pos}{X:Cx}
theorem Good.comp(g:Good G n sc N df X){cl:List (Str×Addr)}{C:Addr}{s3:Shared}{H3:Hp}{fp:List Addr}:Good G n (fV sc scope) N' false (mL X N' scope cl C s3 H3 fp):=
 ⟨rfl,nL g.sc,g.calm,(λh=>by cases h),g.room,rfl,g.fn,g.bl,g.cs,g.dk⟩
theorem B8{pins:List (Addr×Obj)}{σ:L2.St}{H3:Hp}{s3:Shared}(g:Good G n sc N df X)(I:Inv X pins σ H3 s3)(hs:j3 sc scope){cl:List (Str×Addr)}(gR:∀x c,cl.lookup x=some c->X.env.cells.lookup x=some c)
  (j4:∀x,(x,NameKind.free)∈scope.names->∃c,cl.lookup x=some c) {fp:List Addr} (hfp:∀b∈fp,fP X pins H3 b) (hfl:∀b∈fp,b<s3.heap.objs.size):(mL X N' scope cl s3.heap.objs.size s3 H3 fp).Ok where
 mod:=I.ok.mod
 kind:=hs.kind
 glob:=I.ok.glob
 blt:=I.ok.blt
 above:=Nat.le_refl _
 inj:=λx y c h1 h2=>I.ok.inj x y c (gR x c h1) (gR y c h2)
 has:=λx h=>by
  have h':(fV sc scope).names.lookup x=some .cell\/(fV sc scope).names.lookup x=some .free:=by
   rw[<-nL (scope:=scope) g.sc];exact h
  exact j4 x (oX hs.vZ h')
 qa:=λx c h=>by cases h
 hd:=I.ok.hd
 frames:=I.ok.frames
 stk:=.inl rfl
 vg:=λb hb=>⟨Nat.ne_of_lt (hfl b hb),λx c e=>(hfp b hb).2.2.2.2.1 x c (gR x c e)⟩
 bs:=I.bs
 jL:=Nat.le_trans I.ok.jL I.sz
 lE:=λb o e hb=>by
  rcases(hfp b hb).2.2.2.1 with z|z
  .exact I.ok.lE b o e z
  .have:=Heap.lt_size (I.ok.bs b o e).1;exact absurd (Nat.lt_of_lt_of_le this z) (Nat.lt_irrefl _)
 lF:=λb hb z=>by
  rcases List.mem_cons.mp (I.mj b z)with q|q
  .exact(hfp b hb).2.1 q
  .exact(hfp b hb).2.2.1 q
 fy:=I.stack
 kT:=I.nC
open Classical in
noncomputable def sig(scope:Scope)(N N':List Str)(m':List Nat)(K:PySem.W.Frag)(H:Hp)(r:List Addr)(fr:Fr)(σ:L2.St):L2.St:=
 (List.range N'.length).map λj=>if h:∃v,∃x i,N'[j]?=some x/\m'[j]?=some i/\(x,NameKind.free)∈scope.names/\(∃jo:Nat,N[jo]?=some x/\σ[jo]?=some (some v))/\∀d,fr[i]?=some (some d)->RV K H r d v then some h.choose else none
theorem EO{K:PySem.W.Frag}{H:Hp}{r:List Addr}{fr:Fr}{σ:L2.St}{j:Nat}{v:V}(h:(sig scope N N' m' K H r fr σ)[j]?=some (some v)) :
  ∃x i,N'[j]?=some x/\m'[j]?=some i/\(x,NameKind.free)∈scope.names/\(∃jo:Nat,N[jo]?=some x/\σ[jo]?=some (some v))/\∀d,fr[i]?=some (some d)->RV K H r d v:=by
 unfold sig at h;rw[List.getElem?_map]at h;cases e:(List.range N'.length)[j]? with
 |none=>rw[e]at h;cases h
 |some j'=>
  have:=getElem?_range' e;subst this;rw[e]at h;simp only[Option.map_some,Option.some.injEq]at h;split at h
  .rename_i hh;cases h;exact hh.choose_spec
  .cases h
theorem ER{K:PySem.W.Frag}{H:Hp}{r:List Addr}{fr:Fr}{σ:L2.St}(sr:SR K m H r fr σ)(hn:namesOk sc N m scope t N' m')(hu:Ev.undef t fr=true):SR K m' H r fr (sig scope N N' m' K H r fr σ):=by
 refine⟨by unfold sig;simp[hn.1],λj i d e1 e2=>?_⟩;have hj:j<N'.length:=by rw[<-hn.1];exact(List.getElem?_eq_some_iff.mp e1).1
 have hx:N'[j]?=some N'[j]:=List.getElem?_eq_getElem hj;rcases hn.2 j _ i hx e1 with hi|⟨h1,jo,h2,h3⟩
 .exfalso;have q:=List.all_eq_true.mp hu i hi;rw[e2]at q;cases q
 .obtain⟨v,h4,h5⟩:=sr.sl jo i d h3 e2;have ex:∃v,∃x i,N'[j]?=some x/\m'[j]?=some i/\(x,NameKind.free)∈scope.names/\(∃jo:Nat,N[jo]?=some x/\σ[jo]?=some (some v))/\∀d,fr[i]?=some (some d)->RV K H r d v:=
   ⟨v,N'[j],i,hx,e1,h1,⟨jo,h2,h4⟩,λd' e'=>by rw[e2]at e';cases e';exact h5⟩
  refine⟨ex.choose,?_,?_⟩
  .unfold sig;rw[List.getElem?_map,List.getElem?_range hj];simp only[Option.map_some];rw[dif_pos ex]
  .obtain⟨x',i',q1,q2,q3,q4,q5⟩:=ex.choose_spec;rw[e1]at q2;cases q2;exact q5 d e2
theorem yC{pins:List (Addr×Obj)}{σ:L2.St}{H3:Hp}{s3:Shared}(g:Good G n sc N df X)(I:Inv X pins σ H3 s3)(hs:j3 sc scope){cl:List (Str×Addr)}(gR:∀x c,cl.lookup x=some c->X.env.cells.lookup x=some c)
  (j4:∀x,(x,NameKind.free)∈scope.names->∃c,cl.lookup x=some c) {fp:List Addr} (hfp:∀b∈fp,fP X pins H3 b) (hfl:∀b∈fp,b<s3.heap.objs.size) {h1:Heap} {tk:Nat} {mm:Str->Option Value}
  (hns:h1.Ns s3.heap.objs.size mm) (hk:∀b o,s3.heap.get? b=some o->h1.get? b=some o) {r:List Addr} {fr:Fr} :
  Inv (mL X N' scope cl s3.heap.objs.size s3 H3 fp) [] (sig scope N N' m' X.K H3 r fr σ) H3 { s3 with heap:=h1,toks:=tk }:=by
 refine⟨B8 g I hs gR j4 hfp hfl,rfl,I.bare,Un.kept hk,⟨mm,hns,λj x v e1 e2 e3=>?_⟩,λx c e=>?_,I.hok.fresh (Nat.le_refl _),λx c e=>I.fh x c (gR x c e),(λp hp=>by simp[mL]at hp),I.hok.kept hk,(by unfold sig;simp[mL])⟩
 .obtain⟨x',i,q1,q2,q3,⟨jo,q4,q5⟩,_⟩:=EO e2;have MC:N'[j]?=some x:=e1;rw[MC]at q1;cases q1;obtain⟨f1,f2⟩:=hs.free x q3;obtain⟨mO,Oi,MD⟩:=I.loc;obtain⟨u,ru,lk⟩:=MD jo x v (by rw[g.nm];exact q4) q5 (by rw[g.sc];rcases f1 with z|z<;>simp[oA,z]);refine⟨u,ru,?_⟩;have hkd:X.env.kindOf x=some .cell\/X.env.kindOf x=some .free:=by unfold Env.kindOf;rw[g.sc];exact f1
  rcases lk with ⟨z,_⟩|⟨_,c,hc,hcell⟩
  .rcases hkd with w|w <;> (rw[z]at w;cases w)
  .obtain⟨c',hc'⟩:=j4 x q3;have:c'=c:=by
    have:=gR x c' hc';rw[hc]at this;cases this;rfl
   subst this;refine .inr ⟨?_,c',hc',?_⟩
   .show(relabel scope X.env).names.lookup x=some .cell\/(relabel scope X.env).names.lookup x=some .free;rw[nL (scope:=scope) g.sc];exact oY f2
   .obtain⟨o,ho,hd⟩:=hcell;exact⟨o,hk _ _ ho,hd⟩
 .obtain⟨v,o,ho,hd⟩:=I.cell x c (gR x c e);exact⟨v,o,hk _ _ ho,hd⟩
end
end Sm
set_option maxRecDepth 100000
namespace Sm
open PySem PySem.Spec PyProof.Rows L2
open Ev (D O Hh Fr R ay E Es Eo T S Ss Fl Src aU aP TY BI ME)
section
variable{G:Tb}{n:Nat}{sc scope:Scope}{N N':List Str}{df:Bool}{m m':List Nat}{elt:E}{t:T}{it:Ev.It}{cond:Eo}{xe xi tg:Expr}{ifs:List Expr}{pos:Pos}{X:Cx}
noncomputable def uu(P:ay)(elt:E)(t:T)(cond:Eo)(fr:Fr):D->Hh->R (Option D):=λd h2=>match Ev.aZ t d fr with
 |none=>.bad
 |some ak=>(Ev.gX P cond ak h2).bind λk h3=>if k then (Ev.ev P elt ak h3).bind λx h4=>.ok (some x) h4 else .ok none h3
theorem nM(P:ay)(elt:E)(t:T)(it:Ev.It)(cond:Eo)(fr:Fr)(h:Hh):Ev.ev P (.comp elt t it cond) fr h=(Ev.b9 P it fr h).bind λs h1=>if Ev.undef t fr then
  (Ev.bZ (uu P elt t cond fr) s.2 s.1 h1).bind λds h2=>Ev.alloc ds h2 else .bad:=by
 simp only[Ev.ev];rfl
noncomputable def CI(Y:Cx)(m':List Nat)(f:D->Hh->R (Option D))(fr:Fr)(src:Src)(fp:List Addr)(tn:Nat->Heap->Prop)(r2:List Addr)(H2:Hp)(Dd:Addr)(ds:List D)(h2:Hh)(k:Nat)(s:Shared):Prop:=
 ∃i kY Hc rc hc dn vs rest,Inv Y [] kY Hc s/\tn i s.heap/\(∀b∈fp,Hc b=none)/\k=src.1.length - i/\i<=src.1.length/\
  SR Y.K m' Hc rc fr kY/\HR Y.K Hc rc hc/\Fm Y.K r2 rc H2 Hc/\Hc Dd=some (.lst vs)/\Dd∉rc/\aC Y.K Hc rc dn vs/\Ev.bZ f src.2 (src.1.drop i) hc=.ok rest h2/\dn++rest=ds
section
variable{Y:Cx}{sc':Scope}{J:L2.It}{fp:List Addr}{ita:Addr}{tn:Nat->Heap->Prop}{fr:Fr}{src:Src}{r2:List Addr}{H2:Hp}{Dd:Addr}{ds:List D}{h2:Hh}
theorem uv(gC:Good G n sc' N' false Y){α:Type}{tt:Sem α}{Q:α->Shared->Prop}{s:Shared}(hw:wpAny (model Y.prog Y.w) Y.A tt Q Y.xe s):wpAny (model Y.prog Y.w) Y.A tt Q cX s:=by rw[gC.xe]at hw;exact hw
theorem sL{i:Nat}{jI:L2.St}{H9:Hp}{r9:List Addr}{h9:Hh}{dn:List D}{vs:List V}{rest':List D}{s9:Shared}{p:List (Addr×Obj)}{f:D->Hh->R (Option D)}(hlt:i<src.1.length)(I9:Inv Y ([]++p) jI H9 s9)(bk:tn (i+1) s9.heap/\∀b∈fp,H9 b=none)(q:SR Y.K m' H9 r9 fr jI)(oZ:HR Y.K H9 r9 h9)(fm:Fm Y.K r2 r9 H2 H9)(uw:H9 Dd=some (.lst vs))(ux:Dd∉r9)(rv:aC Y.K H9 r9 dn vs)(e7:Ev.bZ f src.2 (src.1.drop (i+1)) h9=.ok rest' h2)(ed:dn++rest'=ds) :
  ∃k,k<src.1.length - i/\CI Y m' f fr src fp tn r2 H2 Dd ds h2 k s9:=
 ⟨src.1.length - (i+1),Nat.sub_lt_sub_left hlt (Nat.lt_succ_self i),i+1,jI,H9,r9,h9,dn,vs,rest',I9.jn,bk.1,bk.2,rfl,hlt,q,oZ,fm,uw,ux,rv,e7,ed⟩
theorem ES{i:Nat}{jI:L2.St}{H9:Hp}{r9:List Addr}{h9:Hh}{dn:List D}{vs:List V}{xd:D}{v10:V}{AE:Value}{rest':List D}{s9:Shared}{p:List (Addr×Obj)}{f:D->Hh->R (Option D)}(hlt:i<src.1.length)(j5:H2 Dd=none)(hsz:ds.length<=sizeLine)(gC:Good G n sc' N' false Y)(I9:Inv Y ([]++p) jI H9 s9)(yD:RelV v10 AE)(bk:∀{σ':L2.St}{H':Hp}{s':Shared},Inv Y ([]++p) σ' H' s'->tn (i+1) s'.heap/\∀b∈fp,H' b=none)(q:SR Y.K m' H9 r9 fr jI)(oZ:HR Y.K H9 r9 h9)(fm:Fm Y.K r2 r9 H2 H9)(kZ:H9 Dd=some (.lst vs))(qt:Dd∉r9)(rv:aC Y.K H9 r9 dn vs)(yE:RV Y.K H9 r9 xd v10)(e7:Ev.bZ f src.2 (src.1.drop (i+1)) h9=.ok rest' h2)(ed:dn++xd :: rest'=ds) :
  wpAny (model Y.prog Y.w) Y.A (call (.builtin "list.append") [.ref Dd,AE]) (λ_ AF=>∃k,k<src.1.length - i/\CI Y m' f fr src fp tn r2 H2 Dd ds h2 k AF) cX s9:=by
 have hlen:vs.length<sizeLine:=by
  have h1:=rv.length;have h2:=congrArg List.length ed;simp at h2;omega
 refine bB (uv gC (oN _ s9 jI H9 (.ref Dd) [v10] (.ref Dd) [AE] (λ_ J0=>J0=upd H9 Dd (.lst (vs++[v10]))) I9 rfl (.cons yD .nil) ⟨Dd,vs,v10,rfl,rfl,kZ,hlen,rfl⟩)) λ_ AF ⟨_,J0,J1,_,Lb⟩=>?_;subst Lb;refine sL (dn:=dn++[xd]) (vs:=vs++[v10]) hlt J1 (bk J1) ?_ (oZ.other kZ qt) (fm.other j5 kZ) cj qt ?_ e7 ?_
 .exact⟨q.len,λj i' d' a1 a2=>by
   obtain⟨w,b1,b2⟩:=q.sl j i' d' a1 a2;exact⟨w,b1,b2.grow (λ_ _ z=>z) (fU kZ)⟩⟩
 .exact(rv.append (.cons yE .nil)).grow (λ_ _ z=>z) (fU kZ)
 .rw[<-ed];simp
theorem v5(gC:Good G n sc' N' false Y)(hg:JG G n sc' N' false m' t tg)(hc:JC G n sc' N' false m' cond ifs)(he:JE G n sc' N' false m' elt xe)(Tn:Turn Y.prog Y.w Y.K tg J fp ita tn)(jq:∀{Hc:Hp},(∀b∈fp,Hc b=none)->∀b∈fp,fP Y [] Hc b)
  (hu:Ev.undef t fr=true) (hJ:nJ Y.K r2 H2 src J) (j5:H2 Dd=none) (hsz:ds.length<=sizeLine) {R':Result->Shared->Prop}
  (Lc:∀s6 kY Hc rc vs,Inv Y [] kY Hc s6->HR Y.K Hc rc h2->Fm Y.K r2 rc H2 Hc->Hc Dd=some (.lst vs)->Dd∉rc->aC Y.K Hc rc ds vs->R' (.ok .next) s6) {k:Nat} {s:Shared}
  (h:CI Y m' (uu (Ev.run G.F G.w n) elt t cond fr) fr src fp tn r2 H2 Dd ds h2 k s):codeAny (model Y.prog Y.w) Y.A (.compLoop (.ListComp xe [⟨tg,xi,ifs,0⟩] scope pos) 0 (.ref ita) (.ref Dd) Y.env) R' s:=by
 refine qq (CI Y m' (uu (Ev.run G.F G.w n) elt t cond fr) fr src fp tn r2 H2 Dd ds h2) ?_ k h;rintro k s5 ⟨i,kY,Hc,rc,hc',dn,vs,rest,I5,sf,oF,rfl,hle,vY,oW,qu,kZ,qt,v9,e5,AG⟩;rcases Nat.lt_or_ge i src.1.length with hlt|hge
 .rw[List.drop_eq_getElem_cons hlt]at e5;simp only[Ev.bZ]at e5;split at e5
  .rename_i hst;obtain⟨hgo,_⟩:=hJ i Hc rc hc' oW qu hst;obtain⟨g1,g2⟩:=hgo src.1[i] (List.getElem?_eq_getElem hlt);obtain⟨o,h6,e6,e5⟩:=Ev.ah e5;obtain⟨rest',h7,e7,e5⟩:=Ev.ah e5;cases e5;refine bB (Tn.item Y rfl rfl rfl gC.calm i [] s5 kY Hc cX I5 (jq oF) sf g1) λrr s6 ⟨u,MF,h8⟩=>?_;subst MF;refine bB h8 λ_ s7 ⟨x,H7,I7,rx,y7,ET,MG⟩=>?_;obtain⟨r7,v7,J2,sM⟩:=g2 x H7 y7;obtain⟨Le,Lf⟩:=sM.uq kZ qt;unfold uu at e6;split at e6
   .cases e6
   .rename_i ak eb;obtain⟨kk,h9,e9,e6⟩:=Ev.ah e6;have MH:=I7.pinned (jq MG) (Tn.obj _ _ ET);refine bB (uv gC (hg _ gC _ s7 kY H7 x u (λjI H8=>H8=H7/\SR Y.K m' H7 r7 ak jI) MH rx ⟨r7,fr,hc',_,ak,vY.mono sM,J2,v7,eb,λs' q=>⟨rfl,q⟩⟩)) λ_ s8 ⟨jI,H8,I8,MI,AH⟩=>?_;subst MI;refine bB (uv gC (hc _ gC _ s8 jI _ (λb H9=>b=kk/\∃r9,HR Y.K H9 r9 h9/\Fm Y.K r7 r9 _ H9) I8 ⟨r7,ak,hc',kk,h9,AH,J2,e9,λH9 r9 oZ f9=>⟨rfl,r9,oZ,f9⟩⟩)) λbb s9 ⟨H9,I9,Ea,r9,oZ,o4⟩=>?_;subst Ea;obtain⟨ux,uw⟩:=o4.uq Lf Le;have back:∀{σ':L2.St} {H':Hp} {s':Shared},Inv Y ([]++jO fp s7.heap) σ' H' s'->tn (i+1) s'.heap/\∀b∈fp,H' b=none:=λ{σ' H' s'} I'=>
     ⟨Tn.keep _ _ _ ET λb hb o e=>(I'.pin (b,o) (List.mem_append_right _ (List.mem_append_right _ (gZ hb e)))).1,λb hb=>
      let ⟨o,e,_⟩:=Tn.obj _ _ ET b hb
      (I'.pin (b,o) (List.mem_append_right _ (List.mem_append_right _ (gZ hb e)))).2.1⟩
    cases bb with
    |false=>
     simp only[Bool.false_eq_true,if_false]at e6 ⊢;cases e6;exact sL hlt I9 (back I9) ((AH.mono o4).unbind eb hu) oZ ((qu.trans sM).trans o4) uw ux ((v9.mono sM).mono o4) e7 AG
    |true=>
     simp only[if_true]at e6 ⊢;obtain⟨xd,Oj,MJ,e6⟩:=Ev.ah e6;cases e6;refine bB (uv gC (he _ gC _ s9 jI H9 (λv wc=>∃sN,RV Y.K wc sN xd v/\HR Y.K wc sN _/\Fm Y.K r9 sN H9 wc) I9 ⟨r9,ak,h9,xd,_,AH.mono o4,oZ,MJ,λv wc sN v10 yF qv=>⟨sN,v10,yF,qv⟩⟩)) λAE J3 ⟨v10,wc,MK,yD,sN,yE,yF,uy⟩=>?_;obtain⟨Ir,Iu⟩:=uy.uq uw ux;exact ES hlt j5 hsz gC MK yD back (((AH.mono o4).mono uy).unbind eb hu) yF (((qu.trans sM).trans o4).trans uy) Iu Ir (((v9.mono sM).mono o4).mono uy) yE e7 AG
  .cases e5
 .have hi':i=src.1.length:=Nat.le_antisymm hle hge;subst hi';rw[List.drop_length]at e5;simp only[Ev.bZ]at e5;split at e5
  .rename_i hst;cases e5;refine bB (Tn.done Y rfl rfl rfl gC.calm _ [] s5 kY Hc cX I5 (jq oF) sf ((hJ _ Hc rc _ oW qu hst).2 (Nat.le_refl _))) λrr s6 ⟨hrr,I6⟩=>?_;subst hrr;rw[List.append_nil]at AG;subst AG;exact Lc s6 kY Hc rc vs I6 oW qu kZ qt v9
  .cases e5
end
theorem we(g:Good G n sc N df X)(hi:JI G n sc N df m it tg xi)(hg:JG G n (fV sc scope) N' false m' t tg)(hc:JC G n (fV sc scope) N' false m' cond ifs)(he:JE G n (fV sc scope) N' false m' elt xe)
  (hn:namesOk sc N m scope t N' m') (hs:j3 sc scope) {cl:List (Str×Addr)} (gR:∀x c,cl.lookup x=some c->X.env.cells.lookup x=some c) (j4:∀x,(x,NameKind.free)∈scope.names->∃c,cl.lookup x=some c)
  {pins:List (Addr×Obj)} {σ:L2.St} {H:Hp} {s:Shared} (I:Inv X pins σ H s) {r:List Addr} {fr:Fr} {h:Hh} {d:D} {h':Hh} (sr:SR X.K m H r fr σ) (hr:HR X.K H r h)
  (e:Ev.ev (Ev.run G.F G.w n) (.comp elt t it cond) fr h=.ok d h') (post:Value->Addr->Result->Shared->Prop)
  (hpost:∀Dd C s' H' r',Inv X pins σ H' s'->(∃mm,s'.heap.Ns C mm)->fP X pins H' C->RV X.K H' r' d (.ref Dd)->HR X.K H' r' h'->Fm X.K r r' H H'->post (.ref Dd) C (.ok .next) s') {E:Value->Shared->Prop} (hE:X.xe=λ_ _=>False) :
  wpAny (model X.prog X.w) X.A (eval xi X.env) (λx s₁=>wpAny (model X.prog X.w) X.A (pyIter x) (λitv s₂=>wpAny (model X.prog X.w) X.A (newList []) (λacc s₃=>
   wpAny (model X.prog X.w) X.A (newFunctionEnv scope X.env.globals cl [] X.env.qual none .none (some X.env)) (λcenv s₄=>
    codeAny (model X.prog X.w) X.A (.compStart (.ListComp xe [⟨tg,xi,ifs,0⟩] scope pos) 0 itv acc { cenv with scope:=relabel scope X.env }) (post acc cenv.locals) s₄) E s₃) E s₂) E s₁) E s:=by
 rw[nM]at e;obtain⟨src,h1,e1,e⟩:=Ev.ah e;split at e
 .rename_i hu;obtain⟨ds,h2,e2,e⟩:=Ev.ah e;have fO:∀{α:Type} {tt:Sem α} {Q:α->Shared->Prop} {s:Shared},wpAny (model X.prog X.w) X.A tt Q X.xe s->wpAny (model X.prog X.w) X.A tt Q E s:=λ{α tt Q s} hw=>wpAny_mono hw (λ_ _ q=>q) λ_ _ q=>by rw[hE]at q;exact q.elim
  refine bB (fO (hi X g pins s σ H (λJ H2=>∃r2,HR X.K H2 r2 h1/\Fm X.K r r2 H H2/\nJ X.K r2 H2 src J) I ⟨r,fr,h,src,h1,sr,hr,e1,λJ H2 r2 hr2 f2 hJ=>⟨r2,hr2,f2,hJ⟩⟩)) λv s1 q1=>?_;refine bB (fO q1) λitv s2 q2=>?_;obtain⟨ita,fp,tn,J,H2,rfl,I2,Tn,st2,f2,r2,hr2,AI,hJ⟩:=q2;refine wpAny_newObj_type ?_;generalize AJ:s2.heap.objs.size=Dd
  have j5:H2 Dd=none:=by rw[<-AJ];exact I2.fresh
  have I3:Inv X pins σ (upd H2 Dd (.lst [])) { s2 with heap:=s2.heap.push { cls:=.type "list",data:=.seq ([]:List Value).toArray }}:=by
   have:=I2.yo (ys:=[]) (its:=[]) (t':=s2.toks) .nil (Nat.zero_le _);rw[AJ]at this;exact this
  have EU:∀b∈fp,b<s2.heap.objs.size:=λb hb=>by
   obtain⟨o,e,_⟩:=Tn.obj 0 _ st2 b hb;exact Heap.lt_size e
  generalize EV:({ s2 with heap:=s2.heap.push { cls:=.type "list",data:=.seq ([]:List Value).toArray }}:Shared)=s3 at I3
  have Lh:s3.heap.objs.size=s2.heap.objs.size+1:=by rw[<-EV];exact Heap.size_push ..
  have k3:∀b o,s2.heap.get? b=some o->s3.heap.get? b=some o:=λb o e=>by rw[<-EV];exact Heap.get?_push_of_some _ e
  have EW:∀b∈fp,b<s3.heap.objs.size:=λb hb=>Nat.lt_of_lt_of_le (EU b hb) (by rw[Lh];exact Nat.le_succ _);have nN:∀b∈fp,fP X pins (upd H2 Dd (.lst [])) b:=λb hb=>⟨by rw[aO (λz=>absurd (EU b hb) (by rw[z,AJ];exact Nat.lt_irrefl _))];exact(f2 b hb).1,(f2 b hb).2⟩
  refine wpAny_newFunctionEnv (hs.vZ) (λy hy=>by simp at hy) (λEX Li Lj=>?_) hs.kind;have k4:∀b o,s3.heap.get? b=some o->EX.get? b=some o:=λb o e=>Lj.extBut b o (Nat.ne_of_lt (Heap.lt_size e)) (Heap.get?_push_of_some _ e);have gC:Good G n (fV sc scope) N' false (mL X N' scope cl s3.heap.objs.size s3 (upd H2 Dd (.lst [])) fp):=g.comp;have I4:Inv (mL X N' scope cl s3.heap.objs.size s3 (upd H2 Dd (.lst [])) fp) [] (sig scope N N' m' X.K (upd H2 Dd (.lst [])) r2 fr σ) (upd H2 Dd (.lst [])) { s3 with heap:=EX,toks:=s3.toks+0 }:=
   yC g I3 hs gR j4 nN EW Li k4
  have AB:SR X.K m' (upd H2 Dd (.lst [])) r2 fr (sig scope N N' m' X.K (upd H2 Dd (.lst [])) r2 fr σ):=ER (((sr.mono AI).mono (Fm.tup j5))) hn hu;have mK:HR X.K (upd H2 Dd (.lst [])) r2 h1:=hr2.tup j5;have J4:Dd∉r2:=λhm=>by
   obtain⟨k,hk⟩:=List.getElem?_of_mem hm;have hlt:k<h1.length:=by rw[<-hr2.len];exact(List.getElem?_eq_some_iff.mp hk).1
   obtain⟨a,e3,e4⟩:=hr2.ob k _ (List.getElem?_eq_getElem hlt);rw[hk]at e3;cases e3;cases eo:h1[k]with
   |lst dd=>rw[eo]at e4;obtain⟨us,e5,_⟩:=e4;rw[j5]at e5;cases e5
   |bq dd=>
    rw[eo]at e4;obtain⟨us,e5,_⟩:=e4;rcases e5 with ⟨ob,e5⟩|⟨ob,_,_,e5,_⟩
    .rw[j5]at e5;cases e5
    .have:=Heap.lt_size (I2.dj _ _ e5);rw[AJ]at this;exact absurd this (Nat.lt_irrefl _)
  have ML:H Dd=none:=by
   cases z:H Dd with
   |none=>rfl
   |some o=>
    have hnr:Dd∉r:=λhm=>by
     obtain⟨k,hk⟩:=List.getElem?_of_mem hm;exact J4 (List.mem_of_getElem? (AI.pre _ _ hk))
    have:=AI.keep _ _ z hnr;rw[j5]at this;cases this
  have jq:∀{Hc:Hp},(∀b∈fp,Hc b=none)->∀b∈fp,fP (mL X N' scope cl s3.heap.objs.size s3 (upd H2 Dd (.lst [])) fp) [] Hc b:=λ{Hc} hz b hb=>by
   refine⟨hz b hb,Nat.ne_of_lt (EW b hb),(I4.ok).lF b hb,.inl hb,λx c e=>((I4.ok).vg b hb).2 x c e,λp hp=>?_⟩;simp[mL]at hp
  have hsz:ds.length<=sizeLine:=by
   unfold Ev.alloc at e;split at e
   .rename_i z;rw[<-iA];exact z
   .cases e
  have fin:codeAny (model X.prog X.w) X.A (.compLoop (.ListComp xe [⟨tg,xi,ifs,0⟩] scope pos) 0 (.ref ita) (.ref Dd) (compEnvC scope cl s3.heap.objs.size X.env)) (post (.ref Dd) s3.heap.objs.size) { s3 with heap:=EX,toks:=s3.toks+0 }:=by
   refine v5 gC hg hc he Tn jq hu hJ j5 hsz (λs6 kY Hc rc vs I6 oW qu kZ qt v9=>?_) ⟨0,_,_,r2,h1,[],[],ds,I4,Tn.keep _ _ _ st2 λb hb o eo=>k4 b o (k3 b o eo),λb hb=>(nN b hb).1,rfl,Nat.zero_le _,AB,mK,Fm.tup j5,cj,J4,.nil,by rw[List.drop_zero];exact e2,rfl⟩;unfold Ev.alloc at e;split at e
   .cases e;obtain⟨MM,Lk,_⟩:=I6.loc;refine hpost Dd _ s6 Hc (rc++[Dd]) ?_ ⟨MM,Lk⟩ ?_ ⟨Dd,rfl,?_⟩ (oW.known kZ qt v9) ((AI.trans qu).known ?_)
    .exact I3.pK (ch:=fp) (I6.os) I6.base I6.hok I6.bare λb hb=>⟨(nN b hb).2.2.2.1,(nN b hb).2.1,(nN b hb).2.2.2.2.1,(nN b hb).2.2.2.2.2⟩
    .exact I3.ye (Nat.le_refl _) I6.free
    .rw[<-oW.len];simp
    .exact ML
   .cases e
  subst EV;exact codeAny_compStart_list fin (Tn.self _ 0 _ _ _ (Tn.keep _ _ _ st2 λb hb o eo=>k4 b o (k3 b o eo)) fin)
 .cases e
end
end Sm
set_option maxRecDepth 100000
namespace Sm
open PySem PySem.Spec PyProof.Rows L2
open Ev (D O Hh Fr R ay E Es Eo T S Ss Fl Src aU aP TY BI ME)
section
variable{G:Tb}{n:Nat}{sc scope:Scope}{N N':List Str}{df:Bool}{m m':List Nat}{elt:E}{t:T}{it:Ev.It}{cond:Eo}{xe xi tg:Expr}{ifs:List Expr}{pos:Pos}
theorem Good.cells{X:Cx}{pins:List (Addr×Obj)}{σ:L2.St}{H:Hp}{s:Shared}(g:Good G n sc N df X)(I:Inv X pins σ H s)(hs:j3 sc scope) :
  ∃cl,closureFor scope X.env=pure cl/\(∀x c,cl.lookup x=some c->X.env.cells.lookup x=some c)/\∀x,(x,NameKind.free)∈scope.names->∃c,cl.lookup x=some c:=
 B7 λx hx=>I.ok.has x (by unfold Env.kindOf;rw[g.sc];exact(hs.free x hx).1)
theorem EY{X:Cx}{pins:List (Addr×Obj)}{σ:L2.St}{H:Hp}{s:Shared}(I:Inv X pins σ H s){C:Addr}(fp:fP X pins H C){h':Heap}(hs:Heap.SameBut C s.heap h'):Inv X pins σ H { s with heap:=h' }:=
 I.turned (t':=s.toks) (λb o hb e=>hs.extBut b o hb e) fp.1 fp.2.1 fp.2.2.2.1 fp.2.2.2.2.1 fp.2.2.2.2.2
theorem B9(hi:JI G n sc N df m it tg xi)(hg:JG G n (fV sc scope) N' false m' t tg)(hc:JC G n (fV sc scope) N' false m' cond ifs)(he:JE G n (fV sc scope) N' false m' elt xe)
  (hn:namesOk sc N m scope t N' m') (hs:j3 sc scope) (hf:∀(env:Env) x,foldedSetIterable xi env x=pure x:=by intro _ _;rfl):JE G n sc N df m (.comp elt t it cond) (.ListComp xe [⟨tg,xi,ifs,0⟩] scope pos):=λX g pins s σ H Q I q=>by
 obtain⟨r,fr,h,d,h',sr,hr,e,q⟩:=q;obtain⟨cl,hcl,gR,j4⟩:=g.cells I hs;rw[eval_ListComp];refine wpAny_comprehension_free (use:=none) (Q:=EP X pins σ Q) rfl (hf _) hcl hs.kind hs.loc ?_;refine we g hi hg hc he hn hs gR j4 I sr hr e (λacc C=>compPost (model X.prog X.w) X.A X.xe none (EP X pins σ Q) acc C) (λDd C s' H' r' I' hC fp rv hr' MN=>?_) g.xe;obtain⟨mm,hC⟩:=hC;exact⟨mm,hC,λh'' MO=>⟨.ref Dd,H',EY I' fp MO,rfl,q _ H' r' rv hr' MN⟩⟩
end
end Sm
set_option maxRecDepth 100000
namespace Sm
open PySem PySem.Spec PyProof.Rows L2 PySem.SeqAt
open Ev (D O Hh Fr R ay E Es Eo T S Ss Fl Src aU aP TY BI ME)
structure qw(A:Around)(s:Shared)(u w:Value)(k:Bool):Prop where
 eq:EqAt A s u w k
 rc:RcAt A s u w k
 ne:RcNeAt A s u w (!k)
theorem nO{f:D->D->Option Bool}:∀{x y:List D},x.length≠y.length->∀{k},Ev.bU f x y=some k->k=false
 |[],[],h,_,_=>absurd rfl h
 |[],_ :: _,_,_,e=>by cases e;rfl
 |_ :: _,[],_,_,e=>by cases e;rfl
 |a :: x,b :: y,h,k,e=>by
  simp only[Ev.bU,Option.bind_eq_bind,Option.bind_eq_some_iff]at e;obtain⟨p,_,q,e2,e3⟩:=e;have:=nO (x:=x) (y:=y) (by simpa using h) e2;subst this;cases e3;simp
theorem sO{f:D->D->Option Bool}:∀{x y:List D}{k},Ev.bU f x y=some k->x.length=y.length->∃e:Nat->Bool,(∀(j:Nat) a b,x[j]?=some a->y[j]?=some b->f a b=some (e j))/\(List.range x.length).all e=k
 |[],[],_,h,_=>⟨λ_=>true,(λj a b h1=>by simp at h1),by cases h;simp⟩
 |[],_ :: _,_,_,h=>by simp at h
 |_ :: _,[],_,_,h=>by simp at h
 |a :: x,b :: y,k,h,hl=>by
  simp only[Ev.bU,Option.bind_eq_bind,Option.bind_eq_some_iff]at h;obtain⟨p,e1,q,e2,e3⟩:=h;cases e3;obtain⟨e,h1,h2⟩:=sO e2 (by simpa using hl);refine⟨λj=>match j with|0=>p|j+1=>e j,λj a' b' g1 g2=>?_,?_⟩
  .cases j with
   |zero=>simp at g1 g2;subst g1 g2;exact e1
   |succ j=>exact h1 j a' b' (by simpa using g1) (by simpa using g2)
  .rw[List.length_cons,List.range_succ_eq_map,List.all_cons,List.all_map,<-h2];rfl
theorem sP{f:D->D->Option Bool}:∀{x y:List D}{k},Ev.bU f x y=some k->∃e:Nat->Bool,∀(j:Nat) a b,x[j]?=some a->y[j]?=some b->f a b=some (e j)
 |[],_,_,_=>⟨λ_=>true,λj a b h1=>by simp at h1⟩
 |_ :: _,[],_,_=>⟨λ_=>true,λj a b _ h1=>by simp at h1⟩
 |a :: x,b :: y,k,h=>by
  simp only[Ev.bU,Option.bind_eq_bind,Option.bind_eq_some_iff]at h;obtain⟨p,e1,q,e2,e3⟩:=h;obtain⟨e,h1⟩:=sP e2;refine⟨λj=>match j with|0=>p|j+1=>e j,λj a' b' g1 g2=>?_⟩;cases j with
  |zero=>simp at g1 g2;subst g1 g2;exact e1
  |succ j=>exact h1 j a' b' (by simpa using g1) (by simpa using g2)
section
variable{X:Cx}{pins:List (Addr×Obj)}{σ:L2.St}{H:Hp}{s:Shared}{r:List Addr}{h:Hh}
theorem kH(I:Inv X pins σ H s){a b:Addr}{vs ws:List V}(h1:uo X.K H a vs)(h2:H b=some (.lst ws)):a≠b:=by
 rintro rfl;rcases h1 with ⟨o,h1⟩|⟨o,_,_,h1,_⟩
 .rw[h2]at h1;cases h1
 .have:=(I.bs a o (I.ok.mod.bW a o h1)).2;rw[h2]at this;cases this
theorem o5{x y:List D}{vs ws:List V}{us zs:List Value}{f:D->D->Option Bool}{A:Around}{k:Bool}(v1:aC X.K H r x vs)(v2:aC X.K H r y ws)(p1:Vals vs us)(p2:Vals ws zs)
  (ih:∀a b va vb u w k,RV X.K H r a va->RV X.K H r b vb->RelV va u->RelV vb w->f a b=some k->qw A s u w k) (hl:x.length=y.length) (e:Ev.bU f x y=some k) :
  ∃e':Nat->Bool,(∀j (h1:j<us.toArray.size) (h2:j<zs.toArray.size),EqAt A s us.toArray[j] zs.toArray[j] (e' j))/\(List.range us.toArray.size).all e'=k/\us.length=zs.length:=by
 obtain⟨e',h1,h2⟩:=sO e hl;have l1:=v1.length;have l2:=v2.length;have l3:=p1.length;have l4:=p2.length;refine⟨e',λj g1 g2=>?_,?_,by omega⟩
 .have MP:j<us.length:=by simpa using g1
  have MQ:j<zs.length:=by simpa using g2
  have ha:x[j]?=some x[j]:=List.getElem?_eq_getElem (by omega);have hb:y[j]?=some y[j]:=List.getElem?_eq_getElem (by omega);obtain⟨va,a1,a2⟩:=v1.get ha;obtain⟨vb,b1,b2⟩:=v2.get hb;obtain⟨u,a3,a4⟩:=p1.get a1;obtain⟨w,b3,b4⟩:=p2.get b1;have eu:us.toArray[j]=u:=by
   have:=(List.getElem?_eq_some_iff.mp a3).2;simpa using this
  have ew:zs.toArray[j]=w:=by
   have:=(List.getElem?_eq_some_iff.mp b3).2;simpa using this
  rw[eu,ew];exact(ih _ _ _ _ _ _ _ a2 b2 a4 b4 (h1 j _ _ ha hb)).eq
 .rw[<-h2];have:us.toArray.size=x.length:=by simp;omega
  rw[this]
noncomputable def bC(K:PySem.W.Frag)(H:Hp)(r:List Addr):D->V->Prop
 |.az,v=>v=.az
 |.bl b,v=>v=.bl b
 |.int i,v=>v=.int i
 |.str l,v=>v=.str (aS l)
 |.ref n,v=>∃a,v=.ref a/\r[n]?=some a
 |.tup ds,v=>∃a vs,v=.ref a/\cH K H a vs/\aC K H r ds vs
theorem RV.shape{d:D}{v:V}(h:RV X.K H r d v):bC X.K H r d v:=by
 cases d<;>simp only[RV]at h<;>simp only[bC]<;>first|exact h|exact h.1
theorem Ca{a b:List Nat}:(aS a==aS b)=(a==b):=by
 by_cases e:a=b
 .subst e;simp
 .have e1:(aS a==aS b)=false:=beq_eq_false_iff_ne.mpr λz=>e (sG z);have e2:(a==b)=false:=beq_eq_false_iff_ne.mpr e;rw[e1,e2]
theorem lO{n:Nat}{A:Around}{x y:List D}{a b:Addr}{vs ws:List V}{k:Bool}(I:Inv X pins σ H s)(hu:A.units<cLine)(q1:dI X.K H a vs)(q2:dI X.K H b ws)(v1:aC X.K H r x vs)(v2:aC X.K H r y ws)(hab:a≠b)
  (ih:∀a b va vb u w k,RV X.K H r a va->RV X.K H r b vb->RelV va u->RelV vb w->Ev.gk h n a b=some k->qw A.in1 s u w k) (e:Ev.bU (Ev.gk h n) x y=some k):qw A s (.ref a) (.ref b) k:=by
 obtain⟨us,p1,lg,_⟩:=I.list q1;obtain⟨zs,p2,lq,_⟩:=I.list q2;by_cases hl:x.length=y.length
 .obtain⟨e',h1,h2,h3⟩:=o5 v1 v2 p1 p2 ih hl e;have hs:us.toArray.size=zs.toArray.size:=by simpa using h3
  have rc:=RcAt.lists lg.isList lq.isList hs hu h1;have ne:=RcNeAt.lists lg.isList lq.isList hs hu h1;rw[h2]at rc ne;exact⟨.of_refs hab rc,rc,ne⟩
 .have hk:=nO hl e;subst hk;have hs:(us.toArray.size != zs.toArray.size)=true:=by
   have l1:=v1.length;have l2:=v2.length;have l3:=p1.length;have l4:=p2.length;simp only[List.size_toArray,bne_iff_ne,ne_eq];omega
  exact⟨.of_refs hab (.lists_lengths lg.isList lq.isList hs hu),.lists_lengths lg.isList lq.isList hs hu,.lists_lengths lg.isList lq.isList hs hu⟩
theorem qx(I:Inv X pins σ H s)(hr:HR X.K H r h){n:Nat}{a:Addr}{ds:List D}(e:Ev.aH h n=some ds)(ha:r[n]?=some a):∃us:List Value,PlainL s.heap a us.toArray:=by
 obtain⟨a',vs,e1,e2,e3⟩:=hr.read e;rw[ha]at e1;cases e1;obtain⟨us,_,pl,_⟩:=I.list e2;exact⟨us,pl⟩
theorem wg(I:Inv X pins σ H s)(hr:HR X.K H r h):∀(n:Nat) (a b:D) (v:V) (k:Bool),RV X.K H r a v->RV X.K H r b v->Ev.gk h n a b=some k->k=true:=by
 intro n;induction n with
 |zero=>intro a b v k _ _ e;cases e
 |succ n ih=>
  have items:∀(x y:List D) (vs:List V) (k:Bool),aC X.K H r x vs->aC X.K H r y vs->Ev.bU (Ev.gk h n) x y=some k->k=true:=by
   intro x;induction x with
   |nil=>
    intro y vs k h1 h2 e;simp only[aC]at h1;subst h1;cases y with
    |nil=>cases e;rfl
    |cons _ _=>simp only[aC]at h2;obtain⟨_,_,h2,_⟩:=h2;cases h2
   |cons d x MR=>
    intro y vs k h1 h2 e;simp only[aC]at h1;obtain⟨v,w,rfl,h3,h4⟩:=h1;cases y with
    |nil=>simp only[aC]at h2;cases h2
    |cons d' y=>
     simp only[aC]at h2;obtain⟨v',w',e2,h5,h6⟩:=h2;cases e2;simp only[Ev.bU,Option.bind_eq_bind,Option.bind_eq_some_iff]at e;obtain⟨p,e1,q,e2,e3⟩:=e;cases e3;rw[ih d d' v p h3 h5 e1,MR y w q h4 h6 e2];rfl
  have lt:∀(a:Addr) (vs:List V) (i:Nat) (ds:List D),cH X.K H a vs->r[i]?=some a->Ev.aH h i=some ds->False:=λa vs i ds h1 h2 h3=>by
   obtain⟨us,pl⟩:=qx I hr h3 h2;obtain⟨zs,_,pt,_⟩:=I.tuple h1;exact ne_of_list_tuple pl.isList pt rfl
  intro a b v k h1 h2 e;have s1:=h1.shape;have s2:=h2.shape;clear h1 h2;cases a with
  |az=>simp only[bC]at s1;cases b with
   |az=>cases e;rfl
   |ref m=>obtain⟨p,z,_⟩:=s2;rw[s1]at z;cases z
   |tup y=>obtain⟨p,_,z,_⟩:=s2;rw[s1]at z;cases z
   |_=>simp only[bC]at s2;rw[s1]at s2;cases s2
  |bl x=>simp only[bC]at s1;cases b with
   |bl y=>simp only[bC]at s2;rw[s1]at s2;cases s2;cases e;simp
   |ref m=>obtain⟨p,z,_⟩:=s2;rw[s1]at z;cases z
   |tup y=>obtain⟨p,_,z,_⟩:=s2;rw[s1]at z;cases z
   |_=>simp only[bC]at s2;rw[s1]at s2;cases s2
  |int x=>simp only[bC]at s1;cases b with
   |int y=>simp only[bC]at s2;rw[s1]at s2;cases s2;cases e;simp
   |ref m=>obtain⟨p,z,_⟩:=s2;rw[s1]at z;cases z
   |tup y=>obtain⟨p,_,z,_⟩:=s2;rw[s1]at z;cases z
   |_=>simp only[bC]at s2;rw[s1]at s2;cases s2
  |str x=>simp only[bC]at s1;cases b with
   |str y=>
    simp only[bC]at s2;rw[s1]at s2;have:x=y:=sG (by injection s2);subst this;cases e;simp
   |ref m=>obtain⟨p,z,_⟩:=s2;rw[s1]at z;cases z
   |tup y=>obtain⟨p,_,z,_⟩:=s2;rw[s1]at z;cases z
   |_=>simp only[bC]at s2;rw[s1]at s2;cases s2
  |tup x=>
   obtain⟨p,vs,rfl,z,w⟩:=s1;cases b with
   |tup y=>
    obtain⟨p',vs',z',z2,w2⟩:=s2;cases z';rw[I.jN z2 z]at w2;exact items x y vs k w w2 e
   |ref m=>
    obtain⟨p',z',z2⟩:=s2;cases z';obtain⟨ds,e1,_⟩:=Option.map_eq_some_iff.mp e;exact(lt _ _ _ _ z z2 e1).elim
   |_=>cases s2
  |ref i=>
   obtain⟨p,rfl,z⟩:=s1;cases b with
   |ref m=>
    obtain⟨p',z',z2⟩:=s2;cases z';replace e:Ev.iz h (Ev.gk h n) i m=some k:=e;unfold Ev.iz at e;split at e
    .simp only[Option.map_eq_some_iff]at e;obtain⟨_,_,e⟩:=e;exact e.symm
    .rename_i hne;split at e
     .rename_i x y g1 g2;exact absurd (hr.inj _ _ _ _ _ z z2 g1 g2) hne
     .rename_i x y g1 g2;obtain⟨p1,q1,AK,q2,_⟩:=hr.ob _ _ g1;obtain⟨p2,q3,AL,q4,_⟩:=hr.ob _ _ g2;rw[z]at q1;cases q1;rw[z2]at q3;cases q3;exact absurd rfl (kH I q2 q4)
     .rename_i x y g1 g2;obtain⟨p1,q1,AK,q2,_⟩:=hr.ob _ _ g1;obtain⟨p2,q3,AL,q4,_⟩:=hr.ob _ _ g2;rw[z]at q1;cases q1;rw[z2]at q3;cases q3;exact absurd rfl (kH I q4 q2)
     .cases e
   |tup y=>
    obtain⟨p',vs',z',z2,w2⟩:=s2;cases z';obtain⟨ds,e1,_⟩:=Option.map_eq_some_iff.mp e;exact(lt _ _ _ _ z2 z e1).elim
   |_=>cases s2
theorem Cb{n:Nat}{A:Around}{x y:List D}{a b:Addr}{vs ws:List V}{k:Bool}(I:Inv X pins σ H s)(hr:HR X.K H r h)(hu:A.units<cLine)(q1:cH X.K H a vs)(q2:cH X.K H b ws)(v1:aC X.K H r x vs)(v2:aC X.K H r y ws)
  (ih:∀a b va vb u w k,RV X.K H r a va->RV X.K H r b vb->RelV va u->RelV vb w->Ev.gk h n a b=some k->qw A.in1 s u w k) (e:Ev.bU (Ev.gk h n) x y=some k):qw A s (.ref a) (.ref b) k:=by
 obtain⟨us,p1,lg,_⟩:=I.tuple q1;obtain⟨zs,p2,lq,_⟩:=I.tuple q2;have l1:=v1.length;have l2:=v2.length;have l3:=p1.length;have l4:=p2.length;have both:RcAt A s (.ref a) (.ref b) k/\RcNeAt A s (.ref a) (.ref b) (!k):=by
  by_cases hl:x.length=y.length
  .obtain⟨e',h1,h2,h3⟩:=o5 v1 v2 p1 p2 ih hl e;have rc:=RcAt.tuples lg lq hu h1;have ne:=RcNeAt.tuples lg lq hu h1;have hs:us.toArray.size=zs.toArray.size:=by simpa using h3
   have hb:((List.range (min us.toArray.size zs.toArray.size)).all e'&&us.toArray.size==zs.toArray.size)=k:=by
    rw[<-hs,Nat.min_self,h2];simp
   rw[hb]at rc ne;exact⟨rc,ne⟩
  .have hk:=nO hl e;subst hk;have hcl:∃e':Nat->Bool,∀j (h1:j<us.toArray.size) (h2:j<zs.toArray.size),EqAt A.in1 s us.toArray[j] zs.toArray[j] (e' j):=by
    obtain⟨e',h1⟩:=sP e;refine⟨e',λj g1 g2=>?_⟩;have MP:j<us.length:=by simpa using g1
    have MQ:j<zs.length:=by simpa using g2
    have ha:x[j]?=some x[j]:=List.getElem?_eq_getElem (by omega);have hb:y[j]?=some y[j]:=List.getElem?_eq_getElem (by omega);obtain⟨va,a1,a2⟩:=v1.get ha;obtain⟨vb,b1,b2⟩:=v2.get hb;obtain⟨u,a3,a4⟩:=p1.get a1;obtain⟨w,b3,b4⟩:=p2.get b1;have eu:us.toArray[j]=u:=by
     have:=(List.getElem?_eq_some_iff.mp a3).2;simpa using this
    have ew:zs.toArray[j]=w:=by
     have:=(List.getElem?_eq_some_iff.mp b3).2;simpa using this
    rw[eu,ew];exact(ih _ _ _ _ _ _ _ a2 b2 a4 b4 (h1 j _ _ ha hb)).eq
   obtain⟨e',h1⟩:=hcl;have rc:=RcAt.tuples lg lq hu h1;have ne:=RcNeAt.tuples lg lq hu h1;have hs:(us.toArray.size==zs.toArray.size)=false:=by
    simp only[List.size_toArray,beq_eq_false_iff_ne,ne_eq];omega
   rw[hs,Bool.and_false]at rc ne;exact⟨rc,ne⟩
 by_cases hab:a=b
 .subst hab;rw[I.jN q2 q1]at v2;have hk:k=true:=wg I hr (n+1) (.tup x) (.tup y) (.ref a) k ⟨a,vs,rfl,q1,v1⟩ ⟨a,vs,rfl,q1,v2⟩ e;subst hk;exact⟨.same _,both.1,both.2⟩
 .exact⟨.of_refs hab both.1,both.1,both.2⟩
end
end Sm
set_option maxRecDepth 100000
namespace Sm
open PySem PySem.Spec PyProof.Rows L2 PySem.SeqAt
open Ev (D O Hh Fr R ay E Es Eo T S Ss Fl Src aU aP TY BI ME)
section
variable{X:Cx}{pins:List (Addr×Obj)}{σ:L2.St}{H:Hp}{s:Shared}{r:List Addr}{h:Hh}
theorem AM(I:Inv X pins σ H s)(hr:HR X.K H r h):∀(n:Nat) (A:Around) (a b:D) (va vb:V) (u w:Value) (k:Bool),A.units+n<cLine->RV X.K H r a va->RV X.K H r b vb->RelV va u->RelV vb w->Ev.gk h n a b=some k->qw A s u w k:=by
 intro n;induction n with
 |zero=>intro A a b va vb u w k _ _ _ _ _ e;cases e
 |succ n ih=>
  intro A a b va vb u w k hu h1 h2 r1 r2 e;have br:A.units<cLine:=by omega
  have ih':∀a b va vb u w k,RV X.K H r a va->RV X.K H r b vb->RelV va u->RelV vb w->Ev.gk h n a b=some k->qw A.in1 s u w k:=λa b va vb u w k=>ih A.in1 a b va vb u w k (by show A.units+1+n<cLine;omega);have s1:=h1.shape;have s2:=h2.shape;have lst:∀{i:Nat} {v:V} {u:Value} {ds:List D},bC X.K H r (.ref i) v->RelV v u->Ev.aH h i=some ds->∃p us,u=.ref p/\PlainL s.heap p (List.toArray us):=λ{i v u ds} hv ru el=>by
   obtain⟨p,rfl,z⟩:=hv;cases ru;obtain⟨us,pl⟩:=qx I hr el z;exact⟨p,us,rfl,pl⟩
  have tup:∀{ds:List D} {v:V} {u:Value},bC X.K H r (.tup ds) v->RelV v u->∃p us,u=.ref p/\s.heap.IsTuple p (List.toArray us):=λ{ds v u} hv ru=>by
   obtain⟨p,vs,rfl,z,_⟩:=hv;cases ru;obtain⟨us,_,pt,_⟩:=I.tuple z;exact⟨p,us,rfl,pt⟩
  cases a with
  |az=>
   simp only[bC]at s1;subst s1;cases r1;cases b with
   |az=>simp only[bC]at s2;subst s2;cases r2;cases e;exact⟨.same _,.none_none,.none_none⟩
   |bl y=>simp only[bC]at s2;subst s2;cases r2;cases e;exact⟨.none_bool _,.none_bool _,.none_bool _⟩
   |int y=>simp only[bC]at s2;subst s2;obtain⟨t,rfl⟩:=r2;cases e;exact⟨.none_int _ _,.none_int _ _,.none_int _ _⟩
   |str y=>simp only[bC]at s2;subst s2;obtain⟨t,rfl⟩:=r2;cases e;exact⟨.none_str _ _,.none_str _ _,.none_str _ _⟩
   |tup y=>obtain⟨p,us,rfl,pt⟩:=tup s2 r2;cases e;exact⟨.none_tuple pt br,.none_tuple pt br,.none_tuple pt br⟩
   |ref m=>
    obtain⟨ds,e1,rfl⟩:=Option.map_eq_some_iff.mp e;obtain⟨p,us,rfl,pl⟩:=lst s2 r2 e1;exact⟨.none_list pl.isList br,.none_list pl.isList br,.none_list pl.isList br⟩
  |bl x=>
   simp only[bC]at s1;subst s1;cases r1;cases b with
   |az=>simp only[bC]at s2;subst s2;cases r2;cases e;exact⟨.bool_none _,.bool_none _,.bool_none _⟩
   |bl y=>simp only[bC]at s2;subst s2;cases r2;cases e;exact⟨.bool_bool _ _,.bool_bool _ _,.bool_bool _ _⟩
   |int y=>simp only[bC]at s2;subst s2;obtain⟨t,rfl⟩:=r2;cases e;exact⟨.bool_int _ _ _,.bool_int _ _ _,.bool_int _ _ _⟩
   |str y=>simp only[bC]at s2;subst s2;obtain⟨t,rfl⟩:=r2;cases e;exact⟨.bool_str _ _ _,.bool_str _ _ _,.bool_str _ _ _⟩
   |tup y=>obtain⟨p,us,rfl,pt⟩:=tup s2 r2;cases e;exact⟨.bool_tuple _ pt br,.bool_tuple _ pt br,.bool_tuple _ pt br⟩
   |ref m=>
    obtain⟨ds,e1,rfl⟩:=Option.map_eq_some_iff.mp e;obtain⟨p,us,rfl,pl⟩:=lst s2 r2 e1;exact⟨.bool_list _ pl.isList br,.bool_list _ pl.isList br,.bool_list _ pl.isList br⟩
  |int x=>
   simp only[bC]at s1;subst s1;obtain⟨t0,rfl⟩:=r1;cases b with
   |az=>simp only[bC]at s2;subst s2;cases r2;cases e;exact⟨.int_none _ _,.int_none _ _,.int_none _ _⟩
   |bl y=>simp only[bC]at s2;subst s2;cases r2;cases e;exact⟨.int_bool _ _ _,.int_bool _ _ _,.int_bool _ _ _⟩
   |int y=>simp only[bC]at s2;subst s2;obtain⟨t,rfl⟩:=r2;cases e;exact⟨.int_int _ _ _ _,.int_int _ _ _ _,.int_int _ _ _ _⟩
   |str y=>simp only[bC]at s2;subst s2;obtain⟨t,rfl⟩:=r2;cases e;exact⟨.int_str _ _ _ _,.int_str _ _ _ _,.int_str _ _ _ _⟩
   |tup y=>obtain⟨p,us,rfl,pt⟩:=tup s2 r2;cases e;exact⟨.int_tuple _ _ pt br,.int_tuple _ _ pt br,.int_tuple _ _ pt br⟩
   |ref m=>
    obtain⟨ds,e1,rfl⟩:=Option.map_eq_some_iff.mp e;obtain⟨p,us,rfl,pl⟩:=lst s2 r2 e1;exact⟨.int_list _ _ pl.isList br,.int_list _ _ pl.isList br,.int_list _ _ pl.isList br⟩
  |str x=>
   simp only[bC]at s1;subst s1;obtain⟨t0,rfl⟩:=r1;cases b with
   |az=>simp only[bC]at s2;subst s2;cases r2;cases e;exact⟨.str_none _ _,.str_none _ _,.str_none _ _⟩
   |bl y=>simp only[bC]at s2;subst s2;cases r2;cases e;exact⟨.str_bool _ _ _,.str_bool _ _ _,.str_bool _ _ _⟩
   |int y=>simp only[bC]at s2;subst s2;obtain⟨t,rfl⟩:=r2;cases e;exact⟨.str_int _ _ _ _,.str_int _ _ _ _,.str_int _ _ _ _⟩
   |str y=>
    simp only[bC]at s2;subst s2;obtain⟨t,rfl⟩:=r2;cases e;rw[<-Ca];exact⟨.str_str _ _ _ _,.str_str _ _ _ _,.str_str _ _ _ _⟩
   |tup y=>obtain⟨p,us,rfl,pt⟩:=tup s2 r2;cases e;exact⟨.str_tuple _ _ pt br,.str_tuple _ _ pt br,.str_tuple _ _ pt br⟩
   |ref m=>
    obtain⟨ds,e1,rfl⟩:=Option.map_eq_some_iff.mp e;obtain⟨p,us,rfl,pl⟩:=lst s2 r2 e1;exact⟨.str_list _ _ pl.isList br,.str_list _ _ pl.isList br,.str_list _ _ pl.isList br⟩
  |tup x=>
   cases b with
   |tup y=>
    obtain⟨p,vs,rfl,z,w1⟩:=s1;obtain⟨p',vs',rfl,z',w2⟩:=s2;cases r1;cases r2;exact Cb I hr br z z' w1 w2 ih' e
   |az=>obtain⟨p,us,rfl,pt⟩:=tup s1 r1;simp only[bC]at s2;subst s2;cases r2;cases e;exact⟨.tuple_none pt br,.tuple_none pt br,.tuple_none pt br⟩
   |bl y=>obtain⟨p,us,rfl,pt⟩:=tup s1 r1;simp only[bC]at s2;subst s2;cases r2;cases e;exact⟨.tuple_bool _ pt br,.tuple_bool _ pt br,.tuple_bool _ pt br⟩
   |int y=>obtain⟨p,us,rfl,pt⟩:=tup s1 r1;simp only[bC]at s2;subst s2;obtain⟨t,rfl⟩:=r2;cases e;exact⟨.tuple_int _ _ pt br,.tuple_int _ _ pt br,.tuple_int _ _ pt br⟩
   |str y=>obtain⟨p,us,rfl,pt⟩:=tup s1 r1;simp only[bC]at s2;subst s2;obtain⟨t,rfl⟩:=r2;cases e;exact⟨.tuple_str _ _ pt br,.tuple_str _ _ pt br,.tuple_str _ _ pt br⟩
   |ref m=>
    obtain⟨p,us,rfl,pt⟩:=tup s1 r1;obtain⟨ds,e1,rfl⟩:=Option.map_eq_some_iff.mp e;obtain⟨p',us',rfl,pl⟩:=lst s2 r2 e1;exact⟨.tuple_list pt pl.isList br,.tuple_list pt pl.isList br,.tuple_list pt pl.isList br⟩
  |ref i=>
   cases b with
   |ref m=>
    replace e:Ev.iz h (Ev.gk h n) i m=some k:=e;unfold Ev.iz at e;split at e
    .rename_i MS;subst MS;simp only[Option.map_eq_some_iff]at e;obtain⟨ds,e1,rfl⟩:=e;obtain⟨p,us,rfl,pl⟩:=lst s1 r1 e1;obtain⟨p0,rfl,z⟩:=s1;obtain⟨p1,rfl,z'⟩:=s2;rw[z]at z';cases z';cases r1;cases r2;have q:(List.range (List.toArray us).size).all (λ_=>true)=true:=by simp
     have rc:=RcAt.lists (A:=A) (e:=λ_=>true) pl.isList pl.isList rfl br λj _ _=>EqAt.same _;have ne:=RcNeAt.lists (A:=A) (e:=λ_=>true) pl.isList pl.isList rfl br λj _ _=>EqAt.same _;rw[q]at rc ne;exact⟨.same _,rc,ne⟩
    .rename_i hne;obtain⟨p0,rfl,z⟩:=s1;obtain⟨p1,rfl,z'⟩:=s2;cases r1;cases r2;split at e
     .rename_i x y g1 g2;obtain⟨q0,q1,AK,q2,q3⟩:=hr.ob _ _ g1;obtain⟨q4,q5,AL,q6,q7⟩:=hr.ob _ _ g2;rw[z]at q1;cases q1;rw[z']at q5;cases q5;exact lO I br (.of q2) (.of q6) q3 q7 (λw=>hne (hr.inj _ _ _ _ _ z (by rw[w];exact z') g1 g2)) ih' e
     .rename_i x y g1 g2;obtain⟨q0,q1,AK,q2,q3⟩:=hr.ob _ _ g1;obtain⟨q4,q5,AL,q6,q7⟩:=hr.ob _ _ g2;rw[z]at q1;cases q1;rw[z']at q5;cases q5;exact lO I br (AN q2) (.of q6) q3 q7 (kH I q2 q6) ih' e
     .rename_i x y g1 g2;obtain⟨q0,q1,AK,q2,q3⟩:=hr.ob _ _ g1;obtain⟨q4,q5,AL,q6,q7⟩:=hr.ob _ _ g2;rw[z]at q1;cases q1;rw[z']at q5;cases q5;exact lO I br (.of q2) (AN q6) q3 q7 (kH I q6 q2).symm ih' e
     .cases e
   |az=>obtain⟨ds,e1,rfl⟩:=Option.map_eq_some_iff.mp e;obtain⟨p,us,rfl,pl⟩:=lst s1 r1 e1;simp only[bC]at s2;subst s2;cases r2;exact⟨.list_none pl.isList br,.list_none pl.isList br,.list_none pl.isList br⟩
   |bl y=>obtain⟨ds,e1,rfl⟩:=Option.map_eq_some_iff.mp e;obtain⟨p,us,rfl,pl⟩:=lst s1 r1 e1;simp only[bC]at s2;subst s2;cases r2;exact⟨.list_bool _ pl.isList br,.list_bool _ pl.isList br,.list_bool _ pl.isList br⟩
   |int y=>obtain⟨ds,e1,rfl⟩:=Option.map_eq_some_iff.mp e;obtain⟨p,us,rfl,pl⟩:=lst s1 r1 e1;simp only[bC]at s2;subst s2;obtain⟨t,rfl⟩:=r2;exact⟨.list_int _ _ pl.isList br,.list_int _ _ pl.isList br,.list_int _ _ pl.isList br⟩
   |str y=>obtain⟨ds,e1,rfl⟩:=Option.map_eq_some_iff.mp e;obtain⟨p,us,rfl,pl⟩:=lst s1 r1 e1;simp only[bC]at s2;subst s2;obtain⟨t,rfl⟩:=r2;exact⟨.list_str _ _ pl.isList br,.list_str _ _ pl.isList br,.list_str _ _ pl.isList br⟩
   |tup y=>
    obtain⟨ds,e1,rfl⟩:=Option.map_eq_some_iff.mp e;obtain⟨p,us,rfl,pl⟩:=lst s1 r1 e1;obtain⟨p',us',rfl,pt⟩:=tup s2 r2;exact⟨.list_tuple pl.isList pt br,.list_tuple pl.isList pt br,.list_tuple pl.isList pt br⟩
where
 AN {K:PySem.W.Frag} {H:Hp} {a:Addr} {vs:List V} (q:uo K H a vs):dI K H a vs:=by
  rcases q with ⟨ob,e2⟩|e2
  .exact .inl (.inr ⟨ob,e2⟩)
  .exact .inr e2
end
theorem Good.units{G:Tb}{n:Nat}{sc:Scope}{N:List Str}{df:Bool}{X:Cx}(g:Good G n sc N df X):X.A.units+1+Ev.deep<cLine:=by
 have:=g.room.un;have:Ev.deep=20:=rfl;omega
section
variable{G:Tb}{n:Nat}{sc:Scope}{N:List Str}{df:Bool}{X:Cx}
theorem sQ{pins:List (Addr×Obj)}{σ:L2.St}{H:Hp}{s:Shared}{Q:VK}{r:List Addr}{h:Hh}{k:Bool}(I:Inv X pins σ H s)(hr:HR X.K H r h)(q:Res X.K r H h (.bl k) Q):EP X pins σ Q (.bool k) s:=
 ⟨.bl k,H,I,rfl,q.here rfl hr⟩
theorem AO(g:Good G n sc N df X):cI X (compareOp .Eq) (gm X.K (fD .eq)):=by
 intro pins s σ H x y v u Q I rx ry q;obtain⟨r,h,a,b,d,h',hr,v1,v2,e,q⟩:=q;obtain⟨k,e1,rfl,rfl⟩:=g9 e;have:=g.units;exact(AM I hr Ev.deep X.A a b x y v u k (by omega) v1 v2 rx ry e1).rc _ _ _ _ (sQ I hr q)
theorem Iv(g:Good G n sc N df X):cI X (compareOp .NotEq) (gm X.K (fD .ne)):=by
 intro pins s σ H x y v u Q I rx ry q;obtain⟨r,h,a,b,d,h',hr,v1,v2,e,q⟩:=q;obtain⟨k,e1,rfl,rfl⟩:=g9 e;have:=g.units
 delta Ev.cop at e1;dsimp only at e1;simp only[Option.map_eq_some_iff]at e1
 obtain⟨k',e2,rfl⟩:=e1;exact(AM I hr Ev.deep X.A a b x y v u k' (by omega) v1 v2 rx ry e2).ne _ _ _ _ (sQ I hr q)
theorem wj{op:CmpOp}{o:aP}{p:Int->Int->Bool}(ho:cI X (compareOp op) (sj λi j=>.bl (p i j)))(hc:∀a b h k,Ev.cop o a b h=some k->∃i j,a=.int i/\b=.int j/\k=p i j):cI X (compareOp op) (gm X.K (fD o)):=by
 intro pins s σ H x y v u Q I rx ry q;obtain⟨r,h,a,b,d,h',hr,v1,v2,e,q⟩:=q;obtain⟨k,e1,rfl,rfl⟩:=g9 e;obtain⟨i,j,rfl,rfl,rfl⟩:=hc _ _ _ _ e1;exact ho pins s σ H x y v u Q I rx ry ⟨i,j,v1,v2,q.here rfl hr⟩
theorem Iw:cI X (compareOp .Lt) (gm X.K (fD .lt)):=wj HU λa b h k e=>by
 cases a<;>cases b <;> (delta Ev.cop at e;dsimp only at e)<;>first | (cases e;exact⟨_,_,rfl,rfl,rfl⟩)|cases e
theorem AQ:cI X (compareOp .Gt) (gm X.K (fD .gt)):=wj HV λa b h k e=>by
 cases a<;>cases b <;> (delta Ev.cop at e;dsimp only at e)<;>first | (cases e;exact⟨_,_,rfl,rfl,rfl⟩)|cases e
theorem EZ:cI X (compareOp .Is) (gm X.K (fD .oQ)):=by
 intro pins s σ H x y v u Q I rx ry q;obtain⟨r,h,a,b,d,h',hr,v1,v2,e,q⟩:=q;obtain⟨k,e1,rfl,rfl⟩:=g9 e;cases b with
 |az=>
  refine DT pins s σ H x y v u Q I rx ry ⟨v2,?_⟩;have:=v1.shape;cases a with
  |az=>simp only[bC]at this;subst this;cases e1;exact q.here rfl hr
  |bl _=>simp only[bC]at this;subst this;cases e1;exact q.here rfl hr
  |int _=>simp only[bC]at this;subst this;cases e1;exact q.here rfl hr
  |str _=>simp only[bC]at this;subst this;cases e1;exact q.here rfl hr
  |ref _=>obtain⟨p,rfl,_⟩:=this;cases e1;exact q.here rfl hr
  |tup _=>obtain⟨p,_,rfl,_⟩:=this;cases e1;exact q.here rfl hr
 |_=>cases a<;>cases e1
theorem Cc:cI X (compareOp .IsNot) (gm X.K (fD .lJ)):=by
 intro pins s σ H x y v u Q I rx ry q;obtain⟨r,h,a,b,d,h',hr,v1,v2,e,q⟩:=q;obtain⟨k,e1,rfl,rfl⟩:=g9 e;cases b with
 |az=>
  refine BD pins s σ H x y v u Q I rx ry ⟨v2,?_⟩;have:=v1.shape;cases a with
  |az=>simp only[bC]at this;subst this;cases e1;exact q.here rfl hr
  |bl _=>simp only[bC]at this;subst this;cases e1;exact q.here rfl hr
  |int _=>simp only[bC]at this;subst this;cases e1;exact q.here rfl hr
  |str _=>simp only[bC]at this;subst this;cases e1;exact q.here rfl hr
  |ref _=>obtain⟨p,rfl,_⟩:=this;cases e1;exact q.here rfl hr
  |tup _=>obtain⟨p,_,rfl,_⟩:=this;cases e1;exact q.here rfl hr
 |_=>cases a<;>cases e1
end
end Sm
set_option maxRecDepth 100000
namespace Sm
open PySem PySem.Spec PyProof.Rows L2 PySem.SeqAt
open Ev (D O Hh Fr R ay E Es Eo T S Ss Fl Src aU aP TY BI ME)
section
variable{X:Cx}{pins:List (Addr×Obj)}{σ:L2.St}{H:Hp}{s:Shared}{r:List Addr}{h:Hh}
end
section
variable{G:Tb}{n:Nat}{sc:Scope}{N:List Str}{df:Bool}{X:Cx}
theorem nQ(a b:List Nat):aS a++aS b=aS (a++b):=by
 show Str.append (aS a) (aS b)=_;simp[Str.append,aS]
theorem Cd{pins:List (Addr×Obj)}{σ:L2.St}{H:Hp}{s:Shared}{Q:Value->Shared->Prop}{E:Value->Shared->Prop}(I:Inv X pins σ H s){a b:Addr}{ys:List V}(h1:cH X.K H a [])(h2:cH X.K H b ys)(q:Q (.ref b) s):wpAny (model X.prog X.w) X.A (binaryOp .Add (.ref a) (.ref b)) Q E s:=by
 obtain⟨us,p1,MT,_⟩:=I.tuple h1;obtain⟨zs,p2,MU,_⟩:=I.tuple h2;cases p1;obtain⟨⟨cls,dd,data,sl⟩,ho,hc,n,hd⟩:=id MT;obtain⟨⟨KZ,dd2,data2,sl2⟩,ho2,hc2,n2,hd2⟩:=id MU;simp only at hc hd hc2 hd2;subst hc hd hc2 hd2;exact concat_meets ⟨_,ho,rfl⟩ ⟨_,ho2,rfl⟩ noFill_tuple_add seq_tuple_add PySem.F.slot_tuple_add PySem.F.entry_tuple_add (PySem.F.args_tuple_add_2 _ _)
  (tuple_addW0 a b _ _ n n2 dd dd2 sl sl2 (by simp)) ⟨ho,ho2,q⟩
theorem E1:cI X (binaryOp .Add) (gm X.K (Ev.bI .add)):=by
 intro pins s σ H x y v u Q I rx ry q;obtain⟨r,h,a,b,d,h',hr,v1,v2,e,q⟩:=q;have s1:=v1.shape;have s2:=v2.shape;cases a with
 |int i=>cases b with
  |int j=>cases e;exact DP pins s σ H x y v u Q I rx ry ⟨i,j,s1,s2,q.here rfl hr⟩
  |_=>cases e
 |str i=>cases b with
  |str j=>
   delta Ev.bI at e;dsimp only at e
   split at e
   .rename_i hz;cases e;rw[iA]at hz;refine ud pins s σ H x y v u Q I rx ry ⟨aS i,aS j,s1,s2,by rw[bR,bR];exact hz,?_⟩;rw[nQ];exact q.here ⟨rfl,by rw[List.length_append];exact hz⟩ hr
   .cases e
  |_=>cases e
 |tup i=>cases b with
  |tup j=>
   delta Ev.bI at e;dsimp only at e
   split at e
   .rename_i hz;cases e;rw[iA]at hz;obtain⟨pa,vs,rfl,z1,w1⟩:=s1;obtain⟨pb,ws,rfl,z2,w2⟩:=s2;have l1:=w1.length;have l2:=w2.length;cases vs with
    |nil=>
     cases rx;cases ry;refine Cd I z1 z2 ⟨.ref pb,H,I,rfl,q.here ?_ hr⟩;have:i=[]:=by cases i with|nil=>rfl|cons _ _=>simp at l1
     subst this;exact⟨pb,ws,rfl,z2,by simpa using w2⟩
    |cons v0 vs=>
     refine BN pins s σ H _ _ v u Q I rx ry ⟨pa,pb,v0 :: vs,ws,rfl,rfl,z1,z2,by simp,by rw[l1,l2];exact hz,λhw=>?_,λhw p hp=>?_⟩
     .subst hw;have:j=[]:=by cases j with|nil=>rfl|cons _ _=>simp at l2
      subst this;exact q.here ⟨pa,v0 :: vs,rfl,z1,by simpa using w1⟩ hr
     .exact q.tup (w1.append w2) hr hp
   .cases e
  |_=>cases e
 |ref i=>cases b with
  |ref j=>
   delta Ev.bI at e;dsimp only at e
   split at e
   .rename_i ds es e1 e2;obtain⟨pa,rfl,z1⟩:=s1;obtain⟨pb,rfl,z2⟩:=s2;cases rx;cases ry;obtain⟨p1,g1,vs,g2,g3⟩:=hr.ob _ _ e1;obtain⟨p2,k1,ws,k2,k3⟩:=hr.ob _ _ e2;rw[z1]at g1;cases g1;rw[z2]at k1;cases k1;obtain⟨hz,q2⟩:=q.lst e (g3.append k3) hr;exact vK pins s σ H (.ref pa) (.ref pb) _ _ Q I rfl rfl ⟨_,_,vs,ws,rfl,rfl,g2,k2,by rw[List.length_append]at hz;exact hz,q2⟩
   .cases e
  |_=>cases e
 |_=>cases b<;>cases e
theorem Ce:cI X (binaryOp .FloorDiv) (gm X.K (Ev.bI .fdiv)):=by
 intro pins s σ H x y v u Q I rx ry q;obtain⟨r,h,a,b,d,h',hr,v1,v2,e,q⟩:=q;cases a with
 |int i=>cases b with
  |int j=>
   delta Ev.bI at e;dsimp only at e
   split at e
   .rename_i hz;cases e;exact By pins s σ H x y v u Q I rx ry ⟨i,j,v1,v2,hz,q.here rfl hr⟩
   .cases e
  |_=>cases e
 |_=>cases b<;>cases e
theorem E2:cI X (binaryOp .Mod) (gm X.K (Ev.bI .mod)):=by
 intro pins s σ H x y v u Q I rx ry q;obtain⟨r,h,a,b,d,h',hr,v1,v2,e,q⟩:=q;cases a with
 |int i=>cases b with
  |int j=>
   delta Ev.bI at e;dsimp only at e
   split at e
   .rename_i hz;cases e;exact DR pins s σ H x y v u Q I rx ry ⟨i,j,v1,v2,hz,q.here rfl hr⟩
   .cases e
  |_=>cases e
 |_=>cases b<;>cases e
end
end Sm
set_option maxRecDepth 100000
namespace Sm
open PySem PySem.Spec PyProof.Rows L2 PySem.SeqAt
open Ev (D O Hh Fr R ay E Es Eo T S Ss Fl Src aU aP TY BI ME)
section
variable{X:Cx}
theorem E3(n:Nat)(i:Int):Ev.cT n i=L2.cT n i:=rfl
theorem E4{α:Type}(xs:List α)(i:Int):Ev.bh xs i=L2.bh xs i:=rfl
theorem aC.bh{K:PySem.W.Frag}{H:Hp}{r:List Addr}{ds:List D}{vs:List V}{i:Int}{d:D}(w:aC K H r ds vs)(e:Ev.bh ds i=some d):∃v,L2.bh vs i=some v/\RV K H r d v:=by
 unfold Ev.bh at e;obtain⟨j,e1,e2⟩:=Option.bind_eq_some_iff.mp e;obtain⟨v,e3,e4⟩:=w.get e2;exact⟨v,by unfold L2.bh;rw[w.length,<-E3,e1];exact e3,e4⟩
theorem Iz:sD X (gm X.K Ez):=by
 intro value slice pins s σ H x y v u Q I rx ry q hs;obtain⟨r,h,a,b,d,h',hr,v1,v2,e,q⟩:=q;obtain⟨e,rfl⟩:=Ev.aE e;cases b with
 |int i=>
  have s2:=v2.shape;cases a with
  |tup ds=>
   obtain⟨p,vs,rfl,z,w⟩:=v1.shape;obtain⟨v',g1,g2⟩:=w.bh e;exact D5 value slice pins s σ H _ y v u Q I rx ry ⟨p,vs,i,v',rfl,s2,z,g1,q.here g2 hr⟩ hs
  |str l=>
   simp only[RV]at v1;obtain⟨rfl,hl⟩:=v1;simp only[Ev.eY,Option.map_eq_some_iff]at e;obtain⟨c,e1,rfl⟩:=e;exact D6 value slice pins s σ H _ y v u Q I rx ry ⟨aS l,i,c,rfl,s2,by rw[bR];exact hl,by simpa[aS,E4]using e1,q.here ⟨rfl,by show 1<=sizeLine;decide⟩ hr⟩ hs
  |ref m=>
   simp only[Ev.eY,Option.bind_eq_some_iff]at e;obtain⟨ds,e1,e2⟩:=e;obtain⟨p,rfl,z⟩:=v1.shape;obtain⟨p',vs,z',q1,w⟩:=hr.read e1;rw[z]at z';cases z';obtain⟨v',g1,g2⟩:=w.bh e2;exact BP value slice pins s σ H _ y v u Q I rx ry ⟨p,vs,i,v',rfl,s2,q1,g1,q.here g2 hr⟩ hs
  |_=>cases e
 |_=>cases a<;>cases e
theorem aC.cut{K:PySem.W.Frag}{H:Hp}{r:List Addr}{ds:List D}{vs:List V}(w:aC K H r ds vs)(lo hi:Option Int):aC K H r (Ev.cut ds lo hi) (jQ vs lo hi):=by
 unfold Ev.cut jQ;rw[w.length];exact(w.drop _).take _
theorem o6{α:Type}(xs:List α)(lo hi:Option Int)(h:Ev.aD xs.length 0 lo=0/\Ev.aD xs.length xs.length hi=xs.length):Ev.cut xs lo hi=xs:=by
 unfold Ev.cut;rw[h.1,h.2];simp
theorem Cf{α:Type}(xs:List α)(lo hi:Option Int):(Ev.cut xs lo hi).length<=xs.length:=by
 unfold Ev.cut;rw[List.length_take,List.length_drop];omega
theorem pI{prog:Program}{w:World}{A:Around}{E:Value->Shared->Prop}{s:Shared}{t sl:Addr}{items:Array Value}{vl vu:Value}{lo hi:Option Int}{Q:Value->Shared->Prop}(ht:IsTup s.heap t items)(hs:s.heap.IsSliceOf sl vl vu .none)(pl:IsPart vl lo)(pu:IsPart vu hi)
  (hw:HT.aD items.size 0 lo=0/\HT.aD items.size items.size hi=items.size) (h:Q (.ref t) s):wpAny (model prog w) A (getItem (.ref t) (.ref sl)) Q E s:=by
 obtain⟨os,hos,hcs,hds⟩:=id hs;have DZ:s.TypeIs (.ref sl) "slice" :=⟨os,hos,hcs⟩
 unfold getItem;try with_reducible refine wpAny_holding ?_
 first|refine wpAny_bind (wpAny_pure ?_)|skip
 refine wpAny_bind (wpAny_sequenceKey ht.typeIs (by decide) ?_);refine wpAny_bind (wpAny_callSpecial?_slot (name:=Str.ofString "__getitem__") ht.typeIs PyProof.Rows.slot_tuple_getitem
  (wpAny_call_entry PyProof.Rows.slot_tuple_getitem ht.typeIs entry_tuple_getitem ?_ (args_tuple_getitem _ _)))
 show wpAny _ _ (Builtin.Tuple.tupleItemsOf (.ref t) >>= _) _ _ s;refine wpAny_bind (tupleItemsOf_ ht ?_);refine wpAny_bind (wpAny_typeOf DZ ?_);rw[if_pos (by decide)];refine wpAny_bind (HT.iy hs pl pu ?_);have hyes:(((HT.aD items.size 0 lo:Nat):Int)==0&&(1:Int)==1&&(HT.aD items.size items.size hi - HT.aD items.size 0 lo)==items.size)=true:=by
  rw[hw.1,hw.2];simp
 show wpAny _ _ (if (((HT.aD items.size 0 lo:Nat):Int)==0&&(1:Int)==1&&(HT.aD items.size items.size hi - HT.aD items.size 0 lo)==items.size)=true then _ else _) _ _ s;rw[if_pos hyes];refine wpAny_bind (m:=Builtin.Tuple.tupleIsExact (.ref t)) (wpAny_bind (wpAny_typeOf ht.typeIs (wpAny_pure ?_)));show wpAny _ _ (if ((Value.type "tuple" ==Value.type "tuple")=true)then _ else _) _ _ s;rw[if_pos (by decide)];exact wpAny_bind (wpAny_rule (wpAny_bind (wpAny_pure (wpAny_pure ⟨_,rfl,wpAny_pure h⟩))))
theorem wm(lo hi:Option Int)(n:Nat):Builtin.Str.strSliceIndices lo hi 1 n=(List.range (Ev.aD n n hi - Ev.aD n 0 lo)).map (λk=>Ev.aD n 0 lo+k):=by
 have E5:∀o:Option Int,((match o with|none=>(0:Int)|some i=>max 0 (min (if i<0 then i+(n:Int)else i) (n:Int))))=((Ev.aD n 0 o:Nat):Int):=λo=>by
  cases o with
  |none=>rfl
  |some i=>simp only[Ev.aD];split<;>omega
 have E6:∀o:Option Int,((match o with|none=>(n:Int)|some i=>max 0 (min (if i<0 then i+(n:Int)else i) (n:Int))))=((Ev.aD n n o:Nat):Int):=λo=>by
  cases o with
  |none=>rfl
  |some i=>simp only[Ev.aD];split<;>omega
 have e:Builtin.Str.strSliceIndices lo hi 1 n=sliceRange (match lo with|none=>(0:Int)|some i=>max 0 (min (if i<0 then i+(n:Int)else i) (n:Int))) (match hi with|none=>(n:Int)|some i=>max 0 (min (if i<0 then i+(n:Int)else i) (n:Int))) 1:=by
  unfold Builtin.Str.strSliceIndices;cases lo<;>cases hi<;>simp
 rw[e,E5,E6,sliceRange_one]
theorem E7(l:List Nat)(lo hi:Option Int):((Builtin.Str.strSliceIndices lo hi 1 (aS l).length).filterMap ((aS l).cps[·]?)).toArray=(Ev.cut l lo hi).toArray:=by
 rw[bR,wm,pick_run];simp[aS,Ev.cut]
theorem E8:jc X (Eh X.K):=by
 intro pins s σ H x v vl vu lo hi sl Q I rx hs pl pu q;obtain⟨r,h,a,d,h',hr,v1,e,q⟩:=q;cases a with
 |tup ds=>
  cases e;obtain⟨p,vs,rfl,z,w⟩:=v1.shape;by_cases hw:HT.aD vs.length 0 lo=0/\HT.aD vs.length vs.length hi=vs.length
  .cases rx;obtain⟨us,pv,pt,hz⟩:=I.tuple z;have hl:=pv.length;have MV:Ev.aD ds.length 0 lo=0/\Ev.aD ds.length ds.length hi=ds.length:=by rw[<-w.length];exact hw
   refine⟨"tuple",_,PyProof.Rows.slot_tuple_getitem.lookup,pt.typeIs,?_⟩;refine pI pt hs pl pu (by rw[List.size_toArray,<-hl];exact hw) ⟨.ref p,H,I,rfl,q.here ?_ hr⟩;rw[o6 ds lo hi MV];exact⟨p,vs,rfl,z,w⟩
  .exact D4 pins s σ H _ v vl vu lo hi sl Q I rx hs pl pu ⟨p,vs,rfl,z,hw,λp' hp=>q.tup (w.cut lo hi) hr hp⟩
 |str l=>
  simp only[RV]at v1;obtain⟨rfl,hl⟩:=v1;obtain⟨t,rfl⟩:=rx;cases e;refine⟨"str",_,PySem.F.slot_str_getitem.lookup,typeIs_str s _ t,?_⟩;have part:∀{v:Value} {o:Option Int},IsPart v o->∃p:Option (Int×Tok),v=partValue p/\p.map (·.1)=o:=λ{v o} hp=>by
   cases hp with
   |none=>exact⟨none,rfl,rfl⟩
   |int i t=>exact⟨some (i,t),rfl,rfl⟩
  obtain⟨l1,e1,e2⟩:=part pl;obtain⟨u1,e3,e4⟩:=part pu;subst e1 e3;obtain⟨os,hos,hcs,hds⟩:=hs;refine wpAny_getItem_str_slice (l:=l1) (u:=u1) (st:=none) ⟨os,hos,hcs,hds⟩ rfl ?_;have AR:((slicePicked (aS l) l1 u1 none).filterMap ((aS l).cps[·]?)).toArray=(Ev.cut l lo hi).toArray:=by
   show((Builtin.Str.strSliceIndices (l1.map (·.1)) (u1.map (·.1)) 1 (aS l).length).filterMap ((aS l).cps[·]?)).toArray=_;rw[e2,e4];exact E7 l lo hi
  have hcl:=Cf l lo hi;unfold sliceMade;refine post_val_or_made (λ_=>?_) λt' k=>?_
  .rw[AR];show(Ev.cut l lo hi).toArray.size<=sizeLine;simp only[List.size_toArray];omega
  .have hres:(if (((none:Option (Int×Tok)).map (·.1)).getD 1==1&&(slicePicked (aS l) l1 u1 none).length==(aS l).length)=true then aS l else (⟨((slicePicked (aS l) l1 u1 none).filterMap ((aS l).cps[·]?)).toArray⟩:Str))=aS (Ev.cut l lo hi):=by
    split
    .rename_i hc;rw[Bool.and_eq_true]at hc;have hlen:(slicePicked (aS l) l1 u1 none).length=(aS l).length:=eq_of_beq hc.2;have hlen2:(slicePicked (aS l) l1 u1 none).length=Ev.aD l.length l.length hi - Ev.aD l.length 0 lo:=by
      show(Builtin.Str.strSliceIndices (l1.map (·.1)) (u1.map (·.1)) 1 (aS l).length).length=_;rw[e2,e4,wm,bR];simp
     rw[bR]at hlen;have hb:Ev.aD l.length l.length hi<=l.length:=HT.qe _ _ (Nat.le_refl _) hi;have ha:Ev.aD l.length 0 lo<=l.length:=HT.qe _ _ (Nat.zero_le _) lo;rw[o6 l lo hi ⟨by omega,by omega⟩]
    .rw[AR];rfl
   rw[hres];exact⟨.str (aS (Ev.cut l lo hi)),H,I.tok _,⟨_,rfl⟩,q.here ⟨rfl,by omega⟩ hr⟩
 |ref m=>
  simp only[Ev.fH]at e;split at e
  .rename_i ds e1;obtain⟨p,rfl,z⟩:=v1.shape;obtain⟨p',vs,z',q1,w⟩:=hr.read e1;rw[z]at z';cases z';obtain⟨hz,q2⟩:=q.lst e (w.cut lo hi) hr;exact BQ pins s σ H _ v vl vu lo hi sl Q I rx hs pl pu ⟨p,vs,rfl,q1,q2⟩
  .cases e
 |_=>cases e
theorem qy:∀(k:Nat) (l:List Nat) (acc:List Nat),(List.replicate k l.toArray).foldl (·++·) acc.toArray=(acc++Ev.rep k l).toArray
 |0,l,acc=>by simp[Ev.rep]
 |k+1,l,acc=>by
  rw[List.replicate_succ,List.foldl_cons];have:acc.toArray++l.toArray=(acc++l).toArray:=by simp
  rw[this,qy k l (acc++l)];simp[Ev.rep,List.replicate_succ]
theorem kI{α:Type}(k:Nat)(l:List α):(Ev.rep k l).length=k*l.length:=by
 unfold Ev.rep;exact len_rep l k
theorem Cg{l:List Nat}{k:Int}(h:0<=k):Txt.mul (aS l) k=aS (Ev.rep k.toNat l):=by
 unfold Txt.mul;by_cases h1:k<1
 .have:k=0:=by omega
  subst this;rw[if_pos (by decide)];rfl
 .rw[if_neg h1];split
  .rename_i hc;rw[Bool.or_eq_true]at hc;rcases hc with hc|hc
   .have:k=1:=by simpa using hc
    subst this;simp[Ev.rep]
   .rw[bR]at hc;have:l=[]:=by cases l with|nil=>rfl|cons _ _=>simp at hc
    subst this;simp[Ev.rep,aS]
  .show(⟨(List.replicate k.toNat (aS l).cps).foldl (·++·) #[]⟩:Str)=_;have:=qy k.toNat l [];simp only[List.nil_append]at this;exact congrArg Str.mk this
theorem iK{a b:Nat}(h1:a<=1000)(h2:b<=1000):a*b<=sizeLine:=Nat.le_trans (Nat.mul_le_mul h1 h2) (by decide)
theorem Ci{pins:List (Addr×Obj)}{σ:L2.St}{H:Hp}{s:Shared}{Q:VK}(I:Inv X pins σ H s){l:List Nat}{k:Int}{t u:Tok}(hk:0<=k/\k<=1000/\l.length<=1000)(q:Q (.str (aS (Ev.rep k.toNat l))) H) :
  wpAny (model X.prog X.w) X.A (binaryOp .Mult (.str (aS l) t) (.int k u)) (EP X pins σ Q) X.xe s:=by
 have hok:MulOk (aS l) k:=mulOk_of 1000 1000 (by rw[bR];exact hk.2.2) (by exact hk.2.1) (by omega) (by decide) (by decide);refine SB.mul hok λt' k'=>?_;rw[Cg hk.1];exact⟨.str _,H,I.tok _,⟨_,rfl⟩,q⟩
theorem lP:fillsNumberSlot (.type "tuple") "mul" = pure false:=
 PySem.fillsNumberSlot_seq (id:="tuple.__mul__") (r:=some (.builtin "tuple.__rmul__")) PySem.F.slot_tuple_mul.lookup (by decide +kernel) PySem.F.slot_tuple_rmul.lookup (by decide +kernel)
theorem qz:seqRepeat? (.type "tuple")=pure (some (.builtin "tuple.__mul__")):=by
 unfold seqRepeat?;rw[PySem.seqSlot_of (T:="tuple") (name:="__mul__") (id:="tuple.__mul__") PySem.F.slot_tuple_mul.lookup (by decide +kernel),PySem.seqSlot_of (T:="tuple") (name:="__rmul__") (id:="tuple.__rmul__") PySem.F.slot_tuple_rmul.lookup (by decide +kernel)];rfl
theorem uz(a:Int)(t:Tok)(l:Addr)(items:Array Value)(n:Nat)(dd:Option Addr)(sl:Array (Option Value)) :
  Meets (Builtin.«int.__rmul__» ⟨[.int a t,.ref l],[]⟩) (λ_ R s=>s.heap.get? l=some { cls:=.type "tuple",dict:=dd,data:=.seq items n,slots:=sl }/\R (.ok (.ret Value.notImplemented)) s):=
 .of_wp λprog w A R s h=>by obtain⟨hp,g,d,tk,os⟩:=s;obtain⟨hl,h⟩:=h;wp_walk;exact⟨_,rfl,h⟩
theorem uA(l:Addr)(items:Array Value)(n:Nat)(dd:Option Addr)(sl:Array (Option Value))(k:Int)(u:Tok)(h1:¬ (decide (k < -2 ^ 63) ||decide (k≥2 ^ 63))=true)(h3:(items.isEmpty ||k==1)=true) :
  Meets (Builtin.«tuple.__mul__» ⟨[.ref l,.int k u],[]⟩) (λ_ R s=>s.heap.get? l=some { cls:=.type "tuple",dict:=dd,data:=.seq items n,slots:=sl }/\R (.ok (.ret (.ref l))) s):=
 .of_wp λprog w A R s h=>by obtain⟨hp,g,d,tk,os⟩:=s;obtain⟨hl,h⟩:=h;have f1:=AutoSeq1.idx_int;wp_walk using AutoSeq1.wpAny_loadPart' hl;rw[if_neg h1];wp_walk using AutoSeq1.wpAny_loadPart' hl;exact⟨_,rfl,h⟩
theorem uB(l:Addr)(items:Array Value)(n:Nat)(dd:Option Addr)(sl:Array (Option Value))(k:Int)(u:Tok)(h1:¬ (decide (k < -2 ^ 63) ||decide (k≥2 ^ 63))=true)(h3:¬ (items.isEmpty ||k==1)=true)(h4:(decide (k<=0) ||items.isEmpty)=true) :
  Meets (Builtin.«tuple.__mul__» ⟨[.ref l,.int k u],[]⟩) (λ_ R s=>s.heap.get? l=some { cls:=.type "tuple",dict:=dd,data:=.seq items n,slots:=sl }/\R (.ok (.ret (Value.ref s.heap.objs.size))) { s with heap:=s.heap.push { cls:=Value.type "tuple",data:=Data.seq #[]},toks:=s.toks }):=
 .of_wp λprog w A R s h=>by obtain⟨hp,g,d,tk,os⟩:=s;obtain⟨hl,h⟩:=h;have f1:=AutoSeq1.idx_int;wp_walk using AutoSeq1.wpAny_loadPart' hl;rw[if_neg h1];wp_walk using AutoSeq1.wpAny_loadPart' hl;exact⟨_,rfl,h⟩
theorem uC(l:Addr)(items:Array Value)(n:Nat)(dd:Option Addr)(sl:Array (Option Value))(k:Int)(u:Tok)(h1:¬ (decide (k < -2 ^ 63) ||decide (k≥2 ^ 63))=true)(h3:¬ (items.isEmpty ||k==1)=true)(h4:¬ (decide (k<=0) ||items.isEmpty)=true)
  (h5:¬ (items.size*k > (2 ^ 63 - 1) / 8)) (h6:¬ Builtin.Tuple.tupleTooMany (items.size*k)=true) (hsz:(List.foldl (λx1 x2=>x1++x2) #[] (List.replicate k.toNat items)).size<=sizeLine) :
  Meets (Builtin.«tuple.__mul__» ⟨[.ref l,.int k u],[]⟩) (λ_ R s=>s.heap.get? l=some { cls:=.type "tuple",dict:=dd,data:=.seq items n,slots:=sl }/\R (.ok (.ret (Value.ref s.heap.objs.size))) { s with heap:=s.heap.push { cls:=Value.type "tuple",data:=Data.seq (List.foldl (λx1 x2=>x1++x2) #[] (List.replicate k.toNat items))},toks:=s.toks }):=
 .of_wp λprog w A R s h=>by obtain⟨hp,g,d,tk,os⟩:=s;obtain⟨hl,h⟩:=h;have f1:=AutoSeq1.idx_int;wp_walk using AutoSeq1.wpAny_loadPart' hl;rw[if_neg h1];wp_walk using AutoSeq1.wpAny_loadPart' hl;rw[if_neg h5];wp_walk using AutoSeq1.wpAny_loadPart' hl;exact⟨_,rfl,h⟩
theorem o7:∀(k:Nat) (l acc:List Value),(List.replicate k l.toArray).foldl (·++·) acc.toArray=(acc++Ev.rep k l).toArray
 |0,l,acc=>by simp[Ev.rep]
 |k+1,l,acc=>by
  rw[List.replicate_succ,List.foldl_cons];have:acc.toArray++l.toArray=(acc++l).toArray:=by simp
  rw[this,o7 k l (acc++l)];simp[Ev.rep,List.replicate_succ]
theorem Cj{pins:List (Addr×Obj)}{σ:L2.St}{H:Hp}{s:Shared}{Q:VK}(I:Inv X pins σ H s){p:Addr}{vs:List V}{k:Int}{u:Tok}(hk:0<=k/\k<=1000/\vs.length<=1000)(hp:cH X.K H p vs)
  (q1:Ev.rep k.toNat vs=vs->Q (.ref p) H) (q2:∀p',H p'=none->Q (.ref p') (upd H p' (.tup (Ev.rep k.toNat vs)))) :
  wpAny (model X.prog X.w) X.A (binaryOp .Mult (.ref p) (.int k u)) (EP X pins σ Q) X.xe s:=by
 obtain⟨us,pv,pt,hz⟩:=I.tuple hp;obtain⟨⟨cls,dd,data,sl⟩,ho,hc,n,hd⟩:=id pt;simp only at hc hd;subst hc hd;have hl:=pv.length;have h1:¬ (decide (k < -2 ^ 63) ||decide (k≥2 ^ 63))=true:=by simp;omega
 refine wpAny_binaryOp_repeat_ref (T:="tuple") (U:="int") (by decide) ⟨_,ho,rfl⟩ (λs'=>typeIs_int s' k u) lP PySem.F.fills_int_mul PySem.F.slot_int_rmul qz PySem.F.slot_int_index.lookup
  (call_meets PySem.F.slot_int_rmul (typeIs_int s k u) PySem.F.entry_int_rmul (PySem.F.args_int_rmul_2 _ _) (uz k u p us.toArray n dd sl) ⟨ho,rfl,⟨_,ho,rfl⟩,?_⟩)
 have hrep:∀m:Nat,(Ev.rep m us).length=m*us.length:=λm=>kI m us;by_cases h3:(us.toArray.isEmpty ||k==1)=true
 .refine call_meets PySem.F.slot_tuple_mul ⟨_,ho,rfl⟩ PySem.F.entry_tuple_mul (PySem.F.args_tuple_mul_2 _ _) (uA p us.toArray n dd sl k u h1 h3) ⟨ho,?_⟩;refine⟨.ref p,H,I,rfl,q1 ?_⟩;rw[Bool.or_eq_true]at h3;rcases h3 with h3|h3
  .have:us=[]:=by simpa using h3
   subst this;cases pv;simp[Ev.rep]
  .have:k=1:=by simpa using h3
   subst this;simp[Ev.rep]
 .have laid:∀m:Nat,m=k.toNat->EP X pins σ Q (.ref s.heap.objs.size) { s with heap:=s.heap.push { cls:=.type "tuple",data:=.seq (Ev.rep m us).toArray }}:=λm hm=>by
   subst hm;refine⟨.ref s.heap.objs.size,_,I.laid (t':=s.toks) (o:=.tup (Ev.rep k.toNat vs)) (λb ob q=>Heap.get?_push_of_some _ q) (Nat.le_refl _) ?_,rfl,q2 _ (I.hok.fresh (Nat.le_refl _))⟩;exact⟨by rw[kI];exact iK (by omega) hk.2.2,_,pv.rep k.toNat,IsTup.new _ _⟩
  by_cases h4:(decide (k<=0) ||us.toArray.isEmpty)=true
  .refine call_meets PySem.F.slot_tuple_mul ⟨_,ho,rfl⟩ PySem.F.entry_tuple_mul (PySem.F.args_tuple_mul_2 _ _) (uB p us.toArray n dd sl k u h1 h3 h4) ⟨ho,?_⟩;have hk0:k=0:=by
    rw[Bool.or_eq_true]at h4 h3;rcases h4 with h4|h4
    .have:k<=0:=of_decide_eq_true h4;omega
    .exact absurd (.inl h4) h3
   have:=laid 0 (by rw[hk0];rfl);exact this
  .have hm:us.toArray.size*k.toNat<=1000000:=by
    rw[List.size_toArray];exact Nat.mul_le_mul (by omega:us.length<=1000) (by omega:k.toNat<=1000)
   have hm':(us.toArray.size:Int)*k<=1000000:=by
    have e:(us.toArray.size:Int)*k=((us.toArray.size*k.toNat:Nat):Int):=by
     rw[Int.natCast_mul,Int.toNat_of_nonneg hk.1]
    rw[e];omega
   have hf:List.foldl (λx1 x2=>x1++x2) #[] (List.replicate k.toNat us.toArray)=(Ev.rep k.toNat us).toArray:=by
    have:=o7 k.toNat us [];simpa using this
   refine call_meets PySem.F.slot_tuple_mul ⟨_,ho,rfl⟩ PySem.F.entry_tuple_mul (PySem.F.args_tuple_mul_2 _ _) (uC p us.toArray n dd sl k u h1 h3 h4 (by omega) ?_ ?_) ⟨ho,?_⟩
   .unfold Builtin.Tuple.tupleTooMany;simp only[decide_eq_true_eq];have:(sizeLine:Int)=16777216:=by rw[sizeLine_eq];rfl
    omega
   .rw[hf];simp only[List.size_toArray];rw[kI];exact iK (by omega) (by omega)
   .rw[hf];exact laid _ rfl
theorem E9:cI X (binaryOp .Mult) (gm X.K (Ev.bI .mul)):=by
 intro pins s σ H x y v u Q I rx ry q;obtain⟨r,h,a,b,d,h',hr,v1,v2,e,q⟩:=q;cases b with
 |int k=>
  have s2:=v2.shape;simp only[bC]at s2;subst s2;cases a with
  |int i=>
   delta Ev.bI at e;dsimp only at e
   split at e
   .rename_i hz;cases e;refine DQ pins s σ H x _ v u Q I rx ry ⟨i,k,v1,rfl,?_,q.here rfl hr⟩;unfold Ev.bL at hz;simp only[Bool.or_eq_true,Bool.and_eq_true,decide_eq_true_eq]at hz;exact hz
   .cases e
  |str l=>
   delta Ev.bI at e;dsimp only at e
   split at e
   .rename_i hz;cases e;simp only[RV]at v1;obtain⟨rfl,hl⟩:=v1;obtain⟨t,rfl⟩:=rx;obtain⟨t',rfl⟩:=ry;exact Ci I hz (q.here ⟨rfl,by rw[kI];exact iK (by omega) hz.2.2⟩ hr)
   .cases e
  |tup ds=>
   delta Ev.bI at e;dsimp only at e
   split at e
   .rename_i hz;cases e;obtain⟨p,vs,rfl,z,w⟩:=v1.shape;cases rx;obtain⟨t',rfl⟩:=ry;refine Cj I ⟨hz.1,hz.2.1,by rw[w.length];exact hz.2.2⟩ z (λMW=>q.here ⟨p,vs,rfl,z,?_⟩ hr) λp' hp=>q.tup (w.rep k.toNat) hr hp;have:=w.rep k.toNat;rw[MW]at this;exact this
   .cases e
  |ref i=>
   delta Ev.bI at e;dsimp only at e
   split at e
   .rename_i ds e1;split at e
    .rename_i hz;obtain⟨p,rfl,z⟩:=v1.shape;obtain⟨p',g1,vs,g2,g3⟩:=hr.ob _ _ e1;rw[z]at g1;cases g1;obtain⟨hz2,q2⟩:=q.lst e (g3.rep k.toNat) hr;exact D9 pins s σ H (.ref p) _ v u Q I rx ry ⟨p,k,vs,rfl,rfl,g2,by omega,by omega,iK (by rw[g3.length];exact hz.2.2) (by omega),q2⟩
    .cases e
   .cases e
  |_=>cases e
 |_=>cases a<;>cases e
end
end Sm
set_option maxRecDepth 100000
namespace Sm
open PySem PySem.Spec PyProof.Rows L2 PySem.SeqAt
open Ev (D O Hh Fr R ay E Es Eo T S Ss Fl Src aU aP TY BI ME)
section
variable{X:Cx}
theorem sR{K:PySem.W.Frag}{H:Hp}{r:List Addr}:∀{ds:List D}{ss:List (List Nat)}{vs:List V}{us:List Value},Ev.strsOf ds=some ss->aC K H r ds vs->Vals vs us->StrsAre us (ss.map aS)/\∀l∈ss,l.length<=sizeLine
 |[],bs,vs,us,e,w,p=>by
  cases e;simp only[aC]at w;subst w;cases p;exact⟨.nil,λl h=>nomatch h⟩
 |d :: ds,bs,vs,us,e,w,p=>by
  cases d with
  |str b=>
   simp only[Ev.strsOf,Option.map_eq_some_iff]at e;obtain⟨bs',e1,rfl⟩:=e;simp only[aC,RV]at w;obtain⟨v,w',rfl,⟨rfl,hb⟩,w2⟩:=w;cases p with
   |cons p1 p2=>
    obtain⟨t,rfl⟩:=p1;obtain⟨g1,g2⟩:=sR e1 w2 p2;refine⟨.cons _ _ g1,λl hl=>?_⟩;rcases List.mem_cons.mp hl with z|z
    .subst z;exact hb
    .exact g2 l z
  |_=>cases e
variable{G:Tb}{n:Nat}{sc:Scope}{N:List Str}{df:Bool}
theorem Fb:gD X (.builtin "len") (Ax X.K (Ev.dS .len)):=by
 intro pins s σ H xs us Q I r q;obtain⟨rr,h,as,d,h',hr,v1,e,q⟩:=q
 match as,e with
 |[.str l],e=>
  delta Ev.dS at e;dsimp only at e
  split at e
  .cases e;simp only[aC,RV]at v1;obtain⟨v,w,rfl,⟨rfl,hl⟩,rfl⟩:=v1;refine qg pins s σ H _ us Q I r ⟨_,rfl,by rw[bR];exact hl,?_⟩;rw[bR];exact q.here rfl hr
  .cases e
 |[.tup ds],e=>
  cases e;simp only[aC,RV]at v1;obtain⟨v,w,rfl,⟨p,vs,rfl,z,w'⟩,rfl⟩:=v1;refine jR pins s σ H _ us Q I r ⟨p,vs,rfl,.inr z,?_⟩;rw[w'.length];exact q.here rfl hr
 |[.ref m],e=>
  obtain⟨e,rfl⟩:=Ev.aE e;simp only[Option.map_eq_some_iff]at e;obtain⟨ds,e1,rfl⟩:=e;simp only[aC,RV]at v1;obtain⟨v,w,rfl,⟨p,rfl,z⟩,rfl⟩:=v1;obtain⟨p',vs,z',q1,w⟩:=hr.read e1;rw[z]at z';cases z';refine jR pins s σ H _ us Q I r ⟨p,vs,rfl,.inl q1,?_⟩;rw[w.length];exact q.here rfl hr
theorem wo:vI X "list.append" (vP X.K (Ev.dZ .append)):=by
 intro pins s σ H x xs v us Q I rx rs q;obtain⟨r,h,a,as,d,h',hr,v1,v2,e,q⟩:=q;cases a with
 |ref m=>
  match as,e with
  |[b],e=>
   delta Ev.dZ at e;dsimp only at e
   split at e
   .rename_i ds e1;split at e
    .rename_i hz;cases e;rw[iA]at hz;obtain⟨p,rfl,z⟩:=v1.shape;simp only[aC]at v2;obtain⟨y,w,rfl,v3,rfl⟩:=v2;obtain⟨p',g1,vs,g2,g3⟩:=hr.ob _ _ e1;rw[z]at g1;cases g1;refine oN pins s σ H _ _ v us Q I rx rs ⟨p,vs,y,rfl,rfl,g2,by rw[g3.length];exact hz,?_⟩;have f:=Fm.write (K:=X.K) (ws:=vs++[y]) g2 (List.mem_of_getElem? z);exact q _ _ r rfl (hr.write e1 z g2 (g3.append (.cons v3 .nil))) f
    .cases e
   .cases e
  |[],e=>cases e
  |_ :: _ :: _,e=>cases e
 |_=>cases e
theorem wu:vI X "list.extend" (vP X.K (Ev.dZ .extend)):=by
 intro pins s σ H x xs v us Q I rx rs q;obtain⟨r,h,a,as,d,h',hr,v1,v2,e,q⟩:=q;cases a with
 |ref m=>
  match as,e with
  |[.ref k],e=>
   delta Ev.dZ at e;dsimp only at e
   split at e
   .rename_i ds es e1 e2;split at e
    .rename_i hz;cases e;rw[iA]at hz;obtain⟨p,rfl,z⟩:=v1.shape;simp only[aC,RV]at v2;obtain⟨y,w,rfl,⟨p2,rfl,z2⟩,rfl⟩:=v2;obtain⟨p',g1,vs,g2,g3⟩:=hr.ob _ _ e1;rw[z]at g1;cases g1;obtain⟨p'',k1,ws,k2,k3⟩:=hr.ob _ _ e2;rw[z2]at k1;cases k1;refine vJ pins s σ H _ _ v us Q I rx rs ⟨p,p2,vs,ws,rfl,rfl,g2,k2,by rw[g3.length,k3.length];exact hz,?_⟩;have f:=Fm.write (K:=X.K) (ws:=vs++ws) g2 (List.mem_of_getElem? z);exact q _ _ r rfl (hr.write e1 z g2 (g3.append k3)) f
    .cases e
   .cases e
 |_=>cases e
theorem lQ(sep:List Nat):∀ss:List (List Nat),Str.join (aS sep) (ss.map aS)=aS (Ev.bO sep ss)
 |[]=>rfl
 |[s]=>rfl
 |s :: t :: r=>by
  have ih:=lQ sep (t :: r);show aS s++aS sep++Str.join (aS sep) ((t :: r).map aS)=_;rw[ih,nQ,nQ];rfl
theorem join_eq(sep:List Nat)(ss:List (List Nat)):Txt.join (aS sep) (ss.map aS)=aS (Ev.bO sep ss):=by
 rw[<-lQ];exact PySem.StrLaws.glued_eq_join _ _
theorem Ck:vI X "str.join" (vP X.K (Ev.dZ .join)):=by
 intro pins s σ H x xs v us Q I rx rs q;obtain⟨r,h,a,as,d,h',hr,v1,v2,e,q⟩:=q;cases a with
 |str sep=>
  match as,e with
  |[.ref k],e=>
   delta Ev.dZ at e;dsimp only at e
   split at e
   .rename_i ss e1;split at e
    .rename_i hz;cases e;simp only[Option.bind_eq_some_iff]at e1;obtain⟨ds,e1,e2⟩:=e1;simp only[RV]at v1;obtain⟨rfl,hl⟩:=v1;obtain⟨t,rfl⟩:=rx;simp only[aC,RV]at v2;obtain⟨y,w,rfl,⟨p2,rfl,z2⟩,rfl⟩:=v2;obtain⟨u,rfl,ru⟩:=vals1 rs;cases ru;obtain⟨p',vs,z',q1,w⟩:=hr.read e1;rw[z2]at z';cases z';obtain⟨zs,pv,pl,_⟩:=I.list q1;obtain⟨g1,g2⟩:=sR e2 w pv;have hlen:((ss.map aS).map (·.length)).sum+(ss.map aS).length*(aS sep).length<=16777216:=by
      rw[List.map_map,List.length_map,bR];have:(λx:Str=>x.length) ∘ aS=λl:List Nat=>l.length:=funext λl=>bR l;rw[this];exact hz
     refine join_list pl.isList g1 hlen λt' k'=>?_;rw[join_eq];refine⟨.str _,H,I.tok _,⟨_,rfl⟩,q.here ⟨rfl,?_⟩ hr⟩;have hj:=PySem.StrLaws.join_length_le (aS sep) (ss.map aS);rw[lQ,bR]at hj;have:sizeLine=16777216:=sizeLine_eq;omega
    .cases e
   .cases e
 |_=>cases e
end
end Sm
set_option maxRecDepth 100000
namespace Sm
open PySem PySem.Spec PyProof.Rows L2 PySem.SeqAt
open Ev (D O Hh Fr R ay E Es Eo T S Ss Fl Src aU aP TY BI ME)
section
variable{X:Cx}{G:Tb}{n:Nat}{sc:Scope}{N:List Str}{df:Bool}{m:List Nat}{a b c:E}{xa xb xc tg:Expr}{pos:Pos}
noncomputable def lu:TY->String
 |.int=>"int" |.bool=>"bool" |.str=>"str" |.tuple=>"tuple" |.list=>"list"
theorem Ll (K:PySem.W.Frag) (t:TY):PySem.W.kitOne K (.type "NoneType") (.type (lu t))=some false/\PySem.W.kitOne K (.type "bool") (.type (lu t))=some (Ev.cz [] (.bl true) t)/\PySem.W.kitOne K (.type "int") (.type (lu t))=some (Ev.cz [] (.int 0) t)/\
  PySem.W.kitOne K (.type "str") (.type (lu t))=some (Ev.cz [] (.str []) t)/\PySem.W.kitOne K (.type "tuple") (.type (lu t))=some (Ev.cz [] (.tup []) t)/\PySem.W.kitOne K (.type "list") (.type (lu t))=some (match t with|.list=>true|_=>false):=by
 cases t<;>refine⟨?_,?_,?_,?_,?_,?_⟩<;>kernel_rfl
noncomputable def LD(h:Hh)(i:Nat):Prop:=(Ev.aH h i).isSome=true
 \/False
theorem Cm{pins:List (Addr×Obj)}{σ:L2.St}{H:Hp}{s:Shared}{r:List Addr}{h:Hh}(I:Inv X pins σ H s)(hr:HR X.K H r h){d:D}{x:V}{u:Value}(v1:RV X.K H r d x)(rx:RelV x u)(hd:∀i,d=.ref i->LD h i)(t:TY){Q:Value->Shared->Prop}{E:Value->Shared->Prop}(q:∀tk,Q (.bool (Ev.cz h d t)) { s with toks:=tk }) :
  wpAny (model X.prog X.w) X.A (call (.builtin "isinstance") [u,.type (lu t)]) Q E s:=by
 obtain⟨k0,k1,k2,k3,k4,k5⟩:=Ll X.K t;have s1:=v1.shape;cases d with
 |az=>simp only[bC]at s1;subst s1;exact iJ I rx .az k0 (by simpa[Ev.cz]using q)
 |bl b=>simp only[bC]at s1;subst s1;exact iJ I rx (.bl _) k1 (by cases t<;>simpa[Ev.cz]using q)
 |int b=>simp only[bC]at s1;subst s1;exact iJ I rx (.int _) k2 (by cases t<;>simpa[Ev.cz]using q)
 |str b=>simp only[bC]at s1;subst s1;exact iJ I rx (.str _) k3 (by cases t<;>simpa[Ev.cz]using q)
 |tup ds=>
  obtain⟨p,vs,rfl,z,w⟩:=s1;cases rx;obtain⟨us,_,pt,_⟩:=I.tuple z;obtain⟨o,h1,h2,_⟩:=pt;exact PySem.W.kia_one PySem.W.kitx_tuple I.dj ⟨o,h1,h2⟩ k4 (λz=>nomatch z) (by cases t<;>simpa[Ev.cz]using q)
 |ref i=>
  obtain⟨p,rfl,z⟩:=s1;cases rx;rcases hd i rfl with hd|hd
  case inr=>
   exact hd.elim
  obtain⟨ds,e1⟩:=Option.isSome_iff_exists.mp hd;obtain⟨us,pl⟩:=qx I hr e1 z;obtain⟨o,h1,h2,_⟩:=pl.isList;exact PySem.W.kia_one PySem.W.kitx_list I.dj ⟨o,h1,h2⟩ k5 (λz=>nomatch z) (by cases t<;>simpa[Ev.cz,e1]using q)
theorem Fc {t:TY}{T:Str}{p q:Pos}(ha:JE G n sc N df m a xa) (hT:bootBuiltins T=some (.type (lu t))) (h1:("isinstance" : Str)∈G.bl:=by decide +kernel) (h2:T∈G.bl:=by decide +kernel)
  (Fd:sc.names.lookup ("isinstance" : Str)=some .globalImplicit:=by rfl) (MX:sc.names.lookup T=some .globalImplicit:=by rfl) (hn:T≠"__name__" :=by decide) (hd:(T==("__debug__" : Str))=false:=by decide)
  (hst:∀env:Env,starEach [xa,.Name T q] env=(false,eval xa env) :: starEach [.Name T q] env:=by intro _;rfl):JE G n sc N df m (.eX a [t]) (.Call (.Name "isinstance" p) [xa,.Name T q] [] pos):=λX g=>by
 have hty:PE X (.Name T q) (tC (.ty (lu t))):=rY (g.gl MX) (g.bl T h2) hT rfl hn hd;have hc:gD X (.builtin "isinstance") (λxs H Q=>∃r h d x,HR X.K H r h/\RV X.K H r d x/\xs=[x,.ty (lu t)]/\(∀i,d=.ref i->LD h i)/\Q (.bl (Ev.cz h d t)) H):=by
  intro pins s σ H xs us Q I rv q;obtain⟨r,h,d,x,hr,v1,rfl,hd,q⟩:=q;obtain⟨u,w,rfl,r1,r2⟩:=vals2 rv;cases r2;exact Cm I hr v1 r1 hd t λtk=>⟨.bl _,H,I.tok _,rfl,q⟩
 refine PE.of (lI hc (g.gl Fd) (g.bl _ h1) (by decide +kernel) (cU (ha X g) (cU hty iu) (hst _)) (by decide) (by decide) (hst _) rfl) λs H Q q=>?_;obtain⟨r,fr,h,d,h',sr,hr,e,q⟩:=q;simp only[Ev.ev]at e;obtain⟨x,h3,e1,e⟩:=Ev.ah e;cases e;refine⟨r,fr,h,x,_,sr,hr,e1,λv H1 r1 v1 hr1 f1=>?_⟩;refine⟨r1,_,x,v,hr1,v1,rfl,λi hi=>?_,?_⟩
 .subst hi;simp only[RV]at v1;obtain⟨p,_,z⟩:=v1;have hlt:i<h'.length:=by rw[<-hr1.len];exact(List.getElem?_eq_some_iff.mp z).1
  unfold LD Ev.aH;rw[List.getElem?_eq_getElem hlt];cases h'[i]with
  |lst ds=>exact .inl rfl
  |bq ds=>exact .inl rfl
 .have:=(q.later f1).here (v:=.bl (Ev.cz h' x t)) (by simp[RV]) hr1;exact this
end
end Sm
set_option maxRecDepth 100000
namespace Sm
open PySem PySem.Spec PyProof.Rows L2 PySem.SeqAt
open Ev (D O Hh Fr R ay E Es Eo T S Ss Fl Src aU aP TY BI ME)
section
variable{X:Cx}{G:Tb}{n:Nat}{sc:Scope}{N:List Str}{df:Bool}{m:List Nat}{a b c:E}{xa xb xc tg:Expr}{pos:Pos}
end
end Sm
set_option maxRecDepth 100000
namespace Sm
open PySem PySem.Spec PyProof.Rows L2 PySem.SeqAt
open Ev (D O Hh Fr R ay E Es Eo T S Ss Fl Src aU aP TY BI ME)
section
variable{G:Tb}{n:Nat}{sc:Scope}{N:List Str}{df:Bool}{m:List Nat}{a b c:E}{xa xb xc tg:Expr}{pos:Pos}
theorem yG (g:Good G n sc N df X):gD X (.type "tuple") (λxs H Q=>∃r h d x d' h',HR X.K H r h/\RV X.K H r d x/\xs=[x]/\Ev.nI d h=.ok d' h'/\Res X.K r H h' d' Q):=by
 intro pins s σ H xs us Q I rv q;obtain⟨r,h,d,x,d',h',hr,v1,rfl,e,q⟩:=q;cases d with
 |tup ds=>
  cases e;have v2:=v1;obtain⟨p,vs,rfl,z,w⟩:=v1.shape;exact jE pins s σ H _ us Q I rv ⟨p,vs,rfl,.inr ⟨z,q.here v2 hr⟩⟩
 |ref i=>
  simp only[Ev.nI]at e;split at e
  .rename_i ds e1;split at e
   .cases e;obtain⟨p,rfl,z⟩:=v1.shape;obtain⟨p',vs,z',q1,w⟩:=hr.read e1;rw[z]at z';cases z';exact jE pins s σ H _ us Q I rv ⟨p,vs,rfl,.inl ⟨q1,λl hl=>q.tup w hr hl⟩⟩
   .cases e
  .cases e
 |_=>cases e
theorem Fe {p:Pos}(ha:JE G n sc N df m a xa) (h1:("tuple" : Str)∈G.bl:=by decide +kernel) (Fd:sc.names.lookup ("tuple" : Str)=some .globalImplicit:=by rfl)
  (hst:∀env:Env,starEach [xa] env=[(false,eval xa env)]:=by intro _;rfl):JE G n sc N df m (.gG a) (.Call (.Name "tuple" p) [xa] [] pos):=λX g=>by
 refine PE.of (vH (yG g) (g.gl Fd) (g.bl _ h1) (by decide +kernel) (cU (ha X g) iu (hst _)) (by decide) (by decide) (hst _) rfl) λs H Q q=>?_;obtain⟨r,fr,h,d,h',sr,hr,e,q⟩:=q;simp only[Ev.ev]at e;obtain⟨x,h3,e1,e⟩:=Ev.ah e;refine⟨r,fr,h,x,_,sr,hr,e1,λv H1 r1 v1 hr1 f1=>?_⟩;exact⟨r1,h3,x,v,d,h',hr1,v1,rfl,e,q.later f1⟩
theorem Ff{c:Nat}{st:Stmt}:JS G n sc N df m (.cX c) st:=λX g=>PS.of yc λQ s H q=>by
 obtain⟨r,fr,h,fl,ai,h',sr,hr,e,q⟩:=q;simp only[Ev.ex]at e;cases e
end
section
variable{prog:Program}{w:World}{A:Around}{E:Value->Shared->Prop}{s:Shared}
end
end Sm
set_option maxRecDepth 100000
namespace Sm
open PySem PySem.Spec PyProof.Rows L2 PySem.SeqAt
open Ev (D O Hh Fr R ay E Es Eo T S Ss Fl Src aU aP TY BI ME)
section
variable{G:Tb}{n:Nat}{sc:Scope}{N:List Str}{df:Bool}{m:List Nat}{a b c:E}{xa xb xc:Expr}{pos:Pos}
end
end Sm
set_option maxRecDepth 100000
namespace Sm
open PySem PySem.Spec PyProof.Rows L2 PySem.SeqAt
open Ev (D O Hh Fr R ay E Es Eo T S Ss Fl Src aU aP TY BI ME)
section
variable{G:Tb}{n:Nat}{sc:Scope}{N:List Str}{df:Bool}{m:List Nat}{a b c:E}{xa xb xc:Expr}{pos:Pos}
end
end Sm
set_option maxRecDepth 100000
namespace Sm
open PySem PySem.Spec PyProof.Rows L2 PySem.SeqAt
open Ev (D O Hh Fr R ay E Es Eo T S Ss Fl Src aU aP TY BI ME)
section
variable{X:Cx}{G:Tb}{n:Nat}{sc:Scope}{N:List Str}{df:Bool}{m:List Nat}{a b c:E}{xa xb xc xd tg:Expr}{pos:Pos}
end
end Sm
set_option maxRecDepth 100000
namespace Rv
open PySem PyProof.Rows
section
variable{prog:Program}{w:World}{A:Around}{E:Value->Shared->Prop}{s:Shared}
end
end Rv
namespace Sm
open PySem PySem.Spec PyProof.Rows L2 PySem.SeqAt
open Ev (D O Hh Fr R ay E Es Eo T S Ss Fl Src aU aP TY BI ME)
section
variable{X:Cx}{G:Tb}{n:Nat}{sc:Scope}{N:List Str}{df:Bool}{m:List Nat}{a b c:E}{xa xb xc tg:Expr}{pos:Pos}
end
end Sm
set_option maxRecDepth 100000
set_option maxRecDepth 100000
namespace Sm
open PySem PySem.Spec PyProof.Rows L2 PySem.SeqAt
open Ev (D O Hh Fr R ay E Es Eo T S Ss Fl Src aU aP TY BI ME)
end Sm
set_option maxRecDepth 100000
namespace Sm
open PySem PySem.Spec PyProof.Rows L2 PySem.SeqAt
open Ev (D O Hh Fr R ay E Es Eo T S Ss Fl Src aU aP TY BI ME)
end Sm
set_option maxRecDepth 100000
namespace Sm
open PySem PySem.Spec PyProof.Rows L2 PySem.SeqAt
open Ev (D O Hh Fr R ay E Es Eo T S Ss Fl Src aU aP TY BI ME)
section
variable{G:Tb}{n:Nat}{sc:Scope}{N:List Str}{df:Bool}{m:List Nat}{a b c:E}{xa xb xc:Expr}{pos:Pos}
end
end Sm
set_option maxRecDepth 100000
namespace Sm
open PySem PySem.Spec PyProof.Rows L2 PySem.SeqAt
open Ev (D O Hh Fr R ay E Es Eo T S Ss Fl Src aU aP TY BI ME)
theorem aC.ofInts{K:PySem.W.Frag}{H:Hp}{r:List Addr}:∀ns:List Int,aC K H r (ns.map D.int) (ns.map V.int)
 |[]=>.nil
 |_ :: l=>.cons rfl (aC.ofInts l)
theorem Fi{K:PySem.W.Frag}{H:Hp}{a:Addr}{vs:List V}(hO:nH H)(hS:dI K H a vs):uo K H a vs:=by
 rcases hS with h|h
 .rcases h with h|⟨o,h⟩
  .rcases hO a with q|⟨o,xs,q⟩
   .rw[q]at h;cases h
   .rw[q]at h;cases h
  .exact .inl ⟨o,h⟩
 .exact .inr h
theorem IA{K:PySem.W.Frag}{F:List Ev.Fn}{w n f:Nat}{H:Hp}{a:Addr}{ns:List Int}(hO:nH H)(hS:dI K H a (ns.map V.int)){h':Hh}(e:Ev.run F w n f [.ref 0] [.bq (ns.map D.int)]=.ok (.bl true) h') :
  jH K F w n f [.ref a] H (λv _=>v=.bl true) λ_ _ _=>False:=by
 refine⟨[a],[.bq (ns.map D.int)],[.ref 0],.bl true,h',.cons (show RV K H [a] (.ref 0) (.ref a)from ⟨a,rfl,rfl⟩) .nil,⟨rfl,λk o hk=>?_,λk l b x y _ _ hk _=>?_
  ⟩,e,λv H' r' v1 _ _=>v1⟩
 .cases k with
  |zero=>
   simp at hk;subst hk;exact⟨a,rfl,_,Fi hO hS,aC.ofInts ns⟩
  |succ k=>simp at hk
 .cases k with
  |zero=>simp at hk
  |succ k=>simp at hk
theorem Cn{F:List Ev.Fn}{wh n f:Nat}{l:PySem.W.OpenLaw}{q:Program}{loose:List Str}{XP:(Str->Option Value)->Heap->Prop}{YP:World->Heap->Prop}{d:DefRec}{K:Params->PySem.W.Frag}{x:Str}(hn:l.most=some 63)(hdf:d.params.defaults=[])(hr:eT n callerA)
  (hY:∀(w:World) (h:Heap),YP w h->(K w.params).In h) (good:∀ns:List Int,ns.length<=63->∃h',Ev.run F wh n f [.ref 0] [.bq (ns.map D.int)]=.ok (.bl true) h')
  (Fo:∀(w:World) (mg:Str->Option Value) (fa:Addr) (h:Heap),(K w.params).In h->h.Ns mainGlobals mg->mg d.name=some (.ref fa)->
   ∃fd:FuncData,(∀(s:Shared) (u:Value),BindsTo s fd ⟨[u],[]⟩ [(x,u)])/\∀base:Heap,(K w.params).In base->base.Ns mainGlobals mg->dz l.prog w (K w.params) mg base gU n fa fd [x] (jH (K w.params) F wh n f)) :
  PySem.W.WalkO q loose XP YP l.row.toRowW d [] (λf vs=>PySem.call f vs):=
 L2.yq (n:=63) (k:=n) (x:=x) (CX:=gU) (sp:=λK=>jH K F wh n f) hn (by decide) hdf hr hY Fo (λK H a ns hl hO hS=>by
  obtain⟨h',e⟩:=good ns hl;exact IA hO hS e) λ_ _ _ _ z=>z
structure At(K:PySem.W.Frag)(x:Str)(st:Stmt)(i:FI):Prop where
 name:i.name=x
 ns:PySem.W.nsIn K mainGlobals x=some (some (.ref i.addr))
 fu:jF K x x st i.addr i.fd
 bd:Binds K i.fd i.ps []
end Sm
set_option maxRecDepth 100000
namespace Sm
open PySem PySem.Spec PyProof.Rows L2
open Ev (D O Hh Fr R ay E Es Eo It T S Ss Fl Src aU aP TY BI ME)
section
variable{G:Tb}{n:Nat}{sc:Scope}{N:List Str}{df:Bool}{m:List Nat}{a b c:E}{xa xb xc:Expr}{pos:Pos}
noncomputable def hasB(N:List Str)(m:List Nat)(x:Str)(i:Nat):Bool:=(List.range N.length).any λj=>m[j]?==some i&&N[j]?==some x
theorem hasB.of{x:Str}{i:Nat}(h:hasB N m x i=true):∃j:Nat,m[j]?=some i/\N[j]?=some x:=by
 obtain⟨j,_,q⟩:=List.any_eq_true.mp h;rw[Bool.and_eq_true]at q;exact⟨j,by simpa using q.1,by simpa using q.2⟩
noncomputable def vB (sc:Scope) (N:List Str) (m:List Nat) (x:Str) (i:Nat):Bool:=hasB N m x i&&(sc.names.lookup x==some .local ||sc.names.lookup x==some .cell ||sc.names.lookup x==some .free)&&!(x==("__debug__" : Str))&&!(x==("__classdict__" : Str))
theorem jv{x:Str}{i:Nat}(h:vB sc N m x i=true):JE G n sc N df m (.v i) (.Name x pos):=by
 unfold vB at h;simp only[Bool.and_eq_true,Bool.not_eq_true',Bool.or_eq_true]at h;obtain⟨⟨⟨h1,h2⟩,h3⟩,h4⟩:=h;obtain⟨j,e1,e2⟩:=hasB.of h1;exact La j i e1 e2 (by rcases h2 with (h2|h2)|h2;exact .inl (by simpa using h2);exact .inr (.inl (by simpa using h2));exact .inr (.inr (by simpa using h2))) h3 h4
noncomputable def gB(sc:Scope)(N:List Str)(df:Bool)(m:List Nat)(x:Str)(i:Nat):Bool:=hasB N m x i&&(sc.names.lookup x==some .local || (df&&sc.names.lookup x==some .cell))&&decide m.Nodup&&decide N.Nodup
theorem gB.of{x:Str}{i:Nat}(h:gB sc N df m x i=true):∃j:Nat,m[j]?=some i/\N[j]?=some x/\(sc.names.lookup x=some .local\/(df=true/\sc.names.lookup x=some .cell))/\m.Nodup/\N.Nodup:=by
 unfold gB at h;simp only[Bool.and_eq_true,Bool.or_eq_true]at h;obtain⟨⟨⟨h1,h2⟩,h3⟩,h4⟩:=h;obtain⟨j,e1,e2⟩:=hasB.of h1;exact⟨j,e1,e2,by rcases h2 with h2|⟨h2,h5⟩;exact .inl (by simpa using h2);exact .inr ⟨h2,by simpa using h5⟩,of_decide_eq_true h3,of_decide_eq_true h4⟩
theorem MY{x:Str}{i:Nat}(h:gB sc N df m x i=true):JG G n sc N df m (.one i) (.Name x pos):=by
 obtain⟨j,e1,e2,e3,e4,e5⟩:=gB.of h;exact EH j i e4 e5 e1 e2 e3
theorem MZ{x:Str}{i:Nat}{l:List Nat}{xs:List Expr}(h:gB sc N df m x i=true)(hs:oS G n sc N df m l xs):oS G n sc N df m (i :: l) (.Name x pos :: xs):=by
 obtain⟨j,e1,e2,e3,e4,e5⟩:=gB.of h;exact yw j i e4 e5 hs e1 e2 e3
theorem Lm{i:Nat}{x:Str}{pos':Pos}(h:gB sc N df m x i=true)(ha:JE G n sc N df m a xa)(hs:∀env:Env,swapsWith xa (some (.Name x pos')) pos.line env=pure false:=by intro _;rfl):JS G n sc N df m (.set i a) (.Assign [.Name x pos'] xa pos):=by
 obtain⟨j,e1,e2,e3,e4,e5⟩:=gB.of h;exact EJ j i e4 e5 ha hs e1 e2 e3
noncomputable def qA (sc:Scope) (x:Str):Bool:=sc.names.lookup x==some .globalImplicit&&!(x==("__debug__" : Str))
theorem J5{f:Nat}{i:FI}{es:Es}{x:Str}{e0:Expr}{xs:List Expr}{p:Pos}(h:qA sc x=true)(hf:G.fi[f]?=some i)(hx:i.name=x)(hs:JA G n sc N df m es (e0 :: xs))
  (hst:∀env:Env,starEach (e0 :: xs) env=(false,eval e0 env) :: starEach xs env:=by intro _;rfl) (hpl:∀env:Env,(backTo pos (starEach xs env)).any (·.1)=false:=by intro _;rfl) :
  JE G n sc N df m (.cl f es) (.Call (.Name x p) (e0 :: xs) [] pos):=by
 subst hx;unfold qA at h;simp only[Bool.and_eq_true,Bool.not_eq_true']at h;exact Ip hf hs (by simpa using h.1) h.2 hst hpl
noncomputable def M4:Expr->List Str
 |.Name x _=>[x]
 |.Tuple xs _ _=>xs.filterMap λy=>match y with|.Name x _=>some x|_=>none
 |_=>[]
noncomputable def J6(N:List Str)(m:List Nat)(scope:Scope):List (Str×Nat):=(N.zip m).filter λp=>scope.names.contains (p.1,NameKind.free)
noncomputable def cN(N:List Str)(m:List Nat)(scope:Scope)(tg:Expr):List Str:=M4 tg++(J6 N m scope).map (·.1)
noncomputable def cM(N:List Str)(m:List Nat)(scope:Scope)(t:T):List Nat:=Ev.slots t++(J6 N m scope).map (·.2)
theorem IB{elt:E}{t:T}{it:Ev.It}{cond:Eo}{tg xi xe:Expr}{ifs:List Expr}{scope:Scope}(hn:qs sc N m scope t (cN N m scope tg) (cM N m scope t)=true)(hs:EN sc scope=true)
  (hi:JI G n sc N df m it tg xi) (hg:JG G n (fV sc scope) (cN N m scope tg) false (cM N m scope t) t tg) (hc:JC G n (fV sc scope) (cN N m scope tg) false (cM N m scope t) cond ifs)
  (he:JE G n (fV sc scope) (cN N m scope tg) false (cM N m scope t) elt xe) (hf:∀(env:Env) x,foldedSetIterable xi env x=pure x:=by intro _ _;rfl):JE G n sc N df m (.comp elt t it cond) (.ListComp xe [⟨tg,xi,ifs,0⟩] scope pos):=
 B9 hi hg hc he (namesOk.of hn) (j3.of hs) hf
theorem Ln{rest:List Expr}(ha:JT G n sc N df m a xa)(hb:JW G n sc N df m b (.BoolOp .And (xb :: rest) pos)):JT G n sc N df m (.an a b) (.BoolOp .And (xa :: xb :: rest) pos):=Et (Ay ha hb)
theorem Lo{rest:List Expr}(ha:JT G n sc N df m a xa)(hb:JW G n sc N df m b (.BoolOp .Or (xb :: rest) pos)):JT G n sc N df m (.orr a b) (.BoolOp .Or (xa :: xb :: rest) pos):=Et (vQ ha hb)
noncomputable def allB(G:Tb)(n:Nat):List (Ss×Stmt×List Str)->Prop
 |[]=>True
 |p :: r=>j0 G n (au p.2.1) p.2.2 true (List.range p.2.2.length) p.1 (cJ p.2.1)/\allB G n r
theorem allB.get:∀{l:List (Ss×Stmt×List Str)}{k:Nat}{p:Ss×Stmt×List Str},allB G n l->l[k]?=some p->j0 G n (au p.2.1) p.2.2 true (List.range p.2.2.length) p.1 (cJ p.2.1)
 |[],_,_,_,e=>nomatch e
 |_ :: _,0,_,h,e=>by cases e;exact h.1
 |_ :: r,k+1,p,h,e=>allB.get (l:=r) (k:=k) h.2 (by simpa using e)
end
end Sm
set_option maxRecDepth 100000
namespace Sm
open PySem PySem.Spec PyProof.Rows L2 PySem.W
noncomputable def XI(h:Heap)(x C:Addr):Prop:=∃ox:Obj,h.get? x=some ox/\ox.cls=.ref C/\∃vs,ox.data=.fields vs
structure XC(K:PySem.W.Frag)(C:Addr):Prop where
 ob:∃nm q N bs bm hdct sn sub ab col dd k0 k1 k2 k3 k5 newId,K.lookup C=some (excClassObj nm q C N bs bm hdct sn sub ab col dd k0 k1 k2 k3 k5 newId)/\∀h:Heap,K.In h->OwnTailQ h [.type "ValueError",.type "Exception",.type "BaseException",.type "object"] bm
 ga:findIn K (.ref C) "__getattribute__" = some (some (.builtin "BaseException.__getattribute__"))
 gh:findIn K (.ref C) "__getattr__" = some none
 cl:findIn K (.ref C) "__class__" = some (some (.builtin "object.__class__"))
 so:subIn K (.ref C) (.type "object")=some true
 me:kitCls K (.ref C) (.ref C)=some true
section
variable{prog:Program}{w:World}{A:Around}{E:Value->Shared->Prop}{s:Shared}{K:PySem.W.Frag}{x C:Addr}
theorem kJ{M:Model}{h:Heap}(i:XI h x C):Looks M h (typeOf (.ref x)) (.ref C):=λA Q E s k q=>by
 obtain⟨ox,h1,h2,_⟩:=i;exact wpAny_typeOf_ref (k _ _ h1) (by rw[h2];exact q)
theorem Fj {R:Result->Shared->Prop}{tp:Value}(bW:K.In s.heap) (i:XI s.heap x C) (so:subIn K (.ref C) (.type "object")=some true) (h:R (.ok (.ret (.ref C))) s) :
  codeAny (model prog w) A (.call (.builtin "getset_descriptor.__get__") ⟨[.builtin "object.__class__",.ref x,tp],[]⟩) R s:=by
 refine codeAny_call_builtin (by decide +kernel) KF.entry_gs (KF.slot_gs.check _ _ _ _ _ _ _ _ KF.type_class (KF.args_gs _ _ _) ?_);unfold Builtin.«getset_descriptor.__get__» Builtin.Getset_descriptor.descrGet;rw[dga_obj];show wpAny _ _ (do Builtin.Getset_descriptor.descrCheckInstance (.builtin "object.__class__") (.ref x);again _) _ _ _;refine wpAny_bind ?_;unfold Builtin.Getset_descriptor.descrCheckInstance;have e1:Builtin.Getset_descriptor.descrNameAndClass (.builtin "object.__class__")=pure (("__class__" : Str),Value.type "object"):=by kernel_rfl
 rw[e1];show wpAny _ _ (do let b <-isInstance (.ref x) (.type "object");_) _ _ _;refine wpAny_bind ?_;unfold isInstance;refine wpAny_bind (kJ i _ _ _ _ (λ_ _ e=>e) ?_);refine looks_subIn bW so _ _ _ _ (λ_ _ e=>e) ?_;refine wpAny_pure ?_;refine wpAny_pure ⟨by kernel_rfl,?_⟩;refine codeAny_builtin KF.entry_class ?_;show wpAny _ _ (do let t <-shownTypeOf (.ref x);ret t) _ _ _;refine wpAny_bind ?_;unfold shownTypeOf;refine wpAny_bind (kJ i _ _ _ _ (λ_ _ e=>e) ?_);refine wpAny_pure ?_;exact wpAny_pure h
theorem Co {M:Model}{h:Heap}(bW:K.In h) (cl:findIn K (.ref C) "__class__" = some (some (.builtin "object.__class__"))):Looks M h (Builtin.ObjectAttr.find (.ref x) (.ref C) "__class__") (.bind (.builtin "getset_descriptor.__get__") (.builtin "object.__class__")):=λA Q E s k q=>by
 unfold Builtin.ObjectAttr.find;refine wpAny_bind (looks_findIn bW cl _ _ _ _ k ?_);refine wpAny_bind ?_;show wpAny _ _ (specialOf _ _) _ _ _;unfold specialOf;rw[KF.type_class];show wpAny _ _ (typeLookup (.type "getset_descriptor") _) _ _ _;refine looks_findIn bW (K:=K) (t:=.type "getset_descriptor") (r:=some (.builtin "getset_descriptor.__get__")) (by kernel_rfl) _ _ _ _ k ?_;refine wpAny_bind ?_;show wpAny _ _ (do let b <-Builtin.ObjectAttr.takesStores _;_) _ _ _;refine wpAny_bind ?_;unfold Builtin.ObjectAttr.takesStores;refine wpAny_bind ?_;unfold specialOf;rw[KF.type_class];show wpAny _ _ (typeLookup (.type "getset_descriptor") _) _ _ _;refine looks_findIn bW (K:=K) (t:=.type "getset_descriptor") (r:=some (.builtin "getset_descriptor.__set__")) (by kernel_rfl) _ _ _ _ k ?_;refine wpAny_pure ?_;refine wpAny_pure ?_;exact wpAny_bind (wpAny_rule (wpAny_pure q))
theorem yH {Q:Option Value->Shared->Prop}(c:XC K C) (bW:K.In s.heap) (i:XI s.heap x C) (h:Q (some (.ref C)) { s with toks:=s.toks+1 }):wpAny (model prog w) A (getAttr? (.ref x) "__class__") Q E s:=by
 obtain⟨⟨nm,q,N,bs,bm,hdct,sn,sub,ab,col,dd,k0,k1,k2,k3,k5,newId,lk,ht⟩,ga,gh,cl,so,me⟩:=c;obtain⟨ox,i1,i2,_⟩:=id i;unfold getAttr?;refine wpAny_bind (wpAny_mkText ?_);unfold getAttrBy?;refine wpAny_bind (wpAny_attempt ?_);unfold getAttrBy;refine wpAny_holding (wpAny_bind (kJ i _ _ _ _ (λ_ _ e=>e) ?_));refine wpAny_bind (looks_findIn bW ga _ _ _ _ (λ_ _ e=>e) ?_);show wpAny _ _ (getAttrByItsOwn _ _ _ _ _ _) _ _ _;unfold getAttrByItsOwn;refine wpAny_bind (looks_hook bW (mc:=.ref C) (r:=none) gh _ _ _ _ (λ_ _ e=>e) ?_);refine wpAny_bind (wpAny_attempt (wpAny_holding ?_));show wpAny _ _ (boundAndCalled _ _ _) _ _ _;unfold boundAndCalled;rw[PySem.F.attrBase_ValueError.ga.bind];show wpAny _ _ (call (.builtin "BaseException.__getattribute__") [.ref x,.str "__class__" s.toks]) _ _ _;refine wpAny_call (codeAny_call_builtin (by decide +kernel) PySem.F.entry_bexc_ga (wpAny_check_ga_own PySem.F.attrBase_ValueError (bW _ _ lk) (ht _ bW) i1 i2 ?_));unfold Builtin.«object.__getattribute__»;have e1:slotArgs "__getattribute__" 1 ⟨[.ref x,.str "__class__" s.toks],[]⟩=pure (Value.ref x,[Value.str "__class__" s.toks]):=rfl;rw[e1];show wpAny _ _ (do let tp <-typeOf (.ref x);_) _ _ _;refine wpAny_bind (kJ i _ _ _ _ (λ_ _ e=>e) ?_);refine wpAny_bind (Co bW cl _ _ _ _ (λ_ _ e=>e) ?_);show wpAny _ _ (do let r <-holding _ (call _ _);ret r) _ _ _;refine wpAny_bind (wpAny_holding (wpAny_call (Fj bW i so ?_)));refine wpAny_pure ?_;refine wpAny_pure ?_;exact wpAny_pure h
theorem Fp(c:XC K C):KitX K (.ref x) (.ref C) (λh=>XI h x C):=by
 refine⟨λM h bW i=>kJ i,λM h bW _=>(kit_cls bW c.me).2.1,λh tp dd its n sl bW e=>?_,λ{prog w A E Q s} bW i hq=>yH c bW i hq⟩;by_cases z:C=tp
 .subst z;obtain⟨nm,q,N,bs,bm,hdct,sn,sub,ab,col,dd,k0,k1,k2,k3,k5,newId,lk,ht⟩:=c.ob;have:=bW _ _ lk;rw[e]at this;have z:=congrArg Obj.cls (Option.some.inj this);injection z with z
  exact absurd z (by decide)
 .simpa using z
theorem Fq(c:XC K C){D:Value}{b:Bool}(bW:K.In s.heap)(i:XI s.heap x C)(e:kitOne K (.ref C) D=some b){Q:Value->Shared->Prop}(h:∀tk,Q (.bool b) { s with toks:=tk }) :
  wpAny (model prog w) A (call (.builtin "isinstance") [.ref x,D]) Q E s:=kia_one (Fp c) bW i e (λz=>nomatch z) h
end
end Sm
set_option maxRecDepth 100000
namespace Sm
open PySem PySem.Spec PyProof.Rows L2 PySem.W
noncomputable def AS(l:List Env)(H':Hp)(h g B:Heap):Prop:=∀b o,g.get? b=some o->((H' b).isSome=true\/(h.get? b).isSome=true)->b∉frs l->B.get? b=some o
structure gp(P:Program)(w:World)(l:List Env)(H:Hp)(s:Shared)(a C:Addr)(H':Hp)(s':Shared):Prop where
 os:s'.os=s.os
 bare:AllBare s'.gens
 un:Un (frs l) [] H H' s.heap s'.heap
 hok:cV P w H' s'.heap
 fl:∃B a0,Heap.FlyingW B l a (.ref C) a0 s'.heap/\AS l H' s.heap s'.heap B
noncomputable def mP(P:Program)(w:World):jb:=λouter H s E e s'=>∃a C H',e=.ref a/\gp P w outer H s a C H' s'/\E (.ref C) none H'
theorem wz{P:Program}{w:World}{H:Hp}{h:Heap}{a:Addr}{o:HO}(x:cG P w H h a o):∃ob,h.get? a=some ob:=by
 cases o with
 |lst xs=>obtain⟨_,_,_,_,e⟩:=x;exact⟨_,e⟩
 |tup xs=>obtain⟨_,_,_,ob,e,_⟩:=x;exact⟨_,e⟩
 |dK kvs=>obtain⟨_,_,_,_,o,_,_,e,_⟩:=x;exact⟨_,e⟩
 |dT kvs=>obtain⟨_,_,_,_,o,_,_,e,_⟩:=x;exact⟨_,e⟩
 |set S n=>obtain⟨o,_,_,_,e,_⟩:=x;exact⟨_,e⟩
 |ins C dx fs=>obtain⟨_,_,_,e,_⟩:=x;exact⟨_,e⟩
 |own y=>obtain⟨_,e⟩:=x;exact⟨_,e⟩
 |xd fs=>obtain⟨_,⟨_,_,_,e,_⟩,_⟩:=x;exact⟨_,e⟩
 |gj lo hi=>obtain⟨_,_,_,e⟩:=x;exact⟨_,e⟩
 |bq ob u=>obtain⟨e,_⟩:=x;exact⟨_,e⟩
 |oz ps=>exact⟨_,(show h.get? a=some _ from x)⟩
 |met f y=>exact⟨_,(show h.get? a=some _ from x)⟩
 |ext φ=>obtain⟨_,e,_⟩:=x;exact e
theorem lR{P:Program}{w:World}{l:List Env}{H H':Hp}{h g g2 B:Heap}(u:Un (frs l) [] H H' h g)(hok:cV P w H' g)(jJ:AS l H' h g B)(st:Heap.StaysIn B g2)(up:∀b∈frs l,∀o,g.get? b=some o->∃sl,g2.get? b=some { o with slots:=sl })(hb:∀b∈frs l,H' b=none) :
  Un (frs l) [] H H' h g2/\cV P w H' g2/\AS l H' h g2 B:=by
 have same:∀b o,g.get? b=some o->((H' b).isSome=true\/(h.get? b).isSome=true)->b∉frs l->g2.get? b=some o:=λb o e z n=>st b o (jJ b o e z n);refine⟨⟨λb o e n hf hx=>same b o (u.keep b o e n hf hx) (.inr (by rw[e];rfl)) hf,λb o e n hf hx=>?_,u.free,λb o e hx=>?_,u.tups,u.ir,u.iQ⟩,λa o e=>?_,λb o e z n=>?_⟩
 .obtain⟨sl,e1⟩:=u.slot b o e n hf hx;obtain⟨sl2,e2⟩:=up b hf _ e1;exact⟨sl2,e2⟩
 .obtain⟨o',e1⟩:=u.there b o e hx;by_cases hf:b∈frs l
  .obtain⟨sl,e2⟩:=up b hf _ e1;exact⟨_,e2⟩
  .exact⟨o',same b o' e1 (.inr (by rw[e];rfl)) hf⟩
 .refine(hok a o e).stay (λb v z q=>?_) (λ_ q=>q) λ_ _ q=>q;have tr:(H' b).isSome=true:=by
   rcases z with z|z
   .rw[z,e];rfl
   .rw[z];rfl
  exact same b v q (.inl tr) λhf=>by rw[hb b hf]at tr;cases tr
 .have ex:∃o',g.get? b=some o':=by
   rcases z with z|z
   .obtain⟨x,e1⟩:=Option.isSome_iff_exists.mp z;exact wz (hok b x e1)
   .obtain⟨x,e1⟩:=Option.isSome_iff_exists.mp z;exact u.there b x e1 (by simp)
  obtain⟨o',e1⟩:=ex;have e2:=same b o' e1 z n;rw[e]at e2;cases e2;exact jJ b o e1 z n
section
variable{X:Cx}{pins:List (Addr×Obj)}{σ:L2.St}{H H':Hp}{s s':Shared}{a C:Addr}
theorem lS(I:Inv X pins σ H s)(u:Un (frs X.stack) [] H H' s.heap s'.heap):∀b∈frs X.stack,H' b=none:=λb hb=>by
 obtain⟨_,o,ho,_⟩:=I.stack.mem hb;exact u.free b o ho (I.nC b hb) (by simp)
theorem o8(hx:X.ex=[])(hs:X.stack=X.env :: X.outer)(I:Inv X pins σ H s){g2:Heap}{B:Heap}{a0:Value}(os:s'.os=s.os)(bare:AllBare s'.gens)(u:Un (frs X.stack) [] H H' s.heap s'.heap)(hok:cV X.prog X.w H' s'.heap)(jJ:AS X.stack H' s.heap s'.heap B)
  (ff:∀b∈frs X.stack,∃o,s'.heap.get? b=some o/\∀vs,o.data≠.fields vs) (fl:Heap.FlyingW B X.outer a (.ref C) a0 g2) (up:Heap.UpToSlots s'.heap g2):gp X.prog X.w X.outer X.H₀ X.s₀ a C H' { s' with heap:=g2 }:=by
 obtain⟨u2,nR,qB⟩:=lR u hok jJ fl.1 (λb hb o e=>by
  obtain⟨o',e1,e2⟩:=ff b hb;rw[e]at e1;cases e1;exact up b o e e2) (lS I u)
 have I2:Inv X pins σ H' { s' with heap:=g2 }:=I.pK (s':={ s' with heap:=g2 }) (ch:=[]) os u2 nR bare (λb z=>absurd z (by simp));refine⟨os.trans I.os,bare,by have:=I2.base;rw[hx]at this;exact this,nR,B,a0,fl,λb o e z n=>?_⟩;have hne:b≠X.env.locals:=λy=>by
  rcases z with z|z
  .rw[y,I2.free]at z;cases z
  .obtain⟨x,e1⟩:=Option.isSome_iff_exists.mp z;rw[y]at e1;exact absurd (Heap.lt_size e1) (Nat.not_lt.mpr I.ok.above)
 refine qB b o e (z.imp id λz=>?_) λhb=>?_
 .obtain⟨x,e1⟩:=Option.isSome_iff_exists.mp z;obtain⟨x',e2⟩:=I.base.there b x e1 (by rw[hx];simp);rw[e2];rfl
 .rcases List.mem_cons.mp (I.mj b hb)with y|y
  .exact hne y
  .exact n y
theorem mQ:∀{l:List Env}{h base B:Heap},Heap.FunFrames h base l->(∀b∈frs l,B.get? b=none)->Heap.FunFrames h B l
 |[],_,_,_,_,_=>trivial
 |env :: r,h,base,B,hl,n=>by
  obtain⟨hk,⟨L,o,hf,hn,ho,hd⟩,hr⟩:=hl;exact⟨hk,⟨L,o,hf,n L (by unfold frs;rw[List.filterMap_cons,hf];exact List.mem_cons_self),ho,hd⟩,mQ hr λb hb=>n b (by unfold frs;rw[List.filterMap_cons,hf];exact List.mem_cons_of_mem _ hb)⟩
theorem yI{Q:Unit->Shared->Prop}{E:Value->Shared->Prop}(hx:X.ex=[])(hs:X.stack=X.env :: X.outer)(hf:X.env.frame=some X.env.locals)(I:Inv X pins σ H s)(f:gp X.prog X.w X.stack H s a C H' s')(q:∀s'',gp X.prog X.w X.outer X.H₀ X.s₀ a C H' s''->Q () s'') :
  wpAny (model X.prog X.w) X.A (leaving X.env (.ref a)) Q E s':=by
 obtain⟨os,bare,un,hok,B,a0,fl,jJ⟩:=f;have ff:∀b∈frs X.stack,∃o,s'.heap.get? b=some o/\∀vs,o.data≠.fields vs:=λb hb=>(fl.2.2.1.mem hb).2;rw[hs]at fl;exact wpAny_leaves_onW (by rw[I.ok.frames,hs]) hf fl λh' qC up=>q _ (o8 hx hs I os bare un hok jJ ff qC up)
theorem uD{Q:Unit->Shared->Prop}{E:Value->Shared->Prop}{h1:Heap}{args:List Value}(hx:X.ex=[])(hs:X.stack=X.env :: X.outer)(hf:X.env.frame=some X.env.locals)(I:Inv X pins σ H s)(m:Heap.MadeExcOf s.heap h1 a (.ref C) args)(q:∀s'',gp X.prog X.w X.outer X.H₀ X.s₀ a C H s''->Q () s'') :
  wpAny (model X.prog X.w) X.A (leaving X.env (.ref a)) Q E { s with heap:=h1 }:=by
 have cut:∀b∈frs X.stack,(hideAll s.heap (frs X.stack)).get? b=none:=λb hb=>hideAll_none _ hb;have Ft:=mQ (B:=hideAll s.heap (frs X.stack)) I.stack cut;have ff:∀b∈frs X.stack,∃o,s.heap.get? b=some o/\∀vs,o.data≠.fields vs:=λb hb=>(Ft.mem hb).2;refine wpAny_leaves_madeW (base:=hideAll s.heap (frs X.stack)) (h:=s.heap) (by rw[I.ok.frames,hs]) hf (λb o e=>of_hideAll _ e) (by rw[hs]at Ft ⊢;exact Ft) m λh' t qC _ _ up=>q _ ?_;have:=o8 (s':=s) hx hs I (g2:=h') rfl I.bare Un.refl I.hok (B:=hideAll s.heap (frs X.stack)) (λb o e _ n=>hideAll_get _ e n) ff qC λb o e hd=>up b o (m.keeps b o e) hd;exact this
theorem gp.inv(f:gp X.prog X.w X.stack H s a C H' s')(I:Inv X pins σ H s):Inv X pins σ H' s':=I.pK (ch:=[]) f.os f.un f.hok f.bare (λb z=>absurd z (by simp))
theorem gp.xi{P:Program}{w:World}{l:List Env}(f:gp P w l H s a C H' s'):XI s'.heap a C:=by
 obtain⟨B,a0,fl,_⟩:=f.fl;obtain⟨oe,vs,T,oT,ts,h1,h2,h3,_⟩:=fl.2.2.2;exact⟨oe,h1,h2.1,vs,h3⟩
theorem gp.new{P:Program}{w:World}{l:List Env}(f:gp P w l H s a C H' s'):a∉frs l/\H' a=none:=by
 obtain⟨oe,h1,h2,vs,h3⟩:=f.xi;obtain⟨B,a0,fl,jJ⟩:=f.fl;have n1:a∉frs l:=λhb=>by
  obtain⟨_,o,e1,e2⟩:=fl.2.2.1.mem hb;rw[h1]at e1;cases e1;exact e2 vs h3
 refine⟨n1,?_⟩;cases z:H' a with
 |none=>rfl
 |some x=>
  have:=jJ a oe h1 (.inl (by rw[z];rfl)) n1;rw[fl.2.1]at this;cases this
theorem gp.on{A:Around}{M:Model}{P:Program}{w:World}{l:List Env}{Q:Unit->Shared->Prop}{E:Value->Shared->Prop}(f:gp P w l H s a C H' s')(hb:∀b∈frs l,H' b=none)(q:∀s'',gp P w l H s a C H' s''->Q () s''):wpAny M A (setFlight (.ref a) none) Q E s':=by
 obtain⟨os,bare,un,hok,B,a0,fl,jJ⟩:=f;refine lands_againW fl λh2 sS up=>q _ ?_;obtain⟨u2,nR,qB⟩:=lR un hok jJ sS.1 (λb hb o e=>by
  obtain⟨_,o',e1,e2⟩:=fl.2.2.1.mem hb;rw[e]at e1;cases e1;exact up b o e e2) hb
 exact⟨os,bare,u2,nR,B,a0,sS,qB⟩
theorem uE(I:Inv X pins σ H s)(f:gp X.prog X.w X.stack H s a C H' s')(hs:X.stack=X.env :: X.outer)(hf:X.env.frame=some X.env.locals){Q:Unit->Shared->Prop}{E:Value->Shared->Prop}
  (q:∀s'',gp X.prog X.w X.stack H s a C H' s''->Q () s''):wpAny (model X.prog X.w) X.A (noteFrame (.ref a) X.env) (λ_ s₂=>wpAny (model X.prog X.w) X.A (setFlight (.ref a) none) Q E s₂) E s':=by
 obtain⟨os,bare,un,hok,B,a0,fl,jJ⟩:=f;have ff:∀b∈frs X.stack,∃o,s'.heap.get? b=some o/\∀vs,o.data≠.fields vs:=λb hb=>(fl.2.2.1.mem hb).2;have fr:=lS I un;rw[hs]at fl;refine wpAny_looks_onW (by rw[I.ok.frames,hs]) hf fl λh1 hl1 up1=>wpAny_landsW hl1 λh2 sS M5=>q _ ?_;obtain⟨u2,nR,qB⟩:=lR un hok jJ sS.1 (λb hb o e=>by
  obtain⟨o',e1,e2⟩:=ff b hb;rw[e]at e1;cases e1;obtain⟨sl,e3⟩:=up1 b o e e2;obtain⟨sl2,e4⟩:=M5 b _ e3 e2;exact⟨sl2,e4⟩) fr
 exact⟨os,bare,u2,nR,B,a0,by rw[hs];exact sS,qB⟩
end
end Sm
set_option maxRecDepth 100000
namespace Sm
open PySem PySem.Spec PyProof.Rows L2 PySem.W
section
variable{X:Cx}
theorem Fv{e:Expr}{t t':TE}(h:PE X e t)(w:∀s H Q,t' s H Q->t s H Q):PE X e t':=λpins s σ H Q I q=>h pins s σ H Q I (w _ _ _ q)
theorem Cp{a:Addr}{oe:Obj}{C:Addr}{D:V}{Du:Value}{b:Bool}{ed:Expr}{xe:Str}{p p1 pos:Pos}(hp:(a,oe)∈X.pn)(ho:oe.cls=.ref C)(hd:∃vs,oe.data=.fields vs)(c:XC X.K C)(hD:PE X ed (tC D))(rD:∀u,RelV D u->u=Du)(k:kitOne X.K (.ref C) Du=some b)
  (hN:X.N[0]?=some xe) (hv:oA X.env.scope xe) (hg:Gl X "isinstance") (hm:X.mg "isinstance" = none) (hst:∀env:Env,starEach [.Name xe p1,ed] env=(false,eval (.Name xe p1) env) :: starEach [ed] env) (Fx:∀env:Env,starEach [ed] env=(false,eval ed env) :: starEach [] env)
  (M6:(xe==("__debug__" : Str))=false) (M7:(xe==("__classdict__" : Str))=false) :
  PE X (.Call (.Name "isinstance" p) [.Name xe p1,ed] [] pos) (λσ H Q=>σ[0]?=some (some (.ref a))/\Q (.bl b) H):=by
 have hc:gD X (.builtin "isinstance") (λxs H Q=>xs=[.ref a,D]/\Q (.bl b) H):=by
  intro pins s σ H xs us Q I rv q;obtain⟨rfl,q⟩:=q;cases rv with
  |cons r1 rv=>
   cases rv with
   |cons r2 rv=>
    cases rv;cases r1;obtain rfl:=rD _ r2;obtain⟨h1,_⟩:=I.pin (a,oe) (List.mem_append.mpr (.inl hp));exact Fq c I.dj ⟨oe,h1,ho,hd⟩ k λtk=>⟨.bl b,H,I.tok _,rfl,q⟩
 refine Fv (lI hc hg hm (by decide +kernel) (cU (mq hN hv M6 M7) (cU hD iu (Fx _)) (hst _)) (by decide) (by decide) (hst _) (by rw[Fx];rfl)) λs H Q q=>?_;exact⟨_,q.1,rfl,q.2⟩
theorem nS:∀{bs:List Bool}{its:List Value},Vals (bs.map V.bl) its->its=bs.map Value.bool
 |[],_,h=>by cases h;rfl
 |b :: bs,_,h=>by
  cases h with
  |cons r h=>cases r;rw[nS h];rfl
noncomputable def AU:Value->Bool
 |.bool b=>b
 |_=>false
theorem qD(bs:List Bool):∀y∈(bs.map Value.bool).toArray,MeetsSeq.EqGives y (.bool true) (AU y):=λy hy=>by
 rw[List.mem_toArray,List.mem_map]at hy;obtain⟨b,_,rfl⟩:=hy;intro prog w A E s Q q;refine SeqAt.EqAt.bool_bool b true prog w E Q ?_;cases b<;>exact q
section
variable{o:Expr}{to:TE}{j:Nat}{ap pos p1:Pos}
theorem Cq (ho:PE X o to) (hbase:attributeBase o "count" X.env (eval o X.env)=eval o X.env:=by rfl) (hline:(ap.endLine==pos.line)=true:=by rfl):PE X (.Call (.Attribute o "count" ap) [.Constant (.bool true) j p1] [] pos) (λσ H Q=>to σ H λx H1=>∃(l:Addr) (bs:List Bool),x=.ref l/\H1 l=some (.lst (bs.map V.bl))/\Q (.int (bs.countP id)) H1):=by
 intro pins s σ H Q I h;refine wpAny_Call_method_late hbase rfl hline rfl (bB (ho pins s σ H _ I h) λv s1 ⟨x,H1,I1,r1,l,bs,ex,hl,q⟩=>?_);subst ex;cases r1;obtain⟨z,its,n,r,hn,e⟩:=I1.jS hl;obtain rfl:=nS r;refine⟨"list","list.count",PySem.F.plainAttrs_list,PySem.F.slot_list_count,PySem.F.type_list_count,⟨_,e,rfl⟩,λa ha=>by cases ha;exact⟨_,e,rfl⟩,?_⟩;show wpAny _ _ (callWith pos (.builtin "list.count") [.ref l] [(false,eval (.Constant (.bool true) j p1) X.env)] []) _ _ _;refine PySem.P.count_list (Constant_bool ⟨_,n,AU,e,qD bs,?_⟩);refine⟨.int (bs.countP id),H1,I1.tok _,⟨s1.toks,?_⟩,q⟩;have:List.countP AU (bs.map Value.bool)=bs.countP id:=by rw[List.countP_map];rfl
 rw[List.toList_toArray,this]
theorem Cr (ho:PE X o to) (hbase:attributeBase o "index" X.env (eval o X.env)=eval o X.env:=by rfl) (hline:(ap.endLine==pos.line)=true:=by rfl):PE X (.Call (.Attribute o "index" ap) [.Constant (.bool true) j p1] [] pos) (λσ H Q=>to σ H λx H1=>∃(l:Addr) (bs:List Bool) (k:Nat),x=.ref l/\H1 l=some (.lst (bs.map V.bl))/\(bs[k]?=some true/\(∀m,m<k->bs[m]?=some false)/\k<1000)/\Q (.int k) H1):=by
 intro pins s σ H Q I h;refine wpAny_Call_method_late hbase rfl hline rfl (bB (ho pins s σ H _ I h) λv s1 ⟨x,H1,I1,r1,l,bs,k,ex,hl,⟨hk1,hk2,Ol⟩,q⟩=>?_);subst ex;cases r1;obtain⟨z,its,n,r,hn,e⟩:=I1.jS hl;obtain rfl:=nS r;refine⟨"list","list.index",PySem.F.plainAttrs_list,PySem.F.slot_list_index,PySem.F.type_list_index,⟨_,e,rfl⟩,λa ha=>by cases ha;exact⟨_,e,rfl⟩,?_⟩;show wpAny _ _ (callWith pos (.builtin "list.index") [.ref l] [(false,eval (.Constant (.bool true) j p1) X.env)] []) _ _ _;have hlt:=(List.getElem?_eq_some_iff.mp hk1).1;refine PySem.P.index_list (Constant_bool ⟨_,n,AU,k,by simpa using hlt,e,qD bs,by omega,?_,λm hm h2=>?_,?_⟩)
 .simp only[List.getElem_toArray,List.getElem_map];show bs[k]=true;exact(List.getElem?_eq_some_iff.mp hk1).2
 .simp only[List.getElem_toArray,List.getElem_map];show bs[m]'(by simpa using hm)=false;exact(List.getElem?_eq_some_iff.mp (hk2 m h2)).2
 .exact⟨.int k,H1,I1.tok _,⟨_,rfl⟩,q⟩
end
structure AV(K:PySem.W.Frag)(C:Addr)(c:Nat)(D0 D1 D2 D3:Addr):Prop where
 xc:XC K C
 k0:kitOne K (.ref C) (.ref D0)=some (decide (c=0))
 k1:kitOne K (.ref C) (.ref D1)=some (decide (c=1))
 k2:kitOne K (.ref C) (.ref D2)=some (decide (c=2))
 k3:kitOne K (.ref C) (.ref D3)=some (decide (c=3))
 kv:kitOne K (.ref C) (.type "ValueError")=some true
 lt:c<4
structure M8(X:Cx)(n0 n1 n2 n3:Str)(D0 D1 D2 D3:Addr):Prop where
 g0:Gl X n0
 g1:Gl X n1
 g2:Gl X n2
 g3:Gl X n3
 gi:Gl X "isinstance"
 gv:Gl X "ValueError"
 m0:X.mg n0=some (.ref D0)
 m1:X.mg n1=some (.ref D1)
 m2:X.mg n2=some (.ref D2)
 m3:X.mg n3=some (.ref D3)
 mi:X.mg "isinstance" = none
 mv:X.mg "ValueError" = none
theorem Cs{st:List Stmt}{t t':TS}(h:dH X st t)(w:∀D σ H,t' D σ H->t D σ H):dH X st t':=λpins s σ H D I q=>h pins s σ H D I (w _ _ _ q)
set_option maxHeartbeats 1000000 in
theorem yJ{a:Addr}{oe:Obj}{C D0 D1 D2 D3:Addr}{c:Nat}{tb:List Stmt}{p0 p1 p2 p3 p4 p5 p6 p7 p8 p9 AW AX wA M9 Na Nb Nc Nd Nf Ng Nh Ni Nj Nk J7 J8 Nl Np Nq Nr Nt Nu Nv Nx Ny Nz NB J9 Ka NC ND NF NG NH:Pos}
  (hp:(a,oe)∈X.pn) (ho:oe.cls=.ref C) (hd:∃vs,oe.data=.fields vs) (k:AV X.K C c D0 D1 D2 D3) (g:M8 X "NoFit" "Clash" "NoPlace" "NoNumber" D0 D1 D2 D3)
  (hN:X.N=(["_law_e","_law_flags"]:List Str)) (h0:X.env.scope.names.lookup ("_law_e" : Str)=some .local) (h1:X.env.scope.names.lookup ("_law_flags" : Str)=some .local)
  (hl1:(J7.endLine==J8.line)=true) (hl2:(J9.endLine==Ka.line)=true) :
  dH X [.Assign [.Name "_law_flags" p0] (.List [.Call (.Name "isinstance" p1) [.Name "_law_e" p2,.Name "NoFit" p3] [] p4,.Call (.Name "isinstance" p5) [.Name "_law_e" p6,.Name "Clash" p7] [] p8,.Call (.Name "isinstance" p9) [.Name "_law_e" AW,.Name "NoPlace" AX] [] wA] M9) Na,
   .Assign [.Name "_law_flags" Nb] (.BinOp (.Name "_law_flags" Nc) .Add (.List [.Call (.Name "isinstance" Nd) [.Name "_law_e" Nf,.Name "NoNumber" Ng] [] Nh] Ni) Nj) Nk,
   .If (.BoolOp .Or [.Compare (.Call (.Attribute (.Name "_law_flags" Nl) "count" J7) [.Constant (.bool true) 0 Np] [] J8) [.NotEq] [.Constant (.int 1) 0 Nq] Nr,.UnaryOp .Not (.Call (.Name "isinstance" Nt) [.Name "_law_e" Nu,.Name "ValueError" Nv] [] Nx) Ny] Nz) tb [] NB,
   .Return (some (.Tuple [.Constant (.str "refused") 0 NC,.Call (.Attribute (.Name "_law_flags" ND) "index" J9) [.Constant (.bool true) 0 NF] [] Ka] 0 NG)) NH] (λD σ H=>σ=[some (.ref a),none]/\∀p H',(∀b o,H b=some o->H' b=some o)->H' p=some (.tup [.str "refused",.int c])->D.rt (.ref p) H'):=by
 have v0:oA X.env.scope ("_law_e" : Str):=.inl h0;have v1:oA X.env.scope ("_law_flags" : Str):=.inl h1;have n0:X.N[0]?=some ("_law_e" : Str):=by rw[hN];rfl
 have n1:X.N[1]?=some ("_law_flags" : Str):=by rw[hN];rfl
 have nd:X.N.Nodup:=by rw[hN];decide
 have eX:∀{ed:Expr} {D:V} {Du:Value} {b:Bool} {q0 q1 q2:Pos},PE X ed (tC D)->(∀u,RelV D u->u=Du)->kitOne X.K (.ref C) Du=some b->(∀env:Env,starEach [.Name "_law_e" q1,ed] env=(false,eval (.Name "_law_e" q1) env) :: starEach [ed] env)->(∀env:Env,starEach [ed] env=(false,eval ed env) :: starEach [] env)->
   PE X (.Call (.Name "isinstance" q0) [.Name "_law_e" q1,ed] [] q2) (λσ H Q=>σ[0]?=some (some (.ref a))/\Q (.bl b) H):=λh1 h2 h3 h4 h5=>Cp hp ho hd k.xc h1 h2 h3 n0 v0 g.gi g.mi h4 h5 (by decide) (by decide)
 have i0:=λ{q0 q1 q2 q3:Pos}=>eX (q0:=q0) (q1:=q1) (q2:=q2) (kE (pos:=q3) g.g0 g.m0 (v:=.ref D0) rfl) (λu r=>r) k.k0 (λ_=>rfl) (λ_=>rfl);have i1:=λ{q0 q1 q2 q3:Pos}=>eX (q0:=q0) (q1:=q1) (q2:=q2) (kE (pos:=q3) g.g1 g.m1 (v:=.ref D1) rfl) (λu r=>r) k.k1 (λ_=>rfl) (λ_=>rfl);have i2:=λ{q0 q1 q2 q3:Pos}=>eX (q0:=q0) (q1:=q1) (q2:=q2) (kE (pos:=q3) g.g2 g.m2 (v:=.ref D2) rfl) (λu r=>r) k.k2 (λ_=>rfl) (λ_=>rfl);have i3:=λ{q0 q1 q2 q3:Pos}=>eX (q0:=q0) (q1:=q1) (q2:=q2) (kE (pos:=q3) g.g3 g.m3 (v:=.ref D3) rfl) (λu r=>r) k.k3 (λ_=>rfl) (λ_=>rfl);have iv:=λ{q0 q1 q2 q3:Pos}=>eX (q0:=q0) (q1:=q1) (q2:=q2) (rY (pos:=q3) g.gv g.mv (by decide +kernel) (v:=.ty "ValueError") rfl) (λu r=>r) k.kv (λ_=>rfl) (λ_=>rfl);have Fy:=λ{q:Pos}=>mq (X:=X) (pos:=q) n1 v1;refine Cs (gq (qb (i:=1) (pos':=p0) nd n1 (.inl h1) (qc (cU i0 (cU i1 (cU i2 iu)))) rfl (.inr h1)) (gq (qb (i:=1) nd n1 (.inl h1) (As vK Fy (qc (cU i3 iu))) rfl (.inr h1))
  (gq (t7 (PW.pt (Am (sq HS (Cq Fy rfl hl1) vj (fQ _)) (vn (vp (DH iv))))) vv rZ) (r8 (vq (vF (cU vm (cU (Cr Fy rfl hl2) iu)))))))) λD σ H q=>?_
 obtain⟨rfl,q⟩:=q;refine⟨rfl,rfl,rfl,by show 3<=sizeLine;decide,λl hl=>?_⟩;refine⟨_,rfl,rfl,by show 1<=sizeLine;decide,λl2 hl2=>?_⟩;have ne:l2≠l:=λz=>by rw[z,cj]at hl2;cases hl2
 refine⟨l,l2,_,_,rfl,rfl,by rw[aO ne.symm];exact cj,cj,by show 4<=sizeLine;decide,λp hp=>?_⟩;have lt:=k.lt;have keep:∀{H1:Hp} {q:Addr} {x:HO},(∀b o,H b=some o->H1 b=some o)->H1 q=none->∀b o,H b=some o->upd H1 q x b=some o:=λk1 k2 b o e=>by rw[aO (bD (k1 b o e) k2)];exact k1 b o e
 have k3:=keep (x:=.lst ([V.bl (decide (c=0)),.bl (decide (c=1)),.bl (decide (c=2))]++[.bl (decide (c=3))])) (keep (x:=.lst [.bl (decide (c=3))]) (keep (x:=.lst [V.bl (decide (c=0)),.bl (decide (c=1)),.bl (decide (c=2))]) (λ_ _ e=>e) hl) hl2) hp;have fin:∀{H3:Hp},(∀b o,H b=some o->H3 b=some o)->∀t,H3 t=none->D.rt (.ref t) (upd H3 t (.tup [.str "refused",.int c])):=λk1 t ht=>q t _ (keep k1 ht) cj;have c4:c=0\/c=1\/c=2\/c=3:=by omega
 have hc:[decide (c=0),decide (c=1),decide (c=2),decide (c=3)].countP id=1:=by rcases c4 with rfl|rfl|rfl|rfl<;>decide
 have hi:[decide (c=0),decide (c=1),decide (c=2),decide (c=3)][c]?=some true/\(∀m,m<c->[decide (c=0),decide (c=1),decide (c=2),decide (c=3)][m]?=some false)/\c<1000:=by rcases c4 with rfl|rfl|rfl|rfl<;>decide
 refine⟨_,rfl,p,[decide (c=0),decide (c=1),decide (c=2),decide (c=3)],rfl,cj,?_⟩;rw[hc];refine⟨rfl,_,rfl,?_⟩;dsimp only;rw[if_neg (by decide)];refine⟨rfl,_,rfl,?_⟩;dsimp only;rw[if_neg (by decide)];refine⟨_,rfl,p,[decide (c=0),decide (c=1),decide (c=2),decide (c=3)],c,rfl,cj,hi,?_⟩;exact⟨by show 2<=sizeLine;decide,fin k3⟩
structure NI(K:PySem.W.Frag)(C D0:Addr)(c:Nat):Prop where
 xc:XC K C
 k0:kitOne K (.ref C) (.ref D0)=some true
 kv:kitOne K (.ref C) (.type "ValueError")=some true
 c0:c=0
end
end Sm
set_option maxRecDepth 100000
namespace Sm
open PySem PySem.Spec PyProof.Rows L2 PySem.W
section
variable{P:Program}{w:World}{K:PySem.W.Frag}{mg:Str->Option Value}{base:Heap}
noncomputable def AY(P:Program)(w:World)(K:PySem.W.Frag)(mg:Str->Option Value)(base:Heap)(N:List Str)(qual:Str)(scope:Scope)(f:Addr)(cd:Value)(A:Around)(outer:List Env)(s:Shared)(H:Hp)(a:Addr)(oe:Obj):Cx:=
 { gP gU P w K mg base N qual scope f cd A outer s H E0 with calm:=false,pn:=[(a,oe)],xe:=λ_ _=>False }
theorem yK{x qual:Str}{st:Stmt}{f:Addr}{fd:FuncData}{N ps:List Str}{A:Around}{outer:List Env}{s:Shared}{H:Hp}{args:Args}{us:List Value}{vs:List V}{Q:VK}{a:Addr}{oe:Obj}(F:jF K x qual st f fd)(S:bK N ps (au st))(dp:A.depth<recursionLimit)
  (e0:nE P w K mg base A outer s H) (hb:BindsTo s fd args (ps.zip us)) (r:Vals vs us) (hl:vs.length=ps.length) (p1:s.heap.get? a=some oe) (p2:H a=none) (p3:a∉frs outer) (p4:∀v,oe.data≠.cell v)
  (hbody:∀(cdv:Value) (X:Cx),X=AY P w K mg base N qual (au st) f cdv A outer s H a oe->∃t,dH X (cJ st) t/\t { nx:=λ_ H'=>Q .az H',rt:=Q } (start N vs) H) :
  codeAny (model P w) A (.call (.ref f) args) (CR gU outer P w H s Q E0) s:=by
 obtain⟨oc,od,kV,doc,pm,an,cdv,ct,osl,rfl,lk,hcd⟩:=F.ex;have KX:K.In s.heap:=e0.mod.bW.keeps λb o e=>(e0.bs b o e).1;have lim:s.heap.NoLimit:=e0.mod.nolimit.keeps λb o e=>(e0.bs b o e).1;have hkind:∀y∈ps.zip us,(au st).names.lookup y.1=some .local\/((au st).names.lookup y.1=some .cell/\((cellsFrom (s.heap.objs.size+1) (au st).names []).lookup y.1).isSome=true):=λ⟨n,v⟩ hy=>by
  rcases S.par n (List.of_mem_zip hy).1 with q|q
  .exact .inl q
  .exact .inr ⟨q,PySem.W.cellsFrom_some _ _ _ (.inl q)⟩
 refine codeAny_call_function dp (KX _ _ lk) rfl S.co S.gen rfl (PySem.W.codeRec_of KX hcd) (hb _ _ _ _ ?_);refine wpAny_newFunctionEnv_cells S.kind hkind λenv he s1 y=>?_;subst he;refine⟨lim.keeps y.toInCall.keep,codeAny_func ?_⟩;obtain⟨t,ht,hq⟩:=hbody cdv _ rfl;have I0:Inv (gP gU P w K mg base N qual (au st) f cdv { A with handled:=none } outer s H E0) [] (start N vs) H s1:=oM S rfl ⟨e0.frames,e0.mod,e0.bs,e0.jL,e0.fy,e0.kT,e0.hok,e0.bare⟩ hl r y;have ok:=I0.ok;have I:Inv (AY P w K mg base N qual (au st) f cdv A outer s H a oe) [] (start N vs) H s1:=
  ⟨⟨ok.mod,ok.kind,ok.glob,ok.blt,ok.above,ok.inj,ok.has,ok.qa,(λh=>nomatch h),Around.frames_deeper e0.frames,ok.stk,ok.vg,ok.bs,ok.jL,ok.lE,ok.lF,ok.fy,ok.kT⟩,I0.os,I0.bare,I0.base,I0.loc,I0.cell,I0.free,I0.fh,
   λp hp=>by
    obtain rfl:p=(a,oe):=by simpa[AY]using hp
    exact⟨y.toInCall.keep _ _ p1,p2,λz=>by
     have:=Heap.lt_size p1;rw[show a=s.heap.objs.size from z]at this;exact absurd this (Nat.lt_irrefl _),p3,p4⟩,I0.hok,I0.len⟩
 refine wpAny_mono (ht [] s1 (start N vs) H _ I hq) (λfl s' hs=>?_) λe s' hs=>hs.elim;have fin:∀{σ':L2.St} {H':Hp} {v:V} {u:Value},Inv (AY P w K mg base N qual (au st) f cdv A outer s H a oe) [] σ' H' s'->RelV v u->Q v H'->CE outer P w H s Q u s':=
  λ{σ' H' v u} J rv q=>⟨v,H',J.os,J.bare,J.base,J.hok,rv,q⟩
 cases fl with
 |ret u=>
  obtain⟨v,σ',H',J,rv,q⟩:=hs;exact fin J rv q
 |next=>
  obtain⟨σ',H',J,q⟩:=hs;exact fin (v:=V.az) (u:=Value.none) J rfl q
 |brk=>
  obtain⟨_,_,_,q⟩:=hs;exact False.elim q
 |cont=>
  obtain⟨_,_,_,q⟩:=hs;exact False.elim q
end
end Sm
set_option maxRecDepth 100000
namespace Sm
open PySem PySem.Spec PyProof.Rows L2 PySem.W
section
variable{X:Cx}{pins:List (Addr×Obj)}{σ:L2.St}{H H':Hp}{s s':Shared}{a C:Addr}
theorem wC{M:Model}{A:Around}{E:Value->Shared->Prop}{i:Nat}{x:Str}{v:V}{Q:Unit->Shared->Prop}(I:Inv X pins σ H s)(hN:X.N.Nodup)(hi:X.N[i]?=some x)(hk:X.env.scope.names.lookup x=some .local)(hv:σ[i]?=some (some v))
  (h:∀s',Inv X pins (σ.set i none) H s'->Q () s'):wpAny M A (unbindName X.env x) Q E s:=by
 obtain⟨m,hn,hl⟩:=id I.loc;have hcls:(X.env.scope.kind==.class || (X.env.scope.kind==.module&&X.env.locals != X.env.globals))=false:=by rw[I.ok.kind];rfl
 have jM:=I.jM;obtain⟨u,r,q⟩:=hl i x v hi hv (.inl hk);have hm:m x=some u:=by
  rcases q with ⟨_,e⟩|⟨k,_⟩
  .exact e
  .rcases k with k|k
   .rw[show X.env.kindOf x=X.env.scope.names.lookup x from rfl,hk]at k;cases k
   .rw[show X.env.kindOf x=X.env.scope.names.lookup x from rfl,hk]at k;cases k
 refine wpAny_unbindName_local hk hn hm hcls λh' u' hn' hs=>?_;obtain⟨oL,_,_,JJ,_⟩:=id hn;have tracked:cV X.prog X.w H h':=λb ob e=>by
  refine(I.hok b ob e).stay (λc w' hc q=>(hs.2 c ?_).trans q) (λ_ q=>q) λ_ _ q=>q;rintro rfl;rcases hc with rfl|hc
  .rw[I.free]at e;cases e
  .rw[I.free]at hc;cases hc
 refine h _ ⟨I.ok,I.os,I.bare,⟨λb o e n hb hx=>?_,λb o e n hb hx=>?_,I.base.free,λb o e hx=>?_,I.base.tups,I.base.ir,I.base.iQ⟩,⟨_,hn',λj y v' e1 e2 e3=>?_⟩,λy c e=>?_,I.free,I.fh,λp hp=>?_,tracked,by simpa using I.len⟩
 .exact(hs.2 b (Nat.ne_of_lt (Nat.lt_of_lt_of_le (Heap.lt_size e) I.ok.above))).trans (I.base.keep b o e n hb hx)
 .obtain⟨sl,e1⟩:=I.base.slot b o e n hb hx;exact⟨sl,(hs.2 b (Nat.ne_of_lt (Nat.lt_of_lt_of_le (Heap.lt_size e) I.ok.above))).trans e1⟩
 .obtain⟨o',e1⟩:=I.base.there b o e hx;exact⟨o',(hs.2 b (Nat.ne_of_lt (Nat.lt_of_lt_of_le (Heap.lt_size e) I.ok.above))).trans e1⟩
 .have t6:i<σ.length:=by rw[I.len];exact(List.getElem?_eq_some_iff.mp hi).1
  by_cases hj:j=i
  .subst hj;rw[List.getElem?_set_self t6]at e2;cases e2
  .rw[List.getElem?_set_ne (Ne.symm hj)]at e2;obtain⟨u',r',q⟩:=hl j y v' e1 e2 e3;refine⟨u',r',?_⟩;rcases q with ⟨k,e⟩|⟨k,c,e,z⟩
   .refine .inl ⟨k,?_⟩;have:y≠x:=λe=>hj (lG hN e1 (e▸hi));simp[this,e]
   .exact .inr ⟨k,c,e,z.sameBut hs (jM y c e)⟩
 .obtain⟨w',z⟩:=I.cell y c e;exact⟨w',z.sameBut hs (jM y c e)⟩
 .obtain⟨e,n,ne,nf,d⟩:=I.pin p hp;exact⟨(hs.2 p.1 ne).trans e,n,ne,nf,d⟩
structure yL(K:PySem.W.Frag)(mg:Str->Option Value)(rf:Addr)(rd:FuncData)(o9:Stmt)(Wc:Addr)(KC:Addr->Nat->Prop):Prop where
 fn:jF K "_law_refused" "_law_refused" o9 rf rd
 sc:bK ["_law_e","_law_flags"] ["_law_e"] (au o9)
 bd:Binds K rd ["_law_e"] []
 mr:mg "_law_refused" = some (.ref rf)
 mw:mg "WayError" = some (.ref Wc)
 body:∀(Y:Cx) (a:Addr) (oe:Obj) (C:Addr) (c:Nat),Y.N=(["_law_e","_law_flags"]:List Str)->Y.env.scope=au o9->Y.K=K->Y.mg=mg->(a,oe)∈Y.pn->oe.cls=.ref C->(∃vs,oe.data=.fields vs)->KC C c->
  dH Y (cJ o9) (λD σ H=>σ=[some (.ref a),none]/\∀p H',(∀b o,H b=some o->H' b=some o)->H' p=some (.tup [.str "refused",.int c])->D.rt (.ref p) H')
theorem Fz{rf:Addr}{rd:FuncData}{o9:Stmt}{Wc:Addr}{KC:Addr->Nat->Prop}{c i:Nat}{D:Ends}{p1 p2 p3 p4 p5 p6:Pos}{E:Value->Shared->Prop}(R:yL X.K X.mg rf rd o9 Wc KC)(k:KC C c)(kw:exmOne X.K (.ref C) (.ref Wc)=some true)
  (hs:X.stack=X.env :: X.outer) (hf:X.env.frame=some X.env.locals) (dp:X.A.depth<recursionLimit) (hN:X.N.Nodup) (hi:X.N[i]?=some ("_law_e" : Str)) (hk:X.env.scope.names.lookup ("_law_e" : Str)=some .local) (g1:Gl X "_law_refused") (g2:Gl X "WayError")
  (I1:Inv X pins σ H s) (f:gp X.prog X.w X.stack H s a C H' s') (q:∀p mR,(∀b o,H' b=some o->mR b=some o)->mR p=some (.tup [.str "refused",.int c])->D.rt (.ref p) mR) :
  wpAny (model X.prog X.w) X.A (noteFrame (.ref a) X.env) (λ_ s₂=>wpAny (model X.prog X.w) X.A (setFlight (.ref a) none) (λ_ s₃=>wpAny (model X.prog X.w) X.A (handleBy (.ref a) X.env [.ExceptHandler (some (.Name "WayError" p1)) (some "_law_e") [.Return (some (.Call (.Name "_law_refused" p2) [.Name "_law_e" p3] [] p4)) p5] p6]) (SP X pins D) E s₃) E s₂) E s':=by
 refine uE I1 f hs hf λs2 f2=>?_;have I2:=f2.inv I1;have NJ:=f2.un;refine wpAny_handleBy_cons (codeAny_handlers_test ?_) (λz=>nomatch z);refine Calls.Name_function_global I2.ok.kind g2 (Calls.loadGlobal_global (by rw[I2.ok.glob];exact I2.mod.glob.keeps I2.bk) R.mw ?_) (by decide);refine exm_one I2.dj (kJ f2.xi) kw _ _ _ _ (λ_ _ e=>e) ?_;show codeAny _ _ (Code.handlers (.ref a) [.ExceptHandler none (some "_law_e") _ p6] X.env) _ s2;refine codeAny_handlers_suite_as ?_;refine f2.on (lS I1 NJ) λs3 f3=>?_;have I3:=f3.inv I1;obtain⟨nf,na⟩:=f3.new;obtain⟨oe,x1,x2,vs,x3⟩:=f3.xi;refine oB I3 hN hi (.inl hk) (v:=.ref a) rfl (λs4 I4 ⟨b,NK,hb⟩=>?_) (.inr hk);have hab:a≠b:=λz=>by
  subst z;rcases hb with z|z
  .obtain⟨m,⟨o,es,ep,e1,e2,_⟩,_⟩:=I3.loc;rw[<-z,x1]at e1;cases e1;rw[x3]at e2;cases e2
  .obtain⟨v,o,e1,e2⟩:=I3.cell _ _ z;rw[x1]at e1;cases e1;rw[x3]at e2;cases e2
 have x4:s4.heap.get? a=some oe:=(NK.2 a hab).trans x1;have hσ:(σ.set i (some (V.ref a)))[i]?=some (some (.ref a)):=List.getElem?_set_self (by rw[I3.len];exact(List.getElem?_eq_some_iff.mp hi).1);refine wpAny_execs_cons (wpAny_Return_some (wpAny_Call_Name_kw ?_));refine Calls.Name_function_global I4.ok.kind g1 (Calls.loadGlobal_global (by rw[I4.ok.glob];exact I4.mod.glob.keeps I4.bk) R.mr ?_) (by decide);refine callWith_K (h₀:=X.base) I4.ok.mod.bW R.fn.kp ?_ rfl rfl;show wpAny _ _ (spliced ((false,eval (.Name "_law_e" p3) X.env) :: [])) _ _ _;refine Calls.spliced_cons ?_;obtain⟨m,hn,hl⟩:=I4.loc;obtain⟨u,r,l⟩:=hl i _ _ hi hσ (.inl hk);cases r;have hm:m "_law_e" = some (.ref a):=by
  rcases l with ⟨_,e⟩|⟨z,_⟩
  .exact e
  .rcases z with z|z<;>rw[show X.env.kindOf "_law_e" = X.env.scope.names.lookup ("_law_e" : Str)from rfl,hk]at z<;>cases z
 refine wpAny_Name (wpAny_loadName_local I4.ok.kind hk hn hm ?_) (by decide);refine Calls.spliced_nil ⟨I4.dj,?_⟩;have e0:nE X.prog X.w X.K X.mg X.base (X.A.mark (some (.ref a))) X.stack s4 H':=⟨I4.iR.frames,I4.iR.mod,I4.iR.bs,I4.iR.jL,I4.iR.fy,I4.iR.kT,I4.iR.hok,I4.iR.bare⟩
 refine wpAny_call (codeAny_mono (yK (args:=⟨[.ref a],[]⟩) (us:=[.ref a]) (vs:=[.ref a]) (Q:=λv mR=>∃p,v=.ref p/\(∀b o,H' b=some o->mR b=some o)/\mR p=some (.tup [.str "refused",.int c])) R.fn R.sc dp e0 (R.bd s4 [.ref a] I4.dj rfl) (.cons rfl .nil) rfl x4 na nf (λv=>by rw[x3];exact λz=>nomatch z) λcdv Y hY=>⟨_,R.body Y a oe C c (by rw[hY];rfl) (by rw[hY];rfl) (by rw[hY];rfl) (by rw[hY];rfl) (by rw[hY];exact List.mem_singleton.mpr rfl) x2 ⟨vs,x3⟩ k,rfl,λp mR k1 k2=>⟨p,rfl,k1,k2⟩⟩) λres s5 hq=>?_);cases res with
 |error e=>exact hq.elim
 |ok fl=>
  cases fl with
  |next=>exact hq.elim
  |brk=>exact hq.elim
  |cont=>exact hq.elim
  |ret u5=>
   obtain⟨v,H5,NL,IC,NN,Lp,r5,p,rfl,k1,k2⟩:=hq;have I5:Inv X pins _ H5 s5:=I4.pK (ch:=[]) NL NN Lp IC (λb z=>absurd z (by simp));show wpAny _ _ (do bindName X.env "_law_e" .none;unbindBehindTheSuite X.env "_law_e" p6) _ _ s5;refine wpAny_bind (wpAny_bindName (lH I5 hN hi (.inl hk) (v:=.az) rfl (λs6 I6=>?_) (.inr hk)));refine wpAny_onRaise (wC I6 hN hi hk (v:=.az) (List.getElem?_set_self (by simpa using (List.getElem?_eq_some_iff.mp hσ).1)) λs7 I7=>?_);exact⟨.ref p,_,H5,I7,r5,q p H5 k1 k2⟩
end
end Sm
set_option maxRecDepth 100000
namespace Sm
open PySem PySem.Spec PyProof.Rows L2
open Ev (D O Hh Fr R ay E Es Eo It T S Ss Fl Src aU aP TY BI ME)
abbrev AZ:List Value:=[.type "ValueError",.type "Exception",.type "BaseException",.type "object"]
noncomputable def sU (K:PySem.W.Frag) (C:Addr):Prop:=∃nm q N bs bm hdct sn sub ab col dd k0 k1 k2 k3 k5,K.lookup C=some (excClassObj nm q C N bs bm hdct sn sub ab col dd k0 k1 k2 k3 k5 "ValueError.__new__")/\bm.contains (.type "BaseException")=true/\∀h:Heap,K.In h->∃mN,h.Ns N mN/\mN "__init__" = none/\OwnTail h AZ bm
noncomputable def qF(K:PySem.W.Frag)(cl:Nat->Addr)(F:List Ev.Fn)(w n f:Nat):Sp:=λvs H Q E=>∃r h ds c h',aC K H r ds vs/\HR K H r h/\Ev.cL F w n f ds h=some (c,h')/\∀H' r',HR K H' r' h'->Fm K r r' H H'->E (.ref (cl c)) none H'
inductive tX(K:PySem.W.Frag)(cl:Nat->Addr)(m:List Nat)(E:XK)(f:Fr->Hh->Ev.XR)(s:L2.St)(H:Hp):Prop
 |mk (r:List Addr) (fr:Fr) (h:Hh) (c:Nat) (h':Hh) (sr:SR K m H r fr s) (hr:HR K H r h) (e:f fr h=some (c,h')) (q:∀H' r',HR K H' r' h'->Fm K r r' H H'->E (.ref (cl c)) none H'):tX K cl m E f s H
structure GX(G:Tb)(cl:Nat->Addr)(eS:List (Str×Nat))(rz su:List Nat)(n:Nat)(sc:Scope)(N:List Str)(df:Bool)(E:XK)(X:Cx):Prop where
 g:Good G n sc N df X.fO
 own:PassesOwn (model X.prog X.w) X.A X.env X.xe
 ps:Passes (mP X.prog X.w) X E
 md:∀(pins:List (Addr×Obj)) (σ:L2.St) (H:Hp) (s:Shared) (h1:Heap) (e C:Addr) (args:List Value),Inv X pins σ H s->Heap.MadeExcOf s.heap h1 e (.ref C) args->E (.ref C) none H->X.xe (.ref e) { s with heap:=h1 }
 fn:∀(f:Nat) i,G.fi[f]?=some i->su.contains f=true->dz X.prog X.w X.K X.mg X.base (mP X.prog X.w) n i.addr i.fd i.ps (qF X.K cl G.F G.w n f)
 nz:∀f,rz.contains f=false->∀ds h,Ev.cL G.F G.w n f ds h=none
 cs:∀x c,(x,c)∈eS->X.mg x=some (.ref (cl c))/\sU X.K (cl c)
theorem PS.fO{X:Cx}{st:Stmt}{t:TS}(h:PS X.fO st t):PS X st t:=λpins s σ H D I hw=>
 wpAny_mono (h pins s σ H D (I.gM _) hw) (λ_ _ q=>q.eW) λ_ _ z=>False.elim z
section
variable(G:Tb)(cl:Nat->Addr)(eS:List (Str×Nat))(rz su:List Nat)(n:Nat)(sc:Scope)(N:List Str)(df:Bool)(m:List Nat)
noncomputable def FA(st:S)(x:Stmt):Prop:=∀X Ex,GX G cl eS rz su n sc N df Ex X->PS X x (λ_ s H=>tX X.K cl m Ex (Ev.xs (Ev.run G.F G.w n) (Ev.cL G.F G.w n) G.w st) s H)
noncomputable def lT(ss:Ss)(xs:List Stmt):Prop:=∀X Ex,GX G cl eS rz su n sc N df Ex X->dH X xs (λ_ s H=>tX X.K cl m Ex (Ev.xss (Ev.run G.F G.w n) (Ev.cL G.F G.w n) G.w ss) s H)
end
section
variable{G:Tb}{cl:Nat->Addr}{eS:List (Str×Nat)}{rz su:List Nat}{n:Nat}{sc:Scope}{N:List Str}{df:Bool}{m:List Nat}{a b:E}{xa xb:Expr}{pos:Pos}
theorem nT{s:Ss}{xs:List Stmt}(h:Ev.iS rz s=true):lT G cl eS rz su n sc N df m s xs:=λX Ex g pins s σ H Q I q=>by
 obtain⟨r,fr,h1,c,h',sr,hr,e,q⟩:=q;rw[Ev.jr g.nz _ h]at e;cases e
theorem Ct{ta tb:Ss}{ya yb:List Stmt}(hc:JT G n sc N df m a xa)(kc:Ev.jV rz a=true)(h1:lT G cl eS rz su n sc N df m ta ya)(h2:lT G cl eS rz su n sc N df m tb yb):FA G cl eS rz su n sc N df m (.iff a ta tb) (.If xa ya yb pos):=λX Ex g pins s σ H Q I q=>by
 obtain⟨r,fr,hh,c,h',sr,hr,e,q⟩:=q;simp only[Ev.xs]at e;split at e
 .rename_i k h3 ey;refine t7 (PT.fO (hc X.fO g.g)) (h1 X Ex g) (h2 X Ex g) pins s σ H Q I ⟨r,fr,hh,k,h3,sr,hr,ey,λH1 r1 hr1 f1=>?_⟩;cases k with
  |true=>exact⟨r1,fr,h3,c,h',sr.mono f1,hr1,by simpa using e,λH' r' y1 y2=>q H' r' y1 (f1.trans y2)⟩
  |false=>exact⟨r1,fr,h3,c,h',sr.mono f1,hr1,by simpa using e,λH' r' y1 y2=>q H' r' y1 (f1.trans y2)⟩
 .rw[Ev.lK g.nz _ kc]at e;cases e
theorem pe{st:S}{ss:Ss}{x:Stmt}{xs:List Stmt}(h1:JS G n sc N df m st x)(k1:FA G cl eS rz su n sc N df m st x)(ks:lT G cl eS rz su n sc N df m ss xs):lT G cl eS rz su n sc N df m (.cons st ss) (x :: xs):=λX Ex g pins s σ H Q I q=>by
 obtain⟨r,fr,hh,c,h',sr,hr,e,q⟩:=q;simp only[Ev.xss]at e;split at e
 .rename_i af h3 ey;exact gq (PS.fO (h1 X.fO g.g)) (ks X Ex g) pins s σ H Q I ⟨r,fr,hh,.nx,af,h3,sr,hr,ey,λs1 H1 r1 EI hr1 f1=>⟨r1,af,h3,c,h',EI,hr1,e,λH' r' y1 y2=>q H' r' y1 (f1.trans y2)⟩⟩
 .cases e
 .exact gq (k1 X Ex g) (ks X Ex g) pins s σ H Q I ⟨r,fr,hh,c,h',sr,hr,e,q⟩
theorem Cu{c:Nat}{x t:Str}{np cp p1 pos:Pos}{j:Nat}(hx:(x,c)∈eS:=by decide +kernel)(h:qA sc x=true:=by decide +kernel):FA G cl eS rz su n sc N df m (.cX c) (.Raise (some (.Call (.Name x np) [.Constant (.str t) j p1] [] cp)) none pos):=λX Ex g pins s σ H Q I q=>by
 obtain⟨r,fr,hh,c',h',sr,hr,e,q⟩:=q;simp only[Ev.xs]at e;cases e;unfold qA at h;simp only[Bool.and_eq_true,Bool.not_eq_true']at h;have hg:Gl X x:=g.g.gl (by simpa using h.1);obtain⟨hm,nm,qn,Nn,bs,bm,hdct,sn,sub,ab,col,dd,k0,k1,k2,k3,k5,lk,hb,hN⟩:=g.cs x _ hx;have qE:=q H r hr .refl;obtain⟨mN,n1,n2,n3⟩:=hN s.heap I.dj;refine wpAny_Raise_call_subT (nm:=nm) (q:=qn) (N:=Nn) (bs:=bs) (hdct:=hdct) (sn:=sn) (sub:=sub) (ab:=ab) (col:=col) (dd:=dd) (k0:=k0) (k1:=k1) (k2:=k2) (k3:=k3) (k5:=k5) PySem.F.excBase_ValueError hb g.g.room.hd rfl n2 (kD I hg hm ⟨rfl,?_⟩ h.2);refine Calls.evalArgs_plain ?_;show wpAny _ _ (spliced ((false,eval (.Constant (.str t) j p1) X.env) :: [])) _ _ _;refine Calls.spliced_cons (Calls.Constant_str (Calls.spliced_nil ⟨rfl,by show 1<=sizeLine;decide,I.dj _ _ lk,n1,n3,λh1 e mk=>?_⟩));exact g.md pins σ H { s with toks:=s.toks+1 } h1 e _ _ (I.tok _) mk qE
section
variable{P:Program}{w:World}{K:PySem.W.Frag}{mg:Str->Option Value}{base:Heap}
noncomputable def qG(P:Program)(w:World)(K:PySem.W.Frag)(mg:Str->Option Value)(base:Heap)(G:Tb)(cl:Nat->Addr)(su:List Nat)(n:Nat):Prop:=∀(f:Nat) i,G.fi[f]?=some i->su.contains f=true->dz P w K mg base (mP P w) n i.addr i.fd i.ps (qF K cl G.F G.w n f)
theorem FD{f:Addr}{fd:FuncData}{ps:List Str}{k:Nat}(z:∀ds h,Ev.cL G.F G.w n k ds h=none):dz P w K mg base (mP P w) n f fd ps (qF K cl G.F G.w n k):=by
 have no:∀vs H Q E,¬ qF K cl G.F G.w n k vs H Q E:=λvs H Q E h=>by
  obtain⟨r,h,ds,c,h',_,_,e,_⟩:=h;rw[z]at e;cases e
 exact⟨λvs H Q E h=>absurd h (no vs H Q E),λA outer s H args us vs Q E _ _ _ _ h=>absurd h (no vs H Q E)⟩
theorem FE{x qual:Str}{st:Stmt}{i:FI}{N:List Str}{f:Nat}{fn:Ev.Fn}(T:Top P w K mg G)(A0:kG P w K mg base G n)(A1:qG P w K mg base G cl su n)(hz:Ev.kX rz 0 G.F=true)(hc:∀x c,(x,c)∈eS->mg x=some (.ref (cl c))/\sU K (cl c))
  (F:jF K x qual st i.addr i.fd) (S:bK N i.ps (au st)) (hf:G.F[f]?=some fn) (hp:i.ps.length=fn.np)
  (hb:lT G cl eS rz su n (au st) N true (List.range N.length) fn.body (cJ st)):dz P w K mg base (mP P w) (n+1) i.addr i.fd i.ps (qF K cl G.F G.w (n+1) f):=by
 have hlen:∀vs H Q E,qF K cl G.F G.w (n+1) f vs H Q E->vs.length=i.ps.length:=λvs H Q E h=>by
  obtain⟨r,h,ds,c,h',v1,_,e,_⟩:=h;simp only[Ev.fT,hf]at e;split at e
  .rename_i z;rw[v1.length,z,hp]
  .cases e
 obtain⟨oc,od,kV,doc,pm,an,cdv,ct,osl,e0,lk,hcd⟩:=F.ex;rw[e0]at lk ⊢;refine Au lk hcd S hlen λA outer s H vs Q Ex hr fR=>?_;have hl:=hlen vs H Q Ex fR;have hN:vs.length<=N.length:=by
  have:=congrArg List.length S.pre;rw[List.length_take]at this;omega
 have g:Good G n (au st) N true (gP (mP P w) P w K mg base N qual (au st) i.addr cdv A outer s H Ex).fO:=
  ⟨rfl,rfl,rfl,λ_ _=>rfl,hr,rfl,λf i hi=>⟨(T.fn f i hi).1,(T.fn f i hi).2.1,(T.fn f i hi).2.2,A0 f i hi⟩,T.bl,T.cs,T.dk⟩
 have gx:GX G cl eS rz su n (au st) N true Ex (gP (mP P w) P w K mg base N qual (au st) i.addr cdv A outer s H Ex):=
  ⟨g,PassesOwn.leaving,λpins σ H1 s1 e s' I ⟨a,C,H',h1,fl,q⟩=>by
    subst h1;exact yI rfl rfl rfl I fl λs'' qC=>⟨a,C,H',rfl,qC,q⟩,
   λpins σ H1 s1 h1 e C args I mk q=>uD rfl rfl rfl I mk λs'' qC=>⟨e,C,H1,rfl,qC,q⟩,A1,Ev.sF hz G.w n,hc⟩
 refine⟨_,hb _ Ex gx,?_⟩;obtain⟨r,h,ds,c,h',v1,hr1,e,q⟩:=fR;simp only[Ev.fT,hf]at e;split at e
 .exact⟨r,Ev.cK fn ds,h,c,h',lN v1 hN,hr1,e,q⟩
 .cases e
theorem FF{X:Cx}{k:Nat}{f:Addr}{fd:FuncData}{ps:List Str}{sp:Sp}{x:Str}{p pos:Pos}{e:Expr}{es:List Expr}{t:TA}{pins:List (Addr×Obj)}{σ:L2.St}{H:Hp}{s:Shared}{Ex:XK}{Q:Value->Shared->Prop}{E':Value->Shared->Prop}
  (F:dz X.prog X.w X.K X.mg X.base (mP X.prog X.w) k f fd ps sp) (hr:eT k X.A) (hg:Gl X x) (hm:X.mg x=some (.ref f)) (hk:PySem.W.keepIn X.K (.ref f)=true) (hb:Binds X.K fd ps []) (hd:(x==("__debug__" : Str))=false) (ha:PA X (e :: es) t) (NO:X.xe=λ_ _=>False)
  (hst:starEach (e :: es) X.env=(false,eval e X.env) :: starEach es X.env) (hpl:(backTo pos (starEach es X.env)).any (·.1)=false)
  (I:Inv X pins σ H s) (h:t σ H λvs H1=>sp vs H1 (λ_ _=>False) Ex) (q:∀H1 s1 a C H' s',Inv X pins σ H1 s1->gp X.prog X.w X.stack H1 s1 a C H' s'->Ex (.ref C) none H'->E' (.ref a) s') :
  wpAny (model X.prog X.w) X.A (eval (.Call (.Name x p) (e :: es) [] pos) X.env) Q E' s:=by
 refine wpAny_Call_Name_kw (kD I hg hm ?_ hd);refine PySem.W.callWith_K (h₀:=X.base) I.ok.mod.bW hk (wpAny_mono (ha pos pins s σ H _ I h) (λus s1 ⟨vs,H1,I1,r,q1⟩=>⟨I1.dj,?_⟩) (λ_ _ z=>by rw[NO]at z;exact z.elim)) hst hpl;have hl:us.length=ps.length:=by rw[<-r.length];exact F.len _ _ _ _ q1
 have hb1:=hb s1 us I1.dj (by rw[List.append_nil];exact hl);rw[List.append_nil]at hb1;refine wpAny_call (codeAny_mono (F.run X.A X.stack s1 H1 ⟨us,[]⟩ us vs _ Ex hr I1.iR hb1 r q1) λres s' hq=>?_);cases res with
 |error e=>
  obtain⟨a,C,H',rfl,fl,e1⟩:=hq;exact q H1 s1 a C H' s' I1 fl e1
 |ok fl=>
  cases fl with
  |ret u=>obtain⟨v,H',_,_,_,_,_,z⟩:=hq;exact z.elim
  |next=>exact hq.elim
  |brk=>exact hq.elim
  |cont=>exact hq.elim
theorem Cv{H H':Hp}{r:List Addr}{h:Hh}(k:∀b o,H b=some o->H' b=some o):Fm K r r H H'/\(HR K H r h->HR K H' r h):=by
 have f:Fm K r r H H':=⟨λ_ _ e=>e,λ_ e=>.inl e,λa o e _=>k a o e,λa vs e=>by
  rcases e with (e|⟨ob,e⟩)|e
  .exact .inl (.inl (k _ _ e))
  .exact .inl (.inr ⟨ob,k _ _ e⟩)
  .exact .inr e⟩
 refine⟨f,λhr=>⟨hr.len,λn o e=>?_,hr.inj
  ⟩⟩
 obtain⟨a,e1,q⟩:=hr.ob n o e;exact⟨a,e1,q.mono f (λ_ _ _ z=>k _ _ z) (λ_ _ z=>k _ _ z)
  ⟩
theorem FG{F:List Ev.Fn}{w n f:Nat}{ds:List D}{h h':Hh}{d:D}(hF:F.length<=1000)(e:Ev.run F w n (f+Ev.xo) ds h=.ok d h'):∃c:Nat,d=.int c/\Ev.cL F w n f ds h=some (c,h'):=by
 cases n with
 |zero=>cases e
 |succ n=>
  rw[Ev.dW,List.getElem?_eq_none (by show F.length<=f+1000;omega)]at e;simp only[Ev.jG]at e;rw[if_pos (Nat.le_add_left _ _),Nat.add_sub_cancel]at e;split at e
  .rename_i c h2 z;cases e;exact⟨c,rfl,z⟩
  .cases e
theorem Cw{x qual:Str}{st:Stmt}{i j:FI}{N:List Str}{ft f:Nat}{fn:Ev.Fn}{es:Es}{e0:Expr}{xs:List Expr}{p cp p0 p1 p2 p3 p4 p5 p6 p7:Pos}{rf Wc:Addr}{KC:Addr->Nat->Prop}{nc:Nat}{rd:FuncData}{o9:Stmt}{ix:Nat}(T:Top P w K mg G)(A0:kG P w K mg base G n)(A1:qG P w K mg base G cl su n)(hG:G.F.length<=1000)
  (R:yL K mg rf rd o9 Wc KC) (kc:∀c,c<nc->KC (cl c) c/\PySem.W.exmOne K (.ref (cl c)) (.ref Wc)=some true)
  (F:jF K x qual st i.addr i.fd) (S:bK N i.ps (au st)) (Kc:G.F[ft]?=some fn) (hp:i.ps.length=fn.np) (hbody:fn.body=.cons (.tr f nc es) .nil) (hj:G.fi[f]?=some j) (NP:su.contains f=true)
  (hst:cJ st=[.Try [.Return (some (.Call (.Name j.name p) (e0 :: xs) [] cp)) p0] [.ExceptHandler (some (.Name "WayError" p1)) (some "_law_e") [.Return (some (.Call (.Name "_law_refused" p2) [.Name "_law_e" p3] [] p4)) p5] p6] [] [] p7])
  (hs:JA G n (au st) N true (List.range N.length) es (e0 :: xs)) (hcl:qA (au st) j.name=true) (h1:N[ix]?=some ("_law_e" : Str)) (h2:(au st).names.lookup ("_law_e" : Str)=some .local) (h3:(au st).names.lookup ("_law_refused" : Str)=some .globalImplicit) (h4:(au st).names.lookup ("WayError" : Str)=some .globalImplicit)
  (se:∀env:Env,starEach (e0 :: xs) env=(false,eval e0 env) :: starEach xs env:=by intro _;rfl) (sp:∀env:Env,(backTo cp (starEach xs env)).any (·.1)=false:=by intro _;rfl) :
  dz P w K mg base gU (n+1) i.addr i.fd i.ps (jH K G.F G.w (n+1) ft):=by
 have hlen:∀vs H Q E,jH K G.F G.w (n+1) ft vs H Q E->vs.length=i.ps.length:=λvs H Q E h=>by
  obtain⟨r,h,ds,d,h',v1,_,e,_⟩:=h;simp only[Ev.dW,Kc]at e;split at e
  .rename_i z;rw[v1.length,z,hp]
  .cases e
 refine F.ok S hlen λcdv A outer s H vs Q Ex hr fR=>?_;have hl:=hlen vs H Q Ex fR;have hN:vs.length<=N.length:=by
  have:=congrArg List.length S.pre;rw[List.length_take]at this;omega
 generalize hX:(gP gU P w K mg base N qual (au st) i.addr cdv A outer s H Ex).fO=X
 have g:Good G n (au st) N true X:=by
  rw[<-hX];exact⟨rfl,rfl,rfl,λ_ _=>rfl,hr,rfl,λf i hi=>⟨(T.fn f i hi).1,(T.fn f i hi).2.1,(T.fn f i hi).2.2,A0 f i hi⟩,T.bl,T.cs,T.dk⟩
 have NQ:X.stack=X.env :: X.outer:=by rw[<-hX];rfl
 have xf:X.env.frame=some X.env.locals:=by rw[<-hX];rfl
 have xK:X.K=K:=by rw[<-hX];rfl
 have xm:X.mg=mg:=by rw[<-hX];rfl
 have F1:dz X.prog X.w X.K X.mg X.base (mP X.prog X.w) n j.addr j.fd j.ps (qF X.K cl G.F G.w n f):=by rw[<-hX];exact A1 f j hj NP
 refine⟨ql X.K (List.range N.length) (Ev.run G.F G.w n) G.w fn.body,?_,?_⟩
 .rw[hst,hbody];refine dH.of (r8 (t:=ql X.K (List.range N.length) (Ev.run G.F G.w n) G.w (.cons (.tr f nc es) .nil)) λpins s1 σ1 H1 D I q=>?_) λQ s H q=>q;obtain⟨r,fr,h,fl,ai,h',sr,hr',e,q⟩:=q;simp only[Ev.exs,Ev.ex]at e;obtain⟨⟨gn,af⟩,h2',e2,e⟩:=Ev.ah e;obtain⟨ds,h3',e3,e2⟩:=Ev.ah e2;obtain⟨y,Om,e4,e2⟩:=Ev.ah e2;cases e2;cases e;refine wpAny_Try_except ?_;cases ey:Ev.run G.F G.w n f ds h3' with
  |ok d hd=>
   rw[ey]at e4;obtain⟨rfl,rfl⟩:d=y/\hd=h':=by simpa[Ev.tryD]using e4
   have st1:=qm (vV (pos:=p0) (J5 (pos:=cp) (p:=p) hcl hj rfl hs se sp)) (sI (G:=G) (n:=n) (sc:=au st) (N:=N) (df:=true) (m:=List.range N.length)) X g pins s1 σ1 H1 { nx:=λ_ _=>False,rt:=D.rt } I ⟨r,fr,h,.ret d,fr,_,sr,hr',by simp only[Ev.exs,Ev.ex,Ev.ev,e3,Ev.aj,ey],q⟩;refine wpAny_mono st1 (λf s2 hq=>?_) (λ_ _ z=>by rw[g.xe]at z;exact z.elim);cases f with
   |ret u=>exact hq
   |next=>obtain⟨_,_,_,z⟩:=hq;exact z.elim
   |brk=>obtain⟨_,_,_,z⟩:=hq;exact z.elim
   |cont=>obtain⟨_,_,_,z⟩:=hq;exact z.elim
  |bad=>
   rw[ey]at e4;simp only[Ev.tryD]at e4;obtain⟨dc,Oo,e5,e4⟩:=Ev.ah e4;obtain⟨c,rfl,ex⟩:=FG hG e5;obtain⟨e6,e7⟩:=Ev.aE e4;subst e7;simp only[Ev.yu]at e6;split at e6
   case isFalse=>cases e6
   rename_i hc4;cases e6;have c4:c<nc:=by omega
   obtain⟨g1,g2,g3,_⟩:=g.fn f j hj;unfold qA at hcl;simp only[Bool.and_eq_true,Bool.not_eq_true']at hcl;refine wpAny_execs_cons (wpAny_Return_some ?_);refine FF (Ex:=λv _ H'=>v=.ref (cl c)/\∃r',HR X.K H' r' h'/\Fm X.K r r' H1 H') F1 g.room (g.gl (by simpa using hcl.1)) g1 g2 g3 hcl.2 (hs X g) g.xe (se _) (sp _) I ⟨r,fr,h,ds,h3',sr,hr',e3,λvs H2 r2 v2 hr2 f2=>⟨r2,h3',ds,c,h',v2,hr2,ex,λH' r' y1 y2=>⟨rfl,r',y1,f2.trans y2⟩⟩⟩ λH2 s2 a C H' s' I2 fl ⟨hC,r',mK,f3⟩=>?_;cases hC;obtain⟨k1,k2⟩:=kc c c4;refine Fz (i:=ix) (c:=c) (by rw[xK,xm];exact R) k1 (by rw[xK];exact k2) NQ xf g.room.depth (by rw[g.nm];exact S.nd) (by rw[g.nm];exact h1) (by rw[g.sc];exact h2) (g.gl h3) (g.gl h4) I2 fl λp mR m1 m2=>?_;obtain⟨f4,AD⟩:=Cv (K:=X.K) (r:=r') (h:=h') m1;refine q _ mR r' ⟨p,[.str "refused",.int c],rfl,.of m2,⟨_,_,rfl,⟨by decide +kernel,by decide⟩,⟨_,_,rfl,rfl,rfl⟩⟩⟩ (AD mK) (f3.trans f4)
 .obtain⟨r,h,ds,d,h',v1,hr1,e,q⟩:=fR;simp only[Ev.dW,Kc]at e;split at e
  .unfold Ev.endOf at e;obtain⟨⟨fl,ai⟩,h2,e1,e⟩:=Ev.ah e;refine⟨r,Ev.cK fn ds,h,fl,ai,h2,by rw[xK];exact lN v1 hN,by rw[xK];exact hr1,e1,?_⟩;rw[xK];cases fl with
   |nx=>
    cases e;exact λs' H' r' _ hr' f'=>q _ H' r' rfl hr' f'
   |ret d'=>
    cases e;exact q
   |bk=>cases e
   |ct=>cases e
  .cases e
theorem nU{base:Heap}(st:∀n,kG P w K mg base G n->qG P w K mg base G cl su n->kG P w K mg base G (n+1)/\qG P w K mg base G cl su (n+1)):∀n,kG P w K mg base G n/\qG P w K mg base G cl su n
 |0=>⟨λf i _=>B6,λf i _ _=>FD λ_ _=>rfl⟩
 |n+1=>st n (nU st n).1 (nU st n).2
end
end
end Sm
set_option maxRecDepth 100000
namespace Sm
open PySem PySem.Spec PyProof.Rows L2 PySem.W
noncomputable def qH(K:PySem.W.Frag)(N:Addr):Bool:=nsOkIn K N&&quietNames.all λn=>nsIn K N n==some none
noncomputable def Kd(K:PySem.W.Frag)(C Wc D0 D1 D2 D3:Addr)(c:Nat):Bool:=
 findIn K (.ref C) "__getattribute__" ==some (some (.builtin "BaseException.__getattribute__"))&&findIn K (.ref C) "__getattr__" ==some none&&findIn K (.ref C) "__class__" ==some (some (.builtin "object.__class__"))
 &&subIn K (.ref C) (.type "object")==some true&&kitCls K (.ref C) (.ref C)==some true
 &&kitOne K (.ref C) (.ref D0)==some (decide (c=0))&&kitOne K (.ref C) (.ref D1)==some (decide (c=1))&&kitOne K (.ref C) (.ref D2)==some (decide (c=2))&&kitOne K (.ref C) (.ref D3)==some (decide (c=3))
 &&kitOne K (.ref C) (.type "ValueError")==some true&&exmOne K (.ref C) (.ref Wc)==some true&&decide (c<4)
structure Of(K:PySem.W.Frag)(x:Str)(C Wc:Addr):Prop where
 ns:nsIn K mainGlobals x=some (some (.ref C))
 rs:sU K C
 cs:NI K C C 0
 em:exmOne K (.ref C) (.ref Wc)=some true
structure qI(K:PySem.W.Frag)(x:Str)(C Wc D0 D1 D2 D3:Addr)(c:Nat):Prop where
 ns:nsIn K mainGlobals x=some (some (.ref C))
 rs:sU K C
 cs:AV K C c D0 D1 D2 D3
 em:exmOne K (.ref C) (.ref Wc)=some true
theorem qH.ns{K:PySem.W.Frag}{N:Addr}{h:Heap}(q:qH K N=true)(bW:K.In h):∃m,h.Ns N m/\∀n∈quietNames,m n=none:=by
 unfold qH at q;rw[Bool.and_eq_true]at q;have hn:=Heap.Ns.of_isNs (isNs_of_in bW q.1);exact⟨_,hn,λn hn'=>nsMap_none_of_in bW q.1 (beq_iff_eq.mp (List.all_eq_true.mp q.2 n hn'))⟩
theorem kK{K:PySem.W.Frag}{x:Str}{C Wc D0 D1 D2 D3 N:Addr}{c:Nat}{nm q:Str}{bs:List Value}{hdct:Bool}{sn:List Str}{sub:List Value}{ab:Bool}{col:Option Bool}{dd NR:Option Addr}{k0 k1 k2 k3 k5:Option Value}{c0:Value}{cd:ClassData}{sl:Array (Option Value)}
  (a:nsIn K mainGlobals x=some (some (.ref C))) (l:K.lookup C=some (excClassObj nm q C N bs (.ref Wc :: AZ) hdct sn sub ab col dd k0 k1 k2 k3 k5 "ValueError.__new__")) (lw:K.lookup Wc=some ⟨c0,NR,.cls cd,sl⟩) (n:qH K N=true) (nw:qH K cd.ns=true) (f:Kd K C Wc D0 D1 D2 D3 c=true):qI K x C Wc D0 D1 D2 D3 c:=by
 unfold Kd at f;simp only[Bool.and_eq_true,beq_iff_eq,decide_eq_true_eq]at f;obtain⟨⟨⟨⟨⟨⟨⟨⟨⟨⟨⟨f1,f2⟩,f3⟩,f4⟩,f5⟩,f6⟩,f7⟩,f8⟩,f9⟩,qv⟩,wD⟩,qJ⟩:=f;have tq:∀h:Heap,K.In h->OwnTailQ h AZ (.ref Wc :: AZ):=λh bW=>by
  obtain⟨m,h1,h2⟩:=qH.ns nw bW;exact .own (bW _ _ lw) h1 h2 .base
 refine⟨a,⟨_,_,_,_,_,_,_,_,_,_,_,_,_,_,_,_,l,rfl,λh bW=>?_⟩,⟨⟨⟨_,_,_,_,_,_,_,_,_,_,_,_,_,_,_,_,_,l,tq⟩,f1,f2,f3,f4,f5⟩,f6,f7,f8,f9,qv,qJ⟩,wD⟩;obtain⟨m,h1,h2⟩:=qH.ns n bW;exact⟨m,h1,h2 _ (by simp[quietNames]),(tq h bW).tail⟩
end Sm
set_option maxRecDepth 100000
namespace Sm
open PySem PySem.Spec PyProof.Rows L2
open Ev (D O Hh Fr R ay E Es Eo It T S Ss Fl Src aU aP TY BI ME)
section
variable{G:Tb}{cl:Nat->Addr}{eS:List (Str×Nat)}{rz su:List Nat}{n:Nat}{sc:Scope}{N:List Str}{df:Bool}{m:List Nat}{a b:E}{xa xb tg:Expr}{pos:Pos}
end
end Sm
namespace Pv
open Ev (D aU aP TY BI ME T E Es Eo It S Ss Fn big deep b2i rep bL cT bh aD cut bO cP slots)
theorem nd{α:Type _}{a b:α}(h:a=b):a=b:=h
inductive V where
 |az|bl (b:Bool)|int (i:Int)|str (s:List Nat)|tup (l:List V)|lst (l:List V)|bq (l:List V)
inductive Sl where
 |val (v:V)|own (l:List V)|bor (l:List V)|ro (l:List V)
abbrev Fr:=List (Option Sl)
inductive R(α:Type) where
 |ok (a:α) (fr:Fr)
 |bad
noncomputable def R.bind{α β:Type}(r:R α)(f:α->Fr->R β):R β:=
 match r with
 |.ok a h=>f a h
 |.bad=>.bad
@[simp] theorem aj{α β:Type}(a:α)(h:Fr)(f:α->Fr->R β):(R.ok a h).bind f=f a h:=nd rfl
@[simp] theorem yr{α β:Type}(f:α->Fr->R β):(R.bad:R α).bind f=.bad:=nd rfl
theorem ah{α β:Type}{r:R α}{f:α->Fr->R β}{b:β}{h:Fr}(e:r.bind f=.ok b h):∃a h1,r=.ok a h1/\f a h1=.ok b h:=by
 cases r with
 |ok a h1=>exact⟨a,h1,rfl,e⟩
 |bad=>cases e
noncomputable def R.of{α:Type}(o:Option α)(h:Fr):R α:=match o with
 |some a=>.ok a h
 |none=>.bad
@[simp] theorem cy{α:Type}(a:α)(h:Fr):R.of (some a) h=.ok a h:=nd rfl
@[simp] theorem of_none{α:Type}(h:Fr):R.of (none:Option α) h=.bad:=nd rfl
theorem aE{α:Type}{o:Option α}{h h':Fr}{a:α}(e:R.of o h=.ok a h'):o=some a/\h'=h:=by
 cases o with
 |none=>cases e
 |some b=>cases e;exact⟨rfl,rfl⟩
inductive Fl where
 |nx|bk|ct|ret (v:V)
mutual
noncomputable def ofD:D->Option V
 |.az=>some .az
 |.bl b=>some (.bl b)
 |.int i=>some (.int i)
 |.str s=>some (.str s)
 |.tup ds=>(qK ds).map .tup
 |.ref _=>none
noncomputable def qK:List D->Option (List V)
 |[]=>some []
 |d :: ds=>(ofD d).bind λv=>(qK ds).map λvs=>v :: vs
end
noncomputable def bU(f:V->V->Option Bool):List V->List V->Option Bool
 |[],[]=>some true
 |x :: xs,y :: ys=>(f x y).bind λb=>(bU f xs ys).bind λc=>some (b&&c)
 |_,_=>some false
noncomputable def fJ:Nat->V->V->Option Bool
 |0,_,_=>none
 |_+1,.az,.az=>some true
 |_+1,.bl a,.bl b=>some (a==b)
 |_+1,.int a,.int b=>some (a==b)
 |_+1,.bl a,.int b=>some (b2i a==b)
 |_+1,.int a,.bl b=>some (a==b2i b)
 |_+1,.str a,.str b=>some (a==b)
 |n+1,.tup a,.tup b=>bU (fJ n) a b
 |n+1,.lst a,.lst b=>bU (fJ n) a b
 |n+1,.bq a,.lst b=>bU (fJ n) a b
 |n+1,.lst a,.bq b=>bU (fJ n) a b
 |_+1,.bq _,.bq _=>none
 |_+1,_,_=>some false
noncomputable def truthy:V->Bool
 |.az=>false
 |.bl b=>b
 |.int i=>i != 0
 |.str s=>!s.isEmpty
 |.tup ds=>!ds.isEmpty
 |.lst ds=>!ds.isEmpty
 |.bq ds=>!ds.isEmpty
noncomputable def dX(l:List V):Option V:=if l.length<=big then some (.lst l)else none
noncomputable def iB(l:List V):Option V:=if l.length<=big then some (.tup l)else none
noncomputable def bI:aU->V->V->Option V
 |.add,.int i,.int j=>some (.int (i+j))
 |.add,.str a,.str b=>if a.length+b.length<=big then some (.str (a++b))else none
 |.add,.tup a,.tup b=>if a.length+b.length<=big then some (.tup (a++b))else none
 |.add,.lst a,.lst b=>dX (a++b)
 |.sub,.int i,.int j=>some (.int (i - j))
 |.mul,.int i,.int j=>if bL i j then some (.int (i*j))else none
 |.mul,.str a,.int k=>if 0<=k/\k<=1000/\a.length<=1000 then some (.str (rep k.toNat a))else none
 |.mul,.tup a,.int k=>if 0<=k/\k<=1000/\a.length<=1000 then some (.tup (rep k.toNat a))else none
 |.mul,.lst a,.int k=>if 0<=k/\k<=1000/\a.length<=1000 then dX (rep k.toNat a)else none
 |.fdiv,.int i,.int j=>if 0<j/\j<1073741824 then some (.int (i / j))else none
 |.mod,.int i,.int j=>if 0<j then some (.int (i % j))else none
 |_,_,_=>none
noncomputable def cop(o:aP)(x y:V):Option Bool:=match o,x,y with
 |.eq,x,y=>fJ deep x y
 |.ne,x,y=>(fJ deep x y).map (!·)
 |.lt,.int i,.int j=>some (decide (i<j))
 |.gt,.int i,.int j=>some (decide (j<i))
 |.oQ,x,.az=>some (match x with|.az=>true|_=>false)
 |.lJ,x,.az=>some (match x with|.az=>false|_=>true)
 |_,_,_=>none
noncomputable def eY(x y:V):Option V:=match x,y with
 |.tup ds,.int i=>bh ds i
 |.str s,.int i=>(bh s i).map λc=>.str [c]
 |.lst ds,.int i=>bh ds i
 |.bq ds,.int i=>bh ds i
 |_,_=>none
noncomputable def fH(x:V)(lo hi:Option Int):Option V:=match x with
 |.tup ds=>some (.tup (cut ds lo hi))
 |.str s=>some (.str (cut s lo hi))
 |.lst ds=>dX (cut ds lo hi)
 |.bq ds=>dX (cut ds lo hi)
 |_=>none
noncomputable def toT:V->Option V
 |.tup l=>some (.tup l)
 |.lst l=>iB l
 |.bq l=>iB l
 |_=>none
noncomputable def cz:V->TY->Bool
 |.bl _,.bool=>true
 |.bl _,.int=>true
 |.int _,.int=>true
 |.str _,.str=>true
 |.tup _,.tuple=>true
 |.lst _,.list=>true
 |.bq _,.list=>true
 |_,_=>false
noncomputable def boolsOf:List V->Option (List Bool)
 |[]=>some []
 |.bl b :: ds=>(boolsOf ds).map λr=>b :: r
 |_=>none
noncomputable def intsOf:List V->Option (List Int)
 |[]=>some []
 |.int i :: ds=>(intsOf ds).map λr=>i :: r
 |_=>none
noncomputable def strsOf:List V->Option (List (List Nat))
 |[]=>some []
 |.str s :: ds=>(strsOf ds).map λr=>s :: r
 |_=>none
noncomputable def pq:V->Option (List V)
 |.lst l=>some l
 |.bq l=>some l
 |_=>none
noncomputable def dS(b:BI)(xs:List V):Option V:=match b,xs with
 |.len,[.str s]=>if s.length<=big then some (.int s.length)else none
 |.len,[.tup ds]=>some (.int ds.length)
 |.len,[x]=>(pq x).map λds=>.int ds.length
 |.sum,[x]=>((pq x).bind intsOf).map λis=>.int is.sum
 |.min,[.int i,.int j]=>some (.int (if j<i then j else i))
 |_,_=>none
noncomputable def dZ(m:ME)(o:V)(xs:List V):Option V:=match m,o,xs with
 |.join,.str sep,[x]=>((pq x).bind strsOf).bind λss=>if (ss.map (·.length)).sum+ss.length*sep.length<=big then some (.str (bO sep ss))else none
 |_,_,_=>none
noncomputable def j6(m:ME)(l:List V)(xs:List V):Option (V×List V):=match m,xs with
 |.append,[x]=>if l.length<big then some (.az,l++[x])else none
 |.extend,[.lst es]=>if l.length+es.length<=big then some (.az,l++es)else none
 |.pop,[]=>match l[l.length - 1]? with
  |some x=>some (x,l.dropLast)
  |none=>none
 |_,_=>none
noncomputable def sV:ME->Bool
 |.extend=>true
 |_=>false
noncomputable def fW:ME->Bool
 |.append=>true
 |.extend=>true
 |.pop=>true
 |_=>false
noncomputable def pM:V->Bool
 |.az=>true
 |.bl _=>true
 |.int _=>true
 |.str _=>true
 |_=>false
noncomputable def uF(x:V):List (D×D)->Option V
 |[]=>none
 | (k,v) :: r=>match (ofD k).bind λk'=>fJ 1 k' x with
  |some true=>ofD v
  |some false=>uF x r
  |none=>none
noncomputable def fS(x:V)(kvs:List (D×D)):Option V:=if pM x then uF x kvs else none
noncomputable def eF:V->Option (List V)
 |.tup ds=>some ds
 |.str s=>some (s.map λc=>.str [c])
 |.lst ds=>some ds
 |.bq ds=>some ds
 |_=>none
noncomputable def FH:V->Option (List V)
 |.tup ds=>some ds
 |_=>none
noncomputable def range(lo:Int)(n:Nat):List V:=(List.range n).map λ(i:Nat)=>.int (lo+i)
noncomputable def dN:List V->Option (List V)
 |[.int j]=>if -(2 ^ 62)<=j/\j<2 ^ 62 then some (range 0 j.toNat)else none
 |[.int i,.int j]=>if -(2 ^ 62)<=i/\i<2 ^ 62/\-(2 ^ 62)<=j/\j<2 ^ 62 then some (range i (j - i).toNat)else none
 |_=>none
noncomputable def fj:Int->List V->List V
 |_,[]=>[]
 |k,x :: xs=>.tup [.int k,x] :: fj (k+1) xs
noncomputable def put(fr:Fr)(i:Nat)(s:Sl):Option Fr:=match fr[i]? with
 |some (some (.bor _))=>none
 |some (some (.ro _))=>none
 |_=>some (fr.set i (some s))
noncomputable def bP:List Nat->List V->Fr->Option Fr
 |[],[],fr=>some fr
 |i :: is,d :: ds,fr=>(put fr i (.val d)).bind (bP is ds)
 |_,_,_=>none
noncomputable def aZ:T->V->Fr->Option Fr
 |.one i,d,fr=>put fr i (.val d)
 |.many l,.tup ds,fr=>bP l ds fr
 |_,_,_=>none
noncomputable def undef(t:T)(fr:Fr):Bool:=(slots t).all λi=>(fr[i]?.join).isNone
noncomputable def Sl.read:Sl->Sl
 |.own l=>.ro l
 |.bor l=>.ro l
 |s=>s
noncomputable def qL(fr:Fr):Fr:=fr.map (Option.map Sl.read)
noncomputable def Sl.fX:Sl->Sl
 |.own l=>.val (.lst l)
 |s=>s
noncomputable def eG(fr:Fr):Fr:=fr.map (Option.map Sl.fX)
noncomputable def Sl.walk:Sl->Sl
 |.own l=>.val (.lst l)
 |.bor l=>.ro l
 |s=>s
noncomputable def kL(is:List Nat)(fr:Fr):Fr:=is.foldl (λfr i=>match fr[i]? with
 |some (some s)=>fr.set i (some s.walk)
 |_=>fr) fr
noncomputable def Sl.out:Sl->Option (List V)
 |.bor l=>some l
 |.ro l=>some l
 |_=>none
noncomputable def Sl.lend:Sl->Option Sl
 |.own l=>some (.bor l)
 |.bor l=>some (.bor l)
 |.ro l=>some (.ro l)
 |.val _=>none
noncomputable def lent(fr:Fr)(i:Nat):Option Sl:=match fr[i]? with
 |some (some s)=>s.lend
 |_=>none
noncomputable def Sl.with:Sl->List V->Sl
 |.own _,l=>.own l
 |.bor _,l=>.bor l
 |s,_=>s
noncomputable def back:List Nat->List (List V)->Fr->Option Fr
 |[],[],fr=>some fr
 |i :: is,l :: ls,fr=>match fr[i]? with
  |some (some s)=>back is ls (fr.set i (some (s.with l)))
  |_=>none
 |_,_,_=>none
noncomputable def bZ(f:V->Option (Option V)):List V->Option (List V)
 |[]=>some []
 |d :: ds=>(f d).bind λo=>(bZ f ds).bind λr=>some (o.toList++r)
noncomputable def forL(f:V->Fr->R Fl):List V->Fr->R Fl
 |[],fr=>.ok .nx fr
 |d :: ds,fr=>(f d fr).bind λp af=>match p with
   |.nx=>forL f ds af
   |.ct=>forL f ds af
   |.bk=>.ok .nx af
   |.ret x=>.ok (.ret x) af
noncomputable def dB(t:Fr->R Bool)(f:Fr->R Fl):Nat->Fr->R Fl
 |0,_=>.bad
 |n+1,fr=>(t fr).bind λb af=>if b then (f af).bind λp ak=>match p with
   |.nx=>dB t f n ak
   |.ct=>dB t f n ak
   |.bk=>.ok .nx ak
   |.ret x=>.ok (.ret x) ak
  else .ok .nx af
noncomputable def iw:Es->List Nat
 |.nil=>[]
 |.cons (.v i) es=>i :: iw es
 |.cons _ es=>iw es
noncomputable def Ke(m:ME):E->List Nat
 |.v i=>if fW m then [i]else []
 |_=>[]
mutual
noncomputable def bG:E->List Nat
 |.c _=>[]|.v _=>[]|.tup es=>dR es|.lst es=>dR es
 |.bin _ a b=>bG a++bG b|.cmp _ a b=>bG a++bG b
 |.nt a=>bG a|.neg a=>bG a|.an a b=>bG a++bG b|.orr a b=>bG a++bG b|.fG t a b=>bG t++(bG a++bG b)
 |.ix a b=>bG a++bG b|.sl a lo hi=>bG a++(iT lo++iT hi)
 |.cl _ es=>dR es++iw es|.bi _ es=>dR es|.me m o es=>bG o++(dR es++Ke m o)
 |.eX a _=>bG a
 |.comp _ _ it _=>yN it
 |.gW it=>yN it
 |.gQ _ a=>bG a
 |.gG a=>bG a
noncomputable def dR:Es->List Nat
 |.nil=>[]
 |.cons e es=>bG e++dR es
noncomputable def iT:Eo->List Nat
 |.no=>[]
 |.yes e=>bG e
noncomputable def yN:It->List Nat
 |.seq e=>bG e|.gj es=>dR es
 |.enum a=>bG a|.rev a=>bG a
end
noncomputable def kf(a:E)(l:List Nat):Bool:=match a with
 |.v i=>!l.contains i
 |_=>l.isEmpty
noncomputable def itv:It->List Nat
 |.seq (.v i)=>[i]
 |.enum (.v i)=>[i]
 |.rev (.v i)=>[i]
 |_=>[]
abbrev ay:=Nat->List Sl->Option (V×List (List V))
noncomputable def intOf:V->Option Int
 |.int i=>some i
 |_=>none
noncomputable def gS(k:Bool)(fr:Fr)(i:Nat):Option V:=match fr[i]? with
 |some (some (.val v))=>some v
 |some (some (.own l))=>if k then some (.lst l)else none
 |some (some (.bor l))=>if k then some (.lst l)else none
 |some (some (.ro l))=>if k then some (.lst l)else none
 |_=>none
noncomputable def uG(k:Bool)(fr:Fr)(i:Nat):Option V:=match fr[i]? with
 |some (some (.ro l))=>some (.lst l)
 |_=>gS k fr i
noncomputable def src(k:Bool)(fr:Fr)(e:E)(r:R V):R V:=match e with
 |.v i=>R.of (uG k fr i) fr
 |_=>r
noncomputable def ef(fr:Fr):E->Option Nat
 |.v i=>if (lent fr i).isSome then some i else none
 |_=>none
noncomputable def args(fr:Fr):List (Nat ⊕ V)->Option (List Sl)
 |[]=>some []
 |.inl i :: r=>(lent fr i).bind λs=>(args fr r).map λl=>s :: l
 |.inr v :: r=>(args fr r).map λl=>.val v :: l
noncomputable def bf:List (Nat ⊕ V)->List Nat
 |[]=>[]
 |.inl i :: r=>i :: bf r
 |.inr _ :: r=>bf r
noncomputable def dm(P:ay)(f:Nat)(as:List (Nat ⊕ V))(fr:Fr):R V:=
 if (bf as).Nodup then match args fr as with
  |some sl=>match P f sl with
   |some (v,outs)=>R.of ((back (bf as) outs fr).map λaf=>(v,af)) fr |>.bind λp _=>.ok p.1 p.2
   |none=>.bad
  |none=>.bad
 else .bad
mutual
noncomputable def ev(P:ay):Bool->E->Fr->R V
 |_,.c d,fr=>R.of (ofD d) fr
 |k,.v i,fr=>R.of (gS k fr i) fr
 |_,.tup es,fr=>(bz P false es fr).bind λds af=>R.of (iB ds) af
 |_,.lst es,fr=>(bz P false es fr).bind λds af=>R.of (dX ds) af
 |_,.bin o a b,fr=>(ev P (kf a (bG b)) a fr).bind λx af=>(ev P true b af).bind λy ak=>R.of (bI o x y) ak
 |_,.cmp o a b,fr=>(ev P (kf a (bG b)) a fr).bind λx af=>(ev P true b af).bind λy ak=>R.of ((cop o x y).map .bl) ak
 |_,.nt a,fr=>(ev P true a fr).bind λx af=>match x with
   |.bl b=>.ok (.bl (!b)) af
   |_=>.bad
 |_,.neg a,fr=>(ev P true a fr).bind λx af=>match x with
   |.int i=>.ok (.int (-i)) af
   |_=>.bad
 |k,.an a b,fr=>(ev P true a fr).bind λx af=>match x with
   |.bl true=>ev P k b af
   |.bl false=>.ok (.bl false) af
   |_=>.bad
 |k,.orr a b,fr=>(ev P true a fr).bind λx af=>match x with
   |.bl true=>.ok (.bl true) af
   |.bl false=>ev P k b af
   |_=>.bad
 |k,.fG t a b,fr=>(av P t fr).bind λc af=>if c then ev P k a af else ev P k b af
 |_,.ix a b,fr=>(ev P (kf a (bG b)) a fr).bind λx af=>(ev P true b af).bind λy ak=>R.of (eY x y) ak
 |_,.sl a lo hi,fr=>(ev P (kf a (iT lo++iT hi)) a fr).bind λx af=>(dU P lo af).bind λl ak=>(dU P hi ak).bind λu bw=>R.of (fH x l u) bw
 |_,.cl f es,fr=>(cQ P es fr).bind λas af=>dm P f as af
 |_,.bi b es,fr=>(bz P true es fr).bind λds af=>R.of (dS b ds) af
 |_,.me m o es,fr=>if fW m then match ef fr o with
   |some i=>(bz P (sV m) es fr).bind λds af=>match af[i]? with
    |some (some (.own l))=>match j6 m l ds with
     |some (v,l')=>.ok v (af.set i (some (.own l')))
     |none=>.bad
    |some (some (.bor l))=>match j6 m l ds with
     |some (v,l')=>.ok v (af.set i (some (.bor l')))
     |none=>.bad
    |_=>.bad
   |none=>.bad
  else (ev P (kf o (dR es)) o fr).bind λx af=>(bz P true es af).bind λds ak=>R.of (dZ m x ds) ak
 |_,.eX a ts,fr=>(ev P true a fr).bind λx af=>.ok (.bl (ts.any (cz x))) af
 |_,.comp elt t it cond,fr=>(b9 P true it fr).bind λs af=>if undef t af then
   R.of ((bZ (λd=>match aZ t d (qL af)with
    |none=>none
    |some ak=>match gX P cond ak with
     |.ok c _=>if c then (match ev P false elt ak with|.ok x _=>some (some x)|.bad=>none)else some none
     |.bad=>none) s).bind dX) af else .bad
 |_,.gW it,fr=>(b9 P true it fr).bind λs af=>R.of (dX s) af
 |_,.gQ kvs a,fr=>(ev P true a fr).bind λx af=>R.of (fS x kvs) af
 |_,.gG a,fr=>(ev P true a fr).bind λx af=>R.of (toT x) af
termination_by _ e=>(sizeOf e,0)
noncomputable def bz(P:ay):Bool->Es->Fr->R (List V)
 |_,.nil,fr=>.ok [] fr
 |k,.cons e es,fr=>(ev P (k&&kf e (dR es)) e fr).bind λd af=>(bz P k es af).bind λds ak=>.ok (d :: ds) ak
termination_by _ e=>(sizeOf e,0)
noncomputable def cQ(P:ay):Es->Fr->R (List (Nat ⊕ V))
 |.nil,fr=>.ok [] fr
 |.cons e es,fr=>match ef fr e with
   |some i=>(cQ P es fr).bind λr af=>.ok (.inl i :: r) af
   |none=>(ev P false e fr).bind λd af=>(cQ P es af).bind λr ak=>.ok (.inr d :: r) ak
termination_by e=>(sizeOf e,0)
noncomputable def dU(P:ay):Eo->Fr->R (Option Int)
 |.no,fr=>.ok none fr
 |.yes e,fr=>(ev P true e fr).bind λd af=>R.of ((intOf d).map some) af
termination_by e=>(sizeOf e,0)
noncomputable def gX(P:ay):Eo->Fr->R Bool
 |.no,fr=>.ok true fr
 |.yes e,fr=>av P e fr
termination_by e=>(sizeOf e,0)
noncomputable def av(P:ay):E->Fr->R Bool
 |.an a b,fr=>(av P a fr).bind λk af=>if k then av P b af else .ok false af
 |.orr a b,fr=>(av P a fr).bind λk af=>if k then .ok true af else av P b af
 |.nt a,fr=>(av P a fr).bind λk af=>.ok (!k) af
 |e,fr=>(ev P true e fr).bind λx af=>.ok (truthy x) af
termination_by e=>(sizeOf e,1)
noncomputable def b9(P:ay):Bool->It->Fr->R (List V)
 |k,.seq e,fr=>(src k fr e (ev P k e fr)).bind λx af=>R.of (eF x) af
 |_,.gj es,fr=>(bz P true es fr).bind λds af=>R.of (dN ds) af
 |k,.enum a,fr=>(src k fr a (ev P k a fr)).bind λx af=>R.of ((pq x).map λs=>fj 0 s) af
 |_,.rev a,fr=>(ev P true a fr).bind λx af=>R.of ((FH x).map λs=>s.reverse) af
termination_by _ e=>(sizeOf e,0)
end
noncomputable def isNew:E->Bool
 |.lst _=>true
 |.gW _=>true
 |_=>false
noncomputable def uH(k:Nat):V->Option V
 |.int c=>if 0<=c/\c<k then some (.tup [.str [114,101,102,117,115,101,100],.int c])else none
 |_=>none
mutual
noncomputable def ex(P:ay)(w:Nat):S->Fr->R Fl
 |.set i e,fr=>(ev P false e fr).bind λx af=>if isNew e then (match x with
   |.lst l=>(R.of (put af i (.own l)) af).bind λak _=>.ok .nx ak
   |_=>.bad)
  else (R.of (put af i (.val x)) af).bind λak _=>.ok .nx ak
 |.jT l e,fr=>(ev P false e fr).bind λx af=>(R.of (aZ (.many l) x af) af).bind λak _=>.ok .nx ak
 |.exp e,fr=>(ev P true e fr).bind λ_ af=>.ok .nx af
 |.ret e,fr=>(ev P false e (eG fr)).bind λx af=>.ok (.ret x) af
 |.iff t a b,fr=>(av P t fr).bind λk af=>if k then exs P w a af else exs P w b af
 |.for t it b,fr=>(b9 P false it (kL (itv it) fr)).bind λs af=>forL (λd ak=>match aZ t d ak with
   |some bw=>exs P w b bw
   |none=>.bad) s af
 |.jU t b,fr=>dB (λak=>av P t ak) (λak=>exs P w b ak) w fr
 |.cX _,_=>.bad
 |.tr f k es,fr=>(cQ P es fr).bind λas af=>if (bf as).isEmpty then (match dm P f as af with
   |.ok v ak=>.ok (.ret v) ak
   |.bad=>(dm P (f+Ev.xo) as af).bind λc ak=>R.of ((uH k c).map .ret) ak)
  else .bad
noncomputable def exs(P:ay)(w:Nat):Ss->Fr->R Fl
 |.nil,fr=>.ok .nx fr
 |.cons s ss,fr=>(ex P w s fr).bind λp af=>match p with
   |.nx=>exs P w ss af
   |p=>.ok p af
end
noncomputable def cK(fn:Fn)(ds:List Sl):Fr:=ds.map some++List.replicate (fn.ns - fn.np) none
noncomputable def outs(np:Nat)(fr:Fr):List (List V):=(fr.take np).filterMap λo=>o.bind Sl.out
noncomputable def wF(_:Fn)(_:List Sl):Option (V×List (List V)):=none
abbrev bS:=Nat->List Sl->Option Nat
noncomputable def uI(X:bS)(f:Nat)(as:List (Nat ⊕ V))(fr:Fr):Option Nat:=if (bf as).Nodup then (args fr as).bind (X f)else none
mutual
noncomputable def xe(P:ay)(X:bS):E->Fr->Option Nat
 |.cl f es,fr=>match cQ P es fr with
  |.ok as af=>uI X f as af
  |.bad=>qM P X es fr
 |.ix a _,fr=>xe P X a fr
 |.me m o es,fr=>if fW m then match ef fr o with
   |some _=>sW P X (sV m) es fr
   |none=>none
  else none
 |_,_=>none
noncomputable def qM(P:ay)(X:bS):Es->Fr->Option Nat
 |.nil,_=>none
 |.cons e es,fr=>match ef fr e with
  |some _=>qM P X es fr
  |none=>match ev P false e fr with
   |.ok _ af=>qM P X es af
   |.bad=>xe P X e fr
noncomputable def sW(P:ay)(X:bS)(k:Bool):Es->Fr->Option Nat
 |.nil,_=>none
 |.cons e es,fr=>match ev P (k&&kf e (dR es)) e fr with
  |.ok _ af=>sW P X k es af
  |.bad=>xe P X e fr
end
noncomputable def dO(f:V->Fr->R Fl)(g:V->Fr->Option Nat):List V->Fr->Option Nat
 |[],_=>none
 |d :: ds,fr=>match f d fr with
   |.ok .nx af=>dO f g ds af
   |.ok .ct af=>dO f g ds af
   |.ok _ _=>none
   |.bad=>g d fr
noncomputable def ee(t:Fr->R Bool)(f:Fr->R Fl)(g:Fr->Option Nat):Nat->Fr->Option Nat
 |0,_=>none
 |n+1,fr=>match t fr with
  |.ok true af=>match f af with
   |.ok .nx ak=>ee t f g n ak
   |.ok .ct ak=>ee t f g n ak
   |.ok _ _=>none
   |.bad=>g af
  |_=>none
mutual
noncomputable def xs(P:ay)(X:bS)(w:Nat):S->Fr->Option Nat
 |.cX c,_=>some c
 |.set _ e,fr=>xe P X e fr
 |.exp e,fr=>xe P X e fr
 |.ret e,fr=>xe P X e (eG fr)
 |.iff t a b,fr=>match av P t fr with
  |.ok k af=>if k then xss P X w a af else xss P X w b af
  |.bad=>xe P X t fr
 |.for t it b,fr=>match b9 P false it (kL (itv it) fr)with
  |.ok s af=>dO (λd ak=>match aZ t d ak with|some bw=>exs P w b bw|none=>.bad) (λd ak=>match aZ t d ak with|some bw=>xss P X w b bw|none=>none) s af
  |.bad=>none
 |.jU t b,fr=>ee (λak=>av P t ak) (λak=>exs P w b ak) (λak=>xss P X w b ak) w fr
 |_,_=>none
noncomputable def xss(P:ay)(X:bS)(w:Nat):Ss->Fr->Option Nat
 |.nil,_=>none
 |.cons s ss,fr=>match ex P w s fr with
  |.ok .nx af=>xss P X w ss af
  |.ok _ _=>none
  |.bad=>xs P X w s fr
end
noncomputable def Sl.ef:Sl->Bool
 |.val _=>true
 |_=>false
noncomputable def jG(X:bS)(f:Nat)(ds:List Sl):Option (V×List (List V)):=if Ev.xo<=f/\ds.all Sl.ef=true then (X (f - Ev.xo) ds).map λ(c:Nat)=>((.int (c:Int),[]):V×List (List V))else none
noncomputable def runs(F:List Fn)(w:Nat):Nat->ay×bS
 |0=>(λ_ _=>none,λ_ _=>none)
 |n+1=>
  let X:bS:=λf ds=>match F[f]? with
   |some fn=>if ds.length=fn.np then xss (runs F w n).1 (runs F w n).2 w fn.body (cK fn ds)else none
   |none=>none
  (λf ds=>match F[f]? with
   |some fn=>if ds.length=fn.np then match exs ((runs F w n).1) w fn.body (cK fn ds)with
     |.ok (.ret v) fr=>some (v,outs fn.np fr)
     |.ok .nx fr=>some (.az,outs fn.np fr)
     |_=>wF fn ds
    else none
   |none=>jG X f ds,X)
noncomputable def run(F:List Fn)(w n:Nat):ay:=(runs F w n).1
noncomputable def cL(F:List Fn)(w n:Nat):bS:=(runs F w n).2
theorem dW(F:List Fn)(w n f:Nat)(ds:List Sl):run F w (n+1) f ds=match F[f]? with
   |some fn=>if ds.length=fn.np then match exs (run F w n) w fn.body (cK fn ds)with
     |.ok (.ret v) fr=>some (v,outs fn.np fr)
     |.ok .nx fr=>some (.az,outs fn.np fr)
     |_=>wF fn ds
    else none
   |none=>jG (cL F w (n+1)) f ds:=nd rfl
theorem fT(F:List Fn)(w n f:Nat)(ds:List Sl):cL F w (n+1) f ds=match F[f]? with
   |some fn=>if ds.length=fn.np then xss (run F w n) (cL F w n) w fn.body (cK fn ds)else none
   |none=>none:=nd rfl
end Pv
namespace Pv
open Ev (D O Hh aU aP TY BI ME T E Es Eo It S Ss Fn big deep b2i rep bL cT bh aD cut bO cP slots aH)
section
variable(h:Hh)(S:Nat->Prop)
mutual
noncomputable def Rep:V->D->Prop
 |.az,d=>d=.az
 |.bl b,d=>d=.bl b
 |.int i,d=>d=.int i
 |.str s,d=>d=.str s
 |.tup l,d=>∃ds,d=.tup ds/\aq l ds
 |.lst l,d=>∃n ds,d=.ref n/\S n/\h[n]?=some (.lst ds)/\aq l ds
 |.bq l,d=>∃n ds,d=.ref n/\S n/\h[n]?=some (.bq ds)/\aq l ds
noncomputable def aq:List V->List D->Prop
 |[],ds=>ds=[]
 |v :: vs,ds=>∃d es,ds=d :: es/\Rep v d/\aq vs es
end
noncomputable def aN:V->D->Prop
 |.lst l,d=>∃n ds,d=.ref n/\h[n]?=some (.lst ds)/\aq h S l ds
 |v,d=>Rep h S v d
noncomputable def dY:List V->List D->Prop
 |[],ds=>ds=[]
 |v :: vs,ds=>∃d es,ds=d :: es/\aN h S v d/\dY vs es
end
abbrev U:Nat->Prop:=λ_=>True
section
variable{h h':Hh}{S S':Nat->Prop}
mutual
theorem Rep.mono(f:∀m,S m->h'[m]?=h[m]?)(g:∀m,S m->S' m):∀{v:V}{d:D},Rep h S v d->Rep h' S' v d
 |.az,_,q=>q
 |.bl _,_,q=>q
 |.int _,_,q=>q
 |.str _,_,q=>q
 |.tup l,_,⟨ds,a,b⟩=>⟨ds,a,aq.mono f g b⟩
 |.lst l,_,⟨n,ds,a,b,c,e⟩=>⟨n,ds,a,g n b,by rw[f n b];exact c,aq.mono f g e⟩
 |.bq l,_,⟨n,ds,a,b,c,e⟩=>⟨n,ds,a,g n b,by rw[f n b];exact c,aq.mono f g e⟩
theorem aq.mono(f:∀m,S m->h'[m]?=h[m]?)(g:∀m,S m->S' m):∀{v:List V}{d:List D},aq h S v d->aq h' S' v d
 |[],_,q=>q
 |_ :: _,_,⟨d,es,a,b,c⟩=>⟨d,es,a,Rep.mono f g b,aq.mono f g c⟩
end
theorem aq.nil:aq h S [] []:=by simp[aq]
theorem aq.cons{v:V}{d:D}{vs:List V}{ds:List D}(a:Rep h S v d)(b:aq h S vs ds):aq h S (v :: vs) (d :: ds):=by simp only[aq];exact⟨d,ds,rfl,a,b⟩
theorem Rep.top{v:V}{d:D}(q:Rep h S v d):aN h S v d:=by
 cases v<;>first|exact q | (obtain⟨n,ds,a,b,c,e⟩:=q;exact⟨n,ds,a,c,e⟩)
theorem aN.u{v:V}{d:D}(q:aN h S v d):Rep h U v d:=by
 cases v with
 |lst l=>obtain⟨n,ds,a,b,c⟩:=q;exact⟨n,ds,a,trivial,b,c.mono (λ_ _=>rfl) λ_ _=>trivial⟩
 |_=>exact Rep.mono (S:=S) (λ_ _=>rfl) (λ_ _=>trivial) q
theorem aq.u{v:List V}{d:List D}(q:aq h S v d):aq h U v d:=q.mono (λ_ _=>rfl) λ_ _=>trivial
theorem aN.mono{v:V}{d:D}(f:∀m,m<h.length->h'[m]?=h[m]?)(k:∀m,S m->m<h.length)(g:∀m,S m->S' m)(q:aN h S v d):aN h' S' v d:=by
 cases v with
 |lst l=>
  obtain⟨n,ds,a,b,c⟩:=q;exact⟨n,ds,a,by rw[f n (List.getElem?_eq_some_iff.mp b).1];exact b,c.mono (λm z=>f m (k m z)) g⟩
 |_=>exact Rep.mono (λm z=>f m (k m z)) g q
theorem aq.length:∀{v:List V}{d:List D},aq h S v d->v.length=d.length
 |[],_,q=>by simp only[aq]at q;subst q;rfl
 |_ :: _,_,q=>by simp only[aq]at q;obtain⟨d,es,rfl,_,c⟩:=q;simp[c.length]
theorem aq.get:∀{v:List V}{d:List D}{i:Nat}{x:V},aq h S v d->v[i]?=some x->∃y,d[i]?=some y/\Rep h S x y
 |[],_,_,_,_,e=>by simp at e
 |_ :: _,_,0,_,q,e=>by
  simp only[aq]at q;obtain⟨d,es,rfl,b,_⟩:=q;simp at e;subst e;exact⟨d,by simp,b⟩
 |_ :: _,_,i+1,_,q,e=>by
  simp only[aq]at q;obtain⟨d,es,rfl,_,c⟩:=q;obtain⟨y,a,b⟩:=c.get (i:=i) (by simpa using e);exact⟨y,by simpa using a,b⟩
theorem aq.append:∀{v w:List V}{d e:List D},aq h S v d->aq h S w e->aq h S (v++w) (d++e)
 |[],_,_,_,a,b=>by simp only[aq]at a;subst a;simpa using b
 |_ :: _,_,_,_,a,b=>by
  simp only[aq]at a;obtain⟨d,es,rfl,x,y⟩:=a;exact .cons x (y.append b)
theorem aq.take:∀{v:List V}{d:List D}(n:Nat),aq h S v d->aq h S (v.take n) (d.take n)
 |_,_,0,_=>by simp[aq]
 |[],_,_+1,a=>by simp only[aq]at a;subst a;simp[aq]
 |_ :: _,_,n+1,a=>by
  simp only[aq]at a;obtain⟨d,es,rfl,x,y⟩:=a;simp only[List.take_succ_cons];exact .cons x (y.take n)
theorem aq.drop:∀{v:List V}{d:List D}(n:Nat),aq h S v d->aq h S (v.drop n) (d.drop n)
 |_,_,0,a=>by simpa using a
 |[],_,_+1,a=>by simp only[aq]at a;subst a;simp[aq]
 |_ :: _,_,n+1,a=>by
  simp only[aq]at a;obtain⟨d,es,rfl,x,y⟩:=a;simp only[List.drop_succ_cons];exact y.drop n
theorem aq.dropLast:∀{v:List V}{d:List D},aq h S v d->aq h S v.dropLast d.dropLast:=λ{v d} a=>by
 rw[List.dropLast_eq_take,List.dropLast_eq_take,a.length];exact a.take _
theorem aq.reverse:∀{v:List V}{d:List D},aq h S v d->aq h S v.reverse d.reverse
 |[],_,a=>by simp only[aq]at a;subst a;simp[aq]
 |_ :: _,_,a=>by
  simp only[aq]at a;obtain⟨d,es,rfl,x,y⟩:=a;simp only[List.reverse_cons];exact y.reverse.append (.cons x .nil)
theorem aq.rep{v:List V}{d:List D}(a:aq h S v d):∀k:Nat,aq h S (Ev.rep k v) (Ev.rep k d)
 |0=>by simp[Ev.rep,aq]
 |k+1=>by
  have z:=aq.rep a k;simp only[Ev.rep,List.replicate_succ,List.flatten_cons]at z ⊢;exact a.append z
theorem aq.cut{v:List V}{d:List D}(a:aq h S v d)(lo hi:Option Int):aq h S (Ev.cut v lo hi) (Ev.cut d lo hi):=by
 unfold Ev.cut;rw[a.length];exact(a.drop _).take _
theorem aq.map{α:Type}{f:α->V}{g:α->D}(q:∀a,Rep h S (f a) (g a)):∀l:List α,aq h S (l.map f) (l.map g)
 |[]=>.nil
 |_ :: l=>.cons (q _) (aq.map q l)
mutual
theorem Rep.uniq:∀{v w:V}{d:D},Rep h U v d->Rep h U w d->v=w
 |.az,w,_,a,b=>by simp only[Rep]at a;subst a;cases w<;>simp[Rep]at b<;>rfl
 |.bl _,w,_,a,b=>by simp only[Rep]at a;subst a;cases w<;>simp[Rep]at b<;>rw[b]
 |.int _,w,_,a,b=>by simp only[Rep]at a;subst a;cases w<;>simp[Rep]at b<;>rw[b]
 |.str _,w,_,a,b=>by simp only[Rep]at a;subst a;cases w<;>simp[Rep]at b<;>rw[b]
 |.tup l,w,_,a,b=>by
  simp only[Rep]at a;obtain⟨ds,rfl,a⟩:=a;cases w<;>simp[Rep]at b
  rw[aq.uniq a b]
 |.lst l,w,_,a,b=>by
  simp only[Rep]at a;obtain⟨n,ds,rfl,_,a1,a⟩:=a;cases w<;>simp[Rep]at b
  .obtain⟨ds',b1,b⟩:=b;rw[a1]at b1;cases b1;rw[aq.uniq a b]
  .obtain⟨ds',b1,b⟩:=b;rw[a1]at b1;cases b1
 |.bq l,w,_,a,b=>by
  simp only[Rep]at a;obtain⟨n,ds,rfl,_,a1,a⟩:=a;cases w<;>simp[Rep]at b
  .obtain⟨ds',b1,b⟩:=b;rw[a1]at b1;cases b1
  .obtain⟨ds',b1,b⟩:=b;rw[a1]at b1;cases b1;rw[aq.uniq a b]
theorem aq.uniq:∀{v w:List V}{d:List D},aq h U v d->aq h U w d->v=w
 |[],w,_,a,b=>by simp only[aq]at a;subst a;cases w<;>simp[aq]at b;rfl
 |x :: xs,w,_,a,b=>by
  simp only[aq]at a;obtain⟨d,es,rfl,a1,a2⟩:=a;cases w<;>simp only[aq]at b
  .cases b
  obtain⟨d',es',e,b1,b2⟩:=b;cases e;rw[Rep.uniq a1 b1,aq.uniq a2 b2]
end
theorem qN{n:Nat}(f:∀v b,fJ n v v=some b->b=true):∀l b,bU (fJ n) l l=some b->b=true
 |[],b,e=>by simp[bU]at e;exact e
 |x :: xs,b,e=>by
  simp only[bU,Option.bind_eq_some_iff]at e;obtain⟨c,e1,c2,e2,e⟩:=e;rw[f x c e1,qN f xs c2 e2]at e;simpa using e.symm
theorem qO:∀n v b,fJ n v v=some b->b=true
 |0,_,_,e=>by cases e
 |n+1,v,b,e=>by
  cases v<;>first|exact qN (qO n) _ _ e | (cases e<;>first|rfl|exact beq_self_eq_true _)
theorem qP{n:Nat}(f:∀{v w:V}{d e:D}{b},fJ n v w=some b->Rep h U v d->Rep h U w e->Ev.gk h n d e=some b):∀{l m:List V}{ds es:List D}{b},bU (fJ n) l m=some b->aq h U l ds->aq h U m es->Ev.bU (Ev.gk h n) ds es=some b
 |[],[],_,_,b,e,p,q=>by simp only[aq]at p q;subst p q;simpa[bU,Ev.bU]using e
 |[],_ :: _,_,_,b,e,p,q=>by simp only[aq]at p q;subst p;obtain⟨_,_,rfl,_⟩:=q;simpa[bU,Ev.bU]using e
 |_ :: _,[],_,_,b,e,p,q=>by simp only[aq]at p q;subst q;obtain⟨_,_,rfl,_⟩:=p;simpa[bU,Ev.bU]using e
 |x :: xs,y :: ys,_,_,b,e,p,q=>by
  simp only[aq]at p q;obtain⟨d,ds,rfl,p1,p2⟩:=p;obtain⟨d',ds',rfl,q1,q2⟩:=q;simp only[bU,Option.bind_eq_some_iff]at e;obtain⟨c,e1,c2,e2,e⟩:=e;simp[Ev.bU,f e1 p1 q1,qP f e2 p2 q2];simpa using e
theorem fY{n:Nat}{ds:List D}(q:h[n]?=some (.lst ds)):aH h n=some ds:=by simp[aH,q]
theorem gr{n:Nat}{ds:List D}(q:h[n]?=some (.bq ds)):aH h n=some ds:=by simp[aH,q]
theorem jd:∀(n:Nat) {v w:V}{d e:D}{b},fJ n v w=some b->Rep h U v d->Rep h U w e->Ev.gk h n d e=some b
  |0,_,_,_,_,_,e,_,_=>by cases e
  |n+1,v,w,d,e,b,x,p,q=>by
    by_cases hr:∃m,d=.ref m/\e=.ref m
    . obtain⟨m,rfl,rfl⟩:=hr;have hvw:=p.uniq q;subst hvw;have hb:=qO _ _ _ x;subst hb;cases v<;>simp[Rep]at p
      . obtain⟨ds,p1,p2⟩:=p;show Ev.iz _ _ _ _=_;rw[Ev.iz,if_pos rfl,fY p1];rfl
      . obtain⟨ds,p1,p2⟩:=p;show Ev.iz _ _ _ _=_;rw[Ev.iz,if_pos rfl,gr p1];rfl
    . cases v<;>cases w<;>simp only[Rep]at p q <;>
      first
      | (subst p;subst q;exact x)
      | (obtain⟨ds,rfl,p⟩:=p;subst q;exact x)
      | (obtain⟨ds,rfl,q⟩:=q;subst p;exact x)
      | (obtain⟨ds,rfl,p⟩:=p;obtain⟨es,rfl,q⟩:=q;exact qP (λa b c=>jd n a b c) x p q)
      | (cases x;done)
      | (obtain⟨m,ds,rfl,_,p1,p⟩:=p;obtain⟨k,es,rfl,_,q1,q⟩:=q
         have hne:m≠k:=λz=>hr ⟨m,rfl,by rw[z]⟩;show Ev.iz _ _ _ _=_;rw[Ev.iz,if_neg hne,p1,q1];exact qP (λa b c=>jd n a b c) x p q)
      | (cases x;obtain⟨m,ds,rfl,_,p1,p⟩:=p;subst q;exact congrArg (Option.map λ_=>false) (fY p1))
      | (cases x;obtain⟨m,ds,rfl,_,p1,p⟩:=p;subst q;exact congrArg (Option.map λ_=>false) (gr p1))
      | (cases x;obtain⟨m,ds,rfl,_,p1,p⟩:=p;obtain⟨es,rfl,q⟩:=q;exact congrArg (Option.map λ_=>false) (fY p1))
      | (cases x;obtain⟨m,ds,rfl,_,p1,p⟩:=p;obtain⟨es,rfl,q⟩:=q;exact congrArg (Option.map λ_=>false) (gr p1))
      | (cases x;obtain⟨m,ds,rfl,_,q1,q⟩:=q;subst p;exact congrArg (Option.map λ_=>false) (fY q1))
      | (cases x;obtain⟨m,ds,rfl,_,q1,q⟩:=q;subst p;exact congrArg (Option.map λ_=>false) (gr q1))
      | (cases x;obtain⟨m,ds,rfl,_,q1,q⟩:=q;obtain⟨es,rfl,p⟩:=p;exact congrArg (Option.map λ_=>false) (fY q1))
      | (cases x;obtain⟨m,ds,rfl,_,q1,q⟩:=q;obtain⟨es,rfl,p⟩:=p;exact congrArg (Option.map λ_=>false) (gr q1))
end
end Pv
namespace Pv
open Ev (D O Hh aU aP TY BI ME T E Es Eo It S Ss Fn big deep b2i rep bL cT bh aD cut bO cP slots aH)
structure Al(h:Hh)(S:Nat->Prop)(h':Hh)(S':Nat->Prop):Prop where
 len:h.length<=h'.length
 keep:∀m,m<h.length->h'[m]?=h[m]?
 sub:∀m,S m->S' m
 new:∀m,S' m->S m\/(h.length<=m/\m<h'.length)
section
variable{h h':Hh}{S S':Nat->Prop}
theorem Al.refl:Al h S h S:=⟨Nat.le_refl _,λ_ _=>rfl,λ_ q=>q,λ_ q=>.inl q⟩
theorem Al.snoc(o:O):Al h S (h++[o]) (λm=>S m\/m=h.length) where
 len:=by simp
 keep:=λm q=>by rw[List.getElem?_append_left q]
 sub:=λ_ q=>.inl q
 new:=λm q=>by
  rcases q with q|q
  .exact .inl q
  .subst q;exact .inr ⟨Nat.le_refl _,by simp⟩
theorem iC{l:List V}{v:V}{ds:List D}(w:∀m,S m->m<h.length)(e:dX l=some v)(q:aq h S l ds):∃r h' S',Ev.alloc ds h=.ok r h'/\Rep h' S' v r/\Al h S h' S':=by
 unfold dX at e;split at e
 .rename_i z;cases e;refine⟨.ref h.length,h++[.lst ds],λm=>S m\/m=h.length,by unfold Ev.alloc;rw[if_pos (by rw[<-q.length];exact z)],?_,Al.snoc _⟩;simp only[Rep];refine⟨h.length,ds,rfl,.inr rfl,by simp,q.mono (λm z=>?_) λ_ z=>.inl z⟩;rw[List.getElem?_append_left (w m z)]
 .cases e
theorem mS{v:V}{l:List V}{d:D}(e:pq v=some l)(q:aN h S v d):∃n ds,d=.ref n/\aH h n=some ds/\aq h S l ds:=by
 cases v<;>simp[pq]at e
 .subst e;simp only[aN]at q;obtain⟨n,ds,rfl,a,b⟩:=q;exact⟨n,ds,rfl,fY a,b⟩
 .subst e;simp only[aN,Rep]at q;obtain⟨n,ds,rfl,_,a,b⟩:=q;exact⟨n,ds,rfl,gr a,b⟩
mutual
theorem j7:∀{d:D}{v:V},ofD d=some v->Rep h S v d
 |.az,_,e=>by simp[ofD]at e;subst e;simp[Rep]
 |.bl _,_,e=>by simp[ofD]at e;subst e;simp[Rep]
 |.int _,_,e=>by simp[ofD]at e;subst e;simp[Rep]
 |.str _,_,e=>by simp[ofD]at e;subst e;simp[Rep]
 |.ref _,_,e=>by simp[ofD]at e
 |.tup ds,_,e=>by
  simp[ofD]at e;obtain⟨vs,e,rfl⟩:=e;exact⟨ds,rfl,sX e⟩
theorem sX:∀{d:List D}{v:List V},qK d=some v->aq h S v d
 |[],_,e=>by simp[qK]at e;subst e;exact .nil
 |d :: ds,_,e=>by
  simp only[qK,Option.bind_eq_some_iff,Option.map_eq_some_iff]at e;obtain⟨v,e1,vs,e2,rfl⟩:=e;exact .cons (j7 e1) (sX e2)
end
theorem aq.emp{l:List V}{ds:List D}(q:aq h S l ds):ds.isEmpty=l.isEmpty:=by
 have:=q.length;cases l<;>cases ds<;>simp at this ⊢
theorem wG{v:V}{d:D}(q:aN h S v d):Ev.truthy h d=some (truthy v):=by
 cases v<;>simp only[aN,Rep]at q
 .subst q;rfl
 .subst q;rfl
 .subst q;rfl
 .subst q;rfl
 .obtain⟨ds,rfl,q⟩:=q;simp only[Ev.truthy,truthy,q.emp]
 .obtain⟨n,ds,rfl,a,q⟩:=q;simp only[Ev.truthy,truthy,fY a,Option.map,q.emp]
 .obtain⟨n,ds,rfl,_,a,q⟩:=q;simp only[Ev.truthy,truthy,gr a,Option.map,q.emp]
theorem nn{α:Type}{v:α}{p:Prop}(z:none=some v):p:=Option.noConfusion rfl (heq_of_eq z)
theorem FJ{o:aU}{x y v:V}{d e:D}(w:∀m,S m->m<h.length)(z:bI o x y=some v)(p:aN h S x d)(q:aN h S y e):∃r h' S',Ev.bI o d e h=.ok r h'/\Rep h' S' v r/\Al h S h' S':=by
 cases o<;>cases x<;>first|exact nn z | (cases y<;>first|exact nn z|skip)
 all_goals (delta bI at z;dsimp only at z;simp only[aN,Rep]at p q)
 .subst p q;cases z;exact⟨_,_,S,rfl,rfl,.refl⟩
 .subst p q;split at z
  .rename_i k;cases z;exact⟨_,_,S,by delta Ev.bI;dsimp only;rw[if_pos k],rfl,.refl⟩
  .cases z
 .obtain⟨ds,rfl,p⟩:=p;obtain⟨es,rfl,q⟩:=q;split at z
  .rename_i k;cases z;exact⟨_,_,S,by delta Ev.bI;dsimp only;rw[if_pos (by rw[<-p.length,<-q.length];exact k)],⟨_,rfl,p.append q⟩,.refl⟩
  .cases z
 .obtain⟨n,ds,rfl,a,p⟩:=p;obtain⟨m,es,rfl,b,q⟩:=q
  delta Ev.bI;dsimp only;simp only[a,b]
  exact iC w z (p.append q)
 .subst p q;cases z;exact⟨_,_,S,rfl,rfl,.refl⟩
 .subst p q;split at z
  .rename_i k;cases z;exact⟨_,_,S,by delta Ev.bI;dsimp only;rw[if_pos k],rfl,.refl⟩
  .cases z
 .subst p q;split at z
  .rename_i k;cases z;exact⟨_,_,S,by delta Ev.bI;dsimp only;rw[if_pos k],rfl,.refl⟩
  .cases z
 .obtain⟨ds,rfl,p⟩:=p;subst q;split at z
  .rename_i k;cases z;exact⟨_,_,S,by delta Ev.bI;dsimp only;rw[if_pos (by rw[<-p.length];exact k)],⟨_,rfl,p.rep _⟩,.refl⟩
  .cases z
 .obtain⟨n,ds,rfl,a,p⟩:=p;subst q;split at z
  .rename_i k
   delta Ev.bI;dsimp only;simp only[a]
   rw[if_pos (by rw[<-p.length];exact k)];exact iC w z (p.rep _)
  .cases z
 .subst p q;split at z
  .rename_i k;cases z;exact⟨_,_,S,by delta Ev.bI;dsimp only;rw[if_pos k],rfl,.refl⟩
  .cases z
 .subst p q;split at z
  .rename_i k;cases z;exact⟨_,_,S,by delta Ev.bI;dsimp only;rw[if_pos k],rfl,.refl⟩
  .cases z
theorem FL{o:aP}{x y:V}{d e:D}{b:Bool}(z:cop o x y=some b)(p:Rep h U x d)(q:Rep h U y e):Ev.cop o d e h=some b:=by
 cases o
 case eq=>delta cop at z;dsimp only at z;delta Ev.cop;dsimp only;exact jd deep z p q
 case ne=>
  delta cop at z;dsimp only at z;simp only[Option.map_eq_some_iff]at z;obtain⟨c,z,rfl⟩:=z
  delta Ev.cop;dsimp only;simp only[jd deep z p q];rfl
 case oQ=>
  cases y <;> (delta cop at z;dsimp only at z) <;> (try simp only[reduceCtorEq]at z)
  simp only[Rep]at q;subst q;cases x<;>simp only[Rep]at p <;> (try obtain⟨_,rfl,_⟩:=p) <;> (try obtain⟨_,_,rfl,_⟩:=p) <;> (try subst p) <;> (delta Ev.cop;dsimp only;simpa using z)
 case lJ=>
  cases y <;> (delta cop at z;dsimp only at z) <;> (try simp only[reduceCtorEq]at z)
  simp only[Rep]at q;subst q;cases x<;>simp only[Rep]at p <;> (try obtain⟨_,rfl,_⟩:=p) <;> (try obtain⟨_,_,rfl,_⟩:=p) <;> (try subst p) <;> (delta Ev.cop;dsimp only;simpa using z)
 all_goals (
  cases x<;>first|exact nn z | (cases y<;>first|exact nn z|skip)
  simp only[Rep]at p q;subst p q;exact z)
theorem uJ{l:List V}{ds:List D}{i:Int}{v:V}(e:bh l i=some v)(q:aq h S l ds):∃d,bh ds i=some d/\Rep h S v d:=by
 unfold bh at e ⊢;rw[q.length]at e;cases z:cT ds.length i with
 |none=>rw[z]at e;cases e
 |some j=>rw[z]at e;exact q.get e
theorem FO{x y v:V}{d e:D}(z:eY x y=some v)(p:aN h S x d)(q:aN h S y e):∃r,Ev.eY d e h=some r/\Rep h S v r:=by
 cases x<;>cases y<;>simp only[eY,reduceCtorEq]at z<;>simp only[aN,Rep]at p q
 .subst p q;simp only[Option.map_eq_some_iff]at z;obtain⟨c,z,rfl⟩:=z;exact⟨.str [c],by simp[Ev.eY,z],rfl⟩
 .obtain⟨ds,rfl,p⟩:=p;subst q;simpa[Ev.eY]using uJ z p
 .obtain⟨n,ds,rfl,a,p⟩:=p;subst q;simpa[Ev.eY,fY a]using uJ z p
 .obtain⟨n,ds,rfl,_,a,p⟩:=p;subst q;simpa[Ev.eY,gr a]using uJ z p
theorem FP{x v:V}{d:D}{lo hi:Option Int}(w:∀m,S m->m<h.length)(z:fH x lo hi=some v)(p:aN h S x d):∃r h' S',Ev.fH d lo hi h=.ok r h'/\Rep h' S' v r/\Al h S h' S':=by
 cases x<;>simp only[fH,reduceCtorEq]at z<;>simp only[aN,Rep]at p
 .subst p;cases z;exact⟨_,_,S,rfl,rfl,.refl⟩
 .obtain⟨ds,rfl,p⟩:=p;cases z;exact⟨_,_,S,rfl,⟨_,rfl,p.cut _ _⟩,.refl⟩
 .obtain⟨n,ds,rfl,a,p⟩:=p;simp only[Ev.fH,fY a];exact iC w z (p.cut _ _)
 .obtain⟨n,ds,rfl,_,a,p⟩:=p;simp only[Ev.fH,gr a];exact iC w z (p.cut _ _)
theorem FQ{x v:V}{d:D}(z:toT x=some v)(p:aN h S x d):∃r,Ev.nI d h=.ok r h/\Rep h S v r:=by
 cases x<;>simp only[toT,reduceCtorEq]at z<;>simp only[aN,Rep]at p
 .obtain⟨ds,rfl,p⟩:=p;cases z;exact⟨_,rfl,⟨_,rfl,p⟩⟩
 .obtain⟨n,ds,rfl,a,p⟩:=p;unfold iB at z;split at z
  .rename_i k;cases z;refine⟨.tup ds,?_,⟨_,rfl,p⟩⟩;simp only[Ev.nI,fY a];rw[if_pos (by rw[<-p.length];exact k)]
  .cases z
 .obtain⟨n,ds,rfl,_,a,p⟩:=p;unfold iB at z;split at z
  .rename_i k;cases z;refine⟨.tup ds,?_,⟨_,rfl,p⟩⟩;simp only[Ev.nI,gr a];rw[if_pos (by rw[<-p.length];exact k)]
  .cases z
theorem Cy{x:V}{l:List V}{d:D}(z:pq x=some l)(p:aN h S x d):∃s,Ev.yt h d=some s/\aq h S l s.1/\(∀q∈s.2,d=.ref q.1/\aH h q.1=some q.2):=by
 obtain⟨n,ds,rfl,a,q⟩:=mS z p;exact⟨(ds,[(n,ds)]),by simp[Ev.yt,a],q,by simp[a]⟩
theorem Cz{x:V}{d:D}(p:aN h S x d)(t:TY):Ev.cz h d t=cz x t:=by
 cases x<;>simp only[aN,Rep]at p
 .subst p;cases t<;>rfl
 .subst p;cases t<;>rfl
 .subst p;cases t<;>rfl
 .subst p;cases t<;>rfl
 .obtain⟨_,rfl,_⟩:=p;cases t<;>rfl
 .obtain⟨n,ds,rfl,a,p⟩:=p;cases t<;>simp[Ev.cz,cz,fY a]
 .obtain⟨n,ds,rfl,_,a,p⟩:=p;cases t<;>simp[Ev.cz,cz,gr a]
theorem yO:∀{l:List V}{ds:List D}{bs},boolsOf l=some bs->aq h S l ds->Ev.boolsOf ds=some bs
 |[],_,_,e,q=>by simp only[aq]at q;subst q;exact e
 |x :: xs,_,bs,e,q=>by
  cases x<;>simp only[boolsOf,reduceCtorEq,Option.map_eq_some_iff]at e
  obtain⟨r,e,rfl⟩:=e;simp only[aq,Rep]at q;obtain⟨_,ds,rfl,rfl,q⟩:=q;simp[Ev.boolsOf,yO e q]
theorem sY:∀{l:List V}{ds:List D}{bs},intsOf l=some bs->aq h S l ds->Ev.intsOf ds=some bs
 |[],_,_,e,q=>by simp only[aq]at q;subst q;exact e
 |x :: xs,_,bs,e,q=>by
  cases x<;>simp only[intsOf,reduceCtorEq,Option.map_eq_some_iff]at e
  obtain⟨r,e,rfl⟩:=e;simp only[aq,Rep]at q;obtain⟨_,ds,rfl,rfl,q⟩:=q;simp[Ev.intsOf,sY e q]
theorem sZ:∀{l:List V}{ds:List D}{bs},strsOf l=some bs->aq h S l ds->Ev.strsOf ds=some bs
 |[],_,_,e,q=>by simp only[aq]at q;subst q;exact e
 |x :: xs,_,bs,e,q=>by
  cases x<;>simp only[strsOf,reduceCtorEq,Option.map_eq_some_iff]at e
  obtain⟨r,e,rfl⟩:=e;simp only[aq,Rep]at q;obtain⟨_,ds,rfl,rfl,q⟩:=q;simp[Ev.strsOf,sZ e q]
theorem dY.one{v:V}{ds:List D}(q:dY h S [v] ds):∃d,ds=[d]/\aN h S v d:=by
 simp only[dY]at q;obtain⟨d,es,rfl,a,rfl⟩:=q;exact⟨d,rfl,a⟩
theorem FT{b:BI}{xs:List V}{v:V}{ds:List D}(w:∀m,S m->m<h.length)(z:dS b xs=some v)(p:dY h S xs ds):∃r h' S',Ev.dS b ds h=.ok r h'/\Rep h' S' v r/\Al h S h' S':=by
 delta dS at z
 rcases xs with _|⟨x,_|⟨y,_|⟨u,xs⟩⟩⟩
 .cases b<;>exact nn z
 .obtain⟨d,rfl,p1⟩:=p.one;cases b
  case len=>
   cases x
   case str s=>
    dsimp only at z;simp only[aN,Rep]at p1;subst p1;split at z
    .rename_i k;cases z;exact⟨_,_,S,by delta Ev.dS;dsimp only;rw[if_pos k],rfl,.refl⟩
    .cases z
   case tup l=>
    dsimp only at z;simp only[aN,Rep]at p1;obtain⟨es,rfl,p2⟩:=p1;cases z;exact⟨_,_,S,rfl,by simp[Rep,p2.length],.refl⟩
   all_goals
    dsimp only at z;simp only[Option.map_eq_some_iff]at z;obtain⟨l,z,rfl⟩:=z;obtain⟨n,es,rfl,a,q⟩:=mS z p1;exact⟨.int es.length,h,S,by delta Ev.dS;dsimp only;simp[a],by simp[Rep,q.length],.refl⟩
  case sum=>
   dsimp only at z;simp only[Option.map_eq_some_iff,Option.bind_eq_some_iff]at z;obtain⟨bs,⟨l,z,z2⟩,rfl⟩:=z;obtain⟨n,es,rfl,a,q⟩:=mS z p1;exact⟨_,_,S,by delta Ev.dS;dsimp only;simp only[a,Option.bind,sY z2 q];rfl,rfl,.refl⟩
  case min=>cases x<;>exact nn z
 .cases b
  case min=>
   cases x
   case int i=>
    cases y
    case int j=>
     dsimp only at z;simp only[dY,aN,Rep]at p;obtain⟨_,_,rfl,rfl,_,_,rfl,rfl,rfl⟩:=p;cases z;exact⟨_,_,S,rfl,rfl,.refl⟩
    all_goals exact nn z
   all_goals exact nn z
  case len=>cases x<;>exact nn z
  all_goals exact nn z
 .cases b
  case min=>cases x <;> (try cases y)<;>exact nn z
  case len=>cases x<;>exact nn z
  all_goals exact nn z
theorem FU{m:ME}{o:V}{xs:List V}{v:V}{d:D}{ds:List D}(z:dZ m o xs=some v)(hm:fW m=false)(po:aN h S o d)(p:dY h S xs ds):Ev.mF m d h=true/\∃r,Ev.dZ m d ds h=.ok r h/\Rep h S v r:=by
 unfold dZ at z;split at z
 .obtain⟨d,rfl,p1⟩:=p.one;simp only[aN,Rep]at po;subst po;simp only[Option.bind_eq_some_iff]at z;obtain⟨ss,⟨l,z,z2⟩,z3⟩:=z;obtain⟨n,es,rfl,a,q⟩:=mS z p1;split at z3
  .rename_i k;cases z3;refine⟨rfl,_,?_,rfl⟩
   delta Ev.dZ;dsimp only;simp only[a,Option.bind,sZ z2 q]
   rw[if_pos k]
  .cases z3
 .cases z
theorem CB{x:V}{d:D}(f:pM x=true)(p:Rep h U x d):Rep [] U x d:=by
 cases x<;>simp only[pM,Bool.false_eq_true]at f<;>exact p
theorem yP{x:V}{d:D}(p:Rep h U x d):∀{kvs:List (D×D)}{v:V},fS x kvs=some v->∃r,Ev.fS d kvs=some r/\Rep h S v r:=by
 intro kvs v z;unfold fS at z;split at z
 .rename_i f;have p':=CB f p;induction kvs with
  |nil=>cases z
  |cons kv r ih=>
   obtain⟨k,u⟩:=kv;simp only[uF]at z;simp only[Ev.fS];split at z
   .rename_i y;simp only[Option.bind_eq_some_iff]at y;obtain⟨k',y1,y2⟩:=y;rw[jd 1 y2 (j7 y1) p'];exact⟨u,rfl,j7 z⟩
   .rename_i y;simp only[Option.bind_eq_some_iff]at y;obtain⟨k',y1,y2⟩:=y;rw[jd 1 y2 (j7 y1) p'];exact ih z
   .cases z
 .cases z
theorem yQ{x:V}{l:List V}{d:D}(z:eF x=some l)(p:aN h S x d):∃s,Ev.eF h d=some s/\aq h S l s.1/\(∀q∈s.2,d=.ref q.1/\aH h q.1=some q.2):=by
 cases x<;>simp only[eF,reduceCtorEq]at z<;>simp only[aN,Rep]at p
 .subst p;cases z;exact⟨_,rfl,aq.map (f:=λc=>V.str [c]) (g:=λc=>D.str [c]) (λ_=>by simp[Rep]) _,by simp⟩
 .obtain⟨ds,rfl,p⟩:=p;cases z;exact⟨_,rfl,p,by simp⟩
 .obtain⟨n,ds,rfl,a,p⟩:=p;cases z;exact⟨(ds,[(n,ds)]),by simp[Ev.eF,fY a],p,by simp[fY a]⟩
 .obtain⟨n,ds,rfl,_,a,p⟩:=p;cases z;exact⟨(ds,[(n,ds)]),by simp[Ev.eF,gr a],p,by simp[gr a]⟩
theorem qQ(lo:Int)(n:Nat):aq h S (range lo n) (Ev.range lo n):=aq.map (f:=λ(i:Nat)=>V.int (lo+i)) (g:=λ(i:Nat)=>D.int (lo+i)) (λ_=>by simp[Rep]) _
theorem FY{xs l:List V}{ds:List D}(z:dN xs=some l)(p:dY h S xs ds):∃s,Ev.dN ds=some (s,[])/\aq h S l s:=by
 unfold dN at z;split at z
 .obtain⟨d,rfl,p1⟩:=p.one;simp only[aN,Rep]at p1;subst p1;split at z
  .rename_i k;cases z;exact⟨_,by simp only[Ev.dN];rw[if_pos k],qQ _ _⟩
  .cases z
 .simp only[dY,aN,Rep]at p;obtain⟨_,_,rfl,rfl,_,_,rfl,rfl,rfl⟩:=p;split at z
  .rename_i k;cases z;exact⟨_,by simp only[Ev.dN];rw[if_pos k],qQ _ _⟩
  .cases z
 .cases z
theorem tu:∀{a:List V}{ds:List D}(k:Int),aq h S a ds->aq h S (fj k a) (Ev.fj k ds)
 |[],_,_,p=>by simp only[aq]at p;subst p;simp[fj,Ev.fj,aq]
 |x :: xs,_,k,p=>by
  simp only[aq]at p;obtain⟨d,ds,rfl,p1,p2⟩:=p;simp only[fj,Ev.fj];exact .cons ⟨_,rfl,.cons rfl (.cons p1 .nil)⟩ (tu _ p2)
end
end Pv
namespace Pv
open Ev (D O Hh aU aP TY BI ME T E Es Eo It S Ss Fn big deep b2i rep bL cT bh aD cut bO cP slots aH)
noncomputable def jc(M B:Nat->Prop)(h:Hh)(S:Nat->Prop):Option Sl->Option D->Prop
 |none,p=>p=none
 |some (.val v),p=>∃d,p=some d/\Rep h S v d
 |some (.own l),p=>∃m ds,p=some (.ref m)/\(M m/\¬ B m)/\h[m]?=some (.lst ds)/\aq h S l ds
 |some (.bor l),p=>∃m ds,p=some (.ref m)/\(M m/\B m)/\h[m]?=some (.lst ds)/\aq h S l ds
 |some (.ro l),p=>∃m ds,p=some (.ref m)/\¬ M m/\h[m]?=some (.lst ds)/\aq h S l ds
noncomputable def fK:Option Sl->Bool
 |some (.own _)=>true
 |some (.bor _)=>true
 |_=>false
noncomputable def tw:Option Sl->Bool
 |some (.bor _)=>true
 |some (.ro _)=>true
 |_=>false
noncomputable def locked(fr:Fr)(i:Nat):Bool:=match fr[i]? with
 |some o=>tw o
 |none=>false
structure aG(M B:Nat->Prop)(h:Hh)(S:Nat->Prop)(fr:Fr)(ai:Ev.Fr):Prop where
 wS:∀m,S m->m<h.length/\¬ M m/\¬ B m
 wM:∀m,M m->m<h.length
 wB:∀m,B m->m<h.length
 len:fr.length=ai.length
 sl:∀(i:Nat) o p,fr[i]?=some o->ai[i]?=some p->jc M B h S o p
 inj:∀(i j:Nat) o o' m,fr[i]?=some o->fr[j]?=some o'->fK o=true->fK o'=true->ai[i]?=some (some (.ref m))->ai[j]?=some (some (.ref m))->i=j
structure Tk(X:Nat->Prop)(h:Hh)(S:Nat->Prop)(h':Hh)(S':Nat->Prop):Prop where
 len:h.length<=h'.length
 keep:∀m,m<h.length->¬ X m->h'[m]?=h[m]?
 sub:∀m,S m->S' m
 new:∀m,S' m->S m\/(h.length<=m/\m<h'.length)
noncomputable def Xs(M:Nat->Prop)(ai:Ev.Fr)(l:List Nat):Nat->Prop:=λm=>M m/\∃i∈l,ai[i]?=some (some (.ref m))
structure Out(M B:Nat->Prop)(c:List Nat)(h:Hh)(S:Nat->Prop)(fr:Fr)(ai:Ev.Fr)(h':Hh)(S':Nat->Prop)(af:Fr):Prop where
 f:aG M B h' S' af ai
 tr:Tk (Xs M ai c) h S h' S'
 lk:∀i,locked af i=locked fr i
section
variable{M B M':Nat->Prop}{h h' h1 h2:Hh}{S S' S1 S2:Nat->Prop}{fr af ak:Fr}{ai:Ev.Fr}{c c1 c2:List Nat}{v:V}{d:D}{X X1 X2:Nat->Prop}
theorem aG.get(f:aG M B h S fr ai){i:Nat}{o:Option Sl}(e:fr[i]?=some o):∃p,ai[i]?=some p/\jc M B h S o p:=by
 have h1:=(List.getElem?_eq_some_iff.mp e).1;rw[f.len]at h1;exact⟨ai[i],List.getElem?_eq_getElem h1,f.sl i o _ e (List.getElem?_eq_getElem h1)⟩
theorem aG.w(f:aG M B h S fr ai):∀m,S m->m<h.length:=λm q=>(f.wS m q).1
theorem Al.tr(a:Al h S h' S'):Tk X h S h' S':=⟨a.len,λm q _=>a.keep m q,a.sub,a.new⟩
theorem Tk.al(t:Tk X h S h' S')(z:∀m,¬ X m):Al h S h' S':=⟨t.len,λm q=>t.keep m q (z m),t.sub,t.new⟩
theorem Tk.weak(t:Tk X h S h' S')(q:∀m,X m->X1 m):Tk X1 h S h' S':=⟨t.len,λm k z=>t.keep m k λy=>z (q m y),t.sub,t.new⟩
theorem Tk.trans(a:Tk X1 h S h1 S1)(b:Tk X2 h1 S1 h2 S2):Tk (λm=>X1 m\/X2 m) h S h2 S2 where
 len:=Nat.le_trans a.len b.len
 keep:=λm q z=>by rw[b.keep m (Nat.lt_of_lt_of_le q a.len) (λy=>z (.inr y)),a.keep m q (λy=>z (.inl y))]
 sub:=λm q=>b.sub m (a.sub m q)
 new:=λm q=>by
  rcases b.new m q with q|⟨q1,q2⟩
  .rcases a.new m q with q|⟨q1,q2⟩
   .exact .inl q
   .exact .inr ⟨q1,Nat.lt_of_lt_of_le q2 b.len⟩
  .exact .inr ⟨Nat.le_trans a.len q1,q2⟩
theorem Al.trans(a:Al h S h1 S1)(b:Al h1 S1 h2 S2):Al h S h2 S2:=((a.tr (X:=λ_=>False)).trans (b.tr (X:=λ_=>False))).al λm z=>by simp at z
theorem Tk.refl:Tk X h S h S:=⟨Nat.le_refl _,λ_ _ _=>rfl,λ_ q=>q,λ_ q=>.inl q⟩
theorem Xs.app{l1 l2:List Nat}{m:Nat}:Xs M ai (l1++l2) m↔Xs M ai l1 m\/Xs M ai l2 m:=by
 unfold Xs;constructor
 .rintro⟨a,i,hi,e⟩;rcases List.mem_append.mp hi with hi|hi
  .exact .inl ⟨a,i,hi,e⟩
  .exact .inr ⟨a,i,hi,e⟩
 .rintro(⟨a,i,hi,e⟩|⟨a,i,hi,e⟩)
  .exact⟨a,i,List.mem_append.mpr (.inl hi),e⟩
  .exact⟨a,i,List.mem_append.mpr (.inr hi),e⟩
theorem Xs.nil{m:Nat}:¬ Xs M ai [] m:=by rintro⟨_,i,hi,_⟩;simp at hi
theorem Xs.mono{l1 l2:List Nat}(q:∀i∈l1,i∈l2){m:Nat}:Xs M ai l1 m->Xs M ai l2 m:=λ⟨a,i,hi,e⟩=>⟨a,i,q i hi,e⟩
theorem Rep.tr(q:Rep h S v d)(f:aG M B h S fr ai)(t:Tk (Xs M ai c) h S h' S'):Rep h' S' v d:=q.mono (λm z=>t.keep m (f.wS m z).1 (λy=>(f.wS m z).2.1 y.1)) t.sub
theorem aq.tr{l:List V}{ds:List D}(q:aq h S l ds)(f:aG M B h S fr ai)(t:Tk (Xs M ai c) h S h' S'):aq h' S' l ds:=q.mono (λm z=>t.keep m (f.wS m z).1 (λy=>(f.wS m z).2.1 y.1)) t.sub
theorem aN.tr(q:aN h S v d)(f:aG M B h S fr ai)(t:Tk X h S h' S')(z:∀m,¬ X m):aN h' S' v d:=q.mono (λm k=>t.keep m k (z m)) f.w t.sub
theorem jc.al{o:Option Sl}{p:Option D}(q:jc M B h S o p)(w:∀m,S m->m<h.length)(a:Al h S h' S'):jc M B h' S' o p:=by
 have k:∀m,S m->h'[m]?=h[m]?:=λm z=>a.keep m (w m z);have g:∀(m:Nat) (ds:List D),h[m]?=some (O.lst ds)->h'[m]?=some (O.lst ds):=λm ds z=>by rw[a.keep m (List.getElem?_eq_some_iff.mp z).1];exact z
 rcases o with _|s
 .exact q
 .cases s with
  |val v=>obtain⟨d,e,q⟩:=q;exact⟨d,e,q.mono k a.sub⟩
  |own l=>obtain⟨m,ds,e,z,y,q⟩:=q;exact⟨m,ds,e,z,g m ds y,q.mono k a.sub⟩
  |bor l=>obtain⟨m,ds,e,z,y,q⟩:=q;exact⟨m,ds,e,z,g m ds y,q.mono k a.sub⟩
  |ro l=>obtain⟨m,ds,e,z,y,q⟩:=q;exact⟨m,ds,e,z,g m ds y,q.mono k a.sub⟩
theorem aG.al(f:aG M B h S fr ai)(a:Al h S h' S'):aG M B h' S' fr ai where
 wS:=λm q=>by
  rcases a.new m q with q|⟨q1,q2⟩
  .exact⟨Nat.lt_of_lt_of_le (f.wS m q).1 a.len,(f.wS m q).2⟩
  .exact⟨q2,λz=>by have:=f.wM m z;omega,λz=>by have:=f.wB m z;omega⟩
 wM:=λm q=>Nat.lt_of_lt_of_le (f.wM m q) a.len
 wB:=λm q=>Nat.lt_of_lt_of_le (f.wB m q) a.len
 len:=f.len
 sl:=λi o p e1 e2=>(f.sl i o p e1 e2).al f.w a
 inj:=f.inj
theorem Out.refl(f:aG M B h S fr ai):Out M B c h S fr ai h S fr:=⟨f,.refl,λ_=>rfl⟩
theorem Out.trans(a:Out M B c1 h S fr ai h1 S1 af)(b:Out M B c2 h1 S1 af ai h2 S2 ak):Out M B (c1++c2) h S fr ai h2 S2 ak:=⟨b.f,(a.tr.trans b.tr).weak λm z=>Xs.app.mpr z,λi=>(b.lk i).trans (a.lk i)⟩
theorem Out.al(a:Out M B c h S fr ai h1 S1 af)(b:Al h1 S1 h2 S2):Out M B c h S fr ai h2 S2 af:=⟨a.f.al b,(a.tr.trans (b.tr (X:=λ_=>False))).weak (λm z=>by rcases z with z|z;exact z;exact z.elim),a.lk⟩
theorem Out.weak(a:Out M B c h S fr ai h1 S1 af)(q:∀i∈c,i∈c1):Out M B c1 h S fr ai h1 S1 af:=⟨a.f,a.tr.weak λm z=>Xs.mono q z,a.lk⟩
noncomputable def eg(k:Bool)(h:Hh)(S:Nat->Prop)(v:V)(d:D):Prop:=if k=true then aN h S v d else Rep h S v d
theorem eg.of{k:Bool}(q:Rep h S v d):eg k h S v d:=by unfold eg;split;exact q.top;exact q
theorem eg.t{k:Bool}(q:eg k h S v d):aN h S v d:=by unfold eg at q;split at q;exact q;exact q.top
theorem eg.n(q:eg false h S v d):Rep h S v d:=by simpa[eg]using q
theorem aG.slot(f:aG M B h S fr ai){i m:Nat}(e:ai[i]?=some (some (.ref m)))(hm:M m):∃o,fr[i]?=some o/\fK o=true:=by
 have hl:i<fr.length:=by rw[f.len];exact(List.getElem?_eq_some_iff.mp e).1
 refine⟨fr[i],List.getElem?_eq_getElem hl,?_⟩;have s:=f.sl i _ _ (List.getElem?_eq_getElem hl) e
 revert s
 generalize fr[i]=o
 intro s;rcases o with _|s'
 .cases s
 .cases s' with
  |own l=>rfl
  |bor l=>rfl
  |ro l=>obtain⟨m',ds,e,y,_⟩:=s;cases e;exact absurd hm y
  |val v=>
   obtain⟨d,e,q⟩:=s;cases e;exfalso;cases v<;>simp only[Rep,reduceCtorEq]at q
   .obtain⟨_,e,_⟩:=q;cases e
   .obtain⟨n,ds,e,sn,_⟩:=q;cases e;exact(f.wS _ sn).2.1 hm
   .obtain⟨n,ds,e,sn,_⟩:=q;cases e;exact(f.wS _ sn).2.1 hm
theorem eg.tr{k:Bool}{a:E}(q:eg k h S v d)(f:aG M B h S fr ai)(t:Tk (Xs M ai c) h S h' S')(hk:k=true->kf a c=true)(ha:∀i,a=.v i->ai[i]?.join=some d):eg k h' S' v d:=by
 unfold eg at q ⊢;split at q
 .rename_i e;rw[if_pos e];have hk:=hk e;have gen:c=[]->aN h' S' v d:=λz=>q.tr f t λm y=>by subst z;exact Xs.nil y
  by_cases hv:∃i,a=.v i
  .obtain⟨i0,rfl⟩:=hv;simp only[kf,Bool.not_eq_true',List.contains_eq_mem,decide_eq_false_iff_not]at hk;cases v
   case lst l=>
    simp only[aN]at q ⊢;obtain⟨n,ds,rfl,b1,b2⟩:=q;refine⟨n,ds,rfl,?_,b2.tr f t⟩;rw[t.keep n (List.getElem?_eq_some_iff.mp b1).1 ?_]
    .exact b1
    .rintro⟨mn,j,hj,ej⟩;have e2:ai[i0]?=some (some (D.ref n)):=by
      have:=ha i0 rfl;cases z:ai[i0]? with
      |none=>rw[z]at this;cases this
      |some p=>rw[z]at this;simp at this;rw[this]
     obtain⟨o1,y1,y2⟩:=f.slot e2 mn;obtain⟨o2,y3,y4⟩:=f.slot ej mn;have:=f.inj i0 j o1 o2 n y1 y3 y2 y4 e2 ej;subst this;exact hk hj
   all_goals exact Rep.tr (show Rep h S _ d from q) f t
  .have:kf a c=c.isEmpty:=by
    cases a<;>first|rfl|exact absurd ⟨_,rfl⟩ hv
   rw[this,List.isEmpty_iff]at hk;exact gen hk
 .rename_i e;rw[if_neg e];exact q.tr f t
theorem CC{k:Bool}{i:Nat}(e:gS k fr i=some v)(f:aG M B h S fr ai):∃d,ai[i]?.join=some d/\eg k h S v d:=by
  unfold gS at e;split at e
  . rename_i z;obtain⟨p,e1,q⟩:=f.get z;obtain⟨d,rfl,q⟩:=q;cases e;exact⟨d,by rw[e1];rfl,.of q⟩
  all_goals first
    | (rename_i z
       obtain⟨p,e1,q⟩:=f.get z;obtain⟨m,ds,rfl,_,y,q⟩:=q;split at e
       . rename_i hk;cases e;exact⟨.ref m,by rw[e1];rfl,by unfold eg;rw[if_pos hk];exact⟨m,ds,rfl,y,q⟩⟩
       . cases e)
    |cases e
theorem fL{i:Nat}{s:Sl}(e:lent fr i=some s)(f:aG M B h S fr ai):∃m ds l o,fr[i]?=some o/\ai[i]?=some (some (.ref m))/\h[m]?=some (.lst ds)/\aq h S l ds/\((s=.bor l/\M m/\fK o=true)\/(s=.ro l/\¬ M m/\o=some (.ro l))):=by
 unfold lent at e;split at e
 .rename_i s' z;obtain⟨p,e1,q⟩:=f.get z;cases s' with
  |val v=>simp[Sl.lend]at e
  |own l=>
   simp[Sl.lend]at e;subst e;obtain⟨m,ds,rfl,y,y1,q⟩:=q;exact⟨m,ds,l,_,z,e1,y1,q,.inl ⟨rfl,y.1,rfl⟩⟩
  |bor l=>
   simp[Sl.lend]at e;subst e;obtain⟨m,ds,rfl,y,y1,q⟩:=q;exact⟨m,ds,l,_,z,e1,y1,q,.inl ⟨rfl,y.1,rfl⟩⟩
  |ro l=>
   simp[Sl.lend]at e;subst e;obtain⟨m,ds,rfl,y,y1,q⟩:=q;exact⟨m,ds,l,_,z,e1,y1,q,.inr ⟨rfl,y,rfl⟩⟩
 .cases e
noncomputable def pC(h:Hh)(S:Nat->Prop)(ai:Ev.Fr):List (Nat ⊕ V)->List D->Prop
 |[],ds=>ds=[]
 |.inl i :: r,ds=>∃d es,ds=d :: es/\ai[i]?=some (some d)/\pC h S ai r es
 |.inr v :: r,ds=>∃d es,ds=d :: es/\Rep h S v d/\pC h S ai r es
noncomputable def iU(h:Hh)(S:Nat->Prop):List Sl->List D->List (List V)->Prop
 |[],_,os=>os=[]
 |.val _ :: sl,ds,os=>∃d es,ds=d :: es/\iU h S sl es os
 |.own _ :: _,_,_=>False
 |_ :: sl,ds,os=>∃d es l r m cs,ds=d :: es/\os=l :: r/\d=.ref m/\h[m]?=some (.lst cs)/\aq h S l cs/\iU h S sl es r
noncomputable def kM(P:ay)(P':Ev.ay):Prop:=∀f sl v os,P f sl=some (v,os)->∀(h:Hh) (S B:Nat->Prop) (ds:List D),aG B B h S (sl.map some) (ds.map some)->
 ∃d h' S',P' f ds h=.ok d h'/\Rep h' S' v d/\Tk B h S h' S'/\iU h' S' sl ds os
theorem args_get(f:aG M B h S fr ai):∀{as:List (Nat ⊕ V)}{sl:List Sl}{ds:List D},args fr as=some sl->pC h S ai as ds->sl.length=ds.length/\∀(a:Nat) s d,sl[a]?=some s->ds[a]?=some d->
  (∃i,as[a]?=some (.inl i)/\lent fr i=some s/\ai[i]?=some (some d))\/(∃v,s=.val v/\Rep h S v d)
 |[],sl,ds,e,q=>by
  simp[args]at e;simp only[pC]at q;subst e q;simp
 |.inl i :: r,sl,ds,e,q=>by
  simp only[args,Option.bind_eq_some_iff,Option.map_eq_some_iff]at e;obtain⟨s,e1,l,e2,rfl⟩:=e;obtain⟨d,es,rfl,q1,q⟩:=q;obtain⟨h1,h2⟩:=args_get f e2 q;refine⟨by simp[h1],λa s' d' z1 z2=>?_⟩;cases a with
  |zero=>simp at z1 z2;subst z1 z2;exact .inl ⟨i,by simp,e1,q1⟩
  |succ a=>exact(h2 a s' d' (by simpa using z1) (by simpa using z2)).imp (λ⟨i,k,z⟩=>⟨i,by simpa using k,z⟩) id
 |.inr v :: r,sl,ds,e,q=>by
  simp only[args,Option.map_eq_some_iff]at e;obtain⟨l,e2,rfl⟩:=e;obtain⟨d,es,rfl,q1,q⟩:=q;obtain⟨h1,h2⟩:=args_get f e2 q;refine⟨by simp[h1],λa s' d' z1 z2=>?_⟩;cases a with
  |zero=>simp at z1 z2;subst z1 z2;exact .inr ⟨v,rfl,q1⟩
  |succ a=>exact(h2 a s' d' (by simpa using z1) (by simpa using z2)).imp (λ⟨i,k,z⟩=>⟨i,by simpa using k,z⟩) id
theorem fM:∀{as:List (Nat ⊕ V)}{a i:Nat},as[a]?=some (.inl i)->i∈bf as
 |[],_,_,e=>by simp at e
 |.inl j :: r,0,i,e=>by simp at e;subst e;simp[bf]
 |.inr j :: r,0,i,e=>by simp at e
 |.inl j :: r,a+1,i,e=>by have:=fM (as:=r) (a:=a) (i:=i) (by simpa using e);simp[bf,this]
 |.inr j :: r,a+1,i,e=>by have:=fM (as:=r) (a:=a) (i:=i) (by simpa using e);simp[bf,this]
theorem j8:∀{as:List (Nat ⊕ V)}{a b i:Nat},(bf as).Nodup->as[a]?=some (.inl i)->as[b]?=some (.inl i)->a=b
 |[],_,_,_,_,e,_=>by simp at e
 |x :: r,0,0,_,_,_,_=>rfl
 |.inr j :: r,0,b+1,i,n,e,_=>by simp at e
 |.inl j :: r,0,b+1,i,n,e,e2=>by
  simp at e;subst e;simp only[bf,List.nodup_cons]at n;exact absurd (fM (as:=r) (a:=b) (by simpa using e2)) n.1
 |.inr j :: r,a+1,0,i,n,_,e=>by simp at e
 |.inl j :: r,a+1,0,i,n,e2,e=>by
  simp at e;subst e;simp only[bf,List.nodup_cons]at n;exact absurd (fM (as:=r) (a:=a) (by simpa using e2)) n.1
 |.inl j :: r,a+1,b+1,i,n,e1,e2=>by
  simp only[bf,List.nodup_cons]at n;have:=j8 (as:=r) (a:=a) (b:=b) (i:=i) n.2 (by simpa using e1) (by simpa using e2);omega
 |.inr j :: r,a+1,b+1,i,n,e1,e2=>by
  simp only[bf]at n;have:=j8 (as:=r) (a:=a) (b:=b) (i:=i) n (by simpa using e1) (by simpa using e2);omega
theorem yR{s:Sl}{l:List V}:fK (some (s.with l))=fK (some s):=by cases s<;>rfl
theorem tD{s:Sl}{l:List V}:tw (some (s.with l))=tw (some s):=by cases s<;>rfl
theorem qR:∀{is:List Nat}{ls:List (List V)}{fr af:Fr},back is ls fr=some af->is.Nodup->af.length=fr.length/\(∀i,i∉is->af[i]?=fr[i]?)/\∀i∈is,∃(k:Nat) (s:Sl) (l:List V),is[k]?=some i/\ls[k]?=some l/\fr[i]?=some (some s)/\af[i]?=some (some (s.with l))
 |[],[],fr,af,e,_=>by simp[back]at e;subst e;simp
 |[],_ :: _,_,_,e,_=>by simp[back]at e
 |_ :: _,[],_,_,e,_=>by simp[back]at e
 |i :: is,l :: ls,fr,af,e,n=>by
  simp only[back]at e;simp only[List.nodup_cons]at n;split at e
  .rename_i s z;obtain⟨h1,h2,h3⟩:=qR e n.2;refine⟨by simpa using h1,λj hj=>?_,λj hj=>?_⟩
   .simp at hj;rw[h2 j hj.2,List.getElem?_set_ne (λq=>hj.1 q.symm)]
   .rcases List.mem_cons.mp hj with rfl|hj
    .exact⟨0,s,l,by simp,by simp,z,by rw[h2 j n.1,List.getElem?_set_self (List.getElem?_eq_some_iff.mp z).1]⟩
    .obtain⟨k,s',l',a,b,c,d⟩:=h3 j hj;have hne:i≠j:=λq=>n.1 (q▸hj);rw[List.getElem?_set_ne hne]at c;exact⟨k+1,s',l',by simpa using a,by simpa using b,c,d⟩
  .cases e
theorem j9(f:aG M B h S fr ai):∀{as:List (Nat ⊕ V)}{sl:List Sl}{ds:List D}{os:List (List V)},args fr as=some sl->pC h S ai as ds->iU h' S' sl ds os->
  ∀(k i:Nat) l,(bf as)[k]?=some i->os[k]?=some l->∃m cs,ai[i]?=some (some (.ref m))/\h'[m]?=some (.lst cs)/\aq h' S' l cs
 |[],sl,ds,os,e,q,o=>by simp[bf]
 |.inl i :: r,sl,ds,os,e,q,o=>by
  simp only[args,Option.bind_eq_some_iff,Option.map_eq_some_iff]at e;obtain⟨s,e1,l,e2,rfl⟩:=e;obtain⟨d,es,rfl,q1,q⟩:=q;obtain⟨m,cs,l0,o0,_,z2,z3,z4,z5⟩:=fL e1 f;have key:∃l1 r1 cs,os=l1 :: r1/\h'[m]?=some (.lst cs)/\aq h' S' l1 cs/\iU h' S' l es r1:=by
   rw[q1]at z2;cases z2;rcases z5 with ⟨rfl,_⟩|⟨rfl,_⟩
   .obtain⟨d',es',l1,r1,m1,wH,a1,a2,a3,a4,a5,a6⟩:=o;cases a1;cases a3;exact⟨l1,r1,wH,a2,a4,a5,a6⟩
   .obtain⟨d',es',l1,r1,m1,wH,a1,a2,a3,a4,a5,a6⟩:=o;cases a1;cases a3;exact⟨l1,r1,wH,a2,a4,a5,a6⟩
  obtain⟨l1,r1,wH,rfl,a4,a5,a6⟩:=key;intro k j l' y1 y2;cases k with
  |zero=>simp[bf]at y1 y2;subst y1 y2;exact⟨m,wH,z2,a4,a5⟩
  |succ k=>exact j9 f e2 q a6 k j l' (by simpa[bf]using y1) (by simpa using y2)
 |.inr v :: r,sl,ds,os,e,q,o=>by
  simp only[args,Option.map_eq_some_iff]at e;obtain⟨l,e2,rfl⟩:=e;obtain⟨d,es,rfl,q1,q⟩:=q;obtain⟨d',es',a1,a2⟩:=o;cases a1;intro k j l' y1 y2;exact j9 f e2 q a2 k j l' (by simpa[bf]using y1) y2
theorem jt:∀{as:List (Nat ⊕ V)}{sl:List Sl}{i:Nat},args fr as=some sl->i∈bf as->∃s,lent fr i=some s
 |[],_,_,_,q=>by simp[bf]at q
 |.inl j :: r,_,i,z,q=>by
  simp only[args,Option.bind_eq_some_iff,Option.map_eq_some_iff]at z;obtain⟨s,e1,l,e2,rfl⟩:=z;simp[bf]at q;rcases q with rfl|q
  .exact⟨s,e1⟩
  .exact jt e2 q
 |.inr u :: r,_,i,z,q=>by
  simp only[args,Option.map_eq_some_iff]at z;obtain⟨l,e2,rfl⟩:=z;exact jt e2 (by simpa[bf]using q)
noncomputable def LB(fr:Fr)(ai:Ev.Fr)(as:List (Nat ⊕ V)):Nat->Prop:=λm=>∃(i:Nat) (o:Option Sl),i∈bf as/\fr[i]?=some o/\fK o=true/\ai[i]?=some (some (.ref m))
theorem LB.m(f:aG M B h S fr ai){as:List (Nat ⊕ V)}:∀m,LB fr ai as m->M m:=λm ⟨i,o,_,a,b,c⟩=>by
  have s:=f.sl i o _ a c;rcases o with _|s'
  .cases b
  .cases s' with
   |val v=>cases b
   |ro l=>cases b
   |own l=>obtain⟨m',ds',e,y,_⟩:=s;cases e;exact y.1
   |bor l=>obtain⟨m',ds',e,y,_⟩:=s;cases e;exact y.1
theorem tE(f:aG M B h S fr ai){as:List (Nat ⊕ V)}{sl:List Sl}{ds:List D}(nd:(bf as).Nodup)(z:args fr as=some sl)(q:pC h S ai as ds):aG (LB fr ai as) (LB fr ai as) h S (sl.map some) (ds.map some):=by
 have ly:=LB.m f (as:=as);obtain⟨hl,hg⟩:=args_get f z q;refine⟨λm y=>⟨(f.wS m y).1,λz=>(f.wS m y).2.1 (ly m z),λz=>(f.wS m y).2.1 (ly m z)⟩,λm y=>f.wM m (ly m y),λm y=>f.wM m (ly m y),by simp[hl],λa o p y1 y2=>?_,λa b o o' m y1 y2 y3 y4 y5 y6=>?_⟩
 .simp at y1 y2;obtain⟨s,y1,rfl⟩:=y1;obtain⟨d,y2,rfl⟩:=y2;rcases hg a s d y1 y2 with ⟨i,k1,k2,k3⟩|⟨u,rfl,k⟩
  .obtain⟨m,cs,l0,o0,w1,w2,w3,w4,w5⟩:=fL k2 f;rw[k3]at w2;cases w2;rcases w5 with ⟨rfl,w6,w7⟩|⟨rfl,w6,w7⟩
   .exact⟨m,cs,rfl,⟨⟨i,o0,fM k1,w1,w7,k3⟩,⟨i,o0,fM k1,w1,w7,k3⟩⟩,w3,w4⟩
   .exact⟨m,cs,rfl,λz=>w6 (ly m z),w3,w4⟩
  .exact⟨d,rfl,k⟩
 .simp at y1 y2 y5 y6;obtain⟨s,y1,rfl⟩:=y1;obtain⟨s',y2,rfl⟩:=y2;rcases hg a s _ y1 y5 with ⟨i,k1,k2,k3⟩|⟨u,rfl,k⟩
  .rcases hg b s' _ y2 y6 with ⟨j,k4,k5,k6⟩|⟨u,rfl,k⟩
   .obtain⟨m1,_,l1,o1,w1,w2,_,_,w5⟩:=fL k2 f;obtain⟨m2,_,l2,o2,x1,x2,_,_,x5⟩:=fL k5 f;have i1:fK o1=true:=by rcases w5 with ⟨_,_,w7⟩|⟨rfl,_,_⟩;exact w7;cases y3
    have i2:fK o2=true:=by rcases x5 with ⟨_,_,w7⟩|⟨rfl,_,_⟩;exact w7;cases y4
    have:=f.inj i j o1 o2 m w1 x1 i1 i2 k3 k6;subst this;exact j8 nd k1 k4
   .cases y4
  .cases y3
theorem lU{P:ay}{P':Ev.ay}(HP:kM P P'){g:Nat}{as:List (Nat ⊕ V)}{ds:List D}(e:dm P g as fr=.ok v af)(f:aG M B h S fr ai)(q:pC h S ai as ds) :
  ∃d h' S',P' g ds h=.ok d h'/\Rep h' S' v d/\Out M B (bf as) h S fr ai h' S' af:=by
 unfold dm at e;split at e
 case isFalse=>cases e
 rename_i nd;cases z:args fr as with
 |none=>rw[z]at e;cases e
 |some sl=>
 rw[z]at e;simp only at e;cases z2:P g sl with
 |none=>rw[z2]at e;cases e
 |some vo=>
 obtain⟨v',os⟩:=vo;rw[z2]at e;simp only at e;cases z3:back (bf as) os fr with
 |none=>rw[z3]at e;cases e
 |some ak=>
 rw[z3]at e;simp at e;obtain⟨rfl,rfl⟩:=e;obtain⟨hl,hg⟩:=args_get f z q
 let B0:Nat->Prop:=LB fr ai as
 have ly:∀m,B0 m->M m:=LB.m f;have F0:aG B0 B0 h S (sl.map some) (ds.map some):=tE f nd z q;obtain⟨d,h',S',c1,c2,c3,c4⟩:=HP g sl v' os z2 h S B0 ds F0;obtain⟨b1,b2,b3⟩:=qR z3 nd;have hL:=j9 f z q c4;have mT:∀m,S m->h'[m]?=h[m]?:=λm y=>c3.keep m (f.wS m y).1 (λz=>(f.wS m y).2.1 (ly m z));refine⟨d,h',S',c1,c2,⟨?_,?_,?_⟩⟩
 .refine⟨λm y=>?_,λm y=>Nat.lt_of_lt_of_le (f.wM m y) c3.len,λm y=>Nat.lt_of_lt_of_le (f.wB m y) c3.len,by rw[b1,f.len],λi o p y1 y2=>?_,λi j o o' m y1 y2 y3 y4 y5 y6=>?_⟩
  .rcases c3.new m y with y|⟨y1,y2⟩
   .exact⟨Nat.lt_of_lt_of_le (f.wS m y).1 c3.len,(f.wS m y).2⟩
   .exact⟨y2,λz=>by have:=f.wM m z;omega,λz=>by have:=f.wB m z;omega⟩
  .by_cases hi:i∈bf as
   .obtain⟨k,s,l,w1,w2,w3,w4⟩:=b3 i hi;rw[w4]at y1;cases y1;obtain⟨m,cs,x1,x2,x3⟩:=hL k i l w1 w2;rw[x1]at y2;cases y2;have old:=f.sl i _ _ w3 x1;cases s with
    |val u=>
     exfalso;have:∃s,lent fr i=some s:=jt z hi;obtain⟨s,hs⟩:=this;simp[lent,w3,Sl.lend]at hs
    |own u=>obtain⟨m',ds',e,y,_⟩:=old;cases e;exact⟨m,cs,rfl,y,x2,x3⟩
    |bor u=>obtain⟨m',ds',e,y,_⟩:=old;cases e;exact⟨m,cs,rfl,y,x2,x3⟩
    |ro u=>
     obtain⟨m',ds',e,y,y1,y2⟩:=old;cases e;refine⟨m,ds',rfl,y,?_,y2.mono mT c3.sub⟩;rw[c3.keep m (List.getElem?_eq_some_iff.mp y1).1 (λz=>y (ly m z))];exact y1
   .rw[b2 i hi]at y1;have old:=f.sl i o p y1 y2;rcases o with _|s
    .exact old
    .cases s with
     |val u=>obtain⟨d,e,q⟩:=old;exact⟨d,e,q.mono mT c3.sub⟩
     |own u=>
      obtain⟨m,ds',rfl,w1,w2,w3⟩:=old;refine⟨m,ds',rfl,w1,?_,w3.mono mT c3.sub⟩;rw[c3.keep m (f.wM m w1.1) (λ⟨j,o2,x1,x2,x3,x4⟩=>hi (f.inj i j _ o2 m y1 x2 rfl x3 y2 x4▸x1))];exact w2
     |bor u=>
      obtain⟨m,ds',rfl,w1,w2,w3⟩:=old;refine⟨m,ds',rfl,w1,?_,w3.mono mT c3.sub⟩;rw[c3.keep m (f.wM m w1.1) (λ⟨j,o2,x1,x2,x3,x4⟩=>hi (f.inj i j _ o2 m y1 x2 rfl x3 y2 x4▸x1))];exact w2
     |ro u=>
      obtain⟨m,ds',rfl,w1,w2,w3⟩:=old;refine⟨m,ds',rfl,w1,?_,w3.mono mT c3.sub⟩;rw[c3.keep m (List.getElem?_eq_some_iff.mp w2).1 (λz=>w1 (ly m z))];exact w2
  .have kind:∀(i:Nat) o,ak[i]?=some o->fK o=true->∃o0,fr[i]?=some o0/\fK o0=true:=λi o w1 w2=>by
    by_cases hi:i∈bf as
    .obtain⟨k,s,l,x1,x2,x3,x4⟩:=b3 i hi;rw[x4]at w1;cases w1;exact⟨_,x3,by rw[yR]at w2;exact w2⟩
    .rw[b2 i hi]at w1;exact⟨o,w1,w2⟩
   obtain⟨oi,k1,k2⟩:=kind i o y1 y3;obtain⟨oj,k3,k4⟩:=kind j o' y2 y4;exact f.inj i j oi oj m k1 k3 k2 k4 y5 y6
 .exact c3.weak λm z=>⟨ly m z,by obtain⟨i,o,a1,a2,a3,a4⟩:=z;exact⟨i,a1,a4⟩⟩
 .intro i;unfold locked;by_cases hi:i∈bf as
  .obtain⟨k,s,l,x1,x2,x3,x4⟩:=b3 i hi;rw[x3,x4];exact tD
  .rw[b2 i hi]
end
end Pv
namespace Pv
open Ev (D O Hh)
end Pv
namespace Pv
open Ev (D O Hh aU aP TY BI ME T E Es Eo It S Ss Fn big deep b2i rep bL cT bh aD cut bO cP slots aH)
section
variable{M B M':Nat->Prop}{h h' h1 h2:Hh}{S S' S1 S2:Nat->Prop}{fr af ak:Fr}{ai:Ev.Fr}{c c1 c2:List Nat}{v:V}{d:D}
theorem je{n m:Nat}{o:O}(q:n≠m):(h.set n o)[m]?=h[m]?:=List.getElem?_set_ne q
theorem aG.mM(f:aG M B h S fr ai){i n:Nat}{o:Option Sl}(e:fr[i]?=some o)(hM:fK o=true)(e':ai[i]?=some (some (.ref n))):M n:=by
 have s:=f.sl i o _ e e';rcases o with _|s'
 .cases hM
 .cases s' with
  |val v=>cases hM
  |ro l=>cases hM
  |own l=>obtain⟨m',ds',e,y,_⟩:=s;cases e;exact y.1
  |bor l=>obtain⟨m',ds',e,y,_⟩:=s;cases e;exact y.1
theorem aG.write(f:aG M B h S fr ai){i n:Nat}{s:Sl}{l':List V}{ds':List D}(e:fr[i]?=some (some s))(hM:fK (some s)=true)(e':ai[i]?=some (some (.ref n)))(q:aq h S l' ds') :
  aG M B (h.set n (.lst ds')) S (fr.set i (some (s.with l'))) ai:=by
 have mn:=f.mM e hM e';have kp:∀m,S m->(h.set n (.lst ds'))[m]?=h[m]?:=λm z=>je λy=>(f.wS m z).2.1 (y▸mn);have il:=(List.getElem?_eq_some_iff.mp e).1;refine⟨λm y=>by simpa using f.wS m y,λm y=>by simpa using f.wM m y,λm y=>by simpa using f.wB m y,by simp[f.len],λj o p y1 y2=>?_,λj k o o' m y1 y2 y3 y4 y5 y6=>?_⟩
 .by_cases hj:i=j
  .subst hj;rw[List.getElem?_set_self il]at y1;cases y1;rw[e']at y2;cases y2;have old:=f.sl i _ _ e e';have hn:(h.set n (.lst ds'))[n]?=some (.lst ds'):=List.getElem?_set_self (f.wM n mn);cases s with
   |val v=>cases hM
   |ro l=>cases hM
   |own l=>obtain⟨m',_,e,y,_⟩:=old;cases e;exact⟨n,ds',rfl,y,hn,q.mono kp λ_ z=>z⟩
   |bor l=>obtain⟨m',_,e,y,_⟩:=old;cases e;exact⟨n,ds',rfl,y,hn,q.mono kp λ_ z=>z⟩
  .rw[List.getElem?_set_ne hj]at y1;have old:=f.sl j o p y1 y2;rcases o with _|s'
   .exact old
   .cases s' with
    |val u=>obtain⟨d,e,q⟩:=old;exact⟨d,e,q.mono kp λ_ z=>z⟩
    |own u=>
     obtain⟨m,es,rfl,w1,w2,w3⟩:=old;refine⟨m,es,rfl,w1,?_,w3.mono kp λ_ z=>z⟩;rw[je λ(z:n=m)=>hj (f.inj i j _ _ n e y1 hM rfl e' (by rw[z];exact y2))];exact w2
    |bor u=>
     obtain⟨m,es,rfl,w1,w2,w3⟩:=old;refine⟨m,es,rfl,w1,?_,w3.mono kp λ_ z=>z⟩;rw[je λ(z:n=m)=>hj (f.inj i j _ _ n e y1 hM rfl e' (by rw[z];exact y2))];exact w2
    |ro u=>
     obtain⟨m,es,rfl,w1,w2,w3⟩:=old;refine⟨m,es,rfl,w1,?_,w3.mono kp λ_ z=>z⟩;rw[je λ(z:n=m)=>w1 (z▸mn)];exact w2
 .have kind:∀(j:Nat) o,(fr.set i (some (s.with l')))[j]?=some o->fK o=true->∃o0,fr[j]?=some o0/\fK o0=true:=λj o w1 w2=>by
   by_cases hj:i=j
   .subst hj;exact⟨_,e,hM⟩
   .rw[List.getElem?_set_ne hj]at w1;exact⟨o,w1,w2⟩
  obtain⟨oi,k1,k2⟩:=kind j o y1 y3;obtain⟨oj,k3,k4⟩:=kind k o' y2 y4;exact f.inj j k oi oj m k1 k3 k2 k4 y5 y6
theorem FZ{m:ME}{l l':List V}{xs:List V}{n:Nat}{ds es:List D}(z:j6 m l xs=some (v,l'))(e:h[n]?=some (.lst ds))(q:aq h S l ds)(p:dY h S xs es)(p':sV m=false->aq h S xs es)(hS:∀k,S k->k≠n) :
  ∃r ds',Ev.dZ m (.ref n) es h=.ok r (h.set n (.lst ds'))/\Rep h S v r/\aq h S l' ds':=by
 unfold j6 at z;split at z
 .have p':=p' rfl;split at z
  .rename_i k;cases z;simp only[aq]at p';obtain⟨d,_,rfl,p1,rfl⟩:=p';refine⟨_,_,?_,rfl,q.append (.cons p1 .nil)⟩
   delta Ev.dZ;dsimp only;simp only[e]
   rw[if_pos (by rw[<-q.length];exact k)]
  .cases z
 .split at z
  .rename_i k;cases z;obtain⟨d,rfl,p1⟩:=p.one;simp only[aN]at p1;obtain⟨n2,cs,rfl,e2,p1⟩:=p1;refine⟨_,_,?_,rfl,q.append p1⟩
   delta Ev.dZ;dsimp only;simp only[e,e2]
   rw[if_pos (by rw[<-q.length,<-p1.length];exact k)]
  .cases z
 .simp only[dY]at p;subst p;split at z
  .rename_i x y;cases z;obtain⟨d,k1,k2⟩:=q.get y;refine⟨d,_,?_,k2,q.dropLast⟩
   delta Ev.dZ;dsimp only;simp only[e]
   rw[<-q.length,k1]
  .cases z
 .cases z
theorem aG.set(f:aG M B h S fr ai){i:Nat}(e:put fr i (.val v)=some af)(q:Rep h S v d):aG M B h S af (ai.set i (some d))/\(∀j,locked af j=locked fr j)/\∀j,locked fr j=true->(ai.set i (some d))[j]?=ai[j]?:=by
 have hx:af=fr.set i (some (.val v))/\locked fr i=false:=by
  unfold put at e;unfold locked;split at e
  .cases e
  .cases e
  .rename_i k1 k2;cases e;refine⟨rfl,?_⟩;cases z:fr[i]? with
   |none=>rfl
   |some o=>
    rcases o with _|s
    .rfl
    .cases s with
     |bor l=>exact absurd z (k1 l)
     |ro l=>exact absurd z (k2 l)
     |_=>rfl
 obtain⟨rfl,hk⟩:=hx;have lk:∀j,locked (fr.set i (some (.val v))) j=locked fr j:=λj=>by
  by_cases hj:i=j
  .subst hj;rw[hk];unfold locked;by_cases hl:i<fr.length
   .rw[List.getElem?_set_self hl];rfl
   .rw[List.getElem?_eq_none (by simpa using hl)]
  .unfold locked;rw[List.getElem?_set_ne hj]
 refine⟨⟨f.wS,f.wM,f.wB,by simp[f.len],λj o p y1 y2=>?_,λj k o o' m y1 y2 y3 y4 y5 y6=>?_⟩,lk,λj hj=>?_⟩
 .by_cases hj:i=j
  .subst hj;have hl:i<fr.length:=by have:=(List.getElem?_eq_some_iff.mp y1).1;simpa using this
   rw[List.getElem?_set_self hl]at y1;rw[List.getElem?_set_self (by rw[<-f.len];exact hl)]at y2;cases y1;cases y2;exact⟨d,rfl,q⟩
  .rw[List.getElem?_set_ne hj]at y1 y2;exact f.sl j o p y1 y2
 .have hn:∀(j:Nat) o,(fr.set i (some (.val v)))[j]?=some o->fK o=true->i≠j:=λj o w1 w2 w3=>by
   subst w3;have hl:i<fr.length:=by have:=(List.getElem?_eq_some_iff.mp w1).1;simpa using this
   rw[List.getElem?_set_self hl]at w1;cases w1;cases w2
  have n1:=hn j o y1 y3;have n2:=hn k o' y2 y4;rw[List.getElem?_set_ne n1]at y1 y5;rw[List.getElem?_set_ne n2]at y2 y6;exact f.inj j k o o' m y1 y2 y3 y4 y5 y6
 .have:i≠j:=λz=>by subst z;rw[hk]at hj;cases hj
  rw[List.getElem?_set_ne this]
theorem aG.bP:∀{is:List Nat}{vs:List V}{ds:List D}{fr af:Fr}{ai:Ev.Fr},aG M B h S fr ai->bP is vs fr=some af->aq h S vs ds->∃aI,Ev.bP is ds ai=some aI/\aG M B h S af aI/\(∀j,locked af j=locked fr j)/\∀j,locked fr j=true->aI[j]?=ai[j]?
 |[],[],ds,fr,af,ai,f,e,q=>by
  simp[Pv.bP]at e;simp only[aq]at q;subst e q;exact⟨ai,rfl,f,λ_=>rfl,λ_ _=>rfl⟩
 |[],_ :: _,_,_,_,_,_,e,_=>by simp[Pv.bP]at e
 |_ :: _,[],_,_,_,_,_,e,_=>by simp[Pv.bP]at e
 |i :: is,v :: vs,ds,fr,af,ai,f,e,q=>by
  simp only[Pv.bP,Option.bind_eq_some_iff]at e;obtain⟨ak,e1,e2⟩:=e;simp only[aq]at q;obtain⟨d,es,rfl,q1,q2⟩:=q;obtain⟨f2,l2,r2⟩:=f.set e1 q1;obtain⟨aI,a,f3,l3,r3⟩:=f2.bP e2 q2;exact⟨aI,a,f3,λj=>(l3 j).trans (l2 j),λj hj=>(r3 j (by rw[l2 j];exact hj)).trans (r2 j hj)⟩
theorem aG.aZ(f:aG M B h S fr ai){t:T}(e:aZ t v fr=some af)(q:Rep h S v d):∃aI,Ev.aZ t d ai=some aI/\aG M B h S af aI/\(∀j,locked af j=locked fr j)/\∀j,locked fr j=true->aI[j]?=ai[j]?:=by
 cases t with
 |one i=>exact⟨_,rfl,f.set e q⟩
 |many l=>
  cases v<;>simp only[Pv.aZ,reduceCtorEq]at e
  simp only[Rep]at q;obtain⟨ds,rfl,q⟩:=q;exact f.bP e q
theorem aG.undef(f:aG M B h S fr ai){t:T}(e:undef t fr=true):Ev.undef t ai=true:=by
 unfold Pv.undef at e;unfold Ev.undef;rw[List.all_eq_true]at e ⊢;intro i hi;have:=e i hi;cases z:fr[i]? with
 |none=>
  have:ai[i]?=none:=by
   rw[List.getElem?_eq_none_iff]at z ⊢;rw[<-f.len];exact z
  rw[this];rfl
 |some o=>
  obtain⟨p,e1,q⟩:=f.get z;rw[z]at this;rcases o with _|s
  .simp only[jc]at q;subst q;rw[e1];rfl
  .simp at this
theorem tF{i:Nat}{o:Option Sl}(e:(qL fr)[i]?=some o):∃o0,fr[i]?=some o0/\o=o0.map Sl.read:=by
 unfold qL at e;rw[List.getElem?_map]at e;cases z:fr[i]? with
 |none=>rw[z]at e;cases e
 |some o0=>rw[z]at e;cases e;exact⟨o0,rfl,rfl⟩
theorem aG.ro(f:aG M B h S fr ai):aG (λ_=>False) B h S (qL fr) ai:=by
 refine⟨λm y=>⟨(f.wS m y).1,id,(f.wS m y).2.2⟩,λm y=>y.elim,f.wB,by simp[qL,f.len],λi o p y1 y2=>?_,λi j o o' m y1 y2 y3 y4 y5 y6=>?_⟩
 .obtain⟨o0,z,rfl⟩:=tF y1;have q:=f.sl i o0 p z y2;rcases o0 with _|s
  .exact q
  .cases s with
   |val v=>exact q
   |own l=>obtain⟨m,ds,a,b,c,d⟩:=q;exact⟨m,ds,a,id,c,d⟩
   |bor l=>obtain⟨m,ds,a,b,c,d⟩:=q;exact⟨m,ds,a,id,c,d⟩
   |ro l=>obtain⟨m,ds,a,b,c,d⟩:=q;exact⟨m,ds,a,id,c,d⟩
 .obtain⟨o0,z,rfl⟩:=tF y1;rcases o0 with _|s
  .cases y3
  .cases s<;>cases y3
theorem gu:∀{ck:List (Nat×List D)},(∀q∈ck,aH h q.1=some q.2)->Ev.stays h ck=true
 |[],_=>rfl
 | (n,ds) :: r,q=>by
  simp only[Ev.stays,Bool.and_eq_true];refine⟨?_,gu λx hx=>q x (List.mem_cons_of_mem _ hx)⟩;rw[q (n,ds) (List.mem_cons_self ..)];exact Ev.um _
theorem iD{n:Nat}{ds:List D}(q:aH h n=some ds)(k:h'[n]?=h[n]?):aH h' n=some ds:=by
 unfold aH at q ⊢;rw[k];exact q
theorem jf{n:Nat}{ds:List D}(q:aH h n=some ds):n<h.length:=by
 unfold aH at q;cases z:h[n]? with
 |none=>rw[z]at q;cases q
 |some o=>exact(List.getElem?_eq_some_iff.mp z).1
noncomputable def yS(h:Hh)(S:Nat->Prop):Option V->Option D->Prop
 |none,o=>o=none
 |some v,o=>∃d,o=some d/\Rep h S v d
theorem tG{f:V->Option (Option V)}{f':D->Hh->Ev.R (Option D)}{ck:List (Nat×List D)}{h0:Hh}{S0:Nat->Prop}(w0:∀m,S0 m->m<h0.length)(st:∀q∈ck,aH h0 q.1=some q.2)
  (turn:∀v o d h S,Al h0 S0 h S->f v=some o->Rep h S v d->∃o' h' S',f' d h=.ok o' h'/\yS h' S' o o'/\Al h S h' S') :
  ∀{vs:List V} {ds:List D} {rs:List V} {h:Hh} {S:Nat->Prop},Al h0 S0 h S->bZ f vs=some rs->aq h S vs ds->∃rs' h' S',Ev.bZ f' ck ds h=.ok rs' h'/\aq h' S' rs rs'/\Al h S h' S'
 |[],ds,rs,h,S,a,e,q=>by
  simp[bZ]at e;simp only[aq]at q;subst e q;refine⟨[],h,S,?_,.nil,.refl⟩;simp only[Ev.bZ];rw[if_pos (gu λx hx=>iD (st x hx) (a.keep _ (jf (st x hx))))]
 |v :: vs,ds,rs,h,S,a,e,q=>by
  simp only[bZ,Option.bind_eq_some_iff]at e;obtain⟨o,e1,r,e2,e3⟩:=e;cases e3;simp only[aq]at q;obtain⟨d,es,rfl,q1,q2⟩:=q;have w:∀m,S m->m<h.length:=λm z=>by
   rcases a.new m z with z|z
   .exact Nat.lt_of_lt_of_le (w0 m z) a.len
   .exact z.2
  obtain⟨o',h1,S1,t1,t2,t3⟩:=turn v o d h S a e1 q1;obtain⟨rs',h2,S2,u1,u2,u3⟩:=tG w0 st turn (a.trans t3) e2 (q2.mono (λm z=>t3.keep m (w m z)) t3.sub);have w1:∀m,S1 m->m<h1.length:=λm z=>by
   rcases t3.new m z with z|z
   .exact Nat.lt_of_lt_of_le (w m z) t3.len
   .exact z.2
  refine⟨o'.toList++rs',h2,S2,?_,?_,t3.trans u3⟩
  .simp only[Ev.bZ];rw[if_pos (gu λx hx=>iD (st x hx) (a.keep _ (jf (st x hx)))),t1,Ev.aj,u1,Ev.aj]
  .cases o with
   |none=>simp only[yS]at t2;subst t2;simpa using u2
   |some v'=>
    simp only[yS]at t2;obtain⟨d',rfl,t2⟩:=t2;exact .cons (t2.mono (λm z=>u3.keep m (w1 m z)) u3.sub) u2
end
noncomputable def g4(k:Bool)(h:Hh)(S:Nat->Prop)(v:List V)(d:List D):Prop:=if k=true then dY h S v d else aq h S v d
inductive Ga(P':Ev.ay)(e:E)(k:Bool)(v:V)(M B:Nat->Prop)(h:Hh)(S:Nat->Prop)(fr:Fr)(ai:Ev.Fr)(af:Fr):Prop
 |mk (d:D) (h':Hh) (S':Nat->Prop) (c0:Ev.ev P' e ai h=.ok d h') (c1:eg k h' S' v d) (c2:Out M B (bG e) h S fr ai h' S' af):Ga P' e k v M B h S fr ai af
inductive Gb(P':Ev.ay)(e:E)(b:Bool)(M B:Nat->Prop)(h:Hh)(S:Nat->Prop)(fr:Fr)(ai:Ev.Fr)(af:Fr):Prop
 |mk (h':Hh) (S':Nat->Prop) (c0:Ev.av P' e ai h=.ok b h') (c1:Out M B (bG e) h S fr ai h' S' af):Gb P' e b M B h S fr ai af
inductive Gd(P':Ev.ay)(e:Es)(k:Bool)(v:List V)(M B:Nat->Prop)(h:Hh)(S:Nat->Prop)(fr:Fr)(ai:Ev.Fr)(af:Fr):Prop
 |mk (d:List D) (h':Hh) (S':Nat->Prop) (c0:Ev.bz P' e ai h=.ok d h') (c1:g4 k h' S' v d) (c2:Out M B (dR e) h S fr ai h' S' af):Gd P' e k v M B h S fr ai af
inductive Ge(P':Ev.ay)(e:Es)(v:List (Nat ⊕ V))(M B:Nat->Prop)(h:Hh)(S:Nat->Prop)(fr:Fr)(ai:Ev.Fr)(af:Fr):Prop
 |mk (d:List D) (h':Hh) (S':Nat->Prop) (c0:Ev.bz P' e ai h=.ok d h') (c1:pC h' S' ai v d) (c2:Out M B (dR e) h S fr ai h' S' af):Ge P' e v M B h S fr ai af
inductive Gf(P':Ev.ay)(e:Eo)(v:Option Int)(M B:Nat->Prop)(h:Hh)(S:Nat->Prop)(fr:Fr)(ai:Ev.Fr)(af:Fr):Prop
 |mk (h':Hh) (S':Nat->Prop) (c0:Ev.dU P' e ai h=.ok v h') (c1:Out M B (iT e) h S fr ai h' S' af):Gf P' e v M B h S fr ai af
inductive Gg(P':Ev.ay)(e:Eo)(v:Bool)(M B:Nat->Prop)(h:Hh)(S:Nat->Prop)(fr:Fr)(ai:Ev.Fr)(af:Fr):Prop
 |mk (h':Hh) (S':Nat->Prop) (c0:Ev.gX P' e ai h=.ok v h') (c1:Out M B (iT e) h S fr ai h' S' af):Gg P' e v M B h S fr ai af
inductive Gh(P':Ev.ay)(e:It)(k:Bool)(v:List V)(M B:Nat->Prop)(h:Hh)(S:Nat->Prop)(fr:Fr)(ai:Ev.Fr)(af:Fr):Prop
 |mk (s:Ev.Src) (h':Hh) (S':Nat->Prop) (c0:Ev.b9 P' e ai h=.ok s h') (c1:aq h' S' v s.1) (c2:∀q∈s.2,aH h' q.1=some q.2/\(k=false->¬ M q.1)) (c3:Out M B (yN e) h S fr ai h' S' af):Gh P' e k v M B h S fr ai af
section
variable(P:ay)(P':Ev.ay)
noncomputable def aR(e:E):Prop:=∀{k:Bool} {fr:Fr} {v:V} {af:Fr} {M B:Nat->Prop} {h:Hh} {S:Nat->Prop} {ai:Ev.Fr},ev P k e fr=.ok v af->aG M B h S fr ai->Ga P' e k v M B h S fr ai af
noncomputable def fq(e:E):Prop:=∀{fr:Fr} {b:Bool} {af:Fr} {M B:Nat->Prop} {h:Hh} {S:Nat->Prop} {ai:Ev.Fr},av P e fr=.ok b af->aG M B h S fr ai->Gb P' e b M B h S fr ai af
noncomputable def g5(e:Es):Prop:=∀{k:Bool} {fr:Fr} {v:List V} {af:Fr} {M B:Nat->Prop} {h:Hh} {S:Nat->Prop} {ai:Ev.Fr},bz P k e fr=.ok v af->aG M B h S fr ai->Gd P' e k v M B h S fr ai af
noncomputable def mU(e:Es):Prop:=∀{fr:Fr} {v:List (Nat ⊕ V)} {af:Fr} {M B:Nat->Prop} {h:Hh} {S:Nat->Prop} {ai:Ev.Fr},cQ P e fr=.ok v af->aG M B h S fr ai->Ge P' e v M B h S fr ai af
noncomputable def mV(e:Eo):Prop:=∀{fr:Fr} {v:Option Int} {af:Fr} {M B:Nat->Prop} {h:Hh} {S:Nat->Prop} {ai:Ev.Fr},dU P e fr=.ok v af->aG M B h S fr ai->Gf P' e v M B h S fr ai af
noncomputable def pO(e:Eo):Prop:=∀{fr:Fr} {v:Bool} {af:Fr} {M B:Nat->Prop} {h:Hh} {S:Nat->Prop} {ai:Ev.Fr},gX P e fr=.ok v af->aG M B h S fr ai->Gg P' e v M B h S fr ai af
noncomputable def ju(e:It):Prop:=∀{k:Bool} {fr:Fr} {v:List V} {af:Fr} {M B:Nat->Prop} {h:Hh} {S:Nat->Prop} {ai:Ev.Fr},b9 P k e fr=.ok v af->aG M B h S fr ai->Gh P' e k v M B h S fr ai af
end
section
variable{P:ay}{P':Ev.ay}{a b e tt:E}{es:Es}{lo hi:Eo}{it:It}
theorem Gi{d:D}:aR P P' (.c d):=λz f=>by
 simp only[ev]at z;replace z:=aE z;obtain⟨z,y0⟩:=z;subst y0;exact⟨d,_,_,by simp only[Ev.ev],.of (j7 z),.refl f⟩
theorem Gj{i:Nat}:aR P P' (.v i):=λz f=>by
 simp only[ev]at z;replace z:=aE z;obtain⟨z,y0⟩:=z;subst y0;obtain⟨d,e1,q⟩:=CC z f;exact⟨d,_,_,by simp only[Ev.ev,e1,Ev.cy],q,.refl f⟩
theorem g4.n{h:Hh}{S:Nat->Prop}{v:List V}{d:List D}(q:g4 false h S v d):aq h S v d:=by simpa[g4]using q
theorem aq.tl{h:Hh}{S:Nat->Prop}:∀{v:List V}{d:List D},aq h S v d->dY h S v d
 |[],_,q=>q
 |_ :: _,_,⟨d,es,a,b,q⟩=>⟨d,es,a,b.top,q.tl⟩
theorem g4.t{k:Bool}{h:Hh}{S:Nat->Prop}{v:List V}{d:List D}(q:g4 k h S v d):dY h S v d:=by
 unfold g4 at q;split at q
 .exact q
 .exact q.tl
theorem wI(is:g5 P P' es):aR P P' (.tup es):=λz f=>by
 simp only[ev]at z;obtain⟨ds,ak,z1,z2⟩:=ah z;replace z2:=aE z2;obtain⟨z2,y0⟩:=z2;subst y0;obtain⟨ds',h',S',e1,q,o⟩:=is z1 f;unfold iB at z2;split at z2
 .rename_i hk;cases z2;refine⟨.tup ds',h',S',?_,.of ⟨ds',rfl,q.n⟩,o⟩;simp only[Ev.ev,e1,Ev.aj];rw[if_pos (by rw[<-q.n.length];exact hk)]
 .cases z2
theorem wJ(is:g5 P P' es):aR P P' (.lst es):=λz f=>by
 simp only[ev]at z;obtain⟨ds,ak,z1,z2⟩:=ah z;replace z2:=aE z2;obtain⟨z2,y0⟩:=z2;subst y0;obtain⟨ds',h',S',e1,q,o⟩:=is z1 f;obtain⟨r,h2,S2,a1,a2,a3⟩:=iC o.f.w z2 q.n;exact⟨r,h2,S2,by simp only[Ev.ev,e1,Ev.aj,a1],.of a2,o.al a3⟩
theorem pP{a:E}{ai:Ev.Fr}{h h1:Hh}{d:D}(e:Ev.ev P' a ai h=.ok d h1):∀i,a=.v i->ai[i]?.join=some d:=λi hi=>by
 subst hi;simp only[Ev.ev]at e;exact(Ev.aE e).1
theorem two(ia:aR P P' a)(ib:aR P P' b){α:Type}{X:V->V->Fr->R α}{u:α}{fr bq:Fr}{M B:Nat->Prop}{h:Hh}{S:Nat->Prop}{ai:Ev.Fr}
  (z:((ev P (kf a (bG b)) a fr).bind λx af=>(ev P true b af).bind λy ak=>X x y ak)=.ok u bq) (f:aG M B h S fr ai) :
  ∃x y d e h2 S2 ak,(∀{β:Type} (g:D->D->Hh->Ev.R β),((Ev.ev P' a ai h).bind λx h1=>(Ev.ev P' b ai h1).bind λy h2=>g x y h2)=g d e h2)/\X x y ak=.ok u bq/\aN h2 S2 x d/\aN h2 S2 y e/\Out M B (bG a++bG b) h S fr ai h2 S2 ak:=by
 replace z:=ah z;obtain⟨x,af,z1,z⟩:=z;replace z:=ah z;obtain⟨y,ak,z2,z⟩:=z;obtain⟨d,h1,S1,e1,q1,o1⟩:=ia z1 f;obtain⟨e,h2,S2,e2,q2,o2⟩:=ib z2 o1.f;exact⟨x,y,d,e,h2,S2,ak,λg=>by rw[e1,Ev.aj,e2,Ev.aj],z,(q1.tr o1.f o2.tr id (pP e1)).t,q2.t,o1.trans o2⟩
theorem wK{o:aU}(ia:aR P P' a)(ib:aR P P' b):aR P P' (.bin o a b):=λz f=>by
 simp only[ev]at z;replace z:=two ia ib z f;obtain⟨x,y,d,e,h2,S2,ak,k,z,q1,q2,ou⟩:=z;replace z:=aE z;obtain⟨z,y0⟩:=z;subst y0;obtain⟨r,h3,S3,a1,a2,a3⟩:=FJ ou.f.w z q1 q2;exact⟨r,h3,S3,by simp only[Ev.ev];rw[k];exact a1,.of a2,ou.al a3⟩
theorem wL{o:aP}(ia:aR P P' a)(ib:aR P P' b):aR P P' (.cmp o a b):=λz f=>by
 simp only[ev]at z;replace z:=two ia ib z f;obtain⟨x,y,d,e,h2,S2,ak,k,z,q1,q2,ou⟩:=z;replace z:=aE z;obtain⟨z,y0⟩:=z;subst y0;simp only[Option.map_eq_some_iff]at z;obtain⟨b,z,rfl⟩:=z;exact⟨.bl b,h2,S2,by simp only[Ev.ev];rw[k,FL z q1.u q2.u];rfl,.of rfl,ou⟩
theorem A2(ia:aR P P' a)(ib:aR P P' b):aR P P' (.ix a b):=λz f=>by
 simp only[ev]at z;replace z:=two ia ib z f;obtain⟨x,y,d,e,h2,S2,ak,k,z,q1,q2,ou⟩:=z;replace z:=aE z;obtain⟨z,y0⟩:=z;subst y0;obtain⟨r,a1,a2⟩:=FO z q1 q2;exact⟨r,h2,S2,by simp only[Ev.ev];rw[k,a1];rfl,.of a2,ou⟩
theorem ID(ia:aR P P' a):aR P P' (.nt a):=λz f=>by
 simp only[ev]at z;replace z:=ah z;obtain⟨x,af,z1,z⟩:=z;obtain⟨d,h1,S1,e1,q1,o1⟩:=ia z1 f;cases x<;>simp only[reduceCtorEq]at z
 cases z;have q:=q1.t;simp only[aN,Rep]at q;subst q;exact⟨_,h1,S1,by simp only[Ev.ev,e1,Ev.aj],.of rfl,o1⟩
theorem wN(ia:aR P P' a):aR P P' (.neg a):=λz f=>by
 simp only[ev]at z;replace z:=ah z;obtain⟨x,af,z1,z⟩:=z;obtain⟨d,h1,S1,e1,q1,o1⟩:=ia z1 f;cases x<;>simp only[reduceCtorEq]at z
 cases z;have q:=q1.t;simp only[aN,Rep]at q;subst q;exact⟨_,h1,S1,by simp only[Ev.ev,e1,Ev.aj],.of rfl,o1⟩
theorem IE(ia:aR P P' a)(ib:aR P P' b):aR P P' (.an a b):=λz f=>by
 simp only[ev]at z;replace z:=ah z;obtain⟨x,af,z1,z⟩:=z;obtain⟨d,h1,S1,e1,q1,o1⟩:=ia z1 f;cases x<;>try (cases z;done)
 rename_i k;have q:=q1.t;simp only[aN,Rep]at q;subst q;cases k with
 |true=>
  try simp only at z
  obtain⟨d,h2,S2,e2,q2,o2⟩:=ib z o1.f;exact⟨d,h2,S2,by simp only[Ev.ev,e1,Ev.aj,e2],q2,o1.trans o2⟩
 |false=>
  try simp only at z
  cases z;exact⟨_,h1,S1,by simp only[Ev.ev,e1,Ev.aj],.of rfl,o1.weak (by simp only[bG];intro i hi;simp[hi])⟩
theorem Gk(ia:aR P P' a)(ib:aR P P' b):aR P P' (.orr a b):=λz f=>by
 simp only[ev]at z;replace z:=ah z;obtain⟨x,af,z1,z⟩:=z;obtain⟨d,h1,S1,e1,q1,o1⟩:=ia z1 f;cases x<;>try (cases z;done)
 rename_i k;have q:=q1.t;simp only[aN,Rep]at q;subst q;cases k with
 |false=>
  try simp only at z
  obtain⟨d,h2,S2,e2,q2,o2⟩:=ib z o1.f;exact⟨d,h2,S2,by simp only[Ev.ev,e1,Ev.aj,e2],q2,o1.trans o2⟩
 |true=>
  try simp only at z
  cases z;exact⟨_,h1,S1,by simp only[Ev.ev,e1,Ev.aj],.of rfl,o1.weak (by simp only[bG];intro i hi;simp[hi])⟩
theorem wO(it:fq P P' tt)(ia:aR P P' a)(ib:aR P P' b):aR P P' (.fG tt a b):=λz f=>by
 simp only[ev]at z;replace z:=ah z;obtain⟨k,af,z1,z⟩:=z;obtain⟨h1,S1,e1,o1⟩:=it z1 f;cases k with
 |true=>
  simp only[if_true]at z;obtain⟨d,h2,S2,e2,q2,o2⟩:=ia z o1.f;exact⟨d,h2,S2,by simp only[Ev.ev,e1,Ev.aj,if_true,e2],q2,(o1.trans o2).weak (by simp only[bG];intro i hi;simp at hi ⊢;rcases hi with hi|hi<;>simp[hi])⟩
 |false=>
  simp only[Bool.false_eq_true,if_false]at z;obtain⟨d,h2,S2,e2,q2,o2⟩:=ib z o1.f;exact⟨d,h2,S2,by simp only[Ev.ev,e1,Ev.aj];rw[if_neg (by decide)];exact e2,q2,(o1.trans o2).weak (by simp only[bG];intro i hi;simp at hi ⊢;rcases hi with hi|hi<;>simp[hi])⟩
theorem A3(ia:aR P P' a)(il:mV P P' lo)(ih:mV P P' hi):aR P P' (.sl a lo hi):=λz f=>by
 simp only[ev]at z;replace z:=ah z;obtain⟨x,af,z1,z⟩:=z;replace z:=ah z;obtain⟨l,ak,z2,z⟩:=z;replace z:=ah z;obtain⟨u,bw,z3,z⟩:=z;replace z:=aE z;obtain⟨z,y0⟩:=z;subst y0;obtain⟨d,h1,S1,e1,q1,o1⟩:=ia z1 f;obtain⟨h2,S2,e2,o2⟩:=il z2 o1.f;obtain⟨h3,S3,e3,o3⟩:=ih z3 o2.f;have q:=(q1.tr o1.f (o2.trans o3).tr id (pP e1)).t;obtain⟨r,h4,S4,a1,a2,a3⟩:=FP o3.f.w z q;exact⟨r,h4,S4,by simp only[Ev.ev,e1,Ev.aj,e2,e3,a1],.of a2,(o1.trans (o2.trans o3)).al a3⟩
theorem kg:∀{es:Es}{fr af:Fr}{as:List (Nat ⊕ V)},cQ P es fr=.ok as af->∀i∈bf as,i∈iw es
 |.nil,_,_,_,z=>by simp only[cQ]at z;cases z;simp[bf]
 |.cons e es,fr,af,as,z=>by
  simp only[cQ]at z;cases y:ef fr e with
  |some i=>
   rw[y]at z;simp only at z;replace z:=ah z;obtain⟨xs,bw,z2,z⟩:=z;cases z;have hy:e=.v i:=by
    cases e<;>simp only[ef,reduceCtorEq]at y
    split at y
    .cases y;rfl
    .cases y
   subst hy;intro j hj;simp only[bf,List.mem_cons]at hj;simp only[iw,List.mem_cons];exact hj.imp id λhj=>kg z2 j hj
  |none=>
   rw[y]at z;simp only at z;replace z:=ah z;obtain⟨x,ak,z1,z⟩:=z;replace z:=ah z;obtain⟨xs,bw,z2,z⟩:=z;cases z;intro j hj;simp only[bf]at hj;have:=kg z2 j hj;cases e<;>simp only[iw]<;>first|exact this|exact List.mem_cons_of_mem _ this
theorem A4(HP:kM P P'){g:Nat}(is:mU P P' es):aR P P' (.cl g es):=λz f=>by
 simp only[ev]at z;replace z:=ah z;obtain⟨as,af,z1,z⟩:=z;obtain⟨ds,h1,S1,e1,q1,o1⟩:=is z1 f;obtain⟨d,h2,S2,e2,q2,o2⟩:=lU HP z o1.f q1;exact⟨d,h2,S2,by simp only[Ev.ev,e1,Ev.aj,e2],.of q2,(o1.trans o2).weak (by
  simp only[bG];intro i hi;rcases List.mem_append.mp hi with hi|hi
  .exact List.mem_append.mpr (.inl hi)
  .exact List.mem_append.mpr (.inr (kg z1 i hi)))⟩
theorem A5{g:BI}(is:g5 P P' es):aR P P' (.bi g es):=λz f=>by
 simp only[ev]at z;replace z:=ah z;obtain⟨as,af,z1,z⟩:=z;replace z:=aE z;obtain⟨z,y0⟩:=z;subst y0;obtain⟨ds,h1,S1,e1,q1,o1⟩:=is z1 f;obtain⟨r,h4,S4,a1,a2,a3⟩:=FT o1.f.w z q1.t;exact⟨r,h4,S4,by simp only[Ev.ev,e1,Ev.aj,a1],.of a2,o1.al a3⟩
theorem wQ{ts:List TY}(ia:aR P P' a):aR P P' (.eX a ts):=λz f=>by
 simp only[ev]at z;replace z:=ah z;obtain⟨x,af,z1,z⟩:=z;cases z;obtain⟨d,h1,S1,e1,q1,o1⟩:=ia z1 f;have:Ev.cz h1 d=cz x:=funext λt=>Cz q1.t t;refine⟨.bl (ts.any (Ev.cz h1 d)),h1,S1,by simp only[Ev.ev,e1,Ev.aj],.of ?_,o1⟩;rw[this];rfl
theorem tH{kvs:List (D×D)}(ia:aR P P' a):aR P P' (.gQ kvs a):=λz f=>by
 simp only[ev]at z;replace z:=ah z;obtain⟨x,af,z1,z⟩:=z;replace z:=aE z;obtain⟨z,y0⟩:=z;subst y0;obtain⟨d,h1,S1,e1,q1,o1⟩:=ia z1 f;obtain⟨r,a1,a2⟩:=yP (S:=S1) q1.t.u z;exact⟨r,h1,S1,by simp only[Ev.ev,e1,Ev.aj,a1,Ev.cy],.of a2,o1⟩
theorem wR(ia:aR P P' a):aR P P' (.gG a):=λz f=>by
 simp only[ev]at z;replace z:=ah z;obtain⟨x,af,z1,z⟩:=z;replace z:=aE z;obtain⟨z,y0⟩:=z;subst y0;obtain⟨d,h1,S1,e1,q1,o1⟩:=ia z1 f;obtain⟨r,a1,a2⟩:=FQ z q1.t;exact⟨r,h1,S1,by simp only[Ev.ev,e1,Ev.aj,a1],.of a2,o1⟩
theorem A6{m:ME}{o:E}(io:aR P P' o)(is:g5 P P' es):aR P P' (.me m o es):=λ{k fr v af M B h S ai} z f=>by
 simp only[ev]at z;by_cases hm:fW m=true
 .rw[if_pos hm]at z;cases y:ef fr o with
  |none=>rw[y]at z;cases z
  |some i=>
  rw[y]at z;try simp only at z
  replace z:=ah z;obtain⟨as,ak,z1,z⟩:=z;have hy:o=.v i/\∃s,lent fr i=some s:=by
   cases o<;>simp only[ef,reduceCtorEq]at y
   rename_i j;split at y
   .rename_i hs;cases y;exact⟨rfl,Option.isSome_iff_exists.mp hs⟩
   .cases y
  obtain⟨rfl,s,hs⟩:=hy;obtain⟨n,cs,_,_,_,w2,w3,_,_⟩:=fL hs f;obtain⟨ds,h1,S1,e1,q1,o1⟩:=is z1 f;have hr:Ev.mF m (.ref n) h=true:=by cases m<;>simp[fW]at hm<;>simp[Ev.mF,fY w3]
  have hap:sV m=false->aq h1 S1 as ds:=λhh=>by rw[hh]at q1;exact q1.n
  have fin:∀s l l',ak[i]?=some (some s)->fK (some s)=true->(∃m' cs',ai[i]?=some (some (.ref m'))/\h1[m']?=some (.lst cs')/\aq h1 S1 l cs')->j6 m l as=some (v,l')->af=ak.set i (some (s.with l'))->
    Ga P' (.me m (.v i) es) k v M B h S fr ai af:=by
   intro s l l' k1 k2 ⟨m',cs',k3,k4,k5⟩ k6 k7;rw[w2]at k3;cases k3;have mn:=o1.f.mM k1 k2 w2;obtain⟨r,ds',a1,a2,a3⟩:=FZ k6 k4 k5 q1.t hap λk z y=>(o1.f.wS k z).2.1 (y▸mn);have fw:=o1.f.write (l':=l') k1 k2 w2 a3;subst k7;refine⟨r,_,S1,?_,.of (a2.mono (λm z=>je λy=>(o1.f.wS m z).2.1 (y▸mn)) λ_ z=>z),fw,?_,λj=>?_⟩
   .simp only[Ev.ev,w2,Option.join,Ev.cy,Ev.aj,hr,if_true,e1];simp only[Option.bind,id,Ev.cy,Ev.aj,hr,if_true,e1];exact a1
   .refine⟨by simpa using o1.tr.len,λm y1 y2=>?_,o1.tr.sub,λm y=>by simpa using o1.tr.new m y⟩;have y3:¬ Xs M ai (dR es) m:=λz=>y2 (Xs.mono (by simp only[bG];intro i hi;simp[hi]) z);have y4:m≠n:=λz=>y2 ⟨z▸mn,i,by simp[bG,Ke,hm],by rw[z];exact w2⟩;rw[je (λ(z:n=m)=>y4 z.symm)];exact o1.tr.keep m y1 y3
   .rw[<-o1.lk j];unfold locked;by_cases hj:i=j
    .subst hj;rw[List.getElem?_set_self (List.getElem?_eq_some_iff.mp k1).1,k1];exact tD
    .rw[List.getElem?_set_ne hj]
  split at z
  .rename_i l k1;have old:=o1.f.get k1;obtain⟨p,k2,m',cs',rfl,_,k4,k5⟩:=old;split at z
   .rename_i v' l' k6;cases z;exact fin _ l l' k1 rfl ⟨m',cs',k2,k4,k5⟩ k6 rfl
   .cases z
  .rename_i l k1;have old:=o1.f.get k1;obtain⟨p,k2,m',cs',rfl,_,k4,k5⟩:=old;split at z
   .rename_i v' l' k6;cases z;exact fin _ l l' k1 rfl ⟨m',cs',k2,k4,k5⟩ k6 rfl
   .cases z
  .cases z
 .rw[if_neg hm]at z;replace z:=ah z;obtain⟨x,ak,z1,z⟩:=z;replace z:=ah z;obtain⟨as,bw,z2,z⟩:=z;replace z:=aE z;obtain⟨z,y0⟩:=z;subst y0;obtain⟨d,h1,S1,e1,q1,o1⟩:=io z1 f;obtain⟨ds,h2,S2,e2,q2,o2⟩:=is z2 o1.f;have hm':fW m=false:=by simpa using hm
  have A7:=(q1.tr o1.f o2.tr id (pP e1)).t;obtain⟨a1,r,a2,a3⟩:=FU z hm' A7 q2.t;have hr:Ev.mF m d h1=true:=by
   unfold dZ at z;split at z
   .have:=q1.t;simp only[aN,Rep]at this;subst this;rfl
   .cases z
  exact⟨r,h2,S2,by simp only[Ev.ev,e1,Ev.aj,hr,if_true,e2,a2],.of a3,(o1.trans o2).weak (by simp only[bG];intro i hi;simp at hi ⊢;rcases hi with hi|hi<;>simp[hi])⟩
theorem qS{elt:E}{t:T}{cond:Eo}(ii:ju P P' it)(ic:pO P P' cond)(ie:aR P P' elt):aR P P' (.comp elt t it cond):=λz f=>by
 simp only[ev]at z;replace z:=ah z;obtain⟨vs,ak,z1,z⟩:=z;split at z
 case isFalse=>cases z
 rename_i hu;replace z:=aE z;obtain⟨z,y0⟩:=z;subst y0;simp only[Option.bind_eq_some_iff]at z;obtain⟨rs,z2,z3⟩:=z;obtain⟨s,h1,S1,e1,q1,q2,o1⟩:=ii z1 f;have NS:=o1.f.ro;obtain⟨rs',h2,S2,c1,c2,c3⟩:=tG (f':=λd h2=>match Ev.aZ t d _ with
    |none=>.bad
    |some ak=>(Ev.gX P' cond ak h2).bind λk h3=>if k then (Ev.ev P' elt ak h3).bind λx h4=>.ok (some x) h4 else .ok none h3) (ck:=s.2) o1.f.w (λq hq=>(q2 q hq).1) (λv o d h S al y q=>by
  split at y
  .cases y
  .rename_i bw y1;obtain⟨fE,b1,b2,_,_⟩:=(NS.al al).aZ y1 q;rw[b1];split at y
   .rename_i c gY y2;obtain⟨h3,S3,c1,oc⟩:=ic y2 b2;have Gm:Al h S h3 S3:=oc.tr.al λm z=>z.1;split at y
    .rename_i hc;subst hc;split at y
     .rename_i x oF y3;cases y;obtain⟨d',h4,S4,d1,d2,od⟩:=ie y3 (b2.al Gm);refine⟨some d',h4,S4,?_,⟨d',rfl,d2.n⟩,Gm.trans (od.tr.al λm z=>z.1)⟩;simp only[c1,Ev.aj,if_true,d1]
     .cases y
    .rename_i hc;cases y;refine⟨none,h3,S3,?_,rfl,Gm⟩;simp only[c1,Ev.aj];rw[if_neg hc]
   .cases y) Al.refl z2 q1
 obtain⟨r,h4,S4,a1,a2,a3⟩:=iC (o1.f.al c3).w z3 c2;refine⟨r,h4,S4,?_,.of a2,(o1.al c3).al a3⟩;simp only[Ev.ev,e1,Ev.aj];rw[if_pos (o1.f.undef hu)];refine Eq.trans (congrArg (λq:Ev.R (List D)=>q.bind λds h2=>Ev.alloc ds h2) c1) ?_;simp only[Ev.aj,a1]
theorem wU(ii:ju P P' it):aR P P' (.gW it):=λz f=>by
 simp only[ev]at z;replace z:=ah z;obtain⟨vs,ak,z1,z⟩:=z;replace z:=aE z;obtain⟨z,y0⟩:=z;subst y0;obtain⟨s,h1,S1,e1,q1,q2,o1⟩:=ii z1 f;obtain⟨r,h4,S4,a1,a2,a3⟩:=iC o1.f.w z q1;exact⟨r,h4,S4,by simp only[Ev.ev,e1,Ev.aj,a1],.of a2,o1.al a3⟩
theorem Gn:g5 P P' .nil:=λ{k fr v af M B h S ai} z f=>by
 simp only[bz]at z;cases z;refine⟨[],_,_,by simp only[Ev.bz],?_,.refl f⟩;unfold g4;split<;>rfl
theorem CD(ie:aR P P' e)(is:g5 P P' es):g5 P P' (.cons e es):=λ{k fr v af M B h S ai} z f=>by
 simp only[bz]at z;replace z:=ah z;obtain⟨x,ak,z1,z⟩:=z;replace z:=ah z;obtain⟨xs,bw,z2,z⟩:=z;cases z;obtain⟨d,h1,S1,e1,q1,o1⟩:=ie z1 f;obtain⟨ds,h2,S2,e2,q2,o2⟩:=is z2 o1.f;have A7:=q1.tr (a:=e) o1.f o2.tr (by intro z;simp at z;exact z.2) (pP e1);refine⟨d :: ds,h2,S2,by simp only[Ev.bz,e1,Ev.aj,e2],?_,o1.trans o2⟩;unfold g4 at q2 ⊢;cases k with
 |true=>simp only[if_true]at q2 ⊢;exact⟨d,ds,rfl,A7.t,q2⟩
 |false=>
  simp only[Bool.false_eq_true,if_false]at q2 ⊢;exact .cons (by simpa[eg]using A7) q2
theorem CF:mU P P' .nil:=λz f=>by
 simp only[cQ]at z;cases z;exact⟨[],_,_,by simp only[Ev.bz],rfl,.refl f⟩
theorem yT(ie:aR P P' e)(is:mU P P' es):mU P P' (.cons e es):=λ{fr v af M B h S ai} z f=>by
 simp only[cQ]at z;cases y:ef fr e with
 |some i=>
  rw[y]at z;try simp only at z
  replace z:=ah z;obtain⟨xs,bw,z2,z⟩:=z;cases z;have hy:e=.v i/\∃s,lent fr i=some s:=by
   cases e<;>simp only[ef,reduceCtorEq]at y
   rename_i j;split at y
   .rename_i hs;cases y;exact⟨rfl,Option.isSome_iff_exists.mp hs⟩
   .cases y
  obtain⟨rfl,s,hs⟩:=hy;obtain⟨n,cs,_,_,_,w2,w3,_,_⟩:=fL hs f;obtain⟨ds,h2,S2,e2,q2,o2⟩:=is z2 f;refine⟨.ref n :: ds,h2,S2,?_,⟨_,_,rfl,w2,q2⟩,o2.weak (by simp only[dR,bG];intro i hi;simpa using hi)⟩;simp only[Ev.bz,Ev.ev,w2,Option.join,Option.bind,id,Ev.cy,Ev.aj,e2]
 |none=>
  rw[y]at z;try simp only at z
  replace z:=ah z;obtain⟨x,ak,z1,z⟩:=z;replace z:=ah z;obtain⟨xs,bw,z2,z⟩:=z;cases z;obtain⟨d,h1,S1,e1,q1,o1⟩:=ie z1 f;obtain⟨ds,h2,S2,e2,q2,o2⟩:=is z2 o1.f;exact⟨d :: ds,h2,S2,by simp only[Ev.bz,e1,Ev.aj,e2],⟨_,_,rfl,q1.n.tr o1.f o2.tr,q2⟩,o1.trans o2⟩
theorem IF:mV P P' .no:=λz f=>by
 simp only[dU]at z;cases z;exact⟨_,_,by simp only[Ev.dU],.refl f⟩
theorem Gp(ie:aR P P' e):mV P P' (.yes e):=λz f=>by
 simp only[dU]at z;replace z:=ah z;obtain⟨x,ak,z1,z⟩:=z;replace z:=aE z;obtain⟨z,y0⟩:=z;subst y0;obtain⟨d,h1,S1,e1,q1,o1⟩:=ie z1 f;cases x<;>simp[intOf]at z
 subst z;have q:=q1.t;simp only[aN,Rep]at q;subst q;exact⟨h1,S1,by simp only[Ev.dU,e1,Ev.aj];rfl,o1⟩
theorem Gq:pO P P' .no:=λz f=>by
 simp only[gX]at z;cases z;exact⟨_,_,by simp only[Ev.gX],.refl f⟩
theorem CG(ie:fq P P' e):pO P P' (.yes e):=λz f=>by
 simp only[gX]at z;obtain⟨h1,S1,e1,o1⟩:=ie z f;exact⟨h1,S1,by simp only[Ev.gX,e1],o1⟩
theorem Lq(ia:fq P P' a)(ib:fq P P' b):fq P P' (.an a b):=λz f=>by
 simp only[av]at z;replace z:=ah z;obtain⟨k,af,z1,z⟩:=z;obtain⟨h1,S1,e1,o1⟩:=ia z1 f;cases k with
 |true=>
  simp only[if_true]at z;obtain⟨h2,S2,e2,o2⟩:=ib z o1.f;exact⟨h2,S2,by simp only[Ev.av,e1,Ev.aj,if_true,e2],o1.trans o2⟩
 |false=>
  simp only[Bool.false_eq_true,if_false]at z;cases z;exact⟨h1,S1,by simp only[Ev.av,e1,Ev.aj];rfl,o1.weak (by simp only[bG];intro i hi;simp[hi])⟩
theorem IG(ia:fq P P' a)(ib:fq P P' b):fq P P' (.orr a b):=λz f=>by
 simp only[av]at z;replace z:=ah z;obtain⟨k,af,z1,z⟩:=z;obtain⟨h1,S1,e1,o1⟩:=ia z1 f;cases k with
 |false=>
  simp only[Bool.false_eq_true,if_false]at z;obtain⟨h2,S2,e2,o2⟩:=ib z o1.f;exact⟨h2,S2,by simp only[Ev.av,e1,Ev.aj];rw[if_neg (by decide)];exact e2,o1.trans o2⟩
 |true=>
  simp only[if_true]at z;cases z;exact⟨h1,S1,by simp only[Ev.av,e1,Ev.aj];rfl,o1.weak (by simp only[bG];intro i hi;simp[hi])⟩
theorem Lr(ia:fq P P' a):fq P P' (.nt a):=λz f=>by
 simp only[av]at z;replace z:=ah z;obtain⟨k,af,z1,z⟩:=z;obtain⟨h1,S1,e1,o1⟩:=ia z1 f;cases z;exact⟨h1,S1,by simp only[Ev.av,e1,Ev.aj],o1⟩
theorem cS(ie:aR P P' e)(h1:∀fr,av P e fr=(ev P true e fr).bind λx af=>.ok (truthy x) af)(h2:∀fr h,Ev.av P' e fr h=(Ev.ev P' e fr h).bind λx h1=>Ev.R.of (Ev.truthy h1 x) h1):fq P P' e:=λz f=>by
 rw[h1]at z;replace z:=ah z;obtain⟨x,af,z1,z⟩:=z;cases z;obtain⟨d,h1,S1,e1,q1,o1⟩:=ie z1 f;exact⟨h1,S1,by rw[h2,e1,Ev.aj,wG q1.t];rfl,o1⟩
theorem wV(ie:aR P P' e){k:Bool}{fr:Fr}{v:V}{af:Fr}{M B:Nat->Prop}{h:Hh}{S:Nat->Prop}{ai:Ev.Fr}(z:src k fr e (ev P k e fr)=.ok v af)(f:aG M B h S fr ai) :
  ∃d h' S',Ev.ev P' e ai h=.ok d h'/\aN h' S' v d/\(k=false->∀n,d=.ref n->¬ M n)/\Out M B (bG e) h S fr ai h' S' af:=by
 have gen:ev P k e fr=.ok v af->∃d h' S',Ev.ev P' e ai h=.ok d h'/\aN h' S' v d/\(k=false->∀n,d=.ref n->¬ M n)/\Out M B (bG e) h S fr ai h' S' af:=λz=>by
  obtain⟨d,h1,S1,e1,q1,o1⟩:=ie z f;refine⟨d,h1,S1,e1,q1.t,λhk n hd=>?_,o1⟩;subst hk;have q:=q1.n;cases v<;>simp only[Rep]at q
  .cases q.symm.trans hd
  .cases q.symm.trans hd
  .cases q.symm.trans hd
  .cases q.symm.trans hd
  .obtain⟨_,q,_⟩:=q;cases q.symm.trans hd
  .obtain⟨m,ds,q,sm,_⟩:=q;cases q.symm.trans hd;exact(o1.f.wS _ sm).2.1
  .obtain⟨m,ds,q,sm,_⟩:=q;cases q.symm.trans hd;exact(o1.f.wS _ sm).2.1
 cases e
 case v i=>
  simp only[src]at z;replace z:=aE z;obtain⟨z,y0⟩:=z;subst y0;unfold uG at z;split at z
  .rename_i l y;cases z;obtain⟨p,e1,m,ds,rfl,y1,y2,y3⟩:=f.get y;exact⟨.ref m,h,S,by simp only[Ev.ev,e1,Option.join,Option.bind,id,Ev.cy],⟨m,ds,rfl,y2,y3⟩,λ_ n hn=>by cases hn;exact y1,.refl f⟩
  .exact gen (by simp only[ev,z,cy])
 all_goals exact gen z
theorem Gr(ie:aR P P' e):ju P P' (.seq e):=λz f=>by
 simp only[b9]at z;replace z:=ah z;obtain⟨x,af,z1,z⟩:=z;replace z:=aE z;obtain⟨z,y0⟩:=z;subst y0;obtain⟨d,h1,S1,e1,q1,q2,o1⟩:=wV ie z1 f;obtain⟨s,a1,a2,a3⟩:=yQ z q1;exact⟨s,h1,S1,by simp only[Ev.b9,e1,Ev.aj,a1,Ev.cy],a2,λq hq=>⟨(a3 q hq).2,λhk=>q2 hk _ (a3 q hq).1⟩,o1⟩
theorem CH(is:g5 P P' es):ju P P' (.gj es):=λz f=>by
 simp only[b9]at z;replace z:=ah z;obtain⟨x,af,z1,z⟩:=z;replace z:=aE z;obtain⟨z,y0⟩:=z;subst y0;obtain⟨d,h1,S1,e1,q1,o1⟩:=is z1 f;obtain⟨s,a1,a2⟩:=FY z q1.t;exact⟨(s,[]),h1,S1,by simp only[Ev.b9,e1,Ev.aj,a1,Ev.cy],a2,λq hq=>by simp at hq,o1⟩
theorem yU(ie:aR P P' e):ju P P' (.enum e):=λz f=>by
 simp only[b9]at z;replace z:=ah z;obtain⟨x,af,z1,z⟩:=z;replace z:=aE z;obtain⟨z,y0⟩:=z;subst y0;obtain⟨d,h1,S1,e1,q1,q2,o1⟩:=wV ie z1 f;simp only[Option.map_eq_some_iff]at z;obtain⟨l,z,rfl⟩:=z;obtain⟨s,a1,a2,a3⟩:=Cy z q1;exact⟨(Ev.fj 0 s.1,s.2),h1,S1,by simp only[Ev.b9,e1,Ev.aj,a1,Option.map,Ev.cy],tu 0 a2,λq hq=>⟨(a3 q hq).2,λhk=>q2 hk _ (a3 q hq).1⟩,o1⟩
theorem CJ(ie:aR P P' e):ju P P' (.rev e):=λz f=>by
 simp only[b9]at z;replace z:=ah z;obtain⟨x,af,z1,z⟩:=z;replace z:=aE z;obtain⟨z,y0⟩:=z;subst y0;obtain⟨d,h1,S1,e1,q1,o1⟩:=ie z1 f;simp only[Option.map_eq_some_iff]at z;obtain⟨l,z,rfl⟩:=z;cases x<;>simp only[FH,reduceCtorEq]at z
 cases z;have k1:=q1.t;simp only[aN,Rep]at k1;obtain⟨ds,y1,k2⟩:=k1;subst y1;exact⟨(ds.reverse,[]),h1,S1,by simp only[Ev.b9,e1,Ev.aj,Ev.Ec,Option.map,Ev.cy],k2.reverse,λq hq=>by simp at hq,o1⟩
end
section
variable{P:ay}{P':Ev.ay}(HP:kM P P')
include HP
mutual
theorem aJ:∀e:E,aR P P' e
 |.c _=>Gi
 |.v _=>Gj
 |.tup es=>wI (ek es)
 |.lst es=>wJ (ek es)
 |.bin _ a b=>wK (aJ a) (aJ b)
 |.cmp _ a b=>wL (aJ a) (aJ b)
 |.nt a=>ID (aJ a)
 |.neg a=>wN (aJ a)
 |.an a b=>IE (aJ a) (aJ b)
 |.orr a b=>Gk (aJ a) (aJ b)
 |.fG t a b=>wO (dQ t) (aJ a) (aJ b)
 |.ix a b=>A2 (aJ a) (aJ b)
 |.sl a lo hi=>A3 (aJ a) (mW lo) (mW hi)
 |.cl _ es=>A4 HP (kh es)
 |.bi _ es=>A5 (ek es)
 |.me _ o es=>A6 (aJ o) (ek es)
 |.eX a _=>wQ (aJ a)
 |.comp elt _ it cond=>qS (iE it) (wW cond) (aJ elt)
 |.gW it=>wU (iE it)
 |.gQ _ a=>tH (aJ a)
 |.gG a=>wR (aJ a)
theorem dQ:∀e:E,fq P P' e
 |.an a b=>Lq (dQ a) (dQ b)
 |.orr a b=>IG (dQ a) (dQ b)
 |.nt a=>Lr (dQ a)
 |.c x=>cS Gi (λ_=>by simp only[av]) (λ_ _=>by simp only[Ev.av])
 |.v x=>cS Gj (λ_=>by simp only[av]) (λ_ _=>by simp only[Ev.av])
 |.tup es=>cS (wI (ek es)) (λ_=>by simp only[av]) (λ_ _=>by simp only[Ev.av])
 |.lst es=>cS (wJ (ek es)) (λ_=>by simp only[av]) (λ_ _=>by simp only[Ev.av])
 |.bin _ a b=>cS (wK (aJ a) (aJ b)) (λ_=>by simp only[av]) (λ_ _=>by simp only[Ev.av])
 |.cmp _ a b=>cS (wL (aJ a) (aJ b)) (λ_=>by simp only[av]) (λ_ _=>by simp only[Ev.av])
 |.neg a=>cS (wN (aJ a)) (λ_=>by simp only[av]) (λ_ _=>by simp only[Ev.av])
 |.fG t a b=>cS (wO (dQ t) (aJ a) (aJ b)) (λ_=>by simp only[av]) (λ_ _=>by simp only[Ev.av])
 |.ix a b=>cS (A2 (aJ a) (aJ b)) (λ_=>by simp only[av]) (λ_ _=>by simp only[Ev.av])
 |.sl a lo hi=>cS (A3 (aJ a) (mW lo) (mW hi)) (λ_=>by simp only[av]) (λ_ _=>by simp only[Ev.av])
 |.cl _ es=>cS (A4 HP (kh es)) (λ_=>by simp only[av]) (λ_ _=>by simp only[Ev.av])
 |.bi _ es=>cS (A5 (ek es)) (λ_=>by simp only[av]) (λ_ _=>by simp only[Ev.av])
 |.me _ o es=>cS (A6 (aJ o) (ek es)) (λ_=>by simp only[av]) (λ_ _=>by simp only[Ev.av])
 |.eX a _=>cS (wQ (aJ a)) (λ_=>by simp only[av]) (λ_ _=>by simp only[Ev.av])
 |.comp elt _ it cond=>cS (qS (iE it) (wW cond) (aJ elt)) (λ_=>by simp only[av]) (λ_ _=>by simp only[Ev.av])
 |.gW it=>cS (wU (iE it)) (λ_=>by simp only[av]) (λ_ _=>by simp only[Ev.av])
 |.gQ _ a=>cS (tH (aJ a)) (λ_=>by simp only[av]) (λ_ _=>by simp only[Ev.av])
 |.gG a=>cS (wR (aJ a)) (λ_=>by simp only[av]) (λ_ _=>by simp only[Ev.av])
theorem ek:∀e:Es,g5 P P' e
 |.nil=>Gn
 |.cons e es=>CD (aJ e) (ek es)
theorem kh:∀e:Es,mU P P' e
 |.nil=>CF
 |.cons e es=>yT (aJ e) (kh es)
theorem mW:∀e:Eo,mV P P' e
 |.no=>IF
 |.yes e=>Gp (aJ e)
theorem wW:∀e:Eo,pO P P' e
 |.no=>Gq
 |.yes e=>CG (dQ e)
theorem iE:∀e:It,ju P P' e
 |.seq e=>Gr (aJ e)
 |.gj es=>CH (ek es)
 |.enum a=>yU (aJ a)
 |.rev a=>CJ (aJ a)
end
end
end Pv
namespace Pv
open Ev (D O Hh aU aP TY BI ME T E Es Eo It S Ss Fn big deep b2i rep bL cT bh aD cut bO cP slots aH)
structure Tr(M B:Nat->Prop)(h:Hh)(S:Nat->Prop)(M':Nat->Prop)(h':Hh)(S':Nat->Prop):Prop where
 len:h.length<=h'.length
 keep:∀m,m<h.length->¬ M m->h'[m]?=h[m]?
 sub:∀m,S m->S' m
 new:∀m,S' m->S m\/(h.length<=m/\m<h'.length)\/(M m/\¬ B m)
 nV:∀m,M' m->M m\/h.length<=m
structure bX(M B:Nat->Prop)(h:Hh)(S:Nat->Prop)(fr:Fr)(ai:Ev.Fr)(M':Nat->Prop)(h':Hh)(S':Nat->Prop)(af:Fr)(aI:Ev.Fr):Prop where
 f:aG M' B h' S' af aI
 tr:Tr M B h S M' h' S'
 lk:∀i,locked af i=locked fr i
 rf:∀i,locked fr i=true->aI[i]?=ai[i]?
noncomputable def dJ(h:Hh)(S:Nat->Prop):Fl->Ev.Fl->Prop
 |.nx,g=>g=.nx
 |.bk,g=>g=.bk
 |.ct,g=>g=.ct
 |.ret v,g=>∃d,g=.ret d/\Rep h S v d
section
variable{M B M' M1 M2:Nat->Prop}{h h' h1 h2:Hh}{S S' S1 S2:Nat->Prop}{fr af ak:Fr}{ai aI gT:Ev.Fr}{c c1 c2:List Nat}{v:V}{d:D}
theorem bX.refl(f:aG M B h S fr ai):bX M B h S fr ai M h S fr ai:=⟨f,⟨Nat.le_refl _,λ_ _ _=>rfl,λ_ q=>q,λ_ q=>.inl q,λ_ q=>.inl q⟩,λ_=>rfl,λ_ _=>rfl⟩
theorem Out.s(o:Out M B c h S fr ai h1 S1 af):bX M B h S fr ai M h1 S1 af ai:=⟨o.f,⟨o.tr.len,λm y1 y2=>o.tr.keep m y1 (λz=>y2 z.1),o.tr.sub,λm q=>(o.tr.new m q).imp id .inl,λ_ q=>.inl q⟩,o.lk,λ_ _=>rfl⟩
theorem bX.trans(f0:aG M B h S fr ai)(a:bX M B h S fr ai M1 h1 S1 af aI)(b:bX M1 B h1 S1 af aI M2 h2 S2 ak gT):bX M B h S fr ai M2 h2 S2 ak gT where
 f:=b.f
 tr:=⟨Nat.le_trans a.tr.len b.tr.len,λm y1 y2=>by
   rw[b.tr.keep m (Nat.lt_of_lt_of_le y1 a.tr.len) (λz=>by
    rcases a.tr.nV m z with z|z
    .exact y2 z
    .omega),a.tr.keep m y1 y2],λm q=>b.tr.sub m (a.tr.sub m q),λm q=>by
   rcases b.tr.new m q with q|q|q
   .rcases a.tr.new m q with q|q|q
    .exact .inl q
    .exact .inr (.inl ⟨q.1,Nat.lt_of_lt_of_le q.2 b.tr.len⟩)
    .exact .inr (.inr q)
   .exact .inr (.inl ⟨Nat.le_trans a.tr.len q.1,q.2⟩)
   .rcases a.tr.nV m q.1 with z|z
    .exact .inr (.inr ⟨z,q.2⟩)
    .exact .inr (.inl ⟨z,Nat.lt_of_lt_of_le (a.f.wM m q.1) b.tr.len⟩),λm q=>by
   rcases b.tr.nV m q with q|q
   .exact a.tr.nV m q
   .exact .inr (Nat.le_trans a.tr.len q)⟩
 lk:=λi=>(b.lk i).trans (a.lk i)
 rf:=λi q=>(b.rf i (by rw[a.lk i];exact q)).trans (a.rf i q)
theorem aG.kind(f:aG M B h S fr ai)(g:Option Sl->Option Sl->Prop)(hl:af.length=fr.length)(hg:∀(i:Nat) o,af[i]?=some o->∃o0,fr[i]?=some o0/\(o=o0\/(∃l,o0=some (.own l)/\o=some (.val (.lst l)))\/(∃l,o0=some (.bor l)/\o=some (.ro l)))) :
  ∃M' S',bX M B h S fr ai M' h S' af ai:=by
 let X:Nat->Prop:=λm=>∃(i:Nat) (l:List V),fr[i]?=some (some (Sl.own l))/\af[i]?=some (some (Sl.val (V.lst l)))/\ai[i]?=some (some (D.ref m))
 let Y:Nat->Prop:=λm=>∃(i:Nat) (l:List V),fr[i]?=some (some (Sl.bor l))/\af[i]?=some (some (Sl.ro l))/\ai[i]?=some (some (D.ref m))
 have xM:∀m,X m->M m/\¬ B m:=λm ⟨i,l,a,_,b⟩=>by
  obtain⟨m',ds,e,q,_⟩:=f.sl i _ _ a b;cases e;exact q
 have yM:∀m,Y m->M m/\B m:=λm ⟨i,l,a,_,b⟩=>by
  obtain⟨m',ds,e,q,_⟩:=f.sl i _ _ a b;cases e;exact q
 have mono:∀{l:List V} {ds:List D},aq h S l ds->aq h (λm=>S m\/X m) l ds:=λq=>q.mono (λ_ _=>rfl) λ_ z=>.inl z;refine⟨λm=>M m/\¬ X m/\¬ Y m,λm=>S m\/X m,⟨⟨λm q=>?_,λm q=>f.wM m q.1,f.wB,by rw[hl,f.len],λi o p e1 e2=>?_,λi j o o' m y1 y2 y3 y4 y5 y6=>?_⟩,⟨Nat.le_refl _,λ_ _ _=>rfl,λ_ q=>.inl q,λm q=>?_,λm q=>.inl q.1⟩,λi=>?_,λ_ _=>rfl⟩⟩
 .rcases q with q|q
  .exact⟨(f.wS m q).1,λz=>(f.wS m q).2.1 z.1,(f.wS m q).2.2⟩
  .exact⟨f.wM m (xM m q).1,λz=>z.2.1 q,(xM m q).2⟩
 .obtain⟨o0,e0,k⟩:=hg i o e1;have old:=f.sl i o0 p e0 e2;rcases k with rfl|⟨l,rfl,rfl⟩|⟨l,rfl,rfl⟩
  .rcases o with _|s
   .exact old
   .cases s with
    |val v=>obtain⟨d,e,q⟩:=old;exact⟨d,e,q.mono (λ_ _=>rfl) λ_ z=>.inl z⟩
    |own l=>
     obtain⟨m,ds,rfl,z,y,q⟩:=old;refine⟨m,ds,rfl,⟨⟨z.1,λ⟨j,l',a1,a2,a3⟩=>?_,λ⟨j,l',a1,a2,a3⟩=>?_⟩,z.2⟩,y,mono q⟩
     .have:=f.inj i j _ _ m e0 a1 rfl rfl e2 a3;subst this;rw[e1]at a2;cases a2
     .have:=f.inj i j _ _ m e0 a1 rfl rfl e2 a3;subst this;rw[e1]at a2;cases a2
    |bor l=>
     obtain⟨m,ds,rfl,z,y,q⟩:=old;refine⟨m,ds,rfl,⟨⟨z.1,λ⟨j,l',a1,a2,a3⟩=>?_,λ⟨j,l',a1,a2,a3⟩=>?_⟩,z.2⟩,y,mono q⟩
     .have:=f.inj i j _ _ m e0 a1 rfl rfl e2 a3;subst this;rw[e1]at a2;cases a2
     .have:=f.inj i j _ _ m e0 a1 rfl rfl e2 a3;subst this;rw[e1]at a2;cases a2
    |ro l=>obtain⟨m,ds,rfl,z,y,q⟩:=old;exact⟨m,ds,rfl,λw=>z w.1,y,mono q⟩
  .obtain⟨m,ds,rfl,z,y,q⟩:=old;exact⟨.ref m,rfl,m,ds,rfl,.inr ⟨i,l,e0,e1,e2⟩,y,mono q⟩
  .obtain⟨m,ds,rfl,z,y,q⟩:=old;exact⟨m,ds,rfl,λw=>w.2.2 ⟨i,l,e0,e1,e2⟩,y,mono q⟩
 .have kd:∀(i:Nat) o,af[i]?=some o->fK o=true->∃o0,fr[i]?=some o0/\fK o0=true:=λi o w1 w2=>by
   obtain⟨o0,e0,k⟩:=hg i o w1;rcases k with rfl|⟨l,rfl,rfl⟩|⟨l,rfl,rfl⟩
   .exact⟨o,e0,w2⟩
   .cases w2
   .cases w2
  obtain⟨oi,k1,k2⟩:=kd i o y1 y3;obtain⟨oj,k3,k4⟩:=kd j o' y2 y4;exact f.inj i j oi oj m k1 k3 k2 k4 y5 y6
 .rcases q with q|q
  .exact .inl q
  .exact .inr (.inr (xM m q))
 .unfold locked;cases z:af[i]? with
  |none=>
   have:fr[i]?=none:=by rw[List.getElem?_eq_none_iff]at z ⊢;omega
   rw[this]
  |some o=>
   obtain⟨o0,e0,k⟩:=hg i o z;rw[e0];rcases k with rfl|⟨l,rfl,rfl⟩|⟨l,rfl,rfl⟩<;>rfl
theorem aG.fX(f:aG M B h S fr ai):∃M' S',bX M B h S fr ai M' h S' (eG fr) ai:=by
 refine f.kind (λ_ _=>True) (by simp[eG]) λi o e=>?_;unfold eG at e;rw[List.getElem?_map]at e;cases z:fr[i]? with
 |none=>rw[z]at e;cases e
 |some o0=>
  rw[z]at e;cases e;refine⟨o0,rfl,?_⟩;rcases o0 with _|s
  .exact .inl rfl
  .cases s with
   |own l=>exact .inr (.inl ⟨l,rfl,rfl⟩)
   |_=>exact .inl rfl
theorem aG.walk:∀(is:List Nat) {M:Nat->Prop}{S:Nat->Prop}{fr:Fr},aG M B h S fr ai->∃M' S',bX M B h S fr ai M' h S' (kL is fr) ai
 |[],_,_,_,f=>⟨_,_,.refl f⟩
 |i :: is,M,S,fr,f=>by
  have one:∃M1 S1,bX M B h S fr ai M1 h S1 (match fr[i]? with|some (some s)=>fr.set i (some s.walk)|_=>fr) ai:=by
   split
   .rename_i s z;have hl:=(List.getElem?_eq_some_iff.mp z).1;refine f.kind (λ_ _=>True) (by simp) λj o e=>?_;by_cases hj:i=j
    .subst hj;rw[List.getElem?_set_self hl]at e;cases e;refine⟨_,z,?_⟩;cases s with
     |own l=>exact .inr (.inl ⟨l,rfl,rfl⟩)
     |bor l=>exact .inr (.inr ⟨l,rfl,rfl⟩)
     |_=>exact .inl rfl
    .rw[List.getElem?_set_ne hj]at e;exact⟨o,e,.inl rfl⟩
   .exact⟨M,S,.refl f⟩
  obtain⟨M1,S1,o1⟩:=one;obtain⟨M2,S2,o2⟩:=aG.walk is o1.f;exact⟨M2,S2,o1.trans f o2⟩
theorem aG.own(f:aG M B h S fr ai){i:Nat}{l:List V}{ds:List D}(e:put fr i (.own l)=some af)(q:aq h S l ds):bX M B h S fr ai (λm=>M m\/m=h.length) (h++[.lst ds]) S af (ai.set i (some (.ref h.length))):=by
 have hx:af=fr.set i (some (.own l))/\locked fr i=false:=by
  unfold put at e;unfold locked;split at e
  .cases e
  .cases e
  .rename_i k1 k2;cases e;refine⟨rfl,?_⟩;cases z:fr[i]? with
   |none=>rfl
   |some o=>
    rcases o with _|s
    .rfl
    .cases s with
     |bor l=>exact absurd z (k1 l)
     |ro l=>exact absurd z (k2 l)
     |_=>rfl
 obtain⟨rfl,hk⟩:=hx;have kp:∀m,m<h.length->(h++[O.lst ds])[m]?=h[m]?:=λm z=>by rw[List.getElem?_append_left z]
 have kS:∀m,S m->(h++[O.lst ds])[m]?=h[m]?:=λm z=>kp m (f.w m z);refine⟨⟨λm y=>⟨by have:=(f.wS m y).1;simp;omega,λz=>?_,(f.wS m y).2.2⟩,λm y=>?_,λm y=>by have:=f.wB m y;simp;omega,by simp[f.len],λj o p y1 y2=>?_,λj k o o' m y1 y2 y3 y4 y5 y6=>?_⟩,⟨by simp,λm y _=>kp m y,λ_ z=>z,λ_ z=>.inl z,λm z=>z.imp id (λz=>by omega)⟩,λj=>?_,λj hj=>?_⟩
 .rcases z with z|z
  .exact(f.wS m y).2.1 z
  .have:=(f.wS m y).1;omega
 .rcases y with y|y
  .have:=f.wM m y;simp;omega
  .subst y;simp
 .by_cases hj:i=j
  .subst hj;have hl:i<fr.length:=by have:=(List.getElem?_eq_some_iff.mp y1).1;simpa using this
   rw[List.getElem?_set_self hl]at y1;rw[List.getElem?_set_self (by rw[<-f.len];exact hl)]at y2;cases y1;cases y2;exact⟨h.length,ds,rfl,⟨.inr rfl,λz=>by have:=f.wB _ z;omega⟩,by simp,q.mono kS λ_ z=>z⟩
  .rw[List.getElem?_set_ne hj]at y1 y2;have old:=f.sl j o p y1 y2;rcases o with _|s
   .exact old
   .cases s with
    |val v=>obtain⟨d,e,q⟩:=old;exact⟨d,e,q.mono kS λ_ z=>z⟩
    |own l=>obtain⟨m,es,rfl,z,y,q⟩:=old;exact⟨m,es,rfl,⟨.inl z.1,z.2⟩,by rw[kp m (f.wM m z.1)];exact y,q.mono kS λ_ z=>z⟩
    |bor l=>obtain⟨m,es,rfl,z,y,q⟩:=old;exact⟨m,es,rfl,⟨.inl z.1,z.2⟩,by rw[kp m (f.wM m z.1)];exact y,q.mono kS λ_ z=>z⟩
    |ro l=>
     obtain⟨m,es,rfl,z,y,q⟩:=old;have hm:=(List.getElem?_eq_some_iff.mp y).1;exact⟨m,es,rfl,λw=>by rcases w with w|w;exact z w;omega,by rw[kp m hm];exact y,q.mono kS λ_ z=>z⟩
 .have low:∀(j:Nat) o,i≠j->fr[j]?=some o->fK o=true->ai[j]?=some (some (.ref m))->m<h.length:=λj o _ w1 w2 w3=>f.wM m (f.mM w1 w2 w3);have new:∀(j:Nat),j<fr.length->i=j->(ai.set i (some (.ref h.length)))[j]?=some (some (.ref m))->m=h.length:=λj hl hj w=>by
   subst hj;rw[List.getElem?_set_self (by rw[<-f.len];exact hl)]at w;cases w;rfl
  have lj:j<fr.length:=by have:=(List.getElem?_eq_some_iff.mp y1).1;simpa using this
  have lk:k<fr.length:=by have:=(List.getElem?_eq_some_iff.mp y2).1;simpa using this
  by_cases hj:i=j
  .by_cases hk2:i=k
   .rw[<-hj,<-hk2]
   .have a:=new j lj hj y5;rw[List.getElem?_set_ne hk2]at y2 y6;have b:=low k o' hk2 y2 y4 y6;omega
  .by_cases hk2:i=k
   .have a:=new k lk hk2 y6;rw[List.getElem?_set_ne hj]at y1 y5;have b:=low j o hj y1 y3 y5;omega
   .rw[List.getElem?_set_ne hj]at y1 y5;rw[List.getElem?_set_ne hk2]at y2 y6;exact f.inj j k o o' m y1 y2 y3 y4 y5 y6
 .by_cases hj:i=j
  .subst hj;rw[hk];unfold locked;by_cases hl:i<fr.length
   .rw[List.getElem?_set_self hl];rfl
   .rw[List.getElem?_eq_none (by simpa using hl)]
  .unfold locked;rw[List.getElem?_set_ne hj]
 .have:i≠j:=λz=>by subst z;rw[hk]at hj;cases hj
  rw[List.getElem?_set_ne this]
end
inductive Kf(P':Ev.ay)(w:Nat)(s:S)(g:Fl)(M B:Nat->Prop)(h:Hh)(S:Nat->Prop)(fr:Fr)(ai:Ev.Fr)(af:Fr):Prop
 |mk (g':Ev.Fl) (aI:Ev.Fr) (M':Nat->Prop) (h':Hh) (S':Nat->Prop) (c0:Ev.ex P' w s ai h=.ok (g',aI) h') (c1:dJ h' S' g g') (c2:bX M B h S fr ai M' h' S' af aI):Kf P' w s g M B h S fr ai af
inductive Gs(P':Ev.ay)(w:Nat)(s:Ss)(g:Fl)(M B:Nat->Prop)(h:Hh)(S:Nat->Prop)(fr:Fr)(ai:Ev.Fr)(af:Fr):Prop
 |mk (g':Ev.Fl) (aI:Ev.Fr) (M':Nat->Prop) (h':Hh) (S':Nat->Prop) (c0:Ev.exs P' w s ai h=.ok (g',aI) h') (c1:dJ h' S' g g') (c2:bX M B h S fr ai M' h' S' af aI):Gs P' w s g M B h S fr ai af
section
variable(P:ay)(P':Ev.ay)(w:Nat)
noncomputable def ki(s:S):Prop:=∀{fr:Fr} {g:Fl} {af:Fr} {M B:Nat->Prop} {h:Hh} {S:Nat->Prop} {ai:Ev.Fr},ex P w s fr=.ok g af->aG M B h S fr ai->Kf P' w s g M B h S fr ai af
noncomputable def mX(s:Ss):Prop:=∀{fr:Fr} {g:Fl} {af:Fr} {M B:Nat->Prop} {h:Hh} {S:Nat->Prop} {ai:Ev.Fr},exs P w s fr=.ok g af->aG M B h S fr ai->Gs P' w s g M B h S fr ai af
end
section
variable{P:ay}{P':Ev.ay}{w:Nat}(HP:kM P P')
include HP
theorem CK{i:Nat}{e:E}:ki P P' w (.set i e):=λ{fr g af M B h S ai} z f=>by
 simp only[ex]at z;replace z:=ah z;obtain⟨x,ak,z1,z⟩:=z;by_cases hn:isNew e=true
 .rw[if_pos hn]at z;have key:∃l ds h1 S1,x=.lst l/\aq h1 S1 l ds/\Ev.ev P' e ai h=.ok (.ref h1.length) (h1++[.lst ds])/\Out M B (bG e) h S fr ai h1 S1 ak:=by
   cases e<;>simp only[isNew,Bool.false_eq_true]at hn
   case lst es=>
    simp only[ev]at z1;replace z1:=ah z1;obtain⟨l,bw,z2,z1⟩:=z1;replace z1:=aE z1;obtain⟨z1,y0⟩:=z1;subst y0;unfold dX at z1;split at z1
    case isFalse=>cases z1
    rename_i hk;cases z1;obtain⟨ds,h1,S1,e1,q1,o1⟩:=ek HP es z2 f;refine⟨l,ds,h1,S1,rfl,q1.n,?_,o1⟩;simp only[Ev.ev,e1,Ev.aj,Ev.alloc];rw[if_pos (by rw[<-q1.n.length];exact hk)]
   case gW it=>
    simp only[ev]at z1;replace z1:=ah z1;obtain⟨l,bw,z2,z1⟩:=z1;replace z1:=aE z1;obtain⟨z1,y0⟩:=z1;subst y0;unfold dX at z1;split at z1
    case isFalse=>cases z1
    rename_i hk;cases z1;obtain⟨s,h1,S1,e1,q1,q2,o1⟩:=iE HP it z2 f;refine⟨l,s.1,h1,S1,rfl,q1,?_,o1⟩;simp only[Ev.ev,e1,Ev.aj,Ev.alloc];rw[if_pos (by rw[<-q1.length];exact hk)]
  obtain⟨l,ds,h1,S1,rfl,q1,e1,o1⟩:=key;simp only at z;replace z:=ah z;obtain⟨bw,gY,z2,z⟩:=z;replace z2:=aE z2;obtain⟨z2,y0⟩:=z2;subst y0;cases z;have o2:=o1.f.own z2 q1;exact⟨.nx,_,_,_,_,by simp only[Ev.ex,e1,Ev.aj],rfl,o1.s.trans f o2⟩
 .rw[if_neg hn]at z;replace z:=ah z;obtain⟨bw,gY,z2,z⟩:=z;replace z2:=aE z2;obtain⟨z2,y0⟩:=z2;subst y0;cases z;obtain⟨d,h1,S1,e1,q1,o1⟩:=aJ HP e z1 f;obtain⟨f2,l2,r2⟩:=o1.f.set z2 q1.n;refine⟨.nx,_,_,_,_,by simp only[Ev.ex,e1,Ev.aj],rfl,o1.s.trans f ⟨f2,(bX.refl f2).tr,l2,r2⟩⟩
theorem CL{l:List Nat}{e:E}:ki P P' w (.jT l e):=λ{fr g af M B h S ai} z f=>by
 simp only[ex]at z;replace z:=ah z;obtain⟨x,ak,z1,z⟩:=z;replace z:=ah z;obtain⟨bw,gY,z2,z⟩:=z;replace z2:=aE z2;obtain⟨z2,y0⟩:=z2;subst y0;cases z;obtain⟨d,h1,S1,e1,q1,o1⟩:=aJ HP e z1 f;obtain⟨fE,b1,f2,l2,r2⟩:=o1.f.aZ z2 q1.n;exact⟨.nx,_,_,_,_,by simp only[Ev.ex,e1,Ev.aj,b1],rfl,o1.s.trans f ⟨f2,(bX.refl f2).tr,l2,r2⟩⟩
theorem Gu{e:E}:ki P P' w (.exp e):=λ{fr g af M B h S ai} z f=>by
 simp only[ex]at z;replace z:=ah z;obtain⟨x,ak,z1,z⟩:=z;cases z;obtain⟨d,h1,S1,e1,q1,o1⟩:=aJ HP e z1 f;exact⟨.nx,_,_,_,_,by simp only[Ev.ex,e1,Ev.aj],rfl,o1.s⟩
theorem Gv{e:E}:ki P P' w (.ret e):=λ{fr g af M B h S ai} z f=>by
 simp only[ex]at z;replace z:=ah z;obtain⟨x,ak,z1,z⟩:=z;cases z;obtain⟨M1,S1,o1⟩:=f.fX;obtain⟨d,h2,S2,e1,q1,o2⟩:=aJ HP e z1 o1.f;exact⟨.ret d,_,_,_,_,by simp only[Ev.ex,e1,Ev.aj],⟨d,rfl,q1.n⟩,o1.trans f o2.s⟩
omit HP in
theorem nW{F:V->Fr->R Fl}{F':D->Ev.Fr->Hh->Ev.R (Ev.Fl×Ev.Fr)}{ck:List (Nat×List D)}{B:Nat->Prop}{M0:Nat->Prop}{h0:Hh}{S0:Nat->Prop}{cK:Fr}{yV:Ev.Fr}(f0:aG M0 B h0 S0 cK yV)(st:∀q∈ck,aH h0 q.1=some q.2/\¬ M0 q.1)
  (turn:∀v d fr g af M h S ai,F v fr=.ok g af->aG M B h S fr ai->Rep h S v d->∃g' aI M' h' S',F' d ai h=.ok (g',aI) h'/\dJ h' S' g g'/\bX M B h S fr ai M' h' S' af aI) :
  ∀{vs:List V} {ds:List D} {fr:Fr} {g:Fl} {af:Fr} {M:Nat->Prop} {h:Hh} {S:Nat->Prop} {ai:Ev.Fr},forL F vs fr=.ok g af->bX M0 B h0 S0 cK yV M h S fr ai->aq h S vs ds->
  ∃g' aI M' h' S',Ev.forL F' ck ds ai h=.ok (g',aI) h'/\dJ h' S' g g'/\bX M0 B h0 S0 cK yV M' h' S' af aI
 |[],ds,fr,g,af,M,h,S,ai,e,o,q=>by
  simp only[forL]at e;simp only[aq]at q;subst q;cases e;refine⟨.nx,ai,M,h,S,?_,rfl,o⟩;simp only[Ev.forL];rw[if_pos (gu λx hx=>iD (st x hx).1 (o.tr.keep _ (jf (st x hx).1) (st x hx).2))]
 |v :: vs,ds,fr,g,af,M,h,S,ai,e,o,q=>by
  simp only[forL]at e;replace e:=ah e;obtain⟨p,ak,e1,e⟩:=e;simp only[aq]at q;obtain⟨d,es,rfl,q1,q2⟩:=q;obtain⟨g',gT,M2,h2,S2,t1,t2,t3⟩:=turn v d fr p ak M h S ai e1 o.f q1;have o2:=o.trans f0 t3;have A8:Ev.stays h ck=true:=gu λx hx=>iD (st x hx).1 (o.tr.keep _ (jf (st x hx).1) (st x hx).2);have Kg:aq h2 S2 vs es:=q2.mono (λm z=>t3.tr.keep m (o.f.wS m z).1 (o.f.wS m z).2.1) t3.tr.sub;cases p with
  |nx=>
   simp only[dJ]at t2;subst t2;simp only at e;obtain⟨mY,fE,M3,h3,S3,u1,u2,u3⟩:=nW f0 st turn e o2 Kg;refine⟨mY,fE,M3,h3,S3,?_,u2,u3⟩;simp only[Ev.forL];rw[if_pos A8,t1,Ev.aj];exact u1
  |ct=>
   simp only[dJ]at t2;subst t2;simp only at e;obtain⟨mY,fE,M3,h3,S3,u1,u2,u3⟩:=nW f0 st turn e o2 Kg;refine⟨mY,fE,M3,h3,S3,?_,u2,u3⟩;simp only[Ev.forL];rw[if_pos A8,t1,Ev.aj];exact u1
  |bk=>
   simp only[dJ]at t2;subst t2;simp only at e;cases e;refine⟨.nx,gT,M2,h2,S2,?_,rfl,o2⟩;simp only[Ev.forL];rw[if_pos A8,t1,Ev.aj]
  |ret x=>
   simp only[dJ]at t2;obtain⟨d2,rfl,t2⟩:=t2;simp only at e;cases e;refine⟨.ret d2,gT,M2,h2,S2,?_,⟨d2,rfl,t2⟩,o2⟩;simp only[Ev.forL];rw[if_pos A8,t1,Ev.aj]
theorem Gw{t:T}{it:It}{b:Ss}(ib:mX P P' w b):ki P P' w (.for t it b):=λ{fr g af M B h S ai} z f=>by
 simp only[ex]at z;replace z:=ah z;obtain⟨vs,ak,z1,z⟩:=z;obtain⟨M1,S1,o1⟩:=f.walk (itv it);obtain⟨s,h2,S2,e1,q1,q2,o2⟩:=iE HP it z1 o1.f;have o3:=o1.trans f o2.s;obtain⟨g',aI,M',h',S',u1,u2,u3⟩:=nW (F':=λd ak h2=>match Ev.aZ t d ak with
   |some bw=>Ev.exs P' w b bw h2
   |none=>.bad) (ck:=s.2) o2.f (λq hq=>⟨(q2 q hq).1,(q2 q hq).2 rfl⟩) (λv d fr g af M h S ai y f q=>by
  split at y
  .rename_i bw y1;obtain⟨fE,b1,b2,b3,b4⟩:=f.aZ y1 q;rw[b1];obtain⟨g',aI,M',h',S',c1,c2,c3⟩:=ib y b2;exact⟨g',aI,M',h',S',c1,c2,(⟨b2,(bX.refl b2).tr,b3,b4⟩:bX M _ h S fr ai M h S bw fE).trans f c3⟩
  .cases y) z (bX.refl o2.f) q1
 refine⟨g',aI,M',h',S',?_,u2,o3.trans f u3⟩;simp only[Ev.ex,e1,Ev.aj];exact u1
theorem qT{t:E}{b:Ss}(ib:mX P P' w b):∀(n:Nat) {fr:Fr}{g:Fl}{af:Fr}{M B:Nat->Prop}{h:Hh}{S:Nat->Prop}{ai:Ev.Fr},dB (λak=>av P t ak) (λak=>exs P w b ak) n fr=.ok g af->aG M B h S fr ai->
  ∃g' aI M' h' S',Ev.dB (λak h2=>Ev.av P' t ak h2) (λak h2=>Ev.exs P' w b ak h2) n ai h=.ok (g',aI) h'/\dJ h' S' g g'/\bX M B h S fr ai M' h' S' af aI
 |0,_,_,_,_,_,_,_,_,z,_=>by simp only[dB]at z;cases z
 |n+1,fr,g,af,M,B,h,S,ai,z,f=>by
  simp only[dB]at z;replace z:=ah z;obtain⟨k,ak,z1,z⟩:=z;obtain⟨h1,S1,e1,o1⟩:=dQ HP t z1 f;cases k with
  |false=>
   simp only[Bool.false_eq_true,if_false]at z;cases z;refine⟨.nx,ai,M,h1,S1,?_,rfl,o1.s⟩;simp only[Ev.dB,e1,Ev.aj];rw[if_neg (by decide)]
  |true=>
   simp only[if_true]at z;replace z:=ah z;obtain⟨p,bw,z2,z⟩:=z;obtain⟨g',fE,M2,h2,S2,t1,t2,t3⟩:=ib z2 o1.f;have o2:=o1.s.trans f t3;cases p with
   |nx=>
    simp only[dJ]at t2;subst t2;simp only at z;obtain⟨mY,yW,M3,h3,S3,u1,u2,u3⟩:=qT ib n z t3.f;refine⟨mY,yW,M3,h3,S3,?_,u2,o2.trans f u3⟩;simp only[Ev.dB,e1,Ev.aj,if_true,t1];exact u1
   |ct=>
    simp only[dJ]at t2;subst t2;simp only at z;obtain⟨mY,yW,M3,h3,S3,u1,u2,u3⟩:=qT ib n z t3.f;refine⟨mY,yW,M3,h3,S3,?_,u2,o2.trans f u3⟩;simp only[Ev.dB,e1,Ev.aj,if_true,t1];exact u1
   |bk=>
    simp only[dJ]at t2;subst t2;simp only at z;cases z;refine⟨.nx,fE,M2,h2,S2,?_,rfl,o2⟩;simp only[Ev.dB,e1,Ev.aj,if_true,t1]
   |ret x=>
    simp only[dJ]at t2;obtain⟨d2,rfl,t2⟩:=t2;simp only at z;cases z;refine⟨.ret d2,fE,M2,h2,S2,?_,⟨d2,rfl,t2⟩,o2⟩;simp only[Ev.dB,e1,Ev.aj,if_true,t1]
theorem Gx{t:E}{a b:Ss}(ia:mX P P' w a)(ib:mX P P' w b):ki P P' w (.iff t a b):=λ{fr g af M B h S ai} z f=>by
 simp only[ex]at z;replace z:=ah z;obtain⟨k,ak,z1,z⟩:=z;obtain⟨h1,S1,e1,o1⟩:=dQ HP t z1 f;cases k with
 |true=>
  simp only[if_true]at z;obtain⟨g',aI,M',h',S',c1,c2,c3⟩:=ia z o1.f;exact⟨g',aI,M',h',S',by simp only[Ev.ex,e1,Ev.aj,if_true,c1],c2,o1.s.trans f c3⟩
 |false=>
  simp only[Bool.false_eq_true,if_false]at z;obtain⟨g',aI,M',h',S',c1,c2,c3⟩:=ib z o1.f;exact⟨g',aI,M',h',S',by simp only[Ev.ex,e1,Ev.aj];rw[if_neg (by decide)];exact c1,c2,o1.s.trans f c3⟩
noncomputable def qU(P':Ev.ay):Prop:=∀f ds h d h',P' (f+Ev.xo) ds h=.ok d h'->P' f ds h=.bad
theorem II(HE:qU P'){g kk:Nat}{es:Es}:ki P P' w (.tr g kk es):=λ{fr _ af M B h S ai} z f=>by
 simp only[ex]at z;replace z:=ah z;obtain⟨as,ak,z1,z⟩:=z;obtain⟨ds,h1,S1,e1,q1,o1⟩:=kh HP es z1 f;split at z
 case isFalse=>cases z
 split at z
 .rename_i v bw y;cases z;obtain⟨d,h2,S2,e2,q2,o2⟩:=lU HP y o1.f q1;exact⟨.ret d,ai,M,h2,S2,by simp only[Ev.ex,e1,Ev.aj,e2,Ev.tryD],⟨d,rfl,q2⟩,(o1.trans o2).s⟩
 .replace z:=ah z;obtain⟨c,bw,z2,z⟩:=z;replace z:=aE z;obtain⟨z,rfl⟩:=z;obtain⟨d,h2,S2,e2,q2,o2⟩:=lU HP z2 o1.f q1;have e3:=HE _ _ _ _ _ e2;cases c with
  |int c=>
   simp only[Rep]at q2;subst q2;simp only[uH]at z;split at z
   case isFalse=>cases z
   rename_i hc;cases z;refine⟨.ret (.tup [.str [114,101,102,117,115,101,100],.int c]),ai,M,h2,S2,by simp only[Ev.ex,e1,Ev.aj,e2,e3,Ev.tryD,Ev.yu,if_pos hc,Ev.cy],⟨_,rfl,?_⟩,(o1.trans o2).s⟩;simp[Rep,aq]
  |_=>cases z
mutual
theorem A9(HE:qU P'):∀s:S,ki P P' w s
 |.set _ _=>CK HP
 |.jT _ _=>CL HP
 |.exp _=>Gu HP
 |.ret _=>Gv HP
 |.iff _ a b=>Gx HP (fZ HE a) (fZ HE b)
 |.for _ _ b=>Gw HP (fZ HE b)
 |.tr _ _ _=>II HP HE
 |.jU _ b=>λz f=>by
  simp only[ex]at z;obtain⟨g',aI,M',h',S',c1,c2,c3⟩:=qT HP (fZ HE b) w z f;exact⟨g',aI,M',h',S',by simp only[Ev.ex];exact c1,c2,c3⟩
 |.cX _=>λz _=>by simp only[ex]at z;cases z
theorem fZ(HE:qU P'):∀s:Ss,mX P P' w s
 |.nil=>λz f=>by simp only[exs]at z;cases z;exact⟨.nx,_,_,_,_,by simp only[Ev.exs],rfl,.refl f⟩
 |.cons s ss=>λz f=>by
  simp only[exs]at z;replace z:=ah z;obtain⟨p,ak,z1,z⟩:=z;obtain⟨g',gT,M2,h2,S2,t1,t2,t3⟩:=A9 HE s z1 f;cases p with
  |nx=>
   simp only[dJ]at t2;subst t2;simp only at z;obtain⟨mY,fE,M3,h3,S3,u1,u2,u3⟩:=fZ HE ss z t3.f;exact⟨mY,fE,M3,h3,S3,by simp only[Ev.exs,t1,Ev.aj,u1],u2,t3.trans f u3⟩
  |ct=>
   simp only[dJ]at t2;subst t2;simp only at z;cases z;exact⟨.ct,gT,M2,h2,S2,by simp only[Ev.exs,t1,Ev.aj],rfl,t3⟩
  |bk=>
   simp only[dJ]at t2;subst t2;simp only at z;cases z;exact⟨.bk,gT,M2,h2,S2,by simp only[Ev.exs,t1,Ev.aj],rfl,t3⟩
  |ret x=>
   simp only[dJ]at t2;obtain⟨d2,rfl,t2⟩:=t2;simp only at z;cases z;exact⟨.ret d2,gT,M2,h2,S2,by simp only[Ev.exs,t1,Ev.aj],⟨d2,rfl,t2⟩,t3⟩
end
end
structure eU(M:Nat->Prop)(h h':Hh):Prop where
 len:h.length<=h'.length
 keep:∀m,m<h.length->¬ M m->h'[m]?=h[m]?
inductive iF(c:Nat)(M:Nat->Prop)(h:Hh)(r:Ev.XR):Prop
 |mk (h':Hh) (e:r=some (c,h')) (k:eU M h h'):iF c M h r
noncomputable def mZ(X:bS)(X':Ev.bS):Prop:=∀f sl c,X f sl=some c->∀(h:Hh) (S B:Nat->Prop) (ds:List D),aG B B h S (sl.map some) (ds.map some)->iF c B h (X' f ds h)
theorem eU.after{M M1 B:Nat->Prop}{h h1 h2:Hh}{S S1:Nat->Prop}{fr af:Fr}{ai aI:Ev.Fr}(o:bX M B h S fr ai M1 h1 S1 af aI)(r:eU M1 h1 h2):eU M h h2:=⟨Nat.le_trans o.tr.len r.len,λm y1 y2=>by
 rw[r.keep m (Nat.lt_of_lt_of_le y1 o.tr.len) (λz=>by
  rcases o.tr.nV m z with z|z
  .exact y2 z
  .omega),o.tr.keep m y1 y2]⟩
section
variable{P:ay}{P':Ev.ay}{X:bS}{X':Ev.bS}{w:Nat}(HP:kM P P')(HE:qU P')(HX:mZ X X')(HB:∀f ds h r,X' f ds h=some r->P' f ds h=.bad)
include HP HX HB
mutual
theorem jw:∀(e:E) {fr:Fr}{c:Nat}{M B:Nat->Prop}{h:Hh}{S:Nat->Prop}{ai:Ev.Fr},xe P X e fr=some c->aG M B h S fr ai->iF c M h (Ev.xe P' X' e ai h)
 |.cl g es,fr,c,M,B,h,S,ai,z,f=>by
  simp only[xe]at z;simp only[Ev.xe];split at z
  .rename_i as af y;obtain⟨ds,h1,S1,e1,q1,o1⟩:=kh HP es y f;rw[e1];unfold uI at z;split at z
   case isFalse=>cases z
   rename_i nd;rw[Option.bind_eq_some_iff]at z;obtain⟨sl,z1,z2⟩:=z;obtain⟨h2,e2,k⟩:=HX _ _ _ z2 h1 S1 _ ds (tE o1.f nd z1 q1);exact⟨h2,e2,eU.after o1.s ⟨k.len,λm y1 y2=>k.keep m y1 λz=>y2 (LB.m o1.f m z)⟩⟩
  .obtain⟨h2,e2,k⟩:=qV es z f;rw[Ev.qi HB es e2];exact⟨h2,e2,k⟩
 |.ix a b,fr,c,M,B,h,S,ai,z,f=>by
  simp only[xe]at z;simp only[Ev.xe];exact jw a z f
 |.me m o es,fr,c,M,B,h,S,ai,z,f=>by
  simp only[xe]at z;split at z
  case isFalse=>cases z
  rename_i hm;split at z
  case h_2=>cases z
  rename_i i hi;cases o with
  |v j=>
   simp only[ef]at hi;split at hi
   case isFalse=>cases hi
   rename_i hl;cases hi;obtain⟨s,hs⟩:=Option.isSome_iff_exists.mp hl;obtain⟨n,ds,l,o,k1,k2,k3,k4,k5⟩:=fL hs f;simp only[Ev.xe,Ev.ev,k2];have e0:Ev.mF m (.ref n) h=true:=by
    have:aH h n=some ds:=by unfold aH;rw[k3]
    cases m<;>first | (simp[Ev.mF,this];done)|cases hm
   simp only[Option.join,Option.bind,id,Ev.cy];rw[if_pos e0];exact wX es z f
  |_=>cases hi
 |.c _,_,_,_,_,_,_,_,z,_=>nomatch z|.v _,_,_,_,_,_,_,_,z,_=>nomatch z|.tup _,_,_,_,_,_,_,_,z,_=>nomatch z|.lst _,_,_,_,_,_,_,_,z,_=>nomatch z
 |.bin _ _ _,_,_,_,_,_,_,_,z,_=>nomatch z|.cmp _ _ _,_,_,_,_,_,_,_,z,_=>nomatch z
 |.nt _,_,_,_,_,_,_,_,z,_=>nomatch z|.neg _,_,_,_,_,_,_,_,z,_=>nomatch z|.an _ _,_,_,_,_,_,_,_,z,_=>nomatch z|.orr _ _,_,_,_,_,_,_,_,z,_=>nomatch z|.fG _ _ _,_,_,_,_,_,_,_,z,_=>nomatch z
 |.sl _ _ _,_,_,_,_,_,_,_,z,_=>nomatch z
 |.bi _ _,_,_,_,_,_,_,_,z,_=>nomatch z
 |.eX _ _,_,_,_,_,_,_,_,z,_=>nomatch z
 |.comp _ _ _ _,_,_,_,_,_,_,_,z,_=>nomatch z|.gW _,_,_,_,_,_,_,_,z,_=>nomatch z
 |.gQ _ _,_,_,_,_,_,_,_,z,_=>nomatch z|.gG _,_,_,_,_,_,_,_,z,_=>nomatch z
theorem qV:∀(es:Es) {fr:Fr}{c:Nat}{M B:Nat->Prop}{h:Hh}{S:Nat->Prop}{ai:Ev.Fr},qM P X es fr=some c->aG M B h S fr ai->iF c M h (Ev.xa P' X' es ai h)
 |.nil,_,_,_,_,_,_,_,z,_=>nomatch z
 |.cons e es,fr,c,M,B,h,S,ai,z,f=>by
  simp only[qM]at z;simp only[Ev.xa];split at z
  .rename_i i hi;cases e with
   |v j=>
    simp only[ef]at hi;split at hi
    case isFalse=>cases hi
    rename_i hl;cases hi;obtain⟨s,hs⟩:=Option.isSome_iff_exists.mp hl;obtain⟨n,ds,l,o,k1,k2,k3,k4,k5⟩:=fL hs f;simp only[Ev.ev,k2,Option.join,Option.bind,id,Ev.cy];exact qV es z f
   |_=>cases hi
  .split at z
   .rename_i y;obtain⟨d,h1,S1,e1,q1,o1⟩:=aJ HP e y f;rw[e1];obtain⟨h2,e2,k⟩:=qV es z o1.f;exact⟨h2,e2,eU.after o1.s k⟩
   .obtain⟨h2,e2,k⟩:=jw e z f;rw[(Ev.cY HB e e2).1];exact⟨h2,e2,k⟩
theorem wX:∀(es:Es) {k:Bool}{fr:Fr}{c:Nat}{M B:Nat->Prop}{h:Hh}{S:Nat->Prop}{ai:Ev.Fr},sW P X k es fr=some c->aG M B h S fr ai->iF c M h (Ev.xa P' X' es ai h)
 |.nil,_,_,_,_,_,_,_,_,z,_=>nomatch z
 |.cons e es,k,fr,c,M,B,h,S,ai,z,f=>by
  simp only[sW]at z;simp only[Ev.xa];split at z
  .rename_i y;obtain⟨d,h1,S1,e1,q1,o1⟩:=aJ HP e y f;rw[e1];obtain⟨h2,e2,k⟩:=wX es z o1.f;exact⟨h2,e2,eU.after o1.s k⟩
  .obtain⟨h2,e2,k⟩:=jw e z f;rw[(Ev.cY HB e e2).1];exact⟨h2,e2,k⟩
end
omit HP HX HB in
theorem tK{f:V->Fr->R Fl}{g:V->Fr->Option Nat}{f':D->Ev.Fr->Hh->Ev.R (Ev.Fl×Ev.Fr)}{g':D->Ev.Fr->Hh->Ev.XR}{ck:List (Nat×List D)}{B:Nat->Prop}
  (hf:∀{v d fr fl af M h S ai},f v fr=.ok fl af->aG M B h S fr ai->Rep h S v d->∃gl aI M' h' S',f' d ai h=.ok (gl,aI) h'/\dJ h' S' fl gl/\bX M B h S fr ai M' h' S' af aI)
  (hg:∀{v d fr c M h S ai},g v fr=some c->aG M B h S fr ai->Rep h S v d->iF c M h (g' d ai h)) (hb:∀d fr h r,g' d fr h=some r->f' d fr h=.bad) :
  ∀(vs:List V) {ds:List D} {fr:Fr} {c:Nat} {M:Nat->Prop} {h:Hh} {S:Nat->Prop} {ai:Ev.Fr},dO f g vs fr=some c->aG M B h S fr ai->aq h S vs ds->(∀q∈ck,aH h q.1=some q.2/\¬ M q.1)->iF c M h (Ev.dO f' g' ck ds ai h)
 |[],_,_,_,_,_,_,_,z,_,_,_=>nomatch z
 |v :: vs,ds,fr,c,M,h,S,ai,z,f0,q,st=>by
  simp only[aq]at q;obtain⟨d,es,rfl,q1,q2⟩:=q;simp only[dO]at z;simp only[Ev.dO];rw[if_pos (gu λq hq=>(st q hq).1)];have go:∀{af:Fr} {aI:Ev.Fr} {M1:Nat->Prop} {h1:Hh} {S1:Nat->Prop},dO f g vs af=some c->bX M B h S fr ai M1 h1 S1 af aI->iF c M h (Ev.dO f' g' ck es aI h1):=λ{af aI M1 h1 S1} z1 o=>by
   obtain⟨h2,e2,k⟩:=tK hf hg hb vs z1 o.f (q2.mono (λm y=>o.tr.keep m (f0.wS m y).1 (f0.wS m y).2.1) o.tr.sub) (λq hq=>⟨iD (st q hq).1 (o.tr.keep _ (jf (st q hq).1) (st q hq).2),λy=>by
    rcases o.tr.nV _ y with y|y
    .exact(st q hq).2 y
    .have:=jf (st q hq).1;omega⟩)
   exact⟨h2,e2,eU.after o k⟩
  split at z
  .rename_i y;obtain⟨gl,aI,M1,h1,S1,t1,t2,t3⟩:=hf y f0 q1;simp only[dJ]at t2;subst t2;rw[t1];exact go z t3
  .rename_i y;obtain⟨gl,aI,M1,h1,S1,t1,t2,t3⟩:=hf y f0 q1;simp only[dJ]at t2;subst t2;rw[t1];exact go z t3
  .cases z
  .obtain⟨h2,e2,k⟩:=hg z f0 q1;rw[hb _ _ _ _ e2];exact⟨h2,e2,k⟩
include HE
mutual
theorem IJ:∀(s:S) {fr:Fr}{c:Nat}{M B:Nat->Prop}{h:Hh}{S:Nat->Prop}{ai:Ev.Fr},xs P X w s fr=some c->aG M B h S fr ai->iF c M h (Ev.xs P' X' w s ai h)
 |.cX c,fr,_,M,B,h,S,ai,z,f=>by
  simp only[xs]at z;cases z;exact⟨h,rfl,Nat.le_refl _,λ_ _ _=>rfl⟩
 |.set i e,fr,c,M,B,h,S,ai,z,f=>by
  simp only[xs]at z;simp only[Ev.xs];exact jw HP HX HB e z f
 |.exp e,fr,c,M,B,h,S,ai,z,f=>by
  simp only[xs]at z;simp only[Ev.xs];exact jw HP HX HB e z f
 |.ret e,fr,c,M,B,h,S,ai,z,f=>by
  simp only[xs]at z;simp only[Ev.xs];obtain⟨M1,S1,o⟩:=f.fX;obtain⟨h2,e2,k⟩:=jw HP HX HB e z o.f;exact⟨h2,e2,eU.after o k⟩
 |.iff t a b,fr,c,M,B,h,S,ai,z,f=>by
  simp only[xs]at z;simp only[Ev.xs];split at z
  .rename_i k af y;obtain⟨h1,S1,e1,o1⟩:=dQ HP t y f;rw[e1];cases k with
   |true=>
    obtain⟨h2,e2,k⟩:=jg a (by simpa using z) o1.f;exact⟨h2,by simpa using e2,eU.after o1.s k⟩
   |false=>
    obtain⟨h2,e2,k⟩:=jg b (by simpa using z) o1.f;exact⟨h2,by simpa using e2,eU.after o1.s k⟩
  .obtain⟨h2,e2,k⟩:=jw HP HX HB t z f;rw[(Ev.cY HB t e2).2];exact⟨h2,e2,k⟩
 |.for t it b,fr,c,M,B,h,S,ai,z,f=>by
  simp only[xs]at z;simp only[Ev.xs];split at z
  case h_2=>cases z
  rename_i vs af y;obtain⟨M0,S0,o0⟩:=f.walk (itv it);obtain⟨s,h1,S1,e1,q1,q2,o1⟩:=iE HP it y o0.f;rw[e1];have o2:=o0.trans f o1.s;obtain⟨h2,e2,k⟩:=tK (B:=B) (ck:=s.2) (f':=λd ak h2=>match Ev.aZ t d ak with|some bw=>Ev.exs P' w b bw h2|none=>.bad) (g':=λd ak h2=>match Ev.aZ t d ak with|some bw=>Ev.xss P' X' w b bw h2|none=>none)
   (λ{v d fr fl af M h S ai} y1 f1 r1=>by
    split at y1
    .rename_i bw e3;obtain⟨fE,b1,b2,b3,b4⟩:=f1.aZ e3 r1;rw[b1];obtain⟨g',aI,M',h',S',c1,c2,c3⟩:=fZ HP HE b y1 b2;exact⟨g',aI,M',h',S',c1,c2,(⟨b2,(bX.refl b2).tr,b3,b4⟩:bX M _ h S fr ai M h S bw fE).trans f1 c3⟩
    .cases y1)
   (λ{v d fr c M h S ai} y1 f1 r1=>by
    split at y1
    .rename_i bw e3;obtain⟨fE,b1,b2,b3,b4⟩:=f1.aZ e3 r1;rw[b1];exact jg b y1 b2
    .cases y1)
   (λd fr h r y1=>by
    split at y1
    .rename_i e3;exact Ev.cA HB b y1
    .cases y1) vs z o2.f q1 (λq hq=>⟨(q2 q hq).1,(q2 q hq).2 rfl⟩)
  exact⟨h2,e2,eU.after o2 k⟩
 |.jU t b,fr,c,M,B,h,S,ai,z,f=>by
  simp only[xs]at z;simp only[Ev.xs];have go:∀(n:Nat) {fr:Fr} {M:Nat->Prop} {h:Hh} {S:Nat->Prop} {ai:Ev.Fr},ee (λak=>av P t ak) (λak=>exs P w b ak) (λak=>xss P X w b ak) n fr=some c->aG M B h S fr ai->iF c M h (Ev.ee (λak h2=>Ev.av P' t ak h2) (λak h2=>Ev.exs P' w b ak h2) (λak h2=>Ev.xss P' X' w b ak h2) n ai h):=λn=>by
   induction n with
   |zero=>intro _ _ _ _ _ z _;cases z
   |succ n ih=>
    intro fr M h S ai z f;simp only[ee]at z;simp only[Ev.ee];split at z
    case h_2=>cases z
    rename_i af y;obtain⟨h1,S1,e1,o1⟩:=dQ HP t y f;rw[e1];simp only;split at z
    .rename_i y2;obtain⟨gl,gT,M2,h2,S2,t1,t2,t3⟩:=fZ HP HE b y2 o1.f;simp only[dJ]at t2;subst t2;rw[t1];obtain⟨h3,e3,k⟩:=ih z t3.f;exact⟨h3,e3,eU.after (o1.s.trans f t3) k⟩
    .rename_i y2;obtain⟨gl,gT,M2,h2,S2,t1,t2,t3⟩:=fZ HP HE b y2 o1.f;simp only[dJ]at t2;subst t2;rw[t1];obtain⟨h3,e3,k⟩:=ih z t3.f;exact⟨h3,e3,eU.after (o1.s.trans f t3) k⟩
    .cases z
    .obtain⟨h3,e3,k⟩:=jg b z o1.f;rw[Ev.cA HB b e3];exact⟨h3,e3,eU.after o1.s k⟩
  exact go w z f
 |.jT _ _,_,_,_,_,_,_,_,z,_=>nomatch z
 |.tr _ _ _,_,_,_,_,_,_,_,z,_=>nomatch z
theorem jg:∀(s:Ss) {fr:Fr}{c:Nat}{M B:Nat->Prop}{h:Hh}{S:Nat->Prop}{ai:Ev.Fr},xss P X w s fr=some c->aG M B h S fr ai->iF c M h (Ev.xss P' X' w s ai h)
 |.nil,_,_,_,_,_,_,_,z,_=>nomatch z
 |.cons s ss,fr,c,M,B,h,S,ai,z,f=>by
  simp only[xss]at z;simp only[Ev.xss];split at z
  .rename_i y;obtain⟨gl,gT,M2,h2,S2,t1,t2,t3⟩:=A9 HP HE s y f;simp only[dJ]at t2;subst t2;rw[t1];obtain⟨h3,e3,k⟩:=jg ss z t3.f;exact⟨h3,e3,eU.after t3 k⟩
  .cases z
  .obtain⟨h3,e3,k⟩:=IJ s z f;rw[Ev.jY HB s e3];exact⟨h3,e3,k⟩
end
end
theorem nX{h:Hh}{S:Nat->Prop}{B:Nat->Prop}{h0:Hh}{S0:Nat->Prop}:∀{sl:List Sl}{ds:List D}{cs:Fr},sl.length=ds.length->
  (∀(a:Nat) s d,sl[a]?=some s->ds[a]?=some d->jc B B h0 S0 (some s) (some d)/\locked cs a=tw (some s)/\(tw (some s)=true->∃m es l s',d=.ref m/\h[m]?=some (.lst es)/\aq h S l es/\cs[a]?=some (some s')/\s'.out=some l))->iU h S sl ds ((cs.take sl.length).filterMap λo=>o.bind Sl.out)
 |[],ds,cs,_,_=>by simp[iU]
 |s :: sl,[],cs,hl,_=>by simp at hl
 |s :: sl,d :: ds,[],hl,q=>by
  have ih:=nX (h:=h) (S:=S) (sl:=sl) (ds:=ds) (cs:=[]) (by simpa using hl) λa s' d' e1 e2=>by
   obtain⟨w1,w2,w3⟩:=q (a+1) s' d' (by simpa using e1) (by simpa using e2);exact⟨w1,by simpa[locked]using w2,λz=>by obtain⟨_,_,_,_,_,_,_,y,_⟩:=w3 z;simp at y⟩
  obtain⟨w1,w2,w3⟩:=q 0 s d (by simp) (by simp);cases s with
  |val v=>simp at ih ⊢;exact⟨d,ds,rfl,ih⟩
  |own l=>exact absurd w1 (by rintro⟨m,es,e,q,_⟩;exact q.2 q.1)
  |bor l=>obtain⟨_,_,_,_,_,_,_,y,_⟩:=w3 rfl;simp at y
  |ro l=>obtain⟨_,_,_,_,_,_,_,y,_⟩:=w3 rfl;simp at y
 |s :: sl,d :: ds,o :: cs,hl,q=>by
  have ih:=nX (h:=h) (S:=S) (sl:=sl) (ds:=ds) (cs:=cs) (by simpa using hl) λa s' d' e1 e2=>by
   obtain⟨w1,w2,w3⟩:=q (a+1) s' d' (by simpa using e1) (by simpa using e2);exact⟨w1,by simpa[locked]using w2,λz=>by simpa using w3 z⟩
  obtain⟨w1,w2,w3⟩:=q 0 s d (by simp) (by simp);cases s with
  |val v=>
   have:o.bind Sl.out=none:=by
    simp[locked]at w2;rcases o with _|s
    .rfl
    .cases s<;>first|rfl|cases w2
   simp only[List.length_cons,List.take_succ_cons,List.filterMap_cons,this];exact⟨d,ds,rfl,ih⟩
  |own l=>exact absurd w1 (by rintro⟨m,es,e,q,_⟩;exact q.2 q.1)
  |bor l=>
   obtain⟨m,es,l',s',a1,a2,a3,a4,a5⟩:=w3 rfl;simp at a4;subst a4;simp only[List.length_cons,List.take_succ_cons,List.filterMap_cons,Option.bind,a5];exact⟨d,ds,l',_,m,es,rfl,rfl,a1,a2,a3,ih⟩
  |ro l=>
   obtain⟨m,es,l',s',a1,a2,a3,a4,a5⟩:=w3 rfl;simp at a4;subst a4;simp only[List.length_cons,List.take_succ_cons,List.filterMap_cons,Option.bind,a5];exact⟨d,ds,l',_,m,es,rfl,rfl,a1,a2,a3,ih⟩
theorem wY{fn:Fn}{sl:List Sl}{ds:List D}{B:Nat->Prop}{h:Hh}{S:Nat->Prop}(F0:aG B B h S (sl.map some) (ds.map some))(hlen:sl.length=ds.length):aG B B h S (cK fn sl) (Ev.cK fn ds):=by
 unfold cK Ev.cK;have sp:∀(i:Nat) o,(sl.map some++List.replicate (fn.ns - fn.np) none)[i]?=some o->(sl.map some)[i]?=some o\/(sl.length<=i/\o=none):=λi o y=>by
  by_cases hi:i<sl.length
  .rw[List.getElem?_append_left (by simpa using hi)]at y;exact .inl y
  .rw[List.getElem?_append_right (by simpa using hi)]at y;have:=List.mem_of_getElem? y;exact .inr ⟨by omega,(List.mem_replicate.mp this).2⟩
 have lo:∀(i:Nat) p,i<sl.length->(ds.map some++List.replicate (fn.ns - fn.np) none)[i]?=some p->(ds.map some)[i]?=some p:=λi p hi y=>by
  rw[List.getElem?_append_left (by simpa[<-hlen]using hi)]at y;exact y
 refine⟨F0.wS,F0.wM,F0.wB,by simp[hlen],λi o p y1 y2=>?_,λi j o o' m y1 y2 y3 y4 y5 y6=>?_⟩
 .rcases sp i o y1 with y1|⟨hi,rfl⟩
  .have hi:i<sl.length:=by have:=(List.getElem?_eq_some_iff.mp y1).1;simpa using this
   exact F0.sl i o p y1 (lo i p hi y2)
  .rw[List.getElem?_append_right (by simpa[<-hlen]using hi)]at y2;have:=List.mem_of_getElem? y2;exact(List.mem_replicate.mp this).2
 .rcases sp i o y1 with y1|⟨hi,rfl⟩
  .rcases sp j o' y2 with y2|⟨hj,rfl⟩
   .have hi:i<sl.length:=by have:=(List.getElem?_eq_some_iff.mp y1).1;simpa using this
    have hj:j<sl.length:=by have:=(List.getElem?_eq_some_iff.mp y2).1;simpa using this
    exact F0.inj i j o o' m y1 y2 y3 y4 (lo i _ hi y5) (lo j _ hj y6)
   .cases y4
  .cases y3
theorem CM{F:List Fn}(hF:F.length<=Ev.xo)(w n:Nat):qU (Ev.run F w n):=λf ds h d h' e=>by
 cases n with
 |zero=>cases e
 |succ n=>
  rw[Ev.dW,List.getElem?_eq_none (by omega)]at e;simp only[Ev.jG]at e;rw[if_pos (by omega),Nat.add_sub_cancel]at e;split at e
  .rename_i z;exact Ev.lM F w _ _ _ _ _ z
  .cases e
theorem Gy{X:bS}{X':Ev.bS}(HX:mZ X X'){f:Nat}{sl:List Sl}{v:V}{os:List (List V)}(e:jG X f sl=some (v,os)){h:Hh}{S B:Nat->Prop}{ds:List D}(F0:aG B B h S (sl.map some) (ds.map some)) :
  ∃d h' S',Ev.jG X' f ds h=.ok d h'/\Rep h' S' v d/\Tk B h S h' S'/\iU h' S' sl ds os:=by
 unfold jG at e;split at e
 case isFalse=>cases e
 rename_i hk;rw[Option.map_eq_some_iff]at e;obtain⟨c,e1,e2⟩:=e;cases e2;obtain⟨h',e3,k⟩:=HX _ _ _ e1 h S B ds F0;refine⟨.int c,h',S,by simp only[Ev.jG];rw[if_pos hk.1,e3],by simp[Rep],⟨k.len,k.keep,λ_ q=>q,λ_ q=>.inl q⟩,?_⟩;have hlen:sl.length=ds.length:=by have:=F0.len;simpa using this
 have:∀{sl:List Sl} {ds:List D},sl.length=ds.length->sl.all Sl.ef=true->iU h' S sl ds []:=λ{sl}=>by
  induction sl with
  |nil=>intro ds _ _;rfl
  |cons s sl ih=>
   intro ds hl ha;cases ds with
   |nil=>simp at hl
   |cons d ds=>
    simp only[List.all_cons,Bool.and_eq_true]at ha;cases s with
    |val v=>exact⟨d,ds,rfl,ih (by simpa using hl) ha.2⟩
    |_=>cases ha.1
 exact this hlen hk.2
theorem tL{F:List Fn}(hF:F.length<=Ev.xo)(w:Nat):∀n,kM (run F w n) (Ev.run F w n)/\mZ (cL F w n) (Ev.cL F w n)
 |0=>⟨λf sl v os e=>(nomatch e),λf sl c e=>(nomatch e)⟩
 |n+1=>by
  obtain⟨HP,HX⟩:=tL hF w n;have HE:=CM hF w n;have hx:mZ (cL F w (n+1)) (Ev.cL F w (n+1)):=λf sl c e h S B ds F0=>by
   rw[fT]at e;rw[Ev.fT];cases z:F[f]? with
   |none=>rw[z]at e;cases e
   |some fn=>
    rw[z]at e;simp only at e ⊢;split at e
    case isFalse=>cases e
    rename_i hl;have hlen:sl.length=ds.length:=by have:=F0.len;simpa using this
    rw[if_pos (by omega)];exact jg HP HE HX (Ev.lM F w n) fn.body e (wY F0 hlen)
  refine⟨λf sl v os e h S B ds F0=>?_,hx⟩;rw[dW]at e;cases z:F[f]? with
  |none=>
   rw[z]at e;rw[Ev.dW,z];exact Gy hx e F0
  |some fn=>
  rw[z]at e;simp only at e;split at e
  case isFalse=>cases e
  rename_i hl;have hlen:sl.length=ds.length:=by have:=F0.len;simpa using this
  have f1:aG B B h S (cK fn sl) (Ev.cK fn ds):=wY F0 hlen;have fin:∀{g:Fl} {af:Fr},exs (run F w n) w fn.body (cK fn sl)=.ok g af->∃g' aI M' h' S',Ev.exs (Ev.run F w n) w fn.body (Ev.cK fn ds) h=.ok (g',aI) h'/\dJ h' S' g g'/\Tk B h S h' S'/\iU h' S' sl ds (outs fn.np af):=λ{g af} y=>by
   obtain⟨g',aI,M',h',S',c1,c2,c3⟩:=fZ HP HE fn.body y f1;refine⟨g',aI,M',h',S',c1,c2,⟨c3.tr.len,λm y1 y2=>c3.tr.keep m y1 y2,c3.tr.sub,λm q=>?_⟩,?_⟩
   .rcases c3.tr.new m q with q|q|q
    .exact .inl q
    .exact .inr q
    .exact absurd q.1 q.2
   .unfold outs;rw[<-hl];refine nX (B:=B) (h0:=h) (S0:=S) hlen λa s d e1 e2=>?_;have ha:a<sl.length:=(List.getElem?_eq_some_iff.mp e1).1;have h0:(cK fn sl)[a]?=some (some s):=by unfold cK;rw[List.getElem?_append_left (by simpa using ha)];simp[e1]
    have hlk:locked af a=tw (some s):=by rw[c3.lk a];unfold locked;rw[h0]
    refine⟨F0.sl a _ _ (by simp[e1]) (by simp[e2]),hlk,λhk=>?_⟩;have hr:=c3.rf a (by unfold locked;rw[h0];exact hk);have hd:(Ev.cK fn ds)[a]?=some (some d):=by unfold Ev.cK;rw[List.getElem?_append_left (by simpa[<-hlen]using ha)];simp[e2]
    rw[hd]at hr;cases y2:af[a]? with
    |none=>unfold locked at hlk;rw[y2]at hlk;rw[<-hlk]at hk;cases hk
    |some o=>
     have sr:=c3.f.sl a _ _ y2 hr;unfold locked at hlk;rw[y2,hk]at hlk;rcases o with _|s'
     .cases hlk
     .cases s' with
      |val v=>cases hlk
      |own l=>cases hlk
      |bor l=>obtain⟨m,es,e,_,k1,k2⟩:=sr;cases e;exact⟨m,es,l,_,rfl,k1,k2,rfl,rfl⟩
      |ro l=>obtain⟨m,es,e,_,k1,k2⟩:=sr;cases e;exact⟨m,es,l,_,rfl,k1,k2,rfl,rfl⟩
  simp only[Ev.dW,z];have hl':ds.length=fn.np:=by omega
  rw[if_pos hl'];split at e
  .rename_i v' af y;cases e;obtain⟨g',aI,M',h',S',c1,c2,c3,c4⟩:=fin y;simp only[dJ]at c2;obtain⟨d,rfl,c2⟩:=c2;exact⟨d,h',S',by simp only[Ev.endOf,c1,Ev.aj],c2,c3,c4⟩
  .rename_i af y;cases e;obtain⟨g',aI,M',h',S',c1,c2,c3,c4⟩:=fin y;simp only[dJ]at c2;subst c2;exact⟨.az,h',S',by simp only[Ev.endOf,c1,Ev.aj],rfl,c3,c4⟩
  .cases e
end Pv
namespace Pv
open Ev (D O Hh Fn)
theorem CN{F:List Fn}{w n f:Nat}{ns:List Int}(e:run F w n f [.val (.bq (ns.map V.int))]=some (.bl true,[]))(hF:F.length<=1000:=by decide):∃h',Ev.run F w n f [.ref 0] [.bq (ns.map D.int)]=.ok (.bl true) h':=by
 have F0:aG (λ_=>False) (λ_=>False) [O.bq (ns.map D.int)] (λm=>m=0) ([Sl.val (.bq (ns.map V.int))].map some) ([D.ref 0].map some):=by
  refine⟨λm q=>⟨by subst q;simp,id,id⟩,λm q=>q.elim,λm q=>q.elim,rfl,λi o p y1 y2=>?_,λi j o o' m y1 y2 y3 y4 y5 y6=>?_⟩
  .cases i with
   |zero=>
    simp at y1 y2;subst y1 y2;refine⟨.ref 0,rfl,?_⟩;simp only[Rep];exact⟨0,_,rfl,rfl,rfl,aq.map (f:=V.int) (g:=D.int) (λ_=>by simp[Rep]) ns⟩
   |succ i=>simp at y1
  .cases i with
   |zero=>simp at y1;subst y1;cases y3
   |succ i=>simp at y1
 obtain⟨d,h',S',a,b,_,_⟩:=(tL hF w n).1 f _ _ _ e _ _ _ _ F0;simp only[Rep]at b;subst b;exact⟨h',a⟩
end Pv
namespace Pv
open Ev (D aU aP TY BI ME T E Es Eo It S Ss Fn big deep b2i rep bL cT bh aD cut bO cP slots)
theorem cZ{n:Nat}(h:n<=100000):n<=big:=Nat.le_trans h (by decide)
section
variable{i j:Int}{a b:List Nat}{x y:List V}{d e:V}{m n:Nat}{k l:Bool}
theorem m5(h:x.length<=big):dX x=some (.lst x):=by simp[dX,h]
theorem kj(h:x.length<=big):iB x=some (.tup x):=by simp[iB,h]
@[simp] theorem Ba:dX []=some (.lst []):=m5 (cZ (by simp))
@[simp] theorem IK:iB []=some (.tup []):=kj (cZ (by simp))
@[simp] theorem IL{a}:dX [a]=some (.lst [a]):=m5 (cZ (by simp))
@[simp] theorem pQ{a}:iB [a]=some (.tup [a]):=kj (cZ (by simp))
@[simp] theorem IM{a b}:dX [a,b]=some (.lst [a,b]):=m5 (cZ (by simp))
@[simp] theorem Bb{a b}:iB [a,b]=some (.tup [a,b]):=kj (cZ (by simp))
@[simp] theorem IP{a b c}:iB [a,b,c]=some (.tup [a,b,c]):=kj (cZ (by simp))
@[simp] theorem bV:bI .add (.int i) (.int j)=some (.int (i+j)):=nd rfl
theorem dP(h:a.length+b.length<=100000):bI .add (.str a) (.str b)=some (.str (a++b)):=by delta bI;dsimp only;simp[cZ h]
theorem yX(h:x.length+y.length<=100000):bI .add (.tup x) (.tup y)=some (.tup (x++y)):=by delta bI;dsimp only;simp[cZ h]
@[simp] theorem yY:bI .sub (.int i) (.int j)=some (.int (i - j)):=nd rfl
@[simp] theorem lV:bI .mul (.int i) (.int j)=if bL i j then some (.int (i*j))else none:=nd rfl
theorem yZ(h0:0<=j)(h1:j<=1000)(h2:a.length<=1000):bI .mul (.str a) (.int j)=some (.str (rep j.toNat a)):=by delta bI;dsimp only;simp[h0,h1,h2]
@[simp] theorem y9:bI .fdiv (.int i) (.int j)=if 0<j/\j<1073741824 then some (.int (i / j))else none:=nd rfl
@[simp] theorem CO:bI .mod (.int i) (.int j)=if 0<j then some (.int (i % j))else none:=nd rfl
@[simp] theorem qW:cop .ne d e=(fJ deep d e).map (!·):=nd rfl
@[simp] theorem Gz:fJ (n+1) (.int i) (.int j)=some (decide (i=j)):=by show some (i==j)=_;by_cases h:i=j<;>simp[h]
@[simp] theorem GA:fJ (n+1) (.str a) (.str b)=some (decide (a=b)):=by show some (a==b)=_;by_cases h:a=b<;>simp[h]
@[simp] theorem tM:fJ deep (.int i) (.int j)=some (decide (i=j)):=Gz
@[simp] theorem nY:fJ deep (.str a) (.str b)=some (decide (a=b)):=GA
@[simp] theorem Mp{f:V->V->Option Bool}:bU f [] []=some true:=nd rfl
@[simp] theorem NT{f:V->V->Option Bool}:bU f (d :: x) []=some false:=nd rfl
@[simp] theorem nZ:eY (.str a) (.int i)=(bh a i).map λc=>.str [c]:=nd rfl
@[simp] theorem gw{lo hi:Option Int}:fH (.str a) lo hi=some (.str (cut a lo hi)):=nd rfl
theorem len_str(h:a.length<=100000):dS .len [.str a]=some (.int a.length):=by delta dS;dsimp only;simp[cZ h]
@[simp] theorem tN:dS .len [.bq x]=some (.int x.length):=nd rfl
@[simp] theorem CP:toT (.lst x)=iB x:=nd rfl
theorem GB(h0:0<=j)(h1:j<=100000):dN [.int j]=some (range 0 j.toNat):=by
 simp only[dN];rw[if_pos ⟨by omega,by omega⟩]
theorem m6{α:Type}(g:α->List Nat)(l:List α):strsOf (l.map λx=>.str (g x))=some (l.map g):=by induction l<;>simp[strsOf, *]
theorem pD:∀l:List (List Nat),bO [] l=l.flatten
 |[]=>rfl
 |[s]=>by simp[bO]
 |s :: t :: r=>by simp[bO,pD (t :: r)]
@[simp] theorem NU:truthy (.bl k)=k:=nd rfl
theorem Bc{l:List (List Nat)}(h:l.flatten.length<=100000):dZ .join (.str []) [.lst (l.map V.str)]=some (.str l.flatten):=by
 have hs:=m6 (λx=>x) l;have:(l.map (·.length)).sum<=big:=cZ (by rw[<-List.length_flatten];exact h);simp only[List.map_id']at hs;have hs':strsOf (l.map V.str)=some l:=by simpa using m6 (λx=>x) l
 delta dZ;dsimp only;simp[pq,hs',pD,this]
end
theorem wZ{α:Type}{f:V->Option (Option V)}(e:α->V)(g:α->V)(l:List α)(h:∀a∈l,f (e a)=some (some (g a))):bZ f (l.map e)=some (l.map g):=by
 induction l with
 |nil=>rfl
 |cons a l ih=>simp only[List.map_cons,bZ,h a (by simp),ih λu hu=>h u (by simp[hu]),Option.bind];rfl
noncomputable def Wp{α:Type}(r:R α)(Q:α->Fr->Prop):Prop:=∃a h,r=.ok a h/\Q a h
section
variable{α β:Type}{Q Q':α->Fr->Prop}
@[simp] theorem uK(a:α)(h:Fr):Wp (.ok a h) Q=Q a h:=propext ⟨λ⟨_,_,e,q⟩=>by cases e;exact q,λq=>⟨_,_,rfl,q⟩⟩
@[simp] theorem NV:Wp (.bad:R α) Q=False:=propext ⟨λq=>(by obtain⟨_,_,e,_⟩:=q;cases e),False.elim⟩
@[simp] theorem wp_bind(r:R β)(f:β->Fr->R α):Wp (r.bind f) Q=Wp r λa h=>Wp (f a h) Q:=by cases r<;>simp
theorem Wp.mono{r:R α}(h:Wp r Q)(f:∀a h,Q a h->Q' a h):Wp r Q':=by
 obtain⟨a,h',e,q⟩:=h;exact⟨a,h',e,f a h' q⟩
end
noncomputable def fl(I Q:Fr->Prop)(X:V->Fr->Prop):Fl->Fr->Prop
 |.nx,fr=>I fr
 |.ct,fr=>I fr
 |.bk,fr=>Q fr
 |.ret v,fr=>X v fr
section
variable{I J:Fr->Prop}{X:V->Fr->Prop}{fr:Fr}{v:V}
@[simp] theorem dg:fl I J X .nx fr=I fr:=nd rfl
end
theorem eH{α:Type}{e:α->V}{f:V->Fr->R Fl}{Q:Fl->Fr->Prop}(I:List α->List α->Fr->Prop)(turn:∀p a l fr,I p (a :: l) fr->Wp (f (e a) fr) (fl (I (p++[a]) l) (Q .nx) λv=>Q (.ret v)))(fin:∀p fr,I p [] fr->Q .nx fr):∀(l p:List α) (fr:Fr),I p l fr->Wp (forL f (l.map e) fr) Q
 |[],p,fr,i=>by simp only[List.map_nil,forL,uK];exact fin p fr i
 |a :: l,p,fr,i=>by
  simp only[List.map_cons,forL,wp_bind];refine(turn p a l fr i).mono λg h2 q=>?_;cases g with
  |nx=>exact eH I turn fin l _ h2 q
  |ct=>exact eH I turn fin l _ h2 q
  |bk=>exact(uK _ _).mpr q
  |ret x=>exact(uK _ _).mpr q
theorem CQ{f:V->Fr->R Fl}{Q:Fl->Fr->Prop}{lo:Int}{N:Nat}(I:Nat->Fr->Prop)(turn:∀(k:Nat) fr,k<N->I k fr->Wp (f (.int (lo+(k:Nat))) fr) (fl (I (k+1)) (Q .nx) λv=>Q (.ret v)))(fin:∀fr,I N fr->Q .nx fr){fr:Fr}(i:I 0 fr):Wp (forL f (range lo N) fr) Q:=by
 have h:=eH (e:=λ(k:Nat)=>V.int (lo+k)) (f:=f) (Q:=Q) (λp l fr=>∃k,k<=N/\p=List.range k/\p++l=List.range N/\I k fr)
  (λp a l fr ⟨k,hk,hp,hl,q⟩=>by
   subst hp;have hlen:=congrArg List.length hl;simp at hlen;have ha:a=k:=by
    have:=congrArg (·[k]?) hl;simp[List.getElem?_append_right]at this;rw[List.getElem?_range (by omega)]at this;simpa using this
   subst ha;refine(turn a fr (by omega) q).mono λg h2 z=>?_;cases g with
   |nx=>exact⟨a+1,by omega,by simp[List.range_succ],by simpa using hl,z⟩
   |ct=>exact⟨a+1,by omega,by simp[List.range_succ],by simpa using hl,z⟩
   |bk=>exact z
   |ret x=>exact z)
  (λp fr ⟨k,hk,hp,hl,q⟩=>by
   subst hp;have hlen:=congrArg List.length hl;simp at hlen;subst hlen;exact fin fr q) (List.range N) [] fr ⟨0,Nat.zero_le _,rfl,by simp,i⟩
 exact h
noncomputable def fin(fn:Fn)(ds:List Sl):R Fl->Option (V×List (List V))
 |.ok (.ret v) fr=>some (v,outs fn.np fr)
 |.ok .nx fr=>some (.az,outs fn.np fr)
 |_=>wF fn ds
theorem run_eq{F:List Fn}{w n f:Nat}{ds:List Sl}{fn:Fn}(hf:F[f]?=some fn)(hl:ds.length=fn.np):run F w (n+1) f ds=fin fn ds (exs (run F w n) w fn.body (cK fn ds)):=by
 simp only[dW,hf,hl,if_true];cases exs (run F w n) w fn.body (cK fn ds)with
 |bad=>rfl
 |ok g fr=>cases g<;>rfl
theorem cR{F:List Fn}{w n f:Nat}{ds:List Sl}{fn:Fn}{v:V}{os:List (List V)}(hf:F[f]?=some fn)(hl:ds.length=fn.np)(q:Wp (exs (run F w n) w fn.body (cK fn ds)) λg fr=>g=.ret v/\outs fn.np fr=os):run F w (n+1) f ds=some (v,os):=by
 rw[run_eq hf hl];obtain⟨g,fr,e,rfl,rfl⟩:=q;rw[e];rfl
section
variable{P:ay}{w:Nat}{fr:Fr}{k:Bool}{a b c:E}{es:Es}{ss sa sb:Ss}{st:S}{lo hi:Eo}{it:It}
@[simp] theorem Ls{d:D}:ev P k (.c d) fr=R.of (ofD d) fr:=by rw[ev]
@[simp] theorem Lu{i:Nat}:ev P k (.v i) fr=R.of (gS k fr i) fr:=by rw[ev]
@[simp] theorem GC:ev P k (.tup es) fr=(bz P false es fr).bind λds af=>R.of (iB ds) af:=by rw[ev]
@[simp] theorem GD:ev P k (.lst es) fr=(bz P false es fr).bind λds af=>R.of (dX ds) af:=by rw[ev]
@[simp] theorem GF{o:aU}:ev P k (.bin o a b) fr=(ev P (kf a (bG b)) a fr).bind λx af=>(ev P true b af).bind λy ak=>R.of (bI o x y) ak:=by rw[ev]
@[simp] theorem GG{o:aP}:ev P k (.cmp o a b) fr=(ev P (kf a (bG b)) a fr).bind λx af=>(ev P true b af).bind λy ak=>R.of ((cop o x y).map .bl) ak:=by rw[ev]
noncomputable def NW:V->Fr->R V:=λx h1=>match x with
 |.bl b=>.ok (.bl (!b)) h1
 |_=>.bad
@[simp] theorem IQ:ev P k (.nt a) fr=(ev P true a fr).bind NW:=by rw[ev];rfl
noncomputable def Lv:V->Fr->R V:=λx h1=>match x with
 |.int i=>.ok (.int (-i)) h1
 |_=>.bad
@[simp] theorem GH:ev P k (.neg a) fr=(ev P true a fr).bind Lv:=by rw[ev];rfl
noncomputable def Kh(r:Fr->R V):V->Fr->R V:=λx h1=>match x with
 |.bl true=>r h1
 |.bl false=>.ok (.bl false) h1
 |_=>.bad
@[simp] theorem GI{k:Bool}{r:Fr->R V}:Kh r (.bl k) fr=if k then r fr else .ok (.bl false) fr:=by cases k<;>rfl
@[simp] theorem IS:ev P k (.an a b) fr=(ev P true a fr).bind (Kh λh1=>ev P k b h1):=by rw[ev];rfl
@[simp] theorem GJ:ev P k (.fG a b c) fr=(av P a fr).bind λt af=>if t then ev P k b af else ev P k c af:=by rw[ev]
@[simp] theorem IT:ev P k (.ix a b) fr=(ev P (kf a (bG b)) a fr).bind λx af=>(ev P true b af).bind λy ak=>R.of (eY x y) ak:=by rw[ev]
@[simp] theorem IU:ev P k (.sl a lo hi) fr=(ev P (kf a (iT lo++iT hi)) a fr).bind λx af=>(dU P lo af).bind λl ak=>(dU P hi ak).bind λu bw=>R.of (fH x l u) bw:=by rw[ev]
@[simp] theorem IV{f:Nat}:ev P k (.cl f es) fr=(cQ P es fr).bind λas af=>dm P f as af:=by rw[ev]
@[simp] theorem IW{g:BI}:ev P k (.bi g es) fr=(bz P true es fr).bind λds af=>R.of (dS g ds) af:=by rw[ev]
noncomputable def za(m:ME)(i:Nat):List V->Fr->R V:=λds af=>match af[i]? with
 |some (some (.own l))=>match j6 m l ds with
  |some (v,l')=>.ok v (af.set i (some (.own l')))
  |none=>.bad
 |some (some (.bor l))=>match j6 m l ds with
  |some (v,l')=>.ok v (af.set i (some (.bor l')))
  |none=>.bad
 |_=>.bad
theorem GK{m:ME}{i:Nat}(hm:fW m=true):ev P k (.me m (.v i) es) fr=if (lent fr i).isSome then (bz P (sV m) es fr).bind (za m i)else .bad:=by
 rw[ev,if_pos hm];unfold ef;cases z:(lent fr i).isSome<;>simp[z]<;>rfl
theorem GL{m:ME}(hm:fW m=false):ev P k (.me m a es) fr=(ev P (kf a (dR es)) a fr).bind λx af=>(bz P true es af).bind λds ak=>R.of (dZ m x ds) ak:=by rw[ev,hm];rfl
@[simp] theorem GN{ts:List TY}:ev P k (.eX a ts) fr=(ev P true a fr).bind λx af=>.ok (.bl (ts.any (cz x))) af:=by rw[ev]
noncomputable def m7(P:ay)(elt:E)(t:T)(cond:Eo)(fr:Fr):V->Option (Option V):=λd=>match aZ t d (qL fr)with
 |none=>none
 |some ak=>match gX P cond ak with
  |.ok c _=>if c then (match ev P false elt ak with|.ok x _=>some (some x)|.bad=>none)else some none
  |.bad=>none
@[simp] theorem nM{elt:E}{t:T}{cond:Eo}:ev P k (.comp elt t it cond) fr=(b9 P true it fr).bind λs af=>if undef t af then R.of ((bZ (m7 P elt t cond af) s).bind dX) af else .bad:=by rw[ev];rfl
@[simp] theorem GO:ev P k (.gW it) fr=(b9 P true it fr).bind λs af=>R.of (dX s) af:=by rw[ev]
@[simp] theorem CS{kvs:List (D×D)}:ev P k (.gQ kvs a) fr=(ev P true a fr).bind λx af=>R.of (fS x kvs) af:=by rw[ev]
@[simp] theorem GP:ev P k (.gG a) fr=(ev P true a fr).bind λx af=>R.of (toT x) af:=by rw[ev]
@[simp] theorem CT:bz P k .nil fr=.ok [] fr:=by rw[bz]
@[simp] theorem zb:bz P k (.cons a es) fr=(ev P (k&&kf a (dR es)) a fr).bind λd af=>(bz P k es af).bind λds ak=>.ok (d :: ds) ak:=by rw[bz]
@[simp] theorem CU:cQ P .nil fr=.ok [] fr:=by rw[cQ]
noncomputable def uL(P:ay)(a:E)(es:Es)(fr:Fr):Option Nat->R (List (Nat ⊕ V))
 |some i=>(cQ P es fr).bind λr af=>.ok (.inl i :: r) af
 |none=>(ev P false a fr).bind λd af=>(cQ P es af).bind λr ak=>.ok (.inr d :: r) ak
@[simp] theorem uM{i:Nat}:uL P a es fr (some i)=(cQ P es fr).bind λr af=>.ok (.inl i :: r) af:=nd rfl
@[simp] theorem uN:uL P a es fr none=(ev P false a fr).bind λd af=>(cQ P es af).bind λr ak=>.ok (.inr d :: r) ak:=nd rfl
@[simp] theorem qX:cQ P (.cons a es) fr=uL P a es fr (ef fr a):=by rw[cQ];cases ef fr a<;>rfl
@[simp] theorem GQ:dU P .no fr=.ok none fr:=by rw[dU]
@[simp] theorem CV:dU P (.yes a) fr=(ev P true a fr).bind λd af=>R.of ((intOf d).map some) af:=by rw[dU]
@[simp] theorem GR:gX P .no fr=.ok true fr:=by rw[gX]
@[simp] theorem w9:av P (.an a b) fr=(av P a fr).bind λk af=>if k then av P b af else .ok false af:=by rw[av]
@[simp] theorem tO:av P (.orr a b) fr=(av P a fr).bind λk af=>if k then .ok true af else av P b af:=by rw[av]
@[simp] theorem GS:av P (.nt a) fr=(av P a fr).bind λk af=>.ok (!k) af:=by rw[av]
noncomputable def GU:V->Fr->R Bool:=λx af=>.ok (truthy x) af
@[simp] theorem CW{x:V}:GU x fr=.ok (truthy x) fr:=nd rfl
@[simp] theorem CY:b9 P k (.seq a) fr=(src k fr a (ev P k a fr)).bind λx af=>R.of (eF x) af:=by rw[b9]
@[simp] theorem CZ:b9 P k (.gj es) fr=(bz P true es fr).bind λds af=>R.of (dN ds) af:=by rw[b9]
noncomputable def GV(i:Nat)(af:Fr):V->R Fl
 |.lst l=>(R.of (put af i (.own l)) af).bind λak _=>.ok .nx ak
 |_=>.bad
@[simp] theorem zc{i:Nat}{l:List V}:GV i fr (.lst l)=(R.of (put fr i (.own l)) fr).bind λak _=>.ok .nx ak:=nd rfl
@[simp] theorem xg{i:Nat}:ex P w (.set i a) fr=(ev P false a fr).bind λx af=>if isNew a then GV i af x else (R.of (put af i (.val x)) af).bind λak _=>.ok .nx ak:=by
 rw[ex];rfl
@[simp] theorem GW:ex P w (.exp a) fr=(ev P true a fr).bind λ_ af=>.ok .nx af:=by rw[ex]
@[simp] theorem GY:ex P w (.ret a) fr=(ev P false a (eG fr)).bind λx af=>.ok (.ret x) af:=by rw[ex]
@[simp] theorem GZ:ex P w (.iff a sa sb) fr=(av P a fr).bind λk af=>if k then exs P w sa af else exs P w sb af:=by rw[ex]
noncomputable def turnF(P:ay)(w:Nat)(t:T)(b:Ss):V->Fr->R Fl:=λd ak=>match aZ t d ak with
 |some bw=>exs P w b bw
 |none=>.bad
@[simp] theorem qp{t:T}:ex P w (.for t it ss) fr=(b9 P false it (kL (itv it) fr)).bind λs af=>forL (turnF P w t ss) s af:=by rw[ex];rfl
@[simp] theorem C4:exs P w .nil fr=.ok .nx fr:=by rw[exs]
noncomputable def IX(P:ay)(w:Nat)(ss:Ss):Fl->Fr->R Fl:=λp h1=>match p with
 |.nx=>exs P w ss h1
 |p=>.ok p h1
@[simp] theorem zd:exs P w (.cons st ss) fr=(ex P w st fr).bind (IX P w ss):=by rw[exs];rfl
end
theorem gH{P:ay}{f:Nat}{vs:List V}{fr:Fr}{v:V}(h:P f (vs.map .val)=some (v,[])):dm P f (vs.map .inr) fr=.ok v fr:=by
 have h1:∀vs:List V,bf (vs.map .inr)=[]:=λvs=>by induction vs<;>simp[bf, *]
 have h2:∀vs:List V,args fr (vs.map .inr)=some (vs.map .val):=λvs=>by induction vs<;>simp[args, *]
 simp[dm,h1,h2,h,back]
section
variable{P:ay}{f:Nat}{fr:Fr}{a b c d v:V}
theorem m8(h:P f [.val a]=some (v,[])):dm P f [.inr a] fr=.ok v fr:=gH (vs:=[a]) h
theorem call2(h:P f [.val a,.val b]=some (v,[])):dm P f [.inr a,.inr b] fr=.ok v fr:=gH (vs:=[a,b]) h
theorem eK(h:P f [.val a,.val b,.val c]=some (v,[])):dm P f [.inr a,.inr b,.inr c] fr=.ok v fr:=gH (vs:=[a,b,c]) h
end
end Pv
namespace Pv
open Ev (D aU aP TY BI ME T E Es Eo It S Ss Fn big deep b2i rep bL cT bh aD cut bO cP slots)
section
variable{fr:Fr}{i j:Nat}{k:Bool}{s:Sl}{v u:V}{l:List V}{o:Option Sl}
noncomputable def Oq(k:Bool):Option (Option Sl)->Option V
 |some (some (.val v))=>some v
 |some (some (.own l))=>if k then some (.lst l)else none
 |some (some (.bor l))=>if k then some (.lst l)else none
 |some (some (.ro l))=>if k then some (.lst l)else none
 |_=>none
@[simp] theorem IY{r:R V}:src k fr (.v i) r=R.of (uG k fr i) fr:=nd rfl
noncomputable def G0(fr:Fr)(i:Nat)(s:Sl):Option (Option Sl)->Option Fr
 |some (some (.bor _))=>none
 |some (some (.ro _))=>none
 |_=>some (fr.set i (some s))
@[simp] theorem G1:put fr i s=G0 fr i s fr[i]?:=by unfold put G0;split<;>simp_all
@[simp] theorem uO{l:List Nat}{x:List V}:aZ (.many l) (.tup x) fr=bP l x fr:=nd rfl
@[simp] theorem uP:bP [] [] fr=some fr:=nd rfl
@[simp] theorem rP{l:List Nat}{x:List V}:bP (i :: l) (v :: x) fr=(put fr i (.val v)).bind (bP l x):=nd rfl
noncomputable def lz(m:ME)(i:Nat)(ds:List V)(fr:Fr):Option (Option Sl)->R V
 |some (some (.own l))=>match j6 m l ds with
  |some (v,l')=>.ok v (fr.set i (some (.own l')))
  |none=>.bad
 |some (some (.bor l))=>match j6 m l ds with
  |some (v,l')=>.ok v (fr.set i (some (.bor l')))
  |none=>.bad
 |_=>.bad
@[simp] theorem C5{m:ME}{ds:List V}:za m i ds fr=lz m i ds fr fr[i]?:=by unfold za lz;split<;>simp_all<;>rfl
theorem tP{d:V}(h:l.length<100000):lz .append i [d] fr (some (some (.own l)))=.ok .az (fr.set i (some (.own (l++[d])))):=by
 simp[lz,j6,Nat.lt_of_lt_of_le h (show 100000<=big by decide)]
theorem C6{d:List V}(h:l.length+d.length<=100000):lz .extend i [.lst d] fr (some (some (.own l)))=.ok .az (fr.set i (some (.own (l++d)))):=by
 simp[lz,j6,cZ h]
end
noncomputable def vo(o:Option Sl):Prop:=o=none\/∃y,o=some (.val y)
theorem vo.none:vo none:=.inl rfl
theorem vo.val{v:V}:vo (some (.val v)):=.inr ⟨v,rfl⟩
theorem G2{fr:Fr}{i:Nat}{s:Sl}{b:Option Sl}(h:vo b):G0 fr i s (some b)=some (fr.set i (some s)):=by rcases h with rfl|⟨y,rfl⟩<;>rfl
theorem eN{b:Option Sl}(h:vo b):b.map Sl.fX=b:=by rcases h with rfl|⟨y,rfl⟩<;>rfl
noncomputable def IZ(f:V->Fr->R Fl)(ds:List V):Fl->Fr->R Fl:=λp af=>match p with
 |.nx=>forL f ds af
 |.ct=>forL f ds af
 |.bk=>.ok .nx af
 |.ret x=>.ok (.ret x) af
section
variable{f:V->Fr->R Fl}{ds:List V}{d x:V}{fr:Fr}
@[simp] theorem oU:forL f (d :: ds) fr=(f d fr).bind (IZ f ds):=nd rfl
end
section
variable{a b c:E}{es:Es}{lo hi:Eo}{it:It}{l:List Nat}
end
theorem qY{α:Type}{l:List α}{i:Int}(h0:0<=i):bh l i=l[i.toNat]?:=by
 unfold bh cT;rw[if_pos h0];split
 .rfl
 .rw[List.getElem?_eq_none (by omega)];rfl
@[simp] theorem sA{α:Type}{l:List α}{n:Nat}:bh l (n:Int)=l[n]?:=by rw[qY (by omega)];simp
noncomputable def pR:Fn:=⟨2,2,(.cons (.iff (.cmp .eq (.v 0) (.lst .nil)) (.cons (.ret (.bin .mul (.c (.int 7)) (.v 1))) .nil) .nil) (.cons (.ret (.bin .add (.ix (.v 0) (.bin .mod (.v 1) (.bi .len (.cons (.v 0) .nil)))) (.bin .mul (.c (.int 6553)) (.bin .fdiv (.v 1) (.bi .len (.cons (.v 0) .nil)))))) .nil))⟩
noncomputable def qZ(c:Nat):Fn:=⟨3,4,(.cons (.set 3 (.bin .mod (.bin .add (.bin .mul (.bin .mod (.cl c (.cons (.v 0) (.cons (.v 1) .nil))) (.c (.int 2147483563))) (.c (.int 69069))) (.bin .mul (.c (.int 104723)) (.bin .add (.v 1) (.c (.int 1))))) (.c (.int 2147483563)))) (.cons (.set 3 (.bin .mod (.bin .add (.bin .mul (.v 3) (.v 3)) (.bin .fdiv (.v 3) (.c (.int 3)))) (.c (.int 2147483399)))) (.cons (.ret (.bin .mod (.bin .fdiv (.bin .mod (.bin .add (.bin .mul (.v 3) (.v 3)) (.bin .fdiv (.v 3) (.c (.int 7)))) (.c (.int 2147483647))) (.c (.int 11))) (.v 2))) .nil)))⟩
noncomputable def pT(ns:List Int)(k:Int):Int:=if ns=[]then 7*k else (ns[(k % ns.length).toNat]?.getD 0)+6553*(k / ns.length)
noncomputable def bT(ns:List Int)(k many:Int):Int:=
 let c:=(pT ns k % 2147483563*69069+104723*(k+1)) % 2147483563
 let c:=(c*c+c / 3) % 2147483399
 (c*c+c / 7) % 2147483647 / 11 % many
theorem iG(ns:List Int)(k:Int){many:Int}(h:0<many):0<=bT ns k many:=Int.emod_nonneg _ (by omega)
theorem iH(ns:List Int)(k:Int){many:Int}(h:0<many):bT ns k many<many:=Int.emod_lt_of_pos _ h
noncomputable def gb(ns:List Int):V:=.bq (ns.map V.int)
theorem C7(ns:List Int):bU (fJ (18+1)) (ns.map V.int) []=some (decide (ns=[])):=by cases ns<;>simp
end Pv
namespace Pv
open Ev (D aU aP TY BI ME T E Es Eo It S Ss Fn big deep b2i rep bL cT bh aD cut bO cP slots)
section
variable{P:ay}{w:Nat}{fr af ak bw gY:Fr}{k b:Bool}{a e c:E}{es:Es}{ss sa sb:Ss}{st:S}{lo hi:Eo}{it:It}{v x y z:V}{vs:List V}{i:Nat}{l:List V}{Q:Fl->Fr->Prop}
theorem bF{d:D}(h:ofD d=some v):ev P k (.c d) fr=.ok v fr:=by rw[Ls,h];rfl
theorem aF(h:gS k fr i=some v):ev P k (.v i) fr=.ok v fr:=by rw[Lu,h];rfl
theorem gE(h:bz P false es fr=.ok vs af)(h2:iB vs=some v):ev P k (.tup es) fr=.ok v af:=by rw[GC,h,aj,h2];rfl
theorem uQ(h:bz P false es fr=.ok vs af)(h2:dX vs=some v):ev P k (.lst es) fr=.ok v af:=by rw[GD,h,aj,h2];rfl
theorem aW{o:aU}(h:ev P (kf a (bG e)) a fr=.ok x af)(h2:ev P true e af=.ok y ak)(h3:bI o x y=some v):ev P k (.bin o a e) fr=.ok v ak:=by rw[GF,h,aj,h2,aj,h3];rfl
theorem cD{o:aP}(h:ev P (kf a (bG e)) a fr=.ok x af)(h2:ev P true e af=.ok y ak)(h3:cop o x y=some b):ev P k (.cmp o a e) fr=.ok (.bl b) ak:=by rw[GG,h,aj,h2,aj,h3];rfl
theorem Lx(h:ev P true a fr=.ok (.bl b) af):ev P k (.nt a) fr=.ok (.bl (!b)) af:=by rw[IQ,h];rfl
theorem Ja{j:Int}(h:ev P true a fr=.ok (.int j) af):ev P k (.neg a) fr=.ok (.int (-j)) af:=by rw[GH,h];rfl
theorem Bd(h:ev P true a fr=.ok (.bl true) af)(h2:ev P k e af=.ok v ak):ev P k (.an a e) fr=.ok v ak:=by rw[IS,h,aj,GI];exact h2
theorem m9(h:av P a fr=.ok b af)(h2:b=true->ev P k e af=.ok v ak)(h3:b=false->ev P k c af=.ok v ak):ev P k (.fG a e c) fr=.ok v ak:=by
 rw[GJ,h,aj];cases b with
 |true=>exact h2 rfl
 |false=>exact h3 rfl
theorem ko(h:ev P (kf a (bG e)) a fr=.ok x af)(h2:ev P true e af=.ok y ak)(h3:eY x y=some v):ev P k (.ix a e) fr=.ok v ak:=by rw[IT,h,aj,h2,aj,h3];rfl
theorem lW{p q:Option Int}(h:ev P (kf a (iT lo++iT hi)) a fr=.ok x af)(h2:dU P lo af=.ok p ak)(h3:dU P hi ak=.ok q bw)(h4:fH x p q=some v):ev P k (.sl a lo hi) fr=.ok v bw:=by rw[IU,h,aj,h2,aj,h3,aj,h4];rfl
theorem eV{f:Nat}{as:List (Nat ⊕ V)}(h:cQ P es fr=.ok as af)(h2:dm P f as af=.ok v ak):ev P k (.cl f es) fr=.ok v ak:=by rw[IV,h,aj];exact h2
theorem gy{g:BI}(h:bz P true es fr=.ok vs af)(h2:dS g vs=some v):ev P k (.bi g es) fr=.ok v af:=by rw[IW,h,aj,h2];rfl
theorem Jb{m:ME}(hm:fW m=true)(hl:(lent fr i).isSome=true)(h:bz P (sV m) es fr=.ok vs af)(h2:lz m i vs af af[i]?=.ok v ak):ev P k (.me m (.v i) es) fr=.ok v ak:=by
 rw[GK hm,if_pos hl,h,aj,C5];exact h2
theorem Be{m:ME}(hm:fW m=false)(h:ev P (kf a (dR es)) a fr=.ok x af)(h2:bz P true es af=.ok vs ak)(h3:dZ m x vs=some v):ev P k (.me m a es) fr=.ok v ak:=by rw[GL hm,h,aj,h2,aj,h3];rfl
theorem Jc{ts:List TY}(h:ev P true a fr=.ok x af)(h2:ts.any (cz x)=b):ev P k (.eX a ts) fr=.ok (.bl b) af:=by rw[GN,h,aj,h2]
theorem G3{t:T}{cond:Eo}(h:b9 P true it fr=.ok vs af)(hu:undef t af=true)(h2:bZ (m7 P a t cond af) vs=some l)(h3:dX l=some v):ev P k (.comp a t it cond) fr=.ok v af:=by
 rw[nM,h,aj,if_pos hu,h2];show R.of (dX l) af=_;rw[h3];rfl
theorem Jd(h:b9 P true it fr=.ok vs af)(h2:dX vs=some v):ev P k (.gW it) fr=.ok v af:=by rw[GO,h,aj,h2];rfl
theorem G4{kvs:List (D×D)}(h:ev P true a fr=.ok x af)(h2:fS x kvs=some v):ev P k (.gQ kvs a) fr=.ok v af:=by rw[CS,h,aj,h2];rfl
theorem Bf(h:ev P true a fr=.ok x af)(h2:toT x=some v):ev P k (.gG a) fr=.ok v af:=by rw[GP,h,aj,h2];rfl
theorem bH:bz P k .nil fr=.ok [] fr:=CT
theorem aK(h:ev P (k&&kf a (dR es)) a fr=.ok v af)(h2:bz P k es af=.ok vs ak):bz P k (.cons a es) fr=.ok (v :: vs) ak:=by rw[zb,h,aj,h2];rfl
theorem cg:cQ P .nil fr=.ok [] fr:=CU
theorem bM{as:List (Nat ⊕ V)}(hi:ef fr a=none)(h:ev P false a fr=.ok v af)(h2:cQ P es af=.ok as ak):cQ P (.cons a es) fr=.ok (.inr v :: as) ak:=by rw[qX,hi,uN,h,aj,h2];rfl
theorem Ly{as:List (Nat ⊕ V)}(hi:ef fr a=some i)(h2:cQ P es fr=.ok as ak):cQ P (.cons a es) fr=.ok (.inl i :: as) ak:=by rw[qX,hi,uM,h2];rfl
theorem pU:dU P .no fr=.ok none fr:=GQ
theorem eZ{j:Int}(h:ev P true a fr=.ok (.int j) af):dU P (.yes a) fr=.ok (some j) af:=by rw[CV,h];rfl
theorem xj(h:av P a fr=.ok false af):av P (.an a e) fr=.ok false af:=by rw[w9,h];rfl
theorem xq{b2:Bool}(h:av P a fr=.ok true af)(h2:av P e af=.ok b2 ak):av P (.an a e) fr=.ok b2 ak:=by rw[w9,h];exact h2
theorem G5(h:av P a fr=.ok true af):av P (.orr a e) fr=.ok true af:=by rw[tO,h];rfl
theorem q8{b2:Bool}(h:av P a fr=.ok false af)(h2:av P e af=.ok b2 ak):av P (.orr a e) fr=.ok b2 ak:=by rw[tO,h];exact h2
theorem pV(h:av P a fr=.ok b af):av P (.nt a) fr=.ok (!b) af:=by rw[GS,h];rfl
noncomputable def plainT:E->Bool
 |.an _ _=>false
 |.orr _ _=>false
 |.nt _=>false
 |_=>true
theorem aV(hp:plainT a=true)(h:ev P true a fr=.ok x af)(h2:truthy x=b):av P a fr=.ok b af:=by
 have:av P a fr=(ev P true a fr).bind GU:=by
  cases a<;>first | (cases hp;done) | (rw[av];rfl;all_goals (intros;contradiction))
 rw[this,h,aj,CW,h2]
theorem jh(h:src k fr a (ev P k a fr)=.ok x af)(h2:eF x=some vs):b9 P k (.seq a) fr=.ok vs af:=by rw[CY,h,aj,h2];rfl
theorem ji(h:uG k fr i=some v){r:R V}:src k fr (.v i) r=.ok v fr:=by rw[IY,h];rfl
theorem xr(h:bz P true es fr=.ok vs af)(h2:dN vs=some l):b9 P k (.gj es) fr=.ok l af:=by rw[CZ,h,aj,h2];rfl
theorem bx(h:ev P false a fr=.ok v af)(hn:isNew a=false)(hp:put af i (.val v)=some ak)(q:Q .nx ak):Wp (ex P w (.set i a) fr) Q:=by
 rw[xg,h,aj,hn,hp];exact⟨_,_,rfl,q⟩
theorem ng(h:ev P false a fr=.ok (.lst l) af)(hn:isNew a=true)(hp:put af i (.own l)=some ak)(q:Q .nx ak):Wp (ex P w (.set i a) fr) Q:=by
 rw[xg,h,aj,hn,if_pos rfl,zc,hp];exact⟨_,_,rfl,q⟩
theorem jx(h:ev P true a fr=.ok v af)(q:Q .nx af):Wp (ex P w (.exp a) fr) Q:=by rw[GW,h];exact⟨_,_,rfl,q⟩
theorem dh(h:ev P false a (eG fr)=.ok v af)(q:Q (.ret v) af):Wp (ex P w (.ret a) fr) Q:=by rw[GY,h];exact⟨_,_,rfl,q⟩
theorem aX(h:av P a fr=.ok b af)(h2:b=true->Wp (exs P w sa af) Q)(h3:b=false->Wp (exs P w sb af) Q):Wp (ex P w (.iff a sa sb) fr) Q:=by
 rw[GZ,h,aj];cases b with
 |true=>exact h2 rfl
 |false=>exact h3 rfl
theorem aB(q:Q .nx fr):Wp (exs P w .nil fr) Q:=by rw[C4];exact⟨_,_,rfl,q⟩
noncomputable def nx(P:ay)(w:Nat)(ss:Ss)(Q:Fl->Fr->Prop):Fl->Fr->Prop
 |.nx,fr=>Wp (exs P w ss fr) Q
 |g,fr=>Q g fr
theorem ao(q:Wp (ex P w st fr) (nx P w ss Q)):Wp (exs P w (.cons st ss) fr) Q:=by
 rw[zd,wp_bind];refine q.mono λg af z=>?_;cases g with
 |nx=>exact z
 |bk=>exact⟨_,_,rfl,z⟩
 |ct=>exact⟨_,_,rfl,z⟩
 |ret v=>exact⟨_,_,rfl,z⟩
theorem jy{t:T}(h:b9 P false it (kL (itv it) fr)=.ok vs af)(q:Wp (forL (turnF P w t ss) vs af) Q):Wp (ex P w (.for t it ss) fr) Q:=by rw[qp,h,aj];exact q
theorem cO{t:T}{d:V}(hb:aZ t d fr=some af)(q:Wp (exs P w ss af) Q):Wp (turnF P w t ss d fr) Q:=by unfold turnF;rw[hb];exact q
theorem G6{t:T}{d:V}(hb:aZ t d (qL fr)=some af)(h:ev P false a af=.ok v ak):m7 P a t .no fr d=some (some v):=by
 unfold m7;rw[hb];dsimp only;rw[GR];dsimp only;rw[h];rfl
theorem iV{p q:List Nat}:cop .eq (.str p) (.str q)=some (decide (p=q)):=nY
theorem g6{p q:List Nat}:cop .ne (.str p) (.str q)=some (!decide (p=q)):=by rw[qW,nY];rfl
theorem uR{p q:Int}:cop .eq (.int p) (.int q)=some (decide (p=q)):=tM
theorem Je{p q:Int}:cop .ne (.int p) (.int q)=some (!decide (p=q)):=by rw[qW,tM];rfl
theorem Lz{p q:Int}:cop .lt (.int p) (.int q)=some (decide (p<q)):=rfl
theorem LA{p q:Int}:cop .gt (.int p) (.int q)=some (decide (q<p)):=rfl
theorem kN{p q:Int}(h:bL p q=true):bI .mul (.int p) (.int q)=some (.int (p*q)):=by rw[lV,if_pos h]
theorem kO{p q:Int}(h:0<q):bI .mod (.int p) (.int q)=some (.int (p % q)):=by rw[CO,if_pos h]
theorem pW{p q:Int}(h:0<q)(h2:q<1073741824):bI .fdiv (.int p) (.int q)=some (.int (p / q)):=by rw[y9,if_pos ⟨h,h2⟩]
end
theorem iI{fr:Fr}{i:Nat}{s:Sl}{o:Option Sl}(e:fr[i]?=some o)(h:vo o):put fr i s=some (fr.set i (some s)):=by rw[G1,e,G2 h]
theorem g7{fr:Fr}{i j:Nat}{u v:V}{a b:Option Sl}(ea:fr[i]?=some a)(ha:vo a)(eb:(fr.set i (some (.val u)))[j]?=some b)(hb:vo b):aZ (.many [i,j]) (.tup [u,v]) fr=some ((fr.set i (some (.val u))).set j (some (.val v))):=by
 simp only[uO,rP,uP,iI ea ha,Option.bind,iI eb hb]
theorem bind1{fr:Fr}{i:Nat}{v:V}{a:Option Sl}(ea:fr[i]?=some a)(ha:vo a):aZ (.one i) v fr=some (fr.set i (some (.val v))):=iI ea ha
end Pv
namespace Pv
open Ev (D O Hh aU aP TY BI ME T E Es Eo It S Ss Fn)
section
variable{P:ay}{X:bS}{w:Nat}(hX:∀f sl c,X f sl=some c->P f sl=none)
include hX
mutual
theorem cY:∀(e:E) {fr:Fr}{c:Nat},xe P X e fr=some c->(∀k,ev P k e fr=.bad)/\av P e fr=.bad
 |.cl f es,fr,c,z=>by
  simp only[xe]at z;have q:∀k,ev P k (.cl f es) fr=.bad:=λk=>by
   rw[ev];cases y:cQ P es fr with
   |ok as af=>
    rw[y]at z;simp only at z;simp only[aj];unfold uI at z;unfold dm;split at z
    case isFalse=>cases z
    rename_i nd;rw[if_pos nd];rw[Option.bind_eq_some_iff]at z;obtain⟨sl,z1,z2⟩:=z;rw[z1];simp only;rw[hX _ _ _ z2]
   |bad=>rfl
  exact⟨q,by rw[av,q];rfl;all_goals (intros;contradiction)⟩
 |.ix a b,fr,c,z=>by
  simp only[xe]at z;have q:∀k,ev P k (.ix a b) fr=.bad:=λk=>by rw[ev,(cY a z).1];rfl
  exact⟨q,by rw[av,q];rfl;all_goals (intros;contradiction)⟩
 |.me m o es,fr,c,z=>by
  simp only[xe]at z;split at z
  case isFalse=>cases z
  rename_i hm;split at z
  case h_2=>cases z
  rename_i i hi;have q:∀k,ev P k (.me m o es) fr=.bad:=λk=>by
   rw[ev,if_pos hm,hi];simp only;rw[tQ es z];rfl
  exact⟨q,by rw[av,q];rfl;all_goals (intros;contradiction)⟩
 |.c _,_,_,z=>nomatch z|.v _,_,_,z=>nomatch z|.tup _,_,_,z=>nomatch z|.lst _,_,_,z=>nomatch z
 |.bin _ _ _,_,_,z=>nomatch z|.cmp _ _ _,_,_,z=>nomatch z
 |.nt _,_,_,z=>nomatch z|.neg _,_,_,z=>nomatch z|.an _ _,_,_,z=>nomatch z|.orr _ _,_,_,z=>nomatch z|.fG _ _ _,_,_,z=>nomatch z
 |.sl _ _ _,_,_,z=>nomatch z
 |.bi _ _,_,_,z=>nomatch z
 |.eX _ _,_,_,z=>nomatch z
 |.comp _ _ _ _,_,_,z=>nomatch z|.gW _,_,_,z=>nomatch z
 |.gQ _ _,_,_,z=>nomatch z|.gG _,_,_,z=>nomatch z
theorem tR:∀(es:Es) {fr:Fr}{c:Nat},qM P X es fr=some c->cQ P es fr=.bad
 |.nil,_,_,z=>nomatch z
 |.cons e es,fr,c,z=>by
  simp only[qM]at z;rw[cQ];split at z
  .rw[tR es z];rfl
  .split at z
   .rename_i y2;rw[y2];simp only[aj];rw[tR es z];rfl
   .rw[(cY e z).1];rfl
theorem tQ:∀(es:Es) {k:Bool}{fr:Fr}{c:Nat},sW P X k es fr=some c->bz P k es fr=.bad
 |.nil,_,_,_,z=>nomatch z
 |.cons e es,k,fr,c,z=>by
  simp only[sW]at z;rw[bz];split at z
  .rename_i y2;rw[y2];simp only[aj];rw[tQ es z];rfl
  .rw[(cY e z).1];rfl
end
omit hX in
theorem fz{f:V->Fr->R Fl}{g:V->Fr->Option Nat}(hg:∀d fr c,g d fr=some c->f d fr=.bad):∀(vs:List V) {fr:Fr}{c:Nat},dO f g vs fr=some c->forL f vs fr=.bad
 |[],_,_,z=>nomatch z
 |d :: ds,fr,c,z=>by
  simp only[dO]at z;simp only[forL];split at z
  .rename_i e;rw[e];exact fz hg ds z
  .rename_i e;rw[e];exact fz hg ds z
  .cases z
  .rw[hg _ _ _ z];rfl
omit hX in
theorem fC{t:Fr->R Bool}{f:Fr->R Fl}{g:Fr->Option Nat}(hg:∀fr c,g fr=some c->f fr=.bad):∀(n:Nat) {fr:Fr}{c:Nat},ee t f g n fr=some c->dB t f n fr=.bad
 |0,_,_,z=>nomatch z
 |n+1,fr,c,z=>by
  simp only[ee]at z;split at z
  case h_2=>cases z
  rename_i e0;simp only[dB,e0,aj,if_true];split at z
  .rename_i e;rw[e];exact fC hg n z
  .rename_i e;rw[e];exact fC hg n z
  .cases z
  .rw[hg _ _ z];rfl
mutual
theorem jY:∀(s:S) {fr:Fr}{c:Nat},xs P X w s fr=some c->ex P w s fr=.bad
 |.cX c,_,_,_=>by rw[ex]
 |.set i e,fr,c,z=>by rw[ex,(cY hX e z).1];rfl
 |.exp e,fr,c,z=>by rw[ex,(cY hX e z).1];rfl
 |.ret e,fr,c,z=>by rw[ex,(cY hX e z).1];rfl
 |.iff t a b,fr,c,z=>by
  simp only[xs]at z;rw[ex];cases y:av P t fr with
  |bad=>rfl
  |ok k h1=>
   rw[y]at z;simp only at z;simp only[aj];cases k with
   |true=>exact cA a z
   |false=>exact cA b z
 |.for t it b,fr,c,z=>by
  simp only[xs]at z;rw[ex];split at z
  case h_2=>cases z
  rename_i y;rw[y];simp only[aj];refine fz (λd fr c q=>?_) _ z;cases k:aZ t d fr with
  |none=>rfl
  |some bw=>rw[k]at q;exact cA b q
 |.jU t b,fr,c,z=>by
  simp only[xs]at z;rw[ex];exact fC (λfr c q=>cA b q) _ z
 |.jT _ _,_,_,z=>nomatch z
 |.tr _ _ _,_,_,z=>nomatch z
theorem cA:∀(s:Ss) {fr:Fr}{c:Nat},xss P X w s fr=some c->exs P w s fr=.bad
 |.nil,_,_,z=>nomatch z
 |.cons s ss,fr,c,z=>by
  simp only[xss]at z;rw[exs];split at z
  .rename_i e;rw[e];exact cA ss z
  .cases z
  .rw[jY s z];rfl
end
end
theorem Jf{P:ay}{X:bS}{w:Nat}{fn:Fn}{ds:List Sl}{fr:Fr}{c:Nat}(z:xss P X w fn.body fr=some c):wF fn ds=none:=by
 unfold wF;rfl
theorem iL(F:List Fn)(w:Nat):∀(n f:Nat) (sl:List Sl) (c:Nat),cL F w n f sl=some c->run F w n f sl=none
 |0,_,_,_,_=>rfl
 |n+1,f,ds,c,z=>by
  rw[fT]at z;rw[dW];cases y:F[f]? with
  |none=>rw[y]at z;cases z
  |some fn=>
   rw[y]at z;simp only at z ⊢;split at z
   .rename_i k;rw[if_pos k,cA (iL F w n) _ z];exact Jf z
   .cases z
section
variable{F:List Fn}{P:ay}{X:bS}{w n f c:Nat}{fr af ak:Fr}{s:S}{ss sa sb:Ss}{e t:E}{b:Bool}{es:Es}{v:V}
theorem xu(hX:∀f sl c,X f sl=some c->P f sl=none)(h:xs P X w s fr=some c):xss P X w (.cons s ss) fr=some c:=by
 simp only[xss,jY hX s h];exact h
theorem Jg(h:av P t fr=.ok b af)(h2:(if b then xss P X w sa af else xss P X w sb af)=some c):xs P X w (.iff t sa sb) fr=some c:=by
 simp only[xs,h];exact h2
theorem Jh:xs P X w (.cX c) fr=some c:=rfl
theorem Ji{fn:Fn}{ds:List Sl}(hf:F[f]?=some fn)(hl:ds.length=fn.np)(h:xss (run F w n) (cL F w n) w fn.body (cK fn ds)=some c):cL F w (n+1) f ds=some c:=by
 rw[fT,hf];simp only;rw[if_pos hl];exact h
theorem jj:∀vs:List V,bf (vs.map .inr)=[]/\args fr (vs.map .inr)=some (vs.map Sl.val)
 |[]=>⟨rfl,rfl⟩
 |v :: vs=>⟨(jj vs).1,by rw[List.map_cons,args,(jj vs).2];rfl⟩
theorem uS{vs:List V}(h:P f (vs.map .val)=none):dm P f (vs.map .inr) fr=.bad:=by
 have h1:=jj (fr:=fr);unfold dm;rw[(h1 vs).1,(h1 vs).2];simp only[h];rfl
theorem Jj{ds:List Sl}(hF:F.length<=1000)(ha:ds.all Sl.ef=true)(h:cL F w n f ds=some c):run F w n (f+1000) ds=some (.int (c:Int),[]):=by
 cases n with
 |zero=>cases h
 |succ n=>
  rw[dW,List.getElem?_eq_none (by omega)];simp only[jG];rw[if_pos ⟨Nat.le_add_left _ _,ha⟩,show f+1000 - Ev.xo=f from Nat.add_sub_cancel ..];rw[h];rfl
theorem Jk{Q:Fl->Fr->Prop}{vs:List V}{kk:Nat}(h:cQ P es fr=.ok (vs.map .inr) af)(h2:P f (vs.map .val)=some (v,[]))(q:Q (.ret v) af):Wp (ex P w (.tr f kk es) fr) Q:=by
 have hl:=λvs=>(jj (fr:=fr) vs).1;have:=gH (P:=P) (f:=f) (fr:=af) h2;simp only[ex,h,aj,hl,this];exact⟨_,_,rfl,q⟩
theorem G7{Q:Fl->Fr->Prop}{vs:List V}{kk:Nat}(h:cQ (run F w n) es fr=.ok (vs.map .inr) af)(hF:F.length<=1000)(h2:cL F w n f (vs.map .val)=some c)(hc:c<kk)(q:Q (.ret (.tup [.str [114,101,102,117,115,101,100],.int (c:Int)])) af):Wp (ex (run F w n) w (.tr f kk es) fr) Q:=by
 have hl:=λvs=>(jj (fr:=fr) vs).1;have ha:(vs.map Sl.val).all Sl.ef=true:=by simp[Sl.ef]
 have h3:=uS (P:=run F w n) (f:=f) (fr:=af) (iL F w n f _ c h2);have h4:=gH (P:=run F w n) (f:=f+1000) (fr:=af) (Jj hF ha h2);have h5:uH kk (.int (c:Int))=some (.tup [.str [114,101,102,117,115,101,100],.int (c:Int)]):=by simp only[uH];rw[if_pos (by omega)]
 simp only[ex,h,aj,hl,h3];show Wp ((dm (run F w n) (f+1000) (vs.map .inr) af).bind _) Q;rw[h4,aj,h5];exact⟨_,_,rfl,q⟩
end
end Pv
local macro_rules|`(tactic|array_get_dec)=>`(tactic|first
 |exact Pv.bH|exact Pv.cg|exact Pv.pU
 | (apply Pv.aF;rfl) | (apply Pv.bF;rfl)|apply Pv.aW|apply Pv.cD|apply Pv.gE|apply Pv.uQ|apply Pv.ko|apply Pv.lW|apply Pv.eV|apply Pv.gy
 |apply Pv.Lx|apply Pv.Ja|apply Pv.Bf|apply Pv.Jd  | (apply Pv.Jb rfl rfl) | (apply Pv.Be rfl)|apply Pv.G4
 |apply Pv.aK | (apply Pv.bM rfl) | (apply Pv.Ly rfl)|apply Pv.eZ|apply Pv.pV|apply Pv.aV rfl
 |exact Pv.IK|exact Pv.pQ|exact Pv.Bb|exact Pv.IP|exact Pv.Ba|exact Pv.IL|exact Pv.IM
 | (with_reducible assumption)|exact Pv.bV|exact Pv.yY|exact Pv.iV|exact Pv.g6|exact Pv.uR|exact Pv.Je|exact Pv.Lz  | exact Pv.LA
 | (show Pv.truthy _=_;rfl) | (show Pv.eY _ _=some _;rfl) | (show Pv.toT _=some _;rfl) | (show Pv.fS _ _=some _;rfl) | (show Pv.eF _=some _;rfl)|assumption)
namespace Pv
open Ev (D aU aP TY BI ME T E Es Eo It S Ss Fn big deep b2i rep bL cT bh aD cut bO cP slots)
theorem G8(a b:Int):bL (a % 2147483563) b=true:=by have h1:=Int.emod_nonneg a (b:=2147483563) (by decide);have h2:=Int.emod_lt_of_pos a (b:=2147483563) (by decide);simp[bL];omega
theorem LC(a b:Int):bL (a % 2147483399) b=true:=by have h1:=Int.emod_nonneg a (b:=2147483399) (by decide);have h2:=Int.emod_lt_of_pos a (b:=2147483399) (by decide);simp[bL];omega
theorem G9{l:List V}{j:Int}{v:V}(h:bh l j=some v):eY (.bq l) (.int j)=some v:=h
theorem Hf{l m:List V}:cop .eq (.bq l) (.lst m)=bU (fJ (18+1)) l m:=rfl
theorem ze{F:List Fn}{w n c:Nat}(hc:F[c]?=some pR){ns:List Int}(hn:ns.length<=63)(k:Int):run F w (n+1) c [.val (gb ns),.val (.int k)]=some (.int (pT ns k),[]):=by
 refine cR hc rfl (ao (aX (b:=decide (ns=[])) (aV rfl (cD (aF rfl) (uQ bH Ba) (Hf.trans (C7 ns))) rfl) (λh=>?_) λh=>aB ?_))
 .have h0:=of_decide_eq_true h;exact ao (dh (aW (bF rfl) (aF rfl) (kN rfl)) ⟨by rw[pT,if_pos h0],rfl⟩)
 .have h0:=of_decide_eq_false h;have hlen:0<ns.length:=List.length_pos_iff.mpr h0;have Kl:(0:Int)<(ns.map V.int).length:=by rw[List.length_map];exact Int.natCast_pos.mpr hlen
  have h30:((ns.map V.int).length:Int)<1073741824:=by rw[List.length_map];omega
  have hm0:=Int.emod_nonneg k (b:=(ns.length:Int)) (by omega);have hlt:(k % (ns.length:Int)).toNat<ns.length:=by have:=Int.emod_lt_of_pos k (b:=(ns.length:Int)) (by omega);omega
  have hx:bh (ns.map V.int) (k % ((ns.map V.int).length:Int))=some (.int (ns[(k % (ns.length:Int)).toNat]?.getD 0)):=by
   rw[List.length_map,qY hm0,List.getElem?_map,List.getElem?_eq_getElem hlt];rfl
  refine ao (dh (aW (ko (aF rfl) (aW (aF rfl) (gy (aK (aF rfl) bH) tN) (kO Kl)) (G9 hx)) (aW (bF rfl) (aW (aF rfl) (gy (aK (aF rfl) bH) tN) (pW Kl h30)) (kN rfl)) bV) ⟨?_,rfl⟩);rw[pT,if_neg h0,List.length_map]
theorem er{F:List Fn}{w n c dr:Nat}(hc:F[c]?=some pR)(hd:F[dr]?=some (qZ c)){ns:List Int}(hn:ns.length<=63)(k:Int){many:Int}(hm:0<many):run F w (n+2) dr [.val (gb ns),.val (.int k),.val (.int many)]=some (.int (bT ns k many),[]):=by
 refine cR hd rfl (ao (bx (aW (aW (aW (aW (eV (bM rfl (aF rfl) (bM rfl (aF rfl) cg)) (call2 (ze hc hn k))) (bF rfl) (kO (by decide))) (bF rfl) (kN (G8 _ _))) (aW (bF rfl) (aW (aF rfl) (bF rfl) bV) (kN rfl)) bV) (bF rfl) (kO (by decide))) rfl rfl ?_));refine ao (bx (aW (aW (aW (aF rfl) (aF rfl) (kN (G8 _ _))) (aW (aF rfl) (bF rfl) (pW (by decide) (by decide))) bV) (bF rfl) (kO (by decide))) rfl rfl ?_);exact ao (dh (aW (aW (aW (aW (aW (aF rfl) (aF rfl) (kN (LC _ _))) (aW (aF rfl) (bF rfl) (pW (by decide) (by decide))) bV) (bF rfl) (kO (by decide))) (bF rfl) (pW (by decide) (by decide))) (aF rfl) (kO hm)) ⟨rfl,rfl⟩)
noncomputable def fText(dr:Nat):Fn:=⟨3,4,(.cons (.ret (.me .join (.c (.str [])) (.cons (.comp (.ix (.c (.str [97,98,99,32])) (.cl dr (.cons (.v 0) (.cons (.bin .add (.bin .add (.v 1) (.c (.int 1))) (.v 3)) (.cons (.c (.int 4)) .nil))))) (.one 3) (.gj (.cons (.cl dr (.cons (.v 0) (.cons (.v 1) (.cons (.bin .add (.v 2) (.c (.int 1))) .nil)))) .nil)) .no) .nil))) .nil)⟩
noncomputable def Bg(dr:Nat):S:=.iff (.cmp .eq (.cl dr (.cons (.v 0) (.cons (.bin .add (.v 1) (.bin .mul (.c (.int 4)) (.v 4))) (.cons (.c (.int 4)) .nil)))) (.c (.int 0))) (.cons (.set 5 (.bin .mul (.ix (.c (.str [97,98,122])) (.cl dr (.cons (.v 0) (.cons (.bin .add (.bin .add (.v 1) (.bin .mul (.c (.int 4)) (.v 4))) (.c (.int 1))) (.cons (.c (.int 3)) .nil))))) (.bin .add (.c (.int 1)) (.cl dr (.cons (.v 0) (.cons (.bin .add (.bin .add (.v 1) (.bin .mul (.c (.int 4)) (.v 4))) (.c (.int 2))) (.cons (.c (.int 2)) .nil))))))) (.cons (.set 3 (.bin .add (.v 3) (.tup (.cons (.tup (.cons (.c (.str [112,117,116])) (.cons (.v 5) .nil))) .nil)))) .nil)) .nil
noncomputable def Bh(dr:Nat):S:=.iff (.cmp .lt (.v 4) (.bi .len (.cons (.v 2) .nil))) (.cons (.set 6 (.cmp .gt (.cl dr (.cons (.v 0) (.cons (.bin .add (.bin .add (.v 1) (.bin .mul (.c (.int 4)) (.v 4))) (.c (.int 3))) (.cons (.c (.int 3)) .nil)))) (.c (.int 0)))) (.cons (.set 3 (.bin .add (.v 3) (.tup (.cons (.fG (.v 6) (.tup (.cons (.c (.str [107,101,101,112])) (.cons (.c (.int 1)) .nil))) (.tup (.cons (.c (.str [100,114,111,112])) (.cons (.ix (.v 2) (.v 4)) .nil)))) .nil)))) .nil)) .nil
noncomputable def C8(dr:Nat):Fn:=⟨3,7,(.cons (.set 3 (.tup .nil)) (.cons (.for (.one 4) (.gj (.cons (.bin .add (.bi .len (.cons (.v 2) .nil)) (.c (.int 1))) .nil)) (.cons (Bg dr) (.cons (Bh dr) .nil))) (.cons (.ret (.v 3)) .nil)))⟩
inductive Pt where
 |keep (n:Nat)|put (s:List Nat)|drop (s:List Nat)
deriving DecidableEq
noncomputable def dw:List Nat:=[107,101,101,112]
noncomputable def kq:List Nat:=[112,117,116]
noncomputable def iM:List Nat:=[100,114,111,112]
noncomputable def Pt.v:Pt->V
 |.keep n=>.tup [.str dw,.int n]
 |.put s=>.tup [.str kq,.str s]
 |.drop s=>.tup [.str iM,.str s]
noncomputable def bu(c:List Pt):V:=.tup (c.map Pt.v)
noncomputable def txt(ns:List Int)(at_ most:Int):List Nat:=(List.range (bT ns at_ (most+1)).toNat).map λ(k:Nat)=>[97,98,99,32].getD (bT ns (at_+1+k) 4).toNat 0
theorem tS(ns:List Int)(at_:Int){most:Int}(h:0<=most):(txt ns at_ most).length<=most.toNat:=by
 unfold txt;have h1:=iH ns at_ (many:=most+1) (by omega);have h2:=iG ns at_ (many:=most+1) (by omega);simp;omega
theorem getD_at{α:Type}{l:List α}{i:Int}(h0:0<=i)(h1:i<l.length)(d:α):bh l i=some (l.getD i.toNat d):=by
 have:i.toNat<l.length:=by omega
 rw[qY h0];simp[List.getD,List.getElem?_eq_getElem this]
theorem lA{α β:Type}(l:List α)(f:α->β):(l.map λx=>[f x]).flatten=l.map f:=by induction l<;>simp[*]
theorem xx(lo:Int)(n:Nat):range lo n=(List.range n).map λ(i:Nat)=>V.int (lo+i):=rfl
section
variable{F:List Fn}{w n c dr t:Nat}(hc:F[c]?=some pR)(hd:F[dr]?=some (qZ c)){ns:List Int}(hn:ns.length<=63)
include hc hd hn
theorem q9(ht:F[t]?=some (fText dr))(k most:Int)(hm:0<=most)(hm2:most<=1000):run F w (n+3) t [.val (gb ns),.val (.int k),.val (.int most)]=some (.str (txt ns k most),[]):=by
 have b0:=iG ns k (many:=most+1) (by omega);have b1:=iH ns k (many:=most+1) (by omega);have d0:=λfr=>eK (fr:=fr) (er (w:=w) (n:=n) hc hd hn k (many:=most+1) (by omega));have Jl:bZ (m7 (run F w (n+2)) (.ix (.c (.str [97,98,99,32])) (.cl dr (.cons (.v 0) (.cons (.bin .add (.bin .add (.v 1) (.c (.int 1))) (.v 3)) (.cons (.c (.int 4)) .nil))))) (.one 3) .no [some (.val (gb ns)),some (.val (.int k)),some (.val (.int most)),none]) (range 0 (bT ns k (most+1)).toNat)=some (((List.range (bT ns k (most+1)).toNat).map λ(j:Nat)=>[[97,98,99,32].getD (bT ns (k+1+j) 4).toNat 0]).map V.str):=by
  rw[xx,List.map_map];refine wZ _ _ _ λj _=>?_;have d1:=λfr=>eK (fr:=fr) (er (w:=w) (n:=n) hc hd hn (k+1+j) (many:=4) (by decide));have ix:eY (.str [97,98,99,32]) (.int (bT ns (k+1+j) 4))=some (.str [[97,98,99,32].getD (bT ns (k+1+j) 4).toNat 0]):=by
   rw[nZ,getD_at (l:=[97,98,99,32]) (iG ns (k+1+j) (many:=4) (by decide)) (iH ns (k+1+j) (many:=4) (by decide)) 0];rfl
  rw[show(0:Int)+(j:Int)=j from Int.zero_add _];exact G6 rfl (by (repeat (first|array_get_dec|exact d1 _)))
 have hj:=Bc (l:=(List.range (bT ns k (most+1)).toNat).map λ(j:Nat)=>[[97,98,99,32].getD (bT ns (k+1+j) 4).toNat 0]) (by rw[lA];simp;omega);rw[lA]at hj;have NX:dX (((List.range (bT ns k (most+1)).toNat).map λ(j:Nat)=>[[97,98,99,32].getD (bT ns (k+1+j) 4).toNat 0]).map V.str)=some (.lst _):=m5 (cZ (by simp;omega));have rg:=GB b0 (show bT ns k (most+1)<=100000 by omega);refine cR ht rfl (ao (dh (Be rfl (bF rfl) (aK (G3 (xr (by (repeat (first|array_get_dec|exact d0 _))) rg) rfl Jl NX) bH) hj) ⟨rfl,rfl⟩))
end
noncomputable def jz(ns:List Int)(at_:Int)(s:List Nat)(k:Nat):List Pt:=
 (if bT ns (at_+4*k) 4=0 then [.put (rep (1+bT ns (at_+4*k+2) 2).toNat [[97,98,122].getD (bT ns (at_+4*k+1) 3).toNat 0])]else [])++
 (match s[k]? with
 |some c=>[if 0<bT ns (at_+4*k+3) 3 then .keep 1 else .drop [c]]
 |none=>[])
noncomputable def eO(ns:List Int)(at_:Int)(s:List Nat)(k:Nat):List Pt:=(List.range k).flatMap (jz ns at_ s)
noncomputable def chg(ns:List Int)(at_:Int)(s:List Nat):List Pt:=eO ns at_ s (s.length+1)
theorem xy(ns:List Int)(at_:Int)(s:List Nat)(k:Nat):(jz ns at_ s k).length<=2:=by
 unfold jz;split<;>split<;>simp
theorem jA(ns:List Int)(at_:Int)(s:List Nat)(k:Nat):eO ns at_ s (k+1)=eO ns at_ s k++jz ns at_ s k:=by simp[eO,List.range_succ]
theorem ku(ns:List Int)(at_:Int)(s:List Nat):∀k,(eO ns at_ s k).length<=2*k
 |0=>by simp[eO]
 |k+1=>by
  have h1:=xy ns at_ s k;have h2:=ku ns at_ s k;rw[jA,List.length_append];omega
theorem Hg(i:Int):bL 4 i=true:=by simp[bL]
theorem uT{a b:List Pt}(h:a.length+b.length<=100000):bI .add (bu a) (bu b)=some (bu (a++b)):=by
 simp only[bu];rw[yX (by simpa using h)];simp
theorem LF{j:Int}{n:Nat}(h:n<=100000)(e:j=n):dN [.int j]=some (range 0 n):=by
 subst e;rw[GB (by omega) (by omega)];rfl
theorem C9{a:List Pt}{s:List Nat}(h:a.length<100000):bI .add (bu a) (.tup [.tup [.str [112,117,116],.str s]])=some (bu (a++[.put s])):=uT (a:=a) (b:=[.put s]) (by simp;omega)
theorem zf{a:List Pt}{s:List Nat}(h:a.length<100000):bI .add (bu a) (.tup [.tup [.str [100,114,111,112],.str s]])=some (bu (a++[.drop s])):=uT (a:=a) (b:=[.drop s]) (by simp;omega)
theorem zg{a:List Pt}(h:a.length<100000):bI .add (bu a) (.tup [.tup [.str [107,101,101,112],.int 1]])=some (bu (a++[.keep 1])):=uT (a:=a) (b:=[.keep 1]) (by simp;omega)
section
variable{F:List Fn}{w n c dr t:Nat}(hc:F[c]?=some pR)(hd:F[dr]?=some (qZ c)){ns:List Int}(hn:ns.length<=63)
include hc hd hn
theorem zh(k:Int)(x:V)(fd:List Pt)(j:Nat)(u v:Option Sl)(hu:vo u)(hfd:fd.length<=10000) :
  Wp (ex (run F w (n+2)) w (Bg dr) [some (.val (gb ns)),some (.val (.int k)),some (.val x),some (.val (bu fd)),some (.val (.int j)),u,v]) λg fr=>g=.nx/\∃b,vo b/\fr=[some (.val (gb ns)),some (.val (.int k)),some (.val x),some (.val (bu (fd++if bT ns (k+4*j) 4=0 then [.put (rep (1+bT ns (k+4*j+2) 2).toNat [[97,98,122].getD (bT ns (k+4*j+1) 3).toNat 0])]else []))),some (.val (.int j)),b,v]:=by
 have d1:=λfr=>eK (fr:=fr) (er (w:=w) (n:=n) hc hd hn (k+4*j) (many:=4) (by decide));have m4:bI .mul (.int 4) (.int j)=some (.int (4*j)):=by rw[lV,Hg];rfl
 refine aX (by (repeat (first|array_get_dec|exact d1 _))) (λh=>?_) λh=>?_
 .have h0:=of_decide_eq_true h;have d2:=λfr=>eK (fr:=fr) (er (w:=w) (n:=n) hc hd hn (k+4*j+1) (many:=3) (by decide));have d3:=λfr=>eK (fr:=fr) (er (w:=w) (n:=n) hc hd hn (k+4*j+2) (many:=2) (by decide));have c2:=iG ns (k+4*j+2) (many:=2) (by decide);have c3:=iH ns (k+4*j+2) (many:=2) (by decide);have ix:eY (.str [97,98,122]) (.int (bT ns (k+4*j+1) 3))=some (.str [[97,98,122].getD (bT ns (k+4*j+1) 3).toNat 0]):=by
   rw[nZ,getD_at (l:=[97,98,122]) (iG ns (k+4*j+1) (many:=3) (by decide)) (iH ns (k+4*j+1) (many:=3) (by decide)) 0];rfl
  have ml:=yZ (j:=1+bT ns (k+4*j+2) 2) (a:=[[97,98,122].getD (bT ns (k+4*j+1) 3).toNat 0]) (by omega) (by omega) (by simp);have ad:=C9 (a:=fd) (s:=rep (1+bT ns (k+4*j+2) 2).toNat [[97,98,122].getD (bT ns (k+4*j+1) 3).toNat 0]) (by omega);refine ao (bx (by (repeat (first|array_get_dec|exact d2 _|exact d3 _))) rfl (iI rfl hu) ?_);refine ao (bx (by repeat array_get_dec) rfl rfl (aB ?_));rw[if_pos h0];exact⟨rfl,_,.val,rfl⟩
 .have h0:=of_decide_eq_false h;rw[if_neg h0,List.append_nil];exact aB ⟨rfl,u,hu,rfl⟩
theorem zj(k:Int)(x:List Nat)(hx:x.length<=1000)(fd:List Pt)(j:Nat)(u v:Option Sl)(hv:vo v)(hfd:fd.length<=10000) :
  Wp (ex (run F w (n+2)) w (Bh dr) [some (.val (gb ns)),some (.val (.int k)),some (.val (.str x)),some (.val (bu fd)),some (.val (.int j)),u,v]) λg fr=>g=.nx/\∃b,vo b/\fr=[some (.val (gb ns)),some (.val (.int k)),some (.val (.str x)),some (.val (bu (fd++match x[j]? with
     |some c=>[if 0<bT ns (k+4*j+3) 3 then .keep 1 else .drop [c]]
     |none=>[]))),some (.val (.int j)),u,b]:=by
 have ln:dS .len [.str x]=some (.int (x.length:Nat)):=len_str (by omega);refine aX (by repeat array_get_dec) (λh=>?_) λh=>?_
 .have hlt:j<x.length:=by have:=of_decide_eq_true h;omega
  have d1:=λfr=>eK (fr:=fr) (er (w:=w) (n:=n) hc hd hn (k+4*j+3) (many:=3) (by decide));have m4:bI .mul (.int 4) (.int j)=some (.int (4*j)):=by rw[lV,Hg];rfl
  have hg:x[j]?=some x[j]:=List.getElem?_eq_getElem hlt;have ix:eY (.str x) (.int j)=some (.str [x[j]]):=by rw[nZ,sA,hg];rfl
  rw[hg];refine ao (bx (by (repeat (first|array_get_dec|exact d1 _))) rfl (iI rfl hv) ?_);by_cases hk:0<bT ns (k+4*j+3) 3
  .have ad:=zg (a:=fd) (by omega);have ht:truthy (.bl (decide (0<bT ns (k+4*j+3) 3)))=true:=decide_eq_true hk;refine ao (bx (aW (aF rfl) (gE (aK (m9 (b:=true) (aV rfl (aF rfl) ht) (λ_=>by repeat array_get_dec) λh=>absurd h (by decide)) bH) pQ) ad) rfl rfl (aB ?_));refine⟨rfl,some (.val (.bl (decide (0<bT ns (k+4*j+3) 3)))),.val,?_⟩;simp only[if_pos hk];rfl
  .have ad:=zf (a:=fd) (s:=[x[j]]) (by omega);have ht:truthy (.bl (decide (0<bT ns (k+4*j+3) 3)))=false:=decide_eq_false hk;refine ao (bx (aW (aF rfl) (gE (aK (m9 (b:=false) (aV rfl (aF rfl) ht) (λh=>absurd h (by decide)) λ_=>by repeat array_get_dec) bH) pQ) ad) rfl rfl (aB ?_));refine⟨rfl,some (.val (.bl (decide (0<bT ns (k+4*j+3) 3)))),.val,?_⟩;simp only[if_neg hk];rfl
 .have hlt:¬ j<x.length:=by have:=of_decide_eq_false h;omega
  rw[List.getElem?_eq_none (by omega),List.append_nil];exact aB ⟨rfl,v,hv,rfl⟩
theorem nh(ht:F[t]?=some (C8 dr))(k:Int)(x:List Nat)(hx:x.length<=1000):run F w (n+3) t [.val (gb ns),.val (.int k),.val (.str x)]=some (bu (chg ns k x),[]):=by
 refine cR ht rfl ?_;have ln:dS .len [.str x]=some (.int (x.length:Nat)):=len_str (by omega);have rg:dN [.int ((x.length:Nat)+1)]=some (range 0 (x.length+1)):=LF (by omega) (by omega);refine ao (bx (by repeat array_get_dec) rfl rfl ?_);refine ao (jy (xr (aK (aW (gy (aK (aF rfl) bH) ln) (bF rfl) bV) bH) rg) ?_);refine CQ (λj fr=>∃a b c,vo a/\vo b/\vo c/\fr=[some (.val (gb ns)),some (.val (.int k)),some (.val (.str x)),some (.val (bu (eO ns k x j))),a,b,c]) (λj fr hj ⟨a,b,c',ha,hb,hc',hfr⟩=>?_) (λfr ⟨a,b,c',ha,hb,hc',hfr⟩=>?_) ⟨none,none,none,.none,.none,.none,rfl⟩
 .subst hfr;have hz:=ku ns k x j;rw[show(0:Int)+(j:Int)=j from Int.zero_add _];refine cO (bind1 rfl ha) (ao ?_);refine(zh hc hd hn k (.str x) (eO ns k x j) j b c' hb (by omega)).mono λg fr ⟨q1,b2,hb2,q3⟩=>?_;subst q1 q3;refine ao ?_;refine(zj hc hd hn k x hx _ j b2 c' hc' (by split<;>simp<;>omega)).mono λg fr ⟨q1,b3,NY,q3⟩=>?_;subst q1 q3;refine aB ?_;rw[dg];refine⟨some (.val (.int j)),b2,b3,.val,hb2,NY,?_⟩;rw[jA,jz,List.append_assoc]
 .subst hfr;refine ao (dh (v:=bu (chg ns k x)) (af:=[some (.val (gb ns)),some (.val (.int k)),some (.val (.str x)),some (.val (bu (eO ns k x (x.length+1)))),a,b,c']) ?_ ⟨rfl,rfl⟩);have sh:eG [some (.val (gb ns)),some (.val (.int k)),some (.val (.str x)),some (.val (bu (eO ns k x (x.length+1)))),a,b,c']=[some (.val (gb ns)),some (.val (.int k)),some (.val (.str x)),some (.val (bu (eO ns k x (x.length+1)))),a,b,c']:=by
   show _ :: _ :: _ :: _ :: a.map Sl.fX :: b.map Sl.fX :: [c'.map Sl.fX]=_;rw[eN ha,eN hb,eN hc'];rfl
  rw[sh];exact aF rfl
end
end Pv
namespace Pv
open Ev (D aU aP TY BI ME T E Es Eo It S Ss Fn big deep b2i rep bL cT bh aD cut bO cP slots)
noncomputable def zk:S:=.iff (.cmp .eq (.ix (.v 0) (.c (.int 0))) (.c (.str [107,101,101,112]))) (.cons (.ret (.ix (.v 0) (.c (.int 1)))) .nil) .nil
noncomputable def zl:S:=.ret (.bi .len (.cons (.ix (.v 0) (.c (.int 1))) .nil))
noncomputable def gI:Fn:=⟨1,1,(.cons zk (.cons zl .nil))⟩
noncomputable def uU(bJ:Nat):S:=.ret (.bi .sum (.cons (.comp (.cl bJ (.cons (.v 1) .nil)) (.one 1) (.seq (.v 0)) (.yes (.cmp .ne (.ix (.v 1) (.c (.int 0))) (.c (.str [112,117,116]))))) .nil))
noncomputable def ri(bJ:Nat):Fn:=⟨1,2,(.cons (uU bJ) .nil)⟩
noncomputable def xA(bJ:Nat):S:=.ret (.bi .sum (.cons (.comp (.cl bJ (.cons (.v 1) .nil)) (.one 1) (.seq (.v 0)) (.yes (.cmp .ne (.ix (.v 1) (.c (.int 0))) (.c (.str [100,114,111,112]))))) .nil))
noncomputable def tT(bJ:Nat):Fn:=⟨1,2,(.cons (xA bJ) .nil)⟩
noncomputable def zm:S:=.set 1 (.lst .nil)
noncomputable def zo:S:=.set 2 (.c (.int 0))
noncomputable def zp:S:=.set 3 (.c (.str []))
noncomputable def zq:S:=.set 4 (.c (.str []))
noncomputable def zu(dM:Nat):Ss:=(.cons (.iff (.cmp .eq (.v 5) (.c (.str [100,114,111,112]))) (.cons (.set 3 (.bin .add (.v 3) (.v 6))) .nil) (.cons (.iff (.cmp .eq (.v 5) (.c (.str [112,117,116]))) (.cons (.set 4 (.bin .add (.v 4) (.v 6))) .nil) (.cons (.iff (.cmp .gt (.v 6) (.c (.int 0))) (.cons (.iff (.orr (.cmp .ne (.v 3) (.c (.str []))) (.cmp .ne (.v 4) (.c (.str [])))) (.cons (.exp (.me .extend (.v 1) (.cons (.cl dM (.cons (.v 2) (.cons (.v 3) (.cons (.v 4) .nil)))) .nil))) (.cons (.set 2 (.c (.int 0))) (.cons (.set 3 (.c (.str []))) (.cons (.set 4 (.c (.str []))) .nil)))) .nil) (.cons (.set 2 (.bin .add (.v 2) (.v 6))) .nil)) .nil) .nil)) .nil)) .nil)
noncomputable def zv(dM:Nat):S:=.for (.many [5,6]) (.seq (.v 0)) (zu dM)
noncomputable def zw(dM:Nat):S:=.exp (.me .extend (.v 1) (.cons (.cl dM (.cons (.v 2) (.cons (.v 3) (.cons (.v 4) .nil)))) .nil))
noncomputable def zx:S:=.ret (.gG (.v 1))
noncomputable def kB(dM:Nat):Fn:=⟨1,7,(.cons zm (.cons zo (.cons zp (.cons zq (.cons (zv dM) (.cons (zw dM) (.cons zx .nil)))))))⟩
noncomputable def rQ:S:=.set 3 (.lst .nil)
noncomputable def rR:S:=.iff (.cmp .gt (.v 0) (.c (.int 0))) (.cons (.exp (.me .append (.v 3) (.cons (.tup (.cons (.c (.str [107,101,101,112])) (.cons (.v 0) .nil))) .nil))) .nil) .nil
noncomputable def lB:S:=.iff (.cmp .ne (.v 1) (.c (.str []))) (.cons (.exp (.me .append (.v 3) (.cons (.tup (.cons (.c (.str [100,114,111,112])) (.cons (.v 1) .nil))) .nil))) .nil) .nil
noncomputable def iW:S:=.iff (.cmp .ne (.v 2) (.c (.str []))) (.cons (.exp (.me .append (.v 3) (.cons (.tup (.cons (.c (.str [112,117,116])) (.cons (.v 2) .nil))) .nil))) .nil) .nil
noncomputable def gF:S:=.ret (.v 3)
noncomputable def fN:Fn:=⟨3,4,(.cons rQ (.cons rR (.cons lB (.cons iW (.cons gF .nil)))))⟩
noncomputable def Pt.n:Pt->Nat
 |.keep n=>n
 |.put s=>s.length
 |.drop s=>s.length
noncomputable def tot(c:List Pt):Nat:=(c.map Pt.n).sum
theorem jk(a b:List Pt):tot (a++b)=tot a+tot b:=by simp[tot]
theorem ez(p:Pt)(c:List Pt):tot (p :: c)=p.n+tot c:=by simp[tot]
noncomputable def ni:Pt->Bool
 |.put _=>true
 |_=>false
noncomputable def e8:Pt->Bool
 |.drop _=>true
 |_=>false
noncomputable def gK:Pt->Bool
 |.keep _=>true
 |_=>false
noncomputable def aQ(c:List Pt):Nat:=tot (c.filter λp=>!ni p)
noncomputable def iN(c:List Pt):Nat:=tot (c.filter λp=>!e8 p)
noncomputable def cst(c:List Pt):Nat:=tot (c.filter λp=>!gK p)
section
variable{F:List Fn}{w n aT i:Nat}
theorem zy(hs:F[i]?=some gI)(p:Pt)(hp:p.n<=100000):run F w (n+1) i [.val p.v]=some (.int p.n,[]):=by
 cases p with
 |keep k=>exact cR hs rfl (ao (aX (b:=true) (aV rfl (cD (ko (aF rfl) (bF rfl) rfl) (bF rfl) iV) rfl) (λ_=>ao (dh (ko (aF rfl) (bF rfl) rfl) ⟨rfl,rfl⟩)) nofun))
 |put s=>exact cR hs rfl (ao (aX (b:=false) (aV rfl (cD (ko (aF rfl) (bF rfl) rfl) (bF rfl) iV) rfl) nofun (λ_=>aB (ao (dh (gy (aK (ko (aF rfl) (bF rfl) rfl) bH) (len_str hp)) ⟨rfl,rfl⟩)))))
 |drop s=>exact cR hs rfl (ao (aX (b:=false) (aV rfl (cD (ko (aF rfl) (bF rfl) rfl) (bF rfl) iV) rfl) nofun (λ_=>aB (ao (dh (gy (aK (ko (aF rfl) (bF rfl) rfl) bH) (len_str hp)) ⟨rfl,rfl⟩)))))
end
noncomputable def bE(k:Nat)(g w:List Nat):List Pt:=(if 0<k then [.keep k]else [])++(if g=[]then []else [.drop g])++(if w=[]then []else [.put w])
theorem iX(k:Nat)(g w:List Nat):(bE k g w).length<=3:=by unfold bE;split<;>split<;>split<;>simp
theorem lC{F:List Fn}{w n i:Nat}(hs:F[i]?=some fN)(k:Nat)(g x:List Nat):run F w (n+1) i [.val (.int k),.val (.str g),.val (.str x)]=some (.lst ((bE k g x).map Pt.v),[]):=by
 refine cR hs rfl ?_;refine ao (ng (l:=[]) (by repeat array_get_dec) rfl rfl ?_);have ap:∀(l:List V) (d:V) (fr:Fr) (i:Nat),l.length<=3->fr[i]?=some (some (.own l))->lz .append i [d] fr fr[i]?=.ok .az (fr.set i (some (.own (l++[d])))):=λl d fr i h e=>by rw[e];exact tP (by omega)
 have fin:∀l:List V,Wp (exs (run F w n) w (.cons gF .nil) [some (.val (.int k)),some (.val (.str g)),some (.val (.str x)),some (.own l)]) λg fr=>g=.ret (.lst l)/\outs 3 fr=[]:=λl=>ao (dh (by repeat array_get_dec) ⟨rfl,rfl⟩);have s3:∀l:List V,l.length<=2->Wp (exs (run F w n) w (.cons iW (.cons gF .nil)) [some (.val (.int k)),some (.val (.str g)),some (.val (.str x)),some (.own l)]) λg fr=>g=.ret (.lst (l++(if x=[]then []else [Pt.put x]).map Pt.v))/\outs 3 fr=[]:=λl hl=>by
  refine ao (aX (by repeat array_get_dec) (λh=>?_) λh=>?_)
  .have hx:x≠[]:=by simpa using h
   refine ao (jx (by (repeat array_get_dec);exact ap _ _ _ _ (by omega) rfl) (aB ?_));rw[if_neg hx];exact fin _
  .have hx:x=[]:=by simpa using h
   refine aB ?_;rw[if_pos hx,List.map_nil,List.append_nil];exact fin _
 have s2:∀l:List V,l.length<=1->Wp (exs (run F w n) w (.cons lB (.cons iW (.cons gF .nil))) [some (.val (.int k)),some (.val (.str g)),some (.val (.str x)),some (.own l)]) λy fr=>y=.ret (.lst (l++((if g=[]then []else [Pt.drop g])++(if x=[]then []else [Pt.put x])).map Pt.v))/\outs 3 fr=[]:=λl hl=>by
  refine ao (aX (by repeat array_get_dec) (λh=>?_) λh=>?_)
  .have hx:g≠[]:=by simpa using h
   refine ao (jx (by (repeat array_get_dec);exact ap _ _ _ _ (by omega) rfl) (aB ?_));rw[if_neg hx,List.map_append,<-List.append_assoc];exact s3 _ (by simp;omega)
  .have hx:g=[]:=by simpa using h
   refine aB ?_;rw[if_pos hx,List.nil_append];exact s3 _ (by omega)
 refine ao (aX (by repeat array_get_dec) (λh=>?_) λh=>?_)
 .have hx:0<k:=by have:=of_decide_eq_true h;omega
  refine ao (jx (by (repeat array_get_dec);exact ap _ _ _ _ (by decide) rfl) (aB ?_));unfold bE;rw[if_pos hx,List.append_assoc];exact s2 _ (Nat.le_refl 1)
 .have hx:¬ 0<k:=by have:=of_decide_eq_false h;omega
  refine aB ?_;unfold bE;rw[if_neg hx];exact s2 _ (by decide)
abbrev FS:=List Pt×Nat×List Nat×List Nat
noncomputable def bg(st:FS):Pt->FS
 |.drop s=>(st.1,st.2.1,st.2.2.1++s,st.2.2.2)
 |.put s=>(st.1,st.2.1,st.2.2.1,st.2.2.2++s)
 |.keep k=>if 0<k then (if st.2.2.1=[]/\st.2.2.2=[]then (st.1,st.2.1+k,[],[])else (st.1++bE st.2.1 st.2.2.1 st.2.2.2,k,[],[]))else st
noncomputable def dD:FS:=([],0,[],[])
noncomputable def bY(st:FS):List Pt:=st.1++bE st.2.1 st.2.2.1 st.2.2.2
noncomputable def bN(c:List Pt):List Pt:=bY (c.foldl bg dD)
theorem Dc(p:List Pt)(a:Pt):(p++[a]).foldl bg dD=bg (p.foldl bg dD) a:=by simp
theorem rj(c:List Pt):∀st:FS,(c.foldl bg st).1.length<=st.1.length+3*c.length/\(c.foldl bg st).2.2.1.length<=st.2.2.1.length+tot c/\(c.foldl bg st).2.2.2.length<=st.2.2.2.length+tot c:=by
 induction c with
 |nil=>intro st;simp[tot]
 |cons p c ih=>
  intro st;have h:=ih (bg st p);have h2:(bg st p).1.length<=st.1.length+3/\(bg st p).2.2.1.length<=st.2.2.1.length+p.n/\(bg st p).2.2.2.length<=st.2.2.2.length+p.n:=by
   have:=iX st.2.1 st.2.2.1 st.2.2.2;cases p with
   |drop s=>simp[bg,Pt.n]
   |put s=>simp[bg,Pt.n]
   |keep k=>
    simp only[bg];split
    .split
     .simp
     .simp;omega
    .simp
  simp only[List.foldl_cons,List.length_cons,ez];omega
theorem zz{F:List Fn}{w n aY i:Nat}(hs:F[aY]?=some fN)(hf:F[i]?=some (kB aY))(c:List Pt)(h1:c.length<=10000)(h2:tot c<=10000):run F w (n+2) i [.val (bu c)]=some (bu (bN c),[]):=by
 refine cR hf rfl ?_;refine ao (ng (l:=[]) (by repeat array_get_dec) rfl rfl ?_);refine ao (bx (by repeat array_get_dec) rfl rfl ?_);refine ao (bx (by repeat array_get_dec) rfl rfl ?_);refine ao (bx (by repeat array_get_dec) rfl rfl ?_);refine ao (jy (vs:=c.map Pt.v) (jh (ji rfl) rfl) ?_);have ext:∀(st:FS) (fr:Fr),st.1.length<=30010->lz .extend 1 [.lst ((bE st.2.1 st.2.2.1 st.2.2.2).map Pt.v)] fr (some (some (.own (st.1.map Pt.v))))=.ok .az (fr.set 1 (some (.own ((bY st).map Pt.v)))):=λst fr h=>by
  have:=iX st.2.1 st.2.2.1 st.2.2.2;unfold bY;rw[List.map_append];exact C6 (by simp;omega)
 refine eH (e:=Pt.v) (λp l fr=>p++l=c/\∃a b,vo a/\vo b/\fr=[some (.val (bu c)),some (.own ((p.foldl bg dD).1.map Pt.v)),some (.val (.int (p.foldl bg dD).2.1)),some (.val (.str (p.foldl bg dD).2.2.1)),some (.val (.str (p.foldl bg dD).2.2.2)),a,b]) (λp x l fr ⟨hpl,a,b,ha,hb,hfr⟩=>?_) (λp fr ⟨hpl,a,b,ha,hb,hfr⟩=>?_) c [] _ ⟨rfl,none,none,.none,.none,rfl⟩
 .subst hfr;obtain⟨b1,b2,b3⟩:=rj p dD;have hlen:p.length+l.length+1=c.length:=by rw[<-hpl];simp;omega
  have rm:tot p+x.n+tot l=tot c:=by rw[<-hpl,jk,ez];omega
  rw[Dc];have gz:(p++[x])++l=c:=by simpa using hpl
  generalize p.foldl bg dD=st at *
  simp[dD]at b1 b2 b3;have rs:=λfr=>eK (fr:=fr) (lC (w:=w) (n:=n) hs st.2.1 st.2.2.1 st.2.2.2);have ex:=λfr=>ext st fr (by omega);cases x with
  |drop s=>
   have hs:s.length<=tot c:=by simp only[Pt.n]at rm;omega
   have ad:=dP (a:=st.2.2.1) (b:=s) (by omega);refine cO (g7 rfl ha rfl hb) (ao (aX (by repeat array_get_dec) (λ_=>?_) λh=>absurd h (by decide)));refine ao (bx (by repeat array_get_dec) rfl rfl (aB (aB ?_)));rw[dg];exact⟨gz,_,_,.val,.val,rfl⟩
  |put s=>
   have hs:s.length<=tot c:=by simp only[Pt.n]at rm;omega
   have ad:=dP (a:=st.2.2.2) (b:=s) (by omega);refine cO (g7 rfl ha rfl hb) (ao (aX (by repeat array_get_dec) (λh=>absurd h (by decide)) λ_=>?_));refine ao (aX (by repeat array_get_dec) (λ_=>?_) λh=>absurd h (by decide));refine ao (bx (by repeat array_get_dec) rfl rfl (aB (aB (aB ?_))));rw[dg];exact⟨gz,_,_,.val,.val,rfl⟩
  |keep k=>
   refine cO (g7 rfl ha rfl hb) (ao (aX (by repeat array_get_dec) (λh=>absurd h (by decide)) λ_=>?_));refine ao (aX (by repeat array_get_dec) (λh=>absurd h (by decide)) λ_=>?_);refine ao (aX (by repeat array_get_dec) (λh=>?_) λh=>?_)
   .have hk:0<k:=by have:=of_decide_eq_true h;omega
    by_cases hg:st.2.2.1=[]/\st.2.2.2=[]
    .have n1:cop .ne (.str st.2.2.1) (.str [])=some false:=by rw[g6,hg.1];rfl
     have n2:cop .ne (.str st.2.2.2) (.str [])=some false:=by rw[g6,hg.2];rfl
     refine ao (aX (b:=false) (q8 (aV rfl (by repeat array_get_dec) rfl) (aV rfl (by repeat array_get_dec) rfl)) (λh=>absurd h (by decide)) λ_=>aB ?_);refine ao (bx (by repeat array_get_dec) rfl rfl (aB (aB (aB (aB ?_)))));rw[dg];refine⟨gz,some (.val (.str dw)),some (.val (.int k)),.val,.val,?_⟩;simp only[bg,if_pos hk,if_pos hg];rw[hg.1,hg.2];rfl
    .have tt:av (run F w (n+1)) (.orr (.cmp .ne (.v 3) (.c (.str []))) (.cmp .ne (.v 4) (.c (.str [])))) [some (.val (bu c)),some (.own (st.1.map Pt.v)),some (.val (.int st.2.1)),some (.val (.str st.2.2.1)),some (.val (.str st.2.2.2)),some (.val (.str dw)),some (.val (.int k))]=.ok true [some (.val (bu c)),some (.own (st.1.map Pt.v)),some (.val (.int st.2.1)),some (.val (.str st.2.2.1)),some (.val (.str st.2.2.2)),some (.val (.str dw)),some (.val (.int k))]:=by
      by_cases h3:st.2.2.1=[]
      .have h4:¬ st.2.2.2=[]:=λz=>hg ⟨h3,z⟩;have n1:cop .ne (.str st.2.2.1) (.str [])=some false:=by rw[g6,h3];rfl
       have n2:cop .ne (.str st.2.2.2) (.str [])=some true:=by rw[g6,decide_eq_false h4];rfl
       exact q8 (aV rfl (by repeat array_get_dec) rfl) (aV rfl (by repeat array_get_dec) rfl)
      .have n1:cop .ne (.str st.2.2.1) (.str [])=some true:=by rw[g6,decide_eq_false h3];rfl
       exact G5 (aV rfl (by repeat array_get_dec) rfl)
     refine ao (aX tt (λ_=>?_) λh=>absurd h (by decide));refine ao (jx (by (repeat (first|array_get_dec|exact rs _|exact ex _))) ?_);refine ao (bx (by repeat array_get_dec) rfl rfl ?_);refine ao (bx (by repeat array_get_dec) rfl rfl ?_);refine ao (bx (by repeat array_get_dec) rfl rfl (aB ?_));refine ao (bx (by repeat array_get_dec) rfl rfl (aB (aB (aB (aB ?_)))));rw[dg];refine⟨gz,some (.val (.str dw)),some (.val (.int k)),.val,.val,?_⟩;simp only[bg,if_pos hk,if_neg hg];rw[Int.zero_add];rfl
   .have hk:¬ 0<k:=by have:=of_decide_eq_false h;omega
    refine aB (aB (aB (aB ?_)));rw[dg];refine⟨gz,some (.val (.str dw)),some (.val (.int k)),.val,.val,?_⟩;simp only[bg,if_neg hk];rfl
 .subst hfr;simp at hpl;subst hpl;obtain⟨b1,b2,b3⟩:=rj p dD;have e:bN p=bY (p.foldl bg dD):=rfl;rw[e];generalize p.foldl bg dD=st at *
  simp[dD]at b1 b2 b3;have sl:=iX st.2.1 st.2.2.1 st.2.2.2;have rs:=λfr=>eK (fr:=fr) (lC (w:=w) (n:=n) hs st.2.1 st.2.2.1 st.2.2.2);have ex:=λfr=>ext st fr (by omega);have mk:toT (.lst ((bY st).map Pt.v))=some (bu (bY st)):=by rw[CP];exact kj (cZ (by simp[bY];omega))
  refine ao (jx (by (repeat (first|array_get_dec|exact rs _|exact ex _))) ?_);exact ao (dh (Bf (aF rfl) mk) ⟨rfl,rfl⟩)
end Pv
namespace Pv
open Ev (D aU aP TY BI ME T E Es Eo It S Ss Fn big deep b2i rep bL cT bh aD cut bO cP slots)
section
variable{o:Option Sl}{l:List V}{fr:Fr}{i:Nat}{s:Sl}
end
inductive Tq where
 |at (i:Nat)|sg (c:Nat)
deriving DecidableEq
noncomputable def Pt.asks:Pt->List (List Nat)
 |.keep n=>List.replicate n []
 |.drop s=>s.map λc=>[c]
 |.put _=>[]
noncomputable def asks(c:List Pt):List (List Nat):=c.flatMap Pt.asks
noncomputable def Pt.told(k:Nat):Pt->List Tq
 |.keep n=>(List.range n).map λj=>.at (k+j)
 |.drop _=>[]
 |.put s=>s.map .sg
noncomputable def told(k:Nat):List Pt->List Tq
 |[]=>[]
 |p :: c=>p.told k++told (k+p.asks.length) c
theorem eB(a b:List Pt):asks (a++b)=asks a++asks b:=by simp[asks]
theorem fF(a b:List Pt):∀k,told k (a++b)=told k a++told (k+(asks a).length) b:=by
 induction a with
 |nil=>intro k;simp[told,asks]
 |cons p a ih=>
  intro k;simp only[List.cons_append,told,ih,List.append_assoc]
  congr 3
  simp[asks];omega
noncomputable def Pt.word:Pt->List Nat
 |.keep _=>dw
 |.put _=>kq
 |.drop _=>iM
noncomputable def nj(a b:List Nat):Bool:=!(decide (a=b) || (decide (a=kq)&&decide (b=iM)))
noncomputable def iY:List (List Nat)->Bool
 |a :: b :: r=>nj a b&&iY (b :: r)
 |_=>true
noncomputable def Hi(p:Pt):Bool:=p.n != 0
noncomputable def jl(c:List Pt):Bool:=iY (c.map Pt.word)&&c.all Hi
theorem dF(k:Nat)(g x:List Nat):asks (bE k g x)=List.replicate k []++g.map λc=>[c]:=by
  unfold bE;by_cases hk:0<k<;>by_cases hg:g=[]<;>by_cases hx:x=[]<;>simp[hk,hg,hx,asks,Pt.asks]
  all_goals (have:k=0:=by omega
             subst this;simp)
theorem gc(k:Nat)(g x:List Nat)(j:Nat):told j (bE k g x)=(List.range k).map (λi=>Tq.at (j+i))++x.map Tq.sg:=by
  unfold bE;by_cases hk:0<k<;>by_cases hg:g=[]<;>by_cases hx:x=[]<;>simp[hk,hg,hx,told,Pt.told,Pt.asks]
  all_goals (have:k=0:=by omega
             subst this;simp)
theorem uV(st:FS)(p:Pt):asks (bY (bg st p))=asks (bY st++[p])/\∀j,told j (bY (bg st p))=told j (bY st++[p]):=by
 obtain⟨ps,k,g,x⟩:=st;have e1:∀a:List Pt,asks (a++[p])=asks a++p.asks:=λa=>by simp[asks]
 have e2:∀(a:List Pt) j,told j (a++[p])=told j a++p.told (j+(asks a).length):=λa j=>by simp[fF,told]
 rw[e1];cases p with
 |drop s=>
  refine⟨by simp[bg,bY,eB,dF,Pt.asks],λj=>?_⟩;rw[e2];simp[bg,bY,fF,gc,Pt.told]
 |put s=>
  refine⟨by simp[bg,bY,eB,dF,Pt.asks],λj=>?_⟩;rw[e2];simp[bg,bY,fF,gc,Pt.told]
 |keep m=>
  simp only[bg];split
  .split
   .rename_i h;obtain⟨rfl,rfl⟩:=h;refine⟨by simp[bY,eB,dF,Pt.asks],λj=>?_⟩;rw[e2];simp[bY,eB,fF,gc,dF,Pt.told,List.range_add,Nat.add_assoc]
   .refine⟨by simp[bY,eB,dF,Pt.asks],λj=>?_⟩;rw[e2];simp[bY,eB,fF,gc,dF,Pt.told,Nat.add_assoc]
  .rename_i h;have:m=0:=by omega
   subst this;refine⟨by simp[Pt.asks],λj=>?_⟩;rw[e2];simp[Pt.told]
theorem nq(c:List Pt):∀st:FS,asks (bY (c.foldl bg st))=asks (bY st++c)/\∀j,told j (bY (c.foldl bg st))=told j (bY st++c):=by
 induction c with
 |nil=>intro st;simp
 |cons p c ih=>
  intro st;obtain⟨h1,h2⟩:=ih (bg st p);obtain⟨h3,h4⟩:=uV st p;simp only[List.foldl_cons];have e:bY st++p :: c=(bY st++[p])++c:=by simp
  refine⟨?_,λj=>?_⟩
  .rw[h1,e,eB,eB _ c,h3]
  .rw[h2 j,e,fF,fF _ c,h4 j,h3]
theorem pF(c:List Pt):asks (bN c)=asks c:=by
 have:=(nq c dD).1;simpa[bN,dD,bY,bE]using this
theorem kC(c:List Pt)(j:Nat):told j (bN c)=told j c:=by
 have:=(nq c dD).2 j;simpa[bN,dD,bY,bE]using this
noncomputable def kps(c:List Pt):Nat:=tot (c.filter gK)
theorem rq(c:List Pt):(asks c).length=aQ c:=by
 induction c with
 |nil=>rfl
 |cons p c ih=>cases p<;>simp[asks,aQ,tot,ni,Pt.asks,Pt.n]at ih ⊢<;>omega
theorem rA(c:List Pt):∀j,(told j c).length=iN c:=by
 induction c with
 |nil=>intro j;rfl
 |cons p c ih=>intro j;cases p<;>simp[told,iN,tot,e8,Pt.told,Pt.n,ih]at ih ⊢
theorem pX(n:Nat)(c:List Pt):aQ (.keep n :: c)=n+aQ c:=by simp[aQ,tot,ni,Pt.n]
theorem uW(s:List Nat)(c:List Pt):aQ (.drop s :: c)=s.length+aQ c:=by simp[aQ,tot,ni,Pt.n]
theorem pY(s:List Nat)(c:List Pt):aQ (.put s :: c)=aQ c:=by simp[aQ,tot,ni,Pt.n]
theorem Jm(n:Nat)(c:List Pt):iN (.keep n :: c)=n+iN c:=by simp[iN,tot,e8,Pt.n]
theorem Jo(s:List Nat)(c:List Pt):iN (.drop s :: c)=iN c:=by simp[iN,tot,e8,Pt.n]
theorem Jp(s:List Nat)(c:List Pt):iN (.put s :: c)=s.length+iN c:=by simp[iN,tot,e8,Pt.n]
theorem Jq(n:Nat)(c:List Pt):kps (.keep n :: c)=n+kps c:=by simp[kps,tot,List.filter_cons,gK,Pt.n]
theorem Jr(s:List Nat)(c:List Pt):kps (.drop s :: c)=kps c:=by simp[kps,tot,gK,Pt.n]
theorem Js(s:List Nat)(c:List Pt):kps (.put s :: c)=kps c:=by simp[kps,tot,gK,Pt.n]
noncomputable def isAt:Tq->Bool
 |.at _=>true
 |_=>false
theorem xB(c:List Pt):∀j,((told j c).filter isAt).length=kps c:=by
 induction c with
 |nil=>intro j;rfl
 |cons p c ih=>
  intro j;have e1:∀(m:Nat) (f:Nat->Nat),(((List.range m).map λi=>Tq.at (f i)).filter isAt).length=m:=λm f=>by
   rw[List.filter_eq_self.mpr]
   .simp
   .intro a ha;obtain⟨i,_,rfl⟩:=List.mem_map.mp ha;rfl
  have e2:∀s:List Nat,((s.map Tq.sg).filter isAt).length=0:=λs=>by
   rw[List.filter_eq_nil_iff.mpr]
   .rfl
   .intro a ha;obtain⟨i,_,rfl⟩:=List.mem_map.mp ha;simp[isAt]
  cases p with
  |keep m=>simp only[told,Pt.told,List.filter_append,List.length_append,e1,ih,kps,tot,gK,List.filter_cons,if_true,List.map_cons,List.sum_cons,Pt.n]
  |put s=>simp only[told,Pt.told,List.filter_append,List.length_append,e2,ih,kps,gK,List.filter_cons];simp
  |drop s=>simp only[told,Pt.told,List.filter_append,List.length_append,ih,kps,gK,List.filter_cons];simp
theorem xC(c:List Pt):tot c+kps c=aQ c+iN c:=by
 induction c with
 |nil=>rfl
 |cons p c ih=>cases p<;>simp only[ez,Pt.n,pX,uW,pY,Jm,Jo,Jp,Jq,Jr,Js]<;>omega
theorem zA(c:List Pt):aQ (bN c)=aQ c:=by rw[<-rq,<-rq,pF]
theorem zB(c:List Pt):iN (bN c)=iN c:=by rw[<-rA _ 0,<-rA _ 0,kC]
theorem zC(c:List Pt):kps (bN c)=kps c:=by rw[<-xB _ 0,<-xB _ 0,kC]
theorem zD(c:List Pt):tot (bN c)=tot c:=by
 have h1:=xC (bN c);have h2:=xC c;rw[zA,zB,zC]at h1;omega
theorem tU:∀(a:List (List Nat)) (b:List (List Nat)),iY (a++b)=true↔iY a=true/\iY b=true/\∀x∈a.getLast?,∀y∈b.head?,nj x y=true
 |[],b=>by simp[iY]
 |[x],[]=>by simp[iY]
 |[x],y :: b=>by simp[iY,and_comm]
 |x :: y :: a,b=>by
  have:=tU (y :: a) b;simp only[List.cons_append]at this ⊢;simp only[iY,Bool.and_eq_true,this,List.getLast?_cons_cons];constructor
  .rintro⟨h1,h2,h3,h4⟩;exact⟨⟨h1,h2⟩,h3,h4⟩
  .rintro⟨⟨h1,h2⟩,h3,h4⟩;exact⟨h1,h2,h3,h4⟩
theorem rS(k:Nat)(g x:List Nat):jl (bE k g x)=true:=by
 unfold bE;by_cases hk:0<k<;>by_cases hg:g=[]<;>by_cases hx:x=[]<;>simp[hk,hg,hx,jl,Hi,iY,nj,Pt.word,Pt.n,dw,kq,iM]
 all_goals omega
noncomputable def rB(st:FS):Prop:=jl st.1=true/\(st.1≠[]->0<st.2.1)/\∀p∈st.1.getLast?,p.word≠dw
theorem De{a b:List Pt}(ha:jl a=true)(hb:jl b=true)(h:∀p∈a.getLast?,∀q∈b.head?,nj p.word q.word=true):jl (a++b)=true:=by
 simp only[jl,Bool.and_eq_true]at ha hb ⊢;refine⟨?_,by rw[List.all_append,ha.2,hb.2];rfl⟩;rw[List.map_append,tU];refine⟨ha.1,hb.1,λx hx y hy=>?_⟩;simp at hx hy;obtain⟨p,hp,rfl⟩:=hx;obtain⟨q,hq,rfl⟩:=hy;exact h p hp q hq
theorem rC{k:Nat}{g x:List Nat}(hk:0<k):(bE k g x).head?=some (.keep k):=by simp[bE,hk]
theorem Df{w:List Nat}(h:w≠dw)(hw:w=kq\/w=iM):nj w dw=true:=by
 rcases hw with rfl|rfl<;>decide
theorem Dg(p:Pt):p.word=dw\/p.word=kq\/p.word=iM:=by cases p<;>simp[Pt.word]
theorem rE{st:FS}(h:rB st):jl (bY st)=true:=by
 refine De h.1 (rS _ _ _) λp hp q hq=>?_;have hne:st.1≠[]:=by intro z;rw[z]at hp;simp at hp
 rw[rC (h.2.1 hne)]at hq;simp at hq;subst hq;have hw:=h.2.2 p hp;exact Df hw ((Dg p).resolve_left hw)
theorem rF{k:Nat}{g x:List Nat}(h:¬ (g=[]/\x=[])):∀p∈(bE k g x).getLast?,p.word≠dw:=by
 unfold bE;by_cases hx:x=[]
 .have hg:g≠[]:=λz=>h ⟨z,hx⟩;intro p hp;simp[hg,hx]at hp;subst hp;simp[Pt.word,iM,dw]
 .intro p hp;simp[hx]at hp;subst hp;simp[Pt.word,kq,dw]
theorem xD{st:FS}(h:rB st)(p:Pt):rB (bg st p):=by
 cases p with
 |drop s=>exact h
 |put s=>exact h
 |keep k=>
  simp only[bg];split
  .rename_i hk;split
   .exact⟨h.1,λz=>by simp;omega,h.2.2⟩
   .rename_i Km;refine⟨rE h,λ_=>hk,λp hp=>?_⟩;rw[List.getLast?_append]at hp;cases z:(bE st.2.1 st.2.2.1 st.2.2.2).getLast? with
    |none=>
     exfalso;rw[List.getLast?_eq_none_iff]at z;unfold bE at z;by_cases hx:st.2.2.2=[]<;>by_cases hg:st.2.2.1=[]<;>simp[hx,hg]at z Km
    |some q=>
     rw[z]at hp;simp at hp;subst hp;exact rF Km q z
  .exact h
theorem zE(c:List Pt):jl (bN c)=true:=by
 have:∀(c:List Pt) (st:FS),rB st->rB (c.foldl bg st):=λc=>by
  induction c with
  |nil=>exact λst h=>h
  |cons p c ih=>exact λst h=>ih _ (xD h p)
 exact rE (this c dD ⟨rfl,λz=>absurd rfl z,λp hp=>by simp[dD]at hp⟩)
end Pv
namespace Pv
open Ev (D aU aP TY BI ME T E Es Eo It S Ss Fn big deep b2i rep bL cT bh aD cut bO cP slots)
abbrev Bl:=List Nat×List Nat
noncomputable def Hj(st:List Pt×Nat)(b:Bl):List Pt×Nat:=if b.1=[]/\b.2=[]then (st.1,st.2+1)else (st.1++bE st.2 b.1 b.2,1)
noncomputable def pk(bs:List Bl):List Pt×Nat:=bs.foldl Hj ([],0)
noncomputable def Pt.sw:Pt->Pt
 |.keep n=>.keep n
 |.put s=>.drop s
 |.drop s=>.put s
noncomputable def sw(c:List Pt):List Pt:=c.map Pt.sw
noncomputable def LG(c:List Pt):List Pt:=bN (sw c)
noncomputable def aM:List Pt->List Nat->Bool
 |[],t=>t.isEmpty
 |.keep n :: c,t=>decide (n<=t.length)&&aM c (t.drop n)
 |.drop s :: c,t=>s.isPrefixOf t&&aM c (t.drop s.length)
 |.put _ :: c,t=>aM c t
noncomputable def aL:List Pt->List Nat->List Nat
 |[],_=>[]
 |.keep n :: c,t=>t.take n++aL c (t.drop n)
 |.drop s :: c,t=>aL c (t.drop s.length)
 |.put s :: c,t=>s++aL c t
noncomputable def gf:List (List Nat)->List Nat->Bool
 |[],[]=>true
 |x :: a,c :: t=>(decide (x=[]) ||decide (x=[c]))&&gf a t
 |_,_=>false
theorem xE(n:Nat)(a:List (List Nat)):∀t,gf (List.replicate n []++a) t=(decide (n<=t.length)&&gf a (t.drop n)):=by
 induction n with
 |zero=>intro t;simp
 |succ n ih=>
  intro t;cases t with
  |nil=>simp[List.replicate_succ,gf]
  |cons c t=>simp[List.replicate_succ,gf,ih]
theorem xF(s:List Nat)(a:List (List Nat)):∀t,gf ((s.map λc=>[c])++a) t=(s.isPrefixOf t&&gf a (t.drop s.length)):=by
 induction s with
 |nil=>intro t;simp
 |cons c s ih=>
  intro t;cases t with
  |nil=>simp[gf]
  |cons d t=>
   simp only[List.map_cons,List.cons_append,gf,ih,List.isPrefixOf,List.length_cons,List.drop_succ_cons];by_cases h:c=d<;>simp[h]
theorem xG(c:List Pt):∀t,aM c t=gf (asks c) t:=by
 induction c with
 |nil=>intro t;cases t<;>rfl
 |cons p c ih=>
  intro t;have e:asks (p :: c)=p.asks++asks c:=by simp[asks]
  rw[e];cases p with
  |keep n=>simp[aM,Pt.asks,xE,ih]
  |drop s=>simp[aM,Pt.asks,xF,ih]
  |put s=>simp[aM,Pt.asks,ih]
theorem zF(c:List Pt)(t:List Nat):aM (bN c) t=aM c t:=by rw[xG,xG,pF]
noncomputable def pick(t:List Nat):Tq->List Nat
 |.at i=>(t[i]?).toList
 |.sg c=>[c]
theorem xH(c:List Pt):∀(t:List Nat) (k:Nat),aL c (t.drop k)=(told k c).flatMap (pick t):=by
 induction c with
 |nil=>intro t k;rfl
 |cons p c ih=>
  intro t k;rw[told,List.flatMap_append,<-ih];cases p with
  |put s=>
   simp only[aL,Pt.told,Pt.asks,List.length_nil,Nat.add_zero]
   congr 1
   induction s with
   |nil=>rfl
   |cons c s ih=>simp[pick]at ih ⊢;exact ih
  |drop s=>simp[aL,Pt.told,Pt.asks,Nat.add_comm]
  |keep n=>
   simp only[aL,Pt.told,Pt.asks,List.length_replicate,List.drop_drop]
   congr 1
   induction n generalizing k with
   |zero=>simp
   |succ n ihn=>
    rw[List.range_succ,List.map_append,List.flatMap_append,<-ihn];rw[List.take_add_one];simp[pick]
theorem xJ(c:List Pt)(t:List Nat):aL (bN c) t=aL c t:=by
 have h1:=xH (bN c) t 0;have h2:=xH c t 0;rw[kC,<-h2]at h1;simpa using h1
end Pv
namespace Pv
open Ev (D aU aP TY BI ME T E Es Eo It S Ss Fn big deep b2i rep bL cT bh aD cut bO cP slots)
noncomputable def zG:S:=.set 2 (.c (.int 0))
noncomputable def zH(bJ:Nat):Ss:=(.cons (.iff (.an (.cmp .eq (.ix (.v 3) (.c (.int 0))) (.c (.str [100,114,111,112]))) (.cmp .ne (.sl (.v 1) (.yes (.v 2)) (.yes (.bin .add (.v 2) (.cl bJ (.cons (.v 3) .nil))))) (.ix (.v 3) (.c (.int 1))))) (.cons (.ret (.c (.bl false))) .nil) .nil) (.cons (.iff (.cmp .ne (.ix (.v 3) (.c (.int 0))) (.c (.str [112,117,116]))) (.cons (.set 2 (.bin .add (.v 2) (.cl bJ (.cons (.v 3) .nil)))) .nil) .nil) .nil))
noncomputable def zI(bJ:Nat):S:=.for (.one 3) (.seq (.v 0)) (zH bJ)
noncomputable def zJ:S:=.ret (.cmp .eq (.v 2) (.bi .len (.cons (.v 1) .nil)))
noncomputable def rG(bJ:Nat):Fn:=⟨2,4,(.cons zG (.cons (zI bJ) (.cons zJ .nil)))⟩
noncomputable def zK(rH:Nat):S:=.iff (.nt (.cl rH (.cons (.v 0) (.cons (.v 1) .nil)))) (.cons (.cX 0) .nil) .nil
noncomputable def zL:S:=.set 2 (.lst .nil)
noncomputable def zM:S:=.set 3 (.c (.int 0))
noncomputable def zN:Ss:=(.cons (.iff (.cmp .eq (.v 4) (.c (.str [112,117,116]))) (.cons (.exp (.me .append (.v 2) (.cons (.v 5) .nil))) .nil) (.cons (.iff (.cmp .eq (.v 4) (.c (.str [100,114,111,112]))) (.cons (.set 3 (.bin .add (.v 3) (.bi .len (.cons (.v 5) .nil)))) .nil) (.cons (.exp (.me .append (.v 2) (.cons (.sl (.v 1) (.yes (.v 3)) (.yes (.bin .add (.v 3) (.v 5)))) .nil))) (.cons (.set 3 (.bin .add (.v 3) (.v 5))) .nil))) .nil)) .nil)
noncomputable def zO:S:=.for (.many [4,5]) (.seq (.v 0)) zN
noncomputable def zP:S:=.ret (.me .join (.c (.str [])) (.cons (.v 2) .nil))
noncomputable def xN(rH:Nat):Fn:=⟨2,6,(.cons (zK rH) (.cons zL (.cons zM (.cons zO (.cons zP .nil)))))⟩
noncomputable def rT(cF:Nat):S:=.ret (.cl cF (.cons (.tup (.cons (.tup (.cons (.c (.str [107,101,101,112])) (.cons (.v 0) .nil))) .nil)) .nil))
noncomputable def iO(cF:Nat):Fn:=⟨1,1,(.cons (rT cF) .nil)⟩
noncomputable def zQ:S:=.set 2 (.c (.int 0))
noncomputable def zR:S:=.set 3 (.c (.str []))
noncomputable def zS:Ss:=(.cons (.iff (.cmp .eq (.v 4) (.c (.str [112,117,116]))) (.cons (.set 3 (.bin .add (.v 3) (.v 5))) .nil) (.cons (.iff (.cmp .eq (.v 4) (.c (.str [100,114,111,112]))) (.cons (.iff (.cmp .ne (.sl (.v 1) (.yes (.v 2)) (.yes (.bin .add (.v 2) (.bi .len (.cons (.v 5) .nil))))) (.v 5)) (.cons (.ret (.c (.az))) .nil) .nil) (.cons (.set 2 (.bin .add (.v 2) (.bi .len (.cons (.v 5) .nil)))) .nil)) (.cons (.set 3 (.bin .add (.v 3) (.sl (.v 1) (.yes (.v 2)) (.yes (.bin .add (.v 2) (.v 5)))))) (.cons (.set 2 (.bin .add (.v 2) (.v 5))) .nil))) .nil)) .nil)
noncomputable def zT:S:=.for (.many [4,5]) (.seq (.v 0)) zS
noncomputable def zU:S:=.ret (.fG (.cmp .eq (.v 2) (.bi .len (.cons (.v 1) .nil))) (.v 3) (.c (.az)))
noncomputable def Hl:Fn:=⟨2,6,(.cons zQ (.cons zR (.cons zT (.cons zU .nil))))⟩
theorem nu{α:Type}(l:List α)(p k:Nat):cut l (some (p:Int)) (some ((p:Int)+k))=(l.drop p).take k:=by
 have h1:¬ (p:Int)<0:=by omega
 have h2:¬ (p:Int)+k<0:=by omega
 have h3:((p:Int)+k).toNat=p+k:=by omega
 simp only[cut,aD,h1,h2,if_false,h3,Int.toNat_natCast];by_cases hp:p<=l.length
 .rw[Nat.min_eq_left hp];by_cases hk:p+k<=l.length
  .rw[Nat.min_eq_left hk];congr 1;omega
  .rw[Nat.min_eq_right (by omega),List.take_of_length_le (by simp),List.take_of_length_le (by simp;omega)]
 .have e1:min p l.length=l.length:=by omega
  rw[e1,List.drop_eq_nil_of_le (Nat.le_refl _),List.drop_eq_nil_of_le (by omega)];simp
theorem pre_take{s t:List Nat}:s.isPrefixOf t=decide (t.take s.length=s):=by
 cases h:s.isPrefixOf t with
 |true=>
  obtain⟨r,rfl⟩:=List.isPrefixOf_iff_prefix.mp h;simp
 |false=>
  symm
  rw[decide_eq_false_iff_not];intro e;have:s.isPrefixOf t=true:=List.isPrefixOf_iff_prefix.mpr (by have z:=List.take_prefix s.length t;rw[e]at z;exact z);rw[h]at this;cases this
theorem tV(a b:List Pt):aQ (a++b)=aQ a+aQ b:=by simp[aQ,tot]
theorem zV(c:List Pt):∀t,(aL c t).length<=t.length+tot c:=by
 induction c with
 |nil=>intro t;simp[aL]
 |cons p c ih=>
  intro t;rw[ez];cases p with
  |keep n=>have:=ih (t.drop n);simp[aL,Pt.n]at this ⊢;omega
  |drop s=>have:=ih (t.drop s.length);simp[aL,Pt.n]at this ⊢;omega
  |put s=>have:=ih t;simp[aL,Pt.n]at this ⊢;omega
section
variable{F:List Fn}{w n aT fc bQ aY i:Nat}
theorem zW(c:List Pt)(t:List Nat)(q:Nat)(p:Pt)(l:List Pt)(h:aM c t=(decide (q<=t.length)&&aM (p :: l) (t.drop q))) :
  (e8 p=true->(∃s,p=.drop s/\(if (t.drop q).take s.length=s then aM c t=(decide (q+s.length<=t.length)&&aM l (t.drop (q+s.length)))else aM c t=false)))/\
  (e8 p=false->aM c t=(decide (q+aQ [p]<=t.length)&&aM l (t.drop (q+aQ [p])))):=by
 cases p with
 |drop s=>
  refine⟨λ_=>⟨s,rfl,?_⟩,λz=>by simp[e8]at z⟩;simp only[aM,pre_take,List.drop_drop]at h;split
  .rename_i hs;rw[h];simp only[hs,decide_true,Bool.true_and];have hl:=congrArg List.length hs;simp at hl;by_cases hq:q<=t.length
   .by_cases hq2:q+s.length<=t.length
    .simp[hq,hq2]
    .omega
   .have:¬ q+s.length<=t.length:=by omega
    simp[hq,this]
  .rename_i hs;rw[h];simp[hs]
 |keep k=>
  refine⟨λz=>by simp[e8]at z,λ_=>?_⟩;have e:aQ [.keep k]=k:=by rw[pX];rfl
  rw[h,e];simp only[aM,List.drop_drop,List.length_drop];by_cases hq:q<=t.length
  .by_cases hq2:q+k<=t.length
   .have:k<=t.length - q:=by omega
    simp[hq,hq2,this]
   .have:¬ k<=t.length - q:=by omega
    simp[hq2,this]
  .have:¬ q+k<=t.length:=by omega
   simp[hq,this]
 |put s=>
  refine⟨λz=>by simp[e8]at z,λ_=>?_⟩;have e:aQ [.put s]=0:=by rw[pY];rfl
  rw[h,e];simp[aM]
theorem lX(hs:F[aT]?=some gI)(hf:F[i]?=some (rG aT))(c:List Pt)(t:List Nat)(h1:tot c<=10000)(h2:t.length<=10000):run F w (n+2) i [.val (bu c),.val (.str t)]=some (.bl (aM c t),[]):=by
 refine cR hf rfl ?_;refine ao (bx (by repeat array_get_dec) rfl rfl ?_);refine ao (jy (vs:=c.map Pt.v) (jh (ji rfl) rfl) ?_);refine eH (e:=Pt.v) (λp l fr=>p++l=c/\aM c t=(decide (aQ p<=t.length)&&aM l (t.drop (aQ p)))/\∃a,vo a/\fr=[some (.val (bu c)),some (.val (.str t)),some (.val (.int (aQ p))),a]) (λp x l fr ⟨hpl,hfit,a,ha,hfr⟩=>?_) (λp fr ⟨hpl,hfit,a,ha,hfr⟩=>?_) c [] _ ⟨rfl,by simp[aQ,tot],none,.none,rfl⟩
 .subst hfr;have rm:tot p+x.n+tot l=tot c:=by rw[<-hpl,jk,ez];omega
  have sz:=λfr=>m8 (fr:=fr) (zy (w:=w) (n:=n) hs x (by omega));obtain⟨k1,k2⟩:=zW c t (aQ p) x l hfit;have gz:(p++[x])++l=c:=by simpa using hpl
  have eb:aQ (p++[x])=aQ p+aQ [x]:=tV p [x];have ei:((aQ (p++[x]):Nat):Int)=(aQ p:Int)+(aQ [x]:Nat):=by rw[eb];simp
  cases x with
  |drop s=>
   obtain⟨s',e,k1⟩:=k1 rfl;cases e;have e2:aQ [.drop s]=s.length:=by rw[uW];rfl
   rw[e2]at eb ei;have cu:fH (.str t) (some (aQ p:Int)) (some ((aQ p:Int)+((Pt.drop s).n:Nat)))=some (.str ((t.drop (aQ p)).take s.length)):=by rw[gw];exact congrArg (λz=>some (V.str z)) (nu t (aQ p) s.length)
   by_cases hx:(t.drop (aQ p)).take s.length=s
   .rw[if_pos hx]at k1;have ne:cop .ne (.str ((t.drop (aQ p)).take s.length)) (.str s)=some false:=by rw[g6,decide_eq_true hx];rfl
    refine cO (bind1 rfl ha) (ao (aX (b:=false) (xq (b2:=false) (aV rfl (by repeat array_get_dec) rfl) (aV rfl (by (repeat (first|array_get_dec|exact sz _))) rfl)) (λh=>absurd h (by decide)) λ_=>aB ?_));refine ao (aX (by repeat array_get_dec) (λ_=>?_) λh=>absurd h (by decide));refine ao (bx (by (repeat (first|array_get_dec|exact sz _))) rfl rfl (aB (aB ?_)));rw[dg];exact⟨gz,by rw[eb];exact k1,some (.val (Pt.drop s).v),.val,by rw[ei];rfl⟩
   .rw[if_neg hx]at k1;have ne:cop .ne (.str ((t.drop (aQ p)).take s.length)) (.str s)=some true:=by rw[g6,decide_eq_false hx];rfl
    refine cO (bind1 rfl ha) (ao (aX (b:=true) (xq (b2:=true) (aV rfl (by repeat array_get_dec) rfl) (aV rfl (by (repeat (first|array_get_dec|exact sz _))) rfl)) (λ_=>?_) λh=>absurd h (by decide)));refine ao (dh (by repeat array_get_dec) ?_);show nx _ _ _ _ _ _;rw[k1];exact⟨rfl,rfl⟩
  |keep k=>
   have k2:=k2 rfl;have e2:aQ [.keep k]=k:=by rw[pX];rfl
   rw[e2]at k2 eb ei;refine cO (bind1 rfl ha) (ao (aX (b:=false) (xj (aV rfl (by repeat array_get_dec) rfl)) (λh=>absurd h (by decide)) λ_=>aB ?_));refine ao (aX (by repeat array_get_dec) (λ_=>?_) λh=>absurd h (by decide));refine ao (bx (by (repeat (first|array_get_dec|exact sz _))) rfl rfl (aB (aB ?_)));rw[dg];exact⟨gz,by rw[eb];exact k2,some (.val (Pt.keep k).v),.val,by rw[ei];rfl⟩
  |put s=>
   have k2:=k2 rfl;have e2:aQ [.put s]=0:=by rw[pY];rfl
   rw[e2]at k2 eb;refine cO (bind1 rfl ha) (ao (aX (b:=false) (xj (aV rfl (by repeat array_get_dec) rfl)) (λh=>absurd h (by decide)) λ_=>aB ?_));refine ao (aX (by repeat array_get_dec) (λh=>absurd h (by decide)) λ_=>aB (aB ?_));rw[dg];exact⟨gz,by rw[eb];exact k2,some (.val (Pt.put s).v),.val,by rw[eb];rfl⟩
 .subst hfr;simp at hpl;subst hpl;have e:decide ((aQ p:Int)=(t.length:Nat))=aM p t:=by
   rw[hfit];simp only[aM];by_cases hq:aQ p=t.length
   .have:(aQ p:Int)=t.length:=by omega
    simp[this,hq]
   .have:¬ (aQ p:Int)=t.length:=by omega
    simp[this];intro h;omega
  have ln:dS .len [.str t]=some (.int (t.length:Nat)):=len_str (by omega);have eq:cop .eq (.int (aQ p)) (.int (t.length:Nat))=some (aM p t):=by rw[uR,e]
  have sh:eG [some (.val (bu p)),some (.val (.str t)),some (.val (.int (aQ p))),a]=[some (.val (bu p)),some (.val (.str t)),some (.val (.int (aQ p))),a]:=by
   show _ :: _ :: _ :: [a.map Sl.fX]=_;rw[eN ha];rfl
  refine ao (dh (v:=.bl (aM p t)) (af:=[some (.val (bu p)),some (.val (.str t)),some (.val (.int (aQ p))),a]) ?_ ⟨rfl,rfl⟩);rw[sh];repeat array_get_dec
theorem rJ(hs:F[aT]?=some gI)(hf:F[fc]?=some (rG aT))(hd:F[i]?=some (xN fc))(c:List Pt)(t:List Nat)(h1:tot c<=10000)(h2:t.length<=10000)(h3:c.length<=10000)(h:aM c t=true):run F w (n+3) i [.val (bu c),.val (.str t)]=some (.str (aL c t),[]):=by
 refine cR hd rfl ?_;have ft:=λfr=>call2 (fr:=fr) (lX (w:=w) (n:=n) hs hf c t h1 h2);rw[h]at ft;refine ao (aX (b:=false) (pV (aV (b:=true) rfl (by (repeat (first|array_get_dec|exact ft _))) rfl)) (λh=>absurd h (by decide)) λ_=>aB ?_);refine ao (ng (l:=[]) (by repeat array_get_dec) rfl rfl ?_);refine ao (bx (by repeat array_get_dec) rfl rfl ?_);refine ao (jy (vs:=c.map Pt.v) (jh (ji rfl) rfl) ?_);refine eH (e:=Pt.v) (λp l fr=>p++l=c/\∃ps a b,vo a/\vo b/\ps.length<=p.length/\ps.flatten++aL l (t.drop (aQ p))=aL c t/\fr=[some (.val (bu c)),some (.val (.str t)),some (.own (ps.map V.str)),some (.val (.int (aQ p))),a,b]) (λp x l fr ⟨hpl,ps,a,b,ha,hb,hl,hd,hfr⟩=>?_) (λp fr ⟨hpl,ps,a,b,ha,hb,hl,hd,hfr⟩=>?_) c [] _ ⟨rfl,[],none,none,.none,.none,by simp,by simp[aQ,tot],rfl⟩
 .subst hfr;have gz:(p++[x])++l=c:=by simpa using hpl
  have eb:aQ (p++[x])=aQ p+aQ [x]:=tV p [x];have ei:((aQ (p++[x]):Nat):Int)=(aQ p:Int)+(aQ [x]:Nat):=by rw[eb];simp
  have rm:tot p+x.n+tot l=tot c:=by rw[<-hpl,jk,ez];omega
  have hlen:p.length+l.length+1=c.length:=by rw[<-hpl];simp;omega
  have ap:∀(fr:Fr) (z:List Nat),lz .append 2 [.str z] fr (some (some (.own (ps.map V.str))))=.ok .az (fr.set 2 (some (.own ((ps++[z]).map V.str)))):=λfr z=>by
   rw[List.map_append];exact tP (by simp;omega)
  cases x with
  |put s=>
   have e2:aQ [.put s]=0:=by rw[pY];rfl
   rw[e2]at eb;refine cO (g7 rfl ha rfl hb) (ao (aX (by repeat array_get_dec) (λ_=>?_) λh=>absurd h (by decide)));refine ao (jx (by (repeat (first|array_get_dec|exact ap _ _))) (aB (aB ?_)));rw[dg];exact⟨gz,ps++[s],some (.val (.str kq)),some (.val (.str s)),.val,.val,by simp;omega,by rw[eb];simpa[aL]using hd,by rw[eb];rfl⟩
  |drop s=>
   have e2:aQ [.drop s]=s.length:=by rw[uW];rfl
   rw[e2]at eb ei;have Ot:s.length<=tot c:=by simp only[Pt.n]at rm;omega
   have ln:dS .len [.str s]=some (.int (s.length:Nat)):=len_str (by omega);refine cO (g7 rfl ha rfl hb) (ao (aX (by repeat array_get_dec) (λh=>absurd h (by decide)) λ_=>?_));refine ao (aX (by repeat array_get_dec) (λ_=>?_) λh=>absurd h (by decide));refine ao (bx (by repeat array_get_dec) rfl rfl (aB (aB (aB ?_))));rw[dg];exact⟨gz,ps,some (.val (.str iM)),some (.val (.str s)),.val,.val,by simp;omega,by rw[eb];simpa[aL]using hd,by rw[ei];rfl⟩
  |keep k=>
   have e2:aQ [.keep k]=k:=by rw[pX];rfl
   rw[e2]at eb ei;have cu:fH (.str t) (some (aQ p:Int)) (some ((aQ p:Int)+(k:Nat)))=some (.str ((t.drop (aQ p)).take k)):=by rw[gw,nu]
   refine cO (g7 rfl ha rfl hb) (ao (aX (by repeat array_get_dec) (λh=>absurd h (by decide)) λ_=>?_));refine ao (aX (by repeat array_get_dec) (λh=>absurd h (by decide)) λ_=>?_);refine ao (jx (by (repeat (first|array_get_dec|exact ap _ _))) ?_);refine ao (bx (by repeat array_get_dec) rfl rfl (aB (aB (aB ?_))));rw[dg];exact⟨gz,ps++[(t.drop (aQ p)).take k],some (.val (.str dw)),some (.val (.int k)),.val,.val,by simp;omega,by rw[eb];simpa[aL]using hd,by rw[ei];rfl⟩
 .subst hfr;simp at hpl;subst hpl;have hd':ps.flatten=aL p t:=by simpa[aL]using hd
  have dl:=zV p t;have hj:=Bc (l:=ps) (by rw[hd'];omega);rw[hd']at hj;have sh:eG [some (.val (bu p)),some (.val (.str t)),some (.own (ps.map V.str)),some (.val (.int (aQ p))),a,b]=[some (.val (bu p)),some (.val (.str t)),some (.val (.lst (ps.map V.str))),some (.val (.int (aQ p))),a,b]:=by
   show _ :: _ :: _ :: _ :: a.map Sl.fX :: [b.map Sl.fX]=_;rw[eN ha,eN hb];rfl
  refine ao (dh (v:=.str (aL p t)) (af:=[some (.val (bu p)),some (.val (.str t)),some (.val (.lst (ps.map V.str))),some (.val (.int (aQ p))),a,b]) ?_ ⟨rfl,rfl⟩);rw[sh];repeat array_get_dec
theorem iZ(hst:F[aY]?=some fN)(hf:F[bQ]?=some (kB aY))(hu:F[i]?=some (iO bQ))(m:Nat)(h:m<=10000):run F w (n+3) i [.val (.int m)]=some (bu (bN [.keep m]),[]):=
 cR hu rfl (ao (dh (eV (bM rfl (gE (aK (gE (aK (bF rfl) (aK (aF rfl) bH)) Bb) bH) pQ) cg) (m8 (zz hst hf [.keep m] (Nat.succ_le_of_lt (Nat.zero_lt_succ _)) h))) ⟨rfl,rfl⟩))
end
end Pv
namespace Pv
open Ev (rep)
theorem xO(ns:List Int)(at_:Int)(s:List Nat)(k:Nat):tot (jz ns at_ s k)<=3:=by
 have h1:=iH ns (at_+4*k+2) (many:=2) (by decide);have h2:=iG ns (at_+4*k+2) (many:=2) (by decide);unfold jz;rw[jk];have a:tot (if bT ns (at_+4*k) 4=0 then [Pt.put (rep (1+bT ns (at_+4*k+2) 2).toNat [[97,98,122].getD (bT ns (at_+4*k+1) 3).toNat 0])]else [])<=2:=by
  split
  .simp[tot,Pt.n,rep];omega
  .simp[tot]
 cases s[k]? with
 |none=>simp[tot]at a ⊢;omega
 |some c=>
  have b:tot [if 0<bT ns (at_+4*k+3) 3 then Pt.keep 1 else Pt.drop [c]]<=1:=by split<;>simp[tot,Pt.n]
  simp only at b ⊢;omega
theorem pG(ns:List Int)(at_:Int)(s:List Nat):∀k,tot (eO ns at_ s k)<=3*k
 |0=>by simp[eO,tot]
 |k+1=>by
  have h1:=xO ns at_ s k;have h2:=pG ns at_ s k;rw[jA,jk];omega
end Pv
namespace Pv
inductive At where
 |k|d (c:Nat)|p (c:Nat)
noncomputable def Pt.lD:Pt->List At
 |.keep n=>List.replicate n .k
 |.drop s=>s.map .d
 |.put s=>s.map .p
noncomputable def lD(c:List Pt):List At:=c.flatMap Pt.lD
noncomputable def tA:Nat->List At->List Tq
 |_,[]=>[]
 |i,.k :: a=>.at i :: tA (i+1) a
 |i,.d _ :: a=>tA (i+1) a
 |i,.p c :: a=>.sg c :: tA i a
noncomputable def aA:List At->List (List Nat)
 |[]=>[]
 |.k :: a=>[] :: aA a
 |.d c :: a=>[c] :: aA a
 |.p _ :: a=>aA a
noncomputable def dA:List At->List Nat->List Nat
 |[],_=>[]
 |.k :: a,t=>t.take 1++dA a (t.drop 1)
 |.d _ :: a,t=>dA a (t.drop 1)
 |.p c :: a,t=>c :: dA a t
noncomputable def NZ:List At->Bool
 |.d _ :: _=>false
 |_=>true
inductive Th:List At->List At->List At->Prop
 |nil:Th [] [] []
 |d {a b r c}:Th a b r->Th (.d c :: a) b (.d c :: r)
 |p {a b r c}:NZ a=true->Th a b r->Th a (.p c :: b) (.p c :: r)
 |kk {a b r}:Th a b r->Th (.k :: a) (.k :: b) (.k :: r)
 |kd {a b r c}:Th a b r->Th (.k :: a) (.d c :: b) (.d c :: r)
 |pk {a b r c}:Th a b r->Th (.p c :: a) (.k :: b) (.p c :: r)
 |pd {a b r c}:Th a b r->Th (.p c :: a) (.d c :: b) r
noncomputable def sub(L:List Tq):Tq->Tq
 |.at j=>L.getD j (.sg 0)
 |.sg c=>.sg c
end Pv
namespace Pv
open Ev (D aU aP TY BI ME T E Es Eo It S Ss Fn big deep b2i rep bL cT bh aD cut bO cP slots)
noncomputable def zX(oh:Nat)(lY:Nat):S:=.iff (.cmp .ne (.cl oh (.cons (.v 0) .nil)) (.cl lY (.cons (.v 1) .nil))) (.cons (.cX 0) .nil) .nil
noncomputable def zY(cF:Nat):S:=.set 2 (.gW (.rev (.cl cF (.cons (.v 0) .nil))))
noncomputable def zZ(cF:Nat):S:=.set 3 (.gW (.rev (.cl cF (.cons (.v 1) .nil))))
noncomputable def z6:S:=.set 4 (.lst .nil)
noncomputable def z7(bJ:Nat)(nv:Nat)(ig:Nat):Ss:=(.cons (.iff (.an (.v 2) (.cmp .eq (.ix (.ix (.v 2) (.neg (.c (.int 1)))) (.c (.int 0))) (.c (.str [100,114,111,112])))) (.cons (.exp (.me .append (.v 4) (.cons (.me .pop (.v 2) .nil) .nil))) .nil) (.cons (.iff (.an (.v 3) (.cmp .eq (.ix (.ix (.v 3) (.neg (.c (.int 1)))) (.c (.int 0))) (.c (.str [112,117,116])))) (.cons (.exp (.me .append (.v 4) (.cons (.me .pop (.v 3) .nil) .nil))) .nil) (.cons (.set 5 (.bi .min (.cons (.cl bJ (.cons (.ix (.v 2) (.neg (.c (.int 1)))) .nil)) (.cons (.cl bJ (.cons (.ix (.v 3) (.neg (.c (.int 1)))) .nil)) .nil)))) (.cons (.exp (.me .extend (.v 4) (.cons (.cl nv (.cons (.cl ig (.cons (.v 2) (.cons (.v 5) .nil))) (.cons (.cl ig (.cons (.v 3) (.cons (.v 5) .nil))) .nil))) .nil))) .nil))) .nil)) .nil)
noncomputable def z8(bJ:Nat)(nv:Nat)(ig:Nat):S:=.jU (.orr (.v 2) (.v 3)) (z7 bJ nv ig)
noncomputable def z9(cF:Nat):S:=.ret (.cl cF (.cons (.gG (.v 4)) .nil))
noncomputable def xP(oh:Nat)(lY:Nat)(cF:Nat)(bJ:Nat)(nv:Nat)(ig:Nat):Fn:=⟨2,6,(.cons (zX oh lY) (.cons (zY cF) (.cons (zZ cF) (.cons z6 (.cons (z8 bJ nv ig) (.cons (z9 cF) .nil))))))⟩
noncomputable def Dh:S:=.iff (.cmp .eq (.ix (.v 1) (.c (.int 0))) (.c (.str [107,101,101,112]))) (.cons (.ret (.lst (.cons (.v 0) .nil))) .nil) .nil
noncomputable def Di:S:=.iff (.cmp .eq (.ix (.v 0) (.c (.int 0))) (.c (.str [107,101,101,112]))) (.cons (.ret (.lst (.cons (.v 1) .nil))) .nil) .nil
noncomputable def Dj:S:=.iff (.cmp .ne (.ix (.v 0) (.c (.int 1))) (.ix (.v 1) (.c (.int 1)))) (.cons (.cX 0) .nil) .nil
noncomputable def Dk:S:=.ret (.lst .nil)
noncomputable def uX:Fn:=⟨2,2,(.cons Dh (.cons Di (.cons Dj (.cons Dk .nil))))⟩
noncomputable def xQ(lZ:Nat):S:=.set 2 (.cl lZ (.cons (.me .pop (.v 0) .nil) (.cons (.v 1) .nil)))
noncomputable def xR(bJ:Nat):S:=.iff (.cmp .gt (.cl bJ (.cons (.ix (.v 2) (.c (.int 1))) .nil)) (.c (.int 0))) (.cons (.exp (.me .append (.v 0) (.cons (.ix (.v 2) (.c (.int 1))) .nil))) .nil) .nil
noncomputable def xS:S:=.ret (.ix (.v 2) (.c (.int 0)))
noncomputable def kP(lZ:Nat)(bJ:Nat):Fn:=⟨2,3,(.cons (xQ lZ) (.cons (xR bJ) (.cons xS .nil)))⟩
noncomputable def uY:S:=.set 2 (.ix (.v 0) (.c (.int 0)))
noncomputable def uZ:S:=.iff (.cmp .eq (.v 2) (.c (.str [107,101,101,112]))) (.cons (.ret (.tup (.cons (.tup (.cons (.v 2) (.cons (.v 1) .nil))) (.cons (.tup (.cons (.v 2) (.cons (.bin .sub (.ix (.v 0) (.c (.int 1))) (.v 1)) .nil))) .nil)))) .nil) .nil
noncomputable def u0:S:=.ret (.tup (.cons (.tup (.cons (.v 2) (.cons (.sl (.ix (.v 0) (.c (.int 1))) .no (.yes (.v 1))) .nil))) (.cons (.tup (.cons (.v 2) (.cons (.sl (.ix (.v 0) (.c (.int 1))) (.yes (.v 1)) .no) .nil))) .nil)))
noncomputable def jB:Fn:=⟨2,3,(.cons uY (.cons uZ (.cons u0 .nil)))⟩
section
variable{F:List Fn}{w n cB aT jC dG bQ aY gA di eE ny i:Nat}
theorem Dl{c:List Pt}(h:jl c=true):∀p∈c,0<p.n:=λp hp=>by
 simp only[jl,Bool.and_eq_true,List.all_eq_true]at h;have:=h.2 p hp;simp only[Hi,bne_iff_ne,ne_eq]at this;omega
theorem tW:∀{c:List Pt},(∀p∈c,0<p.n)->c.length<=tot c
 |[],_=>by simp[tot]
 |p :: c,h=>by
  have h1:=h p (by simp);have h2:=tW (c:=c) λq hq=>h q (by simp[hq]);rw[ez,List.length_cons];omega
structure Tn(one other c:List Pt)(t:List Nat):Prop where
 N1:bN c=c
 fit:aM c t=true
 dn:aL c t=aL other (aL one t)
 N2:told 0 c=(told 0 other).map (sub (told 0 one))
 N3:told 0 (sw c)=(told 0 (sw one)).map (sub (told 0 (sw other)))
 cs:cst c<=cst one+cst other
 tt:tot c<=tot one+tot other
 ln:c.length<=tot c
 th:∃ps,c=bN ps/\Th (lD (bN one)) (lD (bN other)) (lD ps)
section
variable(hs:F[aT]?=some gI)(hp:F[cB]?=some jB)(ht:F[dG]?=some (kP cB aT))(hm:F[jC]?=some uX){one other:List Pt}{r:List At}{N:Nat}(hN:N<=5000)
include hs hp ht hm hN
end
end
end Pv
namespace Pv
open Ev (D aU aP TY BI ME T E Es Eo It S Ss Fn big deep b2i rep bL cT bh aD cut bO cP slots)
section
variable{F:List Fn}{w n cB aT jC dG bQ aY gA di eE ny i:Nat}
noncomputable def Ch:List Nat->List (List Pt)->Prop
 |_,[]=>True
 |t,c :: rs=>aM c t=true/\Ch (aL c t) rs
noncomputable def nA(t:List Nat)(rs:List (List Pt)):List Nat:=rs.foldl (λs c=>aL c s) t
noncomputable def tY(T:List Tq)(rs:List (List Pt)):List Tq:=rs.foldl (λT c=>(told 0 c).map (sub T)) T
noncomputable def Aa(rs:List (List Pt)):Nat:=(rs.map tot).sum
structure An(c:List Pt)(t:List Nat)(rs:List (List Pt)):Prop where
 N1:bN c=c
 fit:aM c t=true
 dn:aL c t=nA t rs
 N2:told 0 c=tY (told 0 [.keep t.length]) rs
 N3:told 0 (sw c)=tY (told 0 [.keep (nA t rs).length]) (rs.map LG).reverse
 tt:tot c<=t.length+Aa rs
 ln:c.length<=tot c
section
variable(hs:F[aT]?=some gI)(hp:F[cB]?=some jB)(ht:F[dG]?=some (kP cB aT))(hm:F[jC]?=some uX)
 (hst:F[aY]?=some fN) (hf:F[bQ]?=some (kB aY)) (hb:F[di]?=some (ri aT)) (ha:F[gA]?=some (tT aT)) (Ho:F[ny]?=some (xP gA di bQ aT jC dG)) (hno:F[eE]?=some (iO bQ)) (hw:5000<w)
include hs hp ht hm hst hf hb ha Ho hno hw
end
end
end Pv
namespace Pv
section
variable{t:List Nat}{p q rs:List (List Pt)}{s e w x y c:List Pt}
end
open Ev (D aU aP TY BI ME T E Es Eo It S Ss Fn big deep b2i rep bL cT bh aD cut bO cP slots)
inductive Hd(L:List V):Sl->List (List V)->Prop
 |val:Hd L (.val (.lst L)) []
 |bor:Hd L (.bor L) [L]
section
variable{F:List Fn}{w n cB aT jC dG bQ aY gA di eE ny i:Nat}
section
variable(hs:F[aT]?=some gI)(hp:F[cB]?=some jB)(ht:F[dG]?=some (kP cB aT))(hm:F[jC]?=some uX)
 (hst:F[aY]?=some fN) (hf:F[bQ]?=some (kB aY)) (hb:F[di]?=some (ri aT)) (ha:F[gA]?=some (tT aT)) (Ho:F[ny]?=some (xP gA di bQ aT jC dG)) (hno:F[eE]?=some (iO bQ)) (hw:5000<w)
include hs hp ht hm hst hf hb ha Ho hno hw
end
end
end Pv
namespace Pv
open Ev (deep big rep cut bh)
noncomputable def Bj:List At->Bool
 |.p _ :: _=>false
 |_=>true
structure Cut(c:List Pt)(p:Nat)(A B:List Pt):Prop where
 at_:lD A++lD B=lD (bN c)
 bA:aQ A=p
 hd:Bj (lD B)=true
 pA:∀q∈A,0<q.n
 pB:∀q∈B,0<q.n
 fA:jl A=true
 fB:jl B=true
section
variable{c A B:List Pt}{p:Nat}{t:List Nat}
end
end Pv
namespace Pv
open Ev (D aU aP TY BI ME T E Es Eo It S Ss Fn big deep rep cut bh)
noncomputable def u9(cF:Nat):S:=.ret (.cl cF (.cons (.bin .add (.v 0) (.v 1)) .nil))
noncomputable def Ab(cF:Nat):Fn:=⟨2,2,(.cons (u9 cF) .nil)⟩
noncomputable def xT(jD:Nat)(iP:Nat):S:=.ret (.cl jD (.cons (.cl jD (.cons (.cl iP (.cons (.v 0) .nil)) (.cons (.v 1) .nil))) (.cons (.cl iP (.cons (.v 2) .nil)) .nil)))
noncomputable def Dm(jD:Nat)(iP:Nat):Fn:=⟨3,3,(.cons (xT jD iP) .nil)⟩
section
variable{F:List Fn}{w n aT aY bQ di cB dG eE rK Jt Dn i:Nat}
section
variable(hst:F[aY]?=some fN)(hf:F[bQ]?=some (kB aY))(hj:F[rK]?=some (Ab bQ))(hn:F[eE]?=some (iO bQ))(ha:F[Dn]?=some (Dm rK eE))
include hst hf hj hn ha
end
end
end Pv
namespace Pv
open Ev (D aU aP TY BI ME T E Es Eo It S Ss Fn big deep rep cut bh)
structure CA(a:List At)(p:Nat)(x y:List At):Prop where
 ap:x++y=a
 ln:(aA x).length=p
 hd:Bj y=true
section
variable{F:List Fn}{w n aT aY bQ di gA cB dG Jt i:Nat}
end
end Pv
namespace Pv
open Ev (D aU aP TY BI ME T E Es Eo It S Ss Fn big deep rep cut bh)
abbrev Row:=List Nat×List Pt
noncomputable def xU(rs:List Row):List (List Pt):=rs.map Prod.snd
noncomputable def who(st:List V)(o:List Nat):Tq->V
 |.at i=>st.getD i .az
 |.sg _=>.str o
noncomputable def N4(st:List V)(r:Row):List V:=(told 0 r.2).map (who st r.1)
noncomputable def ows(st:List V)(rs:List Row):List V:=rs.foldl N4 st
open Classical in
noncomputable def bB(t:List Nat)(a c:List Pt):List Pt:=if h:∃X,Tn a c X t then h.choose else []
noncomputable def N5(K:List Row):Prop:=∀A a b B,K=A++a :: b :: B->a.1≠b.1
structure Nm(t:List Nat)(rs K:List Row):Prop where
 ch:Ch t (xU K)
 tx:nA t (xU K)=nA t (xU rs)
 ow:∀st:List V,st.length=t.length->ows st K=ows st rs
 fm:∀q∈K,bN q.2=q.2/\0<cst q.2
 ad:N5 K
 ln:K.length<=rs.length
 sb:∀q∈K,∃r∈rs,r.1=q.1
 tt:Aa (xU K)<=Aa (xU rs)
section
variable{t:List Nat}{rs K:List Row}{o:List Nat}{c:List Pt}
end
end Pv
namespace Pv
open Ev (D aU aP TY BI ME T E Es Eo It S Ss Fn big deep rep cut bh)
inductive Pa(f:Bool):List At->List At->List At->Prop
 |nil:Pa f [] [] []
 |p1 {a b r:List At} {c:Nat}:(f=true\/Bj b=true)->Pa f a b r->Pa f (.p c :: a) b (.p c :: r)
 |p2 {a b r:List At} {c:Nat}:(f=false\/Bj a=true)->Pa f a b r->Pa f a (.p c :: b) (.k :: r)
 |kk {a b r:List At}:Pa f a b r->Pa f (.k :: a) (.k :: b) (.k :: r)
 |dk {a b r:List At} {c:Nat}:Pa f a b r->Pa f (.d c :: a) (.k :: b) (.d c :: r)
 |kd {a b r:List At} {c:Nat}:Pa f a b r->Pa f (.k :: a) (.d c :: b) r
 |dd {a b r:List At} {c e:Nat}:Pa f a b r->Pa f (.d c :: a) (.d e :: b) r
structure Jn(f:Bool)(a b l m:List At)(W:Nat->List Tq):Prop where
 bk:Pa (!f) b a m
 t1:∀(i:Nat) (U:List Tq),(tA U.length m).map (sub (U++tA i a))=W i
 t2:∀(i:Nat) (U:List Tq),(tA U.length l).map (sub (U++tA i b))=W i
 ft:∀t:List Nat,gf (aA a) t=true->gf (aA b) t=true->gf (aA m) (dA a t)=true/\gf (aA l) (dA b t)=true/\dA m (dA a t)=dA l (dA b t)
noncomputable def pJ:S:=.ret (.an (.cmp .gt (.bi .len (.cons (.v 0) .nil)) (.c (.int 0))) (.cmp .eq (.ix (.ix (.v 0) (.neg (.c (.int 1)))) (.c (.int 0))) (.c (.str [112,117,116]))))
noncomputable def rU:Fn:=⟨1,1,(.cons pJ .nil)⟩
section
variable{F:List Fn}{w n aT aY bQ cB dG Hq Mq i:Nat}
variable(hs:F[aT]?=some gI)(hp:F[cB]?=some jB)(ht:F[dG]?=some (kP cB aT))(N6:F[Hq]?=some rU){one other:List Pt}{f:Bool}{r:List At}{N:Nat}
include hs hp ht N6
end
noncomputable def pS:List At->List Nat
 |[]=>[]
 |.p c :: a=>c :: pS a
 |_ :: a=>pS a
end Pv
namespace Pv
open Ev (D aU aP TY BI ME T E Es Eo It S Ss Fn big deep rep cut bh)
noncomputable def nD:List Pt->Nat
 |[]=>0
 |.drop s :: c=>s.length+nD c
 |_ :: c=>nD c
section
variable{F:List Fn}{w n i:Nat}
end
end Pv
namespace Pv
noncomputable def nP(c:List Pt):Nat:=(pS (lD c)).length
structure Ld(f:Bool)(one other l:List Pt)(t:List Nat):Prop where
 ft:aM l (aL other t)=true
 fm:bN l=l
 np:nP l=nP one
 nd:nD l<=nD one
noncomputable def tZ(rs:List (List Pt)):Nat:=(rs.map nP).sum
noncomputable def Fw(rs:List (List Pt)):Prop:=∀c∈rs,bN c=c/\nD c<=60
structure Rp(c:List Pt)(os:List (List Pt))(t:List Nat)(c':List Pt)(L:List (List Pt)):Prop where
 ft:aM c' (nA t os)=true
 ch:Ch (aL c t) L
 tx:nA (aL c t) L=aL c' (nA t os)
 tl:∀T,tY T (c :: L)=tY T (os++[c'])
 ln:L.length=os.length
 pt:tZ L=tZ os
 fw:Fw os->Fw L
 np:nP c'=nP c
 nd:nD c'<=nD c
 fm:bN c=c->bN c'=c'
structure Rs(as os:List (List Pt))(t:List Nat)(M Y:List (List Pt)):Prop where
 c1:Ch (nA t os) M
 c2:Ch (nA t as) Y
 tl:∀T,tY T (as++Y)=tY T (os++M)
 l1:M.length=as.length
 l2:Y.length=os.length
 p1:tZ M=tZ as
 p2:tZ Y=tZ os
 f1:(∀c∈as,nD c<=60)->Fw M
 f2:Fw os->Fw Y
end Pv
namespace Pv
open Ev (D aU aP TY BI ME T E Es Eo It S Ss Fn big deep rep cut bh)
noncomputable def kQ(s:Nat)(a:List (List Nat)):List Nat:=a.map λy=>y.headD s
noncomputable def vl(x:List Nat):Tq->Nat
 |.at p=>x.getD p 0
 |.sg c=>c
noncomputable def kp(g:Nat->Bool):Nat->List (List Nat)->List Nat
 |_,[]=>[]
 |i,y :: a=>if decide (y=[])&&g i then i :: kp g (i+1) a else kp g (i+1) a
inductive Pw(a:List (List Nat)):List Tq->List Tq->Prop
 |nil:Pw a [] []
 |at {p L M}:Pw a L M->Pw a (.at p :: L) (.at p :: M)
 |sg {y L M}:Pw a L M->Pw a (.sg y :: L) (.sg y :: M)
 |as {y p L M}:a[p]?=some [y]->Pw a L M->Pw a (.sg y :: L) (.at p :: M)
structure Wi(c d:List Pt):Prop where
 fa:aM d (kQ 97 (asks c))=true
 fb:aM d (kQ 98 (asks c))=true
 da:aL c (kQ 97 (asks c))=aL d (kQ 97 (asks c))
 db:aL c (kQ 98 (asks c))=aL d (kQ 98 (asks c))
end Pv
namespace Pv
open Ev (D aU aP TY BI ME T E Es Eo It S Ss Fn big deep rep cut bh)
section
variable{F:List Fn}{w n aT di LH Ac fc N7 Kn Ko bQ aY i:Nat}
noncomputable def ou(c:List Pt)(x:List Nat):Option (List Nat):=if aM c x=true then some (aL c x)else none
noncomputable def oV:Option (List Nat)->V
 |some s=>.str s
 |none=>.az
inductive PR(c d:List Pt):V->Prop
 |no:bN c=bN d->PR c d .az
 |yes {x:List Nat}:bN c≠bN d->ou c x≠ou d x->x.length<=tot c+tot d->PR c d (.str x)
end
end Pv
namespace Pv
open Ev (D aU aP TY BI ME T E Es Eo It S Ss Fn big deep rep cut bh)
theorem Hr(o:Option (List Nat)):Pv.cop .oQ (oV o) .az=some o.isNone:=by cases o<;>rfl
theorem Dp(o:Option (List Nat)):Pv.cop .lJ (oV o) .az=some (!o.isNone):=by cases o<;>rfl
section
variable{F:List Fn}{w n aT di LH Ac fc i:Nat}
end
end Pv
namespace Pv
open Ev (D aU aP TY BI ME T E Es Eo It S Ss Fn big deep b2i rep bL cT bh aD cut bO cP slots)
noncomputable def mk(x:List Nat)(l:List Pt)(k:Nat)(f:List Nat):Option (List Nat):=if k<=x.length/\aM l (x.drop k)=true then some (f++aL l (x.drop k))else none
theorem Hs(x:List Nat)(l:List Pt)(k:Nat)(f s:List Nat):mk x (.put s :: l) k f=mk x l k (f++s):=by
 unfold mk;simp only[aM,aL,List.append_assoc];rfl
theorem Dq(x:List Nat)(l:List Pt)(k n:Nat)(f:List Nat):mk x (.keep n :: l) k f=mk x l (k+n) (f++(x.drop k).take n):=by
 unfold mk;simp only[aM,aL,List.append_assoc,List.drop_drop];by_cases h:k+n<=x.length
 .have e1:n<=(x.drop k).length:=by simp;omega
  rw[decide_eq_true e1,Bool.true_and];by_cases h2:aM l (x.drop (k+n))=true
  .rw[if_pos ⟨by omega,h2⟩,if_pos ⟨h,h2⟩]
  .rw[if_neg (λz=>h2 z.2),if_neg λz=>h2 z.2]
 .rw[if_neg,if_neg λz=>h z.1];intro z;have:=z.2;rw[Bool.and_eq_true,decide_eq_true_iff]at this;have:=this.1;simp at this;omega
theorem Dr(x:List Nat)(l:List Pt)(k:Nat)(f s:List Nat)(h:(x.drop k).take s.length=s):mk x (.drop s :: l) k f=mk x l (k+s.length) f:=by
 unfold mk;simp only[aM,aL,List.drop_drop];have hl:=congrArg List.length h;simp only[List.length_take,List.length_drop]at hl;have hp:s.isPrefixOf (x.drop k)=true:=by
  rw[List.isPrefixOf_iff_prefix];rw[<-h];exact List.take_prefix _ _
 rw[hp,Bool.true_and];by_cases hk:k<=x.length
 .have:k+s.length<=x.length:=by omega
  by_cases h2:aM l (x.drop (k+s.length))=true
  .rw[if_pos ⟨hk,h2⟩,if_pos ⟨this,h2⟩]
  .rw[if_neg (λz=>h2 z.2),if_neg λz=>h2 z.2]
 .rw[if_neg (λz=>hk z.1),if_neg λz=>hk (by omega)]
theorem Ht(x:List Nat)(l:List Pt)(k:Nat)(f s:List Nat)(h:¬ (x.drop k).take s.length=s):mk x (.drop s :: l) k f=none:=by
 unfold mk;rw[if_neg];intro z;have:=z.2;simp only[aM]at this;rw[Bool.and_eq_true,List.isPrefixOf_iff_prefix]at this;obtain⟨r,e⟩:=this.1;exact h (by rw[<-e];simp)
theorem Hu(x:List Nat)(k:Nat)(f:List Nat):mk x [] k f=if k=x.length then some f else none:=by
 unfold mk;simp only[aM,aL,List.append_nil];by_cases h:k=x.length
 .rw[if_pos h,if_pos];subst h;simp
 .rw[if_neg h,if_neg];intro z;have:=z.2;simp at this;omega
theorem xV{F:List Fn}{w n i:Nat}(hf:F[i]?=some Hl)(c:List Pt)(x:List Nat)(b1:tot c<=900)(b2:x.length<=900):run F w (n+1) i [.val (bu c),.val (.str x)]=some (oV (ou c x),[]):=by
 have lx:dS .len [.str x]=some (.int (x.length:Nat)):=len_str (by omega);have hi:mk x c 0 []=ou c x:=by unfold mk ou;simp
 refine cR hf rfl ?_;refine ao (bx (bF rfl) rfl rfl ?_);refine ao (bx (bF rfl) rfl rfl ?_);refine ao (jy (vs:=c.map Pt.v) (af:=[some (.val (bu c)),some (.val (.str x)),some (.val (.int 0)),some (.val (.str [])),none,none]) (jh (ji rfl) rfl) ?_);refine eH (e:=Pt.v) (λp l fr=>∃(k:Nat) (f:List Nat) (a b:Option Sl),mk x l k f=ou c x/\f.length+tot l<=tot c/\vo a/\vo b/\fr=[some (.val (bu c)),some (.val (.str x)),some (.val (.int k)),some (.val (.str f)),a,b]) (λp q l fr ⟨k,f,a,b,hm,hf,va,vb,hfr⟩=>?_) (λp fr ⟨k,f,a,b,hm,hf,va,vb,hfr⟩=>?_) _ [] _ ⟨0,[],none,none,hi,by simp,.none,.none,rfl⟩
 .subst hfr;rw[ez]at hf;cases q with
  |put s=>
   simp only[Pt.n]at hf;rw[Hs]at hm;refine cO (g7 rfl va rfl vb) ?_;refine ao (aX (b:=true) (aV rfl (cD (aF rfl) (bF rfl) iV) rfl) (λ_=>ao (bx (aW (aF rfl) (aF rfl) (dP (by omega))) rfl rfl (aB (aB ?_)))) λh=>absurd h (by decide));rw[dg];exact⟨k,f++s,_,_,hm,by rw[List.length_append];omega,.val,.val,rfl⟩
  |keep m=>
   simp only[Pt.n]at hf;rw[Dq]at hm;have sl:fH (.str x) (some (k:Int)) (some ((k:Int)+(m:Nat)))=some (.str ((x.drop k).take m)):=by rw[gw,nu]
   refine cO (g7 rfl va rfl vb) ?_;refine ao (aX (b:=false) (aV rfl (cD (aF rfl) (bF rfl) iV) rfl) (λh=>absurd h (by decide)) λ_=>?_);refine ao (aX (b:=false) (aV rfl (cD (aF rfl) (bF rfl) iV) rfl) (λh=>absurd h (by decide)) λ_=>?_);refine ao (bx (aW (aF rfl) (lW (aF rfl) (eZ (aF rfl)) (eZ (aW (aF rfl) (aF rfl) bV)) sl) (dP (by simp;omega))) rfl rfl ?_);refine ao (bx (aW (aF rfl) (aF rfl) bV) rfl rfl (aB (aB (aB ?_))));rw[dg];exact⟨k+m,_,_,_,hm,by rw[List.length_append,List.length_take];omega,.val,.val,rfl⟩
  |drop s=>
   simp only[Pt.n]at hf;have ls:dS .len [.str s]=some (.int (s.length:Nat)):=len_str (by omega);have sl:fH (.str x) (some (k:Int)) (some ((k:Int)+(s.length:Nat)))=some (.str ((x.drop k).take s.length)):=by rw[gw,nu]
   have ne:cop .ne (.str ((x.drop k).take s.length)) (.str s)=some (!decide ((x.drop k).take s.length=s)):=by rw[qW,nY];rfl
   refine cO (g7 rfl va rfl vb) ?_;refine ao (aX (b:=false) (aV rfl (cD (aF rfl) (bF rfl) iV) rfl) (λh=>absurd h (by decide)) λ_=>?_);refine ao (aX (b:=true) (aV rfl (cD (aF rfl) (bF rfl) iV) rfl) (λ_=>?_) λh=>absurd h (by decide));by_cases he:(x.drop k).take s.length=s
   .rw[Dr _ _ _ _ _ he]at hm;refine ao (aX (b:=false) (aV rfl (cD (lW (aF rfl) (eZ (aF rfl)) (eZ (aW (aF rfl) (gy (aK (aF rfl) bH) ls) bV)) sl) (aF rfl) ne) (by rw[decide_eq_true he];rfl)) (λh=>absurd h (by decide)) λ_=>aB ?_);refine ao (bx (aW (aF rfl) (gy (aK (aF rfl) bH) ls) bV) rfl rfl (aB (aB (aB ?_))));rw[dg];exact⟨k+s.length,f,_,_,hm,by omega,.val,.val,rfl⟩
   .rw[Ht _ _ _ _ _ he]at hm;refine ao (aX (b:=true) (aV rfl (cD (lW (aF rfl) (eZ (aF rfl)) (eZ (aW (aF rfl) (gy (aK (aF rfl) bH) ls) bV)) sl) (aF rfl) ne) (by rw[decide_eq_false he];rfl)) (λ_=>ao (dh (bF rfl) ?_)) λh=>absurd h (by decide));rw[<-hm];exact⟨rfl,rfl⟩
 .subst hfr;rw[Hu]at hm;rw[<-hm];have sh:eG [some (.val (bu c)),some (.val (.str x)),some (.val (.int (k:Nat))),some (.val (.str f)),a,b]=[some (.val (bu c)),some (.val (.str x)),some (.val (.int (k:Nat))),some (.val (.str f)),a,b]:=by
   show _ :: _ :: _ :: _ :: [a.map Sl.fX,b.map Sl.fX]=_;rw[eN va,eN vb];rfl
  refine ao (dh (af:=[some (.val (bu c)),some (.val (.str x)),some (.val (.int (k:Nat))),some (.val (.str f)),a,b]) ?_ ⟨rfl,rfl⟩);refine(congrArg (ev _ _ _) sh).trans ?_;by_cases hk:k=x.length
  .rw[if_pos hk];exact m9 (b:=true) (aV rfl (cD (aF rfl) (gy (aK (aF rfl) bH) lx) uR) (decide_eq_true (by rw[hk]))) (λ_=>aF rfl) λh=>absurd h (by decide)
  .rw[if_neg hk];exact m9 (b:=false) (aV rfl (cD (aF rfl) (gy (aK (aF rfl) bH) lx) uR) (decide_eq_false (by omega))) (λh=>absurd h (by decide)) λ_=>bF rfl
end Pv
namespace Pv
open Ev (D aU aP TY BI ME T E Es Eo It S Ss Fn)
section
variable{F:List Fn}{w n aT fc i:Nat}
theorem xW(hs:F[aT]?=some gI)(hf:F[fc]?=some (rG aT))(hd:F[i]?=some (xN fc))(c:List Pt)(t:List Nat)(h1:tot c<=10000)(h2:t.length<=10000)(h:aM c t=false):cL F w (n+3) i [.val (bu c),.val (.str t)]=some 0:=by
 have r:=lX (w:=w) (n:=n) hs hf c t h1 h2;rw[h]at r;refine Ji hd rfl (xu (iL F w (n+2)) (Jg (b:=true) (pV (aV rfl (eV (bM rfl (aF rfl) (bM rfl (aF rfl) cg)) (call2 r)) rfl)) ?_));rw[if_pos rfl];exact xu (iL F w (n+2)) Jh
end
end Pv
set_option maxRecDepth 100000
namespace Lw
@[reducible] noncomputable def LI:Ev.S:=.iff (.cmp .eq (.ix (.v 0) (.c (.int 0))) (.c (.str [107,101,101,112]))) (.cons (.ret (.ix (.v 0) (.c (.int 1)))) .nil) .nil
@[reducible] noncomputable def LJ:Ev.S:=.ret (.bi .len (.cons (.ix (.v 0) (.c (.int 1))) .nil))
@[reducible] noncomputable def f0:Ev.Fn:=⟨1,1,(.cons LI (.cons LJ .nil))⟩
@[reducible] noncomputable def LK:Ev.S:=.set 1 (.lst .nil)
@[reducible] noncomputable def LL:Ev.S:=.set 2 (.c (.int 0))
@[reducible] noncomputable def LM:Ev.S:=.set 3 (.c (.str []))
@[reducible] noncomputable def LN:Ev.S:=.set 4 (.c (.str []))
@[reducible] noncomputable def LO:Ev.Ss:=(.cons (.iff (.cmp .eq (.v 5) (.c (.str [100,114,111,112]))) (.cons (.set 3 (.bin .add (.v 3) (.v 6))) .nil) (.cons (.iff (.cmp .eq (.v 5) (.c (.str [112,117,116]))) (.cons (.set 4 (.bin .add (.v 4) (.v 6))) .nil) (.cons (.iff (.cmp .gt (.v 6) (.c (.int 0))) (.cons (.iff (.orr (.cmp .ne (.v 3) (.c (.str []))) (.cmp .ne (.v 4) (.c (.str [])))) (.cons (.exp (.me .extend (.v 1) (.cons (.cl 2 (.cons (.v 2) (.cons (.v 3) (.cons (.v 4) .nil)))) .nil))) (.cons (.set 2 (.c (.int 0))) (.cons (.set 3 (.c (.str []))) (.cons (.set 4 (.c (.str []))) .nil)))) .nil) (.cons (.set 2 (.bin .add (.v 2) (.v 6))) .nil)) .nil) .nil)) .nil)) .nil)
@[reducible] noncomputable def LP:Ev.S:=.for (.many [5,6]) (.seq (.v 0)) LO
@[reducible] noncomputable def LQ:Ev.S:=.exp (.me .extend (.v 1) (.cons (.cl 2 (.cons (.v 2) (.cons (.v 3) (.cons (.v 4) .nil)))) .nil))
@[reducible] noncomputable def LR:Ev.S:=.ret (.gG (.v 1))
@[reducible] noncomputable def f1:Ev.Fn:=⟨1,7,(.cons LK (.cons LL (.cons LM (.cons LN (.cons LP (.cons LQ (.cons LR .nil)))))))⟩
@[reducible] noncomputable def LS:Ev.S:=.set 3 (.lst .nil)
@[reducible] noncomputable def LU:Ev.S:=.iff (.cmp .gt (.v 0) (.c (.int 0))) (.cons (.exp (.me .append (.v 3) (.cons (.tup (.cons (.c (.str [107,101,101,112])) (.cons (.v 0) .nil))) .nil))) .nil) .nil
@[reducible] noncomputable def LV:Ev.S:=.iff (.cmp .ne (.v 1) (.c (.str []))) (.cons (.exp (.me .append (.v 3) (.cons (.tup (.cons (.c (.str [100,114,111,112])) (.cons (.v 1) .nil))) .nil))) .nil) .nil
@[reducible] noncomputable def LW:Ev.S:=.iff (.cmp .ne (.v 2) (.c (.str []))) (.cons (.exp (.me .append (.v 3) (.cons (.tup (.cons (.c (.str [112,117,116])) (.cons (.v 2) .nil))) .nil))) .nil) .nil
@[reducible] noncomputable def LX:Ev.S:=.ret (.v 3)
@[reducible] noncomputable def f2:Ev.Fn:=⟨3,4,(.cons LS (.cons LU (.cons LV (.cons LW (.cons LX .nil)))))⟩
@[reducible] noncomputable def LY:Ev.S:=.set 2 (.c (.int 0))
@[reducible] noncomputable def LZ:Ev.Ss:=(.cons (.iff (.an (.cmp .eq (.ix (.v 3) (.c (.int 0))) (.c (.str [100,114,111,112]))) (.cmp .ne (.sl (.v 1) (.yes (.v 2)) (.yes (.bin .add (.v 2) (.cl 0 (.cons (.v 3) .nil))))) (.ix (.v 3) (.c (.int 1))))) (.cons (.ret (.c (.bl false))) .nil) .nil) (.cons (.iff (.cmp .ne (.ix (.v 3) (.c (.int 0))) (.c (.str [112,117,116]))) (.cons (.set 2 (.bin .add (.v 2) (.cl 0 (.cons (.v 3) .nil)))) .nil) .nil) .nil))
@[reducible] noncomputable def L0:Ev.S:=.for (.one 3) (.seq (.v 0)) LZ
@[reducible] noncomputable def L1:Ev.S:=.ret (.cmp .eq (.v 2) (.bi .len (.cons (.v 1) .nil)))
@[reducible] noncomputable def f3:Ev.Fn:=⟨2,4,(.cons LY (.cons L0 (.cons L1 .nil)))⟩
@[reducible] noncomputable def L3:Ev.S:=.iff (.nt (.cl 3 (.cons (.v 0) (.cons (.v 1) .nil)))) (.cons (.cX 0) .nil) .nil
@[reducible] noncomputable def L4:Ev.S:=.set 2 (.lst .nil)
@[reducible] noncomputable def L5:Ev.S:=.set 3 (.c (.int 0))
@[reducible] noncomputable def L6:Ev.Ss:=(.cons (.iff (.cmp .eq (.v 4) (.c (.str [112,117,116]))) (.cons (.exp (.me .append (.v 2) (.cons (.v 5) .nil))) .nil) (.cons (.iff (.cmp .eq (.v 4) (.c (.str [100,114,111,112]))) (.cons (.set 3 (.bin .add (.v 3) (.bi .len (.cons (.v 5) .nil)))) .nil) (.cons (.exp (.me .append (.v 2) (.cons (.sl (.v 1) (.yes (.v 3)) (.yes (.bin .add (.v 3) (.v 5)))) .nil))) (.cons (.set 3 (.bin .add (.v 3) (.v 5))) .nil))) .nil)) .nil)
@[reducible] noncomputable def L7:Ev.S:=.for (.many [4,5]) (.seq (.v 0)) L6
@[reducible] noncomputable def L8:Ev.S:=.ret (.me .join (.c (.str [])) (.cons (.v 2) .nil))
@[reducible] noncomputable def f4:Ev.Fn:=⟨2,6,(.cons L3 (.cons L4 (.cons L5 (.cons L7 (.cons L8 .nil)))))⟩
@[reducible] noncomputable def Ma:Ev.S:=.ret (.cl 1 (.cons (.tup (.cons (.tup (.cons (.c (.str [107,101,101,112])) (.cons (.v 0) .nil))) .nil)) .nil))
@[reducible] noncomputable def f5:Ev.Fn:=⟨1,1,(.cons Ma .nil)⟩
@[reducible] noncomputable def Mb:Ev.S:=.iff (.cmp .eq (.v 0) (.lst .nil)) (.cons (.ret (.bin .mul (.c (.int 7)) (.v 1))) .nil) .nil
@[reducible] noncomputable def Mc:Ev.S:=.ret (.bin .add (.ix (.v 0) (.bin .mod (.v 1) (.bi .len (.cons (.v 0) .nil)))) (.bin .mul (.c (.int 6553)) (.bin .fdiv (.v 1) (.bi .len (.cons (.v 0) .nil)))))
@[reducible] noncomputable def f6:Ev.Fn:=⟨2,2,(.cons Mb (.cons Mc .nil))⟩
@[reducible] noncomputable def Me:Ev.S:=.set 3 (.bin .mod (.bin .add (.bin .mul (.bin .mod (.cl 6 (.cons (.v 0) (.cons (.v 1) .nil))) (.c (.int 2147483563))) (.c (.int 69069))) (.bin .mul (.c (.int 104723)) (.bin .add (.v 1) (.c (.int 1))))) (.c (.int 2147483563)))
@[reducible] noncomputable def Mf:Ev.S:=.set 3 (.bin .mod (.bin .add (.bin .mul (.v 3) (.v 3)) (.bin .fdiv (.v 3) (.c (.int 3)))) (.c (.int 2147483399)))
@[reducible] noncomputable def Mg:Ev.S:=.ret (.bin .mod (.bin .fdiv (.bin .mod (.bin .add (.bin .mul (.v 3) (.v 3)) (.bin .fdiv (.v 3) (.c (.int 7)))) (.c (.int 2147483647))) (.c (.int 11))) (.v 2))
@[reducible] noncomputable def f7:Ev.Fn:=⟨3,4,(.cons Me (.cons Mf (.cons Mg .nil)))⟩
@[reducible] noncomputable def Mh:Ev.S:=.ret (.me .join (.c (.str [])) (.cons (.comp (.ix (.c (.str [97,98,99,32])) (.cl 7 (.cons (.v 0) (.cons (.bin .add (.bin .add (.v 1) (.c (.int 1))) (.v 3)) (.cons (.c (.int 4)) .nil))))) (.one 3) (.gj (.cons (.cl 7 (.cons (.v 0) (.cons (.v 1) (.cons (.bin .add (.v 2) (.c (.int 1))) .nil)))) .nil)) .no) .nil))
@[reducible] noncomputable def f8:Ev.Fn:=⟨3,4,(.cons Mh .nil)⟩
@[reducible] noncomputable def Mi:Ev.S:=.set 3 (.tup .nil)
@[reducible] noncomputable def Mj:Ev.Ss:=(.cons (.iff (.cmp .eq (.cl 7 (.cons (.v 0) (.cons (.bin .add (.v 1) (.bin .mul (.c (.int 4)) (.v 4))) (.cons (.c (.int 4)) .nil)))) (.c (.int 0))) (.cons (.set 5 (.bin .mul (.ix (.c (.str [97,98,122])) (.cl 7 (.cons (.v 0) (.cons (.bin .add (.bin .add (.v 1) (.bin .mul (.c (.int 4)) (.v 4))) (.c (.int 1))) (.cons (.c (.int 3)) .nil))))) (.bin .add (.c (.int 1)) (.cl 7 (.cons (.v 0) (.cons (.bin .add (.bin .add (.v 1) (.bin .mul (.c (.int 4)) (.v 4))) (.c (.int 2))) (.cons (.c (.int 2)) .nil))))))) (.cons (.set 3 (.bin .add (.v 3) (.tup (.cons (.tup (.cons (.c (.str [112,117,116])) (.cons (.v 5) .nil))) .nil)))) .nil)) .nil) (.cons (.iff (.cmp .lt (.v 4) (.bi .len (.cons (.v 2) .nil))) (.cons (.set 6 (.cmp .gt (.cl 7 (.cons (.v 0) (.cons (.bin .add (.bin .add (.v 1) (.bin .mul (.c (.int 4)) (.v 4))) (.c (.int 3))) (.cons (.c (.int 3)) .nil)))) (.c (.int 0)))) (.cons (.set 3 (.bin .add (.v 3) (.tup (.cons (.fG (.v 6) (.tup (.cons (.c (.str [107,101,101,112])) (.cons (.c (.int 1)) .nil))) (.tup (.cons (.c (.str [100,114,111,112])) (.cons (.ix (.v 2) (.v 4)) .nil)))) .nil)))) .nil)) .nil) .nil))
@[reducible] noncomputable def Ml:Ev.S:=.for (.one 4) (.gj (.cons (.bin .add (.bi .len (.cons (.v 2) .nil)) (.c (.int 1))) .nil)) Mj
@[reducible] noncomputable def Mm:Ev.S:=.ret (.v 3)
@[reducible] noncomputable def f9:Ev.Fn:=⟨3,7,(.cons Mi (.cons Ml (.cons Mm .nil)))⟩
@[reducible] noncomputable def Ju:Ev.S:=.set 2 (.c (.int 0))
@[reducible] noncomputable def Jv:Ev.S:=.set 3 (.c (.str []))
@[reducible] noncomputable def Jw:Ev.Ss:=(.cons (.iff (.cmp .eq (.v 4) (.c (.str [112,117,116]))) (.cons (.set 3 (.bin .add (.v 3) (.v 5))) .nil) (.cons (.iff (.cmp .eq (.v 4) (.c (.str [100,114,111,112]))) (.cons (.iff (.cmp .ne (.sl (.v 1) (.yes (.v 2)) (.yes (.bin .add (.v 2) (.bi .len (.cons (.v 5) .nil))))) (.v 5)) (.cons (.ret (.c (.az))) .nil) .nil) (.cons (.set 2 (.bin .add (.v 2) (.bi .len (.cons (.v 5) .nil)))) .nil)) (.cons (.set 3 (.bin .add (.v 3) (.sl (.v 1) (.yes (.v 2)) (.yes (.bin .add (.v 2) (.v 5)))))) (.cons (.set 2 (.bin .add (.v 2) (.v 5))) .nil))) .nil)) .nil)
@[reducible] noncomputable def Jx:Ev.S:=.for (.many [4,5]) (.seq (.v 0)) Jw
@[reducible] noncomputable def Jy:Ev.S:=.ret (.fG (.cmp .eq (.v 2) (.bi .len (.cons (.v 1) .nil))) (.v 3) (.c (.az)))
@[reducible] noncomputable def qv:Ev.Fn:=⟨2,6,(.cons Ju (.cons Jv (.cons Jx (.cons Jy .nil))))⟩
@[reducible] noncomputable def Jz:Ev.S:=.tr 4 4 (.cons (.v 0) (.cons (.v 1) .nil))
@[reducible] noncomputable def wD:Ev.Fn:=⟨2,3,(.cons Jz .nil)⟩
@[reducible] noncomputable def Bk:Ev.S:=.set 1 (.cl 8 (.cons (.v 0) (.cons (.c (.int 0)) (.cons (.c (.int 6)) .nil))))
@[reducible] noncomputable def Bm:Ev.S:=.set 2 (.cl 8 (.cons (.v 0) (.cons (.c (.int 10)) (.cons (.c (.int 6)) .nil))))
@[reducible] noncomputable def Bo:Ev.S:=.set 3 (.cl 7 (.cons (.v 0) (.cons (.c (.int 20)) (.cons (.bin .add (.bi .len (.cons (.v 1) .nil)) (.c (.int 1))) .nil))))
@[reducible] noncomputable def Bp:Ev.S:=.set 4 (.lst (.cons (.v 1) (.cons (.v 2) (.cons (.bin .add (.sl (.v 1) .no (.yes (.v 3))) (.sl (.v 1) (.yes (.bin .add (.v 3) (.c (.int 1)))) .no)) (.cons (.bin .add (.bin .add (.sl (.v 1) .no (.yes (.v 3))) (.c (.str [97]))) (.sl (.v 1) (.yes (.v 3)) .no)) (.cons (.bin .add (.bin .add (.sl (.v 1) .no (.yes (.v 3))) (.c (.str [113]))) (.sl (.v 1) (.yes (.bin .add (.v 3) (.c (.int 1)))) .no)) (.cons (.c (.str [])) .nil)))))))
@[reducible] noncomputable def vc:Ev.Ss:=(.cons (.set 7 (.cl 10 (.cons (.v 5) (.cons (.v 6) .nil)))) (.cons (.set 8 (.cl 3 (.cons (.v 5) (.cons (.v 6) .nil)))) (.cons (.iff (.orr (.nt (.eX (.v 8) [.bool])) (.cmp .ne (.v 8) (.cmp .lJ (.v 7) (.c (.az))))) (.cons (.ret (.c (.bl false))) .nil) .nil) (.cons (.iff (.cmp .ne (.cl 11 (.cons (.v 5) (.cons (.v 6) .nil))) (.fG (.cmp .oQ (.v 7) (.c (.az))) (.tup (.cons (.c (.str [114,101,102,117,115,101,100])) (.cons (.c (.int 0)) .nil))) (.v 7))) (.cons (.ret (.c (.bl false))) .nil) .nil) .nil))))
@[reducible] noncomputable def vd:Ev.Ss:=(.cons (.for (.one 6) (.seq (.v 4)) vc) .nil)
@[reducible] noncomputable def Bq:Ev.S:=.for (.one 5) (.seq (.tup (.cons (.cl 9 (.cons (.v 0) (.cons (.c (.int 30)) (.cons (.v 1) .nil)))) (.cons (.cl 9 (.cons (.v 0) (.cons (.c (.int 70)) (.cons (.v 2) .nil)))) .nil)))) vd
@[reducible] noncomputable def Br:Ev.S:=.ret (.an (.cmp .eq (.cl 4 (.cons (.cl 5 (.cons (.bi .len (.cons (.v 1) .nil)) .nil)) (.cons (.v 1) .nil))) (.v 1)) (.an (.cmp .eq (.cl 5 (.cons (.c (.int 0)) .nil)) (.tup .nil)) (.cmp .eq (.cl 5 (.cons (.c (.int 4)) .nil)) (.tup (.cons (.tup (.cons (.c (.str [107,101,101,112])) (.cons (.c (.int 4)) .nil))) .nil)))))
@[reducible] noncomputable def qJ:Ev.Fn:=⟨1,9,(.cons Bk (.cons Bm (.cons Bo (.cons Bp (.cons Bq (.cons Br .nil))))))⟩
noncomputable def prog:List Ev.Fn:=[f0,f1,f2,f3,f4,f5,f6,f7,f8,f9,qv,wD,qJ]
end Lw
set_option maxRecDepth 100000
namespace Lw
open PySem PySem.Spec PyProof.Rows L2 Sm
open Ev (D O Hh Fr R ay E Es Eo T S Ss Fl Src aU aP TY BI ME)
noncomputable def top(i:Nat):Stmt:=PySem.Challenge.pw_pastways_k10_doing.main.body.getD i (.Pass ⟨0,0,0,0⟩)
abbrev i0 (a:Nat->Addr) (d:Nat->FuncData):FI:=⟨"size",a 0,d 0,["part"]⟩
abbrev i1 (a:Nat->Addr) (d:Nat->FuncData):FI:=⟨"form",a 1,d 1,["change"]⟩
abbrev i2 (a:Nat->Addr) (d:Nat->FuncData):FI:=⟨"stretch",a 2,d 2,["kept","gone","new"]⟩
abbrev i3 (a:Nat->Addr) (d:Nat->FuncData):FI:=⟨"fits",a 3,d 3,["change","text"]⟩
abbrev i4 (a:Nat->Addr) (d:Nat->FuncData):FI:=⟨"done",a 4,d 4,["change","text"]⟩
abbrev i5 (a:Nat->Addr) (d:Nat->FuncData):FI:=⟨"nothing",a 5,d 5,["many"]⟩
abbrev i6 (a:Nat->Addr) (d:Nat->FuncData):FI:=⟨"_law_cell",a 6,d 6,["_law_script","_law_k"]⟩
abbrev i7 (a:Nat->Addr) (d:Nat->FuncData):FI:=⟨"_law_drawn",a 7,d 7,["_law_script","_law_k","_law_many"]⟩
abbrev i8 (a:Nat->Addr) (d:Nat->FuncData):FI:=⟨"_law_text",a 8,d 8,["_law_script","_law_at","_law_most"]⟩
abbrev i9 (a:Nat->Addr) (d:Nat->FuncData):FI:=⟨"_law_change",a 9,d 9,["_law_script","_law_at","_law_text_here"]⟩
abbrev Hv (a:Nat->Addr) (d:Nat->FuncData):FI:=⟨"_law_made",a 10,d 10,["_law_change_here","_law_text_here"]⟩
abbrev Kp (a:Nat->Addr) (d:Nat->FuncData):FI:=⟨"_law_told",a 11,d 11,["_law_change_here","_law_text_here"]⟩
abbrev i12 (a:Nat->Addr) (d:Nat->FuncData):FI:=⟨"law",a 12,d 12,["_law_script"]⟩
noncomputable def rL:List Str:=["ValueError","bool","isinstance","len","range","tuple"]
theorem Hw:("bool" : Str)∈rL:=by decide +kernel
theorem rM:("isinstance" : Str)∈rL:=by decide +kernel
theorem JB:("len" : Str)∈rL:=by decide +kernel
theorem Ds:("range" : Str)∈rL:=by decide +kernel
theorem Dt:("tuple" : Str)∈rL:=by decide +kernel
noncomputable def tb (a:Nat->Addr) (d:Nat->FuncData):Tb:=⟨prog,100000,[i0 a d,i1 a d,i2 a d,i3 a d,i4 a d,i5 a d,i6 a d,i7 a d,i8 a d,i9 a d,Hv a d,Kp a d,i12 a d],rL,[("__name__",.str [108,97,119,95,112,97,115,116,119,97,121,115,95,107,49,48,95,100,111,105,110,103])],[]⟩
section
variable{a:Nat->Addr}{d:Nat->FuncData}{n:Nat}
abbrev n0:List Str:=["part"]
theorem s0:bK n0 ["part"] (au (top 1)):=⟨rfl,rfl,rfl,by decide +kernel,rfl,by decide +kernel,by decide +kernel⟩
abbrev n1:List Str:=["change","parts","kept","gone","new","word","what"]
theorem s1:bK n1 ["change"] (au (top 2)):=⟨rfl,rfl,rfl,by decide +kernel,rfl,by decide +kernel,by decide +kernel⟩
abbrev n2:List Str:=["kept","gone","new","parts"]
theorem s2:bK n2 ["kept","gone","new"] (au (top 3)):=⟨rfl,rfl,rfl,by decide +kernel,rfl,by decide +kernel,by decide +kernel⟩
abbrev n3:List Str:=["change","text","place","part"]
theorem s3:bK n3 ["change","text"] (au (top 11)):=⟨rfl,rfl,rfl,by decide +kernel,rfl,by decide +kernel,by decide +kernel⟩
abbrev n4:List Str:=["change","text","pieces","place","word","what"]
theorem s4:bK n4 ["change","text"] (au (top 12)):=⟨rfl,rfl,rfl,by decide +kernel,rfl,by decide +kernel,by decide +kernel⟩
abbrev n5:List Str:=["many"]
theorem s5:bK n5 ["many"] (au (top 13)):=⟨rfl,rfl,rfl,by decide +kernel,rfl,by decide +kernel,by decide +kernel⟩
abbrev n6:List Str:=["_law_script","_law_k"]
theorem s6:bK n6 ["_law_script","_law_k"] (au (top 15)):=⟨rfl,rfl,rfl,by decide +kernel,rfl,by decide +kernel,by decide +kernel⟩
abbrev n7:List Str:=["_law_script","_law_k","_law_many","_law_cell_here"]
theorem s7:bK n7 ["_law_script","_law_k","_law_many"] (au (top 16)):=⟨rfl,rfl,rfl,by decide +kernel,rfl,by decide +kernel,by decide +kernel⟩
abbrev n8:List Str:=["_law_script","_law_at","_law_most"]
theorem s8:bK n8 ["_law_script","_law_at","_law_most"] (au (top 17)):=⟨rfl,rfl,rfl,by decide +kernel,rfl,by decide +kernel,by decide +kernel⟩
abbrev n9:List Str:=["_law_script","_law_at","_law_text_here","_law_found","_law_k","_law_new","_law_is_kept"]
theorem s9:bK n9 ["_law_script","_law_at","_law_text_here"] (au (top 18)):=⟨rfl,rfl,rfl,by decide +kernel,rfl,by decide +kernel,by decide +kernel⟩
abbrev Hx:List Str:=["_law_change_here","_law_text_here","_law_place","_law_found","_law_word","_law_what"]
theorem J3:bK Hx ["_law_change_here","_law_text_here"] (au (top 19)):=⟨rfl,rfl,rfl,by decide +kernel,rfl,by decide +kernel,by decide +kernel⟩
abbrev Hy:List Str:=["_law_change_here","_law_text_here","_law_e"]
theorem AF:bK Hy ["_law_change_here","_law_text_here"] (au (top 21)):=⟨rfl,rfl,rfl,by decide +kernel,rfl,by decide +kernel,by decide +kernel⟩
abbrev Hz:List Str:=["_law_script","_law_text_here","_law_other","_law_at","_law_texts","_law_change_here","_law_one","_law_due","_law_said"]
theorem s12:bK Hz ["_law_script"] (au (top 22)):=⟨rfl,rfl,rfl,by decide +kernel,rfl,by decide +kernel,by decide +kernel⟩
noncomputable def eS:List (Str×Nat):=[("NoFit",0),("Clash",1),("NoPlace",2),("NoNumber",3)]
noncomputable def rz:List Nat:=[4]
noncomputable def su:List Nat:=[4]
theorem hz:Ev.kX rz 0 prog=true:=by decide +kernel
noncomputable def Mn(s:Stmt):List Expr:=match cJ s with
 |[.Try [.Return (some (.Call _ xs _ _)) _] _ _ _ _]=>xs
 |_=>[]
set_option maxHeartbeats 0 in
theorem gg{cl:Nat->Addr}:allB (tb a d) n [(f0.body,top 1,n0),(f1.body,top 2,n1),(f2.body,top 3,n2),(f3.body,top 11,n3),(f4.body,top 12,n4),(f5.body,top 13,n5),(f6.body,top 15,n6),(f7.body,top 16,n7),(f8.body,top 17,n8),(f9.body,top 18,n9),(qv.body,top 19,Hx),(qJ.body,top 22,Hz)]/\lT (tb a d) cl eS rz su n (au (top 12)) n4 true (List.range n4.length) f4.body (cJ (top 12))/\JA (tb a d) n (au (top 21)) Hy true (List.range Hy.length) (.cons (.v 0) (.cons (.v 1) .nil)) (Mn (top 21)):=by
 refine⟨⟨?_,?_,?_,?_,?_,?_,?_,?_,?_,?_,?_,?_,trivial⟩,pe ?_ (Ct ?_ (by decide +kernel) (pe ?_ (Cu) (nT (by decide +kernel))) (nT (by decide +kernel))) (nT (by decide +kernel)),?_⟩;all_goals try dsimp only
 all_goals repeat (first
  | ((with_reducible show JE _ _ _ _ _ _ _ (.BoolOp _ [_] _));refine Ep ?_)
  | ((with_reducible show JE _ _ _ _ _ _ (.v _) _);exact jv (by decide +kernel))
  | ((with_reducible show JA _ _ _ _ _ _ (.cons _ _) _);refine BV ?_ ?_)
  | ((with_reducible show j0 _ _ _ _ _ _ (.cons _ _) _);refine qm ?_ ?_)
  | ((with_reducible show JA _ _ _ _ _ _ .nil _);refine El)
  | ((with_reducible show j0 _ _ _ _ _ _ .nil _);refine sI)
  | ((with_reducible show JE _ _ _ _ _ _ (.c (.int _)) _);refine Ei)
  | ((with_reducible show JE _ _ _ _ _ _ (.bin .add _ _) _);refine mJ (λX g=>E1) ?_ ?_)
  | ((with_reducible show JE _ _ _ _ _ _ (.c (.str _)) _);refine Ek)
  | ((with_reducible show JE _ _ _ _ _ _ (.cl _ _) _);refine J5 (by decide +kernel) rfl rfl ?_)
  | ((with_reducible show JS _ _ _ _ _ _ (.iff _ _ _) _);refine EL ?_ ?_ ?_)
  | ((with_reducible show JS _ _ _ _ _ _ (.ret _) _);refine vV ?_)
  | ((with_reducible show JE _ _ _ _ _ _ (.tup _) _);refine Em ?_)
  | ((with_reducible show JO _ _ _ _ _ _ (.yes _) _);refine EA ?_)
  | ((with_reducible show JE _ _ _ _ _ _ (.bi .len _) _);refine Io (x:="len") (id:="len") (λX g=>Fb) ?_ (hb:=JB) (hv:=by decide +kernel))
  | ((with_reducible show JT _ _ _ _ _ _ (.cmp .eq _ _) _);refine jZ (λX g=>AO g) ?_ ?_ (fQ _))
  | ((with_reducible show JE _ _ _ _ _ _ (.bin .mul _ _) _);refine mJ (λX g=>E9) ?_ ?_)
  | ((with_reducible show JE _ _ _ _ _ _ (.ix _ _) _);refine Ik (λX g=>Iz) ?_ ?_)
  | ((with_reducible show JE _ _ _ _ _ _ (.sl _ _ _) _);refine Im (λX g=>E8) ?_ ?_ ?_)
  | ((with_reducible show JT _ _ _ _ _ _ (.cmp .ne _ _) _);refine jZ (λX g=>Iv g) ?_ ?_ (fQ _))
  | ((with_reducible show JS _ _ _ _ _ _ (.for _ _ _) _);refine EM ?_ ?_ ?_)
  | ((with_reducible show JS _ _ _ _ _ _ (.exp _) _);refine EK ?_)
  | ((with_reducible show JI _ _ _ _ _ _ (.seq _) _ _);refine EF ?_)
  | ((with_reducible show oS _ _ _ _ _ _ (_ :: _) _);refine MZ (by decide +kernel) ?_)
  | ((with_reducible show JE _ _ _ _ _ _ (.bin .mod _ _) _);refine mJ (λX g=>E2) ?_ ?_)
  | ((with_reducible show JO _ _ _ _ _ _ .no _);refine Il)
  | ((with_reducible show JE _ _ _ _ _ _ (.lst _) _);refine En ?_)
  | ((with_reducible show JE _ _ _ _ _ _ (.me .append _ (.cons _ _)) _);refine ur PySem.F.plainAttrs_list PySem.F.slot_list_append PySem.F.type_list_append (λX g=>wo) rfl ?_ ?_)
  | ((with_reducible show JG _ _ _ _ _ _ (.one _) _);exact MY (by decide +kernel))
  | ((with_reducible show JE _ _ _ _ _ _ (.cmp .eq _ _) _);refine qj (λX g=>AO g) ?_ ?_ (fQ _))
  | ((with_reducible show JE _ _ _ _ _ _ (.bin .fdiv _ _) _);refine mJ (λX g=>Ce) ?_ ?_)
  | ((with_reducible show JE _ _ _ _ _ _ (.c .az) _);refine Ej)
  | ((with_reducible show JG _ _ _ _ _ _ (.many _) _);refine B4 ?_)
  | ((with_reducible show oS _ _ _ _ _ _ [] _);refine B3)
  | ((with_reducible show JE _ _ _ _ _ _ (.c (.bl _)) _);refine Ih)
  | ((with_reducible show JE _ _ _ _ _ _ (.fG _ _ _) _);refine Er ?_ ?_ ?_)
  | ((with_reducible show JT _ _ _ _ _ _ (.cmp .gt _ _) _);refine jZ (λX g=>AQ) ?_ ?_ (fQ _))
  | ((with_reducible show JT _ _ _ _ _ _ (.orr _ _) _);refine Lo ?_ ?_)
  | ((with_reducible show JW _ _ _ _ _ _ (.orr _ _) (.BoolOp _ (_ :: _ :: _) _));refine vQ ?_ ?_)
  | ((with_reducible show JW _ _ _ _ _ _ _ (.BoolOp .Or [_] _));refine BW ?_)
  | ((with_reducible show JE _ _ _ _ _ _ (.me .extend _ (.cons _ _)) _);refine ur PySem.F.plainAttrs_list PySem.F.slot_list_extend PySem.F.type_list_extend (λX g=>wu) rfl ?_ ?_)
  | ((with_reducible show JT _ _ _ _ _ _ (.nt _) _);refine Ij ?_)
  | ((with_reducible show JE _ _ _ _ _ _ (.me .join _ (.cons _ _)) _);refine ur PySem.F.plainAttrs_str PySem.F.slot_str_join PySem.F.type_str_join (λX g=>Ck) rfl ?_ ?_)
  | ((with_reducible show JI _ _ _ _ _ _ (.gj (.cons _ .nil)) _ _);refine BZ ?_ (hb:=Ds))
  | ((with_reducible show JE _ _ _ _ _ _ (.an _ _) (.BoolOp _ (_ :: _ :: _) _));refine Ii ?_ ?_)
  | ((with_reducible show JE _ _ _ _ _ _ (.gG _) _);refine Fe ?_ (h1:=Dt))
  | ((with_reducible show JT _ _ _ _ _ _ (.an _ _) _);refine Ln ?_ ?_)
  | ((with_reducible show JW _ _ _ _ _ _ (.an _ _) (.BoolOp _ (_ :: _ :: _) _));refine Ay ?_ ?_)
  | ((with_reducible show JW _ _ _ _ _ _ _ (.BoolOp .And [_] _));refine Eu ?_)
  | ((with_reducible show JS _ _ _ _ _ _ (.cX _) _);refine Ff)
  | ((with_reducible show JE _ _ _ _ _ _ (.comp _ _ _ _) _);refine IB (by decide +kernel) (by decide +kernel) ?_ ?_ ?_ ?_)
  | ((with_reducible show JC _ _ _ _ _ _ .no _);refine Iq)
  | ((with_reducible show JT _ _ _ _ _ _ (.cmp .lt _ _) _);refine jZ (λX g=>Iw) ?_ ?_ (fQ _))
  | ((with_reducible show JE _ _ _ _ _ _ (.cmp .gt _ _) _);refine qj (λX g=>AQ) ?_ ?_ (fQ _))
  | ((with_reducible show JE _ _ _ _ _ _ (.eX _ [.bool]) _);refine Fc (t:=.bool) (T:="bool") ?_ (by decide +kernel) (h1:=rM) (h2:=Hw))
  | ((with_reducible show JE _ _ _ _ _ _ (.cmp .lJ _ _) _);refine qj (λX g=>Cc) ?_ ?_ (fQ _))
  | ((with_reducible show JT _ _ _ _ _ _ (.cmp .oQ _ _) _);refine jZ (λX g=>EZ) ?_ ?_ (fQ _))
  | ((with_reducible show JS _ _ _ _ _ _ (.set _ _) _);refine Lm ?_ ?_;decide +kernel)
  | ((with_reducible show JT _ _ _ _ _ _ _ _);refine Ey ?_))
end
end Lw
set_option maxRecDepth 100000
namespace Lw
open PySem PySem.Spec PyProof.Rows L2 Sm
open Ev (D O Hh Fr R ay E Es Eo T S Ss Fl Src aU aP TY BI ME)
theorem om{α:Type _}{l:List α}(h:l.length=1):∃a,l=[a]:=by
 rcases l with _|⟨a,_|⟨b,l⟩⟩<;>simp at h ⊢
theorem oq{α:Type _}{l:List α}(h:l.length=2):∃a b,l=[a,b]:=by
 rcases l with _|⟨a,l⟩
 .simp at h
 .obtain⟨b,rfl⟩:=om (l:=l) (by simpa using h);exact⟨a,b,rfl⟩
theorem ve{α:Type _}{l:List α}(h:l.length=3):∃a b c,l=[a,b,c]:=by
 rcases l with _|⟨a,l⟩
 .simp at h
 .obtain⟨b,c,rfl⟩:=oq (l:=l) (by simpa using h);exact⟨a,b,c,rfl⟩
structure Fg(K:PySem.W.Frag)(x:Str)(i:Nat)(p:Addr)(d:FuncData):Prop where
 a:PySem.W.nsIn K mainGlobals x=some (some (.ref p))
 f:jF K x x (top i) p d
theorem Fg.t{K:PySem.W.Frag}{h:Heap}{mg:Str->Option Value}{x:Str}{i:Nat}{p:Addr}{d:FuncData}{ps:List Str}(F:Fg K x i p d)(X:K.In h)(G:h.Ns mainGlobals mg)(b:Binds K d ps []):mg x=some (.ref p)/\PySem.W.keepIn K (.ref p)=true/\Binds K d ps []:=⟨PySem.W.mg_of X G F.a,F.f.kp,b⟩
theorem all_mk {l:PySem.W.OpenLaw}{w:World}{K:PySem.W.Frag}{h:Heap}{mg:Str->Option Value}{fa p0 p1 p2 p3 p4 p5 p6 p7 p8 p9 AW AX wA:Addr}{d0 d1 d2 d3 d4 d5 d6 d7 d8 d9 Kq Kr HA:FuncData}(X:K.In h) (G:h.Ns mainGlobals mg) (N8:mg "law" = some (.ref fa))
  (F0:Fg K "size" 1 p0 d0)
  (F1:Fg K "form" 2 p1 d1)
  (F2:Fg K "stretch" 3 p2 d2)
  (F3:Fg K "fits" 11 p3 d3)
  (F4:Fg K "done" 12 p4 d4)
  (F5:Fg K "nothing" 13 p5 d5)
  (F6:Fg K "_law_cell" 15 p6 d6)
  (F7:Fg K "_law_drawn" 16 p7 d7)
  (F8:Fg K "_law_text" 17 p8 d8)
  (F9:Fg K "_law_change" 18 p9 d9)
  (HC:Fg K "_law_made" 19 AW Kq)
  (HD:Fg K "_law_told" 21 AX Kr)
  (xX:Fg K "law" 22 wA HA)
  {pr Wc C0 C1 C2 C3:Addr} {dr:FuncData} (FR:Fg K "_law_refused" 20 pr dr) (xw:PySem.W.nsIn K mainGlobals "WayError" = some (some (.ref Wc)))
  (X0:qI K "NoFit" C0 Wc C0 C1 C2 C3 0)
  (X1:qI K "Clash" C1 Wc C0 C1 C2 C3 1)
  (X2:qI K "NoPlace" C2 Wc C0 C1 C2 C3 2)
  (X3:qI K "NoNumber" C3 Wc C0 C1 C2 C3 3)
  (z0:PySem.W.nsIn K mainGlobals "ValueError" = some none)
  (z1:PySem.W.nsIn K mainGlobals "bool" = some none)
  (z2:PySem.W.nsIn K mainGlobals "isinstance" = some none)
  (z3:PySem.W.nsIn K mainGlobals "len" = some none)
  (z4:PySem.W.nsIn K mainGlobals "range" = some none)
  (z5:PySem.W.nsIn K mainGlobals "tuple" = some none)
  {t0:Tok} (q0:PySem.W.nsIn K mainGlobals "__name__" = some (some (.str "law_pastways_k10_doing" t0)))
  : ∃fd:FuncData,(∀(s:Shared) (v:Value),BindsTo s fd ⟨[v],[]⟩ [("_law_script",v)])/\∀base:Heap,K.In base->base.Ns mainGlobals mg->dz l.prog w K mg base gU 60 fa fd ["_law_script"] (jH K prog 100000 60 12):=by
 have e:=N8.symm.trans (PySem.W.mg_of X G xX.a);have e2:wA=fa:=by injection e with e;injection e with e;exact e.symm
 subst e2
 let aa:Nat->Addr:=λk=>[p0,p1,p2,p3,p4,p5,p6,p7,p8,p9,AW,AX,wA].getD k p0
 let dd:Nat->FuncData:=λk=>[d0,d1,d2,d3,d4,d5,d6,d7,d8,d9,Kq,Kr,HA].getD k d0
 have T:Top l.prog w K mg (tb aa dd):=by
  refine⟨λf i hi=>(show ∀i∈(tb aa dd).fi,mg i.name=some (.ref i.addr)/\PySem.W.keepIn K (.ref i.addr)=true/\Binds K i.fd i.ps []from ?_) i (List.mem_of_getElem? hi),?_,?_,?_⟩
  .refine List.forall_mem_cons.mpr ⟨F0.t X G (F0.f.binds λ_ _ _ _ _ _ us hl=>by obtain⟨_,rfl⟩:=om hl;rfl),?_⟩;refine List.forall_mem_cons.mpr ⟨F1.t X G (F1.f.binds λ_ _ _ _ _ _ us hl=>by obtain⟨_,rfl⟩:=om hl;rfl),?_⟩;refine List.forall_mem_cons.mpr ⟨F2.t X G (F2.f.binds λ_ _ _ _ _ _ us hl=>by obtain⟨_,_,_,rfl⟩:=ve hl;rfl),?_⟩;refine List.forall_mem_cons.mpr ⟨F3.t X G (F3.f.binds λ_ _ _ _ _ _ us hl=>by obtain⟨_,_,rfl⟩:=oq hl;rfl),?_⟩;refine List.forall_mem_cons.mpr ⟨F4.t X G (F4.f.binds λ_ _ _ _ _ _ us hl=>by obtain⟨_,_,rfl⟩:=oq hl;rfl),?_⟩;refine List.forall_mem_cons.mpr ⟨F5.t X G (F5.f.binds λ_ _ _ _ _ _ us hl=>by obtain⟨_,rfl⟩:=om hl;rfl),?_⟩;refine List.forall_mem_cons.mpr ⟨F6.t X G (F6.f.binds λ_ _ _ _ _ _ us hl=>by obtain⟨_,_,rfl⟩:=oq hl;rfl),?_⟩;refine List.forall_mem_cons.mpr ⟨F7.t X G (F7.f.binds λ_ _ _ _ _ _ us hl=>by obtain⟨_,_,_,rfl⟩:=ve hl;rfl),?_⟩;refine List.forall_mem_cons.mpr ⟨F8.t X G (F8.f.binds λ_ _ _ _ _ _ us hl=>by obtain⟨_,_,_,rfl⟩:=ve hl;rfl),?_⟩;refine List.forall_mem_cons.mpr ⟨F9.t X G (F9.f.binds λ_ _ _ _ _ _ us hl=>by obtain⟨_,_,_,rfl⟩:=ve hl;rfl),?_⟩;refine List.forall_mem_cons.mpr ⟨HC.t X G (HC.f.binds λ_ _ _ _ _ _ us hl=>by obtain⟨_,_,rfl⟩:=oq hl;rfl),?_⟩;refine List.forall_mem_cons.mpr ⟨HD.t X G (HD.f.binds λ_ _ _ _ _ _ us hl=>by obtain⟨_,_,rfl⟩:=oq hl;rfl),?_⟩;refine List.forall_mem_cons.mpr ⟨xX.t X G (xX.f.binds λ_ _ _ _ _ _ us hl=>by obtain⟨_,rfl⟩:=om hl;rfl),?_⟩;exact λ_ h=>nomatch h
  .exact(show ∀x∈rL,mg x=none from List.forall_mem_cons.mpr ⟨PySem.W.mg_none_of X G z0,List.forall_mem_cons.mpr ⟨PySem.W.mg_none_of X G z1,List.forall_mem_cons.mpr ⟨PySem.W.mg_none_of X G z2,List.forall_mem_cons.mpr ⟨PySem.W.mg_none_of X G z3,List.forall_mem_cons.mpr ⟨PySem.W.mg_none_of X G z4,List.forall_mem_cons.mpr ⟨PySem.W.mg_none_of X G z5,λ_ h=>nomatch h⟩⟩⟩⟩⟩⟩)
  .exact λx d hx=>(show ∀y∈(tb aa dd).cs,∃v u,mg y.1=some u/\RelV v u/\sH K y.2 v from List.forall_mem_cons.mpr ⟨⟨.str "law_pastways_k10_doing",_,PySem.W.mg_of X G q0,⟨_,rfl⟩,λ_ _=>⟨by decide +kernel,by decide⟩⟩,λ_ h=>nomatch h⟩) (x,d) hx
  .exact λx d hx=>(show ∀y∈(tb aa dd).dk,∃a,mg y.1=some (.ref a)/\∀h:Heap,K.In h->StrTab l.prog w h a (tabOf y.2)from λ_ h=>nomatch h) (x,d) hx
 refine⟨HA,λs v=>?_,λbase _ _=>?_⟩
 .obtain⟨oc,od,kV,doc,pm,an,cdv,ct,osl,e,_⟩:=xX.f.ex;rw[e];exact .of_eq rfl
 let cl:Nat->Addr:=λk=>[C0,C1,C2,C3].getD k C0
 have hc:∀x c,(x,c)∈eS->mg x=some (.ref (cl c))/\sU K (cl c):=λx c hx=>(show ∀y∈eS,mg y.1=some (.ref (cl y.2))/\sU K (cl y.2)from List.forall_mem_cons.mpr ⟨⟨PySem.W.mg_of X G X0.ns,X0.rs⟩,List.forall_mem_cons.mpr ⟨⟨PySem.W.mg_of X G X1.ns,X1.rs⟩,List.forall_mem_cons.mpr ⟨⟨PySem.W.mg_of X G X2.ns,X2.rs⟩,List.forall_mem_cons.mpr ⟨⟨PySem.W.mg_of X G X3.ns,X3.rs⟩,λ_ h=>nomatch h⟩⟩⟩⟩) (x,c) hx;have kc:∀c,c<4->(λC c=>AV K C c C0 C1 C2 C3) (cl c) c/\PySem.W.exmOne K (.ref (cl c)) (.ref Wc)=some true:=λc h=>match c,h with
  |0,_=>⟨X0.cs,X0.em⟩
  |1,_=>⟨X1.cs,X1.em⟩
  |2,_=>⟨X2.cs,X2.em⟩
  |3,_=>⟨X3.cs,X3.em⟩
 have R:yL K mg pr dr (top 20) Wc (λC c=>AV K C c C0 C1 C2 C3):=⟨FR.f,⟨rfl,rfl,rfl,by decide +kernel,rfl,by decide +kernel,by decide +kernel⟩,FR.f.binds λ_ _ _ _ _ _ us hl=>by obtain⟨_,rfl⟩:=om hl;rfl,PySem.W.mg_of X G FR.a,PySem.W.mg_of X G xw,λY a oe C c h1 h2 h3 h4 hp ho hd k=>yJ hp ho hd (by rw[h3];exact k) ⟨(by show Y.env.scope.names.lookup _=_;rw[h2];rfl),(by show Y.env.scope.names.lookup _=_;rw[h2];rfl),(by show Y.env.scope.names.lookup _=_;rw[h2];rfl),(by show Y.env.scope.names.lookup _=_;rw[h2];rfl),(by show Y.env.scope.names.lookup _=_;rw[h2];rfl),(by show Y.env.scope.names.lookup _=_;rw[h2];rfl),by rw[h4];exact PySem.W.mg_of X G X0.ns,by rw[h4];exact PySem.W.mg_of X G X1.ns,by rw[h4];exact PySem.W.mg_of X G X2.ns,by rw[h4];exact PySem.W.mg_of X G X3.ns,by rw[h4];exact PySem.W.mg_none_of X G z2,by rw[h4];exact PySem.W.mg_none_of X G z0⟩ h1 (by rw[h2];rfl) (by rw[h2];rfl) rfl rfl⟩
 refine(nU (P:=l.prog) (w:=w) (G:=tb aa dd) (cl:=cl) (su:=su) (base:=base) (λn A0 A1=>⟨λf i hi=>?_,λf i hi hu=>?_⟩) 60).1 12 (i12 aa dd) rfl
 .match f,hi with
  |0,hi=>obtain rfl:i0 aa dd=i:=Option.some.inj hi;exact fk (i:=i0 aa dd) T A0 F0.f s0 rfl rfl (@allB.get _ _ _ 0 (f0.body,top 1,n0) (gg (cl:=cl)).1 rfl)
  |1,hi=>obtain rfl:i1 aa dd=i:=Option.some.inj hi;exact fk (i:=i1 aa dd) T A0 F1.f s1 rfl rfl (@allB.get _ _ _ 1 (f1.body,top 2,n1) (gg (cl:=cl)).1 rfl)
  |2,hi=>obtain rfl:i2 aa dd=i:=Option.some.inj hi;exact fk (i:=i2 aa dd) T A0 F2.f s2 rfl rfl (@allB.get _ _ _ 2 (f2.body,top 3,n2) (gg (cl:=cl)).1 rfl)
  |3,hi=>obtain rfl:i3 aa dd=i:=Option.some.inj hi;exact fk (i:=i3 aa dd) T A0 F3.f s3 rfl rfl (@allB.get _ _ _ 3 (f3.body,top 11,n3) (gg (cl:=cl)).1 rfl)
  |4,hi=>obtain rfl:i4 aa dd=i:=Option.some.inj hi;exact fk (i:=i4 aa dd) T A0 F4.f s4 rfl rfl (@allB.get _ _ _ 4 (f4.body,top 12,n4) (gg (cl:=cl)).1 rfl)
  |5,hi=>obtain rfl:i5 aa dd=i:=Option.some.inj hi;exact fk (i:=i5 aa dd) T A0 F5.f s5 rfl rfl (@allB.get _ _ _ 5 (f5.body,top 13,n5) (gg (cl:=cl)).1 rfl)
  |6,hi=>obtain rfl:i6 aa dd=i:=Option.some.inj hi;exact fk (i:=i6 aa dd) T A0 F6.f s6 rfl rfl (@allB.get _ _ _ 6 (f6.body,top 15,n6) (gg (cl:=cl)).1 rfl)
  |7,hi=>obtain rfl:i7 aa dd=i:=Option.some.inj hi;exact fk (i:=i7 aa dd) T A0 F7.f s7 rfl rfl (@allB.get _ _ _ 7 (f7.body,top 16,n7) (gg (cl:=cl)).1 rfl)
  |8,hi=>obtain rfl:i8 aa dd=i:=Option.some.inj hi;exact fk (i:=i8 aa dd) T A0 F8.f s8 rfl rfl (@allB.get _ _ _ 8 (f8.body,top 17,n8) (gg (cl:=cl)).1 rfl)
  |9,hi=>obtain rfl:i9 aa dd=i:=Option.some.inj hi;exact fk (i:=i9 aa dd) T A0 F9.f s9 rfl rfl (@allB.get _ _ _ 9 (f9.body,top 18,n9) (gg (cl:=cl)).1 rfl)
  |10,hi=>obtain rfl:Hv aa dd=i:=Option.some.inj hi;exact fk (i:=Hv aa dd) T A0 HC.f J3 rfl rfl (@allB.get _ _ _ 10 (qv.body,top 19,Hx) (gg (cl:=cl)).1 rfl)
  |11,hi=>obtain rfl:Kp aa dd=i:=Option.some.inj hi;exact Cw (ix:=2) (j:=i4 aa dd) T A0 A1 (by show prog.length<=1000;decide) R kc HD.f AF rfl rfl rfl rfl (by decide +kernel) rfl (gg (cl:=cl)).2.2 (show qA (au (top 21)) "done" = true by decide +kernel) rfl rfl rfl rfl
  |12,hi=>obtain rfl:i12 aa dd=i:=Option.some.inj hi;exact fk (i:=i12 aa dd) T A0 xX.f s12 rfl rfl (@allB.get _ _ _ 11 (qJ.body,top 22,Hz) (gg (cl:=cl)).1 rfl)
  |j+13,hi=>exact nomatch (show(none:Option FI)=some i from hi)
 .match f,hi,hu with
  |4,hi,_=>obtain rfl:i4 aa dd=i:=Option.some.inj hi;exact FE (i:=i4 aa dd) T A0 A1 hz hc F4.f s4 rfl rfl (gg (cl:=cl)).2.1
  |0,_,hu=>exact absurd hu (by decide)
  |1,_,hu=>exact absurd hu (by decide)
  |2,_,hu=>exact absurd hu (by decide)
  |3,_,hu=>exact absurd hu (by decide)
  |5,_,hu=>exact absurd hu (by decide)
  |6,_,hu=>exact absurd hu (by decide)
  |7,_,hu=>exact absurd hu (by decide)
  |8,_,hu=>exact absurd hu (by decide)
  |9,_,hu=>exact absurd hu (by decide)
  |10,_,hu=>exact absurd hu (by decide)
  |11,_,hu=>exact absurd hu (by decide)
  |12,_,hu=>exact absurd hu (by decide)
  |j+13,hi,_=>exact nomatch (show(none:Option FI)=some i from hi)
end Lw
namespace Lg
open Pv
open Lw (prog wD qJ vc vd Bk Bm Bo Bp Bq Br)
open Ev (deep big rep cut bh)
theorem Bs(ns:List Int)(k:Int)(x:List Nat)(b:Nat)(h:x.length<=b):(chg ns k x).length<=2*b+2/\tot (chg ns k x)<=3*b+3:=by
 have h1:=ku ns k x (x.length+1);have h2:=pG ns k x (x.length+1);simp only[chg];omega
theorem Ad(u:List Nat):aM [.keep u.length] u=true/\aL [.keep u.length] u=u:=by simp[aM,aL]
theorem drawn{ns:List Int}(k:Int)(m:Nat):∃p:Nat,bT ns k ((m:Int)+1)=(p:Int)/\p<=m:=by
 have h1:=iG ns k (many:=(m:Int)+1) (by omega);have h2:=iH ns k (many:=(m:Int)+1) (by omega);exact⟨(bT ns k ((m:Int)+1)).toNat,by omega,by omega⟩
theorem HF{α:Type}(l:List α)(k:Nat)(h:k<=l.length):cut l none (some (k:Int))=l.take k:=by
 have h1:¬ (k:Int)<0:=by omega
 simp only[cut,Ev.aD,h1,if_false,Int.toNat_natCast,Nat.min_eq_left h];simp
theorem xY{α:Type}(l:List α)(k:Nat):cut l (some (k:Int)) none=l.drop k:=by
 have h1:¬ (k:Int)<0:=by omega
 simp only[cut,Ev.aD,h1,if_false,Int.toNat_natCast];by_cases h:k<=l.length
 .rw[Nat.min_eq_left h,List.take_of_length_le (by simp)]
 .rw[Nat.min_eq_right (by omega),List.drop_of_length_le (Nat.le_refl _),List.drop_of_length_le (by omega)];simp
section
variable{w n:Nat}{ns:List Int}(hn:ns.length<=63)
noncomputable def g8(c:List Pt)(x:List Nat):V:=if aM c x=true then .str (aL c x)else .tup [.str [114,101,102,117,115,101,100],.int 0]
theorem Ae(c:List Pt)(x:List Nat)(h1:tot c<=900)(h2:x.length<=900)(h3:c.length<=900):run prog w (n+4) 11 [.val (bu c),.val (.str x)]=some (g8 c x,[]):=by
 refine cR (fn:=wD) rfl rfl ?_;by_cases h:aM c x=true
 .have r:=rJ (F:=prog) (aT:=0) (fc:=3) (i:=4) (w:=w) (n:=n) rfl rfl rfl c x (by omega) (by omega) (by omega) h;refine ao (Jk (vs:=[bu c,.str x]) (bM rfl (aF rfl) (bM rfl (aF rfl) cg)) r ⟨?_,rfl⟩);rw[g8,if_pos h]
 .have h':aM c x=false:=by simpa using h
  have r:=xW (F:=prog) (aT:=0) (fc:=3) (i:=4) (w:=w) (n:=n) rfl rfl rfl c x (by omega) (by omega) h';refine ao (G7 (vs:=[bu c,.str x]) (bM rfl (aF rfl) (bM rfl (aF rfl) cg)) (by decide) r (by decide) ⟨?_,rfl⟩);rw[g8,if_neg h];rfl
theorem Dv(c:List Pt)(x:List Nat):Pv.cop .ne (g8 c x) (g8 c x)=some false:=by
 unfold g8;split
 .rw[g6];simp
 .rfl
theorem HG(c:List Pt)(x:List Nat):(!(ou c x).isNone)=aM c x:=by
 unfold ou;cases h:aM c x<;>simp
theorem JD(a:Bool):Pv.cop .ne (.bl a) (.bl a)=some false:=by cases a<;>rfl
theorem turn{a0 a1 a2 a3 a4 a6 a7 a8:Option Sl}(v6:vo a6)(v7:vo a7)(v8:vo a8)(c:List Pt)(x:List Nat)(h1:tot c<=900)(h2:x.length<=900)(h3:c.length<=900){Q:Fr->Prop}{Q2:Fr->Prop}{Q3:V->Fr->Prop}
  (q:∀b7 b8,vo b7->vo b8->Q [a0,a1,a2,a3,a4,some (.val (bu c)),some (.val (.str x)),b7,b8]) :
  Wp (turnF (run prog w (n+4)) w (.one 6) vc (.str x) [a0,a1,a2,a3,a4,some (.val (bu c)),a6,a7,a8]) (fl Q Q2 Q3):=by
 have r1:=λfr=>call2 (fr:=fr) (xV (F:=prog) (i:=10) (w:=w) (n:=n+3) rfl c x h1 h2);have r2:=λfr=>call2 (fr:=fr) (lX (F:=prog) (aT:=0) (i:=3) (w:=w) (n:=n+2) rfl rfl c x (by omega) (by omega));have r3:=λfr=>call2 (fr:=fr) (Ae (w:=w) (n:=n) c x h1 h2 h3);have dn:∀b:Bool,b=(ou c x).isNone->(if b then V.tup [.str [114,101,102,117,115,101,100],.int 0]else oV (ou c x))=g8 c x:=λb hb=>by
  subst hb;unfold ou g8;by_cases h:aM c x=true
  .rw[if_pos h,if_pos h];rfl
  .rw[if_neg h,if_neg h];rfl
 refine cO (bind1 rfl v6) ?_;refine ao (bx (eV (bM rfl (aF rfl) (bM rfl (aF rfl) cg)) (r1 _)) rfl (iI rfl v7) ?_);refine ao (bx (eV (bM rfl (aF rfl) (bM rfl (aF rfl) cg)) (r2 _)) rfl (iI rfl v8) ?_);have nb:Pv.cop .ne (.bl (aM c x)) (.bl (!(ou c x).isNone))=some false:=by rw[HG];exact JD _
 refine ao (aX (b:=false) (q8 (pV (b:=true) (aV rfl (Jc (aF rfl) rfl) rfl)) (aV rfl (cD (aF rfl) (cD (aF rfl) (bF rfl) (Dp _)) nb) rfl)) (λh=>absurd h (by decide)) λ_=>aB ?_);have e2:ev (run prog w (n+4)) true (.fG (.cmp .oQ (.v 7) (.c (.az))) (.tup (.cons (.c (.str [114,101,102,117,115,101,100])) (.cons (.c (.int 0)) .nil))) (.v 7)) [a0,a1,a2,a3,a4,some (.val (bu c)),some (.val (.str x)),some (.val (oV (ou c x))),some (.val (.bl (aM c x)))]=.ok (g8 c x) [a0,a1,a2,a3,a4,some (.val (bu c)),some (.val (.str x)),some (.val (oV (ou c x))),some (.val (.bl (aM c x)))]:=by
  refine m9 (b:=(ou c x).isNone) (aV rfl (cD (aF rfl) (bF rfl) (Hr _)) rfl) (λh=>?_) (λh=>?_)
  .have:=dn true h.symm;rw[<-this];exact gE (aK (bF rfl) (aK (bF rfl) bH)) rfl
  .have:=dn false h.symm;rw[<-this];exact aF rfl
 refine ao (aX (b:=false) (aV rfl (cD (eV (bM rfl (aF rfl) (bM rfl (aF rfl) cg)) (r3 _)) e2 (Dv c x)) rfl) (λh=>absurd h (by decide)) λ_=>aB ?_);refine aB ?_;rw[dg];exact q _ _ .val .val
theorem texts{a0 a1 a2 a3 a6 a7 a8:Option Sl}{a4:Sl}{L:List (List Nat)}(h4:a4=.own (L.map V.str)\/a4=.val (.lst (L.map V.str)))(hL:∀x∈L,x.length<=900)(v6:vo a6)(v7:vo a7)(v8:vo a8)(c:List Pt)(h1:tot c<=900)(h3:c.length<=900){Q:Fl->Fr->Prop}
  (q:∀b6 b7 b8,vo b6->vo b7->vo b8->Q .nx [a0,a1,a2,a3,some (.val (.lst (L.map V.str))),some (.val (bu c)),b6,b7,b8]) :
  Wp (exs (run prog w (n+4)) w vd [a0,a1,a2,a3,some a4,some (.val (bu c)),a6,a7,a8]) Q:=by
 have wk:kL [4] [a0,a1,a2,a3,some a4,some (.val (bu c)),a6,a7,a8]=[a0,a1,a2,a3,some (.val (.lst (L.map V.str))),some (.val (bu c)),a6,a7,a8]:=by rcases h4 with rfl|rfl<;>rfl
 refine ao (jy (vs:=L.map V.str) (af:=[a0,a1,a2,a3,some (.val (.lst (L.map V.str))),some (.val (bu c)),a6,a7,a8]) (by rw[show itv (.seq (.v 4))=[4]from rfl,wk];exact jh (ji rfl) rfl) ?_);refine eH (e:=V.str) (λp l fr=>(∀x∈l,x.length<=900)/\∃b6 b7 b8,vo b6/\vo b7/\vo b8/\fr=[a0,a1,a2,a3,some (.val (.lst (L.map V.str))),some (.val (bu c)),b6,b7,b8]) (λp x l fr ⟨hl,b6,b7,b8,u6,u7,u8,hfr⟩=>?_) (λp fr ⟨_,b6,b7,b8,u6,u7,u8,hfr⟩=>?_) L [] _ ⟨hL,a6,a7,a8,v6,v7,v8,rfl⟩
 .subst hfr;exact turn u6 u7 u8 c x h1 (hl x (by simp)) h3 λb7 b8 u7 u8=>⟨λy hy=>hl y (by simp[hy]),_,b7,b8,.val,u7,u8,rfl⟩
 .subst hfr;exact aB (q _ _ _ u6 u7 u8)
include hn in
theorem HH:run prog w (n+9) 12 [.val (gb ns)]=some (.bl true,[]):=by
 have ht:(txt ns 0 6).length<=6:=tS ns 0 (most:=6) (by decide);have ho:(txt ns 10 6).length<=6:=tS ns 10 (most:=6) (by decide);have c1:=λfr=>eK (fr:=fr) (q9 (F:=prog) (c:=6) (dr:=7) (t:=8) (w:=w) (n:=n+5) rfl rfl hn rfl 0 6 (by decide) (by decide));have c2:=λfr=>eK (fr:=fr) (q9 (F:=prog) (c:=6) (dr:=7) (t:=8) (w:=w) (n:=n+5) rfl rfl hn rfl 10 6 (by decide) (by decide));have c3:=λfr=>eK (fr:=fr) (nh (F:=prog) (c:=6) (dr:=7) (t:=9) (w:=w) (n:=n+5) rfl rfl hn rfl 30 (txt ns 0 6) (by omega));have c4:=λfr=>eK (fr:=fr) (nh (F:=prog) (c:=6) (dr:=7) (t:=9) (w:=w) (n:=n+5) rfl rfl hn rfl 70 (txt ns 10 6) (by omega));obtain⟨l1,t1⟩:=Bs ns 30 (txt ns 0 6) 6 ht;obtain⟨l2,t2⟩:=Bs ns 70 (txt ns 10 6) 6 ho;generalize txt ns 0 6=t at ht c1 c3 l1 t1
 generalize txt ns 10 6=o at ho c2 c4 l2 t2
 generalize chg ns 30 t=one at c3 l1 t1
 generalize chg ns 70 o=two at c4 l2 t2
 obtain⟨p,hp,pl⟩:=drawn (ns:=ns) 20 t.length;have c5:=λfr=>eK (fr:=fr) (er (F:=prog) (c:=6) (dr:=7) (w:=w) (n:=n+6) rfl rfl hn 20 (many:=(t.length:Int)+1) (by omega));rw[hp]at c5;have ln:dS .len [.str t]=some (.int (t.length:Nat)):=len_str (by omega);have ct:fH (.str t) none (some (p:Int))=some (.str (t.take p)):=by rw[gw,HF t p pl]
 have cf:fH (.str t) (some (p:Int)) none=some (.str (t.drop p)):=by rw[gw,xY]
 have N9:fH (.str t) (some ((p:Int)+1)) none=some (.str (t.drop (p+1))):=by rw[gw];exact congrArg (λx=>some (V.str x)) (xY t (p+1))
 have Oa:=dP (a:=t.take p) (b:=t.drop (p+1)) (by simp;omega);have Ob:=dP (a:=t.take p) (b:=[97]) (by simp;omega);have Oc:=dP (a:=t.take p++[97]) (b:=t.drop p) (by simp;omega);have Od:=dP (a:=t.take p) (b:=[113]) (by simp;omega);have Oe:=dP (a:=t.take p++[113]) (b:=t.drop (p+1)) (by simp;omega);refine cR (fn:=qJ) rfl rfl ?_;refine ao (bx (eV (bM rfl (aF rfl) (bM rfl (bF rfl) (bM rfl (bF rfl) cg))) (c1 _)) rfl rfl ?_);refine ao (bx (eV (bM rfl (aF rfl) (bM rfl (bF rfl) (bM rfl (bF rfl) cg))) (c2 _)) rfl rfl ?_);refine ao (bx (eV (bM rfl (aF rfl) (bM rfl (bF rfl) (bM rfl (aW (gy (aK (aF rfl) bH) ln) (bF rfl) bV) cg))) (c5 _)) rfl rfl ?_)
 let L:List (List Nat):=[t,o,t.take p++t.drop (p+1),t.take p++[97]++t.drop p,t.take p++[113]++t.drop (p+1),[]]
 have hL:∀x∈L,x.length<=900:=λx hx=>by
  simp only[L,List.mem_cons,List.not_mem_nil,or_false]at hx;rcases hx with rfl|rfl|rfl|rfl|rfl|rfl <;> (try simp)<;>omega
 have e1:∀{k:Bool} {fr:Fr},fr[1]?=some (some (.val (.str t)))->fr[3]?=some (some (.val (.int p)))->ev (run prog w (n+8)) k (.sl (.v 1) .no (.yes (.v 3))) fr=.ok (.str (t.take p)) fr:=λ{k fr} h1 h3=>lW (aF (by unfold gS;rw[h1])) pU (eZ (aF (by unfold gS;rw[h3]))) ct;have e2:∀{k:Bool} {fr:Fr},fr[1]?=some (some (.val (.str t)))->fr[3]?=some (some (.val (.int p)))->ev (run prog w (n+8)) k (.sl (.v 1) (.yes (.bin .add (.v 3) (.c (.int 1)))) .no) fr=.ok (.str (t.drop (p+1))) fr:=λ{k fr} h1 h3=>lW (aF (by unfold gS;rw[h1])) (eZ (aW (aF (by unfold gS;rw[h3])) (bF rfl) bV)) pU N9;have e3:∀{k:Bool} {fr:Fr},fr[1]?=some (some (.val (.str t)))->fr[3]?=some (some (.val (.int p)))->ev (run prog w (n+8)) k (.sl (.v 1) (.yes (.v 3)) .no) fr=.ok (.str (t.drop p)) fr:=λ{k fr} h1 h3=>lW (aF (by unfold gS;rw[h1])) (eZ (aF (by unfold gS;rw[h3]))) pU cf;have eL:ev (run prog w (n+8)) false (.lst (.cons (.v 1) (.cons (.v 2) (.cons (.bin .add (.sl (.v 1) .no (.yes (.v 3))) (.sl (.v 1) (.yes (.bin .add (.v 3) (.c (.int 1)))) .no)) (.cons (.bin .add (.bin .add (.sl (.v 1) .no (.yes (.v 3))) (.c (.str [97]))) (.sl (.v 1) (.yes (.v 3)) .no)) (.cons (.bin .add (.bin .add (.sl (.v 1) .no (.yes (.v 3))) (.c (.str [113]))) (.sl (.v 1) (.yes (.bin .add (.v 3) (.c (.int 1)))) .no)) (.cons (.c (.str [])) .nil))))))) [some (.val (gb ns)),some (.val (.str t)),some (.val (.str o)),some (.val (.int p)),none,none,none,none,none]=.ok (.lst (L.map V.str)) [some (.val (gb ns)),some (.val (.str t)),some (.val (.str o)),some (.val (.int p)),none,none,none,none,none]:=uQ (aK (aF rfl) (aK (aF rfl) (aK (aW (e1 rfl rfl) (e2 rfl rfl) Oa) (aK (aW (aW (e1 rfl rfl) (bF rfl) Ob) (e3 rfl rfl) Oc) (aK (aW (aW (e1 rfl rfl) (bF rfl) Od) (e2 rfl rfl) Oe) (aK (bF rfl) bH)))))) rfl;refine ao (ng (l:=L.map V.str) eL rfl rfl ?_);refine ao (jy (vs:=[bu one,bu two]) (jh (gE (aK (eV (bM rfl (aF rfl) (bM rfl (bF rfl) (bM rfl (aF rfl) cg))) (c3 _)) (aK (eV (bM rfl (aF rfl) (bM rfl (bF rfl) (bM rfl (aF rfl) cg))) (c4 _)) bH)) rfl) rfl) ?_);refine eH (e:=bu) (λq l fr=>(∀c∈l,tot c<=900/\c.length<=900)/\∃a4 b5 b6 b7 b8,(a4=Sl.own (L.map V.str)\/a4=.val (.lst (L.map V.str)))/\vo b5/\vo b6/\vo b7/\vo b8/\fr=[some (.val (gb ns)),some (.val (.str t)),some (.val (.str o)),some (.val (.int p)),some a4,b5,b6,b7,b8]) (λq c l fr ⟨hl,a4,b5,b6,b7,b8,u4,u5,u6,u7,u8,hfr⟩=>?_) (λq fr ⟨_,a4,b5,b6,b7,b8,u4,u5,u6,u7,u8,hfr⟩=>?_) [one,two] [] _ ⟨λc hc=>by
   simp only[List.mem_cons,List.not_mem_nil,or_false]at hc;rcases hc with rfl|rfl<;>omega,_,none,none,none,none,.inl rfl,.none,.none,.none,.none,rfl⟩
 .subst hfr;obtain⟨h1,h3⟩:=hl c (by simp);refine cO (bind1 rfl u5) ?_;refine texts (n:=n+4) u4 hL u6 u7 u8 c h1 h3 λd6 d7 d8 w6 w7 w8=>?_;rw[dg];exact⟨λy hy=>hl y (by simp[hy]),_,_,d6,d7,d8,.inr rfl,.val,w6,w7,w8,rfl⟩
 .subst hfr;have n1:=λfr=>m8 (fr:=fr) (iZ (F:=prog) (aY:=2) (bQ:=1) (i:=5) (w:=w) (n:=n+5) rfl rfl rfl t.length (by omega));have n2:=λfr=>m8 (fr:=fr) (iZ (F:=prog) (aY:=2) (bQ:=1) (i:=5) (w:=w) (n:=n+5) rfl rfl rfl 0 (by omega));have n3:=λfr=>m8 (fr:=fr) (iZ (F:=prog) (aY:=2) (bQ:=1) (i:=5) (w:=w) (n:=n+5) rfl rfl rfl 4 (by omega));have ka:=Ad t;have tf:tot (bN [.keep t.length])=t.length:=by rw[zD];simp[tot,Pt.n]
  have sS:(bN [.keep t.length]).length<=900:=by
   have:=tW (Dl (zE [.keep t.length]));omega
  have dn:=λfr=>call2 (fr:=fr) (rJ (F:=prog) (aT:=0) (fc:=3) (i:=4) (w:=w) (n:=n+5) rfl rfl rfl (bN [.keep t.length]) t (by omega) (by omega) (by omega) (by rw[zF];exact ka.1));rw[xJ,ka.2]at dn;have hs:eG [some (.val (gb ns)),some (.val (.str t)),some (.val (.str o)),some (.val (.int p)),some a4,b5,b6,b7,b8]=[some (.val (gb ns)),some (.val (.str t)),some (.val (.str o)),some (.val (.int p)),some (.val (.lst (L.map V.str))),b5,b6,b7,b8]:=by
   have e:∀{b:Option Sl},vo b->b.map Sl.fX=b:=λh=>eN h;unfold eG;simp only[List.map_cons,List.map_nil,e u5,e u6,e u7,e u8];rcases u4 with rfl|rfl<;>rfl
  refine ao (dh (v:=.bl true) (by
   rw[hs];exact Bd (cD (b:=true) (eV (bM rfl (eV (bM rfl (gy (aK (aF rfl) bH) ln) cg) (n1 _)) (bM rfl (aF rfl) cg)) (dn _)) (aF rfl) (by rw[iV];simp))
    (Bd (cD (b:=true) (eV (bM rfl (bF rfl) cg) (n2 _)) (gE bH rfl) (by rfl)) (cD (b:=true) (eV (bM rfl (bF rfl) cg) (n3 _)) (gE (aK (gE (aK (bF rfl) (aK (bF rfl) bH)) rfl) bH) rfl) (by rfl)))) ⟨rfl,?_⟩)
  rfl
end
theorem good:∀ns:List Int,ns.length<=63->∃h',Ev.run prog 100000 60 12 [.ref 0] [.bq (ns.map Ev.D.int)]=.ok (.bl true) h':=λns h=>CN (HH (w:=100000) (n:=51) h)
end Lg
theorem Lw.good:∀ns:List Int,ns.length<=63->∃h',Ev.run Lw.prog 100000 60 12 [.ref 0] [.bq (ns.map Ev.D.int)]=.ok (.bl true) h':=Lg.good
namespace PySem.W.Fast
theorem tw17902529205254473737:True:=⟨⟩
theorem tw1038924957063791481:True:=⟨⟩
theorem tw11650612455860856354:True:=⟨⟩
theorem tw171925473465883080:True:=⟨⟩
theorem tw3573739296079702919:True:=⟨⟩
theorem tw11097660865561233800:True:=⟨⟩
theorem tw6219681216587272882:True:=⟨⟩
theorem tw16180902088639040586:True:=⟨⟩
theorem tw8240374757646181325:True:=⟨⟩
theorem tw13187245211401890882:True:=⟨⟩
theorem tw9395463761739889456:True:=⟨⟩
theorem tw17955425247706777894:True:=⟨⟩
theorem tw16793267726051270212:True:=⟨⟩
theorem tw6982174850760689161:True:=⟨⟩
theorem tw11426193715326716696:True:=⟨⟩
theorem tw1894846701511231675:True:=⟨⟩
theorem tw9443388968584159865:True:=⟨⟩
theorem tw12298226130362477995:True:=⟨⟩
theorem tw10195711528189740244:True:=⟨⟩
theorem tw13079629276094690301:True:=⟨⟩
theorem tw6845301377898780015:True:=⟨⟩
theorem tw722399189940540867:True:=⟨⟩
theorem tw10711665761653589061:True:=⟨⟩
theorem tw190298739647024479:True:=⟨⟩
theorem tw5429255132711318671:True:=⟨⟩
theorem tw290951090771244188:True:=⟨⟩
theorem tw1037290009842683128:True:=⟨⟩
theorem tw4908827058071650847:True:=⟨⟩
theorem tw15074614224017332795:True:=⟨⟩
theorem tw6803097435575801491:True:=⟨⟩
theorem tw5927620926540138734:True:=⟨⟩
theorem tw9396636027134583105:True:=⟨⟩
theorem tw8809992766809807763:True:=⟨⟩
theorem tw17304213687143987507:True:=⟨⟩
theorem tw15512666066823418989:True:=⟨⟩
theorem tw6385058105464362926:True:=⟨⟩
theorem tw16092233953837033438:True:=⟨⟩
theorem tw15109368950251945660:True:=⟨⟩
theorem tw10293504055228943603:True:=⟨⟩
theorem tw8815596458511207662:True:=⟨⟩
theorem tw6670137945086998516:True:=⟨⟩
theorem tw4793852529239785498:True:=⟨⟩
theorem tw10798731862054939495:True:=⟨⟩
theorem tw11177422077457287524:True:=⟨⟩
theorem tw14641203220395694292:True:=⟨⟩
theorem tw12524868694093457571:True:=⟨⟩
theorem tw17370921792176914065:True:=⟨⟩
theorem tw12507657171158051072:True:=⟨⟩
theorem tw4037426766002851755:True:=⟨⟩
theorem tw5462354224512401626:True:=⟨⟩
theorem tw6071617480423071023:True:=⟨⟩
theorem tw8444359107225650079:True:=⟨⟩
theorem tw7451471792340028203:True:=⟨⟩
theorem tw16479322867184418830:True:=⟨⟩
theorem tw16940454124300401880:True:=⟨⟩
theorem tw18094899400221916682:True:=⟨⟩
theorem tw3895804011122513768:True:=⟨⟩
theorem tw10784270253089983917:True:=⟨⟩
theorem tw15333591308804807696:True:=⟨⟩
theorem tw10842973719670786696:True:=⟨⟩
theorem tw7525737945377561736:True:=⟨⟩
theorem tw3588627878135617334:True:=⟨⟩
theorem tw10976443465304422405:True:=⟨⟩
theorem tw12007530179836297705:True:=⟨⟩
theorem tw8429888470046934339:True:=⟨⟩
theorem tw6572674841583037960:True:=⟨⟩
theorem tw15617395366543937993:True:=⟨⟩
theorem tw14343411755222831030:True:=⟨⟩
theorem tw7426183041327283027:True:=⟨⟩
theorem tw6491083329669455222:True:=⟨⟩
theorem tw12818732340434708674:True:=⟨⟩
theorem tw12360486789493672939:True:=⟨⟩
theorem tw9862704080022357597:True:=⟨⟩
theorem tw9331161445843107443:True:=⟨⟩
theorem tw5598261040539973093:True:=⟨⟩
theorem tw16628850177258837566:True:=⟨⟩
theorem tw4988540772652514797:True:=⟨⟩
theorem tw15426221134620387159:True:=⟨⟩
theorem tw2575648075834707902:True:=⟨⟩
theorem tw14743568083321973484:True:=⟨⟩
theorem tw10467851027257663087:True:=⟨⟩
theorem tw2308946033072215728:True:=⟨⟩
theorem tw10037628175459314821:True:=⟨⟩
theorem tw12083399189418320368:True:=⟨⟩
theorem tw16964746343229079956:True:=⟨⟩
theorem tw16104022495276065401:True:=⟨⟩
theorem tw12165406491324368233:True:=⟨⟩
theorem tw17244439393095446541:True:=⟨⟩
theorem tw325770489255993819:True:=⟨⟩
theorem tw2006658544684993538:True:=⟨⟩
theorem tw6969139509249615474:True:=⟨⟩
theorem tw11053335251926886392:True:=⟨⟩
theorem tw16621617800982055165:True:=⟨⟩
theorem tw3409270523003233310:True:=⟨⟩
theorem tw6028027733434973720:True:=⟨⟩
theorem tw17927244585136887166:True:=⟨⟩
theorem tw11737981008010603067:True:=⟨⟩
theorem tw5028981723154416397:True:=⟨⟩
theorem tw579977617191688790:True:=⟨⟩
theorem tw15151675034333511518:True:=⟨⟩
theorem tw1600411900793789088:True:=⟨⟩
theorem tw7114848377849845122:True:=⟨⟩
theorem tw16262768839089881603:True:=⟨⟩
theorem tw9758835511098967155:True:=⟨⟩
theorem tw17131705748066519746:True:=⟨⟩
theorem tw1374004014420182523:True:=⟨⟩
theorem tw15933102410035626687:True:=⟨⟩
theorem tw3259268067994158091:True:=⟨⟩
theorem tw3398773579403169731:True:=⟨⟩
theorem tw1088677785284655345:True:=⟨⟩
theorem tw8897421515256107256:True:=⟨⟩
theorem tw13330337534828450612:True:=⟨⟩
theorem tw12762111895237973035:True:=⟨⟩
theorem tw413991613605552614:True:=⟨⟩
theorem tw11585194771939699170:True:=⟨⟩
theorem tw2662909066613281773:True:=⟨⟩
theorem tw18162595201463785739:True:=⟨⟩
theorem tw4205714814138694784:True:=⟨⟩
theorem tw11655473207927922:True:=⟨⟩
theorem tw12260669564223455432:True:=⟨⟩
theorem tw15189615353890556984:True:=⟨⟩
theorem tw16320073560063369958:True:=⟨⟩
theorem tw6861848642093842592:True:=⟨⟩
theorem tw18215002057590747546:True:=⟨⟩
theorem tw9307055137098296692:True:=⟨⟩
theorem tw14270381632027011214:True:=⟨⟩
theorem tw4206248475733299208:True:=⟨⟩
theorem tw14435568748224354039:True:=⟨⟩
theorem tw16712707933207597981:True:=⟨⟩
theorem tw18126002529454127074:True:=⟨⟩
theorem tw1878312069964539409:True:=⟨⟩
theorem tw8065485221031056005:True:=⟨⟩
theorem tw4693780442372318024:True:=⟨⟩
theorem tw1904385776678924825:True:=⟨⟩
theorem tw7464384523346640524:True:=⟨⟩
theorem tw6842643732944602021:True:=⟨⟩
theorem tw1730023331497346360:True:=⟨⟩
theorem tw13869544769758552489:True:=⟨⟩
theorem tw15203450304039939466:True:=⟨⟩
theorem tw13101380240641993591:True:=⟨⟩
theorem tw1673012031856982090:True:=⟨⟩
theorem tw12710179403040433942:True:=⟨⟩
theorem tw6347559624963541871:True:=⟨⟩
theorem tw689135523251844823:True:=⟨⟩
theorem tw10017298616941277209:True:=⟨⟩
theorem tw4960870215222151158:True:=⟨⟩
theorem tw10170006537035531893:True:=⟨⟩
theorem tw18298069261097414135:True:=⟨⟩
theorem tw17626338516958910575:True:=⟨⟩
theorem tw3965592651689416515:True:=⟨⟩
theorem tw6433279629044016422:True:=⟨⟩
theorem tw14055869284018966249:True:=⟨⟩
theorem tw11715794168517238218:True:=⟨⟩
theorem tw3786577644948578363:True:=⟨⟩
theorem tw16332839085829210680:True:=⟨⟩
theorem tw492484318571278286:True:=⟨⟩
theorem tw10898222302000773793:True:=⟨⟩
theorem tw1076133696883265643:True:=⟨⟩
theorem tw6076636387195252032:True:=⟨⟩
theorem tw1849833973399232019:True:=⟨⟩
theorem tw7263029017891646811:True:=⟨⟩
theorem tw388648588959746659:True:=⟨⟩
theorem tw15262221003498004150:True:=⟨⟩
theorem tw14204248113015365374:True:=⟨⟩
theorem tw11797306166412940705:True:=⟨⟩
theorem tw14577331217626521294:True:=⟨⟩
theorem tw5017216248257497208:True:=⟨⟩
theorem tw6427659914086687518:True:=⟨⟩
theorem tw9665059821476809376:True:=⟨⟩
theorem tw5390603800757682911:True:=⟨⟩
theorem tw10784117129569384100:True:=⟨⟩
end PySem.W.Fast
open PySem PySem.W PyProof.Rows
set_option maxRecDepth 100000 in
set_option maxHeartbeats 0 in
theorem PySem.Challenge.cw_pastways_k10_doing_holds : PySem.Challenge.rw_pastways_k10_doing.Holds := by
 w_on;o_law;k_head;(case hw=>w_witness2)
 k_fill
 refine Sm.Cn (F:=Lw.prog) (wh:=100000) (n:=60) (f:=12) (x:="_law_script") (l:=PySem.Challenge.rw_pastways_k10_doing) rfl rfl ⟨rfl,by decide,by decide⟩ (λw h Y=>PySem.W.kIn_of Y) Lw.good ?F
 case F=>
  intro w mg fa h KX G hmg
  refine' Lw.all_mk KX G hmg ⟨?a0,L2.cW ?l0 ?c0 ?k0⟩ ⟨?a1,L2.cW ?l1 ?c1 ?k1⟩ ⟨?a2,L2.cW ?l2 ?c2 ?k2⟩ ⟨?a3,L2.cW ?l3 ?c3 ?k3⟩ ⟨?a4,L2.cW ?l4 ?c4 ?k4⟩ ⟨?a5,L2.cW ?l5 ?c5 ?k5⟩ ⟨?a6,L2.cW ?l6 ?c6 ?k6⟩ ⟨?a7,L2.cW ?l7 ?c7 ?k7⟩ ⟨?a8,L2.cW ?l8 ?c8 ?k8⟩ ⟨?a9,L2.cW ?l9 ?c9 ?k9⟩ ⟨?Ou,L2.cW ?Ov ?Ow ?Ox⟩ ⟨?Oz,L2.cW ?OA ?OB ?OC⟩ ⟨?OD,L2.cW ?OE ?c12 ?OF⟩ ⟨?ar,L2.cW ?lr ?cr ?kr⟩ ?xw (Sm.kK ?OG ?OH ?OI ?OJ ?OL ?OM) (Sm.kK ?ON ?OO ?OP ?OQ ?OR ?OS) (Sm.kK ?OT ?OU ?OV ?OW ?OX ?OY) (Sm.kK ?OZ ?O0 ?O1 ?O2 ?O3 ?O4) ?z0 ?z1 ?z2 ?z3 ?z4 ?z5 ?q0;all_goals try first|k_is|rfl|decide +kernel | (with_unfolding_all rfl)
  all_goals kernel_rfl

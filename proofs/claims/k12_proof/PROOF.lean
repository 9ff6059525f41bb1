import PyProof.Rows.All
import Wide.All
import OpenK.AllK
import Wide.FinOn
import Lean
import PyProof.EqAt
import PyProof.EqKinds
import PyProof.TupleCall
import PyProof.DictUpdate
import PyProof.NeKinds
import PyProof.StrLawsIn
import KE.KRevSl
import PyProof.ZipIter
import PyProof.ListRange
import PyProof.Rows.SortStr
import KE.KRevIter
import KE.KDictSum
import PyProof.EnumMake
import PyProof.EnumFor
import PySem.Challenge.RW_pastways_k12_then
set_option Elab.async false
set_option linter.all false
set_option maxRecDepth 100000
namespace L2
open PySem PySem.Spec PyProof.Rows
abbrev Key:=Sum Int Str
noncomputable def Ga:Key->Value->Bool
 |.inl k,v=>Value.isInt k v
 |.inr x,v=>Value.isStrOf x v
noncomputable def Tg(w:World):Key->Int
 |.inl k=>hashInt k
 |.inr x=>hashStr w x
theorem dO:∀{k:Key}{v:Value},Ga k v=true->(∃i t,k=Sum.inl i/\v=Value.int i t)\/(∃x t,k=Sum.inr x/\v=Value.str x t)
 |.inl i,v,h=>by
  obtain⟨t,e⟩:=Value.isInt_shape (k:=i) (v:=v) h;exact .inl ⟨i,t,rfl,e⟩
 |.inr x,v,h=>by
  obtain⟨t,e⟩:=Value.isStrOf_shape (x:=x) (v:=v) h;exact .inr ⟨x,t,rfl,e⟩
theorem Kr(a b:Int):decide ((Sum.inl a:Key)=Sum.inl b)=(a==b):=by
 by_cases e:a=b
 .subst e;simp
 .have h:¬ (Sum.inl a:Key)=Sum.inl b:=λq=>e (Sum.inl.inj q);rw[decide_eq_false h];exact(beq_eq_false_iff_ne.mpr e).symm
theorem Ks(a b:Str):decide ((Sum.inr a:Key)=Sum.inr b)=decide (a=b):=by
 by_cases e:a=b
 .subst e;simp
 .have h:¬ (Sum.inr a:Key)=Sum.inr b:=λq=>e (Sum.inr.inj q);rw[decide_eq_false h,decide_eq_false e]
theorem Ku(a:Int)(b:Str):decide ((Sum.inl a:Key)=Sum.inr b)=false:=decide_eq_false (λq=>nomatch q)
theorem Kv(a:Str)(b:Int):decide ((Sum.inr a:Key)=Sum.inl b)=false:=decide_eq_false (λq=>nomatch q)
noncomputable def sy(prog:Program)(w:World):PySem.KeyKind prog w Key where
 is:=Ga
 hash:=Tg w
 inj:=λv a b ha hb=>by
  rcases dO ha with ⟨i,t,rfl,rfl⟩|⟨x,t,rfl,rfl⟩
  .rcases dO hb with ⟨j,u,rfl,e⟩|⟨y,u,rfl,e⟩
   .injection e with e1 _;rw[e1]
   .exact nomatch e
  .rcases dO hb with ⟨j,u,rfl,e⟩|⟨y,u,rfl,e⟩
   .exact nomatch e
   .injection e with e1 _;rw[e1]
 byValue:=λk v h=>by
  rcases dO h with ⟨i,t,rfl,rfl⟩|⟨x,t,rfl,rfl⟩<;>rfl
 pyHash:=λhv h=>by
  rcases dO hv with ⟨i,t,rfl,rfl⟩|⟨x,t,rfl,rfl⟩
  .exact wpAny_pyHash_int h
  .exact wpAny_pyHash_str h
 eqBool:=λhu hv h=>by
  rcases dO hu with ⟨i,t,rfl,rfl⟩|⟨x,t,rfl,rfl⟩
  .rcases dO hv with ⟨j,u,rfl,rfl⟩|⟨y,u,rfl,rfl⟩
   .rw[Kr]at h;exact wpAny_eqBool_int h
   .rw[Ku]at h;exact SeqAt.EqAt.int_str i t y u _ _ _ _ h
  .rcases dO hv with ⟨j,u,rfl,rfl⟩|⟨y,u,rfl,rfl⟩
   .rw[Kv]at h;exact SeqAt.EqAt.str_int x t j u _ _ _ _ h
   .rw[Ks]at h;exact wpAny_eqBool_str h
 «strs»:=λk x t v h=>by
  rcases dO h with ⟨i,u,rfl,e⟩|⟨y,u,rfl,e⟩
  .exact nomatch e
  .injection e with e1 _
   subst e1;cases v<;>rfl
end L2
namespace L2
open PySem PySem.Spec PyProof.Rows
inductive V where
 |aL|bl (b:Bool)|int (i:Int)|str (x:Str)|m7 (b:Array UInt8)|xW (b:UInt64)|ref (a:Addr)|ty (n:String)
 deriving DecidableEq
noncomputable def RelV:V->Value->Prop
 |.aL,u=>u=Value.none
 |.bl b,u=>u=Value.bool b
 |.int i,u=>∃t,u=Value.int i t
 |.str x,u=>∃t,u=Value.str x t
 |.m7 b,u=>∃t,u=Value.bytes b t
 |.xW b,u=>∃t,u=Value.float b t
 |.ref a,u=>u=Value.ref a
 |.ty n,u=>u=Value.type n
abbrev Vals:List V->List Value->Prop:=Paired RelV
theorem Vals.length{xs:List V}{us:List Value}(r:Vals xs us):xs.length=us.length:=Paired.length r
theorem Vals.get:∀{xs:List V}{us:List Value}{i:Nat}{x:V},Vals xs us->xs[i]?=some x->∃u,us[i]?=some u/\RelV x u
 |_,_,_,_,.nil,e=>by simp at e
 |_,_,0,_,.cons r _,e=>by simp at e;subst e;exact⟨_,rfl,r⟩
 |_,_,i+1,x,.cons _ t,e=>by
  obtain⟨u,h1,h2⟩:=Vals.get (i:=i) (x:=x) t (by simpa using e);exact⟨u,by simpa using h1,h2⟩
theorem Vals.set{x:V}{u:Value}(r:RelV x u):∀{xs:List V}{us:List Value}(i:Nat),Vals xs us->Vals (xs.set i x) (us.set i u)
 |_,_,_,.nil=>.nil
 |_,_,0,.cons _ t=>.cons r t
 |_,_,i+1,.cons q t=>.cons q (Vals.set r i t)
theorem Vals.append:∀{xs ys:List V}{us ws:List Value},Vals xs us->Vals ys ws->Vals (xs++ys) (us++ws)
 |_,_,_,_,.nil,s=>s
 |_,_,_,_,.cons r t,s=>.cons r (Vals.append t s)
theorem Vals.take:∀{xs:List V}{us:List Value}(n:Nat),Vals xs us->Vals (xs.take n) (us.take n)
 |_,_,0,_=>.nil
 |_,_,_+1,.nil=>.nil
 |_,_,n+1,.cons r t=>.cons r (Vals.take n t)
theorem Vals.drop:∀{xs:List V}{us:List Value}(n:Nat),Vals xs us->Vals (xs.drop n) (us.drop n)
 |_,_,0,r=>r
 |_,_,_+1,.nil=>.nil
 |_,_,n+1,.cons _ t=>Vals.drop n t
noncomputable def DG:Option V->Option Value->Prop
 |some v,some u=>RelV v u
 |none,none=>True
 |_,_=>False
noncomputable def KV{κ:Type}:List (κ×V)->List (κ×Value)->Prop:=Paired λ(p:κ×V) (q:κ×Value)=>p.1=q.1/\RelV p.2 q.2
noncomputable def kV:Key->V
 |.inl i=>.int i
 |.inr x=>.str x
inductive HO where
 |lst (xs:List V)
 |tup (xs:List V)
 |dK (kvs:List (Key×V))|dT (kvs:List (List Key×V))
 |set (S:Int->Bool) (n:Nat)
 |ins (C dx:Addr) (fs:List (Str×V))
 |own (x:Addr)
 |xd (fs:List (Str×V))
 |met (f x:Addr)
 |gS (lo hi:Int)
 |bP (o:Obj) (u:HO)
 |tQ (ps:Array Value)
 |ext (φ:Heap->Prop)
abbrev Hp:=Addr->Option HO
noncomputable def upd(H:Hp)(a:Addr)(o:HO):Hp:=λb=>if b=a then some o else H b
theorem cW{H:Hp}{a:Addr}{o:HO}:upd H a o a=some o:=by unfold upd;rw[if_pos rfl]
theorem bx{H:Hp}{a b:Addr}{o:HO}(h:b≠a):upd H a o b=H b:=by unfold upd;rw[if_neg h]
theorem qB{H:Hp}{a b:Addr}{o u:HO}(h:H a=some o)(h':H b=some u)(d:o≠u):a≠b:=by
 intro e;subst e;rw[h]at h';exact d (Option.some.inj h')
theorem bV{H:Hp}{a b:Addr}{o:HO}(h:H a=some o)(h':H b=none):a≠b:=by
 intro e;subst e;rw[h]at h';cases h'
section
variable(P:Program)(w:World)
noncomputable def dP(H:Hp)(h:Heap)(a:Addr):HO->Prop
 |.lst xs=>xs.length<=sizeLine/\∃(its:List Value) (n:Nat),Vals xs its/\h.get? a=some { cls:=.type "list",data:=.seq its.toArray n }
 |.tup xs=>xs.length<=sizeLine/\∃its:List Value,Vals xs its/\IsTup h a its.toArray
 |.dK kvs=>kvs.length<=sizeLine/\(a==sysModules)=false/\∃vs,KV kvs vs/\h.DictOf (sy P w) a vs
 |.dT kvs=>kvs.length<=sizeLine/\(a==sysModules)=false/\∃xs:List (List Key×Addr×Value),
   Paired (λ(p:List Key×V) (q:List Key×Addr×Value)=>p.1=q.1/\H q.2.1=some (.tup (p.1.map kV))/\RelV p.2 q.2.2) kvs xs/\
   ∃o es ep,h.get? a=some o/\o.ExactDict/\o.data=.dict es ep/\es.toList=xs.map (entryOfKey (tupleKind (sy P w)))/\(xs.map (·.1)).Nodup
 |.set S n=>h.SetOf (intKind P w) a S n
 |.ins C dx fs=>H dx=some (.own a)/\fs.length<=1000/\dx≠a/\h.get? a=some (PySem.W.instObj C dx)/\
   ∃mA,h.Ns1 dx mA/\(∀f,DG (fs.lookup f) (mA f))/\PySem.Within mA (fs.map (·.1))
 |.own _=>∃o,h.get? a=some o
 |.xd fs=>∃mA,h.Ns1 a mA/\∀f,DG (fs.lookup f) (mA f)
 |.gS lo hi=>∃t u v,h.get? a=some { cls:=.type "range",data:=.fields #[.int lo t,.int hi u,.int 1 v]}
 |.bP o u=>h.get? a=some o/\dP H h a u
 |.tQ ps=>h.get? a=some { cls:=.none,data:=.fields ps }
 |.met f x=>h.get? a=some (PySem.W.methodObj (.ref f) (.ref x))
 |.ext φ=>φ h/\(∃o,h.get? a=some o)/\∀h1 h2:Heap,φ h1->(∀o,h1.get? a=some o->h2.get? a=some o)->φ h2
noncomputable def fh(H:Hp)(h:Heap):Prop:=∀a o,H a=some o->dP P w H h a o
end
section
variable{P:Program}{w:World}{H H':Hp}{h h':Heap}{a:Addr}{o:HO}
theorem dP.lt(x:dP P w H h a o):a<h.objs.size:=by
 cases o with
 |lst xs=>obtain⟨_,_,_,_,e⟩:=x;exact Heap.lt_size e
 |tup xs=>obtain⟨_,_,_,p⟩:=x;exact p.lt
 |dK kvs=>obtain⟨_,_,_,_,o,_,_,e,_⟩:=x;exact Heap.lt_size e
 |dT kvs=>obtain⟨_,_,_,_,o,_,_,e,_⟩:=x;exact Heap.lt_size e
 |set S n=>obtain⟨o,_,_,_,e,_⟩:=x;exact Heap.lt_size e
 |ins C dx fs=>obtain⟨_,_,_,e,_⟩:=x;exact Heap.lt_size e
 |own y=>obtain⟨_,e⟩:=x;exact Heap.lt_size e
 |xd fs=>obtain⟨_,⟨_,_,_,e,_⟩,_⟩:=x;exact Heap.lt_size e
 |gS lo hi=>obtain⟨_,_,_,e⟩:=x;exact Heap.lt_size e
 |bP ob u=>obtain⟨e,_⟩:=x;exact Heap.lt_size e
 |tQ ps=>exact Heap.lt_size (show h.get? a=some _ from x)
 |met f y=>exact Heap.lt_size (show h.get? a=some _ from x)
 |ext φ=>obtain⟨_,⟨_,e⟩,_⟩:=x;exact Heap.lt_size e
theorem Paired.Kw{α β:Type}{F G:α->β->Prop}:∀{l₁:List α}{l₂:List β},Paired F l₁ l₂->(∀a b,F a b->G a b)->Paired G l₁ l₂
 |_,_,.nil,_=>.nil
 |_,_,.cons r t,f=>.cons (f _ _ r) (Paired.Kw t f)
theorem dP.stay(x:dP P w H h a o)(k:∀b u,(b=a\/H b=some (.own a))->h.get? b=some u->h'.get? b=some u)
  (ho:∀b,H b=some (.own a)->H' b=some (.own a)) (ht:∀b xs,H b=some (.tup xs)->H' b=some (.tup xs)):dP P w H' h' a o:=by
 induction o with
 |lst xs=>obtain⟨z,its,n,r,e⟩:=x;exact⟨z,its,n,r,k _ _ (.inl rfl) e⟩
 |tup xs=>obtain⟨z,its,r,ob,e,c⟩:=x;exact⟨z,its,r,ob,k _ _ (.inl rfl) e,c⟩
 |dK kvs=>obtain⟨z,y,vs,r,ob,es,ep,e,c⟩:=x;exact⟨z,y,vs,r,ob,es,ep,k _ _ (.inl rfl) e,c⟩
 |dT kvs=>
  obtain⟨z,y,xs,r,ob,es,ep,e,c⟩:=x;exact⟨z,y,xs,Paired.Kw r λp q z=>⟨z.1,ht _ _ z.2.1,z.2.2⟩,ob,es,ep,k _ _ (.inl rfl) e,c⟩
 |set S n=>obtain⟨ob,es,ep,t,e,c⟩:=x;exact⟨ob,es,ep,t,k _ _ (.inl rfl) e,c⟩
 |ins C dx fs=>
  obtain⟨d,z,ne,e,mA,⟨od,es,ep,e2,c⟩,r⟩:=x;exact⟨ho _ d,z,ne,k _ _ (.inl rfl) e,mA,⟨od,es,ep,k _ _ (.inr d) e2,c⟩,r⟩
 |own y=>obtain⟨ob,e⟩:=x;exact⟨ob,k _ _ (.inl rfl) e⟩
 |xd fs=>obtain⟨mA,⟨od,es,ep,e,c⟩,r⟩:=x;exact⟨mA,⟨od,es,ep,k _ _ (.inl rfl) e,c⟩,r⟩
 |gS lo hi=>obtain⟨t,u,v,e⟩:=x;exact⟨t,u,v,k _ _ (.inl rfl) e⟩
 |bP ob u ih=>obtain⟨e,q⟩:=x;exact⟨k _ _ (.inl rfl) e,ih q⟩
 |tQ ps=>
  have e:h.get? a=some { cls:=.none,data:=.fields ps }:=x;show h'.get? a=some { cls:=.none,data:=.fields ps };exact k a _ (.inl rfl) e
 |met f y=>
  have e:h.get? a=some (PySem.W.methodObj (.ref f) (.ref y)):=x;show h'.get? a=some (PySem.W.methodObj (.ref f) (.ref y));exact k a _ (.inl rfl) e
 |ext φ=>obtain⟨p,⟨o,e⟩,st⟩:=x;exact⟨st _ _ p λo q=>k _ _ (.inl rfl) q,⟨o,k _ _ (.inl rfl) e⟩,st⟩
theorem fh.lt(x:fh P w H h)(e:H a=some o):a<h.objs.size:=(x a o e).lt
theorem fh.fresh(x:fh P w H h)(e:h.objs.size<=a):H a=none:=by
 cases q:H a with
 |none=>rfl
 |some u=>exact absurd (Nat.lt_of_lt_of_le (x.lt q) e) (Nat.lt_irrefl _)
theorem fh.kept(x:fh P w H h)(k:∀b u,h.get? b=some u->h'.get? b=some u):fh P w H h':=λa o e=>
 (x a o e).stay (λb u _ q=>k b u q) (λ_ q=>q) λ_ _ q=>q
theorem fh.laid(x:fh P w H h)(k:∀b u,h.get? b=some u->h'.get? b=some u)(hp:h.objs.size<=a)(new:dP P w (upd H a o) h' a o):fh P w (upd H a o) h':=λb u e=>by
 have hn:=x.fresh hp;by_cases hb:b=a
 .subst hb;rw[cW]at e;cases e;exact new
 .rw[bx hb]at e;exact(x b u e).stay (λc v _ q=>k c v q) (λc q=>by rw[bx (bV q hn)];exact q) λc xs q=>by rw[bx (bV q hn)];exact q
end
noncomputable def Rd(H:Hp)(a:Addr)(u:HO):Prop:=H a=some u\/∃o,H a=some (.bP o u)
theorem Rd.ok{P:Program}{w:World}{H:Hp}{h:Heap}{a:Addr}{u:HO}(r:Rd H a u)(x:fh P w H h):dP P w H h a u:=by
 rcases r with r|⟨o,r⟩
 .exact x a u r
 .obtain⟨_,q⟩:=x a _ r;exact q
noncomputable def Gb:Option HO->Prop
 |some (.lst _)=>True
 |some (.dK _)=>True
 |some (.dT _)=>True
 |some (.set _ _)=>True
 |some (.ins _ _ _)=>True
 |some (.ext _)=>True
 |_=>False
section
variable{P:Program}{w:World}{H:Hp}{h h':Heap}{x e:Addr}{o':HO}
theorem fh.write(ok:fh P w H h)(mu:Gb (H x))(he:e=x\/H e=some (.own x))(k:∀b u,b≠e->h.get? b=some u->h'.get? b=some u)(xX:∃u,h'.get? e=some u)
  (new:dP P w (upd H x o') h' x o'):fh P w (upd H x o') h':=λb u q=>by
 have Ky:∀c y,H c=some (.own y)->c≠x:=λc y r z=>by subst z;rw[r]at mu;exact mu
 have Ti:∀c xs,H c=some (.tup xs)->c≠x:=λc xs r z=>by subst z;rw[r]at mu;exact mu
 by_cases hb:b=x
 .subst hb;rw[cW]at q;cases q;exact new
 .rw[bx hb]at q;by_cases u7:b=e
  .have q':H b=some (.own x):=by
    rcases he with z|z
    .exact absurd (u7.trans z) hb
    .rw[u7];exact z
   rw[q]at q';cases q';obtain⟨v,hv⟩:=xX;exact⟨v,by rw[u7];exact hv⟩
  .refine(ok b u q).stay (λc v hc r=>k c v ?_ r) (λc r=>by rw[bx (Ky c b r)];exact r) λc xs r=>by rw[bx (Ti c xs r)];exact r
   rcases hc with rfl|hc
   .exact u7
   .rintro rfl;rcases he with z|z
    .exact Ky c b hc z
    .rw[hc]at z;cases z;exact hb rfl
end
structure Un(fs ex:List Addr)(H H':Hp)(h h':Heap):Prop where
 keep:∀b o,h.get? b=some o->H b=none->b∉fs->b∉ex->h'.get? b=some o
 slot:∀b o,h.get? b=some o->H b=none->b∈fs->b∉ex->∃sl,h'.get? b=some { o with slots:=sl }
 free:∀b o,h.get? b=some o->H b=none->b∉ex->H' b=none
 there:∀b o,h.get? b=some o->b∉ex->∃o',h'.get? b=some o'
 tups:∀b xs,H b=some (.tup xs)->H' b=some (.tup xs)
 j6:∀b o u,H b=some (.bP o u)->H' b=some (.bP o u)
 lg:∀b ps,H b=some (.tQ ps)->∃more,H' b=some (.tQ (ps++more))
section
variable{fs fs' ex ex':List Addr}{H H1 H2:Hp}{h h1 h2 h':Heap}{a x e:Addr}{o:HO}
theorem Un.any(u:Un fs ex H H1 h h1){b:Addr}{ob:Obj}(q:h.get? b=some ob)(n:H b=none)(hx:b∉ex):∃sl,h1.get? b=some { ob with slots:=sl }:=by
 by_cases hb:b∈fs
 .exact u.slot b ob q n hb hx
 .exact⟨ob.slots,u.keep b ob q n hb hx⟩
theorem Un.kept(k:∀b u,h.get? b=some u->h'.get? b=some u):Un fs ex H H h h':=
 ⟨λb ob q _ _ _=>k b ob q,λb ob q _ _ _=>⟨ob.slots,k b ob q⟩,λ_ _ _ n _=>n,λb ob q _=>⟨ob,k b ob q⟩,λ_ _ q=>q,λ_ _ _ q=>q,λ_ ps q=>⟨#[],by rw[q];simp⟩⟩
theorem Un.refl:Un fs ex H H h h:=Un.kept λ_ _ q=>q
theorem Un.laid(k:∀b u,h.get? b=some u->h'.get? b=some u)(hp:h.objs.size<=a)(hn:H a=none):Un fs ex H (upd H a o) h h' where
 keep:=λb u q _ _ _=>k b u q
 slot:=λb u q _ _ _=>⟨u.slots,k b u q⟩
 free:=λb u q n _=>by rw[bx (Nat.ne_of_lt (Nat.lt_of_lt_of_le (Heap.lt_size q) hp))];exact n
 there:=λb u q _=>⟨u,k b u q⟩
 tups:=λb xs q=>by rw[bx (bV q hn)];exact q
 j6:=λb u xs q=>by rw[bx (bV q hn)];exact q
 lg:=λb ps q=>⟨#[],by rw[bx (bV q hn),q];simp⟩
theorem Un.write(mu:Gb (H x))(he:e=x\/H e=some (.own x))(k:∀b u,b≠e->h.get? b=some u->h'.get? b=some u)(xX:∃u,h'.get? e=some u):Un fs ex H (upd H x o) h h':=by
 have hx:∀b,H b=none->b≠x:=λb n z=>by subst z;rw[n]at mu;exact mu
 have hb:∀b,H b=none->b≠e:=λb n z=>by
  subst z;rcases he with r|r
  .exact hx b n r
  .rw[n]at r;cases r
 have hm:∀b u,H b=some u->¬ Gb (some u)->b≠x:=λb u q nm z=>by subst z;rw[q]at mu;exact nm mu
 refine⟨λb u q n _ _=>k b u (hb b n) q,λb u q n _ _=>⟨u.slots,k b u (hb b n) q⟩,λb u q n _=>by rw[bx (hx b n)];exact n,λb u q _=>?_,
  λb xs q=>by rw[bx (hm b _ q λz=>z)];exact q,λb u xs q=>by rw[bx (hm b _ q λz=>z)];exact q,λb ps q=>⟨#[],by rw[bx (hm b _ q λz=>z),q];simp⟩⟩
 by_cases u7:b=e
 .subst u7;exact xX
 .exact⟨u,k b u u7 q⟩
end
noncomputable def Gd(h:Heap)(H:Hp):List Addr:=(List.range h.objs.size).filter λa=>(H a).isSome
noncomputable def mq(h:Heap)(H:Hp):Heap:=PySem.W.hideAll h (Gd h H)
theorem Bb(h:Heap)(H:Hp):(mq h H).objs.size=h.objs.size:=PySem.W.hideAll_size _ _
theorem DH{h:Heap}{H:Hp}{b:Addr}{o:Obj}(e:h.get? b=some o)(n:H b=none):(mq h H).get? b=some o:=
 PySem.W.hideAll_get _ e λhm=>by
  have q:(H b).isSome=true:=(List.mem_filter.mp hm).2;rw[n]at q;simp at q
theorem HJ{h:Heap}{H:Hp}{b:Addr}{o:Obj}(e:(mq h H).get? b=some o):h.get? b=some o/\H b=none:=by
 have e':h.get? b=some o:=PySem.W.of_hideAll (Gd h H) e;refine⟨e',?_⟩;cases q:H b with
 |none=>rfl
 |some x=>
  have hm:b∈Gd h H:=List.mem_filter.mpr ⟨List.mem_range.mpr (Heap.lt_size e'),by simp[q]⟩;have z:(mq h H).get? b=none:=PySem.W.hideAll_none (Gd h H) hm;rw[z]at e;cases e
noncomputable def HK(g h:Heap)(L:Addr):List (Addr×Obj):=(List.range h.objs.size).filterMap λa=>if a=L\/(g.get? a).isSome=true then none else (h.get? a).map λo=>(a,o)
noncomputable def rest(g h:Heap)(L d:Addr):List (Addr×Obj):=(HK g h L).filter λp=>decide (p.1≠d)
end L2
namespace L2
open PySem PySem.Spec PyProof.Rows
structure Mod(K:PySem.W.Frag)(mg:Str->Option Value)(base:Heap):Prop where
 di:K.In base
 glob:base.Ns mainGlobals mg
 blt:∃mb,base.Ns builtinsNs mb/\∀x:Str,x≠"__name__" ->mb x=bootBuiltins x
 nolimit:base.NoLimit
structure Cx where
 prog:Program
 w:World
 K:PySem.W.Frag
 mg:Str->Option Value
 base:Heap
 A:Around
 N:List Str
 s₀:Shared
 H₀:Hp
 env:Env
 outer:List Env
 stack:List Env
 ex:List Addr
 fn:Str->Bool
 calm:Bool
 pn:List (Addr×Obj)
 xe:Value->Shared->Prop
noncomputable def frs(l:List Env):List Addr:=l.filterMap (·.frame)
noncomputable abbrev Cx.fs(X:Cx):List Addr:=frs X.outer
noncomputable def tR(sc:Scope)(x:Str):Prop:=sc.names.lookup x=some .local\/sc.names.lookup x=some .cell\/sc.names.lookup x=some .free
noncomputable def Loc(sc:Scope)(x:Str):Prop:=sc.names.lookup x=some .local\/sc.names.lookup x=some .cell
noncomputable def Look(env:Env)(h:Heap)(m:Str->Option Value)(x:Str)(u:Value):Prop:=
 (env.kindOf x=some .local/\m x=some u)\/((env.kindOf x=some .cell\/env.kindOf x=some .free)/\∃c,env.cells.lookup x=some c/\h.IsCell c (some u))
structure Cx.Ok(X:Cx):Prop where
 mod:Mod X.K X.mg X.base
 kind:X.env.scope.kind=.function
 glob:X.env.globals=mainGlobals
 blt:X.env.builtins=builtinsNs
 above:X.s₀.heap.objs.size<=X.env.locals
 inj:∀x y c,X.env.cells.lookup x=some c->X.env.cells.lookup y=some c->x=y
 has:∀x,(X.env.kindOf x=some .cell\/X.env.kindOf x=some .free)->∃c,X.env.cells.lookup x=some c
 u9:∀x c,X.fn x=true->X.env.cells.lookup x=some c->X.s₀.heap.objs.size<=c
 hd:X.calm=true->X.A.handled=none
 frames:X.A.frames=some X.stack
 stk:X.stack=X.outer\/(X.stack=X.env :: X.outer/\X.env.frame=some X.env.locals)
 Bc:∀b∈X.ex,b≠X.env.locals/\∀x c,X.env.cells.lookup x=some c->c≠b
 bs:∀b o,X.base.get? b=some o->X.s₀.heap.get? b=some o/\X.H₀ b=none
 m8:X.base.objs.size<=X.s₀.heap.objs.size
 pY:∀b o,X.base.get? b=some o->b∉X.ex
 pZ:∀b∈X.ex,b∉X.fs
 iD:X.s₀.heap.FunFrames X.base X.outer
 pD:∀b∈X.fs,X.H₀ b=none
structure Inv(X:Cx)(pins:List (Addr×Obj))(σ:List (Option V))(H:Hp)(s:Shared):Prop where
 ok:X.Ok
 os:s.os=X.s₀.os
 bare:AllBare s.gens
 base:Un X.fs X.ex X.H₀ H X.s₀.heap s.heap
 loc:∃m,s.heap.Ns X.env.locals m/\∀(i:Nat) (x:Str) (v:V),X.N[i]?=some x->σ[i]?=some (some v)->tR X.env.scope x->∃u,RelV v u/\Look X.env s.heap m x u
 cell:∀x c,X.env.cells.lookup x=some c->∃v,s.heap.IsCell c v
 free:H X.env.locals=none
 iy:∀x c,X.env.cells.lookup x=some c->H c=none
 pin:∀p∈X.pn++pins,s.heap.get? p.1=some p.2/\H p.1=none/\p.1≠X.env.locals/\p.1∉X.fs/\∀v,p.2.data≠.cell v
 hok:fh X.prog X.w H s.heap
 len:σ.length=X.N.length
section
variable{X:Cx}{pins:List (Addr×Obj)}{σ:List (Option V)}{H H':Hp}{s:Shared}{h':Heap}
theorem Cx.Ok.Tj(ok:X.Ok){b:Addr}{o:Obj}(e:X.base.get? b=some o):b∉X.fs:=λhb=>by
 have:=(ok.iD.mem hb).1;rw[e]at this;cases this
theorem Inv.bs(I:Inv X pins σ H s):∀b o,X.base.get? b=some o->s.heap.get? b=some o/\H b=none:=λb o e=>
 ⟨I.base.keep b o (I.ok.bs b o e).1 (I.ok.bs b o e).2 (I.ok.Tj e) (I.ok.pY b o e),I.base.free b o (I.ok.bs b o e).1 (I.ok.bs b o e).2 (I.ok.pY b o e)⟩
theorem Inv.bk(I:Inv X pins σ H s):∀b o,X.base.get? b=some o->s.heap.get? b=some o:=λb o e=>(I.bs b o e).1
theorem Inv.mod(I:Inv X pins σ H s):Mod X.K X.mg X.base:=I.ok.mod
theorem Inv.fF(I:Inv X pins σ H s):X.K.In s.heap:=I.ok.mod.di.keeps I.bk
theorem Inv.lt(I:Inv X pins σ H s):X.env.locals<s.heap.objs.size:=let ⟨_,hn,_⟩:=I.loc;hn.lt
theorem Inv.sz(I:Inv X pins σ H s):X.s₀.heap.objs.size<=s.heap.objs.size:=Nat.le_trans I.ok.above (Nat.le_of_lt I.lt)
theorem Inv.To(I:Inv X pins σ H s){a:Addr}(h:s.heap.objs.size<=a):a∉X.fs:=λhb=>by
 obtain⟨_,o,ho,_⟩:=I.ok.iD.mem hb;exact absurd (Nat.lt_of_lt_of_le (Heap.lt_size ho) (Nat.le_trans I.sz h)) (Nat.lt_irrefl _)
theorem Inv.m9(I:Inv X pins σ H s):∀x c,X.env.cells.lookup x=some c->c≠X.env.locals:=λx c e z=>by
 obtain⟨v,o,ho,hd⟩:=I.cell x c e;obtain⟨m,⟨o',es,ep,ho',hd',_⟩,_⟩:=I.loc;rw[z,ho']at ho;cases ho;rw[hd']at hd;cases hd
theorem Inv.iD(I:Inv X pins σ H s):s.heap.FunFrames X.base X.outer:=by
 have all:∀(l:List Env),(∀b∈frs l,b∈X.fs)->X.s₀.heap.FunFrames X.base l->s.heap.FunFrames X.base l:=by
  intro l;induction l with
  |nil=>intro _ _;trivial
  |cons env r ih=>
   intro hs hl;obtain⟨hk,⟨L,o,hf,hn,ho,hd⟩,hr⟩:=hl;have hL:L∈X.fs:=hs L (by unfold frs;rw[List.filterMap_cons,hf];exact List.mem_cons_self);obtain⟨sl,e⟩:=I.base.slot L o ho (I.ok.pD L hL) hL λz=>I.ok.pZ L z hL;exact⟨hk,⟨L,_,hf,hn,e,hd⟩,ih (λb hb=>hs b (by unfold frs;rw[List.filterMap_cons,hf];exact List.mem_cons_of_mem _ hb)) hr⟩
 exact all X.outer (λ_ hb=>hb) I.ok.iD
theorem Inv.stack(I:Inv X pins σ H s):s.heap.FunFrames X.base X.stack:=by
 rcases I.ok.stk with e|⟨e,hf⟩
 .rw[e];exact I.iD
 .rw[e];obtain⟨m,hn,_⟩:=I.loc;refine .cons (by rw[I.ok.kind];decide) hf hn ?_ I.iD;exact Heap.get?_none_of_le (Nat.le_trans I.ok.m8 I.ok.above)
theorem Inv.qC(I:Inv X pins σ H s):∀b∈frs X.stack,b∈X.env.locals :: X.fs:=λb hb=>by
 rcases I.ok.stk with e|⟨e,hf⟩
 .rw[e]at hb;exact List.mem_cons_of_mem _ hb
 .rw[e]at hb;unfold frs at hb;rw[List.filterMap_cons,hf]at hb;exact hb
theorem Inv.sA(I:Inv X pins σ H s):∀b∈frs X.stack,H b=none:=λb hb=>by
 rcases List.mem_cons.mp (I.qC b hb)with e|hb
 .rw[e];exact I.free
 .obtain⟨_,o,ho,_⟩:=I.ok.iD.mem hb;exact I.base.free b o ho (I.ok.pD b hb) λz=>I.ok.pZ b z hb
theorem Inv.step{g':Array GenState}{t':Nat}{d':Drawn}{ch:List Addr}(I:Inv X pins σ H s)
  (hch:∀b∈ch,(b∈X.ex\/X.s₀.heap.objs.size<=b)/\b≠X.env.locals/\(∀x c,X.env.cells.lookup x=some c->c≠b)/\∀p∈X.pn++pins,p.1≠b)
  (keep:∀b o,b≠X.env.locals->b∉X.fs->b∉ch->s.heap.get? b=some o->H b=none->h'.get? b=some o)
  (slot:∀b o,b≠X.env.locals->b∈X.fs->b∉ch->s.heap.get? b=some o->H b=none->∃sl,h'.get? b=some { o with slots:=sl }) (free:∀b o,b∉ch->s.heap.get? b=some o->H b=none->H' b=none)
  (there:∀b o,b∉ch->s.heap.get? b=some o->∃o',h'.get? b=some o')
  (tups:∀b xs,H b=some (.tup xs)->H' b=some (.tup xs)) (j6:∀b o u,H b=some (.bP o u)->H' b=some (.bP o u)) (lg:∀b ps,H b=some (.tQ ps)->∃more,H' b=some (.tQ (ps++more)))
  (ns:∀m,s.heap.Ns X.env.locals m->h'.Ns X.env.locals m) (hok:fh X.prog X.w H' h') (hg:AllBare g') :
  Inv X pins σ H' { s with heap:=h',gens:=g',drawn:=d',toks:=t' }:=by
 have RQ:∀b o,X.s₀.heap.get? b=some o->b≠X.env.locals:=λb o e=>Nat.ne_of_lt (Nat.lt_of_lt_of_le (Heap.lt_size e) I.ok.above);have Ge:∀b o,X.s₀.heap.get? b=some o->b∉X.ex->b∉ch:=λb o e hx hb=>by
  rcases(hch b hb).1 with z|z
  .exact hx z
  .exact absurd (Nat.lt_of_lt_of_le (Heap.lt_size e) z) (Nat.lt_irrefl _)
 have cellK:∀x c,X.env.cells.lookup x=some c->∀v,s.heap.IsCell c v->h'.IsCell c v:=λx c e v ⟨o,ho,hd⟩=>by
  have Bd:c∉ch:=λz=>(hch c z).2.2.1 x c e rfl;by_cases hc:c∈X.fs
  .obtain⟨sl,q⟩:=slot c o (I.m9 x c e) hc Bd ho (I.iy x c e);exact⟨_,q,hd⟩
  .exact⟨o,keep c o (I.m9 x c e) hc Bd ho (I.iy x c e),hd⟩
 refine⟨I.ok,I.os,hg,⟨λb o e n hb hx=>?_,λb o e n hb hx=>?_,λb o e n hx=>?_,λb o e hx=>?_,λb xs e=>tups b xs (I.base.tups b xs e),λb o xs e=>j6 b o xs (I.base.j6 b o xs e),λb ps e=>?_⟩,?_,λx c e=>?_,?_,λx c e=>?_,λp hp=>?_,hok,I.len⟩
 .exact keep b o (RQ b o e) hb (Ge b o e hx) (I.base.keep b o e n hb hx) (I.base.free b o e n hx)
 .obtain⟨sl,e1⟩:=I.base.slot b o e n hb hx;obtain⟨VF,e2⟩:=slot b _ (RQ b o e) hb (Ge b o e hx) e1 (I.base.free b o e n hx);exact⟨VF,e2⟩
 .obtain⟨o',e1⟩:=I.base.there b o e hx;exact free b o' (Ge b o e hx) e1 (I.base.free b o e n hx)
 .obtain⟨o',e1⟩:=I.base.there b o e hx;exact there b o' (Ge b o e hx) e1
 .obtain⟨m1,e1⟩:=I.base.lg b ps e;obtain⟨m2,e2⟩:=lg b _ e1;exact⟨m1++m2,by rw[e2,Array.append_assoc]⟩
 .obtain⟨m,hn,hl⟩:=I.loc;refine⟨m,ns m hn,λi x v e1 e2 e3=>?_⟩;obtain⟨u,r,l⟩:=hl i x v e1 e2 e3;refine⟨u,r,?_⟩;rcases l with l|⟨k,c,e,z⟩
  .exact .inl l
  .exact .inr ⟨k,c,e,cellK x c e _ z⟩
 .obtain⟨v,z⟩:=I.cell x c e;exact⟨v,cellK x c e v z⟩
 .obtain⟨m,⟨o,_,_,ho,_⟩,_⟩:=I.loc;exact free _ o (λz=>(hch _ z).2.1 rfl) ho I.free
 .obtain⟨v,o,ho,hd⟩:=I.cell x c e;exact free c o (λz=>(hch c z).2.2.1 x c e rfl) ho (I.iy x c e)
 .obtain⟨e,n,ne,nf,d⟩:=I.pin p hp;have Bd:p.1∉ch:=λz=>(hch p.1 z).2.2.2 p hp rfl;exact⟨keep p.1 p.2 ne nf Bd e n,free p.1 p.2 Bd e n,ne,nf,d⟩
theorem Inv.un{t':Nat}(I:Inv X pins σ H s)(u:Un X.fs [] H H' s.heap h')(hok:fh X.prog X.w H' h'):Inv X pins σ H' { s with heap:=h',toks:=t' }:=by
 obtain⟨m,⟨o,es,ep,ho,r⟩,_⟩:=id I.loc;obtain⟨sl,hL⟩:=u.any ho I.free (by simp);exact I.step (g':=s.gens) (d':=s.drawn) (ch:=[]) (λ_ z=>nomatch z) (λb o _ hb _ e n=>u.keep b o e n hb (by simp)) (λb o _ hb _ e n=>u.slot b o e n hb (by simp)) (λb o _ e n=>u.free b o e n (by simp)) (λb o _ e=>u.there b o e (by simp)) u.tups u.j6 u.lg (λm' hm=>by
  obtain⟨o',es',Kz,ho',r'⟩:=hm;rw[ho]at ho';cases ho';exact⟨_,es',Kz,hL,r'⟩) hok I.bare
theorem Inv.call{g':Array GenState}{t':Nat}{d':Drawn}{ch:List Addr}(I:Inv X pins σ H s)(u:Un (frs X.stack) ch H H' s.heap h')(hok:fh X.prog X.w H' h')(hg:AllBare g')
  (hch:∀b∈ch,(b∈X.ex\/X.s₀.heap.objs.size<=b)/\b≠X.env.locals/\(∀x c,X.env.cells.lookup x=some c->c≠b)/\∀p∈X.pn++pins,p.1≠b) :
  Inv X pins σ H' { s with heap:=h',gens:=g',drawn:=d',toks:=t' }:=by
 obtain⟨m,⟨o,es,ep,ho,r⟩,_⟩:=id I.loc;obtain⟨sl,hL⟩:=u.any ho I.free λz=>(hch _ z).2.1 rfl;exact I.step (ch:=ch) hch (λb o hL hb hc e n=>u.keep b o e n (λz=>(List.mem_cons.mp (I.qC b z)).elim hL hb) hc) (λb o _ _ hc e n=>u.any e n hc) (λb o hc e n=>u.free b o e n hc) (λb o hc e=>u.there b o e hc) u.tups u.j6 u.lg (λm' hm=>by
  obtain⟨o',es',Kz,ho',r'⟩:=hm;rw[ho]at ho';cases ho';exact⟨_,es',Kz,hL,r'⟩) hok hg
theorem Inv.turned{t':Nat}{it:Addr}(I:Inv X pins σ H s)(k:∀b o,b≠it->s.heap.get? b=some o->h'.get? b=some o)(hn:H it=none)(hL:it≠X.env.locals)
  (h1:it∈X.ex\/X.s₀.heap.objs.size<=it) (h2:∀x c,X.env.cells.lookup x=some c->c≠it) (h3:∀p∈X.pn++pins,p.1≠it):Inv X pins σ H { s with heap:=h',toks:=t' }:=by
 have Be:∀b u,H b=some u->b≠it:=λb u e z=>by rw[z,hn]at e;cases e
 refine I.step (g':=s.gens) (d':=s.drawn) (ch:=[it]) (λb hb=>?_) (λb o _ _ hc e _=>k b o (λz=>hc (by simp[z])) e) (λb o _ _ hc e _=>⟨o.slots,k b o (λz=>hc (by simp[z])) e⟩) (λ_ _ _ _ n=>n)
  (λb o hc e=>⟨o,k b o (λz=>hc (by simp[z])) e⟩) (λ_ _ e=>e) (λ_ _ _ e=>e) (λb ps e=>⟨#[],by rw[e];simp⟩) (λm hm=>?_) (λb u e=>?_) I.bare
 .have e:b=it:=by simpa using hb
  subst e;exact⟨h1,hL,h2,h3⟩
 .obtain⟨o,es,ep,ho,r⟩:=hm;exact⟨o,es,ep,k _ o (Ne.symm hL) ho,r⟩
 .refine(I.hok b u e).stay (λc v hc q=>k c v ?_ q) (λ_ q=>q) λ_ _ q=>q;rcases hc with z|z
  .rw[z];exact Be b u e
  .exact Be c _ z
theorem Inv.tok(I:Inv X pins σ H s)(t:Nat):Inv X pins σ H { s with toks:=t }:=I.un (h':=s.heap) (t':=t) Un.refl I.hok
theorem Inv.kept{t':Nat}(I:Inv X pins σ H s)(k:∀b u,s.heap.get? b=some u->h'.get? b=some u):Inv X pins σ H { s with heap:=h',toks:=t' }:=I.un (Un.kept k) (I.hok.kept k)
theorem Inv.laid{a:Addr}{o:HO}{t':Nat}(I:Inv X pins σ H s)(k:∀b u,s.heap.get? b=some u->h'.get? b=some u)(hp:s.heap.objs.size<=a)(new:dP X.prog X.w (upd H a o) h' a o) :
  Inv X pins σ (upd H a o) { s with heap:=h',toks:=t' }:=I.un (Un.laid k hp (I.hok.fresh hp)) (I.hok.laid k hp new)
theorem Inv.write{x e:Addr}{o:HO}{t':Nat}(I:Inv X pins σ H s)(mu:Gb (H x))(he:e=x\/H e=some (.own x))(k:∀b u,b≠e->s.heap.get? b=some u->h'.get? b=some u)(xX:∃u,h'.get? e=some u)
  (new:dP X.prog X.w (upd H x o) h' x o):Inv X pins σ (upd H x o) { s with heap:=h',toks:=t' }:=I.un (Un.write mu he k xX) (I.hok.write mu he k xX new)
theorem Inv.xY{Gf:List (Addr×Obj)}(I:Inv X pins σ H s)(h:∀p∈Gf,s.heap.get? p.1=some p.2/\H p.1=none/\p.1≠X.env.locals/\p.1∉X.fs/\∀v,p.2.data≠.cell v):Inv X Gf σ H s:=
 ⟨I.ok,I.os,I.bare,I.base,I.loc,I.cell,I.free,I.iy,λp hp=>(List.mem_append.mp hp).elim (λz=>I.pin p (List.mem_append_left _ z)) (h p),I.hok,I.len⟩
theorem qa{N:List Str}(hN:N.Nodup){i j:Nat}{x:Str}(a:N[i]?=some x)(b:N[j]?=some x):i=j:=by
 obtain⟨h1,e1⟩:=List.getElem?_eq_some_iff.mp a;obtain⟨h2,e2⟩:=List.getElem?_eq_some_iff.mp b;exact(List.getElem_inj hN).mp (e1.trans e2.symm)
theorem ng{M:Model}{A:Around}{E:Value->Shared->Prop}{i:Nat}{x:Str}{v:V}{u:Value}{Q:Unit->Shared->Prop}(I:Inv X pins σ H s)(hN:X.N.Nodup)(hi:X.N[i]?=some x)(hx:Loc X.env.scope x)(r:RelV v u)
  (h:∀s',Inv X pins (σ.set i (some v)) H s'->(∃a,Heap.SameBut a s.heap s'.heap/\(a=X.env.locals\/X.env.cells.lookup x=some a))->Q () s') (hf:X.fn x=true\/X.env.scope.names.lookup x=some .local:=by first|exact .inl rfl|exact .inr rfl|assumption):wpAny M A (storeName X.env x u) Q E s:=by
 obtain⟨m,hn,hl⟩:=id I.loc;have hcls:(X.env.scope.kind==.class || (X.env.scope.kind==.module&&X.env.locals != X.env.globals))=false:=by rw[I.ok.kind];rfl
 have zK:i<σ.length:=by rw[I.len];exact(List.getElem?_eq_some_iff.mp hi).1
 have m9:=I.m9;have tracked:∀{a:Addr} {h':Heap},(∃o,s.heap.get? a=some o/\H a=none)->Heap.SameBut a s.heap h'->fh X.prog X.w H h':=λ{a h'} ha hs b ob e=>by
  obtain⟨_,_,hfree⟩:=ha;refine(I.hok b ob e).stay (λc w' hc q=>(hs.2 c ?_).trans q) (λ_ q=>q) λ_ _ q=>q;rintro rfl;rcases hc with rfl|hc
  .rw[hfree]at e;cases e
  .rw[hfree]at hc;cases hc
 rcases hx with hk|hk
 .refine wpAny_storeName_local hk hn (λh' hn' hs=>?_) hcls;obtain⟨oL,_,_,RS,_⟩:=id hn;refine h _ ⟨I.ok,I.os,I.bare,⟨λb o e n hb hx=>?_,λb o e n hb hx=>?_,I.base.free,λb o e hx=>?_,I.base.tups,I.base.j6,I.base.lg⟩,⟨_,hn',λj y v' e1 e2 e3=>?_⟩,λy c e=>?_,I.free,I.iy,λp hp=>?_,tracked ⟨oL,RS,I.free⟩ hs,by simpa using I.len⟩ ⟨_,hs,.inl rfl⟩
  .exact(hs.2 b (Nat.ne_of_lt (Nat.lt_of_lt_of_le (Heap.lt_size e) I.ok.above))).trans (I.base.keep b o e n hb hx)
  .obtain⟨sl,e1⟩:=I.base.slot b o e n hb hx;exact⟨sl,(hs.2 b (Nat.ne_of_lt (Nat.lt_of_lt_of_le (Heap.lt_size e) I.ok.above))).trans e1⟩
  .obtain⟨o',e1⟩:=I.base.there b o e hx;exact⟨o',(hs.2 b (Nat.ne_of_lt (Nat.lt_of_lt_of_le (Heap.lt_size e) I.ok.above))).trans e1⟩
  .by_cases hj:j=i
   .subst hj;rw[hi]at e1;cases e1;rw[List.getElem?_set_self zK]at e2;cases e2;exact⟨u,r,.inl ⟨hk,by simp⟩⟩
   .rw[List.getElem?_set_ne (Ne.symm hj)]at e2;obtain⟨u',r',q⟩:=hl j y v' e1 e2 e3;refine⟨u',r',?_⟩;rcases q with ⟨k,e⟩|⟨k,c,e,z⟩
    .refine .inl ⟨k,?_⟩;have:y≠x:=λe=>hj (qa hN e1 (e▸hi));simp[this,e]
    .exact .inr ⟨k,c,e,z.sameBut hs (m9 y c e)⟩
  .obtain⟨w',z⟩:=I.cell y c e;exact⟨w',z.sameBut hs (m9 y c e)⟩
  .obtain⟨e,n,ne,nf,d⟩:=I.pin p hp;exact⟨(hs.2 p.1 ne).trans e,n,ne,nf,d⟩
 .have hfn:X.fn x=true:=by
   rcases hf with z|z
   .exact z
   .rw[z]at hk;cases hk
  obtain⟨c,hc⟩:=I.ok.has x (.inl hk);obtain⟨w',z⟩:=I.cell x c hc;refine wpAny_storeName_cell I.ok.kind hk hc z (λh' hc' hs=>?_);obtain⟨oc,hoc,Tp⟩:=id z;refine h { s with heap:=h' } ⟨I.ok,I.os,I.bare,⟨λb o e n hb hx=>?_,λb o e n hb hx=>?_,I.base.free,λb o e hx=>?_,I.base.tups,I.base.j6,I.base.lg⟩,⟨m,hn.sameBut hs (Ne.symm (m9 x c hc)),λj y v' e1 e2 e3=>?_⟩,λy c' e=>?_,I.free,I.iy,λp hp=>?_,tracked ⟨oc,hoc,I.iy x c hc⟩ hs,by simpa using I.len⟩ ⟨c,hs,.inr hc⟩
  .exact(hs.2 b (Nat.ne_of_lt (Nat.lt_of_lt_of_le (Heap.lt_size e) (I.ok.u9 x c hfn hc)))).trans (I.base.keep b o e n hb hx)
  .obtain⟨sl,e1⟩:=I.base.slot b o e n hb hx;exact⟨sl,(hs.2 b (Nat.ne_of_lt (Nat.lt_of_lt_of_le (Heap.lt_size e) (I.ok.u9 x c hfn hc)))).trans e1⟩
  .obtain⟨o',e1⟩:=I.base.there b o e hx;exact⟨o',(hs.2 b (Nat.ne_of_lt (Nat.lt_of_lt_of_le (Heap.lt_size e) (I.ok.u9 x c hfn hc)))).trans e1⟩
  .by_cases hj:j=i
   .subst hj;rw[hi]at e1;cases e1;rw[List.getElem?_set_self zK]at e2;cases e2;exact⟨u,r,.inr ⟨.inl hk,c,hc,hc'⟩⟩
   .rw[List.getElem?_set_ne (Ne.symm hj)]at e2;obtain⟨u',r',q⟩:=hl j y v' e1 e2 e3;refine⟨u',r',?_⟩;rcases q with q|⟨k,c',e,z'⟩
    .exact .inl q
    .refine .inr ⟨k,c',e,z'.sameBut hs ?_⟩;rintro rfl;exact hj (qa hN e1 (I.ok.inj _ _ _ e hc▸hi))
  .by_cases hcc:c'=c
   .subst hcc;exact⟨_,hc'⟩
   .obtain⟨w2,z2⟩:=I.cell y c' e;exact⟨w2,z2.sameBut hs hcc⟩
  .obtain⟨e,n,ne,nf,d⟩:=I.pin p hp;refine⟨(hs.2 p.1 ?_).trans e,n,ne,nf,d⟩;intro q;rw[q,hoc]at e;have q':oc=p.2:=Option.some.inj e;exact d w' (by rw[<-q'];exact Tp)
theorem qb{M:Model}{A:Around}{E:Value->Shared->Prop}{i:Nat}{x:Str}{v:V}{u:Value}{Q:Unit->Shared->Prop}(I:Inv X pins σ H s)(hN:X.N.Nodup)(hi:X.N[i]?=some x)(hx:Loc X.env.scope x)(r:RelV v u)
  (h:∀s',Inv X pins (σ.set i (some v)) H s'->Q () s') (hf:X.fn x=true\/X.env.scope.names.lookup x=some .local:=by first|exact .inl rfl|exact .inr rfl|assumption):wpAny M A (storeName X.env x u) Q E s:=
 ng I hN hi hx r (λs' I' _=>h s' I') hf
theorem Inv.uM{s':Shared}{ch:List Addr}(I:Inv X pins σ H s)(ho:s'.os=s.os)(u:Un (frs X.stack) ch H H' s.heap s'.heap)(hok:fh X.prog X.w H' s'.heap)(hg:AllBare s'.gens)
  (hch:∀b∈ch,(b∈X.ex\/X.s₀.heap.objs.size<=b)/\b≠X.env.locals/\(∀x c,X.env.cells.lookup x=some c->c≠b)/\∀p∈X.pn++pins,p.1≠b):Inv X pins σ H' s':=by
 obtain⟨h',g',d',t',o'⟩:=s';have e:o'=s.os:=ho;subst e;exact I.call (g':=g') (t':=t') (d':=d') u hok hg hch
end
abbrev XK:=Value->Option Addr->Hp->Prop
abbrev St:=List (Option V)
abbrev VK:=V->Hp->Prop
abbrev TE:=St->Hp->VK->Prop
abbrev TT:=St->Hp->(Bool->Hp->Prop)->Prop
abbrev TA:=St->Hp->(List V->Hp->Prop)->Prop
structure Ends where
 nx:St->Hp->Prop
 rt:VK
 bk:St->Hp->Prop:=λ_ _=>False
 ct:St->Hp->Prop:=λ_ _=>False
abbrev TS:=Ends->St->Hp->Prop
noncomputable def EP(X:Cx)(pins:List (Addr×Obj))(σ:St)(Q:VK)(u:Value)(s':Shared):Prop:=∃v H',Inv X pins σ H' s'/\RelV v u/\Q v H'
noncomputable def TP(X:Cx)(pins:List (Addr×Obj))(σ:St)(Q:Bool->Hp->Prop)(b:Bool)(s':Shared):Prop:=∃H',Inv X pins σ H' s'/\Q b H'
noncomputable def AP(X:Cx)(pins:List (Addr×Obj))(σ:St)(Q:List V->Hp->Prop)(us:List Value)(s':Shared):Prop:=∃vs H',Inv X pins σ H' s'/\Vals vs us/\Q vs H'
noncomputable def SP(X:Cx)(pins:List (Addr×Obj))(D:Ends)(f:Flow)(s':Shared):Prop:=
 match f with
 |.next=>∃σ' H',Inv X pins σ' H' s'/\D.nx σ' H'
 |.brk=>∃σ' H',Inv X pins σ' H' s'/\D.bk σ' H'
 |.cont=>∃σ' H',Inv X pins σ' H' s'/\D.ct σ' H'
 |.ret u=>∃v σ' H',Inv X pins σ' H' s'/\RelV v u/\D.rt v H'
noncomputable def PE(X:Cx)(e:Expr)(t:TE):Prop:=
 ∀(pins:List (Addr×Obj)) (s:Shared) (σ:St) (H:Hp) (Q:VK),Inv X pins σ H s->t σ H Q->wpAny (model X.prog X.w) X.A (eval e X.env) (EP X pins σ Q) X.xe s
noncomputable def PT(X:Cx)(e:Expr)(t:TT):Prop:=
 ∀(pins:List (Addr×Obj)) (s:Shared) (σ:St) (H:Hp) (Q:Bool->Hp->Prop),Inv X pins σ H s->t σ H Q->wpAny (model X.prog X.w) X.A (isTrue e X.env (eval e X.env)) (TP X pins σ Q) X.xe s
noncomputable def PW(X:Cx)(e:Expr)(t:TT):Prop:=
 ∀(whole:Sem Value) (pins:List (Addr×Obj)) (s:Shared) (σ:St) (H:Hp) (Q:Bool->Hp->Prop),Inv X pins σ H s->t σ H Q->wpAny (model X.prog X.w) X.A (isTrue e X.env whole) (TP X pins σ Q) X.xe s
theorem PW.pt{X:Cx}{e:Expr}{t:TT}(h:PW X e t):PT X e t:=h _
noncomputable def PA(X:Cx)(es:List Expr)(t:TA):Prop:=
 ∀(pos:Pos) (pins:List (Addr×Obj)) (s:Shared) (σ:St) (H:Hp) (Q:List V->Hp->Prop),Inv X pins σ H s->t σ H Q->wpAny (model X.prog X.w) X.A (spliced (backTo pos (starEach es X.env))) (AP X pins σ Q) X.xe s
noncomputable def PS(X:Cx)(st:Stmt)(t:TS):Prop:=
 ∀(pins:List (Addr×Obj)) (s:Shared) (σ:St) (H:Hp) (D:Ends),Inv X pins σ H s->t D σ H->wpAny (model X.prog X.w) X.A (exec st X.env) (SP X pins D) X.xe s
noncomputable def fj(X:Cx)(st:List Stmt)(t:TS):Prop:=
 ∀(pins:List (Addr×Obj)) (s:Shared) (σ:St) (H:Hp) (D:Ends),Inv X pins σ H s->t D σ H->wpAny (model X.prog X.w) X.A (execs st X.env) (SP X pins D) X.xe s
theorem bI{α:Type}{t:Sem α}{Q Q':α->Shared->Prop}{M:Model}{A:Around}{E:Value->Shared->Prop}{s:Shared}(h:wpAny M A t Q E s)(hQ:∀a s,Q a s->Q' a s):wpAny M A t Q' E s:=wpAny_mono h hQ λ_ _ x=>x
end L2
namespace L2
open PySem PySem.Spec PyProof.Rows
section
variable{X:Cx}
theorem bin{a b:Expr}{ta tb:TE}(ha:PE X a ta)(hb:PE X b tb){pins:List (Addr×Obj)}{s:Shared}{σ:St}{H:Hp}{R:V->V->Hp->Prop}(I:Inv X pins σ H s)(h:ta σ H λx H1=>tb σ H1 λy H2=>R x y H2)
  {α:Type} {Q:α->Shared->Prop} {f:Value->Value->Sem α}
  (hf:∀v u s2 x y H2,Inv X pins σ H2 s2->RelV x v->RelV y u->R x y H2->wpAny (model X.prog X.w) X.A (f v u) Q X.xe s2) :
  wpAny (model X.prog X.w) X.A (eval a X.env) (λv s₁=>wpAny (model X.prog X.w) X.A (eval b X.env) (λu s₂=>wpAny (model X.prog X.w) X.A (f v u) Q X.xe s₂) X.xe s₁) X.xe s:=by
 refine bI (ha pins s σ H _ I h) λv s1 ⟨x,H1,I1,r1,q1⟩=>?_;refine bI (hb pins s1 σ H1 _ I1 q1) λu s2 ⟨y,H2,I2,r2,q2⟩=>?_;exact hf v u s2 x y H2 I2 r1 r2 q2
noncomputable def KA(i:Nat):TE:=λσ H Q=>∃v,σ[i]?=some (some v)/\Q v H
noncomputable def tC(v:V):TE:=λ_ H Q=>Q v H
theorem qD {i:Nat}{x:Str}{pos:Pos}(hN:X.N[i]?=some x) (hv:tR X.env.scope x) (hd:(x==("__debug__" : Str))=false:=by decide) (hcd:(x==("__classdict__" : Str))=false:=by decide):PE X (.Name x pos) (KA i):=by
 intro pins s σ H Q I h;obtain⟨v,e,h⟩:=h;obtain⟨m,hn,hl⟩:=I.loc;obtain⟨u,r,l⟩:=hl i x v hN e hv;have fin:EP X pins σ Q u s:=⟨v,H,I,r,h⟩
 rcases l with ⟨hk,hm⟩|⟨hk,c,hc,hcell⟩
 .exact wpAny_Name (wpAny_loadName_local I.ok.kind hk hn hm fin) hd
 .rcases hk with hk|hk
  .exact wpAny_Name (wpAny_loadName_cell I.ok.kind hk hc hcell fin) hd
  .exact wpAny_Name (wpAny_loadName_free I.ok.kind hk hc hcell fin hcd) hd
theorem Bf{i j pos}:PE X (.Constant (.int i) j pos) (tC (.int i)):=λ_ _ _ H _ I h=>wpAny_Constant_int ⟨.int i,H,I.tok _,⟨_,rfl⟩,h⟩
theorem Pd{b j pos}:PE X (.Constant (.bool b) j pos) (tC (.bl b)):=λ_ _ _ H _ I h=>Constant_bool ⟨.bl b,H,I,rfl,h⟩
theorem KD{j pos}:PE X (.Constant .none j pos) (tC .aL):=λ_ _ _ H _ I h=>Constant_none ⟨.aL,H,I,rfl,h⟩
theorem Bg{x j pos}:PE X (.Constant (.str x) j pos) (tC (.str x)):=λ_ _ _ H _ I h=>Calls.Constant_str ⟨.str x,H,I.tok _,⟨_,rfl⟩,h⟩
noncomputable def Gl(X:Cx)(x:Str):Prop:=X.env.kindOf x=some .globalImplicit
theorem oF{E:Value->Shared->Prop}{pins:List (Addr×Obj)}{s:Shared}{σ:St}{H:Hp}{x:Str}{u:Value}{pos:Pos}{Q:Value->Shared->Prop}(I:Inv X pins σ H s)(hg:Gl X x)(hm:X.mg x=some u)(h:Q u s)
  (hd:(x==("__debug__" : Str))=false:=by decide):wpAny (model X.prog X.w) X.A (eval (.Name x pos) X.env) Q E s:=
 Calls.Name_function_global I.ok.kind hg (Calls.loadGlobal_global (by rw[I.ok.glob];exact I.mod.glob.keeps I.bk) hm h) hd
theorem iT{E:Value->Shared->Prop}{pins:List (Addr×Obj)}{s:Shared}{σ:St}{H:Hp}{x:Str}{u:Value}{pos:Pos}{Q:Value->Shared->Prop}(I:Inv X pins σ H s)(hg:Gl X x)(hm:X.mg x=none)(hv:bootBuiltins x=some u)(h:Q u s)
  (hn:x≠"__name__" :=by decide) (hd:(x==("__debug__" : Str))=false:=by decide):wpAny (model X.prog X.w) X.A (eval (.Name x pos) X.env) Q E s:=by
 obtain⟨mb,h1,h2⟩:=I.mod.blt;exact Calls.Name_function_global I.ok.kind hg (Calls.loadGlobal_builtin (by rw[I.ok.glob];exact I.mod.glob.keeps I.bk) hm (by rw[I.ok.blt];exact h1.keeps I.bk) ((h2 x hn).trans hv) h) hd
theorem oG {x:Str}{v:V}{u:Value}{pos:Pos}(hg:Gl X x) (hm:X.mg x=some u) (r:RelV v u) (hd:(x==("__debug__" : Str))=false:=by decide):PE X (.Name x pos) (tC v):=
 λ_ _ _ H _ I h=>oF I hg hm ⟨v,H,I,r,h⟩ hd
theorem xZ {x:Str}{v:V}{u:Value}{pos:Pos}(hg:Gl X x) (hm:X.mg x=none) (hv:bootBuiltins x=some u) (r:RelV v u) (hn:x≠"__name__" :=by decide) (hd:(x==("__debug__" : Str))=false:=by decide):PE X (.Name x pos) (tC v):=
 λ_ _ _ H _ I h=>iT I hg hm hv ⟨v,H,I,r,h⟩ hn hd
variable{a b:Expr}{ta tb:TE}{pos:Pos}
noncomputable def tB(t:TE):TT:=λσ H Q=>t σ H λx H1=>∃c,x=.bl c/\Q c H1
theorem KG{e:Expr}{t:TE}(h:PE X e t)(he:∀whole,isTrue e X.env whole=(do let v <-whole;standAt e.pos;holding [v] (truthy v)):=by intro _;rfl):PT X e (tB t):=by
 intro pins s σ H Q I hw;refine isTrue_plain (bI (h pins s σ H _ I hw) λv s1 ⟨x,H1,I1,r1,q1⟩=>?_) (he _);obtain⟨d,rfl,q⟩:=q1;cases r1;exact wpAny_truthy_bool ⟨H1,I1,q⟩
variable{tA Gg:TT}{rest:List Expr}
noncomputable def Tt(t u:TT):TT:=λσ H Q=>t σ H λc H1=>if c=true then u σ H1 Q else Q false H1
noncomputable def VG(t u:TT):TT:=λσ H Q=>t σ H λc H1=>if c=true then Q true H1 else u σ H1 Q
noncomputable def Tu(t:TT):TT:=λσ H Q=>t σ H λc H1=>Q (!c) H1
theorem HL(ha:PT X a tA):PW X (.BoolOp .And [a] pos) tA:=by
 intro wh pins s σ H Q I h;refine isTrue_and (bI (ha pins s σ H Q I h) λc s1 e=>?_);cases c with
 |true=>exact isTrue_and_nil e
 |false=>exact e
theorem Bh(ha:PT X a tA):PW X (.BoolOp .Or [a] pos) tA:=by
 intro wh pins s σ H Q I h;refine isTrue_or (bI (ha pins s σ H Q I h) λc s1 e=>?_);cases c with
 |false=>exact isTrue_or_nil e
 |true=>exact e
theorem KH(ha:PT X a tA)(hb:PW X (.BoolOp .And (b :: rest) pos) Gg):PW X (.BoolOp .And (a :: b :: rest) pos) (Tt tA Gg):=by
 intro wh pins s σ H Q I h;refine isTrue_and (bI (ha pins s σ H _ I h) λc s1 ⟨H1,I1,q1⟩=>?_);cases c with
 |true=>exact hb wh pins s1 σ H1 Q I1 q1
 |false=>exact⟨H1,I1,q1⟩
theorem Gh(ha:PT X a tA)(hb:PW X (.BoolOp .Or (b :: rest) pos) Gg):PW X (.BoolOp .Or (a :: b :: rest) pos) (VG tA Gg):=by
 intro wh pins s σ H Q I h;refine isTrue_or (bI (ha pins s σ H _ I h) λc s1 ⟨H1,I1,q1⟩=>?_);cases c with
 |true=>exact⟨H1,I1,q1⟩
 |false=>exact hb wh pins s1 σ H1 Q I1 q1
theorem Bj(ha:PT X a tA):PT X (.UnaryOp .Not a pos) (Tu tA):=by
 intro pins s σ H Q I h;exact isTrue_not (ha pins s σ H (λc H1=>Q (!c) H1) I h)
noncomputable def Pe(ta tb:TE):TE:=λσ H Q=>ta σ H λx H1=>∃c,x=.bl c/\if c=true then tb σ H1 Q else Q (.bl false) H1
theorem KI{op}{t:TE}(h:PE X a t):PE X (.BoolOp op [a] pos) t:=λpins s σ H Q I hw=>BoolOp_one (h pins s σ H Q I hw)
theorem KJ(ha:PE X a ta)(hb:PE X (.BoolOp .And (b :: rest) pos) tb):PE X (.BoolOp .And (a :: b :: rest) pos) (Pe ta tb):=by
 intro pins s σ H Q I h;refine BoolOp_and (bI (ha pins s σ H _ I h) λv s1 ⟨x,H1,I1,r1,q1⟩=>?_);obtain⟨c,rfl,q1⟩:=q1;cases r1;refine wpAny_truthy_bool ?_;cases c with
 |true=>exact hb pins s1 σ H1 Q I1 q1
 |false=>exact⟨.bl false,H1,I1,rfl,q1⟩
noncomputable def VH(t:TT)(ta tb:TE):TE:=λσ H Q=>t σ H λc H1=>if c=true then ta σ H1 Q else tb σ H1 Q
theorem DI{c:Expr}(hc:PT X c tA)(ha:PE X a ta)(hb:PE X b tb):PE X (.IfExp c a b pos) (VH tA ta tb):=by
 intro pins s σ H Q I h;refine wpAny_IfExp (bI (hc pins s σ H _ I h) λd s1 ⟨H1,I1,q1⟩=>?_);cases d with
 |true=>exact ha pins s1 σ H1 Q I1 q1
 |false=>exact hb pins s1 σ H1 Q I1 q1
end
end L2
namespace L2
open PySem PySem.Spec PyProof.Rows
noncomputable def ef(K:PySem.W.Frag)(H:Hp)(a:Addr)(xs:List V):Prop:=
 Rd H a (.lst xs)\/
  ∃(o:Obj) (its:Array Value) (n:Nat),K.lookup a=some o/\o.cls=.type "list" /\o.dict=none/\o.data=.seq its n/\its.size<=sizeLine/\Vals xs its.toList
noncomputable def dR(K:PySem.W.Frag)(H:Hp)(a:Addr)(xs:List V):Prop:=
 Rd H a (.tup xs)\/
  ∃(o:Obj) (its:Array Value) (n:Nat),K.lookup a=some o/\o.cls=.type "tuple" /\o.data=.seq its n/\its.size<=sizeLine/\Vals xs its.toList
noncomputable def Tv:Value->Option V
 |.none=>some .aL
 |.bool b=>some (.bl b)
 |.int i _=>some (.int i)
 |.str x _=>some (.str x)
 |.bytes b _=>some (.m7 b)
 |.float b _=>some (.xW b)
 |.ref a=>some (.ref a)
 |.type n=>some (.ty n)
 |_=>none
theorem RelV.abs{x:V}{u:Value}(r:RelV x u):Tv u=some x:=by
 cases x with
 |aL=>cases r;rfl
 |bl _=>cases r;rfl
 |int _=>obtain⟨t,rfl⟩:=r;rfl
 |str _=>obtain⟨t,rfl⟩:=r;rfl
 |m7 _=>obtain⟨t,rfl⟩:=r;rfl
 |xW _=>obtain⟨t,rfl⟩:=r;rfl
 |ref _=>cases r;rfl
 |ty _=>cases r;rfl
theorem RelV.inj{x y:V}{u:Value}(r:RelV x u)(q:RelV y u):x=y:=Option.some.inj (r.abs.symm.trans q.abs)
theorem Vals.inj:∀{xs ys:List V}{us:List Value},Vals xs us->Vals ys us->xs=ys
 |_,_,_,.nil,.nil=>rfl
 |_,_,_,.cons r t,.cons r' t'=>by rw[r.inj r',Vals.inj t t']
section
variable{X:Cx}{pins:List (Addr×Obj)}{σ:St}{H:Hp}{s:Shared}{a:Addr}{xs ys:List V}
theorem ef.of{K:PySem.W.Frag}(h:H a=some (.lst xs)):ef K H a xs:=.inl (.inl h)
theorem dR.of{K:PySem.W.Frag}(h:H a=some (.tup xs)):dR K H a xs:=.inl (.inl h)
theorem Inv.list(I:Inv X pins σ H s)(h:ef X.K H a xs):∃its:List Value,Vals xs its/\PlainL s.heap a its.toArray/\xs.length<=sizeLine:=by
 rcases h with h|⟨o,its,n,hk,hc,hd,hs,hz,r⟩
 .obtain⟨z,its,n,r,e⟩:=h.ok I.hok;exact⟨its,r,⟨_,n,e,rfl,rfl,rfl⟩,z⟩
 .refine⟨its.toList,r,⟨o,n,I.fF a o hk,hc,hd,by simpa using hs⟩,?_⟩;have e:=r.length;simp only[Array.length_toList]at e;omega
theorem Inv.tuple(I:Inv X pins σ H s)(h:dR X.K H a xs):∃its:List Value,Vals xs its/\IsTup s.heap a its.toArray/\xs.length<=sizeLine:=by
 rcases h with h|⟨o,its,n,hk,hc,hs,hz,r⟩
 .obtain⟨z,its,r,p⟩:=h.ok I.hok;exact⟨its,r,p,z⟩
 .refine⟨its.toList,r,⟨o,I.fF a o hk,hc,n,by simpa using hs⟩,?_⟩;have e:=r.length;simp only[Array.length_toList]at e;omega
theorem Inv.qc(I:Inv X pins σ H s)(h:ef X.K H a xs)(h':ef X.K H a ys):xs=ys:=by
 obtain⟨its,r,⟨o,n,e,_,_,d⟩,_⟩:=I.list h;obtain⟨its',r',⟨o',n',e',_,_,d'⟩,_⟩:=I.list h';rw[e]at e';cases e';rw[d]at d';injection d' with d1 _
 have:its=its':=by simpa using congrArg Array.toList d1
 subst this;exact r.inj r'
theorem Inv.nh(I:Inv X pins σ H s)(h:dR X.K H a xs)(h':dR X.K H a ys):xs=ys:=by
 obtain⟨its,r,⟨o,e,_,n,d⟩,_⟩:=I.tuple h;obtain⟨its',r',⟨o',e',_,n',d'⟩,_⟩:=I.tuple h';rw[e]at e';cases e';rw[d]at d';injection d' with d1 _
 have:its=its':=by simpa using congrArg Array.toList d1
 subst this;exact r.inj r'
end
abbrev Cx.iU(X:Cx)(E:Value->Shared->Prop):Cx:={ X with xe:=E }
abbrev Cx.eg(X:Cx):Cx:=X.iU λ_ _=>False
theorem Cx.Ok.iU{X:Cx}(ok:X.Ok)(E:Value->Shared->Prop):(X.iU E).Ok:=
 ⟨ok.mod,ok.kind,ok.glob,ok.blt,ok.above,ok.inj,ok.has,ok.u9,ok.hd,ok.frames,ok.stk,ok.Bc,ok.bs,ok.m8,ok.pY,ok.pZ,ok.iD,ok.pD⟩
theorem Cx.Ok.gf{X:Cx}{E:Value->Shared->Prop}(ok:(X.iU E).Ok):X.Ok:=
 ⟨ok.mod,ok.kind,ok.glob,ok.blt,ok.above,ok.inj,ok.has,ok.u9,ok.hd,ok.frames,ok.stk,ok.Bc,ok.bs,ok.m8,ok.pY,ok.pZ,ok.iD,ok.pD⟩
section
variable{X:Cx}{pins:List (Addr×Obj)}{σ:St}{H:Hp}{s:Shared}{E:Value->Shared->Prop}
theorem Inv.iU(I:Inv X pins σ H s)(E:Value->Shared->Prop):Inv (X.iU E) pins σ H s:=⟨I.ok.iU E,I.os,I.bare,I.base,I.loc,I.cell,I.free,I.iy,I.pin,I.hok,I.len⟩
theorem Inv.gf(I:Inv (X.iU E) pins σ H s):Inv X pins σ H s:=⟨I.ok.gf,I.os,I.bare,I.base,I.loc,I.cell,I.free,I.iy,I.pin,I.hok,I.len⟩
theorem SP.gf{D:Ends}{f:Flow}{s':Shared}(h:SP (X.iU E) pins D f s'):SP X pins D f s':=by
 cases f with
 |next=>obtain⟨σ',H',I,q⟩:=h;exact⟨σ',H',I.gf,q⟩
 |brk=>obtain⟨σ',H',I,q⟩:=h;exact⟨σ',H',I.gf,q⟩
 |cont=>obtain⟨σ',H',I,q⟩:=h;exact⟨σ',H',I.gf,q⟩
 |ret u=>obtain⟨v,σ',H',I,r,q⟩:=h;exact⟨v,σ',H',I.gf,r,q⟩
theorem PE.eg{e:Expr}{t:TE}(h:PE X.eg e t):PE X e t:=λpins s σ H Q I hw=>
 wpAny_mono (h pins s σ H Q (I.iU _) hw) (λ_ _ ⟨v,H',I',r,q⟩=>⟨v,H',I'.gf,r,q⟩) λ_ _ z=>False.elim z
theorem PT.eg{e:Expr}{t:TT}(h:PT X.eg e t):PT X e t:=λpins s σ H Q I hw=>
 wpAny_mono (h pins s σ H Q (I.iU _) hw) (λ_ _ ⟨H',I',q⟩=>⟨H',I'.gf,q⟩) λ_ _ z=>False.elim z
theorem fj.eg{st:List Stmt}{t:TS}(h:fj X.eg st t):fj X st t:=λpins s σ H D I hw=>
 wpAny_mono (h pins s σ H D (I.iU _) hw) (λ_ _ q=>q.gf) λ_ _ z=>False.elim z
end
section
variable{X:Cx}{st:Stmt}{rest:List Stmt}{t u:TS}{e:Expr}{te:TE}{pos:Pos}
noncomputable def Pf:TS:=λD σ H=>D.nx σ H
noncomputable def Tw(t u:TS):TS:=λD σ H=>t { D with nx:=u D } σ H
theorem x6:fj X [] Pf:=λ_ _ σ H _ I h=>wpAny_execs_nil ⟨σ,H,I,h⟩
theorem jr(h1:PS X st t)(h2:fj X rest u):fj X (st :: rest) (Tw t u):=by
 intro pins s σ H D I h;refine wpAny_execs_cons (bI (h1 pins s σ H { D with nx:=u D } I h) λf s1 q=>?_);cases f with
 |next=>
  obtain⟨σ',H',I',q⟩:=q;exact h2 pins s1 σ' H' D I' q
 |ret v=>exact q
 |brk=>exact q
 |cont=>exact q
theorem x8(h1:PS X st t):fj X [st] t:=by
 intro pins s σ H D I h;refine wpAny_execs_cons (bI (h1 pins s σ H D I h) λf s1 q=>?_);cases f with
 |next=>exact wpAny_execs_nil q
 |ret v=>exact q
 |brk=>exact q
 |cont=>exact q
theorem Inv.quiet{pins:List (Addr×Obj)}{σ:St}{H:Hp}{s:Shared}(I:Inv X pins σ H s):interactive X.env=false:=by simp[interactive,I.ok.kind]
noncomputable def Pg(te:TE):TS:=λD σ H=>te σ H λ_ H1=>D.nx σ H1
theorem x9(he:PE X e te)(hs:swapsWith e none pos.line X.env=pure false:=by rfl):PS X (.Expr e pos) (Pg te):=by
 intro pins s σ H D I h;exact wpAny_Expr_any (bI (he pins s σ H _ I h) λv s1 ⟨x,H1,I1,r1,q1⟩=>⟨σ,H1,I1,q1⟩) I.quiet hs
noncomputable def Tz(te:TE):TS:=λD σ H=>te σ H D.rt
theorem Bk(he:PE X e te):PS X (.Return (some e) pos) (Tz te):=by
 intro pins s σ H D I h;exact wpAny_Return_some (bI (he pins s σ H _ I h) λv s1 ⟨x,H1,I1,r1,q1⟩=>⟨x,σ,H1,I1,r1,q1⟩)
noncomputable def TF(c:TT)(t u:TS):TS:=λD σ H=>c σ H λb H1=>if b=true then t D σ H1 else u D σ H1
theorem zL{c:Expr}{a b:List Stmt}{tc:TT}(hc:PT X c tc)(ha:fj X a t)(hb:fj X b u):PS X (.If c a b pos) (TF tc t u):=by
 intro pins s σ H D I h;refine wpAny_If (bI (hc pins s σ H _ I h) λd s1 ⟨H1,I1,q1⟩=>?_);cases d with
 |true=>exact ha pins s1 σ H1 D I1 q1
 |false=>exact hb pins s1 σ H1 D I1 q1
noncomputable def Bm:TS:=λ_ _ _=>False
theorem DJ:PS X st Bm:=λ_ _ _ _ _ _ h=>h.elim
theorem Bo{sts:List Stmt}:fj X sts Bm:=λ_ _ _ _ _ _ h=>h.elim
end
abbrev TG:=V->St->Hp->(St->Hp->Prop)->Prop
abbrev tS:=List V->St->Hp->(St->Hp->Prop)->Prop
noncomputable def PG(X:Cx)(target:Expr)(t:TG):Prop:=
 ∀(pins:List (Addr×Obj)) (s:Shared) (σ:St) (H:Hp) (v:V) (u:Value) (Q:St->Hp->Prop),Inv X pins σ H s->RelV v u->t v σ H Q->
  wpAny (model X.prog X.w) X.A (assign target X.env u) (λ_ s'=>∃σ' H',Inv X pins σ' H' s'/\Q σ' H') X.xe s
noncomputable def pF(X:Cx)(ts:List Expr)(t:tS):Prop:=
 ∀(pins:List (Addr×Obj)) (s:Shared) (σ:St) (H:Hp) (vs:List V) (us:List Value) (Q:St->Hp->Prop),Inv X pins σ H s->Vals vs us->t vs σ H Q->
  wpAny (model X.prog X.w) X.A (assignInOrder ((assignEach ts X.env).map (·.2)) us) (λ_ s'=>∃σ' H',Inv X pins σ' H' s'/\Q σ' H') X.xe s
abbrev DK:=V->V->V->Hp->(Hp->Prop)->Prop
noncomputable def KL(X:Cx)(t:DK):Prop:=
 ∀(pins:List (Addr×Obj)) (s:Shared) (σ:St) (H:Hp) (o i v:V) (ov iv u:Value) (Q:Hp->Prop),Inv X pins σ H s->RelV o ov->RelV i iv->RelV v u->t o i v H Q->
  wpAny (model X.prog X.w) X.A (setItem ov iv u) (λ_ s'=>∃H',Inv X pins σ H' s'/\Q H') X.xe s
section
variable{X:Cx}{pos:Pos}
noncomputable def Gi(i:Nat):TG:=λv σ H Q=>Q (σ.set i (some v)) H
theorem yc{i:Nat}{x:Str}(hN:X.N.Nodup)(hi:X.N[i]?=some x)(hx:Loc X.env.scope x)(hf:X.fn x=true\/X.env.scope.names.lookup x=some .local:=by first|exact .inl rfl|exact .inr rfl|assumption):PG X (.Name x pos) (Gi i):=by
 intro pins s σ H v u Q I r h;exact wpAny_assign_Name (qb I hN hi hx r (λs' I'=>⟨_,H,I',h⟩) hf)
noncomputable def TH:tS:=λvs σ H Q=>vs=[]/\Q σ H
noncomputable def Ph(t:TG)(u:tS):tS:=λvs σ H Q=>∃v r,vs=v :: r/\t v σ H λσ' H'=>u r σ' H' Q
theorem HM:pF X [] TH:=by
 intro pins s σ H vs us Q I r h;obtain⟨e,h⟩:=h;subst e;cases r;exact assignInOrder_nil ⟨σ,H,I,h⟩
theorem DL{e:Expr}{es:List Expr}{t:TG}{u:tS}(h1:PG X e t)(h2:pF X es u)
  (hs:(assignEach (e :: es) X.env).map (·.2)=assign e X.env :: (assignEach es X.env).map (·.2):=by rfl):pF X (e :: es) (Ph t u):=by
 intro pins s σ H vs us Q I r h;obtain⟨v,vr,e1,h⟩:=h;subst e1;cases r with
 |cons r rr=>
  rw[hs];refine assignInOrder_cons (bI (h1 pins s σ H _ _ _ I r h) λ_ s1 ⟨σ1,H1,I1,q1⟩=>?_);exact h2 pins s1 σ1 H1 _ _ Q I1 rr q1
noncomputable def TJ(K:PySem.W.Frag)(n:Nat)(t:tS):TG:=λv σ H Q=>∃a xs,v=.ref a/\dR K H a xs/\xs.length=n/\t xs σ H Q
theorem KN{es:List Expr}{k:Nat}{t:tS}{n:Nat}(hc:X.calm=true)(h:pF X es t)
  (hn:(assignEach es X.env).length=n:=by rfl) (hst:(assignEach es X.env).findIdx? (·.1)=none:=by rfl):PG X (.Tuple es k pos) (TJ X.K n t):=by
 intro pins s σ H v u Q I r hw;obtain⟨a,xs,e1,hq,hl,hw⟩:=hw;subst e1;cases r;obtain⟨its,rv,ht,hz⟩:=I.tuple hq;refine assign_Tuple_tuple (I.ok.hd hc) ht (by simp[hn,<-hl,rv.length]) hst λh' hx=>?_;have I1:Inv X pins σ H { s with heap:=h' }:=I.kept (t':=s.toks) λb o e=>hx b o (Nat.ne_of_lt (Heap.lt_size e)) e;exact h pins _ σ H xs _ Q I1 (by simpa using rv) hw
noncomputable def TL(to ti:TE)(t:DK):TG:=λv σ H Q=>to σ H λo H1=>ti σ H1 λi H2=>t o i v H2 λH3=>Q σ H3
theorem KO{o i:Expr}{to ti:TE}{t:DK}(ho:PE X o to)(hi:PE X i ti)(hs:KL X t)
  (ha:∀v,assign (.Subscript o i pos) X.env v=(do
   let ov <-holding [v] (eval o X.env)
   let iv <-holding [v,ov] (eval i X.env)
   standAt pos
   holding [v,ov,iv] (setItem ov iv v)
   release [v,ov,iv] []):=by intro _;rfl):PG X (.Subscript o i pos) (TL to ti t):=by
 intro pins s σ H v u Q I r h;rw[ha];refine wpAny_bind (wpAny_holding (bI (ho pins s σ H _ I h) λov s1 ⟨x,H1,I1,r1,q1⟩=>?_));refine wpAny_bind (wpAny_holding (bI (hi pins s1 σ H1 _ I1 q1) λiv s2 ⟨y,H2,I2,r2,q2⟩=>?_));refine wpAny_bind (wpAny_standAt (wpAny_bind (wpAny_holding (bI (hs pins s2 σ H2 x y v ov iv u _ I2 r1 r2 r q2) λ_ s3 ⟨H3,I3,q3⟩=>?_))));exact wpAny_release ⟨σ,H3,I3,q3⟩
noncomputable def KP(te:TE)(g:TG):TS:=λD σ H=>te σ H λx H1=>g x σ H1 D.nx
theorem Bp{tg e:Expr}{te:TE}{g:TG}(he:PE X e te)(hg:PG X tg g)(hs:swapsWithSole [tg] e pos.line X.env=pure false:=by rfl)(hw:swappedStores [tg] e X.env=pure none:=by rfl)
  (h1:(assignEach [tg] X.env).map (·.2)=[assign tg X.env]:=by rfl):PS X (.Assign [tg] e pos) (KP te g):=by
 intro pins s σ H D I h;refine wpAny_Assign_stores (bI (he pins s σ H _ I h) λv s1 ⟨x,H1,I1,r1,q1⟩=>?_) hs hw;rw[h1];exact bI (hg pins s1 σ H1 x v _ I1 r1 q1) λ_ s2 q=>q
theorem qF{i:Nat}{x:Str}{e:Expr}{te:TE}{pos':Pos}(hN:X.N.Nodup)(hi:X.N[i]?=some x)(hx:Loc X.env.scope x)(he:PE X e te)(hs:swapsWith e (some (.Name x pos')) pos.line X.env=pure false:=by rfl)(hf:X.fn x=true\/X.env.scope.names.lookup x=some .local:=by first|exact .inl rfl|exact .inr rfl|assumption) :
  PS X (.Assign [.Name x pos'] e pos) (KP te (Gi i)):=by
 intro pins s σ H D I h;refine wpAny_Assign_Name (bI (he pins s σ H _ I h) λv s1 ⟨y,H1,I1,r1,q1⟩=>?_) hs;exact qb I1 hN hi hx r1 (λs2 I2=>⟨_,H1,I2,q1⟩) hf
end
section
variable{X:Cx}{pos:Pos}
noncomputable def KQ(c:TT)(tb:TS):TS:=λD σ H=>∃W:Nat->St->Hp->Prop,(∃m,W m σ H)/\∀m σ H,W m σ H->
 c σ H λb H1=>if b=true then ∃N:St->Hp->Prop,(∀σ' H',N σ' H'->∃m',m'<m/\W m' σ' H')/\tb { D with nx:=N,ct:=N,bk:=D.nx } σ H1 else D.nx σ H1
theorem vc{c:Expr}{body:List Stmt}{tc:TT}{tb:TS}(hp:PassesOwn (model X.prog X.w) X.A X.env X.xe)(hc:PT X c tc)(hb:fj X body tb):PS X (.While c body [] pos) (KQ tc tb):=by
 intro pins s σ H D I h;obtain⟨W,⟨m0,w0⟩,turn⟩:=h;refine wpAny_While (codeAny_whileLoop (λn s'=>∃σ' H',Inv X pins σ' H' s'/\W n σ' H') ?_ m0 ⟨σ,H,I,w0⟩);rintro n s1 ⟨σ1,H1,I1,w1⟩;refine wpAny_passesOwn hp (bI (hc pins s1 σ1 H1 _ I1 (turn n σ1 H1 w1)) λb s2 ⟨H2,I2,q2⟩=>?_);cases b with
 |true=>
  obtain⟨N,hN,q2⟩:=q2;rw[if_pos rfl];refine wpAny_passesOwn hp (bI (hb pins s2 σ1 H2 _ I2 q2) λf s3 q3=>?_);cases f with
  |next=>
   obtain⟨σ3,H3,I3,n3⟩:=q3;obtain⟨m',hm,w3⟩:=hN σ3 H3 n3;exact⟨m',hm,σ3,H3,I3,w3⟩
  |cont=>
   obtain⟨σ3,H3,I3,n3⟩:=q3;obtain⟨m',hm,w3⟩:=hN σ3 H3 n3;exact⟨m',hm,σ3,H3,I3,w3⟩
  |brk=>exact q3
  |ret v=>exact q3
 |false=>
  rw[if_neg Bool.false_ne_true];exact wpAny_execs_nil ⟨σ1,H2,I2,q2⟩
end
structure It where
 go:Nat->Hp->Prop
 Gj:Nat->Hp->V->Hp->Prop
 stop:Nat->Hp->Prop
noncomputable def gT(X:Cx)(pins:List (Addr×Obj))(H:Hp)(b:Addr):Prop:=
 H b=none/\b≠X.env.locals/\b∉X.fs/\(b∈X.ex\/X.s₀.heap.objs.size<=b)/\(∀x c,X.env.cells.lookup x=some c->c≠b)/\∀p∈X.pn++pins,p.1≠b
theorem Inv.zM{X:Cx}{pins:List (Addr×Obj)}{σ:St}{H H':Hp}{s:Shared}{b:Addr}(I:Inv X pins σ H s)(hb:s.heap.objs.size<=b)(hn:H' b=none):gT X pins H' b:=by
 refine⟨hn,Nat.ne_of_gt (Nat.lt_of_lt_of_le I.lt hb),I.To hb,.inr (Nat.le_trans I.sz hb),λx c e z=>?_,λp hp z=>?_⟩
 .obtain⟨v,q⟩:=I.cell x c e;exact absurd (Nat.lt_of_lt_of_le q.lt (by rw[z];exact hb)) (Nat.lt_irrefl _)
 .exact absurd (Nat.lt_of_lt_of_le (Heap.lt_size (I.pin p hp).1) (by rw[z];exact hb)) (Nat.lt_irrefl _)
structure Turn(P:Program)(w:World)(K:PySem.W.Frag)(tg:Expr)(J:It)(fp:List Addr)(it:Addr)(tn:Nat->Heap->Prop):Prop where
 mem:it∈fp
 obj:∀i h,tn i h->∀b∈fp,∃o,h.get? b=some o/\∀v,o.data≠.cell v
 keep:∀i h h',tn i h->(∀b∈fp,∀o,h.get? b=some o->h'.get? b=some o)->tn i h'
 item:∀(X:Cx),X.prog=P->X.w=w->X.K=K->X.calm=true->∀(i:Nat) (pins:List (Addr×Obj)) (s:Shared) (σ:St) (H:Hp) (E:Value->Shared->Prop),Inv X pins σ H s->(∀b∈fp,gT X pins H b)->tn i s.heap->J.go i H->
  wpAny (model P w) X.A (pyNext (.ref it)) (λr s1=>∃u,r=some u/\
   wpAny (model P w) X.A (letOwnedTupleGo tg (.ref it) u) (λ_ s2=>∃x H',Inv X pins σ H' s2/\RelV x u/\J.Gj i H x H'/\tn (i+1) s2.heap/\∀b∈fp,H' b=none) E s1) E s
 done:∀(X:Cx),X.prog=P->X.w=w->X.K=K->X.calm=true->∀(i:Nat) (pins:List (Addr×Obj)) (s:Shared) (σ:St) (H:Hp) (E:Value->Shared->Prop),Inv X pins σ H s->(∀b∈fp,gT X pins H b)->tn i s.heap->J.stop i H->
  wpAny (model P w) X.A (pyNext (.ref it)) (λr s1=>r=none/\Inv X pins σ H s1) E s
 self:∀(A:Around) (i:Nat) (s:Shared) (Q:Value->Shared->Prop) (E:Value->Shared->Prop),tn i s.heap->Q (.ref it) s->wpAny (model P w) A (pyIter (.ref it)) Q E s
abbrev TI:=St->Hp->(It->Hp->Prop)->Prop
noncomputable def RT(X:Cx)(pins:List (Addr×Obj))(σ:St)(tg:Expr)(R:It->Hp->Prop)(itv:Value)(s2:Shared):Prop:=
 ∃(it:Addr) (fp:List Addr) (tn:Nat->Heap->Prop) (J:It) (H':Hp),itv=.ref it/\Inv X pins σ H' s2/\Turn X.prog X.w X.K tg J fp it tn/\tn 0 s2.heap/\(∀b∈fp,gT X pins H' b)/\R J H'
noncomputable def PI(X:Cx)(tg iter:Expr)(wi:TI):Prop:=
 ∀(pins:List (Addr×Obj)) (s:Shared) (σ:St) (H:Hp) (R:It->Hp->Prop),Inv X pins σ H s->wi σ H R->
  wpAny (model X.prog X.w) X.A (eval iter X.env) (λv s1=>wpAny (model X.prog X.w) X.A (pyIter v) (RT X pins σ tg R) X.xe s1) X.xe s
theorem zN{M:Model}{A:Around}{E:Value->Shared->Prop}{s:Shared}{tg:Expr}{it:Addr}{u:Value}{o:Obj}{n:String}{vs:Array Value}{Q:Unit->Shared->Prop}(ho:s.heap.get? it=some o)(hc:o.cls=.type n)(hd:o.data=.fields vs)
    (hn:["enumerate","zip","dict_itemiterator","dict_reverseitemiterator","odict_iterator","itertools.zip_longest","itertools.pairwise"].contains n=false) (hQ:Q () s):wpAny M A (letOwnedTupleGo tg (.ref it) u) Q E s:=by
  unfold letOwnedTupleGo;cases tg<;>first
    |exact wpAny_pure hQ
    | (cases u<;>first
        |exact wpAny_pure hQ
        | (refine wpAny_bind (wpAny_load ho ?_)
           rw[hc,hd];show wpAny M A (if (["enumerate","zip","dict_itemiterator","dict_reverseitemiterator","odict_iterator","itertools.zip_longest","itertools.pairwise"].contains n&&vs[0]?==some (rawInt _))=true then _ else _) Q E s;rw[if_neg (by intro h;rw[hn,Bool.false_and]at h;cases h)];exact wpAny_pure hQ))
noncomputable def RU(K:PySem.W.Frag)(a:Addr):It:=
 ⟨λi H=>∃xs x,ef K H a xs/\xs[i]?=some x,λi H x H'=>H'=H/\∀xs,ef K H a xs->xs[i]?=some x,λi H=>∃xs,ef K H a xs/\xs.length<=i⟩
noncomputable def RW(K:PySem.W.Frag)(a:Addr):It:=
 ⟨λi H=>∃xs x,dR K H a xs/\xs[i]?=some x,λi H x H'=>H'=H/\∀xs,dR K H a xs->xs[i]?=some x,λi H=>∃xs,dR K H a xs/\xs.length<=i⟩
noncomputable def Gk(lo:Int)(n:Nat):It:=⟨λi _=>i<n,λi H x H'=>H'=H/\x=.int (lo+i),λi _=>n<=i⟩
theorem Bq{P:Program}{w:World}{K:PySem.W.Frag}{tg:Expr}(a it:Addr):Turn P w K tg (RU K a) [it] it (λi h=>h.IsListIter it a i) where
 mem:=by simp
 obj:=λi h st b hb=>by
  have e:b=it:=by simpa using hb
  subst e;obtain⟨o,e,c,d⟩:=st;exact⟨o,e,λv z=>by rw[d]at z;cases z⟩
 keep:=λi h h' st k=>st.at λo e=>k it (by simp) o e
 item:=by
  intro X hP hw hK hc i pins s σ H E I hf st hg;subst hP hw hK;obtain⟨xs,x,hq,hx⟩:=hg;obtain⟨its,rv,p,hz⟩:=I.list hq;obtain⟨u,hu,ru⟩:=rv.get hx;obtain⟨f0,f1,f2,f3,f4,f5⟩:=hf it (by simp);refine wpAny_pyNext_list_item st p.isList (x:=u) (by simpa using hu) λh' st' sb=>?_;have I1:Inv X pins σ H { s with heap:=h' }:=I.turned (t':=s.toks) (λb o hb e=>(sb.2 b hb).trans e) f0 f1 f3 f4 f5;obtain⟨o,e,c,d⟩:=id st';exact⟨u,rfl,zN (s:={ s with heap:=h' }) e c d (by decide) ⟨x,H,I1,ru,⟨rfl,λys hy=>by rw[I.qc hy hq];exact hx⟩,st',λb hb=>(hf b hb).1⟩⟩
 done:=by
  intro X hP hw hK hc i pins s σ H E I hf st hg;subst hP hw hK;obtain⟨xs,hq,hx⟩:=hg;obtain⟨its,rv,p,hz⟩:=I.list hq;obtain⟨f0,f1,f2,f3,f4,f5⟩:=hf it (by simp);have hl:=rv.length;exact wpAny_pyNext_list_end (I.ok.hd hc) st p.isList (by simp;omega) λh' eb=>⟨rfl,I.turned (t':=s.toks) (λb o hb e=>eb b o hb e) f0 f1 f3 f4 f5⟩
 self:=λ_ _ _ _ _ st h=>wpAny_pyIter_listiter st h
theorem zO{P:Program}{w:World}{K:PySem.W.Frag}{tg:Expr}(a it:Addr):Turn P w K tg (RW K a) [it] it (λi h=>h.IsTupleIter it a i) where
 mem:=by simp
 obj:=λi h st b hb=>by
  have e:b=it:=by simpa using hb
  subst e;obtain⟨o,e,c,d⟩:=st;exact⟨o,e,λv z=>by rw[d]at z;cases z⟩
 keep:=λi h h' st k=>st.at λo e=>k it (by simp) o e
 item:=by
  intro X hP hw hK hc i pins s σ H E I hf st hg;subst hP hw hK;obtain⟨xs,x,hq,hx⟩:=hg;obtain⟨its,rv,p,hz⟩:=I.tuple hq;obtain⟨u,hu,ru⟩:=rv.get hx;obtain⟨f0,f1,f2,f3,f4,f5⟩:=hf it (by simp);refine wpAny_pyNext_tuple_item st (show s.heap.IsTuple a its.toArray from p) (x:=u) (by simpa using hu) λh' st' sb=>?_;have I1:Inv X pins σ H { s with heap:=h' }:=I.turned (t':=s.toks) (λb o hb e=>(sb.2 b hb).trans e) f0 f1 f3 f4 f5;obtain⟨o,e,c,d⟩:=id st';exact⟨u,rfl,zN (s:={ s with heap:=h' }) e c d (by decide) ⟨x,H,I1,ru,⟨rfl,λys hy=>by rw[I.nh hy hq];exact hx⟩,st',λb hb=>(hf b hb).1⟩⟩
 done:=by
  intro X hP hw hK hc i pins s σ H E I hf st hg;subst hP hw hK;obtain⟨xs,hq,hx⟩:=hg;obtain⟨its,rv,p,hz⟩:=I.tuple hq;obtain⟨f0,f1,f2,f3,f4,f5⟩:=hf it (by simp);have hl:=rv.length;exact wpAny_pyNext_tuple_end (I.ok.hd hc) st (show s.heap.IsTuple a its.toArray from p) (by simp;omega) λh' eb=>⟨rfl,I.turned (t':=s.toks) (λb o hb e=>eb b o hb e) f0 f1 f3 f4 f5⟩
 self:=λ_ _ _ _ _ st h=>wpAny_pyIter_tupleiter st h
theorem zP{P:Program}{w:World}{K:PySem.W.Frag}{tg:Expr}(it:Addr)(lo:Int)(n:Nat):Turn P w K tg (Gk lo n) [it] it (λi h=>IsRangeIter h it (lo+(i:Nat)*1) ((n:Int) - (i:Nat)) 1) where
 mem:=by simp
 obj:=λi h st b hb=>by
  have e:b=it:=by simpa using hb
  subst e;exact⟨_,st,λv z=>by
   have z':Data.fields _=Data.cell v:=z;cases z'⟩
 keep:=λi h h' st k=>k it (by simp) _ st
 item:=by
  intro X hP hw hK hc i pins s σ H E I hf st hg;subst hP hw hK;obtain⟨f0,f1,f2,f3,f4,f5⟩:=hf it (by simp);have W:=Walks.range (prog:=X.prog) (w:=X.w) (I.ok.hd hc) it lo 1 n;refine W.item i s _ _ hg st λv h' tk hv st' kk=>?_;obtain⟨t,rfl⟩:=hv;have I1:Inv X pins σ H { s with heap:=h',toks:=tk }:=I.turned (λb o hb e=>kk b o (by simpa using hb) e) f0 f1 f3 f4 f5;refine⟨_,rfl,zN (s:={ s with heap:=h',toks:=tk }) (n:="range_iterator") st' rfl rfl (by decide) ⟨.int (lo+i),H,I1,⟨t,?_⟩,⟨rfl,rfl⟩,st',λb hb=>(hf b hb).1⟩⟩;rw[Int.mul_one]
 done:=by
  intro X hP hw hK hc i pins s σ H E I hf st hg;subst hP hw hK;obtain⟨f0,f1,f2,f3,f4,f5⟩:=hf it (by simp);exact wpAny_pyNext_range_end (I.ok.hd hc) st (by have:n<=i:=hg;omega) λh' eb=>⟨rfl,I.turned (t':=s.toks) (λb o hb e=>eb b o hb e) f0 f1 f3 f4 f5⟩
 self:=λ_ _ _ _ _ st h=>wpAny_pyIter_rangeiter st h
end L2
namespace L2
open PySem PySem.Spec PyProof.Rows
section
variable{X:Cx}{tg:Expr}
theorem DM{pins:List (Addr×Obj)}{σ:St}{H:Hp}{s:Shared}{R:It->Hp->Prop}{E:Value->Shared->Prop}{lo hi:Int}{t u v:Tok}{tk:Nat}(I:Inv X pins σ H s)(h1:-(2 ^ 62)<=lo)(h2:lo<2 ^ 62)(h3:-(2 ^ 62)<=hi)(h4:hi<2 ^ 62)
  (q:R (Gk lo (hi - lo).toNat) H):wpAny (model X.prog X.w) X.A (pyIter (.ref s.heap.objs.size)) (RT X pins σ tg R) E { s with heap:=s.heap.push { cls:=.type "range",data:=.fields #[.int lo t,.int hi u,.int 1 v]},toks:=tk }:=by
 refine wpAny_pyIter_range (IsRange.new ..) (small_one h1 h2 h3 h4) ?_;have I1:Inv X pins σ H { s with heap:=s.heap.push { cls:=.type "range",data:=.fields #[.int lo t,.int hi u,.int 1 v]},toks:=tk }:=I.kept λb o e=>Heap.get?_push_of_some _ e;refine⟨(s.heap.push { cls:=.type "range",data:=.fields #[.int lo t,.int hi u,.int 1 v]}).objs.size,[(s.heap.push { cls:=.type "range",data:=.fields #[.int lo t,.int hi u,.int 1 v]}).objs.size],_,_,H,rfl,
  I1.kept (t':=tk) λb o e=>Heap.get?_push_of_some _ e,zP _ lo (hi - lo).toNat,?_,λb hb=>?_,q⟩
 .have e1:lo+((0:Nat):Int)*1=lo:=by simp
  have e2:(((hi - lo).toNat:Nat):Int) - ((0:Nat):Int)=Builtin.Range.rangeSize lo hi 1:=by rw[rangeSize_one];split<;>omega
  show IsRangeIter _ _ (lo+((0:Nat):Int)*1) ((((hi - lo).toNat:Nat):Int) - ((0:Nat):Int)) 1;rw[e1,e2];exact Heap.get?_push_size _ rfl
 .have e:b=(s.heap.push { cls:=.type "range",data:=.fields #[.int lo t,.int hi u,.int 1 v]}).objs.size:=by simpa using hb
  subst e;exact I1.zM (Nat.le_refl _) (I1.hok.fresh (Nat.le_refl _))
noncomputable def Pj(ta:TA):TI:=λσ H R=>ta σ H λvs H1=>∃j:Int,vs=[.int j]/\-(2 ^ 62)<=j/\j<2 ^ 62/\R (Gk 0 j.toNat) H1
theorem Br {a:Expr}{ta:TA}{p pos:Pos}(hg:Gl X "range") (hm:X.mg "range" = none) (ha:PA X [a] ta) (hs:starEach [a] X.env=[(false,eval a X.env)]:=by rfl):PI X tg (.Call (.Name "range" p) [a] [] pos) (Pj ta):=by
 intro pins s σ H R I h;refine Call_ (iT I hg hm boot_range (PyProof.Rows.callWith_type1 (bI (ha pos pins s σ H _ I h) λus s1 ⟨vs,H1,I1,r1,q1⟩=>?_) hs rfl));obtain⟨j,e,q1,q2,q⟩:=q1;subst e;cases r1 with
 |cons r rr=>
  cases rr;obtain⟨t,rfl⟩:=r;exact call_range_1 (DM I1 (by omega) (by omega) q1 q2 (by simpa using q))
noncomputable def TM(wi:TI)(g:TG)(tb:TS):TS:=λD σ H=>wi σ H λJ H1=>∃W:Nat->Nat->St->Hp->Prop,(∃m,W 0 m σ H1)/\∀i m σ H,W i m σ H->
 (J.stop i H/\D.nx σ H)\/(J.go i H/\∃N:St->Hp->Prop,(∀σ' H',N σ' H'->∃m',m'<m/\W (i+1) m' σ' H')/\∀x H',J.Gj i H x H'->g x σ H' λσ2 H2=>tb { D with nx:=N,ct:=N,bk:=D.nx } σ2 H2)
noncomputable def nj(fp:List Addr)(h:Heap):List (Addr×Obj):=fp.filterMap λb=>(h.get? b).map λo=>(b,o)
theorem jT{fp:List Addr}{h:Heap}{b:Addr}{o:Obj}(hb:b∈fp)(e:h.get? b=some o):(b,o)∈nj fp h:=List.mem_filterMap.mpr ⟨b,hb,by rw[e];rfl⟩
theorem Bs{fp:List Addr}{h:Heap}{p:Addr×Obj}(hp:p∈nj fp h):p.1∈fp/\h.get? p.1=some p.2:=by
 obtain⟨b,hb,e⟩:=List.mem_filterMap.mp hp;cases q:h.get? b with
 |none=>rw[q]at e;cases e
 |some o=>
  rw[q]at e;have e':(b,o)=p:=Option.some.inj e;subst e';exact⟨hb,q⟩
theorem Inv.pinned{pins:List (Addr×Obj)}{σ:St}{H:Hp}{s:Shared}{fp:List Addr}(I:Inv X pins σ H s)(hf:∀b∈fp,gT X pins H b)(ho:∀b∈fp,∃o,s.heap.get? b=some o/\∀v,o.data≠.cell v):Inv X (pins++nj fp s.heap) σ H s:=
 I.xY λp hp=>(List.mem_append.mp hp).elim (λz=>I.pin p (List.mem_append_right _ z)) λz=>by
  obtain⟨hb,e⟩:=Bs z;obtain⟨f0,f1,f2,_⟩:=hf p.1 hb;obtain⟨o,e',d⟩:=ho p.1 hb;rw[e]at e';cases e';exact⟨e,f0,f1,f2,d⟩
theorem Inv.mz{pins pl:List (Addr×Obj)}{σ:St}{H:Hp}{s:Shared}(I:Inv X (pins++pl) σ H s):Inv X pins σ H s:=I.xY λp hp=>I.pin p (List.mem_append_right _ (List.mem_append_left _ hp))
theorem KR{iter:Expr}{body:List Stmt}{wi:TI}{g:TG}{tb:TS}{pos:Pos}(hp:PassesOwn (model X.prog X.w) X.A X.env X.xe)(hc:X.calm=true)(hi:PI X tg iter wi)(hg:PG X tg g)(hb:fj X body tb)
  (hs:∀x,foldedSetIterable iter X.env x=pure x:=by intro _;rfl):PS X (.For tg iter body [] pos) (TM wi g tb):=by
 intro pins s σ H D I h;refine wpAny_For (bI (hi pins s σ H _ I h) λv s1 h1=>bI h1 λitv s2 h2=>?_) hs;obtain⟨it,fp,tn,J,H2,e,I2,T,st2,f2,W,⟨m0,w0⟩,turn⟩:=h2;subst e;have mC:∀{H':Hp},(∀b∈fp,H' b=none)->∀b∈fp,gT X pins H' b:=λhn b hb=>⟨hn b hb,(f2 b hb).2⟩
 refine codeAny_forLoop_any (λn s'=>∃i σ' H',Inv X pins σ' H' s'/\tn i s'.heap/\(∀b∈fp,H' b=none)/\W i n σ' H') ?_ m0 ⟨0,σ,H2,I2,st2,λb hb=>(f2 b hb).1,w0⟩;rintro n s3 ⟨i,σ3,H3,I3,st3,bE,w3⟩;rcases turn i n σ3 H3 w3 with ⟨stop,qn⟩|⟨go,N,hN,step⟩
 .refine wpAny_passesOwn hp (bI (T.done X rfl rfl rfl hc i pins s3 σ3 H3 X.xe I3 (mC bE) st3 stop) λr s4 ⟨hr,I4⟩=>?_);subst hr;exact wpAny_execs_nil ⟨σ3,H3,I4,qn⟩
 .refine wpAny_passesOwn hp (bI (T.item X rfl rfl rfl hc i pins s3 σ3 H3 X.xe I3 (mC bE) st3 go) λr s4 ⟨u,hr,h4⟩=>?_);subst hr;refine wpAny_passesOwn hp (bI h4 λ_ s5 ⟨x,H5,I5,r5,y5,yd,tT⟩=>?_);have VI:=I5.pinned (mC tT) (T.obj _ _ yd);refine wpAny_passesOwn hp (bI (hg _ s5 σ3 H5 x u _ VI r5 (step x H5 y5)) λ_ s6 ⟨VJ,H6,I6,q6⟩=>?_);refine wpAny_passesOwn hp (bI (hb _ s6 VJ H6 _ I6 q6) λf s7 q7=>?_);have again:∀{nq:St} {H7:Hp},Inv X (pins++nj fp s5.heap) nq H7 s7->N nq H7->∃m,m<n/\∃i σ' H',Inv X pins σ' H' s7/\tn i s7.heap/\(∀b∈fp,H' b=none)/\W i m σ' H':=λ{nq H7} I7 n7=>by
   obtain⟨m',hm,w7⟩:=hN nq H7 n7;refine⟨m',hm,i+1,nq,H7,I7.mz,T.keep _ _ _ yd λb hb o e=>(I7.pin (b,o) (List.mem_append_right _ (List.mem_append_right _ (jT hb e)))).1,λb hb=>?_,w7⟩;obtain⟨o,e,d⟩:=T.obj _ _ yd b hb;exact(I7.pin (b,o) (List.mem_append_right _ (List.mem_append_right _ (jT hb e)))).2.1
  cases f with
  |next=>obtain⟨nq,H7,I7,n7⟩:=q7;exact again I7 n7
  |cont=>obtain⟨nq,H7,I7,n7⟩:=q7;exact again I7 n7
  |brk=>obtain⟨nq,H7,I7,q7⟩:=q7;exact⟨nq,H7,I7.mz,q7⟩
  |ret v=>obtain⟨x7,nq,H7,I7,r7,q7⟩:=q7;exact⟨x7,nq,H7,I7.mz,r7,q7⟩
end
end L2
namespace L2
open PySem PySem.Spec PyProof.Rows
abbrev R2:=V->V->Hp->VK->Prop
noncomputable def dN(X:Cx)(f:Value->Value->Sem Value)(r:R2):Prop:=
 ∀(pins:List (Addr×Obj)) (s:Shared) (σ:St) (H:Hp) (x y:V) (v u:Value) (Q:VK),Inv X pins σ H s->RelV x v->RelV y u->r x y H Q->
  wpAny (model X.prog X.w) X.A (f v u) (EP X pins σ Q) X.xe s
noncomputable def KS(X:Cx)(f:Value->Sem Value)(r:V->Hp->VK->Prop):Prop:=
 ∀(pins:List (Addr×Obj)) (s:Shared) (σ:St) (H:Hp) (x:V) (v:Value) (Q:VK),Inv X pins σ H s->RelV x v->r x H Q->
  wpAny (model X.prog X.w) X.A (f v) (EP X pins σ Q) X.xe s
noncomputable def fU(X:Cx)(f:Value)(r:List V->Hp->VK->Prop):Prop:=
 ∀(pins:List (Addr×Obj)) (s:Shared) (σ:St) (H:Hp) (xs:List V) (us:List Value) (Q:VK),Inv X pins σ H s->Vals xs us->r xs H Q->
  wpAny (model X.prog X.w) X.A (call f us) (EP X pins σ Q) X.xe s
noncomputable def TN(X:Cx)(r:V->Hp->(Bool->Hp->Prop)->Prop):Prop:=
 ∀(pins:List (Addr×Obj)) (s:Shared) (σ:St) (H:Hp) (x:V) (v:Value) (Q:Bool->Hp->Prop),Inv X pins σ H s->RelV x v->r x H Q->
  wpAny (model X.prog X.w) X.A (truthy v) (TP X pins σ Q) X.xe s
noncomputable def Bt(r:R2)(ta tb:TE):TE:=λσ H Q=>ta σ H λx H1=>tb σ H1 λy H2=>r x y H2 Q
noncomputable def VL(r:V->Hp->VK->Prop)(ta:TE):TE:=λσ H Q=>ta σ H λx H1=>r x H1 Q
noncomputable def rI(C:Int->Int->Prop)(g:Int->Int->V):R2:=λx y H Q=>∃i j,x=.int i/\y=.int j/\C i j/\Q (g i j) H
noncomputable def vd(g:Int->Int->V):R2:=λx y H Q=>∃i j,x=.int i/\y=.int j/\Q (g i j) H
noncomputable def rU(g:Int->V):V->Hp->VK->Prop:=λx H Q=>∃i,x=.int i/\Q (g i) H
section
variable{X:Cx}{a b c:Expr}{ta tb tc:TE}{pos:Pos}
theorem DN(ha:PE X a ta)(hb:PE X b tb){pins:List (Addr×Obj)}{s:Shared}{σ:St}{H:Hp}{R:V->V->Hp->Prop}(I:Inv X pins σ H s)
  (h:ta σ H λx H1=>tb σ H1 λy H2=>R x y H2) {Q:Value->Shared->Prop} {f:Value->Value->Sem Value}
  (hf:∀v u s2 x y H2,Inv X pins σ H2 s2->RelV x v->RelV y u->R x y H2->wpAny (model X.prog X.w) X.A (f v u) Q X.xe s2) :
  wpAny (model X.prog X.w) X.A (eval a X.env) (λv s₁=>wpAny (model X.prog X.w) X.A (eval b X.env) (λu s₂=>wpAny (model X.prog X.w) X.A (f v u) Q X.xe s₂) X.xe s₁) X.xe s:=by
 refine bI (ha pins s σ H _ I h) λv s1 ⟨x,H1,I1,r1,q1⟩=>?_;refine bI (hb pins s1 σ H1 _ I1 q1) λu s2 ⟨y,H2,I2,r2,q2⟩=>?_;exact hf v u s2 x y H2 I2 r1 r2 q2
theorem Gm{op:Operator}{r:R2}(ho:dN X (binaryOp op) r)(ha:PE X a ta)(hb:PE X b tb):PE X (.BinOp a op b pos) (Bt r ta tb):=by
 intro pins s σ H Q I h;exact wpAny_BinOp (DN ha hb I h λv u s2 x y H2 I2 rx ry q=>ho pins s2 σ H2 x y v u Q I2 rx ry q)
theorem Pk{op:UnaryOp}{r:V->Hp->VK->Prop}(ho:KS X (unaryOp op) r)(ha:PE X a ta):PE X (.UnaryOp op a pos) (VL r ta):=by
 intro pins s σ H Q I h;exact UnaryOp_ (bI (ha pins s σ H _ I h) λv s1 ⟨x,H1,I1,r1,q1⟩=>ho pins s1 σ H1 x v Q I1 r1 q1)
theorem KU{f:Value->Value->Sem Value}{C:Int->Int->Prop}{g:Int->Int->Int}
  (rule:∀(i j:Int) (t u:Tok) (s:Shared) (Q:Value->Shared->Prop) (E:Value->Shared->Prop),C i j->Q (.int (g i j) s.toks) { s with toks:=s.toks+1 }->wpAny (model X.prog X.w) X.A (f (.int i t) (.int j u)) Q E s) :
  dN X f (rI C λi j=>.int (g i j)):=by
 intro pins s σ H x y v u Q I rx ry h;obtain⟨i,j,rfl,rfl,hc,q⟩:=h;obtain⟨t,rfl⟩:=rx;obtain⟨t',rfl⟩:=ry;exact rule i j t t' s _ _ hc ⟨.int (g i j),H,I.tok _,⟨_,rfl⟩,q⟩
theorem KW{f:Value->Value->Sem Value}{g:Int->Int->Int}
  (rule:∀(i j:Int) (t u:Tok) (s:Shared) (Q:Value->Shared->Prop) (E:Value->Shared->Prop),Q (.int (g i j) s.toks) { s with toks:=s.toks+1 }->wpAny (model X.prog X.w) X.A (f (.int i t) (.int j u)) Q E s) :
  dN X f (vd λi j=>.int (g i j)):=by
 intro pins s σ H x y v u Q I rx ry h;obtain⟨i,j,rfl,rfl,q⟩:=h;obtain⟨t,rfl⟩:=rx;obtain⟨t',rfl⟩:=ry;exact rule i j t t' s _ _ ⟨.int (g i j),H,I.tok _,⟨_,rfl⟩,q⟩
theorem KY{f:Value->Value->Sem Value}{g:Int->Int->Bool}
  (rule:∀(i j:Int) (t u:Tok) (s:Shared) (Q:Value->Shared->Prop) (E:Value->Shared->Prop),Q (.bool (g i j)) s->wpAny (model X.prog X.w) X.A (f (.int i t) (.int j u)) Q E s) :
  dN X f (vd λi j=>.bl (g i j)):=by
 intro pins s σ H x y v u Q I rx ry h;obtain⟨i,j,rfl,rfl,q⟩:=h;obtain⟨t,rfl⟩:=rx;obtain⟨t',rfl⟩:=ry;exact rule i j t t' s _ _ ⟨.bl (g i j),H,I,rfl,q⟩
noncomputable def TQ(i j:Int):Prop:=0<j/\j<1073741824
noncomputable def DO(i j:Int):Prop:=(-(2 ^ 64)<i/\i<2 ^ 64)\/(-(2 ^ 64)<j/\j<2 ^ 64)
theorem DO.ok{i j:Int}(h:DO i j):IntMulOk i j:=by
 rcases h with ⟨h1,h2⟩|⟨h1,h2⟩
 .exact .of_left (intBits_le_64 h1 h2)
 .exact .of_right (intBits_le_64 h1 h2)
theorem KZ:dN X (binaryOp .Add) (vd λi j=>.int (i+j)):=KW λ_ _ _ _ _ _ _ q=>add_int q
theorem K0:dN X (binaryOp .Sub) (vd λi j=>.int (i - j)):=KW λ_ _ _ _ _ _ _ q=>sub_int q
theorem K1:dN X (binaryOp .Mult) (rI DO λi j=>.int (i*j)):=KU λ_ _ _ _ _ _ _ hc q=>mul_int q hc.ok
theorem HN:dN X (binaryOp .FloorDiv) (rI TQ λi j=>.int (i / j)):=KU λi j _ _ _ _ _ hc q=>by
 have h1:(0:Int)<j:=hc.1;have h2:j<1073741824:=hc.2;exact floordiv_int (by omega) (by rw[Int.fdiv_eq_ediv_of_nonneg i (by omega)];exact q) (.inl (PyProof.noPylong_small (by omega)))
theorem K2:dN X (binaryOp .Mod) (rI (λ_ j=>0<j) λi j=>.int (i % j)):=KU λi j _ _ _ _ _ hc q=>by
 have h1:(0:Int)<j:=hc;exact mod_int' (by omega) (by rw[Int.fmod_eq_emod_of_nonneg i (by omega)];exact q)
theorem VM{f:Value->Sem Value}{g:Int->Int}
  (rule:∀(i:Int) (t:Tok) (s:Shared) (Q:Value->Shared->Prop) (E:Value->Shared->Prop),Q (.int (g i) s.toks) { s with toks:=s.toks+1 }->wpAny (model X.prog X.w) X.A (f (.int i t)) Q E s) :
  KS X f (rU λi=>.int (g i)):=by
 intro pins s σ H x v Q I rx h;obtain⟨i,rfl,q⟩:=h;obtain⟨t,rfl⟩:=rx;exact rule i t s _ _ ⟨.int (g i),H,I.tok _,⟨_,rfl⟩,q⟩
theorem K3:KS X (unaryOp .USub) (rU λi=>.int (-i)):=VM λ_ _ _ _ _ q=>neg_int q
end
noncomputable def TR:V->V->Bool
 |.aL,.aL=>true|.aL,.int _=>true|.int _,.aL=>true|.aL,.bl _=>true|.bl _,.aL=>true|.aL,.str _=>true|.str _,.aL=>true
 |.int _,.int _=>true|.bl _,.bl _=>true|.str _,.str _=>true|.m7 _,.m7 _=>true
 |.int _,.str _=>true|.str _,.int _=>true|.bl _,.str _=>true|.str _,.bl _=>true
 |_,_=>false
noncomputable def VN:R2:=λx y H Q=>TR x y=true/\Q (.bl (!decide (x=y))) H
theorem HQ{i j:Int}:decide (V.int i=V.int j)=(i==j):=by
 rw[Bool.eq_iff_iff];simp
theorem K4{i j:Bool}:decide (V.bl i=V.bl j)=(i==j):=by
 rw[Bool.eq_iff_iff];simp
theorem HS{i j:Str}:decide (V.str i=V.str j)=(i==j):=by
 rw[Bool.eq_iff_iff];simp
theorem HU{i j:Array UInt8}:decide (V.m7 i=V.m7 j)=(i.toList==j.toList):=by
 rw[Bool.eq_iff_iff];cases i;cases j;simp
section
variable{X:Cx}{a b c:Expr}{ta tb tc:TE}{pos:Pos}
theorem ek{pins:List (Addr×Obj)}{σ:St}{H:Hp}{s:Shared}{Q:VK}{k k':Bool}(I:Inv X pins σ H s)(q:Q (.bl k) H)(e:k=k'):EP X pins σ Q (.bool k') s:=by
 subst e;exact⟨.bl k,H,I,rfl,q⟩
theorem Pn:dN X (compareOp .NotEq) VN:=by
 intro pins s σ H x y v u Q I rx ry h;obtain⟨hs,q⟩:=h;cases x with
 |aL=>
  cases rx;cases y with
  |aL=>cases ry;exact PySem.EqNone.ne_none_none (ek I q (by simp))
  |bl j=>cases ry;exact PySem.EqNone.ne_none_bool (ek I q (by simp))
  |int j=>obtain⟨t',rfl⟩:=ry;exact PySem.EqNone.ne_none_int (ek I q (by simp))
  |str j=>obtain⟨t',rfl⟩:=ry;exact PySem.EqNone.ne_none_str (ek I q (by simp))
  |_=>exact absurd (show false=true from hs) Bool.false_ne_true
 |bl i=>
  cases rx;cases y with
  |aL=>cases ry;exact PySem.EqNone.ne_bool_none (ek I q (by simp))
  |bl j=>cases ry;exact ne_bool (ek I q (congrArg not K4))
  |str j=>obtain⟨t',rfl⟩:=ry;exact PySem.EqMixed.ne_bool_str (ek I q (by simp))
  |_=>exact absurd (show false=true from hs) Bool.false_ne_true
 |int i=>
  obtain⟨t,rfl⟩:=rx;cases y with
  |aL=>cases ry;exact PySem.EqNone.ne_int_none (ek I q (by simp))
  |int j=>obtain⟨t',rfl⟩:=ry;exact ne_int (ek I q (congrArg not HQ))
  |str j=>obtain⟨t',rfl⟩:=ry;exact PySem.EqMixed.ne_int_str (ek I q (by simp))
  |_=>exact absurd (show false=true from hs) Bool.false_ne_true
 |str i=>
  obtain⟨t,rfl⟩:=rx;cases y with
  |aL=>cases ry;exact PySem.EqNone.ne_str_none (ek I q (by simp))
  |bl j=>cases ry;exact PySem.EqMixed.ne_str_bool (ek I q (by simp))
  |int j=>obtain⟨t',rfl⟩:=ry;exact PySem.EqMixed.ne_str_int (ek I q (by simp))
  |str j=>obtain⟨t',rfl⟩:=ry;exact ne_str (ek I q (congrArg not HS))
  |_=>exact absurd (show false=true from hs) Bool.false_ne_true
 |m7 i=>
  obtain⟨t,rfl⟩:=rx;cases y with
  |m7 j=>obtain⟨t',rfl⟩:=ry;exact PySem.W.ne_bytes (ek I q (congrArg not HU))
  |_=>exact absurd (show false=true from hs) Bool.false_ne_true
 |_=>cases y<;>exact absurd (show false=true from hs) Bool.false_ne_true
theorem Po:dN X (compareOp .Lt) (vd λi j=>.bl (decide (i<j))):=KY λ_ _ _ _ _ _ _ q=>lt_int q
theorem Pp:dN X (compareOp .Gt) (vd λi j=>.bl (decide (j<i))):=KY λ_ _ _ _ _ _ _ q=>gt_int q
theorem K5:dN X (compareOp .Is) (λx y H Q=>y=.aL/\Q (.bl (decide (x=.aL))) H):=by
 intro pins s σ H x y v u Q I rx ry h;obtain⟨rfl,q⟩:=h;cases ry;refine is_none_gen (ek I q ?_);cases x<;>first
  | (cases rx;rfl)
  | (obtain⟨t,rfl⟩:=rx;rfl)
theorem jG(b:Expr){op:CmpOp}(h:op≠.In:=by decide)(h2:op≠.NotIn:=by decide):behindInMarks op b=false:=by
 have e1:(op==CmpOp.In)=false:=by cases op<;>first|rfl|exact absurd rfl h
 have e2:(op==CmpOp.NotIn)=false:=by cases op<;>first|rfl|exact absurd rfl h2
 cases b<;>simp[behindInMarks,e1,e2]
theorem HV{op:CmpOp}{r:R2}(ho:dN X (compareOp op) r)(ha:PE X a ta)(hb:PE X b tb)(hm:behindInMarks op b=false):PE X (.Compare a [op] [b] pos) (Bt r ta tb):=by
 intro pins s σ H Q I h;exact wpAny_Compare1 (DN ha hb I h λv u s2 x y H2 I2 rx ry q=>ho pins s2 σ H2 x y v u Q I2 rx ry q) hm
noncomputable def Pq(t:TE):TT:=λσ H Q=>t σ H λx H'=>∃k,x=.bl k/\Q k H'
theorem ye{op:CmpOp}{r:R2}(ho:dN X (compareOp op) r)(ha:PE X a ta)(hb:PE X b tb)(hm:behindInMarks op b=false):PT X (.Compare a [op] [b] pos) (Pq (Bt r ta tb)):=by
 intro pins s σ H Q I h;refine wpAny_isTrue_Compare1 (bI (ha pins s σ H _ I h) λv s1 ⟨x,H1,I1,r1,q1⟩=>bI (hb pins s1 σ H1 _ I1 q1) λu s2 ⟨y,H2,I2,r2,q2⟩=>
  bI (ho pins s2 σ H2 x y v u _ I2 r1 r2 q2) λc s3 ⟨z,H3,I3,r3,k,e,q3⟩=>?_) hm
 subst e;cases r3;exact wpAny_truthy_bool ⟨H3,I3,q3⟩
noncomputable def DP(K:PySem.W.Frag)(x:V)(H:Hp)(k:Bool):Prop:=
 match x with
 |.aL=>k=false
 |.bl b=>k=b
 |.int i=>k=(i != 0)
 |.str y=>y.length<=sizeLine/\k=((y.length:Int) != 0)
 |.m7 y=>y.size<=sizeLine/\k=((y.size:Int) != 0)
 |.ref p=>(∃xs,ef K H p xs/\k = !xs.isEmpty)\/(∃xs,dR K H p xs/\k = !xs.isEmpty)\/∃kvs,H p=some (.dK kvs)/\k = !kvs.isEmpty
 |_=>False
theorem zQ{κ:Type}{kvs:List (κ×V)}{vs:List (κ×Value)}(r:KV kvs vs):(!vs.isEmpty) = !kvs.isEmpty:=by
 cases r<;>rfl
theorem qG{xs:List V}{its:List Value}(r:Vals xs its):(!its.toArray.isEmpty) = !xs.isEmpty:=by
 cases r<;>simp
theorem j7:(sizeLine:Nat)<2 ^ 63:=by rw[sizeLine_eq];decide
theorem K6:TN X (λx H Q=>∃k,DP X.K x H k/\Q k H):=by
 intro pins s σ H x v Q I rx h;obtain⟨k,e,q⟩:=h;have hl:=j7;have hs:sizeLine=16777216:=sizeLine_eq;cases x with
 |aL=>
  cases rx;have e':k=false:=e;subst e';exact truthy_none ⟨H,I,q⟩
 |bl b=>
  cases rx;have e':k=b:=e;subst e';exact wpAny_truthy_bool ⟨H,I,q⟩
 |int i=>
  obtain⟨t,rfl⟩:=rx;have e':k=(i != 0):=e;subst e';exact PySem.P.truthy_int ⟨H,I,q⟩
 |str y=>
  obtain⟨t,rfl⟩:=rx;obtain⟨hy,e'⟩:y.length<=sizeLine/\k=((y.length:Int) != 0):=e;subst e';exact PySem.P.truthy_str (by omega) ⟨H,I.tok _,q⟩
 |m7 y=>
  obtain⟨t,rfl⟩:=rx;obtain⟨hy,e'⟩:y.size<=sizeLine/\k=((y.size:Int) != 0):=e;subst e';exact PySem.W.truthy_bytes (by omega) ⟨H,I.tok _,q⟩
 |ref p=>
  cases rx;have e':(∃xs,ef X.K H p xs/\k = !xs.isEmpty)\/(∃xs,dR X.K H p xs/\k = !xs.isEmpty)\/∃kvs,H p=some (.dK kvs)/\k = !kvs.isEmpty:=e;rcases e' with ⟨xs,hx,e'⟩|⟨xs,hx,e'⟩|⟨kvs,hx,e'⟩
  .subst e';obtain⟨its,r,pl,hz⟩:=I.list hx;have hlen:=r.length;exact wpAny_truthy_list pl.isList (by simp only[List.size_toArray];omega) ⟨H,I.tok _,by rw[qG r];exact q⟩
  .subst e';obtain⟨its,r,pl,hz⟩:=I.tuple hx;have hlen:=r.length;exact truthy_tuple pl (by simp only[List.size_toArray];omega) ⟨H,I.tok _,by rw[qG r];exact q⟩
  .subst e';obtain⟨hz,hS,vs,r,m⟩:kvs.length<=sizeLine/\(p==sysModules)=false/\∃vs,KV kvs vs/\s.heap.DictOf (sy X.prog X.w) p vs:=I.hok p _ hx;have hlen:kvs.length=vs.length:=Paired.length r;exact wpAny_truthy_dict hS m (by omega) ⟨H,I.tok _,by rw[zQ r];exact q⟩
 |_=>exact(show False from e).elim
theorem DQ(ha:PE X a ta)(he:∀whole,isTrue a X.env whole=(do let v <-whole;standAt a.pos;holding [v] (truthy v))) :
  PT X a (λσ H Q=>ta σ H λx H'=>∃k,DP X.K x H' k/\Q k H'):=by
 intro pins s σ H Q I h;exact isTrue_plain (bI (ha pins s σ H _ I h) λv s1 ⟨x,H1,I1,r1,q1⟩=>K6 pins s1 σ H1 x v Q I1 r1 q1) (he _)
theorem zR:dN X (binaryOp .Add) (λx y H Q=>∃i j,x=.str i/\y=.str j/\i.length+j.length<=sizeLine/\Q (.str (i++j)) H):=by
 intro pins s σ H x y v u Q I rx ry h;obtain⟨i,j,rfl,rfl,hz,q⟩:=h;obtain⟨t,rfl⟩:=rx;obtain⟨t',rfl⟩:=ry;exact add_str (λt' tk=>⟨.str (i++j),H,I.tok _,⟨_,rfl⟩,q⟩) hz
theorem vals1{x:V}{us:List Value}(r:Vals [x] us):∃u,us=[u]/\RelV x u:=by
 cases r with
 |cons r1 r2=>cases r2;exact⟨_,rfl,r1⟩
theorem vals2{x y:V}{us:List Value}(r:Vals [x,y] us):∃u w',us=[u,w']/\RelV x u/\RelV y w':=by
 cases r with
 |cons r1 r2=>
  cases r2 with
  |cons r3 r4=>cases r4;exact⟨_,_,rfl,r1,r3⟩
theorem Bu (hc:X.calm=true):fU X (.builtin "min") (λxs H Q=>∃i j,xs=[.int i,.int j]/\Q (.int (if j<i then j else i)) H):=by
 intro pins s σ H xs us Q I r h;obtain⟨i,j,rfl,q⟩:=h;obtain⟨u,w',rfl,⟨t,rfl⟩,⟨t',rfl⟩⟩:=vals2 r;refine min_two_ints (I.ok.hd hc) λh' tk k=>⟨_,H,I.kept k,?_,q⟩
 by_cases hj:j<i
 .rw[if_pos hj,if_pos hj];exact⟨_,rfl⟩
 .rw[if_neg hj,if_neg hj];exact⟨_,rfl⟩
end
end L2
namespace L2
open PySem PySem.Spec PyProof.Rows
structure DR(h:Heap)(x dx C:Addr)(mA:Str->Option Value):Prop where
 obj:h.get? x=some (PySem.W.instObj C dx)
 ns:h.Ns1 dx mA
 ne:dx≠x
theorem Bv{h:Heap}{dx:Addr}{mA:Str->Option Value}(n:h.Ns1 dx mA):∃od,h.get? dx=some od/\∀name,PySem.W.lookIn name od=some (mA name):=by
 obtain⟨o,es,ep,ho,hd,hk,_,hm⟩:=n;refine⟨o,ho,λname=>?_⟩;have e:=hm name;unfold nsFind findBy at e;rw[<-Array.find?_toList]at e;unfold PySem.W.lookIn;rw[hd];dsimp only;split
 .rename_i y q;rw[q]at e;exact congrArg some e
 .rename_i q;rw[q]at e;have a:es.toList.any (·.refKey)=false:=by
   rw[List.any_eq_false];intro y hy;obtain⟨z,t,hkey⟩:=hk y (Array.mem_toList_iff.mp hy);simp[DictEntry.refKey,hkey]
  have a':¬ es.toList.any (·.refKey)=true:=by rw[a];exact Bool.false_ne_true
  rw[if_neg a'];exact congrArg some e
theorem DR.look{h:Heap}{x dx C:Addr}{mA:Str->Option Value}(I:DR h x dx C mA):∃od,PySem.W.InstAt h x (PySem.W.instObj C dx) C (some od)/\∀name,PySem.W.lookIn name od=some (mA name):=
 let ⟨od,ho,hl⟩:=Bv I.ns
 ⟨od,⟨I.obj,rfl,rfl,ho⟩,hl⟩
section
variable{prog:Program}{w:World}{A:Around}{E:Value->Shared->Prop}{s:Shared}{K:PySem.W.Frag}{x dx C f:Addr}{mA:Str->Option Value}{name:Str}{v:Value}
end
section
variable{P:Program}{w:World}{H H':Hp}{h h':Heap}{a C dx:Addr}{fs fs':List (Str×V)}
theorem HW(hok:fh P w H h)(e:H a=some (.ins C dx fs)):∃mA,DR h a dx C mA/\(∀f,DG (fs.lookup f) (mA f))/\PySem.Within mA (fs.map (·.1))/\fs.length<=1000/\H dx=some (.own a):=by
 obtain⟨d,z,ne,ob,mA,n,r,q⟩:=(show dP P w H h a (.ins C dx fs)from hok a _ e)
 exact⟨mA,⟨ob,n,ne⟩,r,q,z,d⟩
end
structure K7(K:PySem.W.Frag)(C:Addr):Prop where
 pg:PySem.W.plainGet K C Str.empty=true
 hd:PySem.W.hasDictIn K C=true
 po:PySem.W.plainOver K C=true
 sa:PySem.W.findIn K (.ref C) "__setattr__" = some (some (.builtin "object.__setattr__"))
theorem K7.get{K:PySem.W.Frag}{C:Addr}(c:K7 K C)(f:Str):PySem.W.plainGet K C f=true:=c.pg
structure XA(K:PySem.W.Frag)(C:Addr)(f:Str)(v:V)(u:Value):Prop where
 at_:PySem.W.findIn K (.ref C) f=some (some u)
 rel:RelV v u
 get:PySem.W.specialIn K u "__get__" = some none
 cp:PySem.W.copiedNames.contains f=false
structure Meth(K:PySem.W.Frag)(C:Addr)(m:Str)(f:Addr):Prop where
 at_:PySem.W.findIn K (.ref C) m=some (some (.ref f))
 fn:PySem.W.isFn K (.ref f)=true
 kp:PySem.W.keepIn K (.ref f)=true
section
variable{X:Cx}{pins:List (Addr×Obj)}{σ:St}{H:Hp}{s:Shared}{a C dx:Addr}{fs:List (Str×V)}{f:Str}{v:V}{A:Around}{E:Value->Shared->Prop}
end
section
variable{X:Cx}{o e value:Expr}{f:Str}{pos pos' tpos:Pos}{ta tv:TE}
end
section
variable{X:Cx}{pins:List (Addr×Obj)}{σ:St}{H:Hp}{s:Shared}{A:Around}{E:Value->Shared->Prop}{Q:Value->Shared->Prop}{c:Value}{b:Bool}
inductive jL(K:PySem.W.Frag)(H:Hp):V->Value->Prop where
 |aL:jL K H .aL (.type "NoneType")
 |bl (x:Bool):jL K H (.bl x) (.type "bool")
 |int (i:Int):jL K H (.int i) (.type "int")
 |str (x:Str):jL K H (.str x) (.type "str")
 |xW (x:UInt64):jL K H (.xW x) (.type "float")
 |lst {a:Addr} {xs:List V} (e:H a=some (.lst xs)):jL K H (.ref a) (.type "list")
 |bP {a:Addr} {o:Obj} {xs:List V} (e:H a=some (.bP o (.lst xs))):jL K H (.ref a) (.type "list")
 |tup {a:Addr} {xs:List V} (e:H a=some (.tup xs)):jL K H (.ref a) (.type "tuple")
 |dK {a:Addr} {kvs:List (Key×V)} (e:H a=some (.dK kvs)):jL K H (.ref a) (.type "dict")
 |dT {a:Addr} {kvs:List (List Key×V)} (e:H a=some (.dT kvs)):jL K H (.ref a) (.type "dict")
 |ins {a C dx:Addr} {fs:List (Str×V)} (e:H a=some (.ins C dx fs)) (cl:K7 K C) (ha:PySem.W.findIn K (.ref C) "__class__" = some (some (.builtin "object.__class__")))
   (hn:PySem.W.specialIn K (.builtin "object.__class__") "__get__" = some (some (.builtin "getset_descriptor.__get__"))) (htk:PySem.W.takesIn K (.builtin "object.__class__")=some true)
   (hm:PySem.W.mroIn K C (.type "object")=some true):jL K H (.ref a) (.ref C)
theorem kM{x:V}{u t:Value}(I:Inv X pins σ H s)(rx:RelV x u)(ty:jL X.K H x t)(e:PySem.W.kitOne X.K t c=some b)(h:∀tk,Q (.bool b) { s with toks:=tk }) :
  wpAny (model X.prog X.w) A (call (.builtin "isinstance") [u,c]) Q E s:=by
 cases ty with
 |aL=>cases (show u=Value.none from rx);exact PySem.W.kia_one PySem.W.kitx_none I.fF True.intro e (λz=>nomatch z) h
 |bl y=>cases (show u=Value.bool y from rx);exact PySem.W.kia_one PySem.W.kitx_bool I.fF True.intro e (λz=>nomatch z) h
 |int i=>obtain⟨t,q⟩:=(show ∃t,u=Value.int i t from rx);cases q;exact PySem.W.kia_one PySem.W.kitx_int I.fF True.intro e (λz=>nomatch z) h
 |str y=>obtain⟨t,q⟩:=(show ∃t,u=Value.str y t from rx);cases q;exact PySem.W.kia_one PySem.W.kitx_str I.fF True.intro e (λz=>nomatch z) h
 |xW y=>obtain⟨t,q⟩:=(show ∃t,u=Value.float y t from rx);cases q;exact PySem.W.kia_one PySem.W.kitx_float I.fF True.intro e (λz=>nomatch z) h
 |@lst a xs ea=>
  cases (show u=Value.ref a from rx);obtain⟨_,_,n,_,h1⟩:=(show dP X.prog X.w H s.heap a (.lst xs)from I.hok a _ ea)
  exact PySem.W.kia_one PySem.W.kitx_list I.fF ⟨_,h1,rfl⟩ e (λz=>nomatch z) h
 |@bP a ob xs ea=>
  cases (show u=Value.ref a from rx);obtain⟨_,_,_,n,_,h1⟩:=(show dP X.prog X.w H s.heap a (.bP ob (.lst xs))from I.hok a _ ea)
  exact PySem.W.kia_one PySem.W.kitx_list I.fF ⟨_,h1,rfl⟩ e (λz=>nomatch z) h
 |@tup a xs ea=>
  cases (show u=Value.ref a from rx);obtain⟨_,_,_,p⟩:=(show dP X.prog X.w H s.heap a (.tup xs)from I.hok a _ ea)
  obtain⟨o,h1,h2,_⟩:=p;exact PySem.W.kia_one PySem.W.kitx_tuple I.fF ⟨o,h1,h2⟩ e (λz=>nomatch z) h
 |@dK a kvs ea=>
  cases (show u=Value.ref a from rx);obtain⟨_,_,vs,_,p⟩:=(show dP X.prog X.w H s.heap a (.dK kvs)from I.hok a _ ea)
  obtain⟨o,es,ep,h1,h2,_⟩:=p;exact PySem.W.kia_one PySem.W.kitx_dict I.fF ⟨o,h1,h2.1⟩ e (λz=>nomatch z) h
 |@dT a kvs ea=>
  cases (show u=Value.ref a from rx);obtain⟨_,_,xs,_,o,es,ep,h1,h2,_⟩:=(show dP X.prog X.w H s.heap a (.dT kvs)from I.hok a _ ea)
  exact PySem.W.kia_one PySem.W.kitx_dict I.fF ⟨o,h1,h2.1⟩ e (λz=>nomatch z) h
 |@ins a C dx fs ea cl ha hn htk hm=>
  cases (show u=Value.ref a from rx);obtain⟨mA,O,_⟩:=HW I.hok ea;obtain⟨od,J,_⟩:=O.look;exact PySem.W.kia_one (PySem.W.kitx_own (cl.get _) cl.hd ha hn htk hm) I.fF J e (λz=>nomatch z) h
end
end L2
namespace L2
open PySem PySem.Spec PyProof.Rows
structure gU(k:Nat)(A:Around):Prop where
 hd:A.handled=none
 dp:A.depth+3*k+5<recursionLimit
 un:A.units+16*k+200<cLine
theorem gU.deeper{k:Nat}{A:Around}(r:gU (k+1) A)(env:Env):gU k (A.deeper env):=
 ⟨r.hd,by have:=r.dp;show A.depth+1+3*k+5<_;omega,by have:=r.un;show A.units+3+16*k+200<_;omega⟩
theorem gU.depth{k:Nat}{A:Around}(r:gU k A):A.depth<recursionLimit:=by have:=r.dp;omega
noncomputable def TU:TA:=λ_ H Q=>Q [] H
noncomputable def Pr(ta:TE)(tr:TA):TA:=λσ H Q=>ta σ H λx H1=>tr σ H1 λxs H2=>Q (x :: xs) H2
section
variable{X:Cx}{e:Expr}{es:List Expr}{te:TE}{t:TA}{pos:Pos}
theorem g6:PA X [] TU:=λ_ _ _ _ H Q I h=>Calls.spliced_nil ⟨[],H,I,.nil,h⟩
theorem cJ(ha:PE X e te)(hr:PA X es t)(hs:starEach (e :: es) X.env=(false,eval e X.env) :: starEach es X.env:=by rfl):PA X (e :: es) (Pr te t):=by
 intro pos pins s σ H Q I h;rw[hs];show wpAny _ _ (spliced ((false,eval e X.env) :: backTo pos (starEach es X.env))) _ _ s;refine Calls.spliced_cons (bI (ha pins s σ H _ I h) λu s1 ⟨x,H1,I1,r1,q1⟩=>?_);exact bI (hr pos pins s1 σ H1 _ I1 q1) λus s2 ⟨xs,H2,I2,r2,q2⟩=>⟨x :: xs,H2,I2,.cons r1 r2,q2⟩
noncomputable def TV(t:TA):TE:=λσ H Q=>t σ H λxs H1=>xs.length<=sizeLine/\∀p,H1 p=none->Q (.ref p) (upd H1 p (.tup xs))
noncomputable def TZ(t:TA):TE:=λσ H Q=>t σ H λxs H1=>xs.length<=sizeLine/\∀p,H1 p=none->Q (.ref p) (upd H1 p (.lst xs))
theorem Bw{x1}(h:PA X es t):PE X (.Tuple es x1 pos) (TV t):=by
 intro pins s σ H Q I hq;refine wpAny_Tuple_spliced (bI (h pos pins s σ H _ I hq) λus s1 ⟨xs,H1,I1,r,z,q⟩=>⟨by rw[<-r.length];exact z,?_⟩);have hf:H1 s1.heap.objs.size=none:=I1.hok.fresh (Nat.le_refl _);refine⟨.ref s1.heap.objs.size,upd H1 s1.heap.objs.size (.tup xs),I1.laid (t':=s1.toks) (λb u e=>Heap.get?_push_of_some _ e) (Nat.le_refl _) ?_,rfl,q _ hf⟩;exact⟨z,us,r,⟨_,Heap.get?_push_size _ rfl,rfl,_,rfl⟩⟩
theorem ve(h:PA X es t):PE X (.List es pos) (TZ t):=by
 intro pins s σ H Q I hq;refine wpAny_List_spliced (bI (h pos pins s σ H _ I hq) λus s1 ⟨xs,H1,I1,r,z,q⟩=>⟨by rw[<-r.length];exact z,?_⟩);have hf:H1 s1.heap.objs.size=none:=I1.hok.fresh (Nat.le_refl _);refine⟨.ref s1.heap.objs.size,upd H1 s1.heap.objs.size (.lst xs),I1.laid (t':=s1.toks) (λb u e=>Heap.get?_push_of_some _ e) (Nat.le_refl _) ?_,rfl,q _ hf⟩;exact⟨z,us,0,r,Heap.get?_push_size _ rfl⟩
end
abbrev Sp:=List V->Hp->VK->XK->Prop
abbrev lR:=List Env->Hp->Shared->XK->Value->Shared->Prop
structure sC(P:Program)(w:World)(K:PySem.W.Frag)(mg:Str->Option Value)(base:Heap)(A:Around)(outer:List Env)(s:Shared)(H:Hp):Prop where
 frames:A.frames=some outer
 mod:Mod K mg base
 bs:∀b o,base.get? b=some o->s.heap.get? b=some o/\H b=none
 m8:base.objs.size<=s.heap.objs.size
 iD:s.heap.FunFrames base outer
 pD:∀b∈frs outer,H b=none
 hok:fh P w H s.heap
 bare:AllBare s.gens
noncomputable def CE(outer:List Env)(P:Program)(w:World)(H:Hp)(s:Shared)(Q:VK)(u:Value)(s':Shared):Prop:=
 ∃v H',s'.os=s.os/\AllBare s'.gens/\Un (frs outer) [] H H' s.heap s'.heap/\fh P w H' s'.heap/\RelV v u/\Q v H'
noncomputable def CR(CX:lR)(outer:List Env)(P:Program)(w:World)(H:Hp)(s:Shared)(Q:VK)(E:XK)(r:Result)(s':Shared):Prop:=
 match r with
 |.ok (.ret u)=>CE outer P w H s Q u s'
 |.ok _=>False
 |.error e=>CX outer H s E e s'
structure fJ(P:Program)(w:World)(K:PySem.W.Frag)(mg:Str->Option Value)(base:Heap)(CX:lR)(k:Nat)(f:Addr)(fd:FuncData)(ps:List Str)(sp:Sp):Prop where
 len:∀vs H Q E,sp vs H Q E->vs.length=ps.length
 run:∀(A:Around) (outer:List Env) (s:Shared) (H:Hp) (args:Args) (us:List Value) (vs:List V) (Q:VK) (E:XK),gU k A->sC P w K mg base A outer s H->BindsTo s fd args (ps.zip us)->Vals vs us->sp vs H Q E->
  codeAny (model P w) A (.call (.ref f) args) (CR CX outer P w H s Q E) s
section
variable{X:Cx}{pins:List (Addr×Obj)}{σ:St}{H:Hp}{s s':Shared}
theorem Inv.lu(I:Inv X pins σ H s):sC X.prog X.w X.K X.mg X.base X.A X.stack s H:=
 ⟨I.ok.frames,I.ok.mod,I.bs,Nat.le_trans I.ok.m8 I.sz,I.stack,I.sA,I.hok,I.bare⟩
theorem Inv.after{Q:VK}{u:Value}(I:Inv X pins σ H s)(h:CE X.stack X.prog X.w H s Q u s'):EP X pins σ Q u s':=by
 obtain⟨v,H',os,bare,un,hok,r,q⟩:=h;obtain⟨hh,g,d,t,os'⟩:=s';obtain rfl:os'=s.os:=os;exact⟨v,H',I.call (h':=hh) (g':=g) (d':=d) (t':=t) (ch:=[]) un hok bare (λb z=>absurd z (by simp)),r,q⟩
end
noncomputable def Pu(sp:Sp)(j8:List V)(E:XK)(t:TA):TE:=λσ H Q=>t σ H λvs H1=>sp (vs++j8) H1 Q E
noncomputable def Binds(K:PySem.W.Frag)(fd:FuncData)(ps:List Str)(ds:List Value):Prop:=
 ∀(s:Shared) (us:List Value),K.In s.heap->(us++ds).length=ps.length->BindsTo s fd ⟨us,[]⟩ (ps.zip (us++ds))
theorem Binds.all{K:PySem.W.Frag}{fd:FuncData}{ps:List Str}(h:∀us:List Value,us.length=ps.length->bindArgs fd ⟨us,[]⟩=pure (ps.zip us)):Binds K fd ps []:=λs us _ hl=>by
 rw[List.append_nil]at hl ⊢;exact .of_eq (h us hl)
noncomputable def Passes(CX:lR)(X:Cx)(E:XK):Prop:=∀(pins:List (Addr×Obj)) (σ:St) (H:Hp) (s:Shared) (e:Value) (s':Shared),Inv X pins σ H s->CX X.stack H s E e s'->X.xe e s'
section
variable{X:Cx}{CX:lR}{k:Nat}{f C:Addr}{fd:FuncData}{ps:List Str}{sp:Sp}{j8:List V}{ds:List Value}{E:XK}{x m:Str}{p pos apos:Pos}{e o:Expr}{es:List Expr}{ta:TE}{t:TA}
theorem K8{pins:List (Addr×Obj)}{σ:St}{H:Hp}{s:Shared}{Q:VK}{us:List Value}{vs:List V}(F:fJ X.prog X.w X.K X.mg X.base CX k f fd ps sp)(hr:gU k X.A)(hb:Binds X.K fd ps ds)(hd:Vals j8 ds)(hx:Passes CX X E)
  (I:Inv X pins σ H s) (r:Vals vs us) (h:sp (vs++j8) H Q E):wpAny (model X.prog X.w) X.A (call (.ref f) us) (EP X pins σ Q) X.xe s:=by
 have r2:Vals (vs++j8) (us++ds):=r.append hd;have hl:(us++ds).length=ps.length:=by rw[<-r2.length];exact F.len _ _ _ _ h
 refine wpAny_call (codeAny_mono (F.run X.A X.stack s H ⟨us,[]⟩ (us++ds) (vs++j8) Q E hr I.lu (hb s us I.fF hl) r2 h) λr s' hq=>?_);cases r with
 |error e=>exact hx pins σ H s e s' I hq
 |ok fl=>
  cases fl with
  |ret u=>exact I.after hq
  |next=>exact False.elim hq
  |brk=>exact False.elim hq
  |cont=>exact False.elim hq
theorem sD(F:fJ X.prog X.w X.K X.mg X.base CX k f fd ps sp)(hr:gU k X.A)(hg:Gl X x)(hm:X.mg x=some (.ref f))(hk:PySem.W.keepIn X.K (.ref f)=true)(hb:Binds X.K fd ps ds)(hd:Vals j8 ds)(hx:Passes CX X E)
  (ha:PA X (e :: es) t) (hdb:(x==("__debug__" : Str))=false:=by decide) (he:starEach (e :: es) X.env=(false,eval e X.env) :: starEach es X.env:=by rfl) (hpl:(backTo pos (starEach es X.env)).any (·.1)=false:=by rfl) :
  PE X (.Call (.Name x p) (e :: es) [] pos) (Pu sp j8 E t):=by
 intro pins s σ H Q I h;refine wpAny_Call_Name_kw (oF I hg hm ?_ hdb);refine PySem.W.callWith_K (h₀:=X.base) I.ok.mod.di hk (bI (ha pos pins s σ H _ I h) λus s1 ⟨vs,H1,I1,r,q⟩=>⟨I1.fF,?_⟩) he hpl;exact K8 F hr hb hd hx I1 r q
structure Mk(K:PySem.W.Frag)(C f:Addr):Prop where
 makes:PySem.W.makesIn K C=true
 init:PySem.W.findIn K (.ref C) "__init__" = some (some (.ref f))
 fn:PySem.W.isFn K (.ref f)=true
 kp:PySem.W.keepIn K (.ref C)=true
end
section
variable{X:Cx}{CX:lR}{k:Nat}{f C:Addr}{fd:FuncData}{ps ks:List Str}{sp:Sp}{E:XK}{x m:Str}{p pos apos kpos:Pos}{e o:Expr}{es:List Expr}{kws:List Keyword}{te ta:TE}{t tk:TA}{nm:Option Str}
structure VO(K:PySem.W.Frag)(fd:FuncData)(ps ks:List Str)(g:List Value->List Value->List Value)(gV:List V->List V->List V):Prop where
 to:∀(s:Shared) (us ws:List Value),K.In s.heap->(g us ws).length=ps.length->BindsTo s fd ⟨us,ks.zip ws⟩ (ps.zip (g us ws))
 rel:∀{vs:List V} {us:List Value} {zs:List V} {ws:List Value},Vals vs us->Vals zs ws->Vals (gV vs zs) (g us ws)
variable{g:List Value->List Value->List Value}{gV:List V->List V->List V}
end
structure bH(N P:List Str)(sc:Scope):Prop where
 kind:sc.kind=.function
 co:sc.isCoroutine=false
 gen:sc.isGenerator=false
 nd:N.Nodup
 pre:N.take P.length=P
 par:∀x∈P,sc.names.lookup x=some .local\/sc.names.lookup x=some .cell
 K9:∀y∈sc.names,y.2≠.free
theorem tU{kindOf:Str->Option NameKind}{x:Str}:∀{binds:List (Str×Value)}{m:Str->Option Value},(∀v,(x,v)∉binds)->bindL kindOf binds m x=m x
 |[],_,_=>rfl
 | (n,v) :: r,m,h=>by
  unfold bindL;rw[tU λw hw=>h w (List.mem_cons_of_mem _ hw)];split
  .have:x≠n:=by rintro rfl;exact h v List.mem_cons_self
   simp[this]
  .rfl
theorem tV{kindOf:Str->Option NameKind}{x:Str}:∀{binds:List (Str×Value)}{m:Str->Option Value},(∀v,(x,v)∉binds)->bindC kindOf binds m x=m x
 |[],_,_=>rfl
 | (n,v) :: r,m,h=>by
  unfold bindC;rw[tV λw hw=>h w (List.mem_cons_of_mem _ hw)];split
  .rfl
  .have:x≠n:=by rintro rfl;exact h v List.mem_cons_self
   simp[this]
theorem tW{kindOf:Str->Option NameKind}{x:Str}{v:Value}:∀{P:List Str}{vs:List Value}{i:Nat}{m:Str->Option Value},P.Nodup->P[i]?=some x->vs[i]?=some v->kindOf x=some .local->
  bindL kindOf (P.zip vs) m x=some v
 |[],_,_,_,_,h,_,_=>by simp at h
 |_ :: _,[],_,_,_,_,h,_=>by simp at h
 |p :: P,w :: vs,0,m,nd,h1,h2,hk=>by
  simp at h1 h2;subst h1;subst h2;show bindL kindOf ((p,w) :: P.zip vs) m p=_;unfold bindL;rw[tU λv hv=>(List.nodup_cons.mp nd).1 (List.of_mem_zip hv).1,if_pos hk];simp
 |p :: P,w :: vs,i+1,m,nd,h1,h2,hk=>by
  show bindL kindOf ((p,w) :: P.zip vs) m x=_;unfold bindL;exact tW (i:=i) (List.nodup_cons.mp nd).2 (by simpa using h1) (by simpa using h2) hk
theorem tY{kindOf:Str->Option NameKind}{x:Str}{v:Value}:∀{P:List Str}{vs:List Value}{i:Nat}{m:Str->Option Value},P.Nodup->P[i]?=some x->vs[i]?=some v->kindOf x≠some .local->
  bindC kindOf (P.zip vs) m x=some v
 |[],_,_,_,_,h,_,_=>by simp at h
 |_ :: _,[],_,_,_,_,h,_=>by simp at h
 |p :: P,w :: vs,0,m,nd,h1,h2,hk=>by
  simp at h1 h2;subst h1;subst h2;show bindC kindOf ((p,w) :: P.zip vs) m p=_;unfold bindC;rw[tV λv hv=>(List.nodup_cons.mp nd).1 (List.of_mem_zip hv).1,if_neg hk];simp
 |p :: P,w :: vs,i+1,m,nd,h1,h2,hk=>by
  show bindC kindOf ((p,w) :: P.zip vs) m x=_;unfold bindC;exact tY (i:=i) (List.nodup_cons.mp nd).2 (by simpa using h1) (by simpa using h2) hk
noncomputable def start(N:List Str)(vs:List V):St:=vs.map some++List.replicate (N.length - vs.length) none
noncomputable def jM(CX:lR)(P:Program)(w:World)(K:PySem.W.Frag)(mg:Str->Option Value)(base:Heap)(N:List Str)(qual:Str)(scope:Scope)(f:Addr)(cd:Value)(A:Around)(outer:List Env)(s:Shared)(H:Hp)(E:XK):Cx where
 prog:=P
 w:=w
 K:=K
 mg:=mg
 base:=base
 A:=A.deeper (envOfC qual scope s.heap.objs.size f cd)
 N:=N
 s₀:=s
 H₀:=H
 env:=envOfC qual scope s.heap.objs.size f cd
 outer:=outer
 stack:=envOfC qual scope s.heap.objs.size f cd :: outer
 ex:=[]
 calm:=true
 fn:=λ_=>true
 pn:=[]
 xe:=λe s'=>wpAny (model P w) (A.deeper (envOfC qual scope s.heap.objs.size f cd)) (leaving (envOfC qual scope s.heap.objs.size f cd) e) (λ_ s''=>CX outer H s E e s'') (λe' s''=>CX outer H s E e' s'') s'
theorem vf{sc:Scope}{n:Nat}{x:Str}(h:sc.names.lookup x=some .cell):∃c,(cellsFrom n sc.names []).lookup x=some c:=by
 have q:=PySem.W.cellsFrom_some sc.names n [] (.inl h);exact Option.isSome_iff_exists.mp q
theorem tZ{CX:lR}{P:Program}{w:World}{K:PySem.W.Frag}{mg:Str->Option Value}{base:Heap}{N ps:List Str}{qual:Str}{scope:Scope}{f:Addr}{cd:Value}{A:Around}{outer:List Env}{s s1:Shared}{H:Hp}{E:XK}{us:List Value}{vs:List V}
  (S:bH N ps scope) (hd:A.handled=none) (e0:sC P w K mg base A outer s H) (hl:vs.length=ps.length) (r:Vals vs us)
  (x:InCallC s s.heap.objs.size (bindL (envOfC qual scope s.heap.objs.size f cd).kindOf (ps.zip us) λ_=>none) (cellsFrom (s.heap.objs.size+1) scope.names []) (bindC (envOfC qual scope s.heap.objs.size f cd).kindOf (ps.zip us) λ_=>none) s1) :
  Inv (jM CX P w K mg base N qual scope f cd A outer s H E) [] (start N vs) H s1:=by
 have hpl:ps.length<=N.length:=by have:=congrArg List.length S.pre;rw[List.length_take]at this;omega
 obtain⟨h1,tk,rfl,hk⟩:=x.done;have Bx:∀b:Addr,b∉(jM CX P w K mg base N qual scope f cd A outer s H E).ex:=λb z=>absurd (show b∈([]:List Addr)from z) (by simp);refine⟨⟨e0.mod,S.kind,rfl,rfl,Nat.le_refl _,λy z c h1 h2=>?_,λy hy=>?_,λy c _ h=>?_,λ_=>hd,Around.frames_deeper e0.frames,.inr ⟨rfl,rfl⟩,λb z=>absurd z (Bx b),e0.bs,e0.m8,λb _ _=>Bx b,λb z=>absurd z (Bx b),e0.iD,e0.pD⟩,
  rfl,e0.bare,Un.kept hk,⟨_,x.toInCall.ns,λi y v h1 h2 h3=>?_⟩,λy c h=>⟨_,x.cell y c h⟩,e0.hok.fresh (Nat.le_refl _),λy c h=>?_,λp hp=>absurd (show p∈([]:List (Addr×Obj))from hp) (by simp),e0.hok.kept hk,?_⟩
 .exact name_of_addr x.apart (PySem.mem_of_lookup h1) (PySem.mem_of_lookup h2)
 .have hy:scope.names.lookup y=some .cell\/scope.names.lookup y=some .free:=hy;rcases hy with hy|hy
  .exact vf hy
  .exact absurd rfl (S.K9 _ (PySem.mem_of_lookup hy))
 .exact Nat.le_of_lt (x.above y c (PySem.mem_of_lookup h))
 .have hi:i<vs.length:=by
   unfold start at h2;by_cases hi:i<vs.length
   .exact hi
   .rw[List.getElem?_append_right (by simpa using hi)]at h2;rw[List.getElem?_replicate]at h2;split at h2<;>cases h2
  have ha:vs[i]?=some v:=by
   unfold start at h2;rw[List.getElem?_append_left (by simpa using hi),List.getElem?_map]at h2;cases e:vs[i]? with
   |none=>rw[e]at h2;cases h2
   |some a=>rw[e]at h2;cases h2;rfl
  obtain⟨u,hu,rv⟩:=r.get ha;have hp:ps[i]?=some y:=by
   rw[<-S.pre,List.getElem?_take_of_lt (by omega)];exact h1
  have RX:ps.Nodup:=by rw[<-S.pre];exact S.nd.sublist (List.take_sublist _ _)
  refine⟨u,rv,?_⟩;rcases S.par y (List.mem_of_getElem? hp)with k|k
  .exact .inl ⟨k,tW RX hp hu k⟩
  .obtain⟨c,e⟩:=vf (n:=s.heap.objs.size+1) k;refine .inr ⟨.inl k,c,e,?_⟩;have q:=x.cell y c e;rw[tY RX hp hu (by show scope.names.lookup y≠_;rw[k];decide)]at q;exact q
 .exact e0.hok.fresh (Nat.le_of_lt (x.above y c (PySem.mem_of_lookup h)))
 .unfold start;show _=N.length;rw[List.length_append,List.length_map,List.length_replicate];omega
theorem Gn{CX:lR}{P:Program}{w:World}{K:PySem.W.Frag}{mg:Str->Option Value}{base:Heap}{k:Nat}{f:Addr}{name qual:Str}{params:Arguments}{body:List Stmt}{scope:Scope}{dV kV doc pm cdv ct oc:Value}{an od:Option Addr}
  {osl:Array (Option Value)} {N ps:List Str} {sp:Sp} (lk:K.lookup f=some ⟨oc,od,.func (PySem.W.fnOf name qual params body scope dV kV doc pm an cdv ct),osl⟩) (hcd:PySem.W.codeIn K cdv qual=true) (S:bH N ps scope)
  (len:∀vs H Q E,sp vs H Q E->vs.length=ps.length)
  (hbody:∀(A:Around) (outer:List Env) (s:Shared) (H:Hp) (vs:List V) (Q:VK) (E:XK),gU k (A.deeper (envOfC qual scope s.heap.objs.size f cdv))->sp vs H Q E->
   ∃t,fj (jM CX P w K mg base N qual scope f cdv A outer s H E) body t/\t { nx:=λ_ H'=>Q .aL H',rt:=Q } (start N vs) H) :
  fJ P w K mg base CX (k+1) f (PySem.W.fnOf name qual params body scope dV kV doc pm an cdv ct) ps sp:=by
 refine⟨len,λA outer s H args us vs Q E hr e0 hb r iV=>?_⟩;have hl:=len _ _ _ _ iV;have KX:K.In s.heap:=e0.mod.di.keeps λb o e=>(e0.bs b o e).1;have lim:s.heap.NoLimit:=e0.mod.nolimit.keeps λb o e=>(e0.bs b o e).1;have hkind:∀y∈ps.zip us,scope.names.lookup y.1=some .local\/(scope.names.lookup y.1=some .cell/\((cellsFrom (s.heap.objs.size+1) scope.names []).lookup y.1).isSome=true):=λ⟨n,v⟩ hy=>by
  rcases S.par n (List.of_mem_zip hy).1 with q|q
  .exact .inl q
  .exact .inr ⟨q,PySem.W.cellsFrom_some _ _ _ (.inl q)⟩
 refine codeAny_call_function hr.depth (KX _ _ lk) rfl S.co S.gen rfl (PySem.W.codeRec_of KX hcd) (hb _ _ _ _ ?_);refine wpAny_newFunctionEnv_cells S.kind hkind λenv he s1 x=>?_;subst he;refine⟨lim.keeps x.toInCall.keep,codeAny_func ?_⟩;obtain⟨t,ht,hq⟩:=hbody A outer s H vs Q E (hr.deeper _) iV;have I:Inv (jM CX P w K mg base N qual scope f cdv A outer s H E) [] (start N vs) H s1:=tZ S hr.hd e0 hl r x;refine wpAny_mono (ht [] s1 (start N vs) H _ I hq) (λfl s' hs=>?_) λe s' hs=>hs;have fin:∀{σ':St} {H':Hp} {v:V} {u:Value},Inv (jM CX P w K mg base N qual scope f cdv A outer s H E) [] σ' H' s'->RelV v u->Q v H'->CE outer P w H s Q u s':=
  λ{σ' H' v u} J rv q=>⟨v,H',J.os,J.bare,J.base,J.hok,rv,q⟩
 cases fl with
 |ret u=>
  obtain⟨v,σ',H',J,rv,q⟩:=hs;exact fin J rv q
 |next=>
  obtain⟨σ',H',J,q⟩:=hs;exact fin (v:=V.aL) (u:=Value.none) J rfl q
 |brk=>
  obtain⟨_,_,_,q⟩:=hs;exact False.elim q
 |cont=>
  obtain⟨_,_,_,q⟩:=hs;exact False.elim q
end L2
namespace L2
open PySem PySem.Spec PyProof.Rows
section
variable{X:Cx}{x:Str}{p pos:Pos}{e:Expr}{es:List Expr}{t:TA}{id T:String}{r:List V->Hp->VK->Prop}
noncomputable def La(r:List V->Hp->VK->Prop)(t:TA):TE:=λσ H Q=>t σ H λvs H1=>r vs H1 Q
theorem qd (hc:fU X (.builtin id) r) (hg:Gl X x) (hm:X.mg x=none) (hv:bootBuiltins x=some (.builtin id)) (ha:PA X (e :: es) t) (hn:x≠"__name__" :=by decide) (hdb:(x==("__debug__" : Str))=false:=by decide)
  (he:starEach (e :: es) X.env=(false,eval e X.env) :: starEach es X.env:=by rfl) (hpl:(backTo pos (starEach es X.env)).any (·.1)=false:=by rfl):PE X (.Call (.Name x p) (e :: es) [] pos) (La r t):=by
 intro pins s σ H Q I h;refine wpAny_Call_Name_kw (iT I hg hm hv ?_ hn hdb);exact PyProof.Rows.callWith_builtin1 (bI (ha pos pins s σ H _ I h) λus s1 ⟨vs,H1,I1,r1,q1⟩=>hc pins s1 σ H1 vs us Q I1 r1 q1) he hpl
theorem t6 (hc:fU X (.type T) r) (hg:Gl X x) (hm:X.mg x=none) (hv:bootBuiltins x=some (.type T)) (ha:PA X (e :: es) t) (hn:x≠"__name__" :=by decide) (hdb:(x==("__debug__" : Str))=false:=by decide)
  (he:starEach (e :: es) X.env=(false,eval e X.env) :: starEach es X.env:=by rfl) (hpl:(backTo pos (starEach es X.env)).any (·.1)=false:=by rfl):PE X (.Call (.Name x p) (e :: es) [] pos) (La r t):=by
 intro pins s σ H Q I h;refine wpAny_Call_Name_kw (iT I hg hm hv ?_ hn hdb);exact PyProof.Rows.callWith_type1 (bI (ha pos pins s σ H _ I h) λus s1 ⟨vs,H1,I1,r1,q1⟩=>hc pins s1 σ H1 vs us Q I1 r1 q1) he hpl
end
end L2
namespace HT
open PySem PyProof.Rows
section
open PySem.SeqAt
open PySem.AutoSeq1 (wpAny_loadPart')
open PySem.MeetsSeq PySem.MeetsSeq2 PySem.MeetsSeq3
end
section
variable{prog:Program}{w:World}{A:Around}{E:Value->Shared->Prop}{s:Shared}
theorem HY{t b:Addr}{vs ws:List Value}{Q:Value->Shared->Prop}(ht:IsTup s.heap t vs.toArray)(hb:IsTup s.heap b ws.toArray)(hv:vs≠[])
  (h1:ws=[]->Q (.ref t) s) (h2:ws≠[]->Q (.ref s.heap.objs.size) { s with heap:=s.heap.push { cls:=.type "tuple",data:=.seq (vs++ws).toArray }})
  (hsz:vs.length+ws.length<=sizeLine):wpAny (model prog w) A (binaryOp .Add (.ref t) (.ref b)) Q E s:=by
 obtain⟨⟨cls,dd,data,sl⟩,ho,hc,n,hd⟩:=id ht;obtain⟨⟨T3,dd2,data2,sl2⟩,ho2,hc2,n2,hd2⟩:=id hb;simp only at hc hd hc2 hd2;subst hc hd hc2 hd2;have e:vs.toArray++ws.toArray=(vs++ws).toArray:=by simp
 by_cases hw:ws=[]
 .exact concat_meets ⟨_,ho,rfl⟩ ⟨_,ho2,rfl⟩ noFill_tuple_add seq_tuple_add PySem.F.slot_tuple_add PySem.F.entry_tuple_add (PySem.F.args_tuple_add_2 _ _)
   (tuple_addW1 t b vs.toArray ws.toArray n n2 dd dd2 sl sl2 (by simpa using hv) (by simp[hw])) ⟨ho,ho2,h1 hw⟩
 .refine concat_meets ⟨_,ho,rfl⟩ ⟨_,ho2,rfl⟩ noFill_tuple_add seq_tuple_add PySem.F.slot_tuple_add PySem.F.entry_tuple_add (PySem.F.args_tuple_add_2 _ _)
   (tuple_addW2 t b vs.toArray ws.toArray n n2 dd dd2 sl sl2 (by simpa using hv) (by simpa using hw) (by rw[List.size_toArray,List.size_toArray];exact hsz)) ⟨ho,ho2,?_⟩
  rw[e];exact h2 hw
noncomputable def aO(n d:Nat):Option Int->Nat
 |none=>d
 |some v=>if v<0 then (v+(n:Int)).toNat else min v.toNat n
theorem vg(n d:Nat)(hd:d<=n)(o:Option Int):aO n d o<=n:=by
 cases o with
 |none=>exact hd
 |some v=>
  show(if v<0 then (v+(n:Int)).toNat else min v.toNat n)<=n;by_cases hv:v<0
  .rw[if_pos hv];omega
  .rw[if_neg hv];exact Nat.min_le_right _ _
theorem yf(v:Int)(n d:Nat):(if v<0 then max (v+(n:Int)) 0 else min v (n:Int))=((aO n d (some v):Nat):Int):=by
 show(if v<0 then max (v+(n:Int)) 0 else min v (n:Int))=(((if v<0 then (v+(n:Int)).toNat else min v.toNat n):Nat):Int)
 by_cases hv:v<0
 .simp only[if_pos hv];omega
 .simp only[if_neg hv];omega
theorem zS(lo hi:Option Int)(n:Nat):Builtin.Slice.sliceAdjust lo hi 1 (n:Int)=(((aO n 0 lo:Nat):Int),((aO n n hi:Nat):Int)):=by
 have h1:¬ ((1:Int)<0):=by omega
 unfold Builtin.Slice.sliceAdjust;simp only[h1,if_false];refine Prod.ext ?_ ?_
 .cases lo with
  |none=>rfl
  |some v=>exact yf v n 0
 .cases hi with
  |none=>rfl
  |some v=>exact yf v n n
theorem zU(i j:Nat):Builtin.Slice.slicePlaces (i:Int) (j:Int) 1=j - i:=by
 unfold Builtin.Slice.slicePlaces;have h1:(1:Int) > 0:=by omega
 simp only[h1,if_true,Int.ediv_one];split<;>omega
theorem qH{v:Value}{o:Option Int}{Q:Option Int->Shared->Prop}(p:IsPart v o)(h:Q o s):wpAny (model prog w) A (Builtin.Slice.slicePartIndex v) Q E s:=by
 cases p with
 |none=>exact slicePart_none h
 |int i t=>exact slicePart_int h
theorem j9{sl:Addr}{vl vu:Value}{lo hi:Option Int}{n:Nat}{Q:Int×Int×Nat->Shared->Prop}(hs:s.heap.IsSliceOf sl vl vu .none)(pl:IsPart vl lo)(pu:IsPart vu hi)
  (h:Q (((aO n 0 lo:Nat):Int),1,aO n n hi - aO n 0 lo) s):wpAny (model prog w) A (Builtin.Slice.sliceApplied (.ref sl) (pure (n:Int))) Q E s:=by
 obtain⟨os,hos,hcs,hds⟩:=id hs;unfold Builtin.Slice.sliceApplied Builtin.Slice.sliceFields;refine wpAny_bind (wpAny_bind (wpAny_field hos hds (x:=vl) rfl (wpAny_bind (wpAny_field hos hds (x:=vu) rfl (wpAny_bind (wpAny_field hos hds (x:=.none) rfl (wpAny_pure ?_)))))));refine wpAny_bind (slicePart_none ?_);show wpAny _ _ (if ((1:Int)==0)=true then _ else _) _ _ s;rw[if_neg (by decide)];refine wpAny_bind (qH pl (wpAny_bind (qH pu (wpAny_bind (wpAny_pure ?_)))));show wpAny _ _ (match Builtin.Slice.sliceAdjust lo hi 1 (n:Int)with | (lo,hi)=>pure (lo,(1:Int),Builtin.Slice.slicePlaces lo hi 1)) _ _ s;rw[zS lo hi n];show wpAny _ _ (pure (((aO n 0 lo:Nat):Int),(1:Int),Builtin.Slice.slicePlaces ((aO n 0 lo:Nat):Int) ((aO n n hi:Nat):Int) 1)) _ _ s;rw[zU];exact wpAny_pure h
theorem DS(xs:Array Value)(i k:Nat):((List.range k).filterMap λ(m:Nat)=>xs[((i:Int)+(m:Int)*1).toNat]?).toArray=((xs.toList.drop i).take k).toArray:=by
 have e:(λ(m:Nat)=>xs[((i:Int)+(m:Int)*1).toNat]?)=λm=>xs[i+m]?:=by
  funext m
  have:((i:Int)+(m:Int)*1).toNat=i+m:=by omega
  rw[this]
 rw[e];have:=pick_run xs i k;rw[List.filterMap_map]at this;have e2:((λx=>xs[x]?) ∘ λx=>i+x)=λm=>xs[i+m]?:=rfl;rw[e2]at this;rw[this]
theorem pC{t sl:Addr}{items:Array Value}{vl vu:Value}{lo hi:Option Int}{Q:Value->Shared->Prop}(ht:IsTup s.heap t items)(hs:s.heap.IsSliceOf sl vl vu .none)(pl:IsPart vl lo)(pu:IsPart vu hi)
  (hw:¬ (aO items.size 0 lo=0/\aO items.size items.size hi=items.size))
  (h:Q (.ref s.heap.objs.size) { s with heap:=s.heap.push { cls:=.type "tuple",data:=.seq ((items.toList.drop (aO items.size 0 lo)).take (aO items.size items.size hi - aO items.size 0 lo)).toArray }})
  (hsz:items.size<=sizeLine):wpAny (model prog w) A (getItem (.ref t) (.ref sl)) Q E s:=by
 have uN:sizeOk (.seq ((items.toList.drop (aO items.size 0 lo)).take (aO items.size items.size hi - aO items.size 0 lo)).toArray):=by
  show((items.toList.drop (aO items.size 0 lo)).take (aO items.size items.size hi - aO items.size 0 lo)).toArray.size<=sizeLine;rw[List.size_toArray,List.length_take,List.length_drop,Array.length_toList];omega
 have hj:aO items.size items.size hi<=items.size:=vg _ _ (Nat.le_refl _) hi;obtain⟨os,hos,hcs,hds⟩:=id hs;have Lb:s.TypeIs (.ref sl) "slice" :=⟨os,hos,hcs⟩
 unfold getItem;try with_reducible refine wpAny_holding ?_
 first|refine wpAny_bind (wpAny_pure ?_)|skip
 refine wpAny_bind (wpAny_sequenceKey ht.typeIs (by decide) ?_);refine wpAny_bind (wpAny_callSpecial?_slot (name:=Str.ofString "__getitem__") ht.typeIs PyProof.Rows.slot_tuple_getitem
  (wpAny_call_entry PyProof.Rows.slot_tuple_getitem ht.typeIs entry_tuple_getitem ?_ (args_tuple_getitem _ _)))
 show wpAny _ _ (Builtin.Tuple.tupleItemsOf (.ref t) >>= _) _ _ s;refine wpAny_bind (tupleItemsOf_ ht ?_);refine wpAny_bind (wpAny_typeOf Lb ?_);rw[if_pos (by decide)];refine wpAny_bind (j9 hs pl pu ?_);have hno:¬ ((((aO items.size 0 lo:Nat):Int)==0&&(1:Int)==1&&(aO items.size items.size hi - aO items.size 0 lo)==items.size)=true):=by
  intro q;rw[Bool.and_eq_true,Bool.and_eq_true]at q;have q1:((aO items.size 0 lo:Nat):Int)=0:=eq_of_beq q.1.1;have q2:aO items.size items.size hi - aO items.size 0 lo=items.size:=eq_of_beq q.2;exact hw ⟨by omega,by omega⟩
 show wpAny _ _ (if (((aO items.size 0 lo:Nat):Int)==0&&(1:Int)==1&&(aO items.size items.size hi - aO items.size 0 lo)==items.size)=true then _ else _) _ _ s;rw[if_neg hno,DS];first
  |exact wpAny_bind (m:=Builtin.Tuple.tupleExact _) (wpAny_newObj_type (wpAny_pure ⟨_,rfl,wpAny_pure h⟩) uN)
  |exact wpAny_bind (m:=Builtin.Tuple.tupleExact _) (wpAny_newObj_type (wpAny_bind (wpAny_pure (wpAny_pure ⟨_,rfl,wpAny_pure h⟩))) uN)
  |exact wpAny_bind (wpAny_bind (m:=Builtin.Tuple.tupleExact _) (wpAny_newObj_type (wpAny_pure (wpAny_pure ⟨_,rfl,wpAny_pure h⟩)) uN))
  |exact wpAny_bind (wpAny_bind (m:=Builtin.Tuple.tupleExact _) (wpAny_newObj_type (wpAny_pure ⟨_,rfl,wpAny_pure h⟩) uN))
end
end HT
namespace L2
open PySem PySem.Spec PyProof.Rows
abbrev TO:=St->Hp->(Option Int->Hp->Prop)->Prop
noncomputable def PO(X:Cx)(e:Option Expr)(t:TO):Prop:=
 ∀(pins:List (Addr×Obj)) (s:Shared) (σ:St) (H:Hp) (Q:Option Int->Hp->Prop),Inv X pins σ H s->t σ H Q->
  wpAny (model X.prog X.w) X.A (evalPart e X.env) (λu s'=>∃o H',Inv X pins σ H' s'/\IsPart u o/\Q o H') X.xe s
noncomputable def HZ:TO:=λ_ H Q=>Q none H
noncomputable def Px(t:TE):TO:=λσ H Q=>t σ H λx H1=>∃i,x=.int i/\Q (some i) H1
section
variable{X:Cx}{e:Expr}{te:TE}{lo hi:Option Expr}{tl th:TO}{pos p2:Pos}
theorem Ia:PO X none HZ:=by
 intro pins s σ H Q I h;rw[evalPart_none];exact wpAny_pure ⟨none,H,I,.none,h⟩
theorem Ib(h:PE X e te):PO X (some e) (Px te):=by
 intro pins s σ H Q I hw;rw[evalPart_some];refine bI (h pins s σ H _ I hw) λu s1 ⟨x,H1,I1,r1,q1⟩=>?_;obtain⟨i,rfl,q⟩:=q1;obtain⟨t,rfl⟩:=r1;exact⟨some i,H1,I1,.int i t,q⟩
noncomputable def lS(X:Cx)(r:V->Option Int->Option Int->Hp->VK->Prop):Prop:=
 ∀(pins:List (Addr×Obj)) (s:Shared) (σ:St) (H:Hp) (x:V) (v vl vu:Value) (lo hi:Option Int) (sl:Addr) (Q:VK),Inv X pins σ H s->RelV x v->s.heap.IsSliceOf sl vl vu .none->IsPart vl lo->IsPart vu hi->r x lo hi H Q->
  ∃T id,typeLookup (.type T) "__getitem__" = pure (some (.builtin id))/\s.TypeIs v T/\wpAny (model X.prog X.w) X.A (getItem v (.ref sl)) (EP X pins σ Q) X.xe s
noncomputable def VP(r:V->Option Int->Option Int->Hp->VK->Prop)(te:TE)(tl th:TO):TE:=λσ H Q=>te σ H λx H1=>tl σ H1 λl H2=>th σ H2 λu H3=>r x l u H3 Q
theorem DT{r:V->Option Int->Option Int->Hp->VK->Prop}(hr:lS X r)(he:PE X e te)(hl:PO X lo tl)(hu:PO X hi th):PE X (.Subscript e (.Slice lo hi none p2) pos) (VP r te tl th):=by
 intro pins s σ H Q I h;refine Subscript_ (bI (he pins s σ H _ I h) λv s1 ⟨x,H1,I1,r1,q1⟩=>?_);refine wpAny_Slice (bI (hl pins s1 σ H1 _ I1 q1) λvl s2 ⟨l,H2,I2,pl,q2⟩=>bI (hu pins s2 σ H2 _ I2 q2) λvu s3 ⟨u,H3,I3,pu,q3⟩=>?_);rw[evalPart_none];refine wpAny_pure ?_;have I4:Inv X pins σ H3 { s3 with heap:=s3.heap.push { cls:=.type "slice",data:=.fields #[vl,vu,.none]}}:=I3.kept (t':=s3.toks) λb ob q=>Heap.get?_push_of_some _ q;obtain⟨T,id,hT,ht,hg⟩:=hr pins { s3 with heap:=s3.heap.push { cls:=.type "slice",data:=.fields #[vl,vu,.none]}} σ H3 x v vl vu l u s3.heap.objs.size Q I4 r1 (Heap.IsSliceOf.new ..) pl pu q3;show wpAny (model X.prog X.w) X.A (subscriptTail e (.Slice lo hi none p2) v (.ref s3.heap.objs.size)) (EP X pins σ Q) X.xe { s3 with heap:=s3.heap.push { cls:=.type "slice",data:=.fields #[vl,vu,.none]}};exact tail_any (ops:=[.ref s3.heap.objs.size,v]) ht hT hg (by with_unfolding_all rfl)
noncomputable def nu(xs:List V)(lo hi:Option Int):List V:=(xs.drop (HT.aO xs.length 0 lo)).take (HT.aO xs.length xs.length hi - HT.aO xs.length 0 lo)
theorem pG(xs:List V)(lo hi:Option Int):(nu xs lo hi).length<=xs.length:=by
 unfold nu;rw[List.length_take,List.length_drop];omega
noncomputable def T4(K:PySem.W.Frag):V->Option Int->Option Int->Hp->VK->Prop:=λx lo hi H Q=>∃a xs,x=.ref a/\dR K H a xs/\
 ¬ (HT.aO xs.length 0 lo=0/\HT.aO xs.length xs.length hi=xs.length)/\∀p,H p=none->Q (.ref p) (upd H p (.tup (nu xs lo hi)))
theorem Lc:lS X (T4 X.K):=by
 intro pins s σ H x v vl vu lo hi sl Q I rx hs pl pu h;obtain⟨a,xs,rfl,hx,hw,q⟩:=h;cases rx;obtain⟨its,r,ht,hz⟩:=I.tuple hx;have hlen:its.toArray.size=xs.length:=by rw[List.size_toArray];exact r.length.symm
 refine⟨"tuple",_,PyProof.Rows.slot_tuple_getitem.lookup,ht.typeIs,?_⟩;refine HT.pC ht hs pl pu (by rw[hlen];exact hw) ?_ (by rw[hlen];exact hz);rw[hlen];refine⟨.ref s.heap.objs.size,_,I.laid (t':=s.toks) (o:=.tup (nu xs lo hi)) (λb ob q=>Heap.get?_push_of_some _ q) (Nat.le_refl _) ?_,rfl,q _ (I.hok.fresh (Nat.le_refl _))⟩;exact⟨Nat.le_trans (pG xs lo hi) hz,_,(r.drop (HT.aO xs.length 0 lo)).take (HT.aO xs.length xs.length hi - HT.aO xs.length 0 lo),IsTup.new _ _⟩
noncomputable def Py(K:PySem.W.Frag):R2:=λx y H Q=>∃a b xs ys,x=.ref a/\y=.ref b/\dR K H a xs/\dR K H b ys/\xs≠[]/\xs.length+ys.length<=sizeLine/\
 (ys=[]->Q (.ref a) H)/\(ys≠[]->∀p,H p=none->Q (.ref p) (upd H p (.tup (xs++ys))))
theorem Vals.sE{xs:List V}{us:List Value}(r:Vals xs us):us=[]↔xs=[]:=by
 cases r with
 |nil=>simp
 |cons _ _=>simp
theorem Ic:dN X (binaryOp .Add) (Py X.K):=by
 intro pins s σ H x y v u Q I rx ry h;obtain⟨a,b,xs,ys,rfl,rfl,ha,hb,hx,hz,q1,q2⟩:=h;cases rx;cases ry;obtain⟨its,r1,p1,_⟩:=I.tuple ha;obtain⟨its2,r2,p2,_⟩:=I.tuple hb;refine HT.HY p1 p2 (λz=>hx (r1.sE.mp z)) (λz=>⟨.ref a,H,I,rfl,q1 (r2.sE.mp z)⟩) (λz=>?_) (by rw[<-r1.length,<-r2.length];exact hz);refine⟨.ref s.heap.objs.size,_,I.laid (t':=s.toks) (o:=.tup (xs++ys)) (λb ob q=>Heap.get?_push_of_some _ q) (Nat.le_refl _) ?_,rfl,q2 (λw=>z (r2.sE.mpr w)) _ (I.hok.fresh (Nat.le_refl _))⟩;exact⟨by rw[List.length_append];exact hz,_,r1.append r2,IsTup.new _ _⟩
end
end L2
namespace L2
open PySem PySem.Spec PyProof.Rows
noncomputable def dj(n:Nat)(i:Int):Option Nat:=if 0<=i then (if i<n then some i.toNat else none)else if -(n:Int)<=i then some (i+n).toNat else none
noncomputable def bK{α:Type}(xs:List α)(i:Int):Option α:=(dj xs.length i).bind λj=>xs[j]?
theorem yg{n:Nat}{i:Int}{j:Nat}(h:dj n i=some j):seqIndex? i n=some j/\j<n/\-(n:Int)<=i/\i<n:=by
 unfold dj at h;by_cases h0:0<=i
 .rw[if_pos h0]at h;by_cases h1:i<n
  .rw[if_pos h1]at h;have e:i.toNat=j:=Option.some.inj h;exact⟨by rw[seqIndex_of h0 h1,e],by omega,by omega,h1⟩
  .rw[if_neg h1]at h;cases h
 .rw[if_neg h0]at h;by_cases h1:-(n:Int)<=i
  .rw[if_pos h1]at h;have e:(i+n).toNat=j:=Option.some.inj h;exact⟨by rw[seqIndex_neg (by omega) h1,e],by omega,h1,by omega⟩
  .rw[if_neg h1]at h;cases h
theorem sF{α:Type}{xs:List α}{i:Int}{v:α}(h:bK xs i=some v):∃j,seqIndex? i xs.length=some j/\xs[j]?=some v/\j<xs.length/\-(xs.length:Int)<=i/\i<xs.length:=by
 unfold bK at h;cases e:dj xs.length i with
 |none=>rw[e]at h;cases h
 |some j=>
  rw[e]at h;obtain⟨h1,h2,h3,h4⟩:=yg e;exact⟨j,h1,h,h2,h3,h4⟩
theorem sG{α:Type}{xs:List α}{j:Nat}{v:α}(h:xs[j]?=some v):bK xs (j:Int)=some v:=by
 have hj:j<xs.length:=(List.getElem?_eq_some_iff.mp h).1;have e:dj xs.length (j:Int)=some j:=by
  unfold dj;rw[if_pos (by omega),if_pos (by omega)];simp
 unfold bK;rw[e];exact h
noncomputable def yh(b:Expr):Prop:=∀o i,subscripted b false o i=operate [o,i] (getItem o i)
noncomputable def yi(X:Cx)(r:R2):Prop:=
 ∀(value slice:Expr) (pins:List (Addr×Obj)) (s:Shared) (σ:St) (H:Hp) (x y:V) (v u:Value) (Q:VK),Inv X pins σ H s->RelV x v->RelV y u->r x y H Q->
  subscripted slice false v u=operate [v,u] (getItem v u)->wpAny (model X.prog X.w) X.A (subscriptTail value slice v u) (EP X pins σ Q) X.xe s
noncomputable def t7(X:Cx)(id:String)(r:V->List V->Hp->VK->Prop):Prop:=
 ∀(pins:List (Addr×Obj)) (s:Shared) (σ:St) (H:Hp) (x:V) (xs:List V) (v:Value) (us:List Value) (Q:VK),Inv X pins σ H s->RelV x v->Vals xs us->r x xs H Q->
  wpAny (model X.prog X.w) X.A (call (.builtin id) (v :: us)) (EP X pins σ Q) X.xe s
section
variable{X:Cx}{a b:Expr}{ta tb:TE}{pos:Pos}
theorem Pz{r:R2}(hr:yi X r)(ha:PE X a ta)(hb:PE X b tb)(hs:yh b):PE X (.Subscript a b pos) (Bt r ta tb):=by
 intro pins s σ H Q I h;exact Subscript_ (DN ha hb I h λv u s2 x y H2 I2 rx ry q=>hr a b pins s2 σ H2 x y v u Q I2 rx ry q (hs _ _))
noncomputable def T5(K:PySem.W.Frag):R2:=λx y H Q=>∃p xs i v,x=.ref p/\y=.int i/\ef K H p xs/\bK xs i=some v/\Q v H
noncomputable def T6(K:PySem.W.Frag):R2:=λx y H Q=>∃p xs i v,x=.ref p/\y=.int i/\dR K H p xs/\bK xs i=some v/\Q v H
noncomputable def T7:R2:=λx y H Q=>∃z i c,x=.str z/\y=.int i/\z.length<=sizeLine/\bK z.cps.toList i=some c/\Q (.str ⟨#[c]⟩) H
theorem Ie:yi X (T5 X.K):=by
 intro value slice pins s σ H x y v u Q I rx ry h hs;obtain⟨p,xs,i,z,rfl,rfl,hq,he,q⟩:=h;cases rx;obtain⟨t,rfl⟩:=ry;obtain⟨its,r,pl,hz⟩:=I.list hq;obtain⟨j,h1,h2,h3,h4,h5⟩:=sF he;obtain⟨w,ew,rw'⟩:=r.get h2;have hl:=r.length;have hn:=j7;have fin:EP X pins σ Q w s:=⟨z,H,I,rw',q⟩
 by_cases h0:0<=i
 .have hj:i.toNat=j:=by
   rw[seqIndex_of h0 h5]at h1;exact Option.some.inj h1
  exact item_listR pl.isList h0 (by omega) (by rw[hj];simpa using ew) fin hs
 .have hj:(i+(its.toArray.size:Int)).toNat=j:=by
   rw[seqIndex_neg (by omega) h4]at h1;rw[List.size_toArray,<-hl];exact Option.some.inj h1
  exact subscriptTail_builtinR (x:=w) pl.isList.typeIs slot_list_getitem.lookup
   (wpAny_getItem_list_neg (Q:=λr s'=>r=w/\EP X pins σ Q r s') pl.isList (by omega) (by rw[List.size_toArray]<;>omega) (by omega) (by rw[hj];simpa using ew) ⟨rfl,fin⟩) hs
theorem Le:yi X (T6 X.K):=by
 intro value slice pins s σ H x y v u Q I rx ry h hs;obtain⟨p,xs,i,z,rfl,rfl,hq,he,q⟩:=h;cases rx;obtain⟨t,rfl⟩:=ry;obtain⟨its,r,pl,hz⟩:=I.tuple hq;obtain⟨j,h1,h2,h3,h4,h5⟩:=sF he;obtain⟨w,ew,rw'⟩:=r.get h2;have hl:=r.length;have hn:=j7;have fin:EP X pins σ Q w s:=⟨z,H,I,rw',q⟩
 exact subscriptTail_builtinR (x:=w) pl.typeIs slot_tuple_getitem.lookup
  (getItem_tuple (j:=j) (Q:=λr s'=>r=w/\EP X pins σ Q r s') pl (by omega) (by omega) (by rw[List.size_toArray,<-hl];exact h1) (by simpa using ew) ⟨rfl,fin⟩) hs
theorem Lf:yi X T7:=by
 intro value slice pins s σ H x y v u Q I rx ry h hs;obtain⟨z,i,c,rfl,rfl,hz,he,q⟩:=h;obtain⟨t,rfl⟩:=rx;obtain⟨t',rfl⟩:=ry;obtain⟨j,h1,h2,h3,h4,h5⟩:=sF he;have hl:z.cps.toList.length=z.length:=by simp[Str.length]
 rw[hl]at h1 h4 h5;have hn:=j7;exact tail_any (typeIs_str s z t) slot_str_getitem.lookup (getItem_str (c:=c) (by
  have e1:decide (i < -(2 ^ 63:Int))=false:=decide_eq_false (by omega);have e2:decide (i≥2 ^ 63)=false:=decide_eq_false (by omega);rw[e1,e2,Bool.or_false]) (by rw[h1];simpa using h2) ⟨.str ⟨#[c]⟩,H,I.tok _,⟨_,rfl⟩,q⟩) hs
theorem zV (its:List Value) (n j:Nat) (u:Value):Obj.mapSeq (·.setIfInBounds j u) { cls:=.type "list",data:=.seq its.toArray n }={ cls:=.type "list",data:=.seq (its.set j u).toArray n }:=by
 simp[Obj.mapSeq]
theorem Inv.lst{pins:List (Addr×Obj)}{σ:St}{H:Hp}{s:Shared}{p:Addr}{xs:List V}(I:Inv X pins σ H s)(h:H p=some (.lst xs)) :
  ∃(its:List Value) (n:Nat),Vals xs its/\s.heap.get? p=some { cls:=.type "list",data:=.seq its.toArray n }/\xs.length<=sizeLine:=by
 obtain⟨z,its,n,r,e⟩:=I.hok p _ h;exact⟨its,n,r,e,z⟩
theorem Inv.Lh{pins:List (Addr×Obj)}{σ:St}{H:Hp}{s:Shared}{p:Addr}{xs ys:List V}{its its':List Value}{n n':Nat}{f:Obj->Obj}(I:Inv X pins σ H s)(h:H p=some (.lst xs))
  (ho:s.heap.get? p=some { cls:=.type "list",data:=.seq its.toArray n }) (hf:f { cls:=.type "list",data:=.seq its.toArray n }={ cls:=.type "list",data:=.seq its'.toArray n' }) (r:Vals ys its') (hz:ys.length<=sizeLine) (t:Nat) :
  Inv X pins σ (upd H p (.lst ys)) { s with heap:=s.heap.update p f,toks:=t }:=by
 have e:(s.heap.update p f).get? p=some { cls:=.type "list",data:=.seq its'.toArray n' }:=by
  rw[Heap.get?_update_self f ho (by rw[hf]<;>rfl),hf]
 refine I.write (x:=p) (e:=p) (by rw[h];trivial) (.inl rfl) (λb u hb q=>(Heap.get?_update_other _ _ (Ne.symm hb)).trans q) ⟨_,e⟩ ?_;exact⟨hz,its',n',r,e⟩
noncomputable def PB:V->V->V->Hp->(Hp->Prop)->Prop:=λo i v H Q=>∃p xs k j,o=.ref p/\i=.int k/\H p=some (.lst xs)/\dj xs.length k=some j/\Q (upd H p (.lst (xs.set j v)))
theorem set_list:KL X PB:=by
 intro pins s σ H o i v ov iv u Q I ro ri rv h;obtain⟨p,xs,k,j,rfl,rfl,hp,hj,q⟩:=h;cases ro;obtain⟨t,rfl⟩:=ri;obtain⟨its,n,r,ho,hz⟩:=I.lst hp;obtain⟨h1,h2,h3,h4⟩:=yg hj;have hl:=r.length;have hn:=j7;have I':Inv X pins σ (upd H p (.lst (xs.set j v))) { s with heap:=s.heap.update p (Obj.mapSeq (·.setIfInBounds j u))}:=
  I.Lh hp ho (zV its n j u) (r.set rv j) (by rw[List.length_set];exact hz) s.toks
 by_cases h0:0<=k
 .have hk:k.toNat=j:=by
   rw[seqIndex_of h0 h4]at h1;exact Option.some.inj h1
  exact PySem.W.ki_setAt ho h0 (by omega) (by rw[List.size_toArray,<-hl];exact h4) (by rw[hk];exact⟨_,I',q⟩)
 .have hk:(k+(its.toArray.size:Int)).toNat=j:=by
   rw[seqIndex_neg (by omega) h3]at h1;rw[List.size_toArray,<-hl];exact Option.some.inj h1
  exact PySem.W.ki_setBack ho (by omega) (by rw[List.size_toArray,<-hl];exact h3) (by omega) (by rw[hk];exact⟨_,I',q⟩)
theorem vh(lo hi:Option Int)(n:Nat):(sliceBounds lo hi none n).1=((HT.aO n 0 lo:Nat):Int)/\(sliceBounds lo hi none n).2.1=((HT.aO n n hi:Nat):Int)/\(sliceBounds lo hi none n).2.2=1:=by
 refine⟨?_,?_,rfl⟩
 .cases lo with
  |none=>simp[sliceBounds,HT.aO]
  |some i=>
   simp only[sliceBounds,HT.aO,Option.getD_none,show(1:Int) > 0 by decide,if_true];by_cases h:i<0
   .simp only[h,if_true]<;>omega
   .simp only[h,if_false]<;>omega
 .cases hi with
  |none=>simp[sliceBounds,HT.aO]
  |some i=>
   simp only[sliceBounds,HT.aO,Option.getD_none,show(1:Int) > 0 by decide,if_true];by_cases h:i<0
   .simp only[h,if_true]<;>omega
   .simp only[h,if_false]<;>omega
theorem uI(its:List Value)(lo hi:Option Int):slicePick its.toArray lo hi none=((its.drop (HT.aO its.length 0 lo)).take (HT.aO its.length its.length hi - HT.aO its.length 0 lo)).toArray:=by
 obtain⟨h1,h2,h3⟩:=vh lo hi its.toArray.size;unfold slicePick;rw[h1,h2,h3];simp only[sliceRange_one,pick_run,List.size_toArray]<;>rfl
noncomputable def T8(K:PySem.W.Frag):V->Option Int->Option Int->Hp->VK->Prop:=λx lo hi H Q=>∃a xs,x=.ref a/\ef K H a xs/\∀p,H p=none->Q (.ref p) (upd H p (.lst (nu xs lo hi)))
theorem Ig:lS X (T8 X.K):=by
 intro pins s σ H x v vl vu lo hi sl Q I rx hs pl pu h;obtain⟨a,xs,rfl,hx,q⟩:=h;cases rx;obtain⟨its,r,ht,hz⟩:=I.list hx;have hlen:=r.length;refine⟨"list",_,slot_list_getitem.lookup,ht.isList.typeIs,?_⟩;refine wpAny_getItem_list_slice ht.isList hs pl pu .none (by simp) ?_ (by rw[List.size_toArray]<;>omega);rw[uI,<-hlen];refine⟨.ref s.heap.objs.size,_,I.laid (t':=s.toks) (o:=.lst (nu xs lo hi)) (λb ob q=>Heap.get?_push_of_some _ q) (Nat.le_refl _) ?_,rfl,q _ (I.hok.fresh (Nat.le_refl _))⟩;exact⟨Nat.le_trans (pG xs lo hi) hz,_,0,(r.drop (HT.aO xs.length 0 lo)).take (HT.aO xs.length xs.length hi - HT.aO xs.length 0 lo),Heap.get?_push_size _ rfl⟩
noncomputable def uO:V->Bool
 |.aL=>true
 |.bl _=>true
 |.int _=>true
 |.str _=>true
 |_=>false
theorem nv:fU X (.builtin "len") (λxs H Q=>∃p ys,xs=[.ref p]/\(ef X.K H p ys\/dR X.K H p ys)/\Q (.int ys.length) H):=by
 intro pins s σ H xs us Q I r h;obtain⟨p,ys,rfl,hq,q⟩:=h;obtain⟨u,rfl,rx⟩:=vals1 r;cases rx;have hn:=j7;rcases hq with hq|hq
 .obtain⟨its,r',pl,hz⟩:=I.list hq;have hlen:=r'.length;exact Calls.call_len_list pl.isList (by simp only[List.size_toArray]<;>omega) ⟨.int ys.length,H,I.tok _,⟨s.toks+1,by rw[List.size_toArray,hlen]⟩,q⟩
 .obtain⟨its,r',pl,hz⟩:=I.tuple hq;have hlen:=r'.length;exact len_tuple pl (by simp only[List.size_toArray]<;>omega) ⟨.int ys.length,H,I.tok _,⟨s.toks+1,by rw[List.size_toArray,hlen]⟩,q⟩
theorem vj:fU X (.builtin "len") (λxs H Q=>∃z,xs=[.str z]/\z.length<=sizeLine/\Q (.int z.length) H):=by
 intro pins s σ H xs us Q I r h;obtain⟨z,rfl,hz,q⟩:=h;obtain⟨u,rfl,t,rfl⟩:=vals1 r;have hn:=j7;exact len_str (by omega) ⟨.int z.length,H,I.tok _,⟨_,rfl⟩,q⟩
theorem ny:fU X (.type "list") (λxs H Q=>∃p ys,xs=[.ref p]/\(ef X.K H p ys\/dR X.K H p ys)/\∀l,H l=none->Q (.ref l) (upd H l (.lst ys))):=by
 intro pins s σ H xs us Q I r h;obtain⟨p,ys,rfl,hq,q⟩:=h;obtain⟨u,rfl,rx⟩:=vals1 r;cases rx;have fin:∀(its:List Value),Vals ys its->ys.length<=sizeLine->∀(h':Heap) (c':Nat),(∀b o',s.heap.get? b=some o'->h'.get? b=some o')->
   h'.get? s.heap.objs.size=some { cls:=.type "list",dict:=none,data:=.seq its.toArray c',slots:=#[]}->EP X pins σ Q (.ref s.heap.objs.size) { s with heap:=h' }:=λits r' hz h' c' kp e=>
  ⟨.ref s.heap.objs.size,_,I.laid (t':=s.toks) kp (Nat.le_refl _) (show dP X.prog X.w _ h' _ (.lst ys)from ⟨hz,its,c',r',e⟩),rfl,q _ (I.hok.fresh (Nat.le_refl _))⟩
 rcases hq with hq|hq
 .obtain⟨its,r',pl,hz⟩:=I.list hq;have hlen:=r'.length;obtain⟨o,ho,hc,n,hd⟩:=pl.isList;exact call_list_seq p (.inl rfl) ho hc hd (λh' c' kp e=>fin its r' hz h' c' kp e) (by simp only[List.size_toArray]<;>omega)
 .obtain⟨its,r',pl,hz⟩:=I.tuple hq;have hlen:=r'.length;obtain⟨o,ho,hc,n,hd⟩:=pl;exact call_list_seq p (.inr rfl) ho hc hd (λh' c' kp e=>fin its r' hz h' c' kp e) (by simp only[List.size_toArray]<;>omega)
theorem mT:fU X (.type "tuple") (λxs H Q=>∃p ys,xs=[.ref p]/\((ef X.K H p ys/\∀l,H l=none->Q (.ref l) (upd H l (.tup ys)))\/(dR X.K H p ys/\Q (.ref p) H))):=by
 intro pins s σ H xs us Q I r h;obtain⟨p,ys,rfl,h⟩:=h;obtain⟨u,rfl,rx⟩:=vals1 r;cases rx;rcases h with ⟨hq,q⟩|⟨hq,q⟩
 .obtain⟨its,r',pl,hz⟩:=I.list hq;have hlen:=r'.length;refine call_tuple_list pl.isList (λh' kp=>?_) (by simp only[List.size_toArray]<;>omega);have I1:Inv X pins σ H { s with heap:=h' }:=I.kept (t':=s.toks) kp;have I2:Inv X pins σ (upd H h'.objs.size (.tup ys)) { s with heap:=h'.push { cls:=.type "tuple",data:=.seq its.toArray }}:=
   I1.laid (t':=s.toks) (λb o e=>Heap.get?_push_of_some _ e) (Nat.le_refl _) (show dP X.prog X.w _ _ _ (.tup ys)from ⟨hz,its,r',IsTup.new _ _⟩)
  exact⟨.ref h'.objs.size,_,I2,rfl,q _ (I1.hok.fresh (Nat.le_refl _))⟩
 .obtain⟨its,r',pl,hz⟩:=I.tuple hq;exact call_tuple_same pl ⟨.ref p,H,I,rfl,q⟩
noncomputable def By(K:PySem.W.Frag)(T:String)(x:V)(H:Hp):Prop:=match x with
 |.str _=>T = "str"
 |.int _=>T = "int"
 |.ref p=>(T = "list" /\∃xs,ef K H p xs)\/(T = "tuple" /\∃o,K.lookup p=some o/\o.cls=.type "tuple" /\o.dict=none)\/
   (T = "dict" /\((∃kvs,H p=some (.dK kvs))\/∃kvs,H p=some (.dT kvs)))\/(T = "set" /\∃S n,H p=some (.set S n))
 |_=>False
theorem BA{pins:List (Addr×Obj)}{σ:St}{H:Hp}{s:Shared}{T:String}{x:V}{v:Value}(I:Inv X pins σ H s)(r:RelV x v)(ty:By X.K T x H) :
  s.TypeIs v T/\∀a,v=.ref a->∃ob,s.heap.get? a=some ob/\ob.dict=none:=by
 cases x with
 |str z=>
  obtain⟨t,rfl⟩:=r;cases (show T = "str" from ty);exact⟨typeIs_str s z t,λ_ e=>nomatch e⟩
 |int i=>
  obtain⟨t,rfl⟩:=r;cases (show T = "int" from ty);exact⟨typeIs_int s i t,λ_ e=>nomatch e⟩
 |ref p=>
  cases r;rcases ty with ⟨rfl,xs,hq⟩|⟨rfl,o,hk,hc,hd⟩|⟨rfl,hk⟩|⟨rfl,S,n,hk⟩
  .obtain⟨its,_,pl,_⟩:=I.list hq;refine⟨pl.isList.typeIs,λa e=>?_⟩;cases e;obtain⟨o,n,e,c,hd,_⟩:=pl;exact⟨o,e,hd⟩
  .refine⟨⟨o,I.fF p o hk,hc⟩,λa e=>?_⟩;cases e;exact⟨o,I.fF _ o hk,hd⟩
  .have z:∃o,s.heap.get? p=some o/\o.ExactDict:=by
    rcases hk with ⟨kvs,hk⟩|⟨kvs,hk⟩
    .obtain⟨_,_,_,_,o,_,_,e,ex,_⟩:=I.hok p _ hk;exact⟨o,e,ex⟩
    .obtain⟨_,_,_,_,o,_,_,e,ex,_⟩:=I.hok p _ hk;exact⟨o,e,ex⟩
   obtain⟨o,e,ex⟩:=z;refine⟨⟨o,e,ex.1⟩,λa e2=>?_⟩;cases e2;exact⟨o,e,ex.2.1⟩
  .obtain⟨o,_,_,_,e,ex,_⟩:=I.hok p _ hk;refine⟨⟨o,e,ex.1⟩,λa e2=>?_⟩;cases e2;exact⟨o,e,ex.2.1⟩
 |_=>exact False.elim ty
noncomputable def T9(K:PySem.W.Frag)(T:String)(r:V->List V->Hp->VK->Prop)(to:TE):TE:=λσ H Q=>to σ H λx H1=>By K T x H1/\r x [] H1 Q
noncomputable def VQ(K:PySem.W.Frag)(T:String)(r:V->List V->Hp->VK->Prop)(to:TE)(t:TA):TE:=λσ H Q=>to σ H λx H1=>By K T x H1/\t σ H1 λxs H2=>r x xs H2 Q
variable{o e:Expr}{es:List Expr}{to:TE}{t:TA}{name:Str}{apos cpos:Pos}{T id:String}{r:V->List V->Hp->VK->Prop}
theorem Li (pa:PlainAttrs T) (slot:Slot T name id) (hty:typeOf (.builtin id)=pure (.type "method_descriptor")) (hm:t7 X id r) (ho:PE X o to)
  (hbase:attributeBase o name X.env (eval o X.env)=eval o X.env:=by rfl) (hline:(apos.endLine==cpos.line)=true:=by rfl):PE X (.Call (.Attribute o name apos) [] [] cpos) (T9 X.K T r to):=by
 intro pins s σ H Q I h;refine wpAny_Call_method0_late hbase hline (bI (ho pins s σ H _ I h) λv s1 ⟨x,H1,I1,r1,ty,q1⟩=>?_);obtain⟨h1,h2⟩:=BA I1 r1 ty;exact⟨T,id,pa,slot,hty,h1,h2,Calls.callWith_builtin rfl (PySem.evalArgs_none (hm pins s1 σ H1 x [] v [] Q I1 r1 .nil q1))⟩
theorem Gp (pa:PlainAttrs T) (slot:Slot T name id) (hty:typeOf (.builtin id)=pure (.type "method_descriptor")) (hm:t7 X id r) (ho:PE X o to) (ha:PA X (e :: es) t)
  (hbase:attributeBase o name X.env (eval o X.env)=eval o X.env:=by rfl)
  (hfew:((backTo cpos (starEach (e :: es) X.env)).all (λx=>!x.1)&&(backToKw cpos (keywordEach [] X.env)).all (λx=>x.1.isSome)
   &&decide ((e :: es).length+([]:List Keyword).length+(if ([]:List Keyword).isEmpty then 0 else 1)<30))=true:=by rfl)
  (hline:(apos.endLine==cpos.line)=true:=by rfl) (hs:starEach (e :: es) X.env=(false,eval e X.env) :: starEach es X.env:=by rfl) (hplain:(backTo cpos (starEach es X.env)).any (·.1)=false:=by rfl) :
  PE X (.Call (.Attribute o name apos) (e :: es) [] cpos) (VQ X.K T r to t):=by
 intro pins s σ H Q I h;refine wpAny_Call_method_late hbase hfew hline rfl (bI (ho pins s σ H _ I h) λv s1 ⟨x,H1,I1,r1,ty,q1⟩=>?_);obtain⟨h1,h2⟩:=BA I1 r1 ty;refine⟨T,id,pa,slot,hty,h1,h2,?_⟩;have hA:=ha cpos pins s1 σ H1 _ I1 q1;rw[hs]at hA ⊢;refine Calls.callWith_builtin (by show(false || (backTo cpos (starEach es X.env)).any (·.1))=false;rw[hplain]<;>rfl) (Calls.evalArgs_plain ?_);exact bI hA λus s2 ⟨vs,H2,I2,r2,q2⟩=>hm pins s2 σ H2 x vs v us Q I2 r1 r2 q2
end
end L2
namespace L2
open PySem PySem.Spec PyProof.Rows
noncomputable def Lj(X:Cx)(id:String)(r:V->List V->Hp->VK->Prop):Prop:=
 ∀(pins:List (Addr×Obj)) (s:Shared) (σ:St) (H:Hp) (x:V) (xs:List V) (v:Value) (us:List Value) (Q:VK),Inv X pins σ H s->RelV x v->Vals xs us->r x xs H Q->
  wpAny (model X.prog X.w) X.A (call (.builtin id) (v :: us)) (EP X pins σ Q) X.xe s
theorem Vals.one:∀{x:V}{us:List Value},Vals [x] us->∃u,us=[u]/\RelV x u
 |_,_,.cons r .nil=>⟨_,rfl,r⟩
theorem Vals.zero:∀{us:List Value},Vals [] us->us=[]
 |_,.nil=>rfl
theorem Vals.dropLast{xs:List V}{us:List Value}(h:Vals xs us):Vals xs.dropLast us.dropLast:=by
 induction h with
 |nil=>exact .nil
 |cons r t ih=>
  cases t with
  |nil=>exact .nil
  |cons q t'=>exact .cons r ih
theorem Vals.reverse{xs:List V}{us:List Value}(h:Vals xs us):Vals xs.reverse us.reverse:=by
 induction h with
 |nil=>exact .nil
 |cons r t ih=>rw[List.reverse_cons,List.reverse_cons];exact Vals.append ih (.cons r .nil)
theorem Vals.rep{xs:List V}{us:List Value}(h:Vals xs us):∀k:Nat,Vals (List.replicate k xs).flatten (List.replicate k us).flatten
 |0=>.nil
 |k+1=>by
  rw[List.replicate_succ,List.replicate_succ,List.flatten_cons,List.flatten_cons];exact Vals.append h (Vals.rep h k)
theorem zW{α:Type}(l:List α):l.eraseIdx (l.length - 1)=l.dropLast:=by
 induction l with
 |nil=>rfl
 |cons a r ih=>
  cases r with
  |nil=>rfl
  |cons b r=>
   have e:(a :: b :: r).length - 1=((b :: r).length - 1)+1:=by
    have h1:(a :: b :: r).length=r.length+2:=rfl;have h2:(b :: r).length=r.length+1:=rfl;omega
   rw[e,List.eraseIdx_cons_succ,ih];all_goals rfl
theorem foldl_rep(its:List Value):∀(k:Nat) (acc:List Value),
  List.foldl (λx1 x2=>x1++x2) acc.toArray (List.replicate k its.toArray)=(acc++(List.replicate k its).flatten).toArray
 |0,acc=>by simp
 |k+1,acc=>by
  have e:acc.toArray++its.toArray=(acc++its).toArray:=by simp
  have e2:(acc++its)++(List.replicate k its).flatten=acc++(List.replicate (k+1) its).flatten:=by
   rw[List.replicate_succ,List.flatten_cons,List.append_assoc]
  rw[<-e2,<-foldl_rep its k (acc++its),<-e,List.replicate_succ,List.foldl_cons]
section
variable{X:Cx}{pins:List (Addr×Obj)}{σ:St}{H:Hp}{s:Shared}{l b:Addr}{xs ys zs:List V}
theorem Inv.DU{its its':List Value}{n:Nat}{f:Array Value->Array Value}{t':Nat}(I:Inv X pins σ H s)(hH:H l=some (.lst xs))
  (e:s.heap.get? l=some { cls:=.type "list",data:=.seq its.toArray n }) (hf:f its.toArray=its'.toArray) (hv:Vals ys its') (hz:ys.length<=sizeLine) :
  Inv X pins σ (upd H l (.lst ys)) { s with heap:=s.heap.update l (Obj.mapSeq f),toks:=t' }:=by
 have q:=PySem.IsL.update e f;rw[hf]at q;refine I.write (x:=l) (e:=l) (by rw[hH];exact trivial) (.inl rfl) (λb' u hb hu=>(Heap.get?_update_other s.heap (Obj.mapSeq f) (Ne.symm hb)).trans hu) ⟨_,q⟩ ?_;exact⟨hz,its',_,hv,q⟩
theorem Inv.DV{its:List Value}{t':Nat}(I:Inv X pins σ H s)(hv:Vals ys its)(hz:ys.length<=sizeLine) :
  Inv X pins σ (upd H s.heap.objs.size (.lst ys)) { s with heap:=s.heap.push { cls:=.type "list",data:=.seq its.toArray },toks:=t' }:=
 I.laid (λ_ _ q=>Heap.get?_push_of_some _ q) (Nat.le_refl _) ⟨hz,its,0,hv,Heap.get?_push_size _ rfl⟩
theorem Inv.fresh(I:Inv X pins σ H s):H s.heap.objs.size=none:=I.hok.fresh (Nat.le_refl _)
theorem Inv.mD (I:Inv X pins σ H s) (hH:H l=some (.lst xs)):xs.length<=sizeLine/\∃(its:List Value) (n:Nat),Vals xs its/\xs.length=its.length/\s.heap.get? l=some { cls:=.type "list",data:=.seq its.toArray n }:=by
 obtain⟨z,its,n,r,e⟩:=I.hok l _ hH;exact⟨z,its,n,r,r.length,e⟩
theorem vm{n:Nat}(h:n<=sizeLine):Builtin.List.listTooLong n=false:=by
 unfold Builtin.List.listTooLong;exact decide_eq_false (by omega)
end
section
variable{X:Cx}
noncomputable def Ih:V->List V->Hp->VK->Prop:=λx vs H Q=>∃l xs y,x=.ref l/\vs=[y]/\H l=some (.lst xs)/\xs.length<sizeLine/\Q .aL (upd H l (.lst (xs++[y])))
theorem t9:Lj X "list.append" Ih:=by
 intro pins s σ H x vs v us Q I rx rv h;obtain⟨l,xs,y,rfl,rfl,hH,hz,q⟩:=h;cases rx;obtain⟨u,rfl,ru⟩:=rv.one;obtain⟨z,its,n,r,hl,e⟩:=I.mD hH;refine call_meets F.slot_list_append ⟨_,e,rfl⟩ F.entry_list_append (F.args_list_append_2 _ _) (PySem.list_append l its.toArray n u (by rw[List.size_toArray];omega)) ⟨e,?_⟩;refine⟨.aL,_,I.DU (its':=its++[u]) hH e (by simp) (r.append (.cons ru .nil)) ?_,rfl,q⟩;rw[List.length_append,List.length_singleton];omega
noncomputable def Ii:V->List V->Hp->VK->Prop:=λx vs H Q=>∃l b xs zs,x=.ref l/\vs=[.ref b]/\H l=some (.lst xs)/\H b=some (.lst zs)/\xs.length+zs.length<=sizeLine/\Q .aL (upd H l (.lst (xs++zs)))
theorem BB:Lj X "list.extend" Ii:=by
 intro pins s σ H x vs v us Q I rx rv h;obtain⟨l,b,xs,zs,rfl,rfl,hH,hB,hz,q⟩:=h;cases rx;obtain⟨u,rfl,ru⟩:=rv.one;cases ru;obtain⟨z,its,n,r,hl,e⟩:=I.mD hH;obtain⟨z2,its2,n2,r2,hl2,e2⟩:=I.mD hB;have hsz:its.toArray.size+its2.toArray.size<=sizeLine:=by rw[List.size_toArray,List.size_toArray];omega
 have zX:¬ (!its.toArray.isEmpty&&Builtin.List.listTooLong (its.toArray.size+its2.toArray.size))=true:=by
  rw[vm hsz,Bool.and_false];exact Bool.false_ne_true
 refine call_meets F.slot_list_extend ⟨_,e,rfl⟩ F.entry_list_extend (F.args_list_extend_2 _ _)
  (AutoSeq1.list_extend_list_list_0 l its.toArray n b its2.toArray n2 zX (by rw[List.size_toArray];omega) (by omega)) ⟨e,e2,?_⟩
 refine⟨.aL,_,I.DU (its':=its++its2) hH e (by simp) (r.append r2) ?_,rfl,q⟩;rw[List.length_append];omega
noncomputable def Ua:V->List V->Hp->VK->Prop:=λx vs H Q=>∃l xs y,x=.ref l/\vs=[]/\H l=some (.lst xs)/\xs[xs.length - 1]?=some y/\Q y (upd H l (.lst xs.dropLast))
theorem Lk:Lj X "list.pop" Ua:=by
 intro pins s σ H x vs v us Q I rx rv h;obtain⟨l,xs,y,rfl,rfl,hH,hy,q⟩:=h;cases rx;have VR:=rv.zero;subst VR;obtain⟨z,its,n,r,hl,e⟩:=I.mD hH;obtain⟨u,hu,ru⟩:=r.get hy;have hy':its.toArray[its.toArray.size - 1]?=some u:=by
  show its.toArray[its.length - 1]?=some u;rw[<-Array.getElem?_toList,<-hl];exact hu
 refine call_meets F.slot_list_pop ⟨_,e,rfl⟩ F.entry_list_pop (F.args_list_pop_1 _) (MeetsSeq.list_pop_last l its.toArray n u hy' (by rw[List.size_toArray];omega)) ⟨e,?_⟩;refine⟨y,_,I.DU (its':=its.dropLast) hH e ?_ r.dropLast ?_,ru,q⟩
 .show its.toArray.eraseIdxIfInBounds (its.toArray.size - 1)=its.dropLast.toArray;rw[List.size_toArray,List.eraseIdxIfInBounds_toArray,zW]
 .rw[List.length_dropLast];omega
noncomputable def Ub:R2:=λx y H Q=>∃l b xs zs,x=.ref l/\y=.ref b/\H l=some (.lst xs)/\H b=some (.lst zs)/\xs.length+zs.length<=sizeLine/\∀p,H p=none->Q (.ref p) (upd H p (.lst (xs++zs)))
theorem BC:dN X (binaryOp .Add) Ub:=by
 intro pins s σ H x y v u Q I rx ry h;obtain⟨l,b,xs,zs,rfl,rfl,hH,hB,hz,q⟩:=h;cases rx;cases ry;obtain⟨z,its,n,r,hl,e⟩:=I.mD hH;obtain⟨z2,its2,n2,r2,hl2,e2⟩:=I.mD hB;refine PySem.P.add_list e e2 ?_ (by rw[List.size_toArray,List.size_toArray];omega);have ea:its.toArray++its2.toArray=(its++its2).toArray:=by simp
 rw[ea];exact⟨.ref _,_,I.DV (t':=s.toks) (r.append r2) (by rw[List.length_append];omega),rfl,q _ I.fresh⟩
noncomputable def Uc:R2:=λx y H Q=>∃l k xs,x=.ref l/\y=.int k/\H l=some (.lst xs)/\-(2 ^ 63)<=k/\k<2 ^ 63/\xs.length*k.toNat<=sizeLine/\
 ∀p,H p=none->Q (.ref p) (upd H p (.lst (List.replicate k.toNat xs).flatten))
theorem len_rep{α:Type}(xs:List α)(k:Nat):(List.replicate k xs).flatten.length=k*xs.length:=by
 induction k with
 |zero=>simp
 |succ k ih=>rw[List.replicate_succ,List.flatten_cons,List.length_append,ih,Nat.succ_mul,Nat.add_comm]
theorem Ll:dN X (binaryOp .Mult) Uc:=by
 intro pins s σ H x y v u Q I rx ry h;obtain⟨l,k,xs,rfl,rfl,hH,h1,h2,hz,q⟩:=h;cases rx;obtain⟨t,rfl⟩:=ry;obtain⟨z,its,n,r,hl,e⟩:=I.mD hH;have hlen:its.toArray.size*k.toNat<=sizeLine:=by rw[List.size_toArray,<-hl];exact hz
 have hcap:¬ its.toArray.size*k.toNat > (2 ^ 63 - 1) / 8:=by
  have:(sizeLine:Nat)<=(2 ^ 63 - 1) / 8:=by decide
  omega
 have hfit:¬ (!Builtin.List.listFitsIndex k)=true:=by
  rw[fitsIndex_both h1 h2];exact Bool.false_ne_true
 have zX:¬ Builtin.List.listTooLong (its.toArray.size*k.toNat)=true:=by
  rw[vm hlen];exact Bool.false_ne_true
 have hnew:List.foldl (λx1 x2=>x1++x2) #[] (List.replicate (if its.toArray.isEmpty=true then 0 else k.toNat) its.toArray)=(List.replicate k.toNat its).flatten.toArray:=by
  have f0:∀m:Nat,List.foldl (λx1 x2=>x1++x2) #[] (List.replicate m its.toArray)=(List.replicate m its).flatten.toArray:=λm=>by
   have:=foldl_rep its m [];rw[List.nil_append]at this;exact this
  rw[f0];cases its with
  |nil=>simp
  |cons a r'=>rw[if_neg (by simp)]
 refine wpAny_binaryOp_repeat_ref (T:="list") (U:="int") (by decide) ⟨_,e,rfl⟩ (λs'=>typeIs_int s' k t) noFill_list_mul F.fills_int_mul F.slot_int_rmul repeat_list F.slot_int_index.lookup
  (call_meets F.slot_int_rmul (typeIs_int s k t) F.entry_int_rmul (F.args_int_rmul_2 _ _) (int___rmul___int_list k t l its.toArray n)
   ⟨e,rfl,⟨_,e,rfl⟩,call_meets F.slot_list_mul ⟨_,e,rfl⟩ F.entry_list_mul (F.args_list_mul_2 _ _) (AutoListH.list___mul___list_int_3 l its.toArray n k t hfit hcap zX) ⟨e,?_⟩⟩)
 rw[hnew];exact⟨.ref _,_,I.DV (t':=s.toks) (r.rep k.toNat) (by rw[len_rep,Nat.mul_comm];exact hz),rfl,q _ I.fresh⟩
end
section
variable{prog:Program}{w:World}{A:Around}{E:Value->Shared->Prop}{s:Shared}
end
section
variable{X:Cx}
end
end L2
namespace RY
open PySem PySem.W PySem.Calls PyProof.Rows
theorem qI{P:Params}{h:Heap}:∀(ns:List Int) (vs:List Value),WellAll P h vs (ns.map WData.int)->IntsAre vs ns:=by
 intro ns;induction ns with
 |nil=>
  intro vs w;rw[List.map_nil]at w;cases w;exact .nil
 |cons n ns ih=>
  intro vs w;rw[List.map_cons]at w;cases w with
  |cons a b=>
   cases a;exact .cons _ _ (ih _ b)
theorem BD{l:OpenLaw}{n:Nat}(hn:l.most=some n){P:Params}{h:Heap}{args:List WData}{vals:List Value}
  (hpre:l.row.toRowW.claim.pre args=true) (hwl:WellAll P h vals args) :
  ∃a vs ns,vals=[Value.ref a]/\args=[WData.list (ns.map WData.int)]/\h.get? a=some { cls:=.type "list",data:=.seq vs.toArray }/\IntsAre vs ns/\ns.length<=n:=by
 have hsh:WShape.hasAll [] args [.list .int]=true:=(pre_splitW hpre).1;have hc:l.pre.holds [] { args:=args }=true:=(pre_splitW hpre).2;obtain⟨d,r,rfl,h1,h2⟩:=hasAllW_cons hsh;obtain rfl:=hasAllW_nil h2;obtain⟨xs,rfl,h3⟩:=hasW_list h1;obtain⟨ns,rfl⟩:=items_int h3;have hlen:ns.length<=n:=by
  unfold OpenLaw.pre at hc;have h4:(WTm.not (.lt (.lit (.int (n:Int))) (.len (.arg 0)))).holds [] { args:=[.list (ns.map .int)]}=true:=by
   have h4:=(holds_andW hc).1;rw[hn]at h4;exact h4
  have h5:=condW_of h4 (w_not (w_lt w_lit (w_len_list (w_arg rfl))));rw[List.length_map]at h5;refine Nat.le_of_not_lt λq=>?_;have q':(n:Int)<((ns.length:Nat):Int):=by omega
  first
   | (rw[decide_eq_true q']at h5;exact absurd h5 (by decide))
   | (simp at h5;omega)
 cases hwl with
 |cons w1 w2=>
  cases w2;cases w1 with
  |list ho hall=>exact⟨_,_,ns,rfl,rfl,ho,qI ns _ hall,hlen⟩
theorem BE(l:OpenLaw)(args:List WData):l.row.toRowW.claim.post args (.bool true) args=true:=
 postW_of (r:=l.row.toRowW) (X:=(true==true))
  (show WShape.has [] (.bool true) .bool=true by first|rfl|decide|simp[WShape.has,WShape.arms,WShape.armsAll])
  (show(WTm.eq .res (.lit (.bool true))).value [] { args:=args,res:=some (.bool true),after:=args }=some (.bool (true==true))from w_eq_bool (w_res rfl) w_lit) rfl
theorem xG{l:OpenLaw}{n:Nat}{q:Program}{loose:List Str}{XP:(Str->Option Value)->Heap->Prop}{YP:World->Heap->Prop}{d:DefRec}
  (hn:l.most=some n) (hdf:d.params.defaults=[])
  (call:∀(w:World) (s₀ s₁:Shared) (mg mb:Str->Option Value) (fa:Addr) (o:Obj) (pm cd doc:Value) (a:Addr) (vs:List Value) (ns:List Int),
   Ground q loose [] XP w s₀ mg mb s₁.heap->YP w s₁.heap->
   s₁.heap.get? fa=some o->o.data=.func (docDef d.name d.params d.body d.scope pm cd doc)->s₁.heap.CodeRec cd d.name->mg d.name=some (.ref fa)->
   s₁.heap.get? a=some { cls:=.type "list",data:=.seq vs.toArray }->IntsAre vs ns->ns.length<=n->s₁.gens = #[]->
   codeAny (model l.prog w) callerA (.call (.ref fa) ⟨[.ref a],[]⟩) (λr s'=>r=.ok (.ret (.bool true))/\OldK s₁.heap s'.heap/\s'.os=s₁.os/\AllBare s'.gens) s₁) :
  WalkO q loose XP YP l.row.toRowW d [] (λf vs=>PySem.call f vs):=by
 intro w s₀ s₁ mg mb G Y fa o pm cd doc dV kV ho hd hcd hD hmg hg args vals as hpre hlay hrd hwl hlo;obtain rfl:dV=.none:=Dflts.none hD hdf;obtain rfl:kV=.none:=Dflts.noKw hD;obtain⟨a,vs,ns,rfl,rfl,hobj,hints,hlen⟩:=BD hn hpre hwl;refine enter_call (codeAny_mono (call w s₀ s₁ mg mb fa o pm cd doc a vs ns G Y ho (fd_plain hd) hcd hmg hobj hints hlen hg) λr s' hq=>?_);obtain⟨rfl,h2,h3,h4⟩:=hq;exact⟨.inl ⟨.bool true,.bool true,[],rfl,λ_=>rfl,.bool true,BE l _,λ_=>⟨List.Pairwise.nil,λ_ hm=>(nomatch hm)⟩⟩,h2,h3,h4⟩
section
variable{prog:Program}{w:World}{A:Around}{E:Value->Shared->Prop}{s:Shared}{K:Frag}
end
end RY
namespace L2
open PySem PySem.Spec PyProof.Rows
theorem ua:∀{vs:List Value}{ns:List Int},IntsAre vs ns->Vals (ns.map V.int) vs
 |_,_,.nil=>.nil
 |_,_,.cons n t h=>.cons ⟨t,rfl⟩ (ua h)
noncomputable def sH(H:Hp):Prop:=∀b,H b=none\/∃o xs,H b=some (.bP o (.lst xs))
theorem DW{P:Program}{w:World}{K:PySem.W.Frag}{mg mb:Str->Option Value}{CX:lR}{k:Nat}{fa a:Addr}{fd:FuncData}{x:Str}{sp:Sp}{s₁:Shared}{vs:List Value}{ns:List Int}
  (KX:K.In s₁.heap) (hns:s₁.heap.Ns mainGlobals mg) (hb:s₁.heap.Ns builtinsNs mb) (Lm:∀x:Str,x≠"__name__" ->mb x=bootBuiltins x) (hlim:s₁.heap.NoLimit) (hg:s₁.gens = #[])
  (ha:s₁.heap.get? a=some { cls:=.type "list",data:=.seq vs.toArray }) (hi:IntsAre vs ns) (hl:ns.length<=sizeLine) (hr:gU k callerA)
  (F:∀base:Heap,K.In base->base.Ns mainGlobals mg->fJ P w K mg base CX k fa fd [x] sp) (hbind:∀(s:Shared) (u:Value),BindsTo s fd ⟨[u],[]⟩ [(x,u)])
  (iV:∀H:Hp,sH H->ef K H a (ns.map V.int)->sp [.ref a] H (λv _=>v=.bl true) λ_ _ _=>False)
  (BF:∀H e s',CX [] H s₁ (λ_ _ _=>False) e s'->False) :
  codeAny (model P w) callerA (.call (.ref fa) ⟨[.ref a],[]⟩) (λr s'=>r=.ok (.ret (.bool true))/\OldK s₁.heap s'.heap/\s'.os=s₁.os/\AllBare s'.gens) s₁:=by
 have rv:=ua hi;have Ud:=hi.length;have core:∀H:Hp,sH H->ef K H a (ns.map V.int)->fh P w H s₁.heap->(∀b,H b≠none->b=a)->(H a≠none->K.lookup a=none)->
   codeAny (model P w) callerA (.call (.ref fa) ⟨[.ref a],[]⟩) (λr s'=>r=.ok (.ret (.bool true))/\OldK s₁.heap s'.heap/\s'.os=s₁.os/\AllBare s'.gens) s₁:=by
  intro H hO hS hok hA hK;have yj:∀{b:Addr} {o:Obj},s₁.heap.get? b=some o->H b=none->(mq s₁.heap H).get? b=some o:=λe n=>DH e n;have Bx:∀{b:Addr} {o:Obj} {es:Array DictEntry} {ep:Nat},s₁.heap.get? b=some o->o.data=.dict es ep->H b=none:=λ{b o es ep} e d=>by
   cases q:H b with
   |none=>rfl
   |some u=>
    have e':b=a:=hA b (by rw[q];simp);subst e';rw[ha]at e;cases e;have d':Data.seq vs.toArray _=Data.dict es ep:=d;cases d'
  have Gq:∀{b:Addr} {m:Str->Option Value},s₁.heap.Ns b m->(mq s₁.heap H).Ns b m:=λ{b m} ⟨o,es,ep,e,d,r⟩=>⟨o,es,ep,yj e (Bx e d),d,r⟩
  have RZ:K.In (mq s₁.heap H):=λb o e=>yj (KX b o e) (by
   cases q:H b with
   |none=>rfl
   |some u=>
    have e':b=a:=hA b (by rw[q];simp);subst e';rw[hK (by rw[q];simp)]at e;cases e)
  have hM:Mod K mg (mq s₁.heap H):=⟨RZ,Gq hns,⟨mb,Gq hb,Lm⟩,let ⟨mc,h1,h2⟩:=hlim;⟨mc,Gq h1,h2⟩⟩
  have e0:sC P w K mg (mq s₁.heap H) callerA [] s₁ H:=⟨rfl,hM,λb o e=>HJ e,Nat.le_of_eq (Bb _ _),trivial,λb hb=>absurd (show b∈([]:List Addr)from hb) (by simp),hok,.of_eq hg⟩
  refine codeAny_mono ((F _ RZ (Gq hns)).run callerA [] s₁ H ⟨[.ref a],[]⟩ [.ref a] [.ref a] _ _ hr e0 (hbind s₁ (.ref a)) (.cons rfl .nil) (iV H hO hS)) λr s' h=>?_;cases r with
  |error e=>exact(BF H e s' h).elim
  |ok fl=>
   cases fl with
   |next=>exact False.elim h
   |brk=>exact False.elim h
   |cont=>exact False.elim h
   |ret u=>
    obtain⟨v,H',os,bare,un,Ue,r',q⟩:=h;have q':v=.bl true:=q;subst q';obtain rfl:u=Value.bool true:=r';refine⟨rfl,OldK.of_keep λb o e=>?_,os,bare⟩;cases q:H b with
    |none=>exact un.keep b o e q (by intro z;exact absurd (show b∈([]:List Addr)from z) (by simp)) (by simp)
    |some u=>
     rcases hO b with z|⟨ob,xs,z⟩
     .rw[q]at z;cases z
     .have z2:=un.j6 b ob _ z;obtain⟨e1,_⟩:=hok b _ z;obtain⟨e2,_⟩:=Ue b _ z2;rw[e]at e1;cases e1;exact e2
 cases hk:K.lookup a with
 |some o=>
  have e:=KX a o hk;rw[ha]at e;cases e;refine core (λ_=>none) (λ_=>.inl rfl) (.inr ⟨_,vs.toArray,_,hk,rfl,rfl,rfl,by rw[List.size_toArray,Ud];exact hl,by simpa using rv⟩) (λb u z=>by have z':(none:Option HO)=some u:=z;cases z') (λb z=>absurd rfl z) λz=>absurd rfl z
 |none=>
  refine core (λb=>if b=a then some (.bP { cls:=.type "list",data:=.seq vs.toArray } (.lst (ns.map V.int)))else none) (λb=>?_) (.inl (.inr ⟨{ cls:=.type "list",data:=.seq vs.toArray },if_pos rfl⟩)) (λb u z=>?_) (λb z=>?_) λ_=>hk
  .by_cases hb:b=a
   .exact .inr ⟨_,_,if_pos hb⟩
   .exact .inl (if_neg hb)
  .by_cases hb:b=a
   .have z':=(if_pos hb).symm.trans z;cases z';subst hb;exact⟨ha,by rw[List.length_map];exact hl,vs,_,rv,ha⟩
   .have z':=(if_neg hb).symm.trans z;cases z'
  .by_cases hb:b=a
   .exact hb
   .exact absurd (if_neg hb) z
end L2
namespace L2
open PySem PySem.Spec PyProof.Rows
theorem Ij{l:PySem.W.OpenLaw}{n k:Nat}{q:Program}{loose:List Str}{XP:(Str->Option Value)->Heap->Prop}{YP:World->Heap->Prop}{d:DefRec}{K:Params->PySem.W.Frag}{CX:World->lR}{sp:World->Sp}{x:Str}
  (hn:l.most=some n) (hn2:n<=sizeLine) (hdf:d.params.defaults=[]) (hr:gU k callerA)
  (hY:∀(w:World) (h:Heap),YP w h->(K w.params).In h)
  (F:∀(w:World) (mg:Str->Option Value) (fa:Addr) (h:Heap),(K w.params).In h->h.Ns mainGlobals mg->mg d.name=some (.ref fa)->
   ∃fd:FuncData,(∀(s:Shared) (u:Value),BindsTo s fd ⟨[u],[]⟩ [(x,u)])/\
    ∀base:Heap,(K w.params).In base->base.Ns mainGlobals mg->fJ l.prog w (K w.params) mg base (CX w) k fa fd [x] (sp w))
  (iV:∀(w:World) (H:Hp) (a:Addr) (ns:List Int),ns.length<=n->sH H->ef (K w.params) H a (ns.map V.int)->sp w [.ref a] H (λv _=>v=.bl true) λ_ _ _=>False)
  (BF:∀(w:World) (H:Hp) (s:Shared) (e:Value) (s':Shared),CX w [] H s (λ_ _ _=>False) e s'->False) :
  PySem.W.WalkO q loose XP YP l.row.toRowW d [] (λf vs=>PySem.call f vs):=by
 refine RY.xG hn hdf λw s₀ s₁ mg mb fa o pm cd doc a vs ns G Y ho hd hcd hmg hobj hints hlen hg=>?_;have KX:=hY w _ Y;obtain⟨fd,hb,hF⟩:=F w mg fa _ KX G.T.g hmg;exact DW KX G.T.g G.T.b G.T.builtins G.T.nolimit hg hobj hints (Nat.le_trans hlen hn2) hr hF hb (λH hO hS=>iV w H a ns hlen hO hS) λH e s'=>BF w H s₁ e s'
theorem DX{l:PySem.W.OpenLaw}{n k:Nat}{q:Program}{loose:List Str}{XP:(Str->Option Value)->Heap->Prop}{YP:World->Heap->Prop}{d:DefRec}{K:Params->PySem.W.Frag}{CX:lR}{sp:PySem.W.Frag->Sp}{x:Str}
  (hn:l.most=some n) (hn2:n<=sizeLine) (hdf:d.params.defaults=[]) (hr:gU k callerA)
  (hY:∀(w:World) (h:Heap),YP w h->(K w.params).In h)
  (F:∀(w:World) (mg:Str->Option Value) (fa:Addr) (h:Heap),(K w.params).In h->h.Ns mainGlobals mg->mg d.name=some (.ref fa)->
   ∃fd:FuncData,(∀(s:Shared) (u:Value),BindsTo s fd ⟨[u],[]⟩ [(x,u)])/\
    ∀base:Heap,(K w.params).In base->base.Ns mainGlobals mg->fJ l.prog w (K w.params) mg base CX k fa fd [x] (sp (K w.params)))
  (iV:∀(K:PySem.W.Frag) (H:Hp) (a:Addr) (ns:List Int),ns.length<=n->sH H->ef K H a (ns.map V.int)->sp K [.ref a] H (λv _=>v=.bl true) λ_ _ _=>False)
  (BF:∀(H:Hp) (s:Shared) (e:Value) (s':Shared),CX [] H s (λ_ _ _=>False) e s'->False) :
  PySem.W.WalkO q loose XP YP l.row.toRowW d [] (λf vs=>PySem.call f vs):=
 Ij (K:=K) (CX:=λ_=>CX) (sp:=λw=>sp (K w.params)) hn hn2 hdf hr hY F (λw H a ns h1 h2 h3=>iV (K w.params) H a ns h1 h2 h3) λ_ H s e s'=>BF H s e s'
end L2
namespace L2
open PySem PySem.Spec PyProof.Rows
noncomputable def oH(s:Stmt):Arguments:=match s with
 |.FunctionDef _ a _ _ _ _ _ _ _ _=>a
 |_=>{ posonlyargs:=[],args:=[],vararg:=none,kwonlyargs:=[],kw_defaults:=[],kwarg:=none,defaults:=[]}
noncomputable def dD(s:Stmt):List Stmt:=match s with
 |.FunctionDef _ _ b _ _ _ _ _ _ _=>b
 |_=>[]
noncomputable def au(s:Stmt):Scope:=match s with
 |.FunctionDef _ _ _ _ _ _ sc _ _ _=>sc
 |_=>{ kind:=.function,names:=[],isGenerator:=false,isCoroutine:=false }
abbrev jQ:lR:=λ_ _ _ _ _ _=>False
abbrev E0:XK:=λ_ _ _=>False
theorem PC{X:Cx}:Passes jQ X E0:=λ_ _ _ _ _ _ _ h=>h.elim
structure mU(K:PySem.W.Frag)(x qual:Str)(st:Stmt)(f:Addr)(fd:FuncData):Prop where
 ex:∃(oc:Value) (od:Option Addr) (kV doc pm:Value) (an:Option Addr) (cdv ct:Value) (osl:Array (Option Value)),
  fd=PySem.W.fnOf x qual (oH st) (dD st) (au st) .none kV doc pm an cdv ct/\K.lookup f=some ⟨oc,od,.func fd,osl⟩/\PySem.W.codeIn K cdv qual=true
 kp:PySem.W.keepIn K (.ref f)=true
section
variable{P:Program}{w:World}{K:PySem.W.Frag}{mg:Str->Option Value}{base:Heap}
theorem mU.ok{x qual:Str}{st:Stmt}{f:Addr}{fd:FuncData}{N ps:List Str}{k:Nat}{sp:Sp}(F:mU K x qual st f fd)(S:bH N ps (au st))(len:∀vs H Q E,sp vs H Q E->vs.length=ps.length)
  (hbody:∀(cdv:Value) (A:Around) (outer:List Env) (s:Shared) (H:Hp) (vs:List V) (Q:VK) (E:XK),gU k (A.deeper (envOfC qual (au st) s.heap.objs.size f cdv))->sp vs H Q E->
   ∃t,fj (jM jQ P w K mg base N qual (au st) f cdv A outer s H E).eg (dD st) t/\t { nx:=λ_ H'=>Q .aL H',rt:=Q } (start N vs) H):fJ P w K mg base jQ (k+1) f fd ps sp:=by
 obtain⟨oc,od,kV,doc,pm,an,cdv,ct,osl,rfl,lk,hcd⟩:=F.ex;refine Gn lk hcd S len λA outer s H vs Q E hr iV=>?_;obtain⟨t,h,q⟩:=hbody cdv A outer s H vs Q E hr iV;exact⟨t,h.eg,q⟩
theorem mU.binds{x qual:Str}{st:Stmt}{f:Addr}{fd:FuncData}{ps:List Str}(F:mU K x qual st f fd)
  (h:∀(kV doc pm:Value) (an:Option Addr) (cdv ct:Value) (us:List Value),us.length=ps.length->bindArgs (PySem.W.fnOf x qual (oH st) (dD st) (au st) .none kV doc pm an cdv ct) ⟨us,[]⟩=pure (ps.zip us)):Binds K fd ps []:=by
 obtain⟨oc,od,kV,doc,pm,an,cdv,ct,osl,rfl,lk,hcd⟩:=F.ex;exact .all (h kV doc pm an cdv ct)
theorem cE{x qual:Str}{st:Stmt}{f:Addr}{oc:Value}{od an:Option Addr}{osl:Array (Option Value)}{kV doc pm cdv ct:Value}(l:K.lookup f=some ⟨oc,od,.func (PySem.W.fnOf x qual (oH st) (dD st) (au st) .none kV doc pm an cdv ct),osl⟩)
  (c:PySem.W.codeIn K cdv qual=true) (k:PySem.W.keepIn K (.ref f)=true):mU K x qual st f (PySem.W.fnOf x qual (oH st) (dD st) (au st) .none kV doc pm an cdv ct):=⟨⟨oc,od,kV,doc,pm,an,cdv,ct,osl,rfl,l,c⟩,k⟩
end
section
variable{X:Cx}
theorem pv (i:Nat) {x:Str}{pos:Pos}(hN:X.N[i]?=some x:=by rfl) (hv:tR X.env.scope x:=by first|exact Or.inl rfl|exact Or.inr (Or.inl rfl)|exact Or.inr (Or.inr rfl)) (hd:(x==("__debug__" : Str))=false:=by decide)
  (hcd:(x==("__classdict__" : Str))=false:=by decide):PE X (.Name x pos) (KA i):=qD hN hv hd hcd
end
end L2
set_option maxRecDepth 100000
namespace L2
open PySem PySem.Spec PyProof.Rows
section
variable{κ:Type}[DecidableEq κ]
end
section
variable{P:Program}{w:World}{H:Hp}{h:Heap}{a:Addr}
end
section
variable{X:Cx}{pins:List (Addr×Obj)}{σ:St}{H:Hp}{s:Shared}{a:Addr}{y v:V}{u r:Value}{o:Option V}{A:Around}{E:Value->Shared->Prop}
end
section
variable{X:Cx}{pins:List (Addr×Obj)}{σ:St}{H:Hp}{s:Shared}{a:Addr}{kvs:List (Key×V)}{k:Key}{u:Value}{A:Around}{E:Value->Shared->Prop}
end
section
variable{X:Cx}{o i e value:Expr}{pos pos' tpos:Pos}{td ty tv:TE}
end
section
variable{X:Cx}{pos:Pos}
end
structure M1(X:Cx)(o:Expr)(m:Str)(apos:Pos)(e:Expr)(cpos:Pos):Prop where
 base:attributeBase o m X.env (eval o X.env)=eval o X.env
 few:((backTo cpos (starEach [e] X.env)).all (λx=>!x.1)&&(backToKw cpos (keywordEach [] X.env)).all (λx=>x.1.isSome)
  &&decide (([e]:List Expr).length+([]:List Keyword).length+(if ([]:List Keyword).isEmpty then 0 else 1)<30))=true
 line:(apos.endLine==cpos.line)=true
 trees:backTo cpos (starEach [e] X.env)=[(false,eval e X.env)]
structure M2(X:Cx)(o:Expr)(m:Str)(apos:Pos)(e f:Expr)(cpos:Pos):Prop where
 base:attributeBase o m X.env (eval o X.env)=eval o X.env
 few:((backTo cpos (starEach [e,f] X.env)).all (λx=>!x.1)&&(backToKw cpos (keywordEach [] X.env)).all (λx=>x.1.isSome)
  &&decide (([e,f]:List Expr).length+([]:List Keyword).length+(if ([]:List Keyword).isEmpty then 0 else 1)<30))=true
 line:(apos.endLine==cpos.line)=true
 trees:backTo cpos (starEach [e,f] X.env)=[(false,eval e X.env),(false,eval f X.env)]
section
variable{X:Cx}{pins:List (Addr×Obj)}{σ:St}{H:Hp}{s:Shared}{a:Addr}{y d:V}{u r:Value}{o:Option V}{A:Around}{E:Value->Shared->Prop}
end
section
variable{X:Cx}{o e f:Expr}{apos cpos:Pos}{td ty tx:TE}
end
end L2
namespace Ev
inductive D where
 |aL|bl (b:Bool)|int (i:Int)|str (s:List Nat)|tup (ds:List D)|ref (n:Nat)
inductive O where
 |lst (ds:List D)|bP (ds:List D)
abbrev Hh:=List O
abbrev Fr:=List (Option D)
inductive R(α:Type) where
 |ok (a:α) (h:Hh)
 |bad
noncomputable def R.bind{α β:Type}(r:R α)(f:α->Hh->R β):R β:=
 match r with
 |.ok a h=>f a h
 |.bad=>.bad
@[simp] theorem ak{α β:Type}(a:α)(h:Hh)(f:α->Hh->R β):(R.ok a h).bind f=f a h:=rfl
@[simp] theorem DY{α β:Type}(f:α->Hh->R β):(R.bad:R α).bind f=.bad:=rfl
theorem ah{α β:Type}{r:R α}{f:α->Hh->R β}{b:β}{h:Hh}(e:r.bind f=.ok b h):∃a h1,r=.ok a h1/\f a h1=.ok b h:=by
 cases r with
 |ok a h1=>exact⟨a,h1,rfl,e⟩
 |bad=>cases e
noncomputable def R.of{α:Type}(o:Option α)(h:Hh):R α:=match o with
 |some a=>.ok a h
 |none=>.bad
@[simp] theorem dg{α:Type}(a:α)(h:Hh):R.of (some a) h=.ok a h:=rfl
@[simp] theorem of_none{α:Type}(h:Hh):R.of (none:Option α) h=.bad:=rfl
theorem aM{α:Type}{o:Option α}{h h':Hh}{a:α}(e:R.of o h=.ok a h'):o=some a/\h'=h:=by
 cases o with
 |none=>cases e
 |some b=>cases e;exact⟨rfl,rfl⟩
inductive bF where
 |add|sub|mul|fdiv|mod
inductive bu where
 |eq|ne|lt|gt
 |isin|gu
 |yk|DZ
inductive TY where
 |int|bool|str|tuple|list
inductive BI where
 |len|sum|min
inductive ME where
 |join|append|extend|pop
 |nA
inductive T where
 |one (i:Nat)|many (l:List Nat)
mutual
inductive E where
 |c (d:D)|v (i:Nat)|tup (es:Es)|lst (es:Es)
 |bin (o:bF) (a b:E)|cmp (o:bu) (a b:E)
 |nt (a:E)|neg (a:E)|an (a b:E)|orr (a b:E)|iL (t a b:E)
 |ix (a b:E)|sl (a:E) (lo hi:Eo)
 |cl (f:Nat) (es:Es)|bi (b:BI) (es:Es)|me (m:ME) (o:E) (es:Es)
 |fK (a:E) (ts:List TY)
 |comp (elt:E) (t:T) (it:It) (cond:Eo)
 |eH (it:It)
 |jN (kvs:List (D×D)) (a:E)|jm (a:E)
inductive Es where
 |nil|cons (e:E) (es:Es)
inductive Eo where
 |no|yes (e:E)
inductive It where
 |seq (e:E)|gS (es:Es)
 |zip (a b:E)
 |enum (a:E)|rev (a:E)
end
mutual
inductive S where
 |set (i:Nat) (e:E)|iW (l:List Nat) (e:E)
 |exp (e:E)|ret (e:E)|iff (t:E) (a b:Ss)|for (t:T) (it:It) (b:Ss)|jH (t:E) (b:Ss)
 |fk (c:Nat)
 |tr (f k:Nat) (es:Es)
inductive Ss where
 |nil|cons (s:S) (ss:Ss)
end
inductive Fl where
 |nx|bk|ct|ret (d:D)
noncomputable def big:Nat:=16777216
noncomputable def cz(f:D->D->Option Bool):List D->List D->Option Bool
 |[],[]=>some true
 |x :: xs,y :: ys=>do
  let b <-f x y
  let c <-cz f xs ys
  pure (b&&c)
 |_,_=>some false
noncomputable def aW(h:Hh)(n:Nat):Option (List D):=match h[n]? with
 |some (.lst ds)=>some ds
 |some (.bP ds)=>some ds
 |_=>none
noncomputable def b2i(b:Bool):Int:=if b then 1 else 0
noncomputable def kg(h:Hh)(f:D->D->Option Bool)(a b:Nat):Option Bool:=if a=b then (aW h a).map λ_=>true else match h[a]?,h[b]? with
 |some (.lst x),some (.lst y)=>cz f x y
 |some (.bP x),some (.lst y)=>cz f x y
 |some (.lst x),some (.bP y)=>cz f x y
 |_,_=>none
noncomputable def iM(h:Hh):Nat->D->D->Option Bool
 |0,_,_=>none
 |_+1,.aL,.aL=>some true
 |_+1,.bl a,.bl b=>some (a==b)
 |_+1,.int a,.int b=>some (a==b)
 |_+1,.bl a,.int b=>some (b2i a==b)
 |_+1,.int a,.bl b=>some (a==b2i b)
 |_+1,.str a,.str b=>some (a==b)
 |n+1,.tup a,.tup b=>cz (iM h n) a b
 |n+1,.ref a,.ref b=>kg h (iM h n) a b
 |_+1,.ref a,_=>(aW h a).map λ_=>false
 |_+1,_,.ref a=>(aW h a).map λ_=>false
 |_+1,_,_=>some false
noncomputable def deep:Nat:=20
noncomputable def truthy(h:Hh):D->Option Bool
 |.aL=>some false
 |.bl b=>some b
 |.int i=>some (i != 0)
 |.str s=>some (!s.isEmpty)
 |.tup ds=>some (!ds.isEmpty)
 |.ref n=>(aW h n).map λds=>!ds.isEmpty
noncomputable def alloc(ds:List D)(h:Hh):R D:=if ds.length<=big then .ok (.ref h.length) (h++[.lst ds])else .bad
noncomputable def rep{α:Type}(k:Nat)(l:List α):List α:=(List.replicate k l).flatten
noncomputable def bY(i j:Int):Bool:=(decide (-(2 ^ 64)<i)&&decide (i<2 ^ 64)) || (decide (-(2 ^ 64)<j)&&decide (j<2 ^ 64))
noncomputable def bU:bF->D->D->Hh->R D
 |.add,.int i,.int j,h=>.ok (.int (i+j)) h
 |.add,.str a,.str b,h=>if a.length+b.length<=big then .ok (.str (a++b)) h else .bad
 |.add,.tup a,.tup b,h=>if a.length+b.length<=big then .ok (.tup (a++b)) h else .bad
 |.add,.ref a,.ref b,h=>match h[a]?,h[b]? with
  |some (.lst x),some (.lst y)=>alloc (x++y) h
  |_,_=>.bad
 |.sub,.int i,.int j,h=>.ok (.int (i - j)) h
 |.mul,.int i,.int j,h=>if bY i j then .ok (.int (i*j)) h else .bad
 |.mul,.str a,.int k,h=>if 0<=k/\k<=1000/\a.length<=1000 then .ok (.str (rep k.toNat a)) h else .bad
 |.mul,.tup a,.int k,h=>if 0<=k/\k<=1000/\a.length<=1000 then .ok (.tup (rep k.toNat a)) h else .bad
 |.mul,.ref a,.int k,h=>match h[a]? with
  |some (.lst x)=>if 0<=k/\k<=1000/\x.length<=1000 then alloc (rep k.toNat x) h else .bad
  |_=>.bad
 |.fdiv,.int i,.int j,h=>if 0<j/\j<1073741824 then .ok (.int (i / j)) h else .bad
 |.mod,.int i,.int j,h=>if 0<j then .ok (.int (i % j)) h else .bad
 |_,_,_,_=>.bad
noncomputable def mem(h:Hh)(x:D):List D->Option Bool
 |[]=>some false
 |y :: ys=>do
  let b <-iM h deep y x
  let c <-mem h x ys
  pure (b ||c)
noncomputable def isin(x y:D)(h:Hh):Option Bool:=match y with
 |.str s=>match x with
  |.str [c]=>some (s.contains c)
  |_=>none
 |.tup ds=>mem h x ds
 |.ref n=>(aW h n).bind λds=>mem h x ds
 |_=>none
noncomputable def cop(o:bu)(x y:D)(h:Hh):Option Bool:=match o,x,y with
 |.eq,x,y=>iM h deep x y
 |.ne,x,y=>(iM h deep x y).map (!·)
 |.lt,.int i,.int j=>some (decide (i<j))
 |.gt,.int i,.int j=>some (decide (j<i))
 |.isin,x,y=>isin x y h
 |.gu,x,y=>(isin x y h).map (!·)
 |.yk,x,.aL=>some (match x with|.aL=>true|_=>false)
 |.DZ,x,.aL=>some (match x with|.aL=>false|_=>true)
 |_,_,_=>none
noncomputable def dj(n:Nat)(i:Int):Option Nat:=if 0<=i then (if i<n then some i.toNat else none)else if -(n:Int)<=i then some (i+n).toNat else none
noncomputable def bK{α:Type}(xs:List α)(i:Int):Option α:=(dj xs.length i).bind λj=>xs[j]?
noncomputable def fP(x y:D)(h:Hh):Option D:=match x,y with
 |.tup ds,.int i=>bK ds i
 |.str s,.int i=>(bK s i).map λc=>.str [c]
 |.ref n,.int i=>(aW h n).bind λds=>bK ds i
 |_,_=>none
noncomputable def aO(n d:Nat):Option Int->Nat
 |none=>d
 |some v=>if v<0 then (v+n).toNat else min v.toNat n
noncomputable def cut{α:Type}(xs:List α)(lo hi:Option Int):List α:=(xs.drop (aO xs.length 0 lo)).take (aO xs.length xs.length hi - aO xs.length 0 lo)
noncomputable def gg(x:D)(lo hi:Option Int)(h:Hh):R D:=match x with
 |.tup ds=>.ok (.tup (cut ds lo hi)) h
 |.str s=>.ok (.str (cut s lo hi)) h
 |.ref n=>match aW h n with
  |some ds=>alloc (cut ds lo hi) h
  |none=>.bad
 |_=>.bad
noncomputable def dm(h:Hh):D->TY->Bool
 |.bl _,.bool=>true
 |.bl _,.int=>true
 |.int _,.int=>true
 |.str _,.str=>true
 |.tup _,.tuple=>true
 |.ref n,.list=>(aW h n).isSome
 |_,_=>false
noncomputable def boolsOf:List D->Option (List Bool)
 |[]=>some []
 |.bl b :: ds=>(boolsOf ds).map λr=>b :: r
 |_=>none
noncomputable def intsOf:List D->Option (List Int)
 |[]=>some []
 |.int i :: ds=>(intsOf ds).map λr=>i :: r
 |_=>none
noncomputable def strsOf:List D->Option (List (List Nat))
 |[]=>some []
 |.str s :: ds=>(strsOf ds).map λr=>s :: r
 |_=>none
noncomputable def cj(sep:List Nat):List (List Nat)->List Nat
 |[]=>[]
 |[s]=>s
 |s :: t :: r=>s++sep++cj sep (t :: r)
noncomputable def lexLe:List Nat->List Nat->Bool
 |[],_=>true
 |_ :: _,[]=>false
 |x :: xs,y :: ys=>if x=y then lexLe xs ys else decide (x<y)
noncomputable def Ln(x:List Nat):List (List Nat)->List (List Nat)
 |[]=>[x]
 |y :: ys=>if lexLe x y then x :: y :: ys else y :: Ln x ys
noncomputable def dQ:List (List Nat)->List (List Nat)
 |[]=>[]
 |x :: xs=>Ln x (dQ xs)
noncomputable def dS(b:BI)(xs:List D)(h:Hh):R D:=match b,xs with
 |.len,[.str s]=>if s.length<=big then .ok (.int s.length) h else .bad
 |.len,[.tup ds]=>.ok (.int ds.length) h
 |.len,[.ref n]=>R.of ((aW h n).map λds=>.int ds.length) h
 |.sum,[.ref n]=>R.of (((aW h n).bind intsOf).map λis=>.int is.sum) h
 |.min,[.int i,.int j]=>.ok (.int (if j<i then j else i)) h
 |_,_=>.bad
noncomputable def fG(m:ME)(o:D)(xs:List D)(h:Hh):R D:=match m,o,xs with
 |.join,.str sep,[.ref n]=>match (aW h n).bind strsOf with
  |some ss=>if (ss.map (·.length)).sum+ss.length*sep.length<=big then .ok (.str (cj sep ss)) h else .bad
  |none=>.bad
 |.append,.ref n,[x]=>match h[n]? with
  |some (.lst ds)=>if ds.length<big then .ok .aL (h.set n (.lst (ds++[x])))else .bad
  |_=>.bad
 |.extend,.ref n,[.ref m]=>match h[n]?,h[m]? with
  |some (.lst ds),some (.lst es)=>if ds.length+es.length<=big then .ok .aL (h.set n (.lst (ds++es)))else .bad
  |_,_=>.bad
 |.pop,.ref n,[]=>match h[n]? with
  |some (.lst ds)=>match ds[ds.length - 1]? with
   |some x=>.ok x (h.set n (.lst ds.dropLast))
   |none=>.bad
  |_=>.bad
 |.nA,.ref n,[x,.int k]=>match h[n]? with
  |some (.lst ds)=>match dj ds.length k with
   |some j=>.ok .aL (h.set n (.lst (ds.set j x)))
   |none=>.bad
  |_=>.bad
 |_,_,_=>.bad
noncomputable def qJ(m:ME)(x:D)(h:Hh):Bool:=match m,x with
 |.join,.str _=>true
 |.join,_=>false
 |_,.ref n=>(aW h n).isSome
 |_,_=>false
noncomputable def iX(x:D):List (D×D)->Option D
 |[]=>none
 | (k,v) :: r=>match iM [] 1 k x with
  |some true=>some v
  |some false=>iX x r
  |none=>none
abbrev Src:=List D×List (Nat×List D)
noncomputable def fV(h:Hh):D->Option Src
 |.tup ds=>some (ds,[])
 |.str s=>some (s.map λc=>.str [c],[])
 |.ref n=>(aW h n).map λds=>(ds,[(n,ds)])
 |_=>none
noncomputable def range(lo:Int)(n:Nat):List D:=(List.range n).map λ(i:Nat)=>.int (lo+i)
noncomputable def er:List D->Option Src
 |[.int j]=>if -(2 ^ 62)<=j/\j<2 ^ 62 then some (range 0 j.toNat,[])else none
 |[.int i,.int j]=>if -(2 ^ 62)<=i/\i<2 ^ 62/\-(2 ^ 62)<=j/\j<2 ^ 62 then some (range i (j - i).toNat,[])else none
 |_=>none
noncomputable def eB(a b:List D):List D:=List.zipWith (λx y=>.tup [x,y]) a b
noncomputable def iz:Int->List D->List D
 |_,[]=>[]
 |k,x :: xs=>.tup [.int k,x] :: iz (k+1) xs
noncomputable def zY(a b:List D):Bool:=@decide (a=b) (Classical.propDecidable _)
theorem uc(a b:List D):zY a b=true↔a=b:=@decide_eq_true_iff _ (Classical.propDecidable _)
@[simp] theorem zZ(a:List D):zY a a=true:=(uc a a).mpr rfl
noncomputable def stays(h:Hh):List (Nat×List D)->Bool
 |[]=>true
 | (n,ds) :: r=>(match aW h n with|some es=>zY es ds|none=>false)&&stays h r
noncomputable def cK:List Nat->List D->Fr->Option Fr
 |[],[],fr=>some fr
 |i :: is,d :: ds,fr=>cK is ds (fr.set i (some d))
 |_,_,_=>none
noncomputable def bD:T->D->Fr->Option Fr
 |.one i,d,fr=>some (fr.set i (some d))
 |.many l,.tup ds,fr=>cK l ds fr
 |_,_,_=>none
noncomputable def slots:T->List Nat
 |.one i=>[i]
 |.many l=>l
noncomputable def undef(t:T)(fr:Fr):Bool:=(slots t).all λi=>(fr[i]?.join).isNone
noncomputable def D4:D->Option (List D)
 |.tup ds=>some ds
 |_=>none
noncomputable def sI:D->Hh->R D
 |.tup ds,h=>.ok (.tup ds) h
 |.ref n,h=>match aW h n with
  |some ds=>if ds.length<=big then .ok (.tup ds) h else .bad
  |none=>.bad
 |_,_=>.bad
noncomputable def qe(h:Hh):D->Option Src
 |.ref n=>(aW h n).map λds=>(ds,[(n,ds)])
 |_=>none
noncomputable def cH(f:D->Hh->R (Option D))(ck:List (Nat×List D)):List D->Hh->R (List D)
 |[],h=>if stays h ck then .ok [] h else .bad
 |d :: ds,h=>if stays h ck then (f d h).bind λo h1=>(cH f ck ds h1).bind λr h2=>.ok (o.toList++r) h2 else .bad
noncomputable def forL(f:D->Fr->Hh->R (Fl×Fr))(ck:List (Nat×List D)):List D->Fr->Hh->R (Fl×Fr)
 |[],fr,h=>if stays h ck then .ok (.nx,fr) h else .bad
 |d :: ds,fr,h=>if stays h ck then (f d fr h).bind λp h1=>match p.1 with
   |.nx=>forL f ck ds p.2 h1
   |.ct=>forL f ck ds p.2 h1
   |.bk=>.ok (.nx,p.2) h1
   |.ret x=>.ok (.ret x,p.2) h1
  else .bad
noncomputable def dG(t:Fr->Hh->R Bool)(f:Fr->Hh->R (Fl×Fr)):Nat->Fr->Hh->R (Fl×Fr)
 |0,_,_=>.bad
 |n+1,fr,h=>(t fr h).bind λb h1=>if b then (f fr h1).bind λp h2=>match p.1 with
   |.nx=>dG t f n p.2 h2
   |.ct=>dG t f n p.2 h2
   |.bk=>.ok (.nx,p.2) h2
   |.ret x=>.ok (.ret x,p.2) h2
  else .ok (.nx,fr) h1
abbrev aI:=Nat->List D->Hh->R D
noncomputable def intOf:D->Option Int
 |.int i=>some i
 |_=>none
mutual
noncomputable def ev(P:aI):E->Fr->Hh->R D
 |.c d,_,h=>.ok d h
 |.v i,fr,h=>R.of (fr[i]?.join) h
 |.tup es,fr,h=>(bS P es fr h).bind λds h1=>if ds.length<=big then .ok (.tup ds) h1 else .bad
 |.lst es,fr,h=>(bS P es fr h).bind λds h1=>alloc ds h1
 |.bin o a b,fr,h=>(ev P a fr h).bind λx h1=>(ev P b fr h1).bind λy h2=>bU o x y h2
 |.cmp o a b,fr,h=>(ev P a fr h).bind λx h1=>(ev P b fr h1).bind λy h2=>R.of ((cop o x y h2).map .bl) h2
 |.nt a,fr,h=>(ev P a fr h).bind λx h1=>match x with
   |.bl b=>.ok (.bl (!b)) h1
   |_=>.bad
 |.neg a,fr,h=>(ev P a fr h).bind λx h1=>match x with
   |.int i=>.ok (.int (-i)) h1
   |_=>.bad
 |.an a b,fr,h=>(ev P a fr h).bind λx h1=>match x with
   |.bl true=>ev P b fr h1
   |.bl false=>.ok (.bl false) h1
   |_=>.bad
 |.orr a b,fr,h=>(ev P a fr h).bind λx h1=>match x with
   |.bl true=>.ok (.bl true) h1
   |.bl false=>ev P b fr h1
   |_=>.bad
 |.iL t a b,fr,h=>(aE P t fr h).bind λk h1=>if k then ev P a fr h1 else ev P b fr h1
 |.ix a b,fr,h=>(ev P a fr h).bind λx h1=>(ev P b fr h1).bind λy h2=>R.of (fP x y h2) h2
 |.sl a lo hi,fr,h=>(ev P a fr h).bind λx h1=>(gw P lo fr h1).bind λl h2=>(gw P hi fr h2).bind λu h3=>gg x l u h3
 |.cl f es,fr,h=>(bS P es fr h).bind λds h1=>P f ds h1
 |.bi b es,fr,h=>(bS P es fr h).bind λds h1=>dS b ds h1
 |.me m o es,fr,h=>(ev P o fr h).bind λx h1=>if qJ m x h1 then (bS P es fr h1).bind λds h2=>fG m x ds h2 else .bad
 |.fK a ts,fr,h=>(ev P a fr h).bind λx h1=>.ok (.bl (ts.any (dm h1 x))) h1
 |.comp elt t it cond,fr,h=>(b8 P it fr h).bind λs h1=>if undef t fr then
   (cH (λd h2=>match bD t d fr with
    |none=>.bad
    |some ao=>(iY P cond ao h2).bind λk h3=>if k then (ev P elt ao h3).bind λx h4=>.ok (some x) h4 else .ok none h3) s.2 s.1 h1).bind λds h2=>alloc ds h2 else .bad
 |.eH it,fr,h=>(b8 P it fr h).bind λs h1=>alloc s.1 h1
 |.jN kvs a,fr,h=>(ev P a fr h).bind λx h1=>R.of (iX x kvs) h1
 |.jm a,fr,h=>(ev P a fr h).bind λx h1=>sI x h1
noncomputable def bS(P:aI):Es->Fr->Hh->R (List D)
 |.nil,_,h=>.ok [] h
 |.cons e es,fr,h=>(ev P e fr h).bind λd h1=>(bS P es fr h1).bind λds h2=>.ok (d :: ds) h2
noncomputable def gw(P:aI):Eo->Fr->Hh->R (Option Int)
 |.no,_,h=>.ok none h
 |.yes e,fr,h=>(ev P e fr h).bind λd h1=>R.of ((intOf d).map some) h1
noncomputable def iY(P:aI):Eo->Fr->Hh->R Bool
 |.no,_,h=>.ok true h
 |.yes e,fr,h=>aE P e fr h
noncomputable def aE(P:aI):E->Fr->Hh->R Bool
 |.an a b,fr,h=>(aE P a fr h).bind λk h1=>if k then aE P b fr h1 else .ok false h1
 |.orr a b,fr,h=>(aE P a fr h).bind λk h1=>if k then .ok true h1 else aE P b fr h1
 |.nt a,fr,h=>(aE P a fr h).bind λk h1=>.ok (!k) h1
 |e,fr,h=>(ev P e fr h).bind λx h1=>R.of (truthy h1 x) h1
noncomputable def b8(P:aI):It->Fr->Hh->R Src
 |.seq e,fr,h=>(ev P e fr h).bind λx h1=>R.of (fV h1 x) h1
 |.gS es,fr,h=>(bS P es fr h).bind λds h1=>R.of (er ds) h1
 |.zip a b,fr,h=>(ev P a fr h).bind λx h1=>(ev P b fr h1).bind λy h2=>R.of ((qe h2 x).bind λs=>(qe h2 y).map λt=>(eB s.1 t.1,s.2++t.2)) h2
 |.enum a,fr,h=>(ev P a fr h).bind λx h1=>R.of ((qe h1 x).map λs=>(iz 0 s.1,s.2)) h1
 |.rev a,fr,h=>(ev P a fr h).bind λx h1=>R.of ((D4 x).map λds=>(ds.reverse,[])) h1
end
noncomputable def xo:Nat:=1000
noncomputable def D5(k:Nat):D->Option D
 |.int c=>if 0<=c/\c<k then some (.tup [.str [114,101,102,117,115,101,100],.int c])else none
 |_=>none
noncomputable def tryD(k:Nat):R D->R D->R D
 |.ok d h,_=>.ok d h
 |.bad,q=>q.bind λc h=>R.of (D5 k c) h
mutual
noncomputable def ex(P:aI)(w:Nat):S->Fr->Hh->R (Fl×Fr)
 |.set i e,fr,h=>(ev P e fr h).bind λx h1=>.ok (.nx,fr.set i (some x)) h1
 |.iW l e,fr,h=>(ev P e fr h).bind λx h1=>match bD (.many l) x fr with
   |some ao=>.ok (.nx,ao) h1
   |none=>.bad
 |.exp e,fr,h=>(ev P e fr h).bind λ_ h1=>.ok (.nx,fr) h1
 |.ret e,fr,h=>(ev P e fr h).bind λx h1=>.ok (.ret x,fr) h1
 |.iff t a b,fr,h=>(aE P t fr h).bind λk h1=>if k then exs P w a fr h1 else exs P w b fr h1
 |.for t it b,fr,h=>(b8 P it fr h).bind λs h1=>forL (λd ao h2=>match bD t d ao with
   |some bE=>exs P w b bE h2
   |none=>.bad) s.2 s.1 fr h1
 |.jH t b,fr,h=>dG (λao h2=>aE P t ao h2) (λao h2=>exs P w b ao h2) w fr h
 |.fk _,_,_=>.bad
 |.tr f k es,fr,h=>(bS P es fr h).bind λds h1=>(tryD k (P f ds h1) (P (f+xo) ds h1)).bind λx h2=>.ok (.ret x,fr) h2
noncomputable def exs(P:aI)(w:Nat):Ss->Fr->Hh->R (Fl×Fr)
 |.nil,fr,h=>.ok (.nx,fr) h
 |.cons s ss,fr,h=>(ex P w s fr h).bind λp h1=>match p.1 with
   |.nx=>exs P w ss p.2 h1
   |_=>.ok p h1
end
structure Fn where
 np:Nat
 ns:Nat
 body:Ss
noncomputable def dz(fn:Fn)(ds:List D):Fr:=ds.map some++List.replicate (fn.ns - fn.np) none
noncomputable def endOf(r:R (Fl×Fr)):R D:=r.bind λp h=>match p.1 with
 |.ret d=>.ok d h
 |.nx=>.ok .aL h
 |_=>.bad
abbrev XR:=Option (Nat×Hh)
abbrev cL:=Nat->List D->Hh->XR
mutual
noncomputable def xe(P:aI)(X:cL):E->Fr->Hh->XR
 |.cl f es,fr,h=>match bS P es fr h with
  |.ok ds h1=>X f ds h1
  |.bad=>xa P X es fr h
 |.ix a _,fr,h=>xe P X a fr h
 |.me m o es,fr,h=>match ev P o fr h with
  |.ok x h1=>if qJ m x h1 then xa P X es fr h1 else none
  |.bad=>none
 |_,_,_=>none
noncomputable def xa(P:aI)(X:cL):Es->Fr->Hh->XR
 |.nil,_,_=>none
 |.cons e es,fr,h=>match ev P e fr h with
  |.ok _ h1=>xa P X es fr h1
  |.bad=>xe P X e fr h
end
noncomputable def fW(f:D->Fr->Hh->R (Fl×Fr))(g:D->Fr->Hh->XR)(ck:List (Nat×List D)):List D->Fr->Hh->XR
 |[],_,_=>none
 |d :: ds,fr,h=>if stays h ck then match f d fr h with
   |.ok (.nx,af) h1=>fW f g ck ds af h1
   |.ok (.ct,af) h1=>fW f g ck ds af h1
   |.ok _ _=>none
   |.bad=>g d fr h
  else none
noncomputable def eW(t:Fr->Hh->R Bool)(f:Fr->Hh->R (Fl×Fr))(g:Fr->Hh->XR):Nat->Fr->Hh->XR
 |0,_,_=>none
 |n+1,fr,h=>match t fr h with
  |.ok true h1=>match f fr h1 with
   |.ok (.nx,af) h2=>eW t f g n af h2
   |.ok (.ct,af) h2=>eW t f g n af h2
   |.ok _ _=>none
   |.bad=>g fr h1
  |_=>none
mutual
noncomputable def xs(P:aI)(X:cL)(w:Nat):S->Fr->Hh->XR
 |.fk c,_,h=>some (c,h)
 |.set _ e,fr,h=>xe P X e fr h
 |.exp e,fr,h=>xe P X e fr h
 |.ret e,fr,h=>xe P X e fr h
 |.iff t a b,fr,h=>match aE P t fr h with
  |.ok k h1=>if k then xss P X w a fr h1 else xss P X w b fr h1
  |.bad=>xe P X t fr h
 |.for t it b,fr,h=>match b8 P it fr h with
  |.ok s h1=>fW (λd ao h2=>match bD t d ao with|some bE=>exs P w b bE h2|none=>.bad) (λd ao h2=>match bD t d ao with|some bE=>xss P X w b bE h2|none=>none) s.2 s.1 fr h1
  |.bad=>none
 |.jH t b,fr,h=>eW (λao h2=>aE P t ao h2) (λao h2=>exs P w b ao h2) (λao h2=>xss P X w b ao h2) w fr h
 |_,_,_=>none
noncomputable def xss(P:aI)(X:cL)(w:Nat):Ss->Fr->Hh->XR
 |.nil,_,_=>none
 |.cons s ss,fr,h=>match ex P w s fr h with
  |.ok (.nx,af) h1=>xss P X w ss af h1
  |.ok _ _=>none
  |.bad=>xs P X w s fr h
end
noncomputable def mV(X:cL)(f:Nat)(ds:List D)(h:Hh):R D:=if xo<=f then (match X (f - xo) ds h with
  |some (c,h')=>.ok (.int c) h'
  |none=>.bad)else .bad
noncomputable def runs(F:List Fn)(w:Nat):Nat->aI×cL
 |0=>(λ_ _ _=>.bad,λ_ _ _=>none)
 |n+1=>
  let X:cL:=λf ds h=>match F[f]? with
   |some fn=>if ds.length=fn.np then xss (runs F w n).1 (runs F w n).2 w fn.body (dz fn ds) h else none
   |none=>none
  (λf ds h=>match F[f]? with
   |some fn=>if ds.length=fn.np then endOf (exs (runs F w n).1 w fn.body (dz fn ds) h)else .bad
   |none=>mV X f ds h,X)
noncomputable def run(F:List Fn)(w n:Nat):aI:=(runs F w n).1
noncomputable def cD(F:List Fn)(w n:Nat):cL:=(runs F w n).2
theorem gy(F:List Fn)(w n f:Nat)(ds:List D)(h:Hh):run F w (n+1) f ds h=match F[f]? with
  |some fn=>if ds.length=fn.np then endOf (exs (run F w n) w fn.body (dz fn ds) h)else .bad
  |none=>mV (cD F w (n+1)) f ds h:=rfl
theorem iZ(F:List Fn)(w n f:Nat)(ds:List D)(h:Hh):cD F w (n+1) f ds h=match F[f]? with
  |some fn=>if ds.length=fn.np then xss (run F w n) (cD F w n) w fn.body (dz fn ds) h else none
  |none=>none:=rfl
mutual
noncomputable def nB(rz:List Nat):E->Bool
 |.cl f es=>!rz.contains f&&yl rz es
 |.ix a _=>nB rz a
 |.me _ _ es=>yl rz es
 |_=>true
noncomputable def yl(rz:List Nat):Es->Bool
 |.nil=>true
 |.cons e es=>nB rz e&&yl rz es
end
mutual
noncomputable def pH(rz:List Nat):S->Bool
 |.fk _=>false
 |.set _ e=>nB rz e
 |.exp e=>nB rz e
 |.ret e=>nB rz e
 |.iff t a b=>nB rz t&&(ly rz a&&ly rz b)
 |.for _ _ b=>ly rz b
 |.jH _ b=>ly rz b
 |_=>true
noncomputable def ly(rz:List Nat):Ss->Bool
 |.nil=>true
 |.cons s ss=>pH rz s&&ly rz ss
end
section
variable{P:aI}{X:cL}{w:Nat}{rz:List Nat}(hz:∀f,rz.contains f=false->∀ds h,X f ds h=none)
include hz
mutual
theorem qf:∀(e:E) {fr:Fr}{h:Hh},nB rz e=true->xe P X e fr h=none
 |.cl f es,fr,h,z=>by
  simp only[nB,Bool.and_eq_true,Bool.not_eq_true']at z;simp only[xe];split
  .exact hz f z.1 _ _
  .exact Aa es z.2
 |.ix a b,fr,h,z=>by
  simp only[nB]at z;simp only[xe];exact qf a z
 |.me m o es,fr,h,z=>by
  simp only[nB]at z;simp only[xe];split
  .split
   .exact Aa es z
   .rfl
  .rfl
 |.c _,_,_,_=>rfl|.v _,_,_,_=>rfl|.tup _,_,_,_=>rfl|.lst _,_,_,_=>rfl
 |.bin _ _ _,_,_,_=>rfl|.cmp _ _ _,_,_,_=>rfl
 |.nt _,_,_,_=>rfl|.neg _,_,_,_=>rfl|.an _ _,_,_,_=>rfl|.orr _ _,_,_,_=>rfl|.iL _ _ _,_,_,_=>rfl
 |.sl _ _ _,_,_,_=>rfl
 |.bi _ _,_,_,_=>rfl
 |.fK _ _,_,_,_=>rfl
 |.comp _ _ _ _,_,_,_=>rfl|.eH _,_,_,_=>rfl
 |.jN _ _,_,_,_=>rfl|.jm _,_,_,_=>rfl
theorem Aa:∀(es:Es) {fr:Fr}{h:Hh},yl rz es=true->xa P X es fr h=none
 |.nil,_,_,_=>rfl
 |.cons e es,fr,h,z=>by
  simp only[yl,Bool.and_eq_true]at z;simp only[xa];split
  .exact Aa es z.2
  .exact qf e z.1
end
omit hz in
theorem nC{f:D->Fr->Hh->R (Fl×Fr)}{g:D->Fr->Hh->XR}{ck:List (Nat×List D)}(hg:∀d fr h,g d fr h=none):∀(ds:List D) (fr:Fr) (h:Hh),fW f g ck ds fr h=none
 |[],_,_=>rfl
 |d :: ds,fr,h=>by
  simp only[fW];split
  .split
   .exact nC hg ds _ _
   .exact nC hg ds _ _
   .rfl
   .exact hg _ _ _
  .rfl
omit hz in
theorem nE{t:Fr->Hh->R Bool}{f:Fr->Hh->R (Fl×Fr)}{g:Fr->Hh->XR}(hg:∀fr h,g fr h=none):∀(n:Nat) (fr:Fr) (h:Hh),eW t f g n fr h=none
 |0,_,_=>rfl
 |n+1,fr,h=>by
  simp only[eW];split
  .split
   .exact nE hg n _ _
   .exact nE hg n _ _
   .rfl
   .exact hg _ _
  .rfl
mutual
theorem Lo:∀(s:S) {fr:Fr}{h:Hh},pH rz s=true->xs P X w s fr h=none
 |.fk c,_,_,z=>by simp[pH]at z
 |.set i e,fr,h,z=>by simp only[pH]at z;simp only[xs];exact qf hz e z
 |.exp e,fr,h,z=>by simp only[pH]at z;simp only[xs];exact qf hz e z
 |.ret e,fr,h,z=>by simp only[pH]at z;simp only[xs];exact qf hz e z
 |.iff t a b,fr,h,z=>by
  simp only[pH,Bool.and_eq_true]at z;simp only[xs];split
  .split
   .exact mE a z.2.1
   .exact mE b z.2.2
  .exact qf hz t z.1
 |.for t it b,fr,h,z=>by
  simp only[pH]at z;simp only[xs];split
  .refine nC (λd fr h=>?_) _ _ _;split
   .exact mE b z
   .rfl
  .rfl
 |.jH t b,fr,h,z=>by
  simp only[pH]at z;simp only[xs];exact nE (λfr h=>mE b z) _ _ _
 |.iW _ _,_,_,_=>rfl
 |.tr _ _ _,_,_,_=>rfl
theorem mE:∀(s:Ss) {fr:Fr}{h:Hh},ly rz s=true->xss P X w s fr h=none
 |.nil,_,_,_=>rfl
 |.cons s ss,fr,h,z=>by
  simp only[ly,Bool.and_eq_true]at z;simp only[xss];split
  .exact mE ss z.2
  .rfl
  .exact Lo s z.1
end
end
noncomputable def pI(rz:List Nat):Nat->List Fn->Bool
 |_,[]=>true
 |k,fn :: r=>(rz.contains k ||ly rz fn.body)&&pI rz (k+1) r
theorem pI.get{rz:List Nat}:∀{F:List Fn}{k f:Nat}{fn:Fn},pI rz k F=true->F[f]?=some fn->rz.contains (k+f)=false->ly rz fn.body=true
 |_ :: r,k,0,fn,z,e,n=>by
  simp only[pI,Bool.and_eq_true,Bool.or_eq_true]at z;cases e;rcases z.1 with z|z
  .rw[Nat.add_zero,z]at n;cases n
  .exact z
 |_ :: r,k,f+1,fn,z,e,n=>by
  simp only[pI,Bool.and_eq_true]at z;exact pI.get (F:=r) (k:=k+1) (f:=f) z.2 (by simpa using e) (by rw[show k+1+f=k+(f+1)by omega];exact n)
theorem ym{F:List Fn}{rz:List Nat}(hF:pI rz 0 F=true)(w:Nat):∀(n f:Nat),rz.contains f=false->∀ds h,cD F w n f ds h=none
 |0,_,_,_,_=>rfl
 |n+1,f,k,ds,h=>by
  rw[iZ];cases y:F[f]? with
  |none=>rfl
  |some fn=>
   simp only;split
   .exact mE (ym hF w n) _ (pI.get hF y (by rw[Nat.zero_add];exact k))
   .rfl
section
variable{P:aI}{X:cL}{w:Nat}(hX:∀f ds h r,X f ds h=some r->P f ds h=.bad)
include hX
mutual
theorem eK:∀(e:E) {fr:Fr}{h:Hh}{r:Nat×Hh},xe P X e fr h=some r->ev P e fr h=.bad/\aE P e fr h=.bad
 |.cl f es,fr,h,r,z=>by
  simp only[xe]at z;have q:ev P (.cl f es) fr h=.bad:=by
   rw[ev];cases y:bS P es fr h with
   |ok ds h1=>rw[y]at z;exact hX _ _ _ _ z
   |bad=>rfl
  exact⟨q,by rw[aE,q];rfl;all_goals (intros;contradiction)⟩
 |.ix a b,fr,h,r,z=>by
  simp only[xe]at z;have q:ev P (.ix a b) fr h=.bad:=by rw[ev,(eK a z).1];rfl
  exact⟨q,by rw[aE,q];rfl;all_goals (intros;contradiction)⟩
 |.me m o es,fr,h,r,z=>by
  simp only[xe]at z;have q:ev P (.me m o es) fr h=.bad:=by
   rw[ev];cases y:ev P o fr h with
   |ok x h1=>
    rw[y]at z;simp only at z;split at z
    .rename_i k;simp only[ak,if_pos k];rw[vn es z];rfl
    .cases z
   |bad=>rfl
  exact⟨q,by rw[aE,q];rfl;all_goals (intros;contradiction)⟩
 |.c _,_,_,_,z=>nomatch z|.v _,_,_,_,z=>nomatch z|.tup _,_,_,_,z=>nomatch z|.lst _,_,_,_,z=>nomatch z
 |.bin _ _ _,_,_,_,z=>nomatch z|.cmp _ _ _,_,_,_,z=>nomatch z
 |.nt _,_,_,_,z=>nomatch z|.neg _,_,_,_,z=>nomatch z|.an _ _,_,_,_,z=>nomatch z|.orr _ _,_,_,_,z=>nomatch z|.iL _ _ _,_,_,_,z=>nomatch z
 |.sl _ _ _,_,_,_,z=>nomatch z
 |.bi _ _,_,_,_,z=>nomatch z
 |.fK _ _,_,_,_,z=>nomatch z
 |.comp _ _ _ _,_,_,_,z=>nomatch z|.eH _,_,_,_,z=>nomatch z
 |.jN _ _,_,_,_,z=>nomatch z|.jm _,_,_,_,z=>nomatch z
theorem vn:∀(es:Es) {fr:Fr}{h:Hh}{r:Nat×Hh},xa P X es fr h=some r->bS P es fr h=.bad
 |.nil,_,_,_,z=>nomatch z
 |.cons e es,fr,h,r,z=>by
  simp only[xa]at z;rw[bS];cases y:ev P e fr h with
  |ok d h1=>rw[y]at z;simp only[ak];rw[vn es z];rfl
  |bad=>rfl
end
omit hX in
theorem iE{f:D->Fr->Hh->R (Fl×Fr)}{g:D->Fr->Hh->XR}{ck:List (Nat×List D)}(hg:∀d fr h r,g d fr h=some r->f d fr h=.bad):∀(ds:List D) {fr:Fr}{h:Hh}{r:Nat×Hh},fW f g ck ds fr h=some r->forL f ck ds fr h=.bad
 |[],_,_,_,z=>nomatch z
 |d :: ds,fr,h,r,z=>by
  simp only[fW]at z;split at z
  case isFalse=>cases z
  rename_i k;simp only[forL,if_pos k];split at z
  .rename_i e;rw[e];exact iE hg ds z
  .rename_i e;rw[e];exact iE hg ds z
  .cases z
  .rw[hg _ _ _ _ z];rfl
omit hX in
theorem iF{t:Fr->Hh->R Bool}{f:Fr->Hh->R (Fl×Fr)}{g:Fr->Hh->XR}(hg:∀fr h r,g fr h=some r->f fr h=.bad):∀(n:Nat) {fr:Fr}{h:Hh}{r:Nat×Hh},eW t f g n fr h=some r->dG t f n fr h=.bad
 |0,_,_,_,z=>nomatch z
 |n+1,fr,h,r,z=>by
  simp only[eW]at z;split at z
  case h_2=>cases z
  rename_i e0;simp only[dG,e0,ak,if_true];split at z
  .rename_i e;rw[e];exact iF hg n z
  .rename_i e;rw[e];exact iF hg n z
  .cases z
  .rw[hg _ _ _ z];rfl
mutual
theorem nF:∀(s:S) {fr:Fr}{h:Hh}{r:Nat×Hh},xs P X w s fr h=some r->ex P w s fr h=.bad
 |.fk c,_,_,_,_=>by rw[ex]
 |.set i e,fr,h,r,z=>by rw[ex,(eK hX e z).1];rfl
 |.exp e,fr,h,r,z=>by rw[ex,(eK hX e z).1];rfl
 |.ret e,fr,h,r,z=>by rw[ex,(eK hX e z).1];rfl
 |.iff t a b,fr,h,r,z=>by
  simp only[xs]at z;rw[ex];cases y:aE P t fr h with
  |bad=>rfl
  |ok k h1=>
   rw[y]at z;simp only at z;simp only[ak];cases k with
   |true=>exact dh a z
   |false=>exact dh b z
 |.for t it b,fr,h,r,z=>by
  simp only[xs]at z;rw[ex];cases y:b8 P it fr h with
  |bad=>rfl
  |ok s h1=>
   rw[y]at z;simp only at z;simp only[ak];refine iE (λd fr h r q=>?_) _ z;cases k:bD t d fr with
   |none=>rw[k]at q
   |some bE=>rw[k]at q;exact dh b q
 |.jH t b,fr,h,r,z=>by
  simp only[xs]at z;rw[ex];exact iF (λfr h r q=>dh b q) _ z
 |.iW _ _,_,_,_,z=>nomatch z
 |.tr _ _ _,_,_,_,z=>nomatch z
theorem dh:∀(s:Ss) {fr:Fr}{h:Hh}{r:Nat×Hh},xss P X w s fr h=some r->exs P w s fr h=.bad
 |.nil,_,_,_,z=>nomatch z
 |.cons s ss,fr,h,r,z=>by
  simp only[xss]at z;rw[exs];split at z
  .rename_i e;rw[e];exact dh ss z
  .cases z
  .rw[nF s z];rfl
end
end
theorem qg(F:List Fn)(w:Nat):∀(n f:Nat) (ds:List D) (h:Hh) (r:Nat×Hh),cD F w n f ds h=some r->run F w n f ds h=.bad
 |0,_,_,_,_,_=>rfl
 |n+1,f,ds,h,r,z=>by
  rw[iZ]at z;rw[gy];cases y:F[f]? with
  |none=>rw[y]at z;cases z
  |some fn=>
   rw[y]at z;simp only at z ⊢;split at z
   .rename_i k;rw[if_pos k,dh (qg F w n) _ z];rfl
   .cases z
end Ev
set_option maxRecDepth 100000
namespace Sm
open PySem PySem.Spec PyProof.Rows L2
noncomputable def aS(l:List Nat):Str:=⟨l.toArray⟩
theorem cR(l:List Nat):(aS l).length=l.length:=by simp[aS,Str.length]
theorem yo{a b:List Nat}(h:aS a=aS b):a=b:=by
 have h1:a.toArray=b.toArray:=congrArg Str.cps h;simpa using congrArg Array.toList h1
theorem ja:Ev.big=sizeLine:=by rw[sizeLine_eq];rfl
section
variable(K:PySem.W.Frag)
mutual
noncomputable def RV(H:Hp)(r:List Addr):Ev.D->V->Prop
 |.aL,v=>v=.aL
 |.bl b,v=>v=.bl b
 |.int i,v=>v=.int i
 |.str s,v=>v=.str (aS s)/\s.length<=sizeLine
 |.ref n,v=>∃a,v=.ref a/\r[n]?=some a
 |.tup ds,v=>∃a vs,v=.ref a/\dR K H a vs/\aD H r ds vs
noncomputable def aD(H:Hp)(r:List Addr):List Ev.D->List V->Prop
 |[],vs=>vs=[]
 |d :: ds,vs=>∃v w,vs=v :: w/\RV H r d v/\aD H r ds w
end
noncomputable def Ab(H:Hp)(a:Addr)(vs:List V):Prop:=(∃o,H a=some (.bP o (.lst vs)))\/
 ∃(o:Obj) (its:Array Value) (n:Nat),K.lookup a=some o/\o.cls=.type "list" /\o.dict=none/\o.data=.seq its n/\its.size<=sizeLine/\Vals vs its.toList
noncomputable def RO(H:Hp)(r:List Addr):Ev.O->Addr->Prop
 |.lst ds,a=>∃vs,H a=some (.lst vs)/\aD K H r ds vs
 |.bP ds,a=>∃vs,Ab K H a vs/\aD K H r ds vs
structure HR(H:Hp)(r:List Addr)(h:Ev.Hh):Prop where
 len:r.length=h.length
 ob:∀(n:Nat) o,h[n]?=some o->∃a,r[n]?=some a/\RO K H r o a
 inj:∀(n m:Nat) a x y,r[n]?=some a->r[m]?=some a->h[n]?=some (.lst x)->h[m]?=some (.lst y)->n=m
structure Fm(r r':List Addr)(H H':Hp):Prop where
 pre:∀(n:Nat) a,r[n]?=some a->r'[n]?=some a
 new:∀a∈r',a∈r\/H a=none
 keep:∀a o,H a=some o->a∉r->H' a=some o
 tups:∀a vs,dR K H a vs->dR K H' a vs
end
section
variable{K:PySem.W.Frag}{H H1 H2:Hp}{r r1 r2:List Addr}{h:Ev.Hh}
theorem Fm.refl:Fm K r r H H:=⟨λ_ _ e=>e,λ_ e=>.inl e,λ_ _ e _=>e,λ_ _ e=>e⟩
theorem Fm.trans(a:Fm K r r1 H H1)(b:Fm K r1 r2 H1 H2):Fm K r r2 H H2 where
 pre:=λn x e=>b.pre n x (a.pre n x e)
 new:=λx e=>by
  rcases b.new x e with q|q
  .exact a.new x q
  .by_cases z:x∈r
   .exact .inl z
   .refine .inr ?_;cases w:H x with
    |none=>rfl
    |some o=>rw[a.keep x o w z]at q;cases q
 keep:=λx o e n=>by
  refine b.keep x o (a.keep x o e n) λz=>?_;rcases a.new x z with q|q
  .exact n q
  .rw[e]at q;cases q
 tups:=λx vs e=>b.tups x vs (a.tups x vs e)
mutual
theorem RV.grow(f:∀(n:Nat) a,r[n]?=some a->r1[n]?=some a)(g:∀a vs,dR K H a vs->dR K H1 a vs):∀{d:Ev.D}{v:V},RV K H r d v->RV K H1 r1 d v
 |.aL,_,e=>e
 |.bl _,_,e=>e
 |.int _,_,e=>e
 |.str _,_,e=>e
 |.ref n,_,⟨a,e,z⟩=>⟨a,e,f n a z⟩
 |.tup ds,_,⟨a,vs,e,z,q⟩=>⟨a,vs,e,g a vs z,aD.grow f g q⟩
theorem aD.grow(f:∀(n:Nat) a,r[n]?=some a->r1[n]?=some a)(g:∀a vs,dR K H a vs->dR K H1 a vs):∀{ds:List Ev.D}{vs:List V},aD K H r ds vs->aD K H1 r1 ds vs
 |[],_,e=>e
 |_ :: _,_,⟨v,w,e,z,q⟩=>⟨v,w,e,RV.grow f g z,aD.grow f g q⟩
end
theorem RV.mono(f:Fm K r r1 H H1){d:Ev.D}{v:V}(q:RV K H r d v):RV K H1 r1 d v:=q.grow f.pre f.tups
theorem aD.mono(f:Fm K r r1 H H1){ds:List Ev.D}{vs:List V}(q:aD K H r ds vs):aD K H1 r1 ds vs:=q.grow f.pre f.tups
theorem aD.nil:aD K H r [] []:=by simp[aD]
theorem aD.cons{d:Ev.D}{v:V}{ds:List Ev.D}{vs:List V}(a:RV K H r d v)(b:aD K H r ds vs):aD K H r (d :: ds) (v :: vs):=by
 simp only[aD];exact⟨v,vs,rfl,a,b⟩
theorem aD.length:∀{ds:List Ev.D}{vs:List V},aD K H r ds vs->vs.length=ds.length
 |[],_,e=>by simp only[aD]at e;subst e;rfl
 |_ :: _,_,e=>by
  simp only[aD]at e;obtain⟨v,w,rfl,_,q⟩:=e;simp[aD.length q]
theorem aD.get:∀{ds:List Ev.D}{vs:List V}{i:Nat}{d:Ev.D},aD K H r ds vs->ds[i]?=some d->∃v,vs[i]?=some v/\RV K H r d v
 |[],_,_,_,_,e=>by simp at e
 |_ :: _,_,0,_,h,e=>by
  simp only[aD]at h;obtain⟨v,w,rfl,z,q⟩:=h;simp at e;subst e;exact⟨v,by simp,z⟩
 |_ :: _,_,i+1,_,h,e=>by
  simp only[aD]at h;obtain⟨v,w,rfl,z,q⟩:=h;obtain⟨u,a,b⟩:=aD.get (i:=i) q (by simpa using e);exact⟨u,by simpa using a,b⟩
theorem aD.append:∀{ds es:List Ev.D}{vs ws:List V},aD K H r ds vs->aD K H r es ws->aD K H r (ds++es) (vs++ws)
 |[],_,_,_,a,b=>by simp only[aD]at a;subst a;simpa using b
 |_ :: _,_,_,_,a,b=>by
  simp only[aD]at a;obtain⟨v,w,rfl,z,q⟩:=a;simp only[List.cons_append];exact .cons z (aD.append q b)
theorem aD.take:∀{ds:List Ev.D}{vs:List V}(n:Nat),aD K H r ds vs->aD K H r (ds.take n) (vs.take n)
 |_,_,0,_=>by simp[aD]
 |[],_,_+1,a=>by simp only[aD]at a;subst a;simp[aD]
 |_ :: _,_,n+1,a=>by
  simp only[aD]at a;obtain⟨v,w,rfl,z,q⟩:=a;simp only[List.take_succ_cons];exact .cons z (aD.take n q)
theorem aD.drop:∀{ds:List Ev.D}{vs:List V}(n:Nat),aD K H r ds vs->aD K H r (ds.drop n) (vs.drop n)
 |_,_,0,a=>by simpa using a
 |[],_,_+1,a=>by simp only[aD]at a;subst a;simp[aD]
 |_ :: _,_,n+1,a=>by
  simp only[aD]at a;obtain⟨v,w,rfl,z,q⟩:=a;simp only[List.drop_succ_cons];exact aD.drop n q
theorem aD.reverse:∀{ds:List Ev.D}{vs:List V},aD K H r ds vs->aD K H r ds.reverse vs.reverse
 |[],_,a=>by simp only[aD]at a;subst a;simp[aD]
 |_ :: _,_,a=>by
  simp only[aD]at a;obtain⟨v,w,rfl,z,q⟩:=a;simp only[List.reverse_cons];exact(aD.reverse q).append (.cons z .nil)
theorem aD.set:∀{ds:List Ev.D}{vs:List V}(i:Nat) {d:Ev.D}{v:V},aD K H r ds vs->RV K H r d v->aD K H r (ds.set i d) (vs.set i v)
 |[],_,_,_,_,a,_=>by simp only[aD]at a;subst a;simp[aD]
 |_ :: _,_,0,_,_,a,b=>by
  simp only[aD]at a;obtain⟨v,w,rfl,z,q⟩:=a;simp only[List.set_cons_zero];exact .cons b q
 |_ :: _,_,i+1,_,_,a,b=>by
  simp only[aD]at a;obtain⟨v,w,rfl,z,q⟩:=a;simp only[List.set_cons_succ];exact .cons z (aD.set i q b)
theorem aD.rep{ds:List Ev.D}{vs:List V}(a:aD K H r ds vs):∀k:Nat,aD K H r (Ev.rep k ds) (Ev.rep k vs)
 |0=>by simp[Ev.rep,aD]
 |k+1=>by
  have h:=aD.rep a k;simp only[Ev.rep,List.replicate_succ,List.flatten_cons]at h ⊢;exact a.append h
theorem Fm.laid{p:Addr}{o:HO}(hp:H p=none):Fm K r (r++[p]) H (upd H p o) where
 pre:=λn a e=>by rw[List.getElem?_append_left (List.getElem?_eq_some_iff.mp e).1];exact e
 new:=λa e=>by
  rcases List.mem_append.mp e with q|q
  .exact .inl q
  .rw[List.mem_singleton]at q;subst q;exact .inr hp
 keep:=λa ob e _=>by rw[bx (bV e hp)];exact e
 tups:=λa vs e=>by
  rcases e with (e|⟨ob,e⟩)|e
  .exact .inl (.inl (by rw[bx (bV e hp)];exact e))
  .exact .inl (.inr ⟨ob,by rw[bx (bV e hp)];exact e⟩)
  .exact .inr e
theorem Fm.tup{p:Addr}{o:HO}(hp:H p=none):Fm K r r H (upd H p o) where
 pre:=λn a e=>e
 new:=λa e=>.inl e
 keep:=λa ob e _=>by rw[bx (bV e hp)];exact e
 tups:=(Fm.laid (r:=r) hp).tups
theorem RO.mono{o:Ev.O}{a:Addr}(f:Fm K r r1 H H1)(q:RO K H r o a)(hl:∀ds vs,o=.lst ds->H a=some (.lst vs)->H1 a=some (.lst vs))(hf:∀ob vs,H a=some (.bP ob vs)->H1 a=some (.bP ob vs))
  : RO K H1 r1 o a:=by
 cases o with
 |lst ds=>
  obtain⟨vs,e,z⟩:=q;exact⟨vs,hl ds vs rfl e,z.mono f⟩
 |bP ds=>
  obtain⟨vs,e,z⟩:=q;refine⟨vs,?_,z.mono f⟩;rcases e with ⟨ob,e⟩|e
  .exact .inl ⟨ob,hf _ _ e⟩
  .exact .inr e
theorem HR.tup{p:Addr}{o:HO}(hr:HR K H r h)(hp:H p=none):HR K (upd H p o) r h where
 len:=hr.len
 ob:=λn ob e=>by
  obtain⟨a,e1,q⟩:=hr.ob n ob e;exact⟨a,e1,q.mono (Fm.tup hp) (λ_ vs _ z=>by rw[bx (bV z hp)];exact z) (λ_ _ z=>by rw[bx (bV z hp)];exact z)
   ⟩
 inj:=hr.inj
theorem HR.lst{p:Addr}{ds:List Ev.D}{vs:List V}(hr:HR K H r h)(hp:H p=none)(q:aD K H r ds vs):HR K (upd H p (.lst vs)) (r++[p]) (h++[.lst ds]) where
 len:=by simp[hr.len]
 ob:=λn ob e=>by
  by_cases hn:n<h.length
  .rw[List.getElem?_append_left hn]at e;obtain⟨a,e1,z⟩:=hr.ob n ob e;exact⟨a,(Fm.laid (K:=K) (o:=.lst vs) hp).pre n a e1,z.mono (Fm.laid hp) (λ_ vs _ z=>by rw[bx (bV z hp)];exact z) (λ_ _ z=>by rw[bx (bV z hp)];exact z)
    ⟩
  .have e2:=(List.getElem?_eq_some_iff.mp e).1;simp only[List.length_append,List.length_singleton]at e2;have e3:n=h.length:=by omega
   subst e3;simp at e;subst e;exact⟨p,by rw[<-hr.len];simp,vs,cW,q.mono (Fm.laid hp)⟩
 inj:=λn m a x y e1 e2 e3 e4=>by
  have out:∀(k:Nat) z,(h++[Ev.O.lst ds])[k]?=some (.lst z)->(r++[p])[k]?=some a->(k<h.length/\r[k]?=some a/\h[k]?=some (.lst z)/\a≠p)\/(k=h.length/\a=p):=λk z q1 q2=>by
   by_cases hk:k<h.length
   .rw[List.getElem?_append_left hk]at q1;rw[List.getElem?_append_left (by rw[hr.len];exact hk)]at q2;obtain⟨b,e5,vs',e6,_⟩:=hr.ob k _ q1;rw[q2]at e5;cases e5;exact .inl ⟨hk,q2,q1,bV e6 hp⟩
   .have e5:=(List.getElem?_eq_some_iff.mp q1).1;simp only[List.length_append,List.length_singleton]at e5;have e6:k=r.length:=by rw[hr.len];omega
    subst e6;simp at q2;exact .inr ⟨hr.len,q2.symm⟩
  rcases out n x e3 e1 with ⟨h1,h2,h3,h4⟩|⟨h1,h2⟩
  .rcases out m y e4 e2 with ⟨k1,k2,k3,k4⟩|⟨k1,k2⟩
   .exact hr.inj n m a x y h2 k2 h3 k3
   .exact absurd k2 h4
  .rcases out m y e4 e2 with ⟨k1,k2,k3,k4⟩|⟨k1,k2⟩
   .exact absurd h2 k4
   .rw[h1,k1]
theorem HR.read{n:Nat}{ds:List Ev.D}(hr:HR K H r h)(e:Ev.aW h n=some ds):∃a vs,r[n]?=some a/\ef K H a vs/\aD K H r ds vs:=by
 unfold Ev.aW at e;split at e
 .rename_i z;cases e;obtain⟨a,e1,vs,e2,e3⟩:=hr.ob n _ z;exact⟨a,vs,e1,.inl (.inl e2),e3⟩
 .rename_i z;cases e;obtain⟨a,e1,vs,e2,e3⟩:=hr.ob n _ z;refine⟨a,vs,e1,?_,e3⟩;rcases e2 with ⟨ob,e2⟩|e2
  .exact .inl (.inr ⟨ob,e2⟩)
  .exact .inr e2
 .cases e
theorem Fm.write{a:Addr}{vs ws:List V}(ha:H a=some (.lst vs))(hm:a∈r):Fm K r r H (upd H a (.lst ws)) where
 pre:=λn b e=>e
 new:=λb e=>.inl e
 keep:=λb ob e n=>by rw[bx (λz=>n (by rw[z];exact hm))];exact e
 tups:=λb us e=>by
  rcases e with (e|⟨ob,e⟩)|e
  .exact .inl (.inl (by rw[bx (qB e ha (by intro z;cases z))];exact e))
  .exact .inl (.inr ⟨ob,by rw[bx (qB e ha (by intro z;cases z))];exact e⟩)
  .exact .inr e
theorem HR.write{n:Nat}{a:Addr}{ds es:List Ev.D}{vs ws:List V}(hr:HR K H r h)(hn:h[n]?=some (.lst ds))(Lp:r[n]?=some a)(ha:H a=some (.lst vs))(q:aD K H r es ws) :
  HR K (upd H a (.lst ws)) r (h.set n (.lst es)) where
 len:=by simp[hr.len]
 ob:=λm ob e=>by
  have f:=Fm.write (K:=K) (ws:=ws) ha (List.mem_of_getElem? Lp);by_cases hm:m=n
  .subst hm;rw[List.getElem?_set_self (List.getElem?_eq_some_iff.mp hn).1]at e;cases e;exact⟨a,Lp,ws,cW,q.mono f⟩
  .rw[List.getElem?_set_ne (λz=>hm z.symm)]at e;obtain⟨b,e1,z⟩:=hr.ob m ob e;refine⟨b,e1,z.mono f (λVS us z3 z2=>?_) (λXD us z2=>by rw[bx (qB z2 ha (by intro z;cases z))];exact z2)
    ⟩
   by_cases hb:b=a
   .subst hb;subst z3;exact absurd (hr.inj m n b VS ds e1 Lp e hn) hm
   .rw[bx hb];exact z2
 inj:=λk m b x y e1 e2 e3 e4=>by
  have back:∀(j:Nat) z,(h.set n (Ev.O.lst es))[j]?=some (.lst z)->∃z',h[j]?=some (.lst z'):=λj z w=>by
   by_cases hj:j=n
   .subst hj;exact⟨ds,hn⟩
   .rw[List.getElem?_set_ne (λz=>hj z.symm)]at w;exact⟨z,w⟩
  obtain⟨x',e5⟩:=back k x e3;obtain⟨y',e6⟩:=back m y e4;exact hr.inj k m b x' y' e1 e2 e5 e6
theorem jb{p:Addr}{vs ws:List V}(hp:H p=some (.lst vs)):∀a us,dR K H a us->dR K (upd H p (.lst ws)) a us:=λb us e=>by
 rcases e with (e|⟨ob,e⟩)|e
 .exact .inl (.inl (by rw[bx (qB e hp (by intro z;cases z))];exact e))
 .exact .inl (.inr ⟨ob,by rw[bx (qB e hp (by intro z;cases z))];exact e⟩)
 .exact .inr e
theorem HR.other{p:Addr}{vs ws:List V}(hr:HR K H r h)(hp:H p=some (.lst vs))(hn:p∉r):HR K (upd H p (.lst ws)) r h where
 len:=hr.len
 ob:=λn ob e=>by
  obtain⟨a,e1,q⟩:=hr.ob n ob e;have ha:a≠p:=λz=>hn (by rw[<-z];exact List.mem_of_getElem? e1);refine⟨a,e1,?_⟩;cases ob with
  |lst ds=>
   obtain⟨us,e2,e3⟩:=q;exact⟨us,by rw[bx ha];exact e2,e3.grow (λ_ _ z=>z) (jb hp)⟩
  |bP ds=>
   obtain⟨us,e2,e3⟩:=q;refine⟨us,?_,e3.grow (λ_ _ z=>z) (jb hp)⟩;rcases e2 with ⟨o,e2⟩|e2
   .exact .inl ⟨o,by rw[bx ha];exact e2⟩
   .exact .inr e2
 inj:=hr.inj
theorem Fm.other{p:Addr}{vs ws:List V}(f:Fm K r r1 H H1)(h0:H p=none)(hp:H1 p=some (.lst vs)):Fm K r r1 H (upd H1 p (.lst ws)) where
 pre:=f.pre
 new:=f.new
 keep:=λa o e n=>by rw[bx (bV e h0)];exact f.keep a o e n
 tups:=λa us e=>jb hp a us (f.tups a us e)
theorem Fm.gu{p:Addr}{o:HO}(f:Fm K r r1 H H1)(hp:H p=some o)(hn:p∉r):p∉r1/\H1 p=some o:=by
 refine⟨λz=>?_,f.keep p o hp hn⟩;rcases f.new p z with q|q
 .exact hn q
 .rw[hp]at q;cases q
theorem HR.known{p:Addr}{ds:List Ev.D}{vs:List V}(hr:HR K H r h)(hp:H p=some (.lst vs))(hn:p∉r)(q:aD K H r ds vs):HR K H (r++[p]) (h++[.lst ds]):=by
 have pre:∀(n:Nat) a,r[n]?=some a->(r++[p])[n]?=some a:=λn a e=>by rw[List.getElem?_append_left (List.getElem?_eq_some_iff.mp e).1];exact e
 refine⟨by simp[hr.len],λn ob e=>?_,λn m a x y e1 e2 e3 e4=>?_
  ⟩
 .by_cases hk:n<h.length
  .rw[List.getElem?_append_left hk]at e;obtain⟨a,e1,z⟩:=hr.ob n ob e;refine⟨a,pre n a e1,?_⟩;cases ob with
   |lst ds=>obtain⟨us,e2,e3⟩:=z;exact⟨us,e2,e3.grow pre λ_ _ z=>z⟩
   |bP ds=>obtain⟨us,e2,e3⟩:=z;exact⟨us,e2,e3.grow pre λ_ _ z=>z⟩
  .have e2:=(List.getElem?_eq_some_iff.mp e).1;simp only[List.length_append,List.length_singleton]at e2;have e3:n=h.length:=by omega
   subst e3;simp at e;subst e;exact⟨p,by rw[<-hr.len];simp,vs,hp,q.grow pre λ_ _ z=>z⟩
 .have out:∀(k:Nat) z,(h++[Ev.O.lst ds])[k]?=some (.lst z)->(r++[p])[k]?=some a->(k<h.length/\r[k]?=some a/\h[k]?=some (.lst z)/\a≠p)\/(k=h.length/\a=p):=λk z q1 q2=>by
   by_cases hk:k<h.length
   .rw[List.getElem?_append_left hk]at q1;rw[List.getElem?_append_left (by rw[hr.len];exact hk)]at q2;exact .inl ⟨hk,q2,q1,λz=>hn (by rw[<-z];exact List.mem_of_getElem? q2)⟩
   .have e5:=(List.getElem?_eq_some_iff.mp q1).1;simp only[List.length_append,List.length_singleton]at e5;have e6:k=r.length:=by rw[hr.len];omega
    subst e6;simp at q2;exact .inr ⟨hr.len,q2.symm⟩
  rcases out n x e3 e1 with ⟨h1,h2,h3,h4⟩|⟨h1,h2⟩
  .rcases out m y e4 e2 with ⟨k1,k2,k3,k4⟩|⟨k1,k2⟩
   .exact hr.inj n m a x y h2 k2 h3 k3
   .exact absurd k2 h4
  .rcases out m y e4 e2 with ⟨k1,k2,k3,k4⟩|⟨k1,k2⟩
   .exact absurd h2 k4
   .rw[h1,k1]
theorem Fm.known{p:Addr}(f:Fm K r r1 H H1)(h0:H p=none):Fm K r (r1++[p]) H H1 where
 pre:=λn a e=>by
  have e':=f.pre n a e;rw[List.getElem?_append_left (List.getElem?_eq_some_iff.mp e').1];exact e'
 new:=λa e=>by
  rcases List.mem_append.mp e with q|q
  .exact f.new a q
  .rw[List.mem_singleton]at q;subst q;exact .inr h0
 keep:=f.keep
 tups:=f.tups
end
end Sm
set_option maxRecDepth 100000
namespace Sm
open PySem PySem.Spec PyProof.Rows L2
open Ev (D O Hh Fr R aI E Es Eo It T S Ss Fl Src bF bu TY BI ME)
section
variable(K:PySem.W.Frag)
noncomputable def Res(r:List Addr)(H:Hp)(h':Hh)(d:D)(Q:VK):Prop:=∀v H' r',RV K H' r' d v->HR K H' r' h'->Fm K r r' H H'->Q v H'
structure SR(m:List Nat)(H:Hp)(r:List Addr)(fr:Fr)(s:L2.St):Prop where
 len:s.length=m.length
 sl:∀(j i:Nat) d,m[j]?=some i->fr[i]?=some (some d)->∃v,s[j]?=some (some v)/\RV K H r d v
inductive tJ(m:List Nat)(P:aI)(e:E)(s:L2.St)(H:Hp)(Q:VK):Prop
 |mk (r:List Addr) (fr:Fr) (h:Hh) (d:D) (h':Hh) (c0:SR K m H r fr s) (c1:HR K H r h) (c2:Ev.ev P e fr h=.ok d h') (c3:Res K r H h' d Q):tJ m P e s H Q
inductive Lq(m:List Nat)(P:aI)(e:E)(s:L2.St)(H:Hp)(Q:Bool->Hp->Prop):Prop
 |mk (r:List Addr) (fr:Fr) (h:Hh) (k:Bool) (h':Hh) (c0:SR K m H r fr s) (c1:HR K H r h) (c2:Ev.aE P e fr h=.ok k h') (c3:∀H' r',HR K H' r' h'->Fm K r r' H H'->Q k H'):Lq m P e s H Q
inductive Lr(m:List Nat)(P:aI)(es:Es)(s:L2.St)(H:Hp)(Q:List V->Hp->Prop):Prop
 |mk (r:List Addr) (fr:Fr) (h:Hh) (ds:List D) (h':Hh) (c0:SR K m H r fr s) (c1:HR K H r h) (c2:Ev.bS P es fr h=.ok ds h') (c3:∀vs H' r',aD K H' r' ds vs->HR K H' r' h'->Fm K r r' H H'->Q vs H'):Lr m P es s H Q
inductive R0(m:List Nat)(P:aI)(e:Eo)(s:L2.St)(H:Hp)(Q:Option Int->Hp->Prop):Prop
 |mk (r:List Addr) (fr:Fr) (h:Hh) (o:Option Int) (h':Hh) (c0:SR K m H r fr s) (c1:HR K H r h) (c2:Ev.gw P e fr h=.ok o h') (c3:∀H' r',HR K H' r' h'->Fm K r r' H H'->Q o H'):R0 m P e s H Q
inductive iN(f:D->D->Hh->R D)(x:V)(y:V)(H:Hp)(Q:VK):Prop
 |mk (r:List Addr) (h:Hh) (a:D) (b:D) (d:D) (h':Hh) (c0:HR K H r h) (c1:RV K H r a x) (c2:RV K H r b y) (c3:f a b h=.ok d h') (c4:Res K r H h' d Q):iN f x y H Q
inductive VT(f:D->Hh->R D)(x:V)(H:Hp)(Q:VK):Prop
 |mk (r:List Addr) (h:Hh) (a:D) (d:D) (h':Hh) (c0:HR K H r h) (c1:RV K H r a x) (c2:f a h=.ok d h') (c3:Res K r H h' d Q):VT f x H Q
inductive yp(f:List D->Hh->R D)(xs:List V)(H:Hp)(Q:VK):Prop
 |mk (r:List Addr) (h:Hh) (as:List D) (d:D) (h':Hh) (c0:HR K H r h) (c1:aD K H r as xs) (c2:f as h=.ok d h') (c3:Res K r H h' d Q):yp f xs H Q
inductive vp(f:D->List D->Hh->R D)(x:V)(xs:List V)(H:Hp)(Q:VK):Prop
 |mk (r:List Addr) (h:Hh) (a:D) (as:List D) (d:D) (h':Hh) (c0:HR K H r h) (c1:RV K H r a x) (c2:aD K H r as xs) (c3:f a as h=.ok d h') (c4:Res K r H h' d Q):vp f x xs H Q
inductive Ls  (x:V) (lo:Option Int) (hi:Option Int) (H:Hp) (Q:VK):Prop
 |mk (r:List Addr) (h:Hh) (a:D) (d:D) (h':Hh) (c0:HR K H r h) (c1:RV K H r a x) (c2:Ev.gg a lo hi h=.ok d h') (c3:Res K r H h' d Q):Ls x lo hi H Q
end
section
variable{K:PySem.W.Frag}{m:List Nat}{H H':Hp}{r r':List Addr}{fr:Fr}{s:L2.St}{h h':Hh}{d:D}{Q:VK}
theorem SR.mono(a:SR K m H r fr s)(f:Fm K r r' H H'):SR K m H' r' fr s:=⟨a.len,λj i d e1 e2=>by
 obtain⟨v,q,z⟩:=a.sl j i d e1 e2;exact⟨v,q,z.mono f⟩⟩
theorem Res.here{v:V}(q:Res K r H h d Q)(a:RV K H r d v)(b:HR K H r h):Q v H:=q v H r a b .refl
theorem Res.later(q:Res K r H h' d Q)(f:Fm K r r' H H'):Res K r' H' h' d Q:=λv H2 r2 a b g=>q v H2 r2 a b (f.trans g)
theorem Res.lst{ds:List D}{vs:List V}(q:Res K r H h' d Q)(e:Ev.alloc ds h=.ok d h')(a:aD K H r ds vs)(b:HR K H r h):vs.length<=sizeLine/\∀p,H p=none->Q (.ref p) (upd H p (.lst vs)):=by
 unfold Ev.alloc at e;split at e
 .rename_i z;cases e;refine⟨by rw[a.length,<-ja];exact z,λp hp=>?_⟩;exact q _ _ (r++[p]) ⟨p,rfl,by rw[<-b.len];simp⟩ (b.lst hp a) (.laid hp)
 .cases e
theorem Res.tup{ds:List D}{vs:List V}(q:Res K r H h (.tup ds) Q)(a:aD K H r ds vs)(b:HR K H r h){p:Addr}(hp:H p=none):Q (.ref p) (upd H p (.tup vs)):=
 q _ _ r ⟨p,vs,rfl,.of cW,a.mono (.tup hp)⟩ (b.tup hp) (.tup hp)
end
theorem PE.of{X:Cx}{e:Expr}{t t':TE}(h:PE X e t)(w:∀s H Q,t' s H Q->t s H Q):PE X e t':=λpins s σ H Q I q=>h pins s σ H Q I (w _ _ _ q)
theorem PT.of{X:Cx}{e:Expr}{t t':TT}(h:PT X e t)(w:∀s H Q,t' s H Q->t s H Q):PT X e t':=λpins s σ H Q I q=>h pins s σ H Q I (w _ _ _ q)
theorem PW.of{X:Cx}{e:Expr}{t t':TT}(h:PW X e t)(w:∀s H Q,t' s H Q->t s H Q):PW X e t':=λwh pins s σ H Q I q=>h wh pins s σ H Q I (w _ _ _ q)
theorem PA.of{X:Cx}{es:List Expr}{t t':TA}(h:PA X es t)(w:∀s H Q,t' s H Q->t s H Q):PA X es t':=λpos pins s σ H Q I q=>h pos pins s σ H Q I (w _ _ _ q)
theorem PO.of{X:Cx}{e:Option Expr}{t t':TO}(h:PO X e t)(w:∀s H Q,t' s H Q->t s H Q):PO X e t':=λpins s σ H Q I q=>h pins s σ H Q I (w _ _ _ q)
structure FI where
 name:Str
 addr:Addr
 fd:FuncData
 ps:List Str
noncomputable def mW(K:PySem.W.Frag)(F:List Ev.Fn)(w n f:Nat):Sp:=λvs H Q _=>∃r h ds d h',aD K H r ds vs/\HR K H r h/\Ev.run F w n f ds h=.ok d h'/\Res K r H h' d Q
noncomputable def yq(K:PySem.W.Frag)(d:D)(v:V):Prop:=∀H r,RV K H r d v
theorem yq.rv{K:PySem.W.Frag}{H:Hp}{r:List Addr}{d:D}{v:V}(h:yq K d v):RV K H r d v:=h H r
structure Tb where
 F:List Ev.Fn
 w:Nat
 fi:List FI
 bl:List Str
 cs:List (Str×D)
 dk:List (Str×List (D×D))
noncomputable def tabOf:List (D×D)->List (PyData×PyData)
 | (.str k,.str v) :: r=>(.str (aS k),.str (aS v)) :: tabOf r
 |_=>[]
structure Good(G:Tb)(n:Nat)(sc:Scope)(N:List Str)(df:Bool)(X:Cx):Prop where
 nm:X.N=N
 sc:X.env.scope=sc
 calm:X.calm=true
 own:df=true->∀x,X.fn x=true
 room:gU n X.A
 xe:X.xe=λ_ _=>False
 fn:∀(f:Nat) i,G.fi[f]?=some i->X.mg i.name=some (.ref i.addr)/\PySem.W.keepIn X.K (.ref i.addr)=true/\Binds X.K i.fd i.ps []/\fJ X.prog X.w X.K X.mg X.base jQ n i.addr i.fd i.ps (mW X.K G.F G.w n f)
 bl:∀x∈G.bl,X.mg x=none
 cs:∀x d,(x,d)∈G.cs->∃v u,X.mg x=some u/\RelV v u/\yq X.K d v
 dk:∀x kvs,(x,kvs)∈G.dk->∃a,X.mg x=some (.ref a)/\∀h:Heap,X.K.In h->StrTab X.prog X.w h a (tabOf kvs)
section
variable(G:Tb)(n:Nat)(sc:Scope)(N:List Str)(df:Bool)(m:List Nat)
noncomputable def JE(e:E)(x:Expr):Prop:=∀X,Good G n sc N df X->PE X x (tJ X.K m (Ev.run G.F G.w n) e)
noncomputable def JT(e:E)(x:Expr):Prop:=∀X,Good G n sc N df X->PT X x (Lq X.K m (Ev.run G.F G.w n) e)
noncomputable def JW(e:E)(x:Expr):Prop:=∀X,Good G n sc N df X->PW X x (Lq X.K m (Ev.run G.F G.w n) e)
noncomputable def JA(es:Es)(xs:List Expr):Prop:=∀X,Good G n sc N df X->PA X xs (Lr X.K m (Ev.run G.F G.w n) es)
noncomputable def JO(e:Eo)(x:Option Expr):Prop:=∀X,Good G n sc N df X->PO X x (R0 X.K m (Ev.run G.F G.w n) e)
end
section
variable{G:Tb}{n:Nat}{sc:Scope}{N:List Str}{df:Bool}{m:List Nat}{a b c:E}{xa xb xc:Expr}{pos:Pos}
theorem Good.vis{X:Cx}(g:Good G n sc N df X){x:Str}(h:sc.names.lookup x=some .local\/sc.names.lookup x=some .cell\/sc.names.lookup x=some .free):tR X.env.scope x:=by
 rw[g.sc];exact h
theorem Good.gl{X:Cx}(g:Good G n sc N df X){x:Str}(h:sc.names.lookup x=some .globalImplicit):Gl X x:=by
 unfold Gl Env.kindOf;rw[g.sc];exact h
theorem Ug(j i:Nat){x:Str}(hj:m[j]?=some i:=by rfl)(hN:N[j]?=some x:=by rfl)
  (hv:sc.names.lookup x=some .local\/sc.names.lookup x=some .cell\/sc.names.lookup x=some .free:=by first|exact Or.inl rfl|exact Or.inr (Or.inl rfl)|exact Or.inr (Or.inr rfl))
  (hd:(x==("__debug__" : Str))=false:=by decide) (hcd:(x==("__classdict__" : Str))=false:=by decide):JE G n sc N df m (.v i) (.Name x pos):=by
 intro X g;refine PE.of (qD (i:=j) (by rw[g.nm];exact hN) (g.vis hv) hd hcd) λs H Q q=>?_;obtain⟨r,fr,h,d,h',sr,hr,e,q⟩:=q;simp only[Ev.ev]at e;obtain⟨e2,e3⟩:=Ev.aM e;subst e3;obtain⟨v,q1,q2⟩:=sr.sl j i d hj (by
  cases z:fr[i]? with
  |none=>rw[z]at e2;cases e2
  |some o=>
   rw[z]at e2;have e':o=some d:=e2;rw[e'])
 exact⟨v,q1,q.here q2 hr⟩
theorem uP{K:PySem.W.Frag}{P:aI}{d:D}{v:V}(hc:yq K d v):∀s H Q,tJ K m P (.c d) s H Q->tC v s H Q:=λs H Q q=>by
 obtain⟨r,fr,h,d',h',sr,hr,e,q⟩:=q;simp only[Ev.ev]at e;cases e;exact q.here hc.rv hr
theorem Lu{i:Int}{j}:JE G n sc N df m (.c (.int i)) (.Constant (.int i) j pos):=λX g=>PE.of Bf (uP λ_ _=>rfl)
theorem PD{k:Bool}{j}:JE G n sc N df m (.c (.bl k)) (.Constant (.bool k) j pos):=λX g=>PE.of Pd (uP λ_ _=>rfl)
theorem Lv{j}:JE G n sc N df m (.c .aL) (.Constant .none j pos):=λX g=>PE.of KD (uP λ_ _=>rfl)
theorem Lx{l:List Nat}{x:Str}{j}(hx:x=aS l:=by decide +kernel)(hl:l.length<=sizeLine:=by decide):JE G n sc N df m (.c (.str l)) (.Constant (.str x) j pos):=
 λX g=>PE.of Bg (uP λ_ _=>by subst hx;exact⟨rfl,hl⟩)
theorem Ly:JA G n sc N df m .nil []:=λX g=>PA.of g6 λs H Q q=>by
 obtain⟨r,fr,h,ds,h',sr,hr,e,q⟩:=q;simp only[Ev.bS]at e;cases e;exact q [] H r .nil hr .refl
theorem Ik{es:Es}{xs:List Expr}(ha:JE G n sc N df m a xa)(hs:JA G n sc N df m es xs)(hst:∀env:Env,starEach (xa :: xs) env=(false,eval xa env) :: starEach xs env:=by intro _;rfl):JA G n sc N df m (.cons a es) (xa :: xs):=
 λX g=>PA.of (cJ (ha X g) (hs X g) (hst _)) λs H Q q=>by
  obtain⟨r,fr,h,ds,h',sr,hr,e,q⟩:=q;simp only[Ev.bS]at e;obtain⟨d,h1,e1,e⟩:=Ev.ah e;obtain⟨ds',h2,e2,e⟩:=Ev.ah e;cases e;refine⟨r,fr,h,d,h1,sr,hr,e1,λv H1 r1 v1 hr1 f1=>?_⟩;refine⟨r1,fr,h1,ds',_,sr.mono f1,hr1,e2,λvs H2 r2 v2 hr2 f2=>?_⟩;exact q _ H2 r2 (.cons (v1.mono f2) v2) hr2 (f1.trans f2)
theorem Lz{es:Es}{xs:List Expr}{k}(hs:JA G n sc N df m es xs):JE G n sc N df m (.tup es) (.Tuple xs k pos):=λX g=>PE.of (Bw (hs X g)) λs H Q q=>by
 obtain⟨r,fr,h,d,h',sr,hr,e,q⟩:=q;simp only[Ev.ev]at e;obtain⟨ds,h1,e1,e⟩:=Ev.ah e;split at e
 .rename_i z;cases e;refine⟨r,fr,h,ds,_,sr,hr,e1,λvs H1 r1 v1 hr1 f1=>⟨by rw[v1.length,<-ja];exact z,λp hp=>?_⟩⟩;exact(q.later f1).tup v1 hr1 hp
 .cases e
theorem LA{es:Es}{xs:List Expr}(hs:JA G n sc N df m es xs):JE G n sc N df m (.lst es) (.List xs pos):=λX g=>PE.of (ve (hs X g)) λs H Q q=>by
 obtain⟨r,fr,h,d,h',sr,hr,e,q⟩:=q;simp only[Ev.ev]at e;obtain⟨ds,h1,e1,e⟩:=Ev.ah e;refine⟨r,fr,h,ds,h1,sr,hr,e1,λvs H1 r1 v1 hr1 f1=>?_⟩;exact(q.later f1).lst e v1 hr1
theorem qK{K:PySem.W.Frag}{P:aI}{f:D->D->Hh->R D}{e':E}(he:∀fr h,Ev.ev P e' fr h=(Ev.ev P a fr h).bind λx h1=>(Ev.ev P b fr h1).bind λy h2=>f x y h2) :
  ∀s H Q,tJ K m P e' s H Q->Bt (iN K f) (tJ K m P a) (tJ K m P b) s H Q:=λs H Q q=>by
 obtain⟨r,fr,h,d,h',sr,hr,e,q⟩:=q;rw[he]at e;obtain⟨x,h1,e1,e⟩:=Ev.ah e;obtain⟨y,h2,e2,e⟩:=Ev.ah e;refine⟨r,fr,h,x,h1,sr,hr,e1,λv H1 r1 v1 hr1 f1=>?_⟩;refine⟨r1,fr,h1,y,h2,sr.mono f1,hr1,e2,λu H2 r2 v2 hr2 f2=>?_⟩;exact⟨r2,h2,x,y,d,h',hr2,v1.mono f2,v2,e,q.later (f1.trans f2)⟩
theorem nG{o:bF}{op:Operator}(ho:∀X,Good G n sc N df X->dN X (binaryOp op) (iN X.K (Ev.bU o)))(ha:JE G n sc N df m a xa)(hb:JE G n sc N df m b xb):JE G n sc N df m (.bin o a b) (.BinOp xa op xb pos):=
 λX g=>PE.of (Gm (ho X g) (ha X g) (hb X g)) (qK λfr h=>by simp only[Ev.ev])
noncomputable def gW(o:bu):D->D->Hh->R D:=λx y h=>R.of ((Ev.cop o x y h).map .bl) h
theorem BG{o:bu}{op:CmpOp}(ho:∀X,Good G n sc N df X->dN X (compareOp op) (iN X.K (gW o)))(ha:JE G n sc N df m a xa)(hb:JE G n sc N df m b xb)(hm:behindInMarks op xb=false):JE G n sc N df m (.cmp o a b) (.Compare xa [op] [xb] pos):=
 λX g=>PE.of (HV (ho X g) (ha X g) (hb X g) hm) (qK λfr h=>by simp only[Ev.ev,gW])
theorem jt{o:bu}{x y d:D}{h h':Hh}(e:gW o x y h=.ok d h'):∃k,Ev.cop o x y h=some k/\d=.bl k/\h'=h:=by
 unfold gW at e;obtain⟨e1,rfl⟩:=Ev.aM e;cases z:Ev.cop o x y h' with
 |none=>rw[z]at e1;cases e1
 |some k=>rw[z]at e1;cases e1;exact⟨k,rfl,rfl,rfl⟩
theorem kh{o:bu}{op:CmpOp}(ho:∀X,Good G n sc N df X->dN X (compareOp op) (iN X.K (gW o)))(ha:JE G n sc N df m a xa)(hb:JE G n sc N df m b xb)(hm:behindInMarks op xb=false):JT G n sc N df m (.cmp o a b) (.Compare xa [op] [xb] pos):=
 λX g=>PT.of (ye (ho X g) (ha X g) (hb X g) hm) λs H Q q=>by
  obtain⟨r,fr,h,k,h',sr,hr,e,q⟩:=q;simp only[Ev.aE]at e;obtain⟨d,h1,e1,e⟩:=Ev.ah e;have e0:=e1;simp only[Ev.ev]at e0;obtain⟨x,h2,_,e0⟩:=Ev.ah e0;obtain⟨y,h3,_,e0⟩:=Ev.ah e0;obtain⟨k',e2,e3,e4⟩:=jt (o:=o) (show gW o x y h3=_ from e0);subst e3;simp only[Ev.truthy]at e;cases e;refine qK (e':=.cmp o a b) (f:=gW o) (λfr h=>by simp only[Ev.ev,gW]) s H _ ⟨r,fr,h,.bl k,_,sr,hr,e1,λv H1 r1 v1 hr1 f1=>?_⟩;exact⟨k,v1,q H1 r1 hr1 f1⟩
end
end Sm
set_option maxRecDepth 100000
namespace Sm
open PySem PySem.Spec PyProof.Rows L2
open Ev (D O Hh Fr R aI E Es Eo It T S Ss Fl Src bF bu TY BI ME)
section
variable{G:Tb}{n:Nat}{sc:Scope}{N:List Str}{df:Bool}{m:List Nat}{a b c:E}{xa xb xc:Expr}{pos:Pos}
theorem LC(ha:JE G n sc N df m a xa):JE G n sc N df m (.neg a) (.UnaryOp .USub xa pos):=λX g=>PE.of (Pk K3 (ha X g)) λs H Q q=>by
 obtain⟨r,fr,h,d,h',sr,hr,e,q⟩:=q;simp only[Ev.ev]at e;obtain⟨x,h1,e1,e⟩:=Ev.ah e;split at e
 .cases e;exact⟨r,fr,h,_,_,sr,hr,e1,λv H1 r1 v1 hr1 f1=>⟨_,v1,(q.later f1).here rfl hr1⟩⟩
 .cases e
theorem LF{op}(ha:JE G n sc N df m a xa):JE G n sc N df m a (.BoolOp op [xa] pos):=λX g=>KI (ha X g)
theorem PF{rest:List Expr}(ha:JE G n sc N df m a xa)(hb:JE G n sc N df m b (.BoolOp .And (xb :: rest) pos)):JE G n sc N df m (.an a b) (.BoolOp .And (xa :: xb :: rest) pos):=λX g=>PE.of (KJ (ha X g) (hb X g)) λs H Q q=>by
 obtain⟨r,fr,h,d,h',sr,hr,e,q⟩:=q;simp only[Ev.ev]at e;obtain⟨x,h1,e1,e⟩:=Ev.ah e;refine⟨r,fr,h,x,h1,sr,hr,e1,λv H1 r1 v1 hr1 f1=>?_⟩;split at e
 .exact⟨true,v1,r1,fr,h1,d,h',sr.mono f1,hr1,e,q.later f1⟩
 .cases e;exact⟨false,v1,(q.later f1).here rfl hr1⟩
 .cases e
theorem LG(ha:JT G n sc N df m a xa)(hb:JE G n sc N df m b xb)(hc:JE G n sc N df m c xc):JE G n sc N df m (.iL a b c) (.IfExp xa xb xc pos):=λX g=>PE.of (DI (ha X g) (hb X g) (hc X g)) λs H Q q=>by
 obtain⟨r,fr,h,d,h',sr,hr,e,q⟩:=q;simp only[Ev.ev]at e;obtain⟨k,h1,e1,e⟩:=Ev.ah e;refine⟨r,fr,h,k,h1,sr,hr,e1,λH1 r1 hr1 f1=>?_⟩;cases k with
 |true=>exact⟨r1,fr,h1,d,h',sr.mono f1,hr1,e,q.later f1⟩
 |false=>exact⟨r1,fr,h1,d,h',sr.mono f1,hr1,e,q.later f1⟩
theorem LH(h:JW G n sc N df m a xa):JT G n sc N df m a xa:=λX g=>(h X g).pt
theorem LI(ha:JT G n sc N df m a xa):JW G n sc N df m a (.BoolOp .And [xa] pos):=λX g=>HL (ha X g)
theorem Il(ha:JT G n sc N df m a xa):JW G n sc N df m a (.BoolOp .Or [xa] pos):=λX g=>Bh (ha X g)
theorem Gr{rest:List Expr}(ha:JT G n sc N df m a xa)(hb:JW G n sc N df m b (.BoolOp .And (xb :: rest) pos)):JW G n sc N df m (.an a b) (.BoolOp .And (xa :: xb :: rest) pos):=λX g=>PW.of (KH (ha X g) (hb X g)) λs H Q q=>by
 obtain⟨r,fr,h,k,h',sr,hr,e,q⟩:=q;simp only[Ev.aE]at e;obtain⟨k1,h1,e1,e⟩:=Ev.ah e;refine⟨r,fr,h,k1,h1,sr,hr,e1,λH1 r1 hr1 f1=>?_⟩;cases k1 with
 |true=>exact⟨r1,fr,h1,k,h',sr.mono f1,hr1,e,λH2 r2 hr2 f2=>q H2 r2 hr2 (f1.trans f2)⟩
 |false=>
  have e':R.ok false h1=R.ok k h':=e;cases e';exact q H1 r1 hr1 f1
theorem BH{rest:List Expr}(ha:JT G n sc N df m a xa)(hb:JW G n sc N df m b (.BoolOp .Or (xb :: rest) pos)):JW G n sc N df m (.orr a b) (.BoolOp .Or (xa :: xb :: rest) pos):=λX g=>PW.of (Gh (ha X g) (hb X g)) λs H Q q=>by
 obtain⟨r,fr,h,k,h',sr,hr,e,q⟩:=q;simp only[Ev.aE]at e;obtain⟨k1,h1,e1,e⟩:=Ev.ah e;refine⟨r,fr,h,k1,h1,sr,hr,e1,λH1 r1 hr1 f1=>?_⟩;cases k1 with
 |false=>exact⟨r1,fr,h1,k,h',sr.mono f1,hr1,e,λH2 r2 hr2 f2=>q H2 r2 hr2 (f1.trans f2)⟩
 |true=>
  have e':R.ok true h1=R.ok k h':=e;cases e';exact q H1 r1 hr1 f1
theorem PJ(ha:JT G n sc N df m a xa):JT G n sc N df m (.nt a) (.UnaryOp .Not xa pos):=λX g=>PT.of (Bj (ha X g)) λs H Q q=>by
 obtain⟨r,fr,h,k,h',sr,hr,e,q⟩:=q;simp only[Ev.aE]at e;obtain⟨k1,h1,e1,e⟩:=Ev.ah e;cases e;exact⟨r,fr,h,k1,_,sr,hr,e1,λH1 r1 hr1 f1=>q H1 r1 hr1 f1⟩
theorem LJ{K:PySem.W.Frag}{H:Hp}{r:List Addr}{h:Hh}{d:D}{v:V}{k:Bool}(hr:HR K H r h)(v1:RV K H r d v)(e:Ev.truthy h d=some k):DP K v H k:=by
 cases d with
 |aL=>simp only[RV]at v1;subst v1;cases e;rfl
 |bl x=>simp only[RV]at v1;subst v1;cases e;rfl
 |int x=>simp only[RV]at v1;subst v1;cases e;rfl
 |str x=>
  simp only[RV]at v1;obtain⟨rfl,z⟩:=v1;cases e;refine⟨by rw[cR];exact z,?_⟩;rw[cR];cases x with
  |nil=>rfl
  |cons c l=>simp;omega
 |tup ds=>
  simp only[RV]at v1;obtain⟨p,vs,rfl,z,q⟩:=v1;cases e;refine .inr (.inl ⟨vs,z,?_⟩);have hl:=q.length;cases ds<;>cases vs<;>simp_all
 |ref i=>
  simp only[RV]at v1;obtain⟨p,rfl,z⟩:=v1;simp only[Ev.truthy]at e;simp only[Option.map_eq_some_iff]at e;obtain⟨ds,e1,rfl⟩:=e;obtain⟨p',vs,e2,q1,q2⟩:=hr.read e1;rw[z]at e2;cases e2;refine .inl ⟨vs,q1,?_⟩;have hl:=q2.length;cases ds<;>cases vs<;>simp_all
theorem LK(ha:JE G n sc N df m a xa)(he:∀(P:aI) fr h,Ev.aE P a fr h=(Ev.ev P a fr h).bind λx h1=>R.of (Ev.truthy h1 x) h1:=by intros;simp only[Ev.aE])
  (hx:∀(env:Env) whole,isTrue xa env whole=(do let v <-whole;standAt xa.pos;holding [v] (truthy v)):=by intro _ _;rfl):JT G n sc N df m a xa:=λX g=>PT.of (DQ (ha X g) (hx _)) λs H Q q=>by
 obtain⟨r,fr,h,k,h',sr,hr,e,q⟩:=q;rw[he]at e;obtain⟨d,h1,e1,e⟩:=Ev.ah e;obtain⟨e,rfl⟩:=Ev.aM e;refine⟨r,fr,h,d,_,sr,hr,e1,λv H1 r1 v1 hr1 f1=>⟨k,LJ hr1 v1 e,q H1 r1 hr1 f1⟩⟩
noncomputable def LL:D->D->Hh->R D:=λx y h=>R.of (Ev.fP x y h) h
theorem PK(ho:∀X,Good G n sc N df X->yi X (iN X.K LL))(ha:JE G n sc N df m a xa)(hb:JE G n sc N df m b xb)(hs:yh xb:=by intro _ _;rfl):JE G n sc N df m (.ix a b) (.Subscript xa xb pos):=
 λX g=>PE.of (Pz (ho X g) (ha X g) (hb X g) hs) (qK λfr h=>by simp only[Ev.ev,LL])
theorem PL:JO G n sc N df m .no none:=λX g=>PO.of Ia λs H Q q=>by
 obtain⟨r,fr,h,o,h',sr,hr,e,q⟩:=q;simp only[Ev.gw]at e;cases e;exact q H r hr .refl
theorem LM(ha:JE G n sc N df m a xa):JO G n sc N df m (.yes a) (some xa):=λX g=>PO.of (Ib (ha X g)) λs H Q q=>by
 obtain⟨r,fr,h,o,h',sr,hr,e,q⟩:=q;simp only[Ev.gw]at e;obtain⟨d,h1,e1,e⟩:=Ev.ah e;obtain⟨e,rfl⟩:=Ev.aM e;cases d with
 |int i=>
  cases e;exact⟨r,fr,h,.int i,_,sr,hr,e1,λv H1 r1 v1 hr1 f1=>⟨i,v1,q H1 r1 hr1 f1⟩⟩
 |_=>cases e
theorem PM{lo hi:Eo}{xl xh:Option Expr}{p2}(ho:∀X,Good G n sc N df X->lS X (Ls X.K))(ha:JE G n sc N df m a xa)(hl:JO G n sc N df m lo xl)(hu:JO G n sc N df m hi xh):JE G n sc N df m (.sl a lo hi) (.Subscript xa (.Slice xl xh none p2) pos):=
 λX g=>PE.of (DT (ho X g) (ha X g) (hl X g) (hu X g)) λs H Q q=>by
  obtain⟨r,fr,h,d,h',sr,hr,e,q⟩:=q;simp only[Ev.ev]at e;obtain⟨x,h1,e1,e⟩:=Ev.ah e;obtain⟨l,h2,e2,e⟩:=Ev.ah e;obtain⟨u,h3,e3,e⟩:=Ev.ah e;refine⟨r,fr,h,x,h1,sr,hr,e1,λv H1 r1 v1 hr1 f1=>?_⟩;refine⟨r1,fr,h1,l,h2,sr.mono f1,hr1,e2,λH2 r2 hr2 f2=>?_⟩;refine⟨r2,fr,h2,u,h3,(sr.mono f1).mono f2,hr2,e3,λH3 r3 kN f3=>?_⟩;exact⟨r3,h3,x,d,h',kN,(v1.mono f2).mono f3,e,q.later ((f1.trans f2).trans f3)⟩
theorem Im{K:PySem.W.Frag}{P:aI}{es:Es}{f:List D->Hh->R D}{e':E}(he:∀fr h,Ev.ev P e' fr h=(Ev.bS P es fr h).bind f) :
  ∀s H Q,tJ K m P e' s H Q->La (yp K f) (Lr K m P es) s H Q:=λs H Q q=>by
 obtain⟨r,fr,h,d,h',sr,hr,e,q⟩:=q;rw[he]at e;obtain⟨ds,h1,e1,e⟩:=Ev.ah e;exact⟨r,fr,h,ds,h1,sr,hr,e1,λvs H1 r1 v1 hr1 f1=>⟨r1,h1,ds,d,h',hr1,v1,e,q.later f1⟩⟩
theorem Ac{k:BI}{es:Es}{x:Str}{id:String}{e0:Expr}{xs:List Expr}{p:Pos}(hc:∀X,Good G n sc N df X->fU X (.builtin id) (yp X.K (Ev.dS k)))(hs:JA G n sc N df m es (e0 :: xs))(hb:x∈G.bl:=by decide +kernel)
  (hg:sc.names.lookup x=some .globalImplicit:=by rfl) (hv:bootBuiltins x=some (.builtin id)) (hn:x≠"__name__" :=by decide) (hd:(x==("__debug__" : Str))=false:=by decide)
  (hst:∀env:Env,starEach (e0 :: xs) env=(false,eval e0 env) :: starEach xs env:=by intro _;rfl) (hpl:∀env:Env,(backTo pos (starEach xs env)).any (·.1)=false:=by intro _;rfl) :
  JE G n sc N df m (.bi k es) (.Call (.Name x p) (e0 :: xs) [] pos):=
 λX g=>PE.of (qd (hc X g) (g.gl hg) (g.bl x hb) hv (hs X g) hn hd (hst _) (hpl _)) (Im λfr h=>by simp only[Ev.ev])
theorem PN{f:Nat}{i:FI}{es:Es}{e0:Expr}{xs:List Expr}{p:Pos}(hf:G.fi[f]?=some i)(hs:JA G n sc N df m es (e0 :: xs))
  (hg:sc.names.lookup i.name=some .globalImplicit:=by rfl) (hd:(i.name==("__debug__" : Str))=false:=by decide)
  (hst:∀env:Env,starEach (e0 :: xs) env=(false,eval e0 env) :: starEach xs env:=by intro _;rfl) (hpl:∀env:Env,(backTo pos (starEach xs env)).any (·.1)=false:=by intro _;rfl) :
  JE G n sc N df m (.cl f es) (.Call (.Name i.name p) (e0 :: xs) [] pos):=λX g=>by
 obtain⟨h1,h2,h3,h4⟩:=g.fn f i hf;refine PE.of (sD h4 g.room (g.gl hg) h1 h2 h3 .nil PC (hs X g) hd (hst _) (hpl _)) λs H Q q=>?_;obtain⟨r,fr,h,d,h',sr,hr,e,q⟩:=q;simp only[Ev.ev]at e;obtain⟨ds,h5,e1,e⟩:=Ev.ah e;refine⟨r,fr,h,ds,h5,sr,hr,e1,λvs H1 r1 v1 hr1 f1=>?_⟩;exact⟨r1,h5,ds,d,h',by rw[List.append_nil];exact v1,hr1,e,q.later f1⟩
noncomputable def Ad:ME->String
 |.join=>"str"
 |_=>"list"
theorem vq{K:PySem.W.Frag}{H:Hp}{r:List Addr}{h:Hh}{k:ME}{d:D}{v:V}{ty:String}(hr:HR K H r h)(v1:RV K H r d v)(e:Ev.qJ k d h=true)(ht:ty=Ad k):By K ty v H:=by
 subst ht;have lst:∀i,d=.ref i->(Ev.aW h i).isSome=true->By K "list" v H:=λi ed es=>by
  subst ed;obtain⟨ds,e1⟩:=Option.isSome_iff_exists.mp es;obtain⟨p,vs,e2,q1,q2⟩:=hr.read e1;simp only[RV]at v1;obtain⟨p',rfl,e3⟩:=v1;rw[e2]at e3;cases e3;exact .inl ⟨rfl,vs,q1⟩
 cases k with
 |join=>
  cases d with
  |str l=>simp only[RV]at v1;obtain⟨rfl,_⟩:=v1;rfl
  |_=>cases e
 |append=>cases d with|ref i=>exact lst i rfl e|_=>cases e
 |extend=>cases d with|ref i=>exact lst i rfl e|_=>cases e
 |pop=>cases d with|ref i=>exact lst i rfl e|_=>cases e
 |nA=>cases d with|ref i=>exact lst i rfl e|_=>cases e
theorem Ae {k:ME}{es:Es}{e0:Expr}{xs:List Expr}{name:Str}{apos:Pos}{ty id:String}(pa:PlainAttrs ty) (slot:Slot ty name id) (hty:typeOf (.builtin id)=pure (.type "method_descriptor"))
  (hm:∀X,Good G n sc N df X->t7 X id (vp X.K (Ev.fG k))) (ht:ty=Ad k) (ha:JE G n sc N df m a xa) (hs:JA G n sc N df m es (e0 :: xs))
  (hbase:∀env:Env,attributeBase xa name env (eval xa env)=eval xa env:=by intro _;rfl)
  (hfew:∀env:Env,((backTo pos (starEach (e0 :: xs) env)).all (λx=>!x.1)&&(backToKw pos (keywordEach [] env)).all (λx=>x.1.isSome)
   &&decide ((e0 :: xs).length+([]:List Keyword).length+(if ([]:List Keyword).isEmpty then 0 else 1)<30))=true:=by intro _;rfl)
  (hline:(apos.endLine==pos.line)=true:=by rfl) (hst:∀env:Env,starEach (e0 :: xs) env=(false,eval e0 env) :: starEach xs env:=by intro _;rfl) (hpl:∀env:Env,(backTo pos (starEach xs env)).any (·.1)=false:=by intro _;rfl) :
  JE G n sc N df m (.me k a es) (.Call (.Attribute xa name apos) (e0 :: xs) [] pos):=λX g=>
 PE.of (Gp pa slot hty (hm X g) (ha X g) (hs X g) (hbase _) (hfew _) hline (hst _) (hpl _)) λs H Q q=>by
  obtain⟨r,fr,h,d,h',sr,hr,e,q⟩:=q;simp only[Ev.ev]at e;obtain⟨x,h1,e1,e⟩:=Ev.ah e;split at e
  .rename_i hk;obtain⟨ds,h2,e2,e⟩:=Ev.ah e;refine⟨r,fr,h,x,h1,sr,hr,e1,λv H1 r1 v1 hr1 f1=>⟨vq hr1 v1 hk ht,?_⟩⟩;refine⟨r1,fr,h1,ds,h2,sr.mono f1,hr1,e2,λvs H2 r2 v2 hr2 f2=>?_⟩;exact⟨r2,h2,x,ds,d,h',hr2,v1.mono f2,v2,e,q.later (f1.trans f2)⟩
  .cases e
theorem LN {k:ME}{name:Str}{apos:Pos}{ty id:String}(pa:PlainAttrs ty) (slot:Slot ty name id) (hty:typeOf (.builtin id)=pure (.type "method_descriptor"))
  (hm:∀X,Good G n sc N df X->t7 X id (vp X.K (Ev.fG k))) (ht:ty=Ad k) (ha:JE G n sc N df m a xa)
  (hbase:∀env:Env,attributeBase xa name env (eval xa env)=eval xa env:=by intro _;rfl) (hline:(apos.endLine==pos.line)=true:=by rfl) :
  JE G n sc N df m (.me k a .nil) (.Call (.Attribute xa name apos) [] [] pos):=λX g=>
 PE.of (Li pa slot hty (hm X g) (ha X g) (hbase _) hline) λs H Q q=>by
  obtain⟨r,fr,h,d,h',sr,hr,e,q⟩:=q;simp only[Ev.ev]at e;obtain⟨x,h1,e1,e⟩:=Ev.ah e;split at e
  .rename_i hk;simp only[Ev.bS,Ev.ak]at e;refine⟨r,fr,h,x,h1,sr,hr,e1,λv H1 r1 v1 hr1 f1=>⟨vq hr1 v1 hk ht,?_⟩⟩;exact⟨r1,h1,x,[],d,h',hr1,v1,.nil,e,q.later f1⟩
  .cases e
end
end Sm
set_option maxRecDepth 100000
namespace Sm
open PySem PySem.Spec PyProof.Rows L2
open Ev (D O Hh Fr R aI E Es Eo T S Ss Fl Src bF bu TY BI ME)
noncomputable def qh(K:PySem.W.Frag)(r0:List Addr)(H0:Hp)(s:Src)(J:L2.It):Prop:=∀(i:Nat) H1 r1 h1,HR K H1 r1 h1->Fm K r0 r1 H0 H1->Ev.stays h1 s.2=true->
 (∀d,s.1[i]?=some d->J.go i H1/\∀x H2,J.Gj i H1 x H2->∃r2,RV K H2 r2 d x/\HR K H2 r2 h1/\Fm K r1 r2 H1 H2)/\(s.1.length<=i->J.stop i H1)
inductive R1(K:PySem.W.Frag)(m:List Nat)(P:aI)(it:Ev.It)(s:L2.St)(H:Hp)(Rr:L2.It->Hp->Prop):Prop
 |mk (r:List Addr) (fr:Fr) (h:Hh) (src:Src) (h':Hh) (c0:SR K m H r fr s) (c1:HR K H r h) (c2:Ev.b8 P it fr h=.ok src h') (c3:∀J H' r',HR K H' r' h'->Fm K r r' H H'->qh K r' H' src J->Rr J H'):R1 K m P it s H Rr
noncomputable def JI(G:Tb)(n:Nat)(sc:Scope)(N:List Str)(df:Bool)(m:List Nat)(it:Ev.It)(tg x:Expr):Prop:=∀X,Good G n sc N df X->PI X tg x (R1 X.K m (Ev.run G.F G.w n) it)
noncomputable def Gs(z:Str):L2.It:=⟨λi _=>i<z.length,λi H x H'=>H'=H/\∃c,z.cps[i]?=some c/\x=.str ⟨#[c]⟩,λi _=>z.length<=i⟩
theorem LO{M:Model}{A:Around}{E:Value->Shared->Prop}{s:Shared}{tg:Expr}{it:Value}{x:Str}{t:Tok}{Q:Unit->Shared->Prop}(hQ:Q () s):wpAny M A (letOwnedTupleGo tg it (.str x t)) Q E s:=by
 unfold letOwnedTupleGo;cases tg<;>first
  |exact wpAny_pure hQ
  | (cases it<;>exact wpAny_pure hQ)
theorem vt {P:Program}{w:World}{K:PySem.W.Frag}{tg:Expr}(z:Str) (t:Tok) (it:Addr) (ty:String) (hty:ty = "str_ascii_iterator" \/ty = "str_iterator") :
  Turn P w K tg (Gs z) [it] it (λi h=>h.IsStrIter it ty z t i) where
 mem:=by simp
 obj:=λi h st b hb=>by
  have e:b=it:=by simpa using hb
  subst e;obtain⟨o,e,c,d⟩:=st;exact⟨o,e,λv z=>by rw[d]at z;cases z⟩
 keep:=λi h h' st k=>by
  obtain⟨o,e,c,d⟩:=st;exact⟨o,k it (by simp) o e,c,d⟩
 item:=by
  intro X hP hw hK hc i pins s σ H E I hf st hg;subst hP hw hK;obtain⟨f0,f1,f2,f3,f4,f5⟩:=hf it (by simp);have W:Walks X.prog X.w X.A it [it] [it] z.cps.size (SignAt z) (λi h=>h.IsStrIter it ty z t i):=by
   rcases hty with e|e
   .subst e;exact Walks.strAscii (I.ok.hd hc) it z t
   .subst e;exact Walks.strWide (I.ok.hd hc) it z t
  refine W.item i s _ _ hg st λv h' tk hv st' kk=>?_;obtain⟨c,u,hc',rfl⟩:=hv;have I1:Inv X pins σ H { s with heap:=h',toks:=tk }:=I.turned (λb o hb e=>kk b o (by simpa using hb) e) f0 f1 f3 f4 f5;exact⟨_,rfl,LO ⟨.str ⟨#[c]⟩,H,I1,⟨u,rfl⟩,⟨rfl,c,hc',rfl⟩,st',λb hb=>(hf b hb).1⟩⟩
 done:=by
  intro X hP hw hK hc i pins s σ H E I hf st hg;subst hP hw hK;obtain⟨f0,f1,f2,f3,f4,f5⟩:=hf it (by simp);rcases hty with e|e
  .subst e;exact wpAny_pyNext_ascii_end (I.ok.hd hc) st (by simpa[Str.length,Gs]using hg) λh' eb=>⟨rfl,I.turned (t':=s.toks) (λb o hb e=>eb b o hb e) f0 f1 f3 f4 f5⟩
  .subst e;exact wpAny_pyNext_wide_end (I.ok.hd hc) st (by simpa[Str.length,Gs]using hg) λh' eb=>⟨rfl,I.turned (t':=s.toks) (λb o hb e=>eb b o hb e) f0 f1 f3 f4 f5⟩
 self:=λ_ _ _ _ _ st h=>by
  rcases hty with e|e
  .subst e;exact wpAny_pyIter_striter_ascii st h
  .subst e;exact wpAny_pyIter_striter_wide st h
noncomputable def Gu(K:PySem.W.Frag)(x:V)(H:Hp)(Rr:L2.It->Hp->Prop):Prop:=
 (∃a xs,x=.ref a/\ef K H a xs/\Rr (RU K a) H)\/(∃a xs,x=.ref a/\dR K H a xs/\Rr (RW K a) H)\/∃z,x=.str z/\Rr (Gs z) H
theorem LP{X:Cx}{tg l:Expr}{tl:TE}{wi:TI}(hl:PE X l tl)(hw:∀s H Rr,wi s H Rr->tl s H λx H1=>Gu X.K x H1 Rr):PI X tg l wi:=by
 intro pins s σ H Rr I h;refine bI (hl pins s σ H _ I (hw _ _ _ h)) λv s1 ⟨x,H1,I1,r1,q1⟩=>?_;have fp:∀(o:Obj) b,b∈[s1.heap.objs.size]->gT X pins H1 b:=λo b hb=>by
  have e:b=s1.heap.objs.size:=by simpa using hb
  subst e;exact I1.zM (Nat.le_refl _) (I1.hok.fresh (Nat.le_refl _))
 rcases q1 with ⟨a,xs,rfl,hq,q⟩|⟨a,xs,rfl,hq,q⟩|⟨z,rfl,q⟩
 .cases r1;obtain⟨its,rv,p,hz⟩:=I1.list hq;refine wpAny_pyIter_list p.isList ?_;exact⟨s1.heap.objs.size,[s1.heap.objs.size],_,_,H1,rfl,I1.kept (t':=s1.toks) λb o e=>Heap.get?_push_of_some _ e,Bq a _,⟨_,Heap.get?_push_size _ rfl,rfl,rfl⟩,fp default,q⟩
 .cases r1;obtain⟨its,rv,p,hz⟩:=I1.tuple hq;refine wpAny_pyIter_tuple (show s1.heap.IsTuple a its.toArray from p) ?_;exact⟨s1.heap.objs.size,[s1.heap.objs.size],_,_,H1,rfl,I1.kept (t':=s1.toks) λb o e=>Heap.get?_push_of_some _ e,zO a _,⟨_,Heap.get?_push_size _ rfl,rfl,rfl⟩,fp default,q⟩
 .obtain⟨t,rfl⟩:=r1;cases ha:z.cps.all (· < 128)
  .refine wpAny_pyIter_wide ha ?_;exact⟨s1.heap.objs.size,[s1.heap.objs.size],_,_,H1,rfl,I1.kept (t':=s1.toks) λb o e=>Heap.get?_push_of_some _ e,vt z t _ _ (.inr rfl),⟨_,Heap.get?_push_size _ rfl,rfl,rfl⟩,fp default,q⟩
  .refine wpAny_pyIter_ascii ha ?_;exact⟨s1.heap.objs.size,[s1.heap.objs.size],_,_,H1,rfl,I1.kept (t':=s1.toks) λb o e=>Heap.get?_push_of_some _ e,vt z t _ _ (.inl rfl),⟨_,Heap.get?_push_size _ rfl,rfl,rfl⟩,fp default,q⟩
theorem nH{h:Hh}{n:Nat}{ds:List D}(e:Ev.stays h [(n,ds)]=true):Ev.aW h n=some ds:=by
 simp only[Ev.stays,Bool.and_true]at e;split at e
 .rename_i es q;rw[q,(Ev.uc _ _).mp e]
 .cases e
theorem Io{K:PySem.W.Frag}{H:Hp}{r:List Addr}{h:Hh}{d:D}{v:V}{src:Src}{Rr:L2.It->Hp->Prop}(hr:HR K H r h)(v1:RV K H r d v)(e:Ev.fV h d=some src)(q:∀J,qh K r H src J->Rr J H):Gu K v H Rr:=by
 cases d with
 |tup ds=>
  simp only[RV]at v1;obtain⟨a,vs,rfl,z,w⟩:=v1;cases e;refine .inr (.inl ⟨a,vs,rfl,z,q _ λi H1 r1 h1 hr1 f1 st=>⟨λd' e'=>?_,λhl=>?_⟩⟩)
  .obtain⟨u,e1,e2⟩:=w.get e';refine⟨⟨vs,u,f1.tups _ _ z,e1⟩,λx H2 y=>?_⟩;obtain⟨rfl,y⟩:=y;have:=y vs (f1.tups _ _ z);rw[e1]at this;cases this;exact⟨r1,e2.mono f1,hr1,.refl⟩
  .exact⟨vs,f1.tups _ _ z,by rw[w.length];exact hl⟩
 |str l=>
  simp only[RV]at v1;obtain⟨rfl,z⟩:=v1;cases e;refine .inr (.inr ⟨_,rfl,q _ λi H1 r1 h1 hr1 f1 st=>⟨λd' e'=>?_,λhl=>?_⟩⟩)
  .rw[List.getElem?_map]at e';cases e2:l[i]? with
   |none=>rw[e2]at e';cases e'
   |some c=>
    rw[e2]at e';cases e';refine⟨by show i<(aS l).length;rw[cR];exact(List.getElem?_eq_some_iff.mp e2).1,λx H2 y=>?_⟩;obtain⟨rfl,c',y1,rfl⟩:=y;have e3:(aS l).cps[i]?=some c:=by simp[aS,e2]
    rw[e3]at y1;cases y1;exact⟨r1,⟨rfl,by show 1<=sizeLine;decide⟩,hr1,.refl⟩
  .show(aS l).length<=i;rw[cR];simpa using hl
 |ref k=>
  simp only[RV]at v1;obtain⟨a,rfl,z⟩:=v1;simp only[Ev.fV,Option.map_eq_some_iff]at e;obtain⟨ds,e1,rfl⟩:=e;obtain⟨a',vs,e2,e3,e4⟩:=hr.read e1;rw[z]at e2;cases e2;refine .inl ⟨a,vs,rfl,e3,q _ λi H1 r1 h1 hr1 f1 st=>?_⟩;obtain⟨a',us,e5,e6,e7⟩:=hr1.read (nH st);rw[f1.pre _ _ z]at e5;cases e5;refine⟨λd' e'=>?_,λhl=>⟨us,e6,by rw[e7.length];exact hl⟩⟩;obtain⟨u,g1,g2⟩:=e7.get e';refine⟨⟨us,u,e6,g1⟩,λx H2 y=>?_⟩;obtain⟨rfl,y⟩:=y;have:=y us e6;rw[g1]at this;cases this;exact⟨r1,g2,hr1,.refl⟩
 |_=>cases e
section
variable{G:Tb}{n:Nat}{sc:Scope}{N:List Str}{df:Bool}{m:List Nat}{a b c:E}{xa xb xc tg:Expr}{pos:Pos}
theorem LQ(ha:JE G n sc N df m a xa):JI G n sc N df m (.seq a) tg xa:=λX g=>LP (ha X g) λs H Rr q=>by
 obtain⟨r,fr,h,src,h',sr,hr,e,q⟩:=q;simp only[Ev.b8]at e;obtain⟨d,h1,e1,e⟩:=Ev.ah e;obtain⟨e,rfl⟩:=Ev.aM e;refine⟨r,fr,h,d,_,sr,hr,e1,λv H1 r1 v1 hr1 f1=>?_⟩;exact Io hr1 v1 e λJ hJ=>q J H1 r1 hr1 f1 hJ
theorem PI.of{X:Cx}{tg l:Expr}{t t':TI}(h:PI X tg l t)(w:∀s H Q,t' s H Q->t s H Q):PI X tg l t':=λpins s σ H Q I q=>h pins s σ H Q I (w _ _ _ q)
theorem LR{K:PySem.W.Frag}{r:List Addr}{H:Hp}(lo:Int)(k:Nat):qh K r H (Ev.range lo k,[]) (Gk lo k):=λi H1 r1 h1 hr1 f1 st=>by
 refine⟨λd e=>?_,λhl=>?_⟩
 .simp only[Ev.range,List.getElem?_map]at e;cases e2:(List.range k)[i]? with
  |none=>rw[e2]at e;cases e
  |some j=>
   rw[e2]at e;cases e;have hi:i<k:=by simpa using (List.getElem?_eq_some_iff.mp e2).1
   have hj:j=i:=by
    rw[List.getElem?_range hi]at e2;exact(Option.some.inj e2).symm
   subst hj;refine⟨hi,λx H2 y=>?_⟩;obtain⟨rfl,rfl⟩:=y;exact⟨r1,rfl,hr1,.refl⟩
 .have:(Ev.range lo k).length=k:=by simp[Ev.range]
  show k<=i;have hl':(Ev.range lo k).length<=i:=hl;omega
theorem Ip {e1:E}{p:Pos}(hs:JA G n sc N df m (.cons e1 .nil) [xa]) (hg:sc.names.lookup ("range" : Str)=some .globalImplicit:=by rfl) (hb:("range" : Str)∈G.bl:=by decide +kernel)
  (hst:∀env:Env,starEach [xa] env=[(false,eval xa env)]:=by intro _;rfl):JI G n sc N df m (.gS (.cons e1 .nil)) tg (.Call (.Name "range" p) [xa] [] pos):=λX g=>
 PI.of (Br (g.gl hg) (g.bl _ hb) (hs X g) (hst _)) λs H Rr q=>by
  obtain⟨r,fr,h,src,h',sr,hr,e,q⟩:=q;simp only[Ev.b8]at e;obtain⟨ds,h1,e1,e⟩:=Ev.ah e;obtain⟨e,rfl⟩:=Ev.aM e;refine⟨r,fr,h,ds,_,sr,hr,e1,λvs H1 r1 v1 hr1 f1=>?_⟩;unfold Ev.er at e;split at e
  .rename_i j;split at e
   .rename_i hj;cases e;simp only[aD,RV]at v1;obtain⟨v,w,rfl,rfl,rfl⟩:=v1;exact⟨_,rfl,hj.1,hj.2,q _ H1 r1 hr1 f1 (LR 0 _)⟩
   .cases e
  .exfalso;simp only[Ev.bS]at e1;obtain⟨d,_,_,e1⟩:=Ev.ah e1;simp only[Ev.ak]at e1;cases e1
  .cases e
inductive gJ(K:PySem.W.Frag)(m:List Nat)(t:T)(v:V)(s:L2.St)(H:Hp)(Q:L2.St->Hp->Prop):Prop
 |mk (r:List Addr) (fr:Fr) (h:Hh) (d:D) (aj:Fr) (c0:SR K m H r fr s) (c1:HR K H r h) (c2:RV K H r d v) (c3:Ev.bD t d fr=some aj) (c4:∀s',SR K m H r aj s'->Q s' H):gJ K m t v s H Q
noncomputable def JG(G:Tb)(n:Nat)(sc:Scope)(N:List Str)(df:Bool)(m:List Nat)(t:T)(x:Expr):Prop:=∀X,Good G n sc N df X->PG X x (gJ X.K m t)
theorem PG.of{X:Cx}{e:Expr}{t t':TG}(h:PG X e t)(w:∀v s H Q,t' v s H Q->t v s H Q):PG X e t':=λpins s σ H v u Q I r q=>h pins s σ H v u Q I r (w _ _ _ _ q)
theorem SR.set{K:PySem.W.Frag}{m:List Nat}{H:Hp}{r:List Addr}{fr:Fr}{s:L2.St}(sr:SR K m H r fr s)(hm:m.Nodup){j i:Nat}(hj:m[j]?=some i){d:D}{v:V}(v1:RV K H r d v):SR K m H r (fr.set i (some d)) (s.set j (some v)):=by
 refine⟨by simp[sr.len],λj' i' d' e1 e2=>?_⟩;by_cases hi:i'=i
 .subst hi;have:j'=j:=BJ hm e1 hj;subst this;have hlt:i'<fr.length:=by
   have:=(List.getElem?_eq_some_iff.mp e2).1;simpa using this
  rw[List.getElem?_set_self hlt]at e2;cases e2;refine⟨v,List.getElem?_set_self ?_,v1⟩;rw[sr.len];exact(List.getElem?_eq_some_iff.mp hj).1
 .rw[List.getElem?_set_ne (λz=>hi z.symm)]at e2;obtain⟨u,q1,q2⟩:=sr.sl j' i' d' e1 e2;refine⟨u,?_,q2⟩;rw[List.getElem?_set_ne]
  .exact q1
  .intro z;subst z;rw[hj]at e1;cases e1;exact hi rfl
where
 BJ {l:List Nat} (hl:l.Nodup) {i j:Nat} {x:Nat} (a:l[i]?=some x) (b:l[j]?=some x):i=j:=by
  have ha:=(List.getElem?_eq_some_iff.mp a)
  have hb:=(List.getElem?_eq_some_iff.mp b)
  obtain⟨h1,e1⟩:=ha;obtain⟨h2,e2⟩:=hb;exact(List.getElem_inj hl).mp (e1.trans e2.symm)
theorem Good.loc{X:Cx}(g:Good G n sc N df X){x:Str}(h:sc.names.lookup x=some .local\/(df=true/\sc.names.lookup x=some .cell)):Loc X.env.scope x/\(X.fn x=true\/X.env.scope.names.lookup x=some .local):=by
 rw[show Loc X.env.scope x↔Loc sc x by rw[g.sc],g.sc];rcases h with h|⟨h1,h⟩
 .exact⟨.inl h,.inr h⟩
 .exact⟨.inr h,.inl (g.own h1 x)⟩
theorem LS(j i:Nat){x:Str}(hm:m.Nodup)(hN:N.Nodup)(hj:m[j]?=some i:=by rfl)(ud:N[j]?=some x:=by rfl)
  (hl:sc.names.lookup x=some .local\/(df=true/\sc.names.lookup x=some .cell):=by first|exact Or.inl rfl|exact Or.inr ⟨rfl,rfl⟩):JG G n sc N df m (.one i) (.Name x pos):=λX g=>by
 obtain⟨h1,h2⟩:=g.loc hl;refine PG.of (yc (i:=j) (by rw[g.nm];exact hN) (by rw[g.nm];exact ud) h1 h2) λv s H Q q=>?_;obtain⟨r,fr,h,d,aj,sr,hr,v1,e,q⟩:=q;cases e;exact q _ (sr.set hm hj v1)
inductive R3(K:PySem.W.Frag)(m:List Nat)(l:List Nat)(vs:List V)(s:L2.St)(H:Hp)(Q:L2.St->Hp->Prop):Prop
 |mk (r:List Addr) (fr:Fr) (h:Hh) (ds:List D) (aj:Fr) (c0:SR K m H r fr s) (c1:HR K H r h) (c2:aD K H r ds vs) (c3:Ev.cK l ds fr=some aj) (c4:∀s',SR K m H r aj s'->Q s' H):R3 K m l vs s H Q
noncomputable def ue(G:Tb)(n:Nat)(sc:Scope)(N:List Str)(df:Bool)(m:List Nat)(l:List Nat)(xs:List Expr):Prop:=∀X,Good G n sc N df X->pF X xs (R3 X.K m l)
theorem pF.of{X:Cx}{e:List Expr}{t t':tS}(h:pF X e t)(w:∀v s H Q,t' v s H Q->t v s H Q):pF X e t':=λpins s σ H v u Q I r q=>h pins s σ H v u Q I r (w _ _ _ _ q)
theorem Iq:ue G n sc N df m [] []:=λX g=>pF.of HM λvs s H Q q=>by
 obtain⟨r,fr,h,ds,aj,sr,hr,v1,e,q⟩:=q;cases ds with
 |nil=>simp only[aD]at v1;subst v1;cases e;exact⟨rfl,q _ sr⟩
 |cons _ _=>cases e
theorem D6(j i:Nat){x:Str}{l:List Nat}{xs:List Expr}(hm:m.Nodup)(hN:N.Nodup)(hs:ue G n sc N df m l xs)(hj:m[j]?=some i:=by rfl)(ud:N[j]?=some x:=by rfl)
  (hl:sc.names.lookup x=some .local\/(df=true/\sc.names.lookup x=some .cell):=by first|exact Or.inl rfl|exact Or.inr ⟨rfl,rfl⟩)
  (hst:∀env:Env,(assignEach (.Name x pos :: xs) env).map (·.2)=assign (.Name x pos) env :: (assignEach xs env).map (·.2):=by intro _;rfl):ue G n sc N df m (i :: l) (.Name x pos :: xs):=λX g=>by
 obtain⟨h1,h2⟩:=g.loc hl;refine pF.of (DL (yc (i:=j) (by rw[g.nm];exact hN) (by rw[g.nm];exact ud) h1 h2) (hs X g) (hst _)) λvs s H Q q=>?_;obtain⟨r,fr,h,ds,aj,sr,hr,v1,e,q⟩:=q;cases ds with
 |nil=>cases e
 |cons d ds=>
  simp only[aD]at v1;obtain⟨v,w,rfl,v2,v3⟩:=v1;exact⟨v,w,rfl,r,_,h,ds,aj,sr.set hm hj v2,hr,v3,e,q⟩
theorem Ir{l:List Nat}{xs:List Expr}{k:Nat}(hs:ue G n sc N df m l xs)(hn:∀env:Env,(assignEach xs env).length=l.length:=by intro _;rfl)(hst:∀env:Env,(assignEach xs env).findIdx? (·.1)=none:=by intro _;rfl) :
  JG G n sc N df m (.many l) (.Tuple xs k pos):=λX g=>PG.of (KN (n:=l.length) g.calm (hs X g) (hn _) (hst _)) λv s H Q q=>by
 obtain⟨r,fr,h,d,aj,sr,hr,v1,e,q⟩:=q;cases d with
 |tup ds=>
  simp only[RV]at v1;obtain⟨p,vs,rfl,z,w⟩:=v1;have hlen:∀(l:List Nat) (ds:List D) fr aj,Ev.cK l ds fr=some aj->ds.length=l.length:=by
   intro l;induction l with
   |nil=>intro ds fr aj e;cases ds with|nil=>rfl|cons _ _=>cases e
   |cons i l ih=>intro ds fr aj e;cases ds with|nil=>cases e|cons d ds=>simp[ih ds _ _ e]
  exact⟨p,vs,rfl,z,by rw[w.length];exact hlen _ _ _ _ e,r,fr,h,ds,aj,sr,hr,w,e,q⟩
 |_=>cases e
end
end Sm
set_option maxRecDepth 100000
namespace Sm
open PySem PySem.Spec PyProof.Rows L2
open Ev (D O Hh Fr R aI E Es Eo T S Ss Fl Src bF bu TY BI ME)
noncomputable def Fin(K:PySem.W.Frag)(m:List Nat)(r:List Addr)(H:Hp)(h':Hh)(fl:Fl)(aj:Fr)(Q:Ends):Prop:=match fl with
 |.nx=>∀s' H' r',SR K m H' r' aj s'->HR K H' r' h'->Fm K r r' H H'->Q.nx s' H'
 |.bk=>∀s' H' r',SR K m H' r' aj s'->HR K H' r' h'->Fm K r r' H H'->Q.bk s' H'
 |.ct=>∀s' H' r',SR K m H' r' aj s'->HR K H' r' h'->Fm K r r' H H'->Q.ct s' H'
 |.ret d=>Res K r H h' d Q.rt
theorem Fin.later{K:PySem.W.Frag}{m:List Nat}{r r':List Addr}{H H':Hp}{h':Hh}{fl:Fl}{aj:Fr}{Q:Ends}(q:Fin K m r H h' fl aj Q)(f:Fm K r r' H H'):Fin K m r' H' h' fl aj Q:=by
 cases fl with
 |nx=>exact λs2 H2 r2 a b g=>q s2 H2 r2 a b (f.trans g)
 |bk=>exact λs2 H2 r2 a b g=>q s2 H2 r2 a b (f.trans g)
 |ct=>exact λs2 H2 r2 a b g=>q s2 H2 r2 a b (f.trans g)
 |ret d=>exact Res.later q f
inductive R4(K:PySem.W.Frag)(m:List Nat)(P:aI)(w:Nat)(st:S)(Q:Ends)(s:L2.St)(H:Hp):Prop
 |mk (r:List Addr) (fr:Fr) (h:Hh) (fl:Fl) (aj:Fr) (h':Hh) (c0:SR K m H r fr s) (c1:HR K H r h) (c2:Ev.ex P w st fr h=.ok (fl,aj) h') (c3:Fin K m r H h' fl aj Q):R4 K m P w st Q s H
inductive sJ(K:PySem.W.Frag)(m:List Nat)(P:aI)(w:Nat)(ss:Ss)(Q:Ends)(s:L2.St)(H:Hp):Prop
 |mk (r:List Addr) (fr:Fr) (h:Hh) (fl:Fl) (aj:Fr) (h':Hh) (c0:SR K m H r fr s) (c1:HR K H r h) (c2:Ev.exs P w ss fr h=.ok (fl,aj) h') (c3:Fin K m r H h' fl aj Q):sJ K m P w ss Q s H
theorem PS.of{X:Cx}{st:Stmt}{t t':TS}(h:PS X st t)(w:∀Q s H,t' Q s H->t Q s H):PS X st t':=λpins s σ H Q I q=>h pins s σ H Q I (w _ _ _ q)
theorem fj.of{X:Cx}{st:List Stmt}{t t':TS}(h:fj X st t)(w:∀Q s H,t' Q s H->t Q s H):fj X st t':=λpins s σ H Q I q=>h pins s σ H Q I (w _ _ _ q)
section
variable(G:Tb)(n:Nat)(sc:Scope)(N:List Str)(df:Bool)(m:List Nat)
noncomputable def JS(st:S)(x:Stmt):Prop:=∀X,Good G n sc N df X->PS X x (R4 X.K m (Ev.run G.F G.w n) G.w st)
noncomputable def kO(ss:Ss)(xs:List Stmt):Prop:=∀X,Good G n sc N df X->fj X xs (sJ X.K m (Ev.run G.F G.w n) G.w ss)
end
section
variable{G:Tb}{n:Nat}{sc:Scope}{N:List Str}{df:Bool}{m:List Nat}{a b c:E}{xa xb xc tg:Expr}{pos:Pos}
theorem yr:kO G n sc N df m .nil []:=λX g=>fj.of x6 λQ s H q=>by
 obtain⟨r,fr,h,fl,aj,h',sr,hr,e,q⟩:=q;simp only[Ev.exs]at e;cases e;exact q s H r sr hr .refl
theorem vv{st:S}{ss:Ss}{x:Stmt}{xs:List Stmt}(h1:JS G n sc N df m st x)(h2:kO G n sc N df m ss xs):kO G n sc N df m (.cons st ss) (x :: xs):=λX g=>fj.of (jr (h1 X g) (h2 X g)) λQ s H q=>by
 obtain⟨r,fr,h,fl,aj,h',sr,hr,e,q⟩:=q;simp only[Ev.exs]at e;obtain⟨⟨g9,af⟩,h1,e1,e⟩:=Ev.ah e;refine⟨r,fr,h,g9,af,h1,sr,hr,e1,?_⟩;cases g9 with
 |nx=>exact λs1 H1 r1 mX hr1 f1=>⟨r1,af,h1,fl,aj,h',mX,hr1,e,q.later f1⟩
 |bk=>cases e;exact q
 |ct=>cases e;exact q
 |ret d=>cases e;exact q
theorem LU(j i:Nat){x:Str}{pos':Pos}(hm:m.Nodup)(hN:N.Nodup)(ha:JE G n sc N df m a xa)(hs:∀env:Env,swapsWith xa (some (.Name x pos')) pos.line env=pure false:=by intro _;rfl)(hj:m[j]?=some i:=by rfl)(ud:N[j]?=some x:=by rfl)
  (hl:sc.names.lookup x=some .local\/(df=true/\sc.names.lookup x=some .cell):=by first|exact Or.inl rfl|exact Or.inr ⟨rfl,rfl⟩):JS G n sc N df m (.set i a) (.Assign [.Name x pos'] xa pos):=λX g=>by
 obtain⟨h1,h2⟩:=g.loc hl;refine PS.of (qF (i:=j) (by rw[g.nm];exact hN) (by rw[g.nm];exact ud) h1 (ha X g) (hs _) h2) λQ s H q=>?_;obtain⟨r,fr,h,fl,aj,h',sr,hr,e,q⟩:=q;simp only[Ev.ex]at e;obtain⟨d,h1,e1,e⟩:=Ev.ah e;cases e;exact⟨r,fr,h,d,_,sr,hr,e1,λv H1 r1 v1 hr1 f1=>q _ H1 r1 ((sr.mono f1).set hm hj v1) hr1 f1⟩
theorem Iu{l:List Nat}(ha:JE G n sc N df m a xa)(hg:JG G n sc N df m (.many l) tg)(hs:∀env:Env,swapsWithSole [tg] xa pos.line env=pure false:=by intro _;rfl)(hw:∀env:Env,swappedStores [tg] xa env=pure none:=by intro _;rfl)
  (h1:∀env:Env,(assignEach [tg] env).map (·.2)=[assign tg env]:=by intro _;rfl):JS G n sc N df m (.iW l a) (.Assign [tg] xa pos):=λX g=>PS.of (Bp (ha X g) (hg X g) (hs _) (hw _) (h1 _)) λQ s H q=>by
 obtain⟨r,fr,h,fl,aj,h',sr,hr,e,q⟩:=q;simp only[Ev.ex]at e;obtain⟨d,h2,e1,e⟩:=Ev.ah e;split at e
 .rename_i ao e2;cases e;exact⟨r,fr,h,d,_,sr,hr,e1,λv H1 r1 v1 hr1 f1=>⟨r1,fr,_,d,_,sr.mono f1,hr1,v1,e2,λs' VU=>q s' H1 r1 VU hr1 f1⟩⟩
 .cases e
theorem Iv{i:Nat}{tp:Pos}(ho:JE G n sc N df m (.v i) xa)(hi:JE G n sc N df m b xb)(hv:JE G n sc N df m c xc)
  (hs:∀env:Env,swapsWithSole [.Subscript xa xb tp] xc pos.line env=pure false:=by intro _;rfl) (hw:∀env:Env,swappedStores [.Subscript xa xb tp] xc env=pure none:=by intro _;rfl)
  (h1:∀env:Env,(assignEach [.Subscript xa xb tp] env).map (·.2)=[assign (.Subscript xa xb tp) env]:=by intro _;rfl)
  (has:∀(env:Env) v,assign (.Subscript xa xb tp) env v=(do
   let ov <-holding [v] (eval xa env)
   let iv <-holding [v,ov] (eval xb env)
   standAt tp
   holding [v,ov,iv] (setItem ov iv v)
   release [v,ov,iv] []):=by intro _ _;rfl):JS G n sc N df m (.exp (.me .nA (.v i) (.cons c (.cons b .nil)))) (.Assign [.Subscript xa xb tp] xc pos):=λX g=>PS.of (Bp (hv X g) (KO (ho X g) (hi X g) set_list (has _)) (hs _) (hw _) (h1 _)) λQ s H q=>by
 obtain⟨r,fr,h,fl,aj,h',sr,hr,e,q⟩:=q;simp only[Ev.ex]at e;obtain⟨_,h5,ea,e'⟩:=Ev.ah e;cases e';clear e;simp only[Ev.ev,Ev.bS]at ea;obtain⟨y,h2,e2,eb⟩:=Ev.ah ea;clear ea;obtain⟨VV,rfl⟩:=Ev.aM e2;clear e2;split at eb
 case isFalse=>cases eb
 obtain⟨xs,h3,e3,e⟩:=Ev.ah eb;obtain⟨x,h4,e1,e6⟩:=Ev.ah e3;obtain⟨zs,h6,e4,e7⟩:=Ev.ah e6;clear eb e3 e6;cases e7;obtain⟨z,h7,e5,e8⟩:=Ev.ah e4;clear e4;cases e8;refine⟨r,fr,_,x,h4,sr,hr,e1,λv H1 r1 v1 hr1 f1=>?_⟩;refine⟨r1,fr,h4,y,h4,sr.mono f1,hr1,by simp only[Ev.ev];rw[VV];rfl,λu H2 r2 v2 hr2 f2=>?_⟩;refine⟨r2,fr,h4,z,_,(sr.mono f1).mono f2,hr2,e5,λt H3 r3 v3 kN f3=>?_⟩;cases y with
 |ref i=>
  cases z with
  |int k=>
   delta Ev.fG at e;dsimp only at e
   split at e
   .rename_i ds e4;split at e
    .rename_i jx e5;cases e;have v2':=v2.mono f3;simp only[RV]at v2' v3;obtain⟨p,rfl,e6⟩:=v2';subst v3;obtain⟨p',e7,vs,e8,e9⟩:=kN.ob i _ e4;rw[e6]at e7;cases e7;refine⟨p,vs,k,jx,rfl,rfl,e8,by rw[e9.length];exact e5,?_⟩;have f4:=Fm.write (K:=X.K) (ws:=vs.set jx v) e8 (List.mem_of_getElem? e6);exact q s _ r3 (((sr.mono f1).mono f2).mono (f3.trans f4)) (kN.write e4 e6 e8 (e9.set jx ((v1.mono f2).mono f3))) (((f1.trans f2).trans f3).trans f4)
    .cases e
   .cases e
  |_=>cases e
 |_=>cases e
theorem LV(ha:JE G n sc N df m a xa)(hs:∀env:Env,swapsWith xa none pos.line env=pure false:=by intro _;rfl):JS G n sc N df m (.exp a) (.Expr xa pos):=λX g=>PS.of (x9 (ha X g) (hs _)) λQ s H q=>by
 obtain⟨r,fr,h,fl,aj,h',sr,hr,e,q⟩:=q;simp only[Ev.ex]at e;obtain⟨d,h1,e1,e⟩:=Ev.ah e;cases e;exact⟨r,fr,h,d,_,sr,hr,e1,λv H1 r1 v1 hr1 f1=>q s H1 r1 (sr.mono f1) hr1 f1⟩
theorem BK(ha:JE G n sc N df m a xa):JS G n sc N df m (.ret a) (.Return (some xa) pos):=λX g=>PS.of (Bk (ha X g)) λQ s H q=>by
 obtain⟨r,fr,h,fl,aj,h',sr,hr,e,q⟩:=q;simp only[Ev.ex]at e;obtain⟨d,h1,e1,e⟩:=Ev.ah e;cases e;exact⟨r,fr,h,d,_,sr,hr,e1,q⟩
theorem LW{ta tb:Ss}{ya yb:List Stmt}(hc:JT G n sc N df m a xa)(h1:kO G n sc N df m ta ya)(h2:kO G n sc N df m tb yb):JS G n sc N df m (.iff a ta tb) (.If xa ya yb pos):=λX g=>PS.of (zL (hc X g) (h1 X g) (h2 X g)) λQ s H q=>by
 obtain⟨r,fr,h,fl,aj,h',sr,hr,e,q⟩:=q;simp only[Ev.ex]at e;obtain⟨k,h3,e1,e⟩:=Ev.ah e;refine⟨r,fr,h,k,h3,sr,hr,e1,λH1 r1 hr1 f1=>?_⟩;cases k with
 |true=>exact⟨r1,fr,h3,fl,aj,h',sr.mono f1,hr1,e,q.later f1⟩
 |false=>exact⟨r1,fr,h3,fl,aj,h',sr.mono f1,hr1,e,q.later f1⟩
theorem Good.pass{X:Cx}(g:Good G n sc N df X):PassesOwn (model X.prog X.w) X.A X.env X.xe:=by
 rw[g.xe];exact PassesOwn.never
noncomputable def FN(K:PySem.W.Frag)(m:List Nat)(g9:Fl)(jR:Fr)(h4:Hh)(r1:List Addr)(H1:Hp)(s5:L2.St)(H5:Hp):Prop:=(g9=.nx\/g9=.ct)/\∃r5,SR K m H5 r5 jR s5/\HR K H5 r5 h4/\Fm K r1 r5 H1 H5
section
variable{K:PySem.W.Frag}{r r1 r2:List Addr}{H H1 H2:Hp}{h4 h':Hh}{fl g9:Fl}{jR aj:Fr}{Q:Ends}
noncomputable def Af(L:R (Fl×Fr))(p:Fl×Fr)(h1:Hh):R (Fl×Fr):=match p.1 with
 |.nx=>L
 |.ct=>L
 |.bk=>.ok (.nx,p.2) h1
 |.ret x=>.ok (.ret x,p.2) h1
theorem yu{L:R (Fl×Fr)}(e:Af L (g9,jR) h4=.ok (fl,aj) h')(z:g9=.nx\/g9=.ct):L=.ok (fl,aj) h':=by rcases z with rfl|rfl<;>exact e
theorem vz{L:R (Fl×Fr)}(e:Af L (g9,jR) h4=.ok (fl,aj) h')(q:Fin K m r H h' fl aj Q)(f:Fm K r r1 H H1)(f2:Fm K r1 r2 H1 H2):Fin K m r2 H2 h4 g9 jR { Q with nx:=FN K m g9 jR h4 r1 H1,ct:=FN K m g9 jR h4 r1 H1,bk:=Q.nx }:=by
 cases g9 with
 |nx=>exact λs6 H6 r6 BL BN f6=>⟨.inl rfl,r6,BL,BN,f2.trans f6⟩
 |ct=>exact λs6 H6 r6 BL BN f6=>⟨.inr rfl,r6,BL,BN,f2.trans f6⟩
 |bk=>
  cases e;exact λs6 H6 r6 BL BN f6=>q s6 H6 r6 BL BN ((f.trans f2).trans f6)
 |ret d=>
  cases e;exact Res.later q (f.trans f2)
noncomputable def vA(P:aI)(w:Nat)(t:T)(tb:Ss):D->Fr->Hh->R (Fl×Fr):=λd ao h2=>match Ev.bD t d ao with
 |some bE=>Ev.exs P w tb bE h2
 |none=>.bad
theorem vC(P:aI)(w:Nat)(t:T)(it:Ev.It)(tb:Ss)(fr:Fr)(h:Hh):Ev.ex P w (.for t it tb) fr h=(Ev.b8 P it fr h).bind λs h1=>Ev.forL (vA P w t tb) s.2 s.1 fr h1:=by simp only[Ev.ex];rfl
theorem uf(f:D->Fr->Hh->R (Fl×Fr))(ck:List (Nat×List D))(d:D)(ds:List D)(fr:Fr)(h:Hh):Ev.forL f ck (d :: ds) fr h=if Ev.stays h ck then (f d fr h).bind λp h1=>Af (Ev.forL f ck ds p.2 h1) p h1 else .bad:=rfl
noncomputable def FW(K:PySem.W.Frag)(m:List Nat)(f:D->Fr->Hh->R (Fl×Fr))(src:Src)(r1:List Addr)(H1:Hp)(o:Fl×Fr)(h':Hh)(i k:Nat)(s3:L2.St)(H3:Hp):Prop:=
 k=src.1.length - i/\i<=src.1.length/\∃r3 bE h3,SR K m H3 r3 bE s3/\HR K H3 r3 h3/\Fm K r1 r3 H1 H3/\Ev.forL f src.2 (src.1.drop i) bE h3=.ok o h'
theorem D7{P:aI}{w:Nat}{t:T}{tb:Ss}{src:Src}{J:L2.It}{i k:Nat}{s3:L2.St}{H3:Hp}(hJ:qh K r1 H1 src J)(q:Fin K m r H h' fl aj Q)(f1:Fm K r r1 H H1)(hW:FW K m (vA P w t tb) src r1 H1 (fl,aj) h' i k s3 H3) :
  (J.stop i H3/\Q.nx s3 H3)\/(J.go i H3/\∃N:L2.St->Hp->Prop,(∀σ' H',N σ' H'->∃m',m'<k/\FW K m (vA P w t tb) src r1 H1 (fl,aj) h' (i+1) m' σ' H')/\∀x H',J.Gj i H3 x H'->gJ K m t x s3 H' λσ2 H2=>sJ K m P w tb { Q with nx:=N,ct:=N,bk:=Q.nx } σ2 H2):=by
 obtain⟨rfl,hle,r3,bE,h3,yv,kN,f3,e3⟩:=hW;rcases Nat.lt_or_ge i src.1.length with hlt|hge
 .rw[List.drop_eq_getElem_cons hlt,uf]at e3;split at e3
  .rename_i hst;obtain⟨g1,g2⟩:=(hJ i H3 r3 h3 kN f3 hst).1 src.1[i] (List.getElem?_eq_getElem hlt);obtain⟨⟨g9,jR⟩,h4,e4,e3⟩:=Ev.ah e3;unfold vA at e4;split at e4
   .rename_i tT e5;exact .inr ⟨g1,FN K m g9 jR h4 r1 H1,λs5 H5 ⟨hfl,r5,BO,ug,f5⟩=>⟨_,Nat.sub_lt_sub_left hlt (Nat.lt_succ_self i),rfl,hlt,r5,jR,h4,BO,ug,f5,yu e3 hfl⟩,λx H4 y=>
     let ⟨r4,v4,Gv,f4⟩:=g2 x H4 y
     ⟨r4,bE,h3,_,tT,yv.mono f4,Gv,v4,e5,λs5 BO=>⟨r4,tT,h3,g9,jR,h4,BO,Gv,e4,vz e3 q f1 (f3.trans f4)⟩⟩⟩
   .cases e4
  .cases e3
 .have hi:i=src.1.length:=Nat.le_antisymm hle hge;subst hi;rw[List.drop_length]at e3;unfold Ev.forL at e3;split at e3
  .rename_i hst;cases e3;exact .inl ⟨(hJ _ H3 r3 _ kN f3 hst).2 (Nat.le_refl _),q s3 H3 r3 yv kN (f1.trans f3)⟩
  .cases e3
end
theorem BP(t:Fr->Hh->R Bool)(f:Fr->Hh->R (Fl×Fr))(n:Nat)(fr:Fr)(h:Hh):Ev.dG t f (n+1) fr h=(t fr h).bind λb h1=>if b then (f fr h1).bind λp h2=>Af (Ev.dG t f n p.2 h2) p h2 else .ok (.nx,fr) h1:=rfl
noncomputable def WW(K:PySem.W.Frag)(m:List Nat)(P:aI)(w:Nat)(a:E)(tb:Ss)(r:List Addr)(H:Hp)(o:Fl×Fr)(h':Hh)(k:Nat)(s1:L2.St)(H1:Hp):Prop:=
 ∃r1 af h1,SR K m H1 r1 af s1/\HR K H1 r1 h1/\Fm K r r1 H H1/\Ev.dG (λao h2=>Ev.aE P a ao h2) (λao h2=>Ev.exs P w tb ao h2) k af h1=.ok o h'
theorem LX{tb:Ss}{yb:List Stmt}(hc:JT G n sc N df m a xa)(h1:kO G n sc N df m tb yb):JS G n sc N df m (.jH a tb) (.While xa yb [] pos):=λX g=>PS.of (vc g.pass (hc X g) (h1 X g)) λQ s H q=>by
 obtain⟨r,fr,h,fl,aj,h',sr,hr,e,q⟩:=q;simp only[Ev.ex]at e;refine⟨WW X.K m (Ev.run G.F G.w n) G.w a tb r H (fl,aj) h',⟨_,r,fr,h,sr,hr,.refl,e⟩,λk s1 H1 hW=>?_⟩;obtain⟨r1,af,h1,mX,hr1,f1,e1⟩:=hW;cases k with
 |zero=>cases e1
 |succ k=>
  rw[BP]at e1;obtain⟨bb,h2,e2,e1⟩:=Ev.ah e1;refine⟨r1,af,h1,bb,h2,mX,hr1,e2,λH2 r2 hr2 f2=>?_⟩;cases bb with
  |false=>
   cases e1;exact q s1 H2 r2 (mX.mono f2) hr2 (f1.trans f2)
  |true=>
   rw[if_pos rfl]at e1;obtain⟨⟨g9,ao⟩,h3,e3,e1⟩:=Ev.ah e1;exact⟨FN X.K m g9 ao h3 r H,λs3 H3 ⟨hfl,r3,yv,kN,f3⟩=>⟨k,Nat.lt_succ_self k,r3,ao,h3,yv,kN,f3,yu e1 hfl⟩,r2,af,h2,g9,ao,h3,mX.mono f2,hr2,e3,vz e1 q .refl (f1.trans f2)⟩
theorem LY{t:T}{it:Ev.It}{tb:Ss}{yb:List Stmt}(hi:JI G n sc N df m it tg xa)(hg:JG G n sc N df m t tg)(h1:kO G n sc N df m tb yb)(hs:∀(env:Env) x,foldedSetIterable xa env x=pure x:=by intro _ _;rfl) :
  JS G n sc N df m (.for t it tb) (.For tg xa yb [] pos):=λX g=>PS.of (KR g.pass g.calm (hi X g) (hg X g) (h1 X g) (hs _)) λQ s H q=>by
 obtain⟨r,fr,h,fl,aj,h',sr,hr,e,q⟩:=q;rw[vC]at e;obtain⟨src,h2,e1,e⟩:=Ev.ah e;exact⟨r,fr,h,src,h2,sr,hr,e1,λJ H1 r1 hr1 f1 hJ=>⟨FW X.K m (vA (Ev.run G.F G.w n) G.w t tb) src r1 H1 (fl,aj) h',⟨src.1.length,rfl,Nat.zero_le _,r1,fr,h2,sr.mono f1,hr1,.refl,by rw[List.drop_zero];exact e⟩,λi k s3 H3 hW=>D7 hJ q f1 hW⟩⟩
end
theorem getElem?_range'{k j i:Nat}(h:(List.range k)[j]?=some i):i=j:=by
 obtain⟨h1,h2⟩:=List.getElem?_eq_some_iff.mp h;simpa using h2.symm
theorem qi{K:PySem.W.Frag}{H:Hp}{r:List Addr}{ds:List D}{vs:List V}{N:List Str}{fn:Ev.Fn}(v1:aD K H r ds vs)(hN:vs.length<=N.length):SR K (List.range N.length) H r (Ev.dz fn ds) (L2.start N vs):=by
 refine⟨by unfold L2.start;simp;omega,λj i d e1 e2=>?_⟩;have e3:=getElem?_range' e1;subst e3;unfold Ev.dz at e2;by_cases hj:i<ds.length
 .rw[List.getElem?_append_left (by simpa using hj),List.getElem?_map]at e2;cases e4:ds[i]? with
  |none=>rw[e4]at e2;cases e2
  |some d'=>
   rw[e4]at e2;cases e2;obtain⟨v,q1,q2⟩:=v1.get e4;refine⟨v,?_,q2⟩;unfold L2.start;rw[List.getElem?_append_left (by have:=v1.length;simpa using (by omega:i<vs.length)),List.getElem?_map,q1];rfl
 .rw[List.getElem?_append_right (by simpa using Nat.not_lt.mp hj),List.getElem?_replicate]at e2;split at e2<;>cases e2
section
variable{P:Program}{w:World}{K:PySem.W.Frag}{mg:Str->Option Value}{base:Heap}{G:Tb}
noncomputable def oJ(P:Program)(w:World)(K:PySem.W.Frag)(mg:Str->Option Value)(base:Heap)(G:Tb)(n:Nat):Prop:=∀(f:Nat) i,G.fi[f]?=some i->fJ P w K mg base jQ n i.addr i.fd i.ps (mW K G.F G.w n f)
structure Top(P:Program)(w:World)(K:PySem.W.Frag)(mg:Str->Option Value)(G:Tb):Prop where
 fn:∀(f:Nat) i,G.fi[f]?=some i->mg i.name=some (.ref i.addr)/\PySem.W.keepIn K (.ref i.addr)=true/\Binds K i.fd i.ps []
 bl:∀x∈G.bl,mg x=none
 cs:∀x d,(x,d)∈G.cs->∃v u,mg x=some u/\RelV v u/\yq K d v
 dk:∀x kvs,(x,kvs)∈G.dk->∃a,mg x=some (.ref a)/\∀h:Heap,K.In h->StrTab P w h a (tabOf kvs)
theorem Iw{f:Addr}{fd:FuncData}{ps:List Str}{k:Nat}:fJ P w K mg base jQ 0 f fd ps (mW K G.F G.w 0 k):=by
 have no:∀vs H Q E,¬ mW K G.F G.w 0 k vs H Q E:=λvs H Q E h=>by
  obtain⟨r,h,ds,d,h',_,_,e,_⟩:=h;cases e
 exact⟨λvs H Q E h=>absurd h (no vs H Q E),λA outer s H args us vs Q E _ _ _ _ h=>absurd h (no vs H Q E)⟩
theorem dW{x qual:Str}{st:Stmt}{i:FI}{N:List Str}{n f:Nat}{fn:Ev.Fn}(T:Top P w K mg G)(A0:oJ P w K mg base G n)(F:mU K x qual st i.addr i.fd)(S:bH N i.ps (au st))(hf:G.F[f]?=some fn)(hp:i.ps.length=fn.np)
  (hb:kO G n (au st) N true (List.range N.length) fn.body (dD st)):fJ P w K mg base jQ (n+1) i.addr i.fd i.ps (mW K G.F G.w (n+1) f):=by
 have hlen:∀vs H Q E,mW K G.F G.w (n+1) f vs H Q E->vs.length=i.ps.length:=λvs H Q E h=>by
  obtain⟨r,h,ds,d,h',v1,_,e,_⟩:=h;simp only[Ev.gy,hf]at e;split at e
  .rename_i z;rw[v1.length,z,hp]
  .cases e
 refine F.ok S hlen λcdv A outer s H vs Q E hr iV=>?_;have hl:=hlen vs H Q E iV;have hN:vs.length<=N.length:=by
  have:=congrArg List.length S.pre;rw[List.length_take]at this;omega
 have g:Good G n (au st) N true (jM jQ P w K mg base N qual (au st) i.addr cdv A outer s H E).eg:=
  ⟨rfl,rfl,rfl,λ_ _=>rfl,hr,rfl,λf i hi=>⟨(T.fn f i hi).1,(T.fn f i hi).2.1,(T.fn f i hi).2.2,A0 f i hi⟩,T.bl,T.cs,T.dk⟩
 refine⟨_,hb _ g,?_⟩;obtain⟨r,h,ds,d,h',v1,hr1,e,q⟩:=iV;simp only[Ev.gy,hf]at e;split at e
 .unfold Ev.endOf at e;obtain⟨⟨fl,aj⟩,h2,e1,e⟩:=Ev.ah e;refine⟨r,Ev.dz fn ds,h,fl,aj,h2,qi v1 hN,hr1,e1,?_⟩;cases fl with
  |nx=>
   cases e;exact λs' H' r' _ hr' f'=>q _ H' r' rfl hr' f'
  |ret d'=>
   cases e;exact q
  |bk=>cases e
  |ct=>cases e
 .cases e
end
end Sm
set_option maxRecDepth 100000
namespace Sm
open PySem PySem.Spec PyProof.Rows L2 PySem.SeqAt
open Ev (D O Hh Fr R aI E Es Eo T S Ss Fl Src bF bu TY BI ME)
end Sm
set_option maxRecDepth 100000
namespace L2
open PySem PySem.Spec PyProof.Rows
end L2
namespace Sm
open PySem PySem.Spec PyProof.Rows L2 PySem.SeqAt
open Ev (D O Hh Fr R aI E Es Eo T S Ss Fl Src bF bu TY BI ME)
end Sm
set_option maxRecDepth 100000
namespace Sm
open PySem PySem.Spec PyProof.Rows L2
open Ev (D O Hh Fr R aI E Es Eo T S Ss Fl Src bF bu TY BI ME)
theorem sL(env:Env):∀(names:List (Str×NameKind)) (acc:List (Str×Addr)),(∀x,(x,NameKind.free)∈names->∃c,env.cells.lookup x=some c)->(∀x c,acc.lookup x=some c->env.cells.lookup x=some c)->
  ∃cl,(forIn names acc (λ(x:Str×NameKind) cs=>if (x.2==NameKind.free)=true then (do let c <-cellOf env x.1;pure (ForInStep.yield ((x.1,c) :: cs)))else pure (ForInStep.yield cs)):Sem (List (Str×Addr)))=pure cl/\
   (∀x c,cl.lookup x=some c->env.cells.lookup x=some c)/\(∀x,(x,NameKind.free)∈names->(cl.lookup x).isSome=true)/\(∀x,(acc.lookup x).isSome=true->(cl.lookup x).isSome=true)
 |[],acc,_,h2=>⟨acc,rfl,h2,(λx h=>by simp at h),λ_ h=>h⟩
 | (y,k) :: r,acc,h1,h2=>by
  by_cases hk:k=.free
  .subst hk;obtain⟨c,hc⟩:=h1 y (List.mem_cons_self ..);have h2':∀x c',((y,c) :: acc).lookup x=some c'->env.cells.lookup x=some c':=λx c' e=>by
    rw[List.lookup_cons]at e;split at e
    .rename_i hx;have hx':x=y:=by simpa using hx
     cases e;rw[hx'];exact hc
    .exact h2 x c' e
   obtain⟨cl,e1,e2,e3,e4⟩:=sL env r ((y,c) :: acc) (λx hx=>h1 x (List.mem_cons_of_mem _ hx)) h2';refine⟨cl,?_,e2,λx hx=>?_,λx hx=>e4 x ?_⟩
   .rw[List.forIn_cons];simp only[beq_self_eq_true,if_true];unfold cellOf;rw[hc];exact e1
   .rcases List.mem_cons.mp hx with z|z
    .cases z;exact e4 y (by simp[List.lookup_cons])
    .exact e3 x z
   .rw[List.lookup_cons];split
    .rfl
    .exact hx
  .have hk':(k==NameKind.free)=false:=by simpa using hk
   obtain⟨cl,e1,e2,e3,e4⟩:=sL env r acc (λx hx=>h1 x (List.mem_cons_of_mem _ hx)) h2;refine⟨cl,?_,e2,λx hx=>?_,e4⟩
   .rw[List.forIn_cons];simp only[hk',Bool.false_eq_true,if_false];exact e1
   .rcases List.mem_cons.mp hx with z|z
    .cases z;exact absurd rfl hk
    .exact e3 x z
theorem Iz{scope:Scope}{env:Env}(h:∀x,(x,NameKind.free)∈scope.names->∃c,env.cells.lookup x=some c) :
  ∃cl,closureFor scope env=pure cl/\(∀x c,cl.lookup x=some c->env.cells.lookup x=some c)/\∀x,(x,NameKind.free)∈scope.names->∃c,cl.lookup x=some c:=by
 obtain⟨cl,e1,e2,e3,_⟩:=sL env scope.names [] h (λx c e=>by simp at e);refine⟨cl,?_,e2,λx hx=>Option.isSome_iff_exists.mp (e3 x hx)⟩;unfold closureFor;show(forIn scope.names [] _ >>= λcs=>pure cs:Sem (List (Str×Addr)))=pure cl;have e:(forIn scope.names [] (λ(x:Str×NameKind) cs=>if (x.2==NameKind.free)=true then (do let c <-cellOf env x.1;pure (ForInStep.yield ((x.1,c) :: cs)))else pure (ForInStep.yield cs)):Sem (List (Str×Addr)))=pure cl:=e1;exact congrArg (λt:Sem (List (Str×Addr))=>t >>= λcs=>pure cs) e
noncomputable def fL(sc scope:Scope):Scope:={ scope with names:=scope.names.map λ(n,k)=>if (k==.free&&sc.kind==.function&&sc.names.lookup n==some .cell)then (n,.cell)else (n,k)}
theorem sM{env:Env}{sc scope:Scope}(h:env.scope=sc):relabel scope env=fL sc scope:=by
 subst h;rfl
theorem uh{sc:Scope}:∀{names:List (Str×NameKind)}{x:Str},(∀y∈names,y.2≠.cell)->
  ((names.map λ(n,k)=>if (k==NameKind.free&&sc.kind==.function&&sc.names.lookup n==some .cell)then (n,NameKind.cell)else (n,k)).lookup x=some .cell\/
   (names.map λ(n,k)=>if (k==NameKind.free&&sc.kind==.function&&sc.names.lookup n==some .cell)then (n,NameKind.cell)else (n,k)).lookup x=some .free)->(x,NameKind.free)∈names
 |[],_,_,h=>by rcases h with h|h<;>simp at h
 | (n,k) :: r,x,hc,h=>by
  have ih:=@uh sc r x λy hy=>hc y (List.mem_cons_of_mem _ hy);simp only[List.map_cons]at h;have nk:∀(k':NameKind),(if (k==NameKind.free&&sc.kind==.function&&sc.names.lookup n==some .cell)then (n,NameKind.cell)else (n,k))=(n,k')->k'=.cell\/k'=.free->k=.free:=λk' e hk'=>by
   split at e
   .rename_i z;simp only[Bool.and_eq_true,beq_iff_eq]at z;exact z.1.1
   .cases e;rcases hk' with z|z
    .exact absurd z (hc (n,_) (List.mem_cons_self ..))
    .exact z
  generalize hg:(if (k==NameKind.free&&sc.kind==.function&&sc.names.lookup n==some .cell)then (n,NameKind.cell)else (n,k))=p at h nk
  have hp:p.1=n:=by rw[<-hg];split<;>rfl
  obtain⟨p1,p2⟩:=p;simp only at hp;subst hp;simp only[List.lookup_cons]at h;cases hx:(x==p1)with
  |true=>
   have hx':x=p1:=by simpa using hx
   rw[hx]at h;have:=nk p2 rfl (by rcases h with h|h<;>simp at h<;>simp[h]);subst this;rw[hx'];exact List.mem_cons_self ..
  |false=>
   rw[hx]at h;exact List.mem_cons_of_mem _ (ih h)
section
variable{prog:Program}{w:World}{A:Around}{R':Result->Shared->Prop}{s:Shared}
abbrev fk:Value->Shared->Prop:=λ_ _=>False
noncomputable def yw(ifs:List Expr)(env:Env):Sem Bool:=forIn ifs true λc r=>if r=true then do let ok <-isTrue c env (eval c env);pure (ForInStep.yield ok)else pure (ForInStep.yield r)
theorem vD{elt target iter:Expr}{ifs:List Expr}{scope:Scope}{pos:Pos}{it acc:Value}{env:Env}(I:Nat->Shared->Prop)
  (turn:∀n s,I n s->wpAny (model prog w) A (pyNext it) (λr s₁=>match r with
   |none=>R' (.ok .next) s₁
   |some v=>wpAny (model prog w) A (letOwnedTupleGo target it v) (λ_ s₂=>wpAny (model prog w) A (assign target env v) (λ_ s₃=>
     wpAny (model prog w) A (yw ifs env) (λok s₄=>
      if ok=true then wpAny (model prog w) A (eval elt env) (λx s₅=>
       wpAny (model prog w) A (call (.builtin "list.append") [acc,x]) (λ_ s₆=>∃m,m<n/\I m s₆) fk s₅) fk s₄
      else ∃m,m<n/\I m s₄) fk s₃) fk s₂) fk s₁) fk s)
  (n:Nat) (h:I n s):codeAny (model prog w) A (.compLoop (.ListComp elt [⟨target,iter,ifs,0⟩] scope pos) 0 it acc env) R' s:=by
 refine codeAny_loop rfl I (λn s hI=>?_) n h;show wpAny _ A ((compTurn (.ListComp elt [⟨target,iter,ifs,0⟩] scope pos) 0 it acc env).onRaise (λx=>do noteFrame x env;theTreesLotGoes x)) _ _ s;refine wpAny_noted ?_;rw[compTurn_list];refine wpAny_bind (wpAny_standAt (wpAny_bind (wpAny_mono (turn n s hI) (λr s₁ h₁=>?_) λ_ _ h'=>h'.elim)));cases r with
 |none=>exact wpAny_pure h₁
 |some v=>
  refine wpAny_bind (wpAny_mono h₁ (λ_ s₂ h₂=>?_) λ_ _ h'=>h'.elim);refine wpAny_bind (wpAny_mono h₂ (λ_ s₃ h₃=>wpAny_bind (wpAny_mono h₃ (λok s₄ h₄=>?_) λ_ _ h'=>h'.elim)) λ_ _ h'=>h'.elim);cases ok with
  |false=>exact wpAny_pure ⟨rfl,h₄⟩
  |true=>
   exact wpAny_bind (wpAny_bind (wpAny_mono h₄ (λx s₅ h₅=>wpAny_bind (wpAny_mono h₅ (λ_ s₆ h₆=>wpAny_pure (wpAny_pure ⟨rfl,h₆⟩)) λ_ _ h'=>h'.elim)) λ_ _ h'=>h'.elim))
end
inductive R5(K:PySem.W.Frag)(m:List Nat)(P:aI)(e:Eo)(s:L2.St)(H:Hp)(Q:Bool->Hp->Prop):Prop
 |mk (r:List Addr) (fr:Fr) (h:Hh) (k:Bool) (h':Hh) (c0:SR K m H r fr s) (c1:HR K H r h) (c2:Ev.iY P e fr h=.ok k h') (c3:∀H' r',HR K H' r' h'->Fm K r r' H H'->Q k H'):R5 K m P e s H Q
noncomputable def JC(G:Tb)(n:Nat)(sc:Scope)(N:List Str)(df:Bool)(m:List Nat)(e:Eo)(ifs:List Expr):Prop:=∀X,Good G n sc N df X->∀(pins:List (Addr×Obj)) (s:Shared) (σ:L2.St) (H:Hp) (Q:Bool->Hp->Prop),Inv X pins σ H s->
 R5 X.K m (Ev.run G.F G.w n) e σ H Q->wpAny (model X.prog X.w) X.A (yw ifs X.env) (TP X pins σ Q) X.xe s
section
variable{G:Tb}{n:Nat}{sc:Scope}{N:List Str}{df:Bool}{m:List Nat}{a b c:E}{xa xb xc tg:Expr}{pos:Pos}
theorem PU:JC G n sc N df m .no []:=λX g pins s σ H Q I q=>by
 obtain⟨r,fr,h,k,h',sr,hr,e,q⟩:=q;simp only[Ev.iY]at e;cases e;exact wpAny_pure ⟨H,I,q H r hr .refl⟩
theorem LZ(hc:JT G n sc N df m a xa):JC G n sc N df m (.yes a) [xa]:=λX g pins s σ H Q I q=>by
 obtain⟨r,fr,h,k,h',sr,hr,e,q⟩:=q;simp only[Ev.iY]at e;exact wpAny_tests_one (hc X g pins s σ H Q I ⟨r,fr,h,k,h',sr,hr,e,q⟩)
end
noncomputable def qL(X:Cx)(N':List Str)(scope:Scope)(cl:List (Str×Addr))(C:Addr)(s3:Shared)(H3:Hp)(fp:List Addr):Cx:=
 { X with N:=N',s₀:=s3,H₀:=H3,env:=compEnvC scope cl C X.env,outer:=X.stack,stack:=X.stack,ex:=fp,fn:=λ_=>false,pn:=[],xe:=λ_ _=>False }
noncomputable def namesOk(sc:Scope)(N:List Str)(m:List Nat)(scope:Scope)(t:T)(N':List Str)(m':List Nat):Prop:=m'.length=N'.length/\
 ∀(j:Nat) x i,N'[j]?=some x->m'[j]?=some i->i∈Ev.slots t\/((x,NameKind.free)∈scope.names/\∃jo:Nat,N[jo]?=some x/\m[jo]?=some i)
noncomputable def qM(sc:Scope)(N:List Str)(m:List Nat)(scope:Scope)(t:T)(N':List Str)(m':List Nat):Bool:=m'.length==N'.length&&
 (List.range N'.length).all λj=>match N'[j]?,m'[j]? with
  |some x,some i=>(Ev.slots t).contains i || (scope.names.contains (x,NameKind.free)&&(List.range N.length).any λjo=>N[jo]?==some x&&m[jo]?==some i)
  |_,_=>true
theorem namesOk.of{sc:Scope}{N:List Str}{m:List Nat}{scope:Scope}{t:T}{N':List Str}{m':List Nat}(h:qM sc N m scope t N' m'=true):namesOk sc N m scope t N' m':=by
 unfold qM at h;rw[Bool.and_eq_true]at h;refine⟨by simpa using h.1,λj x i e1 e2=>?_⟩;have hj:j<N'.length:=(List.getElem?_eq_some_iff.mp e1).1;have q:=List.all_eq_true.mp h.2 j (List.mem_range.mpr hj);rw[e1,e2]at q;simp only[Bool.or_eq_true,Bool.and_eq_true,List.any_eq_true]at q;rcases q with q|⟨q1,jo,_,q2⟩
 .exact .inl (by simpa using q)
 .exact .inr ⟨by simpa using q1,jo,by simpa using q2.1,by simpa using q2.2⟩
theorem xH{t:T}{d:D}{fr ao:Fr}(e:Ev.bD t d fr=some ao){i:Nat}(hi:i∉Ev.slots t):ao[i]?=fr[i]?:=by
 have go:∀(l:List Nat) (ds:List D) (fr ao:Fr),Ev.cK l ds fr=some ao->i∉l->ao[i]?=fr[i]?:=by
  intro l;induction l with
  |nil=>
   intro ds fr ao e _;cases ds with
   |nil=>cases e;rfl
   |cons _ _=>cases e
  |cons j l ih=>
   intro ds fr ao e hj;cases ds with
   |nil=>cases e
   |cons d ds=>
    rw[ih ds _ _ e λz=>hj (List.mem_cons_of_mem _ z),List.getElem?_set_ne];intro z;exact hj (by rw[z];exact List.mem_cons_self ..)
 cases t with
 |one j=>
  cases e;rw[List.getElem?_set_ne];intro z;exact hi (by simp[Ev.slots,z])
 |many l=>
  cases d with
  |tup ds=>exact go l ds fr ao e hi
  |_=>cases e
theorem SR.unbind{K:PySem.W.Frag}{m:List Nat}{H:Hp}{r:List Addr}{t:T}{d:D}{fr ao:Fr}{s:L2.St}(sr:SR K m H r ao s)(e:Ev.bD t d fr=some ao)(hu:Ev.undef t fr=true):SR K m H r fr s:=by
 refine⟨sr.len,λj i d' e1 e2=>sr.sl j i d' e1 ?_⟩;rw[xH e]
 .exact e2
 .intro hi;have q:=List.all_eq_true.mp hu i hi;rw[e2]at q;cases q
end Sm
set_option maxRecDepth 100000
namespace Sm
open PySem PySem.Spec PyProof.Rows L2
open Ev (D O Hh Fr R aI E Es Eo T S Ss Fl Src bF bu TY BI ME)
structure lD(sc scope:Scope):Prop where
 kind:scope.kind=.function
 BQ:∀y∈scope.names,y.2≠.cell
 free:∀x,(x,NameKind.free)∈scope.names->(sc.names.lookup x=some .cell\/sc.names.lookup x=some .free)/\scope.names.lookup x=some .free
 loc:∀y∈scope.names,y.2=.local->scope.names.lookup y.1=some .local
noncomputable def Gw(sc scope:Scope):Bool:=scope.kind==.function&&scope.names.all λy=>y.2 != .cell&&(y.2 != .free || ((sc.names.lookup y.1==some .cell ||sc.names.lookup y.1==some .free)&&scope.names.lookup y.1==some .free))&&(y.2 != .local ||scope.names.lookup y.1==some .local)
theorem lD.of{sc scope:Scope}(h:Gw sc scope=true):lD sc scope:=by
 unfold Gw at h;rw[Bool.and_eq_true]at h;have q:∀y∈scope.names,y.2≠.cell/\(y.2=.free->(sc.names.lookup y.1=some .cell\/sc.names.lookup y.1=some .free)/\scope.names.lookup y.1=some .free)/\(y.2=.local->scope.names.lookup y.1=some .local):=λy hy=>by
  have z:=List.all_eq_true.mp h.2 y hy;simp only[Bool.and_eq_true,Bool.or_eq_true,bne_iff_ne,beq_iff_eq,ne_eq]at z;refine⟨z.1.1,λe=>?_,λe=>?_⟩
  .rcases z.1.2 with w|w
   .exact absurd e w
   .exact w
  .rcases z.2 with w|w
   .exact absurd e w
   .exact w
 exact⟨by simpa using h.1,λy hy=>(q y hy).1,λx hx=>(q _ hx).2.1 rfl,λy hy=>(q y hy).2.2⟩
theorem um{sc:Scope}:∀{names:List (Str×NameKind)}{x:Str},names.lookup x=some .free->
  ((names.map λ(n,k)=>if (k==NameKind.free&&sc.kind==.function&&sc.names.lookup n==some .cell)then (n,NameKind.cell)else (n,k)).lookup x=some .cell\/
   (names.map λ(n,k)=>if (k==NameKind.free&&sc.kind==.function&&sc.names.lookup n==some .cell)then (n,NameKind.cell)else (n,k)).lookup x=some .free)
 |[],_,h=>by simp at h
 | (n,k) :: r,x,h=>by
  have ih:=@um sc r x;simp only[List.map_cons];simp only[List.lookup_cons]at h;by_cases hc:(k==NameKind.free&&sc.kind==.function&&sc.names.lookup n==some .cell)=true
  .rw[if_pos hc];simp only[List.lookup_cons];cases hx:(x==n)with
   |true=>exact .inl rfl
   |false=>rw[hx]at h;exact ih h
  .rw[if_neg hc];simp only[List.lookup_cons];cases hx:(x==n)with
   |true=>rw[hx]at h;exact .inr h
   |false=>rw[hx]at h;exact ih h
section
variable{G:Tb}{n:Nat}{sc scope:Scope}{N N':List Str}{df:Bool}{m m':List Nat}{elt:E}{t:T}{it:Ev.It}{cond:Eo}{xe xi tg:Expr}{ifs:List Expr}{pos:Pos}{X:Cx}
theorem Good.comp(g:Good G n sc N df X){cl:List (Str×Addr)}{C:Addr}{s3:Shared}{H3:Hp}{fp:List Addr}:Good G n (fL sc scope) N' false (qL X N' scope cl C s3 H3 fp):=
 ⟨rfl,sM g.sc,g.calm,(λh=>by cases h),g.room,rfl,g.fn,g.bl,g.cs,g.dk⟩
theorem IA{pins:List (Addr×Obj)}{σ:L2.St}{H3:Hp}{s3:Shared}(g:Good G n sc N df X)(I:Inv X pins σ H3 s3)(hs:lD sc scope){cl:List (Str×Addr)}(jc:∀x c,cl.lookup x=some c->X.env.cells.lookup x=some c)
  (lE:∀x,(x,NameKind.free)∈scope.names->∃c,cl.lookup x=some c) {fp:List Addr} (hfp:∀b∈fp,gT X pins H3 b) (hfl:∀b∈fp,b<s3.heap.objs.size):(qL X N' scope cl s3.heap.objs.size s3 H3 fp).Ok where
 mod:=I.ok.mod
 kind:=hs.kind
 glob:=I.ok.glob
 blt:=I.ok.blt
 above:=Nat.le_refl _
 inj:=λx y c h1 h2=>I.ok.inj x y c (jc x c h1) (jc y c h2)
 has:=λx h=>by
  have h':(fL sc scope).names.lookup x=some .cell\/(fL sc scope).names.lookup x=some .free:=by
   rw[<-sM (scope:=scope) g.sc];exact h
  exact lE x (uh hs.BQ h')
 u9:=λx c h=>by cases h
 hd:=I.ok.hd
 frames:=I.ok.frames
 stk:=.inl rfl
 Bc:=λb hb=>⟨Nat.ne_of_lt (hfl b hb),λx c e=>(hfp b hb).2.2.2.2.1 x c (jc x c e)⟩
 bs:=I.bs
 m8:=Nat.le_trans I.ok.m8 I.sz
 pY:=λb o e hb=>by
  rcases(hfp b hb).2.2.2.1 with z|z
  .exact I.ok.pY b o e z
  .have:=Heap.lt_size (I.ok.bs b o e).1;exact absurd (Nat.lt_of_lt_of_le this z) (Nat.lt_irrefl _)
 pZ:=λb hb z=>by
  rcases List.mem_cons.mp (I.qC b z)with q|q
  .exact(hfp b hb).2.1 q
  .exact(hfp b hb).2.2.1 q
 iD:=I.stack
 pD:=I.sA
open Classical in
noncomputable def sig(scope:Scope)(N N':List Str)(m':List Nat)(K:PySem.W.Frag)(H:Hp)(r:List Addr)(fr:Fr)(σ:L2.St):L2.St:=
 (List.range N'.length).map λj=>if h:∃v,∃x i,N'[j]?=some x/\m'[j]?=some i/\(x,NameKind.free)∈scope.names/\(∃jo:Nat,N[jo]?=some x/\σ[jo]?=some (some v))/\∀d,fr[i]?=some (some d)->RV K H r d v then some h.choose else none
theorem L0{K:PySem.W.Frag}{H:Hp}{r:List Addr}{fr:Fr}{σ:L2.St}{j:Nat}{v:V}(h:(sig scope N N' m' K H r fr σ)[j]?=some (some v)) :
  ∃x i,N'[j]?=some x/\m'[j]?=some i/\(x,NameKind.free)∈scope.names/\(∃jo:Nat,N[jo]?=some x/\σ[jo]?=some (some v))/\∀d,fr[i]?=some (some d)->RV K H r d v:=by
 unfold sig at h;rw[List.getElem?_map]at h;cases e:(List.range N'.length)[j]? with
 |none=>rw[e]at h;cases h
 |some j'=>
  have:=getElem?_range' e;subst this;rw[e]at h;simp only[Option.map_some,Option.some.injEq]at h;split at h
  .rename_i hh;cases h;exact hh.choose_spec
  .cases h
theorem L1{K:PySem.W.Frag}{H:Hp}{r:List Addr}{fr:Fr}{σ:L2.St}(sr:SR K m H r fr σ)(hn:namesOk sc N m scope t N' m')(hu:Ev.undef t fr=true):SR K m' H r fr (sig scope N N' m' K H r fr σ):=by
 refine⟨by unfold sig;simp[hn.1],λj i d e1 e2=>?_⟩;have hj:j<N'.length:=by rw[<-hn.1];exact(List.getElem?_eq_some_iff.mp e1).1
 have hx:N'[j]?=some N'[j]:=List.getElem?_eq_getElem hj;rcases hn.2 j _ i hx e1 with hi|⟨h1,jo,h2,h3⟩
 .exfalso;have q:=List.all_eq_true.mp hu i hi;rw[e2]at q;cases q
 .obtain⟨v,h4,h5⟩:=sr.sl jo i d h3 e2;have ex:∃v,∃x i,N'[j]?=some x/\m'[j]?=some i/\(x,NameKind.free)∈scope.names/\(∃jo:Nat,N[jo]?=some x/\σ[jo]?=some (some v))/\∀d,fr[i]?=some (some d)->RV K H r d v:=
   ⟨v,N'[j],i,hx,e1,h1,⟨jo,h2,h4⟩,λd' e'=>by rw[e2]at e';cases e';exact h5⟩
  refine⟨ex.choose,?_,?_⟩
  .unfold sig;rw[List.getElem?_map,List.getElem?_range hj];simp only[Option.map_some];rw[dif_pos ex]
  .obtain⟨x',i',q1,q2,q3,q4,q5⟩:=ex.choose_spec;rw[e1]at q2;cases q2;exact q5 d e2
theorem D8{pins:List (Addr×Obj)}{σ:L2.St}{H3:Hp}{s3:Shared}(g:Good G n sc N df X)(I:Inv X pins σ H3 s3)(hs:lD sc scope){cl:List (Str×Addr)}(jc:∀x c,cl.lookup x=some c->X.env.cells.lookup x=some c)
  (lE:∀x,(x,NameKind.free)∈scope.names->∃c,cl.lookup x=some c) {fp:List Addr} (hfp:∀b∈fp,gT X pins H3 b) (hfl:∀b∈fp,b<s3.heap.objs.size) {h1:Heap} {tk:Nat} {mm:Str->Option Value}
  (hns:h1.Ns s3.heap.objs.size mm) (hk:∀b o,s3.heap.get? b=some o->h1.get? b=some o) {r:List Addr} {fr:Fr} :
  Inv (qL X N' scope cl s3.heap.objs.size s3 H3 fp) [] (sig scope N N' m' X.K H3 r fr σ) H3 { s3 with heap:=h1,toks:=tk }:=by
 refine⟨IA g I hs jc lE hfp hfl,rfl,I.bare,Un.kept hk,⟨mm,hns,λj x v e1 e2 e3=>?_⟩,λx c e=>?_,I.hok.fresh (Nat.le_refl _),λx c e=>I.iy x c (jc x c e),(λp hp=>by simp[qL]at hp),I.hok.kept hk,(by unfold sig;simp[qL])⟩
 .obtain⟨x',i,q1,q2,q3,⟨jo,q4,q5⟩,_⟩:=L0 e2;have VW:N'[j]?=some x:=e1;rw[VW]at q1;cases q1;obtain⟨f1,f2⟩:=hs.free x q3;obtain⟨mO,XE,VX⟩:=I.loc;obtain⟨u,ru,lk⟩:=VX jo x v (by rw[g.nm];exact q4) q5 (by rw[g.sc];rcases f1 with z|z<;>simp[tR,z]);refine⟨u,ru,?_⟩;have hkd:X.env.kindOf x=some .cell\/X.env.kindOf x=some .free:=by unfold Env.kindOf;rw[g.sc];exact f1
  rcases lk with ⟨z,_⟩|⟨_,c,hc,hcell⟩
  .rcases hkd with w|w <;> (rw[z]at w;cases w)
  .obtain⟨c',hc'⟩:=lE x q3;have:c'=c:=by
    have:=jc x c' hc';rw[hc]at this;cases this;rfl
   subst this;refine .inr ⟨?_,c',hc',?_⟩
   .show(relabel scope X.env).names.lookup x=some .cell\/(relabel scope X.env).names.lookup x=some .free;rw[sM (scope:=scope) g.sc];exact um f2
   .obtain⟨o,ho,hd⟩:=hcell;exact⟨o,hk _ _ ho,hd⟩
 .obtain⟨v,o,ho,hd⟩:=I.cell x c (jc x c e);exact⟨v,o,hk _ _ ho,hd⟩
end
end Sm
set_option maxRecDepth 100000
namespace Sm
open PySem PySem.Spec PyProof.Rows L2
open Ev (D O Hh Fr R aI E Es Eo T S Ss Fl Src bF bu TY BI ME)
section
variable{G:Tb}{n:Nat}{sc scope:Scope}{N N':List Str}{df:Bool}{m m':List Nat}{elt:E}{t:T}{it:Ev.It}{cond:Eo}{xe xi tg:Expr}{ifs:List Expr}{pos:Pos}{X:Cx}
noncomputable def Ag(P:aI)(elt:E)(t:T)(cond:Eo)(fr:Fr):D->Hh->R (Option D):=λd h2=>match Ev.bD t d fr with
 |none=>.bad
 |some ao=>(Ev.iY P cond ao h2).bind λk h3=>if k then (Ev.ev P elt ao h3).bind λx h4=>.ok (some x) h4 else .ok none h3
theorem sN(P:aI)(elt:E)(t:T)(it:Ev.It)(cond:Eo)(fr:Fr)(h:Hh):Ev.ev P (.comp elt t it cond) fr h=(Ev.b8 P it fr h).bind λs h1=>if Ev.undef t fr then
  (Ev.cH (Ag P elt t cond fr) s.2 s.1 h1).bind λds h2=>Ev.alloc ds h2 else .bad:=by
 simp only[Ev.ev];rfl
noncomputable def CI(Y:Cx)(m':List Nat)(f:D->Hh->R (Option D))(fr:Fr)(src:Src)(fp:List Addr)(tn:Nat->Heap->Prop)(r2:List Addr)(H2:Hp)(Dd:Addr)(ds:List D)(h2:Hh)(k:Nat)(s:Shared):Prop:=
 ∃i pJ Hc rc hc dn vs rest,Inv Y [] pJ Hc s/\tn i s.heap/\(∀b∈fp,Hc b=none)/\k=src.1.length - i/\i<=src.1.length/\
  SR Y.K m' Hc rc fr pJ/\HR Y.K Hc rc hc/\Fm Y.K r2 rc H2 Hc/\Hc Dd=some (.lst vs)/\Dd∉rc/\aD Y.K Hc rc dn vs/\Ev.cH f src.2 (src.1.drop i) hc=.ok rest h2/\dn++rest=ds
section
variable{Y:Cx}{sc':Scope}{J:L2.It}{fp:List Addr}{ita:Addr}{tn:Nat->Heap->Prop}{fr:Fr}{src:Src}{r2:List Addr}{H2:Hp}{Dd:Addr}{ds:List D}{h2:Hh}
theorem Ah(gC:Good G n sc' N' false Y){α:Type}{tt:Sem α}{Q:α->Shared->Prop}{s:Shared}(hw:wpAny (model Y.prog Y.w) Y.A tt Q Y.xe s):wpAny (model Y.prog Y.w) Y.A tt Q fk s:=by rw[gC.xe]at hw;exact hw
theorem yx{i:Nat}{mY:L2.St}{H9:Hp}{r9:List Addr}{h9:Hh}{dn:List D}{vs:List V}{rest':List D}{s9:Shared}{p:List (Addr×Obj)}{f:D->Hh->R (Option D)}(hlt:i<src.1.length)(I9:Inv Y ([]++p) mY H9 s9)(bk:tn (i+1) s9.heap/\∀b∈fp,H9 b=none)(q:SR Y.K m' H9 r9 fr mY)(uo:HR Y.K H9 r9 h9)(fm:Fm Y.K r2 r9 H2 H9)(Ai:H9 Dd=some (.lst vs))(Aj:Dd∉r9)(rv:aD Y.K H9 r9 dn vs)(e7:Ev.cH f src.2 (src.1.drop (i+1)) h9=.ok rest' h2)(ed:dn++rest'=ds) :
  ∃k,k<src.1.length - i/\CI Y m' f fr src fp tn r2 H2 Dd ds h2 k s9:=
 ⟨src.1.length - (i+1),Nat.sub_lt_sub_left hlt (Nat.lt_succ_self i),i+1,mY,H9,r9,h9,dn,vs,rest',I9.mz,bk.1,bk.2,rfl,hlt,q,uo,fm,Ai,Aj,rv,e7,ed⟩
theorem L3{i:Nat}{mY:L2.St}{H9:Hp}{r9:List Addr}{h9:Hh}{dn:List D}{vs:List V}{xd:D}{v10:V}{Gx:Value}{rest':List D}{s9:Shared}{p:List (Addr×Obj)}{f:D->Hh->R (Option D)}(hlt:i<src.1.length)(nI:H2 Dd=none)(hsz:ds.length<=sizeLine)(gC:Good G n sc' N' false Y)(I9:Inv Y ([]++p) mY H9 s9)(D9:RelV v10 Gx)(bk:∀{σ':L2.St}{H':Hp}{s':Shared},Inv Y ([]++p) σ' H' s'->tn (i+1) s'.heap/\∀b∈fp,H' b=none)(q:SR Y.K m' H9 r9 fr mY)(uo:HR Y.K H9 r9 h9)(fm:Fm Y.K r2 r9 H2 H9)(pK:H9 Dd=some (.lst vs))(vE:Dd∉r9)(rv:aD Y.K H9 r9 dn vs)(Ea:RV Y.K H9 r9 xd v10)(e7:Ev.cH f src.2 (src.1.drop (i+1)) h9=.ok rest' h2)(ed:dn++xd :: rest'=ds) :
  wpAny (model Y.prog Y.w) Y.A (call (.builtin "list.append") [.ref Dd,Gx]) (λ_ Gy=>∃k,k<src.1.length - i/\CI Y m' f fr src fp tn r2 H2 Dd ds h2 k Gy) fk s9:=by
 have hlen:vs.length<sizeLine:=by
  have h1:=rv.length;have h2:=congrArg List.length ed;simp at h2;omega
 refine bI (Ah gC (t9 _ s9 mY H9 (.ref Dd) [v10] (.ref Dd) [Gx] (λ_ R6=>R6=upd H9 Dd (.lst (vs++[v10]))) I9 rfl (.cons D9 .nil) ⟨Dd,vs,v10,rfl,rfl,pK,hlen,rfl⟩)) λ_ Gy ⟨_,R6,R7,_,Uh⟩=>?_;subst Uh;refine yx (dn:=dn++[xd]) (vs:=vs++[v10]) hlt R7 (bk R7) ?_ (uo.other pK vE) (fm.other nI pK) cW vE ?_ e7 ?_
 .exact⟨q.len,λj i' d' a1 a2=>by
   obtain⟨w,b1,b2⟩:=q.sl j i' d' a1 a2;exact⟨w,b1,b2.grow (λ_ _ z=>z) (jb pK)⟩⟩
 .exact(rv.append (.cons Ea .nil)).grow (λ_ _ z=>z) (jb pK)
 .rw[<-ed];simp
theorem BR(gC:Good G n sc' N' false Y)(hg:JG G n sc' N' false m' t tg)(hc:JC G n sc' N' false m' cond ifs)(he:JE G n sc' N' false m' elt xe)(Tn:Turn Y.prog Y.w Y.K tg J fp ita tn)(mC:∀{Hc:Hp},(∀b∈fp,Hc b=none)->∀b∈fp,gT Y [] Hc b)
  (hu:Ev.undef t fr=true) (hJ:qh Y.K r2 H2 src J) (nI:H2 Dd=none) (hsz:ds.length<=sizeLine) {R':Result->Shared->Prop}
  (Ui:∀s6 pJ Hc rc vs,Inv Y [] pJ Hc s6->HR Y.K Hc rc h2->Fm Y.K r2 rc H2 Hc->Hc Dd=some (.lst vs)->Dd∉rc->aD Y.K Hc rc ds vs->R' (.ok .next) s6) {k:Nat} {s:Shared}
  (h:CI Y m' (Ag (Ev.run G.F G.w n) elt t cond fr) fr src fp tn r2 H2 Dd ds h2 k s):codeAny (model Y.prog Y.w) Y.A (.compLoop (.ListComp xe [⟨tg,xi,ifs,0⟩] scope pos) 0 (.ref ita) (.ref Dd) Y.env) R' s:=by
 refine vD (CI Y m' (Ag (Ev.run G.F G.w n) elt t cond fr) fr src fp tn r2 H2 Dd ds h2) ?_ k h;rintro k s5 ⟨i,pJ,Hc,rc,hc',dn,vs,rest,I5,yd,tT,rfl,hle,BO,ug,vF,pK,vE,BU,e5,Gz⟩;rcases Nat.lt_or_ge i src.1.length with hlt|hge
 .rw[List.drop_eq_getElem_cons hlt]at e5;simp only[Ev.cH]at e5;split at e5
  .rename_i hst;obtain⟨hgo,_⟩:=hJ i Hc rc hc' ug vF hst;obtain⟨g1,g2⟩:=hgo src.1[i] (List.getElem?_eq_getElem hlt);obtain⟨o,h6,e6,e5⟩:=Ev.ah e5;obtain⟨rest',h7,e7,e5⟩:=Ev.ah e5;cases e5;refine bI (Tn.item Y rfl rfl rfl gC.calm i [] s5 pJ Hc fk I5 (mC tT) yd g1) λrr s6 ⟨u,VY,h8⟩=>?_;subst VY;refine bI h8 λ_ s7 ⟨x,H7,I7,rx,y7,L4,VZ⟩=>?_;obtain⟨r7,v7,R8,yy⟩:=g2 x H7 y7;obtain⟨Uj,Uk⟩:=yy.gu pK vE;unfold Ag at e6;split at e6
   .cases e6
   .rename_i ao eb;obtain⟨kk,h9,e9,e6⟩:=Ev.ah e6;have V0:=I7.pinned (mC VZ) (Tn.obj _ _ L4);refine bI (Ah gC (hg _ gC _ s7 pJ H7 x u (λmY H8=>H8=H7/\SR Y.K m' H7 r7 ao mY) V0 rx ⟨r7,fr,hc',_,ao,BO.mono yy,R8,v7,eb,λs' q=>⟨rfl,q⟩⟩)) λ_ s8 ⟨mY,H8,I8,V1,GA⟩=>?_;subst V1;refine bI (Ah gC (hc _ gC _ s8 mY _ (λb H9=>b=kk/\∃r9,HR Y.K H9 r9 h9/\Fm Y.K r7 r9 _ H9) I8 ⟨r7,ao,hc',kk,h9,GA,R8,e9,λH9 r9 uo f9=>⟨rfl,r9,uo,f9⟩⟩)) λbb s9 ⟨H9,I9,Lm,r9,uo,uq⟩=>?_;subst Lm;obtain⟨Aj,Ai⟩:=uq.gu Uk Uj;have back:∀{σ':L2.St} {H':Hp} {s':Shared},Inv Y ([]++nj fp s7.heap) σ' H' s'->tn (i+1) s'.heap/\∀b∈fp,H' b=none:=λ{σ' H' s'} I'=>
     ⟨Tn.keep _ _ _ L4 λb hb o e=>(I'.pin (b,o) (List.mem_append_right _ (List.mem_append_right _ (jT hb e)))).1,λb hb=>
      let ⟨o,e,_⟩:=Tn.obj _ _ L4 b hb
      (I'.pin (b,o) (List.mem_append_right _ (List.mem_append_right _ (jT hb e)))).2.1⟩
    cases bb with
    |false=>
     simp only[Bool.false_eq_true,if_false]at e6 ⊢;cases e6;exact yx hlt I9 (back I9) ((GA.mono uq).unbind eb hu) uo ((vF.trans yy).trans uq) Ai Aj ((BU.mono yy).mono uq) e7 Gz
    |true=>
     simp only[if_true]at e6 ⊢;obtain⟨xd,XF,V2,e6⟩:=Ev.ah e6;cases e6;refine bI (Ah gC (he _ gC _ s9 mY H9 (λv BV=>∃yz,RV Y.K BV yz xd v/\HR Y.K BV yz _/\Fm Y.K r9 yz H9 BV) I9 ⟨r9,ao,h9,xd,_,GA.mono uq,uo,V2,λv BV yz v10 Eb vG=>⟨yz,v10,Eb,vG⟩⟩)) λGx R9 ⟨v10,BV,V3,D9,yz,Ea,Eb,Ak⟩=>?_;obtain⟨PV,PX⟩:=Ak.gu Ai Aj;exact L3 hlt nI hsz gC V3 D9 back (((GA.mono uq).mono Ak).unbind eb hu) Eb (((vF.trans yy).trans uq).trans Ak) PX PV (((BU.mono yy).mono uq).mono Ak) Ea e7 Gz
  .cases e5
 .have hi':i=src.1.length:=Nat.le_antisymm hle hge;subst hi';rw[List.drop_length]at e5;simp only[Ev.cH]at e5;split at e5
  .rename_i hst;cases e5;refine bI (Tn.done Y rfl rfl rfl gC.calm _ [] s5 pJ Hc fk I5 (mC tT) yd ((hJ _ Hc rc _ ug vF hst).2 (Nat.le_refl _))) λrr s6 ⟨hrr,I6⟩=>?_;subst hrr;rw[List.append_nil]at Gz;subst Gz;exact Ui s6 pJ Hc rc vs I6 ug vF pK vE BU
  .cases e5
end
theorem ur(g:Good G n sc N df X)(hi:JI G n sc N df m it tg xi)(hg:JG G n (fL sc scope) N' false m' t tg)(hc:JC G n (fL sc scope) N' false m' cond ifs)(he:JE G n (fL sc scope) N' false m' elt xe)
  (hn:namesOk sc N m scope t N' m') (hs:lD sc scope) {cl:List (Str×Addr)} (jc:∀x c,cl.lookup x=some c->X.env.cells.lookup x=some c) (lE:∀x,(x,NameKind.free)∈scope.names->∃c,cl.lookup x=some c)
  {pins:List (Addr×Obj)} {σ:L2.St} {H:Hp} {s:Shared} (I:Inv X pins σ H s) {r:List Addr} {fr:Fr} {h:Hh} {d:D} {h':Hh} (sr:SR X.K m H r fr σ) (hr:HR X.K H r h)
  (e:Ev.ev (Ev.run G.F G.w n) (.comp elt t it cond) fr h=.ok d h') (post:Value->Addr->Result->Shared->Prop)
  (hpost:∀Dd C s' H' r',Inv X pins σ H' s'->(∃mm,s'.heap.Ns C mm)->gT X pins H' C->RV X.K H' r' d (.ref Dd)->HR X.K H' r' h'->Fm X.K r r' H H'->post (.ref Dd) C (.ok .next) s') {E:Value->Shared->Prop} (hE:X.xe=λ_ _=>False) :
  wpAny (model X.prog X.w) X.A (eval xi X.env) (λx s₁=>wpAny (model X.prog X.w) X.A (pyIter x) (λitv s₂=>wpAny (model X.prog X.w) X.A (newList []) (λacc s₃=>
   wpAny (model X.prog X.w) X.A (newFunctionEnv scope X.env.globals cl [] X.env.qual none .none (some X.env)) (λcenv s₄=>
    codeAny (model X.prog X.w) X.A (.compStart (.ListComp xe [⟨tg,xi,ifs,0⟩] scope pos) 0 itv acc { cenv with scope:=relabel scope X.env }) (post acc cenv.locals) s₄) E s₃) E s₂) E s₁) E s:=by
 rw[sN]at e;obtain⟨src,h1,e1,e⟩:=Ev.ah e;split at e
 .rename_i hu;obtain⟨ds,h2,e2,e⟩:=Ev.ah e;have eg:∀{α:Type} {tt:Sem α} {Q:α->Shared->Prop} {s:Shared},wpAny (model X.prog X.w) X.A tt Q X.xe s->wpAny (model X.prog X.w) X.A tt Q E s:=λ{α tt Q s} hw=>wpAny_mono hw (λ_ _ q=>q) λ_ _ q=>by rw[hE]at q;exact q.elim
  refine bI (eg (hi X g pins s σ H (λJ H2=>∃r2,HR X.K H2 r2 h1/\Fm X.K r r2 H H2/\qh X.K r2 H2 src J) I ⟨r,fr,h,src,h1,sr,hr,e1,λJ H2 r2 hr2 f2 hJ=>⟨r2,hr2,f2,hJ⟩⟩)) λv s1 q1=>?_;refine bI (eg q1) λitv s2 q2=>?_;obtain⟨ita,fp,tn,J,H2,rfl,I2,Tn,st2,f2,r2,hr2,GB,hJ⟩:=q2;refine wpAny_newObj_type ?_;generalize GC:s2.heap.objs.size=Dd
  have nI:H2 Dd=none:=by rw[<-GC];exact I2.fresh
  have I3:Inv X pins σ (upd H2 Dd (.lst [])) { s2 with heap:=s2.heap.push { cls:=.type "list",data:=.seq ([]:List Value).toArray }}:=by
   have:=I2.DV (ys:=[]) (its:=[]) (t':=s2.toks) .nil (Nat.zero_le _);rw[GC]at this;exact this
  have L5:∀b∈fp,b<s2.heap.objs.size:=λb hb=>by
   obtain⟨o,e,_⟩:=Tn.obj 0 _ st2 b hb;exact Heap.lt_size e
  generalize L6:({ s2 with heap:=s2.heap.push { cls:=.type "list",data:=.seq ([]:List Value).toArray }}:Shared)=s3 at I3
  have Ul:s3.heap.objs.size=s2.heap.objs.size+1:=by rw[<-L6];exact Heap.size_push ..
  have k3:∀b o,s2.heap.get? b=some o->s3.heap.get? b=some o:=λb o e=>by rw[<-L6];exact Heap.get?_push_of_some _ e
  have L7:∀b∈fp,b<s3.heap.objs.size:=λb hb=>Nat.lt_of_lt_of_le (L5 b hb) (by rw[Ul];exact Nat.le_succ _);have sO:∀b∈fp,gT X pins (upd H2 Dd (.lst [])) b:=λb hb=>⟨by rw[bx (λz=>absurd (L5 b hb) (by rw[z,GC];exact Nat.lt_irrefl _))];exact(f2 b hb).1,(f2 b hb).2⟩
  refine wpAny_newFunctionEnv (hs.BQ) (λy hy=>by simp at hy) (λL8 Um Uo=>?_) hs.kind;have k4:∀b o,s3.heap.get? b=some o->L8.get? b=some o:=λb o e=>Uo.extBut b o (Nat.ne_of_lt (Heap.lt_size e)) (Heap.get?_push_of_some _ e);have gC:Good G n (fL sc scope) N' false (qL X N' scope cl s3.heap.objs.size s3 (upd H2 Dd (.lst [])) fp):=g.comp;have I4:Inv (qL X N' scope cl s3.heap.objs.size s3 (upd H2 Dd (.lst [])) fp) [] (sig scope N N' m' X.K (upd H2 Dd (.lst [])) r2 fr σ) (upd H2 Dd (.lst [])) { s3 with heap:=L8,toks:=s3.toks+0 }:=
   D8 g I3 hs jc lE sO L7 Um k4
  have yv:SR X.K m' (upd H2 Dd (.lst [])) r2 fr (sig scope N N' m' X.K (upd H2 Dd (.lst [])) r2 fr σ):=L1 (((sr.mono GB).mono (Fm.tup nI))) hn hu;have kN:HR X.K (upd H2 Dd (.lst [])) r2 h1:=hr2.tup nI;have Sa:Dd∉r2:=λhm=>by
   obtain⟨k,hk⟩:=List.getElem?_of_mem hm;have hlt:k<h1.length:=by rw[<-hr2.len];exact(List.getElem?_eq_some_iff.mp hk).1
   obtain⟨a,e3,e4⟩:=hr2.ob k _ (List.getElem?_eq_getElem hlt);rw[hk]at e3;cases e3;cases eo:h1[k]with
   |lst dd=>rw[eo]at e4;obtain⟨us,e5,_⟩:=e4;rw[nI]at e5;cases e5
   |bP dd=>
    rw[eo]at e4;obtain⟨us,e5,_⟩:=e4;rcases e5 with ⟨ob,e5⟩|⟨ob,_,_,e5,_⟩
    .rw[nI]at e5;cases e5
    .have:=Heap.lt_size (I2.fF _ _ e5);rw[GC]at this;exact absurd this (Nat.lt_irrefl _)
  have V4:H Dd=none:=by
   cases z:H Dd with
   |none=>rfl
   |some o=>
    have hnr:Dd∉r:=λhm=>by
     obtain⟨k,hk⟩:=List.getElem?_of_mem hm;exact Sa (List.mem_of_getElem? (GB.pre _ _ hk))
    have:=GB.keep _ _ z hnr;rw[nI]at this;cases this
  have mC:∀{Hc:Hp},(∀b∈fp,Hc b=none)->∀b∈fp,gT (qL X N' scope cl s3.heap.objs.size s3 (upd H2 Dd (.lst [])) fp) [] Hc b:=λ{Hc} hz b hb=>by
   refine⟨hz b hb,Nat.ne_of_lt (L7 b hb),(I4.ok).pZ b hb,.inl hb,λx c e=>((I4.ok).Bc b hb).2 x c e,λp hp=>?_⟩;simp[qL]at hp
  have hsz:ds.length<=sizeLine:=by
   unfold Ev.alloc at e;split at e
   .rename_i z;rw[<-ja];exact z
   .cases e
  have fin:codeAny (model X.prog X.w) X.A (.compLoop (.ListComp xe [⟨tg,xi,ifs,0⟩] scope pos) 0 (.ref ita) (.ref Dd) (compEnvC scope cl s3.heap.objs.size X.env)) (post (.ref Dd) s3.heap.objs.size) { s3 with heap:=L8,toks:=s3.toks+0 }:=by
   refine BR gC hg hc he Tn mC hu hJ nI hsz (λs6 pJ Hc rc vs I6 ug vF pK vE BU=>?_) ⟨0,_,_,r2,h1,[],[],ds,I4,Tn.keep _ _ _ st2 λb hb o eo=>k4 b o (k3 b o eo),λb hb=>(sO b hb).1,rfl,Nat.zero_le _,yv,kN,Fm.tup nI,cW,Sa,.nil,by rw[List.drop_zero];exact e2,rfl⟩;unfold Ev.alloc at e;split at e
   .cases e;obtain⟨V5,Up,_⟩:=I6.loc;refine hpost Dd _ s6 Hc (rc++[Dd]) ?_ ⟨V5,Up⟩ ?_ ⟨Dd,rfl,?_⟩ (ug.known pK vE BU) ((GB.trans vF).known ?_)
    .exact I3.uM (ch:=fp) (I6.os) I6.base I6.hok I6.bare λb hb=>⟨(sO b hb).2.2.2.1,(sO b hb).2.1,(sO b hb).2.2.2.2.1,(sO b hb).2.2.2.2.2⟩
    .exact I3.zM (Nat.le_refl _) I6.free
    .rw[<-ug.len];simp
    .exact V4
   .cases e
  subst L6;exact codeAny_compStart_list fin (Tn.self _ 0 _ _ _ (Tn.keep _ _ _ st2 λb hb o eo=>k4 b o (k3 b o eo)) fin)
 .cases e
end
end Sm
set_option maxRecDepth 100000
namespace Sm
open PySem PySem.Spec PyProof.Rows L2
open Ev (D O Hh Fr R aI E Es Eo T S Ss Fl Src bF bu TY BI ME)
section
variable{G:Tb}{n:Nat}{sc scope:Scope}{N N':List Str}{df:Bool}{m m':List Nat}{elt:E}{t:T}{it:Ev.It}{cond:Eo}{xe xi tg:Expr}{ifs:List Expr}{pos:Pos}
theorem Good.cells{X:Cx}{pins:List (Addr×Obj)}{σ:L2.St}{H:Hp}{s:Shared}(g:Good G n sc N df X)(I:Inv X pins σ H s)(hs:lD sc scope) :
  ∃cl,closureFor scope X.env=pure cl/\(∀x c,cl.lookup x=some c->X.env.cells.lookup x=some c)/\∀x,(x,NameKind.free)∈scope.names->∃c,cl.lookup x=some c:=
 Iz λx hx=>I.ok.has x (by unfold Env.kindOf;rw[g.sc];exact(hs.free x hx).1)
theorem BW{X:Cx}{pins:List (Addr×Obj)}{σ:L2.St}{H:Hp}{s:Shared}(I:Inv X pins σ H s){C:Addr}(fp:gT X pins H C){h':Heap}(hs:Heap.SameBut C s.heap h'):Inv X pins σ H { s with heap:=h' }:=
 I.turned (t':=s.toks) (λb o hb e=>hs.extBut b o hb e) fp.1 fp.2.1 fp.2.2.2.1 fp.2.2.2.2.1 fp.2.2.2.2.2
theorem yC(hi:JI G n sc N df m it tg xi)(hg:JG G n (fL sc scope) N' false m' t tg)(hc:JC G n (fL sc scope) N' false m' cond ifs)(he:JE G n (fL sc scope) N' false m' elt xe)
  (hn:namesOk sc N m scope t N' m') (hs:lD sc scope) (hf:∀(env:Env) x,foldedSetIterable xi env x=pure x:=by intro _ _;rfl):JE G n sc N df m (.comp elt t it cond) (.ListComp xe [⟨tg,xi,ifs,0⟩] scope pos):=λX g pins s σ H Q I q=>by
 obtain⟨r,fr,h,d,h',sr,hr,e,q⟩:=q;obtain⟨cl,hcl,jc,lE⟩:=g.cells I hs;rw[eval_ListComp];refine wpAny_comprehension_free (use:=none) (Q:=EP X pins σ Q) rfl (hf _) hcl hs.kind hs.loc ?_;refine ur g hi hg hc he hn hs jc lE I sr hr e (λacc C=>compPost (model X.prog X.w) X.A X.xe none (EP X pins σ Q) acc C) (λDd C s' H' r' I' hC fp rv hr' GD=>?_) g.xe;obtain⟨mm,hC⟩:=hC;exact⟨mm,hC,λh'' BX=>⟨.ref Dd,H',BW I' fp BX,rfl,q _ H' r' rv hr' GD⟩⟩
theorem IB(j i:Nat){x:Str}{pos' cpos:Pos}(hm:m.Nodup)(hN:N.Nodup)(hi:JI G n sc N df m it tg xi)(hg:JG G n (fL sc scope) N' false m' t tg)(hc:JC G n (fL sc scope) N' false m' cond ifs)(he:JE G n (fL sc scope) N' false m' elt xe)
  (hn:namesOk sc N m scope t N' m') (hs:lD sc scope) (hj:m[j]?=some i:=by rfl) (ud:N[j]?=some x:=by rfl)
  (hl:sc.names.lookup x=some .local\/(df=true/\sc.names.lookup x=some .cell):=by first|exact Or.inl rfl|exact Or.inr ⟨rfl,rfl⟩) (hf:∀(env:Env) x,foldedSetIterable xi env x=pure x:=by intro _ _;rfl) :
  JS G n sc N df m (.set i (.comp elt t it cond)) (.Assign [.Name x pos'] (.ListComp xe [⟨tg,xi,ifs,0⟩] scope cpos) pos):=λX g=>by
 obtain⟨h1,h2⟩:=g.loc hl;have hsw:swapsWith (.ListComp xe [⟨tg,xi,ifs,0⟩] scope cpos) (some (.Name x pos')) pos.line X.env=pure (X.env.blockKind==.function&&X.env.kindOf x==some .local&&pos'.line==(Expr.ListComp xe [⟨tg,xi,ifs,0⟩] scope cpos).pos.line&&!(scope.names.any λ(n,k)=>n==x&&(k==.local ||k==.cell))):=rfl;generalize hb:(X.env.blockKind==.function&&X.env.kindOf x==some .local&&pos'.line==(Expr.ListComp xe [⟨tg,xi,ifs,0⟩] scope cpos).pos.line&&!(scope.names.any λ(n,k)=>n==x&&(k==.local ||k==.cell)))=b at hsw
 cases b with
 |false=>
  refine PS.of (qF (i:=j) (by rw[g.nm];exact hN) (by rw[g.nm];exact ud) h1 (yC hi hg hc he hn hs hf X g) hsw h2) λQ s H q=>?_;obtain⟨r,fr,h,fl,aj,h',sr,hr,e,q⟩:=q;simp only[Ev.ex]at e;obtain⟨d,h1,e1,e⟩:=Ev.ah e;cases e;exact⟨r,fr,h,d,_,sr,hr,e1,λv H1 r1 v1 hr1 f1=>q _ H1 r1 ((sr.mono f1).set hm hj v1) hr1 f1⟩
 |true=>
  have XG:X.env.kindOf x=some .local:=by
   simp only[Bool.and_eq_true,beq_iff_eq]at hb;exact hb.1.1.2
  intro pins s σ H Q I q;obtain⟨r,fr,h,fl,aj,h',sr,hr,e,q⟩:=q;simp only[Ev.ex]at e;obtain⟨d,h3,e1,e⟩:=Ev.ah e;cases e;obtain⟨cl,hcl,jc,lE⟩:=g.cells I hs;rw[exec_Assign_Name_used _ _ _ _ hsw];refine wpAny_bind (wpAny_standAt (wpAny_bind ?_));show wpAny _ X.A (do let _ <-comprehension (.ListComp xe [⟨tg,xi,ifs,0⟩] scope cpos) scope X.env _ (newList []) false (eval xi X.env) (some (assign (.Name x pos') X.env))) _ _ s;refine wpAny_bind (wpAny_mono (wpAny_comprehension_free (use:=some (assign (.Name x pos') X.env)) (Q:=λ_ s'=>SP X pins Q .next s') rfl (hf _) hcl hs.kind hs.loc ?_) (λ_ s' hq=>wpAny_pure (wpAny_pure hq)) λ_ _ e=>e);refine ur g hi hg hc he hn hs jc lE I sr hr e1 (λacc C=>compPost (model X.prog X.w) X.A X.xe (some (assign (.Name x pos') X.env)) (λ_ s'=>SP X pins Q .next s') acc C) (λDd C s' H' r' I' hC fp rv hr' GD=>?_) g.xe;obtain⟨mm,hC⟩:=hC;show wpAny _ X.A (assign (.Name x pos') X.env (.ref Dd)) _ _ s';refine wpAny_assign_Name (ng (v:=.ref Dd) I' (by rw[g.nm];exact hN) (i:=j) (by rw[g.nm];exact ud) h1 rfl (λs'' V6 BX=>?_) h2);obtain⟨a,BX,ha⟩:=BX;have V7:C≠a:=by
   rcases ha with z|z
   .rw[z];exact fp.2.1
   .exact λw=>fp.2.2.2.2.1 x a z w.symm
  refine⟨mm,hC.sameBut BX V7,λh'' Uq=>?_⟩;exact⟨_,H',BW V6 ⟨fp.1,fp.2⟩ Uq,q _ H' r' ((sr.mono GD).set hm hj rv) hr' GD⟩
end
end Sm
set_option maxRecDepth 100000
namespace Sm
open PySem PySem.Spec PyProof.Rows L2 PySem.SeqAt
open Ev (D O Hh Fr R aI E Es Eo T S Ss Fl Src bF bu TY BI ME)
structure vH(A:Around)(s:Shared)(u w:Value)(k:Bool):Prop where
 eq:EqAt A s u w k
 rc:RcAt A s u w k
 ne:RcNeAt A s u w (!k)
theorem sP{f:D->D->Option Bool}:∀{x y:List D},x.length≠y.length->∀{k},Ev.cz f x y=some k->k=false
 |[],[],h,_,_=>absurd rfl h
 |[],_ :: _,_,_,e=>by cases e;rfl
 |_ :: _,[],_,_,e=>by cases e;rfl
 |a :: x,b :: y,h,k,e=>by
  simp only[Ev.cz,Option.bind_eq_bind,Option.bind_eq_some_iff]at e;obtain⟨p,_,q,e2,e3⟩:=e;have:=sP (x:=x) (y:=y) (by simpa using h) e2;subst this;cases e3;simp
theorem yD{f:D->D->Option Bool}:∀{x y:List D}{k},Ev.cz f x y=some k->x.length=y.length->∃e:Nat->Bool,(∀(j:Nat) a b,x[j]?=some a->y[j]?=some b->f a b=some (e j))/\(List.range x.length).all e=k
 |[],[],_,h,_=>⟨λ_=>true,(λj a b h1=>by simp at h1),by cases h;simp⟩
 |[],_ :: _,_,_,h=>by simp at h
 |_ :: _,[],_,_,h=>by simp at h
 |a :: x,b :: y,k,h,hl=>by
  simp only[Ev.cz,Option.bind_eq_bind,Option.bind_eq_some_iff]at h;obtain⟨p,e1,q,e2,e3⟩:=h;cases e3;obtain⟨e,h1,h2⟩:=yD e2 (by simpa using hl);refine⟨λj=>match j with|0=>p|j+1=>e j,λj a' b' g1 g2=>?_,?_⟩
  .cases j with
   |zero=>simp at g1 g2;subst g1 g2;exact e1
   |succ j=>exact h1 j a' b' (by simpa using g1) (by simpa using g2)
  .rw[List.length_cons,List.range_succ_eq_map,List.all_cons,List.all_map,<-h2];rfl
theorem yE{f:D->D->Option Bool}:∀{x y:List D}{k},Ev.cz f x y=some k->∃e:Nat->Bool,∀(j:Nat) a b,x[j]?=some a->y[j]?=some b->f a b=some (e j)
 |[],_,_,_=>⟨λ_=>true,λj a b h1=>by simp at h1⟩
 |_ :: _,[],_,_=>⟨λ_=>true,λj a b _ h1=>by simp at h1⟩
 |a :: x,b :: y,k,h=>by
  simp only[Ev.cz,Option.bind_eq_bind,Option.bind_eq_some_iff]at h;obtain⟨p,e1,q,e2,e3⟩:=h;obtain⟨e,h1⟩:=yE e2;refine⟨λj=>match j with|0=>p|j+1=>e j,λj a' b' g1 g2=>?_⟩;cases j with
  |zero=>simp at g1 g2;subst g1 g2;exact e1
  |succ j=>exact h1 j a' b' (by simpa using g1) (by simpa using g2)
section
variable{X:Cx}{pins:List (Addr×Obj)}{σ:L2.St}{H:Hp}{s:Shared}{r:List Addr}{h:Hh}
theorem oK(I:Inv X pins σ H s){a b:Addr}{vs ws:List V}(h1:Ab X.K H a vs)(h2:H b=some (.lst ws)):a≠b:=by
 rintro rfl;rcases h1 with ⟨o,h1⟩|⟨o,_,_,h1,_⟩
 .rw[h2]at h1;cases h1
 .have:=(I.bs a o (I.ok.mod.di a o h1)).2;rw[h2]at this;cases this
theorem uu{x y:List D}{vs ws:List V}{us zs:List Value}{f:D->D->Option Bool}{A:Around}{k:Bool}(v1:aD X.K H r x vs)(v2:aD X.K H r y ws)(p1:Vals vs us)(p2:Vals ws zs)
  (ih:∀a b va vb u w k,RV X.K H r a va->RV X.K H r b vb->RelV va u->RelV vb w->f a b=some k->vH A s u w k) (hl:x.length=y.length) (e:Ev.cz f x y=some k) :
  ∃e':Nat->Bool,(∀j (h1:j<us.toArray.size) (h2:j<zs.toArray.size),EqAt A s us.toArray[j] zs.toArray[j] (e' j))/\(List.range us.toArray.size).all e'=k/\us.length=zs.length:=by
 obtain⟨e',h1,h2⟩:=yD e hl;have l1:=v1.length;have l2:=v2.length;have l3:=p1.length;have l4:=p2.length;refine⟨e',λj g1 g2=>?_,?_,by omega⟩
 .have V8:j<us.length:=by simpa using g1
  have V9:j<zs.length:=by simpa using g2
  have ha:x[j]?=some x[j]:=List.getElem?_eq_getElem (by omega);have hb:y[j]?=some y[j]:=List.getElem?_eq_getElem (by omega);obtain⟨va,a1,a2⟩:=v1.get ha;obtain⟨vb,b1,b2⟩:=v2.get hb;obtain⟨u,a3,a4⟩:=p1.get a1;obtain⟨w,b3,b4⟩:=p2.get b1;have eu:us.toArray[j]=u:=by
   have:=(List.getElem?_eq_some_iff.mp a3).2;simpa using this
  have ew:zs.toArray[j]=w:=by
   have:=(List.getElem?_eq_some_iff.mp b3).2;simpa using this
  rw[eu,ew];exact(ih _ _ _ _ _ _ _ a2 b2 a4 b4 (h1 j _ _ ha hb)).eq
 .rw[<-h2];have:us.toArray.size=x.length:=by simp;omega
  rw[this]
noncomputable def bX(K:PySem.W.Frag)(H:Hp)(r:List Addr):D->V->Prop
 |.aL,v=>v=.aL
 |.bl b,v=>v=.bl b
 |.int i,v=>v=.int i
 |.str l,v=>v=.str (aS l)
 |.ref n,v=>∃a,v=.ref a/\r[n]?=some a
 |.tup ds,v=>∃a vs,v=.ref a/\dR K H a vs/\aD K H r ds vs
theorem RV.shape{d:D}{v:V}(h:RV X.K H r d v):bX X.K H r d v:=by
 cases d<;>simp only[RV]at h<;>simp only[bX]<;>first|exact h|exact h.1
theorem IC{a b:List Nat}:(aS a==aS b)=(a==b):=by
 by_cases e:a=b
 .subst e;simp
 .have e1:(aS a==aS b)=false:=beq_eq_false_iff_ne.mpr λz=>e (yo z);have e2:(a==b)=false:=beq_eq_false_iff_ne.mpr e;rw[e1,e2]
theorem qj{n:Nat}{A:Around}{x y:List D}{a b:Addr}{vs ws:List V}{k:Bool}(I:Inv X pins σ H s)(hu:A.units<cLine)(q1:ef X.K H a vs)(q2:ef X.K H b ws)(v1:aD X.K H r x vs)(v2:aD X.K H r y ws)(hab:a≠b)
  (ih:∀a b va vb u w k,RV X.K H r a va->RV X.K H r b vb->RelV va u->RelV vb w->Ev.iM h n a b=some k->vH A.in1 s u w k) (e:Ev.cz (Ev.iM h n) x y=some k):vH A s (.ref a) (.ref b) k:=by
 obtain⟨us,p1,pL,_⟩:=I.list q1;obtain⟨zs,p2,pM,_⟩:=I.list q2;by_cases hl:x.length=y.length
 .obtain⟨e',h1,h2,h3⟩:=uu v1 v2 p1 p2 ih hl e;have hs:us.toArray.size=zs.toArray.size:=by simpa using h3
  have rc:=RcAt.lists pL.isList pM.isList hs hu h1;have ne:=RcNeAt.lists pL.isList pM.isList hs hu h1;rw[h2]at rc ne;exact⟨.of_refs hab rc,rc,ne⟩
 .have hk:=sP hl e;subst hk;have hs:(us.toArray.size != zs.toArray.size)=true:=by
   have l1:=v1.length;have l2:=v2.length;have l3:=p1.length;have l4:=p2.length;simp only[List.size_toArray,bne_iff_ne,ne_eq];omega
  exact⟨.of_refs hab (.lists_lengths pL.isList pM.isList hs hu),.lists_lengths pL.isList pM.isList hs hu,.lists_lengths pL.isList pM.isList hs hu⟩
theorem vI(I:Inv X pins σ H s)(hr:HR X.K H r h){n:Nat}{a:Addr}{ds:List D}(e:Ev.aW h n=some ds)(ha:r[n]?=some a):∃us:List Value,PlainL s.heap a us.toArray:=by
 obtain⟨a',vs,e1,e2,e3⟩:=hr.read e;rw[ha]at e1;cases e1;obtain⟨us,_,pl,_⟩:=I.list e2;exact⟨us,pl⟩
theorem BY(I:Inv X pins σ H s)(hr:HR X.K H r h):∀(n:Nat) (a b:D) (v:V) (k:Bool),RV X.K H r a v->RV X.K H r b v->Ev.iM h n a b=some k->k=true:=by
 intro n;induction n with
 |zero=>intro a b v k _ _ e;cases e
 |succ n ih=>
  have items:∀(x y:List D) (vs:List V) (k:Bool),aD X.K H r x vs->aD X.K H r y vs->Ev.cz (Ev.iM h n) x y=some k->k=true:=by
   intro x;induction x with
   |nil=>
    intro y vs k h1 h2 e;simp only[aD]at h1;subst h1;cases y with
    |nil=>cases e;rfl
    |cons _ _=>simp only[aD]at h2;obtain⟨_,_,h2,_⟩:=h2;cases h2
   |cons d x Wa=>
    intro y vs k h1 h2 e;simp only[aD]at h1;obtain⟨v,w,rfl,h3,h4⟩:=h1;cases y with
    |nil=>simp only[aD]at h2;cases h2
    |cons d' y=>
     simp only[aD]at h2;obtain⟨v',w',e2,h5,h6⟩:=h2;cases e2;simp only[Ev.cz,Option.bind_eq_bind,Option.bind_eq_some_iff]at e;obtain⟨p,e1,q,e2,e3⟩:=e;cases e3;rw[ih d d' v p h3 h5 e1,Wa y w q h4 h6 e2];rfl
  have lt:∀(a:Addr) (vs:List V) (i:Nat) (ds:List D),dR X.K H a vs->r[i]?=some a->Ev.aW h i=some ds->False:=λa vs i ds h1 h2 h3=>by
   obtain⟨us,pl⟩:=vI I hr h3 h2;obtain⟨zs,_,pt,_⟩:=I.tuple h1;exact ne_of_list_tuple pl.isList pt rfl
  intro a b v k h1 h2 e;have s1:=h1.shape;have s2:=h2.shape;clear h1 h2;cases a with
  |aL=>simp only[bX]at s1;cases b with
   |aL=>cases e;rfl
   |ref m=>obtain⟨p,z,_⟩:=s2;rw[s1]at z;cases z
   |tup y=>obtain⟨p,_,z,_⟩:=s2;rw[s1]at z;cases z
   |_=>simp only[bX]at s2;rw[s1]at s2;cases s2
  |bl x=>simp only[bX]at s1;cases b with
   |bl y=>simp only[bX]at s2;rw[s1]at s2;cases s2;cases e;simp
   |ref m=>obtain⟨p,z,_⟩:=s2;rw[s1]at z;cases z
   |tup y=>obtain⟨p,_,z,_⟩:=s2;rw[s1]at z;cases z
   |_=>simp only[bX]at s2;rw[s1]at s2;cases s2
  |int x=>simp only[bX]at s1;cases b with
   |int y=>simp only[bX]at s2;rw[s1]at s2;cases s2;cases e;simp
   |ref m=>obtain⟨p,z,_⟩:=s2;rw[s1]at z;cases z
   |tup y=>obtain⟨p,_,z,_⟩:=s2;rw[s1]at z;cases z
   |_=>simp only[bX]at s2;rw[s1]at s2;cases s2
  |str x=>simp only[bX]at s1;cases b with
   |str y=>
    simp only[bX]at s2;rw[s1]at s2;have:x=y:=yo (by injection s2);subst this;cases e;simp
   |ref m=>obtain⟨p,z,_⟩:=s2;rw[s1]at z;cases z
   |tup y=>obtain⟨p,_,z,_⟩:=s2;rw[s1]at z;cases z
   |_=>simp only[bX]at s2;rw[s1]at s2;cases s2
  |tup x=>
   obtain⟨p,vs,rfl,z,w⟩:=s1;cases b with
   |tup y=>
    obtain⟨p',vs',z',z2,w2⟩:=s2;cases z';rw[I.nh z2 z]at w2;exact items x y vs k w w2 e
   |ref m=>
    obtain⟨p',z',z2⟩:=s2;cases z';obtain⟨ds,e1,_⟩:=Option.map_eq_some_iff.mp e;exact(lt _ _ _ _ z z2 e1).elim
   |_=>cases s2
  |ref i=>
   obtain⟨p,rfl,z⟩:=s1;cases b with
   |ref m=>
    obtain⟨p',z',z2⟩:=s2;cases z';replace e:Ev.kg h (Ev.iM h n) i m=some k:=e;unfold Ev.kg at e;split at e
    .simp only[Option.map_eq_some_iff]at e;obtain⟨_,_,e⟩:=e;exact e.symm
    .rename_i hne;split at e
     .rename_i x y g1 g2;exact absurd (hr.inj _ _ _ _ _ z z2 g1 g2) hne
     .rename_i x y g1 g2;obtain⟨p1,q1,GF,q2,_⟩:=hr.ob _ _ g1;obtain⟨p2,q3,GG,q4,_⟩:=hr.ob _ _ g2;rw[z]at q1;cases q1;rw[z2]at q3;cases q3;exact absurd rfl (oK I q2 q4)
     .rename_i x y g1 g2;obtain⟨p1,q1,GF,q2,_⟩:=hr.ob _ _ g1;obtain⟨p2,q3,GG,q4,_⟩:=hr.ob _ _ g2;rw[z]at q1;cases q1;rw[z2]at q3;cases q3;exact absurd rfl (oK I q4 q2)
     .cases e
   |tup y=>
    obtain⟨p',vs',z',z2,w2⟩:=s2;cases z';obtain⟨ds,e1,_⟩:=Option.map_eq_some_iff.mp e;exact(lt _ _ _ _ z2 z e1).elim
   |_=>cases s2
theorem ID{n:Nat}{A:Around}{x y:List D}{a b:Addr}{vs ws:List V}{k:Bool}(I:Inv X pins σ H s)(hr:HR X.K H r h)(hu:A.units<cLine)(q1:dR X.K H a vs)(q2:dR X.K H b ws)(v1:aD X.K H r x vs)(v2:aD X.K H r y ws)
  (ih:∀a b va vb u w k,RV X.K H r a va->RV X.K H r b vb->RelV va u->RelV vb w->Ev.iM h n a b=some k->vH A.in1 s u w k) (e:Ev.cz (Ev.iM h n) x y=some k):vH A s (.ref a) (.ref b) k:=by
 obtain⟨us,p1,pL,_⟩:=I.tuple q1;obtain⟨zs,p2,pM,_⟩:=I.tuple q2;have l1:=v1.length;have l2:=v2.length;have l3:=p1.length;have l4:=p2.length;have both:RcAt A s (.ref a) (.ref b) k/\RcNeAt A s (.ref a) (.ref b) (!k):=by
  by_cases hl:x.length=y.length
  .obtain⟨e',h1,h2,h3⟩:=uu v1 v2 p1 p2 ih hl e;have rc:=RcAt.tuples pL pM hu h1;have ne:=RcNeAt.tuples pL pM hu h1;have hs:us.toArray.size=zs.toArray.size:=by simpa using h3
   have hb:((List.range (min us.toArray.size zs.toArray.size)).all e'&&us.toArray.size==zs.toArray.size)=k:=by
    rw[<-hs,Nat.min_self,h2];simp
   rw[hb]at rc ne;exact⟨rc,ne⟩
  .have hk:=sP hl e;subst hk;have hcl:∃e':Nat->Bool,∀j (h1:j<us.toArray.size) (h2:j<zs.toArray.size),EqAt A.in1 s us.toArray[j] zs.toArray[j] (e' j):=by
    obtain⟨e',h1⟩:=yE e;refine⟨e',λj g1 g2=>?_⟩;have V8:j<us.length:=by simpa using g1
    have V9:j<zs.length:=by simpa using g2
    have ha:x[j]?=some x[j]:=List.getElem?_eq_getElem (by omega);have hb:y[j]?=some y[j]:=List.getElem?_eq_getElem (by omega);obtain⟨va,a1,a2⟩:=v1.get ha;obtain⟨vb,b1,b2⟩:=v2.get hb;obtain⟨u,a3,a4⟩:=p1.get a1;obtain⟨w,b3,b4⟩:=p2.get b1;have eu:us.toArray[j]=u:=by
     have:=(List.getElem?_eq_some_iff.mp a3).2;simpa using this
    have ew:zs.toArray[j]=w:=by
     have:=(List.getElem?_eq_some_iff.mp b3).2;simpa using this
    rw[eu,ew];exact(ih _ _ _ _ _ _ _ a2 b2 a4 b4 (h1 j _ _ ha hb)).eq
   obtain⟨e',h1⟩:=hcl;have rc:=RcAt.tuples pL pM hu h1;have ne:=RcNeAt.tuples pL pM hu h1;have hs:(us.toArray.size==zs.toArray.size)=false:=by
    simp only[List.size_toArray,beq_eq_false_iff_ne,ne_eq];omega
   rw[hs,Bool.and_false]at rc ne;exact⟨rc,ne⟩
 by_cases hab:a=b
 .subst hab;rw[I.nh q2 q1]at v2;have hk:k=true:=BY I hr (n+1) (.tup x) (.tup y) (.ref a) k ⟨a,vs,rfl,q1,v1⟩ ⟨a,vs,rfl,q1,v2⟩ e;subst hk;exact⟨.same _,both.1,both.2⟩
 .exact⟨.of_refs hab both.1,both.1,both.2⟩
end
end Sm
set_option maxRecDepth 100000
namespace Sm
open PySem PySem.Spec PyProof.Rows L2 PySem.SeqAt
open Ev (D O Hh Fr R aI E Es Eo T S Ss Fl Src bF bu TY BI ME)
section
variable{X:Cx}{pins:List (Addr×Obj)}{σ:L2.St}{H:Hp}{s:Shared}{r:List Addr}{h:Hh}
theorem Am(I:Inv X pins σ H s)(hr:HR X.K H r h):∀(n:Nat) (A:Around) (a b:D) (va vb:V) (u w:Value) (k:Bool),A.units+n<cLine->RV X.K H r a va->RV X.K H r b vb->RelV va u->RelV vb w->Ev.iM h n a b=some k->vH A s u w k:=by
 intro n;induction n with
 |zero=>intro A a b va vb u w k _ _ _ _ _ e;cases e
 |succ n ih=>
  intro A a b va vb u w k hu h1 h2 r1 r2 e;have bT:A.units<cLine:=by omega
  have ih':∀a b va vb u w k,RV X.K H r a va->RV X.K H r b vb->RelV va u->RelV vb w->Ev.iM h n a b=some k->vH A.in1 s u w k:=λa b va vb u w k=>ih A.in1 a b va vb u w k (by show A.units+1+n<cLine;omega);have s1:=h1.shape;have s2:=h2.shape;have lst:∀{i:Nat} {v:V} {u:Value} {ds:List D},bX X.K H r (.ref i) v->RelV v u->Ev.aW h i=some ds->∃p us,u=.ref p/\PlainL s.heap p (List.toArray us):=λ{i v u ds} hv ru el=>by
   obtain⟨p,rfl,z⟩:=hv;cases ru;obtain⟨us,pl⟩:=vI I hr el z;exact⟨p,us,rfl,pl⟩
  have tup:∀{ds:List D} {v:V} {u:Value},bX X.K H r (.tup ds) v->RelV v u->∃p us,u=.ref p/\s.heap.IsTuple p (List.toArray us):=λ{ds v u} hv ru=>by
   obtain⟨p,vs,rfl,z,_⟩:=hv;cases ru;obtain⟨us,_,pt,_⟩:=I.tuple z;exact⟨p,us,rfl,pt⟩
  cases a with
  |aL=>
   simp only[bX]at s1;subst s1;cases r1;cases b with
   |aL=>simp only[bX]at s2;subst s2;cases r2;cases e;exact⟨.same _,.none_none,.none_none⟩
   |bl y=>simp only[bX]at s2;subst s2;cases r2;cases e;exact⟨.none_bool _,.none_bool _,.none_bool _⟩
   |int y=>simp only[bX]at s2;subst s2;obtain⟨t,rfl⟩:=r2;cases e;exact⟨.none_int _ _,.none_int _ _,.none_int _ _⟩
   |str y=>simp only[bX]at s2;subst s2;obtain⟨t,rfl⟩:=r2;cases e;exact⟨.none_str _ _,.none_str _ _,.none_str _ _⟩
   |tup y=>obtain⟨p,us,rfl,pt⟩:=tup s2 r2;cases e;exact⟨.none_tuple pt bT,.none_tuple pt bT,.none_tuple pt bT⟩
   |ref m=>
    obtain⟨ds,e1,rfl⟩:=Option.map_eq_some_iff.mp e;obtain⟨p,us,rfl,pl⟩:=lst s2 r2 e1;exact⟨.none_list pl.isList bT,.none_list pl.isList bT,.none_list pl.isList bT⟩
  |bl x=>
   simp only[bX]at s1;subst s1;cases r1;cases b with
   |aL=>simp only[bX]at s2;subst s2;cases r2;cases e;exact⟨.bool_none _,.bool_none _,.bool_none _⟩
   |bl y=>simp only[bX]at s2;subst s2;cases r2;cases e;exact⟨.bool_bool _ _,.bool_bool _ _,.bool_bool _ _⟩
   |int y=>simp only[bX]at s2;subst s2;obtain⟨t,rfl⟩:=r2;cases e;exact⟨.bool_int _ _ _,.bool_int _ _ _,.bool_int _ _ _⟩
   |str y=>simp only[bX]at s2;subst s2;obtain⟨t,rfl⟩:=r2;cases e;exact⟨.bool_str _ _ _,.bool_str _ _ _,.bool_str _ _ _⟩
   |tup y=>obtain⟨p,us,rfl,pt⟩:=tup s2 r2;cases e;exact⟨.bool_tuple _ pt bT,.bool_tuple _ pt bT,.bool_tuple _ pt bT⟩
   |ref m=>
    obtain⟨ds,e1,rfl⟩:=Option.map_eq_some_iff.mp e;obtain⟨p,us,rfl,pl⟩:=lst s2 r2 e1;exact⟨.bool_list _ pl.isList bT,.bool_list _ pl.isList bT,.bool_list _ pl.isList bT⟩
  |int x=>
   simp only[bX]at s1;subst s1;obtain⟨t0,rfl⟩:=r1;cases b with
   |aL=>simp only[bX]at s2;subst s2;cases r2;cases e;exact⟨.int_none _ _,.int_none _ _,.int_none _ _⟩
   |bl y=>simp only[bX]at s2;subst s2;cases r2;cases e;exact⟨.int_bool _ _ _,.int_bool _ _ _,.int_bool _ _ _⟩
   |int y=>simp only[bX]at s2;subst s2;obtain⟨t,rfl⟩:=r2;cases e;exact⟨.int_int _ _ _ _,.int_int _ _ _ _,.int_int _ _ _ _⟩
   |str y=>simp only[bX]at s2;subst s2;obtain⟨t,rfl⟩:=r2;cases e;exact⟨.int_str _ _ _ _,.int_str _ _ _ _,.int_str _ _ _ _⟩
   |tup y=>obtain⟨p,us,rfl,pt⟩:=tup s2 r2;cases e;exact⟨.int_tuple _ _ pt bT,.int_tuple _ _ pt bT,.int_tuple _ _ pt bT⟩
   |ref m=>
    obtain⟨ds,e1,rfl⟩:=Option.map_eq_some_iff.mp e;obtain⟨p,us,rfl,pl⟩:=lst s2 r2 e1;exact⟨.int_list _ _ pl.isList bT,.int_list _ _ pl.isList bT,.int_list _ _ pl.isList bT⟩
  |str x=>
   simp only[bX]at s1;subst s1;obtain⟨t0,rfl⟩:=r1;cases b with
   |aL=>simp only[bX]at s2;subst s2;cases r2;cases e;exact⟨.str_none _ _,.str_none _ _,.str_none _ _⟩
   |bl y=>simp only[bX]at s2;subst s2;cases r2;cases e;exact⟨.str_bool _ _ _,.str_bool _ _ _,.str_bool _ _ _⟩
   |int y=>simp only[bX]at s2;subst s2;obtain⟨t,rfl⟩:=r2;cases e;exact⟨.str_int _ _ _ _,.str_int _ _ _ _,.str_int _ _ _ _⟩
   |str y=>
    simp only[bX]at s2;subst s2;obtain⟨t,rfl⟩:=r2;cases e;rw[<-IC];exact⟨.str_str _ _ _ _,.str_str _ _ _ _,.str_str _ _ _ _⟩
   |tup y=>obtain⟨p,us,rfl,pt⟩:=tup s2 r2;cases e;exact⟨.str_tuple _ _ pt bT,.str_tuple _ _ pt bT,.str_tuple _ _ pt bT⟩
   |ref m=>
    obtain⟨ds,e1,rfl⟩:=Option.map_eq_some_iff.mp e;obtain⟨p,us,rfl,pl⟩:=lst s2 r2 e1;exact⟨.str_list _ _ pl.isList bT,.str_list _ _ pl.isList bT,.str_list _ _ pl.isList bT⟩
  |tup x=>
   cases b with
   |tup y=>
    obtain⟨p,vs,rfl,z,w1⟩:=s1;obtain⟨p',vs',rfl,z',w2⟩:=s2;cases r1;cases r2;exact ID I hr bT z z' w1 w2 ih' e
   |aL=>obtain⟨p,us,rfl,pt⟩:=tup s1 r1;simp only[bX]at s2;subst s2;cases r2;cases e;exact⟨.tuple_none pt bT,.tuple_none pt bT,.tuple_none pt bT⟩
   |bl y=>obtain⟨p,us,rfl,pt⟩:=tup s1 r1;simp only[bX]at s2;subst s2;cases r2;cases e;exact⟨.tuple_bool _ pt bT,.tuple_bool _ pt bT,.tuple_bool _ pt bT⟩
   |int y=>obtain⟨p,us,rfl,pt⟩:=tup s1 r1;simp only[bX]at s2;subst s2;obtain⟨t,rfl⟩:=r2;cases e;exact⟨.tuple_int _ _ pt bT,.tuple_int _ _ pt bT,.tuple_int _ _ pt bT⟩
   |str y=>obtain⟨p,us,rfl,pt⟩:=tup s1 r1;simp only[bX]at s2;subst s2;obtain⟨t,rfl⟩:=r2;cases e;exact⟨.tuple_str _ _ pt bT,.tuple_str _ _ pt bT,.tuple_str _ _ pt bT⟩
   |ref m=>
    obtain⟨p,us,rfl,pt⟩:=tup s1 r1;obtain⟨ds,e1,rfl⟩:=Option.map_eq_some_iff.mp e;obtain⟨p',us',rfl,pl⟩:=lst s2 r2 e1;exact⟨.tuple_list pt pl.isList bT,.tuple_list pt pl.isList bT,.tuple_list pt pl.isList bT⟩
  |ref i=>
   cases b with
   |ref m=>
    replace e:Ev.kg h (Ev.iM h n) i m=some k:=e;unfold Ev.kg at e;split at e
    .rename_i Wb;subst Wb;simp only[Option.map_eq_some_iff]at e;obtain⟨ds,e1,rfl⟩:=e;obtain⟨p,us,rfl,pl⟩:=lst s1 r1 e1;obtain⟨p0,rfl,z⟩:=s1;obtain⟨p1,rfl,z'⟩:=s2;rw[z]at z';cases z';cases r1;cases r2;have q:(List.range (List.toArray us).size).all (λ_=>true)=true:=by simp
     have rc:=RcAt.lists (A:=A) (e:=λ_=>true) pl.isList pl.isList rfl bT λj _ _=>EqAt.same _;have ne:=RcNeAt.lists (A:=A) (e:=λ_=>true) pl.isList pl.isList rfl bT λj _ _=>EqAt.same _;rw[q]at rc ne;exact⟨.same _,rc,ne⟩
    .rename_i hne;obtain⟨p0,rfl,z⟩:=s1;obtain⟨p1,rfl,z'⟩:=s2;cases r1;cases r2;split at e
     .rename_i x y g1 g2;obtain⟨q0,q1,GF,q2,q3⟩:=hr.ob _ _ g1;obtain⟨q4,q5,GG,q6,q7⟩:=hr.ob _ _ g2;rw[z]at q1;cases q1;rw[z']at q5;cases q5;exact qj I bT (.of q2) (.of q6) q3 q7 (λw=>hne (hr.inj _ _ _ _ _ z (by rw[w];exact z') g1 g2)) ih' e
     .rename_i x y g1 g2;obtain⟨q0,q1,GF,q2,q3⟩:=hr.ob _ _ g1;obtain⟨q4,q5,GG,q6,q7⟩:=hr.ob _ _ g2;rw[z]at q1;cases q1;rw[z']at q5;cases q5;exact qj I bT (GH q2) (.of q6) q3 q7 (oK I q2 q6) ih' e
     .rename_i x y g1 g2;obtain⟨q0,q1,GF,q2,q3⟩:=hr.ob _ _ g1;obtain⟨q4,q5,GG,q6,q7⟩:=hr.ob _ _ g2;rw[z]at q1;cases q1;rw[z']at q5;cases q5;exact qj I bT (.of q2) (GH q6) q3 q7 (oK I q6 q2).symm ih' e
     .cases e
   |aL=>obtain⟨ds,e1,rfl⟩:=Option.map_eq_some_iff.mp e;obtain⟨p,us,rfl,pl⟩:=lst s1 r1 e1;simp only[bX]at s2;subst s2;cases r2;exact⟨.list_none pl.isList bT,.list_none pl.isList bT,.list_none pl.isList bT⟩
   |bl y=>obtain⟨ds,e1,rfl⟩:=Option.map_eq_some_iff.mp e;obtain⟨p,us,rfl,pl⟩:=lst s1 r1 e1;simp only[bX]at s2;subst s2;cases r2;exact⟨.list_bool _ pl.isList bT,.list_bool _ pl.isList bT,.list_bool _ pl.isList bT⟩
   |int y=>obtain⟨ds,e1,rfl⟩:=Option.map_eq_some_iff.mp e;obtain⟨p,us,rfl,pl⟩:=lst s1 r1 e1;simp only[bX]at s2;subst s2;obtain⟨t,rfl⟩:=r2;exact⟨.list_int _ _ pl.isList bT,.list_int _ _ pl.isList bT,.list_int _ _ pl.isList bT⟩
   |str y=>obtain⟨ds,e1,rfl⟩:=Option.map_eq_some_iff.mp e;obtain⟨p,us,rfl,pl⟩:=lst s1 r1 e1;simp only[bX]at s2;subst s2;obtain⟨t,rfl⟩:=r2;exact⟨.list_str _ _ pl.isList bT,.list_str _ _ pl.isList bT,.list_str _ _ pl.isList bT⟩
   |tup y=>
    obtain⟨ds,e1,rfl⟩:=Option.map_eq_some_iff.mp e;obtain⟨p,us,rfl,pl⟩:=lst s1 r1 e1;obtain⟨p',us',rfl,pt⟩:=tup s2 r2;exact⟨.list_tuple pl.isList pt bT,.list_tuple pl.isList pt bT,.list_tuple pl.isList pt bT⟩
where
 GH {K:PySem.W.Frag} {H:Hp} {a:Addr} {vs:List V} (q:Ab K H a vs):ef K H a vs:=by
  rcases q with ⟨ob,e2⟩|e2
  .exact .inl (.inr ⟨ob,e2⟩)
  .exact .inr e2
end
theorem Good.units{G:Tb}{n:Nat}{sc:Scope}{N:List Str}{df:Bool}{X:Cx}(g:Good G n sc N df X):X.A.units+1+Ev.deep<cLine:=by
 have:=g.room.un;have:Ev.deep=20:=rfl;omega
section
variable{G:Tb}{n:Nat}{sc:Scope}{N:List Str}{df:Bool}{X:Cx}
theorem oM{pins:List (Addr×Obj)}{σ:L2.St}{H:Hp}{s:Shared}{Q:VK}{r:List Addr}{h:Hh}{k:Bool}(I:Inv X pins σ H s)(hr:HR X.K H r h)(q:Res X.K r H h (.bl k) Q):EP X pins σ Q (.bool k) s:=
 ⟨.bl k,H,I,rfl,q.here rfl hr⟩
theorem GI(g:Good G n sc N df X):dN X (compareOp .Eq) (iN X.K (gW .eq)):=by
 intro pins s σ H x y v u Q I rx ry q;obtain⟨r,h,a,b,d,h',hr,v1,v2,e,q⟩:=q;obtain⟨k,e1,rfl,rfl⟩:=jt e;have:=g.units;exact(Am I hr Ev.deep X.A a b x y v u k (by omega) v1 v2 rx ry e1).rc _ _ _ _ (oM I hr q)
theorem PY(g:Good G n sc N df X):dN X (compareOp .NotEq) (iN X.K (gW .ne)):=by
 intro pins s σ H x y v u Q I rx ry q;obtain⟨r,h,a,b,d,h',hr,v1,v2,e,q⟩:=q;obtain⟨k,e1,rfl,rfl⟩:=jt e;have:=g.units
 delta Ev.cop at e1;dsimp only at e1;simp only[Option.map_eq_some_iff]at e1
 obtain⟨k',e2,rfl⟩:=e1;exact(Am I hr Ev.deep X.A a b x y v u k' (by omega) v1 v2 rx ry e2).ne _ _ _ _ (oM I hr q)
theorem BZ{op:CmpOp}{o:bu}{p:Int->Int->Bool}(ho:dN X (compareOp op) (vd λi j=>.bl (p i j)))(hc:∀a b h k,Ev.cop o a b h=some k->∃i j,a=.int i/\b=.int j/\k=p i j):dN X (compareOp op) (iN X.K (gW o)):=by
 intro pins s σ H x y v u Q I rx ry q;obtain⟨r,h,a,b,d,h',hr,v1,v2,e,q⟩:=q;obtain⟨k,e1,rfl,rfl⟩:=jt e;obtain⟨i,j,rfl,rfl,rfl⟩:=hc _ _ _ _ e1;exact ho pins s σ H x y v u Q I rx ry ⟨i,j,v1,v2,q.here rfl hr⟩
theorem PZ:dN X (compareOp .Lt) (iN X.K (gW .lt)):=BZ Po λa b h k e=>by
 cases a<;>cases b <;> (delta Ev.cop at e;dsimp only at e)<;>first | (cases e;exact⟨_,_,rfl,rfl,rfl⟩)|cases e
theorem GJ:dN X (compareOp .Gt) (iN X.K (gW .gt)):=BZ Pp λa b h k e=>by
 cases a<;>cases b <;> (delta Ev.cop at e;dsimp only at e)<;>first | (cases e;exact⟨_,_,rfl,rfl,rfl⟩)|cases e
theorem Ma:dN X (compareOp .Is) (iN X.K (gW .yk)):=by
 intro pins s σ H x y v u Q I rx ry q;obtain⟨r,h,a,b,d,h',hr,v1,v2,e,q⟩:=q;obtain⟨k,e1,rfl,rfl⟩:=jt e;cases b with
 |aL=>
  refine K5 pins s σ H x y v u Q I rx ry ⟨v2,?_⟩;have:=v1.shape;cases a with
  |aL=>simp only[bX]at this;subst this;cases e1;exact q.here rfl hr
  |bl _=>simp only[bX]at this;subst this;cases e1;exact q.here rfl hr
  |int _=>simp only[bX]at this;subst this;cases e1;exact q.here rfl hr
  |str _=>simp only[bX]at this;subst this;cases e1;exact q.here rfl hr
  |ref _=>obtain⟨p,rfl,_⟩:=this;cases e1;exact q.here rfl hr
  |tup _=>obtain⟨p,_,rfl,_⟩:=this;cases e1;exact q.here rfl hr
 |_=>cases a<;>cases e1
end
end Sm
set_option maxRecDepth 100000
namespace Sm
open PySem PySem.Spec PyProof.Rows L2 PySem.SeqAt
open Ev (D O Hh Fr R aI E Es Eo T S Ss Fl Src bF bu TY BI ME)
theorem yF{h:Hh}{x:D}:∀{ys:List D}{k:Bool},Ev.mem h x ys=some k->∃e:Nat->Bool,(∀(j:Nat) y,ys[j]?=some y->Ev.iM h Ev.deep y x=some (e j))/\(List.range ys.length).any e=k
 |[],_,e=>⟨λ_=>true,(λj y h=>by simp at h),by cases e;simp⟩
 |y :: ys,k,e=>by
  simp only[Ev.mem,Option.bind_eq_bind,Option.bind_eq_some_iff]at e;obtain⟨p,e1,q,e2,e3⟩:=e;cases e3;obtain⟨e,h1,h2⟩:=yF e2;refine⟨λj=>match j with|0=>p|j+1=>e j,λj y' g=>?_,?_⟩
  .cases j with
   |zero=>simp at g;subst g;exact e1
   |succ j=>exact h1 j y' (by simpa using g)
  .rw[List.length_cons,List.range_succ_eq_map,List.any_cons,List.any_map,<-h2];rfl
section
variable{X:Cx}{pins:List (Addr×Obj)}{σ:L2.St}{H:Hp}{s:Shared}{r:List Addr}{h:Hh}
open Classical in
theorem yG(I:Inv X pins σ H s)(hr:HR X.K H r h){A:Around}(hu:A.units+1+Ev.deep<cLine){x:D}{vx:V}{ux:Value}(v1:RV X.K H r x vx)(rx:RelV vx ux){ys:List D}{vs:List V}{us:List Value}(v2:aD X.K H r ys vs)(p2:Vals vs us){k:Bool}(e:Ev.mem h x ys=some k) :
  ∃f:Value->Bool,(∀y,y∈us.toArray->EqAt A.in1 s y ux (f y))/\us.toArray.any f=k:=by
 obtain⟨e',h1,h2⟩:=yF e;have l1:=v2.length;have l2:=p2.length;have at':∀(j:Nat) (hj:j<us.length),EqAt A.in1 s us[j] ux (e' j):=λj hj=>by
  have ha:ys[j]?=some ys[j]:=List.getElem?_eq_getElem (by omega);obtain⟨va,a1,a2⟩:=v2.get ha;obtain⟨u,a3,a4⟩:=p2.get a1;have eu:us[j]=u:=(List.getElem?_eq_some_iff.mp a3).2;rw[eu];exact(Am I hr Ev.deep A.in1 _ _ _ _ _ _ _ (by show A.units+1+Ev.deep<cLine;exact hu) a2 v1 a4 rx (h1 j _ ha)).eq
 refine⟨λy=>decide (∃j,∃hj:j<us.length,us[j]=y/\e' j=true),λy hy=>?_,?_⟩
 .by_cases hx:∃j,∃hj:j<us.length,us[j]=y/\e' j=true
  .obtain⟨j,hj,rfl,ej⟩:=hx;have q:=at' j hj;rw[ej]at q;have:decide (∃j',∃hj':j'<us.length,us[j']=us[j]/\e' j'=true)=true:=decide_eq_true ⟨j,hj,rfl,ej⟩;show EqAt A.in1 s us[j] ux (decide (∃j',∃hj':j'<us.length,us[j']=us[j]/\e' j'=true));rw[this];exact q
  .show EqAt A.in1 s y ux (decide (∃j',∃hj':j'<us.length,us[j']=y/\e' j'=true));rw[decide_eq_false hx];have hy':y∈us:=by simpa using hy
   obtain⟨j,hj,rfl⟩:=List.getElem_of_mem hy';have q:=at' j hj;have:e' j=false:=by
    cases z:e' j with
    |false=>rfl
    |true=>exact absurd ⟨j,hj,rfl,z⟩ hx
   rw[this]at q;exact q
 .rw[<-h2,Bool.eq_iff_iff,Array.any_eq_true',List.any_eq_true];constructor
  .rintro⟨y,hy,hd⟩;obtain⟨j,hj,_,ej⟩:=of_decide_eq_true hd;exact⟨j,List.mem_range.mpr (by omega),ej⟩
  .rintro⟨j,hj,ej⟩;have hj':j<us.length:=by have:=List.mem_range.mp hj;omega
   exact⟨us[j],by simp,decide_eq_true ⟨j,hj',rfl,ej⟩⟩
end
section
variable{G:Tb}{n:Nat}{sc:Scope}{N:List Str}{df:Bool}{X:Cx}
theorem in_of(g:Good G n sc N df X){pins:List (Addr×Obj)}{σ:L2.St}{H:Hp}{s:Shared}{r:List Addr}{h:Hh}(I:Inv X pins σ H s)(hr:HR X.K H r h){a b:D}{x y:V}{v u:Value}{k:Bool}(v1:RV X.K H r a x)(v2:RV X.K H r b y)(rx:RelV x v)(ry:RelV y u)(e:Ev.isin a b h=some k) :
  (∀Q:Value->Shared->Prop,∀E:Value->Shared->Prop,Q (.bool k) s->wpAny (model X.prog X.w) X.A (compareOp .In v u) Q E s)/\(∀Q:Value->Shared->Prop,∀E:Value->Shared->Prop,Q (.bool (!k)) s->wpAny (model X.prog X.w) X.A (compareOp .NotIn v u) Q E s):=by
 have hu:=g.units;cases b with
 |str l=>
  cases a with
  |str c=>
   have s1:=v1.shape;have s2:=v2.shape;simp only[bX]at s1 s2;subst s1 s2;obtain⟨t,rfl⟩:=rx;obtain⟨t',rfl⟩:=ry
   match c,e with
   |[c],e=>
    cases e;have q:(!(Builtin.Str.occurrences (aS l) (aS [c]) 0 (aS l).length 1).isEmpty)=l.contains c:=by
     have:=PySem.StrLaws.found_one (aS l) c;rw[show(aS [c])=⟨#[c]⟩from rfl,this,Bool.eq_iff_iff];have e1:l.contains c=true↔c∈l:=by simp
     rw[e1];exact⟨λz=>by simpa[aS]using of_decide_eq_true z,λz=>decide_eq_true (by simpa[aS]using z)⟩
    refine⟨λQ E hq=>in_str (by rw[q];exact hq),λQ E hq=>notIn_str (by rw[q];exact hq)⟩
   |[],e=>cases e
   |_ :: _ :: _,e=>cases e
  |_=>cases e
 |tup ys=>
  obtain⟨p,vs,rfl,z,w⟩:=v2.shape;cases ry;obtain⟨us,pv,pt,_⟩:=I.tuple z;obtain⟨f,f1,f2⟩:=yG I hr hu v1 rx w pv e;refine⟨λQ E hq=>in_tupleAt f pt f1 (by rw[f2];exact hq),λQ E hq=>notIn_tupleAt f pt f1 (by rw[f2];exact hq)⟩
 |ref i=>
  simp only[Ev.isin,Option.bind_eq_some_iff]at e;obtain⟨ds,e1,e2⟩:=e;obtain⟨p,rfl,z⟩:=v2.shape;cases ry;obtain⟨p',vs,z',q1,w⟩:=hr.read e1;rw[z]at z';cases z';obtain⟨us,pv,pl,_⟩:=I.list q1;obtain⟨f,f1,f2⟩:=yG I hr hu v1 rx w pv e2;refine⟨λQ E hq=>in_listAt f pl.isList f1 (by rw[f2];exact hq),λQ E hq=>notIn_listAt f pl.isList f1 (by rw[f2];exact hq)⟩
 |_=>cases e
theorem P0(g:Good G n sc N df X):dN X (compareOp .In) (iN X.K (gW .isin)):=by
 intro pins s σ H x y v u Q I rx ry q;obtain⟨r,h,a,b,d,h',hr,v1,v2,e,q⟩:=q;obtain⟨k,e1,rfl,rfl⟩:=jt e;exact(in_of g I hr v1 v2 rx ry (show Ev.isin a b h'=some k by cases a<;>cases b<;>exact e1)).1 _ _ (oM I hr q)
theorem Ec(g:Good G n sc N df X):dN X (compareOp .NotIn) (iN X.K (gW .gu)):=by
 intro pins s σ H x y v u Q I rx ry q;obtain⟨r,h,a,b,d,h',hr,v1,v2,e,q⟩:=q;obtain⟨k,e1,rfl,rfl⟩:=jt e;have e2:(Ev.isin a b h').map (!·)=some k:=by cases a<;>cases b<;>exact e1
 simp only[Option.map_eq_some_iff]at e2;obtain⟨k',e3,rfl⟩:=e2;exact(in_of g I hr v1 v2 rx ry e3).2 _ _ (oM I hr q)
theorem sQ(a b:List Nat):aS a++aS b=aS (a++b):=by
 show Str.append (aS a) (aS b)=_;simp[Str.append,aS]
theorem IE{pins:List (Addr×Obj)}{σ:L2.St}{H:Hp}{s:Shared}{Q:Value->Shared->Prop}{E:Value->Shared->Prop}(I:Inv X pins σ H s){a b:Addr}{ys:List V}(h1:dR X.K H a [])(h2:dR X.K H b ys)(q:Q (.ref b) s):wpAny (model X.prog X.w) X.A (binaryOp .Add (.ref a) (.ref b)) Q E s:=by
 obtain⟨us,p1,Wd,_⟩:=I.tuple h1;obtain⟨zs,p2,We,_⟩:=I.tuple h2;cases p1;obtain⟨⟨cls,dd,data,sl⟩,ho,hc,n,hd⟩:=id Wd;obtain⟨⟨T3,dd2,data2,sl2⟩,ho2,hc2,n2,hd2⟩:=id We;simp only at hc hd hc2 hd2;subst hc hd hc2 hd2;exact concat_meets ⟨_,ho,rfl⟩ ⟨_,ho2,rfl⟩ noFill_tuple_add seq_tuple_add PySem.F.slot_tuple_add PySem.F.entry_tuple_add (PySem.F.args_tuple_add_2 _ _)
  (tuple_addW0 a b _ _ n n2 dd dd2 sl sl2 (by simp)) ⟨ho,ho2,q⟩
theorem Mb:dN X (binaryOp .Add) (iN X.K (Ev.bU .add)):=by
 intro pins s σ H x y v u Q I rx ry q;obtain⟨r,h,a,b,d,h',hr,v1,v2,e,q⟩:=q;have s1:=v1.shape;have s2:=v2.shape;cases a with
 |int i=>cases b with
  |int j=>cases e;exact KZ pins s σ H x y v u Q I rx ry ⟨i,j,s1,s2,q.here rfl hr⟩
  |_=>cases e
 |str i=>cases b with
  |str j=>
   delta Ev.bU at e;dsimp only at e
   split at e
   .rename_i hz;cases e;rw[ja]at hz;refine zR pins s σ H x y v u Q I rx ry ⟨aS i,aS j,s1,s2,by rw[cR,cR];exact hz,?_⟩;rw[sQ];exact q.here ⟨rfl,by rw[List.length_append];exact hz⟩ hr
   .cases e
  |_=>cases e
 |tup i=>cases b with
  |tup j=>
   delta Ev.bU at e;dsimp only at e
   split at e
   .rename_i hz;cases e;rw[ja]at hz;obtain⟨pa,vs,rfl,z1,w1⟩:=s1;obtain⟨pb,ws,rfl,z2,w2⟩:=s2;have l1:=w1.length;have l2:=w2.length;cases vs with
    |nil=>
     cases rx;cases ry;refine IE I z1 z2 ⟨.ref pb,H,I,rfl,q.here ?_ hr⟩;have:i=[]:=by cases i with|nil=>rfl|cons _ _=>simp at l1
     subst this;exact⟨pb,ws,rfl,z2,by simpa using w2⟩
    |cons v0 vs=>
     refine Ic pins s σ H _ _ v u Q I rx ry ⟨pa,pb,v0 :: vs,ws,rfl,rfl,z1,z2,by simp,by rw[l1,l2];exact hz,λhw=>?_,λhw p hp=>?_⟩
     .subst hw;have:j=[]:=by cases j with|nil=>rfl|cons _ _=>simp at l2
      subst this;exact q.here ⟨pa,v0 :: vs,rfl,z1,by simpa using w1⟩ hr
     .exact q.tup (w1.append w2) hr hp
   .cases e
  |_=>cases e
 |ref i=>cases b with
  |ref j=>
   delta Ev.bU at e;dsimp only at e
   split at e
   .rename_i ds es e1 e2;obtain⟨pa,rfl,z1⟩:=s1;obtain⟨pb,rfl,z2⟩:=s2;cases rx;cases ry;obtain⟨p1,g1,vs,g2,g3⟩:=hr.ob _ _ e1;obtain⟨p2,k1,ws,k2,k3⟩:=hr.ob _ _ e2;rw[z1]at g1;cases g1;rw[z2]at k1;cases k1;obtain⟨hz,q2⟩:=q.lst e (g3.append k3) hr;exact BC pins s σ H (.ref pa) (.ref pb) _ _ Q I rfl rfl ⟨_,_,vs,ws,rfl,rfl,g2,k2,by rw[List.length_append]at hz;exact hz,q2⟩
   .cases e
  |_=>cases e
 |_=>cases b<;>cases e
theorem Mc:dN X (binaryOp .Sub) (iN X.K (Ev.bU .sub)):=by
 intro pins s σ H x y v u Q I rx ry q;obtain⟨r,h,a,b,d,h',hr,v1,v2,e,q⟩:=q;cases a with
 |int i=>cases b with
  |int j=>cases e;exact K0 pins s σ H x y v u Q I rx ry ⟨i,j,v1,v2,q.here rfl hr⟩
  |_=>cases e
 |_=>cases b<;>cases e
theorem IF:dN X (binaryOp .FloorDiv) (iN X.K (Ev.bU .fdiv)):=by
 intro pins s σ H x y v u Q I rx ry q;obtain⟨r,h,a,b,d,h',hr,v1,v2,e,q⟩:=q;cases a with
 |int i=>cases b with
  |int j=>
   delta Ev.bU at e;dsimp only at e
   split at e
   .rename_i hz;cases e;exact HN pins s σ H x y v u Q I rx ry ⟨i,j,v1,v2,hz,q.here rfl hr⟩
   .cases e
  |_=>cases e
 |_=>cases b<;>cases e
theorem Me:dN X (binaryOp .Mod) (iN X.K (Ev.bU .mod)):=by
 intro pins s σ H x y v u Q I rx ry q;obtain⟨r,h,a,b,d,h',hr,v1,v2,e,q⟩:=q;cases a with
 |int i=>cases b with
  |int j=>
   delta Ev.bU at e;dsimp only at e
   split at e
   .rename_i hz;cases e;exact K2 pins s σ H x y v u Q I rx ry ⟨i,j,v1,v2,hz,q.here rfl hr⟩
   .cases e
  |_=>cases e
 |_=>cases b<;>cases e
end
end Sm
set_option maxRecDepth 100000
namespace Sm
open PySem PySem.Spec PyProof.Rows L2 PySem.SeqAt
open Ev (D O Hh Fr R aI E Es Eo T S Ss Fl Src bF bu TY BI ME)
section
variable{X:Cx}
theorem Mf(n:Nat)(i:Int):Ev.dj n i=L2.dj n i:=rfl
theorem Mg{α:Type}(xs:List α)(i:Int):Ev.bK xs i=L2.bK xs i:=rfl
theorem aD.bK{K:PySem.W.Frag}{H:Hp}{r:List Addr}{ds:List D}{vs:List V}{i:Int}{d:D}(w:aD K H r ds vs)(e:Ev.bK ds i=some d):∃v,L2.bK vs i=some v/\RV K H r d v:=by
 unfold Ev.bK at e;obtain⟨j,e1,e2⟩:=Option.bind_eq_some_iff.mp e;obtain⟨v,e3,e4⟩:=w.get e2;exact⟨v,by unfold L2.bK;rw[w.length,<-Mf,e1];exact e3,e4⟩
theorem P1:yi X (iN X.K LL):=by
 intro value slice pins s σ H x y v u Q I rx ry q hs;obtain⟨r,h,a,b,d,h',hr,v1,v2,e,q⟩:=q;obtain⟨e,rfl⟩:=Ev.aM e;cases b with
 |int i=>
  have s2:=v2.shape;cases a with
  |tup ds=>
   obtain⟨p,vs,rfl,z,w⟩:=v1.shape;obtain⟨v',g1,g2⟩:=w.bK e;exact Le value slice pins s σ H _ y v u Q I rx ry ⟨p,vs,i,v',rfl,s2,z,g1,q.here g2 hr⟩ hs
  |str l=>
   simp only[RV]at v1;obtain⟨rfl,hl⟩:=v1;simp only[Ev.fP,Option.map_eq_some_iff]at e;obtain⟨c,e1,rfl⟩:=e;exact Lf value slice pins s σ H _ y v u Q I rx ry ⟨aS l,i,c,rfl,s2,by rw[cR];exact hl,by simpa[aS,Mg]using e1,q.here ⟨rfl,by show 1<=sizeLine;decide⟩ hr⟩ hs
  |ref m=>
   simp only[Ev.fP,Option.bind_eq_some_iff]at e;obtain⟨ds,e1,e2⟩:=e;obtain⟨p,rfl,z⟩:=v1.shape;obtain⟨p',vs,z',q1,w⟩:=hr.read e1;rw[z]at z';cases z';obtain⟨v',g1,g2⟩:=w.bK e2;exact Ie value slice pins s σ H _ y v u Q I rx ry ⟨p,vs,i,v',rfl,s2,q1,g1,q.here g2 hr⟩ hs
  |_=>cases e
 |_=>cases a<;>cases e
theorem aD.cut{K:PySem.W.Frag}{H:Hp}{r:List Addr}{ds:List D}{vs:List V}(w:aD K H r ds vs)(lo hi:Option Int):aD K H r (Ev.cut ds lo hi) (nu vs lo hi):=by
 unfold Ev.cut nu;rw[w.length];exact(w.drop _).take _
theorem uv{α:Type}(xs:List α)(lo hi:Option Int)(h:Ev.aO xs.length 0 lo=0/\Ev.aO xs.length xs.length hi=xs.length):Ev.cut xs lo hi=xs:=by
 unfold Ev.cut;rw[h.1,h.2];simp
theorem IG{α:Type}(xs:List α)(lo hi:Option Int):(Ev.cut xs lo hi).length<=xs.length:=by
 unfold Ev.cut;rw[List.length_take,List.length_drop];omega
theorem uJ{prog:Program}{w:World}{A:Around}{E:Value->Shared->Prop}{s:Shared}{t sl:Addr}{items:Array Value}{vl vu:Value}{lo hi:Option Int}{Q:Value->Shared->Prop}(ht:IsTup s.heap t items)(hs:s.heap.IsSliceOf sl vl vu .none)(pl:IsPart vl lo)(pu:IsPart vu hi)
  (hw:HT.aO items.size 0 lo=0/\HT.aO items.size items.size hi=items.size) (h:Q (.ref t) s):wpAny (model prog w) A (getItem (.ref t) (.ref sl)) Q E s:=by
 obtain⟨os,hos,hcs,hds⟩:=id hs;have Lb:s.TypeIs (.ref sl) "slice" :=⟨os,hos,hcs⟩
 unfold getItem;try with_reducible refine wpAny_holding ?_
 first|refine wpAny_bind (wpAny_pure ?_)|skip
 refine wpAny_bind (wpAny_sequenceKey ht.typeIs (by decide) ?_);refine wpAny_bind (wpAny_callSpecial?_slot (name:=Str.ofString "__getitem__") ht.typeIs PyProof.Rows.slot_tuple_getitem
  (wpAny_call_entry PyProof.Rows.slot_tuple_getitem ht.typeIs entry_tuple_getitem ?_ (args_tuple_getitem _ _)))
 show wpAny _ _ (Builtin.Tuple.tupleItemsOf (.ref t) >>= _) _ _ s;refine wpAny_bind (tupleItemsOf_ ht ?_);refine wpAny_bind (wpAny_typeOf Lb ?_);rw[if_pos (by decide)];refine wpAny_bind (HT.j9 hs pl pu ?_);have hyes:(((HT.aO items.size 0 lo:Nat):Int)==0&&(1:Int)==1&&(HT.aO items.size items.size hi - HT.aO items.size 0 lo)==items.size)=true:=by
  rw[hw.1,hw.2];simp
 show wpAny _ _ (if (((HT.aO items.size 0 lo:Nat):Int)==0&&(1:Int)==1&&(HT.aO items.size items.size hi - HT.aO items.size 0 lo)==items.size)=true then _ else _) _ _ s;rw[if_pos hyes];refine wpAny_bind (m:=Builtin.Tuple.tupleIsExact (.ref t)) (wpAny_bind (wpAny_typeOf ht.typeIs (wpAny_pure ?_)));show wpAny _ _ (if ((Value.type "tuple" ==Value.type "tuple")=true)then _ else _) _ _ s;rw[if_pos (by decide)];exact wpAny_bind (wpAny_rule (wpAny_bind (wpAny_pure (wpAny_pure ⟨_,rfl,wpAny_pure h⟩))))
theorem B3(lo hi:Option Int)(n:Nat):Builtin.Str.strSliceIndices lo hi 1 n=(List.range (Ev.aO n n hi - Ev.aO n 0 lo)).map (λk=>Ev.aO n 0 lo+k):=by
 have Mh:∀o:Option Int,((match o with|none=>(0:Int)|some i=>max 0 (min (if i<0 then i+(n:Int)else i) (n:Int))))=((Ev.aO n 0 o:Nat):Int):=λo=>by
  cases o with
  |none=>rfl
  |some i=>simp only[Ev.aO];split<;>omega
 have Mi:∀o:Option Int,((match o with|none=>(n:Int)|some i=>max 0 (min (if i<0 then i+(n:Int)else i) (n:Int))))=((Ev.aO n n o:Nat):Int):=λo=>by
  cases o with
  |none=>rfl
  |some i=>simp only[Ev.aO];split<;>omega
 have e:Builtin.Str.strSliceIndices lo hi 1 n=sliceRange (match lo with|none=>(0:Int)|some i=>max 0 (min (if i<0 then i+(n:Int)else i) (n:Int))) (match hi with|none=>(n:Int)|some i=>max 0 (min (if i<0 then i+(n:Int)else i) (n:Int))) 1:=by
  unfold Builtin.Str.strSliceIndices;cases lo<;>cases hi<;>simp
 rw[e,Mh,Mi,sliceRange_one]
theorem Mj(l:List Nat)(lo hi:Option Int):((Builtin.Str.strSliceIndices lo hi 1 (aS l).length).filterMap ((aS l).cps[·]?)).toArray=(Ev.cut l lo hi).toArray:=by
 rw[cR,B3,pick_run];simp[aS,Ev.cut]
theorem Ml:lS X (Ls X.K):=by
 intro pins s σ H x v vl vu lo hi sl Q I rx hs pl pu q;obtain⟨r,h,a,d,h',hr,v1,e,q⟩:=q;cases a with
 |tup ds=>
  cases e;obtain⟨p,vs,rfl,z,w⟩:=v1.shape;by_cases hw:HT.aO vs.length 0 lo=0/\HT.aO vs.length vs.length hi=vs.length
  .cases rx;obtain⟨us,pv,pt,hz⟩:=I.tuple z;have hl:=pv.length;have Wf:Ev.aO ds.length 0 lo=0/\Ev.aO ds.length ds.length hi=ds.length:=by rw[<-w.length];exact hw
   refine⟨"tuple",_,PyProof.Rows.slot_tuple_getitem.lookup,pt.typeIs,?_⟩;refine uJ pt hs pl pu (by rw[List.size_toArray,<-hl];exact hw) ⟨.ref p,H,I,rfl,q.here ?_ hr⟩;rw[uv ds lo hi Wf];exact⟨p,vs,rfl,z,w⟩
  .exact Lc pins s σ H _ v vl vu lo hi sl Q I rx hs pl pu ⟨p,vs,rfl,z,hw,λp' hp=>q.tup (w.cut lo hi) hr hp⟩
 |str l=>
  simp only[RV]at v1;obtain⟨rfl,hl⟩:=v1;obtain⟨t,rfl⟩:=rx;cases e;refine⟨"str",_,PySem.F.slot_str_getitem.lookup,typeIs_str s _ t,?_⟩;have part:∀{v:Value} {o:Option Int},IsPart v o->∃p:Option (Int×Tok),v=partValue p/\p.map (·.1)=o:=λ{v o} hp=>by
   cases hp with
   |none=>exact⟨none,rfl,rfl⟩
   |int i t=>exact⟨some (i,t),rfl,rfl⟩
  obtain⟨l1,e1,e2⟩:=part pl;obtain⟨u1,e3,e4⟩:=part pu;subst e1 e3;obtain⟨os,hos,hcs,hds⟩:=hs;refine wpAny_getItem_str_slice (l:=l1) (u:=u1) (st:=none) ⟨os,hos,hcs,hds⟩ rfl ?_;have GK:((slicePicked (aS l) l1 u1 none).filterMap ((aS l).cps[·]?)).toArray=(Ev.cut l lo hi).toArray:=by
   show((Builtin.Str.strSliceIndices (l1.map (·.1)) (u1.map (·.1)) 1 (aS l).length).filterMap ((aS l).cps[·]?)).toArray=_;rw[e2,e4];exact Mj l lo hi
  have hcl:=IG l lo hi;unfold sliceMade;refine post_val_or_made (λ_=>?_) λt' k=>?_
  .rw[GK];show(Ev.cut l lo hi).toArray.size<=sizeLine;simp only[List.size_toArray];omega
  .have hres:(if (((none:Option (Int×Tok)).map (·.1)).getD 1==1&&(slicePicked (aS l) l1 u1 none).length==(aS l).length)=true then aS l else (⟨((slicePicked (aS l) l1 u1 none).filterMap ((aS l).cps[·]?)).toArray⟩:Str))=aS (Ev.cut l lo hi):=by
    split
    .rename_i hc;rw[Bool.and_eq_true]at hc;have hlen:(slicePicked (aS l) l1 u1 none).length=(aS l).length:=eq_of_beq hc.2;have hlen2:(slicePicked (aS l) l1 u1 none).length=Ev.aO l.length l.length hi - Ev.aO l.length 0 lo:=by
      show(Builtin.Str.strSliceIndices (l1.map (·.1)) (u1.map (·.1)) 1 (aS l).length).length=_;rw[e2,e4,B3,cR];simp
     rw[cR]at hlen;have hb:Ev.aO l.length l.length hi<=l.length:=HT.vg _ _ (Nat.le_refl _) hi;have ha:Ev.aO l.length 0 lo<=l.length:=HT.vg _ _ (Nat.zero_le _) lo;rw[uv l lo hi ⟨by omega,by omega⟩]
    .rw[GK];rfl
   rw[hres];exact⟨.str (aS (Ev.cut l lo hi)),H,I.tok _,⟨_,rfl⟩,q.here ⟨rfl,by omega⟩ hr⟩
 |ref m=>
  simp only[Ev.gg]at e;split at e
  .rename_i ds e1;obtain⟨p,rfl,z⟩:=v1.shape;obtain⟨p',vs,z',q1,w⟩:=hr.read e1;rw[z]at z';cases z';obtain⟨hz,q2⟩:=q.lst e (w.cut lo hi) hr;exact Ig pins s σ H _ v vl vu lo hi sl Q I rx hs pl pu ⟨p,vs,rfl,q1,q2⟩
  .cases e
 |_=>cases e
theorem vJ:∀(k:Nat) (l:List Nat) (acc:List Nat),(List.replicate k l.toArray).foldl (·++·) acc.toArray=(acc++Ev.rep k l).toArray
 |0,l,acc=>by simp[Ev.rep]
 |k+1,l,acc=>by
  rw[List.replicate_succ,List.foldl_cons];have:acc.toArray++l.toArray=(acc++l).toArray:=by simp
  rw[this,vJ k l (acc++l)];simp[Ev.rep,List.replicate_succ]
theorem oN{α:Type}(k:Nat)(l:List α):(Ev.rep k l).length=k*l.length:=by
 unfold Ev.rep;exact len_rep l k
theorem II{l:List Nat}{k:Int}(h:0<=k):Txt.mul (aS l) k=aS (Ev.rep k.toNat l):=by
 unfold Txt.mul;by_cases h1:k<1
 .have:k=0:=by omega
  subst this;rw[if_pos (by decide)];rfl
 .rw[if_neg h1];split
  .rename_i hc;rw[Bool.or_eq_true]at hc;rcases hc with hc|hc
   .have:k=1:=by simpa using hc
    subst this;simp[Ev.rep]
   .rw[cR]at hc;have:l=[]:=by cases l with|nil=>rfl|cons _ _=>simp at hc
    subst this;simp[Ev.rep,aS]
  .show(⟨(List.replicate k.toNat (aS l).cps).foldl (·++·) #[]⟩:Str)=_;have:=vJ k.toNat l [];simp only[List.nil_append]at this;exact congrArg Str.mk this
theorem kP{a b:Nat}(h1:a<=1000)(h2:b<=1000):a*b<=sizeLine:=Nat.le_trans (Nat.mul_le_mul h1 h2) (by decide)
theorem IJ{pins:List (Addr×Obj)}{σ:L2.St}{H:Hp}{s:Shared}{Q:VK}(I:Inv X pins σ H s){l:List Nat}{k:Int}{t u:Tok}(hk:0<=k/\k<=1000/\l.length<=1000)(q:Q (.str (aS (Ev.rep k.toNat l))) H) :
  wpAny (model X.prog X.w) X.A (binaryOp .Mult (.str (aS l) t) (.int k u)) (EP X pins σ Q) X.xe s:=by
 have hok:MulOk (aS l) k:=mulOk_of 1000 1000 (by rw[cR];exact hk.2.2) (by exact hk.2.1) (by omega) (by decide) (by decide);refine SB.mul hok λt' k'=>?_;rw[II hk.1];exact⟨.str _,H,I.tok _,⟨_,rfl⟩,q⟩
theorem qk:fillsNumberSlot (.type "tuple") "mul" = pure false:=
 PySem.fillsNumberSlot_seq (id:="tuple.__mul__") (r:=some (.builtin "tuple.__rmul__")) PySem.F.slot_tuple_mul.lookup (by decide +kernel) PySem.F.slot_tuple_rmul.lookup (by decide +kernel)
theorem vK:seqRepeat? (.type "tuple")=pure (some (.builtin "tuple.__mul__")):=by
 unfold seqRepeat?;rw[PySem.seqSlot_of (T:="tuple") (name:="__mul__") (id:="tuple.__mul__") PySem.F.slot_tuple_mul.lookup (by decide +kernel),PySem.seqSlot_of (T:="tuple") (name:="__rmul__") (id:="tuple.__rmul__") PySem.F.slot_tuple_rmul.lookup (by decide +kernel)];rfl
theorem Ao(a:Int)(t:Tok)(l:Addr)(items:Array Value)(n:Nat)(dd:Option Addr)(sl:Array (Option Value)) :
  Meets (Builtin.«int.__rmul__» ⟨[.int a t,.ref l],[]⟩) (λ_ R s=>s.heap.get? l=some { cls:=.type "tuple",dict:=dd,data:=.seq items n,slots:=sl }/\R (.ok (.ret Value.notImplemented)) s):=
 .of_wp λprog w A R s h=>by obtain⟨hp,g,d,tk,os⟩:=s;obtain⟨hl,h⟩:=h;wp_walk;exact⟨_,rfl,h⟩
theorem Aq(l:Addr)(items:Array Value)(n:Nat)(dd:Option Addr)(sl:Array (Option Value))(k:Int)(u:Tok)(h1:¬ (decide (k < -2 ^ 63) ||decide (k≥2 ^ 63))=true)(h3:(items.isEmpty ||k==1)=true) :
  Meets (Builtin.«tuple.__mul__» ⟨[.ref l,.int k u],[]⟩) (λ_ R s=>s.heap.get? l=some { cls:=.type "tuple",dict:=dd,data:=.seq items n,slots:=sl }/\R (.ok (.ret (.ref l))) s):=
 .of_wp λprog w A R s h=>by obtain⟨hp,g,d,tk,os⟩:=s;obtain⟨hl,h⟩:=h;have f1:=AutoSeq1.idx_int;wp_walk using AutoSeq1.wpAny_loadPart' hl;rw[if_neg h1];wp_walk using AutoSeq1.wpAny_loadPart' hl;exact⟨_,rfl,h⟩
theorem Ar(l:Addr)(items:Array Value)(n:Nat)(dd:Option Addr)(sl:Array (Option Value))(k:Int)(u:Tok)(h1:¬ (decide (k < -2 ^ 63) ||decide (k≥2 ^ 63))=true)(h3:¬ (items.isEmpty ||k==1)=true)(h4:(decide (k<=0) ||items.isEmpty)=true) :
  Meets (Builtin.«tuple.__mul__» ⟨[.ref l,.int k u],[]⟩) (λ_ R s=>s.heap.get? l=some { cls:=.type "tuple",dict:=dd,data:=.seq items n,slots:=sl }/\R (.ok (.ret (Value.ref s.heap.objs.size))) { s with heap:=s.heap.push { cls:=Value.type "tuple",data:=Data.seq #[]},toks:=s.toks }):=
 .of_wp λprog w A R s h=>by obtain⟨hp,g,d,tk,os⟩:=s;obtain⟨hl,h⟩:=h;have f1:=AutoSeq1.idx_int;wp_walk using AutoSeq1.wpAny_loadPart' hl;rw[if_neg h1];wp_walk using AutoSeq1.wpAny_loadPart' hl;exact⟨_,rfl,h⟩
theorem As(l:Addr)(items:Array Value)(n:Nat)(dd:Option Addr)(sl:Array (Option Value))(k:Int)(u:Tok)(h1:¬ (decide (k < -2 ^ 63) ||decide (k≥2 ^ 63))=true)(h3:¬ (items.isEmpty ||k==1)=true)(h4:¬ (decide (k<=0) ||items.isEmpty)=true)
  (h5:¬ (items.size*k > (2 ^ 63 - 1) / 8)) (h6:¬ Builtin.Tuple.tupleTooMany (items.size*k)=true) (hsz:(List.foldl (λx1 x2=>x1++x2) #[] (List.replicate k.toNat items)).size<=sizeLine) :
  Meets (Builtin.«tuple.__mul__» ⟨[.ref l,.int k u],[]⟩) (λ_ R s=>s.heap.get? l=some { cls:=.type "tuple",dict:=dd,data:=.seq items n,slots:=sl }/\R (.ok (.ret (Value.ref s.heap.objs.size))) { s with heap:=s.heap.push { cls:=Value.type "tuple",data:=Data.seq (List.foldl (λx1 x2=>x1++x2) #[] (List.replicate k.toNat items))},toks:=s.toks }):=
 .of_wp λprog w A R s h=>by obtain⟨hp,g,d,tk,os⟩:=s;obtain⟨hl,h⟩:=h;have f1:=AutoSeq1.idx_int;wp_walk using AutoSeq1.wpAny_loadPart' hl;rw[if_neg h1];wp_walk using AutoSeq1.wpAny_loadPart' hl;rw[if_neg h5];wp_walk using AutoSeq1.wpAny_loadPart' hl;exact⟨_,rfl,h⟩
theorem uw:∀(k:Nat) (l acc:List Value),(List.replicate k l.toArray).foldl (·++·) acc.toArray=(acc++Ev.rep k l).toArray
 |0,l,acc=>by simp[Ev.rep]
 |k+1,l,acc=>by
  rw[List.replicate_succ,List.foldl_cons];have:acc.toArray++l.toArray=(acc++l).toArray:=by simp
  rw[this,uw k l (acc++l)];simp[Ev.rep,List.replicate_succ]
theorem IK{pins:List (Addr×Obj)}{σ:L2.St}{H:Hp}{s:Shared}{Q:VK}(I:Inv X pins σ H s){p:Addr}{vs:List V}{k:Int}{u:Tok}(hk:0<=k/\k<=1000/\vs.length<=1000)(hp:dR X.K H p vs)
  (q1:Ev.rep k.toNat vs=vs->Q (.ref p) H) (q2:∀p',H p'=none->Q (.ref p') (upd H p' (.tup (Ev.rep k.toNat vs)))) :
  wpAny (model X.prog X.w) X.A (binaryOp .Mult (.ref p) (.int k u)) (EP X pins σ Q) X.xe s:=by
 obtain⟨us,pv,pt,hz⟩:=I.tuple hp;obtain⟨⟨cls,dd,data,sl⟩,ho,hc,n,hd⟩:=id pt;simp only at hc hd;subst hc hd;have hl:=pv.length;have h1:¬ (decide (k < -2 ^ 63) ||decide (k≥2 ^ 63))=true:=by simp;omega
 refine wpAny_binaryOp_repeat_ref (T:="tuple") (U:="int") (by decide) ⟨_,ho,rfl⟩ (λs'=>typeIs_int s' k u) qk PySem.F.fills_int_mul PySem.F.slot_int_rmul vK PySem.F.slot_int_index.lookup
  (call_meets PySem.F.slot_int_rmul (typeIs_int s k u) PySem.F.entry_int_rmul (PySem.F.args_int_rmul_2 _ _) (Ao k u p us.toArray n dd sl) ⟨ho,rfl,⟨_,ho,rfl⟩,?_⟩)
 have hrep:∀m:Nat,(Ev.rep m us).length=m*us.length:=λm=>oN m us;by_cases h3:(us.toArray.isEmpty ||k==1)=true
 .refine call_meets PySem.F.slot_tuple_mul ⟨_,ho,rfl⟩ PySem.F.entry_tuple_mul (PySem.F.args_tuple_mul_2 _ _) (Aq p us.toArray n dd sl k u h1 h3) ⟨ho,?_⟩;refine⟨.ref p,H,I,rfl,q1 ?_⟩;rw[Bool.or_eq_true]at h3;rcases h3 with h3|h3
  .have:us=[]:=by simpa using h3
   subst this;cases pv;simp[Ev.rep]
  .have:k=1:=by simpa using h3
   subst this;simp[Ev.rep]
 .have laid:∀m:Nat,m=k.toNat->EP X pins σ Q (.ref s.heap.objs.size) { s with heap:=s.heap.push { cls:=.type "tuple",data:=.seq (Ev.rep m us).toArray }}:=λm hm=>by
   subst hm;refine⟨.ref s.heap.objs.size,_,I.laid (t':=s.toks) (o:=.tup (Ev.rep k.toNat vs)) (λb ob q=>Heap.get?_push_of_some _ q) (Nat.le_refl _) ?_,rfl,q2 _ (I.hok.fresh (Nat.le_refl _))⟩;exact⟨by rw[oN];exact kP (by omega) hk.2.2,_,pv.rep k.toNat,IsTup.new _ _⟩
  by_cases h4:(decide (k<=0) ||us.toArray.isEmpty)=true
  .refine call_meets PySem.F.slot_tuple_mul ⟨_,ho,rfl⟩ PySem.F.entry_tuple_mul (PySem.F.args_tuple_mul_2 _ _) (Ar p us.toArray n dd sl k u h1 h3 h4) ⟨ho,?_⟩;have hk0:k=0:=by
    rw[Bool.or_eq_true]at h4 h3;rcases h4 with h4|h4
    .have:k<=0:=of_decide_eq_true h4;omega
    .exact absurd (.inl h4) h3
   have:=laid 0 (by rw[hk0];rfl);exact this
  .have hm:us.toArray.size*k.toNat<=1000000:=by
    rw[List.size_toArray];exact Nat.mul_le_mul (by omega:us.length<=1000) (by omega:k.toNat<=1000)
   have hm':(us.toArray.size:Int)*k<=1000000:=by
    have e:(us.toArray.size:Int)*k=((us.toArray.size*k.toNat:Nat):Int):=by
     rw[Int.natCast_mul,Int.toNat_of_nonneg hk.1]
    rw[e];omega
   have hf:List.foldl (λx1 x2=>x1++x2) #[] (List.replicate k.toNat us.toArray)=(Ev.rep k.toNat us).toArray:=by
    have:=uw k.toNat us [];simpa using this
   refine call_meets PySem.F.slot_tuple_mul ⟨_,ho,rfl⟩ PySem.F.entry_tuple_mul (PySem.F.args_tuple_mul_2 _ _) (As p us.toArray n dd sl k u h1 h3 h4 (by omega) ?_ ?_) ⟨ho,?_⟩
   .unfold Builtin.Tuple.tupleTooMany;simp only[decide_eq_true_eq];have:(sizeLine:Int)=16777216:=by rw[sizeLine_eq];rfl
    omega
   .rw[hf];simp only[List.size_toArray];rw[oN];exact kP (by omega) (by omega)
   .rw[hf];exact laid _ rfl
theorem Mm:dN X (binaryOp .Mult) (iN X.K (Ev.bU .mul)):=by
 intro pins s σ H x y v u Q I rx ry q;obtain⟨r,h,a,b,d,h',hr,v1,v2,e,q⟩:=q;cases b with
 |int k=>
  have s2:=v2.shape;simp only[bX]at s2;subst s2;cases a with
  |int i=>
   delta Ev.bU at e;dsimp only at e
   split at e
   .rename_i hz;cases e;refine K1 pins s σ H x _ v u Q I rx ry ⟨i,k,v1,rfl,?_,q.here rfl hr⟩;unfold Ev.bY at hz;simp only[Bool.or_eq_true,Bool.and_eq_true,decide_eq_true_eq]at hz;exact hz
   .cases e
  |str l=>
   delta Ev.bU at e;dsimp only at e
   split at e
   .rename_i hz;cases e;simp only[RV]at v1;obtain⟨rfl,hl⟩:=v1;obtain⟨t,rfl⟩:=rx;obtain⟨t',rfl⟩:=ry;exact IJ I hz (q.here ⟨rfl,by rw[oN];exact kP (by omega) hz.2.2⟩ hr)
   .cases e
  |tup ds=>
   delta Ev.bU at e;dsimp only at e
   split at e
   .rename_i hz;cases e;obtain⟨p,vs,rfl,z,w⟩:=v1.shape;cases rx;obtain⟨t',rfl⟩:=ry;refine IK I ⟨hz.1,hz.2.1,by rw[w.length];exact hz.2.2⟩ z (λWg=>q.here ⟨p,vs,rfl,z,?_⟩ hr) λp' hp=>q.tup (w.rep k.toNat) hr hp;have:=w.rep k.toNat;rw[Wg]at this;exact this
   .cases e
  |ref i=>
   delta Ev.bU at e;dsimp only at e
   split at e
   .rename_i ds e1;split at e
    .rename_i hz;obtain⟨p,rfl,z⟩:=v1.shape;obtain⟨p',g1,vs,g2,g3⟩:=hr.ob _ _ e1;rw[z]at g1;cases g1;obtain⟨hz2,q2⟩:=q.lst e (g3.rep k.toNat) hr;exact Ll pins s σ H (.ref p) _ v u Q I rx ry ⟨p,k,vs,rfl,rfl,g2,by omega,by omega,kP (by rw[g3.length];exact hz.2.2) (by omega),q2⟩
    .cases e
   .cases e
  |_=>cases e
 |_=>cases a<;>cases e
end
end Sm
set_option maxRecDepth 100000
namespace Sm
open PySem PySem.Spec PyProof.Rows L2 PySem.SeqAt
open Ev (D O Hh Fr R aI E Es Eo T S Ss Fl Src bF bu TY BI ME)
section
variable{X:Cx}
theorem yH{K:PySem.W.Frag}{H:Hp}{r:List Addr}:∀{ds:List D}{is:List Int}{vs:List V}{us:List Value},Ev.intsOf ds=some is->aD K H r ds vs->Vals vs us->IntsAre us is
 |[],bs,vs,us,e,w,p=>by
  cases e;simp only[aD]at w;subst w;cases p;exact .nil
 |d :: ds,bs,vs,us,e,w,p=>by
  cases d with
  |int b=>
   simp only[Ev.intsOf,Option.map_eq_some_iff]at e;obtain⟨bs',e1,rfl⟩:=e;simp only[aD,RV]at w;obtain⟨v,w',rfl,rfl,w2⟩:=w;cases p with
   |cons p1 p2=>
    obtain⟨t,rfl⟩:=p1;exact .cons _ _ (yH e1 w2 p2)
  |_=>cases e
theorem yI{K:PySem.W.Frag}{H:Hp}{r:List Addr}:∀{ds:List D}{ss:List (List Nat)}{vs:List V}{us:List Value},Ev.strsOf ds=some ss->aD K H r ds vs->Vals vs us->StrsAre us (ss.map aS)/\∀l∈ss,l.length<=sizeLine
 |[],bs,vs,us,e,w,p=>by
  cases e;simp only[aD]at w;subst w;cases p;exact⟨.nil,λl h=>nomatch h⟩
 |d :: ds,bs,vs,us,e,w,p=>by
  cases d with
  |str b=>
   simp only[Ev.strsOf,Option.map_eq_some_iff]at e;obtain⟨bs',e1,rfl⟩:=e;simp only[aD,RV]at w;obtain⟨v,w',rfl,⟨rfl,hb⟩,w2⟩:=w;cases p with
   |cons p1 p2=>
    obtain⟨t,rfl⟩:=p1;obtain⟨g1,g2⟩:=yI e1 w2 p2;refine⟨.cons _ _ g1,λl hl=>?_⟩;rcases List.mem_cons.mp hl with z|z
    .subst z;exact hb
    .exact g2 l z
  |_=>cases e
variable{G:Tb}{n:Nat}{sc:Scope}{N:List Str}{df:Bool}
theorem Mn (g:Good G n sc N df X):fU X (.builtin "sum") (yp X.K (Ev.dS .sum)):=by
 intro pins s σ H xs us Q I r q;obtain⟨rr,h,as,d,h',hr,v1,e,q⟩:=q
 match as,e with
 |[.ref m],e=>
  obtain⟨e,rfl⟩:=Ev.aM e;simp only[Option.map_eq_some_iff,Option.bind_eq_some_iff]at e;obtain⟨is,⟨ds,e1,e2⟩,rfl⟩:=e;simp only[aD,RV]at v1;obtain⟨v,w,rfl,⟨p,rfl,z⟩,rfl⟩:=v1;obtain⟨u,rfl,ru⟩:=vals1 r;cases ru;obtain⟨p',vs,z',q1,w⟩:=hr.read e1;rw[z]at z';cases z';obtain⟨zs,pv,pl,_⟩:=I.list q1;have hi:=yH e2 w pv;obtain⟨ys,hys⟩:=(hi.allInts).items;have hl:s.heap.IsList p (intItems ys):=by rw[<-hys];exact pl.isList
  refine sum_intListG (I.ok.hd g.calm) hl λh'' tk t' hk=>?_;have hsum:preSum (numAt ys) ys.size=is.sum:=by
   have h1:numsOf zs.toArray.toList=is:=by rw[show zs.toArray.toList=zs from rfl];exact hi.numsOf
   rw[hys,nums_intItems]at h1;rw[preSum_eq,List.take_of_length_le (by simp),h1]
  rw[hsum];exact⟨.int is.sum,H,I.kept hk,⟨_,rfl⟩,q.here rfl hr⟩
theorem Mp:fU X (.builtin "len") (yp X.K (Ev.dS .len)):=by
 intro pins s σ H xs us Q I r q;obtain⟨rr,h,as,d,h',hr,v1,e,q⟩:=q
 match as,e with
 |[.str l],e=>
  delta Ev.dS at e;dsimp only at e
  split at e
  .cases e;simp only[aD,RV]at v1;obtain⟨v,w,rfl,⟨rfl,hl⟩,rfl⟩:=v1;refine vj pins s σ H _ us Q I r ⟨_,rfl,by rw[cR];exact hl,?_⟩;rw[cR];exact q.here rfl hr
  .cases e
 |[.tup ds],e=>
  cases e;simp only[aD,RV]at v1;obtain⟨v,w,rfl,⟨p,vs,rfl,z,w'⟩,rfl⟩:=v1;refine nv pins s σ H _ us Q I r ⟨p,vs,rfl,.inr z,?_⟩;rw[w'.length];exact q.here rfl hr
 |[.ref m],e=>
  obtain⟨e,rfl⟩:=Ev.aM e;simp only[Option.map_eq_some_iff]at e;obtain⟨ds,e1,rfl⟩:=e;simp only[aD,RV]at v1;obtain⟨v,w,rfl,⟨p,rfl,z⟩,rfl⟩:=v1;obtain⟨p',vs,z',q1,w⟩:=hr.read e1;rw[z]at z';cases z';refine nv pins s σ H _ us Q I r ⟨p,vs,rfl,.inl q1,?_⟩;rw[w.length];exact q.here rfl hr
theorem Mq (g:Good G n sc N df X):fU X (.builtin "min") (yp X.K (Ev.dS .min)):=by
 intro pins s σ H xs us Q I r q;obtain⟨rr,h,as,d,h',hr,v1,e,q⟩:=q
 match as,e with
 |[.int i,.int j],e=>
  cases e;simp only[aD,RV]at v1;obtain⟨v,w,rfl,rfl,v',w',rfl,rfl,rfl⟩:=v1;exact Bu g.calm pins s σ H _ us Q I r ⟨i,j,rfl,q.here rfl hr⟩
theorem B4:t7 X "list.append" (vp X.K (Ev.fG .append)):=by
 intro pins s σ H x xs v us Q I rx rs q;obtain⟨r,h,a,as,d,h',hr,v1,v2,e,q⟩:=q;cases a with
 |ref m=>
  match as,e with
  |[b],e=>
   delta Ev.fG at e;dsimp only at e
   split at e
   .rename_i ds e1;split at e
    .rename_i hz;cases e;rw[ja]at hz;obtain⟨p,rfl,z⟩:=v1.shape;simp only[aD]at v2;obtain⟨y,w,rfl,v3,rfl⟩:=v2;obtain⟨p',g1,vs,g2,g3⟩:=hr.ob _ _ e1;rw[z]at g1;cases g1;refine t9 pins s σ H _ _ v us Q I rx rs ⟨p,vs,y,rfl,rfl,g2,by rw[g3.length];exact hz,?_⟩;have f:=Fm.write (K:=X.K) (ws:=vs++[y]) g2 (List.mem_of_getElem? z);exact q _ _ r rfl (hr.write e1 z g2 (g3.append (.cons v3 .nil))) f
    .cases e
   .cases e
  |[],e=>cases e
  |_ :: _ :: _,e=>cases e
 |_=>cases e
theorem B5:t7 X "list.extend" (vp X.K (Ev.fG .extend)):=by
 intro pins s σ H x xs v us Q I rx rs q;obtain⟨r,h,a,as,d,h',hr,v1,v2,e,q⟩:=q;cases a with
 |ref m=>
  match as,e with
  |[.ref k],e=>
   delta Ev.fG at e;dsimp only at e
   split at e
   .rename_i ds es e1 e2;split at e
    .rename_i hz;cases e;rw[ja]at hz;obtain⟨p,rfl,z⟩:=v1.shape;simp only[aD,RV]at v2;obtain⟨y,w,rfl,⟨p2,rfl,z2⟩,rfl⟩:=v2;obtain⟨p',g1,vs,g2,g3⟩:=hr.ob _ _ e1;rw[z]at g1;cases g1;obtain⟨p'',k1,ws,k2,k3⟩:=hr.ob _ _ e2;rw[z2]at k1;cases k1;refine BB pins s σ H _ _ v us Q I rx rs ⟨p,p2,vs,ws,rfl,rfl,g2,k2,by rw[g3.length,k3.length];exact hz,?_⟩;have f:=Fm.write (K:=X.K) (ws:=vs++ws) g2 (List.mem_of_getElem? z);exact q _ _ r rfl (hr.write e1 z g2 (g3.append k3)) f
    .cases e
   .cases e
 |_=>cases e
theorem Mr:t7 X "list.pop" (vp X.K (Ev.fG .pop)):=by
 intro pins s σ H x xs v us Q I rx rs q;obtain⟨r,h,a,as,d,h',hr,v1,v2,e,q⟩:=q;cases a with
 |ref m=>
  match as,e with
  |[],e=>
   delta Ev.fG at e;dsimp only at e
   split at e
   .rename_i ds e1;split at e
    .rename_i y e2;cases e;obtain⟨p,rfl,z⟩:=v1.shape;simp only[aD]at v2;subst v2;obtain⟨p',g1,vs,g2,g3⟩:=hr.ob _ _ e1;rw[z]at g1;cases g1;obtain⟨vy,g4,g5⟩:=g3.get e2;refine Lk pins s σ H _ _ v us Q I rx rs ⟨p,vs,vy,rfl,rfl,g2,by rw[g3.length];exact g4,?_⟩;have f:=Fm.write (K:=X.K) (ws:=vs.dropLast) g2 (List.mem_of_getElem? z);have hd:aD X.K H r ds.dropLast vs.dropLast:=by
      rw[List.dropLast_eq_take,List.dropLast_eq_take,g3.length];exact g3.take _
     exact q _ _ r (g5.mono f) (hr.write e1 z g2 hd) f
    .cases e
   .cases e
  |_ :: _,e=>cases e
 |_=>cases e
theorem ql(sep:List Nat):∀ss:List (List Nat),Str.join (aS sep) (ss.map aS)=aS (Ev.cj sep ss)
 |[]=>rfl
 |[s]=>rfl
 |s :: t :: r=>by
  have ih:=ql sep (t :: r);show aS s++aS sep++Str.join (aS sep) ((t :: r).map aS)=_;rw[ih,sQ,sQ];rfl
theorem join_eq(sep:List Nat)(ss:List (List Nat)):Txt.join (aS sep) (ss.map aS)=aS (Ev.cj sep ss):=by
 rw[<-ql];exact PySem.StrLaws.glued_eq_join _ _
theorem IL:t7 X "str.join" (vp X.K (Ev.fG .join)):=by
 intro pins s σ H x xs v us Q I rx rs q;obtain⟨r,h,a,as,d,h',hr,v1,v2,e,q⟩:=q;cases a with
 |str sep=>
  match as,e with
  |[.ref k],e=>
   delta Ev.fG at e;dsimp only at e
   split at e
   .rename_i ss e1;split at e
    .rename_i hz;cases e;simp only[Option.bind_eq_some_iff]at e1;obtain⟨ds,e1,e2⟩:=e1;simp only[RV]at v1;obtain⟨rfl,hl⟩:=v1;obtain⟨t,rfl⟩:=rx;simp only[aD,RV]at v2;obtain⟨y,w,rfl,⟨p2,rfl,z2⟩,rfl⟩:=v2;obtain⟨u,rfl,ru⟩:=vals1 rs;cases ru;obtain⟨p',vs,z',q1,w⟩:=hr.read e1;rw[z2]at z';cases z';obtain⟨zs,pv,pl,_⟩:=I.list q1;obtain⟨g1,g2⟩:=yI e2 w pv;have hlen:((ss.map aS).map (·.length)).sum+(ss.map aS).length*(aS sep).length<=16777216:=by
      rw[List.map_map,List.length_map,cR];have:(λx:Str=>x.length) ∘ aS=λl:List Nat=>l.length:=funext λl=>cR l;rw[this];exact hz
     refine join_list pl.isList g1 hlen λt' k'=>?_;rw[join_eq];refine⟨.str _,H,I.tok _,⟨_,rfl⟩,q.here ⟨rfl,?_⟩ hr⟩;have hj:=PySem.StrLaws.join_length_le (aS sep) (ss.map aS);rw[ql,cR]at hj;have:sizeLine=16777216:=sizeLine_eq;omega
    .cases e
   .cases e
 |_=>cases e
end
end Sm
set_option maxRecDepth 100000
namespace Sm
open PySem PySem.Spec PyProof.Rows L2 PySem.SeqAt
open Ev (D O Hh Fr R aI E Es Eo T S Ss Fl Src bF bu TY BI ME)
section
variable{X:Cx}{G:Tb}{n:Nat}{sc:Scope}{N:List Str}{df:Bool}{m:List Nat}{a b c:E}{xa xb xc tg:Expr}{pos:Pos}
noncomputable def pN:TY->String
 |.int=>"int" |.bool=>"bool" |.str=>"str" |.tuple=>"tuple" |.list=>"list"
theorem Ur (K:PySem.W.Frag) (t:TY):PySem.W.kitOne K (.type "NoneType") (.type (pN t))=some false/\PySem.W.kitOne K (.type "bool") (.type (pN t))=some (Ev.dm [] (.bl true) t)/\PySem.W.kitOne K (.type "int") (.type (pN t))=some (Ev.dm [] (.int 0) t)/\
  PySem.W.kitOne K (.type "str") (.type (pN t))=some (Ev.dm [] (.str []) t)/\PySem.W.kitOne K (.type "tuple") (.type (pN t))=some (Ev.dm [] (.tup []) t)/\PySem.W.kitOne K (.type "list") (.type (pN t))=some (match t with|.list=>true|_=>false):=by
 cases t<;>refine⟨?_,?_,?_,?_,?_,?_⟩<;>kernel_rfl
noncomputable def LD(h:Hh)(i:Nat):Prop:=(Ev.aW h i).isSome=true
 \/False
theorem IM{pins:List (Addr×Obj)}{σ:L2.St}{H:Hp}{s:Shared}{r:List Addr}{h:Hh}(I:Inv X pins σ H s)(hr:HR X.K H r h){d:D}{x:V}{u:Value}(v1:RV X.K H r d x)(rx:RelV x u)(hd:∀i,d=.ref i->LD h i)(t:TY){Q:Value->Shared->Prop}{E:Value->Shared->Prop}(q:∀tk,Q (.bool (Ev.dm h d t)) { s with toks:=tk }) :
  wpAny (model X.prog X.w) X.A (call (.builtin "isinstance") [u,.type (pN t)]) Q E s:=by
 obtain⟨k0,k1,k2,k3,k4,k5⟩:=Ur X.K t;have s1:=v1.shape;cases d with
 |aL=>simp only[bX]at s1;subst s1;exact kM I rx .aL k0 (by simpa[Ev.dm]using q)
 |bl b=>simp only[bX]at s1;subst s1;exact kM I rx (.bl _) k1 (by cases t<;>simpa[Ev.dm]using q)
 |int b=>simp only[bX]at s1;subst s1;exact kM I rx (.int _) k2 (by cases t<;>simpa[Ev.dm]using q)
 |str b=>simp only[bX]at s1;subst s1;exact kM I rx (.str _) k3 (by cases t<;>simpa[Ev.dm]using q)
 |tup ds=>
  obtain⟨p,vs,rfl,z,w⟩:=s1;cases rx;obtain⟨us,_,pt,_⟩:=I.tuple z;obtain⟨o,h1,h2,_⟩:=pt;exact PySem.W.kia_one PySem.W.kitx_tuple I.fF ⟨o,h1,h2⟩ k4 (λz=>nomatch z) (by cases t<;>simpa[Ev.dm]using q)
 |ref i=>
  obtain⟨p,rfl,z⟩:=s1;cases rx;rcases hd i rfl with hd|hd
  case inr=>
   exact hd.elim
  obtain⟨ds,e1⟩:=Option.isSome_iff_exists.mp hd;obtain⟨us,pl⟩:=vI I hr e1 z;obtain⟨o,h1,h2,_⟩:=pl.isList;exact PySem.W.kia_one PySem.W.kitx_list I.fF ⟨o,h1,h2⟩ k5 (λz=>nomatch z) (by cases t<;>simpa[Ev.dm,e1]using q)
theorem B6 {t:TY}{T:Str}{p q:Pos}(ha:JE G n sc N df m a xa) (hT:bootBuiltins T=some (.type (pN t))) (h1:("isinstance" : Str)∈G.bl:=by decide +kernel) (h2:T∈G.bl:=by decide +kernel)
  (qN:sc.names.lookup ("isinstance" : Str)=some .globalImplicit:=by rfl) (Wh:sc.names.lookup T=some .globalImplicit:=by rfl) (hn:T≠"__name__" :=by decide) (hd:(T==("__debug__" : Str))=false:=by decide)
  (hst:∀env:Env,starEach [xa,.Name T q] env=(false,eval xa env) :: starEach [.Name T q] env:=by intro _;rfl):JE G n sc N df m (.fK a [t]) (.Call (.Name "isinstance" p) [xa,.Name T q] [] pos):=λX g=>by
 have hty:PE X (.Name T q) (tC (.ty (pN t))):=xZ (g.gl Wh) (g.bl T h2) hT rfl hn hd;have hc:fU X (.builtin "isinstance") (λxs H Q=>∃r h d x,HR X.K H r h/\RV X.K H r d x/\xs=[x,.ty (pN t)]/\(∀i,d=.ref i->LD h i)/\Q (.bl (Ev.dm h d t)) H):=by
  intro pins s σ H xs us Q I rv q;obtain⟨r,h,d,x,hr,v1,rfl,hd,q⟩:=q;obtain⟨u,w,rfl,r1,r2⟩:=vals2 rv;cases r2;exact IM I hr v1 r1 hd t λtk=>⟨.bl _,H,I.tok _,rfl,q⟩
 refine PE.of (qd hc (g.gl qN) (g.bl _ h1) (by decide +kernel) (cJ (ha X g) (cJ hty g6) (hst _)) (by decide) (by decide) (hst _) rfl) λs H Q q=>?_;obtain⟨r,fr,h,d,h',sr,hr,e,q⟩:=q;simp only[Ev.ev]at e;obtain⟨x,h3,e1,e⟩:=Ev.ah e;cases e;refine⟨r,fr,h,x,_,sr,hr,e1,λv H1 r1 v1 hr1 f1=>?_⟩;refine⟨r1,_,x,v,hr1,v1,rfl,λi hi=>?_,?_⟩
 .subst hi;simp only[RV]at v1;obtain⟨p,_,z⟩:=v1;have hlt:i<h'.length:=by rw[<-hr1.len];exact(List.getElem?_eq_some_iff.mp z).1
  unfold LD Ev.aW;rw[List.getElem?_eq_getElem hlt];cases h'[i]with
  |lst ds=>exact .inl rfl
  |bP ds=>exact .inl rfl
 .have:=(q.later f1).here (v:=.bl (Ev.dm h' x t)) (by simp[RV]) hr1;exact this
theorem aD.ofStr{K:PySem.W.Frag}{H:Hp}{r:List Addr}:∀(l:List Nat),aD K H r (l.map λc=>.str [c]) (l.map λc=>.str (aS [c]))
 |[]=>.nil
 |c :: l=>.cons ⟨rfl,by show 1<=sizeLine;decide⟩ (aD.ofStr l)
theorem Au{x:List Nat}{acc:Array Value}(h:ItemsOf (SignAt (aS x)) acc (aS x).cps.size):Vals (x.map λc=>.str (aS [c])) acc.toList:=by
 obtain⟨h1,h2⟩:=h;have hl:acc.toList.length=x.length:=by simpa[aS]using h1
 have go:∀(y:List Nat) (l:List Value) (k:Nat),l.length=y.length->(∀j v,l[j]?=some v->SignAt (aS x) (k+j) v)->(∀j,y[j]?=x[k+j]?)->Vals (y.map λc=>.str (aS [c])) l:=by
  intro y;induction y with
  |nil=>intro l k hl _ _;cases l with|nil=>exact .nil|cons _ _=>simp at hl
  |cons c y ih=>
   intro l k hl hv hy;cases l with
   |nil=>simp at hl
   |cons v l=>
    refine .cons ?_ (ih l (k+1) (by simpa using hl) (λj w hw=>?_) λj=>?_)
    .obtain⟨c',u,hc',rfl⟩:=hv 0 v (by simp);have:=hy 0;simp at this;have hc2:x[k]?=some c':=by simpa[aS]using hc'
     rw[hc2]at this;cases this;exact⟨u,rfl⟩
    .have:=hv (j+1) w (by simpa using hw);rw[show k+1+j=k+(j+1)by omega];exact this
    .have:=hy (j+1);simp at this;rw[this]
     congr 1
     omega
 exact go x acc.toList 0 hl (λj v hv=>by simpa using h2 j v (by simpa using hv)) λj=>by simp
theorem IP (g:Good G n sc N df X):fU X (.type "list") (λxs H Q=>∃r h d src x,HR X.K H r h/\RV X.K H r d x/\xs=[x]/\Ev.fV h d=some src/\src.1.length<=sizeLine/\∀vs,aD X.K H r src.1 vs->∀l,H l=none->Q (.ref l) (upd H l (.lst vs))):=by
 intro pins s σ H xs us Q I rv q;obtain⟨r,h,d,src,x,hr,v1,rfl,e,hz,q⟩:=q;cases d with
 |tup ds=>
  cases e;obtain⟨p,vs,rfl,z,w⟩:=v1.shape;exact ny pins s σ H _ us Q I rv ⟨p,vs,rfl,.inr z,q vs w⟩
 |ref i=>
  simp only[Ev.fV,Option.map_eq_some_iff]at e;obtain⟨ds,e1,rfl⟩:=e;obtain⟨p,rfl,z⟩:=v1.shape;obtain⟨p',vs,z',q1,w⟩:=hr.read e1;rw[z]at z';cases z';exact ny pins s σ H _ us Q I rv ⟨p,vs,rfl,.inl q1,q vs w⟩
 |str l=>
  cases e;simp only[RV]at v1;obtain⟨rfl,hl⟩:=v1;obtain⟨u,rfl,ru⟩:=vals1 rv;obtain⟨t,rfl⟩:=ru;refine call_list_str (I.ok.hd g.calm) (aS l) t (λh' tk acc' c' hk hS' hacc=>?_) (by simpa[aS]using hl);refine⟨.ref s.heap.objs.size,_,I.laid (t':=tk) (o:=.lst (l.map λc=>.str (aS [c]))) hk (Nat.le_refl _) ?_,rfl,q _ (aD.ofStr l) _ (I.hok.fresh (Nat.le_refl _))⟩;exact⟨by simpa using hl,acc'.toList,c',Au hacc,by simpa using hS'⟩
 |_=>cases e
theorem Ms {p:Pos}(ha:JE G n sc N df m a xa) (h1:("list" : Str)∈G.bl:=by decide +kernel) (qN:sc.names.lookup ("list" : Str)=some .globalImplicit:=by rfl)
  (hst:∀env:Env,starEach [xa] env=[(false,eval xa env)]:=by intro _;rfl):JE G n sc N df m (.eH (.seq a)) (.Call (.Name "list" p) [xa] [] pos):=λX g=>by
 refine PE.of (t6 (IP g) (g.gl qN) (g.bl _ h1) (by decide +kernel) (cJ (ha X g) g6 (hst _)) (by decide) (by decide) (hst _) rfl) λs H Q q=>?_;obtain⟨r,fr,h,d,h',sr,hr,e,q⟩:=q;simp only[Ev.ev,Ev.b8]at e;obtain⟨src,h3,e1,e⟩:=Ev.ah e;obtain⟨x,h4,e2,e1⟩:=Ev.ah e1;obtain⟨e1,rfl⟩:=Ev.aM e1;refine⟨r,fr,h,x,_,sr,hr,e2,λv H1 r1 v1 hr1 f1=>?_⟩;have hz:src.1.length<=sizeLine:=by
  unfold Ev.alloc at e;split at e
  .rename_i z;rw[<-ja];exact z
  .cases e
 exact⟨r1,_,x,src,v,hr1,v1,rfl,e1,hz,λvs w l hl=>((q.later f1).lst e w hr1).2 l hl⟩
theorem Av{lo:Int}{acc:Array Value}{k:Nat}(h:ItemsOf (λi v=>∃t,v=Value.int (lo+i*1) t) acc k):Vals ((List.range k).map λi=>V.int (lo+(i:Nat))) acc.toList:=by
 obtain⟨h1,h2⟩:=h;subst h1;have go:∀(l:List Value) (b:Nat),(∀j v,l[j]?=some v->∃t,v=Value.int (lo+((b+j:Nat):Int)) t)->Vals ((List.range' b l.length).map λi=>V.int (lo+(i:Nat))) l:=by
  intro l;induction l with
  |nil=>intro b _;exact .nil
  |cons v l ih=>
   intro b hv;rw[List.length_cons,List.range'_succ];refine .cons (by obtain⟨t,e⟩:=hv 0 v (by simp);subst e;exact⟨t,by simp⟩) (ih (b+1) λj w hw=>?_);have:=hv (j+1) w (by simpa using hw);rw[show b+1+j=b+(j+1)by omega];exact this
 have:=go acc.toList 0 λj v hv=>by
  obtain⟨t,e⟩:=h2 j v (by simpa using hv);exact⟨t,by simpa using e⟩
 rw[List.range_eq_range'];simpa using this
theorem aD.ofRange{K:PySem.W.Frag}{H:Hp}{r:List Addr}(lo:Int)(k:Nat):aD K H r (Ev.range lo k) ((List.range k).map λi=>V.int (lo+(i:Nat))):=by
 unfold Ev.range;generalize List.range k=l
 induction l with
 |nil=>exact .nil
 |cons i l ih=>exact .cons rfl ih
end
end Sm
set_option maxRecDepth 100000
namespace Sm
open PySem PySem.Spec PyProof.Rows L2 PySem.SeqAt
open Ev (D O Hh Fr R aI E Es Eo T S Ss Fl Src bF bu TY BI ME)
section
variable{X:Cx}{G:Tb}{n:Nat}{sc:Scope}{N:List Str}{df:Bool}{m:List Nat}{a b c:E}{xa xb xc tg:Expr}{pos:Pos}
theorem Vals.reverse{vs:List V}{us:List Value}(w:Vals vs us):Vals vs.reverse us.reverse:=by
 induction w with
 |nil=>exact .nil
 |cons a _ ih=>rw[List.reverse_cons,List.reverse_cons];exact ih.append (.cons a .nil)
end
end Sm
set_option maxRecDepth 100000
namespace Sm
open PySem PySem.Spec PyProof.Rows L2 PySem.SeqAt
open Ev (D O Hh Fr R aI E Es Eo T S Ss Fl Src bF bu TY BI ME)
section
variable{G:Tb}{n:Nat}{sc:Scope}{N:List Str}{df:Bool}{m:List Nat}{a b c:E}{xa xb xc tg:Expr}{pos:Pos}
theorem Ed (g:Good G n sc N df X):fU X (.type "tuple") (λxs H Q=>∃r h d x d' h',HR X.K H r h/\RV X.K H r d x/\xs=[x]/\Ev.sI d h=.ok d' h'/\Res X.K r H h' d' Q):=by
 intro pins s σ H xs us Q I rv q;obtain⟨r,h,d,x,d',h',hr,v1,rfl,e,q⟩:=q;cases d with
 |tup ds=>
  cases e;have v2:=v1;obtain⟨p,vs,rfl,z,w⟩:=v1.shape;exact mT pins s σ H _ us Q I rv ⟨p,vs,rfl,.inr ⟨z,q.here v2 hr⟩⟩
 |ref i=>
  simp only[Ev.sI]at e;split at e
  .rename_i ds e1;split at e
   .cases e;obtain⟨p,rfl,z⟩:=v1.shape;obtain⟨p',vs,z',q1,w⟩:=hr.read e1;rw[z]at z';cases z';exact mT pins s σ H _ us Q I rv ⟨p,vs,rfl,.inl ⟨q1,λl hl=>q.tup w hr hl⟩⟩
   .cases e
  .cases e
 |_=>cases e
theorem Mt {p:Pos}(ha:JE G n sc N df m a xa) (h1:("tuple" : Str)∈G.bl:=by decide +kernel) (qN:sc.names.lookup ("tuple" : Str)=some .globalImplicit:=by rfl)
  (hst:∀env:Env,starEach [xa] env=[(false,eval xa env)]:=by intro _;rfl):JE G n sc N df m (.jm a) (.Call (.Name "tuple" p) [xa] [] pos):=λX g=>by
 refine PE.of (t6 (Ed g) (g.gl qN) (g.bl _ h1) (by decide +kernel) (cJ (ha X g) g6 (hst _)) (by decide) (by decide) (hst _) rfl) λs H Q q=>?_;obtain⟨r,fr,h,d,h',sr,hr,e,q⟩:=q;simp only[Ev.ev]at e;obtain⟨x,h3,e1,e⟩:=Ev.ah e;refine⟨r,fr,h,x,_,sr,hr,e1,λv H1 r1 v1 hr1 f1=>?_⟩;exact⟨r1,h3,x,v,d,h',hr1,v1,rfl,e,q.later f1⟩
theorem Mu{c:Nat}{st:Stmt}:JS G n sc N df m (.fk c) st:=λX g=>PS.of DJ λQ s H q=>by
 obtain⟨r,fr,h,fl,aj,h',sr,hr,e,q⟩:=q;simp only[Ev.ex]at e;cases e
theorem Ef{X:Cx}(g:Good G n sc N df X){pins:List (Addr×Obj)}{σ:L2.St}{H:Hp}{s:Shared}{Q:VK}{lo hi:Int}{t u v:Tok}{tk:Nat}(I:Inv X pins σ H s)(h1:-(2 ^ 62)<=lo)(h2:lo<2 ^ 62)(h3:-(2 ^ 62)<=hi)(h4:hi<2 ^ 62)
  (hl:(hi - lo).toNat<=sizeLine) (q:∀l,H l=none->Q (.ref l) (upd H l (.lst ((List.range (hi - lo).toNat).map λi=>V.int (lo+(i:Nat)))))) :
  wpAny (model X.prog X.w) X.A (call (.type "list") [.ref s.heap.objs.size]) (EP X pins σ Q) X.xe { s with heap:=s.heap.push { cls:=.type "range",data:=.fields #[.int lo t,.int hi u,.int 1 v]},toks:=tk }:=by
 have I1:Inv X pins σ H { s with heap:=s.heap.push { cls:=.type "range",data:=.fields #[.int lo t,.int hi u,.int 1 v]},toks:=tk }:=I.kept λb o e=>Heap.get?_push_of_some _ e;have e2:Builtin.Range.rangeSize lo hi 1=(((hi - lo).toNat:Nat):Int):=by rw[rangeSize_one];split<;>omega
 refine call_list_range (n:=(hi - lo).toNat) (I.ok.hd g.calm) (IsRange.new ..) (small_one h1 h2 h3 h4) e2 (by rw[sizeLine_eq]at hl;exact hl) λh' tk' acc' c' hk hS' hacc=>?_;refine⟨.ref _,_,I1.laid (t':=tk') (o:=.lst ((List.range (hi - lo).toNat).map λi=>V.int (lo+(i:Nat)))) hk (Nat.le_refl _) ?_,rfl,q _ (I1.hok.fresh (Nat.le_refl _))⟩;exact⟨by simpa using hl,acc'.toList,c',Av hacc,by simpa using hS'⟩
theorem Eg {e1 e2:E}{p p2 pos2:Pos}(hs:JA G n sc N df m (.cons e1 (.cons e2 .nil)) [xa,xb]) (h1:("list" : Str)∈G.bl:=by decide +kernel) (qN:sc.names.lookup ("list" : Str)=some .globalImplicit:=by rfl)
  (hg:sc.names.lookup ("range" : Str)=some .globalImplicit:=by rfl) (hb:("range" : Str)∈G.bl:=by decide +kernel)
  (hst:∀env:Env,starEach [xa,xb] env=[(false,eval xa env),(false,eval xb env)]:=by intro _;rfl) (lG:∀env:Env,starEach [xb] env=[(false,eval xb env)]:=by intro _;rfl)
  (vL:∀env:Env,starEach [Expr.Call (.Name "range" p2) [xa,xb] [] pos2] env=[(false,eval (Expr.Call (.Name "range" p2) [xa,xb] [] pos2) env)]:=by intro _;rfl) :
  JE G n sc N df m (.eH (.gS (.cons e1 (.cons e2 .nil)))) (.Call (.Name "list" p) [.Call (.Name "range" p2) [xa,xb] [] pos2] [] pos):=λX g=>by
 intro pins s σ H Q I q;obtain⟨r,fr,h,d,h',sr,hr,e,q⟩:=q;simp only[Ev.ev,Ev.b8]at e;replace e:=Ev.ah e;obtain⟨src,h3,e1,e⟩:=e;replace e1:=Ev.ah e1;obtain⟨ds,h4,e2,e1⟩:=e1;replace e1:=Ev.aM e1;obtain⟨e1,y0⟩:=e1;subst y0;refine wpAny_Call_Name_kw (iT I (g.gl qN) (g.bl _ h1) (show bootBuiltins ("list" : Str)=some (.type "list")by decide +kernel) ?_ (by decide) (by decide));refine PyProof.Rows.callWith_type1 ?_ (vL _) rfl;rw[vL];show wpAny _ _ (spliced ((false,eval (Expr.Call (.Name "range" p2) [xa,xb] [] pos2) X.env) :: backTo pos [])) _ _ s;refine Calls.spliced_cons ?_;refine Call_ (iT I (g.gl hg) (g.bl _ hb) boot_range (PyProof.Rows.callWith_type1 (bI ((hs X g) pos2 pins s σ H (λvs H1=>∃r1,aD X.K H1 r1 ds vs/\HR X.K H1 r1 h3/\Fm X.K r r1 H H1) I ⟨r,fr,h,ds,h3,sr,hr,e2,λvs H1 r1 v1 hr1 f1=>⟨r1,v1,hr1,f1⟩⟩) λus s1 z=>?_) (by rw[hst,lG]) (by rw[lG];rfl)))
 .obtain⟨vs,H1,I1,rv,r1,v1,hr1,f1⟩:=z;unfold Ev.er at e1;split at e1
  .exfalso;simp only[Ev.bS]at e2;obtain⟨d,_,_,e2⟩:=Ev.ah e2;obtain⟨d2,_,e3,e2⟩:=Ev.ah e2;obtain⟨d3,_,e4,e3⟩:=Ev.ah e3;simp only[Ev.ak]at e3;cases e3;cases e2
  .rename_i i j;split at e1
   .rename_i hj;cases e1;simp only[aD,RV]at v1;obtain⟨v,w,rfl,rfl,v',w',rfl,rfl,rfl⟩:=v1;cases rv with
    |cons ra rb=>
    cases rb with
    |cons rb rc=>
    cases rc;obtain⟨t,rfl⟩:=ra;obtain⟨u,rfl⟩:=rb;refine call_range_2 ?_;refine Calls.spliced_nil ?_;have hz:(j - i).toNat<=sizeLine:=by
     unfold Ev.alloc at e;split at e
     .rename_i z;rw[<-ja];simpa[Ev.range]using z
     .cases e
    refine Ef g I1 hj.1 hj.2.1 hj.2.2.1 hj.2.2.2 hz λl hl=>?_;exact((q.later f1).lst e (aD.ofRange i (j - i).toNat) hr1).2 l hl
   .cases e1
  .cases e1
end
theorem yJ{X:Cx}{pins:List (Addr×Obj)}{σ:L2.St}{H:Hp}{s:Shared}{h':Heap}{t':Nat}{ch:List Addr}(I:Inv X pins σ H s)(k:∀b o,b∉ch->s.heap.get? b=some o->h'.get? b=some o)(hf:∀b∈ch,gT X pins H b):Inv X pins σ H { s with heap:=h',toks:=t' }:=by
 have Be:∀b u,H b=some u->b∉ch:=λb u e z=>by rw[(hf b z).1]at e;cases e
 refine I.step (g':=s.gens) (d':=s.drawn) (ch:=ch) (λb hb=>?_) (λb o _ _ hc e _=>k b o hc e) (λb o _ _ hc e _=>⟨o.slots,k b o hc e⟩) (λ_ _ _ _ n=>n)
  (λb o hc e=>⟨o,k b o hc e⟩) (λ_ _ e=>e) (λ_ _ _ e=>e) (λb ps e=>⟨#[],by rw[e];simp⟩) (λm hm=>?_) (λb u e=>?_) I.bare
 .obtain⟨f0,f1,f2,f3,f4,f5⟩:=hf b hb;exact⟨f3,f1,f4,f5⟩
 .obtain⟨o,es,ep,ho,r⟩:=hm;exact⟨o,es,ep,k _ o (λz=>(hf _ z).2.1 rfl) ho,r⟩
 .refine(I.hok b u e).stay (λc v hc q=>k c v ?_ q) (λ_ q=>q) λ_ _ q=>q;rcases hc with z|z
  .rw[z];exact Be b u e
  .exact Be c _ z
noncomputable def Sb(K:PySem.W.Frag)(a b:Addr):L2.It:=
  ⟨λi H=>∃xs ys x y,ef K H a xs/\ef K H b ys/\xs[i]?=some x/\ys[i]?=some y,
   λi H x H'=>∃p u v,H p=none/\x=.ref p/\H'=upd H p (.tup [u,v])/\(∀xs,ef K H a xs->xs[i]?=some u)/\∀ys,ef K H b ys->ys[i]?=some v,
   λi H=>∃xs ys,ef K H a xs/\ef K H b ys/\(xs.length<=i\/ys.length<=i)⟩
abbrev Zo(h:Heap)(z TI TO:Addr)(f0:Value)(b:Bool):Prop:=
 h.get? z=some { cls:=.type "zip",dict:=none,data:=.fields #[f0,.bool b,.bool false,.ref TI,.ref TO],slots:=#[]}
noncomputable def Zf(f0:Value):Prop:=f0=.none\/∃T:Addr,f0=rawInt (T:Int)
section
variable{prog:Program}{w:World}{A:Around}{E:Value->Shared->Prop}{s:Shared}
theorem yK{z TI TO:Addr}{f0:Value}{b:Bool}{Q:Bool->Shared->Prop}(hz:Zo s.heap z TI TO f0 b)(hf:Zf f0)
  (q1:Q true s) (q2:∀h',Zo h' z TI TO f0 true->Heap.SameBut z s.heap h'->Q false { s with heap:=h' }) :
  wpAny (model prog w) A (Builtin.SmallTypes.ownedTupleIsFree (.ref z)) Q E s:=by
 unfold Builtin.SmallTypes.ownedTupleIsFree;refine wpAny_bind (wpAny_field hz rfl (x:=f0) rfl ?_);rcases hf with rfl|⟨T,rfl⟩
 .exact wpAny_pure q1
 .show wpAny _ _ (loadIfAlive _ >>= _) _ _ _;refine wpAny_bind (show wpAny _ _ (loadIfAlive _) _ _ _ from λ_ _ _=>(?_:wpAny _ _ (if (Option.isNone (s.heap.get? ((T:Int).toNat)))=true then _ else _) Q E s));cases s.heap.get? ((T:Int).toNat)with
  |none=>exact wpAny_pure q1
  |some o=>
   simp only[Option.isNone_some,Bool.false_eq_true,if_false];refine wpAny_bind (wpAny_field hz rfl (x:=.bool b) rfl ?_);cases b with
   |true=>
    rw[if_neg (show ¬ ((Value.bool true != Value.bool true)=true)from Bool.false_ne_true)];exact wpAny_pure (q2 _ hz (Heap.SameBut.refl _ _))
   |false=>
    rw[if_pos (show(Value.bool false != Value.bool true)=true from rfl)];exact wpAny_bind (wpAny_setField_rec hz (by simp) λh' a1 a2=>wpAny_pure (q2 h' a1 a2))
theorem IQ{z TI TO i1 i2 l1 l2:Addr}{k1 k2:Nat}{xs ys:Array Value}{x y a b f0:Value}{f1:Bool}{Q:Value->Shared->Prop}(D:ZipApart z TI TO i1 i2 l1 l2)(hz:Zo s.heap z TI TO f0 f1)(hf:Zf f0)
  (hTI:IsPair s.heap TI (.ref i1) (.ref i2)) (hTO:IsPair s.heap TO a b)
  (h1:s.heap.IsListIter i1 l1 k1) (h2:s.heap.IsListIter i2 l2 k2) (hl1:s.heap.IsList l1 xs) (hl2:s.heap.IsList l2 ys) (hx:xs[k1]?=some x) (hy:ys[k2]?=some y)
  (hQ:∀h' f0 f1,Zo h' z TI TO f0 f1->Zf f0->(∃a b,IsPair h' TO a b)->h'.IsListIter i1 l1 (k1+1)->h'.IsListIter i2 l2 (k2+1)->IsPair h' s.heap.objs.size x y->
   (∀c o,c≠z->c≠TO->c≠i1->c≠i2->s.heap.get? c=some o->h'.get? c=some o)->Q (.ref s.heap.objs.size) { s with heap:=h' }) :
  wpAny (model prog w) A (Builtin.«zip.__next__» ⟨[.ref z],[]⟩) (λfin s'=>∃v,fin=.done (.ret v)/\Q v s') E s:=by
 show wpAny _ _ (field (.ref z) 2 >>= _) _ _ _;refine wpAny_bind (wpAny_field hz rfl (x:=.bool false) rfl ?_);show wpAny _ _ (field (.ref z) 3 >>= _) _ _ _;refine wpAny_bind (wpAny_field hz rfl (x:=.ref TI) rfl ?_);refine wpAny_bind (wpAny_seqItems hTI rfl ?_);show wpAny _ _ (Builtin.SmallTypes.ownedTupleIsFree (.ref z) >>= _) _ _ _;refine wpAny_bind (yK hz hf ?_ λg hz1 hs1=>?_)
 .rw[if_pos rfl];refine wpAny_bind (wpAny_rule ?_);refine wpAny_bind (wpAny_field hz rfl (x:=.ref TO) rfl ?_);refine wpAny_bind (wpAny_setField_rec hz (by simp) λg1 z1 e1=>?_);replace z1:Zo g1 z TI TO .ellipsis f1:=z1;refine wpAny_bind ?_;simp only[List.zipIdx_cons,List.zipIdx_nil,List.forIn_cons,List.forIn_nil];refine wpAny_bind (wpAny_bind (wpAny_onRaise ?_));show wpAny _ _ (Builtin.SmallTypes.nextOf (.ref i1) >>= _) _ _ _;refine wpAny_bind (wpAny_nextOf_list_item (h1.extBut e1.extBut D.i1z) (hl1.extBut e1.extBut D.l1z) hx λg2 c2 e2=>wpAny_pure ?_);have p2:IsPair g2 TO a b:=e2.extBut _ _ D.TOi1 (e1.extBut _ _ D.TOz hTO);refine wpAny_bind (wpAny_seqItems p2 rfl ?_);refine wpAny_bind (wpAny_updateSeq_pair p2 λg3 p3 e3=>?_);replace p3:IsPair g3 TO x b:=p3;refine wpAny_bind (wpAny_letGo (wpAny_pure ?_));refine wpAny_bind (wpAny_bind (wpAny_onRaise ?_));show wpAny _ _ (Builtin.SmallTypes.nextOf (.ref i2) >>= _) _ _ _;refine wpAny_bind (wpAny_nextOf_list_item (((h2.extBut e1.extBut D.i2z).extBut e2.extBut D.i12.symm).extBut e3.extBut D.TOi2.symm) (((hl2.extBut e1.extBut D.l2z).extBut e2.extBut D.l2i1).extBut e3.extBut D.l2TO) hy λg4 c4 e4=>wpAny_pure ?_);have p4:IsPair g4 TO x b:=e4.extBut _ _ D.TOi2 p3;refine wpAny_bind (wpAny_seqItems p4 rfl ?_);refine wpAny_bind (wpAny_updateSeq_pair p4 λg5 p5 e5=>?_);replace p5:IsPair g5 TO x y:=p5;refine wpAny_bind (wpAny_letGo (wpAny_pure (wpAny_pure ?_)));refine wpAny_bind (wpAny_seqItems p5 rfl ?_);refine wpAny_bind (wpAny_newTuple ?_);have sz:g5.objs.size=s.heap.objs.size:=by rw[e5.1,e4.1,e3.1,e2.1,e1.1]
  have z5:Zo g5 z TI TO .ellipsis f1:=e5.extBut _ _ D.TOz.symm (e4.extBut _ _ D.i2z.symm (e3.extBut _ _ D.TOz.symm (e2.extBut _ _ D.i1z.symm z1)));have k5:∀c o,c≠z->c≠TO->c≠i1->c≠i2->s.heap.get? c=some o->g5.get? c=some o:=λc o c1 c2 c3 c4 e=>e5.extBut _ _ c2 (e4.extBut _ _ c4 (e3.extBut _ _ c2 (e2.extBut _ _ c3 (e1.extBut _ _ c1 e))));have u1:g5.IsListIter i1 l1 (k1+1):=((c2.extBut e3.extBut D.TOi1.symm).extBut e4.extBut D.i12).extBut e5.extBut D.TOi1.symm;have u2:g5.IsListIter i2 l2 (k2+1):=c4.extBut e5.extBut D.TOi2.symm;have lz:z<g5.objs.size:=Heap.lt_size z5;show wpAny _ _ (Builtin.SmallTypes.ownedTupleHandOut (.ref z) (.ref g5.objs.size) >>= _) _ _ _;refine wpAny_bind ?_;unfold Builtin.SmallTypes.ownedTupleHandOut;have z6:Zo (g5.push { cls:=.type "tuple",data:=.seq #[x,y]}) z TI TO .ellipsis f1:=Heap.get?_push_of_some _ z5;refine wpAny_bind (wpAny_setField_rec z6 (by simp) λg7 z7 e7=>?_);replace z7:Zo g7 z TI TO (rawInt g5.objs.size) f1:=z7;refine wpAny_setField_rec z7 (by simp) λg8 z8 e8=>?_;replace z8:Zo g8 z TI TO (rawInt g5.objs.size) false:=z8;have up:∀c o,c≠z->g5.get? c=some o->g8.get? c=some o:=λc o c1 e=>e8.extBut _ _ c1 (e7.extBut _ _ c1 (Heap.get?_push_of_some _ e));have t8:IsPair g8 g5.objs.size x y:=e8.extBut _ _ (Nat.ne_of_gt lz) (e7.extBut _ _ (Nat.ne_of_gt lz) (Heap.get?_push_size _ rfl));rw[sz]at z8 t8;refine wpAny_pure ⟨_,rfl,?_⟩;show Q (.ref g5.objs.size) _;rw[sz];exact hQ g8 _ _ z8 (.inr ⟨_,rfl⟩) ⟨_,_,up _ _ D.TOz p5⟩ (u1.at λo e=>up _ o D.i1z e) (u2.at λo e=>up _ o D.i2z e) t8 λc o c1 c2 c3 c4 e=>up c o c1 (k5 c o c1 c2 c3 c4 e)
 .rw[if_neg Bool.false_ne_true];simp only[];refine wpAny_bind ?_;rw[<-Array.forIn_toList];simp only[List.forIn_cons,List.forIn_nil];refine wpAny_bind (wpAny_bind (wpAny_holding ?_));show wpAny _ _ (Builtin.SmallTypes.nextOf (.ref i1) >>= _) _ _ _;refine wpAny_bind (wpAny_nextOf_list_item (h1.extBut hs1.extBut D.i1z) (hl1.extBut hs1.extBut D.l1z) hx λg2 c2 e2=>wpAny_pure (wpAny_pure ?_));refine wpAny_bind (wpAny_bind (wpAny_holding ?_));show wpAny _ _ (Builtin.SmallTypes.nextOf (.ref i2) >>= _) _ _ _;refine wpAny_bind (wpAny_nextOf_list_item ((h2.extBut hs1.extBut D.i2z).extBut e2.extBut D.i12.symm) ((hl2.extBut hs1.extBut D.l2z).extBut e2.extBut D.l2i1) hy λg4 c4 e4=>wpAny_pure (wpAny_pure (wpAny_pure ?_)));show wpAny _ _ (newTuple [x,y] >>= _) _ _ _;refine wpAny_bind (wpAny_newTuple ?_);have sz:g4.objs.size=s.heap.objs.size:=by rw[e4.1,e2.1,hs1.1]
  have k4:∀c o,c≠z->c≠i1->c≠i2->s.heap.get? c=some o->g4.get? c=some o:=λc o c1 c3 c4 e=>e4.extBut _ _ c4 (e2.extBut _ _ c3 (hs1.extBut _ _ c1 e));refine wpAny_pure ⟨_,rfl,?_⟩;show Q (.ref g4.objs.size) _;rw[sz];have up:∀c o,g4.get? c=some o->(g4.push { cls:=.type "tuple",data:=.seq #[x,y]}).get? c=some o:=λc o e=>Heap.get?_push_of_some _ e;refine hQ _ _ _ (up _ _ (e4.extBut _ _ D.i2z.symm (e2.extBut _ _ D.i1z.symm hz1))) hf ⟨_,_,up _ _ (k4 _ _ D.TOz D.TOi1 D.TOi2 hTO)⟩ ((c2.extBut e4.extBut D.i12).at λo e=>up _ o e) (c4.at λo e=>up _ o e) ?_ λc o c1 _ c3 c4 e=>up c o (k4 c o c1 c3 c4 e);rw[<-sz];exact Heap.get?_push_size _ rfl
theorem Mv{z TI TO i1 i2 l1 l2:Addr}{k1 k2:Nat}{xs ys:Array Value}{a b f0:Value}{f1:Bool}{Q:PySem.Fin->Shared->Prop}(hh:A.handled=none)(D:ZipApart z TI TO i1 i2 l1 l2)(hz:Zo s.heap z TI TO f0 f1)(hf:Zf f0)
  (hTI:IsPair s.heap TI (.ref i1) (.ref i2)) (hTO:IsPair s.heap TO a b)
  (h1:s.heap.IsListIter i1 l1 k1) (h2:s.heap.IsListIter i2 l2 k2) (hl1:s.heap.IsList l1 xs) (hl2:s.heap.IsList l2 ys) (hend:xs[k1]?=none\/ys[k2]?=none)
  (hE:∀h' e,(∀c o,c≠z->c≠TO->c≠i1->c≠i2->s.heap.get? c=some o->h'.get? c=some o)->(∃o,h'.get? e=some o/\o.cls=.type "StopIteration")->E (.ref e) { s with heap:=h' }) :
  wpAny (model prog w) A (Builtin.«zip.__next__» ⟨[.ref z],[]⟩) Q E s:=by
 show wpAny _ _ (field (.ref z) 2 >>= _) _ _ _;refine wpAny_bind (wpAny_field hz rfl (x:=.bool false) rfl ?_);show wpAny _ _ (field (.ref z) 3 >>= _) _ _ _;refine wpAny_bind (wpAny_field hz rfl (x:=.ref TI) rfl ?_);refine wpAny_bind (wpAny_seqItems hTI rfl ?_);show wpAny _ _ (Builtin.SmallTypes.ownedTupleIsFree (.ref z) >>= _) _ _ _;refine wpAny_bind (yK hz hf ?_ λg hz1 hs1=>?_)
 .rw[if_pos rfl];refine wpAny_bind (wpAny_rule ?_);refine wpAny_bind (wpAny_field hz rfl (x:=.ref TO) rfl ?_);refine wpAny_bind (wpAny_setField_rec hz (by simp) λg1 z1 e1=>?_);replace z1:Zo g1 z TI TO .ellipsis f1:=z1;refine wpAny_bind ?_;simp only[List.zipIdx_cons,List.zipIdx_nil,List.forIn_cons,List.forIn_nil];refine wpAny_bind (wpAny_bind (wpAny_onRaise ?_));show wpAny _ _ (Builtin.SmallTypes.nextOf (.ref i1) >>= _) _ _ _;cases hx:xs[k1]? with
  |none=>
   refine wpAny_bind (wpAny_nextOf_list_end hh (h1.extBut e1.extBut D.i1z) (hl1.extBut e1.extBut D.l1z) hx λg2 e e2 he=>?_);obtain⟨oe,vM,hce⟩:=he;have z2:Zo g2 z TI TO .ellipsis f1:=e2 _ _ D.i1z.symm z1;have ez:e≠z:=λx=>by subst x;rw[z2]at vM;cases vM;simp at hce
   exact wpAny_setField_rec z2 (by simp) λg3 _ e3=>hE g3 e (λc o c1 _ c3 _ x=>e3.extBut _ _ c1 (e2 _ _ c3 (e1.extBut _ _ c1 x))) ⟨oe,e3.extBut _ _ ez vM,hce⟩
  |some x=>
   have hy:ys[k2]?=none:=by rcases hend with h|h;rw[hx]at h;cases h;exact h
   refine wpAny_bind (wpAny_nextOf_list_item (h1.extBut e1.extBut D.i1z) (hl1.extBut e1.extBut D.l1z) hx λg2 c2 e2=>wpAny_pure ?_);have p2:IsPair g2 TO a b:=e2.extBut _ _ D.TOi1 (e1.extBut _ _ D.TOz hTO);refine wpAny_bind (wpAny_seqItems p2 rfl ?_);refine wpAny_bind (wpAny_updateSeq_pair p2 λg3 p3 e3=>?_);refine wpAny_bind (wpAny_letGo (wpAny_pure ?_));refine wpAny_bind (wpAny_bind (wpAny_onRaise ?_));show wpAny _ _ (Builtin.SmallTypes.nextOf (.ref i2) >>= _) _ _ _;refine wpAny_bind (wpAny_nextOf_list_end hh (((h2.extBut e1.extBut D.i2z).extBut e2.extBut D.i12.symm).extBut e3.extBut D.TOi2.symm) (((hl2.extBut e1.extBut D.l2z).extBut e2.extBut D.l2i1).extBut e3.extBut D.l2TO) hy λg4 e e4 he=>?_);obtain⟨oe,vM,hce⟩:=he;have z4:Zo g4 z TI TO .ellipsis f1:=e4 _ _ D.i2z.symm (e3.extBut _ _ D.TOz.symm (e2.extBut _ _ D.i1z.symm z1));have ez:e≠z:=λx=>by subst x;rw[z4]at vM;cases vM;simp at hce
   exact wpAny_setField_rec z4 (by simp) λg5 _ e5=>hE g5 e (λc o c1 c2 c3 c4 x=>e5.extBut _ _ c1 (e4 _ _ c4 (e3.extBut _ _ c2 (e2.extBut _ _ c3 (e1.extBut _ _ c1 x))))) ⟨oe,e5.extBut _ _ ez vM,hce⟩
 .rw[if_neg Bool.false_ne_true];simp only[];refine wpAny_bind ?_;rw[<-Array.forIn_toList];simp only[List.forIn_cons,List.forIn_nil];refine wpAny_bind (wpAny_bind (wpAny_holding ?_));show wpAny _ _ (Builtin.SmallTypes.nextOf (.ref i1) >>= _) _ _ _;cases hx:xs[k1]? with
  |none=>
   refine wpAny_bind (wpAny_nextOf_list_end hh (h1.extBut hs1.extBut D.i1z) (hl1.extBut hs1.extBut D.l1z) hx λg2 e e2 he=>?_);exact hE g2 e (λc o c1 _ c3 _ x=>e2 _ _ c3 (hs1.extBut _ _ c1 x)) he
  |some x=>
   have hy:ys[k2]?=none:=by rcases hend with h|h;rw[hx]at h;cases h;exact h
   refine wpAny_bind (wpAny_nextOf_list_item (h1.extBut hs1.extBut D.i1z) (hl1.extBut hs1.extBut D.l1z) hx λg2 c2 e2=>wpAny_pure (wpAny_pure ?_));refine wpAny_bind (wpAny_bind (wpAny_holding ?_));show wpAny _ _ (Builtin.SmallTypes.nextOf (.ref i2) >>= _) _ _ _;refine wpAny_bind (wpAny_nextOf_list_end hh ((h2.extBut hs1.extBut D.i2z).extBut e2.extBut D.i12.symm) ((hl2.extBut hs1.extBut D.l2z).extBut e2.extBut D.l2i1) hy λg4 e e4 he=>?_);exact hE g4 e (λc o c1 _ c3 c4 x=>e4 _ _ c4 (e2.extBut _ _ c3 (hs1.extBut _ _ c1 x))) he
theorem P4{z TI TO T:Addr}{f0:Value}{f1:Bool}{tg:Expr}{Q:Unit->Shared->Prop}(hz:Zo s.heap z TI TO f0 f1)(hf:Zf f0)(hQ:∀h' f0,Zo h' z TI TO f0 f1->Zf f0->Heap.SameBut z s.heap h'->Q () { s with heap:=h' }) :
    wpAny (model prog w) A (letOwnedTupleGo tg (.ref z) (.ref T)) Q E s:=by
  have q0:Q () s:=hQ _ _ hz hf (Heap.SameBut.refl _ _);unfold letOwnedTupleGo;cases tg<;>first
    |exact wpAny_pure q0
    | (refine wpAny_bind (wpAny_load hz ?_)
       show wpAny _ _ (ite _ _ _) _ _ _;split
       . exact wpAny_bind (wpAny_rule (wpAny_setField_rec hz (by simp) λh' a1 a2=>hQ h' _ a1 (.inl rfl) a2))
       . exact wpAny_pure q0)
end
theorem IS{prog:Program}{w:World}{A:Around}{E:Value->Shared->Prop}{s:Shared}{z TI TO:Addr}{f0:Value}{f1:Bool}{Q:Value->Shared->Prop}(hz:Zo s.heap z TI TO f0 f1)(h:Q (.ref z) s):wpAny (model prog w) A (pyIter (.ref z)) Q E s:=by
 have hT:s.TypeIs (.ref z) "zip" :=⟨_,hz,rfl⟩
 refine wpAny_pyIter_slot hT F.slot_zip_iter (wpAny_call_entry F.slot_zip_iter hT F.entry_zip_iter ?_ (F.args_zip_iter_1 _));exact wpAny_pure ⟨_,rfl,"zip",_,hT,F.slot_zip_next.lookup,h⟩
theorem Eh{P:Program}{w:World}{K:PySem.W.Frag}{tg:Expr}{l1 l2 z TI TO i1 i2:Addr}(D:ZipApart z TI TO i1 i2 l1 l2) :
  Turn P w K tg (Sb K l1 l2) [z,TI,TO,i1,i2] z (λi h=>(∃f0 f1,Zo h z TI TO f0 f1/\Zf f0)/\IsPair h TI (.ref i1) (.ref i2)/\(∃a b,IsPair h TO a b)/\h.IsListIter i1 l1 i/\h.IsListIter i2 l2 i) where
 mem:=by simp
 obj:=λi h st b hb=>by
  obtain⟨⟨f0,f1,s1,s6⟩,s2,⟨u,v,s3⟩,s4,s5⟩:=st;simp only[List.mem_cons,List.mem_nil_iff,or_false]at hb;rcases hb with rfl|rfl|rfl|rfl|rfl
  .exact⟨_,s1,λv z=>by have z':Data.fields _=Data.cell v:=z;cases z'⟩
  .exact⟨_,s2,λv z=>by have z':Data.seq _ _=Data.cell v:=z;cases z'⟩
  .exact⟨_,s3,λv z=>by have z':Data.seq _ _=Data.cell v:=z;cases z'⟩
  .obtain⟨o,e,c,d⟩:=s4;exact⟨o,e,λv z=>by rw[d]at z;cases z⟩
  .obtain⟨o,e,c,d⟩:=s5;exact⟨o,e,λv z=>by rw[d]at z;cases z⟩
 keep:=λi h h' st k=>by
  obtain⟨⟨f0,f1,s1,s6⟩,s2,⟨u,v,s3⟩,s4,s5⟩:=st;exact⟨⟨_,_,k z (by simp) _ s1,s6⟩,k TI (by simp) _ s2,⟨u,v,k TO (by simp) _ s3⟩,s4.at λo e=>k i1 (by simp) o e,s5.at λo e=>k i2 (by simp) o e⟩
 item:=by
  intro X hP hw hK hc i pins s σ H E I hf st hg;subst hP hw hK;obtain⟨⟨f0,f1,s1,s6⟩,s2,⟨u0,v0,s3⟩,s4,s5⟩:=st;obtain⟨xs,ys,x,y,hx,hy,ex,ey⟩:=hg;obtain⟨xt,rx,px,_⟩:=I.list hx;obtain⟨yt,ry,py,_⟩:=I.list hy;obtain⟨u,hu,ru⟩:=rx.get ex;obtain⟨v,hv,rv⟩:=ry.get ey;have hTy:s.TypeIs (.ref z) "zip" :=⟨_,s1,rfl⟩
  unfold pyNext;refine wpAny_bind (wpAny_attempt (wpAny_callSpecial?_slot (name:=Str.ofString "__next__") hTy F.slot_zip_next (wpAny_call_entry F.slot_zip_next hTy F.entry_zip_next
   (IQ D s1 s6 s2 s3 s4 s5 px.isList py.isList (x:=u) (y:=v) (by simpa using hu) (by simpa using hv) λh' f0 f1 a1 a6 a2 a3 a4 a5 hk=>wpAny_pure ?_) (F.args_zip_next_1 _))))
  refine⟨_,rfl,P4 (s:={ s with heap:=h' }) a1 a6 λh'' f0 b1 b3 b2=>?_⟩;have lt:∀{c o},s.heap.get? c=some o->c≠s.heap.objs.size:=λe=>Nat.ne_of_lt (Heap.lt_size e);have hT:H s.heap.objs.size=none:=I.hok.fresh (Nat.le_refl _);have zT:s.heap.objs.size≠z:=Ne.symm (lt s1);have I0:Inv X pins σ (upd H s.heap.objs.size (.tup [x,y])) { s with heap:=s.heap.push { cls:=.type "tuple",data:=.seq #[u,v]},toks:=s.toks }:=
   I.laid (λb o e=>Heap.get?_push_of_some _ e) (Nat.le_refl _) ⟨by show 2<=sizeLine;decide,[u,v],.cons ru (.cons rv .nil),⟨_,Heap.get?_push_size _ rfl,rfl,_,rfl⟩⟩
  have ne:∀b∈[z,TI,TO,i1,i2],b≠s.heap.objs.size:=λb hb=>by
   simp only[List.mem_cons,List.mem_nil_iff,or_false]at hb;rcases hb with rfl|rfl|rfl|rfl|rfl
   .exact lt s1
   .exact lt s2
   .exact lt s3
   .obtain⟨o,e,_⟩:=s4;exact lt e
   .obtain⟨o,e,_⟩:=s5;exact lt e
  have fp:∀b∈[z,TI,TO,i1,i2],gT X pins (upd H s.heap.objs.size (.tup [x,y])) b:=λb hb=>⟨by rw[bx (ne b hb)];exact(hf b hb).1,(hf b hb).2⟩
  have I1:Inv X pins σ (upd H s.heap.objs.size (.tup [x,y])) { s with heap:=h'',toks:=s.toks }:=by
   refine yJ (s:={ s with heap:=s.heap.push { cls:=.type "tuple",data:=.seq #[u,v]},toks:=s.toks }) (ch:=[z,TI,TO,i1,i2]) I0 (λb o hb e=>?_) fp;simp only[List.mem_cons,List.mem_nil_iff,or_false,not_or]at hb;refine b2.extBut _ _ hb.1 ?_;by_cases hT:b=s.heap.objs.size
   .subst hT;have e':(s.heap.push { cls:=.type "tuple",data:=.seq #[u,v]}).get? s.heap.objs.size=some o:=e;rw[Heap.get?_push_size _ rfl]at e';cases e';exact a5
   .refine hk b o hb.1 hb.2.2.1 hb.2.2.2.1 hb.2.2.2.2 ?_;have e':(s.heap.push { cls:=.type "tuple",data:=.seq #[u,v]}).get? b=some o:=e;rw[Heap.get?_push_ne _ _ _ hT]at e';exact e'
  refine⟨.ref s.heap.objs.size,_,I1,rfl,⟨s.heap.objs.size,x,y,hT,rfl,rfl,λxs' h=>by rw[I.qc h hx];exact ex,λys' h=>by rw[I.qc h hy];exact ey⟩,?_,λb hb=>(fp b hb).1⟩;exact⟨⟨_,_,b1,b3⟩,b2.extBut _ _ D.TIz (hk _ _ D.TIz D.TITO D.TIi1 D.TIi2 s2),a2.imp λ_ z=>z.imp λ_ z=>b2.extBut _ _ D.TOz z,a3.extBut b2.extBut D.i1z,a4.extBut b2.extBut D.i2z⟩
 done:=by
  intro X hP hw hK hc i pins s σ H E I hf st hg;subst hP hw hK;obtain⟨⟨f0,f1,s1,s6⟩,s2,⟨u0,v0,s3⟩,s4,s5⟩:=st;obtain⟨xs,ys,hx,hy,hl⟩:=hg;obtain⟨xt,rx,px,_⟩:=I.list hx;obtain⟨yt,ry,py,_⟩:=I.list hy;have hl1:=rx.length;have hl2:=ry.length;have hTy:s.TypeIs (.ref z) "zip" :=⟨_,s1,rfl⟩
  unfold pyNext;refine wpAny_bind (wpAny_attempt (wpAny_callSpecial?_slot (name:=Str.ofString "__next__") hTy F.slot_zip_next (wpAny_call_entry F.slot_zip_next hTy F.entry_zip_next
   (Mv (I.ok.hd hc) D s1 s6 s2 s3 s4 s5 px.isList py.isList (hl.imp (λz=>by simp;omega) λz=>by simp;omega) λh' e hk he=>?_) (F.args_zip_next_1 _))))
  obtain⟨o,ho,hc⟩:=he;refine wpAny_bind (wpAny_isInstance (T:="StopIteration") (b:=true) ⟨o,ho,hc⟩ isSubtype_stop (wpAny_pure ⟨rfl,?_⟩));refine yJ (ch:=[z,TI,TO,i1,i2]) (t':=s.toks) I (λb o hb e=>?_) hf;simp only[List.mem_cons,List.mem_nil_iff,or_false,not_or]at hb;exact hk b o hb.1 hb.2.2.1 hb.2.2.2.1 hb.2.2.2.2 e
 self:=λ_ _ _ _ _ st h=>by obtain⟨f0,f1,s1,_⟩:=st.1;exact IS s1 h
end Sm
set_option maxRecDepth 100000
namespace Sm
open PySem PySem.Spec PyProof.Rows L2 PySem.SeqAt
open Ev (D O Hh Fr R aI E Es Eo T S Ss Fl Src bF bu TY BI ME)
theorem B7{h:Hh}{a b:List (Nat×List D)}(e:Ev.stays h (a++b)=true):Ev.stays h a=true/\Ev.stays h b=true:=by
 induction a with
 |nil=>exact⟨rfl,e⟩
 |cons p a ih=>
  obtain⟨n,ds⟩:=p;simp only[List.cons_append,Ev.stays,Bool.and_eq_true]at e ⊢;exact⟨⟨e.1,(ih e.2).1⟩,(ih e.2).2⟩
theorem zip_get{a b:List D}{i:Nat}{d:D}(e:(Ev.eB a b)[i]?=some d):∃x y,a[i]?=some x/\b[i]?=some y/\d=.tup [x,y]:=by
 unfold Ev.eB at e;rw[List.getElem?_zipWith]at e;split at e
 .rename_i x y h1 h2;cases e;exact⟨x,y,h1,h2,rfl⟩
 .cases e
theorem Mw{K:PySem.W.Frag}{r:List Addr}{H:Hp}{h:Hh}{n1 n2:Nat}{a1 a2:Addr}{ds es:List D}(z1:r[n1]?=some a1)(z2:r[n2]?=some a2):qh K r H (Ev.eB ds es,[(n1,ds)]++[(n2,es)]) (Sb K a1 a2):=λi H1 r1 h1 hr1 f1 st=>by
 obtain⟨st1,st2⟩:=B7 st;obtain⟨b1,vs,e1,e2,e3⟩:=hr1.read (nH st1);rw[f1.pre _ _ z1]at e1;cases e1;obtain⟨b2,ws,g1,g2,g3⟩:=hr1.read (nH st2);rw[f1.pre _ _ z2]at g1;cases g1;refine⟨λd e=>?_,λhl=>?_⟩
 .obtain⟨x,y,k1,k2,rfl⟩:=zip_get e;obtain⟨u,p1,p2⟩:=e3.get k1;obtain⟨v,q1,q2⟩:=g3.get k2;refine⟨⟨vs,ws,u,v,e2,g2,p1,q1⟩,λX H2 y=>?_⟩;obtain⟨p,u',v',hp,rfl,rfl,hu,hv⟩:=y;have Sd:=hu vs e2;rw[p1]at Sd;cases Sd;have hv':=hv ws g2;rw[q1]at hv';cases hv';exact⟨r1,⟨p,[u,v],rfl,.of cW,.cons (p2.mono (.tup hp)) (.cons (q2.mono (.tup hp)) .nil)⟩,hr1.tup hp,.tup hp⟩
 .refine⟨vs,ws,e2,g2,?_⟩;have:=e3.length;have:=g3.length;have hl':(Ev.eB ds es).length<=i:=hl;simp only[Ev.eB,List.length_zipWith]at hl';omega
section
variable{G:Tb}{n:Nat}{sc:Scope}{N:List Str}{df:Bool}{m:List Nat}{a b c:E}{xa xb xc:Expr}{pos:Pos}
theorem Mx {tg:Expr}{p:Pos}(ha:JE G n sc N df m a xa) (hb:JE G n sc N df m b xb) (hg:sc.names.lookup ("zip" : Str)=some .globalImplicit:=by rfl) (Se:("zip" : Str)∈G.bl:=by decide +kernel)
  (hst:∀env:Env,starEach [xa,xb] env=[(false,eval xa env),(false,eval xb env)]:=by intro _;rfl) (lG:∀env:Env,starEach [xb] env=[(false,eval xb env)]:=by intro _;rfl) :
  JI G n sc N df m (.zip a b) tg (.Call (.Name "zip" p) [xa,xb] [] pos):=λX g=>by
 intro pins s σ H Rr I q;obtain⟨r,fr,h,src,h',sr,hr,e,q⟩:=q;simp only[Ev.b8]at e;replace e:=Ev.ah e;obtain⟨x,h1,e1,e⟩:=e;replace e:=Ev.ah e;obtain⟨y,h2,e2,e⟩:=e;replace e:=Ev.aM e;obtain⟨e,y0⟩:=e;subst y0;have My:PA X [xa,xb] _:=cJ (ha X g) (cJ (hb X g) g6 (lG _)) (by rw[hst,lG]);refine Call_ (iT I (g.gl hg) (g.bl _ Se) (show bootBuiltins ("zip" : Str)=some (.type "zip")by decide +kernel) (PyProof.Rows.callWith_type1 (bI (My pos pins s σ H (λvs H1=>∃r1 u v,vs=[u,v]/\RV X.K H1 r1 x u/\RV X.K H1 r1 y v/\HR X.K H1 r1 h'/\Fm X.K r r1 H H1) I ?_) λus s1 z=>?_) (by rw[hst,lG]) (by rw[lG];rfl)))
 .refine⟨r,fr,h,x,h1,sr,hr,e1,λu H1 r1 v1 hr1 f1=>?_⟩;refine⟨r1,fr,h1,y,h',sr.mono f1,hr1,e2,λv H2 r2 v2 hr2 f2=>?_⟩;exact⟨r2,u,v,rfl,v1.mono f2,v2,hr2,f1.trans f2⟩
 .obtain⟨vs,H1,I1,rv,r1,u,v,rfl,v1,v2,hr1,f1⟩:=z;simp only[Option.bind_eq_some_iff,Option.map_eq_some_iff]at e;obtain⟨s1',k1,s2',k2,rfl⟩:=e;cases x<;>simp only[Ev.qe,reduceCtorEq,Option.map_eq_some_iff]at k1
  rename_i n1;obtain⟨ds,k1,rfl⟩:=k1;cases y<;>simp only[Ev.qe,reduceCtorEq,Option.map_eq_some_iff]at k2
  rename_i n2;obtain⟨es,k2,rfl⟩:=k2;obtain⟨a1,rfl,z1⟩:=v1.shape;obtain⟨a2,rfl,z2⟩:=v2.shape;obtain⟨b1,xs,w1,w2,w3⟩:=hr1.read k1;rw[z1]at w1;cases w1;obtain⟨b2,ys,w4,w5,w6⟩:=hr1.read k2;rw[z2]at w4;cases w4;cases rv with
  |cons ra rb=>
  cases rb with
  |cons rb rc=>
  cases rc;cases ra;cases rb;obtain⟨xt,_,px,_⟩:=I1.list w2;obtain⟨yt,_,py,_⟩:=I1.list w5;refine call_zip_2 px.isList py.isList λhp c1 c2 c3 c4 c5 c6 c7=>?_;have I2:Inv X pins σ H1 { s1 with heap:=hp,toks:=s1.toks }:=I1.kept c7;have l1:a1<s1.heap.objs.size:=by obtain⟨o,e,_⟩:=px.isList;exact Heap.lt_size e
  have l2:a2<s1.heap.objs.size:=by obtain⟨o,e,_⟩:=py.isList;exact Heap.lt_size e
  refine wpAny_pyIter_zip c1 ⟨_,[s1.heap.objs.size+4,s1.heap.objs.size+2,s1.heap.objs.size+3,s1.heap.objs.size,s1.heap.objs.size+1],_,_,H1,rfl,I2,Eh ?_,⟨⟨_,_,c1,.inl rfl⟩,c2,⟨_,_,c3⟩,c4,c5⟩,λb hb=>?_,q _ H1 r1 hr1 f1 (Mw (h:=h') z1 z2)⟩
  .constructor <;> (intro z;have z2:@Eq Nat _ _:=z;have XH:@LT.lt Nat _ a1 s1.heap.objs.size:=l1;have XJ:@LT.lt Nat _ a2 s1.heap.objs.size:=l2;omega)
  .have hb':s1.heap.objs.size<=b:=by
    simp only[List.mem_cons,List.mem_nil_iff,or_false]at hb;rcases hb with rfl|rfl|rfl|rfl|rfl
    .exact Nat.le_add_right _ _
    .exact Nat.le_add_right _ _
    .exact Nat.le_add_right _ _
    .exact Nat.le_refl _
    .exact Nat.le_add_right _ _
   exact I1.zM hb' (I1.hok.fresh hb')
end
end Sm
set_option maxRecDepth 100000
namespace Sm
open PySem PySem.Spec PyProof.Rows L2 PySem.SeqAt
open Ev (D O Hh Fr R aI E Es Eo T S Ss Fl Src bF bu TY BI ME)
section
variable{G:Tb}{n:Nat}{sc:Scope}{N:List Str}{df:Bool}{m:List Nat}{a b c:E}{xa xb xc:Expr}{pos:Pos}
end
end Sm
set_option maxRecDepth 100000
namespace Sm
open PySem PySem.Spec PyProof.Rows L2 PySem.SeqAt
open Ev (D O Hh Fr R aI E Es Eo T S Ss Fl Src bF bu TY BI ME)
section
variable{X:Cx}{G:Tb}{n:Nat}{sc:Scope}{N:List Str}{df:Bool}{m:List Nat}{a b c:E}{xa xb xc xd tg:Expr}{pos:Pos}
end
end Sm
set_option maxRecDepth 100000
namespace Rv
open PySem PyProof.Rows
theorem nJ:Manifest.owners.lookup (String.ofList ['d','e','s','r','e','v','e','r'].reverse)=some Manifest.sig_reversed:=by kernel_rfl
theorem slot_next:Slot "reversed" "__next__" "reversed.__next__" :=
 .of (owner:="reversed") (n:="__next__") (by rw[typeLookup_type,builtinLookup_eq_fast];kernel_rfl) (by decide +kernel) (by decide +kernel) (by decide +kernel)
  (by first|exact .inl (by decide +kernel)|exact .inr (by decide +kernel)) (by rw[isSubtype_type];kernel_rfl)
theorem entry_next:entryFor table "reversed.__next__" = some Builtin.«reversed.__next__»:=entryFor_of_tree (by kernel_rfl)
theorem args_next (a:Value):argsOk "reversed.__next__" ⟨[a],[]⟩:=by
 unfold argsOk;rw[signature?_of (id:="reversed.__next__") (n:=['_','_','t','x','e','n','_','_']) (o:=['d','e','s','r','e','v','e','r']) (by kernel_rfl) nJ];kernel_rfl
theorem uy:Slot "reversed" "__iter__" "reversed.__iter__" :=
 .of (owner:="reversed") (n:="__iter__") (by rw[typeLookup_type,builtinLookup_eq_fast];kernel_rfl) (by decide +kernel) (by decide +kernel) (by decide +kernel)
  (by first|exact .inl (by decide +kernel)|exact .inr (by decide +kernel)) (by rw[isSubtype_type];kernel_rfl)
theorem B8 (a:Value):argsOk "reversed.__iter__" ⟨[a],[]⟩:=by
 unfold argsOk;rw[signature?_of (id:="reversed.__iter__") (n:=['_','_','r','e','t','i','_','_']) (o:=['d','e','s','r','e','v','e','r']) (by kernel_rfl) nJ];kernel_rfl
theorem Aw:entryFor table "reversed.__iter__" = some Builtin.«dict_keyiterator.__iter__»:=
 entryFor_alias (id':="dict_keyiterator.__iter__") (by kernel_rfl) (by first|rfl|decide +kernel | (unfold String.splitOn;simp +decide [String.splitOnAux])) (by decide +kernel) (by kernel_rfl)
theorem nK:Slot "reversed" "__length_hint__" "reversed.__length_hint__" :=
 .of (owner:="reversed") (n:="__length_hint__") (by rw[typeLookup_type,builtinLookup_eq_fast];kernel_rfl) (by decide +kernel) (by decide +kernel) (by decide +kernel)
  (by first|exact .inl (by decide +kernel)|exact .inr (by decide +kernel)) (by rw[isSubtype_type];kernel_rfl)
theorem Ax:entryFor table "reversed.__length_hint__" = some Builtin.«reversed.__length_hint__»:=entryFor_of_tree (by kernel_rfl)
theorem B9 (a:Value):argsOk "reversed.__length_hint__" ⟨[a],[]⟩:=by
 unfold argsOk;rw[signature?_of (id:="reversed.__length_hint__") (n:=['_','_','t','n','i','h','_','h','t','g','n','e','l','_','_']) (o:=['d','e','s','r','e','v','e','r']) (by kernel_rfl) nJ];kernel_rfl
theorem Mz:typeLookup (.type "reversed") "__len__" = pure none:=by rw[typeLookup_type,builtinLookup_eq_fast];kernel_rfl
theorem MA:typeLookup (.type "tuple") "__reversed__" = pure none:=by rw[typeLookup_type,builtinLookup_eq_fast];kernel_rfl
section
variable{prog:Program}{w:World}{A:Around}{E:Value->Shared->Prop}{s:Shared}
theorem Ca:Slot "reversed" "__init__" "object.__init__" :=
 .of (owner:="object") (n:="__init__") (by rw[typeLookup_type,builtinLookup_eq_fast];kernel_rfl) (by decide +kernel) (by decide +kernel) (by decide +kernel)
  (by first|exact .inl (by decide +kernel)|exact .inr (by decide +kernel)) (by rw[isSubtype_type];kernel_rfl)
theorem called:TypeCalled "reversed" "reversed.__new__" "object.__init__" :=
 ⟨by decide +kernel,by decide +kernel,⟨_,_,F.mro_reversed⟩,F.made_reversed,by decide +kernel,F.sub_reversed_self,Ca⟩
noncomputable def gX (h:Heap) (a t:Addr) (i:Int):Prop:=∃o,h.get? a=some o/\o.cls=.type "reversed" /\o.data=.fields #[.ref t,rawInt i]
theorem gX.typeIs {a l:Addr}{i:Int}(x:gX s.heap a l i):s.TypeIs (.ref a) "reversed" :=let ⟨o,ho,hc,_⟩:=x;⟨o,ho,hc⟩
theorem gX.at{h h':Heap}{a l:Addr}{i:Int}(x:gX h a l i)(e:∀o,h.get? a=some o->h'.get? a=some o):gX h' a l i:=let ⟨o,ho,r⟩:=x;⟨o,e _ ho,r⟩
noncomputable def oO (l:Addr) (i:Int):Obj:={ cls:=.type "reversed",data:=.fields #[.ref l,rawInt i]}
theorem oQ{h h':Heap}{t:Addr}{items:Array Value}(x:IsTup h t items)(e:∀o,h.get? t=some o->h'.get? t=some o):IsTup h' t items:=let ⟨o,ho,r⟩:=x;⟨o,e _ ho,r⟩
theorem Ei{t:Addr}{items:Array Value}{Q₁:Value->Shared->Prop}(ht:IsTup s.heap t items)(hfit:(items.size:Int)<2 ^ 63)
  (h:Q₁ (.ref s.heap.objs.size) { s with heap:=s.heap.push (oO t ((items.size:Int) - 1)),toks:=s.toks+1+1 }) :
  codeAny (model prog w) A (.call (.builtin "reversed.__new__") ⟨[.type "reversed",.ref t],[]⟩) (wants Q₁ E) s:=by
 refine codeAny_of_tree ?_;show wpAny _ A.in1 (do checkBuiltinCall "reversed.__new__" ⟨[.type "reversed",.ref t],[]⟩;again (.builtin "reversed.__new__" ⟨[.type "reversed",.ref t],[]⟩)) _ _ s;refine wpAny_bind (wpAny_of_eq (F.newCall_reversed_1 _) (wpAny_pure ⟨plainId_quiet F.plain_reversed_new _,codeAny_builtin F.entry_reversed_new ?_⟩));rw[Around.under_plainId F.plain_reversed_new _];unfold Builtin.«reversed.__new__»;refine wpAny_bind (wpAny_of_eq (newClass_reversed _) ?_);try dsimp only
 refine wpAny_bind (wpAny_of_eq (a:=()) (by first|rfl|kernel_rfl) ?_);refine wpAny_bind (wpAny_of_eq (a:=()) (by first|rfl|kernel_rfl) ?_);try dsimp only
 refine wpAny_bind (wpAny_specialOf ht.typeIs MA ?_);try dsimp only
 refine wpAny_bind ?_
 wp_delta
 refine wpAny_bind (wpAny_isInstance (T:="tuple") (b:=false) ht.typeIs (by rw[isSubtype_type];kernel_rfl) ?_);refine wpAny_ite_split (λhab=>absurd hab (by decide)) (λ_=>?_);refine wpAny_bind (wpAny_specialOf ht.typeIs slot_tuple_getitem.lookup ?_);try dsimp only
 refine wpAny_ite_split (λ_=>?_) (λhab=>absurd (by decide) hab);refine wpAny_pure ?_;refine wpAny_ite_split (λhab=>absurd hab (by decide)) (λ_=>?_);refine wpAny_bind (len_tuple ht hfit ?_);refine wpAny_bind (m:=asInt? _) (wpAny_pure ?_);try dsimp only
 refine wpAny_bind (m:=Builtin.SmallTypes.newRecord _ _) ?_;unfold Builtin.SmallTypes.newRecord;refine wpAny_newObj_type ?_ (by size_fits);exact wpAny_pure h
theorem Ej{t:Addr}{items:Array Value}{Q:Value->Shared->Prop}(ht:IsTup s.heap t items)(hfit:(items.size:Int)<2 ^ 63)
  (h:Q (.ref s.heap.objs.size) { s with heap:=s.heap.push (oO t ((items.size:Int) - 1)),toks:=s.toks+1+1 }):wpAny (model prog w) A (call (.type "reversed") [.ref t]) Q E s:=by
 refine callType_codes (Q₁:=λobj s₁=>obj=.ref s.heap.objs.size/\s₁={ s with heap:=s.heap.push (oO t ((items.size:Int) - 1)),toks:=s.toks+1+1 }) called (F.typeCall_reversed_1 _) F.entry_object_init (Ei ht hfit ⟨rfl,rfl⟩) ?_;rintro obj s₁ ⟨rfl,rfl⟩;have hT:({ s with heap:=s.heap.push (oO t ((items.size:Int) - 1)),toks:=s.toks+1+1 }:Shared).TypeIs (.ref s.heap.objs.size) "reversed" :=⟨_,Heap.get?_push_size _ rfl,rfl⟩
 refine⟨hT,F.args_object_init_2 _ _,?_⟩;exact object_init_meets (self:=Value.ref s.heap.objs.size) (rest:=[Value.ref t]) called.init.lookup called.made (by decide) prog w A.in1 _ _ ⟨hT,rfl,h⟩
theorem next_item{it t:Addr}{i:Nat}{items:Array Value}{x:Value}{Q:Option Value->Shared->Prop}(hit:gX s.heap it t (i:Int))(ht:IsTup s.heap t items)(hx:items[i]?=some x)(hfit:(items.size:Int)<2 ^ 62)
  (hQ:∀h' tk,gX h' it t ((i:Int) - 1)->Heap.SameBut it s.heap h'->Q (some x) { s with heap:=h',toks:=tk }):wpAny (model prog w) A (pyNext (.ref it)) Q E s:=by
 obtain⟨o,ho,hc,hd⟩:=id hit;have hi:i<items.size:=(Array.getElem?_eq_some_iff.mp hx).1;unfold pyNext;refine wpAny_bind (wpAny_attempt (wpAny_callSpecial?_slot (name:=Str.ofString "__next__") hit.typeIs slot_next
  (wpAny_call_entry slot_next hit.typeIs entry_next ?_ (args_next _))))
 unfold Builtin.«reversed.__next__»;refine wpAny_bind (wpAny_of_eq (a:=(Value.ref it,[])) rfl ?_);try dsimp only
 refine wpAny_bind (wpAny_field ho hd (x:=.ref t) rfl ?_);refine wpAny_bind (wpAny_field ho hd (x:=rawInt (i:Int)) rfl ?_);show wpAny _ _ (if (i:Int)<0 then _ else _) _ _ s;rw[if_neg (by omega)];try dsimp only
 refine wpAny_bind (wpAny_specialOf ht.typeIs slot_tuple_getitem.lookup ?_);try dsimp only
 refine wpAny_ite_split (λhab=>absurd hab (by decide)) (λ_=>?_);refine wpAny_bind (wpAny_mkInt ?_);refine wpAny_bind (wpAny_attempt (getItem_tuple (j:=i) ht (by omega) (by omega) (by unfold seqIndex?;simp;omega) hx ?_));try dsimp only
 refine wpAny_bind (wpAny_field ho hd (x:=rawInt (i:Int)) rfl ?_);show wpAny _ _ (setField (.ref it) 1 (rawInt ((i:Int) - 1)) >>= _) _ _ _;refine wpAny_bind (wpAny_setField ho hd (by simp) ?_);refine wpAny_pure ⟨x,rfl,wpAny_pure (hQ _ _ ?_ (Heap.SameBut.update ..))⟩;exact⟨_,Heap.get?_update_self _ ho (Obj.isFreed_of_fields (Obj.data_mapFields hd _)),(Obj.cls_mapFields ..).trans hc,by
  rw[Obj.data_mapFields hd];simp⟩
theorem next_end{it t:Addr}{Q:Option Value->Shared->Prop}(hh:A.handled=none)(hit:gX s.heap it t (-1))
  (hQ:∀h',Heap.ExtBut it s.heap h'->Q none { s with heap:=h' }):wpAny (model prog w) A (pyNext (.ref it)) Q E s:=by
 obtain⟨o,ho,hc,hd⟩:=id hit;unfold pyNext;refine wpAny_bind (wpAny_attempt (wpAny_callSpecial?_slot (name:=Str.ofString "__next__") hit.typeIs slot_next
  (wpAny_call_entry slot_next hit.typeIs entry_next ?_ (args_next _))))
 unfold Builtin.«reversed.__next__»;refine wpAny_bind (wpAny_of_eq (a:=(Value.ref it,[])) rfl ?_);try dsimp only
 refine wpAny_bind (wpAny_field ho hd (x:=.ref t) rfl ?_);refine wpAny_bind (wpAny_field ho hd (x:=rawInt (-1)) rfl ?_);show wpAny _ _ (if (-1:Int)<0 then _ else _) _ _ s;rw[if_pos (by decide)];refine wpAny_bind (wpAny_rule ?_);refine wpAny_bind ?_
 wp_delta
 refine wpAny_bind (wpAny_setField ho hd (by simp) ?_);have ho2:=Heap.get?_update_self (Obj.mapFields λx=>x.setIfInBounds 1 (rawInt (-1))) ho (Obj.isFreed_of_fields (Obj.data_mapFields hd _));refine wpAny_setField ho2 (Obj.data_mapFields hd _) (by simp) ?_;refine wpAny_bind ?_;unfold Builtin.SmallTypes.stopIteration;first
 |show wpAny _ _ (newExc (.type "StopIteration") [] >>= _) _ _ _
 | (refine wpAny_bind ?_;show wpAny _ _ (newExc (.type "StopIteration") [] >>= _) _ _ _)
 refine wpAny_bind ?_;simp only[newExc,newTuple];refine wpAny_bind (wpAny_newObj_type ?_ (by size_fits));refine wpAny_bind (m:=firstArgMember _ _) (wpAny_of_eq (a:=Value.none) (by first|rfl | (simp only[firstArgMember];rfl)) ?_);refine wpAny_newObj_type ?_ (by size_fits);simp only[raiseNew];refine wpAny_bind (wpAny_handled ?_);first|rw[show A.in1.handled=none from hh]|rw[hh]
 refine wpAny_bind (wpAny_pure (wpAny_throw ?_));refine wpAny_bind (wpAny_isInstance (T:="StopIteration") (b:=true) ⟨_,Heap.get?_push_size _ rfl,rfl⟩ isSubtype_stop ?_);exact wpAny_pure (hQ _ ((((Heap.SameBut.update ..).extBut.trans (Heap.SameBut.update ..).extBut).push _).push _))
theorem vN{it t:Addr}{i:Int}{Q:Value->Shared->Prop}(hit:gX s.heap it t i)(h:Q (.ref it) s):wpAny (model prog w) A (pyIter (.ref it)) Q E s:=by
 refine wpAny_pyIter_slot hit.typeIs uy (wpAny_call_entry uy hit.typeIs Aw ?_ (B8 _));show wpAny _ _ (ret (.ref it)) _ _ s;exact wpAny_pure ⟨_,rfl,"reversed",_,hit.typeIs,slot_next.lookup,h⟩
theorem Ek{it t:Addr}{items:Array Value}{Q:Bool->Shared->Prop}(hit:gX s.heap it t ((items.size:Int) - 1))(ht:IsTup s.heap t items)(hfit:items.size<=sizeLine)
  (h:∀tk,Q ((items.size:Int) != 0) { s with toks:=tk }):wpAny (model prog w) A (Builtin.List.listLengthHint (.ref it)) Q E s:=by
 obtain⟨o,ho,hc,hd⟩:=id hit;unfold Builtin.List.listLengthHint;refine wpAny_bind (wpAny_specialOf hit.typeIs Mz ?_);refine wpAny_ite_split (λhab=>absurd hab (by decide +kernel)) (λ_=>?_);refine wpAny_ite_split (λhab=>absurd hab (by decide)) (λ_=>?_);refine wpAny_bind (wpAny_specialOf hit.typeIs nK.lookup ?_);generalize hid:("reversed.__length_hint__" : String)=Wj
 dsimp only;rw[show splitId Wj=some ("reversed","__length_hint__")from by subst hid;decide +kernel];subst hid;dsimp only;refine wpAny_bind (wpAny_isInstance (T:="reversed") (b:=true) hit.typeIs (by rw[isSubtype_type];kernel_rfl) ?_);refine wpAny_ite_split (λhab=>absurd hab (by decide)) (λ_=>?_);refine wpAny_ite_split (λhab=>absurd hab (by decide +kernel)) (λ_=>?_);refine wpAny_bind (wpAny_rule ?_);refine wpAny_bind (wpAny_of_eq (nK.bind _) ?_);refine wpAny_bind (wpAny_attempt (wpAny_call_entry nK hit.typeIs Ax ?_ (B9 _)));unfold Builtin.«reversed.__length_hint__»;refine wpAny_bind (wpAny_of_eq (a:=Value.ref it) rfl ?_);refine wpAny_bind (wpAny_field ho hd (x:=.ref t) rfl ?_);refine wpAny_ite_split (λhab=>absurd hab Bool.false_ne_true) (λ_=>?_);have hf2:(items.size:Int)<2 ^ 63:=by rw[sizeLine_eq]at hfit;omega
 refine wpAny_bind (len_tuple ht hf2 ?_);refine wpAny_bind (m:=asInt? _) (wpAny_pure ?_);refine wpAny_bind (wpAny_field ho hd (x:=rawInt ((items.size:Int) - 1)) rfl ?_);show wpAny _ _ (if (items.size:Int)<(items.size:Int) - 1+1 then _ else _) _ _ _;rw[if_neg (by omega)];have e1:(items.size:Int) - 1+1=(items.size:Int):=by omega
 rw[e1];unfold retInt;refine wpAny_bind (wpAny_mkInt (wpAny_pure ⟨_,rfl,?_⟩));generalize s.toks+1+1=tk
 show wpAny _ _ (asInt? (Value.int (items.size:Int) tk) >>= _) _ _ _;refine wpAny_bind ?_;refine wpAny_pure (a:=some (items.size:Int)) ?_;have Wk:Builtin.List.listFitsIndex (items.size:Int)=true:=by unfold Builtin.List.listFitsIndex;rw[decide_eq_true (by omega),decide_eq_true (by omega)];rfl
 show wpAny _ _ (if (!Builtin.List.listFitsIndex (items.size:Int))=true then _ else _) _ _ _;rw[if_neg (by rw[Wk];decide)];show wpAny _ _ (if (items.size:Int)<0 then _ else _) _ _ _;rw[if_neg (by omega)];have Wl:Builtin.List.listTooLong ((items.size:Int).toNat)=false:=by unfold Builtin.List.listTooLong;rw[Int.toNat_natCast];exact decide_eq_false (by omega)
 show wpAny _ _ (if Builtin.List.listTooLong ((items.size:Int).toNat)=true then _ else _) _ _ _;rw[if_neg (by rw[Wl];decide)];exact wpAny_pure (h _)
theorem _root_.PySem.Walks.MB(hh:A.handled=none)(I t:Addr)(hne:t≠I)(items:Array Value)(hfit:(items.size:Int)<2 ^ 62) :
  Walks prog w A I [I,t] [I] items.size (λi v=>items[items.size - 1 - i]?=some v) (λi h=>i<=items.size/\gX h I t ((items.size:Int) - 1 - (i:Int))/\IsTup h t items) where
 sub:=λb hb=>by simp at hb;simp[hb]
 frame:=λ_ _ _ x hk=>⟨x.1,x.2.1.at λo e=>hk I (by simp) o e,oQ x.2.2 λo e=>hk t (by simp) o e⟩
 item:=λi s Q E hi x hQ=>by
  have e:(items.size:Int) - 1 - (i:Int)=((items.size - 1 - i:Nat):Int):=by omega
  have hit:=x.2.1;rw[e]at hit;have hx:items[items.size - 1 - i]?=some (items[items.size - 1 - i]'(by omega)):=Array.getElem?_eq_getElem (by omega);refine next_item hit x.2.2 hx hfit λh' tk MC hs'=>?_;have e2:((items.size - 1 - i:Nat):Int) - 1=(items.size:Int) - 1 - ((i+1:Nat):Int):=by omega
  rw[e2]at MC;exact hQ _ h' tk hx ⟨hi,MC,oQ x.2.2 λo eo=>(hs'.2 t hne).trans eo⟩ λb o hb eo=>hs'.extBut b o (λh=>hb (by simp[h])) eo
 done:=λs Q E x hQ=>by
  have e:(items.size:Int) - 1 - (items.size:Int) = -1:=by omega
  have hit:=x.2.1;rw[e]at hit;exact next_end hh hit λh' he'=>hQ h' s.toks λb o hb eo=>he' b o (λh=>hb (by simp[h])) eo
 self:=λ_ _ _ _ x hQ=>vN x.2.1 hQ
theorem Ay{R:Result->Shared->Prop}{I t:Addr}{items:Array Value}(hh:A.handled=none)(hit:gX s.heap I t ((items.size:Int) - 1))(ht:IsTup s.heap t items)(hne:t≠I)(hlen:items.size<=sizeLine)
  (S:Addr) (hSI:S≠I) (hSt:S≠t) (res:Value) (c₀:Nat) (hS:s.heap.get? S=some { cls:=.type "list",data:=.seq #[] c₀ })
  (hR:∀h' tk acc' c',(∀b o,b≠S->b≠I->s.heap.get? b=some o->h'.get? b=some o)->h'.get? S=some { cls:=.type "list",dict:=none,data:=.seq acc' c',slots:=#[]}->
   ItemsOf (λi v=>items[items.size - 1 - i]?=some v) acc' items.size->R (.ok (.ret res)) { s with heap:=h',toks:=tk }) :
  wpAny (model prog w) A.in1 (Builtin.List.listExtendWith (.ref S) (.ref I) res)
   (λfin s'=>match fin with|.done f=>R (.ok f) s'|.again c'=>c'.quiet=true/\codeAny (model prog w) A c' R s') (λe s'=>R (.error e) s') s:=by
 have hf:(items.size:Int)<2 ^ 62:=by rw[sizeLine_eq]at hlen;omega
 have hSf:S∉[I,t]:=λhm=>by rcases List.mem_cons.mp hm with e|e;exact hSI e;exact hSt (List.mem_singleton.mp e)
 have W:=(Walks.MB (prog:=prog) (w:=w) (A:=A.in1) hh I t hne items hf).toS;have key:∀(h:Heap) (c₁ tk:Nat),gX h I t ((items.size:Int) - 1 - ((0:Nat):Int))->IsTup h t items->(∀b o,b≠S->s.heap.get? b=some o->h.get? b=some o)->
   h.get? S=some { cls:=.type "list",data:=.seq #[] c₁ }->codeAny (model prog w) A (.builtin "list.extend.loop" ⟨[.ref S,.ref I,res],[]⟩) R { s with heap:=h,toks:=tk }:=by
  intro h c₁ tk hit ht hk P5;refine codeAny_extend_loopS W hlen S hSf res items.size 0 _ #[] c₁ rfl (Nat.zero_le _) ⟨Nat.zero_le _,hit,ht⟩ P5 (ItemsOf.nil _) λs' acc' c' hm hS' hacc=>?_;rw[Moved.eq_with hm];refine hR s'.heap s'.toks acc' c' (λb o hb hb2 e=>hm.heap b o (λhmem=>?_) (hk b o hb e)) hS' hacc;rcases List.mem_cons.mp hmem with e'|hmem
  .exact hb e'
  .exact hb2 (List.mem_singleton.mp hmem)
 unfold Builtin.List.listExtendWith;refine wpAny_bind (wpAny_typeOf (T:="reversed") hit.typeIs ?_);have h1:Builtin.List.listSameRef (.ref S) (.ref I)=false:=by simp[Builtin.List.listSameRef,hSI]
 have h2:(Value.type "reversed" ==Value.type "list")=false:=by decide
 have h3:(Value.type "reversed" ==Value.type "tuple")=false:=by decide
 simp only[h1,h2,h3,Bool.or_false,Bool.false_eq_true,if_false];refine wpAny_bind (vN hit ?_);refine wpAny_bind (wpAny_holding (Ek hit ht hlen λtk=>?_));have MD:gX s.heap I t ((items.size:Int) - 1 - ((0:Nat):Int)):=by simpa using hit
 refine wpAny_ite_split (λ_=>?_) (λ_=>wpAny_pure ⟨plainId_quiet F.plain_extend_loop _,key _ c₀ _ MD ht (λb o _ e=>e) hS⟩);refine wpAny_bind (wpAny_rule ?_);refine wpAny_bind ?_;show wpAny _ _ (updateSeq S (·.push .none) >>= λ_=>updateSeq S (·.pop)) _ _ _;refine wpAny_bind (wpAny_updateSeq hS rfl ?_);have uQ:=Heap.get?_update_self (Obj.mapSeq (·.push Value.none)) hS rfl;refine wpAny_updateSeq (hz:=by seq_fits) uQ rfl ?_;have P6:=Heap.get?_update_self (Obj.mapSeq (·.pop)) uQ rfl;have ot:∀b o,b≠S->s.heap.get? b=some o->((s.heap.update S (Obj.mapSeq (·.push Value.none))).update S (Obj.mapSeq (·.pop))).get? b=some o:=λb o hb e=>(Heap.get?_update_other _ _ (Ne.symm hb)).trans ((Heap.get?_update_other _ _ (Ne.symm hb)).trans e);exact wpAny_pure ⟨plainId_quiet F.plain_extend_loop _,key _ _ _ (MD.at λo e=>ot _ _ (Ne.symm hSI) e) (oQ ht λo e=>ot _ _ (Ne.symm hSt) e) ot P6⟩
theorem El{R:Result->Shared->Prop}{I t:Addr}{items:Array Value}(hh:A.handled=none)(hit:gX s.heap I t ((items.size:Int) - 1))(ht:IsTup s.heap t items)(hne:t≠I)(hlen:items.size<=sizeLine)
  (S:Addr) (hSI:S≠I) (hSt:S≠t) (hS:s.heap.get? S=some { cls:=.type "list",data:=.seq #[]})
  (hR:∀h' tk acc' c',(∀b o,b≠S->b≠I->s.heap.get? b=some o->h'.get? b=some o)->h'.get? S=some { cls:=.type "list",dict:=none,data:=.seq acc' c',slots:=#[]}->
   ItemsOf (λi v=>items[items.size - 1 - i]?=some v) acc' items.size->R (.ok (.ret .none)) { s with heap:=h',toks:=tk }) :
  wpAny (model prog w) A.in1 (Builtin.«list.__init__» ⟨[.ref S,.ref I],[]⟩)
   (λfin s'=>match fin with|.done f=>R (.ok f) s'|.again c'=>c'.quiet=true/\codeAny (model prog w) A c' R s') (λe s'=>R (.error e) s') s:=by
 show wpAny _ _ (do let old <-Builtin.List.listItems (.ref S);Builtin.List.listUpdate (.ref S) (λ_=>#[]);letGo old.toList.reverse;Builtin.List.listExtendWith (.ref S) (.ref I) .none) _ _ s;refine wpAny_bind ?_;unfold Builtin.List.listItems;refine wpAny_bind (wpAny_seqItems hS rfl (wpAny_pure ?_));show wpAny _ _ (updateSeq S (λ_=>#[]) >>= λ_=>letGo (#[]:Array Value).toList.reverse >>= λ_=>Builtin.List.listExtendWith (.ref S) (.ref I) .none) _ _ s;refine wpAny_bind (wpAny_updateSeq hS rfl ?_);have uQ:=Heap.get?_update_self (Obj.mapSeq (λ_=>(#[]:Array Value))) hS rfl;have MF:∀b o,b≠S->s.heap.get? b=some o->(s.heap.update S (Obj.mapSeq (λ_=>(#[]:Array Value)))).get? b=some o:=
  λb o hb e=>(Heap.get?_update_other _ _ (Ne.symm hb)).trans e
 refine wpAny_bind (wpAny_letGo ?_);refine Ay hh (hit.at λo e=>MF _ _ (Ne.symm hSI) e) (oQ ht λo e=>MF _ _ (Ne.symm hSt) e) hne hlen S hSI hSt .none _ uQ λh' tk acc' c' hk hS' hacc=>?_;exact hR h' tk acc' c' (λb o hb hb2 e=>hk b o hb hb2 (MF b o hb e)) hS' hacc
theorem uK{Q:Value->Shared->Prop}{I t:Addr}{items:Array Value}(hh:A.handled=none)(hit:gX s.heap I t ((items.size:Int) - 1))(ht:IsTup s.heap t items)(hne:t≠I)(hlen:items.size<=sizeLine)
  (hQ:∀h' tk acc' c',(∀b o,b≠I->s.heap.get? b=some o->h'.get? b=some o)->
   h'.get? s.heap.objs.size=some { cls:=.type "list",dict:=none,data:=.seq acc' c',slots:=#[]}->ItemsOf (λi v=>items[items.size - 1 - i]?=some v) acc' items.size->Q (.ref s.heap.objs.size) { s with heap:=h',toks:=tk }) :
  wpAny (model prog w) A (call (.type "list") [.ref I]) Q E s:=by
 refine callType_codes (Q₁:=λobj s₁=>obj=.ref s.heap.objs.size/\s₁={ s with heap:=s.heap.push { cls:=.type "list",data:=.seq #[]}}) F.called_list (F.typeCall_list_1 _) F.entry_list_init
  (code_list_new _ ⟨rfl,rfl⟩) λobj s₁ h₁=>?_
 obtain⟨rfl,rfl⟩:=h₁;have hS:(s.heap.push { cls:=.type "list",data:=.seq #[]}).get? s.heap.objs.size=some { cls:=.type "list",data:=.seq #[]}:=Heap.get?_push_size _ rfl;have hI:I<s.heap.objs.size:=by obtain⟨o,ho,_⟩:=hit;exact Heap.lt_size ho
 have hT:t<s.heap.objs.size:=by obtain⟨o,ho,_⟩:=ht;exact Heap.lt_size ho
 refine⟨⟨_,hS,rfl⟩,F.args_list_init_2 _ _,El (A:=A.in1) hh (hit.at λo e=>Heap.get?_push_of_some _ e) (oQ ht λo e=>Heap.get?_push_of_some _ e) hne hlen _ (Nat.ne_of_gt hI) (Nat.ne_of_gt hT) hS λh' tk acc' c' hk hS' hacc=>?_⟩;exact⟨rfl,hQ h' tk acc' c' (λb o hb e=>hk b o (Nat.ne_of_lt (Heap.lt_size e)) hb (Heap.get?_push_of_some _ e)) hS' hacc⟩
end
end Rv
namespace Sm
open PySem PySem.Spec PyProof.Rows L2 PySem.SeqAt
open Ev (D O Hh Fr R aI E Es Eo T S Ss Fl Src bF bu TY BI ME)
section
variable{X:Cx}{G:Tb}{n:Nat}{sc:Scope}{N:List Str}{df:Bool}{m:List Nat}{a b c:E}{xa xb xc tg:Expr}{pos:Pos}
theorem Em{vs:List V}{us:List Value}(r:Vals vs us){acc:Array Value}(h:ItemsOf (λi v=>us.toArray[us.toArray.size - 1 - i]?=some v) acc us.toArray.size):Vals vs.reverse acc.toList:=by
 obtain⟨h1,h2⟩:=h;have e:acc.toList=us.reverse:=by
  apply List.ext_getElem?;intro i;by_cases hi:i<us.length
  .have ha:i<acc.size:=by rw[h1];simpa using hi
   have:=h2 i _ (Array.getElem?_eq_getElem ha);rw[List.getElem?_reverse hi];simp only[List.size_toArray,List.getElem?_toArray]at this;rw[this];simp[ha]
  .have hs:acc.size=us.length:=by rw[h1];simp
   rw[List.getElem?_eq_none (by rw[Array.length_toList];omega),List.getElem?_eq_none (by rw[List.length_reverse];omega)]
 rw[e];exact Vals.reverse r
theorem IT {p p2 pos2:Pos}(ha:JE G n sc N df m a xa) (h1:("list" : Str)∈G.bl:=by decide +kernel) (qN:sc.names.lookup ("list" : Str)=some .globalImplicit:=by rfl)
  (hg:sc.names.lookup ("reversed" : Str)=some .globalImplicit:=by rfl) (hb:("reversed" : Str)∈G.bl:=by decide +kernel)
  (hst:∀env:Env,starEach [xa] env=[(false,eval xa env)]:=by intro _;rfl)
  (vL:∀env:Env,starEach [Expr.Call (.Name "reversed" p2) [xa] [] pos2] env=[(false,eval (Expr.Call (.Name "reversed" p2) [xa] [] pos2) env)]:=by intro _;rfl) :
  JE G n sc N df m (.eH (.rev a)) (.Call (.Name "list" p) [.Call (.Name "reversed" p2) [xa] [] pos2] [] pos):=λX g=>by
 intro pins s σ H Q I q;obtain⟨r,fr,h,d,h',sr,hr,e,q⟩:=q;rw[Ev.ev,Ev.b8]at e;replace e:=Ev.ah e;obtain⟨src,h3,e1,e⟩:=e;replace e1:=Ev.ah e1;obtain⟨x,h4,e2,e1⟩:=e1;replace e1:=Ev.aM e1;obtain⟨e1,y0⟩:=e1;subst y0;refine wpAny_Call_Name_kw (iT I (g.gl qN) (g.bl _ h1) (show bootBuiltins ("list" : Str)=some (.type "list")by decide +kernel) ?_ (by decide) (by decide));refine PyProof.Rows.callWith_type1 ?_ (vL _) rfl;rw[vL];show wpAny _ _ (spliced ((false,eval (Expr.Call (.Name "reversed" p2) [xa] [] pos2) X.env) :: backTo pos [])) _ _ s;refine Calls.spliced_cons ?_;have My:PA X [xa] _:=cJ (ha X g) g6 (by rw[hst];rfl);refine Call_ (iT I (g.gl hg) (g.bl _ hb) (show bootBuiltins ("reversed" : Str)=some (.type "reversed")by decide +kernel) (PyProof.Rows.callWith_type1 (bI (My pos2 pins s σ H (λvs H1=>∃r1 u,vs=[u]/\RV X.K H1 r1 x u/\HR X.K H1 r1 h3/\Fm X.K r r1 H H1) I ⟨r,fr,h,x,h3,sr,hr,e2,λu H1 r1 v1 hr1 f1=>⟨r1,u,rfl,v1,hr1,f1⟩⟩) λus s1 z=>?_) (hst _) rfl));obtain⟨vs,H1,I1,rv,r1,u,rfl,v1,hr1,f1⟩:=z;cases x<;>simp only[Ev.D4,Option.map,reduceCtorEq]at e1
 rename_i ds;cases e1;obtain⟨t,ws,rfl,z,w⟩:=v1.shape;cases rv with
 |cons ra rb=>
 cases rb;cases ra;obtain⟨its,pv,pt,hz⟩:=I1.tuple z;have hlen:its.toArray.size<=sizeLine:=by rw[List.size_toArray,<-pv.length];exact hz
 have hf:(its.toArray.size:Int)<2 ^ 63:=by rw[sizeLine_eq]at hlen;omega
 refine Rv.Ej pt hf ?_;refine Calls.spliced_nil ?_;have I2:Inv X pins σ H1 { s1 with heap:=s1.heap.push (Rv.oO t ((its.toArray.size:Int) - 1)),toks:=s1.toks+1+1 }:=I1.kept λb o e=>Heap.get?_push_of_some _ e;have hne:t≠s1.heap.objs.size:=by obtain⟨o,ho,_⟩:=pt;exact Nat.ne_of_lt (Heap.lt_size ho)
 refine Rv.uK (I1.ok.hd g.calm) ⟨_,Heap.get?_push_size _ rfl,rfl,rfl⟩ (Rv.oQ pt λo e=>Heap.get?_push_of_some _ e) hne hlen λh' tk acc' c' hk hS' hacc=>?_;obtain⟨hz2,q2⟩:=(q.later f1).lst e w.reverse hr1;have hp:s1.heap.objs.size<=(s1.heap.push (Rv.oO t ((its.toArray.size:Int) - 1))).objs.size:=by rw[size_push'];exact Nat.le_succ _
 refine⟨.ref _,_,I1.laid (t':=tk) (o:=.lst ws.reverse) (λb u e=>hk b u (Nat.ne_of_lt (Heap.lt_size e)) (Heap.get?_push_of_some _ e)) hp ?_,rfl,q2 _ (I1.hok.fresh hp)⟩;exact⟨by simpa using hz,acc'.toList,c',Em pv hacc,by simpa using hS'⟩
end
end Sm
set_option maxRecDepth 100000
set_option maxRecDepth 100000
namespace Sm
open PySem PySem.Spec PyProof.Rows L2 PySem.SeqAt
open Ev (D O Hh Fr R aI E Es Eo T S Ss Fl Src bF bu TY BI ME)
end Sm
set_option maxRecDepth 100000
namespace Sm
open PySem PySem.Spec PyProof.Rows L2 PySem.SeqAt
open Ev (D O Hh Fr R aI E Es Eo T S Ss Fl Src bF bu TY BI ME)
end Sm
set_option maxRecDepth 100000
namespace Sm
open PySem PySem.Spec PyProof.Rows L2 PySem.SeqAt
open Ev (D O Hh Fr R aI E Es Eo T S Ss Fl Src bF bu TY BI ME)
section
variable{G:Tb}{n:Nat}{sc:Scope}{N:List Str}{df:Bool}{m:List Nat}{a b c:E}{xa xb xc:Expr}{pos:Pos}
end
end Sm
set_option maxRecDepth 100000
namespace Sm
open PySem PySem.Spec PyProof.Rows L2 PySem.SeqAt
open Ev (D O Hh Fr R aI E Es Eo T S Ss Fl Src bF bu TY BI ME)
theorem aD.ofInts{K:PySem.W.Frag}{H:Hp}{r:List Addr}:∀ns:List Int,aD K H r (ns.map D.int) (ns.map V.int)
 |[]=>.nil
 |_ :: l=>.cons rfl (aD.ofInts l)
theorem MG{K:PySem.W.Frag}{H:Hp}{a:Addr}{vs:List V}(hO:sH H)(hS:ef K H a vs):Ab K H a vs:=by
 rcases hS with h|h
 .rcases h with h|⟨o,h⟩
  .rcases hO a with q|⟨o,xs,q⟩
   .rw[q]at h;cases h
   .rw[q]at h;cases h
  .exact .inl ⟨o,h⟩
 .exact .inr h
theorem P7{K:PySem.W.Frag}{F:List Ev.Fn}{w n f:Nat}{H:Hp}{a:Addr}{ns:List Int}(hO:sH H)(hS:ef K H a (ns.map V.int)){h':Hh}(e:Ev.run F w n f [.ref 0] [.bP (ns.map D.int)]=.ok (.bl true) h') :
  mW K F w n f [.ref a] H (λv _=>v=.bl true) λ_ _ _=>False:=by
 refine⟨[a],[.bP (ns.map D.int)],[.ref 0],.bl true,h',.cons (show RV K H [a] (.ref 0) (.ref a)from ⟨a,rfl,rfl⟩) .nil,⟨rfl,λk o hk=>?_,λk l b x y _ _ hk _=>?_
  ⟩,e,λv H' r' v1 _ _=>v1⟩
 .cases k with
  |zero=>
   simp at hk;subst hk;exact⟨a,rfl,_,MG hO hS,aD.ofInts ns⟩
  |succ k=>simp at hk
 .cases k with
  |zero=>simp at hk
  |succ k=>simp at hk
theorem IU{F:List Ev.Fn}{wh n f:Nat}{l:PySem.W.OpenLaw}{q:Program}{loose:List Str}{XP:(Str->Option Value)->Heap->Prop}{YP:World->Heap->Prop}{d:DefRec}{K:Params->PySem.W.Frag}{x:Str}(hn:l.most=some 63)(hdf:d.params.defaults=[])(hr:gU n callerA)
  (hY:∀(w:World) (h:Heap),YP w h->(K w.params).In h) (good:∀ns:List Int,ns.length<=63->∃h',Ev.run F wh n f [.ref 0] [.bP (ns.map D.int)]=.ok (.bl true) h')
  (Fo:∀(w:World) (mg:Str->Option Value) (fa:Addr) (h:Heap),(K w.params).In h->h.Ns mainGlobals mg->mg d.name=some (.ref fa)->
   ∃fd:FuncData,(∀(s:Shared) (u:Value),BindsTo s fd ⟨[u],[]⟩ [(x,u)])/\∀base:Heap,(K w.params).In base->base.Ns mainGlobals mg->fJ l.prog w (K w.params) mg base jQ n fa fd [x] (mW (K w.params) F wh n f)) :
  PySem.W.WalkO q loose XP YP l.row.toRowW d [] (λf vs=>PySem.call f vs):=
 L2.DX (n:=63) (k:=n) (x:=x) (CX:=jQ) (sp:=λK=>mW K F wh n f) hn (by decide) hdf hr hY Fo (λK H a ns hl hO hS=>by
  obtain⟨h',e⟩:=good ns hl;exact P7 hO hS e) λ_ _ _ _ z=>z
structure At(K:PySem.W.Frag)(x:Str)(st:Stmt)(i:FI):Prop where
 name:i.name=x
 ns:PySem.W.nsIn K mainGlobals x=some (some (.ref i.addr))
 fu:mU K x x st i.addr i.fd
 bd:Binds K i.fd i.ps []
end Sm
set_option maxRecDepth 100000
namespace Sm
open PySem PySem.Spec PyProof.Rows L2
open Ev (D O Hh Fr R aI E Es Eo It T S Ss Fl Src bF bu TY BI ME)
section
variable{G:Tb}{n:Nat}{sc:Scope}{N:List Str}{df:Bool}{m:List Nat}{a b c:E}{xa xb xc:Expr}{pos:Pos}
noncomputable def hasB(N:List Str)(m:List Nat)(x:Str)(i:Nat):Bool:=(List.range N.length).any λj=>m[j]?==some i&&N[j]?==some x
theorem hasB.of{x:Str}{i:Nat}(h:hasB N m x i=true):∃j:Nat,m[j]?=some i/\N[j]?=some x:=by
 obtain⟨j,_,q⟩:=List.any_eq_true.mp h;rw[Bool.and_eq_true]at q;exact⟨j,by simpa using q.1,by simpa using q.2⟩
noncomputable def vB (sc:Scope) (N:List Str) (m:List Nat) (x:Str) (i:Nat):Bool:=hasB N m x i&&(sc.names.lookup x==some .local ||sc.names.lookup x==some .cell ||sc.names.lookup x==some .free)&&!(x==("__debug__" : Str))&&!(x==("__classdict__" : Str))
theorem jv{x:Str}{i:Nat}(h:vB sc N m x i=true):JE G n sc N df m (.v i) (.Name x pos):=by
 unfold vB at h;simp only[Bool.and_eq_true,Bool.not_eq_true',Bool.or_eq_true]at h;obtain⟨⟨⟨h1,h2⟩,h3⟩,h4⟩:=h;obtain⟨j,e1,e2⟩:=hasB.of h1;exact Ug j i e1 e2 (by rcases h2 with (h2|h2)|h2;exact .inl (by simpa using h2);exact .inr (.inl (by simpa using h2));exact .inr (.inr (by simpa using h2))) h3 h4
noncomputable def gB(sc:Scope)(N:List Str)(df:Bool)(m:List Nat)(x:Str)(i:Nat):Bool:=hasB N m x i&&(sc.names.lookup x==some .local || (df&&sc.names.lookup x==some .cell))&&decide m.Nodup&&decide N.Nodup
theorem gB.of{x:Str}{i:Nat}(h:gB sc N df m x i=true):∃j:Nat,m[j]?=some i/\N[j]?=some x/\(sc.names.lookup x=some .local\/(df=true/\sc.names.lookup x=some .cell))/\m.Nodup/\N.Nodup:=by
 unfold gB at h;simp only[Bool.and_eq_true,Bool.or_eq_true]at h;obtain⟨⟨⟨h1,h2⟩,h3⟩,h4⟩:=h;obtain⟨j,e1,e2⟩:=hasB.of h1;exact⟨j,e1,e2,by rcases h2 with h2|⟨h2,h5⟩;exact .inl (by simpa using h2);exact .inr ⟨h2,by simpa using h5⟩,of_decide_eq_true h3,of_decide_eq_true h4⟩
theorem Wm{x:Str}{i:Nat}(h:gB sc N df m x i=true):JG G n sc N df m (.one i) (.Name x pos):=by
 obtain⟨j,e1,e2,e3,e4,e5⟩:=gB.of h;exact LS j i e4 e5 e1 e2 e3
theorem Wn{x:Str}{i:Nat}{l:List Nat}{xs:List Expr}(h:gB sc N df m x i=true)(hs:ue G n sc N df m l xs):ue G n sc N df m (i :: l) (.Name x pos :: xs):=by
 obtain⟨j,e1,e2,e3,e4,e5⟩:=gB.of h;exact D6 j i e4 e5 hs e1 e2 e3
theorem Us{i:Nat}{x:Str}{pos':Pos}(h:gB sc N df m x i=true)(ha:JE G n sc N df m a xa)(hs:∀env:Env,swapsWith xa (some (.Name x pos')) pos.line env=pure false:=by intro _;rfl):JS G n sc N df m (.set i a) (.Assign [.Name x pos'] xa pos):=by
 obtain⟨j,e1,e2,e3,e4,e5⟩:=gB.of h;exact LU j i e4 e5 ha hs e1 e2 e3
noncomputable def qO (sc:Scope) (x:Str):Bool:=sc.names.lookup x==some .globalImplicit&&!(x==("__debug__" : Str))
theorem Sf{f:Nat}{i:FI}{es:Es}{x:Str}{e0:Expr}{xs:List Expr}{p:Pos}(h:qO sc x=true)(hf:G.fi[f]?=some i)(hx:i.name=x)(hs:JA G n sc N df m es (e0 :: xs))
  (hst:∀env:Env,starEach (e0 :: xs) env=(false,eval e0 env) :: starEach xs env:=by intro _;rfl) (hpl:∀env:Env,(backTo pos (starEach xs env)).any (·.1)=false:=by intro _;rfl) :
  JE G n sc N df m (.cl f es) (.Call (.Name x p) (e0 :: xs) [] pos):=by
 subst hx;unfold qO at h;simp only[Bool.and_eq_true,Bool.not_eq_true']at h;exact PN hf hs (by simpa using h.1) h.2 hst hpl
noncomputable def Wo:Expr->List Str
 |.Name x _=>[x]
 |.Tuple xs _ _=>xs.filterMap λy=>match y with|.Name x _=>some x|_=>none
 |_=>[]
noncomputable def Sg(N:List Str)(m:List Nat)(scope:Scope):List (Str×Nat):=(N.zip m).filter λp=>scope.names.contains (p.1,NameKind.free)
noncomputable def cN(N:List Str)(m:List Nat)(scope:Scope)(tg:Expr):List Str:=Wo tg++(Sg N m scope).map (·.1)
noncomputable def cM(N:List Str)(m:List Nat)(scope:Scope)(t:T):List Nat:=Ev.slots t++(Sg N m scope).map (·.2)
theorem P8{elt:E}{t:T}{it:Ev.It}{cond:Eo}{tg xi xe:Expr}{ifs:List Expr}{scope:Scope}(hn:qM sc N m scope t (cN N m scope tg) (cM N m scope t)=true)(hs:Gw sc scope=true)
  (hi:JI G n sc N df m it tg xi) (hg:JG G n (fL sc scope) (cN N m scope tg) false (cM N m scope t) t tg) (hc:JC G n (fL sc scope) (cN N m scope tg) false (cM N m scope t) cond ifs)
  (he:JE G n (fL sc scope) (cN N m scope tg) false (cM N m scope t) elt xe) (hf:∀(env:Env) x,foldedSetIterable xi env x=pure x:=by intro _ _;rfl):JE G n sc N df m (.comp elt t it cond) (.ListComp xe [⟨tg,xi,ifs,0⟩] scope pos):=
 yC hi hg hc he (namesOk.of hn) (lD.of hs) hf
theorem P9{i:Nat}{x:Str}{pos' cpos:Pos}{elt:E}{t:T}{it:Ev.It}{cond:Eo}{tg xi xe:Expr}{ifs:List Expr}{scope:Scope}(h:gB sc N df m x i=true)(hn:qM sc N m scope t (cN N m scope tg) (cM N m scope t)=true)(hs:Gw sc scope=true)
  (hi:JI G n sc N df m it tg xi) (hg:JG G n (fL sc scope) (cN N m scope tg) false (cM N m scope t) t tg) (hc:JC G n (fL sc scope) (cN N m scope tg) false (cM N m scope t) cond ifs)
  (he:JE G n (fL sc scope) (cN N m scope tg) false (cM N m scope t) elt xe) (hf:∀(env:Env) x,foldedSetIterable xi env x=pure x:=by intro _ _;rfl) :
  JS G n sc N df m (.set i (.comp elt t it cond)) (.Assign [.Name x pos'] (.ListComp xe [⟨tg,xi,ifs,0⟩] scope cpos) pos):=by
 obtain⟨j,e1,e2,e3,e4,e5⟩:=gB.of h;exact IB j i e4 e5 hi hg hc he (namesOk.of hn) (lD.of hs) e1 e2 e3 hf
theorem Ut{rest:List Expr}(ha:JT G n sc N df m a xa)(hb:JW G n sc N df m b (.BoolOp .And (xb :: rest) pos)):JT G n sc N df m (.an a b) (.BoolOp .And (xa :: xb :: rest) pos):=LH (Gr ha hb)
theorem Uu{rest:List Expr}(ha:JT G n sc N df m a xa)(hb:JW G n sc N df m b (.BoolOp .Or (xb :: rest) pos)):JT G n sc N df m (.orr a b) (.BoolOp .Or (xa :: xb :: rest) pos):=LH (BH ha hb)
noncomputable def allB(G:Tb)(n:Nat):List (Ss×Stmt×List Str)->Prop
 |[]=>True
 |p :: r=>kO G n (au p.2.1) p.2.2 true (List.range p.2.2.length) p.1 (dD p.2.1)/\allB G n r
theorem allB.get:∀{l:List (Ss×Stmt×List Str)}{k:Nat}{p:Ss×Stmt×List Str},allB G n l->l[k]?=some p->kO G n (au p.2.1) p.2.2 true (List.range p.2.2.length) p.1 (dD p.2.1)
 |[],_,_,_,e=>nomatch e
 |_ :: _,0,_,h,e=>by cases e;exact h.1
 |_ :: r,k+1,p,h,e=>allB.get (l:=r) (k:=k) h.2 (by simpa using e)
end
end Sm
set_option maxRecDepth 100000
namespace Sm
open PySem PySem.Spec PyProof.Rows L2 PySem.W
noncomputable def XI(h:Heap)(x C:Addr):Prop:=∃ox:Obj,h.get? x=some ox/\ox.cls=.ref C/\∃vs,ox.data=.fields vs
structure XC(K:PySem.W.Frag)(C:Addr):Prop where
 ob:∃nm q N bs bm hdct sn sub ab col dd k0 k1 k2 k3 k5 newId,K.lookup C=some (excClassObj nm q C N bs bm hdct sn sub ab col dd k0 k1 k2 k3 k5 newId)/\∀h:Heap,K.In h->OwnTailQ h [.type "ValueError",.type "Exception",.type "BaseException",.type "object"] bm
 ga:findIn K (.ref C) "__getattribute__" = some (some (.builtin "BaseException.__getattribute__"))
 gh:findIn K (.ref C) "__getattr__" = some none
 cl:findIn K (.ref C) "__class__" = some (some (.builtin "object.__class__"))
 so:subIn K (.ref C) (.type "object")=some true
 me:kitCls K (.ref C) (.ref C)=some true
section
variable{prog:Program}{w:World}{A:Around}{E:Value->Shared->Prop}{s:Shared}{K:PySem.W.Frag}{x C:Addr}
theorem oR{M:Model}{h:Heap}(i:XI h x C):Looks M h (typeOf (.ref x)) (.ref C):=λA Q E s k q=>by
 obtain⟨ox,h1,h2,_⟩:=i;exact wpAny_typeOf_ref (k _ _ h1) (by rw[h2];exact q)
theorem MH {R:Result->Shared->Prop}{tp:Value}(di:K.In s.heap) (i:XI s.heap x C) (so:subIn K (.ref C) (.type "object")=some true) (h:R (.ok (.ret (.ref C))) s) :
  codeAny (model prog w) A (.call (.builtin "getset_descriptor.__get__") ⟨[.builtin "object.__class__",.ref x,tp],[]⟩) R s:=by
 refine codeAny_call_builtin (by decide +kernel) KF.entry_gs (KF.slot_gs.check _ _ _ _ _ _ _ _ KF.type_class (KF.args_gs _ _ _) ?_);unfold Builtin.«getset_descriptor.__get__» Builtin.Getset_descriptor.descrGet;rw[dga_obj];show wpAny _ _ (do Builtin.Getset_descriptor.descrCheckInstance (.builtin "object.__class__") (.ref x);again _) _ _ _;refine wpAny_bind ?_;unfold Builtin.Getset_descriptor.descrCheckInstance;have e1:Builtin.Getset_descriptor.descrNameAndClass (.builtin "object.__class__")=pure (("__class__" : Str),Value.type "object"):=by kernel_rfl
 rw[e1];show wpAny _ _ (do let b <-isInstance (.ref x) (.type "object");_) _ _ _;refine wpAny_bind ?_;unfold isInstance;refine wpAny_bind (oR i _ _ _ _ (λ_ _ e=>e) ?_);refine looks_subIn di so _ _ _ _ (λ_ _ e=>e) ?_;refine wpAny_pure ?_;refine wpAny_pure ⟨by kernel_rfl,?_⟩;refine codeAny_builtin KF.entry_class ?_;show wpAny _ _ (do let t <-shownTypeOf (.ref x);ret t) _ _ _;refine wpAny_bind ?_;unfold shownTypeOf;refine wpAny_bind (oR i _ _ _ _ (λ_ _ e=>e) ?_);refine wpAny_pure ?_;exact wpAny_pure h
theorem IV {M:Model}{h:Heap}(di:K.In h) (cl:findIn K (.ref C) "__class__" = some (some (.builtin "object.__class__"))):Looks M h (Builtin.ObjectAttr.find (.ref x) (.ref C) "__class__") (.bind (.builtin "getset_descriptor.__get__") (.builtin "object.__class__")):=λA Q E s k q=>by
 unfold Builtin.ObjectAttr.find;refine wpAny_bind (looks_findIn di cl _ _ _ _ k ?_);refine wpAny_bind ?_;show wpAny _ _ (specialOf _ _) _ _ _;unfold specialOf;rw[KF.type_class];show wpAny _ _ (typeLookup (.type "getset_descriptor") _) _ _ _;refine looks_findIn di (K:=K) (t:=.type "getset_descriptor") (r:=some (.builtin "getset_descriptor.__get__")) (by kernel_rfl) _ _ _ _ k ?_;refine wpAny_bind ?_;show wpAny _ _ (do let b <-Builtin.ObjectAttr.takesStores _;_) _ _ _;refine wpAny_bind ?_;unfold Builtin.ObjectAttr.takesStores;refine wpAny_bind ?_;unfold specialOf;rw[KF.type_class];show wpAny _ _ (typeLookup (.type "getset_descriptor") _) _ _ _;refine looks_findIn di (K:=K) (t:=.type "getset_descriptor") (r:=some (.builtin "getset_descriptor.__set__")) (by kernel_rfl) _ _ _ _ k ?_;refine wpAny_pure ?_;refine wpAny_pure ?_;exact wpAny_bind (wpAny_rule (wpAny_pure q))
theorem En {Q:Option Value->Shared->Prop}(c:XC K C) (di:K.In s.heap) (i:XI s.heap x C) (h:Q (some (.ref C)) { s with toks:=s.toks+1 }):wpAny (model prog w) A (getAttr? (.ref x) "__class__") Q E s:=by
 obtain⟨⟨nm,q,N,bs,bm,hdct,sn,sub,ab,col,dd,k0,k1,k2,k3,k5,newId,lk,ht⟩,ga,gh,cl,so,me⟩:=c;obtain⟨ox,i1,i2,_⟩:=id i;unfold getAttr?;refine wpAny_bind (wpAny_mkText ?_);unfold getAttrBy?;refine wpAny_bind (wpAny_attempt ?_);unfold getAttrBy;refine wpAny_holding (wpAny_bind (oR i _ _ _ _ (λ_ _ e=>e) ?_));refine wpAny_bind (looks_findIn di ga _ _ _ _ (λ_ _ e=>e) ?_);show wpAny _ _ (getAttrByItsOwn _ _ _ _ _ _) _ _ _;unfold getAttrByItsOwn;refine wpAny_bind (looks_hook di (mc:=.ref C) (r:=none) gh _ _ _ _ (λ_ _ e=>e) ?_);refine wpAny_bind (wpAny_attempt (wpAny_holding ?_));show wpAny _ _ (boundAndCalled _ _ _) _ _ _;unfold boundAndCalled;rw[PySem.F.attrBase_ValueError.ga.bind];show wpAny _ _ (call (.builtin "BaseException.__getattribute__") [.ref x,.str "__class__" s.toks]) _ _ _;refine wpAny_call (codeAny_call_builtin (by decide +kernel) PySem.F.entry_bexc_ga (wpAny_check_ga_own PySem.F.attrBase_ValueError (di _ _ lk) (ht _ di) i1 i2 ?_));unfold Builtin.«object.__getattribute__»;have e1:slotArgs "__getattribute__" 1 ⟨[.ref x,.str "__class__" s.toks],[]⟩=pure (Value.ref x,[Value.str "__class__" s.toks]):=rfl;rw[e1];show wpAny _ _ (do let tp <-typeOf (.ref x);_) _ _ _;refine wpAny_bind (oR i _ _ _ _ (λ_ _ e=>e) ?_);refine wpAny_bind (IV di cl _ _ _ _ (λ_ _ e=>e) ?_);show wpAny _ _ (do let r <-holding _ (call _ _);ret r) _ _ _;refine wpAny_bind (wpAny_holding (wpAny_call (MH di i so ?_)));refine wpAny_pure ?_;refine wpAny_pure ?_;exact wpAny_pure h
theorem MI(c:XC K C):KitX K (.ref x) (.ref C) (λh=>XI h x C):=by
 refine⟨λM h di i=>oR i,λM h di _=>(kit_cls di c.me).2.1,λh tp dd its n sl di e=>?_,λ{prog w A E Q s} di i hq=>En c di i hq⟩;by_cases z:C=tp
 .subst z;obtain⟨nm,q,N,bs,bm,hdct,sn,sub,ab,col,dd,k0,k1,k2,k3,k5,newId,lk,ht⟩:=c.ob;have:=di _ _ lk;rw[e]at this;have z:=congrArg Obj.cls (Option.some.inj this);injection z with z
  exact absurd z (by decide)
 .simpa using z
theorem MJ(c:XC K C){D:Value}{b:Bool}(di:K.In s.heap)(i:XI s.heap x C)(e:kitOne K (.ref C) D=some b){Q:Value->Shared->Prop}(h:∀tk,Q (.bool b) { s with toks:=tk }) :
  wpAny (model prog w) A (call (.builtin "isinstance") [.ref x,D]) Q E s:=kia_one (MI c) di i e (λz=>nomatch z) h
end
end Sm
set_option maxRecDepth 100000
namespace Sm
open PySem PySem.Spec PyProof.Rows L2 PySem.W
noncomputable def GL(l:List Env)(H':Hp)(h g B:Heap):Prop:=∀b o,g.get? b=some o->((H' b).isSome=true\/(h.get? b).isSome=true)->b∉frs l->B.get? b=some o
structure jn(P:Program)(w:World)(l:List Env)(H:Hp)(s:Shared)(a C:Addr)(H':Hp)(s':Shared):Prop where
 os:s'.os=s.os
 bare:AllBare s'.gens
 un:Un (frs l) [] H H' s.heap s'.heap
 hok:fh P w H' s'.heap
 fl:∃B a0,Heap.FlyingW B l a (.ref C) a0 s'.heap/\GL l H' s.heap s'.heap B
noncomputable def qP(P:Program)(w:World):lR:=λouter H s E e s'=>∃a C H',e=.ref a/\jn P w outer H s a C H' s'/\E (.ref C) none H'
theorem Cb{P:Program}{w:World}{H:Hp}{h:Heap}{a:Addr}{o:HO}(x:dP P w H h a o):∃ob,h.get? a=some ob:=by
 cases o with
 |lst xs=>obtain⟨_,_,_,_,e⟩:=x;exact⟨_,e⟩
 |tup xs=>obtain⟨_,_,_,ob,e,_⟩:=x;exact⟨_,e⟩
 |dK kvs=>obtain⟨_,_,_,_,o,_,_,e,_⟩:=x;exact⟨_,e⟩
 |dT kvs=>obtain⟨_,_,_,_,o,_,_,e,_⟩:=x;exact⟨_,e⟩
 |set S n=>obtain⟨o,_,_,_,e,_⟩:=x;exact⟨_,e⟩
 |ins C dx fs=>obtain⟨_,_,_,e,_⟩:=x;exact⟨_,e⟩
 |own y=>obtain⟨_,e⟩:=x;exact⟨_,e⟩
 |xd fs=>obtain⟨_,⟨_,_,_,e,_⟩,_⟩:=x;exact⟨_,e⟩
 |gS lo hi=>obtain⟨_,_,_,e⟩:=x;exact⟨_,e⟩
 |bP ob u=>obtain⟨e,_⟩:=x;exact⟨_,e⟩
 |tQ ps=>exact⟨_,(show h.get? a=some _ from x)⟩
 |met f y=>exact⟨_,(show h.get? a=some _ from x)⟩
 |ext φ=>obtain⟨_,e,_⟩:=x;exact e
theorem qm{P:Program}{w:World}{l:List Env}{H H':Hp}{h g g2 B:Heap}(u:Un (frs l) [] H H' h g)(hok:fh P w H' g)(mZ:GL l H' h g B)(st:Heap.StaysIn B g2)(up:∀b∈frs l,∀o,g.get? b=some o->∃sl,g2.get? b=some { o with slots:=sl })(hb:∀b∈frs l,H' b=none) :
  Un (frs l) [] H H' h g2/\fh P w H' g2/\GL l H' h g2 B:=by
 have same:∀b o,g.get? b=some o->((H' b).isSome=true\/(h.get? b).isSome=true)->b∉frs l->g2.get? b=some o:=λb o e z n=>st b o (mZ b o e z n);refine⟨⟨λb o e n hf hx=>same b o (u.keep b o e n hf hx) (.inr (by rw[e];rfl)) hf,λb o e n hf hx=>?_,u.free,λb o e hx=>?_,u.tups,u.j6,u.lg⟩,λa o e=>?_,λb o e z n=>?_⟩
 .obtain⟨sl,e1⟩:=u.slot b o e n hf hx;obtain⟨sl2,e2⟩:=up b hf _ e1;exact⟨sl2,e2⟩
 .obtain⟨o',e1⟩:=u.there b o e hx;by_cases hf:b∈frs l
  .obtain⟨sl,e2⟩:=up b hf _ e1;exact⟨_,e2⟩
  .exact⟨o',same b o' e1 (.inr (by rw[e];rfl)) hf⟩
 .refine(hok a o e).stay (λb v z q=>?_) (λ_ q=>q) λ_ _ q=>q;have tr:(H' b).isSome=true:=by
   rcases z with z|z
   .rw[z,e];rfl
   .rw[z];rfl
  exact same b v q (.inl tr) λhf=>by rw[hb b hf]at tr;cases tr
 .have ex:∃o',g.get? b=some o':=by
   rcases z with z|z
   .obtain⟨x,e1⟩:=Option.isSome_iff_exists.mp z;exact Cb (hok b x e1)
   .obtain⟨x,e1⟩:=Option.isSome_iff_exists.mp z;exact u.there b x e1 (by simp)
  obtain⟨o',e1⟩:=ex;have e2:=same b o' e1 z n;rw[e]at e2;cases e2;exact mZ b o e1 z n
section
variable{X:Cx}{pins:List (Addr×Obj)}{σ:L2.St}{H H':Hp}{s s':Shared}{a C:Addr}
theorem qo(I:Inv X pins σ H s)(u:Un (frs X.stack) [] H H' s.heap s'.heap):∀b∈frs X.stack,H' b=none:=λb hb=>by
 obtain⟨_,o,ho,_⟩:=I.stack.mem hb;exact u.free b o ho (I.sA b hb) (by simp)
theorem uz(hx:X.ex=[])(hs:X.stack=X.env :: X.outer)(I:Inv X pins σ H s){g2:Heap}{B:Heap}{a0:Value}(os:s'.os=s.os)(bare:AllBare s'.gens)(u:Un (frs X.stack) [] H H' s.heap s'.heap)(hok:fh X.prog X.w H' s'.heap)(mZ:GL X.stack H' s.heap s'.heap B)
  (ff:∀b∈frs X.stack,∃o,s'.heap.get? b=some o/\∀vs,o.data≠.fields vs) (fl:Heap.FlyingW B X.outer a (.ref C) a0 g2) (up:Heap.UpToSlots s'.heap g2):jn X.prog X.w X.outer X.H₀ X.s₀ a C H' { s' with heap:=g2 }:=by
 obtain⟨u2,sR,vO⟩:=qm u hok mZ fl.1 (λb hb o e=>by
  obtain⟨o',e1,e2⟩:=ff b hb;rw[e]at e1;cases e1;exact up b o e e2) (qo I u)
 have I2:Inv X pins σ H' { s' with heap:=g2 }:=I.uM (s':={ s' with heap:=g2 }) (ch:=[]) os u2 sR bare (λb z=>absurd z (by simp));refine⟨os.trans I.os,bare,by have:=I2.base;rw[hx]at this;exact this,sR,B,a0,fl,λb o e z n=>?_⟩;have hne:b≠X.env.locals:=λy=>by
  rcases z with z|z
  .rw[y,I2.free]at z;cases z
  .obtain⟨x,e1⟩:=Option.isSome_iff_exists.mp z;rw[y]at e1;exact absurd (Heap.lt_size e1) (Nat.not_lt.mpr I.ok.above)
 refine vO b o e (z.imp id λz=>?_) λhb=>?_
 .obtain⟨x,e1⟩:=Option.isSome_iff_exists.mp z;obtain⟨x',e2⟩:=I.base.there b x e1 (by rw[hx];simp);rw[e2];rfl
 .rcases List.mem_cons.mp (I.qC b hb)with y|y
  .exact hne y
  .exact n y
theorem qQ:∀{l:List Env}{h base B:Heap},Heap.FunFrames h base l->(∀b∈frs l,B.get? b=none)->Heap.FunFrames h B l
 |[],_,_,_,_,_=>trivial
 |env :: r,h,base,B,hl,n=>by
  obtain⟨hk,⟨L,o,hf,hn,ho,hd⟩,hr⟩:=hl;exact⟨hk,⟨L,o,hf,n L (by unfold frs;rw[List.filterMap_cons,hf];exact List.mem_cons_self),ho,hd⟩,qQ hr λb hb=>n b (by unfold frs;rw[List.filterMap_cons,hf];exact List.mem_cons_of_mem _ hb)⟩
theorem Ep{Q:Unit->Shared->Prop}{E:Value->Shared->Prop}(hx:X.ex=[])(hs:X.stack=X.env :: X.outer)(hf:X.env.frame=some X.env.locals)(I:Inv X pins σ H s)(f:jn X.prog X.w X.stack H s a C H' s')(q:∀s'',jn X.prog X.w X.outer X.H₀ X.s₀ a C H' s''->Q () s'') :
  wpAny (model X.prog X.w) X.A (leaving X.env (.ref a)) Q E s':=by
 obtain⟨os,bare,un,hok,B,a0,fl,mZ⟩:=f;have ff:∀b∈frs X.stack,∃o,s'.heap.get? b=some o/\∀vs,o.data≠.fields vs:=λb hb=>(fl.2.2.1.mem hb).2;rw[hs]at fl;exact wpAny_leaves_onW (by rw[I.ok.frames,hs]) hf fl λh' vP up=>q _ (uz hx hs I os bare un hok mZ ff vP up)
theorem Az{Q:Unit->Shared->Prop}{E:Value->Shared->Prop}{h1:Heap}{args:List Value}(hx:X.ex=[])(hs:X.stack=X.env :: X.outer)(hf:X.env.frame=some X.env.locals)(I:Inv X pins σ H s)(m:Heap.MadeExcOf s.heap h1 a (.ref C) args)(q:∀s'',jn X.prog X.w X.outer X.H₀ X.s₀ a C H s''->Q () s'') :
  wpAny (model X.prog X.w) X.A (leaving X.env (.ref a)) Q E { s with heap:=h1 }:=by
 have cut:∀b∈frs X.stack,(hideAll s.heap (frs X.stack)).get? b=none:=λb hb=>hideAll_none _ hb;have MK:=qQ (B:=hideAll s.heap (frs X.stack)) I.stack cut;have ff:∀b∈frs X.stack,∃o,s.heap.get? b=some o/\∀vs,o.data≠.fields vs:=λb hb=>(MK.mem hb).2;refine wpAny_leaves_madeW (base:=hideAll s.heap (frs X.stack)) (h:=s.heap) (by rw[I.ok.frames,hs]) hf (λb o e=>of_hideAll _ e) (by rw[hs]at MK ⊢;exact MK) m λh' t vP _ _ up=>q _ ?_;have:=uz (s':=s) hx hs I (g2:=h') rfl I.bare Un.refl I.hok (B:=hideAll s.heap (frs X.stack)) (λb o e _ n=>hideAll_get _ e n) ff vP λb o e hd=>up b o (m.keeps b o e) hd;exact this
theorem jn.inv(f:jn X.prog X.w X.stack H s a C H' s')(I:Inv X pins σ H s):Inv X pins σ H' s':=I.uM (ch:=[]) f.os f.un f.hok f.bare (λb z=>absurd z (by simp))
theorem jn.xi{P:Program}{w:World}{l:List Env}(f:jn P w l H s a C H' s'):XI s'.heap a C:=by
 obtain⟨B,a0,fl,_⟩:=f.fl;obtain⟨oe,vs,T,oT,ts,h1,h2,h3,_⟩:=fl.2.2.2;exact⟨oe,h1,h2.1,vs,h3⟩
theorem jn.new{P:Program}{w:World}{l:List Env}(f:jn P w l H s a C H' s'):a∉frs l/\H' a=none:=by
 obtain⟨oe,h1,h2,vs,h3⟩:=f.xi;obtain⟨B,a0,fl,mZ⟩:=f.fl;have n1:a∉frs l:=λhb=>by
  obtain⟨_,o,e1,e2⟩:=fl.2.2.1.mem hb;rw[h1]at e1;cases e1;exact e2 vs h3
 refine⟨n1,?_⟩;cases z:H' a with
 |none=>rfl
 |some x=>
  have:=mZ a oe h1 (.inl (by rw[z];rfl)) n1;rw[fl.2.1]at this;cases this
theorem jn.on{A:Around}{M:Model}{P:Program}{w:World}{l:List Env}{Q:Unit->Shared->Prop}{E:Value->Shared->Prop}(f:jn P w l H s a C H' s')(hb:∀b∈frs l,H' b=none)(q:∀s'',jn P w l H s a C H' s''->Q () s''):wpAny M A (setFlight (.ref a) none) Q E s':=by
 obtain⟨os,bare,un,hok,B,a0,fl,mZ⟩:=f;refine lands_againW fl λh2 Cc up=>q _ ?_;obtain⟨u2,sR,vO⟩:=qm un hok mZ Cc.1 (λb hb o e=>by
  obtain⟨_,o',e1,e2⟩:=fl.2.2.1.mem hb;rw[e]at e1;cases e1;exact up b o e e2) hb
 exact⟨os,bare,u2,sR,B,a0,Cc,vO⟩
theorem AA(I:Inv X pins σ H s)(f:jn X.prog X.w X.stack H s a C H' s')(hs:X.stack=X.env :: X.outer)(hf:X.env.frame=some X.env.locals){Q:Unit->Shared->Prop}{E:Value->Shared->Prop}
  (q:∀s'',jn X.prog X.w X.stack H s a C H' s''->Q () s''):wpAny (model X.prog X.w) X.A (noteFrame (.ref a) X.env) (λ_ s₂=>wpAny (model X.prog X.w) X.A (setFlight (.ref a) none) Q E s₂) E s':=by
 obtain⟨os,bare,un,hok,B,a0,fl,mZ⟩:=f;have ff:∀b∈frs X.stack,∃o,s'.heap.get? b=some o/\∀vs,o.data≠.fields vs:=λb hb=>(fl.2.2.1.mem hb).2;have fr:=qo I un;rw[hs]at fl;refine wpAny_looks_onW (by rw[I.ok.frames,hs]) hf fl λh1 hl1 up1=>wpAny_landsW hl1 λh2 Cc Wq=>q _ ?_;obtain⟨u2,sR,vO⟩:=qm un hok mZ Cc.1 (λb hb o e=>by
  obtain⟨o',e1,e2⟩:=ff b hb;rw[e]at e1;cases e1;obtain⟨sl,e3⟩:=up1 b o e e2;obtain⟨sl2,e4⟩:=Wq b _ e3 e2;exact⟨sl2,e4⟩) fr
 exact⟨os,bare,u2,sR,B,a0,by rw[hs];exact Cc,vO⟩
end
end Sm
set_option maxRecDepth 100000
namespace Sm
open PySem PySem.Spec PyProof.Rows L2 PySem.W
section
variable{X:Cx}
theorem ML{e:Expr}{t t':TE}(h:PE X e t)(w:∀s H Q,t' s H Q->t s H Q):PE X e t':=λpins s σ H Q I q=>h pins s σ H Q I (w _ _ _ q)
theorem IW{a:Addr}{oe:Obj}{C:Addr}{D:V}{Du:Value}{b:Bool}{ed:Expr}{xe:Str}{p p1 pos:Pos}(hp:(a,oe)∈X.pn)(ho:oe.cls=.ref C)(hd:∃vs,oe.data=.fields vs)(c:XC X.K C)(hD:PE X ed (tC D))(rD:∀u,RelV D u->u=Du)(k:kitOne X.K (.ref C) Du=some b)
  (hN:X.N[0]?=some xe) (hv:tR X.env.scope xe) (hg:Gl X "isinstance") (hm:X.mg "isinstance" = none) (hst:∀env:Env,starEach [.Name xe p1,ed] env=(false,eval (.Name xe p1) env) :: starEach [ed] env) (lG:∀env:Env,starEach [ed] env=(false,eval ed env) :: starEach [] env)
  (MM:(xe==("__debug__" : Str))=false) (Wr:(xe==("__classdict__" : Str))=false) :
  PE X (.Call (.Name "isinstance" p) [.Name xe p1,ed] [] pos) (λσ H Q=>σ[0]?=some (some (.ref a))/\Q (.bl b) H):=by
 have hc:fU X (.builtin "isinstance") (λxs H Q=>xs=[.ref a,D]/\Q (.bl b) H):=by
  intro pins s σ H xs us Q I rv q;obtain⟨rfl,q⟩:=q;cases rv with
  |cons r1 rv=>
   cases rv with
   |cons r2 rv=>
    cases rv;cases r1;obtain rfl:=rD _ r2;obtain⟨h1,_⟩:=I.pin (a,oe) (List.mem_append.mpr (.inl hp));exact MJ c I.fF ⟨oe,h1,ho,hd⟩ k λtk=>⟨.bl b,H,I.tok _,rfl,q⟩
 refine ML (qd hc hg hm (by decide +kernel) (cJ (qD hN hv MM Wr) (cJ hD g6 (lG _)) (hst _)) (by decide) (by decide) (hst _) (by rw[lG];rfl)) λs H Q q=>?_;exact⟨_,q.1,rfl,q.2⟩
theorem sS:∀{bs:List Bool}{its:List Value},Vals (bs.map V.bl) its->its=bs.map Value.bool
 |[],_,h=>by cases h;rfl
 |b :: bs,_,h=>by
  cases h with
  |cons r h=>cases r;rw[sS h];rfl
noncomputable def GN:Value->Bool
 |.bool b=>b
 |_=>false
theorem vQ(bs:List Bool):∀y∈(bs.map Value.bool).toArray,MeetsSeq.EqGives y (.bool true) (GN y):=λy hy=>by
 rw[List.mem_toArray,List.mem_map]at hy;obtain⟨b,_,rfl⟩:=hy;intro prog w A E s Q q;refine SeqAt.EqAt.bool_bool b true prog w E Q ?_;cases b<;>exact q
section
variable{o:Expr}{to:TE}{j:Nat}{ap pos p1:Pos}
theorem IX (ho:PE X o to) (hbase:attributeBase o "count" X.env (eval o X.env)=eval o X.env:=by rfl) (hline:(ap.endLine==pos.line)=true:=by rfl):PE X (.Call (.Attribute o "count" ap) [.Constant (.bool true) j p1] [] pos) (λσ H Q=>to σ H λx H1=>∃(l:Addr) (bs:List Bool),x=.ref l/\H1 l=some (.lst (bs.map V.bl))/\Q (.int (bs.countP id)) H1):=by
 intro pins s σ H Q I h;refine wpAny_Call_method_late hbase rfl hline rfl (bI (ho pins s σ H _ I h) λv s1 ⟨x,H1,I1,r1,l,bs,ex,hl,q⟩=>?_);subst ex;cases r1;obtain⟨z,its,n,r,hn,e⟩:=I1.mD hl;obtain rfl:=sS r;refine⟨"list","list.count",PySem.F.plainAttrs_list,PySem.F.slot_list_count,PySem.F.type_list_count,⟨_,e,rfl⟩,λa ha=>by cases ha;exact⟨_,e,rfl⟩,?_⟩;show wpAny _ _ (callWith pos (.builtin "list.count") [.ref l] [(false,eval (.Constant (.bool true) j p1) X.env)] []) _ _ _;refine PySem.P.count_list (Constant_bool ⟨_,n,GN,e,vQ bs,?_⟩);refine⟨.int (bs.countP id),H1,I1.tok _,⟨s1.toks,?_⟩,q⟩;have:List.countP GN (bs.map Value.bool)=bs.countP id:=by rw[List.countP_map];rfl
 rw[List.toList_toArray,this]
theorem IY (ho:PE X o to) (hbase:attributeBase o "index" X.env (eval o X.env)=eval o X.env:=by rfl) (hline:(ap.endLine==pos.line)=true:=by rfl):PE X (.Call (.Attribute o "index" ap) [.Constant (.bool true) j p1] [] pos) (λσ H Q=>to σ H λx H1=>∃(l:Addr) (bs:List Bool) (k:Nat),x=.ref l/\H1 l=some (.lst (bs.map V.bl))/\(bs[k]?=some true/\(∀m,m<k->bs[m]?=some false)/\k<1000)/\Q (.int k) H1):=by
 intro pins s σ H Q I h;refine wpAny_Call_method_late hbase rfl hline rfl (bI (ho pins s σ H _ I h) λv s1 ⟨x,H1,I1,r1,l,bs,k,ex,hl,⟨hk1,hk2,XM⟩,q⟩=>?_);subst ex;cases r1;obtain⟨z,its,n,r,hn,e⟩:=I1.mD hl;obtain rfl:=sS r;refine⟨"list","list.index",PySem.F.plainAttrs_list,PySem.F.slot_list_index,PySem.F.type_list_index,⟨_,e,rfl⟩,λa ha=>by cases ha;exact⟨_,e,rfl⟩,?_⟩;show wpAny _ _ (callWith pos (.builtin "list.index") [.ref l] [(false,eval (.Constant (.bool true) j p1) X.env)] []) _ _ _;have hlt:=(List.getElem?_eq_some_iff.mp hk1).1;refine PySem.P.index_list (Constant_bool ⟨_,n,GN,k,by simpa using hlt,e,vQ bs,by omega,?_,λm hm h2=>?_,?_⟩)
 .simp only[List.getElem_toArray,List.getElem_map];show bs[k]=true;exact(List.getElem?_eq_some_iff.mp hk1).2
 .simp only[List.getElem_toArray,List.getElem_map];show bs[m]'(by simpa using hm)=false;exact(List.getElem?_eq_some_iff.mp (hk2 m h2)).2
 .exact⟨.int k,H1,I1.tok _,⟨_,rfl⟩,q⟩
end
structure GO(K:PySem.W.Frag)(C:Addr)(c:Nat)(D0 D1 D2 D3:Addr):Prop where
 xc:XC K C
 k0:kitOne K (.ref C) (.ref D0)=some (decide (c=0))
 k1:kitOne K (.ref C) (.ref D1)=some (decide (c=1))
 k2:kitOne K (.ref C) (.ref D2)=some (decide (c=2))
 k3:kitOne K (.ref C) (.ref D3)=some (decide (c=3))
 kv:kitOne K (.ref C) (.type "ValueError")=some true
 lt:c<4
structure Ws(X:Cx)(n0 n1 n2 n3:Str)(D0 D1 D2 D3:Addr):Prop where
 g0:Gl X n0
 g1:Gl X n1
 g2:Gl X n2
 g3:Gl X n3
 gi:Gl X "isinstance"
 gv:Gl X "ValueError"
 m0:X.mg n0=some (.ref D0)
 m1:X.mg n1=some (.ref D1)
 m2:X.mg n2=some (.ref D2)
 m3:X.mg n3=some (.ref D3)
 mi:X.mg "isinstance" = none
 mv:X.mg "ValueError" = none
theorem IZ{st:List Stmt}{t t':TS}(h:fj X st t)(w:∀D σ H,t' D σ H->t D σ H):fj X st t':=λpins s σ H D I q=>h pins s σ H D I (w _ _ _ q)
set_option maxHeartbeats 1000000 in
theorem Er{a:Addr}{oe:Obj}{C D0 D1 D2 D3:Addr}{c:Nat}{tb:List Stmt}{p0 p1 p2 p3 p4 p5 p6 p7 p8 p9 GP GQ GR GS GU GV GW GY GZ G0 Cd Wt Wu Wv Sh Si Ww Wx Wy Wz WA WB WC WD WE WG WH Sj Sk WI WJ WK WL WM:Pos}
  (hp:(a,oe)∈X.pn) (ho:oe.cls=.ref C) (hd:∃vs,oe.data=.fields vs) (k:GO X.K C c D0 D1 D2 D3) (g:Ws X "NoFit" "Clash" "NoPlace" "NoNumber" D0 D1 D2 D3)
  (hN:X.N=(["_law_e","_law_flags"]:List Str)) (h0:X.env.scope.names.lookup ("_law_e" : Str)=some .local) (h1:X.env.scope.names.lookup ("_law_flags" : Str)=some .local)
  (hl1:(Sh.endLine==Si.line)=true) (hl2:(Sj.endLine==Sk.line)=true) :
  fj X [.Assign [.Name "_law_flags" p0] (.List [.Call (.Name "isinstance" p1) [.Name "_law_e" p2,.Name "NoFit" p3] [] p4,.Call (.Name "isinstance" p5) [.Name "_law_e" p6,.Name "Clash" p7] [] p8,.Call (.Name "isinstance" p9) [.Name "_law_e" GP,.Name "NoPlace" GQ] [] GR] GS) GU,
   .Assign [.Name "_law_flags" GV] (.BinOp (.Name "_law_flags" GW) .Add (.List [.Call (.Name "isinstance" GY) [.Name "_law_e" GZ,.Name "NoNumber" G0] [] Cd] Wt) Wu) Wv,
   .If (.BoolOp .Or [.Compare (.Call (.Attribute (.Name "_law_flags" Ww) "count" Sh) [.Constant (.bool true) 0 Wx] [] Si) [.NotEq] [.Constant (.int 1) 0 Wy] Wz,.UnaryOp .Not (.Call (.Name "isinstance" WA) [.Name "_law_e" WB,.Name "ValueError" WC] [] WD) WE] WG) tb [] WH,
   .Return (some (.Tuple [.Constant (.str "refused") 0 WI,.Call (.Attribute (.Name "_law_flags" WJ) "index" Sj) [.Constant (.bool true) 0 WK] [] Sk] 0 WL)) WM] (λD σ H=>σ=[some (.ref a),none]/\∀p H',(∀b o,H b=some o->H' b=some o)->H' p=some (.tup [.str "refused",.int c])->D.rt (.ref p) H'):=by
 have v0:tR X.env.scope ("_law_e" : Str):=.inl h0;have v1:tR X.env.scope ("_law_flags" : Str):=.inl h1;have n0:X.N[0]?=some ("_law_e" : Str):=by rw[hN];rfl
 have n1:X.N[1]?=some ("_law_flags" : Str):=by rw[hN];rfl
 have nd:X.N.Nodup:=by rw[hN];decide
 have fK:∀{ed:Expr} {D:V} {Du:Value} {b:Bool} {q0 q1 q2:Pos},PE X ed (tC D)->(∀u,RelV D u->u=Du)->kitOne X.K (.ref C) Du=some b->(∀env:Env,starEach [.Name "_law_e" q1,ed] env=(false,eval (.Name "_law_e" q1) env) :: starEach [ed] env)->(∀env:Env,starEach [ed] env=(false,eval ed env) :: starEach [] env)->
   PE X (.Call (.Name "isinstance" q0) [.Name "_law_e" q1,ed] [] q2) (λσ H Q=>σ[0]?=some (some (.ref a))/\Q (.bl b) H):=λh1 h2 h3 h4 h5=>IW hp ho hd k.xc h1 h2 h3 n0 v0 g.gi g.mi h4 h5 (by decide) (by decide)
 have i0:=λ{q0 q1 q2 q3:Pos}=>fK (q0:=q0) (q1:=q1) (q2:=q2) (oG (pos:=q3) g.g0 g.m0 (v:=.ref D0) rfl) (λu r=>r) k.k0 (λ_=>rfl) (λ_=>rfl);have i1:=λ{q0 q1 q2 q3:Pos}=>fK (q0:=q0) (q1:=q1) (q2:=q2) (oG (pos:=q3) g.g1 g.m1 (v:=.ref D1) rfl) (λu r=>r) k.k1 (λ_=>rfl) (λ_=>rfl);have i2:=λ{q0 q1 q2 q3:Pos}=>fK (q0:=q0) (q1:=q1) (q2:=q2) (oG (pos:=q3) g.g2 g.m2 (v:=.ref D2) rfl) (λu r=>r) k.k2 (λ_=>rfl) (λ_=>rfl);have i3:=λ{q0 q1 q2 q3:Pos}=>fK (q0:=q0) (q1:=q1) (q2:=q2) (oG (pos:=q3) g.g3 g.m3 (v:=.ref D3) rfl) (λu r=>r) k.k3 (λ_=>rfl) (λ_=>rfl);have iv:=λ{q0 q1 q2 q3:Pos}=>fK (q0:=q0) (q1:=q1) (q2:=q2) (xZ (pos:=q3) g.gv g.mv (by decide +kernel) (v:=.ty "ValueError") rfl) (λu r=>r) k.kv (λ_=>rfl) (λ_=>rfl);have MN:=λ{q:Pos}=>qD (X:=X) (pos:=q) n1 v1;refine IZ (jr (qF (i:=1) (pos':=p0) nd n1 (.inl h1) (ve (cJ i0 (cJ i1 (cJ i2 g6)))) rfl (.inr h1)) (jr (qF (i:=1) nd n1 (.inl h1) (Gm BC MN (ve (cJ i3 g6))) rfl (.inr h1))
  (jr (zL (PW.pt (Gh (ye Pn (IX MN rfl hl1) Bf (jG _)) (Bh (Bj (KG iv))))) Bo x6) (x8 (Bk (Bw (cJ Bg (cJ (IY MN rfl hl2) g6)))))))) λD σ H q=>?_
 obtain⟨rfl,q⟩:=q;refine⟨rfl,rfl,rfl,by show 3<=sizeLine;decide,λl hl=>?_⟩;refine⟨_,rfl,rfl,by show 1<=sizeLine;decide,λl2 hl2=>?_⟩;have ne:l2≠l:=λz=>by rw[z,cW]at hl2;cases hl2
 refine⟨l,l2,_,_,rfl,rfl,by rw[bx ne.symm];exact cW,cW,by show 4<=sizeLine;decide,λp hp=>?_⟩;have lt:=k.lt;have keep:∀{H1:Hp} {q:Addr} {x:HO},(∀b o,H b=some o->H1 b=some o)->H1 q=none->∀b o,H b=some o->upd H1 q x b=some o:=λk1 k2 b o e=>by rw[bx (bV (k1 b o e) k2)];exact k1 b o e
 have k3:=keep (x:=.lst ([V.bl (decide (c=0)),.bl (decide (c=1)),.bl (decide (c=2))]++[.bl (decide (c=3))])) (keep (x:=.lst [.bl (decide (c=3))]) (keep (x:=.lst [V.bl (decide (c=0)),.bl (decide (c=1)),.bl (decide (c=2))]) (λ_ _ e=>e) hl) hl2) hp;have fin:∀{H3:Hp},(∀b o,H b=some o->H3 b=some o)->∀t,H3 t=none->D.rt (.ref t) (upd H3 t (.tup [.str "refused",.int c])):=λk1 t ht=>q t _ (keep k1 ht) cW;have c4:c=0\/c=1\/c=2\/c=3:=by omega
 have hc:[decide (c=0),decide (c=1),decide (c=2),decide (c=3)].countP id=1:=by rcases c4 with rfl|rfl|rfl|rfl<;>decide
 have hi:[decide (c=0),decide (c=1),decide (c=2),decide (c=3)][c]?=some true/\(∀m,m<c->[decide (c=0),decide (c=1),decide (c=2),decide (c=3)][m]?=some false)/\c<1000:=by rcases c4 with rfl|rfl|rfl|rfl<;>decide
 refine⟨_,rfl,p,[decide (c=0),decide (c=1),decide (c=2),decide (c=3)],rfl,cW,?_⟩;rw[hc];refine⟨rfl,_,rfl,?_⟩;dsimp only;rw[if_neg (by decide)];refine⟨rfl,_,rfl,?_⟩;dsimp only;rw[if_neg (by decide)];refine⟨_,rfl,p,[decide (c=0),decide (c=1),decide (c=2),decide (c=3)],c,rfl,cW,hi,?_⟩;exact⟨by show 2<=sizeLine;decide,fin k3⟩
structure WN(K:PySem.W.Frag)(C D0:Addr)(c:Nat):Prop where
 xc:XC K C
 k0:kitOne K (.ref C) (.ref D0)=some true
 kv:kitOne K (.ref C) (.type "ValueError")=some true
 c0:c=0
end
end Sm
set_option maxRecDepth 100000
namespace Sm
open PySem PySem.Spec PyProof.Rows L2 PySem.W
section
variable{P:Program}{w:World}{K:PySem.W.Frag}{mg:Str->Option Value}{base:Heap}
noncomputable def G1(P:Program)(w:World)(K:PySem.W.Frag)(mg:Str->Option Value)(base:Heap)(N:List Str)(qual:Str)(scope:Scope)(f:Addr)(cd:Value)(A:Around)(outer:List Env)(s:Shared)(H:Hp)(a:Addr)(oe:Obj):Cx:=
 { jM jQ P w K mg base N qual scope f cd A outer s H E0 with calm:=false,pn:=[(a,oe)],xe:=λ_ _=>False }
theorem Et{x qual:Str}{st:Stmt}{f:Addr}{fd:FuncData}{N ps:List Str}{A:Around}{outer:List Env}{s:Shared}{H:Hp}{args:Args}{us:List Value}{vs:List V}{Q:VK}{a:Addr}{oe:Obj}(F:mU K x qual st f fd)(S:bH N ps (au st))(dp:A.depth<recursionLimit)
  (e0:sC P w K mg base A outer s H) (hb:BindsTo s fd args (ps.zip us)) (r:Vals vs us) (hl:vs.length=ps.length) (p1:s.heap.get? a=some oe) (p2:H a=none) (p3:a∉frs outer) (p4:∀v,oe.data≠.cell v)
  (hbody:∀(cdv:Value) (X:Cx),X=G1 P w K mg base N qual (au st) f cdv A outer s H a oe->∃t,fj X (dD st) t/\t { nx:=λ_ H'=>Q .aL H',rt:=Q } (start N vs) H) :
  codeAny (model P w) A (.call (.ref f) args) (CR jQ outer P w H s Q E0) s:=by
 obtain⟨oc,od,kV,doc,pm,an,cdv,ct,osl,rfl,lk,hcd⟩:=F.ex;have KX:K.In s.heap:=e0.mod.di.keeps λb o e=>(e0.bs b o e).1;have lim:s.heap.NoLimit:=e0.mod.nolimit.keeps λb o e=>(e0.bs b o e).1;have hkind:∀y∈ps.zip us,(au st).names.lookup y.1=some .local\/((au st).names.lookup y.1=some .cell/\((cellsFrom (s.heap.objs.size+1) (au st).names []).lookup y.1).isSome=true):=λ⟨n,v⟩ hy=>by
  rcases S.par n (List.of_mem_zip hy).1 with q|q
  .exact .inl q
  .exact .inr ⟨q,PySem.W.cellsFrom_some _ _ _ (.inl q)⟩
 refine codeAny_call_function dp (KX _ _ lk) rfl S.co S.gen rfl (PySem.W.codeRec_of KX hcd) (hb _ _ _ _ ?_);refine wpAny_newFunctionEnv_cells S.kind hkind λenv he s1 y=>?_;subst he;refine⟨lim.keeps y.toInCall.keep,codeAny_func ?_⟩;obtain⟨t,ht,hq⟩:=hbody cdv _ rfl;have I0:Inv (jM jQ P w K mg base N qual (au st) f cdv { A with handled:=none } outer s H E0) [] (start N vs) H s1:=tZ S rfl ⟨e0.frames,e0.mod,e0.bs,e0.m8,e0.iD,e0.pD,e0.hok,e0.bare⟩ hl r y;have ok:=I0.ok;have I:Inv (G1 P w K mg base N qual (au st) f cdv A outer s H a oe) [] (start N vs) H s1:=
  ⟨⟨ok.mod,ok.kind,ok.glob,ok.blt,ok.above,ok.inj,ok.has,ok.u9,(λh=>nomatch h),Around.frames_deeper e0.frames,ok.stk,ok.Bc,ok.bs,ok.m8,ok.pY,ok.pZ,ok.iD,ok.pD⟩,I0.os,I0.bare,I0.base,I0.loc,I0.cell,I0.free,I0.iy,
   λp hp=>by
    obtain rfl:p=(a,oe):=by simpa[G1]using hp
    exact⟨y.toInCall.keep _ _ p1,p2,λz=>by
     have:=Heap.lt_size p1;rw[show a=s.heap.objs.size from z]at this;exact absurd this (Nat.lt_irrefl _),p3,p4⟩,I0.hok,I0.len⟩
 refine wpAny_mono (ht [] s1 (start N vs) H _ I hq) (λfl s' hs=>?_) λe s' hs=>hs.elim;have fin:∀{σ':L2.St} {H':Hp} {v:V} {u:Value},Inv (G1 P w K mg base N qual (au st) f cdv A outer s H a oe) [] σ' H' s'->RelV v u->Q v H'->CE outer P w H s Q u s':=
  λ{σ' H' v u} J rv q=>⟨v,H',J.os,J.bare,J.base,J.hok,rv,q⟩
 cases fl with
 |ret u=>
  obtain⟨v,σ',H',J,rv,q⟩:=hs;exact fin J rv q
 |next=>
  obtain⟨σ',H',J,q⟩:=hs;exact fin (v:=V.aL) (u:=Value.none) J rfl q
 |brk=>
  obtain⟨_,_,_,q⟩:=hs;exact False.elim q
 |cont=>
  obtain⟨_,_,_,q⟩:=hs;exact False.elim q
end
end Sm
set_option maxRecDepth 100000
namespace Sm
open PySem PySem.Spec PyProof.Rows L2 PySem.W
section
variable{X:Cx}{pins:List (Addr×Obj)}{σ:L2.St}{H H':Hp}{s s':Shared}{a C:Addr}
theorem Ce{M:Model}{A:Around}{E:Value->Shared->Prop}{i:Nat}{x:Str}{v:V}{Q:Unit->Shared->Prop}(I:Inv X pins σ H s)(hN:X.N.Nodup)(hi:X.N[i]?=some x)(hk:X.env.scope.names.lookup x=some .local)(hv:σ[i]?=some (some v))
  (h:∀s',Inv X pins (σ.set i none) H s'->Q () s'):wpAny M A (unbindName X.env x) Q E s:=by
 obtain⟨m,hn,hl⟩:=id I.loc;have hcls:(X.env.scope.kind==.class || (X.env.scope.kind==.module&&X.env.locals != X.env.globals))=false:=by rw[I.ok.kind];rfl
 have m9:=I.m9;obtain⟨u,r,q⟩:=hl i x v hi hv (.inl hk);have hm:m x=some u:=by
  rcases q with ⟨_,e⟩|⟨k,_⟩
  .exact e
  .rcases k with k|k
   .rw[show X.env.kindOf x=X.env.scope.names.lookup x from rfl,hk]at k;cases k
   .rw[show X.env.kindOf x=X.env.scope.names.lookup x from rfl,hk]at k;cases k
 refine wpAny_unbindName_local hk hn hm hcls λh' u' hn' hs=>?_;obtain⟨oL,_,_,RS,_⟩:=id hn;have tracked:fh X.prog X.w H h':=λb ob e=>by
  refine(I.hok b ob e).stay (λc w' hc q=>(hs.2 c ?_).trans q) (λ_ q=>q) λ_ _ q=>q;rintro rfl;rcases hc with rfl|hc
  .rw[I.free]at e;cases e
  .rw[I.free]at hc;cases hc
 refine h _ ⟨I.ok,I.os,I.bare,⟨λb o e n hb hx=>?_,λb o e n hb hx=>?_,I.base.free,λb o e hx=>?_,I.base.tups,I.base.j6,I.base.lg⟩,⟨_,hn',λj y v' e1 e2 e3=>?_⟩,λy c e=>?_,I.free,I.iy,λp hp=>?_,tracked,by simpa using I.len⟩
 .exact(hs.2 b (Nat.ne_of_lt (Nat.lt_of_lt_of_le (Heap.lt_size e) I.ok.above))).trans (I.base.keep b o e n hb hx)
 .obtain⟨sl,e1⟩:=I.base.slot b o e n hb hx;exact⟨sl,(hs.2 b (Nat.ne_of_lt (Nat.lt_of_lt_of_le (Heap.lt_size e) I.ok.above))).trans e1⟩
 .obtain⟨o',e1⟩:=I.base.there b o e hx;exact⟨o',(hs.2 b (Nat.ne_of_lt (Nat.lt_of_lt_of_le (Heap.lt_size e) I.ok.above))).trans e1⟩
 .have zK:i<σ.length:=by rw[I.len];exact(List.getElem?_eq_some_iff.mp hi).1
  by_cases hj:j=i
  .subst hj;rw[List.getElem?_set_self zK]at e2;cases e2
  .rw[List.getElem?_set_ne (Ne.symm hj)]at e2;obtain⟨u',r',q⟩:=hl j y v' e1 e2 e3;refine⟨u',r',?_⟩;rcases q with ⟨k,e⟩|⟨k,c,e,z⟩
   .refine .inl ⟨k,?_⟩;have:y≠x:=λe=>hj (qa hN e1 (e▸hi));simp[this,e]
   .exact .inr ⟨k,c,e,z.sameBut hs (m9 y c e)⟩
 .obtain⟨w',z⟩:=I.cell y c e;exact⟨w',z.sameBut hs (m9 y c e)⟩
 .obtain⟨e,n,ne,nf,d⟩:=I.pin p hp;exact⟨(hs.2 p.1 ne).trans e,n,ne,nf,d⟩
structure Eu(K:PySem.W.Frag)(mg:Str->Option Value)(rf:Addr)(rd:FuncData)(uA:Stmt)(Wc:Addr)(KC:Addr->Nat->Prop):Prop where
 fn:mU K "_law_refused" "_law_refused" uA rf rd
 sc:bH ["_law_e","_law_flags"] ["_law_e"] (au uA)
 bd:Binds K rd ["_law_e"] []
 mr:mg "_law_refused" = some (.ref rf)
 mw:mg "WayError" = some (.ref Wc)
 body:∀(Y:Cx) (a:Addr) (oe:Obj) (C:Addr) (c:Nat),Y.N=(["_law_e","_law_flags"]:List Str)->Y.env.scope=au uA->Y.K=K->Y.mg=mg->(a,oe)∈Y.pn->oe.cls=.ref C->(∃vs,oe.data=.fields vs)->KC C c->
  fj Y (dD uA) (λD σ H=>σ=[some (.ref a),none]/\∀p H',(∀b o,H b=some o->H' b=some o)->H' p=some (.tup [.str "refused",.int c])->D.rt (.ref p) H')
theorem MO{rf:Addr}{rd:FuncData}{uA:Stmt}{Wc:Addr}{KC:Addr->Nat->Prop}{c i:Nat}{D:Ends}{p1 p2 p3 p4 p5 p6:Pos}{E:Value->Shared->Prop}(R:Eu X.K X.mg rf rd uA Wc KC)(k:KC C c)(kw:exmOne X.K (.ref C) (.ref Wc)=some true)
  (hs:X.stack=X.env :: X.outer) (hf:X.env.frame=some X.env.locals) (dp:X.A.depth<recursionLimit) (hN:X.N.Nodup) (hi:X.N[i]?=some ("_law_e" : Str)) (hk:X.env.scope.names.lookup ("_law_e" : Str)=some .local) (g1:Gl X "_law_refused") (g2:Gl X "WayError")
  (I1:Inv X pins σ H s) (f:jn X.prog X.w X.stack H s a C H' s') (q:∀p qR,(∀b o,H' b=some o->qR b=some o)->qR p=some (.tup [.str "refused",.int c])->D.rt (.ref p) qR) :
  wpAny (model X.prog X.w) X.A (noteFrame (.ref a) X.env) (λ_ s₂=>wpAny (model X.prog X.w) X.A (setFlight (.ref a) none) (λ_ s₃=>wpAny (model X.prog X.w) X.A (handleBy (.ref a) X.env [.ExceptHandler (some (.Name "WayError" p1)) (some "_law_e") [.Return (some (.Call (.Name "_law_refused" p2) [.Name "_law_e" p3] [] p4)) p5] p6]) (SP X pins D) E s₃) E s₂) E s':=by
 refine AA I1 f hs hf λs2 f2=>?_;have I2:=f2.inv I1;have WO:=f2.un;refine wpAny_handleBy_cons (codeAny_handlers_test ?_) (λz=>nomatch z);refine Calls.Name_function_global I2.ok.kind g2 (Calls.loadGlobal_global (by rw[I2.ok.glob];exact I2.mod.glob.keeps I2.bk) R.mw ?_) (by decide);refine exm_one I2.fF (oR f2.xi) kw _ _ _ _ (λ_ _ e=>e) ?_;show codeAny _ _ (Code.handlers (.ref a) [.ExceptHandler none (some "_law_e") _ p6] X.env) _ s2;refine codeAny_handlers_suite_as ?_;refine f2.on (qo I1 WO) λs3 f3=>?_;have I3:=f3.inv I1;obtain⟨nf,na⟩:=f3.new;obtain⟨oe,x1,x2,vs,x3⟩:=f3.xi;refine ng I3 hN hi (.inl hk) (v:=.ref a) rfl (λs4 I4 ⟨b,WQ,hb⟩=>?_) (.inr hk);have hab:a≠b:=λz=>by
  subst z;rcases hb with z|z
  .obtain⟨m,⟨o,es,ep,e1,e2,_⟩,_⟩:=I3.loc;rw[<-z,x1]at e1;cases e1;rw[x3]at e2;cases e2
  .obtain⟨v,o,e1,e2⟩:=I3.cell _ _ z;rw[x1]at e1;cases e1;rw[x3]at e2;cases e2
 have x4:s4.heap.get? a=some oe:=(WQ.2 a hab).trans x1;have hσ:(σ.set i (some (V.ref a)))[i]?=some (some (.ref a)):=List.getElem?_set_self (by rw[I3.len];exact(List.getElem?_eq_some_iff.mp hi).1);refine wpAny_execs_cons (wpAny_Return_some (wpAny_Call_Name_kw ?_));refine Calls.Name_function_global I4.ok.kind g1 (Calls.loadGlobal_global (by rw[I4.ok.glob];exact I4.mod.glob.keeps I4.bk) R.mr ?_) (by decide);refine callWith_K (h₀:=X.base) I4.ok.mod.di R.fn.kp ?_ rfl rfl;show wpAny _ _ (spliced ((false,eval (.Name "_law_e" p3) X.env) :: [])) _ _ _;refine Calls.spliced_cons ?_;obtain⟨m,hn,hl⟩:=I4.loc;obtain⟨u,r,l⟩:=hl i _ _ hi hσ (.inl hk);cases r;have hm:m "_law_e" = some (.ref a):=by
  rcases l with ⟨_,e⟩|⟨z,_⟩
  .exact e
  .rcases z with z|z<;>rw[show X.env.kindOf "_law_e" = X.env.scope.names.lookup ("_law_e" : Str)from rfl,hk]at z<;>cases z
 refine wpAny_Name (wpAny_loadName_local I4.ok.kind hk hn hm ?_) (by decide);refine Calls.spliced_nil ⟨I4.fF,?_⟩;have e0:sC X.prog X.w X.K X.mg X.base (X.A.mark (some (.ref a))) X.stack s4 H':=⟨I4.lu.frames,I4.lu.mod,I4.lu.bs,I4.lu.m8,I4.lu.iD,I4.lu.pD,I4.lu.hok,I4.lu.bare⟩
 refine wpAny_call (codeAny_mono (Et (args:=⟨[.ref a],[]⟩) (us:=[.ref a]) (vs:=[.ref a]) (Q:=λv qR=>∃p,v=.ref p/\(∀b o,H' b=some o->qR b=some o)/\qR p=some (.tup [.str "refused",.int c])) R.fn R.sc dp e0 (R.bd s4 [.ref a] I4.fF rfl) (.cons rfl .nil) rfl x4 na nf (λv=>by rw[x3];exact λz=>nomatch z) λcdv Y hY=>⟨_,R.body Y a oe C c (by rw[hY];rfl) (by rw[hY];rfl) (by rw[hY];rfl) (by rw[hY];rfl) (by rw[hY];exact List.mem_singleton.mpr rfl) x2 ⟨vs,x3⟩ k,rfl,λp qR k1 k2=>⟨p,rfl,k1,k2⟩⟩) λres s5 hq=>?_);cases res with
 |error e=>exact hq.elim
 |ok fl=>
  cases fl with
  |next=>exact hq.elim
  |brk=>exact hq.elim
  |cont=>exact hq.elim
  |ret u5=>
   obtain⟨v,H5,WR,Qa,WS,Uv,r5,p,rfl,k1,k2⟩:=hq;have I5:Inv X pins _ H5 s5:=I4.uM (ch:=[]) WR WS Uv Qa (λb z=>absurd z (by simp));show wpAny _ _ (do bindName X.env "_law_e" .none;unbindBehindTheSuite X.env "_law_e" p6) _ _ s5;refine wpAny_bind (wpAny_bindName (qb I5 hN hi (.inl hk) (v:=.aL) rfl (λs6 I6=>?_) (.inr hk)));refine wpAny_onRaise (Ce I6 hN hi hk (v:=.aL) (List.getElem?_set_self (by simpa using (List.getElem?_eq_some_iff.mp hσ).1)) λs7 I7=>?_);exact⟨.ref p,_,H5,I7,r5,q p H5 k1 k2⟩
end
end Sm
set_option maxRecDepth 100000
namespace Sm
open PySem PySem.Spec PyProof.Rows L2
open Ev (D O Hh Fr R aI E Es Eo It T S Ss Fl Src bF bu TY BI ME)
abbrev G2:List Value:=[.type "ValueError",.type "Exception",.type "BaseException",.type "object"]
noncomputable def yL (K:PySem.W.Frag) (C:Addr):Prop:=∃nm q N bs bm hdct sn sub ab col dd k0 k1 k2 k3 k5,K.lookup C=some (excClassObj nm q C N bs bm hdct sn sub ab col dd k0 k1 k2 k3 k5 "ValueError.__new__")/\bm.contains (.type "BaseException")=true/\∀h:Heap,K.In h->∃mN,h.Ns N mN/\mN "__init__" = none/\OwnTail h G2 bm
noncomputable def vR(K:PySem.W.Frag)(cl:Nat->Addr)(F:List Ev.Fn)(w n f:Nat):Sp:=λvs H Q E=>∃r h ds c h',aD K H r ds vs/\HR K H r h/\Ev.cD F w n f ds h=some (c,h')/\∀H' r',HR K H' r' h'->Fm K r r' H H'->E (.ref (cl c)) none H'
inductive tX(K:PySem.W.Frag)(cl:Nat->Addr)(m:List Nat)(E:XK)(f:Fr->Hh->Ev.XR)(s:L2.St)(H:Hp):Prop
 |mk (r:List Addr) (fr:Fr) (h:Hh) (c:Nat) (h':Hh) (sr:SR K m H r fr s) (hr:HR K H r h) (e:f fr h=some (c,h')) (q:∀H' r',HR K H' r' h'->Fm K r r' H H'->E (.ref (cl c)) none H'):tX K cl m E f s H
structure GX(G:Tb)(cl:Nat->Addr)(cV:List (Str×Nat))(rz su:List Nat)(n:Nat)(sc:Scope)(N:List Str)(df:Bool)(E:XK)(X:Cx):Prop where
 g:Good G n sc N df X.eg
 own:PassesOwn (model X.prog X.w) X.A X.env X.xe
 ps:Passes (qP X.prog X.w) X E
 md:∀(pins:List (Addr×Obj)) (σ:L2.St) (H:Hp) (s:Shared) (h1:Heap) (e C:Addr) (args:List Value),Inv X pins σ H s->Heap.MadeExcOf s.heap h1 e (.ref C) args->E (.ref C) none H->X.xe (.ref e) { s with heap:=h1 }
 fn:∀(f:Nat) i,G.fi[f]?=some i->su.contains f=true->fJ X.prog X.w X.K X.mg X.base (qP X.prog X.w) n i.addr i.fd i.ps (vR X.K cl G.F G.w n f)
 nz:∀f,rz.contains f=false->∀ds h,Ev.cD G.F G.w n f ds h=none
 cs:∀x c,(x,c)∈cV->X.mg x=some (.ref (cl c))/\yL X.K (cl c)
theorem PA.eg{X:Cx}{es:List Expr}{t:TA}(h:PA X.eg es t):PA X es t:=λpos pins s σ H Q I hw=>
 wpAny_mono (h pos pins s σ H Q (I.iU _) hw) (λ_ _ ⟨vs,H',I',r,q⟩=>⟨vs,H',I'.gf,r,q⟩) λ_ _ z=>False.elim z
theorem PS.eg{X:Cx}{st:Stmt}{t:TS}(h:PS X.eg st t):PS X st t:=λpins s σ H D I hw=>
 wpAny_mono (h pins s σ H D (I.iU _) hw) (λ_ _ q=>q.gf) λ_ _ z=>False.elim z
section
variable(G:Tb)(cl:Nat->Addr)(cV:List (Str×Nat))(rz su:List Nat)(n:Nat)(sc:Scope)(N:List Str)(df:Bool)(m:List Nat)
noncomputable def G3(e:E)(x:Expr):Prop:=∀X Ex,GX G cl cV rz su n sc N df Ex X->PE X x (λs H _=>tX X.K cl m Ex (Ev.xe (Ev.run G.F G.w n) (Ev.cD G.F G.w n) e) s H)
noncomputable def Cf(es:Es)(xs:List Expr):Prop:=∀X Ex,GX G cl cV rz su n sc N df Ex X->PA X xs (λs H _=>tX X.K cl m Ex (Ev.xa (Ev.run G.F G.w n) (Ev.cD G.F G.w n) es) s H)
noncomputable def yN(st:S)(x:Stmt):Prop:=∀X Ex,GX G cl cV rz su n sc N df Ex X->PS X x (λ_ s H=>tX X.K cl m Ex (Ev.xs (Ev.run G.F G.w n) (Ev.cD G.F G.w n) G.w st) s H)
noncomputable def lH(ss:Ss)(xs:List Stmt):Prop:=∀X Ex,GX G cl cV rz su n sc N df Ex X->fj X xs (λ_ s H=>tX X.K cl m Ex (Ev.xss (Ev.run G.F G.w n) (Ev.cD G.F G.w n) G.w ss) s H)
end
section
variable{G:Tb}{cl:Nat->Addr}{cV:List (Str×Nat)}{rz su:List Nat}{n:Nat}{sc:Scope}{N:List Str}{df:Bool}{m:List Nat}{a b:E}{xa xb:Expr}{pos:Pos}
theorem Cg{es:Es}{xs:List Expr}(h:Ev.yl rz es=true):Cf G cl cV rz su n sc N df m es xs:=λX Ex g pos pins s σ H Q I q=>by
 obtain⟨r,fr,h1,c,h',sr,hr,e,q⟩:=q;rw[Ev.Aa g.nz _ h]at e;cases e
theorem lU{s:S}{x:Stmt}(h:Ev.pH rz s=true):yN G cl cV rz su n sc N df m s x:=λX Ex g pins s σ H Q I q=>by
 obtain⟨r,fr,h1,c,h',sr,hr,e,q⟩:=q;rw[Ev.Lo g.nz _ h]at e;cases e
theorem fM{s:Ss}{xs:List Stmt}(h:Ev.ly rz s=true):lH G cl cV rz su n sc N df m s xs:=λX Ex g pins s σ H Q I q=>by
 obtain⟨r,fr,h1,c,h',sr,hr,e,q⟩:=q;rw[Ev.mE g.nz _ h]at e;cases e
theorem Qc{f:Nat}{i:FI}{es:Es}{x:Str}{e0:Expr}{xs:List Expr}{p:Pos}(h:qO sc x=true)(hu:su.contains f=true)(hf:G.fi[f]?=some i)(hx:i.name=x)(hs:JA G n sc N df m es (e0 :: xs))(ks:Cf G cl cV rz su n sc N df m es (e0 :: xs))
  (hst:∀env:Env,starEach (e0 :: xs) env=(false,eval e0 env) :: starEach xs env:=by intro _;rfl) (hpl:∀env:Env,(backTo pos (starEach xs env)).any (·.1)=false:=by intro _;rfl) :
  G3 G cl cV rz su n sc N df m (.cl f es) (.Call (.Name x p) (e0 :: xs) [] pos):=λX Ex g pins s σ H Q I q=>by
 subst hx;unfold qO at h;simp only[Bool.and_eq_true,Bool.not_eq_true']at h;obtain⟨h1,h2,h3,_⟩:=g.g.fn f i hf;have hg:Gl X i.name:=g.g.gl (by simpa using h.1);obtain⟨r,fr,hh,c,h',sr,hr,e,q⟩:=q;simp only[Ev.xe]at e;split at e
 .rename_i ds hd ey;refine sD (g.fn f i hf hu) g.g.room hg h1 h2 h3 .nil g.ps (PA.eg (hs X.eg g.g)) h.2 (hst _) (hpl _) pins s σ H Q I ⟨r,fr,hh,ds,hd,sr,hr,ey,λvs H1 r1 v1 hr1 f1=>?_⟩;exact⟨r1,hd,ds,c,h',by rw[List.append_nil];exact v1,hr1,e,λH' r' y1 y2=>q H' r' y1 (f1.trans y2)⟩
 .exact sD (g.fn f i hf hu) g.g.room hg h1 h2 h3 .nil g.ps (ks X Ex g) h.2 (hst _) (hpl _) pins s σ H Q I ⟨r,fr,hh,c,h',sr,hr,e,q⟩
theorem Ew{es:Es}{xs:List Expr}(ha:JE G n sc N df m a xa)(ka:G3 G cl cV rz su n sc N df m a xa)(ks:Cf G cl cV rz su n sc N df m es xs)(hst:∀env:Env,starEach (xa :: xs) env=(false,eval xa env) :: starEach xs env:=by intro _;rfl):Cf G cl cV rz su n sc N df m (.cons a es) (xa :: xs):=λX Ex g pos pins s σ H Q I q=>by
 obtain⟨r,fr,hh,c,h',sr,hr,e,q⟩:=q;simp only[Ev.xa]at e;split at e
 .rename_i d hd ey;exact cJ (PE.eg (ha X.eg g.g)) (ks X Ex g) (hst _) pos pins s σ H Q I ⟨r,fr,hh,d,hd,sr,hr,ey,λv H1 r1 v1 hr1 f1=>⟨r1,fr,hd,c,h',sr.mono f1,hr1,e,λH' r' y1 y2=>q H' r' y1 (f1.trans y2)⟩⟩
 .exact cJ (ka X Ex g) (t:=λ_ _ _=>False) (λ_ _ _ _ _ _ _ z=>z.elim) (hst _) pos pins s σ H Q I ⟨r,fr,hh,c,h',sr,hr,e,q⟩
theorem Ja(ka:G3 G cl cV rz su n sc N df m a xa)(hs:∀env:Env,swapsWith xa none pos.line env=pure false:=by intro _;rfl):yN G cl cV rz su n sc N df m (.exp a) (.Expr xa pos):=λX Ex g pins s σ H Q I q=>by
 obtain⟨r,fr,hh,c,h',sr,hr,e,q⟩:=q;simp only[Ev.xs]at e;exact x9 (ka X Ex g) (hs _) pins s σ H Q I ⟨r,fr,hh,c,h',sr,hr,e,q⟩
theorem oS{ta tb:Ss}{ya yb:List Stmt}(hc:JT G n sc N df m a xa)(kc:Ev.nB rz a=true)(h1:lH G cl cV rz su n sc N df m ta ya)(h2:lH G cl cV rz su n sc N df m tb yb):yN G cl cV rz su n sc N df m (.iff a ta tb) (.If xa ya yb pos):=λX Ex g pins s σ H Q I q=>by
 obtain⟨r,fr,hh,c,h',sr,hr,e,q⟩:=q;simp only[Ev.xs]at e;split at e
 .rename_i k h3 ey;refine zL (PT.eg (hc X.eg g.g)) (h1 X Ex g) (h2 X Ex g) pins s σ H Q I ⟨r,fr,hh,k,h3,sr,hr,ey,λH1 r1 hr1 f1=>?_⟩;cases k with
  |true=>exact⟨r1,fr,h3,c,h',sr.mono f1,hr1,by simpa using e,λH' r' y1 y2=>q H' r' y1 (f1.trans y2)⟩
  |false=>exact⟨r1,fr,h3,c,h',sr.mono f1,hr1,by simpa using e,λH' r' y1 y2=>q H' r' y1 (f1.trans y2)⟩
 .rw[Ev.qf g.nz _ kc]at e;cases e
theorem cI{st:S}{ss:Ss}{x:Stmt}{xs:List Stmt}(h1:JS G n sc N df m st x)(k1:yN G cl cV rz su n sc N df m st x)(ks:lH G cl cV rz su n sc N df m ss xs):lH G cl cV rz su n sc N df m (.cons st ss) (x :: xs):=λX Ex g pins s σ H Q I q=>by
 obtain⟨r,fr,hh,c,h',sr,hr,e,q⟩:=q;simp only[Ev.xss]at e;split at e
 .rename_i af h3 ey;exact jr (PS.eg (h1 X.eg g.g)) (ks X Ex g) pins s σ H Q I ⟨r,fr,hh,.nx,af,h3,sr,hr,ey,λs1 H1 r1 mX hr1 f1=>⟨r1,af,h3,c,h',mX,hr1,e,λH' r' y1 y2=>q H' r' y1 (f1.trans y2)⟩⟩
 .cases e
 .exact jr (k1 X Ex g) (ks X Ex g) pins s σ H Q I ⟨r,fr,hh,c,h',sr,hr,e,q⟩
theorem yO{c:Nat}{x t:Str}{np cp p1 pos:Pos}{j:Nat}(hx:(x,c)∈cV:=by decide +kernel)(h:qO sc x=true:=by decide +kernel):yN G cl cV rz su n sc N df m (.fk c) (.Raise (some (.Call (.Name x np) [.Constant (.str t) j p1] [] cp)) none pos):=λX Ex g pins s σ H Q I q=>by
 obtain⟨r,fr,hh,c',h',sr,hr,e,q⟩:=q;simp only[Ev.xs]at e;cases e;unfold qO at h;simp only[Bool.and_eq_true,Bool.not_eq_true']at h;have hg:Gl X x:=g.g.gl (by simpa using h.1);obtain⟨hm,nm,qn,Nn,bs,bm,hdct,sn,sub,ab,col,dd,k0,k1,k2,k3,k5,lk,hb,hN⟩:=g.cs x _ hx;have qE:=q H r hr .refl;obtain⟨mN,n1,n2,n3⟩:=hN s.heap I.fF;refine wpAny_Raise_call_subT (nm:=nm) (q:=qn) (N:=Nn) (bs:=bs) (hdct:=hdct) (sn:=sn) (sub:=sub) (ab:=ab) (col:=col) (dd:=dd) (k0:=k0) (k1:=k1) (k2:=k2) (k3:=k3) (k5:=k5) PySem.F.excBase_ValueError hb g.g.room.hd rfl n2 (oF I hg hm ⟨rfl,?_⟩ h.2);refine Calls.evalArgs_plain ?_;show wpAny _ _ (spliced ((false,eval (.Constant (.str t) j p1) X.env) :: [])) _ _ _;refine Calls.spliced_cons (Calls.Constant_str (Calls.spliced_nil ⟨rfl,by show 1<=sizeLine;decide,I.fF _ _ lk,n1,n3,λh1 e mk=>?_⟩));exact g.md pins σ H { s with toks:=s.toks+1 } h1 e _ _ (I.tok _) mk qE
section
variable{P:Program}{w:World}{K:PySem.W.Frag}{mg:Str->Option Value}{base:Heap}
noncomputable def vS(P:Program)(w:World)(K:PySem.W.Frag)(mg:Str->Option Value)(base:Heap)(G:Tb)(cl:Nat->Addr)(su:List Nat)(n:Nat):Prop:=∀(f:Nat) i,G.fi[f]?=some i->su.contains f=true->fJ P w K mg base (qP P w) n i.addr i.fd i.ps (vR K cl G.F G.w n f)
theorem MP{f:Addr}{fd:FuncData}{ps:List Str}{k:Nat}(z:∀ds h,Ev.cD G.F G.w n k ds h=none):fJ P w K mg base (qP P w) n f fd ps (vR K cl G.F G.w n k):=by
 have no:∀vs H Q E,¬ vR K cl G.F G.w n k vs H Q E:=λvs H Q E h=>by
  obtain⟨r,h,ds,c,h',_,_,e,_⟩:=h;rw[z]at e;cases e
 exact⟨λvs H Q E h=>absurd h (no vs H Q E),λA outer s H args us vs Q E _ _ _ _ h=>absurd h (no vs H Q E)⟩
theorem Ci{x qual:Str}{st:Stmt}{i:FI}{N:List Str}{f:Nat}{fn:Ev.Fn}(T:Top P w K mg G)(A0:oJ P w K mg base G n)(A1:vS P w K mg base G cl su n)(hz:Ev.pI rz 0 G.F=true)(hc:∀x c,(x,c)∈cV->mg x=some (.ref (cl c))/\yL K (cl c))
  (F:mU K x qual st i.addr i.fd) (S:bH N i.ps (au st)) (hf:G.F[f]?=some fn) (hp:i.ps.length=fn.np)
  (hb:lH G cl cV rz su n (au st) N true (List.range N.length) fn.body (dD st)):fJ P w K mg base (qP P w) (n+1) i.addr i.fd i.ps (vR K cl G.F G.w (n+1) f):=by
 have hlen:∀vs H Q E,vR K cl G.F G.w (n+1) f vs H Q E->vs.length=i.ps.length:=λvs H Q E h=>by
  obtain⟨r,h,ds,c,h',v1,_,e,_⟩:=h;simp only[Ev.iZ,hf]at e;split at e
  .rename_i z;rw[v1.length,z,hp]
  .cases e
 obtain⟨oc,od,kV,doc,pm,an,cdv,ct,osl,e0,lk,hcd⟩:=F.ex;rw[e0]at lk ⊢;refine Gn lk hcd S hlen λA outer s H vs Q Ex hr iV=>?_;have hl:=hlen vs H Q Ex iV;have hN:vs.length<=N.length:=by
  have:=congrArg List.length S.pre;rw[List.length_take]at this;omega
 have g:Good G n (au st) N true (jM (qP P w) P w K mg base N qual (au st) i.addr cdv A outer s H Ex).eg:=
  ⟨rfl,rfl,rfl,λ_ _=>rfl,hr,rfl,λf i hi=>⟨(T.fn f i hi).1,(T.fn f i hi).2.1,(T.fn f i hi).2.2,A0 f i hi⟩,T.bl,T.cs,T.dk⟩
 have gx:GX G cl cV rz su n (au st) N true Ex (jM (qP P w) P w K mg base N qual (au st) i.addr cdv A outer s H Ex):=
  ⟨g,PassesOwn.leaving,λpins σ H1 s1 e s' I ⟨a,C,H',h1,fl,q⟩=>by
    subst h1;exact Ep rfl rfl rfl I fl λs'' vP=>⟨a,C,H',rfl,vP,q⟩,
   λpins σ H1 s1 h1 e C args I mk q=>Az rfl rfl rfl I mk λs'' vP=>⟨e,C,H1,rfl,vP,q⟩,A1,Ev.ym hz G.w n,hc⟩
 refine⟨_,hb _ Ex gx,?_⟩;obtain⟨r,h,ds,c,h',v1,hr1,e,q⟩:=iV;simp only[Ev.iZ,hf]at e;split at e
 .exact⟨r,Ev.dz fn ds,h,c,h',qi v1 hN,hr1,e,q⟩
 .cases e
theorem MQ{X:Cx}{k:Nat}{f:Addr}{fd:FuncData}{ps:List Str}{sp:Sp}{x:Str}{p pos:Pos}{e:Expr}{es:List Expr}{t:TA}{pins:List (Addr×Obj)}{σ:L2.St}{H:Hp}{s:Shared}{Ex:XK}{Q:Value->Shared->Prop}{E':Value->Shared->Prop}
  (F:fJ X.prog X.w X.K X.mg X.base (qP X.prog X.w) k f fd ps sp) (hr:gU k X.A) (hg:Gl X x) (hm:X.mg x=some (.ref f)) (hk:PySem.W.keepIn X.K (.ref f)=true) (hb:Binds X.K fd ps []) (hd:(x==("__debug__" : Str))=false) (ha:PA X (e :: es) t) (WT:X.xe=λ_ _=>False)
  (hst:starEach (e :: es) X.env=(false,eval e X.env) :: starEach es X.env) (hpl:(backTo pos (starEach es X.env)).any (·.1)=false)
  (I:Inv X pins σ H s) (h:t σ H λvs H1=>sp vs H1 (λ_ _=>False) Ex) (q:∀H1 s1 a C H' s',Inv X pins σ H1 s1->jn X.prog X.w X.stack H1 s1 a C H' s'->Ex (.ref C) none H'->E' (.ref a) s') :
  wpAny (model X.prog X.w) X.A (eval (.Call (.Name x p) (e :: es) [] pos) X.env) Q E' s:=by
 refine wpAny_Call_Name_kw (oF I hg hm ?_ hd);refine PySem.W.callWith_K (h₀:=X.base) I.ok.mod.di hk (wpAny_mono (ha pos pins s σ H _ I h) (λus s1 ⟨vs,H1,I1,r,q1⟩=>⟨I1.fF,?_⟩) (λ_ _ z=>by rw[WT]at z;exact z.elim)) hst hpl;have hl:us.length=ps.length:=by rw[<-r.length];exact F.len _ _ _ _ q1
 have hb1:=hb s1 us I1.fF (by rw[List.append_nil];exact hl);rw[List.append_nil]at hb1;refine wpAny_call (codeAny_mono (F.run X.A X.stack s1 H1 ⟨us,[]⟩ us vs _ Ex hr I1.lu hb1 r q1) λres s' hq=>?_);cases res with
 |error e=>
  obtain⟨a,C,H',rfl,fl,e1⟩:=hq;exact q H1 s1 a C H' s' I1 fl e1
 |ok fl=>
  cases fl with
  |ret u=>obtain⟨v,H',_,_,_,_,_,z⟩:=hq;exact z.elim
  |next=>exact hq.elim
  |brk=>exact hq.elim
  |cont=>exact hq.elim
theorem Jb{H H':Hp}{r:List Addr}{h:Hh}(k:∀b o,H b=some o->H' b=some o):Fm K r r H H'/\(HR K H r h->HR K H' r h):=by
 have f:Fm K r r H H':=⟨λ_ _ e=>e,λ_ e=>.inl e,λa o e _=>k a o e,λa vs e=>by
  rcases e with (e|⟨ob,e⟩)|e
  .exact .inl (.inl (k _ _ e))
  .exact .inl (.inr ⟨ob,k _ _ e⟩)
  .exact .inr e⟩
 refine⟨f,λhr=>⟨hr.len,λn o e=>?_,hr.inj
  ⟩⟩
 obtain⟨a,e1,q⟩:=hr.ob n o e;exact⟨a,e1,q.mono f (λ_ _ _ z=>k _ _ z) (λ_ _ z=>k _ _ z)
  ⟩
theorem MR{F:List Ev.Fn}{w n f:Nat}{ds:List D}{h h':Hh}{d:D}(hF:F.length<=1000)(e:Ev.run F w n (f+Ev.xo) ds h=.ok d h'):∃c:Nat,d=.int c/\Ev.cD F w n f ds h=some (c,h'):=by
 cases n with
 |zero=>cases e
 |succ n=>
  rw[Ev.gy,List.getElem?_eq_none (by show F.length<=f+1000;omega)]at e;simp only[Ev.mV]at e;rw[if_pos (Nat.le_add_left _ _),Nat.add_sub_cancel]at e;split at e
  .rename_i c h2 z;cases e;exact⟨c,rfl,z⟩
  .cases e
theorem Jc{x qual:Str}{st:Stmt}{i j:FI}{N:List Str}{ft f:Nat}{fn:Ev.Fn}{es:Es}{e0:Expr}{xs:List Expr}{p cp p0 p1 p2 p3 p4 p5 p6 p7:Pos}{rf Wc:Addr}{KC:Addr->Nat->Prop}{nc:Nat}{rd:FuncData}{uA:Stmt}{ix:Nat}(T:Top P w K mg G)(A0:oJ P w K mg base G n)(A1:vS P w K mg base G cl su n)(hG:G.F.length<=1000)
  (R:Eu K mg rf rd uA Wc KC) (kc:∀c,c<nc->KC (cl c) c/\PySem.W.exmOne K (.ref (cl c)) (.ref Wc)=some true)
  (F:mU K x qual st i.addr i.fd) (S:bH N i.ps (au st)) (Sn:G.F[ft]?=some fn) (hp:i.ps.length=fn.np) (hbody:fn.body=.cons (.tr f nc es) .nil) (hj:G.fi[f]?=some j) (WU:su.contains f=true)
  (hst:dD st=[.Try [.Return (some (.Call (.Name j.name p) (e0 :: xs) [] cp)) p0] [.ExceptHandler (some (.Name "WayError" p1)) (some "_law_e") [.Return (some (.Call (.Name "_law_refused" p2) [.Name "_law_e" p3] [] p4)) p5] p6] [] [] p7])
  (hs:JA G n (au st) N true (List.range N.length) es (e0 :: xs)) (hcl:qO (au st) j.name=true) (h1:N[ix]?=some ("_law_e" : Str)) (h2:(au st).names.lookup ("_law_e" : Str)=some .local) (h3:(au st).names.lookup ("_law_refused" : Str)=some .globalImplicit) (h4:(au st).names.lookup ("WayError" : Str)=some .globalImplicit)
  (se:∀env:Env,starEach (e0 :: xs) env=(false,eval e0 env) :: starEach xs env:=by intro _;rfl) (sp:∀env:Env,(backTo cp (starEach xs env)).any (·.1)=false:=by intro _;rfl) :
  fJ P w K mg base jQ (n+1) i.addr i.fd i.ps (mW K G.F G.w (n+1) ft):=by
 have hlen:∀vs H Q E,mW K G.F G.w (n+1) ft vs H Q E->vs.length=i.ps.length:=λvs H Q E h=>by
  obtain⟨r,h,ds,d,h',v1,_,e,_⟩:=h;simp only[Ev.gy,Sn]at e;split at e
  .rename_i z;rw[v1.length,z,hp]
  .cases e
 refine F.ok S hlen λcdv A outer s H vs Q Ex hr iV=>?_;have hl:=hlen vs H Q Ex iV;have hN:vs.length<=N.length:=by
  have:=congrArg List.length S.pre;rw[List.length_take]at this;omega
 generalize hX:(jM jQ P w K mg base N qual (au st) i.addr cdv A outer s H Ex).eg=X
 have g:Good G n (au st) N true X:=by
  rw[<-hX];exact⟨rfl,rfl,rfl,λ_ _=>rfl,hr,rfl,λf i hi=>⟨(T.fn f i hi).1,(T.fn f i hi).2.1,(T.fn f i hi).2.2,A0 f i hi⟩,T.bl,T.cs,T.dk⟩
 have WV:X.stack=X.env :: X.outer:=by rw[<-hX];rfl
 have xf:X.env.frame=some X.env.locals:=by rw[<-hX];rfl
 have xK:X.K=K:=by rw[<-hX];rfl
 have xm:X.mg=mg:=by rw[<-hX];rfl
 have F1:fJ X.prog X.w X.K X.mg X.base (qP X.prog X.w) n j.addr j.fd j.ps (vR X.K cl G.F G.w n f):=by rw[<-hX];exact A1 f j hj WU
 refine⟨sJ X.K (List.range N.length) (Ev.run G.F G.w n) G.w fn.body,?_,?_⟩
 .rw[hst,hbody];refine fj.of (x8 (t:=sJ X.K (List.range N.length) (Ev.run G.F G.w n) G.w (.cons (.tr f nc es) .nil)) λpins s1 σ1 H1 D I q=>?_) λQ s H q=>q;obtain⟨r,fr,h,fl,aj,h',sr,hr',e,q⟩:=q;simp only[Ev.exs,Ev.ex]at e;obtain⟨⟨g9,af⟩,h2',e2,e⟩:=Ev.ah e;obtain⟨ds,h3',e3,e2⟩:=Ev.ah e2;obtain⟨y,XN,e4,e2⟩:=Ev.ah e2;cases e2;cases e;refine wpAny_Try_except ?_;cases ey:Ev.run G.F G.w n f ds h3' with
  |ok d hd=>
   rw[ey]at e4;obtain⟨rfl,rfl⟩:d=y/\hd=h':=by simpa[Ev.tryD]using e4
   have st1:=vv (BK (pos:=p0) (Sf (pos:=cp) (p:=p) hcl hj rfl hs se sp)) (yr (G:=G) (n:=n) (sc:=au st) (N:=N) (df:=true) (m:=List.range N.length)) X g pins s1 σ1 H1 { nx:=λ_ _=>False,rt:=D.rt } I ⟨r,fr,h,.ret d,fr,_,sr,hr',by simp only[Ev.exs,Ev.ex,Ev.ev,e3,Ev.ak,ey],q⟩;refine wpAny_mono st1 (λf s2 hq=>?_) (λ_ _ z=>by rw[g.xe]at z;exact z.elim);cases f with
   |ret u=>exact hq
   |next=>obtain⟨_,_,_,z⟩:=hq;exact z.elim
   |brk=>obtain⟨_,_,_,z⟩:=hq;exact z.elim
   |cont=>obtain⟨_,_,_,z⟩:=hq;exact z.elim
  |bad=>
   rw[ey]at e4;simp only[Ev.tryD]at e4;obtain⟨dc,XO,e5,e4⟩:=Ev.ah e4;obtain⟨c,rfl,ex⟩:=MR hG e5;obtain⟨e6,e7⟩:=Ev.aM e4;subst e7;simp only[Ev.D5]at e6;split at e6
   case isFalse=>cases e6
   rename_i hc4;cases e6;have c4:c<nc:=by omega
   obtain⟨g1,g2,g3,_⟩:=g.fn f j hj;unfold qO at hcl;simp only[Bool.and_eq_true,Bool.not_eq_true']at hcl;refine wpAny_execs_cons (wpAny_Return_some ?_);refine MQ (Ex:=λv _ H'=>v=.ref (cl c)/\∃r',HR X.K H' r' h'/\Fm X.K r r' H1 H') F1 g.room (g.gl (by simpa using hcl.1)) g1 g2 g3 hcl.2 (hs X g) g.xe (se _) (sp _) I ⟨r,fr,h,ds,h3',sr,hr',e3,λvs H2 r2 v2 hr2 f2=>⟨r2,h3',ds,c,h',v2,hr2,ex,λH' r' y1 y2=>⟨rfl,r',y1,f2.trans y2⟩⟩⟩ λH2 s2 a C H' s' I2 fl ⟨hC,r',kN,f3⟩=>?_;cases hC;obtain⟨k1,k2⟩:=kc c c4;refine MO (i:=ix) (c:=c) (by rw[xK,xm];exact R) k1 (by rw[xK];exact k2) WV xf g.room.depth (by rw[g.nm];exact S.nd) (by rw[g.nm];exact h1) (by rw[g.sc];exact h2) (g.gl h3) (g.gl h4) I2 fl λp qR m1 m2=>?_;obtain⟨f4,Gv⟩:=Jb (K:=X.K) (r:=r') (h:=h') m1;refine q _ qR r' ⟨p,[.str "refused",.int c],rfl,.of m2,⟨_,_,rfl,⟨by decide +kernel,by decide⟩,⟨_,_,rfl,rfl,rfl⟩⟩⟩ (Gv kN) (f3.trans f4)
 .obtain⟨r,h,ds,d,h',v1,hr1,e,q⟩:=iV;simp only[Ev.gy,Sn]at e;split at e
  .unfold Ev.endOf at e;obtain⟨⟨fl,aj⟩,h2,e1,e⟩:=Ev.ah e;refine⟨r,Ev.dz fn ds,h,fl,aj,h2,by rw[xK];exact qi v1 hN,by rw[xK];exact hr1,e1,?_⟩;rw[xK];cases fl with
   |nx=>
    cases e;exact λs' H' r' _ hr' f'=>q _ H' r' rfl hr' f'
   |ret d'=>
    cases e;exact q
   |bk=>cases e
   |ct=>cases e
  .cases e
theorem sU{base:Heap}(st:∀n,oJ P w K mg base G n->vS P w K mg base G cl su n->oJ P w K mg base G (n+1)/\vS P w K mg base G cl su (n+1)):∀n,oJ P w K mg base G n/\vS P w K mg base G cl su n
 |0=>⟨λf i _=>Iw,λf i _ _=>MP λ_ _=>rfl⟩
 |n+1=>st n (sU st n).1 (sU st n).2
end
end
end Sm
set_option maxRecDepth 100000
namespace Sm
open PySem PySem.Spec PyProof.Rows L2 PySem.W
noncomputable def vU(K:PySem.W.Frag)(N:Addr):Bool:=nsOkIn K N&&quietNames.all λn=>nsIn K N n==some none
noncomputable def So(K:PySem.W.Frag)(C Wc D0 D1 D2 D3:Addr)(c:Nat):Bool:=
 findIn K (.ref C) "__getattribute__" ==some (some (.builtin "BaseException.__getattribute__"))&&findIn K (.ref C) "__getattr__" ==some none&&findIn K (.ref C) "__class__" ==some (some (.builtin "object.__class__"))
 &&subIn K (.ref C) (.type "object")==some true&&kitCls K (.ref C) (.ref C)==some true
 &&kitOne K (.ref C) (.ref D0)==some (decide (c=0))&&kitOne K (.ref C) (.ref D1)==some (decide (c=1))&&kitOne K (.ref C) (.ref D2)==some (decide (c=2))&&kitOne K (.ref C) (.ref D3)==some (decide (c=3))
 &&kitOne K (.ref C) (.type "ValueError")==some true&&exmOne K (.ref C) (.ref Wc)==some true&&decide (c<4)
structure Xz(K:PySem.W.Frag)(x:Str)(C Wc:Addr):Prop where
 ns:nsIn K mainGlobals x=some (some (.ref C))
 rs:yL K C
 cs:WN K C C 0
 em:exmOne K (.ref C) (.ref Wc)=some true
structure vV(K:PySem.W.Frag)(x:Str)(C Wc D0 D1 D2 D3:Addr)(c:Nat):Prop where
 ns:nsIn K mainGlobals x=some (some (.ref C))
 rs:yL K C
 cs:GO K C c D0 D1 D2 D3
 em:exmOne K (.ref C) (.ref Wc)=some true
theorem vU.ns{K:PySem.W.Frag}{N:Addr}{h:Heap}(q:vU K N=true)(di:K.In h):∃m,h.Ns N m/\∀n∈quietNames,m n=none:=by
 unfold vU at q;rw[Bool.and_eq_true]at q;have hn:=Heap.Ns.of_isNs (isNs_of_in di q.1);exact⟨_,hn,λn hn'=>nsMap_none_of_in di q.1 (beq_iff_eq.mp (List.all_eq_true.mp q.2 n hn'))⟩
theorem oU{K:PySem.W.Frag}{x:Str}{C Wc D0 D1 D2 D3 N:Addr}{c:Nat}{nm q:Str}{bs:List Value}{hdct:Bool}{sn:List Str}{sub:List Value}{ab:Bool}{col:Option Bool}{dd WX:Option Addr}{k0 k1 k2 k3 k5:Option Value}{c0:Value}{cd:ClassData}{sl:Array (Option Value)}
  (a:nsIn K mainGlobals x=some (some (.ref C))) (l:K.lookup C=some (excClassObj nm q C N bs (.ref Wc :: G2) hdct sn sub ab col dd k0 k1 k2 k3 k5 "ValueError.__new__")) (lw:K.lookup Wc=some ⟨c0,WX,.cls cd,sl⟩) (n:vU K N=true) (nw:vU K cd.ns=true) (f:So K C Wc D0 D1 D2 D3 c=true):vV K x C Wc D0 D1 D2 D3 c:=by
 unfold So at f;simp only[Bool.and_eq_true,beq_iff_eq,decide_eq_true_eq]at f;obtain⟨⟨⟨⟨⟨⟨⟨⟨⟨⟨⟨f1,f2⟩,f3⟩,f4⟩,f5⟩,f6⟩,f7⟩,f8⟩,f9⟩,vG⟩,Cj⟩,Ck⟩:=f;have tq:∀h:Heap,K.In h->OwnTailQ h G2 (.ref Wc :: G2):=λh di=>by
  obtain⟨m,h1,h2⟩:=vU.ns nw di;exact .own (di _ _ lw) h1 h2 .base
 refine⟨a,⟨_,_,_,_,_,_,_,_,_,_,_,_,_,_,_,_,l,rfl,λh di=>?_⟩,⟨⟨⟨_,_,_,_,_,_,_,_,_,_,_,_,_,_,_,_,_,l,tq⟩,f1,f2,f3,f4,f5⟩,f6,f7,f8,f9,vG,Ck⟩,Cj⟩;obtain⟨m,h1,h2⟩:=vU.ns n di;exact⟨m,h1,h2 _ (by simp[quietNames]),(tq h di).tail⟩
end Sm
set_option maxRecDepth 100000
namespace Sm
open PySem PySem.Spec PyProof.Rows L2
open Ev (D O Hh Fr R aI E Es Eo It T S Ss Fl Src bF bu TY BI ME)
section
variable{G:Tb}{cl:Nat->Addr}{cV:List (Str×Nat)}{rz su:List Nat}{n:Nat}{sc:Scope}{N:List Str}{df:Bool}{m:List Nat}{a b:E}{xa xb tg:Expr}{pos:Pos}
noncomputable def WY(X:Cx)(cl:Nat->Addr)(m:List Nat)(Ex:XK)(G:Tb)(n:Nat)(tb:Ss):TS:=λD s H=>sJ X.K m (Ev.run G.F G.w n) G.w tb D s H\/tX X.K cl m Ex (Ev.xss (Ev.run G.F G.w n) (Ev.cD G.F G.w n) G.w tb) s H
theorem Ey{X:Cx}{Ex:XK}{tb:Ss}{yb:List Stmt}(g:GX G cl cV rz su n sc N df Ex X)(h1:kO G n sc N df m tb yb)(k1:lH G cl cV rz su n sc N df m tb yb):fj X yb (WY X cl m Ex G n tb):=λpins s σ H D I q=>by
 rcases q with q|q
 .exact fj.eg (h1 X.eg g.g) pins s σ H D I q
 .exact k1 X Ex g pins s σ H D I q
theorem Jd{tb:Ss}{yb:List Stmt}(hc:JT G n sc N df m a xa)(h1:kO G n sc N df m tb yb)(k1:lH G cl cV rz su n sc N df m tb yb):yN G cl cV rz su n sc N df m (.jH a tb) (.While xa yb [] pos):=λX Ex g pins s σ H Q I q=>by
 obtain⟨r,fr,hh,c,h',sr,hr,e,q⟩:=q;simp only[Ev.xs]at e;refine vc g.own (PT.eg (hc X.eg g.g)) (Ey g h1 k1) pins s σ H Q I ⟨λk s1 H1=>∃r1 af h1,SR X.K m H1 r1 af s1/\HR X.K H1 r1 h1/\Fm X.K r r1 H H1/\Ev.eW (λao h2=>Ev.aE (Ev.run G.F G.w n) a ao h2) (λao h2=>Ev.exs (Ev.run G.F G.w n) G.w tb ao h2) (λao h2=>Ev.xss (Ev.run G.F G.w n) (Ev.cD G.F G.w n) G.w tb ao h2) k af h1=some (c,h'),⟨_,r,fr,hh,sr,hr,.refl,e⟩,λk s1 H1 hW=>?_⟩;obtain⟨r1,af,nL,mX,hr1,f1,e1⟩:=hW;cases k with
 |zero=>cases e1
 |succ k=>
  simp only[Ev.eW]at e1;split at e1
  case h_2=>cases e1
  rename_i h2 e2;refine⟨r1,af,nL,true,h2,mX,hr1,e2,λH2 r2 hr2 f2=>?_⟩;dsimp only;rw[if_pos rfl];split at e1
  .rename_i bE h3 e3;exact⟨λs' H'=>∃r',SR X.K m H' r' bE s'/\HR X.K H' r' h3/\Fm X.K r r' H H',λs' H' ⟨r',z1,z2,z3⟩=>⟨k,Nat.lt_succ_self k,r',bE,h3,z1,z2,z3,e1⟩,.inl ⟨r2,af,h2,.nx,bE,h3,mX.mono f2,hr2,e3,λs' H' r' z1 z2 z3=>⟨r',z1,z2,(f1.trans f2).trans z3⟩⟩⟩
  .rename_i bE h3 e3;exact⟨λs' H'=>∃r',SR X.K m H' r' bE s'/\HR X.K H' r' h3/\Fm X.K r r' H H',λs' H' ⟨r',z1,z2,z3⟩=>⟨k,Nat.lt_succ_self k,r',bE,h3,z1,z2,z3,e1⟩,.inl ⟨r2,af,h2,.ct,bE,h3,mX.mono f2,hr2,e3,λs' H' r' z1 z2 z3=>⟨r',z1,z2,(f1.trans f2).trans z3⟩⟩⟩
  .cases e1
  .exact⟨λ_ _=>False,λ_ _ z=>z.elim,.inr ⟨r2,af,h2,c,h',mX.mono f2,hr2,e1,λH' r' y1 y2=>q H' r' y1 ((f1.trans f2).trans y2)⟩⟩
theorem Qd {k:ME}{es:Es}{e0:Expr}{xs:List Expr}{name:Str}{apos:Pos}{ty id:String}(pa:PlainAttrs ty) (slot:Slot ty name id) (hty:typeOf (.builtin id)=pure (.type "method_descriptor")) (ht:ty=Ad k) (ha:JE G n sc N df m a xa) (ks:Cf G cl cV rz su n sc N df m es (e0 :: xs))
  (hbase:∀env:Env,attributeBase xa name env (eval xa env)=eval xa env:=by intro _;rfl)
  (hfew:∀env:Env,((backTo pos (starEach (e0 :: xs) env)).all (λx=>!x.1)&&(backToKw pos (keywordEach [] env)).all (λx=>x.1.isSome)
   &&decide ((e0 :: xs).length+([]:List Keyword).length+(if ([]:List Keyword).isEmpty then 0 else 1)<30))=true:=by intro _;rfl)
  (hline:(apos.endLine==pos.line)=true:=by rfl) (hst:∀env:Env,starEach (e0 :: xs) env=(false,eval e0 env) :: starEach xs env:=by intro _;rfl) (hpl:∀env:Env,(backTo pos (starEach xs env)).any (·.1)=false:=by intro _;rfl) :
  G3 G cl cV rz su n sc N df m (.me k a es) (.Call (.Attribute xa name apos) (e0 :: xs) [] pos):=λX Ex g pins s σ H Q I q=>by
 obtain⟨r,fr,hh,c,h',sr,hr,e,q⟩:=q;simp only[Ev.xe]at e;split at e
 case h_2=>cases e
 rename_i x h1 e1;split at e
 case isFalse=>cases e
 rename_i hk;exact Gp (X:=X) (r:=λ_ _ _ _=>False) pa slot hty (λ_ _ _ _ _ _ _ _ _ _ _ _ z=>z.elim) (PE.eg (ha X.eg g.g)) (ks X Ex g) (hbase _) (hfew _) hline (hst _) (hpl _) pins s σ H Q I ⟨r,fr,hh,x,h1,sr,hr,e1,λv H1 r1 v1 hr1 f1=>⟨vq hr1 v1 hk ht,r1,fr,h1,c,h',sr.mono f1,hr1,e,λH' r' y1 y2=>q H' r' y1 (f1.trans y2)⟩⟩
end
end Sm
namespace Pv
open Ev (D bF bu TY BI ME T E Es Eo It S Ss Fn big deep b2i rep bY dj bK aO cut cj dQ slots)
theorem nd{α:Type _}{a b:α}(h:a=b):a=b:=h
inductive V where
 |aL|bl (b:Bool)|int (i:Int)|str (s:List Nat)|tup (l:List V)|lst (l:List V)|bP (l:List V)
inductive Sl where
 |val (v:V)|own (l:List V)|bor (l:List V)|ro (l:List V)
abbrev Fr:=List (Option Sl)
inductive R(α:Type) where
 |ok (a:α) (fr:Fr)
 |bad
noncomputable def R.bind{α β:Type}(r:R α)(f:α->Fr->R β):R β:=
 match r with
 |.ok a h=>f a h
 |.bad=>.bad
@[simp] theorem ak{α β:Type}(a:α)(h:Fr)(f:α->Fr->R β):(R.ok a h).bind f=f a h:=nd rfl
@[simp] theorem DY{α β:Type}(f:α->Fr->R β):(R.bad:R α).bind f=.bad:=nd rfl
theorem ah{α β:Type}{r:R α}{f:α->Fr->R β}{b:β}{h:Fr}(e:r.bind f=.ok b h):∃a h1,r=.ok a h1/\f a h1=.ok b h:=by
 cases r with
 |ok a h1=>exact⟨a,h1,rfl,e⟩
 |bad=>cases e
noncomputable def R.of{α:Type}(o:Option α)(h:Fr):R α:=match o with
 |some a=>.ok a h
 |none=>.bad
@[simp] theorem dg{α:Type}(a:α)(h:Fr):R.of (some a) h=.ok a h:=nd rfl
@[simp] theorem of_none{α:Type}(h:Fr):R.of (none:Option α) h=.bad:=nd rfl
theorem aM{α:Type}{o:Option α}{h h':Fr}{a:α}(e:R.of o h=.ok a h'):o=some a/\h'=h:=by
 cases o with
 |none=>cases e
 |some b=>cases e;exact⟨rfl,rfl⟩
inductive Fl where
 |nx|bk|ct|ret (v:V)
mutual
noncomputable def ofD:D->Option V
 |.aL=>some .aL
 |.bl b=>some (.bl b)
 |.int i=>some (.int i)
 |.str s=>some (.str s)
 |.tup ds=>(vW ds).map .tup
 |.ref _=>none
noncomputable def vW:List D->Option (List V)
 |[]=>some []
 |d :: ds=>(ofD d).bind λv=>(vW ds).map λvs=>v :: vs
end
noncomputable def cz(f:V->V->Option Bool):List V->List V->Option Bool
 |[],[]=>some true
 |x :: xs,y :: ys=>(f x y).bind λb=>(cz f xs ys).bind λc=>some (b&&c)
 |_,_=>some false
noncomputable def cS:Nat->V->V->Option Bool
 |0,_,_=>none
 |_+1,.aL,.aL=>some true
 |_+1,.bl a,.bl b=>some (a==b)
 |_+1,.int a,.int b=>some (a==b)
 |_+1,.bl a,.int b=>some (b2i a==b)
 |_+1,.int a,.bl b=>some (a==b2i b)
 |_+1,.str a,.str b=>some (a==b)
 |n+1,.tup a,.tup b=>cz (cS n) a b
 |n+1,.lst a,.lst b=>cz (cS n) a b
 |n+1,.bP a,.lst b=>cz (cS n) a b
 |n+1,.lst a,.bP b=>cz (cS n) a b
 |_+1,.bP _,.bP _=>none
 |_+1,_,_=>some false
noncomputable def truthy:V->Bool
 |.aL=>false
 |.bl b=>b
 |.int i=>i != 0
 |.str s=>!s.isEmpty
 |.tup ds=>!ds.isEmpty
 |.lst ds=>!ds.isEmpty
 |.bP ds=>!ds.isEmpty
noncomputable def eL(l:List V):Option V:=if l.length<=big then some (.lst l)else none
noncomputable def ki(l:List V):Option V:=if l.length<=big then some (.tup l)else none
noncomputable def bU:bF->V->V->Option V
 |.add,.int i,.int j=>some (.int (i+j))
 |.add,.str a,.str b=>if a.length+b.length<=big then some (.str (a++b))else none
 |.add,.tup a,.tup b=>if a.length+b.length<=big then some (.tup (a++b))else none
 |.add,.lst a,.lst b=>eL (a++b)
 |.sub,.int i,.int j=>some (.int (i - j))
 |.mul,.int i,.int j=>if bY i j then some (.int (i*j))else none
 |.mul,.str a,.int k=>if 0<=k/\k<=1000/\a.length<=1000 then some (.str (rep k.toNat a))else none
 |.mul,.tup a,.int k=>if 0<=k/\k<=1000/\a.length<=1000 then some (.tup (rep k.toNat a))else none
 |.mul,.lst a,.int k=>if 0<=k/\k<=1000/\a.length<=1000 then eL (rep k.toNat a)else none
 |.fdiv,.int i,.int j=>if 0<j/\j<1073741824 then some (.int (i / j))else none
 |.mod,.int i,.int j=>if 0<j then some (.int (i % j))else none
 |_,_,_=>none
noncomputable def mem(x:V):List V->Option Bool
 |[]=>some false
 |y :: ys=>(cS deep y x).bind λb=>(mem x ys).bind λc=>some (b ||c)
noncomputable def isin(x y:V):Option Bool:=match y with
 |.str s=>match x with
  |.str [c]=>some (s.contains c)
  |_=>none
 |.tup ds=>mem x ds
 |.lst ds=>mem x ds
 |.bP ds=>mem x ds
 |_=>none
noncomputable def cop(o:bu)(x y:V):Option Bool:=match o,x,y with
 |.eq,x,y=>cS deep x y
 |.ne,x,y=>(cS deep x y).map (!·)
 |.lt,.int i,.int j=>some (decide (i<j))
 |.gt,.int i,.int j=>some (decide (j<i))
 |.isin,x,y=>isin x y
 |.gu,x,y=>(isin x y).map (!·)
 |.yk,x,.aL=>some (match x with|.aL=>true|_=>false)
 |.DZ,x,.aL=>some (match x with|.aL=>false|_=>true)
 |_,_,_=>none
noncomputable def fP(x y:V):Option V:=match x,y with
 |.tup ds,.int i=>bK ds i
 |.str s,.int i=>(bK s i).map λc=>.str [c]
 |.lst ds,.int i=>bK ds i
 |.bP ds,.int i=>bK ds i
 |_,_=>none
noncomputable def gg(x:V)(lo hi:Option Int):Option V:=match x with
 |.tup ds=>some (.tup (cut ds lo hi))
 |.str s=>some (.str (cut s lo hi))
 |.lst ds=>eL (cut ds lo hi)
 |.bP ds=>eL (cut ds lo hi)
 |_=>none
noncomputable def toT:V->Option V
 |.tup l=>some (.tup l)
 |.lst l=>ki l
 |.bP l=>ki l
 |_=>none
noncomputable def dm:V->TY->Bool
 |.bl _,.bool=>true
 |.bl _,.int=>true
 |.int _,.int=>true
 |.str _,.str=>true
 |.tup _,.tuple=>true
 |.lst _,.list=>true
 |.bP _,.list=>true
 |_,_=>false
noncomputable def boolsOf:List V->Option (List Bool)
 |[]=>some []
 |.bl b :: ds=>(boolsOf ds).map λr=>b :: r
 |_=>none
noncomputable def intsOf:List V->Option (List Int)
 |[]=>some []
 |.int i :: ds=>(intsOf ds).map λr=>i :: r
 |_=>none
noncomputable def strsOf:List V->Option (List (List Nat))
 |[]=>some []
 |.str s :: ds=>(strsOf ds).map λr=>s :: r
 |_=>none
noncomputable def jS:V->Option (List V)
 |.lst l=>some l
 |.bP l=>some l
 |_=>none
noncomputable def dS(b:BI)(xs:List V):Option V:=match b,xs with
 |.len,[.str s]=>if s.length<=big then some (.int s.length)else none
 |.len,[.tup ds]=>some (.int ds.length)
 |.len,[x]=>(jS x).map λds=>.int ds.length
 |.sum,[x]=>((jS x).bind intsOf).map λis=>.int is.sum
 |.min,[.int i,.int j]=>some (.int (if j<i then j else i))
 |_,_=>none
noncomputable def fG(m:ME)(o:V)(xs:List V):Option V:=match m,o,xs with
 |.join,.str sep,[x]=>((jS x).bind strsOf).bind λss=>if (ss.map (·.length)).sum+ss.length*sep.length<=big then some (.str (cj sep ss))else none
 |_,_,_=>none
noncomputable def kj(m:ME)(l:List V)(xs:List V):Option (V×List V):=match m,xs with
 |.append,[x]=>if l.length<big then some (.aL,l++[x])else none
 |.extend,[.lst es]=>if l.length+es.length<=big then some (.aL,l++es)else none
 |.pop,[]=>match l[l.length - 1]? with
  |some x=>some (x,l.dropLast)
  |none=>none
 |.nA,[x,.int k]=>(Ev.dj l.length k).map λj=>(.aL,l.set j x)
 |_,_=>none
noncomputable def yP:ME->Bool
 |.extend=>true
 |_=>false
noncomputable def jd:ME->Bool
 |.append=>true
 |.extend=>true
 |.pop=>true
 |.nA=>true
 |_=>false
noncomputable def uO:V->Bool
 |.aL=>true
 |.bl _=>true
 |.int _=>true
 |.str _=>true
 |_=>false
noncomputable def AB(x:V):List (D×D)->Option V
 |[]=>none
 | (k,v) :: r=>match (ofD k).bind λk'=>cS 1 k' x with
  |some true=>ofD v
  |some false=>AB x r
  |none=>none
noncomputable def iX(x:V)(kvs:List (D×D)):Option V:=if uO x then AB x kvs else none
noncomputable def fV:V->Option (List V)
 |.tup ds=>some ds
 |.str s=>some (s.map λc=>.str [c])
 |.lst ds=>some ds
 |.bP ds=>some ds
 |_=>none
noncomputable def AD:V->Option (List V)
 |.tup ds=>some ds
 |_=>none
noncomputable def range(lo:Int)(n:Nat):List V:=(List.range n).map λ(i:Nat)=>.int (lo+i)
noncomputable def er:List V->Option (List V)
 |[.int j]=>if -(2 ^ 62)<=j/\j<2 ^ 62 then some (range 0 j.toNat)else none
 |[.int i,.int j]=>if -(2 ^ 62)<=i/\i<2 ^ 62/\-(2 ^ 62)<=j/\j<2 ^ 62 then some (range i (j - i).toNat)else none
 |_=>none
noncomputable def eB(a b:List V):List V:=List.zipWith (λx y=>.tup [x,y]) a b
noncomputable def iz:Int->List V->List V
 |_,[]=>[]
 |k,x :: xs=>.tup [.int k,x] :: iz (k+1) xs
noncomputable def put(fr:Fr)(i:Nat)(s:Sl):Option Fr:=match fr[i]? with
 |some (some (.bor _))=>none
 |some (some (.ro _))=>none
 |_=>some (fr.set i (some s))
noncomputable def cK:List Nat->List V->Fr->Option Fr
 |[],[],fr=>some fr
 |i :: is,d :: ds,fr=>(put fr i (.val d)).bind (cK is ds)
 |_,_,_=>none
noncomputable def bD:T->V->Fr->Option Fr
 |.one i,d,fr=>put fr i (.val d)
 |.many l,.tup ds,fr=>cK l ds fr
 |_,_,_=>none
noncomputable def undef(t:T)(fr:Fr):Bool:=(slots t).all λi=>(fr[i]?.join).isNone
noncomputable def Sl.read:Sl->Sl
 |.own l=>.ro l
 |.bor l=>.ro l
 |s=>s
noncomputable def pO(fr:Fr):Fr:=fr.map (Option.map Sl.read)
noncomputable def Sl.dH:Sl->Sl
 |.own l=>.val (.lst l)
 |s=>s
noncomputable def fH(fr:Fr):Fr:=fr.map (Option.map Sl.dH)
noncomputable def Sl.walk:Sl->Sl
 |.own l=>.val (.lst l)
 |.bor l=>.ro l
 |s=>s
noncomputable def qS(is:List Nat)(fr:Fr):Fr:=is.foldl (λfr i=>match fr[i]? with
 |some (some s)=>fr.set i (some s.walk)
 |_=>fr) fr
noncomputable def Sl.out:Sl->Option (List V)
 |.bor l=>some l
 |.ro l=>some l
 |_=>none
noncomputable def Sl.lend:Sl->Option Sl
 |.own l=>some (.bor l)
 |.bor l=>some (.bor l)
 |.ro l=>some (.ro l)
 |.val _=>none
noncomputable def lent(fr:Fr)(i:Nat):Option Sl:=match fr[i]? with
 |some (some s)=>s.lend
 |_=>none
noncomputable def Sl.with:Sl->List V->Sl
 |.own _,l=>.own l
 |.bor _,l=>.bor l
 |s,_=>s
noncomputable def back:List Nat->List (List V)->Fr->Option Fr
 |[],[],fr=>some fr
 |i :: is,l :: ls,fr=>match fr[i]? with
  |some (some s)=>back is ls (fr.set i (some (s.with l)))
  |_=>none
 |_,_,_=>none
noncomputable def cH(f:V->Option (Option V)):List V->Option (List V)
 |[]=>some []
 |d :: ds=>(f d).bind λo=>(cH f ds).bind λr=>some (o.toList++r)
noncomputable def forL(f:V->Fr->R Fl):List V->Fr->R Fl
 |[],fr=>.ok .nx fr
 |d :: ds,fr=>(f d fr).bind λp af=>match p with
   |.nx=>forL f ds af
   |.ct=>forL f ds af
   |.bk=>.ok .nx af
   |.ret x=>.ok (.ret x) af
noncomputable def dG(t:Fr->R Bool)(f:Fr->R Fl):Nat->Fr->R Fl
 |0,_=>.bad
 |n+1,fr=>(t fr).bind λb af=>if b then (f af).bind λp ao=>match p with
   |.nx=>dG t f n ao
   |.ct=>dG t f n ao
   |.bk=>.ok .nx ao
   |.ret x=>.ok (.ret x) ao
  else .ok .nx af
noncomputable def j8:Es->List Nat
 |.nil=>[]
 |.cons (.v i) es=>i :: j8 es
 |.cons _ es=>j8 es
noncomputable def Sq(m:ME):E->List Nat
 |.v i=>if jd m then [i]else []
 |_=>[]
mutual
noncomputable def bO:E->List Nat
 |.c _=>[]|.v _=>[]|.tup es=>gr es|.lst es=>gr es
 |.bin _ a b=>bO a++bO b|.cmp _ a b=>bO a++bO b
 |.nt a=>bO a|.neg a=>bO a|.an a b=>bO a++bO b|.orr a b=>bO a++bO b|.iL t a b=>bO t++(bO a++bO b)
 |.ix a b=>bO a++bO b|.sl a lo hi=>bO a++(lI lo++lI hi)
 |.cl _ es=>gr es++j8 es|.bi _ es=>gr es|.me m o es=>bO o++(gr es++Sq m o)
 |.fK a _=>bO a
 |.comp _ _ it _=>Ez it
 |.eH it=>Ez it
 |.jN _ a=>bO a
 |.jm a=>bO a
noncomputable def gr:Es->List Nat
 |.nil=>[]
 |.cons e es=>bO e++gr es
noncomputable def lI:Eo->List Nat
 |.no=>[]
 |.yes e=>bO e
noncomputable def Ez:It->List Nat
 |.seq e=>bO e|.gS es=>gr es
 |.zip a b=>bO a++bO b
 |.enum a=>bO a|.rev a=>bO a
end
noncomputable def kf(a:E)(l:List Nat):Bool:=match a with
 |.v i=>!l.contains i
 |_=>l.isEmpty
noncomputable def itv:It->List Nat
 |.seq (.v i)=>[i]
 |.enum (.v i)=>[i]
 |.rev (.v i)=>[i]
 |.zip (.v i) (.v j)=>[i,j]
 |.zip (.v i) _=>[i]
 |.zip _ (.v j)=>[j]
 |_=>[]
abbrev aI:=Nat->List Sl->Option (V×List (List V))
noncomputable def intOf:V->Option Int
 |.int i=>some i
 |_=>none
noncomputable def nM(k:Bool)(fr:Fr)(i:Nat):Option V:=match fr[i]? with
 |some (some (.val v))=>some v
 |some (some (.own l))=>if k then some (.lst l)else none
 |some (some (.bor l))=>if k then some (.lst l)else none
 |some (some (.ro l))=>if k then some (.lst l)else none
 |_=>none
noncomputable def AE(k:Bool)(fr:Fr)(i:Nat):Option V:=match fr[i]? with
 |some (some (.ro l))=>some (.lst l)
 |_=>nM k fr i
noncomputable def src(k:Bool)(fr:Fr)(e:E)(r:R V):R V:=match e with
 |.v i=>R.of (AE k fr i) fr
 |_=>r
noncomputable def gz(fr:Fr):E->Option Nat
 |.v i=>if (lent fr i).isSome then some i else none
 |_=>none
noncomputable def args(fr:Fr):List (Nat ⊕ V)->Option (List Sl)
 |[]=>some []
 |.inl i :: r=>(lent fr i).bind λs=>(args fr r).map λl=>s :: l
 |.inr v :: r=>(args fr r).map λl=>.val v :: l
noncomputable def bM:List (Nat ⊕ V)->List Nat
 |[]=>[]
 |.inl i :: r=>i :: bM r
 |.inr _ :: r=>bM r
noncomputable def eO(P:aI)(f:Nat)(as:List (Nat ⊕ V))(fr:Fr):R V:=
 if (bM as).Nodup then match args fr as with
  |some sl=>match P f sl with
   |some (v,outs)=>R.of ((back (bM as) outs fr).map λaf=>(v,af)) fr |>.bind λp _=>.ok p.1 p.2
   |none=>.bad
  |none=>.bad
 else .bad
mutual
noncomputable def ev(P:aI):Bool->E->Fr->R V
 |_,.c d,fr=>R.of (ofD d) fr
 |k,.v i,fr=>R.of (nM k fr i) fr
 |_,.tup es,fr=>(bS P false es fr).bind λds af=>R.of (ki ds) af
 |_,.lst es,fr=>(bS P false es fr).bind λds af=>R.of (eL ds) af
 |_,.bin o a b,fr=>(ev P (kf a (bO b)) a fr).bind λx af=>(ev P true b af).bind λy ao=>R.of (bU o x y) ao
 |_,.cmp o a b,fr=>(ev P (kf a (bO b)) a fr).bind λx af=>(ev P true b af).bind λy ao=>R.of ((cop o x y).map .bl) ao
 |_,.nt a,fr=>(ev P true a fr).bind λx af=>match x with
   |.bl b=>.ok (.bl (!b)) af
   |_=>.bad
 |_,.neg a,fr=>(ev P true a fr).bind λx af=>match x with
   |.int i=>.ok (.int (-i)) af
   |_=>.bad
 |k,.an a b,fr=>(ev P true a fr).bind λx af=>match x with
   |.bl true=>ev P k b af
   |.bl false=>.ok (.bl false) af
   |_=>.bad
 |k,.orr a b,fr=>(ev P true a fr).bind λx af=>match x with
   |.bl true=>.ok (.bl true) af
   |.bl false=>ev P k b af
   |_=>.bad
 |k,.iL t a b,fr=>(aE P t fr).bind λc af=>if c then ev P k a af else ev P k b af
 |_,.ix a b,fr=>(ev P (kf a (bO b)) a fr).bind λx af=>(ev P true b af).bind λy ao=>R.of (fP x y) ao
 |_,.sl a lo hi,fr=>(ev P (kf a (lI lo++lI hi)) a fr).bind λx af=>(gw P lo af).bind λl ao=>(gw P hi ao).bind λu bE=>R.of (gg x l u) bE
 |_,.cl f es,fr=>(eF P es fr).bind λas af=>eO P f as af
 |_,.bi b es,fr=>(bS P true es fr).bind λds af=>R.of (dS b ds) af
 |_,.me m o es,fr=>if jd m then match gz fr o with
   |some i=>(bS P (yP m) es fr).bind λds af=>match af[i]? with
    |some (some (.own l))=>match kj m l ds with
     |some (v,l')=>.ok v (af.set i (some (.own l')))
     |none=>.bad
    |some (some (.bor l))=>match kj m l ds with
     |some (v,l')=>.ok v (af.set i (some (.bor l')))
     |none=>.bad
    |_=>.bad
   |none=>.bad
  else (ev P (kf o (gr es)) o fr).bind λx af=>(bS P true es af).bind λds ao=>R.of (fG m x ds) ao
 |_,.fK a ts,fr=>(ev P true a fr).bind λx af=>.ok (.bl (ts.any (dm x))) af
 |_,.comp elt t it cond,fr=>(b8 P true it fr).bind λs af=>if undef t af then
   R.of ((cH (λd=>match bD t d (pO af)with
    |none=>none
    |some ao=>match iY P cond ao with
     |.ok c _=>if c then (match ev P false elt ao with|.ok x _=>some (some x)|.bad=>none)else some none
     |.bad=>none) s).bind eL) af else .bad
 |_,.eH it,fr=>(b8 P true it fr).bind λs af=>R.of (eL s) af
 |_,.jN kvs a,fr=>(ev P true a fr).bind λx af=>R.of (iX x kvs) af
 |_,.jm a,fr=>(ev P true a fr).bind λx af=>R.of (toT x) af
termination_by _ e=>(sizeOf e,0)
noncomputable def bS(P:aI):Bool->Es->Fr->R (List V)
 |_,.nil,fr=>.ok [] fr
 |k,.cons e es,fr=>(ev P (k&&kf e (gr es)) e fr).bind λd af=>(bS P k es af).bind λds ao=>.ok (d :: ds) ao
termination_by _ e=>(sizeOf e,0)
noncomputable def eF(P:aI):Es->Fr->R (List (Nat ⊕ V))
 |.nil,fr=>.ok [] fr
 |.cons e es,fr=>match gz fr e with
   |some i=>(eF P es fr).bind λr af=>.ok (.inl i :: r) af
   |none=>(ev P false e fr).bind λd af=>(eF P es af).bind λr ao=>.ok (.inr d :: r) ao
termination_by e=>(sizeOf e,0)
noncomputable def gw(P:aI):Eo->Fr->R (Option Int)
 |.no,fr=>.ok none fr
 |.yes e,fr=>(ev P true e fr).bind λd af=>R.of ((intOf d).map some) af
termination_by e=>(sizeOf e,0)
noncomputable def iY(P:aI):Eo->Fr->R Bool
 |.no,fr=>.ok true fr
 |.yes e,fr=>aE P e fr
termination_by e=>(sizeOf e,0)
noncomputable def aE(P:aI):E->Fr->R Bool
 |.an a b,fr=>(aE P a fr).bind λk af=>if k then aE P b af else .ok false af
 |.orr a b,fr=>(aE P a fr).bind λk af=>if k then .ok true af else aE P b af
 |.nt a,fr=>(aE P a fr).bind λk af=>.ok (!k) af
 |e,fr=>(ev P true e fr).bind λx af=>.ok (truthy x) af
termination_by e=>(sizeOf e,1)
noncomputable def b8(P:aI):Bool->It->Fr->R (List V)
 |k,.seq e,fr=>(src k fr e (ev P k e fr)).bind λx af=>R.of (fV x) af
 |_,.gS es,fr=>(bS P true es fr).bind λds af=>R.of (er ds) af
 |k,.zip a b,fr=>(src (k&&kf a (bO b)) fr a (ev P (k&&kf a (bO b)) a fr)).bind λx af=>(src k af b (ev P k b af)).bind λy ao=>R.of ((jS x).bind λs=>(jS y).map λt=>eB s t) ao
 |k,.enum a,fr=>(src k fr a (ev P k a fr)).bind λx af=>R.of ((jS x).map λs=>iz 0 s) af
 |_,.rev a,fr=>(ev P true a fr).bind λx af=>R.of ((AD x).map λs=>s.reverse) af
termination_by _ e=>(sizeOf e,0)
end
noncomputable def isNew:E->Bool
 |.lst .nil=>true
 |.eH _=>true
 |_=>false
noncomputable def AF(k:Nat):V->Option V
 |.int c=>if 0<=c/\c<k then some (.tup [.str [114,101,102,117,115,101,100],.int c])else none
 |_=>none
mutual
noncomputable def ex(P:aI)(w:Nat):S->Fr->R Fl
 |.set i e,fr=>(ev P false e fr).bind λx af=>if isNew e then (match x with
   |.lst l=>(R.of (put af i (.own l)) af).bind λao _=>.ok .nx ao
   |_=>.bad)
  else (R.of (put af i (.val x)) af).bind λao _=>.ok .nx ao
 |.iW l e,fr=>(ev P false e fr).bind λx af=>(R.of (bD (.many l) x af) af).bind λao _=>.ok .nx ao
 |.exp e,fr=>(ev P true e fr).bind λ_ af=>.ok .nx af
 |.ret e,fr=>(ev P false e (fH fr)).bind λx af=>.ok (.ret x) af
 |.iff t a b,fr=>(aE P t fr).bind λk af=>if k then exs P w a af else exs P w b af
 |.for t it b,fr=>(b8 P false it (qS (itv it) fr)).bind λs af=>forL (λd ao=>match bD t d ao with
   |some bE=>exs P w b bE
   |none=>.bad) s af
 |.jH t b,fr=>dG (λao=>aE P t ao) (λao=>exs P w b ao) w fr
 |.fk _,_=>.bad
 |.tr f k es,fr=>(eF P es fr).bind λas af=>if (bM as).isEmpty then (match eO P f as af with
   |.ok v ao=>.ok (.ret v) ao
   |.bad=>(eO P (f+Ev.xo) as af).bind λc ao=>R.of ((AF k c).map .ret) ao)
  else .bad
noncomputable def exs(P:aI)(w:Nat):Ss->Fr->R Fl
 |.nil,fr=>.ok .nx fr
 |.cons s ss,fr=>(ex P w s fr).bind λp af=>match p with
   |.nx=>exs P w ss af
   |p=>.ok p af
end
noncomputable def dz(fn:Fn)(ds:List Sl):Fr:=ds.map some++List.replicate (fn.ns - fn.np) none
noncomputable def outs(np:Nat)(fr:Fr):List (List V):=(fr.take np).filterMap λo=>o.bind Sl.out
noncomputable def Cm(_:Fn)(_:List Sl):Option (V×List (List V)):=none
abbrev cL:=Nat->List Sl->Option Nat
noncomputable def oV(X:cL)(f:Nat)(as:List (Nat ⊕ V))(fr:Fr):Option Nat:=if (bM as).Nodup then (args fr as).bind (X f)else none
mutual
noncomputable def xe(P:aI)(X:cL):E->Fr->Option Nat
 |.cl f es,fr=>match eF P es fr with
  |.ok as af=>oV X f as af
  |.bad=>vX P X es fr
 |.ix a _,fr=>xe P X a fr
 |.me m o es,fr=>if jd m then match gz fr o with
   |some _=>vY P X (yP m) es fr
   |none=>none
  else none
 |_,_=>none
noncomputable def vX(P:aI)(X:cL):Es->Fr->Option Nat
 |.nil,_=>none
 |.cons e es,fr=>match gz fr e with
  |some _=>vX P X es fr
  |none=>match ev P false e fr with
   |.ok _ af=>vX P X es af
   |.bad=>xe P X e fr
noncomputable def vY(P:aI)(X:cL)(k:Bool):Es->Fr->Option Nat
 |.nil,_=>none
 |.cons e es,fr=>match ev P (k&&kf e (gr es)) e fr with
  |.ok _ af=>vY P X k es af
  |.bad=>xe P X e fr
end
noncomputable def fW(f:V->Fr->R Fl)(g:V->Fr->Option Nat):List V->Fr->Option Nat
 |[],_=>none
 |d :: ds,fr=>match f d fr with
   |.ok .nx af=>fW f g ds af
   |.ok .ct af=>fW f g ds af
   |.ok _ _=>none
   |.bad=>g d fr
noncomputable def eW(t:Fr->R Bool)(f:Fr->R Fl)(g:Fr->Option Nat):Nat->Fr->Option Nat
 |0,_=>none
 |n+1,fr=>match t fr with
  |.ok true af=>match f af with
   |.ok .nx ao=>eW t f g n ao
   |.ok .ct ao=>eW t f g n ao
   |.ok _ _=>none
   |.bad=>g af
  |_=>none
mutual
noncomputable def xs(P:aI)(X:cL)(w:Nat):S->Fr->Option Nat
 |.fk c,_=>some c
 |.set _ e,fr=>xe P X e fr
 |.exp e,fr=>xe P X e fr
 |.ret e,fr=>xe P X e (fH fr)
 |.iff t a b,fr=>match aE P t fr with
  |.ok k af=>if k then xss P X w a af else xss P X w b af
  |.bad=>xe P X t fr
 |.for t it b,fr=>match b8 P false it (qS (itv it) fr)with
  |.ok s af=>fW (λd ao=>match bD t d ao with|some bE=>exs P w b bE|none=>.bad) (λd ao=>match bD t d ao with|some bE=>xss P X w b bE|none=>none) s af
  |.bad=>none
 |.jH t b,fr=>eW (λao=>aE P t ao) (λao=>exs P w b ao) (λao=>xss P X w b ao) w fr
 |_,_=>none
noncomputable def xss(P:aI)(X:cL)(w:Nat):Ss->Fr->Option Nat
 |.nil,_=>none
 |.cons s ss,fr=>match ex P w s fr with
  |.ok .nx af=>xss P X w ss af
  |.ok _ _=>none
  |.bad=>xs P X w s fr
end
noncomputable def Sl.gz:Sl->Bool
 |.val _=>true
 |_=>false
noncomputable def mV(X:cL)(f:Nat)(ds:List Sl):Option (V×List (List V)):=if Ev.xo<=f/\ds.all Sl.gz=true then (X (f - Ev.xo) ds).map λ(c:Nat)=>((.int (c:Int),[]):V×List (List V))else none
noncomputable def runs(F:List Fn)(w:Nat):Nat->aI×cL
 |0=>(λ_ _=>none,λ_ _=>none)
 |n+1=>
  let X:cL:=λf ds=>match F[f]? with
   |some fn=>if ds.length=fn.np then xss (runs F w n).1 (runs F w n).2 w fn.body (dz fn ds)else none
   |none=>none
  (λf ds=>match F[f]? with
   |some fn=>if ds.length=fn.np then match exs ((runs F w n).1) w fn.body (dz fn ds)with
     |.ok (.ret v) fr=>some (v,outs fn.np fr)
     |.ok .nx fr=>some (.aL,outs fn.np fr)
     |_=>Cm fn ds
    else none
   |none=>mV X f ds,X)
noncomputable def run(F:List Fn)(w n:Nat):aI:=(runs F w n).1
noncomputable def cD(F:List Fn)(w n:Nat):cL:=(runs F w n).2
theorem gy(F:List Fn)(w n f:Nat)(ds:List Sl):run F w (n+1) f ds=match F[f]? with
   |some fn=>if ds.length=fn.np then match exs (run F w n) w fn.body (dz fn ds)with
     |.ok (.ret v) fr=>some (v,outs fn.np fr)
     |.ok .nx fr=>some (.aL,outs fn.np fr)
     |_=>Cm fn ds
    else none
   |none=>mV (cD F w (n+1)) f ds:=nd rfl
theorem iZ(F:List Fn)(w n f:Nat)(ds:List Sl):cD F w (n+1) f ds=match F[f]? with
   |some fn=>if ds.length=fn.np then xss (run F w n) (cD F w n) w fn.body (dz fn ds)else none
   |none=>none:=nd rfl
end Pv
namespace Pv
open Ev (D O Hh bF bu TY BI ME T E Es Eo It S Ss Fn big deep b2i rep bY dj bK aO cut cj dQ slots aW)
section
variable(h:Hh)(S:Nat->Prop)
mutual
noncomputable def Rep:V->D->Prop
 |.aL,d=>d=.aL
 |.bl b,d=>d=.bl b
 |.int i,d=>d=.int i
 |.str s,d=>d=.str s
 |.tup l,d=>∃ds,d=.tup ds/\aq l ds
 |.lst l,d=>∃n ds,d=.ref n/\S n/\h[n]?=some (.lst ds)/\aq l ds
 |.bP l,d=>∃n ds,d=.ref n/\S n/\h[n]?=some (.bP ds)/\aq l ds
noncomputable def aq:List V->List D->Prop
 |[],ds=>ds=[]
 |v :: vs,ds=>∃d es,ds=d :: es/\Rep v d/\aq vs es
end
noncomputable def bq:V->D->Prop
 |.lst l,d=>∃n ds,d=.ref n/\h[n]?=some (.lst ds)/\aq h S l ds
 |v,d=>Rep h S v d
noncomputable def gA:List V->List D->Prop
 |[],ds=>ds=[]
 |v :: vs,ds=>∃d es,ds=d :: es/\bq h S v d/\gA vs es
end
abbrev U:Nat->Prop:=λ_=>True
section
variable{h h':Hh}{S S':Nat->Prop}
mutual
theorem Rep.mono(f:∀m,S m->h'[m]?=h[m]?)(g:∀m,S m->S' m):∀{v:V}{d:D},Rep h S v d->Rep h' S' v d
 |.aL,_,q=>q
 |.bl _,_,q=>q
 |.int _,_,q=>q
 |.str _,_,q=>q
 |.tup l,_,⟨ds,a,b⟩=>⟨ds,a,aq.mono f g b⟩
 |.lst l,_,⟨n,ds,a,b,c,e⟩=>⟨n,ds,a,g n b,by rw[f n b];exact c,aq.mono f g e⟩
 |.bP l,_,⟨n,ds,a,b,c,e⟩=>⟨n,ds,a,g n b,by rw[f n b];exact c,aq.mono f g e⟩
theorem aq.mono(f:∀m,S m->h'[m]?=h[m]?)(g:∀m,S m->S' m):∀{v:List V}{d:List D},aq h S v d->aq h' S' v d
 |[],_,q=>q
 |_ :: _,_,⟨d,es,a,b,c⟩=>⟨d,es,a,Rep.mono f g b,aq.mono f g c⟩
end
theorem aq.nil:aq h S [] []:=by simp[aq]
theorem aq.cons{v:V}{d:D}{vs:List V}{ds:List D}(a:Rep h S v d)(b:aq h S vs ds):aq h S (v :: vs) (d :: ds):=by simp only[aq];exact⟨d,ds,rfl,a,b⟩
theorem Rep.top{v:V}{d:D}(q:Rep h S v d):bq h S v d:=by
 cases v<;>first|exact q | (obtain⟨n,ds,a,b,c,e⟩:=q;exact⟨n,ds,a,c,e⟩)
theorem bq.u{v:V}{d:D}(q:bq h S v d):Rep h U v d:=by
 cases v with
 |lst l=>obtain⟨n,ds,a,b,c⟩:=q;exact⟨n,ds,a,trivial,b,c.mono (λ_ _=>rfl) λ_ _=>trivial⟩
 |_=>exact Rep.mono (S:=S) (λ_ _=>rfl) (λ_ _=>trivial) q
theorem aq.u{v:List V}{d:List D}(q:aq h S v d):aq h U v d:=q.mono (λ_ _=>rfl) λ_ _=>trivial
theorem bq.mono{v:V}{d:D}(f:∀m,m<h.length->h'[m]?=h[m]?)(k:∀m,S m->m<h.length)(g:∀m,S m->S' m)(q:bq h S v d):bq h' S' v d:=by
 cases v with
 |lst l=>
  obtain⟨n,ds,a,b,c⟩:=q;exact⟨n,ds,a,by rw[f n (List.getElem?_eq_some_iff.mp b).1];exact b,c.mono (λm z=>f m (k m z)) g⟩
 |_=>exact Rep.mono (λm z=>f m (k m z)) g q
theorem aq.length:∀{v:List V}{d:List D},aq h S v d->v.length=d.length
 |[],_,q=>by simp only[aq]at q;subst q;rfl
 |_ :: _,_,q=>by simp only[aq]at q;obtain⟨d,es,rfl,_,c⟩:=q;simp[c.length]
theorem aq.get:∀{v:List V}{d:List D}{i:Nat}{x:V},aq h S v d->v[i]?=some x->∃y,d[i]?=some y/\Rep h S x y
 |[],_,_,_,_,e=>by simp at e
 |_ :: _,_,0,_,q,e=>by
  simp only[aq]at q;obtain⟨d,es,rfl,b,_⟩:=q;simp at e;subst e;exact⟨d,by simp,b⟩
 |_ :: _,_,i+1,_,q,e=>by
  simp only[aq]at q;obtain⟨d,es,rfl,_,c⟩:=q;obtain⟨y,a,b⟩:=c.get (i:=i) (by simpa using e);exact⟨y,by simpa using a,b⟩
theorem aq.append:∀{v w:List V}{d e:List D},aq h S v d->aq h S w e->aq h S (v++w) (d++e)
 |[],_,_,_,a,b=>by simp only[aq]at a;subst a;simpa using b
 |_ :: _,_,_,_,a,b=>by
  simp only[aq]at a;obtain⟨d,es,rfl,x,y⟩:=a;exact .cons x (y.append b)
theorem aq.take:∀{v:List V}{d:List D}(n:Nat),aq h S v d->aq h S (v.take n) (d.take n)
 |_,_,0,_=>by simp[aq]
 |[],_,_+1,a=>by simp only[aq]at a;subst a;simp[aq]
 |_ :: _,_,n+1,a=>by
  simp only[aq]at a;obtain⟨d,es,rfl,x,y⟩:=a;simp only[List.take_succ_cons];exact .cons x (y.take n)
theorem aq.drop:∀{v:List V}{d:List D}(n:Nat),aq h S v d->aq h S (v.drop n) (d.drop n)
 |_,_,0,a=>by simpa using a
 |[],_,_+1,a=>by simp only[aq]at a;subst a;simp[aq]
 |_ :: _,_,n+1,a=>by
  simp only[aq]at a;obtain⟨d,es,rfl,x,y⟩:=a;simp only[List.drop_succ_cons];exact y.drop n
theorem aq.set:∀{v:List V}{d:List D}(j:Nat) {x:V}{y:D},aq h S v d->Rep h S x y->aq h S (v.set j x) (d.set j y)
 |[],_,_,_,_,a,_=>by simp only[aq]at a;subst a;simp[aq]
 |_ :: _,_,0,_,_,a,b=>by
  simp only[aq]at a;obtain⟨d,es,rfl,x,y⟩:=a;exact .cons b y
 |_ :: _,_,j+1,_,_,a,b=>by
  simp only[aq]at a;obtain⟨d,es,rfl,x,y⟩:=a;exact .cons x (y.set j b)
theorem aq.dropLast:∀{v:List V}{d:List D},aq h S v d->aq h S v.dropLast d.dropLast:=λ{v d} a=>by
 rw[List.dropLast_eq_take,List.dropLast_eq_take,a.length];exact a.take _
theorem aq.reverse:∀{v:List V}{d:List D},aq h S v d->aq h S v.reverse d.reverse
 |[],_,a=>by simp only[aq]at a;subst a;simp[aq]
 |_ :: _,_,a=>by
  simp only[aq]at a;obtain⟨d,es,rfl,x,y⟩:=a;simp only[List.reverse_cons];exact y.reverse.append (.cons x .nil)
theorem aq.rep{v:List V}{d:List D}(a:aq h S v d):∀k:Nat,aq h S (Ev.rep k v) (Ev.rep k d)
 |0=>by simp[Ev.rep,aq]
 |k+1=>by
  have z:=aq.rep a k;simp only[Ev.rep,List.replicate_succ,List.flatten_cons]at z ⊢;exact a.append z
theorem aq.cut{v:List V}{d:List D}(a:aq h S v d)(lo hi:Option Int):aq h S (Ev.cut v lo hi) (Ev.cut d lo hi):=by
 unfold Ev.cut;rw[a.length];exact(a.drop _).take _
theorem aq.map{α:Type}{f:α->V}{g:α->D}(q:∀a,Rep h S (f a) (g a)):∀l:List α,aq h S (l.map f) (l.map g)
 |[]=>.nil
 |_ :: l=>.cons (q _) (aq.map q l)
mutual
theorem Rep.uniq:∀{v w:V}{d:D},Rep h U v d->Rep h U w d->v=w
 |.aL,w,_,a,b=>by simp only[Rep]at a;subst a;cases w<;>simp[Rep]at b<;>rfl
 |.bl _,w,_,a,b=>by simp only[Rep]at a;subst a;cases w<;>simp[Rep]at b<;>rw[b]
 |.int _,w,_,a,b=>by simp only[Rep]at a;subst a;cases w<;>simp[Rep]at b<;>rw[b]
 |.str _,w,_,a,b=>by simp only[Rep]at a;subst a;cases w<;>simp[Rep]at b<;>rw[b]
 |.tup l,w,_,a,b=>by
  simp only[Rep]at a;obtain⟨ds,rfl,a⟩:=a;cases w<;>simp[Rep]at b
  rw[aq.uniq a b]
 |.lst l,w,_,a,b=>by
  simp only[Rep]at a;obtain⟨n,ds,rfl,_,a1,a⟩:=a;cases w<;>simp[Rep]at b
  .obtain⟨ds',b1,b⟩:=b;rw[a1]at b1;cases b1;rw[aq.uniq a b]
  .obtain⟨ds',b1,b⟩:=b;rw[a1]at b1;cases b1
 |.bP l,w,_,a,b=>by
  simp only[Rep]at a;obtain⟨n,ds,rfl,_,a1,a⟩:=a;cases w<;>simp[Rep]at b
  .obtain⟨ds',b1,b⟩:=b;rw[a1]at b1;cases b1
  .obtain⟨ds',b1,b⟩:=b;rw[a1]at b1;cases b1;rw[aq.uniq a b]
theorem aq.uniq:∀{v w:List V}{d:List D},aq h U v d->aq h U w d->v=w
 |[],w,_,a,b=>by simp only[aq]at a;subst a;cases w<;>simp[aq]at b;rfl
 |x :: xs,w,_,a,b=>by
  simp only[aq]at a;obtain⟨d,es,rfl,a1,a2⟩:=a;cases w<;>simp only[aq]at b
  .cases b
  obtain⟨d',es',e,b1,b2⟩:=b;cases e;rw[Rep.uniq a1 b1,aq.uniq a2 b2]
end
theorem vZ{n:Nat}(f:∀v b,cS n v v=some b->b=true):∀l b,cz (cS n) l l=some b->b=true
 |[],b,e=>by simp[cz]at e;exact e
 |x :: xs,b,e=>by
  simp only[cz,Option.bind_eq_some_iff]at e;obtain⟨c,e1,c2,e2,e⟩:=e;rw[f x c e1,vZ f xs c2 e2]at e;simpa using e.symm
theorem v5:∀n v b,cS n v v=some b->b=true
 |0,_,_,e=>by cases e
 |n+1,v,b,e=>by
  cases v<;>first|exact vZ (v5 n) _ _ e | (cases e<;>first|rfl|exact beq_self_eq_true _)
theorem v8{n:Nat}(f:∀{v w:V}{d e:D}{b},cS n v w=some b->Rep h U v d->Rep h U w e->Ev.iM h n d e=some b):∀{l m:List V}{ds es:List D}{b},cz (cS n) l m=some b->aq h U l ds->aq h U m es->Ev.cz (Ev.iM h n) ds es=some b
 |[],[],_,_,b,e,p,q=>by simp only[aq]at p q;subst p q;simpa[cz,Ev.cz]using e
 |[],_ :: _,_,_,b,e,p,q=>by simp only[aq]at p q;subst p;obtain⟨_,_,rfl,_⟩:=q;simpa[cz,Ev.cz]using e
 |_ :: _,[],_,_,b,e,p,q=>by simp only[aq]at p q;subst q;obtain⟨_,_,rfl,_⟩:=p;simpa[cz,Ev.cz]using e
 |x :: xs,y :: ys,_,_,b,e,p,q=>by
  simp only[aq]at p q;obtain⟨d,ds,rfl,p1,p2⟩:=p;obtain⟨d',ds',rfl,q1,q2⟩:=q;simp only[cz,Option.bind_eq_some_iff]at e;obtain⟨c,e1,c2,e2,e⟩:=e;simp[Ev.cz,f e1 p1 q1,v8 f e2 p2 q2];simpa using e
theorem iG{n:Nat}{ds:List D}(q:h[n]?=some (.lst ds)):aW h n=some ds:=by simp[aW,q]
theorem je{n:Nat}{ds:List D}(q:h[n]?=some (.bP ds)):aW h n=some ds:=by simp[aW,q]
theorem ko:∀(n:Nat) {v w:V}{d e:D}{b},cS n v w=some b->Rep h U v d->Rep h U w e->Ev.iM h n d e=some b
  |0,_,_,_,_,_,e,_,_=>by cases e
  |n+1,v,w,d,e,b,x,p,q=>by
    by_cases hr:∃m,d=.ref m/\e=.ref m
    . obtain⟨m,rfl,rfl⟩:=hr;have hvw:=p.uniq q;subst hvw;have hb:=v5 _ _ _ x;subst hb;cases v<;>simp[Rep]at p
      . obtain⟨ds,p1,p2⟩:=p;show Ev.kg _ _ _ _=_;rw[Ev.kg,if_pos rfl,iG p1];rfl
      . obtain⟨ds,p1,p2⟩:=p;show Ev.kg _ _ _ _=_;rw[Ev.kg,if_pos rfl,je p1];rfl
    . cases v<;>cases w<;>simp only[Rep]at p q <;>
      first
      | (subst p;subst q;exact x)
      | (obtain⟨ds,rfl,p⟩:=p;subst q;exact x)
      | (obtain⟨ds,rfl,q⟩:=q;subst p;exact x)
      | (obtain⟨ds,rfl,p⟩:=p;obtain⟨es,rfl,q⟩:=q;exact v8 (λa b c=>ko n a b c) x p q)
      | (cases x;done)
      | (obtain⟨m,ds,rfl,_,p1,p⟩:=p;obtain⟨k,es,rfl,_,q1,q⟩:=q
         have hne:m≠k:=λz=>hr ⟨m,rfl,by rw[z]⟩;show Ev.kg _ _ _ _=_;rw[Ev.kg,if_neg hne,p1,q1];exact v8 (λa b c=>ko n a b c) x p q)
      | (cases x;obtain⟨m,ds,rfl,_,p1,p⟩:=p;subst q;exact congrArg (Option.map λ_=>false) (iG p1))
      | (cases x;obtain⟨m,ds,rfl,_,p1,p⟩:=p;subst q;exact congrArg (Option.map λ_=>false) (je p1))
      | (cases x;obtain⟨m,ds,rfl,_,p1,p⟩:=p;obtain⟨es,rfl,q⟩:=q;exact congrArg (Option.map λ_=>false) (iG p1))
      | (cases x;obtain⟨m,ds,rfl,_,p1,p⟩:=p;obtain⟨es,rfl,q⟩:=q;exact congrArg (Option.map λ_=>false) (je p1))
      | (cases x;obtain⟨m,ds,rfl,_,q1,q⟩:=q;subst p;exact congrArg (Option.map λ_=>false) (iG q1))
      | (cases x;obtain⟨m,ds,rfl,_,q1,q⟩:=q;subst p;exact congrArg (Option.map λ_=>false) (je q1))
      | (cases x;obtain⟨m,ds,rfl,_,q1,q⟩:=q;obtain⟨es,rfl,p⟩:=p;exact congrArg (Option.map λ_=>false) (iG q1))
      | (cases x;obtain⟨m,ds,rfl,_,q1,q⟩:=q;obtain⟨es,rfl,p⟩:=p;exact congrArg (Option.map λ_=>false) (je q1))
end
end Pv
namespace Pv
open Ev (D O Hh bF bu TY BI ME T E Es Eo It S Ss Fn big deep b2i rep bY dj bK aO cut cj dQ slots aW)
structure Al(h:Hh)(S:Nat->Prop)(h':Hh)(S':Nat->Prop):Prop where
 len:h.length<=h'.length
 keep:∀m,m<h.length->h'[m]?=h[m]?
 sub:∀m,S m->S' m
 new:∀m,S' m->S m\/(h.length<=m/\m<h'.length)
section
variable{h h':Hh}{S S':Nat->Prop}
theorem Al.refl:Al h S h S:=⟨Nat.le_refl _,λ_ _=>rfl,λ_ q=>q,λ_ q=>.inl q⟩
theorem Al.snoc(o:O):Al h S (h++[o]) (λm=>S m\/m=h.length) where
 len:=by simp
 keep:=λm q=>by rw[List.getElem?_append_left q]
 sub:=λ_ q=>.inl q
 new:=λm q=>by
  rcases q with q|q
  .exact .inl q
  .subst q;exact .inr ⟨Nat.le_refl _,by simp⟩
theorem kq{l:List V}{v:V}{ds:List D}(w:∀m,S m->m<h.length)(e:eL l=some v)(q:aq h S l ds):∃r h' S',Ev.alloc ds h=.ok r h'/\Rep h' S' v r/\Al h S h' S':=by
 unfold eL at e;split at e
 .rename_i z;cases e;refine⟨.ref h.length,h++[.lst ds],λm=>S m\/m=h.length,by unfold Ev.alloc;rw[if_pos (by rw[<-q.length];exact z)],?_,Al.snoc _⟩;simp only[Rep];refine⟨h.length,ds,rfl,.inr rfl,by simp,q.mono (λm z=>?_) λ_ z=>.inl z⟩;rw[List.getElem?_append_left (w m z)]
 .cases e
theorem qT{v:V}{l:List V}{d:D}(e:jS v=some l)(q:bq h S v d):∃n ds,d=.ref n/\aW h n=some ds/\aq h S l ds:=by
 cases v<;>simp[jS]at e
 .subst e;simp only[bq]at q;obtain⟨n,ds,rfl,a,b⟩:=q;exact⟨n,ds,rfl,iG a,b⟩
 .subst e;simp only[bq,Rep]at q;obtain⟨n,ds,rfl,_,a,b⟩:=q;exact⟨n,ds,rfl,je a,b⟩
mutual
theorem nN:∀{d:D}{v:V},ofD d=some v->Rep h S v d
 |.aL,_,e=>by simp[ofD]at e;subst e;simp[Rep]
 |.bl _,_,e=>by simp[ofD]at e;subst e;simp[Rep]
 |.int _,_,e=>by simp[ofD]at e;subst e;simp[Rep]
 |.str _,_,e=>by simp[ofD]at e;subst e;simp[Rep]
 |.ref _,_,e=>by simp[ofD]at e
 |.tup ds,_,e=>by
  simp[ofD]at e;obtain⟨vs,e,rfl⟩:=e;exact⟨ds,rfl,yQ e⟩
theorem yQ:∀{d:List D}{v:List V},vW d=some v->aq h S v d
 |[],_,e=>by simp[vW]at e;subst e;exact .nil
 |d :: ds,_,e=>by
  simp only[vW,Option.bind_eq_some_iff,Option.map_eq_some_iff]at e;obtain⟨v,e1,vs,e2,rfl⟩:=e;exact .cons (nN e1) (yQ e2)
end
theorem aq.emp{l:List V}{ds:List D}(q:aq h S l ds):ds.isEmpty=l.isEmpty:=by
 have:=q.length;cases l<;>cases ds<;>simp at this ⊢
theorem Cn{v:V}{d:D}(q:bq h S v d):Ev.truthy h d=some (truthy v):=by
 cases v<;>simp only[bq,Rep]at q
 .subst q;rfl
 .subst q;rfl
 .subst q;rfl
 .subst q;rfl
 .obtain⟨ds,rfl,q⟩:=q;simp only[Ev.truthy,truthy,q.emp]
 .obtain⟨n,ds,rfl,a,q⟩:=q;simp only[Ev.truthy,truthy,iG a,Option.map,q.emp]
 .obtain⟨n,ds,rfl,_,a,q⟩:=q;simp only[Ev.truthy,truthy,je a,Option.map,q.emp]
theorem nn{α:Type}{v:α}{p:Prop}(z:none=some v):p:=Option.noConfusion rfl (heq_of_eq z)
theorem MS{o:bF}{x y v:V}{d e:D}(w:∀m,S m->m<h.length)(z:bU o x y=some v)(p:bq h S x d)(q:bq h S y e):∃r h' S',Ev.bU o d e h=.ok r h'/\Rep h' S' v r/\Al h S h' S':=by
 cases o<;>cases x<;>first|exact nn z | (cases y<;>first|exact nn z|skip)
 all_goals (delta bU at z;dsimp only at z;simp only[bq,Rep]at p q)
 .subst p q;cases z;exact⟨_,_,S,rfl,rfl,.refl⟩
 .subst p q;split at z
  .rename_i k;cases z;exact⟨_,_,S,by delta Ev.bU;dsimp only;rw[if_pos k],rfl,.refl⟩
  .cases z
 .obtain⟨ds,rfl,p⟩:=p;obtain⟨es,rfl,q⟩:=q;split at z
  .rename_i k;cases z;exact⟨_,_,S,by delta Ev.bU;dsimp only;rw[if_pos (by rw[<-p.length,<-q.length];exact k)],⟨_,rfl,p.append q⟩,.refl⟩
  .cases z
 .obtain⟨n,ds,rfl,a,p⟩:=p;obtain⟨m,es,rfl,b,q⟩:=q
  delta Ev.bU;dsimp only;simp only[a,b]
  exact kq w z (p.append q)
 .subst p q;cases z;exact⟨_,_,S,rfl,rfl,.refl⟩
 .subst p q;split at z
  .rename_i k;cases z;exact⟨_,_,S,by delta Ev.bU;dsimp only;rw[if_pos k],rfl,.refl⟩
  .cases z
 .subst p q;split at z
  .rename_i k;cases z;exact⟨_,_,S,by delta Ev.bU;dsimp only;rw[if_pos k],rfl,.refl⟩
  .cases z
 .obtain⟨ds,rfl,p⟩:=p;subst q;split at z
  .rename_i k;cases z;exact⟨_,_,S,by delta Ev.bU;dsimp only;rw[if_pos (by rw[<-p.length];exact k)],⟨_,rfl,p.rep _⟩,.refl⟩
  .cases z
 .obtain⟨n,ds,rfl,a,p⟩:=p;subst q;split at z
  .rename_i k
   delta Ev.bU;dsimp only;simp only[a]
   rw[if_pos (by rw[<-p.length];exact k)];exact kq w z (p.rep _)
  .cases z
 .subst p q;split at z
  .rename_i k;cases z;exact⟨_,_,S,by delta Ev.bU;dsimp only;rw[if_pos k],rfl,.refl⟩
  .cases z
 .subst p q;split at z
  .rename_i k;cases z;exact⟨_,_,S,by delta Ev.bU;dsimp only;rw[if_pos k],rfl,.refl⟩
  .cases z
theorem qU{x:V}{d:D}(p:Rep h U x d):∀{l:List V}{ds:List D}{b},mem x l=some b->aq h U l ds->Ev.mem h d ds=some b
 |[],_,b,e,q=>by simp only[aq]at q;subst q;simpa[mem,Ev.mem]using e
 |y :: ys,_,b,e,q=>by
  simp only[aq]at q;obtain⟨d',ds,rfl,q1,q2⟩:=q;simp only[mem,Option.bind_eq_some_iff]at e;obtain⟨c,e1,c2,e2,e⟩:=e;simp[Ev.mem,ko deep e1 q1 p,qU p e2 q2];simpa using e
theorem yR{x y:V}{d e:D}{b:Bool}(z:isin x y=some b)(p:Rep h U x d)(q:Rep h U y e):Ev.isin d e h=some b:=by
 cases y<;>simp only[isin,reduceCtorEq]at z<;>simp only[Rep]at q
 .subst q;split at z
  .simp only[Rep]at p;subst p;simpa[Ev.isin]using z
  .cases z
 .obtain⟨ds,rfl,q⟩:=q;simpa[Ev.isin]using qU p z q
 .obtain⟨n,ds,rfl,_,a,q⟩:=q;simpa[Ev.isin,iG a]using qU p z q
 .obtain⟨n,ds,rfl,_,a,q⟩:=q;simpa[Ev.isin,je a]using qU p z q
theorem MT{o:bu}{x y:V}{d e:D}{b:Bool}(z:cop o x y=some b)(p:Rep h U x d)(q:Rep h U y e):Ev.cop o d e h=some b:=by
 cases o
 case eq=>delta cop at z;dsimp only at z;delta Ev.cop;dsimp only;exact ko deep z p q
 case ne=>
  delta cop at z;dsimp only at z;simp only[Option.map_eq_some_iff]at z;obtain⟨c,z,rfl⟩:=z
  delta Ev.cop;dsimp only;simp only[ko deep z p q];rfl
 case isin=>delta cop at z;dsimp only at z;delta Ev.cop;dsimp only;exact yR z p q
 case gu=>
  delta cop at z;dsimp only at z;simp only[Option.map_eq_some_iff]at z;obtain⟨c,z,rfl⟩:=z
  delta Ev.cop;dsimp only;simp only[yR z p q];rfl
 case yk=>
  cases y <;> (delta cop at z;dsimp only at z) <;> (try simp only[reduceCtorEq]at z)
  simp only[Rep]at q;subst q;cases x<;>simp only[Rep]at p <;> (try obtain⟨_,rfl,_⟩:=p) <;> (try obtain⟨_,_,rfl,_⟩:=p) <;> (try subst p) <;> (delta Ev.cop;dsimp only;simpa using z)
 case DZ=>
  cases y <;> (delta cop at z;dsimp only at z) <;> (try simp only[reduceCtorEq]at z)
  simp only[Rep]at q;subst q;cases x<;>simp only[Rep]at p <;> (try obtain⟨_,rfl,_⟩:=p) <;> (try obtain⟨_,_,rfl,_⟩:=p) <;> (try subst p) <;> (delta Ev.cop;dsimp only;simpa using z)
 all_goals (
  cases x<;>first|exact nn z | (cases y<;>first|exact nn z|skip)
  simp only[Rep]at p q;subst p q;exact z)
theorem AG{l:List V}{ds:List D}{i:Int}{v:V}(e:bK l i=some v)(q:aq h S l ds):∃d,bK ds i=some d/\Rep h S v d:=by
 unfold bK at e ⊢;rw[q.length]at e;cases z:dj ds.length i with
 |none=>rw[z]at e;cases e
 |some j=>rw[z]at e;exact q.get e
theorem MU{x y v:V}{d e:D}(z:fP x y=some v)(p:bq h S x d)(q:bq h S y e):∃r,Ev.fP d e h=some r/\Rep h S v r:=by
 cases x<;>cases y<;>simp only[fP,reduceCtorEq]at z<;>simp only[bq,Rep]at p q
 .subst p q;simp only[Option.map_eq_some_iff]at z;obtain⟨c,z,rfl⟩:=z;exact⟨.str [c],by simp[Ev.fP,z],rfl⟩
 .obtain⟨ds,rfl,p⟩:=p;subst q;simpa[Ev.fP]using AG z p
 .obtain⟨n,ds,rfl,a,p⟩:=p;subst q;simpa[Ev.fP,iG a]using AG z p
 .obtain⟨n,ds,rfl,_,a,p⟩:=p;subst q;simpa[Ev.fP,je a]using AG z p
theorem MV{x v:V}{d:D}{lo hi:Option Int}(w:∀m,S m->m<h.length)(z:gg x lo hi=some v)(p:bq h S x d):∃r h' S',Ev.gg d lo hi h=.ok r h'/\Rep h' S' v r/\Al h S h' S':=by
 cases x<;>simp only[gg,reduceCtorEq]at z<;>simp only[bq,Rep]at p
 .subst p;cases z;exact⟨_,_,S,rfl,rfl,.refl⟩
 .obtain⟨ds,rfl,p⟩:=p;cases z;exact⟨_,_,S,rfl,⟨_,rfl,p.cut _ _⟩,.refl⟩
 .obtain⟨n,ds,rfl,a,p⟩:=p;simp only[Ev.gg,iG a];exact kq w z (p.cut _ _)
 .obtain⟨n,ds,rfl,_,a,p⟩:=p;simp only[Ev.gg,je a];exact kq w z (p.cut _ _)
theorem MW{x v:V}{d:D}(z:toT x=some v)(p:bq h S x d):∃r,Ev.sI d h=.ok r h/\Rep h S v r:=by
 cases x<;>simp only[toT,reduceCtorEq]at z<;>simp only[bq,Rep]at p
 .obtain⟨ds,rfl,p⟩:=p;cases z;exact⟨_,rfl,⟨_,rfl,p⟩⟩
 .obtain⟨n,ds,rfl,a,p⟩:=p;unfold ki at z;split at z
  .rename_i k;cases z;refine⟨.tup ds,?_,⟨_,rfl,p⟩⟩;simp only[Ev.sI,iG a];rw[if_pos (by rw[<-p.length];exact k)]
  .cases z
 .obtain⟨n,ds,rfl,_,a,p⟩:=p;unfold ki at z;split at z
  .rename_i k;cases z;refine⟨.tup ds,?_,⟨_,rfl,p⟩⟩;simp only[Ev.sI,je a];rw[if_pos (by rw[<-p.length];exact k)]
  .cases z
theorem sV{x:V}{l:List V}{d:D}(z:jS x=some l)(p:bq h S x d):∃s,Ev.qe h d=some s/\aq h S l s.1/\(∀q∈s.2,d=.ref q.1/\aW h q.1=some q.2):=by
 obtain⟨n,ds,rfl,a,q⟩:=qT z p;exact⟨(ds,[(n,ds)]),by simp[Ev.qe,a],q,by simp[a]⟩
theorem Je{x:V}{d:D}(p:bq h S x d)(t:TY):Ev.dm h d t=dm x t:=by
 cases x<;>simp only[bq,Rep]at p
 .subst p;cases t<;>rfl
 .subst p;cases t<;>rfl
 .subst p;cases t<;>rfl
 .subst p;cases t<;>rfl
 .obtain⟨_,rfl,_⟩:=p;cases t<;>rfl
 .obtain⟨n,ds,rfl,a,p⟩:=p;cases t<;>simp[Ev.dm,dm,iG a]
 .obtain⟨n,ds,rfl,_,a,p⟩:=p;cases t<;>simp[Ev.dm,dm,je a]
theorem EA:∀{l:List V}{ds:List D}{bs},boolsOf l=some bs->aq h S l ds->Ev.boolsOf ds=some bs
 |[],_,_,e,q=>by simp only[aq]at q;subst q;exact e
 |x :: xs,_,bs,e,q=>by
  cases x<;>simp only[boolsOf,reduceCtorEq,Option.map_eq_some_iff]at e
  obtain⟨r,e,rfl⟩:=e;simp only[aq,Rep]at q;obtain⟨_,ds,rfl,rfl,q⟩:=q;simp[Ev.boolsOf,EA e q]
theorem yS:∀{l:List V}{ds:List D}{bs},intsOf l=some bs->aq h S l ds->Ev.intsOf ds=some bs
 |[],_,_,e,q=>by simp only[aq]at q;subst q;exact e
 |x :: xs,_,bs,e,q=>by
  cases x<;>simp only[intsOf,reduceCtorEq,Option.map_eq_some_iff]at e
  obtain⟨r,e,rfl⟩:=e;simp only[aq,Rep]at q;obtain⟨_,ds,rfl,rfl,q⟩:=q;simp[Ev.intsOf,yS e q]
theorem yT:∀{l:List V}{ds:List D}{bs},strsOf l=some bs->aq h S l ds->Ev.strsOf ds=some bs
 |[],_,_,e,q=>by simp only[aq]at q;subst q;exact e
 |x :: xs,_,bs,e,q=>by
  cases x<;>simp only[strsOf,reduceCtorEq,Option.map_eq_some_iff]at e
  obtain⟨r,e,rfl⟩:=e;simp only[aq,Rep]at q;obtain⟨_,ds,rfl,rfl,q⟩:=q;simp[Ev.strsOf,yT e q]
theorem gA.one{v:V}{ds:List D}(q:gA h S [v] ds):∃d,ds=[d]/\bq h S v d:=by
 simp only[gA]at q;obtain⟨d,es,rfl,a,rfl⟩:=q;exact⟨d,rfl,a⟩
theorem MX{b:BI}{xs:List V}{v:V}{ds:List D}(w:∀m,S m->m<h.length)(z:dS b xs=some v)(p:gA h S xs ds):∃r h' S',Ev.dS b ds h=.ok r h'/\Rep h' S' v r/\Al h S h' S':=by
 delta dS at z
 rcases xs with _|⟨x,_|⟨y,_|⟨u,xs⟩⟩⟩
 .cases b<;>exact nn z
 .obtain⟨d,rfl,p1⟩:=p.one;cases b
  case len=>
   cases x
   case str s=>
    dsimp only at z;simp only[bq,Rep]at p1;subst p1;split at z
    .rename_i k;cases z;exact⟨_,_,S,by delta Ev.dS;dsimp only;rw[if_pos k],rfl,.refl⟩
    .cases z
   case tup l=>
    dsimp only at z;simp only[bq,Rep]at p1;obtain⟨es,rfl,p2⟩:=p1;cases z;exact⟨_,_,S,rfl,by simp[Rep,p2.length],.refl⟩
   all_goals
    dsimp only at z;simp only[Option.map_eq_some_iff]at z;obtain⟨l,z,rfl⟩:=z;obtain⟨n,es,rfl,a,q⟩:=qT z p1;exact⟨.int es.length,h,S,by delta Ev.dS;dsimp only;simp[a],by simp[Rep,q.length],.refl⟩
  case sum=>
   dsimp only at z;simp only[Option.map_eq_some_iff,Option.bind_eq_some_iff]at z;obtain⟨bs,⟨l,z,z2⟩,rfl⟩:=z;obtain⟨n,es,rfl,a,q⟩:=qT z p1;exact⟨_,_,S,by delta Ev.dS;dsimp only;simp only[a,Option.bind,yS z2 q];rfl,rfl,.refl⟩
  case min=>cases x<;>exact nn z
 .cases b
  case min=>
   cases x
   case int i=>
    cases y
    case int j=>
     dsimp only at z;simp only[gA,bq,Rep]at p;obtain⟨_,_,rfl,rfl,_,_,rfl,rfl,rfl⟩:=p;cases z;exact⟨_,_,S,rfl,rfl,.refl⟩
    all_goals exact nn z
   all_goals exact nn z
  case len=>cases x<;>exact nn z
  all_goals exact nn z
 .cases b
  case min=>cases x <;> (try cases y)<;>exact nn z
  case len=>cases x<;>exact nn z
  all_goals exact nn z
theorem MY{m:ME}{o:V}{xs:List V}{v:V}{d:D}{ds:List D}(z:fG m o xs=some v)(hm:jd m=false)(po:bq h S o d)(p:gA h S xs ds):Ev.qJ m d h=true/\∃r,Ev.fG m d ds h=.ok r h/\Rep h S v r:=by
 unfold fG at z;split at z
 .obtain⟨d,rfl,p1⟩:=p.one;simp only[bq,Rep]at po;subst po;simp only[Option.bind_eq_some_iff]at z;obtain⟨ss,⟨l,z,z2⟩,z3⟩:=z;obtain⟨n,es,rfl,a,q⟩:=qT z p1;split at z3
  .rename_i k;cases z3;refine⟨rfl,_,?_,rfl⟩
   delta Ev.fG;dsimp only;simp only[a,Option.bind,yT z2 q]
   rw[if_pos k]
  .cases z3
 .cases z
theorem Jf{x:V}{d:D}(f:uO x=true)(p:Rep h U x d):Rep [] U x d:=by
 cases x<;>simp only[uO,Bool.false_eq_true]at f<;>exact p
theorem EB{x:V}{d:D}(p:Rep h U x d):∀{kvs:List (D×D)}{v:V},iX x kvs=some v->∃r,Ev.iX d kvs=some r/\Rep h S v r:=by
 intro kvs v z;unfold iX at z;split at z
 .rename_i f;have p':=Jf f p;induction kvs with
  |nil=>cases z
  |cons kv r ih=>
   obtain⟨k,u⟩:=kv;simp only[AB]at z;simp only[Ev.iX];split at z
   .rename_i y;simp only[Option.bind_eq_some_iff]at y;obtain⟨k',y1,y2⟩:=y;rw[ko 1 y2 (nN y1) p'];exact⟨u,rfl,nN z⟩
   .rename_i y;simp only[Option.bind_eq_some_iff]at y;obtain⟨k',y1,y2⟩:=y;rw[ko 1 y2 (nN y1) p'];exact ih z
   .cases z
 .cases z
theorem EC{x:V}{l:List V}{d:D}(z:fV x=some l)(p:bq h S x d):∃s,Ev.fV h d=some s/\aq h S l s.1/\(∀q∈s.2,d=.ref q.1/\aW h q.1=some q.2):=by
 cases x<;>simp only[fV,reduceCtorEq]at z<;>simp only[bq,Rep]at p
 .subst p;cases z;exact⟨_,rfl,aq.map (f:=λc=>V.str [c]) (g:=λc=>D.str [c]) (λ_=>by simp[Rep]) _,by simp⟩
 .obtain⟨ds,rfl,p⟩:=p;cases z;exact⟨_,rfl,p,by simp⟩
 .obtain⟨n,ds,rfl,a,p⟩:=p;cases z;exact⟨(ds,[(n,ds)]),by simp[Ev.fV,iG a],p,by simp[iG a]⟩
 .obtain⟨n,ds,rfl,_,a,p⟩:=p;cases z;exact⟨(ds,[(n,ds)]),by simp[Ev.fV,je a],p,by simp[je a]⟩
theorem v9(lo:Int)(n:Nat):aq h S (range lo n) (Ev.range lo n):=aq.map (f:=λ(i:Nat)=>V.int (lo+i)) (g:=λ(i:Nat)=>D.int (lo+i)) (λ_=>by simp[Rep]) _
theorem MZ{xs l:List V}{ds:List D}(z:er xs=some l)(p:gA h S xs ds):∃s,Ev.er ds=some (s,[])/\aq h S l s:=by
 unfold er at z;split at z
 .obtain⟨d,rfl,p1⟩:=p.one;simp only[bq,Rep]at p1;subst p1;split at z
  .rename_i k;cases z;exact⟨_,by simp only[Ev.er];rw[if_pos k],v9 _ _⟩
  .cases z
 .simp only[gA,bq,Rep]at p;obtain⟨_,_,rfl,rfl,_,_,rfl,rfl,rfl⟩:=p;split at z
  .rename_i k;cases z;exact⟨_,by simp only[Ev.er];rw[if_pos k],v9 _ _⟩
  .cases z
 .cases z
theorem Co:∀{a b:List V}{ds es:List D},aq h S a ds->aq h S b es->aq h S (eB a b) (Ev.eB ds es)
 |[],_,_,_,p,q=>by simp only[aq]at p;subst p;simp[eB,Ev.eB,aq]
 |_ :: _,[],_,_,p,q=>by simp only[aq]at q;subst q;simp[eB,Ev.eB,aq]
 |x :: xs,y :: ys,_,_,p,q=>by
  simp only[aq]at p q;obtain⟨d,ds,rfl,p1,p2⟩:=p;obtain⟨e,es,rfl,q1,q2⟩:=q;have:=Co p2 q2;simp only[eB,Ev.eB,List.zipWith_cons_cons]at this ⊢;exact .cons ⟨_,rfl,.cons p1 (.cons q1 .nil)⟩ this
theorem yU:∀{a:List V}{ds:List D}(k:Int),aq h S a ds->aq h S (iz k a) (Ev.iz k ds)
 |[],_,_,p=>by simp only[aq]at p;subst p;simp[iz,Ev.iz,aq]
 |x :: xs,_,k,p=>by
  simp only[aq]at p;obtain⟨d,ds,rfl,p1,p2⟩:=p;simp only[iz,Ev.iz];exact .cons ⟨_,rfl,.cons rfl (.cons p1 .nil)⟩ (yU _ p2)
end
end Pv
namespace Pv
open Ev (D O Hh bF bu TY BI ME T E Es Eo It S Ss Fn big deep b2i rep bY dj bK aO cut cj dQ slots aW)
noncomputable def lS(M B:Nat->Prop)(h:Hh)(S:Nat->Prop):Option Sl->Option D->Prop
 |none,p=>p=none
 |some (.val v),p=>∃d,p=some d/\Rep h S v d
 |some (.own l),p=>∃m ds,p=some (.ref m)/\(M m/\¬ B m)/\h[m]?=some (.lst ds)/\aq h S l ds
 |some (.bor l),p=>∃m ds,p=some (.ref m)/\(M m/\B m)/\h[m]?=some (.lst ds)/\aq h S l ds
 |some (.ro l),p=>∃m ds,p=some (.ref m)/\¬ M m/\h[m]?=some (.lst ds)/\aq h S l ds
noncomputable def iO:Option Sl->Bool
 |some (.own _)=>true
 |some (.bor _)=>true
 |_=>false
noncomputable def yV:Option Sl->Bool
 |some (.bor _)=>true
 |some (.ro _)=>true
 |_=>false
noncomputable def locked(fr:Fr)(i:Nat):Bool:=match fr[i]? with
 |some o=>yV o
 |none=>false
structure aU(M B:Nat->Prop)(h:Hh)(S:Nat->Prop)(fr:Fr)(aj:Ev.Fr):Prop where
 wS:∀m,S m->m<h.length/\¬ M m/\¬ B m
 wM:∀m,M m->m<h.length
 wB:∀m,B m->m<h.length
 len:fr.length=aj.length
 sl:∀(i:Nat) o p,fr[i]?=some o->aj[i]?=some p->lS M B h S o p
 inj:∀(i j:Nat) o o' m,fr[i]?=some o->fr[j]?=some o'->iO o=true->iO o'=true->aj[i]?=some (some (.ref m))->aj[j]?=some (some (.ref m))->i=j
structure Tk(X:Nat->Prop)(h:Hh)(S:Nat->Prop)(h':Hh)(S':Nat->Prop):Prop where
 len:h.length<=h'.length
 keep:∀m,m<h.length->¬ X m->h'[m]?=h[m]?
 sub:∀m,S m->S' m
 new:∀m,S' m->S m\/(h.length<=m/\m<h'.length)
noncomputable def Xs(M:Nat->Prop)(aj:Ev.Fr)(l:List Nat):Nat->Prop:=λm=>M m/\∃i∈l,aj[i]?=some (some (.ref m))
structure Out(M B:Nat->Prop)(c:List Nat)(h:Hh)(S:Nat->Prop)(fr:Fr)(aj:Ev.Fr)(h':Hh)(S':Nat->Prop)(af:Fr):Prop where
 f:aU M B h' S' af aj
 tr:Tk (Xs M aj c) h S h' S'
 lk:∀i,locked af i=locked fr i
section
variable{M B M':Nat->Prop}{h h' h1 h2:Hh}{S S' S1 S2:Nat->Prop}{fr af ao:Fr}{aj:Ev.Fr}{c c1 c2:List Nat}{v:V}{d:D}{X X1 X2:Nat->Prop}
theorem aU.get(f:aU M B h S fr aj){i:Nat}{o:Option Sl}(e:fr[i]?=some o):∃p,aj[i]?=some p/\lS M B h S o p:=by
 have h1:=(List.getElem?_eq_some_iff.mp e).1;rw[f.len]at h1;exact⟨aj[i],List.getElem?_eq_getElem h1,f.sl i o _ e (List.getElem?_eq_getElem h1)⟩
theorem aU.w(f:aU M B h S fr aj):∀m,S m->m<h.length:=λm q=>(f.wS m q).1
theorem Al.tr(a:Al h S h' S'):Tk X h S h' S':=⟨a.len,λm q _=>a.keep m q,a.sub,a.new⟩
theorem Tk.al(t:Tk X h S h' S')(z:∀m,¬ X m):Al h S h' S':=⟨t.len,λm q=>t.keep m q (z m),t.sub,t.new⟩
theorem Tk.weak(t:Tk X h S h' S')(q:∀m,X m->X1 m):Tk X1 h S h' S':=⟨t.len,λm k z=>t.keep m k λy=>z (q m y),t.sub,t.new⟩
theorem Tk.trans(a:Tk X1 h S h1 S1)(b:Tk X2 h1 S1 h2 S2):Tk (λm=>X1 m\/X2 m) h S h2 S2 where
 len:=Nat.le_trans a.len b.len
 keep:=λm q z=>by rw[b.keep m (Nat.lt_of_lt_of_le q a.len) (λy=>z (.inr y)),a.keep m q (λy=>z (.inl y))]
 sub:=λm q=>b.sub m (a.sub m q)
 new:=λm q=>by
  rcases b.new m q with q|⟨q1,q2⟩
  .rcases a.new m q with q|⟨q1,q2⟩
   .exact .inl q
   .exact .inr ⟨q1,Nat.lt_of_lt_of_le q2 b.len⟩
  .exact .inr ⟨Nat.le_trans a.len q1,q2⟩
theorem Al.trans(a:Al h S h1 S1)(b:Al h1 S1 h2 S2):Al h S h2 S2:=((a.tr (X:=λ_=>False)).trans (b.tr (X:=λ_=>False))).al λm z=>by simp at z
theorem Tk.refl:Tk X h S h S:=⟨Nat.le_refl _,λ_ _ _=>rfl,λ_ q=>q,λ_ q=>.inl q⟩
theorem Xs.app{l1 l2:List Nat}{m:Nat}:Xs M aj (l1++l2) m↔Xs M aj l1 m\/Xs M aj l2 m:=by
 unfold Xs;constructor
 .rintro⟨a,i,hi,e⟩;rcases List.mem_append.mp hi with hi|hi
  .exact .inl ⟨a,i,hi,e⟩
  .exact .inr ⟨a,i,hi,e⟩
 .rintro(⟨a,i,hi,e⟩|⟨a,i,hi,e⟩)
  .exact⟨a,i,List.mem_append.mpr (.inl hi),e⟩
  .exact⟨a,i,List.mem_append.mpr (.inr hi),e⟩
theorem Xs.nil{m:Nat}:¬ Xs M aj [] m:=by rintro⟨_,i,hi,_⟩;simp at hi
theorem Xs.mono{l1 l2:List Nat}(q:∀i∈l1,i∈l2){m:Nat}:Xs M aj l1 m->Xs M aj l2 m:=λ⟨a,i,hi,e⟩=>⟨a,i,q i hi,e⟩
theorem Rep.tr(q:Rep h S v d)(f:aU M B h S fr aj)(t:Tk (Xs M aj c) h S h' S'):Rep h' S' v d:=q.mono (λm z=>t.keep m (f.wS m z).1 (λy=>(f.wS m z).2.1 y.1)) t.sub
theorem aq.tr{l:List V}{ds:List D}(q:aq h S l ds)(f:aU M B h S fr aj)(t:Tk (Xs M aj c) h S h' S'):aq h' S' l ds:=q.mono (λm z=>t.keep m (f.wS m z).1 (λy=>(f.wS m z).2.1 y.1)) t.sub
theorem bq.tr(q:bq h S v d)(f:aU M B h S fr aj)(t:Tk X h S h' S')(z:∀m,¬ X m):bq h' S' v d:=q.mono (λm k=>t.keep m k (z m)) f.w t.sub
theorem lS.al{o:Option Sl}{p:Option D}(q:lS M B h S o p)(w:∀m,S m->m<h.length)(a:Al h S h' S'):lS M B h' S' o p:=by
 have k:∀m,S m->h'[m]?=h[m]?:=λm z=>a.keep m (w m z);have g:∀(m:Nat) (ds:List D),h[m]?=some (O.lst ds)->h'[m]?=some (O.lst ds):=λm ds z=>by rw[a.keep m (List.getElem?_eq_some_iff.mp z).1];exact z
 rcases o with _|s
 .exact q
 .cases s with
  |val v=>obtain⟨d,e,q⟩:=q;exact⟨d,e,q.mono k a.sub⟩
  |own l=>obtain⟨m,ds,e,z,y,q⟩:=q;exact⟨m,ds,e,z,g m ds y,q.mono k a.sub⟩
  |bor l=>obtain⟨m,ds,e,z,y,q⟩:=q;exact⟨m,ds,e,z,g m ds y,q.mono k a.sub⟩
  |ro l=>obtain⟨m,ds,e,z,y,q⟩:=q;exact⟨m,ds,e,z,g m ds y,q.mono k a.sub⟩
theorem aU.al(f:aU M B h S fr aj)(a:Al h S h' S'):aU M B h' S' fr aj where
 wS:=λm q=>by
  rcases a.new m q with q|⟨q1,q2⟩
  .exact⟨Nat.lt_of_lt_of_le (f.wS m q).1 a.len,(f.wS m q).2⟩
  .exact⟨q2,λz=>by have:=f.wM m z;omega,λz=>by have:=f.wB m z;omega⟩
 wM:=λm q=>Nat.lt_of_lt_of_le (f.wM m q) a.len
 wB:=λm q=>Nat.lt_of_lt_of_le (f.wB m q) a.len
 len:=f.len
 sl:=λi o p e1 e2=>(f.sl i o p e1 e2).al f.w a
 inj:=f.inj
theorem Out.refl(f:aU M B h S fr aj):Out M B c h S fr aj h S fr:=⟨f,.refl,λ_=>rfl⟩
theorem Out.trans(a:Out M B c1 h S fr aj h1 S1 af)(b:Out M B c2 h1 S1 af aj h2 S2 ao):Out M B (c1++c2) h S fr aj h2 S2 ao:=⟨b.f,(a.tr.trans b.tr).weak λm z=>Xs.app.mpr z,λi=>(b.lk i).trans (a.lk i)⟩
theorem Out.al(a:Out M B c h S fr aj h1 S1 af)(b:Al h1 S1 h2 S2):Out M B c h S fr aj h2 S2 af:=⟨a.f.al b,(a.tr.trans (b.tr (X:=λ_=>False))).weak (λm z=>by rcases z with z|z;exact z;exact z.elim),a.lk⟩
theorem Out.weak(a:Out M B c h S fr aj h1 S1 af)(q:∀i∈c,i∈c1):Out M B c1 h S fr aj h1 S1 af:=⟨a.f,a.tr.weak λm z=>Xs.mono q z,a.lk⟩
noncomputable def fY(k:Bool)(h:Hh)(S:Nat->Prop)(v:V)(d:D):Prop:=if k=true then bq h S v d else Rep h S v d
theorem fY.of{k:Bool}(q:Rep h S v d):fY k h S v d:=by unfold fY;split;exact q.top;exact q
theorem fY.t{k:Bool}(q:fY k h S v d):bq h S v d:=by unfold fY at q;split at q;exact q;exact q.top
theorem fY.n(q:fY false h S v d):Rep h S v d:=by simpa[fY]using q
theorem aU.slot(f:aU M B h S fr aj){i m:Nat}(e:aj[i]?=some (some (.ref m)))(hm:M m):∃o,fr[i]?=some o/\iO o=true:=by
 have hl:i<fr.length:=by rw[f.len];exact(List.getElem?_eq_some_iff.mp e).1
 refine⟨fr[i],List.getElem?_eq_getElem hl,?_⟩;have s:=f.sl i _ _ (List.getElem?_eq_getElem hl) e
 revert s
 generalize fr[i]=o
 intro s;rcases o with _|s'
 .cases s
 .cases s' with
  |own l=>rfl
  |bor l=>rfl
  |ro l=>obtain⟨m',ds,e,y,_⟩:=s;cases e;exact absurd hm y
  |val v=>
   obtain⟨d,e,q⟩:=s;cases e;exfalso;cases v<;>simp only[Rep,reduceCtorEq]at q
   .obtain⟨_,e,_⟩:=q;cases e
   .obtain⟨n,ds,e,sn,_⟩:=q;cases e;exact(f.wS _ sn).2.1 hm
   .obtain⟨n,ds,e,sn,_⟩:=q;cases e;exact(f.wS _ sn).2.1 hm
theorem fY.tr{k:Bool}{a:E}(q:fY k h S v d)(f:aU M B h S fr aj)(t:Tk (Xs M aj c) h S h' S')(hk:k=true->kf a c=true)(ha:∀i,a=.v i->aj[i]?.join=some d):fY k h' S' v d:=by
 unfold fY at q ⊢;split at q
 .rename_i e;rw[if_pos e];have hk:=hk e;have gen:c=[]->bq h' S' v d:=λz=>q.tr f t λm y=>by subst z;exact Xs.nil y
  by_cases hv:∃i,a=.v i
  .obtain⟨i0,rfl⟩:=hv;simp only[kf,Bool.not_eq_true',List.contains_eq_mem,decide_eq_false_iff_not]at hk;cases v
   case lst l=>
    simp only[bq]at q ⊢;obtain⟨n,ds,rfl,b1,b2⟩:=q;refine⟨n,ds,rfl,?_,b2.tr f t⟩;rw[t.keep n (List.getElem?_eq_some_iff.mp b1).1 ?_]
    .exact b1
    .rintro⟨mn,j,hj,ej⟩;have e2:aj[i0]?=some (some (D.ref n)):=by
      have:=ha i0 rfl;cases z:aj[i0]? with
      |none=>rw[z]at this;cases this
      |some p=>rw[z]at this;simp at this;rw[this]
     obtain⟨o1,y1,y2⟩:=f.slot e2 mn;obtain⟨o2,y3,y4⟩:=f.slot ej mn;have:=f.inj i0 j o1 o2 n y1 y3 y2 y4 e2 ej;subst this;exact hk hj
   all_goals exact Rep.tr (show Rep h S _ d from q) f t
  .have:kf a c=c.isEmpty:=by
    cases a<;>first|rfl|exact absurd ⟨_,rfl⟩ hv
   rw[this,List.isEmpty_iff]at hk;exact gen hk
 .rename_i e;rw[if_neg e];exact q.tr f t
theorem Jg{k:Bool}{i:Nat}(e:nM k fr i=some v)(f:aU M B h S fr aj):∃d,aj[i]?.join=some d/\fY k h S v d:=by
  unfold nM at e;split at e
  . rename_i z;obtain⟨p,e1,q⟩:=f.get z;obtain⟨d,rfl,q⟩:=q;cases e;exact⟨d,by rw[e1];rfl,.of q⟩
  all_goals first
    | (rename_i z
       obtain⟨p,e1,q⟩:=f.get z;obtain⟨m,ds,rfl,_,y,q⟩:=q;split at e
       . rename_i hk;cases e;exact⟨.ref m,by rw[e1];rfl,by unfold fY;rw[if_pos hk];exact⟨m,ds,rfl,y,q⟩⟩
       . cases e)
    |cases e
theorem iP{i:Nat}{s:Sl}(e:lent fr i=some s)(f:aU M B h S fr aj):∃m ds l o,fr[i]?=some o/\aj[i]?=some (some (.ref m))/\h[m]?=some (.lst ds)/\aq h S l ds/\((s=.bor l/\M m/\iO o=true)\/(s=.ro l/\¬ M m/\o=some (.ro l))):=by
 unfold lent at e;split at e
 .rename_i s' z;obtain⟨p,e1,q⟩:=f.get z;cases s' with
  |val v=>simp[Sl.lend]at e
  |own l=>
   simp[Sl.lend]at e;subst e;obtain⟨m,ds,rfl,y,y1,q⟩:=q;exact⟨m,ds,l,_,z,e1,y1,q,.inl ⟨rfl,y.1,rfl⟩⟩
  |bor l=>
   simp[Sl.lend]at e;subst e;obtain⟨m,ds,rfl,y,y1,q⟩:=q;exact⟨m,ds,l,_,z,e1,y1,q,.inl ⟨rfl,y.1,rfl⟩⟩
  |ro l=>
   simp[Sl.lend]at e;subst e;obtain⟨m,ds,rfl,y,y1,q⟩:=q;exact⟨m,ds,l,_,z,e1,y1,q,.inr ⟨rfl,y,rfl⟩⟩
 .cases e
noncomputable def uB(h:Hh)(S:Nat->Prop)(aj:Ev.Fr):List (Nat ⊕ V)->List D->Prop
 |[],ds=>ds=[]
 |.inl i :: r,ds=>∃d es,ds=d :: es/\aj[i]?=some (some d)/\uB h S aj r es
 |.inr v :: r,ds=>∃d es,ds=d :: es/\Rep h S v d/\uB h S aj r es
noncomputable def lJ(h:Hh)(S:Nat->Prop):List Sl->List D->List (List V)->Prop
 |[],_,os=>os=[]
 |.val _ :: sl,ds,os=>∃d es,ds=d :: es/\lJ h S sl es os
 |.own _ :: _,_,_=>False
 |_ :: sl,ds,os=>∃d es l r m cs,ds=d :: es/\os=l :: r/\d=.ref m/\h[m]?=some (.lst cs)/\aq h S l cs/\lJ h S sl es r
noncomputable def oW(P:aI)(P':Ev.aI):Prop:=∀f sl v os,P f sl=some (v,os)->∀(h:Hh) (S B:Nat->Prop) (ds:List D),aU B B h S (sl.map some) (ds.map some)->
 ∃d h' S',P' f ds h=.ok d h'/\Rep h' S' v d/\Tk B h S h' S'/\lJ h' S' sl ds os
theorem args_get(f:aU M B h S fr aj):∀{as:List (Nat ⊕ V)}{sl:List Sl}{ds:List D},args fr as=some sl->uB h S aj as ds->sl.length=ds.length/\∀(a:Nat) s d,sl[a]?=some s->ds[a]?=some d->
  (∃i,as[a]?=some (.inl i)/\lent fr i=some s/\aj[i]?=some (some d))\/(∃v,s=.val v/\Rep h S v d)
 |[],sl,ds,e,q=>by
  simp[args]at e;simp only[uB]at q;subst e q;simp
 |.inl i :: r,sl,ds,e,q=>by
  simp only[args,Option.bind_eq_some_iff,Option.map_eq_some_iff]at e;obtain⟨s,e1,l,e2,rfl⟩:=e;obtain⟨d,es,rfl,q1,q⟩:=q;obtain⟨h1,h2⟩:=args_get f e2 q;refine⟨by simp[h1],λa s' d' z1 z2=>?_⟩;cases a with
  |zero=>simp at z1 z2;subst z1 z2;exact .inl ⟨i,by simp,e1,q1⟩
  |succ a=>exact(h2 a s' d' (by simpa using z1) (by simpa using z2)).imp (λ⟨i,k,z⟩=>⟨i,by simpa using k,z⟩) id
 |.inr v :: r,sl,ds,e,q=>by
  simp only[args,Option.map_eq_some_iff]at e;obtain⟨l,e2,rfl⟩:=e;obtain⟨d,es,rfl,q1,q⟩:=q;obtain⟨h1,h2⟩:=args_get f e2 q;refine⟨by simp[h1],λa s' d' z1 z2=>?_⟩;cases a with
  |zero=>simp at z1 z2;subst z1 z2;exact .inr ⟨v,rfl,q1⟩
  |succ a=>exact(h2 a s' d' (by simpa using z1) (by simpa using z2)).imp (λ⟨i,k,z⟩=>⟨i,by simpa using k,z⟩) id
theorem iQ:∀{as:List (Nat ⊕ V)}{a i:Nat},as[a]?=some (.inl i)->i∈bM as
 |[],_,_,e=>by simp at e
 |.inl j :: r,0,i,e=>by simp at e;subst e;simp[bM]
 |.inr j :: r,0,i,e=>by simp at e
 |.inl j :: r,a+1,i,e=>by have:=iQ (as:=r) (a:=a) (i:=i) (by simpa using e);simp[bM,this]
 |.inr j :: r,a+1,i,e=>by have:=iQ (as:=r) (a:=a) (i:=i) (by simpa using e);simp[bM,this]
theorem nO:∀{as:List (Nat ⊕ V)}{a b i:Nat},(bM as).Nodup->as[a]?=some (.inl i)->as[b]?=some (.inl i)->a=b
 |[],_,_,_,_,e,_=>by simp at e
 |x :: r,0,0,_,_,_,_=>rfl
 |.inr j :: r,0,b+1,i,n,e,_=>by simp at e
 |.inl j :: r,0,b+1,i,n,e,e2=>by
  simp at e;subst e;simp only[bM,List.nodup_cons]at n;exact absurd (iQ (as:=r) (a:=b) (by simpa using e2)) n.1
 |.inr j :: r,a+1,0,i,n,_,e=>by simp at e
 |.inl j :: r,a+1,0,i,n,e2,e=>by
  simp at e;subst e;simp only[bM,List.nodup_cons]at n;exact absurd (iQ (as:=r) (a:=a) (by simpa using e2)) n.1
 |.inl j :: r,a+1,b+1,i,n,e1,e2=>by
  simp only[bM,List.nodup_cons]at n;have:=nO (as:=r) (a:=a) (b:=b) (i:=i) n.2 (by simpa using e1) (by simpa using e2);omega
 |.inr j :: r,a+1,b+1,i,n,e1,e2=>by
  simp only[bM]at n;have:=nO (as:=r) (a:=a) (b:=b) (i:=i) n (by simpa using e1) (by simpa using e2);omega
theorem ED{s:Sl}{l:List V}:iO (some (s.with l))=iO (some s):=by cases s<;>rfl
theorem yW{s:Sl}{l:List V}:yV (some (s.with l))=yV (some s):=by cases s<;>rfl
theorem wc:∀{is:List Nat}{ls:List (List V)}{fr af:Fr},back is ls fr=some af->is.Nodup->af.length=fr.length/\(∀i,i∉is->af[i]?=fr[i]?)/\∀i∈is,∃(k:Nat) (s:Sl) (l:List V),is[k]?=some i/\ls[k]?=some l/\fr[i]?=some (some s)/\af[i]?=some (some (s.with l))
 |[],[],fr,af,e,_=>by simp[back]at e;subst e;simp
 |[],_ :: _,_,_,e,_=>by simp[back]at e
 |_ :: _,[],_,_,e,_=>by simp[back]at e
 |i :: is,l :: ls,fr,af,e,n=>by
  simp only[back]at e;simp only[List.nodup_cons]at n;split at e
  .rename_i s z;obtain⟨h1,h2,h3⟩:=wc e n.2;refine⟨by simpa using h1,λj hj=>?_,λj hj=>?_⟩
   .simp at hj;rw[h2 j hj.2,List.getElem?_set_ne (λq=>hj.1 q.symm)]
   .rcases List.mem_cons.mp hj with rfl|hj
    .exact⟨0,s,l,by simp,by simp,z,by rw[h2 j n.1,List.getElem?_set_self (List.getElem?_eq_some_iff.mp z).1]⟩
    .obtain⟨k,s',l',a,b,c,d⟩:=h3 j hj;have hne:i≠j:=λq=>n.1 (q▸hj);rw[List.getElem?_set_ne hne]at c;exact⟨k+1,s',l',by simpa using a,by simpa using b,c,d⟩
  .cases e
theorem nQ(f:aU M B h S fr aj):∀{as:List (Nat ⊕ V)}{sl:List Sl}{ds:List D}{os:List (List V)},args fr as=some sl->uB h S aj as ds->lJ h' S' sl ds os->
  ∀(k i:Nat) l,(bM as)[k]?=some i->os[k]?=some l->∃m cs,aj[i]?=some (some (.ref m))/\h'[m]?=some (.lst cs)/\aq h' S' l cs
 |[],sl,ds,os,e,q,o=>by simp[bM]
 |.inl i :: r,sl,ds,os,e,q,o=>by
  simp only[args,Option.bind_eq_some_iff,Option.map_eq_some_iff]at e;obtain⟨s,e1,l,e2,rfl⟩:=e;obtain⟨d,es,rfl,q1,q⟩:=q;obtain⟨m,cs,l0,o0,_,z2,z3,z4,z5⟩:=iP e1 f;have key:∃l1 r1 cs,os=l1 :: r1/\h'[m]?=some (.lst cs)/\aq h' S' l1 cs/\lJ h' S' l es r1:=by
   rw[q1]at z2;cases z2;rcases z5 with ⟨rfl,_⟩|⟨rfl,_⟩
   .obtain⟨d',es',l1,r1,m1,Cp,a1,a2,a3,a4,a5,a6⟩:=o;cases a1;cases a3;exact⟨l1,r1,Cp,a2,a4,a5,a6⟩
   .obtain⟨d',es',l1,r1,m1,Cp,a1,a2,a3,a4,a5,a6⟩:=o;cases a1;cases a3;exact⟨l1,r1,Cp,a2,a4,a5,a6⟩
  obtain⟨l1,r1,Cp,rfl,a4,a5,a6⟩:=key;intro k j l' y1 y2;cases k with
  |zero=>simp[bM]at y1 y2;subst y1 y2;exact⟨m,Cp,z2,a4,a5⟩
  |succ k=>exact nQ f e2 q a6 k j l' (by simpa[bM]using y1) (by simpa using y2)
 |.inr v :: r,sl,ds,os,e,q,o=>by
  simp only[args,Option.map_eq_some_iff]at e;obtain⟨l,e2,rfl⟩:=e;obtain⟨d,es,rfl,q1,q⟩:=q;obtain⟨d',es',a1,a2⟩:=o;cases a1;intro k j l' y1 y2;exact nQ f e2 q a2 k j l' (by simpa[bM]using y1) y2
theorem mF:∀{as:List (Nat ⊕ V)}{sl:List Sl}{i:Nat},args fr as=some sl->i∈bM as->∃s,lent fr i=some s
 |[],_,_,_,q=>by simp[bM]at q
 |.inl j :: r,_,i,z,q=>by
  simp only[args,Option.bind_eq_some_iff,Option.map_eq_some_iff]at z;obtain⟨s,e1,l,e2,rfl⟩:=z;simp[bM]at q;rcases q with rfl|q
  .exact⟨s,e1⟩
  .exact mF e2 q
 |.inr u :: r,_,i,z,q=>by
  simp only[args,Option.map_eq_some_iff]at z;obtain⟨l,e2,rfl⟩:=z;exact mF e2 (by simpa[bM]using q)
noncomputable def LB(fr:Fr)(aj:Ev.Fr)(as:List (Nat ⊕ V)):Nat->Prop:=λm=>∃(i:Nat) (o:Option Sl),i∈bM as/\fr[i]?=some o/\iO o=true/\aj[i]?=some (some (.ref m))
theorem LB.m(f:aU M B h S fr aj){as:List (Nat ⊕ V)}:∀m,LB fr aj as m->M m:=λm ⟨i,o,_,a,b,c⟩=>by
  have s:=f.sl i o _ a c;rcases o with _|s'
  .cases b
  .cases s' with
   |val v=>cases b
   |ro l=>cases b
   |own l=>obtain⟨m',ds',e,y,_⟩:=s;cases e;exact y.1
   |bor l=>obtain⟨m',ds',e,y,_⟩:=s;cases e;exact y.1
theorem yX(f:aU M B h S fr aj){as:List (Nat ⊕ V)}{sl:List Sl}{ds:List D}(nd:(bM as).Nodup)(z:args fr as=some sl)(q:uB h S aj as ds):aU (LB fr aj as) (LB fr aj as) h S (sl.map some) (ds.map some):=by
 have pP:=LB.m f (as:=as);obtain⟨hl,hg⟩:=args_get f z q;refine⟨λm y=>⟨(f.wS m y).1,λz=>(f.wS m y).2.1 (pP m z),λz=>(f.wS m y).2.1 (pP m z)⟩,λm y=>f.wM m (pP m y),λm y=>f.wM m (pP m y),by simp[hl],λa o p y1 y2=>?_,λa b o o' m y1 y2 y3 y4 y5 y6=>?_⟩
 .simp at y1 y2;obtain⟨s,y1,rfl⟩:=y1;obtain⟨d,y2,rfl⟩:=y2;rcases hg a s d y1 y2 with ⟨i,k1,k2,k3⟩|⟨u,rfl,k⟩
  .obtain⟨m,cs,l0,o0,w1,w2,w3,w4,w5⟩:=iP k2 f;rw[k3]at w2;cases w2;rcases w5 with ⟨rfl,w6,w7⟩|⟨rfl,w6,w7⟩
   .exact⟨m,cs,rfl,⟨⟨i,o0,iQ k1,w1,w7,k3⟩,⟨i,o0,iQ k1,w1,w7,k3⟩⟩,w3,w4⟩
   .exact⟨m,cs,rfl,λz=>w6 (pP m z),w3,w4⟩
  .exact⟨d,rfl,k⟩
 .simp at y1 y2 y5 y6;obtain⟨s,y1,rfl⟩:=y1;obtain⟨s',y2,rfl⟩:=y2;rcases hg a s _ y1 y5 with ⟨i,k1,k2,k3⟩|⟨u,rfl,k⟩
  .rcases hg b s' _ y2 y6 with ⟨j,k4,k5,k6⟩|⟨u,rfl,k⟩
   .obtain⟨m1,_,l1,o1,w1,w2,_,_,w5⟩:=iP k2 f;obtain⟨m2,_,l2,o2,x1,x2,_,_,x5⟩:=iP k5 f;have i1:iO o1=true:=by rcases w5 with ⟨_,_,w7⟩|⟨rfl,_,_⟩;exact w7;cases y3
    have i2:iO o2=true:=by rcases x5 with ⟨_,_,w7⟩|⟨rfl,_,_⟩;exact w7;cases y4
    have:=f.inj i j o1 o2 m w1 x1 i1 i2 k3 k6;subst this;exact nO nd k1 k4
   .cases y4
  .cases y3
theorem qp{P:aI}{P':Ev.aI}(HP:oW P P'){g:Nat}{as:List (Nat ⊕ V)}{ds:List D}(e:eO P g as fr=.ok v af)(f:aU M B h S fr aj)(q:uB h S aj as ds) :
  ∃d h' S',P' g ds h=.ok d h'/\Rep h' S' v d/\Out M B (bM as) h S fr aj h' S' af:=by
 unfold eO at e;split at e
 case isFalse=>cases e
 rename_i nd;cases z:args fr as with
 |none=>rw[z]at e;cases e
 |some sl=>
 rw[z]at e;simp only at e;cases z2:P g sl with
 |none=>rw[z2]at e;cases e
 |some vo=>
 obtain⟨v',os⟩:=vo;rw[z2]at e;simp only at e;cases z3:back (bM as) os fr with
 |none=>rw[z3]at e;cases e
 |some ao=>
 rw[z3]at e;simp at e;obtain⟨rfl,rfl⟩:=e;obtain⟨hl,hg⟩:=args_get f z q
 let B0:Nat->Prop:=LB fr aj as
 have pP:∀m,B0 m->M m:=LB.m f;have F0:aU B0 B0 h S (sl.map some) (ds.map some):=yX f nd z q;obtain⟨d,h',S',c1,c2,c3,c4⟩:=HP g sl v' os z2 h S B0 ds F0;obtain⟨b1,b2,b3⟩:=wc z3 nd;have hL:=nQ f z q c4;have qV:∀m,S m->h'[m]?=h[m]?:=λm y=>c3.keep m (f.wS m y).1 (λz=>(f.wS m y).2.1 (pP m z));refine⟨d,h',S',c1,c2,⟨?_,?_,?_⟩⟩
 .refine⟨λm y=>?_,λm y=>Nat.lt_of_lt_of_le (f.wM m y) c3.len,λm y=>Nat.lt_of_lt_of_le (f.wB m y) c3.len,by rw[b1,f.len],λi o p y1 y2=>?_,λi j o o' m y1 y2 y3 y4 y5 y6=>?_⟩
  .rcases c3.new m y with y|⟨y1,y2⟩
   .exact⟨Nat.lt_of_lt_of_le (f.wS m y).1 c3.len,(f.wS m y).2⟩
   .exact⟨y2,λz=>by have:=f.wM m z;omega,λz=>by have:=f.wB m z;omega⟩
  .by_cases hi:i∈bM as
   .obtain⟨k,s,l,w1,w2,w3,w4⟩:=b3 i hi;rw[w4]at y1;cases y1;obtain⟨m,cs,x1,x2,x3⟩:=hL k i l w1 w2;rw[x1]at y2;cases y2;have old:=f.sl i _ _ w3 x1;cases s with
    |val u=>
     exfalso;have:∃s,lent fr i=some s:=mF z hi;obtain⟨s,hs⟩:=this;simp[lent,w3,Sl.lend]at hs
    |own u=>obtain⟨m',ds',e,y,_⟩:=old;cases e;exact⟨m,cs,rfl,y,x2,x3⟩
    |bor u=>obtain⟨m',ds',e,y,_⟩:=old;cases e;exact⟨m,cs,rfl,y,x2,x3⟩
    |ro u=>
     obtain⟨m',ds',e,y,y1,y2⟩:=old;cases e;refine⟨m,ds',rfl,y,?_,y2.mono qV c3.sub⟩;rw[c3.keep m (List.getElem?_eq_some_iff.mp y1).1 (λz=>y (pP m z))];exact y1
   .rw[b2 i hi]at y1;have old:=f.sl i o p y1 y2;rcases o with _|s
    .exact old
    .cases s with
     |val u=>obtain⟨d,e,q⟩:=old;exact⟨d,e,q.mono qV c3.sub⟩
     |own u=>
      obtain⟨m,ds',rfl,w1,w2,w3⟩:=old;refine⟨m,ds',rfl,w1,?_,w3.mono qV c3.sub⟩;rw[c3.keep m (f.wM m w1.1) (λ⟨j,o2,x1,x2,x3,x4⟩=>hi (f.inj i j _ o2 m y1 x2 rfl x3 y2 x4▸x1))];exact w2
     |bor u=>
      obtain⟨m,ds',rfl,w1,w2,w3⟩:=old;refine⟨m,ds',rfl,w1,?_,w3.mono qV c3.sub⟩;rw[c3.keep m (f.wM m w1.1) (λ⟨j,o2,x1,x2,x3,x4⟩=>hi (f.inj i j _ o2 m y1 x2 rfl x3 y2 x4▸x1))];exact w2
     |ro u=>
      obtain⟨m,ds',rfl,w1,w2,w3⟩:=old;refine⟨m,ds',rfl,w1,?_,w3.mono qV c3.sub⟩;rw[c3.keep m (List.getElem?_eq_some_iff.mp w2).1 (λz=>w1 (pP m z))];exact w2
  .have kind:∀(i:Nat) o,ao[i]?=some o->iO o=true->∃o0,fr[i]?=some o0/\iO o0=true:=λi o w1 w2=>by
    by_cases hi:i∈bM as
    .obtain⟨k,s,l,x1,x2,x3,x4⟩:=b3 i hi;rw[x4]at w1;cases w1;exact⟨_,x3,by rw[ED]at w2;exact w2⟩
    .rw[b2 i hi]at w1;exact⟨o,w1,w2⟩
   obtain⟨oi,k1,k2⟩:=kind i o y1 y3;obtain⟨oj,k3,k4⟩:=kind j o' y2 y4;exact f.inj i j oi oj m k1 k3 k2 k4 y5 y6
 .exact c3.weak λm z=>⟨pP m z,by obtain⟨i,o,a1,a2,a3,a4⟩:=z;exact⟨i,a1,a4⟩⟩
 .intro i;unfold locked;by_cases hi:i∈bM as
  .obtain⟨k,s,l,x1,x2,x3,x4⟩:=b3 i hi;rw[x3,x4];exact yW
  .rw[b2 i hi]
end
end Pv
namespace Pv
open Ev (D O Hh)
end Pv
namespace Pv
open Ev (D O Hh bF bu TY BI ME T E Es Eo It S Ss Fn big deep b2i rep bY dj bK aO cut cj dQ slots aW)
section
variable{M B M':Nat->Prop}{h h' h1 h2:Hh}{S S' S1 S2:Nat->Prop}{fr af ao:Fr}{aj:Ev.Fr}{c c1 c2:List Nat}{v:V}{d:D}
theorem lV{n m:Nat}{o:O}(q:n≠m):(h.set n o)[m]?=h[m]?:=List.getElem?_set_ne q
theorem aU.mM(f:aU M B h S fr aj){i n:Nat}{o:Option Sl}(e:fr[i]?=some o)(hM:iO o=true)(e':aj[i]?=some (some (.ref n))):M n:=by
 have s:=f.sl i o _ e e';rcases o with _|s'
 .cases hM
 .cases s' with
  |val v=>cases hM
  |ro l=>cases hM
  |own l=>obtain⟨m',ds',e,y,_⟩:=s;cases e;exact y.1
  |bor l=>obtain⟨m',ds',e,y,_⟩:=s;cases e;exact y.1
theorem aU.write(f:aU M B h S fr aj){i n:Nat}{s:Sl}{l':List V}{ds':List D}(e:fr[i]?=some (some s))(hM:iO (some s)=true)(e':aj[i]?=some (some (.ref n)))(q:aq h S l' ds') :
  aU M B (h.set n (.lst ds')) S (fr.set i (some (s.with l'))) aj:=by
 have mn:=f.mM e hM e';have kp:∀m,S m->(h.set n (.lst ds'))[m]?=h[m]?:=λm z=>lV λy=>(f.wS m z).2.1 (y▸mn);have il:=(List.getElem?_eq_some_iff.mp e).1;refine⟨λm y=>by simpa using f.wS m y,λm y=>by simpa using f.wM m y,λm y=>by simpa using f.wB m y,by simp[f.len],λj o p y1 y2=>?_,λj k o o' m y1 y2 y3 y4 y5 y6=>?_⟩
 .by_cases hj:i=j
  .subst hj;rw[List.getElem?_set_self il]at y1;cases y1;rw[e']at y2;cases y2;have old:=f.sl i _ _ e e';have hn:(h.set n (.lst ds'))[n]?=some (.lst ds'):=List.getElem?_set_self (f.wM n mn);cases s with
   |val v=>cases hM
   |ro l=>cases hM
   |own l=>obtain⟨m',_,e,y,_⟩:=old;cases e;exact⟨n,ds',rfl,y,hn,q.mono kp λ_ z=>z⟩
   |bor l=>obtain⟨m',_,e,y,_⟩:=old;cases e;exact⟨n,ds',rfl,y,hn,q.mono kp λ_ z=>z⟩
  .rw[List.getElem?_set_ne hj]at y1;have old:=f.sl j o p y1 y2;rcases o with _|s'
   .exact old
   .cases s' with
    |val u=>obtain⟨d,e,q⟩:=old;exact⟨d,e,q.mono kp λ_ z=>z⟩
    |own u=>
     obtain⟨m,es,rfl,w1,w2,w3⟩:=old;refine⟨m,es,rfl,w1,?_,w3.mono kp λ_ z=>z⟩;rw[lV λ(z:n=m)=>hj (f.inj i j _ _ n e y1 hM rfl e' (by rw[z];exact y2))];exact w2
    |bor u=>
     obtain⟨m,es,rfl,w1,w2,w3⟩:=old;refine⟨m,es,rfl,w1,?_,w3.mono kp λ_ z=>z⟩;rw[lV λ(z:n=m)=>hj (f.inj i j _ _ n e y1 hM rfl e' (by rw[z];exact y2))];exact w2
    |ro u=>
     obtain⟨m,es,rfl,w1,w2,w3⟩:=old;refine⟨m,es,rfl,w1,?_,w3.mono kp λ_ z=>z⟩;rw[lV λ(z:n=m)=>w1 (z▸mn)];exact w2
 .have kind:∀(j:Nat) o,(fr.set i (some (s.with l')))[j]?=some o->iO o=true->∃o0,fr[j]?=some o0/\iO o0=true:=λj o w1 w2=>by
   by_cases hj:i=j
   .subst hj;exact⟨_,e,hM⟩
   .rw[List.getElem?_set_ne hj]at w1;exact⟨o,w1,w2⟩
  obtain⟨oi,k1,k2⟩:=kind j o y1 y3;obtain⟨oj,k3,k4⟩:=kind k o' y2 y4;exact f.inj j k oi oj m k1 k3 k2 k4 y5 y6
theorem M4{m:ME}{l l':List V}{xs:List V}{n:Nat}{ds es:List D}(z:kj m l xs=some (v,l'))(e:h[n]?=some (.lst ds))(q:aq h S l ds)(p:gA h S xs es)(p':yP m=false->aq h S xs es)(hS:∀k,S k->k≠n) :
  ∃r ds',Ev.fG m (.ref n) es h=.ok r (h.set n (.lst ds'))/\Rep h S v r/\aq h S l' ds':=by
 unfold kj at z;split at z
 .have p':=p' rfl;split at z
  .rename_i k;cases z;simp only[aq]at p';obtain⟨d,_,rfl,p1,rfl⟩:=p';refine⟨_,_,?_,rfl,q.append (.cons p1 .nil)⟩
   delta Ev.fG;dsimp only;simp only[e]
   rw[if_pos (by rw[<-q.length];exact k)]
  .cases z
 .split at z
  .rename_i k;cases z;obtain⟨d,rfl,p1⟩:=p.one;simp only[bq]at p1;obtain⟨n2,cs,rfl,e2,p1⟩:=p1;refine⟨_,_,?_,rfl,q.append p1⟩
   delta Ev.fG;dsimp only;simp only[e,e2]
   rw[if_pos (by rw[<-q.length,<-p1.length];exact k)]
  .cases z
 .simp only[gA]at p;subst p;split at z
  .rename_i x y;cases z;obtain⟨d,k1,k2⟩:=q.get y;refine⟨d,_,?_,k2,q.dropLast⟩
   delta Ev.fG;dsimp only;simp only[e]
   rw[<-q.length,k1]
  .cases z
 .have p':=p' rfl;simp only[aq]at p';obtain⟨d1,_,rfl,p1,d2,_,rfl,p2,rfl⟩:=p';obtain⟨j,z1,z⟩:=Option.map_eq_some_iff.mp z;cases z;simp only[Rep]at p2;subst p2;refine⟨.aL,_,?_,rfl,q.set j p1⟩
  delta Ev.fG;dsimp only;simp only[e]
  rw[<-q.length,z1]
 .cases z
theorem aU.set(f:aU M B h S fr aj){i:Nat}(e:put fr i (.val v)=some af)(q:Rep h S v d):aU M B h S af (aj.set i (some d))/\(∀j,locked af j=locked fr j)/\∀j,locked fr j=true->(aj.set i (some d))[j]?=aj[j]?:=by
 have hx:af=fr.set i (some (.val v))/\locked fr i=false:=by
  unfold put at e;unfold locked;split at e
  .cases e
  .cases e
  .rename_i k1 k2;cases e;refine⟨rfl,?_⟩;cases z:fr[i]? with
   |none=>rfl
   |some o=>
    rcases o with _|s
    .rfl
    .cases s with
     |bor l=>exact absurd z (k1 l)
     |ro l=>exact absurd z (k2 l)
     |_=>rfl
 obtain⟨rfl,hk⟩:=hx;have lk:∀j,locked (fr.set i (some (.val v))) j=locked fr j:=λj=>by
  by_cases hj:i=j
  .subst hj;rw[hk];unfold locked;by_cases hl:i<fr.length
   .rw[List.getElem?_set_self hl];rfl
   .rw[List.getElem?_eq_none (by simpa using hl)]
  .unfold locked;rw[List.getElem?_set_ne hj]
 refine⟨⟨f.wS,f.wM,f.wB,by simp[f.len],λj o p y1 y2=>?_,λj k o o' m y1 y2 y3 y4 y5 y6=>?_⟩,lk,λj hj=>?_⟩
 .by_cases hj:i=j
  .subst hj;have hl:i<fr.length:=by have:=(List.getElem?_eq_some_iff.mp y1).1;simpa using this
   rw[List.getElem?_set_self hl]at y1;rw[List.getElem?_set_self (by rw[<-f.len];exact hl)]at y2;cases y1;cases y2;exact⟨d,rfl,q⟩
  .rw[List.getElem?_set_ne hj]at y1 y2;exact f.sl j o p y1 y2
 .have hn:∀(j:Nat) o,(fr.set i (some (.val v)))[j]?=some o->iO o=true->i≠j:=λj o w1 w2 w3=>by
   subst w3;have hl:i<fr.length:=by have:=(List.getElem?_eq_some_iff.mp w1).1;simpa using this
   rw[List.getElem?_set_self hl]at w1;cases w1;cases w2
  have n1:=hn j o y1 y3;have n2:=hn k o' y2 y4;rw[List.getElem?_set_ne n1]at y1 y5;rw[List.getElem?_set_ne n2]at y2 y6;exact f.inj j k o o' m y1 y2 y3 y4 y5 y6
 .have:i≠j:=λz=>by subst z;rw[hk]at hj;cases hj
  rw[List.getElem?_set_ne this]
theorem aU.cK:∀{is:List Nat}{vs:List V}{ds:List D}{fr af:Fr}{aj:Ev.Fr},aU M B h S fr aj->cK is vs fr=some af->aq h S vs ds->∃bf,Ev.cK is ds aj=some bf/\aU M B h S af bf/\(∀j,locked af j=locked fr j)/\∀j,locked fr j=true->bf[j]?=aj[j]?
 |[],[],ds,fr,af,aj,f,e,q=>by
  simp[Pv.cK]at e;simp only[aq]at q;subst e q;exact⟨aj,rfl,f,λ_=>rfl,λ_ _=>rfl⟩
 |[],_ :: _,_,_,_,_,_,e,_=>by simp[Pv.cK]at e
 |_ :: _,[],_,_,_,_,_,e,_=>by simp[Pv.cK]at e
 |i :: is,v :: vs,ds,fr,af,aj,f,e,q=>by
  simp only[Pv.cK,Option.bind_eq_some_iff]at e;obtain⟨ao,e1,e2⟩:=e;simp only[aq]at q;obtain⟨d,es,rfl,q1,q2⟩:=q;obtain⟨f2,l2,r2⟩:=f.set e1 q1;obtain⟨bf,a,f3,l3,r3⟩:=f2.cK e2 q2;exact⟨bf,a,f3,λj=>(l3 j).trans (l2 j),λj hj=>(r3 j (by rw[l2 j];exact hj)).trans (r2 j hj)⟩
theorem aU.bD(f:aU M B h S fr aj){t:T}(e:bD t v fr=some af)(q:Rep h S v d):∃bf,Ev.bD t d aj=some bf/\aU M B h S af bf/\(∀j,locked af j=locked fr j)/\∀j,locked fr j=true->bf[j]?=aj[j]?:=by
 cases t with
 |one i=>exact⟨_,rfl,f.set e q⟩
 |many l=>
  cases v<;>simp only[Pv.bD,reduceCtorEq]at e
  simp only[Rep]at q;obtain⟨ds,rfl,q⟩:=q;exact f.cK e q
theorem aU.undef(f:aU M B h S fr aj){t:T}(e:undef t fr=true):Ev.undef t aj=true:=by
 unfold Pv.undef at e;unfold Ev.undef;rw[List.all_eq_true]at e ⊢;intro i hi;have:=e i hi;cases z:fr[i]? with
 |none=>
  have:aj[i]?=none:=by
   rw[List.getElem?_eq_none_iff]at z ⊢;rw[<-f.len];exact z
  rw[this];rfl
 |some o=>
  obtain⟨p,e1,q⟩:=f.get z;rw[z]at this;rcases o with _|s
  .simp only[lS]at q;subst q;rw[e1];rfl
  .simp at this
theorem yY{i:Nat}{o:Option Sl}(e:(pO fr)[i]?=some o):∃o0,fr[i]?=some o0/\o=o0.map Sl.read:=by
 unfold pO at e;rw[List.getElem?_map]at e;cases z:fr[i]? with
 |none=>rw[z]at e;cases e
 |some o0=>rw[z]at e;cases e;exact⟨o0,rfl,rfl⟩
theorem aU.ro(f:aU M B h S fr aj):aU (λ_=>False) B h S (pO fr) aj:=by
 refine⟨λm y=>⟨(f.wS m y).1,id,(f.wS m y).2.2⟩,λm y=>y.elim,f.wB,by simp[pO,f.len],λi o p y1 y2=>?_,λi j o o' m y1 y2 y3 y4 y5 y6=>?_⟩
 .obtain⟨o0,z,rfl⟩:=yY y1;have q:=f.sl i o0 p z y2;rcases o0 with _|s
  .exact q
  .cases s with
   |val v=>exact q
   |own l=>obtain⟨m,ds,a,b,c,d⟩:=q;exact⟨m,ds,a,id,c,d⟩
   |bor l=>obtain⟨m,ds,a,b,c,d⟩:=q;exact⟨m,ds,a,id,c,d⟩
   |ro l=>obtain⟨m,ds,a,b,c,d⟩:=q;exact⟨m,ds,a,id,c,d⟩
 .obtain⟨o0,z,rfl⟩:=yY y1;rcases o0 with _|s
  .cases y3
  .cases s<;>cases y3
theorem ju:∀{ck:List (Nat×List D)},(∀q∈ck,aW h q.1=some q.2)->Ev.stays h ck=true
 |[],_=>rfl
 | (n,ds) :: r,q=>by
  simp only[Ev.stays,Bool.and_eq_true];refine⟨?_,ju λx hx=>q x (List.mem_cons_of_mem _ hx)⟩;rw[q (n,ds) (List.mem_cons_self ..)];exact Ev.zZ _
theorem ku{n:Nat}{ds:List D}(q:aW h n=some ds)(k:h'[n]?=h[n]?):aW h' n=some ds:=by
 unfold aW at q ⊢;rw[k];exact q
theorem lW{n:Nat}{ds:List D}(q:aW h n=some ds):n<h.length:=by
 unfold aW at q;cases z:h[n]? with
 |none=>rw[z]at q;cases q
 |some o=>exact(List.getElem?_eq_some_iff.mp z).1
noncomputable def EE(h:Hh)(S:Nat->Prop):Option V->Option D->Prop
 |none,o=>o=none
 |some v,o=>∃d,o=some d/\Rep h S v d
theorem yZ{f:V->Option (Option V)}{f':D->Hh->Ev.R (Option D)}{ck:List (Nat×List D)}{h0:Hh}{S0:Nat->Prop}(w0:∀m,S0 m->m<h0.length)(st:∀q∈ck,aW h0 q.1=some q.2)
  (turn:∀v o d h S,Al h0 S0 h S->f v=some o->Rep h S v d->∃o' h' S',f' d h=.ok o' h'/\EE h' S' o o'/\Al h S h' S') :
  ∀{vs:List V} {ds:List D} {rs:List V} {h:Hh} {S:Nat->Prop},Al h0 S0 h S->cH f vs=some rs->aq h S vs ds->∃rs' h' S',Ev.cH f' ck ds h=.ok rs' h'/\aq h' S' rs rs'/\Al h S h' S'
 |[],ds,rs,h,S,a,e,q=>by
  simp[cH]at e;simp only[aq]at q;subst e q;refine⟨[],h,S,?_,.nil,.refl⟩;simp only[Ev.cH];rw[if_pos (ju λx hx=>ku (st x hx) (a.keep _ (lW (st x hx))))]
 |v :: vs,ds,rs,h,S,a,e,q=>by
  simp only[cH,Option.bind_eq_some_iff]at e;obtain⟨o,e1,r,e2,e3⟩:=e;cases e3;simp only[aq]at q;obtain⟨d,es,rfl,q1,q2⟩:=q;have w:∀m,S m->m<h.length:=λm z=>by
   rcases a.new m z with z|z
   .exact Nat.lt_of_lt_of_le (w0 m z) a.len
   .exact z.2
  obtain⟨o',h1,S1,t1,t2,t3⟩:=turn v o d h S a e1 q1;obtain⟨rs',h2,S2,u1,u2,u3⟩:=yZ w0 st turn (a.trans t3) e2 (q2.mono (λm z=>t3.keep m (w m z)) t3.sub);have w1:∀m,S1 m->m<h1.length:=λm z=>by
   rcases t3.new m z with z|z
   .exact Nat.lt_of_lt_of_le (w m z) t3.len
   .exact z.2
  refine⟨o'.toList++rs',h2,S2,?_,?_,t3.trans u3⟩
  .simp only[Ev.cH];rw[if_pos (ju λx hx=>ku (st x hx) (a.keep _ (lW (st x hx)))),t1,Ev.ak,u1,Ev.ak]
  .cases o with
   |none=>simp only[EE]at t2;subst t2;simpa using u2
   |some v'=>
    simp only[EE]at t2;obtain⟨d',rfl,t2⟩:=t2;exact .cons (t2.mono (λm z=>u3.keep m (w1 m z)) u3.sub) u2
end
noncomputable def jU(k:Bool)(h:Hh)(S:Nat->Prop)(v:List V)(d:List D):Prop:=if k=true then gA h S v d else aq h S v d
inductive M5(P':Ev.aI)(e:E)(k:Bool)(v:V)(M B:Nat->Prop)(h:Hh)(S:Nat->Prop)(fr:Fr)(aj:Ev.Fr)(af:Fr):Prop
 |mk (d:D) (h':Hh) (S':Nat->Prop) (c0:Ev.ev P' e aj h=.ok d h') (c1:fY k h' S' v d) (c2:Out M B (bO e) h S fr aj h' S' af):M5 P' e k v M B h S fr aj af
inductive M6(P':Ev.aI)(e:E)(b:Bool)(M B:Nat->Prop)(h:Hh)(S:Nat->Prop)(fr:Fr)(aj:Ev.Fr)(af:Fr):Prop
 |mk (h':Hh) (S':Nat->Prop) (c0:Ev.aE P' e aj h=.ok b h') (c1:Out M B (bO e) h S fr aj h' S' af):M6 P' e b M B h S fr aj af
inductive M7(P':Ev.aI)(e:Es)(k:Bool)(v:List V)(M B:Nat->Prop)(h:Hh)(S:Nat->Prop)(fr:Fr)(aj:Ev.Fr)(af:Fr):Prop
 |mk (d:List D) (h':Hh) (S':Nat->Prop) (c0:Ev.bS P' e aj h=.ok d h') (c1:jU k h' S' v d) (c2:Out M B (gr e) h S fr aj h' S' af):M7 P' e k v M B h S fr aj af
inductive M8(P':Ev.aI)(e:Es)(v:List (Nat ⊕ V))(M B:Nat->Prop)(h:Hh)(S:Nat->Prop)(fr:Fr)(aj:Ev.Fr)(af:Fr):Prop
 |mk (d:List D) (h':Hh) (S':Nat->Prop) (c0:Ev.bS P' e aj h=.ok d h') (c1:uB h' S' aj v d) (c2:Out M B (gr e) h S fr aj h' S' af):M8 P' e v M B h S fr aj af
inductive M9(P':Ev.aI)(e:Eo)(v:Option Int)(M B:Nat->Prop)(h:Hh)(S:Nat->Prop)(fr:Fr)(aj:Ev.Fr)(af:Fr):Prop
 |mk (h':Hh) (S':Nat->Prop) (c0:Ev.gw P' e aj h=.ok v h') (c1:Out M B (lI e) h S fr aj h' S' af):M9 P' e v M B h S fr aj af
inductive Na(P':Ev.aI)(e:Eo)(v:Bool)(M B:Nat->Prop)(h:Hh)(S:Nat->Prop)(fr:Fr)(aj:Ev.Fr)(af:Fr):Prop
 |mk (h':Hh) (S':Nat->Prop) (c0:Ev.iY P' e aj h=.ok v h') (c1:Out M B (lI e) h S fr aj h' S' af):Na P' e v M B h S fr aj af
inductive Nb(P':Ev.aI)(e:It)(k:Bool)(v:List V)(M B:Nat->Prop)(h:Hh)(S:Nat->Prop)(fr:Fr)(aj:Ev.Fr)(af:Fr):Prop
 |mk (s:Ev.Src) (h':Hh) (S':Nat->Prop) (c0:Ev.b8 P' e aj h=.ok s h') (c1:aq h' S' v s.1) (c2:∀q∈s.2,aW h' q.1=some q.2/\(k=false->¬ M q.1)) (c3:Out M B (Ez e) h S fr aj h' S' af):Nb P' e k v M B h S fr aj af
section
variable(P:aI)(P':Ev.aI)
noncomputable def bz(e:E):Prop:=∀{k:Bool} {fr:Fr} {v:V} {af:Fr} {M B:Nat->Prop} {h:Hh} {S:Nat->Prop} {aj:Ev.Fr},ev P k e fr=.ok v af->aU M B h S fr aj->M5 P' e k v M B h S fr aj af
noncomputable def iA(e:E):Prop:=∀{fr:Fr} {b:Bool} {af:Fr} {M B:Nat->Prop} {h:Hh} {S:Nat->Prop} {aj:Ev.Fr},aE P e fr=.ok b af->aU M B h S fr aj->M6 P' e b M B h S fr aj af
noncomputable def jV(e:Es):Prop:=∀{k:Bool} {fr:Fr} {v:List V} {af:Fr} {M B:Nat->Prop} {h:Hh} {S:Nat->Prop} {aj:Ev.Fr},bS P k e fr=.ok v af->aU M B h S fr aj->M7 P' e k v M B h S fr aj af
noncomputable def qW(e:Es):Prop:=∀{fr:Fr} {v:List (Nat ⊕ V)} {af:Fr} {M B:Nat->Prop} {h:Hh} {S:Nat->Prop} {aj:Ev.Fr},eF P e fr=.ok v af->aU M B h S fr aj->M8 P' e v M B h S fr aj af
noncomputable def qX(e:Eo):Prop:=∀{fr:Fr} {v:Option Int} {af:Fr} {M B:Nat->Prop} {h:Hh} {S:Nat->Prop} {aj:Ev.Fr},gw P e fr=.ok v af->aU M B h S fr aj->M9 P' e v M B h S fr aj af
noncomputable def uR(e:Eo):Prop:=∀{fr:Fr} {v:Bool} {af:Fr} {M B:Nat->Prop} {h:Hh} {S:Nat->Prop} {aj:Ev.Fr},iY P e fr=.ok v af->aU M B h S fr aj->Na P' e v M B h S fr aj af
noncomputable def kQ(e:It):Prop:=∀{k:Bool} {fr:Fr} {v:List V} {af:Fr} {M B:Nat->Prop} {h:Hh} {S:Nat->Prop} {aj:Ev.Fr},b8 P k e fr=.ok v af->aU M B h S fr aj->Nb P' e k v M B h S fr aj af
end
section
variable{P:aI}{P':Ev.aI}{a b e tt:E}{es:Es}{lo hi:Eo}{it:It}
theorem Nc{d:D}:bz P P' (.c d):=λz f=>by
 simp only[ev]at z;replace z:=aM z;obtain⟨z,y0⟩:=z;subst y0;exact⟨d,_,_,by simp only[Ev.ev],.of (nN z),.refl f⟩
theorem Nd{i:Nat}:bz P P' (.v i):=λz f=>by
 simp only[ev]at z;replace z:=aM z;obtain⟨z,y0⟩:=z;subst y0;obtain⟨d,e1,q⟩:=Jg z f;exact⟨d,_,_,by simp only[Ev.ev,e1,Ev.dg],q,.refl f⟩
theorem jU.n{h:Hh}{S:Nat->Prop}{v:List V}{d:List D}(q:jU false h S v d):aq h S v d:=by simpa[jU]using q
theorem aq.tl{h:Hh}{S:Nat->Prop}:∀{v:List V}{d:List D},aq h S v d->gA h S v d
 |[],_,q=>q
 |_ :: _,_,⟨d,es,a,b,q⟩=>⟨d,es,a,b.top,q.tl⟩
theorem jU.t{k:Bool}{h:Hh}{S:Nat->Prop}{v:List V}{d:List D}(q:jU k h S v d):gA h S v d:=by
 unfold jU at q;split at q
 .exact q
 .exact q.tl
theorem Cq(is:jV P P' es):bz P P' (.tup es):=λz f=>by
 simp only[ev]at z;obtain⟨ds,ao,z1,z2⟩:=ah z;replace z2:=aM z2;obtain⟨z2,y0⟩:=z2;subst y0;obtain⟨ds',h',S',e1,q,o⟩:=is z1 f;unfold ki at z2;split at z2
 .rename_i hk;cases z2;refine⟨.tup ds',h',S',?_,.of ⟨ds',rfl,q.n⟩,o⟩;simp only[Ev.ev,e1,Ev.ak];rw[if_pos (by rw[<-q.n.length];exact hk)]
 .cases z2
theorem Cr(is:jV P P' es):bz P P' (.lst es):=λz f=>by
 simp only[ev]at z;obtain⟨ds,ao,z1,z2⟩:=ah z;replace z2:=aM z2;obtain⟨z2,y0⟩:=z2;subst y0;obtain⟨ds',h',S',e1,q,o⟩:=is z1 f;obtain⟨r,h2,S2,a1,a2,a3⟩:=kq o.f.w z2 q.n;exact⟨r,h2,S2,by simp only[Ev.ev,e1,Ev.ak,a1],.of a2,o.al a3⟩
theorem qY{a:E}{aj:Ev.Fr}{h h1:Hh}{d:D}(e:Ev.ev P' a aj h=.ok d h1):∀i,a=.v i->aj[i]?.join=some d:=λi hi=>by
 subst hi;simp only[Ev.ev]at e;exact(Ev.aM e).1
theorem two(ia:bz P P' a)(ib:bz P P' b){α:Type}{X:V->V->Fr->R α}{u:α}{fr bP:Fr}{M B:Nat->Prop}{h:Hh}{S:Nat->Prop}{aj:Ev.Fr}
  (z:((ev P (kf a (bO b)) a fr).bind λx af=>(ev P true b af).bind λy ao=>X x y ao)=.ok u bP) (f:aU M B h S fr aj) :
  ∃x y d e h2 S2 ao,(∀{β:Type} (g:D->D->Hh->Ev.R β),((Ev.ev P' a aj h).bind λx h1=>(Ev.ev P' b aj h1).bind λy h2=>g x y h2)=g d e h2)/\X x y ao=.ok u bP/\bq h2 S2 x d/\bq h2 S2 y e/\Out M B (bO a++bO b) h S fr aj h2 S2 ao:=by
 replace z:=ah z;obtain⟨x,af,z1,z⟩:=z;replace z:=ah z;obtain⟨y,ao,z2,z⟩:=z;obtain⟨d,h1,S1,e1,q1,o1⟩:=ia z1 f;obtain⟨e,h2,S2,e2,q2,o2⟩:=ib z2 o1.f;exact⟨x,y,d,e,h2,S2,ao,λg=>by rw[e1,Ev.ak,e2,Ev.ak],z,(q1.tr o1.f o2.tr id (qY e1)).t,q2.t,o1.trans o2⟩
theorem Cs{o:bF}(ia:bz P P' a)(ib:bz P P' b):bz P P' (.bin o a b):=λz f=>by
 simp only[ev]at z;replace z:=two ia ib z f;obtain⟨x,y,d,e,h2,S2,ao,k,z,q1,q2,ou⟩:=z;replace z:=aM z;obtain⟨z,y0⟩:=z;subst y0;obtain⟨r,h3,S3,a1,a2,a3⟩:=MS ou.f.w z q1 q2;exact⟨r,h3,S3,by simp only[Ev.ev];rw[k];exact a1,.of a2,ou.al a3⟩
theorem Ct{o:bu}(ia:bz P P' a)(ib:bz P P' b):bz P P' (.cmp o a b):=λz f=>by
 simp only[ev]at z;replace z:=two ia ib z f;obtain⟨x,y,d,e,h2,S2,ao,k,z,q1,q2,ou⟩:=z;replace z:=aM z;obtain⟨z,y0⟩:=z;subst y0;simp only[Option.map_eq_some_iff]at z;obtain⟨b,z,rfl⟩:=z;exact⟨.bl b,h2,S2,by simp only[Ev.ev];rw[k,MT z q1.u q2.u];rfl,.of rfl,ou⟩
theorem G4(ia:bz P P' a)(ib:bz P P' b):bz P P' (.ix a b):=λz f=>by
 simp only[ev]at z;replace z:=two ia ib z f;obtain⟨x,y,d,e,h2,S2,ao,k,z,q1,q2,ou⟩:=z;replace z:=aM z;obtain⟨z,y0⟩:=z;subst y0;obtain⟨r,a1,a2⟩:=MU z q1 q2;exact⟨r,h2,S2,by simp only[Ev.ev];rw[k,a1];rfl,.of a2,ou⟩
theorem Qe(ia:bz P P' a):bz P P' (.nt a):=λz f=>by
 simp only[ev]at z;replace z:=ah z;obtain⟨x,af,z1,z⟩:=z;obtain⟨d,h1,S1,e1,q1,o1⟩:=ia z1 f;cases x<;>simp only[reduceCtorEq]at z
 cases z;have q:=q1.t;simp only[bq,Rep]at q;subst q;exact⟨_,h1,S1,by simp only[Ev.ev,e1,Ev.ak],.of rfl,o1⟩
theorem Cu(ia:bz P P' a):bz P P' (.neg a):=λz f=>by
 simp only[ev]at z;replace z:=ah z;obtain⟨x,af,z1,z⟩:=z;obtain⟨d,h1,S1,e1,q1,o1⟩:=ia z1 f;cases x<;>simp only[reduceCtorEq]at z
 cases z;have q:=q1.t;simp only[bq,Rep]at q;subst q;exact⟨_,h1,S1,by simp only[Ev.ev,e1,Ev.ak],.of rfl,o1⟩
theorem Qf(ia:bz P P' a)(ib:bz P P' b):bz P P' (.an a b):=λz f=>by
 simp only[ev]at z;replace z:=ah z;obtain⟨x,af,z1,z⟩:=z;obtain⟨d,h1,S1,e1,q1,o1⟩:=ia z1 f;cases x<;>try (cases z;done)
 rename_i k;have q:=q1.t;simp only[bq,Rep]at q;subst q;cases k with
 |true=>
  try simp only at z
  obtain⟨d,h2,S2,e2,q2,o2⟩:=ib z o1.f;exact⟨d,h2,S2,by simp only[Ev.ev,e1,Ev.ak,e2],q2,o1.trans o2⟩
 |false=>
  try simp only at z
  cases z;exact⟨_,h1,S1,by simp only[Ev.ev,e1,Ev.ak],.of rfl,o1.weak (by simp only[bO];intro i hi;simp[hi])⟩
theorem Nf(ia:bz P P' a)(ib:bz P P' b):bz P P' (.orr a b):=λz f=>by
 simp only[ev]at z;replace z:=ah z;obtain⟨x,af,z1,z⟩:=z;obtain⟨d,h1,S1,e1,q1,o1⟩:=ia z1 f;cases x<;>try (cases z;done)
 rename_i k;have q:=q1.t;simp only[bq,Rep]at q;subst q;cases k with
 |false=>
  try simp only at z
  obtain⟨d,h2,S2,e2,q2,o2⟩:=ib z o1.f;exact⟨d,h2,S2,by simp only[Ev.ev,e1,Ev.ak,e2],q2,o1.trans o2⟩
 |true=>
  try simp only at z
  cases z;exact⟨_,h1,S1,by simp only[Ev.ev,e1,Ev.ak],.of rfl,o1.weak (by simp only[bO];intro i hi;simp[hi])⟩
theorem Cv(it:iA P P' tt)(ia:bz P P' a)(ib:bz P P' b):bz P P' (.iL tt a b):=λz f=>by
 simp only[ev]at z;replace z:=ah z;obtain⟨k,af,z1,z⟩:=z;obtain⟨h1,S1,e1,o1⟩:=it z1 f;cases k with
 |true=>
  simp only[if_true]at z;obtain⟨d,h2,S2,e2,q2,o2⟩:=ia z o1.f;exact⟨d,h2,S2,by simp only[Ev.ev,e1,Ev.ak,if_true,e2],q2,(o1.trans o2).weak (by simp only[bO];intro i hi;simp at hi ⊢;rcases hi with hi|hi<;>simp[hi])⟩
 |false=>
  simp only[Bool.false_eq_true,if_false]at z;obtain⟨d,h2,S2,e2,q2,o2⟩:=ib z o1.f;exact⟨d,h2,S2,by simp only[Ev.ev,e1,Ev.ak];rw[if_neg (by decide)];exact e2,q2,(o1.trans o2).weak (by simp only[bO];intro i hi;simp at hi ⊢;rcases hi with hi|hi<;>simp[hi])⟩
theorem G5(ia:bz P P' a)(il:qX P P' lo)(ih:qX P P' hi):bz P P' (.sl a lo hi):=λz f=>by
 simp only[ev]at z;replace z:=ah z;obtain⟨x,af,z1,z⟩:=z;replace z:=ah z;obtain⟨l,ao,z2,z⟩:=z;replace z:=ah z;obtain⟨u,bE,z3,z⟩:=z;replace z:=aM z;obtain⟨z,y0⟩:=z;subst y0;obtain⟨d,h1,S1,e1,q1,o1⟩:=ia z1 f;obtain⟨h2,S2,e2,o2⟩:=il z2 o1.f;obtain⟨h3,S3,e3,o3⟩:=ih z3 o2.f;have q:=(q1.tr o1.f (o2.trans o3).tr id (qY e1)).t;obtain⟨r,h4,S4,a1,a2,a3⟩:=MV o3.f.w z q;exact⟨r,h4,S4,by simp only[Ev.ev,e1,Ev.ak,e2,e3,a1],.of a2,(o1.trans (o2.trans o3)).al a3⟩
theorem nR:∀{es:Es}{fr af:Fr}{as:List (Nat ⊕ V)},eF P es fr=.ok as af->∀i∈bM as,i∈j8 es
 |.nil,_,_,_,z=>by simp only[eF]at z;cases z;simp[bM]
 |.cons e es,fr,af,as,z=>by
  simp only[eF]at z;cases y:gz fr e with
  |some i=>
   rw[y]at z;simp only at z;replace z:=ah z;obtain⟨xs,bE,z2,z⟩:=z;cases z;have hy:e=.v i:=by
    cases e<;>simp only[gz,reduceCtorEq]at y
    split at y
    .cases y;rfl
    .cases y
   subst hy;intro j hj;simp only[bM,List.mem_cons]at hj;simp only[j8,List.mem_cons];exact hj.imp id λhj=>nR z2 j hj
  |none=>
   rw[y]at z;simp only at z;replace z:=ah z;obtain⟨x,ao,z1,z⟩:=z;replace z:=ah z;obtain⟨xs,bE,z2,z⟩:=z;cases z;intro j hj;simp only[bM]at hj;have:=nR z2 j hj;cases e<;>simp only[j8]<;>first|exact this|exact List.mem_cons_of_mem _ this
theorem G6(HP:oW P P'){g:Nat}(is:qW P P' es):bz P P' (.cl g es):=λz f=>by
 simp only[ev]at z;replace z:=ah z;obtain⟨as,af,z1,z⟩:=z;obtain⟨ds,h1,S1,e1,q1,o1⟩:=is z1 f;obtain⟨d,h2,S2,e2,q2,o2⟩:=qp HP z o1.f q1;exact⟨d,h2,S2,by simp only[Ev.ev,e1,Ev.ak,e2],.of q2,(o1.trans o2).weak (by
  simp only[bO];intro i hi;rcases List.mem_append.mp hi with hi|hi
  .exact List.mem_append.mpr (.inl hi)
  .exact List.mem_append.mpr (.inr (nR z1 i hi)))⟩
theorem G7{g:BI}(is:jV P P' es):bz P P' (.bi g es):=λz f=>by
 simp only[ev]at z;replace z:=ah z;obtain⟨as,af,z1,z⟩:=z;replace z:=aM z;obtain⟨z,y0⟩:=z;subst y0;obtain⟨ds,h1,S1,e1,q1,o1⟩:=is z1 f;obtain⟨r,h4,S4,a1,a2,a3⟩:=MX o1.f.w z q1.t;exact⟨r,h4,S4,by simp only[Ev.ev,e1,Ev.ak,a1],.of a2,o1.al a3⟩
theorem Cw{ts:List TY}(ia:bz P P' a):bz P P' (.fK a ts):=λz f=>by
 simp only[ev]at z;replace z:=ah z;obtain⟨x,af,z1,z⟩:=z;cases z;obtain⟨d,h1,S1,e1,q1,o1⟩:=ia z1 f;have:Ev.dm h1 d=dm x:=funext λt=>Je q1.t t;refine⟨.bl (ts.any (Ev.dm h1 d)),h1,S1,by simp only[Ev.ev,e1,Ev.ak],.of ?_,o1⟩;rw[this];rfl
theorem y9{kvs:List (D×D)}(ia:bz P P' a):bz P P' (.jN kvs a):=λz f=>by
 simp only[ev]at z;replace z:=ah z;obtain⟨x,af,z1,z⟩:=z;replace z:=aM z;obtain⟨z,y0⟩:=z;subst y0;obtain⟨d,h1,S1,e1,q1,o1⟩:=ia z1 f;obtain⟨r,a1,a2⟩:=EB (S:=S1) q1.t.u z;exact⟨r,h1,S1,by simp only[Ev.ev,e1,Ev.ak,a1,Ev.dg],.of a2,o1⟩
theorem Cy(ia:bz P P' a):bz P P' (.jm a):=λz f=>by
 simp only[ev]at z;replace z:=ah z;obtain⟨x,af,z1,z⟩:=z;replace z:=aM z;obtain⟨z,y0⟩:=z;subst y0;obtain⟨d,h1,S1,e1,q1,o1⟩:=ia z1 f;obtain⟨r,a1,a2⟩:=MW z q1.t;exact⟨r,h1,S1,by simp only[Ev.ev,e1,Ev.ak,a1],.of a2,o1⟩
theorem G8{m:ME}{o:E}(io:bz P P' o)(is:jV P P' es):bz P P' (.me m o es):=λ{k fr v af M B h S aj} z f=>by
 simp only[ev]at z;by_cases hm:jd m=true
 .rw[if_pos hm]at z;cases y:gz fr o with
  |none=>rw[y]at z;cases z
  |some i=>
  rw[y]at z;try simp only at z
  replace z:=ah z;obtain⟨as,ao,z1,z⟩:=z;have hy:o=.v i/\∃s,lent fr i=some s:=by
   cases o<;>simp only[gz,reduceCtorEq]at y
   rename_i j;split at y
   .rename_i hs;cases y;exact⟨rfl,Option.isSome_iff_exists.mp hs⟩
   .cases y
  obtain⟨rfl,s,hs⟩:=hy;obtain⟨n,cs,_,_,_,w2,w3,_,_⟩:=iP hs f;obtain⟨ds,h1,S1,e1,q1,o1⟩:=is z1 f;have hr:Ev.qJ m (.ref n) h=true:=by cases m<;>simp[jd]at hm<;>simp[Ev.qJ,iG w3]
  have hap:yP m=false->aq h1 S1 as ds:=λhh=>by rw[hh]at q1;exact q1.n
  have fin:∀s l l',ao[i]?=some (some s)->iO (some s)=true->(∃m' cs',aj[i]?=some (some (.ref m'))/\h1[m']?=some (.lst cs')/\aq h1 S1 l cs')->kj m l as=some (v,l')->af=ao.set i (some (s.with l'))->
    M5 P' (.me m (.v i) es) k v M B h S fr aj af:=by
   intro s l l' k1 k2 ⟨m',cs',k3,k4,k5⟩ k6 k7;rw[w2]at k3;cases k3;have mn:=o1.f.mM k1 k2 w2;obtain⟨r,ds',a1,a2,a3⟩:=M4 k6 k4 k5 q1.t hap λk z y=>(o1.f.wS k z).2.1 (y▸mn);have fw:=o1.f.write (l':=l') k1 k2 w2 a3;subst k7;refine⟨r,_,S1,?_,.of (a2.mono (λm z=>lV λy=>(o1.f.wS m z).2.1 (y▸mn)) λ_ z=>z),fw,?_,λj=>?_⟩
   .simp only[Ev.ev,w2,Option.join,Ev.dg,Ev.ak,hr,if_true,e1];simp only[Option.bind,id,Ev.dg,Ev.ak,hr,if_true,e1];exact a1
   .refine⟨by simpa using o1.tr.len,λm y1 y2=>?_,o1.tr.sub,λm y=>by simpa using o1.tr.new m y⟩;have y3:¬ Xs M aj (gr es) m:=λz=>y2 (Xs.mono (by simp only[bO];intro i hi;simp[hi]) z);have y4:m≠n:=λz=>y2 ⟨z▸mn,i,by simp[bO,Sq,hm],by rw[z];exact w2⟩;rw[lV (λ(z:n=m)=>y4 z.symm)];exact o1.tr.keep m y1 y3
   .rw[<-o1.lk j];unfold locked;by_cases hj:i=j
    .subst hj;rw[List.getElem?_set_self (List.getElem?_eq_some_iff.mp k1).1,k1];exact yW
    .rw[List.getElem?_set_ne hj]
  split at z
  .rename_i l k1;have old:=o1.f.get k1;obtain⟨p,k2,m',cs',rfl,_,k4,k5⟩:=old;split at z
   .rename_i v' l' k6;cases z;exact fin _ l l' k1 rfl ⟨m',cs',k2,k4,k5⟩ k6 rfl
   .cases z
  .rename_i l k1;have old:=o1.f.get k1;obtain⟨p,k2,m',cs',rfl,_,k4,k5⟩:=old;split at z
   .rename_i v' l' k6;cases z;exact fin _ l l' k1 rfl ⟨m',cs',k2,k4,k5⟩ k6 rfl
   .cases z
  .cases z
 .rw[if_neg hm]at z;replace z:=ah z;obtain⟨x,ao,z1,z⟩:=z;replace z:=ah z;obtain⟨as,bE,z2,z⟩:=z;replace z:=aM z;obtain⟨z,y0⟩:=z;subst y0;obtain⟨d,h1,S1,e1,q1,o1⟩:=io z1 f;obtain⟨ds,h2,S2,e2,q2,o2⟩:=is z2 o1.f;have hm':jd m=false:=by simpa using hm
  have za:=(q1.tr o1.f o2.tr id (qY e1)).t;obtain⟨a1,r,a2,a3⟩:=MY z hm' za q2.t;have hr:Ev.qJ m d h1=true:=by
   unfold fG at z;split at z
   .have:=q1.t;simp only[bq,Rep]at this;subst this;rfl
   .cases z
  exact⟨r,h2,S2,by simp only[Ev.ev,e1,Ev.ak,hr,if_true,e2,a2],.of a3,(o1.trans o2).weak (by simp only[bO];intro i hi;simp at hi ⊢;rcases hi with hi|hi<;>simp[hi])⟩
theorem we{elt:E}{t:T}{cond:Eo}(ii:kQ P P' it)(ic:uR P P' cond)(ie:bz P P' elt):bz P P' (.comp elt t it cond):=λz f=>by
 simp only[ev]at z;replace z:=ah z;obtain⟨vs,ao,z1,z⟩:=z;split at z
 case isFalse=>cases z
 rename_i hu;replace z:=aM z;obtain⟨z,y0⟩:=z;subst y0;simp only[Option.bind_eq_some_iff]at z;obtain⟨rs,z2,z3⟩:=z;obtain⟨s,h1,S1,e1,q1,q2,o1⟩:=ii z1 f;have WZ:=o1.f.ro;obtain⟨rs',h2,S2,c1,c2,c3⟩:=yZ (f':=λd h2=>match Ev.bD t d _ with
    |none=>.bad
    |some ao=>(Ev.iY P' cond ao h2).bind λk h3=>if k then (Ev.ev P' elt ao h3).bind λx h4=>.ok (some x) h4 else .ok none h3) (ck:=s.2) o1.f.w (λq hq=>(q2 q hq).1) (λv o d h S al y q=>by
  split at y
  .cases y
  .rename_i bE y1;obtain⟨iH,b1,b2,_,_⟩:=(WZ.al al).bD y1 q;rw[b1];split at y
   .rename_i c jR y2;obtain⟨h3,S3,c1,oc⟩:=ic y2 b2;have Ng:Al h S h3 S3:=oc.tr.al λm z=>z.1;split at y
    .rename_i hc;subst hc;split at y
     .rename_i x tT y3;cases y;obtain⟨d',h4,S4,d1,d2,od⟩:=ie y3 (b2.al Ng);refine⟨some d',h4,S4,?_,⟨d',rfl,d2.n⟩,Ng.trans (od.tr.al λm z=>z.1)⟩;simp only[c1,Ev.ak,if_true,d1]
     .cases y
    .rename_i hc;cases y;refine⟨none,h3,S3,?_,rfl,Ng⟩;simp only[c1,Ev.ak];rw[if_neg hc]
   .cases y) Al.refl z2 q1
 obtain⟨r,h4,S4,a1,a2,a3⟩:=kq (o1.f.al c3).w z3 c2;refine⟨r,h4,S4,?_,.of a2,(o1.al c3).al a3⟩;simp only[Ev.ev,e1,Ev.ak];rw[if_pos (o1.f.undef hu)];refine Eq.trans (congrArg (λq:Ev.R (List D)=>q.bind λds h2=>Ev.alloc ds h2) c1) ?_;simp only[Ev.ak,a1]
theorem Cz(ii:kQ P P' it):bz P P' (.eH it):=λz f=>by
 simp only[ev]at z;replace z:=ah z;obtain⟨vs,ao,z1,z⟩:=z;replace z:=aM z;obtain⟨z,y0⟩:=z;subst y0;obtain⟨s,h1,S1,e1,q1,q2,o1⟩:=ii z1 f;obtain⟨r,h4,S4,a1,a2,a3⟩:=kq o1.f.w z q1;exact⟨r,h4,S4,by simp only[Ev.ev,e1,Ev.ak,a1],.of a2,o1.al a3⟩
theorem Nh:jV P P' .nil:=λ{k fr v af M B h S aj} z f=>by
 simp only[bS]at z;cases z;refine⟨[],_,_,by simp only[Ev.bS],?_,.refl f⟩;unfold jU;split<;>rfl
theorem Jh(ie:bz P P' e)(is:jV P P' es):jV P P' (.cons e es):=λ{k fr v af M B h S aj} z f=>by
 simp only[bS]at z;replace z:=ah z;obtain⟨x,ao,z1,z⟩:=z;replace z:=ah z;obtain⟨xs,bE,z2,z⟩:=z;cases z;obtain⟨d,h1,S1,e1,q1,o1⟩:=ie z1 f;obtain⟨ds,h2,S2,e2,q2,o2⟩:=is z2 o1.f;have za:=q1.tr (a:=e) o1.f o2.tr (by intro z;simp at z;exact z.2) (qY e1);refine⟨d :: ds,h2,S2,by simp only[Ev.bS,e1,Ev.ak,e2],?_,o1.trans o2⟩;unfold jU at q2 ⊢;cases k with
 |true=>simp only[if_true]at q2 ⊢;exact⟨d,ds,rfl,za.t,q2⟩
 |false=>
  simp only[Bool.false_eq_true,if_false]at q2 ⊢;exact .cons (by simpa[fY]using za) q2
theorem Ji:qW P P' .nil:=λz f=>by
 simp only[eF]at z;cases z;exact⟨[],_,_,by simp only[Ev.bS],rfl,.refl f⟩
theorem EF(ie:bz P P' e)(is:qW P P' es):qW P P' (.cons e es):=λ{fr v af M B h S aj} z f=>by
 simp only[eF]at z;cases y:gz fr e with
 |some i=>
  rw[y]at z;try simp only at z
  replace z:=ah z;obtain⟨xs,bE,z2,z⟩:=z;cases z;have hy:e=.v i/\∃s,lent fr i=some s:=by
   cases e<;>simp only[gz,reduceCtorEq]at y
   rename_i j;split at y
   .rename_i hs;cases y;exact⟨rfl,Option.isSome_iff_exists.mp hs⟩
   .cases y
  obtain⟨rfl,s,hs⟩:=hy;obtain⟨n,cs,_,_,_,w2,w3,_,_⟩:=iP hs f;obtain⟨ds,h2,S2,e2,q2,o2⟩:=is z2 f;refine⟨.ref n :: ds,h2,S2,?_,⟨_,_,rfl,w2,q2⟩,o2.weak (by simp only[gr,bO];intro i hi;simpa using hi)⟩;simp only[Ev.bS,Ev.ev,w2,Option.join,Option.bind,id,Ev.dg,Ev.ak,e2]
 |none=>
  rw[y]at z;try simp only at z
  replace z:=ah z;obtain⟨x,ao,z1,z⟩:=z;replace z:=ah z;obtain⟨xs,bE,z2,z⟩:=z;cases z;obtain⟨d,h1,S1,e1,q1,o1⟩:=ie z1 f;obtain⟨ds,h2,S2,e2,q2,o2⟩:=is z2 o1.f;exact⟨d :: ds,h2,S2,by simp only[Ev.bS,e1,Ev.ak,e2],⟨_,_,rfl,q1.n.tr o1.f o2.tr,q2⟩,o1.trans o2⟩
theorem Qg:qX P P' .no:=λz f=>by
 simp only[gw]at z;cases z;exact⟨_,_,by simp only[Ev.gw],.refl f⟩
theorem Ni(ie:bz P P' e):qX P P' (.yes e):=λz f=>by
 simp only[gw]at z;replace z:=ah z;obtain⟨x,ao,z1,z⟩:=z;replace z:=aM z;obtain⟨z,y0⟩:=z;subst y0;obtain⟨d,h1,S1,e1,q1,o1⟩:=ie z1 f;cases x<;>simp[intOf]at z
 subst z;have q:=q1.t;simp only[bq,Rep]at q;subst q;exact⟨h1,S1,by simp only[Ev.gw,e1,Ev.ak];rfl,o1⟩
theorem Nj:uR P P' .no:=λz f=>by
 simp only[iY]at z;cases z;exact⟨_,_,by simp only[Ev.iY],.refl f⟩
theorem Jj(ie:iA P P' e):uR P P' (.yes e):=λz f=>by
 simp only[iY]at z;obtain⟨h1,S1,e1,o1⟩:=ie z f;exact⟨h1,S1,by simp only[Ev.iY,e1],o1⟩
theorem Uw(ia:iA P P' a)(ib:iA P P' b):iA P P' (.an a b):=λz f=>by
 simp only[aE]at z;replace z:=ah z;obtain⟨k,af,z1,z⟩:=z;obtain⟨h1,S1,e1,o1⟩:=ia z1 f;cases k with
 |true=>
  simp only[if_true]at z;obtain⟨h2,S2,e2,o2⟩:=ib z o1.f;exact⟨h2,S2,by simp only[Ev.aE,e1,Ev.ak,if_true,e2],o1.trans o2⟩
 |false=>
  simp only[Bool.false_eq_true,if_false]at z;cases z;exact⟨h1,S1,by simp only[Ev.aE,e1,Ev.ak];rfl,o1.weak (by simp only[bO];intro i hi;simp[hi])⟩
theorem Qh(ia:iA P P' a)(ib:iA P P' b):iA P P' (.orr a b):=λz f=>by
 simp only[aE]at z;replace z:=ah z;obtain⟨k,af,z1,z⟩:=z;obtain⟨h1,S1,e1,o1⟩:=ia z1 f;cases k with
 |false=>
  simp only[Bool.false_eq_true,if_false]at z;obtain⟨h2,S2,e2,o2⟩:=ib z o1.f;exact⟨h2,S2,by simp only[Ev.aE,e1,Ev.ak];rw[if_neg (by decide)];exact e2,o1.trans o2⟩
 |true=>
  simp only[if_true]at z;cases z;exact⟨h1,S1,by simp only[Ev.aE,e1,Ev.ak];rfl,o1.weak (by simp only[bO];intro i hi;simp[hi])⟩
theorem Ux(ia:iA P P' a):iA P P' (.nt a):=λz f=>by
 simp only[aE]at z;replace z:=ah z;obtain⟨k,af,z1,z⟩:=z;obtain⟨h1,S1,e1,o1⟩:=ia z1 f;cases z;exact⟨h1,S1,by simp only[Ev.aE,e1,Ev.ak],o1⟩
theorem eS(ie:bz P P' e)(h1:∀fr,aE P e fr=(ev P true e fr).bind λx af=>.ok (truthy x) af)(h2:∀fr h,Ev.aE P' e fr h=(Ev.ev P' e fr h).bind λx h1=>Ev.R.of (Ev.truthy h1 x) h1):iA P P' e:=λz f=>by
 rw[h1]at z;replace z:=ah z;obtain⟨x,af,z1,z⟩:=z;cases z;obtain⟨d,h1,S1,e1,q1,o1⟩:=ie z1 f;exact⟨h1,S1,by rw[h2,e1,Ev.ak,Cn q1.t];rfl,o1⟩
theorem qZ(ie:bz P P' e){k:Bool}{fr:Fr}{v:V}{af:Fr}{M B:Nat->Prop}{h:Hh}{S:Nat->Prop}{aj:Ev.Fr}(z:src k fr e (ev P k e fr)=.ok v af)(f:aU M B h S fr aj) :
  ∃d h' S',Ev.ev P' e aj h=.ok d h'/\bq h' S' v d/\(k=false->∀n,d=.ref n->¬ M n)/\Out M B (bO e) h S fr aj h' S' af:=by
 have gen:ev P k e fr=.ok v af->∃d h' S',Ev.ev P' e aj h=.ok d h'/\bq h' S' v d/\(k=false->∀n,d=.ref n->¬ M n)/\Out M B (bO e) h S fr aj h' S' af:=λz=>by
  obtain⟨d,h1,S1,e1,q1,o1⟩:=ie z f;refine⟨d,h1,S1,e1,q1.t,λhk n hd=>?_,o1⟩;subst hk;have q:=q1.n;cases v<;>simp only[Rep]at q
  .cases q.symm.trans hd
  .cases q.symm.trans hd
  .cases q.symm.trans hd
  .cases q.symm.trans hd
  .obtain⟨_,q,_⟩:=q;cases q.symm.trans hd
  .obtain⟨m,ds,q,sm,_⟩:=q;cases q.symm.trans hd;exact(o1.f.wS _ sm).2.1
  .obtain⟨m,ds,q,sm,_⟩:=q;cases q.symm.trans hd;exact(o1.f.wS _ sm).2.1
 cases e
 case v i=>
  simp only[src]at z;replace z:=aM z;obtain⟨z,y0⟩:=z;subst y0;unfold AE at z;split at z
  .rename_i l y;cases z;obtain⟨p,e1,m,ds,rfl,y1,y2,y3⟩:=f.get y;exact⟨.ref m,h,S,by simp only[Ev.ev,e1,Option.join,Option.bind,id,Ev.dg],⟨m,ds,rfl,y2,y3⟩,λ_ n hn=>by cases hn;exact y1,.refl f⟩
  .exact gen (by simp only[ev,z,dg])
 all_goals exact gen z
theorem Nk(ie:bz P P' e):kQ P P' (.seq e):=λz f=>by
 simp only[b8]at z;replace z:=ah z;obtain⟨x,af,z1,z⟩:=z;replace z:=aM z;obtain⟨z,y0⟩:=z;subst y0;obtain⟨d,h1,S1,e1,q1,q2,o1⟩:=qZ ie z1 f;obtain⟨s,a1,a2,a3⟩:=EC z q1;exact⟨s,h1,S1,by simp only[Ev.b8,e1,Ev.ak,a1,Ev.dg],a2,λq hq=>⟨(a3 q hq).2,λhk=>q2 hk _ (a3 q hq).1⟩,o1⟩
theorem Jk(is:jV P P' es):kQ P P' (.gS es):=λz f=>by
 simp only[b8]at z;replace z:=ah z;obtain⟨x,af,z1,z⟩:=z;replace z:=aM z;obtain⟨z,y0⟩:=z;subst y0;obtain⟨d,h1,S1,e1,q1,o1⟩:=is z1 f;obtain⟨s,a1,a2⟩:=MZ z q1.t;exact⟨(s,[]),h1,S1,by simp only[Ev.b8,e1,Ev.ak,a1,Ev.dg],a2,λq hq=>by simp at hq,o1⟩
theorem EG(ie:bz P P' e):kQ P P' (.enum e):=λz f=>by
 simp only[b8]at z;replace z:=ah z;obtain⟨x,af,z1,z⟩:=z;replace z:=aM z;obtain⟨z,y0⟩:=z;subst y0;obtain⟨d,h1,S1,e1,q1,q2,o1⟩:=qZ ie z1 f;simp only[Option.map_eq_some_iff]at z;obtain⟨l,z,rfl⟩:=z;obtain⟨s,a1,a2,a3⟩:=sV z q1;exact⟨(Ev.iz 0 s.1,s.2),h1,S1,by simp only[Ev.b8,e1,Ev.ak,a1,Option.map,Ev.dg],yU 0 a2,λq hq=>⟨(a3 q hq).2,λhk=>q2 hk _ (a3 q hq).1⟩,o1⟩
theorem Jl(ie:bz P P' e):kQ P P' (.rev e):=λz f=>by
 simp only[b8]at z;replace z:=ah z;obtain⟨x,af,z1,z⟩:=z;replace z:=aM z;obtain⟨z,y0⟩:=z;subst y0;obtain⟨d,h1,S1,e1,q1,o1⟩:=ie z1 f;simp only[Option.map_eq_some_iff]at z;obtain⟨l,z,rfl⟩:=z;cases x<;>simp only[AD,reduceCtorEq]at z
 cases z;have k1:=q1.t;simp only[bq,Rep]at k1;obtain⟨ds,y1,k2⟩:=k1;subst y1;exact⟨(ds.reverse,[]),h1,S1,by simp only[Ev.b8,e1,Ev.ak,Ev.D4,Option.map,Ev.dg],k2.reverse,λq hq=>by simp at hq,o1⟩
theorem Jm(ia:bz P P' a)(ib:bz P P' b):kQ P P' (.zip a b):=λ{k fr v af M B h S aj} z f=>by
 simp only[b8]at z;replace z:=ah z;obtain⟨x,ao,z1,z⟩:=z;replace z:=ah z;obtain⟨y,bE,z2,z⟩:=z;replace z:=aM z;obtain⟨z,y0⟩:=z;subst y0;obtain⟨d,h1,S1,e1,q1,r1,o1⟩:=qZ ia z1 f;obtain⟨e,h2,S2,e2,q2,r2,o2⟩:=qZ ib z2 o1.f;simp only[Option.map_eq_some_iff,Option.bind_eq_some_iff]at z;obtain⟨l,z3,m,z4,rfl⟩:=z;have za:bq h2 S2 x d:=by
  by_cases hk:(k&&kf a (bO b))=true
  .exact(fY.tr (k:=true) (a:=a) (by unfold fY;rw[if_pos rfl];exact q1) o1.f o2.tr (λ_=>by simp at hk;exact hk.2) (qY e1)).t
  .have r1:=r1 (by simpa using hk);cases x
   case lst l=>
    simp only[bq]at q1 ⊢;obtain⟨n,ds,rfl,a1,a2⟩:=q1;exact⟨n,ds,rfl,by rw[o2.tr.keep n (List.getElem?_eq_some_iff.mp a1).1 (λz=>r1 n rfl z.1)];exact a1,a2.tr o1.f o2.tr⟩
   all_goals exact Rep.tr (show Rep h1 S1 _ d from q1) o1.f o2.tr
 obtain⟨s,a1,a2,a3⟩:=sV z3 za;obtain⟨t,b1,b2,b3⟩:=sV z4 q2;refine⟨(Ev.eB s.1 t.1,s.2++t.2),h2,S2,by simp only[Ev.b8,e1,Ev.ak,e2,a1,b1,Option.bind,Option.map,Ev.dg],Co a2 b2,λq hq=>?_,o1.trans o2⟩;rcases List.mem_append.mp hq with hq|hq
 .exact⟨(a3 q hq).2,λhk=>r1 (by simp[hk]) _ (a3 q hq).1⟩
 .exact⟨(b3 q hq).2,λhk=>r2 hk _ (b3 q hq).1⟩
end
section
variable{P:aI}{P':Ev.aI}(HP:oW P P')
include HP
mutual
theorem aX:∀e:E,bz P P' e
 |.c _=>Nc
 |.v _=>Nd
 |.tup es=>Cq (gE es)
 |.lst es=>Cr (gE es)
 |.bin _ a b=>Cs (aX a) (aX b)
 |.cmp _ a b=>Ct (aX a) (aX b)
 |.nt a=>Qe (aX a)
 |.neg a=>Cu (aX a)
 |.an a b=>Qf (aX a) (aX b)
 |.orr a b=>Nf (aX a) (aX b)
 |.iL t a b=>Cv (gj t) (aX a) (aX b)
 |.ix a b=>G4 (aX a) (aX b)
 |.sl a lo hi=>G5 (aX a) (q8 lo) (q8 hi)
 |.cl _ es=>G6 HP (nS es)
 |.bi _ es=>G7 (gE es)
 |.me _ o es=>G8 (aX o) (gE es)
 |.fK a _=>Cw (aX a)
 |.comp elt _ it cond=>we (kB it) (CB cond) (aX elt)
 |.eH it=>Cz (kB it)
 |.jN _ a=>y9 (aX a)
 |.jm a=>Cy (aX a)
theorem gj:∀e:E,iA P P' e
 |.an a b=>Uw (gj a) (gj b)
 |.orr a b=>Qh (gj a) (gj b)
 |.nt a=>Ux (gj a)
 |.c x=>eS Nc (λ_=>by simp only[aE]) (λ_ _=>by simp only[Ev.aE])
 |.v x=>eS Nd (λ_=>by simp only[aE]) (λ_ _=>by simp only[Ev.aE])
 |.tup es=>eS (Cq (gE es)) (λ_=>by simp only[aE]) (λ_ _=>by simp only[Ev.aE])
 |.lst es=>eS (Cr (gE es)) (λ_=>by simp only[aE]) (λ_ _=>by simp only[Ev.aE])
 |.bin _ a b=>eS (Cs (aX a) (aX b)) (λ_=>by simp only[aE]) (λ_ _=>by simp only[Ev.aE])
 |.cmp _ a b=>eS (Ct (aX a) (aX b)) (λ_=>by simp only[aE]) (λ_ _=>by simp only[Ev.aE])
 |.neg a=>eS (Cu (aX a)) (λ_=>by simp only[aE]) (λ_ _=>by simp only[Ev.aE])
 |.iL t a b=>eS (Cv (gj t) (aX a) (aX b)) (λ_=>by simp only[aE]) (λ_ _=>by simp only[Ev.aE])
 |.ix a b=>eS (G4 (aX a) (aX b)) (λ_=>by simp only[aE]) (λ_ _=>by simp only[Ev.aE])
 |.sl a lo hi=>eS (G5 (aX a) (q8 lo) (q8 hi)) (λ_=>by simp only[aE]) (λ_ _=>by simp only[Ev.aE])
 |.cl _ es=>eS (G6 HP (nS es)) (λ_=>by simp only[aE]) (λ_ _=>by simp only[Ev.aE])
 |.bi _ es=>eS (G7 (gE es)) (λ_=>by simp only[aE]) (λ_ _=>by simp only[Ev.aE])
 |.me _ o es=>eS (G8 (aX o) (gE es)) (λ_=>by simp only[aE]) (λ_ _=>by simp only[Ev.aE])
 |.fK a _=>eS (Cw (aX a)) (λ_=>by simp only[aE]) (λ_ _=>by simp only[Ev.aE])
 |.comp elt _ it cond=>eS (we (kB it) (CB cond) (aX elt)) (λ_=>by simp only[aE]) (λ_ _=>by simp only[Ev.aE])
 |.eH it=>eS (Cz (kB it)) (λ_=>by simp only[aE]) (λ_ _=>by simp only[Ev.aE])
 |.jN _ a=>eS (y9 (aX a)) (λ_=>by simp only[aE]) (λ_ _=>by simp only[Ev.aE])
 |.jm a=>eS (Cy (aX a)) (λ_=>by simp only[aE]) (λ_ _=>by simp only[Ev.aE])
theorem gE:∀e:Es,jV P P' e
 |.nil=>Nh
 |.cons e es=>Jh (aX e) (gE es)
theorem nS:∀e:Es,qW P P' e
 |.nil=>Ji
 |.cons e es=>EF (aX e) (nS es)
theorem q8:∀e:Eo,qX P P' e
 |.no=>Qg
 |.yes e=>Ni (aX e)
theorem CB:∀e:Eo,uR P P' e
 |.no=>Nj
 |.yes e=>Jj (gj e)
theorem kB:∀e:It,kQ P P' e
 |.seq e=>Nk (aX e)
 |.gS es=>Jk (gE es)
 |.zip a b=>Jm (aX a) (aX b)
 |.enum a=>EG (aX a)
 |.rev a=>Jl (aX a)
end
end
end Pv
namespace Pv
open Ev (D O Hh bF bu TY BI ME T E Es Eo It S Ss Fn big deep b2i rep bY dj bK aO cut cj dQ slots aW)
structure Tr(M B:Nat->Prop)(h:Hh)(S:Nat->Prop)(M':Nat->Prop)(h':Hh)(S':Nat->Prop):Prop where
 len:h.length<=h'.length
 keep:∀m,m<h.length->¬ M m->h'[m]?=h[m]?
 sub:∀m,S m->S' m
 new:∀m,S' m->S m\/(h.length<=m/\m<h'.length)\/(M m/\¬ B m)
 sW:∀m,M' m->M m\/h.length<=m
structure dw(M B:Nat->Prop)(h:Hh)(S:Nat->Prop)(fr:Fr)(aj:Ev.Fr)(M':Nat->Prop)(h':Hh)(S':Nat->Prop)(af:Fr)(bf:Ev.Fr):Prop where
 f:aU M' B h' S' af bf
 tr:Tr M B h S M' h' S'
 lk:∀i,locked af i=locked fr i
 rf:∀i,locked fr i=true->bf[i]?=aj[i]?
noncomputable def fQ(h:Hh)(S:Nat->Prop):Fl->Ev.Fl->Prop
 |.nx,g=>g=.nx
 |.bk,g=>g=.bk
 |.ct,g=>g=.ct
 |.ret v,g=>∃d,g=.ret d/\Rep h S v d
section
variable{M B M' M1 M2:Nat->Prop}{h h' h1 h2:Hh}{S S' S1 S2:Nat->Prop}{fr af ao:Fr}{aj bf jO:Ev.Fr}{c c1 c2:List Nat}{v:V}{d:D}
theorem dw.refl(f:aU M B h S fr aj):dw M B h S fr aj M h S fr aj:=⟨f,⟨Nat.le_refl _,λ_ _ _=>rfl,λ_ q=>q,λ_ q=>.inl q,λ_ q=>.inl q⟩,λ_=>rfl,λ_ _=>rfl⟩
theorem Out.s(o:Out M B c h S fr aj h1 S1 af):dw M B h S fr aj M h1 S1 af aj:=⟨o.f,⟨o.tr.len,λm y1 y2=>o.tr.keep m y1 (λz=>y2 z.1),o.tr.sub,λm q=>(o.tr.new m q).imp id .inl,λ_ q=>.inl q⟩,o.lk,λ_ _=>rfl⟩
theorem dw.trans(f0:aU M B h S fr aj)(a:dw M B h S fr aj M1 h1 S1 af bf)(b:dw M1 B h1 S1 af bf M2 h2 S2 ao jO):dw M B h S fr aj M2 h2 S2 ao jO where
 f:=b.f
 tr:=⟨Nat.le_trans a.tr.len b.tr.len,λm y1 y2=>by
   rw[b.tr.keep m (Nat.lt_of_lt_of_le y1 a.tr.len) (λz=>by
    rcases a.tr.sW m z with z|z
    .exact y2 z
    .omega),a.tr.keep m y1 y2],λm q=>b.tr.sub m (a.tr.sub m q),λm q=>by
   rcases b.tr.new m q with q|q|q
   .rcases a.tr.new m q with q|q|q
    .exact .inl q
    .exact .inr (.inl ⟨q.1,Nat.lt_of_lt_of_le q.2 b.tr.len⟩)
    .exact .inr (.inr q)
   .exact .inr (.inl ⟨Nat.le_trans a.tr.len q.1,q.2⟩)
   .rcases a.tr.sW m q.1 with z|z
    .exact .inr (.inr ⟨z,q.2⟩)
    .exact .inr (.inl ⟨z,Nat.lt_of_lt_of_le (a.f.wM m q.1) b.tr.len⟩),λm q=>by
   rcases b.tr.sW m q with q|q
   .exact a.tr.sW m q
   .exact .inr (Nat.le_trans a.tr.len q)⟩
 lk:=λi=>(b.lk i).trans (a.lk i)
 rf:=λi q=>(b.rf i (by rw[a.lk i];exact q)).trans (a.rf i q)
theorem aU.kind(f:aU M B h S fr aj)(g:Option Sl->Option Sl->Prop)(hl:af.length=fr.length)(hg:∀(i:Nat) o,af[i]?=some o->∃o0,fr[i]?=some o0/\(o=o0\/(∃l,o0=some (.own l)/\o=some (.val (.lst l)))\/(∃l,o0=some (.bor l)/\o=some (.ro l)))) :
  ∃M' S',dw M B h S fr aj M' h S' af aj:=by
 let X:Nat->Prop:=λm=>∃(i:Nat) (l:List V),fr[i]?=some (some (Sl.own l))/\af[i]?=some (some (Sl.val (V.lst l)))/\aj[i]?=some (some (D.ref m))
 let Y:Nat->Prop:=λm=>∃(i:Nat) (l:List V),fr[i]?=some (some (Sl.bor l))/\af[i]?=some (some (Sl.ro l))/\aj[i]?=some (some (D.ref m))
 have xM:∀m,X m->M m/\¬ B m:=λm ⟨i,l,a,_,b⟩=>by
  obtain⟨m',ds,e,q,_⟩:=f.sl i _ _ a b;cases e;exact q
 have yM:∀m,Y m->M m/\B m:=λm ⟨i,l,a,_,b⟩=>by
  obtain⟨m',ds,e,q,_⟩:=f.sl i _ _ a b;cases e;exact q
 have mono:∀{l:List V} {ds:List D},aq h S l ds->aq h (λm=>S m\/X m) l ds:=λq=>q.mono (λ_ _=>rfl) λ_ z=>.inl z;refine⟨λm=>M m/\¬ X m/\¬ Y m,λm=>S m\/X m,⟨⟨λm q=>?_,λm q=>f.wM m q.1,f.wB,by rw[hl,f.len],λi o p e1 e2=>?_,λi j o o' m y1 y2 y3 y4 y5 y6=>?_⟩,⟨Nat.le_refl _,λ_ _ _=>rfl,λ_ q=>.inl q,λm q=>?_,λm q=>.inl q.1⟩,λi=>?_,λ_ _=>rfl⟩⟩
 .rcases q with q|q
  .exact⟨(f.wS m q).1,λz=>(f.wS m q).2.1 z.1,(f.wS m q).2.2⟩
  .exact⟨f.wM m (xM m q).1,λz=>z.2.1 q,(xM m q).2⟩
 .obtain⟨o0,e0,k⟩:=hg i o e1;have old:=f.sl i o0 p e0 e2;rcases k with rfl|⟨l,rfl,rfl⟩|⟨l,rfl,rfl⟩
  .rcases o with _|s
   .exact old
   .cases s with
    |val v=>obtain⟨d,e,q⟩:=old;exact⟨d,e,q.mono (λ_ _=>rfl) λ_ z=>.inl z⟩
    |own l=>
     obtain⟨m,ds,rfl,z,y,q⟩:=old;refine⟨m,ds,rfl,⟨⟨z.1,λ⟨j,l',a1,a2,a3⟩=>?_,λ⟨j,l',a1,a2,a3⟩=>?_⟩,z.2⟩,y,mono q⟩
     .have:=f.inj i j _ _ m e0 a1 rfl rfl e2 a3;subst this;rw[e1]at a2;cases a2
     .have:=f.inj i j _ _ m e0 a1 rfl rfl e2 a3;subst this;rw[e1]at a2;cases a2
    |bor l=>
     obtain⟨m,ds,rfl,z,y,q⟩:=old;refine⟨m,ds,rfl,⟨⟨z.1,λ⟨j,l',a1,a2,a3⟩=>?_,λ⟨j,l',a1,a2,a3⟩=>?_⟩,z.2⟩,y,mono q⟩
     .have:=f.inj i j _ _ m e0 a1 rfl rfl e2 a3;subst this;rw[e1]at a2;cases a2
     .have:=f.inj i j _ _ m e0 a1 rfl rfl e2 a3;subst this;rw[e1]at a2;cases a2
    |ro l=>obtain⟨m,ds,rfl,z,y,q⟩:=old;exact⟨m,ds,rfl,λw=>z w.1,y,mono q⟩
  .obtain⟨m,ds,rfl,z,y,q⟩:=old;exact⟨.ref m,rfl,m,ds,rfl,.inr ⟨i,l,e0,e1,e2⟩,y,mono q⟩
  .obtain⟨m,ds,rfl,z,y,q⟩:=old;exact⟨m,ds,rfl,λw=>w.2.2 ⟨i,l,e0,e1,e2⟩,y,mono q⟩
 .have kd:∀(i:Nat) o,af[i]?=some o->iO o=true->∃o0,fr[i]?=some o0/\iO o0=true:=λi o w1 w2=>by
   obtain⟨o0,e0,k⟩:=hg i o w1;rcases k with rfl|⟨l,rfl,rfl⟩|⟨l,rfl,rfl⟩
   .exact⟨o,e0,w2⟩
   .cases w2
   .cases w2
  obtain⟨oi,k1,k2⟩:=kd i o y1 y3;obtain⟨oj,k3,k4⟩:=kd j o' y2 y4;exact f.inj i j oi oj m k1 k3 k2 k4 y5 y6
 .rcases q with q|q
  .exact .inl q
  .exact .inr (.inr (xM m q))
 .unfold locked;cases z:af[i]? with
  |none=>
   have:fr[i]?=none:=by rw[List.getElem?_eq_none_iff]at z ⊢;omega
   rw[this]
  |some o=>
   obtain⟨o0,e0,k⟩:=hg i o z;rw[e0];rcases k with rfl|⟨l,rfl,rfl⟩|⟨l,rfl,rfl⟩<;>rfl
theorem aU.dH(f:aU M B h S fr aj):∃M' S',dw M B h S fr aj M' h S' (fH fr) aj:=by
 refine f.kind (λ_ _=>True) (by simp[fH]) λi o e=>?_;unfold fH at e;rw[List.getElem?_map]at e;cases z:fr[i]? with
 |none=>rw[z]at e;cases e
 |some o0=>
  rw[z]at e;cases e;refine⟨o0,rfl,?_⟩;rcases o0 with _|s
  .exact .inl rfl
  .cases s with
   |own l=>exact .inr (.inl ⟨l,rfl,rfl⟩)
   |_=>exact .inl rfl
theorem aU.walk:∀(is:List Nat) {M:Nat->Prop}{S:Nat->Prop}{fr:Fr},aU M B h S fr aj->∃M' S',dw M B h S fr aj M' h S' (qS is fr) aj
 |[],_,_,_,f=>⟨_,_,.refl f⟩
 |i :: is,M,S,fr,f=>by
  have one:∃M1 S1,dw M B h S fr aj M1 h S1 (match fr[i]? with|some (some s)=>fr.set i (some s.walk)|_=>fr) aj:=by
   split
   .rename_i s z;have hl:=(List.getElem?_eq_some_iff.mp z).1;refine f.kind (λ_ _=>True) (by simp) λj o e=>?_;by_cases hj:i=j
    .subst hj;rw[List.getElem?_set_self hl]at e;cases e;refine⟨_,z,?_⟩;cases s with
     |own l=>exact .inr (.inl ⟨l,rfl,rfl⟩)
     |bor l=>exact .inr (.inr ⟨l,rfl,rfl⟩)
     |_=>exact .inl rfl
    .rw[List.getElem?_set_ne hj]at e;exact⟨o,e,.inl rfl⟩
   .exact⟨M,S,.refl f⟩
  obtain⟨M1,S1,o1⟩:=one;obtain⟨M2,S2,o2⟩:=aU.walk is o1.f;exact⟨M2,S2,o1.trans f o2⟩
theorem aU.own(f:aU M B h S fr aj){i:Nat}{l:List V}{ds:List D}(e:put fr i (.own l)=some af)(q:aq h S l ds):dw M B h S fr aj (λm=>M m\/m=h.length) (h++[.lst ds]) S af (aj.set i (some (.ref h.length))):=by
 have hx:af=fr.set i (some (.own l))/\locked fr i=false:=by
  unfold put at e;unfold locked;split at e
  .cases e
  .cases e
  .rename_i k1 k2;cases e;refine⟨rfl,?_⟩;cases z:fr[i]? with
   |none=>rfl
   |some o=>
    rcases o with _|s
    .rfl
    .cases s with
     |bor l=>exact absurd z (k1 l)
     |ro l=>exact absurd z (k2 l)
     |_=>rfl
 obtain⟨rfl,hk⟩:=hx;have kp:∀m,m<h.length->(h++[O.lst ds])[m]?=h[m]?:=λm z=>by rw[List.getElem?_append_left z]
 have kS:∀m,S m->(h++[O.lst ds])[m]?=h[m]?:=λm z=>kp m (f.w m z);refine⟨⟨λm y=>⟨by have:=(f.wS m y).1;simp;omega,λz=>?_,(f.wS m y).2.2⟩,λm y=>?_,λm y=>by have:=f.wB m y;simp;omega,by simp[f.len],λj o p y1 y2=>?_,λj k o o' m y1 y2 y3 y4 y5 y6=>?_⟩,⟨by simp,λm y _=>kp m y,λ_ z=>z,λ_ z=>.inl z,λm z=>z.imp id (λz=>by omega)⟩,λj=>?_,λj hj=>?_⟩
 .rcases z with z|z
  .exact(f.wS m y).2.1 z
  .have:=(f.wS m y).1;omega
 .rcases y with y|y
  .have:=f.wM m y;simp;omega
  .subst y;simp
 .by_cases hj:i=j
  .subst hj;have hl:i<fr.length:=by have:=(List.getElem?_eq_some_iff.mp y1).1;simpa using this
   rw[List.getElem?_set_self hl]at y1;rw[List.getElem?_set_self (by rw[<-f.len];exact hl)]at y2;cases y1;cases y2;exact⟨h.length,ds,rfl,⟨.inr rfl,λz=>by have:=f.wB _ z;omega⟩,by simp,q.mono kS λ_ z=>z⟩
  .rw[List.getElem?_set_ne hj]at y1 y2;have old:=f.sl j o p y1 y2;rcases o with _|s
   .exact old
   .cases s with
    |val v=>obtain⟨d,e,q⟩:=old;exact⟨d,e,q.mono kS λ_ z=>z⟩
    |own l=>obtain⟨m,es,rfl,z,y,q⟩:=old;exact⟨m,es,rfl,⟨.inl z.1,z.2⟩,by rw[kp m (f.wM m z.1)];exact y,q.mono kS λ_ z=>z⟩
    |bor l=>obtain⟨m,es,rfl,z,y,q⟩:=old;exact⟨m,es,rfl,⟨.inl z.1,z.2⟩,by rw[kp m (f.wM m z.1)];exact y,q.mono kS λ_ z=>z⟩
    |ro l=>
     obtain⟨m,es,rfl,z,y,q⟩:=old;have hm:=(List.getElem?_eq_some_iff.mp y).1;exact⟨m,es,rfl,λw=>by rcases w with w|w;exact z w;omega,by rw[kp m hm];exact y,q.mono kS λ_ z=>z⟩
 .have low:∀(j:Nat) o,i≠j->fr[j]?=some o->iO o=true->aj[j]?=some (some (.ref m))->m<h.length:=λj o _ w1 w2 w3=>f.wM m (f.mM w1 w2 w3);have new:∀(j:Nat),j<fr.length->i=j->(aj.set i (some (.ref h.length)))[j]?=some (some (.ref m))->m=h.length:=λj hl hj w=>by
   subst hj;rw[List.getElem?_set_self (by rw[<-f.len];exact hl)]at w;cases w;rfl
  have lj:j<fr.length:=by have:=(List.getElem?_eq_some_iff.mp y1).1;simpa using this
  have lk:k<fr.length:=by have:=(List.getElem?_eq_some_iff.mp y2).1;simpa using this
  by_cases hj:i=j
  .by_cases hk2:i=k
   .rw[<-hj,<-hk2]
   .have a:=new j lj hj y5;rw[List.getElem?_set_ne hk2]at y2 y6;have b:=low k o' hk2 y2 y4 y6;omega
  .by_cases hk2:i=k
   .have a:=new k lk hk2 y6;rw[List.getElem?_set_ne hj]at y1 y5;have b:=low j o hj y1 y3 y5;omega
   .rw[List.getElem?_set_ne hj]at y1 y5;rw[List.getElem?_set_ne hk2]at y2 y6;exact f.inj j k o o' m y1 y2 y3 y4 y5 y6
 .by_cases hj:i=j
  .subst hj;rw[hk];unfold locked;by_cases hl:i<fr.length
   .rw[List.getElem?_set_self hl];rfl
   .rw[List.getElem?_eq_none (by simpa using hl)]
  .unfold locked;rw[List.getElem?_set_ne hj]
 .have:i≠j:=λz=>by subst z;rw[hk]at hj;cases hj
  rw[List.getElem?_set_ne this]
end
inductive Su(P':Ev.aI)(w:Nat)(s:S)(g:Fl)(M B:Nat->Prop)(h:Hh)(S:Nat->Prop)(fr:Fr)(aj:Ev.Fr)(af:Fr):Prop
 |mk (g':Ev.Fl) (bf:Ev.Fr) (M':Nat->Prop) (h':Hh) (S':Nat->Prop) (c0:Ev.ex P' w s aj h=.ok (g',bf) h') (c1:fQ h' S' g g') (c2:dw M B h S fr aj M' h' S' af bf):Su P' w s g M B h S fr aj af
inductive Nl(P':Ev.aI)(w:Nat)(s:Ss)(g:Fl)(M B:Nat->Prop)(h:Hh)(S:Nat->Prop)(fr:Fr)(aj:Ev.Fr)(af:Fr):Prop
 |mk (g':Ev.Fl) (bf:Ev.Fr) (M':Nat->Prop) (h':Hh) (S':Nat->Prop) (c0:Ev.exs P' w s aj h=.ok (g',bf) h') (c1:fQ h' S' g g') (c2:dw M B h S fr aj M' h' S' af bf):Nl P' w s g M B h S fr aj af
section
variable(P:aI)(P':Ev.aI)(w:Nat)
noncomputable def nT(s:S):Prop:=∀{fr:Fr} {g:Fl} {af:Fr} {M B:Nat->Prop} {h:Hh} {S:Nat->Prop} {aj:Ev.Fr},ex P w s fr=.ok g af->aU M B h S fr aj->Su P' w s g M B h S fr aj af
noncomputable def q9(s:Ss):Prop:=∀{fr:Fr} {g:Fl} {af:Fr} {M B:Nat->Prop} {h:Hh} {S:Nat->Prop} {aj:Ev.Fr},exs P w s fr=.ok g af->aU M B h S fr aj->Nl P' w s g M B h S fr aj af
end
section
variable{P:aI}{P':Ev.aI}{w:Nat}(HP:oW P P')
include HP
theorem Jo{i:Nat}{e:E}:nT P P' w (.set i e):=λ{fr g af M B h S aj} z f=>by
 simp only[ex]at z;replace z:=ah z;obtain⟨x,ao,z1,z⟩:=z;by_cases hn:isNew e=true
 .rw[if_pos hn]at z;have key:∃l ds h1 S1,x=.lst l/\aq h1 S1 l ds/\Ev.ev P' e aj h=.ok (.ref h1.length) (h1++[.lst ds])/\Out M B (bO e) h S fr aj h1 S1 ao:=by
   cases e <;> (try simp only[isNew,Bool.false_eq_true]at hn)
   case lst es=>
    simp only[ev]at z1;replace z1:=ah z1;obtain⟨l,bE,z2,z1⟩:=z1;replace z1:=aM z1;obtain⟨z1,y0⟩:=z1;subst y0;unfold eL at z1;split at z1
    case isFalse=>cases z1
    rename_i hk;cases z1;obtain⟨ds,h1,S1,e1,q1,o1⟩:=gE HP es z2 f;refine⟨l,ds,h1,S1,rfl,q1.n,?_,o1⟩;simp only[Ev.ev,e1,Ev.ak,Ev.alloc];rw[if_pos (by rw[<-q1.n.length];exact hk)]
   case eH it=>
    simp only[ev]at z1;replace z1:=ah z1;obtain⟨l,bE,z2,z1⟩:=z1;replace z1:=aM z1;obtain⟨z1,y0⟩:=z1;subst y0;unfold eL at z1;split at z1
    case isFalse=>cases z1
    rename_i hk;cases z1;obtain⟨s,h1,S1,e1,q1,q2,o1⟩:=kB HP it z2 f;refine⟨l,s.1,h1,S1,rfl,q1,?_,o1⟩;simp only[Ev.ev,e1,Ev.ak,Ev.alloc];rw[if_pos (by rw[<-q1.length];exact hk)]
  obtain⟨l,ds,h1,S1,rfl,q1,e1,o1⟩:=key;simp only at z;replace z:=ah z;obtain⟨bE,jR,z2,z⟩:=z;replace z2:=aM z2;obtain⟨z2,y0⟩:=z2;subst y0;cases z;have o2:=o1.f.own z2 q1;exact⟨.nx,_,_,_,_,by simp only[Ev.ex,e1,Ev.ak],rfl,o1.s.trans f o2⟩
 .rw[if_neg hn]at z;replace z:=ah z;obtain⟨bE,jR,z2,z⟩:=z;replace z2:=aM z2;obtain⟨z2,y0⟩:=z2;subst y0;cases z;obtain⟨d,h1,S1,e1,q1,o1⟩:=aX HP e z1 f;obtain⟨f2,l2,r2⟩:=o1.f.set z2 q1.n;refine⟨.nx,_,_,_,_,by simp only[Ev.ex,e1,Ev.ak],rfl,o1.s.trans f ⟨f2,(dw.refl f2).tr,l2,r2⟩⟩
theorem Jp{l:List Nat}{e:E}:nT P P' w (.iW l e):=λ{fr g af M B h S aj} z f=>by
 simp only[ex]at z;replace z:=ah z;obtain⟨x,ao,z1,z⟩:=z;replace z:=ah z;obtain⟨bE,jR,z2,z⟩:=z;replace z2:=aM z2;obtain⟨z2,y0⟩:=z2;subst y0;cases z;obtain⟨d,h1,S1,e1,q1,o1⟩:=aX HP e z1 f;obtain⟨iH,b1,f2,l2,r2⟩:=o1.f.bD z2 q1.n;exact⟨.nx,_,_,_,_,by simp only[Ev.ex,e1,Ev.ak,b1],rfl,o1.s.trans f ⟨f2,(dw.refl f2).tr,l2,r2⟩⟩
theorem Np{e:E}:nT P P' w (.exp e):=λ{fr g af M B h S aj} z f=>by
 simp only[ex]at z;replace z:=ah z;obtain⟨x,ao,z1,z⟩:=z;cases z;obtain⟨d,h1,S1,e1,q1,o1⟩:=aX HP e z1 f;exact⟨.nx,_,_,_,_,by simp only[Ev.ex,e1,Ev.ak],rfl,o1.s⟩
theorem Nq{e:E}:nT P P' w (.ret e):=λ{fr g af M B h S aj} z f=>by
 simp only[ex]at z;replace z:=ah z;obtain⟨x,ao,z1,z⟩:=z;cases z;obtain⟨M1,S1,o1⟩:=f.dH;obtain⟨d,h2,S2,e1,q1,o2⟩:=aX HP e z1 o1.f;exact⟨.ret d,_,_,_,_,by simp only[Ev.ex,e1,Ev.ak],⟨d,rfl,q1.n⟩,o1.trans f o2.s⟩
omit HP in
theorem sX{F:V->Fr->R Fl}{F':D->Ev.Fr->Hh->Ev.R (Ev.Fl×Ev.Fr)}{ck:List (Nat×List D)}{B:Nat->Prop}{M0:Nat->Prop}{h0:Hh}{S0:Nat->Prop}{dz:Fr}{EH:Ev.Fr}(f0:aU M0 B h0 S0 dz EH)(st:∀q∈ck,aW h0 q.1=some q.2/\¬ M0 q.1)
  (turn:∀v d fr g af M h S aj,F v fr=.ok g af->aU M B h S fr aj->Rep h S v d->∃g' bf M' h' S',F' d aj h=.ok (g',bf) h'/\fQ h' S' g g'/\dw M B h S fr aj M' h' S' af bf) :
  ∀{vs:List V} {ds:List D} {fr:Fr} {g:Fl} {af:Fr} {M:Nat->Prop} {h:Hh} {S:Nat->Prop} {aj:Ev.Fr},forL F vs fr=.ok g af->dw M0 B h0 S0 dz EH M h S fr aj->aq h S vs ds->
  ∃g' bf M' h' S',Ev.forL F' ck ds aj h=.ok (g',bf) h'/\fQ h' S' g g'/\dw M0 B h0 S0 dz EH M' h' S' af bf
 |[],ds,fr,g,af,M,h,S,aj,e,o,q=>by
  simp only[forL]at e;simp only[aq]at q;subst q;cases e;refine⟨.nx,aj,M,h,S,?_,rfl,o⟩;simp only[Ev.forL];rw[if_pos (ju λx hx=>ku (st x hx).1 (o.tr.keep _ (lW (st x hx).1) (st x hx).2))]
 |v :: vs,ds,fr,g,af,M,h,S,aj,e,o,q=>by
  simp only[forL]at e;replace e:=ah e;obtain⟨p,ao,e1,e⟩:=e;simp only[aq]at q;obtain⟨d,es,rfl,q1,q2⟩:=q;obtain⟨g',jO,M2,h2,S2,t1,t2,t3⟩:=turn v d fr p ao M h S aj e1 o.f q1;have o2:=o.trans f0 t3;have G9:Ev.stays h ck=true:=ju λx hx=>ku (st x hx).1 (o.tr.keep _ (lW (st x hx).1) (st x hx).2);have Sv:aq h2 S2 vs es:=q2.mono (λm z=>t3.tr.keep m (o.f.wS m z).1 (o.f.wS m z).2.1) t3.tr.sub;cases p with
  |nx=>
   simp only[fQ]at t2;subst t2;simp only at e;obtain⟨rj,iH,M3,h3,S3,u1,u2,u3⟩:=sX f0 st turn e o2 Sv;refine⟨rj,iH,M3,h3,S3,?_,u2,u3⟩;simp only[Ev.forL];rw[if_pos G9,t1,Ev.ak];exact u1
  |ct=>
   simp only[fQ]at t2;subst t2;simp only at e;obtain⟨rj,iH,M3,h3,S3,u1,u2,u3⟩:=sX f0 st turn e o2 Sv;refine⟨rj,iH,M3,h3,S3,?_,u2,u3⟩;simp only[Ev.forL];rw[if_pos G9,t1,Ev.ak];exact u1
  |bk=>
   simp only[fQ]at t2;subst t2;simp only at e;cases e;refine⟨.nx,jO,M2,h2,S2,?_,rfl,o2⟩;simp only[Ev.forL];rw[if_pos G9,t1,Ev.ak]
  |ret x=>
   simp only[fQ]at t2;obtain⟨d2,rfl,t2⟩:=t2;simp only at e;cases e;refine⟨.ret d2,jO,M2,h2,S2,?_,⟨d2,rfl,t2⟩,o2⟩;simp only[Ev.forL];rw[if_pos G9,t1,Ev.ak]
theorem Nr{t:T}{it:It}{b:Ss}(ib:q9 P P' w b):nT P P' w (.for t it b):=λ{fr g af M B h S aj} z f=>by
 simp only[ex]at z;replace z:=ah z;obtain⟨vs,ao,z1,z⟩:=z;obtain⟨M1,S1,o1⟩:=f.walk (itv it);obtain⟨s,h2,S2,e1,q1,q2,o2⟩:=kB HP it z1 o1.f;have o3:=o1.trans f o2.s;obtain⟨g',bf,M',h',S',u1,u2,u3⟩:=sX (F':=λd ao h2=>match Ev.bD t d ao with
   |some bE=>Ev.exs P' w b bE h2
   |none=>.bad) (ck:=s.2) o2.f (λq hq=>⟨(q2 q hq).1,(q2 q hq).2 rfl⟩) (λv d fr g af M h S aj y f q=>by
  split at y
  .rename_i bE y1;obtain⟨iH,b1,b2,b3,b4⟩:=f.bD y1 q;rw[b1];obtain⟨g',bf,M',h',S',c1,c2,c3⟩:=ib y b2;exact⟨g',bf,M',h',S',c1,c2,(⟨b2,(dw.refl b2).tr,b3,b4⟩:dw M _ h S fr aj M h S bE iH).trans f c3⟩
  .cases y) z (dw.refl o2.f) q1
 refine⟨g',bf,M',h',S',?_,u2,o3.trans f u3⟩;simp only[Ev.ex,e1,Ev.ak];exact u1
theorem wg{t:E}{b:Ss}(ib:q9 P P' w b):∀(n:Nat) {fr:Fr}{g:Fl}{af:Fr}{M B:Nat->Prop}{h:Hh}{S:Nat->Prop}{aj:Ev.Fr},dG (λao=>aE P t ao) (λao=>exs P w b ao) n fr=.ok g af->aU M B h S fr aj->
  ∃g' bf M' h' S',Ev.dG (λao h2=>Ev.aE P' t ao h2) (λao h2=>Ev.exs P' w b ao h2) n aj h=.ok (g',bf) h'/\fQ h' S' g g'/\dw M B h S fr aj M' h' S' af bf
 |0,_,_,_,_,_,_,_,_,z,_=>by simp only[dG]at z;cases z
 |n+1,fr,g,af,M,B,h,S,aj,z,f=>by
  simp only[dG]at z;replace z:=ah z;obtain⟨k,ao,z1,z⟩:=z;obtain⟨h1,S1,e1,o1⟩:=gj HP t z1 f;cases k with
  |false=>
   simp only[Bool.false_eq_true,if_false]at z;cases z;refine⟨.nx,aj,M,h1,S1,?_,rfl,o1.s⟩;simp only[Ev.dG,e1,Ev.ak];rw[if_neg (by decide)]
  |true=>
   simp only[if_true]at z;replace z:=ah z;obtain⟨p,bE,z2,z⟩:=z;obtain⟨g',iH,M2,h2,S2,t1,t2,t3⟩:=ib z2 o1.f;have o2:=o1.s.trans f t3;cases p with
   |nx=>
    simp only[fQ]at t2;subst t2;simp only at z;obtain⟨rj,EI,M3,h3,S3,u1,u2,u3⟩:=wg ib n z t3.f;refine⟨rj,EI,M3,h3,S3,?_,u2,o2.trans f u3⟩;simp only[Ev.dG,e1,Ev.ak,if_true,t1];exact u1
   |ct=>
    simp only[fQ]at t2;subst t2;simp only at z;obtain⟨rj,EI,M3,h3,S3,u1,u2,u3⟩:=wg ib n z t3.f;refine⟨rj,EI,M3,h3,S3,?_,u2,o2.trans f u3⟩;simp only[Ev.dG,e1,Ev.ak,if_true,t1];exact u1
   |bk=>
    simp only[fQ]at t2;subst t2;simp only at z;cases z;refine⟨.nx,iH,M2,h2,S2,?_,rfl,o2⟩;simp only[Ev.dG,e1,Ev.ak,if_true,t1]
   |ret x=>
    simp only[fQ]at t2;obtain⟨d2,rfl,t2⟩:=t2;simp only at z;cases z;refine⟨.ret d2,iH,M2,h2,S2,?_,⟨d2,rfl,t2⟩,o2⟩;simp only[Ev.dG,e1,Ev.ak,if_true,t1]
theorem Nt{t:E}{a b:Ss}(ia:q9 P P' w a)(ib:q9 P P' w b):nT P P' w (.iff t a b):=λ{fr g af M B h S aj} z f=>by
 simp only[ex]at z;replace z:=ah z;obtain⟨k,ao,z1,z⟩:=z;obtain⟨h1,S1,e1,o1⟩:=gj HP t z1 f;cases k with
 |true=>
  simp only[if_true]at z;obtain⟨g',bf,M',h',S',c1,c2,c3⟩:=ia z o1.f;exact⟨g',bf,M',h',S',by simp only[Ev.ex,e1,Ev.ak,if_true,c1],c2,o1.s.trans f c3⟩
 |false=>
  simp only[Bool.false_eq_true,if_false]at z;obtain⟨g',bf,M',h',S',c1,c2,c3⟩:=ib z o1.f;exact⟨g',bf,M',h',S',by simp only[Ev.ex,e1,Ev.ak];rw[if_neg (by decide)];exact c1,c2,o1.s.trans f c3⟩
noncomputable def wj(P':Ev.aI):Prop:=∀f ds h d h',P' (f+Ev.xo) ds h=.ok d h'->P' f ds h=.bad
theorem Qi(HE:wj P'){g kk:Nat}{es:Es}:nT P P' w (.tr g kk es):=λ{fr _ af M B h S aj} z f=>by
 simp only[ex]at z;replace z:=ah z;obtain⟨as,ao,z1,z⟩:=z;obtain⟨ds,h1,S1,e1,q1,o1⟩:=nS HP es z1 f;split at z
 case isFalse=>cases z
 split at z
 .rename_i v bE y;cases z;obtain⟨d,h2,S2,e2,q2,o2⟩:=qp HP y o1.f q1;exact⟨.ret d,aj,M,h2,S2,by simp only[Ev.ex,e1,Ev.ak,e2,Ev.tryD],⟨d,rfl,q2⟩,(o1.trans o2).s⟩
 .replace z:=ah z;obtain⟨c,bE,z2,z⟩:=z;replace z:=aM z;obtain⟨z,rfl⟩:=z;obtain⟨d,h2,S2,e2,q2,o2⟩:=qp HP z2 o1.f q1;have e3:=HE _ _ _ _ _ e2;cases c with
  |int c=>
   simp only[Rep]at q2;subst q2;simp only[AF]at z;split at z
   case isFalse=>cases z
   rename_i hc;cases z;refine⟨.ret (.tup [.str [114,101,102,117,115,101,100],.int c]),aj,M,h2,S2,by simp only[Ev.ex,e1,Ev.ak,e2,e3,Ev.tryD,Ev.D5,if_pos hc,Ev.dg],⟨_,rfl,?_⟩,(o1.trans o2).s⟩;simp[Rep,aq]
  |_=>cases z
mutual
theorem Hf(HE:wj P'):∀s:S,nT P P' w s
 |.set _ _=>Jo HP
 |.iW _ _=>Jp HP
 |.exp _=>Np HP
 |.ret _=>Nq HP
 |.iff _ a b=>Nt HP (jf HE a) (jf HE b)
 |.for _ _ b=>Nr HP (jf HE b)
 |.tr _ _ _=>Qi HP HE
 |.jH _ b=>λz f=>by
  simp only[ex]at z;obtain⟨g',bf,M',h',S',c1,c2,c3⟩:=wg HP (jf HE b) w z f;exact⟨g',bf,M',h',S',by simp only[Ev.ex];exact c1,c2,c3⟩
 |.fk _=>λz _=>by simp only[ex]at z;cases z
theorem jf(HE:wj P'):∀s:Ss,q9 P P' w s
 |.nil=>λz f=>by simp only[exs]at z;cases z;exact⟨.nx,_,_,_,_,by simp only[Ev.exs],rfl,.refl f⟩
 |.cons s ss=>λz f=>by
  simp only[exs]at z;replace z:=ah z;obtain⟨p,ao,z1,z⟩:=z;obtain⟨g',jO,M2,h2,S2,t1,t2,t3⟩:=Hf HE s z1 f;cases p with
  |nx=>
   simp only[fQ]at t2;subst t2;simp only at z;obtain⟨rj,iH,M3,h3,S3,u1,u2,u3⟩:=jf HE ss z t3.f;exact⟨rj,iH,M3,h3,S3,by simp only[Ev.exs,t1,Ev.ak,u1],u2,t3.trans f u3⟩
  |ct=>
   simp only[fQ]at t2;subst t2;simp only at z;cases z;exact⟨.ct,jO,M2,h2,S2,by simp only[Ev.exs,t1,Ev.ak],rfl,t3⟩
  |bk=>
   simp only[fQ]at t2;subst t2;simp only at z;cases z;exact⟨.bk,jO,M2,h2,S2,by simp only[Ev.exs,t1,Ev.ak],rfl,t3⟩
  |ret x=>
   simp only[fQ]at t2;obtain⟨d2,rfl,t2⟩:=t2;simp only at z;cases z;exact⟨.ret d2,jO,M2,h2,S2,by simp only[Ev.exs,t1,Ev.ak],⟨d2,rfl,t2⟩,t3⟩
end
end
structure gY(M:Nat->Prop)(h h':Hh):Prop where
 len:h.length<=h'.length
 keep:∀m,m<h.length->¬ M m->h'[m]?=h[m]?
inductive kC(c:Nat)(M:Nat->Prop)(h:Hh)(r:Ev.XR):Prop
 |mk (h':Hh) (e:r=some (c,h')) (k:gY M h h'):kC c M h r
noncomputable def rm(X:cL)(X':Ev.cL):Prop:=∀f sl c,X f sl=some c->∀(h:Hh) (S B:Nat->Prop) (ds:List D),aU B B h S (sl.map some) (ds.map some)->kC c B h (X' f ds h)
theorem gY.after{M M1 B:Nat->Prop}{h h1 h2:Hh}{S S1:Nat->Prop}{fr af:Fr}{aj bf:Ev.Fr}(o:dw M B h S fr aj M1 h1 S1 af bf)(r:gY M1 h1 h2):gY M h h2:=⟨Nat.le_trans o.tr.len r.len,λm y1 y2=>by
 rw[r.keep m (Nat.lt_of_lt_of_le y1 o.tr.len) (λz=>by
  rcases o.tr.sW m z with z|z
  .exact y2 z
  .omega),o.tr.keep m y1 y2]⟩
section
variable{P:aI}{P':Ev.aI}{X:cL}{X':Ev.cL}{w:Nat}(HP:oW P P')(HE:wj P')(HX:rm X X')(HB:∀f ds h r,X' f ds h=some r->P' f ds h=.bad)
include HP HX HB
mutual
theorem mG:∀(e:E) {fr:Fr}{c:Nat}{M B:Nat->Prop}{h:Hh}{S:Nat->Prop}{aj:Ev.Fr},xe P X e fr=some c->aU M B h S fr aj->kC c M h (Ev.xe P' X' e aj h)
 |.cl g es,fr,c,M,B,h,S,aj,z,f=>by
  simp only[xe]at z;simp only[Ev.xe];split at z
  .rename_i as af y;obtain⟨ds,h1,S1,e1,q1,o1⟩:=nS HP es y f;rw[e1];unfold oV at z;split at z
   case isFalse=>cases z
   rename_i nd;rw[Option.bind_eq_some_iff]at z;obtain⟨sl,z1,z2⟩:=z;obtain⟨h2,e2,k⟩:=HX _ _ _ z2 h1 S1 _ ds (yX o1.f nd z1 q1);exact⟨h2,e2,gY.after o1.s ⟨k.len,λm y1 y2=>k.keep m y1 λz=>y2 (LB.m o1.f m z)⟩⟩
  .obtain⟨h2,e2,k⟩:=wk es z f;rw[Ev.vn HB es e2];exact⟨h2,e2,k⟩
 |.ix a b,fr,c,M,B,h,S,aj,z,f=>by
  simp only[xe]at z;simp only[Ev.xe];exact mG a z f
 |.me m o es,fr,c,M,B,h,S,aj,z,f=>by
  simp only[xe]at z;split at z
  case isFalse=>cases z
  rename_i hm;split at z
  case h_2=>cases z
  rename_i i hi;cases o with
  |v j=>
   simp only[gz]at hi;split at hi
   case isFalse=>cases hi
   rename_i hl;cases hi;obtain⟨s,hs⟩:=Option.isSome_iff_exists.mp hl;obtain⟨n,ds,l,o,k1,k2,k3,k4,k5⟩:=iP hs f;simp only[Ev.xe,Ev.ev,k2];have e0:Ev.qJ m (.ref n) h=true:=by
    have:aW h n=some ds:=by unfold aW;rw[k3]
    cases m<;>first | (simp[Ev.qJ,this];done)|cases hm
   simp only[Option.join,Option.bind,id,Ev.dg];rw[if_pos e0];exact CC es z f
  |_=>cases hi
 |.c _,_,_,_,_,_,_,_,z,_=>nomatch z|.v _,_,_,_,_,_,_,_,z,_=>nomatch z|.tup _,_,_,_,_,_,_,_,z,_=>nomatch z|.lst _,_,_,_,_,_,_,_,z,_=>nomatch z
 |.bin _ _ _,_,_,_,_,_,_,_,z,_=>nomatch z|.cmp _ _ _,_,_,_,_,_,_,_,z,_=>nomatch z
 |.nt _,_,_,_,_,_,_,_,z,_=>nomatch z|.neg _,_,_,_,_,_,_,_,z,_=>nomatch z|.an _ _,_,_,_,_,_,_,_,z,_=>nomatch z|.orr _ _,_,_,_,_,_,_,_,z,_=>nomatch z|.iL _ _ _,_,_,_,_,_,_,_,z,_=>nomatch z
 |.sl _ _ _,_,_,_,_,_,_,_,z,_=>nomatch z
 |.bi _ _,_,_,_,_,_,_,_,z,_=>nomatch z
 |.fK _ _,_,_,_,_,_,_,_,z,_=>nomatch z
 |.comp _ _ _ _,_,_,_,_,_,_,_,z,_=>nomatch z|.eH _,_,_,_,_,_,_,_,z,_=>nomatch z
 |.jN _ _,_,_,_,_,_,_,_,z,_=>nomatch z|.jm _,_,_,_,_,_,_,_,z,_=>nomatch z
theorem wk:∀(es:Es) {fr:Fr}{c:Nat}{M B:Nat->Prop}{h:Hh}{S:Nat->Prop}{aj:Ev.Fr},vX P X es fr=some c->aU M B h S fr aj->kC c M h (Ev.xa P' X' es aj h)
 |.nil,_,_,_,_,_,_,_,z,_=>nomatch z
 |.cons e es,fr,c,M,B,h,S,aj,z,f=>by
  simp only[vX]at z;simp only[Ev.xa];split at z
  .rename_i i hi;cases e with
   |v j=>
    simp only[gz]at hi;split at hi
    case isFalse=>cases hi
    rename_i hl;cases hi;obtain⟨s,hs⟩:=Option.isSome_iff_exists.mp hl;obtain⟨n,ds,l,o,k1,k2,k3,k4,k5⟩:=iP hs f;simp only[Ev.ev,k2,Option.join,Option.bind,id,Ev.dg];exact wk es z f
   |_=>cases hi
  .split at z
   .rename_i y;obtain⟨d,h1,S1,e1,q1,o1⟩:=aX HP e y f;rw[e1];obtain⟨h2,e2,k⟩:=wk es z o1.f;exact⟨h2,e2,gY.after o1.s k⟩
   .obtain⟨h2,e2,k⟩:=mG e z f;rw[(Ev.eK HB e e2).1];exact⟨h2,e2,k⟩
theorem CC:∀(es:Es) {k:Bool}{fr:Fr}{c:Nat}{M B:Nat->Prop}{h:Hh}{S:Nat->Prop}{aj:Ev.Fr},vY P X k es fr=some c->aU M B h S fr aj->kC c M h (Ev.xa P' X' es aj h)
 |.nil,_,_,_,_,_,_,_,_,z,_=>nomatch z
 |.cons e es,k,fr,c,M,B,h,S,aj,z,f=>by
  simp only[vY]at z;simp only[Ev.xa];split at z
  .rename_i y;obtain⟨d,h1,S1,e1,q1,o1⟩:=aX HP e y f;rw[e1];obtain⟨h2,e2,k⟩:=CC es z o1.f;exact⟨h2,e2,gY.after o1.s k⟩
  .obtain⟨h2,e2,k⟩:=mG e z f;rw[(Ev.eK HB e e2).1];exact⟨h2,e2,k⟩
end
omit HP HX HB in
theorem zb{f:V->Fr->R Fl}{g:V->Fr->Option Nat}{f':D->Ev.Fr->Hh->Ev.R (Ev.Fl×Ev.Fr)}{g':D->Ev.Fr->Hh->Ev.XR}{ck:List (Nat×List D)}{B:Nat->Prop}
  (hf:∀{v d fr fl af M h S aj},f v fr=.ok fl af->aU M B h S fr aj->Rep h S v d->∃gl bf M' h' S',f' d aj h=.ok (gl,bf) h'/\fQ h' S' fl gl/\dw M B h S fr aj M' h' S' af bf)
  (hg:∀{v d fr c M h S aj},g v fr=some c->aU M B h S fr aj->Rep h S v d->kC c M h (g' d aj h)) (hb:∀d fr h r,g' d fr h=some r->f' d fr h=.bad) :
  ∀(vs:List V) {ds:List D} {fr:Fr} {c:Nat} {M:Nat->Prop} {h:Hh} {S:Nat->Prop} {aj:Ev.Fr},fW f g vs fr=some c->aU M B h S fr aj->aq h S vs ds->(∀q∈ck,aW h q.1=some q.2/\¬ M q.1)->kC c M h (Ev.fW f' g' ck ds aj h)
 |[],_,_,_,_,_,_,_,z,_,_,_=>nomatch z
 |v :: vs,ds,fr,c,M,h,S,aj,z,f0,q,st=>by
  simp only[aq]at q;obtain⟨d,es,rfl,q1,q2⟩:=q;simp only[fW]at z;simp only[Ev.fW];rw[if_pos (ju λq hq=>(st q hq).1)];have go:∀{af:Fr} {bf:Ev.Fr} {M1:Nat->Prop} {h1:Hh} {S1:Nat->Prop},fW f g vs af=some c->dw M B h S fr aj M1 h1 S1 af bf->kC c M h (Ev.fW f' g' ck es bf h1):=λ{af bf M1 h1 S1} z1 o=>by
   obtain⟨h2,e2,k⟩:=zb hf hg hb vs z1 o.f (q2.mono (λm y=>o.tr.keep m (f0.wS m y).1 (f0.wS m y).2.1) o.tr.sub) (λq hq=>⟨ku (st q hq).1 (o.tr.keep _ (lW (st q hq).1) (st q hq).2),λy=>by
    rcases o.tr.sW _ y with y|y
    .exact(st q hq).2 y
    .have:=lW (st q hq).1;omega⟩)
   exact⟨h2,e2,gY.after o k⟩
  split at z
  .rename_i y;obtain⟨gl,bf,M1,h1,S1,t1,t2,t3⟩:=hf y f0 q1;simp only[fQ]at t2;subst t2;rw[t1];exact go z t3
  .rename_i y;obtain⟨gl,bf,M1,h1,S1,t1,t2,t3⟩:=hf y f0 q1;simp only[fQ]at t2;subst t2;rw[t1];exact go z t3
  .cases z
  .obtain⟨h2,e2,k⟩:=hg z f0 q1;rw[hb _ _ _ _ e2];exact⟨h2,e2,k⟩
include HE
mutual
theorem Qj:∀(s:S) {fr:Fr}{c:Nat}{M B:Nat->Prop}{h:Hh}{S:Nat->Prop}{aj:Ev.Fr},xs P X w s fr=some c->aU M B h S fr aj->kC c M h (Ev.xs P' X' w s aj h)
 |.fk c,fr,_,M,B,h,S,aj,z,f=>by
  simp only[xs]at z;cases z;exact⟨h,rfl,Nat.le_refl _,λ_ _ _=>rfl⟩
 |.set i e,fr,c,M,B,h,S,aj,z,f=>by
  simp only[xs]at z;simp only[Ev.xs];exact mG HP HX HB e z f
 |.exp e,fr,c,M,B,h,S,aj,z,f=>by
  simp only[xs]at z;simp only[Ev.xs];exact mG HP HX HB e z f
 |.ret e,fr,c,M,B,h,S,aj,z,f=>by
  simp only[xs]at z;simp only[Ev.xs];obtain⟨M1,S1,o⟩:=f.dH;obtain⟨h2,e2,k⟩:=mG HP HX HB e z o.f;exact⟨h2,e2,gY.after o k⟩
 |.iff t a b,fr,c,M,B,h,S,aj,z,f=>by
  simp only[xs]at z;simp only[Ev.xs];split at z
  .rename_i k af y;obtain⟨h1,S1,e1,o1⟩:=gj HP t y f;rw[e1];cases k with
   |true=>
    obtain⟨h2,e2,k⟩:=lY a (by simpa using z) o1.f;exact⟨h2,by simpa using e2,gY.after o1.s k⟩
   |false=>
    obtain⟨h2,e2,k⟩:=lY b (by simpa using z) o1.f;exact⟨h2,by simpa using e2,gY.after o1.s k⟩
  .obtain⟨h2,e2,k⟩:=mG HP HX HB t z f;rw[(Ev.eK HB t e2).2];exact⟨h2,e2,k⟩
 |.for t it b,fr,c,M,B,h,S,aj,z,f=>by
  simp only[xs]at z;simp only[Ev.xs];split at z
  case h_2=>cases z
  rename_i vs af y;obtain⟨M0,S0,o0⟩:=f.walk (itv it);obtain⟨s,h1,S1,e1,q1,q2,o1⟩:=kB HP it y o0.f;rw[e1];have o2:=o0.trans f o1.s;obtain⟨h2,e2,k⟩:=zb (B:=B) (ck:=s.2) (f':=λd ao h2=>match Ev.bD t d ao with|some bE=>Ev.exs P' w b bE h2|none=>.bad) (g':=λd ao h2=>match Ev.bD t d ao with|some bE=>Ev.xss P' X' w b bE h2|none=>none)
   (λ{v d fr fl af M h S aj} y1 f1 r1=>by
    split at y1
    .rename_i bE e3;obtain⟨iH,b1,b2,b3,b4⟩:=f1.bD e3 r1;rw[b1];obtain⟨g',bf,M',h',S',c1,c2,c3⟩:=jf HP HE b y1 b2;exact⟨g',bf,M',h',S',c1,c2,(⟨b2,(dw.refl b2).tr,b3,b4⟩:dw M _ h S fr aj M h S bE iH).trans f1 c3⟩
    .cases y1)
   (λ{v d fr c M h S aj} y1 f1 r1=>by
    split at y1
    .rename_i bE e3;obtain⟨iH,b1,b2,b3,b4⟩:=f1.bD e3 r1;rw[b1];exact lY b y1 b2
    .cases y1)
   (λd fr h r y1=>by
    split at y1
    .rename_i e3;exact Ev.dh HB b y1
    .cases y1) vs z o2.f q1 (λq hq=>⟨(q2 q hq).1,(q2 q hq).2 rfl⟩)
  exact⟨h2,e2,gY.after o2 k⟩
 |.jH t b,fr,c,M,B,h,S,aj,z,f=>by
  simp only[xs]at z;simp only[Ev.xs];have go:∀(n:Nat) {fr:Fr} {M:Nat->Prop} {h:Hh} {S:Nat->Prop} {aj:Ev.Fr},eW (λao=>aE P t ao) (λao=>exs P w b ao) (λao=>xss P X w b ao) n fr=some c->aU M B h S fr aj->kC c M h (Ev.eW (λao h2=>Ev.aE P' t ao h2) (λao h2=>Ev.exs P' w b ao h2) (λao h2=>Ev.xss P' X' w b ao h2) n aj h):=λn=>by
   induction n with
   |zero=>intro _ _ _ _ _ z _;cases z
   |succ n ih=>
    intro fr M h S aj z f;simp only[eW]at z;simp only[Ev.eW];split at z
    case h_2=>cases z
    rename_i af y;obtain⟨h1,S1,e1,o1⟩:=gj HP t y f;rw[e1];simp only;split at z
    .rename_i y2;obtain⟨gl,jO,M2,h2,S2,t1,t2,t3⟩:=jf HP HE b y2 o1.f;simp only[fQ]at t2;subst t2;rw[t1];obtain⟨h3,e3,k⟩:=ih z t3.f;exact⟨h3,e3,gY.after (o1.s.trans f t3) k⟩
    .rename_i y2;obtain⟨gl,jO,M2,h2,S2,t1,t2,t3⟩:=jf HP HE b y2 o1.f;simp only[fQ]at t2;subst t2;rw[t1];obtain⟨h3,e3,k⟩:=ih z t3.f;exact⟨h3,e3,gY.after (o1.s.trans f t3) k⟩
    .cases z
    .obtain⟨h3,e3,k⟩:=lY b z o1.f;rw[Ev.dh HB b e3];exact⟨h3,e3,gY.after o1.s k⟩
  exact go w z f
 |.iW _ _,_,_,_,_,_,_,_,z,_=>nomatch z
 |.tr _ _ _,_,_,_,_,_,_,_,z,_=>nomatch z
theorem lY:∀(s:Ss) {fr:Fr}{c:Nat}{M B:Nat->Prop}{h:Hh}{S:Nat->Prop}{aj:Ev.Fr},xss P X w s fr=some c->aU M B h S fr aj->kC c M h (Ev.xss P' X' w s aj h)
 |.nil,_,_,_,_,_,_,_,z,_=>nomatch z
 |.cons s ss,fr,c,M,B,h,S,aj,z,f=>by
  simp only[xss]at z;simp only[Ev.xss];split at z
  .rename_i y;obtain⟨gl,jO,M2,h2,S2,t1,t2,t3⟩:=Hf HP HE s y f;simp only[fQ]at t2;subst t2;rw[t1];obtain⟨h3,e3,k⟩:=lY ss z t3.f;exact⟨h3,e3,gY.after t3 k⟩
  .cases z
  .obtain⟨h3,e3,k⟩:=Qj s z f;rw[Ev.nF HB s e3];exact⟨h3,e3,k⟩
end
end
theorem sY{h:Hh}{S:Nat->Prop}{B:Nat->Prop}{h0:Hh}{S0:Nat->Prop}:∀{sl:List Sl}{ds:List D}{cs:Fr},sl.length=ds.length->
  (∀(a:Nat) s d,sl[a]?=some s->ds[a]?=some d->lS B B h0 S0 (some s) (some d)/\locked cs a=yV (some s)/\(yV (some s)=true->∃m es l s',d=.ref m/\h[m]?=some (.lst es)/\aq h S l es/\cs[a]?=some (some s')/\s'.out=some l))->lJ h S sl ds ((cs.take sl.length).filterMap λo=>o.bind Sl.out)
 |[],ds,cs,_,_=>by simp[lJ]
 |s :: sl,[],cs,hl,_=>by simp at hl
 |s :: sl,d :: ds,[],hl,q=>by
  have ih:=sY (h:=h) (S:=S) (sl:=sl) (ds:=ds) (cs:=[]) (by simpa using hl) λa s' d' e1 e2=>by
   obtain⟨w1,w2,w3⟩:=q (a+1) s' d' (by simpa using e1) (by simpa using e2);exact⟨w1,by simpa[locked]using w2,λz=>by obtain⟨_,_,_,_,_,_,_,y,_⟩:=w3 z;simp at y⟩
  obtain⟨w1,w2,w3⟩:=q 0 s d (by simp) (by simp);cases s with
  |val v=>simp at ih ⊢;exact⟨d,ds,rfl,ih⟩
  |own l=>exact absurd w1 (by rintro⟨m,es,e,q,_⟩;exact q.2 q.1)
  |bor l=>obtain⟨_,_,_,_,_,_,_,y,_⟩:=w3 rfl;simp at y
  |ro l=>obtain⟨_,_,_,_,_,_,_,y,_⟩:=w3 rfl;simp at y
 |s :: sl,d :: ds,o :: cs,hl,q=>by
  have ih:=sY (h:=h) (S:=S) (sl:=sl) (ds:=ds) (cs:=cs) (by simpa using hl) λa s' d' e1 e2=>by
   obtain⟨w1,w2,w3⟩:=q (a+1) s' d' (by simpa using e1) (by simpa using e2);exact⟨w1,by simpa[locked]using w2,λz=>by simpa using w3 z⟩
  obtain⟨w1,w2,w3⟩:=q 0 s d (by simp) (by simp);cases s with
  |val v=>
   have:o.bind Sl.out=none:=by
    simp[locked]at w2;rcases o with _|s
    .rfl
    .cases s<;>first|rfl|cases w2
   simp only[List.length_cons,List.take_succ_cons,List.filterMap_cons,this];exact⟨d,ds,rfl,ih⟩
  |own l=>exact absurd w1 (by rintro⟨m,es,e,q,_⟩;exact q.2 q.1)
  |bor l=>
   obtain⟨m,es,l',s',a1,a2,a3,a4,a5⟩:=w3 rfl;simp at a4;subst a4;simp only[List.length_cons,List.take_succ_cons,List.filterMap_cons,Option.bind,a5];exact⟨d,ds,l',_,m,es,rfl,rfl,a1,a2,a3,ih⟩
  |ro l=>
   obtain⟨m,es,l',s',a1,a2,a3,a4,a5⟩:=w3 rfl;simp at a4;subst a4;simp only[List.length_cons,List.take_succ_cons,List.filterMap_cons,Option.bind,a5];exact⟨d,ds,l',_,m,es,rfl,rfl,a1,a2,a3,ih⟩
theorem CD{fn:Fn}{sl:List Sl}{ds:List D}{B:Nat->Prop}{h:Hh}{S:Nat->Prop}(F0:aU B B h S (sl.map some) (ds.map some))(hlen:sl.length=ds.length):aU B B h S (dz fn sl) (Ev.dz fn ds):=by
 unfold dz Ev.dz;have sp:∀(i:Nat) o,(sl.map some++List.replicate (fn.ns - fn.np) none)[i]?=some o->(sl.map some)[i]?=some o\/(sl.length<=i/\o=none):=λi o y=>by
  by_cases hi:i<sl.length
  .rw[List.getElem?_append_left (by simpa using hi)]at y;exact .inl y
  .rw[List.getElem?_append_right (by simpa using hi)]at y;have:=List.mem_of_getElem? y;exact .inr ⟨by omega,(List.mem_replicate.mp this).2⟩
 have lo:∀(i:Nat) p,i<sl.length->(ds.map some++List.replicate (fn.ns - fn.np) none)[i]?=some p->(ds.map some)[i]?=some p:=λi p hi y=>by
  rw[List.getElem?_append_left (by simpa[<-hlen]using hi)]at y;exact y
 refine⟨F0.wS,F0.wM,F0.wB,by simp[hlen],λi o p y1 y2=>?_,λi j o o' m y1 y2 y3 y4 y5 y6=>?_⟩
 .rcases sp i o y1 with y1|⟨hi,rfl⟩
  .have hi:i<sl.length:=by have:=(List.getElem?_eq_some_iff.mp y1).1;simpa using this
   exact F0.sl i o p y1 (lo i p hi y2)
  .rw[List.getElem?_append_right (by simpa[<-hlen]using hi)]at y2;have:=List.mem_of_getElem? y2;exact(List.mem_replicate.mp this).2
 .rcases sp i o y1 with y1|⟨hi,rfl⟩
  .rcases sp j o' y2 with y2|⟨hj,rfl⟩
   .have hi:i<sl.length:=by have:=(List.getElem?_eq_some_iff.mp y1).1;simpa using this
    have hj:j<sl.length:=by have:=(List.getElem?_eq_some_iff.mp y2).1;simpa using this
    exact F0.inj i j o o' m y1 y2 y3 y4 (lo i _ hi y5) (lo j _ hj y6)
   .cases y4
  .cases y3
theorem Jq{F:List Fn}(hF:F.length<=Ev.xo)(w n:Nat):wj (Ev.run F w n):=λf ds h d h' e=>by
 cases n with
 |zero=>cases e
 |succ n=>
  rw[Ev.gy,List.getElem?_eq_none (by omega)]at e;simp only[Ev.mV]at e;rw[if_pos (by omega),Nat.add_sub_cancel]at e;split at e
  .rename_i z;exact Ev.qg F w _ _ _ _ _ z
  .cases e
theorem Nu{X:cL}{X':Ev.cL}(HX:rm X X'){f:Nat}{sl:List Sl}{v:V}{os:List (List V)}(e:mV X f sl=some (v,os)){h:Hh}{S B:Nat->Prop}{ds:List D}(F0:aU B B h S (sl.map some) (ds.map some)) :
  ∃d h' S',Ev.mV X' f ds h=.ok d h'/\Rep h' S' v d/\Tk B h S h' S'/\lJ h' S' sl ds os:=by
 unfold mV at e;split at e
 case isFalse=>cases e
 rename_i hk;rw[Option.map_eq_some_iff]at e;obtain⟨c,e1,e2⟩:=e;cases e2;obtain⟨h',e3,k⟩:=HX _ _ _ e1 h S B ds F0;refine⟨.int c,h',S,by simp only[Ev.mV];rw[if_pos hk.1,e3],by simp[Rep],⟨k.len,k.keep,λ_ q=>q,λ_ q=>.inl q⟩,?_⟩;have hlen:sl.length=ds.length:=by have:=F0.len;simpa using this
 have:∀{sl:List Sl} {ds:List D},sl.length=ds.length->sl.all Sl.gz=true->lJ h' S sl ds []:=λ{sl}=>by
  induction sl with
  |nil=>intro ds _ _;rfl
  |cons s sl ih=>
   intro ds hl ha;cases ds with
   |nil=>simp at hl
   |cons d ds=>
    simp only[List.all_cons,Bool.and_eq_true]at ha;cases s with
    |val v=>exact⟨d,ds,rfl,ih (by simpa using hl) ha.2⟩
    |_=>cases ha.1
 exact this hlen hk.2
theorem zc{F:List Fn}(hF:F.length<=Ev.xo)(w:Nat):∀n,oW (run F w n) (Ev.run F w n)/\rm (cD F w n) (Ev.cD F w n)
 |0=>⟨λf sl v os e=>(nomatch e),λf sl c e=>(nomatch e)⟩
 |n+1=>by
  obtain⟨HP,HX⟩:=zc hF w n;have HE:=Jq hF w n;have hx:rm (cD F w (n+1)) (Ev.cD F w (n+1)):=λf sl c e h S B ds F0=>by
   rw[iZ]at e;rw[Ev.iZ];cases z:F[f]? with
   |none=>rw[z]at e;cases e
   |some fn=>
    rw[z]at e;simp only at e ⊢;split at e
    case isFalse=>cases e
    rename_i hl;have hlen:sl.length=ds.length:=by have:=F0.len;simpa using this
    rw[if_pos (by omega)];exact lY HP HE HX (Ev.qg F w n) fn.body e (CD F0 hlen)
  refine⟨λf sl v os e h S B ds F0=>?_,hx⟩;rw[gy]at e;cases z:F[f]? with
  |none=>
   rw[z]at e;rw[Ev.gy,z];exact Nu hx e F0
  |some fn=>
  rw[z]at e;simp only at e;split at e
  case isFalse=>cases e
  rename_i hl;have hlen:sl.length=ds.length:=by have:=F0.len;simpa using this
  have f1:aU B B h S (dz fn sl) (Ev.dz fn ds):=CD F0 hlen;have fin:∀{g:Fl} {af:Fr},exs (run F w n) w fn.body (dz fn sl)=.ok g af->∃g' bf M' h' S',Ev.exs (Ev.run F w n) w fn.body (Ev.dz fn ds) h=.ok (g',bf) h'/\fQ h' S' g g'/\Tk B h S h' S'/\lJ h' S' sl ds (outs fn.np af):=λ{g af} y=>by
   obtain⟨g',bf,M',h',S',c1,c2,c3⟩:=jf HP HE fn.body y f1;refine⟨g',bf,M',h',S',c1,c2,⟨c3.tr.len,λm y1 y2=>c3.tr.keep m y1 y2,c3.tr.sub,λm q=>?_⟩,?_⟩
   .rcases c3.tr.new m q with q|q|q
    .exact .inl q
    .exact .inr q
    .exact absurd q.1 q.2
   .unfold outs;rw[<-hl];refine sY (B:=B) (h0:=h) (S0:=S) hlen λa s d e1 e2=>?_;have ha:a<sl.length:=(List.getElem?_eq_some_iff.mp e1).1;have h0:(dz fn sl)[a]?=some (some s):=by unfold dz;rw[List.getElem?_append_left (by simpa using ha)];simp[e1]
    have hlk:locked af a=yV (some s):=by rw[c3.lk a];unfold locked;rw[h0]
    refine⟨F0.sl a _ _ (by simp[e1]) (by simp[e2]),hlk,λhk=>?_⟩;have hr:=c3.rf a (by unfold locked;rw[h0];exact hk);have hd:(Ev.dz fn ds)[a]?=some (some d):=by unfold Ev.dz;rw[List.getElem?_append_left (by simpa[<-hlen]using ha)];simp[e2]
    rw[hd]at hr;cases y2:af[a]? with
    |none=>unfold locked at hlk;rw[y2]at hlk;rw[<-hlk]at hk;cases hk
    |some o=>
     have sr:=c3.f.sl a _ _ y2 hr;unfold locked at hlk;rw[y2,hk]at hlk;rcases o with _|s'
     .cases hlk
     .cases s' with
      |val v=>cases hlk
      |own l=>cases hlk
      |bor l=>obtain⟨m,es,e,_,k1,k2⟩:=sr;cases e;exact⟨m,es,l,_,rfl,k1,k2,rfl,rfl⟩
      |ro l=>obtain⟨m,es,e,_,k1,k2⟩:=sr;cases e;exact⟨m,es,l,_,rfl,k1,k2,rfl,rfl⟩
  simp only[Ev.gy,z];have hl':ds.length=fn.np:=by omega
  rw[if_pos hl'];split at e
  .rename_i v' af y;cases e;obtain⟨g',bf,M',h',S',c1,c2,c3,c4⟩:=fin y;simp only[fQ]at c2;obtain⟨d,rfl,c2⟩:=c2;exact⟨d,h',S',by simp only[Ev.endOf,c1,Ev.ak],c2,c3,c4⟩
  .rename_i af y;cases e;obtain⟨g',bf,M',h',S',c1,c2,c3,c4⟩:=fin y;simp only[fQ]at c2;subst c2;exact⟨.aL,h',S',by simp only[Ev.endOf,c1,Ev.ak],rfl,c3,c4⟩
  .cases e
end Pv
namespace Pv
open Ev (D O Hh Fn)
theorem Jr{F:List Fn}{w n f:Nat}{ns:List Int}(e:run F w n f [.val (.bP (ns.map V.int))]=some (.bl true,[]))(hF:F.length<=1000:=by decide):∃h',Ev.run F w n f [.ref 0] [.bP (ns.map D.int)]=.ok (.bl true) h':=by
 have F0:aU (λ_=>False) (λ_=>False) [O.bP (ns.map D.int)] (λm=>m=0) ([Sl.val (.bP (ns.map V.int))].map some) ([D.ref 0].map some):=by
  refine⟨λm q=>⟨by subst q;simp,id,id⟩,λm q=>q.elim,λm q=>q.elim,rfl,λi o p y1 y2=>?_,λi j o o' m y1 y2 y3 y4 y5 y6=>?_⟩
  .cases i with
   |zero=>
    simp at y1 y2;subst y1 y2;refine⟨.ref 0,rfl,?_⟩;simp only[Rep];exact⟨0,_,rfl,rfl,rfl,aq.map (f:=V.int) (g:=D.int) (λ_=>by simp[Rep]) ns⟩
   |succ i=>simp at y1
  .cases i with
   |zero=>simp at y1;subst y1;cases y3
   |succ i=>simp at y1
 obtain⟨d,h',S',a,b,_,_⟩:=(zc hF w n).1 f _ _ _ e _ _ _ _ F0;simp only[Rep]at b;subst b;exact⟨h',a⟩
end Pv
namespace Pv
open Ev (D bF bu TY BI ME T E Es Eo It S Ss Fn big deep b2i rep bY dj bK aO cut cj dQ slots)
theorem bQ{n:Nat}(h:n<=100000):n<=big:=Nat.le_trans h (by decide)
section
variable{i j:Int}{a b:List Nat}{x y:List V}{d e:V}{m n:Nat}{k l:Bool}
theorem cT(h:x.length<=big):eL x=some (.lst x):=by simp[eL,h]
theorem kD(h:x.length<=big):ki x=some (.tup x):=by simp[ki,h]
@[simp] theorem rq:eL []=some (.lst []):=cT (bQ (by simp))
@[simp] theorem Qk:ki []=some (.tup []):=kD (bQ (by simp))
@[simp] theorem Hg{a}:eL [a]=some (.lst [a]):=cT (bQ (by simp))
@[simp] theorem rA{a}:ki [a]=some (.tup [a]):=kD (bQ (by simp))
@[simp] theorem Ql{a b}:eL [a,b]=some (.lst [a,b]):=cT (bQ (by simp))
@[simp] theorem jC{a b}:ki [a,b]=some (.tup [a,b]):=kD (bQ (by simp))
@[simp] theorem Qm{a b c}:ki [a,b,c]=some (.tup [a,b,c]):=kD (bQ (by simp))
@[simp] theorem fD:bU .add (.int i) (.int j)=some (.int (i+j)):=nd rfl
theorem iI(h:a.length+b.length<=100000):bU .add (.str a) (.str b)=some (.str (a++b)):=by delta bU;dsimp only;simp[bQ h]
theorem EJ(h:x.length+y.length<=100000):bU .add (.tup x) (.tup y)=some (.tup (x++y)):=by delta bU;dsimp only;simp[bQ h]
theorem mH(h:x.length+y.length<=100000):bU .add (.lst x) (.lst y)=some (.lst (x++y)):=by delta bU;dsimp only;simp[cT (bQ (show(x++y).length<=100000 by simpa using h))]
@[simp] theorem EK:bU .sub (.int i) (.int j)=some (.int (i - j)):=nd rfl
@[simp] theorem qq:bU .mul (.int i) (.int j)=if bY i j then some (.int (i*j))else none:=nd rfl
theorem EL(h0:0<=j)(h1:j<=1000)(h2:a.length<=1000):bU .mul (.str a) (.int j)=some (.str (rep j.toNat a)):=by delta bU;dsimp only;simp[h0,h1,h2]
theorem EM(h0:0<=j)(h1:j<=1000)(h2:x.length<=1000)(h3:(rep j.toNat x).length<=100000):bU .mul (.lst x) (.int j)=some (.lst (rep j.toNat x)):=by delta bU;dsimp only;simp[h0,h1,h2,cT (bQ h3)]
@[simp] theorem EN:bU .fdiv (.int i) (.int j)=if 0<j/\j<1073741824 then some (.int (i / j))else none:=nd rfl
@[simp] theorem Js:bU .mod (.int i) (.int j)=if 0<j then some (.int (i % j))else none:=nd rfl
@[simp] theorem Nv:cop .eq d e=cS deep d e:=nd rfl
@[simp] theorem wm:cop .ne d e=(cS deep d e).map (!·):=nd rfl
@[simp] theorem W0:cop .isin d e=isin d e:=nd rfl
@[simp] theorem nU:cop .gu d e=(isin d e).map (!·):=nd rfl
@[simp] theorem Uy:isin d (.tup x)=mem d x:=nd rfl
@[simp] theorem Vu:mem d []=some false:=nd rfl
@[simp] theorem mem_cons:mem d (e :: x)=(cS deep e d).bind λb=>(mem d x).bind λc=>some (b ||c):=nd rfl
@[simp] theorem Nx:cS (n+1) (.int i) (.int j)=some (decide (i=j)):=by show some (i==j)=_;by_cases h:i=j<;>simp[h]
@[simp] theorem CF:cS (n+1) (.str a) (.str b)=some (decide (a=b)):=by show some (a==b)=_;by_cases h:a=b<;>simp[h]
@[simp] theorem W2:cS (n+1) (.str a) (.int i)=some false:=nd rfl
@[simp] theorem W3:cS (n+1) (.int i) (.str a)=some false:=nd rfl
@[simp] theorem W4:cS (n+1) (.tup x) (.tup y)=cz (cS n) x y:=nd rfl
@[simp] theorem W5:cS (n+1) (.lst x) (.lst y)=cz (cS n) x y:=nd rfl
@[simp] theorem zd:cS deep (.int i) (.int j)=some (decide (i=j)):=Nx
@[simp] theorem ze:cS deep (.str a) (.str b)=some (decide (a=b)):=CF
@[simp] theorem Vv:cS deep (.str a) (.int i)=some false:=nd rfl
@[simp] theorem Vw:cS deep (.int i) (.str a)=some false:=nd rfl
@[simp] theorem Jt:cS deep (.tup x) (.tup y)=cz (cS (18+1)) x y:=nd rfl
@[simp] theorem Ju:cS deep (.lst x) (.lst y)=cz (cS (18+1)) x y:=nd rfl
@[simp] theorem Vx{f:V->V->Option Bool}:cz f [] []=some true:=nd rfl
@[simp] theorem W6{f:V->V->Option Bool}:cz f [] (d :: x)=some false:=nd rfl
@[simp] theorem W7{f:V->V->Option Bool}:cz f (d :: x) []=some false:=nd rfl
@[simp] theorem Uz{f:V->V->Option Bool}:cz f (d :: x) (e :: y)=(f d e).bind λb=>(cz f x y).bind λc=>some (b&&c):=nd rfl
theorem oX{α:Type}[DecidableEq α]{f:V->V->Option Bool}{g:α->V}(h:∀a b,f (g a) (g b)=some (decide (a=b))):∀l m:List α,cz f (l.map g) (m.map g)=some (decide (l=m))
 |[],[]=>by simp
 |[],_ :: _=>by simp
 |_ :: _,[]=>by simp
 |a :: l,b :: m=>by simp[h,oX h l m]
@[simp] theorem sZ:fP (.str a) (.int i)=(bK a i).map λc=>.str [c]:=nd rfl
@[simp] theorem zf:fP (.lst x) (.int i)=bK x i:=nd rfl
@[simp] theorem Jv{lo hi:Option Int}:gg (.tup x) lo hi=some (.tup (cut x lo hi)):=nd rfl
@[simp] theorem iR{lo hi:Option Int}:gg (.str a) lo hi=some (.str (cut a lo hi)):=nd rfl
theorem len_str(h:a.length<=100000):dS .len [.str a]=some (.int a.length):=by delta dS;dsimp only;simp[bQ h]
@[simp] theorem tu:dS .len [.lst x]=some (.int x.length):=nd rfl
@[simp] theorem zg:dS .len [.bP x]=some (.int x.length):=nd rfl
@[simp] theorem Jw:dS .sum [.lst x]=(intsOf x).map λis=>.int is.sum:=nd rfl
@[simp] theorem CG:dS .min [.int i,.int j]=some (.int (if j<i then j else i)):=nd rfl
@[simp] theorem tw:toT (.lst x)=ki x:=nd rfl
theorem Ny(h0:0<=j)(h1:j<=100000):er [.int j]=some (range 0 j.toNat):=by
 simp only[er];rw[if_pos ⟨by omega,by omega⟩]
theorem UA(h0:-100000<=i)(h1:i<=100000)(h2:-100000<=j)(h3:j<=100000):er [.int i,.int j]=some (range i (j - i).toNat):=by
 simp only[er];rw[if_pos ⟨by omega,by omega,by omega,by omega⟩]
theorem AH{α:Type}(g:α->Int)(l:List α):intsOf (l.map λx=>.int (g x))=some (l.map g):=by induction l<;>simp[intsOf, *]
theorem rB{α:Type}(g:α->List Nat)(l:List α):strsOf (l.map λx=>.str (g x))=some (l.map g):=by induction l<;>simp[strsOf, *]
theorem uC:∀l:List (List Nat),cj [] l=l.flatten
 |[]=>rfl
 |[s]=>by simp[cj]
 |s :: t :: r=>by simp[cj,uC (t :: r)]
@[simp] theorem W8:truthy (.bl k)=k:=nd rfl
@[simp] theorem Vy:truthy (.lst x) = !x.isEmpty:=nd rfl
theorem Qn{l:List (List Nat)}(h:l.flatten.length<=100000):fG .join (.str []) [.lst (l.map V.str)]=some (.str l.flatten):=by
 have hs:=rB (λx=>x) l;have:(l.map (·.length)).sum<=big:=bQ (by rw[<-List.length_flatten];exact h);simp only[List.map_id']at hs;have hs':strsOf (l.map V.str)=some l:=by simpa using rB (λx=>x) l
 delta fG;dsimp only;simp[jS,hs',uC,this]
end
theorem nV{α:Type}{f:V->Option (Option V)}(e:α->V)(g:α->V)(l:List α)(h:∀a∈l,f (e a)=some (some (g a))):cH f (l.map e)=some (l.map g):=by
 induction l with
 |nil=>rfl
 |cons a l ih=>simp only[List.map_cons,cH,h a (by simp),ih λu hu=>h u (by simp[hu]),Option.bind];rfl
theorem nW{α:Type}{f:V->Option (Option V)}(e:α->V)(p:α->Bool)(g:α->V)(l:List α)(h:∀a∈l,f (e a)=some (if p a then some (g a)else none)):cH f (l.map e)=some ((l.filter p).map g):=by
 induction l with
 |nil=>rfl
 |cons a l ih=>
  simp only[List.map_cons,cH,h a (by simp),ih λu hu=>h u (by simp[hu]),Option.bind];cases z:p a<;>simp[z]
noncomputable def Wp{α:Type}(r:R α)(Q:α->Fr->Prop):Prop:=∃a h,r=.ok a h/\Q a h
section
variable{α β:Type}{Q Q':α->Fr->Prop}
@[simp] theorem kR(a:α)(h:Fr):Wp (.ok a h) Q=Q a h:=propext ⟨λ⟨_,_,e,q⟩=>by cases e;exact q,λq=>⟨_,_,rfl,q⟩⟩
@[simp] theorem W9:Wp (.bad:R α) Q=False:=propext ⟨λq=>(by obtain⟨_,_,e,_⟩:=q;cases e),False.elim⟩
@[simp] theorem wp_bind(r:R β)(f:β->Fr->R α):Wp (r.bind f) Q=Wp r λa h=>Wp (f a h) Q:=by cases r<;>simp
theorem Wp.mono{r:R α}(h:Wp r Q)(f:∀a h,Q a h->Q' a h):Wp r Q':=by
 obtain⟨a,h',e,q⟩:=h;exact⟨a,h',e,f a h' q⟩
end
noncomputable def fl(I Q:Fr->Prop)(X:V->Fr->Prop):Fl->Fr->Prop
 |.nx,fr=>I fr
 |.ct,fr=>I fr
 |.bk,fr=>Q fr
 |.ret v,fr=>X v fr
section
variable{I J:Fr->Prop}{X:V->Fr->Prop}{fr:Fr}{v:V}
@[simp] theorem eE:fl I J X .nx fr=I fr:=nd rfl
end
theorem wo{f:V->Fr->R Fl}{Q:Fl->Fr->Prop}(I:List V->Fr->Prop)(turn:∀d l fr,I (d :: l) fr->Wp (f d fr) (fl (I l) (Q .nx) λv=>Q (.ret v)))(fin:∀fr,I [] fr->Q .nx fr):∀(ds:List V) (fr:Fr),I ds fr->Wp (forL f ds fr) Q
 |[],fr,i=>by simp only[forL,kR];exact fin fr i
 |d :: ds,fr,i=>by
  simp only[forL,wp_bind];refine(turn d ds fr i).mono λp h2 q=>?_;cases p with
  |nx=>exact wo I turn fin ds h2 q
  |ct=>exact wo I turn fin ds h2 q
  |bk=>exact(kR _ _).mpr q
  |ret x=>exact(kR _ _).mpr q
theorem gQ{α:Type}{e:α->V}{f:V->Fr->R Fl}{Q:Fl->Fr->Prop}(I:List α->List α->Fr->Prop)(turn:∀p a l fr,I p (a :: l) fr->Wp (f (e a) fr) (fl (I (p++[a]) l) (Q .nx) λv=>Q (.ret v)))(fin:∀p fr,I p [] fr->Q .nx fr):∀(l p:List α) (fr:Fr),I p l fr->Wp (forL f (l.map e) fr) Q
 |[],p,fr,i=>by simp only[List.map_nil,forL,kR];exact fin p fr i
 |a :: l,p,fr,i=>by
  simp only[List.map_cons,forL,wp_bind];refine(turn p a l fr i).mono λg h2 q=>?_;cases g with
  |nx=>exact gQ I turn fin l _ h2 q
  |ct=>exact gQ I turn fin l _ h2 q
  |bk=>exact(kR _ _).mpr q
  |ret x=>exact(kR _ _).mpr q
theorem Jx{f:V->Fr->R Fl}{Q:Fl->Fr->Prop}{lo:Int}{N:Nat}(I:Nat->Fr->Prop)(turn:∀(k:Nat) fr,k<N->I k fr->Wp (f (.int (lo+(k:Nat))) fr) (fl (I (k+1)) (Q .nx) λv=>Q (.ret v)))(fin:∀fr,I N fr->Q .nx fr){fr:Fr}(i:I 0 fr):Wp (forL f (range lo N) fr) Q:=by
 have h:=gQ (e:=λ(k:Nat)=>V.int (lo+k)) (f:=f) (Q:=Q) (λp l fr=>∃k,k<=N/\p=List.range k/\p++l=List.range N/\I k fr)
  (λp a l fr ⟨k,hk,hp,hl,q⟩=>by
   subst hp;have hlen:=congrArg List.length hl;simp at hlen;have ha:a=k:=by
    have:=congrArg (·[k]?) hl;simp[List.getElem?_append_right]at this;rw[List.getElem?_range (by omega)]at this;simpa using this
   subst ha;refine(turn a fr (by omega) q).mono λg h2 z=>?_;cases g with
   |nx=>exact⟨a+1,by omega,by simp[List.range_succ],by simpa using hl,z⟩
   |ct=>exact⟨a+1,by omega,by simp[List.range_succ],by simpa using hl,z⟩
   |bk=>exact z
   |ret x=>exact z)
  (λp fr ⟨k,hk,hp,hl,q⟩=>by
   subst hp;have hlen:=congrArg List.length hl;simp at hlen;subst hlen;exact fin fr q) (List.range N) [] fr ⟨0,Nat.zero_le _,rfl,by simp,i⟩
 exact h
theorem rC{t:Fr->R Bool}{f:Fr->R Fl}{Q:Fl->Fr->Prop}(I:Nat->Fr->Prop)(turn:∀k fr,I k fr->Wp (t fr) λb af=>if b then Wp (f af) (fl (λao=>∃j,j<k/\I j ao) (Q .nx) λv=>Q (.ret v))else Q .nx af):∀(n k:Nat) (fr:Fr),k<n->I k fr->Wp (dG t f n fr) Q
 |0,k,fr,hk,_=>by omega
 |n+1,k,fr,hk,i=>by
  simp only[dG,wp_bind];refine(turn k fr i).mono λb af q=>?_;cases b with
  |false=>simpa using q
  |true=>
   simp only[if_true,wp_bind]at q ⊢;refine q.mono λg ao z=>?_;cases g with
   |nx=>obtain⟨j,hj,z⟩:=z;exact rC I turn n j ao (by omega) z
   |ct=>obtain⟨j,hj,z⟩:=z;exact rC I turn n j ao (by omega) z
   |bk=>exact(kR _ _).mpr z
   |ret x=>exact(kR _ _).mpr z
noncomputable def fin(fn:Fn)(ds:List Sl):R Fl->Option (V×List (List V))
 |.ok (.ret v) fr=>some (v,outs fn.np fr)
 |.ok .nx fr=>some (.aL,outs fn.np fr)
 |_=>Cm fn ds
@[simp] theorem tD{fn:Fn}{ds:List Sl}{v:V}{fr:Fr}:fin fn ds (.ok (.ret v) fr)=some (v,outs fn.np fr):=nd rfl
theorem run_eq{F:List Fn}{w n f:Nat}{ds:List Sl}{fn:Fn}(hf:F[f]?=some fn)(hl:ds.length=fn.np):run F w (n+1) f ds=fin fn ds (exs (run F w n) w fn.body (dz fn ds)):=by
 simp only[gy,hf,hl,if_true];cases exs (run F w n) w fn.body (dz fn ds)with
 |bad=>rfl
 |ok g fr=>cases g<;>rfl
theorem cO{F:List Fn}{w n f:Nat}{ds:List Sl}{fn:Fn}{v:V}{os:List (List V)}(hf:F[f]?=some fn)(hl:ds.length=fn.np)(q:Wp (exs (run F w n) w fn.body (dz fn ds)) λg fr=>g=.ret v/\outs fn.np fr=os):run F w (n+1) f ds=some (v,os):=by
 rw[run_eq hf hl];obtain⟨g,fr,e,rfl,rfl⟩:=q;rw[e];rfl
section
variable{P:aI}{w:Nat}{fr:Fr}{k:Bool}{a b c:E}{es:Es}{ss sa sb:Ss}{st:S}{lo hi:Eo}{it:It}
@[simp] theorem UB{d:D}:ev P k (.c d) fr=R.of (ofD d) fr:=by rw[ev]
@[simp] theorem UC{i:Nat}:ev P k (.v i) fr=R.of (nM k fr i) fr:=by rw[ev]
@[simp] theorem Nz:ev P k (.tup es) fr=(bS P false es fr).bind λds af=>R.of (ki ds) af:=by rw[ev]
@[simp] theorem NB:ev P k (.lst es) fr=(bS P false es fr).bind λds af=>R.of (eL ds) af:=by rw[ev]
@[simp] theorem NC{o:bF}:ev P k (.bin o a b) fr=(ev P (kf a (bO b)) a fr).bind λx af=>(ev P true b af).bind λy ao=>R.of (bU o x y) ao:=by rw[ev]
@[simp] theorem ND{o:bu}:ev P k (.cmp o a b) fr=(ev P (kf a (bO b)) a fr).bind λx af=>(ev P true b af).bind λy ao=>R.of ((cop o x y).map .bl) ao:=by rw[ev]
noncomputable def Xa:V->Fr->R V:=λx h1=>match x with
 |.bl b=>.ok (.bl (!b)) h1
 |_=>.bad
@[simp] theorem Qo:ev P k (.nt a) fr=(ev P true a fr).bind Xa:=by rw[ev];rfl
noncomputable def UD:V->Fr->R V:=λx h1=>match x with
 |.int i=>.ok (.int (-i)) h1
 |_=>.bad
@[simp] theorem NF:ev P k (.neg a) fr=(ev P true a fr).bind UD:=by rw[ev];rfl
noncomputable def Sw(r:Fr->R V):V->Fr->R V:=λx h1=>match x with
 |.bl true=>r h1
 |.bl false=>.ok (.bl false) h1
 |_=>.bad
@[simp] theorem NG{k:Bool}{r:Fr->R V}:Sw r (.bl k) fr=if k then r fr else .ok (.bl false) fr:=by cases k<;>rfl
@[simp] theorem Qp:ev P k (.an a b) fr=(ev P true a fr).bind (Sw λh1=>ev P k b h1):=by rw[ev];rfl
@[simp] theorem NH:ev P k (.iL a b c) fr=(aE P a fr).bind λt af=>if t then ev P k b af else ev P k c af:=by rw[ev]
@[simp] theorem Qq:ev P k (.ix a b) fr=(ev P (kf a (bO b)) a fr).bind λx af=>(ev P true b af).bind λy ao=>R.of (fP x y) ao:=by rw[ev]
@[simp] theorem Qs:ev P k (.sl a lo hi) fr=(ev P (kf a (lI lo++lI hi)) a fr).bind λx af=>(gw P lo af).bind λl ao=>(gw P hi ao).bind λu bE=>R.of (gg x l u) bE:=by rw[ev]
@[simp] theorem Qt{f:Nat}:ev P k (.cl f es) fr=(eF P es fr).bind λas af=>eO P f as af:=by rw[ev]
@[simp] theorem Qu{g:BI}:ev P k (.bi g es) fr=(bS P true es fr).bind λds af=>R.of (dS g ds) af:=by rw[ev]
noncomputable def EO(m:ME)(i:Nat):List V->Fr->R V:=λds af=>match af[i]? with
 |some (some (.own l))=>match kj m l ds with
  |some (v,l')=>.ok v (af.set i (some (.own l')))
  |none=>.bad
 |some (some (.bor l))=>match kj m l ds with
  |some (v,l')=>.ok v (af.set i (some (.bor l')))
  |none=>.bad
 |_=>.bad
theorem NI{m:ME}{i:Nat}(hm:jd m=true):ev P k (.me m (.v i) es) fr=if (lent fr i).isSome then (bS P (yP m) es fr).bind (EO m i)else .bad:=by
 rw[ev,if_pos hm];unfold gz;cases z:(lent fr i).isSome<;>simp[z]<;>rfl
theorem NJ{m:ME}(hm:jd m=false):ev P k (.me m a es) fr=(ev P (kf a (gr es)) a fr).bind λx af=>(bS P true es af).bind λds ao=>R.of (fG m x ds) ao:=by rw[ev,hm];rfl
@[simp] theorem NK{ts:List TY}:ev P k (.fK a ts) fr=(ev P true a fr).bind λx af=>.ok (.bl (ts.any (dm x))) af:=by rw[ev]
noncomputable def jD(P:aI)(elt:E)(t:T)(cond:Eo)(fr:Fr):V->Option (Option V):=λd=>match bD t d (pO fr)with
 |none=>none
 |some ao=>match iY P cond ao with
  |.ok c _=>if c then (match ev P false elt ao with|.ok x _=>some (some x)|.bad=>none)else some none
  |.bad=>none
@[simp] theorem sN{elt:E}{t:T}{cond:Eo}:ev P k (.comp elt t it cond) fr=(b8 P true it fr).bind λs af=>if undef t af then R.of ((cH (jD P elt t cond af) s).bind eL) af else .bad:=by rw[ev];rfl
@[simp] theorem NL:ev P k (.eH it) fr=(b8 P true it fr).bind λs af=>R.of (eL s) af:=by rw[ev]
@[simp] theorem Jy{kvs:List (D×D)}:ev P k (.jN kvs a) fr=(ev P true a fr).bind λx af=>R.of (iX x kvs) af:=by rw[ev]
@[simp] theorem NN:ev P k (.jm a) fr=(ev P true a fr).bind λx af=>R.of (toT x) af:=by rw[ev]
@[simp] theorem Jz:bS P k .nil fr=.ok [] fr:=by rw[bS]
@[simp] theorem ER:bS P k (.cons a es) fr=(ev P (k&&kf a (gr es)) a fr).bind λd af=>(bS P k es af).bind λds ao=>.ok (d :: ds) ao:=by rw[bS]
@[simp] theorem JB:eF P .nil fr=.ok [] fr:=by rw[eF]
noncomputable def AI(P:aI)(a:E)(es:Es)(fr:Fr):Option Nat->R (List (Nat ⊕ V))
 |some i=>(eF P es fr).bind λr af=>.ok (.inl i :: r) af
 |none=>(ev P false a fr).bind λd af=>(eF P es af).bind λr ao=>.ok (.inr d :: r) ao
@[simp] theorem AJ{i:Nat}:AI P a es fr (some i)=(eF P es fr).bind λr af=>.ok (.inl i :: r) af:=nd rfl
@[simp] theorem AK:AI P a es fr none=(ev P false a fr).bind λd af=>(eF P es af).bind λr ao=>.ok (.inr d :: r) ao:=nd rfl
@[simp] theorem wu:eF P (.cons a es) fr=AI P a es fr (gz fr a):=by rw[eF];cases gz fr a<;>rfl
@[simp] theorem NO:gw P .no fr=.ok none fr:=by rw[gw]
@[simp] theorem JD:gw P (.yes a) fr=(ev P true a fr).bind λd af=>R.of ((intOf d).map some) af:=by rw[gw]
@[simp] theorem NP:iY P .no fr=.ok true fr:=by rw[iY]
@[simp] theorem JF:iY P (.yes a) fr=aE P a fr:=by rw[iY]
@[simp] theorem wz:aE P (.an a b) fr=(aE P a fr).bind λk af=>if k then aE P b af else .ok false af:=by rw[aE]
@[simp] theorem zh:aE P (.orr a b) fr=(aE P a fr).bind λk af=>if k then .ok true af else aE P b af:=by rw[aE]
@[simp] theorem NQ:aE P (.nt a) fr=(aE P a fr).bind λk af=>.ok (!k) af:=by rw[aE]
noncomputable def NR:V->Fr->R Bool:=λx af=>.ok (truthy x) af
@[simp] theorem JH{x:V}:NR x fr=.ok (truthy x) fr:=nd rfl
@[simp] theorem JJ:b8 P k (.seq a) fr=(src k fr a (ev P k a fr)).bind λx af=>R.of (fV x) af:=by rw[b8]
@[simp] theorem JK:b8 P k (.gS es) fr=(bS P true es fr).bind λds af=>R.of (er ds) af:=by rw[b8]
@[simp] theorem zj:b8 P k (.zip a b) fr=(src (k&&kf a (bO b)) fr a (ev P (k&&kf a (bO b)) a fr)).bind λx af=>(src k af b (ev P k b af)).bind λy ao=>R.of ((jS x).bind λs=>(jS y).map λt=>eB s t) ao:=by rw[b8]
@[simp] theorem JL:b8 P k (.rev a) fr=(ev P true a fr).bind λx af=>R.of ((AD x).map λs=>s.reverse) af:=by rw[b8]
noncomputable def NS(i:Nat)(af:Fr):V->R Fl
 |.lst l=>(R.of (put af i (.own l)) af).bind λao _=>.ok .nx ao
 |_=>.bad
@[simp] theorem ES{i:Nat}{l:List V}:NS i fr (.lst l)=(R.of (put fr i (.own l)) fr).bind λao _=>.ok .nx ao:=nd rfl
@[simp] theorem CH{i:Nat}:ex P w (.set i a) fr=(ev P false a fr).bind λx af=>if isNew a then NS i af x else (R.of (put af i (.val x)) af).bind λao _=>.ok .nx ao:=by
 rw[ex];rfl
@[simp] theorem JM{l:List Nat}:ex P w (.iW l a) fr=(ev P false a fr).bind λx af=>(R.of (bD (.many l) x af) af).bind λao _=>.ok .nx ao:=by rw[ex]
@[simp] theorem NT:ex P w (.exp a) fr=(ev P true a fr).bind λ_ af=>.ok .nx af:=by rw[ex]
@[simp] theorem NU:ex P w (.ret a) fr=(ev P false a (fH fr)).bind λx af=>.ok (.ret x) af:=by rw[ex]
@[simp] theorem NV:ex P w (.iff a sa sb) fr=(aE P a fr).bind λk af=>if k then exs P w sa af else exs P w sb af:=by rw[ex]
noncomputable def turnF(P:aI)(w:Nat)(t:T)(b:Ss):V->Fr->R Fl:=λd ao=>match bD t d ao with
 |some bE=>exs P w b bE
 |none=>.bad
@[simp] theorem vC{t:T}:ex P w (.for t it ss) fr=(b8 P false it (qS (itv it) fr)).bind λs af=>forL (turnF P w t ss) s af:=by rw[ex];rfl
@[simp] theorem NW:ex P w (.jH a ss) fr=dG (λao=>aE P a ao) (λao=>exs P w ss ao) w fr:=by rw[ex]
@[simp] theorem JN:exs P w .nil fr=.ok .nx fr:=by rw[exs]
noncomputable def Qv(P:aI)(w:Nat)(ss:Ss):Fl->Fr->R Fl:=λp h1=>match p with
 |.nx=>exs P w ss h1
 |p=>.ok p h1
@[simp] theorem ET:exs P w (.cons st ss) fr=(ex P w st fr).bind (Qv P w ss):=by rw[exs];rfl
end
theorem jI{P:aI}{f:Nat}{vs:List V}{fr:Fr}{v:V}(h:P f (vs.map .val)=some (v,[])):eO P f (vs.map .inr) fr=.ok v fr:=by
 have h1:∀vs:List V,bM (vs.map .inr)=[]:=λvs=>by induction vs<;>simp[bM, *]
 have h2:∀vs:List V,args fr (vs.map .inr)=some (vs.map .val):=λvs=>by induction vs<;>simp[args, *]
 simp[eO,h1,h2,h,back]
section
variable{P:aI}{f:Nat}{fr:Fr}{a b c d v:V}
theorem cg(h:P f [.val a]=some (v,[])):eO P f [.inr a] fr=.ok v fr:=jI (vs:=[a]) h
theorem call2(h:P f [.val a,.val b]=some (v,[])):eO P f [.inr a,.inr b] fr=.ok v fr:=jI (vs:=[a,b]) h
theorem iB(h:P f [.val a,.val b,.val c]=some (v,[])):eO P f [.inr a,.inr b,.inr c] fr=.ok v fr:=jI (vs:=[a,b,c]) h
end
end Pv
namespace Pv
open Ev (D bF bu TY BI ME T E Es Eo It S Ss Fn big deep b2i rep bY dj bK aO cut cj dQ slots)
section
variable{fr:Fr}{i j:Nat}{k:Bool}{s:Sl}{v u:V}{l:List V}{o:Option Sl}
noncomputable def CJ(k:Bool):Option (Option Sl)->Option V
 |some (some (.val v))=>some v
 |some (some (.own l))=>if k then some (.lst l)else none
 |some (some (.bor l))=>if k then some (.lst l)else none
 |some (some (.ro l))=>if k then some (.lst l)else none
 |_=>none
@[simp] theorem JP:nM k fr i=CJ k fr[i]?:=by unfold nM CJ;split<;>simp_all
@[simp] theorem Vz:CJ k (some (some (.val v)))=some v:=nd rfl
@[simp] theorem VA:CJ k (some (some (.own l)))=if k then some (.lst l)else none:=nd rfl
@[simp] theorem Qw{r:R V}:src k fr (.v i) r=R.of (AE k fr i) fr:=nd rfl
noncomputable def NX:Option (Option Sl)->Option Sl
 |some (some s)=>s.lend
 |_=>none
@[simp] theorem JQ:lent fr i=NX fr[i]?:=by unfold lent NX;split<;>simp_all
@[simp] theorem VB:NX (some (some (.own l)))=some (.bor l):=nd rfl
noncomputable def zk(fr:Fr)(i:Nat)(s:Sl):Option (Option Sl)->Option Fr
 |some (some (.bor _))=>none
 |some (some (.ro _))=>none
 |_=>some (fr.set i (some s))
@[simp] theorem CK:put fr i s=zk fr i s fr[i]?:=by unfold put zk;split<;>simp_all
@[simp] theorem VC:zk fr i s (some (some (.val v)))=some (fr.set i (some s)):=nd rfl
@[simp] theorem VD:zk fr i s (some (some (.own l)))=some (fr.set i (some s)):=nd rfl
@[simp] theorem AL{l:List Nat}{x:List V}:bD (.many l) (.tup x) fr=cK l x fr:=nd rfl
@[simp] theorem AM:cK [] [] fr=some fr:=nd rfl
@[simp] theorem xJ{l:List Nat}{x:List V}:cK (i :: l) (v :: x) fr=(put fr i (.val v)).bind (cK l x):=nd rfl
@[simp] theorem UE:Sl.dH (.val v)=.val v:=nd rfl
@[simp] theorem UG:Sl.dH (.own l)=.val (.lst l):=nd rfl
noncomputable def ig(m:ME)(i:Nat)(ds:List V)(fr:Fr):Option (Option Sl)->R V
 |some (some (.own l))=>match kj m l ds with
  |some (v,l')=>.ok v (fr.set i (some (.own l')))
  |none=>.bad
 |some (some (.bor l))=>match kj m l ds with
  |some (v,l')=>.ok v (fr.set i (some (.bor l')))
  |none=>.bad
 |_=>.bad
@[simp] theorem JR{m:ME}{ds:List V}:EO m i ds fr=ig m i ds fr fr[i]?:=by unfold EO ig;split<;>simp_all<;>rfl
theorem zl{d:V}(h:l.length<100000):ig .append i [d] fr (some (some (.own l)))=.ok .aL (fr.set i (some (.own (l++[d])))):=by
 simp[ig,kj,Nat.lt_of_lt_of_le h (show 100000<=big by decide)]
theorem EU{d:V}{k:Nat}(h:k<l.length):ig .nA i [d,.int (k:Int)] fr (some (some (.own l)))=.ok .aL (fr.set i (some (.own (l.set k d)))):=by
 have:Ev.dj l.length (k:Int)=some k:=by unfold Ev.dj;rw[if_pos (by omega),if_pos (by omega)];simp
 simp[ig,kj,this]
theorem JU{d:V}(h:l.length<100000):ig .append i [d] fr (some (some (.bor l)))=.ok .aL (fr.set i (some (.bor (l++[d])))):=by
 simp[ig,kj,Nat.lt_of_lt_of_le h (show 100000<=big by decide)]
theorem zm{d:List V}(h:l.length+d.length<=100000):ig .extend i [.lst d] fr (some (some (.own l)))=.ok .aL (fr.set i (some (.own (l++d)))):=by
 simp[ig,kj,bQ h]
theorem oY:ig .pop i [] fr (some (some (.own (l++[v]))))=.ok v (fr.set i (some (.own l))):=by
 simp[ig,kj]
theorem JV:ig .pop i [] fr (some (some (.bor (l++[v]))))=.ok v (fr.set i (some (.bor l))):=by
 simp[ig,kj]
end
noncomputable def vo(o:Option Sl):Prop:=o=none\/∃y,o=some (.val y)
theorem vo.none:vo none:=.inl rfl
theorem vo.val{v:V}:vo (some (.val v)):=.inr ⟨v,rfl⟩
theorem NY{fr:Fr}{i:Nat}{s:Sl}{b:Option Sl}(h:vo b):zk fr i s (some b)=some (fr.set i (some s)):=by rcases h with rfl|⟨y,rfl⟩<;>rfl
theorem cU{b:Option Sl}(h:vo b):b.map Sl.dH=b:=by rcases h with rfl|⟨y,rfl⟩<;>rfl
noncomputable def Qx(f:V->Fr->R Fl)(ds:List V):Fl->Fr->R Fl:=λp af=>match p with
 |.nx=>forL f ds af
 |.ct=>forL f ds af
 |.bk=>.ok .nx af
 |.ret x=>.ok (.ret x) af
section
variable{f:V->Fr->R Fl}{ds:List V}{d x:V}{fr:Fr}
@[simp] theorem uf:forL f (d :: ds) fr=(f d fr).bind (Qx f ds):=nd rfl
end
section
variable{a b c:E}{es:Es}{lo hi:Eo}{it:It}{l:List Nat}
end
theorem wA{α:Type}{l:List α}{i:Int}(h0:0<=i):bK l i=l[i.toNat]?:=by
 unfold bK dj;rw[if_pos h0];split
 .rfl
 .rw[List.getElem?_eq_none (by omega)];rfl
@[simp] theorem sG{α:Type}{l:List α}{n:Nat}:bK l (n:Int)=l[n]?:=by rw[wA (by omega)];simp
theorem NZ{α:Type}{l:List α}:bK l (-1:Int)=l.getLast?:=by
 unfold bK dj;cases l with
 |nil=>rfl
 |cons a l=>
  have h1:¬ (0:Int)<=-1:=by omega
  have h2:-(((a :: l).length:Nat):Int)<=-1:=by simp;omega
  rw[if_neg h1,if_pos h2,List.getLast?_eq_getElem?];simp only[Option.bind]
  congr 1
  simp;omega
noncomputable def uS:Fn:=⟨2,2,(.cons (.iff (.cmp .eq (.v 0) (.lst .nil)) (.cons (.ret (.bin .mul (.c (.int 7)) (.v 1))) .nil) .nil) (.cons (.ret (.bin .add (.ix (.v 0) (.bin .mod (.v 1) (.bi .len (.cons (.v 0) .nil)))) (.bin .mul (.c (.int 6553)) (.bin .fdiv (.v 1) (.bi .len (.cons (.v 0) .nil)))))) .nil))⟩
noncomputable def wC(c:Nat):Fn:=⟨3,4,(.cons (.set 3 (.bin .mod (.bin .add (.bin .mul (.bin .mod (.cl c (.cons (.v 0) (.cons (.v 1) .nil))) (.c (.int 2147483563))) (.c (.int 69069))) (.bin .mul (.c (.int 104723)) (.bin .add (.v 1) (.c (.int 1))))) (.c (.int 2147483563)))) (.cons (.set 3 (.bin .mod (.bin .add (.bin .mul (.v 3) (.v 3)) (.bin .fdiv (.v 3) (.c (.int 3)))) (.c (.int 2147483399)))) (.cons (.ret (.bin .mod (.bin .fdiv (.bin .mod (.bin .add (.bin .mul (.v 3) (.v 3)) (.bin .fdiv (.v 3) (.c (.int 7)))) (.c (.int 2147483647))) (.c (.int 11))) (.v 2))) .nil)))⟩
noncomputable def uT(ns:List Int)(k:Int):Int:=if ns=[]then 7*k else (ns[(k % ns.length).toNat]?.getD 0)+6553*(k / ns.length)
noncomputable def cP(ns:List Int)(k many:Int):Int:=
 let c:=(uT ns k % 2147483563*69069+104723*(k+1)) % 2147483563
 let c:=(c*c+c / 3) % 2147483399
 (c*c+c / 7) % 2147483647 / 11 % many
theorem kE(ns:List Int)(k:Int){many:Int}(h:0<many):0<=cP ns k many:=Int.emod_nonneg _ (by omega)
theorem kF(ns:List Int)(k:Int){many:Int}(h:0<many):cP ns k many<many:=Int.emod_lt_of_pos _ h
noncomputable def jq(ns:List Int):V:=.bP (ns.map V.int)
theorem JX(ns:List Int):cz (cS (18+1)) (ns.map V.int) []=some (decide (ns=[])):=by cases ns<;>simp
end Pv
namespace Pv
open Ev (D bF bu TY BI ME T E Es Eo It S Ss Fn big deep b2i rep bY dj bK aO cut cj dQ slots)
section
variable{P:aI}{w:Nat}{fr af ao bE jR:Fr}{k b:Bool}{a e c:E}{es:Es}{ss sa sb:Ss}{st:S}{lo hi:Eo}{it:It}{v x y z:V}{vs:List V}{i:Nat}{l:List V}{Q:Fl->Fr->Prop}
theorem bL{d:D}(h:ofD d=some v):ev P k (.c d) fr=.ok v fr:=by rw[UB,h];rfl
theorem az(h:nM k fr i=some v):ev P k (.v i) fr=.ok v fr:=by rw[UC,h];rfl
theorem gD(h:bS P false es fr=.ok vs af)(h2:ki vs=some v):ev P k (.tup es) fr=.ok v af:=by rw[Nz,h,ak,h2];rfl
theorem mJ(h:bS P false es fr=.ok vs af)(h2:eL vs=some v):ev P k (.lst es) fr=.ok v af:=by rw[NB,h,ak,h2];rfl
theorem bR{o:bF}(h:ev P (kf a (bO e)) a fr=.ok x af)(h2:ev P true e af=.ok y ao)(h3:bU o x y=some v):ev P k (.bin o a e) fr=.ok v ao:=by rw[NC,h,ak,h2,ak,h3];rfl
theorem cy{o:bu}(h:ev P (kf a (bO e)) a fr=.ok x af)(h2:ev P true e af=.ok y ao)(h3:cop o x y=some b):ev P k (.cmp o a e) fr=.ok (.bl b) ao:=by rw[ND,h,ak,h2,ak,h3];rfl
theorem UH(h:ev P true a fr=.ok (.bl b) af):ev P k (.nt a) fr=.ok (.bl (!b)) af:=by rw[Qo,h];rfl
theorem Qy{j:Int}(h:ev P true a fr=.ok (.int j) af):ev P k (.neg a) fr=.ok (.int (-j)) af:=by rw[NF,h];rfl
theorem Hi(h:ev P true a fr=.ok (.bl true) af)(h2:ev P k e af=.ok v ao):ev P k (.an a e) fr=.ok v ao:=by rw[Qp,h,ak,NG];exact h2
theorem rE(h:aE P a fr=.ok b af)(h2:b=true->ev P k e af=.ok v ao)(h3:b=false->ev P k c af=.ok v ao):ev P k (.iL a e c) fr=.ok v ao:=by
 rw[NH,h,ak];cases b with
 |true=>exact h2 rfl
 |false=>exact h3 rfl
theorem gZ(h:ev P (kf a (bO e)) a fr=.ok x af)(h2:ev P true e af=.ok y ao)(h3:fP x y=some v):ev P k (.ix a e) fr=.ok v ao:=by rw[Qq,h,ak,h2,ak,h3];rfl
theorem wD{p q:Option Int}(h:ev P (kf a (lI lo++lI hi)) a fr=.ok x af)(h2:gw P lo af=.ok p ao)(h3:gw P hi ao=.ok q bE)(h4:gg x p q=some v):ev P k (.sl a lo hi) fr=.ok v bE:=by rw[Qs,h,ak,h2,ak,h3,ak,h4];rfl
theorem cB{f:Nat}{as:List (Nat ⊕ V)}(h:eF P es fr=.ok as af)(h2:eO P f as af=.ok v ao):ev P k (.cl f es) fr=.ok v ao:=by rw[Qt,h,ak];exact h2
theorem gF{g:BI}(h:bS P true es fr=.ok vs af)(h2:dS g vs=some v):ev P k (.bi g es) fr=.ok v af:=by rw[Qu,h,ak,h2];rfl
theorem Hj{m:ME}(hm:jd m=true)(hl:(lent fr i).isSome=true)(h:bS P (yP m) es fr=.ok vs af)(h2:ig m i vs af af[i]?=.ok v ao):ev P k (.me m (.v i) es) fr=.ok v ao:=by
 rw[NI hm,if_pos hl,h,ak,JR];exact h2
theorem Hl{m:ME}(hm:jd m=false)(h:ev P (kf a (gr es)) a fr=.ok x af)(h2:bS P true es af=.ok vs ao)(h3:fG m x vs=some v):ev P k (.me m a es) fr=.ok v ao:=by rw[NJ hm,h,ak,h2,ak,h3];rfl
theorem rF{ts:List TY}(h:ev P true a fr=.ok x af)(h2:ts.any (dm x)=b):ev P k (.fK a ts) fr=.ok (.bl b) af:=by rw[NK,h,ak,h2]
theorem nX{t:T}{cond:Eo}(h:b8 P true it fr=.ok vs af)(hu:undef t af=true)(h2:cH (jD P a t cond af) vs=some l)(h3:eL l=some v):ev P k (.comp a t it cond) fr=.ok v af:=by
 rw[sN,h,ak,if_pos hu,h2];show R.of (eL l) af=_;rw[h3];rfl
theorem jg(h:b8 P true it fr=.ok vs af)(h2:eL vs=some v):ev P k (.eH it) fr=.ok v af:=by rw[NL,h,ak,h2];rfl
theorem N1{kvs:List (D×D)}(h:ev P true a fr=.ok x af)(h2:iX x kvs=some v):ev P k (.jN kvs a) fr=.ok v af:=by rw[Jy,h,ak,h2];rfl
theorem uU(h:ev P true a fr=.ok x af)(h2:toT x=some v):ev P k (.jm a) fr=.ok v af:=by rw[NN,h,ak,h2];rfl
theorem aZ:bS P k .nil fr=.ok [] fr:=Jz
theorem aJ(h:ev P (k&&kf a (gr es)) a fr=.ok v af)(h2:bS P k es af=.ok vs ao):bS P k (.cons a es) fr=.ok (v :: vs) ao:=by rw[ER,h,ak,h2];rfl
theorem br:eF P .nil fr=.ok [] fr:=JB
theorem aT{as:List (Nat ⊕ V)}(hi:gz fr a=none)(h:ev P false a fr=.ok v af)(h2:eF P es af=.ok as ao):eF P (.cons a es) fr=.ok (.inr v :: as) ao:=by rw[wu,hi,AK,h,ak,h2];rfl
theorem UI{as:List (Nat ⊕ V)}(hi:gz fr a=some i)(h2:eF P es fr=.ok as ao):eF P (.cons a es) fr=.ok (.inl i :: as) ao:=by rw[wu,hi,AJ,h2];rfl
theorem rG:gw P .no fr=.ok none fr:=NO
theorem nY{j:Int}(h:ev P true a fr=.ok (.int j) af):gw P (.yes a) fr=.ok (some j) af:=by rw[JD,h];rfl
theorem Qz{b2:Bool}(h:aE P a fr=.ok b af)(h2:b=true->aE P e af=.ok b2 ao)(h3:b=false->false=b2/\af=ao):aE P (.an a e) fr=.ok b2 ao:=by
 rw[wz,h,ak];cases b with
 |true=>exact h2 rfl
 |false=>obtain⟨rfl,rfl⟩:=h3 rfl;rfl
theorem wF(h:aE P a fr=.ok false af):aE P (.an a e) fr=.ok false af:=by rw[wz,h];rfl
theorem fq{b2:Bool}(h:aE P a fr=.ok true af)(h2:aE P e af=.ok b2 ao):aE P (.an a e) fr=.ok b2 ao:=by rw[wz,h];exact h2
theorem rH(h:aE P a fr=.ok true af):aE P (.orr a e) fr=.ok true af:=by rw[zh,h];rfl
theorem ir{b2:Bool}(h:aE P a fr=.ok false af)(h2:aE P e af=.ok b2 ao):aE P (.orr a e) fr=.ok b2 ao:=by rw[zh,h];exact h2
theorem Ho(h:aE P a fr=.ok b af):aE P (.nt a) fr=.ok (!b) af:=by rw[NQ,h];rfl
noncomputable def plainT:E->Bool
 |.an _ _=>false
 |.orr _ _=>false
 |.nt _=>false
 |_=>true
theorem aG(hp:plainT a=true)(h:ev P true a fr=.ok x af)(h2:truthy x=b):aE P a fr=.ok b af:=by
 have:aE P a fr=(ev P true a fr).bind NR:=by
  cases a<;>first | (cases hp;done) | (rw[aE];rfl;all_goals (intros;contradiction))
 rw[this,h,ak,JH,h2]
theorem gk(h:src k fr a (ev P k a fr)=.ok x af)(h2:fV x=some vs):b8 P k (.seq a) fr=.ok vs af:=by rw[JJ,h,ak,h2];rfl
theorem dX(h:AE k fr i=some v){r:R V}:src k fr (.v i) r=.ok v fr:=by rw[Qw,h];rfl
theorem wG(h:bS P true es fr=.ok vs af)(h2:er vs=some l):b8 P k (.gS es) fr=.ok l af:=by rw[JK,h,ak,h2];rfl
theorem lZ(h:ev P true a fr=.ok x af)(h2:AD x=some vs):b8 P k (.rev a) fr=.ok vs.reverse af:=by rw[JL,h,ak,h2];rfl
theorem aY(h:ev P false a fr=.ok v af)(hn:isNew a=false)(hp:put af i (.val v)=some ao)(q:Q .nx ao):Wp (ex P w (.set i a) fr) Q:=by
 rw[CH,h,ak,hn,hp];exact⟨_,_,rfl,q⟩
theorem fy(h:ev P false a fr=.ok (.lst l) af)(hn:isNew a=true)(hp:put af i (.own l)=some ao)(q:Q .nx ao):Wp (ex P w (.set i a) fr) Q:=by
 rw[CH,h,ak,hn,if_pos rfl,ES,hp];exact⟨_,_,rfl,q⟩
theorem CL{is:List Nat}(h:ev P false a fr=.ok v af)(hp:bD (.many is) v af=some ao)(q:Q .nx ao):Wp (ex P w (.iW is a) fr) Q:=by
 rw[JM,h,ak,hp];exact⟨_,_,rfl,q⟩
theorem iC(h:ev P true a fr=.ok v af)(q:Q .nx af):Wp (ex P w (.exp a) fr) Q:=by rw[NT,h];exact⟨_,_,rfl,q⟩
theorem bZ(h:ev P false a (fH fr)=.ok v af)(q:Q (.ret v) af):Wp (ex P w (.ret a) fr) Q:=by rw[NU,h];exact⟨_,_,rfl,q⟩
theorem aN(h:aE P a fr=.ok b af)(h2:b=true->Wp (exs P w sa af) Q)(h3:b=false->Wp (exs P w sb af) Q):Wp (ex P w (.iff a sa sb) fr) Q:=by
 rw[NV,h,ak];cases b with
 |true=>exact h2 rfl
 |false=>exact h3 rfl
theorem ay(q:Q .nx fr):Wp (exs P w .nil fr) Q:=by rw[JN];exact⟨_,_,rfl,q⟩
noncomputable def nx(P:aI)(w:Nat)(ss:Ss)(Q:Fl->Fr->Prop):Fl->Fr->Prop
 |.nx,fr=>Wp (exs P w ss fr) Q
 |g,fr=>Q g fr
theorem ai(q:Wp (ex P w st fr) (nx P w ss Q)):Wp (exs P w (.cons st ss) fr) Q:=by
 rw[ET,wp_bind];refine q.mono λg af z=>?_;cases g with
 |nx=>exact z
 |bk=>exact⟨_,_,rfl,z⟩
 |ct=>exact⟨_,_,rfl,z⟩
 |ret v=>exact⟨_,_,rfl,z⟩
theorem kT{t:T}(h:b8 P false it (qS (itv it) fr)=.ok vs af)(q:Wp (forL (turnF P w t ss) vs af) Q):Wp (ex P w (.for t it ss) fr) Q:=by rw[vC,h,ak];exact q
theorem Hq(q:Wp (dG (λao=>aE P a ao) (λao=>exs P w ss ao) w fr) Q):Wp (ex P w (.jH a ss) fr) Q:=by rw[NW];exact q
theorem fz{t:T}{d:V}(hb:bD t d fr=some af)(q:Wp (exs P w ss af) Q):Wp (turnF P w t ss d fr) Q:=by unfold turnF;rw[hb];exact q
theorem rJ{t:T}{d:V}(hb:bD t d (pO fr)=some af)(h:ev P false a af=.ok v ao):jD P a t .no fr d=some (some v):=by
 unfold jD;rw[hb];dsimp only;rw[NP];dsimp only;rw[h];rfl
theorem zo{t:T}{d:V}(hb:bD t d (pO fr)=some af)(h:aE P c af=.ok b ao)(h2:b=true->ev P false a af=.ok v bE):jD P a t (.yes c) fr d=some (if b then some v else none):=by
 unfold jD;rw[hb];dsimp only;rw[JF,h];dsimp only;cases b with
 |true=>rw[h2 rfl];rfl
 |false=>rfl
theorem qs{p q:List Nat}:cop .eq (.str p) (.str q)=some (decide (p=q)):=ze
theorem jh{p q:List Nat}:cop .ne (.str p) (.str q)=some (!decide (p=q)):=by rw[wm,ze];rfl
theorem N2{p q:Int}:cop .eq (.int p) (.int q)=some (decide (p=q)):=zd
theorem mK{p q:Int}:cop .ne (.int p) (.int q)=some (!decide (p=q)):=by rw[wm,zd];rfl
theorem UJ{p q:Int}:cop .lt (.int p) (.int q)=some (decide (p<q)):=rfl
theorem UK{p q:Int}:cop .gt (.int p) (.int q)=some (decide (q<p)):=rfl
theorem oZ{p q:Int}(h:bY p q=true):bU .mul (.int p) (.int q)=some (.int (p*q)):=by rw[qq,if_pos h]
theorem o4{p q:Int}(h:0<q):bU .mod (.int p) (.int q)=some (.int (p % q)):=by rw[Js,if_pos h]
theorem uV{p q:Int}(h:0<q)(h2:q<1073741824):bU .fdiv (.int p) (.int q)=some (.int (p / q)):=by rw[EN,if_pos ⟨h,h2⟩]
end
theorem gG{fr:Fr}{i:Nat}{s:Sl}{o:Option Sl}(e:fr[i]?=some o)(h:vo o):put fr i s=some (fr.set i (some s)):=by rw[CK,e,NY h]
theorem gR{fr:Fr}{i j:Nat}{u v:V}{a b:Option Sl}(ea:fr[i]?=some a)(ha:vo a)(eb:(fr.set i (some (.val u)))[j]?=some b)(hb:vo b):bD (.many [i,j]) (.tup [u,v]) fr=some ((fr.set i (some (.val u))).set j (some (.val v))):=by
 simp only[AL,xJ,AM,gG ea ha,Option.bind,gG eb hb]
theorem bind1{fr:Fr}{i:Nat}{v:V}{a:Option Sl}(ea:fr[i]?=some a)(ha:vo a):bD (.one i) v fr=some (fr.set i (some (.val v))):=gG ea ha
end Pv
namespace Pv
open Ev (D O Hh bF bu TY BI ME T E Es Eo It S Ss Fn)
section
variable{P:aI}{X:cL}{w:Nat}(hX:∀f sl c,X f sl=some c->P f sl=none)
include hX
mutual
theorem eK:∀(e:E) {fr:Fr}{c:Nat},xe P X e fr=some c->(∀k,ev P k e fr=.bad)/\aE P e fr=.bad
 |.cl f es,fr,c,z=>by
  simp only[xe]at z;have q:∀k,ev P k (.cl f es) fr=.bad:=λk=>by
   rw[ev];cases y:eF P es fr with
   |ok as af=>
    rw[y]at z;simp only at z;simp only[ak];unfold oV at z;unfold eO;split at z
    case isFalse=>cases z
    rename_i nd;rw[if_pos nd];rw[Option.bind_eq_some_iff]at z;obtain⟨sl,z1,z2⟩:=z;rw[z1];simp only;rw[hX _ _ _ z2]
   |bad=>rfl
  exact⟨q,by rw[aE,q];rfl;all_goals (intros;contradiction)⟩
 |.ix a b,fr,c,z=>by
  simp only[xe]at z;have q:∀k,ev P k (.ix a b) fr=.bad:=λk=>by rw[ev,(eK a z).1];rfl
  exact⟨q,by rw[aE,q];rfl;all_goals (intros;contradiction)⟩
 |.me m o es,fr,c,z=>by
  simp only[xe]at z;split at z
  case isFalse=>cases z
  rename_i hm;split at z
  case h_2=>cases z
  rename_i i hi;have q:∀k,ev P k (.me m o es) fr=.bad:=λk=>by
   rw[ev,if_pos hm,hi];simp only;rw[zp es z];rfl
  exact⟨q,by rw[aE,q];rfl;all_goals (intros;contradiction)⟩
 |.c _,_,_,z=>nomatch z|.v _,_,_,z=>nomatch z|.tup _,_,_,z=>nomatch z|.lst _,_,_,z=>nomatch z
 |.bin _ _ _,_,_,z=>nomatch z|.cmp _ _ _,_,_,z=>nomatch z
 |.nt _,_,_,z=>nomatch z|.neg _,_,_,z=>nomatch z|.an _ _,_,_,z=>nomatch z|.orr _ _,_,_,z=>nomatch z|.iL _ _ _,_,_,z=>nomatch z
 |.sl _ _ _,_,_,z=>nomatch z
 |.bi _ _,_,_,z=>nomatch z
 |.fK _ _,_,_,z=>nomatch z
 |.comp _ _ _ _,_,_,z=>nomatch z|.eH _,_,_,z=>nomatch z
 |.jN _ _,_,_,z=>nomatch z|.jm _,_,_,z=>nomatch z
theorem zq:∀(es:Es) {fr:Fr}{c:Nat},vX P X es fr=some c->eF P es fr=.bad
 |.nil,_,_,z=>nomatch z
 |.cons e es,fr,c,z=>by
  simp only[vX]at z;rw[eF];split at z
  .rw[zq es z];rfl
  .split at z
   .rename_i y2;rw[y2];simp only[ak];rw[zq es z];rfl
   .rw[(eK e z).1];rfl
theorem zp:∀(es:Es) {k:Bool}{fr:Fr}{c:Nat},vY P X k es fr=some c->bS P k es fr=.bad
 |.nil,_,_,_,z=>nomatch z
 |.cons e es,k,fr,c,z=>by
  simp only[vY]at z;rw[bS];split at z
  .rename_i y2;rw[y2];simp only[ak];rw[zp es z];rfl
  .rw[(eK e z).1];rfl
end
omit hX in
theorem iE{f:V->Fr->R Fl}{g:V->Fr->Option Nat}(hg:∀d fr c,g d fr=some c->f d fr=.bad):∀(vs:List V) {fr:Fr}{c:Nat},fW f g vs fr=some c->forL f vs fr=.bad
 |[],_,_,z=>nomatch z
 |d :: ds,fr,c,z=>by
  simp only[fW]at z;simp only[forL];split at z
  .rename_i e;rw[e];exact iE hg ds z
  .rename_i e;rw[e];exact iE hg ds z
  .cases z
  .rw[hg _ _ _ z];rfl
omit hX in
theorem iF{t:Fr->R Bool}{f:Fr->R Fl}{g:Fr->Option Nat}(hg:∀fr c,g fr=some c->f fr=.bad):∀(n:Nat) {fr:Fr}{c:Nat},eW t f g n fr=some c->dG t f n fr=.bad
 |0,_,_,z=>nomatch z
 |n+1,fr,c,z=>by
  simp only[eW]at z;split at z
  case h_2=>cases z
  rename_i e0;simp only[dG,e0,ak,if_true];split at z
  .rename_i e;rw[e];exact iF hg n z
  .rename_i e;rw[e];exact iF hg n z
  .cases z
  .rw[hg _ _ z];rfl
mutual
theorem nF:∀(s:S) {fr:Fr}{c:Nat},xs P X w s fr=some c->ex P w s fr=.bad
 |.fk c,_,_,_=>by rw[ex]
 |.set i e,fr,c,z=>by rw[ex,(eK hX e z).1];rfl
 |.exp e,fr,c,z=>by rw[ex,(eK hX e z).1];rfl
 |.ret e,fr,c,z=>by rw[ex,(eK hX e z).1];rfl
 |.iff t a b,fr,c,z=>by
  simp only[xs]at z;rw[ex];cases y:aE P t fr with
  |bad=>rfl
  |ok k h1=>
   rw[y]at z;simp only at z;simp only[ak];cases k with
   |true=>exact dh a z
   |false=>exact dh b z
 |.for t it b,fr,c,z=>by
  simp only[xs]at z;rw[ex];split at z
  case h_2=>cases z
  rename_i y;rw[y];simp only[ak];refine iE (λd fr c q=>?_) _ z;cases k:bD t d fr with
  |none=>rfl
  |some bE=>rw[k]at q;exact dh b q
 |.jH t b,fr,c,z=>by
  simp only[xs]at z;rw[ex];exact iF (λfr c q=>dh b q) _ z
 |.iW _ _,_,_,z=>nomatch z
 |.tr _ _ _,_,_,z=>nomatch z
theorem dh:∀(s:Ss) {fr:Fr}{c:Nat},xss P X w s fr=some c->exs P w s fr=.bad
 |.nil,_,_,z=>nomatch z
 |.cons s ss,fr,c,z=>by
  simp only[xss]at z;rw[exs];split at z
  .rename_i e;rw[e];exact dh ss z
  .cases z
  .rw[nF s z];rfl
end
end
theorem QA{P:aI}{X:cL}{w:Nat}{fn:Fn}{ds:List Sl}{fr:Fr}{c:Nat}(z:xss P X w fn.body fr=some c):Cm fn ds=none:=by
 unfold Cm;rfl
theorem fR(F:List Fn)(w:Nat):∀(n f:Nat) (sl:List Sl) (c:Nat),cD F w n f sl=some c->run F w n f sl=none
 |0,_,_,_,_=>rfl
 |n+1,f,ds,c,z=>by
  rw[iZ]at z;rw[gy];cases y:F[f]? with
  |none=>rw[y]at z;cases z
  |some fn=>
   rw[y]at z;simp only at z ⊢;split at z
   .rename_i k;rw[if_pos k,dh (fR F w n) _ z];exact QA z
   .cases z
section
variable{F:List Fn}{P:aI}{X:cL}{w n f c:Nat}{fr af ao:Fr}{s:S}{ss sa sb:Ss}{e t:E}{b:Bool}{es:Es}{v:V}
theorem jJ(hX:∀f sl c,X f sl=some c->P f sl=none)(h:xs P X w s fr=some c):xss P X w (.cons s ss) fr=some c:=by
 simp only[xss,nF hX s h];exact h
theorem kG(h:Wp (ex P w s fr) λg af=>g=.nx/\xss P X w ss af=some c):xss P X w (.cons s ss) fr=some c:=by
 obtain⟨g,af,e,rfl,q⟩:=h;simp only[xss,e];exact q
theorem uW(h:aE P t fr=.ok b af)(h2:(if b then xss P X w sa af else xss P X w sb af)=some c):xs P X w (.iff t sa sb) fr=some c:=by
 simp only[xs,h];exact h2
theorem Hr:xs P X w (.fk c) fr=some c:=rfl
theorem QB(h:xe P X e fr=some c):xs P X w (.exp e) fr=some c:=h
theorem UL{as:List (Nat ⊕ V)}(h:eF P es fr=.ok as af)(h2:oV X f as af=some c):xe P X (.cl f es) fr=some c:=by simp only[xe,h];exact h2
theorem AN{fn:Fn}{ds:List Sl}(hf:F[f]?=some fn)(hl:ds.length=fn.np)(h:xss (run F w n) (cD F w n) w fn.body (dz fn ds)=some c):cD F w (n+1) f ds=some c:=by
 rw[iZ,hf];simp only;rw[if_pos hl];exact h
theorem j3:∀vs:List V,bM (vs.map .inr)=[]/\args fr (vs.map .inr)=some (vs.map Sl.val)
 |[]=>⟨rfl,rfl⟩
 |v :: vs=>⟨(j3 vs).1,by rw[List.map_cons,args,(j3 vs).2];rfl⟩
theorem CM{vs:List V}(h:X f (vs.map .val)=some c):oV X f (vs.map .inr) fr=some c:=by
 have h1:=j3 (fr:=fr);unfold oV;rw[(h1 vs).1,(h1 vs).2];exact h
theorem AO{vs:List V}(h:P f (vs.map .val)=none):eO P f (vs.map .inr) fr=.bad:=by
 have h1:=j3 (fr:=fr);unfold eO;rw[(h1 vs).1,(h1 vs).2];simp only[h];rfl
theorem QC{ds:List Sl}(hF:F.length<=1000)(ha:ds.all Sl.gz=true)(h:cD F w n f ds=some c):run F w n (f+1000) ds=some (.int (c:Int),[]):=by
 cases n with
 |zero=>cases h
 |succ n=>
  rw[gy,List.getElem?_eq_none (by omega)];simp only[mV];rw[if_pos ⟨Nat.le_add_left _ _,ha⟩,show f+1000 - Ev.xo=f from Nat.add_sub_cancel ..];rw[h];rfl
theorem QD{Q:Fl->Fr->Prop}{vs:List V}{kk:Nat}(h:eF P es fr=.ok (vs.map .inr) af)(h2:P f (vs.map .val)=some (v,[]))(q:Q (.ret v) af):Wp (ex P w (.tr f kk es) fr) Q:=by
 have hl:=λvs=>(j3 (fr:=fr) vs).1;have:=jI (P:=P) (f:=f) (fr:=af) h2;simp only[ex,h,ak,hl,this];exact⟨_,_,rfl,q⟩
theorem N3{Q:Fl->Fr->Prop}{vs:List V}{kk:Nat}(h:eF (run F w n) es fr=.ok (vs.map .inr) af)(hF:F.length<=1000)(h2:cD F w n f (vs.map .val)=some c)(hc:c<kk)(q:Q (.ret (.tup [.str [114,101,102,117,115,101,100],.int (c:Int)])) af):Wp (ex (run F w n) w (.tr f kk es) fr) Q:=by
 have hl:=λvs=>(j3 (fr:=fr) vs).1;have ha:(vs.map Sl.val).all Sl.gz=true:=by simp[Sl.gz]
 have h3:=AO (P:=run F w n) (f:=f) (fr:=af) (fR F w n f _ c h2);have h4:=jI (P:=run F w n) (f:=f+1000) (fr:=af) (QC hF ha h2);have h5:AF kk (.int (c:Int))=some (.tup [.str [114,101,102,117,115,101,100],.int (c:Int)]):=by simp only[AF];rw[if_pos (by omega)]
 simp only[ex,h,ak,hl,h3];show Wp ((eO (run F w n) (f+1000) (vs.map .inr) af).bind _) Q;rw[h4,ak,h5];exact⟨_,_,rfl,q⟩
end
end Pv
local macro_rules|`(tactic|array_get_dec)=>`(tactic|first
 |exact Pv.aZ|exact Pv.br|exact Pv.rG
 | (apply Pv.az;rfl) | (apply Pv.bL;rfl)|apply Pv.bR|apply Pv.cy|apply Pv.gD|apply Pv.mJ|apply Pv.gZ|apply Pv.wD|apply Pv.cB|apply Pv.gF
 |apply Pv.UH|apply Pv.Qy|apply Pv.uU|apply Pv.jg  | (apply Pv.Hj rfl rfl) | (apply Pv.Hl rfl)|apply Pv.N1
 |apply Pv.aJ | (apply Pv.aT rfl) | (apply Pv.UI rfl)|apply Pv.nY|apply Pv.Ho|apply Pv.aG rfl
 |exact Pv.Qk|exact Pv.rA|exact Pv.jC|exact Pv.Qm|exact Pv.rq|exact Pv.Hg|exact Pv.Ql
 | (with_reducible assumption)|exact Pv.fD|exact Pv.EK|exact Pv.qs|exact Pv.jh|exact Pv.N2|exact Pv.mK|exact Pv.UJ  | exact Pv.UK
 | (show Pv.truthy _=_;rfl) | (show Pv.fP _ _=some _;rfl) | (show Pv.toT _=some _;rfl) | (show Pv.iX _ _=some _;rfl) | (show Pv.fV _=some _;rfl)|assumption)
namespace Pv
open Ev (D bF bu TY BI ME T E Es Eo It S Ss Fn big deep b2i rep bY dj bK aO cut cj dQ slots)
theorem N4(a b:Int):bY (a % 2147483563) b=true:=by have h1:=Int.emod_nonneg a (b:=2147483563) (by decide);have h2:=Int.emod_lt_of_pos a (b:=2147483563) (by decide);simp[bY];omega
theorem UM(a b:Int):bY (a % 2147483399) b=true:=by have h1:=Int.emod_nonneg a (b:=2147483399) (by decide);have h2:=Int.emod_lt_of_pos a (b:=2147483399) (by decide);simp[bY];omega
theorem N5{l:List V}{j:Int}{v:V}(h:bK l j=some v):fP (.bP l) (.int j)=some v:=h
theorem N6{l m:List V}:cop .eq (.bP l) (.lst m)=cz (cS (18+1)) l m:=rfl
theorem EV{F:List Fn}{w n c:Nat}(hc:F[c]?=some uS){ns:List Int}(hn:ns.length<=63)(k:Int):run F w (n+1) c [.val (jq ns),.val (.int k)]=some (.int (uT ns k),[]):=by
 refine cO hc rfl (ai (aN (b:=decide (ns=[])) (aG rfl (cy (az rfl) (mJ aZ rq) (N6.trans (JX ns))) rfl) (λh=>?_) λh=>ay ?_))
 .have h0:=of_decide_eq_true h;exact ai (bZ (bR (bL rfl) (az rfl) (oZ rfl)) ⟨by rw[uT,if_pos h0],rfl⟩)
 .have h0:=of_decide_eq_false h;have hlen:0<ns.length:=List.length_pos_iff.mpr h0;have Sx:(0:Int)<(ns.map V.int).length:=by rw[List.length_map];exact Int.natCast_pos.mpr hlen
  have h30:((ns.map V.int).length:Int)<1073741824:=by rw[List.length_map];omega
  have hm0:=Int.emod_nonneg k (b:=(ns.length:Int)) (by omega);have hlt:(k % (ns.length:Int)).toNat<ns.length:=by have:=Int.emod_lt_of_pos k (b:=(ns.length:Int)) (by omega);omega
  have hx:bK (ns.map V.int) (k % ((ns.map V.int).length:Int))=some (.int (ns[(k % (ns.length:Int)).toNat]?.getD 0)):=by
   rw[List.length_map,wA hm0,List.getElem?_map,List.getElem?_eq_getElem hlt];rfl
  refine ai (bZ (bR (gZ (az rfl) (bR (az rfl) (gF (aJ (az rfl) aZ) zg) (o4 Sx)) (N5 hx)) (bR (bL rfl) (bR (az rfl) (gF (aJ (az rfl) aZ) zg) (uV Sx h30)) (oZ rfl)) fD) ⟨?_,rfl⟩);rw[uT,if_neg h0,List.length_map]
theorem gH{F:List Fn}{w n c dr:Nat}(hc:F[c]?=some uS)(hd:F[dr]?=some (wC c)){ns:List Int}(hn:ns.length<=63)(k:Int){many:Int}(hm:0<many):run F w (n+2) dr [.val (jq ns),.val (.int k),.val (.int many)]=some (.int (cP ns k many),[]):=by
 refine cO hd rfl (ai (aY (bR (bR (bR (bR (cB (aT rfl (az rfl) (aT rfl (az rfl) br)) (call2 (EV hc hn k))) (bL rfl) (o4 (by decide))) (bL rfl) (oZ (N4 _ _))) (bR (bL rfl) (bR (az rfl) (bL rfl) fD) (oZ rfl)) fD) (bL rfl) (o4 (by decide))) rfl rfl ?_));refine ai (aY (bR (bR (bR (az rfl) (az rfl) (oZ (N4 _ _))) (bR (az rfl) (bL rfl) (uV (by decide) (by decide))) fD) (bL rfl) (o4 (by decide))) rfl rfl ?_);exact ai (bZ (bR (bR (bR (bR (bR (az rfl) (az rfl) (oZ (UM _ _))) (bR (az rfl) (bL rfl) (uV (by decide) (by decide))) fD) (bL rfl) (o4 (by decide))) (bL rfl) (uV (by decide) (by decide))) (az rfl) (o4 hm)) ⟨rfl,rfl⟩)
noncomputable def fText(dr:Nat):Fn:=⟨3,4,(.cons (.ret (.me .join (.c (.str [])) (.cons (.comp (.ix (.c (.str [97,98,99,32])) (.cl dr (.cons (.v 0) (.cons (.bin .add (.bin .add (.v 1) (.c (.int 1))) (.v 3)) (.cons (.c (.int 4)) .nil))))) (.one 3) (.gS (.cons (.cl dr (.cons (.v 0) (.cons (.v 1) (.cons (.bin .add (.v 2) (.c (.int 1))) .nil)))) .nil)) .no) .nil))) .nil)⟩
noncomputable def Hs(dr:Nat):S:=.iff (.cmp .eq (.cl dr (.cons (.v 0) (.cons (.bin .add (.v 1) (.bin .mul (.c (.int 4)) (.v 4))) (.cons (.c (.int 4)) .nil)))) (.c (.int 0))) (.cons (.set 5 (.bin .mul (.ix (.c (.str [97,98,122])) (.cl dr (.cons (.v 0) (.cons (.bin .add (.bin .add (.v 1) (.bin .mul (.c (.int 4)) (.v 4))) (.c (.int 1))) (.cons (.c (.int 3)) .nil))))) (.bin .add (.c (.int 1)) (.cl dr (.cons (.v 0) (.cons (.bin .add (.bin .add (.v 1) (.bin .mul (.c (.int 4)) (.v 4))) (.c (.int 2))) (.cons (.c (.int 2)) .nil))))))) (.cons (.set 3 (.bin .add (.v 3) (.tup (.cons (.tup (.cons (.c (.str [112,117,116])) (.cons (.v 5) .nil))) .nil)))) .nil)) .nil
noncomputable def Ht(dr:Nat):S:=.iff (.cmp .lt (.v 4) (.bi .len (.cons (.v 2) .nil))) (.cons (.set 6 (.cmp .gt (.cl dr (.cons (.v 0) (.cons (.bin .add (.bin .add (.v 1) (.bin .mul (.c (.int 4)) (.v 4))) (.c (.int 3))) (.cons (.c (.int 3)) .nil)))) (.c (.int 0)))) (.cons (.set 3 (.bin .add (.v 3) (.tup (.cons (.iL (.v 6) (.tup (.cons (.c (.str [107,101,101,112])) (.cons (.c (.int 1)) .nil))) (.tup (.cons (.c (.str [100,114,111,112])) (.cons (.ix (.v 2) (.v 4)) .nil)))) .nil)))) .nil)) .nil
noncomputable def JY(dr:Nat):Fn:=⟨3,7,(.cons (.set 3 (.tup .nil)) (.cons (.for (.one 4) (.gS (.cons (.bin .add (.bi .len (.cons (.v 2) .nil)) (.c (.int 1))) .nil)) (.cons (Hs dr) (.cons (Ht dr) .nil))) (.cons (.ret (.v 3)) .nil)))⟩
inductive Pt where
 |keep (n:Nat)|put (s:List Nat)|drop (s:List Nat)
deriving DecidableEq
noncomputable def eT:List Nat:=[107,101,101,112]
noncomputable def lK:List Nat:=[112,117,116]
noncomputable def jW:List Nat:=[100,114,111,112]
noncomputable def Pt.v:Pt->V
 |.keep n=>.tup [.str eT,.int n]
 |.put s=>.tup [.str lK,.str s]
 |.drop s=>.tup [.str jW,.str s]
noncomputable def aB(c:List Pt):V:=.tup (c.map Pt.v)
theorem N7(n:Nat)(a b:Pt):cS (n+2) a.v b.v=some (decide (a=b)):=by
 cases a<;>cases b<;>simp[Pt.v,eT,lK,jW]
 all_goals omega
theorem N8(a b:List Pt):cS deep (aB a) (aB b)=some (decide (a=b)):=by
 simp only[aB,Jt];exact oX (λa b=>N7 17 a b) a b
noncomputable def txt(ns:List Int)(at_ most:Int):List Nat:=(List.range (cP ns at_ (most+1)).toNat).map λ(k:Nat)=>[97,98,99,32].getD (cP ns (at_+1+k) 4).toNat 0
theorem zu(ns:List Int)(at_:Int){most:Int}(h:0<=most):(txt ns at_ most).length<=most.toNat:=by
 unfold txt;have h1:=kF ns at_ (many:=most+1) (by omega);have h2:=kE ns at_ (many:=most+1) (by omega);simp;omega
theorem getD_at{α:Type}{l:List α}{i:Int}(h0:0<=i)(h1:i<l.length)(d:α):bK l i=some (l.getD i.toNat d):=by
 have:i.toNat<l.length:=by omega
 rw[wA h0];simp[List.getD,List.getElem?_eq_getElem this]
theorem pQ{α β:Type}(l:List α)(f:α->β):(l.map λx=>[f x]).flatten=l.map f:=by induction l<;>simp[*]
theorem CN(lo:Int)(n:Nat):range lo n=(List.range n).map λ(i:Nat)=>V.int (lo+i):=rfl
section
variable{F:List Fn}{w n c dr t:Nat}(hc:F[c]?=some uS)(hd:F[dr]?=some (wC c)){ns:List Int}(hn:ns.length<=63)
include hc hd hn
theorem wH(ht:F[t]?=some (fText dr))(k most:Int)(hm:0<=most)(hm2:most<=1000):run F w (n+3) t [.val (jq ns),.val (.int k),.val (.int most)]=some (.str (txt ns k most),[]):=by
 have b0:=kE ns k (many:=most+1) (by omega);have b1:=kF ns k (many:=most+1) (by omega);have d0:=λfr=>iB (fr:=fr) (gH (w:=w) (n:=n) hc hd hn k (many:=most+1) (by omega));have QE:cH (jD (run F w (n+2)) (.ix (.c (.str [97,98,99,32])) (.cl dr (.cons (.v 0) (.cons (.bin .add (.bin .add (.v 1) (.c (.int 1))) (.v 3)) (.cons (.c (.int 4)) .nil))))) (.one 3) .no [some (.val (jq ns)),some (.val (.int k)),some (.val (.int most)),none]) (range 0 (cP ns k (most+1)).toNat)=some (((List.range (cP ns k (most+1)).toNat).map λ(j:Nat)=>[[97,98,99,32].getD (cP ns (k+1+j) 4).toNat 0]).map V.str):=by
  rw[CN,List.map_map];refine nV _ _ _ λj _=>?_;have d1:=λfr=>iB (fr:=fr) (gH (w:=w) (n:=n) hc hd hn (k+1+j) (many:=4) (by decide));have ix:fP (.str [97,98,99,32]) (.int (cP ns (k+1+j) 4))=some (.str [[97,98,99,32].getD (cP ns (k+1+j) 4).toNat 0]):=by
   rw[sZ,getD_at (l:=[97,98,99,32]) (kE ns (k+1+j) (many:=4) (by decide)) (kF ns (k+1+j) (many:=4) (by decide)) 0];rfl
  rw[show(0:Int)+(j:Int)=j from Int.zero_add _];exact rJ rfl (by (repeat (first|array_get_dec|exact d1 _)))
 have hj:=Qn (l:=(List.range (cP ns k (most+1)).toNat).map λ(j:Nat)=>[[97,98,99,32].getD (cP ns (k+1+j) 4).toNat 0]) (by rw[pQ];simp;omega);rw[pQ]at hj;have Xb:eL (((List.range (cP ns k (most+1)).toNat).map λ(j:Nat)=>[[97,98,99,32].getD (cP ns (k+1+j) 4).toNat 0]).map V.str)=some (.lst _):=cT (bQ (by simp;omega));have rg:=Ny b0 (show cP ns k (most+1)<=100000 by omega);refine cO ht rfl (ai (bZ (Hl rfl (bL rfl) (aJ (nX (wG (by (repeat (first|array_get_dec|exact d0 _))) rg) rfl QE Xb) aZ) hj) ⟨rfl,rfl⟩))
end
noncomputable def jX(ns:List Int)(at_:Int)(s:List Nat)(k:Nat):List Pt:=
 (if cP ns (at_+4*k) 4=0 then [.put (rep (1+cP ns (at_+4*k+2) 2).toNat [[97,98,122].getD (cP ns (at_+4*k+1) 3).toNat 0])]else [])++
 (match s[k]? with
 |some c=>[if 0<cP ns (at_+4*k+3) 3 then .keep 1 else .drop [c]]
 |none=>[])
noncomputable def fZ(ns:List Int)(at_:Int)(s:List Nat)(k:Nat):List Pt:=(List.range k).flatMap (jX ns at_ s)
noncomputable def chg(ns:List Int)(at_:Int)(s:List Nat):List Pt:=fZ ns at_ s (s.length+1)
theorem CO(ns:List Int)(at_:Int)(s:List Nat)(k:Nat):(jX ns at_ s k).length<=2:=by
 unfold jX;split<;>split<;>simp
theorem jY(ns:List Int)(at_:Int)(s:List Nat)(k:Nat):fZ ns at_ s (k+1)=fZ ns at_ s k++jX ns at_ s k:=by simp[fZ,List.range_succ]
theorem nZ(ns:List Int)(at_:Int)(s:List Nat):∀k,(fZ ns at_ s k).length<=2*k
 |0=>by simp[fZ]
 |k+1=>by
  have h1:=CO ns at_ s k;have h2:=nZ ns at_ s k;rw[jY,List.length_append];omega
theorem N9(i:Int):bY 4 i=true:=by simp[bY]
theorem AQ{a b:List Pt}(h:a.length+b.length<=100000):bU .add (aB a) (aB b)=some (aB (a++b)):=by
 simp only[aB];rw[EJ (by simpa using h)];simp
theorem UN{j:Int}{n:Nat}(h:n<=100000)(e:j=n):er [.int j]=some (range 0 n):=by
 subst e;rw[Ny (by omega) (by omega)];rfl
theorem JZ{a:List Pt}{s:List Nat}(h:a.length<100000):bU .add (aB a) (.tup [.tup [.str [112,117,116],.str s]])=some (aB (a++[.put s])):=AQ (a:=a) (b:=[.put s]) (by simp;omega)
theorem EW{a:List Pt}{s:List Nat}(h:a.length<100000):bU .add (aB a) (.tup [.tup [.str [100,114,111,112],.str s]])=some (aB (a++[.drop s])):=AQ (a:=a) (b:=[.drop s]) (by simp;omega)
theorem EX{a:List Pt}(h:a.length<100000):bU .add (aB a) (.tup [.tup [.str [107,101,101,112],.int 1]])=some (aB (a++[.keep 1])):=AQ (a:=a) (b:=[.keep 1]) (by simp;omega)
section
variable{F:List Fn}{w n c dr t:Nat}(hc:F[c]?=some uS)(hd:F[dr]?=some (wC c)){ns:List Int}(hn:ns.length<=63)
include hc hd hn
theorem EY(k:Int)(x:V)(fd:List Pt)(j:Nat)(u v:Option Sl)(hu:vo u)(hfd:fd.length<=10000) :
  Wp (ex (run F w (n+2)) w (Hs dr) [some (.val (jq ns)),some (.val (.int k)),some (.val x),some (.val (aB fd)),some (.val (.int j)),u,v]) λg fr=>g=.nx/\∃b,vo b/\fr=[some (.val (jq ns)),some (.val (.int k)),some (.val x),some (.val (aB (fd++if cP ns (k+4*j) 4=0 then [.put (rep (1+cP ns (k+4*j+2) 2).toNat [[97,98,122].getD (cP ns (k+4*j+1) 3).toNat 0])]else []))),some (.val (.int j)),b,v]:=by
 have d1:=λfr=>iB (fr:=fr) (gH (w:=w) (n:=n) hc hd hn (k+4*j) (many:=4) (by decide));have m4:bU .mul (.int 4) (.int j)=some (.int (4*j)):=by rw[qq,N9];rfl
 refine aN (by (repeat (first|array_get_dec|exact d1 _))) (λh=>?_) λh=>?_
 .have h0:=of_decide_eq_true h;have d2:=λfr=>iB (fr:=fr) (gH (w:=w) (n:=n) hc hd hn (k+4*j+1) (many:=3) (by decide));have d3:=λfr=>iB (fr:=fr) (gH (w:=w) (n:=n) hc hd hn (k+4*j+2) (many:=2) (by decide));have c2:=kE ns (k+4*j+2) (many:=2) (by decide);have c3:=kF ns (k+4*j+2) (many:=2) (by decide);have ix:fP (.str [97,98,122]) (.int (cP ns (k+4*j+1) 3))=some (.str [[97,98,122].getD (cP ns (k+4*j+1) 3).toNat 0]):=by
   rw[sZ,getD_at (l:=[97,98,122]) (kE ns (k+4*j+1) (many:=3) (by decide)) (kF ns (k+4*j+1) (many:=3) (by decide)) 0];rfl
  have ml:=EL (j:=1+cP ns (k+4*j+2) 2) (a:=[[97,98,122].getD (cP ns (k+4*j+1) 3).toNat 0]) (by omega) (by omega) (by simp);have ad:=JZ (a:=fd) (s:=rep (1+cP ns (k+4*j+2) 2).toNat [[97,98,122].getD (cP ns (k+4*j+1) 3).toNat 0]) (by omega);refine ai (aY (by (repeat (first|array_get_dec|exact d2 _|exact d3 _))) rfl (gG rfl hu) ?_);refine ai (aY (by repeat array_get_dec) rfl rfl (ay ?_));rw[if_pos h0];exact⟨rfl,_,.val,rfl⟩
 .have h0:=of_decide_eq_false h;rw[if_neg h0,List.append_nil];exact ay ⟨rfl,u,hu,rfl⟩
theorem EZ(k:Int)(x:List Nat)(hx:x.length<=1000)(fd:List Pt)(j:Nat)(u v:Option Sl)(hv:vo v)(hfd:fd.length<=10000) :
  Wp (ex (run F w (n+2)) w (Ht dr) [some (.val (jq ns)),some (.val (.int k)),some (.val (.str x)),some (.val (aB fd)),some (.val (.int j)),u,v]) λg fr=>g=.nx/\∃b,vo b/\fr=[some (.val (jq ns)),some (.val (.int k)),some (.val (.str x)),some (.val (aB (fd++match x[j]? with
     |some c=>[if 0<cP ns (k+4*j+3) 3 then .keep 1 else .drop [c]]
     |none=>[]))),some (.val (.int j)),u,b]:=by
 have ln:dS .len [.str x]=some (.int (x.length:Nat)):=len_str (by omega);refine aN (by repeat array_get_dec) (λh=>?_) λh=>?_
 .have hlt:j<x.length:=by have:=of_decide_eq_true h;omega
  have d1:=λfr=>iB (fr:=fr) (gH (w:=w) (n:=n) hc hd hn (k+4*j+3) (many:=3) (by decide));have m4:bU .mul (.int 4) (.int j)=some (.int (4*j)):=by rw[qq,N9];rfl
  have hg:x[j]?=some x[j]:=List.getElem?_eq_getElem hlt;have ix:fP (.str x) (.int j)=some (.str [x[j]]):=by rw[sZ,sG,hg];rfl
  rw[hg];refine ai (aY (by (repeat (first|array_get_dec|exact d1 _))) rfl (gG rfl hv) ?_);by_cases hk:0<cP ns (k+4*j+3) 3
  .have ad:=EX (a:=fd) (by omega);have ht:truthy (.bl (decide (0<cP ns (k+4*j+3) 3)))=true:=decide_eq_true hk;refine ai (aY (bR (az rfl) (gD (aJ (rE (b:=true) (aG rfl (az rfl) ht) (λ_=>by repeat array_get_dec) λh=>absurd h (by decide)) aZ) rA) ad) rfl rfl (ay ?_));refine⟨rfl,some (.val (.bl (decide (0<cP ns (k+4*j+3) 3)))),.val,?_⟩;simp only[if_pos hk];rfl
  .have ad:=EW (a:=fd) (s:=[x[j]]) (by omega);have ht:truthy (.bl (decide (0<cP ns (k+4*j+3) 3)))=false:=decide_eq_false hk;refine ai (aY (bR (az rfl) (gD (aJ (rE (b:=false) (aG rfl (az rfl) ht) (λh=>absurd h (by decide)) λ_=>by repeat array_get_dec) aZ) rA) ad) rfl rfl (ay ?_));refine⟨rfl,some (.val (.bl (decide (0<cP ns (k+4*j+3) 3)))),.val,?_⟩;simp only[if_neg hk];rfl
 .have hlt:¬ j<x.length:=by have:=of_decide_eq_false h;omega
  rw[List.getElem?_eq_none (by omega),List.append_nil];exact ay ⟨rfl,v,hv,rfl⟩
theorem AR(ht:F[t]?=some (JY dr))(k:Int)(x:List Nat)(hx:x.length<=1000):run F w (n+3) t [.val (jq ns),.val (.int k),.val (.str x)]=some (aB (chg ns k x),[]):=by
 refine cO ht rfl ?_;have ln:dS .len [.str x]=some (.int (x.length:Nat)):=len_str (by omega);have rg:er [.int ((x.length:Nat)+1)]=some (range 0 (x.length+1)):=UN (by omega) (by omega);refine ai (aY (by repeat array_get_dec) rfl rfl ?_);refine ai (kT (wG (aJ (bR (gF (aJ (az rfl) aZ) ln) (bL rfl) fD) aZ) rg) ?_);refine Jx (λj fr=>∃a b c,vo a/\vo b/\vo c/\fr=[some (.val (jq ns)),some (.val (.int k)),some (.val (.str x)),some (.val (aB (fZ ns k x j))),a,b,c]) (λj fr hj ⟨a,b,c',ha,hb,hc',hfr⟩=>?_) (λfr ⟨a,b,c',ha,hb,hc',hfr⟩=>?_) ⟨none,none,none,.none,.none,.none,rfl⟩
 .subst hfr;have hz:=nZ ns k x j;rw[show(0:Int)+(j:Int)=j from Int.zero_add _];refine fz (bind1 rfl ha) (ai ?_);refine(EY hc hd hn k (.str x) (fZ ns k x j) j b c' hb (by omega)).mono λg fr ⟨q1,b2,hb2,q3⟩=>?_;subst q1 q3;refine ai ?_;refine(EZ hc hd hn k x hx _ j b2 c' hc' (by split<;>simp<;>omega)).mono λg fr ⟨q1,b3,Xc,q3⟩=>?_;subst q1 q3;refine ay ?_;rw[eE];refine⟨some (.val (.int j)),b2,b3,.val,hb2,Xc,?_⟩;rw[jY,jX,List.append_assoc]
 .subst hfr;refine ai (bZ (v:=aB (chg ns k x)) (af:=[some (.val (jq ns)),some (.val (.int k)),some (.val (.str x)),some (.val (aB (fZ ns k x (x.length+1)))),a,b,c']) ?_ ⟨rfl,rfl⟩);have sh:fH [some (.val (jq ns)),some (.val (.int k)),some (.val (.str x)),some (.val (aB (fZ ns k x (x.length+1)))),a,b,c']=[some (.val (jq ns)),some (.val (.int k)),some (.val (.str x)),some (.val (aB (fZ ns k x (x.length+1)))),a,b,c']:=by
   show _ :: _ :: _ :: _ :: a.map Sl.dH :: b.map Sl.dH :: [c'.map Sl.dH]=_;rw[cU ha,cU hb,cU hc'];rfl
  rw[sh];exact az rfl
end
end Pv
namespace Pv
open Ev (D bF bu TY BI ME T E Es Eo It S Ss Fn big deep b2i rep bY dj bK aO cut cj dQ slots)
noncomputable def E1:S:=.iff (.cmp .eq (.ix (.v 0) (.c (.int 0))) (.c (.str [107,101,101,112]))) (.cons (.ret (.ix (.v 0) (.c (.int 1)))) .nil) .nil
noncomputable def E2:S:=.ret (.bi .len (.cons (.ix (.v 0) (.c (.int 1))) .nil))
noncomputable def gm:Fn:=⟨1,1,(.cons E1 (.cons E2 .nil))⟩
noncomputable def AS(dB:Nat):S:=.ret (.bi .sum (.cons (.comp (.cl dB (.cons (.v 1) .nil)) (.one 1) (.seq (.v 0)) (.yes (.cmp .ne (.ix (.v 1) (.c (.int 0))) (.c (.str [112,117,116]))))) .nil))
noncomputable def iJ(dB:Nat):Fn:=⟨1,2,(.cons (AS dB) .nil)⟩
noncomputable def CP(dB:Nat):S:=.ret (.bi .sum (.cons (.comp (.cl dB (.cons (.v 1) .nil)) (.one 1) (.seq (.v 0)) (.yes (.cmp .ne (.ix (.v 1) (.c (.int 0))) (.c (.str [100,114,111,112]))))) .nil))
noncomputable def jw(dB:Nat):Fn:=⟨1,2,(.cons (CP dB) .nil)⟩
noncomputable def E3:S:=.set 1 (.lst .nil)
noncomputable def E4:S:=.set 2 (.c (.int 0))
noncomputable def E5:S:=.set 3 (.c (.str []))
noncomputable def E6:S:=.set 4 (.c (.str []))
noncomputable def E7(fS:Nat):Ss:=(.cons (.iff (.cmp .eq (.v 5) (.c (.str [100,114,111,112]))) (.cons (.set 3 (.bin .add (.v 3) (.v 6))) .nil) (.cons (.iff (.cmp .eq (.v 5) (.c (.str [112,117,116]))) (.cons (.set 4 (.bin .add (.v 4) (.v 6))) .nil) (.cons (.iff (.cmp .gt (.v 6) (.c (.int 0))) (.cons (.iff (.orr (.cmp .ne (.v 3) (.c (.str []))) (.cmp .ne (.v 4) (.c (.str [])))) (.cons (.exp (.me .extend (.v 1) (.cons (.cl fS (.cons (.v 2) (.cons (.v 3) (.cons (.v 4) .nil)))) .nil))) (.cons (.set 2 (.c (.int 0))) (.cons (.set 3 (.c (.str []))) (.cons (.set 4 (.c (.str []))) .nil)))) .nil) (.cons (.set 2 (.bin .add (.v 2) (.v 6))) .nil)) .nil) .nil)) .nil)) .nil)
noncomputable def E8(fS:Nat):S:=.for (.many [5,6]) (.seq (.v 0)) (E7 fS)
noncomputable def E9(fS:Nat):S:=.exp (.me .extend (.v 1) (.cons (.cl fS (.cons (.v 2) (.cons (.v 3) (.cons (.v 4) .nil)))) .nil))
noncomputable def Fb:S:=.ret (.jm (.v 1))
noncomputable def jK(fS:Nat):Fn:=⟨1,7,(.cons E3 (.cons E4 (.cons E5 (.cons E6 (.cons (E8 fS) (.cons (E9 fS) (.cons Fb .nil)))))))⟩
noncomputable def xN:S:=.set 3 (.lst .nil)
noncomputable def xO:S:=.iff (.cmp .gt (.v 0) (.c (.int 0))) (.cons (.exp (.me .append (.v 3) (.cons (.tup (.cons (.c (.str [107,101,101,112])) (.cons (.v 0) .nil))) .nil))) .nil) .nil
noncomputable def pR:S:=.iff (.cmp .ne (.v 1) (.c (.str []))) (.cons (.exp (.me .append (.v 3) (.cons (.tup (.cons (.c (.str [100,114,111,112])) (.cons (.v 1) .nil))) .nil))) .nil) .nil
noncomputable def lM:S:=.iff (.cmp .ne (.v 2) (.c (.str []))) (.cons (.exp (.me .append (.v 3) (.cons (.tup (.cons (.c (.str [112,117,116])) (.cons (.v 2) .nil))) .nil))) .nil) .nil
noncomputable def jE:S:=.ret (.v 3)
noncomputable def fC:Fn:=⟨3,4,(.cons xN (.cons xO (.cons pR (.cons lM (.cons jE .nil)))))⟩
noncomputable def CQ:S:=.set 1 (.lst .nil)
noncomputable def CS:S:=.set 2 (.lst .nil)
noncomputable def CT:Ss:=(.cons (.iff (.cmp .eq (.v 3) (.c (.str [107,101,101,112]))) (.cons (.set 2 (.bin .add (.v 2) (.eH (.gS (.cons (.bi .len (.cons (.v 1) .nil)) (.cons (.bin .add (.bi .len (.cons (.v 1) .nil)) (.v 4)) .nil)))))) (.cons (.set 1 (.bin .add (.v 1) (.bin .mul (.lst (.cons (.c (.str [])) .nil)) (.v 4)))) .nil)) (.cons (.iff (.cmp .eq (.v 3) (.c (.str [100,114,111,112]))) (.cons (.set 1 (.bin .add (.v 1) (.eH (.seq (.v 4))))) .nil) (.cons (.set 2 (.bin .add (.v 2) (.eH (.seq (.v 4))))) .nil)) .nil)) .nil)
noncomputable def CU:S:=.for (.many [3,4]) (.seq (.v 0)) CT
noncomputable def CV:S:=.ret (.tup (.cons (.v 1) (.cons (.v 2) .nil)))
noncomputable def J0:Fn:=⟨1,5,(.cons CQ (.cons CS (.cons CU (.cons CV .nil))))⟩
noncomputable def xP:S:=.set 1 (.comp (.ix (.v 4) (.c (.int 0))) (.one 4) (.seq (.v 0)) .no)
noncomputable def xQ:Ss:=(.cons (.iff (.orr (.cmp .eq (.v 2) (.v 3)) (.an (.cmp .eq (.v 2) (.c (.str [112,117,116]))) (.cmp .eq (.v 3) (.c (.str [100,114,111,112]))))) (.cons (.ret (.c (.bl false))) .nil) .nil) .nil)
noncomputable def xR:S:=.for (.many [2,3]) (.zip (.v 1) (.sl (.v 1) (.yes (.c (.int 1))) .no)) xQ
noncomputable def xS:S:=.ret (.an (.fK (.v 0) [.tuple]) (.cmp .eq (.comp (.v 5) (.one 5) (.seq (.v 0)) (.yes (.cmp .isin (.ix (.v 5) (.c (.int 1))) (.tup (.cons (.c (.str [])) (.cons (.c (.int 0)) .nil)))))) (.lst .nil)))
noncomputable def CW:Fn:=⟨1,6,(.cons xP (.cons xR (.cons xS .nil)))⟩
noncomputable def Pt.n:Pt->Nat
 |.keep n=>n
 |.put s=>s.length
 |.drop s=>s.length
noncomputable def tot(c:List Pt):Nat:=(c.map Pt.n).sum
theorem eX(a b:List Pt):tot (a++b)=tot a+tot b:=by simp[tot]
theorem bw(p:Pt)(c:List Pt):tot (p :: c)=p.n+tot c:=by simp[tot]
noncomputable def cX:Pt->Bool
 |.put _=>true
 |_=>false
noncomputable def cF:Pt->Bool
 |.drop _=>true
 |_=>false
noncomputable def gn:Pt->Bool
 |.keep _=>true
 |_=>false
noncomputable def bg(c:List Pt):Nat:=tot (c.filter λp=>!cX p)
noncomputable def cQ(c:List Pt):Nat:=tot (c.filter λp=>!cF p)
noncomputable def cst(c:List Pt):Nat:=tot (c.filter λp=>!gn p)
section
variable{F:List Fn}{w n av i:Nat}
theorem jy(hs:F[i]?=some gm)(p:Pt)(hp:p.n<=100000):run F w (n+1) i [.val p.v]=some (.int p.n,[]):=by
 cases p with
 |keep k=>exact cO hs rfl (ai (aN (b:=true) (aG rfl (cy (gZ (az rfl) (bL rfl) rfl) (bL rfl) qs) rfl) (λ_=>ai (bZ (gZ (az rfl) (bL rfl) rfl) ⟨rfl,rfl⟩)) nofun))
 |put s=>exact cO hs rfl (ai (aN (b:=false) (aG rfl (cy (gZ (az rfl) (bL rfl) rfl) (bL rfl) qs) rfl) nofun (λ_=>ay (ai (bZ (gF (aJ (gZ (az rfl) (bL rfl) rfl) aZ) (len_str hp)) ⟨rfl,rfl⟩)))))
 |drop s=>exact cO hs rfl (ai (aN (b:=false) (aG rfl (cy (gZ (az rfl) (bL rfl) rfl) (bL rfl) qs) rfl) nofun (λ_=>ay (ai (bZ (gF (aJ (gZ (az rfl) (bL rfl) rfl) aZ) (len_str hp)) ⟨rfl,rfl⟩)))))
theorem UO{c:List Pt}{p:Pt}(h:p∈c):p.n<=tot c:=by
 induction c with
 |nil=>simp at h
 |cons q c ih=>
  rw[bw];rcases List.mem_cons.mp h with rfl|h
  .omega
  .have:=ih h;omega
theorem QF(c:List Pt):(c.map λp=>(p.n:Int)).sum=(tot c:Int):=by
 induction c with
 |nil=>rfl
 |cons p c ih=>simp only[List.map_cons,List.sum_cons,ih,bw];omega
theorem zv{word:List Nat}{pr:Pt->Bool}(hs:F[av]?=some gm)(hb:F[i]?=some ⟨1,2,.cons (.ret (.bi .sum (.cons (.comp (.cl av (.cons (.v 1) .nil)) (.one 1) (.seq (.v 0)) (.yes (.cmp .ne (.ix (.v 1) (.c (.int 0))) (.c (.str word))))) .nil))) .nil⟩)
  (hw:∀p:Pt,∃x u,p.v=.tup [.str x,u]/\(!decide (x=word))=pr p) (c:List Pt) (h1:c.length<=10000) (h2:tot c<=100000):run F w (n+2) i [.val (aB c)]=some (.int (tot (c.filter pr)),[]):=by
 refine cO hb rfl (ai (bZ (gF (aJ (nX (gk (dX rfl) rfl) rfl (nW (e:=Pt.v) (p:=pr) (g:=λp=>.int p.n) c λp hp=>?_) (cT (bQ ?_))) aZ) ?_) ⟨rfl,rfl⟩))
 .obtain⟨x,u,hx,Xd⟩:=hw p;have hcall:=λfr=>cg (fr:=fr) (jy (w:=w) (n:=n) hs p (Nat.le_trans (UO hp) h2));rw[hx]at hcall;rw[hx,<-Xd];exact zo rfl (aG rfl (cy (gZ (az rfl) (bL rfl) rfl) (bL rfl) jh) rfl) λ_=>cB (aT rfl (az rfl) br) (hcall _)
 .rw[List.length_map];exact Nat.le_trans (List.length_filter_le _ _) (Nat.le_trans h1 (by decide))
 .rw[Jw,AH (λp:Pt=>(p.n:Int))];show some (V.int _)=_;rw[QF]
theorem jZ(hs:F[av]?=some gm)(hb:F[i]?=some (iJ av))(c:List Pt)(h1:c.length<=10000)(h2:tot c<=100000):run F w (n+2) i [.val (aB c)]=some (.int (bg c),[]):=
 zv (pr:=λp=>!cX p) hs hb (λp=>by cases p<;>exact⟨_,_,rfl,rfl⟩) c h1 h2
theorem kU(hs:F[av]?=some gm)(hb:F[i]?=some (jw av))(c:List Pt)(h1:c.length<=10000)(h2:tot c<=100000):run F w (n+2) i [.val (aB c)]=some (.int (cQ c),[]):=
 zv (pr:=λp=>!cF p) hs hb (λp=>by cases p<;>exact⟨_,_,rfl,rfl⟩) c h1 h2
end
noncomputable def bW(k:Nat)(g w:List Nat):List Pt:=(if 0<k then [.keep k]else [])++(if g=[]then []else [.drop g])++(if w=[]then []else [.put w])
theorem lN(k:Nat)(g w:List Nat):(bW k g w).length<=3:=by unfold bW;split<;>split<;>split<;>simp
theorem pT{F:List Fn}{w n i:Nat}(hs:F[i]?=some fC)(k:Nat)(g x:List Nat):run F w (n+1) i [.val (.int k),.val (.str g),.val (.str x)]=some (.lst ((bW k g x).map Pt.v),[]):=by
 refine cO hs rfl ?_;refine ai (fy (l:=[]) (by repeat array_get_dec) rfl rfl ?_);have ap:∀(l:List V) (d:V) (fr:Fr) (i:Nat),l.length<=3->fr[i]?=some (some (.own l))->ig .append i [d] fr fr[i]?=.ok .aL (fr.set i (some (.own (l++[d])))):=λl d fr i h e=>by rw[e];exact zl (by omega)
 have fin:∀l:List V,Wp (exs (run F w n) w (.cons jE .nil) [some (.val (.int k)),some (.val (.str g)),some (.val (.str x)),some (.own l)]) λg fr=>g=.ret (.lst l)/\outs 3 fr=[]:=λl=>ai (bZ (by repeat array_get_dec) ⟨rfl,rfl⟩);have s3:∀l:List V,l.length<=2->Wp (exs (run F w n) w (.cons lM (.cons jE .nil)) [some (.val (.int k)),some (.val (.str g)),some (.val (.str x)),some (.own l)]) λg fr=>g=.ret (.lst (l++(if x=[]then []else [Pt.put x]).map Pt.v))/\outs 3 fr=[]:=λl hl=>by
  refine ai (aN (by repeat array_get_dec) (λh=>?_) λh=>?_)
  .have hx:x≠[]:=by simpa using h
   refine ai (iC (by (repeat array_get_dec);exact ap _ _ _ _ (by omega) rfl) (ay ?_));rw[if_neg hx];exact fin _
  .have hx:x=[]:=by simpa using h
   refine ay ?_;rw[if_pos hx,List.map_nil,List.append_nil];exact fin _
 have s2:∀l:List V,l.length<=1->Wp (exs (run F w n) w (.cons pR (.cons lM (.cons jE .nil))) [some (.val (.int k)),some (.val (.str g)),some (.val (.str x)),some (.own l)]) λy fr=>y=.ret (.lst (l++((if g=[]then []else [Pt.drop g])++(if x=[]then []else [Pt.put x])).map Pt.v))/\outs 3 fr=[]:=λl hl=>by
  refine ai (aN (by repeat array_get_dec) (λh=>?_) λh=>?_)
  .have hx:g≠[]:=by simpa using h
   refine ai (iC (by (repeat array_get_dec);exact ap _ _ _ _ (by omega) rfl) (ay ?_));rw[if_neg hx,List.map_append,<-List.append_assoc];exact s3 _ (by simp;omega)
  .have hx:g=[]:=by simpa using h
   refine ay ?_;rw[if_pos hx,List.nil_append];exact s3 _ (by omega)
 refine ai (aN (by repeat array_get_dec) (λh=>?_) λh=>?_)
 .have hx:0<k:=by have:=of_decide_eq_true h;omega
  refine ai (iC (by (repeat array_get_dec);exact ap _ _ _ _ (by decide) rfl) (ay ?_));unfold bW;rw[if_pos hx,List.append_assoc];exact s2 _ (Nat.le_refl 1)
 .have hx:¬ 0<k:=by have:=of_decide_eq_false h;omega
  refine ay ?_;unfold bW;rw[if_neg hx];exact s2 _ (by decide)
abbrev FS:=List Pt×Nat×List Nat×List Nat
noncomputable def bJ(st:FS):Pt->FS
 |.drop s=>(st.1,st.2.1,st.2.2.1++s,st.2.2.2)
 |.put s=>(st.1,st.2.1,st.2.2.1,st.2.2.2++s)
 |.keep k=>if 0<k then (if st.2.2.1=[]/\st.2.2.2=[]then (st.1,st.2.1+k,[],[])else (st.1++bW st.2.1 st.2.2.1 st.2.2.2,k,[],[]))else st
noncomputable def fN:FS:=([],0,[],[])
noncomputable def cY(st:FS):List Pt:=st.1++bW st.2.1 st.2.2.1 st.2.2.2
noncomputable def aC(c:List Pt):List Pt:=cY (c.foldl bJ fN)
theorem J1(p:List Pt)(a:Pt):(p++[a]).foldl bJ fN=bJ (p.foldl bJ fN) a:=by simp
theorem wI(c:List Pt):∀st:FS,(c.foldl bJ st).1.length<=st.1.length+3*c.length/\(c.foldl bJ st).2.2.1.length<=st.2.2.1.length+tot c/\(c.foldl bJ st).2.2.2.length<=st.2.2.2.length+tot c:=by
 induction c with
 |nil=>intro st;simp[tot]
 |cons p c ih=>
  intro st;have h:=ih (bJ st p);have h2:(bJ st p).1.length<=st.1.length+3/\(bJ st p).2.2.1.length<=st.2.2.1.length+p.n/\(bJ st p).2.2.2.length<=st.2.2.2.length+p.n:=by
   have:=lN st.2.1 st.2.2.1 st.2.2.2;cases p with
   |drop s=>simp[bJ,Pt.n]
   |put s=>simp[bJ,Pt.n]
   |keep k=>
    simp only[bJ];split
    .split
     .simp
     .simp;omega
    .simp
  simp only[List.foldl_cons,List.length_cons,bw];omega
theorem gb{F:List Fn}{w n aQ i:Nat}(hs:F[aQ]?=some fC)(hf:F[i]?=some (jK aQ))(c:List Pt)(h1:c.length<=10000)(h2:tot c<=10000):run F w (n+2) i [.val (aB c)]=some (aB (aC c),[]):=by
 refine cO hf rfl ?_;refine ai (fy (l:=[]) (by repeat array_get_dec) rfl rfl ?_);refine ai (aY (by repeat array_get_dec) rfl rfl ?_);refine ai (aY (by repeat array_get_dec) rfl rfl ?_);refine ai (aY (by repeat array_get_dec) rfl rfl ?_);refine ai (kT (vs:=c.map Pt.v) (gk (dX rfl) rfl) ?_);have ext:∀(st:FS) (fr:Fr),st.1.length<=30010->ig .extend 1 [.lst ((bW st.2.1 st.2.2.1 st.2.2.2).map Pt.v)] fr (some (some (.own (st.1.map Pt.v))))=.ok .aL (fr.set 1 (some (.own ((cY st).map Pt.v)))):=λst fr h=>by
  have:=lN st.2.1 st.2.2.1 st.2.2.2;unfold cY;rw[List.map_append];exact zm (by simp;omega)
 refine gQ (e:=Pt.v) (λp l fr=>p++l=c/\∃a b,vo a/\vo b/\fr=[some (.val (aB c)),some (.own ((p.foldl bJ fN).1.map Pt.v)),some (.val (.int (p.foldl bJ fN).2.1)),some (.val (.str (p.foldl bJ fN).2.2.1)),some (.val (.str (p.foldl bJ fN).2.2.2)),a,b]) (λp x l fr ⟨hpl,a,b,ha,hb,hfr⟩=>?_) (λp fr ⟨hpl,a,b,ha,hb,hfr⟩=>?_) c [] _ ⟨rfl,none,none,.none,.none,rfl⟩
 .subst hfr;obtain⟨b1,b2,b3⟩:=wI p fN;have hlen:p.length+l.length+1=c.length:=by rw[<-hpl];simp;omega
  have tE:tot p+x.n+tot l=tot c:=by rw[<-hpl,eX,bw];omega
  rw[J1];have iK:(p++[x])++l=c:=by simpa using hpl
  generalize p.foldl bJ fN=st at *
  simp[fN]at b1 b2 b3;have rs:=λfr=>iB (fr:=fr) (pT (w:=w) (n:=n) hs st.2.1 st.2.2.1 st.2.2.2);have ex:=λfr=>ext st fr (by omega);cases x with
  |drop s=>
   have hs:s.length<=tot c:=by simp only[Pt.n]at tE;omega
   have ad:=iI (a:=st.2.2.1) (b:=s) (by omega);refine fz (gR rfl ha rfl hb) (ai (aN (by repeat array_get_dec) (λ_=>?_) λh=>absurd h (by decide)));refine ai (aY (by repeat array_get_dec) rfl rfl (ay (ay ?_)));rw[eE];exact⟨iK,_,_,.val,.val,rfl⟩
  |put s=>
   have hs:s.length<=tot c:=by simp only[Pt.n]at tE;omega
   have ad:=iI (a:=st.2.2.2) (b:=s) (by omega);refine fz (gR rfl ha rfl hb) (ai (aN (by repeat array_get_dec) (λh=>absurd h (by decide)) λ_=>?_));refine ai (aN (by repeat array_get_dec) (λ_=>?_) λh=>absurd h (by decide));refine ai (aY (by repeat array_get_dec) rfl rfl (ay (ay (ay ?_))));rw[eE];exact⟨iK,_,_,.val,.val,rfl⟩
  |keep k=>
   refine fz (gR rfl ha rfl hb) (ai (aN (by repeat array_get_dec) (λh=>absurd h (by decide)) λ_=>?_));refine ai (aN (by repeat array_get_dec) (λh=>absurd h (by decide)) λ_=>?_);refine ai (aN (by repeat array_get_dec) (λh=>?_) λh=>?_)
   .have hk:0<k:=by have:=of_decide_eq_true h;omega
    by_cases hg:st.2.2.1=[]/\st.2.2.2=[]
    .have n1:cop .ne (.str st.2.2.1) (.str [])=some false:=by rw[jh,hg.1];rfl
     have n2:cop .ne (.str st.2.2.2) (.str [])=some false:=by rw[jh,hg.2];rfl
     refine ai (aN (b:=false) (ir (aG rfl (by repeat array_get_dec) rfl) (aG rfl (by repeat array_get_dec) rfl)) (λh=>absurd h (by decide)) λ_=>ay ?_);refine ai (aY (by repeat array_get_dec) rfl rfl (ay (ay (ay (ay ?_)))));rw[eE];refine⟨iK,some (.val (.str eT)),some (.val (.int k)),.val,.val,?_⟩;simp only[bJ,if_pos hk,if_pos hg];rw[hg.1,hg.2];rfl
    .have tt:aE (run F w (n+1)) (.orr (.cmp .ne (.v 3) (.c (.str []))) (.cmp .ne (.v 4) (.c (.str [])))) [some (.val (aB c)),some (.own (st.1.map Pt.v)),some (.val (.int st.2.1)),some (.val (.str st.2.2.1)),some (.val (.str st.2.2.2)),some (.val (.str eT)),some (.val (.int k))]=.ok true [some (.val (aB c)),some (.own (st.1.map Pt.v)),some (.val (.int st.2.1)),some (.val (.str st.2.2.1)),some (.val (.str st.2.2.2)),some (.val (.str eT)),some (.val (.int k))]:=by
      by_cases h3:st.2.2.1=[]
      .have h4:¬ st.2.2.2=[]:=λz=>hg ⟨h3,z⟩;have n1:cop .ne (.str st.2.2.1) (.str [])=some false:=by rw[jh,h3];rfl
       have n2:cop .ne (.str st.2.2.2) (.str [])=some true:=by rw[jh,decide_eq_false h4];rfl
       exact ir (aG rfl (by repeat array_get_dec) rfl) (aG rfl (by repeat array_get_dec) rfl)
      .have n1:cop .ne (.str st.2.2.1) (.str [])=some true:=by rw[jh,decide_eq_false h3];rfl
       exact rH (aG rfl (by repeat array_get_dec) rfl)
     refine ai (aN tt (λ_=>?_) λh=>absurd h (by decide));refine ai (iC (by (repeat (first|array_get_dec|exact rs _|exact ex _))) ?_);refine ai (aY (by repeat array_get_dec) rfl rfl ?_);refine ai (aY (by repeat array_get_dec) rfl rfl ?_);refine ai (aY (by repeat array_get_dec) rfl rfl (ay ?_));refine ai (aY (by repeat array_get_dec) rfl rfl (ay (ay (ay (ay ?_)))));rw[eE];refine⟨iK,some (.val (.str eT)),some (.val (.int k)),.val,.val,?_⟩;simp only[bJ,if_pos hk,if_neg hg];rw[Int.zero_add];rfl
   .have hk:¬ 0<k:=by have:=of_decide_eq_false h;omega
    refine ay (ay (ay (ay ?_)));rw[eE];refine⟨iK,some (.val (.str eT)),some (.val (.int k)),.val,.val,?_⟩;simp only[bJ,if_neg hk];rfl
 .subst hfr;simp at hpl;subst hpl;obtain⟨b1,b2,b3⟩:=wI p fN;have e:aC p=cY (p.foldl bJ fN):=rfl;rw[e];generalize p.foldl bJ fN=st at *
  simp[fN]at b1 b2 b3;have sl:=lN st.2.1 st.2.2.1 st.2.2.2;have rs:=λfr=>iB (fr:=fr) (pT (w:=w) (n:=n) hs st.2.1 st.2.2.1 st.2.2.2);have ex:=λfr=>ext st fr (by omega);have mk:toT (.lst ((cY st).map Pt.v))=some (aB (cY st)):=by rw[tw];exact kD (bQ (by simp[cY];omega))
  refine ai (iC (by (repeat (first|array_get_dec|exact rs _|exact ex _))) ?_);exact ai (bZ (uU (az rfl) mk) ⟨rfl,rfl⟩)
end Pv
namespace Pv
open Ev (D bF bu TY BI ME T E Es Eo It S Ss Fn big deep b2i rep bY dj bK aO cut cj dQ slots)
noncomputable def lv(o:Option Sl)(l:List V):Prop:=o=some (.own l)\/o=some (.val (.lst l))
section
variable{o:Option Sl}{l:List V}{fr:Fr}{i:Nat}{s:Sl}
theorem lv.own:lv (some (.own l)) l:=.inl rfl
theorem lv.val:lv (some (.val (.lst l))) l:=.inr rfl
theorem Oa(h:lv o l):CJ true (some o)=some (.lst l):=by rcases h with rfl|rfl<;>simp
theorem Ob(h:lv o l):zk fr i s (some o)=some (fr.set i (some s)):=by rcases h with rfl|rfl<;>simp
theorem zw(h:lv o l):o.map Sl.dH=some (.val (.lst l)):=by rcases h with rfl|rfl<;>simp
end
theorem tF{P:aI}{fr:Fr}{i:Nat}{k:Bool}{o:Option Sl}{l:List V}(hk:k=true)(e:fr[i]?=some o)(h:lv o l):ev P k (.v i) fr=.ok (.lst l) fr:=by
 subst hk;exact az (by rw[JP,e,Oa h])
theorem rK{fr:Fr}{i:Nat}{s:Sl}{o:Option Sl}{l:List V}(e:fr[i]?=some o)(h:lv o l):put fr i s=some (fr.set i (some s)):=by rw[CK,e,Ob h]
inductive Tq where
 |at (i:Nat)|sg (c:Nat)
deriving DecidableEq
noncomputable def Tq.v:Tq->V
 |.at i=>.int i
 |.sg c=>.str [c]
theorem Oc(n:Nat)(a b:Tq):cS (n+1) a.v b.v=some (decide (a=b)):=by
 cases a<;>cases b<;>simp[Tq.v]
 all_goals omega
noncomputable def Pt.asks:Pt->List (List Nat)
 |.keep n=>List.replicate n []
 |.drop s=>s.map λc=>[c]
 |.put _=>[]
noncomputable def asks(c:List Pt):List (List Nat):=c.flatMap Pt.asks
noncomputable def Pt.told(k:Nat):Pt->List Tq
 |.keep n=>(List.range n).map λj=>.at (k+j)
 |.drop _=>[]
 |.put s=>s.map .sg
noncomputable def told(k:Nat):List Pt->List Tq
 |[]=>[]
 |p :: c=>p.told k++told (k+p.asks.length) c
theorem fE(a b:List Pt):asks (a++b)=asks a++asks b:=by simp[asks]
theorem gI(a b:List Pt):∀k,told k (a++b)=told k a++told (k+(asks a).length) b:=by
 induction a with
 |nil=>intro k;simp[told,asks]
 |cons p a ih=>
  intro k;simp only[List.cons_append,told,ih,List.append_assoc]
  congr 3
  simp[asks];omega
theorem Fc(p:Pt):p.asks.length<=p.n:=by cases p<;>simp[Pt.asks,Pt.n]
theorem Fd(k:Nat)(p:Pt):(p.told k).length<=p.n:=by cases p<;>simp[Pt.told,Pt.n]
theorem tG(c:List Pt):(asks c).length<=tot c:=by
 induction c with
 |nil=>simp[asks]
 |cons p c ih=>have:=Fc p;simp only[asks,List.flatMap_cons,List.length_append,bw]at *;omega
theorem tH(c:List Pt):∀k,(told k c).length<=tot c:=by
 induction c with
 |nil=>intro k;simp[told]
 |cons p c ih=>intro k;have:=Fd k p;have:=ih (k+p.asks.length);simp only[told,List.length_append,bw];omega
noncomputable def b5(c:List Pt):List V:=(asks c).map V.str
noncomputable def b6(c:List Pt):List V:=(told 0 c).map Tq.v
noncomputable def ji(c:List Pt):List (List Nat)×List Tq:=(asks c,told 0 c)
noncomputable def kH(c:List Pt):V:=.tup [.lst (b5 c),.lst (b6 c)]
theorem J2(a b:List Pt):cS deep (kH a) (kH b)=some (decide (ji a=ji b)):=by
 have h1:=oX (f:=cS (17+1)) (g:=V.str) (λa b=>CF) (asks a) (asks b);have h2:=oX (f:=cS (17+1)) (g:=Tq.v) (λa b=>Oc 17 a b) (told 0 a) (told 0 b);simp[kH,ji,b5,b6,h1,h2]
theorem QG{i j:Int}{n:Nat}(h0:0<=i)(h1:i<=50000)(h2:n<=50000)(e:j=i+n):er [.int i,.int j]=some (range i n):=by
 rw[UA (by omega) (by omega) (by omega) (by omega)]
 congr 2
 omega
theorem J3{α:Type}(n:Nat)(a:α):rep n [a]=List.replicate n a:=by
 induction n with
 |zero=>rfl
 |succ n ih=>simp only[rep,List.replicate_succ,List.flatten_cons]at ih ⊢;rw[ih];rfl
theorem oh{F:List Fn}{w n i:Nat}(hs:F[i]?=some J0)(c:List Pt)(h1:tot c<=1000):run F w (n+1) i [.val (aB c)]=some (kH c,[]):=by
 refine cO hs rfl ?_;refine ai (fy (l:=[]) (by repeat array_get_dec) rfl rfl ?_);refine ai (fy (l:=[]) (by repeat array_get_dec) rfl rfl ?_);refine ai (kT (vs:=c.map Pt.v) (gk (dX rfl) rfl) ?_);refine gQ (e:=Pt.v) (λp l fr=>p++l=c/\∃o1 o2 a b,lv o1 (b5 p)/\lv o2 (b6 p)/\vo a/\vo b/\fr=[some (.val (aB c)),o1,o2,a,b]) (λp x l fr ⟨hpl,o1,o2,a,b,nL,h2',ha,hb,hfr⟩=>?_) (λp fr ⟨hpl,o1,o2,a,b,nL,h2',ha,hb,hfr⟩=>?_) c [] _ ⟨rfl,_,_,none,none,.own,.own,.none,.none,rfl⟩
 .subst hfr;have iK:(p++[x])++l=c:=by simpa using hpl
  have tE:tot p+x.n+tot l=tot c:=by rw[<-hpl,eX,bw];omega
  have lA:(b5 p).length<=tot p:=by rw[b5,List.length_map];exact tG p
  have lT:(b6 p).length<=tot p:=by rw[b6,List.length_map];exact tH p 0
  have hA:b5 (p++[x])=b5 p++x.asks.map V.str:=by simp[b5,asks]
  have hT:b6 (p++[x])=b6 p++(x.told (b5 p).length).map Tq.v:=by simp[b6,gI,told,b5]
  cases x with
  |drop s=>
   have hs:s.length<=1000:=by simp only[Pt.n]at tE;omega
   have ad:=mH (x:=b5 p) (y:=s.map λc=>V.str [c]) (by simp;omega);have hd:b5 (p++[.drop s])=b5 p++s.map λc=>V.str [c]:=by rw[hA];simp[Pt.asks]
   have ht:b6 (p++[.drop s])=b6 p:=by rw[hT];simp[Pt.told]
   have mk:=cT (x:=s.map λc=>V.str [c]) (bQ (by simp;omega));refine fz (gR rfl ha rfl hb) (ai (aN (by repeat array_get_dec) (λh=>absurd h (by decide)) λ_=>?_));refine ai (aN (by repeat array_get_dec) (λ_=>?_) λh=>absurd h (by decide));refine ai (aY (bR (tF rfl rfl nL) (jg (gk (dX rfl) rfl) mk) ad) rfl (rK rfl nL) (ay (ay (ay ?_))));rw[eE,hd,ht];exact⟨iK,_,o2,_,_,.val,h2',.val,.val,rfl⟩
  |put s=>
   have hs:s.length<=1000:=by simp only[Pt.n]at tE;omega
   have ad:=mH (x:=b6 p) (y:=s.map λc=>V.str [c]) (by simp;omega);have hd:b6 (p++[.put s])=b6 p++s.map λc=>V.str [c]:=by rw[hT];simp[Pt.told,Tq.v]
   have ht:b5 (p++[.put s])=b5 p:=by rw[hA];simp[Pt.asks]
   have mk:=cT (x:=s.map λc=>V.str [c]) (bQ (by simp;omega));refine fz (gR rfl ha rfl hb) (ai (aN (by repeat array_get_dec) (λh=>absurd h (by decide)) λ_=>?_));refine ai (aN (by repeat array_get_dec) (λh=>absurd h (by decide)) λ_=>?_);refine ai (aY (bR (tF rfl rfl h2') (jg (gk (dX rfl) rfl) mk) ad) rfl (rK rfl h2') (ay (ay (ay ?_))));rw[eE,hd,ht];exact⟨iK,o1,_,_,_,nL,.val,.val,.val,rfl⟩
  |keep k=>
   have hs:k<=1000:=by simp only[Pt.n]at tE;omega
   have rg:=QG (i:=((b5 p).length:Int)) (j:=((b5 p).length:Int)+k) (n:=k) (by omega) (by omega) (by omega) rfl;have mk:=cT (x:=range ((b5 p).length:Int) k) (bQ (by simp[range];omega));have ad:=mH (x:=b6 p) (y:=range ((b5 p).length:Int) k) (by simp[range];omega);have ml:=EM (x:=[V.str []]) (j:=(k:Int)) (by omega) (by omega) (by simp) (by simp[rep];omega);have Xe:=mH (x:=b5 p) (y:=rep (k:Int).toNat [V.str []]) (by simp[rep];omega);have hd:b6 (p++[.keep k])=b6 p++range ((b5 p).length:Int) k:=by rw[hT];simp[Pt.told,Tq.v,range]
   have ht:b5 (p++[.keep k])=b5 p++rep (k:Int).toNat [V.str []]:=by rw[hA,J3];simp[Pt.asks]
   refine fz (gR rfl ha rfl hb) (ai (aN (by repeat array_get_dec) (λ_=>?_) λh=>absurd h (by decide)));have le:dS .len [.lst (b5 p)]=some (.int ((b5 p).length:Nat)):=tu;refine ai (aY (bR (tF rfl rfl h2') (jg (wG (vs:=[.int ((b5 p).length:Nat),.int (((b5 p).length:Nat)+(k:Int))]) (aJ (gF (aJ (tF rfl rfl nL) aZ) le) (aJ (bR (gF (aJ (tF rfl rfl nL) aZ) le) (az rfl) fD) aZ)) rg) mk) ad) rfl (rK rfl h2') ?_);refine ai (aY (bR (tF rfl rfl nL) (bR (mJ (aJ (bL rfl) aZ) Hg) (az rfl) ml) Xe) rfl (rK rfl nL) (ay (ay ?_)));rw[eE,hd,ht];exact⟨iK,_,_,_,_,.val,.val,.val,.val,rfl⟩
 .subst hfr;simp at hpl;subst hpl;have sh:fH [some (.val (aB p)),o1,o2,a,b]=[some (.val (aB p)),some (.val (.lst (b5 p))),some (.val (.lst (b6 p))),a,b]:=by
   show _ :: o1.map Sl.dH :: o2.map Sl.dH :: a.map Sl.dH :: [b.map Sl.dH]=_;rw[zw nL,zw h2',cU ha,cU hb];rfl
  refine ai (bZ (v:=kH p) (af:=[some (.val (aB p)),some (.val (.lst (b5 p))),some (.val (.lst (b6 p))),a,b]) ?_ ⟨rfl,rfl⟩);rw[sh];exact gD (aJ (az rfl) (aJ (az rfl) aZ)) jC
noncomputable def Pt.word:Pt->List Nat
 |.keep _=>eT
 |.put _=>lK
 |.drop _=>jW
noncomputable def o5(a b:List Nat):Bool:=!(decide (a=b) || (decide (a=lK)&&decide (b=jW)))
noncomputable def kI:List (List Nat)->Bool
 |a :: b :: r=>o5 a b&&kI (b :: r)
 |_=>true
noncomputable def Hu(p:Pt):Bool:=p.n != 0
noncomputable def kJ(c:List Pt):Bool:=kI (c.map Pt.word)&&c.all Hu
theorem QH{α:Type}(l:List α):cut l (some 1) none=l.tail:=by
 unfold cut aO;cases l with
 |nil=>rfl
 |cons a l=>
  have:min (1:Int).toNat (a :: l).length=1:=by simp
  simp[this]
theorem fO(k:Nat)(g x:List Nat):asks (bW k g x)=List.replicate k []++g.map λc=>[c]:=by
  unfold bW;by_cases hk:0<k<;>by_cases hg:g=[]<;>by_cases hx:x=[]<;>simp[hk,hg,hx,asks,Pt.asks]
  all_goals (have:k=0:=by omega
             subst this;simp)
theorem jj(k:Nat)(g x:List Nat)(j:Nat):told j (bW k g x)=(List.range k).map (λi=>Tq.at (j+i))++x.map Tq.sg:=by
  unfold bW;by_cases hk:0<k<;>by_cases hg:g=[]<;>by_cases hx:x=[]<;>simp[hk,hg,hx,told,Pt.told,Pt.asks]
  all_goals (have:k=0:=by omega
             subst this;simp)
theorem AU(st:FS)(p:Pt):asks (cY (bJ st p))=asks (cY st++[p])/\∀j,told j (cY (bJ st p))=told j (cY st++[p]):=by
 obtain⟨ps,k,g,x⟩:=st;have e1:∀a:List Pt,asks (a++[p])=asks a++p.asks:=λa=>by simp[asks]
 have e2:∀(a:List Pt) j,told j (a++[p])=told j a++p.told (j+(asks a).length):=λa j=>by simp[gI,told]
 rw[e1];cases p with
 |drop s=>
  refine⟨by simp[bJ,cY,fE,fO,Pt.asks],λj=>?_⟩;rw[e2];simp[bJ,cY,gI,jj,Pt.told]
 |put s=>
  refine⟨by simp[bJ,cY,fE,fO,Pt.asks],λj=>?_⟩;rw[e2];simp[bJ,cY,gI,jj,Pt.told]
 |keep m=>
  simp only[bJ];split
  .split
   .rename_i h;obtain⟨rfl,rfl⟩:=h;refine⟨by simp[cY,fE,fO,Pt.asks],λj=>?_⟩;rw[e2];simp[cY,fE,gI,jj,fO,Pt.told,List.range_add,Nat.add_assoc]
   .refine⟨by simp[cY,fE,fO,Pt.asks],λj=>?_⟩;rw[e2];simp[cY,fE,gI,jj,fO,Pt.told,Nat.add_assoc]
  .rename_i h;have:m=0:=by omega
   subst this;refine⟨by simp[Pt.asks],λj=>?_⟩;rw[e2];simp[Pt.told]
theorem rL(c:List Pt):∀st:FS,asks (cY (c.foldl bJ st))=asks (cY st++c)/\∀j,told j (cY (c.foldl bJ st))=told j (cY st++c):=by
 induction c with
 |nil=>intro st;simp
 |cons p c ih=>
  intro st;obtain⟨h1,h2⟩:=ih (bJ st p);obtain⟨h3,h4⟩:=AU st p;simp only[List.foldl_cons];have e:cY st++p :: c=(cY st++[p])++c:=by simp
  refine⟨?_,λj=>?_⟩
  .rw[h1,e,fE,fE _ c,h3]
  .rw[h2 j,e,gI,gI _ c,h4 j,h3]
theorem eG(c:List Pt):asks (aC c)=asks c:=by
 have:=(rL c fN).1;simpa[aC,fN,cY,bW]using this
theorem b9(c:List Pt)(j:Nat):told j (aC c)=told j c:=by
 have:=(rL c fN).2 j;simpa[aC,fN,cY,bW]using this
theorem mL(c:List Pt):ji (aC c)=ji c:=by simp[ji,eG,b9]
noncomputable def kps(c:List Pt):Nat:=tot (c.filter gn)
theorem kK(c:List Pt):(asks c).length=bg c:=by
 induction c with
 |nil=>rfl
 |cons p c ih=>cases p<;>simp[asks,bg,tot,cX,Pt.asks,Pt.n]at ih ⊢<;>omega
theorem mP(c:List Pt):∀j,(told j c).length=cQ c:=by
 induction c with
 |nil=>intro j;rfl
 |cons p c ih=>intro j;cases p<;>simp[told,cQ,tot,cF,Pt.told,Pt.n,ih]at ih ⊢
theorem rM(n:Nat)(c:List Pt):bg (.keep n :: c)=n+bg c:=by simp[bg,tot,cX,Pt.n]
theorem rO(s:List Nat)(c:List Pt):bg (.drop s :: c)=s.length+bg c:=by simp[bg,tot,cX,Pt.n]
theorem o6(s:List Nat)(c:List Pt):bg (.put s :: c)=bg c:=by simp[bg,tot,cX,Pt.n]
theorem AV(n:Nat)(c:List Pt):cQ (.keep n :: c)=n+cQ c:=by simp[cQ,tot,cF,Pt.n]
theorem uX(s:List Nat)(c:List Pt):cQ (.drop s :: c)=cQ c:=by simp[cQ,tot,cF,Pt.n]
theorem AW(s:List Nat)(c:List Pt):cQ (.put s :: c)=s.length+cQ c:=by simp[cQ,tot,cF,Pt.n]
theorem Hv(n:Nat)(c:List Pt):cst (.keep n :: c)=cst c:=by simp[cst,tot,gn,Pt.n]
theorem Hw(s:List Nat)(c:List Pt):cst (.drop s :: c)=s.length+cst c:=by simp[cst,tot,gn,Pt.n]
theorem Hx(s:List Nat)(c:List Pt):cst (.put s :: c)=s.length+cst c:=by simp[cst,tot,gn,Pt.n]
theorem Hy(n:Nat)(c:List Pt):kps (.keep n :: c)=n+kps c:=by simp[kps,tot,List.filter_cons,gn,Pt.n]
theorem Hz(s:List Nat)(c:List Pt):kps (.drop s :: c)=kps c:=by simp[kps,tot,gn,Pt.n]
theorem HA(s:List Nat)(c:List Pt):kps (.put s :: c)=kps c:=by simp[kps,tot,gn,Pt.n]
noncomputable def isAt:Tq->Bool
 |.at _=>true
 |_=>false
theorem CY(c:List Pt):∀j,((told j c).filter isAt).length=kps c:=by
 induction c with
 |nil=>intro j;rfl
 |cons p c ih=>
  intro j;have e1:∀(m:Nat) (f:Nat->Nat),(((List.range m).map λi=>Tq.at (f i)).filter isAt).length=m:=λm f=>by
   rw[List.filter_eq_self.mpr]
   .simp
   .intro a ha;obtain⟨i,_,rfl⟩:=List.mem_map.mp ha;rfl
  have e2:∀s:List Nat,((s.map Tq.sg).filter isAt).length=0:=λs=>by
   rw[List.filter_eq_nil_iff.mpr]
   .rfl
   .intro a ha;obtain⟨i,_,rfl⟩:=List.mem_map.mp ha;simp[isAt]
  cases p with
  |keep m=>simp only[told,Pt.told,List.filter_append,List.length_append,e1,ih,kps,tot,gn,List.filter_cons,if_true,List.map_cons,List.sum_cons,Pt.n]
  |put s=>simp only[told,Pt.told,List.filter_append,List.length_append,e2,ih,kps,gn,List.filter_cons];simp
  |drop s=>simp only[told,Pt.told,List.filter_append,List.length_append,ih,kps,gn,List.filter_cons];simp
theorem CZ(c:List Pt):(cst c:Int)=bg c - kps c+cQ c - kps c:=by
 induction c with
 |nil=>rfl
 |cons p c ih=>cases p<;>simp only[Hv,Hw,Hx,rM,rO,o6,AV,uX,AW,Hy,Hz,HA]<;>omega
theorem C4(c:List Pt):tot c+kps c=bg c+cQ c:=by
 induction c with
 |nil=>rfl
 |cons p c ih=>cases p<;>simp only[bw,Pt.n,rM,rO,o6,AV,uX,AW,Hy,Hz,HA]<;>omega
theorem qt(c:List Pt):bg (aC c)=bg c:=by rw[<-kK,<-kK,eG]
theorem qu(c:List Pt):cQ (aC c)=cQ c:=by rw[<-mP _ 0,<-mP _ 0,b9]
theorem wJ(c:List Pt):kps (aC c)=kps c:=by rw[<-CY _ 0,<-CY _ 0,b9]
theorem qv(c:List Pt):cst (aC c)=cst c:=by
 have h1:=CZ (aC c);have h2:=CZ c;rw[qt,qu,wJ]at h1;omega
theorem dI(c:List Pt):tot (aC c)=tot c:=by
 have h1:=C4 (aC c);have h2:=C4 c;rw[qt,qu,wJ]at h1;omega
theorem zx:∀(a:List (List Nat)) (b:List (List Nat)),kI (a++b)=true↔kI a=true/\kI b=true/\∀x∈a.getLast?,∀y∈b.head?,o5 x y=true
 |[],b=>by simp[kI]
 |[x],[]=>by simp[kI]
 |[x],y :: b=>by simp[kI,and_comm]
 |x :: y :: a,b=>by
  have:=zx (y :: a) b;simp only[List.cons_append]at this ⊢;simp only[kI,Bool.and_eq_true,this,List.getLast?_cons_cons];constructor
  .rintro⟨h1,h2,h3,h4⟩;exact⟨⟨h1,h2⟩,h3,h4⟩
  .rintro⟨⟨h1,h2⟩,h3,h4⟩;exact⟨h1,h2,h3,h4⟩
theorem xT(k:Nat)(g x:List Nat):kJ (bW k g x)=true:=by
 unfold bW;by_cases hk:0<k<;>by_cases hg:g=[]<;>by_cases hx:x=[]<;>simp[hk,hg,hx,kJ,Hu,kI,o5,Pt.word,Pt.n,eT,lK,jW]
 all_goals omega
noncomputable def wK(st:FS):Prop:=kJ st.1=true/\(st.1≠[]->0<st.2.1)/\∀p∈st.1.getLast?,p.word≠eT
theorem J4{a b:List Pt}(ha:kJ a=true)(hb:kJ b=true)(h:∀p∈a.getLast?,∀q∈b.head?,o5 p.word q.word=true):kJ (a++b)=true:=by
 simp only[kJ,Bool.and_eq_true]at ha hb ⊢;refine⟨?_,by rw[List.all_append,ha.2,hb.2];rfl⟩;rw[List.map_append,zx];refine⟨ha.1,hb.1,λx hx y hy=>?_⟩;simp at hx hy;obtain⟨p,hp,rfl⟩:=hx;obtain⟨q,hq,rfl⟩:=hy;exact h p hp q hq
theorem wL{k:Nat}{g x:List Nat}(hk:0<k):(bW k g x).head?=some (.keep k):=by simp[bW,hk]
theorem J5{w:List Nat}(h:w≠eT)(hw:w=lK\/w=jW):o5 w eT=true:=by
 rcases hw with rfl|rfl<;>decide
theorem J6(p:Pt):p.word=eT\/p.word=lK\/p.word=jW:=by cases p<;>simp[Pt.word]
theorem wN{st:FS}(h:wK st):kJ (cY st)=true:=by
 refine J4 h.1 (xT _ _ _) λp hp q hq=>?_;have hne:st.1≠[]:=by intro z;rw[z]at hp;simp at hp
 rw[wL (h.2.1 hne)]at hq;simp at hq;subst hq;have hw:=h.2.2 p hp;exact J5 hw ((J6 p).resolve_left hw)
theorem wO{k:Nat}{g x:List Nat}(h:¬ (g=[]/\x=[])):∀p∈(bW k g x).getLast?,p.word≠eT:=by
 unfold bW;by_cases hx:x=[]
 .have hg:g≠[]:=λz=>h ⟨z,hx⟩;intro p hp;simp[hg,hx]at hp;subst hp;simp[Pt.word,jW,eT]
 .intro p hp;simp[hx]at hp;subst hp;simp[Pt.word,lK,eT]
theorem C5{st:FS}(h:wK st)(p:Pt):wK (bJ st p):=by
 cases p with
 |drop s=>exact h
 |put s=>exact h
 |keep k=>
  simp only[bJ];split
  .rename_i hk;split
   .exact⟨h.1,λz=>by simp;omega,h.2.2⟩
   .rename_i Sy;refine⟨wN h,λ_=>hk,λp hp=>?_⟩;rw[List.getLast?_append]at hp;cases z:(bW st.2.1 st.2.2.1 st.2.2.2).getLast? with
    |none=>
     exfalso;rw[List.getLast?_eq_none_iff]at z;unfold bW at z;by_cases hx:st.2.2.2=[]<;>by_cases hg:st.2.2.1=[]<;>simp[hx,hg]at z Sy
    |some q=>
     rw[z]at hp;simp at hp;subst hp;exact wO Sy q z
  .exact h
theorem cG(c:List Pt):kJ (aC c)=true:=by
 have:∀(c:List Pt) (st:FS),wK st->wK (c.foldl bJ st):=λc=>by
  induction c with
  |nil=>exact λst h=>h
  |cons p c ih=>exact λst h=>ih _ (C5 h p)
 exact wN (this c fN ⟨rfl,λz=>absurd rfl z,λp hp=>by simp[fN]at hp⟩)
end Pv
namespace Pv
open Ev (D bF bu TY BI ME T E Es Eo It S Ss Fn big deep b2i rep bY dj bK aO cut cj dQ slots)
abbrev Bl:=List Nat×List Nat
abbrev BS:=List Bl×Bl
noncomputable def eU(st:BS):Pt->BS
 |.drop s=>(st.1,(st.2.1++s,st.2.2))
 |.put s=>(st.1,(st.2.1,st.2.2++s))
 |.keep 0=>st
 |.keep (n+1)=>(st.1++st.2 :: List.replicate n ([],[]),([],[]))
noncomputable def pU:BS:=([],([],[]))
noncomputable def blocks(c:List Pt):BS:=c.foldl eU pU
noncomputable def mh(st:List Pt×Nat)(b:Bl):List Pt×Nat:=if b.1=[]/\b.2=[]then (st.1,st.2+1)else (st.1++bW st.2 b.1 b.2,1)
noncomputable def pk(bs:List Bl):List Pt×Nat:=bs.foldl mh ([],0)
theorem Fe(n:Nat):∀st:List Pt×Nat,(List.replicate n (([],[]):Bl)).foldl mh st=(st.1,st.2+n):=by
 induction n with
 |zero=>intro st;simp
 |succ n ih=>intro st;simp[List.replicate_succ,mh,ih];omega
noncomputable def zy(st:BS):FS:=((pk st.1).1,(pk st.1).2,st.2.1,st.2.2)
theorem Ff(st:BS)(p:Pt):bJ (zy st) p=zy (eU st p):=by
 obtain⟨bs,g,x⟩:=st;cases p with
 |drop s=>rfl
 |put s=>rfl
 |keep n=>
  cases n with
  |zero=>rfl
  |succ n=>
   have e:pk (bs++(g,x) :: List.replicate n ([],[]))=((mh (pk bs) (g,x)).1,(mh (pk bs) (g,x)).2+n):=by
    simp only[pk,List.foldl_append,List.foldl_cons,Fe]
   simp only[zy,eU,e,bJ,Nat.succ_pos,if_true,mh];by_cases h:g=[]/\x=[]
   .simp[h];omega
   .simp[h];omega
theorem Fi(c:List Pt):∀st:BS,c.foldl bJ (zy st)=zy (c.foldl eU st):=by
 induction c with
 |nil=>intro st;rfl
 |cons p c ih=>intro st;simp only[List.foldl_cons,Ff,ih]
theorem jF(c:List Pt):aC c=cY (zy (blocks c)):=by
 unfold aC blocks;rw[<-Fi];rfl
noncomputable def C6(st:List (List Nat)×List Nat):List Nat->List (List Nat)×List Nat
 |[]=>(st.1++[st.2],[])
 |c :: _=>(st.1,st.2++[c])
noncomputable def spT(st:List (List Nat)×List Nat):Tq->List (List Nat)×List Nat
 |.at _=>(st.1++[st.2],[])
 |.sg c=>(st.1,st.2++[c])
theorem C7(s:List Nat):∀st,(s.map λc=>[c]).foldl C6 st=(st.1,st.2++s):=by
 induction s with
 |nil=>intro st;simp
 |cons c s ih=>intro st;simp[C6,ih]
theorem Fj(n:Nat):∀st,(List.replicate n []).foldl C6 st=if n=0 then st else (st.1++st.2 :: List.replicate (n - 1) [],[]):=by
 induction n with
 |zero=>intro st;rfl
 |succ n ih=>
  intro st;simp only[List.replicate_succ,List.foldl_cons,C6,ih];cases n with
  |zero=>simp
  |succ n=>simp[List.replicate_succ]
theorem C8(s:List Nat):∀st,(s.map Tq.sg).foldl spT st=(st.1,st.2++s):=by
 induction s with
 |nil=>intro st;simp
 |cons c s ih=>intro st;simp[spT,ih]
theorem Fp(n:Nat):∀(k:Nat) st,((List.range n).map λj=>Tq.at (k+j)).foldl spT st=if n=0 then st else (st.1++st.2 :: List.replicate (n - 1) [],[]):=by
 induction n with
 |zero=>intro k st;rfl
 |succ n ih=>
  intro k st;rw[List.range_succ,List.map_append,List.foldl_append,ih];cases n with
  |zero=>simp[spT]
  |succ n=>
   simp[spT];rw[<-List.replicate_succ',List.replicate_succ]
theorem rP(c:List Pt):∀st:BS,(asks c).foldl C6 (st.1.map Prod.fst,st.2.1)=((c.foldl eU st).1.map Prod.fst,(c.foldl eU st).2.1):=by
 induction c with
 |nil=>intro st;rfl
 |cons p c ih=>
  intro st;have e:asks (p :: c)=p.asks++asks c:=by simp[asks]
  rw[e,List.foldl_append,List.foldl_cons,<-ih]
  congr 1
  cases p with
  |drop s=>simp[Pt.asks,C7,eU]
  |put s=>simp[Pt.asks,eU]
  |keep n=>
   simp only[Pt.asks,Fj];cases n with
   |zero=>rfl
   |succ n=>simp[eU]
theorem rQ(c:List Pt):∀(k:Nat) (st:BS),(told k c).foldl spT (st.1.map Prod.snd,st.2.2)=((c.foldl eU st).1.map Prod.snd,(c.foldl eU st).2.2):=by
 induction c with
 |nil=>intro k st;rfl
 |cons p c ih=>
  intro k st;rw[told,List.foldl_append,List.foldl_cons,<-ih (k+p.asks.length)]
  congr 1
  cases p with
  |put s=>simp[Pt.told,C8,eU]
  |drop s=>simp[Pt.told,eU]
  |keep n=>
   simp only[Pt.told,Fp];cases n with
   |zero=>rfl
   |succ n=>simp[eU]
theorem zz{α β:Type}:∀{a b:List (α×β)},a.map Prod.fst=b.map Prod.fst->a.map Prod.snd=b.map Prod.snd->a=b
 |[],[],_,_=>rfl
 |[],_ :: _,h,_=>by simp at h
 |_ :: _,[],h,_=>by simp at h
 | (x,y) :: a,(x',y') :: b,h1,h2=>by
  simp at h1 h2;rw[h1.1,h2.1,zz h1.2 h2.2]
theorem om{a b:List Pt}(h:ji a=ji b):blocks a=blocks b:=by
 have hA:asks a=asks b:=congrArg Prod.fst h;have hT:told 0 a=told 0 b:=congrArg Prod.snd h;have a1:=rP a pU;have b1:=rP b pU;have a2:=rQ a 0 pU;have b2:=rQ b 0 pU;rw[hA,b1]at a1;rw[hT,b2]at a2;have e1:=congrArg Prod.fst a1;have e2:=congrArg Prod.snd a1;have e3:=congrArg Prod.fst a2;have e4:=congrArg Prod.snd a2;unfold blocks;exact Prod.ext (zz e1.symm e3.symm) (Prod.ext e2.symm e4.symm)
theorem qw(a b:List Pt):aC a=aC b↔ji a=ji b:=by
 constructor
 .intro h;rw[<-mL a,<-mL b,h]
 .intro h;rw[jF,jF,om h]
theorem kW(a:List Pt):aC (aC a)=aC a:=(qw _ _).mpr (mL a)
noncomputable def Pt.sw:Pt->Pt
 |.keep n=>.keep n
 |.put s=>.drop s
 |.drop s=>.put s
noncomputable def sw(c:List Pt):List Pt:=c.map Pt.sw
theorem uD(c:List Pt):∀st:BS,(sw c).foldl eU (st.1.map Prod.swap,st.2.swap)=((c.foldl eU st).1.map Prod.swap,(c.foldl eU st).2.swap):=by
 induction c with
 |nil=>intro st;rfl
 |cons p c ih=>
  intro st;simp only[sw,List.map_cons,List.foldl_cons]at ih ⊢;rw[<-ih]
  congr 1
  cases p with
  |put s=>rfl
  |drop s=>rfl
  |keep n=>cases n<;>simp[Pt.sw,eU]
theorem zA{a b:List Pt}(h:aC a=aC b):aC (sw a)=aC (sw b):=by
 have hb:=om ((qw a b).mp h);rw[jF,jF];have a1:=uD a pU;have b1:=uD b pU;have e:blocks (sw a)=blocks (sw b):=by
  unfold blocks at hb ⊢;have z:((pU.1.map Prod.swap,pU.2.swap):BS)=pU:=rfl;rw[z]at a1 b1;rw[a1,b1,hb]
 rw[e]
noncomputable def lO(c:List Pt):List Pt:=aC (sw c)
theorem Od(c:List Pt):bg (sw c)=cQ c:=by
 induction c with
 |nil=>rfl
 |cons p c ih=>cases p<;>simp only[sw,List.map_cons,Pt.sw,rM,rO,o6,AV,uX,AW]at ih ⊢<;>omega
noncomputable def bG:List Pt->List Nat->Bool
 |[],t=>t.isEmpty
 |.keep n :: c,t=>decide (n<=t.length)&&bG c (t.drop n)
 |.drop s :: c,t=>s.isPrefixOf t&&bG c (t.drop s.length)
 |.put _ :: c,t=>bG c t
noncomputable def aF:List Pt->List Nat->List Nat
 |[],_=>[]
 |.keep n :: c,t=>t.take n++aF c (t.drop n)
 |.drop s :: c,t=>aF c (t.drop s.length)
 |.put s :: c,t=>s++aF c t
noncomputable def aP:List (List Nat)->List Nat->Bool
 |[],[]=>true
 |x :: a,c :: t=>(decide (x=[]) ||decide (x=[c]))&&aP a t
 |_,_=>false
theorem C9(n:Nat)(a:List (List Nat)):∀t,aP (List.replicate n []++a) t=(decide (n<=t.length)&&aP a (t.drop n)):=by
 induction n with
 |zero=>intro t;simp
 |succ n ih=>
  intro t;cases t with
  |nil=>simp[List.replicate_succ,aP]
  |cons c t=>simp[List.replicate_succ,aP,ih]
theorem Dc(s:List Nat)(a:List (List Nat)):∀t,aP ((s.map λc=>[c])++a) t=(s.isPrefixOf t&&aP a (t.drop s.length)):=by
 induction s with
 |nil=>intro t;simp
 |cons c s ih=>
  intro t;cases t with
  |nil=>simp[aP]
  |cons d t=>
   simp only[List.map_cons,List.cons_append,aP,ih,List.isPrefixOf,List.length_cons,List.drop_succ_cons];by_cases h:c=d<;>simp[h]
theorem jk(c:List Pt):∀t,bG c t=aP (asks c) t:=by
 induction c with
 |nil=>intro t;cases t<;>rfl
 |cons p c ih=>
  intro t;have e:asks (p :: c)=p.asks++asks c:=by simp[asks]
  rw[e];cases p with
  |keep n=>simp[bG,Pt.asks,C9,ih]
  |drop s=>simp[bG,Pt.asks,Dc,ih]
  |put s=>simp[bG,Pt.asks,ih]
theorem qx(c:List Pt)(t:List Nat):bG (aC c) t=bG c t:=by rw[jk,jk,eG]
noncomputable def pick(t:List Nat):Tq->List Nat
 |.at i=>(t[i]?).toList
 |.sg c=>[c]
theorem De(c:List Pt):∀(t:List Nat) (k:Nat),aF c (t.drop k)=(told k c).flatMap (pick t):=by
 induction c with
 |nil=>intro t k;rfl
 |cons p c ih=>
  intro t k;rw[told,List.flatMap_append,<-ih];cases p with
  |put s=>
   simp only[aF,Pt.told,Pt.asks,List.length_nil,Nat.add_zero]
   congr 1
   induction s with
   |nil=>rfl
   |cons c s ih=>simp[pick]at ih ⊢;exact ih
  |drop s=>simp[aF,Pt.told,Pt.asks,Nat.add_comm]
  |keep n=>
   simp only[aF,Pt.told,Pt.asks,List.length_replicate,List.drop_drop]
   congr 1
   induction n generalizing k with
   |zero=>simp
   |succ n ihn=>
    rw[List.range_succ,List.map_append,List.flatMap_append,<-ihn];rw[List.take_add_one];simp[pick]
theorem gK(c:List Pt)(t:List Nat):aF (aC c) t=aF c t:=by
 have h1:=De (aC c) t 0;have h2:=De c t 0;rw[b9,<-h2]at h1;simpa using h1
theorem wQ(c:List Pt):∀t,bG c t=true->bG (sw c) (aF c t)=true/\aF (sw c) (aF c t)=t:=by
 induction c with
 |nil=>intro t h;simp[bG]at h;subst h;simp[sw,bG,aF]
 |cons p c ih=>
  intro t h;cases p with
  |keep n=>
   simp only[bG,Bool.and_eq_true,decide_eq_true_eq]at h;obtain⟨h1,h2⟩:=ih _ h.2;have hl:(t.take n).length=n:=by simp;omega
   simp only[sw,List.map_cons,Pt.sw,aF,bG]at h1 h2 ⊢;have e1:(t.take n++aF c (t.drop n)).drop n=aF c (t.drop n):=by rw[List.drop_append_of_le_length (by omega),List.drop_eq_nil_of_le (by omega)];rfl
   have e2:(t.take n++aF c (t.drop n)).take n=t.take n:=by rw[List.take_append_of_le_length (by omega),List.take_take,Nat.min_self]
   rw[e1,e2,h1,h2];simp;omega
  |drop s=>
   simp only[bG,Bool.and_eq_true]at h;obtain⟨h1,h2⟩:=ih _ h.2;simp only[sw,List.map_cons,Pt.sw,aF,bG]at h1 h2 ⊢;rw[h2];refine⟨h1,?_⟩;obtain⟨r,rfl⟩:=List.isPrefixOf_iff_prefix.mp h.1;simp
  |put s=>
   simp only[bG]at h;obtain⟨h1,h2⟩:=ih _ h;simp only[sw,List.map_cons,Pt.sw,aF,bG]at h1 h2 ⊢;simp[h1,h2]
end Pv
namespace Pv
open Ev (D bF bu TY BI ME T E Es Eo It S Ss Fn big deep b2i rep bY dj bK aO cut cj dQ slots)
noncomputable def xU(dU:Nat):S:=.ret (.cl dU (.cons (.tup (.cons (.tup (.cons (.c (.str [107,101,101,112])) (.cons (.v 0) .nil))) .nil)) .nil))
noncomputable def kX(dU:Nat):Fn:=⟨1,1,(.cons (xU dU) .nil)⟩
noncomputable def Fq:S:=.set 2 (.c (.int 0))
noncomputable def Ft:S:=.set 3 (.c (.str []))
noncomputable def Fv:Ss:=(.cons (.iff (.cmp .eq (.v 4) (.c (.str [112,117,116]))) (.cons (.set 3 (.bin .add (.v 3) (.v 5))) .nil) (.cons (.iff (.cmp .eq (.v 4) (.c (.str [100,114,111,112]))) (.cons (.iff (.cmp .ne (.sl (.v 1) (.yes (.v 2)) (.yes (.bin .add (.v 2) (.bi .len (.cons (.v 5) .nil))))) (.v 5)) (.cons (.ret (.c (.aL))) .nil) .nil) (.cons (.set 2 (.bin .add (.v 2) (.bi .len (.cons (.v 5) .nil)))) .nil)) (.cons (.set 3 (.bin .add (.v 3) (.sl (.v 1) (.yes (.v 2)) (.yes (.bin .add (.v 2) (.v 5)))))) (.cons (.set 2 (.bin .add (.v 2) (.v 5))) .nil))) .nil)) .nil)
noncomputable def Fx:S:=.for (.many [4,5]) (.seq (.v 0)) Fv
noncomputable def Fy:S:=.ret (.iL (.cmp .eq (.v 2) (.bi .len (.cons (.v 1) .nil))) (.v 3) (.c (.aL)))
noncomputable def Oe:Fn:=⟨2,6,(.cons Fq (.cons Ft (.cons Fx (.cons Fy .nil))))⟩
theorem Df{α:Type}(l:List α)(p k:Nat):cut l (some (p:Int)) (some ((p:Int)+k))=(l.drop p).take k:=by
 have h1:¬ (p:Int)<0:=by omega
 have h2:¬ (p:Int)+k<0:=by omega
 have h3:((p:Int)+k).toNat=p+k:=by omega
 simp only[cut,aO,h1,h2,if_false,h3,Int.toNat_natCast];by_cases hp:p<=l.length
 .rw[Nat.min_eq_left hp];by_cases hk:p+k<=l.length
  .rw[Nat.min_eq_left hk];congr 1;omega
  .rw[Nat.min_eq_right (by omega),List.take_of_length_le (by simp),List.take_of_length_le (by simp;omega)]
 .have e1:min p l.length=l.length:=by omega
  rw[e1,List.drop_eq_nil_of_le (Nat.le_refl _),List.drop_eq_nil_of_le (by omega)];simp
theorem pre_take{s t:List Nat}:s.isPrefixOf t=decide (t.take s.length=s):=by
 cases h:s.isPrefixOf t with
 |true=>
  obtain⟨r,rfl⟩:=List.isPrefixOf_iff_prefix.mp h;simp
 |false=>
  symm
  rw[decide_eq_false_iff_not];intro e;have:s.isPrefixOf t=true:=List.isPrefixOf_iff_prefix.mpr (by have z:=List.take_prefix s.length t;rw[e]at z;exact z);rw[h]at this;cases this
theorem o7(a b:List Pt):bg (a++b)=bg a+bg b:=by simp[bg,tot]
theorem o8{c:List Pt}:∀{t:List Nat},bG c t=true->t.length=bg c:=by
 induction c with
 |nil=>intro t h;simp[bG]at h;subst h;rfl
 |cons p c ih=>
  intro t h;cases p with
  |keep n=>simp only[bG,Bool.and_eq_true,decide_eq_true_eq]at h;have:=ih h.2;rw[rM];simp at this;omega
  |drop s=>
   simp only[bG,Bool.and_eq_true]at h;have h2:=ih h.2;obtain⟨r,rfl⟩:=List.isPrefixOf_iff_prefix.mp h.1;rw[rO];simp at h2 ⊢;omega
  |put s=>rw[o6];exact ih h
theorem wR(c:List Pt):∀t,(aF c t).length<=t.length+tot c:=by
 induction c with
 |nil=>intro t;simp[aF]
 |cons p c ih=>
  intro t;rw[bw];cases p with
  |keep n=>have:=ih (t.drop n);simp[aF,Pt.n]at this ⊢;omega
  |drop s=>have:=ih (t.drop s.length);simp[aF,Pt.n]at this ⊢;omega
  |put s=>have:=ih t;simp[aF,Pt.n]at this ⊢;omega
section
variable{F:List Fn}{w n av wU aV aQ i:Nat}
theorem pW(hst:F[aQ]?=some fC)(hf:F[aV]?=some (jK aQ))(hu:F[i]?=some (kX aV))(m:Nat)(h:m<=10000):run F w (n+3) i [.val (.int m)]=some (aB (aC [.keep m]),[]):=
 cO hu rfl (ai (bZ (cB (aT rfl (gD (aJ (gD (aJ (bL rfl) (aJ (az rfl) aZ)) jC) aZ) rA) br) (cg (gb hst hf [.keep m] (Nat.succ_le_of_lt (Nat.zero_lt_succ _)) h))) ⟨rfl,rfl⟩))
end
end Pv
namespace Pv
open Ev (rep)
theorem Dg(ns:List Int)(at_:Int)(s:List Nat)(k:Nat):tot (jX ns at_ s k)<=3:=by
 have h1:=kF ns (at_+4*k+2) (many:=2) (by decide);have h2:=kE ns (at_+4*k+2) (many:=2) (by decide);unfold jX;rw[eX];have a:tot (if cP ns (at_+4*k) 4=0 then [Pt.put (rep (1+cP ns (at_+4*k+2) 2).toNat [[97,98,122].getD (cP ns (at_+4*k+1) 3).toNat 0])]else [])<=2:=by
  split
  .simp[tot,Pt.n,rep];omega
  .simp[tot]
 cases s[k]? with
 |none=>simp[tot]at a ⊢;omega
 |some c=>
  have b:tot [if 0<cP ns (at_+4*k+3) 3 then Pt.keep 1 else Pt.drop [c]]<=1:=by split<;>simp[tot,Pt.n]
  simp only at b ⊢;omega
theorem uE(ns:List Int)(at_:Int)(s:List Nat):∀k,tot (fZ ns at_ s k)<=3*k
 |0=>by simp[fZ,tot]
 |k+1=>by
  have h1:=Dg ns at_ s k;have h2:=uE ns at_ s k;rw[jY,eX];omega
theorem qy:∀{a:List (List Nat)}{t:List Nat},aP a t=true->a.length=t.length
 |[],[],_=>rfl
 |x :: a,c :: t,h=>by simp[aP]at h;simp[qy h.2]
 |[],_ :: _,h=>by simp[aP]at h
 |_ :: _,[],h=>by simp[aP]at h
theorem wV:∀{a b:List (List Nat)}{t u:List Nat},aP a t=true->aP b u=true->aP (a++b) (t++u)=true
 |[],_,[],_,_,hb=>hb
 |x :: a,b,c :: t,u,ha,hb=>by
  simp only[aP,Bool.and_eq_true]at ha;simp only[List.cons_append,aP,Bool.and_eq_true];exact⟨ha.1,wV ha.2 hb⟩
 |[],_,_ :: _,_,ha,_=>by simp[aP]at ha
 |_ :: _,_,[],_,ha,_=>by simp[aP]at ha
theorem J7(ns:List Int)(at_:Int)(s:List Nat)(k:Nat):aP (asks (jX ns at_ s k)) (s[k]?).toList=true:=by
 unfold jX;rw[fE];have a:asks (if cP ns (at_+4*k) 4=0 then [Pt.put (rep (1+cP ns (at_+4*k+2) 2).toNat [[97,98,122].getD (cP ns (at_+4*k+1) 3).toNat 0])]else [])=[]:=by
  split<;>simp[asks,Pt.asks]
 rw[a];cases s[k]? with
 |none=>simp[asks,aP]
 |some c=>simp only;split<;>simp[asks,Pt.asks,aP]
theorem Dh(ns:List Int)(at_:Int)(s:List Nat):∀k,aP (asks (fZ ns at_ s k)) (s.take k)=true
 |0=>by simp[fZ,asks,aP]
 |k+1=>by
  rw[jY,fE,List.take_add_one];exact wV (Dh ns at_ s k) (J7 ns at_ s k)
theorem zB(ns:List Int)(at_:Int)(s:List Nat):bG (chg ns at_ s) s=true:=by
 have:=Dh ns at_ s (s.length+1);rw[List.take_of_length_le (by omega)]at this;rw[jk];exact this
end Pv
namespace Pv
inductive At where
 |k|d (c:Nat)|p (c:Nat)
noncomputable def Pt.aH:Pt->List At
 |.keep n=>List.replicate n .k
 |.drop s=>s.map .d
 |.put s=>s.map .p
noncomputable def aH(c:List Pt):List At:=c.flatMap Pt.aH
theorem jz(a b:List Pt):aH (a++b)=aH a++aH b:=by simp[aH]
theorem b7(p:Pt)(c:List Pt):aH (p :: c)=p.aH++aH c:=by simp[aH]
theorem wW(p:Pt):p.aH.length=p.n:=by cases p<;>simp[Pt.aH,Pt.n]
theorem fc(c:List Pt):(aH c).length=tot c:=by
 induction c with
 |nil=>rfl
 |cons p c ih=>rw[b7,List.length_append,wW,ih,bw]
noncomputable def tA:Nat->List At->List Tq
 |_,[]=>[]
 |i,.k :: a=>.at i :: tA (i+1) a
 |i,.d _ :: a=>tA (i+1) a
 |i,.p c :: a=>.sg c :: tA i a
noncomputable def aA:List At->List (List Nat)
 |[]=>[]
 |.k :: a=>[] :: aA a
 |.d c :: a=>[c] :: aA a
 |.p _ :: a=>aA a
noncomputable def dA:List At->List Nat->List Nat
 |[],_=>[]
 |.k :: a,t=>t.take 1++dA a (t.drop 1)
 |.d _ :: a,t=>dA a (t.drop 1)
 |.p c :: a,t=>c :: dA a t
noncomputable def pX:At->At
 |.k=>.k
 |.d c=>.p c
 |.p c=>.d c
noncomputable def cA:List At->Nat
 |[]=>0
 |.k :: a=>cA a
 |_ :: a=>cA a+1
theorem rR:∀a b:List At,aA (a++b)=aA a++aA b
 |[],_=>rfl
 |.k :: a,b=>by simp[aA,rR a b]
 |.d c :: a,b=>by simp[aA,rR a b]
 |.p c :: a,b=>by simp[aA,rR a b]
theorem rS:∀(a b:List At) (i:Nat),tA i (a++b)=tA i a++tA (i+(aA a).length) b
 |[],_,_=>rfl
 |.k :: a,b,i=>by simp[tA,aA,rS a b,Nat.add_assoc,Nat.add_comm 1]
 |.d c :: a,b,i=>by simp[tA,aA,rS a b,Nat.add_assoc,Nat.add_comm 1]
 |.p c :: a,b,i=>by simp[tA,aA,rS a b]
theorem rT:∀a b:List At,cA (a++b)=cA a+cA b
 |[],b=>by simp[cA]
 |.k :: a,b=>by simp[cA,rT a b]
 |.d c :: a,b=>by simp[cA,rT a b];omega
 |.p c :: a,b=>by simp[cA,rT a b];omega
theorem HC(p:Pt):aA p.aH=p.asks:=by
 cases p with
 |keep n=>simp only[Pt.aH,Pt.asks];induction n<;>simp_all [List.replicate_succ,aA]
 |drop s=>simp only[Pt.aH,Pt.asks];induction s<;>simp_all [aA]
 |put s=>simp only[Pt.aH,Pt.asks];induction s<;>simp_all [aA]
theorem QI(p:Pt):∀i,tA i p.aH=p.told i:=by
 cases p with
 |keep n=>
  simp only[Pt.aH,Pt.told];induction n with
  |zero=>intro i;rfl
  |succ n ih=>intro i;simp only[List.replicate_succ,tA,ih,List.range_succ_eq_map,List.map_cons,List.map_map];simp[Function.comp_def,Nat.add_assoc,Nat.add_comm 1]
 |drop s=>intro i;simp only[Pt.aH,Pt.told];induction s generalizing i<;>simp_all [tA]
 |put s=>intro i;simp only[Pt.aH,Pt.told];induction s generalizing i<;>simp_all [tA]
theorem QJ(p:Pt):cA p.aH=cst [p]:=by
 cases p with
 |keep n=>simp only[Pt.aH];rw[Hv];induction n<;>simp_all [List.replicate_succ,cA,cst,tot]
 |drop s=>simp only[Pt.aH];rw[Hw];induction s<;>simp_all [cA,cst,tot]
 |put s=>simp only[Pt.aH];rw[Hx];induction s<;>simp_all [cA,cst,tot]
theorem dJ(c:List Pt):asks c=aA (aH c):=by
 induction c with
 |nil=>rfl
 |cons p c ih=>rw[b7,rR,HC,<-ih];simp[asks]
theorem cZ(c:List Pt):∀i,told i c=tA i (aH c):=by
 induction c with
 |nil=>intro i;rfl
 |cons p c ih=>intro i;rw[b7,rS,QI,HC,<-ih,told]
theorem tK(c:List Pt):cst c=cA (aH c):=by
 induction c with
 |nil=>rfl
 |cons p c ih=>
  rw[b7,rT,QJ,<-ih];simp[cst,tot];cases p<;>simp[List.filter_cons,gn]
theorem wX(c:List Pt):aH (sw c)=(aH c).map pX:=by
 induction c with
 |nil=>rfl
 |cons p c ih=>
  have:aH (sw (p :: c))=p.sw.aH++aH (sw c):=by simp[aH,sw]
  rw[this,ih,b7,List.map_append]
  congr 1
  cases p<;>simp[Pt.sw,Pt.aH,pX,Function.comp_def]
theorem kL:∀(c:List Pt) (t:List Nat),aF c t=dA (aH c) t:=by
 have k:∀(n:Nat) (a:List At) (t:List Nat),dA (List.replicate n .k++a) t=t.take n++dA a (t.drop n):=λn=>by
  induction n with
  |zero=>intro a t;simp
  |succ n ih=>
   intro a t;simp only[List.replicate_succ,List.cons_append,dA,ih,List.drop_drop];cases t with
   |nil=>simp
   |cons c t=>simp[Nat.add_comm 1]
 have d:∀(s:List Nat) (a:List At) (t:List Nat),dA (s.map .d++a) t=dA a (t.drop s.length):=λs=>by
  induction s with
  |nil=>intro a t;simp
  |cons c s ih=>intro a t;simp[dA,ih,Nat.add_comm 1]
 have p:∀(s:List Nat) (a:List At) (t:List Nat),dA (s.map .p++a) t=s++dA a t:=λs=>by
  induction s with
  |nil=>intro a t;simp
  |cons c s ih=>intro a t;simp[dA,ih]
 intro c;induction c with
 |nil=>intro t;rfl
 |cons q c ih=>
  intro t;rw[b7];cases q with
  |keep n=>simp only[Pt.aH,k,aF,ih]
  |drop s=>simp only[Pt.aH,d,aF,ih]
  |put s=>simp only[Pt.aH,p,aF,ih]
noncomputable def uF:List At->Bool
 |.d _ :: _=>false
 |_=>true
inductive Th:List At->List At->List At->Prop
 |nil:Th [] [] []
 |d {a b r c}:Th a b r->Th (.d c :: a) b (.d c :: r)
 |p {a b r c}:uF a=true->Th a b r->Th a (.p c :: b) (.p c :: r)
 |kk {a b r}:Th a b r->Th (.k :: a) (.k :: b) (.k :: r)
 |kd {a b r c}:Th a b r->Th (.k :: a) (.d c :: b) (.d c :: r)
 |pk {a b r c}:Th a b r->Th (.p c :: a) (.k :: b) (.p c :: r)
 |pd {a b r c}:Th a b r->Th (.p c :: a) (.d c :: b) r
noncomputable def sub(L:List Tq):Tq->Tq
 |.at j=>L.getD j (.sg 0)
 |.sg c=>.sg c
theorem rV{L M:List Tq}{q:Tq}{j:Nat}(h:L.length=j):sub (L++q :: M) (.at j)=q:=by
 subst h;simp[sub]
theorem Th.told{a b r:List At}(h:Th a b r):∀(i j:Nat) (L:List Tq),L.length=j->tA i r=(tA j b).map (sub (L++tA i a)):=by
 induction h with
 |nil=>intro i j L hL;rfl
 |d h ih=>intro i j L hL;exact ih (i+1) j L hL
 |p _ h ih=>intro i j L hL;simp only[tA,List.map_cons];rw[ih i j L hL];rfl
 |kk h ih=>
  intro i j L hL;simp only[tA,List.map_cons];rw[ih (i+1) (j+1) (L++[.at i]) (by simp[hL]),rV hL];simp
 |kd h ih=>
  intro i j L hL;simp only[tA];rw[ih (i+1) (j+1) (L++[.at i]) (by simp[hL])];simp
 |@pk _ _ _ c h ih=>
  intro i j L hL;simp only[tA,List.map_cons];rw[ih i (j+1) (L++[.sg c]) (by simp[hL]),rV hL];simp
 |@pd _ _ _ c h ih=>
  intro i j L hL;simp only[tA];rw[ih i (j+1) (L++[.sg c]) (by simp[hL])];simp
theorem Th.back{a b r:List At}(h:Th a b r):∀(i j:Nat) (L:List Tq),L.length=j->tA i (r.map pX)=(tA j (a.map pX)).map (sub (L++tA i (b.map pX))):=by
 induction h with
 |nil=>intro i j L hL;rfl
 |d h ih=>intro i j L hL;simp only[List.map_cons,pX,tA];rw[ih i j L hL];rfl
 |p _ h ih=>intro i j L hL;exact ih (i+1) j L hL
 |kk h ih=>
  intro i j L hL;simp only[List.map_cons,pX,tA];rw[ih (i+1) (j+1) (L++[.at i]) (by simp[hL]),rV hL];simp
 |@kd _ _ _ c h ih=>
  intro i j L hL;simp only[List.map_cons,pX,tA];rw[ih i (j+1) (L++[.sg c]) (by simp[hL]),rV hL];simp
 |pk h ih=>
  intro i j L hL;simp only[List.map_cons,pX,tA];rw[ih (i+1) (j+1) (L++[.at i]) (by simp[hL])];simp
 |@pd _ _ _ c h ih=>
  intro i j L hL;simp only[List.map_cons,pX,tA];rw[ih i (j+1) (L++[.sg c]) (by simp[hL])];simp
theorem Th.fit{a b r:List At}(h:Th a b r):∀t,aP (aA a) t=true->aP (aA b) (dA a t)=true->aP (aA r) t=true:=by
 induction h with
 |nil=>intro t h1 _;exact h1
 |d h ih=>
  intro t h1 h2;cases t with
  |nil=>simp[aA,aP]at h1
  |cons x t=>simp only[aA,aP,Bool.and_eq_true]at h1 ⊢;exact⟨h1.1,ih t h1.2 h2⟩
 |p _ h ih=>intro t h1 h2;exact ih t h1 h2
 |kk h ih=>
  intro t h1 h2;cases t with
  |nil=>simp[aA,aP]at h1
  |cons x t=>simp only[aA,aP,Bool.and_eq_true,dA,List.take_succ_cons,List.take_zero,List.drop_succ_cons,List.drop_zero,List.singleton_append]at h1 h2 ⊢;exact⟨h1.1,ih t h1.2 h2.2⟩
 |kd h ih=>
  intro t h1 h2;cases t with
  |nil=>simp[aA,aP]at h1
  |cons x t=>simp only[aA,aP,Bool.and_eq_true,dA,List.take_succ_cons,List.take_zero,List.drop_succ_cons,List.drop_zero,List.singleton_append]at h1 h2 ⊢;exact⟨h2.1,ih t h1.2 h2.2⟩
 |pk h ih=>intro t h1 h2;simp only[aA,dA,aP,Bool.and_eq_true]at h1 h2 ⊢;exact ih t h1 h2.2
 |pd h ih=>intro t h1 h2;simp only[aA,dA,aP,Bool.and_eq_true]at h1 h2 ⊢;exact ih t h1 h2.2
theorem Th.all:∀(n:Nat) (a b:List At) (t:List Nat),a.length+b.length<=n->aP (aA a) t=true->aP (aA b) (dA a t)=true->∃r,Th a b r:=by
 intro n;induction n with
 |zero=>
  intro a b t hn _ _;obtain rfl:a=[]:=List.length_eq_zero_iff.mp (by omega);obtain rfl:b=[]:=List.length_eq_zero_iff.mp (by omega);exact⟨[],.nil⟩
 |succ n ih=>
  intro a b t hn h1 h2;cases a with
  |nil=>
   cases b with
   |nil=>exact⟨[],.nil⟩
   |cons y b=>
    cases y with
    |p c=>obtain⟨r,h⟩:=ih [] b t (by simp at hn ⊢;omega) h1 h2;exact⟨_,.p rfl h⟩
    |k=>simp[aA,dA,aP]at h2
    |d c=>simp[aA,dA,aP]at h2
  |cons x a=>
   by_cases hd:uF (x :: a)=true
   .cases b with
    |nil=>
     cases x with
     |d c=>cases hd
     |k=>cases t<;>simp[aA,dA,aP]at h1 h2
     |p c=>simp[aA,dA,aP]at h2
    |cons y b=>
     cases y with
     |p c=>obtain⟨r,h⟩:=ih (x :: a) b t (by simp at hn ⊢;omega) h1 h2;exact⟨_,.p hd h⟩
     |k=>
      cases x with
      |d c=>cases hd
      |k=>
       cases t with
       |nil=>simp[aA,aP]at h1
       |cons z t=>
        simp[aA,aP,dA]at h1 h2;obtain⟨r,h⟩:=ih a b t (by simp at hn ⊢;omega) h1 h2;exact⟨_,.kk h⟩
      |p c=>
       simp[aA,aP,dA]at h1 h2;obtain⟨r,h⟩:=ih a b t (by simp at hn ⊢;omega) h1 h2;exact⟨_,.pk h⟩
     |d c'=>
      cases x with
      |d c=>cases hd
      |k=>
       cases t with
       |nil=>simp[aA,aP]at h1
       |cons z t=>
        simp[aA,aP,dA]at h1 h2;obtain⟨r,h⟩:=ih a b t (by simp at hn ⊢;omega) h1 h2.2;exact⟨_,.kd h⟩
      |p c=>
       simp[aA,aP,dA]at h1 h2;obtain⟨rfl,h2⟩:=h2;obtain⟨r,h⟩:=ih a b t (by simp at hn ⊢;omega) h1 h2;exact⟨_,.pd h⟩
   .cases x with
    |k=>exact absurd rfl hd
    |p c=>exact absurd rfl hd
    |d c=>
     cases t with
     |nil=>simp[aA,aP]at h1
     |cons z t=>
      simp[aA,aP]at h1;obtain⟨r,h⟩:=ih a b t (by simp at hn ⊢;omega) h1.2 h2;exact⟨_,.d h⟩
theorem Th.done{a b r:List At}(h:Th a b r):∀t,aP (aA a) t=true->dA r t=dA b (dA a t):=by
 induction h with
 |nil=>intro t _;rfl
 |d h ih=>
  intro t h1;cases t with
  |nil=>simp[aA,aP]at h1
  |cons x t=>simp only[aA,aP,Bool.and_eq_true]at h1;simp only[dA];exact ih t h1.2
 |p _ h ih=>intro t h1;simp only[dA];rw[ih t h1]
 |kk h ih=>
  intro t h1;cases t with
  |nil=>simp[aA,aP]at h1
  |cons x t=>simp only[aA,aP,Bool.and_eq_true]at h1;simp[dA,ih t h1.2]
 |kd h ih=>
  intro t h1;cases t with
  |nil=>simp[aA,aP]at h1
  |cons x t=>simp only[aA,aP,Bool.and_eq_true]at h1;simp[dA,ih t h1.2]
 |pk h ih=>intro t h1;simp[dA,ih t h1]
 |pd h ih=>intro t h1;simp[dA,ih t h1]
theorem Th.cost{a b r:List At}(h:Th a b r):cA r<=cA a+cA b:=by induction h<;>simp[cA]<;>omega
theorem Th.len{a b r:List At}(h:Th a b r):r.length<=a.length+b.length:=by induction h<;>simp<;>omega
theorem Th.ds{b r:List At}:∀{s:List Nat}{a:List At},Th (s.map .d++a) b r->∃r',r=s.map .d++r'/\Th a b r'
 |[],a,h=>⟨r,rfl,h⟩
 |c :: s,a,h=>by
  cases h with
  |d h=>obtain⟨r',rfl,h'⟩:=Th.ds h;exact⟨r',rfl,h'⟩
  |p hn h=>cases hn
theorem Th.ps{a r:List At}(hn:uF a=true):∀{s:List Nat}{b:List At},Th a (s.map .p++b) r->∃r',r=s.map .p++r'/\Th a b r'
 |[],b,h=>⟨r,rfl,h⟩
 |c :: s,b,h=>by
  cases h with
  |d h=>cases hn
  |p _ h=>obtain⟨r',rfl,h'⟩:=Th.ps hn h;exact⟨r',rfl,h'⟩
theorem Th.Xf{a b r:List At}:∀{n:Nat},Th (List.replicate n .k++a) (List.replicate n .k++b) r->∃r',r=List.replicate n .k++r'/\Th a b r':=λ{n}=>by
 induction n generalizing r with
 |zero=>intro h;exact⟨r,rfl,h⟩
 |succ n ih=>intro h;cases h with|kk h=>obtain⟨r',rfl,h'⟩:=ih h;exact⟨r',rfl,h'⟩
theorem Th.Xg{a b r:List At}:∀{s:List Nat},Th (List.replicate s.length .k++a) (s.map .d++b) r->∃r',r=s.map .d++r'/\Th a b r':=λ{s}=>by
 induction s generalizing r with
 |nil=>intro h;exact⟨r,rfl,h⟩
 |cons c s ih=>intro h;cases h with|kd h=>obtain⟨r',rfl,h'⟩:=ih h;exact⟨r',rfl,h'⟩
theorem Th.Xh{a b r:List At}:∀{s:List Nat},Th (s.map .p++a) (List.replicate s.length .k++b) r->∃r',r=s.map .p++r'/\Th a b r':=λ{s}=>by
 induction s generalizing r with
 |nil=>intro h;exact⟨r,rfl,h⟩
 |cons c s ih=>intro h;cases h with|pk h=>obtain⟨r',rfl,h'⟩:=ih h;exact⟨r',rfl,h'⟩
theorem Th.Sz{a b r:List At}:∀{s s':List Nat},s.length=s'.length->Th (s.map .p++a) (s'.map .d++b) r->s=s'/\Th a b r
 |[],[],_,h=>⟨rfl,h⟩
 |[],_ :: _,hl,_=>by simp at hl
 |_ :: _,[],hl,_=>by simp at hl
 |c :: s,c' :: s',hl,h=>by cases h with|pd h=>obtain⟨rfl,h'⟩:=Th.Sz (by simpa using hl) h;exact⟨rfl,h'⟩
theorem gM:∀(a:List At) (i q:Nat),Tq.at q∈tA i a↔∃j,q=i+j/\(aA a)[j]?=some []
 |[],i,q=>by simp[tA,aA]
 |.k :: a,i,q=>by
  simp only[tA,List.mem_cons,gM a,aA];constructor
  .rintro(h|⟨j,rfl,h⟩)
   .cases h;exact⟨0,rfl,by simp⟩
   .exact⟨j+1,by omega,by simpa using h⟩
  .rintro⟨j,rfl,h⟩;cases j with
   |zero=>exact .inl rfl
   |succ j=>exact .inr ⟨j,by omega,by simpa using h⟩
 |.d c :: a,i,q=>by
  simp only[tA,gM a,aA];constructor
  .rintro⟨j,rfl,h⟩;exact⟨j+1,by omega,by simpa using h⟩
  .rintro⟨j,rfl,h⟩;cases j with
   |zero=>simp at h
   |succ j=>exact⟨j,by omega,by simpa using h⟩
 |.p c :: a,i,q=>by simp[tA,gM a,aA]
theorem tL:∀{a:List (List Nat)}{t:List Nat},aP a t=true->∀(j:Nat) x,a[j]?=some x->x=[]\/∃c,t[j]?=some c/\x=[c]
 |y :: a,c :: t,h,j,x,e=>by
  simp only[aP,Bool.and_eq_true,Bool.or_eq_true,decide_eq_true_eq]at h;cases j with
  |zero=>simp at e;subst e;exact h.1.imp id λz=>⟨c,by simp,z⟩
  |succ j=>simpa using tL h.2 j x (by simpa using e)
 |[],[],_,j,x,e=>by simp at e
 |[],_ :: _,h,_,_,_=>by simp[aP]at h
 |_ :: _,[],h,_,_,_=>by simp[aP]at h
theorem Di{a:List At}{A:List (List Nat)}{t:List Nat}(ha:aP (aA a) t=true)(hb:aP A t=true)(h:∀q:Nat,Tq.at q∈tA 0 a↔A[q]?=some []):aA a=A:=by
 have la:=qy ha;have lb:=qy hb;apply List.ext_getElem?;intro j;by_cases hj:j<t.length
 .obtain⟨x,hx⟩:∃x,(aA a)[j]?=some x:=⟨_,List.getElem?_eq_getElem (by omega)⟩
  obtain⟨y,hy⟩:∃y,A[j]?=some y:=⟨_,List.getElem?_eq_getElem (by omega)⟩
  have k1:=gM a 0 j;rw[h j,hy]at k1;have hxy:x=[]↔y=[]:=by
   constructor
   .rintro rfl;have:=k1.mpr ⟨j,by omega,hx⟩;cases this;rfl
   .rintro rfl;obtain⟨i,hi,e⟩:=k1.mp rfl;obtain rfl:i=j:=by omega
    rw[e]at hx;cases hx;rfl
  rw[hx,hy];rcases tL ha j x hx with SA|⟨c,hc,MM⟩
  .rw[SA,hxy.mp SA]
  .rcases tL hb j y hy with SD|⟨c',hc',hy1⟩
   .rw[SD,hxy.mpr SD]
   .rw[hc]at hc';cases hc';rw[MM,hy1]
 .rw[List.getElem?_eq_none (by omega),List.getElem?_eq_none (by omega)]
theorem Dj{a b:List At}{t:List Nat}(ha:aP (aA a) t=true)(hb:aP (aA b) t=true)(h:tA 0 a=tA 0 b):aA a=aA b:=
 Di ha hb λq=>by
  rw[h,gM b 0 q];constructor
  .rintro⟨j,hj,e⟩;obtain rfl:q=j:=by omega
   exact e
  .intro e;exact⟨q,by omega,e⟩
theorem Dk{a b:List Pt}{t:List Nat}(ha:bG a t=true)(hb:bG b t=true)(h:told 0 a=told 0 b):aC a=aC b:=by
 rw[qw];rw[jk]at ha hb;have h':=h;rw[dJ]at ha hb;rw[cZ,cZ]at h';have:=Dj ha hb h';simp only[ji,h,dJ,this]
theorem sub_sub(L M:List Tq)(q:Tq):sub M (sub L q)=sub (L.map (sub M)) q:=by
 cases q with
 |sg c=>rfl
 |«at» j=>
  simp only[sub,List.getD_eq_getElem?_getD,List.getElem?_map];cases L[j]?<;>rfl
theorem Fz(L M T:List Tq):(T.map (sub L)).map (sub M)=T.map (sub (L.map (sub M))):=by
 rw[List.map_map];exact List.map_congr_left λq _=>sub_sub L M q
theorem FA{a:List At}{M:List Tq}(h:∀j:Nat,(aA a)[j]?=some []->M[j]?=some (Tq.at j)):(tA 0 a).map (sub M)=tA 0 a:=by
 refine(List.map_congr_left λq hq=>?_).trans (List.map_id _);cases q with
 |sg c=>rfl
 |«at» j=>
  obtain⟨i,hi,e⟩:=(gM a 0 j).mp hq;obtain rfl:i=j:=by omega
  simp[sub,h i e]
theorem J8(L:List Tq):((List.range L.length).map Tq.at).map (sub L)=L:=by
 apply List.ext_getElem?;intro i;by_cases h:i<L.length
 .simp[sub,h]
 .rw[List.getElem?_eq_none (by simp;omega),List.getElem?_eq_none (by omega)]
theorem wY{c:List Pt}{t:List Nat}(h:bG c t=true):(aF c t).length=cQ c:=by
 rw[o8 (wQ c t h).1,Od]
end Pv
namespace Pv
open Ev (D bF bu TY BI ME T E Es Eo It S Ss Fn big deep b2i rep bY dj bK aO cut cj dQ slots)
noncomputable def FD(tM:Nat)(qz:Nat):S:=.iff (.cmp .ne (.cl tM (.cons (.v 0) .nil)) (.cl qz (.cons (.v 1) .nil))) (.cons (.fk 0) .nil) .nil
noncomputable def FE(dU:Nat):S:=.set 2 (.eH (.rev (.cl dU (.cons (.v 0) .nil))))
noncomputable def FF(dU:Nat):S:=.set 3 (.eH (.rev (.cl dU (.cons (.v 1) .nil))))
noncomputable def FG:S:=.set 4 (.lst .nil)
noncomputable def jA(dB:Nat)(rW:Nat)(j4:Nat):Ss:=(.cons (.iff (.an (.v 2) (.cmp .eq (.ix (.ix (.v 2) (.neg (.c (.int 1)))) (.c (.int 0))) (.c (.str [100,114,111,112])))) (.cons (.exp (.me .append (.v 4) (.cons (.me .pop (.v 2) .nil) .nil))) .nil) (.cons (.iff (.an (.v 3) (.cmp .eq (.ix (.ix (.v 3) (.neg (.c (.int 1)))) (.c (.int 0))) (.c (.str [112,117,116])))) (.cons (.exp (.me .append (.v 4) (.cons (.me .pop (.v 3) .nil) .nil))) .nil) (.cons (.set 5 (.bi .min (.cons (.cl dB (.cons (.ix (.v 2) (.neg (.c (.int 1)))) .nil)) (.cons (.cl dB (.cons (.ix (.v 3) (.neg (.c (.int 1)))) .nil)) .nil)))) (.cons (.exp (.me .extend (.v 4) (.cons (.cl rW (.cons (.cl j4 (.cons (.v 2) (.cons (.v 5) .nil))) (.cons (.cl j4 (.cons (.v 3) (.cons (.v 5) .nil))) .nil))) .nil))) .nil))) .nil)) .nil)
noncomputable def FH(dB:Nat)(rW:Nat)(j4:Nat):S:=.jH (.orr (.v 2) (.v 3)) (jA dB rW j4)
noncomputable def FJ(dU:Nat):S:=.ret (.cl dU (.cons (.jm (.v 4)) .nil))
noncomputable def gp(tM:Nat)(qz:Nat)(dU:Nat)(dB:Nat)(rW:Nat)(j4:Nat):Fn:=⟨2,6,(.cons (FD tM qz) (.cons (FE dU) (.cons (FF dU) (.cons FG (.cons (FH dB rW j4) (.cons (FJ dU) .nil))))))⟩
noncomputable def wZ(fT:Nat):S:=.set 2 (.cl fT (.cons (.v 0) .nil))
noncomputable def w9(oq:Nat):Ss:=(.cons (.set 2 (.cl oq (.cons (.v 2) (.cons (.v 3) .nil)))) .nil)
noncomputable def xg(oq:Nat):S:=.for (.one 3) (.seq (.v 1)) (w9 oq)
noncomputable def xj:S:=.ret (.v 2)
noncomputable def j0(fT:Nat)(oq:Nat):Fn:=⟨2,4,(.cons (wZ fT) (.cons (xg oq) (.cons xj .nil)))⟩
noncomputable def J9:S:=.iff (.cmp .eq (.ix (.v 1) (.c (.int 0))) (.c (.str [107,101,101,112]))) (.cons (.ret (.lst (.cons (.v 0) .nil))) .nil) .nil
noncomputable def Ka:S:=.iff (.cmp .eq (.ix (.v 0) (.c (.int 0))) (.c (.str [107,101,101,112]))) (.cons (.ret (.lst (.cons (.v 1) .nil))) .nil) .nil
noncomputable def Kc:S:=.iff (.cmp .ne (.ix (.v 0) (.c (.int 1))) (.ix (.v 1) (.c (.int 1)))) (.cons (.fk 0) .nil) .nil
noncomputable def Kd:S:=.ret (.lst .nil)
noncomputable def mQ:Fn:=⟨2,2,(.cons J9 (.cons Ka (.cons Kc (.cons Kd .nil))))⟩
noncomputable def Dl(qA:Nat):S:=.set 2 (.cl qA (.cons (.me .pop (.v 0) .nil) (.cons (.v 1) .nil)))
noncomputable def Dm(dB:Nat):S:=.iff (.cmp .gt (.cl dB (.cons (.ix (.v 2) (.c (.int 1))) .nil)) (.c (.int 0))) (.cons (.exp (.me .append (.v 0) (.cons (.ix (.v 2) (.c (.int 1))) .nil))) .nil) .nil
noncomputable def Dn:S:=.ret (.ix (.v 2) (.c (.int 0)))
noncomputable def jB(qA:Nat)(dB:Nat):Fn:=⟨2,3,(.cons (Dl qA) (.cons (Dm dB) (.cons Dn .nil)))⟩
noncomputable def AX:S:=.set 2 (.ix (.v 0) (.c (.int 0)))
noncomputable def A2:S:=.iff (.cmp .eq (.v 2) (.c (.str [107,101,101,112]))) (.cons (.ret (.tup (.cons (.tup (.cons (.v 2) (.cons (.v 1) .nil))) (.cons (.tup (.cons (.v 2) (.cons (.bin .sub (.ix (.v 0) (.c (.int 1))) (.v 1)) .nil))) .nil)))) .nil) .nil
noncomputable def A3:S:=.ret (.tup (.cons (.tup (.cons (.v 2) (.cons (.sl (.ix (.v 0) (.c (.int 1))) .no (.yes (.v 1))) .nil))) (.cons (.tup (.cons (.v 2) (.cons (.sl (.ix (.v 0) (.c (.int 1))) (.yes (.v 1)) .no) .nil))) .nil)))
noncomputable def gO:Fn:=⟨2,3,(.cons AX (.cons A2 (.cons A3 .nil)))⟩
noncomputable def Pt.tk(m:Nat):Pt->Pt
 |.keep _=>.keep m
 |.put s=>.put (s.take m)
 |.drop s=>.drop (s.take m)
noncomputable def Pt.dp(m:Nat):Pt->Pt
 |.keep k=>.keep (k - m)
 |.put s=>.put (s.drop m)
 |.drop s=>.drop (s.drop m)
theorem uY{α:Type}(l:List α)(m:Nat):cut l none (some (m:Int))=l.take m:=by
 have h1:¬ (m:Int)<0:=by omega
 simp only[cut,aO,h1,if_false,Int.toNat_natCast,List.drop_zero,Nat.sub_zero];by_cases h:m<=l.length
 .rw[Nat.min_eq_left h]
 .rw[Nat.min_eq_right (by omega),List.take_of_length_le (Nat.le_refl _),List.take_of_length_le (by omega)]
theorem A4{α:Type}(l:List α)(m:Nat):cut l (some (m:Int)) none=l.drop m:=by
 have h1:¬ (m:Int)<0:=by omega
 simp only[cut,aO,h1,if_false,Int.toNat_natCast];by_cases h:m<=l.length
 .rw[Nat.min_eq_left h,List.take_of_length_le (by simp)]
 .rw[Nat.min_eq_right (by omega),List.drop_eq_nil_of_le (Nat.le_refl _),List.drop_eq_nil_of_le (by omega)];simp
section
variable{F:List Fn}{w n bC av bh aK aV aQ bB aR cC gq i:Nat}
theorem A5(hf:F[i]?=some gO)(p:Pt)(m:Nat)(h:m<=p.n):run F w (n+1) i [.val p.v,.val (.int m)]=some (.tup [(p.tk m).v,(p.dp m).v],[]):=by
 refine cO hf rfl ?_;cases p with
 |keep k=>
  refine ai (aY (by repeat array_get_dec) rfl rfl ?_);refine ai (aN (by repeat array_get_dec) (λ_=>?_) λh=>absurd h (by decide));refine ai (bZ (by repeat array_get_dec) ⟨?_,rfl⟩);have:(k:Int) - m=((k - m:Nat):Int):=by simp only[Pt.n]at h;omega
  exact congrArg (λz=>Fl.ret (V.tup [V.tup [V.str eT,V.int m],V.tup [V.str eT,V.int z]])) this
 |put s=>
  have c1:gg (.str s) none (some (m:Int))=some (.str (s.take m)):=by rw[iR,uY]
  have c2:gg (.str s) (some (m:Int)) none=some (.str (s.drop m)):=by rw[iR,A4]
  refine ai (aY (by repeat array_get_dec) rfl rfl ?_);refine ai (aN (by repeat array_get_dec) (λh=>absurd h (by decide)) λ_=>ay ?_);exact ai (bZ (by repeat array_get_dec) ⟨rfl,rfl⟩)
 |drop s=>
  have c1:gg (.str s) none (some (m:Int))=some (.str (s.take m)):=by rw[iR,uY]
  have c2:gg (.str s) (some (m:Int)) none=some (.str (s.drop m)):=by rw[iR,A4]
  refine ai (aY (by repeat array_get_dec) rfl rfl ?_);refine ai (aN (by repeat array_get_dec) (λh=>absurd h (by decide)) λ_=>ay ?_);exact ai (bZ (by repeat array_get_dec) ⟨rfl,rfl⟩)
theorem tN(m:Nat)(p:Pt):(p.dp m).n=p.n - m:=by cases p<;>simp[Pt.dp,Pt.n]
theorem kY(hs:F[av]?=some gm)(hp:F[bC]?=some gO)(hf:F[i]?=some (jB bC av))(L:List V)(p:Pt)(m:Nat)(h:m<=p.n)(hn:p.n<=100000)(hL:L.length<=10000) :
  run F w (n+2) i [.bor (L++[p.v]),.val (.int m)]=some ((p.tk m).v,[L++if 0<p.n - m then [(p.dp m).v]else []]):=by
 refine cO hf rfl ?_;have c1:=λfr=>call2 (fr:=fr) (A5 (F:=F) (w:=w) (n:=n) hp p m h);have c2:=λfr=>cg (fr:=fr) (jy (F:=F) (w:=w) (n:=n) hs (p.dp m) (by rw[tN];omega));have po:∀fr:Fr,ig .pop 0 [] fr (some (some (.bor (L++[p.v]))))=.ok p.v (fr.set 0 (some (.bor L))):=λfr=>JV;have ap:∀fr:Fr,ig .append 0 [(p.dp m).v] fr (some (some (.bor L)))=.ok .aL (fr.set 0 (some (.bor (L++[(p.dp m).v])))):=λfr=>JU (by omega);refine ai (aY (by (repeat (first|array_get_dec|exact po _|exact c1 _))) rfl rfl ?_);refine ai (aN (by (repeat (first|array_get_dec|exact c2 _))) (λh=>?_) λh=>?_)
 .have h':=of_decide_eq_true h;rw[tN]at h';rw[if_pos (by omega)];refine ai (iC (by (repeat (first|array_get_dec|exact ap _))) (ay ?_));exact ai (bZ (by repeat array_get_dec) ⟨rfl,rfl⟩)
 .have h':=of_decide_eq_false h;rw[tN]at h';rw[if_neg (by omega),List.append_nil];exact ay (ai (bZ (by repeat array_get_dec) ⟨rfl,rfl⟩))
noncomputable def gc:Pt->Pt->Option (List Pt)
 |l,.keep _=>some [l]
 |.keep _,g=>some [g]
 |.put s,.drop s'=>if s=s' then some []else none
 |_,_=>none
theorem Ke(hf:F[i]?=some mQ)(p q:Pt)(r:List Pt)(h:gc p q=some r):run F w (n+1) i [.val p.v,.val q.v]=some (.lst (r.map Pt.v),[]):=by
 refine cO hf rfl ?_;cases q with
 |keep k=>
  simp only[gc,Option.some.injEq]at h;subst h;refine ai (aN (by repeat array_get_dec) (λ_=>?_) λh=>absurd h (by decide));exact ai (bZ (by repeat array_get_dec) ⟨rfl,rfl⟩)
 |put s=>
  cases p<;>simp[gc]at h
  subst h;refine ai (aN (by repeat array_get_dec) (λh=>absurd h (by decide)) λ_=>ay ?_);refine ai (aN (by repeat array_get_dec) (λ_=>?_) λh=>absurd h (by decide));exact ai (bZ (by repeat array_get_dec) ⟨rfl,rfl⟩)
 |drop s'=>
  cases p with
  |keep k=>
   simp only[gc,Option.some.injEq]at h;subst h;refine ai (aN (by repeat array_get_dec) (λh=>absurd h (by decide)) λ_=>ay ?_);refine ai (aN (by repeat array_get_dec) (λ_=>?_) λh=>absurd h (by decide));exact ai (bZ (by repeat array_get_dec) ⟨rfl,rfl⟩)
  |drop s=>simp[gc]at h
  |put s=>
   simp only[gc]at h;split at h
   .rename_i hs;subst hs;cases h;refine ai (aN (by repeat array_get_dec) (λh=>absurd h (by decide)) λ_=>ay ?_);refine ai (aN (by repeat array_get_dec) (λh=>absurd h (by decide)) λ_=>ay ?_);refine ai (aN (by repeat array_get_dec) (λh=>?_) λ_=>ay ?_)
    .simp at h
    .exact ai (bZ (by repeat array_get_dec) ⟨rfl,rfl⟩)
   .cases h
theorem dY{l:List V}{v:V}:fP (.lst (l++[v])) (.int (-1))=some v:=by rw[zf,NZ];simp
theorem eV{l:List V}{v:V}:truthy (.lst (l++[v]))=true:=by simp
theorem uZ{P:aI}{f i:Nat}{fr:Fr}{b v:V}{l l':List V}(e:fr[i]?=some (some (.own l)))(h:P f [.bor l,.val b]=some (v,[l'])):eO P f [.inl i,.inr b] fr=.ok v (fr.set i (some (.own l'))):=by
 have e1:lent fr i=some (.bor l):=by rw[JQ,e];rfl
 simp[eO,bM,args,e1,h,back,e,Sl.with]
theorem dM{c:List Pt}(h:kJ c=true):∀p∈c,0<p.n:=λp hp=>by
 simp only[kJ,Bool.and_eq_true,List.all_eq_true]at h;have:=h.2 p hp;simp only[Hu,bne_iff_ne,ne_eq]at this;omega
theorem dZ:∀{c:List Pt},(∀p∈c,0<p.n)->c.length<=tot c
 |[],_=>by simp[tot]
 |p :: c,h=>by
  have h1:=h p (by simp);have h2:=dZ (c:=c) λq hq=>h q (by simp[hq]);rw[bw,List.length_cons];omega
theorem r8{p:Pt}{m:Nat}(h:m<=p.n):(p.tk m).aH++(p.dp m).aH=p.aH/\(p.tk m).n=m:=by
 cases p with
 |keep k=>simp only[Pt.n]at h;simp[Pt.tk,Pt.dp,Pt.aH,Pt.n,h]
 |put s=>simp only[Pt.n]at h;simp[Pt.tk,Pt.dp,Pt.aH,Pt.n,h,<-List.map_append]
 |drop s=>simp only[Pt.n]at h;simp[Pt.tk,Pt.dp,Pt.aH,Pt.n,h,<-List.map_append]
noncomputable def iu(m:Nat)(p:Pt):List Pt:=if 0<p.n - m then [p.dp m]else []
theorem o9{p:Pt}{m:Nat}(h:m<=p.n):p.aH=(p.tk m).aH++aH (iu m p):=by
 rw[<- (r8 h).1]
 congr 1
 unfold iu;split
 .simp[aH]
 .rename_i hz;have:(p.dp m).aH.length=0:=by rw[wW,tN];omega
  rw[List.length_eq_zero_iff.mp this];rfl
theorem pe(m:Nat)(p:Pt):∀q∈iu m p,0<q.n:=λq hq=>by
 unfold iu at hq;split at hq
 .simp at hq;subst hq;rw[tN];omega
 .simp at hq
theorem zC(m:Nat)(p:Pt)(A:List Pt):((iu m p++A).map Pt.v).reverse=(A.map Pt.v).reverse++if 0<p.n - m then [(p.dp m).v]else []:=by
 unfold iu;split<;>simp
theorem iS(m:Nat)(p:Pt):tot (iu m p)=p.n - m:=by
 unfold iu;split
 .simp[tot,tN]
 .simp[tot];omega
theorem j5{m:Nat}{p:Pt}:cF (p.tk m)=cF p/\cX (p.tk m)=cX p:=by cases p<;>exact⟨rfl,rfl⟩
theorem Of{A B r:List At}(p q:Pt)(hp:cF p=false)(hq:cX q=false)(hn:p.n=q.n)(h:Th (p.aH++A) (q.aH++B) r):∃m r',gc p q=some m/\m.length<=1/\r=aH m++r'/\Th A B r':=by
 cases p with
 |drop s=>cases hp
 |keep k=>
  cases q with
  |put s=>cases hq
  |keep k'=>simp only[Pt.n]at hn;subst hn;obtain⟨r',rfl,h'⟩:=Th.Xf h;exact⟨[.keep k],r',rfl,by simp,by simp[aH,Pt.aH],h'⟩
  |drop s=>simp only[Pt.n]at hn;subst hn;obtain⟨r',rfl,h'⟩:=Th.Xg h;exact⟨[.drop s],r',rfl,by simp,by simp[aH,Pt.aH],h'⟩
 |put s=>
  cases q with
  |put s'=>cases hq
  |keep k'=>simp only[Pt.n]at hn;subst hn;obtain⟨r',rfl,h'⟩:=Th.Xh h;exact⟨[.put s],r',rfl,by simp,by simp[aH,Pt.aH],h'⟩
  |drop s'=>simp only[Pt.n]at hn;obtain⟨rfl,h'⟩:=Th.Sz hn h;exact⟨[],r,by simp[gc],by simp,by simp[aH],h'⟩
structure Tn(one other c:List Pt)(t:List Nat):Prop where
 zD:aC c=c
 fit:bG c t=true
 dn:aF c t=aF other (aF one t)
 xq:told 0 c=(told 0 other).map (sub (told 0 one))
 Og:told 0 (sw c)=(told 0 (sw one)).map (sub (told 0 (sw other)))
 cs:cst c<=cst one+cst other
 tt:tot c<=tot one+tot other
 ln:c.length<=tot c
 th:∃ps,c=aC ps/\Th (aH (aC one)) (aH (aC other)) (aH ps)
theorem QK{one other ps:List Pt}{t:List Nat}(h1:bG one t=true)(h2:bG other (aF one t)=true)(h:Th (aH (aC one)) (aH (aC other)) (aH ps)):Tn one other (aC ps) t:=by
 have f1:aP (aA (aH (aC one))) t=true:=by rw[<-dJ,eG,<-jk];exact h1
 have f2:aP (aA (aH (aC other))) (dA (aH (aC one)) t)=true:=by rw[<-dJ,eG,<-kL,gK,<-jk];exact h2
 have b:=h.back 0 0 [] rfl;rw[<-wX,<-wX,<-wX,<-cZ,<-cZ,<-cZ]at b;have sf:∀c i,told i (sw (aC c))=told i (sw c):=λc i=>by
  have:=congrArg (told i) (zA (kW c));rwa [b9,b9]at this
 refine⟨kW _,?_,?_,?_,?_,?_,?_,dZ (dM (cG _)),ps,rfl,h⟩
 .rw[qx,jk,dJ];exact h.fit t f1 f2
 .rw[gK,kL,h.done t f1,<-kL,gK,<-kL,gK]
 .have:=h.told 0 0 [] rfl;rw[<-cZ,<-cZ,<-cZ,b9,b9]at this;rw[b9];exact this
 .rw[sf,<-sf one,<-sf other];exact b
 .have:=h.cost;rw[<-tK,<-tK,<-tK,qv,qv]at this;rw[qv];exact this
 .have:=h.len;rw[fc,fc,fc,dI,dI]at this;rw[dI];exact this
section
variable(hs:F[av]?=some gm)(hp:F[bC]?=some gO)(ht:F[aK]?=some (jB bC av))(hm:F[bh]?=some mQ){one other:List Pt}{r:List At}{N:Nat}(hN:N<=5000)
noncomputable def bN(one other A B C:List Pt)(a:Option Sl):Fr:=[some (.val (aB one)),some (.val (aB other)),some (.own (A.map Pt.v).reverse),some (.own (B.map Pt.v).reverse),some (.own (C.map Pt.v)),a]
noncomputable def Oh(one other:List Pt)(r:List At)(N k:Nat)(fr:Fr):Prop:=∃A B C r' a,Th (aH A) (aH B) r'/\aH C++r'=r/\(∀p∈A,0<p.n)/\(∀p∈B,0<p.n)/\C.length+k<=N/\k=tot A+tot B/\vo a/\fr=bN one other A B C a
include hs hp ht hm hN
noncomputable def sd(av bh aK:Nat):Ss:=(.cons (.set 5 (.bi .min (.cons (.cl av (.cons (.ix (.v 2) (.neg (.c (.int 1)))) .nil)) (.cons (.cl av (.cons (.ix (.v 3) (.neg (.c (.int 1)))) .nil)) .nil)))) (.cons (.exp (.me .extend (.v 4) (.cons (.cl bh (.cons (.cl aK (.cons (.v 2) (.cons (.v 5) .nil))) (.cons (.cl aK (.cons (.v 3) (.cons (.v 5) .nil))) .nil))) .nil))) .nil))
noncomputable def mj(av bh aK:Nat):Ss:=.cons (.iff (.an (.v 3) (.cmp .eq (.ix (.ix (.v 3) (.neg (.c (.int 1)))) (.c (.int 0))) (.c (.str [112,117,116])))) (.cons (.exp (.me .append (.v 4) (.cons (.me .pop (.v 3) .nil) .nil))) .nil) (sd av bh aK)) .nil
noncomputable def xr(one other:List Pt)(r:List At)(N t:Nat)(g:Fl)(fr:Fr):Prop:=g=.nx/\∃j,j<t/\Oh one other r N j fr
omit hs hp ht hm hN in
theorem sj{C:List Pt}(lC:C.length<=5000)(d:Pt)(fr:Fr):ig .append 4 [d.v] fr (some (some (.own (C.map Pt.v))))=.ok .aL (fr.set 4 (some (.own ((C++[d]).map Pt.v)))):=by
 rw[List.map_append];exact zl (by simp;omega)
omit hs hp ht hm in
theorem xu(A B C:List Pt)(s:List Nat)(r':List At)(a:Option Sl)(h:Th (aH A) (aH (.put s :: B)) r')(hn:uF (aH A)=true)(hC:aH C++r'=r)(hA:∀p∈A,0<p.n)(hB:∀p∈(.put s :: B),0<p.n)(hk:C.length+(tot A+tot (.put s :: B))<=N)(ha:vo a) :
  Wp (exs (run F w (n+2)) w (mj av bh aK) (bN one other A (.put s :: B) C a)) (xr one other r N (tot A+tot (.put s :: B))):=by
 have lC:C.length<=5000:=by omega
 rw[b7]at h;obtain⟨r2,e2,h2⟩:=Th.ps hn h;have hs1:=hB (.put s) (by simp);unfold bN;rw[List.map_cons,List.reverse_cons];refine ai (aN (fq (aG rfl (az rfl) eV) (by (repeat (first|array_get_dec|exact dY)))) (λ_=>?_) λh=>absurd h (by decide));refine ai (iC (by (repeat (first|array_get_dec|exact oY|exact sj lC _ _))) (ay (ay ?_)));refine⟨rfl,tot A+tot B,by rw[bw];omega,A,B,C++[.put s],r2,a,h2,?_,hA,λx hx=>hB x (by simp[hx]),?_,rfl,ha,rfl⟩
 .rw[<-hC,e2,jz];simp[aH,Pt.aH]
 .rw[bw]at hk;simp;omega
omit hN in
theorem Dp(A B C mm:List Pt)(p q:Pt)(m:Nat)(a:Option Sl)(mn:dS .min [.int p.n,.int q.n]=some (.int m))(hm1:m<=p.n)(hm2:m<=q.n)(lp:p.n<=5000)(lq:q.n<=5000)(lA:A.length<=5000)(lB:B.length<=5000)(lC:C.length+mm.length<=10000)(e1:gc (p.tk m) (q.tk m)=some mm)(ha:vo a)(Q:Fl->Fr->Prop)
  (hQ:Q .nx (bN one other (iu m p++A) (iu m q++B) (C++mm) (some (.val (.int m))))):Wp (exs (run F w (n+2)) w (sd av bh aK) (bN one other (p :: A) (q :: B) C a)) Q:=by
 have z1:=λfr=>cg (fr:=fr) (jy (F:=F) (w:=w) (n:=n+1) hs p (Nat.le_trans lp (by decide)));have z2:=λfr=>cg (fr:=fr) (jy (F:=F) (w:=w) (n:=n+1) hs q (Nat.le_trans lq (by decide)));have t1:=kY (F:=F) (w:=w) (n:=n) hs hp ht (A.map Pt.v).reverse p m hm1 (by omega) (by simp;omega);have t2:=kY (F:=F) (w:=w) (n:=n) hs hp ht (B.map Pt.v).reverse q m hm2 (by omega) (by simp;omega);rw[<-zC]at t1 t2;have cm:=λfr=>call2 (fr:=fr) (Ke (F:=F) (w:=w) (n:=n+1) hm _ _ mm e1);have ex:∀fr:Fr,ig .extend 4 [.lst (mm.map Pt.v)] fr (some (some (.own (C.map Pt.v))))=.ok .aL (fr.set 4 (some (.own ((C++mm).map Pt.v)))):=λfr=>by
  rw[List.map_append];exact zm (by simp;omega)
 unfold bN at hQ ⊢;rw[List.map_cons,List.reverse_cons,List.map_cons,List.reverse_cons];refine ai (aY (by (repeat (first|array_get_dec|exact dY|exact z1 _|exact z2 _))) rfl (gG rfl ha) ?_);exact ai (iC (by (repeat (first|array_get_dec|exact uZ rfl t1|exact uZ rfl t2|exact cm _|exact ex _))) (ay hQ))
theorem FL(A B C:List Pt)(p q:Pt)(r':List At)(a:Option Sl)(hd:cF p=false)(hq:cX q=false)(h:Th (aH (p :: A)) (aH (q :: B)) r')(hC:aH C++r'=r)(hA:∀x∈p :: A,0<x.n)(hB:∀x∈q :: B,0<x.n)(hk:C.length+(tot (p :: A)+tot (q :: B))<=N)(ha:vo a) :
  Wp (exs (run F w (n+2)) w (mj av bh aK) (bN one other (p :: A) (q :: B) C a)) (xr one other r N (tot (p :: A)+tot (q :: B))):=by
 have hp0:=hA p (by simp);have XQ:=hB q (by simp);obtain⟨m,hm1,hm2,Xi⟩:∃m:Nat,m<=p.n/\m<=q.n/\(m=p.n\/m=q.n):=⟨min p.n q.n,by omega,by omega,by omega⟩
 have mn:dS .min [.int p.n,.int q.n]=some (.int m):=by
  rw[CG];split
  .congr 2;omega
  .congr 2;omega
 rw[bw,bw]at hk;have lA:=dZ (c:=A) λx hx=>hA x (by simp[hx]);have lB:=dZ (c:=B) λx hx=>hB x (by simp[hx]);have h3:Th ((p.tk m).aH++aH (iu m p++A)) ((q.tk m).aH++aH (iu m q++B)) r':=by
  rw[jz,jz,<-List.append_assoc,<-List.append_assoc,<-o9 hm1,<-o9 hm2,<-b7,<-b7];exact h
 obtain⟨mm,r2,e1,e2,e3,h4⟩:=Of (p.tk m) (q.tk m) (by rw[j5.1];exact hd) (by rw[j5.2];exact hq) (by rw[(r8 hm1).2,(r8 hm2).2]) h3;have fin:xr one other r N (tot (p :: A)+tot (q :: B)) .nx (bN one other (iu m p++A) (iu m q++B) (C++mm) (some (.val (.int m)))):=by
  refine⟨rfl,_,?_,_,_,_,r2,_,h4,?_,?_,?_,?_,rfl,.val,rfl⟩
  .rw[eX,eX,iS,iS,bw,bw];omega
  .rw[jz,List.append_assoc,<-e3];exact hC
  .intro x hx;rcases List.mem_append.mp hx with hx|hx
   .exact pe m p x hx
   .exact hA x (List.mem_cons_of_mem _ hx)
  .intro x hx;rcases List.mem_append.mp hx with hx|hx
   .exact pe m q x hx
   .exact hB x (List.mem_cons_of_mem _ hx)
  .rw[eX,eX,iS,iS,List.length_append];omega
 have st:=Dp (one:=one) (other:=other) (w:=w) (n:=n) hs hp ht hm A B C mm p q m a mn hm1 hm2 (by omega) (by omega) (by omega) (by omega) (by omega) e1 ha _ (show nx (run F w (n+2)) w .nil (xr one other r N (tot (p :: A)+tot (q :: B))) .nx _ from ay fin);unfold bN at st ⊢;rw[List.map_cons,List.reverse_cons,List.map_cons,List.reverse_cons]at st ⊢;cases q with
 |put s=>cases hq
 |keep k=>exact ai (aN (fq (aG rfl (az rfl) eV) (by (repeat (first|array_get_dec|exact dY)))) (λh=>absurd h (by decide)) λ_=>st)
 |drop s=>exact ai (aN (fq (aG rfl (az rfl) eV) (by (repeat (first|array_get_dec|exact dY)))) (λh=>absurd h (by decide)) λ_=>st)
omit hs hp ht hm hN in
theorem SE{b r:List At}{x:At}(h:Th [] (x :: b) r):∃c,x=.p c:=by cases h with|p=>exact⟨_,rfl⟩
omit hs hp ht hm hN in
theorem SG{a r:List At}{x:At}(h:Th (x :: a) [] r):∃c,x=.d c:=by cases h with|d=>exact⟨_,rfl⟩
theorem uG(A B C:List Pt)(r':List At)(a:Option Sl)(hne:A≠[]\/B≠[])(h:Th (aH A) (aH B) r')(hC:aH C++r'=r)(hA:∀p∈A,0<p.n)(hB:∀p∈B,0<p.n)(hk:C.length+(tot A+tot B)<=N)(ha:vo a) :
  Wp (exs (run F w (n+2)) w (jA av bh aK) (bN one other A B C a)) (xr one other r N (tot A+tot B)):=by
 cases A with
 |nil=>
  cases B with
  |nil=>exact absurd hne (by simp)
  |cons q B'=>
   refine ai (aN (wF (aG rfl (az rfl) rfl)) (λh=>absurd h (by decide)) λ_=>?_);have hq:=hB q (by simp);cases q with
   |put s=>exact(xu hN [] B' C s r' a h rfl hC hA hB hk ha).mono λg fr ⟨hg,hx⟩=>by subst hg;exact ay ⟨rfl,hx⟩
   |keep k=>
    rw[b7]at h;cases k with
    |zero=>exact absurd hq (Nat.lt_irrefl 0)
    |succ k=>obtain⟨c,e⟩:=SE (x:=.k) h;cases e
   |drop s=>
    rw[b7]at h;cases s with
    |nil=>exact absurd hq (Nat.lt_irrefl 0)
    |cons c s=>obtain⟨c,e⟩:=SE (x:=.d c) h;cases e
 |cons p A'=>
  have hp0:=hA p (by simp);cases hd:cF p with
  |true=>
   cases p with
   |keep k=>cases hd
   |put s=>cases hd
   |drop s=>
    have lC:C.length<=5000:=by omega
    rw[b7]at h;obtain⟨r2,e2,h2⟩:=Th.ds h;unfold bN;rw[List.map_cons,List.reverse_cons];refine ai (aN (fq (aG rfl (az rfl) eV) (by (repeat (first|array_get_dec|exact dY)))) (λ_=>?_) λh=>absurd h (by decide));refine ai (iC (by (repeat (first|array_get_dec|exact oY|exact sj lC _ _))) (ay (ay ?_)));refine⟨rfl,tot A'+tot B,by rw[bw];omega,A',B,C++[.drop s],r2,a,h2,?_,λx hx=>hA x (by simp[hx]),hB,?_,rfl,ha,rfl⟩
    .rw[<-hC,e2,jz];simp[aH,Pt.aH]
    .rw[bw]at hk;simp;omega
  |false=>
   have st:Wp (exs (run F w (n+2)) w (mj av bh aK) (bN one other (p :: A') B C a)) (xr one other r N (tot (p :: A')+tot B)):=by
    cases B with
    |nil=>
     exfalso;rw[b7]at h;cases p with
     |drop s=>cases hd
     |keep k=>cases k with|zero=>exact absurd hp0 (Nat.lt_irrefl 0)|succ k=>obtain⟨c,e⟩:=SG (x:=.k) h;cases e
     |put s=>cases s with|nil=>exact absurd hp0 (Nat.lt_irrefl 0)|cons c s=>obtain⟨c,e⟩:=SG (x:=.p c) h;cases e
    |cons q B'=>
     cases hq:cX q with
     |true=>
      have hnd:uF (aH (p :: A'))=true:=by
       rw[b7];cases p with
       |drop s=>cases hd
       |keep k=>cases k<;>first|exact absurd hp0 (Nat.lt_irrefl 0)|rfl
       |put s=>cases s<;>first|exact absurd hp0 (Nat.lt_irrefl 0)|rfl
      cases q with
      |keep k=>cases hq
      |drop s=>cases hq
      |put s=>exact xu hN (p :: A') B' C s r' a h hnd hC hA hB hk ha
     |false=>exact FL hs hp ht hm hN A' B' C p q r' a hd hq h hC hA hB hk ha
   replace st:=st.mono (Q':=nx (run F w (n+2)) w .nil (xr one other r N (tot (p :: A')+tot B))) λg fr ⟨hg,hx⟩=>by subst hg;exact ay ⟨rfl,hx⟩
   unfold bN at st ⊢;rw[List.map_cons,List.reverse_cons]at st ⊢;cases p with
   |drop s=>cases hd
   |keep k=>exact ai (aN (fq (aG rfl (az rfl) eV) (by (repeat (first|array_get_dec|exact dY)))) (λh=>absurd h (by decide)) λ_=>st)
   |put s=>exact ai (aN (fq (aG rfl (az rfl) eV) (by (repeat (first|array_get_dec|exact dY)))) (λh=>absurd h (by decide)) λ_=>st)
omit hN in
theorem xx(hst:F[aQ]?=some fC)(hf:F[aV]?=some (jK aQ))(hb:F[aR]?=some (iJ av))(ha:F[bB]?=some (jw av))(m5:F[i]?=some (gp bB aR aV av bh aK))(hw:5000<w)
  (one other:List Pt) (t:List Nat) (h1:bG one t=true) (h2:bG other (aF one t)=true) (b1:tot one<=2000) (b2:tot other<=2000) (l1:one.length<=2000) (l2:other.length<=2000) :
  ∃c,run F w (n+3) i [.val (aB one),.val (aB other)]=some (aB c,[])/\Tn one other c t:=by
 have f1:aP (aA (aH (aC one))) t=true:=by rw[<-dJ,eG,<-jk];exact h1
 have f2:aP (aA (aH (aC other))) (dA (aH (aC one)) t)=true:=by rw[<-dJ,eG,<-kL,gK,<-jk];exact h2
 obtain⟨r,hr⟩:=Th.all _ _ _ t (Nat.le_refl _) f1 f2;have e1:cQ one=bg other:=by rw[<-wY h1,o8 h2]
 have ne:cop .ne (.int (cQ one)) (.int (bg other))=some false:=by rw[mK,e1];simp
 have c1:=λfr=>cg (fr:=fr) (kU (F:=F) (w:=w) (n:=n) hs ha one (by omega) (by omega));have c2:=λfr=>cg (fr:=fr) (jZ (F:=F) (w:=w) (n:=n) hs hb other (by omega) (by omega));have c3:=λfr=>cg (fr:=fr) (gb (F:=F) (w:=w) (n:=n) hst hf one (by omega) (by omega));have c4:=λfr=>cg (fr:=fr) (gb (F:=F) (w:=w) (n:=n) hst hf other (by omega) (by omega));have t1:=dI one;have t2:=dI other;have g1:=dZ (dM (cG one));have g2:=dZ (dM (cG other));have m1:eL ((aC one).map Pt.v).reverse=some (.lst ((aC one).map Pt.v).reverse):=cT (bQ (by simp;omega));have m2:eL ((aC other).map Pt.v).reverse=some (.lst ((aC other).map Pt.v).reverse):=cT (bQ (by simp;omega));have key:Wp (exs (run F w (n+2)) w (gp bB aR aV av bh aK).body (dz (gp bB aR aV av bh aK) [.val (aB one),.val (aB other)])) λg fr=>∃ps,aH ps=r/\g=.ret (aB (aC ps))/\outs 2 fr=[]:=by
  refine ai (aN (by (repeat (first|array_get_dec|exact c1 _|exact c2 _))) (λh=>absurd h (by decide)) λ_=>ay ?_);refine ai (fy (l:=((aC one).map Pt.v).reverse) (jg (lZ (cB (aT rfl (az rfl) br) (c3 _)) rfl) m1) rfl rfl ?_);refine ai (fy (l:=((aC other).map Pt.v).reverse) (jg (lZ (cB (aT rfl (az rfl) br) (c4 _)) rfl) m2) rfl rfl ?_);refine ai (fy (l:=[]) (by repeat array_get_dec) rfl rfl ?_);refine ai (Hq (rC (Oh one other r (tot one+tot other)) (λk fr hI=>?_) w (tot one+tot other) _ (by omega) ⟨aC one,aC other,[],r,none,hr,rfl,dM (cG one),dM (cG other),by simp,by omega,.none,rfl⟩));obtain⟨A,B,C,r',a,hT,hC,hA,hB,hk,hkk,oz,rfl⟩:=hI;by_cases hne:A≠[]\/B≠[]
  .have ht1:aE (run F w (n+2)) (.orr (.v 2) (.v 3)) (bN one other A B C a)=.ok true (bN one other A B C a):=by
    cases A with
    |cons p A=>unfold bN;rw[List.map_cons,List.reverse_cons];exact rH (aG rfl (az rfl) eV)
    |nil=>
     cases B with
     |nil=>simp at hne
     |cons q B=>unfold bN;rw[List.map_cons,List.reverse_cons];exact ir (aG rfl (az rfl) rfl) (aG rfl (az rfl) eV)
   refine⟨true,_,ht1,?_⟩;dsimp only;rw[if_pos rfl];refine(uG hs hp ht hm (N:=tot one+tot other) (by omega) A B C r' a hne hT hC hA hB (by omega) oz).mono λg fr ⟨hg,hx⟩=>?_;subst hg hkk;exact hx
  .obtain⟨rfl,rfl⟩:A=[]/\B=[]:=by simpa using hne
   refine⟨false,_,ir (aG rfl (az rfl) rfl) (aG rfl (az rfl) rfl),?_⟩;dsimp only;rw[if_neg (by decide)];cases hT;rw[List.append_nil]at hC;subst hC;have lC:=hr.len;rw[fc,fc,fc]at lC;have mt:toT (.lst (C.map Pt.v))=some (aB C):=by rw[tw];exact kD (bQ (by simp;omega))
   have c5:=λfr=>cg (fr:=fr) (gb (F:=F) (w:=w) (n:=n) hst hf C (by omega) (by omega));have sh:fH (bN one other [] [] C a)=[some (.val (aB one)),some (.val (aB other)),some (.val (.lst [])),some (.val (.lst [])),some (.val (.lst (C.map Pt.v))),a]:=by
    show _ :: _ :: _ :: _ :: _ :: [a.map Sl.dH]=_;rw[cU oz];rfl
   refine ai (bZ (v:=aB (aC C)) (af:=[some (.val (aB one)),some (.val (aB other)),some (.val (.lst [])),some (.val (.lst [])),some (.val (.lst (C.map Pt.v))),a]) ?_ ⟨C,rfl,rfl,rfl⟩);rw[sh];exact cB (aT rfl (uU (az rfl) mt) br) (c5 _)
 obtain⟨g,fr,e,ps,hps,rfl,ho⟩:=key;refine⟨aC ps,?_,QK h1 h2 (hps▸hr)⟩;rw[run_eq m5 rfl,e];simp only[tD];rw[show outs (gp bB aR aV av bh aK).np fr=[]from ho]
end
end
end Pv
namespace Pv
open Ev (D bF bu TY BI ME T E Es Eo It S Ss Fn big deep b2i rep bY dj bK aO cut cj dQ slots)
section
variable{F:List Fn}{w n bC av bh aK aV aQ bB aR cC gq i:Nat}
theorem FO(hf:F[i]?=some Oe)(c:List Pt)(t:List Nat)(h1:tot c<=10000)(h2:t.length<=10000)(h:bG c t=true):run F w (n+1) i [.val (aB c),.val (.str t)]=some (.str (aF c t),[]):=by
 refine cO hf rfl ?_;refine ai (aY (by repeat array_get_dec) rfl rfl ?_);refine ai (aY (by repeat array_get_dec) rfl rfl ?_);refine ai (kT (vs:=c.map Pt.v) (gk (dX rfl) rfl) ?_);have dl:=wR c t;refine gQ (e:=Pt.v) (λp l fr=>p++l=c/\bg p<=t.length/\bG l (t.drop (bg p))=true/\∃f a b,f++aF l (t.drop (bg p))=aF c t/\vo a/\vo b/\fr=[some (.val (aB c)),some (.val (.str t)),some (.val (.int (bg p))),some (.val (.str f)),a,b]) (λp x l fr ⟨hpl,SH,hfit,f,a,b,hd,ha,hb,hfr⟩=>?_) (λp fr ⟨hpl,SH,hfit,f,a,b,hd,ha,hb,hfr⟩=>?_) c [] _ ⟨rfl,by simp[bg,tot],by simpa[bg,tot]using h,[],none,none,by simp[bg,tot],.none,.none,rfl⟩
 .subst hfr;have iK:(p++[x])++l=c:=by simpa using hpl
  have lf:=congrArg List.length hd;rw[List.length_append]at lf;cases x with
  |put s=>
   have e2:bg (p++[.put s])=bg p:=by rw[o7,o6];simp[bg,tot]
   have ad:=iI (a:=f) (b:=s) (by simp[aF]at lf;omega);refine fz (gR rfl ha rfl hb) (ai (aN (by repeat array_get_dec) (λ_=>?_) λh=>absurd h (by decide)));refine ai (aY (by repeat array_get_dec) rfl rfl (ay (ay ?_)));rw[eE,e2];exact⟨iK,SH,hfit,f++s,_,_,by simpa[aF]using hd,.val,.val,rfl⟩
  |drop s=>
   simp only[bG,Bool.and_eq_true]at hfit;have e2:bg (p++[.drop s])=bg p+s.length:=by rw[o7,rO];simp[bg,tot]
   have e3:((bg (p++[.drop s]):Nat):Int)=(bg p:Int)+(s.length:Nat):=by rw[e2];simp
   have hs:=hfit.1;rw[pre_take]at hs;have hs:=of_decide_eq_true hs;have hl:s.length<=(t.drop (bg p)).length:=by have:=congrArg List.length hs;simp at this ⊢;omega
   have hl2:bg p+s.length<=t.length:=by simp at hl;omega
   have ln:dS .len [.str s]=some (.int (s.length:Nat)):=len_str (by omega);have cu:gg (.str t) (some (bg p:Int)) (some ((bg p:Int)+(s.length:Nat)))=some (.str s):=by rw[iR,Df,hs]
   refine fz (gR rfl ha rfl hb) (ai (aN (by repeat array_get_dec) (λh=>absurd h (by decide)) λ_=>?_));refine ai (aN (by repeat array_get_dec) (λ_=>?_) λh=>absurd h (by decide));refine ai (aN (by repeat array_get_dec) (λh=>?_) λ_=>ay ?_)
   .simp at h
   .refine ai (aY (by repeat array_get_dec) rfl rfl (ay (ay (ay ?_))));rw[eE];refine⟨iK,by omega,?_,f,_,_,?_,.val,.val,by rw[e3];rfl⟩
    .rw[e2,<-List.drop_drop];exact hfit.2
    .rw[e2,<-List.drop_drop];simpa[aF]using hd
  |keep k=>
   simp only[bG,Bool.and_eq_true,decide_eq_true_eq]at hfit;have e2:bg (p++[.keep k])=bg p+k:=by rw[o7,rM];simp[bg,tot]
   have e3:((bg (p++[.keep k]):Nat):Int)=(bg p:Int)+(k:Nat):=by rw[e2];simp
   have hl2:bg p+k<=t.length:=by have:=hfit.1;simp at this;omega
   have cu:gg (.str t) (some (bg p:Int)) (some ((bg p:Int)+(k:Nat)))=some (.str ((t.drop (bg p)).take k)):=by rw[iR,Df]
   have ad:=iI (a:=f) (b:=(t.drop (bg p)).take k) (by simp[aF]at lf ⊢;omega);refine fz (gR rfl ha rfl hb) (ai (aN (by repeat array_get_dec) (λh=>absurd h (by decide)) λ_=>?_));refine ai (aN (by repeat array_get_dec) (λh=>absurd h (by decide)) λ_=>?_);refine ai (aY (by repeat array_get_dec) rfl rfl ?_);refine ai (aY (by repeat array_get_dec) rfl rfl (ay (ay (ay ?_))));rw[eE];refine⟨iK,by omega,?_,f++(t.drop (bg p)).take k,_,_,?_,.val,.val,by rw[e3];rfl⟩
   .rw[e2,<-List.drop_drop];exact hfit.2
   .rw[e2,<-List.drop_drop];simpa[aF]using hd
 .subst hfr;simp at hpl;subst hpl;have hd':f=aF p t:=by simpa[aF]using hd
  subst hd';have e0:=o8 h;have ln:dS .len [.str t]=some (.int (t.length:Nat)):=len_str (by omega);have eq:cop .eq (.int (bg p)) (.int (t.length:Nat))=some true:=by rw[N2,e0];simp
  have sh:fH [some (.val (aB p)),some (.val (.str t)),some (.val (.int (bg p))),some (.val (.str (aF p t))),a,b]=[some (.val (aB p)),some (.val (.str t)),some (.val (.int (bg p))),some (.val (.str (aF p t))),a,b]:=by
   show _ :: _ :: _ :: _ :: a.map Sl.dH :: [b.map Sl.dH]=_;rw[cU ha,cU hb];rfl
  refine ai (bZ (v:=.str (aF p t)) (af:=[some (.val (aB p)),some (.val (.str t)),some (.val (.int (bg p))),some (.val (.str (aF p t))),a,b]) ?_ ⟨rfl,rfl⟩);rw[sh];exact rE (b:=true) (aG rfl (by repeat array_get_dec) rfl) (λ_=>az rfl) λh=>absurd h (by decide)
noncomputable def Ch:List Nat->List (List Pt)->Prop
 |_,[]=>True
 |t,c :: rs=>bG c t=true/\Ch (aF c t) rs
noncomputable def gP(t:List Nat)(rs:List (List Pt)):List Nat:=rs.foldl (λs c=>aF c s) t
noncomputable def kZ(T:List Tq)(rs:List (List Pt)):List Tq:=rs.foldl (λT c=>(told 0 c).map (sub T)) T
noncomputable def jP(rs:List (List Pt)):Nat:=(rs.map tot).sum
theorem FP{c:List Pt}{t:List Nat}(h:bG c t=true):bG (lO c) (aF c t)=true/\aF (lO c) (aF c t)=t:=by
 have:=wQ c t h;simp only[lO];rw[qx,gK];exact this
theorem oA(c:List Pt):told 0 (lO c)=told 0 (sw c):=by simp only[lO];rw[b9]
theorem uH(n:Nat):told 0 [.keep n]=(List.range n).map Tq.at:=by simp[told,Pt.told]
theorem Kf(t:List Nat)(p q:List (List Pt)):gP t (p++q)=gP (gP t p) q:=by simp[gP]
theorem zE(T:List Tq):∀(rs:List (List Pt)) (U:List Tq),(kZ U rs).map (sub T)=kZ (U.map (sub T)) rs
 |[],U=>rfl
 |c :: rs,U=>by
  show(kZ ((told 0 c).map (sub U)) rs).map (sub T)=kZ ((told 0 c).map (sub (U.map (sub T)))) rs;rw[zE T rs,Fz]
theorem Dq{c:List Pt}{t:List Nat}(h:bG c t=true):(told 0 c).length=(aF c t).length:=by rw[mP,wY h]
theorem Oi{L:List Tq}{n:Nat}(h:L.length=n):(told 0 [.keep n]).map (sub L)=L:=by rw[uH,<-h];exact J8 L
theorem Oj{a b:List Pt}{t:List Nat}(fa:aC a=a)(fb:aC b=b)(ha:bG a t=true)(hb:bG b t=true)(h:told 0 a=told 0 b):a=b:=by rw[<-fa,<-fb];exact Dk ha hb h
theorem SI{c:List Pt}{t:List Nat}(h:bG c t=true):(told 0 c).map (sub (told 0 [.keep t.length]))=told 0 c:=by
 rw[cZ c,uH];refine FA λj hj=>?_;have:j<(aA (aH c)).length:=(List.getElem?_eq_some_iff.mp hj).1;rw[<-dJ,kK,<-o8 h]at this;simp[this]
theorem FQ(c:List Pt)(i:Nat):told i (sw (aC c))=told i (sw c):=by
 have:=congrArg (told i) (zA (kW c));rwa [b9,b9]at this
theorem tO(n:Nat):told 0 (lO (aC [.keep n]))=told 0 [.keep n]:=by
 rw[oA,FQ];rfl
theorem Dr{t:List Nat}{p:List (List Pt)}{x:List Pt}(h:bG x (gP t p)=true):(kZ (told 0 [.keep (gP t p).length]) (p.map lO).reverse).map (sub (told 0 (sw x)))=kZ (told 0 [.keep (gP t (p++[x])).length]) ((p++[x]).map lO).reverse:=by
 obtain⟨u1,u2⟩:=FP h;have e1:gP t (p++[x])=aF x (gP t p):=by rw[Kf];rfl
 rw[zE,List.map_append,List.reverse_append,e1];show _=kZ ((told 0 (lO x)).map (sub (told 0 [.keep (aF x (gP t p)).length]))) _;rw[SI u1,<-oA,Oi (by rw[Dq u1,u2])];rfl
structure An(c:List Pt)(t:List Nat)(rs:List (List Pt)):Prop where
 zD:aC c=c
 fit:bG c t=true
 dn:aF c t=gP t rs
 xq:told 0 c=kZ (told 0 [.keep t.length]) rs
 Og:told 0 (sw c)=kZ (told 0 [.keep (gP t rs).length]) (rs.map lO).reverse
 tt:tot c<=t.length+jP rs
 ln:c.length<=tot c
theorem sq(t:List Nat):An (aC [.keep t.length]) t []:=by
 refine⟨kW _,by rw[qx];simp[bG],by rw[gK];simp[aF,gP],by rw[b9];rfl,by rw[<-oA,tO];rfl,by rw[dI];simp[tot,Pt.n,jP],dZ (dM (cG _))⟩
section
variable(hs:F[av]?=some gm)(hp:F[bC]?=some gO)(ht:F[aK]?=some (jB bC av))(hm:F[bh]?=some mQ)
 (hst:F[aQ]?=some fC) (hf:F[aV]?=some (jK aQ)) (hb:F[aR]?=some (iJ av)) (ha:F[bB]?=some (jw av)) (m5:F[gq]?=some (gp bB aR aV av bh aK)) (hno:F[cC]?=some (kX aV)) (hw:5000<w)
include hs hp ht hm hst hf hb ha m5 hno hw
theorem oB(hat:F[i]?=some (j0 cC gq))(t:List Nat)(rs:List (List Pt))(hch:Ch t rs)(hB:t.length+jP rs<=2000)(hL:∀c∈rs,c.length<=2000) :
  ∃c,run F w (n+4) i [.val (.int t.length),.val (.lst (rs.map aB))]=some (aB c,[])/\An c t rs:=by
 have c1:=λfr=>cg (fr:=fr) (pW (F:=F) (w:=w) (n:=n) hst hf hno t.length (by omega));have key:Wp (exs (run F w (n+3)) w (j0 cC gq).body (dz (j0 cC gq) [.val (.int t.length),.val (.lst (rs.map aB))])) λg fr=>∃c,An c t rs/\g=.ret (aB c)/\outs 2 fr=[]:=by
  refine ai (aY (by (repeat (first|array_get_dec|exact c1 _))) rfl rfl ?_);refine ai (kT (vs:=rs.map aB) (gk (dX rfl) rfl) ?_);refine gQ (e:=aB) (λp l fr=>p++l=rs/\Ch (gP t p) l/\∃c a,An c t p/\vo a/\fr=[some (.val (.int t.length)),some (.val (.lst (rs.map aB))),some (.val (aB c)),a]) (λp x l fr ⟨hpl,hc,c,a,hA,oz,hfr⟩=>?_) (λp fr ⟨hpl,hc,c,a,hA,oz,hfr⟩=>?_) rs [] _ ⟨rfl,hch,_,none,sq t,.none,rfl⟩
  .subst hfr;have iK:(p++[x])++l=rs:=by simpa using hpl
   have hx:x∈rs:=by rw[<-hpl];simp
   have hT:jP rs=jP p+tot x+jP l:=by rw[<-hpl];simp[jP];omega
   have a1:=hA.tt;have a2:=hA.ln;obtain⟨c',e',xy⟩:=xx (F:=F) (w:=w) (n:=n) hs hp ht hm hst hf hb ha m5 hw c x t hA.fit (by rw[hA.dn];exact hc.1) (by omega) (by omega) (by omega) (hL x hx);have c2:=λfr=>call2 (fr:=fr) e';refine fz (bind1 rfl oz) (ai (aY (by (repeat (first|array_get_dec|exact c2 _))) rfl rfl (ay ?_)));rw[eE];refine⟨iK,?_,c',_,⟨xy.zD,xy.fit,?_,?_,?_,?_,xy.ln⟩,.val,rfl⟩
   .have:=hc.2;simpa[gP]using this
   .rw[xy.dn,hA.dn];simp[gP]
   .rw[xy.xq,hA.xq];simp[kZ]
   .rw[xy.Og,hA.Og];exact Dr hc.1
   .have:=xy.tt;simp[jP]at a1 ⊢;omega
  .subst hfr;simp at hpl;subst hpl;have sh:fH [some (.val (.int t.length)),some (.val (.lst (p.map aB))),some (.val (aB c)),a]=[some (.val (.int t.length)),some (.val (.lst (p.map aB))),some (.val (aB c)),a]:=by
    show _ :: _ :: _ :: [a.map Sl.dH]=_;rw[cU oz];rfl
   refine ai (bZ (v:=aB c) (af:=[some (.val (.int t.length)),some (.val (.lst (p.map aB))),some (.val (aB c)),a]) ?_ ⟨c,hA,rfl,rfl⟩);rw[sh];exact az rfl
 obtain⟨g,fr,e,c,hA,rfl,ho⟩:=key;refine⟨c,?_,hA⟩;rw[run_eq hat rfl,e];simp only[tD];rw[show outs (j0 cC gq).np fr=[]from ho]
end
end
end Pv
namespace Pv
section
variable{t:List Nat}{p q rs:List (List Pt)}{s e w x y c:List Pt}
end
open Ev (D bF bu TY BI ME T E Es Eo It S Ss Fn big deep b2i rep bY dj bK aO cut cj dQ slots)
inductive Hd(L:List V):Sl->List (List V)->Prop
 |val:Hd L (.val (.lst L)) []
 |bor:Hd L (.bor L) [L]
section
variable{F:List Fn}{w n bC av bh aK aV aQ bB aR cC gq i:Nat}
section
variable(hs:F[av]?=some gm)(hp:F[bC]?=some gO)(ht:F[aK]?=some (jB bC av))(hm:F[bh]?=some mQ)
 (hst:F[aQ]?=some fC) (hf:F[aV]?=some (jK aQ)) (hb:F[aR]?=some (iJ av)) (ha:F[bB]?=some (jw av)) (m5:F[gq]?=some (gp bB aR aV av bh aK)) (hno:F[cC]?=some (kX aV)) (hw:5000<w)
include hs hp ht hm hst hf hb ha m5 hno hw
end
end
theorem xA{P:aI}{fr af ao:Fr}{k:Bool}{a b:E}{x y:V}{l m:List V}(h:src (k&&kf a (bO b)) fr a (ev P (k&&kf a (bO b)) a fr)=.ok x af)(h2:src k af b (ev P k b af)=.ok y ao)(hx:jS x=some l)(hy:jS y=some m):b8 P k (.zip a b) fr=.ok (eB l m) ao:=by rw[zj,h,ak,h2,ak,hx,hy];rfl
theorem xB{F:List Fn}{w n i:Nat}(hs:F[i]?=some CW)(c:List Pt)(h1:c.length<=1000)(hF:kJ c=true):run F w (n+1) i [.val (aB c)]=some (.bl true,[]):=by
 obtain⟨hA,hN⟩:=Bool.and_eq_true_iff.mp hF;have l1:(c.map λp=>V.str p.word).length<=big:=by rw[List.length_map];exact Nat.le_trans h1 (by decide)
 refine cO hs rfl (ai (aY (nX (gk (dX rfl) rfl) rfl (nV _ (λp=>.str p.word) c λp _=>by cases p<;>exact rJ rfl (gZ (az rfl) (bL rfl) rfl)) (cT l1)) rfl rfl ?_));refine ai (kT (xA (dX rfl) (wD (az rfl) (nY (bL rfl)) rG (show eL (cut _ (some 1) none)=some _ by rw[QH];exact cT (by rw[List.length_tail];exact Nat.le_trans (Nat.sub_le _ _) l1))) rfl rfl) ?_);refine wo (λl fr=>∃ws a b,vo a/\vo b/\l=eB (ws.map V.str) (ws.map V.str).tail/\kI ws=true/\fr=[some (.val (aB c)),some (.val (.lst (c.map λp=>.str p.word))),a,b,none,none]) (λd l fr ⟨ws,a,b,ha,hb,hl,Ol,hfr⟩=>?_) (λfr ⟨ws,a,b,ha,hb,hl,Ol,hfr⟩=>?_) _ _ ⟨c.map Pt.word,none,none,.none,.none,by rw[List.map_map];rfl,hA,rfl⟩
 .subst hfr
  match ws,hl with
  |[],hl=>cases hl
  |[x],hl=>cases hl
  |x :: y :: r,hl=>
   cases hl;obtain⟨h2,h3⟩:=Bool.and_eq_true_iff.mp Ol;have h4:decide (x=y)=false/\(decide (x=lK)&&decide (y=jW))=false:=by
    simp only[o5,Bool.not_eq_true',Bool.or_eq_false_iff]at h2;exact h2
   refine fz (gR rfl ha rfl hb) (ai (aN (b:=false) (af:=[some (.val (aB c)),some (.val (.lst (c.map λp=>.str p.word))),some (.val (.str x)),some (.val (.str y)),none,none]) (ir (aG rfl (cy (az rfl) (az rfl) qs) h4.1) ?_) (λh=>absurd h (by decide)) λ_=>ay (ay ?_)))
   .refine Qz (aG rfl (cy (az rfl) (bL rfl) qs) rfl) (λh=>aG rfl (cy (az rfl) (bL rfl) qs) ?_) λ_=>⟨rfl,rfl⟩
    have:=h4.2;rw[show decide (x=lK)=true from h]at this;exact this
   .rw[eE];exact⟨y :: r,_,_,.val,.val,rfl,h3,rfl⟩
 .subst hfr;have sh:fH [some (.val (aB c)),some (.val (.lst (c.map λp=>V.str p.word))),a,b,none,none]=[some (.val (aB c)),some (.val (.lst (c.map λp=>V.str p.word))),a,b,none,none]:=by
   show _ :: _ :: a.map Sl.dH :: b.map Sl.dH :: _=_;rw[cU ha,cU hb];rfl
  have hz:∀p∈c,decide (p.n=0)=false:=λp hp=>by
   have:=List.all_eq_true.mp hN p hp;simpa[Hu]using this
  have Xj:c.filter (λp=>decide (p.n=0))=[]:=List.filter_eq_nil_iff.mpr λp hp=>by rw[hz p hp];decide
  have hc2:cH (jD (run F w n) (.v 5) (.one 5) (.yes (.cmp .isin (.ix (.v 5) (.c (.int 1))) (.tup (.cons (.c (.str [])) (.cons (.c (.int 0)) .nil))))) [some (.val (aB c)),some (.val (.lst (c.map λp=>V.str p.word))),a,b,none,none]) (c.map Pt.v)=some []:=by
   have:=nW (f:=jD (run F w n) (.v 5) (.one 5) (.yes (.cmp .isin (.ix (.v 5) (.c (.int 1))) (.tup (.cons (.c (.str [])) (.cons (.c (.int 0)) .nil))))) [some (.val (aB c)),some (.val (.lst (c.map λp=>V.str p.word))),a,b,none,none]) (e:=Pt.v) (p:=λp=>decide (p.n=0)) (g:=Pt.v) c λp hp=>by
    have hp0:=of_decide_eq_false (hz p hp);have hi:∃x u,p.v=.tup [x,u]/\cop .isin u (.tup [.str [],.int 0])=some false:=by
     cases p with
     |keep k=>
      have:¬ (0:Int)=(k:Int):=λz=>hp0 (by show k=0;omega);exact⟨_,_,rfl,by simp[this]⟩
     |put s=>
      have:¬ []=s:=λz=>hp0 (by subst z;rfl);exact⟨_,_,rfl,by simp[this]⟩
     |drop s=>
      have:¬ []=s:=λz=>hp0 (by subst z;rfl);exact⟨_,_,rfl,by simp[this]⟩
    obtain⟨x,u,e,hi⟩:=hi;rw[hz p hp,e];have bt:bD (.one 5) (.tup [x,u]) (pO [some (.val (aB c)),some (.val (.lst (c.map λp=>V.str p.word))),a,b,none,none])=some [some (.val (aB c)),some (.val (.lst (c.map λp=>V.str p.word))),a,b,none,some (.val (.tup [x,u]))]:=by
     have ro:pO [some (.val (aB c)),some (.val (.lst (c.map λp=>V.str p.word))),a,b,none,none]=[some (.val (aB c)),some (.val (.lst (c.map λp=>V.str p.word))),a,b,none,none]:=by
      rcases ha with rfl|⟨_,rfl⟩<;>rcases hb with rfl|⟨_,rfl⟩<;>rfl
     rw[ro];rfl
    exact zo (v:=.aL) (bE:=[]) (b:=false) bt (aG rfl (cy (gZ (az rfl) (bL rfl) rfl) (gD (aJ (bL rfl) (aJ (bL rfl) aZ)) jC) hi) rfl) nofun
   rw[Xj]at this;exact this
  refine ai (bZ (af:=[some (.val (aB c)),some (.val (.lst (c.map λp=>V.str p.word))),a,b,none,none]) ?_ ⟨rfl,rfl⟩);rw[sh];exact Hi (rF (az rfl) rfl) (cy (nX (gk (dX rfl) rfl) rfl hc2 rq) (mJ aZ rq) Ju)
end Pv
namespace Pv
open Ev (deep big rep cut bK)
noncomputable def HD:List At->Bool
 |.p _ :: _=>false
 |_=>true
structure Cut(c:List Pt)(p:Nat)(A B:List Pt):Prop where
 at_:aH A++aH B=aH (aC c)
 bA:bg A=p
 hd:HD (aH B)=true
 pA:∀q∈A,0<q.n
 pB:∀q∈B,0<q.n
 fA:kJ A=true
 fB:kJ B=true
section
variable{c A B:List Pt}{p:Nat}{t:List Nat}
theorem Om(c:List Pt):bg c=(aA (aH c)).length:=by rw[<-dJ,kK]
end
end Pv
namespace Pv
open Ev (D bF bu TY BI ME T E Es Eo It S Ss Fn big deep rep cut bK)
noncomputable def A6(dU:Nat):S:=.ret (.cl dU (.cons (.bin .add (.v 0) (.v 1)) .nil))
noncomputable def FT(dU:Nat):Fn:=⟨2,2,(.cons (A6 dU) .nil)⟩
noncomputable def Ds(mR:Nat)(fT:Nat):S:=.ret (.cl mR (.cons (.cl mR (.cons (.cl fT (.cons (.v 0) .nil)) (.cons (.v 1) .nil))) (.cons (.cl fT (.cons (.v 2) .nil)) .nil)))
noncomputable def Kg(mR:Nat)(fT:Nat):Fn:=⟨3,3,(.cons (Ds mR fT) .nil)⟩
section
variable{F:List Fn}{w n av aQ aV aR bC aK cC xC QL Kh i:Nat}
theorem Kl{q:Pt}{m:Nat}(hq:cX q=false):bg (iu m q)=q.n - m:=by
 cases q with
 |put s=>cases hq
 |keep k=>unfold iu;split<;>simp[Pt.dp,bg,tot,cX,Pt.n]at *<;>omega
 |drop s=>unfold iu;split<;>simp[Pt.dp,bg,tot,cX,Pt.n]at *<;>omega
theorem xD{q:Pt}{R:List Pt}(hq:cX q=false):bg (q :: R)=q.n+bg R:=by cases q<;>simp_all [bg,tot,cX,Pt.n]
section
variable(hst:F[aQ]?=some fC)(hf:F[aV]?=some (jK aQ))(hj:F[xC]?=some (FT aV))(hn:F[cC]?=some (kX aV))(ha:F[Kh]?=some (Kg xC cC))
include hst hf hj hn ha
omit hst hf hj hn ha in
theorem Km(a b:List Pt):cQ (a++b)=cQ a+cQ b:=by simp[cQ,tot]
end
end
end Pv
namespace Pv
open Ev (D bF bu TY BI ME T E Es Eo It S Ss Fn big deep rep cut bK)
structure CA(a:List At)(p:Nat)(x y:List At):Prop where
 ap:x++y=a
 ln:(aA x).length=p
 hd:HD y=true
section
variable{F:List Fn}{w n av aQ aV aR bB bC aK QL i:Nat}
end
end Pv
namespace Pv
open Ev (D bF bu TY BI ME T E Es Eo It S Ss Fn big deep rep cut bK)
abbrev Row:=List Nat×List Pt
noncomputable def Dt(rs:List Row):List (List Pt):=rs.map Prod.snd
noncomputable def who(st:List V)(o:List Nat):Tq->V
 |.at i=>st.getD i .aL
 |.sg _=>.str o
noncomputable def Xk(st:List V)(r:Row):List V:=(told 0 r.2).map (who st r.1)
noncomputable def ows(st:List V)(rs:List Row):List V:=rs.foldl Xk st
theorem tP{c:List Pt}{i:Nat}(h:Tq.at i∈told 0 c):i<bg c:=by
 rw[cZ]at h;obtain⟨j,rfl,hj⟩:=(gM (aH c) 0 i).mp h;have:=(List.getElem?_eq_some_iff.mp hj).1;rw[<-Om]at this;omega
open Classical in
noncomputable def bI(t:List Nat)(a c:List Pt):List Pt:=if h:∃X,Tn a c X t then h.choose else []
noncomputable def Xl(K:List Row):Prop:=∀A a b B,K=A++a :: b :: B->a.1≠b.1
structure Nm(t:List Nat)(rs K:List Row):Prop where
 ch:Ch t (Dt K)
 tx:gP t (Dt K)=gP t (Dt rs)
 ow:∀st:List V,st.length=t.length->ows st K=ows st rs
 fm:∀q∈K,aC q.2=q.2/\0<cst q.2
 ad:Xl K
 ln:K.length<=rs.length
 sb:∀q∈K,∃r∈rs,r.1=q.1
 tt:jP (Dt K)<=jP (Dt rs)
section
variable{t:List Nat}{rs K:List Row}{o:List Nat}{c:List Pt}
end
end Pv
namespace Pv
open Ev (D bF bu TY BI ME T E Es Eo It S Ss Fn big deep rep cut bK)
inductive Pa(f:Bool):List At->List At->List At->Prop
 |nil:Pa f [] [] []
 |p1 {a b r:List At} {c:Nat}:(f=true\/HD b=true)->Pa f a b r->Pa f (.p c :: a) b (.p c :: r)
 |p2 {a b r:List At} {c:Nat}:(f=false\/HD a=true)->Pa f a b r->Pa f a (.p c :: b) (.k :: r)
 |kk {a b r:List At}:Pa f a b r->Pa f (.k :: a) (.k :: b) (.k :: r)
 |dk {a b r:List At} {c:Nat}:Pa f a b r->Pa f (.d c :: a) (.k :: b) (.d c :: r)
 |kd {a b r:List At} {c:Nat}:Pa f a b r->Pa f (.k :: a) (.d c :: b) r
 |dd {a b r:List At} {c e:Nat}:Pa f a b r->Pa f (.d c :: a) (.d e :: b) r
structure Jn(f:Bool)(a b l m:List At)(W:Nat->List Tq):Prop where
 bk:Pa (!f) b a m
 t1:∀(i:Nat) (U:List Tq),(tA U.length m).map (sub (U++tA i a))=W i
 t2:∀(i:Nat) (U:List Tq),(tA U.length l).map (sub (U++tA i b))=W i
 ft:∀t:List Nat,aP (aA a) t=true->aP (aA b) t=true->aP (aA m) (dA a t)=true/\aP (aA l) (dA b t)=true/\dA m (dA a t)=dA l (dA b t)
noncomputable def uL:S:=.ret (.an (.cmp .gt (.bi .len (.cons (.v 0) .nil)) (.c (.int 0))) (.cmp .eq (.ix (.ix (.v 0) (.neg (.c (.int 1)))) (.c (.int 0))) (.c (.str [112,117,116]))))
noncomputable def xV:Fn:=⟨1,1,(.cons uL .nil)⟩
section
variable{F:List Fn}{w n av aQ aV bC aK Oo VE i:Nat}
variable(hs:F[av]?=some gm)(hp:F[bC]?=some gO)(ht:F[aK]?=some (jB bC av))(Xm:F[Oo]?=some xV){one other:List Pt}{f:Bool}{r:List At}{N:Nat}
include hs hp ht Xm
end
noncomputable def pS:List At->List Nat
 |[]=>[]
 |.p c :: a=>c :: pS a
 |_ :: a=>pS a
end Pv
namespace Pv
open Ev (D bF bu TY BI ME T E Es Eo It S Ss Fn big deep rep cut bK)
noncomputable def nD:List Pt->Nat
 |[]=>0
 |.drop s :: c=>s.length+nD c
 |_ :: c=>nD c
section
variable{F:List Fn}{w n i:Nat}
end
end Pv
namespace Pv
noncomputable def nP(c:List Pt):Nat:=(pS (aH c)).length
structure Ld(f:Bool)(one other l:List Pt)(t:List Nat):Prop where
 ft:bG l (aF other t)=true
 fm:aC l=l
 np:nP l=nP one
 nd:nD l<=nD one
noncomputable def zF(rs:List (List Pt)):Nat:=(rs.map nP).sum
noncomputable def Fw(rs:List (List Pt)):Prop:=∀c∈rs,aC c=c/\nD c<=60
structure Rp(c:List Pt)(os:List (List Pt))(t:List Nat)(c':List Pt)(L:List (List Pt)):Prop where
 ft:bG c' (gP t os)=true
 ch:Ch (aF c t) L
 tx:gP (aF c t) L=aF c' (gP t os)
 tl:∀T,kZ T (c :: L)=kZ T (os++[c'])
 ln:L.length=os.length
 pt:zF L=zF os
 fw:Fw os->Fw L
 np:nP c'=nP c
 nd:nD c'<=nD c
 fm:aC c=c->aC c'=c'
structure Rs(as os:List (List Pt))(t:List Nat)(M Y:List (List Pt)):Prop where
 c1:Ch (gP t os) M
 c2:Ch (gP t as) Y
 tl:∀T,kZ T (as++Y)=kZ T (os++M)
 l1:M.length=as.length
 l2:Y.length=os.length
 p1:zF M=zF as
 p2:zF Y=zF os
 f1:(∀c∈as,nD c<=60)->Fw M
 f2:Fw os->Fw Y
end Pv
namespace Pv
open Ev (D bF bu TY BI ME T E Es Eo It S Ss Fn big deep rep cut bK)
noncomputable def pq(s:Nat)(a:List (List Nat)):List Nat:=a.map λy=>y.headD s
noncomputable def vl(x:List Nat):Tq->Nat
 |.at p=>x.getD p 0
 |.sg c=>c
noncomputable def kp(g:Nat->Bool):Nat->List (List Nat)->List Nat
 |_,[]=>[]
 |i,y :: a=>if decide (y=[])&&g i then i :: kp g (i+1) a else kp g (i+1) a
inductive Pw(a:List (List Nat)):List Tq->List Tq->Prop
 |nil:Pw a [] []
 |at {p L M}:Pw a L M->Pw a (.at p :: L) (.at p :: M)
 |sg {y L M}:Pw a L M->Pw a (.sg y :: L) (.sg y :: M)
 |as {y p L M}:a[p]?=some [y]->Pw a L M->Pw a (.sg y :: L) (.at p :: M)
structure Wi(c d:List Pt):Prop where
 fa:bG d (pq 97 (asks c))=true
 fb:bG d (pq 98 (asks c))=true
 da:aF c (pq 97 (asks c))=aF d (pq 97 (asks c))
 db:aF c (pq 98 (asks c))=aF d (pq 98 (asks c))
end Pv
namespace Pv
open Ev (D bF bu TY BI ME T E Es Eo It S Ss Fn big deep rep cut bK)
section
variable{F:List Fn}{w n av aR UP FU wU Xn SJ SK aV aQ i:Nat}
noncomputable def ou(c:List Pt)(x:List Nat):Option (List Nat):=if bG c x=true then some (aF c x)else none
inductive PR(c d:List Pt):V->Prop
 |no:aC c=aC d->PR c d .aL
 |yes {x:List Nat}:aC c≠aC d->ou c x≠ou d x->x.length<=tot c+tot d->PR c d (.str x)
end
end Pv
namespace Pv
open Ev (D bF bu TY BI ME T E Es Eo It S Ss Fn big deep rep cut bK)
section
variable{F:List Fn}{w n av aR UP FU wU i:Nat}
end
end Pv
namespace Pv
open Ev (D bF bu TY BI ME T E Es Eo It S Ss Fn big deep b2i rep bY dj bK aO cut cj dQ slots)
noncomputable def mk(x:List Nat)(l:List Pt)(k:Nat)(f:List Nat):Option (List Nat):=if k<=x.length/\bG l (x.drop k)=true then some (f++aF l (x.drop k))else none
end Pv
namespace Pv
open Ev (D bF bu TY BI ME T E Es Eo It S Ss Fn)
section
variable{F:List Fn}{w n av wU i:Nat}
end
end Pv
namespace Pv
open Ev (D bF bu TY BI ME T E Es Eo It S Ss Fn)
section
variable{P:aI}{X:cL}{w c:Nat}{fr af:Fr}{t:T}{it:It}{b:Ss}{vs:List V}{d:V}
end
section
variable{F:List Fn}{w n av bh aK aV aR bB i:Nat}
theorem Dv(hs:F[av]?=some gm)(hb:F[aR]?=some (iJ av))(ha:F[bB]?=some (jw av))(m5:F[i]?=some (gp bB aR aV av bh aK))(one other:List Pt)(b1:tot one<=2000)(b2:tot other<=2000)(l1:one.length<=2000)(l2:other.length<=2000)(h:cQ one≠bg other):cD F w (n+3) i [.val (aB one),.val (aB other)]=some 0:=by
 have c1:=λfr=>cg (fr:=fr) (kU (F:=F) (w:=w) (n:=n) hs ha one (by omega) (by omega));have c2:=λfr=>cg (fr:=fr) (jZ (F:=F) (w:=w) (n:=n) hs hb other (by omega) (by omega));have ne:cop .ne (.int (cQ one)) (.int (bg other))=some true:=by rw[mK];simp;omega
 refine AN m5 rfl (jJ (fR F w (n+2)) (uW (b:=true) (aG rfl (cy (cB (aT rfl (az rfl) br) (c1 _)) (cB (aT rfl (az rfl) br) (c2 _)) ne) rfl) ?_));rw[if_pos rfl];exact jJ (fR F w (n+2)) Hr
end
end Pv
namespace Pv
open Ev (D bF bu TY BI ME T E Es Eo It S Ss Fn big deep b2i rep bY dj bK aO cut cj dQ slots)
theorem Th.SM{a b r:List At}:∀(s:List Nat),Th a b r->Th (s.map .d++a) b (s.map .d++r)
 |[],h=>h
 |c :: s,h=>.d (Th.SM s h)
theorem Th.SN{a b r:List At}(hn:uF a=true):∀(s:List Nat),Th a b r->Th a (s.map .p++b) (s.map .p++r)
 |[],h=>h
 |c :: s,h=>.p hn (Th.SN hn s h)
theorem Th.SO{a b r:List At}:∀(n:Nat),Th a b r->Th (List.replicate n .k++a) (List.replicate n .k++b) (List.replicate n .k++r)
 |0,h=>h
 |n+1,h=>.kk (Th.SO n h)
theorem Th.SQ{a b r:List At}:∀(s:List Nat),Th a b r->Th (List.replicate s.length .k++a) (s.map .d++b) (s.map .d++r)
 |[],h=>h
 |c :: s,h=>.kd (Th.SQ s h)
theorem Th.SS{a b r:List At}:∀(s:List Nat),Th a b r->Th (s.map .p++a) (List.replicate s.length .k++b) (s.map .p++r)
 |[],h=>h
 |c :: s,h=>.pk (Th.SS s h)
theorem Th.SV{a b r:List At}:∀(s:List Nat),Th a b r->Th (s.map .p++a) (s.map .d++b) r
 |[],h=>h
 |c :: s,h=>.pd (Th.SV s h)
theorem Oq{A B r:List At}{m:List Pt}(p q:Pt)(hp:cF p=false)(hq:cX q=false)(hn:p.n=q.n)(hm:gc p q=some m)(h:Th A B r):∃r',Th (p.aH++A) (q.aH++B) r':=by
 cases q with
 |keep k=>
  cases p with
  |keep k'=>simp only[Pt.n]at hn;subst hn;exact⟨_,Th.SO _ h⟩
  |put s=>simp only[Pt.n]at hn;subst hn;exact⟨_,Th.SS s h⟩
  |drop s=>cases hp
 |put s=>cases hq
 |drop s=>
  cases p with
  |keep k'=>simp only[Pt.n]at hn;subst hn;exact⟨_,Th.SQ s h⟩
  |put s'=>
   simp only[gc]at hm;split at hm
   .rename_i e;subst e;exact⟨_,Th.SV _ h⟩
   .cases hm
  |drop s'=>cases hp
theorem Kn{m:List Pt}(p q:Pt)(hm:gc p q=some m):m.length<=1:=by
 cases q<;>cases p<;>simp only[gc]at hm <;> (try split at hm)<;>first | (cases hm;simp)|cases hm
theorem xE{q:Pt}{R:List Pt}(hq:cF q=false):cQ (q :: R)=q.n+cQ R:=by cases q<;>simp_all [cQ,tot,cF,Pt.n]
theorem Ko{q:Pt}{m:Nat}(hq:cF q=false):cQ (iu m q)=q.n - m:=by
 unfold iu;split
 .cases q<;>simp_all [cQ,tot,cF,Pt.n,Pt.dp]
 .simp[cQ,tot];omega
theorem Ot{p:Pt}{A:List Pt}(hd:cF p=false)(hp:0<p.n):uF (aH (p :: A))=true:=by
 rw[b7];cases p with
 |drop s=>cases hd
 |keep k=>cases k<;>first|exact absurd hp (Nat.lt_irrefl 0)|rfl
 |put s=>cases s<;>first|exact absurd hp (Nat.lt_irrefl 0)|rfl
section
variable{P:aI}{X:cL}{w c:Nat}{fr:Fr}
theorem QM{i:Nat}{e:E}(hX:∀f sl c,X f sl=some c->P f sl=none)(hi:gz fr (.v i)=some i)(h:xe P X e fr=some c):xe P X (.me .extend (.v i) (.cons e .nil)) fr=some c:=by
 simp only[xe];rw[if_pos (by rfl),hi];simp only[vY];rw[(eK hX e h).1];exact h
theorem zG{t:Fr->R Bool}{f:Fr->R Fl}{g:Fr->Option Nat}(I:Nat->Fr->Prop)(step:∀k fr,I k fr->t fr=.ok true fr/\((∃ao j,f fr=.ok .nx ao/\j<k/\I j ao)\/(f fr=.bad/\g fr=some c))):∀(n k:Nat) (fr:Fr),k<n->I k fr->eW t f g n fr=some c
 |0,_,_,h,_=>absurd h (by omega)
 |n+1,k,fr,h,hI=>by
  obtain⟨h1,⟨ao,j,h2,h3,h4⟩|⟨h2,h3⟩⟩:=step k fr hI
  .simp only[eW,h1,h2];exact zG I step n j ao (by omega) h4
  .simp only[eW,h1,h2];exact h3
end
section
variable{F:List Fn}{w n bC av bh aK aV aQ bB aR cC gq i:Nat}
theorem FY(hf:F[i]?=some mQ)(p q:Pt)(hp:cF p=false)(hq:cX q=false)(h:gc p q=none):cD F w (n+1) i [.val p.v,.val q.v]=some 0:=by
 have hX:=fR F w n;cases q with
 |keep k=>cases p<;>simp[gc]at h
 |put s=>cases hq
 |drop s=>
  cases p with
  |keep k'=>simp[gc]at h
  |drop s'=>cases hp
  |put s'=>
   simp only[gc]at h;split at h
   .cases h
   rename_i ne;refine AN hf rfl (kG (aN (b:=false) (by repeat array_get_dec) (λh=>absurd h (by decide)) λ_=>ay ⟨rfl,?_⟩));refine kG (aN (b:=false) (by repeat array_get_dec) (λh=>absurd h (by decide)) λ_=>ay ⟨rfl,?_⟩);refine jJ hX (uW (b:=true) (aG rfl (cy (gZ (az rfl) (bL rfl) rfl) (gZ (az rfl) (bL rfl) rfl) jh) (by simp[truthy,ne])) ?_);rw[if_pos rfl];exact jJ hX Hr
variable(hs:F[av]?=some gm)(hp:F[bC]?=some gO)(ht:F[aK]?=some (jB bC av))(hm:F[bh]?=some mQ){one other:List Pt}
theorem QN(A B C:List Pt)(s:List Nat)(a:Option Sl)(lC:C.length<=5000){Q:Fl->Fr->Prop}(q:Q .nx (bN one other A B (C++[.put s]) a)):Wp (exs (run F w (n+2)) w (mj av bh aK) (bN one other A (.put s :: B) C a)) Q:=by
 unfold bN at q ⊢;rw[List.map_cons,List.reverse_cons];refine ai (aN (fq (aG rfl (az rfl) eV) (by (repeat (first|array_get_dec|exact dY)))) (λ_=>?_) λh=>absurd h (by decide));exact ai (iC (by (repeat (first|array_get_dec|exact oY|exact sj lC _ _))) (ay (ay q)))
theorem Ou(A B C:List Pt)(s:List Nat)(a:Option Sl)(lC:C.length<=5000){Q:Fl->Fr->Prop}(q:Q .nx (bN one other A B (C++[.drop s]) a)):Wp (exs (run F w (n+2)) w (jA av bh aK) (bN one other (.drop s :: A) B C a)) Q:=by
 unfold bN at q ⊢;rw[List.map_cons,List.reverse_cons];refine ai (aN (fq (aG rfl (az rfl) eV) (by (repeat (first|array_get_dec|exact dY)))) (λ_=>?_) λh=>absurd h (by decide));exact ai (iC (by (repeat (first|array_get_dec|exact oY|exact sj lC _ _))) (ay (ay q)))
theorem Ov(A B C:List Pt)(q:Pt)(hq:cX q=false)(a:Option Sl):aE (run F w (n+2)) (.an (.v 3) (.cmp .eq (.ix (.ix (.v 3) (.neg (.c (.int 1)))) (.c (.int 0))) (.c (.str [112,117,116])))) (bN one other A (q :: B) C a)=.ok false (bN one other A (q :: B) C a):=by
 unfold bN;rw[List.map_cons,List.reverse_cons];cases q with
 |put s=>cases hq
 |keep k=>exact fq (aG rfl (az rfl) eV) (by (repeat (first|array_get_dec|exact dY)))
 |drop s=>exact fq (aG rfl (az rfl) eV) (by (repeat (first|array_get_dec|exact dY)))
theorem Ow(A B C:List Pt)(hA:∀p A',A=p :: A'->cF p=false)(a:Option Sl):aE (run F w (n+2)) (.an (.v 2) (.cmp .eq (.ix (.ix (.v 2) (.neg (.c (.int 1)))) (.c (.int 0))) (.c (.str [100,114,111,112])))) (bN one other A B C a)=.ok false (bN one other A B C a):=by
 cases A with
 |nil=>exact wF (aG rfl (az rfl) rfl)
 |cons p A=>
  have hd:=hA p A rfl;unfold bN;rw[List.map_cons,List.reverse_cons];cases p with
  |drop s=>cases hd
  |keep k=>exact fq (aG rfl (az rfl) eV) (by (repeat (first|array_get_dec|exact dY)))
  |put s=>exact fq (aG rfl (az rfl) eV) (by (repeat (first|array_get_dec|exact dY)))
theorem Dw{A B C:List Pt}(hA:∀p A',A=p :: A'->cF p=false){a:Option Sl}{Q:Fl->Fr->Prop}(h:Wp (exs (run F w (n+2)) w (mj av bh aK) (bN one other A B C a)) (λg fr=>g=.nx/\Q .nx fr)):Wp (exs (run F w (n+2)) w (jA av bh aK) (bN one other A B C a)) Q:=
 ai (aN (Ow A B C hA a) (λh=>absurd h (by decide)) λ_=>h.mono λg fr ⟨hg,hq⟩=>by subst hg;exact ay hq)
theorem Ox{A B C:List Pt}{q:Pt}(hq:cX q=false){a:Option Sl}{Q:Fl->Fr->Prop}(h:Wp (exs (run F w (n+2)) w (sd av bh aK) (bN one other A (q :: B) C a)) (λg fr=>g=.nx/\Q .nx fr)):Wp (exs (run F w (n+2)) w (mj av bh aK) (bN one other A (q :: B) C a)) Q:=
 ai (aN (Ov A B C q hq a) (λh=>absurd h (by decide)) λ_=>h.mono λg fr ⟨hg,hq⟩=>by subst hg;exact ay hq)
include hs hp ht hm
theorem Kp(A B C:List Pt)(p q:Pt)(m:Nat)(a:Option Sl)(mn:dS .min [.int p.n,.int q.n]=some (.int m))(hm1:m<=p.n)(hm2:m<=q.n)(lp:p.n<=5000)(lq:q.n<=5000)(lA:A.length<=5000)(lB:B.length<=5000)(hd:cF p=false)(hq:cX q=false)(e1:gc (p.tk m) (q.tk m)=none)(ha:vo a):xss (run F w (n+2)) (cD F w (n+2)) w (sd av bh aK) (bN one other (p :: A) (q :: B) C a)=some 0:=by
 have hX:=fR F w (n+2);have z1:=λfr=>cg (fr:=fr) (jy (F:=F) (w:=w) (n:=n+1) hs p (Nat.le_trans lp (by decide)));have z2:=λfr=>cg (fr:=fr) (jy (F:=F) (w:=w) (n:=n+1) hs q (Nat.le_trans lq (by decide)));have t1:=kY (F:=F) (w:=w) (n:=n) hs hp ht (A.map Pt.v).reverse p m hm1 (by omega) (by simp;omega);have t2:=kY (F:=F) (w:=w) (n:=n) hs hp ht (B.map Pt.v).reverse q m hm2 (by omega) (by simp;omega);rw[<-zC]at t1 t2;have cm:=FY (F:=F) (w:=w) (n:=n+1) hm (p.tk m) (q.tk m) (by rw[j5.1];exact hd) (by rw[j5.2];exact hq) e1;unfold bN;rw[List.map_cons,List.reverse_cons,List.map_cons,List.reverse_cons];refine kG (aY (by (repeat (first|array_get_dec|exact dY|exact z1 _|exact z2 _))) rfl (gG rfl ha) ⟨rfl,?_⟩);exact jJ hX (QB (QM hX rfl (UL (by (repeat (first|array_get_dec|exact uZ rfl t1|exact uZ rfl t2))) (CM (vs:=[(p.tk m).v,(q.tk m).v]) cm))))
theorem FZ{N:Nat}(hN:N<=5000)(A B C:List Pt)(a:Option Sl)(hne:¬ ∃r,Th (aH A) (aH B) r)(hab:cQ A=bg B)(hA:∀p∈A,0<p.n)(hB:∀p∈B,0<p.n)(hk:C.length+(tot A+tot B)<=N)(ha:vo a) :
  (∃A' B' C' a',exs (run F w (n+2)) w (jA av bh aK) (bN one other A B C a)=.ok .nx (bN one other A' B' C' a')/\tot A'+tot B'<tot A+tot B/\(¬ ∃r,Th (aH A') (aH B') r)/\cQ A'=bg B'/\(∀p∈A',0<p.n)/\(∀p∈B',0<p.n)/\C'.length+(tot A'+tot B')<=N/\vo a')\/xss (run F w (n+2)) (cD F w (n+2)) w (jA av bh aK) (bN one other A B C a)=some 0:=by
 have hX:=fR F w (n+2);have get:∀{E:R Fl} {x:Fr},Wp E (λg fr=>g=.nx/\fr=x)->E=.ok .nx x:=λ{E x} ⟨g,fr,e,h1,h2⟩=>by subst h1 h2;exact e
 by_cases hdr:∃s A',A=.drop s :: A'
 .obtain⟨s,A',rfl⟩:=hdr;have p0:=hA (.drop s) (by simp);refine .inl ⟨A',B,C++[.drop s],a,get (Ou A' B C s a (by omega) ⟨rfl,rfl⟩),by rw[bw];omega,λ⟨r,h⟩=>hne ⟨_,by rw[b7];exact Th.SM s h⟩,by rw[uX]at hab;exact hab,λx hx=>hA x (by simp[hx]),hB,?_,ha⟩;rw[bw]at hk;simp[Pt.n]at hk p0 ⊢;omega
 .have Dy:∀p A',A=p :: A'->cF p=false:=λp A' e=>by
   cases p with
   |drop s=>exact absurd ⟨s,A',e⟩ hdr
   |_=>rfl
  have hnd:uF (aH A)=true:=by
   cases A with
   |nil=>rfl
   |cons p A'=>exact Ot (Dy p A' rfl) (hA p (by simp))
  by_cases Oz:∃s B',B=.put s :: B'
  .obtain⟨s,B',rfl⟩:=Oz;have p0:=hB (.put s) (by simp);refine .inl ⟨A,B',C++[.put s],a,get (Dw Dy (QN A B' C s a (by omega) ⟨rfl,rfl,rfl⟩)),by rw[bw];omega,λ⟨r,h⟩=>hne ⟨_,by rw[b7];exact Th.SN hnd s h⟩,by rw[o6]at hab;exact hab,hA,λx hx=>hB x (by simp[hx]),?_,ha⟩;rw[bw]at hk;simp[Pt.n]at hk p0 ⊢;omega
  .cases A with
   |nil=>
    cases B with
    |nil=>exact absurd ⟨_,Th.nil⟩ hne
    |cons q B'=>
     have q0:=hB q (by simp);have hq:cX q=false:=by
      cases q with
      |put s=>exact absurd ⟨s,B',rfl⟩ Oz
      |_=>rfl
     rw[xD hq]at hab;simp[cQ,tot]at hab;omega
   |cons p A'=>
    have p0:=hA p (by simp);have hd:=Dy p A' rfl;cases B with
    |nil=>rw[xE hd]at hab;simp[bg,tot]at hab;omega
    |cons q B'=>
     have q0:=hB q (by simp);have hq:cX q=false:=by
      cases q with
      |put s=>exact absurd ⟨s,B',rfl⟩ Oz
      |_=>rfl
     obtain⟨m,hm1,hm2,Xi⟩:∃m:Nat,m<=p.n/\m<=q.n/\(m=p.n\/m=q.n):=⟨min p.n q.n,by omega,by omega,by omega⟩
     have mn:dS .min [.int p.n,.int q.n]=some (.int m):=by
      rw[CG];split
      .congr 2;omega
      .congr 2;omega
     have lA:=dZ (c:=A') λx hx=>hA x (by simp[hx]);have lB:=dZ (c:=B') λx hx=>hB x (by simp[hx]);rw[bw,bw]at hk;rw[xE hd,xD hq]at hab;cases e1:gc (p.tk m) (q.tk m)with
     |none=>
      exact .inr (jJ hX (uW (Ow _ _ C Dy a) (by rw[if_neg (by decide)];exact jJ hX (uW (Ov _ B' C q hq a) (by rw[if_neg (by decide)];exact Kp hs hp ht hm A' B' C p q m a mn hm1 hm2 (by omega) (by omega) (by omega) (by omega) hd hq e1 ha)))))
     |some mm=>
      have lm:=Kn _ _ e1;refine .inl ⟨iu m p++A',iu m q++B',C++mm,some (.val (.int m)),get (Dw Dy (Ox hq (Dp hs hp ht hm A' B' C mm p q m a mn hm1 hm2 (by omega) (by omega) (by omega) (by omega) (by omega) e1 ha _ ⟨rfl,rfl,rfl,rfl⟩))),?_,?_,?_,?_,?_,?_,.val⟩
      .rw[eX,eX,iS,iS,bw,bw];omega
      .rintro⟨r,h⟩;refine hne ?_;obtain⟨r',h'⟩:=Oq (p.tk m) (q.tk m) (by rw[j5.1];exact hd) (by rw[j5.2];exact hq) (by rw[(r8 hm1).2,(r8 hm2).2]) e1 h;rw[jz,jz,<-List.append_assoc,<-List.append_assoc,<-o9 hm1,<-o9 hm2,<-b7,<-b7]at h';exact⟨r',h'⟩
      .rw[o7,Km,Ko hd,Kl hq];omega
      .intro x hx;rcases List.mem_append.mp hx with hx|hx
       .exact pe m p x hx
       .exact hA x (List.mem_cons_of_mem _ hx)
      .intro x hx;rcases List.mem_append.mp hx with hx|hx
       .exact pe m q x hx
       .exact hB x (List.mem_cons_of_mem _ hx)
      .rw[eX,eX,iS,iS,List.length_append];omega
end
end Pv
namespace Pv
open Ev (D bF bu TY BI ME T E Es Eo It S Ss Fn big deep b2i rep bY dj bK aO cut cj dQ slots)
section
variable{F:List Fn}{w n bC av bh aK aV aQ bB aR cC gq i:Nat}
variable(hs:F[av]?=some gm)(hp:F[bC]?=some gO)(ht:F[aK]?=some (jB bC av))(hm:F[bh]?=some mQ)
include hs hp ht hm
theorem Dz(hst:F[aQ]?=some fC)(hf:F[aV]?=some (jK aQ))(hb:F[aR]?=some (iJ av))(ha:F[bB]?=some (jw av))(m5:F[i]?=some (gp bB aR aV av bh aK))(hw:5000<w)
  (one other:List Pt) {r:List At} (e1:cQ one=bg other) (hr:Th (aH (aC one)) (aH (aC other)) r) (b1:tot one<=2000) (b2:tot other<=2000) (l1:one.length<=2000) (l2:other.length<=2000) :
  ∃ps,run F w (n+3) i [.val (aB one),.val (aB other)]=some (aB (aC ps),[])/\aH ps=r:=by
 have ne:cop .ne (.int (cQ one)) (.int (bg other))=some false:=by rw[mK,e1];simp
 have c1:=λfr=>cg (fr:=fr) (kU (F:=F) (w:=w) (n:=n) hs ha one (by omega) (by omega));have c2:=λfr=>cg (fr:=fr) (jZ (F:=F) (w:=w) (n:=n) hs hb other (by omega) (by omega));have c3:=λfr=>cg (fr:=fr) (gb (F:=F) (w:=w) (n:=n) hst hf one (by omega) (by omega));have c4:=λfr=>cg (fr:=fr) (gb (F:=F) (w:=w) (n:=n) hst hf other (by omega) (by omega));have t1:=dI one;have t2:=dI other;have g1:=dZ (dM (cG one));have g2:=dZ (dM (cG other));have m1:eL ((aC one).map Pt.v).reverse=some (.lst ((aC one).map Pt.v).reverse):=cT (bQ (by simp;omega));have m2:eL ((aC other).map Pt.v).reverse=some (.lst ((aC other).map Pt.v).reverse):=cT (bQ (by simp;omega));have key:Wp (exs (run F w (n+2)) w (gp bB aR aV av bh aK).body (dz (gp bB aR aV av bh aK) [.val (aB one),.val (aB other)])) λg fr=>∃ps,aH ps=r/\g=.ret (aB (aC ps))/\outs 2 fr=[]:=by
  refine ai (aN (by (repeat (first|array_get_dec|exact c1 _|exact c2 _))) (λh=>absurd h (by decide)) λ_=>ay ?_);refine ai (fy (l:=((aC one).map Pt.v).reverse) (jg (lZ (cB (aT rfl (az rfl) br) (c3 _)) rfl) m1) rfl rfl ?_);refine ai (fy (l:=((aC other).map Pt.v).reverse) (jg (lZ (cB (aT rfl (az rfl) br) (c4 _)) rfl) m2) rfl rfl ?_);refine ai (fy (l:=[]) (by repeat array_get_dec) rfl rfl ?_);refine ai (Hq (rC (Oh one other r (tot one+tot other)) (λk fr hI=>?_) w (tot one+tot other) _ (by omega) ⟨aC one,aC other,[],r,none,hr,rfl,dM (cG one),dM (cG other),by simp,by omega,.none,rfl⟩));obtain⟨A,B,C,r',a,hT,hC,hA,hB,hk,hkk,oz,rfl⟩:=hI;by_cases hne:A≠[]\/B≠[]
  .have ht1:aE (run F w (n+2)) (.orr (.v 2) (.v 3)) (bN one other A B C a)=.ok true (bN one other A B C a):=by
    cases A with
    |cons p A=>unfold bN;rw[List.map_cons,List.reverse_cons];exact rH (aG rfl (az rfl) eV)
    |nil=>
     cases B with
     |nil=>simp at hne
     |cons q B=>unfold bN;rw[List.map_cons,List.reverse_cons];exact ir (aG rfl (az rfl) rfl) (aG rfl (az rfl) eV)
   refine⟨true,_,ht1,?_⟩;dsimp only;rw[if_pos rfl];refine(uG hs hp ht hm (N:=tot one+tot other) (by omega) A B C r' a hne hT hC hA hB (by omega) oz).mono λg fr ⟨hg,hx⟩=>?_;subst hg hkk;exact hx
  .obtain⟨rfl,rfl⟩:A=[]/\B=[]:=by simpa using hne
   refine⟨false,_,ir (aG rfl (az rfl) rfl) (aG rfl (az rfl) rfl),?_⟩;dsimp only;rw[if_neg (by decide)];cases hT;rw[List.append_nil]at hC;subst hC;have lC:=hr.len;rw[fc,fc,fc]at lC;have mt:toT (.lst (C.map Pt.v))=some (aB C):=by rw[tw];exact kD (bQ (by simp;omega))
   have c5:=λfr=>cg (fr:=fr) (gb (F:=F) (w:=w) (n:=n) hst hf C (by omega) (by omega));have sh:fH (bN one other [] [] C a)=[some (.val (aB one)),some (.val (aB other)),some (.val (.lst [])),some (.val (.lst [])),some (.val (.lst (C.map Pt.v))),a]:=by
    show _ :: _ :: _ :: _ :: _ :: [a.map Sl.dH]=_;rw[cU oz];rfl
   refine ai (bZ (v:=aB (aC C)) (af:=[some (.val (aB one)),some (.val (aB other)),some (.val (.lst [])),some (.val (.lst [])),some (.val (.lst (C.map Pt.v))),a]) ?_ ⟨C,rfl,rfl,rfl⟩);rw[sh];exact cB (aT rfl (uU (az rfl) mt) br) (c5 _)
 obtain⟨g,fr,e,ps,hps,rfl,ho⟩:=key;refine⟨ps,?_,hps⟩;rw[run_eq m5 rfl,e];simp only[tD];rw[show outs (gp bB aR aV av bh aK).np fr=[]from ho]
theorem DA(hst:F[aQ]?=some fC)(hf:F[aV]?=some (jK aQ))(hb:F[aR]?=some (iJ av))(ha:F[bB]?=some (jw av))(m5:F[i]?=some (gp bB aR aV av bh aK))(hw:5000<w)
  (one other:List Pt) (e1:cQ one=bg other) (hr:¬ ∃r,Th (aH (aC one)) (aH (aC other)) r) (b1:tot one<=2000) (b2:tot other<=2000) (l1:one.length<=2000) (l2:other.length<=2000) :
  cD F w (n+3) i [.val (aB one),.val (aB other)]=some 0:=by
 have hX:=fR F w (n+2);have ne:cop .ne (.int (cQ one)) (.int (bg other))=some false:=by rw[mK,e1];simp
 have c1:=λfr=>cg (fr:=fr) (kU (F:=F) (w:=w) (n:=n) hs ha one (by omega) (by omega));have c2:=λfr=>cg (fr:=fr) (jZ (F:=F) (w:=w) (n:=n) hs hb other (by omega) (by omega));have c3:=λfr=>cg (fr:=fr) (gb (F:=F) (w:=w) (n:=n) hst hf one (by omega) (by omega));have c4:=λfr=>cg (fr:=fr) (gb (F:=F) (w:=w) (n:=n) hst hf other (by omega) (by omega));have t1:=dI one;have t2:=dI other;have g1:=dZ (dM (cG one));have g2:=dZ (dM (cG other));have m1:eL ((aC one).map Pt.v).reverse=some (.lst ((aC one).map Pt.v).reverse):=cT (bQ (by simp;omega));have m2:eL ((aC other).map Pt.v).reverse=some (.lst ((aC other).map Pt.v).reverse):=cT (bQ (by simp;omega));refine AN m5 rfl ?_;refine kG (aN (by (repeat (first|array_get_dec|exact c1 _|exact c2 _))) (λh=>absurd h (by decide)) λ_=>ay ⟨rfl,?_⟩);refine kG (fy (l:=((aC one).map Pt.v).reverse) (jg (lZ (cB (aT rfl (az rfl) br) (c3 _)) rfl) m1) rfl rfl ⟨rfl,?_⟩);refine kG (fy (l:=((aC other).map Pt.v).reverse) (jg (lZ (cB (aT rfl (az rfl) br) (c4 _)) rfl) m2) rfl rfl ⟨rfl,?_⟩);refine kG (fy (l:=[]) (by repeat array_get_dec) rfl rfl ⟨rfl,?_⟩);refine jJ hX ?_;refine zG (λk fr=>∃A B C a,(¬ ∃r,Th (aH A) (aH B) r)/\cQ A=bg B/\(∀p∈A,0<p.n)/\(∀p∈B,0<p.n)/\C.length+k<=tot one+tot other/\k=tot A+tot B/\vo a/\fr=bN one other A B C a) (λk fr ⟨A,B,C,a,hT,hab,hA,hB,hk,hkk,oz,hfr⟩=>?_) w (tot one+tot other) _ (by omega) ⟨aC one,aC other,[],none,hr,by rw[qu,qt];exact e1,dM (cG one),dM (cG other),by simp,by omega,.none,rfl⟩;subst hfr hkk;have ht1:aE (run F w (n+2)) (.orr (.v 2) (.v 3)) (bN one other A B C a)=.ok true (bN one other A B C a):=by
  cases A with
  |cons p A=>unfold bN;rw[List.map_cons,List.reverse_cons];exact rH (aG rfl (az rfl) eV)
  |nil=>
   cases B with
   |nil=>exact absurd ⟨_,Th.nil⟩ hT
   |cons q B=>unfold bN;rw[List.map_cons,List.reverse_cons];exact ir (aG rfl (az rfl) rfl) (aG rfl (az rfl) eV)
 refine⟨ht1,?_⟩;rcases FZ (one:=one) (other:=other) (w:=w) (n:=n) hs hp ht hm (N:=tot one+tot other) (by omega) A B C a hT hab hA hB hk oz with ⟨A',B',C',a',e,h1,h2,h3,h4,h5,h6,h7⟩|hx
 .exact .inl ⟨_,_,e,h1,A',B',C',a',h2,h3,h4,h5,h6,rfl,h7,rfl⟩
 .exact .inr ⟨dh hX _ hx,hx⟩
end
noncomputable def iw:List (List Nat)->List (List Nat×Tq)->Option (List (List Nat))
 |A,[]=>some A
 |A,(w,h) :: l=>if w=[]then iw A l else match h with
  |.at i=>iw (A.set i w) l
  |.sg c=>if w=[c]then iw A l else none
theorem zH{α:Type}(P:List α)(x y:α)(Q:List α):(P++x :: Q).set P.length y=P++y :: Q:=by
 induction P with
 |nil=>rfl
 |cons a P ih=>simp
theorem QO{a b r:List At}(h:Th a b r):∀(P:List (List Nat)),iw (P++aA a) ((aA b).zip (tA P.length a))=some (P++aA r):=by
 induction h with
 |nil=>intro P;simp[aA,tA,iw]
 |d h ih=>intro P;rename_i c;have:=ih (P++[[c]]);simpa[aA,tA]using this
 |p hn h ih=>intro P;simpa[aA,tA]using ih P
 |kk h ih=>intro P;have:=ih (P++[[]]);simp only[aA,tA,List.zip_cons_cons,iw,if_true];simpa using this
 |kd h ih=>
  intro P;rename_i c;have:=ih (P++[[c]]);simp only[aA,tA,List.zip_cons_cons,iw];rw[if_neg (by simp),zH];simpa using this
 |pk h ih=>intro P;simp only[aA,tA,List.zip_cons_cons,iw,if_true];exact ih P
 |pd h ih=>intro P;simp only[aA,tA,List.zip_cons_cons,iw,if_true];rw[if_neg (by simp)];exact ih P
theorem jl:∀(n:Nat) (a b:List At) (P:List (List Nat)),a.length+b.length<=n->(aA b).length=(tA P.length a).length->iw (P++aA a) ((aA b).zip (tA P.length a))≠none->∃r,Th a b r
 |0,a,b,P,hn,_,_=>by
  obtain rfl:a=[]:=List.eq_nil_of_length_eq_zero (by omega);obtain rfl:b=[]:=List.eq_nil_of_length_eq_zero (by omega);exact⟨_,.nil⟩
 |n+1,.d c :: a,b,P,hn,hl,hd=>by
  obtain⟨r,h⟩:=jl n a b (P++[[c]]) (by simp at hn;omega) (by simpa[tA]using hl) (by simpa[aA,tA]using hd);exact⟨_,.d h⟩
 |n+1,[],[],P,_,_,_=>⟨_,.nil⟩
 |n+1,[],.p c :: b,P,hn,hl,hd=>by
  obtain⟨r,h⟩:=jl n [] b P (by simp at hn ⊢;omega) (by simpa[aA]using hl) (by simpa[aA]using hd);exact⟨_,.p rfl h⟩
 |n+1,[],.k :: b,P,hn,hl,hd=>by simp[aA,tA]at hl
 |n+1,[],.d c :: b,P,hn,hl,hd=>by simp[aA,tA]at hl
 |n+1,.k :: a,[],P,hn,hl,hd=>by simp[aA,tA]at hl
 |n+1,.p c :: a,[],P,hn,hl,hd=>by simp[aA,tA]at hl
 |n+1,.k :: a,.p c :: b,P,hn,hl,hd=>by
  obtain⟨r,h⟩:=jl n (.k :: a) b P (by simp at hn ⊢;omega) (by simpa[aA]using hl) (by simpa[aA]using hd);exact⟨_,.p rfl h⟩
 |n+1,.p c' :: a,.p c :: b,P,hn,hl,hd=>by
  obtain⟨r,h⟩:=jl n (.p c' :: a) b P (by simp at hn ⊢;omega) (by simpa[aA]using hl) (by simpa[aA]using hd);exact⟨_,.p rfl h⟩
 |n+1,.k :: a,.k :: b,P,hn,hl,hd=>by
  simp only[aA,tA,List.zip_cons_cons,iw,if_true]at hd;obtain⟨r,h⟩:=jl n a b (P++[[]]) (by simp at hn;omega) (by simpa[aA,tA]using hl) (by simpa using hd);exact⟨_,.kk h⟩
 |n+1,.k :: a,.d c :: b,P,hn,hl,hd=>by
  simp only[aA,tA,List.zip_cons_cons,iw]at hd;rw[if_neg (by simp),zH]at hd;obtain⟨r,h⟩:=jl n a b (P++[[c]]) (by simp at hn;omega) (by simpa[aA,tA]using hl) (by simpa using hd);exact⟨_,.kd h⟩
 |n+1,.p c :: a,.k :: b,P,hn,hl,hd=>by
  simp only[aA,tA,List.zip_cons_cons,iw,if_true]at hd;obtain⟨r,h⟩:=jl n a b P (by simp at hn;omega) (by simpa[aA,tA]using hl) hd;exact⟨_,.pk h⟩
 |n+1,.p c :: a,.d c' :: b,P,hn,hl,hd=>by
  simp only[aA,tA,List.zip_cons_cons,iw]at hd;rw[if_neg (by simp)]at hd;split at hd
  .rename_i e;cases e;obtain⟨r,h⟩:=jl n a b P (by simp at hn;omega) (by simpa[aA,tA]using hl) hd;exact⟨_,.pd h⟩
  .exact absurd rfl hd
end Pv
set_option maxRecDepth 100000
namespace Lw
@[reducible] noncomputable def UQ:Ev.S:=.iff (.cmp .eq (.ix (.v 0) (.c (.int 0))) (.c (.str [107,101,101,112]))) (.cons (.ret (.ix (.v 0) (.c (.int 1)))) .nil) .nil
@[reducible] noncomputable def UR:Ev.S:=.ret (.bi .len (.cons (.ix (.v 0) (.c (.int 1))) .nil))
@[reducible] noncomputable def f0:Ev.Fn:=⟨1,1,(.cons UQ (.cons UR .nil))⟩
@[reducible] noncomputable def US:Ev.S:=.ret (.bi .sum (.cons (.comp (.cl 0 (.cons (.v 1) .nil)) (.one 1) (.seq (.v 0)) (.yes (.cmp .ne (.ix (.v 1) (.c (.int 0))) (.c (.str [112,117,116]))))) .nil))
@[reducible] noncomputable def f1:Ev.Fn:=⟨1,2,(.cons US .nil)⟩
@[reducible] noncomputable def UT:Ev.S:=.ret (.bi .sum (.cons (.comp (.cl 0 (.cons (.v 1) .nil)) (.one 1) (.seq (.v 0)) (.yes (.cmp .ne (.ix (.v 1) (.c (.int 0))) (.c (.str [100,114,111,112]))))) .nil))
@[reducible] noncomputable def f2:Ev.Fn:=⟨1,2,(.cons UT .nil)⟩
@[reducible] noncomputable def UU:Ev.S:=.set 1 (.lst .nil)
@[reducible] noncomputable def UW:Ev.S:=.set 2 (.c (.int 0))
@[reducible] noncomputable def UX:Ev.S:=.set 3 (.c (.str []))
@[reducible] noncomputable def UY:Ev.S:=.set 4 (.c (.str []))
@[reducible] noncomputable def UZ:Ev.Ss:=(.cons (.iff (.cmp .eq (.v 5) (.c (.str [100,114,111,112]))) (.cons (.set 3 (.bin .add (.v 3) (.v 6))) .nil) (.cons (.iff (.cmp .eq (.v 5) (.c (.str [112,117,116]))) (.cons (.set 4 (.bin .add (.v 4) (.v 6))) .nil) (.cons (.iff (.cmp .gt (.v 6) (.c (.int 0))) (.cons (.iff (.orr (.cmp .ne (.v 3) (.c (.str []))) (.cmp .ne (.v 4) (.c (.str [])))) (.cons (.exp (.me .extend (.v 1) (.cons (.cl 4 (.cons (.v 2) (.cons (.v 3) (.cons (.v 4) .nil)))) .nil))) (.cons (.set 2 (.c (.int 0))) (.cons (.set 3 (.c (.str []))) (.cons (.set 4 (.c (.str []))) .nil)))) .nil) (.cons (.set 2 (.bin .add (.v 2) (.v 6))) .nil)) .nil) .nil)) .nil)) .nil)
@[reducible] noncomputable def U0:Ev.S:=.for (.many [5,6]) (.seq (.v 0)) UZ
@[reducible] noncomputable def U1:Ev.S:=.exp (.me .extend (.v 1) (.cons (.cl 4 (.cons (.v 2) (.cons (.v 3) (.cons (.v 4) .nil)))) .nil))
@[reducible] noncomputable def U3:Ev.S:=.ret (.jm (.v 1))
@[reducible] noncomputable def f3:Ev.Fn:=⟨1,7,(.cons UU (.cons UW (.cons UX (.cons UY (.cons U0 (.cons U1 (.cons U3 .nil)))))))⟩
@[reducible] noncomputable def U4:Ev.S:=.set 3 (.lst .nil)
@[reducible] noncomputable def U5:Ev.S:=.iff (.cmp .gt (.v 0) (.c (.int 0))) (.cons (.exp (.me .append (.v 3) (.cons (.tup (.cons (.c (.str [107,101,101,112])) (.cons (.v 0) .nil))) .nil))) .nil) .nil
@[reducible] noncomputable def U6:Ev.S:=.iff (.cmp .ne (.v 1) (.c (.str []))) (.cons (.exp (.me .append (.v 3) (.cons (.tup (.cons (.c (.str [100,114,111,112])) (.cons (.v 1) .nil))) .nil))) .nil) .nil
@[reducible] noncomputable def U7:Ev.S:=.iff (.cmp .ne (.v 2) (.c (.str []))) (.cons (.exp (.me .append (.v 3) (.cons (.tup (.cons (.c (.str [112,117,116])) (.cons (.v 2) .nil))) .nil))) .nil) .nil
@[reducible] noncomputable def U8:Ev.S:=.ret (.v 3)
@[reducible] noncomputable def f4:Ev.Fn:=⟨3,4,(.cons U4 (.cons U5 (.cons U6 (.cons U7 (.cons U8 .nil)))))⟩
@[reducible] noncomputable def U9:Ev.S:=.ret (.cl 3 (.cons (.tup (.cons (.tup (.cons (.c (.str [107,101,101,112])) (.cons (.v 0) .nil))) .nil)) .nil))
@[reducible] noncomputable def f5:Ev.Fn:=⟨1,1,(.cons U9 .nil)⟩
@[reducible] noncomputable def Va:Ev.S:=.iff (.cmp .ne (.cl 2 (.cons (.v 0) .nil)) (.cl 1 (.cons (.v 1) .nil))) (.cons (.fk 0) .nil) .nil
@[reducible] noncomputable def Vb:Ev.S:=.set 2 (.eH (.rev (.cl 3 (.cons (.v 0) .nil))))
@[reducible] noncomputable def Vc:Ev.S:=.set 3 (.eH (.rev (.cl 3 (.cons (.v 1) .nil))))
@[reducible] noncomputable def Vd:Ev.S:=.set 4 (.lst .nil)
@[reducible] noncomputable def Ve:Ev.Ss:=(.cons (.iff (.an (.v 2) (.cmp .eq (.ix (.ix (.v 2) (.neg (.c (.int 1)))) (.c (.int 0))) (.c (.str [100,114,111,112])))) (.cons (.exp (.me .append (.v 4) (.cons (.me .pop (.v 2) .nil) .nil))) .nil) (.cons (.iff (.an (.v 3) (.cmp .eq (.ix (.ix (.v 3) (.neg (.c (.int 1)))) (.c (.int 0))) (.c (.str [112,117,116])))) (.cons (.exp (.me .append (.v 4) (.cons (.me .pop (.v 3) .nil) .nil))) .nil) (.cons (.set 5 (.bi .min (.cons (.cl 0 (.cons (.ix (.v 2) (.neg (.c (.int 1)))) .nil)) (.cons (.cl 0 (.cons (.ix (.v 3) (.neg (.c (.int 1)))) .nil)) .nil)))) (.cons (.exp (.me .extend (.v 4) (.cons (.cl 8 (.cons (.cl 9 (.cons (.v 2) (.cons (.v 5) .nil))) (.cons (.cl 9 (.cons (.v 3) (.cons (.v 5) .nil))) .nil))) .nil))) .nil))) .nil)) .nil)
@[reducible] noncomputable def Vf:Ev.S:=.jH (.orr (.v 2) (.v 3)) Ve
@[reducible] noncomputable def Vg:Ev.S:=.ret (.cl 3 (.cons (.jm (.v 4)) .nil))
@[reducible] noncomputable def f6:Ev.Fn:=⟨2,6,(.cons Va (.cons Vb (.cons Vc (.cons Vd (.cons Vf (.cons Vg .nil))))))⟩
@[reducible] noncomputable def Vh:Ev.S:=.set 2 (.cl 5 (.cons (.v 0) .nil))
@[reducible] noncomputable def Vi:Ev.Ss:=(.cons (.set 2 (.cl 6 (.cons (.v 2) (.cons (.v 3) .nil)))) .nil)
@[reducible] noncomputable def Vj:Ev.S:=.for (.one 3) (.seq (.v 1)) Vi
@[reducible] noncomputable def Vk:Ev.S:=.ret (.v 2)
@[reducible] noncomputable def f7:Ev.Fn:=⟨2,4,(.cons Vh (.cons Vj (.cons Vk .nil)))⟩
@[reducible] noncomputable def Vl:Ev.S:=.iff (.cmp .eq (.ix (.v 1) (.c (.int 0))) (.c (.str [107,101,101,112]))) (.cons (.ret (.lst (.cons (.v 0) .nil))) .nil) .nil
@[reducible] noncomputable def Vm:Ev.S:=.iff (.cmp .eq (.ix (.v 0) (.c (.int 0))) (.c (.str [107,101,101,112]))) (.cons (.ret (.lst (.cons (.v 1) .nil))) .nil) .nil
@[reducible] noncomputable def Vn:Ev.S:=.iff (.cmp .ne (.ix (.v 0) (.c (.int 1))) (.ix (.v 1) (.c (.int 1)))) (.cons (.fk 0) .nil) .nil
@[reducible] noncomputable def Vo:Ev.S:=.ret (.lst .nil)
@[reducible] noncomputable def f8:Ev.Fn:=⟨2,2,(.cons Vl (.cons Vm (.cons Vn (.cons Vo .nil))))⟩
@[reducible] noncomputable def Vp:Ev.S:=.set 2 (.cl 10 (.cons (.me .pop (.v 0) .nil) (.cons (.v 1) .nil)))
@[reducible] noncomputable def Vq:Ev.S:=.iff (.cmp .gt (.cl 0 (.cons (.ix (.v 2) (.c (.int 1))) .nil)) (.c (.int 0))) (.cons (.exp (.me .append (.v 0) (.cons (.ix (.v 2) (.c (.int 1))) .nil))) .nil) .nil
@[reducible] noncomputable def Vr:Ev.S:=.ret (.ix (.v 2) (.c (.int 0)))
@[reducible] noncomputable def f9:Ev.Fn:=⟨2,3,(.cons Vp (.cons Vq (.cons Vr .nil)))⟩
@[reducible] noncomputable def QS:Ev.S:=.set 2 (.ix (.v 0) (.c (.int 0)))
@[reducible] noncomputable def QT:Ev.S:=.iff (.cmp .eq (.v 2) (.c (.str [107,101,101,112]))) (.cons (.ret (.tup (.cons (.tup (.cons (.v 2) (.cons (.v 1) .nil))) (.cons (.tup (.cons (.v 2) (.cons (.bin .sub (.ix (.v 0) (.c (.int 1))) (.v 1)) .nil))) .nil)))) .nil) .nil
@[reducible] noncomputable def QU:Ev.S:=.ret (.tup (.cons (.tup (.cons (.v 2) (.cons (.sl (.ix (.v 0) (.c (.int 1))) .no (.yes (.v 1))) .nil))) (.cons (.tup (.cons (.v 2) (.cons (.sl (.ix (.v 0) (.c (.int 1))) (.yes (.v 1)) .no) .nil))) .nil)))
@[reducible] noncomputable def vG:Ev.Fn:=⟨2,3,(.cons QS (.cons QT (.cons QU .nil)))⟩
@[reducible] noncomputable def QV:Ev.S:=.iff (.cmp .eq (.v 0) (.lst .nil)) (.cons (.ret (.bin .mul (.c (.int 7)) (.v 1))) .nil) .nil
@[reducible] noncomputable def QW:Ev.S:=.ret (.bin .add (.ix (.v 0) (.bin .mod (.v 1) (.bi .len (.cons (.v 0) .nil)))) (.bin .mul (.c (.int 6553)) (.bin .fdiv (.v 1) (.bi .len (.cons (.v 0) .nil)))))
@[reducible] noncomputable def Cj:Ev.Fn:=⟨2,2,(.cons QV (.cons QW .nil))⟩
@[reducible] noncomputable def QX:Ev.S:=.set 3 (.bin .mod (.bin .add (.bin .mul (.bin .mod (.cl 11 (.cons (.v 0) (.cons (.v 1) .nil))) (.c (.int 2147483563))) (.c (.int 69069))) (.bin .mul (.c (.int 104723)) (.bin .add (.v 1) (.c (.int 1))))) (.c (.int 2147483563)))
@[reducible] noncomputable def QY:Ev.S:=.set 3 (.bin .mod (.bin .add (.bin .mul (.v 3) (.v 3)) (.bin .fdiv (.v 3) (.c (.int 3)))) (.c (.int 2147483399)))
@[reducible] noncomputable def QZ:Ev.S:=.ret (.bin .mod (.bin .fdiv (.bin .mod (.bin .add (.bin .mul (.v 3) (.v 3)) (.bin .fdiv (.v 3) (.c (.int 7)))) (.c (.int 2147483647))) (.c (.int 11))) (.v 2))
@[reducible] noncomputable def Ck:Ev.Fn:=⟨3,4,(.cons QX (.cons QY (.cons QZ .nil)))⟩
@[reducible] noncomputable def Q0:Ev.S:=.ret (.me .join (.c (.str [])) (.cons (.comp (.ix (.c (.str [97,98,99,32])) (.cl 12 (.cons (.v 0) (.cons (.bin .add (.bin .add (.v 1) (.c (.int 1))) (.v 3)) (.cons (.c (.int 4)) .nil))))) (.one 3) (.gS (.cons (.cl 12 (.cons (.v 0) (.cons (.v 1) (.cons (.bin .add (.v 2) (.c (.int 1))) .nil)))) .nil)) .no) .nil))
@[reducible] noncomputable def OA:Ev.Fn:=⟨3,4,(.cons Q0 .nil)⟩
@[reducible] noncomputable def Q4:Ev.S:=.set 3 (.tup .nil)
@[reducible] noncomputable def Q5:Ev.Ss:=(.cons (.iff (.cmp .eq (.cl 12 (.cons (.v 0) (.cons (.bin .add (.v 1) (.bin .mul (.c (.int 4)) (.v 4))) (.cons (.c (.int 4)) .nil)))) (.c (.int 0))) (.cons (.set 5 (.bin .mul (.ix (.c (.str [97,98,122])) (.cl 12 (.cons (.v 0) (.cons (.bin .add (.bin .add (.v 1) (.bin .mul (.c (.int 4)) (.v 4))) (.c (.int 1))) (.cons (.c (.int 3)) .nil))))) (.bin .add (.c (.int 1)) (.cl 12 (.cons (.v 0) (.cons (.bin .add (.bin .add (.v 1) (.bin .mul (.c (.int 4)) (.v 4))) (.c (.int 2))) (.cons (.c (.int 2)) .nil))))))) (.cons (.set 3 (.bin .add (.v 3) (.tup (.cons (.tup (.cons (.c (.str [112,117,116])) (.cons (.v 5) .nil))) .nil)))) .nil)) .nil) (.cons (.iff (.cmp .lt (.v 4) (.bi .len (.cons (.v 2) .nil))) (.cons (.set 6 (.cmp .gt (.cl 12 (.cons (.v 0) (.cons (.bin .add (.bin .add (.v 1) (.bin .mul (.c (.int 4)) (.v 4))) (.c (.int 3))) (.cons (.c (.int 3)) .nil)))) (.c (.int 0)))) (.cons (.set 3 (.bin .add (.v 3) (.tup (.cons (.iL (.v 6) (.tup (.cons (.c (.str [107,101,101,112])) (.cons (.c (.int 1)) .nil))) (.tup (.cons (.c (.str [100,114,111,112])) (.cons (.ix (.v 2) (.v 4)) .nil)))) .nil)))) .nil)) .nil) .nil))
@[reducible] noncomputable def Q6:Ev.S:=.for (.one 4) (.gS (.cons (.bin .add (.bi .len (.cons (.v 2) .nil)) (.c (.int 1))) .nil)) Q5
@[reducible] noncomputable def Q7:Ev.S:=.ret (.v 3)
@[reducible] noncomputable def OB:Ev.Fn:=⟨3,7,(.cons Q4 (.cons Q6 (.cons Q7 .nil)))⟩
@[reducible] noncomputable def Q8:Ev.S:=.set 1 (.lst .nil)
@[reducible] noncomputable def Q9:Ev.S:=.set 2 (.lst .nil)
@[reducible] noncomputable def Ra:Ev.Ss:=(.cons (.iff (.cmp .eq (.v 3) (.c (.str [107,101,101,112]))) (.cons (.set 2 (.bin .add (.v 2) (.eH (.gS (.cons (.bi .len (.cons (.v 1) .nil)) (.cons (.bin .add (.bi .len (.cons (.v 1) .nil)) (.v 4)) .nil)))))) (.cons (.set 1 (.bin .add (.v 1) (.bin .mul (.lst (.cons (.c (.str [])) .nil)) (.v 4)))) .nil)) (.cons (.iff (.cmp .eq (.v 3) (.c (.str [100,114,111,112]))) (.cons (.set 1 (.bin .add (.v 1) (.eH (.seq (.v 4))))) .nil) (.cons (.set 2 (.bin .add (.v 2) (.eH (.seq (.v 4))))) .nil)) .nil)) .nil)
@[reducible] noncomputable def Rb:Ev.S:=.for (.many [3,4]) (.seq (.v 0)) Ra
@[reducible] noncomputable def Rc:Ev.S:=.ret (.tup (.cons (.v 1) (.cons (.v 2) .nil)))
@[reducible] noncomputable def OC:Ev.Fn:=⟨1,5,(.cons Q8 (.cons Q9 (.cons Rb (.cons Rc .nil))))⟩
@[reducible] noncomputable def Rf:Ev.S:=.set 1 (.comp (.ix (.v 4) (.c (.int 0))) (.one 4) (.seq (.v 0)) .no)
@[reducible] noncomputable def Rg:Ev.Ss:=(.cons (.iff (.orr (.cmp .eq (.v 2) (.v 3)) (.an (.cmp .eq (.v 2) (.c (.str [112,117,116]))) (.cmp .eq (.v 3) (.c (.str [100,114,111,112]))))) (.cons (.ret (.c (.bl false))) .nil) .nil) .nil)
@[reducible] noncomputable def Rh:Ev.S:=.for (.many [2,3]) (.zip (.v 1) (.sl (.v 1) (.yes (.c (.int 1))) .no)) Rg
@[reducible] noncomputable def Ri:Ev.S:=.ret (.an (.fK (.v 0) [.tuple]) (.cmp .eq (.comp (.v 5) (.one 5) (.seq (.v 0)) (.yes (.cmp .isin (.ix (.v 5) (.c (.int 1))) (.tup (.cons (.c (.str [])) (.cons (.c (.int 0)) .nil)))))) (.lst .nil)))
@[reducible] noncomputable def OD:Ev.Fn:=⟨1,6,(.cons Rf (.cons Rh (.cons Ri .nil)))⟩
@[reducible] noncomputable def Rj:Ev.S:=.set 2 (.c (.int 0))
@[reducible] noncomputable def Rk:Ev.S:=.set 3 (.c (.str []))
@[reducible] noncomputable def Rl:Ev.Ss:=(.cons (.iff (.cmp .eq (.v 4) (.c (.str [112,117,116]))) (.cons (.set 3 (.bin .add (.v 3) (.v 5))) .nil) (.cons (.iff (.cmp .eq (.v 4) (.c (.str [100,114,111,112]))) (.cons (.iff (.cmp .ne (.sl (.v 1) (.yes (.v 2)) (.yes (.bin .add (.v 2) (.bi .len (.cons (.v 5) .nil))))) (.v 5)) (.cons (.ret (.c (.aL))) .nil) .nil) (.cons (.set 2 (.bin .add (.v 2) (.bi .len (.cons (.v 5) .nil)))) .nil)) (.cons (.set 3 (.bin .add (.v 3) (.sl (.v 1) (.yes (.v 2)) (.yes (.bin .add (.v 2) (.v 5)))))) (.cons (.set 2 (.bin .add (.v 2) (.v 5))) .nil))) .nil)) .nil)
@[reducible] noncomputable def Rm:Ev.S:=.for (.many [4,5]) (.seq (.v 0)) Rl
@[reducible] noncomputable def Rn:Ev.S:=.ret (.iL (.cmp .eq (.v 2) (.bi .len (.cons (.v 1) .nil))) (.v 3) (.c (.aL)))
@[reducible] noncomputable def OE:Ev.Fn:=⟨2,6,(.cons Rj (.cons Rk (.cons Rm (.cons Rn .nil))))⟩
@[reducible] noncomputable def Ro:Ev.S:=.tr 6 4 (.cons (.v 0) (.cons (.v 1) .nil))
@[reducible] noncomputable def HF:Ev.Fn:=⟨2,3,(.cons Ro .nil)⟩
@[reducible] noncomputable def Rq:Ev.S:=.iW [2,3] (.cl 15 (.cons (.v 0) .nil))
@[reducible] noncomputable def Rt:Ev.S:=.iW [4,5] (.cl 15 (.cons (.v 1) .nil))
@[reducible] noncomputable def Ru:Ev.S:=.iff (.cmp .ne (.bi .len (.cons (.v 4) .nil)) (.bi .len (.cons (.v 3) .nil))) (.cons (.ret (.c (.aL))) .nil) .nil
@[reducible] noncomputable def Rw:Ev.S:=.set 2 (.eH (.seq (.v 2)))
@[reducible] noncomputable def HG:Ev.Ss:=(.cons (.iff (.an (.cmp .ne (.v 6) (.c (.str []))) (.fK (.v 7) [.int])) (.cons (.exp (.me .nA (.v 2) (.cons (.v 6) (.cons (.v 7) .nil)))) .nil) (.cons (.iff (.cmp .gu (.v 6) (.tup (.cons (.c (.str [])) (.cons (.v 7) .nil)))) (.cons (.ret (.c (.aL))) .nil) .nil) .nil)) .nil)
@[reducible] noncomputable def Rx:Ev.S:=.for (.many [6,7]) (.zip (.v 4) (.v 3)) HG
@[reducible] noncomputable def Ry:Ev.S:=.ret (.tup (.cons (.v 2) (.cons (.comp (.iL (.fK (.v 8) [.int]) (.ix (.v 3) (.v 8)) (.v 8)) (.one 8) (.seq (.v 5)) .no) .nil)))
@[reducible] noncomputable def DB:Ev.Fn:=⟨2,9,(.cons Rq (.cons Rt (.cons Ru (.cons Rw (.cons Rx (.cons Ry .nil))))))⟩
@[reducible] noncomputable def Rz:Ev.S:=.set 1 (.cl 13 (.cons (.v 0) (.cons (.c (.int 0)) (.cons (.c (.int 5)) .nil))))
@[reducible] noncomputable def RA:Ev.S:=.set 2 (.cl 14 (.cons (.v 0) (.cons (.c (.int 10)) (.cons (.v 1) .nil))))
@[reducible] noncomputable def RB:Ev.S:=.set 3 (.cl 17 (.cons (.v 2) (.cons (.v 1) .nil)))
@[reducible] noncomputable def RC:Ev.S:=.set 4 (.cl 14 (.cons (.v 0) (.cons (.c (.int 50)) (.cons (.v 3) .nil))))
@[reducible] noncomputable def RD:Ev.S:=.set 5 (.cl 12 (.cons (.v 0) (.cons (.c (.int 120)) (.cons (.bin .add (.bi .len (.cons (.v 3) .nil)) (.c (.int 1))) .nil))))
@[reducible] noncomputable def RE:Ev.S:=.set 6 (.lst (.cons (.bin .add (.bin .add (.sl (.v 3) .no (.yes (.v 5))) (.ix (.c (.str [97,98,122])) (.cl 12 (.cons (.v 0) (.cons (.c (.int 121)) (.cons (.c (.int 3)) .nil)))))) (.sl (.v 3) (.yes (.bin .add (.v 5) (.c (.int 1)))) .no)) (.cons (.bin .add (.v 3) (.c (.str [97]))) (.cons (.cl 13 (.cons (.v 0) (.cons (.c (.int 130)) (.cons (.c (.int 6)) .nil)))) .nil))))
@[reducible] noncomputable def RG:Ev.S:=.set 7 (.cl 14 (.cons (.v 0) (.cons (.c (.int 140)) (.cons (.ix (.v 6) (.cl 12 (.cons (.v 0) (.cons (.c (.int 122)) (.cons (.c (.int 3)) .nil))))) .nil))))
@[reducible] noncomputable def A7:Ev.Ss:=(.cons (.set 9 (.cl 19 (.cons (.v 2) (.cons (.v 8) .nil)))) (.cons (.set 10 (.cl 18 (.cons (.v 2) (.cons (.v 8) .nil)))) (.cons (.iff (.cmp .yk (.v 9) (.c (.aL))) (.cons (.iff (.cmp .ne (.v 10) (.tup (.cons (.c (.str [114,101,102,117,115,101,100])) (.cons (.c (.int 0)) .nil)))) (.cons (.ret (.c (.bl false))) .nil) .nil) .nil) (.cons (.iff (.orr (.cmp .eq (.sl (.v 10) .no (.yes (.c (.int 1)))) (.tup (.cons (.c (.str [114,101,102,117,115,101,100])) .nil))) (.orr (.cmp .ne (.cl 15 (.cons (.v 10) .nil)) (.v 9)) (.nt (.cl 16 (.cons (.v 10) .nil))))) (.cons (.ret (.c (.bl false))) .nil) .nil) .nil)) .nil)))
@[reducible] noncomputable def RH:Ev.S:=.for (.one 8) (.seq (.tup (.cons (.v 4) (.cons (.v 7) .nil)))) A7
@[reducible] noncomputable def RI:Ev.S:=.set 11 (.lst (.cons (.v 2) (.cons (.v 4) .nil)))
@[reducible] noncomputable def RJ:Ev.S:=.ret (.an (.cmp .eq (.cl 7 (.cons (.bi .len (.cons (.v 1) .nil)) (.cons (.v 11) .nil))) (.cl 6 (.cons (.v 2) (.cons (.v 4) .nil)))) (.cmp .eq (.cl 7 (.cons (.bi .len (.cons (.v 1) .nil)) (.cons (.lst .nil) .nil))) (.cl 5 (.cons (.bi .len (.cons (.v 1) .nil)) .nil))))
@[reducible] noncomputable def DC:Ev.Fn:=⟨1,12,(.cons Rz (.cons RA (.cons RB (.cons RC (.cons RD (.cons RE (.cons RG (.cons RH (.cons RI (.cons RJ .nil))))))))))⟩
noncomputable def prog:List Ev.Fn:=[f0,f1,f2,f3,f4,f5,f6,f7,f8,f9,vG,Cj,Ck,OA,OB,OC,OD,OE,HF,DB,DC]
end Lw
set_option maxRecDepth 100000
namespace Lw
open PySem PySem.Spec PyProof.Rows L2 Sm
open Ev (D O Hh Fr R aI E Es Eo T S Ss Fl Src bF bu TY BI ME)
noncomputable def top(i:Nat):Stmt:=PySem.Challenge.pw_pastways_k12_then.main.body.getD i (.Pass ⟨0,0,0,0⟩)
abbrev i0 (a:Nat->Addr) (d:Nat->FuncData):FI:=⟨"size",a 0,d 0,["part"]⟩
abbrev i1 (a:Nat->Addr) (d:Nat->FuncData):FI:=⟨"before",a 1,d 1,["change"]⟩
abbrev i2 (a:Nat->Addr) (d:Nat->FuncData):FI:=⟨"after",a 2,d 2,["change"]⟩
abbrev i3 (a:Nat->Addr) (d:Nat->FuncData):FI:=⟨"form",a 3,d 3,["change"]⟩
abbrev i4 (a:Nat->Addr) (d:Nat->FuncData):FI:=⟨"stretch",a 4,d 4,["kept","gone","new"]⟩
abbrev i5 (a:Nat->Addr) (d:Nat->FuncData):FI:=⟨"nothing",a 5,d 5,["many"]⟩
abbrev i6 (a:Nat->Addr) (d:Nat->FuncData):FI:=⟨"then",a 6,d 6,["one","other"]⟩
abbrev i7 (a:Nat->Addr) (d:Nat->FuncData):FI:=⟨"all_then",a 7,d 7,["many","rows"]⟩
abbrev i8 (a:Nat->Addr) (d:Nat->FuncData):FI:=⟨"met",a 8,d 8,["left","gone_through"]⟩
abbrev i9 (a:Nat->Addr) (d:Nat->FuncData):FI:=⟨"taken",a 9,d 9,["parts","many"]⟩
abbrev OF (a:Nat->Addr) (d:Nat->FuncData):FI:=⟨"parted",a 10,d 10,["part","many"]⟩
abbrev OG (a:Nat->Addr) (d:Nat->FuncData):FI:=⟨"_law_cell",a 11,d 11,["_law_script","_law_k"]⟩
abbrev i12 (a:Nat->Addr) (d:Nat->FuncData):FI:=⟨"_law_drawn",a 12,d 12,["_law_script","_law_k","_law_many"]⟩
abbrev OH (a:Nat->Addr) (d:Nat->FuncData):FI:=⟨"_law_text",a 13,d 13,["_law_script","_law_at","_law_most"]⟩
abbrev OI (a:Nat->Addr) (d:Nat->FuncData):FI:=⟨"_law_change",a 14,d 14,["_law_script","_law_at","_law_text_here"]⟩
abbrev OJ (a:Nat->Addr) (d:Nat->FuncData):FI:=⟨"_law_sense",a 15,d 15,["_law_change_here"]⟩
abbrev OL (a:Nat->Addr) (d:Nat->FuncData):FI:=⟨"_law_is_form",a 16,d 16,["_law_change_here"]⟩
abbrev OM (a:Nat->Addr) (d:Nat->FuncData):FI:=⟨"_law_made",a 17,d 17,["_law_change_here","_law_text_here"]⟩
abbrev SW (a:Nat->Addr) (d:Nat->FuncData):FI:=⟨"_law_told",a 18,d 18,["_law_one","_law_other"]⟩
abbrev ON (a:Nat->Addr) (d:Nat->FuncData):FI:=⟨"_law_due",a 19,d 19,["_law_one","_law_other"]⟩
abbrev HH (a:Nat->Addr) (d:Nat->FuncData):FI:=⟨"law",a 20,d 20,["_law_script"]⟩
noncomputable def m6:List Str:=["ValueError","int","isinstance","len","list","min","range","reversed","sum","tuple","zip"]
theorem RK:("int" : Str)∈m6:=by decide +kernel
theorem oE:("isinstance" : Str)∈m6:=by decide +kernel
theorem RL:("len" : Str)∈m6:=by decide +kernel
theorem xF:("list" : Str)∈m6:=by decide +kernel
theorem RM:("min" : Str)∈m6:=by decide +kernel
theorem zI:("range" : Str)∈m6:=by decide +kernel
theorem A8:("reversed" : Str)∈m6:=by decide +kernel
theorem RN:("sum" : Str)∈m6:=by decide +kernel
theorem zJ:("tuple" : Str)∈m6:=by decide +kernel
theorem RP:("zip" : Str)∈m6:=by decide +kernel
noncomputable def tb (a:Nat->Addr) (d:Nat->FuncData):Tb:=⟨prog,100000,[i0 a d,i1 a d,i2 a d,i3 a d,i4 a d,i5 a d,i6 a d,i7 a d,i8 a d,i9 a d,OF a d,OG a d,i12 a d,OH a d,OI a d,OJ a d,OL a d,OM a d,SW a d,ON a d,HH a d],m6,[("__name__",.str [108,97,119,95,112,97,115,116,119,97,121,115,95,107,49,50,95,116,104,101,110])],[]⟩
section
variable{a:Nat->Addr}{d:Nat->FuncData}{n:Nat}
abbrev n0:List Str:=["part"]
theorem s0:bH n0 ["part"] (au (top 1)):=⟨rfl,rfl,rfl,by decide +kernel,rfl,by decide +kernel,by decide +kernel⟩
abbrev n1:List Str:=["change"]
theorem s1:bH n1 ["change"] (au (top 2)):=⟨rfl,rfl,rfl,by decide +kernel,rfl,by decide +kernel,by decide +kernel⟩
abbrev n2:List Str:=["change"]
theorem s2:bH n2 ["change"] (au (top 3)):=⟨rfl,rfl,rfl,by decide +kernel,rfl,by decide +kernel,by decide +kernel⟩
abbrev n3:List Str:=["change","parts","kept","gone","new","word","what"]
theorem s3:bH n3 ["change"] (au (top 4)):=⟨rfl,rfl,rfl,by decide +kernel,rfl,by decide +kernel,by decide +kernel⟩
abbrev n4:List Str:=["kept","gone","new","parts"]
theorem s4:bH n4 ["kept","gone","new"] (au (top 5)):=⟨rfl,rfl,rfl,by decide +kernel,rfl,by decide +kernel,by decide +kernel⟩
abbrev n5:List Str:=["many"]
theorem s5:bH n5 ["many"] (au (top 13)):=⟨rfl,rfl,rfl,by decide +kernel,rfl,by decide +kernel,by decide +kernel⟩
abbrev n6:List Str:=["one","other","ones","others","parts","many"]
theorem s6:bH n6 ["one","other"] (au (top 14)):=⟨rfl,rfl,rfl,by decide +kernel,rfl,by decide +kernel,by decide +kernel⟩
abbrev n7:List Str:=["many","rows","whole","change"]
theorem s7:bH n7 ["many","rows"] (au (top 15)):=⟨rfl,rfl,rfl,by decide +kernel,rfl,by decide +kernel,by decide +kernel⟩
abbrev n8:List Str:=["left","gone_through"]
theorem s8:bH n8 ["left","gone_through"] (au (top 16)):=⟨rfl,rfl,rfl,by decide +kernel,rfl,by decide +kernel,by decide +kernel⟩
abbrev n9:List Str:=["parts","many","halves"]
theorem s9:bH n9 ["parts","many"] (au (top 17)):=⟨rfl,rfl,rfl,by decide +kernel,rfl,by decide +kernel,by decide +kernel⟩
abbrev OO:List Str:=["part","many","word"]
theorem R9:bH OO ["part","many"] (au (top 18)):=⟨rfl,rfl,rfl,by decide +kernel,rfl,by decide +kernel,by decide +kernel⟩
abbrev OP:List Str:=["_law_script","_law_k"]
theorem Gy:bH OP ["_law_script","_law_k"] (au (top 20)):=⟨rfl,rfl,rfl,by decide +kernel,rfl,by decide +kernel,by decide +kernel⟩
abbrev OQ:List Str:=["_law_script","_law_k","_law_many","_law_cell_here"]
theorem s12:bH OQ ["_law_script","_law_k","_law_many"] (au (top 21)):=⟨rfl,rfl,rfl,by decide +kernel,rfl,by decide +kernel,by decide +kernel⟩
abbrev OR:List Str:=["_law_script","_law_at","_law_most"]
theorem Xo:bH OR ["_law_script","_law_at","_law_most"] (au (top 22)):=⟨rfl,rfl,rfl,by decide +kernel,rfl,by decide +kernel,by decide +kernel⟩
abbrev OS:List Str:=["_law_script","_law_at","_law_text_here","_law_found","_law_k","_law_new","_law_is_kept"]
theorem Xp:bH OS ["_law_script","_law_at","_law_text_here"] (au (top 23)):=⟨rfl,rfl,rfl,by decide +kernel,rfl,by decide +kernel,by decide +kernel⟩
abbrev OT:List Str:=["_law_change_here","_law_asks","_law_told_here","_law_word","_law_what"]
theorem Xq:bH OT ["_law_change_here"] (au (top 24)):=⟨rfl,rfl,rfl,by decide +kernel,rfl,by decide +kernel,by decide +kernel⟩
abbrev OU:List Str:=["_law_change_here","_law_words","_law_one","_law_other"]
theorem Xr:bH OU ["_law_change_here"] (au (top 25)):=⟨rfl,rfl,rfl,by decide +kernel,rfl,by decide +kernel,by decide +kernel⟩
abbrev OV:List Str:=["_law_change_here","_law_text_here","_law_place","_law_found","_law_word","_law_what"]
theorem Xu:bH OV ["_law_change_here","_law_text_here"] (au (top 26)):=⟨rfl,rfl,rfl,by decide +kernel,rfl,by decide +kernel,by decide +kernel⟩
abbrev OW:List Str:=["_law_one","_law_other","_law_e"]
theorem Xv:bH OW ["_law_one","_law_other"] (au (top 28)):=⟨rfl,rfl,rfl,by decide +kernel,rfl,by decide +kernel,by decide +kernel⟩
abbrev OX:List Str:=["_law_one","_law_other","_law_asks","_law_told_here","_law_wants","_law_says","_law_want","_law_here"]
theorem Xw:bH OX ["_law_one","_law_other"] (au (top 29)):=⟨rfl,rfl,rfl,by decide +kernel,rfl,by decide +kernel,by decide +kernel⟩
abbrev OY:List Str:=["_law_script","_law_text_here","_law_one","_law_made_here","_law_other","_law_at","_law_texts","_law_odd","_law_change_here","_law_due_here","_law_told_here","_law_rows"]
theorem Xx:bH OY ["_law_script"] (au (top 30)):=⟨rfl,rfl,rfl,by decide +kernel,rfl,by decide +kernel,by decide +kernel⟩
noncomputable def cV:List (Str×Nat):=[("NoFit",0),("Clash",1),("NoPlace",2),("NoNumber",3)]
noncomputable def rz:List Nat:=[6,7,8]
noncomputable def su:List Nat:=[6,8]
theorem hz:Ev.pI rz 0 prog=true:=by decide +kernel
noncomputable def Vs(s:Stmt):List Expr:=match dD s with
 |[.Try [.Return (some (.Call _ xs _ _)) _] _ _ _ _]=>xs
 |_=>[]
set_option maxHeartbeats 0 in
theorem eN{cl:Nat->Addr}:allB (tb a d) n [(f0.body,top 1,n0),(f1.body,top 2,n1),(f2.body,top 3,n2),(f3.body,top 4,n3),(f4.body,top 5,n4),(f5.body,top 13,n5),(f6.body,top 14,n6),(f7.body,top 15,n7),(f8.body,top 16,n8),(f9.body,top 17,n9),(vG.body,top 18,OO),(Cj.body,top 20,OP),(Ck.body,top 21,OQ),(OA.body,top 22,OR),(OB.body,top 23,OS),(OC.body,top 24,OT),(OD.body,top 25,OU),(OE.body,top 26,OV),(DB.body,top 29,OX),(DC.body,top 30,OY)]/\lH (tb a d) cl cV rz su n (au (top 14)) n6 true (List.range n6.length) f6.body (dD (top 14))/\lH (tb a d) cl cV rz su n (au (top 16)) n8 true (List.range n8.length) f8.body (dD (top 16))/\JA (tb a d) n (au (top 28)) OW true (List.range OW.length) (.cons (.v 0) (.cons (.v 1) .nil)) (Vs (top 28)):=by
 refine⟨⟨?_,?_,?_,?_,?_,?_,?_,?_,?_,?_,?_,?_,?_,?_,?_,?_,?_,?_,?_,?_,trivial⟩,cI ?_ (oS ?_ (by decide +kernel) (cI ?_ (yO) (fM (by decide +kernel))) (fM (by decide +kernel))) (cI ?_ (lU (by decide +kernel)) (cI ?_ (lU (by decide +kernel)) (cI ?_ (lU (by decide +kernel)) (cI ?_ (Jd ?_ ?_ (cI ?_ (oS ?_ (by decide +kernel) (fM (by decide +kernel)) (cI ?_ (oS ?_ (by decide +kernel) (fM (by decide +kernel)) (cI ?_ (lU (by decide +kernel)) (cI ?_ (Ja (Qd (k:=.extend) PySem.F.plainAttrs_list PySem.F.slot_list_extend PySem.F.type_list_extend rfl ?_ (Ew ?_ (Qc (by decide +kernel) (by decide +kernel) rfl rfl ?_ (Cg (by decide +kernel))) (Cg (by decide +kernel))))) (fM (by decide +kernel))))) (fM (by decide +kernel)))) (fM (by decide +kernel)))) (fM (by decide +kernel)))))),cI ?_ (lU (by decide +kernel)) (cI ?_ (lU (by decide +kernel)) (cI ?_ (oS ?_ (by decide +kernel) (cI ?_ (yO) (fM (by decide +kernel))) (fM (by decide +kernel))) (fM (by decide +kernel)))),?_⟩;all_goals try dsimp only
 all_goals repeat (first
  | ((with_reducible show JE _ _ _ _ _ _ _ (.BoolOp _ [_] _));refine LF ?_)
  | ((with_reducible show JE _ _ _ _ _ _ (.v _) _);exact jv (by decide +kernel))
  | ((with_reducible show JA _ _ _ _ _ _ (.cons _ _) _);refine Ik ?_ ?_)
  | ((with_reducible show kO _ _ _ _ _ _ (.cons _ _) _);refine vv ?_ ?_)
  | ((with_reducible show JA _ _ _ _ _ _ .nil _);refine Ly)
  | ((with_reducible show kO _ _ _ _ _ _ .nil _);refine yr)
  | ((with_reducible show JE _ _ _ _ _ _ (.c (.int _)) _);refine Lu)
  | ((with_reducible show JE _ _ _ _ _ _ (.cl _ _) _);refine Sf (by decide +kernel) rfl rfl ?_)
  | ((with_reducible show JE _ _ _ _ _ _ (.c (.str _)) _);refine Lx)
  | ((with_reducible show JE _ _ _ _ _ _ (.bin .add _ _) _);refine nG (λX g=>Mb) ?_ ?_)
  | ((with_reducible show JS _ _ _ _ _ _ (.iff _ _ _) _);refine LW ?_ ?_ ?_)
  | ((with_reducible show JE _ _ _ _ _ _ (.ix _ _) _);refine PK (λX g=>P1) ?_ ?_)
  | ((with_reducible show JS _ _ _ _ _ _ (.ret _) _);refine BK ?_)
  | ((with_reducible show JE _ _ _ _ _ _ (.tup _) _);refine Lz ?_)
  | ((with_reducible show JT _ _ _ _ _ _ (.cmp .eq _ _) _);refine kh (λX g=>GI g) ?_ ?_ (jG _))
  | ((with_reducible show JE _ _ _ _ _ _ (.bi .len _) _);refine Ac (x:="len") (id:="len") (λX g=>Mp) ?_ (hb:=RL) (hv:=by decide +kernel))
  | ((with_reducible show JE _ _ _ _ _ _ (.lst _) _);refine LA ?_)
  | ((with_reducible show ue _ _ _ _ _ _ (_ :: _) _);refine Wn (by decide +kernel) ?_)
  | ((with_reducible show JT _ _ _ _ _ _ (.cmp .ne _ _) _);refine kh (λX g=>PY g) ?_ ?_ (jG _))
  | ((with_reducible show JE _ _ _ _ _ _ (.bin .mul _ _) _);refine nG (λX g=>Mm) ?_ ?_)
  | ((with_reducible show JI _ _ _ _ _ _ (.seq _) _ _);refine LQ ?_)
  | ((with_reducible show JO _ _ _ _ _ _ (.yes _) _);refine LM ?_)
  | ((with_reducible show JG _ _ _ _ _ _ (.one _) _);exact Wm (by decide +kernel))
  | ((with_reducible show JS _ _ _ _ _ _ (.exp _) _);refine LV ?_)
  | ((with_reducible show JS _ _ _ _ _ _ (.for _ _ _) _);refine LY ?_ ?_ ?_)
  | ((with_reducible show JE _ _ _ _ _ _ (.sl _ _ _) _);refine PM (λX g=>Ml) ?_ ?_ ?_)
  | ((with_reducible show JG _ _ _ _ _ _ (.many _) _);refine Ir ?_)
  | ((with_reducible show ue _ _ _ _ _ _ [] _);refine Iq)
  | ((with_reducible show JE _ _ _ _ _ _ (.me .append _ (.cons _ _)) _);refine Ae PySem.F.plainAttrs_list PySem.F.slot_list_append PySem.F.type_list_append (λX g=>B4) rfl ?_ ?_)
  | ((with_reducible show JO _ _ _ _ _ _ .no _);refine PL)
  | ((with_reducible show JE _ _ _ _ _ _ (.bin .mod _ _) _);refine nG (λX g=>Me) ?_ ?_)
  | ((with_reducible show JE _ _ _ _ _ _ (.comp _ _ _ _) _);refine P8 (by decide +kernel) (by decide +kernel) ?_ ?_ ?_ ?_)
  | ((with_reducible show JT _ _ _ _ _ _ (.orr _ _) _);refine Uu ?_ ?_)
  | ((with_reducible show JW _ _ _ _ _ _ (.orr _ _) (.BoolOp _ (_ :: _ :: _) _));refine BH ?_ ?_)
  | ((with_reducible show JE _ _ _ _ _ _ (.c .aL) _);refine Lv)
  | ((with_reducible show JW _ _ _ _ _ _ _ (.BoolOp .Or [_] _));refine Il ?_)
  | ((with_reducible show JT _ _ _ _ _ _ (.an _ _) _);refine Ut ?_ ?_)
  | ((with_reducible show JW _ _ _ _ _ _ (.an _ _) (.BoolOp _ (_ :: _ :: _) _));refine Gr ?_ ?_)
  | ((with_reducible show JW _ _ _ _ _ _ _ (.BoolOp .And [_] _));refine LI ?_)
  | ((with_reducible show JE _ _ _ _ _ _ (.neg _) _);refine LC ?_)
  | ((with_reducible show JE _ _ _ _ _ _ (.bin .fdiv _ _) _);refine nG (λX g=>IF) ?_ ?_)
  | ((with_reducible show JC _ _ _ _ _ _ (.yes _) _);refine LZ ?_)
  | ((with_reducible show JT _ _ _ _ _ _ (.cmp .gt _ _) _);refine kh (λX g=>GJ) ?_ ?_ (jG _))
  | ((with_reducible show JE _ _ _ _ _ _ (.me .extend _ (.cons _ _)) _);refine Ae PySem.F.plainAttrs_list PySem.F.slot_list_extend PySem.F.type_list_extend (λX g=>B5) rfl ?_ ?_)
  | ((with_reducible show JE _ _ _ _ _ _ (.me .pop _ .nil) _);refine LN PySem.F.plainAttrs_list PySem.F.slot_list_pop PySem.F.type_list_pop (λX g=>Mr) rfl ?_)
  | ((with_reducible show JC _ _ _ _ _ _ .no _);refine PU)
  | ((with_reducible show JE _ _ _ _ _ _ (.iL _ _ _) _);refine LG ?_ ?_ ?_)
  | ((with_reducible show JE _ _ _ _ _ _ (.eH (.seq _)) _);refine Ms ?_ (h1:=xF))
  | ((with_reducible show JE _ _ _ _ _ _ (.c (.bl _)) _);refine PD)
  | ((with_reducible show JE _ _ _ _ _ _ (.cmp .eq _ _) _);refine BG (λX g=>GI g) ?_ ?_ (jG _))
  | ((with_reducible show JE _ _ _ _ _ _ (.bi .sum _) _);refine Ac (x:="sum") (id:="sum") (λX g=>Mn g) ?_ (hb:=RN) (hv:=by decide +kernel))
  | ((with_reducible show JE _ _ _ _ _ _ (.jm _) _);refine Mt ?_ (h1:=zJ))
  | ((with_reducible show JS _ _ _ _ _ _ (.fk _) _);refine Mu)
  | ((with_reducible show JE _ _ _ _ _ _ (.eH (.rev _)) _);refine IT ?_ (h1:=xF) (hb:=A8))
  | ((with_reducible show JI _ _ _ _ _ _ (.gS (.cons _ .nil)) _ _);refine Ip ?_ (hb:=zI))
  | ((with_reducible show JI _ _ _ _ _ _ (.zip _ _) _ _);refine Mx ?_ ?_ (Se:=RP))
  | ((with_reducible show JE _ _ _ _ _ _ (.an _ _) (.BoolOp _ (_ :: _ :: _) _));refine PF ?_ ?_)
  | ((with_reducible show JS _ _ _ _ _ _ (.iW _ _) _);refine Iu ?_ ?_)
  | ((with_reducible show JE _ _ _ _ _ _ (.fK _ [.int]) _);refine B6 (t:=.int) (T:="int") ?_ (by decide +kernel) (h1:=oE) (h2:=RK))
  | ((with_reducible show JS _ _ _ _ _ _ (.jH _ _) _);refine LX ?_ ?_)
  | ((with_reducible show JE _ _ _ _ _ _ (.bi .min _) _);refine Ac (x:="min") (id:="min") (λX g=>Mq g) ?_ (hb:=RM) (hv:=by decide +kernel))
  | ((with_reducible show JE _ _ _ _ _ _ (.bin .sub _ _) _);refine nG (λX g=>Mc) ?_ ?_)
  | ((with_reducible show JE _ _ _ _ _ _ (.me .join _ (.cons _ _)) _);refine Ae PySem.F.plainAttrs_str PySem.F.slot_str_join PySem.F.type_str_join (λX g=>IL) rfl ?_ ?_)
  | ((with_reducible show JT _ _ _ _ _ _ (.cmp .lt _ _) _);refine kh (λX g=>PZ) ?_ ?_ (jG _))
  | ((with_reducible show JE _ _ _ _ _ _ (.cmp .gt _ _) _);refine BG (λX g=>GJ) ?_ ?_ (jG _))
  | ((with_reducible show JE _ _ _ _ _ _ (.eH (.gS (.cons _ (.cons _ .nil)))) _);refine Eg ?_ (h1:=xF) (hb:=zI))
  | ((with_reducible show JS _ _ _ _ _ _ (.set _ (.comp _ _ _ _)) _);refine P9 (by decide +kernel) (by decide +kernel) (by decide +kernel) ?_ ?_ ?_ ?_)
  | ((with_reducible show JE _ _ _ _ _ _ (.fK _ [.tuple]) _);refine B6 (t:=.tuple) (T:="tuple") ?_ (by decide +kernel) (h1:=oE) (h2:=zJ))
  | ((with_reducible show JT _ _ _ _ _ _ (.cmp .isin _ _) _);refine kh (λX g=>P0 g) ?_ ?_ (by with_unfolding_all rfl))
  | ((with_reducible show JS _ _ _ _ _ _ (.exp (.me .nA _ _)) _);refine Iv ?_ ?_ ?_)
  | ((with_reducible show JT _ _ _ _ _ _ (.cmp .gu _ _) _);refine kh (λX g=>Ec g) ?_ ?_ (by with_unfolding_all rfl))
  | ((with_reducible show JT _ _ _ _ _ _ (.cmp .yk _ _) _);refine kh (λX g=>Ma) ?_ ?_ (jG _))
  | ((with_reducible show JT _ _ _ _ _ _ (.nt _) _);refine PJ ?_)
  | ((with_reducible show JS _ _ _ _ _ _ (.set _ _) _);refine Us ?_ ?_;decide +kernel)
  | ((with_reducible show JT _ _ _ _ _ _ _ _);refine LK ?_))
end
end Lw
set_option maxRecDepth 100000
namespace Lw
open PySem PySem.Spec PyProof.Rows L2 Sm
open Ev (D O Hh Fr R aI E Es Eo T S Ss Fl Src bF bu TY BI ME)
theorem lP{α:Type _}{l:List α}(h:l.length=1):∃a,l=[a]:=by
 rcases l with _|⟨a,_|⟨b,l⟩⟩<;>simp at h ⊢
theorem lQ{α:Type _}{l:List α}(h:l.length=2):∃a b,l=[a,b]:=by
 rcases l with _|⟨a,l⟩
 .simp at h
 .obtain⟨b,rfl⟩:=lP (l:=l) (by simpa using h);exact⟨a,b,rfl⟩
theorem A9{α:Type _}{l:List α}(h:l.length=3):∃a b c,l=[a,b,c]:=by
 rcases l with _|⟨a,l⟩
 .simp at h
 .obtain⟨b,c,rfl⟩:=lQ (l:=l) (by simpa using h);exact⟨a,b,c,rfl⟩
structure Fg(K:PySem.W.Frag)(x:Str)(i:Nat)(p:Addr)(d:FuncData):Prop where
 a:PySem.W.nsIn K mainGlobals x=some (some (.ref p))
 f:mU K x x (top i) p d
theorem Fg.t{K:PySem.W.Frag}{h:Heap}{mg:Str->Option Value}{x:Str}{i:Nat}{p:Addr}{d:FuncData}{ps:List Str}(F:Fg K x i p d)(X:K.In h)(G:h.Ns mainGlobals mg)(b:Binds K d ps []):mg x=some (.ref p)/\PySem.W.keepIn K (.ref p)=true/\Binds K d ps []:=⟨PySem.W.mg_of X G F.a,F.f.kp,b⟩
theorem all_mk {l:PySem.W.OpenLaw}{w:World}{K:PySem.W.Frag}{h:Heap}{mg:Str->Option Value}{fa p0 p1 p2 p3 p4 p5 p6 p7 p8 p9 GP GQ GR GS GU GV GW GY GZ G0 Cd:Addr}{d0 d1 d2 d3 d4 d5 d6 d7 d8 d9 SX SY S5 S6 S7 S8 S9 Tc Td Te OZ:FuncData}(X:K.In h) (G:h.Ns mainGlobals mg) (Xy:mg "law" = some (.ref fa))
  (F0:Fg K "size" 1 p0 d0)
  (F1:Fg K "before" 2 p1 d1)
  (F2:Fg K "after" 3 p2 d2)
  (F3:Fg K "form" 4 p3 d3)
  (F4:Fg K "stretch" 5 p4 d4)
  (F5:Fg K "nothing" 13 p5 d5)
  (F6:Fg K "then" 14 p6 d6)
  (F7:Fg K "all_then" 15 p7 d7)
  (F8:Fg K "met" 16 p8 d8)
  (F9:Fg K "taken" 17 p9 d9)
  (O0:Fg K "parted" 18 GP SX)
  (O1:Fg K "_law_cell" 20 GQ SY)
  (O2:Fg K "_law_drawn" 21 GR S5)
  (O3:Fg K "_law_text" 22 GS S6)
  (O4:Fg K "_law_change" 23 GU S7)
  (O5:Fg K "_law_sense" 24 GV S8)
  (O6:Fg K "_law_is_form" 25 GW S9)
  (O7:Fg K "_law_made" 26 GY Tc)
  (O8:Fg K "_law_told" 28 GZ Td)
  (O9:Fg K "_law_due" 29 G0 Te)
  (DE:Fg K "law" 30 Cd OZ)
  {pr Wc C0 C1 C2 C3:Addr} {dr:FuncData} (FR:Fg K "_law_refused" 27 pr dr) (xw:PySem.W.nsIn K mainGlobals "WayError" = some (some (.ref Wc)))
  (X0:vV K "NoFit" C0 Wc C0 C1 C2 C3 0)
  (X1:vV K "Clash" C1 Wc C0 C1 C2 C3 1)
  (X2:vV K "NoPlace" C2 Wc C0 C1 C2 C3 2)
  (X3:vV K "NoNumber" C3 Wc C0 C1 C2 C3 3)
  (z0:PySem.W.nsIn K mainGlobals "ValueError" = some none)
  (z1:PySem.W.nsIn K mainGlobals "int" = some none)
  (z2:PySem.W.nsIn K mainGlobals "isinstance" = some none)
  (z3:PySem.W.nsIn K mainGlobals "len" = some none)
  (z4:PySem.W.nsIn K mainGlobals "list" = some none)
  (z5:PySem.W.nsIn K mainGlobals "min" = some none)
  (z6:PySem.W.nsIn K mainGlobals "range" = some none)
  (z7:PySem.W.nsIn K mainGlobals "reversed" = some none)
  (z8:PySem.W.nsIn K mainGlobals "sum" = some none)
  (z9:PySem.W.nsIn K mainGlobals "tuple" = some none)
  (Tf:PySem.W.nsIn K mainGlobals "zip" = some none)
  {t0:Tok} (q0:PySem.W.nsIn K mainGlobals "__name__" = some (some (.str "law_pastways_k12_then" t0)))
  : ∃fd:FuncData,(∀(s:Shared) (v:Value),BindsTo s fd ⟨[v],[]⟩ [("_law_script",v)])/\∀base:Heap,K.In base->base.Ns mainGlobals mg->fJ l.prog w K mg base jQ 60 fa fd ["_law_script"] (mW K prog 100000 60 20):=by
 have e:=Xy.symm.trans (PySem.W.mg_of X G DE.a);have e2:Cd=fa:=by injection e with e;injection e with e;exact e.symm
 subst e2
 let aa:Nat->Addr:=λk=>[p0,p1,p2,p3,p4,p5,p6,p7,p8,p9,GP,GQ,GR,GS,GU,GV,GW,GY,GZ,G0,Cd].getD k p0
 let dd:Nat->FuncData:=λk=>[d0,d1,d2,d3,d4,d5,d6,d7,d8,d9,SX,SY,S5,S6,S7,S8,S9,Tc,Td,Te,OZ].getD k d0
 have T:Top l.prog w K mg (tb aa dd):=by
  refine⟨λf i hi=>(show ∀i∈(tb aa dd).fi,mg i.name=some (.ref i.addr)/\PySem.W.keepIn K (.ref i.addr)=true/\Binds K i.fd i.ps []from ?_) i (List.mem_of_getElem? hi),?_,?_,?_⟩
  .refine List.forall_mem_cons.mpr ⟨F0.t X G (F0.f.binds λ_ _ _ _ _ _ us hl=>by obtain⟨_,rfl⟩:=lP hl;rfl),?_⟩;refine List.forall_mem_cons.mpr ⟨F1.t X G (F1.f.binds λ_ _ _ _ _ _ us hl=>by obtain⟨_,rfl⟩:=lP hl;rfl),?_⟩;refine List.forall_mem_cons.mpr ⟨F2.t X G (F2.f.binds λ_ _ _ _ _ _ us hl=>by obtain⟨_,rfl⟩:=lP hl;rfl),?_⟩;refine List.forall_mem_cons.mpr ⟨F3.t X G (F3.f.binds λ_ _ _ _ _ _ us hl=>by obtain⟨_,rfl⟩:=lP hl;rfl),?_⟩;refine List.forall_mem_cons.mpr ⟨F4.t X G (F4.f.binds λ_ _ _ _ _ _ us hl=>by obtain⟨_,_,_,rfl⟩:=A9 hl;rfl),?_⟩;refine List.forall_mem_cons.mpr ⟨F5.t X G (F5.f.binds λ_ _ _ _ _ _ us hl=>by obtain⟨_,rfl⟩:=lP hl;rfl),?_⟩;refine List.forall_mem_cons.mpr ⟨F6.t X G (F6.f.binds λ_ _ _ _ _ _ us hl=>by obtain⟨_,_,rfl⟩:=lQ hl;rfl),?_⟩;refine List.forall_mem_cons.mpr ⟨F7.t X G (F7.f.binds λ_ _ _ _ _ _ us hl=>by obtain⟨_,_,rfl⟩:=lQ hl;rfl),?_⟩;refine List.forall_mem_cons.mpr ⟨F8.t X G (F8.f.binds λ_ _ _ _ _ _ us hl=>by obtain⟨_,_,rfl⟩:=lQ hl;rfl),?_⟩;refine List.forall_mem_cons.mpr ⟨F9.t X G (F9.f.binds λ_ _ _ _ _ _ us hl=>by obtain⟨_,_,rfl⟩:=lQ hl;rfl),?_⟩;refine List.forall_mem_cons.mpr ⟨O0.t X G (O0.f.binds λ_ _ _ _ _ _ us hl=>by obtain⟨_,_,rfl⟩:=lQ hl;rfl),?_⟩;refine List.forall_mem_cons.mpr ⟨O1.t X G (O1.f.binds λ_ _ _ _ _ _ us hl=>by obtain⟨_,_,rfl⟩:=lQ hl;rfl),?_⟩;refine List.forall_mem_cons.mpr ⟨O2.t X G (O2.f.binds λ_ _ _ _ _ _ us hl=>by obtain⟨_,_,_,rfl⟩:=A9 hl;rfl),?_⟩;refine List.forall_mem_cons.mpr ⟨O3.t X G (O3.f.binds λ_ _ _ _ _ _ us hl=>by obtain⟨_,_,_,rfl⟩:=A9 hl;rfl),?_⟩;refine List.forall_mem_cons.mpr ⟨O4.t X G (O4.f.binds λ_ _ _ _ _ _ us hl=>by obtain⟨_,_,_,rfl⟩:=A9 hl;rfl),?_⟩;refine List.forall_mem_cons.mpr ⟨O5.t X G (O5.f.binds λ_ _ _ _ _ _ us hl=>by obtain⟨_,rfl⟩:=lP hl;rfl),?_⟩;refine List.forall_mem_cons.mpr ⟨O6.t X G (O6.f.binds λ_ _ _ _ _ _ us hl=>by obtain⟨_,rfl⟩:=lP hl;rfl),?_⟩;refine List.forall_mem_cons.mpr ⟨O7.t X G (O7.f.binds λ_ _ _ _ _ _ us hl=>by obtain⟨_,_,rfl⟩:=lQ hl;rfl),?_⟩;refine List.forall_mem_cons.mpr ⟨O8.t X G (O8.f.binds λ_ _ _ _ _ _ us hl=>by obtain⟨_,_,rfl⟩:=lQ hl;rfl),?_⟩;refine List.forall_mem_cons.mpr ⟨O9.t X G (O9.f.binds λ_ _ _ _ _ _ us hl=>by obtain⟨_,_,rfl⟩:=lQ hl;rfl),?_⟩;refine List.forall_mem_cons.mpr ⟨DE.t X G (DE.f.binds λ_ _ _ _ _ _ us hl=>by obtain⟨_,rfl⟩:=lP hl;rfl),?_⟩;exact λ_ h=>nomatch h
  .exact(show ∀x∈m6,mg x=none from List.forall_mem_cons.mpr ⟨PySem.W.mg_none_of X G z0,List.forall_mem_cons.mpr ⟨PySem.W.mg_none_of X G z1,List.forall_mem_cons.mpr ⟨PySem.W.mg_none_of X G z2,List.forall_mem_cons.mpr ⟨PySem.W.mg_none_of X G z3,List.forall_mem_cons.mpr ⟨PySem.W.mg_none_of X G z4,List.forall_mem_cons.mpr ⟨PySem.W.mg_none_of X G z5,List.forall_mem_cons.mpr ⟨PySem.W.mg_none_of X G z6,List.forall_mem_cons.mpr ⟨PySem.W.mg_none_of X G z7,List.forall_mem_cons.mpr ⟨PySem.W.mg_none_of X G z8,List.forall_mem_cons.mpr ⟨PySem.W.mg_none_of X G z9,List.forall_mem_cons.mpr ⟨PySem.W.mg_none_of X G Tf,λ_ h=>nomatch h⟩⟩⟩⟩⟩⟩⟩⟩⟩⟩⟩)
  .exact λx d hx=>(show ∀y∈(tb aa dd).cs,∃v u,mg y.1=some u/\RelV v u/\yq K y.2 v from List.forall_mem_cons.mpr ⟨⟨.str "law_pastways_k12_then",_,PySem.W.mg_of X G q0,⟨_,rfl⟩,λ_ _=>⟨by decide +kernel,by decide⟩⟩,λ_ h=>nomatch h⟩) (x,d) hx
  .exact λx d hx=>(show ∀y∈(tb aa dd).dk,∃a,mg y.1=some (.ref a)/\∀h:Heap,K.In h->StrTab l.prog w h a (tabOf y.2)from λ_ h=>nomatch h) (x,d) hx
 refine⟨OZ,λs v=>?_,λbase _ _=>?_⟩
 .obtain⟨oc,od,kV,doc,pm,an,cdv,ct,osl,e,_⟩:=DE.f.ex;rw[e];exact .of_eq rfl
 let cl:Nat->Addr:=λk=>[C0,C1,C2,C3].getD k C0
 have hc:∀x c,(x,c)∈cV->mg x=some (.ref (cl c))/\yL K (cl c):=λx c hx=>(show ∀y∈cV,mg y.1=some (.ref (cl y.2))/\yL K (cl y.2)from List.forall_mem_cons.mpr ⟨⟨PySem.W.mg_of X G X0.ns,X0.rs⟩,List.forall_mem_cons.mpr ⟨⟨PySem.W.mg_of X G X1.ns,X1.rs⟩,List.forall_mem_cons.mpr ⟨⟨PySem.W.mg_of X G X2.ns,X2.rs⟩,List.forall_mem_cons.mpr ⟨⟨PySem.W.mg_of X G X3.ns,X3.rs⟩,λ_ h=>nomatch h⟩⟩⟩⟩) (x,c) hx;have kc:∀c,c<4->(λC c=>GO K C c C0 C1 C2 C3) (cl c) c/\PySem.W.exmOne K (.ref (cl c)) (.ref Wc)=some true:=λc h=>match c,h with
  |0,_=>⟨X0.cs,X0.em⟩
  |1,_=>⟨X1.cs,X1.em⟩
  |2,_=>⟨X2.cs,X2.em⟩
  |3,_=>⟨X3.cs,X3.em⟩
 have R:Eu K mg pr dr (top 27) Wc (λC c=>GO K C c C0 C1 C2 C3):=⟨FR.f,⟨rfl,rfl,rfl,by decide +kernel,rfl,by decide +kernel,by decide +kernel⟩,FR.f.binds λ_ _ _ _ _ _ us hl=>by obtain⟨_,rfl⟩:=lP hl;rfl,PySem.W.mg_of X G FR.a,PySem.W.mg_of X G xw,λY a oe C c h1 h2 h3 h4 hp ho hd k=>Er hp ho hd (by rw[h3];exact k) ⟨(by show Y.env.scope.names.lookup _=_;rw[h2];rfl),(by show Y.env.scope.names.lookup _=_;rw[h2];rfl),(by show Y.env.scope.names.lookup _=_;rw[h2];rfl),(by show Y.env.scope.names.lookup _=_;rw[h2];rfl),(by show Y.env.scope.names.lookup _=_;rw[h2];rfl),(by show Y.env.scope.names.lookup _=_;rw[h2];rfl),by rw[h4];exact PySem.W.mg_of X G X0.ns,by rw[h4];exact PySem.W.mg_of X G X1.ns,by rw[h4];exact PySem.W.mg_of X G X2.ns,by rw[h4];exact PySem.W.mg_of X G X3.ns,by rw[h4];exact PySem.W.mg_none_of X G z2,by rw[h4];exact PySem.W.mg_none_of X G z0⟩ h1 (by rw[h2];rfl) (by rw[h2];rfl) rfl rfl⟩
 refine(sU (P:=l.prog) (w:=w) (G:=tb aa dd) (cl:=cl) (su:=su) (base:=base) (λn A0 A1=>⟨λf i hi=>?_,λf i hi hu=>?_⟩) 60).1 20 (HH aa dd) rfl
 .match f,hi with
  |0,hi=>obtain rfl:i0 aa dd=i:=Option.some.inj hi;exact dW (i:=i0 aa dd) T A0 F0.f s0 rfl rfl (@allB.get _ _ _ 0 (f0.body,top 1,n0) (eN (cl:=cl)).1 rfl)
  |1,hi=>obtain rfl:i1 aa dd=i:=Option.some.inj hi;exact dW (i:=i1 aa dd) T A0 F1.f s1 rfl rfl (@allB.get _ _ _ 1 (f1.body,top 2,n1) (eN (cl:=cl)).1 rfl)
  |2,hi=>obtain rfl:i2 aa dd=i:=Option.some.inj hi;exact dW (i:=i2 aa dd) T A0 F2.f s2 rfl rfl (@allB.get _ _ _ 2 (f2.body,top 3,n2) (eN (cl:=cl)).1 rfl)
  |3,hi=>obtain rfl:i3 aa dd=i:=Option.some.inj hi;exact dW (i:=i3 aa dd) T A0 F3.f s3 rfl rfl (@allB.get _ _ _ 3 (f3.body,top 4,n3) (eN (cl:=cl)).1 rfl)
  |4,hi=>obtain rfl:i4 aa dd=i:=Option.some.inj hi;exact dW (i:=i4 aa dd) T A0 F4.f s4 rfl rfl (@allB.get _ _ _ 4 (f4.body,top 5,n4) (eN (cl:=cl)).1 rfl)
  |5,hi=>obtain rfl:i5 aa dd=i:=Option.some.inj hi;exact dW (i:=i5 aa dd) T A0 F5.f s5 rfl rfl (@allB.get _ _ _ 5 (f5.body,top 13,n5) (eN (cl:=cl)).1 rfl)
  |6,hi=>obtain rfl:i6 aa dd=i:=Option.some.inj hi;exact dW (i:=i6 aa dd) T A0 F6.f s6 rfl rfl (@allB.get _ _ _ 6 (f6.body,top 14,n6) (eN (cl:=cl)).1 rfl)
  |7,hi=>obtain rfl:i7 aa dd=i:=Option.some.inj hi;exact dW (i:=i7 aa dd) T A0 F7.f s7 rfl rfl (@allB.get _ _ _ 7 (f7.body,top 15,n7) (eN (cl:=cl)).1 rfl)
  |8,hi=>obtain rfl:i8 aa dd=i:=Option.some.inj hi;exact dW (i:=i8 aa dd) T A0 F8.f s8 rfl rfl (@allB.get _ _ _ 8 (f8.body,top 16,n8) (eN (cl:=cl)).1 rfl)
  |9,hi=>obtain rfl:i9 aa dd=i:=Option.some.inj hi;exact dW (i:=i9 aa dd) T A0 F9.f s9 rfl rfl (@allB.get _ _ _ 9 (f9.body,top 17,n9) (eN (cl:=cl)).1 rfl)
  |10,hi=>obtain rfl:OF aa dd=i:=Option.some.inj hi;exact dW (i:=OF aa dd) T A0 O0.f R9 rfl rfl (@allB.get _ _ _ 10 (vG.body,top 18,OO) (eN (cl:=cl)).1 rfl)
  |11,hi=>obtain rfl:OG aa dd=i:=Option.some.inj hi;exact dW (i:=OG aa dd) T A0 O1.f Gy rfl rfl (@allB.get _ _ _ 11 (Cj.body,top 20,OP) (eN (cl:=cl)).1 rfl)
  |12,hi=>obtain rfl:i12 aa dd=i:=Option.some.inj hi;exact dW (i:=i12 aa dd) T A0 O2.f s12 rfl rfl (@allB.get _ _ _ 12 (Ck.body,top 21,OQ) (eN (cl:=cl)).1 rfl)
  |13,hi=>obtain rfl:OH aa dd=i:=Option.some.inj hi;exact dW (i:=OH aa dd) T A0 O3.f Xo rfl rfl (@allB.get _ _ _ 13 (OA.body,top 22,OR) (eN (cl:=cl)).1 rfl)
  |14,hi=>obtain rfl:OI aa dd=i:=Option.some.inj hi;exact dW (i:=OI aa dd) T A0 O4.f Xp rfl rfl (@allB.get _ _ _ 14 (OB.body,top 23,OS) (eN (cl:=cl)).1 rfl)
  |15,hi=>obtain rfl:OJ aa dd=i:=Option.some.inj hi;exact dW (i:=OJ aa dd) T A0 O5.f Xq rfl rfl (@allB.get _ _ _ 15 (OC.body,top 24,OT) (eN (cl:=cl)).1 rfl)
  |16,hi=>obtain rfl:OL aa dd=i:=Option.some.inj hi;exact dW (i:=OL aa dd) T A0 O6.f Xr rfl rfl (@allB.get _ _ _ 16 (OD.body,top 25,OU) (eN (cl:=cl)).1 rfl)
  |17,hi=>obtain rfl:OM aa dd=i:=Option.some.inj hi;exact dW (i:=OM aa dd) T A0 O7.f Xu rfl rfl (@allB.get _ _ _ 17 (OE.body,top 26,OV) (eN (cl:=cl)).1 rfl)
  |18,hi=>obtain rfl:SW aa dd=i:=Option.some.inj hi;exact Jc (ix:=2) (j:=i6 aa dd) T A0 A1 (by show prog.length<=1000;decide) R kc O8.f Xv rfl rfl rfl rfl (by decide +kernel) rfl (eN (cl:=cl)).2.2.2 (show qO (au (top 28)) "then" = true by decide +kernel) rfl rfl rfl rfl
  |19,hi=>obtain rfl:ON aa dd=i:=Option.some.inj hi;exact dW (i:=ON aa dd) T A0 O9.f Xw rfl rfl (@allB.get _ _ _ 18 (DB.body,top 29,OX) (eN (cl:=cl)).1 rfl)
  |20,hi=>obtain rfl:HH aa dd=i:=Option.some.inj hi;exact dW (i:=HH aa dd) T A0 DE.f Xx rfl rfl (@allB.get _ _ _ 19 (DC.body,top 30,OY) (eN (cl:=cl)).1 rfl)
  |j+21,hi=>exact nomatch (show(none:Option FI)=some i from hi)
 .match f,hi,hu with
  |6,hi,_=>obtain rfl:i6 aa dd=i:=Option.some.inj hi;exact Ci (i:=i6 aa dd) T A0 A1 hz hc F6.f s6 rfl rfl (eN (cl:=cl)).2.1
  |8,hi,_=>obtain rfl:i8 aa dd=i:=Option.some.inj hi;exact Ci (i:=i8 aa dd) T A0 A1 hz hc F8.f s8 rfl rfl (eN (cl:=cl)).2.2.1
  |0,_,hu=>exact absurd hu (by decide)
  |1,_,hu=>exact absurd hu (by decide)
  |2,_,hu=>exact absurd hu (by decide)
  |3,_,hu=>exact absurd hu (by decide)
  |4,_,hu=>exact absurd hu (by decide)
  |5,_,hu=>exact absurd hu (by decide)
  |7,_,hu=>exact absurd hu (by decide)
  |9,_,hu=>exact absurd hu (by decide)
  |10,_,hu=>exact absurd hu (by decide)
  |11,_,hu=>exact absurd hu (by decide)
  |12,_,hu=>exact absurd hu (by decide)
  |13,_,hu=>exact absurd hu (by decide)
  |14,_,hu=>exact absurd hu (by decide)
  |15,_,hu=>exact absurd hu (by decide)
  |16,_,hu=>exact absurd hu (by decide)
  |17,_,hu=>exact absurd hu (by decide)
  |18,_,hu=>exact absurd hu (by decide)
  |19,_,hu=>exact absurd hu (by decide)
  |20,_,hu=>exact absurd hu (by decide)
  |j+21,hi,_=>exact nomatch (show(none:Option FI)=some i from hi)
end Lw
namespace Lg
open Pv
open Lw (prog HF DB DC HG A7)
open Ev (deep big rep cut bK)
theorem Ba(ns:List Int)(k:Int)(x:List Nat)(b:Nat)(h:x.length<=b):(chg ns k x).length<=2*b+2/\tot (chg ns k x)<=3*b+3:=by
 have h1:=nZ ns k x (x.length+1);have h2:=uE ns k x (x.length+1);simp only[chg];omega
theorem drawn{ns:List Int}(k:Int)(m:Nat)(h:0<m):∃p:Nat,cP ns k (m:Int)=(p:Int)/\p<m:=by
 have h1:=kE ns k (many:=(m:Int)) (by omega);have h2:=kF ns k (many:=(m:Int)) (by omega);exact⟨(cP ns k (m:Int)).toNat,by omega,by omega⟩
theorem xA{P:aI}{k:Bool}{a b:Ev.E}{fr af ao:Fr}{x y:V}{s t:List V}(h:src (k&&kf a (bO b)) fr a (ev P (k&&kf a (bO b)) a fr)=.ok x af)(h2:src k af b (ev P k b af)=.ok y ao)(h3:jS x=some s)(h4:jS y=some t):b8 P k (.zip a b) fr=.ok (eB s t) ao:=by
 rw[zj,h,ak,h2,ak,h3,h4];rfl
theorem u6:∀(a:List At) (i j:Nat),Tq.at j∈tA i a->j<i+(aA a).length
 |[],i,j,h=>by simp[tA]at h
 |.k :: a,i,j,h=>by
  simp only[tA,List.mem_cons]at h;rcases h with h|h
  .cases h;simp[aA]
  .have:=u6 a (i+1) j h;simp[aA];omega
 |.d c :: a,i,j,h=>by
  simp only[tA]at h;have:=u6 a (i+1) j h;simp[aA];omega
 |.p c :: a,i,j,h=>by
  simp only[tA,List.mem_cons]at h;rcases h with h|h
  .cases h
  .have:=u6 a i j h;simpa[aA]using this
theorem tP(c:List Pt)(j:Nat)(h:Tq.at j∈told 0 c):j<(asks c).length:=by
 rw[cZ]at h;have:=u6 (aH c) 0 j h;rw[dJ];omega
noncomputable def pV(p:List Nat×Tq):V:=.tup [.str p.1,p.2.v]
theorem DF:∀(a:List (List Nat)) (b:List Tq),eB (a.map V.str) (b.map Tq.v)=(a.zip b).map pV
 |[],_=>by simp[eB]
 |_ :: _,[]=>by simp[eB]
 |x :: a,y :: b=>congrArg (V.tup [.str x,y.v] :: ·) (DF a b)
noncomputable def mS(one other:List Pt):V:=if (asks other).length=(told 0 one).length then (match iw (asks one) ((asks other).zip (told 0 one))with
 |some A=>.tup [.lst (A.map V.str),.lst ((told 0 other).map λq=>(sub (told 0 one) q).v)]
 |none=>.aL)else .aL
section
variable{w n:Nat}{ns:List Int}
noncomputable def dF(one other:List Pt)(A:List (List Nat))(x y:Option Sl):Fr:=[some (.val (aB one)),some (.val (aB other)),some (.own (A.map V.str)),some (.val (.lst (b6 one))),some (.val (.lst (b5 other))),some (.val (.lst (b6 other))),x,y,none]
theorem Kq(one other:List Pt)(b1:tot one<=900)(b2:tot other<=900):run prog w (n+2) 19 [.val (aB one),.val (aB other)]=some (mS one other,[]):=by
 have s1:=λfr=>cg (fr:=fr) (oh (F:=prog) (i:=15) (w:=w) (n:=n) rfl one (by omega));have s2:=λfr=>cg (fr:=fr) (oh (F:=prog) (i:=15) (w:=w) (n:=n) rfl other (by omega));have a1:=tG one;have a2:=tG other;have t1:=tH one 0;have t2:=tH other 0;have l1:dS .len [.lst (b5 other)]=some (.int ((asks other).length:Nat)):=by rw[tu,b5,List.length_map]
 have l2:dS .len [.lst (b6 one)]=some (.int ((told 0 one).length:Nat)):=by rw[tu,b6,List.length_map]
 have mk:=cT (x:=b5 one) (bQ (by simp[b5];omega));refine cO (fn:=DB) rfl rfl ?_;refine ai (CL (cB (aT rfl (az rfl) br) (s1 _)) (gR rfl .none rfl .none) ?_);refine ai (CL (cB (aT rfl (az rfl) br) (s2 _)) (gR rfl .none rfl .none) ?_);by_cases hl:(asks other).length=(told 0 one).length
 case neg=>
  refine ai (aN (b:=true) (aG rfl (cy (gF (aJ (az rfl) aZ) l1) (gF (aJ (az rfl) aZ) l2) mK) (by show(!decide _)=true;simp;omega)) (λ_=>?_) λh=>absurd h (by decide));exact ai (bZ (bL rfl) ⟨by rw[mS,if_neg hl],rfl⟩)
 refine ai (aN (b:=false) (aG rfl (cy (gF (aJ (az rfl) aZ) l1) (gF (aJ (az rfl) aZ) l2) mK) (by show(!decide _)=false;simp;omega)) (λh=>absurd h (by decide)) λ_=>ay ?_);refine ai (fy (l:=b5 one) (jg (gk (dX rfl) rfl) mk) rfl rfl ?_);have dv:mS one other=match iw (asks one) ((asks other).zip (told 0 one))with
  |some A=>.tup [.lst (A.map V.str),.lst ((told 0 other).map λq=>(sub (told 0 one) q).v)]
  |none=>.aL:=by rw[mS,if_pos hl]
 refine ai (kT (vs:=((asks other).zip (told 0 one)).map pV) (af:=dF one other (asks one) none none) (by rw[<-DF];exact xA (dX rfl) (dX rfl) rfl rfl) ?_);refine gQ (e:=pV) (λp l fr=>(∀q∈l,∀j,q.2=Tq.at j->j<(asks one).length)/\∃A x y,A.length=(asks one).length/\iw A l=iw (asks one) ((asks other).zip (told 0 one))/\vo x/\vo y/\fr=dF one other A x y) (λp q l fr ⟨hq,A,x,y,hA,hd,hx,hy,hfr⟩=>?_) (λp fr ⟨hq,A,x,y,hA,hd,hx,hy,hfr⟩=>?_) _ [] _ ⟨λq hq j hj=>tP one j (by rw[<-hj];exact(List.of_mem_zip hq).2),asks one,none,none,rfl,rfl,.none,.none,rfl⟩
 .subst hfr;obtain⟨wt,h⟩:=q;have hq':∀q∈l,∀j,q.2=Tq.at j->j<(asks one).length:=λq hm=>hq q (by simp[hm]);refine fz (af:=dF one other A (some (.val (.str wt))) (some (.val h.v))) (gR rfl hx rfl hy) ?_;have no:∀{b:Bool},dm h.v .int=b->wt=[]\/b=false->aE (run prog w (n+1)) (.an (.cmp .ne (.v 6) (.c (.str []))) (.fK (.v 7) [.int])) (dF one other A (some (.val (.str wt))) (some (.val h.v)))=.ok false (dF one other A (some (.val (.str wt))) (some (.val h.v))):=λ{b} hb h0=>by
   by_cases e:wt=[]
   .exact wF (aG rfl (cy (az rfl) (bL rfl) jh) (by simp[truthy,e]))
   .refine fq (aG rfl (cy (az rfl) (bL rfl) jh) (by simp[truthy,e])) (aG rfl (rF (az rfl) rfl) ?_);rcases h0 with h0|h0
    .exact absurd h0 e
    .simp[truthy,hb,h0]
  by_cases e:wt=[]
  .subst e;have ni:Pv.cop .gu (.str []) (.tup [.str [],h.v])=some false:=by
    rw[nU];cases h<;>simp[Pv.isin,Tq.v]
   refine ai (aN (b:=false) (no rfl (.inl rfl)) (λh=>absurd h (by decide)) λ_=>?_);refine ai (aN (b:=false) (aG rfl (cy (az rfl) (gD (aJ (bL rfl) (aJ (az rfl) aZ)) jC) ni) rfl) (λh=>absurd h (by decide)) λ_=>ay (ay (ay ?_)));rw[eE];refine⟨hq',A,_,_,hA,?_,.val,.val,rfl⟩;rw[<-hd];simp only[iw,if_true]
  .simp only[iw,if_neg e]at hd;cases h with
   |«at» j=>
    have hj:=hq (wt,.at j) (by simp) j rfl;refine ai (aN (b:=true) (fq (aG rfl (cy (az rfl) (bL rfl) jh) (by simp[truthy,e])) (aG rfl (rF (az rfl) rfl) rfl)) (λ_=>?_) λh=>absurd h (by decide));refine ai (iC (Hj rfl rfl (aJ (az rfl) (aJ (az rfl) aZ)) (EU (l:=A.map V.str) (k:=j) (by simp;omega))) (ay (ay ?_)));rw[eE];refine⟨hq',A.set j wt,some (.val (.str wt)),some (.val (Tq.at j).v),by simp[hA],hd,.val,.val,?_⟩;unfold dF;rw[List.map_set];rfl
   |sg c=>
    refine ai (aN (b:=false) (no rfl (.inr rfl)) (λh=>absurd h (by decide)) λ_=>?_);by_cases e2:wt=[c]
    .have ni:Pv.cop .gu (.str wt) (.tup [.str [],.str [c]])=some false:=by
      rw[nU];simp[Pv.isin,e2]
     refine ai (aN (b:=false) (aG rfl (cy (az rfl) (gD (aJ (bL rfl) (aJ (az rfl) aZ)) jC) ni) rfl) (λh=>absurd h (by decide)) λ_=>ay (ay (ay ?_)));rw[eE];refine⟨hq',A,_,_,hA,?_,.val,.val,rfl⟩;simp only at hd;rw[if_pos e2]at hd;exact hd
    .have ni:Pv.cop .gu (.str wt) (.tup [.str [],.str [c]])=some true:=by
      rw[nU];simp[Pv.isin,Ne.symm e,Ne.symm e2]
     refine ai (aN (b:=true) (aG rfl (cy (az rfl) (gD (aJ (bL rfl) (aJ (az rfl) aZ)) jC) ni) rfl) (λ_=>?_) λh=>absurd h (by decide));refine ai (bZ (bL rfl) ?_);simp only at hd;rw[if_neg e2]at hd;refine⟨?_,rfl⟩;rw[dv,<-hd]
 .subst hfr;have sh:fH (dF one other A x y)=[some (.val (aB one)),some (.val (aB other)),some (.val (.lst (A.map V.str))),some (.val (.lst (b6 one))),some (.val (.lst (b5 other))),some (.val (.lst (b6 other))),x,y,none]:=by
   show [_,_,_,_,_,_,x.map Sl.dH,y.map Sl.dH,none]=_;rw[cU hx,cU hy];rfl
  have cm:cH (jD (run prog w (n+1)) (.iL (.fK (.v 8) [.int]) (.ix (.v 3) (.v 8)) (.v 8)) (.one 8) .no [some (.val (aB one)),some (.val (aB other)),some (.val (.lst (A.map V.str))),some (.val (.lst (b6 one))),some (.val (.lst (b5 other))),some (.val (.lst (b6 other))),x,y,none]) ((told 0 other).map Tq.v)=some ((told 0 other).map λq=>(sub (told 0 one) q).v):=by
   refine nV Tq.v (λq=>(sub (told 0 one) q).v) (told 0 other) λq hm=>?_;cases q with
   |sg c=>exact rJ rfl (rE (b:=false) (aG rfl (rF (az rfl) rfl) rfl) (λh=>absurd h (by decide)) λ_=>az rfl)
   |«at» j=>
    have hj:=tP other j hm;have ix:fP (.lst (b6 one)) (.int (j:Int))=some ((sub (told 0 one) (.at j)).v):=by
     have hj:j<(told 0 one).length:=by omega
     rw[zf,sG,b6,List.getElem?_map,List.getElem?_eq_getElem hj];simp[sub,List.getD,hj]
    exact rJ rfl (rE (b:=true) (aG rfl (rF (az rfl) rfl) rfl) (λ_=>gZ (az rfl) (az rfl) ix) λh=>absurd h (by decide))
  refine ai (bZ (af:=[some (.val (aB one)),some (.val (aB other)),some (.val (.lst (A.map V.str))),some (.val (.lst (b6 one))),some (.val (.lst (b5 other))),some (.val (.lst (b6 other))),x,y,none]) (by rw[sh];exact gD (aJ (az rfl) (aJ (nX (gk (dX rfl) rfl) rfl cm (cT (bQ (by simp;omega)))) aZ)) jC) ⟨?_,rfl⟩);rw[dv,<-hd];rfl
noncomputable def Pb:V:=.tup [.str [114,101,102,117,115,101,100],.int 0]
theorem both(hw:5000<w)(one other:List Pt)(b1:tot one<=400)(b2:tot other<=400)(l1:one.length<=900)(l2:other.length<=900):(mS one other=.aL/\run prog w (n+4) 18 [.val (aB one),.val (aB other)]=some (Pb,[]))\/∃X,mS one other=kH X/\run prog w (n+4) 18 [.val (aB one),.val (aB other)]=some (aB X,[])/\kJ X=true/\tot X<=800/\X.length<=800:=by
 have tx:∀{c:Nat},c<4->cD prog w (n+3) 6 [.val (aB one),.val (aB other)]=some c->run prog w (n+4) 18 [.val (aB one),.val (aB other)]=some (.tup [.str [114,101,102,117,115,101,100],.int (c:Int)],[]):=λ{c} hc h=>cO (fn:=HF) rfl rfl (ai (N3 (vs:=[aB one,aB other]) (aT rfl (az rfl) (aT rfl (az rfl) br)) (by decide) h hc ⟨rfl,rfl⟩));have lt:(told 0 one).length=cQ one:=mP one 0;have la:(asks other).length=bg other:=kK other;by_cases hl:cQ one=bg other
 case neg=>
  exact .inl ⟨by rw[mS,if_neg (by omega)],tx (by decide) (Dv (F:=prog) (av:=0) (aV:=3) (bh:=8) (aK:=9) (aR:=1) (bB:=2) (i:=6) rfl rfl rfl rfl one other (by omega) (by omega) (by omega) (by omega) hl)⟩
 have e1:asks one=aA (aH (aC one)):=by rw[<-dJ,eG]
 have e2:asks other=aA (aH (aC other)):=by rw[<-dJ,eG]
 have e3:told 0 one=tA 0 (aH (aC one)):=by rw[<-cZ,b9]
 have e4:told 0 other=tA 0 (aH (aC other)):=by rw[<-cZ,b9]
 by_cases hT:∃r,Th (aH (aC one)) (aH (aC other)) r
 .obtain⟨r,hr⟩:=hT;obtain⟨ps,rt,hps⟩:=Dz (F:=prog) (av:=0) (bC:=10) (aK:=9) (bh:=8) (aQ:=4) (aV:=3) (aR:=1) (bB:=2) (i:=6) (w:=w) (n:=n) rfl rfl rfl rfl rfl rfl rfl rfl rfl hw one other hl hr (by omega) (by omega) (by omega) (by omega);have ln:=hr.len;rw[<-hps,fc,fc,fc,dI,dI]at ln;have tf:=dI ps;have pl:=dZ (dM (cG ps));refine .inr ⟨aC ps,?_,cO (fn:=HF) rfl rfl (ai (QD (vs:=[aB one,aB other]) (aT rfl (az rfl) (aT rfl (az rfl) br)) rt ⟨rfl,rfl⟩)),cG ps,by omega,by omega⟩;have d:=QO hr [];simp only[List.nil_append,List.length_nil]at d;rw[<-e1,<-e2,<-e3]at d;have t:=hr.told 0 0 [] rfl;rw[List.nil_append,<-e3,<-e4]at t;rw[mS,if_pos (by omega),d];unfold kH b5 b6;have tp:told 0 ps=tA 0 r:=by rw[cZ,hps]
  have ap:asks ps=aA r:=by rw[dJ,hps]
  rw[eG,b9,ap,tp,t,List.map_map];rfl
 .refine .inl ⟨?_,tx (by decide) (DA (F:=prog) (av:=0) (bC:=10) (aK:=9) (bh:=8) (aQ:=4) (aV:=3) (aR:=1) (bB:=2) (i:=6) (w:=w) (n:=n) rfl rfl rfl rfl rfl rfl rfl rfl rfl hw one other hl hT (by omega) (by omega) (by omega) (by omega))⟩;rw[mS,if_pos (by omega)];have d:=jl _ (aH (aC one)) (aH (aC other)) [] (Nat.le_refl _) (by rw[List.length_nil,<-e2,<-e3];omega);simp only[List.nil_append,List.length_nil]at d;rw[<-e1,<-e2,<-e3]at d;cases h:iw (asks one) ((asks other).zip (told 0 one))with
  |none=>rfl
  |some A=>exact absurd (d (by rw[h];simp)) hT
theorem eC(s:List Pt):Pv.cop .eq (aB s) (aB s)=some true:=by rw[Nv,N8];simp
theorem Vt(X:List Pt):Pv.cop .ne (kH X) (kH X)=some false:=by rw[wm,J2];simp
theorem no_ref(X:List Pt):∃v,gg (aB X) none (some 1)=some v/\Pv.cop .eq v (.tup [.str [114,101,102,117,115,101,100]])=some false:=by
 have e:gg (aB X) none (some ((1:Nat):Int))=some (.tup ((X.map Pt.v).take 1)):=by
  show gg (.tup (X.map Pt.v)) none (some ((1:Nat):Int))=_;rw[Jv,uY]
 cases X with
 |nil=>exact⟨.tup [],e,rfl⟩
 |cons p X=>exact⟨.tup [p.v],e,by cases p<;>rfl⟩
variable(hn:ns.length<=63)
noncomputable def lF(ns:List Int)(t m:List Nat)(one other odd:List Pt)(p:Nat)(T:List V)(x y z:Option Sl):Fr:=[some (.val (jq ns)),some (.val (.str t)),some (.val (aB one)),some (.val (.str m)),some (.val (aB other)),some (.val (.int p)),some (.val (.lst T)),some (.val (aB odd)),x,y,z,none]
theorem turn(hw:5000<w){t m:List Nat}{one other odd c:List Pt}{p:Nat}{T:List V}{x y z:Option Sl}(hx:vo x)(hy:vo y)(hz:vo z)(b1:tot one<=400)(b2:tot c<=400)(l1:one.length<=900)(l2:c.length<=900){I Q2:Fr->Prop}{Q3:V->Fr->Prop}(q:∀x y z,vo x->vo y->vo z->I (lF ns t m one other odd p T x y z)):Wp (turnF (run prog w (n+8)) w (.one 8) A7 (aB c) (lF ns t m one other odd p T x y z)) (fl I Q2 Q3):=by
 have d:=λfr=>call2 (fr:=fr) (Kq (w:=w) (n:=n+6) one c (by omega) (by omega));refine fz (af:=lF ns t m one other odd p T (some (.val (aB c))) y z) (bind1 rfl hx) ?_;rcases both (w:=w) (n:=n+4) hw one c b1 b2 l1 l2 with ⟨hd,ht⟩|⟨X,hd,ht,fX,tX,lX⟩
 .rw[hd]at d;have ht:=λfr=>call2 (fr:=fr) ht;refine ai (aY (ao:=lF ns t m one other odd p T (some (.val (aB c))) (some (.val .aL)) z) (cB (aT rfl (az rfl) (aT rfl (az rfl) br)) (d _)) rfl (gG rfl hy) ?_);refine ai (aY (ao:=lF ns t m one other odd p T (some (.val (aB c))) (some (.val .aL)) (some (.val Pb))) (cB (aT rfl (az rfl) (aT rfl (az rfl) br)) (ht _)) rfl (gG rfl hz) ?_);refine ai (aN (b:=true) (aG rfl (cy (b:=true) (az rfl) (bL rfl) rfl) rfl) (λ_=>?_) λh=>absurd h (by decide));refine ai (aN (b:=false) (aG rfl (cy (b:=false) (az rfl) (gD (aJ (bL rfl) (aJ (bL rfl) aZ)) jC) rfl) rfl) (λh=>absurd h (by decide)) λ_=>ay (ay (ay ?_)));rw[eE];exact q _ _ _ .val .val .val
 .rw[hd]at d;have ht:=λfr=>call2 (fr:=fr) ht;have sx:=λfr=>cg (fr:=fr) (oh (F:=prog) (i:=15) (w:=w) (n:=n+7) rfl X (by omega));have fx:=λfr=>cg (fr:=fr) (xB (F:=prog) (i:=16) (w:=w) (n:=n+7) rfl X (by omega) fX);obtain⟨v,v1,v2⟩:=no_ref X;refine ai (aY (ao:=lF ns t m one other odd p T (some (.val (aB c))) (some (.val (kH X))) z) (cB (aT rfl (az rfl) (aT rfl (az rfl) br)) (d _)) rfl (gG rfl hy) ?_);refine ai (aY (ao:=lF ns t m one other odd p T (some (.val (aB c))) (some (.val (kH X))) (some (.val (aB X)))) (cB (aT rfl (az rfl) (aT rfl (az rfl) br)) (ht _)) rfl (gG rfl hz) ?_);refine ai (aN (b:=false) (aG rfl (cy (b:=false) (az rfl) (bL rfl) rfl) rfl) (λh=>absurd h (by decide)) λ_=>?_);refine ai (aN (b:=false) (ir (aG rfl (cy (wD (az rfl) rG (nY (bL rfl)) v1) (gD (aJ (bL rfl) aZ) rA) v2) rfl) (ir (aG rfl (cy (cB (aT rfl (az rfl) br) (sx _)) (az rfl) (Vt X)) rfl) (Ho (b:=true) (aG rfl (cB (aT rfl (az rfl) br) (fx _)) rfl)))) (λh=>absurd h (by decide)) λ_=>ay (ay (ay ?_)));rw[eE];exact q _ _ _ .val .val .val
include hn
theorem Pc(hw:5000<w):run prog w (n+9) 20 [.val (jq ns)]=some (.bl true,[]):=by
 have ht:(txt ns 0 5).length<=5:=zu ns 0 (most:=5) (by decide);have hu:(txt ns 130 6).length<=6:=zu ns 130 (most:=6) (by decide);have c1:=λfr=>iB (fr:=fr) (wH (F:=prog) (c:=11) (dr:=12) (t:=13) (w:=w) (n:=n+5) rfl rfl hn rfl 0 5 (by decide) (by decide));have c2:=λfr=>iB (fr:=fr) (wH (F:=prog) (c:=11) (dr:=12) (t:=13) (w:=w) (n:=n+5) rfl rfl hn rfl 130 6 (by decide) (by decide));have ch:=λ(k:Int) (x:List Nat) (hx:x.length<=100) fr=>iB (fr:=fr) (AR (F:=prog) (c:=11) (dr:=12) (t:=14) (w:=w) (n:=n+5) rfl rfl hn rfl k x (by omega));have dr:=λ(k:Int) (m:Nat) (hm:0<m) fr=>iB (fr:=fr) (gH (F:=prog) (c:=11) (dr:=12) (w:=w) (n:=n+6) rfl rfl hn k (many:=(m:Int)) (by omega));generalize txt ns 0 5=t at ht c1
 generalize txt ns 130 6=u at hu c2
 have c3:=ch 10 t (by omega);obtain⟨lo,to⟩:=Ba ns 10 t 5 ht;have fo:=zB ns 10 t;generalize chg ns 10 t=one at c3 lo to fo
 have c4:=λfr=>call2 (fr:=fr) (FO (F:=prog) (i:=17) (w:=w) (n:=n+7) rfl one t (by omega) (by omega) fo);have dl:=wR one t;have c5:=ch 50 (aF one t) (by omega);obtain⟨l2,t2⟩:=Ba ns 50 (aF one t) 23 (by omega);have f2:=zB ns 50 (aF one t);generalize chg ns 50 (aF one t)=other at c5 l2 t2 f2
 obtain⟨p,ep,hp⟩:=drawn (ns:=ns) 120 ((aF one t).length+1) (by omega);have c6:=dr 120 ((aF one t).length+1) (by omega);rw[ep]at c6;obtain⟨d,ed,hd⟩:=drawn (ns:=ns) 121 3 (by omega);have c7:=dr 121 3 (by omega);rw[ed]at c7;obtain⟨z,hz⟩:∃z:Nat,fP (.str [97,98,122]) (.int (d:Int))=some (.str [z]):=by
  match d,hd with
  |0,_=>exact⟨_,rfl⟩
  |1,_=>exact⟨_,rfl⟩
  |2,_=>exact⟨_,rfl⟩
 obtain⟨e,ee,he⟩:=drawn (ns:=ns) 122 3 (by omega);have c8:=dr 122 3 (by omega);rw[ee]at c8;have kp:=xx (F:=prog) (av:=0) (bC:=10) (aK:=9) (bh:=8) (aQ:=4) (aV:=3) (aR:=1) (bB:=2) (i:=6) (w:=w) (n:=n+5) rfl rfl rfl rfl rfl rfl rfl rfl rfl hw one other t fo f2 (by omega) (by omega) (by omega) (by omega);obtain⟨X,rX,TX⟩:=kp;obtain⟨Y,rY,AY⟩:=oB (F:=prog) (av:=0) (bC:=10) (aK:=9) (bh:=8) (aQ:=4) (aV:=3) (aR:=1) (bB:=2) (gq:=6) (cC:=5) (i:=7) (w:=w) (n:=n+4) rfl rfl rfl rfl rfl rfl rfl rfl rfl rfl hw rfl t [one,other] ⟨fo,f2,trivial⟩ (by simp[jP];omega) (λc hc=>by
  simp only[List.mem_cons,List.not_mem_nil,or_false]at hc;rcases hc with rfl|rfl<;>omega)
 obtain⟨Z,rZ,AZ⟩:=oB (F:=prog) (av:=0) (bC:=10) (aK:=9) (bh:=8) (aQ:=4) (aV:=3) (aR:=1) (bB:=2) (gq:=6) (cC:=5) (i:=7) (w:=w) (n:=n+4) rfl rfl rfl rfl rfl rfl rfl rfl rfl rfl hw rfl t [] trivial (by simp[jP];omega) (λc hc=>by cases hc);have eY:Y=X:=Oj AY.zD TX.zD AY.fit TX.fit (by
  rw[AY.xq,TX.xq];show(told 0 other).map (sub ((told 0 one).map (sub (told 0 [.keep t.length]))))=_;rw[SI fo])
 have eZ:Z=aC [.keep t.length]:=Oj AZ.zD (sq t).zD AZ.fit (sq t).fit (AZ.xq.trans (sq t).xq.symm);subst eY eZ;have rX:=λfr=>call2 (fr:=fr) rX;have rY:=λfr=>call2 (fr:=fr) rY;have rZ:=λfr=>call2 (fr:=fr) rZ;have rN:=λfr=>cg (fr:=fr) (pW (F:=prog) (aQ:=4) (aV:=3) (i:=5) (w:=w) (n:=n+5) rfl rfl rfl t.length (by omega));have lt:dS .len [.str t]=some (.int (t.length:Nat)):=len_str (by omega);have lm:dS .len [.str (aF one t)]=some (.int ((aF one t).length:Nat)):=len_str (by omega);have ad:Pv.bU .add (.int ((aF one t).length:Nat)) (.int 1)=some (.int (((aF one t).length+1:Nat):Int)):=by rw[fD];congr 2
 generalize aF one t=m at *
 have s1:gg (.str m) none (some (p:Int))=some (.str (m.take p)):=by rw[iR,uY]
 have s2:gg (.str m) (some ((p:Int)+1)) none=some (.str (m.drop (p+1))):=by rw[iR];exact congrArg (λx=>some (V.str x)) (A4 m (p+1))
 have a1:=iI (a:=m.take p) (b:=[z]) (by simp;omega);have a2:=iI (a:=m.take p++[z]) (b:=m.drop (p+1)) (by simp;omega);have a3:=iI (a:=m) (b:=[97]) (by simp;omega);obtain⟨o,ho,lo2⟩:∃o:List Nat,fP (.lst [.str (m.take p++[z]++m.drop (p+1)),.str (m++[97]),.str u]) (.int (e:Int))=some (.str o)/\o.length<=24:=by
  match e,he with
  |0,_=>exact⟨_,rfl,by simp;omega⟩
  |1,_=>exact⟨_,rfl,by simp;omega⟩
  |2,_=>exact⟨_,rfl,by omega⟩
 have c9:=ch 140 o (by omega);obtain⟨l3,t3⟩:=Ba ns 140 o 24 (by omega);generalize chg ns 140 o=odd at c9 l3 t3
 refine cO (fn:=DC) rfl rfl ?_;refine ai (aY (cB (aT rfl (az rfl) (aT rfl (bL rfl) (aT rfl (bL rfl) br))) (c1 _)) rfl rfl ?_);refine ai (aY (cB (aT rfl (az rfl) (aT rfl (bL rfl) (aT rfl (az rfl) br))) (c3 _)) rfl rfl ?_);refine ai (aY (cB (aT rfl (az rfl) (aT rfl (az rfl) br)) (c4 _)) rfl rfl ?_);refine ai (aY (cB (aT rfl (az rfl) (aT rfl (bL rfl) (aT rfl (az rfl) br))) (c5 _)) rfl rfl ?_);refine ai (aY (cB (aT rfl (az rfl) (aT rfl (bL rfl) (aT rfl (bR (gF (aJ (az rfl) aZ) lm) (bL rfl) ad) br))) (c6 _)) rfl rfl ?_);refine ai (aY (v:=.lst [.str (m.take p++[z]++m.drop (p+1)),.str (m++[97]),.str u]) (mJ (aJ (bR (bR (wD (az rfl) rG (nY (az rfl)) s1) (gZ (bL rfl) (cB (aT rfl (az rfl) (aT rfl (bL rfl) (aT rfl (bL rfl) br))) (c7 _)) hz) a1) (wD (az rfl) (nY (bR (az rfl) (bL rfl) fD)) rG s2) a2) (aJ (bR (az rfl) (bL rfl) a3) (aJ (cB (aT rfl (az rfl) (aT rfl (bL rfl) (aT rfl (bL rfl) br))) (c2 _)) aZ))) rfl) rfl rfl ?_);refine ai (aY (cB (aT rfl (az rfl) (aT rfl (bL rfl) (aT rfl (gZ (az rfl) (cB (aT rfl (az rfl) (aT rfl (bL rfl) (aT rfl (bL rfl) br))) (c8 _)) ho) br))) (c9 _)) rfl rfl ?_);refine ai (kT (vs:=[aB other,aB odd]) (gk (gD (aJ (az rfl) (aJ (az rfl) aZ)) jC) rfl) ?_);refine gQ (e:=aB) (λq l fr=>(∀c∈l,tot c<=400/\c.length<=900)/\∃x y z',vo x/\vo y/\vo z'/\fr=lF ns t m one other odd p [.str (m.take p++[z]++m.drop (p+1)),.str (m++[97]),.str u] x y z') (λq c l fr ⟨hc,x,y,z',hx,hy,hz',hfr⟩=>?_) (λq fr ⟨hc,x,y,z',hx,hy,hz',hfr⟩=>?_) [other,odd] [] _ ⟨λc hc=>by
   simp only[List.mem_cons,List.not_mem_nil,or_false]at hc;rcases hc with rfl|rfl<;>omega,none,none,none,.none,.none,.none,rfl⟩
 .subst hfr;obtain⟨h1,h2⟩:=hc c (by simp);exact turn hw hx hy hz' (by omega) h1 (by omega) h2 λx y z hx hy hz=>⟨λc h=>hc c (by simp[h]),x,y,z,hx,hy,hz,rfl⟩
 .subst hfr;refine ai (aY (v:=.lst [aB one,aB other]) (mJ (aJ (az rfl) (aJ (az rfl) aZ)) rfl) rfl rfl ?_);have sh:fH [some (.val (jq ns)),some (.val (.str t)),some (.val (aB one)),some (.val (.str m)),some (.val (aB other)),some (.val (.int p)),some (.val (.lst [.str (m.take p++[z]++m.drop (p+1)),.str (m++[97]),.str u])),some (.val (aB odd)),x,y,z',some (.val (.lst [aB one,aB other]))]=[some (.val (jq ns)),some (.val (.str t)),some (.val (aB one)),some (.val (.str m)),some (.val (aB other)),some (.val (.int p)),some (.val (.lst [.str (m.take p++[z]++m.drop (p+1)),.str (m++[97]),.str u])),some (.val (aB odd)),x,y,z',some (.val (.lst [aB one,aB other]))]:=by
   show [_,_,_,_,_,_,_,_,x.map Sl.dH,y.map Sl.dH,z'.map Sl.dH,_]=_;rw[cU hx,cU hy,cU hz'];rfl
  refine ai (bZ (v:=.bl true) (af:=[some (.val (jq ns)),some (.val (.str t)),some (.val (aB one)),some (.val (.str m)),some (.val (aB other)),some (.val (.int p)),some (.val (.lst [.str (m.take p++[z]++m.drop (p+1)),.str (m++[97]),.str u])),some (.val (aB odd)),x,y,z',some (.val (.lst [aB one,aB other]))]) ?_ ⟨rfl,rfl⟩);refine Eq.trans (congrArg (ev _ _ _) sh) ?_;exact Hi (cy (b:=true) (cB (aT rfl (gF (aJ (az rfl) aZ) lt) (aT rfl (az rfl) br)) (rY _)) (cB (aT rfl (az rfl) (aT rfl (az rfl) br)) (rX _)) (eC _)) (cy (b:=true) (cB (aT rfl (gF (aJ (az rfl) aZ) lt) (aT rfl (mJ aZ rq) br)) (rZ _)) (cB (aT rfl (gF (aJ (az rfl) aZ) lt) br) (rN _)) (eC _))
end
theorem good:∀ns:List Int,ns.length<=63->∃h',Ev.run prog 100000 60 20 [.ref 0] [.bP (ns.map Ev.D.int)]=.ok (.bl true) h':=λns h=>Jr (Pc (w:=100000) (n:=51) h (by decide))
end Lg
theorem Lw.good:∀ns:List Int,ns.length<=63->∃h',Ev.run Lw.prog 100000 60 20 [.ref 0] [.bP (ns.map Ev.D.int)]=.ok (.bl true) h':=Lg.good
namespace PySem.W.Fast
theorem tw3536594392331944512:True:=⟨⟩
theorem tw13976078556058677389:True:=⟨⟩
theorem tw10148465586456451182:True:=⟨⟩
theorem tw16120528950841693406:True:=⟨⟩
theorem tw10941624001042641819:True:=⟨⟩
theorem tw7786563162245712102:True:=⟨⟩
theorem tw8027050893046332034:True:=⟨⟩
theorem tw4718812289569569096:True:=⟨⟩
theorem tw5119073064050878102:True:=⟨⟩
theorem tw2993778544689136844:True:=⟨⟩
theorem tw9850622204207084918:True:=⟨⟩
theorem tw8940108221396407071:True:=⟨⟩
theorem tw10655316041560205474:True:=⟨⟩
theorem tw10130482449934770711:True:=⟨⟩
theorem tw1862195955584773464:True:=⟨⟩
theorem tw13488855036250792842:True:=⟨⟩
theorem tw3219300325296779574:True:=⟨⟩
theorem tw11956827462523002371:True:=⟨⟩
theorem tw5602234099136315266:True:=⟨⟩
theorem tw1423272635702453873:True:=⟨⟩
theorem tw15464971170652392858:True:=⟨⟩
theorem tw2770529118387406212:True:=⟨⟩
theorem tw18412827676802423876:True:=⟨⟩
theorem tw5526640245748201389:True:=⟨⟩
theorem tw7704632819932119045:True:=⟨⟩
theorem tw1732795084690731910:True:=⟨⟩
theorem tw7423874228731845214:True:=⟨⟩
theorem tw17440418502497618208:True:=⟨⟩
theorem tw3360327596556829443:True:=⟨⟩
theorem tw13716852090769435276:True:=⟨⟩
theorem tw3158637977909523807:True:=⟨⟩
theorem tw7723001585904267915:True:=⟨⟩
theorem tw8073451756317408463:True:=⟨⟩
theorem tw11753601612439903889:True:=⟨⟩
theorem tw4794634437152292867:True:=⟨⟩
theorem tw4644528942765597053:True:=⟨⟩
theorem tw10898857196542668770:True:=⟨⟩
theorem tw11460504754563817396:True:=⟨⟩
theorem tw17263001101901021095:True:=⟨⟩
theorem tw8810235416314203295:True:=⟨⟩
theorem tw610353310811262626:True:=⟨⟩
theorem tw12299793921558155700:True:=⟨⟩
theorem tw15481162751747658727:True:=⟨⟩
theorem tw10863264058596538588:True:=⟨⟩
theorem tw14618552933656485071:True:=⟨⟩
theorem tw13506232719832469474:True:=⟨⟩
theorem tw13134875219801397552:True:=⟨⟩
theorem tw12725455797227281872:True:=⟨⟩
theorem tw5838612167609599818:True:=⟨⟩
theorem tw5547101515185926404:True:=⟨⟩
theorem tw3217930665700509273:True:=⟨⟩
theorem tw4400658076048449960:True:=⟨⟩
theorem tw7999420552235081384:True:=⟨⟩
theorem tw11184251335955663061:True:=⟨⟩
theorem tw6796675603144549884:True:=⟨⟩
theorem tw13522877338716171983:True:=⟨⟩
theorem tw12930820297676279660:True:=⟨⟩
theorem tw16478547299507265167:True:=⟨⟩
theorem tw11260276940468985159:True:=⟨⟩
theorem tw719127990930042156:True:=⟨⟩
theorem tw11270746059306523900:True:=⟨⟩
theorem tw15785909998458914688:True:=⟨⟩
theorem tw270770345558161419:True:=⟨⟩
theorem tw958780694195418016:True:=⟨⟩
theorem tw7210628779374436611:True:=⟨⟩
theorem tw5530925919611745122:True:=⟨⟩
theorem tw6650061944651082753:True:=⟨⟩
theorem tw12031771553401094987:True:=⟨⟩
theorem tw14231679440914173212:True:=⟨⟩
theorem tw11799194977482466205:True:=⟨⟩
theorem tw4821178587664640924:True:=⟨⟩
theorem tw7480914318490808615:True:=⟨⟩
theorem tw7931741861366464000:True:=⟨⟩
theorem tw11325063761573535738:True:=⟨⟩
theorem tw17223773974329553307:True:=⟨⟩
theorem tw5831129151753117121:True:=⟨⟩
theorem tw8259136827187555065:True:=⟨⟩
theorem tw6963452175970688435:True:=⟨⟩
theorem tw13699902091952727342:True:=⟨⟩
theorem tw6977589548593663258:True:=⟨⟩
theorem tw13235011238712188023:True:=⟨⟩
theorem tw5941893670879078653:True:=⟨⟩
theorem tw12344433799179960793:True:=⟨⟩
theorem tw14991018982256280786:True:=⟨⟩
theorem tw13991105512775159719:True:=⟨⟩
theorem tw5174373559543478177:True:=⟨⟩
theorem tw2622429002356302459:True:=⟨⟩
theorem tw1856139849454933825:True:=⟨⟩
theorem tw12420797663227534996:True:=⟨⟩
theorem tw9074030215124629264:True:=⟨⟩
theorem tw10610173966268703059:True:=⟨⟩
theorem tw13829486610185827845:True:=⟨⟩
theorem tw18313640870102587880:True:=⟨⟩
theorem tw10501962666772239271:True:=⟨⟩
theorem tw3340248462438768042:True:=⟨⟩
theorem tw7496093515291554008:True:=⟨⟩
theorem tw17487305007355714899:True:=⟨⟩
theorem tw10723921386957784927:True:=⟨⟩
theorem tw17994088887604353312:True:=⟨⟩
theorem tw4540427473484048481:True:=⟨⟩
theorem tw17376432707215502485:True:=⟨⟩
theorem tw14084339811999345035:True:=⟨⟩
theorem tw12440622312308904343:True:=⟨⟩
theorem tw10619728797212946226:True:=⟨⟩
theorem tw17867113039859203533:True:=⟨⟩
theorem tw13062976974674383837:True:=⟨⟩
theorem tw6435814663181303587:True:=⟨⟩
theorem tw6733991653833158208:True:=⟨⟩
theorem tw1074223727829751831:True:=⟨⟩
theorem tw12150925426531327756:True:=⟨⟩
theorem tw3145461650758694358:True:=⟨⟩
theorem tw13095159373127850521:True:=⟨⟩
theorem tw9204034806597749093:True:=⟨⟩
theorem tw16581282417927017263:True:=⟨⟩
theorem tw8689402829922911895:True:=⟨⟩
theorem tw12790804079578052394:True:=⟨⟩
theorem tw14065934929631112307:True:=⟨⟩
theorem tw7897796788361902489:True:=⟨⟩
theorem tw1063216972657788190:True:=⟨⟩
theorem tw15740595530715856753:True:=⟨⟩
theorem tw15456685370956279169:True:=⟨⟩
theorem tw4981210810218585620:True:=⟨⟩
theorem tw3928322481080811619:True:=⟨⟩
theorem tw5562384497055570361:True:=⟨⟩
theorem tw3698934701836372956:True:=⟨⟩
theorem tw17216139364910015293:True:=⟨⟩
theorem tw17568444584874473346:True:=⟨⟩
theorem tw11104521392513384715:True:=⟨⟩
theorem tw4337708070997562231:True:=⟨⟩
theorem tw12573686900039986502:True:=⟨⟩
theorem tw7902057026108623397:True:=⟨⟩
theorem tw17926112148032154497:True:=⟨⟩
theorem tw17394792716975391698:True:=⟨⟩
theorem tw2964946057079550372:True:=⟨⟩
theorem tw4502821994550304665:True:=⟨⟩
theorem tw7752225150455232732:True:=⟨⟩
theorem tw13013405403378950320:True:=⟨⟩
theorem tw4237705895652716228:True:=⟨⟩
theorem tw131495482120186413:True:=⟨⟩
theorem tw11256625055638596831:True:=⟨⟩
theorem tw15914750172483325578:True:=⟨⟩
theorem tw6048704973319684009:True:=⟨⟩
theorem tw3567039476202729874:True:=⟨⟩
theorem tw5850270316313523809:True:=⟨⟩
theorem tw1552440074780330874:True:=⟨⟩
theorem tw1974965613054252237:True:=⟨⟩
theorem tw13740827421114114666:True:=⟨⟩
theorem tw6201086770063325250:True:=⟨⟩
theorem tw13561201608203761042:True:=⟨⟩
theorem tw5115047599445051733:True:=⟨⟩
theorem tw14974104941157949269:True:=⟨⟩
theorem tw5172058958718856853:True:=⟨⟩
theorem tw16649875453056936566:True:=⟨⟩
theorem tw4199291590954179462:True:=⟨⟩
theorem tw13859216727001918053:True:=⟨⟩
theorem tw9120385144552332955:True:=⟨⟩
theorem tw9077849369994845212:True:=⟨⟩
theorem tw11786643466883330870:True:=⟨⟩
theorem tw8203391743500110538:True:=⟨⟩
theorem tw6874171585069512794:True:=⟨⟩
theorem tw12843995846963571311:True:=⟨⟩
theorem tw12457823183043463137:True:=⟨⟩
theorem tw13655204232585619023:True:=⟨⟩
theorem tw5595056163177314090:True:=⟨⟩
theorem tw1603587245461869280:True:=⟨⟩
theorem tw4314045433875941472:True:=⟨⟩
theorem tw786193369608568153:True:=⟨⟩
theorem tw3285674722457378308:True:=⟨⟩
theorem tw8917367963258113111:True:=⟨⟩
theorem tw6473635578522236205:True:=⟨⟩
theorem tw2743818570739511019:True:=⟨⟩
theorem tw14843371174740207774:True:=⟨⟩
theorem tw2816064999486803779:True:=⟨⟩
theorem tw5375010038501688674:True:=⟨⟩
theorem tw4906774728909493849:True:=⟨⟩
theorem tw904559634579525404:True:=⟨⟩
theorem tw13076779259385339731:True:=⟨⟩
theorem tw4088986647596501877:True:=⟨⟩
theorem tw12302405956649049722:True:=⟨⟩
theorem tw4166047801099319680:True:=⟨⟩
theorem tw7982847573680436344:True:=⟨⟩
theorem tw13531389755586514435:True:=⟨⟩
theorem tw15656137704677844048:True:=⟨⟩
theorem tw3326579064180500991:True:=⟨⟩
theorem tw12988325169359361587:True:=⟨⟩
theorem tw2758794415689981547:True:=⟨⟩
theorem tw12557318715334660563:True:=⟨⟩
theorem tw14361146254515112041:True:=⟨⟩
theorem tw3281063758269930586:True:=⟨⟩
theorem tw4022274660214923810:True:=⟨⟩
theorem tw10365697637845694078:True:=⟨⟩
theorem tw17273486417658430044:True:=⟨⟩
theorem tw16646719537398995335:True:=⟨⟩
theorem tw4443769721878246914:True:=⟨⟩
theorem tw15313835787621583023:True:=⟨⟩
theorem tw6929455299941691450:True:=⟨⟩
theorem tw15392513379749036375:True:=⟨⟩
theorem tw7763347859987218868:True:=⟨⟩
theorem tw2580899517258847517:True:=⟨⟩
theorem tw11414445818093699509:True:=⟨⟩
theorem tw2633963893888687522:True:=⟨⟩
theorem tw8048902948579143462:True:=⟨⟩
theorem tw5055404313327297267:True:=⟨⟩
theorem tw4652984076362020143:True:=⟨⟩
theorem tw4504935302572321281:True:=⟨⟩
theorem tw16038965174197286412:True:=⟨⟩
theorem tw295798824171729793:True:=⟨⟩
theorem tw8417982452468609864:True:=⟨⟩
theorem tw15342621229903784549:True:=⟨⟩
theorem tw2811430790103511953:True:=⟨⟩
theorem tw4255300322154207756:True:=⟨⟩
end PySem.W.Fast
open PySem PySem.W PyProof.Rows
set_option maxRecDepth 100000 in
set_option maxHeartbeats 0 in
theorem PySem.Challenge.cw_pastways_k12_then_holds : PySem.Challenge.rw_pastways_k12_then.Holds := by
 w_on;o_law;k_head;(case hw=>w_witness2)
 k_fill
 refine Sm.IU (F:=Lw.prog) (wh:=100000) (n:=60) (f:=20) (x:="_law_script") (l:=PySem.Challenge.rw_pastways_k12_then) rfl rfl ⟨rfl,by decide,by decide⟩ (λw h Y=>PySem.W.kIn_of Y) Lw.good ?F
 case F=>
  intro w mg fa h KX G hmg
  refine' Lw.all_mk KX G hmg ⟨?a0,L2.cE ?l0 ?c0 ?k0⟩ ⟨?a1,L2.cE ?l1 ?c1 ?k1⟩ ⟨?a2,L2.cE ?l2 ?c2 ?k2⟩ ⟨?a3,L2.cE ?l3 ?c3 ?k3⟩ ⟨?a4,L2.cE ?l4 ?c4 ?k4⟩ ⟨?a5,L2.cE ?l5 ?c5 ?k5⟩ ⟨?a6,L2.cE ?l6 ?c6 ?k6⟩ ⟨?a7,L2.cE ?l7 ?c7 ?k7⟩ ⟨?a8,L2.cE ?l8 ?c8 ?k8⟩ ⟨?a9,L2.cE ?l9 ?c9 ?k9⟩ ⟨?XS,L2.cE ?XT ?XU ?XW⟩ ⟨?XX,L2.cE ?XY ?XZ ?X4⟩ ⟨?X5,L2.cE ?X6 ?c12 ?X7⟩ ⟨?X8,L2.cE ?Yb ?Yc ?Yd⟩ ⟨?Ye,L2.cE ?Yg ?Yh ?Yi⟩ ⟨?Yj,L2.cE ?Yk ?Yl ?Ym⟩ ⟨?Yn,L2.cE ?Yo ?Yp ?Yq⟩ ⟨?Yr,L2.cE ?Ys ?Yt ?Yu⟩ ⟨?Yv,L2.cE ?Yw ?Yx ?Yy⟩ ⟨?Yz,L2.cE ?YA ?YB ?YC⟩ ⟨?YD,L2.cE ?YE ?YF ?YG⟩ ⟨?ar,L2.cE ?lr ?cr ?kr⟩ ?xw (Sm.oU ?YH ?YI ?YJ ?YK ?YL ?YM) (Sm.oU ?YN ?YO ?YQ ?YR ?YS ?YT) (Sm.oU ?YU ?YV ?YW ?YX ?YY ?YZ) (Sm.oU ?Y0 ?Y3 ?Y4 ?Y5 ?Y6 ?Y7) ?z0 ?z1 ?z2 ?z3 ?z4 ?z5 ?z6 ?z7 ?z8 ?z9 ?Tf ?q0;all_goals try first|k_is|rfl|decide +kernel | (with_unfolding_all rfl)
  all_goals kernel_rfl

import PyProof.Rows.All
import Wide.All
import OpenK.AllK
import Wide.FinOn
import Lean
import PyProof.EqAt
import PyProof.EqKinds
import PyProof.TupleCall
import PyProof.DictUpdate
import PyProof.NeKinds
import PyProof.StrLawsIn
import KE.KRevSl
import PyProof.ZipIter
import PyProof.ListRange
import PyProof.Rows.SortStr
import KE.KRevIter
import KE.KDictSum
import PyProof.EnumMake
import PyProof.EnumFor
import PySem.Challenge.RW_pastways_k24_whole_other_texts
set_option Elab.async false
set_option linter.all false
set_option maxRecDepth 100000
namespace L2
open PySem PySem.Spec PyProof.Rows
abbrev Key:=Sum Int Str
noncomputable def oN:Key->Value->Bool
 |.inl k,v=>Value.isInt k v
 |.inr x,v=>Value.isStrOf x v
noncomputable def Vm(w:World):Key->Int
 |.inl k=>hashInt k
 |.inr x=>hashStr w x
theorem dM:∀{k:Key}{v:Value},oN k v=true->(∃i t,k=Sum.inl i/\v=Value.int i t)\/(∃x t,k=Sum.inr x/\v=Value.str x t)
 |.inl i,v,h=>by
  obtain⟨t,e⟩:=Value.isInt_shape (k:=i) (v:=v) h;exact .inl ⟨i,t,rfl,e⟩
 |.inr x,v,h=>by
  obtain⟨t,e⟩:=Value.isStrOf_shape (x:=x) (v:=v) h;exact .inr ⟨x,t,rfl,e⟩
theorem A4(i:Int)(t:Tok):oN (.inl i) (.int i t)=true:=by simp[oN,Value.isInt]
theorem A5(x:Str)(t:Tok):oN (.inr x) (.str x t)=true:=by simp[oN,Value.isStrOf]
theorem K4(a b:Int):decide ((Sum.inl a:Key)=Sum.inl b)=(a==b):=by
 by_cases e:a=b
 .subst e;simp
 .have h:¬ (Sum.inl a:Key)=Sum.inl b:=λq=>e (Sum.inl.inj q);rw[decide_eq_false h];exact(beq_eq_false_iff_ne.mpr e).symm
theorem K5(a b:Str):decide ((Sum.inr a:Key)=Sum.inr b)=decide (a=b):=by
 by_cases e:a=b
 .subst e;simp
 .have h:¬ (Sum.inr a:Key)=Sum.inr b:=λq=>e (Sum.inr.inj q);rw[decide_eq_false h,decide_eq_false e]
theorem K6(a:Int)(b:Str):decide ((Sum.inl a:Key)=Sum.inr b)=false:=decide_eq_false (λq=>nomatch q)
theorem K7(a:Str)(b:Int):decide ((Sum.inr a:Key)=Sum.inl b)=false:=decide_eq_false (λq=>nomatch q)
noncomputable def cG(prog:Program)(w:World):PySem.KeyKind prog w Key where
 is:=oN
 hash:=Vm w
 inj:=λv a b ha hb=>by
  rcases dM ha with ⟨i,t,rfl,rfl⟩|⟨x,t,rfl,rfl⟩
  .rcases dM hb with ⟨j,u,rfl,e⟩|⟨y,u,rfl,e⟩
   .injection e with e1 _;rw[e1]
   .exact nomatch e
  .rcases dM hb with ⟨j,u,rfl,e⟩|⟨y,u,rfl,e⟩
   .exact nomatch e
   .injection e with e1 _;rw[e1]
 byValue:=λk v h=>by
  rcases dM h with ⟨i,t,rfl,rfl⟩|⟨x,t,rfl,rfl⟩<;>rfl
 pyHash:=λhv h=>by
  rcases dM hv with ⟨i,t,rfl,rfl⟩|⟨x,t,rfl,rfl⟩
  .exact wpAny_pyHash_int h
  .exact wpAny_pyHash_str h
 eqBool:=λhu hv h=>by
  rcases dM hu with ⟨i,t,rfl,rfl⟩|⟨x,t,rfl,rfl⟩
  .rcases dM hv with ⟨j,u,rfl,rfl⟩|⟨y,u,rfl,rfl⟩
   .rw[K4]at h;exact wpAny_eqBool_int h
   .rw[K6]at h;exact SeqAt.EqAt.int_str i t y u _ _ _ _ h
  .rcases dM hv with ⟨j,u,rfl,rfl⟩|⟨y,u,rfl,rfl⟩
   .rw[K7]at h;exact SeqAt.EqAt.str_int x t j u _ _ _ _ h
   .rw[K5]at h;exact wpAny_eqBool_str h
 «strs»:=λk x t v h=>by
  rcases dM h with ⟨i,u,rfl,e⟩|⟨y,u,rfl,e⟩
  .exact nomatch e
  .injection e with e1 _
   subst e1;cases v<;>rfl
theorem xG(prog:Program)(w:World)(i:Int)(t:Tok):(cG prog w).is (.inl i) (.int i t)=true:=A4 i t
theorem xH(prog:Program)(w:World)(x:Str)(t:Tok):(cG prog w).is (.inr x) (.str x t)=true:=A5 x t
end L2
namespace L2
open PySem PySem.Spec PyProof.Rows
inductive V where
 |aS|bl (b:Bool)|int (i:Int)|str (x:Str)|A6 (b:Array UInt8)|A7 (b:UInt64)|ref (a:Addr)|ty (n:String)
 deriving DecidableEq
noncomputable def RelV:V->Value->Prop
 |.aS,u=>u=Value.none
 |.bl b,u=>u=Value.bool b
 |.int i,u=>∃t,u=Value.int i t
 |.str x,u=>∃t,u=Value.str x t
 |.A6 b,u=>∃t,u=Value.bytes b t
 |.A7 b,u=>∃t,u=Value.float b t
 |.ref a,u=>u=Value.ref a
 |.ty n,u=>u=Value.type n
abbrev Vals:List V->List Value->Prop:=Paired RelV
theorem Vals.length{xs:List V}{us:List Value}(r:Vals xs us):xs.length=us.length:=Paired.length r
theorem Vals.get:∀{xs:List V}{us:List Value}{i:Nat}{x:V},Vals xs us->xs[i]?=some x->∃u,us[i]?=some u/\RelV x u
 |_,_,_,_,.nil,e=>by simp at e
 |_,_,0,_,.cons r _,e=>by simp at e;subst e;exact⟨_,rfl,r⟩
 |_,_,i+1,x,.cons _ t,e=>by
  obtain⟨u,h1,h2⟩:=Vals.get (i:=i) (x:=x) t (by simpa using e);exact⟨u,by simpa using h1,h2⟩
theorem Vals.append:∀{xs ys:List V}{us ws:List Value},Vals xs us->Vals ys ws->Vals (xs++ys) (us++ws)
 |_,_,_,_,.nil,s=>s
 |_,_,_,_,.cons r t,s=>.cons r (Vals.append t s)
theorem Vals.take:∀{xs:List V}{us:List Value}(n:Nat),Vals xs us->Vals (xs.take n) (us.take n)
 |_,_,0,_=>.nil
 |_,_,_+1,.nil=>.nil
 |_,_,n+1,.cons r t=>.cons r (Vals.take n t)
theorem Vals.drop:∀{xs:List V}{us:List Value}(n:Nat),Vals xs us->Vals (xs.drop n) (us.drop n)
 |_,_,0,r=>r
 |_,_,_+1,.nil=>.nil
 |_,_,n+1,.cons _ t=>Vals.drop n t
noncomputable def jt:Option V->Option Value->Prop
 |some v,some u=>RelV v u
 |none,none=>True
 |_,_=>False
noncomputable def KV{κ:Type}:List (κ×V)->List (κ×Value)->Prop:=Paired λ(p:κ×V) (q:κ×Value)=>p.1=q.1/\RelV p.2 q.2
noncomputable def kV:Key->V
 |.inl i=>.int i
 |.inr x=>.str x
inductive HO where
 |lst (xs:List V)
 |tup (xs:List V)
 |dK (kvs:List (Key×V))|dT (kvs:List (List Key×V))
 |set (S:Int->Bool) (n:Nat)
 |ins (C dx:Addr) (fs:List (Str×V))
 |own (x:Addr)
 |xd (fs:List (Str×V))
 |met (f x:Addr)
 |fE (lo hi:Int)
 |bP (o:Obj) (u:HO)
 |uY (ps:Array Value)
 |ext (φ:Heap->Prop)
abbrev Hp:=Addr->Option HO
noncomputable def upd(H:Hp)(a:Addr)(o:HO):Hp:=λb=>if b=a then some o else H b
theorem fQ{H:Hp}{a:Addr}{o:HO}:upd H a o a=some o:=by unfold upd;rw[if_pos rfl]
theorem aV{H:Hp}{a b:Addr}{o:HO}(h:b≠a):upd H a o b=H b:=by unfold upd;rw[if_neg h]
theorem iH{H:Hp}{a b:Addr}{o u:HO}(h:H a=some o)(h':H b=some u)(d:o≠u):a≠b:=by
 intro e;subst e;rw[h]at h';exact d (Option.some.inj h')
theorem bG{H:Hp}{a b:Addr}{o:HO}(h:H a=some o)(h':H b=none):a≠b:=by
 intro e;subst e;rw[h]at h';cases h'
section
variable(P:Program)(w:World)
noncomputable def dF(H:Hp)(h:Heap)(a:Addr):HO->Prop
 |.lst xs=>xs.length<=sizeLine/\∃(its:List Value) (n:Nat),Vals xs its/\h.get? a=some { cls:=.type "list",data:=.seq its.toArray n }
 |.tup xs=>xs.length<=sizeLine/\∃its:List Value,Vals xs its/\IsTup h a its.toArray
 |.dK kvs=>kvs.length<=sizeLine/\(a==sysModules)=false/\∃vs,KV kvs vs/\h.DictOf (cG P w) a vs
 |.dT kvs=>kvs.length<=sizeLine/\(a==sysModules)=false/\∃xs:List (List Key×Addr×Value),
   Paired (λ(p:List Key×V) (q:List Key×Addr×Value)=>p.1=q.1/\H q.2.1=some (.tup (p.1.map kV))/\RelV p.2 q.2.2) kvs xs/\
   ∃o es ep,h.get? a=some o/\o.ExactDict/\o.data=.dict es ep/\es.toList=xs.map (entryOfKey (tupleKind (cG P w)))/\(xs.map (·.1)).Nodup
 |.set S n=>h.SetOf (intKind P w) a S n
 |.ins C dx fs=>H dx=some (.own a)/\fs.length<=1000/\dx≠a/\h.get? a=some (PySem.W.instObj C dx)/\
   ∃mA,h.Ns1 dx mA/\(∀f,jt (fs.lookup f) (mA f))/\PySem.Within mA (fs.map (·.1))
 |.own _=>∃o,h.get? a=some o
 |.xd fs=>∃mA,h.Ns1 a mA/\∀f,jt (fs.lookup f) (mA f)
 |.fE lo hi=>∃t u v,h.get? a=some { cls:=.type "range",data:=.fields #[.int lo t,.int hi u,.int 1 v]}
 |.bP o u=>h.get? a=some o/\dF H h a u
 |.uY ps=>h.get? a=some { cls:=.none,data:=.fields ps }
 |.met f x=>h.get? a=some (PySem.W.methodObj (.ref f) (.ref x))
 |.ext φ=>φ h/\(∃o,h.get? a=some o)/\∀h1 h2:Heap,φ h1->(∀o,h1.get? a=some o->h2.get? a=some o)->φ h2
noncomputable def eV(H:Hp)(h:Heap):Prop:=∀a o,H a=some o->dF P w H h a o
end
section
variable{P:Program}{w:World}{H H':Hp}{h h':Heap}{a:Addr}{o:HO}
theorem dF.lt(x:dF P w H h a o):a<h.objs.size:=by
 cases o with
 |lst xs=>obtain⟨_,_,_,_,e⟩:=x;exact Heap.lt_size e
 |tup xs=>obtain⟨_,_,_,p⟩:=x;exact p.lt
 |dK kvs=>obtain⟨_,_,_,_,o,_,_,e,_⟩:=x;exact Heap.lt_size e
 |dT kvs=>obtain⟨_,_,_,_,o,_,_,e,_⟩:=x;exact Heap.lt_size e
 |set S n=>obtain⟨o,_,_,_,e,_⟩:=x;exact Heap.lt_size e
 |ins C dx fs=>obtain⟨_,_,_,e,_⟩:=x;exact Heap.lt_size e
 |own y=>obtain⟨_,e⟩:=x;exact Heap.lt_size e
 |xd fs=>obtain⟨_,⟨_,_,_,e,_⟩,_⟩:=x;exact Heap.lt_size e
 |fE lo hi=>obtain⟨_,_,_,e⟩:=x;exact Heap.lt_size e
 |bP ob u=>obtain⟨e,_⟩:=x;exact Heap.lt_size e
 |uY ps=>exact Heap.lt_size (show h.get? a=some _ from x)
 |met f y=>exact Heap.lt_size (show h.get? a=some _ from x)
 |ext φ=>obtain⟨_,⟨_,e⟩,_⟩:=x;exact Heap.lt_size e
theorem Paired.Du{α β:Type}{F G:α->β->Prop}:∀{l₁:List α}{l₂:List β},Paired F l₁ l₂->(∀a b,F a b->G a b)->Paired G l₁ l₂
 |_,_,.nil,_=>.nil
 |_,_,.cons r t,f=>.cons (f _ _ r) (Paired.Du t f)
theorem dF.stay(x:dF P w H h a o)(k:∀b u,(b=a\/H b=some (.own a))->h.get? b=some u->h'.get? b=some u)
  (ho:∀b,H b=some (.own a)->H' b=some (.own a)) (ht:∀b xs,H b=some (.tup xs)->H' b=some (.tup xs)):dF P w H' h' a o:=by
 induction o with
 |lst xs=>obtain⟨z,its,n,r,e⟩:=x;exact⟨z,its,n,r,k _ _ (.inl rfl) e⟩
 |tup xs=>obtain⟨z,its,r,ob,e,c⟩:=x;exact⟨z,its,r,ob,k _ _ (.inl rfl) e,c⟩
 |dK kvs=>obtain⟨z,y,vs,r,ob,es,ep,e,c⟩:=x;exact⟨z,y,vs,r,ob,es,ep,k _ _ (.inl rfl) e,c⟩
 |dT kvs=>
  obtain⟨z,y,xs,r,ob,es,ep,e,c⟩:=x;exact⟨z,y,xs,Paired.Du r λp q z=>⟨z.1,ht _ _ z.2.1,z.2.2⟩,ob,es,ep,k _ _ (.inl rfl) e,c⟩
 |set S n=>obtain⟨ob,es,ep,t,e,c⟩:=x;exact⟨ob,es,ep,t,k _ _ (.inl rfl) e,c⟩
 |ins C dx fs=>
  obtain⟨d,z,ne,e,mA,⟨od,es,ep,e2,c⟩,r⟩:=x;exact⟨ho _ d,z,ne,k _ _ (.inl rfl) e,mA,⟨od,es,ep,k _ _ (.inr d) e2,c⟩,r⟩
 |own y=>obtain⟨ob,e⟩:=x;exact⟨ob,k _ _ (.inl rfl) e⟩
 |xd fs=>obtain⟨mA,⟨od,es,ep,e,c⟩,r⟩:=x;exact⟨mA,⟨od,es,ep,k _ _ (.inl rfl) e,c⟩,r⟩
 |fE lo hi=>obtain⟨t,u,v,e⟩:=x;exact⟨t,u,v,k _ _ (.inl rfl) e⟩
 |bP ob u ih=>obtain⟨e,q⟩:=x;exact⟨k _ _ (.inl rfl) e,ih q⟩
 |uY ps=>
  have e:h.get? a=some { cls:=.none,data:=.fields ps }:=x;show h'.get? a=some { cls:=.none,data:=.fields ps };exact k a _ (.inl rfl) e
 |met f y=>
  have e:h.get? a=some (PySem.W.methodObj (.ref f) (.ref y)):=x;show h'.get? a=some (PySem.W.methodObj (.ref f) (.ref y));exact k a _ (.inl rfl) e
 |ext φ=>obtain⟨p,⟨o,e⟩,st⟩:=x;exact⟨st _ _ p λo q=>k _ _ (.inl rfl) q,⟨o,k _ _ (.inl rfl) e⟩,st⟩
theorem eV.lt(x:eV P w H h)(e:H a=some o):a<h.objs.size:=(x a o e).lt
theorem eV.fresh(x:eV P w H h)(e:h.objs.size<=a):H a=none:=by
 cases q:H a with
 |none=>rfl
 |some u=>exact absurd (Nat.lt_of_lt_of_le (x.lt q) e) (Nat.lt_irrefl _)
theorem eV.kept(x:eV P w H h)(k:∀b u,h.get? b=some u->h'.get? b=some u):eV P w H h':=λa o e=>
 (x a o e).stay (λb u _ q=>k b u q) (λ_ q=>q) λ_ _ q=>q
theorem eV.laid(x:eV P w H h)(k:∀b u,h.get? b=some u->h'.get? b=some u)(hp:h.objs.size<=a)(new:dF P w (upd H a o) h' a o):eV P w (upd H a o) h':=λb u e=>by
 have hn:=x.fresh hp;by_cases hb:b=a
 .subst hb;rw[fQ]at e;cases e;exact new
 .rw[aV hb]at e;exact(x b u e).stay (λc v _ q=>k c v q) (λc q=>by rw[aV (bG q hn)];exact q) λc xs q=>by rw[aV (bG q hn)];exact q
end
noncomputable def Rd(H:Hp)(a:Addr)(u:HO):Prop:=H a=some u\/∃o,H a=some (.bP o u)
theorem Rd.ok{P:Program}{w:World}{H:Hp}{h:Heap}{a:Addr}{u:HO}(r:Rd H a u)(x:eV P w H h):dF P w H h a u:=by
 rcases r with r|⟨o,r⟩
 .exact x a u r
 .obtain⟨_,q⟩:=x a _ r;exact q
noncomputable def A8:Option HO->Prop
 |some (.lst _)=>True
 |some (.dK _)=>True
 |some (.dT _)=>True
 |some (.set _ _)=>True
 |some (.ins _ _ _)=>True
 |some (.ext _)=>True
 |_=>False
section
variable{P:Program}{w:World}{H:Hp}{h h':Heap}{x e:Addr}{o':HO}
theorem eV.write(ok:eV P w H h)(mu:A8 (H x))(he:e=x\/H e=some (.own x))(k:∀b u,b≠e->h.get? b=some u->h'.get? b=some u)(x8:∃u,h'.get? e=some u)
  (new:dF P w (upd H x o') h' x o'):eV P w (upd H x o') h':=λb u q=>by
 have K8:∀c y,H c=some (.own y)->c≠x:=λc y r z=>by subst z;rw[r]at mu;exact mu
 have Vn:∀c xs,H c=some (.tup xs)->c≠x:=λc xs r z=>by subst z;rw[r]at mu;exact mu
 by_cases hb:b=x
 .subst hb;rw[fQ]at q;cases q;exact new
 .rw[aV hb]at q;by_cases uZ:b=e
  .have q':H b=some (.own x):=by
    rcases he with z|z
    .exact absurd (uZ.trans z) hb
    .rw[uZ];exact z
   rw[q]at q';cases q';obtain⟨v,hv⟩:=x8;exact⟨v,by rw[uZ];exact hv⟩
  .refine(ok b u q).stay (λc v hc r=>k c v ?_ r) (λc r=>by rw[aV (K8 c b r)];exact r) λc xs r=>by rw[aV (Vn c xs r)];exact r
   rcases hc with rfl|hc
   .exact uZ
   .rintro rfl;rcases he with z|z
    .exact K8 c b hc z
    .rw[hc]at z;cases z;exact hb rfl
end
structure Un(fs ex:List Addr)(H H':Hp)(h h':Heap):Prop where
 keep:∀b o,h.get? b=some o->H b=none->b∉fs->b∉ex->h'.get? b=some o
 slot:∀b o,h.get? b=some o->H b=none->b∈fs->b∉ex->∃sl,h'.get? b=some { o with slots:=sl }
 free:∀b o,h.get? b=some o->H b=none->b∉ex->H' b=none
 there:∀b o,h.get? b=some o->b∉ex->∃o',h'.get? b=some o'
 tups:∀b xs,H b=some (.tup xs)->H' b=some (.tup xs)
 mj:∀b o u,H b=some (.bP o u)->H' b=some (.bP o u)
 nh:∀b ps,H b=some (.uY ps)->∃more,H' b=some (.uY (ps++more))
section
variable{fs fs' ex ex':List Addr}{H H1 H2:Hp}{h h1 h2 h':Heap}{a x e:Addr}{o:HO}
theorem Un.any(u:Un fs ex H H1 h h1){b:Addr}{ob:Obj}(q:h.get? b=some ob)(n:H b=none)(hx:b∉ex):∃sl,h1.get? b=some { ob with slots:=sl }:=by
 by_cases hb:b∈fs
 .exact u.slot b ob q n hb hx
 .exact⟨ob.slots,u.keep b ob q n hb hx⟩
theorem Un.kept(k:∀b u,h.get? b=some u->h'.get? b=some u):Un fs ex H H h h':=
 ⟨λb ob q _ _ _=>k b ob q,λb ob q _ _ _=>⟨ob.slots,k b ob q⟩,λ_ _ _ n _=>n,λb ob q _=>⟨ob,k b ob q⟩,λ_ _ q=>q,λ_ _ _ q=>q,λ_ ps q=>⟨#[],by rw[q];simp⟩⟩
theorem Un.refl:Un fs ex H H h h:=Un.kept λ_ _ q=>q
theorem Un.laid(k:∀b u,h.get? b=some u->h'.get? b=some u)(hp:h.objs.size<=a)(hn:H a=none):Un fs ex H (upd H a o) h h' where
 keep:=λb u q _ _ _=>k b u q
 slot:=λb u q _ _ _=>⟨u.slots,k b u q⟩
 free:=λb u q n _=>by rw[aV (Nat.ne_of_lt (Nat.lt_of_lt_of_le (Heap.lt_size q) hp))];exact n
 there:=λb u q _=>⟨u,k b u q⟩
 tups:=λb xs q=>by rw[aV (bG q hn)];exact q
 mj:=λb u xs q=>by rw[aV (bG q hn)];exact q
 nh:=λb ps q=>⟨#[],by rw[aV (bG q hn),q];simp⟩
theorem Un.write(mu:A8 (H x))(he:e=x\/H e=some (.own x))(k:∀b u,b≠e->h.get? b=some u->h'.get? b=some u)(x8:∃u,h'.get? e=some u):Un fs ex H (upd H x o) h h':=by
 have hx:∀b,H b=none->b≠x:=λb n z=>by subst z;rw[n]at mu;exact mu
 have hb:∀b,H b=none->b≠e:=λb n z=>by
  subst z;rcases he with r|r
  .exact hx b n r
  .rw[n]at r;cases r
 have hm:∀b u,H b=some u->¬ A8 (some u)->b≠x:=λb u q nm z=>by subst z;rw[q]at mu;exact nm mu
 refine⟨λb u q n _ _=>k b u (hb b n) q,λb u q n _ _=>⟨u.slots,k b u (hb b n) q⟩,λb u q n _=>by rw[aV (hx b n)];exact n,λb u q _=>?_,
  λb xs q=>by rw[aV (hm b _ q λz=>z)];exact q,λb u xs q=>by rw[aV (hm b _ q λz=>z)];exact q,λb ps q=>⟨#[],by rw[aV (hm b _ q λz=>z),q];simp⟩⟩
 by_cases uZ:b=e
 .subst uZ;exact x8
 .exact⟨u,k b u uZ q⟩
end
noncomputable def Gz(h:Heap)(H:Hp):List Addr:=(List.range h.objs.size).filter λa=>(H a).isSome
noncomputable def mq(h:Heap)(H:Hp):Heap:=PySem.W.hideAll h (Gz h H)
theorem A9(h:Heap)(H:Hp):(mq h H).objs.size=h.objs.size:=PySem.W.hideAll_size _ _
theorem Dv{h:Heap}{H:Hp}{b:Addr}{o:Obj}(e:h.get? b=some o)(n:H b=none):(mq h H).get? b=some o:=
 PySem.W.hideAll_get _ e λhm=>by
  have q:(H b).isSome=true:=(List.mem_filter.mp hm).2;rw[n]at q;simp at q
theorem Ii{h:Heap}{H:Hp}{b:Addr}{o:Obj}(e:(mq h H).get? b=some o):h.get? b=some o/\H b=none:=by
 have e':h.get? b=some o:=PySem.W.of_hideAll (Gz h H) e;refine⟨e',?_⟩;cases q:H b with
 |none=>rfl
 |some x=>
  have hm:b∈Gz h H:=List.mem_filter.mpr ⟨List.mem_range.mpr (Heap.lt_size e'),by simp[q]⟩;have z:(mq h H).get? b=none:=PySem.W.hideAll_none (Gz h H) hm;rw[z]at e;cases e
noncomputable def Ij(g h:Heap)(L:Addr):List (Addr×Obj):=(List.range h.objs.size).filterMap λa=>if a=L\/(g.get? a).isSome=true then none else (h.get? a).map λo=>(a,o)
noncomputable def rest(g h:Heap)(L d:Addr):List (Addr×Obj):=(Ij g h L).filter λp=>decide (p.1≠d)
end L2
namespace L2
open PySem PySem.Spec PyProof.Rows
structure Mod(K:PySem.W.Frag)(mg:Str->Option Value)(base:Heap):Prop where
 GA:K.In base
 glob:base.Ns mainGlobals mg
 blt:∃mb,base.Ns builtinsNs mb/\∀x:Str,x≠"__name__" ->mb x=bootBuiltins x
 nolimit:base.NoLimit
structure Cx where
 prog:Program
 w:World
 K:PySem.W.Frag
 mg:Str->Option Value
 base:Heap
 A:Around
 N:List Str
 s₀:Shared
 H₀:Hp
 env:Env
 outer:List Env
 stack:List Env
 ex:List Addr
 fn:Str->Bool
 calm:Bool
 pn:List (Addr×Obj)
 xe:Value->Shared->Prop
noncomputable def frs(l:List Env):List Addr:=l.filterMap (·.frame)
noncomputable abbrev Cx.fs(X:Cx):List Addr:=frs X.outer
noncomputable def Ba(sc:Scope)(x:Str):Prop:=sc.names.lookup x=some .local\/sc.names.lookup x=some .cell\/sc.names.lookup x=some .free
noncomputable def Loc(sc:Scope)(x:Str):Prop:=sc.names.lookup x=some .local\/sc.names.lookup x=some .cell
noncomputable def Look(env:Env)(h:Heap)(m:Str->Option Value)(x:Str)(u:Value):Prop:=
 (env.kindOf x=some .local/\m x=some u)\/((env.kindOf x=some .cell\/env.kindOf x=some .free)/\∃c,env.cells.lookup x=some c/\h.IsCell c (some u))
structure Cx.Ok(X:Cx):Prop where
 mod:Mod X.K X.mg X.base
 kind:X.env.scope.kind=.function
 glob:X.env.globals=mainGlobals
 blt:X.env.builtins=builtinsNs
 above:X.s₀.heap.objs.size<=X.env.locals
 inj:∀x y c,X.env.cells.lookup x=some c->X.env.cells.lookup y=some c->x=y
 has:∀x,(X.env.kindOf x=some .cell\/X.env.kindOf x=some .free)->∃c,X.env.cells.lookup x=some c
 x9:∀x c,X.fn x=true->X.env.cells.lookup x=some c->X.s₀.heap.objs.size<=c
 hd:X.calm=true->X.A.handled=none
 frames:X.A.frames=some X.stack
 stk:X.stack=X.outer\/(X.stack=X.env :: X.outer/\X.env.frame=some X.env.locals)
 GB:∀b∈X.ex,b≠X.env.locals/\∀x c,X.env.cells.lookup x=some c->c≠b
 bs:∀b o,X.base.get? b=some o->X.s₀.heap.get? b=some o/\X.H₀ b=none
 sY:X.base.objs.size<=X.s₀.heap.objs.size
 rM:∀b o,X.base.get? b=some o->b∉X.ex
 rN:∀b∈X.ex,b∉X.fs
 ju:X.s₀.heap.FunFrames X.base X.outer
 u0:∀b∈X.fs,X.H₀ b=none
structure Inv(X:Cx)(pins:List (Addr×Obj))(σ:List (Option V))(H:Hp)(s:Shared):Prop where
 ok:X.Ok
 os:s.os=X.s₀.os
 bare:AllBare s.gens
 base:Un X.fs X.ex X.H₀ H X.s₀.heap s.heap
 loc:∃m,s.heap.Ns X.env.locals m/\∀(i:Nat) (x:Str) (v:V),X.N[i]?=some x->σ[i]?=some (some v)->Ba X.env.scope x->∃u,RelV v u/\Look X.env s.heap m x u
 cell:∀x c,X.env.cells.lookup x=some c->∃v,s.heap.IsCell c v
 free:H X.env.locals=none
 jf:∀x c,X.env.cells.lookup x=some c->H c=none
 pin:∀p∈X.pn++pins,s.heap.get? p.1=some p.2/\H p.1=none/\p.1≠X.env.locals/\p.1∉X.fs/\∀v,p.2.data≠.cell v
 hok:eV X.prog X.w H s.heap
 len:σ.length=X.N.length
section
variable{X:Cx}{pins:List (Addr×Obj)}{σ:List (Option V)}{H H':Hp}{s:Shared}{h':Heap}
theorem Cx.Ok.Vo(ok:X.Ok){b:Addr}{o:Obj}(e:X.base.get? b=some o):b∉X.fs:=λhb=>by
 have:=(ok.ju.mem hb).1;rw[e]at this;cases this
theorem Inv.bs(I:Inv X pins σ H s):∀b o,X.base.get? b=some o->s.heap.get? b=some o/\H b=none:=λb o e=>
 ⟨I.base.keep b o (I.ok.bs b o e).1 (I.ok.bs b o e).2 (I.ok.Vo e) (I.ok.rM b o e),I.base.free b o (I.ok.bs b o e).1 (I.ok.bs b o e).2 (I.ok.rM b o e)⟩
theorem Inv.bk(I:Inv X pins σ H s):∀b o,X.base.get? b=some o->s.heap.get? b=some o:=λb o e=>(I.bs b o e).1
theorem Inv.mod(I:Inv X pins σ H s):Mod X.K X.mg X.base:=I.ok.mod
theorem Inv.u5(I:Inv X pins σ H s):X.K.In s.heap:=I.ok.mod.GA.keeps I.bk
theorem Inv.lt(I:Inv X pins σ H s):X.env.locals<s.heap.objs.size:=let ⟨_,hn,_⟩:=I.loc;hn.lt
theorem Inv.sz(I:Inv X pins σ H s):X.s₀.heap.objs.size<=s.heap.objs.size:=Nat.le_trans I.ok.above (Nat.le_of_lt I.lt)
theorem Inv.Vp(I:Inv X pins σ H s){a:Addr}(h:s.heap.objs.size<=a):a∉X.fs:=λhb=>by
 obtain⟨_,o,ho,_⟩:=I.ok.ju.mem hb;exact absurd (Nat.lt_of_lt_of_le (Heap.lt_size ho) (Nat.le_trans I.sz h)) (Nat.lt_irrefl _)
theorem Inv.u6(I:Inv X pins σ H s):∀x c,X.env.cells.lookup x=some c->c≠X.env.locals:=λx c e z=>by
 obtain⟨v,o,ho,hd⟩:=I.cell x c e;obtain⟨m,⟨o',es,ep,ho',hd',_⟩,_⟩:=I.loc;rw[z,ho']at ho;cases ho;rw[hd']at hd;cases hd
theorem Inv.ju(I:Inv X pins σ H s):s.heap.FunFrames X.base X.outer:=by
 have all:∀(l:List Env),(∀b∈frs l,b∈X.fs)->X.s₀.heap.FunFrames X.base l->s.heap.FunFrames X.base l:=by
  intro l;induction l with
  |nil=>intro _ _;trivial
  |cons env r ih=>
   intro hs hl;obtain⟨hk,⟨L,o,hf,hn,ho,hd⟩,hr⟩:=hl;have hL:L∈X.fs:=hs L (by unfold frs;rw[List.filterMap_cons,hf];exact List.mem_cons_self);obtain⟨sl,e⟩:=I.base.slot L o ho (I.ok.u0 L hL) hL λz=>I.ok.rN L z hL;exact⟨hk,⟨L,_,hf,hn,e,hd⟩,ih (λb hb=>hs b (by unfold frs;rw[List.filterMap_cons,hf];exact List.mem_cons_of_mem _ hb)) hr⟩
 exact all X.outer (λ_ hb=>hb) I.ok.ju
theorem Inv.stack(I:Inv X pins σ H s):s.heap.FunFrames X.base X.stack:=by
 rcases I.ok.stk with e|⟨e,hf⟩
 .rw[e];exact I.ju
 .rw[e];obtain⟨m,hn,_⟩:=I.loc;refine .cons (by rw[I.ok.kind];decide) hf hn ?_ I.ju;exact Heap.get?_none_of_le (Nat.le_trans I.ok.sY I.ok.above)
theorem Inv.u7(I:Inv X pins σ H s):∀b∈frs X.stack,b∈X.env.locals :: X.fs:=λb hb=>by
 rcases I.ok.stk with e|⟨e,hf⟩
 .rw[e]at hb;exact List.mem_cons_of_mem _ hb
 .rw[e]at hb;unfold frs at hb;rw[List.filterMap_cons,hf]at hb;exact hb
theorem Inv.yc(I:Inv X pins σ H s):∀b∈frs X.stack,H b=none:=λb hb=>by
 rcases List.mem_cons.mp (I.u7 b hb)with e|hb
 .rw[e];exact I.free
 .obtain⟨_,o,ho,_⟩:=I.ok.ju.mem hb;exact I.base.free b o ho (I.ok.u0 b hb) λz=>I.ok.rN b z hb
theorem Inv.step{g':Array GenState}{t':Nat}{d':Drawn}{ch:List Addr}(I:Inv X pins σ H s)
  (hch:∀b∈ch,(b∈X.ex\/X.s₀.heap.objs.size<=b)/\b≠X.env.locals/\(∀x c,X.env.cells.lookup x=some c->c≠b)/\∀p∈X.pn++pins,p.1≠b)
  (keep:∀b o,b≠X.env.locals->b∉X.fs->b∉ch->s.heap.get? b=some o->H b=none->h'.get? b=some o)
  (slot:∀b o,b≠X.env.locals->b∈X.fs->b∉ch->s.heap.get? b=some o->H b=none->∃sl,h'.get? b=some { o with slots:=sl }) (free:∀b o,b∉ch->s.heap.get? b=some o->H b=none->H' b=none)
  (there:∀b o,b∉ch->s.heap.get? b=some o->∃o',h'.get? b=some o')
  (tups:∀b xs,H b=some (.tup xs)->H' b=some (.tup xs)) (mj:∀b o u,H b=some (.bP o u)->H' b=some (.bP o u)) (nh:∀b ps,H b=some (.uY ps)->∃more,H' b=some (.uY (ps++more)))
  (ns:∀m,s.heap.Ns X.env.locals m->h'.Ns X.env.locals m) (hok:eV X.prog X.w H' h') (hg:AllBare g') :
  Inv X pins σ H' { s with heap:=h',gens:=g',drawn:=d',toks:=t' }:=by
 have SS:∀b o,X.s₀.heap.get? b=some o->b≠X.env.locals:=λb o e=>Nat.ne_of_lt (Nat.lt_of_lt_of_le (Heap.lt_size e) I.ok.above);have GC:∀b o,X.s₀.heap.get? b=some o->b∉X.ex->b∉ch:=λb o e hx hb=>by
  rcases(hch b hb).1 with z|z
  .exact hx z
  .exact absurd (Nat.lt_of_lt_of_le (Heap.lt_size e) z) (Nat.lt_irrefl _)
 have cellK:∀x c,X.env.cells.lookup x=some c->∀v,s.heap.IsCell c v->h'.IsCell c v:=λx c e v ⟨o,ho,hd⟩=>by
  have Bb:c∉ch:=λz=>(hch c z).2.2.1 x c e rfl;by_cases hc:c∈X.fs
  .obtain⟨sl,q⟩:=slot c o (I.u6 x c e) hc Bb ho (I.jf x c e);exact⟨_,q,hd⟩
  .exact⟨o,keep c o (I.u6 x c e) hc Bb ho (I.jf x c e),hd⟩
 refine⟨I.ok,I.os,hg,⟨λb o e n hb hx=>?_,λb o e n hb hx=>?_,λb o e n hx=>?_,λb o e hx=>?_,λb xs e=>tups b xs (I.base.tups b xs e),λb o xs e=>mj b o xs (I.base.mj b o xs e),λb ps e=>?_⟩,?_,λx c e=>?_,?_,λx c e=>?_,λp hp=>?_,hok,I.len⟩
 .exact keep b o (SS b o e) hb (GC b o e hx) (I.base.keep b o e n hb hx) (I.base.free b o e n hx)
 .obtain⟨sl,e1⟩:=I.base.slot b o e n hb hx;obtain⟨Xf,e2⟩:=slot b _ (SS b o e) hb (GC b o e hx) e1 (I.base.free b o e n hx);exact⟨Xf,e2⟩
 .obtain⟨o',e1⟩:=I.base.there b o e hx;exact free b o' (GC b o e hx) e1 (I.base.free b o e n hx)
 .obtain⟨o',e1⟩:=I.base.there b o e hx;exact there b o' (GC b o e hx) e1
 .obtain⟨m1,e1⟩:=I.base.nh b ps e;obtain⟨m2,e2⟩:=nh b _ e1;exact⟨m1++m2,by rw[e2,Array.append_assoc]⟩
 .obtain⟨m,hn,hl⟩:=I.loc;refine⟨m,ns m hn,λi x v e1 e2 e3=>?_⟩;obtain⟨u,r,l⟩:=hl i x v e1 e2 e3;refine⟨u,r,?_⟩;rcases l with l|⟨k,c,e,z⟩
  .exact .inl l
  .exact .inr ⟨k,c,e,cellK x c e _ z⟩
 .obtain⟨v,z⟩:=I.cell x c e;exact⟨v,cellK x c e v z⟩
 .obtain⟨m,⟨o,_,_,ho,_⟩,_⟩:=I.loc;exact free _ o (λz=>(hch _ z).2.1 rfl) ho I.free
 .obtain⟨v,o,ho,hd⟩:=I.cell x c e;exact free c o (λz=>(hch c z).2.2.1 x c e rfl) ho (I.jf x c e)
 .obtain⟨e,n,ne,nf,d⟩:=I.pin p hp;have Bb:p.1∉ch:=λz=>(hch p.1 z).2.2.2 p hp rfl;exact⟨keep p.1 p.2 ne nf Bb e n,free p.1 p.2 Bb e n,ne,nf,d⟩
theorem Inv.un{t':Nat}(I:Inv X pins σ H s)(u:Un X.fs [] H H' s.heap h')(hok:eV X.prog X.w H' h'):Inv X pins σ H' { s with heap:=h',toks:=t' }:=by
 obtain⟨m,⟨o,es,ep,ho,r⟩,_⟩:=id I.loc;obtain⟨sl,hL⟩:=u.any ho I.free (by simp);exact I.step (g':=s.gens) (d':=s.drawn) (ch:=[]) (λ_ z=>nomatch z) (λb o _ hb _ e n=>u.keep b o e n hb (by simp)) (λb o _ hb _ e n=>u.slot b o e n hb (by simp)) (λb o _ e n=>u.free b o e n (by simp)) (λb o _ e=>u.there b o e (by simp)) u.tups u.mj u.nh (λm' hm=>by
  obtain⟨o',es',K9,ho',r'⟩:=hm;rw[ho]at ho';cases ho';exact⟨_,es',K9,hL,r'⟩) hok I.bare
theorem Inv.call{g':Array GenState}{t':Nat}{d':Drawn}{ch:List Addr}(I:Inv X pins σ H s)(u:Un (frs X.stack) ch H H' s.heap h')(hok:eV X.prog X.w H' h')(hg:AllBare g')
  (hch:∀b∈ch,(b∈X.ex\/X.s₀.heap.objs.size<=b)/\b≠X.env.locals/\(∀x c,X.env.cells.lookup x=some c->c≠b)/\∀p∈X.pn++pins,p.1≠b) :
  Inv X pins σ H' { s with heap:=h',gens:=g',drawn:=d',toks:=t' }:=by
 obtain⟨m,⟨o,es,ep,ho,r⟩,_⟩:=id I.loc;obtain⟨sl,hL⟩:=u.any ho I.free λz=>(hch _ z).2.1 rfl;exact I.step (ch:=ch) hch (λb o hL hb hc e n=>u.keep b o e n (λz=>(List.mem_cons.mp (I.u7 b z)).elim hL hb) hc) (λb o _ _ hc e n=>u.any e n hc) (λb o hc e n=>u.free b o e n hc) (λb o hc e=>u.there b o e hc) u.tups u.mj u.nh (λm' hm=>by
  obtain⟨o',es',K9,ho',r'⟩:=hm;rw[ho]at ho';cases ho';exact⟨_,es',K9,hL,r'⟩) hok hg
theorem Inv.turned{t':Nat}{it:Addr}(I:Inv X pins σ H s)(k:∀b o,b≠it->s.heap.get? b=some o->h'.get? b=some o)(hn:H it=none)(hL:it≠X.env.locals)
  (h1:it∈X.ex\/X.s₀.heap.objs.size<=it) (h2:∀x c,X.env.cells.lookup x=some c->c≠it) (h3:∀p∈X.pn++pins,p.1≠it):Inv X pins σ H { s with heap:=h',toks:=t' }:=by
 have SV:∀b u,H b=some u->b≠it:=λb u e z=>by rw[z,hn]at e;cases e
 refine I.step (g':=s.gens) (d':=s.drawn) (ch:=[it]) (λb hb=>?_) (λb o _ _ hc e _=>k b o (λz=>hc (by simp[z])) e) (λb o _ _ hc e _=>⟨o.slots,k b o (λz=>hc (by simp[z])) e⟩) (λ_ _ _ _ n=>n)
  (λb o hc e=>⟨o,k b o (λz=>hc (by simp[z])) e⟩) (λ_ _ e=>e) (λ_ _ _ e=>e) (λb ps e=>⟨#[],by rw[e];simp⟩) (λm hm=>?_) (λb u e=>?_) I.bare
 .have e:b=it:=by simpa using hb
  subst e;exact⟨h1,hL,h2,h3⟩
 .obtain⟨o,es,ep,ho,r⟩:=hm;exact⟨o,es,ep,k _ o (Ne.symm hL) ho,r⟩
 .refine(I.hok b u e).stay (λc v hc q=>k c v ?_ q) (λ_ q=>q) λ_ _ q=>q;rcases hc with z|z
  .rw[z];exact SV b u e
  .exact SV c _ z
theorem Inv.tok(I:Inv X pins σ H s)(t:Nat):Inv X pins σ H { s with toks:=t }:=I.un (h':=s.heap) (t':=t) Un.refl I.hok
theorem Inv.kept{t':Nat}(I:Inv X pins σ H s)(k:∀b u,s.heap.get? b=some u->h'.get? b=some u):Inv X pins σ H { s with heap:=h',toks:=t' }:=I.un (Un.kept k) (I.hok.kept k)
theorem Inv.laid{a:Addr}{o:HO}{t':Nat}(I:Inv X pins σ H s)(k:∀b u,s.heap.get? b=some u->h'.get? b=some u)(hp:s.heap.objs.size<=a)(new:dF X.prog X.w (upd H a o) h' a o) :
  Inv X pins σ (upd H a o) { s with heap:=h',toks:=t' }:=I.un (Un.laid k hp (I.hok.fresh hp)) (I.hok.laid k hp new)
theorem Inv.write{x e:Addr}{o:HO}{t':Nat}(I:Inv X pins σ H s)(mu:A8 (H x))(he:e=x\/H e=some (.own x))(k:∀b u,b≠e->s.heap.get? b=some u->h'.get? b=some u)(x8:∃u,h'.get? e=some u)
  (new:dF X.prog X.w (upd H x o) h' x o):Inv X pins σ (upd H x o) { s with heap:=h',toks:=t' }:=I.un (Un.write mu he k x8) (I.hok.write mu he k x8 new)
theorem Inv.yd{GD:List (Addr×Obj)}(I:Inv X pins σ H s)(h:∀p∈GD,s.heap.get? p.1=some p.2/\H p.1=none/\p.1≠X.env.locals/\p.1∉X.fs/\∀v,p.2.data≠.cell v):Inv X GD σ H s:=
 ⟨I.ok,I.os,I.bare,I.base,I.loc,I.cell,I.free,I.jf,λp hp=>(List.mem_append.mp hp).elim (λz=>I.pin p (List.mem_append_left _ z)) (h p),I.hok,I.len⟩
theorem u9{N:List Str}(hN:N.Nodup){i j:Nat}{x:Str}(a:N[i]?=some x)(b:N[j]?=some x):i=j:=by
 obtain⟨h1,e1⟩:=List.getElem?_eq_some_iff.mp a;obtain⟨h2,e2⟩:=List.getElem?_eq_some_iff.mp b;exact(List.getElem_inj hN).mp (e1.trans e2.symm)
theorem sZ{M:Model}{A:Around}{E:Value->Shared->Prop}{i:Nat}{x:Str}{v:V}{u:Value}{Q:Unit->Shared->Prop}(I:Inv X pins σ H s)(hN:X.N.Nodup)(hi:X.N[i]?=some x)(hx:Loc X.env.scope x)(r:RelV v u)
  (h:∀s',Inv X pins (σ.set i (some v)) H s'->(∃a,Heap.SameBut a s.heap s'.heap/\(a=X.env.locals\/X.env.cells.lookup x=some a))->Q () s') (hf:X.fn x=true\/X.env.scope.names.lookup x=some .local:=by first|exact .inl rfl|exact .inr rfl|assumption):wpAny M A (storeName X.env x u) Q E s:=by
 obtain⟨m,hn,hl⟩:=id I.loc;have hcls:(X.env.scope.kind==.class || (X.env.scope.kind==.module&&X.env.locals != X.env.globals))=false:=by rw[I.ok.kind];rfl
 have La:i<σ.length:=by rw[I.len];exact(List.getElem?_eq_some_iff.mp hi).1
 have u6:=I.u6;have tracked:∀{a:Addr} {h':Heap},(∃o,s.heap.get? a=some o/\H a=none)->Heap.SameBut a s.heap h'->eV X.prog X.w H h':=λ{a h'} ha hs b ob e=>by
  obtain⟨_,_,hfree⟩:=ha;refine(I.hok b ob e).stay (λc w' hc q=>(hs.2 c ?_).trans q) (λ_ q=>q) λ_ _ q=>q;rintro rfl;rcases hc with rfl|hc
  .rw[hfree]at e;cases e
  .rw[hfree]at hc;cases hc
 rcases hx with hk|hk
 .refine wpAny_storeName_local hk hn (λh' hn' hs=>?_) hcls;obtain⟨oL,_,_,Bc,_⟩:=id hn;refine h _ ⟨I.ok,I.os,I.bare,⟨λb o e n hb hx=>?_,λb o e n hb hx=>?_,I.base.free,λb o e hx=>?_,I.base.tups,I.base.mj,I.base.nh⟩,⟨_,hn',λj y v' e1 e2 e3=>?_⟩,λy c e=>?_,I.free,I.jf,λp hp=>?_,tracked ⟨oL,Bc,I.free⟩ hs,by simpa using I.len⟩ ⟨_,hs,.inl rfl⟩
  .exact(hs.2 b (Nat.ne_of_lt (Nat.lt_of_lt_of_le (Heap.lt_size e) I.ok.above))).trans (I.base.keep b o e n hb hx)
  .obtain⟨sl,e1⟩:=I.base.slot b o e n hb hx;exact⟨sl,(hs.2 b (Nat.ne_of_lt (Nat.lt_of_lt_of_le (Heap.lt_size e) I.ok.above))).trans e1⟩
  .obtain⟨o',e1⟩:=I.base.there b o e hx;exact⟨o',(hs.2 b (Nat.ne_of_lt (Nat.lt_of_lt_of_le (Heap.lt_size e) I.ok.above))).trans e1⟩
  .by_cases hj:j=i
   .subst hj;rw[hi]at e1;cases e1;rw[List.getElem?_set_self La]at e2;cases e2;exact⟨u,r,.inl ⟨hk,by simp⟩⟩
   .rw[List.getElem?_set_ne (Ne.symm hj)]at e2;obtain⟨u',r',q⟩:=hl j y v' e1 e2 e3;refine⟨u',r',?_⟩;rcases q with ⟨k,e⟩|⟨k,c,e,z⟩
    .refine .inl ⟨k,?_⟩;have:y≠x:=λe=>hj (u9 hN e1 (e▸hi));simp[this,e]
    .exact .inr ⟨k,c,e,z.sameBut hs (u6 y c e)⟩
  .obtain⟨w',z⟩:=I.cell y c e;exact⟨w',z.sameBut hs (u6 y c e)⟩
  .obtain⟨e,n,ne,nf,d⟩:=I.pin p hp;exact⟨(hs.2 p.1 ne).trans e,n,ne,nf,d⟩
 .have hfn:X.fn x=true:=by
   rcases hf with z|z
   .exact z
   .rw[z]at hk;cases hk
  obtain⟨c,hc⟩:=I.ok.has x (.inl hk);obtain⟨w',z⟩:=I.cell x c hc;refine wpAny_storeName_cell I.ok.kind hk hc z (λh' hc' hs=>?_);obtain⟨oc,hoc,Vq⟩:=id z;refine h { s with heap:=h' } ⟨I.ok,I.os,I.bare,⟨λb o e n hb hx=>?_,λb o e n hb hx=>?_,I.base.free,λb o e hx=>?_,I.base.tups,I.base.mj,I.base.nh⟩,⟨m,hn.sameBut hs (Ne.symm (u6 x c hc)),λj y v' e1 e2 e3=>?_⟩,λy c' e=>?_,I.free,I.jf,λp hp=>?_,tracked ⟨oc,hoc,I.jf x c hc⟩ hs,by simpa using I.len⟩ ⟨c,hs,.inr hc⟩
  .exact(hs.2 b (Nat.ne_of_lt (Nat.lt_of_lt_of_le (Heap.lt_size e) (I.ok.x9 x c hfn hc)))).trans (I.base.keep b o e n hb hx)
  .obtain⟨sl,e1⟩:=I.base.slot b o e n hb hx;exact⟨sl,(hs.2 b (Nat.ne_of_lt (Nat.lt_of_lt_of_le (Heap.lt_size e) (I.ok.x9 x c hfn hc)))).trans e1⟩
  .obtain⟨o',e1⟩:=I.base.there b o e hx;exact⟨o',(hs.2 b (Nat.ne_of_lt (Nat.lt_of_lt_of_le (Heap.lt_size e) (I.ok.x9 x c hfn hc)))).trans e1⟩
  .by_cases hj:j=i
   .subst hj;rw[hi]at e1;cases e1;rw[List.getElem?_set_self La]at e2;cases e2;exact⟨u,r,.inr ⟨.inl hk,c,hc,hc'⟩⟩
   .rw[List.getElem?_set_ne (Ne.symm hj)]at e2;obtain⟨u',r',q⟩:=hl j y v' e1 e2 e3;refine⟨u',r',?_⟩;rcases q with q|⟨k,c',e,z'⟩
    .exact .inl q
    .refine .inr ⟨k,c',e,z'.sameBut hs ?_⟩;rintro rfl;exact hj (u9 hN e1 (I.ok.inj _ _ _ e hc▸hi))
  .by_cases hcc:c'=c
   .subst hcc;exact⟨_,hc'⟩
   .obtain⟨w2,z2⟩:=I.cell y c' e;exact⟨w2,z2.sameBut hs hcc⟩
  .obtain⟨e,n,ne,nf,d⟩:=I.pin p hp;refine⟨(hs.2 p.1 ?_).trans e,n,ne,nf,d⟩;intro q;rw[q,hoc]at e;have q':oc=p.2:=Option.some.inj e;exact d w' (by rw[<-q'];exact Vq)
theorem vc{M:Model}{A:Around}{E:Value->Shared->Prop}{i:Nat}{x:Str}{v:V}{u:Value}{Q:Unit->Shared->Prop}(I:Inv X pins σ H s)(hN:X.N.Nodup)(hi:X.N[i]?=some x)(hx:Loc X.env.scope x)(r:RelV v u)
  (h:∀s',Inv X pins (σ.set i (some v)) H s'->Q () s') (hf:X.fn x=true\/X.env.scope.names.lookup x=some .local:=by first|exact .inl rfl|exact .inr rfl|assumption):wpAny M A (storeName X.env x u) Q E s:=
 sZ I hN hi hx r (λs' I' _=>h s' I') hf
theorem Inv.Qe{s':Shared}{ch:List Addr}(I:Inv X pins σ H s)(ho:s'.os=s.os)(u:Un (frs X.stack) ch H H' s.heap s'.heap)(hok:eV X.prog X.w H' s'.heap)(hg:AllBare s'.gens)
  (hch:∀b∈ch,(b∈X.ex\/X.s₀.heap.objs.size<=b)/\b≠X.env.locals/\(∀x c,X.env.cells.lookup x=some c->c≠b)/\∀p∈X.pn++pins,p.1≠b):Inv X pins σ H' s':=by
 obtain⟨h',g',d',t',o'⟩:=s';have e:o'=s.os:=ho;subst e;exact I.call (g':=g') (t':=t') (d':=d') u hok hg hch
end
abbrev XK:=Value->Option Addr->Hp->Prop
abbrev St:=List (Option V)
abbrev VK:=V->Hp->Prop
abbrev TE:=St->Hp->VK->Prop
abbrev TT:=St->Hp->(Bool->Hp->Prop)->Prop
abbrev TA:=St->Hp->(List V->Hp->Prop)->Prop
structure Ends where
 nx:St->Hp->Prop
 rt:VK
 bk:St->Hp->Prop:=λ_ _=>False
 ct:St->Hp->Prop:=λ_ _=>False
abbrev TS:=Ends->St->Hp->Prop
noncomputable def EP(X:Cx)(pins:List (Addr×Obj))(σ:St)(Q:VK)(u:Value)(s':Shared):Prop:=∃v H',Inv X pins σ H' s'/\RelV v u/\Q v H'
noncomputable def TP(X:Cx)(pins:List (Addr×Obj))(σ:St)(Q:Bool->Hp->Prop)(b:Bool)(s':Shared):Prop:=∃H',Inv X pins σ H' s'/\Q b H'
noncomputable def AP(X:Cx)(pins:List (Addr×Obj))(σ:St)(Q:List V->Hp->Prop)(us:List Value)(s':Shared):Prop:=∃vs H',Inv X pins σ H' s'/\Vals vs us/\Q vs H'
noncomputable def SP(X:Cx)(pins:List (Addr×Obj))(D:Ends)(f:Flow)(s':Shared):Prop:=
 match f with
 |.next=>∃σ' H',Inv X pins σ' H' s'/\D.nx σ' H'
 |.brk=>∃σ' H',Inv X pins σ' H' s'/\D.bk σ' H'
 |.cont=>∃σ' H',Inv X pins σ' H' s'/\D.ct σ' H'
 |.ret u=>∃v σ' H',Inv X pins σ' H' s'/\RelV v u/\D.rt v H'
noncomputable def PE(X:Cx)(e:Expr)(t:TE):Prop:=
 ∀(pins:List (Addr×Obj)) (s:Shared) (σ:St) (H:Hp) (Q:VK),Inv X pins σ H s->t σ H Q->wpAny (model X.prog X.w) X.A (eval e X.env) (EP X pins σ Q) X.xe s
noncomputable def PT(X:Cx)(e:Expr)(t:TT):Prop:=
 ∀(pins:List (Addr×Obj)) (s:Shared) (σ:St) (H:Hp) (Q:Bool->Hp->Prop),Inv X pins σ H s->t σ H Q->wpAny (model X.prog X.w) X.A (isTrue e X.env (eval e X.env)) (TP X pins σ Q) X.xe s
noncomputable def PW(X:Cx)(e:Expr)(t:TT):Prop:=
 ∀(whole:Sem Value) (pins:List (Addr×Obj)) (s:Shared) (σ:St) (H:Hp) (Q:Bool->Hp->Prop),Inv X pins σ H s->t σ H Q->wpAny (model X.prog X.w) X.A (isTrue e X.env whole) (TP X pins σ Q) X.xe s
theorem PW.pt{X:Cx}{e:Expr}{t:TT}(h:PW X e t):PT X e t:=h _
noncomputable def PA(X:Cx)(es:List Expr)(t:TA):Prop:=
 ∀(pos:Pos) (pins:List (Addr×Obj)) (s:Shared) (σ:St) (H:Hp) (Q:List V->Hp->Prop),Inv X pins σ H s->t σ H Q->wpAny (model X.prog X.w) X.A (spliced (backTo pos (starEach es X.env))) (AP X pins σ Q) X.xe s
noncomputable def PS(X:Cx)(st:Stmt)(t:TS):Prop:=
 ∀(pins:List (Addr×Obj)) (s:Shared) (σ:St) (H:Hp) (D:Ends),Inv X pins σ H s->t D σ H->wpAny (model X.prog X.w) X.A (exec st X.env) (SP X pins D) X.xe s
noncomputable def iI(X:Cx)(st:List Stmt)(t:TS):Prop:=
 ∀(pins:List (Addr×Obj)) (s:Shared) (σ:St) (H:Hp) (D:Ends),Inv X pins σ H s->t D σ H->wpAny (model X.prog X.w) X.A (execs st X.env) (SP X pins D) X.xe s
theorem bF{α:Type}{t:Sem α}{Q Q':α->Shared->Prop}{M:Model}{A:Around}{E:Value->Shared->Prop}{s:Shared}(h:wpAny M A t Q E s)(hQ:∀a s,Q a s->Q' a s):wpAny M A t Q' E s:=wpAny_mono h hQ λ_ _ x=>x
end L2
namespace L2
open PySem PySem.Spec PyProof.Rows
section
variable{X:Cx}
theorem bin{a b:Expr}{ta tb:TE}(ha:PE X a ta)(hb:PE X b tb){pins:List (Addr×Obj)}{s:Shared}{σ:St}{H:Hp}{R:V->V->Hp->Prop}(I:Inv X pins σ H s)(h:ta σ H λx H1=>tb σ H1 λy H2=>R x y H2)
  {α:Type} {Q:α->Shared->Prop} {f:Value->Value->Sem α}
  (hf:∀v u s2 x y H2,Inv X pins σ H2 s2->RelV x v->RelV y u->R x y H2->wpAny (model X.prog X.w) X.A (f v u) Q X.xe s2) :
  wpAny (model X.prog X.w) X.A (eval a X.env) (λv s₁=>wpAny (model X.prog X.w) X.A (eval b X.env) (λu s₂=>wpAny (model X.prog X.w) X.A (f v u) Q X.xe s₂) X.xe s₁) X.xe s:=by
 refine bF (ha pins s σ H _ I h) λv s1 ⟨x,H1,I1,r1,q1⟩=>?_;refine bF (hb pins s1 σ H1 _ I1 q1) λu s2 ⟨y,H2,I2,r2,q2⟩=>?_;exact hf v u s2 x y H2 I2 r1 r2 q2
noncomputable def Lb(i:Nat):TE:=λσ H Q=>∃v,σ[i]?=some (some v)/\Q v H
noncomputable def tC(v:V):TE:=λ_ H Q=>Q v H
theorem Bd {i:Nat}{x:Str}{pos:Pos}(hN:X.N[i]?=some x) (hv:Ba X.env.scope x) (hd:(x==("__debug__" : Str))=false:=by decide) (hcd:(x==("__classdict__" : Str))=false:=by decide):PE X (.Name x pos) (Lb i):=by
 intro pins s σ H Q I h;obtain⟨v,e,h⟩:=h;obtain⟨m,hn,hl⟩:=I.loc;obtain⟨u,r,l⟩:=hl i x v hN e hv;have fin:EP X pins σ Q u s:=⟨v,H,I,r,h⟩
 rcases l with ⟨hk,hm⟩|⟨hk,c,hc,hcell⟩
 .exact wpAny_Name (wpAny_loadName_local I.ok.kind hk hn hm fin) hd
 .rcases hk with hk|hk
  .exact wpAny_Name (wpAny_loadName_cell I.ok.kind hk hc hcell fin) hd
  .exact wpAny_Name (wpAny_loadName_free I.ok.kind hk hc hcell fin hcd) hd
theorem Lc{i j pos}:PE X (.Constant (.int i) j pos) (tC (.int i)):=λ_ _ _ H _ I h=>wpAny_Constant_int ⟨.int i,H,I.tok _,⟨_,rfl⟩,h⟩
theorem Qf{b j pos}:PE X (.Constant (.bool b) j pos) (tC (.bl b)):=λ_ _ _ H _ I h=>Constant_bool ⟨.bl b,H,I,rfl,h⟩
theorem Le{j pos}:PE X (.Constant .none j pos) (tC .aS):=λ_ _ _ H _ I h=>Constant_none ⟨.aS,H,I,rfl,h⟩
theorem Lf{x j pos}:PE X (.Constant (.str x) j pos) (tC (.str x)):=λ_ _ _ H _ I h=>Calls.Constant_str ⟨.str x,H,I.tok _,⟨_,rfl⟩,h⟩
noncomputable def Gl(X:Cx)(x:Str):Prop:=X.env.kindOf x=some .globalImplicit
theorem ye{E:Value->Shared->Prop}{pins:List (Addr×Obj)}{s:Shared}{σ:St}{H:Hp}{x:Str}{u:Value}{pos:Pos}{Q:Value->Shared->Prop}(I:Inv X pins σ H s)(hg:Gl X x)(hm:X.mg x=some u)(h:Q u s)
  (hd:(x==("__debug__" : Str))=false:=by decide):wpAny (model X.prog X.w) X.A (eval (.Name x pos) X.env) Q E s:=
 Calls.Name_function_global I.ok.kind hg (Calls.loadGlobal_global (by rw[I.ok.glob];exact I.mod.glob.keeps I.bk) hm h) hd
theorem iJ{E:Value->Shared->Prop}{pins:List (Addr×Obj)}{s:Shared}{σ:St}{H:Hp}{x:Str}{u:Value}{pos:Pos}{Q:Value->Shared->Prop}(I:Inv X pins σ H s)(hg:Gl X x)(hm:X.mg x=none)(hv:bootBuiltins x=some u)(h:Q u s)
  (hn:x≠"__name__" :=by decide) (hd:(x==("__debug__" : Str))=false:=by decide):wpAny (model X.prog X.w) X.A (eval (.Name x pos) X.env) Q E s:=by
 obtain⟨mb,h1,h2⟩:=I.mod.blt;exact Calls.Name_function_global I.ok.kind hg (Calls.loadGlobal_builtin (by rw[I.ok.glob];exact I.mod.glob.keeps I.bk) hm (by rw[I.ok.blt];exact h1.keeps I.bk) ((h2 x hn).trans hv) h) hd
theorem Ik {x:Str}{v:V}{u:Value}{pos:Pos}(hg:Gl X x) (hm:X.mg x=some u) (r:RelV v u) (hd:(x==("__debug__" : Str))=false:=by decide):PE X (.Name x pos) (tC v):=
 λ_ _ _ H _ I h=>ye I hg hm ⟨v,H,I,r,h⟩ hd
variable{a b:Expr}{ta tb:TE}{pos:Pos}
variable{tA GF:TT}{rest:List Expr}
noncomputable def Vr(t u:TT):TT:=λσ H Q=>t σ H λc H1=>if c=true then u σ H1 Q else Q false H1
noncomputable def Xg(t u:TT):TT:=λσ H Q=>t σ H λc H1=>if c=true then Q true H1 else u σ H1 Q
noncomputable def Vs(t:TT):TT:=λσ H Q=>t σ H λc H1=>Q (!c) H1
theorem Il(ha:PT X a tA):PW X (.BoolOp .And [a] pos) tA:=by
 intro wh pins s σ H Q I h;refine isTrue_and (bF (ha pins s σ H Q I h) λc s1 e=>?_);cases c with
 |true=>exact isTrue_and_nil e
 |false=>exact e
theorem Lh(ha:PT X a tA):PW X (.BoolOp .Or [a] pos) tA:=by
 intro wh pins s σ H Q I h;refine isTrue_or (bF (ha pins s σ H Q I h) λc s1 e=>?_);cases c with
 |false=>exact isTrue_or_nil e
 |true=>exact e
theorem Li(ha:PT X a tA)(hb:PW X (.BoolOp .And (b :: rest) pos) GF):PW X (.BoolOp .And (a :: b :: rest) pos) (Vr tA GF):=by
 intro wh pins s σ H Q I h;refine isTrue_and (bF (ha pins s σ H _ I h) λc s1 ⟨H1,I1,q1⟩=>?_);cases c with
 |true=>exact hb wh pins s1 σ H1 Q I1 q1
 |false=>exact⟨H1,I1,q1⟩
theorem Qg(ha:PT X a tA)(hb:PW X (.BoolOp .Or (b :: rest) pos) GF):PW X (.BoolOp .Or (a :: b :: rest) pos) (Xg tA GF):=by
 intro wh pins s σ H Q I h;refine isTrue_or (bF (ha pins s σ H _ I h) λc s1 ⟨H1,I1,q1⟩=>?_);cases c with
 |true=>exact⟨H1,I1,q1⟩
 |false=>exact hb wh pins s1 σ H1 Q I1 q1
theorem Lj(ha:PT X a tA):PT X (.UnaryOp .Not a pos) (Vs tA):=by
 intro pins s σ H Q I h;exact isTrue_not (ha pins s σ H (λc H1=>Q (!c) H1) I h)
noncomputable def Qh(ta tb:TE):TE:=λσ H Q=>ta σ H λx H1=>∃c,x=.bl c/\if c=true then tb σ H1 Q else Q (.bl false) H1
noncomputable def Qi(ta:TE):TE:=λσ H Q=>ta σ H λx H1=>∃c,x=.bl c/\Q (.bl (!c)) H1
theorem Lk{op}{t:TE}(h:PE X a t):PE X (.BoolOp op [a] pos) t:=λpins s σ H Q I hw=>BoolOp_one (h pins s σ H Q I hw)
theorem Ll(ha:PE X a ta)(hb:PE X (.BoolOp .And (b :: rest) pos) tb):PE X (.BoolOp .And (a :: b :: rest) pos) (Qh ta tb):=by
 intro pins s σ H Q I h;refine BoolOp_and (bF (ha pins s σ H _ I h) λv s1 ⟨x,H1,I1,r1,q1⟩=>?_);obtain⟨c,rfl,q1⟩:=q1;cases r1;refine wpAny_truthy_bool ?_;cases c with
 |true=>exact hb pins s1 σ H1 Q I1 q1
 |false=>exact⟨.bl false,H1,I1,rfl,q1⟩
theorem Lm(ha:PE X a ta):PE X (.UnaryOp .Not a pos) (Qi ta):=by
 intro pins s σ H Q I h;refine UnaryOp_ (bF (ha pins s σ H _ I h) λv s1 ⟨x,H1,I1,r1,q1⟩=>?_);obtain⟨c,rfl,q1⟩:=q1;cases r1;exact not_of (wpAny_truthy_bool ⟨.bl (!c),H1,I1,rfl,q1⟩)
noncomputable def Xh(t:TT)(ta tb:TE):TE:=λσ H Q=>t σ H λc H1=>if c=true then ta σ H1 Q else tb σ H1 Q
theorem Dw{c:Expr}(hc:PT X c tA)(ha:PE X a ta)(hb:PE X b tb):PE X (.IfExp c a b pos) (Xh tA ta tb):=by
 intro pins s σ H Q I h;refine wpAny_IfExp (bF (hc pins s σ H _ I h) λd s1 ⟨H1,I1,q1⟩=>?_);cases d with
 |true=>exact ha pins s1 σ H1 Q I1 q1
 |false=>exact hb pins s1 σ H1 Q I1 q1
end
end L2
namespace L2
open PySem PySem.Spec PyProof.Rows
noncomputable def fF(K:PySem.W.Frag)(H:Hp)(a:Addr)(xs:List V):Prop:=
 Rd H a (.lst xs)\/
  ∃(o:Obj) (its:Array Value) (n:Nat),K.lookup a=some o/\o.cls=.type "list" /\o.dict=none/\o.data=.seq its n/\its.size<=sizeLine/\Vals xs its.toList
noncomputable def dP(K:PySem.W.Frag)(H:Hp)(a:Addr)(xs:List V):Prop:=
 Rd H a (.tup xs)\/
  ∃(o:Obj) (its:Array Value) (n:Nat),K.lookup a=some o/\o.cls=.type "tuple" /\o.data=.seq its n/\its.size<=sizeLine/\Vals xs its.toList
noncomputable def Vt:Value->Option V
 |.none=>some .aS
 |.bool b=>some (.bl b)
 |.int i _=>some (.int i)
 |.str x _=>some (.str x)
 |.bytes b _=>some (.A6 b)
 |.float b _=>some (.A7 b)
 |.ref a=>some (.ref a)
 |.type n=>some (.ty n)
 |_=>none
theorem RelV.abs{x:V}{u:Value}(r:RelV x u):Vt u=some x:=by
 cases x with
 |aS=>cases r;rfl
 |bl _=>cases r;rfl
 |int _=>obtain⟨t,rfl⟩:=r;rfl
 |str _=>obtain⟨t,rfl⟩:=r;rfl
 |A6 _=>obtain⟨t,rfl⟩:=r;rfl
 |A7 _=>obtain⟨t,rfl⟩:=r;rfl
 |ref _=>cases r;rfl
 |ty _=>cases r;rfl
theorem RelV.inj{x y:V}{u:Value}(r:RelV x u)(q:RelV y u):x=y:=Option.some.inj (r.abs.symm.trans q.abs)
theorem Vals.inj:∀{xs ys:List V}{us:List Value},Vals xs us->Vals ys us->xs=ys
 |_,_,_,.nil,.nil=>rfl
 |_,_,_,.cons r t,.cons r' t'=>by rw[r.inj r',Vals.inj t t']
section
variable{X:Cx}{pins:List (Addr×Obj)}{σ:St}{H:Hp}{s:Shared}{a:Addr}{xs ys:List V}
theorem fF.of{K:PySem.W.Frag}(h:H a=some (.lst xs)):fF K H a xs:=.inl (.inl h)
theorem dP.of{K:PySem.W.Frag}(h:H a=some (.tup xs)):dP K H a xs:=.inl (.inl h)
theorem Inv.list(I:Inv X pins σ H s)(h:fF X.K H a xs):∃its:List Value,Vals xs its/\PlainL s.heap a its.toArray/\xs.length<=sizeLine:=by
 rcases h with h|⟨o,its,n,hk,hc,hd,hs,hz,r⟩
 .obtain⟨z,its,n,r,e⟩:=h.ok I.hok;exact⟨its,r,⟨_,n,e,rfl,rfl,rfl⟩,z⟩
 .refine⟨its.toList,r,⟨o,n,I.u5 a o hk,hc,hd,by simpa using hs⟩,?_⟩;have e:=r.length;simp only[Array.length_toList]at e;omega
theorem Inv.tuple(I:Inv X pins σ H s)(h:dP X.K H a xs):∃its:List Value,Vals xs its/\IsTup s.heap a its.toArray/\xs.length<=sizeLine:=by
 rcases h with h|⟨o,its,n,hk,hc,hs,hz,r⟩
 .obtain⟨z,its,r,p⟩:=h.ok I.hok;exact⟨its,r,p,z⟩
 .refine⟨its.toList,r,⟨o,I.u5 a o hk,hc,n,by simpa using hs⟩,?_⟩;have e:=r.length;simp only[Array.length_toList]at e;omega
theorem Inv.Dy(I:Inv X pins σ H s)(h:fF X.K H a xs)(h':fF X.K H a ys):xs=ys:=by
 obtain⟨its,r,⟨o,n,e,_,_,d⟩,_⟩:=I.list h;obtain⟨its',r',⟨o',n',e',_,_,d'⟩,_⟩:=I.list h';rw[e]at e';cases e';rw[d]at d';injection d' with d1 _
 have:its=its':=by simpa using congrArg Array.toList d1
 subst this;exact r.inj r'
theorem Inv.nj(I:Inv X pins σ H s)(h:dP X.K H a xs)(h':dP X.K H a ys):xs=ys:=by
 obtain⟨its,r,⟨o,e,_,n,d⟩,_⟩:=I.tuple h;obtain⟨its',r',⟨o',e',_,n',d'⟩,_⟩:=I.tuple h';rw[e]at e';cases e';rw[d]at d';injection d' with d1 _
 have:its=its':=by simpa using congrArg Array.toList d1
 subst this;exact r.inj r'
end
abbrev Cx.kL(X:Cx)(E:Value->Shared->Prop):Cx:={ X with xe:=E }
abbrev Cx.tu(X:Cx):Cx:=X.kL λ_ _=>False
theorem Cx.Ok.kL{X:Cx}(ok:X.Ok)(E:Value->Shared->Prop):(X.kL E).Ok:=
 ⟨ok.mod,ok.kind,ok.glob,ok.blt,ok.above,ok.inj,ok.has,ok.x9,ok.hd,ok.frames,ok.stk,ok.GB,ok.bs,ok.sY,ok.rM,ok.rN,ok.ju,ok.u0⟩
theorem Cx.Ok.jj{X:Cx}{E:Value->Shared->Prop}(ok:(X.kL E).Ok):X.Ok:=
 ⟨ok.mod,ok.kind,ok.glob,ok.blt,ok.above,ok.inj,ok.has,ok.x9,ok.hd,ok.frames,ok.stk,ok.GB,ok.bs,ok.sY,ok.rM,ok.rN,ok.ju,ok.u0⟩
section
variable{X:Cx}{pins:List (Addr×Obj)}{σ:St}{H:Hp}{s:Shared}{E:Value->Shared->Prop}
theorem Inv.kL(I:Inv X pins σ H s)(E:Value->Shared->Prop):Inv (X.kL E) pins σ H s:=⟨I.ok.kL E,I.os,I.bare,I.base,I.loc,I.cell,I.free,I.jf,I.pin,I.hok,I.len⟩
theorem Inv.jj(I:Inv (X.kL E) pins σ H s):Inv X pins σ H s:=⟨I.ok.jj,I.os,I.bare,I.base,I.loc,I.cell,I.free,I.jf,I.pin,I.hok,I.len⟩
theorem SP.jj{D:Ends}{f:Flow}{s':Shared}(h:SP (X.kL E) pins D f s'):SP X pins D f s':=by
 cases f with
 |next=>obtain⟨σ',H',I,q⟩:=h;exact⟨σ',H',I.jj,q⟩
 |brk=>obtain⟨σ',H',I,q⟩:=h;exact⟨σ',H',I.jj,q⟩
 |cont=>obtain⟨σ',H',I,q⟩:=h;exact⟨σ',H',I.jj,q⟩
 |ret u=>obtain⟨v,σ',H',I,r,q⟩:=h;exact⟨v,σ',H',I.jj,r,q⟩
theorem iI.tu{st:List Stmt}{t:TS}(h:iI X.tu st t):iI X st t:=λpins s σ H D I hw=>
 wpAny_mono (h pins s σ H D (I.kL _) hw) (λ_ _ q=>q.jj) λ_ _ z=>False.elim z
end
section
variable{X:Cx}{st:Stmt}{rest:List Stmt}{t u:TS}{e:Expr}{te:TE}{pos:Pos}
noncomputable def Qj:TS:=λD σ H=>D.nx σ H
noncomputable def Vu(t u:TS):TS:=λD σ H=>t { D with nx:=u D } σ H
theorem Im:iI X [] Qj:=λ_ _ σ H _ I h=>wpAny_execs_nil ⟨σ,H,I,h⟩
theorem Dz(h1:PS X st t)(h2:iI X rest u):iI X (st :: rest) (Vu t u):=by
 intro pins s σ H D I h;refine wpAny_execs_cons (bF (h1 pins s σ H { D with nx:=u D } I h) λf s1 q=>?_);cases f with
 |next=>
  obtain⟨σ',H',I',q⟩:=q;exact h2 pins s1 σ' H' D I' q
 |ret v=>exact q
 |brk=>exact q
 |cont=>exact q
theorem Inv.quiet{pins:List (Addr×Obj)}{σ:St}{H:Hp}{s:Shared}(I:Inv X pins σ H s):interactive X.env=false:=by simp[interactive,I.ok.kind]
noncomputable def Qk(te:TE):TS:=λD σ H=>te σ H λ_ H1=>D.nx σ H1
theorem yf(he:PE X e te)(hs:swapsWith e none pos.line X.env=pure false:=by rfl):PS X (.Expr e pos) (Qk te):=by
 intro pins s σ H D I h;exact wpAny_Expr_any (bF (he pins s σ H _ I h) λv s1 ⟨x,H1,I1,r1,q1⟩=>⟨σ,H1,I1,q1⟩) I.quiet hs
noncomputable def Vv(te:TE):TS:=λD σ H=>te σ H D.rt
theorem Ln(he:PE X e te):PS X (.Return (some e) pos) (Vv te):=by
 intro pins s σ H D I h;exact wpAny_Return_some (bF (he pins s σ H _ I h) λv s1 ⟨x,H1,I1,r1,q1⟩=>⟨x,σ,H1,I1,r1,q1⟩)
noncomputable def Vw(c:TT)(t u:TS):TS:=λD σ H=>c σ H λb H1=>if b=true then t D σ H1 else u D σ H1
theorem Ql{c:Expr}{a b:List Stmt}{tc:TT}(hc:PT X c tc)(ha:iI X a t)(hb:iI X b u):PS X (.If c a b pos) (Vw tc t u):=by
 intro pins s σ H D I h;refine wpAny_If (bF (hc pins s σ H _ I h) λd s1 ⟨H1,I1,q1⟩=>?_);cases d with
 |true=>exact ha pins s1 σ H1 D I1 q1
 |false=>exact hb pins s1 σ H1 D I1 q1
noncomputable def Lo:TS:=λ_ _ _=>False
theorem DA:PS X st Lo:=λ_ _ _ _ _ _ h=>h.elim
end
abbrev TG:=V->St->Hp->(St->Hp->Prop)->Prop
abbrev tB:=List V->St->Hp->(St->Hp->Prop)->Prop
noncomputable def PG(X:Cx)(target:Expr)(t:TG):Prop:=
 ∀(pins:List (Addr×Obj)) (s:Shared) (σ:St) (H:Hp) (v:V) (u:Value) (Q:St->Hp->Prop),Inv X pins σ H s->RelV v u->t v σ H Q->
  wpAny (model X.prog X.w) X.A (assign target X.env u) (λ_ s'=>∃σ' H',Inv X pins σ' H' s'/\Q σ' H') X.xe s
noncomputable def pH(X:Cx)(ts:List Expr)(t:tB):Prop:=
 ∀(pins:List (Addr×Obj)) (s:Shared) (σ:St) (H:Hp) (vs:List V) (us:List Value) (Q:St->Hp->Prop),Inv X pins σ H s->Vals vs us->t vs σ H Q->
  wpAny (model X.prog X.w) X.A (assignInOrder ((assignEach ts X.env).map (·.2)) us) (λ_ s'=>∃σ' H',Inv X pins σ' H' s'/\Q σ' H') X.xe s
section
variable{X:Cx}{pos:Pos}
noncomputable def GG(i:Nat):TG:=λv σ H Q=>Q (σ.set i (some v)) H
theorem yg{i:Nat}{x:Str}(hN:X.N.Nodup)(hi:X.N[i]?=some x)(hx:Loc X.env.scope x)(hf:X.fn x=true\/X.env.scope.names.lookup x=some .local:=by first|exact .inl rfl|exact .inr rfl|assumption):PG X (.Name x pos) (GG i):=by
 intro pins s σ H v u Q I r h;exact wpAny_assign_Name (vc I hN hi hx r (λs' I'=>⟨_,H,I',h⟩) hf)
noncomputable def Vx:tB:=λvs σ H Q=>vs=[]/\Q σ H
noncomputable def Qm(t:TG)(u:tB):tB:=λvs σ H Q=>∃v r,vs=v :: r/\t v σ H λσ' H'=>u r σ' H' Q
theorem Io:pH X [] Vx:=by
 intro pins s σ H vs us Q I r h;obtain⟨e,h⟩:=h;subst e;cases r;exact assignInOrder_nil ⟨σ,H,I,h⟩
theorem DC{e:Expr}{es:List Expr}{t:TG}{u:tB}(h1:PG X e t)(h2:pH X es u)
  (hs:(assignEach (e :: es) X.env).map (·.2)=assign e X.env :: (assignEach es X.env).map (·.2):=by rfl):pH X (e :: es) (Qm t u):=by
 intro pins s σ H vs us Q I r h;obtain⟨v,vr,e1,h⟩:=h;subst e1;cases r with
 |cons r rr=>
  rw[hs];refine assignInOrder_cons (bF (h1 pins s σ H _ _ _ I r h) λ_ s1 ⟨σ1,H1,I1,q1⟩=>?_);exact h2 pins s1 σ1 H1 _ _ Q I1 rr q1
noncomputable def Vy(K:PySem.W.Frag)(n:Nat)(t:tB):TG:=λv σ H Q=>∃a xs,v=.ref a/\dP K H a xs/\xs.length=n/\t xs σ H Q
theorem Lp{es:List Expr}{k:Nat}{t:tB}{n:Nat}(hc:X.calm=true)(h:pH X es t)
  (hn:(assignEach es X.env).length=n:=by rfl) (hst:(assignEach es X.env).findIdx? (·.1)=none:=by rfl):PG X (.Tuple es k pos) (Vy X.K n t):=by
 intro pins s σ H v u Q I r hw;obtain⟨a,xs,e1,hq,hl,hw⟩:=hw;subst e1;cases r;obtain⟨its,rv,ht,hz⟩:=I.tuple hq;refine assign_Tuple_tuple (I.ok.hd hc) ht (by simp[hn,<-hl,rv.length]) hst λh' hx=>?_;have I1:Inv X pins σ H { s with heap:=h' }:=I.kept (t':=s.toks) λb o e=>hx b o (Nat.ne_of_lt (Heap.lt_size e)) e;exact h pins _ σ H xs _ Q I1 (by simpa using rv) hw
noncomputable def Vz(te:TE)(g:TG):TS:=λD σ H=>te σ H λx H1=>g x σ H1 D.nx
theorem Be{i:Nat}{x:Str}{e:Expr}{te:TE}{pos':Pos}(hN:X.N.Nodup)(hi:X.N[i]?=some x)(hx:Loc X.env.scope x)(he:PE X e te)(hs:swapsWith e (some (.Name x pos')) pos.line X.env=pure false:=by rfl)(hf:X.fn x=true\/X.env.scope.names.lookup x=some .local:=by first|exact .inl rfl|exact .inr rfl|assumption) :
  PS X (.Assign [.Name x pos'] e pos) (Vz te (GG i)):=by
 intro pins s σ H D I h;refine wpAny_Assign_Name (bF (he pins s σ H _ I h) λv s1 ⟨y,H1,I1,r1,q1⟩=>?_) hs;exact vc I1 hN hi hx r1 (λs2 I2=>⟨_,H1,I2,q1⟩) hf
end
section
variable{X:Cx}{pos:Pos}
noncomputable def Lq(c:TT)(tb:TS):TS:=λD σ H=>∃W:Nat->St->Hp->Prop,(∃m,W m σ H)/\∀m σ H,W m σ H->
 c σ H λb H1=>if b=true then ∃N:St->Hp->Prop,(∀σ' H',N σ' H'->∃m',m'<m/\W m' σ' H')/\tb { D with nx:=N,ct:=N,bk:=D.nx } σ H1 else D.nx σ H1
theorem DE{c:Expr}{body:List Stmt}{tc:TT}{tb:TS}(hp:PassesOwn (model X.prog X.w) X.A X.env X.xe)(hc:PT X c tc)(hb:iI X body tb):PS X (.While c body [] pos) (Lq tc tb):=by
 intro pins s σ H D I h;obtain⟨W,⟨m0,w0⟩,turn⟩:=h;refine wpAny_While (codeAny_whileLoop (λn s'=>∃σ' H',Inv X pins σ' H' s'/\W n σ' H') ?_ m0 ⟨σ,H,I,w0⟩);rintro n s1 ⟨σ1,H1,I1,w1⟩;refine wpAny_passesOwn hp (bF (hc pins s1 σ1 H1 _ I1 (turn n σ1 H1 w1)) λb s2 ⟨H2,I2,q2⟩=>?_);cases b with
 |true=>
  obtain⟨N,hN,q2⟩:=q2;rw[if_pos rfl];refine wpAny_passesOwn hp (bF (hb pins s2 σ1 H2 _ I2 q2) λf s3 q3=>?_);cases f with
  |next=>
   obtain⟨σ3,H3,I3,n3⟩:=q3;obtain⟨m',hm,w3⟩:=hN σ3 H3 n3;exact⟨m',hm,σ3,H3,I3,w3⟩
  |cont=>
   obtain⟨σ3,H3,I3,n3⟩:=q3;obtain⟨m',hm,w3⟩:=hN σ3 H3 n3;exact⟨m',hm,σ3,H3,I3,w3⟩
  |brk=>exact q3
  |ret v=>exact q3
 |false=>
  rw[if_neg Bool.false_ne_true];exact wpAny_execs_nil ⟨σ1,H2,I2,q2⟩
end
structure It where
 go:Nat->Hp->Prop
 GH:Nat->Hp->V->Hp->Prop
 stop:Nat->Hp->Prop
noncomputable def iK(X:Cx)(pins:List (Addr×Obj))(H:Hp)(b:Addr):Prop:=
 H b=none/\b≠X.env.locals/\b∉X.fs/\(b∈X.ex\/X.s₀.heap.objs.size<=b)/\(∀x c,X.env.cells.lookup x=some c->c≠b)/\∀p∈X.pn++pins,p.1≠b
theorem Inv.DF{X:Cx}{pins:List (Addr×Obj)}{σ:St}{H H':Hp}{s:Shared}{b:Addr}(I:Inv X pins σ H s)(hb:s.heap.objs.size<=b)(hn:H' b=none):iK X pins H' b:=by
 refine⟨hn,Nat.ne_of_gt (Nat.lt_of_lt_of_le I.lt hb),I.Vp hb,.inr (Nat.le_trans I.sz hb),λx c e z=>?_,λp hp z=>?_⟩
 .obtain⟨v,q⟩:=I.cell x c e;exact absurd (Nat.lt_of_lt_of_le q.lt (by rw[z];exact hb)) (Nat.lt_irrefl _)
 .exact absurd (Nat.lt_of_lt_of_le (Heap.lt_size (I.pin p hp).1) (by rw[z];exact hb)) (Nat.lt_irrefl _)
structure Turn(P:Program)(w:World)(K:PySem.W.Frag)(tg:Expr)(J:It)(fp:List Addr)(it:Addr)(tn:Nat->Heap->Prop):Prop where
 mem:it∈fp
 obj:∀i h,tn i h->∀b∈fp,∃o,h.get? b=some o/\∀v,o.data≠.cell v
 keep:∀i h h',tn i h->(∀b∈fp,∀o,h.get? b=some o->h'.get? b=some o)->tn i h'
 item:∀(X:Cx),X.prog=P->X.w=w->X.K=K->X.calm=true->∀(i:Nat) (pins:List (Addr×Obj)) (s:Shared) (σ:St) (H:Hp) (E:Value->Shared->Prop),Inv X pins σ H s->(∀b∈fp,iK X pins H b)->tn i s.heap->J.go i H->
  wpAny (model P w) X.A (pyNext (.ref it)) (λr s1=>∃u,r=some u/\
   wpAny (model P w) X.A (letOwnedTupleGo tg (.ref it) u) (λ_ s2=>∃x H',Inv X pins σ H' s2/\RelV x u/\J.GH i H x H'/\tn (i+1) s2.heap/\∀b∈fp,H' b=none) E s1) E s
 done:∀(X:Cx),X.prog=P->X.w=w->X.K=K->X.calm=true->∀(i:Nat) (pins:List (Addr×Obj)) (s:Shared) (σ:St) (H:Hp) (E:Value->Shared->Prop),Inv X pins σ H s->(∀b∈fp,iK X pins H b)->tn i s.heap->J.stop i H->
  wpAny (model P w) X.A (pyNext (.ref it)) (λr s1=>r=none/\Inv X pins σ H s1) E s
 self:∀(A:Around) (i:Nat) (s:Shared) (Q:Value->Shared->Prop) (E:Value->Shared->Prop),tn i s.heap->Q (.ref it) s->wpAny (model P w) A (pyIter (.ref it)) Q E s
abbrev TI:=St->Hp->(It->Hp->Prop)->Prop
noncomputable def SW(X:Cx)(pins:List (Addr×Obj))(σ:St)(tg:Expr)(R:It->Hp->Prop)(itv:Value)(s2:Shared):Prop:=
 ∃(it:Addr) (fp:List Addr) (tn:Nat->Heap->Prop) (J:It) (H':Hp),itv=.ref it/\Inv X pins σ H' s2/\Turn X.prog X.w X.K tg J fp it tn/\tn 0 s2.heap/\(∀b∈fp,iK X pins H' b)/\R J H'
noncomputable def PI(X:Cx)(tg iter:Expr)(wi:TI):Prop:=
 ∀(pins:List (Addr×Obj)) (s:Shared) (σ:St) (H:Hp) (R:It->Hp->Prop),Inv X pins σ H s->wi σ H R->
  wpAny (model X.prog X.w) X.A (eval iter X.env) (λv s1=>wpAny (model X.prog X.w) X.A (pyIter v) (SW X pins σ tg R) X.xe s1) X.xe s
theorem zw{M:Model}{A:Around}{E:Value->Shared->Prop}{s:Shared}{tg:Expr}{it:Addr}{u:Value}{o:Obj}{n:String}{vs:Array Value}{Q:Unit->Shared->Prop}(ho:s.heap.get? it=some o)(hc:o.cls=.type n)(hd:o.data=.fields vs)
    (hn:["enumerate","zip","dict_itemiterator","dict_reverseitemiterator","odict_iterator","itertools.zip_longest","itertools.pairwise"].contains n=false) (hQ:Q () s):wpAny M A (letOwnedTupleGo tg (.ref it) u) Q E s:=by
  unfold letOwnedTupleGo;cases tg<;>first
    |exact wpAny_pure hQ
    | (cases u<;>first
        |exact wpAny_pure hQ
        | (refine wpAny_bind (wpAny_load ho ?_)
           rw[hc,hd];show wpAny M A (if (["enumerate","zip","dict_itemiterator","dict_reverseitemiterator","odict_iterator","itertools.zip_longest","itertools.pairwise"].contains n&&vs[0]?==some (rawInt _))=true then _ else _) Q E s;rw[if_neg (by intro h;rw[hn,Bool.false_and]at h;cases h)];exact wpAny_pure hQ))
noncomputable def SX(K:PySem.W.Frag)(a:Addr):It:=
 ⟨λi H=>∃xs x,fF K H a xs/\xs[i]?=some x,λi H x H'=>H'=H/\∀xs,fF K H a xs->xs[i]?=some x,λi H=>∃xs,fF K H a xs/\xs.length<=i⟩
noncomputable def SY(K:PySem.W.Frag)(a:Addr):It:=
 ⟨λi H=>∃xs x,dP K H a xs/\xs[i]?=some x,λi H x H'=>H'=H/\∀xs,dP K H a xs->xs[i]?=some x,λi H=>∃xs,dP K H a xs/\xs.length<=i⟩
noncomputable def GI(lo:Int)(n:Nat):It:=⟨λi _=>i<n,λi H x H'=>H'=H/\x=.int (lo+i),λi _=>n<=i⟩
theorem Bf{P:Program}{w:World}{K:PySem.W.Frag}{tg:Expr}(a it:Addr):Turn P w K tg (SX K a) [it] it (λi h=>h.IsListIter it a i) where
 mem:=by simp
 obj:=λi h st b hb=>by
  have e:b=it:=by simpa using hb
  subst e;obtain⟨o,e,c,d⟩:=st;exact⟨o,e,λv z=>by rw[d]at z;cases z⟩
 keep:=λi h h' st k=>st.at λo e=>k it (by simp) o e
 item:=by
  intro X hP hw hK hc i pins s σ H E I hf st hg;subst hP hw hK;obtain⟨xs,x,hq,hx⟩:=hg;obtain⟨its,rv,p,hz⟩:=I.list hq;obtain⟨u,hu,ru⟩:=rv.get hx;obtain⟨f0,f1,f2,f3,f4,f5⟩:=hf it (by simp);refine wpAny_pyNext_list_item st p.isList (x:=u) (by simpa using hu) λh' st' sb=>?_;have I1:Inv X pins σ H { s with heap:=h' }:=I.turned (t':=s.toks) (λb o hb e=>(sb.2 b hb).trans e) f0 f1 f3 f4 f5;obtain⟨o,e,c,d⟩:=id st';exact⟨u,rfl,zw (s:={ s with heap:=h' }) e c d (by decide) ⟨x,H,I1,ru,⟨rfl,λys hy=>by rw[I.Dy hy hq];exact hx⟩,st',λb hb=>(hf b hb).1⟩⟩
 done:=by
  intro X hP hw hK hc i pins s σ H E I hf st hg;subst hP hw hK;obtain⟨xs,hq,hx⟩:=hg;obtain⟨its,rv,p,hz⟩:=I.list hq;obtain⟨f0,f1,f2,f3,f4,f5⟩:=hf it (by simp);have hl:=rv.length;exact wpAny_pyNext_list_end (I.ok.hd hc) st p.isList (by simp;omega) λh' eb=>⟨rfl,I.turned (t':=s.toks) (λb o hb e=>eb b o hb e) f0 f1 f3 f4 f5⟩
 self:=λ_ _ _ _ _ st h=>wpAny_pyIter_listiter st h
theorem zx{P:Program}{w:World}{K:PySem.W.Frag}{tg:Expr}(a it:Addr):Turn P w K tg (SY K a) [it] it (λi h=>h.IsTupleIter it a i) where
 mem:=by simp
 obj:=λi h st b hb=>by
  have e:b=it:=by simpa using hb
  subst e;obtain⟨o,e,c,d⟩:=st;exact⟨o,e,λv z=>by rw[d]at z;cases z⟩
 keep:=λi h h' st k=>st.at λo e=>k it (by simp) o e
 item:=by
  intro X hP hw hK hc i pins s σ H E I hf st hg;subst hP hw hK;obtain⟨xs,x,hq,hx⟩:=hg;obtain⟨its,rv,p,hz⟩:=I.tuple hq;obtain⟨u,hu,ru⟩:=rv.get hx;obtain⟨f0,f1,f2,f3,f4,f5⟩:=hf it (by simp);refine wpAny_pyNext_tuple_item st (show s.heap.IsTuple a its.toArray from p) (x:=u) (by simpa using hu) λh' st' sb=>?_;have I1:Inv X pins σ H { s with heap:=h' }:=I.turned (t':=s.toks) (λb o hb e=>(sb.2 b hb).trans e) f0 f1 f3 f4 f5;obtain⟨o,e,c,d⟩:=id st';exact⟨u,rfl,zw (s:={ s with heap:=h' }) e c d (by decide) ⟨x,H,I1,ru,⟨rfl,λys hy=>by rw[I.nj hy hq];exact hx⟩,st',λb hb=>(hf b hb).1⟩⟩
 done:=by
  intro X hP hw hK hc i pins s σ H E I hf st hg;subst hP hw hK;obtain⟨xs,hq,hx⟩:=hg;obtain⟨its,rv,p,hz⟩:=I.tuple hq;obtain⟨f0,f1,f2,f3,f4,f5⟩:=hf it (by simp);have hl:=rv.length;exact wpAny_pyNext_tuple_end (I.ok.hd hc) st (show s.heap.IsTuple a its.toArray from p) (by simp;omega) λh' eb=>⟨rfl,I.turned (t':=s.toks) (λb o hb e=>eb b o hb e) f0 f1 f3 f4 f5⟩
 self:=λ_ _ _ _ _ st h=>wpAny_pyIter_tupleiter st h
theorem zy{P:Program}{w:World}{K:PySem.W.Frag}{tg:Expr}(it:Addr)(lo:Int)(n:Nat):Turn P w K tg (GI lo n) [it] it (λi h=>IsRangeIter h it (lo+(i:Nat)*1) ((n:Int) - (i:Nat)) 1) where
 mem:=by simp
 obj:=λi h st b hb=>by
  have e:b=it:=by simpa using hb
  subst e;exact⟨_,st,λv z=>by
   have z':Data.fields _=Data.cell v:=z;cases z'⟩
 keep:=λi h h' st k=>k it (by simp) _ st
 item:=by
  intro X hP hw hK hc i pins s σ H E I hf st hg;subst hP hw hK;obtain⟨f0,f1,f2,f3,f4,f5⟩:=hf it (by simp);have W:=Walks.range (prog:=X.prog) (w:=X.w) (I.ok.hd hc) it lo 1 n;refine W.item i s _ _ hg st λv h' tk hv st' kk=>?_;obtain⟨t,rfl⟩:=hv;have I1:Inv X pins σ H { s with heap:=h',toks:=tk }:=I.turned (λb o hb e=>kk b o (by simpa using hb) e) f0 f1 f3 f4 f5;refine⟨_,rfl,zw (s:={ s with heap:=h',toks:=tk }) (n:="range_iterator") st' rfl rfl (by decide) ⟨.int (lo+i),H,I1,⟨t,?_⟩,⟨rfl,rfl⟩,st',λb hb=>(hf b hb).1⟩⟩;rw[Int.mul_one]
 done:=by
  intro X hP hw hK hc i pins s σ H E I hf st hg;subst hP hw hK;obtain⟨f0,f1,f2,f3,f4,f5⟩:=hf it (by simp);exact wpAny_pyNext_range_end (I.ok.hd hc) st (by have:n<=i:=hg;omega) λh' eb=>⟨rfl,I.turned (t':=s.toks) (λb o hb e=>eb b o hb e) f0 f1 f3 f4 f5⟩
 self:=λ_ _ _ _ _ st h=>wpAny_pyIter_rangeiter st h
end L2
namespace L2
open PySem PySem.Spec PyProof.Rows
section
variable{X:Cx}{tg:Expr}
theorem DG{pins:List (Addr×Obj)}{σ:St}{H:Hp}{s:Shared}{R:It->Hp->Prop}{E:Value->Shared->Prop}{lo hi:Int}{t u v:Tok}{tk:Nat}(I:Inv X pins σ H s)(h1:-(2 ^ 62)<=lo)(h2:lo<2 ^ 62)(h3:-(2 ^ 62)<=hi)(h4:hi<2 ^ 62)
  (q:R (GI lo (hi - lo).toNat) H):wpAny (model X.prog X.w) X.A (pyIter (.ref s.heap.objs.size)) (SW X pins σ tg R) E { s with heap:=s.heap.push { cls:=.type "range",data:=.fields #[.int lo t,.int hi u,.int 1 v]},toks:=tk }:=by
 refine wpAny_pyIter_range (IsRange.new ..) (small_one h1 h2 h3 h4) ?_;have I1:Inv X pins σ H { s with heap:=s.heap.push { cls:=.type "range",data:=.fields #[.int lo t,.int hi u,.int 1 v]},toks:=tk }:=I.kept λb o e=>Heap.get?_push_of_some _ e;refine⟨(s.heap.push { cls:=.type "range",data:=.fields #[.int lo t,.int hi u,.int 1 v]}).objs.size,[(s.heap.push { cls:=.type "range",data:=.fields #[.int lo t,.int hi u,.int 1 v]}).objs.size],_,_,H,rfl,
  I1.kept (t':=tk) λb o e=>Heap.get?_push_of_some _ e,zy _ lo (hi - lo).toNat,?_,λb hb=>?_,q⟩
 .have e1:lo+((0:Nat):Int)*1=lo:=by simp
  have e2:(((hi - lo).toNat:Nat):Int) - ((0:Nat):Int)=Builtin.Range.rangeSize lo hi 1:=by rw[rangeSize_one];split<;>omega
  show IsRangeIter _ _ (lo+((0:Nat):Int)*1) ((((hi - lo).toNat:Nat):Int) - ((0:Nat):Int)) 1;rw[e1,e2];exact Heap.get?_push_size _ rfl
 .have e:b=(s.heap.push { cls:=.type "range",data:=.fields #[.int lo t,.int hi u,.int 1 v]}).objs.size:=by simpa using hb
  subst e;exact I1.DF (Nat.le_refl _) (I1.hok.fresh (Nat.le_refl _))
noncomputable def Qn(ta:TA):TI:=λσ H R=>ta σ H λvs H1=>∃j:Int,vs=[.int j]/\-(2 ^ 62)<=j/\j<2 ^ 62/\R (GI 0 j.toNat) H1
theorem Bg {a:Expr}{ta:TA}{p pos:Pos}(hg:Gl X "range") (hm:X.mg "range" = none) (ha:PA X [a] ta) (hs:starEach [a] X.env=[(false,eval a X.env)]:=by rfl):PI X tg (.Call (.Name "range" p) [a] [] pos) (Qn ta):=by
 intro pins s σ H R I h;refine Call_ (iJ I hg hm boot_range (PyProof.Rows.callWith_type1 (bF (ha pos pins s σ H _ I h) λus s1 ⟨vs,H1,I1,r1,q1⟩=>?_) hs rfl));obtain⟨j,e,q1,q2,q⟩:=q1;subst e;cases r1 with
 |cons r rr=>
  cases rr;obtain⟨t,rfl⟩:=r;exact call_range_1 (DG I1 (by omega) (by omega) q1 q2 (by simpa using q))
noncomputable def VA(wi:TI)(g:TG)(tb:TS):TS:=λD σ H=>wi σ H λJ H1=>∃W:Nat->Nat->St->Hp->Prop,(∃m,W 0 m σ H1)/\∀i m σ H,W i m σ H->
 (J.stop i H/\D.nx σ H)\/(J.go i H/\∃N:St->Hp->Prop,(∀σ' H',N σ' H'->∃m',m'<m/\W (i+1) m' σ' H')/\∀x H',J.GH i H x H'->g x σ H' λσ2 H2=>tb { D with nx:=N,ct:=N,bk:=D.nx } σ2 H2)
noncomputable def nq(fp:List Addr)(h:Heap):List (Addr×Obj):=fp.filterMap λb=>(h.get? b).map λo=>(b,o)
theorem jB{fp:List Addr}{h:Heap}{b:Addr}{o:Obj}(hb:b∈fp)(e:h.get? b=some o):(b,o)∈nq fp h:=List.mem_filterMap.mpr ⟨b,hb,by rw[e];rfl⟩
theorem Bh{fp:List Addr}{h:Heap}{p:Addr×Obj}(hp:p∈nq fp h):p.1∈fp/\h.get? p.1=some p.2:=by
 obtain⟨b,hb,e⟩:=List.mem_filterMap.mp hp;cases q:h.get? b with
 |none=>rw[q]at e;cases e
 |some o=>
  rw[q]at e;have e':(b,o)=p:=Option.some.inj e;subst e';exact⟨hb,q⟩
theorem Inv.pinned{pins:List (Addr×Obj)}{σ:St}{H:Hp}{s:Shared}{fp:List Addr}(I:Inv X pins σ H s)(hf:∀b∈fp,iK X pins H b)(ho:∀b∈fp,∃o,s.heap.get? b=some o/\∀v,o.data≠.cell v):Inv X (pins++nq fp s.heap) σ H s:=
 I.yd λp hp=>(List.mem_append.mp hp).elim (λz=>I.pin p (List.mem_append_right _ z)) λz=>by
  obtain⟨hb,e⟩:=Bh z;obtain⟨f0,f1,f2,_⟩:=hf p.1 hb;obtain⟨o,e',d⟩:=ho p.1 hb;rw[e]at e';cases e';exact⟨e,f0,f1,f2,d⟩
theorem Inv.mw{pins pl:List (Addr×Obj)}{σ:St}{H:Hp}{s:Shared}(I:Inv X (pins++pl) σ H s):Inv X pins σ H s:=I.yd λp hp=>I.pin p (List.mem_append_right _ (List.mem_append_left _ hp))
theorem Lr{iter:Expr}{body:List Stmt}{wi:TI}{g:TG}{tb:TS}{pos:Pos}(hp:PassesOwn (model X.prog X.w) X.A X.env X.xe)(hc:X.calm=true)(hi:PI X tg iter wi)(hg:PG X tg g)(hb:iI X body tb)
  (hs:∀x,foldedSetIterable iter X.env x=pure x:=by intro _;rfl):PS X (.For tg iter body [] pos) (VA wi g tb):=by
 intro pins s σ H D I h;refine wpAny_For (bF (hi pins s σ H _ I h) λv s1 h1=>bF h1 λitv s2 h2=>?_) hs;obtain⟨it,fp,tn,J,H2,e,I2,T,st2,f2,W,⟨m0,w0⟩,turn⟩:=h2;subst e;have mz:∀{H':Hp},(∀b∈fp,H' b=none)->∀b∈fp,iK X pins H' b:=λhn b hb=>⟨hn b hb,(f2 b hb).2⟩
 refine codeAny_forLoop_any (λn s'=>∃i σ' H',Inv X pins σ' H' s'/\tn i s'.heap/\(∀b∈fp,H' b=none)/\W i n σ' H') ?_ m0 ⟨0,σ,H2,I2,st2,λb hb=>(f2 b hb).1,w0⟩;rintro n s3 ⟨i,σ3,H3,I3,st3,bI,w3⟩;rcases turn i n σ3 H3 w3 with ⟨stop,qn⟩|⟨go,N,hN,step⟩
 .refine wpAny_passesOwn hp (bF (T.done X rfl rfl rfl hc i pins s3 σ3 H3 X.xe I3 (mz bI) st3 stop) λr s4 ⟨hr,I4⟩=>?_);subst hr;exact wpAny_execs_nil ⟨σ3,H3,I4,qn⟩
 .refine wpAny_passesOwn hp (bF (T.item X rfl rfl rfl hc i pins s3 σ3 H3 X.xe I3 (mz bI) st3 go) λr s4 ⟨u,hr,h4⟩=>?_);subst hr;refine wpAny_passesOwn hp (bF h4 λ_ s5 ⟨x,H5,I5,r5,y5,yh,nu⟩=>?_);have Xi:=I5.pinned (mz nu) (T.obj _ _ yh);refine wpAny_passesOwn hp (bF (hg _ s5 σ3 H5 x u _ Xi r5 (step x H5 y5)) λ_ s6 ⟨Xj,H6,I6,q6⟩=>?_);refine wpAny_passesOwn hp (bF (hb _ s6 Xj H6 _ I6 q6) λf s7 q7=>?_);have again:∀{nv:St} {H7:Hp},Inv X (pins++nq fp s5.heap) nv H7 s7->N nv H7->∃m,m<n/\∃i σ' H',Inv X pins σ' H' s7/\tn i s7.heap/\(∀b∈fp,H' b=none)/\W i m σ' H':=λ{nv H7} I7 n7=>by
   obtain⟨m',hm,w7⟩:=hN nv H7 n7;refine⟨m',hm,i+1,nv,H7,I7.mw,T.keep _ _ _ yh λb hb o e=>(I7.pin (b,o) (List.mem_append_right _ (List.mem_append_right _ (jB hb e)))).1,λb hb=>?_,w7⟩;obtain⟨o,e,d⟩:=T.obj _ _ yh b hb;exact(I7.pin (b,o) (List.mem_append_right _ (List.mem_append_right _ (jB hb e)))).2.1
  cases f with
  |next=>obtain⟨nv,H7,I7,n7⟩:=q7;exact again I7 n7
  |cont=>obtain⟨nv,H7,I7,n7⟩:=q7;exact again I7 n7
  |brk=>obtain⟨nv,H7,I7,q7⟩:=q7;exact⟨nv,H7,I7.mw,q7⟩
  |ret v=>obtain⟨x7,nv,H7,I7,r7,q7⟩:=q7;exact⟨x7,nv,H7,I7.mw,r7,q7⟩
end
end L2
namespace L2
open PySem PySem.Spec PyProof.Rows
abbrev R2:=V->V->Hp->VK->Prop
noncomputable def dG(X:Cx)(f:Value->Value->Sem Value)(r:R2):Prop:=
 ∀(pins:List (Addr×Obj)) (s:Shared) (σ:St) (H:Hp) (x y:V) (v u:Value) (Q:VK),Inv X pins σ H s->RelV x v->RelV y u->r x y H Q->
  wpAny (model X.prog X.w) X.A (f v u) (EP X pins σ Q) X.xe s
noncomputable def Ls(X:Cx)(f:Value->Sem Value)(r:V->Hp->VK->Prop):Prop:=
 ∀(pins:List (Addr×Obj)) (s:Shared) (σ:St) (H:Hp) (x:V) (v:Value) (Q:VK),Inv X pins σ H s->RelV x v->r x H Q->
  wpAny (model X.prog X.w) X.A (f v) (EP X pins σ Q) X.xe s
noncomputable def fR(X:Cx)(f:Value)(r:List V->Hp->VK->Prop):Prop:=
 ∀(pins:List (Addr×Obj)) (s:Shared) (σ:St) (H:Hp) (xs:List V) (us:List Value) (Q:VK),Inv X pins σ H s->Vals xs us->r xs H Q->
  wpAny (model X.prog X.w) X.A (call f us) (EP X pins σ Q) X.xe s
noncomputable def VB(X:Cx)(r:V->Hp->(Bool->Hp->Prop)->Prop):Prop:=
 ∀(pins:List (Addr×Obj)) (s:Shared) (σ:St) (H:Hp) (x:V) (v:Value) (Q:Bool->Hp->Prop),Inv X pins σ H s->RelV x v->r x H Q->
  wpAny (model X.prog X.w) X.A (truthy v) (TP X pins σ Q) X.xe s
noncomputable def Bj(r:R2)(ta tb:TE):TE:=λσ H Q=>ta σ H λx H1=>tb σ H1 λy H2=>r x y H2 Q
noncomputable def Xk(r:V->Hp->VK->Prop)(ta:TE):TE:=λσ H Q=>ta σ H λx H1=>r x H1 Q
noncomputable def rI(C:Int->Int->Prop)(g:Int->Int->V):R2:=λx y H Q=>∃i j,x=.int i/\y=.int j/\C i j/\Q (g i j) H
noncomputable def vd(g:Int->Int->V):R2:=λx y H Q=>∃i j,x=.int i/\y=.int j/\Q (g i j) H
noncomputable def rU(g:Int->V):V->Hp->VK->Prop:=λx H Q=>∃i,x=.int i/\Q (g i) H
section
variable{X:Cx}{a b c:Expr}{ta tb tc:TE}{pos:Pos}
theorem DH(ha:PE X a ta)(hb:PE X b tb){pins:List (Addr×Obj)}{s:Shared}{σ:St}{H:Hp}{R:V->V->Hp->Prop}(I:Inv X pins σ H s)
  (h:ta σ H λx H1=>tb σ H1 λy H2=>R x y H2) {Q:Value->Shared->Prop} {f:Value->Value->Sem Value}
  (hf:∀v u s2 x y H2,Inv X pins σ H2 s2->RelV x v->RelV y u->R x y H2->wpAny (model X.prog X.w) X.A (f v u) Q X.xe s2) :
  wpAny (model X.prog X.w) X.A (eval a X.env) (λv s₁=>wpAny (model X.prog X.w) X.A (eval b X.env) (λu s₂=>wpAny (model X.prog X.w) X.A (f v u) Q X.xe s₂) X.xe s₁) X.xe s:=by
 refine bF (ha pins s σ H _ I h) λv s1 ⟨x,H1,I1,r1,q1⟩=>?_;refine bF (hb pins s1 σ H1 _ I1 q1) λu s2 ⟨y,H2,I2,r2,q2⟩=>?_;exact hf v u s2 x y H2 I2 r1 r2 q2
theorem Qo{op:Operator}{r:R2}(ho:dG X (binaryOp op) r)(ha:PE X a ta)(hb:PE X b tb):PE X (.BinOp a op b pos) (Bj r ta tb):=by
 intro pins s σ H Q I h;exact wpAny_BinOp (DH ha hb I h λv u s2 x y H2 I2 rx ry q=>ho pins s2 σ H2 x y v u Q I2 rx ry q)
theorem Qp{op:UnaryOp}{r:V->Hp->VK->Prop}(ho:Ls X (unaryOp op) r)(ha:PE X a ta):PE X (.UnaryOp op a pos) (Xk r ta):=by
 intro pins s σ H Q I h;exact UnaryOp_ (bF (ha pins s σ H _ I h) λv s1 ⟨x,H1,I1,r1,q1⟩=>ho pins s1 σ H1 x v Q I1 r1 q1)
theorem Lu{f:Value->Value->Sem Value}{C:Int->Int->Prop}{g:Int->Int->Int}
  (rule:∀(i j:Int) (t u:Tok) (s:Shared) (Q:Value->Shared->Prop) (E:Value->Shared->Prop),C i j->Q (.int (g i j) s.toks) { s with toks:=s.toks+1 }->wpAny (model X.prog X.w) X.A (f (.int i t) (.int j u)) Q E s) :
  dG X f (rI C λi j=>.int (g i j)):=by
 intro pins s σ H x y v u Q I rx ry h;obtain⟨i,j,rfl,rfl,hc,q⟩:=h;obtain⟨t,rfl⟩:=rx;obtain⟨t',rfl⟩:=ry;exact rule i j t t' s _ _ hc ⟨.int (g i j),H,I.tok _,⟨_,rfl⟩,q⟩
theorem Lv{f:Value->Value->Sem Value}{g:Int->Int->Int}
  (rule:∀(i j:Int) (t u:Tok) (s:Shared) (Q:Value->Shared->Prop) (E:Value->Shared->Prop),Q (.int (g i j) s.toks) { s with toks:=s.toks+1 }->wpAny (model X.prog X.w) X.A (f (.int i t) (.int j u)) Q E s) :
  dG X f (vd λi j=>.int (g i j)):=by
 intro pins s σ H x y v u Q I rx ry h;obtain⟨i,j,rfl,rfl,q⟩:=h;obtain⟨t,rfl⟩:=rx;obtain⟨t',rfl⟩:=ry;exact rule i j t t' s _ _ ⟨.int (g i j),H,I.tok _,⟨_,rfl⟩,q⟩
theorem Lx{f:Value->Value->Sem Value}{g:Int->Int->Bool}
  (rule:∀(i j:Int) (t u:Tok) (s:Shared) (Q:Value->Shared->Prop) (E:Value->Shared->Prop),Q (.bool (g i j)) s->wpAny (model X.prog X.w) X.A (f (.int i t) (.int j u)) Q E s) :
  dG X f (vd λi j=>.bl (g i j)):=by
 intro pins s σ H x y v u Q I rx ry h;obtain⟨i,j,rfl,rfl,q⟩:=h;obtain⟨t,rfl⟩:=rx;obtain⟨t',rfl⟩:=ry;exact rule i j t t' s _ _ ⟨.bl (g i j),H,I,rfl,q⟩
noncomputable def VC(i j:Int):Prop:=0<j/\j<1073741824
noncomputable def DI(i j:Int):Prop:=(-(2 ^ 64)<i/\i<2 ^ 64)\/(-(2 ^ 64)<j/\j<2 ^ 64)
theorem DI.ok{i j:Int}(h:DI i j):IntMulOk i j:=by
 rcases h with ⟨h1,h2⟩|⟨h1,h2⟩
 .exact .of_left (intBits_le_64 h1 h2)
 .exact .of_right (intBits_le_64 h1 h2)
theorem Ly:dG X (binaryOp .Add) (vd λi j=>.int (i+j)):=Lv λ_ _ _ _ _ _ _ q=>add_int q
theorem Lz:dG X (binaryOp .Sub) (vd λi j=>.int (i - j)):=Lv λ_ _ _ _ _ _ _ q=>sub_int q
theorem LA:dG X (binaryOp .Mult) (rI DI λi j=>.int (i*j)):=Lu λ_ _ _ _ _ _ _ hc q=>mul_int q hc.ok
theorem Ip:dG X (binaryOp .FloorDiv) (rI VC λi j=>.int (i / j)):=Lu λi j _ _ _ _ _ hc q=>by
 have h1:(0:Int)<j:=hc.1;have h2:j<1073741824:=hc.2;exact floordiv_int (by omega) (by rw[Int.fdiv_eq_ediv_of_nonneg i (by omega)];exact q) (.inl (PyProof.noPylong_small (by omega)))
theorem LB:dG X (binaryOp .Mod) (rI (λ_ j=>0<j) λi j=>.int (i % j)):=Lu λi j _ _ _ _ _ hc q=>by
 have h1:(0:Int)<j:=hc;exact mod_int' (by omega) (by rw[Int.fmod_eq_emod_of_nonneg i (by omega)];exact q)
theorem Xl{f:Value->Sem Value}{g:Int->Int}
  (rule:∀(i:Int) (t:Tok) (s:Shared) (Q:Value->Shared->Prop) (E:Value->Shared->Prop),Q (.int (g i) s.toks) { s with toks:=s.toks+1 }->wpAny (model X.prog X.w) X.A (f (.int i t)) Q E s) :
  Ls X f (rU λi=>.int (g i)):=by
 intro pins s σ H x v Q I rx h;obtain⟨i,rfl,q⟩:=h;obtain⟨t,rfl⟩:=rx;exact rule i t s _ _ ⟨.int (g i),H,I.tok _,⟨_,rfl⟩,q⟩
theorem LC:Ls X (unaryOp .USub) (rU λi=>.int (-i)):=Xl λ_ _ _ _ _ q=>neg_int q
end
section
variable{X:Cx}{a b c:Expr}{ta tb tc:TE}{pos:Pos}
theorem Bk{pins:List (Addr×Obj)}{σ:St}{H:Hp}{s:Shared}{Q:VK}{k k':Bool}(I:Inv X pins σ H s)(q:Q (.bl k) H)(e:k=k'):EP X pins σ Q (.bool k') s:=by
 subst e;exact⟨.bl k,H,I,rfl,q⟩
theorem Qq:dG X (compareOp .Lt) (vd λi j=>.bl (decide (i<j))):=Lx λ_ _ _ _ _ _ _ q=>lt_int q
theorem Qs:dG X (compareOp .Gt) (vd λi j=>.bl (decide (j<i))):=Lx λ_ _ _ _ _ _ _ q=>gt_int q
theorem LD:dG X (compareOp .Is) (λx y H Q=>y=.aS/\Q (.bl (decide (x=.aS))) H):=by
 intro pins s σ H x y v u Q I rx ry h;obtain⟨rfl,q⟩:=h;cases ry;refine is_none_gen (Bk I q ?_);cases x<;>first
  | (cases rx;rfl)
  | (obtain⟨t,rfl⟩:=rx;rfl)
theorem Iq:dG X (compareOp .IsNot) (λx y H Q=>y=.aS/\Q (.bl (!decide (x=.aS))) H):=by
 intro pins s σ H x y v u Q I rx ry h;obtain⟨rfl,q⟩:=h;cases ry;refine isnot_none_gen (Bk I q ?_);cases x<;>first
  | (cases rx;rfl)
  | (obtain⟨t,rfl⟩:=rx;rfl)
theorem jk(b:Expr){op:CmpOp}(h:op≠.In:=by decide)(h2:op≠.NotIn:=by decide):behindInMarks op b=false:=by
 have e1:(op==CmpOp.In)=false:=by cases op<;>first|rfl|exact absurd rfl h
 have e2:(op==CmpOp.NotIn)=false:=by cases op<;>first|rfl|exact absurd rfl h2
 cases b<;>simp[behindInMarks,e1,e2]
theorem Ir{op:CmpOp}{r:R2}(ho:dG X (compareOp op) r)(ha:PE X a ta)(hb:PE X b tb)(hm:behindInMarks op b=false):PE X (.Compare a [op] [b] pos) (Bj r ta tb):=by
 intro pins s σ H Q I h;exact wpAny_Compare1 (DH ha hb I h λv u s2 x y H2 I2 rx ry q=>ho pins s2 σ H2 x y v u Q I2 rx ry q) hm
noncomputable def Qt(t:TE):TT:=λσ H Q=>t σ H λx H'=>∃k,x=.bl k/\Q k H'
theorem Iu{op:CmpOp}{r:R2}(ho:dG X (compareOp op) r)(ha:PE X a ta)(hb:PE X b tb)(hm:behindInMarks op b=false):PT X (.Compare a [op] [b] pos) (Qt (Bj r ta tb)):=by
 intro pins s σ H Q I h;refine wpAny_isTrue_Compare1 (bF (ha pins s σ H _ I h) λv s1 ⟨x,H1,I1,r1,q1⟩=>bF (hb pins s1 σ H1 _ I1 q1) λu s2 ⟨y,H2,I2,r2,q2⟩=>
  bF (ho pins s2 σ H2 x y v u _ I2 r1 r2 q2) λc s3 ⟨z,H3,I3,r3,k,e,q3⟩=>?_) hm
 subst e;cases r3;exact wpAny_truthy_bool ⟨H3,I3,q3⟩
noncomputable def DJ(K:PySem.W.Frag)(x:V)(H:Hp)(k:Bool):Prop:=
 match x with
 |.aS=>k=false
 |.bl b=>k=b
 |.int i=>k=(i != 0)
 |.str y=>y.length<=sizeLine/\k=((y.length:Int) != 0)
 |.A6 y=>y.size<=sizeLine/\k=((y.size:Int) != 0)
 |.ref p=>(∃xs,fF K H p xs/\k = !xs.isEmpty)\/(∃xs,dP K H p xs/\k = !xs.isEmpty)\/∃kvs,H p=some (.dK kvs)/\k = !kvs.isEmpty
 |_=>False
theorem zz{κ:Type}{kvs:List (κ×V)}{vs:List (κ×Value)}(r:KV kvs vs):(!vs.isEmpty) = !kvs.isEmpty:=by
 cases r<;>rfl
theorem qq{xs:List V}{its:List Value}(r:Vals xs its):(!its.toArray.isEmpty) = !xs.isEmpty:=by
 cases r<;>simp
theorem kW:(sizeLine:Nat)<2 ^ 63:=by rw[sizeLine_eq];decide
theorem LF:VB X (λx H Q=>∃k,DJ X.K x H k/\Q k H):=by
 intro pins s σ H x v Q I rx h;obtain⟨k,e,q⟩:=h;have hl:=kW;have hs:sizeLine=16777216:=sizeLine_eq;cases x with
 |aS=>
  cases rx;have e':k=false:=e;subst e';exact truthy_none ⟨H,I,q⟩
 |bl b=>
  cases rx;have e':k=b:=e;subst e';exact wpAny_truthy_bool ⟨H,I,q⟩
 |int i=>
  obtain⟨t,rfl⟩:=rx;have e':k=(i != 0):=e;subst e';exact PySem.P.truthy_int ⟨H,I,q⟩
 |str y=>
  obtain⟨t,rfl⟩:=rx;obtain⟨hy,e'⟩:y.length<=sizeLine/\k=((y.length:Int) != 0):=e;subst e';exact PySem.P.truthy_str (by omega) ⟨H,I.tok _,q⟩
 |A6 y=>
  obtain⟨t,rfl⟩:=rx;obtain⟨hy,e'⟩:y.size<=sizeLine/\k=((y.size:Int) != 0):=e;subst e';exact PySem.W.truthy_bytes (by omega) ⟨H,I.tok _,q⟩
 |ref p=>
  cases rx;have e':(∃xs,fF X.K H p xs/\k = !xs.isEmpty)\/(∃xs,dP X.K H p xs/\k = !xs.isEmpty)\/∃kvs,H p=some (.dK kvs)/\k = !kvs.isEmpty:=e;rcases e' with ⟨xs,hx,e'⟩|⟨xs,hx,e'⟩|⟨kvs,hx,e'⟩
  .subst e';obtain⟨its,r,pl,hz⟩:=I.list hx;have hlen:=r.length;exact wpAny_truthy_list pl.isList (by simp only[List.size_toArray];omega) ⟨H,I.tok _,by rw[qq r];exact q⟩
  .subst e';obtain⟨its,r,pl,hz⟩:=I.tuple hx;have hlen:=r.length;exact truthy_tuple pl (by simp only[List.size_toArray];omega) ⟨H,I.tok _,by rw[qq r];exact q⟩
  .subst e';obtain⟨hz,hS,vs,r,m⟩:kvs.length<=sizeLine/\(p==sysModules)=false/\∃vs,KV kvs vs/\s.heap.DictOf (cG X.prog X.w) p vs:=I.hok p _ hx;have hlen:kvs.length=vs.length:=Paired.length r;exact wpAny_truthy_dict hS m (by omega) ⟨H,I.tok _,by rw[zz r];exact q⟩
 |_=>exact(show False from e).elim
theorem DK(ha:PE X a ta)(he:∀whole,isTrue a X.env whole=(do let v <-whole;standAt a.pos;holding [v] (truthy v))) :
  PT X a (λσ H Q=>ta σ H λx H'=>∃k,DJ X.K x H' k/\Q k H'):=by
 intro pins s σ H Q I h;exact isTrue_plain (bF (ha pins s σ H _ I h) λv s1 ⟨x,H1,I1,r1,q1⟩=>LF pins s1 σ H1 x v Q I1 r1 q1) (he _)
theorem zA:dG X (binaryOp .Add) (λx y H Q=>∃i j,x=.str i/\y=.str j/\i.length+j.length<=sizeLine/\Q (.str (i++j)) H):=by
 intro pins s σ H x y v u Q I rx ry h;obtain⟨i,j,rfl,rfl,hz,q⟩:=h;obtain⟨t,rfl⟩:=rx;obtain⟨t',rfl⟩:=ry;exact add_str (λt' tk=>⟨.str (i++j),H,I.tok _,⟨_,rfl⟩,q⟩) hz
theorem vals1{x:V}{us:List Value}(r:Vals [x] us):∃u,us=[u]/\RelV x u:=by
 cases r with
 |cons r1 r2=>cases r2;exact⟨_,rfl,r1⟩
theorem vals2{x y:V}{us:List Value}(r:Vals [x,y] us):∃u w',us=[u,w']/\RelV x u/\RelV y w':=by
 cases r with
 |cons r1 r2=>
  cases r2 with
  |cons r3 r4=>cases r4;exact⟨_,_,rfl,r1,r3⟩
theorem Bm (hc:X.calm=true):fR X (.builtin "min") (λxs H Q=>∃i j,xs=[.int i,.int j]/\Q (.int (if j<i then j else i)) H):=by
 intro pins s σ H xs us Q I r h;obtain⟨i,j,rfl,q⟩:=h;obtain⟨u,w',rfl,⟨t,rfl⟩,⟨t',rfl⟩⟩:=vals2 r;refine min_two_ints (I.ok.hd hc) λh' tk k=>⟨_,H,I.kept k,?_,q⟩
 by_cases hj:j<i
 .rw[if_pos hj,if_pos hj];exact⟨_,rfl⟩
 .rw[if_neg hj,if_neg hj];exact⟨_,rfl⟩
end
end L2
namespace L2
open PySem PySem.Spec PyProof.Rows
structure YQ(h:Heap)(x dx C:Addr)(mA:Str->Option Value):Prop where
 obj:h.get? x=some (PySem.W.instObj C dx)
 ns:h.Ns1 dx mA
 ne:dx≠x
section
variable{prog:Program}{w:World}{A:Around}{E:Value->Shared->Prop}{s:Shared}{K:PySem.W.Frag}{x dx C f:Addr}{mA:Str->Option Value}{name:Str}{v:Value}
end
theorem jt.some_of{v:V}{o:Option Value}(r:jt (some v) o):∃u,o=some u/\RelV v u:=by
 cases o with
 |none=>exact(show False from r).elim
 |some u=>exact⟨u,rfl,r⟩
section
variable{P:Program}{w:World}{H H':Hp}{h h':Heap}{a C dx:Addr}{fs fs':List (Str×V)}
end
structure Xm(K:PySem.W.Frag)(C:Addr):Prop where
 pg:PySem.W.plainGet K C Str.empty=true
 hd:PySem.W.hasDictIn K C=true
 po:PySem.W.plainOver K C=true
 sa:PySem.W.findIn K (.ref C) "__setattr__" = some (some (.builtin "object.__setattr__"))
structure YS(K:PySem.W.Frag)(C:Addr)(f:Str)(v:V)(u:Value):Prop where
 at_:PySem.W.findIn K (.ref C) f=some (some u)
 rel:RelV v u
 get:PySem.W.specialIn K u "__get__" = some none
 cp:PySem.W.copiedNames.contains f=false
structure Meth(K:PySem.W.Frag)(C:Addr)(m:Str)(f:Addr):Prop where
 at_:PySem.W.findIn K (.ref C) m=some (some (.ref f))
 fn:PySem.W.isFn K (.ref f)=true
 kp:PySem.W.keepIn K (.ref f)=true
section
variable{X:Cx}{pins:List (Addr×Obj)}{σ:St}{H:Hp}{s:Shared}{a C dx:Addr}{fs:List (Str×V)}{f:Str}{v:V}{A:Around}{E:Value->Shared->Prop}
end
section
variable{X:Cx}{o e value:Expr}{f:Str}{pos pos' tpos:Pos}{ta tv:TE}
end
section
variable{X:Cx}{pins:List (Addr×Obj)}{σ:St}{H:Hp}{s:Shared}{A:Around}{E:Value->Shared->Prop}{Q:Value->Shared->Prop}{c:Value}{b:Bool}
inductive jP(K:PySem.W.Frag)(H:Hp):V->Value->Prop where
 |aS:jP K H .aS (.type "NoneType")
 |bl (x:Bool):jP K H (.bl x) (.type "bool")
 |int (i:Int):jP K H (.int i) (.type "int")
 |str (x:Str):jP K H (.str x) (.type "str")
 |A7 (x:UInt64):jP K H (.A7 x) (.type "float")
 |lst {a:Addr} {xs:List V} (e:H a=some (.lst xs)):jP K H (.ref a) (.type "list")
 |bP {a:Addr} {o:Obj} {xs:List V} (e:H a=some (.bP o (.lst xs))):jP K H (.ref a) (.type "list")
 |tup {a:Addr} {xs:List V} (e:H a=some (.tup xs)):jP K H (.ref a) (.type "tuple")
 |dK {a:Addr} {kvs:List (Key×V)} (e:H a=some (.dK kvs)):jP K H (.ref a) (.type "dict")
 |dT {a:Addr} {kvs:List (List Key×V)} (e:H a=some (.dT kvs)):jP K H (.ref a) (.type "dict")
 |ins {a C dx:Addr} {fs:List (Str×V)} (e:H a=some (.ins C dx fs)) (cl:Xm K C) (ha:PySem.W.findIn K (.ref C) "__class__" = some (some (.builtin "object.__class__")))
   (hn:PySem.W.specialIn K (.builtin "object.__class__") "__get__" = some (some (.builtin "getset_descriptor.__get__"))) (htk:PySem.W.takesIn K (.builtin "object.__class__")=some true)
   (hm:PySem.W.mroIn K C (.type "object")=some true):jP K H (.ref a) (.ref C)
end
end L2
namespace L2
open PySem PySem.Spec PyProof.Rows
structure gi(k:Nat)(A:Around):Prop where
 hd:A.handled=none
 dp:A.depth+3*k+5<recursionLimit
 un:A.units+16*k+200<cLine
theorem gi.deeper{k:Nat}{A:Around}(r:gi (k+1) A)(env:Env):gi k (A.deeper env):=
 ⟨r.hd,by have:=r.dp;show A.depth+1+3*k+5<_;omega,by have:=r.un;show A.units+3+16*k+200<_;omega⟩
theorem gi.depth{k:Nat}{A:Around}(r:gi k A):A.depth<recursionLimit:=by have:=r.dp;omega
theorem gi.units{k:Nat}{A:Around}(r:gi k A):A.units+64<cLine:=by have:=r.un;omega
noncomputable def VD:TA:=λ_ H Q=>Q [] H
noncomputable def Qu(ta:TE)(tr:TA):TA:=λσ H Q=>ta σ H λx H1=>tr σ H1 λxs H2=>Q (x :: xs) H2
section
variable{X:Cx}{e:Expr}{es:List Expr}{te:TE}{t:TA}{pos:Pos}
theorem ny:PA X [] VD:=λ_ _ _ _ H Q I h=>Calls.spliced_nil ⟨[],H,I,.nil,h⟩
theorem kX(ha:PE X e te)(hr:PA X es t)(hs:starEach (e :: es) X.env=(false,eval e X.env) :: starEach es X.env:=by rfl):PA X (e :: es) (Qu te t):=by
 intro pos pins s σ H Q I h;rw[hs];show wpAny _ _ (spliced ((false,eval e X.env) :: backTo pos (starEach es X.env))) _ _ s;refine Calls.spliced_cons (bF (ha pins s σ H _ I h) λu s1 ⟨x,H1,I1,r1,q1⟩=>?_);exact bF (hr pos pins s1 σ H1 _ I1 q1) λus s2 ⟨xs,H2,I2,r2,q2⟩=>⟨x :: xs,H2,I2,.cons r1 r2,q2⟩
noncomputable def VE(t:TA):TE:=λσ H Q=>t σ H λxs H1=>xs.length<=sizeLine/\∀p,H1 p=none->Q (.ref p) (upd H1 p (.tup xs))
noncomputable def VF(t:TA):TE:=λσ H Q=>t σ H λxs H1=>xs.length<=sizeLine/\∀p,H1 p=none->Q (.ref p) (upd H1 p (.lst xs))
theorem LG{x1}(h:PA X es t):PE X (.Tuple es x1 pos) (VE t):=by
 intro pins s σ H Q I hq;refine wpAny_Tuple_spliced (bF (h pos pins s σ H _ I hq) λus s1 ⟨xs,H1,I1,r,z,q⟩=>⟨by rw[<-r.length];exact z,?_⟩);have hf:H1 s1.heap.objs.size=none:=I1.hok.fresh (Nat.le_refl _);refine⟨.ref s1.heap.objs.size,upd H1 s1.heap.objs.size (.tup xs),I1.laid (t':=s1.toks) (λb u e=>Heap.get?_push_of_some _ e) (Nat.le_refl _) ?_,rfl,q _ hf⟩;exact⟨z,us,r,⟨_,Heap.get?_push_size _ rfl,rfl,_,rfl⟩⟩
theorem LH(h:PA X es t):PE X (.List es pos) (VF t):=by
 intro pins s σ H Q I hq;refine wpAny_List_spliced (bF (h pos pins s σ H _ I hq) λus s1 ⟨xs,H1,I1,r,z,q⟩=>⟨by rw[<-r.length];exact z,?_⟩);have hf:H1 s1.heap.objs.size=none:=I1.hok.fresh (Nat.le_refl _);refine⟨.ref s1.heap.objs.size,upd H1 s1.heap.objs.size (.lst xs),I1.laid (t':=s1.toks) (λb u e=>Heap.get?_push_of_some _ e) (Nat.le_refl _) ?_,rfl,q _ hf⟩;exact⟨z,us,0,r,Heap.get?_push_size _ rfl⟩
end
abbrev Sp:=List V->Hp->VK->XK->Prop
abbrev m6:=List Env->Hp->Shared->XK->Value->Shared->Prop
structure zB(P:Program)(w:World)(K:PySem.W.Frag)(mg:Str->Option Value)(base:Heap)(A:Around)(outer:List Env)(s:Shared)(H:Hp):Prop where
 frames:A.frames=some outer
 mod:Mod K mg base
 bs:∀b o,base.get? b=some o->s.heap.get? b=some o/\H b=none
 sY:base.objs.size<=s.heap.objs.size
 ju:s.heap.FunFrames base outer
 u0:∀b∈frs outer,H b=none
 hok:eV P w H s.heap
 bare:AllBare s.gens
noncomputable def CE(outer:List Env)(P:Program)(w:World)(H:Hp)(s:Shared)(Q:VK)(u:Value)(s':Shared):Prop:=
 ∃v H',s'.os=s.os/\AllBare s'.gens/\Un (frs outer) [] H H' s.heap s'.heap/\eV P w H' s'.heap/\RelV v u/\Q v H'
noncomputable def CR(CX:m6)(outer:List Env)(P:Program)(w:World)(H:Hp)(s:Shared)(Q:VK)(E:XK)(r:Result)(s':Shared):Prop:=
 match r with
 |.ok (.ret u)=>CE outer P w H s Q u s'
 |.ok _=>False
 |.error e=>CX outer H s E e s'
structure iZ(P:Program)(w:World)(K:PySem.W.Frag)(mg:Str->Option Value)(base:Heap)(CX:m6)(k:Nat)(f:Addr)(fd:FuncData)(ps:List Str)(sp:Sp):Prop where
 len:∀vs H Q E,sp vs H Q E->vs.length=ps.length
 run:∀(A:Around) (outer:List Env) (s:Shared) (H:Hp) (args:Args) (us:List Value) (vs:List V) (Q:VK) (E:XK),gi k A->zB P w K mg base A outer s H->BindsTo s fd args (ps.zip us)->Vals vs us->sp vs H Q E->
  codeAny (model P w) A (.call (.ref f) args) (CR CX outer P w H s Q E) s
section
variable{X:Cx}{pins:List (Addr×Obj)}{σ:St}{H:Hp}{s s':Shared}
theorem Inv.VG(I:Inv X pins σ H s):zB X.prog X.w X.K X.mg X.base X.A X.stack s H:=
 ⟨I.ok.frames,I.ok.mod,I.bs,Nat.le_trans I.ok.sY I.sz,I.stack,I.yc,I.hok,I.bare⟩
theorem Inv.after{Q:VK}{u:Value}(I:Inv X pins σ H s)(h:CE X.stack X.prog X.w H s Q u s'):EP X pins σ Q u s':=by
 obtain⟨v,H',os,bare,un,hok,r,q⟩:=h;obtain⟨hh,g,d,t,os'⟩:=s';obtain rfl:os'=s.os:=os;exact⟨v,H',I.call (h':=hh) (g':=g) (d':=d) (t':=t) (ch:=[]) un hok bare (λb z=>absurd z (by simp)),r,q⟩
end
noncomputable def Qv(sp:Sp)(jQ:List V)(E:XK)(t:TA):TE:=λσ H Q=>t σ H λvs H1=>sp (vs++jQ) H1 Q E
noncomputable def Binds(K:PySem.W.Frag)(fd:FuncData)(ps:List Str)(ds:List Value):Prop:=
 ∀(s:Shared) (us:List Value),K.In s.heap->(us++ds).length=ps.length->BindsTo s fd ⟨us,[]⟩ (ps.zip (us++ds))
theorem Binds.all{K:PySem.W.Frag}{fd:FuncData}{ps:List Str}(h:∀us:List Value,us.length=ps.length->bindArgs fd ⟨us,[]⟩=pure (ps.zip us)):Binds K fd ps []:=λs us _ hl=>by
 rw[List.append_nil]at hl ⊢;exact .of_eq (h us hl)
noncomputable def Passes(CX:m6)(X:Cx)(E:XK):Prop:=∀(pins:List (Addr×Obj)) (σ:St) (H:Hp) (s:Shared) (e:Value) (s':Shared),Inv X pins σ H s->CX X.stack H s E e s'->X.xe e s'
section
variable{X:Cx}{CX:m6}{k:Nat}{f C:Addr}{fd:FuncData}{ps:List Str}{sp:Sp}{jQ:List V}{ds:List Value}{E:XK}{x m:Str}{p pos apos:Pos}{e o:Expr}{es:List Expr}{ta:TE}{t:TA}
theorem LI{pins:List (Addr×Obj)}{σ:St}{H:Hp}{s:Shared}{Q:VK}{us:List Value}{vs:List V}(F:iZ X.prog X.w X.K X.mg X.base CX k f fd ps sp)(hr:gi k X.A)(hb:Binds X.K fd ps ds)(hd:Vals jQ ds)(hx:Passes CX X E)
  (I:Inv X pins σ H s) (r:Vals vs us) (h:sp (vs++jQ) H Q E):wpAny (model X.prog X.w) X.A (call (.ref f) us) (EP X pins σ Q) X.xe s:=by
 have r2:Vals (vs++jQ) (us++ds):=r.append hd;have hl:(us++ds).length=ps.length:=by rw[<-r2.length];exact F.len _ _ _ _ h
 refine wpAny_call (codeAny_mono (F.run X.A X.stack s H ⟨us,[]⟩ (us++ds) (vs++jQ) Q E hr I.VG (hb s us I.u5 hl) r2 h) λr s' hq=>?_);cases r with
 |error e=>exact hx pins σ H s e s' I hq
 |ok fl=>
  cases fl with
  |ret u=>exact I.after hq
  |next=>exact False.elim hq
  |brk=>exact False.elim hq
  |cont=>exact False.elim hq
theorem Iv(F:iZ X.prog X.w X.K X.mg X.base CX k f fd ps sp)(hr:gi k X.A)(hg:Gl X x)(hm:X.mg x=some (.ref f))(hk:PySem.W.keepIn X.K (.ref f)=true)(hb:Binds X.K fd ps ds)(hd:Vals jQ ds)(hx:Passes CX X E)
  (ha:PA X (e :: es) t) (hdb:(x==("__debug__" : Str))=false:=by decide) (he:starEach (e :: es) X.env=(false,eval e X.env) :: starEach es X.env:=by rfl) (hpl:(backTo pos (starEach es X.env)).any (·.1)=false:=by rfl) :
  PE X (.Call (.Name x p) (e :: es) [] pos) (Qv sp jQ E t):=by
 intro pins s σ H Q I h;refine wpAny_Call_Name_kw (ye I hg hm ?_ hdb);refine PySem.W.callWith_K (h₀:=X.base) I.ok.mod.GA hk (bF (ha pos pins s σ H _ I h) λus s1 ⟨vs,H1,I1,r,q⟩=>⟨I1.u5,?_⟩) he hpl;exact LI F hr hb hd hx I1 r q
structure Mk(K:PySem.W.Frag)(C f:Addr):Prop where
 makes:PySem.W.makesIn K C=true
 init:PySem.W.findIn K (.ref C) "__init__" = some (some (.ref f))
 fn:PySem.W.isFn K (.ref f)=true
 kp:PySem.W.keepIn K (.ref C)=true
end
section
variable{X:Cx}{CX:m6}{k:Nat}{f C:Addr}{fd:FuncData}{ps ks:List Str}{sp:Sp}{E:XK}{x m:Str}{p pos apos kpos:Pos}{e o:Expr}{es:List Expr}{kws:List Keyword}{te ta:TE}{t tk:TA}{nm:Option Str}
structure Xn(K:PySem.W.Frag)(fd:FuncData)(ps ks:List Str)(g:List Value->List Value->List Value)(gV:List V->List V->List V):Prop where
 to:∀(s:Shared) (us ws:List Value),K.In s.heap->(g us ws).length=ps.length->BindsTo s fd ⟨us,ks.zip ws⟩ (ps.zip (g us ws))
 rel:∀{vs:List V} {us:List Value} {zs:List V} {ws:List Value},Vals vs us->Vals zs ws->Vals (gV vs zs) (g us ws)
variable{g:List Value->List Value->List Value}{gV:List V->List V->List V}
end
structure bH(N P:List Str)(sc:Scope):Prop where
 kind:sc.kind=.function
 co:sc.isCoroutine=false
 gen:sc.isGenerator=false
 nd:N.Nodup
 pre:N.take P.length=P
 par:∀x∈P,sc.names.lookup x=some .local\/sc.names.lookup x=some .cell
 LJ:∀y∈sc.names,y.2≠.free
theorem tD{kindOf:Str->Option NameKind}{x:Str}:∀{binds:List (Str×Value)}{m:Str->Option Value},(∀v,(x,v)∉binds)->bindL kindOf binds m x=m x
 |[],_,_=>rfl
 | (n,v) :: r,m,h=>by
  unfold bindL;rw[tD λw hw=>h w (List.mem_cons_of_mem _ hw)];split
  .have:x≠n:=by rintro rfl;exact h v List.mem_cons_self
   simp[this]
  .rfl
theorem tE{kindOf:Str->Option NameKind}{x:Str}:∀{binds:List (Str×Value)}{m:Str->Option Value},(∀v,(x,v)∉binds)->bindC kindOf binds m x=m x
 |[],_,_=>rfl
 | (n,v) :: r,m,h=>by
  unfold bindC;rw[tE λw hw=>h w (List.mem_cons_of_mem _ hw)];split
  .rfl
  .have:x≠n:=by rintro rfl;exact h v List.mem_cons_self
   simp[this]
theorem tF{kindOf:Str->Option NameKind}{x:Str}{v:Value}:∀{P:List Str}{vs:List Value}{i:Nat}{m:Str->Option Value},P.Nodup->P[i]?=some x->vs[i]?=some v->kindOf x=some .local->
  bindL kindOf (P.zip vs) m x=some v
 |[],_,_,_,_,h,_,_=>by simp at h
 |_ :: _,[],_,_,_,_,h,_=>by simp at h
 |p :: P,w :: vs,0,m,nd,h1,h2,hk=>by
  simp at h1 h2;subst h1;subst h2;show bindL kindOf ((p,w) :: P.zip vs) m p=_;unfold bindL;rw[tD λv hv=>(List.nodup_cons.mp nd).1 (List.of_mem_zip hv).1,if_pos hk];simp
 |p :: P,w :: vs,i+1,m,nd,h1,h2,hk=>by
  show bindL kindOf ((p,w) :: P.zip vs) m x=_;unfold bindL;exact tF (i:=i) (List.nodup_cons.mp nd).2 (by simpa using h1) (by simpa using h2) hk
theorem tG{kindOf:Str->Option NameKind}{x:Str}{v:Value}:∀{P:List Str}{vs:List Value}{i:Nat}{m:Str->Option Value},P.Nodup->P[i]?=some x->vs[i]?=some v->kindOf x≠some .local->
  bindC kindOf (P.zip vs) m x=some v
 |[],_,_,_,_,h,_,_=>by simp at h
 |_ :: _,[],_,_,_,_,h,_=>by simp at h
 |p :: P,w :: vs,0,m,nd,h1,h2,hk=>by
  simp at h1 h2;subst h1;subst h2;show bindC kindOf ((p,w) :: P.zip vs) m p=_;unfold bindC;rw[tE λv hv=>(List.nodup_cons.mp nd).1 (List.of_mem_zip hv).1,if_neg hk];simp
 |p :: P,w :: vs,i+1,m,nd,h1,h2,hk=>by
  show bindC kindOf ((p,w) :: P.zip vs) m x=_;unfold bindC;exact tG (i:=i) (List.nodup_cons.mp nd).2 (by simpa using h1) (by simpa using h2) hk
noncomputable def start(N:List Str)(vs:List V):St:=vs.map some++List.replicate (N.length - vs.length) none
noncomputable def pX(CX:m6)(P:Program)(w:World)(K:PySem.W.Frag)(mg:Str->Option Value)(base:Heap)(N:List Str)(qual:Str)(scope:Scope)(f:Addr)(cd:Value)(A:Around)(outer:List Env)(s:Shared)(H:Hp)(E:XK):Cx where
 prog:=P
 w:=w
 K:=K
 mg:=mg
 base:=base
 A:=A.deeper (envOfC qual scope s.heap.objs.size f cd)
 N:=N
 s₀:=s
 H₀:=H
 env:=envOfC qual scope s.heap.objs.size f cd
 outer:=outer
 stack:=envOfC qual scope s.heap.objs.size f cd :: outer
 ex:=[]
 calm:=true
 fn:=λ_=>true
 pn:=[]
 xe:=λe s'=>wpAny (model P w) (A.deeper (envOfC qual scope s.heap.objs.size f cd)) (leaving (envOfC qual scope s.heap.objs.size f cd) e) (λ_ s''=>CX outer H s E e s'') (λe' s''=>CX outer H s E e' s'') s'
theorem ve{sc:Scope}{n:Nat}{x:Str}(h:sc.names.lookup x=some .cell):∃c,(cellsFrom n sc.names []).lookup x=some c:=by
 have q:=PySem.W.cellsFrom_some sc.names n [] (.inl h);exact Option.isSome_iff_exists.mp q
theorem Bp{CX:m6}{P:Program}{w:World}{K:PySem.W.Frag}{mg:Str->Option Value}{base:Heap}{N ps:List Str}{qual:Str}{scope:Scope}{f:Addr}{cd:Value}{A:Around}{outer:List Env}{s s1:Shared}{H:Hp}{E:XK}{us:List Value}{vs:List V}
  (S:bH N ps scope) (hd:A.handled=none) (e0:zB P w K mg base A outer s H) (hl:vs.length=ps.length) (r:Vals vs us)
  (x:InCallC s s.heap.objs.size (bindL (envOfC qual scope s.heap.objs.size f cd).kindOf (ps.zip us) λ_=>none) (cellsFrom (s.heap.objs.size+1) scope.names []) (bindC (envOfC qual scope s.heap.objs.size f cd).kindOf (ps.zip us) λ_=>none) s1) :
  Inv (pX CX P w K mg base N qual scope f cd A outer s H E) [] (start N vs) H s1:=by
 have hpl:ps.length<=N.length:=by have:=congrArg List.length S.pre;rw[List.length_take]at this;omega
 obtain⟨h1,tk,rfl,hk⟩:=x.done;have Bq:∀b:Addr,b∉(pX CX P w K mg base N qual scope f cd A outer s H E).ex:=λb z=>absurd (show b∈([]:List Addr)from z) (by simp);refine⟨⟨e0.mod,S.kind,rfl,rfl,Nat.le_refl _,λy z c h1 h2=>?_,λy hy=>?_,λy c _ h=>?_,λ_=>hd,Around.frames_deeper e0.frames,.inr ⟨rfl,rfl⟩,λb z=>absurd z (Bq b),e0.bs,e0.sY,λb _ _=>Bq b,λb z=>absurd z (Bq b),e0.ju,e0.u0⟩,
  rfl,e0.bare,Un.kept hk,⟨_,x.toInCall.ns,λi y v h1 h2 h3=>?_⟩,λy c h=>⟨_,x.cell y c h⟩,e0.hok.fresh (Nat.le_refl _),λy c h=>?_,λp hp=>absurd (show p∈([]:List (Addr×Obj))from hp) (by simp),e0.hok.kept hk,?_⟩
 .exact name_of_addr x.apart (PySem.mem_of_lookup h1) (PySem.mem_of_lookup h2)
 .have hy:scope.names.lookup y=some .cell\/scope.names.lookup y=some .free:=hy;rcases hy with hy|hy
  .exact ve hy
  .exact absurd rfl (S.LJ _ (PySem.mem_of_lookup hy))
 .exact Nat.le_of_lt (x.above y c (PySem.mem_of_lookup h))
 .have hi:i<vs.length:=by
   unfold start at h2;by_cases hi:i<vs.length
   .exact hi
   .rw[List.getElem?_append_right (by simpa using hi)]at h2;rw[List.getElem?_replicate]at h2;split at h2<;>cases h2
  have ha:vs[i]?=some v:=by
   unfold start at h2;rw[List.getElem?_append_left (by simpa using hi),List.getElem?_map]at h2;cases e:vs[i]? with
   |none=>rw[e]at h2;cases h2
   |some a=>rw[e]at h2;cases h2;rfl
  obtain⟨u,hu,rv⟩:=r.get ha;have hp:ps[i]?=some y:=by
   rw[<-S.pre,List.getElem?_take_of_lt (by omega)];exact h1
  have S5:ps.Nodup:=by rw[<-S.pre];exact S.nd.sublist (List.take_sublist _ _)
  refine⟨u,rv,?_⟩;rcases S.par y (List.mem_of_getElem? hp)with k|k
  .exact .inl ⟨k,tF S5 hp hu k⟩
  .obtain⟨c,e⟩:=ve (n:=s.heap.objs.size+1) k;refine .inr ⟨.inl k,c,e,?_⟩;have q:=x.cell y c e;rw[tG S5 hp hu (by show scope.names.lookup y≠_;rw[k];decide)]at q;exact q
 .exact e0.hok.fresh (Nat.le_of_lt (x.above y c (PySem.mem_of_lookup h)))
 .unfold start;show _=N.length;rw[List.length_append,List.length_map,List.length_replicate];omega
theorem Qw{CX:m6}{P:Program}{w:World}{K:PySem.W.Frag}{mg:Str->Option Value}{base:Heap}{k:Nat}{f:Addr}{name qual:Str}{params:Arguments}{body:List Stmt}{scope:Scope}{dV kV doc pm cdv ct oc:Value}{an od:Option Addr}
  {osl:Array (Option Value)} {N ps:List Str} {sp:Sp} (lk:K.lookup f=some ⟨oc,od,.func (PySem.W.fnOf name qual params body scope dV kV doc pm an cdv ct),osl⟩) (hcd:PySem.W.codeIn K cdv qual=true) (S:bH N ps scope)
  (len:∀vs H Q E,sp vs H Q E->vs.length=ps.length)
  (hbody:∀(A:Around) (outer:List Env) (s:Shared) (H:Hp) (vs:List V) (Q:VK) (E:XK),gi k (A.deeper (envOfC qual scope s.heap.objs.size f cdv))->sp vs H Q E->
   ∃t,iI (pX CX P w K mg base N qual scope f cdv A outer s H E) body t/\t { nx:=λ_ H'=>Q .aS H',rt:=Q } (start N vs) H) :
  iZ P w K mg base CX (k+1) f (PySem.W.fnOf name qual params body scope dV kV doc pm an cdv ct) ps sp:=by
 refine⟨len,λA outer s H args us vs Q E hr e0 hb r kY=>?_⟩;have hl:=len _ _ _ _ kY;have KX:K.In s.heap:=e0.mod.GA.keeps λb o e=>(e0.bs b o e).1;have lim:s.heap.NoLimit:=e0.mod.nolimit.keeps λb o e=>(e0.bs b o e).1;have hkind:∀y∈ps.zip us,scope.names.lookup y.1=some .local\/(scope.names.lookup y.1=some .cell/\((cellsFrom (s.heap.objs.size+1) scope.names []).lookup y.1).isSome=true):=λ⟨n,v⟩ hy=>by
  rcases S.par n (List.of_mem_zip hy).1 with q|q
  .exact .inl q
  .exact .inr ⟨q,PySem.W.cellsFrom_some _ _ _ (.inl q)⟩
 refine codeAny_call_function hr.depth (KX _ _ lk) rfl S.co S.gen rfl (PySem.W.codeRec_of KX hcd) (hb _ _ _ _ ?_);refine wpAny_newFunctionEnv_cells S.kind hkind λenv he s1 x=>?_;subst he;refine⟨lim.keeps x.toInCall.keep,codeAny_func ?_⟩;obtain⟨t,ht,hq⟩:=hbody A outer s H vs Q E (hr.deeper _) kY;have I:Inv (pX CX P w K mg base N qual scope f cdv A outer s H E) [] (start N vs) H s1:=Bp S hr.hd e0 hl r x;refine wpAny_mono (ht [] s1 (start N vs) H _ I hq) (λfl s' hs=>?_) λe s' hs=>hs;have fin:∀{σ':St} {H':Hp} {v:V} {u:Value},Inv (pX CX P w K mg base N qual scope f cdv A outer s H E) [] σ' H' s'->RelV v u->Q v H'->CE outer P w H s Q u s':=
  λ{σ' H' v u} J rv q=>⟨v,H',J.os,J.bare,J.base,J.hok,rv,q⟩
 cases fl with
 |ret u=>
  obtain⟨v,σ',H',J,rv,q⟩:=hs;exact fin J rv q
 |next=>
  obtain⟨σ',H',J,q⟩:=hs;exact fin (v:=V.aS) (u:=Value.none) J rfl q
 |brk=>
  obtain⟨_,_,_,q⟩:=hs;exact False.elim q
 |cont=>
  obtain⟨_,_,_,q⟩:=hs;exact False.elim q
end L2
namespace L2
open PySem PySem.Spec PyProof.Rows
section
variable{X:Cx}{x:Str}{p pos:Pos}{e:Expr}{es:List Expr}{t:TA}{id T:String}{r:List V->Hp->VK->Prop}
noncomputable def LK(r:List V->Hp->VK->Prop)(t:TA):TE:=λσ H Q=>t σ H λvs H1=>r vs H1 Q
theorem DM (hc:fR X (.builtin id) r) (hg:Gl X x) (hm:X.mg x=none) (hv:bootBuiltins x=some (.builtin id)) (ha:PA X (e :: es) t) (hn:x≠"__name__" :=by decide) (hdb:(x==("__debug__" : Str))=false:=by decide)
  (he:starEach (e :: es) X.env=(false,eval e X.env) :: starEach es X.env:=by rfl) (hpl:(backTo pos (starEach es X.env)).any (·.1)=false:=by rfl):PE X (.Call (.Name x p) (e :: es) [] pos) (LK r t):=by
 intro pins s σ H Q I h;refine wpAny_Call_Name_kw (iJ I hg hm hv ?_ hn hdb);exact PyProof.Rows.callWith_builtin1 (bF (ha pos pins s σ H _ I h) λus s1 ⟨vs,H1,I1,r1,q1⟩=>hc pins s1 σ H1 vs us Q I1 r1 q1) he hpl
theorem tH (hc:fR X (.type T) r) (hg:Gl X x) (hm:X.mg x=none) (hv:bootBuiltins x=some (.type T)) (ha:PA X (e :: es) t) (hn:x≠"__name__" :=by decide) (hdb:(x==("__debug__" : Str))=false:=by decide)
  (he:starEach (e :: es) X.env=(false,eval e X.env) :: starEach es X.env:=by rfl) (hpl:(backTo pos (starEach es X.env)).any (·.1)=false:=by rfl):PE X (.Call (.Name x p) (e :: es) [] pos) (LK r t):=by
 intro pins s σ H Q I h;refine wpAny_Call_Name_kw (iJ I hg hm hv ?_ hn hdb);exact PyProof.Rows.callWith_type1 (bF (ha pos pins s σ H _ I h) λus s1 ⟨vs,H1,I1,r1,q1⟩=>hc pins s1 σ H1 vs us Q I1 r1 q1) he hpl
end
end L2
namespace HT
open PySem PyProof.Rows
section
open PySem.SeqAt
open PySem.AutoSeq1 (wpAny_loadPart')
open PySem.MeetsSeq PySem.MeetsSeq2 PySem.MeetsSeq3
end
section
variable{prog:Program}{w:World}{A:Around}{E:Value->Shared->Prop}{s:Shared}
theorem Iw{t b:Addr}{vs ws:List Value}{Q:Value->Shared->Prop}(ht:IsTup s.heap t vs.toArray)(hb:IsTup s.heap b ws.toArray)(hv:vs≠[])
  (h1:ws=[]->Q (.ref t) s) (h2:ws≠[]->Q (.ref s.heap.objs.size) { s with heap:=s.heap.push { cls:=.type "tuple",data:=.seq (vs++ws).toArray }})
  (hsz:vs.length+ws.length<=sizeLine):wpAny (model prog w) A (binaryOp .Add (.ref t) (.ref b)) Q E s:=by
 obtain⟨⟨cls,dd,data,sl⟩,ho,hc,n,hd⟩:=id ht;obtain⟨⟨VH,dd2,data2,sl2⟩,ho2,hc2,n2,hd2⟩:=id hb;simp only at hc hd hc2 hd2;subst hc hd hc2 hd2;have e:vs.toArray++ws.toArray=(vs++ws).toArray:=by simp
 by_cases hw:ws=[]
 .exact concat_meets ⟨_,ho,rfl⟩ ⟨_,ho2,rfl⟩ noFill_tuple_add seq_tuple_add PySem.F.slot_tuple_add PySem.F.entry_tuple_add (PySem.F.args_tuple_add_2 _ _)
   (tuple_addW1 t b vs.toArray ws.toArray n n2 dd dd2 sl sl2 (by simpa using hv) (by simp[hw])) ⟨ho,ho2,h1 hw⟩
 .refine concat_meets ⟨_,ho,rfl⟩ ⟨_,ho2,rfl⟩ noFill_tuple_add seq_tuple_add PySem.F.slot_tuple_add PySem.F.entry_tuple_add (PySem.F.args_tuple_add_2 _ _)
   (tuple_addW2 t b vs.toArray ws.toArray n n2 dd dd2 sl sl2 (by simpa using hv) (by simpa using hw) (by rw[List.size_toArray,List.size_toArray];exact hsz)) ⟨ho,ho2,?_⟩
  rw[e];exact h2 hw
noncomputable def aT(n d:Nat):Option Int->Nat
 |none=>d
 |some v=>if v<0 then (v+(n:Int)).toNat else min v.toNat n
theorem vf(n d:Nat)(hd:d<=n)(o:Option Int):aT n d o<=n:=by
 cases o with
 |none=>exact hd
 |some v=>
  show(if v<0 then (v+(n:Int)).toNat else min v.toNat n)<=n;by_cases hv:v<0
  .rw[if_pos hv];omega
  .rw[if_neg hv];exact Nat.min_le_right _ _
theorem yi(v:Int)(n d:Nat):(if v<0 then max (v+(n:Int)) 0 else min v (n:Int))=((aT n d (some v):Nat):Int):=by
 show(if v<0 then max (v+(n:Int)) 0 else min v (n:Int))=(((if v<0 then (v+(n:Int)).toNat else min v.toNat n):Nat):Int)
 by_cases hv:v<0
 .simp only[if_pos hv];omega
 .simp only[if_neg hv];omega
theorem zC(lo hi:Option Int)(n:Nat):Builtin.Slice.sliceAdjust lo hi 1 (n:Int)=(((aT n 0 lo:Nat):Int),((aT n n hi:Nat):Int)):=by
 have h1:¬ ((1:Int)<0):=by omega
 unfold Builtin.Slice.sliceAdjust;simp only[h1,if_false];refine Prod.ext ?_ ?_
 .cases lo with
  |none=>rfl
  |some v=>exact yi v n 0
 .cases hi with
  |none=>rfl
  |some v=>exact yi v n n
theorem zD(i j:Nat):Builtin.Slice.slicePlaces (i:Int) (j:Int) 1=j - i:=by
 unfold Builtin.Slice.slicePlaces;have h1:(1:Int) > 0:=by omega
 simp only[h1,if_true,Int.ediv_one];split<;>omega
theorem qt{v:Value}{o:Option Int}{Q:Option Int->Shared->Prop}(p:IsPart v o)(h:Q o s):wpAny (model prog w) A (Builtin.Slice.slicePartIndex v) Q E s:=by
 cases p with
 |none=>exact slicePart_none h
 |int i t=>exact slicePart_int h
theorem jR{sl:Addr}{vl vu:Value}{lo hi:Option Int}{n:Nat}{Q:Int×Int×Nat->Shared->Prop}(hs:s.heap.IsSliceOf sl vl vu .none)(pl:IsPart vl lo)(pu:IsPart vu hi)
  (h:Q (((aT n 0 lo:Nat):Int),1,aT n n hi - aT n 0 lo) s):wpAny (model prog w) A (Builtin.Slice.sliceApplied (.ref sl) (pure (n:Int))) Q E s:=by
 obtain⟨os,hos,hcs,hds⟩:=id hs;unfold Builtin.Slice.sliceApplied Builtin.Slice.sliceFields;refine wpAny_bind (wpAny_bind (wpAny_field hos hds (x:=vl) rfl (wpAny_bind (wpAny_field hos hds (x:=vu) rfl (wpAny_bind (wpAny_field hos hds (x:=.none) rfl (wpAny_pure ?_)))))));refine wpAny_bind (slicePart_none ?_);show wpAny _ _ (if ((1:Int)==0)=true then _ else _) _ _ s;rw[if_neg (by decide)];refine wpAny_bind (qt pl (wpAny_bind (qt pu (wpAny_bind (wpAny_pure ?_)))));show wpAny _ _ (match Builtin.Slice.sliceAdjust lo hi 1 (n:Int)with | (lo,hi)=>pure (lo,(1:Int),Builtin.Slice.slicePlaces lo hi 1)) _ _ s;rw[zC lo hi n];show wpAny _ _ (pure (((aT n 0 lo:Nat):Int),(1:Int),Builtin.Slice.slicePlaces ((aT n 0 lo:Nat):Int) ((aT n n hi:Nat):Int) 1)) _ _ s;rw[zD];exact wpAny_pure h
theorem DN(xs:Array Value)(i k:Nat):((List.range k).filterMap λ(m:Nat)=>xs[((i:Int)+(m:Int)*1).toNat]?).toArray=((xs.toList.drop i).take k).toArray:=by
 have e:(λ(m:Nat)=>xs[((i:Int)+(m:Int)*1).toNat]?)=λm=>xs[i+m]?:=by
  funext m
  have:((i:Int)+(m:Int)*1).toNat=i+m:=by omega
  rw[this]
 rw[e];have:=pick_run xs i k;rw[List.filterMap_map]at this;have e2:((λx=>xs[x]?) ∘ λx=>i+x)=λm=>xs[i+m]?:=rfl;rw[e2]at this;rw[this]
theorem pG{t sl:Addr}{items:Array Value}{vl vu:Value}{lo hi:Option Int}{Q:Value->Shared->Prop}(ht:IsTup s.heap t items)(hs:s.heap.IsSliceOf sl vl vu .none)(pl:IsPart vl lo)(pu:IsPart vu hi)
  (hw:¬ (aT items.size 0 lo=0/\aT items.size items.size hi=items.size))
  (h:Q (.ref s.heap.objs.size) { s with heap:=s.heap.push { cls:=.type "tuple",data:=.seq ((items.toList.drop (aT items.size 0 lo)).take (aT items.size items.size hi - aT items.size 0 lo)).toArray }})
  (hsz:items.size<=sizeLine):wpAny (model prog w) A (getItem (.ref t) (.ref sl)) Q E s:=by
 have uB:sizeOk (.seq ((items.toList.drop (aT items.size 0 lo)).take (aT items.size items.size hi - aT items.size 0 lo)).toArray):=by
  show((items.toList.drop (aT items.size 0 lo)).take (aT items.size items.size hi - aT items.size 0 lo)).toArray.size<=sizeLine;rw[List.size_toArray,List.length_take,List.length_drop,Array.length_toList];omega
 have hj:aT items.size items.size hi<=items.size:=vf _ _ (Nat.le_refl _) hi;obtain⟨os,hos,hcs,hds⟩:=id hs;have LL:s.TypeIs (.ref sl) "slice" :=⟨os,hos,hcs⟩
 unfold getItem;try with_reducible refine wpAny_holding ?_
 first|refine wpAny_bind (wpAny_pure ?_)|skip
 refine wpAny_bind (wpAny_sequenceKey ht.typeIs (by decide) ?_);refine wpAny_bind (wpAny_callSpecial?_slot (name:=Str.ofString "__getitem__") ht.typeIs PyProof.Rows.slot_tuple_getitem
  (wpAny_call_entry PyProof.Rows.slot_tuple_getitem ht.typeIs entry_tuple_getitem ?_ (args_tuple_getitem _ _)))
 show wpAny _ _ (Builtin.Tuple.tupleItemsOf (.ref t) >>= _) _ _ s;refine wpAny_bind (tupleItemsOf_ ht ?_);refine wpAny_bind (wpAny_typeOf LL ?_);rw[if_pos (by decide)];refine wpAny_bind (jR hs pl pu ?_);have hno:¬ ((((aT items.size 0 lo:Nat):Int)==0&&(1:Int)==1&&(aT items.size items.size hi - aT items.size 0 lo)==items.size)=true):=by
  intro q;rw[Bool.and_eq_true,Bool.and_eq_true]at q;have q1:((aT items.size 0 lo:Nat):Int)=0:=eq_of_beq q.1.1;have q2:aT items.size items.size hi - aT items.size 0 lo=items.size:=eq_of_beq q.2;exact hw ⟨by omega,by omega⟩
 show wpAny _ _ (if (((aT items.size 0 lo:Nat):Int)==0&&(1:Int)==1&&(aT items.size items.size hi - aT items.size 0 lo)==items.size)=true then _ else _) _ _ s;rw[if_neg hno,DN];first
  |exact wpAny_bind (m:=Builtin.Tuple.tupleExact _) (wpAny_newObj_type (wpAny_pure ⟨_,rfl,wpAny_pure h⟩) uB)
  |exact wpAny_bind (m:=Builtin.Tuple.tupleExact _) (wpAny_newObj_type (wpAny_bind (wpAny_pure (wpAny_pure ⟨_,rfl,wpAny_pure h⟩))) uB)
  |exact wpAny_bind (wpAny_bind (m:=Builtin.Tuple.tupleExact _) (wpAny_newObj_type (wpAny_pure (wpAny_pure ⟨_,rfl,wpAny_pure h⟩)) uB))
  |exact wpAny_bind (wpAny_bind (m:=Builtin.Tuple.tupleExact _) (wpAny_newObj_type (wpAny_pure ⟨_,rfl,wpAny_pure h⟩) uB))
end
end HT
namespace L2
open PySem PySem.Spec PyProof.Rows
abbrev TO:=St->Hp->(Option Int->Hp->Prop)->Prop
noncomputable def PO(X:Cx)(e:Option Expr)(t:TO):Prop:=
 ∀(pins:List (Addr×Obj)) (s:Shared) (σ:St) (H:Hp) (Q:Option Int->Hp->Prop),Inv X pins σ H s->t σ H Q->
  wpAny (model X.prog X.w) X.A (evalPart e X.env) (λu s'=>∃o H',Inv X pins σ H' s'/\IsPart u o/\Q o H') X.xe s
noncomputable def Iz:TO:=λ_ H Q=>Q none H
noncomputable def Qx(t:TE):TO:=λσ H Q=>t σ H λx H1=>∃i,x=.int i/\Q (some i) H1
section
variable{X:Cx}{e:Expr}{te:TE}{lo hi:Option Expr}{tl th:TO}{pos p2:Pos}
theorem IA:PO X none Iz:=by
 intro pins s σ H Q I h;rw[evalPart_none];exact wpAny_pure ⟨none,H,I,.none,h⟩
theorem IB(h:PE X e te):PO X (some e) (Qx te):=by
 intro pins s σ H Q I hw;rw[evalPart_some];refine bF (h pins s σ H _ I hw) λu s1 ⟨x,H1,I1,r1,q1⟩=>?_;obtain⟨i,rfl,q⟩:=q1;obtain⟨t,rfl⟩:=r1;exact⟨some i,H1,I1,.int i t,q⟩
noncomputable def kZ(X:Cx)(r:V->Option Int->Option Int->Hp->VK->Prop):Prop:=
 ∀(pins:List (Addr×Obj)) (s:Shared) (σ:St) (H:Hp) (x:V) (v vl vu:Value) (lo hi:Option Int) (sl:Addr) (Q:VK),Inv X pins σ H s->RelV x v->s.heap.IsSliceOf sl vl vu .none->IsPart vl lo->IsPart vu hi->r x lo hi H Q->
  ∃T id,typeLookup (.type T) "__getitem__" = pure (some (.builtin id))/\s.TypeIs v T/\wpAny (model X.prog X.w) X.A (getItem v (.ref sl)) (EP X pins σ Q) X.xe s
noncomputable def Xo(r:V->Option Int->Option Int->Hp->VK->Prop)(te:TE)(tl th:TO):TE:=λσ H Q=>te σ H λx H1=>tl σ H1 λl H2=>th σ H2 λu H3=>r x l u H3 Q
theorem DO{r:V->Option Int->Option Int->Hp->VK->Prop}(hr:kZ X r)(he:PE X e te)(hl:PO X lo tl)(hu:PO X hi th):PE X (.Subscript e (.Slice lo hi none p2) pos) (Xo r te tl th):=by
 intro pins s σ H Q I h;refine Subscript_ (bF (he pins s σ H _ I h) λv s1 ⟨x,H1,I1,r1,q1⟩=>?_);refine wpAny_Slice (bF (hl pins s1 σ H1 _ I1 q1) λvl s2 ⟨l,H2,I2,pl,q2⟩=>bF (hu pins s2 σ H2 _ I2 q2) λvu s3 ⟨u,H3,I3,pu,q3⟩=>?_);rw[evalPart_none];refine wpAny_pure ?_;have I4:Inv X pins σ H3 { s3 with heap:=s3.heap.push { cls:=.type "slice",data:=.fields #[vl,vu,.none]}}:=I3.kept (t':=s3.toks) λb ob q=>Heap.get?_push_of_some _ q;obtain⟨T,id,hT,ht,hg⟩:=hr pins { s3 with heap:=s3.heap.push { cls:=.type "slice",data:=.fields #[vl,vu,.none]}} σ H3 x v vl vu l u s3.heap.objs.size Q I4 r1 (Heap.IsSliceOf.new ..) pl pu q3;show wpAny (model X.prog X.w) X.A (subscriptTail e (.Slice lo hi none p2) v (.ref s3.heap.objs.size)) (EP X pins σ Q) X.xe { s3 with heap:=s3.heap.push { cls:=.type "slice",data:=.fields #[vl,vu,.none]}};exact tail_any (ops:=[.ref s3.heap.objs.size,v]) ht hT hg (by with_unfolding_all rfl)
noncomputable def nC(xs:List V)(lo hi:Option Int):List V:=(xs.drop (HT.aT xs.length 0 lo)).take (HT.aT xs.length xs.length hi - HT.aT xs.length 0 lo)
theorem pI(xs:List V)(lo hi:Option Int):(nC xs lo hi).length<=xs.length:=by
 unfold nC;rw[List.length_take,List.length_drop];omega
noncomputable def VI(K:PySem.W.Frag):V->Option Int->Option Int->Hp->VK->Prop:=λx lo hi H Q=>∃a xs,x=.ref a/\dP K H a xs/\
 ¬ (HT.aT xs.length 0 lo=0/\HT.aT xs.length xs.length hi=xs.length)/\∀p,H p=none->Q (.ref p) (upd H p (.tup (nC xs lo hi)))
theorem LM:kZ X (VI X.K):=by
 intro pins s σ H x v vl vu lo hi sl Q I rx hs pl pu h;obtain⟨a,xs,rfl,hx,hw,q⟩:=h;cases rx;obtain⟨its,r,ht,hz⟩:=I.tuple hx;have hlen:its.toArray.size=xs.length:=by rw[List.size_toArray];exact r.length.symm
 refine⟨"tuple",_,PyProof.Rows.slot_tuple_getitem.lookup,ht.typeIs,?_⟩;refine HT.pG ht hs pl pu (by rw[hlen];exact hw) ?_ (by rw[hlen];exact hz);rw[hlen];refine⟨.ref s.heap.objs.size,_,I.laid (t':=s.toks) (o:=.tup (nC xs lo hi)) (λb ob q=>Heap.get?_push_of_some _ q) (Nat.le_refl _) ?_,rfl,q _ (I.hok.fresh (Nat.le_refl _))⟩;exact⟨Nat.le_trans (pI xs lo hi) hz,_,(r.drop (HT.aT xs.length 0 lo)).take (HT.aT xs.length xs.length hi - HT.aT xs.length 0 lo),IsTup.new _ _⟩
noncomputable def Qy(K:PySem.W.Frag):R2:=λx y H Q=>∃a b xs ys,x=.ref a/\y=.ref b/\dP K H a xs/\dP K H b ys/\xs≠[]/\xs.length+ys.length<=sizeLine/\
 (ys=[]->Q (.ref a) H)/\(ys≠[]->∀p,H p=none->Q (.ref p) (upd H p (.tup (xs++ys))))
theorem Vals.rO{xs:List V}{us:List Value}(r:Vals xs us):us=[]↔xs=[]:=by
 cases r with
 |nil=>simp
 |cons _ _=>simp
theorem IC:dG X (binaryOp .Add) (Qy X.K):=by
 intro pins s σ H x y v u Q I rx ry h;obtain⟨a,b,xs,ys,rfl,rfl,ha,hb,hx,hz,q1,q2⟩:=h;cases rx;cases ry;obtain⟨its,r1,p1,_⟩:=I.tuple ha;obtain⟨its2,r2,p2,_⟩:=I.tuple hb;refine HT.Iw p1 p2 (λz=>hx (r1.rO.mp z)) (λz=>⟨.ref a,H,I,rfl,q1 (r2.rO.mp z)⟩) (λz=>?_) (by rw[<-r1.length,<-r2.length];exact hz);refine⟨.ref s.heap.objs.size,_,I.laid (t':=s.toks) (o:=.tup (xs++ys)) (λb ob q=>Heap.get?_push_of_some _ q) (Nat.le_refl _) ?_,rfl,q2 (λw=>z (r2.rO.mpr w)) _ (I.hok.fresh (Nat.le_refl _))⟩;exact⟨by rw[List.length_append];exact hz,_,r1.append r2,IsTup.new _ _⟩
end
end L2
namespace L2
open PySem PySem.Spec PyProof.Rows
noncomputable def ef(n:Nat)(i:Int):Option Nat:=if 0<=i then (if i<n then some i.toNat else none)else if -(n:Int)<=i then some (i+n).toNat else none
noncomputable def bL{α:Type}(xs:List α)(i:Int):Option α:=(ef xs.length i).bind λj=>xs[j]?
theorem ID{n:Nat}{i:Int}{j:Nat}(h:ef n i=some j):seqIndex? i n=some j/\j<n/\-(n:Int)<=i/\i<n:=by
 unfold ef at h;by_cases h0:0<=i
 .rw[if_pos h0]at h;by_cases h1:i<n
  .rw[if_pos h1]at h;have e:i.toNat=j:=Option.some.inj h;exact⟨by rw[seqIndex_of h0 h1,e],by omega,by omega,h1⟩
  .rw[if_neg h1]at h;cases h
 .rw[if_neg h0]at h;by_cases h1:-(n:Int)<=i
  .rw[if_pos h1]at h;have e:(i+n).toNat=j:=Option.some.inj h;exact⟨by rw[seqIndex_neg (by omega) h1,e],by omega,h1,by omega⟩
  .rw[if_neg h1]at h;cases h
theorem rP{α:Type}{xs:List α}{i:Int}{v:α}(h:bL xs i=some v):∃j,seqIndex? i xs.length=some j/\xs[j]?=some v/\j<xs.length/\-(xs.length:Int)<=i/\i<xs.length:=by
 unfold bL at h;cases e:ef xs.length i with
 |none=>rw[e]at h;cases h
 |some j=>
  rw[e]at h;obtain⟨h1,h2,h3,h4⟩:=ID e;exact⟨j,h1,h,h2,h3,h4⟩
theorem yj{α:Type}{xs:List α}{j:Nat}{v:α}(h:xs[j]?=some v):bL xs (j:Int)=some v:=by
 have hj:j<xs.length:=(List.getElem?_eq_some_iff.mp h).1;have e:ef xs.length (j:Int)=some j:=by
  unfold ef;rw[if_pos (by omega),if_pos (by omega)];simp
 unfold bL;rw[e];exact h
noncomputable def yk(b:Expr):Prop:=∀o i,subscripted b false o i=operate [o,i] (getItem o i)
noncomputable def yl(X:Cx)(r:R2):Prop:=
 ∀(value slice:Expr) (pins:List (Addr×Obj)) (s:Shared) (σ:St) (H:Hp) (x y:V) (v u:Value) (Q:VK),Inv X pins σ H s->RelV x v->RelV y u->r x y H Q->
  subscripted slice false v u=operate [v,u] (getItem v u)->wpAny (model X.prog X.w) X.A (subscriptTail value slice v u) (EP X pins σ Q) X.xe s
noncomputable def tK(X:Cx)(id:String)(r:V->List V->Hp->VK->Prop):Prop:=
 ∀(pins:List (Addr×Obj)) (s:Shared) (σ:St) (H:Hp) (x:V) (xs:List V) (v:Value) (us:List Value) (Q:VK),Inv X pins σ H s->RelV x v->Vals xs us->r x xs H Q->
  wpAny (model X.prog X.w) X.A (call (.builtin id) (v :: us)) (EP X pins σ Q) X.xe s
section
variable{X:Cx}{a b:Expr}{ta tb:TE}{pos:Pos}
theorem Qz{r:R2}(hr:yl X r)(ha:PE X a ta)(hb:PE X b tb)(hs:yk b):PE X (.Subscript a b pos) (Bj r ta tb):=by
 intro pins s σ H Q I h;exact Subscript_ (DH ha hb I h λv u s2 x y H2 I2 rx ry q=>hr a b pins s2 σ H2 x y v u Q I2 rx ry q (hs _ _))
noncomputable def VJ(K:PySem.W.Frag):R2:=λx y H Q=>∃p xs i v,x=.ref p/\y=.int i/\fF K H p xs/\bL xs i=some v/\Q v H
noncomputable def VL(K:PySem.W.Frag):R2:=λx y H Q=>∃p xs i v,x=.ref p/\y=.int i/\dP K H p xs/\bL xs i=some v/\Q v H
noncomputable def VM:R2:=λx y H Q=>∃z i c,x=.str z/\y=.int i/\z.length<=sizeLine/\bL z.cps.toList i=some c/\Q (.str ⟨#[c]⟩) H
theorem IE:yl X (VJ X.K):=by
 intro value slice pins s σ H x y v u Q I rx ry h hs;obtain⟨p,xs,i,z,rfl,rfl,hq,he,q⟩:=h;cases rx;obtain⟨t,rfl⟩:=ry;obtain⟨its,r,pl,hz⟩:=I.list hq;obtain⟨j,h1,h2,h3,h4,h5⟩:=rP he;obtain⟨w,ew,rw'⟩:=r.get h2;have hl:=r.length;have hn:=kW;have fin:EP X pins σ Q w s:=⟨z,H,I,rw',q⟩
 by_cases h0:0<=i
 .have hj:i.toNat=j:=by
   rw[seqIndex_of h0 h5]at h1;exact Option.some.inj h1
  exact item_listR pl.isList h0 (by omega) (by rw[hj];simpa using ew) fin hs
 .have hj:(i+(its.toArray.size:Int)).toNat=j:=by
   rw[seqIndex_neg (by omega) h4]at h1;rw[List.size_toArray,<-hl];exact Option.some.inj h1
  exact subscriptTail_builtinR (x:=w) pl.isList.typeIs slot_list_getitem.lookup
   (wpAny_getItem_list_neg (Q:=λr s'=>r=w/\EP X pins σ Q r s') pl.isList (by omega) (by rw[List.size_toArray]<;>omega) (by omega) (by rw[hj];simpa using ew) ⟨rfl,fin⟩) hs
theorem LN:yl X (VL X.K):=by
 intro value slice pins s σ H x y v u Q I rx ry h hs;obtain⟨p,xs,i,z,rfl,rfl,hq,he,q⟩:=h;cases rx;obtain⟨t,rfl⟩:=ry;obtain⟨its,r,pl,hz⟩:=I.tuple hq;obtain⟨j,h1,h2,h3,h4,h5⟩:=rP he;obtain⟨w,ew,rw'⟩:=r.get h2;have hl:=r.length;have hn:=kW;have fin:EP X pins σ Q w s:=⟨z,H,I,rw',q⟩
 exact subscriptTail_builtinR (x:=w) pl.typeIs slot_tuple_getitem.lookup
  (getItem_tuple (j:=j) (Q:=λr s'=>r=w/\EP X pins σ Q r s') pl (by omega) (by omega) (by rw[List.size_toArray,<-hl];exact h1) (by simpa using ew) ⟨rfl,fin⟩) hs
theorem LO:yl X VM:=by
 intro value slice pins s σ H x y v u Q I rx ry h hs;obtain⟨z,i,c,rfl,rfl,hz,he,q⟩:=h;obtain⟨t,rfl⟩:=rx;obtain⟨t',rfl⟩:=ry;obtain⟨j,h1,h2,h3,h4,h5⟩:=rP he;have hl:z.cps.toList.length=z.length:=by simp[Str.length]
 rw[hl]at h1 h4 h5;have hn:=kW;exact tail_any (typeIs_str s z t) slot_str_getitem.lookup (getItem_str (c:=c) (by
  have e1:decide (i < -(2 ^ 63:Int))=false:=decide_eq_false (by omega);have e2:decide (i≥2 ^ 63)=false:=decide_eq_false (by omega);rw[e1,e2,Bool.or_false]) (by rw[h1];simpa using h2) ⟨.str ⟨#[c]⟩,H,I.tok _,⟨_,rfl⟩,q⟩) hs
theorem vg(lo hi:Option Int)(n:Nat):(sliceBounds lo hi none n).1=((HT.aT n 0 lo:Nat):Int)/\(sliceBounds lo hi none n).2.1=((HT.aT n n hi:Nat):Int)/\(sliceBounds lo hi none n).2.2=1:=by
 refine⟨?_,?_,rfl⟩
 .cases lo with
  |none=>simp[sliceBounds,HT.aT]
  |some i=>
   simp only[sliceBounds,HT.aT,Option.getD_none,show(1:Int) > 0 by decide,if_true];by_cases h:i<0
   .simp only[h,if_true]<;>omega
   .simp only[h,if_false]<;>omega
 .cases hi with
  |none=>simp[sliceBounds,HT.aT]
  |some i=>
   simp only[sliceBounds,HT.aT,Option.getD_none,show(1:Int) > 0 by decide,if_true];by_cases h:i<0
   .simp only[h,if_true]<;>omega
   .simp only[h,if_false]<;>omega
theorem uw(its:List Value)(lo hi:Option Int):slicePick its.toArray lo hi none=((its.drop (HT.aT its.length 0 lo)).take (HT.aT its.length its.length hi - HT.aT its.length 0 lo)).toArray:=by
 obtain⟨h1,h2,h3⟩:=vg lo hi its.toArray.size;unfold slicePick;rw[h1,h2,h3];simp only[sliceRange_one,pick_run,List.size_toArray]<;>rfl
noncomputable def VN(K:PySem.W.Frag):V->Option Int->Option Int->Hp->VK->Prop:=λx lo hi H Q=>∃a xs,x=.ref a/\fF K H a xs/\∀p,H p=none->Q (.ref p) (upd H p (.lst (nC xs lo hi)))
theorem IF:kZ X (VN X.K):=by
 intro pins s σ H x v vl vu lo hi sl Q I rx hs pl pu h;obtain⟨a,xs,rfl,hx,q⟩:=h;cases rx;obtain⟨its,r,ht,hz⟩:=I.list hx;have hlen:=r.length;refine⟨"list",_,slot_list_getitem.lookup,ht.isList.typeIs,?_⟩;refine wpAny_getItem_list_slice ht.isList hs pl pu .none (by simp) ?_ (by rw[List.size_toArray]<;>omega);rw[uw,<-hlen];refine⟨.ref s.heap.objs.size,_,I.laid (t':=s.toks) (o:=.lst (nC xs lo hi)) (λb ob q=>Heap.get?_push_of_some _ q) (Nat.le_refl _) ?_,rfl,q _ (I.hok.fresh (Nat.le_refl _))⟩;exact⟨Nat.le_trans (pI xs lo hi) hz,_,0,(r.drop (HT.aT xs.length 0 lo)).take (HT.aT xs.length xs.length hi - HT.aT xs.length 0 lo),Heap.get?_push_size _ rfl⟩
noncomputable def uC:V->Bool
 |.aS=>true
 |.bl _=>true
 |.int _=>true
 |.str _=>true
 |_=>false
theorem nE:fR X (.builtin "len") (λxs H Q=>∃p ys,xs=[.ref p]/\(fF X.K H p ys\/dP X.K H p ys)/\Q (.int ys.length) H):=by
 intro pins s σ H xs us Q I r h;obtain⟨p,ys,rfl,hq,q⟩:=h;obtain⟨u,rfl,rx⟩:=vals1 r;cases rx;have hn:=kW;rcases hq with hq|hq
 .obtain⟨its,r',pl,hz⟩:=I.list hq;have hlen:=r'.length;exact Calls.call_len_list pl.isList (by simp only[List.size_toArray]<;>omega) ⟨.int ys.length,H,I.tok _,⟨s.toks+1,by rw[List.size_toArray,hlen]⟩,q⟩
 .obtain⟨its,r',pl,hz⟩:=I.tuple hq;have hlen:=r'.length;exact len_tuple pl (by simp only[List.size_toArray]<;>omega) ⟨.int ys.length,H,I.tok _,⟨s.toks+1,by rw[List.size_toArray,hlen]⟩,q⟩
theorem vh:fR X (.builtin "len") (λxs H Q=>∃z,xs=[.str z]/\z.length<=sizeLine/\Q (.int z.length) H):=by
 intro pins s σ H xs us Q I r h;obtain⟨z,rfl,hz,q⟩:=h;obtain⟨u,rfl,t,rfl⟩:=vals1 r;have hn:=kW;exact len_str (by omega) ⟨.int z.length,H,I.tok _,⟨_,rfl⟩,q⟩
theorem nF:fR X (.type "list") (λxs H Q=>∃p ys,xs=[.ref p]/\(fF X.K H p ys\/dP X.K H p ys)/\∀l,H l=none->Q (.ref l) (upd H l (.lst ys))):=by
 intro pins s σ H xs us Q I r h;obtain⟨p,ys,rfl,hq,q⟩:=h;obtain⟨u,rfl,rx⟩:=vals1 r;cases rx;have fin:∀(its:List Value),Vals ys its->ys.length<=sizeLine->∀(h':Heap) (c':Nat),(∀b o',s.heap.get? b=some o'->h'.get? b=some o')->
   h'.get? s.heap.objs.size=some { cls:=.type "list",dict:=none,data:=.seq its.toArray c',slots:=#[]}->EP X pins σ Q (.ref s.heap.objs.size) { s with heap:=h' }:=λits r' hz h' c' kp e=>
  ⟨.ref s.heap.objs.size,_,I.laid (t':=s.toks) kp (Nat.le_refl _) (show dF X.prog X.w _ h' _ (.lst ys)from ⟨hz,its,c',r',e⟩),rfl,q _ (I.hok.fresh (Nat.le_refl _))⟩
 rcases hq with hq|hq
 .obtain⟨its,r',pl,hz⟩:=I.list hq;have hlen:=r'.length;obtain⟨o,ho,hc,n,hd⟩:=pl.isList;exact call_list_seq p (.inl rfl) ho hc hd (λh' c' kp e=>fin its r' hz h' c' kp e) (by simp only[List.size_toArray]<;>omega)
 .obtain⟨its,r',pl,hz⟩:=I.tuple hq;have hlen:=r'.length;obtain⟨o,ho,hc,n,hd⟩:=pl;exact call_list_seq p (.inr rfl) ho hc hd (λh' c' kp e=>fin its r' hz h' c' kp e) (by simp only[List.size_toArray]<;>omega)
theorem m7:fR X (.type "tuple") (λxs H Q=>∃p ys,xs=[.ref p]/\((fF X.K H p ys/\∀l,H l=none->Q (.ref l) (upd H l (.tup ys)))\/(dP X.K H p ys/\Q (.ref p) H))):=by
 intro pins s σ H xs us Q I r h;obtain⟨p,ys,rfl,h⟩:=h;obtain⟨u,rfl,rx⟩:=vals1 r;cases rx;rcases h with ⟨hq,q⟩|⟨hq,q⟩
 .obtain⟨its,r',pl,hz⟩:=I.list hq;have hlen:=r'.length;refine call_tuple_list pl.isList (λh' kp=>?_) (by simp only[List.size_toArray]<;>omega);have I1:Inv X pins σ H { s with heap:=h' }:=I.kept (t':=s.toks) kp;have I2:Inv X pins σ (upd H h'.objs.size (.tup ys)) { s with heap:=h'.push { cls:=.type "tuple",data:=.seq its.toArray }}:=
   I1.laid (t':=s.toks) (λb o e=>Heap.get?_push_of_some _ e) (Nat.le_refl _) (show dF X.prog X.w _ _ _ (.tup ys)from ⟨hz,its,r',IsTup.new _ _⟩)
  exact⟨.ref h'.objs.size,_,I2,rfl,q _ (I1.hok.fresh (Nat.le_refl _))⟩
 .obtain⟨its,r',pl,hz⟩:=I.tuple hq;exact call_tuple_same pl ⟨.ref p,H,I,rfl,q⟩
noncomputable def Br(K:PySem.W.Frag)(T:String)(x:V)(H:Hp):Prop:=match x with
 |.str _=>T = "str"
 |.int _=>T = "int"
 |.ref p=>(T = "list" /\∃xs,fF K H p xs)\/(T = "tuple" /\∃o,K.lookup p=some o/\o.cls=.type "tuple" /\o.dict=none)\/
   (T = "dict" /\((∃kvs,H p=some (.dK kvs))\/∃kvs,H p=some (.dT kvs)))\/(T = "set" /\∃S n,H p=some (.set S n))
 |_=>False
theorem Bs{pins:List (Addr×Obj)}{σ:St}{H:Hp}{s:Shared}{T:String}{x:V}{v:Value}(I:Inv X pins σ H s)(r:RelV x v)(ty:Br X.K T x H) :
  s.TypeIs v T/\∀a,v=.ref a->∃ob,s.heap.get? a=some ob/\ob.dict=none:=by
 cases x with
 |str z=>
  obtain⟨t,rfl⟩:=r;cases (show T = "str" from ty);exact⟨typeIs_str s z t,λ_ e=>nomatch e⟩
 |int i=>
  obtain⟨t,rfl⟩:=r;cases (show T = "int" from ty);exact⟨typeIs_int s i t,λ_ e=>nomatch e⟩
 |ref p=>
  cases r;rcases ty with ⟨rfl,xs,hq⟩|⟨rfl,o,hk,hc,hd⟩|⟨rfl,hk⟩|⟨rfl,S,n,hk⟩
  .obtain⟨its,_,pl,_⟩:=I.list hq;refine⟨pl.isList.typeIs,λa e=>?_⟩;cases e;obtain⟨o,n,e,c,hd,_⟩:=pl;exact⟨o,e,hd⟩
  .refine⟨⟨o,I.u5 p o hk,hc⟩,λa e=>?_⟩;cases e;exact⟨o,I.u5 _ o hk,hd⟩
  .have z:∃o,s.heap.get? p=some o/\o.ExactDict:=by
    rcases hk with ⟨kvs,hk⟩|⟨kvs,hk⟩
    .obtain⟨_,_,_,_,o,_,_,e,ex,_⟩:=I.hok p _ hk;exact⟨o,e,ex⟩
    .obtain⟨_,_,_,_,o,_,_,e,ex,_⟩:=I.hok p _ hk;exact⟨o,e,ex⟩
   obtain⟨o,e,ex⟩:=z;refine⟨⟨o,e,ex.1⟩,λa e2=>?_⟩;cases e2;exact⟨o,e,ex.2.1⟩
  .obtain⟨o,_,_,_,e,ex,_⟩:=I.hok p _ hk;refine⟨⟨o,e,ex.1⟩,λa e2=>?_⟩;cases e2;exact⟨o,e,ex.2.1⟩
 |_=>exact False.elim ty
noncomputable def VO(K:PySem.W.Frag)(T:String)(r:V->List V->Hp->VK->Prop)(to:TE):TE:=λσ H Q=>to σ H λx H1=>Br K T x H1/\r x [] H1 Q
noncomputable def Xp(K:PySem.W.Frag)(T:String)(r:V->List V->Hp->VK->Prop)(to:TE)(t:TA):TE:=λσ H Q=>to σ H λx H1=>Br K T x H1/\t σ H1 λxs H2=>r x xs H2 Q
variable{o e:Expr}{es:List Expr}{to:TE}{t:TA}{name:Str}{apos cpos:Pos}{T id:String}{r:V->List V->Hp->VK->Prop}
theorem LP (pa:PlainAttrs T) (slot:Slot T name id) (hty:typeOf (.builtin id)=pure (.type "method_descriptor")) (hm:tK X id r) (ho:PE X o to)
  (hbase:attributeBase o name X.env (eval o X.env)=eval o X.env:=by rfl) (hline:(apos.endLine==cpos.line)=true:=by rfl):PE X (.Call (.Attribute o name apos) [] [] cpos) (VO X.K T r to):=by
 intro pins s σ H Q I h;refine wpAny_Call_method0_late hbase hline (bF (ho pins s σ H _ I h) λv s1 ⟨x,H1,I1,r1,ty,q1⟩=>?_);obtain⟨h1,h2⟩:=Bs I1 r1 ty;exact⟨T,id,pa,slot,hty,h1,h2,Calls.callWith_builtin rfl (PySem.evalArgs_none (hm pins s1 σ H1 x [] v [] Q I1 r1 .nil q1))⟩
theorem QA (pa:PlainAttrs T) (slot:Slot T name id) (hty:typeOf (.builtin id)=pure (.type "method_descriptor")) (hm:tK X id r) (ho:PE X o to) (ha:PA X (e :: es) t)
  (hbase:attributeBase o name X.env (eval o X.env)=eval o X.env:=by rfl)
  (hfew:((backTo cpos (starEach (e :: es) X.env)).all (λx=>!x.1)&&(backToKw cpos (keywordEach [] X.env)).all (λx=>x.1.isSome)
   &&decide ((e :: es).length+([]:List Keyword).length+(if ([]:List Keyword).isEmpty then 0 else 1)<30))=true:=by rfl)
  (hline:(apos.endLine==cpos.line)=true:=by rfl) (hs:starEach (e :: es) X.env=(false,eval e X.env) :: starEach es X.env:=by rfl) (hplain:(backTo cpos (starEach es X.env)).any (·.1)=false:=by rfl) :
  PE X (.Call (.Attribute o name apos) (e :: es) [] cpos) (Xp X.K T r to t):=by
 intro pins s σ H Q I h;refine wpAny_Call_method_late hbase hfew hline rfl (bF (ho pins s σ H _ I h) λv s1 ⟨x,H1,I1,r1,ty,q1⟩=>?_);obtain⟨h1,h2⟩:=Bs I1 r1 ty;refine⟨T,id,pa,slot,hty,h1,h2,?_⟩;have hA:=ha cpos pins s1 σ H1 _ I1 q1;rw[hs]at hA ⊢;refine Calls.callWith_builtin (by show(false || (backTo cpos (starEach es X.env)).any (·.1))=false;rw[hplain]<;>rfl) (Calls.evalArgs_plain ?_);exact bF hA λus s2 ⟨vs,H2,I2,r2,q2⟩=>hm pins s2 σ H2 x vs v us Q I2 r1 r2 q2
end
end L2
namespace L2
open PySem PySem.Spec PyProof.Rows
noncomputable def LQ(X:Cx)(id:String)(r:V->List V->Hp->VK->Prop):Prop:=
 ∀(pins:List (Addr×Obj)) (s:Shared) (σ:St) (H:Hp) (x:V) (xs:List V) (v:Value) (us:List Value) (Q:VK),Inv X pins σ H s->RelV x v->Vals xs us->r x xs H Q->
  wpAny (model X.prog X.w) X.A (call (.builtin id) (v :: us)) (EP X pins σ Q) X.xe s
theorem Vals.one:∀{x:V}{us:List Value},Vals [x] us->∃u,us=[u]/\RelV x u
 |_,_,.cons r .nil=>⟨_,rfl,r⟩
theorem Vals.zero:∀{us:List Value},Vals [] us->us=[]
 |_,.nil=>rfl
theorem Vals.dropLast{xs:List V}{us:List Value}(h:Vals xs us):Vals xs.dropLast us.dropLast:=by
 induction h with
 |nil=>exact .nil
 |cons r t ih=>
  cases t with
  |nil=>exact .nil
  |cons q t'=>exact .cons r ih
theorem Vals.reverse{xs:List V}{us:List Value}(h:Vals xs us):Vals xs.reverse us.reverse:=by
 induction h with
 |nil=>exact .nil
 |cons r t ih=>rw[List.reverse_cons,List.reverse_cons];exact Vals.append ih (.cons r .nil)
theorem Vals.rep{xs:List V}{us:List Value}(h:Vals xs us):∀k:Nat,Vals (List.replicate k xs).flatten (List.replicate k us).flatten
 |0=>.nil
 |k+1=>by
  rw[List.replicate_succ,List.replicate_succ,List.flatten_cons,List.flatten_cons];exact Vals.append h (Vals.rep h k)
theorem zE{α:Type}(l:List α):l.eraseIdx (l.length - 1)=l.dropLast:=by
 induction l with
 |nil=>rfl
 |cons a r ih=>
  cases r with
  |nil=>rfl
  |cons b r=>
   have e:(a :: b :: r).length - 1=((b :: r).length - 1)+1:=by
    have h1:(a :: b :: r).length=r.length+2:=rfl;have h2:(b :: r).length=r.length+1:=rfl;omega
   rw[e,List.eraseIdx_cons_succ,ih];all_goals rfl
theorem foldl_rep(its:List Value):∀(k:Nat) (acc:List Value),
  List.foldl (λx1 x2=>x1++x2) acc.toArray (List.replicate k its.toArray)=(acc++(List.replicate k its).flatten).toArray
 |0,acc=>by simp
 |k+1,acc=>by
  have e:acc.toArray++its.toArray=(acc++its).toArray:=by simp
  have e2:(acc++its)++(List.replicate k its).flatten=acc++(List.replicate (k+1) its).flatten:=by
   rw[List.replicate_succ,List.flatten_cons,List.append_assoc]
  rw[<-e2,<-foldl_rep its k (acc++its),<-e,List.replicate_succ,List.foldl_cons]
section
variable{X:Cx}{pins:List (Addr×Obj)}{σ:St}{H:Hp}{s:Shared}{l b:Addr}{xs ys zs:List V}
theorem Inv.DP{its its':List Value}{n:Nat}{f:Array Value->Array Value}{t':Nat}(I:Inv X pins σ H s)(hH:H l=some (.lst xs))
  (e:s.heap.get? l=some { cls:=.type "list",data:=.seq its.toArray n }) (hf:f its.toArray=its'.toArray) (hv:Vals ys its') (hz:ys.length<=sizeLine) :
  Inv X pins σ (upd H l (.lst ys)) { s with heap:=s.heap.update l (Obj.mapSeq f),toks:=t' }:=by
 have q:=PySem.IsL.update e f;rw[hf]at q;refine I.write (x:=l) (e:=l) (by rw[hH];exact trivial) (.inl rfl) (λb' u hb hu=>(Heap.get?_update_other s.heap (Obj.mapSeq f) (Ne.symm hb)).trans hu) ⟨_,q⟩ ?_;exact⟨hz,its',_,hv,q⟩
theorem Inv.DQ{its:List Value}{t':Nat}(I:Inv X pins σ H s)(hv:Vals ys its)(hz:ys.length<=sizeLine) :
  Inv X pins σ (upd H s.heap.objs.size (.lst ys)) { s with heap:=s.heap.push { cls:=.type "list",data:=.seq its.toArray },toks:=t' }:=
 I.laid (λ_ _ q=>Heap.get?_push_of_some _ q) (Nat.le_refl _) ⟨hz,its,0,hv,Heap.get?_push_size _ rfl⟩
theorem Inv.fresh(I:Inv X pins σ H s):H s.heap.objs.size=none:=I.hok.fresh (Nat.le_refl _)
theorem Inv.pY (I:Inv X pins σ H s) (hH:H l=some (.lst xs)):xs.length<=sizeLine/\∃(its:List Value) (n:Nat),Vals xs its/\xs.length=its.length/\s.heap.get? l=some { cls:=.type "list",data:=.seq its.toArray n }:=by
 obtain⟨z,its,n,r,e⟩:=I.hok l _ hH;exact⟨z,its,n,r,r.length,e⟩
theorem vj{n:Nat}(h:n<=sizeLine):Builtin.List.listTooLong n=false:=by
 unfold Builtin.List.listTooLong;exact decide_eq_false (by omega)
end
section
variable{X:Cx}
noncomputable def IG:V->List V->Hp->VK->Prop:=λx vs H Q=>∃l xs y,x=.ref l/\vs=[y]/\H l=some (.lst xs)/\xs.length<sizeLine/\Q .aS (upd H l (.lst (xs++[y])))
theorem tL:LQ X "list.append" IG:=by
 intro pins s σ H x vs v us Q I rx rv h;obtain⟨l,xs,y,rfl,rfl,hH,hz,q⟩:=h;cases rx;obtain⟨u,rfl,ru⟩:=rv.one;obtain⟨z,its,n,r,hl,e⟩:=I.pY hH;refine call_meets F.slot_list_append ⟨_,e,rfl⟩ F.entry_list_append (F.args_list_append_2 _ _) (PySem.list_append l its.toArray n u (by rw[List.size_toArray];omega)) ⟨e,?_⟩;refine⟨.aS,_,I.DP (its':=its++[u]) hH e (by simp) (r.append (.cons ru .nil)) ?_,rfl,q⟩;rw[List.length_append,List.length_singleton];omega
noncomputable def II:V->List V->Hp->VK->Prop:=λx vs H Q=>∃l b xs zs,x=.ref l/\vs=[.ref b]/\H l=some (.lst xs)/\H b=some (.lst zs)/\xs.length+zs.length<=sizeLine/\Q .aS (upd H l (.lst (xs++zs)))
theorem Bt:LQ X "list.extend" II:=by
 intro pins s σ H x vs v us Q I rx rv h;obtain⟨l,b,xs,zs,rfl,rfl,hH,hB,hz,q⟩:=h;cases rx;obtain⟨u,rfl,ru⟩:=rv.one;cases ru;obtain⟨z,its,n,r,hl,e⟩:=I.pY hH;obtain⟨z2,its2,n2,r2,hl2,e2⟩:=I.pY hB;have hsz:its.toArray.size+its2.toArray.size<=sizeLine:=by rw[List.size_toArray,List.size_toArray];omega
 have zF:¬ (!its.toArray.isEmpty&&Builtin.List.listTooLong (its.toArray.size+its2.toArray.size))=true:=by
  rw[vj hsz,Bool.and_false];exact Bool.false_ne_true
 refine call_meets F.slot_list_extend ⟨_,e,rfl⟩ F.entry_list_extend (F.args_list_extend_2 _ _)
  (AutoSeq1.list_extend_list_list_0 l its.toArray n b its2.toArray n2 zF (by rw[List.size_toArray];omega) (by omega)) ⟨e,e2,?_⟩
 refine⟨.aS,_,I.DP (its':=its++its2) hH e (by simp) (r.append r2) ?_,rfl,q⟩;rw[List.length_append];omega
noncomputable def VP:V->List V->Hp->VK->Prop:=λx vs H Q=>∃l xs y,x=.ref l/\vs=[]/\H l=some (.lst xs)/\xs[xs.length - 1]?=some y/\Q y (upd H l (.lst xs.dropLast))
theorem LR:LQ X "list.pop" VP:=by
 intro pins s σ H x vs v us Q I rx rv h;obtain⟨l,xs,y,rfl,rfl,hH,hy,q⟩:=h;cases rx;have Xq:=rv.zero;subst Xq;obtain⟨z,its,n,r,hl,e⟩:=I.pY hH;obtain⟨u,hu,ru⟩:=r.get hy;have hy':its.toArray[its.toArray.size - 1]?=some u:=by
  show its.toArray[its.length - 1]?=some u;rw[<-Array.getElem?_toList,<-hl];exact hu
 refine call_meets F.slot_list_pop ⟨_,e,rfl⟩ F.entry_list_pop (F.args_list_pop_1 _) (MeetsSeq.list_pop_last l its.toArray n u hy' (by rw[List.size_toArray];omega)) ⟨e,?_⟩;refine⟨y,_,I.DP (its':=its.dropLast) hH e ?_ r.dropLast ?_,ru,q⟩
 .show its.toArray.eraseIdxIfInBounds (its.toArray.size - 1)=its.dropLast.toArray;rw[List.size_toArray,List.eraseIdxIfInBounds_toArray,zE]
 .rw[List.length_dropLast];omega
noncomputable def VQ:R2:=λx y H Q=>∃l b xs zs,x=.ref l/\y=.ref b/\H l=some (.lst xs)/\H b=some (.lst zs)/\xs.length+zs.length<=sizeLine/\∀p,H p=none->Q (.ref p) (upd H p (.lst (xs++zs)))
theorem LS:dG X (binaryOp .Add) VQ:=by
 intro pins s σ H x y v u Q I rx ry h;obtain⟨l,b,xs,zs,rfl,rfl,hH,hB,hz,q⟩:=h;cases rx;cases ry;obtain⟨z,its,n,r,hl,e⟩:=I.pY hH;obtain⟨z2,its2,n2,r2,hl2,e2⟩:=I.pY hB;refine PySem.P.add_list e e2 ?_ (by rw[List.size_toArray,List.size_toArray];omega);have ea:its.toArray++its2.toArray=(its++its2).toArray:=by simp
 rw[ea];exact⟨.ref _,_,I.DQ (t':=s.toks) (r.append r2) (by rw[List.length_append];omega),rfl,q _ I.fresh⟩
noncomputable def VR:R2:=λx y H Q=>∃l k xs,x=.ref l/\y=.int k/\H l=some (.lst xs)/\-(2 ^ 63)<=k/\k<2 ^ 63/\xs.length*k.toNat<=sizeLine/\
 ∀p,H p=none->Q (.ref p) (upd H p (.lst (List.replicate k.toNat xs).flatten))
theorem len_rep{α:Type}(xs:List α)(k:Nat):(List.replicate k xs).flatten.length=k*xs.length:=by
 induction k with
 |zero=>simp
 |succ k ih=>rw[List.replicate_succ,List.flatten_cons,List.length_append,ih,Nat.succ_mul,Nat.add_comm]
theorem LU:dG X (binaryOp .Mult) VR:=by
 intro pins s σ H x y v u Q I rx ry h;obtain⟨l,k,xs,rfl,rfl,hH,h1,h2,hz,q⟩:=h;cases rx;obtain⟨t,rfl⟩:=ry;obtain⟨z,its,n,r,hl,e⟩:=I.pY hH;have hlen:its.toArray.size*k.toNat<=sizeLine:=by rw[List.size_toArray,<-hl];exact hz
 have hcap:¬ its.toArray.size*k.toNat > (2 ^ 63 - 1) / 8:=by
  have:(sizeLine:Nat)<=(2 ^ 63 - 1) / 8:=by decide
  omega
 have hfit:¬ (!Builtin.List.listFitsIndex k)=true:=by
  rw[fitsIndex_both h1 h2];exact Bool.false_ne_true
 have zF:¬ Builtin.List.listTooLong (its.toArray.size*k.toNat)=true:=by
  rw[vj hlen];exact Bool.false_ne_true
 have hnew:List.foldl (λx1 x2=>x1++x2) #[] (List.replicate (if its.toArray.isEmpty=true then 0 else k.toNat) its.toArray)=(List.replicate k.toNat its).flatten.toArray:=by
  have f0:∀m:Nat,List.foldl (λx1 x2=>x1++x2) #[] (List.replicate m its.toArray)=(List.replicate m its).flatten.toArray:=λm=>by
   have:=foldl_rep its m [];rw[List.nil_append]at this;exact this
  rw[f0];cases its with
  |nil=>simp
  |cons a r'=>rw[if_neg (by simp)]
 refine wpAny_binaryOp_repeat_ref (T:="list") (U:="int") (by decide) ⟨_,e,rfl⟩ (λs'=>typeIs_int s' k t) noFill_list_mul F.fills_int_mul F.slot_int_rmul repeat_list F.slot_int_index.lookup
  (call_meets F.slot_int_rmul (typeIs_int s k t) F.entry_int_rmul (F.args_int_rmul_2 _ _) (int___rmul___int_list k t l its.toArray n)
   ⟨e,rfl,⟨_,e,rfl⟩,call_meets F.slot_list_mul ⟨_,e,rfl⟩ F.entry_list_mul (F.args_list_mul_2 _ _) (AutoListH.list___mul___list_int_3 l its.toArray n k t hfit hcap zF) ⟨e,?_⟩⟩)
 rw[hnew];exact⟨.ref _,_,I.DQ (t':=s.toks) (r.rep k.toNat) (by rw[len_rep,Nat.mul_comm];exact hz),rfl,q _ I.fresh⟩
end
section
variable{prog:Program}{w:World}{A:Around}{E:Value->Shared->Prop}{s:Shared}
end
section
variable{X:Cx}
end
end L2
namespace S6
open PySem PySem.W PySem.Calls PyProof.Rows
theorem qu{P:Params}{h:Heap}:∀(ns:List Int) (vs:List Value),WellAll P h vs (ns.map WData.int)->IntsAre vs ns:=by
 intro ns;induction ns with
 |nil=>
  intro vs w;rw[List.map_nil]at w;cases w;exact .nil
 |cons n ns ih=>
  intro vs w;rw[List.map_cons]at w;cases w with
  |cons a b=>
   cases a;exact .cons _ _ (ih _ b)
theorem Bu{l:OpenLaw}{n:Nat}(hn:l.most=some n){P:Params}{h:Heap}{args:List WData}{vals:List Value}
  (hpre:l.row.toRowW.claim.pre args=true) (hwl:WellAll P h vals args) :
  ∃a vs ns,vals=[Value.ref a]/\args=[WData.list (ns.map WData.int)]/\h.get? a=some { cls:=.type "list",data:=.seq vs.toArray }/\IntsAre vs ns/\ns.length<=n:=by
 have hsh:WShape.hasAll [] args [.list .int]=true:=(pre_splitW hpre).1;have hc:l.pre.holds [] { args:=args }=true:=(pre_splitW hpre).2;obtain⟨d,r,rfl,h1,h2⟩:=hasAllW_cons hsh;obtain rfl:=hasAllW_nil h2;obtain⟨xs,rfl,h3⟩:=hasW_list h1;obtain⟨ns,rfl⟩:=items_int h3;have hlen:ns.length<=n:=by
  unfold OpenLaw.pre at hc;have h4:(WTm.not (.lt (.lit (.int (n:Int))) (.len (.arg 0)))).holds [] { args:=[.list (ns.map .int)]}=true:=by
   have h4:=(holds_andW hc).1;rw[hn]at h4;exact h4
  have h5:=condW_of h4 (w_not (w_lt w_lit (w_len_list (w_arg rfl))));rw[List.length_map]at h5;refine Nat.le_of_not_lt λq=>?_;have q':(n:Int)<((ns.length:Nat):Int):=by omega
  first
   | (rw[decide_eq_true q']at h5;exact absurd h5 (by decide))
   | (simp at h5;omega)
 cases hwl with
 |cons w1 w2=>
  cases w2;cases w1 with
  |list ho hall=>exact⟨_,_,ns,rfl,rfl,ho,qu ns _ hall,hlen⟩
theorem Bv(l:OpenLaw)(args:List WData):l.row.toRowW.claim.post args (.bool true) args=true:=
 postW_of (r:=l.row.toRowW) (X:=(true==true))
  (show WShape.has [] (.bool true) .bool=true by first|rfl|decide|simp[WShape.has,WShape.arms,WShape.armsAll])
  (show(WTm.eq .res (.lit (.bool true))).value [] { args:=args,res:=some (.bool true),after:=args }=some (.bool (true==true))from w_eq_bool (w_res rfl) w_lit) rfl
theorem xJ{l:OpenLaw}{n:Nat}{q:Program}{loose:List Str}{XP:(Str->Option Value)->Heap->Prop}{YP:World->Heap->Prop}{d:DefRec}
  (hn:l.most=some n) (hdf:d.params.defaults=[])
  (call:∀(w:World) (s₀ s₁:Shared) (mg mb:Str->Option Value) (fa:Addr) (o:Obj) (pm cd doc:Value) (a:Addr) (vs:List Value) (ns:List Int),
   Ground q loose [] XP w s₀ mg mb s₁.heap->YP w s₁.heap->
   s₁.heap.get? fa=some o->o.data=.func (docDef d.name d.params d.body d.scope pm cd doc)->s₁.heap.CodeRec cd d.name->mg d.name=some (.ref fa)->
   s₁.heap.get? a=some { cls:=.type "list",data:=.seq vs.toArray }->IntsAre vs ns->ns.length<=n->s₁.gens = #[]->
   codeAny (model l.prog w) callerA (.call (.ref fa) ⟨[.ref a],[]⟩) (λr s'=>r=.ok (.ret (.bool true))/\OldK s₁.heap s'.heap/\s'.os=s₁.os/\AllBare s'.gens) s₁) :
  WalkO q loose XP YP l.row.toRowW d [] (λf vs=>PySem.call f vs):=by
 intro w s₀ s₁ mg mb G Y fa o pm cd doc dV kV ho hd hcd hD hmg hg args vals as hpre hlay hrd hwl hlo;obtain rfl:dV=.none:=Dflts.none hD hdf;obtain rfl:kV=.none:=Dflts.noKw hD;obtain⟨a,vs,ns,rfl,rfl,hobj,hints,hlen⟩:=Bu hn hpre hwl;refine enter_call (codeAny_mono (call w s₀ s₁ mg mb fa o pm cd doc a vs ns G Y ho (fd_plain hd) hcd hmg hobj hints hlen hg) λr s' hq=>?_);obtain⟨rfl,h2,h3,h4⟩:=hq;exact⟨.inl ⟨.bool true,.bool true,[],rfl,λ_=>rfl,.bool true,Bv l _,λ_=>⟨List.Pairwise.nil,λ_ hm=>(nomatch hm)⟩⟩,h2,h3,h4⟩
section
variable{prog:Program}{w:World}{A:Around}{E:Value->Shared->Prop}{s:Shared}{K:Frag}
end
end S6
namespace L2
open PySem PySem.Spec PyProof.Rows
theorem tM:∀{vs:List Value}{ns:List Int},IntsAre vs ns->Vals (ns.map V.int) vs
 |_,_,.nil=>.nil
 |_,_,.cons n t h=>.cons ⟨t,rfl⟩ (tM h)
noncomputable def rQ(H:Hp):Prop:=∀b,H b=none\/∃o xs,H b=some (.bP o (.lst xs))
theorem DR{P:Program}{w:World}{K:PySem.W.Frag}{mg mb:Str->Option Value}{CX:m6}{k:Nat}{fa a:Addr}{fd:FuncData}{x:Str}{sp:Sp}{s₁:Shared}{vs:List Value}{ns:List Int}
  (KX:K.In s₁.heap) (hns:s₁.heap.Ns mainGlobals mg) (hb:s₁.heap.Ns builtinsNs mb) (LV:∀x:Str,x≠"__name__" ->mb x=bootBuiltins x) (hlim:s₁.heap.NoLimit) (hg:s₁.gens = #[])
  (ha:s₁.heap.get? a=some { cls:=.type "list",data:=.seq vs.toArray }) (hi:IntsAre vs ns) (hl:ns.length<=sizeLine) (hr:gi k callerA)
  (F:∀base:Heap,K.In base->base.Ns mainGlobals mg->iZ P w K mg base CX k fa fd [x] sp) (hbind:∀(s:Shared) (u:Value),BindsTo s fd ⟨[u],[]⟩ [(x,u)])
  (kY:∀H:Hp,rQ H->fF K H a (ns.map V.int)->sp [.ref a] H (λv _=>v=.bl true) λ_ _ _=>False)
  (Bw:∀H e s',CX [] H s₁ (λ_ _ _=>False) e s'->False) :
  codeAny (model P w) callerA (.call (.ref fa) ⟨[.ref a],[]⟩) (λr s'=>r=.ok (.ret (.bool true))/\OldK s₁.heap s'.heap/\s'.os=s₁.os/\AllBare s'.gens) s₁:=by
 have rv:=tM hi;have VS:=hi.length;have core:∀H:Hp,rQ H->fF K H a (ns.map V.int)->eV P w H s₁.heap->(∀b,H b≠none->b=a)->(H a≠none->K.lookup a=none)->
   codeAny (model P w) callerA (.call (.ref fa) ⟨[.ref a],[]⟩) (λr s'=>r=.ok (.ret (.bool true))/\OldK s₁.heap s'.heap/\s'.os=s₁.os/\AllBare s'.gens) s₁:=by
  intro H hO hS hok hA hK;have ym:∀{b:Addr} {o:Obj},s₁.heap.get? b=some o->H b=none->(mq s₁.heap H).get? b=some o:=λe n=>Dv e n;have Bq:∀{b:Addr} {o:Obj} {es:Array DictEntry} {ep:Nat},s₁.heap.get? b=some o->o.data=.dict es ep->H b=none:=λ{b o es ep} e d=>by
   cases q:H b with
   |none=>rfl
   |some u=>
    have e':b=a:=hA b (by rw[q];simp);subst e';rw[ha]at e;cases e;have d':Data.seq vs.toArray _=Data.dict es ep:=d;cases d'
  have GJ:∀{b:Addr} {m:Str->Option Value},s₁.heap.Ns b m->(mq s₁.heap H).Ns b m:=λ{b m} ⟨o,es,ep,e,d,r⟩=>⟨o,es,ep,ym e (Bq e d),d,r⟩
  have S7:K.In (mq s₁.heap H):=λb o e=>ym (KX b o e) (by
   cases q:H b with
   |none=>rfl
   |some u=>
    have e':b=a:=hA b (by rw[q];simp);subst e';rw[hK (by rw[q];simp)]at e;cases e)
  have hM:Mod K mg (mq s₁.heap H):=⟨S7,GJ hns,⟨mb,GJ hb,LV⟩,let ⟨mc,h1,h2⟩:=hlim;⟨mc,GJ h1,h2⟩⟩
  have e0:zB P w K mg (mq s₁.heap H) callerA [] s₁ H:=⟨rfl,hM,λb o e=>Ii e,Nat.le_of_eq (A9 _ _),trivial,λb hb=>absurd (show b∈([]:List Addr)from hb) (by simp),hok,.of_eq hg⟩
  refine codeAny_mono ((F _ S7 (GJ hns)).run callerA [] s₁ H ⟨[.ref a],[]⟩ [.ref a] [.ref a] _ _ hr e0 (hbind s₁ (.ref a)) (.cons rfl .nil) (kY H hO hS)) λr s' h=>?_;cases r with
  |error e=>exact(Bw H e s' h).elim
  |ok fl=>
   cases fl with
   |next=>exact False.elim h
   |brk=>exact False.elim h
   |cont=>exact False.elim h
   |ret u=>
    obtain⟨v,H',os,bare,un,VT,r',q⟩:=h;have q':v=.bl true:=q;subst q';obtain rfl:u=Value.bool true:=r';refine⟨rfl,OldK.of_keep λb o e=>?_,os,bare⟩;cases q:H b with
    |none=>exact un.keep b o e q (by intro z;exact absurd (show b∈([]:List Addr)from z) (by simp)) (by simp)
    |some u=>
     rcases hO b with z|⟨ob,xs,z⟩
     .rw[q]at z;cases z
     .have z2:=un.mj b ob _ z;obtain⟨e1,_⟩:=hok b _ z;obtain⟨e2,_⟩:=VT b _ z2;rw[e]at e1;cases e1;exact e2
 cases hk:K.lookup a with
 |some o=>
  have e:=KX a o hk;rw[ha]at e;cases e;refine core (λ_=>none) (λ_=>.inl rfl) (.inr ⟨_,vs.toArray,_,hk,rfl,rfl,rfl,by rw[List.size_toArray,VS];exact hl,by simpa using rv⟩) (λb u z=>by have z':(none:Option HO)=some u:=z;cases z') (λb z=>absurd rfl z) λz=>absurd rfl z
 |none=>
  refine core (λb=>if b=a then some (.bP { cls:=.type "list",data:=.seq vs.toArray } (.lst (ns.map V.int)))else none) (λb=>?_) (.inl (.inr ⟨{ cls:=.type "list",data:=.seq vs.toArray },if_pos rfl⟩)) (λb u z=>?_) (λb z=>?_) λ_=>hk
  .by_cases hb:b=a
   .exact .inr ⟨_,_,if_pos hb⟩
   .exact .inl (if_neg hb)
  .by_cases hb:b=a
   .have z':=(if_pos hb).symm.trans z;cases z';subst hb;exact⟨ha,by rw[List.length_map];exact hl,vs,_,rv,ha⟩
   .have z':=(if_neg hb).symm.trans z;cases z'
  .by_cases hb:b=a
   .exact hb
   .exact absurd (if_neg hb) z
end L2
namespace L2
open PySem PySem.Spec PyProof.Rows
theorem IJ{l:PySem.W.OpenLaw}{n k:Nat}{q:Program}{loose:List Str}{XP:(Str->Option Value)->Heap->Prop}{YP:World->Heap->Prop}{d:DefRec}{K:Params->PySem.W.Frag}{CX:World->m6}{sp:World->Sp}{x:Str}
  (hn:l.most=some n) (hn2:n<=sizeLine) (hdf:d.params.defaults=[]) (hr:gi k callerA)
  (hY:∀(w:World) (h:Heap),YP w h->(K w.params).In h)
  (F:∀(w:World) (mg:Str->Option Value) (fa:Addr) (h:Heap),(K w.params).In h->h.Ns mainGlobals mg->mg d.name=some (.ref fa)->
   ∃fd:FuncData,(∀(s:Shared) (u:Value),BindsTo s fd ⟨[u],[]⟩ [(x,u)])/\
    ∀base:Heap,(K w.params).In base->base.Ns mainGlobals mg->iZ l.prog w (K w.params) mg base (CX w) k fa fd [x] (sp w))
  (kY:∀(w:World) (H:Hp) (a:Addr) (ns:List Int),ns.length<=n->rQ H->fF (K w.params) H a (ns.map V.int)->sp w [.ref a] H (λv _=>v=.bl true) λ_ _ _=>False)
  (Bw:∀(w:World) (H:Hp) (s:Shared) (e:Value) (s':Shared),CX w [] H s (λ_ _ _=>False) e s'->False) :
  PySem.W.WalkO q loose XP YP l.row.toRowW d [] (λf vs=>PySem.call f vs):=by
 refine S6.xJ hn hdf λw s₀ s₁ mg mb fa o pm cd doc a vs ns G Y ho hd hcd hmg hobj hints hlen hg=>?_;have KX:=hY w _ Y;obtain⟨fd,hb,hF⟩:=F w mg fa _ KX G.T.g hmg;exact DR KX G.T.g G.T.b G.T.builtins G.T.nolimit hg hobj hints (Nat.le_trans hlen hn2) hr hF hb (λH hO hS=>kY w H a ns hlen hO hS) λH e s'=>Bw w H s₁ e s'
theorem DS{l:PySem.W.OpenLaw}{n k:Nat}{q:Program}{loose:List Str}{XP:(Str->Option Value)->Heap->Prop}{YP:World->Heap->Prop}{d:DefRec}{K:Params->PySem.W.Frag}{CX:m6}{sp:PySem.W.Frag->Sp}{x:Str}
  (hn:l.most=some n) (hn2:n<=sizeLine) (hdf:d.params.defaults=[]) (hr:gi k callerA)
  (hY:∀(w:World) (h:Heap),YP w h->(K w.params).In h)
  (F:∀(w:World) (mg:Str->Option Value) (fa:Addr) (h:Heap),(K w.params).In h->h.Ns mainGlobals mg->mg d.name=some (.ref fa)->
   ∃fd:FuncData,(∀(s:Shared) (u:Value),BindsTo s fd ⟨[u],[]⟩ [(x,u)])/\
    ∀base:Heap,(K w.params).In base->base.Ns mainGlobals mg->iZ l.prog w (K w.params) mg base CX k fa fd [x] (sp (K w.params)))
  (kY:∀(K:PySem.W.Frag) (H:Hp) (a:Addr) (ns:List Int),ns.length<=n->rQ H->fF K H a (ns.map V.int)->sp K [.ref a] H (λv _=>v=.bl true) λ_ _ _=>False)
  (Bw:∀(H:Hp) (s:Shared) (e:Value) (s':Shared),CX [] H s (λ_ _ _=>False) e s'->False) :
  PySem.W.WalkO q loose XP YP l.row.toRowW d [] (λf vs=>PySem.call f vs):=
 IJ (K:=K) (CX:=λ_=>CX) (sp:=λw=>sp (K w.params)) hn hn2 hdf hr hY F (λw H a ns h1 h2 h3=>kY (K w.params) H a ns h1 h2 h3) λ_ H s e s'=>Bw H s e s'
end L2
namespace L2
open PySem PySem.Spec PyProof.Rows
noncomputable def oO(s:Stmt):Arguments:=match s with
 |.FunctionDef _ a _ _ _ _ _ _ _ _=>a
 |_=>{ posonlyargs:=[],args:=[],vararg:=none,kwonlyargs:=[],kw_defaults:=[],kwarg:=none,defaults:=[]}
noncomputable def iy(s:Stmt):List Stmt:=match s with
 |.FunctionDef _ _ b _ _ _ _ _ _ _=>b
 |_=>[]
noncomputable def aP(s:Stmt):Scope:=match s with
 |.FunctionDef _ _ _ _ _ _ sc _ _ _=>sc
 |_=>{ kind:=.function,names:=[],isGenerator:=false,isCoroutine:=false }
abbrev nG:m6:=λ_ _ _ _ _ _=>False
abbrev E0:XK:=λ_ _ _=>False
theorem QB{X:Cx}:Passes nG X E0:=λ_ _ _ _ _ _ _ h=>h.elim
structure tN(K:PySem.W.Frag)(x qual:Str)(st:Stmt)(f:Addr)(fd:FuncData):Prop where
 ex:∃(oc:Value) (od:Option Addr) (kV doc pm:Value) (an:Option Addr) (cdv ct:Value) (osl:Array (Option Value)),
  fd=PySem.W.fnOf x qual (oO st) (iy st) (aP st) .none kV doc pm an cdv ct/\K.lookup f=some ⟨oc,od,.func fd,osl⟩/\PySem.W.codeIn K cdv qual=true
 kp:PySem.W.keepIn K (.ref f)=true
section
variable{P:Program}{w:World}{K:PySem.W.Frag}{mg:Str->Option Value}{base:Heap}
theorem tN.ok{x qual:Str}{st:Stmt}{f:Addr}{fd:FuncData}{N ps:List Str}{k:Nat}{sp:Sp}(F:tN K x qual st f fd)(S:bH N ps (aP st))(len:∀vs H Q E,sp vs H Q E->vs.length=ps.length)
  (hbody:∀(cdv:Value) (A:Around) (outer:List Env) (s:Shared) (H:Hp) (vs:List V) (Q:VK) (E:XK),gi k (A.deeper (envOfC qual (aP st) s.heap.objs.size f cdv))->sp vs H Q E->
   ∃t,iI (pX nG P w K mg base N qual (aP st) f cdv A outer s H E).tu (iy st) t/\t { nx:=λ_ H'=>Q .aS H',rt:=Q } (start N vs) H):iZ P w K mg base nG (k+1) f fd ps sp:=by
 obtain⟨oc,od,kV,doc,pm,an,cdv,ct,osl,rfl,lk,hcd⟩:=F.ex;refine Qw lk hcd S len λA outer s H vs Q E hr kY=>?_;obtain⟨t,h,q⟩:=hbody cdv A outer s H vs Q E hr kY;exact⟨t,h.tu,q⟩
theorem tN.binds{x qual:Str}{st:Stmt}{f:Addr}{fd:FuncData}{ps:List Str}(F:tN K x qual st f fd)
  (h:∀(kV doc pm:Value) (an:Option Addr) (cdv ct:Value) (us:List Value),us.length=ps.length->bindArgs (PySem.W.fnOf x qual (oO st) (iy st) (aP st) .none kV doc pm an cdv ct) ⟨us,[]⟩=pure (ps.zip us)):Binds K fd ps []:=by
 obtain⟨oc,od,kV,doc,pm,an,cdv,ct,osl,rfl,lk,hcd⟩:=F.ex;exact .all (h kV doc pm an cdv ct)
theorem b9{x qual:Str}{st:Stmt}{f:Addr}{oc:Value}{od an:Option Addr}{osl:Array (Option Value)}{kV doc pm cdv ct:Value}(l:K.lookup f=some ⟨oc,od,.func (PySem.W.fnOf x qual (oO st) (iy st) (aP st) .none kV doc pm an cdv ct),osl⟩)
  (c:PySem.W.codeIn K cdv qual=true) (k:PySem.W.keepIn K (.ref f)=true):tN K x qual st f (PySem.W.fnOf x qual (oO st) (iy st) (aP st) .none kV doc pm an cdv ct):=⟨⟨oc,od,kV,doc,pm,an,cdv,ct,osl,rfl,l,c⟩,k⟩
end
theorem zG{A:Around}{k:Nat}(hr:gi k A):A.units+1<cLine:=Nat.lt_of_le_of_lt (Nat.add_le_add_left (by decide:1<=64) _) hr.units
section
variable{X:Cx}
theorem pv (i:Nat) {x:Str}{pos:Pos}(hN:X.N[i]?=some x:=by rfl) (hv:Ba X.env.scope x:=by first|exact Or.inl rfl|exact Or.inr (Or.inl rfl)|exact Or.inr (Or.inr rfl)) (hd:(x==("__debug__" : Str))=false:=by decide)
  (hcd:(x==("__classdict__" : Str))=false:=by decide):PE X (.Name x pos) (Lb i):=Bd hN hv hd hcd
end
end L2
set_option maxRecDepth 100000
namespace L2
open PySem PySem.Spec PyProof.Rows
section
variable{κ:Type}[DecidableEq κ]
noncomputable def ja(kvs:List (κ×V))(k:κ):Option V:=(kvs.find? λkv=>decide (kv.1=k)).map (·.2)
noncomputable def putK(kvs:List (κ×V))(k:κ)(v:V):List (κ×V):=
 if (kvs.any λkv=>decide (kv.1=k))=true then kvs.map (λkv=>if kv.1=k then (kv.1,v)else kv)else kvs++[(k,v)]
theorem pZ{p:κ×V}{r:List (κ×V)}{k:κ}(e:p.1=k):ja (p :: r) k=some p.2:=by simp[ja,List.find?_cons,e]
theorem qa{p:κ×V}{r:List (κ×V)}{k:κ}(e:¬ p.1=k):ja (p :: r) k=ja r k:=by simp[ja,List.find?_cons,e]
theorem vm(k:κ):∀kvs:List (κ×V),(kvs.any λkv=>decide (kv.1=k))=(ja kvs k).isSome
 |[]=>rfl
 |p :: r=>by
  rw[List.any_cons];by_cases e:p.1=k
  .simp only[pZ e,decide_eq_true e,Bool.true_or,Option.isSome_some]
  .rw[qa e,decide_eq_false e,Bool.false_or];exact vm k r
theorem kM(kvs:List (κ×V))(k:κ)(v:V):(putK kvs k v).length<=kvs.length+1:=by
 unfold putK;split
 .rw[List.length_map];omega
 .rw[List.length_append,List.length_cons,List.length_nil];omega
theorem jt.Bx{o:Option V}{u:Option Value}(r:jt o u):o.isSome=u.isSome:=by
 cases o with
 |none=>cases u with
  |none=>rfl
  |some _=>exact(show False from r).elim
 |some _=>cases u with
  |none=>exact(show False from r).elim
  |some _=>rfl
theorem jt.getD{o:Option V}{u:Option Value}{d:V}{d':Value}(r:jt o u)(rd:RelV d d'):RelV (o.getD d) (u.getD d'):=by
 cases o with
 |none=>cases u with
  |none=>exact rd
  |some _=>exact(show False from r).elim
 |some _=>cases u with
  |none=>exact(show False from r).elim
  |some _=>exact r
theorem KV.val{kvs:List (κ×V)}{vs:List (κ×Value)}(r:KV kvs vs)(k:κ):jt (ja kvs k) (valueAt vs k):=by
 unfold KV at r;induction r with
 |nil=>exact True.intro
 |@cons p q ps qs h t ih=>
  obtain⟨h1,h2⟩:=h;by_cases e:p.1=k
  .have e':q.1=k:=h1.symm.trans e;have b:valueAt (q :: qs) k=some q.2:=by simp[valueAt,List.find?_cons,e']
   rw[pZ e,b];exact h2
  .have e':¬ q.1=k:=λz=>e (h1.trans z);have b:valueAt (q :: qs) k=valueAt qs k:=by simp[valueAt,List.find?_cons,e']
   rw[qa e,b];exact ih
theorem KV.any{kvs:List (κ×V)}{vs:List (κ×Value)}(r:KV kvs vs)(k:κ):(kvs.any λkv=>decide (kv.1=k))=vs.any λkv=>decide (kv.1=k):=by
 unfold KV at r;induction r with
 |nil=>rfl
 |cons h t ih=>rw[List.any_cons,List.any_cons,ih,h.1]
theorem KV.repl{kvs:List (κ×V)}{vs:List (κ×Value)}(r:KV kvs vs)(k:κ){y:V}{u:Value}(ry:RelV y u) :
  KV (kvs.map λkv=>if kv.1=k then (kv.1,y)else kv) (vs.map λkv=>if kv.1=k then (kv.1,u)else kv):=by
 unfold KV at r ⊢;induction r with
 |nil=>exact .nil
 |@cons p q ps qs h t ih=>
  rw[List.map_cons,List.map_cons];refine .cons ?_ ih;obtain⟨h1,h2⟩:=h;by_cases e:p.1=k
  .rw[if_pos e,if_pos (h1.symm.trans e)];exact⟨h1,ry⟩
  .rw[if_neg e,if_neg (λz=>e (h1.trans z))];exact⟨h1,h2⟩
theorem KV.put{kvs:List (κ×V)}{vs:List (κ×Value)}(r:KV kvs vs)(k:κ){y:V}{u:Value}(ry:RelV y u):KV (putK kvs k y) (stored vs k u):=by
 unfold putK stored;rw[r.any k];by_cases e:(vs.any λkv=>decide (kv.1=k))=true
 .rw[if_pos e,if_pos e];exact r.repl k ry
 .rw[if_neg e,if_neg e];exact Paired.snoc r ⟨rfl,ry⟩
theorem KV.length{kvs:List (κ×V)}{vs:List (κ×Value)}(r:KV kvs vs):kvs.length=vs.length:=Paired.length r
end
theorem uD{P:Program}{w:World}{k:Key}{u:Value}(r:RelV (kV k) u):(cG P w).is k u=true:=by
 cases k with
 |inl i=>obtain⟨t,e⟩:=(show ∃t,u=Value.int i t from r);subst e;exact xG P w i t
 |inr x=>obtain⟨t,e⟩:=(show ∃t,u=Value.str x t from r);subst e;exact xH P w x t
theorem tO{P:Program}{w:World}:∀{ks:List Key}{us:List Value},Vals (ks.map kV) us->ItemsAre (cG P w) ks us
 |[],_,r=>by rw[List.map_nil]at r;cases r;exact .nil
 |k :: ks,_,r=>by
  rw[List.map_cons]at r;cases r with
  |cons h t=>exact .cons (uD h) (tO t)
abbrev KT(H:Hp):List (List Key×V)->List (List Key×Addr×Value)->Prop:=Paired λp q=>p.1=q.1/\H q.2.1=some (.tup (p.1.map kV))/\RelV p.2 q.2.2
theorem KT.val{H:Hp}{kvs:List (List Key×V)}{xs:List (List Key×Addr×Value)}(r:KT H kvs xs)(k:List Key):jt (ja kvs k) ((atKey xs k).map (·.2)):=by
 induction r with
 |nil=>exact True.intro
 |@cons p q ps qs h t ih=>
  obtain⟨h1,_,h2⟩:=h;by_cases e:p.1=k
  .have e':q.1=k:=h1.symm.trans e;have b:atKey (q :: qs) k=some q.2:=by simp[atKey,List.find?_cons,e']
   rw[pZ e,b];exact h2
  .have e':¬ q.1=k:=λz=>e (h1.trans z);have b:atKey (q :: qs) k=atKey qs k:=by simp[atKey,List.find?_cons,e']
   rw[qa e,b];exact ih
theorem KT.repl{H:Hp}{kvs:List (List Key×V)}{xs:List (List Key×Addr×Value)}(r:KT H kvs xs)(k:List Key){y:V}{u:Value}(ry:RelV y u) :
  KT H (kvs.map λkv=>if kv.1=k then (kv.1,y)else kv) (xs.map (putAt k u)):=by
 induction r with
 |nil=>exact .nil
 |@cons p q ps qs h t ih=>
  rw[List.map_cons,List.map_cons];refine .cons ?_ ih;obtain⟨h1,h2,h3⟩:=h;unfold putAt;by_cases e:p.1=k
  .rw[if_pos e,if_pos (h1.symm.trans e)];exact⟨h1,h2,ry⟩
  .rw[if_neg e,if_neg (λz=>e (h1.trans z))];exact⟨h1,h2,h3⟩
theorem KT.put{H:Hp}{kvs:List (List Key×V)}{xs:List (List Key×Addr×Value)}(r:KT H kvs xs)(k:List Key){b:Addr}{y:V}{u:Value}(hb:H b=some (.tup (k.map kV)))(ry:RelV y u) :
  KT H (putK kvs k y) (storedH xs k b u):=by
 have e:(kvs.any λkv=>decide (kv.1=k))=(atKey xs k).isSome:=by
  rw[vm,(r.val k).Bx,Option.isSome_map]
 unfold putK storedH;rw[e];by_cases q:(atKey xs k).isSome=true
 .rw[if_pos q,if_pos q];exact r.repl k ry
 .rw[if_neg q,if_neg q];exact Paired.snoc r ⟨rfl,hb,ry⟩
theorem KT.keeps{H H':Hp}{kvs:List (List Key×V)}{xs:List (List Key×Addr×Value)}(r:KT H kvs xs)(ht:∀b ys,H b=some (.tup ys)->H' b=some (.tup ys)):KT H' kvs xs:=
 Paired.Du r λ_ _ z=>⟨z.1,ht _ _ z.2.1,z.2.2⟩
section
variable{P:Program}{w:World}{H:Hp}{h:Heap}{a:Addr}
theorem GK{u:HO}(ok:eV P w H h)(e:Rd H a u):dF P w H h a u:=e.ok ok
theorem qv{kvs:List (Key×V)}(ok:eV P w H h)(e:Rd H a (.dK kvs)):kvs.length<=sizeLine/\(a==sysModules)=false/\∃vs,KV kvs vs/\h.DictOf (cG P w) a vs:=
 show dF P w H h a (.dK kvs)from GK ok e
theorem uE{kvs:List (Key×V)}(ok:eV P w H h)(e:H a=some (.dK kvs)):kvs.length<=sizeLine/\(a==sysModules)=false/\∃vs,KV kvs vs/\h.DictOf (cG P w) a vs:=qv ok (.inl e)
theorem qw{ks:List Key}(ok:eV P w H h)(e:H a=some (.tup (ks.map kV))):(tupleKind (cG P w)).is h ks a:=by
 obtain⟨_,its,r,o,h1,h2,n,h3⟩:=(show dF P w H h a (.tup (ks.map kV))from ok a _ e)
 exact⟨o,its.toArray,n,h1,h2,h3,by simpa using tO r⟩
theorem qx{kvs:List (List Key×V)}(ok:eV P w H h)(e:Rd H a (.dT kvs)):kvs.length<=sizeLine/\(a==sysModules)=false/\
  ∃xs,KT H kvs xs/\h.DictOfH (tupleKind (cG P w)) a xs:=by
 obtain⟨z,y,xs,r,o,es,ep,h1,h2,h3,h4,h5⟩:=(show dF P w H h a (.dT kvs)from GK ok e)
 refine⟨z,y,xs,r,o,es,ep,h1,h2,h3,h4,λx hx=>?_,h5⟩;have all:∀{l:List (List Key×V)} {m:List (List Key×Addr×Value)},KT H l m->∀x∈m,(tupleKind (cG P w)).is h x.1 x.2.1:=by
  intro l m q;induction q with
  |nil=>intro x hx;exact nomatch hx
  |@cons p q ps qs hq t ih=>
   intro x hx;rcases List.mem_cons.mp hx with e|hx
   .subst e;exact qw ok (by rw[<-hq.1];exact hq.2.1)
   .exact ih x hx
 exact all r x hx
theorem QC{kvs:List (List Key×V)}(ok:eV P w H h)(e:H a=some (.dT kvs)):kvs.length<=sizeLine/\(a==sysModules)=false/\
  ∃xs,KT H kvs xs/\h.DictOfH (tupleKind (cG P w)) a xs:=qx ok (.inl e)
end
noncomputable def mC(H:Hp)(a:Addr)(y:V)(r:Option V):Prop:=
 (∃kvs k,Rd H a (.dK kvs)/\y=kV k/\r=ja kvs k)\/∃kvs k b,Rd H a (.dT kvs)/\y=.ref b/\H b=some (.tup (k.map kV))/\r=ja kvs k
noncomputable def vn(H:Hp)(a:Addr)(y v:V)(H':Hp):Prop:=
 (∃kvs k,H a=some (.dK kvs)/\y=kV k/\kvs.length<sizeLine/\H'=upd H a (.dK (putK kvs k v)))\/
 ∃kvs k b,H a=some (.dT kvs)/\y=.ref b/\H b=some (.tup (k.map kV))/\kvs.length<sizeLine/\H'=upd H a (.dT (putK kvs k v))
theorem mC.k{H:Hp}{a:Addr}{kvs:List (Key×V)}{k:Key}(e:H a=some (.dK kvs)):mC H a (kV k) (ja kvs k):=.inl ⟨kvs,k,.inl e,rfl,rfl⟩
theorem vn.k{H:Hp}{a:Addr}{kvs:List (Key×V)}{k:Key}{v:V}(e:H a=some (.dK kvs))(hl:kvs.length<sizeLine):vn H a (kV k) v (upd H a (.dK (putK kvs k v))):=.inl ⟨kvs,k,e,rfl,hl,rfl⟩
section
variable{X:Cx}{pins:List (Addr×Obj)}{σ:St}{H:Hp}{s:Shared}{a:Addr}{y v:V}{u r:Value}{o:Option V}{A:Around}{E:Value->Shared->Prop}
theorem Inv.big(I:Inv X pins σ H s):sysModules<s.heap.objs.size:=by
 have h:mainGlobals<s.heap.objs.size:=(I.mod.glob.keeps I.bk).lt;exact Nat.lt_trans (by decide) h
theorem By{Q:Value->Shared->Prop}(hu:A.units+1<cLine)(I:Inv X pins σ H s)(g:mC H a y (some v))(ry:RelV y u)(h:∀w' s',Inv X pins σ H s'->RelV v w'->Q w' s') :
  wpAny (model X.prog X.w) A (getItem (.ref a) u) Q E s:=by
 rcases g with ⟨kvs,k,e,ey,l⟩|⟨kvs,k,b,e,ey,eb,l⟩
 .subst ey;obtain⟨z,hd,vs,rel,dd⟩:=qv I.hok e;obtain⟨w',hw,rw'⟩:=jt.some_of (v:=v) (o:=valueAt vs k) (by rw[l];exact rel.val k);exact wpAny_getItem_of (uD ry) dd.mapOf hw (h w' _ (I.tok _) rw')
 .subst ey;cases (show u=Value.ref b from ry);obtain⟨z,hd,xs,rel,dd⟩:=qx I.hok e;obtain⟨w',hw,rw'⟩:=jt.some_of (v:=v) (o:=(atKey xs k).map (·.2)) (by rw[l];exact rel.val k);obtain⟨p,hp,hp2⟩:=Option.map_eq_some_iff.mp hw;refine wpAny_getItem_heap (tupleKind_room_in1 hu) (qw I.hok eb) dd hp ?_;rw[hp2];exact h w' _ (I.tok _) rw'
theorem rR{h':Heap}{t':Nat}{ob:HO}(I:Inv X pins σ H s)(mu:A8 (H a))(hs:Heap.SameBut a s.heap h')(he:∃q,h'.get? a=some q)(new:dF X.prog X.w (upd H a ob) h' a ob) :
  Inv X pins σ (upd H a ob) { s with heap:=h',toks:=t' }:=
 I.write (x:=a) (e:=a) mu (.inl rfl) (λb q hb z=>(hs.2 b hb).trans z) he new
theorem BA{P:Program}{w:World}{H':Hp}{h':Heap}{kvs:List (Key×V)}{vs:List (Key×Value)}(z:kvs.length<=sizeLine)(hd:(a==sysModules)=false)(rel:KV kvs vs)(dd:h'.DictOf (cG P w) a vs) :
  dF P w H' h' a (.dK kvs):=⟨z,hd,vs,rel,dd⟩
theorem BB{H':Hp}{Q:Unit->Shared->Prop}(hu:A.units+1<cLine)(I:Inv X pins σ H s)(g:vn H a y v H')(ry:RelV y u)(rv:RelV v r)(h:∀s',Inv X pins σ H' s'->Q () s') :
  wpAny (model X.prog X.w) A (setItem (.ref a) u r) Q E s:=by
 rcases g with ⟨kvs,k,e,ey,l,eH⟩|⟨kvs,k,b,e,ey,eb,l,eH⟩
 .subst ey eH;obtain⟨z,hd,vs,rel,dd⟩:=uE I.hok e;have hz:vs.length<=sizeLine:=by rw[<-rel.length];exact z
  have hl:(putK kvs k v).length<=sizeLine:=by have:=kM kvs k v;omega
  refine wpAny_setItem_pairs (hsz:=hz) (uD ry) dd λh' vp hs=>h _ ?_;have he:∃q,h'.get? a=some q:=let ⟨q,_,_,hq,_⟩:=vp;⟨q,hq⟩;exact rR I (by rw[e];exact True.intro) hs he (BA hl hd (rel.put k rv) vp)
 .subst ey eH;cases (show u=Value.ref b from ry);obtain⟨z,hd,xs,rel,dd⟩:=QC I.hok e;have hz:xs.length<=sizeLine:=by rw[<-Paired.length rel];exact z
  have hl:(putK kvs k v).length<=sizeLine:=by have:=kM kvs k v;omega
  refine wpAny_setItem_heap (hsz:=hz) (tupleKind_room_in1 hu) (qw I.hok eb) dd λh' vp hs=>h _ ?_;obtain⟨q,es,ep,hq,h2,h3,h4,_,h5⟩:=vp;refine rR I (by rw[e];exact True.intro) hs ⟨q,hq⟩ ⟨hl,hd,_,(rel.put k eb rv).keeps λc ys ec=>?_,q,es,ep,hq,h2,h3,h4,h5⟩;rw[aV (iH ec e (λz=>nomatch z))];exact ec
end
section
variable{X:Cx}{pins:List (Addr×Obj)}{σ:St}{H:Hp}{s:Shared}{a:Addr}{kvs:List (Key×V)}{k:Key}{u:Value}{A:Around}{E:Value->Shared->Prop}
end
noncomputable def DT(i:Expr):Prop:=∀ov iv,subscripted i false ov iv=operate [ov,iv] (getItem ov iv)
theorem IK{prog:Program}{w:World}{A:Around}{E:Value->Shared->Prop}{s:Shared}{env:Env}{value slice:Expr}{pos:Pos}{T id:String}{Q:Value->Shared->Prop}
  (hl:typeLookup (.type T) "__getitem__" = pure (some (.builtin id))) (hs:DT slice)
  (h:wpAny (model prog w) A (eval value env) (λo s₁=>wpAny (model prog w) A (eval slice env) (λi s₂=>s₂.TypeIs o T/\wpAny (model prog w) A (getItem o i) Q E s₂) E s₁) E s) :
  wpAny (model prog w) A (eval (.Subscript value slice pos) env) Q E s:=by
 refine Subscript_ (wpAny_mono h (λo s₁ h₁=>wpAny_mono h₁ (λi s₂ h₂=>?_) λ_ _ x=>x) λ_ _ x=>x);obtain⟨hT,h₂⟩:=h₂;unfold subscriptTail;refine wpAny_bind ?_;rw[getitemInPython_of_ne hT.not_modules];refine wpAny_bind (wpAny_specialOf hT hl ?_);have fin:wpAny (model prog w) A (subscripted slice false o i) (λr s₃=>wpAny (model prog w) A (letTemporaryGo value o r >>= λ_=>pure r) Q E s₃) E s₂:=by
  rw[hs o i];exact wpAny_operating (wpAny_mono h₂ (λr s₃ h₃=>wpAny_bind (wpAny_letTemporaryGo (wpAny_pure h₃))) λ_ _ x=>x)
 first
  |exact wpAny_pure (wpAny_bind fin)
  |exact wpAny_bind (wpAny_pure (wpAny_bind fin))
  |exact wpAny_bind fin
theorem xK {X:Cx}{pins:List (Addr×Obj)}{σ:St}{H:Hp}{s:Shared}{a:Addr}{y:V}{o:Option V}(I:Inv X pins σ H s) (g:mC H a y o):s.TypeIs (.ref a) "dict" :=by
 rcases g with ⟨kvs,k,e,_,_⟩|⟨kvs,k,b,e,_,_,_⟩
 .obtain⟨_,_,vs,_,dd⟩:=qv I.hok e;exact dd.typeIs
 .obtain⟨_,_,xs,_,dd⟩:=qx I.hok e;exact dd.typeIs
noncomputable def QD(td ty:TE):TE:=λσ H Q=>td σ H λx H1=>ty σ H1 λy H2=>∃a v,x=.ref a/\mC H2 a y (some v)/\Q v H2
noncomputable def QE(td ty tv:TE):TS:=λD σ H=>tv σ H λv H1=>td σ H1 λx H2=>ty σ H2 λy H3=>∃a H4,x=.ref a/\vn H3 a y v H4/\D.nx σ H4
section
variable{X:Cx}{o i e value:Expr}{pos pos' tpos:Pos}{td ty tv:TE}
theorem IL(hu:X.A.units+1<cLine)(ho:PE X o td)(hi:PE X i ty)(hs:DT i):PE X (.Subscript o i pos) (QD td ty):=by
 intro pins s σ H Q I h;refine IK PySem.F.slot_dict_getitem.lookup hs (bF (ho pins s σ H _ I h) λu s1 ⟨x,H1,I1,rx,q1⟩=>bF (hi pins s1 σ H1 _ I1 q1) λiv s2 ⟨y,H2,I2,ry,a,v,ex,g,q2⟩=>?_);subst ex;obtain rfl:u=Value.ref a:=rx;exact⟨xK I2 g,By hu I2 g ry λw' s3 I3 rw'=>⟨v,H2,I3,rw',q2⟩⟩
theorem IM(hu:X.A.units+1<cLine)(ho:PE X o td)(hi:PE X i ty)(hv:PE X value tv)(hs:swapsWith value (some (.Subscript o i pos')) pos.line X.env=pure false) :
  PS X (.Assign [.Subscript o i pos'] value pos) (QE td ty tv):=by
 intro pins s σ H D I h;refine wpAny_Assign_Subscript (bF (hv pins s σ H _ I h) λr s1 ⟨v,H1,I1,rv,q1⟩=>bF (ho pins s1 σ H1 _ I1 q1) λu s2 ⟨x,H2,I2,rx,q2⟩=>bF (hi pins s2 σ H2 _ I2 q2) λiv s3 ⟨y,H3,I3,ry,a,H4,ex,g,q3⟩=>?_) hs;subst ex;obtain rfl:u=Value.ref a:=rx;exact BB hu I3 g ry rv λs4 I4=>⟨σ,H4,I4,q3⟩
end
theorem DU {P:Program}{w:World}{H:Hp}(h:Heap) (hb:sysModules<h.objs.size):dF P w H (h.push { cls:=.type "dict",data:=.dict #[]}) h.objs.size (.dK []):=
 ⟨Nat.zero_le _,beq_eq_false_iff_ne.mpr (Ne.symm (Nat.ne_of_lt hb)),[],.nil,Heap.DictOf.new h⟩
noncomputable def LW:TE:=λ_ H Q=>∀p,H p=none->Q (.ref p) (upd H p (.dK []))
section
variable{X:Cx}{pos:Pos}
theorem DV:PE X (.Dict [] [] pos) LW:=λpins s σ H Q I h=>
 wpAny_Dict_empty ⟨.ref s.heap.objs.size,_,I.laid (a:=s.heap.objs.size) (o:=.dK []) (t':=s.toks) (λ_ _ q=>Heap.get?_push_of_some _ q) (Nat.le_refl _) (DU s.heap I.big),rfl,h _ (I.hok.fresh (Nat.le_refl _))⟩
end
noncomputable def jS(kvs more:List (Key×V)):List (Key×V):=more.foldl (λacc kv=>putK acc kv.1 kv.2) kvs
theorem KV.merge:∀{more:List (Key×V)}{rs:List (Key×Value)}{kvs:List (Key×V)}{vs:List (Key×Value)},KV more rs->KV kvs vs->KV (jS kvs more) (merged vs rs):=by
 intro more rs kvs vs r;unfold KV at r;induction r generalizing kvs vs with
 |nil=>intro q;exact q
 |@cons p q ps qs h t ih=>
  intro r0;have e:KV (putK kvs p.1 p.2) (stored vs q.1 q.2):=by
   have:=r0.put p.1 h.2;rw[<-h.1];exact this
  exact ih e
theorem m8:∀(more kvs:List (Key×V)),(jS kvs more).length<=kvs.length+more.length
 |[],kvs=>by show kvs.length<=kvs.length+0;omega
 |p :: r,kvs=>by
  have h1:=m8 r (putK kvs p.1 p.2);have h2:=kM kvs p.1 p.2;show(jS (putK kvs p.1 p.2) r).length<=_;rw[List.length_cons];omega
structure M1(X:Cx)(o:Expr)(m:Str)(apos:Pos)(e:Expr)(cpos:Pos):Prop where
 base:attributeBase o m X.env (eval o X.env)=eval o X.env
 few:((backTo cpos (starEach [e] X.env)).all (λx=>!x.1)&&(backToKw cpos (keywordEach [] X.env)).all (λx=>x.1.isSome)
  &&decide (([e]:List Expr).length+([]:List Keyword).length+(if ([]:List Keyword).isEmpty then 0 else 1)<30))=true
 line:(apos.endLine==cpos.line)=true
 trees:backTo cpos (starEach [e] X.env)=[(false,eval e X.env)]
structure M2(X:Cx)(o:Expr)(m:Str)(apos:Pos)(e f:Expr)(cpos:Pos):Prop where
 base:attributeBase o m X.env (eval o X.env)=eval o X.env
 few:((backTo cpos (starEach [e,f] X.env)).all (λx=>!x.1)&&(backToKw cpos (keywordEach [] X.env)).all (λx=>x.1.isSome)
  &&decide (([e,f]:List Expr).length+([]:List Keyword).length+(if ([]:List Keyword).isEmpty then 0 else 1)<30))=true
 line:(apos.endLine==cpos.line)=true
 trees:backTo cpos (starEach [e,f] X.env)=[(false,eval e X.env),(false,eval f X.env)]
noncomputable def LX(H:Hp)(a:Addr):Prop:=(∃kvs,Rd H a (.dK kvs))\/∃kvs,Rd H a (.dT kvs)
theorem BC{X:Cx}{pins:List (Addr×Obj)}{σ:St}{H:Hp}{s:Shared}{a:Addr}(I:Inv X pins σ H s)(d:LX H a) :
  s.TypeIs (.ref a) "dict" /\(∀b,Value.ref a=.ref b->∃ob,s.heap.get? b=some ob/\ob.dict=none)/\(a==sysModules)=false:=by
 rcases d with ⟨kvs,e⟩|⟨kvs,e⟩
 .obtain⟨_,hd,vs,_,dd⟩:=qv I.hok e;refine⟨dd.typeIs,λb q=>?_,hd⟩;cases q;obtain⟨ob,_,_,h1,h2,_⟩:=dd;exact⟨ob,h1,h2.2.1⟩
 .obtain⟨_,hd,xs,_,dd⟩:=qx I.hok e;refine⟨dd.typeIs,λb q=>?_,hd⟩;cases q;obtain⟨ob,_,_,h1,h2,_⟩:=dd;exact⟨ob,h1,h2.2.1⟩
section
variable{X:Cx}{pins:List (Addr×Obj)}{σ:St}{H:Hp}{s:Shared}{a:Addr}{y d:V}{u r:Value}{o:Option V}{A:Around}{E:Value->Shared->Prop}
theorem LY{Q:Value->Shared->Prop}(hu:A.units+1<cLine)(I:Inv X pins σ H s)(g:mC H a y o)(ry:RelV y u)(rd:RelV d r)(h:∀w' s',Inv X pins σ H s'->RelV (o.getD d) w'->Q w' s') :
  wpAny (model X.prog X.w) A (call (.builtin "dict.get") [.ref a,u,r]) Q E s:=by
 rcases g with ⟨kvs,k,e,ey,l⟩|⟨kvs,k,b,e,ey,eb,l⟩
 .subst ey;obtain⟨z,hd,vs,rel,dd⟩:=qv I.hok e;refine call_meetsIn PySem.F.slot_dict_get dd.typeIs PySem.F.entry_dict_get (PySem.F.args_dict_get_3 _ _ _) (meets_dict_get_default (cG X.prog X.w) a (uD ry) hd r) ⟨_,dd.mapOf,h _ _ (I.tok _) ?_⟩;rw[l];exact(rel.val k).getD rd
 .subst ey;cases (show u=Value.ref b from ry);obtain⟨z,hd,xs,rel,dd⟩:=qx I.hok e;refine call_meetsIn PySem.F.slot_dict_get dd.typeIs PySem.F.entry_dict_get (PySem.F.args_dict_get_3 _ _ _) (meetsH_dict_get_default (tupleKind (cG X.prog X.w)) a b hd r) ⟨tupleKind_room_in1 hu,k,xs,qw I.hok eb,dd,h _ _ (I.tok _) ?_⟩;rw[l];exact(rel.val k).getD rd
end
noncomputable def LZ(td ty tx:TE):TE:=λσ H Q=>td σ H λx H1=>∃a,x=.ref a/\LX H1 a/\ty σ H1 λy H2=>tx σ H2 λz H3=>∃o,mC H3 a y o/\Q (o.getD z) H3
section
variable{X:Cx}{o e f:Expr}{apos cpos:Pos}{td ty tx:TE}
theorem DX (hu:X.A.units+1<cLine) (ho:PE X o td) (he:PE X e ty) (hf:PE X f tx) (m:M2 X o "get" apos e f cpos):PE X (.Call (.Attribute o "get" apos) [e,f] [] cpos) (LZ td ty tx):=by
 intro pins s σ H Q I h;refine wpAny_Call_method m.base m.few m.line PySem.F.plainAttrs_dict PySem.F.slot_dict_get PySem.F.type_dict_get (bF (ho pins s σ H _ I h) λu s1 ⟨x,H1,I1,rx,a,ex,d,q1⟩=>?_);subst ex;obtain rfl:u=Value.ref a:=rx;obtain⟨t1,t2,_⟩:=BC I1 d;refine⟨t1,t2,?_⟩;rw[m.trees];refine Calls.callWith_builtin rfl (Calls.evalArgs_plain (Calls.spliced_cons (bF (he pins s1 σ H1 _ I1 q1) λiv s2 ⟨y,H2,I2,ry,q2⟩=>
  Calls.spliced_cons (bF (hf pins s2 σ H2 _ I2 q2) λfv s3 ⟨z,H3,I3,rz,ov,g,q3⟩=>Calls.spliced_nil ?_))))
 exact LY hu I3 g ry rz λw' s4 I4 rw'=>⟨_,H3,I4,rw',q3⟩
end
end L2
namespace Ev
inductive D where
 |aS|bl (b:Bool)|int (i:Int)|str (s:List Nat)|tup (ds:List D)|ref (n:Nat)
inductive O where
 |lst (ds:List D)|bP (ds:List D)
 |dct (kvs:List (Int×List Nat))
abbrev Hh:=List O
abbrev Fr:=List (Option D)
inductive R(α:Type) where
 |ok (a:α) (h:Hh)
 |bad
noncomputable def R.bind{α β:Type}(r:R α)(f:α->Hh->R β):R β:=
 match r with
 |.ok a h=>f a h
 |.bad=>.bad
@[simp] theorem ak{α β:Type}(a:α)(h:Hh)(f:α->Hh->R β):(R.ok a h).bind f=f a h:=rfl
@[simp] theorem DY{α β:Type}(f:α->Hh->R β):(R.bad:R α).bind f=.bad:=rfl
theorem ah{α β:Type}{r:R α}{f:α->Hh->R β}{b:β}{h:Hh}(e:r.bind f=.ok b h):∃a h1,r=.ok a h1/\f a h1=.ok b h:=by
 cases r with
 |ok a h1=>exact⟨a,h1,rfl,e⟩
 |bad=>cases e
noncomputable def R.of{α:Type}(o:Option α)(h:Hh):R α:=match o with
 |some a=>.ok a h
 |none=>.bad
@[simp] theorem dX{α:Type}(a:α)(h:Hh):R.of (some a) h=.ok a h:=rfl
@[simp] theorem of_none{α:Type}(h:Hh):R.of (none:Option α) h=.bad:=rfl
theorem aH{α:Type}{o:Option α}{h h':Hh}{a:α}(e:R.of o h=.ok a h'):o=some a/\h'=h:=by
 cases o with
 |none=>cases e
 |some b=>cases e;exact⟨rfl,rfl⟩
inductive bU where
 |add|sub|mul|fdiv|mod
inductive bN where
 |eq|ne|lt|gt
 |isin|g7
 |yo|rS
inductive TY where
 |int|bool|str|tuple|list
inductive BI where
 |len|sum|min
 |all
 |zH
 |ko
inductive ME where
 |join|append|extend|pop
inductive T where
 |one (i:Nat)|many (l:List Nat)
mutual
inductive E where
 |c (d:D)|v (i:Nat)|tup (es:Es)|lst (es:Es)
 |bin (o:bU) (a b:E)|cmp (o:bN) (a b:E)
 |nt (a:E)|neg (a:E)|an (a b:E)|orr (a b:E)|lg (t a b:E)
 |ix (a b:E)|sl (a:E) (lo hi:Eo)
 |m9 (a:E)
 |cl (f:Nat) (es:Es)|bi (b:BI) (es:Es)|me (m:ME) (o:E) (es:Es)
 |comp (elt:E) (t:T) (it:It) (cond:Eo)
 |eF (it:It)
 |nH (kvs:List (D×D)) (a:E)|iY (a:E)
 |ig|kq (a k:E)|kr (a k x:E)
inductive Es where
 |nil|cons (e:E) (es:Es)
inductive Eo where
 |no|yes (e:E)
inductive It where
 |seq (e:E)|fE (es:Es)
 |enum (a:E)|rev (a:E)
end
mutual
inductive S where
 |set (i:Nat) (e:E)|zI (l:List Nat) (e:E)
 |dput (o i e:E)
 |qb (o e:E)|jw (i x y f:Nat)
 |exp (e:E)|ret (e:E)|iff (t:E) (a b:Ss)|for (t:T) (it:It) (b:Ss)|ly (t:E) (b:Ss)
 |eY
inductive Ss where
 |nil|cons (s:S) (ss:Ss)
end
inductive Fl where
 |nx|bk|ct|ret (d:D)
noncomputable def big:Nat:=16777216
noncomputable def cQ(f:D->D->Option Bool):List D->List D->Option Bool
 |[],[]=>some true
 |x :: xs,y :: ys=>do
  let b <-f x y
  let c <-cQ f xs ys
  pure (b&&c)
 |_,_=>some false
noncomputable def bq(h:Hh)(n:Nat):Option (List D):=match h[n]? with
 |some (.lst ds)=>some ds
 |some (.bP ds)=>some ds
 |_=>none
noncomputable def b2i(b:Bool):Int:=if b then 1 else 0
noncomputable def jT(h:Hh)(f:D->D->Option Bool)(a b:Nat):Option Bool:=if a=b then (bq h a).map λ_=>true else match h[a]?,h[b]? with
 |some (.lst x),some (.lst y)=>cQ f x y
 |some (.bP x),some (.lst y)=>cQ f x y
 |some (.lst x),some (.bP y)=>cQ f x y
 |_,_=>none
noncomputable def gq(h:Hh):Nat->D->D->Option Bool
 |0,_,_=>none
 |_+1,.aS,.aS=>some true
 |_+1,.bl a,.bl b=>some (a==b)
 |_+1,.int a,.int b=>some (a==b)
 |_+1,.bl a,.int b=>some (b2i a==b)
 |_+1,.int a,.bl b=>some (a==b2i b)
 |_+1,.str a,.str b=>some (a==b)
 |n+1,.tup a,.tup b=>cQ (gq h n) a b
 |n+1,.ref a,.ref b=>jT h (gq h n) a b
 |_+1,.ref a,_=>(bq h a).map λ_=>false
 |_+1,_,.ref a=>(bq h a).map λ_=>false
 |_+1,_,_=>some false
noncomputable def deep:Nat:=20
noncomputable def truthy(h:Hh):D->Option Bool
 |.aS=>some false
 |.bl b=>some b
 |.int i=>some (i != 0)
 |.str s=>some (!s.isEmpty)
 |.tup ds=>some (!ds.isEmpty)
 |.ref n=>match h[n]? with
  |some (.dct kvs)=>some (!kvs.isEmpty)
  |_=>(bq h n).map λds=>!ds.isEmpty
noncomputable def alloc(ds:List D)(h:Hh):R D:=if ds.length<=big then .ok (.ref h.length) (h++[.lst ds])else .bad
noncomputable def rep{α:Type}(k:Nat)(l:List α):List α:=(List.replicate k l).flatten
noncomputable def cH(i j:Int):Bool:=(decide (-(2 ^ 64)<i)&&decide (i<2 ^ 64)) || (decide (-(2 ^ 64)<j)&&decide (j<2 ^ 64))
noncomputable def bS:bU->D->D->Hh->R D
 |.add,.int i,.int j,h=>.ok (.int (i+j)) h
 |.add,.str a,.str b,h=>if a.length+b.length<=big then .ok (.str (a++b)) h else .bad
 |.add,.tup a,.tup b,h=>if a.length+b.length<=big then .ok (.tup (a++b)) h else .bad
 |.add,.ref a,.ref b,h=>match h[a]?,h[b]? with
  |some (.lst x),some (.lst y)=>alloc (x++y) h
  |_,_=>.bad
 |.sub,.int i,.int j,h=>.ok (.int (i - j)) h
 |.mul,.int i,.int j,h=>if cH i j then .ok (.int (i*j)) h else .bad
 |.mul,.str a,.int k,h=>if 0<=k/\k<=1000/\a.length<=1000 then .ok (.str (rep k.toNat a)) h else .bad
 |.mul,.tup a,.int k,h=>if 0<=k/\k<=1000/\a.length<=1000 then .ok (.tup (rep k.toNat a)) h else .bad
 |.mul,.ref a,.int k,h=>match h[a]? with
  |some (.lst x)=>if 0<=k/\k<=1000/\x.length<=1000 then alloc (rep k.toNat x) h else .bad
  |_=>.bad
 |.fdiv,.int i,.int j,h=>if 0<j/\j<1073741824 then .ok (.int (i / j)) h else .bad
 |.mod,.int i,.int j,h=>if 0<j then .ok (.int (i % j)) h else .bad
 |_,_,_,_=>.bad
noncomputable def mem(h:Hh)(x:D):List D->Option Bool
 |[]=>some false
 |y :: ys=>do
  let b <-gq h deep y x
  let c <-mem h x ys
  pure (b ||c)
noncomputable def isin(x y:D)(h:Hh):Option Bool:=match y with
 |.str s=>match x with
  |.str [c]=>some (s.contains c)
  |_=>none
 |.tup ds=>mem h x ds
 |.ref n=>(bq h n).bind λds=>mem h x ds
 |_=>none
noncomputable def cop(o:bN)(x y:D)(h:Hh):Option Bool:=match o,x,y with
 |.eq,x,y=>gq h deep x y
 |.ne,x,y=>(gq h deep x y).map (!·)
 |.lt,.int i,.int j=>some (decide (i<j))
 |.gt,.int i,.int j=>some (decide (j<i))
 |.isin,x,y=>isin x y h
 |.g7,x,y=>(isin x y h).map (!·)
 |.yo,x,.aS=>some (match x with|.aS=>true|_=>false)
 |.rS,x,.aS=>some (match x with|.aS=>false|_=>true)
 |_,_,_=>none
noncomputable def ef(n:Nat)(i:Int):Option Nat:=if 0<=i then (if i<n then some i.toNat else none)else if -(n:Int)<=i then some (i+n).toNat else none
noncomputable def bL{α:Type}(xs:List α)(i:Int):Option α:=(ef xs.length i).bind λj=>xs[j]?
noncomputable def dY(x y:D)(h:Hh):Option D:=match x,y with
 |.tup ds,.int i=>bL ds i
 |.str s,.int i=>(bL s i).map λc=>.str [c]
 |.ref n,.int i=>(bq h n).bind λds=>bL ds i
 |_,_=>none
noncomputable def aT(n d:Nat):Option Int->Nat
 |none=>d
 |some v=>if v<0 then (v+n).toNat else min v.toNat n
noncomputable def cut{α:Type}(xs:List α)(lo hi:Option Int):List α:=(xs.drop (aT xs.length 0 lo)).take (aT xs.length xs.length hi - aT xs.length 0 lo)
noncomputable def gT(x:D)(lo hi:Option Int)(h:Hh):R D:=match x with
 |.tup ds=>.ok (.tup (cut ds lo hi)) h
 |.str s=>.ok (.str (cut s lo hi)) h
 |.ref n=>match bq h n with
  |some ds=>alloc (cut ds lo hi) h
  |none=>.bad
 |_=>.bad
noncomputable def boolsOf:List D->Option (List Bool)
 |[]=>some []
 |.bl b :: ds=>(boolsOf ds).map λr=>b :: r
 |_=>none
noncomputable def intsOf:List D->Option (List Int)
 |[]=>some []
 |.int i :: ds=>(intsOf ds).map λr=>i :: r
 |_=>none
noncomputable def strsOf:List D->Option (List (List Nat))
 |[]=>some []
 |.str s :: ds=>(strsOf ds).map λr=>s :: r
 |_=>none
noncomputable def cV(sep:List Nat):List (List Nat)->List Nat
 |[]=>[]
 |[s]=>s
 |s :: t :: r=>s++sep++cV sep (t :: r)
noncomputable def lexLe:List Nat->List Nat->Bool
 |[],_=>true
 |_ :: _,[]=>false
 |x :: xs,y :: ys=>if x=y then lexLe xs ys else decide (x<y)
noncomputable def L0(x:List Nat):List (List Nat)->List (List Nat)
 |[]=>[x]
 |y :: ys=>if lexLe x y then x :: y :: ys else y :: L0 x ys
noncomputable def eO:List (List Nat)->List (List Nat)
 |[]=>[]
 |x :: xs=>L0 x (eO xs)
noncomputable def cJ(kvs:List (Int×List Nat))(k:Int):Option (List Nat):=(kvs.find? λp=>decide (p.1=k)).map (·.2)
noncomputable def di(kvs:List (Int×List Nat))(k:Int)(s:List Nat):List (Int×List Nat):=if (kvs.any λp=>decide (p.1=k))=true then kvs.map (λp=>if p.1=k then (p.1,s)else p)else kvs++[(k,s)]
noncomputable def eZ(h:Hh):D->Option (List (Int×List Nat))
 |.ref n=>match h[n]? with
  |some (.dct kvs)=>some kvs
  |_=>none
 |_=>none
noncomputable def vq(x y:D)(h:Hh):Option D:=match eZ h x,y with
 |some kvs,.int k=>(cJ kvs k).map .str
 |_,_=>none
noncomputable def vt(x y z:D)(h h0:Hh):Option D:=match eZ h0 x,eZ h x,y with
 |some _,some kvs,.int k=>some (match cJ kvs k with|some s=>.str s|none=>z)
 |_,_,_=>none
noncomputable def uF(x y z:D)(h:Hh):Option Hh:=match x,y,z with
 |.ref n,.int k,.str s=>match h[n]? with
  |some (.dct kvs)=>if kvs.length<big then some (h.set n (.dct (di kvs k s)))else none
  |_=>none
 |_,_,_=>none
noncomputable def dj(k m:List (Int×List Nat)):List (Int×List Nat):=m.foldl (λa p=>di a p.1 p.2) k
noncomputable def uG(x y:D)(h h0:Hh):Option Hh:=match x,y with
 |.ref n,.ref m=>match eZ h0 (.ref n),h[n]?,h[m]? with
  |some _,some (.dct k),some (.dct j)=>if n≠m/\k.length+j.length<=big then some (h.set n (.dct (dj k j)))else none
  |_,_,_=>none
 |_,_=>none
noncomputable def insI(x:Int):List Int->List Int
 |[]=>[x]
 |y :: ys=>if x<=y then x :: y :: ys else y :: insI x ys
noncomputable def sortI:List Int->List Int
 |[]=>[]
 |x :: xs=>insI x (sortI xs)
noncomputable def cX(b:BI)(xs:List D)(h:Hh):R D:=match b,xs with
 |.len,[.str s]=>if s.length<=big then .ok (.int s.length) h else .bad
 |.len,[.tup ds]=>.ok (.int ds.length) h
 |.len,[.ref n]=>R.of ((bq h n).map λds=>.int ds.length) h
 |.all,[.ref n]=>R.of (((bq h n).bind boolsOf).map λbs=>.bl (bs.all id)) h
 |.sum,[.ref n]=>R.of (((bq h n).bind intsOf).map λis=>.int is.sum) h
 |.min,[.int i,.int j]=>.ok (.int (if j<i then j else i)) h
 |.zH,[.ref n]=>match (bq h n).bind intsOf with
  |some ss=>if ss.length<64 then alloc ((sortI ss).map .int) h else .bad
  |none=>.bad
 |.ko,[x]=>match eZ h x with
  |some kvs=>if kvs.length<64 then alloc ((sortI (kvs.map (·.1))).map .int) h else .bad
  |none=>.bad
 |_,_=>.bad
noncomputable def fN(m:ME)(o:D)(xs:List D)(h:Hh):R D:=match m,o,xs with
 |.join,.str sep,[.ref n]=>match (bq h n).bind strsOf with
  |some ss=>if (ss.map (·.length)).sum+ss.length*sep.length<=big then .ok (.str (cV sep ss)) h else .bad
  |none=>.bad
 |.append,.ref n,[x]=>match h[n]? with
  |some (.lst ds)=>if ds.length<big then .ok .aS (h.set n (.lst (ds++[x])))else .bad
  |_=>.bad
 |.extend,.ref n,[.ref m]=>match h[n]?,h[m]? with
  |some (.lst ds),some (.lst es)=>if ds.length+es.length<=big then .ok .aS (h.set n (.lst (ds++es)))else .bad
  |_,_=>.bad
 |.pop,.ref n,[]=>match h[n]? with
  |some (.lst ds)=>match ds[ds.length - 1]? with
   |some x=>.ok x (h.set n (.lst ds.dropLast))
   |none=>.bad
  |_=>.bad
 |_,_,_=>.bad
noncomputable def yp(m:ME)(x:D)(h:Hh):Bool:=match m,x with
 |.join,.str _=>true
 |.join,_=>false
 |_,.ref n=>(bq h n).isSome
 |_,_=>false
noncomputable def iL(x:D):List (D×D)->Option D
 |[]=>none
 | (k,v) :: r=>match gq [] 1 k x with
  |some true=>some v
  |some false=>iL x r
  |none=>none
abbrev Src:=List D×List (Nat×List D)
noncomputable def e8(h:Hh):D->Option Src
 |.tup ds=>some (ds,[])
 |.str s=>some (s.map λc=>.str [c],[])
 |.ref n=>(bq h n).map λds=>(ds,[(n,ds)])
 |_=>none
noncomputable def range(lo:Int)(n:Nat):List D:=(List.range n).map λ(i:Nat)=>.int (lo+i)
noncomputable def er:List D->Option Src
 |[.int j]=>if -(2 ^ 62)<=j/\j<2 ^ 62 then some (range 0 j.toNat,[])else none
 |[.int i,.int j]=>if -(2 ^ 62)<=i/\i<2 ^ 62/\-(2 ^ 62)<=j/\j<2 ^ 62 then some (range i (j - i).toNat,[])else none
 |_=>none
noncomputable def g8:Int->List D->List D
 |_,[]=>[]
 |k,x :: xs=>.tup [.int k,x] :: g8 (k+1) xs
noncomputable def zJ(a b:List D):Bool:=@decide (a=b) (Classical.propDecidable _)
theorem tP(a b:List D):zJ a b=true↔a=b:=@decide_eq_true_iff _ (Classical.propDecidable _)
@[simp] theorem zK(a:List D):zJ a a=true:=(tP a a).mpr rfl
noncomputable def stays(h:Hh):List (Nat×List D)->Bool
 |[]=>true
 | (n,ds) :: r=>(match bq h n with|some es=>zJ es ds|none=>false)&&stays h r
noncomputable def cU:List Nat->List D->Fr->Option Fr
 |[],[],fr=>some fr
 |i :: is,d :: ds,fr=>cU is ds (fr.set i (some d))
 |_,_,_=>none
noncomputable def bC:T->D->Fr->Option Fr
 |.one i,d,fr=>some (fr.set i (some d))
 |.many l,.tup ds,fr=>cU l ds fr
 |_,_,_=>none
noncomputable def slots:T->List Nat
 |.one i=>[i]
 |.many l=>l
noncomputable def undef(t:T)(fr:Fr):Bool:=(slots t).all λi=>(fr[i]?.join).isNone
noncomputable def DZ:D->Option (List D)
 |.tup ds=>some ds
 |_=>none
noncomputable def rT:D->Hh->R D
 |.tup ds,h=>.ok (.tup ds) h
 |.ref n,h=>match bq h n with
  |some ds=>if ds.length<=big then .ok (.tup ds) h else .bad
  |none=>.bad
 |_,_=>.bad
noncomputable def zL:D->Hh->R D
 |.ref n,h=>match bq h n with
  |some ds=>if ds.length<=big then .ok (.tup ds.reverse) h else .bad
  |none=>.bad
 |_,_=>.bad
noncomputable def D0(h:Hh):D->Option Src
 |.ref n=>(bq h n).map λds=>(ds,[(n,ds)])
 |_=>none
noncomputable def cW(f:D->Hh->R (Option D))(ck:List (Nat×List D)):List D->Hh->R (List D)
 |[],h=>if stays h ck then .ok [] h else .bad
 |d :: ds,h=>if stays h ck then (f d h).bind λo h1=>(cW f ck ds h1).bind λr h2=>.ok (o.toList++r) h2 else .bad
noncomputable def forL(f:D->Fr->Hh->R (Fl×Fr))(ck:List (Nat×List D)):List D->Fr->Hh->R (Fl×Fr)
 |[],fr,h=>if stays h ck then .ok (.nx,fr) h else .bad
 |d :: ds,fr,h=>if stays h ck then (f d fr h).bind λp h1=>match p.1 with
   |.nx=>forL f ck ds p.2 h1
   |.ct=>forL f ck ds p.2 h1
   |.bk=>.ok (.nx,p.2) h1
   |.ret x=>.ok (.ret x,p.2) h1
  else .bad
noncomputable def eL(t:Fr->Hh->R Bool)(f:Fr->Hh->R (Fl×Fr)):Nat->Fr->Hh->R (Fl×Fr)
 |0,_,_=>.bad
 |n+1,fr,h=>(t fr h).bind λb h1=>if b then (f fr h1).bind λp h2=>match p.1 with
   |.nx=>eL t f n p.2 h2
   |.ct=>eL t f n p.2 h2
   |.bk=>.ok (.nx,p.2) h2
   |.ret x=>.ok (.ret x,p.2) h2
  else .ok (.nx,fr) h1
abbrev aO:=Nat->List D->Hh->R D
noncomputable def intOf:D->Option Int
 |.int i=>some i
 |_=>none
mutual
noncomputable def ev(P:aO):E->Fr->Hh->R D
 |.c d,_,h=>.ok d h
 |.v i,fr,h=>R.of (fr[i]?.join) h
 |.tup es,fr,h=>(cg P es fr h).bind λds h1=>if ds.length<=big then .ok (.tup ds) h1 else .bad
 |.lst es,fr,h=>(cg P es fr h).bind λds h1=>alloc ds h1
 |.bin o a b,fr,h=>(ev P a fr h).bind λx h1=>(ev P b fr h1).bind λy h2=>bS o x y h2
 |.cmp o a b,fr,h=>(ev P a fr h).bind λx h1=>(ev P b fr h1).bind λy h2=>R.of ((cop o x y h2).map .bl) h2
 |.nt a,fr,h=>(ev P a fr h).bind λx h1=>match x with
   |.bl b=>.ok (.bl (!b)) h1
   |_=>.bad
 |.neg a,fr,h=>(ev P a fr h).bind λx h1=>match x with
   |.int i=>.ok (.int (-i)) h1
   |_=>.bad
 |.an a b,fr,h=>(ev P a fr h).bind λx h1=>match x with
   |.bl true=>ev P b fr h1
   |.bl false=>.ok (.bl false) h1
   |_=>.bad
 |.orr a b,fr,h=>(ev P a fr h).bind λx h1=>match x with
   |.bl true=>.ok (.bl true) h1
   |.bl false=>ev P b fr h1
   |_=>.bad
 |.lg t a b,fr,h=>(aI P t fr h).bind λk h1=>if k then ev P a fr h1 else ev P b fr h1
 |.ix a b,fr,h=>(ev P a fr h).bind λx h1=>(ev P b fr h1).bind λy h2=>R.of (dY x y h2) h2
 |.sl a lo hi,fr,h=>(ev P a fr h).bind λx h1=>(gk P lo fr h1).bind λl h2=>(gk P hi fr h2).bind λu h3=>gT x l u h3
 |.m9 a,fr,h=>(ev P a fr h).bind λx h1=>zL x h1
 |.cl f es,fr,h=>(cg P es fr h).bind λds h1=>P f ds h1
 |.bi b es,fr,h=>(cg P es fr h).bind λds h1=>cX b ds h1
 |.me m o es,fr,h=>(ev P o fr h).bind λx h1=>if yp m x h1 then (cg P es fr h1).bind λds h2=>fN m x ds h2 else .bad
 |.comp elt t it cond,fr,h=>(cF P it fr h).bind λs h1=>if undef t fr then
   (cW (λd h2=>match bC t d fr with
    |none=>.bad
    |some ao=>(iM P cond ao h2).bind λk h3=>if k then (ev P elt ao h3).bind λx h4=>.ok (some x) h4 else .ok none h3) s.2 s.1 h1).bind λds h2=>alloc ds h2 else .bad
 |.eF it,fr,h=>(cF P it fr h).bind λs h1=>alloc s.1 h1
 |.nH kvs a,fr,h=>(ev P a fr h).bind λx h1=>R.of (iL x kvs) h1
 |.ig,_,h=>.ok (.ref h.length) (h++[.dct []])
 |.kq a k,fr,h=>(ev P a fr h).bind λx h1=>(ev P k fr h1).bind λy h2=>R.of (vq x y h2) h2
 |.kr a k z,fr,h=>(ev P a fr h).bind λx h1=>(ev P k fr h1).bind λy h2=>(ev P z fr h2).bind λw h3=>R.of (vt x y w h3 h1) h3
 |.iY a,fr,h=>(ev P a fr h).bind λx h1=>rT x h1
noncomputable def cg(P:aO):Es->Fr->Hh->R (List D)
 |.nil,_,h=>.ok [] h
 |.cons e es,fr,h=>(ev P e fr h).bind λd h1=>(cg P es fr h1).bind λds h2=>.ok (d :: ds) h2
noncomputable def gk(P:aO):Eo->Fr->Hh->R (Option Int)
 |.no,_,h=>.ok none h
 |.yes e,fr,h=>(ev P e fr h).bind λd h1=>R.of ((intOf d).map some) h1
noncomputable def iM(P:aO):Eo->Fr->Hh->R Bool
 |.no,_,h=>.ok true h
 |.yes e,fr,h=>aI P e fr h
noncomputable def aI(P:aO):E->Fr->Hh->R Bool
 |.an a b,fr,h=>(aI P a fr h).bind λk h1=>if k then aI P b fr h1 else .ok false h1
 |.orr a b,fr,h=>(aI P a fr h).bind λk h1=>if k then .ok true h1 else aI P b fr h1
 |.nt a,fr,h=>(aI P a fr h).bind λk h1=>.ok (!k) h1
 |e,fr,h=>(ev P e fr h).bind λx h1=>R.of (truthy h1 x) h1
noncomputable def cF(P:aO):It->Fr->Hh->R Src
 |.seq e,fr,h=>(ev P e fr h).bind λx h1=>R.of (e8 h1 x) h1
 |.fE es,fr,h=>(cg P es fr h).bind λds h1=>R.of (er ds) h1
 |.enum a,fr,h=>(ev P a fr h).bind λx h1=>R.of ((D0 h1 x).map λs=>(g8 0 s.1,s.2)) h1
 |.rev a,fr,h=>(ev P a fr h).bind λx h1=>R.of ((DZ x).map λds=>(ds.reverse,[])) h1
end
noncomputable def vv(P:aO)(o e:E)(fr:Fr)(h:Hh):R (Fl×Fr):=(ev P o fr h).bind λx h1=>(ev P e fr h1).bind λy h2=>match uG x y h2 h1 with
 |some h3=>.ok (.nx,fr) h3
 |none=>.bad
mutual
noncomputable def ex(P:aO)(w:Nat):S->Fr->Hh->R (Fl×Fr)
 |.set i e,fr,h=>(ev P e fr h).bind λx h1=>.ok (.nx,fr.set i (some x)) h1
 |.zI l e,fr,h=>(ev P e fr h).bind λx h1=>match bC (.many l) x fr with
   |some ao=>.ok (.nx,ao) h1
   |none=>.bad
 |.dput o i e,fr,h=>(ev P e fr h).bind λx h1=>(ev P o fr h1).bind λy h2=>(ev P i fr h2).bind λz h3=>match uF y z x h3 with
   |some h4=>.ok (.nx,fr) h4
   |none=>.bad
 |.qb o e,fr,h=>vv P o e fr h
 |.jw i x y f,fr,h=>(cF P (.seq (.v y)) (fr.set i (some (.ref h.length))) (h++[.dct []])).bind λs h1=>forL (λd ao h2=>match bC (.one x) d ao with
   |some bI=>vv P (.v i) (.cl f (.cons (.v x) .nil)) bI h2
   |none=>.bad) s.2 s.1 (fr.set i (some (.ref h.length))) h1
 |.exp e,fr,h=>(ev P e fr h).bind λ_ h1=>.ok (.nx,fr) h1
 |.ret e,fr,h=>(ev P e fr h).bind λx h1=>.ok (.ret x,fr) h1
 |.iff t a b,fr,h=>(aI P t fr h).bind λk h1=>if k then exs P w a fr h1 else exs P w b fr h1
 |.for t it b,fr,h=>(cF P it fr h).bind λs h1=>forL (λd ao h2=>match bC t d ao with
   |some bI=>exs P w b bI h2
   |none=>.bad) s.2 s.1 fr h1
 |.ly t b,fr,h=>eL (λao h2=>aI P t ao h2) (λao h2=>exs P w b ao h2) w fr h
 |.eY,_,_=>.bad
noncomputable def exs(P:aO)(w:Nat):Ss->Fr->Hh->R (Fl×Fr)
 |.nil,fr,h=>.ok (.nx,fr) h
 |.cons s ss,fr,h=>(ex P w s fr h).bind λp h1=>match p.1 with
   |.nx=>exs P w ss p.2 h1
   |_=>.ok p h1
end
structure Fn where
 np:Nat
 ns:Nat
 body:Ss
noncomputable def eT(fn:Fn)(ds:List D):Fr:=ds.map some++List.replicate (fn.ns - fn.np) none
noncomputable def endOf(r:R (Fl×Fr)):R D:=r.bind λp h=>match p.1 with
 |.ret d=>.ok d h
 |.nx=>.ok .aS h
 |_=>.bad
noncomputable def run(F:List Fn)(w:Nat):Nat->aO
 |0,_,_,_=>.bad
 |n+1,f,ds,h=>match F[f]? with
  |some fn=>if ds.length=fn.np then endOf (exs (run F w n) w fn.body (eT fn ds) h)else .bad
  |none=>.bad
end Ev
set_option maxRecDepth 100000
namespace Sm
open PySem PySem.Spec PyProof.Rows L2
noncomputable def aW(l:List Nat):Str:=⟨l.toArray⟩
theorem dc(l:List Nat):(aW l).length=l.length:=by simp[aW,Str.length]
theorem yq{a b:List Nat}(h:aW a=aW b):a=b:=by
 have h1:a.toArray=b.toArray:=congrArg Str.cps h;simpa using congrArg Array.toList h1
theorem gU:Ev.big=sizeLine:=by rw[sizeLine_eq];rfl
section
variable(K:PySem.W.Frag)
mutual
noncomputable def RV(H:Hp)(r:List Addr):Ev.D->V->Prop
 |.aS,v=>v=.aS
 |.bl b,v=>v=.bl b
 |.int i,v=>v=.int i
 |.str s,v=>v=.str (aW s)/\s.length<=sizeLine
 |.ref n,v=>∃a,v=.ref a/\r[n]?=some a
 |.tup ds,v=>∃a vs,v=.ref a/\dP K H a vs/\aG H r ds vs
noncomputable def aG(H:Hp)(r:List Addr):List Ev.D->List V->Prop
 |[],vs=>vs=[]
 |d :: ds,vs=>∃v w,vs=v :: w/\RV H r d v/\aG H r ds w
end
noncomputable def zM(H:Hp)(a:Addr)(vs:List V):Prop:=(∃o,H a=some (.bP o (.lst vs)))\/
 ∃(o:Obj) (its:Array Value) (n:Nat),K.lookup a=some o/\o.cls=.type "list" /\o.dict=none/\o.data=.seq its n/\its.size<=sizeLine/\Vals vs its.toList
noncomputable def ee(kvs:List (Int×List Nat)):List (Key×V):=kvs.map λp=>(Sum.inl p.1,V.str (aW p.2))
noncomputable def RO(H:Hp)(r:List Addr):Ev.O->Addr->Prop
 |.lst ds,a=>∃vs,H a=some (.lst vs)/\aG K H r ds vs
 |.bP ds,a=>∃vs,zM K H a vs/\aG K H r ds vs
 |.dct kvs,a=>H a=some (.dK (ee kvs))/\∀p∈kvs,p.2.length<=sizeLine
structure HR(H:Hp)(r:List Addr)(h:Ev.Hh):Prop where
 len:r.length=h.length
 ob:∀(n:Nat) o,h[n]?=some o->∃a,r[n]?=some a/\RO K H r o a
 inj:∀(n m:Nat) a x y,r[n]?=some a->r[m]?=some a->h[n]?=some (.lst x)->h[m]?=some (.lst y)->n=m
 ku:∀(n m:Nat) a x y,r[n]?=some a->r[m]?=some a->h[n]?=some (.dct x)->h[m]?=some (.dct y)->n=m
structure Fm(r r':List Addr)(H H':Hp):Prop where
 pre:∀(n:Nat) a,r[n]?=some a->r'[n]?=some a
 new:∀a∈r',a∈r\/H a=none
 keep:∀a o,H a=some o->a∉r->H' a=some o
 tups:∀a vs,dP K H a vs->dP K H' a vs
end
section
variable{K:PySem.W.Frag}{H H1 H2:Hp}{r r1 r2:List Addr}{h:Ev.Hh}
theorem Fm.refl:Fm K r r H H:=⟨λ_ _ e=>e,λ_ e=>.inl e,λ_ _ e _=>e,λ_ _ e=>e⟩
theorem Fm.trans(a:Fm K r r1 H H1)(b:Fm K r1 r2 H1 H2):Fm K r r2 H H2 where
 pre:=λn x e=>b.pre n x (a.pre n x e)
 new:=λx e=>by
  rcases b.new x e with q|q
  .exact a.new x q
  .by_cases z:x∈r
   .exact .inl z
   .refine .inr ?_;cases w:H x with
    |none=>rfl
    |some o=>rw[a.keep x o w z]at q;cases q
 keep:=λx o e n=>by
  refine b.keep x o (a.keep x o e n) λz=>?_;rcases a.new x z with q|q
  .exact n q
  .rw[e]at q;cases q
 tups:=λx vs e=>b.tups x vs (a.tups x vs e)
mutual
theorem RV.grow(f:∀(n:Nat) a,r[n]?=some a->r1[n]?=some a)(g:∀a vs,dP K H a vs->dP K H1 a vs):∀{d:Ev.D}{v:V},RV K H r d v->RV K H1 r1 d v
 |.aS,_,e=>e
 |.bl _,_,e=>e
 |.int _,_,e=>e
 |.str _,_,e=>e
 |.ref n,_,⟨a,e,z⟩=>⟨a,e,f n a z⟩
 |.tup ds,_,⟨a,vs,e,z,q⟩=>⟨a,vs,e,g a vs z,aG.grow f g q⟩
theorem aG.grow(f:∀(n:Nat) a,r[n]?=some a->r1[n]?=some a)(g:∀a vs,dP K H a vs->dP K H1 a vs):∀{ds:List Ev.D}{vs:List V},aG K H r ds vs->aG K H1 r1 ds vs
 |[],_,e=>e
 |_ :: _,_,⟨v,w,e,z,q⟩=>⟨v,w,e,RV.grow f g z,aG.grow f g q⟩
end
theorem RV.mono(f:Fm K r r1 H H1){d:Ev.D}{v:V}(q:RV K H r d v):RV K H1 r1 d v:=q.grow f.pre f.tups
theorem aG.mono(f:Fm K r r1 H H1){ds:List Ev.D}{vs:List V}(q:aG K H r ds vs):aG K H1 r1 ds vs:=q.grow f.pre f.tups
theorem aG.nil:aG K H r [] []:=by simp[aG]
theorem aG.cons{d:Ev.D}{v:V}{ds:List Ev.D}{vs:List V}(a:RV K H r d v)(b:aG K H r ds vs):aG K H r (d :: ds) (v :: vs):=by
 simp only[aG];exact⟨v,vs,rfl,a,b⟩
theorem aG.length:∀{ds:List Ev.D}{vs:List V},aG K H r ds vs->vs.length=ds.length
 |[],_,e=>by simp only[aG]at e;subst e;rfl
 |_ :: _,_,e=>by
  simp only[aG]at e;obtain⟨v,w,rfl,_,q⟩:=e;simp[aG.length q]
theorem aG.get:∀{ds:List Ev.D}{vs:List V}{i:Nat}{d:Ev.D},aG K H r ds vs->ds[i]?=some d->∃v,vs[i]?=some v/\RV K H r d v
 |[],_,_,_,_,e=>by simp at e
 |_ :: _,_,0,_,h,e=>by
  simp only[aG]at h;obtain⟨v,w,rfl,z,q⟩:=h;simp at e;subst e;exact⟨v,by simp,z⟩
 |_ :: _,_,i+1,_,h,e=>by
  simp only[aG]at h;obtain⟨v,w,rfl,z,q⟩:=h;obtain⟨u,a,b⟩:=aG.get (i:=i) q (by simpa using e);exact⟨u,by simpa using a,b⟩
theorem aG.append:∀{ds es:List Ev.D}{vs ws:List V},aG K H r ds vs->aG K H r es ws->aG K H r (ds++es) (vs++ws)
 |[],_,_,_,a,b=>by simp only[aG]at a;subst a;simpa using b
 |_ :: _,_,_,_,a,b=>by
  simp only[aG]at a;obtain⟨v,w,rfl,z,q⟩:=a;simp only[List.cons_append];exact .cons z (aG.append q b)
theorem aG.take:∀{ds:List Ev.D}{vs:List V}(n:Nat),aG K H r ds vs->aG K H r (ds.take n) (vs.take n)
 |_,_,0,_=>by simp[aG]
 |[],_,_+1,a=>by simp only[aG]at a;subst a;simp[aG]
 |_ :: _,_,n+1,a=>by
  simp only[aG]at a;obtain⟨v,w,rfl,z,q⟩:=a;simp only[List.take_succ_cons];exact .cons z (aG.take n q)
theorem aG.drop:∀{ds:List Ev.D}{vs:List V}(n:Nat),aG K H r ds vs->aG K H r (ds.drop n) (vs.drop n)
 |_,_,0,a=>by simpa using a
 |[],_,_+1,a=>by simp only[aG]at a;subst a;simp[aG]
 |_ :: _,_,n+1,a=>by
  simp only[aG]at a;obtain⟨v,w,rfl,z,q⟩:=a;simp only[List.drop_succ_cons];exact aG.drop n q
theorem aG.reverse:∀{ds:List Ev.D}{vs:List V},aG K H r ds vs->aG K H r ds.reverse vs.reverse
 |[],_,a=>by simp only[aG]at a;subst a;simp[aG]
 |_ :: _,_,a=>by
  simp only[aG]at a;obtain⟨v,w,rfl,z,q⟩:=a;simp only[List.reverse_cons];exact(aG.reverse q).append (.cons z .nil)
theorem aG.rep{ds:List Ev.D}{vs:List V}(a:aG K H r ds vs):∀k:Nat,aG K H r (Ev.rep k ds) (Ev.rep k vs)
 |0=>by simp[Ev.rep,aG]
 |k+1=>by
  have h:=aG.rep a k;simp only[Ev.rep,List.replicate_succ,List.flatten_cons]at h ⊢;exact a.append h
theorem Fm.laid{p:Addr}{o:HO}(hp:H p=none):Fm K r (r++[p]) H (upd H p o) where
 pre:=λn a e=>by rw[List.getElem?_append_left (List.getElem?_eq_some_iff.mp e).1];exact e
 new:=λa e=>by
  rcases List.mem_append.mp e with q|q
  .exact .inl q
  .rw[List.mem_singleton]at q;subst q;exact .inr hp
 keep:=λa ob e _=>by rw[aV (bG e hp)];exact e
 tups:=λa vs e=>by
  rcases e with (e|⟨ob,e⟩)|e
  .exact .inl (.inl (by rw[aV (bG e hp)];exact e))
  .exact .inl (.inr ⟨ob,by rw[aV (bG e hp)];exact e⟩)
  .exact .inr e
theorem Fm.tup{p:Addr}{o:HO}(hp:H p=none):Fm K r r H (upd H p o) where
 pre:=λn a e=>e
 new:=λa e=>.inl e
 keep:=λa ob e _=>by rw[aV (bG e hp)];exact e
 tups:=(Fm.laid (r:=r) hp).tups
theorem RO.mono{o:Ev.O}{a:Addr}(f:Fm K r r1 H H1)(q:RO K H r o a)(hl:∀ds vs,o=.lst ds->H a=some (.lst vs)->H1 a=some (.lst vs))(hf:∀ob vs,H a=some (.bP ob vs)->H1 a=some (.bP ob vs))
  (hd:∀kvs vs,o=.dct kvs->H a=some (.dK vs)->H1 a=some (.dK vs))
  : RO K H1 r1 o a:=by
 cases o with
 |lst ds=>
  obtain⟨vs,e,z⟩:=q;exact⟨vs,hl ds vs rfl e,z.mono f⟩
 |bP ds=>
  obtain⟨vs,e,z⟩:=q;refine⟨vs,?_,z.mono f⟩;rcases e with ⟨ob,e⟩|e
  .exact .inl ⟨ob,hf _ _ e⟩
  .exact .inr e
 |dct kvs=>exact⟨hd kvs _ rfl q.1,q.2⟩
theorem HR.tup{p:Addr}{o:HO}(hr:HR K H r h)(hp:H p=none):HR K (upd H p o) r h where
 len:=hr.len
 ob:=λn ob e=>by
  obtain⟨a,e1,q⟩:=hr.ob n ob e;exact⟨a,e1,q.mono (Fm.tup hp) (λ_ vs _ z=>by rw[aV (bG z hp)];exact z) (λ_ _ z=>by rw[aV (bG z hp)];exact z)
   (λ_ _ _ z=>by rw[aV (bG z hp)];exact z)
   ⟩
 inj:=hr.inj
 ku:=hr.ku
theorem HR.L3{p:Addr}{ds:List Ev.D}(hr:HR K H r h):∀(n m:Nat) a x y,(r++[p])[n]?=some a->(r++[p])[m]?=some a->(h++[Ev.O.lst ds])[n]?=some (.dct x)->(h++[Ev.O.lst ds])[m]?=some (.dct y)->n=m:=λn m a x y e1 e2 e3 e4=>by
 have out:∀(k:Nat) z,(h++[Ev.O.lst ds])[k]?=some (.dct z)->(r++[p])[k]?=some a->r[k]?=some a/\h[k]?=some (.dct z):=λk z q1 q2=>by
  by_cases hk:k<h.length
  .rw[List.getElem?_append_left hk]at q1;rw[List.getElem?_append_left (by rw[hr.len];exact hk)]at q2;exact⟨q2,q1⟩
  .have e5:=(List.getElem?_eq_some_iff.mp q1).1;simp only[List.length_append,List.length_singleton]at e5;have e6:k=h.length:=by omega
   subst e6;simp at q1
 exact hr.ku n m a x y (out n x e3 e1).1 (out m y e4 e2).1 (out n x e3 e1).2 (out m y e4 e2).2
theorem HR.lst{p:Addr}{ds:List Ev.D}{vs:List V}(hr:HR K H r h)(hp:H p=none)(q:aG K H r ds vs):HR K (upd H p (.lst vs)) (r++[p]) (h++[.lst ds]) where
 len:=by simp[hr.len]
 ob:=λn ob e=>by
  by_cases hn:n<h.length
  .rw[List.getElem?_append_left hn]at e;obtain⟨a,e1,z⟩:=hr.ob n ob e;exact⟨a,(Fm.laid (K:=K) (o:=.lst vs) hp).pre n a e1,z.mono (Fm.laid hp) (λ_ vs _ z=>by rw[aV (bG z hp)];exact z) (λ_ _ z=>by rw[aV (bG z hp)];exact z)
    (λ_ _ _ z=>by rw[aV (bG z hp)];exact z)
    ⟩
  .have e2:=(List.getElem?_eq_some_iff.mp e).1;simp only[List.length_append,List.length_singleton]at e2;have e3:n=h.length:=by omega
   subst e3;simp at e;subst e;exact⟨p,by rw[<-hr.len];simp,vs,fQ,q.mono (Fm.laid hp)⟩
 inj:=λn m a x y e1 e2 e3 e4=>by
  have out:∀(k:Nat) z,(h++[Ev.O.lst ds])[k]?=some (.lst z)->(r++[p])[k]?=some a->(k<h.length/\r[k]?=some a/\h[k]?=some (.lst z)/\a≠p)\/(k=h.length/\a=p):=λk z q1 q2=>by
   by_cases hk:k<h.length
   .rw[List.getElem?_append_left hk]at q1;rw[List.getElem?_append_left (by rw[hr.len];exact hk)]at q2;obtain⟨b,e5,vs',e6,_⟩:=hr.ob k _ q1;rw[q2]at e5;cases e5;exact .inl ⟨hk,q2,q1,bG e6 hp⟩
   .have e5:=(List.getElem?_eq_some_iff.mp q1).1;simp only[List.length_append,List.length_singleton]at e5;have e6:k=r.length:=by rw[hr.len];omega
    subst e6;simp at q2;exact .inr ⟨hr.len,q2.symm⟩
  rcases out n x e3 e1 with ⟨h1,h2,h3,h4⟩|⟨h1,h2⟩
  .rcases out m y e4 e2 with ⟨k1,k2,k3,k4⟩|⟨k1,k2⟩
   .exact hr.inj n m a x y h2 k2 h3 k3
   .exact absurd k2 h4
  .rcases out m y e4 e2 with ⟨k1,k2,k3,k4⟩|⟨k1,k2⟩
   .exact absurd h2 k4
   .rw[h1,k1]
 ku:=hr.L3
theorem HR.dct{n:Nat}{kvs:List (Int×List Nat)}(hr:HR K H r h)(e:h[n]?=some (.dct kvs)):∃a,r[n]?=some a/\H a=some (.dK (ee kvs))/\∀p∈kvs,p.2.length<=sizeLine:=by
 obtain⟨a,e1,e2,e3⟩:=hr.ob n _ e;exact⟨a,e1,e2,e3⟩
theorem HR.read{n:Nat}{ds:List Ev.D}(hr:HR K H r h)(e:Ev.bq h n=some ds):∃a vs,r[n]?=some a/\fF K H a vs/\aG K H r ds vs:=by
 unfold Ev.bq at e;split at e
 .rename_i z;cases e;obtain⟨a,e1,vs,e2,e3⟩:=hr.ob n _ z;exact⟨a,vs,e1,.inl (.inl e2),e3⟩
 .rename_i z;cases e;obtain⟨a,e1,vs,e2,e3⟩:=hr.ob n _ z;refine⟨a,vs,e1,?_,e3⟩;rcases e2 with ⟨ob,e2⟩|e2
  .exact .inl (.inr ⟨ob,e2⟩)
  .exact .inr e2
 .cases e
theorem Fm.write{a:Addr}{vs ws:List V}(ha:H a=some (.lst vs))(hm:a∈r):Fm K r r H (upd H a (.lst ws)) where
 pre:=λn b e=>e
 new:=λb e=>.inl e
 keep:=λb ob e n=>by rw[aV (λz=>n (by rw[z];exact hm))];exact e
 tups:=λb us e=>by
  rcases e with (e|⟨ob,e⟩)|e
  .exact .inl (.inl (by rw[aV (iH e ha (by intro z;cases z))];exact e))
  .exact .inl (.inr ⟨ob,by rw[aV (iH e ha (by intro z;cases z))];exact e⟩)
  .exact .inr e
theorem HR.write{n:Nat}{a:Addr}{ds es:List Ev.D}{vs ws:List V}(hr:HR K H r h)(hn:h[n]?=some (.lst ds))(vz:r[n]?=some a)(ha:H a=some (.lst vs))(q:aG K H r es ws) :
  HR K (upd H a (.lst ws)) r (h.set n (.lst es)) where
 len:=by simp[hr.len]
 ob:=λm ob e=>by
  have f:=Fm.write (K:=K) (ws:=ws) ha (List.mem_of_getElem? vz);by_cases hm:m=n
  .subst hm;rw[List.getElem?_set_self (List.getElem?_eq_some_iff.mp hn).1]at e;cases e;exact⟨a,vz,ws,fQ,q.mono f⟩
  .rw[List.getElem?_set_ne (λz=>hm z.symm)]at e;obtain⟨b,e1,z⟩:=hr.ob m ob e;refine⟨b,e1,z.mono f (λXr us z3 z2=>?_) (λXu us z2=>by rw[aV (iH z2 ha (by intro z;cases z))];exact z2)
    (λ_ us _ z2=>by rw[aV (iH z2 ha (by intro z;cases z))];exact z2)
    ⟩
   by_cases hb:b=a
   .subst hb;subst z3;exact absurd (hr.inj m n b Xr ds e1 vz e hn) hm
   .rw[aV hb];exact z2
 inj:=λk m b x y e1 e2 e3 e4=>by
  have back:∀(j:Nat) z,(h.set n (Ev.O.lst es))[j]?=some (.lst z)->∃z',h[j]?=some (.lst z'):=λj z w=>by
   by_cases hj:j=n
   .subst hj;exact⟨ds,hn⟩
   .rw[List.getElem?_set_ne (λz=>hj z.symm)]at w;exact⟨z,w⟩
  obtain⟨x',e5⟩:=back k x e3;obtain⟨y',e6⟩:=back m y e4;exact hr.inj k m b x' y' e1 e2 e5 e6
 ku:=λk m b x y e1 e2 e3 e4=>by
  have back:∀(j:Nat) z,(h.set n (Ev.O.lst es))[j]?=some (.dct z)->h[j]?=some (.dct z):=λj z w=>by
   by_cases hj:j=n
   .subst hj;rw[List.getElem?_set_self (List.getElem?_eq_some_iff.mp hn).1]at w;cases w
   .rw[List.getElem?_set_ne (λz=>hj z.symm)]at w;exact w
  exact hr.ku k m b x y e1 e2 (back k x e3) (back m y e4)
theorem iN{p:Addr}{vs ws:List V}(hp:H p=some (.lst vs)):∀a us,dP K H a us->dP K (upd H p (.lst ws)) a us:=λb us e=>by
 rcases e with (e|⟨ob,e⟩)|e
 .exact .inl (.inl (by rw[aV (iH e hp (by intro z;cases z))];exact e))
 .exact .inl (.inr ⟨ob,by rw[aV (iH e hp (by intro z;cases z))];exact e⟩)
 .exact .inr e
theorem HR.other{p:Addr}{vs ws:List V}(hr:HR K H r h)(hp:H p=some (.lst vs))(hn:p∉r):HR K (upd H p (.lst ws)) r h where
 len:=hr.len
 ob:=λn ob e=>by
  obtain⟨a,e1,q⟩:=hr.ob n ob e;have ha:a≠p:=λz=>hn (by rw[<-z];exact List.mem_of_getElem? e1);refine⟨a,e1,?_⟩;cases ob with
  |lst ds=>
   obtain⟨us,e2,e3⟩:=q;exact⟨us,by rw[aV ha];exact e2,e3.grow (λ_ _ z=>z) (iN hp)⟩
  |bP ds=>
   obtain⟨us,e2,e3⟩:=q;refine⟨us,?_,e3.grow (λ_ _ z=>z) (iN hp)⟩;rcases e2 with ⟨o,e2⟩|e2
   .exact .inl ⟨o,by rw[aV ha];exact e2⟩
   .exact .inr e2
  |dct kvs=>exact⟨by rw[aV ha];exact q.1,q.2⟩
 inj:=hr.inj
 ku:=hr.ku
theorem Fm.other{p:Addr}{vs ws:List V}(f:Fm K r r1 H H1)(h0:H p=none)(hp:H1 p=some (.lst vs)):Fm K r r1 H (upd H1 p (.lst ws)) where
 pre:=f.pre
 new:=f.new
 keep:=λa o e n=>by rw[aV (bG e h0)];exact f.keep a o e n
 tups:=λa us e=>iN hp a us (f.tups a us e)
theorem Fm.g7{p:Addr}{o:HO}(f:Fm K r r1 H H1)(hp:H p=some o)(hn:p∉r):p∉r1/\H1 p=some o:=by
 refine⟨λz=>?_,f.keep p o hp hn⟩;rcases f.new p z with q|q
 .exact hn q
 .rw[hp]at q;cases q
theorem HR.known{p:Addr}{ds:List Ev.D}{vs:List V}(hr:HR K H r h)(hp:H p=some (.lst vs))(hn:p∉r)(q:aG K H r ds vs):HR K H (r++[p]) (h++[.lst ds]):=by
 have pre:∀(n:Nat) a,r[n]?=some a->(r++[p])[n]?=some a:=λn a e=>by rw[List.getElem?_append_left (List.getElem?_eq_some_iff.mp e).1];exact e
 refine⟨by simp[hr.len],λn ob e=>?_,λn m a x y e1 e2 e3 e4=>?_
  ,hr.L3
  ⟩
 .by_cases hk:n<h.length
  .rw[List.getElem?_append_left hk]at e;obtain⟨a,e1,z⟩:=hr.ob n ob e;refine⟨a,pre n a e1,?_⟩;cases ob with
   |lst ds=>obtain⟨us,e2,e3⟩:=z;exact⟨us,e2,e3.grow pre λ_ _ z=>z⟩
   |bP ds=>obtain⟨us,e2,e3⟩:=z;exact⟨us,e2,e3.grow pre λ_ _ z=>z⟩
   |dct kvs=>exact z
  .have e2:=(List.getElem?_eq_some_iff.mp e).1;simp only[List.length_append,List.length_singleton]at e2;have e3:n=h.length:=by omega
   subst e3;simp at e;subst e;exact⟨p,by rw[<-hr.len];simp,vs,hp,q.grow pre λ_ _ z=>z⟩
 .have out:∀(k:Nat) z,(h++[Ev.O.lst ds])[k]?=some (.lst z)->(r++[p])[k]?=some a->(k<h.length/\r[k]?=some a/\h[k]?=some (.lst z)/\a≠p)\/(k=h.length/\a=p):=λk z q1 q2=>by
   by_cases hk:k<h.length
   .rw[List.getElem?_append_left hk]at q1;rw[List.getElem?_append_left (by rw[hr.len];exact hk)]at q2;exact .inl ⟨hk,q2,q1,λz=>hn (by rw[<-z];exact List.mem_of_getElem? q2)⟩
   .have e5:=(List.getElem?_eq_some_iff.mp q1).1;simp only[List.length_append,List.length_singleton]at e5;have e6:k=r.length:=by rw[hr.len];omega
    subst e6;simp at q2;exact .inr ⟨hr.len,q2.symm⟩
  rcases out n x e3 e1 with ⟨h1,h2,h3,h4⟩|⟨h1,h2⟩
  .rcases out m y e4 e2 with ⟨k1,k2,k3,k4⟩|⟨k1,k2⟩
   .exact hr.inj n m a x y h2 k2 h3 k3
   .exact absurd k2 h4
  .rcases out m y e4 e2 with ⟨k1,k2,k3,k4⟩|⟨k1,k2⟩
   .exact absurd h2 k4
   .rw[h1,k1]
theorem Fm.known{p:Addr}(f:Fm K r r1 H H1)(h0:H p=none):Fm K r (r1++[p]) H H1 where
 pre:=λn a e=>by
  have e':=f.pre n a e;rw[List.getElem?_append_left (List.getElem?_eq_some_iff.mp e').1];exact e'
 new:=λa e=>by
  rcases List.mem_append.mp e with q|q
  .exact f.new a q
  .rw[List.mem_singleton]at q;subst q;exact .inr h0
 keep:=f.keep
 tups:=f.tups
end
end Sm
set_option maxRecDepth 100000
namespace Sm
open PySem PySem.Spec PyProof.Rows L2
open Ev (D O Hh Fr R aO E Es Eo It T S Ss Fl Src bU bN TY BI ME)
section
variable(K:PySem.W.Frag)
noncomputable def Res(r:List Addr)(H:Hp)(h':Hh)(d:D)(Q:VK):Prop:=∀v H' r',RV K H' r' d v->HR K H' r' h'->Fm K r r' H H'->Q v H'
structure SR(m:List Nat)(H:Hp)(r:List Addr)(fr:Fr)(s:L2.St):Prop where
 len:s.length=m.length
 sl:∀(j i:Nat) d,m[j]?=some i->fr[i]?=some (some d)->∃v,s[j]?=some (some v)/\RV K H r d v
inductive tJ(m:List Nat)(P:aO)(e:E)(s:L2.St)(H:Hp)(Q:VK):Prop
 |mk (r:List Addr) (fr:Fr) (h:Hh) (d:D) (h':Hh) (c0:SR K m H r fr s) (c1:HR K H r h) (c2:Ev.ev P e fr h=.ok d h') (c3:Res K r H h' d Q):tJ m P e s H Q
inductive L4(m:List Nat)(P:aO)(e:E)(s:L2.St)(H:Hp)(Q:Bool->Hp->Prop):Prop
 |mk (r:List Addr) (fr:Fr) (h:Hh) (k:Bool) (h':Hh) (c0:SR K m H r fr s) (c1:HR K H r h) (c2:Ev.aI P e fr h=.ok k h') (c3:∀H' r',HR K H' r' h'->Fm K r r' H H'->Q k H'):L4 m P e s H Q
inductive L5(m:List Nat)(P:aO)(es:Es)(s:L2.St)(H:Hp)(Q:List V->Hp->Prop):Prop
 |mk (r:List Addr) (fr:Fr) (h:Hh) (ds:List D) (h':Hh) (c0:SR K m H r fr s) (c1:HR K H r h) (c2:Ev.cg P es fr h=.ok ds h') (c3:∀vs H' r',aG K H' r' ds vs->HR K H' r' h'->Fm K r r' H H'->Q vs H'):L5 m P es s H Q
inductive S8(m:List Nat)(P:aO)(e:Eo)(s:L2.St)(H:Hp)(Q:Option Int->Hp->Prop):Prop
 |mk (r:List Addr) (fr:Fr) (h:Hh) (o:Option Int) (h':Hh) (c0:SR K m H r fr s) (c1:HR K H r h) (c2:Ev.gk P e fr h=.ok o h') (c3:∀H' r',HR K H' r' h'->Fm K r r' H H'->Q o H'):S8 m P e s H Q
inductive gW(f:D->D->Hh->R D)(x:V)(y:V)(H:Hp)(Q:VK):Prop
 |mk (r:List Addr) (h:Hh) (a:D) (b:D) (d:D) (h':Hh) (c0:HR K H r h) (c1:RV K H r a x) (c2:RV K H r b y) (c3:f a b h=.ok d h') (c4:Res K r H h' d Q):gW f x y H Q
inductive Xv(f:D->Hh->R D)(x:V)(H:Hp)(Q:VK):Prop
 |mk (r:List Addr) (h:Hh) (a:D) (d:D) (h':Hh) (c0:HR K H r h) (c1:RV K H r a x) (c2:f a h=.ok d h') (c3:Res K r H h' d Q):Xv f x H Q
inductive tQ(f:List D->Hh->R D)(xs:List V)(H:Hp)(Q:VK):Prop
 |mk (r:List Addr) (h:Hh) (as:List D) (d:D) (h':Hh) (c0:HR K H r h) (c1:aG K H r as xs) (c2:f as h=.ok d h') (c3:Res K r H h' d Q):tQ f xs H Q
inductive vA(f:D->List D->Hh->R D)(x:V)(xs:List V)(H:Hp)(Q:VK):Prop
 |mk (r:List Addr) (h:Hh) (a:D) (as:List D) (d:D) (h':Hh) (c0:HR K H r h) (c1:RV K H r a x) (c2:aG K H r as xs) (c3:f a as h=.ok d h') (c4:Res K r H h' d Q):vA f x xs H Q
inductive L6  (x:V) (lo:Option Int) (hi:Option Int) (H:Hp) (Q:VK):Prop
 |mk (r:List Addr) (h:Hh) (a:D) (d:D) (h':Hh) (c0:HR K H r h) (c1:RV K H r a x) (c2:Ev.gT a lo hi h=.ok d h') (c3:Res K r H h' d Q):L6 x lo hi H Q
end
section
variable{K:PySem.W.Frag}{m:List Nat}{H H':Hp}{r r':List Addr}{fr:Fr}{s:L2.St}{h h':Hh}{d:D}{Q:VK}
theorem SR.mono(a:SR K m H r fr s)(f:Fm K r r' H H'):SR K m H' r' fr s:=⟨a.len,λj i d e1 e2=>by
 obtain⟨v,q,z⟩:=a.sl j i d e1 e2;exact⟨v,q,z.mono f⟩⟩
theorem Res.here{v:V}(q:Res K r H h d Q)(a:RV K H r d v)(b:HR K H r h):Q v H:=q v H r a b .refl
theorem Res.later(q:Res K r H h' d Q)(f:Fm K r r' H H'):Res K r' H' h' d Q:=λv H2 r2 a b g=>q v H2 r2 a b (f.trans g)
theorem Res.lst{ds:List D}{vs:List V}(q:Res K r H h' d Q)(e:Ev.alloc ds h=.ok d h')(a:aG K H r ds vs)(b:HR K H r h):vs.length<=sizeLine/\∀p,H p=none->Q (.ref p) (upd H p (.lst vs)):=by
 unfold Ev.alloc at e;split at e
 .rename_i z;cases e;refine⟨by rw[a.length,<-gU];exact z,λp hp=>?_⟩;exact q _ _ (r++[p]) ⟨p,rfl,by rw[<-b.len];simp⟩ (b.lst hp a) (.laid hp)
 .cases e
theorem Res.tup{ds:List D}{vs:List V}(q:Res K r H h (.tup ds) Q)(a:aG K H r ds vs)(b:HR K H r h){p:Addr}(hp:H p=none):Q (.ref p) (upd H p (.tup vs)):=
 q _ _ r ⟨p,vs,rfl,.of fQ,a.mono (.tup hp)⟩ (b.tup hp) (.tup hp)
end
theorem PE.of{X:Cx}{e:Expr}{t t':TE}(h:PE X e t)(w:∀s H Q,t' s H Q->t s H Q):PE X e t':=λpins s σ H Q I q=>h pins s σ H Q I (w _ _ _ q)
theorem PT.of{X:Cx}{e:Expr}{t t':TT}(h:PT X e t)(w:∀s H Q,t' s H Q->t s H Q):PT X e t':=λpins s σ H Q I q=>h pins s σ H Q I (w _ _ _ q)
theorem PW.of{X:Cx}{e:Expr}{t t':TT}(h:PW X e t)(w:∀s H Q,t' s H Q->t s H Q):PW X e t':=λwh pins s σ H Q I q=>h wh pins s σ H Q I (w _ _ _ q)
theorem PA.of{X:Cx}{es:List Expr}{t t':TA}(h:PA X es t)(w:∀s H Q,t' s H Q->t s H Q):PA X es t':=λpos pins s σ H Q I q=>h pos pins s σ H Q I (w _ _ _ q)
theorem PO.of{X:Cx}{e:Option Expr}{t t':TO}(h:PO X e t)(w:∀s H Q,t' s H Q->t s H Q):PO X e t':=λpins s σ H Q I q=>h pins s σ H Q I (w _ _ _ q)
structure FI where
 name:Str
 addr:Addr
 fd:FuncData
 ps:List Str
noncomputable def pJ(K:PySem.W.Frag)(F:List Ev.Fn)(w n f:Nat):Sp:=λvs H Q _=>∃r h ds d h',aG K H r ds vs/\HR K H r h/\Ev.run F w n f ds h=.ok d h'/\Res K r H h' d Q
noncomputable def yr(K:PySem.W.Frag)(d:D)(v:V):Prop:=∀H r,RV K H r d v
theorem yr.rv{K:PySem.W.Frag}{H:Hp}{r:List Addr}{d:D}{v:V}(h:yr K d v):RV K H r d v:=h H r
structure Tb where
 F:List Ev.Fn
 w:Nat
 fi:List FI
 bl:List Str
 cs:List (Str×D)
 dk:List (Str×List (D×D))
noncomputable def tabOf:List (D×D)->List (PyData×PyData)
 | (.str k,.str v) :: r=>(.str (aW k),.str (aW v)) :: tabOf r
 |_=>[]
structure Good(G:Tb)(n:Nat)(sc:Scope)(N:List Str)(df:Bool)(X:Cx):Prop where
 nm:X.N=N
 sc:X.env.scope=sc
 calm:X.calm=true
 own:df=true->∀x,X.fn x=true
 room:gi n X.A
 xe:X.xe=λ_ _=>False
 fn:∀(f:Nat) i,G.fi[f]?=some i->X.mg i.name=some (.ref i.addr)/\PySem.W.keepIn X.K (.ref i.addr)=true/\Binds X.K i.fd i.ps []/\iZ X.prog X.w X.K X.mg X.base nG n i.addr i.fd i.ps (pJ X.K G.F G.w n f)
 bl:∀x∈G.bl,X.mg x=none
 cs:∀x d,(x,d)∈G.cs->∃v u,X.mg x=some u/\RelV v u/\yr X.K d v
 dk:∀x kvs,(x,kvs)∈G.dk->∃a,X.mg x=some (.ref a)/\∀h:Heap,X.K.In h->StrTab X.prog X.w h a (tabOf kvs)
section
variable(G:Tb)(n:Nat)(sc:Scope)(N:List Str)(df:Bool)(m:List Nat)
noncomputable def JE(e:E)(x:Expr):Prop:=∀X,Good G n sc N df X->PE X x (tJ X.K m (Ev.run G.F G.w n) e)
noncomputable def JT(e:E)(x:Expr):Prop:=∀X,Good G n sc N df X->PT X x (L4 X.K m (Ev.run G.F G.w n) e)
noncomputable def JW(e:E)(x:Expr):Prop:=∀X,Good G n sc N df X->PW X x (L4 X.K m (Ev.run G.F G.w n) e)
noncomputable def JA(es:Es)(xs:List Expr):Prop:=∀X,Good G n sc N df X->PA X xs (L5 X.K m (Ev.run G.F G.w n) es)
noncomputable def JO(e:Eo)(x:Option Expr):Prop:=∀X,Good G n sc N df X->PO X x (S8 X.K m (Ev.run G.F G.w n) e)
end
section
variable{G:Tb}{n:Nat}{sc:Scope}{N:List Str}{df:Bool}{m:List Nat}{a b c:E}{xa xb xc:Expr}{pos:Pos}
theorem Good.vis{X:Cx}(g:Good G n sc N df X){x:Str}(h:sc.names.lookup x=some .local\/sc.names.lookup x=some .cell\/sc.names.lookup x=some .free):Ba X.env.scope x:=by
 rw[g.sc];exact h
theorem Good.gl{X:Cx}(g:Good G n sc N df X){x:Str}(h:sc.names.lookup x=some .globalImplicit):Gl X x:=by
 unfold Gl Env.kindOf;rw[g.sc];exact h
theorem VU(j i:Nat){x:Str}(hj:m[j]?=some i:=by rfl)(hN:N[j]?=some x:=by rfl)
  (hv:sc.names.lookup x=some .local\/sc.names.lookup x=some .cell\/sc.names.lookup x=some .free:=by first|exact Or.inl rfl|exact Or.inr (Or.inl rfl)|exact Or.inr (Or.inr rfl))
  (hd:(x==("__debug__" : Str))=false:=by decide) (hcd:(x==("__classdict__" : Str))=false:=by decide):JE G n sc N df m (.v i) (.Name x pos):=by
 intro X g;refine PE.of (Bd (i:=j) (by rw[g.nm];exact hN) (g.vis hv) hd hcd) λs H Q q=>?_;obtain⟨r,fr,h,d,h',sr,hr,e,q⟩:=q;simp only[Ev.ev]at e;obtain⟨e2,e3⟩:=Ev.aH e;subst e3;obtain⟨v,q1,q2⟩:=sr.sl j i d hj (by
  cases z:fr[i]? with
  |none=>rw[z]at e2;cases e2
  |some o=>
   rw[z]at e2;have e':o=some d:=e2;rw[e'])
 exact⟨v,q1,q.here q2 hr⟩
theorem qy{K:PySem.W.Frag}{P:aO}{d:D}{v:V}(hc:yr K d v):∀s H Q,tJ K m P (.c d) s H Q->tC v s H Q:=λs H Q q=>by
 obtain⟨r,fr,h,d',h',sr,hr,e,q⟩:=q;simp only[Ev.ev]at e;cases e;exact q.here hc.rv hr
theorem L7{i:Int}{j}:JE G n sc N df m (.c (.int i)) (.Constant (.int i) j pos):=λX g=>PE.of Lc (qy λ_ _=>rfl)
theorem QF{k:Bool}{j}:JE G n sc N df m (.c (.bl k)) (.Constant (.bool k) j pos):=λX g=>PE.of Qf (qy λ_ _=>rfl)
theorem L8{j}:JE G n sc N df m (.c .aS) (.Constant .none j pos):=λX g=>PE.of Le (qy λ_ _=>rfl)
theorem Ma{l:List Nat}{x:Str}{j}(hx:x=aW l:=by decide +kernel)(hl:l.length<=sizeLine:=by decide):JE G n sc N df m (.c (.str l)) (.Constant (.str x) j pos):=
 λX g=>PE.of Lf (qy λ_ _=>by subst hx;exact⟨rfl,hl⟩)
theorem IP {x:Str}{d:D}(hm:(x,d)∈G.cs) (hg:sc.names.lookup x=some .globalImplicit:=by rfl) (hd:(x==("__debug__" : Str))=false:=by decide):JE G n sc N df m (.c d) (.Name x pos):=λX g=>by
 obtain⟨v,u,h1,h2,h3⟩:=g.cs x d hm;exact PE.of (Ik (g.gl hg) h1 h2 hd) (qy h3)
theorem Mb:JA G n sc N df m .nil []:=λX g=>PA.of ny λs H Q q=>by
 obtain⟨r,fr,h,ds,h',sr,hr,e,q⟩:=q;simp only[Ev.cg]at e;cases e;exact q [] H r .nil hr .refl
theorem IQ{es:Es}{xs:List Expr}(ha:JE G n sc N df m a xa)(hs:JA G n sc N df m es xs)(hst:∀env:Env,starEach (xa :: xs) env=(false,eval xa env) :: starEach xs env:=by intro _;rfl):JA G n sc N df m (.cons a es) (xa :: xs):=
 λX g=>PA.of (kX (ha X g) (hs X g) (hst _)) λs H Q q=>by
  obtain⟨r,fr,h,ds,h',sr,hr,e,q⟩:=q;simp only[Ev.cg]at e;obtain⟨d,h1,e1,e⟩:=Ev.ah e;obtain⟨ds',h2,e2,e⟩:=Ev.ah e;cases e;refine⟨r,fr,h,d,h1,sr,hr,e1,λv H1 r1 v1 hr1 f1=>?_⟩;refine⟨r1,fr,h1,ds',_,sr.mono f1,hr1,e2,λvs H2 r2 v2 hr2 f2=>?_⟩;exact q _ H2 r2 (.cons (v1.mono f2) v2) hr2 (f1.trans f2)
theorem Mc{es:Es}{xs:List Expr}{k}(hs:JA G n sc N df m es xs):JE G n sc N df m (.tup es) (.Tuple xs k pos):=λX g=>PE.of (LG (hs X g)) λs H Q q=>by
 obtain⟨r,fr,h,d,h',sr,hr,e,q⟩:=q;simp only[Ev.ev]at e;obtain⟨ds,h1,e1,e⟩:=Ev.ah e;split at e
 .rename_i z;cases e;refine⟨r,fr,h,ds,_,sr,hr,e1,λvs H1 r1 v1 hr1 f1=>⟨by rw[v1.length,<-gU];exact z,λp hp=>?_⟩⟩;exact(q.later f1).tup v1 hr1 hp
 .cases e
theorem Me{es:Es}{xs:List Expr}(hs:JA G n sc N df m es xs):JE G n sc N df m (.lst es) (.List xs pos):=λX g=>PE.of (LH (hs X g)) λs H Q q=>by
 obtain⟨r,fr,h,d,h',sr,hr,e,q⟩:=q;simp only[Ev.ev]at e;obtain⟨ds,h1,e1,e⟩:=Ev.ah e;refine⟨r,fr,h,ds,h1,sr,hr,e1,λvs H1 r1 v1 hr1 f1=>?_⟩;exact(q.later f1).lst e v1 hr1
theorem qz{K:PySem.W.Frag}{P:aO}{f:D->D->Hh->R D}{e':E}(he:∀fr h,Ev.ev P e' fr h=(Ev.ev P a fr h).bind λx h1=>(Ev.ev P b fr h1).bind λy h2=>f x y h2) :
  ∀s H Q,tJ K m P e' s H Q->Bj (gW K f) (tJ K m P a) (tJ K m P b) s H Q:=λs H Q q=>by
 obtain⟨r,fr,h,d,h',sr,hr,e,q⟩:=q;rw[he]at e;obtain⟨x,h1,e1,e⟩:=Ev.ah e;obtain⟨y,h2,e2,e⟩:=Ev.ah e;refine⟨r,fr,h,x,h1,sr,hr,e1,λv H1 r1 v1 hr1 f1=>?_⟩;refine⟨r1,fr,h1,y,h2,sr.mono f1,hr1,e2,λu H2 r2 v2 hr2 f2=>?_⟩;exact⟨r2,h2,x,y,d,h',hr2,v1.mono f2,v2,e,q.later (f1.trans f2)⟩
theorem nI{o:bU}{op:Operator}(ho:∀X,Good G n sc N df X->dG X (binaryOp op) (gW X.K (Ev.bS o)))(ha:JE G n sc N df m a xa)(hb:JE G n sc N df m b xb):JE G n sc N df m (.bin o a b) (.BinOp xa op xb pos):=
 λX g=>PE.of (Qo (ho X g) (ha X g) (hb X g)) (qz λfr h=>by simp only[Ev.ev])
noncomputable def gr(o:bN):D->D->Hh->R D:=λx y h=>R.of ((Ev.cop o x y h).map .bl) h
theorem nJ{o:bN}{op:CmpOp}(ho:∀X,Good G n sc N df X->dG X (compareOp op) (gW X.K (gr o)))(ha:JE G n sc N df m a xa)(hb:JE G n sc N df m b xb)(hm:behindInMarks op xb=false):JE G n sc N df m (.cmp o a b) (.Compare xa [op] [xb] pos):=
 λX g=>PE.of (Ir (ho X g) (ha X g) (hb X g) hm) (qz λfr h=>by simp only[Ev.ev,gr])
theorem iz{o:bN}{x y d:D}{h h':Hh}(e:gr o x y h=.ok d h'):∃k,Ev.cop o x y h=some k/\d=.bl k/\h'=h:=by
 unfold gr at e;obtain⟨e1,rfl⟩:=Ev.aH e;cases z:Ev.cop o x y h' with
 |none=>rw[z]at e1;cases e1
 |some k=>rw[z]at e1;cases e1;exact⟨k,rfl,rfl,rfl⟩
theorem lD{o:bN}{op:CmpOp}(ho:∀X,Good G n sc N df X->dG X (compareOp op) (gW X.K (gr o)))(ha:JE G n sc N df m a xa)(hb:JE G n sc N df m b xb)(hm:behindInMarks op xb=false):JT G n sc N df m (.cmp o a b) (.Compare xa [op] [xb] pos):=
 λX g=>PT.of (Iu (ho X g) (ha X g) (hb X g) hm) λs H Q q=>by
  obtain⟨r,fr,h,k,h',sr,hr,e,q⟩:=q;simp only[Ev.aI]at e;obtain⟨d,h1,e1,e⟩:=Ev.ah e;have e0:=e1;simp only[Ev.ev]at e0;obtain⟨x,h2,_,e0⟩:=Ev.ah e0;obtain⟨y,h3,_,e0⟩:=Ev.ah e0;obtain⟨k',e2,e3,e4⟩:=iz (o:=o) (show gr o x y h3=_ from e0);subst e3;simp only[Ev.truthy]at e;cases e;refine qz (e':=.cmp o a b) (f:=gr o) (λfr h=>by simp only[Ev.ev,gr]) s H _ ⟨r,fr,h,.bl k,_,sr,hr,e1,λv H1 r1 v1 hr1 f1=>?_⟩;exact⟨k,v1,q H1 r1 hr1 f1⟩
end
end Sm
set_option maxRecDepth 100000
namespace Sm
open PySem PySem.Spec PyProof.Rows L2
open Ev (D O Hh Fr R aO E Es Eo It T S Ss Fl Src bU bN TY BI ME)
section
variable{G:Tb}{n:Nat}{sc:Scope}{N:List Str}{df:Bool}{m:List Nat}{a b c:E}{xa xb xc:Expr}{pos:Pos}
theorem QG(ha:JE G n sc N df m a xa):JE G n sc N df m (.nt a) (.UnaryOp .Not xa pos):=λX g=>PE.of (Lm (ha X g)) λs H Q q=>by
 obtain⟨r,fr,h,d,h',sr,hr,e,q⟩:=q;simp only[Ev.ev]at e;obtain⟨x,h1,e1,e⟩:=Ev.ah e;split at e
 .cases e;exact⟨r,fr,h,_,_,sr,hr,e1,λv H1 r1 v1 hr1 f1=>⟨_,v1,(q.later f1).here rfl hr1⟩⟩
 .cases e
theorem Mf(ha:JE G n sc N df m a xa):JE G n sc N df m (.neg a) (.UnaryOp .USub xa pos):=λX g=>PE.of (Qp LC (ha X g)) λs H Q q=>by
 obtain⟨r,fr,h,d,h',sr,hr,e,q⟩:=q;simp only[Ev.ev]at e;obtain⟨x,h1,e1,e⟩:=Ev.ah e;split at e
 .cases e;exact⟨r,fr,h,_,_,sr,hr,e1,λv H1 r1 v1 hr1 f1=>⟨_,v1,(q.later f1).here rfl hr1⟩⟩
 .cases e
theorem Mg{op}(ha:JE G n sc N df m a xa):JE G n sc N df m a (.BoolOp op [xa] pos):=λX g=>Lk (ha X g)
theorem QH{rest:List Expr}(ha:JE G n sc N df m a xa)(hb:JE G n sc N df m b (.BoolOp .And (xb :: rest) pos)):JE G n sc N df m (.an a b) (.BoolOp .And (xa :: xb :: rest) pos):=λX g=>PE.of (Ll (ha X g) (hb X g)) λs H Q q=>by
 obtain⟨r,fr,h,d,h',sr,hr,e,q⟩:=q;simp only[Ev.ev]at e;obtain⟨x,h1,e1,e⟩:=Ev.ah e;refine⟨r,fr,h,x,h1,sr,hr,e1,λv H1 r1 v1 hr1 f1=>?_⟩;split at e
 .exact⟨true,v1,r1,fr,h1,d,h',sr.mono f1,hr1,e,q.later f1⟩
 .cases e;exact⟨false,v1,(q.later f1).here rfl hr1⟩
 .cases e
theorem Mh(ha:JT G n sc N df m a xa)(hb:JE G n sc N df m b xb)(hc:JE G n sc N df m c xc):JE G n sc N df m (.lg a b c) (.IfExp xa xb xc pos):=λX g=>PE.of (Dw (ha X g) (hb X g) (hc X g)) λs H Q q=>by
 obtain⟨r,fr,h,d,h',sr,hr,e,q⟩:=q;simp only[Ev.ev]at e;obtain⟨k,h1,e1,e⟩:=Ev.ah e;refine⟨r,fr,h,k,h1,sr,hr,e1,λH1 r1 hr1 f1=>?_⟩;cases k with
 |true=>exact⟨r1,fr,h1,d,h',sr.mono f1,hr1,e,q.later f1⟩
 |false=>exact⟨r1,fr,h1,d,h',sr.mono f1,hr1,e,q.later f1⟩
theorem Mi(h:JW G n sc N df m a xa):JT G n sc N df m a xa:=λX g=>(h X g).pt
theorem Mj(ha:JT G n sc N df m a xa):JW G n sc N df m a (.BoolOp .And [xa] pos):=λX g=>Il (ha X g)
theorem IS(ha:JT G n sc N df m a xa):JW G n sc N df m a (.BoolOp .Or [xa] pos):=λX g=>Lh (ha X g)
theorem GL{rest:List Expr}(ha:JT G n sc N df m a xa)(hb:JW G n sc N df m b (.BoolOp .And (xb :: rest) pos)):JW G n sc N df m (.an a b) (.BoolOp .And (xa :: xb :: rest) pos):=λX g=>PW.of (Li (ha X g) (hb X g)) λs H Q q=>by
 obtain⟨r,fr,h,k,h',sr,hr,e,q⟩:=q;simp only[Ev.aI]at e;obtain⟨k1,h1,e1,e⟩:=Ev.ah e;refine⟨r,fr,h,k1,h1,sr,hr,e1,λH1 r1 hr1 f1=>?_⟩;cases k1 with
 |true=>exact⟨r1,fr,h1,k,h',sr.mono f1,hr1,e,λH2 r2 hr2 f2=>q H2 r2 hr2 (f1.trans f2)⟩
 |false=>
  have e':R.ok false h1=R.ok k h':=e;cases e';exact q H1 r1 hr1 f1
theorem BD{rest:List Expr}(ha:JT G n sc N df m a xa)(hb:JW G n sc N df m b (.BoolOp .Or (xb :: rest) pos)):JW G n sc N df m (.orr a b) (.BoolOp .Or (xa :: xb :: rest) pos):=λX g=>PW.of (Qg (ha X g) (hb X g)) λs H Q q=>by
 obtain⟨r,fr,h,k,h',sr,hr,e,q⟩:=q;simp only[Ev.aI]at e;obtain⟨k1,h1,e1,e⟩:=Ev.ah e;refine⟨r,fr,h,k1,h1,sr,hr,e1,λH1 r1 hr1 f1=>?_⟩;cases k1 with
 |false=>exact⟨r1,fr,h1,k,h',sr.mono f1,hr1,e,λH2 r2 hr2 f2=>q H2 r2 hr2 (f1.trans f2)⟩
 |true=>
  have e':R.ok true h1=R.ok k h':=e;cases e';exact q H1 r1 hr1 f1
theorem QI(ha:JT G n sc N df m a xa):JT G n sc N df m (.nt a) (.UnaryOp .Not xa pos):=λX g=>PT.of (Lj (ha X g)) λs H Q q=>by
 obtain⟨r,fr,h,k,h',sr,hr,e,q⟩:=q;simp only[Ev.aI]at e;obtain⟨k1,h1,e1,e⟩:=Ev.ah e;cases e;exact⟨r,fr,h,k1,_,sr,hr,e1,λH1 r1 hr1 f1=>q H1 r1 hr1 f1⟩
theorem Ml{K:PySem.W.Frag}{H:Hp}{r:List Addr}{h:Hh}{d:D}{v:V}{k:Bool}(hr:HR K H r h)(v1:RV K H r d v)(e:Ev.truthy h d=some k):DJ K v H k:=by
 cases d with
 |aS=>simp only[RV]at v1;subst v1;cases e;rfl
 |bl x=>simp only[RV]at v1;subst v1;cases e;rfl
 |int x=>simp only[RV]at v1;subst v1;cases e;rfl
 |str x=>
  simp only[RV]at v1;obtain⟨rfl,z⟩:=v1;cases e;refine⟨by rw[dc];exact z,?_⟩;rw[dc];cases x with
  |nil=>rfl
  |cons c l=>simp;omega
 |tup ds=>
  simp only[RV]at v1;obtain⟨p,vs,rfl,z,q⟩:=v1;cases e;refine .inr (.inl ⟨vs,z,?_⟩);have hl:=q.length;cases ds<;>cases vs<;>simp_all
 |ref i=>
  simp only[RV]at v1;obtain⟨p,rfl,z⟩:=v1;by_cases S9:∃kvs,h[i]?=some (.dct kvs)
  .obtain⟨kvs,e1⟩:=S9;simp only[Ev.truthy,e1]at e;obtain⟨p',z1,z2,_⟩:=hr.dct e1;rw[z]at z1;cases z1;refine .inr (.inr ⟨_,z2,?_⟩);cases e;cases kvs<;>rfl
  have et:Ev.truthy h (.ref i)=(Ev.bq h i).map λds=>!ds.isEmpty:=by
   simp only[Ev.truthy];split
   .rename_i kvs z;exact(S9 ⟨kvs,z⟩).elim
   .rfl
  rw[et]at e;simp only[Option.map_eq_some_iff]at e;obtain⟨ds,e1,rfl⟩:=e;obtain⟨p',vs,e2,q1,q2⟩:=hr.read e1;rw[z]at e2;cases e2;refine .inl ⟨vs,q1,?_⟩;have hl:=q2.length;cases ds<;>cases vs<;>simp_all
theorem Mm(ha:JE G n sc N df m a xa)(he:∀(P:aO) fr h,Ev.aI P a fr h=(Ev.ev P a fr h).bind λx h1=>R.of (Ev.truthy h1 x) h1:=by intros;simp only[Ev.aI])
  (hx:∀(env:Env) whole,isTrue xa env whole=(do let v <-whole;standAt xa.pos;holding [v] (truthy v)):=by intro _ _;rfl):JT G n sc N df m a xa:=λX g=>PT.of (DK (ha X g) (hx _)) λs H Q q=>by
 obtain⟨r,fr,h,k,h',sr,hr,e,q⟩:=q;rw[he]at e;obtain⟨d,h1,e1,e⟩:=Ev.ah e;obtain⟨e,rfl⟩:=Ev.aH e;refine⟨r,fr,h,d,_,sr,hr,e1,λv H1 r1 v1 hr1 f1=>⟨k,Ml hr1 v1 e,q H1 r1 hr1 f1⟩⟩
noncomputable def Mn:D->D->Hh->R D:=λx y h=>R.of (Ev.dY x y h) h
theorem QJ(ho:∀X,Good G n sc N df X->yl X (gW X.K Mn))(ha:JE G n sc N df m a xa)(hb:JE G n sc N df m b xb)(hs:yk xb:=by intro _ _;rfl):JE G n sc N df m (.ix a b) (.Subscript xa xb pos):=
 λX g=>PE.of (Qz (ho X g) (ha X g) (hb X g) hs) (qz λfr h=>by simp only[Ev.ev,Mn])
theorem QK:JO G n sc N df m .no none:=λX g=>PO.of IA λs H Q q=>by
 obtain⟨r,fr,h,o,h',sr,hr,e,q⟩:=q;simp only[Ev.gk]at e;cases e;exact q H r hr .refl
theorem Mp(ha:JE G n sc N df m a xa):JO G n sc N df m (.yes a) (some xa):=λX g=>PO.of (IB (ha X g)) λs H Q q=>by
 obtain⟨r,fr,h,o,h',sr,hr,e,q⟩:=q;simp only[Ev.gk]at e;obtain⟨d,h1,e1,e⟩:=Ev.ah e;obtain⟨e,rfl⟩:=Ev.aH e;cases d with
 |int i=>
  cases e;exact⟨r,fr,h,.int i,_,sr,hr,e1,λv H1 r1 v1 hr1 f1=>⟨i,v1,q H1 r1 hr1 f1⟩⟩
 |_=>cases e
theorem QL{lo hi:Eo}{xl xh:Option Expr}{p2}(ho:∀X,Good G n sc N df X->kZ X (L6 X.K))(ha:JE G n sc N df m a xa)(hl:JO G n sc N df m lo xl)(hu:JO G n sc N df m hi xh):JE G n sc N df m (.sl a lo hi) (.Subscript xa (.Slice xl xh none p2) pos):=
 λX g=>PE.of (DO (ho X g) (ha X g) (hl X g) (hu X g)) λs H Q q=>by
  obtain⟨r,fr,h,d,h',sr,hr,e,q⟩:=q;simp only[Ev.ev]at e;obtain⟨x,h1,e1,e⟩:=Ev.ah e;obtain⟨l,h2,e2,e⟩:=Ev.ah e;obtain⟨u,h3,e3,e⟩:=Ev.ah e;refine⟨r,fr,h,x,h1,sr,hr,e1,λv H1 r1 v1 hr1 f1=>?_⟩;refine⟨r1,fr,h1,l,h2,sr.mono f1,hr1,e2,λH2 r2 hr2 f2=>?_⟩;refine⟨r2,fr,h2,u,h3,(sr.mono f1).mono f2,hr2,e3,λH3 r3 jA f3=>?_⟩;exact⟨r3,h3,x,d,h',jA,(v1.mono f2).mono f3,e,q.later ((f1.trans f2).trans f3)⟩
theorem IT{K:PySem.W.Frag}{P:aO}{es:Es}{f:List D->Hh->R D}{e':E}(he:∀fr h,Ev.ev P e' fr h=(Ev.cg P es fr h).bind f) :
  ∀s H Q,tJ K m P e' s H Q->LK (tQ K f) (L5 K m P es) s H Q:=λs H Q q=>by
 obtain⟨r,fr,h,d,h',sr,hr,e,q⟩:=q;rw[he]at e;obtain⟨ds,h1,e1,e⟩:=Ev.ah e;exact⟨r,fr,h,ds,h1,sr,hr,e1,λvs H1 r1 v1 hr1 f1=>⟨r1,h1,ds,d,h',hr1,v1,e,q.later f1⟩⟩
theorem qA{k:BI}{es:Es}{x:Str}{id:String}{e0:Expr}{xs:List Expr}{p:Pos}(hc:∀X,Good G n sc N df X->fR X (.builtin id) (tQ X.K (Ev.cX k)))(hs:JA G n sc N df m es (e0 :: xs))(hb:x∈G.bl:=by decide +kernel)
  (hg:sc.names.lookup x=some .globalImplicit:=by rfl) (hv:bootBuiltins x=some (.builtin id)) (hn:x≠"__name__" :=by decide) (hd:(x==("__debug__" : Str))=false:=by decide)
  (hst:∀env:Env,starEach (e0 :: xs) env=(false,eval e0 env) :: starEach xs env:=by intro _;rfl) (hpl:∀env:Env,(backTo pos (starEach xs env)).any (·.1)=false:=by intro _;rfl) :
  JE G n sc N df m (.bi k es) (.Call (.Name x p) (e0 :: xs) [] pos):=
 λX g=>PE.of (DM (hc X g) (g.gl hg) (g.bl x hb) hv (hs X g) hn hd (hst _) (hpl _)) (IT λfr h=>by simp only[Ev.ev])
theorem QM{f:Nat}{i:FI}{es:Es}{e0:Expr}{xs:List Expr}{p:Pos}(hf:G.fi[f]?=some i)(hs:JA G n sc N df m es (e0 :: xs))
  (hg:sc.names.lookup i.name=some .globalImplicit:=by rfl) (hd:(i.name==("__debug__" : Str))=false:=by decide)
  (hst:∀env:Env,starEach (e0 :: xs) env=(false,eval e0 env) :: starEach xs env:=by intro _;rfl) (hpl:∀env:Env,(backTo pos (starEach xs env)).any (·.1)=false:=by intro _;rfl) :
  JE G n sc N df m (.cl f es) (.Call (.Name i.name p) (e0 :: xs) [] pos):=λX g=>by
 obtain⟨h1,h2,h3,h4⟩:=g.fn f i hf;refine PE.of (Iv h4 g.room (g.gl hg) h1 h2 h3 .nil QB (hs X g) hd (hst _) (hpl _)) λs H Q q=>?_;obtain⟨r,fr,h,d,h',sr,hr,e,q⟩:=q;simp only[Ev.ev]at e;obtain⟨ds,h5,e1,e⟩:=Ev.ah e;refine⟨r,fr,h,ds,h5,sr,hr,e1,λvs H1 r1 v1 hr1 f1=>?_⟩;exact⟨r1,h5,ds,d,h',by rw[List.append_nil];exact v1,hr1,e,q.later f1⟩
noncomputable def D3:ME->String
 |.join=>"str"
 |_=>"list"
theorem BE{K:PySem.W.Frag}{H:Hp}{r:List Addr}{h:Hh}{k:ME}{d:D}{v:V}{ty:String}(hr:HR K H r h)(v1:RV K H r d v)(e:Ev.yp k d h=true)(ht:ty=D3 k):Br K ty v H:=by
 subst ht;have lst:∀i,d=.ref i->(Ev.bq h i).isSome=true->Br K "list" v H:=λi ed es=>by
  subst ed;obtain⟨ds,e1⟩:=Option.isSome_iff_exists.mp es;obtain⟨p,vs,e2,q1,q2⟩:=hr.read e1;simp only[RV]at v1;obtain⟨p',rfl,e3⟩:=v1;rw[e2]at e3;cases e3;exact .inl ⟨rfl,vs,q1⟩
 cases k with
 |join=>
  cases d with
  |str l=>simp only[RV]at v1;obtain⟨rfl,_⟩:=v1;rfl
  |_=>cases e
 |append=>cases d with|ref i=>exact lst i rfl e|_=>cases e
 |extend=>cases d with|ref i=>exact lst i rfl e|_=>cases e
 |pop=>cases d with|ref i=>exact lst i rfl e|_=>cases e
theorem zN {k:ME}{es:Es}{e0:Expr}{xs:List Expr}{name:Str}{apos:Pos}{ty id:String}(pa:PlainAttrs ty) (slot:Slot ty name id) (hty:typeOf (.builtin id)=pure (.type "method_descriptor"))
  (hm:∀X,Good G n sc N df X->tK X id (vA X.K (Ev.fN k))) (ht:ty=D3 k) (ha:JE G n sc N df m a xa) (hs:JA G n sc N df m es (e0 :: xs))
  (hbase:∀env:Env,attributeBase xa name env (eval xa env)=eval xa env:=by intro _;rfl)
  (hfew:∀env:Env,((backTo pos (starEach (e0 :: xs) env)).all (λx=>!x.1)&&(backToKw pos (keywordEach [] env)).all (λx=>x.1.isSome)
   &&decide ((e0 :: xs).length+([]:List Keyword).length+(if ([]:List Keyword).isEmpty then 0 else 1)<30))=true:=by intro _;rfl)
  (hline:(apos.endLine==pos.line)=true:=by rfl) (hst:∀env:Env,starEach (e0 :: xs) env=(false,eval e0 env) :: starEach xs env:=by intro _;rfl) (hpl:∀env:Env,(backTo pos (starEach xs env)).any (·.1)=false:=by intro _;rfl) :
  JE G n sc N df m (.me k a es) (.Call (.Attribute xa name apos) (e0 :: xs) [] pos):=λX g=>
 PE.of (QA pa slot hty (hm X g) (ha X g) (hs X g) (hbase _) (hfew _) hline (hst _) (hpl _)) λs H Q q=>by
  obtain⟨r,fr,h,d,h',sr,hr,e,q⟩:=q;simp only[Ev.ev]at e;obtain⟨x,h1,e1,e⟩:=Ev.ah e;split at e
  .rename_i hk;obtain⟨ds,h2,e2,e⟩:=Ev.ah e;refine⟨r,fr,h,x,h1,sr,hr,e1,λv H1 r1 v1 hr1 f1=>⟨BE hr1 v1 hk ht,?_⟩⟩;refine⟨r1,fr,h1,ds,h2,sr.mono f1,hr1,e2,λvs H2 r2 v2 hr2 f2=>?_⟩;exact⟨r2,h2,x,ds,d,h',hr2,v1.mono f2,v2,e,q.later (f1.trans f2)⟩
  .cases e
theorem Mq {k:ME}{name:Str}{apos:Pos}{ty id:String}(pa:PlainAttrs ty) (slot:Slot ty name id) (hty:typeOf (.builtin id)=pure (.type "method_descriptor"))
  (hm:∀X,Good G n sc N df X->tK X id (vA X.K (Ev.fN k))) (ht:ty=D3 k) (ha:JE G n sc N df m a xa)
  (hbase:∀env:Env,attributeBase xa name env (eval xa env)=eval xa env:=by intro _;rfl) (hline:(apos.endLine==pos.line)=true:=by rfl) :
  JE G n sc N df m (.me k a .nil) (.Call (.Attribute xa name apos) [] [] pos):=λX g=>
 PE.of (LP pa slot hty (hm X g) (ha X g) (hbase _) hline) λs H Q q=>by
  obtain⟨r,fr,h,d,h',sr,hr,e,q⟩:=q;simp only[Ev.ev]at e;obtain⟨x,h1,e1,e⟩:=Ev.ah e;split at e
  .rename_i hk;simp only[Ev.cg,Ev.ak]at e;refine⟨r,fr,h,x,h1,sr,hr,e1,λv H1 r1 v1 hr1 f1=>⟨BE hr1 v1 hk ht,?_⟩⟩;exact⟨r1,h1,x,[],d,h',hr1,v1,.nil,e,q.later f1⟩
  .cases e
end
end Sm
set_option maxRecDepth 100000
namespace Sm
open PySem PySem.Spec PyProof.Rows L2
open Ev (D O Hh Fr R aO E Es Eo T S Ss Fl Src bU bN TY BI ME)
noncomputable def rV(K:PySem.W.Frag)(r0:List Addr)(H0:Hp)(s:Src)(J:L2.It):Prop:=∀(i:Nat) H1 r1 h1,HR K H1 r1 h1->Fm K r0 r1 H0 H1->Ev.stays h1 s.2=true->
 (∀d,s.1[i]?=some d->J.go i H1/\∀x H2,J.GH i H1 x H2->∃r2,RV K H2 r2 d x/\HR K H2 r2 h1/\Fm K r1 r2 H1 H2)/\(s.1.length<=i->J.stop i H1)
inductive Tc(K:PySem.W.Frag)(m:List Nat)(P:aO)(it:Ev.It)(s:L2.St)(H:Hp)(Rr:L2.It->Hp->Prop):Prop
 |mk (r:List Addr) (fr:Fr) (h:Hh) (src:Src) (h':Hh) (c0:SR K m H r fr s) (c1:HR K H r h) (c2:Ev.cF P it fr h=.ok src h') (c3:∀J H' r',HR K H' r' h'->Fm K r r' H H'->rV K r' H' src J->Rr J H'):Tc K m P it s H Rr
noncomputable def JI(G:Tb)(n:Nat)(sc:Scope)(N:List Str)(df:Bool)(m:List Nat)(it:Ev.It)(tg x:Expr):Prop:=∀X,Good G n sc N df X->PI X tg x (Tc X.K m (Ev.run G.F G.w n) it)
noncomputable def GN(z:Str):L2.It:=⟨λi _=>i<z.length,λi H x H'=>H'=H/\∃c,z.cps[i]?=some c/\x=.str ⟨#[c]⟩,λi _=>z.length<=i⟩
theorem Mr{M:Model}{A:Around}{E:Value->Shared->Prop}{s:Shared}{tg:Expr}{it:Value}{x:Str}{t:Tok}{Q:Unit->Shared->Prop}(hQ:Q () s):wpAny M A (letOwnedTupleGo tg it (.str x t)) Q E s:=by
 unfold letOwnedTupleGo;cases tg<;>first
  |exact wpAny_pure hQ
  | (cases it<;>exact wpAny_pure hQ)
theorem vC {P:Program}{w:World}{K:PySem.W.Frag}{tg:Expr}(z:Str) (t:Tok) (it:Addr) (ty:String) (hty:ty = "str_ascii_iterator" \/ty = "str_iterator") :
  Turn P w K tg (GN z) [it] it (λi h=>h.IsStrIter it ty z t i) where
 mem:=by simp
 obj:=λi h st b hb=>by
  have e:b=it:=by simpa using hb
  subst e;obtain⟨o,e,c,d⟩:=st;exact⟨o,e,λv z=>by rw[d]at z;cases z⟩
 keep:=λi h h' st k=>by
  obtain⟨o,e,c,d⟩:=st;exact⟨o,k it (by simp) o e,c,d⟩
 item:=by
  intro X hP hw hK hc i pins s σ H E I hf st hg;subst hP hw hK;obtain⟨f0,f1,f2,f3,f4,f5⟩:=hf it (by simp);have W:Walks X.prog X.w X.A it [it] [it] z.cps.size (SignAt z) (λi h=>h.IsStrIter it ty z t i):=by
   rcases hty with e|e
   .subst e;exact Walks.strAscii (I.ok.hd hc) it z t
   .subst e;exact Walks.strWide (I.ok.hd hc) it z t
  refine W.item i s _ _ hg st λv h' tk hv st' kk=>?_;obtain⟨c,u,hc',rfl⟩:=hv;have I1:Inv X pins σ H { s with heap:=h',toks:=tk }:=I.turned (λb o hb e=>kk b o (by simpa using hb) e) f0 f1 f3 f4 f5;exact⟨_,rfl,Mr ⟨.str ⟨#[c]⟩,H,I1,⟨u,rfl⟩,⟨rfl,c,hc',rfl⟩,st',λb hb=>(hf b hb).1⟩⟩
 done:=by
  intro X hP hw hK hc i pins s σ H E I hf st hg;subst hP hw hK;obtain⟨f0,f1,f2,f3,f4,f5⟩:=hf it (by simp);rcases hty with e|e
  .subst e;exact wpAny_pyNext_ascii_end (I.ok.hd hc) st (by simpa[Str.length,GN]using hg) λh' eb=>⟨rfl,I.turned (t':=s.toks) (λb o hb e=>eb b o hb e) f0 f1 f3 f4 f5⟩
  .subst e;exact wpAny_pyNext_wide_end (I.ok.hd hc) st (by simpa[Str.length,GN]using hg) λh' eb=>⟨rfl,I.turned (t':=s.toks) (λb o hb e=>eb b o hb e) f0 f1 f3 f4 f5⟩
 self:=λ_ _ _ _ _ st h=>by
  rcases hty with e|e
  .subst e;exact wpAny_pyIter_striter_ascii st h
  .subst e;exact wpAny_pyIter_striter_wide st h
noncomputable def GO(K:PySem.W.Frag)(x:V)(H:Hp)(Rr:L2.It->Hp->Prop):Prop:=
 (∃a xs,x=.ref a/\fF K H a xs/\Rr (SX K a) H)\/(∃a xs,x=.ref a/\dP K H a xs/\Rr (SY K a) H)\/∃z,x=.str z/\Rr (GN z) H
theorem Ms{X:Cx}{tg l:Expr}{tl:TE}{wi:TI}(hl:PE X l tl)(hw:∀s H Rr,wi s H Rr->tl s H λx H1=>GO X.K x H1 Rr):PI X tg l wi:=by
 intro pins s σ H Rr I h;refine bF (hl pins s σ H _ I (hw _ _ _ h)) λv s1 ⟨x,H1,I1,r1,q1⟩=>?_;have fp:∀(o:Obj) b,b∈[s1.heap.objs.size]->iK X pins H1 b:=λo b hb=>by
  have e:b=s1.heap.objs.size:=by simpa using hb
  subst e;exact I1.DF (Nat.le_refl _) (I1.hok.fresh (Nat.le_refl _))
 rcases q1 with ⟨a,xs,rfl,hq,q⟩|⟨a,xs,rfl,hq,q⟩|⟨z,rfl,q⟩
 .cases r1;obtain⟨its,rv,p,hz⟩:=I1.list hq;refine wpAny_pyIter_list p.isList ?_;exact⟨s1.heap.objs.size,[s1.heap.objs.size],_,_,H1,rfl,I1.kept (t':=s1.toks) λb o e=>Heap.get?_push_of_some _ e,Bf a _,⟨_,Heap.get?_push_size _ rfl,rfl,rfl⟩,fp default,q⟩
 .cases r1;obtain⟨its,rv,p,hz⟩:=I1.tuple hq;refine wpAny_pyIter_tuple (show s1.heap.IsTuple a its.toArray from p) ?_;exact⟨s1.heap.objs.size,[s1.heap.objs.size],_,_,H1,rfl,I1.kept (t':=s1.toks) λb o e=>Heap.get?_push_of_some _ e,zx a _,⟨_,Heap.get?_push_size _ rfl,rfl,rfl⟩,fp default,q⟩
 .obtain⟨t,rfl⟩:=r1;cases ha:z.cps.all (· < 128)
  .refine wpAny_pyIter_wide ha ?_;exact⟨s1.heap.objs.size,[s1.heap.objs.size],_,_,H1,rfl,I1.kept (t':=s1.toks) λb o e=>Heap.get?_push_of_some _ e,vC z t _ _ (.inr rfl),⟨_,Heap.get?_push_size _ rfl,rfl,rfl⟩,fp default,q⟩
  .refine wpAny_pyIter_ascii ha ?_;exact⟨s1.heap.objs.size,[s1.heap.objs.size],_,_,H1,rfl,I1.kept (t':=s1.toks) λb o e=>Heap.get?_push_of_some _ e,vC z t _ _ (.inl rfl),⟨_,Heap.get?_push_size _ rfl,rfl,rfl⟩,fp default,q⟩
theorem BF{h:Hh}{n:Nat}{ds:List D}(e:Ev.stays h [(n,ds)]=true):Ev.bq h n=some ds:=by
 simp only[Ev.stays,Bool.and_true]at e;split at e
 .rename_i es q;rw[q,(Ev.tP _ _).mp e]
 .cases e
theorem IU{K:PySem.W.Frag}{H:Hp}{r:List Addr}{h:Hh}{d:D}{v:V}{src:Src}{Rr:L2.It->Hp->Prop}(hr:HR K H r h)(v1:RV K H r d v)(e:Ev.e8 h d=some src)(q:∀J,rV K r H src J->Rr J H):GO K v H Rr:=by
 cases d with
 |tup ds=>
  simp only[RV]at v1;obtain⟨a,vs,rfl,z,w⟩:=v1;cases e;refine .inr (.inl ⟨a,vs,rfl,z,q _ λi H1 r1 h1 hr1 f1 st=>⟨λd' e'=>?_,λhl=>?_⟩⟩)
  .obtain⟨u,e1,e2⟩:=w.get e';refine⟨⟨vs,u,f1.tups _ _ z,e1⟩,λx H2 y=>?_⟩;obtain⟨rfl,y⟩:=y;have:=y vs (f1.tups _ _ z);rw[e1]at this;cases this;exact⟨r1,e2.mono f1,hr1,.refl⟩
  .exact⟨vs,f1.tups _ _ z,by rw[w.length];exact hl⟩
 |str l=>
  simp only[RV]at v1;obtain⟨rfl,z⟩:=v1;cases e;refine .inr (.inr ⟨_,rfl,q _ λi H1 r1 h1 hr1 f1 st=>⟨λd' e'=>?_,λhl=>?_⟩⟩)
  .rw[List.getElem?_map]at e';cases e2:l[i]? with
   |none=>rw[e2]at e';cases e'
   |some c=>
    rw[e2]at e';cases e';refine⟨by show i<(aW l).length;rw[dc];exact(List.getElem?_eq_some_iff.mp e2).1,λx H2 y=>?_⟩;obtain⟨rfl,c',y1,rfl⟩:=y;have e3:(aW l).cps[i]?=some c:=by simp[aW,e2]
    rw[e3]at y1;cases y1;exact⟨r1,⟨rfl,by show 1<=sizeLine;decide⟩,hr1,.refl⟩
  .show(aW l).length<=i;rw[dc];simpa using hl
 |ref k=>
  simp only[RV]at v1;obtain⟨a,rfl,z⟩:=v1;simp only[Ev.e8,Option.map_eq_some_iff]at e;obtain⟨ds,e1,rfl⟩:=e;obtain⟨a',vs,e2,e3,e4⟩:=hr.read e1;rw[z]at e2;cases e2;refine .inl ⟨a,vs,rfl,e3,q _ λi H1 r1 h1 hr1 f1 st=>?_⟩;obtain⟨a',us,e5,e6,e7⟩:=hr1.read (BF st);rw[f1.pre _ _ z]at e5;cases e5;refine⟨λd' e'=>?_,λhl=>⟨us,e6,by rw[e7.length];exact hl⟩⟩;obtain⟨u,g1,g2⟩:=e7.get e';refine⟨⟨us,u,e6,g1⟩,λx H2 y=>?_⟩;obtain⟨rfl,y⟩:=y;have:=y us e6;rw[g1]at this;cases this;exact⟨r1,g2,hr1,.refl⟩
 |_=>cases e
section
variable{G:Tb}{n:Nat}{sc:Scope}{N:List Str}{df:Bool}{m:List Nat}{a b c:E}{xa xb xc tg:Expr}{pos:Pos}
theorem Mt(ha:JE G n sc N df m a xa):JI G n sc N df m (.seq a) tg xa:=λX g=>Ms (ha X g) λs H Rr q=>by
 obtain⟨r,fr,h,src,h',sr,hr,e,q⟩:=q;simp only[Ev.cF]at e;obtain⟨d,h1,e1,e⟩:=Ev.ah e;obtain⟨e,rfl⟩:=Ev.aH e;refine⟨r,fr,h,d,_,sr,hr,e1,λv H1 r1 v1 hr1 f1=>?_⟩;exact IU hr1 v1 e λJ hJ=>q J H1 r1 hr1 f1 hJ
theorem PI.of{X:Cx}{tg l:Expr}{t t':TI}(h:PI X tg l t)(w:∀s H Q,t' s H Q->t s H Q):PI X tg l t':=λpins s σ H Q I q=>h pins s σ H Q I (w _ _ _ q)
theorem Mu{K:PySem.W.Frag}{r:List Addr}{H:Hp}(lo:Int)(k:Nat):rV K r H (Ev.range lo k,[]) (GI lo k):=λi H1 r1 h1 hr1 f1 st=>by
 refine⟨λd e=>?_,λhl=>?_⟩
 .simp only[Ev.range,List.getElem?_map]at e;cases e2:(List.range k)[i]? with
  |none=>rw[e2]at e;cases e
  |some j=>
   rw[e2]at e;cases e;have hi:i<k:=by simpa using (List.getElem?_eq_some_iff.mp e2).1
   have hj:j=i:=by
    rw[List.getElem?_range hi]at e2;exact(Option.some.inj e2).symm
   subst hj;refine⟨hi,λx H2 y=>?_⟩;obtain⟨rfl,rfl⟩:=y;exact⟨r1,rfl,hr1,.refl⟩
 .have:(Ev.range lo k).length=k:=by simp[Ev.range]
  show k<=i;have hl':(Ev.range lo k).length<=i:=hl;omega
theorem IV {e1:E}{p:Pos}(hs:JA G n sc N df m (.cons e1 .nil) [xa]) (hg:sc.names.lookup ("range" : Str)=some .globalImplicit:=by rfl) (hb:("range" : Str)∈G.bl:=by decide +kernel)
  (hst:∀env:Env,starEach [xa] env=[(false,eval xa env)]:=by intro _;rfl):JI G n sc N df m (.fE (.cons e1 .nil)) tg (.Call (.Name "range" p) [xa] [] pos):=λX g=>
 PI.of (Bg (g.gl hg) (g.bl _ hb) (hs X g) (hst _)) λs H Rr q=>by
  obtain⟨r,fr,h,src,h',sr,hr,e,q⟩:=q;simp only[Ev.cF]at e;obtain⟨ds,h1,e1,e⟩:=Ev.ah e;obtain⟨e,rfl⟩:=Ev.aH e;refine⟨r,fr,h,ds,_,sr,hr,e1,λvs H1 r1 v1 hr1 f1=>?_⟩;unfold Ev.er at e;split at e
  .rename_i j;split at e
   .rename_i hj;cases e;simp only[aG,RV]at v1;obtain⟨v,w,rfl,rfl,rfl⟩:=v1;exact⟨_,rfl,hj.1,hj.2,q _ H1 r1 hr1 f1 (Mu 0 _)⟩
   .cases e
  .exfalso;simp only[Ev.cg]at e1;obtain⟨d,_,_,e1⟩:=Ev.ah e1;simp only[Ev.ak]at e1;cases e1
  .cases e
inductive gJ(K:PySem.W.Frag)(m:List Nat)(t:T)(v:V)(s:L2.St)(H:Hp)(Q:L2.St->Hp->Prop):Prop
 |mk (r:List Addr) (fr:Fr) (h:Hh) (d:D) (aj:Fr) (c0:SR K m H r fr s) (c1:HR K H r h) (c2:RV K H r d v) (c3:Ev.bC t d fr=some aj) (c4:∀s',SR K m H r aj s'->Q s' H):gJ K m t v s H Q
noncomputable def JG(G:Tb)(n:Nat)(sc:Scope)(N:List Str)(df:Bool)(m:List Nat)(t:T)(x:Expr):Prop:=∀X,Good G n sc N df X->PG X x (gJ X.K m t)
theorem PG.of{X:Cx}{e:Expr}{t t':TG}(h:PG X e t)(w:∀v s H Q,t' v s H Q->t v s H Q):PG X e t':=λpins s σ H v u Q I r q=>h pins s σ H v u Q I r (w _ _ _ _ q)
theorem SR.set{K:PySem.W.Frag}{m:List Nat}{H:Hp}{r:List Addr}{fr:Fr}{s:L2.St}(sr:SR K m H r fr s)(hm:m.Nodup){j i:Nat}(hj:m[j]?=some i){d:D}{v:V}(v1:RV K H r d v):SR K m H r (fr.set i (some d)) (s.set j (some v)):=by
 refine⟨by simp[sr.len],λj' i' d' e1 e2=>?_⟩;by_cases hi:i'=i
 .subst hi;have:j'=j:=BG hm e1 hj;subst this;have hlt:i'<fr.length:=by
   have:=(List.getElem?_eq_some_iff.mp e2).1;simpa using this
  rw[List.getElem?_set_self hlt]at e2;cases e2;refine⟨v,List.getElem?_set_self ?_,v1⟩;rw[sr.len];exact(List.getElem?_eq_some_iff.mp hj).1
 .rw[List.getElem?_set_ne (λz=>hi z.symm)]at e2;obtain⟨u,q1,q2⟩:=sr.sl j' i' d' e1 e2;refine⟨u,?_,q2⟩;rw[List.getElem?_set_ne]
  .exact q1
  .intro z;subst z;rw[hj]at e1;cases e1;exact hi rfl
where
 BG {l:List Nat} (hl:l.Nodup) {i j:Nat} {x:Nat} (a:l[i]?=some x) (b:l[j]?=some x):i=j:=by
  have ha:=(List.getElem?_eq_some_iff.mp a)
  have hb:=(List.getElem?_eq_some_iff.mp b)
  obtain⟨h1,e1⟩:=ha;obtain⟨h2,e2⟩:=hb;exact(List.getElem_inj hl).mp (e1.trans e2.symm)
theorem Good.loc{X:Cx}(g:Good G n sc N df X){x:Str}(h:sc.names.lookup x=some .local\/(df=true/\sc.names.lookup x=some .cell)):Loc X.env.scope x/\(X.fn x=true\/X.env.scope.names.lookup x=some .local):=by
 rw[show Loc X.env.scope x↔Loc sc x by rw[g.sc],g.sc];rcases h with h|⟨h1,h⟩
 .exact⟨.inl h,.inr h⟩
 .exact⟨.inr h,.inl (g.own h1 x)⟩
theorem Mv(j i:Nat){x:Str}(hm:m.Nodup)(hN:N.Nodup)(hj:m[j]?=some i:=by rfl)(tR:N[j]?=some x:=by rfl)
  (hl:sc.names.lookup x=some .local\/(df=true/\sc.names.lookup x=some .cell):=by first|exact Or.inl rfl|exact Or.inr ⟨rfl,rfl⟩):JG G n sc N df m (.one i) (.Name x pos):=λX g=>by
 obtain⟨h1,h2⟩:=g.loc hl;refine PG.of (yg (i:=j) (by rw[g.nm];exact hN) (by rw[g.nm];exact tR) h1 h2) λv s H Q q=>?_;obtain⟨r,fr,h,d,aj,sr,hr,v1,e,q⟩:=q;cases e;exact q _ (sr.set hm hj v1)
inductive Td(K:PySem.W.Frag)(m:List Nat)(l:List Nat)(vs:List V)(s:L2.St)(H:Hp)(Q:L2.St->Hp->Prop):Prop
 |mk (r:List Addr) (fr:Fr) (h:Hh) (ds:List D) (aj:Fr) (c0:SR K m H r fr s) (c1:HR K H r h) (c2:aG K H r ds vs) (c3:Ev.cU l ds fr=some aj) (c4:∀s',SR K m H r aj s'->Q s' H):Td K m l vs s H Q
noncomputable def tS(G:Tb)(n:Nat)(sc:Scope)(N:List Str)(df:Bool)(m:List Nat)(l:List Nat)(xs:List Expr):Prop:=∀X,Good G n sc N df X->pH X xs (Td X.K m l)
theorem pH.of{X:Cx}{e:List Expr}{t t':tB}(h:pH X e t)(w:∀v s H Q,t' v s H Q->t v s H Q):pH X e t':=λpins s σ H v u Q I r q=>h pins s σ H v u Q I r (w _ _ _ _ q)
theorem IW:tS G n sc N df m [] []:=λX g=>pH.of Io λvs s H Q q=>by
 obtain⟨r,fr,h,ds,aj,sr,hr,v1,e,q⟩:=q;cases ds with
 |nil=>simp only[aG]at v1;subst v1;cases e;exact⟨rfl,q _ sr⟩
 |cons _ _=>cases e
theorem D4(j i:Nat){x:Str}{l:List Nat}{xs:List Expr}(hm:m.Nodup)(hN:N.Nodup)(hs:tS G n sc N df m l xs)(hj:m[j]?=some i:=by rfl)(tR:N[j]?=some x:=by rfl)
  (hl:sc.names.lookup x=some .local\/(df=true/\sc.names.lookup x=some .cell):=by first|exact Or.inl rfl|exact Or.inr ⟨rfl,rfl⟩)
  (hst:∀env:Env,(assignEach (.Name x pos :: xs) env).map (·.2)=assign (.Name x pos) env :: (assignEach xs env).map (·.2):=by intro _;rfl):tS G n sc N df m (i :: l) (.Name x pos :: xs):=λX g=>by
 obtain⟨h1,h2⟩:=g.loc hl;refine pH.of (DC (yg (i:=j) (by rw[g.nm];exact hN) (by rw[g.nm];exact tR) h1 h2) (hs X g) (hst _)) λvs s H Q q=>?_;obtain⟨r,fr,h,ds,aj,sr,hr,v1,e,q⟩:=q;cases ds with
 |nil=>cases e
 |cons d ds=>
  simp only[aG]at v1;obtain⟨v,w,rfl,v2,v3⟩:=v1;exact⟨v,w,rfl,r,_,h,ds,aj,sr.set hm hj v2,hr,v3,e,q⟩
theorem IX{l:List Nat}{xs:List Expr}{k:Nat}(hs:tS G n sc N df m l xs)(hn:∀env:Env,(assignEach xs env).length=l.length:=by intro _;rfl)(hst:∀env:Env,(assignEach xs env).findIdx? (·.1)=none:=by intro _;rfl) :
  JG G n sc N df m (.many l) (.Tuple xs k pos):=λX g=>PG.of (Lp (n:=l.length) g.calm (hs X g) (hn _) (hst _)) λv s H Q q=>by
 obtain⟨r,fr,h,d,aj,sr,hr,v1,e,q⟩:=q;cases d with
 |tup ds=>
  simp only[RV]at v1;obtain⟨p,vs,rfl,z,w⟩:=v1;have hlen:∀(l:List Nat) (ds:List D) fr aj,Ev.cU l ds fr=some aj->ds.length=l.length:=by
   intro l;induction l with
   |nil=>intro ds fr aj e;cases ds with|nil=>rfl|cons _ _=>cases e
   |cons i l ih=>intro ds fr aj e;cases ds with|nil=>cases e|cons d ds=>simp[ih ds _ _ e]
  exact⟨p,vs,rfl,z,by rw[w.length];exact hlen _ _ _ _ e,r,fr,h,ds,aj,sr,hr,w,e,q⟩
 |_=>cases e
end
end Sm
set_option maxRecDepth 100000
namespace Sm
open PySem PySem.Spec PyProof.Rows L2
open Ev (D O Hh Fr R aO E Es Eo T S Ss Fl Src bU bN TY BI ME)
noncomputable def Fin(K:PySem.W.Frag)(m:List Nat)(r:List Addr)(H:Hp)(h':Hh)(fl:Fl)(aj:Fr)(Q:Ends):Prop:=match fl with
 |.nx=>∀s' H' r',SR K m H' r' aj s'->HR K H' r' h'->Fm K r r' H H'->Q.nx s' H'
 |.bk=>∀s' H' r',SR K m H' r' aj s'->HR K H' r' h'->Fm K r r' H H'->Q.bk s' H'
 |.ct=>∀s' H' r',SR K m H' r' aj s'->HR K H' r' h'->Fm K r r' H H'->Q.ct s' H'
 |.ret d=>Res K r H h' d Q.rt
theorem Fin.later{K:PySem.W.Frag}{m:List Nat}{r r':List Addr}{H H':Hp}{h':Hh}{fl:Fl}{aj:Fr}{Q:Ends}(q:Fin K m r H h' fl aj Q)(f:Fm K r r' H H'):Fin K m r' H' h' fl aj Q:=by
 cases fl with
 |nx=>exact λs2 H2 r2 a b g=>q s2 H2 r2 a b (f.trans g)
 |bk=>exact λs2 H2 r2 a b g=>q s2 H2 r2 a b (f.trans g)
 |ct=>exact λs2 H2 r2 a b g=>q s2 H2 r2 a b (f.trans g)
 |ret d=>exact Res.later q f
inductive Te(K:PySem.W.Frag)(m:List Nat)(P:aO)(w:Nat)(st:S)(Q:Ends)(s:L2.St)(H:Hp):Prop
 |mk (r:List Addr) (fr:Fr) (h:Hh) (fl:Fl) (aj:Fr) (h':Hh) (c0:SR K m H r fr s) (c1:HR K H r h) (c2:Ev.ex P w st fr h=.ok (fl,aj) h') (c3:Fin K m r H h' fl aj Q):Te K m P w st Q s H
inductive D5(K:PySem.W.Frag)(m:List Nat)(P:aO)(w:Nat)(ss:Ss)(Q:Ends)(s:L2.St)(H:Hp):Prop
 |mk (r:List Addr) (fr:Fr) (h:Hh) (fl:Fl) (aj:Fr) (h':Hh) (c0:SR K m H r fr s) (c1:HR K H r h) (c2:Ev.exs P w ss fr h=.ok (fl,aj) h') (c3:Fin K m r H h' fl aj Q):D5 K m P w ss Q s H
theorem PS.of{X:Cx}{st:Stmt}{t t':TS}(h:PS X st t)(w:∀Q s H,t' Q s H->t Q s H):PS X st t':=λpins s σ H Q I q=>h pins s σ H Q I (w _ _ _ q)
theorem iI.of{X:Cx}{st:List Stmt}{t t':TS}(h:iI X st t)(w:∀Q s H,t' Q s H->t Q s H):iI X st t':=λpins s σ H Q I q=>h pins s σ H Q I (w _ _ _ q)
section
variable(G:Tb)(n:Nat)(sc:Scope)(N:List Str)(df:Bool)(m:List Nat)
noncomputable def JS(st:S)(x:Stmt):Prop:=∀X,Good G n sc N df X->PS X x (Te X.K m (Ev.run G.F G.w n) G.w st)
noncomputable def jU(ss:Ss)(xs:List Stmt):Prop:=∀X,Good G n sc N df X->iI X xs (D5 X.K m (Ev.run G.F G.w n) G.w ss)
end
section
variable{G:Tb}{n:Nat}{sc:Scope}{N:List Str}{df:Bool}{m:List Nat}{a b c:E}{xa xb xc tg:Expr}{pos:Pos}
theorem IY:jU G n sc N df m .nil []:=λX g=>iI.of Im λQ s H q=>by
 obtain⟨r,fr,h,fl,aj,h',sr,hr,e,q⟩:=q;simp only[Ev.exs]at e;cases e;exact q s H r sr hr .refl
theorem D6{st:S}{ss:Ss}{x:Stmt}{xs:List Stmt}(h1:JS G n sc N df m st x)(h2:jU G n sc N df m ss xs):jU G n sc N df m (.cons st ss) (x :: xs):=λX g=>iI.of (Dz (h1 X g) (h2 X g)) λQ s H q=>by
 obtain⟨r,fr,h,fl,aj,h',sr,hr,e,q⟩:=q;simp only[Ev.exs]at e;obtain⟨⟨gP,af⟩,h1,e1,e⟩:=Ev.ah e;refine⟨r,fr,h,gP,af,h1,sr,hr,e1,?_⟩;cases gP with
 |nx=>exact λs1 H1 r1 BH hr1 f1=>⟨r1,af,h1,fl,aj,h',BH,hr1,e,q.later f1⟩
 |bk=>cases e;exact q
 |ct=>cases e;exact q
 |ret d=>cases e;exact q
theorem Mw(j i:Nat){x:Str}{pos':Pos}(hm:m.Nodup)(hN:N.Nodup)(ha:JE G n sc N df m a xa)(hs:∀env:Env,swapsWith xa (some (.Name x pos')) pos.line env=pure false:=by intro _;rfl)(hj:m[j]?=some i:=by rfl)(tR:N[j]?=some x:=by rfl)
  (hl:sc.names.lookup x=some .local\/(df=true/\sc.names.lookup x=some .cell):=by first|exact Or.inl rfl|exact Or.inr ⟨rfl,rfl⟩):JS G n sc N df m (.set i a) (.Assign [.Name x pos'] xa pos):=λX g=>by
 obtain⟨h1,h2⟩:=g.loc hl;refine PS.of (Be (i:=j) (by rw[g.nm];exact hN) (by rw[g.nm];exact tR) h1 (ha X g) (hs _) h2) λQ s H q=>?_;obtain⟨r,fr,h,fl,aj,h',sr,hr,e,q⟩:=q;simp only[Ev.ex]at e;obtain⟨d,h1,e1,e⟩:=Ev.ah e;cases e;exact⟨r,fr,h,d,_,sr,hr,e1,λv H1 r1 v1 hr1 f1=>q _ H1 r1 ((sr.mono f1).set hm hj v1) hr1 f1⟩
theorem Mx(ha:JE G n sc N df m a xa)(hs:∀env:Env,swapsWith xa none pos.line env=pure false:=by intro _;rfl):JS G n sc N df m (.exp a) (.Expr xa pos):=λX g=>PS.of (yf (ha X g) (hs _)) λQ s H q=>by
 obtain⟨r,fr,h,fl,aj,h',sr,hr,e,q⟩:=q;simp only[Ev.ex]at e;obtain⟨d,h1,e1,e⟩:=Ev.ah e;cases e;exact⟨r,fr,h,d,_,sr,hr,e1,λv H1 r1 v1 hr1 f1=>q s H1 r1 (sr.mono f1) hr1 f1⟩
theorem My(ha:JE G n sc N df m a xa):JS G n sc N df m (.ret a) (.Return (some xa) pos):=λX g=>PS.of (Ln (ha X g)) λQ s H q=>by
 obtain⟨r,fr,h,fl,aj,h',sr,hr,e,q⟩:=q;simp only[Ev.ex]at e;obtain⟨d,h1,e1,e⟩:=Ev.ah e;cases e;exact⟨r,fr,h,d,_,sr,hr,e1,q⟩
theorem Mz{ta tb:Ss}{ya yb:List Stmt}(hc:JT G n sc N df m a xa)(h1:jU G n sc N df m ta ya)(h2:jU G n sc N df m tb yb):JS G n sc N df m (.iff a ta tb) (.If xa ya yb pos):=λX g=>PS.of (Ql (hc X g) (h1 X g) (h2 X g)) λQ s H q=>by
 obtain⟨r,fr,h,fl,aj,h',sr,hr,e,q⟩:=q;simp only[Ev.ex]at e;obtain⟨k,h3,e1,e⟩:=Ev.ah e;refine⟨r,fr,h,k,h3,sr,hr,e1,λH1 r1 hr1 f1=>?_⟩;cases k with
 |true=>exact⟨r1,fr,h3,fl,aj,h',sr.mono f1,hr1,e,q.later f1⟩
 |false=>exact⟨r1,fr,h3,fl,aj,h',sr.mono f1,hr1,e,q.later f1⟩
theorem Good.pass{X:Cx}(g:Good G n sc N df X):PassesOwn (model X.prog X.w) X.A X.env X.xe:=by
 rw[g.xe];exact PassesOwn.never
noncomputable def FN(K:PySem.W.Frag)(m:List Nat)(gP:Fl)(gX:Fr)(h4:Hh)(r1:List Addr)(H1:Hp)(s5:L2.St)(H5:Hp):Prop:=(gP=.nx\/gP=.ct)/\∃r5,SR K m H5 r5 gX s5/\HR K H5 r5 h4/\Fm K r1 r5 H1 H5
section
variable{K:PySem.W.Frag}{r r1 r2:List Addr}{H H1 H2:Hp}{h4 h':Hh}{fl gP:Fl}{gX aj:Fr}{Q:Ends}
noncomputable def zO(L:R (Fl×Fr))(p:Fl×Fr)(h1:Hh):R (Fl×Fr):=match p.1 with
 |.nx=>L
 |.ct=>L
 |.bk=>.ok (.nx,p.2) h1
 |.ret x=>.ok (.ret x,p.2) h1
theorem yt{L:R (Fl×Fr)}(e:zO L (gP,gX) h4=.ok (fl,aj) h')(z:gP=.nx\/gP=.ct):L=.ok (fl,aj) h':=by rcases z with rfl|rfl<;>exact e
theorem vD{L:R (Fl×Fr)}(e:zO L (gP,gX) h4=.ok (fl,aj) h')(q:Fin K m r H h' fl aj Q)(f:Fm K r r1 H H1)(f2:Fm K r1 r2 H1 H2):Fin K m r2 H2 h4 gP gX { Q with nx:=FN K m gP gX h4 r1 H1,ct:=FN K m gP gX h4 r1 H1,bk:=Q.nx }:=by
 cases gP with
 |nx=>exact λs6 H6 r6 BJ BK f6=>⟨.inl rfl,r6,BJ,BK,f2.trans f6⟩
 |ct=>exact λs6 H6 r6 BJ BK f6=>⟨.inr rfl,r6,BJ,BK,f2.trans f6⟩
 |bk=>
  cases e;exact λs6 H6 r6 BJ BK f6=>q s6 H6 r6 BJ BK ((f.trans f2).trans f6)
 |ret d=>
  cases e;exact Res.later q (f.trans f2)
noncomputable def vE(P:aO)(w:Nat)(t:T)(tb:Ss):D->Fr->Hh->R (Fl×Fr):=λd ao h2=>match Ev.bC t d ao with
 |some bI=>Ev.exs P w tb bI h2
 |none=>.bad
theorem vF(P:aO)(w:Nat)(t:T)(it:Ev.It)(tb:Ss)(fr:Fr)(h:Hh):Ev.ex P w (.for t it tb) fr h=(Ev.cF P it fr h).bind λs h1=>Ev.forL (vE P w t tb) s.2 s.1 fr h1:=by simp only[Ev.ex];rfl
theorem tT(f:D->Fr->Hh->R (Fl×Fr))(ck:List (Nat×List D))(d:D)(ds:List D)(fr:Fr)(h:Hh):Ev.forL f ck (d :: ds) fr h=if Ev.stays h ck then (f d fr h).bind λp h1=>zO (Ev.forL f ck ds p.2 h1) p h1 else .bad:=rfl
noncomputable def FW(K:PySem.W.Frag)(m:List Nat)(f:D->Fr->Hh->R (Fl×Fr))(src:Src)(r1:List Addr)(H1:Hp)(o:Fl×Fr)(h':Hh)(i k:Nat)(s3:L2.St)(H3:Hp):Prop:=
 k=src.1.length - i/\i<=src.1.length/\∃r3 bI h3,SR K m H3 r3 bI s3/\HR K H3 r3 h3/\Fm K r1 r3 H1 H3/\Ev.forL f src.2 (src.1.drop i) bI h3=.ok o h'
theorem D7{P:aO}{w:Nat}{t:T}{tb:Ss}{src:Src}{J:L2.It}{i k:Nat}{s3:L2.St}{H3:Hp}(hJ:rV K r1 H1 src J)(q:Fin K m r H h' fl aj Q)(f1:Fm K r r1 H H1)(hW:FW K m (vE P w t tb) src r1 H1 (fl,aj) h' i k s3 H3) :
  (J.stop i H3/\Q.nx s3 H3)\/(J.go i H3/\∃N:L2.St->Hp->Prop,(∀σ' H',N σ' H'->∃m',m'<k/\FW K m (vE P w t tb) src r1 H1 (fl,aj) h' (i+1) m' σ' H')/\∀x H',J.GH i H3 x H'->gJ K m t x s3 H' λσ2 H2=>D5 K m P w tb { Q with nx:=N,ct:=N,bk:=Q.nx } σ2 H2):=by
 obtain⟨rfl,hle,r3,bI,h3,yu,jA,f3,e3⟩:=hW;rcases Nat.lt_or_ge i src.1.length with hlt|hge
 .rw[List.drop_eq_getElem_cons hlt,tT]at e3;split at e3
  .rename_i hst;obtain⟨g1,g2⟩:=(hJ i H3 r3 h3 jA f3 hst).1 src.1[i] (List.getElem?_eq_getElem hlt);obtain⟨⟨gP,gX⟩,h4,e4,e3⟩:=Ev.ah e3;unfold vE at e4;split at e4
   .rename_i nu e5;exact .inr ⟨g1,FN K m gP gX h4 r1 H1,λs5 H5 ⟨hfl,r5,BL,tU,f5⟩=>⟨_,Nat.sub_lt_sub_left hlt (Nat.lt_succ_self i),rfl,hlt,r5,gX,h4,BL,tU,f5,yt e3 hfl⟩,λx H4 y=>
     let ⟨r4,v4,Tf,f4⟩:=g2 x H4 y
     ⟨r4,bI,h3,_,nu,yu.mono f4,Tf,v4,e5,λs5 BL=>⟨r4,nu,h3,gP,gX,h4,BL,Tf,e4,vD e3 q f1 (f3.trans f4)⟩⟩⟩
   .cases e4
  .cases e3
 .have hi:i=src.1.length:=Nat.le_antisymm hle hge;subst hi;rw[List.drop_length]at e3;unfold Ev.forL at e3;split at e3
  .rename_i hst;cases e3;exact .inl ⟨(hJ _ H3 r3 _ jA f3 hst).2 (Nat.le_refl _),q s3 H3 r3 yu jA (f1.trans f3)⟩
  .cases e3
end
theorem BN(t:Fr->Hh->R Bool)(f:Fr->Hh->R (Fl×Fr))(n:Nat)(fr:Fr)(h:Hh):Ev.eL t f (n+1) fr h=(t fr h).bind λb h1=>if b then (f fr h1).bind λp h2=>zO (Ev.eL t f n p.2 h2) p h2 else .ok (.nx,fr) h1:=rfl
noncomputable def WW(K:PySem.W.Frag)(m:List Nat)(P:aO)(w:Nat)(a:E)(tb:Ss)(r:List Addr)(H:Hp)(o:Fl×Fr)(h':Hh)(k:Nat)(s1:L2.St)(H1:Hp):Prop:=
 ∃r1 af h1,SR K m H1 r1 af s1/\HR K H1 r1 h1/\Fm K r r1 H H1/\Ev.eL (λao h2=>Ev.aI P a ao h2) (λao h2=>Ev.exs P w tb ao h2) k af h1=.ok o h'
theorem MA{tb:Ss}{yb:List Stmt}(hc:JT G n sc N df m a xa)(h1:jU G n sc N df m tb yb):JS G n sc N df m (.ly a tb) (.While xa yb [] pos):=λX g=>PS.of (DE g.pass (hc X g) (h1 X g)) λQ s H q=>by
 obtain⟨r,fr,h,fl,aj,h',sr,hr,e,q⟩:=q;simp only[Ev.ex]at e;refine⟨WW X.K m (Ev.run G.F G.w n) G.w a tb r H (fl,aj) h',⟨_,r,fr,h,sr,hr,.refl,e⟩,λk s1 H1 hW=>?_⟩;obtain⟨r1,af,h1,BH,hr1,f1,e1⟩:=hW;cases k with
 |zero=>cases e1
 |succ k=>
  rw[BN]at e1;obtain⟨bb,h2,e2,e1⟩:=Ev.ah e1;refine⟨r1,af,h1,bb,h2,BH,hr1,e2,λH2 r2 hr2 f2=>?_⟩;cases bb with
  |false=>
   cases e1;exact q s1 H2 r2 (BH.mono f2) hr2 (f1.trans f2)
  |true=>
   rw[if_pos rfl]at e1;obtain⟨⟨gP,ao⟩,h3,e3,e1⟩:=Ev.ah e1;exact⟨FN X.K m gP ao h3 r H,λs3 H3 ⟨hfl,r3,yu,jA,f3⟩=>⟨k,Nat.lt_succ_self k,r3,ao,h3,yu,jA,f3,yt e1 hfl⟩,r2,af,h2,gP,ao,h3,BH.mono f2,hr2,e3,vD e1 q .refl (f1.trans f2)⟩
theorem MB{t:T}{it:Ev.It}{tb:Ss}{yb:List Stmt}(hi:JI G n sc N df m it tg xa)(hg:JG G n sc N df m t tg)(h1:jU G n sc N df m tb yb)(hs:∀(env:Env) x,foldedSetIterable xa env x=pure x:=by intro _ _;rfl) :
  JS G n sc N df m (.for t it tb) (.For tg xa yb [] pos):=λX g=>PS.of (Lr g.pass g.calm (hi X g) (hg X g) (h1 X g) (hs _)) λQ s H q=>by
 obtain⟨r,fr,h,fl,aj,h',sr,hr,e,q⟩:=q;rw[vF]at e;obtain⟨src,h2,e1,e⟩:=Ev.ah e;exact⟨r,fr,h,src,h2,sr,hr,e1,λJ H1 r1 hr1 f1 hJ=>⟨FW X.K m (vE (Ev.run G.F G.w n) G.w t tb) src r1 H1 (fl,aj) h',⟨src.1.length,rfl,Nat.zero_le _,r1,fr,h2,sr.mono f1,hr1,.refl,by rw[List.drop_zero];exact e⟩,λi k s3 H3 hW=>D7 hJ q f1 hW⟩⟩
end
theorem getElem?_range'{k j i:Nat}(h:(List.range k)[j]?=some i):i=j:=by
 obtain⟨h1,h2⟩:=List.getElem?_eq_some_iff.mp h;simpa using h2.symm
theorem D8{K:PySem.W.Frag}{H:Hp}{r:List Addr}{ds:List D}{vs:List V}{N:List Str}{fn:Ev.Fn}(v1:aG K H r ds vs)(hN:vs.length<=N.length):SR K (List.range N.length) H r (Ev.eT fn ds) (L2.start N vs):=by
 refine⟨by unfold L2.start;simp;omega,λj i d e1 e2=>?_⟩;have e3:=getElem?_range' e1;subst e3;unfold Ev.eT at e2;by_cases hj:i<ds.length
 .rw[List.getElem?_append_left (by simpa using hj),List.getElem?_map]at e2;cases e4:ds[i]? with
  |none=>rw[e4]at e2;cases e2
  |some d'=>
   rw[e4]at e2;cases e2;obtain⟨v,q1,q2⟩:=v1.get e4;refine⟨v,?_,q2⟩;unfold L2.start;rw[List.getElem?_append_left (by have:=v1.length;simpa using (by omega:i<vs.length)),List.getElem?_map,q1];rfl
 .rw[List.getElem?_append_right (by simpa using Nat.not_lt.mp hj),List.getElem?_replicate]at e2;split at e2<;>cases e2
section
variable{P:Program}{w:World}{K:PySem.W.Frag}{mg:Str->Option Value}{base:Heap}{G:Tb}
noncomputable def uH(P:Program)(w:World)(K:PySem.W.Frag)(mg:Str->Option Value)(base:Heap)(G:Tb)(n:Nat):Prop:=∀(f:Nat) i,G.fi[f]?=some i->iZ P w K mg base nG n i.addr i.fd i.ps (pJ K G.F G.w n f)
structure Top(P:Program)(w:World)(K:PySem.W.Frag)(mg:Str->Option Value)(G:Tb):Prop where
 fn:∀(f:Nat) i,G.fi[f]?=some i->mg i.name=some (.ref i.addr)/\PySem.W.keepIn K (.ref i.addr)=true/\Binds K i.fd i.ps []
 bl:∀x∈G.bl,mg x=none
 cs:∀x d,(x,d)∈G.cs->∃v u,mg x=some u/\RelV v u/\yr K d v
 dk:∀x kvs,(x,kvs)∈G.dk->∃a,mg x=some (.ref a)/\∀h:Heap,K.In h->StrTab P w h a (tabOf kvs)
theorem IZ{f:Addr}{fd:FuncData}{ps:List Str}{k:Nat}:iZ P w K mg base nG 0 f fd ps (pJ K G.F G.w 0 k):=by
 have no:∀vs H Q E,¬ pJ K G.F G.w 0 k vs H Q E:=λvs H Q E h=>by
  obtain⟨r,h,ds,d,h',_,_,e,_⟩:=h;cases e
 exact⟨λvs H Q E h=>absurd h (no vs H Q E),λA outer s H args us vs Q E _ _ _ _ h=>absurd h (no vs H Q E)⟩
theorem cS{x qual:Str}{st:Stmt}{i:FI}{N:List Str}{n f:Nat}{fn:Ev.Fn}(T:Top P w K mg G)(A0:uH P w K mg base G n)(F:tN K x qual st i.addr i.fd)(S:bH N i.ps (aP st))(hf:G.F[f]?=some fn)(hp:i.ps.length=fn.np)
  (hb:jU G n (aP st) N true (List.range N.length) fn.body (iy st)):iZ P w K mg base nG (n+1) i.addr i.fd i.ps (pJ K G.F G.w (n+1) f):=by
 have hlen:∀vs H Q E,pJ K G.F G.w (n+1) f vs H Q E->vs.length=i.ps.length:=λvs H Q E h=>by
  obtain⟨r,h,ds,d,h',v1,_,e,_⟩:=h;simp only[Ev.run,hf]at e;split at e
  .rename_i z;rw[v1.length,z,hp]
  .cases e
 refine F.ok S hlen λcdv A outer s H vs Q E hr kY=>?_;have hl:=hlen vs H Q E kY;have hN:vs.length<=N.length:=by
  have:=congrArg List.length S.pre;rw[List.length_take]at this;omega
 have g:Good G n (aP st) N true (pX nG P w K mg base N qual (aP st) i.addr cdv A outer s H E).tu:=
  ⟨rfl,rfl,rfl,λ_ _=>rfl,hr,rfl,λf i hi=>⟨(T.fn f i hi).1,(T.fn f i hi).2.1,(T.fn f i hi).2.2,A0 f i hi⟩,T.bl,T.cs,T.dk⟩
 refine⟨_,hb _ g,?_⟩;obtain⟨r,h,ds,d,h',v1,hr1,e,q⟩:=kY;simp only[Ev.run,hf]at e;split at e
 .unfold Ev.endOf at e;obtain⟨⟨fl,aj⟩,h2,e1,e⟩:=Ev.ah e;refine⟨r,Ev.eT fn ds,h,fl,aj,h2,D8 v1 hN,hr1,e1,?_⟩;cases fl with
  |nx=>
   cases e;exact λs' H' r' _ hr' f'=>q _ H' r' rfl hr' f'
  |ret d'=>
   cases e;exact q
  |bk=>cases e
  |ct=>cases e
 .cases e
end
end Sm
set_option maxRecDepth 100000
namespace Sm
open PySem PySem.Spec PyProof.Rows L2 PySem.SeqAt
open Ev (D O Hh Fr R aO E Es Eo T S Ss Fl Src bU bN TY BI ME)
theorem D9(kvs:List (Int×List Nat))(k:Int):((ee kvs).find? λkv=>decide (kv.1=(Sum.inl k:Key)))=(kvs.find? λp=>decide (p.1=k)).map λp=>(Sum.inl p.1,V.str (aW p.2)):=by
 induction kvs with
 |nil=>rfl
 |cons p kvs ih=>
  simp only[ee,List.map_cons,List.find?_cons]at ih ⊢;by_cases h:p.1=k
  .simp[h]
  .rw[decide_eq_false (by simpa using h),decide_eq_false h];exact ih
theorem yv(kvs:List (Int×List Nat))(k:Int):ja (ee kvs) (Sum.inl k:Key)=(Ev.cJ kvs k).map λs=>V.str (aW s):=by
 unfold ja Ev.cJ;rw[D9,Option.map_map,Option.map_map];rfl
theorem yw(kvs:List (Int×List Nat))(k:Int)(s:List Nat):putK (ee kvs) (Sum.inl k:Key) (V.str (aW s))=ee (Ev.di kvs k s):=by
 have ha:((ee kvs).any λkv=>decide (kv.1=(Sum.inl k:Key)))=(kvs.any λp=>decide (p.1=k)):=by
  unfold ee;rw[List.any_map];congr 1;funext p;simp
 unfold putK Ev.di;rw[ha];split
 .unfold ee;rw[List.map_map,List.map_map];refine List.map_congr_left λp _=>?_;by_cases h:p.1=k<;>simp[h]
 .unfold ee;rw[List.map_append];rfl
theorem yx{kvs:List (Int×List Nat)}{k:Int}{s:List Nat}(h:Ev.cJ kvs k=some s):∃p∈kvs,p.2=s:=by
 unfold Ev.cJ at h;obtain⟨p,e,rfl⟩:=Option.map_eq_some_iff.mp h;exact⟨p,List.mem_of_find?_eq_some e,rfl⟩
theorem yy{kvs:List (Int×List Nat)}{k:Int}{s:List Nat}{p:Int×List Nat}(h:p∈Ev.di kvs k s):p∈kvs\/p.2=s:=by
 unfold Ev.di at h;split at h
 .obtain⟨q,hq,rfl⟩:=List.mem_map.mp h;split
  .exact .inr rfl
  .exact .inl hq
 .rcases List.mem_append.mp h with h|h
  .exact .inl h
  .rw[List.mem_singleton]at h;subst h;exact .inr rfl
section
variable{K:PySem.W.Frag}{H:Hp}{r:List Addr}{h:Hh}
theorem HR.ig{p:Addr}(hr:HR K H r h)(hp:H p=none):HR K (upd H p (.dK [])) (r++[p]) (h++[.dct []]) where
 len:=by simp[hr.len]
 ob:=λn ob e=>by
  by_cases hn:n<h.length
  .rw[List.getElem?_append_left hn]at e;obtain⟨a,e1,z⟩:=hr.ob n ob e;exact⟨a,(Fm.laid (K:=K) (o:=.dK []) hp).pre n a e1,z.mono (Fm.laid hp) (λ_ vs _ z=>by rw[aV (bG z hp)];exact z) (λ_ _ z=>by rw[aV (bG z hp)];exact z) (λ_ _ _ z=>by rw[aV (bG z hp)];exact z)⟩
  .have e2:=(List.getElem?_eq_some_iff.mp e).1;simp only[List.length_append,List.length_singleton]at e2;have e3:n=h.length:=by omega
   subst e3;simp at e;subst e;exact⟨p,by rw[<-hr.len];simp,fQ,λq hq=>by cases hq⟩
 inj:=λn m a x y e1 e2 e3 e4=>by
  have out:∀(k:Nat) z,(h++[O.dct []])[k]?=some (.lst z)->(r++[p])[k]?=some a->r[k]?=some a/\h[k]?=some (.lst z):=λk z q1 q2=>by
   by_cases hk:k<h.length
   .rw[List.getElem?_append_left hk]at q1;rw[List.getElem?_append_left (by rw[hr.len];exact hk)]at q2;exact⟨q2,q1⟩
   .have e5:=(List.getElem?_eq_some_iff.mp q1).1;simp only[List.length_append,List.length_singleton]at e5;have e6:k=h.length:=by omega
    subst e6;simp at q1
  exact hr.inj n m a x y (out n x e3 e1).1 (out m y e4 e2).1 (out n x e3 e1).2 (out m y e4 e2).2
 ku:=λn m a x y e1 e2 e3 e4=>by
  have out:∀(k:Nat) z,(h++[O.dct []])[k]?=some (.dct z)->(r++[p])[k]?=some a->(r[k]?=some a/\h[k]?=some (.dct z)/\a≠p)\/(k=h.length/\a=p):=λk z q1 q2=>by
   by_cases hk:k<h.length
   .rw[List.getElem?_append_left hk]at q1;rw[List.getElem?_append_left (by rw[hr.len];exact hk)]at q2;obtain⟨b,e5,e6,_⟩:=hr.dct q1;rw[q2]at e5;cases e5;exact .inl ⟨q2,q1,bG e6 hp⟩
   .have e5:=(List.getElem?_eq_some_iff.mp q1).1;simp only[List.length_append,List.length_singleton]at e5;have e6:k=r.length:=by rw[hr.len];omega
    subst e6;simp at q2;exact .inr ⟨hr.len,q2.symm⟩
  rcases out n x e3 e1 with ⟨h2,h3,h4⟩|⟨h1,h2⟩
  .rcases out m y e4 e2 with ⟨k2,k3,k4⟩|⟨k1,k2⟩
   .exact hr.ku n m a x y h2 k2 h3 k3
   .exact absurd k2 h4
  .rcases out m y e4 e2 with ⟨k2,k3,k4⟩|⟨k1,k2⟩
   .exact absurd h2 k4
   .rw[h1,k1]
theorem Fm.dput{a:Addr}{vs ws:List (Key×V)}(ha:H a=some (.dK vs))(hm:a∈r):Fm K r r H (upd H a (.dK ws)) where
 pre:=λn b e=>e
 new:=λb e=>.inl e
 keep:=λb ob e n=>by rw[aV (λz=>n (by rw[z];exact hm))];exact e
 tups:=λb us e=>by
  rcases e with (e|⟨ob,e⟩)|e
  .exact .inl (.inl (by rw[aV (iH e ha (by intro z;cases z))];exact e))
  .exact .inl (.inr ⟨ob,by rw[aV (iH e ha (by intro z;cases z))];exact e⟩)
  .exact .inr e
theorem HR.dput{n:Nat}{a:Addr}{ds es:List (Int×List Nat)}(hr:HR K H r h)(hn:h[n]?=some (.dct ds))(vz:r[n]?=some a)(ha:H a=some (.dK (ee ds)))(q:∀p∈es,p.2.length<=sizeLine) :
  HR K (upd H a (.dK (ee es))) r (h.set n (.dct es)) where
 len:=by simp[hr.len]
 ob:=λm ob e=>by
  have f:=Fm.dput (K:=K) (ws:=ee es) ha (List.mem_of_getElem? vz);by_cases hm:m=n
  .subst hm;rw[List.getElem?_set_self (List.getElem?_eq_some_iff.mp hn).1]at e;cases e;exact⟨a,vz,fQ,q⟩
  .rw[List.getElem?_set_ne (λz=>hm z.symm)]at e;obtain⟨b,e1,z⟩:=hr.ob m ob e;refine⟨b,e1,z.mono f (λ_ us _ z2=>by rw[aV (iH z2 ha (by intro z;cases z))];exact z2) (λXu us z2=>by rw[aV (iH z2 ha (by intro z;cases z))];exact z2) (λkvs us z3 z2=>?_)⟩;by_cases hb:b=a
   .subst hb;subst z3;exact absurd (hr.ku m n b kvs ds e1 vz e hn) hm
   .rw[aV hb];exact z2
 inj:=λk m b x y e1 e2 e3 e4=>by
  have back:∀(j:Nat) z,(h.set n (O.dct es))[j]?=some (.lst z)->h[j]?=some (.lst z):=λj z w=>by
   by_cases hj:j=n
   .subst hj;rw[List.getElem?_set_self (List.getElem?_eq_some_iff.mp hn).1]at w;cases w
   .rw[List.getElem?_set_ne (λz=>hj z.symm)]at w;exact w
  exact hr.inj k m b x y e1 e2 (back k x e3) (back m y e4)
 ku:=λk m b x y e1 e2 e3 e4=>by
  have back:∀(j:Nat) z,(h.set n (O.dct es))[j]?=some (.dct z)->∃z',h[j]?=some (.dct z'):=λj z w=>by
   by_cases hj:j=n
   .subst hj;exact⟨ds,hn⟩
   .rw[List.getElem?_set_ne (λz=>hj z.symm)]at w;exact⟨z,w⟩
  obtain⟨x',e5⟩:=back k x e3;obtain⟨y',e6⟩:=back m y e4;exact hr.ku k m b x' y' e1 e2 e5 e6
end
theorem mD{h:Hh}{x:D}{kvs:List (Int×List Nat)}(e:Ev.eZ h x=some kvs):∃n,x=.ref n/\h[n]?=some (.dct kvs):=by
 cases x with
 |ref n=>
  simp only[Ev.eZ]at e;split at e
  .rename_i k z;cases e;exact⟨n,rfl,z⟩
  .cases e
 |_=>cases e
theorem I0{h:Hh}{x y d:D}(e:Ev.vq x y h=some d):∃n kvs k s,x=.ref n/\h[n]?=some (.dct kvs)/\y=.int k/\Ev.cJ kvs k=some s/\d=.str s:=by
 unfold Ev.vq at e;cases hx:Ev.eZ h x with
 |none=>rw[hx]at e;cases e
 |some kvs=>
  rw[hx]at e;obtain⟨n,rfl,z⟩:=mD hx;cases y with
  |int k=>
   obtain⟨w,ew,rfl⟩:=Option.map_eq_some_iff.mp e;exact⟨n,kvs,k,w,rfl,z,rfl,ew,rfl⟩
  |_=>cases e
theorem Ja{h h0:Hh}{x y z d:D}(e:Ev.vt x y z h h0=some d):∃n GP kvs k,x=.ref n/\h0[n]?=some (.dct GP)/\h[n]?=some (.dct kvs)/\y=.int k/\d=(match Ev.cJ kvs k with|some s=>.str s|none=>z):=by
 unfold Ev.vt at e;cases hx:Ev.eZ h0 x with
 |none=>rw[hx]at e;cases e
 |some GP=>
  rw[hx]at e;obtain⟨n,rfl,w⟩:=mD hx;cases hy:Ev.eZ h (.ref n)with
  |none=>rw[hy]at e;cases e
  |some kvs=>
   rw[hy]at e;obtain⟨n',en,w'⟩:=mD hy;cases en;cases y with
   |int k=>cases e;exact⟨n,GP,kvs,k,rfl,w,w',rfl,rfl⟩
   |_=>cases e
theorem Ea{h h':Hh}{x y z:D}(e:Ev.uF x y z h=some h'):∃n kvs k s,x=.ref n/\y=.int k/\z=.str s/\h[n]?=some (.dct kvs)/\kvs.length<Ev.big/\h'=h.set n (.dct (Ev.di kvs k s)):=by
 unfold Ev.uF at e;cases x with
 |ref n=>
  cases y with
  |int k=>
   cases z with
   |str s=>
    simp only at e;cases hn:h[n]? with
    |none=>rw[hn]at e;cases e
    |some o=>
     rw[hn]at e;cases o with
     |dct kvs=>
      simp only at e;by_cases hl:kvs.length<Ev.big
      .rw[if_pos hl]at e;cases e;exact⟨n,kvs,k,s,rfl,rfl,rfl,hn,hl,rfl⟩
      .rw[if_neg hl]at e;cases e
     |_=>cases e
   |_=>cases e
  |_=>cases e
 |_=>cases e
section
variable{G:Tb}{n:Nat}{sc:Scope}{N:List Str}{df:Bool}{m:List Nat}{a b c:E}{xa xb xc:Expr}{pos:Pos}
theorem Jb:JE G n sc N df m .ig (.Dict [] [] pos):=λX g=>PE.of DV λs H Q q=>by
 obtain⟨r,fr,h,d,h',sr,hr,e,q⟩:=q;simp only[Ev.ev]at e;cases e;intro p hp;exact q _ _ (r++[p]) ⟨p,rfl,by rw[<-hr.len];simp⟩ (hr.ig hp) (Fm.laid hp)
theorem MC(ha:JE G n sc N df m a xa)(hb:JE G n sc N df m b xb)(hs:DT xb:=by intro _ _;rfl):JE G n sc N df m (.kq a b) (.Subscript xa xb pos):=λX g=>PE.of (IL (zG g.room) (ha X g) (hb X g) hs) λs H Q q=>by
 obtain⟨r,fr,h,d,h',sr,hr,e,q⟩:=q;simp only[Ev.ev]at e;obtain⟨x,h1,e1,e⟩:=Ev.ah e;obtain⟨y,h2,e2,e⟩:=Ev.ah e;obtain⟨e,rfl⟩:=Ev.aH e;refine⟨r,fr,h,x,h1,sr,hr,e1,λv H1 r1 v1 hr1 f1=>?_⟩;refine⟨r1,fr,h1,y,_,sr.mono f1,hr1,e2,λu H2 r2 v2 hr2 f2=>?_⟩;obtain⟨i,kvs,k,w,rfl,z,rfl,ew,rfl⟩:=I0 e;obtain⟨p,z1,z2,z3⟩:=hr2.dct z;obtain⟨p',rfl,z4⟩:=v1.mono f2;rw[z1]at z4;cases z4;cases v2;obtain⟨q0,BO,rfl⟩:=yx ew;refine⟨p,.str (aW q0.2),rfl,?_,q _ H2 r2 ⟨rfl,z3 q0 BO⟩ hr2 (f1.trans f2)⟩;have:=mC.k (k:=Sum.inl k) z2;rw[yv,ew]at this;exact this
theorem MD {apos:Pos}(ha:JE G n sc N df m a xa) (hb:JE G n sc N df m b xb) (hc:JE G n sc N df m c xc) (hM:∀X:Cx,M2 X xa "get" apos xb xc pos:=by intro X;exact⟨rfl,rfl,rfl,rfl⟩):JE G n sc N df m (.kr a b c) (.Call (.Attribute xa "get" apos) [xb,xc] [] pos):=λX g=>PE.of (DX (zG g.room) (ha X g) (hb X g) (hc X g) (hM X)) λs H Q q=>by
 obtain⟨r,fr,h,d,h',sr,hr,e,q⟩:=q;simp only[Ev.ev]at e;obtain⟨x,h1,e1,e⟩:=Ev.ah e;obtain⟨y,h2,e2,e⟩:=Ev.ah e;obtain⟨z,h3,e3,e⟩:=Ev.ah e;obtain⟨e,rfl⟩:=Ev.aH e;obtain⟨i,GP,kvs,k,rfl,y0,y1,rfl,rfl⟩:=Ja e;refine⟨r,fr,h,.ref i,h1,sr,hr,e1,λv H1 r1 v1 hr1 f1=>?_⟩;obtain⟨p0,w1,w2,w3⟩:=hr1.dct y0;obtain⟨p,rfl,z4⟩:=id v1;rw[w1]at z4;cases z4;refine⟨p0,rfl,.inl ⟨_,.inl w2⟩,r1,fr,h1,.int k,h2,sr.mono f1,hr1,e2,λu H2 r2 v2 hr2 f2=>?_⟩;refine⟨r2,fr,h2,z,_,(sr.mono f1).mono f2,hr2,e3,λt H3 r3 v3 jA f3=>?_⟩;obtain⟨p1,x1,x2,x3⟩:=jA.dct y1;have x4:=f3.pre _ _ (f2.pre _ _ w1);rw[x1]at x4;cases x4;cases v2;have g:=mC.k (k:=Sum.inl k) x2;rw[yv]at g;refine⟨_,g,?_⟩;cases ev:Ev.cJ kvs k with
 |none=>rw[ev]at q;exact q _ H3 r3 v3 jA ((f1.trans f2).trans f3)
 |some s2=>
  rw[ev]at q;obtain⟨q0,BO,rfl⟩:=yx ev;exact q _ H3 r3 ⟨rfl,x3 q0 BO⟩ jA ((f1.trans f2).trans f3)
theorem Jc{tp:Pos}(ho:JE G n sc N df m a xa)(hi:JE G n sc N df m b xb)(hv:JE G n sc N df m c xc)
  (hs:∀env:Env,swapsWith xc (some (.Subscript xa xb tp)) pos.line env=pure false:=by intro _;rfl):JS G n sc N df m (.dput a b c) (.Assign [.Subscript xa xb tp] xc pos):=λX g=>PS.of (IM (zG g.room) (ho X g) (hi X g) (hv X g) (hs _)) λQ s H q=>by
 obtain⟨r,fr,h,fl,aj,h',sr,hr,e,q⟩:=q;simp only[Ev.ex]at e;obtain⟨x,h2,e1,e⟩:=Ev.ah e;obtain⟨y,h3,e2,e⟩:=Ev.ah e;obtain⟨z,h4,e3,e⟩:=Ev.ah e;refine⟨r,fr,h,x,h2,sr,hr,e1,λv H1 r1 v1 hr1 f1=>?_⟩;refine⟨r1,fr,h2,y,h3,sr.mono f1,hr1,e2,λu H2 r2 v2 hr2 f2=>?_⟩;refine⟨r2,fr,h3,z,h4,(sr.mono f1).mono f2,hr2,e3,λt H3 r3 v3 jA f3=>?_⟩;split at e
 .rename_i h5 e5;cases e;obtain⟨i,kvs,k,w,rfl,rfl,rfl,z5,hl,rfl⟩:=Ea e5;obtain⟨p1,x1,x2,x3⟩:=jA.dct z5;obtain⟨p,rfl,x4⟩:=v2.mono f3;rw[x1]at x4;cases x4;cases v3;obtain⟨rfl,lw⟩:=(v1.mono f2).mono f3;have lk:(ee kvs).length<sizeLine:=by unfold ee;rw[List.length_map];exact hl
  have g:=vn.k (k:=Sum.inl k) (v:=V.str (aW w)) x2 lk;rw[yw]at g;refine⟨p1,_,rfl,g,?_⟩;have fp:=Fm.dput (K:=X.K) (ws:=ee (Ev.di kvs k w)) x2 (List.mem_of_getElem? x1);exact q _ _ r3 ((((sr.mono f1).mono f2).mono f3).mono fp) (jA.dput z5 x1 x2 λp hp=>(yy hp).elim (x3 p) λz=>by rw[z];exact lw) (((f1.trans f2).trans f3).trans fp)
 .cases e
end
end Sm
set_option maxRecDepth 100000
namespace L2
open PySem PySem.Spec PyProof.Rows
theorem QN{X:Cx}{pins:List (Addr×Obj)}{σ:St}{H:Hp}{s:Shared}{A:Around}{E:Value->Shared->Prop}{a b:Addr}{kvs more:List (Key×V)}{Q:Value->Shared->Prop}(I:Inv X pins σ H s)(ea:H a=some (.dK kvs))(eb:H b=some (.dK more))(ne:a≠b)(hz:kvs.length+more.length<=sizeLine)
  (h:∀s',Inv X pins σ (upd H a (.dK (jS kvs more))) s'->Q .none s'):wpAny (model X.prog X.w) A (call (.builtin "dict.update") [.ref a,.ref b]) Q E s:=by
 obtain⟨z,hd,vs,rel,dd⟩:=uE I.hok ea;obtain⟨z2,hd2,yz,MF,dd2⟩:=uE I.hok eb;refine call_meetsIn PySem.F.slot_dict_update dd.typeIs PySem.F.entry_dict_update (PySem.F.args_dict_update_2 _ _) (meets_dict_update (cG X.prog X.w) a b ne hd2) ⟨vs,yz,dd,dd2,by rw[<-rel.length,<-MF.length];exact hz,λh' vp _ hs=>h _ ?_⟩;have he:∃q,h'.get? a=some q:=let ⟨q,_,_,hq,_⟩:=vp;⟨q,hq⟩;exact rR (t':=s.toks) I (by rw[ea];exact True.intro) hs he (BA (Nat.le_trans (m8 _ _) hz) hd (MF.merge rel) vp)
noncomputable def QO(td ty:TE):TE:=λσ H Q=>td σ H λx H1=>∃a,x=.ref a/\LX H1 a/\ty σ H1 λy H2=>∃b kvs more,y=.ref b/\a≠b/\H2 a=some (.dK kvs)/\H2 b=some (.dK more)/\kvs.length+more.length<=sizeLine/\Q .aS (upd H2 a (.dK (jS kvs more)))
theorem Jd {X:Cx}{o e:Expr}{apos cpos:Pos}{td ty:TE}(ho:PE X o td) (he:PE X e ty) (m:M1 X o "update" apos e cpos):PE X (.Call (.Attribute o "update" apos) [e] [] cpos) (QO td ty):=by
 intro pins s σ H Q I h;refine wpAny_Call_method m.base m.few m.line PySem.F.plainAttrs_dict PySem.F.slot_dict_update PySem.F.type_dict_update (bF (ho pins s σ H _ I h) λu s1 ⟨x,H1,I1,rx,a,ex,d,q1⟩=>?_);subst ex;obtain rfl:u=Value.ref a:=rx;obtain⟨t1,t2,_⟩:=BC I1 d;refine⟨t1,t2,?_⟩;rw[m.trees];refine Calls.callWith_builtin rfl (Calls.evalArgs_plain (Calls.spliced_cons (bF (he pins s1 σ H1 _ I1 q1) λiv s2 ⟨y,H2,I2,ry,b,kvs,more,ey,ne,ea,eb,hz,q2⟩=>Calls.spliced_nil ?_)));subst ey;obtain rfl:iv=Value.ref b:=ry;exact QN I2 ea eb ne hz λs3 I3=>⟨.aS,_,I3,rfl,q2⟩
end L2
namespace Sm
open PySem PySem.Spec PyProof.Rows L2 PySem.SeqAt
open Ev (D O Hh Fr R aO E Es Eo T S Ss Fl Src bU bN TY BI ME)
theorem tV:∀(m k:List (Int×List Nat)),jS (ee k) (ee m)=ee (Ev.dj k m)
 |[],k=>rfl
 |p :: m,k=>by
  show jS (putK (ee k) (Sum.inl p.1) (V.str (aW p.2))) (ee m)=_;rw[yw];exact tV m _
theorem tW:∀{m k:List (Int×List Nat)}{p:Int×List Nat},p∈Ev.dj k m->p∈k\/∃q∈m,q.2=p.2
 |[],k,p,h=>.inl h
 |q :: m,k,p,h=>by
  have h:p∈Ev.dj (Ev.di k q.1 q.2) m:=h;rcases tW h with h|⟨q',h1,h2⟩
  .rcases yy h with h|h
   .exact .inl h
   .exact .inr ⟨q,.head _,h.symm⟩
  .exact .inr ⟨q',.tail _ h1,h2⟩
theorem Eb{h h' h0:Hh}{x y:D}(e:Ev.uG x y h h0=some h'):∃n m k0 k j,x=.ref n/\y=.ref m/\h0[n]?=some (.dct k0)/\h[n]?=some (.dct k)/\h[m]?=some (.dct j)/\n≠m/\k.length+j.length<=Ev.big/\h'=h.set n (.dct (Ev.dj k j)):=by
 unfold Ev.uG at e;split at e
 .rename_i n m;split at e
  .rename_i k0 k j e0 e1 e2;split at e
   .rename_i hc;cases e;refine⟨n,m,k0,k,j,rfl,rfl,?_,e1,e2,hc.1,hc.2,rfl⟩;simp only[Ev.eZ]at e0;split at e0
    .rename_i z;cases e0;exact z
    .cases e0
   .cases e
  .cases e
 .cases e
section
variable{G:Tb}{n:Nat}{sc:Scope}{N:List Str}{df:Bool}{m:List Nat}{a b c:E}{xa xb xc:Expr}{pos:Pos}
theorem Je {apos p2:Pos}(ha:JE G n sc N df m a xa) (hb:JE G n sc N df m b xb) (hM:∀X:Cx,M1 X xa "update" apos xb p2:=by intro X;exact⟨rfl,rfl,rfl,rfl⟩)
  (hs:∀env:Env,swapsWith (.Call (.Attribute xa "update" apos) [xb] [] p2) none pos.line env=pure false:=by intro _;rfl):JS G n sc N df m (.qb a b) (.Expr (.Call (.Attribute xa "update" apos) [xb] [] p2) pos):=λX g=>PS.of (yf (Jd (ha X g) (hb X g) (hM X)) (hs _)) λQ s H q=>by
 obtain⟨r,fr,h,fl,aj,h',sr,hr,e,q⟩:=q;simp only[Ev.ex,Ev.vv]at e;obtain⟨x,h1,e1,e⟩:=Ev.ah e;obtain⟨y,h2,e2,e⟩:=Ev.ah e;split at e
 .rename_i h3 e3;cases e;obtain⟨i,j,k0,k,l,rfl,rfl,y0,y1,y2,ne,hl,rfl⟩:=Eb e3;refine⟨r,fr,h,.ref i,h1,sr,hr,e1,λv H1 r1 v1 hr1 f1=>?_⟩;obtain⟨p0,w1,w2,w3⟩:=hr1.dct y0;obtain⟨p,rfl,z4⟩:=id v1;rw[w1]at z4;cases z4;refine⟨p0,rfl,.inl ⟨_,.inl w2⟩,r1,fr,h1,.ref j,h2,sr.mono f1,hr1,e2,λu H2 r2 v2 hr2 f2=>?_⟩;obtain⟨p1,x1,x2,x3⟩:=hr2.dct y1;have x4:=f2.pre _ _ w1;rw[x1]at x4;cases x4;obtain⟨p3,x5,x6,x7⟩:=hr2.dct y2;obtain⟨p4,rfl,z5⟩:=id v2;rw[x5]at z5;cases z5;have Xw:p0≠p3:=λz=>ne (by subst z;exact hr2.ku i j p0 k l x1 x5 y1 y2);refine⟨p3,_,_,rfl,Xw,x2,x6,?_,?_⟩
  .unfold ee;rw[List.length_map,List.length_map,<-gU];exact hl
  rw[tV];have fp:=Fm.dput (K:=X.K) (ws:=ee (Ev.dj k l)) x2 (List.mem_of_getElem? x1);exact q _ _ r2 (((sr.mono f1).mono f2).mono fp) (hr2.dput y1 x1 x2 λp hp=>(tW hp).elim (x3 p) λ⟨q,hq,z⟩=>by rw[<-z];exact x7 q hq) ((f1.trans f2).trans fp)
 .cases e
theorem Ec{P:aO}{w i x y f:Nat}{ss:Ss}{fr:Fr}{h:Hh}:Ev.exs P w (.cons (.jw i x y f) ss) fr h=Ev.exs P w (.cons (.set i .ig) (.cons (.for (.one x) (.seq (.v y)) (.cons (.qb (.v i) (.cl f (.cons (.v x) .nil))) .nil)) ss)) fr h:=by
 conv=>lhs;rw[Ev.exs,Ev.ex]
 conv=>rhs;rw[Ev.exs,Ev.ex,Ev.ev]
 simp only[Ev.ak];rw[Ev.exs,Ev.ex]
 congr 2
 funext s h1
 congr 1
 funext d ao h2
 cases Ev.bC (.one x) d ao with
 |none=>rfl
 |some bI=>
  simp only[Ev.exs,Ev.ex];cases Ev.vv P (.v i) (.cl f (.cons (.v x) .nil)) bI h2 with
  |bad=>rfl
  |ok p h3=>
   obtain⟨g,q⟩:=p;cases g<;>rfl
theorem Ed{i x y f:Nat}{ss:Ss}{s1 s2:Stmt}{xs:List Stmt}(h:jU G n sc N df m (.cons (.set i .ig) (.cons (.for (.one x) (.seq (.v y)) (.cons (.qb (.v i) (.cl f (.cons (.v x) .nil))) .nil)) ss)) (s1 :: s2 :: xs)):jU G n sc N df m (.cons (.jw i x y f) ss) (s1 :: s2 :: xs):=λX g=>iI.of (h X g) λQ s H q=>by
 obtain⟨r,fr,h,fl,aj,h',sr,hr,e,q⟩:=q;rw[Ec]at e;exact⟨r,fr,h,fl,aj,h',sr,hr,e,q⟩
end
end Sm
set_option maxRecDepth 100000
namespace Sm
open PySem PySem.Spec PyProof.Rows L2
open Ev (D O Hh Fr R aO E Es Eo T S Ss Fl Src bU bN TY BI ME)
theorem rY(env:Env):∀(names:List (Str×NameKind)) (acc:List (Str×Addr)),(∀x,(x,NameKind.free)∈names->∃c,env.cells.lookup x=some c)->(∀x c,acc.lookup x=some c->env.cells.lookup x=some c)->
  ∃cl,(forIn names acc (λ(x:Str×NameKind) cs=>if (x.2==NameKind.free)=true then (do let c <-cellOf env x.1;pure (ForInStep.yield ((x.1,c) :: cs)))else pure (ForInStep.yield cs)):Sem (List (Str×Addr)))=pure cl/\
   (∀x c,cl.lookup x=some c->env.cells.lookup x=some c)/\(∀x,(x,NameKind.free)∈names->(cl.lookup x).isSome=true)/\(∀x,(acc.lookup x).isSome=true->(cl.lookup x).isSome=true)
 |[],acc,_,h2=>⟨acc,rfl,h2,(λx h=>by simp at h),λ_ h=>h⟩
 | (y,k) :: r,acc,h1,h2=>by
  by_cases hk:k=.free
  .subst hk;obtain⟨c,hc⟩:=h1 y (List.mem_cons_self ..);have h2':∀x c',((y,c) :: acc).lookup x=some c'->env.cells.lookup x=some c':=λx c' e=>by
    rw[List.lookup_cons]at e;split at e
    .rename_i hx;have hx':x=y:=by simpa using hx
     cases e;rw[hx'];exact hc
    .exact h2 x c' e
   obtain⟨cl,e1,e2,e3,e4⟩:=rY env r ((y,c) :: acc) (λx hx=>h1 x (List.mem_cons_of_mem _ hx)) h2';refine⟨cl,?_,e2,λx hx=>?_,λx hx=>e4 x ?_⟩
   .rw[List.forIn_cons];simp only[beq_self_eq_true,if_true];unfold cellOf;rw[hc];exact e1
   .rcases List.mem_cons.mp hx with z|z
    .cases z;exact e4 y (by simp[List.lookup_cons])
    .exact e3 x z
   .rw[List.lookup_cons];split
    .rfl
    .exact hx
  .have hk':(k==NameKind.free)=false:=by simpa using hk
   obtain⟨cl,e1,e2,e3,e4⟩:=rY env r acc (λx hx=>h1 x (List.mem_cons_of_mem _ hx)) h2;refine⟨cl,?_,e2,λx hx=>?_,e4⟩
   .rw[List.forIn_cons];simp only[hk',Bool.false_eq_true,if_false];exact e1
   .rcases List.mem_cons.mp hx with z|z
    .cases z;exact absurd rfl hk
    .exact e3 x z
theorem Jf{scope:Scope}{env:Env}(h:∀x,(x,NameKind.free)∈scope.names->∃c,env.cells.lookup x=some c) :
  ∃cl,closureFor scope env=pure cl/\(∀x c,cl.lookup x=some c->env.cells.lookup x=some c)/\∀x,(x,NameKind.free)∈scope.names->∃c,cl.lookup x=some c:=by
 obtain⟨cl,e1,e2,e3,_⟩:=rY env scope.names [] h (λx c e=>by simp at e);refine⟨cl,?_,e2,λx hx=>Option.isSome_iff_exists.mp (e3 x hx)⟩;unfold closureFor;show(forIn scope.names [] _ >>= λcs=>pure cs:Sem (List (Str×Addr)))=pure cl;have e:(forIn scope.names [] (λ(x:Str×NameKind) cs=>if (x.2==NameKind.free)=true then (do let c <-cellOf env x.1;pure (ForInStep.yield ((x.1,c) :: cs)))else pure (ForInStep.yield cs)):Sem (List (Str×Addr)))=pure cl:=e1;exact congrArg (λt:Sem (List (Str×Addr))=>t >>= λcs=>pure cs) e
noncomputable def fG(sc scope:Scope):Scope:={ scope with names:=scope.names.map λ(n,k)=>if (k==.free&&sc.kind==.function&&sc.names.lookup n==some .cell)then (n,.cell)else (n,k)}
theorem rZ{env:Env}{sc scope:Scope}(h:env.scope=sc):relabel scope env=fG sc scope:=by
 subst h;rfl
theorem tX{sc:Scope}:∀{names:List (Str×NameKind)}{x:Str},(∀y∈names,y.2≠.cell)->
  ((names.map λ(n,k)=>if (k==NameKind.free&&sc.kind==.function&&sc.names.lookup n==some .cell)then (n,NameKind.cell)else (n,k)).lookup x=some .cell\/
   (names.map λ(n,k)=>if (k==NameKind.free&&sc.kind==.function&&sc.names.lookup n==some .cell)then (n,NameKind.cell)else (n,k)).lookup x=some .free)->(x,NameKind.free)∈names
 |[],_,_,h=>by rcases h with h|h<;>simp at h
 | (n,k) :: r,x,hc,h=>by
  have ih:=@tX sc r x λy hy=>hc y (List.mem_cons_of_mem _ hy);simp only[List.map_cons]at h;have nk:∀(k':NameKind),(if (k==NameKind.free&&sc.kind==.function&&sc.names.lookup n==some .cell)then (n,NameKind.cell)else (n,k))=(n,k')->k'=.cell\/k'=.free->k=.free:=λk' e hk'=>by
   split at e
   .rename_i z;simp only[Bool.and_eq_true,beq_iff_eq]at z;exact z.1.1
   .cases e;rcases hk' with z|z
    .exact absurd z (hc (n,_) (List.mem_cons_self ..))
    .exact z
  generalize hg:(if (k==NameKind.free&&sc.kind==.function&&sc.names.lookup n==some .cell)then (n,NameKind.cell)else (n,k))=p at h nk
  have hp:p.1=n:=by rw[<-hg];split<;>rfl
  obtain⟨p1,p2⟩:=p;simp only at hp;subst hp;simp only[List.lookup_cons]at h;cases hx:(x==p1)with
  |true=>
   have hx':x=p1:=by simpa using hx
   rw[hx]at h;have:=nk p2 rfl (by rcases h with h|h<;>simp at h<;>simp[h]);subst this;rw[hx'];exact List.mem_cons_self ..
  |false=>
   rw[hx]at h;exact List.mem_cons_of_mem _ (ih h)
section
variable{prog:Program}{w:World}{A:Around}{R':Result->Shared->Prop}{s:Shared}
abbrev eY:Value->Shared->Prop:=λ_ _=>False
noncomputable def yC(ifs:List Expr)(env:Env):Sem Bool:=forIn ifs true λc r=>if r=true then do let ok <-isTrue c env (eval c env);pure (ForInStep.yield ok)else pure (ForInStep.yield r)
theorem vG{elt target iter:Expr}{ifs:List Expr}{scope:Scope}{pos:Pos}{it acc:Value}{env:Env}(I:Nat->Shared->Prop)
  (turn:∀n s,I n s->wpAny (model prog w) A (pyNext it) (λr s₁=>match r with
   |none=>R' (.ok .next) s₁
   |some v=>wpAny (model prog w) A (letOwnedTupleGo target it v) (λ_ s₂=>wpAny (model prog w) A (assign target env v) (λ_ s₃=>
     wpAny (model prog w) A (yC ifs env) (λok s₄=>
      if ok=true then wpAny (model prog w) A (eval elt env) (λx s₅=>
       wpAny (model prog w) A (call (.builtin "list.append") [acc,x]) (λ_ s₆=>∃m,m<n/\I m s₆) eY s₅) eY s₄
      else ∃m,m<n/\I m s₄) eY s₃) eY s₂) eY s₁) eY s)
  (n:Nat) (h:I n s):codeAny (model prog w) A (.compLoop (.ListComp elt [⟨target,iter,ifs,0⟩] scope pos) 0 it acc env) R' s:=by
 refine codeAny_loop rfl I (λn s hI=>?_) n h;show wpAny _ A ((compTurn (.ListComp elt [⟨target,iter,ifs,0⟩] scope pos) 0 it acc env).onRaise (λx=>do noteFrame x env;theTreesLotGoes x)) _ _ s;refine wpAny_noted ?_;rw[compTurn_list];refine wpAny_bind (wpAny_standAt (wpAny_bind (wpAny_mono (turn n s hI) (λr s₁ h₁=>?_) λ_ _ h'=>h'.elim)));cases r with
 |none=>exact wpAny_pure h₁
 |some v=>
  refine wpAny_bind (wpAny_mono h₁ (λ_ s₂ h₂=>?_) λ_ _ h'=>h'.elim);refine wpAny_bind (wpAny_mono h₂ (λ_ s₃ h₃=>wpAny_bind (wpAny_mono h₃ (λok s₄ h₄=>?_) λ_ _ h'=>h'.elim)) λ_ _ h'=>h'.elim);cases ok with
  |false=>exact wpAny_pure ⟨rfl,h₄⟩
  |true=>
   exact wpAny_bind (wpAny_bind (wpAny_mono h₄ (λx s₅ h₅=>wpAny_bind (wpAny_mono h₅ (λ_ s₆ h₆=>wpAny_pure (wpAny_pure ⟨rfl,h₆⟩)) λ_ _ h'=>h'.elim)) λ_ _ h'=>h'.elim))
end
inductive Tg(K:PySem.W.Frag)(m:List Nat)(P:aO)(e:Eo)(s:L2.St)(H:Hp)(Q:Bool->Hp->Prop):Prop
 |mk (r:List Addr) (fr:Fr) (h:Hh) (k:Bool) (h':Hh) (c0:SR K m H r fr s) (c1:HR K H r h) (c2:Ev.iM P e fr h=.ok k h') (c3:∀H' r',HR K H' r' h'->Fm K r r' H H'->Q k H'):Tg K m P e s H Q
noncomputable def JC(G:Tb)(n:Nat)(sc:Scope)(N:List Str)(df:Bool)(m:List Nat)(e:Eo)(ifs:List Expr):Prop:=∀X,Good G n sc N df X->∀(pins:List (Addr×Obj)) (s:Shared) (σ:L2.St) (H:Hp) (Q:Bool->Hp->Prop),Inv X pins σ H s->
 Tg X.K m (Ev.run G.F G.w n) e σ H Q->wpAny (model X.prog X.w) X.A (yC ifs X.env) (TP X pins σ Q) X.xe s
section
variable{G:Tb}{n:Nat}{sc:Scope}{N:List Str}{df:Bool}{m:List Nat}{a b c:E}{xa xb xc tg:Expr}{pos:Pos}
theorem QS:JC G n sc N df m .no []:=λX g pins s σ H Q I q=>by
 obtain⟨r,fr,h,k,h',sr,hr,e,q⟩:=q;simp only[Ev.iM]at e;cases e;exact wpAny_pure ⟨H,I,q H r hr .refl⟩
theorem MG(hc:JT G n sc N df m a xa):JC G n sc N df m (.yes a) [xa]:=λX g pins s σ H Q I q=>by
 obtain⟨r,fr,h,k,h',sr,hr,e,q⟩:=q;simp only[Ev.iM]at e;exact wpAny_tests_one (hc X g pins s σ H Q I ⟨r,fr,h,k,h',sr,hr,e,q⟩)
end
noncomputable def qB(X:Cx)(N':List Str)(scope:Scope)(cl:List (Str×Addr))(C:Addr)(s3:Shared)(H3:Hp)(fp:List Addr):Cx:=
 { X with N:=N',s₀:=s3,H₀:=H3,env:=compEnvC scope cl C X.env,outer:=X.stack,stack:=X.stack,ex:=fp,fn:=λ_=>false,pn:=[],xe:=λ_ _=>False }
noncomputable def namesOk(sc:Scope)(N:List Str)(m:List Nat)(scope:Scope)(t:T)(N':List Str)(m':List Nat):Prop:=m'.length=N'.length/\
 ∀(j:Nat) x i,N'[j]?=some x->m'[j]?=some i->i∈Ev.slots t\/((x,NameKind.free)∈scope.names/\∃jo:Nat,N[jo]?=some x/\m[jo]?=some i)
noncomputable def qC(sc:Scope)(N:List Str)(m:List Nat)(scope:Scope)(t:T)(N':List Str)(m':List Nat):Bool:=m'.length==N'.length&&
 (List.range N'.length).all λj=>match N'[j]?,m'[j]? with
  |some x,some i=>(Ev.slots t).contains i || (scope.names.contains (x,NameKind.free)&&(List.range N.length).any λjo=>N[jo]?==some x&&m[jo]?==some i)
  |_,_=>true
theorem namesOk.of{sc:Scope}{N:List Str}{m:List Nat}{scope:Scope}{t:T}{N':List Str}{m':List Nat}(h:qC sc N m scope t N' m'=true):namesOk sc N m scope t N' m':=by
 unfold qC at h;rw[Bool.and_eq_true]at h;refine⟨by simpa using h.1,λj x i e1 e2=>?_⟩;have hj:j<N'.length:=(List.getElem?_eq_some_iff.mp e1).1;have q:=List.all_eq_true.mp h.2 j (List.mem_range.mpr hj);rw[e1,e2]at q;simp only[Bool.or_eq_true,Bool.and_eq_true,List.any_eq_true]at q;rcases q with q|⟨q1,jo,_,q2⟩
 .exact .inl (by simpa using q)
 .exact .inr ⟨by simpa using q1,jo,by simpa using q2.1,by simpa using q2.2⟩
theorem xN{t:T}{d:D}{fr ao:Fr}(e:Ev.bC t d fr=some ao){i:Nat}(hi:i∉Ev.slots t):ao[i]?=fr[i]?:=by
 have go:∀(l:List Nat) (ds:List D) (fr ao:Fr),Ev.cU l ds fr=some ao->i∉l->ao[i]?=fr[i]?:=by
  intro l;induction l with
  |nil=>
   intro ds fr ao e _;cases ds with
   |nil=>cases e;rfl
   |cons _ _=>cases e
  |cons j l ih=>
   intro ds fr ao e hj;cases ds with
   |nil=>cases e
   |cons d ds=>
    rw[ih ds _ _ e λz=>hj (List.mem_cons_of_mem _ z),List.getElem?_set_ne];intro z;exact hj (by rw[z];exact List.mem_cons_self ..)
 cases t with
 |one j=>
  cases e;rw[List.getElem?_set_ne];intro z;exact hi (by simp[Ev.slots,z])
 |many l=>
  cases d with
  |tup ds=>exact go l ds fr ao e hi
  |_=>cases e
theorem SR.unbind{K:PySem.W.Frag}{m:List Nat}{H:Hp}{r:List Addr}{t:T}{d:D}{fr ao:Fr}{s:L2.St}(sr:SR K m H r ao s)(e:Ev.bC t d fr=some ao)(hu:Ev.undef t fr=true):SR K m H r fr s:=by
 refine⟨sr.len,λj i d' e1 e2=>sr.sl j i d' e1 ?_⟩;rw[xN e]
 .exact e2
 .intro hi;have q:=List.all_eq_true.mp hu i hi;rw[e2]at q;cases q
end Sm
set_option maxRecDepth 100000
namespace Sm
open PySem PySem.Spec PyProof.Rows L2
open Ev (D O Hh Fr R aO E Es Eo T S Ss Fl Src bU bN TY BI ME)
structure kN(sc scope:Scope):Prop where
 kind:scope.kind=.function
 BP:∀y∈scope.names,y.2≠.cell
 free:∀x,(x,NameKind.free)∈scope.names->(sc.names.lookup x=some .cell\/sc.names.lookup x=some .free)/\scope.names.lookup x=some .free
 loc:∀y∈scope.names,y.2=.local->scope.names.lookup y.1=some .local
noncomputable def GQ(sc scope:Scope):Bool:=scope.kind==.function&&scope.names.all λy=>y.2 != .cell&&(y.2 != .free || ((sc.names.lookup y.1==some .cell ||sc.names.lookup y.1==some .free)&&scope.names.lookup y.1==some .free))&&(y.2 != .local ||scope.names.lookup y.1==some .local)
theorem kN.of{sc scope:Scope}(h:GQ sc scope=true):kN sc scope:=by
 unfold GQ at h;rw[Bool.and_eq_true]at h;have q:∀y∈scope.names,y.2≠.cell/\(y.2=.free->(sc.names.lookup y.1=some .cell\/sc.names.lookup y.1=some .free)/\scope.names.lookup y.1=some .free)/\(y.2=.local->scope.names.lookup y.1=some .local):=λy hy=>by
  have z:=List.all_eq_true.mp h.2 y hy;simp only[Bool.and_eq_true,Bool.or_eq_true,bne_iff_ne,beq_iff_eq,ne_eq]at z;refine⟨z.1.1,λe=>?_,λe=>?_⟩
  .rcases z.1.2 with w|w
   .exact absurd e w
   .exact w
  .rcases z.2 with w|w
   .exact absurd e w
   .exact w
 exact⟨by simpa using h.1,λy hy=>(q y hy).1,λx hx=>(q _ hx).2.1 rfl,λy hy=>(q y hy).2.2⟩
theorem tY{sc:Scope}:∀{names:List (Str×NameKind)}{x:Str},names.lookup x=some .free->
  ((names.map λ(n,k)=>if (k==NameKind.free&&sc.kind==.function&&sc.names.lookup n==some .cell)then (n,NameKind.cell)else (n,k)).lookup x=some .cell\/
   (names.map λ(n,k)=>if (k==NameKind.free&&sc.kind==.function&&sc.names.lookup n==some .cell)then (n,NameKind.cell)else (n,k)).lookup x=some .free)
 |[],_,h=>by simp at h
 | (n,k) :: r,x,h=>by
  have ih:=@tY sc r x;simp only[List.map_cons];simp only[List.lookup_cons]at h;by_cases hc:(k==NameKind.free&&sc.kind==.function&&sc.names.lookup n==some .cell)=true
  .rw[if_pos hc];simp only[List.lookup_cons];cases hx:(x==n)with
   |true=>exact .inl rfl
   |false=>rw[hx]at h;exact ih h
  .rw[if_neg hc];simp only[List.lookup_cons];cases hx:(x==n)with
   |true=>rw[hx]at h;exact .inr h
   |false=>rw[hx]at h;exact ih h
section
variable{G:Tb}{n:Nat}{sc scope:Scope}{N N':List Str}{df:Bool}{m m':List Nat}{elt:E}{t:T}{it:Ev.It}{cond:Eo}{xe xi tg:Expr}{ifs:List Expr}{pos:Pos}{X:Cx}
theorem Good.comp(g:Good G n sc N df X){cl:List (Str×Addr)}{C:Addr}{s3:Shared}{H3:Hp}{fp:List Addr}:Good G n (fG sc scope) N' false (qB X N' scope cl C s3 H3 fp):=
 ⟨rfl,rZ g.sc,g.calm,(λh=>by cases h),g.room,rfl,g.fn,g.bl,g.cs,g.dk⟩
theorem Jg{pins:List (Addr×Obj)}{σ:L2.St}{H3:Hp}{s3:Shared}(g:Good G n sc N df X)(I:Inv X pins σ H3 s3)(hs:kN sc scope){cl:List (Str×Addr)}(iO:∀x c,cl.lookup x=some c->X.env.cells.lookup x=some c)
  (kO:∀x,(x,NameKind.free)∈scope.names->∃c,cl.lookup x=some c) {fp:List Addr} (hfp:∀b∈fp,iK X pins H3 b) (hfl:∀b∈fp,b<s3.heap.objs.size):(qB X N' scope cl s3.heap.objs.size s3 H3 fp).Ok where
 mod:=I.ok.mod
 kind:=hs.kind
 glob:=I.ok.glob
 blt:=I.ok.blt
 above:=Nat.le_refl _
 inj:=λx y c h1 h2=>I.ok.inj x y c (iO x c h1) (iO y c h2)
 has:=λx h=>by
  have h':(fG sc scope).names.lookup x=some .cell\/(fG sc scope).names.lookup x=some .free:=by
   rw[<-rZ (scope:=scope) g.sc];exact h
  exact kO x (tX hs.BP h')
 x9:=λx c h=>by cases h
 hd:=I.ok.hd
 frames:=I.ok.frames
 stk:=.inl rfl
 GB:=λb hb=>⟨Nat.ne_of_lt (hfl b hb),λx c e=>(hfp b hb).2.2.2.2.1 x c (iO x c e)⟩
 bs:=I.bs
 sY:=Nat.le_trans I.ok.sY I.sz
 rM:=λb o e hb=>by
  rcases(hfp b hb).2.2.2.1 with z|z
  .exact I.ok.rM b o e z
  .have:=Heap.lt_size (I.ok.bs b o e).1;exact absurd (Nat.lt_of_lt_of_le this z) (Nat.lt_irrefl _)
 rN:=λb hb z=>by
  rcases List.mem_cons.mp (I.u7 b z)with q|q
  .exact(hfp b hb).2.1 q
  .exact(hfp b hb).2.2.1 q
 ju:=I.stack
 u0:=I.yc
open Classical in
noncomputable def sig(scope:Scope)(N N':List Str)(m':List Nat)(K:PySem.W.Frag)(H:Hp)(r:List Addr)(fr:Fr)(σ:L2.St):L2.St:=
 (List.range N'.length).map λj=>if h:∃v,∃x i,N'[j]?=some x/\m'[j]?=some i/\(x,NameKind.free)∈scope.names/\(∃jo:Nat,N[jo]?=some x/\σ[jo]?=some (some v))/\∀d,fr[i]?=some (some d)->RV K H r d v then some h.choose else none
theorem MH{K:PySem.W.Frag}{H:Hp}{r:List Addr}{fr:Fr}{σ:L2.St}{j:Nat}{v:V}(h:(sig scope N N' m' K H r fr σ)[j]?=some (some v)) :
  ∃x i,N'[j]?=some x/\m'[j]?=some i/\(x,NameKind.free)∈scope.names/\(∃jo:Nat,N[jo]?=some x/\σ[jo]?=some (some v))/\∀d,fr[i]?=some (some d)->RV K H r d v:=by
 unfold sig at h;rw[List.getElem?_map]at h;cases e:(List.range N'.length)[j]? with
 |none=>rw[e]at h;cases h
 |some j'=>
  have:=getElem?_range' e;subst this;rw[e]at h;simp only[Option.map_some,Option.some.injEq]at h;split at h
  .rename_i hh;cases h;exact hh.choose_spec
  .cases h
theorem MI{K:PySem.W.Frag}{H:Hp}{r:List Addr}{fr:Fr}{σ:L2.St}(sr:SR K m H r fr σ)(hn:namesOk sc N m scope t N' m')(hu:Ev.undef t fr=true):SR K m' H r fr (sig scope N N' m' K H r fr σ):=by
 refine⟨by unfold sig;simp[hn.1],λj i d e1 e2=>?_⟩;have hj:j<N'.length:=by rw[<-hn.1];exact(List.getElem?_eq_some_iff.mp e1).1
 have hx:N'[j]?=some N'[j]:=List.getElem?_eq_getElem hj;rcases hn.2 j _ i hx e1 with hi|⟨h1,jo,h2,h3⟩
 .exfalso;have q:=List.all_eq_true.mp hu i hi;rw[e2]at q;cases q
 .obtain⟨v,h4,h5⟩:=sr.sl jo i d h3 e2;have ex:∃v,∃x i,N'[j]?=some x/\m'[j]?=some i/\(x,NameKind.free)∈scope.names/\(∃jo:Nat,N[jo]?=some x/\σ[jo]?=some (some v))/\∀d,fr[i]?=some (some d)->RV K H r d v:=
   ⟨v,N'[j],i,hx,e1,h1,⟨jo,h2,h4⟩,λd' e'=>by rw[e2]at e';cases e';exact h5⟩
  refine⟨ex.choose,?_,?_⟩
  .unfold sig;rw[List.getElem?_map,List.getElem?_range hj];simp only[Option.map_some];rw[dif_pos ex]
  .obtain⟨x',i',q1,q2,q3,q4,q5⟩:=ex.choose_spec;rw[e1]at q2;cases q2;exact q5 d e2
theorem Ef{pins:List (Addr×Obj)}{σ:L2.St}{H3:Hp}{s3:Shared}(g:Good G n sc N df X)(I:Inv X pins σ H3 s3)(hs:kN sc scope){cl:List (Str×Addr)}(iO:∀x c,cl.lookup x=some c->X.env.cells.lookup x=some c)
  (kO:∀x,(x,NameKind.free)∈scope.names->∃c,cl.lookup x=some c) {fp:List Addr} (hfp:∀b∈fp,iK X pins H3 b) (hfl:∀b∈fp,b<s3.heap.objs.size) {h1:Heap} {tk:Nat} {mm:Str->Option Value}
  (hns:h1.Ns s3.heap.objs.size mm) (hk:∀b o,s3.heap.get? b=some o->h1.get? b=some o) {r:List Addr} {fr:Fr} :
  Inv (qB X N' scope cl s3.heap.objs.size s3 H3 fp) [] (sig scope N N' m' X.K H3 r fr σ) H3 { s3 with heap:=h1,toks:=tk }:=by
 refine⟨Jg g I hs iO kO hfp hfl,rfl,I.bare,Un.kept hk,⟨mm,hns,λj x v e1 e2 e3=>?_⟩,λx c e=>?_,I.hok.fresh (Nat.le_refl _),λx c e=>I.jf x c (iO x c e),(λp hp=>by simp[qB]at hp),I.hok.kept hk,(by unfold sig;simp[qB])⟩
 .obtain⟨x',i,q1,q2,q3,⟨jo,q4,q5⟩,_⟩:=MH e2;have MJ:N'[j]?=some x:=e1;rw[MJ]at q1;cases q1;obtain⟨f1,f2⟩:=hs.free x q3;obtain⟨mO,YT,Xx⟩:=I.loc;obtain⟨u,ru,lk⟩:=Xx jo x v (by rw[g.nm];exact q4) q5 (by rw[g.sc];rcases f1 with z|z<;>simp[Ba,z]);refine⟨u,ru,?_⟩;have hkd:X.env.kindOf x=some .cell\/X.env.kindOf x=some .free:=by unfold Env.kindOf;rw[g.sc];exact f1
  rcases lk with ⟨z,_⟩|⟨_,c,hc,hcell⟩
  .rcases hkd with w|w <;> (rw[z]at w;cases w)
  .obtain⟨c',hc'⟩:=kO x q3;have:c'=c:=by
    have:=iO x c' hc';rw[hc]at this;cases this;rfl
   subst this;refine .inr ⟨?_,c',hc',?_⟩
   .show(relabel scope X.env).names.lookup x=some .cell\/(relabel scope X.env).names.lookup x=some .free;rw[rZ (scope:=scope) g.sc];exact tY f2
   .obtain⟨o,ho,hd⟩:=hcell;exact⟨o,hk _ _ ho,hd⟩
 .obtain⟨v,o,ho,hd⟩:=I.cell x c (iO x c e);exact⟨v,o,hk _ _ ho,hd⟩
end
end Sm
set_option maxRecDepth 100000
namespace Sm
open PySem PySem.Spec PyProof.Rows L2
open Ev (D O Hh Fr R aO E Es Eo T S Ss Fl Src bU bN TY BI ME)
section
variable{G:Tb}{n:Nat}{sc scope:Scope}{N N':List Str}{df:Bool}{m m':List Nat}{elt:E}{t:T}{it:Ev.It}{cond:Eo}{xe xi tg:Expr}{ifs:List Expr}{pos:Pos}{X:Cx}
noncomputable def zP(P:aO)(elt:E)(t:T)(cond:Eo)(fr:Fr):D->Hh->R (Option D):=λd h2=>match Ev.bC t d fr with
 |none=>.bad
 |some ao=>(Ev.iM P cond ao h2).bind λk h3=>if k then (Ev.ev P elt ao h3).bind λx h4=>.ok (some x) h4 else .ok none h3
theorem r8(P:aO)(elt:E)(t:T)(it:Ev.It)(cond:Eo)(fr:Fr)(h:Hh):Ev.ev P (.comp elt t it cond) fr h=(Ev.cF P it fr h).bind λs h1=>if Ev.undef t fr then
  (Ev.cW (zP P elt t cond fr) s.2 s.1 h1).bind λds h2=>Ev.alloc ds h2 else .bad:=by
 simp only[Ev.ev];rfl
noncomputable def CI(Y:Cx)(m':List Nat)(f:D->Hh->R (Option D))(fr:Fr)(src:Src)(fp:List Addr)(tn:Nat->Heap->Prop)(r2:List Addr)(H2:Hp)(Dd:Addr)(ds:List D)(h2:Hh)(k:Nat)(s:Shared):Prop:=
 ∃i pK Hc rc hc dn vs rest,Inv Y [] pK Hc s/\tn i s.heap/\(∀b∈fp,Hc b=none)/\k=src.1.length - i/\i<=src.1.length/\
  SR Y.K m' Hc rc fr pK/\HR Y.K Hc rc hc/\Fm Y.K r2 rc H2 Hc/\Hc Dd=some (.lst vs)/\Dd∉rc/\aG Y.K Hc rc dn vs/\Ev.cW f src.2 (src.1.drop i) hc=.ok rest h2/\dn++rest=ds
section
variable{Y:Cx}{sc':Scope}{J:L2.It}{fp:List Addr}{ita:Addr}{tn:Nat->Heap->Prop}{fr:Fr}{src:Src}{r2:List Addr}{H2:Hp}{Dd:Addr}{ds:List D}{h2:Hh}
theorem zQ(gC:Good G n sc' N' false Y){α:Type}{tt:Sem α}{Q:α->Shared->Prop}{s:Shared}(hw:wpAny (model Y.prog Y.w) Y.A tt Q Y.xe s):wpAny (model Y.prog Y.w) Y.A tt Q eY s:=by rw[gC.xe]at hw;exact hw
theorem yD{i:Nat}{nc:L2.St}{H9:Hp}{r9:List Addr}{h9:Hh}{dn:List D}{vs:List V}{rest':List D}{s9:Shared}{p:List (Addr×Obj)}{f:D->Hh->R (Option D)}(hlt:i<src.1.length)(I9:Inv Y ([]++p) nc H9 s9)(bk:tn (i+1) s9.heap/\∀b∈fp,H9 b=none)(q:SR Y.K m' H9 r9 fr nc)(tZ:HR Y.K H9 r9 h9)(fm:Fm Y.K r2 r9 H2 H9)(zR:H9 Dd=some (.lst vs))(zS:Dd∉r9)(rv:aG Y.K H9 r9 dn vs)(e7:Ev.cW f src.2 (src.1.drop (i+1)) h9=.ok rest' h2)(ed:dn++rest'=ds) :
  ∃k,k<src.1.length - i/\CI Y m' f fr src fp tn r2 H2 Dd ds h2 k s9:=
 ⟨src.1.length - (i+1),Nat.sub_lt_sub_left hlt (Nat.lt_succ_self i),i+1,nc,H9,r9,h9,dn,vs,rest',I9.mw,bk.1,bk.2,rfl,hlt,q,tZ,fm,zR,zS,rv,e7,ed⟩
theorem MK{i:Nat}{nc:L2.St}{H9:Hp}{r9:List Addr}{h9:Hh}{dn:List D}{vs:List V}{xd:D}{v10:V}{GR:Value}{rest':List D}{s9:Shared}{p:List (Addr×Obj)}{f:D->Hh->R (Option D)}(hlt:i<src.1.length)(ng:H2 Dd=none)(hsz:ds.length<=sizeLine)(gC:Good G n sc' N' false Y)(I9:Inv Y ([]++p) nc H9 s9)(Eg:RelV v10 GR)(bk:∀{σ':L2.St}{H':Hp}{s':Shared},Inv Y ([]++p) σ' H' s'->tn (i+1) s'.heap/\∀b∈fp,H' b=none)(q:SR Y.K m' H9 r9 fr nc)(tZ:HR Y.K H9 r9 h9)(fm:Fm Y.K r2 r9 H2 H9)(pL:H9 Dd=some (.lst vs))(vH:Dd∉r9)(rv:aG Y.K H9 r9 dn vs)(Eh:RV Y.K H9 r9 xd v10)(e7:Ev.cW f src.2 (src.1.drop (i+1)) h9=.ok rest' h2)(ed:dn++xd :: rest'=ds) :
  wpAny (model Y.prog Y.w) Y.A (call (.builtin "list.append") [.ref Dd,GR]) (λ_ GS=>∃k,k<src.1.length - i/\CI Y m' f fr src fp tn r2 H2 Dd ds h2 k GS) eY s9:=by
 have hlen:vs.length<sizeLine:=by
  have h1:=rv.length;have h2:=congrArg List.length ed;simp at h2;omega
 refine bF (zQ gC (tL _ s9 nc H9 (.ref Dd) [v10] (.ref Dd) [GR] (λ_ Ti=>Ti=upd H9 Dd (.lst (vs++[v10]))) I9 rfl (.cons Eg .nil) ⟨Dd,vs,v10,rfl,rfl,pL,hlen,rfl⟩)) λ_ GS ⟨_,Ti,Tj,_,VV⟩=>?_;subst VV;refine yD (dn:=dn++[xd]) (vs:=vs++[v10]) hlt Tj (bk Tj) ?_ (tZ.other pL vH) (fm.other ng pL) fQ vH ?_ e7 ?_
 .exact⟨q.len,λj i' d' a1 a2=>by
   obtain⟨w,b1,b2⟩:=q.sl j i' d' a1 a2;exact⟨w,b1,b2.grow (λ_ _ z=>z) (iN pL)⟩⟩
 .exact(rv.append (.cons Eh .nil)).grow (λ_ _ z=>z) (iN pL)
 .rw[<-ed];simp
theorem BQ(gC:Good G n sc' N' false Y)(hg:JG G n sc' N' false m' t tg)(hc:JC G n sc' N' false m' cond ifs)(he:JE G n sc' N' false m' elt xe)(Tn:Turn Y.prog Y.w Y.K tg J fp ita tn)(mz:∀{Hc:Hp},(∀b∈fp,Hc b=none)->∀b∈fp,iK Y [] Hc b)
  (hu:Ev.undef t fr=true) (hJ:rV Y.K r2 H2 src J) (ng:H2 Dd=none) (hsz:ds.length<=sizeLine) {R':Result->Shared->Prop}
  (VW:∀s6 pK Hc rc vs,Inv Y [] pK Hc s6->HR Y.K Hc rc h2->Fm Y.K r2 rc H2 Hc->Hc Dd=some (.lst vs)->Dd∉rc->aG Y.K Hc rc ds vs->R' (.ok .next) s6) {k:Nat} {s:Shared}
  (h:CI Y m' (zP (Ev.run G.F G.w n) elt t cond fr) fr src fp tn r2 H2 Dd ds h2 k s):codeAny (model Y.prog Y.w) Y.A (.compLoop (.ListComp xe [⟨tg,xi,ifs,0⟩] scope pos) 0 (.ref ita) (.ref Dd) Y.env) R' s:=by
 refine vG (CI Y m' (zP (Ev.run G.F G.w n) elt t cond fr) fr src fp tn r2 H2 Dd ds h2) ?_ k h;rintro k s5 ⟨i,pK,Hc,rc,hc',dn,vs,rest,I5,yh,nu,rfl,hle,BL,tU,vI,pL,vH,BR,e5,GU⟩;rcases Nat.lt_or_ge i src.1.length with hlt|hge
 .rw[List.drop_eq_getElem_cons hlt]at e5;simp only[Ev.cW]at e5;split at e5
  .rename_i hst;obtain⟨hgo,_⟩:=hJ i Hc rc hc' tU vI hst;obtain⟨g1,g2⟩:=hgo src.1[i] (List.getElem?_eq_getElem hlt);obtain⟨o,h6,e6,e5⟩:=Ev.ah e5;obtain⟨rest',h7,e7,e5⟩:=Ev.ah e5;cases e5;refine bF (Tn.item Y rfl rfl rfl gC.calm i [] s5 pK Hc eY I5 (mz nu) yh g1) λrr s6 ⟨u,Xy,h8⟩=>?_;subst Xy;refine bF h8 λ_ s7 ⟨x,H7,I7,rx,y7,ML,To⟩=>?_;obtain⟨r7,v7,Tp,yE⟩:=g2 x H7 y7;obtain⟨VX,VY⟩:=yE.g7 pL vH;unfold zP at e6;split at e6
   .cases e6
   .rename_i ao eb;obtain⟨kk,h9,e9,e6⟩:=Ev.ah e6;have Xz:=I7.pinned (mz To) (Tn.obj _ _ ML);refine bF (zQ gC (hg _ gC _ s7 pK H7 x u (λnc H8=>H8=H7/\SR Y.K m' H7 r7 ao nc) Xz rx ⟨r7,fr,hc',_,ao,BL.mono yE,Tp,v7,eb,λs' q=>⟨rfl,q⟩⟩)) λ_ s8 ⟨nc,H8,I8,XA,GV⟩=>?_;subst XA;refine bF (zQ gC (hc _ gC _ s8 nc _ (λb H9=>b=kk/\∃r9,HR Y.K H9 r9 h9/\Fm Y.K r7 r9 _ H9) I8 ⟨r7,ao,hc',kk,h9,GV,Tp,e9,λH9 r9 tZ f9=>⟨rfl,r9,tZ,f9⟩⟩)) λbb s9 ⟨H9,I9,LV,r9,tZ,t6⟩=>?_;subst LV;obtain⟨zS,zR⟩:=t6.g7 VY VX;have back:∀{σ':L2.St} {H':Hp} {s':Shared},Inv Y ([]++nq fp s7.heap) σ' H' s'->tn (i+1) s'.heap/\∀b∈fp,H' b=none:=λ{σ' H' s'} I'=>
     ⟨Tn.keep _ _ _ ML λb hb o e=>(I'.pin (b,o) (List.mem_append_right _ (List.mem_append_right _ (jB hb e)))).1,λb hb=>
      let ⟨o,e,_⟩:=Tn.obj _ _ ML b hb
      (I'.pin (b,o) (List.mem_append_right _ (List.mem_append_right _ (jB hb e)))).2.1⟩
    cases bb with
    |false=>
     simp only[Bool.false_eq_true,if_false]at e6 ⊢;cases e6;exact yD hlt I9 (back I9) ((GV.mono t6).unbind eb hu) tZ ((vI.trans yE).trans t6) zR zS ((BR.mono yE).mono t6) e7 GU
    |true=>
     simp only[if_true]at e6 ⊢;obtain⟨xd,YU,XC,e6⟩:=Ev.ah e6;cases e6;refine bF (zQ gC (he _ gC _ s9 nc H9 (λv BU=>∃yF,RV Y.K BU yF xd v/\HR Y.K BU yF _/\Fm Y.K r9 yF H9 BU) I9 ⟨r9,ao,h9,xd,_,GV.mono t6,tZ,XC,λv BU yF v10 Ei GW=>⟨yF,v10,Ei,GW⟩⟩)) λGR Tt ⟨v10,BU,XD,Eg,yF,Eh,Ei,zT⟩=>?_;obtain⟨QT,QU⟩:=zT.g7 zR zS;exact MK hlt ng hsz gC XD Eg back (((GV.mono t6).mono zT).unbind eb hu) Ei (((vI.trans yE).trans t6).trans zT) QU QT (((BR.mono yE).mono t6).mono zT) Eh e7 GU
  .cases e5
 .have hi':i=src.1.length:=Nat.le_antisymm hle hge;subst hi';rw[List.drop_length]at e5;simp only[Ev.cW]at e5;split at e5
  .rename_i hst;cases e5;refine bF (Tn.done Y rfl rfl rfl gC.calm _ [] s5 pK Hc eY I5 (mz nu) yh ((hJ _ Hc rc _ tU vI hst).2 (Nat.le_refl _))) λrr s6 ⟨hrr,I6⟩=>?_;subst hrr;rw[List.append_nil]at GU;subst GU;exact VW s6 pK Hc rc vs I6 tU vI pL vH BR
  .cases e5
end
theorem t7(g:Good G n sc N df X)(hi:JI G n sc N df m it tg xi)(hg:JG G n (fG sc scope) N' false m' t tg)(hc:JC G n (fG sc scope) N' false m' cond ifs)(he:JE G n (fG sc scope) N' false m' elt xe)
  (hn:namesOk sc N m scope t N' m') (hs:kN sc scope) {cl:List (Str×Addr)} (iO:∀x c,cl.lookup x=some c->X.env.cells.lookup x=some c) (kO:∀x,(x,NameKind.free)∈scope.names->∃c,cl.lookup x=some c)
  {pins:List (Addr×Obj)} {σ:L2.St} {H:Hp} {s:Shared} (I:Inv X pins σ H s) {r:List Addr} {fr:Fr} {h:Hh} {d:D} {h':Hh} (sr:SR X.K m H r fr σ) (hr:HR X.K H r h)
  (e:Ev.ev (Ev.run G.F G.w n) (.comp elt t it cond) fr h=.ok d h') (post:Value->Addr->Result->Shared->Prop)
  (hpost:∀Dd C s' H' r',Inv X pins σ H' s'->(∃mm,s'.heap.Ns C mm)->iK X pins H' C->RV X.K H' r' d (.ref Dd)->HR X.K H' r' h'->Fm X.K r r' H H'->post (.ref Dd) C (.ok .next) s') {E:Value->Shared->Prop} (hE:X.xe=λ_ _=>False) :
  wpAny (model X.prog X.w) X.A (eval xi X.env) (λx s₁=>wpAny (model X.prog X.w) X.A (pyIter x) (λitv s₂=>wpAny (model X.prog X.w) X.A (newList []) (λacc s₃=>
   wpAny (model X.prog X.w) X.A (newFunctionEnv scope X.env.globals cl [] X.env.qual none .none (some X.env)) (λcenv s₄=>
    codeAny (model X.prog X.w) X.A (.compStart (.ListComp xe [⟨tg,xi,ifs,0⟩] scope pos) 0 itv acc { cenv with scope:=relabel scope X.env }) (post acc cenv.locals) s₄) E s₃) E s₂) E s₁) E s:=by
 rw[r8]at e;obtain⟨src,h1,e1,e⟩:=Ev.ah e;split at e
 .rename_i hu;obtain⟨ds,h2,e2,e⟩:=Ev.ah e;have tu:∀{α:Type} {tt:Sem α} {Q:α->Shared->Prop} {s:Shared},wpAny (model X.prog X.w) X.A tt Q X.xe s->wpAny (model X.prog X.w) X.A tt Q E s:=λ{α tt Q s} hw=>wpAny_mono hw (λ_ _ q=>q) λ_ _ q=>by rw[hE]at q;exact q.elim
  refine bF (tu (hi X g pins s σ H (λJ H2=>∃r2,HR X.K H2 r2 h1/\Fm X.K r r2 H H2/\rV X.K r2 H2 src J) I ⟨r,fr,h,src,h1,sr,hr,e1,λJ H2 r2 hr2 f2 hJ=>⟨r2,hr2,f2,hJ⟩⟩)) λv s1 q1=>?_;refine bF (tu q1) λitv s2 q2=>?_;obtain⟨ita,fp,tn,J,H2,rfl,I2,Tn,st2,f2,r2,hr2,GX,hJ⟩:=q2;refine wpAny_newObj_type ?_;generalize GY:s2.heap.objs.size=Dd
  have ng:H2 Dd=none:=by rw[<-GY];exact I2.fresh
  have I3:Inv X pins σ (upd H2 Dd (.lst [])) { s2 with heap:=s2.heap.push { cls:=.type "list",data:=.seq ([]:List Value).toArray }}:=by
   have:=I2.DQ (ys:=[]) (its:=[]) (t':=s2.toks) .nil (Nat.zero_le _);rw[GY]at this;exact this
  have MM:∀b∈fp,b<s2.heap.objs.size:=λb hb=>by
   obtain⟨o,e,_⟩:=Tn.obj 0 _ st2 b hb;exact Heap.lt_size e
  generalize MN:({ s2 with heap:=s2.heap.push { cls:=.type "list",data:=.seq ([]:List Value).toArray }}:Shared)=s3 at I3
  have VZ:s3.heap.objs.size=s2.heap.objs.size+1:=by rw[<-MN];exact Heap.size_push ..
  have k3:∀b o,s2.heap.get? b=some o->s3.heap.get? b=some o:=λb o e=>by rw[<-MN];exact Heap.get?_push_of_some _ e
  have MO:∀b∈fp,b<s3.heap.objs.size:=λb hb=>Nat.lt_of_lt_of_le (MM b hb) (by rw[VZ];exact Nat.le_succ _);have sd:∀b∈fp,iK X pins (upd H2 Dd (.lst [])) b:=λb hb=>⟨by rw[aV (λz=>absurd (MM b hb) (by rw[z,GY];exact Nat.lt_irrefl _))];exact(f2 b hb).1,(f2 b hb).2⟩
  refine wpAny_newFunctionEnv (hs.BP) (λy hy=>by simp at hy) (λMP V0 V1=>?_) hs.kind;have k4:∀b o,s3.heap.get? b=some o->MP.get? b=some o:=λb o e=>V1.extBut b o (Nat.ne_of_lt (Heap.lt_size e)) (Heap.get?_push_of_some _ e);have gC:Good G n (fG sc scope) N' false (qB X N' scope cl s3.heap.objs.size s3 (upd H2 Dd (.lst [])) fp):=g.comp;have I4:Inv (qB X N' scope cl s3.heap.objs.size s3 (upd H2 Dd (.lst [])) fp) [] (sig scope N N' m' X.K (upd H2 Dd (.lst [])) r2 fr σ) (upd H2 Dd (.lst [])) { s3 with heap:=MP,toks:=s3.toks+0 }:=
   Ef g I3 hs iO kO sd MO V0 k4
  have yu:SR X.K m' (upd H2 Dd (.lst [])) r2 fr (sig scope N N' m' X.K (upd H2 Dd (.lst [])) r2 fr σ):=MI (((sr.mono GX).mono (Fm.tup ng))) hn hu;have jA:HR X.K (upd H2 Dd (.lst [])) r2 h1:=hr2.tup ng;have Tu:Dd∉r2:=λhm=>by
   obtain⟨k,hk⟩:=List.getElem?_of_mem hm;have hlt:k<h1.length:=by rw[<-hr2.len];exact(List.getElem?_eq_some_iff.mp hk).1
   obtain⟨a,e3,e4⟩:=hr2.ob k _ (List.getElem?_eq_getElem hlt);rw[hk]at e3;cases e3;cases eo:h1[k]with
   |lst dd=>rw[eo]at e4;obtain⟨us,e5,_⟩:=e4;rw[ng]at e5;cases e5
   |bP dd=>
    rw[eo]at e4;obtain⟨us,e5,_⟩:=e4;rcases e5 with ⟨ob,e5⟩|⟨ob,_,_,e5,_⟩
    .rw[ng]at e5;cases e5
    .have:=Heap.lt_size (I2.u5 _ _ e5);rw[GY]at this;exact absurd this (Nat.lt_irrefl _)
   |dct kvs=>rw[eo]at e4;have e5:=e4.1;rw[ng]at e5;cases e5
  have XE:H Dd=none:=by
   cases z:H Dd with
   |none=>rfl
   |some o=>
    have hnr:Dd∉r:=λhm=>by
     obtain⟨k,hk⟩:=List.getElem?_of_mem hm;exact Tu (List.mem_of_getElem? (GX.pre _ _ hk))
    have:=GX.keep _ _ z hnr;rw[ng]at this;cases this
  have mz:∀{Hc:Hp},(∀b∈fp,Hc b=none)->∀b∈fp,iK (qB X N' scope cl s3.heap.objs.size s3 (upd H2 Dd (.lst [])) fp) [] Hc b:=λ{Hc} hz b hb=>by
   refine⟨hz b hb,Nat.ne_of_lt (MO b hb),(I4.ok).rN b hb,.inl hb,λx c e=>((I4.ok).GB b hb).2 x c e,λp hp=>?_⟩;simp[qB]at hp
  have hsz:ds.length<=sizeLine:=by
   unfold Ev.alloc at e;split at e
   .rename_i z;rw[<-gU];exact z
   .cases e
  have fin:codeAny (model X.prog X.w) X.A (.compLoop (.ListComp xe [⟨tg,xi,ifs,0⟩] scope pos) 0 (.ref ita) (.ref Dd) (compEnvC scope cl s3.heap.objs.size X.env)) (post (.ref Dd) s3.heap.objs.size) { s3 with heap:=MP,toks:=s3.toks+0 }:=by
   refine BQ gC hg hc he Tn mz hu hJ ng hsz (λs6 pK Hc rc vs I6 tU vI pL vH BR=>?_) ⟨0,_,_,r2,h1,[],[],ds,I4,Tn.keep _ _ _ st2 λb hb o eo=>k4 b o (k3 b o eo),λb hb=>(sd b hb).1,rfl,Nat.zero_le _,yu,jA,Fm.tup ng,fQ,Tu,.nil,by rw[List.drop_zero];exact e2,rfl⟩;unfold Ev.alloc at e;split at e
   .cases e;obtain⟨XF,V2,_⟩:=I6.loc;refine hpost Dd _ s6 Hc (rc++[Dd]) ?_ ⟨XF,V2⟩ ?_ ⟨Dd,rfl,?_⟩ (tU.known pL vH BR) ((GX.trans vI).known ?_)
    .exact I3.Qe (ch:=fp) (I6.os) I6.base I6.hok I6.bare λb hb=>⟨(sd b hb).2.2.2.1,(sd b hb).2.1,(sd b hb).2.2.2.2.1,(sd b hb).2.2.2.2.2⟩
    .exact I3.DF (Nat.le_refl _) I6.free
    .rw[<-tU.len];simp
    .exact XE
   .cases e
  subst MN;exact codeAny_compStart_list fin (Tn.self _ 0 _ _ _ (Tn.keep _ _ _ st2 λb hb o eo=>k4 b o (k3 b o eo)) fin)
 .cases e
end
end Sm
set_option maxRecDepth 100000
namespace Sm
open PySem PySem.Spec PyProof.Rows L2
open Ev (D O Hh Fr R aO E Es Eo T S Ss Fl Src bU bN TY BI ME)
section
variable{G:Tb}{n:Nat}{sc scope:Scope}{N N':List Str}{df:Bool}{m m':List Nat}{elt:E}{t:T}{it:Ev.It}{cond:Eo}{xe xi tg:Expr}{ifs:List Expr}{pos:Pos}
theorem Good.cells{X:Cx}{pins:List (Addr×Obj)}{σ:L2.St}{H:Hp}{s:Shared}(g:Good G n sc N df X)(I:Inv X pins σ H s)(hs:kN sc scope) :
  ∃cl,closureFor scope X.env=pure cl/\(∀x c,cl.lookup x=some c->X.env.cells.lookup x=some c)/\∀x,(x,NameKind.free)∈scope.names->∃c,cl.lookup x=some c:=
 Jf λx hx=>I.ok.has x (by unfold Env.kindOf;rw[g.sc];exact(hs.free x hx).1)
theorem BV{X:Cx}{pins:List (Addr×Obj)}{σ:L2.St}{H:Hp}{s:Shared}(I:Inv X pins σ H s){C:Addr}(fp:iK X pins H C){h':Heap}(hs:Heap.SameBut C s.heap h'):Inv X pins σ H { s with heap:=h' }:=
 I.turned (t':=s.toks) (λb o hb e=>hs.extBut b o hb e) fp.1 fp.2.1 fp.2.2.2.1 fp.2.2.2.2.1 fp.2.2.2.2.2
theorem yG(hi:JI G n sc N df m it tg xi)(hg:JG G n (fG sc scope) N' false m' t tg)(hc:JC G n (fG sc scope) N' false m' cond ifs)(he:JE G n (fG sc scope) N' false m' elt xe)
  (hn:namesOk sc N m scope t N' m') (hs:kN sc scope) (hf:∀(env:Env) x,foldedSetIterable xi env x=pure x:=by intro _ _;rfl):JE G n sc N df m (.comp elt t it cond) (.ListComp xe [⟨tg,xi,ifs,0⟩] scope pos):=λX g pins s σ H Q I q=>by
 obtain⟨r,fr,h,d,h',sr,hr,e,q⟩:=q;obtain⟨cl,hcl,iO,kO⟩:=g.cells I hs;rw[eval_ListComp];refine wpAny_comprehension_free (use:=none) (Q:=EP X pins σ Q) rfl (hf _) hcl hs.kind hs.loc ?_;refine t7 g hi hg hc he hn hs iO kO I sr hr e (λacc C=>compPost (model X.prog X.w) X.A X.xe none (EP X pins σ Q) acc C) (λDd C s' H' r' I' hC fp rv hr' GZ=>?_) g.xe;obtain⟨mm,hC⟩:=hC;exact⟨mm,hC,λh'' BW=>⟨.ref Dd,H',BV I' fp BW,rfl,q _ H' r' rv hr' GZ⟩⟩
theorem Jh(j i:Nat){x:Str}{pos' cpos:Pos}(hm:m.Nodup)(hN:N.Nodup)(hi:JI G n sc N df m it tg xi)(hg:JG G n (fG sc scope) N' false m' t tg)(hc:JC G n (fG sc scope) N' false m' cond ifs)(he:JE G n (fG sc scope) N' false m' elt xe)
  (hn:namesOk sc N m scope t N' m') (hs:kN sc scope) (hj:m[j]?=some i:=by rfl) (tR:N[j]?=some x:=by rfl)
  (hl:sc.names.lookup x=some .local\/(df=true/\sc.names.lookup x=some .cell):=by first|exact Or.inl rfl|exact Or.inr ⟨rfl,rfl⟩) (hf:∀(env:Env) x,foldedSetIterable xi env x=pure x:=by intro _ _;rfl) :
  JS G n sc N df m (.set i (.comp elt t it cond)) (.Assign [.Name x pos'] (.ListComp xe [⟨tg,xi,ifs,0⟩] scope cpos) pos):=λX g=>by
 obtain⟨h1,h2⟩:=g.loc hl;have hsw:swapsWith (.ListComp xe [⟨tg,xi,ifs,0⟩] scope cpos) (some (.Name x pos')) pos.line X.env=pure (X.env.blockKind==.function&&X.env.kindOf x==some .local&&pos'.line==(Expr.ListComp xe [⟨tg,xi,ifs,0⟩] scope cpos).pos.line&&!(scope.names.any λ(n,k)=>n==x&&(k==.local ||k==.cell))):=rfl;generalize hb:(X.env.blockKind==.function&&X.env.kindOf x==some .local&&pos'.line==(Expr.ListComp xe [⟨tg,xi,ifs,0⟩] scope cpos).pos.line&&!(scope.names.any λ(n,k)=>n==x&&(k==.local ||k==.cell)))=b at hsw
 cases b with
 |false=>
  refine PS.of (Be (i:=j) (by rw[g.nm];exact hN) (by rw[g.nm];exact tR) h1 (yG hi hg hc he hn hs hf X g) hsw h2) λQ s H q=>?_;obtain⟨r,fr,h,fl,aj,h',sr,hr,e,q⟩:=q;simp only[Ev.ex]at e;obtain⟨d,h1,e1,e⟩:=Ev.ah e;cases e;exact⟨r,fr,h,d,_,sr,hr,e1,λv H1 r1 v1 hr1 f1=>q _ H1 r1 ((sr.mono f1).set hm hj v1) hr1 f1⟩
 |true=>
  have YV:X.env.kindOf x=some .local:=by
   simp only[Bool.and_eq_true,beq_iff_eq]at hb;exact hb.1.1.2
  intro pins s σ H Q I q;obtain⟨r,fr,h,fl,aj,h',sr,hr,e,q⟩:=q;simp only[Ev.ex]at e;obtain⟨d,h3,e1,e⟩:=Ev.ah e;cases e;obtain⟨cl,hcl,iO,kO⟩:=g.cells I hs;rw[exec_Assign_Name_used _ _ _ _ hsw];refine wpAny_bind (wpAny_standAt (wpAny_bind ?_));show wpAny _ X.A (do let _ <-comprehension (.ListComp xe [⟨tg,xi,ifs,0⟩] scope cpos) scope X.env _ (newList []) false (eval xi X.env) (some (assign (.Name x pos') X.env))) _ _ s;refine wpAny_bind (wpAny_mono (wpAny_comprehension_free (use:=some (assign (.Name x pos') X.env)) (Q:=λ_ s'=>SP X pins Q .next s') rfl (hf _) hcl hs.kind hs.loc ?_) (λ_ s' hq=>wpAny_pure (wpAny_pure hq)) λ_ _ e=>e);refine t7 g hi hg hc he hn hs iO kO I sr hr e1 (λacc C=>compPost (model X.prog X.w) X.A X.xe (some (assign (.Name x pos') X.env)) (λ_ s'=>SP X pins Q .next s') acc C) (λDd C s' H' r' I' hC fp rv hr' GZ=>?_) g.xe;obtain⟨mm,hC⟩:=hC;show wpAny _ X.A (assign (.Name x pos') X.env (.ref Dd)) _ _ s';refine wpAny_assign_Name (sZ (v:=.ref Dd) I' (by rw[g.nm];exact hN) (i:=j) (by rw[g.nm];exact tR) h1 rfl (λs'' XG BW=>?_) h2);obtain⟨a,BW,ha⟩:=BW;have XH:C≠a:=by
   rcases ha with z|z
   .rw[z];exact fp.2.1
   .exact λw=>fp.2.2.2.2.1 x a z w.symm
  refine⟨mm,hC.sameBut BW XH,λh'' V3=>?_⟩;exact⟨_,H',BV XG ⟨fp.1,fp.2⟩ V3,q _ H' r' ((sr.mono GZ).set hm hj rv) hr' GZ⟩
end
end Sm
set_option maxRecDepth 100000
namespace Sm
open PySem PySem.Spec PyProof.Rows L2 PySem.SeqAt
open Ev (D O Hh Fr R aO E Es Eo T S Ss Fl Src bU bN TY BI ME)
structure vJ(A:Around)(s:Shared)(u w:Value)(k:Bool):Prop where
 eq:EqAt A s u w k
 rc:RcAt A s u w k
 ne:RcNeAt A s u w (!k)
theorem se{f:D->D->Option Bool}:∀{x y:List D},x.length≠y.length->∀{k},Ev.cQ f x y=some k->k=false
 |[],[],h,_,_=>absurd rfl h
 |[],_ :: _,_,_,e=>by cases e;rfl
 |_ :: _,[],_,_,e=>by cases e;rfl
 |a :: x,b :: y,h,k,e=>by
  simp only[Ev.cQ,Option.bind_eq_bind,Option.bind_eq_some_iff]at e;obtain⟨p,_,q,e2,e3⟩:=e;have:=se (x:=x) (y:=y) (by simpa using h) e2;subst this;cases e3;simp
theorem yH{f:D->D->Option Bool}:∀{x y:List D}{k},Ev.cQ f x y=some k->x.length=y.length->∃e:Nat->Bool,(∀(j:Nat) a b,x[j]?=some a->y[j]?=some b->f a b=some (e j))/\(List.range x.length).all e=k
 |[],[],_,h,_=>⟨λ_=>true,(λj a b h1=>by simp at h1),by cases h;simp⟩
 |[],_ :: _,_,_,h=>by simp at h
 |_ :: _,[],_,_,h=>by simp at h
 |a :: x,b :: y,k,h,hl=>by
  simp only[Ev.cQ,Option.bind_eq_bind,Option.bind_eq_some_iff]at h;obtain⟨p,e1,q,e2,e3⟩:=h;cases e3;obtain⟨e,h1,h2⟩:=yH e2 (by simpa using hl);refine⟨λj=>match j with|0=>p|j+1=>e j,λj a' b' g1 g2=>?_,?_⟩
  .cases j with
   |zero=>simp at g1 g2;subst g1 g2;exact e1
   |succ j=>exact h1 j a' b' (by simpa using g1) (by simpa using g2)
  .rw[List.length_cons,List.range_succ_eq_map,List.all_cons,List.all_map,<-h2];rfl
theorem yI{f:D->D->Option Bool}:∀{x y:List D}{k},Ev.cQ f x y=some k->∃e:Nat->Bool,∀(j:Nat) a b,x[j]?=some a->y[j]?=some b->f a b=some (e j)
 |[],_,_,_=>⟨λ_=>true,λj a b h1=>by simp at h1⟩
 |_ :: _,[],_,_=>⟨λ_=>true,λj a b _ h1=>by simp at h1⟩
 |a :: x,b :: y,k,h=>by
  simp only[Ev.cQ,Option.bind_eq_bind,Option.bind_eq_some_iff]at h;obtain⟨p,e1,q,e2,e3⟩:=h;obtain⟨e,h1⟩:=yI e2;refine⟨λj=>match j with|0=>p|j+1=>e j,λj a' b' g1 g2=>?_⟩;cases j with
  |zero=>simp at g1 g2;subst g1 g2;exact e1
  |succ j=>exact h1 j a' b' (by simpa using g1) (by simpa using g2)
section
variable{X:Cx}{pins:List (Addr×Obj)}{σ:L2.St}{H:Hp}{s:Shared}{r:List Addr}{h:Hh}
theorem oQ(I:Inv X pins σ H s){a b:Addr}{vs ws:List V}(h1:zM X.K H a vs)(h2:H b=some (.lst ws)):a≠b:=by
 rintro rfl;rcases h1 with ⟨o,h1⟩|⟨o,_,_,h1,_⟩
 .rw[h2]at h1;cases h1
 .have:=(I.bs a o (I.ok.mod.GA a o h1)).2;rw[h2]at this;cases this
theorem t8{x y:List D}{vs ws:List V}{us zs:List Value}{f:D->D->Option Bool}{A:Around}{k:Bool}(v1:aG X.K H r x vs)(v2:aG X.K H r y ws)(p1:Vals vs us)(p2:Vals ws zs)
  (ih:∀a b va vb u w k,RV X.K H r a va->RV X.K H r b vb->RelV va u->RelV vb w->f a b=some k->vJ A s u w k) (hl:x.length=y.length) (e:Ev.cQ f x y=some k) :
  ∃e':Nat->Bool,(∀j (h1:j<us.toArray.size) (h2:j<zs.toArray.size),EqAt A s us.toArray[j] zs.toArray[j] (e' j))/\(List.range us.toArray.size).all e'=k/\us.length=zs.length:=by
 obtain⟨e',h1,h2⟩:=yH e hl;have l1:=v1.length;have l2:=v2.length;have l3:=p1.length;have l4:=p2.length;refine⟨e',λj g1 g2=>?_,?_,by omega⟩
 .have XI:j<us.length:=by simpa using g1
  have XJ:j<zs.length:=by simpa using g2
  have ha:x[j]?=some x[j]:=List.getElem?_eq_getElem (by omega);have hb:y[j]?=some y[j]:=List.getElem?_eq_getElem (by omega);obtain⟨va,a1,a2⟩:=v1.get ha;obtain⟨vb,b1,b2⟩:=v2.get hb;obtain⟨u,a3,a4⟩:=p1.get a1;obtain⟨w,b3,b4⟩:=p2.get b1;have eu:us.toArray[j]=u:=by
   have:=(List.getElem?_eq_some_iff.mp a3).2;simpa using this
  have ew:zs.toArray[j]=w:=by
   have:=(List.getElem?_eq_some_iff.mp b3).2;simpa using this
  rw[eu,ew];exact(ih _ _ _ _ _ _ _ a2 b2 a4 b4 (h1 j _ _ ha hb)).eq
 .rw[<-h2];have:us.toArray.size=x.length:=by simp;omega
  rw[this]
noncomputable def cj(K:PySem.W.Frag)(H:Hp)(r:List Addr):D->V->Prop
 |.aS,v=>v=.aS
 |.bl b,v=>v=.bl b
 |.int i,v=>v=.int i
 |.str l,v=>v=.str (aW l)
 |.ref n,v=>∃a,v=.ref a/\r[n]?=some a
 |.tup ds,v=>∃a vs,v=.ref a/\dP K H a vs/\aG K H r ds vs
theorem RV.shape{d:D}{v:V}(h:RV X.K H r d v):cj X.K H r d v:=by
 cases d<;>simp only[RV]at h<;>simp only[cj]<;>first|exact h|exact h.1
theorem Ji{a b:List Nat}:(aW a==aW b)=(a==b):=by
 by_cases e:a=b
 .subst e;simp
 .have e1:(aW a==aW b)=false:=beq_eq_false_iff_ne.mpr λz=>e (yq z);have e2:(a==b)=false:=beq_eq_false_iff_ne.mpr e;rw[e1,e2]
theorem qc{n:Nat}{A:Around}{x y:List D}{a b:Addr}{vs ws:List V}{k:Bool}(I:Inv X pins σ H s)(hu:A.units<cLine)(q1:fF X.K H a vs)(q2:fF X.K H b ws)(v1:aG X.K H r x vs)(v2:aG X.K H r y ws)(hab:a≠b)
  (ih:∀a b va vb u w k,RV X.K H r a va->RV X.K H r b vb->RelV va u->RelV vb w->Ev.gq h n a b=some k->vJ A.in1 s u w k) (e:Ev.cQ (Ev.gq h n) x y=some k):vJ A s (.ref a) (.ref b) k:=by
 obtain⟨us,p1,pM,_⟩:=I.list q1;obtain⟨zs,p2,pN,_⟩:=I.list q2;by_cases hl:x.length=y.length
 .obtain⟨e',h1,h2,h3⟩:=t8 v1 v2 p1 p2 ih hl e;have hs:us.toArray.size=zs.toArray.size:=by simpa using h3
  have rc:=RcAt.lists pM.isList pN.isList hs hu h1;have ne:=RcNeAt.lists pM.isList pN.isList hs hu h1;rw[h2]at rc ne;exact⟨.of_refs hab rc,rc,ne⟩
 .have hk:=se hl e;subst hk;have hs:(us.toArray.size != zs.toArray.size)=true:=by
   have l1:=v1.length;have l2:=v2.length;have l3:=p1.length;have l4:=p2.length;simp only[List.size_toArray,bne_iff_ne,ne_eq];omega
  exact⟨.of_refs hab (.lists_lengths pM.isList pN.isList hs hu),.lists_lengths pM.isList pN.isList hs hu,.lists_lengths pM.isList pN.isList hs hu⟩
theorem BX(I:Inv X pins σ H s)(hr:HR X.K H r h){n:Nat}{a:Addr}{ds:List D}(e:Ev.bq h n=some ds)(ha:r[n]?=some a):∃us:List Value,PlainL s.heap a us.toArray:=by
 obtain⟨a',vs,e1,e2,e3⟩:=hr.read e;rw[ha]at e1;cases e1;obtain⟨us,_,pl,_⟩:=I.list e2;exact⟨us,pl⟩
theorem BY(I:Inv X pins σ H s)(hr:HR X.K H r h):∀(n:Nat) (a b:D) (v:V) (k:Bool),RV X.K H r a v->RV X.K H r b v->Ev.gq h n a b=some k->k=true:=by
 intro n;induction n with
 |zero=>intro a b v k _ _ e;cases e
 |succ n ih=>
  have items:∀(x y:List D) (vs:List V) (k:Bool),aG X.K H r x vs->aG X.K H r y vs->Ev.cQ (Ev.gq h n) x y=some k->k=true:=by
   intro x;induction x with
   |nil=>
    intro y vs k h1 h2 e;simp only[aG]at h1;subst h1;cases y with
    |nil=>cases e;rfl
    |cons _ _=>simp only[aG]at h2;obtain⟨_,_,h2,_⟩:=h2;cases h2
   |cons d x XM=>
    intro y vs k h1 h2 e;simp only[aG]at h1;obtain⟨v,w,rfl,h3,h4⟩:=h1;cases y with
    |nil=>simp only[aG]at h2;cases h2
    |cons d' y=>
     simp only[aG]at h2;obtain⟨v',w',e2,h5,h6⟩:=h2;cases e2;simp only[Ev.cQ,Option.bind_eq_bind,Option.bind_eq_some_iff]at e;obtain⟨p,e1,q,e2,e3⟩:=e;cases e3;rw[ih d d' v p h3 h5 e1,XM y w q h4 h6 e2];rfl
  have lt:∀(a:Addr) (vs:List V) (i:Nat) (ds:List D),dP X.K H a vs->r[i]?=some a->Ev.bq h i=some ds->False:=λa vs i ds h1 h2 h3=>by
   obtain⟨us,pl⟩:=BX I hr h3 h2;obtain⟨zs,_,pt,_⟩:=I.tuple h1;exact ne_of_list_tuple pl.isList pt rfl
  intro a b v k h1 h2 e;have s1:=h1.shape;have s2:=h2.shape;clear h1 h2;cases a with
  |aS=>simp only[cj]at s1;cases b with
   |aS=>cases e;rfl
   |ref m=>obtain⟨p,z,_⟩:=s2;rw[s1]at z;cases z
   |tup y=>obtain⟨p,_,z,_⟩:=s2;rw[s1]at z;cases z
   |_=>simp only[cj]at s2;rw[s1]at s2;cases s2
  |bl x=>simp only[cj]at s1;cases b with
   |bl y=>simp only[cj]at s2;rw[s1]at s2;cases s2;cases e;simp
   |ref m=>obtain⟨p,z,_⟩:=s2;rw[s1]at z;cases z
   |tup y=>obtain⟨p,_,z,_⟩:=s2;rw[s1]at z;cases z
   |_=>simp only[cj]at s2;rw[s1]at s2;cases s2
  |int x=>simp only[cj]at s1;cases b with
   |int y=>simp only[cj]at s2;rw[s1]at s2;cases s2;cases e;simp
   |ref m=>obtain⟨p,z,_⟩:=s2;rw[s1]at z;cases z
   |tup y=>obtain⟨p,_,z,_⟩:=s2;rw[s1]at z;cases z
   |_=>simp only[cj]at s2;rw[s1]at s2;cases s2
  |str x=>simp only[cj]at s1;cases b with
   |str y=>
    simp only[cj]at s2;rw[s1]at s2;have:x=y:=yq (by injection s2);subst this;cases e;simp
   |ref m=>obtain⟨p,z,_⟩:=s2;rw[s1]at z;cases z
   |tup y=>obtain⟨p,_,z,_⟩:=s2;rw[s1]at z;cases z
   |_=>simp only[cj]at s2;rw[s1]at s2;cases s2
  |tup x=>
   obtain⟨p,vs,rfl,z,w⟩:=s1;cases b with
   |tup y=>
    obtain⟨p',vs',z',z2,w2⟩:=s2;cases z';rw[I.nj z2 z]at w2;exact items x y vs k w w2 e
   |ref m=>
    obtain⟨p',z',z2⟩:=s2;cases z';obtain⟨ds,e1,_⟩:=Option.map_eq_some_iff.mp e;exact(lt _ _ _ _ z z2 e1).elim
   |_=>cases s2
  |ref i=>
   obtain⟨p,rfl,z⟩:=s1;cases b with
   |ref m=>
    obtain⟨p',z',z2⟩:=s2;cases z';replace e:Ev.jT h (Ev.gq h n) i m=some k:=e;unfold Ev.jT at e;split at e
    .simp only[Option.map_eq_some_iff]at e;obtain⟨_,_,e⟩:=e;exact e.symm
    .rename_i hne;split at e
     .rename_i x y g1 g2;exact absurd (hr.inj _ _ _ _ _ z z2 g1 g2) hne
     .rename_i x y g1 g2;obtain⟨p1,q1,G0,q2,_⟩:=hr.ob _ _ g1;obtain⟨p2,q3,yz,q4,_⟩:=hr.ob _ _ g2;rw[z]at q1;cases q1;rw[z2]at q3;cases q3;exact absurd rfl (oQ I q2 q4)
     .rename_i x y g1 g2;obtain⟨p1,q1,G0,q2,_⟩:=hr.ob _ _ g1;obtain⟨p2,q3,yz,q4,_⟩:=hr.ob _ _ g2;rw[z]at q1;cases q1;rw[z2]at q3;cases q3;exact absurd rfl (oQ I q4 q2)
     .cases e
   |tup y=>
    obtain⟨p',vs',z',z2,w2⟩:=s2;cases z';obtain⟨ds,e1,_⟩:=Option.map_eq_some_iff.mp e;exact(lt _ _ _ _ z2 z e1).elim
   |_=>cases s2
theorem Jj{n:Nat}{A:Around}{x y:List D}{a b:Addr}{vs ws:List V}{k:Bool}(I:Inv X pins σ H s)(hr:HR X.K H r h)(hu:A.units<cLine)(q1:dP X.K H a vs)(q2:dP X.K H b ws)(v1:aG X.K H r x vs)(v2:aG X.K H r y ws)
  (ih:∀a b va vb u w k,RV X.K H r a va->RV X.K H r b vb->RelV va u->RelV vb w->Ev.gq h n a b=some k->vJ A.in1 s u w k) (e:Ev.cQ (Ev.gq h n) x y=some k):vJ A s (.ref a) (.ref b) k:=by
 obtain⟨us,p1,pM,_⟩:=I.tuple q1;obtain⟨zs,p2,pN,_⟩:=I.tuple q2;have l1:=v1.length;have l2:=v2.length;have l3:=p1.length;have l4:=p2.length;have both:RcAt A s (.ref a) (.ref b) k/\RcNeAt A s (.ref a) (.ref b) (!k):=by
  by_cases hl:x.length=y.length
  .obtain⟨e',h1,h2,h3⟩:=t8 v1 v2 p1 p2 ih hl e;have rc:=RcAt.tuples pM pN hu h1;have ne:=RcNeAt.tuples pM pN hu h1;have hs:us.toArray.size=zs.toArray.size:=by simpa using h3
   have hb:((List.range (min us.toArray.size zs.toArray.size)).all e'&&us.toArray.size==zs.toArray.size)=k:=by
    rw[<-hs,Nat.min_self,h2];simp
   rw[hb]at rc ne;exact⟨rc,ne⟩
  .have hk:=se hl e;subst hk;have hcl:∃e':Nat->Bool,∀j (h1:j<us.toArray.size) (h2:j<zs.toArray.size),EqAt A.in1 s us.toArray[j] zs.toArray[j] (e' j):=by
    obtain⟨e',h1⟩:=yI e;refine⟨e',λj g1 g2=>?_⟩;have XI:j<us.length:=by simpa using g1
    have XJ:j<zs.length:=by simpa using g2
    have ha:x[j]?=some x[j]:=List.getElem?_eq_getElem (by omega);have hb:y[j]?=some y[j]:=List.getElem?_eq_getElem (by omega);obtain⟨va,a1,a2⟩:=v1.get ha;obtain⟨vb,b1,b2⟩:=v2.get hb;obtain⟨u,a3,a4⟩:=p1.get a1;obtain⟨w,b3,b4⟩:=p2.get b1;have eu:us.toArray[j]=u:=by
     have:=(List.getElem?_eq_some_iff.mp a3).2;simpa using this
    have ew:zs.toArray[j]=w:=by
     have:=(List.getElem?_eq_some_iff.mp b3).2;simpa using this
    rw[eu,ew];exact(ih _ _ _ _ _ _ _ a2 b2 a4 b4 (h1 j _ _ ha hb)).eq
   obtain⟨e',h1⟩:=hcl;have rc:=RcAt.tuples pM pN hu h1;have ne:=RcNeAt.tuples pM pN hu h1;have hs:(us.toArray.size==zs.toArray.size)=false:=by
    simp only[List.size_toArray,beq_eq_false_iff_ne,ne_eq];omega
   rw[hs,Bool.and_false]at rc ne;exact⟨rc,ne⟩
 by_cases hab:a=b
 .subst hab;rw[I.nj q2 q1]at v2;have hk:k=true:=BY I hr (n+1) (.tup x) (.tup y) (.ref a) k ⟨a,vs,rfl,q1,v1⟩ ⟨a,vs,rfl,q1,v2⟩ e;subst hk;exact⟨.same _,both.1,both.2⟩
 .exact⟨.of_refs hab both.1,both.1,both.2⟩
end
end Sm
set_option maxRecDepth 100000
namespace Sm
open PySem PySem.Spec PyProof.Rows L2 PySem.SeqAt
open Ev (D O Hh Fr R aO E Es Eo T S Ss Fl Src bU bN TY BI ME)
section
variable{X:Cx}{pins:List (Addr×Obj)}{σ:L2.St}{H:Hp}{s:Shared}{r:List Addr}{h:Hh}
theorem zU(I:Inv X pins σ H s)(hr:HR X.K H r h):∀(n:Nat) (A:Around) (a b:D) (va vb:V) (u w:Value) (k:Bool),A.units+n<cLine->RV X.K H r a va->RV X.K H r b vb->RelV va u->RelV vb w->Ev.gq h n a b=some k->vJ A s u w k:=by
 intro n;induction n with
 |zero=>intro A a b va vb u w k _ _ _ _ _ e;cases e
 |succ n ih=>
  intro A a b va vb u w k hu h1 h2 r1 r2 e;have bZ:A.units<cLine:=by omega
  have ih':∀a b va vb u w k,RV X.K H r a va->RV X.K H r b vb->RelV va u->RelV vb w->Ev.gq h n a b=some k->vJ A.in1 s u w k:=λa b va vb u w k=>ih A.in1 a b va vb u w k (by show A.units+1+n<cLine;omega);have s1:=h1.shape;have s2:=h2.shape;have lst:∀{i:Nat} {v:V} {u:Value} {ds:List D},cj X.K H r (.ref i) v->RelV v u->Ev.bq h i=some ds->∃p us,u=.ref p/\PlainL s.heap p (List.toArray us):=λ{i v u ds} hv ru el=>by
   obtain⟨p,rfl,z⟩:=hv;cases ru;obtain⟨us,pl⟩:=BX I hr el z;exact⟨p,us,rfl,pl⟩
  have tup:∀{ds:List D} {v:V} {u:Value},cj X.K H r (.tup ds) v->RelV v u->∃p us,u=.ref p/\s.heap.IsTuple p (List.toArray us):=λ{ds v u} hv ru=>by
   obtain⟨p,vs,rfl,z,_⟩:=hv;cases ru;obtain⟨us,_,pt,_⟩:=I.tuple z;exact⟨p,us,rfl,pt⟩
  cases a with
  |aS=>
   simp only[cj]at s1;subst s1;cases r1;cases b with
   |aS=>simp only[cj]at s2;subst s2;cases r2;cases e;exact⟨.same _,.none_none,.none_none⟩
   |bl y=>simp only[cj]at s2;subst s2;cases r2;cases e;exact⟨.none_bool _,.none_bool _,.none_bool _⟩
   |int y=>simp only[cj]at s2;subst s2;obtain⟨t,rfl⟩:=r2;cases e;exact⟨.none_int _ _,.none_int _ _,.none_int _ _⟩
   |str y=>simp only[cj]at s2;subst s2;obtain⟨t,rfl⟩:=r2;cases e;exact⟨.none_str _ _,.none_str _ _,.none_str _ _⟩
   |tup y=>obtain⟨p,us,rfl,pt⟩:=tup s2 r2;cases e;exact⟨.none_tuple pt bZ,.none_tuple pt bZ,.none_tuple pt bZ⟩
   |ref m=>
    obtain⟨ds,e1,rfl⟩:=Option.map_eq_some_iff.mp e;obtain⟨p,us,rfl,pl⟩:=lst s2 r2 e1;exact⟨.none_list pl.isList bZ,.none_list pl.isList bZ,.none_list pl.isList bZ⟩
  |bl x=>
   simp only[cj]at s1;subst s1;cases r1;cases b with
   |aS=>simp only[cj]at s2;subst s2;cases r2;cases e;exact⟨.bool_none _,.bool_none _,.bool_none _⟩
   |bl y=>simp only[cj]at s2;subst s2;cases r2;cases e;exact⟨.bool_bool _ _,.bool_bool _ _,.bool_bool _ _⟩
   |int y=>simp only[cj]at s2;subst s2;obtain⟨t,rfl⟩:=r2;cases e;exact⟨.bool_int _ _ _,.bool_int _ _ _,.bool_int _ _ _⟩
   |str y=>simp only[cj]at s2;subst s2;obtain⟨t,rfl⟩:=r2;cases e;exact⟨.bool_str _ _ _,.bool_str _ _ _,.bool_str _ _ _⟩
   |tup y=>obtain⟨p,us,rfl,pt⟩:=tup s2 r2;cases e;exact⟨.bool_tuple _ pt bZ,.bool_tuple _ pt bZ,.bool_tuple _ pt bZ⟩
   |ref m=>
    obtain⟨ds,e1,rfl⟩:=Option.map_eq_some_iff.mp e;obtain⟨p,us,rfl,pl⟩:=lst s2 r2 e1;exact⟨.bool_list _ pl.isList bZ,.bool_list _ pl.isList bZ,.bool_list _ pl.isList bZ⟩
  |int x=>
   simp only[cj]at s1;subst s1;obtain⟨t0,rfl⟩:=r1;cases b with
   |aS=>simp only[cj]at s2;subst s2;cases r2;cases e;exact⟨.int_none _ _,.int_none _ _,.int_none _ _⟩
   |bl y=>simp only[cj]at s2;subst s2;cases r2;cases e;exact⟨.int_bool _ _ _,.int_bool _ _ _,.int_bool _ _ _⟩
   |int y=>simp only[cj]at s2;subst s2;obtain⟨t,rfl⟩:=r2;cases e;exact⟨.int_int _ _ _ _,.int_int _ _ _ _,.int_int _ _ _ _⟩
   |str y=>simp only[cj]at s2;subst s2;obtain⟨t,rfl⟩:=r2;cases e;exact⟨.int_str _ _ _ _,.int_str _ _ _ _,.int_str _ _ _ _⟩
   |tup y=>obtain⟨p,us,rfl,pt⟩:=tup s2 r2;cases e;exact⟨.int_tuple _ _ pt bZ,.int_tuple _ _ pt bZ,.int_tuple _ _ pt bZ⟩
   |ref m=>
    obtain⟨ds,e1,rfl⟩:=Option.map_eq_some_iff.mp e;obtain⟨p,us,rfl,pl⟩:=lst s2 r2 e1;exact⟨.int_list _ _ pl.isList bZ,.int_list _ _ pl.isList bZ,.int_list _ _ pl.isList bZ⟩
  |str x=>
   simp only[cj]at s1;subst s1;obtain⟨t0,rfl⟩:=r1;cases b with
   |aS=>simp only[cj]at s2;subst s2;cases r2;cases e;exact⟨.str_none _ _,.str_none _ _,.str_none _ _⟩
   |bl y=>simp only[cj]at s2;subst s2;cases r2;cases e;exact⟨.str_bool _ _ _,.str_bool _ _ _,.str_bool _ _ _⟩
   |int y=>simp only[cj]at s2;subst s2;obtain⟨t,rfl⟩:=r2;cases e;exact⟨.str_int _ _ _ _,.str_int _ _ _ _,.str_int _ _ _ _⟩
   |str y=>
    simp only[cj]at s2;subst s2;obtain⟨t,rfl⟩:=r2;cases e;rw[<-Ji];exact⟨.str_str _ _ _ _,.str_str _ _ _ _,.str_str _ _ _ _⟩
   |tup y=>obtain⟨p,us,rfl,pt⟩:=tup s2 r2;cases e;exact⟨.str_tuple _ _ pt bZ,.str_tuple _ _ pt bZ,.str_tuple _ _ pt bZ⟩
   |ref m=>
    obtain⟨ds,e1,rfl⟩:=Option.map_eq_some_iff.mp e;obtain⟨p,us,rfl,pl⟩:=lst s2 r2 e1;exact⟨.str_list _ _ pl.isList bZ,.str_list _ _ pl.isList bZ,.str_list _ _ pl.isList bZ⟩
  |tup x=>
   cases b with
   |tup y=>
    obtain⟨p,vs,rfl,z,w1⟩:=s1;obtain⟨p',vs',rfl,z',w2⟩:=s2;cases r1;cases r2;exact Jj I hr bZ z z' w1 w2 ih' e
   |aS=>obtain⟨p,us,rfl,pt⟩:=tup s1 r1;simp only[cj]at s2;subst s2;cases r2;cases e;exact⟨.tuple_none pt bZ,.tuple_none pt bZ,.tuple_none pt bZ⟩
   |bl y=>obtain⟨p,us,rfl,pt⟩:=tup s1 r1;simp only[cj]at s2;subst s2;cases r2;cases e;exact⟨.tuple_bool _ pt bZ,.tuple_bool _ pt bZ,.tuple_bool _ pt bZ⟩
   |int y=>obtain⟨p,us,rfl,pt⟩:=tup s1 r1;simp only[cj]at s2;subst s2;obtain⟨t,rfl⟩:=r2;cases e;exact⟨.tuple_int _ _ pt bZ,.tuple_int _ _ pt bZ,.tuple_int _ _ pt bZ⟩
   |str y=>obtain⟨p,us,rfl,pt⟩:=tup s1 r1;simp only[cj]at s2;subst s2;obtain⟨t,rfl⟩:=r2;cases e;exact⟨.tuple_str _ _ pt bZ,.tuple_str _ _ pt bZ,.tuple_str _ _ pt bZ⟩
   |ref m=>
    obtain⟨p,us,rfl,pt⟩:=tup s1 r1;obtain⟨ds,e1,rfl⟩:=Option.map_eq_some_iff.mp e;obtain⟨p',us',rfl,pl⟩:=lst s2 r2 e1;exact⟨.tuple_list pt pl.isList bZ,.tuple_list pt pl.isList bZ,.tuple_list pt pl.isList bZ⟩
  |ref i=>
   cases b with
   |ref m=>
    replace e:Ev.jT h (Ev.gq h n) i m=some k:=e;unfold Ev.jT at e;split at e
    .rename_i XN;subst XN;simp only[Option.map_eq_some_iff]at e;obtain⟨ds,e1,rfl⟩:=e;obtain⟨p,us,rfl,pl⟩:=lst s1 r1 e1;obtain⟨p0,rfl,z⟩:=s1;obtain⟨p1,rfl,z'⟩:=s2;rw[z]at z';cases z';cases r1;cases r2;have q:(List.range (List.toArray us).size).all (λ_=>true)=true:=by simp
     have rc:=RcAt.lists (A:=A) (e:=λ_=>true) pl.isList pl.isList rfl bZ λj _ _=>EqAt.same _;have ne:=RcNeAt.lists (A:=A) (e:=λ_=>true) pl.isList pl.isList rfl bZ λj _ _=>EqAt.same _;rw[q]at rc ne;exact⟨.same _,rc,ne⟩
    .rename_i hne;obtain⟨p0,rfl,z⟩:=s1;obtain⟨p1,rfl,z'⟩:=s2;cases r1;cases r2;split at e
     .rename_i x y g1 g2;obtain⟨q0,q1,G0,q2,q3⟩:=hr.ob _ _ g1;obtain⟨q4,q5,yz,q6,q7⟩:=hr.ob _ _ g2;rw[z]at q1;cases q1;rw[z']at q5;cases q5;exact qc I bZ (.of q2) (.of q6) q3 q7 (λw=>hne (hr.inj _ _ _ _ _ z (by rw[w];exact z') g1 g2)) ih' e
     .rename_i x y g1 g2;obtain⟨q0,q1,G0,q2,q3⟩:=hr.ob _ _ g1;obtain⟨q4,q5,yz,q6,q7⟩:=hr.ob _ _ g2;rw[z]at q1;cases q1;rw[z']at q5;cases q5;exact qc I bZ (G1 q2) (.of q6) q3 q7 (oQ I q2 q6) ih' e
     .rename_i x y g1 g2;obtain⟨q0,q1,G0,q2,q3⟩:=hr.ob _ _ g1;obtain⟨q4,q5,yz,q6,q7⟩:=hr.ob _ _ g2;rw[z]at q1;cases q1;rw[z']at q5;cases q5;exact qc I bZ (.of q2) (G1 q6) q3 q7 (oQ I q6 q2).symm ih' e
     .cases e
   |aS=>obtain⟨ds,e1,rfl⟩:=Option.map_eq_some_iff.mp e;obtain⟨p,us,rfl,pl⟩:=lst s1 r1 e1;simp only[cj]at s2;subst s2;cases r2;exact⟨.list_none pl.isList bZ,.list_none pl.isList bZ,.list_none pl.isList bZ⟩
   |bl y=>obtain⟨ds,e1,rfl⟩:=Option.map_eq_some_iff.mp e;obtain⟨p,us,rfl,pl⟩:=lst s1 r1 e1;simp only[cj]at s2;subst s2;cases r2;exact⟨.list_bool _ pl.isList bZ,.list_bool _ pl.isList bZ,.list_bool _ pl.isList bZ⟩
   |int y=>obtain⟨ds,e1,rfl⟩:=Option.map_eq_some_iff.mp e;obtain⟨p,us,rfl,pl⟩:=lst s1 r1 e1;simp only[cj]at s2;subst s2;obtain⟨t,rfl⟩:=r2;exact⟨.list_int _ _ pl.isList bZ,.list_int _ _ pl.isList bZ,.list_int _ _ pl.isList bZ⟩
   |str y=>obtain⟨ds,e1,rfl⟩:=Option.map_eq_some_iff.mp e;obtain⟨p,us,rfl,pl⟩:=lst s1 r1 e1;simp only[cj]at s2;subst s2;obtain⟨t,rfl⟩:=r2;exact⟨.list_str _ _ pl.isList bZ,.list_str _ _ pl.isList bZ,.list_str _ _ pl.isList bZ⟩
   |tup y=>
    obtain⟨ds,e1,rfl⟩:=Option.map_eq_some_iff.mp e;obtain⟨p,us,rfl,pl⟩:=lst s1 r1 e1;obtain⟨p',us',rfl,pt⟩:=tup s2 r2;exact⟨.list_tuple pl.isList pt bZ,.list_tuple pl.isList pt bZ,.list_tuple pl.isList pt bZ⟩
where
 G1 {K:PySem.W.Frag} {H:Hp} {a:Addr} {vs:List V} (q:zM K H a vs):fF K H a vs:=by
  rcases q with ⟨ob,e2⟩|e2
  .exact .inl (.inr ⟨ob,e2⟩)
  .exact .inr e2
end
theorem Good.units{G:Tb}{n:Nat}{sc:Scope}{N:List Str}{df:Bool}{X:Cx}(g:Good G n sc N df X):X.A.units+1+Ev.deep<cLine:=by
 have:=g.room.un;have:Ev.deep=20:=rfl;omega
section
variable{G:Tb}{n:Nat}{sc:Scope}{N:List Str}{df:Bool}{X:Cx}
theorem oR{pins:List (Addr×Obj)}{σ:L2.St}{H:Hp}{s:Shared}{Q:VK}{r:List Addr}{h:Hh}{k:Bool}(I:Inv X pins σ H s)(hr:HR X.K H r h)(q:Res X.K r H h (.bl k) Q):EP X pins σ Q (.bool k) s:=
 ⟨.bl k,H,I,rfl,q.here rfl hr⟩
theorem G2(g:Good G n sc N df X):dG X (compareOp .Eq) (gW X.K (gr .eq)):=by
 intro pins s σ H x y v u Q I rx ry q;obtain⟨r,h,a,b,d,h',hr,v1,v2,e,q⟩:=q;obtain⟨k,e1,rfl,rfl⟩:=iz e;have:=g.units;exact(zU I hr Ev.deep X.A a b x y v u k (by omega) v1 v2 rx ry e1).rc _ _ _ _ (oR I hr q)
theorem QV(g:Good G n sc N df X):dG X (compareOp .NotEq) (gW X.K (gr .ne)):=by
 intro pins s σ H x y v u Q I rx ry q;obtain⟨r,h,a,b,d,h',hr,v1,v2,e,q⟩:=q;obtain⟨k,e1,rfl,rfl⟩:=iz e;have:=g.units
 delta Ev.cop at e1;dsimp only at e1;simp only[Option.map_eq_some_iff]at e1
 obtain⟨k',e2,rfl⟩:=e1;exact(zU I hr Ev.deep X.A a b x y v u k' (by omega) v1 v2 rx ry e2).ne _ _ _ _ (oR I hr q)
theorem BZ{op:CmpOp}{o:bN}{p:Int->Int->Bool}(ho:dG X (compareOp op) (vd λi j=>.bl (p i j)))(hc:∀a b h k,Ev.cop o a b h=some k->∃i j,a=.int i/\b=.int j/\k=p i j):dG X (compareOp op) (gW X.K (gr o)):=by
 intro pins s σ H x y v u Q I rx ry q;obtain⟨r,h,a,b,d,h',hr,v1,v2,e,q⟩:=q;obtain⟨k,e1,rfl,rfl⟩:=iz e;obtain⟨i,j,rfl,rfl,rfl⟩:=hc _ _ _ _ e1;exact ho pins s σ H x y v u Q I rx ry ⟨i,j,v1,v2,q.here rfl hr⟩
theorem QW:dG X (compareOp .Lt) (gW X.K (gr .lt)):=BZ Qq λa b h k e=>by
 cases a<;>cases b <;> (delta Ev.cop at e;dsimp only at e)<;>first | (cases e;exact⟨_,_,rfl,rfl,rfl⟩)|cases e
theorem G3:dG X (compareOp .Gt) (gW X.K (gr .gt)):=BZ Qs λa b h k e=>by
 cases a<;>cases b <;> (delta Ev.cop at e;dsimp only at e)<;>first | (cases e;exact⟨_,_,rfl,rfl,rfl⟩)|cases e
theorem MQ:dG X (compareOp .Is) (gW X.K (gr .yo)):=by
 intro pins s σ H x y v u Q I rx ry q;obtain⟨r,h,a,b,d,h',hr,v1,v2,e,q⟩:=q;obtain⟨k,e1,rfl,rfl⟩:=iz e;cases b with
 |aS=>
  refine LD pins s σ H x y v u Q I rx ry ⟨v2,?_⟩;have:=v1.shape;cases a with
  |aS=>simp only[cj]at this;subst this;cases e1;exact q.here rfl hr
  |bl _=>simp only[cj]at this;subst this;cases e1;exact q.here rfl hr
  |int _=>simp only[cj]at this;subst this;cases e1;exact q.here rfl hr
  |str _=>simp only[cj]at this;subst this;cases e1;exact q.here rfl hr
  |ref _=>obtain⟨p,rfl,_⟩:=this;cases e1;exact q.here rfl hr
  |tup _=>obtain⟨p,_,rfl,_⟩:=this;cases e1;exact q.here rfl hr
 |_=>cases a<;>cases e1
theorem Jk:dG X (compareOp .IsNot) (gW X.K (gr .rS)):=by
 intro pins s σ H x y v u Q I rx ry q;obtain⟨r,h,a,b,d,h',hr,v1,v2,e,q⟩:=q;obtain⟨k,e1,rfl,rfl⟩:=iz e;cases b with
 |aS=>
  refine Iq pins s σ H x y v u Q I rx ry ⟨v2,?_⟩;have:=v1.shape;cases a with
  |aS=>simp only[cj]at this;subst this;cases e1;exact q.here rfl hr
  |bl _=>simp only[cj]at this;subst this;cases e1;exact q.here rfl hr
  |int _=>simp only[cj]at this;subst this;cases e1;exact q.here rfl hr
  |str _=>simp only[cj]at this;subst this;cases e1;exact q.here rfl hr
  |ref _=>obtain⟨p,rfl,_⟩:=this;cases e1;exact q.here rfl hr
  |tup _=>obtain⟨p,_,rfl,_⟩:=this;cases e1;exact q.here rfl hr
 |_=>cases a<;>cases e1
end
end Sm
set_option maxRecDepth 100000
namespace Sm
open PySem PySem.Spec PyProof.Rows L2 PySem.SeqAt
open Ev (D O Hh Fr R aO E Es Eo T S Ss Fl Src bU bN TY BI ME)
theorem yJ{h:Hh}{x:D}:∀{ys:List D}{k:Bool},Ev.mem h x ys=some k->∃e:Nat->Bool,(∀(j:Nat) y,ys[j]?=some y->Ev.gq h Ev.deep y x=some (e j))/\(List.range ys.length).any e=k
 |[],_,e=>⟨λ_=>true,(λj y h=>by simp at h),by cases e;simp⟩
 |y :: ys,k,e=>by
  simp only[Ev.mem,Option.bind_eq_bind,Option.bind_eq_some_iff]at e;obtain⟨p,e1,q,e2,e3⟩:=e;cases e3;obtain⟨e,h1,h2⟩:=yJ e2;refine⟨λj=>match j with|0=>p|j+1=>e j,λj y' g=>?_,?_⟩
  .cases j with
   |zero=>simp at g;subst g;exact e1
   |succ j=>exact h1 j y' (by simpa using g)
  .rw[List.length_cons,List.range_succ_eq_map,List.any_cons,List.any_map,<-h2];rfl
section
variable{X:Cx}{pins:List (Addr×Obj)}{σ:L2.St}{H:Hp}{s:Shared}{r:List Addr}{h:Hh}
open Classical in
theorem yK(I:Inv X pins σ H s)(hr:HR X.K H r h){A:Around}(hu:A.units+1+Ev.deep<cLine){x:D}{vx:V}{ux:Value}(v1:RV X.K H r x vx)(rx:RelV vx ux){ys:List D}{vs:List V}{us:List Value}(v2:aG X.K H r ys vs)(p2:Vals vs us){k:Bool}(e:Ev.mem h x ys=some k) :
  ∃f:Value->Bool,(∀y,y∈us.toArray->EqAt A.in1 s y ux (f y))/\us.toArray.any f=k:=by
 obtain⟨e',h1,h2⟩:=yJ e;have l1:=v2.length;have l2:=p2.length;have at':∀(j:Nat) (hj:j<us.length),EqAt A.in1 s us[j] ux (e' j):=λj hj=>by
  have ha:ys[j]?=some ys[j]:=List.getElem?_eq_getElem (by omega);obtain⟨va,a1,a2⟩:=v2.get ha;obtain⟨u,a3,a4⟩:=p2.get a1;have eu:us[j]=u:=(List.getElem?_eq_some_iff.mp a3).2;rw[eu];exact(zU I hr Ev.deep A.in1 _ _ _ _ _ _ _ (by show A.units+1+Ev.deep<cLine;exact hu) a2 v1 a4 rx (h1 j _ ha)).eq
 refine⟨λy=>decide (∃j,∃hj:j<us.length,us[j]=y/\e' j=true),λy hy=>?_,?_⟩
 .by_cases hx:∃j,∃hj:j<us.length,us[j]=y/\e' j=true
  .obtain⟨j,hj,rfl,ej⟩:=hx;have q:=at' j hj;rw[ej]at q;have:decide (∃j',∃hj':j'<us.length,us[j']=us[j]/\e' j'=true)=true:=decide_eq_true ⟨j,hj,rfl,ej⟩;show EqAt A.in1 s us[j] ux (decide (∃j',∃hj':j'<us.length,us[j']=us[j]/\e' j'=true));rw[this];exact q
  .show EqAt A.in1 s y ux (decide (∃j',∃hj':j'<us.length,us[j']=y/\e' j'=true));rw[decide_eq_false hx];have hy':y∈us:=by simpa using hy
   obtain⟨j,hj,rfl⟩:=List.getElem_of_mem hy';have q:=at' j hj;have:e' j=false:=by
    cases z:e' j with
    |false=>rfl
    |true=>exact absurd ⟨j,hj,rfl,z⟩ hx
   rw[this]at q;exact q
 .rw[<-h2,Bool.eq_iff_iff,Array.any_eq_true',List.any_eq_true];constructor
  .rintro⟨y,hy,hd⟩;obtain⟨j,hj,_,ej⟩:=of_decide_eq_true hd;exact⟨j,List.mem_range.mpr (by omega),ej⟩
  .rintro⟨j,hj,ej⟩;have hj':j<us.length:=by have:=List.mem_range.mp hj;omega
   exact⟨us[j],by simp,decide_eq_true ⟨j,hj',rfl,ej⟩⟩
end
section
variable{G:Tb}{n:Nat}{sc:Scope}{N:List Str}{df:Bool}{X:Cx}
theorem in_of(g:Good G n sc N df X){pins:List (Addr×Obj)}{σ:L2.St}{H:Hp}{s:Shared}{r:List Addr}{h:Hh}(I:Inv X pins σ H s)(hr:HR X.K H r h){a b:D}{x y:V}{v u:Value}{k:Bool}(v1:RV X.K H r a x)(v2:RV X.K H r b y)(rx:RelV x v)(ry:RelV y u)(e:Ev.isin a b h=some k) :
  (∀Q:Value->Shared->Prop,∀E:Value->Shared->Prop,Q (.bool k) s->wpAny (model X.prog X.w) X.A (compareOp .In v u) Q E s)/\(∀Q:Value->Shared->Prop,∀E:Value->Shared->Prop,Q (.bool (!k)) s->wpAny (model X.prog X.w) X.A (compareOp .NotIn v u) Q E s):=by
 have hu:=g.units;cases b with
 |str l=>
  cases a with
  |str c=>
   have s1:=v1.shape;have s2:=v2.shape;simp only[cj]at s1 s2;subst s1 s2;obtain⟨t,rfl⟩:=rx;obtain⟨t',rfl⟩:=ry
   match c,e with
   |[c],e=>
    cases e;have q:(!(Builtin.Str.occurrences (aW l) (aW [c]) 0 (aW l).length 1).isEmpty)=l.contains c:=by
     have:=PySem.StrLaws.found_one (aW l) c;rw[show(aW [c])=⟨#[c]⟩from rfl,this,Bool.eq_iff_iff];have e1:l.contains c=true↔c∈l:=by simp
     rw[e1];exact⟨λz=>by simpa[aW]using of_decide_eq_true z,λz=>decide_eq_true (by simpa[aW]using z)⟩
    refine⟨λQ E hq=>in_str (by rw[q];exact hq),λQ E hq=>notIn_str (by rw[q];exact hq)⟩
   |[],e=>cases e
   |_ :: _ :: _,e=>cases e
  |_=>cases e
 |tup ys=>
  obtain⟨p,vs,rfl,z,w⟩:=v2.shape;cases ry;obtain⟨us,pv,pt,_⟩:=I.tuple z;obtain⟨f,f1,f2⟩:=yK I hr hu v1 rx w pv e;refine⟨λQ E hq=>in_tupleAt f pt f1 (by rw[f2];exact hq),λQ E hq=>notIn_tupleAt f pt f1 (by rw[f2];exact hq)⟩
 |ref i=>
  simp only[Ev.isin,Option.bind_eq_some_iff]at e;obtain⟨ds,e1,e2⟩:=e;obtain⟨p,rfl,z⟩:=v2.shape;cases ry;obtain⟨p',vs,z',q1,w⟩:=hr.read e1;rw[z]at z';cases z';obtain⟨us,pv,pl,_⟩:=I.list q1;obtain⟨f,f1,f2⟩:=yK I hr hu v1 rx w pv e2;refine⟨λQ E hq=>in_listAt f pl.isList f1 (by rw[f2];exact hq),λQ E hq=>notIn_listAt f pl.isList f1 (by rw[f2];exact hq)⟩
 |_=>cases e
theorem G4(g:Good G n sc N df X):dG X (compareOp .In) (gW X.K (gr .isin)):=by
 intro pins s σ H x y v u Q I rx ry q;obtain⟨r,h,a,b,d,h',hr,v1,v2,e,q⟩:=q;obtain⟨k,e1,rfl,rfl⟩:=iz e;exact(in_of g I hr v1 v2 rx ry (show Ev.isin a b h'=some k by cases a<;>cases b<;>exact e1)).1 _ _ (oR I hr q)
theorem Ej(g:Good G n sc N df X):dG X (compareOp .NotIn) (gW X.K (gr .g7)):=by
 intro pins s σ H x y v u Q I rx ry q;obtain⟨r,h,a,b,d,h',hr,v1,v2,e,q⟩:=q;obtain⟨k,e1,rfl,rfl⟩:=iz e;have e2:(Ev.isin a b h').map (!·)=some k:=by cases a<;>cases b<;>exact e1
 simp only[Option.map_eq_some_iff]at e2;obtain⟨k',e3,rfl⟩:=e2;exact(in_of g I hr v1 v2 rx ry e3).2 _ _ (oR I hr q)
theorem sq(a b:List Nat):aW a++aW b=aW (a++b):=by
 show Str.append (aW a) (aW b)=_;simp[Str.append,aW]
theorem Jl{pins:List (Addr×Obj)}{σ:L2.St}{H:Hp}{s:Shared}{Q:Value->Shared->Prop}{E:Value->Shared->Prop}(I:Inv X pins σ H s){a b:Addr}{ys:List V}(h1:dP X.K H a [])(h2:dP X.K H b ys)(q:Q (.ref b) s):wpAny (model X.prog X.w) X.A (binaryOp .Add (.ref a) (.ref b)) Q E s:=by
 obtain⟨us,p1,XO,_⟩:=I.tuple h1;obtain⟨zs,p2,XQ,_⟩:=I.tuple h2;cases p1;obtain⟨⟨cls,dd,data,sl⟩,ho,hc,n,hd⟩:=id XO;obtain⟨⟨VH,dd2,data2,sl2⟩,ho2,hc2,n2,hd2⟩:=id XQ;simp only at hc hd hc2 hd2;subst hc hd hc2 hd2;exact concat_meets ⟨_,ho,rfl⟩ ⟨_,ho2,rfl⟩ noFill_tuple_add seq_tuple_add PySem.F.slot_tuple_add PySem.F.entry_tuple_add (PySem.F.args_tuple_add_2 _ _)
  (tuple_addW0 a b _ _ n n2 dd dd2 sl sl2 (by simp)) ⟨ho,ho2,q⟩
theorem MR:dG X (binaryOp .Add) (gW X.K (Ev.bS .add)):=by
 intro pins s σ H x y v u Q I rx ry q;obtain⟨r,h,a,b,d,h',hr,v1,v2,e,q⟩:=q;have s1:=v1.shape;have s2:=v2.shape;cases a with
 |int i=>cases b with
  |int j=>cases e;exact Ly pins s σ H x y v u Q I rx ry ⟨i,j,s1,s2,q.here rfl hr⟩
  |_=>cases e
 |str i=>cases b with
  |str j=>
   delta Ev.bS at e;dsimp only at e
   split at e
   .rename_i hz;cases e;rw[gU]at hz;refine zA pins s σ H x y v u Q I rx ry ⟨aW i,aW j,s1,s2,by rw[dc,dc];exact hz,?_⟩;rw[sq];exact q.here ⟨rfl,by rw[List.length_append];exact hz⟩ hr
   .cases e
  |_=>cases e
 |tup i=>cases b with
  |tup j=>
   delta Ev.bS at e;dsimp only at e
   split at e
   .rename_i hz;cases e;rw[gU]at hz;obtain⟨pa,vs,rfl,z1,w1⟩:=s1;obtain⟨pb,ws,rfl,z2,w2⟩:=s2;have l1:=w1.length;have l2:=w2.length;cases vs with
    |nil=>
     cases rx;cases ry;refine Jl I z1 z2 ⟨.ref pb,H,I,rfl,q.here ?_ hr⟩;have:i=[]:=by cases i with|nil=>rfl|cons _ _=>simp at l1
     subst this;exact⟨pb,ws,rfl,z2,by simpa using w2⟩
    |cons v0 vs=>
     refine IC pins s σ H _ _ v u Q I rx ry ⟨pa,pb,v0 :: vs,ws,rfl,rfl,z1,z2,by simp,by rw[l1,l2];exact hz,λhw=>?_,λhw p hp=>?_⟩
     .subst hw;have:j=[]:=by cases j with|nil=>rfl|cons _ _=>simp at l2
      subst this;exact q.here ⟨pa,v0 :: vs,rfl,z1,by simpa using w1⟩ hr
     .exact q.tup (w1.append w2) hr hp
   .cases e
  |_=>cases e
 |ref i=>cases b with
  |ref j=>
   delta Ev.bS at e;dsimp only at e
   split at e
   .rename_i ds es e1 e2;obtain⟨pa,rfl,z1⟩:=s1;obtain⟨pb,rfl,z2⟩:=s2;cases rx;cases ry;obtain⟨p1,g1,vs,g2,g3⟩:=hr.ob _ _ e1;obtain⟨p2,k1,ws,k2,k3⟩:=hr.ob _ _ e2;rw[z1]at g1;cases g1;rw[z2]at k1;cases k1;obtain⟨hz,q2⟩:=q.lst e (g3.append k3) hr;exact LS pins s σ H (.ref pa) (.ref pb) _ _ Q I rfl rfl ⟨_,_,vs,ws,rfl,rfl,g2,k2,by rw[List.length_append]at hz;exact hz,q2⟩
   .cases e
  |_=>cases e
 |_=>cases b<;>cases e
theorem MS:dG X (binaryOp .Sub) (gW X.K (Ev.bS .sub)):=by
 intro pins s σ H x y v u Q I rx ry q;obtain⟨r,h,a,b,d,h',hr,v1,v2,e,q⟩:=q;cases a with
 |int i=>cases b with
  |int j=>cases e;exact Lz pins s σ H x y v u Q I rx ry ⟨i,j,v1,v2,q.here rfl hr⟩
  |_=>cases e
 |_=>cases b<;>cases e
theorem Jm:dG X (binaryOp .FloorDiv) (gW X.K (Ev.bS .fdiv)):=by
 intro pins s σ H x y v u Q I rx ry q;obtain⟨r,h,a,b,d,h',hr,v1,v2,e,q⟩:=q;cases a with
 |int i=>cases b with
  |int j=>
   delta Ev.bS at e;dsimp only at e
   split at e
   .rename_i hz;cases e;exact Ip pins s σ H x y v u Q I rx ry ⟨i,j,v1,v2,hz,q.here rfl hr⟩
   .cases e
  |_=>cases e
 |_=>cases b<;>cases e
theorem MT:dG X (binaryOp .Mod) (gW X.K (Ev.bS .mod)):=by
 intro pins s σ H x y v u Q I rx ry q;obtain⟨r,h,a,b,d,h',hr,v1,v2,e,q⟩:=q;cases a with
 |int i=>cases b with
  |int j=>
   delta Ev.bS at e;dsimp only at e
   split at e
   .rename_i hz;cases e;exact LB pins s σ H x y v u Q I rx ry ⟨i,j,v1,v2,hz,q.here rfl hr⟩
   .cases e
  |_=>cases e
 |_=>cases b<;>cases e
end
end Sm
set_option maxRecDepth 100000
namespace Sm
open PySem PySem.Spec PyProof.Rows L2 PySem.SeqAt
open Ev (D O Hh Fr R aO E Es Eo T S Ss Fl Src bU bN TY BI ME)
section
variable{X:Cx}
theorem MU(n:Nat)(i:Int):Ev.ef n i=L2.ef n i:=rfl
theorem MV{α:Type}(xs:List α)(i:Int):Ev.bL xs i=L2.bL xs i:=rfl
theorem aG.bL{K:PySem.W.Frag}{H:Hp}{r:List Addr}{ds:List D}{vs:List V}{i:Int}{d:D}(w:aG K H r ds vs)(e:Ev.bL ds i=some d):∃v,L2.bL vs i=some v/\RV K H r d v:=by
 unfold Ev.bL at e;obtain⟨j,e1,e2⟩:=Option.bind_eq_some_iff.mp e;obtain⟨v,e3,e4⟩:=w.get e2;exact⟨v,by unfold L2.bL;rw[w.length,<-MU,e1];exact e3,e4⟩
theorem QX:yl X (gW X.K Mn):=by
 intro value slice pins s σ H x y v u Q I rx ry q hs;obtain⟨r,h,a,b,d,h',hr,v1,v2,e,q⟩:=q;obtain⟨e,rfl⟩:=Ev.aH e;cases b with
 |int i=>
  have s2:=v2.shape;cases a with
  |tup ds=>
   obtain⟨p,vs,rfl,z,w⟩:=v1.shape;obtain⟨v',g1,g2⟩:=w.bL e;exact LN value slice pins s σ H _ y v u Q I rx ry ⟨p,vs,i,v',rfl,s2,z,g1,q.here g2 hr⟩ hs
  |str l=>
   simp only[RV]at v1;obtain⟨rfl,hl⟩:=v1;simp only[Ev.dY,Option.map_eq_some_iff]at e;obtain⟨c,e1,rfl⟩:=e;exact LO value slice pins s σ H _ y v u Q I rx ry ⟨aW l,i,c,rfl,s2,by rw[dc];exact hl,by simpa[aW,MV]using e1,q.here ⟨rfl,by show 1<=sizeLine;decide⟩ hr⟩ hs
  |ref m=>
   simp only[Ev.dY,Option.bind_eq_some_iff]at e;obtain⟨ds,e1,e2⟩:=e;obtain⟨p,rfl,z⟩:=v1.shape;obtain⟨p',vs,z',q1,w⟩:=hr.read e1;rw[z]at z';cases z';obtain⟨v',g1,g2⟩:=w.bL e2;exact IE value slice pins s σ H _ y v u Q I rx ry ⟨p,vs,i,v',rfl,s2,q1,g1,q.here g2 hr⟩ hs
  |_=>cases e
 |_=>cases a<;>cases e
theorem aG.cut{K:PySem.W.Frag}{H:Hp}{r:List Addr}{ds:List D}{vs:List V}(w:aG K H r ds vs)(lo hi:Option Int):aG K H r (Ev.cut ds lo hi) (nC vs lo hi):=by
 unfold Ev.cut nC;rw[w.length];exact(w.drop _).take _
theorem t9{α:Type}(xs:List α)(lo hi:Option Int)(h:Ev.aT xs.length 0 lo=0/\Ev.aT xs.length xs.length hi=xs.length):Ev.cut xs lo hi=xs:=by
 unfold Ev.cut;rw[h.1,h.2];simp
theorem Jo{α:Type}(xs:List α)(lo hi:Option Int):(Ev.cut xs lo hi).length<=xs.length:=by
 unfold Ev.cut;rw[List.length_take,List.length_drop];omega
theorem uy{prog:Program}{w:World}{A:Around}{E:Value->Shared->Prop}{s:Shared}{t sl:Addr}{items:Array Value}{vl vu:Value}{lo hi:Option Int}{Q:Value->Shared->Prop}(ht:IsTup s.heap t items)(hs:s.heap.IsSliceOf sl vl vu .none)(pl:IsPart vl lo)(pu:IsPart vu hi)
  (hw:HT.aT items.size 0 lo=0/\HT.aT items.size items.size hi=items.size) (h:Q (.ref t) s):wpAny (model prog w) A (getItem (.ref t) (.ref sl)) Q E s:=by
 obtain⟨os,hos,hcs,hds⟩:=id hs;have LL:s.TypeIs (.ref sl) "slice" :=⟨os,hos,hcs⟩
 unfold getItem;try with_reducible refine wpAny_holding ?_
 first|refine wpAny_bind (wpAny_pure ?_)|skip
 refine wpAny_bind (wpAny_sequenceKey ht.typeIs (by decide) ?_);refine wpAny_bind (wpAny_callSpecial?_slot (name:=Str.ofString "__getitem__") ht.typeIs PyProof.Rows.slot_tuple_getitem
  (wpAny_call_entry PyProof.Rows.slot_tuple_getitem ht.typeIs entry_tuple_getitem ?_ (args_tuple_getitem _ _)))
 show wpAny _ _ (Builtin.Tuple.tupleItemsOf (.ref t) >>= _) _ _ s;refine wpAny_bind (tupleItemsOf_ ht ?_);refine wpAny_bind (wpAny_typeOf LL ?_);rw[if_pos (by decide)];refine wpAny_bind (HT.jR hs pl pu ?_);have hyes:(((HT.aT items.size 0 lo:Nat):Int)==0&&(1:Int)==1&&(HT.aT items.size items.size hi - HT.aT items.size 0 lo)==items.size)=true:=by
  rw[hw.1,hw.2];simp
 show wpAny _ _ (if (((HT.aT items.size 0 lo:Nat):Int)==0&&(1:Int)==1&&(HT.aT items.size items.size hi - HT.aT items.size 0 lo)==items.size)=true then _ else _) _ _ s;rw[if_pos hyes];refine wpAny_bind (m:=Builtin.Tuple.tupleIsExact (.ref t)) (wpAny_bind (wpAny_typeOf ht.typeIs (wpAny_pure ?_)));show wpAny _ _ (if ((Value.type "tuple" ==Value.type "tuple")=true)then _ else _) _ _ s;rw[if_pos (by decide)];exact wpAny_bind (wpAny_rule (wpAny_bind (wpAny_pure (wpAny_pure ⟨_,rfl,wpAny_pure h⟩))))
theorem B3(lo hi:Option Int)(n:Nat):Builtin.Str.strSliceIndices lo hi 1 n=(List.range (Ev.aT n n hi - Ev.aT n 0 lo)).map (λk=>Ev.aT n 0 lo+k):=by
 have MW:∀o:Option Int,((match o with|none=>(0:Int)|some i=>max 0 (min (if i<0 then i+(n:Int)else i) (n:Int))))=((Ev.aT n 0 o:Nat):Int):=λo=>by
  cases o with
  |none=>rfl
  |some i=>simp only[Ev.aT];split<;>omega
 have MX:∀o:Option Int,((match o with|none=>(n:Int)|some i=>max 0 (min (if i<0 then i+(n:Int)else i) (n:Int))))=((Ev.aT n n o:Nat):Int):=λo=>by
  cases o with
  |none=>rfl
  |some i=>simp only[Ev.aT];split<;>omega
 have e:Builtin.Str.strSliceIndices lo hi 1 n=sliceRange (match lo with|none=>(0:Int)|some i=>max 0 (min (if i<0 then i+(n:Int)else i) (n:Int))) (match hi with|none=>(n:Int)|some i=>max 0 (min (if i<0 then i+(n:Int)else i) (n:Int))) 1:=by
  unfold Builtin.Str.strSliceIndices;cases lo<;>cases hi<;>simp
 rw[e,MW,MX,sliceRange_one]
theorem MY(l:List Nat)(lo hi:Option Int):((Builtin.Str.strSliceIndices lo hi 1 (aW l).length).filterMap ((aW l).cps[·]?)).toArray=(Ev.cut l lo hi).toArray:=by
 rw[dc,B3,pick_run];simp[aW,Ev.cut]
theorem MZ:kZ X (L6 X.K):=by
 intro pins s σ H x v vl vu lo hi sl Q I rx hs pl pu q;obtain⟨r,h,a,d,h',hr,v1,e,q⟩:=q;cases a with
 |tup ds=>
  cases e;obtain⟨p,vs,rfl,z,w⟩:=v1.shape;by_cases hw:HT.aT vs.length 0 lo=0/\HT.aT vs.length vs.length hi=vs.length
  .cases rx;obtain⟨us,pv,pt,hz⟩:=I.tuple z;have hl:=pv.length;have XR:Ev.aT ds.length 0 lo=0/\Ev.aT ds.length ds.length hi=ds.length:=by rw[<-w.length];exact hw
   refine⟨"tuple",_,PyProof.Rows.slot_tuple_getitem.lookup,pt.typeIs,?_⟩;refine uy pt hs pl pu (by rw[List.size_toArray,<-hl];exact hw) ⟨.ref p,H,I,rfl,q.here ?_ hr⟩;rw[t9 ds lo hi XR];exact⟨p,vs,rfl,z,w⟩
  .exact LM pins s σ H _ v vl vu lo hi sl Q I rx hs pl pu ⟨p,vs,rfl,z,hw,λp' hp=>q.tup (w.cut lo hi) hr hp⟩
 |str l=>
  simp only[RV]at v1;obtain⟨rfl,hl⟩:=v1;obtain⟨t,rfl⟩:=rx;cases e;refine⟨"str",_,PySem.F.slot_str_getitem.lookup,typeIs_str s _ t,?_⟩;have part:∀{v:Value} {o:Option Int},IsPart v o->∃p:Option (Int×Tok),v=partValue p/\p.map (·.1)=o:=λ{v o} hp=>by
   cases hp with
   |none=>exact⟨none,rfl,rfl⟩
   |int i t=>exact⟨some (i,t),rfl,rfl⟩
  obtain⟨l1,e1,e2⟩:=part pl;obtain⟨u1,e3,e4⟩:=part pu;subst e1 e3;obtain⟨os,hos,hcs,hds⟩:=hs;refine wpAny_getItem_str_slice (l:=l1) (u:=u1) (st:=none) ⟨os,hos,hcs,hds⟩ rfl ?_;have G5:((slicePicked (aW l) l1 u1 none).filterMap ((aW l).cps[·]?)).toArray=(Ev.cut l lo hi).toArray:=by
   show((Builtin.Str.strSliceIndices (l1.map (·.1)) (u1.map (·.1)) 1 (aW l).length).filterMap ((aW l).cps[·]?)).toArray=_;rw[e2,e4];exact MY l lo hi
  have hcl:=Jo l lo hi;unfold sliceMade;refine post_val_or_made (λ_=>?_) λt' k=>?_
  .rw[G5];show(Ev.cut l lo hi).toArray.size<=sizeLine;simp only[List.size_toArray];omega
  .have hres:(if (((none:Option (Int×Tok)).map (·.1)).getD 1==1&&(slicePicked (aW l) l1 u1 none).length==(aW l).length)=true then aW l else (⟨((slicePicked (aW l) l1 u1 none).filterMap ((aW l).cps[·]?)).toArray⟩:Str))=aW (Ev.cut l lo hi):=by
    split
    .rename_i hc;rw[Bool.and_eq_true]at hc;have hlen:(slicePicked (aW l) l1 u1 none).length=(aW l).length:=eq_of_beq hc.2;have hlen2:(slicePicked (aW l) l1 u1 none).length=Ev.aT l.length l.length hi - Ev.aT l.length 0 lo:=by
      show(Builtin.Str.strSliceIndices (l1.map (·.1)) (u1.map (·.1)) 1 (aW l).length).length=_;rw[e2,e4,B3,dc];simp
     rw[dc]at hlen;have hb:Ev.aT l.length l.length hi<=l.length:=HT.vf _ _ (Nat.le_refl _) hi;have ha:Ev.aT l.length 0 lo<=l.length:=HT.vf _ _ (Nat.zero_le _) lo;rw[t9 l lo hi ⟨by omega,by omega⟩]
    .rw[G5];rfl
   rw[hres];exact⟨.str (aW (Ev.cut l lo hi)),H,I.tok _,⟨_,rfl⟩,q.here ⟨rfl,by omega⟩ hr⟩
 |ref m=>
  simp only[Ev.gT]at e;split at e
  .rename_i ds e1;obtain⟨p,rfl,z⟩:=v1.shape;obtain⟨p',vs,z',q1,w⟩:=hr.read e1;rw[z]at z';cases z';obtain⟨hz,q2⟩:=q.lst e (w.cut lo hi) hr;exact IF pins s σ H _ v vl vu lo hi sl Q I rx hs pl pu ⟨p,vs,rfl,q1,q2⟩
  .cases e
 |_=>cases e
theorem vK:∀(k:Nat) (l:List Nat) (acc:List Nat),(List.replicate k l.toArray).foldl (·++·) acc.toArray=(acc++Ev.rep k l).toArray
 |0,l,acc=>by simp[Ev.rep]
 |k+1,l,acc=>by
  rw[List.replicate_succ,List.foldl_cons];have:acc.toArray++l.toArray=(acc++l).toArray:=by simp
  rw[this,vK k l (acc++l)];simp[Ev.rep,List.replicate_succ]
theorem oS{α:Type}(k:Nat)(l:List α):(Ev.rep k l).length=k*l.length:=by
 unfold Ev.rep;exact len_rep l k
theorem Jp{l:List Nat}{k:Int}(h:0<=k):Txt.mul (aW l) k=aW (Ev.rep k.toNat l):=by
 unfold Txt.mul;by_cases h1:k<1
 .have:k=0:=by omega
  subst this;rw[if_pos (by decide)];rfl
 .rw[if_neg h1];split
  .rename_i hc;rw[Bool.or_eq_true]at hc;rcases hc with hc|hc
   .have:k=1:=by simpa using hc
    subst this;simp[Ev.rep]
   .rw[dc]at hc;have:l=[]:=by cases l with|nil=>rfl|cons _ _=>simp at hc
    subst this;simp[Ev.rep,aW]
  .show(⟨(List.replicate k.toNat (aW l).cps).foldl (·++·) #[]⟩:Str)=_;have:=vK k.toNat l [];simp only[List.nil_append]at this;exact congrArg Str.mk this
theorem kB{a b:Nat}(h1:a<=1000)(h2:b<=1000):a*b<=sizeLine:=Nat.le_trans (Nat.mul_le_mul h1 h2) (by decide)
theorem Jq{pins:List (Addr×Obj)}{σ:L2.St}{H:Hp}{s:Shared}{Q:VK}(I:Inv X pins σ H s){l:List Nat}{k:Int}{t u:Tok}(hk:0<=k/\k<=1000/\l.length<=1000)(q:Q (.str (aW (Ev.rep k.toNat l))) H) :
  wpAny (model X.prog X.w) X.A (binaryOp .Mult (.str (aW l) t) (.int k u)) (EP X pins σ Q) X.xe s:=by
 have hok:MulOk (aW l) k:=mulOk_of 1000 1000 (by rw[dc];exact hk.2.2) (by exact hk.2.1) (by omega) (by decide) (by decide);refine SB.mul hok λt' k'=>?_;rw[Jp hk.1];exact⟨.str _,H,I.tok _,⟨_,rfl⟩,q⟩
theorem qd:fillsNumberSlot (.type "tuple") "mul" = pure false:=
 PySem.fillsNumberSlot_seq (id:="tuple.__mul__") (r:=some (.builtin "tuple.__rmul__")) PySem.F.slot_tuple_mul.lookup (by decide +kernel) PySem.F.slot_tuple_rmul.lookup (by decide +kernel)
theorem vL:seqRepeat? (.type "tuple")=pure (some (.builtin "tuple.__mul__")):=by
 unfold seqRepeat?;rw[PySem.seqSlot_of (T:="tuple") (name:="__mul__") (id:="tuple.__mul__") PySem.F.slot_tuple_mul.lookup (by decide +kernel),PySem.seqSlot_of (T:="tuple") (name:="__rmul__") (id:="tuple.__rmul__") PySem.F.slot_tuple_rmul.lookup (by decide +kernel)];rfl
theorem zV(a:Int)(t:Tok)(l:Addr)(items:Array Value)(n:Nat)(dd:Option Addr)(sl:Array (Option Value)) :
  Meets (Builtin.«int.__rmul__» ⟨[.int a t,.ref l],[]⟩) (λ_ R s=>s.heap.get? l=some { cls:=.type "tuple",dict:=dd,data:=.seq items n,slots:=sl }/\R (.ok (.ret Value.notImplemented)) s):=
 .of_wp λprog w A R s h=>by obtain⟨hp,g,d,tk,os⟩:=s;obtain⟨hl,h⟩:=h;wp_walk;exact⟨_,rfl,h⟩
theorem zW(l:Addr)(items:Array Value)(n:Nat)(dd:Option Addr)(sl:Array (Option Value))(k:Int)(u:Tok)(h1:¬ (decide (k < -2 ^ 63) ||decide (k≥2 ^ 63))=true)(h3:(items.isEmpty ||k==1)=true) :
  Meets (Builtin.«tuple.__mul__» ⟨[.ref l,.int k u],[]⟩) (λ_ R s=>s.heap.get? l=some { cls:=.type "tuple",dict:=dd,data:=.seq items n,slots:=sl }/\R (.ok (.ret (.ref l))) s):=
 .of_wp λprog w A R s h=>by obtain⟨hp,g,d,tk,os⟩:=s;obtain⟨hl,h⟩:=h;have f1:=AutoSeq1.idx_int;wp_walk using AutoSeq1.wpAny_loadPart' hl;rw[if_neg h1];wp_walk using AutoSeq1.wpAny_loadPart' hl;exact⟨_,rfl,h⟩
theorem zX(l:Addr)(items:Array Value)(n:Nat)(dd:Option Addr)(sl:Array (Option Value))(k:Int)(u:Tok)(h1:¬ (decide (k < -2 ^ 63) ||decide (k≥2 ^ 63))=true)(h3:¬ (items.isEmpty ||k==1)=true)(h4:(decide (k<=0) ||items.isEmpty)=true) :
  Meets (Builtin.«tuple.__mul__» ⟨[.ref l,.int k u],[]⟩) (λ_ R s=>s.heap.get? l=some { cls:=.type "tuple",dict:=dd,data:=.seq items n,slots:=sl }/\R (.ok (.ret (Value.ref s.heap.objs.size))) { s with heap:=s.heap.push { cls:=Value.type "tuple",data:=Data.seq #[]},toks:=s.toks }):=
 .of_wp λprog w A R s h=>by obtain⟨hp,g,d,tk,os⟩:=s;obtain⟨hl,h⟩:=h;have f1:=AutoSeq1.idx_int;wp_walk using AutoSeq1.wpAny_loadPart' hl;rw[if_neg h1];wp_walk using AutoSeq1.wpAny_loadPart' hl;exact⟨_,rfl,h⟩
theorem zY(l:Addr)(items:Array Value)(n:Nat)(dd:Option Addr)(sl:Array (Option Value))(k:Int)(u:Tok)(h1:¬ (decide (k < -2 ^ 63) ||decide (k≥2 ^ 63))=true)(h3:¬ (items.isEmpty ||k==1)=true)(h4:¬ (decide (k<=0) ||items.isEmpty)=true)
  (h5:¬ (items.size*k > (2 ^ 63 - 1) / 8)) (h6:¬ Builtin.Tuple.tupleTooMany (items.size*k)=true) (hsz:(List.foldl (λx1 x2=>x1++x2) #[] (List.replicate k.toNat items)).size<=sizeLine) :
  Meets (Builtin.«tuple.__mul__» ⟨[.ref l,.int k u],[]⟩) (λ_ R s=>s.heap.get? l=some { cls:=.type "tuple",dict:=dd,data:=.seq items n,slots:=sl }/\R (.ok (.ret (Value.ref s.heap.objs.size))) { s with heap:=s.heap.push { cls:=Value.type "tuple",data:=Data.seq (List.foldl (λx1 x2=>x1++x2) #[] (List.replicate k.toNat items))},toks:=s.toks }):=
 .of_wp λprog w A R s h=>by obtain⟨hp,g,d,tk,os⟩:=s;obtain⟨hl,h⟩:=h;have f1:=AutoSeq1.idx_int;wp_walk using AutoSeq1.wpAny_loadPart' hl;rw[if_neg h1];wp_walk using AutoSeq1.wpAny_loadPart' hl;rw[if_neg h5];wp_walk using AutoSeq1.wpAny_loadPart' hl;exact⟨_,rfl,h⟩
theorem ua:∀(k:Nat) (l acc:List Value),(List.replicate k l.toArray).foldl (·++·) acc.toArray=(acc++Ev.rep k l).toArray
 |0,l,acc=>by simp[Ev.rep]
 |k+1,l,acc=>by
  rw[List.replicate_succ,List.foldl_cons];have:acc.toArray++l.toArray=(acc++l).toArray:=by simp
  rw[this,ua k l (acc++l)];simp[Ev.rep,List.replicate_succ]
theorem Jr{pins:List (Addr×Obj)}{σ:L2.St}{H:Hp}{s:Shared}{Q:VK}(I:Inv X pins σ H s){p:Addr}{vs:List V}{k:Int}{u:Tok}(hk:0<=k/\k<=1000/\vs.length<=1000)(hp:dP X.K H p vs)
  (q1:Ev.rep k.toNat vs=vs->Q (.ref p) H) (q2:∀p',H p'=none->Q (.ref p') (upd H p' (.tup (Ev.rep k.toNat vs)))) :
  wpAny (model X.prog X.w) X.A (binaryOp .Mult (.ref p) (.int k u)) (EP X pins σ Q) X.xe s:=by
 obtain⟨us,pv,pt,hz⟩:=I.tuple hp;obtain⟨⟨cls,dd,data,sl⟩,ho,hc,n,hd⟩:=id pt;simp only at hc hd;subst hc hd;have hl:=pv.length;have h1:¬ (decide (k < -2 ^ 63) ||decide (k≥2 ^ 63))=true:=by simp;omega
 refine wpAny_binaryOp_repeat_ref (T:="tuple") (U:="int") (by decide) ⟨_,ho,rfl⟩ (λs'=>typeIs_int s' k u) qd PySem.F.fills_int_mul PySem.F.slot_int_rmul vL PySem.F.slot_int_index.lookup
  (call_meets PySem.F.slot_int_rmul (typeIs_int s k u) PySem.F.entry_int_rmul (PySem.F.args_int_rmul_2 _ _) (zV k u p us.toArray n dd sl) ⟨ho,rfl,⟨_,ho,rfl⟩,?_⟩)
 have hrep:∀m:Nat,(Ev.rep m us).length=m*us.length:=λm=>oS m us;by_cases h3:(us.toArray.isEmpty ||k==1)=true
 .refine call_meets PySem.F.slot_tuple_mul ⟨_,ho,rfl⟩ PySem.F.entry_tuple_mul (PySem.F.args_tuple_mul_2 _ _) (zW p us.toArray n dd sl k u h1 h3) ⟨ho,?_⟩;refine⟨.ref p,H,I,rfl,q1 ?_⟩;rw[Bool.or_eq_true]at h3;rcases h3 with h3|h3
  .have:us=[]:=by simpa using h3
   subst this;cases pv;simp[Ev.rep]
  .have:k=1:=by simpa using h3
   subst this;simp[Ev.rep]
 .have laid:∀m:Nat,m=k.toNat->EP X pins σ Q (.ref s.heap.objs.size) { s with heap:=s.heap.push { cls:=.type "tuple",data:=.seq (Ev.rep m us).toArray }}:=λm hm=>by
   subst hm;refine⟨.ref s.heap.objs.size,_,I.laid (t':=s.toks) (o:=.tup (Ev.rep k.toNat vs)) (λb ob q=>Heap.get?_push_of_some _ q) (Nat.le_refl _) ?_,rfl,q2 _ (I.hok.fresh (Nat.le_refl _))⟩;exact⟨by rw[oS];exact kB (by omega) hk.2.2,_,pv.rep k.toNat,IsTup.new _ _⟩
  by_cases h4:(decide (k<=0) ||us.toArray.isEmpty)=true
  .refine call_meets PySem.F.slot_tuple_mul ⟨_,ho,rfl⟩ PySem.F.entry_tuple_mul (PySem.F.args_tuple_mul_2 _ _) (zX p us.toArray n dd sl k u h1 h3 h4) ⟨ho,?_⟩;have hk0:k=0:=by
    rw[Bool.or_eq_true]at h4 h3;rcases h4 with h4|h4
    .have:k<=0:=of_decide_eq_true h4;omega
    .exact absurd (.inl h4) h3
   have:=laid 0 (by rw[hk0];rfl);exact this
  .have hm:us.toArray.size*k.toNat<=1000000:=by
    rw[List.size_toArray];exact Nat.mul_le_mul (by omega:us.length<=1000) (by omega:k.toNat<=1000)
   have hm':(us.toArray.size:Int)*k<=1000000:=by
    have e:(us.toArray.size:Int)*k=((us.toArray.size*k.toNat:Nat):Int):=by
     rw[Int.natCast_mul,Int.toNat_of_nonneg hk.1]
    rw[e];omega
   have hf:List.foldl (λx1 x2=>x1++x2) #[] (List.replicate k.toNat us.toArray)=(Ev.rep k.toNat us).toArray:=by
    have:=ua k.toNat us [];simpa using this
   refine call_meets PySem.F.slot_tuple_mul ⟨_,ho,rfl⟩ PySem.F.entry_tuple_mul (PySem.F.args_tuple_mul_2 _ _) (zY p us.toArray n dd sl k u h1 h3 h4 (by omega) ?_ ?_) ⟨ho,?_⟩
   .unfold Builtin.Tuple.tupleTooMany;simp only[decide_eq_true_eq];have:(sizeLine:Int)=16777216:=by rw[sizeLine_eq];rfl
    omega
   .rw[hf];simp only[List.size_toArray];rw[oS];exact kB (by omega) (by omega)
   .rw[hf];exact laid _ rfl
theorem M4:dG X (binaryOp .Mult) (gW X.K (Ev.bS .mul)):=by
 intro pins s σ H x y v u Q I rx ry q;obtain⟨r,h,a,b,d,h',hr,v1,v2,e,q⟩:=q;cases b with
 |int k=>
  have s2:=v2.shape;simp only[cj]at s2;subst s2;cases a with
  |int i=>
   delta Ev.bS at e;dsimp only at e
   split at e
   .rename_i hz;cases e;refine LA pins s σ H x _ v u Q I rx ry ⟨i,k,v1,rfl,?_,q.here rfl hr⟩;unfold Ev.cH at hz;simp only[Bool.or_eq_true,Bool.and_eq_true,decide_eq_true_eq]at hz;exact hz
   .cases e
  |str l=>
   delta Ev.bS at e;dsimp only at e
   split at e
   .rename_i hz;cases e;simp only[RV]at v1;obtain⟨rfl,hl⟩:=v1;obtain⟨t,rfl⟩:=rx;obtain⟨t',rfl⟩:=ry;exact Jq I hz (q.here ⟨rfl,by rw[oS];exact kB (by omega) hz.2.2⟩ hr)
   .cases e
  |tup ds=>
   delta Ev.bS at e;dsimp only at e
   split at e
   .rename_i hz;cases e;obtain⟨p,vs,rfl,z,w⟩:=v1.shape;cases rx;obtain⟨t',rfl⟩:=ry;refine Jr I ⟨hz.1,hz.2.1,by rw[w.length];exact hz.2.2⟩ z (λXS=>q.here ⟨p,vs,rfl,z,?_⟩ hr) λp' hp=>q.tup (w.rep k.toNat) hr hp;have:=w.rep k.toNat;rw[XS]at this;exact this
   .cases e
  |ref i=>
   delta Ev.bS at e;dsimp only at e
   split at e
   .rename_i ds e1;split at e
    .rename_i hz;obtain⟨p,rfl,z⟩:=v1.shape;obtain⟨p',g1,vs,g2,g3⟩:=hr.ob _ _ e1;rw[z]at g1;cases g1;obtain⟨hz2,q2⟩:=q.lst e (g3.rep k.toNat) hr;exact LU pins s σ H (.ref p) _ v u Q I rx ry ⟨p,k,vs,rfl,rfl,g2,by omega,by omega,kB (by rw[g3.length];exact hz.2.2) (by omega),q2⟩
    .cases e
   .cases e
  |_=>cases e
 |_=>cases a<;>cases e
end
end Sm
set_option maxRecDepth 100000
namespace Sm
open PySem PySem.Spec PyProof.Rows L2 PySem.SeqAt
open Ev (D O Hh Fr R aO E Es Eo T S Ss Fl Src bU bN TY BI ME)
section
variable{X:Cx}
theorem vM{K:PySem.W.Frag}{H:Hp}{r:List Addr}:∀{ds:List D}{bs:List Bool}{vs:List V}{us:List Value},Ev.boolsOf ds=some bs->aG K H r ds vs->Vals vs us->us=bs.map Value.bool
 |[],bs,vs,us,e,w,p=>by
  cases e;simp only[aG]at w;subst w;cases p;rfl
 |d :: ds,bs,vs,us,e,w,p=>by
  cases d with
  |bl b=>
   simp only[Ev.boolsOf,Option.map_eq_some_iff]at e;obtain⟨bs',e1,rfl⟩:=e;simp only[aG,RV]at w;obtain⟨v,w',rfl,rfl,w2⟩:=w;cases p with
   |cons p1 p2=>
    cases p1;rw[vM e1 w2 p2];rfl
  |_=>cases e
theorem yL{K:PySem.W.Frag}{H:Hp}{r:List Addr}:∀{ds:List D}{is:List Int}{vs:List V}{us:List Value},Ev.intsOf ds=some is->aG K H r ds vs->Vals vs us->IntsAre us is
 |[],bs,vs,us,e,w,p=>by
  cases e;simp only[aG]at w;subst w;cases p;exact .nil
 |d :: ds,bs,vs,us,e,w,p=>by
  cases d with
  |int b=>
   simp only[Ev.intsOf,Option.map_eq_some_iff]at e;obtain⟨bs',e1,rfl⟩:=e;simp only[aG,RV]at w;obtain⟨v,w',rfl,rfl,w2⟩:=w;cases p with
   |cons p1 p2=>
    obtain⟨t,rfl⟩:=p1;exact .cons _ _ (yL e1 w2 p2)
  |_=>cases e
theorem yN{K:PySem.W.Frag}{H:Hp}{r:List Addr}:∀{ds:List D}{ss:List (List Nat)}{vs:List V}{us:List Value},Ev.strsOf ds=some ss->aG K H r ds vs->Vals vs us->StrsAre us (ss.map aW)/\∀l∈ss,l.length<=sizeLine
 |[],bs,vs,us,e,w,p=>by
  cases e;simp only[aG]at w;subst w;cases p;exact⟨.nil,λl h=>nomatch h⟩
 |d :: ds,bs,vs,us,e,w,p=>by
  cases d with
  |str b=>
   simp only[Ev.strsOf,Option.map_eq_some_iff]at e;obtain⟨bs',e1,rfl⟩:=e;simp only[aG,RV]at w;obtain⟨v,w',rfl,⟨rfl,hb⟩,w2⟩:=w;cases p with
   |cons p1 p2=>
    obtain⟨t,rfl⟩:=p1;obtain⟨g1,g2⟩:=yN e1 w2 p2;refine⟨.cons _ _ g1,λl hl=>?_⟩;rcases List.mem_cons.mp hl with z|z
    .subst z;exact hb
    .exact g2 l z
  |_=>cases e
theorem uc{A:Around}{pins:List (Addr×Obj)}{σ:L2.St}{H:Hp}{s:Shared}(I:Inv X pins σ H s){p:Addr}{us:List Value}(pl:PlainL s.heap p us.toArray){Q:Value->Shared->Prop}{E:Value->Shared->Prop}
  (h:∀s₂:Shared,s₂={ s with heap:=s.heap.push { cls:=.type "list_iterator",data:=.fields #[.ref p,.int 0 0]}}->(s₂.heap.IsListIter s.heap.objs.size p 0/\s₂.heap.IsList p us.toArray)->p≠s.heap.objs.size->(∀b∈[s.heap.objs.size,p],b<s₂.heap.objs.size)->Q (.ref s.heap.objs.size) s₂) :
  wpAny (model X.prog X.w) A (pyIter (.ref p)) Q E s:=by
 have hlt:p<s.heap.objs.size:=by obtain⟨_,e,_⟩:=pl.isList;exact Heap.lt_size e
 refine wpAny_pyIter_list pl.isList (h _ rfl ⟨⟨_,Heap.get?_push_size _ rfl,rfl,rfl⟩,pl.isList.push _⟩ (Nat.ne_of_lt hlt) λb hb=>?_);show b<(s.heap.push _).objs.size;rw[Heap.size_push];rcases List.mem_cons.mp hb with z|z
 .rw[z];exact Nat.lt_succ_self _
 .rw[List.mem_singleton.mp z];exact Nat.lt_succ_of_lt hlt
theorem all_range{bs:List Bool}:(List.range bs.length).all (λi=>bs[i]?.getD true)=bs.all id:=by
 rw[Bool.eq_iff_iff,List.all_eq_true,List.all_eq_true];constructor
 .intro h b hb;obtain⟨i,hi,rfl⟩:=List.getElem_of_mem hb;simpa[hi]using h i (List.mem_range.mpr hi)
 .intro h i hi;have hi':=List.mem_range.mp hi;simpa[hi']using h bs[i] (by simp)
theorem any_range{bs:List Bool}:(List.range bs.length).any (λi=>bs[i]?.getD true)=bs.any id:=by
 rw[Bool.eq_iff_iff,List.any_eq_true,List.any_eq_true];constructor
 .rintro⟨i,hi,h⟩;have hi':=List.mem_range.mp hi;exact⟨bs[i],by simp,by simpa[hi']using h⟩
 .rintro⟨b,hb,h⟩;obtain⟨i,hi,rfl⟩:=List.getElem_of_mem hb;exact⟨i,List.mem_range.mpr hi,by simpa[hi]using h⟩
theorem ud {s s₂:Shared}{I p:Addr}{h':Heap}(e:s₂.heap=s.heap.push { cls:=.type "list_iterator",data:=.fields #[.ref p,.int 0 0]}) (hI:I=s.heap.objs.size) (hk:∀b o,b∉[I]->s₂.heap.get? b=some o->h'.get? b=some o) :
  ∀b o,s.heap.get? b=some o->h'.get? b=some o:=λb o q=>hk b o (by simp;rw[hI];exact Nat.ne_of_lt (Heap.lt_size q)) (by rw[e];exact Heap.get?_push_of_some _ q)
variable{G:Tb}{n:Nat}{sc:Scope}{N:List Str}{df:Bool}
theorem Ek(g:Good G n sc N df X){pins:List (Addr×Obj)}{σ:L2.St}{H:Hp}{s:Shared}(I:Inv X pins σ H s){p:Addr}{bs:List Bool}(pl:PlainL s.heap p (bs.map Value.bool).toArray){Q:VK} :
  (Q (.bl (bs.all id)) H->wpAny (model X.prog X.w) X.A (call (.builtin "all") [.ref p]) (EP X pins σ Q) X.xe s)/\(Q (.bl (bs.any id)) H->wpAny (model X.prog X.w) X.A (call (.builtin "any") [.ref p]) (EP X pins σ Q) X.xe s):=by
 have hh:=I.ok.hd g.calm;have tr:TruthOf X.prog X.w X.A.in1 (λi v=>(bs.map Value.bool).toArray[i]?=some v) (λi=>bs[i]?.getD true):=λi v s' Q' E' hP hQ=>by
  simp only[List.getElem?_toArray,List.getElem?_map,Option.map_eq_some_iff]at hP;obtain⟨b,hb,rfl⟩:=hP;have Tv:Q' (bs[i]?.getD true) s':=hQ;rw[hb]at Tv;exact wpAny_truthy_bool Tv
 have hsz:(bs.map Value.bool).toArray.size=bs.length:=by simp
 constructor
 .intro q;refine call_all_walk (uc I pl λs₂ e st hne hfp=>?_);subst e;refine⟨_,_,_,_,_,_,_,rfl,Walks.list (A:=X.A.in1) hh _ p hne (bs.map Value.bool).toArray,st,tr,λh' tk hk=>?_⟩;rw[hsz,all_range];exact⟨.bl _,H,I.kept (ud rfl rfl hk),rfl,q⟩
 .intro q;refine call_any_walk (uc I pl λs₂ e st hne hfp=>?_);subst e;refine⟨_,_,_,_,_,_,_,rfl,Walks.list (A:=X.A.in1) hh _ p hne (bs.map Value.bool).toArray,st,tr,λh' tk hk=>?_⟩;rw[hsz,any_range];exact⟨.bl _,H,I.kept (ud rfl rfl hk),rfl,q⟩
theorem M5 (g:Good G n sc N df X):fR X (.builtin "all") (tQ X.K (Ev.cX .all)):=by
 intro pins s σ H xs us Q I r q;obtain⟨rr,h,as,d,h',hr,v1,e,q⟩:=q
 match as,e with
 |[.ref m],e=>
  obtain⟨e,rfl⟩:=Ev.aH e;simp only[Option.map_eq_some_iff,Option.bind_eq_some_iff]at e;obtain⟨bs,⟨ds,e1,e2⟩,rfl⟩:=e;simp only[aG,RV]at v1;obtain⟨v,w,rfl,⟨p,rfl,z⟩,rfl⟩:=v1;obtain⟨u,rfl,ru⟩:=vals1 r;cases ru;obtain⟨p',vs,z',q1,w⟩:=hr.read e1;rw[z]at z';cases z';obtain⟨zs,pv,pl,_⟩:=I.list q1;have:=vM e2 w pv;subst this;exact(Ek g I pl).1 (q.here rfl hr)
theorem M6 (g:Good G n sc N df X):fR X (.builtin "sum") (tQ X.K (Ev.cX .sum)):=by
 intro pins s σ H xs us Q I r q;obtain⟨rr,h,as,d,h',hr,v1,e,q⟩:=q
 match as,e with
 |[.ref m],e=>
  obtain⟨e,rfl⟩:=Ev.aH e;simp only[Option.map_eq_some_iff,Option.bind_eq_some_iff]at e;obtain⟨is,⟨ds,e1,e2⟩,rfl⟩:=e;simp only[aG,RV]at v1;obtain⟨v,w,rfl,⟨p,rfl,z⟩,rfl⟩:=v1;obtain⟨u,rfl,ru⟩:=vals1 r;cases ru;obtain⟨p',vs,z',q1,w⟩:=hr.read e1;rw[z]at z';cases z';obtain⟨zs,pv,pl,_⟩:=I.list q1;have hi:=yL e2 w pv;obtain⟨ys,hys⟩:=(hi.allInts).items;have hl:s.heap.IsList p (intItems ys):=by rw[<-hys];exact pl.isList
  refine sum_intListG (I.ok.hd g.calm) hl λh'' tk t' hk=>?_;have hsum:preSum (numAt ys) ys.size=is.sum:=by
   have h1:numsOf zs.toArray.toList=is:=by rw[show zs.toArray.toList=zs from rfl];exact hi.numsOf
   rw[hys,nums_intItems]at h1;rw[preSum_eq,List.take_of_length_le (by simp),h1]
  rw[hsum];exact⟨.int is.sum,H,I.kept hk,⟨_,rfl⟩,q.here rfl hr⟩
theorem M7:fR X (.builtin "len") (tQ X.K (Ev.cX .len)):=by
 intro pins s σ H xs us Q I r q;obtain⟨rr,h,as,d,h',hr,v1,e,q⟩:=q
 match as,e with
 |[.str l],e=>
  delta Ev.cX at e;dsimp only at e
  split at e
  .cases e;simp only[aG,RV]at v1;obtain⟨v,w,rfl,⟨rfl,hl⟩,rfl⟩:=v1;refine vh pins s σ H _ us Q I r ⟨_,rfl,by rw[dc];exact hl,?_⟩;rw[dc];exact q.here rfl hr
  .cases e
 |[.tup ds],e=>
  cases e;simp only[aG,RV]at v1;obtain⟨v,w,rfl,⟨p,vs,rfl,z,w'⟩,rfl⟩:=v1;refine nE pins s σ H _ us Q I r ⟨p,vs,rfl,.inr z,?_⟩;rw[w'.length];exact q.here rfl hr
 |[.ref m],e=>
  obtain⟨e,rfl⟩:=Ev.aH e;simp only[Option.map_eq_some_iff]at e;obtain⟨ds,e1,rfl⟩:=e;simp only[aG,RV]at v1;obtain⟨v,w,rfl,⟨p,rfl,z⟩,rfl⟩:=v1;obtain⟨p',vs,z',q1,w⟩:=hr.read e1;rw[z]at z';cases z';refine nE pins s σ H _ us Q I r ⟨p,vs,rfl,.inl q1,?_⟩;rw[w.length];exact q.here rfl hr
theorem M8 (g:Good G n sc N df X):fR X (.builtin "min") (tQ X.K (Ev.cX .min)):=by
 intro pins s σ H xs us Q I r q;obtain⟨rr,h,as,d,h',hr,v1,e,q⟩:=q
 match as,e with
 |[.int i,.int j],e=>
  cases e;simp only[aG,RV]at v1;obtain⟨v,w,rfl,rfl,v',w',rfl,rfl,rfl⟩:=v1;exact Bm g.calm pins s σ H _ us Q I r ⟨i,j,rfl,q.here rfl hr⟩
theorem B4:tK X "list.append" (vA X.K (Ev.fN .append)):=by
 intro pins s σ H x xs v us Q I rx rs q;obtain⟨r,h,a,as,d,h',hr,v1,v2,e,q⟩:=q;cases a with
 |ref m=>
  match as,e with
  |[b],e=>
   delta Ev.fN at e;dsimp only at e
   split at e
   .rename_i ds e1;split at e
    .rename_i hz;cases e;rw[gU]at hz;obtain⟨p,rfl,z⟩:=v1.shape;simp only[aG]at v2;obtain⟨y,w,rfl,v3,rfl⟩:=v2;obtain⟨p',g1,vs,g2,g3⟩:=hr.ob _ _ e1;rw[z]at g1;cases g1;refine tL pins s σ H _ _ v us Q I rx rs ⟨p,vs,y,rfl,rfl,g2,by rw[g3.length];exact hz,?_⟩;have f:=Fm.write (K:=X.K) (ws:=vs++[y]) g2 (List.mem_of_getElem? z);exact q _ _ r rfl (hr.write e1 z g2 (g3.append (.cons v3 .nil))) f
    .cases e
   .cases e
  |[],e=>cases e
  |_ :: _ :: _,e=>cases e
 |_=>cases e
theorem B5:tK X "list.extend" (vA X.K (Ev.fN .extend)):=by
 intro pins s σ H x xs v us Q I rx rs q;obtain⟨r,h,a,as,d,h',hr,v1,v2,e,q⟩:=q;cases a with
 |ref m=>
  match as,e with
  |[.ref k],e=>
   delta Ev.fN at e;dsimp only at e
   split at e
   .rename_i ds es e1 e2;split at e
    .rename_i hz;cases e;rw[gU]at hz;obtain⟨p,rfl,z⟩:=v1.shape;simp only[aG,RV]at v2;obtain⟨y,w,rfl,⟨p2,rfl,z2⟩,rfl⟩:=v2;obtain⟨p',g1,vs,g2,g3⟩:=hr.ob _ _ e1;rw[z]at g1;cases g1;obtain⟨p'',k1,ws,k2,k3⟩:=hr.ob _ _ e2;rw[z2]at k1;cases k1;refine Bt pins s σ H _ _ v us Q I rx rs ⟨p,p2,vs,ws,rfl,rfl,g2,k2,by rw[g3.length,k3.length];exact hz,?_⟩;have f:=Fm.write (K:=X.K) (ws:=vs++ws) g2 (List.mem_of_getElem? z);exact q _ _ r rfl (hr.write e1 z g2 (g3.append k3)) f
    .cases e
   .cases e
 |_=>cases e
theorem M9:tK X "list.pop" (vA X.K (Ev.fN .pop)):=by
 intro pins s σ H x xs v us Q I rx rs q;obtain⟨r,h,a,as,d,h',hr,v1,v2,e,q⟩:=q;cases a with
 |ref m=>
  match as,e with
  |[],e=>
   delta Ev.fN at e;dsimp only at e
   split at e
   .rename_i ds e1;split at e
    .rename_i y e2;cases e;obtain⟨p,rfl,z⟩:=v1.shape;simp only[aG]at v2;subst v2;obtain⟨p',g1,vs,g2,g3⟩:=hr.ob _ _ e1;rw[z]at g1;cases g1;obtain⟨vy,g4,g5⟩:=g3.get e2;refine LR pins s σ H _ _ v us Q I rx rs ⟨p,vs,vy,rfl,rfl,g2,by rw[g3.length];exact g4,?_⟩;have f:=Fm.write (K:=X.K) (ws:=vs.dropLast) g2 (List.mem_of_getElem? z);have hd:aG X.K H r ds.dropLast vs.dropLast:=by
      rw[List.dropLast_eq_take,List.dropLast_eq_take,g3.length];exact g3.take _
     exact q _ _ r (g5.mono f) (hr.write e1 z g2 hd) f
    .cases e
   .cases e
  |_ :: _,e=>cases e
 |_=>cases e
theorem qe(sep:List Nat):∀ss:List (List Nat),Str.join (aW sep) (ss.map aW)=aW (Ev.cV sep ss)
 |[]=>rfl
 |[s]=>rfl
 |s :: t :: r=>by
  have ih:=qe sep (t :: r);show aW s++aW sep++Str.join (aW sep) ((t :: r).map aW)=_;rw[ih,sq,sq];rfl
theorem join_eq(sep:List Nat)(ss:List (List Nat)):Txt.join (aW sep) (ss.map aW)=aW (Ev.cV sep ss):=by
 rw[<-qe];exact PySem.StrLaws.glued_eq_join _ _
theorem Js:tK X "str.join" (vA X.K (Ev.fN .join)):=by
 intro pins s σ H x xs v us Q I rx rs q;obtain⟨r,h,a,as,d,h',hr,v1,v2,e,q⟩:=q;cases a with
 |str sep=>
  match as,e with
  |[.ref k],e=>
   delta Ev.fN at e;dsimp only at e
   split at e
   .rename_i ss e1;split at e
    .rename_i hz;cases e;simp only[Option.bind_eq_some_iff]at e1;obtain⟨ds,e1,e2⟩:=e1;simp only[RV]at v1;obtain⟨rfl,hl⟩:=v1;obtain⟨t,rfl⟩:=rx;simp only[aG,RV]at v2;obtain⟨y,w,rfl,⟨p2,rfl,z2⟩,rfl⟩:=v2;obtain⟨u,rfl,ru⟩:=vals1 rs;cases ru;obtain⟨p',vs,z',q1,w⟩:=hr.read e1;rw[z2]at z';cases z';obtain⟨zs,pv,pl,_⟩:=I.list q1;obtain⟨g1,g2⟩:=yN e2 w pv;have hlen:((ss.map aW).map (·.length)).sum+(ss.map aW).length*(aW sep).length<=16777216:=by
      rw[List.map_map,List.length_map,dc];have:(λx:Str=>x.length) ∘ aW=λl:List Nat=>l.length:=funext λl=>dc l;rw[this];exact hz
     refine join_list pl.isList g1 hlen λt' k'=>?_;rw[join_eq];refine⟨.str _,H,I.tok _,⟨_,rfl⟩,q.here ⟨rfl,?_⟩ hr⟩;have hj:=PySem.StrLaws.join_length_le (aW sep) (ss.map aW);rw[qe,dc]at hj;have:sizeLine=16777216:=sizeLine_eq;omega
    .cases e
   .cases e
 |_=>cases e
end
end Sm
set_option maxRecDepth 100000
namespace Sm
open PySem PySem.Spec PyProof.Rows L2 PySem.SeqAt
open Ev (D O Hh Fr R aO E Es Eo T S Ss Fl Src bU bN TY BI ME)
section
variable{X:Cx}{G:Tb}{n:Nat}{sc:Scope}{N:List Str}{df:Bool}{m:List Nat}{a b c:E}{xa xb xc tg:Expr}{pos:Pos}
theorem aG.ofStr{K:PySem.W.Frag}{H:Hp}{r:List Addr}:∀(l:List Nat),aG K H r (l.map λc=>.str [c]) (l.map λc=>.str (aW [c]))
 |[]=>.nil
 |c :: l=>.cons ⟨rfl,by show 1<=sizeLine;decide⟩ (aG.ofStr l)
theorem zZ{x:List Nat}{acc:Array Value}(h:ItemsOf (SignAt (aW x)) acc (aW x).cps.size):Vals (x.map λc=>.str (aW [c])) acc.toList:=by
 obtain⟨h1,h2⟩:=h;have hl:acc.toList.length=x.length:=by simpa[aW]using h1
 have go:∀(y:List Nat) (l:List Value) (k:Nat),l.length=y.length->(∀j v,l[j]?=some v->SignAt (aW x) (k+j) v)->(∀j,y[j]?=x[k+j]?)->Vals (y.map λc=>.str (aW [c])) l:=by
  intro y;induction y with
  |nil=>intro l k hl _ _;cases l with|nil=>exact .nil|cons _ _=>simp at hl
  |cons c y ih=>
   intro l k hl hv hy;cases l with
   |nil=>simp at hl
   |cons v l=>
    refine .cons ?_ (ih l (k+1) (by simpa using hl) (λj w hw=>?_) λj=>?_)
    .obtain⟨c',u,hc',rfl⟩:=hv 0 v (by simp);have:=hy 0;simp at this;have hc2:x[k]?=some c':=by simpa[aW]using hc'
     rw[hc2]at this;cases this;exact⟨u,rfl⟩
    .have:=hv (j+1) w (by simpa using hw);rw[show k+1+j=k+(j+1)by omega];exact this
    .have:=hy (j+1);simp at this;rw[this]
     congr 1
     omega
 exact go x acc.toList 0 hl (λj v hv=>by simpa using h2 j v (by simpa using hv)) λj=>by simp
theorem Jt (g:Good G n sc N df X):fR X (.type "list") (λxs H Q=>∃r h d src x,HR X.K H r h/\RV X.K H r d x/\xs=[x]/\Ev.e8 h d=some src/\src.1.length<=sizeLine/\∀vs,aG X.K H r src.1 vs->∀l,H l=none->Q (.ref l) (upd H l (.lst vs))):=by
 intro pins s σ H xs us Q I rv q;obtain⟨r,h,d,src,x,hr,v1,rfl,e,hz,q⟩:=q;cases d with
 |tup ds=>
  cases e;obtain⟨p,vs,rfl,z,w⟩:=v1.shape;exact nF pins s σ H _ us Q I rv ⟨p,vs,rfl,.inr z,q vs w⟩
 |ref i=>
  simp only[Ev.e8,Option.map_eq_some_iff]at e;obtain⟨ds,e1,rfl⟩:=e;obtain⟨p,rfl,z⟩:=v1.shape;obtain⟨p',vs,z',q1,w⟩:=hr.read e1;rw[z]at z';cases z';exact nF pins s σ H _ us Q I rv ⟨p,vs,rfl,.inl q1,q vs w⟩
 |str l=>
  cases e;simp only[RV]at v1;obtain⟨rfl,hl⟩:=v1;obtain⟨u,rfl,ru⟩:=vals1 rv;obtain⟨t,rfl⟩:=ru;refine call_list_str (I.ok.hd g.calm) (aW l) t (λh' tk acc' c' hk hS' hacc=>?_) (by simpa[aW]using hl);refine⟨.ref s.heap.objs.size,_,I.laid (t':=tk) (o:=.lst (l.map λc=>.str (aW [c]))) hk (Nat.le_refl _) ?_,rfl,q _ (aG.ofStr l) _ (I.hok.fresh (Nat.le_refl _))⟩;exact⟨by simpa using hl,acc'.toList,c',zZ hacc,by simpa using hS'⟩
 |_=>cases e
theorem Na {p:Pos}(ha:JE G n sc N df m a xa) (h1:("list" : Str)∈G.bl:=by decide +kernel) (qD:sc.names.lookup ("list" : Str)=some .globalImplicit:=by rfl)
  (hst:∀env:Env,starEach [xa] env=[(false,eval xa env)]:=by intro _;rfl):JE G n sc N df m (.eF (.seq a)) (.Call (.Name "list" p) [xa] [] pos):=λX g=>by
 refine PE.of (tH (Jt g) (g.gl qD) (g.bl _ h1) (by decide +kernel) (kX (ha X g) ny (hst _)) (by decide) (by decide) (hst _) rfl) λs H Q q=>?_;obtain⟨r,fr,h,d,h',sr,hr,e,q⟩:=q;simp only[Ev.ev,Ev.cF]at e;obtain⟨src,h3,e1,e⟩:=Ev.ah e;obtain⟨x,h4,e2,e1⟩:=Ev.ah e1;obtain⟨e1,rfl⟩:=Ev.aH e1;refine⟨r,fr,h,x,_,sr,hr,e2,λv H1 r1 v1 hr1 f1=>?_⟩;have hz:src.1.length<=sizeLine:=by
  unfold Ev.alloc at e;split at e
  .rename_i z;rw[<-gU];exact z
  .cases e
 exact⟨r1,_,x,src,v,hr1,v1,rfl,e1,hz,λvs w l hl=>((q.later f1).lst e w hr1).2 l hl⟩
theorem Aa{lo:Int}{acc:Array Value}{k:Nat}(h:ItemsOf (λi v=>∃t,v=Value.int (lo+i*1) t) acc k):Vals ((List.range k).map λi=>V.int (lo+(i:Nat))) acc.toList:=by
 obtain⟨h1,h2⟩:=h;subst h1;have go:∀(l:List Value) (b:Nat),(∀j v,l[j]?=some v->∃t,v=Value.int (lo+((b+j:Nat):Int)) t)->Vals ((List.range' b l.length).map λi=>V.int (lo+(i:Nat))) l:=by
  intro l;induction l with
  |nil=>intro b _;exact .nil
  |cons v l ih=>
   intro b hv;rw[List.length_cons,List.range'_succ];refine .cons (by obtain⟨t,e⟩:=hv 0 v (by simp);subst e;exact⟨t,by simp⟩) (ih (b+1) λj w hw=>?_);have:=hv (j+1) w (by simpa using hw);rw[show b+1+j=b+(j+1)by omega];exact this
 have:=go acc.toList 0 λj v hv=>by
  obtain⟨t,e⟩:=h2 j v (by simpa using hv);exact⟨t,by simpa using e⟩
 rw[List.range_eq_range'];simpa using this
theorem aG.ofRange{K:PySem.W.Frag}{H:Hp}{r:List Addr}(lo:Int)(k:Nat):aG K H r (Ev.range lo k) ((List.range k).map λi=>V.int (lo+(i:Nat))):=by
 unfold Ev.range;generalize List.range k=l
 induction l with
 |nil=>exact .nil
 |cons i l ih=>exact .cons rfl ih
end
end Sm
set_option maxRecDepth 100000
namespace Sm
open PySem PySem.Spec PyProof.Rows L2 PySem.SeqAt
open Ev (D O Hh Fr R aO E Es Eo T S Ss Fl Src bU bN TY BI ME)
section
variable{X:Cx}{G:Tb}{n:Nat}{sc:Scope}{N:List Str}{df:Bool}{m:List Nat}{a b c:E}{xa xb xc tg:Expr}{pos:Pos}
theorem Vals.reverse{vs:List V}{us:List Value}(w:Vals vs us):Vals vs.reverse us.reverse:=by
 induction w with
 |nil=>exact .nil
 |cons a _ ih=>rw[List.reverse_cons,List.reverse_cons];exact ih.append (.cons a .nil)
end
end Sm
set_option maxRecDepth 100000
namespace Sm
open PySem PySem.Spec PyProof.Rows L2 PySem.SeqAt
open Ev (D O Hh Fr R aO E Es Eo T S Ss Fl Src bU bN TY BI ME)
section
variable{G:Tb}{n:Nat}{sc:Scope}{N:List Str}{df:Bool}{m:List Nat}{a b c:E}{xa xb xc tg:Expr}{pos:Pos}
theorem El (g:Good G n sc N df X):fR X (.type "tuple") (λxs H Q=>∃r h d x d' h',HR X.K H r h/\RV X.K H r d x/\xs=[x]/\Ev.rT d h=.ok d' h'/\Res X.K r H h' d' Q):=by
 intro pins s σ H xs us Q I rv q;obtain⟨r,h,d,x,d',h',hr,v1,rfl,e,q⟩:=q;cases d with
 |tup ds=>
  cases e;have v2:=v1;obtain⟨p,vs,rfl,z,w⟩:=v1.shape;exact m7 pins s σ H _ us Q I rv ⟨p,vs,rfl,.inr ⟨z,q.here v2 hr⟩⟩
 |ref i=>
  simp only[Ev.rT]at e;split at e
  .rename_i ds e1;split at e
   .cases e;obtain⟨p,rfl,z⟩:=v1.shape;obtain⟨p',vs,z',q1,w⟩:=hr.read e1;rw[z]at z';cases z';exact m7 pins s σ H _ us Q I rv ⟨p,vs,rfl,.inl ⟨q1,λl hl=>q.tup w hr hl⟩⟩
   .cases e
  .cases e
 |_=>cases e
theorem Nb {p:Pos}(ha:JE G n sc N df m a xa) (h1:("tuple" : Str)∈G.bl:=by decide +kernel) (qD:sc.names.lookup ("tuple" : Str)=some .globalImplicit:=by rfl)
  (hst:∀env:Env,starEach [xa] env=[(false,eval xa env)]:=by intro _;rfl):JE G n sc N df m (.iY a) (.Call (.Name "tuple" p) [xa] [] pos):=λX g=>by
 refine PE.of (tH (El g) (g.gl qD) (g.bl _ h1) (by decide +kernel) (kX (ha X g) ny (hst _)) (by decide) (by decide) (hst _) rfl) λs H Q q=>?_;obtain⟨r,fr,h,d,h',sr,hr,e,q⟩:=q;simp only[Ev.ev]at e;obtain⟨x,h3,e1,e⟩:=Ev.ah e;refine⟨r,fr,h,x,_,sr,hr,e1,λv H1 r1 v1 hr1 f1=>?_⟩;exact⟨r1,h3,x,v,d,h',hr1,v1,rfl,e,q.later f1⟩
theorem Nc{st:Stmt}:JS G n sc N df m .eY st:=λX g=>PS.of DA λQ s H q=>by
 obtain⟨r,fr,h,fl,aj,h',sr,hr,e,q⟩:=q;simp only[Ev.ex]at e;cases e
theorem Em{X:Cx}(g:Good G n sc N df X){pins:List (Addr×Obj)}{σ:L2.St}{H:Hp}{s:Shared}{Q:VK}{lo hi:Int}{t u v:Tok}{tk:Nat}(I:Inv X pins σ H s)(h1:-(2 ^ 62)<=lo)(h2:lo<2 ^ 62)(h3:-(2 ^ 62)<=hi)(h4:hi<2 ^ 62)
  (hl:(hi - lo).toNat<=sizeLine) (q:∀l,H l=none->Q (.ref l) (upd H l (.lst ((List.range (hi - lo).toNat).map λi=>V.int (lo+(i:Nat)))))) :
  wpAny (model X.prog X.w) X.A (call (.type "list") [.ref s.heap.objs.size]) (EP X pins σ Q) X.xe { s with heap:=s.heap.push { cls:=.type "range",data:=.fields #[.int lo t,.int hi u,.int 1 v]},toks:=tk }:=by
 have I1:Inv X pins σ H { s with heap:=s.heap.push { cls:=.type "range",data:=.fields #[.int lo t,.int hi u,.int 1 v]},toks:=tk }:=I.kept λb o e=>Heap.get?_push_of_some _ e;have e2:Builtin.Range.rangeSize lo hi 1=(((hi - lo).toNat:Nat):Int):=by rw[rangeSize_one];split<;>omega
 refine call_list_range (n:=(hi - lo).toNat) (I.ok.hd g.calm) (IsRange.new ..) (small_one h1 h2 h3 h4) e2 (by rw[sizeLine_eq]at hl;exact hl) λh' tk' acc' c' hk hS' hacc=>?_;refine⟨.ref _,_,I1.laid (t':=tk') (o:=.lst ((List.range (hi - lo).toNat).map λi=>V.int (lo+(i:Nat)))) hk (Nat.le_refl _) ?_,rfl,q _ (I1.hok.fresh (Nat.le_refl _))⟩;exact⟨by simpa using hl,acc'.toList,c',Aa hacc,by simpa using hS'⟩
theorem En {e1 e2:E}{p p2 pos2:Pos}(hs:JA G n sc N df m (.cons e1 (.cons e2 .nil)) [xa,xb]) (h1:("list" : Str)∈G.bl:=by decide +kernel) (qD:sc.names.lookup ("list" : Str)=some .globalImplicit:=by rfl)
  (hg:sc.names.lookup ("range" : Str)=some .globalImplicit:=by rfl) (hb:("range" : Str)∈G.bl:=by decide +kernel)
  (hst:∀env:Env,starEach [xa,xb] env=[(false,eval xa env),(false,eval xb env)]:=by intro _;rfl) (Nd:∀env:Env,starEach [xb] env=[(false,eval xb env)]:=by intro _;rfl)
  (nK:∀env:Env,starEach [Expr.Call (.Name "range" p2) [xa,xb] [] pos2] env=[(false,eval (Expr.Call (.Name "range" p2) [xa,xb] [] pos2) env)]:=by intro _;rfl) :
  JE G n sc N df m (.eF (.fE (.cons e1 (.cons e2 .nil)))) (.Call (.Name "list" p) [.Call (.Name "range" p2) [xa,xb] [] pos2] [] pos):=λX g=>by
 intro pins s σ H Q I q;obtain⟨r,fr,h,d,h',sr,hr,e,q⟩:=q;simp only[Ev.ev,Ev.cF]at e;replace e:=Ev.ah e;obtain⟨src,h3,e1,e⟩:=e;replace e1:=Ev.ah e1;obtain⟨ds,h4,e2,e1⟩:=e1;replace e1:=Ev.aH e1;obtain⟨e1,y0⟩:=e1;subst y0;refine wpAny_Call_Name_kw (iJ I (g.gl qD) (g.bl _ h1) (show bootBuiltins ("list" : Str)=some (.type "list")by decide +kernel) ?_ (by decide) (by decide));refine PyProof.Rows.callWith_type1 ?_ (nK _) rfl;rw[nK];show wpAny _ _ (spliced ((false,eval (Expr.Call (.Name "range" p2) [xa,xb] [] pos2) X.env) :: backTo pos [])) _ _ s;refine Calls.spliced_cons ?_;refine Call_ (iJ I (g.gl hg) (g.bl _ hb) boot_range (PyProof.Rows.callWith_type1 (bF ((hs X g) pos2 pins s σ H (λvs H1=>∃r1,aG X.K H1 r1 ds vs/\HR X.K H1 r1 h3/\Fm X.K r r1 H H1) I ⟨r,fr,h,ds,h3,sr,hr,e2,λvs H1 r1 v1 hr1 f1=>⟨r1,v1,hr1,f1⟩⟩) λus s1 z=>?_) (by rw[hst,Nd]) (by rw[Nd];rfl)))
 .obtain⟨vs,H1,I1,rv,r1,v1,hr1,f1⟩:=z;unfold Ev.er at e1;split at e1
  .exfalso;simp only[Ev.cg]at e2;obtain⟨d,_,_,e2⟩:=Ev.ah e2;obtain⟨d2,_,e3,e2⟩:=Ev.ah e2;obtain⟨d3,_,e4,e3⟩:=Ev.ah e3;simp only[Ev.ak]at e3;cases e3;cases e2
  .rename_i i j;split at e1
   .rename_i hj;cases e1;simp only[aG,RV]at v1;obtain⟨v,w,rfl,rfl,v',w',rfl,rfl,rfl⟩:=v1;cases rv with
    |cons ra rb=>
    cases rb with
    |cons rb rc=>
    cases rc;obtain⟨t,rfl⟩:=ra;obtain⟨u,rfl⟩:=rb;refine call_range_2 ?_;refine Calls.spliced_nil ?_;have hz:(j - i).toNat<=sizeLine:=by
     unfold Ev.alloc at e;split at e
     .rename_i z;rw[<-gU];simpa[Ev.range]using z
     .cases e
    refine Em g I1 hj.1 hj.2.1 hj.2.2.1 hj.2.2.2 hz λl hl=>?_;exact((q.later f1).lst e (aG.ofRange i (j - i).toNat) hr1).2 l hl
   .cases e1
  .cases e1
end
section
variable{prog:Program}{w:World}{A:Around}{E:Value->Shared->Prop}{s:Shared}
end
end Sm
set_option maxRecDepth 100000
namespace Sm
open PySem PySem.Spec PyProof.Rows L2 PySem.SeqAt
open Ev (D O Hh Fr R aO E Es Eo T S Ss Fl Src bU bN TY BI ME)
section
variable{G:Tb}{n:Nat}{sc:Scope}{N:List Str}{df:Bool}{m:List Nat}{a b c:E}{xa xb xc:Expr}{pos:Pos}
end
end Sm
set_option maxRecDepth 100000
namespace Sm
open PySem PySem.Spec PyProof.Rows L2 PySem.SeqAt
open Ev (D O Hh Fr R aO E Es Eo T S Ss Fl Src bU bN TY BI ME)
section
variable{G:Tb}{n:Nat}{sc:Scope}{N:List Str}{df:Bool}{m:List Nat}{a b c:E}{xa xb xc:Expr}{pos:Pos}
end
end Sm
set_option maxRecDepth 100000
namespace Sm
open PySem PySem.Spec PyProof.Rows L2 PySem.SeqAt
open Ev (D O Hh Fr R aO E Es Eo T S Ss Fl Src bU bN TY BI ME)
section
variable{X:Cx}{G:Tb}{n:Nat}{sc:Scope}{N:List Str}{df:Bool}{m:List Nat}{a b c:E}{xa xb xc xd tg:Expr}{pos:Pos}
end
end Sm
set_option maxRecDepth 100000
namespace Rv
open PySem PyProof.Rows
theorem nL:Manifest.owners.lookup (String.ofList ['d','e','s','r','e','v','e','r'].reverse)=some Manifest.sig_reversed:=by kernel_rfl
theorem slot_next:Slot "reversed" "__next__" "reversed.__next__" :=
 .of (owner:="reversed") (n:="__next__") (by rw[typeLookup_type,builtinLookup_eq_fast];kernel_rfl) (by decide +kernel) (by decide +kernel) (by decide +kernel)
  (by first|exact .inl (by decide +kernel)|exact .inr (by decide +kernel)) (by rw[isSubtype_type];kernel_rfl)
theorem entry_next:entryFor table "reversed.__next__" = some Builtin.«reversed.__next__»:=entryFor_of_tree (by kernel_rfl)
theorem args_next (a:Value):argsOk "reversed.__next__" ⟨[a],[]⟩:=by
 unfold argsOk;rw[signature?_of (id:="reversed.__next__") (n:=['_','_','t','x','e','n','_','_']) (o:=['d','e','s','r','e','v','e','r']) (by kernel_rfl) nL];kernel_rfl
theorem ue:Slot "reversed" "__iter__" "reversed.__iter__" :=
 .of (owner:="reversed") (n:="__iter__") (by rw[typeLookup_type,builtinLookup_eq_fast];kernel_rfl) (by decide +kernel) (by decide +kernel) (by decide +kernel)
  (by first|exact .inl (by decide +kernel)|exact .inr (by decide +kernel)) (by rw[isSubtype_type];kernel_rfl)
theorem B6 (a:Value):argsOk "reversed.__iter__" ⟨[a],[]⟩:=by
 unfold argsOk;rw[signature?_of (id:="reversed.__iter__") (n:=['_','_','r','e','t','i','_','_']) (o:=['d','e','s','r','e','v','e','r']) (by kernel_rfl) nL];kernel_rfl
theorem Ab:entryFor table "reversed.__iter__" = some Builtin.«dict_keyiterator.__iter__»:=
 entryFor_alias (id':="dict_keyiterator.__iter__") (by kernel_rfl) (by first|rfl|decide +kernel | (unfold String.splitOn;simp +decide [String.splitOnAux])) (by decide +kernel) (by kernel_rfl)
theorem nN:Slot "reversed" "__length_hint__" "reversed.__length_hint__" :=
 .of (owner:="reversed") (n:="__length_hint__") (by rw[typeLookup_type,builtinLookup_eq_fast];kernel_rfl) (by decide +kernel) (by decide +kernel) (by decide +kernel)
  (by first|exact .inl (by decide +kernel)|exact .inr (by decide +kernel)) (by rw[isSubtype_type];kernel_rfl)
theorem Ac:entryFor table "reversed.__length_hint__" = some Builtin.«reversed.__length_hint__»:=entryFor_of_tree (by kernel_rfl)
theorem B7 (a:Value):argsOk "reversed.__length_hint__" ⟨[a],[]⟩:=by
 unfold argsOk;rw[signature?_of (id:="reversed.__length_hint__") (n:=['_','_','t','n','i','h','_','h','t','g','n','e','l','_','_']) (o:=['d','e','s','r','e','v','e','r']) (by kernel_rfl) nL];kernel_rfl
theorem Nf:typeLookup (.type "reversed") "__len__" = pure none:=by rw[typeLookup_type,builtinLookup_eq_fast];kernel_rfl
theorem Ng:typeLookup (.type "tuple") "__reversed__" = pure none:=by rw[typeLookup_type,builtinLookup_eq_fast];kernel_rfl
section
variable{prog:Program}{w:World}{A:Around}{E:Value->Shared->Prop}{s:Shared}
theorem B8:Slot "reversed" "__init__" "object.__init__" :=
 .of (owner:="object") (n:="__init__") (by rw[typeLookup_type,builtinLookup_eq_fast];kernel_rfl) (by decide +kernel) (by decide +kernel) (by decide +kernel)
  (by first|exact .inl (by decide +kernel)|exact .inr (by decide +kernel)) (by rw[isSubtype_type];kernel_rfl)
theorem called:TypeCalled "reversed" "reversed.__new__" "object.__init__" :=
 ⟨by decide +kernel,by decide +kernel,⟨_,_,F.mro_reversed⟩,F.made_reversed,by decide +kernel,F.sub_reversed_self,B8⟩
noncomputable def gR (h:Heap) (a t:Addr) (i:Int):Prop:=∃o,h.get? a=some o/\o.cls=.type "reversed" /\o.data=.fields #[.ref t,rawInt i]
theorem gR.typeIs {a l:Addr}{i:Int}(x:gR s.heap a l i):s.TypeIs (.ref a) "reversed" :=let ⟨o,ho,hc,_⟩:=x;⟨o,ho,hc⟩
theorem gR.at{h h':Heap}{a l:Addr}{i:Int}(x:gR h a l i)(e:∀o,h.get? a=some o->h'.get? a=some o):gR h' a l i:=let ⟨o,ho,r⟩:=x;⟨o,e _ ho,r⟩
noncomputable def oU (l:Addr) (i:Int):Obj:={ cls:=.type "reversed",data:=.fields #[.ref l,rawInt i]}
theorem oV{h h':Heap}{t:Addr}{items:Array Value}(x:IsTup h t items)(e:∀o,h.get? t=some o->h'.get? t=some o):IsTup h' t items:=let ⟨o,ho,r⟩:=x;⟨o,e _ ho,r⟩
theorem Ep{t:Addr}{items:Array Value}{Q₁:Value->Shared->Prop}(ht:IsTup s.heap t items)(hfit:(items.size:Int)<2 ^ 63)
  (h:Q₁ (.ref s.heap.objs.size) { s with heap:=s.heap.push (oU t ((items.size:Int) - 1)),toks:=s.toks+1+1 }) :
  codeAny (model prog w) A (.call (.builtin "reversed.__new__") ⟨[.type "reversed",.ref t],[]⟩) (wants Q₁ E) s:=by
 refine codeAny_of_tree ?_;show wpAny _ A.in1 (do checkBuiltinCall "reversed.__new__" ⟨[.type "reversed",.ref t],[]⟩;again (.builtin "reversed.__new__" ⟨[.type "reversed",.ref t],[]⟩)) _ _ s;refine wpAny_bind (wpAny_of_eq (F.newCall_reversed_1 _) (wpAny_pure ⟨plainId_quiet F.plain_reversed_new _,codeAny_builtin F.entry_reversed_new ?_⟩));rw[Around.under_plainId F.plain_reversed_new _];unfold Builtin.«reversed.__new__»;refine wpAny_bind (wpAny_of_eq (newClass_reversed _) ?_);try dsimp only
 refine wpAny_bind (wpAny_of_eq (a:=()) (by first|rfl|kernel_rfl) ?_);refine wpAny_bind (wpAny_of_eq (a:=()) (by first|rfl|kernel_rfl) ?_);try dsimp only
 refine wpAny_bind (wpAny_specialOf ht.typeIs Ng ?_);try dsimp only
 refine wpAny_bind ?_
 wp_delta
 refine wpAny_bind (wpAny_isInstance (T:="tuple") (b:=false) ht.typeIs (by rw[isSubtype_type];kernel_rfl) ?_);refine wpAny_ite_split (λhab=>absurd hab (by decide)) (λ_=>?_);refine wpAny_bind (wpAny_specialOf ht.typeIs slot_tuple_getitem.lookup ?_);try dsimp only
 refine wpAny_ite_split (λ_=>?_) (λhab=>absurd (by decide) hab);refine wpAny_pure ?_;refine wpAny_ite_split (λhab=>absurd hab (by decide)) (λ_=>?_);refine wpAny_bind (len_tuple ht hfit ?_);refine wpAny_bind (m:=asInt? _) (wpAny_pure ?_);try dsimp only
 refine wpAny_bind (m:=Builtin.SmallTypes.newRecord _ _) ?_;unfold Builtin.SmallTypes.newRecord;refine wpAny_newObj_type ?_ (by size_fits);exact wpAny_pure h
theorem Er{t:Addr}{items:Array Value}{Q:Value->Shared->Prop}(ht:IsTup s.heap t items)(hfit:(items.size:Int)<2 ^ 63)
  (h:Q (.ref s.heap.objs.size) { s with heap:=s.heap.push (oU t ((items.size:Int) - 1)),toks:=s.toks+1+1 }):wpAny (model prog w) A (call (.type "reversed") [.ref t]) Q E s:=by
 refine callType_codes (Q₁:=λobj s₁=>obj=.ref s.heap.objs.size/\s₁={ s with heap:=s.heap.push (oU t ((items.size:Int) - 1)),toks:=s.toks+1+1 }) called (F.typeCall_reversed_1 _) F.entry_object_init (Ep ht hfit ⟨rfl,rfl⟩) ?_;rintro obj s₁ ⟨rfl,rfl⟩;have hT:({ s with heap:=s.heap.push (oU t ((items.size:Int) - 1)),toks:=s.toks+1+1 }:Shared).TypeIs (.ref s.heap.objs.size) "reversed" :=⟨_,Heap.get?_push_size _ rfl,rfl⟩
 refine⟨hT,F.args_object_init_2 _ _,?_⟩;exact object_init_meets (self:=Value.ref s.heap.objs.size) (rest:=[Value.ref t]) called.init.lookup called.made (by decide) prog w A.in1 _ _ ⟨hT,rfl,h⟩
theorem next_item{it t:Addr}{i:Nat}{items:Array Value}{x:Value}{Q:Option Value->Shared->Prop}(hit:gR s.heap it t (i:Int))(ht:IsTup s.heap t items)(hx:items[i]?=some x)(hfit:(items.size:Int)<2 ^ 62)
  (hQ:∀h' tk,gR h' it t ((i:Int) - 1)->Heap.SameBut it s.heap h'->Q (some x) { s with heap:=h',toks:=tk }):wpAny (model prog w) A (pyNext (.ref it)) Q E s:=by
 obtain⟨o,ho,hc,hd⟩:=id hit;have hi:i<items.size:=(Array.getElem?_eq_some_iff.mp hx).1;unfold pyNext;refine wpAny_bind (wpAny_attempt (wpAny_callSpecial?_slot (name:=Str.ofString "__next__") hit.typeIs slot_next
  (wpAny_call_entry slot_next hit.typeIs entry_next ?_ (args_next _))))
 unfold Builtin.«reversed.__next__»;refine wpAny_bind (wpAny_of_eq (a:=(Value.ref it,[])) rfl ?_);try dsimp only
 refine wpAny_bind (wpAny_field ho hd (x:=.ref t) rfl ?_);refine wpAny_bind (wpAny_field ho hd (x:=rawInt (i:Int)) rfl ?_);show wpAny _ _ (if (i:Int)<0 then _ else _) _ _ s;rw[if_neg (by omega)];try dsimp only
 refine wpAny_bind (wpAny_specialOf ht.typeIs slot_tuple_getitem.lookup ?_);try dsimp only
 refine wpAny_ite_split (λhab=>absurd hab (by decide)) (λ_=>?_);refine wpAny_bind (wpAny_mkInt ?_);refine wpAny_bind (wpAny_attempt (getItem_tuple (j:=i) ht (by omega) (by omega) (by unfold seqIndex?;simp;omega) hx ?_));try dsimp only
 refine wpAny_bind (wpAny_field ho hd (x:=rawInt (i:Int)) rfl ?_);show wpAny _ _ (setField (.ref it) 1 (rawInt ((i:Int) - 1)) >>= _) _ _ _;refine wpAny_bind (wpAny_setField ho hd (by simp) ?_);refine wpAny_pure ⟨x,rfl,wpAny_pure (hQ _ _ ?_ (Heap.SameBut.update ..))⟩;exact⟨_,Heap.get?_update_self _ ho (Obj.isFreed_of_fields (Obj.data_mapFields hd _)),(Obj.cls_mapFields ..).trans hc,by
  rw[Obj.data_mapFields hd];simp⟩
theorem next_end{it t:Addr}{Q:Option Value->Shared->Prop}(hh:A.handled=none)(hit:gR s.heap it t (-1))
  (hQ:∀h',Heap.ExtBut it s.heap h'->Q none { s with heap:=h' }):wpAny (model prog w) A (pyNext (.ref it)) Q E s:=by
 obtain⟨o,ho,hc,hd⟩:=id hit;unfold pyNext;refine wpAny_bind (wpAny_attempt (wpAny_callSpecial?_slot (name:=Str.ofString "__next__") hit.typeIs slot_next
  (wpAny_call_entry slot_next hit.typeIs entry_next ?_ (args_next _))))
 unfold Builtin.«reversed.__next__»;refine wpAny_bind (wpAny_of_eq (a:=(Value.ref it,[])) rfl ?_);try dsimp only
 refine wpAny_bind (wpAny_field ho hd (x:=.ref t) rfl ?_);refine wpAny_bind (wpAny_field ho hd (x:=rawInt (-1)) rfl ?_);show wpAny _ _ (if (-1:Int)<0 then _ else _) _ _ s;rw[if_pos (by decide)];refine wpAny_bind (wpAny_rule ?_);refine wpAny_bind ?_
 wp_delta
 refine wpAny_bind (wpAny_setField ho hd (by simp) ?_);have ho2:=Heap.get?_update_self (Obj.mapFields λx=>x.setIfInBounds 1 (rawInt (-1))) ho (Obj.isFreed_of_fields (Obj.data_mapFields hd _));refine wpAny_setField ho2 (Obj.data_mapFields hd _) (by simp) ?_;refine wpAny_bind ?_;unfold Builtin.SmallTypes.stopIteration;first
 |show wpAny _ _ (newExc (.type "StopIteration") [] >>= _) _ _ _
 | (refine wpAny_bind ?_;show wpAny _ _ (newExc (.type "StopIteration") [] >>= _) _ _ _)
 refine wpAny_bind ?_;simp only[newExc,newTuple];refine wpAny_bind (wpAny_newObj_type ?_ (by size_fits));refine wpAny_bind (m:=firstArgMember _ _) (wpAny_of_eq (a:=Value.none) (by first|rfl | (simp only[firstArgMember];rfl)) ?_);refine wpAny_newObj_type ?_ (by size_fits);simp only[raiseNew];refine wpAny_bind (wpAny_handled ?_);first|rw[show A.in1.handled=none from hh]|rw[hh]
 refine wpAny_bind (wpAny_pure (wpAny_throw ?_));refine wpAny_bind (wpAny_isInstance (T:="StopIteration") (b:=true) ⟨_,Heap.get?_push_size _ rfl,rfl⟩ isSubtype_stop ?_);exact wpAny_pure (hQ _ ((((Heap.SameBut.update ..).extBut.trans (Heap.SameBut.update ..).extBut).push _).push _))
theorem vN{it t:Addr}{i:Int}{Q:Value->Shared->Prop}(hit:gR s.heap it t i)(h:Q (.ref it) s):wpAny (model prog w) A (pyIter (.ref it)) Q E s:=by
 refine wpAny_pyIter_slot hit.typeIs ue (wpAny_call_entry ue hit.typeIs Ab ?_ (B6 _));show wpAny _ _ (ret (.ref it)) _ _ s;exact wpAny_pure ⟨_,rfl,"reversed",_,hit.typeIs,slot_next.lookup,h⟩
theorem Et{it t:Addr}{items:Array Value}{Q:Bool->Shared->Prop}(hit:gR s.heap it t ((items.size:Int) - 1))(ht:IsTup s.heap t items)(hfit:items.size<=sizeLine)
  (h:∀tk,Q ((items.size:Int) != 0) { s with toks:=tk }):wpAny (model prog w) A (Builtin.List.listLengthHint (.ref it)) Q E s:=by
 obtain⟨o,ho,hc,hd⟩:=id hit;unfold Builtin.List.listLengthHint;refine wpAny_bind (wpAny_specialOf hit.typeIs Nf ?_);refine wpAny_ite_split (λhab=>absurd hab (by decide +kernel)) (λ_=>?_);refine wpAny_ite_split (λhab=>absurd hab (by decide)) (λ_=>?_);refine wpAny_bind (wpAny_specialOf hit.typeIs nN.lookup ?_);generalize hid:("reversed.__length_hint__" : String)=Nh
 dsimp only;rw[show splitId Nh=some ("reversed","__length_hint__")from by subst hid;decide +kernel];subst hid;dsimp only;refine wpAny_bind (wpAny_isInstance (T:="reversed") (b:=true) hit.typeIs (by rw[isSubtype_type];kernel_rfl) ?_);refine wpAny_ite_split (λhab=>absurd hab (by decide)) (λ_=>?_);refine wpAny_ite_split (λhab=>absurd hab (by decide +kernel)) (λ_=>?_);refine wpAny_bind (wpAny_rule ?_);refine wpAny_bind (wpAny_of_eq (nN.bind _) ?_);refine wpAny_bind (wpAny_attempt (wpAny_call_entry nN hit.typeIs Ac ?_ (B7 _)));unfold Builtin.«reversed.__length_hint__»;refine wpAny_bind (wpAny_of_eq (a:=Value.ref it) rfl ?_);refine wpAny_bind (wpAny_field ho hd (x:=.ref t) rfl ?_);refine wpAny_ite_split (λhab=>absurd hab Bool.false_ne_true) (λ_=>?_);have hf2:(items.size:Int)<2 ^ 63:=by rw[sizeLine_eq]at hfit;omega
 refine wpAny_bind (len_tuple ht hf2 ?_);refine wpAny_bind (m:=asInt? _) (wpAny_pure ?_);refine wpAny_bind (wpAny_field ho hd (x:=rawInt ((items.size:Int) - 1)) rfl ?_);show wpAny _ _ (if (items.size:Int)<(items.size:Int) - 1+1 then _ else _) _ _ _;rw[if_neg (by omega)];have e1:(items.size:Int) - 1+1=(items.size:Int):=by omega
 rw[e1];unfold retInt;refine wpAny_bind (wpAny_mkInt (wpAny_pure ⟨_,rfl,?_⟩));generalize s.toks+1+1=tk
 show wpAny _ _ (asInt? (Value.int (items.size:Int) tk) >>= _) _ _ _;refine wpAny_bind ?_;refine wpAny_pure (a:=some (items.size:Int)) ?_;have XT:Builtin.List.listFitsIndex (items.size:Int)=true:=by unfold Builtin.List.listFitsIndex;rw[decide_eq_true (by omega),decide_eq_true (by omega)];rfl
 show wpAny _ _ (if (!Builtin.List.listFitsIndex (items.size:Int))=true then _ else _) _ _ _;rw[if_neg (by rw[XT];decide)];show wpAny _ _ (if (items.size:Int)<0 then _ else _) _ _ _;rw[if_neg (by omega)];have XU:Builtin.List.listTooLong ((items.size:Int).toNat)=false:=by unfold Builtin.List.listTooLong;rw[Int.toNat_natCast];exact decide_eq_false (by omega)
 show wpAny _ _ (if Builtin.List.listTooLong ((items.size:Int).toNat)=true then _ else _) _ _ _;rw[if_neg (by rw[XU];decide)];exact wpAny_pure (h _)
theorem _root_.PySem.Walks.Ni(hh:A.handled=none)(I t:Addr)(hne:t≠I)(items:Array Value)(hfit:(items.size:Int)<2 ^ 62) :
  Walks prog w A I [I,t] [I] items.size (λi v=>items[items.size - 1 - i]?=some v) (λi h=>i<=items.size/\gR h I t ((items.size:Int) - 1 - (i:Int))/\IsTup h t items) where
 sub:=λb hb=>by simp at hb;simp[hb]
 frame:=λ_ _ _ x hk=>⟨x.1,x.2.1.at λo e=>hk I (by simp) o e,oV x.2.2 λo e=>hk t (by simp) o e⟩
 item:=λi s Q E hi x hQ=>by
  have e:(items.size:Int) - 1 - (i:Int)=((items.size - 1 - i:Nat):Int):=by omega
  have hit:=x.2.1;rw[e]at hit;have hx:items[items.size - 1 - i]?=some (items[items.size - 1 - i]'(by omega)):=Array.getElem?_eq_getElem (by omega);refine next_item hit x.2.2 hx hfit λh' tk Nj hs'=>?_;have e2:((items.size - 1 - i:Nat):Int) - 1=(items.size:Int) - 1 - ((i+1:Nat):Int):=by omega
  rw[e2]at Nj;exact hQ _ h' tk hx ⟨hi,Nj,oV x.2.2 λo eo=>(hs'.2 t hne).trans eo⟩ λb o hb eo=>hs'.extBut b o (λh=>hb (by simp[h])) eo
 done:=λs Q E x hQ=>by
  have e:(items.size:Int) - 1 - (items.size:Int) = -1:=by omega
  have hit:=x.2.1;rw[e]at hit;exact next_end hh hit λh' he'=>hQ h' s.toks λb o hb eo=>he' b o (λh=>hb (by simp[h])) eo
 self:=λ_ _ _ _ x hQ=>vN x.2.1 hQ
theorem Ad{R:Result->Shared->Prop}{I t:Addr}{items:Array Value}(hh:A.handled=none)(hit:gR s.heap I t ((items.size:Int) - 1))(ht:IsTup s.heap t items)(hne:t≠I)(hlen:items.size<=sizeLine)
  (S:Addr) (hSI:S≠I) (hSt:S≠t) (res:Value) (c₀:Nat) (hS:s.heap.get? S=some { cls:=.type "list",data:=.seq #[] c₀ })
  (hR:∀h' tk acc' c',(∀b o,b≠S->b≠I->s.heap.get? b=some o->h'.get? b=some o)->h'.get? S=some { cls:=.type "list",dict:=none,data:=.seq acc' c',slots:=#[]}->
   ItemsOf (λi v=>items[items.size - 1 - i]?=some v) acc' items.size->R (.ok (.ret res)) { s with heap:=h',toks:=tk }) :
  wpAny (model prog w) A.in1 (Builtin.List.listExtendWith (.ref S) (.ref I) res)
   (λfin s'=>match fin with|.done f=>R (.ok f) s'|.again c'=>c'.quiet=true/\codeAny (model prog w) A c' R s') (λe s'=>R (.error e) s') s:=by
 have hf:(items.size:Int)<2 ^ 62:=by rw[sizeLine_eq]at hlen;omega
 have hSf:S∉[I,t]:=λhm=>by rcases List.mem_cons.mp hm with e|e;exact hSI e;exact hSt (List.mem_singleton.mp e)
 have W:=(Walks.Ni (prog:=prog) (w:=w) (A:=A.in1) hh I t hne items hf).toS;have key:∀(h:Heap) (c₁ tk:Nat),gR h I t ((items.size:Int) - 1 - ((0:Nat):Int))->IsTup h t items->(∀b o,b≠S->s.heap.get? b=some o->h.get? b=some o)->
   h.get? S=some { cls:=.type "list",data:=.seq #[] c₁ }->codeAny (model prog w) A (.builtin "list.extend.loop" ⟨[.ref S,.ref I,res],[]⟩) R { s with heap:=h,toks:=tk }:=by
  intro h c₁ tk hit ht hk Ae;refine codeAny_extend_loopS W hlen S hSf res items.size 0 _ #[] c₁ rfl (Nat.zero_le _) ⟨Nat.zero_le _,hit,ht⟩ Ae (ItemsOf.nil _) λs' acc' c' hm hS' hacc=>?_;rw[Moved.eq_with hm];refine hR s'.heap s'.toks acc' c' (λb o hb hb2 e=>hm.heap b o (λhmem=>?_) (hk b o hb e)) hS' hacc;rcases List.mem_cons.mp hmem with e'|hmem
  .exact hb e'
  .exact hb2 (List.mem_singleton.mp hmem)
 unfold Builtin.List.listExtendWith;refine wpAny_bind (wpAny_typeOf (T:="reversed") hit.typeIs ?_);have h1:Builtin.List.listSameRef (.ref S) (.ref I)=false:=by simp[Builtin.List.listSameRef,hSI]
 have h2:(Value.type "reversed" ==Value.type "list")=false:=by decide
 have h3:(Value.type "reversed" ==Value.type "tuple")=false:=by decide
 simp only[h1,h2,h3,Bool.or_false,Bool.false_eq_true,if_false];refine wpAny_bind (vN hit ?_);refine wpAny_bind (wpAny_holding (Et hit ht hlen λtk=>?_));have Nk:gR s.heap I t ((items.size:Int) - 1 - ((0:Nat):Int)):=by simpa using hit
 refine wpAny_ite_split (λ_=>?_) (λ_=>wpAny_pure ⟨plainId_quiet F.plain_extend_loop _,key _ c₀ _ Nk ht (λb o _ e=>e) hS⟩);refine wpAny_bind (wpAny_rule ?_);refine wpAny_bind ?_;show wpAny _ _ (updateSeq S (·.push .none) >>= λ_=>updateSeq S (·.pop)) _ _ _;refine wpAny_bind (wpAny_updateSeq hS rfl ?_);have uI:=Heap.get?_update_self (Obj.mapSeq (·.push Value.none)) hS rfl;refine wpAny_updateSeq (hz:=by seq_fits) uI rfl ?_;have QY:=Heap.get?_update_self (Obj.mapSeq (·.pop)) uI rfl;have ot:∀b o,b≠S->s.heap.get? b=some o->((s.heap.update S (Obj.mapSeq (·.push Value.none))).update S (Obj.mapSeq (·.pop))).get? b=some o:=λb o hb e=>(Heap.get?_update_other _ _ (Ne.symm hb)).trans ((Heap.get?_update_other _ _ (Ne.symm hb)).trans e);exact wpAny_pure ⟨plainId_quiet F.plain_extend_loop _,key _ _ _ (Nk.at λo e=>ot _ _ (Ne.symm hSI) e) (oV ht λo e=>ot _ _ (Ne.symm hSt) e) ot QY⟩
theorem Eu{R:Result->Shared->Prop}{I t:Addr}{items:Array Value}(hh:A.handled=none)(hit:gR s.heap I t ((items.size:Int) - 1))(ht:IsTup s.heap t items)(hne:t≠I)(hlen:items.size<=sizeLine)
  (S:Addr) (hSI:S≠I) (hSt:S≠t) (hS:s.heap.get? S=some { cls:=.type "list",data:=.seq #[]})
  (hR:∀h' tk acc' c',(∀b o,b≠S->b≠I->s.heap.get? b=some o->h'.get? b=some o)->h'.get? S=some { cls:=.type "list",dict:=none,data:=.seq acc' c',slots:=#[]}->
   ItemsOf (λi v=>items[items.size - 1 - i]?=some v) acc' items.size->R (.ok (.ret .none)) { s with heap:=h',toks:=tk }) :
  wpAny (model prog w) A.in1 (Builtin.«list.__init__» ⟨[.ref S,.ref I],[]⟩)
   (λfin s'=>match fin with|.done f=>R (.ok f) s'|.again c'=>c'.quiet=true/\codeAny (model prog w) A c' R s') (λe s'=>R (.error e) s') s:=by
 show wpAny _ _ (do let old <-Builtin.List.listItems (.ref S);Builtin.List.listUpdate (.ref S) (λ_=>#[]);letGo old.toList.reverse;Builtin.List.listExtendWith (.ref S) (.ref I) .none) _ _ s;refine wpAny_bind ?_;unfold Builtin.List.listItems;refine wpAny_bind (wpAny_seqItems hS rfl (wpAny_pure ?_));show wpAny _ _ (updateSeq S (λ_=>#[]) >>= λ_=>letGo (#[]:Array Value).toList.reverse >>= λ_=>Builtin.List.listExtendWith (.ref S) (.ref I) .none) _ _ s;refine wpAny_bind (wpAny_updateSeq hS rfl ?_);have uI:=Heap.get?_update_self (Obj.mapSeq (λ_=>(#[]:Array Value))) hS rfl;have Nl:∀b o,b≠S->s.heap.get? b=some o->(s.heap.update S (Obj.mapSeq (λ_=>(#[]:Array Value)))).get? b=some o:=
  λb o hb e=>(Heap.get?_update_other _ _ (Ne.symm hb)).trans e
 refine wpAny_bind (wpAny_letGo ?_);refine Ad hh (hit.at λo e=>Nl _ _ (Ne.symm hSI) e) (oV ht λo e=>Nl _ _ (Ne.symm hSt) e) hne hlen S hSI hSt .none _ uI λh' tk acc' c' hk hS' hacc=>?_;exact hR h' tk acc' c' (λb o hb hb2 e=>hk b o hb hb2 (Nl b o hb e)) hS' hacc
theorem uz{Q:Value->Shared->Prop}{I t:Addr}{items:Array Value}(hh:A.handled=none)(hit:gR s.heap I t ((items.size:Int) - 1))(ht:IsTup s.heap t items)(hne:t≠I)(hlen:items.size<=sizeLine)
  (hQ:∀h' tk acc' c',(∀b o,b≠I->s.heap.get? b=some o->h'.get? b=some o)->
   h'.get? s.heap.objs.size=some { cls:=.type "list",dict:=none,data:=.seq acc' c',slots:=#[]}->ItemsOf (λi v=>items[items.size - 1 - i]?=some v) acc' items.size->Q (.ref s.heap.objs.size) { s with heap:=h',toks:=tk }) :
  wpAny (model prog w) A (call (.type "list") [.ref I]) Q E s:=by
 refine callType_codes (Q₁:=λobj s₁=>obj=.ref s.heap.objs.size/\s₁={ s with heap:=s.heap.push { cls:=.type "list",data:=.seq #[]}}) F.called_list (F.typeCall_list_1 _) F.entry_list_init
  (code_list_new _ ⟨rfl,rfl⟩) λobj s₁ h₁=>?_
 obtain⟨rfl,rfl⟩:=h₁;have hS:(s.heap.push { cls:=.type "list",data:=.seq #[]}).get? s.heap.objs.size=some { cls:=.type "list",data:=.seq #[]}:=Heap.get?_push_size _ rfl;have hI:I<s.heap.objs.size:=by obtain⟨o,ho,_⟩:=hit;exact Heap.lt_size ho
 have hT:t<s.heap.objs.size:=by obtain⟨o,ho,_⟩:=ht;exact Heap.lt_size ho
 refine⟨⟨_,hS,rfl⟩,F.args_list_init_2 _ _,Eu (A:=A.in1) hh (hit.at λo e=>Heap.get?_push_of_some _ e) (oV ht λo e=>Heap.get?_push_of_some _ e) hne hlen _ (Nat.ne_of_gt hI) (Nat.ne_of_gt hT) hS λh' tk acc' c' hk hS' hacc=>?_⟩;exact⟨rfl,hQ h' tk acc' c' (λb o hb e=>hk b o (Nat.ne_of_lt (Heap.lt_size e)) hb (Heap.get?_push_of_some _ e)) hS' hacc⟩
end
end Rv
namespace Sm
open PySem PySem.Spec PyProof.Rows L2 PySem.SeqAt
open Ev (D O Hh Fr R aO E Es Eo T S Ss Fl Src bU bN TY BI ME)
section
variable{X:Cx}{G:Tb}{n:Nat}{sc:Scope}{N:List Str}{df:Bool}{m:List Nat}{a b c:E}{xa xb xc tg:Expr}{pos:Pos}
theorem vO{vs:List V}{us:List Value}(r:Vals vs us){acc:Array Value}(h:ItemsOf (λi v=>us.toArray[us.toArray.size - 1 - i]?=some v) acc us.toArray.size):Vals vs.reverse acc.toList:=by
 obtain⟨h1,h2⟩:=h;have e:acc.toList=us.reverse:=by
  apply List.ext_getElem?;intro i;by_cases hi:i<us.length
  .have ha:i<acc.size:=by rw[h1];simpa using hi
   have:=h2 i _ (Array.getElem?_eq_getElem ha);rw[List.getElem?_reverse hi];simp only[List.size_toArray,List.getElem?_toArray]at this;rw[this];simp[ha]
  .have hs:acc.size=us.length:=by rw[h1];simp
   rw[List.getElem?_eq_none (by rw[Array.length_toList];omega),List.getElem?_eq_none (by rw[List.length_reverse];omega)]
 rw[e];exact Vals.reverse r
theorem Ju {p p2 pos2:Pos}(ha:JE G n sc N df m a xa) (h1:("list" : Str)∈G.bl:=by decide +kernel) (qD:sc.names.lookup ("list" : Str)=some .globalImplicit:=by rfl)
  (hg:sc.names.lookup ("reversed" : Str)=some .globalImplicit:=by rfl) (hb:("reversed" : Str)∈G.bl:=by decide +kernel)
  (hst:∀env:Env,starEach [xa] env=[(false,eval xa env)]:=by intro _;rfl)
  (nK:∀env:Env,starEach [Expr.Call (.Name "reversed" p2) [xa] [] pos2] env=[(false,eval (Expr.Call (.Name "reversed" p2) [xa] [] pos2) env)]:=by intro _;rfl) :
  JE G n sc N df m (.eF (.rev a)) (.Call (.Name "list" p) [.Call (.Name "reversed" p2) [xa] [] pos2] [] pos):=λX g=>by
 intro pins s σ H Q I q;obtain⟨r,fr,h,d,h',sr,hr,e,q⟩:=q;rw[Ev.ev,Ev.cF]at e;replace e:=Ev.ah e;obtain⟨src,h3,e1,e⟩:=e;replace e1:=Ev.ah e1;obtain⟨x,h4,e2,e1⟩:=e1;replace e1:=Ev.aH e1;obtain⟨e1,y0⟩:=e1;subst y0;refine wpAny_Call_Name_kw (iJ I (g.gl qD) (g.bl _ h1) (show bootBuiltins ("list" : Str)=some (.type "list")by decide +kernel) ?_ (by decide) (by decide));refine PyProof.Rows.callWith_type1 ?_ (nK _) rfl;rw[nK];show wpAny _ _ (spliced ((false,eval (Expr.Call (.Name "reversed" p2) [xa] [] pos2) X.env) :: backTo pos [])) _ _ s;refine Calls.spliced_cons ?_;have Nn:PA X [xa] _:=kX (ha X g) ny (by rw[hst];rfl);refine Call_ (iJ I (g.gl hg) (g.bl _ hb) (show bootBuiltins ("reversed" : Str)=some (.type "reversed")by decide +kernel) (PyProof.Rows.callWith_type1 (bF (Nn pos2 pins s σ H (λvs H1=>∃r1 u,vs=[u]/\RV X.K H1 r1 x u/\HR X.K H1 r1 h3/\Fm X.K r r1 H H1) I ⟨r,fr,h,x,h3,sr,hr,e2,λu H1 r1 v1 hr1 f1=>⟨r1,u,rfl,v1,hr1,f1⟩⟩) λus s1 z=>?_) (hst _) rfl));obtain⟨vs,H1,I1,rv,r1,u,rfl,v1,hr1,f1⟩:=z;cases x<;>simp only[Ev.DZ,Option.map,reduceCtorEq]at e1
 rename_i ds;cases e1;obtain⟨t,ws,rfl,z,w⟩:=v1.shape;cases rv with
 |cons ra rb=>
 cases rb;cases ra;obtain⟨its,pv,pt,hz⟩:=I1.tuple z;have hlen:its.toArray.size<=sizeLine:=by rw[List.size_toArray,<-pv.length];exact hz
 have hf:(its.toArray.size:Int)<2 ^ 63:=by rw[sizeLine_eq]at hlen;omega
 refine Rv.Er pt hf ?_;refine Calls.spliced_nil ?_;have I2:Inv X pins σ H1 { s1 with heap:=s1.heap.push (Rv.oU t ((its.toArray.size:Int) - 1)),toks:=s1.toks+1+1 }:=I1.kept λb o e=>Heap.get?_push_of_some _ e;have hne:t≠s1.heap.objs.size:=by obtain⟨o,ho,_⟩:=pt;exact Nat.ne_of_lt (Heap.lt_size ho)
 refine Rv.uz (I1.ok.hd g.calm) ⟨_,Heap.get?_push_size _ rfl,rfl,rfl⟩ (Rv.oV pt λo e=>Heap.get?_push_of_some _ e) hne hlen λh' tk acc' c' hk hS' hacc=>?_;obtain⟨hz2,q2⟩:=(q.later f1).lst e w.reverse hr1;have hp:s1.heap.objs.size<=(s1.heap.push (Rv.oU t ((its.toArray.size:Int) - 1))).objs.size:=by rw[size_push'];exact Nat.le_succ _
 refine⟨.ref _,_,I1.laid (t':=tk) (o:=.lst ws.reverse) (λb u e=>hk b u (Nat.ne_of_lt (Heap.lt_size e)) (Heap.get?_push_of_some _ e)) hp ?_,rfl,q2 _ (I1.hok.fresh hp)⟩;exact⟨by simpa using hz,acc'.toList,c',vO pv hacc,by simpa using hS'⟩
end
end Sm
set_option maxRecDepth 100000
namespace Rv
open PySem PySem.Spec PyProof.Rows
section
variable{prog:Program}{w:World}{A:Around}{E:Value->Shared->Prop}{s:Shared}
theorem B9:typeLookup (.type "list_reverseiterator") "__len__" = pure none:=by rw[typeLookup_type,builtinLookup_eq_fast];kernel_rfl
theorem Ew:typeLookup (.type "list_reverseiterator") "__length_hint__" = pure (some (.builtin "list_reverseiterator.__length_hint__")):=by rw[typeLookup_type,builtinLookup_eq_fast];kernel_rfl
theorem xO{Q:List Value->Shared->Prop}{I:Addr}{fp wr:List Addr}{G:Array GenState->Array GenState->Prop}{n:Nat}{P:Nat->Value->Prop}{St:Nat->Shared->Prop}
  (W:WalksS prog w A.in1 I fp wr G n P St) (hT:∀i s,St i s->s.TypeIs (.ref I) "list_reverseiterator") (hst:St 0 s) (hfp:∀b∈fp,b<s.heap.objs.size) (hI:I∈fp)
  (hQ:∀s' acc,Moved wr G s s'->ItemsOf P acc n->Q acc.toList s') (hn:n<=sizeLine):wpAny (model prog w) A (collect (.ref I)) Q E s:=by
 have hSf:s.heap.objs.size∉fp:=λhm=>Nat.lt_irrefl _ (hfp _ hm);have hSI:s.heap.objs.size≠I:=λe=>hSf (e▸hI);unfold collect;refine wpAny_bind (wpAny_runValue (codeAny_builtin F.entry_proto_collect ?_));rw[Around.under_plainId F.plain_proto_collect _];show wpAny _ A.in1 (newList [] >>= λl=>again (.builtin "list.__iadd__" ⟨[l,.ref I],[]⟩)) _ _ s;refine wpAny_bind (wpAny_newObj_type ?_);refine wpAny_pure ⟨plainId_quiet F.plain_list_iadd _,codeAny_builtin F.entry_list_iadd ?_⟩;rw[Around.under_plainId F.plain_list_iadd _];have lE:=W.frame 0 s (s.heap.push { cls:=.type "list",data:=.seq ([]:List Value).toArray }) s.toks hst (Nat.le_refl _) λb _ o e=>Heap.get?_push_of_some _ e;have Ae:(s.heap.push { cls:=.type "list",data:=.seq ([]:List Value).toArray }).get? s.heap.objs.size=some { cls:=.type "list",data:=.seq ([]:List Value).toArray }:=Heap.get?_push_size _ rfl;have h1:Builtin.List.listSameRef (.ref s.heap.objs.size) (.ref I)=false:=by simp[Builtin.List.listSameRef,hSI]
 show wpAny _ A.in1 (Builtin.List.listExtendWith (.ref s.heap.objs.size) (.ref I) (.ref s.heap.objs.size)) _ _ _;unfold Builtin.List.listExtendWith;refine wpAny_bind (wpAny_typeOf (hT 0 _ lE) ?_);rw[if_neg (by rw[h1];decide)];refine wpAny_bind (W.self 0 _ _ _ lE ?_);refine wpAny_bind (wpAny_holding ?_);unfold Builtin.List.listLengthHint;refine wpAny_bind (wpAny_specialOf (hT 0 _ lE) B9 ?_);show wpAny _ A.in1 (specialOf (Value.ref I) (Str.ofString "__length_hint__") >>= _) _ _ _;refine wpAny_bind (wpAny_specialOf (hT 0 _ lE) Ew ?_);generalize hid:("list_reverseiterator.__length_hint__" : String)=Nh
 wp_delta
 rw[show splitId Nh=some ("list_reverseiterator","__length_hint__")from by subst hid;decide +kernel];subst hid;refine wpAny_bind (wpAny_isInstance (b:=true) (hT 0 _ lE) (by rw[isSubtype_type];kernel_rfl) ?_);refine wpAny_pure ?_;rw[if_neg (by decide)];refine wpAny_pure ⟨plainId_quiet F.plain_extend_loop _,codeAny_extend_loopS W hn _ hSf _ n 0 _ _ _ rfl (Nat.zero_le _) lE Ae (ItemsOf.nil P) λs' acc' c' hm hS' hacc=>?_⟩;show wpAny _ A (load s.heap.objs.size >>= _) _ _ s';refine wpAny_bind (wpAny_load hS' ?_);exact wpAny_pure (hQ s' acc' (Moved.drop_new (o:={ cls:=.type "list",data:=.seq ([]:List Value).toArray }) (tk:=s.toks) hm (Nat.le_refl _)) hacc)
theorem su{Q₁:Value->Shared->Prop}{I:Addr}{fp wr:List Addr}{G:Array GenState->Array GenState->Prop}{n:Nat}{P:Nat->Value->Prop}{St:Nat->Shared->Prop}
  (W:WalksS prog w A.in1.in1 I fp wr G n P St) (hT:∀i s,St i s->s.TypeIs (.ref I) "list_reverseiterator") (hst:St 0 s) (hfp:∀b∈fp,b<s.heap.objs.size) (hI:I∈fp)
  (h:∀s' acc,Moved wr G s s'->ItemsOf P acc n->Q₁ (.ref s'.heap.objs.size) { s' with heap:=s'.heap.push { cls:=.type "tuple",data:=.seq acc }}) (hsz:n<=sizeLine) :
  codeAny (model prog w) A (.call (.builtin "tuple.__new__") ⟨[.type "tuple",.ref I],[]⟩) (wants Q₁ E) s:=by
 refine codeAny_of_tree ?_;show wpAny _ A.in1 (do checkBuiltinCall "tuple.__new__" ⟨[.type "tuple",.ref I],[]⟩;again (.builtin "tuple.__new__" ⟨[.type "tuple",.ref I],[]⟩)) _ _ s;refine wpAny_bind (wpAny_of_eq (F.newCall_tuple_1 _) (wpAny_pure ⟨plainId_quiet F.plain_tuple_new _,codeAny_builtin F.entry_tuple_new ?_⟩));rw[Around.under_plainId F.plain_tuple_new _];have hsub:=sub_tuple_self;have YO:=init_tuple_lookup;have YW:=madeHere_tuple;have hTI:=hT 0 s hst
 wp_walk using wpAny_typeOf hTI,xO (hn:=hsz) W hT hst hfp hI
 intro s' acc hm hacc;show wpAny _ _ (Builtin.Tuple.tupleExact acc.toList.toArray >>= λv=>ret v) _ _ _;unfold Builtin.Tuple.tupleExact;refine wpAny_bind (wpAny_newObj_type ?_ (by show acc.toList.toArray.size<=sizeLine;simp only[Array.toArray_toList];rw[hacc.1];exact hsz));refine wpAny_pure ?_;have e:acc.toList.toArray=acc:=by simp
 rw[e];exact h s' acc hm hacc
theorem sy{Q:Value->Shared->Prop}{I:Addr}{fp wr:List Addr}{G:Array GenState->Array GenState->Prop}{n:Nat}{P:Nat->Value->Prop}{St:Nat->Shared->Prop}
  (W:WalksS prog w A.in1.in1.in1 I fp wr G n P St) (hT:∀i s,St i s->s.TypeIs (.ref I) "list_reverseiterator") (hst:St 0 s) (hfp:∀b∈fp,b<s.heap.objs.size) (hI:I∈fp)
  (hQ:∀s' acc,Moved wr G s s'->ItemsOf P acc n->Q (.ref s'.heap.objs.size) { s' with heap:=s'.heap.push { cls:=.type "tuple",data:=.seq acc }}) (hsz:n<=sizeLine) :
  wpAny (model prog w) A (call (.type "tuple") [.ref I]) Q E s:=by
 refine callType_codes (Q₁:=λobj s₁=>s₁.TypeIs obj "tuple" /\Q obj s₁) F.called_tuple (F.typeCall_tuple_1 _) F.entry_object_init
  (su (hsz:=hsz) W hT hst hfp hI λs' acc hm hacc=>⟨⟨_,Heap.get?_push_size _ rfl,rfl⟩,hQ s' acc hm hacc⟩) λobj s₁ h₁=>?_
 exact⟨h₁.1,F.args_object_init_2 obj _,object_init_meets F.called_tuple.init.lookup F.called_tuple.made (by decide) prog w A.in1 _ s₁ ⟨h₁.1,rfl,h₁.2⟩⟩
theorem sA{Q:Value->Shared->Prop}{I l:Addr}{items:Array Value}(hh:A.handled=none)(hit:s.heap.IsRevIter I l ((items.size:Int) - 1))(hl:s.heap.IsList l items)(hne:l≠I)(hlen:items.size<=sizeLine)
  (hQ:∀(h':Heap) (tk:Nat) (acc:Array Value),(∀b o,b≠I->s.heap.get? b=some o->h'.get? b=some o)->ItemsOf (λi v=>items[items.size - 1 - i]?=some v) acc items.size->
   Q (.ref h'.objs.size) { s with heap:=h'.push { cls:=.type "tuple",data:=.seq acc },toks:=tk }):wpAny (model prog w) A (call (.type "tuple") [.ref I]) Q E s:=by
 have W:=(Walks.listRev (prog:=prog) (w:=w) (A:=A.in1.in1.in1) hh I l hne items).toS;refine sy W (λi s x=>x.2.1.typeIs) ⟨Nat.zero_le _,by simpa using hit,hl⟩ (λb hb=>?_) (by simp) (λs' acc hm hacc=>?_) hlen
 .rcases List.mem_cons.mp hb with rfl|hb
  .obtain⟨o,ho,_⟩:=hit;exact Heap.lt_size ho
  .rw[List.mem_singleton.mp hb];obtain⟨o,ho,_⟩:=hl;exact Heap.lt_size ho
 .rw[Moved.eq_with hm];exact hQ s'.heap s'.toks acc (λb o hb e=>hm.heap b o (λhmem=>hb (List.mem_singleton.mp hmem)) e) hacc
end
end Rv
namespace Sm
open PySem PySem.Spec PyProof.Rows L2 PySem.SeqAt
open Ev (D O Hh Fr R aO E Es Eo T S Ss Fl Src bU bN TY BI ME)
section
variable{X:Cx}{G:Tb}{n:Nat}{sc:Scope}{N:List Str}{df:Bool}{m:List Nat}{a b c:E}{xa xb xc tg:Expr}{pos:Pos}
theorem Np {p p2 pos2:Pos}(ha:JE G n sc N df m a xa) (h1:("tuple" : Str)∈G.bl:=by decide +kernel) (qD:sc.names.lookup ("tuple" : Str)=some .globalImplicit:=by rfl)
  (hg:sc.names.lookup ("reversed" : Str)=some .globalImplicit:=by rfl) (hb:("reversed" : Str)∈G.bl:=by decide +kernel)
  (hst:∀env:Env,starEach [xa] env=[(false,eval xa env)]:=by intro _;rfl)
  (nK:∀env:Env,starEach [Expr.Call (.Name "reversed" p2) [xa] [] pos2] env=[(false,eval (Expr.Call (.Name "reversed" p2) [xa] [] pos2) env)]:=by intro _;rfl) :
  JE G n sc N df m (.m9 a) (.Call (.Name "tuple" p) [.Call (.Name "reversed" p2) [xa] [] pos2] [] pos):=λX g=>by
 intro pins s σ H Q I q;obtain⟨r,fr,h,d,h',sr,hr,e,q⟩:=q;rw[Ev.ev]at e;replace e:=Ev.ah e;obtain⟨x,h3,e2,e⟩:=e;refine wpAny_Call_Name_kw (iJ I (g.gl qD) (g.bl _ h1) (show bootBuiltins ("tuple" : Str)=some (.type "tuple")by decide +kernel) ?_ (by decide) (by decide));refine PyProof.Rows.callWith_type1 ?_ (nK _) rfl;rw[nK];show wpAny _ _ (spliced ((false,eval (Expr.Call (.Name "reversed" p2) [xa] [] pos2) X.env) :: backTo pos [])) _ _ s;refine Calls.spliced_cons ?_;have Nn:PA X [xa] _:=kX (ha X g) ny (by rw[hst];rfl);refine Call_ (iJ I (g.gl hg) (g.bl _ hb) (show bootBuiltins ("reversed" : Str)=some (.type "reversed")by decide +kernel) (PyProof.Rows.callWith_type1 (bF (Nn pos2 pins s σ H (λvs H1=>∃r1 u,vs=[u]/\RV X.K H1 r1 x u/\HR X.K H1 r1 h3/\Fm X.K r r1 H H1) I ⟨r,fr,h,x,h3,sr,hr,e2,λu H1 r1 v1 hr1 f1=>⟨r1,u,rfl,v1,hr1,f1⟩⟩) λus s1 z=>?_) (hst _) rfl));obtain⟨vs,H1,I1,rv,r1,u,rfl,v1,hr1,f1⟩:=z;cases x<;>simp only[Ev.zL,reduceCtorEq]at e
 rename_i i;split at e
 .rename_i ds e1;split at e
  .cases e;obtain⟨t,rfl,z⟩:=v1.shape;obtain⟨t',ws,z',q1,w⟩:=hr1.read e1;rw[z]at z';cases z';cases rv with
   |cons ra rb=>
   cases rb;cases ra;obtain⟨its,pv,pl,hz⟩:=I1.list q1;have hlen:its.toArray.size<=sizeLine:=by rw[List.size_toArray,<-pv.length];exact hz
   refine call_reversed_list pl.isList ?_;refine Calls.spliced_nil ?_;have I2:Inv X pins σ H1 { s1 with heap:=s1.heap.push (revObj t ((its.toArray.size:Int) - 1))}:=I1.kept λb o e=>Heap.get?_push_of_some _ e;have hne:t≠s1.heap.objs.size:=by obtain⟨o,ho,_⟩:=pl.isList;exact Nat.ne_of_lt (Heap.lt_size ho)
   refine Rv.sA (I1.ok.hd g.calm) ⟨_,Heap.get?_push_size _ rfl,rfl,rfl⟩ (pl.isList.at λo e=>Heap.get?_push_of_some _ e) hne hlen λh4 tk acc hk hacc=>?_;have I3:Inv X pins σ H1 { s1 with heap:=h4 }:=I1.kept λb o e=>hk b o (Nat.ne_of_lt (Heap.lt_size e)) (Heap.get?_push_of_some _ e);have I4:Inv X pins σ (upd H1 h4.objs.size (.tup ws.reverse)) { s1 with heap:=h4.push { cls:=.type "tuple",data:=.seq acc },toks:=tk }:=
    I3.laid (t':=tk) (λb o e=>Heap.get?_push_of_some _ e) (Nat.le_refl _) (show dF X.prog X.w _ _ _ (.tup ws.reverse)from ⟨by simpa using hz,acc.toList,vO pv hacc,by simpa using IsTup.new h4 acc⟩)
   exact⟨.ref h4.objs.size,_,I4,rfl,(q.later f1).tup w.reverse hr1 (I3.hok.fresh (Nat.le_refl _))⟩
  .cases e
 .cases e
end
end Sm
set_option maxRecDepth 100000
namespace Sm
open PySem PySem.Spec PyProof.Rows L2 PySem.SeqAt
open Ev (D O Hh Fr R aO E Es Eo T S Ss Fl Src bU bN TY BI ME)
theorem insI_perm(x:Int):∀l,(Ev.insI x l).Perm (x :: l)
 |[]=>.refl _
 |y :: l=>by
  unfold Ev.insI;split
  .exact .refl _
  .exact((insI_perm x l).cons y).trans (.swap x y l)
theorem sortI_perm:∀l,(Ev.sortI l).Perm l
 |[]=>.refl _
 |x :: l=>(insI_perm x _).trans ((sortI_perm l).cons x)
theorem pO(x:Int):∀{l},l.Pairwise (·<=·)->(Ev.insI x l).Pairwise (·<=·)
 |[],_=>List.pairwise_singleton _ _
 |y :: l,h=>by
  unfold Ev.insI;obtain⟨h1,h2⟩:=List.pairwise_cons.mp h;split
  .rename_i hx;exact List.pairwise_cons.mpr ⟨λz hz=>by
    rcases List.mem_cons.mp hz with rfl|hz
    .exact hx
    .exact Int.le_trans hx (h1 z hz),h⟩
  .rename_i hx;refine List.pairwise_cons.mpr ⟨λz hz=>?_,pO x h2⟩;rcases List.mem_cons.mp ((insI_perm x l).mem_iff.mp hz)with rfl|hz
   .omega
   .exact h1 z hz
theorem nO:∀l,(Ev.sortI l).Pairwise (·<=·)
 |[]=>.nil
 |x :: l=>pO x (nO l)
theorem Af{l m:List Int}(h:m.Perm l)(s:m.Pairwise (·<=·)):m=Ev.sortI l:=
 (h.trans (sortI_perm l).symm).eq_of_pairwise (λa b _ _ h1 h2=>Int.le_antisymm h1 h2) s (nO l)
theorem yO:∀{us:List Value}{is:List Int},IntsAre us is->Vals (is.map V.int) us
 |_,_,.nil=>.nil
 |_,_,.cons _ _ h=>.cons ⟨_,rfl⟩ (yO h)
theorem aG.Nq{K:PySem.W.Frag}{H:Hp}{r:List Addr}:∀{ss:List Int},aG K H r (ss.map D.int) (ss.map V.int)
 |[]=>.nil
 |l :: ss=>.cons rfl aG.Nq
end Sm
set_option maxRecDepth 100000
namespace Sm
open PySem PySem.Spec PyProof.Rows L2 PySem.SeqAt
open Ev (D O Hh Fr R aO E Es Eo T S Ss Fl Src bU bN TY BI ME)
theorem vP{kvs:List (Key×Value)}{ns:List Int}(hk:kvs.map (·.1)=ns.map Sum.inl){P:Program}{w:World}:∀{vs:List Value},vs.length=kvs.length->(∀(j:Nat) v,vs[j]?=some v->∃k x,kvs[j]?=some (k,x)/\(cG P w).is k v=true)->IntsAre vs ns:=by
 induction kvs generalizing ns with
 |nil=>
  intro vs hl _;have:ns=[]:=by cases ns with|nil=>rfl|cons n ns=>simp at hk
  subst this;rw[List.eq_nil_of_length_eq_zero hl];exact .nil
 |cons p kvs ih=>
  intro vs hl hv;cases ns with
  |nil=>simp at hk
  |cons n ns=>
   simp only[List.map_cons,List.cons.injEq]at hk;cases vs with
   |nil=>simp at hl
   |cons v vs=>
    obtain⟨k,x,e1,e2⟩:=hv 0 v rfl;simp at e1;subst e1;have hkn:k=Sum.inl n:=hk.1;subst hkn;have e3:Value.isInt n v=true:=e2;obtain⟨t,rfl⟩:∃t,v=.int n t:=by
     cases v<;>simp[Value.isInt]at e3
     exact⟨_,by rw[e3]⟩
    refine .cons n t (ih hk.2 (by simpa using hl) λj u hu=>?_);obtain⟨k',x',e4,e5⟩:=hv (j+1) u (by simpa using hu);exact⟨k',x',by simpa using e4,e5⟩
theorem xP{prog:Program}{w:World}{A:Around}{E:Value->Shared->Prop}{s:Shared}{d:Addr}{kvs:List (Key×Value)}{ns:List Int}{Q:Value->Shared->Prop}(hd:s.heap.DictOf (cG prog w) d kvs)(lo:(d==sysModules)=false)(hh:A.handled=none)(hk:kvs.map (·.1)=ns.map Sum.inl)(h64:kvs.length<64)
  (h:∀(h1 h2:Heap) (tk:Nat) (out:Array Value) (ns':List Int) (e:Nat),(∀b o,s.heap.get? b=some o->h1.get? b=some o)->(∀b o,h1.get? b=some o->h2.get? b=some o)->h2.get? h1.objs.size=some (seqObj "list" out e)->IntsAre out.toList ns'->ns'.Perm ns->ns'.Pairwise (·<=·)->Q (.ref h1.objs.size) { s with heap:=h2,toks:=tk }) :
  wpAny (model prog w) A (call (.builtin "sorted") [.ref d]) Q E s:=by
 obtain⟨ep,hat⟩:=hd.dictAt;have hsz:kvs.length<=sizeLine:=Nat.le_trans (Nat.le_of_lt h64) (by decide);refine Calls.call_function_entry kind_sorted plain_sorted entry_sorted (args_sorted1 _) ?_;unfold Builtin.«sorted»;refine wpAny_bind (m:=checkCount "sorted" 1 1 _) (wpAny_pure ?_);refine wpAny_bind (PySem.W.kdu_collect (A:=A.in1) (PySem.W.kdl_dict (knd:=cG prog w) (kvs:=kvs) (ep:=ep) lo) hh hat hsz λh' tk acc hk' hacc=>?_);have hl:acc.toList.length=kvs.length:=by rw[Array.length_toList];exact hacc.1
 refine wpAny_bind (wpAny_newList ?_ (by rw[hl];exact hsz));have hI:IntsAre acc.toList ns:=vP hk hl λj v e=>hacc.2 j v (by rw[<-Array.getElem?_toList];exact e);have Bc:(h'.push (seqObj "list" acc.toList.toArray 0)).get? h'.objs.size=some (seqObj "list" acc.toList.toArray 0):=Heap.get?_push_size _ rfl;refine wpAny_bind (wpAny_holding (wpAny_call_entry slot_list_sort ⟨_,Bc,rfl⟩ entry_list_sort (list_sort_tree Bc hI (by rw[hl];exact h64) λout ns' a1 a2 a3=>⟨_,rfl,?_⟩) (args_list_sort _)));obtain⟨e,he⟩:=sortedHeap_at (out:=out) Bc;exact wpAny_pure ⟨_,rfl,h h' _ tk out ns' e hk' (λb o e2=>by
  have lt:=Heap.lt_size e2;rw[sortedHeap_old (Nat.ne_of_lt lt) (by rw[size_push'];exact Nat.lt_succ_of_lt lt),Heap.get?_push_ne _ _ _ (Nat.ne_of_lt lt)];exact e2) he a1 a2 a3⟩
theorem yP:∀{kvs:List (Int×List Nat)}{vs:List (Key×Value)},KV (ee kvs) vs->vs.map (·.1)=(kvs.map (·.1)).map Sum.inl/\vs.length=kvs.length
 |[],vs,h=>by cases h;exact⟨rfl,rfl⟩
 |p :: kvs,vs,h=>by
  cases h with
  |cons h1 h2=>
   obtain⟨e1,e2⟩:=yP h2;exact⟨by simp only[List.map_cons,e1,<-h1.1],by simp[e2]⟩
theorem Ex {X:Cx}(hc:X.calm=true):fR X (.builtin "sorted") (tQ X.K (Ev.cX .ko)):=by
 intro pins s σ H xs us Q I r q;obtain⟨rr,h,as,d,h',hr,v1,e,q⟩:=q
 match as,e with
 |[x],e=>
  delta Ev.cX at e;dsimp only at e
  cases hx:Ev.eZ h x with
  |none=>rw[hx]at e;cases e
  |some kvs=>
   rw[hx]at e;dsimp only at e;by_cases h64:kvs.length<64
   .rw[if_pos h64]at e;obtain⟨n,rfl,z⟩:=mD hx;obtain⟨p,z1,z2,z3⟩:=hr.dct z;simp only[aG,RV]at v1;obtain⟨v,w,rfl,⟨p',rfl,z4⟩,rfl⟩:=v1;rw[z1]at z4;cases z4;obtain⟨u,rfl,ru⟩:=vals1 r;cases ru;obtain⟨_,lo,vs,kv,hd⟩:=uE I.hok z2;obtain⟨k1,k2⟩:=yP kv;refine xP hd lo (I.ok.hd hc) k1 (by rw[k2];exact h64) λh1 h2 tk out ns' e2 c1 c2 c3 a1 a2 a3=>?_;have hq:=Af a2 a3;subst hq;obtain⟨hz2,q2⟩:=q.lst e aG.Nq hr;have I1:Inv X pins σ H { s with heap:=h1,toks:=tk }:=I.kept c1;refine⟨.ref h1.objs.size,_,I1.laid (t':=tk) (o:=.lst ((Ev.sortI (kvs.map (·.1))).map V.int)) c2 (Nat.le_refl _) ?_,rfl,q2 _ (I1.hok.fresh (Nat.le_refl _))⟩;exact⟨hz2,out.toList,e2,yO a1,by simpa[seqObj]using c3⟩
   .rw[if_neg h64]at e;cases e
end Sm
set_option maxRecDepth 100000
namespace Sm
open PySem PySem.Spec PyProof.Rows L2 PySem.SeqAt
open Ev (D O Hh Fr R aO E Es Eo T S Ss Fl Src bU bN TY BI ME)
section
variable{G:Tb}{n:Nat}{sc:Scope}{N:List Str}{df:Bool}{m:List Nat}{a b c:E}{xa xb xc:Expr}{pos:Pos}
end
end Sm
set_option maxRecDepth 100000
namespace Sm
open PySem PySem.Spec PyProof.Rows L2 PySem.SeqAt
open Ev (D O Hh Fr R aO E Es Eo T S Ss Fl Src bU bN TY BI ME)
theorem aG.ofInts{K:PySem.W.Frag}{H:Hp}{r:List Addr}:∀ns:List Int,aG K H r (ns.map D.int) (ns.map V.int)
 |[]=>.nil
 |_ :: l=>.cons rfl (aG.ofInts l)
theorem Nr{K:PySem.W.Frag}{H:Hp}{a:Addr}{vs:List V}(hO:rQ H)(hS:fF K H a vs):zM K H a vs:=by
 rcases hS with h|h
 .rcases h with h|⟨o,h⟩
  .rcases hO a with q|⟨o,xs,q⟩
   .rw[q]at h;cases h
   .rw[q]at h;cases h
  .exact .inl ⟨o,h⟩
 .exact .inr h
theorem QZ{K:PySem.W.Frag}{F:List Ev.Fn}{w n f:Nat}{H:Hp}{a:Addr}{ns:List Int}(hO:rQ H)(hS:fF K H a (ns.map V.int)){h':Hh}(e:Ev.run F w n f [.ref 0] [.bP (ns.map D.int)]=.ok (.bl true) h') :
  pJ K F w n f [.ref a] H (λv _=>v=.bl true) λ_ _ _=>False:=by
 refine⟨[a],[.bP (ns.map D.int)],[.ref 0],.bl true,h',.cons (show RV K H [a] (.ref 0) (.ref a)from ⟨a,rfl,rfl⟩) .nil,⟨rfl,λk o hk=>?_,λk l b x y _ _ hk _=>?_
  ,λk l b x y _ _ hk _=>by cases k with|zero=>simp at hk|succ k=>simp at hk
  ⟩,e,λv H' r' v1 _ _=>v1⟩
 .cases k with
  |zero=>
   simp at hk;subst hk;exact⟨a,rfl,_,Nr hO hS,aG.ofInts ns⟩
  |succ k=>simp at hk
 .cases k with
  |zero=>simp at hk
  |succ k=>simp at hk
theorem Jv{F:List Ev.Fn}{wh n f:Nat}{l:PySem.W.OpenLaw}{q:Program}{loose:List Str}{XP:(Str->Option Value)->Heap->Prop}{YP:World->Heap->Prop}{d:DefRec}{K:Params->PySem.W.Frag}{x:Str}(hn:l.most=some 63)(hdf:d.params.defaults=[])(hr:gi n callerA)
  (hY:∀(w:World) (h:Heap),YP w h->(K w.params).In h) (good:∀ns:List Int,ns.length<=63->∃h',Ev.run F wh n f [.ref 0] [.bP (ns.map D.int)]=.ok (.bl true) h')
  (Fo:∀(w:World) (mg:Str->Option Value) (fa:Addr) (h:Heap),(K w.params).In h->h.Ns mainGlobals mg->mg d.name=some (.ref fa)->
   ∃fd:FuncData,(∀(s:Shared) (u:Value),BindsTo s fd ⟨[u],[]⟩ [(x,u)])/\∀base:Heap,(K w.params).In base->base.Ns mainGlobals mg->iZ l.prog w (K w.params) mg base nG n fa fd [x] (pJ (K w.params) F wh n f)) :
  PySem.W.WalkO q loose XP YP l.row.toRowW d [] (λf vs=>PySem.call f vs):=
 L2.DS (n:=63) (k:=n) (x:=x) (CX:=nG) (sp:=λK=>pJ K F wh n f) hn (by decide) hdf hr hY Fo (λK H a ns hl hO hS=>by
  obtain⟨h',e⟩:=good ns hl;exact QZ hO hS e) λ_ _ _ _ z=>z
theorem Ca{P:Program}{w:World}{K:PySem.W.Frag}{mg:Str->Option Value}{base:Heap}{G:Tb}(T:Top P w K mg G)
  (st:∀n,uH P w K mg base G n->uH P w K mg base G (n+1)):∀n,uH P w K mg base G n
 |0=>λf i _=>IZ
 |n+1=>st n (Ca T st n)
structure At(K:PySem.W.Frag)(x:Str)(st:Stmt)(i:FI):Prop where
 name:i.name=x
 ns:PySem.W.nsIn K mainGlobals x=some (some (.ref i.addr))
 fu:tN K x x st i.addr i.fd
 bd:Binds K i.fd i.ps []
end Sm
set_option maxRecDepth 100000
namespace Sm
open PySem PySem.Spec PyProof.Rows L2
open Ev (D O Hh Fr R aO E Es Eo It T S Ss Fl Src bU bN TY BI ME)
section
variable{G:Tb}{n:Nat}{sc:Scope}{N:List Str}{df:Bool}{m:List Nat}{a b c:E}{xa xb xc:Expr}{pos:Pos}
noncomputable def hasB(N:List Str)(m:List Nat)(x:Str)(i:Nat):Bool:=(List.range N.length).any λj=>m[j]?==some i&&N[j]?==some x
theorem hasB.of{x:Str}{i:Nat}(h:hasB N m x i=true):∃j:Nat,m[j]?=some i/\N[j]?=some x:=by
 obtain⟨j,_,q⟩:=List.any_eq_true.mp h;rw[Bool.and_eq_true]at q;exact⟨j,by simpa using q.1,by simpa using q.2⟩
noncomputable def vB (sc:Scope) (N:List Str) (m:List Nat) (x:Str) (i:Nat):Bool:=hasB N m x i&&(sc.names.lookup x==some .local ||sc.names.lookup x==some .cell ||sc.names.lookup x==some .free)&&!(x==("__debug__" : Str))&&!(x==("__classdict__" : Str))
theorem jv{x:Str}{i:Nat}(h:vB sc N m x i=true):JE G n sc N df m (.v i) (.Name x pos):=by
 unfold vB at h;simp only[Bool.and_eq_true,Bool.not_eq_true',Bool.or_eq_true]at h;obtain⟨⟨⟨h1,h2⟩,h3⟩,h4⟩:=h;obtain⟨j,e1,e2⟩:=hasB.of h1;exact VU j i e1 e2 (by rcases h2 with (h2|h2)|h2;exact .inl (by simpa using h2);exact .inr (.inl (by simpa using h2));exact .inr (.inr (by simpa using h2))) h3 h4
noncomputable def gB(sc:Scope)(N:List Str)(df:Bool)(m:List Nat)(x:Str)(i:Nat):Bool:=hasB N m x i&&(sc.names.lookup x==some .local || (df&&sc.names.lookup x==some .cell))&&decide m.Nodup&&decide N.Nodup
theorem gB.of{x:Str}{i:Nat}(h:gB sc N df m x i=true):∃j:Nat,m[j]?=some i/\N[j]?=some x/\(sc.names.lookup x=some .local\/(df=true/\sc.names.lookup x=some .cell))/\m.Nodup/\N.Nodup:=by
 unfold gB at h;simp only[Bool.and_eq_true,Bool.or_eq_true]at h;obtain⟨⟨⟨h1,h2⟩,h3⟩,h4⟩:=h;obtain⟨j,e1,e2⟩:=hasB.of h1;exact⟨j,e1,e2,by rcases h2 with h2|⟨h2,h5⟩;exact .inl (by simpa using h2);exact .inr ⟨h2,by simpa using h5⟩,of_decide_eq_true h3,of_decide_eq_true h4⟩
theorem XW{x:Str}{i:Nat}(h:gB sc N df m x i=true):JG G n sc N df m (.one i) (.Name x pos):=by
 obtain⟨j,e1,e2,e3,e4,e5⟩:=gB.of h;exact Mv j i e4 e5 e1 e2 e3
theorem XX{x:Str}{i:Nat}{l:List Nat}{xs:List Expr}(h:gB sc N df m x i=true)(hs:tS G n sc N df m l xs):tS G n sc N df m (i :: l) (.Name x pos :: xs):=by
 obtain⟨j,e1,e2,e3,e4,e5⟩:=gB.of h;exact D4 j i e4 e5 hs e1 e2 e3
theorem V4{i:Nat}{x:Str}{pos':Pos}(h:gB sc N df m x i=true)(ha:JE G n sc N df m a xa)(hs:∀env:Env,swapsWith xa (some (.Name x pos')) pos.line env=pure false:=by intro _;rfl):JS G n sc N df m (.set i a) (.Assign [.Name x pos'] xa pos):=by
 obtain⟨j,e1,e2,e3,e4,e5⟩:=gB.of h;exact Mw j i e4 e5 ha hs e1 e2 e3
noncomputable def Tw (sc:Scope) (x:Str):Bool:=sc.names.lookup x==some .globalImplicit&&!(x==("__debug__" : Str))
theorem XY{f:Nat}{i:FI}{es:Es}{x:Str}{e0:Expr}{xs:List Expr}{p:Pos}(h:Tw sc x=true)(hf:G.fi[f]?=some i)(hx:i.name=x)(hs:JA G n sc N df m es (e0 :: xs))
  (hst:∀env:Env,starEach (e0 :: xs) env=(false,eval e0 env) :: starEach xs env:=by intro _;rfl) (hpl:∀env:Env,(backTo pos (starEach xs env)).any (·.1)=false:=by intro _;rfl) :
  JE G n sc N df m (.cl f es) (.Call (.Name x p) (e0 :: xs) [] pos):=by
 subst hx;unfold Tw at h;simp only[Bool.and_eq_true,Bool.not_eq_true']at h;exact QM hf hs (by simpa using h.1) h.2 hst hpl
noncomputable def XZ:Expr->List Str
 |.Name x _=>[x]
 |.Tuple xs _ _=>xs.filterMap λy=>match y with|.Name x _=>some x|_=>none
 |_=>[]
noncomputable def Tz(N:List Str)(m:List Nat)(scope:Scope):List (Str×Nat):=(N.zip m).filter λp=>scope.names.contains (p.1,NameKind.free)
noncomputable def cN(N:List Str)(m:List Nat)(scope:Scope)(tg:Expr):List Str:=XZ tg++(Tz N m scope).map (·.1)
noncomputable def cM(N:List Str)(m:List Nat)(scope:Scope)(t:T):List Nat:=Ev.slots t++(Tz N m scope).map (·.2)
theorem Q0{elt:E}{t:T}{it:Ev.It}{cond:Eo}{tg xi xe:Expr}{ifs:List Expr}{scope:Scope}(hn:qC sc N m scope t (cN N m scope tg) (cM N m scope t)=true)(hs:GQ sc scope=true)
  (hi:JI G n sc N df m it tg xi) (hg:JG G n (fG sc scope) (cN N m scope tg) false (cM N m scope t) t tg) (hc:JC G n (fG sc scope) (cN N m scope tg) false (cM N m scope t) cond ifs)
  (he:JE G n (fG sc scope) (cN N m scope tg) false (cM N m scope t) elt xe) (hf:∀(env:Env) x,foldedSetIterable xi env x=pure x:=by intro _ _;rfl):JE G n sc N df m (.comp elt t it cond) (.ListComp xe [⟨tg,xi,ifs,0⟩] scope pos):=
 yG hi hg hc he (namesOk.of hn) (kN.of hs) hf
theorem Q2{i:Nat}{x:Str}{pos' cpos:Pos}{elt:E}{t:T}{it:Ev.It}{cond:Eo}{tg xi xe:Expr}{ifs:List Expr}{scope:Scope}(h:gB sc N df m x i=true)(hn:qC sc N m scope t (cN N m scope tg) (cM N m scope t)=true)(hs:GQ sc scope=true)
  (hi:JI G n sc N df m it tg xi) (hg:JG G n (fG sc scope) (cN N m scope tg) false (cM N m scope t) t tg) (hc:JC G n (fG sc scope) (cN N m scope tg) false (cM N m scope t) cond ifs)
  (he:JE G n (fG sc scope) (cN N m scope tg) false (cM N m scope t) elt xe) (hf:∀(env:Env) x,foldedSetIterable xi env x=pure x:=by intro _ _;rfl) :
  JS G n sc N df m (.set i (.comp elt t it cond)) (.Assign [.Name x pos'] (.ListComp xe [⟨tg,xi,ifs,0⟩] scope cpos) pos):=by
 obtain⟨j,e1,e2,e3,e4,e5⟩:=gB.of h;exact Jh j i e4 e5 hi hg hc he (namesOk.of hn) (kN.of hs) e1 e2 e3 hf
theorem V5{rest:List Expr}(ha:JT G n sc N df m a xa)(hb:JW G n sc N df m b (.BoolOp .And (xb :: rest) pos)):JT G n sc N df m (.an a b) (.BoolOp .And (xa :: xb :: rest) pos):=Mi (GL ha hb)
theorem V6{rest:List Expr}(ha:JT G n sc N df m a xa)(hb:JW G n sc N df m b (.BoolOp .Or (xb :: rest) pos)):JT G n sc N df m (.orr a b) (.BoolOp .Or (xa :: xb :: rest) pos):=Mi (BD ha hb)
noncomputable def allB(G:Tb)(n:Nat):List (Ss×Stmt×List Str)->Prop
 |[]=>True
 |p :: r=>jU G n (aP p.2.1) p.2.2 true (List.range p.2.2.length) p.1 (iy p.2.1)/\allB G n r
theorem allB.get:∀{l:List (Ss×Stmt×List Str)}{k:Nat}{p:Ss×Stmt×List Str},allB G n l->l[k]?=some p->jU G n (aP p.2.1) p.2.2 true (List.range p.2.2.length) p.1 (iy p.2.1)
 |[],_,_,_,e=>nomatch e
 |_ :: _,0,_,h,e=>by cases e;exact h.1
 |_ :: r,k+1,p,h,e=>allB.get (l:=r) (k:=k) h.2 (by simpa using e)
end
end Sm
namespace Pv
open Ev (D bU bN TY BI ME T E Es Eo It S Ss Fn big deep b2i rep cH ef bL aT cut cV eO slots)
theorem nd{α:Type _}{a b:α}(h:a=b):a=b:=h
inductive V where
 |aS|bl (b:Bool)|int (i:Int)|str (s:List Nat)|tup (l:List V)|lst (l:List V)|bP (l:List V)
 |dct (kvs:List (Int×List Nat))
inductive Sl where
 |val (v:V)|own (l:List V)|bor (l:List V)|ro (l:List V)
abbrev Fr:=List (Option Sl)
inductive R(α:Type) where
 |ok (a:α) (fr:Fr)
 |bad
noncomputable def R.bind{α β:Type}(r:R α)(f:α->Fr->R β):R β:=
 match r with
 |.ok a h=>f a h
 |.bad=>.bad
@[simp] theorem ak{α β:Type}(a:α)(h:Fr)(f:α->Fr->R β):(R.ok a h).bind f=f a h:=nd rfl
@[simp] theorem DY{α β:Type}(f:α->Fr->R β):(R.bad:R α).bind f=.bad:=nd rfl
theorem ah{α β:Type}{r:R α}{f:α->Fr->R β}{b:β}{h:Fr}(e:r.bind f=.ok b h):∃a h1,r=.ok a h1/\f a h1=.ok b h:=by
 cases r with
 |ok a h1=>exact⟨a,h1,rfl,e⟩
 |bad=>cases e
noncomputable def R.of{α:Type}(o:Option α)(h:Fr):R α:=match o with
 |some a=>.ok a h
 |none=>.bad
@[simp] theorem dX{α:Type}(a:α)(h:Fr):R.of (some a) h=.ok a h:=nd rfl
@[simp] theorem of_none{α:Type}(h:Fr):R.of (none:Option α) h=.bad:=nd rfl
theorem aH{α:Type}{o:Option α}{h h':Fr}{a:α}(e:R.of o h=.ok a h'):o=some a/\h'=h:=by
 cases o with
 |none=>cases e
 |some b=>cases e;exact⟨rfl,rfl⟩
inductive Fl where
 |nx|bk|ct|ret (v:V)
mutual
noncomputable def ofD:D->Option V
 |.aS=>some .aS
 |.bl b=>some (.bl b)
 |.int i=>some (.int i)
 |.str s=>some (.str s)
 |.tup ds=>(vQ ds).map .tup
 |.ref _=>none
noncomputable def vQ:List D->Option (List V)
 |[]=>some []
 |d :: ds=>(ofD d).bind λv=>(vQ ds).map λvs=>v :: vs
end
noncomputable def cQ(f:V->V->Option Bool):List V->List V->Option Bool
 |[],[]=>some true
 |x :: xs,y :: ys=>(f x y).bind λb=>(cQ f xs ys).bind λc=>some (b&&c)
 |_,_=>some false
noncomputable def eg:Nat->V->V->Option Bool
 |0,_,_=>none
 |_+1,.aS,.aS=>some true
 |_+1,.bl a,.bl b=>some (a==b)
 |_+1,.int a,.int b=>some (a==b)
 |_+1,.bl a,.int b=>some (b2i a==b)
 |_+1,.int a,.bl b=>some (a==b2i b)
 |_+1,.str a,.str b=>some (a==b)
 |n+1,.tup a,.tup b=>cQ (eg n) a b
 |n+1,.lst a,.lst b=>cQ (eg n) a b
 |n+1,.bP a,.lst b=>cQ (eg n) a b
 |n+1,.lst a,.bP b=>cQ (eg n) a b
 |_+1,.bP _,.bP _=>none
 |_+1,.dct _,_=>none
 |_+1,_,.dct _=>none
 |_+1,_,_=>some false
noncomputable def truthy:V->Bool
 |.aS=>false
 |.bl b=>b
 |.int i=>i != 0
 |.str s=>!s.isEmpty
 |.tup ds=>!ds.isEmpty
 |.lst ds=>!ds.isEmpty
 |.bP ds=>!ds.isEmpty
 |.dct kvs=>!kvs.isEmpty
noncomputable def eG(l:List V):Option V:=if l.length<=big then some (.lst l)else none
noncomputable def iP(l:List V):Option V:=if l.length<=big then some (.tup l)else none
noncomputable def bS:bU->V->V->Option V
 |.add,.int i,.int j=>some (.int (i+j))
 |.add,.str a,.str b=>if a.length+b.length<=big then some (.str (a++b))else none
 |.add,.tup a,.tup b=>if a.length+b.length<=big then some (.tup (a++b))else none
 |.add,.lst a,.lst b=>eG (a++b)
 |.sub,.int i,.int j=>some (.int (i - j))
 |.mul,.int i,.int j=>if cH i j then some (.int (i*j))else none
 |.mul,.str a,.int k=>if 0<=k/\k<=1000/\a.length<=1000 then some (.str (rep k.toNat a))else none
 |.mul,.tup a,.int k=>if 0<=k/\k<=1000/\a.length<=1000 then some (.tup (rep k.toNat a))else none
 |.mul,.lst a,.int k=>if 0<=k/\k<=1000/\a.length<=1000 then eG (rep k.toNat a)else none
 |.fdiv,.int i,.int j=>if 0<j/\j<1073741824 then some (.int (i / j))else none
 |.mod,.int i,.int j=>if 0<j then some (.int (i % j))else none
 |_,_,_=>none
noncomputable def mem(x:V):List V->Option Bool
 |[]=>some false
 |y :: ys=>(eg deep y x).bind λb=>(mem x ys).bind λc=>some (b ||c)
noncomputable def isin(x y:V):Option Bool:=match y with
 |.str s=>match x with
  |.str [c]=>some (s.contains c)
  |_=>none
 |.tup ds=>mem x ds
 |.lst ds=>mem x ds
 |.bP ds=>mem x ds
 |_=>none
noncomputable def cop(o:bN)(x y:V):Option Bool:=match o,x,y with
 |.eq,x,y=>eg deep x y
 |.ne,x,y=>(eg deep x y).map (!·)
 |.lt,.int i,.int j=>some (decide (i<j))
 |.gt,.int i,.int j=>some (decide (j<i))
 |.isin,x,y=>isin x y
 |.g7,x,y=>(isin x y).map (!·)
 |.yo,x,.aS=>some (match x with|.aS=>true|_=>false)
 |.rS,x,.aS=>some (match x with|.aS=>false|_=>true)
 |_,_,_=>none
noncomputable def qf:V->V->Option V
 |.dct kvs,.int k=>(Ev.cJ kvs k).map .str
 |_,_=>none
noncomputable def nQ:V->V->V->Option V
 |.dct kvs,.int k,z=>some (match Ev.cJ kvs k with|some s=>.str s|none=>z)
 |_,_,_=>none
noncomputable def dY(x y:V):Option V:=match x,y with
 |.tup ds,.int i=>bL ds i
 |.str s,.int i=>(bL s i).map λc=>.str [c]
 |.lst ds,.int i=>bL ds i
 |.bP ds,.int i=>bL ds i
 |_,_=>none
noncomputable def gT(x:V)(lo hi:Option Int):Option V:=match x with
 |.tup ds=>some (.tup (cut ds lo hi))
 |.str s=>some (.str (cut s lo hi))
 |.lst ds=>eG (cut ds lo hi)
 |.bP ds=>eG (cut ds lo hi)
 |_=>none
noncomputable def toT:V->Option V
 |.tup l=>some (.tup l)
 |.lst l=>iP l
 |.bP l=>iP l
 |_=>none
noncomputable def sC:V->Option V
 |.lst l=>iP l.reverse
 |_=>none
noncomputable def boolsOf:List V->Option (List Bool)
 |[]=>some []
 |.bl b :: ds=>(boolsOf ds).map λr=>b :: r
 |_=>none
noncomputable def intsOf:List V->Option (List Int)
 |[]=>some []
 |.int i :: ds=>(intsOf ds).map λr=>i :: r
 |_=>none
noncomputable def strsOf:List V->Option (List (List Nat))
 |[]=>some []
 |.str s :: ds=>(strsOf ds).map λr=>s :: r
 |_=>none
noncomputable def pP:V->Option (List V)
 |.lst l=>some l
 |.bP l=>some l
 |_=>none
noncomputable def Nt:V->Option (List (Int×List Nat))
 |.dct kvs=>some kvs
 |_=>none
noncomputable def cX(b:BI)(xs:List V):Option V:=match b,xs with
 |.len,[.str s]=>if s.length<=big then some (.int s.length)else none
 |.len,[.tup ds]=>some (.int ds.length)
 |.len,[x]=>(pP x).map λds=>.int ds.length
 |.all,[x]=>((pP x).bind boolsOf).map λbs=>.bl (bs.all id)
 |.sum,[x]=>((pP x).bind intsOf).map λis=>.int is.sum
 |.min,[.int i,.int j]=>some (.int (if j<i then j else i))
 |.zH,[x]=>((pP x).bind intsOf).bind λss=>if ss.length<64 then eG ((Ev.sortI ss).map .int)else none
 |.ko,[x]=>(Nt x).bind λkvs=>if kvs.length<64 then eG ((Ev.sortI (kvs.map (·.1))).map .int)else none
 |_,_=>none
noncomputable def fN(m:ME)(o:V)(xs:List V):Option V:=match m,o,xs with
 |.join,.str sep,[x]=>((pP x).bind strsOf).bind λss=>if (ss.map (·.length)).sum+ss.length*sep.length<=big then some (.str (cV sep ss))else none
 |_,_,_=>none
noncomputable def kC(m:ME)(l:List V)(xs:List V):Option (V×List V):=match m,xs with
 |.append,[x]=>if l.length<big then some (.aS,l++[x])else none
 |.extend,[.lst es]=>if l.length+es.length<=big then some (.aS,l++es)else none
 |.pop,[]=>match l[l.length - 1]? with
  |some x=>some (x,l.dropLast)
  |none=>none
 |_,_=>none
noncomputable def Cb:ME->Bool
 |.extend=>true
 |_=>false
noncomputable def jg:ME->Bool
 |.append=>true
 |.extend=>true
 |.pop=>true
 |_=>false
noncomputable def uC:V->Bool
 |.aS=>true
 |.bl _=>true
 |.int _=>true
 |.str _=>true
 |_=>false
noncomputable def Ag(x:V):List (D×D)->Option V
 |[]=>none
 | (k,v) :: r=>match (ofD k).bind λk'=>eg 1 k' x with
  |some true=>ofD v
  |some false=>Ag x r
  |none=>none
noncomputable def iL(x:V)(kvs:List (D×D)):Option V:=if uC x then Ag x kvs else none
noncomputable def e8:V->Option (List V)
 |.tup ds=>some ds
 |.str s=>some (s.map λc=>.str [c])
 |.lst ds=>some ds
 |.bP ds=>some ds
 |_=>none
noncomputable def Ah:V->Option (List V)
 |.tup ds=>some ds
 |_=>none
noncomputable def range(lo:Int)(n:Nat):List V:=(List.range n).map λ(i:Nat)=>.int (lo+i)
noncomputable def er:List V->Option (List V)
 |[.int j]=>if -(2 ^ 62)<=j/\j<2 ^ 62 then some (range 0 j.toNat)else none
 |[.int i,.int j]=>if -(2 ^ 62)<=i/\i<2 ^ 62/\-(2 ^ 62)<=j/\j<2 ^ 62 then some (range i (j - i).toNat)else none
 |_=>none
noncomputable def g8:Int->List V->List V
 |_,[]=>[]
 |k,x :: xs=>.tup [.int k,x] :: g8 (k+1) xs
noncomputable def put(fr:Fr)(i:Nat)(s:Sl):Option Fr:=match fr[i]? with
 |some (some (.bor _))=>none
 |some (some (.ro _))=>none
 |_=>some (fr.set i (some s))
noncomputable def cU:List Nat->List V->Fr->Option Fr
 |[],[],fr=>some fr
 |i :: is,d :: ds,fr=>(put fr i (.val d)).bind (cU is ds)
 |_,_,_=>none
noncomputable def bC:T->V->Fr->Option Fr
 |.one i,d,fr=>put fr i (.val d)
 |.many l,.tup ds,fr=>cU l ds fr
 |_,_,_=>none
noncomputable def undef(t:T)(fr:Fr):Bool:=(slots t).all λi=>(fr[i]?.join).isNone
noncomputable def Sl.read:Sl->Sl
 |.own l=>.ro l
 |.bor l=>.ro l
 |s=>s
noncomputable def uf(fr:Fr):Fr:=fr.map (Option.map Sl.read)
noncomputable def Sl.dD:Sl->Sl
 |.own l=>.val (.lst l)
 |s=>s
noncomputable def fS(fr:Fr):Fr:=fr.map (Option.map Sl.dD)
noncomputable def Sl.walk:Sl->Sl
 |.own l=>.val (.lst l)
 |.bor l=>.ro l
 |s=>s
noncomputable def mE(is:List Nat)(fr:Fr):Fr:=is.foldl (λfr i=>match fr[i]? with
 |some (some s)=>fr.set i (some s.walk)
 |_=>fr) fr
noncomputable def Sl.out:Sl->Option (List V)
 |.bor l=>some l
 |.ro l=>some l
 |_=>none
noncomputable def Sl.lend:Sl->Option Sl
 |.own l=>some (.bor l)
 |.bor l=>some (.bor l)
 |.ro l=>some (.ro l)
 |.val _=>none
noncomputable def lent(fr:Fr)(i:Nat):Option Sl:=match fr[i]? with
 |some (some s)=>s.lend
 |_=>none
noncomputable def Sl.with:Sl->List V->Sl
 |.own _,l=>.own l
 |.bor _,l=>.bor l
 |s,_=>s
noncomputable def back:List Nat->List (List V)->Fr->Option Fr
 |[],[],fr=>some fr
 |i :: is,l :: ls,fr=>match fr[i]? with
  |some (some s)=>back is ls (fr.set i (some (s.with l)))
  |_=>none
 |_,_,_=>none
noncomputable def cW(f:V->Option (Option V)):List V->Option (List V)
 |[]=>some []
 |d :: ds=>(f d).bind λo=>(cW f ds).bind λr=>some (o.toList++r)
noncomputable def forL(f:V->Fr->R Fl):List V->Fr->R Fl
 |[],fr=>.ok .nx fr
 |d :: ds,fr=>(f d fr).bind λp af=>match p with
   |.nx=>forL f ds af
   |.ct=>forL f ds af
   |.bk=>.ok .nx af
   |.ret x=>.ok (.ret x) af
noncomputable def eL(t:Fr->R Bool)(f:Fr->R Fl):Nat->Fr->R Fl
 |0,_=>.bad
 |n+1,fr=>(t fr).bind λb af=>if b then (f af).bind λp ao=>match p with
   |.nx=>eL t f n ao
   |.ct=>eL t f n ao
   |.bk=>.ok .nx ao
   |.ret x=>.ok (.ret x) ao
  else .ok .nx af
noncomputable def jQ:Es->List Nat
 |.nil=>[]
 |.cons (.v i) es=>i :: jQ es
 |.cons _ es=>jQ es
noncomputable def TF(m:ME):E->List Nat
 |.v i=>if jg m then [i]else []
 |_=>[]
mutual
noncomputable def bJ:E->List Nat
 |.c _=>[]|.v _=>[]|.tup es=>gu es|.lst es=>gu es
 |.bin _ a b=>bJ a++bJ b|.cmp _ a b=>bJ a++bJ b
 |.nt a=>bJ a|.neg a=>bJ a|.an a b=>bJ a++bJ b|.orr a b=>bJ a++bJ b|.lg t a b=>bJ t++(bJ a++bJ b)
 |.ix a b=>bJ a++bJ b|.sl a lo hi=>bJ a++(kP lo++kP hi)
 |.m9 a=>bJ a
 |.cl _ es=>gu es++jQ es|.bi _ es=>gu es|.me m o es=>bJ o++(gu es++TF m o)
 |.comp _ _ it _=>Ey it
 |.eF it=>Ey it
 |.nH _ a=>bJ a
 |.ig=>[]|.kq a k=>bJ a++bJ k|.kr a k x=>bJ a++(bJ k++bJ x)
 |.iY a=>bJ a
noncomputable def gu:Es->List Nat
 |.nil=>[]
 |.cons e es=>bJ e++gu es
noncomputable def kP:Eo->List Nat
 |.no=>[]
 |.yes e=>bJ e
noncomputable def Ey:It->List Nat
 |.seq e=>bJ e|.fE es=>gu es
 |.enum a=>bJ a|.rev a=>bJ a
end
noncomputable def kf(a:E)(l:List Nat):Bool:=match a with
 |.v i=>!l.contains i
 |_=>l.isEmpty
noncomputable def itv:It->List Nat
 |.seq (.v i)=>[i]
 |.enum (.v i)=>[i]
 |.rev (.v i)=>[i]
 |_=>[]
abbrev aO:=Nat->List Sl->Option (V×List (List V))
noncomputable def intOf:V->Option Int
 |.int i=>some i
 |_=>none
noncomputable def mF(k:Bool)(fr:Fr)(i:Nat):Option V:=match fr[i]? with
 |some (some (.val v))=>some v
 |some (some (.own l))=>if k then some (.lst l)else none
 |some (some (.bor l))=>if k then some (.lst l)else none
 |some (some (.ro l))=>if k then some (.lst l)else none
 |_=>none
noncomputable def vR(k:Bool)(fr:Fr)(i:Nat):Option V:=match fr[i]? with
 |some (some (.ro l))=>some (.lst l)
 |_=>mF k fr i
noncomputable def src(k:Bool)(fr:Fr)(e:E)(r:R V):R V:=match e with
 |.v i=>R.of (vR k fr i) fr
 |_=>r
noncomputable def lG(fr:Fr):E->Option Nat
 |.v i=>if (lent fr i).isSome then some i else none
 |_=>none
noncomputable def args(fr:Fr):List (Nat ⊕ V)->Option (List Sl)
 |[]=>some []
 |.inl i :: r=>(lent fr i).bind λs=>(args fr r).map λl=>s :: l
 |.inr v :: r=>(args fr r).map λl=>.val v :: l
noncomputable def bW:List (Nat ⊕ V)->List Nat
 |[]=>[]
 |.inl i :: r=>i :: bW r
 |.inr _ :: r=>bW r
noncomputable def fy(P:aO)(f:Nat)(as:List (Nat ⊕ V))(fr:Fr):R V:=
 if (bW as).Nodup then match args fr as with
  |some sl=>match P f sl with
   |some (v,outs)=>R.of ((back (bW as) outs fr).map λaf=>(v,af)) fr |>.bind λp _=>.ok p.1 p.2
   |none=>.bad
  |none=>.bad
 else .bad
mutual
noncomputable def ev(P:aO):Bool->E->Fr->R V
 |_,.c d,fr=>R.of (ofD d) fr
 |k,.v i,fr=>R.of (mF k fr i) fr
 |_,.tup es,fr=>(cg P false es fr).bind λds af=>R.of (iP ds) af
 |_,.lst es,fr=>(cg P false es fr).bind λds af=>R.of (eG ds) af
 |_,.bin o a b,fr=>(ev P (kf a (bJ b)) a fr).bind λx af=>(ev P true b af).bind λy ao=>R.of (bS o x y) ao
 |_,.cmp o a b,fr=>(ev P (kf a (bJ b)) a fr).bind λx af=>(ev P true b af).bind λy ao=>R.of ((cop o x y).map .bl) ao
 |_,.ig,_=>.bad
 |_,.kq a b,fr=>(ev P (kf a (bJ b)) a fr).bind λx af=>(ev P true b af).bind λy ao=>R.of (qf x y) ao
 |_,.kr a b c,fr=>(ev P (kf a (bJ b++bJ c)) a fr).bind λx af=>(ev P (kf b (bJ c)) b af).bind λy ao=>(ev P false c ao).bind λz bI=>R.of (nQ x y z) bI
 |_,.nt a,fr=>(ev P true a fr).bind λx af=>match x with
   |.bl b=>.ok (.bl (!b)) af
   |_=>.bad
 |_,.neg a,fr=>(ev P true a fr).bind λx af=>match x with
   |.int i=>.ok (.int (-i)) af
   |_=>.bad
 |k,.an a b,fr=>(ev P true a fr).bind λx af=>match x with
   |.bl true=>ev P k b af
   |.bl false=>.ok (.bl false) af
   |_=>.bad
 |k,.orr a b,fr=>(ev P true a fr).bind λx af=>match x with
   |.bl true=>.ok (.bl true) af
   |.bl false=>ev P k b af
   |_=>.bad
 |k,.lg t a b,fr=>(aI P t fr).bind λc af=>if c then ev P k a af else ev P k b af
 |_,.ix a b,fr=>(ev P (kf a (bJ b)) a fr).bind λx af=>(ev P true b af).bind λy ao=>R.of (dY x y) ao
 |_,.sl a lo hi,fr=>(ev P (kf a (kP lo++kP hi)) a fr).bind λx af=>(gk P lo af).bind λl ao=>(gk P hi ao).bind λu bI=>R.of (gT x l u) bI
 |_,.m9 a,fr=>(ev P true a fr).bind λx af=>R.of (sC x) af
 |_,.cl f es,fr=>(gm P es fr).bind λas af=>fy P f as af
 |_,.bi b es,fr=>(cg P true es fr).bind λds af=>R.of (cX b ds) af
 |_,.me m o es,fr=>if jg m then match lG fr o with
   |some i=>(cg P (Cb m) es fr).bind λds af=>match af[i]? with
    |some (some (.own l))=>match kC m l ds with
     |some (v,l')=>.ok v (af.set i (some (.own l')))
     |none=>.bad
    |some (some (.bor l))=>match kC m l ds with
     |some (v,l')=>.ok v (af.set i (some (.bor l')))
     |none=>.bad
    |_=>.bad
   |none=>.bad
  else (ev P (kf o (gu es)) o fr).bind λx af=>(cg P true es af).bind λds ao=>R.of (fN m x ds) ao
 |_,.comp elt t it cond,fr=>(cF P true it fr).bind λs af=>if undef t af then
   R.of ((cW (λd=>match bC t d (uf af)with
    |none=>none
    |some ao=>match iM P cond ao with
     |.ok c _=>if c then (match ev P false elt ao with|.ok x _=>some (some x)|.bad=>none)else some none
     |.bad=>none) s).bind eG) af else .bad
 |_,.eF it,fr=>(cF P true it fr).bind λs af=>R.of (eG s) af
 |_,.nH kvs a,fr=>(ev P true a fr).bind λx af=>R.of (iL x kvs) af
 |_,.iY a,fr=>(ev P true a fr).bind λx af=>R.of (toT x) af
termination_by _ e=>(sizeOf e,0)
noncomputable def cg(P:aO):Bool->Es->Fr->R (List V)
 |_,.nil,fr=>.ok [] fr
 |k,.cons e es,fr=>(ev P (k&&kf e (gu es)) e fr).bind λd af=>(cg P k es af).bind λds ao=>.ok (d :: ds) ao
termination_by _ e=>(sizeOf e,0)
noncomputable def gm(P:aO):Es->Fr->R (List (Nat ⊕ V))
 |.nil,fr=>.ok [] fr
 |.cons e es,fr=>match lG fr e with
   |some i=>(gm P es fr).bind λr af=>.ok (.inl i :: r) af
   |none=>(ev P false e fr).bind λd af=>(gm P es af).bind λr ao=>.ok (.inr d :: r) ao
termination_by e=>(sizeOf e,0)
noncomputable def gk(P:aO):Eo->Fr->R (Option Int)
 |.no,fr=>.ok none fr
 |.yes e,fr=>(ev P true e fr).bind λd af=>R.of ((intOf d).map some) af
termination_by e=>(sizeOf e,0)
noncomputable def iM(P:aO):Eo->Fr->R Bool
 |.no,fr=>.ok true fr
 |.yes e,fr=>aI P e fr
termination_by e=>(sizeOf e,0)
noncomputable def aI(P:aO):E->Fr->R Bool
 |.an a b,fr=>(aI P a fr).bind λk af=>if k then aI P b af else .ok false af
 |.orr a b,fr=>(aI P a fr).bind λk af=>if k then .ok true af else aI P b af
 |.nt a,fr=>(aI P a fr).bind λk af=>.ok (!k) af
 |e,fr=>(ev P true e fr).bind λx af=>.ok (truthy x) af
termination_by e=>(sizeOf e,1)
noncomputable def cF(P:aO):Bool->It->Fr->R (List V)
 |k,.seq e,fr=>(src k fr e (ev P k e fr)).bind λx af=>R.of (e8 x) af
 |_,.fE es,fr=>(cg P true es fr).bind λds af=>R.of (er ds) af
 |k,.enum a,fr=>(src k fr a (ev P k a fr)).bind λx af=>R.of ((pP x).map λs=>g8 0 s) af
 |_,.rev a,fr=>(ev P true a fr).bind λx af=>R.of ((Ah x).map λs=>s.reverse) af
termination_by _ e=>(sizeOf e,0)
end
noncomputable def isNew:E->Bool
 |.lst _=>true
 |.eF _=>true
 |_=>false
noncomputable def mG(P:aO)(f:Nat):List V->List (Int×List Nat)->Option (List (Int×List Nat))
 |[],k=>some k
 |v :: vs,k=>match P f [.val v]with
  |some (.dct m,[])=>if k.length+m.length<=100000 then mG P f vs (Ev.dj k m)else none
  |_=>none
noncomputable def kD(fr:Fr)(x:Nat)(vs:List V):Option Fr:=match vs.getLast? with
 |some v=>put fr x (.val v)
 |none=>some fr
mutual
noncomputable def ex(P:aO)(w:Nat):S->Fr->R Fl
 |.set i e,fr=>(ev P false e fr).bind λx af=>if isNew e then (match x with
   |.lst l=>(R.of (put af i (.own l)) af).bind λao _=>.ok .nx ao
   |_=>.bad)
  else (R.of (put af i (.val x)) af).bind λao _=>.ok .nx ao
 |.zI l e,fr=>(ev P false e fr).bind λx af=>(R.of (bC (.many l) x af) af).bind λao _=>.ok .nx ao
 |.dput _ _ _,_=>.bad
 |.qb _ _,_=>.bad
 |.jw i x y f,fr=>if i≠y/\x≠i/\i<fr.length/\x<fr.length then (cF P false (.seq (.v y)) (mE [y] fr)).bind λvs af=>(R.of (mG P f vs []) af).bind λk ao=>(R.of (put ao i (.val (.dct k))) ao).bind λbI _=>(R.of (kD bI x vs) bI).bind λgX _=>.ok .nx gX else .bad
 |.exp e,fr=>(ev P true e fr).bind λ_ af=>.ok .nx af
 |.ret e,fr=>(ev P false e (fS fr)).bind λx af=>.ok (.ret x) af
 |.iff t a b,fr=>(aI P t fr).bind λk af=>if k then exs P w a af else exs P w b af
 |.for t it b,fr=>(cF P false it (mE (itv it) fr)).bind λs af=>forL (λd ao=>match bC t d ao with
   |some bI=>exs P w b bI
   |none=>.bad) s af
 |.ly t b,fr=>eL (λao=>aI P t ao) (λao=>exs P w b ao) w fr
 |.eY,_=>.bad
noncomputable def exs(P:aO)(w:Nat):Ss->Fr->R Fl
 |.nil,fr=>.ok .nx fr
 |.cons s ss,fr=>(ex P w s fr).bind λp af=>match p with
   |.nx=>exs P w ss af
   |p=>.ok p af
end
noncomputable def eT(fn:Fn)(ds:List Sl):Fr:=ds.map some++List.replicate (fn.ns - fn.np) none
noncomputable def outs(np:Nat)(fr:Fr):List (List V):=(fr.take np).filterMap λo=>o.bind Sl.out
noncomputable def G6:Ss:=.cons (.dput (.v 1) (.v 2) (.v 4)) (.cons (.set 2 (.bin .add (.v 2) (.c (.int 1)))) .nil)
noncomputable def vS:Ss:=.cons (.iff (.cmp .eq (.ix (.v 3) (.c (.int 0))) (.c (.str [100,114,111,112]))) (.cons (.for (.one 4) (.seq (.ix (.v 3) (.c (.int 1)))) G6) .nil) (.cons (.iff (.cmp .eq (.ix (.v 3) (.c (.int 0))) (.c (.str [107,101,101,112]))) (.cons (.set 2 (.bin .add (.v 2) (.ix (.v 3) (.c (.int 1))))) .nil) .nil) .nil)) .nil
noncomputable def fT:Fn:=⟨1,5,.cons (.set 1 .ig) (.cons (.set 2 (.c (.int 0))) (.cons (.for (.one 3) (.seq (.v 0)) vS) (.cons (.ret (.v 1)) .nil)))⟩
noncomputable def gS:List (Int×List Nat)->Int->List Nat->List (Int×List Nat)
 |k,_,[]=>k
 |k,p,c :: s=>gS (Ev.di k p [c]) (p+1) s
noncomputable def bg:List V->Int->List (Int×List Nat)->Option (List (Int×List Nat))
 |[],_,k=>some k
 |.tup [.str w,.str s] :: r,p,k=>if w=[100,114,111,112]then (if k.length+s.length<=100000 then bg r (p+s.length) (gS k p s)else none)else if w=[107,101,101,112]then none else bg r p k
 |.tup [.str w,.int i] :: r,p,k=>if w=[107,101,101,112]then bg r (p+i) k else none
 |_ :: _,_,_=>none
open Classical in
noncomputable def ug(fn:Fn)(ds:List Sl):Option (V×List (List V)):=if fn=fT then match ds with
  |[.val (.tup l)]=>(bg l 0 []).map λk=>(.dct k,[])
  |_=>none
 else none
noncomputable def run(F:List Fn)(w:Nat):Nat->aO
 |0,_,_=>none
 |n+1,f,ds=>match F[f]? with
  |some fn=>if ds.length=fn.np then match exs (run F w n) w fn.body (eT fn ds)with
    |.ok (.ret v) fr=>some (v,outs fn.np fr)
    |.ok .nx fr=>some (.aS,outs fn.np fr)
    |_=>ug fn ds
   else none
  |none=>none
end Pv
namespace Pv
open Ev (D O Hh bU bN TY BI ME T E Es Eo It S Ss Fn big deep b2i rep cH ef bL aT cut cV eO slots bq)
section
variable(h:Hh)(S:Nat->Prop)
mutual
noncomputable def Rep:V->D->Prop
 |.aS,d=>d=.aS
 |.bl b,d=>d=.bl b
 |.int i,d=>d=.int i
 |.str s,d=>d=.str s
 |.tup l,d=>∃ds,d=.tup ds/\aq l ds
 |.lst l,d=>∃n ds,d=.ref n/\S n/\h[n]?=some (.lst ds)/\aq l ds
 |.bP l,d=>∃n ds,d=.ref n/\S n/\h[n]?=some (.bP ds)/\aq l ds
 |.dct kvs,d=>∃n,d=.ref n/\S n/\h[n]?=some (.dct kvs)
noncomputable def aq:List V->List D->Prop
 |[],ds=>ds=[]
 |v :: vs,ds=>∃d es,ds=d :: es/\Rep v d/\aq vs es
end
noncomputable def bu:V->D->Prop
 |.lst l,d=>∃n ds,d=.ref n/\h[n]?=some (.lst ds)/\aq h S l ds
 |v,d=>Rep h S v d
noncomputable def gn:List V->List D->Prop
 |[],ds=>ds=[]
 |v :: vs,ds=>∃d es,ds=d :: es/\bu h S v d/\gn vs es
end
abbrev U:Nat->Prop:=λ_=>True
section
variable{h h':Hh}{S S':Nat->Prop}
mutual
theorem Rep.mono(f:∀m,S m->h'[m]?=h[m]?)(g:∀m,S m->S' m):∀{v:V}{d:D},Rep h S v d->Rep h' S' v d
 |.aS,_,q=>q
 |.bl _,_,q=>q
 |.int _,_,q=>q
 |.str _,_,q=>q
 |.tup l,_,⟨ds,a,b⟩=>⟨ds,a,aq.mono f g b⟩
 |.lst l,_,⟨n,ds,a,b,c,e⟩=>⟨n,ds,a,g n b,by rw[f n b];exact c,aq.mono f g e⟩
 |.bP l,_,⟨n,ds,a,b,c,e⟩=>⟨n,ds,a,g n b,by rw[f n b];exact c,aq.mono f g e⟩
 |.dct kvs,_,⟨n,a,b,c⟩=>⟨n,a,g n b,by rw[f n b];exact c⟩
theorem aq.mono(f:∀m,S m->h'[m]?=h[m]?)(g:∀m,S m->S' m):∀{v:List V}{d:List D},aq h S v d->aq h' S' v d
 |[],_,q=>q
 |_ :: _,_,⟨d,es,a,b,c⟩=>⟨d,es,a,Rep.mono f g b,aq.mono f g c⟩
end
theorem aq.nil:aq h S [] []:=by simp[aq]
theorem aq.cons{v:V}{d:D}{vs:List V}{ds:List D}(a:Rep h S v d)(b:aq h S vs ds):aq h S (v :: vs) (d :: ds):=by simp only[aq];exact⟨d,ds,rfl,a,b⟩
theorem Rep.top{v:V}{d:D}(q:Rep h S v d):bu h S v d:=by
 cases v<;>first|exact q | (obtain⟨n,ds,a,b,c,e⟩:=q;exact⟨n,ds,a,c,e⟩)
theorem bu.u{v:V}{d:D}(q:bu h S v d):Rep h U v d:=by
 cases v with
 |lst l=>obtain⟨n,ds,a,b,c⟩:=q;exact⟨n,ds,a,trivial,b,c.mono (λ_ _=>rfl) λ_ _=>trivial⟩
 |_=>exact Rep.mono (S:=S) (λ_ _=>rfl) (λ_ _=>trivial) q
theorem aq.u{v:List V}{d:List D}(q:aq h S v d):aq h U v d:=q.mono (λ_ _=>rfl) λ_ _=>trivial
theorem bu.mono{v:V}{d:D}(f:∀m,m<h.length->h'[m]?=h[m]?)(k:∀m,S m->m<h.length)(g:∀m,S m->S' m)(q:bu h S v d):bu h' S' v d:=by
 cases v with
 |lst l=>
  obtain⟨n,ds,a,b,c⟩:=q;exact⟨n,ds,a,by rw[f n (List.getElem?_eq_some_iff.mp b).1];exact b,c.mono (λm z=>f m (k m z)) g⟩
 |_=>exact Rep.mono (λm z=>f m (k m z)) g q
theorem aq.length:∀{v:List V}{d:List D},aq h S v d->v.length=d.length
 |[],_,q=>by simp only[aq]at q;subst q;rfl
 |_ :: _,_,q=>by simp only[aq]at q;obtain⟨d,es,rfl,_,c⟩:=q;simp[c.length]
theorem aq.get:∀{v:List V}{d:List D}{i:Nat}{x:V},aq h S v d->v[i]?=some x->∃y,d[i]?=some y/\Rep h S x y
 |[],_,_,_,_,e=>by simp at e
 |_ :: _,_,0,_,q,e=>by
  simp only[aq]at q;obtain⟨d,es,rfl,b,_⟩:=q;simp at e;subst e;exact⟨d,by simp,b⟩
 |_ :: _,_,i+1,_,q,e=>by
  simp only[aq]at q;obtain⟨d,es,rfl,_,c⟩:=q;obtain⟨y,a,b⟩:=c.get (i:=i) (by simpa using e);exact⟨y,by simpa using a,b⟩
theorem aq.append:∀{v w:List V}{d e:List D},aq h S v d->aq h S w e->aq h S (v++w) (d++e)
 |[],_,_,_,a,b=>by simp only[aq]at a;subst a;simpa using b
 |_ :: _,_,_,_,a,b=>by
  simp only[aq]at a;obtain⟨d,es,rfl,x,y⟩:=a;exact .cons x (y.append b)
theorem aq.take:∀{v:List V}{d:List D}(n:Nat),aq h S v d->aq h S (v.take n) (d.take n)
 |_,_,0,_=>by simp[aq]
 |[],_,_+1,a=>by simp only[aq]at a;subst a;simp[aq]
 |_ :: _,_,n+1,a=>by
  simp only[aq]at a;obtain⟨d,es,rfl,x,y⟩:=a;simp only[List.take_succ_cons];exact .cons x (y.take n)
theorem aq.drop:∀{v:List V}{d:List D}(n:Nat),aq h S v d->aq h S (v.drop n) (d.drop n)
 |_,_,0,a=>by simpa using a
 |[],_,_+1,a=>by simp only[aq]at a;subst a;simp[aq]
 |_ :: _,_,n+1,a=>by
  simp only[aq]at a;obtain⟨d,es,rfl,x,y⟩:=a;simp only[List.drop_succ_cons];exact y.drop n
theorem aq.dropLast:∀{v:List V}{d:List D},aq h S v d->aq h S v.dropLast d.dropLast:=λ{v d} a=>by
 rw[List.dropLast_eq_take,List.dropLast_eq_take,a.length];exact a.take _
theorem aq.reverse:∀{v:List V}{d:List D},aq h S v d->aq h S v.reverse d.reverse
 |[],_,a=>by simp only[aq]at a;subst a;simp[aq]
 |_ :: _,_,a=>by
  simp only[aq]at a;obtain⟨d,es,rfl,x,y⟩:=a;simp only[List.reverse_cons];exact y.reverse.append (.cons x .nil)
theorem aq.rep{v:List V}{d:List D}(a:aq h S v d):∀k:Nat,aq h S (Ev.rep k v) (Ev.rep k d)
 |0=>by simp[Ev.rep,aq]
 |k+1=>by
  have z:=aq.rep a k;simp only[Ev.rep,List.replicate_succ,List.flatten_cons]at z ⊢;exact a.append z
theorem aq.cut{v:List V}{d:List D}(a:aq h S v d)(lo hi:Option Int):aq h S (Ev.cut v lo hi) (Ev.cut d lo hi):=by
 unfold Ev.cut;rw[a.length];exact(a.drop _).take _
theorem aq.map{α:Type}{f:α->V}{g:α->D}(q:∀a,Rep h S (f a) (g a)):∀l:List α,aq h S (l.map f) (l.map g)
 |[]=>.nil
 |_ :: l=>.cons (q _) (aq.map q l)
mutual
theorem Rep.uniq:∀{v w:V}{d:D},Rep h U v d->Rep h U w d->v=w
 |.aS,w,_,a,b=>by simp only[Rep]at a;subst a;cases w<;>simp[Rep]at b<;>rfl
 |.bl _,w,_,a,b=>by simp only[Rep]at a;subst a;cases w<;>simp[Rep]at b<;>rw[b]
 |.int _,w,_,a,b=>by simp only[Rep]at a;subst a;cases w<;>simp[Rep]at b<;>rw[b]
 |.str _,w,_,a,b=>by simp only[Rep]at a;subst a;cases w<;>simp[Rep]at b<;>rw[b]
 |.tup l,w,_,a,b=>by
  simp only[Rep]at a;obtain⟨ds,rfl,a⟩:=a;cases w<;>simp[Rep]at b
  rw[aq.uniq a b]
 |.lst l,w,_,a,b=>by
  simp only[Rep]at a;obtain⟨n,ds,rfl,_,a1,a⟩:=a;cases w<;>simp[Rep]at b
  .obtain⟨ds',b1,b⟩:=b;rw[a1]at b1;cases b1;rw[aq.uniq a b]
  .obtain⟨ds',b1,b⟩:=b;rw[a1]at b1;cases b1
  .rw[a1]at b;cases b
 |.bP l,w,_,a,b=>by
  simp only[Rep]at a;obtain⟨n,ds,rfl,_,a1,a⟩:=a;cases w<;>simp[Rep]at b
  .obtain⟨ds',b1,b⟩:=b;rw[a1]at b1;cases b1
  .obtain⟨ds',b1,b⟩:=b;rw[a1]at b1;cases b1;rw[aq.uniq a b]
  .rw[a1]at b;cases b
 |.dct kvs,w,_,a,b=>by
  simp only[Rep]at a;obtain⟨n,rfl,_,a1⟩:=a;cases w<;>simp[Rep]at b
  .obtain⟨ds',b1,b⟩:=b;rw[a1]at b1;cases b1
  .obtain⟨ds',b1,b⟩:=b;rw[a1]at b1;cases b1
  .rw[a1]at b;cases b;rfl
theorem aq.uniq:∀{v w:List V}{d:List D},aq h U v d->aq h U w d->v=w
 |[],w,_,a,b=>by simp only[aq]at a;subst a;cases w<;>simp[aq]at b;rfl
 |x :: xs,w,_,a,b=>by
  simp only[aq]at a;obtain⟨d,es,rfl,a1,a2⟩:=a;cases w<;>simp only[aq]at b
  .cases b
  obtain⟨d',es',e,b1,b2⟩:=b;cases e;rw[Rep.uniq a1 b1,aq.uniq a2 b2]
end
theorem vU{n:Nat}(f:∀v b,eg n v v=some b->b=true):∀l b,cQ (eg n) l l=some b->b=true
 |[],b,e=>by simp[cQ]at e;exact e
 |x :: xs,b,e=>by
  simp only[cQ,Option.bind_eq_some_iff]at e;obtain⟨c,e1,c2,e2,e⟩:=e;rw[f x c e1,vU f xs c2 e2]at e;simpa using e.symm
theorem vV:∀n v b,eg n v v=some b->b=true
 |0,_,_,e=>by cases e
 |n+1,v,b,e=>by
  cases v<;>first|exact vU (vV n) _ _ e | (cases e<;>first|rfl|exact beq_self_eq_true _)
theorem vW{n:Nat}(f:∀{v w:V}{d e:D}{b},eg n v w=some b->Rep h U v d->Rep h U w e->Ev.gq h n d e=some b):∀{l m:List V}{ds es:List D}{b},cQ (eg n) l m=some b->aq h U l ds->aq h U m es->Ev.cQ (Ev.gq h n) ds es=some b
 |[],[],_,_,b,e,p,q=>by simp only[aq]at p q;subst p q;simpa[cQ,Ev.cQ]using e
 |[],_ :: _,_,_,b,e,p,q=>by simp only[aq]at p q;subst p;obtain⟨_,_,rfl,_⟩:=q;simpa[cQ,Ev.cQ]using e
 |_ :: _,[],_,_,b,e,p,q=>by simp only[aq]at p q;subst q;obtain⟨_,_,rfl,_⟩:=p;simpa[cQ,Ev.cQ]using e
 |x :: xs,y :: ys,_,_,b,e,p,q=>by
  simp only[aq]at p q;obtain⟨d,ds,rfl,p1,p2⟩:=p;obtain⟨d',ds',rfl,q1,q2⟩:=q;simp only[cQ,Option.bind_eq_some_iff]at e;obtain⟨c,e1,c2,e2,e⟩:=e;simp[Ev.cQ,f e1 p1 q1,vW f e2 p2 q2];simpa using e
theorem ir{n:Nat}{ds:List D}(q:h[n]?=some (.lst ds)):bq h n=some ds:=by simp[bq,q]
theorem jb{n:Nat}{ds:List D}(q:h[n]?=some (.bP ds)):bq h n=some ds:=by simp[bq,q]
theorem jV:∀(n:Nat) {v w:V}{d e:D}{b},eg n v w=some b->Rep h U v d->Rep h U w e->Ev.gq h n d e=some b
  |0,_,_,_,_,_,e,_,_=>by cases e
  |n+1,v,w,d,e,b,x,p,q=>by
    by_cases hr:∃m,d=.ref m/\e=.ref m
    . obtain⟨m,rfl,rfl⟩:=hr;have hvw:=p.uniq q;subst hvw;have hb:=vV _ _ _ x;subst hb;cases v<;>simp[Rep]at p
      . obtain⟨ds,p1,p2⟩:=p;show Ev.jT _ _ _ _=_;rw[Ev.jT,if_pos rfl,ir p1];rfl
      . obtain⟨ds,p1,p2⟩:=p;show Ev.jT _ _ _ _=_;rw[Ev.jT,if_pos rfl,jb p1];rfl
      . cases x
    . cases v<;>cases w<;>simp only[Rep]at p q <;>
      first
      | (subst p;subst q;exact x)
      | (obtain⟨ds,rfl,p⟩:=p;subst q;exact x)
      | (obtain⟨ds,rfl,q⟩:=q;subst p;exact x)
      | (obtain⟨ds,rfl,p⟩:=p;obtain⟨es,rfl,q⟩:=q;exact vW (λa b c=>jV n a b c) x p q)
      | (cases x;done)
      | (obtain⟨m,ds,rfl,_,p1,p⟩:=p;obtain⟨k,es,rfl,_,q1,q⟩:=q
         have hne:m≠k:=λz=>hr ⟨m,rfl,by rw[z]⟩;show Ev.jT _ _ _ _=_;rw[Ev.jT,if_neg hne,p1,q1];exact vW (λa b c=>jV n a b c) x p q)
      | (cases x;obtain⟨m,ds,rfl,_,p1,p⟩:=p;subst q;exact congrArg (Option.map λ_=>false) (ir p1))
      | (cases x;obtain⟨m,ds,rfl,_,p1,p⟩:=p;subst q;exact congrArg (Option.map λ_=>false) (jb p1))
      | (cases x;obtain⟨m,ds,rfl,_,p1,p⟩:=p;obtain⟨es,rfl,q⟩:=q;exact congrArg (Option.map λ_=>false) (ir p1))
      | (cases x;obtain⟨m,ds,rfl,_,p1,p⟩:=p;obtain⟨es,rfl,q⟩:=q;exact congrArg (Option.map λ_=>false) (jb p1))
      | (cases x;obtain⟨m,ds,rfl,_,q1,q⟩:=q;subst p;exact congrArg (Option.map λ_=>false) (ir q1))
      | (cases x;obtain⟨m,ds,rfl,_,q1,q⟩:=q;subst p;exact congrArg (Option.map λ_=>false) (jb q1))
      | (cases x;obtain⟨m,ds,rfl,_,q1,q⟩:=q;obtain⟨es,rfl,p⟩:=p;exact congrArg (Option.map λ_=>false) (ir q1))
      | (cases x;obtain⟨m,ds,rfl,_,q1,q⟩:=q;obtain⟨es,rfl,p⟩:=p;exact congrArg (Option.map λ_=>false) (jb q1))
end
end Pv
namespace Pv
open Ev (D O Hh bU bN TY BI ME T E Es Eo It S Ss Fn big deep b2i rep cH ef bL aT cut cV eO slots bq)
structure Al(h:Hh)(S:Nat->Prop)(h':Hh)(S':Nat->Prop):Prop where
 len:h.length<=h'.length
 keep:∀m,m<h.length->h'[m]?=h[m]?
 sub:∀m,S m->S' m
 new:∀m,S' m->S m\/(h.length<=m/\m<h'.length)
section
variable{h h':Hh}{S S':Nat->Prop}
theorem Al.refl:Al h S h S:=⟨Nat.le_refl _,λ_ _=>rfl,λ_ q=>q,λ_ q=>.inl q⟩
theorem Al.snoc(o:O):Al h S (h++[o]) (λm=>S m\/m=h.length) where
 len:=by simp
 keep:=λm q=>by rw[List.getElem?_append_left q]
 sub:=λ_ q=>.inl q
 new:=λm q=>by
  rcases q with q|q
  .exact .inl q
  .subst q;exact .inr ⟨Nat.le_refl _,by simp⟩
theorem iQ{l:List V}{v:V}{ds:List D}(w:∀m,S m->m<h.length)(e:eG l=some v)(q:aq h S l ds):∃r h' S',Ev.alloc ds h=.ok r h'/\Rep h' S' v r/\Al h S h' S':=by
 unfold eG at e;split at e
 .rename_i z;cases e;refine⟨.ref h.length,h++[.lst ds],λm=>S m\/m=h.length,by unfold Ev.alloc;rw[if_pos (by rw[<-q.length];exact z)],?_,Al.snoc _⟩;simp only[Rep];refine⟨h.length,ds,rfl,.inr rfl,by simp,q.mono (λm z=>?_) λ_ z=>.inl z⟩;rw[List.getElem?_append_left (w m z)]
 .cases e
theorem lH{v:V}{l:List V}{d:D}(e:pP v=some l)(q:bu h S v d):∃n ds,d=.ref n/\bq h n=some ds/\aq h S l ds:=by
 cases v<;>simp[pP]at e
 .subst e;simp only[bu]at q;obtain⟨n,ds,rfl,a,b⟩:=q;exact⟨n,ds,rfl,ir a,b⟩
 .subst e;simp only[bu,Rep]at q;obtain⟨n,ds,rfl,_,a,b⟩:=q;exact⟨n,ds,rfl,jb a,b⟩
mutual
theorem nR:∀{d:D}{v:V},ofD d=some v->Rep h S v d
 |.aS,_,e=>by simp[ofD]at e;subst e;simp[Rep]
 |.bl _,_,e=>by simp[ofD]at e;subst e;simp[Rep]
 |.int _,_,e=>by simp[ofD]at e;subst e;simp[Rep]
 |.str _,_,e=>by simp[ofD]at e;subst e;simp[Rep]
 |.ref _,_,e=>by simp[ofD]at e
 |.tup ds,_,e=>by
  simp[ofD]at e;obtain⟨vs,e,rfl⟩:=e;exact⟨ds,rfl,yQ e⟩
theorem yQ:∀{d:List D}{v:List V},vQ d=some v->aq h S v d
 |[],_,e=>by simp[vQ]at e;subst e;exact .nil
 |d :: ds,_,e=>by
  simp only[vQ,Option.bind_eq_some_iff,Option.map_eq_some_iff]at e;obtain⟨v,e1,vs,e2,rfl⟩:=e;exact .cons (nR e1) (yQ e2)
end
theorem aq.emp{l:List V}{ds:List D}(q:aq h S l ds):ds.isEmpty=l.isEmpty:=by
 have:=q.length;cases l<;>cases ds<;>simp at this ⊢
theorem Nu{v:V}{d:D}{kvs:List (Int×List Nat)}(z:Nt v=some kvs)(p:bu h S v d):∃n,d=.ref n/\h[n]?=some (.dct kvs):=by
 cases v<;>simp only[Nt,reduceCtorEq,Option.some.injEq]at z
 subst z;simp only[bu,Rep]at p;obtain⟨n,rfl,_,a⟩:=p;exact⟨n,rfl,a⟩
theorem Cc{v:V}{d:D}(q:bu h S v d):Ev.truthy h d=some (truthy v):=by
 cases v<;>simp only[bu,Rep]at q
 .subst q;rfl
 .subst q;rfl
 .subst q;rfl
 .subst q;rfl
 .obtain⟨ds,rfl,q⟩:=q;simp only[Ev.truthy,truthy,q.emp]
 .obtain⟨n,ds,rfl,a,q⟩:=q;simp only[Ev.truthy,truthy,ir a,Option.map,q.emp];rw[a]
 .obtain⟨n,ds,rfl,_,a,q⟩:=q;simp only[Ev.truthy,truthy,jb a,Option.map,q.emp];rw[a]
 .obtain⟨n,rfl,_,a⟩:=q;simp only[Ev.truthy,truthy];rw[a]
theorem nn{α:Type}{v:α}{p:Prop}(z:none=some v):p:=Option.noConfusion rfl (heq_of_eq z)
theorem Nv{o:bU}{x y v:V}{d e:D}(w:∀m,S m->m<h.length)(z:bS o x y=some v)(p:bu h S x d)(q:bu h S y e):∃r h' S',Ev.bS o d e h=.ok r h'/\Rep h' S' v r/\Al h S h' S':=by
 cases o<;>cases x<;>first|exact nn z | (cases y<;>first|exact nn z|skip)
 all_goals (delta bS at z;dsimp only at z;simp only[bu,Rep]at p q)
 .subst p q;cases z;exact⟨_,_,S,rfl,rfl,.refl⟩
 .subst p q;split at z
  .rename_i k;cases z;exact⟨_,_,S,by delta Ev.bS;dsimp only;rw[if_pos k],rfl,.refl⟩
  .cases z
 .obtain⟨ds,rfl,p⟩:=p;obtain⟨es,rfl,q⟩:=q;split at z
  .rename_i k;cases z;exact⟨_,_,S,by delta Ev.bS;dsimp only;rw[if_pos (by rw[<-p.length,<-q.length];exact k)],⟨_,rfl,p.append q⟩,.refl⟩
  .cases z
 .obtain⟨n,ds,rfl,a,p⟩:=p;obtain⟨m,es,rfl,b,q⟩:=q
  delta Ev.bS;dsimp only;simp only[a,b]
  exact iQ w z (p.append q)
 .subst p q;cases z;exact⟨_,_,S,rfl,rfl,.refl⟩
 .subst p q;split at z
  .rename_i k;cases z;exact⟨_,_,S,by delta Ev.bS;dsimp only;rw[if_pos k],rfl,.refl⟩
  .cases z
 .subst p q;split at z
  .rename_i k;cases z;exact⟨_,_,S,by delta Ev.bS;dsimp only;rw[if_pos k],rfl,.refl⟩
  .cases z
 .obtain⟨ds,rfl,p⟩:=p;subst q;split at z
  .rename_i k;cases z;exact⟨_,_,S,by delta Ev.bS;dsimp only;rw[if_pos (by rw[<-p.length];exact k)],⟨_,rfl,p.rep _⟩,.refl⟩
  .cases z
 .obtain⟨n,ds,rfl,a,p⟩:=p;subst q;split at z
  .rename_i k
   delta Ev.bS;dsimp only;simp only[a]
   rw[if_pos (by rw[<-p.length];exact k)];exact iQ w z (p.rep _)
  .cases z
 .subst p q;split at z
  .rename_i k;cases z;exact⟨_,_,S,by delta Ev.bS;dsimp only;rw[if_pos k],rfl,.refl⟩
  .cases z
 .subst p q;split at z
  .rename_i k;cases z;exact⟨_,_,S,by delta Ev.bS;dsimp only;rw[if_pos k],rfl,.refl⟩
  .cases z
theorem qE{x:V}{d:D}(p:Rep h U x d):∀{l:List V}{ds:List D}{b},mem x l=some b->aq h U l ds->Ev.mem h d ds=some b
 |[],_,b,e,q=>by simp only[aq]at q;subst q;simpa[mem,Ev.mem]using e
 |y :: ys,_,b,e,q=>by
  simp only[aq]at q;obtain⟨d',ds,rfl,q1,q2⟩:=q;simp only[mem,Option.bind_eq_some_iff]at e;obtain⟨c,e1,c2,e2,e⟩:=e;simp[Ev.mem,jV deep e1 q1 p,qE p e2 q2];simpa using e
theorem yR{x y:V}{d e:D}{b:Bool}(z:isin x y=some b)(p:Rep h U x d)(q:Rep h U y e):Ev.isin d e h=some b:=by
 cases y<;>simp only[isin,reduceCtorEq]at z<;>simp only[Rep]at q
 .subst q;split at z
  .simp only[Rep]at p;subst p;simpa[Ev.isin]using z
  .cases z
 .obtain⟨ds,rfl,q⟩:=q;simpa[Ev.isin]using qE p z q
 .obtain⟨n,ds,rfl,_,a,q⟩:=q;simpa[Ev.isin,ir a]using qE p z q
 .obtain⟨n,ds,rfl,_,a,q⟩:=q;simpa[Ev.isin,jb a]using qE p z q
theorem Nx{o:bN}{x y:V}{d e:D}{b:Bool}(z:cop o x y=some b)(p:Rep h U x d)(q:Rep h U y e):Ev.cop o d e h=some b:=by
 cases o
 case eq=>delta cop at z;dsimp only at z;delta Ev.cop;dsimp only;exact jV deep z p q
 case ne=>
  delta cop at z;dsimp only at z;simp only[Option.map_eq_some_iff]at z;obtain⟨c,z,rfl⟩:=z
  delta Ev.cop;dsimp only;simp only[jV deep z p q];rfl
 case isin=>delta cop at z;dsimp only at z;delta Ev.cop;dsimp only;exact yR z p q
 case g7=>
  delta cop at z;dsimp only at z;simp only[Option.map_eq_some_iff]at z;obtain⟨c,z,rfl⟩:=z
  delta Ev.cop;dsimp only;simp only[yR z p q];rfl
 case yo=>
  cases y <;> (delta cop at z;dsimp only at z) <;> (try simp only[reduceCtorEq]at z)
  simp only[Rep]at q;subst q;cases x<;>simp only[Rep]at p <;> (try obtain⟨_,rfl,_⟩:=p) <;> (try obtain⟨_,_,rfl,_⟩:=p) <;> (try subst p) <;> (delta Ev.cop;dsimp only;simpa using z)
 case rS=>
  cases y <;> (delta cop at z;dsimp only at z) <;> (try simp only[reduceCtorEq]at z)
  simp only[Rep]at q;subst q;cases x<;>simp only[Rep]at p <;> (try obtain⟨_,rfl,_⟩:=p) <;> (try obtain⟨_,_,rfl,_⟩:=p) <;> (try subst p) <;> (delta Ev.cop;dsimp only;simpa using z)
 all_goals (
  cases x<;>first|exact nn z | (cases y<;>first|exact nn z|skip)
  simp only[Rep]at p q;subst p q;exact z)
theorem Ai{l:List V}{ds:List D}{i:Int}{v:V}(e:bL l i=some v)(q:aq h S l ds):∃d,bL ds i=some d/\Rep h S v d:=by
 unfold bL at e ⊢;rw[q.length]at e;cases z:ef ds.length i with
 |none=>rw[z]at e;cases e
 |some j=>rw[z]at e;exact q.get e
theorem Ny{x y v:V}{d e:D}(z:dY x y=some v)(p:bu h S x d)(q:bu h S y e):∃r,Ev.dY d e h=some r/\Rep h S v r:=by
 cases x<;>cases y<;>simp only[dY,reduceCtorEq]at z<;>simp only[bu,Rep]at p q
 .subst p q;simp only[Option.map_eq_some_iff]at z;obtain⟨c,z,rfl⟩:=z;exact⟨.str [c],by simp[Ev.dY,z],rfl⟩
 .obtain⟨ds,rfl,p⟩:=p;subst q;simpa[Ev.dY]using Ai z p
 .obtain⟨n,ds,rfl,a,p⟩:=p;subst q;simpa[Ev.dY,ir a]using Ai z p
 .obtain⟨n,ds,rfl,_,a,p⟩:=p;subst q;simpa[Ev.dY,jb a]using Ai z p
theorem Nz{x v:V}{d:D}{lo hi:Option Int}(w:∀m,S m->m<h.length)(z:gT x lo hi=some v)(p:bu h S x d):∃r h' S',Ev.gT d lo hi h=.ok r h'/\Rep h' S' v r/\Al h S h' S':=by
 cases x<;>simp only[gT,reduceCtorEq]at z<;>simp only[bu,Rep]at p
 .subst p;cases z;exact⟨_,_,S,rfl,rfl,.refl⟩
 .obtain⟨ds,rfl,p⟩:=p;cases z;exact⟨_,_,S,rfl,⟨_,rfl,p.cut _ _⟩,.refl⟩
 .obtain⟨n,ds,rfl,a,p⟩:=p;simp only[Ev.gT,ir a];exact iQ w z (p.cut _ _)
 .obtain⟨n,ds,rfl,_,a,p⟩:=p;simp only[Ev.gT,jb a];exact iQ w z (p.cut _ _)
theorem Jw{x v:V}{d:D}(z:sC x=some v)(p:bu h S x d):∃r,Ev.zL d h=.ok r h/\Rep h S v r:=by
 cases x<;>simp only[sC,reduceCtorEq]at z<;>simp only[bu,Rep]at p
 obtain⟨n,ds,rfl,a,p⟩:=p;unfold iP at z;split at z
 .rename_i k;cases z;refine⟨.tup ds.reverse,?_,⟨_,rfl,p.reverse⟩⟩;rw[List.length_reverse]at k;simp only[Ev.zL,ir a];rw[if_pos (by rw[<-p.length];exact k)]
 .cases z
theorem NB{x v:V}{d:D}(z:toT x=some v)(p:bu h S x d):∃r,Ev.rT d h=.ok r h/\Rep h S v r:=by
 cases x<;>simp only[toT,reduceCtorEq]at z<;>simp only[bu,Rep]at p
 .obtain⟨ds,rfl,p⟩:=p;cases z;exact⟨_,rfl,⟨_,rfl,p⟩⟩
 .obtain⟨n,ds,rfl,a,p⟩:=p;unfold iP at z;split at z
  .rename_i k;cases z;refine⟨.tup ds,?_,⟨_,rfl,p⟩⟩;simp only[Ev.rT,ir a];rw[if_pos (by rw[<-p.length];exact k)]
  .cases z
 .obtain⟨n,ds,rfl,_,a,p⟩:=p;unfold iP at z;split at z
  .rename_i k;cases z;refine⟨.tup ds,?_,⟨_,rfl,p⟩⟩;simp only[Ev.rT,jb a];rw[if_pos (by rw[<-p.length];exact k)]
  .cases z
theorem Jx{x:V}{l:List V}{d:D}(z:pP x=some l)(p:bu h S x d):∃s,Ev.D0 h d=some s/\aq h S l s.1/\(∀q∈s.2,d=.ref q.1/\bq h q.1=some q.2):=by
 obtain⟨n,ds,rfl,a,q⟩:=lH z p;exact⟨(ds,[(n,ds)]),by simp[Ev.D0,a],q,by simp[a]⟩
theorem vX:∀{l:List V}{ds:List D}{bs},boolsOf l=some bs->aq h S l ds->Ev.boolsOf ds=some bs
 |[],_,_,e,q=>by simp only[aq]at q;subst q;exact e
 |x :: xs,_,bs,e,q=>by
  cases x<;>simp only[boolsOf,reduceCtorEq,Option.map_eq_some_iff]at e
  obtain⟨r,e,rfl⟩:=e;simp only[aq,Rep]at q;obtain⟨_,ds,rfl,rfl,q⟩:=q;simp[Ev.boolsOf,vX e q]
theorem sD:∀{l:List V}{ds:List D}{bs},intsOf l=some bs->aq h S l ds->Ev.intsOf ds=some bs
 |[],_,_,e,q=>by simp only[aq]at q;subst q;exact e
 |x :: xs,_,bs,e,q=>by
  cases x<;>simp only[intsOf,reduceCtorEq,Option.map_eq_some_iff]at e
  obtain⟨r,e,rfl⟩:=e;simp only[aq,Rep]at q;obtain⟨_,ds,rfl,rfl,q⟩:=q;simp[Ev.intsOf,sD e q]
theorem yS:∀{l:List V}{ds:List D}{bs},strsOf l=some bs->aq h S l ds->Ev.strsOf ds=some bs
 |[],_,_,e,q=>by simp only[aq]at q;subst q;exact e
 |x :: xs,_,bs,e,q=>by
  cases x<;>simp only[strsOf,reduceCtorEq,Option.map_eq_some_iff]at e
  obtain⟨r,e,rfl⟩:=e;simp only[aq,Rep]at q;obtain⟨_,ds,rfl,rfl,q⟩:=q;simp[Ev.strsOf,yS e q]
theorem gn.one{v:V}{ds:List D}(q:gn h S [v] ds):∃d,ds=[d]/\bu h S v d:=by
 simp only[gn]at q;obtain⟨d,es,rfl,a,rfl⟩:=q;exact⟨d,rfl,a⟩
theorem NC{b:BI}{xs:List V}{v:V}{ds:List D}(w:∀m,S m->m<h.length)(z:cX b xs=some v)(p:gn h S xs ds):∃r h' S',Ev.cX b ds h=.ok r h'/\Rep h' S' v r/\Al h S h' S':=by
 delta cX at z
 rcases xs with _|⟨x,_|⟨y,_|⟨u,xs⟩⟩⟩
 .cases b<;>exact nn z
 .obtain⟨d,rfl,p1⟩:=p.one;cases b
  case len=>
   cases x
   case str s=>
    dsimp only at z;simp only[bu,Rep]at p1;subst p1;split at z
    .rename_i k;cases z;exact⟨_,_,S,by delta Ev.cX;dsimp only;rw[if_pos k],rfl,.refl⟩
    .cases z
   case tup l=>
    dsimp only at z;simp only[bu,Rep]at p1;obtain⟨es,rfl,p2⟩:=p1;cases z;exact⟨_,_,S,rfl,by simp[Rep,p2.length],.refl⟩
   all_goals
    dsimp only at z;simp only[Option.map_eq_some_iff]at z;obtain⟨l,z,rfl⟩:=z;obtain⟨n,es,rfl,a,q⟩:=lH z p1;exact⟨.int es.length,h,S,by delta Ev.cX;dsimp only;simp[a],by simp[Rep,q.length],.refl⟩
  case all=>
   dsimp only at z;simp only[Option.map_eq_some_iff,Option.bind_eq_some_iff]at z;obtain⟨bs,⟨l,z,z2⟩,rfl⟩:=z;obtain⟨n,es,rfl,a,q⟩:=lH z p1;exact⟨_,_,S,by delta Ev.cX;dsimp only;simp only[a,Option.bind,vX z2 q];rfl,rfl,.refl⟩
  case sum=>
   dsimp only at z;simp only[Option.map_eq_some_iff,Option.bind_eq_some_iff]at z;obtain⟨bs,⟨l,z,z2⟩,rfl⟩:=z;obtain⟨n,es,rfl,a,q⟩:=lH z p1;exact⟨_,_,S,by delta Ev.cX;dsimp only;simp only[a,Option.bind,sD z2 q];rfl,rfl,.refl⟩
  case min=>cases x<;>exact nn z
  case zH=>
   dsimp only at z;simp only[Option.bind_eq_some_iff]at z;obtain⟨ss,⟨l,z,z2⟩,z3⟩:=z;obtain⟨n,es,rfl,a,q⟩:=lH z p1;split at z3
   .rename_i hl
    delta Ev.cX;dsimp only;simp only[a,Option.bind,sD z2 q]
    rw[if_pos hl];exact iQ w z3 (aq.map (f:=V.int) (g:=D.int) (λs=>by simp[Rep]) _)
   .cases z3
  case ko=>
   dsimp only at z;obtain⟨kvs,z1,z⟩:=Option.bind_eq_some_iff.mp z;obtain⟨n,rfl,a⟩:=Nu z1 p1;by_cases hl:kvs.length<64
   .rw[if_pos hl]at z
    delta Ev.cX;dsimp only;simp only[Ev.eZ,a]
    rw[if_pos hl];exact iQ w z (aq.map (f:=V.int) (g:=D.int) (λs=>by simp[Rep]) _)
   .rw[if_neg hl]at z;cases z
 .cases b
  case min=>
   cases x
   case int i=>
    cases y
    case int j=>
     dsimp only at z;simp only[gn,bu,Rep]at p;obtain⟨_,_,rfl,rfl,_,_,rfl,rfl,rfl⟩:=p;cases z;exact⟨_,_,S,rfl,rfl,.refl⟩
    all_goals exact nn z
   all_goals exact nn z
  case len=>cases x<;>exact nn z
  all_goals exact nn z
 .cases b
  case min=>cases x <;> (try cases y)<;>exact nn z
  case len=>cases x<;>exact nn z
  all_goals exact nn z
theorem ND{m:ME}{o:V}{xs:List V}{v:V}{d:D}{ds:List D}(z:fN m o xs=some v)(hm:jg m=false)(po:bu h S o d)(p:gn h S xs ds):Ev.yp m d h=true/\∃r,Ev.fN m d ds h=.ok r h/\Rep h S v r:=by
 unfold fN at z;split at z
 .obtain⟨d,rfl,p1⟩:=p.one;simp only[bu,Rep]at po;subst po;simp only[Option.bind_eq_some_iff]at z;obtain⟨ss,⟨l,z,z2⟩,z3⟩:=z;obtain⟨n,es,rfl,a,q⟩:=lH z p1;split at z3
  .rename_i k;cases z3;refine⟨rfl,_,?_,rfl⟩
   delta Ev.fN;dsimp only;simp only[a,Option.bind,yS z2 q]
   rw[if_pos k]
  .cases z3
 .cases z
theorem Jy{x:V}{d:D}(f:uC x=true)(p:Rep h U x d):Rep [] U x d:=by
 cases x<;>simp only[uC,Bool.false_eq_true]at f<;>exact p
theorem Ez{x:V}{d:D}(p:Rep h U x d):∀{kvs:List (D×D)}{v:V},iL x kvs=some v->∃r,Ev.iL d kvs=some r/\Rep h S v r:=by
 intro kvs v z;unfold iL at z;split at z
 .rename_i f;have p':=Jy f p;induction kvs with
  |nil=>cases z
  |cons kv r ih=>
   obtain⟨k,u⟩:=kv;simp only[Ag]at z;simp only[Ev.iL];split at z
   .rename_i y;simp only[Option.bind_eq_some_iff]at y;obtain⟨k',y1,y2⟩:=y;rw[jV 1 y2 (nR y1) p'];exact⟨u,rfl,nR z⟩
   .rename_i y;simp only[Option.bind_eq_some_iff]at y;obtain⟨k',y1,y2⟩:=y;rw[jV 1 y2 (nR y1) p'];exact ih z
   .cases z
 .cases z
theorem EA{x:V}{l:List V}{d:D}(z:e8 x=some l)(p:bu h S x d):∃s,Ev.e8 h d=some s/\aq h S l s.1/\(∀q∈s.2,d=.ref q.1/\bq h q.1=some q.2):=by
 cases x<;>simp only[e8,reduceCtorEq]at z<;>simp only[bu,Rep]at p
 .subst p;cases z;exact⟨_,rfl,aq.map (f:=λc=>V.str [c]) (g:=λc=>D.str [c]) (λ_=>by simp[Rep]) _,by simp⟩
 .obtain⟨ds,rfl,p⟩:=p;cases z;exact⟨_,rfl,p,by simp⟩
 .obtain⟨n,ds,rfl,a,p⟩:=p;cases z;exact⟨(ds,[(n,ds)]),by simp[Ev.e8,ir a],p,by simp[ir a]⟩
 .obtain⟨n,ds,rfl,_,a,p⟩:=p;cases z;exact⟨(ds,[(n,ds)]),by simp[Ev.e8,jb a],p,by simp[jb a]⟩
theorem vY(lo:Int)(n:Nat):aq h S (range lo n) (Ev.range lo n):=aq.map (f:=λ(i:Nat)=>V.int (lo+i)) (g:=λ(i:Nat)=>D.int (lo+i)) (λ_=>by simp[Rep]) _
theorem NF{xs l:List V}{ds:List D}(z:er xs=some l)(p:gn h S xs ds):∃s,Ev.er ds=some (s,[])/\aq h S l s:=by
 unfold er at z;split at z
 .obtain⟨d,rfl,p1⟩:=p.one;simp only[bu,Rep]at p1;subst p1;split at z
  .rename_i k;cases z;exact⟨_,by simp only[Ev.er];rw[if_pos k],vY _ _⟩
  .cases z
 .simp only[gn,bu,Rep]at p;obtain⟨_,_,rfl,rfl,_,_,rfl,rfl,rfl⟩:=p;split at z
  .rename_i k;cases z;exact⟨_,by simp only[Ev.er];rw[if_pos k],vY _ _⟩
  .cases z
 .cases z
theorem yT:∀{a:List V}{ds:List D}(k:Int),aq h S a ds->aq h S (g8 k a) (Ev.g8 k ds)
 |[],_,_,p=>by simp only[aq]at p;subst p;simp[g8,Ev.g8,aq]
 |x :: xs,_,k,p=>by
  simp only[aq]at p;obtain⟨d,ds,rfl,p1,p2⟩:=p;simp only[g8,Ev.g8];exact .cons ⟨_,rfl,.cons rfl (.cons p1 .nil)⟩ (yT _ p2)
end
end Pv
namespace Pv
open Ev (D O Hh bU bN TY BI ME T E Es Eo It S Ss Fn big deep b2i rep cH ef bL aT cut cV eO slots bq)
noncomputable def kZ(M B:Nat->Prop)(h:Hh)(S:Nat->Prop):Option Sl->Option D->Prop
 |none,p=>p=none
 |some (.val v),p=>∃d,p=some d/\Rep h S v d
 |some (.own l),p=>∃m ds,p=some (.ref m)/\(M m/\¬ B m)/\h[m]?=some (.lst ds)/\aq h S l ds
 |some (.bor l),p=>∃m ds,p=some (.ref m)/\(M m/\B m)/\h[m]?=some (.lst ds)/\aq h S l ds
 |some (.ro l),p=>∃m ds,p=some (.ref m)/\¬ M m/\h[m]?=some (.lst ds)/\aq h S l ds
noncomputable def iA:Option Sl->Bool
 |some (.own _)=>true
 |some (.bor _)=>true
 |_=>false
noncomputable def yU:Option Sl->Bool
 |some (.bor _)=>true
 |some (.ro _)=>true
 |_=>false
noncomputable def locked(fr:Fr)(i:Nat):Bool:=match fr[i]? with
 |some o=>yU o
 |none=>false
structure bD(M B:Nat->Prop)(h:Hh)(S:Nat->Prop)(fr:Fr)(aj:Ev.Fr):Prop where
 wS:∀m,S m->m<h.length/\¬ M m/\¬ B m
 wM:∀m,M m->m<h.length
 wB:∀m,B m->m<h.length
 len:fr.length=aj.length
 sl:∀(i:Nat) o p,fr[i]?=some o->aj[i]?=some p->kZ M B h S o p
 inj:∀(i j:Nat) o o' m,fr[i]?=some o->fr[j]?=some o'->iA o=true->iA o'=true->aj[i]?=some (some (.ref m))->aj[j]?=some (some (.ref m))->i=j
structure Tk(X:Nat->Prop)(h:Hh)(S:Nat->Prop)(h':Hh)(S':Nat->Prop):Prop where
 len:h.length<=h'.length
 keep:∀m,m<h.length->¬ X m->h'[m]?=h[m]?
 sub:∀m,S m->S' m
 new:∀m,S' m->S m\/(h.length<=m/\m<h'.length)
noncomputable def Xs(M:Nat->Prop)(aj:Ev.Fr)(l:List Nat):Nat->Prop:=λm=>M m/\∃i∈l,aj[i]?=some (some (.ref m))
structure Out(M B:Nat->Prop)(c:List Nat)(h:Hh)(S:Nat->Prop)(fr:Fr)(aj:Ev.Fr)(h':Hh)(S':Nat->Prop)(af:Fr):Prop where
 f:bD M B h' S' af aj
 tr:Tk (Xs M aj c) h S h' S'
 lk:∀i,locked af i=locked fr i
section
variable{M B M':Nat->Prop}{h h' h1 h2:Hh}{S S' S1 S2:Nat->Prop}{fr af ao:Fr}{aj:Ev.Fr}{c c1 c2:List Nat}{v:V}{d:D}{X X1 X2:Nat->Prop}
theorem bD.get(f:bD M B h S fr aj){i:Nat}{o:Option Sl}(e:fr[i]?=some o):∃p,aj[i]?=some p/\kZ M B h S o p:=by
 have h1:=(List.getElem?_eq_some_iff.mp e).1;rw[f.len]at h1;exact⟨aj[i],List.getElem?_eq_getElem h1,f.sl i o _ e (List.getElem?_eq_getElem h1)⟩
theorem bD.w(f:bD M B h S fr aj):∀m,S m->m<h.length:=λm q=>(f.wS m q).1
theorem Al.tr(a:Al h S h' S'):Tk X h S h' S':=⟨a.len,λm q _=>a.keep m q,a.sub,a.new⟩
theorem Tk.al(t:Tk X h S h' S')(z:∀m,¬ X m):Al h S h' S':=⟨t.len,λm q=>t.keep m q (z m),t.sub,t.new⟩
theorem Tk.weak(t:Tk X h S h' S')(q:∀m,X m->X1 m):Tk X1 h S h' S':=⟨t.len,λm k z=>t.keep m k λy=>z (q m y),t.sub,t.new⟩
theorem Tk.trans(a:Tk X1 h S h1 S1)(b:Tk X2 h1 S1 h2 S2):Tk (λm=>X1 m\/X2 m) h S h2 S2 where
 len:=Nat.le_trans a.len b.len
 keep:=λm q z=>by rw[b.keep m (Nat.lt_of_lt_of_le q a.len) (λy=>z (.inr y)),a.keep m q (λy=>z (.inl y))]
 sub:=λm q=>b.sub m (a.sub m q)
 new:=λm q=>by
  rcases b.new m q with q|⟨q1,q2⟩
  .rcases a.new m q with q|⟨q1,q2⟩
   .exact .inl q
   .exact .inr ⟨q1,Nat.lt_of_lt_of_le q2 b.len⟩
  .exact .inr ⟨Nat.le_trans a.len q1,q2⟩
theorem Al.trans(a:Al h S h1 S1)(b:Al h1 S1 h2 S2):Al h S h2 S2:=((a.tr (X:=λ_=>False)).trans (b.tr (X:=λ_=>False))).al λm z=>by simp at z
theorem Tk.refl:Tk X h S h S:=⟨Nat.le_refl _,λ_ _ _=>rfl,λ_ q=>q,λ_ q=>.inl q⟩
theorem Xs.app{l1 l2:List Nat}{m:Nat}:Xs M aj (l1++l2) m↔Xs M aj l1 m\/Xs M aj l2 m:=by
 unfold Xs;constructor
 .rintro⟨a,i,hi,e⟩;rcases List.mem_append.mp hi with hi|hi
  .exact .inl ⟨a,i,hi,e⟩
  .exact .inr ⟨a,i,hi,e⟩
 .rintro(⟨a,i,hi,e⟩|⟨a,i,hi,e⟩)
  .exact⟨a,i,List.mem_append.mpr (.inl hi),e⟩
  .exact⟨a,i,List.mem_append.mpr (.inr hi),e⟩
theorem Xs.nil{m:Nat}:¬ Xs M aj [] m:=by rintro⟨_,i,hi,_⟩;simp at hi
theorem Xs.mono{l1 l2:List Nat}(q:∀i∈l1,i∈l2){m:Nat}:Xs M aj l1 m->Xs M aj l2 m:=λ⟨a,i,hi,e⟩=>⟨a,i,q i hi,e⟩
theorem Rep.tr(q:Rep h S v d)(f:bD M B h S fr aj)(t:Tk (Xs M aj c) h S h' S'):Rep h' S' v d:=q.mono (λm z=>t.keep m (f.wS m z).1 (λy=>(f.wS m z).2.1 y.1)) t.sub
theorem aq.tr{l:List V}{ds:List D}(q:aq h S l ds)(f:bD M B h S fr aj)(t:Tk (Xs M aj c) h S h' S'):aq h' S' l ds:=q.mono (λm z=>t.keep m (f.wS m z).1 (λy=>(f.wS m z).2.1 y.1)) t.sub
theorem bu.tr(q:bu h S v d)(f:bD M B h S fr aj)(t:Tk X h S h' S')(z:∀m,¬ X m):bu h' S' v d:=q.mono (λm k=>t.keep m k (z m)) f.w t.sub
theorem kZ.al{o:Option Sl}{p:Option D}(q:kZ M B h S o p)(w:∀m,S m->m<h.length)(a:Al h S h' S'):kZ M B h' S' o p:=by
 have k:∀m,S m->h'[m]?=h[m]?:=λm z=>a.keep m (w m z);have g:∀(m:Nat) (ds:List D),h[m]?=some (O.lst ds)->h'[m]?=some (O.lst ds):=λm ds z=>by rw[a.keep m (List.getElem?_eq_some_iff.mp z).1];exact z
 rcases o with _|s
 .exact q
 .cases s with
  |val v=>obtain⟨d,e,q⟩:=q;exact⟨d,e,q.mono k a.sub⟩
  |own l=>obtain⟨m,ds,e,z,y,q⟩:=q;exact⟨m,ds,e,z,g m ds y,q.mono k a.sub⟩
  |bor l=>obtain⟨m,ds,e,z,y,q⟩:=q;exact⟨m,ds,e,z,g m ds y,q.mono k a.sub⟩
  |ro l=>obtain⟨m,ds,e,z,y,q⟩:=q;exact⟨m,ds,e,z,g m ds y,q.mono k a.sub⟩
theorem bD.al(f:bD M B h S fr aj)(a:Al h S h' S'):bD M B h' S' fr aj where
 wS:=λm q=>by
  rcases a.new m q with q|⟨q1,q2⟩
  .exact⟨Nat.lt_of_lt_of_le (f.wS m q).1 a.len,(f.wS m q).2⟩
  .exact⟨q2,λz=>by have:=f.wM m z;omega,λz=>by have:=f.wB m z;omega⟩
 wM:=λm q=>Nat.lt_of_lt_of_le (f.wM m q) a.len
 wB:=λm q=>Nat.lt_of_lt_of_le (f.wB m q) a.len
 len:=f.len
 sl:=λi o p e1 e2=>(f.sl i o p e1 e2).al f.w a
 inj:=f.inj
theorem Out.refl(f:bD M B h S fr aj):Out M B c h S fr aj h S fr:=⟨f,.refl,λ_=>rfl⟩
theorem Out.trans(a:Out M B c1 h S fr aj h1 S1 af)(b:Out M B c2 h1 S1 af aj h2 S2 ao):Out M B (c1++c2) h S fr aj h2 S2 ao:=⟨b.f,(a.tr.trans b.tr).weak λm z=>Xs.app.mpr z,λi=>(b.lk i).trans (a.lk i)⟩
theorem Out.al(a:Out M B c h S fr aj h1 S1 af)(b:Al h1 S1 h2 S2):Out M B c h S fr aj h2 S2 af:=⟨a.f.al b,(a.tr.trans (b.tr (X:=λ_=>False))).weak (λm z=>by rcases z with z|z;exact z;exact z.elim),a.lk⟩
theorem Out.weak(a:Out M B c h S fr aj h1 S1 af)(q:∀i∈c,i∈c1):Out M B c1 h S fr aj h1 S1 af:=⟨a.f,a.tr.weak λm z=>Xs.mono q z,a.lk⟩
noncomputable def gv(k:Bool)(h:Hh)(S:Nat->Prop)(v:V)(d:D):Prop:=if k=true then bu h S v d else Rep h S v d
theorem gv.of{k:Bool}(q:Rep h S v d):gv k h S v d:=by unfold gv;split;exact q.top;exact q
theorem gv.t{k:Bool}(q:gv k h S v d):bu h S v d:=by unfold gv at q;split at q;exact q;exact q.top
theorem gv.n(q:gv false h S v d):Rep h S v d:=by simpa[gv]using q
theorem bD.slot(f:bD M B h S fr aj){i m:Nat}(e:aj[i]?=some (some (.ref m)))(hm:M m):∃o,fr[i]?=some o/\iA o=true:=by
 have hl:i<fr.length:=by rw[f.len];exact(List.getElem?_eq_some_iff.mp e).1
 refine⟨fr[i],List.getElem?_eq_getElem hl,?_⟩;have s:=f.sl i _ _ (List.getElem?_eq_getElem hl) e
 revert s
 generalize fr[i]=o
 intro s;rcases o with _|s'
 .cases s
 .cases s' with
  |own l=>rfl
  |bor l=>rfl
  |ro l=>obtain⟨m',ds,e,y,_⟩:=s;cases e;exact absurd hm y
  |val v=>
   obtain⟨d,e,q⟩:=s;cases e;exfalso;cases v<;>simp only[Rep,reduceCtorEq]at q
   .obtain⟨_,e,_⟩:=q;cases e
   .obtain⟨n,ds,e,sn,_⟩:=q;cases e;exact(f.wS _ sn).2.1 hm
   .obtain⟨n,ds,e,sn,_⟩:=q;cases e;exact(f.wS _ sn).2.1 hm
   .obtain⟨n,e,sn,_⟩:=q;cases e;exact(f.wS _ sn).2.1 hm
theorem gv.tr{k:Bool}{a:E}(q:gv k h S v d)(f:bD M B h S fr aj)(t:Tk (Xs M aj c) h S h' S')(hk:k=true->kf a c=true)(ha:∀i,a=.v i->aj[i]?.join=some d):gv k h' S' v d:=by
 unfold gv at q ⊢;split at q
 .rename_i e;rw[if_pos e];have hk:=hk e;have gen:c=[]->bu h' S' v d:=λz=>q.tr f t λm y=>by subst z;exact Xs.nil y
  by_cases hv:∃i,a=.v i
  .obtain⟨i0,rfl⟩:=hv;simp only[kf,Bool.not_eq_true',List.contains_eq_mem,decide_eq_false_iff_not]at hk;cases v
   case lst l=>
    simp only[bu]at q ⊢;obtain⟨n,ds,rfl,b1,b2⟩:=q;refine⟨n,ds,rfl,?_,b2.tr f t⟩;rw[t.keep n (List.getElem?_eq_some_iff.mp b1).1 ?_]
    .exact b1
    .rintro⟨mn,j,hj,ej⟩;have e2:aj[i0]?=some (some (D.ref n)):=by
      have:=ha i0 rfl;cases z:aj[i0]? with
      |none=>rw[z]at this;cases this
      |some p=>rw[z]at this;simp at this;rw[this]
     obtain⟨o1,y1,y2⟩:=f.slot e2 mn;obtain⟨o2,y3,y4⟩:=f.slot ej mn;have:=f.inj i0 j o1 o2 n y1 y3 y2 y4 e2 ej;subst this;exact hk hj
   all_goals exact Rep.tr (show Rep h S _ d from q) f t
  .have:kf a c=c.isEmpty:=by
    cases a<;>first|rfl|exact absurd ⟨_,rfl⟩ hv
   rw[this,List.isEmpty_iff]at hk;exact gen hk
 .rename_i e;rw[if_neg e];exact q.tr f t
theorem Jz{k:Bool}{i:Nat}(e:mF k fr i=some v)(f:bD M B h S fr aj):∃d,aj[i]?.join=some d/\gv k h S v d:=by
  unfold mF at e;split at e
  . rename_i z;obtain⟨p,e1,q⟩:=f.get z;obtain⟨d,rfl,q⟩:=q;cases e;exact⟨d,by rw[e1];rfl,.of q⟩
  all_goals first
    | (rename_i z
       obtain⟨p,e1,q⟩:=f.get z;obtain⟨m,ds,rfl,_,y,q⟩:=q;split at e
       . rename_i hk;cases e;exact⟨.ref m,by rw[e1];rfl,by unfold gv;rw[if_pos hk];exact⟨m,ds,rfl,y,q⟩⟩
       . cases e)
    |cases e
theorem jM{i:Nat}{s:Sl}(e:lent fr i=some s)(f:bD M B h S fr aj):∃m ds l o,fr[i]?=some o/\aj[i]?=some (some (.ref m))/\h[m]?=some (.lst ds)/\aq h S l ds/\((s=.bor l/\M m/\iA o=true)\/(s=.ro l/\¬ M m/\o=some (.ro l))):=by
 unfold lent at e;split at e
 .rename_i s' z;obtain⟨p,e1,q⟩:=f.get z;cases s' with
  |val v=>simp[Sl.lend]at e
  |own l=>
   simp[Sl.lend]at e;subst e;obtain⟨m,ds,rfl,y,y1,q⟩:=q;exact⟨m,ds,l,_,z,e1,y1,q,.inl ⟨rfl,y.1,rfl⟩⟩
  |bor l=>
   simp[Sl.lend]at e;subst e;obtain⟨m,ds,rfl,y,y1,q⟩:=q;exact⟨m,ds,l,_,z,e1,y1,q,.inl ⟨rfl,y.1,rfl⟩⟩
  |ro l=>
   simp[Sl.lend]at e;subst e;obtain⟨m,ds,rfl,y,y1,q⟩:=q;exact⟨m,ds,l,_,z,e1,y1,q,.inr ⟨rfl,y,rfl⟩⟩
 .cases e
noncomputable def vZ(h:Hh)(S:Nat->Prop)(aj:Ev.Fr):List (Nat ⊕ V)->List D->Prop
 |[],ds=>ds=[]
 |.inl i :: r,ds=>∃d es,ds=d :: es/\aj[i]?=some (some d)/\vZ h S aj r es
 |.inr v :: r,ds=>∃d es,ds=d :: es/\Rep h S v d/\vZ h S aj r es
noncomputable def nT(h:Hh)(S:Nat->Prop):List Sl->List D->List (List V)->Prop
 |[],_,os=>os=[]
 |.val _ :: sl,ds,os=>∃d es,ds=d :: es/\nT h S sl es os
 |.own _ :: _,_,_=>False
 |_ :: sl,ds,os=>∃d es l r m cs,ds=d :: es/\os=l :: r/\d=.ref m/\h[m]?=some (.lst cs)/\aq h S l cs/\nT h S sl es r
noncomputable def qF(P:aO)(P':Ev.aO):Prop:=∀f sl v os,P f sl=some (v,os)->∀(h:Hh) (S B:Nat->Prop) (ds:List D),bD B B h S (sl.map some) (ds.map some)->
 ∃d h' S',P' f ds h=.ok d h'/\Rep h' S' v d/\Tk B h S h' S'/\nT h' S' sl ds os
theorem args_get(f:bD M B h S fr aj):∀{as:List (Nat ⊕ V)}{sl:List Sl}{ds:List D},args fr as=some sl->vZ h S aj as ds->sl.length=ds.length/\∀(a:Nat) s d,sl[a]?=some s->ds[a]?=some d->
  (∃i,as[a]?=some (.inl i)/\lent fr i=some s/\aj[i]?=some (some d))\/(∃v,s=.val v/\Rep h S v d)
 |[],sl,ds,e,q=>by
  simp[args]at e;simp only[vZ]at q;subst e q;simp
 |.inl i :: r,sl,ds,e,q=>by
  simp only[args,Option.bind_eq_some_iff,Option.map_eq_some_iff]at e;obtain⟨s,e1,l,e2,rfl⟩:=e;obtain⟨d,es,rfl,q1,q⟩:=q;obtain⟨h1,h2⟩:=args_get f e2 q;refine⟨by simp[h1],λa s' d' z1 z2=>?_⟩;cases a with
  |zero=>simp at z1 z2;subst z1 z2;exact .inl ⟨i,by simp,e1,q1⟩
  |succ a=>exact(h2 a s' d' (by simpa using z1) (by simpa using z2)).imp (λ⟨i,k,z⟩=>⟨i,by simpa using k,z⟩) id
 |.inr v :: r,sl,ds,e,q=>by
  simp only[args,Option.map_eq_some_iff]at e;obtain⟨l,e2,rfl⟩:=e;obtain⟨d,es,rfl,q1,q⟩:=q;obtain⟨h1,h2⟩:=args_get f e2 q;refine⟨by simp[h1],λa s' d' z1 z2=>?_⟩;cases a with
  |zero=>simp at z1 z2;subst z1 z2;exact .inr ⟨v,rfl,q1⟩
  |succ a=>exact(h2 a s' d' (by simpa using z1) (by simpa using z2)).imp (λ⟨i,k,z⟩=>⟨i,by simpa using k,z⟩) id
theorem iB:∀{as:List (Nat ⊕ V)}{a i:Nat},as[a]?=some (.inl i)->i∈bW as
 |[],_,_,e=>by simp at e
 |.inl j :: r,0,i,e=>by simp at e;subst e;simp[bW]
 |.inr j :: r,0,i,e=>by simp at e
 |.inl j :: r,a+1,i,e=>by have:=iB (as:=r) (a:=a) (i:=i) (by simpa using e);simp[bW,this]
 |.inr j :: r,a+1,i,e=>by have:=iB (as:=r) (a:=a) (i:=i) (by simpa using e);simp[bW,this]
theorem nU:∀{as:List (Nat ⊕ V)}{a b i:Nat},(bW as).Nodup->as[a]?=some (.inl i)->as[b]?=some (.inl i)->a=b
 |[],_,_,_,_,e,_=>by simp at e
 |x :: r,0,0,_,_,_,_=>rfl
 |.inr j :: r,0,b+1,i,n,e,_=>by simp at e
 |.inl j :: r,0,b+1,i,n,e,e2=>by
  simp at e;subst e;simp only[bW,List.nodup_cons]at n;exact absurd (iB (as:=r) (a:=b) (by simpa using e2)) n.1
 |.inr j :: r,a+1,0,i,n,_,e=>by simp at e
 |.inl j :: r,a+1,0,i,n,e2,e=>by
  simp at e;subst e;simp only[bW,List.nodup_cons]at n;exact absurd (iB (as:=r) (a:=a) (by simpa using e2)) n.1
 |.inl j :: r,a+1,b+1,i,n,e1,e2=>by
  simp only[bW,List.nodup_cons]at n;have:=nU (as:=r) (a:=a) (b:=b) (i:=i) n.2 (by simpa using e1) (by simpa using e2);omega
 |.inr j :: r,a+1,b+1,i,n,e1,e2=>by
  simp only[bW]at n;have:=nU (as:=r) (a:=a) (b:=b) (i:=i) n (by simpa using e1) (by simpa using e2);omega
theorem EB{s:Sl}{l:List V}:iA (some (s.with l))=iA (some s):=by cases s<;>rfl
theorem yV{s:Sl}{l:List V}:yU (some (s.with l))=yU (some s):=by cases s<;>rfl
theorem v5:∀{is:List Nat}{ls:List (List V)}{fr af:Fr},back is ls fr=some af->is.Nodup->af.length=fr.length/\(∀i,i∉is->af[i]?=fr[i]?)/\∀i∈is,∃(k:Nat) (s:Sl) (l:List V),is[k]?=some i/\ls[k]?=some l/\fr[i]?=some (some s)/\af[i]?=some (some (s.with l))
 |[],[],fr,af,e,_=>by simp[back]at e;subst e;simp
 |[],_ :: _,_,_,e,_=>by simp[back]at e
 |_ :: _,[],_,_,e,_=>by simp[back]at e
 |i :: is,l :: ls,fr,af,e,n=>by
  simp only[back]at e;simp only[List.nodup_cons]at n;split at e
  .rename_i s z;obtain⟨h1,h2,h3⟩:=v5 e n.2;refine⟨by simpa using h1,λj hj=>?_,λj hj=>?_⟩
   .simp at hj;rw[h2 j hj.2,List.getElem?_set_ne (λq=>hj.1 q.symm)]
   .rcases List.mem_cons.mp hj with rfl|hj
    .exact⟨0,s,l,by simp,by simp,z,by rw[h2 j n.1,List.getElem?_set_self (List.getElem?_eq_some_iff.mp z).1]⟩
    .obtain⟨k,s',l',a,b,c,d⟩:=h3 j hj;have hne:i≠j:=λq=>n.1 (q▸hj);rw[List.getElem?_set_ne hne]at c;exact⟨k+1,s',l',by simpa using a,by simpa using b,c,d⟩
  .cases e
theorem nV(f:bD M B h S fr aj):∀{as:List (Nat ⊕ V)}{sl:List Sl}{ds:List D}{os:List (List V)},args fr as=some sl->vZ h S aj as ds->nT h' S' sl ds os->
  ∀(k i:Nat) l,(bW as)[k]?=some i->os[k]?=some l->∃m cs,aj[i]?=some (some (.ref m))/\h'[m]?=some (.lst cs)/\aq h' S' l cs
 |[],sl,ds,os,e,q,o=>by simp[bW]
 |.inl i :: r,sl,ds,os,e,q,o=>by
  simp only[args,Option.bind_eq_some_iff,Option.map_eq_some_iff]at e;obtain⟨s,e1,l,e2,rfl⟩:=e;obtain⟨d,es,rfl,q1,q⟩:=q;obtain⟨m,cs,l0,o0,_,z2,z3,z4,z5⟩:=jM e1 f;have key:∃l1 r1 cs,os=l1 :: r1/\h'[m]?=some (.lst cs)/\aq h' S' l1 cs/\nT h' S' l es r1:=by
   rw[q1]at z2;cases z2;rcases z5 with ⟨rfl,_⟩|⟨rfl,_⟩
   .obtain⟨d',es',l1,r1,m1,Cd,a1,a2,a3,a4,a5,a6⟩:=o;cases a1;cases a3;exact⟨l1,r1,Cd,a2,a4,a5,a6⟩
   .obtain⟨d',es',l1,r1,m1,Cd,a1,a2,a3,a4,a5,a6⟩:=o;cases a1;cases a3;exact⟨l1,r1,Cd,a2,a4,a5,a6⟩
  obtain⟨l1,r1,Cd,rfl,a4,a5,a6⟩:=key;intro k j l' y1 y2;cases k with
  |zero=>simp[bW]at y1 y2;subst y1 y2;exact⟨m,Cd,z2,a4,a5⟩
  |succ k=>exact nV f e2 q a6 k j l' (by simpa[bW]using y1) (by simpa using y2)
 |.inr v :: r,sl,ds,os,e,q,o=>by
  simp only[args,Option.map_eq_some_iff]at e;obtain⟨l,e2,rfl⟩:=e;obtain⟨d,es,rfl,q1,q⟩:=q;obtain⟨d',es',a1,a2⟩:=o;cases a1;intro k j l' y1 y2;exact nV f e2 q a2 k j l' (by simpa[bW]using y1) y2
theorem mH:∀{as:List (Nat ⊕ V)}{sl:List Sl}{i:Nat},args fr as=some sl->i∈bW as->∃s,lent fr i=some s
 |[],_,_,_,q=>by simp[bW]at q
 |.inl j :: r,_,i,z,q=>by
  simp only[args,Option.bind_eq_some_iff,Option.map_eq_some_iff]at z;obtain⟨s,e1,l,e2,rfl⟩:=z;simp[bW]at q;rcases q with rfl|q
  .exact⟨s,e1⟩
  .exact mH e2 q
 |.inr u :: r,_,i,z,q=>by
  simp only[args,Option.map_eq_some_iff]at z;obtain⟨l,e2,rfl⟩:=z;exact mH e2 (by simpa[bW]using q)
theorem EC{P:aO}{P':Ev.aO}(HP:qF P P'){g:Nat}{as:List (Nat ⊕ V)}{ds:List D}(e:fy P g as fr=.ok v af)(f:bD M B h S fr aj)(q:vZ h S aj as ds) :
  ∃d h' S',P' g ds h=.ok d h'/\Rep h' S' v d/\Out M B (bW as) h S fr aj h' S' af:=by
 unfold fy at e;split at e
 case isFalse=>cases e
 rename_i nd;cases z:args fr as with
 |none=>rw[z]at e;cases e
 |some sl=>
 rw[z]at e;simp only at e;cases z2:P g sl with
 |none=>rw[z2]at e;cases e
 |some vo=>
 obtain⟨v',os⟩:=vo;rw[z2]at e;simp only at e;cases z3:back (bW as) os fr with
 |none=>rw[z3]at e;cases e
 |some ao=>
 rw[z3]at e;simp at e;obtain⟨rfl,rfl⟩:=e;obtain⟨hl,hg⟩:=args_get f z q
 let B0:Nat->Prop:=λm=>∃i o,i∈bW as/\fr[i]?=some o/\iA o=true/\aj[i]?=some (some (.ref m))
 have qG:∀m,B0 m->M m:=λm ⟨i,o,_,a,b,c⟩=>by
  have s:=f.sl i o _ a c;rcases o with _|s'
  .cases b
  .cases s' with
   |val v=>cases b
   |ro l=>cases b
   |own l=>obtain⟨m',ds',e,y,_⟩:=s;cases e;exact y.1
   |bor l=>obtain⟨m',ds',e,y,_⟩:=s;cases e;exact y.1
 have F0:bD B0 B0 h S (sl.map some) (ds.map some):=by
  refine⟨λm y=>⟨(f.wS m y).1,λz=>(f.wS m y).2.1 (qG m z),λz=>(f.wS m y).2.1 (qG m z)⟩,λm y=>f.wM m (qG m y),λm y=>f.wM m (qG m y),by simp[hl],λa o p y1 y2=>?_,λa b o o' m y1 y2 y3 y4 y5 y6=>?_⟩
  .simp at y1 y2;obtain⟨s,y1,rfl⟩:=y1;obtain⟨d,y2,rfl⟩:=y2;rcases hg a s d y1 y2 with ⟨i,k1,k2,k3⟩|⟨u,rfl,k⟩
   .obtain⟨m,cs,l0,o0,w1,w2,w3,w4,w5⟩:=jM k2 f;rw[k3]at w2;cases w2;rcases w5 with ⟨rfl,w6,w7⟩|⟨rfl,w6,w7⟩
    .exact⟨m,cs,rfl,⟨⟨i,o0,iB k1,w1,w7,k3⟩,⟨i,o0,iB k1,w1,w7,k3⟩⟩,w3,w4⟩
    .exact⟨m,cs,rfl,λz=>w6 (qG m z),w3,w4⟩
   .exact⟨d,rfl,k⟩
  .simp at y1 y2 y5 y6;obtain⟨s,y1,rfl⟩:=y1;obtain⟨s',y2,rfl⟩:=y2;rcases hg a s _ y1 y5 with ⟨i,k1,k2,k3⟩|⟨u,rfl,k⟩
   .rcases hg b s' _ y2 y6 with ⟨j,k4,k5,k6⟩|⟨u,rfl,k⟩
    .obtain⟨m1,_,l1,o1,w1,w2,_,_,w5⟩:=jM k2 f;obtain⟨m2,_,l2,o2,x1,x2,_,_,x5⟩:=jM k5 f;have i1:iA o1=true:=by rcases w5 with ⟨_,_,w7⟩|⟨rfl,_,_⟩;exact w7;cases y3
     have i2:iA o2=true:=by rcases x5 with ⟨_,_,w7⟩|⟨rfl,_,_⟩;exact w7;cases y4
     have:=f.inj i j o1 o2 m w1 x1 i1 i2 k3 k6;subst this;exact nU nd k1 k4
    .cases y4
   .cases y3
 obtain⟨d,h',S',c1,c2,c3,c4⟩:=HP g sl v' os z2 h S B0 ds F0;obtain⟨b1,b2,b3⟩:=v5 z3 nd;have hL:=nV f z q c4;have qH:∀m,S m->h'[m]?=h[m]?:=λm y=>c3.keep m (f.wS m y).1 (λz=>(f.wS m y).2.1 (qG m z));refine⟨d,h',S',c1,c2,⟨?_,?_,?_⟩⟩
 .refine⟨λm y=>?_,λm y=>Nat.lt_of_lt_of_le (f.wM m y) c3.len,λm y=>Nat.lt_of_lt_of_le (f.wB m y) c3.len,by rw[b1,f.len],λi o p y1 y2=>?_,λi j o o' m y1 y2 y3 y4 y5 y6=>?_⟩
  .rcases c3.new m y with y|⟨y1,y2⟩
   .exact⟨Nat.lt_of_lt_of_le (f.wS m y).1 c3.len,(f.wS m y).2⟩
   .exact⟨y2,λz=>by have:=f.wM m z;omega,λz=>by have:=f.wB m z;omega⟩
  .by_cases hi:i∈bW as
   .obtain⟨k,s,l,w1,w2,w3,w4⟩:=b3 i hi;rw[w4]at y1;cases y1;obtain⟨m,cs,x1,x2,x3⟩:=hL k i l w1 w2;rw[x1]at y2;cases y2;have old:=f.sl i _ _ w3 x1;cases s with
    |val u=>
     exfalso;have:∃s,lent fr i=some s:=mH z hi;obtain⟨s,hs⟩:=this;simp[lent,w3,Sl.lend]at hs
    |own u=>obtain⟨m',ds',e,y,_⟩:=old;cases e;exact⟨m,cs,rfl,y,x2,x3⟩
    |bor u=>obtain⟨m',ds',e,y,_⟩:=old;cases e;exact⟨m,cs,rfl,y,x2,x3⟩
    |ro u=>
     obtain⟨m',ds',e,y,y1,y2⟩:=old;cases e;refine⟨m,ds',rfl,y,?_,y2.mono qH c3.sub⟩;rw[c3.keep m (List.getElem?_eq_some_iff.mp y1).1 (λz=>y (qG m z))];exact y1
   .rw[b2 i hi]at y1;have old:=f.sl i o p y1 y2;rcases o with _|s
    .exact old
    .cases s with
     |val u=>obtain⟨d,e,q⟩:=old;exact⟨d,e,q.mono qH c3.sub⟩
     |own u=>
      obtain⟨m,ds',rfl,w1,w2,w3⟩:=old;refine⟨m,ds',rfl,w1,?_,w3.mono qH c3.sub⟩;rw[c3.keep m (f.wM m w1.1) (λ⟨j,o2,x1,x2,x3,x4⟩=>hi (f.inj i j _ o2 m y1 x2 rfl x3 y2 x4▸x1))];exact w2
     |bor u=>
      obtain⟨m,ds',rfl,w1,w2,w3⟩:=old;refine⟨m,ds',rfl,w1,?_,w3.mono qH c3.sub⟩;rw[c3.keep m (f.wM m w1.1) (λ⟨j,o2,x1,x2,x3,x4⟩=>hi (f.inj i j _ o2 m y1 x2 rfl x3 y2 x4▸x1))];exact w2
     |ro u=>
      obtain⟨m,ds',rfl,w1,w2,w3⟩:=old;refine⟨m,ds',rfl,w1,?_,w3.mono qH c3.sub⟩;rw[c3.keep m (List.getElem?_eq_some_iff.mp w2).1 (λz=>w1 (qG m z))];exact w2
  .have kind:∀(i:Nat) o,ao[i]?=some o->iA o=true->∃o0,fr[i]?=some o0/\iA o0=true:=λi o w1 w2=>by
    by_cases hi:i∈bW as
    .obtain⟨k,s,l,x1,x2,x3,x4⟩:=b3 i hi;rw[x4]at w1;cases w1;exact⟨_,x3,by rw[EB]at w2;exact w2⟩
    .rw[b2 i hi]at w1;exact⟨o,w1,w2⟩
   obtain⟨oi,k1,k2⟩:=kind i o y1 y3;obtain⟨oj,k3,k4⟩:=kind j o' y2 y4;exact f.inj i j oi oj m k1 k3 k2 k4 y5 y6
 .exact c3.weak λm z=>⟨qG m z,by obtain⟨i,o,a1,a2,a3,a4⟩:=z;exact⟨i,a1,a4⟩⟩
 .intro i;unfold locked;by_cases hi:i∈bW as
  .obtain⟨k,s,l,x1,x2,x3,x4⟩:=b3 i hi;rw[x3,x4];exact yV
  .rw[b2 i hi]
end
end Pv
namespace Pv
open Ev (D O Hh)
theorem v8(k:List (Int×List Nat))(p:Int)(s:List Nat):(Ev.di k p s).length<=k.length+1:=by
 unfold Ev.di;split<;>simp
theorem G7{P:Ev.aO}{w:Nat}{d0 d3:D}{n:Nat}:∀(s:List Nat) (k:List (Int×List Nat)) (p:Int) (o:Option D) (h:Hh),h[n]?=some (.dct k)->k.length+s.length<=100000->
  ∃o',Ev.forL (λd ao h2=>match Ev.bC (.one 4) d ao with|some bI=>Ev.exs P w G6 bI h2|none=>.bad) [] (s.map λc=>.str [c]) [some d0,some (.ref n),some (.int p),some d3,o] h=.ok (.nx,[some d0,some (.ref n),some (.int (p+s.length)),some d3,o']) (h.set n (.dct (gS k p s)))
 |[],k,p,o,h,hn,_=>⟨o,by
  simp only[List.map_nil,Ev.forL,gS];have:h.set n (.dct k)=h:=by
   obtain⟨hl,e⟩:=List.getElem?_eq_some_iff.mp hn;rw[<-e];exact List.set_getElem_self hl
  rw[this];simp[Ev.stays]⟩
 |c :: s,k,p,o,h,hn,hk=>by
  have hl:=(List.getElem?_eq_some_iff.mp hn).1;have h1:=v8 k p [c];simp only[List.length_cons]at hk;obtain⟨o',ih⟩:=G7 (P:=P) (w:=w) (d0:=d0) (d3:=d3) (n:=n) s (Ev.di k p [c]) (p+1) (some (.str [c])) (h.set n (.dct (Ev.di k p [c]))) (by rw[List.getElem?_set_self hl]) (by omega);refine⟨o',?_⟩;have kb:k.length<Ev.big:=Nat.lt_of_le_of_lt (show k.length<=100000 by omega) (by decide);have st:Ev.exs P w G6 [some d0,some (.ref n),some (.int p),some d3,some (.str [c])] h=.ok (.nx,[some d0,some (.ref n),some (.int (p+1)),some d3,some (.str [c])]) (h.set n (.dct (Ev.di k p [c]))):=by
   simp[G6,Ev.exs,Ev.ex,Ev.ev,Ev.R.bind,Ev.R.of,Ev.uF,hn,kb,Ev.bS]
  simp only[List.map_cons,Ev.forL,Ev.bC,List.set];rw[st];simp only[Ev.ak];simp only[Ev.bC]at ih;rw[ih,List.set_set];have e2:p+1+(s.length:Int)=p+((s.length+1:Nat):Int):=by omega
  simp[Ev.stays,gS,e2]
theorem NG{v:V}{l:List V}{p:Int}{k k':List (Int×List Nat)}(e:bg (v :: l) p k=some k'):(∃s,v=.tup [.str [100,114,111,112],.str s]/\k.length+s.length<=100000/\bg l (p+s.length) (gS k p s)=some k')\/
  (∃i,v=.tup [.str [107,101,101,112],.int i]/\bg l (p+i) k=some k')\/∃w s,v=.tup [.str w,.str s]/\w≠[100,114,111,112]/\w≠[107,101,101,112]/\bg l p k=some k':=by
 match v,e with
 |.tup [.str w,.str s],e=>
  rw[bg]at e;by_cases h1:w=[100,114,111,112]
  .rw[if_pos h1]at e;by_cases h2:k.length+s.length<=100000
   .rw[if_pos h2]at e;exact .inl ⟨s,by rw[h1],h2,e⟩
   .rw[if_neg h2]at e;cases e
  .rw[if_neg h1]at e;by_cases h2:w=[107,101,101,112]
   .rw[if_pos h2]at e;cases e
   .rw[if_neg h2]at e;exact .inr (.inr ⟨w,s,rfl,h1,h2,e⟩)
 |.tup [.str w,.int i],e=>
  rw[bg]at e;by_cases h2:w=[107,101,101,112]
  .rw[if_pos h2]at e;exact .inr (.inl ⟨i,by rw[h2],e⟩)
  .rw[if_neg h2]at e;cases e
 |.tup [],e=>simp[bg]at e
 |.tup [_],e=>simp[bg]at e
 |.tup (_ :: _ :: _ :: _),e=>simp[bg]at e
 |.aS,e=>simp[bg]at e
 |.bl _,e=>simp[bg]at e
 |.int _,e=>simp[bg]at e
 |.str _,e=>simp[bg]at e
 |.lst _,e=>simp[bg]at e
 |.bP _,e=>simp[bg]at e
 |.dct _,e=>simp[bg]at e
 |.tup [.aS,_],e=>simp[bg]at e
 |.tup [.bl _,_],e=>simp[bg]at e
 |.tup [.int _,_],e=>simp[bg]at e
 |.tup [.tup _,_],e=>simp[bg]at e
 |.tup [.lst _,_],e=>simp[bg]at e
 |.tup [.bP _,_],e=>simp[bg]at e
 |.tup [.dct _,_],e=>simp[bg]at e
 |.tup [.str _,.aS],e=>simp[bg]at e
 |.tup [.str _,.bl _],e=>simp[bg]at e
 |.tup [.str _,.tup _],e=>simp[bg]at e
 |.tup [.str _,.lst _],e=>simp[bg]at e
 |.tup [.str _,.bP _],e=>simp[bg]at e
 |.tup [.str _,.dct _],e=>simp[bg]at e
theorem G8{P:Ev.aO}{w:Nat}{d0:D}{n:Nat}{h0:Hh}{S:Nat->Prop}:∀(l:List V) (ds:List D) (k k':List (Int×List Nat)) (p:Int) (o3 o4:Option D) (h:Hh),aq h0 S l ds->h[n]?=some (.dct k)->bg l p k=some k'->
  ∃p' Ce Cf,Ev.forL (λd ao h2=>match Ev.bC (.one 3) d ao with|some bI=>Ev.exs P w vS bI h2|none=>.bad) [] ds [some d0,some (.ref n),some (.int p),o3,o4] h=.ok (.nx,[some d0,some (.ref n),some (.int p'),Ce,Cf]) (h.set n (.dct k'))
 |[],ds,k,k',p,o3,o4,h,q,hn,e=>by
  simp only[aq]at q;subst q;simp only[bg]at e;cases e;refine⟨p,o3,o4,?_⟩;have:h.set n (.dct k)=h:=by
   obtain⟨hl,e⟩:=List.getElem?_eq_some_iff.mp hn;rw[<-e];exact List.set_getElem_self hl
  rw[this];simp[Ev.forL,Ev.stays]
 |v :: l,ds,k,k',p,o3,o4,h,q,hn,e=>by
  have hl:=(List.getElem?_eq_some_iff.mp hn).1;simp only[aq]at q;obtain⟨d,es,rfl,q1,q2⟩:=q;have go:∀(k1:List (Int×List Nat)) (p1:Int) (o':Option D),Ev.exs P w vS [some d0,some (.ref n),some (.int p),some d,o4] h=.ok (.nx,[some d0,some (.ref n),some (.int p1),some d,o']) (h.set n (.dct k1))->bg l p1 k1=some k'->∃p' Ce Cf,Ev.forL (λd ao h2=>match Ev.bC (.one 3) d ao with|some bI=>Ev.exs P w vS bI h2|none=>.bad) [] (d :: es) [some d0,some (.ref n),some (.int p),o3,o4] h=.ok (.nx,[some d0,some (.ref n),some (.int p'),Ce,Cf]) (h.set n (.dct k')):=λk1 p1 o' st e1=>by
   obtain⟨p',Ce,Cf,ih⟩:=G8 (P:=P) (w:=w) (d0:=d0) (n:=n) l es k1 k' p1 (some d) o' (h.set n (.dct k1)) q2 (by rw[List.getElem?_set_self hl]) e1;refine⟨p',Ce,Cf,?_⟩;simp only[Ev.forL,Ev.bC,List.set];rw[st];simp only[Ev.ak];simp only[Ev.bC]at ih;rw[ih,List.set_set];simp[Ev.stays]
  have hs:h.set n (.dct k)=h:=by
   obtain⟨hl,e⟩:=List.getElem?_eq_some_iff.mp hn;rw[<-e];exact List.set_getElem_self hl
  rcases NG e with ⟨s,rfl,hk,e1⟩|⟨i,rfl,e1⟩|⟨w0,s,rfl,h1,h2,e1⟩
  .simp only[Rep,aq]at q1;obtain⟨_,rfl,d1,_,rfl,rfl,d2,_,rfl,rfl,rfl⟩:=q1;obtain⟨o',hin⟩:=G7 (P:=P) (w:=w) (d0:=d0) (d3:=.tup [.str [100,114,111,112],.str s]) (n:=n) s k p o4 h hn hk;refine go _ _ o' ?_ e1;simp only[Ev.bC]at hin;simp[vS,Ev.exs,Ev.ex,Ev.aI,Ev.ev,Ev.R.bind,Ev.R.of,Ev.dY,Ev.bL,Ev.ef,Ev.cop,Ev.gq,Ev.deep,Ev.truthy,Ev.cF,Ev.e8,Ev.bC,hin]
  .simp only[Rep,aq]at q1;obtain⟨_,rfl,d1,_,rfl,rfl,d2,_,rfl,rfl,rfl⟩:=q1;refine go k (p+i) o4 ?_ e1;rw[hs];simp[vS,Ev.exs,Ev.ex,Ev.aI,Ev.ev,Ev.R.bind,Ev.R.of,Ev.dY,Ev.bL,Ev.ef,Ev.cop,Ev.gq,Ev.deep,Ev.truthy,Ev.bS]
  .simp only[Rep,aq]at q1;obtain⟨_,rfl,d1,_,rfl,rfl,d2,_,rfl,rfl,rfl⟩:=q1;refine go k p o4 ?_ e1;rw[hs];simp[vS,Ev.exs,Ev.ex,Ev.aI,Ev.ev,Ev.R.bind,Ev.R.of,Ev.dY,Ev.bL,Ev.ef,Ev.cop,Ev.gq,Ev.deep,Ev.truthy,Ev.bS,h1,h2]
theorem NH{F:List Ev.Fn}{w n f:Nat}{l:List V}{k:List (Int×List Nat)}{d:D}{h:Hh}{S:Nat->Prop}(hf:F[f]?=some fT)(q:Rep h S (.tup l) d)(e:bg l 0 []=some k):Ev.run F w (n+1) f [d] h=.ok (.ref h.length) (h++[.dct k]):=by
 simp only[Rep]at q;obtain⟨dl,rfl,q⟩:=q;obtain⟨p',o3,o4,g⟩:=G8 (P:=Ev.run F w n) (w:=w) (d0:=.tup dl) (n:=h.length) l dl [] k 0 none none (h++[.dct []]) q (by simp) e;have hs:(h++[O.dct []]).set h.length (.dct k)=h++[.dct k]:=by simp
 rw[hs]at g;simp only[Ev.bC]at g;simp only[Ev.run,hf];show Ev.endOf (Ev.exs (Ev.run F w n) w fT.body [some (.tup dl),none,none,none,none] h)=_;simp[fT,Ev.exs,Ev.ex,Ev.ev,Ev.R.bind,Ev.R.of,Ev.cF,Ev.e8,Ev.bC,g,Ev.endOf]
theorem NI{fn:Ev.Fn}{sl:List Sl}{v:V}{os:List (List V)}(e:ug fn sl=some (v,os)):fn=fT/\∃l k,sl=[.val (.tup l)]/\bg l 0 []=some k/\v=.dct k/\os=[]:=by
 unfold ug at e;split at e
 .rename_i h;refine⟨h,?_⟩;split at e
  .rename_i l;obtain⟨k,e1,e2⟩:=Option.map_eq_some_iff.mp e;cases e2;exact⟨l,k,rfl,e1,rfl,rfl⟩
  .cases e
 .cases e
end Pv
namespace Pv
open Ev (D O Hh bU bN TY BI ME T E Es Eo It S Ss Fn big deep b2i rep cH ef bL aT cut cV eO slots bq)
section
variable{M B M':Nat->Prop}{h h' h1 h2:Hh}{S S' S1 S2:Nat->Prop}{fr af ao:Fr}{aj:Ev.Fr}{c c1 c2:List Nat}{v:V}{d:D}
theorem lI{n m:Nat}{o:O}(q:n≠m):(h.set n o)[m]?=h[m]?:=List.getElem?_set_ne q
theorem bD.mM(f:bD M B h S fr aj){i n:Nat}{o:Option Sl}(e:fr[i]?=some o)(hM:iA o=true)(e':aj[i]?=some (some (.ref n))):M n:=by
 have s:=f.sl i o _ e e';rcases o with _|s'
 .cases hM
 .cases s' with
  |val v=>cases hM
  |ro l=>cases hM
  |own l=>obtain⟨m',ds',e,y,_⟩:=s;cases e;exact y.1
  |bor l=>obtain⟨m',ds',e,y,_⟩:=s;cases e;exact y.1
theorem bD.write(f:bD M B h S fr aj){i n:Nat}{s:Sl}{l':List V}{ds':List D}(e:fr[i]?=some (some s))(hM:iA (some s)=true)(e':aj[i]?=some (some (.ref n)))(q:aq h S l' ds') :
  bD M B (h.set n (.lst ds')) S (fr.set i (some (s.with l'))) aj:=by
 have mn:=f.mM e hM e';have kp:∀m,S m->(h.set n (.lst ds'))[m]?=h[m]?:=λm z=>lI λy=>(f.wS m z).2.1 (y▸mn);have il:=(List.getElem?_eq_some_iff.mp e).1;refine⟨λm y=>by simpa using f.wS m y,λm y=>by simpa using f.wM m y,λm y=>by simpa using f.wB m y,by simp[f.len],λj o p y1 y2=>?_,λj k o o' m y1 y2 y3 y4 y5 y6=>?_⟩
 .by_cases hj:i=j
  .subst hj;rw[List.getElem?_set_self il]at y1;cases y1;rw[e']at y2;cases y2;have old:=f.sl i _ _ e e';have hn:(h.set n (.lst ds'))[n]?=some (.lst ds'):=List.getElem?_set_self (f.wM n mn);cases s with
   |val v=>cases hM
   |ro l=>cases hM
   |own l=>obtain⟨m',_,e,y,_⟩:=old;cases e;exact⟨n,ds',rfl,y,hn,q.mono kp λ_ z=>z⟩
   |bor l=>obtain⟨m',_,e,y,_⟩:=old;cases e;exact⟨n,ds',rfl,y,hn,q.mono kp λ_ z=>z⟩
  .rw[List.getElem?_set_ne hj]at y1;have old:=f.sl j o p y1 y2;rcases o with _|s'
   .exact old
   .cases s' with
    |val u=>obtain⟨d,e,q⟩:=old;exact⟨d,e,q.mono kp λ_ z=>z⟩
    |own u=>
     obtain⟨m,es,rfl,w1,w2,w3⟩:=old;refine⟨m,es,rfl,w1,?_,w3.mono kp λ_ z=>z⟩;rw[lI λ(z:n=m)=>hj (f.inj i j _ _ n e y1 hM rfl e' (by rw[z];exact y2))];exact w2
    |bor u=>
     obtain⟨m,es,rfl,w1,w2,w3⟩:=old;refine⟨m,es,rfl,w1,?_,w3.mono kp λ_ z=>z⟩;rw[lI λ(z:n=m)=>hj (f.inj i j _ _ n e y1 hM rfl e' (by rw[z];exact y2))];exact w2
    |ro u=>
     obtain⟨m,es,rfl,w1,w2,w3⟩:=old;refine⟨m,es,rfl,w1,?_,w3.mono kp λ_ z=>z⟩;rw[lI λ(z:n=m)=>w1 (z▸mn)];exact w2
 .have kind:∀(j:Nat) o,(fr.set i (some (s.with l')))[j]?=some o->iA o=true->∃o0,fr[j]?=some o0/\iA o0=true:=λj o w1 w2=>by
   by_cases hj:i=j
   .subst hj;exact⟨_,e,hM⟩
   .rw[List.getElem?_set_ne hj]at w1;exact⟨o,w1,w2⟩
  obtain⟨oi,k1,k2⟩:=kind j o y1 y3;obtain⟨oj,k3,k4⟩:=kind k o' y2 y4;exact f.inj j k oi oj m k1 k3 k2 k4 y5 y6
theorem NJ{m:ME}{l l':List V}{xs:List V}{n:Nat}{ds es:List D}(z:kC m l xs=some (v,l'))(e:h[n]?=some (.lst ds))(q:aq h S l ds)(p:gn h S xs es)(p':Cb m=false->aq h S xs es)(hS:∀k,S k->k≠n) :
  ∃r ds',Ev.fN m (.ref n) es h=.ok r (h.set n (.lst ds'))/\Rep h S v r/\aq h S l' ds':=by
 unfold kC at z;split at z
 .have p':=p' rfl;split at z
  .rename_i k;cases z;simp only[aq]at p';obtain⟨d,_,rfl,p1,rfl⟩:=p';refine⟨_,_,?_,rfl,q.append (.cons p1 .nil)⟩
   delta Ev.fN;dsimp only;simp only[e]
   rw[if_pos (by rw[<-q.length];exact k)]
  .cases z
 .split at z
  .rename_i k;cases z;obtain⟨d,rfl,p1⟩:=p.one;simp only[bu]at p1;obtain⟨n2,cs,rfl,e2,p1⟩:=p1;refine⟨_,_,?_,rfl,q.append p1⟩
   delta Ev.fN;dsimp only;simp only[e,e2]
   rw[if_pos (by rw[<-q.length,<-p1.length];exact k)]
  .cases z
 .simp only[gn]at p;subst p;split at z
  .rename_i x y;cases z;obtain⟨d,k1,k2⟩:=q.get y;refine⟨d,_,?_,k2,q.dropLast⟩
   delta Ev.fN;dsimp only;simp only[e]
   rw[<-q.length,k1]
  .cases z
 .cases z
theorem bD.set(f:bD M B h S fr aj){i:Nat}(e:put fr i (.val v)=some af)(q:Rep h S v d):bD M B h S af (aj.set i (some d))/\(∀j,locked af j=locked fr j)/\∀j,locked fr j=true->(aj.set i (some d))[j]?=aj[j]?:=by
 have hx:af=fr.set i (some (.val v))/\locked fr i=false:=by
  unfold put at e;unfold locked;split at e
  .cases e
  .cases e
  .rename_i k1 k2;cases e;refine⟨rfl,?_⟩;cases z:fr[i]? with
   |none=>rfl
   |some o=>
    rcases o with _|s
    .rfl
    .cases s with
     |bor l=>exact absurd z (k1 l)
     |ro l=>exact absurd z (k2 l)
     |_=>rfl
 obtain⟨rfl,hk⟩:=hx;have lk:∀j,locked (fr.set i (some (.val v))) j=locked fr j:=λj=>by
  by_cases hj:i=j
  .subst hj;rw[hk];unfold locked;by_cases hl:i<fr.length
   .rw[List.getElem?_set_self hl];rfl
   .rw[List.getElem?_eq_none (by simpa using hl)]
  .unfold locked;rw[List.getElem?_set_ne hj]
 refine⟨⟨f.wS,f.wM,f.wB,by simp[f.len],λj o p y1 y2=>?_,λj k o o' m y1 y2 y3 y4 y5 y6=>?_⟩,lk,λj hj=>?_⟩
 .by_cases hj:i=j
  .subst hj;have hl:i<fr.length:=by have:=(List.getElem?_eq_some_iff.mp y1).1;simpa using this
   rw[List.getElem?_set_self hl]at y1;rw[List.getElem?_set_self (by rw[<-f.len];exact hl)]at y2;cases y1;cases y2;exact⟨d,rfl,q⟩
  .rw[List.getElem?_set_ne hj]at y1 y2;exact f.sl j o p y1 y2
 .have hn:∀(j:Nat) o,(fr.set i (some (.val v)))[j]?=some o->iA o=true->i≠j:=λj o w1 w2 w3=>by
   subst w3;have hl:i<fr.length:=by have:=(List.getElem?_eq_some_iff.mp w1).1;simpa using this
   rw[List.getElem?_set_self hl]at w1;cases w1;cases w2
  have n1:=hn j o y1 y3;have n2:=hn k o' y2 y4;rw[List.getElem?_set_ne n1]at y1 y5;rw[List.getElem?_set_ne n2]at y2 y6;exact f.inj j k o o' m y1 y2 y3 y4 y5 y6
 .have:i≠j:=λz=>by subst z;rw[hk]at hj;cases hj
  rw[List.getElem?_set_ne this]
theorem bD.cU:∀{is:List Nat}{vs:List V}{ds:List D}{fr af:Fr}{aj:Ev.Fr},bD M B h S fr aj->cU is vs fr=some af->aq h S vs ds->∃bV,Ev.cU is ds aj=some bV/\bD M B h S af bV/\(∀j,locked af j=locked fr j)/\∀j,locked fr j=true->bV[j]?=aj[j]?
 |[],[],ds,fr,af,aj,f,e,q=>by
  simp[Pv.cU]at e;simp only[aq]at q;subst e q;exact⟨aj,rfl,f,λ_=>rfl,λ_ _=>rfl⟩
 |[],_ :: _,_,_,_,_,_,e,_=>by simp[Pv.cU]at e
 |_ :: _,[],_,_,_,_,_,e,_=>by simp[Pv.cU]at e
 |i :: is,v :: vs,ds,fr,af,aj,f,e,q=>by
  simp only[Pv.cU,Option.bind_eq_some_iff]at e;obtain⟨ao,e1,e2⟩:=e;simp only[aq]at q;obtain⟨d,es,rfl,q1,q2⟩:=q;obtain⟨f2,l2,r2⟩:=f.set e1 q1;obtain⟨bV,a,f3,l3,r3⟩:=f2.cU e2 q2;exact⟨bV,a,f3,λj=>(l3 j).trans (l2 j),λj hj=>(r3 j (by rw[l2 j];exact hj)).trans (r2 j hj)⟩
theorem bD.bC(f:bD M B h S fr aj){t:T}(e:bC t v fr=some af)(q:Rep h S v d):∃bV,Ev.bC t d aj=some bV/\bD M B h S af bV/\(∀j,locked af j=locked fr j)/\∀j,locked fr j=true->bV[j]?=aj[j]?:=by
 cases t with
 |one i=>exact⟨_,rfl,f.set e q⟩
 |many l=>
  cases v<;>simp only[Pv.bC,reduceCtorEq]at e
  simp only[Rep]at q;obtain⟨ds,rfl,q⟩:=q;exact f.cU e q
theorem bD.undef(f:bD M B h S fr aj){t:T}(e:undef t fr=true):Ev.undef t aj=true:=by
 unfold Pv.undef at e;unfold Ev.undef;rw[List.all_eq_true]at e ⊢;intro i hi;have:=e i hi;cases z:fr[i]? with
 |none=>
  have:aj[i]?=none:=by
   rw[List.getElem?_eq_none_iff]at z ⊢;rw[<-f.len];exact z
  rw[this];rfl
 |some o=>
  obtain⟨p,e1,q⟩:=f.get z;rw[z]at this;rcases o with _|s
  .simp only[kZ]at q;subst q;rw[e1];rfl
  .simp at this
theorem yW{i:Nat}{o:Option Sl}(e:(uf fr)[i]?=some o):∃o0,fr[i]?=some o0/\o=o0.map Sl.read:=by
 unfold uf at e;rw[List.getElem?_map]at e;cases z:fr[i]? with
 |none=>rw[z]at e;cases e
 |some o0=>rw[z]at e;cases e;exact⟨o0,rfl,rfl⟩
theorem bD.ro(f:bD M B h S fr aj):bD (λ_=>False) B h S (uf fr) aj:=by
 refine⟨λm y=>⟨(f.wS m y).1,id,(f.wS m y).2.2⟩,λm y=>y.elim,f.wB,by simp[uf,f.len],λi o p y1 y2=>?_,λi j o o' m y1 y2 y3 y4 y5 y6=>?_⟩
 .obtain⟨o0,z,rfl⟩:=yW y1;have q:=f.sl i o0 p z y2;rcases o0 with _|s
  .exact q
  .cases s with
   |val v=>exact q
   |own l=>obtain⟨m,ds,a,b,c,d⟩:=q;exact⟨m,ds,a,id,c,d⟩
   |bor l=>obtain⟨m,ds,a,b,c,d⟩:=q;exact⟨m,ds,a,id,c,d⟩
   |ro l=>obtain⟨m,ds,a,b,c,d⟩:=q;exact⟨m,ds,a,id,c,d⟩
 .obtain⟨o0,z,rfl⟩:=yW y1;rcases o0 with _|s
  .cases y3
  .cases s<;>cases y3
theorem iu:∀{ck:List (Nat×List D)},(∀q∈ck,bq h q.1=some q.2)->Ev.stays h ck=true
 |[],_=>rfl
 | (n,ds) :: r,q=>by
  simp only[Ev.stays,Bool.and_eq_true];refine⟨?_,iu λx hx=>q x (List.mem_cons_of_mem _ hx)⟩;rw[q (n,ds) (List.mem_cons_self ..)];exact Ev.zK _
theorem jW{n:Nat}{ds:List D}(q:bq h n=some ds)(k:h'[n]?=h[n]?):bq h' n=some ds:=by
 unfold bq at q ⊢;rw[k];exact q
theorem nW{n:Nat}{ds:List D}(q:bq h n=some ds):n<h.length:=by
 unfold bq at q;cases z:h[n]? with
 |none=>rw[z]at q;cases q
 |some o=>exact(List.getElem?_eq_some_iff.mp z).1
noncomputable def ED(h:Hh)(S:Nat->Prop):Option V->Option D->Prop
 |none,o=>o=none
 |some v,o=>∃d,o=some d/\Rep h S v d
theorem yX{f:V->Option (Option V)}{f':D->Hh->Ev.R (Option D)}{ck:List (Nat×List D)}{h0:Hh}{S0:Nat->Prop}(w0:∀m,S0 m->m<h0.length)(st:∀q∈ck,bq h0 q.1=some q.2)
  (turn:∀v o d h S,Al h0 S0 h S->f v=some o->Rep h S v d->∃o' h' S',f' d h=.ok o' h'/\ED h' S' o o'/\Al h S h' S') :
  ∀{vs:List V} {ds:List D} {rs:List V} {h:Hh} {S:Nat->Prop},Al h0 S0 h S->cW f vs=some rs->aq h S vs ds->∃rs' h' S',Ev.cW f' ck ds h=.ok rs' h'/\aq h' S' rs rs'/\Al h S h' S'
 |[],ds,rs,h,S,a,e,q=>by
  simp[cW]at e;simp only[aq]at q;subst e q;refine⟨[],h,S,?_,.nil,.refl⟩;simp only[Ev.cW];rw[if_pos (iu λx hx=>jW (st x hx) (a.keep _ (nW (st x hx))))]
 |v :: vs,ds,rs,h,S,a,e,q=>by
  simp only[cW,Option.bind_eq_some_iff]at e;obtain⟨o,e1,r,e2,e3⟩:=e;cases e3;simp only[aq]at q;obtain⟨d,es,rfl,q1,q2⟩:=q;have w:∀m,S m->m<h.length:=λm z=>by
   rcases a.new m z with z|z
   .exact Nat.lt_of_lt_of_le (w0 m z) a.len
   .exact z.2
  obtain⟨o',h1,S1,t1,t2,t3⟩:=turn v o d h S a e1 q1;obtain⟨rs',h2,S2,u1,u2,u3⟩:=yX w0 st turn (a.trans t3) e2 (q2.mono (λm z=>t3.keep m (w m z)) t3.sub);have w1:∀m,S1 m->m<h1.length:=λm z=>by
   rcases t3.new m z with z|z
   .exact Nat.lt_of_lt_of_le (w m z) t3.len
   .exact z.2
  refine⟨o'.toList++rs',h2,S2,?_,?_,t3.trans u3⟩
  .simp only[Ev.cW];rw[if_pos (iu λx hx=>jW (st x hx) (a.keep _ (nW (st x hx)))),t1,Ev.ak,u1,Ev.ak]
  .cases o with
   |none=>simp only[ED]at t2;subst t2;simpa using u2
   |some v'=>
    simp only[ED]at t2;obtain⟨d',rfl,t2⟩:=t2;exact .cons (t2.mono (λm z=>u3.keep m (w1 m z)) u3.sub) u2
end
noncomputable def jC(k:Bool)(h:Hh)(S:Nat->Prop)(v:List V)(d:List D):Prop:=if k=true then gn h S v d else aq h S v d
inductive NK(P':Ev.aO)(e:E)(k:Bool)(v:V)(M B:Nat->Prop)(h:Hh)(S:Nat->Prop)(fr:Fr)(aj:Ev.Fr)(af:Fr):Prop
 |mk (d:D) (h':Hh) (S':Nat->Prop) (c0:Ev.ev P' e aj h=.ok d h') (c1:gv k h' S' v d) (c2:Out M B (bJ e) h S fr aj h' S' af):NK P' e k v M B h S fr aj af
inductive NL(P':Ev.aO)(e:E)(b:Bool)(M B:Nat->Prop)(h:Hh)(S:Nat->Prop)(fr:Fr)(aj:Ev.Fr)(af:Fr):Prop
 |mk (h':Hh) (S':Nat->Prop) (c0:Ev.aI P' e aj h=.ok b h') (c1:Out M B (bJ e) h S fr aj h' S' af):NL P' e b M B h S fr aj af
inductive NN(P':Ev.aO)(e:Es)(k:Bool)(v:List V)(M B:Nat->Prop)(h:Hh)(S:Nat->Prop)(fr:Fr)(aj:Ev.Fr)(af:Fr):Prop
 |mk (d:List D) (h':Hh) (S':Nat->Prop) (c0:Ev.cg P' e aj h=.ok d h') (c1:jC k h' S' v d) (c2:Out M B (gu e) h S fr aj h' S' af):NN P' e k v M B h S fr aj af
inductive NO(P':Ev.aO)(e:Es)(v:List (Nat ⊕ V))(M B:Nat->Prop)(h:Hh)(S:Nat->Prop)(fr:Fr)(aj:Ev.Fr)(af:Fr):Prop
 |mk (d:List D) (h':Hh) (S':Nat->Prop) (c0:Ev.cg P' e aj h=.ok d h') (c1:vZ h' S' aj v d) (c2:Out M B (gu e) h S fr aj h' S' af):NO P' e v M B h S fr aj af
inductive NP(P':Ev.aO)(e:Eo)(v:Option Int)(M B:Nat->Prop)(h:Hh)(S:Nat->Prop)(fr:Fr)(aj:Ev.Fr)(af:Fr):Prop
 |mk (h':Hh) (S':Nat->Prop) (c0:Ev.gk P' e aj h=.ok v h') (c1:Out M B (kP e) h S fr aj h' S' af):NP P' e v M B h S fr aj af
inductive NQ(P':Ev.aO)(e:Eo)(v:Bool)(M B:Nat->Prop)(h:Hh)(S:Nat->Prop)(fr:Fr)(aj:Ev.Fr)(af:Fr):Prop
 |mk (h':Hh) (S':Nat->Prop) (c0:Ev.iM P' e aj h=.ok v h') (c1:Out M B (kP e) h S fr aj h' S' af):NQ P' e v M B h S fr aj af
inductive NR(P':Ev.aO)(e:It)(k:Bool)(v:List V)(M B:Nat->Prop)(h:Hh)(S:Nat->Prop)(fr:Fr)(aj:Ev.Fr)(af:Fr):Prop
 |mk (s:Ev.Src) (h':Hh) (S':Nat->Prop) (c0:Ev.cF P' e aj h=.ok s h') (c1:aq h' S' v s.1) (c2:∀q∈s.2,bq h' q.1=some q.2/\(k=false->¬ M q.1)) (c3:Out M B (Ey e) h S fr aj h' S' af):NR P' e k v M B h S fr aj af
section
variable(P:aO)(P':Ev.aO)
noncomputable def bw(e:E):Prop:=∀{k:Bool} {fr:Fr} {v:V} {af:Fr} {M B:Nat->Prop} {h:Hh} {S:Nat->Prop} {aj:Ev.Fr},ev P k e fr=.ok v af->bD M B h S fr aj->NK P' e k v M B h S fr aj af
noncomputable def g9(e:E):Prop:=∀{fr:Fr} {b:Bool} {af:Fr} {M B:Nat->Prop} {h:Hh} {S:Nat->Prop} {aj:Ev.Fr},aI P e fr=.ok b af->bD M B h S fr aj->NL P' e b M B h S fr aj af
noncomputable def jD(e:Es):Prop:=∀{k:Bool} {fr:Fr} {v:List V} {af:Fr} {M B:Nat->Prop} {h:Hh} {S:Nat->Prop} {aj:Ev.Fr},cg P k e fr=.ok v af->bD M B h S fr aj->NN P' e k v M B h S fr aj af
noncomputable def qI(e:Es):Prop:=∀{fr:Fr} {v:List (Nat ⊕ V)} {af:Fr} {M B:Nat->Prop} {h:Hh} {S:Nat->Prop} {aj:Ev.Fr},gm P e fr=.ok v af->bD M B h S fr aj->NO P' e v M B h S fr aj af
noncomputable def qJ(e:Eo):Prop:=∀{fr:Fr} {v:Option Int} {af:Fr} {M B:Nat->Prop} {h:Hh} {S:Nat->Prop} {aj:Ev.Fr},gk P e fr=.ok v af->bD M B h S fr aj->NP P' e v M B h S fr aj af
noncomputable def uJ(e:Eo):Prop:=∀{fr:Fr} {v:Bool} {af:Fr} {M B:Nat->Prop} {h:Hh} {S:Nat->Prop} {aj:Ev.Fr},iM P e fr=.ok v af->bD M B h S fr aj->NQ P' e v M B h S fr aj af
noncomputable def mJ(e:It):Prop:=∀{k:Bool} {fr:Fr} {v:List V} {af:Fr} {M B:Nat->Prop} {h:Hh} {S:Nat->Prop} {aj:Ev.Fr},cF P k e fr=.ok v af->bD M B h S fr aj->NR P' e k v M B h S fr aj af
end
section
variable{P:aO}{P':Ev.aO}{a b e tt:E}{es:Es}{lo hi:Eo}{it:It}
theorem NS{d:D}:bw P P' (.c d):=λz f=>by
 simp only[ev]at z;replace z:=aH z;obtain⟨z,y0⟩:=z;subst y0;exact⟨d,_,_,by simp only[Ev.ev],.of (nR z),.refl f⟩
theorem NT{i:Nat}:bw P P' (.v i):=λz f=>by
 simp only[ev]at z;replace z:=aH z;obtain⟨z,y0⟩:=z;subst y0;obtain⟨d,e1,q⟩:=Jz z f;exact⟨d,_,_,by simp only[Ev.ev,e1,Ev.dX],q,.refl f⟩
theorem jC.n{h:Hh}{S:Nat->Prop}{v:List V}{d:List D}(q:jC false h S v d):aq h S v d:=by simpa[jC]using q
theorem aq.tl{h:Hh}{S:Nat->Prop}:∀{v:List V}{d:List D},aq h S v d->gn h S v d
 |[],_,q=>q
 |_ :: _,_,⟨d,es,a,b,q⟩=>⟨d,es,a,b.top,q.tl⟩
theorem jC.t{k:Bool}{h:Hh}{S:Nat->Prop}{v:List V}{d:List D}(q:jC k h S v d):gn h S v d:=by
 unfold jC at q;split at q
 .exact q
 .exact q.tl
theorem Cg(is:jD P P' es):bw P P' (.tup es):=λz f=>by
 simp only[ev]at z;obtain⟨ds,ao,z1,z2⟩:=ah z;replace z2:=aH z2;obtain⟨z2,y0⟩:=z2;subst y0;obtain⟨ds',h',S',e1,q,o⟩:=is z1 f;unfold iP at z2;split at z2
 .rename_i hk;cases z2;refine⟨.tup ds',h',S',?_,.of ⟨ds',rfl,q.n⟩,o⟩;simp only[Ev.ev,e1,Ev.ak];rw[if_pos (by rw[<-q.n.length];exact hk)]
 .cases z2
theorem Ci(is:jD P P' es):bw P P' (.lst es):=λz f=>by
 simp only[ev]at z;obtain⟨ds,ao,z1,z2⟩:=ah z;replace z2:=aH z2;obtain⟨z2,y0⟩:=z2;subst y0;obtain⟨ds',h',S',e1,q,o⟩:=is z1 f;obtain⟨r,h2,S2,a1,a2,a3⟩:=iQ o.f.w z2 q.n;exact⟨r,h2,S2,by simp only[Ev.ev,e1,Ev.ak,a1],.of a2,o.al a3⟩
theorem oW{a:E}{aj:Ev.Fr}{h h1:Hh}{d:D}(e:Ev.ev P' a aj h=.ok d h1):∀i,a=.v i->aj[i]?.join=some d:=λi hi=>by
 subst hi;simp only[Ev.ev]at e;exact(Ev.aH e).1
theorem two(ia:bw P P' a)(ib:bw P P' b){α:Type}{X:V->V->Fr->R α}{u:α}{fr bP:Fr}{M B:Nat->Prop}{h:Hh}{S:Nat->Prop}{aj:Ev.Fr}
  (z:((ev P (kf a (bJ b)) a fr).bind λx af=>(ev P true b af).bind λy ao=>X x y ao)=.ok u bP) (f:bD M B h S fr aj) :
  ∃x y d e h2 S2 ao,(∀{β:Type} (g:D->D->Hh->Ev.R β),((Ev.ev P' a aj h).bind λx h1=>(Ev.ev P' b aj h1).bind λy h2=>g x y h2)=g d e h2)/\X x y ao=.ok u bP/\bu h2 S2 x d/\bu h2 S2 y e/\Out M B (bJ a++bJ b) h S fr aj h2 S2 ao:=by
 replace z:=ah z;obtain⟨x,af,z1,z⟩:=z;replace z:=ah z;obtain⟨y,ao,z2,z⟩:=z;obtain⟨d,h1,S1,e1,q1,o1⟩:=ia z1 f;obtain⟨e,h2,S2,e2,q2,o2⟩:=ib z2 o1.f;exact⟨x,y,d,e,h2,S2,ao,λg=>by rw[e1,Ev.ak,e2,Ev.ak],z,(q1.tr o1.f o2.tr id (oW e1)).t,q2.t,o1.trans o2⟩
theorem Cj{o:bU}(ia:bw P P' a)(ib:bw P P' b):bw P P' (.bin o a b):=λz f=>by
 simp only[ev]at z;replace z:=two ia ib z f;obtain⟨x,y,d,e,h2,S2,ao,k,z,q1,q2,ou⟩:=z;replace z:=aH z;obtain⟨z,y0⟩:=z;subst y0;obtain⟨r,h3,S3,a1,a2,a3⟩:=Nv ou.f.w z q1 q2;exact⟨r,h3,S3,by simp only[Ev.ev];rw[k];exact a1,.of a2,ou.al a3⟩
theorem Ck{o:bN}(ia:bw P P' a)(ib:bw P P' b):bw P P' (.cmp o a b):=λz f=>by
 simp only[ev]at z;replace z:=two ia ib z f;obtain⟨x,y,d,e,h2,S2,ao,k,z,q1,q2,ou⟩:=z;replace z:=aH z;obtain⟨z,y0⟩:=z;subst y0;simp only[Option.map_eq_some_iff]at z;obtain⟨b,z,rfl⟩:=z;exact⟨.bl b,h2,S2,by simp only[Ev.ev];rw[k,Nx z q1.u q2.u];rfl,.of rfl,ou⟩
theorem Hf(ia:bw P P' a)(ib:bw P P' b):bw P P' (.ix a b):=λz f=>by
 simp only[ev]at z;replace z:=two ia ib z f;obtain⟨x,y,d,e,h2,S2,ao,k,z,q1,q2,ou⟩:=z;replace z:=aH z;obtain⟨z,y0⟩:=z;subst y0;obtain⟨r,a1,a2⟩:=Ny z q1 q2;exact⟨r,h2,S2,by simp only[Ev.ev];rw[k,a1];rfl,.of a2,ou⟩
theorem JB{x y v:V}{d e:D}{h:Hh}{S:Nat->Prop}(z:qf x y=some v)(p:bu h S x d)(q:bu h S y e):∃r,Ev.vq d e h=some r/\Rep h S v r:=by
 unfold qf at z;split at z
 .simp only[bu,Rep]at p q;obtain⟨n,rfl,_,p⟩:=p;subst q;obtain⟨s,e1,rfl⟩:=Option.map_eq_some_iff.mp z;exact⟨.str s,by simp[Ev.vq,Ev.eZ,p,e1],rfl⟩
 .cases z
theorem Cm(ia:bw P P' a)(ib:bw P P' b):bw P P' (.kq a b):=λz f=>by
 simp only[ev]at z;replace z:=two ia ib z f;obtain⟨x,y,d,e,h2,S2,ao,k,z,q1,q2,ou⟩:=z;replace z:=aH z;obtain⟨z,y0⟩:=z;subst y0;obtain⟨r,a1,a2⟩:=JB z q1 q2;exact⟨r,h2,S2,by simp only[Ev.ev];rw[k,a1];rfl,.of a2,ou⟩
theorem Cn{c:E}(ia:bw P P' a)(ib:bw P P' b)(ic:bw P P' c):bw P P' (.kr a b c):=λz f=>by
 simp only[ev]at z;replace z:=ah z;obtain⟨x,af,z1,z⟩:=z;replace z:=ah z;obtain⟨y,ao,z2,z⟩:=z;replace z:=ah z;obtain⟨u,bI,z3,z⟩:=z;replace z:=aH z;obtain⟨z,y0⟩:=z;subst y0;obtain⟨d,h1,S1,e1,q1,o1⟩:=ia z1 f;obtain⟨e,h2,S2,e2,q2,o2⟩:=ib z2 o1.f;obtain⟨g,h3,S3,e3,q3,o3⟩:=ic z3 o2.f;have p0:=q1.t;have p1:=(q1.tr o1.f (o2.trans o3).tr id (oW e1)).t;have p2:=(q2.tr o2.f o3.tr id (oW e2)).t;have p3:Rep h3 S3 u g:=q3;unfold nQ at z;split at z
 .cases z;simp only[bu,Rep]at p0 p1 p2;obtain⟨n,rfl,_,p0⟩:=p0;obtain⟨n',en,_,p1⟩:=p1;cases en;subst p2;rename_i kvs k _ _;cases hv:Ev.cJ kvs k with
  |none=>exact⟨g,h3,S3,by simp only[Ev.ev,e1,Ev.ak,e2,e3];simp[Ev.vt,Ev.eZ,p0,p1,hv,Ev.dX],.of p3,o1.trans (o2.trans o3)⟩
  |some s=>exact⟨.str s,h3,S3,by simp only[Ev.ev,e1,Ev.ak,e2,e3];simp[Ev.vt,Ev.eZ,p0,p1,hv,Ev.dX],.of rfl,o1.trans (o2.trans o3)⟩
 .cases z
theorem Q3(ia:bw P P' a):bw P P' (.nt a):=λz f=>by
 simp only[ev]at z;replace z:=ah z;obtain⟨x,af,z1,z⟩:=z;obtain⟨d,h1,S1,e1,q1,o1⟩:=ia z1 f;cases x<;>simp only[reduceCtorEq]at z
 cases z;have q:=q1.t;simp only[bu,Rep]at q;subst q;exact⟨_,h1,S1,by simp only[Ev.ev,e1,Ev.ak],.of rfl,o1⟩
theorem Co(ia:bw P P' a):bw P P' (.neg a):=λz f=>by
 simp only[ev]at z;replace z:=ah z;obtain⟨x,af,z1,z⟩:=z;obtain⟨d,h1,S1,e1,q1,o1⟩:=ia z1 f;cases x<;>simp only[reduceCtorEq]at z
 cases z;have q:=q1.t;simp only[bu,Rep]at q;subst q;exact⟨_,h1,S1,by simp only[Ev.ev,e1,Ev.ak],.of rfl,o1⟩
theorem Q4(ia:bw P P' a)(ib:bw P P' b):bw P P' (.an a b):=λz f=>by
 simp only[ev]at z;replace z:=ah z;obtain⟨x,af,z1,z⟩:=z;obtain⟨d,h1,S1,e1,q1,o1⟩:=ia z1 f;cases x<;>try (cases z;done)
 rename_i k;have q:=q1.t;simp only[bu,Rep]at q;subst q;cases k with
 |true=>
  try simp only at z
  obtain⟨d,h2,S2,e2,q2,o2⟩:=ib z o1.f;exact⟨d,h2,S2,by simp only[Ev.ev,e1,Ev.ak,e2],q2,o1.trans o2⟩
 |false=>
  try simp only at z
  cases z;exact⟨_,h1,S1,by simp only[Ev.ev,e1,Ev.ak],.of rfl,o1.weak (by simp only[bJ];intro i hi;simp[hi])⟩
theorem NU(ia:bw P P' a)(ib:bw P P' b):bw P P' (.orr a b):=λz f=>by
 simp only[ev]at z;replace z:=ah z;obtain⟨x,af,z1,z⟩:=z;obtain⟨d,h1,S1,e1,q1,o1⟩:=ia z1 f;cases x<;>try (cases z;done)
 rename_i k;have q:=q1.t;simp only[bu,Rep]at q;subst q;cases k with
 |false=>
  try simp only at z
  obtain⟨d,h2,S2,e2,q2,o2⟩:=ib z o1.f;exact⟨d,h2,S2,by simp only[Ev.ev,e1,Ev.ak,e2],q2,o1.trans o2⟩
 |true=>
  try simp only at z
  cases z;exact⟨_,h1,S1,by simp only[Ev.ev,e1,Ev.ak],.of rfl,o1.weak (by simp only[bJ];intro i hi;simp[hi])⟩
theorem Cp(it:g9 P P' tt)(ia:bw P P' a)(ib:bw P P' b):bw P P' (.lg tt a b):=λz f=>by
 simp only[ev]at z;replace z:=ah z;obtain⟨k,af,z1,z⟩:=z;obtain⟨h1,S1,e1,o1⟩:=it z1 f;cases k with
 |true=>
  simp only[if_true]at z;obtain⟨d,h2,S2,e2,q2,o2⟩:=ia z o1.f;exact⟨d,h2,S2,by simp only[Ev.ev,e1,Ev.ak,if_true,e2],q2,(o1.trans o2).weak (by simp only[bJ];intro i hi;simp at hi ⊢;rcases hi with hi|hi<;>simp[hi])⟩
 |false=>
  simp only[Bool.false_eq_true,if_false]at z;obtain⟨d,h2,S2,e2,q2,o2⟩:=ib z o1.f;exact⟨d,h2,S2,by simp only[Ev.ev,e1,Ev.ak];rw[if_neg (by decide)];exact e2,q2,(o1.trans o2).weak (by simp only[bJ];intro i hi;simp at hi ⊢;rcases hi with hi|hi<;>simp[hi])⟩
theorem Hg(ia:bw P P' a)(il:qJ P P' lo)(ih:qJ P P' hi):bw P P' (.sl a lo hi):=λz f=>by
 simp only[ev]at z;replace z:=ah z;obtain⟨x,af,z1,z⟩:=z;replace z:=ah z;obtain⟨l,ao,z2,z⟩:=z;replace z:=ah z;obtain⟨u,bI,z3,z⟩:=z;replace z:=aH z;obtain⟨z,y0⟩:=z;subst y0;obtain⟨d,h1,S1,e1,q1,o1⟩:=ia z1 f;obtain⟨h2,S2,e2,o2⟩:=il z2 o1.f;obtain⟨h3,S3,e3,o3⟩:=ih z3 o2.f;have q:=(q1.tr o1.f (o2.trans o3).tr id (oW e1)).t;obtain⟨r,h4,S4,a1,a2,a3⟩:=Nz o3.f.w z q;exact⟨r,h4,S4,by simp only[Ev.ev,e1,Ev.ak,e2,e3,a1],.of a2,(o1.trans (o2.trans o3)).al a3⟩
theorem nX:∀{es:Es}{fr af:Fr}{as:List (Nat ⊕ V)},gm P es fr=.ok as af->∀i∈bW as,i∈jQ es
 |.nil,_,_,_,z=>by simp only[gm]at z;cases z;simp[bW]
 |.cons e es,fr,af,as,z=>by
  simp only[gm]at z;cases y:lG fr e with
  |some i=>
   rw[y]at z;simp only at z;replace z:=ah z;obtain⟨xs,bI,z2,z⟩:=z;cases z;have hy:e=.v i:=by
    cases e<;>simp only[lG,reduceCtorEq]at y
    split at y
    .cases y;rfl
    .cases y
   subst hy;intro j hj;simp only[bW,List.mem_cons]at hj;simp only[jQ,List.mem_cons];exact hj.imp id λhj=>nX z2 j hj
  |none=>
   rw[y]at z;simp only at z;replace z:=ah z;obtain⟨x,ao,z1,z⟩:=z;replace z:=ah z;obtain⟨xs,bI,z2,z⟩:=z;cases z;intro j hj;simp only[bW]at hj;have:=nX z2 j hj;cases e<;>simp only[jQ]<;>first|exact this|exact List.mem_cons_of_mem _ this
theorem Hi(HP:qF P P'){g:Nat}(is:qI P P' es):bw P P' (.cl g es):=λz f=>by
 simp only[ev]at z;replace z:=ah z;obtain⟨as,af,z1,z⟩:=z;obtain⟨ds,h1,S1,e1,q1,o1⟩:=is z1 f;obtain⟨d,h2,S2,e2,q2,o2⟩:=EC HP z o1.f q1;exact⟨d,h2,S2,by simp only[Ev.ev,e1,Ev.ak,e2],.of q2,(o1.trans o2).weak (by
  simp only[bJ];intro i hi;rcases List.mem_append.mp hi with hi|hi
  .exact List.mem_append.mpr (.inl hi)
  .exact List.mem_append.mpr (.inr (nX z1 i hi)))⟩
theorem Hj{g:BI}(is:jD P P' es):bw P P' (.bi g es):=λz f=>by
 simp only[ev]at z;replace z:=ah z;obtain⟨as,af,z1,z⟩:=z;replace z:=aH z;obtain⟨z,y0⟩:=z;subst y0;obtain⟨ds,h1,S1,e1,q1,o1⟩:=is z1 f;obtain⟨r,h4,S4,a1,a2,a3⟩:=NC o1.f.w z q1.t;exact⟨r,h4,S4,by simp only[Ev.ev,e1,Ev.ak,a1],.of a2,o1.al a3⟩
theorem yY{kvs:List (D×D)}(ia:bw P P' a):bw P P' (.nH kvs a):=λz f=>by
 simp only[ev]at z;replace z:=ah z;obtain⟨x,af,z1,z⟩:=z;replace z:=aH z;obtain⟨z,y0⟩:=z;subst y0;obtain⟨d,h1,S1,e1,q1,o1⟩:=ia z1 f;obtain⟨r,a1,a2⟩:=Ez (S:=S1) q1.t.u z;exact⟨r,h1,S1,by simp only[Ev.ev,e1,Ev.ak,a1,Ev.dX],.of a2,o1⟩
theorem Cq(ia:bw P P' a):bw P P' (.m9 a):=λz f=>by
 simp only[ev]at z;replace z:=ah z;obtain⟨x,af,z1,z⟩:=z;replace z:=aH z;obtain⟨z,y0⟩:=z;subst y0;obtain⟨d,h1,S1,e1,q1,o1⟩:=ia z1 f;obtain⟨r,a1,a2⟩:=Jw z q1.t;exact⟨r,h1,S1,by simp only[Ev.ev,e1,Ev.ak,a1],.of a2,o1⟩
theorem Cr(ia:bw P P' a):bw P P' (.iY a):=λz f=>by
 simp only[ev]at z;replace z:=ah z;obtain⟨x,af,z1,z⟩:=z;replace z:=aH z;obtain⟨z,y0⟩:=z;subst y0;obtain⟨d,h1,S1,e1,q1,o1⟩:=ia z1 f;obtain⟨r,a1,a2⟩:=NB z q1.t;exact⟨r,h1,S1,by simp only[Ev.ev,e1,Ev.ak,a1],.of a2,o1⟩
theorem Hl{m:ME}{o:E}(io:bw P P' o)(is:jD P P' es):bw P P' (.me m o es):=λ{k fr v af M B h S aj} z f=>by
 simp only[ev]at z;by_cases hm:jg m=true
 .rw[if_pos hm]at z;cases y:lG fr o with
  |none=>rw[y]at z;cases z
  |some i=>
  rw[y]at z;try simp only at z
  replace z:=ah z;obtain⟨as,ao,z1,z⟩:=z;have hy:o=.v i/\∃s,lent fr i=some s:=by
   cases o<;>simp only[lG,reduceCtorEq]at y
   rename_i j;split at y
   .rename_i hs;cases y;exact⟨rfl,Option.isSome_iff_exists.mp hs⟩
   .cases y
  obtain⟨rfl,s,hs⟩:=hy;obtain⟨n,cs,_,_,_,w2,w3,_,_⟩:=jM hs f;obtain⟨ds,h1,S1,e1,q1,o1⟩:=is z1 f;have hr:Ev.yp m (.ref n) h=true:=by cases m<;>simp[jg]at hm<;>simp[Ev.yp,ir w3]
  have hap:Cb m=false->aq h1 S1 as ds:=λhh=>by rw[hh]at q1;exact q1.n
  have fin:∀s l l',ao[i]?=some (some s)->iA (some s)=true->(∃m' cs',aj[i]?=some (some (.ref m'))/\h1[m']?=some (.lst cs')/\aq h1 S1 l cs')->kC m l as=some (v,l')->af=ao.set i (some (s.with l'))->
    NK P' (.me m (.v i) es) k v M B h S fr aj af:=by
   intro s l l' k1 k2 ⟨m',cs',k3,k4,k5⟩ k6 k7;rw[w2]at k3;cases k3;have mn:=o1.f.mM k1 k2 w2;obtain⟨r,ds',a1,a2,a3⟩:=NJ k6 k4 k5 q1.t hap λk z y=>(o1.f.wS k z).2.1 (y▸mn);have fw:=o1.f.write (l':=l') k1 k2 w2 a3;subst k7;refine⟨r,_,S1,?_,.of (a2.mono (λm z=>lI λy=>(o1.f.wS m z).2.1 (y▸mn)) λ_ z=>z),fw,?_,λj=>?_⟩
   .simp only[Ev.ev,w2,Option.join,Ev.dX,Ev.ak,hr,if_true,e1];simp only[Option.bind,id,Ev.dX,Ev.ak,hr,if_true,e1];exact a1
   .refine⟨by simpa using o1.tr.len,λm y1 y2=>?_,o1.tr.sub,λm y=>by simpa using o1.tr.new m y⟩;have y3:¬ Xs M aj (gu es) m:=λz=>y2 (Xs.mono (by simp only[bJ];intro i hi;simp[hi]) z);have y4:m≠n:=λz=>y2 ⟨z▸mn,i,by simp[bJ,TF,hm],by rw[z];exact w2⟩;rw[lI (λ(z:n=m)=>y4 z.symm)];exact o1.tr.keep m y1 y3
   .rw[<-o1.lk j];unfold locked;by_cases hj:i=j
    .subst hj;rw[List.getElem?_set_self (List.getElem?_eq_some_iff.mp k1).1,k1];exact yV
    .rw[List.getElem?_set_ne hj]
  split at z
  .rename_i l k1;have old:=o1.f.get k1;obtain⟨p,k2,m',cs',rfl,_,k4,k5⟩:=old;split at z
   .rename_i v' l' k6;cases z;exact fin _ l l' k1 rfl ⟨m',cs',k2,k4,k5⟩ k6 rfl
   .cases z
  .rename_i l k1;have old:=o1.f.get k1;obtain⟨p,k2,m',cs',rfl,_,k4,k5⟩:=old;split at z
   .rename_i v' l' k6;cases z;exact fin _ l l' k1 rfl ⟨m',cs',k2,k4,k5⟩ k6 rfl
   .cases z
  .cases z
 .rw[if_neg hm]at z;replace z:=ah z;obtain⟨x,ao,z1,z⟩:=z;replace z:=ah z;obtain⟨as,bI,z2,z⟩:=z;replace z:=aH z;obtain⟨z,y0⟩:=z;subst y0;obtain⟨d,h1,S1,e1,q1,o1⟩:=io z1 f;obtain⟨ds,h2,S2,e2,q2,o2⟩:=is z2 o1.f;have hm':jg m=false:=by simpa using hm
  have Ho:=(q1.tr o1.f o2.tr id (oW e1)).t;obtain⟨a1,r,a2,a3⟩:=ND z hm' Ho q2.t;have hr:Ev.yp m d h1=true:=by
   unfold fN at z;split at z
   .have:=q1.t;simp only[bu,Rep]at this;subst this;rfl
   .cases z
  exact⟨r,h2,S2,by simp only[Ev.ev,e1,Ev.ak,hr,if_true,e2,a2],.of a3,(o1.trans o2).weak (by simp only[bJ];intro i hi;simp at hi ⊢;rcases hi with hi|hi<;>simp[hi])⟩
theorem v9{elt:E}{t:T}{cond:Eo}(ii:mJ P P' it)(ic:uJ P P' cond)(ie:bw P P' elt):bw P P' (.comp elt t it cond):=λz f=>by
 simp only[ev]at z;replace z:=ah z;obtain⟨vs,ao,z1,z⟩:=z;split at z
 case isFalse=>cases z
 rename_i hu;replace z:=aH z;obtain⟨z,y0⟩:=z;subst y0;simp only[Option.bind_eq_some_iff]at z;obtain⟨rs,z2,z3⟩:=z;obtain⟨s,h1,S1,e1,q1,q2,o1⟩:=ii z1 f;have X0:=o1.f.ro;obtain⟨rs',h2,S2,c1,c2,c3⟩:=yX (f':=λd h2=>match Ev.bC t d _ with
    |none=>.bad
    |some ao=>(Ev.iM P' cond ao h2).bind λk h3=>if k then (Ev.ev P' elt ao h3).bind λx h4=>.ok (some x) h4 else .ok none h3) (ck:=s.2) o1.f.w (λq hq=>(q2 q hq).1) (λv o d h S al y q=>by
  split at y
  .cases y
  .rename_i bI y1;obtain⟨jx,b1,b2,_,_⟩:=(X0.al al).bC y1 q;rw[b1];split at y
   .rename_i c gX y2;obtain⟨h3,S3,c1,oc⟩:=ic y2 b2;have NV:Al h S h3 S3:=oc.tr.al λm z=>z.1;split at y
    .rename_i hc;subst hc;split at y
     .rename_i x nu y3;cases y;obtain⟨d',h4,S4,d1,d2,od⟩:=ie y3 (b2.al NV);refine⟨some d',h4,S4,?_,⟨d',rfl,d2.n⟩,NV.trans (od.tr.al λm z=>z.1)⟩;simp only[c1,Ev.ak,if_true,d1]
     .cases y
    .rename_i hc;cases y;refine⟨none,h3,S3,?_,rfl,NV⟩;simp only[c1,Ev.ak];rw[if_neg hc]
   .cases y) Al.refl z2 q1
 obtain⟨r,h4,S4,a1,a2,a3⟩:=iQ (o1.f.al c3).w z3 c2;refine⟨r,h4,S4,?_,.of a2,(o1.al c3).al a3⟩;simp only[Ev.ev,e1,Ev.ak];rw[if_pos (o1.f.undef hu)];refine Eq.trans (congrArg (λq:Ev.R (List D)=>q.bind λds h2=>Ev.alloc ds h2) c1) ?_;simp only[Ev.ak,a1]
theorem Cs(ii:mJ P P' it):bw P P' (.eF it):=λz f=>by
 simp only[ev]at z;replace z:=ah z;obtain⟨vs,ao,z1,z⟩:=z;replace z:=aH z;obtain⟨z,y0⟩:=z;subst y0;obtain⟨s,h1,S1,e1,q1,q2,o1⟩:=ii z1 f;obtain⟨r,h4,S4,a1,a2,a3⟩:=iQ o1.f.w z q1;exact⟨r,h4,S4,by simp only[Ev.ev,e1,Ev.ak,a1],.of a2,o1.al a3⟩
theorem NW:jD P P' .nil:=λ{k fr v af M B h S aj} z f=>by
 simp only[cg]at z;cases z;refine⟨[],_,_,by simp only[Ev.cg],?_,.refl f⟩;unfold jC;split<;>rfl
theorem JD(ie:bw P P' e)(is:jD P P' es):jD P P' (.cons e es):=λ{k fr v af M B h S aj} z f=>by
 simp only[cg]at z;replace z:=ah z;obtain⟨x,ao,z1,z⟩:=z;replace z:=ah z;obtain⟨xs,bI,z2,z⟩:=z;cases z;obtain⟨d,h1,S1,e1,q1,o1⟩:=ie z1 f;obtain⟨ds,h2,S2,e2,q2,o2⟩:=is z2 o1.f;have Ho:=q1.tr (a:=e) o1.f o2.tr (by intro z;simp at z;exact z.2) (oW e1);refine⟨d :: ds,h2,S2,by simp only[Ev.cg,e1,Ev.ak,e2],?_,o1.trans o2⟩;unfold jC at q2 ⊢;cases k with
 |true=>simp only[if_true]at q2 ⊢;exact⟨d,ds,rfl,Ho.t,q2⟩
 |false=>
  simp only[Bool.false_eq_true,if_false]at q2 ⊢;exact .cons (by simpa[gv]using Ho) q2
theorem JF:qI P P' .nil:=λz f=>by
 simp only[gm]at z;cases z;exact⟨[],_,_,by simp only[Ev.cg],rfl,.refl f⟩
theorem EE(ie:bw P P' e)(is:qI P P' es):qI P P' (.cons e es):=λ{fr v af M B h S aj} z f=>by
 simp only[gm]at z;cases y:lG fr e with
 |some i=>
  rw[y]at z;try simp only at z
  replace z:=ah z;obtain⟨xs,bI,z2,z⟩:=z;cases z;have hy:e=.v i/\∃s,lent fr i=some s:=by
   cases e<;>simp only[lG,reduceCtorEq]at y
   rename_i j;split at y
   .rename_i hs;cases y;exact⟨rfl,Option.isSome_iff_exists.mp hs⟩
   .cases y
  obtain⟨rfl,s,hs⟩:=hy;obtain⟨n,cs,_,_,_,w2,w3,_,_⟩:=jM hs f;obtain⟨ds,h2,S2,e2,q2,o2⟩:=is z2 f;refine⟨.ref n :: ds,h2,S2,?_,⟨_,_,rfl,w2,q2⟩,o2.weak (by simp only[gu,bJ];intro i hi;simpa using hi)⟩;simp only[Ev.cg,Ev.ev,w2,Option.join,Option.bind,id,Ev.dX,Ev.ak,e2]
 |none=>
  rw[y]at z;try simp only at z
  replace z:=ah z;obtain⟨x,ao,z1,z⟩:=z;replace z:=ah z;obtain⟨xs,bI,z2,z⟩:=z;cases z;obtain⟨d,h1,S1,e1,q1,o1⟩:=ie z1 f;obtain⟨ds,h2,S2,e2,q2,o2⟩:=is z2 o1.f;exact⟨d :: ds,h2,S2,by simp only[Ev.cg,e1,Ev.ak,e2],⟨_,_,rfl,q1.n.tr o1.f o2.tr,q2⟩,o1.trans o2⟩
theorem Q5:qJ P P' .no:=λz f=>by
 simp only[gk]at z;cases z;exact⟨_,_,by simp only[Ev.gk],.refl f⟩
theorem NX(ie:bw P P' e):qJ P P' (.yes e):=λz f=>by
 simp only[gk]at z;replace z:=ah z;obtain⟨x,ao,z1,z⟩:=z;replace z:=aH z;obtain⟨z,y0⟩:=z;subst y0;obtain⟨d,h1,S1,e1,q1,o1⟩:=ie z1 f;cases x<;>simp[intOf]at z
 subst z;have q:=q1.t;simp only[bu,Rep]at q;subst q;exact⟨h1,S1,by simp only[Ev.gk,e1,Ev.ak];rfl,o1⟩
theorem NY:uJ P P' .no:=λz f=>by
 simp only[iM]at z;cases z;exact⟨_,_,by simp only[Ev.iM],.refl f⟩
theorem JH(ie:g9 P P' e):uJ P P' (.yes e):=λz f=>by
 simp only[iM]at z;obtain⟨h1,S1,e1,o1⟩:=ie z f;exact⟨h1,S1,by simp only[Ev.iM,e1],o1⟩
theorem V7(ia:g9 P P' a)(ib:g9 P P' b):g9 P P' (.an a b):=λz f=>by
 simp only[aI]at z;replace z:=ah z;obtain⟨k,af,z1,z⟩:=z;obtain⟨h1,S1,e1,o1⟩:=ia z1 f;cases k with
 |true=>
  simp only[if_true]at z;obtain⟨h2,S2,e2,o2⟩:=ib z o1.f;exact⟨h2,S2,by simp only[Ev.aI,e1,Ev.ak,if_true,e2],o1.trans o2⟩
 |false=>
  simp only[Bool.false_eq_true,if_false]at z;cases z;exact⟨h1,S1,by simp only[Ev.aI,e1,Ev.ak];rfl,o1.weak (by simp only[bJ];intro i hi;simp[hi])⟩
theorem Q6(ia:g9 P P' a)(ib:g9 P P' b):g9 P P' (.orr a b):=λz f=>by
 simp only[aI]at z;replace z:=ah z;obtain⟨k,af,z1,z⟩:=z;obtain⟨h1,S1,e1,o1⟩:=ia z1 f;cases k with
 |false=>
  simp only[Bool.false_eq_true,if_false]at z;obtain⟨h2,S2,e2,o2⟩:=ib z o1.f;exact⟨h2,S2,by simp only[Ev.aI,e1,Ev.ak];rw[if_neg (by decide)];exact e2,o1.trans o2⟩
 |true=>
  simp only[if_true]at z;cases z;exact⟨h1,S1,by simp only[Ev.aI,e1,Ev.ak];rfl,o1.weak (by simp only[bJ];intro i hi;simp[hi])⟩
theorem V8(ia:g9 P P' a):g9 P P' (.nt a):=λz f=>by
 simp only[aI]at z;replace z:=ah z;obtain⟨k,af,z1,z⟩:=z;obtain⟨h1,S1,e1,o1⟩:=ia z1 f;cases z;exact⟨h1,S1,by simp only[Ev.aI,e1,Ev.ak],o1⟩
theorem dN(ie:bw P P' e)(h1:∀fr,aI P e fr=(ev P true e fr).bind λx af=>.ok (truthy x) af)(h2:∀fr h,Ev.aI P' e fr h=(Ev.ev P' e fr h).bind λx h1=>Ev.R.of (Ev.truthy h1 x) h1):g9 P P' e:=λz f=>by
 rw[h1]at z;replace z:=ah z;obtain⟨x,af,z1,z⟩:=z;cases z;obtain⟨d,h1,S1,e1,q1,o1⟩:=ie z1 f;exact⟨h1,S1,by rw[h2,e1,Ev.ak,Cc q1.t];rfl,o1⟩
theorem Ct(ie:bw P P' e){k:Bool}{fr:Fr}{v:V}{af:Fr}{M B:Nat->Prop}{h:Hh}{S:Nat->Prop}{aj:Ev.Fr}(z:src k fr e (ev P k e fr)=.ok v af)(f:bD M B h S fr aj) :
  ∃d h' S',Ev.ev P' e aj h=.ok d h'/\bu h' S' v d/\(k=false->∀n,d=.ref n->¬ M n)/\Out M B (bJ e) h S fr aj h' S' af:=by
 have gen:ev P k e fr=.ok v af->∃d h' S',Ev.ev P' e aj h=.ok d h'/\bu h' S' v d/\(k=false->∀n,d=.ref n->¬ M n)/\Out M B (bJ e) h S fr aj h' S' af:=λz=>by
  obtain⟨d,h1,S1,e1,q1,o1⟩:=ie z f;refine⟨d,h1,S1,e1,q1.t,λhk n hd=>?_,o1⟩;subst hk;have q:=q1.n;cases v<;>simp only[Rep]at q
  .cases q.symm.trans hd
  .cases q.symm.trans hd
  .cases q.symm.trans hd
  .cases q.symm.trans hd
  .obtain⟨_,q,_⟩:=q;cases q.symm.trans hd
  .obtain⟨m,ds,q,sm,_⟩:=q;cases q.symm.trans hd;exact(o1.f.wS _ sm).2.1
  .obtain⟨m,ds,q,sm,_⟩:=q;cases q.symm.trans hd;exact(o1.f.wS _ sm).2.1
  .obtain⟨m,q,sm,_⟩:=q;cases q.symm.trans hd;exact(o1.f.wS _ sm).2.1
 cases e
 case v i=>
  simp only[src]at z;replace z:=aH z;obtain⟨z,y0⟩:=z;subst y0;unfold vR at z;split at z
  .rename_i l y;cases z;obtain⟨p,e1,m,ds,rfl,y1,y2,y3⟩:=f.get y;exact⟨.ref m,h,S,by simp only[Ev.ev,e1,Option.join,Option.bind,id,Ev.dX],⟨m,ds,rfl,y2,y3⟩,λ_ n hn=>by cases hn;exact y1,.refl f⟩
  .exact gen (by simp only[ev,z,dX])
 all_goals exact gen z
theorem NZ(ie:bw P P' e):mJ P P' (.seq e):=λz f=>by
 simp only[cF]at z;replace z:=ah z;obtain⟨x,af,z1,z⟩:=z;replace z:=aH z;obtain⟨z,y0⟩:=z;subst y0;obtain⟨d,h1,S1,e1,q1,q2,o1⟩:=Ct ie z1 f;obtain⟨s,a1,a2,a3⟩:=EA z q1;exact⟨s,h1,S1,by simp only[Ev.cF,e1,Ev.ak,a1,Ev.dX],a2,λq hq=>⟨(a3 q hq).2,λhk=>q2 hk _ (a3 q hq).1⟩,o1⟩
theorem JJ(is:jD P P' es):mJ P P' (.fE es):=λz f=>by
 simp only[cF]at z;replace z:=ah z;obtain⟨x,af,z1,z⟩:=z;replace z:=aH z;obtain⟨z,y0⟩:=z;subst y0;obtain⟨d,h1,S1,e1,q1,o1⟩:=is z1 f;obtain⟨s,a1,a2⟩:=NF z q1.t;exact⟨(s,[]),h1,S1,by simp only[Ev.cF,e1,Ev.ak,a1,Ev.dX],a2,λq hq=>by simp at hq,o1⟩
theorem EF(ie:bw P P' e):mJ P P' (.enum e):=λz f=>by
 simp only[cF]at z;replace z:=ah z;obtain⟨x,af,z1,z⟩:=z;replace z:=aH z;obtain⟨z,y0⟩:=z;subst y0;obtain⟨d,h1,S1,e1,q1,q2,o1⟩:=Ct ie z1 f;simp only[Option.map_eq_some_iff]at z;obtain⟨l,z,rfl⟩:=z;obtain⟨s,a1,a2,a3⟩:=Jx z q1;exact⟨(Ev.g8 0 s.1,s.2),h1,S1,by simp only[Ev.cF,e1,Ev.ak,a1,Option.map,Ev.dX],yT 0 a2,λq hq=>⟨(a3 q hq).2,λhk=>q2 hk _ (a3 q hq).1⟩,o1⟩
theorem JK(ie:bw P P' e):mJ P P' (.rev e):=λz f=>by
 simp only[cF]at z;replace z:=ah z;obtain⟨x,af,z1,z⟩:=z;replace z:=aH z;obtain⟨z,y0⟩:=z;subst y0;obtain⟨d,h1,S1,e1,q1,o1⟩:=ie z1 f;simp only[Option.map_eq_some_iff]at z;obtain⟨l,z,rfl⟩:=z;cases x<;>simp only[Ah,reduceCtorEq]at z
 cases z;have k1:=q1.t;simp only[bu,Rep]at k1;obtain⟨ds,y1,k2⟩:=k1;subst y1;exact⟨(ds.reverse,[]),h1,S1,by simp only[Ev.cF,e1,Ev.ak,Ev.DZ,Option.map,Ev.dX],k2.reverse,λq hq=>by simp at hq,o1⟩
end
section
variable{P:aO}{P':Ev.aO}(HP:qF P P')
include HP
mutual
theorem aX:∀e:E,bw P P' e
 |.c _=>NS
 |.v _=>NT
 |.tup es=>Cg (gw es)
 |.lst es=>Ci (gw es)
 |.bin _ a b=>Cj (aX a) (aX b)
 |.cmp _ a b=>Ck (aX a) (aX b)
 |.nt a=>Q3 (aX a)
 |.neg a=>Co (aX a)
 |.an a b=>Q4 (aX a) (aX b)
 |.orr a b=>NU (aX a) (aX b)
 |.lg t a b=>Cp (gY t) (aX a) (aX b)
 |.ix a b=>Hf (aX a) (aX b)
 |.sl a lo hi=>Hg (aX a) (qK lo) (qK hi)
 |.m9 a=>Cq (aX a)
 |.ig=>λz _=>by simp only[ev]at z;cases z
 |.kq a b=>Cm (aX a) (aX b)
 |.kr a b c=>Cn (aX a) (aX b) (aX c)
 |.cl _ es=>Hi HP (wc es)
 |.bi _ es=>Hj (gw es)
 |.me _ o es=>Hl (aX o) (gw es)
 |.comp elt _ it cond=>v9 (jX it) (Cu cond) (aX elt)
 |.eF it=>Cs (jX it)
 |.nH _ a=>yY (aX a)
 |.iY a=>Cr (aX a)
theorem gY:∀e:E,g9 P P' e
 |.an a b=>V7 (gY a) (gY b)
 |.orr a b=>Q6 (gY a) (gY b)
 |.nt a=>V8 (gY a)
 |.c x=>dN NS (λ_=>by simp only[aI]) (λ_ _=>by simp only[Ev.aI])
 |.v x=>dN NT (λ_=>by simp only[aI]) (λ_ _=>by simp only[Ev.aI])
 |.tup es=>dN (Cg (gw es)) (λ_=>by simp only[aI]) (λ_ _=>by simp only[Ev.aI])
 |.lst es=>dN (Ci (gw es)) (λ_=>by simp only[aI]) (λ_ _=>by simp only[Ev.aI])
 |.bin _ a b=>dN (Cj (aX a) (aX b)) (λ_=>by simp only[aI]) (λ_ _=>by simp only[Ev.aI])
 |.cmp _ a b=>dN (Ck (aX a) (aX b)) (λ_=>by simp only[aI]) (λ_ _=>by simp only[Ev.aI])
 |.neg a=>dN (Co (aX a)) (λ_=>by simp only[aI]) (λ_ _=>by simp only[Ev.aI])
 |.lg t a b=>dN (Cp (gY t) (aX a) (aX b)) (λ_=>by simp only[aI]) (λ_ _=>by simp only[Ev.aI])
 |.ix a b=>dN (Hf (aX a) (aX b)) (λ_=>by simp only[aI]) (λ_ _=>by simp only[Ev.aI])
 |.sl a lo hi=>dN (Hg (aX a) (qK lo) (qK hi)) (λ_=>by simp only[aI]) (λ_ _=>by simp only[Ev.aI])
 |.m9 a=>dN (Cq (aX a)) (λ_=>by simp only[aI]) (λ_ _=>by simp only[Ev.aI])
 |.ig=>dN (λz _=>by simp only[ev]at z;cases z) (λ_=>by simp only[aI]) (λ_ _=>by simp only[Ev.aI])
 |.kq a b=>dN (Cm (aX a) (aX b)) (λ_=>by simp only[aI]) (λ_ _=>by simp only[Ev.aI])
 |.kr a b c=>dN (Cn (aX a) (aX b) (aX c)) (λ_=>by simp only[aI]) (λ_ _=>by simp only[Ev.aI])
 |.cl _ es=>dN (Hi HP (wc es)) (λ_=>by simp only[aI]) (λ_ _=>by simp only[Ev.aI])
 |.bi _ es=>dN (Hj (gw es)) (λ_=>by simp only[aI]) (λ_ _=>by simp only[Ev.aI])
 |.me _ o es=>dN (Hl (aX o) (gw es)) (λ_=>by simp only[aI]) (λ_ _=>by simp only[Ev.aI])
 |.comp elt _ it cond=>dN (v9 (jX it) (Cu cond) (aX elt)) (λ_=>by simp only[aI]) (λ_ _=>by simp only[Ev.aI])
 |.eF it=>dN (Cs (jX it)) (λ_=>by simp only[aI]) (λ_ _=>by simp only[Ev.aI])
 |.nH _ a=>dN (yY (aX a)) (λ_=>by simp only[aI]) (λ_ _=>by simp only[Ev.aI])
 |.iY a=>dN (Cr (aX a)) (λ_=>by simp only[aI]) (λ_ _=>by simp only[Ev.aI])
theorem gw:∀e:Es,jD P P' e
 |.nil=>NW
 |.cons e es=>JD (aX e) (gw es)
theorem wc:∀e:Es,qI P P' e
 |.nil=>JF
 |.cons e es=>EE (aX e) (wc es)
theorem qK:∀e:Eo,qJ P P' e
 |.no=>Q5
 |.yes e=>NX (aX e)
theorem Cu:∀e:Eo,uJ P P' e
 |.no=>NY
 |.yes e=>JH (gY e)
theorem jX:∀e:It,mJ P P' e
 |.seq e=>NZ (aX e)
 |.fE es=>JJ (gw es)
 |.enum a=>EF (aX a)
 |.rev a=>JK (aX a)
end
end
end Pv
namespace Pv
open Ev (D O Hh bU bN TY BI ME T E Es Eo It S Ss Fn big deep b2i rep cH ef bL aT cut cV eO slots bq)
structure Tr(M B:Nat->Prop)(h:Hh)(S:Nat->Prop)(M':Nat->Prop)(h':Hh)(S':Nat->Prop):Prop where
 len:h.length<=h'.length
 keep:∀m,m<h.length->¬ M m->h'[m]?=h[m]?
 sub:∀m,S m->S' m
 new:∀m,S' m->S m\/(h.length<=m/\m<h'.length)\/(M m/\¬ B m)
 sE:∀m,M' m->M m\/h.length<=m
structure ez(M B:Nat->Prop)(h:Hh)(S:Nat->Prop)(fr:Fr)(aj:Ev.Fr)(M':Nat->Prop)(h':Hh)(S':Nat->Prop)(af:Fr)(bV:Ev.Fr):Prop where
 f:bD M' B h' S' af bV
 tr:Tr M B h S M' h' S'
 lk:∀i,locked af i=locked fr i
 rf:∀i,locked fr i=true->bV[i]?=aj[i]?
noncomputable def iC(h:Hh)(S:Nat->Prop):Fl->Ev.Fl->Prop
 |.nx,g=>g=.nx
 |.bk,g=>g=.bk
 |.ct,g=>g=.ct
 |.ret v,g=>∃d,g=.ret d/\Rep h S v d
section
variable{M B M' M1 M2:Nat->Prop}{h h' h1 h2:Hh}{S S' S1 S2:Nat->Prop}{fr af ao:Fr}{aj bV mK:Ev.Fr}{c c1 c2:List Nat}{v:V}{d:D}
theorem ez.refl(f:bD M B h S fr aj):ez M B h S fr aj M h S fr aj:=⟨f,⟨Nat.le_refl _,λ_ _ _=>rfl,λ_ q=>q,λ_ q=>.inl q,λ_ q=>.inl q⟩,λ_=>rfl,λ_ _=>rfl⟩
theorem Out.s(o:Out M B c h S fr aj h1 S1 af):ez M B h S fr aj M h1 S1 af aj:=⟨o.f,⟨o.tr.len,λm y1 y2=>o.tr.keep m y1 (λz=>y2 z.1),o.tr.sub,λm q=>(o.tr.new m q).imp id .inl,λ_ q=>.inl q⟩,o.lk,λ_ _=>rfl⟩
theorem ez.trans(f0:bD M B h S fr aj)(a:ez M B h S fr aj M1 h1 S1 af bV)(b:ez M1 B h1 S1 af bV M2 h2 S2 ao mK):ez M B h S fr aj M2 h2 S2 ao mK where
 f:=b.f
 tr:=⟨Nat.le_trans a.tr.len b.tr.len,λm y1 y2=>by
   rw[b.tr.keep m (Nat.lt_of_lt_of_le y1 a.tr.len) (λz=>by
    rcases a.tr.sE m z with z|z
    .exact y2 z
    .omega),a.tr.keep m y1 y2],λm q=>b.tr.sub m (a.tr.sub m q),λm q=>by
   rcases b.tr.new m q with q|q|q
   .rcases a.tr.new m q with q|q|q
    .exact .inl q
    .exact .inr (.inl ⟨q.1,Nat.lt_of_lt_of_le q.2 b.tr.len⟩)
    .exact .inr (.inr q)
   .exact .inr (.inl ⟨Nat.le_trans a.tr.len q.1,q.2⟩)
   .rcases a.tr.sE m q.1 with z|z
    .exact .inr (.inr ⟨z,q.2⟩)
    .exact .inr (.inl ⟨z,Nat.lt_of_lt_of_le (a.f.wM m q.1) b.tr.len⟩),λm q=>by
   rcases b.tr.sE m q with q|q
   .exact a.tr.sE m q
   .exact .inr (Nat.le_trans a.tr.len q)⟩
 lk:=λi=>(b.lk i).trans (a.lk i)
 rf:=λi q=>(b.rf i (by rw[a.lk i];exact q)).trans (a.rf i q)
theorem bD.kind(f:bD M B h S fr aj)(g:Option Sl->Option Sl->Prop)(hl:af.length=fr.length)(hg:∀(i:Nat) o,af[i]?=some o->∃o0,fr[i]?=some o0/\(o=o0\/(∃l,o0=some (.own l)/\o=some (.val (.lst l)))\/(∃l,o0=some (.bor l)/\o=some (.ro l)))) :
  ∃M' S',ez M B h S fr aj M' h S' af aj:=by
 let X:Nat->Prop:=λm=>∃(i:Nat) (l:List V),fr[i]?=some (some (Sl.own l))/\af[i]?=some (some (Sl.val (V.lst l)))/\aj[i]?=some (some (D.ref m))
 let Y:Nat->Prop:=λm=>∃(i:Nat) (l:List V),fr[i]?=some (some (Sl.bor l))/\af[i]?=some (some (Sl.ro l))/\aj[i]?=some (some (D.ref m))
 have xM:∀m,X m->M m/\¬ B m:=λm ⟨i,l,a,_,b⟩=>by
  obtain⟨m',ds,e,q,_⟩:=f.sl i _ _ a b;cases e;exact q
 have yM:∀m,Y m->M m/\B m:=λm ⟨i,l,a,_,b⟩=>by
  obtain⟨m',ds,e,q,_⟩:=f.sl i _ _ a b;cases e;exact q
 have mono:∀{l:List V} {ds:List D},aq h S l ds->aq h (λm=>S m\/X m) l ds:=λq=>q.mono (λ_ _=>rfl) λ_ z=>.inl z;refine⟨λm=>M m/\¬ X m/\¬ Y m,λm=>S m\/X m,⟨⟨λm q=>?_,λm q=>f.wM m q.1,f.wB,by rw[hl,f.len],λi o p e1 e2=>?_,λi j o o' m y1 y2 y3 y4 y5 y6=>?_⟩,⟨Nat.le_refl _,λ_ _ _=>rfl,λ_ q=>.inl q,λm q=>?_,λm q=>.inl q.1⟩,λi=>?_,λ_ _=>rfl⟩⟩
 .rcases q with q|q
  .exact⟨(f.wS m q).1,λz=>(f.wS m q).2.1 z.1,(f.wS m q).2.2⟩
  .exact⟨f.wM m (xM m q).1,λz=>z.2.1 q,(xM m q).2⟩
 .obtain⟨o0,e0,k⟩:=hg i o e1;have old:=f.sl i o0 p e0 e2;rcases k with rfl|⟨l,rfl,rfl⟩|⟨l,rfl,rfl⟩
  .rcases o with _|s
   .exact old
   .cases s with
    |val v=>obtain⟨d,e,q⟩:=old;exact⟨d,e,q.mono (λ_ _=>rfl) λ_ z=>.inl z⟩
    |own l=>
     obtain⟨m,ds,rfl,z,y,q⟩:=old;refine⟨m,ds,rfl,⟨⟨z.1,λ⟨j,l',a1,a2,a3⟩=>?_,λ⟨j,l',a1,a2,a3⟩=>?_⟩,z.2⟩,y,mono q⟩
     .have:=f.inj i j _ _ m e0 a1 rfl rfl e2 a3;subst this;rw[e1]at a2;cases a2
     .have:=f.inj i j _ _ m e0 a1 rfl rfl e2 a3;subst this;rw[e1]at a2;cases a2
    |bor l=>
     obtain⟨m,ds,rfl,z,y,q⟩:=old;refine⟨m,ds,rfl,⟨⟨z.1,λ⟨j,l',a1,a2,a3⟩=>?_,λ⟨j,l',a1,a2,a3⟩=>?_⟩,z.2⟩,y,mono q⟩
     .have:=f.inj i j _ _ m e0 a1 rfl rfl e2 a3;subst this;rw[e1]at a2;cases a2
     .have:=f.inj i j _ _ m e0 a1 rfl rfl e2 a3;subst this;rw[e1]at a2;cases a2
    |ro l=>obtain⟨m,ds,rfl,z,y,q⟩:=old;exact⟨m,ds,rfl,λw=>z w.1,y,mono q⟩
  .obtain⟨m,ds,rfl,z,y,q⟩:=old;exact⟨.ref m,rfl,m,ds,rfl,.inr ⟨i,l,e0,e1,e2⟩,y,mono q⟩
  .obtain⟨m,ds,rfl,z,y,q⟩:=old;exact⟨m,ds,rfl,λw=>w.2.2 ⟨i,l,e0,e1,e2⟩,y,mono q⟩
 .have kd:∀(i:Nat) o,af[i]?=some o->iA o=true->∃o0,fr[i]?=some o0/\iA o0=true:=λi o w1 w2=>by
   obtain⟨o0,e0,k⟩:=hg i o w1;rcases k with rfl|⟨l,rfl,rfl⟩|⟨l,rfl,rfl⟩
   .exact⟨o,e0,w2⟩
   .cases w2
   .cases w2
  obtain⟨oi,k1,k2⟩:=kd i o y1 y3;obtain⟨oj,k3,k4⟩:=kd j o' y2 y4;exact f.inj i j oi oj m k1 k3 k2 k4 y5 y6
 .rcases q with q|q
  .exact .inl q
  .exact .inr (.inr (xM m q))
 .unfold locked;cases z:af[i]? with
  |none=>
   have:fr[i]?=none:=by rw[List.getElem?_eq_none_iff]at z ⊢;omega
   rw[this]
  |some o=>
   obtain⟨o0,e0,k⟩:=hg i o z;rw[e0];rcases k with rfl|⟨l,rfl,rfl⟩|⟨l,rfl,rfl⟩<;>rfl
theorem bD.dD(f:bD M B h S fr aj):∃M' S',ez M B h S fr aj M' h S' (fS fr) aj:=by
 refine f.kind (λ_ _=>True) (by simp[fS]) λi o e=>?_;unfold fS at e;rw[List.getElem?_map]at e;cases z:fr[i]? with
 |none=>rw[z]at e;cases e
 |some o0=>
  rw[z]at e;cases e;refine⟨o0,rfl,?_⟩;rcases o0 with _|s
  .exact .inl rfl
  .cases s with
   |own l=>exact .inr (.inl ⟨l,rfl,rfl⟩)
   |_=>exact .inl rfl
theorem bD.walk:∀(is:List Nat) {M:Nat->Prop}{S:Nat->Prop}{fr:Fr},bD M B h S fr aj->∃M' S',ez M B h S fr aj M' h S' (mE is fr) aj
 |[],_,_,_,f=>⟨_,_,.refl f⟩
 |i :: is,M,S,fr,f=>by
  have one:∃M1 S1,ez M B h S fr aj M1 h S1 (match fr[i]? with|some (some s)=>fr.set i (some s.walk)|_=>fr) aj:=by
   split
   .rename_i s z;have hl:=(List.getElem?_eq_some_iff.mp z).1;refine f.kind (λ_ _=>True) (by simp) λj o e=>?_;by_cases hj:i=j
    .subst hj;rw[List.getElem?_set_self hl]at e;cases e;refine⟨_,z,?_⟩;cases s with
     |own l=>exact .inr (.inl ⟨l,rfl,rfl⟩)
     |bor l=>exact .inr (.inr ⟨l,rfl,rfl⟩)
     |_=>exact .inl rfl
    .rw[List.getElem?_set_ne hj]at e;exact⟨o,e,.inl rfl⟩
   .exact⟨M,S,.refl f⟩
  obtain⟨M1,S1,o1⟩:=one;obtain⟨M2,S2,o2⟩:=bD.walk is o1.f;exact⟨M2,S2,o1.trans f o2⟩
theorem bD.own(f:bD M B h S fr aj){i:Nat}{l:List V}{ds:List D}(e:put fr i (.own l)=some af)(q:aq h S l ds):ez M B h S fr aj (λm=>M m\/m=h.length) (h++[.lst ds]) S af (aj.set i (some (.ref h.length))):=by
 have hx:af=fr.set i (some (.own l))/\locked fr i=false:=by
  unfold put at e;unfold locked;split at e
  .cases e
  .cases e
  .rename_i k1 k2;cases e;refine⟨rfl,?_⟩;cases z:fr[i]? with
   |none=>rfl
   |some o=>
    rcases o with _|s
    .rfl
    .cases s with
     |bor l=>exact absurd z (k1 l)
     |ro l=>exact absurd z (k2 l)
     |_=>rfl
 obtain⟨rfl,hk⟩:=hx;have kp:∀m,m<h.length->(h++[O.lst ds])[m]?=h[m]?:=λm z=>by rw[List.getElem?_append_left z]
 have kS:∀m,S m->(h++[O.lst ds])[m]?=h[m]?:=λm z=>kp m (f.w m z);refine⟨⟨λm y=>⟨by have:=(f.wS m y).1;simp;omega,λz=>?_,(f.wS m y).2.2⟩,λm y=>?_,λm y=>by have:=f.wB m y;simp;omega,by simp[f.len],λj o p y1 y2=>?_,λj k o o' m y1 y2 y3 y4 y5 y6=>?_⟩,⟨by simp,λm y _=>kp m y,λ_ z=>z,λ_ z=>.inl z,λm z=>z.imp id (λz=>by omega)⟩,λj=>?_,λj hj=>?_⟩
 .rcases z with z|z
  .exact(f.wS m y).2.1 z
  .have:=(f.wS m y).1;omega
 .rcases y with y|y
  .have:=f.wM m y;simp;omega
  .subst y;simp
 .by_cases hj:i=j
  .subst hj;have hl:i<fr.length:=by have:=(List.getElem?_eq_some_iff.mp y1).1;simpa using this
   rw[List.getElem?_set_self hl]at y1;rw[List.getElem?_set_self (by rw[<-f.len];exact hl)]at y2;cases y1;cases y2;exact⟨h.length,ds,rfl,⟨.inr rfl,λz=>by have:=f.wB _ z;omega⟩,by simp,q.mono kS λ_ z=>z⟩
  .rw[List.getElem?_set_ne hj]at y1 y2;have old:=f.sl j o p y1 y2;rcases o with _|s
   .exact old
   .cases s with
    |val v=>obtain⟨d,e,q⟩:=old;exact⟨d,e,q.mono kS λ_ z=>z⟩
    |own l=>obtain⟨m,es,rfl,z,y,q⟩:=old;exact⟨m,es,rfl,⟨.inl z.1,z.2⟩,by rw[kp m (f.wM m z.1)];exact y,q.mono kS λ_ z=>z⟩
    |bor l=>obtain⟨m,es,rfl,z,y,q⟩:=old;exact⟨m,es,rfl,⟨.inl z.1,z.2⟩,by rw[kp m (f.wM m z.1)];exact y,q.mono kS λ_ z=>z⟩
    |ro l=>
     obtain⟨m,es,rfl,z,y,q⟩:=old;have hm:=(List.getElem?_eq_some_iff.mp y).1;exact⟨m,es,rfl,λw=>by rcases w with w|w;exact z w;omega,by rw[kp m hm];exact y,q.mono kS λ_ z=>z⟩
 .have low:∀(j:Nat) o,i≠j->fr[j]?=some o->iA o=true->aj[j]?=some (some (.ref m))->m<h.length:=λj o _ w1 w2 w3=>f.wM m (f.mM w1 w2 w3);have new:∀(j:Nat),j<fr.length->i=j->(aj.set i (some (.ref h.length)))[j]?=some (some (.ref m))->m=h.length:=λj hl hj w=>by
   subst hj;rw[List.getElem?_set_self (by rw[<-f.len];exact hl)]at w;cases w;rfl
  have lj:j<fr.length:=by have:=(List.getElem?_eq_some_iff.mp y1).1;simpa using this
  have lk:k<fr.length:=by have:=(List.getElem?_eq_some_iff.mp y2).1;simpa using this
  by_cases hj:i=j
  .by_cases hk2:i=k
   .rw[<-hj,<-hk2]
   .have a:=new j lj hj y5;rw[List.getElem?_set_ne hk2]at y2 y6;have b:=low k o' hk2 y2 y4 y6;omega
  .by_cases hk2:i=k
   .have a:=new k lk hk2 y6;rw[List.getElem?_set_ne hj]at y1 y5;have b:=low j o hj y1 y3 y5;omega
   .rw[List.getElem?_set_ne hj]at y1 y5;rw[List.getElem?_set_ne hk2]at y2 y6;exact f.inj j k o o' m y1 y2 y3 y4 y5 y6
 .by_cases hj:i=j
  .subst hj;rw[hk];unfold locked;by_cases hl:i<fr.length
   .rw[List.getElem?_set_self hl];rfl
   .rw[List.getElem?_eq_none (by simpa using hl)]
  .unfold locked;rw[List.getElem?_set_ne hj]
 .have:i≠j:=λz=>by subst z;rw[hk]at hj;cases hj
  rw[List.getElem?_set_ne this]
end
inductive TH(P':Ev.aO)(w:Nat)(s:S)(g:Fl)(M B:Nat->Prop)(h:Hh)(S:Nat->Prop)(fr:Fr)(aj:Ev.Fr)(af:Fr):Prop
 |mk (g':Ev.Fl) (bV:Ev.Fr) (M':Nat->Prop) (h':Hh) (S':Nat->Prop) (c0:Ev.ex P' w s aj h=.ok (g',bV) h') (c1:iC h' S' g g') (c2:ez M B h S fr aj M' h' S' af bV):TH P' w s g M B h S fr aj af
inductive N1(P':Ev.aO)(w:Nat)(s:Ss)(g:Fl)(M B:Nat->Prop)(h:Hh)(S:Nat->Prop)(fr:Fr)(aj:Ev.Fr)(af:Fr):Prop
 |mk (g':Ev.Fl) (bV:Ev.Fr) (M':Nat->Prop) (h':Hh) (S':Nat->Prop) (c0:Ev.exs P' w s aj h=.ok (g',bV) h') (c1:iC h' S' g g') (c2:ez M B h S fr aj M' h' S' af bV):N1 P' w s g M B h S fr aj af
section
variable(P:aO)(P':Ev.aO)(w:Nat)
noncomputable def nY(s:S):Prop:=∀{fr:Fr} {g:Fl} {af:Fr} {M B:Nat->Prop} {h:Hh} {S:Nat->Prop} {aj:Ev.Fr},ex P w s fr=.ok g af->bD M B h S fr aj->TH P' w s g M B h S fr aj af
noncomputable def qL(s:Ss):Prop:=∀{fr:Fr} {g:Fl} {af:Fr} {M B:Nat->Prop} {h:Hh} {S:Nat->Prop} {aj:Ev.Fr},exs P w s fr=.ok g af->bD M B h S fr aj->N1 P' w s g M B h S fr aj af
end
section
variable{P:aO}{P':Ev.aO}{w:Nat}(HP:qF P P')
include HP
theorem Hq{i x f n0:Nat}{ck:List (Nat×List D)}(hxi:x≠i):∀(vs:List V) (ds:List D) (k K:List (Int×List Nat)) (h:Hh) (S:Nat->Prop) (fr:Ev.Fr),mG P f vs k=some K->aq h S vs ds->(∀m,S m->m<h.length/\m≠n0)->h[n0]?=some (.dct k)->fr[i]?=some (some (.ref n0))->(ds≠[]->x<fr.length)->(∀q∈ck,bq h q.1=some q.2)->
  ∃(h':Hh) (S':Nat->Prop),Ev.forL (λd ao h2=>match Ev.bC (.one x) d ao with|some bI=>Ev.vv P' (.v i) (.cl f (.cons (.v x) .nil)) bI h2|none=>.bad) ck ds fr h=.ok (.nx,(ds.getLast?.map λd=>fr.set x (some d)).getD fr) h'/\h'[n0]?=some (.dct K)/\h.length<=h'.length/\(∀m,m<h.length->m≠n0->h'[m]?=h[m]?)/\(∀m,S m->S' m)/\(∀m,S' m->S m\/(h.length<=m/\m<h'.length))
 |[],ds,k,K,h,S,fr,e,q,w,hn,hi,hx,st=>by
  simp only[mG]at e;cases e;simp only[aq]at q;subst q;refine⟨h,S,?_,hn,Nat.le_refl _,λ_ _ _=>rfl,λ_ z=>z,λ_ z=>.inl z⟩;simp only[Ev.forL];rw[if_pos (iu st)];rfl
 |v :: vs,ds,k,K,h,S,fr,e,q,w,hn,hi,hx,st=>by
  simp only[mG]at e;split at e
  case h_2=>cases e
  rename_i m e1;split at e
  case isFalse=>cases e
  rename_i hk;simp only[aq]at q;obtain⟨d,es,rfl,q1,q2⟩:=q;have X3:=(List.getElem?_eq_some_iff.mp hn).1;have eT:bD (λ_=>False) (λ_=>False) h S ([Sl.val v].map some) ([d].map some):=⟨λm z=>⟨(w m z).1,λz=>z,λz=>z⟩,λm z=>z.elim,λm z=>z.elim,rfl,λj o p a b=>by
   cases j with
   |zero=>simp at a b;subst a b;exact⟨d,rfl,q1⟩
   |succ j=>simp at a,λj1 j2 o o' m a b c _ _ _=>by
   cases j1 with
   |zero=>simp at a;subst a;cases c
   |succ j=>simp at a⟩
  obtain⟨d',h1,S1,p1,p2,p3,p4⟩:=HP f [.val v] _ _ e1 h S (λ_=>False) [d] eT;simp only[Rep]at p2;obtain⟨j,rfl,sj,hj⟩:=p2;have k1:∀m,m<h.length->h1[m]?=h[m]?:=λm z=>p3.keep m z λz=>z;have w1:∀m,S1 m->m<h1.length/\m≠n0:=λm z=>by
   rcases p3.new m z with z|z
   .exact⟨Nat.lt_of_lt_of_le (w m z).1 p3.len,(w m z).2⟩
   .exact⟨z.2,λy=>by subst y;omega⟩
  have jn:n0≠j:=λz=>(w1 j sj).2 z.symm;have hn1:h1[n0]?=some (.dct k):=by rw[k1 n0 X3];exact hn
  have V9:=(List.getElem?_eq_some_iff.mp hn1).1;have km:∀m',m'≠n0->(h1.set n0 (.dct (Ev.dj k m)))[m']?=h1[m']?:=λm' z=>List.getElem?_set_ne λy=>z y.symm;have X4:∀q∈ck,q.1≠n0:=λq hq z=>by
   have:=st q hq;rw[z]at this;simp[bq,hn]at this
  obtain⟨h2,S2,g1,g2,g3,g4,g5,g6⟩:=Hq hxi vs es (Ev.dj k m) K (h1.set n0 (.dct (Ev.dj k m))) S1 (fr.set x (some d)) e (q2.mono (λm' z=>by rw[km m' (w m' z).2,k1 m' (w m' z).1]) p3.sub) (λm' z=>⟨by rw[List.length_set];exact(w1 m' z).1,(w1 m' z).2⟩) (List.getElem?_set_self V9) (by rw[List.getElem?_set_ne hxi];exact hi) (λ_=>by rw[List.length_set];exact hx (by simp))
   (λq hq=>jW (st q hq) (by rw[km _ (X4 q hq),k1 _ (nW (st q hq))]))
  rw[List.length_set]at g3 g4 g6;refine⟨h2,S2,?_,g2,Nat.le_trans p3.len g3,λm' z1 z2=>by rw[g4 m' (Nat.lt_of_lt_of_le z1 p3.len) z2,km m' z2,k1 m' z1],λm' z=>g5 m' (p3.sub m' z),λm' z=>?_⟩
  .have big:k.length+m.length<=Ev.big:=Nat.le_trans hk (by decide);have hxx:(fr.set x (some d))[x]?=some (some d):=List.getElem?_set_self (hx (by simp));have X5:(fr.set x (some d))[i]?=some (some (.ref n0)):=by rw[List.getElem?_set_ne hxi];exact hi
   have du:Ev.vv P' (.v i) (.cl f (.cons (.v x) .nil)) (fr.set x (some d)) h=.ok (.nx,fr.set x (some d)) (h1.set n0 (.dct (Ev.dj k m))):=by
    simp[Ev.vv,Ev.ev,Ev.cg,X5,hxx,Ev.R.bind,Ev.R.of,p1,Ev.uG,Ev.eZ,hn,hn1,hj,jn,big]
   simp only[Ev.forL];rw[if_pos (iu st)];simp only[Ev.bC];rw[du];simp only[Ev.ak];simp only[Ev.bC]at g1;rw[g1];cases es with
   |nil=>rfl
   |cons d2 es=>
    have:(d :: d2 :: es).getLast?=(d2 :: es).getLast?:=by simp[List.getLast?_cons_cons]
    rw[this];cases z:(d2 :: es).getLast? with
    |none=>simp at z
    |some d3=>simp[List.set_set]
  .rcases g6 m' z with z|z
   .rcases p3.new m' z with z|z
    .exact .inl z
    .exact .inr ⟨z.1,Nat.lt_of_lt_of_le z.2 g3⟩
   .exact .inr ⟨Nat.le_trans p3.len z.1,z.2⟩
omit HP in
theorem we{h:Hh}{S:Nat->Prop}:∀{vs:List V}{ds:List D},aq h S vs ds->(vs.getLast?=none/\ds.getLast?=none)\/∃v d,vs.getLast?=some v/\ds.getLast?=some d/\Rep h S v d
 |[],ds,q=>by simp only[aq]at q;subst q;exact .inl ⟨rfl,rfl⟩
 |v :: vs,ds,q=>by
  simp only[aq]at q;obtain⟨d,es,rfl,q1,q2⟩:=q;refine .inr ?_;rcases we q2 with ⟨a,b⟩|⟨v',d',a,b,c⟩
  .have a':=List.getLast?_eq_none_iff.mp a;have b':=List.getLast?_eq_none_iff.mp b;subst a' b';exact⟨v,d,rfl,rfl,q1⟩
  .refine⟨v',d',?_,?_,c⟩
   .cases vs with|nil=>cases a|cons x xs=>rw[List.getLast?_cons_cons];exact a
   .cases es with|nil=>cases b|cons x xs=>rw[List.getLast?_cons_cons];exact b
omit HP in
theorem bD.X6{M B:Nat->Prop}{h h':Hh}{S S':Nat->Prop}{fr:Fr}{aj:Ev.Fr}{n0:Nat}{k:List (Int×List Nat)}(f:bD M B h S fr aj)(hn:h[n0]?=some (.dct k))(nS:∀m,S m->m≠n0)(nM:¬ M n0)(nB:¬ B n0)(len:h.length<=h'.length)(keep:∀m,m<h.length->m≠n0->h'[m]?=h[m]?)(sub:∀m,S m->S' m)(new:∀m,S' m->S m\/(h.length<=m/\m<h'.length)\/m=n0):bD M B h' S' fr aj where
 wS:=λm q=>by
  rcases new m q with q|⟨q1,q2⟩|rfl
  .exact⟨Nat.lt_of_lt_of_le (f.wS m q).1 len,(f.wS m q).2⟩
  .exact⟨q2,λz=>by have:=f.wM m z;omega,λz=>by have:=f.wB m z;omega⟩
  .exact⟨Nat.lt_of_lt_of_le (List.getElem?_eq_some_iff.mp hn).1 len,nM,nB⟩
 wM:=λm q=>Nat.lt_of_lt_of_le (f.wM m q) len
 wB:=λm q=>Nat.lt_of_lt_of_le (f.wB m q) len
 len:=f.len
 sl:=λi o p e1 e2=>by
  have q:=f.sl i o p e1 e2;have k:∀m,S m->h'[m]?=h[m]?:=λm z=>keep m (f.w m z) (nS m z);have g:∀(m:Nat) (ds:List D),h[m]?=some (O.lst ds)->h'[m]?=some (O.lst ds):=λm ds z=>by
   rw[keep m (List.getElem?_eq_some_iff.mp z).1 (λy=>by rw[y,hn]at z;cases z)];exact z
  rcases o with _|s
  .exact q
  .cases s with
   |val v=>obtain⟨d,e,q⟩:=q;exact⟨d,e,q.mono k sub⟩
   |own l=>obtain⟨m,ds,e,z,y,q⟩:=q;exact⟨m,ds,e,z,g m ds y,q.mono k sub⟩
   |bor l=>obtain⟨m,ds,e,z,y,q⟩:=q;exact⟨m,ds,e,z,g m ds y,q.mono k sub⟩
   |ro l=>obtain⟨m,ds,e,z,y,q⟩:=q;exact⟨m,ds,e,z,g m ds y,q.mono k sub⟩
 inj:=f.inj
theorem JL{i x y f:Nat}:nY P P' w (.jw i x y f):=λ{fr g af M B h S aj} z f0=>by
 simp only[ex]at z;split at z
 case isFalse=>cases z
 rename_i hc;obtain⟨X7,hxi,il,xl⟩:=hc;rw[f0.len]at il xl;replace z:=ah z;obtain⟨vs,ao,z1,z⟩:=z;replace z:=ah z;obtain⟨K,bI,z2,z⟩:=z;replace z2:=aH z2;obtain⟨z2,y0⟩:=z2;subst y0;replace z:=ah z;obtain⟨gX,nu,z3,z⟩:=z;replace z3:=aH z3;obtain⟨z3,y0⟩:=z3;subst y0;replace z:=ah z;obtain⟨YX,To,z4,z⟩:=z;replace z4:=aH z4;obtain⟨z4,y0⟩:=z4;subst y0;cases z;have hl1:(h++[O.dct []]).length=h.length+1:=by simp
 have f1:bD M B (h++[.dct []]) S fr aj:=f0.al ⟨by rw[hl1];omega,λm z=>List.getElem?_append_left z,λ_ z=>z,λ_ z=>.inl z⟩;obtain⟨M1,S1,o1⟩:=f1.walk [y];obtain⟨s,h2,S2,e1,q1,q2,o2⟩:=jX HP (.seq (.v y)) z1 o1.f;have qM:=e1;simp only[Ev.cF,Ev.ev]at qM;replace qM:=Ev.ah qM;obtain⟨dx,TJ,e2,qM⟩:=qM;replace e2:=Ev.aH e2;obtain⟨e2,y0⟩:=e2;subst y0;replace qM:=Ev.aH qM;obtain⟨qM,y0⟩:=qM;subst y0;have e3:Ev.cF P' (.seq (.v y)) (aj.set i (some (.ref h.length))) (h++[.dct []])=.ok s (h++[.dct []]):=by
  rw[<-e1];simp only[Ev.cF,Ev.ev,List.getElem?_set_ne X7]
 have hn:(h++[O.dct []])[h.length]?=some (.dct []):=by simp
 have X8:¬ M1 h.length:=λz=>by
  rcases o1.tr.sE _ z with z|z
  .have:=f0.wM _ z;omega
  .rw[hl1]at z;omega
 have nB:¬ B h.length:=λz=>by have:=f0.wB _ z;omega
 have TL:∀m,S2 m->S m\/(M m/\¬ B m):=λm z=>by
  rcases o2.tr.new m z with z|z
  .rcases o1.tr.new m z with z|z|z
   .exact .inl z
   .omega
   .exact .inr z
  .omega
 have N2:∀m,S2 m->m≠h.length:=λm z y=>by
  rcases TL m z with z|z
  .have:=(f0.wS m z).1;omega
  .have:=f0.wM m z.1;omega
 obtain⟨h',S',g1,g2,g3,g4,g5,g6⟩:=Hq HP (i:=i) (x:=x) (f:=f) (n0:=h.length) (ck:=s.2) hxi vs s.1 [] K (h++[.dct []]) S2 (aj.set i (some (.ref h.length))) z2 q1 (λm z=>⟨(o2.f.wS m z).1,N2 m z⟩) hn (List.getElem?_set_self il) (λ_=>by rw[List.length_set];exact xl) (λq hq=>(q2 q hq).1);have f2:=o2.f.X6 (S':=λm=>S' m\/m=h.length) hn N2 X8 nB g3 g4 (λm z=>.inl (g5 m z)) (λm z=>by
  rcases z with z|z
  .exact(g6 m z).imp id .inl
  .exact .inr (.inr z))
 obtain⟨f3,l3,r3⟩:=f2.set z3 (d:=.ref h.length) (show Rep h' _ (.dct K) _ from ⟨_,rfl,.inr rfl,g2⟩);have q3:∀{v:V} {d:D},Rep (h++[.dct []]) S2 v d->Rep h' (λm=>S' m\/m=h.length) v d:=λq=>q.mono (λm z=>g4 m (o2.f.wS m z).1 (N2 m z)) λm z=>.inl (g5 m z);have fin:∀{bP:Fr} {nZ:Ev.Fr},bD M1 B h' (λm=>S' m\/m=h.length) bP nZ->(∀j,locked bP j=locked nu j)->(∀j,locked nu j=true->nZ[j]?=aj[j]?)->ez M B h S fr aj M1 h' (λm=>S' m\/m=h.length) bP nZ:=λ{bP nZ} fz lz rz=>⟨fz,⟨by rw[hl1]at g3;omega,λm y1 y2=>by
   rw[g4 m (by rw[hl1];omega) (by omega)];exact List.getElem?_append_left y1,λm z=>.inl (g5 m (o2.tr.sub m (o1.tr.sub m z))),λm z=>by
   rcases z with z|z
   .rcases g6 m z with z|z
    .rcases TL m z with z|z
     .exact .inl z
     .exact .inr (.inr z)
    .rw[hl1]at z;exact .inr (.inl ⟨by omega,z.2⟩)
   .rw[hl1]at g3;exact .inr (.inl ⟨by omega,by omega⟩),λm z=>by
   rcases o1.tr.sE m z with z|z
   .exact .inl z
   .rw[hl1]at z;exact .inr (by omega)⟩,λj=>(lz j).trans ((o2.lk j).trans (o1.lk j)),λj z=>rz j (by rw[o2.lk j,o1.lk j];exact z)⟩
 have TM:∀nZ,(s.1.getLast?.map λd=>(aj.set i (some (.ref h.length))).set x (some d)).getD (aj.set i (some (.ref h.length)))=nZ->Ev.ex P' w (.jw i x y f) aj h=.ok (.nx,nZ) h':=λnZ z=>by
  rw[<-z];simp only[Ev.ex,e3,Ev.ak];exact g1
 rcases we q1 with ⟨a,b⟩|⟨v,d,a,b,c⟩
 .unfold kD at z4;rw[a]at z4;cases z4;exact⟨.nx,_,_,_,_,TM _ (by rw[b];rfl),rfl,fin f3 l3 r3⟩
 .unfold kD at z4;rw[a]at z4;obtain⟨f4,l4,r4⟩:=f3.set z4 (q3 c);exact⟨.nx,_,_,_,_,TM _ (by rw[b];rfl),rfl,fin f4 (λj=>(l4 j).trans (l3 j)) (λj z=>(r4 j (by rw[l3 j];exact z)).trans (r3 j z))⟩
theorem JM{i:Nat}{e:E}:nY P P' w (.set i e):=λ{fr g af M B h S aj} z f=>by
 simp only[ex]at z;replace z:=ah z;obtain⟨x,ao,z1,z⟩:=z;by_cases hn:isNew e=true
 .rw[if_pos hn]at z;have key:∃l ds h1 S1,x=.lst l/\aq h1 S1 l ds/\Ev.ev P' e aj h=.ok (.ref h1.length) (h1++[.lst ds])/\Out M B (bJ e) h S fr aj h1 S1 ao:=by
   cases e<;>simp only[isNew,Bool.false_eq_true]at hn
   case lst es=>
    simp only[ev]at z1;replace z1:=ah z1;obtain⟨l,bI,z2,z1⟩:=z1;replace z1:=aH z1;obtain⟨z1,y0⟩:=z1;subst y0;unfold eG at z1;split at z1
    case isFalse=>cases z1
    rename_i hk;cases z1;obtain⟨ds,h1,S1,e1,q1,o1⟩:=gw HP es z2 f;refine⟨l,ds,h1,S1,rfl,q1.n,?_,o1⟩;simp only[Ev.ev,e1,Ev.ak,Ev.alloc];rw[if_pos (by rw[<-q1.n.length];exact hk)]
   case eF it=>
    simp only[ev]at z1;replace z1:=ah z1;obtain⟨l,bI,z2,z1⟩:=z1;replace z1:=aH z1;obtain⟨z1,y0⟩:=z1;subst y0;unfold eG at z1;split at z1
    case isFalse=>cases z1
    rename_i hk;cases z1;obtain⟨s,h1,S1,e1,q1,q2,o1⟩:=jX HP it z2 f;refine⟨l,s.1,h1,S1,rfl,q1,?_,o1⟩;simp only[Ev.ev,e1,Ev.ak,Ev.alloc];rw[if_pos (by rw[<-q1.length];exact hk)]
  obtain⟨l,ds,h1,S1,rfl,q1,e1,o1⟩:=key;simp only at z;replace z:=ah z;obtain⟨bI,gX,z2,z⟩:=z;replace z2:=aH z2;obtain⟨z2,y0⟩:=z2;subst y0;cases z;have o2:=o1.f.own z2 q1;exact⟨.nx,_,_,_,_,by simp only[Ev.ex,e1,Ev.ak],rfl,o1.s.trans f o2⟩
 .rw[if_neg hn]at z;replace z:=ah z;obtain⟨bI,gX,z2,z⟩:=z;replace z2:=aH z2;obtain⟨z2,y0⟩:=z2;subst y0;cases z;obtain⟨d,h1,S1,e1,q1,o1⟩:=aX HP e z1 f;obtain⟨f2,l2,r2⟩:=o1.f.set z2 q1.n;refine⟨.nx,_,_,_,_,by simp only[Ev.ex,e1,Ev.ak],rfl,o1.s.trans f ⟨f2,(ez.refl f2).tr,l2,r2⟩⟩
theorem JN{l:List Nat}{e:E}:nY P P' w (.zI l e):=λ{fr g af M B h S aj} z f=>by
 simp only[ex]at z;replace z:=ah z;obtain⟨x,ao,z1,z⟩:=z;replace z:=ah z;obtain⟨bI,gX,z2,z⟩:=z;replace z2:=aH z2;obtain⟨z2,y0⟩:=z2;subst y0;cases z;obtain⟨d,h1,S1,e1,q1,o1⟩:=aX HP e z1 f;obtain⟨jx,b1,f2,l2,r2⟩:=o1.f.bC z2 q1.n;exact⟨.nx,_,_,_,_,by simp only[Ev.ex,e1,Ev.ak,b1],rfl,o1.s.trans f ⟨f2,(ez.refl f2).tr,l2,r2⟩⟩
theorem N3{e:E}:nY P P' w (.exp e):=λ{fr g af M B h S aj} z f=>by
 simp only[ex]at z;replace z:=ah z;obtain⟨x,ao,z1,z⟩:=z;cases z;obtain⟨d,h1,S1,e1,q1,o1⟩:=aX HP e z1 f;exact⟨.nx,_,_,_,_,by simp only[Ev.ex,e1,Ev.ak],rfl,o1.s⟩
theorem N4{e:E}:nY P P' w (.ret e):=λ{fr g af M B h S aj} z f=>by
 simp only[ex]at z;replace z:=ah z;obtain⟨x,ao,z1,z⟩:=z;cases z;obtain⟨M1,S1,o1⟩:=f.dD;obtain⟨d,h2,S2,e1,q1,o2⟩:=aX HP e z1 o1.f;exact⟨.ret d,_,_,_,_,by simp only[Ev.ex,e1,Ev.ak],⟨d,rfl,q1.n⟩,o1.trans f o2.s⟩
omit HP in
theorem sF{F:V->Fr->R Fl}{F':D->Ev.Fr->Hh->Ev.R (Ev.Fl×Ev.Fr)}{ck:List (Nat×List D)}{B:Nat->Prop}{M0:Nat->Prop}{h0:Hh}{S0:Nat->Prop}{eT:Fr}{EG:Ev.Fr}(f0:bD M0 B h0 S0 eT EG)(st:∀q∈ck,bq h0 q.1=some q.2/\¬ M0 q.1)
  (turn:∀v d fr g af M h S aj,F v fr=.ok g af->bD M B h S fr aj->Rep h S v d->∃g' bV M' h' S',F' d aj h=.ok (g',bV) h'/\iC h' S' g g'/\ez M B h S fr aj M' h' S' af bV) :
  ∀{vs:List V} {ds:List D} {fr:Fr} {g:Fl} {af:Fr} {M:Nat->Prop} {h:Hh} {S:Nat->Prop} {aj:Ev.Fr},forL F vs fr=.ok g af->ez M0 B h0 S0 eT EG M h S fr aj->aq h S vs ds->
  ∃g' bV M' h' S',Ev.forL F' ck ds aj h=.ok (g',bV) h'/\iC h' S' g g'/\ez M0 B h0 S0 eT EG M' h' S' af bV
 |[],ds,fr,g,af,M,h,S,aj,e,o,q=>by
  simp only[forL]at e;simp only[aq]at q;subst q;cases e;refine⟨.nx,aj,M,h,S,?_,rfl,o⟩;simp only[Ev.forL];rw[if_pos (iu λx hx=>jW (st x hx).1 (o.tr.keep _ (nW (st x hx).1) (st x hx).2))]
 |v :: vs,ds,fr,g,af,M,h,S,aj,e,o,q=>by
  simp only[forL]at e;replace e:=ah e;obtain⟨p,ao,e1,e⟩:=e;simp only[aq]at q;obtain⟨d,es,rfl,q1,q2⟩:=q;obtain⟨g',mK,M2,h2,S2,t1,t2,t3⟩:=turn v d fr p ao M h S aj e1 o.f q1;have o2:=o.trans f0 t3;have Hr:Ev.stays h ck=true:=iu λx hx=>jW (st x hx).1 (o.tr.keep _ (nW (st x hx).1) (st x hx).2);have TN:aq h2 S2 vs es:=q2.mono (λm z=>t3.tr.keep m (o.f.wS m z).1 (o.f.wS m z).2.1) t3.tr.sub;cases p with
  |nx=>
   simp only[iC]at t2;subst t2;simp only at e;obtain⟨qN,jx,M3,h3,S3,u1,u2,u3⟩:=sF f0 st turn e o2 TN;refine⟨qN,jx,M3,h3,S3,?_,u2,u3⟩;simp only[Ev.forL];rw[if_pos Hr,t1,Ev.ak];exact u1
  |ct=>
   simp only[iC]at t2;subst t2;simp only at e;obtain⟨qN,jx,M3,h3,S3,u1,u2,u3⟩:=sF f0 st turn e o2 TN;refine⟨qN,jx,M3,h3,S3,?_,u2,u3⟩;simp only[Ev.forL];rw[if_pos Hr,t1,Ev.ak];exact u1
  |bk=>
   simp only[iC]at t2;subst t2;simp only at e;cases e;refine⟨.nx,mK,M2,h2,S2,?_,rfl,o2⟩;simp only[Ev.forL];rw[if_pos Hr,t1,Ev.ak]
  |ret x=>
   simp only[iC]at t2;obtain⟨d2,rfl,t2⟩:=t2;simp only at e;cases e;refine⟨.ret d2,mK,M2,h2,S2,?_,⟨d2,rfl,t2⟩,o2⟩;simp only[Ev.forL];rw[if_pos Hr,t1,Ev.ak]
theorem N5{t:T}{it:It}{b:Ss}(ib:qL P P' w b):nY P P' w (.for t it b):=λ{fr g af M B h S aj} z f=>by
 simp only[ex]at z;replace z:=ah z;obtain⟨vs,ao,z1,z⟩:=z;obtain⟨M1,S1,o1⟩:=f.walk (itv it);obtain⟨s,h2,S2,e1,q1,q2,o2⟩:=jX HP it z1 o1.f;have o3:=o1.trans f o2.s;obtain⟨g',bV,M',h',S',u1,u2,u3⟩:=sF (F':=λd ao h2=>match Ev.bC t d ao with
   |some bI=>Ev.exs P' w b bI h2
   |none=>.bad) (ck:=s.2) o2.f (λq hq=>⟨(q2 q hq).1,(q2 q hq).2 rfl⟩) (λv d fr g af M h S aj y f q=>by
  split at y
  .rename_i bI y1;obtain⟨jx,b1,b2,b3,b4⟩:=f.bC y1 q;rw[b1];obtain⟨g',bV,M',h',S',c1,c2,c3⟩:=ib y b2;exact⟨g',bV,M',h',S',c1,c2,(⟨b2,(ez.refl b2).tr,b3,b4⟩:ez M _ h S fr aj M h S bI jx).trans f c3⟩
  .cases y) z (ez.refl o2.f) q1
 refine⟨g',bV,M',h',S',?_,u2,o3.trans f u3⟩;simp only[Ev.ex,e1,Ev.ak];exact u1
theorem wg{t:E}{b:Ss}(ib:qL P P' w b):∀(n:Nat) {fr:Fr}{g:Fl}{af:Fr}{M B:Nat->Prop}{h:Hh}{S:Nat->Prop}{aj:Ev.Fr},eL (λao=>aI P t ao) (λao=>exs P w b ao) n fr=.ok g af->bD M B h S fr aj->
  ∃g' bV M' h' S',Ev.eL (λao h2=>Ev.aI P' t ao h2) (λao h2=>Ev.exs P' w b ao h2) n aj h=.ok (g',bV) h'/\iC h' S' g g'/\ez M B h S fr aj M' h' S' af bV
 |0,_,_,_,_,_,_,_,_,z,_=>by simp only[eL]at z;cases z
 |n+1,fr,g,af,M,B,h,S,aj,z,f=>by
  simp only[eL]at z;replace z:=ah z;obtain⟨k,ao,z1,z⟩:=z;obtain⟨h1,S1,e1,o1⟩:=gY HP t z1 f;cases k with
  |false=>
   simp only[Bool.false_eq_true,if_false]at z;cases z;refine⟨.nx,aj,M,h1,S1,?_,rfl,o1.s⟩;simp only[Ev.eL,e1,Ev.ak];rw[if_neg (by decide)]
  |true=>
   simp only[if_true]at z;replace z:=ah z;obtain⟨p,bI,z2,z⟩:=z;obtain⟨g',jx,M2,h2,S2,t1,t2,t3⟩:=ib z2 o1.f;have o2:=o1.s.trans f t3;cases p with
   |nx=>
    simp only[iC]at t2;subst t2;simp only at z;obtain⟨qN,EH,M3,h3,S3,u1,u2,u3⟩:=wg ib n z t3.f;refine⟨qN,EH,M3,h3,S3,?_,u2,o2.trans f u3⟩;simp only[Ev.eL,e1,Ev.ak,if_true,t1];exact u1
   |ct=>
    simp only[iC]at t2;subst t2;simp only at z;obtain⟨qN,EH,M3,h3,S3,u1,u2,u3⟩:=wg ib n z t3.f;refine⟨qN,EH,M3,h3,S3,?_,u2,o2.trans f u3⟩;simp only[Ev.eL,e1,Ev.ak,if_true,t1];exact u1
   |bk=>
    simp only[iC]at t2;subst t2;simp only at z;cases z;refine⟨.nx,jx,M2,h2,S2,?_,rfl,o2⟩;simp only[Ev.eL,e1,Ev.ak,if_true,t1]
   |ret x=>
    simp only[iC]at t2;obtain⟨d2,rfl,t2⟩:=t2;simp only at z;cases z;refine⟨.ret d2,jx,M2,h2,S2,?_,⟨d2,rfl,t2⟩,o2⟩;simp only[Ev.eL,e1,Ev.ak,if_true,t1]
theorem N6{t:E}{a b:Ss}(ia:qL P P' w a)(ib:qL P P' w b):nY P P' w (.iff t a b):=λ{fr g af M B h S aj} z f=>by
 simp only[ex]at z;replace z:=ah z;obtain⟨k,ao,z1,z⟩:=z;obtain⟨h1,S1,e1,o1⟩:=gY HP t z1 f;cases k with
 |true=>
  simp only[if_true]at z;obtain⟨g',bV,M',h',S',c1,c2,c3⟩:=ia z o1.f;exact⟨g',bV,M',h',S',by simp only[Ev.ex,e1,Ev.ak,if_true,c1],c2,o1.s.trans f c3⟩
 |false=>
  simp only[Bool.false_eq_true,if_false]at z;obtain⟨g',bV,M',h',S',c1,c2,c3⟩:=ib z o1.f;exact⟨g',bV,M',h',S',by simp only[Ev.ex,e1,Ev.ak];rw[if_neg (by decide)];exact c1,c2,o1.s.trans f c3⟩
mutual
theorem Q7:∀s:S,nY P P' w s
 |.set _ _=>JM HP
 |.zI _ _=>JN HP
 |.dput _ _ _=>λz _=>by simp only[ex]at z;cases z
 |.qb _ _=>λz _=>by simp only[ex]at z;cases z
 |.jw _ _ _ _=>JL HP
 |.exp _=>N3 HP
 |.ret _=>N4 HP
 |.iff _ a b=>N6 HP (lJ a) (lJ b)
 |.for _ _ b=>N5 HP (lJ b)
 |.ly _ b=>λz f=>by
  simp only[ex]at z;obtain⟨g',bV,M',h',S',c1,c2,c3⟩:=wg HP (lJ b) w z f;exact⟨g',bV,M',h',S',by simp only[Ev.ex];exact c1,c2,c3⟩
 |.eY=>λz _=>by simp only[ex]at z;cases z
theorem lJ:∀s:Ss,qL P P' w s
 |.nil=>λz f=>by simp only[exs]at z;cases z;exact⟨.nx,_,_,_,_,by simp only[Ev.exs],rfl,.refl f⟩
 |.cons s ss=>λz f=>by
  simp only[exs]at z;replace z:=ah z;obtain⟨p,ao,z1,z⟩:=z;obtain⟨g',mK,M2,h2,S2,t1,t2,t3⟩:=Q7 s z1 f;cases p with
  |nx=>
   simp only[iC]at t2;subst t2;simp only at z;obtain⟨qN,jx,M3,h3,S3,u1,u2,u3⟩:=lJ ss z t3.f;exact⟨qN,jx,M3,h3,S3,by simp only[Ev.exs,t1,Ev.ak,u1],u2,t3.trans f u3⟩
  |ct=>
   simp only[iC]at t2;subst t2;simp only at z;cases z;exact⟨.ct,mK,M2,h2,S2,by simp only[Ev.exs,t1,Ev.ak],rfl,t3⟩
  |bk=>
   simp only[iC]at t2;subst t2;simp only at z;cases z;exact⟨.bk,mK,M2,h2,S2,by simp only[Ev.exs,t1,Ev.ak],rfl,t3⟩
  |ret x=>
   simp only[iC]at t2;obtain⟨d2,rfl,t2⟩:=t2;simp only at z;cases z;exact⟨.ret d2,mK,M2,h2,S2,by simp only[Ev.exs,t1,Ev.ak],⟨d2,rfl,t2⟩,t3⟩
end
end
theorem sG{h:Hh}{S:Nat->Prop}{B:Nat->Prop}{h0:Hh}{S0:Nat->Prop}:∀{sl:List Sl}{ds:List D}{cs:Fr},sl.length=ds.length->
  (∀(a:Nat) s d,sl[a]?=some s->ds[a]?=some d->kZ B B h0 S0 (some s) (some d)/\locked cs a=yU (some s)/\(yU (some s)=true->∃m es l s',d=.ref m/\h[m]?=some (.lst es)/\aq h S l es/\cs[a]?=some (some s')/\s'.out=some l))->nT h S sl ds ((cs.take sl.length).filterMap λo=>o.bind Sl.out)
 |[],ds,cs,_,_=>by simp[nT]
 |s :: sl,[],cs,hl,_=>by simp at hl
 |s :: sl,d :: ds,[],hl,q=>by
  have ih:=sG (h:=h) (S:=S) (sl:=sl) (ds:=ds) (cs:=[]) (by simpa using hl) λa s' d' e1 e2=>by
   obtain⟨w1,w2,w3⟩:=q (a+1) s' d' (by simpa using e1) (by simpa using e2);exact⟨w1,by simpa[locked]using w2,λz=>by obtain⟨_,_,_,_,_,_,_,y,_⟩:=w3 z;simp at y⟩
  obtain⟨w1,w2,w3⟩:=q 0 s d (by simp) (by simp);cases s with
  |val v=>simp at ih ⊢;exact⟨d,ds,rfl,ih⟩
  |own l=>exact absurd w1 (by rintro⟨m,es,e,q,_⟩;exact q.2 q.1)
  |bor l=>obtain⟨_,_,_,_,_,_,_,y,_⟩:=w3 rfl;simp at y
  |ro l=>obtain⟨_,_,_,_,_,_,_,y,_⟩:=w3 rfl;simp at y
 |s :: sl,d :: ds,o :: cs,hl,q=>by
  have ih:=sG (h:=h) (S:=S) (sl:=sl) (ds:=ds) (cs:=cs) (by simpa using hl) λa s' d' e1 e2=>by
   obtain⟨w1,w2,w3⟩:=q (a+1) s' d' (by simpa using e1) (by simpa using e2);exact⟨w1,by simpa[locked]using w2,λz=>by simpa using w3 z⟩
  obtain⟨w1,w2,w3⟩:=q 0 s d (by simp) (by simp);cases s with
  |val v=>
   have:o.bind Sl.out=none:=by
    simp[locked]at w2;rcases o with _|s
    .rfl
    .cases s<;>first|rfl|cases w2
   simp only[List.length_cons,List.take_succ_cons,List.filterMap_cons,this];exact⟨d,ds,rfl,ih⟩
  |own l=>exact absurd w1 (by rintro⟨m,es,e,q,_⟩;exact q.2 q.1)
  |bor l=>
   obtain⟨m,es,l',s',a1,a2,a3,a4,a5⟩:=w3 rfl;simp at a4;subst a4;simp only[List.length_cons,List.take_succ_cons,List.filterMap_cons,Option.bind,a5];exact⟨d,ds,l',_,m,es,rfl,rfl,a1,a2,a3,ih⟩
  |ro l=>
   obtain⟨m,es,l',s',a1,a2,a3,a4,a5⟩:=w3 rfl;simp at a4;subst a4;simp only[List.length_cons,List.take_succ_cons,List.filterMap_cons,Option.bind,a5];exact⟨d,ds,l',_,m,es,rfl,rfl,a1,a2,a3,ih⟩
theorem Cv(F:List Fn)(w:Nat):∀n,qF (run F w n) (Ev.run F w n)
 |0=>λf sl v os e=>by simp[run]at e
 |n+1=>λf sl v os e h S B ds F0=>by
  have HP:=Cv F w n;simp only[run]at e;cases z:F[f]? with
  |none=>rw[z]at e;cases e
  |some fn=>
  rw[z]at e;simp only at e;split at e
  case isFalse=>cases e
  rename_i hl;have hlen:sl.length=ds.length:=by have:=F0.len;simpa using this
  have f1:bD B B h S (eT fn sl) (Ev.eT fn ds):=by
   unfold eT Ev.eT;have sp:∀(i:Nat) o,(sl.map some++List.replicate (fn.ns - fn.np) none)[i]?=some o->(sl.map some)[i]?=some o\/(sl.length<=i/\o=none):=λi o y=>by
    by_cases hi:i<sl.length
    .rw[List.getElem?_append_left (by simpa using hi)]at y;exact .inl y
    .rw[List.getElem?_append_right (by simpa using hi)]at y;have:=List.mem_of_getElem? y;exact .inr ⟨by omega,(List.mem_replicate.mp this).2⟩
   have lo:∀(i:Nat) p,i<sl.length->(ds.map some++List.replicate (fn.ns - fn.np) none)[i]?=some p->(ds.map some)[i]?=some p:=λi p hi y=>by
    rw[List.getElem?_append_left (by simpa[<-hlen]using hi)]at y;exact y
   refine⟨F0.wS,F0.wM,F0.wB,by simp[hlen],λi o p y1 y2=>?_,λi j o o' m y1 y2 y3 y4 y5 y6=>?_⟩
   .rcases sp i o y1 with y1|⟨hi,rfl⟩
    .have hi:i<sl.length:=by have:=(List.getElem?_eq_some_iff.mp y1).1;simpa using this
     exact F0.sl i o p y1 (lo i p hi y2)
    .rw[List.getElem?_append_right (by simpa[<-hlen]using hi)]at y2;have:=List.mem_of_getElem? y2;exact(List.mem_replicate.mp this).2
   .rcases sp i o y1 with y1|⟨hi,rfl⟩
    .rcases sp j o' y2 with y2|⟨hj,rfl⟩
     .have hi:i<sl.length:=by have:=(List.getElem?_eq_some_iff.mp y1).1;simpa using this
      have hj:j<sl.length:=by have:=(List.getElem?_eq_some_iff.mp y2).1;simpa using this
      exact F0.inj i j o o' m y1 y2 y3 y4 (lo i _ hi y5) (lo j _ hj y6)
     .cases y4
    .cases y3
  have fin:∀{g:Fl} {af:Fr},exs (run F w n) w fn.body (eT fn sl)=.ok g af->∃g' bV M' h' S',Ev.exs (Ev.run F w n) w fn.body (Ev.eT fn ds) h=.ok (g',bV) h'/\iC h' S' g g'/\Tk B h S h' S'/\nT h' S' sl ds (outs fn.np af):=λ{g af} y=>by
   obtain⟨g',bV,M',h',S',c1,c2,c3⟩:=lJ HP fn.body y f1;refine⟨g',bV,M',h',S',c1,c2,⟨c3.tr.len,λm y1 y2=>c3.tr.keep m y1 y2,c3.tr.sub,λm q=>?_⟩,?_⟩
   .rcases c3.tr.new m q with q|q|q
    .exact .inl q
    .exact .inr q
    .exact absurd q.1 q.2
   .unfold outs;rw[<-hl];refine sG (B:=B) (h0:=h) (S0:=S) hlen λa s d e1 e2=>?_;have ha:a<sl.length:=(List.getElem?_eq_some_iff.mp e1).1;have h0:(eT fn sl)[a]?=some (some s):=by unfold eT;rw[List.getElem?_append_left (by simpa using ha)];simp[e1]
    have hlk:locked af a=yU (some s):=by rw[c3.lk a];unfold locked;rw[h0]
    refine⟨F0.sl a _ _ (by simp[e1]) (by simp[e2]),hlk,λhk=>?_⟩;have hr:=c3.rf a (by unfold locked;rw[h0];exact hk);have hd:(Ev.eT fn ds)[a]?=some (some d):=by unfold Ev.eT;rw[List.getElem?_append_left (by simpa[<-hlen]using ha)];simp[e2]
    rw[hd]at hr;cases y2:af[a]? with
    |none=>unfold locked at hlk;rw[y2]at hlk;rw[<-hlk]at hk;cases hk
    |some o=>
     have sr:=c3.f.sl a _ _ y2 hr;unfold locked at hlk;rw[y2,hk]at hlk;rcases o with _|s'
     .cases hlk
     .cases s' with
      |val v=>cases hlk
      |own l=>cases hlk
      |bor l=>obtain⟨m,es,e,_,k1,k2⟩:=sr;cases e;exact⟨m,es,l,_,rfl,k1,k2,rfl,rfl⟩
      |ro l=>obtain⟨m,es,e,_,k1,k2⟩:=sr;cases e;exact⟨m,es,l,_,rfl,k1,k2,rfl,rfl⟩
  simp only[Ev.run,z];have hl':ds.length=fn.np:=by omega
  rw[if_pos hl'];split at e
  .rename_i v' af y;cases e;obtain⟨g',bV,M',h',S',c1,c2,c3,c4⟩:=fin y;simp only[iC]at c2;obtain⟨d,rfl,c2⟩:=c2;exact⟨d,h',S',by simp only[Ev.endOf,c1,Ev.ak],c2,c3,c4⟩
  .rename_i af y;cases e;obtain⟨g',bV,M',h',S',c1,c2,c3,c4⟩:=fin y;simp only[iC]at c2;subst c2;exact⟨.aS,h',S',by simp only[Ev.endOf,c1,Ev.ak],rfl,c3,c4⟩
  .obtain⟨rfl,l,k,rfl,e1,rfl,rfl⟩:=NI e;obtain⟨d,rfl⟩:∃d,ds=[d]:=by cases ds with|nil=>simp at hlen|cons d ds=>cases ds with|nil=>exact⟨d,rfl⟩|cons _ _=>simp at hlen
   obtain⟨d',ed,q⟩:=F0.sl 0 _ _ rfl rfl;cases ed;have r:=NH (w:=w) (n:=n) z q e1;simp only[Ev.run,z]at r;rw[if_pos hl']at r;refine⟨_,_,λm=>S m\/m=h.length,r,⟨h.length,rfl,.inr rfl,by simp⟩,⟨by simp,λm y1 _=>by rw[List.getElem?_append_left y1],λm q=>.inl q,λm q=>?_⟩,?_⟩
   .rcases q with q|rfl
    .exact .inl q
    .exact .inr ⟨Nat.le_refl _,by simp⟩
   .exact⟨d,[],rfl,rfl⟩
end Pv
namespace Pv
open Ev (D O Hh Fn)
theorem JP{F:List Fn}{w n f:Nat}{ns:List Int}(e:run F w n f [.val (.bP (ns.map V.int))]=some (.bl true,[])):∃h',Ev.run F w n f [.ref 0] [.bP (ns.map D.int)]=.ok (.bl true) h':=by
 have F0:bD (λ_=>False) (λ_=>False) [O.bP (ns.map D.int)] (λm=>m=0) ([Sl.val (.bP (ns.map V.int))].map some) ([D.ref 0].map some):=by
  refine⟨λm q=>⟨by subst q;simp,id,id⟩,λm q=>q.elim,λm q=>q.elim,rfl,λi o p y1 y2=>?_,λi j o o' m y1 y2 y3 y4 y5 y6=>?_⟩
  .cases i with
   |zero=>
    simp at y1 y2;subst y1 y2;refine⟨.ref 0,rfl,?_⟩;simp only[Rep];exact⟨0,_,rfl,rfl,rfl,aq.map (f:=V.int) (g:=D.int) (λ_=>by simp[Rep]) ns⟩
   |succ i=>simp at y1
  .cases i with
   |zero=>simp at y1;subst y1;cases y3
   |succ i=>simp at y1
 obtain⟨d,h',S',a,b,_,_⟩:=Cv F w n f _ _ _ e _ _ _ _ F0;simp only[Rep]at b;subst b;exact⟨h',a⟩
end Pv
namespace Pv
open Ev (D bU bN TY BI ME T E Es Eo It S Ss Fn big deep b2i rep cH ef bL aT cut cV eO slots)
theorem bK{n:Nat}(h:n<=100000):n<=big:=Nat.le_trans h (by decide)
section
variable{i j:Int}{a b:List Nat}{x y:List V}{d e:V}{m n:Nat}{k l:Bool}
theorem dg(h:x.length<=big):eG x=some (.lst x):=by simp[eG,h]
theorem iR(h:x.length<=big):iP x=some (.tup x):=by simp[iP,h]
@[simp] theorem uK:eG []=some (.lst []):=dg (bK (by simp))
@[simp] theorem Q8:iP []=some (.tup []):=iR (bK (by simp))
@[simp] theorem Hs{a}:eG [a]=some (.lst [a]):=dg (bK (by simp))
@[simp] theorem Aj{a}:iP [a]=some (.tup [a]):=iR (bK (by simp))
@[simp] theorem Ht{a b}:eG [a,b]=some (.lst [a,b]):=dg (bK (by simp))
@[simp] theorem uL{a b}:iP [a,b]=some (.tup [a,b]):=iR (bK (by simp))
@[simp] theorem Hu{a b c}:iP [a,b,c]=some (.tup [a,b,c]):=iR (bK (by simp))
@[simp] theorem fj:bS .add (.int i) (.int j)=some (.int (i+j)):=nd rfl
theorem jY(h:a.length+b.length<=100000):bS .add (.str a) (.str b)=some (.str (a++b)):=by delta bS;dsimp only;simp[bK h]
theorem EI(h:x.length+y.length<=100000):bS .add (.tup x) (.tup y)=some (.tup (x++y)):=by delta bS;dsimp only;simp[bK h]
theorem mL(h:x.length+y.length<=100000):bS .add (.lst x) (.lst y)=some (.lst (x++y)):=by delta bS;dsimp only;simp[dg (bK (show(x++y).length<=100000 by simpa using h))]
@[simp] theorem wj:bS .sub (.int i) (.int j)=some (.int (i - j)):=nd rfl
@[simp] theorem qg:bS .mul (.int i) (.int j)=if cH i j then some (.int (i*j))else none:=nd rfl
theorem EJ(h0:0<=j)(h1:j<=1000)(h2:a.length<=1000):bS .mul (.str a) (.int j)=some (.str (rep j.toNat a)):=by delta bS;dsimp only;simp[h0,h1,h2]
theorem EK(h0:0<=j)(h1:j<=1000)(h2:x.length<=1000)(h3:(rep j.toNat x).length<=100000):bS .mul (.lst x) (.int j)=some (.lst (rep j.toNat x)):=by delta bS;dsimp only;simp[h0,h1,h2,dg (bK h3)]
@[simp] theorem EL:bS .fdiv (.int i) (.int j)=if 0<j/\j<1073741824 then some (.int (i / j))else none:=nd rfl
@[simp] theorem JQ:bS .mod (.int i) (.int j)=if 0<j then some (.int (i % j))else none:=nd rfl
@[simp] theorem wk:cop .ne d e=(eg deep d e).map (!·):=nd rfl
@[simp] theorem N7:cop .isin d e=isin d e:=nd rfl
@[simp] theorem Cw:cop .g7 d e=(isin d e).map (!·):=nd rfl
@[simp] theorem JR:mem d []=some false:=nd rfl
@[simp] theorem mem_cons:mem d (e :: x)=(eg deep e d).bind λb=>(mem d x).bind λc=>some (b ||c):=nd rfl
@[simp] theorem N8:eg (n+1) (.int i) (.int j)=some (decide (i=j)):=by show some (i==j)=_;by_cases h:i=j<;>simp[h]
@[simp] theorem N9:eg (n+1) (.str a) (.str b)=some (decide (a=b)):=by show some (a==b)=_;by_cases h:a=b<;>simp[h]
@[simp] theorem Oa:eg (n+1) (.bl k) (.bl l)=some (decide (k=l)):=by cases k<;>cases l<;>rfl
@[simp] theorem Yb:eg (n+1) (.str a) (.int i)=some false:=nd rfl
@[simp] theorem Yc:eg (n+1) (.int i) (.str a)=some false:=nd rfl
@[simp] theorem Yd:eg (n+1) (.tup x) (.tup y)=cQ (eg n) x y:=nd rfl
@[simp] theorem sH:eg deep (.int i) (.int j)=some (decide (i=j)):=N8
@[simp] theorem yZ:eg deep (.str a) (.str b)=some (decide (a=b)):=N9
@[simp] theorem JU:eg deep (.bl k) (.bl l)=some (decide (k=l)):=Oa
@[simp] theorem JV:eg deep (.tup x) (.tup y)=cQ (eg (18+1)) x y:=nd rfl
@[simp] theorem W8{f:V->V->Option Bool}:cQ f [] []=some true:=nd rfl
@[simp] theorem Ye{f:V->V->Option Bool}:cQ f [] (d :: x)=some false:=nd rfl
@[simp] theorem Yg{f:V->V->Option Bool}:cQ f (d :: x) []=some false:=nd rfl
@[simp] theorem Wa{f:V->V->Option Bool}:cQ f (d :: x) (e :: y)=(f d e).bind λb=>(cQ f x y).bind λc=>some (b&&c):=nd rfl
theorem y9{α:Type}[DecidableEq α]{f:V->V->Option Bool}{g:α->V}(h:∀a b,f (g a) (g b)=some (decide (a=b))):∀l m:List α,cQ f (l.map g) (m.map g)=some (decide (l=m))
 |[],[]=>by simp
 |[],_ :: _=>by simp
 |_ :: _,[]=>by simp
 |a :: l,b :: m=>by simp[h,y9 h l m]
@[simp] theorem sI:dY (.tup x) (.int i)=bL x i:=nd rfl
@[simp] theorem lK:dY (.str a) (.int i)=(bL a i).map λc=>.str [c]:=nd rfl
@[simp] theorem sJ:dY (.lst x) (.int i)=bL x i:=nd rfl
@[simp] theorem iD{lo hi:Option Int}:gT (.str a) lo hi=some (.str (cut a lo hi)):=nd rfl
theorem len_str(h:a.length<=100000):cX .len [.str a]=some (.int a.length):=by delta cX;dsimp only;simp[bK h]
@[simp] theorem lM:cX .len [.lst x]=some (.int x.length):=nd rfl
@[simp] theorem za:cX .len [.bP x]=some (.int x.length):=nd rfl
@[simp] theorem JX:cX .all [.lst x]=(boolsOf x).map λbs=>.bl (bs.all id):=nd rfl
@[simp] theorem JY:cX .sum [.lst x]=(intsOf x).map λis=>.int is.sum:=nd rfl
@[simp] theorem wm:cX .min [.int i,.int j]=some (.int (if j<i then j else i)):=nd rfl
@[simp] theorem sL:toT (.lst x)=iP x:=nd rfl
theorem Ob(h0:0<=j)(h1:j<=100000):er [.int j]=some (range 0 j.toNat):=by
 simp only[er];rw[if_pos ⟨by omega,by omega⟩]
theorem Wb(h0:-100000<=i)(h1:i<=100000)(h2:-100000<=j)(h3:j<=100000):er [.int i,.int j]=some (range i (j - i).toNat):=by
 simp only[er];rw[if_pos ⟨by omega,by omega,by omega,by omega⟩]
theorem Ak{α:Type}(g:α->Int)(l:List α):intsOf (l.map λx=>.int (g x))=some (l.map g):=by induction l<;>simp[intsOf, *]
theorem qO{α:Type}(g:α->List Nat)(l:List α):strsOf (l.map λx=>.str (g x))=some (l.map g):=by induction l<;>simp[strsOf, *]
theorem uh:∀l:List (List Nat),cV [] l=l.flatten
 |[]=>rfl
 |[s]=>by simp[cV]
 |s :: t :: r=>by simp[cV,uh (t :: r)]
@[simp] theorem Yh:truthy (.bl k)=k:=nd rfl
@[simp] theorem W9:truthy (.lst x) = !x.isEmpty:=nd rfl
theorem uM{l:List (List Nat)}(h:l.flatten.length<=100000):fN .join (.str []) [.lst (l.map V.str)]=some (.str l.flatten):=by
 have hs:=qO (λx=>x) l;have:(l.map (·.length)).sum<=big:=bK (by rw[<-List.length_flatten];exact h);simp only[List.map_id']at hs;have hs':strsOf (l.map V.str)=some l:=by simpa using qO (λx=>x) l
 delta fN;dsimp only;simp[pP,hs',uh,this]
end
theorem kE{α:Type}{f:V->Option (Option V)}(e:α->V)(g:α->V)(l:List α)(h:∀a∈l,f (e a)=some (some (g a))):cW f (l.map e)=some (l.map g):=by
 induction l with
 |nil=>rfl
 |cons a l ih=>simp only[List.map_cons,cW,h a (by simp),ih λu hu=>h u (by simp[hu]),Option.bind];rfl
theorem jZ{α:Type}{f:V->Option (Option V)}(e:α->V)(p:α->Bool)(g:α->V)(l:List α)(h:∀a∈l,f (e a)=some (if p a then some (g a)else none)):cW f (l.map e)=some ((l.filter p).map g):=by
 induction l with
 |nil=>rfl
 |cons a l ih=>
  simp only[List.map_cons,cW,h a (by simp),ih λu hu=>h u (by simp[hu]),Option.bind];cases z:p a<;>simp[z]
noncomputable def Wp{α:Type}(r:R α)(Q:α->Fr->Prop):Prop:=∃a h,r=.ok a h/\Q a h
section
variable{α β:Type}{Q Q':α->Fr->Prop}
@[simp] theorem qP(a:α)(h:Fr):Wp (.ok a h) Q=Q a h:=propext ⟨λ⟨_,_,e,q⟩=>by cases e;exact q,λq=>⟨_,_,rfl,q⟩⟩
@[simp] theorem Yi:Wp (.bad:R α) Q=False:=propext ⟨λq=>(by obtain⟨_,_,e,_⟩:=q;cases e),False.elim⟩
@[simp] theorem wp_bind(r:R β)(f:β->Fr->R α):Wp (r.bind f) Q=Wp r λa h=>Wp (f a h) Q:=by cases r<;>simp
theorem Wp.mono{r:R α}(h:Wp r Q)(f:∀a h,Q a h->Q' a h):Wp r Q':=by
 obtain⟨a,h',e,q⟩:=h;exact⟨a,h',e,f a h' q⟩
end
noncomputable def fl(I Q:Fr->Prop)(X:V->Fr->Prop):Fl->Fr->Prop
 |.nx,fr=>I fr
 |.ct,fr=>I fr
 |.bk,fr=>Q fr
 |.ret v,fr=>X v fr
section
variable{I J:Fr->Prop}{X:V->Fr->Prop}{fr:Fr}{v:V}
@[simp] theorem fU:fl I J X .nx fr=I fr:=nd rfl
end
theorem iE{α:Type}{e:α->V}{f:V->Fr->R Fl}{Q:Fl->Fr->Prop}(I:List α->List α->Fr->Prop)(turn:∀p a l fr,I p (a :: l) fr->Wp (f (e a) fr) (fl (I (p++[a]) l) (Q .nx) λv=>Q (.ret v)))(fin:∀p fr,I p [] fr->Q .nx fr):∀(l p:List α) (fr:Fr),I p l fr->Wp (forL f (l.map e) fr) Q
 |[],p,fr,i=>by simp only[List.map_nil,forL,qP];exact fin p fr i
 |a :: l,p,fr,i=>by
  simp only[List.map_cons,forL,wp_bind];refine(turn p a l fr i).mono λg h2 q=>?_;cases g with
  |nx=>exact iE I turn fin l _ h2 q
  |ct=>exact iE I turn fin l _ h2 q
  |bk=>exact(qP _ _).mpr q
  |ret x=>exact(qP _ _).mpr q
theorem sM{f:V->Fr->R Fl}{Q:Fl->Fr->Prop}{lo:Int}{N:Nat}(I:Nat->Fr->Prop)(turn:∀(k:Nat) fr,k<N->I k fr->Wp (f (.int (lo+(k:Nat))) fr) (fl (I (k+1)) (Q .nx) λv=>Q (.ret v)))(fin:∀fr,I N fr->Q .nx fr){fr:Fr}(i:I 0 fr):Wp (forL f (range lo N) fr) Q:=by
 have h:=iE (e:=λ(k:Nat)=>V.int (lo+k)) (f:=f) (Q:=Q) (λp l fr=>∃k,k<=N/\p=List.range k/\p++l=List.range N/\I k fr)
  (λp a l fr ⟨k,hk,hp,hl,q⟩=>by
   subst hp;have hlen:=congrArg List.length hl;simp at hlen;have ha:a=k:=by
    have:=congrArg (·[k]?) hl;simp[List.getElem?_append_right]at this;rw[List.getElem?_range (by omega)]at this;simpa using this
   subst ha;refine(turn a fr (by omega) q).mono λg h2 z=>?_;cases g with
   |nx=>exact⟨a+1,by omega,by simp[List.range_succ],by simpa using hl,z⟩
   |ct=>exact⟨a+1,by omega,by simp[List.range_succ],by simpa using hl,z⟩
   |bk=>exact z
   |ret x=>exact z)
  (λp fr ⟨k,hk,hp,hl,q⟩=>by
   subst hp;have hlen:=congrArg List.length hl;simp at hlen;subst hlen;exact fin fr q) (List.range N) [] fr ⟨0,Nat.zero_le _,rfl,by simp,i⟩
 exact h
theorem oh{t:Fr->R Bool}{f:Fr->R Fl}{Q:Fl->Fr->Prop}(I:Nat->Fr->Prop)(turn:∀k fr,I k fr->Wp (t fr) λb af=>if b then Wp (f af) (fl (λao=>∃j,j<k/\I j ao) (Q .nx) λv=>Q (.ret v))else Q .nx af):∀(n k:Nat) (fr:Fr),k<n->I k fr->Wp (eL t f n fr) Q
 |0,k,fr,hk,_=>by omega
 |n+1,k,fr,hk,i=>by
  simp only[eL,wp_bind];refine(turn k fr i).mono λb af q=>?_;cases b with
  |false=>simpa using q
  |true=>
   simp only[if_true,wp_bind]at q ⊢;refine q.mono λg ao z=>?_;cases g with
   |nx=>obtain⟨j,hj,z⟩:=z;exact oh I turn n j ao (by omega) z
   |ct=>obtain⟨j,hj,z⟩:=z;exact oh I turn n j ao (by omega) z
   |bk=>exact(qP _ _).mpr z
   |ret x=>exact(qP _ _).mpr z
noncomputable def fin(fn:Fn)(ds:List Sl):R Fl->Option (V×List (List V))
 |.ok (.ret v) fr=>some (v,outs fn.np fr)
 |.ok .nx fr=>some (.aS,outs fn.np fr)
 |_=>ug fn ds
@[simp] theorem JZ{fn:Fn}{ds:List Sl}{v:V}{fr:Fr}:fin fn ds (.ok (.ret v) fr)=some (v,outs fn.np fr):=nd rfl
theorem run_eq{F:List Fn}{w n f:Nat}{ds:List Sl}{fn:Fn}(hf:F[f]?=some fn)(hl:ds.length=fn.np):run F w (n+1) f ds=fin fn ds (exs (run F w n) w fn.body (eT fn ds)):=by
 simp only[run,hf,hl,if_true];cases exs (run F w n) w fn.body (eT fn ds)with
 |bad=>rfl
 |ok g fr=>cases g<;>rfl
theorem cy{F:List Fn}{w n f:Nat}{ds:List Sl}{fn:Fn}{v:V}{os:List (List V)}(hf:F[f]?=some fn)(hl:ds.length=fn.np)(q:Wp (exs (run F w n) w fn.body (eT fn ds)) λg fr=>g=.ret v/\outs fn.np fr=os):run F w (n+1) f ds=some (v,os):=by
 rw[run_eq hf hl];obtain⟨g,fr,e,rfl,rfl⟩:=q;rw[e];rfl
section
variable{P:aO}{w:Nat}{fr:Fr}{k:Bool}{a b c:E}{es:Es}{ss sa sb:Ss}{st:S}{lo hi:Eo}{it:It}
@[simp] theorem Wc{d:D}:ev P k (.c d) fr=R.of (ofD d) fr:=by rw[ev]
@[simp] theorem Wd{i:Nat}:ev P k (.v i) fr=R.of (mF k fr i) fr:=by rw[ev]
@[simp] theorem Oc:ev P k (.tup es) fr=(cg P false es fr).bind λds af=>R.of (iP ds) af:=by rw[ev]
@[simp] theorem Od:ev P k (.lst es) fr=(cg P false es fr).bind λds af=>R.of (eG ds) af:=by rw[ev]
@[simp] theorem Oe{o:bU}:ev P k (.bin o a b) fr=(ev P (kf a (bJ b)) a fr).bind λx af=>(ev P true b af).bind λy ao=>R.of (bS o x y) ao:=by rw[ev]
@[simp] theorem Of{o:bN}:ev P k (.cmp o a b) fr=(ev P (kf a (bJ b)) a fr).bind λx af=>(ev P true b af).bind λy ao=>R.of ((cop o x y).map .bl) ao:=by rw[ev]
noncomputable def Yj:V->Fr->R V:=λx h1=>match x with
 |.bl b=>.ok (.bl (!b)) h1
 |_=>.bad
@[simp] theorem Q9:ev P k (.nt a) fr=(ev P true a fr).bind Yj:=by rw[ev];rfl
noncomputable def We:V->Fr->R V:=λx h1=>match x with
 |.int i=>.ok (.int (-i)) h1
 |_=>.bad
@[simp] theorem Og:ev P k (.neg a) fr=(ev P true a fr).bind We:=by rw[ev];rfl
noncomputable def TQ(r:Fr->R V):V->Fr->R V:=λx h1=>match x with
 |.bl true=>r h1
 |.bl false=>.ok (.bl false) h1
 |_=>.bad
@[simp] theorem Cy{k:Bool}{r:Fr->R V}:TQ r (.bl k) fr=if k then r fr else .ok (.bl false) fr:=by cases k<;>rfl
@[simp] theorem Hv:ev P k (.an a b) fr=(ev P true a fr).bind (TQ λh1=>ev P k b h1):=by rw[ev];rfl
@[simp] theorem Oh:ev P k (.lg a b c) fr=(aI P a fr).bind λt af=>if t then ev P k b af else ev P k c af:=by rw[ev]
theorem Oi:ev P k (.kq a b) fr=(ev P (kf a (bJ b)) a fr).bind λx af=>(ev P true b af).bind λy ao=>R.of (qf x y) ao:=by rw[ev]
theorem Oj:ev P k (.kr a b c) fr=(ev P (kf a (bJ b++bJ c)) a fr).bind λx af=>(ev P (kf b (bJ c)) b af).bind λy ao=>(ev P false c ao).bind λz bI=>R.of (nQ x y z) bI:=by rw[ev]
@[simp] theorem Ra:ev P k (.ix a b) fr=(ev P (kf a (bJ b)) a fr).bind λx af=>(ev P true b af).bind λy ao=>R.of (dY x y) ao:=by rw[ev]
@[simp] theorem Rb:ev P k (.sl a lo hi) fr=(ev P (kf a (kP lo++kP hi)) a fr).bind λx af=>(gk P lo af).bind λl ao=>(gk P hi ao).bind λu bI=>R.of (gT x l u) bI:=by rw[ev]
theorem Ol:ev P k (.m9 a) fr=(ev P true a fr).bind λx af=>R.of (sC x) af:=by rw[ev]
@[simp] theorem Rc{f:Nat}:ev P k (.cl f es) fr=(gm P es fr).bind λas af=>fy P f as af:=by rw[ev]
@[simp] theorem Rf{g:BI}:ev P k (.bi g es) fr=(cg P true es fr).bind λds af=>R.of (cX g ds) af:=by rw[ev]
noncomputable def EM(m:ME)(i:Nat):List V->Fr->R V:=λds af=>match af[i]? with
 |some (some (.own l))=>match kC m l ds with
  |some (v,l')=>.ok v (af.set i (some (.own l')))
  |none=>.bad
 |some (some (.bor l))=>match kC m l ds with
  |some (v,l')=>.ok v (af.set i (some (.bor l')))
  |none=>.bad
 |_=>.bad
theorem Om{m:ME}{i:Nat}(hm:jg m=true):ev P k (.me m (.v i) es) fr=if (lent fr i).isSome then (cg P (Cb m) es fr).bind (EM m i)else .bad:=by
 rw[ev,if_pos hm];unfold lG;cases z:(lent fr i).isSome<;>simp[z]<;>rfl
theorem Oo{m:ME}(hm:jg m=false):ev P k (.me m a es) fr=(ev P (kf a (gu es)) a fr).bind λx af=>(cg P true es af).bind λds ao=>R.of (fN m x ds) ao:=by rw[ev,hm];rfl
noncomputable def kF(P:aO)(elt:E)(t:T)(cond:Eo)(fr:Fr):V->Option (Option V):=λd=>match bC t d (uf fr)with
 |none=>none
 |some ao=>match iM P cond ao with
  |.ok c _=>if c then (match ev P false elt ao with|.ok x _=>some (some x)|.bad=>none)else some none
  |.bad=>none
@[simp] theorem r8{elt:E}{t:T}{cond:Eo}:ev P k (.comp elt t it cond) fr=(cF P true it fr).bind λs af=>if undef t af then R.of ((cW (kF P elt t cond af) s).bind eG) af else .bad:=by rw[ev];rfl
@[simp] theorem Oq:ev P k (.eF it) fr=(cF P true it fr).bind λs af=>R.of (eG s) af:=by rw[ev]
@[simp] theorem J0{kvs:List (D×D)}:ev P k (.nH kvs a) fr=(ev P true a fr).bind λx af=>R.of (iL x kvs) af:=by rw[ev]
@[simp] theorem Ot:ev P k (.iY a) fr=(ev P true a fr).bind λx af=>R.of (toT x) af:=by rw[ev]
@[simp] theorem J1:cg P k .nil fr=.ok [] fr:=by rw[cg]
@[simp] theorem EN:cg P k (.cons a es) fr=(ev P (k&&kf a (gu es)) a fr).bind λd af=>(cg P k es af).bind λds ao=>.ok (d :: ds) ao:=by rw[cg]
@[simp] theorem J2:gm P .nil fr=.ok [] fr:=by rw[gm]
noncomputable def Am(P:aO)(a:E)(es:Es)(fr:Fr):Option Nat->R (List (Nat ⊕ V))
 |some i=>(gm P es fr).bind λr af=>.ok (.inl i :: r) af
 |none=>(ev P false a fr).bind λd af=>(gm P es af).bind λr ao=>.ok (.inr d :: r) ao
@[simp] theorem Ao{i:Nat}:Am P a es fr (some i)=(gm P es fr).bind λr af=>.ok (.inl i :: r) af:=nd rfl
@[simp] theorem Aq:Am P a es fr none=(ev P false a fr).bind λd af=>(gm P es af).bind λr ao=>.ok (.inr d :: r) ao:=nd rfl
@[simp] theorem wo:gm P (.cons a es) fr=Am P a es fr (lG fr a):=by rw[gm];cases lG fr a<;>rfl
@[simp] theorem Ou:gk P .no fr=.ok none fr:=by rw[gk]
@[simp] theorem J3:gk P (.yes a) fr=(ev P true a fr).bind λd af=>R.of ((intOf d).map some) af:=by rw[gk]
@[simp] theorem Ov:iM P .no fr=.ok true fr:=by rw[iM]
@[simp] theorem J4:iM P (.yes a) fr=aI P a fr:=by rw[iM]
@[simp] theorem wu:aI P (.an a b) fr=(aI P a fr).bind λk af=>if k then aI P b af else .ok false af:=by rw[aI]
@[simp] theorem zb:aI P (.orr a b) fr=(aI P a fr).bind λk af=>if k then .ok true af else aI P b af:=by rw[aI]
@[simp] theorem Ow:aI P (.nt a) fr=(aI P a fr).bind λk af=>.ok (!k) af:=by rw[aI]
noncomputable def Ox:V->Fr->R Bool:=λx af=>.ok (truthy x) af
@[simp] theorem J5{x:V}:Ox x fr=.ok (truthy x) fr:=nd rfl
@[simp] theorem J6:cF P k (.seq a) fr=(src k fr a (ev P k a fr)).bind λx af=>R.of (e8 x) af:=by rw[cF]
@[simp] theorem J7:cF P k (.fE es) fr=(cg P true es fr).bind λds af=>R.of (er ds) af:=by rw[cF]
@[simp] theorem J8:cF P k (.rev a) fr=(ev P true a fr).bind λx af=>R.of ((Ah x).map λs=>s.reverse) af:=by rw[cF]
noncomputable def Oz(i:Nat)(af:Fr):V->R Fl
 |.lst l=>(R.of (put af i (.own l)) af).bind λao _=>.ok .nx ao
 |_=>.bad
@[simp] theorem EO{i:Nat}{l:List V}:Oz i fr (.lst l)=(R.of (put fr i (.own l)) fr).bind λao _=>.ok .nx ao:=nd rfl
@[simp] theorem Cz{i:Nat}:ex P w (.set i a) fr=(ev P false a fr).bind λx af=>if isNew a then Oz i af x else (R.of (put af i (.val x)) af).bind λao _=>.ok .nx ao:=by
 rw[ex];rfl
@[simp] theorem OA:ex P w (.exp a) fr=(ev P true a fr).bind λ_ af=>.ok .nx af:=by rw[ex]
@[simp] theorem OB:ex P w (.ret a) fr=(ev P false a (fS fr)).bind λx af=>.ok (.ret x) af:=by rw[ex]
@[simp] theorem OC:ex P w (.iff a sa sb) fr=(aI P a fr).bind λk af=>if k then exs P w sa af else exs P w sb af:=by rw[ex]
noncomputable def turnF(P:aO)(w:Nat)(t:T)(b:Ss):V->Fr->R Fl:=λd ao=>match bC t d ao with
 |some bI=>exs P w b bI
 |none=>.bad
@[simp] theorem vF{t:T}:ex P w (.for t it ss) fr=(cF P false it (mE (itv it) fr)).bind λs af=>forL (turnF P w t ss) s af:=by rw[ex];rfl
theorem J9{i x y f:Nat}:ex P w (.jw i x y f) fr=if i≠y/\x≠i/\i<fr.length/\x<fr.length then (cF P false (.seq (.v y)) (mE [y] fr)).bind λvs af=>(R.of (mG P f vs []) af).bind λk ao=>(R.of (put ao i (.val (.dct k))) ao).bind λbI _=>(R.of (kD bI x vs) bI).bind λgX _=>.ok .nx gX else .bad:=by rw[ex]
@[simp] theorem OD:ex P w (.ly a ss) fr=eL (λao=>aI P a ao) (λao=>exs P w ss ao) w fr:=by rw[ex]
@[simp] theorem Ka:exs P w .nil fr=.ok .nx fr:=by rw[exs]
noncomputable def Rg(P:aO)(w:Nat)(ss:Ss):Fl->Fr->R Fl:=λp h1=>match p with
 |.nx=>exs P w ss h1
 |p=>.ok p h1
@[simp] theorem ER:exs P w (.cons st ss) fr=(ex P w st fr).bind (Rg P w ss):=by rw[exs];rfl
end
theorem om{P:aO}{f:Nat}{vs:List V}{fr:Fr}{v:V}(h:P f (vs.map .val)=some (v,[])):fy P f (vs.map .inr) fr=.ok v fr:=by
 have h1:∀vs:List V,bW (vs.map .inr)=[]:=λvs=>by induction vs<;>simp[bW, *]
 have h2:∀vs:List V,args fr (vs.map .inr)=some (vs.map .val):=λvs=>by induction vs<;>simp[args, *]
 simp[fy,h1,h2,h,back]
section
variable{P:aO}{f:Nat}{fr:Fr}{a b c d v:V}
theorem cI(h:P f [.val a]=some (v,[])):fy P f [.inr a] fr=.ok v fr:=om (vs:=[a]) h
theorem call2(h:P f [.val a,.val b]=some (v,[])):fy P f [.inr a,.inr b] fr=.ok v fr:=om (vs:=[a,b]) h
theorem fC(h:P f [.val a,.val b,.val c]=some (v,[])):fy P f [.inr a,.inr b,.inr c] fr=.ok v fr:=om (vs:=[a,b,c]) h
end
end Pv
namespace Pv
open Ev (D bU bN TY BI ME T E Es Eo It S Ss Fn big deep b2i rep cH ef bL aT cut cV eO slots)
section
variable{fr:Fr}{i j:Nat}{k:Bool}{s:Sl}{v u:V}{l:List V}{o:Option Sl}
noncomputable def CB(k:Bool):Option (Option Sl)->Option V
 |some (some (.val v))=>some v
 |some (some (.own l))=>if k then some (.lst l)else none
 |some (some (.bor l))=>if k then some (.lst l)else none
 |some (some (.ro l))=>if k then some (.lst l)else none
 |_=>none
@[simp] theorem Kc:mF k fr i=CB k fr[i]?:=by unfold mF CB;split<;>simp_all
@[simp] theorem Xa:CB k (some (some (.val v)))=some v:=nd rfl
@[simp] theorem Xb:CB k (some (some (.own l)))=if k then some (.lst l)else none:=nd rfl
@[simp] theorem Rh{r:R V}:src k fr (.v i) r=R.of (vR k fr i) fr:=nd rfl
noncomputable def OE:Option (Option Sl)->Option Sl
 |some (some s)=>s.lend
 |_=>none
@[simp] theorem zc:lent fr i=OE fr[i]?:=by unfold lent OE;split<;>simp_all
@[simp] theorem Xc:OE (some (some (.own l)))=some (.bor l):=nd rfl
noncomputable def zd(fr:Fr)(i:Nat)(s:Sl):Option (Option Sl)->Option Fr
 |some (some (.bor _))=>none
 |some (some (.ro _))=>none
 |_=>some (fr.set i (some s))
@[simp] theorem CC:put fr i s=zd fr i s fr[i]?:=by unfold put zd;split<;>simp_all
@[simp] theorem Xd:zd fr i s (some (some (.val v)))=some (fr.set i (some s)):=nd rfl
@[simp] theorem Xe:zd fr i s (some (some (.own l)))=some (fr.set i (some s)):=nd rfl
@[simp] theorem Ar{l:List Nat}{x:List V}:bC (.many l) (.tup x) fr=cU l x fr:=nd rfl
@[simp] theorem As:cU [] [] fr=some fr:=nd rfl
@[simp] theorem xQ{l:List Nat}{x:List V}:cU (i :: l) (v :: x) fr=(put fr i (.val v)).bind (cU l x):=nd rfl
@[simp] theorem Wf:Sl.dD (.val v)=.val v:=nd rfl
@[simp] theorem Wg:Sl.dD (.own l)=.val (.lst l):=nd rfl
noncomputable def gx(m:ME)(i:Nat)(ds:List V)(fr:Fr):Option (Option Sl)->R V
 |some (some (.own l))=>match kC m l ds with
  |some (v,l')=>.ok v (fr.set i (some (.own l')))
  |none=>.bad
 |some (some (.bor l))=>match kC m l ds with
  |some (v,l')=>.ok v (fr.set i (some (.bor l')))
  |none=>.bad
 |_=>.bad
@[simp] theorem Kd{m:ME}{ds:List V}:EM m i ds fr=gx m i ds fr fr[i]?:=by unfold EM gx;split<;>simp_all<;>rfl
theorem jN{d:V}(h:l.length<100000):gx .append i [d] fr (some (some (.own l)))=.ok .aS (fr.set i (some (.own (l++[d])))):=by
 simp[gx,kC,Nat.lt_of_lt_of_le h (show 100000<=big by decide)]
theorem Ke{d:V}(h:l.length<100000):gx .append i [d] fr (some (some (.bor l)))=.ok .aS (fr.set i (some (.bor (l++[d])))):=by
 simp[gx,kC,Nat.lt_of_lt_of_le h (show 100000<=big by decide)]
theorem ze{d:List V}(h:l.length+d.length<=100000):gx .extend i [.lst d] fr (some (some (.own l)))=.ok .aS (fr.set i (some (.own (l++d)))):=by
 simp[gx,kC,bK h]
theorem lN:gx .pop i [] fr (some (some (.own (l++[v]))))=.ok v (fr.set i (some (.own l))):=by
 simp[gx,kC]
theorem Kf:gx .pop i [] fr (some (some (.bor (l++[v]))))=.ok v (fr.set i (some (.bor l))):=by
 simp[gx,kC]
end
noncomputable def vo(o:Option Sl):Prop:=o=none\/∃y,o=some (.val y)
theorem vo.none:vo none:=.inl rfl
theorem vo.val{v:V}:vo (some (.val v)):=.inr ⟨v,rfl⟩
theorem OF{fr:Fr}{i:Nat}{s:Sl}{b:Option Sl}(h:vo b):zd fr i s (some b)=some (fr.set i (some s)):=by rcases h with rfl|⟨y,rfl⟩<;>rfl
theorem dh{b:Option Sl}(h:vo b):b.map Sl.dD=b:=by rcases h with rfl|⟨y,rfl⟩<;>rfl
noncomputable def Ri(f:V->Fr->R Fl)(ds:List V):Fl->Fr->R Fl:=λp af=>match p with
 |.nx=>forL f ds af
 |.ct=>forL f ds af
 |.bk=>.ok .nx af
 |.ret x=>.ok (.ret x) af
section
variable{f:V->Fr->R Fl}{ds:List V}{d x:V}{fr:Fr}
@[simp] theorem tT:forL f (d :: ds) fr=(f d fr).bind (Ri f ds):=nd rfl
end
section
variable{a b c:E}{es:Es}{lo hi:Eo}{it:It}{l:List Nat}
end
theorem gZ{α:Type}{l:List α}{i:Int}(h0:0<=i):bL l i=l[i.toNat]?:=by
 unfold bL ef;rw[if_pos h0];split
 .rfl
 .rw[List.getElem?_eq_none (by omega)];rfl
@[simp] theorem yj{α:Type}{l:List α}{n:Nat}:bL l (n:Int)=l[n]?:=by rw[gZ (by omega)];simp
theorem OG{α:Type}{l:List α}:bL l (-1:Int)=l.getLast?:=by
 unfold bL ef;cases l with
 |nil=>rfl
 |cons a l=>
  have h1:¬ (0:Int)<=-1:=by omega
  have h2:-(((a :: l).length:Nat):Int)<=-1:=by simp;omega
  rw[if_neg h1,if_pos h2,List.getLast?_eq_getElem?];simp only[Option.bind]
  congr 1
  simp;omega
noncomputable def uN:Fn:=⟨2,2,(.cons (.iff (.cmp .eq (.v 0) (.lst .nil)) (.cons (.ret (.bin .mul (.c (.int 7)) (.v 1))) .nil) .nil) (.cons (.ret (.bin .add (.ix (.v 0) (.bin .mod (.v 1) (.bi .len (.cons (.v 0) .nil)))) (.bin .mul (.c (.int 6553)) (.bin .fdiv (.v 1) (.bi .len (.cons (.v 0) .nil)))))) .nil))⟩
noncomputable def wz(c:Nat):Fn:=⟨3,4,(.cons (.set 3 (.bin .mod (.bin .add (.bin .mul (.bin .mod (.cl c (.cons (.v 0) (.cons (.v 1) .nil))) (.c (.int 2147483563))) (.c (.int 69069))) (.bin .mul (.c (.int 104723)) (.bin .add (.v 1) (.c (.int 1))))) (.c (.int 2147483563)))) (.cons (.set 3 (.bin .mod (.bin .add (.bin .mul (.v 3) (.v 3)) (.bin .fdiv (.v 3) (.c (.int 3)))) (.c (.int 2147483399)))) (.cons (.ret (.bin .mod (.bin .fdiv (.bin .mod (.bin .add (.bin .mul (.v 3) (.v 3)) (.bin .fdiv (.v 3) (.c (.int 7)))) (.c (.int 2147483647))) (.c (.int 11))) (.v 2))) .nil)))⟩
noncomputable def uO(ns:List Int)(k:Int):Int:=if ns=[]then 7*k else (ns[(k % ns.length).toNat]?.getD 0)+6553*(k / ns.length)
noncomputable def cT(ns:List Int)(k many:Int):Int:=
 let c:=(uO ns k % 2147483563*69069+104723*(k+1)) % 2147483563
 let c:=(c*c+c / 3) % 2147483399
 (c*c+c / 7) % 2147483647 / 11 % many
theorem j0(ns:List Int)(k:Int){many:Int}(h:0<many):0<=cT ns k many:=Int.emod_nonneg _ (by omega)
theorem j3(ns:List Int)(k:Int){many:Int}(h:0<many):cT ns k many<many:=Int.emod_lt_of_pos _ h
noncomputable def jl(ns:List Int):V:=.bP (ns.map V.int)
theorem Kg(ns:List Int):cQ (eg (18+1)) (ns.map V.int) []=some (decide (ns=[])):=by cases ns<;>simp
end Pv
namespace Pv
open Ev (D bU bN TY BI ME T E Es Eo It S Ss Fn big deep b2i rep cH ef bL aT cut cV eO slots)
section
variable{P:aO}{w:Nat}{fr af ao bI gX:Fr}{k b:Bool}{a e c:E}{es:Es}{ss sa sb:Ss}{st:S}{lo hi:Eo}{it:It}{v x y z:V}{vs:List V}{i:Nat}{l:List V}{Q:Fl->Fr->Prop}
theorem bf{d:D}(h:ofD d=some v):ev P k (.c d) fr=.ok v fr:=by rw[Wc,h];rfl
theorem au(h:mF k fr i=some v):ev P k (.v i) fr=.ok v fr:=by rw[Wd,h];rfl
theorem mP(h:cg P false es fr=.ok vs af)(h2:iP vs=some v):ev P k (.tup es) fr=.ok v af:=by rw[Oc,h,ak,h2];rfl
theorem qQ(h:cg P false es fr=.ok vs af)(h2:eG vs=some v):ev P k (.lst es) fr=.ok v af:=by rw[Od,h,ak,h2];rfl
theorem bX{o:bU}(h:ev P (kf a (bJ e)) a fr=.ok x af)(h2:ev P true e af=.ok y ao)(h3:bS o x y=some v):ev P k (.bin o a e) fr=.ok v ao:=by rw[Oe,h,ak,h2,ak,h3];rfl
theorem bE{o:bN}(h:ev P (kf a (bJ e)) a fr=.ok x af)(h2:ev P true e af=.ok y ao)(h3:cop o x y=some b):ev P k (.cmp o a e) fr=.ok (.bl b) ao:=by rw[Of,h,ak,h2,ak,h3];rfl
theorem OH(h:ev P true a fr=.ok (.bl b) af):ev P k (.nt a) fr=.ok (.bl (!b)) af:=by rw[Q9,h];rfl
theorem oX{j:Int}(h:ev P true a fr=.ok (.int j) af):ev P k (.neg a) fr=.ok (.int (-j)) af:=by rw[Og,h];rfl
theorem OI(h:ev P true a fr=.ok (.bl b) af)(h2:b=true->ev P k e af=.ok v ao)(h3:b=false->.bl false=v/\af=ao):ev P k (.an a e) fr=.ok v ao:=by
 rw[Hv,h,ak,Cy];cases b with
 |true=>exact h2 rfl
 |false=>obtain⟨rfl,rfl⟩:=h3 rfl;rfl
theorem uP(h:ev P true a fr=.ok (.bl true) af)(h2:ev P k e af=.ok v ao):ev P k (.an a e) fr=.ok v ao:=by rw[Hv,h,ak,Cy];exact h2
theorem Au(h:aI P a fr=.ok b af)(h2:b=true->ev P k e af=.ok v ao)(h3:b=false->ev P k c af=.ok v ao):ev P k (.lg a e c) fr=.ok v ao:=by
 rw[Oh,h,ak];cases b with
 |true=>exact h2 rfl
 |false=>exact h3 rfl
theorem cC(h:ev P (kf a (bJ e)) a fr=.ok x af)(h2:ev P true e af=.ok y ao)(h3:dY x y=some v):ev P k (.ix a e) fr=.ok v ao:=by rw[Ra,h,ak,h2,ak,h3];rfl
theorem Hw(h:ev P (kf a (bJ e)) a fr=.ok x af)(h2:ev P true e af=.ok y ao)(h3:qf x y=some v):ev P k (.kq a e) fr=.ok v ao:=by rw[Oi,h,ak,h2,ak,h3];rfl
theorem Hx{z:V}(h:ev P (kf a (bJ e++bJ c)) a fr=.ok x af)(h2:ev P (kf e (bJ c)) e af=.ok y ao)(h3:ev P false c ao=.ok z bI)(h4:nQ x y z=some v):ev P k (.kr a e c) fr=.ok v bI:=by rw[Oj,h,ak,h2,ak,h3,ak,h4];rfl
theorem ES{p q:Option Int}(h:ev P (kf a (kP lo++kP hi)) a fr=.ok x af)(h2:gk P lo af=.ok p ao)(h3:gk P hi ao=.ok q bI)(h4:gT x p q=some v):ev P k (.sl a lo hi) fr=.ok v bI:=by rw[Rb,h,ak,h2,ak,h3,ak,h4];rfl
theorem Rj(h:ev P true a fr=.ok x af)(h2:sC x=some v):ev P k (.m9 a) fr=.ok v af:=by rw[Ol,h,ak,h2];rfl
theorem bh{f:Nat}{as:List (Nat ⊕ V)}(h:gm P es fr=.ok as af)(h2:fy P f as af=.ok v ao):ev P k (.cl f es) fr=.ok v ao:=by rw[Rc,h,ak];exact h2
theorem fH{g:BI}(h:cg P true es fr=.ok vs af)(h2:cX g vs=some v):ev P k (.bi g es) fr=.ok v af:=by rw[Rf,h,ak,h2];rfl
theorem oY{m:ME}(hm:jg m=true)(hl:(lent fr i).isSome=true)(h:cg P (Cb m) es fr=.ok vs af)(h2:gx m i vs af af[i]?=.ok v ao):ev P k (.me m (.v i) es) fr=.ok v ao:=by
 rw[Om hm,if_pos hl,h,ak,Kd];exact h2
theorem uQ{m:ME}(hm:jg m=false)(h:ev P (kf a (gu es)) a fr=.ok x af)(h2:cg P true es af=.ok vs ao)(h3:fN m x vs=some v):ev P k (.me m a es) fr=.ok v ao:=by rw[Oo hm,h,ak,h2,ak,h3];rfl
theorem j4{t:T}{cond:Eo}(h:cF P true it fr=.ok vs af)(hu:undef t af=true)(h2:cW (kF P a t cond af) vs=some l)(h3:eG l=some v):ev P k (.comp a t it cond) fr=.ok v af:=by
 rw[r8,h,ak,if_pos hu,h2];show R.of (eG l) af=_;rw[h3];rfl
theorem jE(h:cF P true it fr=.ok vs af)(h2:eG vs=some v):ev P k (.eF it) fr=.ok v af:=by rw[Oq,h,ak,h2];rfl
theorem OJ{kvs:List (D×D)}(h:ev P true a fr=.ok x af)(h2:iL x kvs=some v):ev P k (.nH kvs a) fr=.ok v af:=by rw[J0,h,ak,h2];rfl
theorem qR(h:ev P true a fr=.ok x af)(h2:toT x=some v):ev P k (.iY a) fr=.ok v af:=by rw[Ot,h,ak,h2];rfl
theorem aZ:cg P k .nil fr=.ok [] fr:=J1
theorem aN(h:ev P (k&&kf a (gu es)) a fr=.ok v af)(h2:cg P k es af=.ok vs ao):cg P k (.cons a es) fr=.ok (v :: vs) ao:=by rw[EN,h,ak,h2];rfl
theorem aK:gm P .nil fr=.ok [] fr:=J2
theorem aJ{as:List (Nat ⊕ V)}(hi:lG fr a=none)(h:ev P false a fr=.ok v af)(h2:gm P es af=.ok as ao):gm P (.cons a es) fr=.ok (.inr v :: as) ao:=by rw[wo,hi,Aq,h,ak,h2];rfl
theorem j5{as:List (Nat ⊕ V)}(hi:lG fr a=some i)(h2:gm P es fr=.ok as ao):gm P (.cons a es) fr=.ok (.inl i :: as) ao:=by rw[wo,hi,Ao,h2];rfl
theorem Av:gk P .no fr=.ok none fr:=Ou
theorem wA{j:Int}(h:ev P true a fr=.ok (.int j) af):gk P (.yes a) fr=.ok (some j) af:=by rw[J3,h];rfl
theorem Rk{b2:Bool}(h:aI P a fr=.ok b af)(h2:b=true->aI P e af=.ok b2 ao)(h3:b=false->false=b2/\af=ao):aI P (.an a e) fr=.ok b2 ao:=by
 rw[wu,h,ak];cases b with
 |true=>exact h2 rfl
 |false=>obtain⟨rfl,rfl⟩:=h3 rfl;rfl
theorem lO(h:aI P a fr=.ok false af):aI P (.an a e) fr=.ok false af:=by rw[wu,h];rfl
theorem fc{b2:Bool}(h:aI P a fr=.ok true af)(h2:aI P e af=.ok b2 ao):aI P (.an a e) fr=.ok b2 ao:=by rw[wu,h];exact h2
theorem lP(h:aI P a fr=.ok true af):aI P (.orr a e) fr=.ok true af:=by rw[zb,h];rfl
theorem dQ{b2:Bool}(h:aI P a fr=.ok false af)(h2:aI P e af=.ok b2 ao):aI P (.orr a e) fr=.ok b2 ao:=by rw[zb,h];exact h2
theorem jF(h:aI P a fr=.ok b af):aI P (.nt a) fr=.ok (!b) af:=by rw[Ow,h];rfl
noncomputable def plainT:E->Bool
 |.an _ _=>false
 |.orr _ _=>false
 |.nt _=>false
 |_=>true
theorem aB(hp:plainT a=true)(h:ev P true a fr=.ok x af)(h2:truthy x=b):aI P a fr=.ok b af:=by
 have:aI P a fr=(ev P true a fr).bind Ox:=by
  cases a<;>first | (cases hp;done) | (rw[aI];rfl;all_goals (intros;contradiction))
 rw[this,h,ak,J5,h2]
theorem gy(h:src k fr a (ev P k a fr)=.ok x af)(h2:e8 x=some vs):cF P k (.seq a) fr=.ok vs af:=by rw[J6,h,ak,h2];rfl
theorem gM(h:vR k fr i=some v){r:R V}:src k fr (.v i) r=.ok v fr:=by rw[Rh,h];rfl
theorem jm(h:cg P true es fr=.ok vs af)(h2:er vs=some l):cF P k (.fE es) fr=.ok l af:=by rw[J7,h,ak,h2];rfl
theorem oq(h:ev P true a fr=.ok x af)(h2:Ah x=some vs):cF P k (.rev a) fr=.ok vs.reverse af:=by rw[J8,h,ak,h2];rfl
theorem aU(h:ev P false a fr=.ok v af)(hn:isNew a=false)(hp:put af i (.val v)=some ao)(q:Q .nx ao):Wp (ex P w (.set i a) fr) Q:=by
 rw[Cz,h,ak,hn,hp];exact⟨_,_,rfl,q⟩
theorem fJ(h:ev P false a fr=.ok (.lst l) af)(hn:isNew a=true)(hp:put af i (.own l)=some ao)(q:Q .nx ao):Wp (ex P w (.set i a) fr) Q:=by
 rw[Cz,h,ak,hn,if_pos rfl,EO,hp];exact⟨_,_,rfl,q⟩
theorem fD(h:ev P true a fr=.ok v af)(q:Q .nx af):Wp (ex P w (.exp a) fr) Q:=by rw[OA,h];exact⟨_,_,rfl,q⟩
theorem bR(h:ev P false a (fS fr)=.ok v af)(q:Q (.ret v) af):Wp (ex P w (.ret a) fr) Q:=by rw[OB,h];exact⟨_,_,rfl,q⟩
theorem aL(h:aI P a fr=.ok b af)(h2:b=true->Wp (exs P w sa af) Q)(h3:b=false->Wp (exs P w sb af) Q):Wp (ex P w (.iff a sa sb) fr) Q:=by
 rw[OC,h,ak];cases b with
 |true=>exact h2 rfl
 |false=>exact h3 rfl
theorem ay(q:Q .nx fr):Wp (exs P w .nil fr) Q:=by rw[Ka];exact⟨_,_,rfl,q⟩
noncomputable def nx(P:aO)(w:Nat)(ss:Ss)(Q:Fl->Fr->Prop):Fl->Fr->Prop
 |.nx,fr=>Wp (exs P w ss fr) Q
 |g,fr=>Q g fr
theorem ai(q:Wp (ex P w st fr) (nx P w ss Q)):Wp (exs P w (.cons st ss) fr) Q:=by
 rw[ER,wp_bind];refine q.mono λg af z=>?_;cases g with
 |nx=>exact z
 |bk=>exact⟨_,_,rfl,z⟩
 |ct=>exact⟨_,_,rfl,z⟩
 |ret v=>exact⟨_,_,rfl,z⟩
theorem kG{t:T}(h:cF P false it (mE (itv it) fr)=.ok vs af)(q:Wp (forL (turnF P w t ss) vs af) Q):Wp (ex P w (.for t it ss) fr) Q:=by rw[vF,h,ak];exact q
theorem OL{i' x' y' f:Nat}{K:List (Int×List Nat)}(hc:i'≠y'/\x'≠i'/\i'<fr.length/\x'<fr.length)(h:cF P false (.seq (.v y')) (mE [y'] fr)=.ok vs af)(hk:mG P f vs []=some K)(h2:put af i' (.val (.dct K))=some ao)(h3:kD ao x' vs=some bI)(q:Q .nx bI):Wp (ex P w (.jw i' x' y' f) fr) Q:=by
 rw[J9,if_pos hc,h,ak,hk];show Wp ((R.of (put af i' (.val (.dct K))) af).bind _) Q;rw[h2];show Wp ((R.of (kD ao x' vs) ao).bind _) Q;rw[h3];exact⟨_,_,rfl,q⟩
theorem Aw(q:Wp (eL (λao=>aI P a ao) (λao=>exs P w ss ao) w fr) Q):Wp (ex P w (.ly a ss) fr) Q:=by rw[OD];exact q
theorem dR{t:T}{d:V}(hb:bC t d fr=some af)(q:Wp (exs P w ss af) Q):Wp (turnF P w t ss d fr) Q:=by unfold turnF;rw[hb];exact q
theorem qS{t:T}{d:V}(hb:bC t d (uf fr)=some af)(h:ev P false a af=.ok v ao):kF P a t .no fr d=some (some v):=by
 unfold kF;rw[hb];dsimp only;rw[Ov];dsimp only;rw[h];rfl
theorem sN{t:T}{d:V}(hb:bC t d (uf fr)=some af)(h:aI P c af=.ok b ao)(h2:b=true->ev P false a af=.ok v bI):kF P a t (.yes c) fr d=some (if b then some v else none):=by
 unfold kF;rw[hb];dsimp only;rw[J4,h];dsimp only;cases b with
 |true=>rw[h2 rfl];rfl
 |false=>rfl
theorem jc{p q:List Nat}:cop .eq (.str p) (.str q)=some (decide (p=q)):=yZ
theorem iS{p q:List Nat}:cop .ne (.str p) (.str q)=some (!decide (p=q)):=by rw[wk,yZ];rfl
theorem OM{p q:Int}:cop .eq (.int p) (.int q)=some (decide (p=q)):=sH
theorem Ax{p q:Int}:cop .ne (.int p) (.int q)=some (!decide (p=q)):=by rw[wk,sH];rfl
theorem ON{p q:Int}:cop .lt (.int p) (.int q)=some (decide (p<q)):=rfl
theorem oz{p q:Int}:cop .gt (.int p) (.int q)=some (decide (q<p)):=rfl
theorem oZ{p q:Int}(h:cH p q=true):bS .mul (.int p) (.int q)=some (.int (p*q)):=by rw[qg,if_pos h]
theorem o5{p q:Int}(h:0<q):bS .mod (.int p) (.int q)=some (.int (p % q)):=by rw[JQ,if_pos h]
theorem uR{p q:Int}(h:0<q)(h2:q<1073741824):bS .fdiv (.int p) (.int q)=some (.int (p / q)):=by rw[EL,if_pos ⟨h,h2⟩]
end
theorem fK{fr:Fr}{i:Nat}{s:Sl}{o:Option Sl}(e:fr[i]?=some o)(h:vo o):put fr i s=some (fr.set i (some s)):=by rw[CC,e,OF h]
theorem jG{fr:Fr}{i j:Nat}{u v:V}{a b:Option Sl}(ea:fr[i]?=some a)(ha:vo a)(eb:(fr.set i (some (.val u)))[j]?=some b)(hb:vo b):bC (.many [i,j]) (.tup [u,v]) fr=some ((fr.set i (some (.val u))).set j (some (.val v))):=by
 simp only[Ar,xQ,As,fK ea ha,Option.bind,fK eb hb]
theorem bind1{fr:Fr}{i:Nat}{v:V}{a:Option Sl}(ea:fr[i]?=some a)(ha:vo a):bC (.one i) v fr=some (fr.set i (some (.val v))):=fK ea ha
end Pv
local macro_rules|`(tactic|array_get_dec)=>`(tactic|first
 |exact Pv.aZ|exact Pv.aK|exact Pv.Av
 | (apply Pv.au;rfl) | (apply Pv.bf;rfl)|apply Pv.bX|apply Pv.bE|apply Pv.mP|apply Pv.qQ|apply Pv.cC|apply Pv.ES|apply Pv.bh|apply Pv.fH
 |apply Pv.OH|apply Pv.oX|apply Pv.qR|apply Pv.jE  | (apply Pv.oY rfl rfl) | (apply Pv.uQ rfl)|apply Pv.OJ
 |apply Pv.aN | (apply Pv.aJ rfl) | (apply Pv.j5 rfl)|apply Pv.wA|apply Pv.jF|apply Pv.aB rfl
 |exact Pv.Q8|exact Pv.Aj|exact Pv.uL|exact Pv.Hu|exact Pv.uK|exact Pv.Hs|exact Pv.Ht
 | (with_reducible assumption)|exact Pv.fj|exact Pv.wj|exact Pv.jc|exact Pv.iS|exact Pv.OM|exact Pv.Ax|exact Pv.ON  | exact Pv.oz
 | (show Pv.truthy _=_;rfl) | (show Pv.dY _ _=some _;rfl) | (show Pv.toT _=some _;rfl) | (show Pv.iL _ _=some _;rfl) | (show Pv.e8 _=some _;rfl)|assumption)
namespace Pv
open Ev (D bU bN TY BI ME T E Es Eo It S Ss Fn big deep b2i rep cH ef bL aT cut cV eO slots)
theorem OO(a b:Int):cH (a % 2147483563) b=true:=by have h1:=Int.emod_nonneg a (b:=2147483563) (by decide);have h2:=Int.emod_lt_of_pos a (b:=2147483563) (by decide);simp[cH];omega
theorem Wh(a b:Int):cH (a % 2147483399) b=true:=by have h1:=Int.emod_nonneg a (b:=2147483399) (by decide);have h2:=Int.emod_lt_of_pos a (b:=2147483399) (by decide);simp[cH];omega
theorem OP{l:List V}{j:Int}{v:V}(h:bL l j=some v):dY (.bP l) (.int j)=some v:=h
theorem OQ{l m:List V}:cop .eq (.bP l) (.lst m)=cQ (eg (18+1)) l m:=rfl
theorem ET{F:List Fn}{w n c:Nat}(hc:F[c]?=some uN){ns:List Int}(hn:ns.length<=63)(k:Int):run F w (n+1) c [.val (jl ns),.val (.int k)]=some (.int (uO ns k),[]):=by
 refine cy hc rfl (ai (aL (b:=decide (ns=[])) (aB rfl (bE (au rfl) (qQ aZ uK) (OQ.trans (Kg ns))) rfl) (λh=>?_) λh=>ay ?_))
 .have h0:=of_decide_eq_true h;exact ai (bR (bX (bf rfl) (au rfl) (oZ rfl)) ⟨by rw[uO,if_pos h0],rfl⟩)
 .have h0:=of_decide_eq_false h;have hlen:0<ns.length:=List.length_pos_iff.mpr h0;have TR:(0:Int)<(ns.map V.int).length:=by rw[List.length_map];exact Int.natCast_pos.mpr hlen
  have h30:((ns.map V.int).length:Int)<1073741824:=by rw[List.length_map];omega
  have hm0:=Int.emod_nonneg k (b:=(ns.length:Int)) (by omega);have hlt:(k % (ns.length:Int)).toNat<ns.length:=by have:=Int.emod_lt_of_pos k (b:=(ns.length:Int)) (by omega);omega
  have hx:bL (ns.map V.int) (k % ((ns.map V.int).length:Int))=some (.int (ns[(k % (ns.length:Int)).toNat]?.getD 0)):=by
   rw[List.length_map,gZ hm0,List.getElem?_map,List.getElem?_eq_getElem hlt];rfl
  refine ai (bR (bX (cC (au rfl) (bX (au rfl) (fH (aN (au rfl) aZ) za) (o5 TR)) (OP hx)) (bX (bf rfl) (bX (au rfl) (fH (aN (au rfl) aZ) za) (uR TR h30)) (oZ rfl)) fj) ⟨?_,rfl⟩);rw[uO,if_neg h0,List.length_map]
theorem gz{F:List Fn}{w n c dr:Nat}(hc:F[c]?=some uN)(hd:F[dr]?=some (wz c)){ns:List Int}(hn:ns.length<=63)(k:Int){many:Int}(hm:0<many):run F w (n+2) dr [.val (jl ns),.val (.int k),.val (.int many)]=some (.int (cT ns k many),[]):=by
 refine cy hd rfl (ai (aU (bX (bX (bX (bX (bh (aJ rfl (au rfl) (aJ rfl (au rfl) aK)) (call2 (ET hc hn k))) (bf rfl) (o5 (by decide))) (bf rfl) (oZ (OO _ _))) (bX (bf rfl) (bX (au rfl) (bf rfl) fj) (oZ rfl)) fj) (bf rfl) (o5 (by decide))) rfl rfl ?_));refine ai (aU (bX (bX (bX (au rfl) (au rfl) (oZ (OO _ _))) (bX (au rfl) (bf rfl) (uR (by decide) (by decide))) fj) (bf rfl) (o5 (by decide))) rfl rfl ?_);exact ai (bR (bX (bX (bX (bX (bX (au rfl) (au rfl) (oZ (Wh _ _))) (bX (au rfl) (bf rfl) (uR (by decide) (by decide))) fj) (bf rfl) (o5 (by decide))) (bf rfl) (uR (by decide) (by decide))) (au rfl) (o5 hm)) ⟨rfl,rfl⟩)
noncomputable def fText(dr:Nat):Fn:=⟨3,4,(.cons (.ret (.me .join (.c (.str [])) (.cons (.comp (.ix (.c (.str [97,98,99,32])) (.cl dr (.cons (.v 0) (.cons (.bin .add (.bin .add (.v 1) (.c (.int 1))) (.v 3)) (.cons (.c (.int 4)) .nil))))) (.one 3) (.fE (.cons (.cl dr (.cons (.v 0) (.cons (.v 1) (.cons (.bin .add (.v 2) (.c (.int 1))) .nil)))) .nil)) .no) .nil))) .nil)⟩
noncomputable def Hy(dr:Nat):S:=.iff (.cmp .eq (.cl dr (.cons (.v 0) (.cons (.bin .add (.v 1) (.bin .mul (.c (.int 4)) (.v 4))) (.cons (.c (.int 4)) .nil)))) (.c (.int 0))) (.cons (.set 5 (.bin .mul (.ix (.c (.str [97,98,122])) (.cl dr (.cons (.v 0) (.cons (.bin .add (.bin .add (.v 1) (.bin .mul (.c (.int 4)) (.v 4))) (.c (.int 1))) (.cons (.c (.int 3)) .nil))))) (.bin .add (.c (.int 1)) (.cl dr (.cons (.v 0) (.cons (.bin .add (.bin .add (.v 1) (.bin .mul (.c (.int 4)) (.v 4))) (.c (.int 2))) (.cons (.c (.int 2)) .nil))))))) (.cons (.set 3 (.bin .add (.v 3) (.tup (.cons (.tup (.cons (.c (.str [112,117,116])) (.cons (.v 5) .nil))) .nil)))) .nil)) .nil
noncomputable def Hz(dr:Nat):S:=.iff (.cmp .lt (.v 4) (.bi .len (.cons (.v 2) .nil))) (.cons (.set 6 (.cmp .gt (.cl dr (.cons (.v 0) (.cons (.bin .add (.bin .add (.v 1) (.bin .mul (.c (.int 4)) (.v 4))) (.c (.int 3))) (.cons (.c (.int 3)) .nil)))) (.c (.int 0)))) (.cons (.set 3 (.bin .add (.v 3) (.tup (.cons (.lg (.v 6) (.tup (.cons (.c (.str [107,101,101,112])) (.cons (.c (.int 1)) .nil))) (.tup (.cons (.c (.str [100,114,111,112])) (.cons (.ix (.v 2) (.v 4)) .nil)))) .nil)))) .nil)) .nil
noncomputable def Kh(dr:Nat):Fn:=⟨3,7,(.cons (.set 3 (.tup .nil)) (.cons (.for (.one 4) (.fE (.cons (.bin .add (.bi .len (.cons (.v 2) .nil)) (.c (.int 1))) .nil)) (.cons (Hy dr) (.cons (Hz dr) .nil))) (.cons (.ret (.v 3)) .nil)))⟩
inductive Pt where
 |keep (n:Nat)|put (s:List Nat)|drop (s:List Nat)
deriving DecidableEq
noncomputable def eE:List Nat:=[107,101,101,112]
noncomputable def mQ:List Nat:=[112,117,116]
noncomputable def jH:List Nat:=[100,114,111,112]
noncomputable def Pt.v:Pt->V
 |.keep n=>.tup [.str eE,.int n]
 |.put s=>.tup [.str mQ,.str s]
 |.drop s=>.tup [.str jH,.str s]
noncomputable def aF(c:List Pt):V:=.tup (c.map Pt.v)
theorem OR(n:Nat)(a b:Pt):eg (n+2) a.v b.v=some (decide (a=b)):=by
 cases a<;>cases b<;>simp[Pt.v,eE,mQ,jH]
 all_goals omega
theorem OS(a b:List Pt):eg deep (aF a) (aF b)=some (decide (a=b)):=by
 simp only[aF,JV];exact y9 (λa b=>OR 17 a b) a b
noncomputable def txt(ns:List Int)(at_ most:Int):List Nat:=(List.range (cT ns at_ (most+1)).toNat).map λ(k:Nat)=>[97,98,99,32].getD (cT ns (at_+1+k) 4).toNat 0
theorem Kl(ns:List Int)(at_:Int){most:Int}(h:0<=most):(txt ns at_ most).length<=most.toNat:=by
 unfold txt;have h1:=j3 ns at_ (many:=most+1) (by omega);have h2:=j0 ns at_ (many:=most+1) (by omega);simp;omega
theorem getD_at{α:Type}{l:List α}{i:Int}(h0:0<=i)(h1:i<l.length)(d:α):bL l i=some (l.getD i.toNat d):=by
 have:i.toNat<l.length:=by omega
 rw[gZ h0];simp[List.getD,List.getElem?_eq_getElem this]
theorem pQ{α β:Type}(l:List α)(f:α->β):(l.map λx=>[f x]).flatten=l.map f:=by induction l<;>simp[*]
theorem CD(lo:Int)(n:Nat):range lo n=(List.range n).map λ(i:Nat)=>V.int (lo+i):=rfl
section
variable{F:List Fn}{w n c dr t:Nat}(hc:F[c]?=some uN)(hd:F[dr]?=some (wz c)){ns:List Int}(hn:ns.length<=63)
include hc hd hn
theorem EU(ht:F[t]?=some (fText dr))(k most:Int)(hm:0<=most)(hm2:most<=1000):run F w (n+3) t [.val (jl ns),.val (.int k),.val (.int most)]=some (.str (txt ns k most),[]):=by
 have b0:=j0 ns k (many:=most+1) (by omega);have b1:=j3 ns k (many:=most+1) (by omega);have d0:=λfr=>fC (fr:=fr) (gz (w:=w) (n:=n) hc hd hn k (many:=most+1) (by omega));have Rl:cW (kF (run F w (n+2)) (.ix (.c (.str [97,98,99,32])) (.cl dr (.cons (.v 0) (.cons (.bin .add (.bin .add (.v 1) (.c (.int 1))) (.v 3)) (.cons (.c (.int 4)) .nil))))) (.one 3) .no [some (.val (jl ns)),some (.val (.int k)),some (.val (.int most)),none]) (range 0 (cT ns k (most+1)).toNat)=some (((List.range (cT ns k (most+1)).toNat).map λ(j:Nat)=>[[97,98,99,32].getD (cT ns (k+1+j) 4).toNat 0]).map V.str):=by
  rw[CD,List.map_map];refine kE _ _ _ λj _=>?_;have d1:=λfr=>fC (fr:=fr) (gz (w:=w) (n:=n) hc hd hn (k+1+j) (many:=4) (by decide));have ix:dY (.str [97,98,99,32]) (.int (cT ns (k+1+j) 4))=some (.str [[97,98,99,32].getD (cT ns (k+1+j) 4).toNat 0]):=by
   rw[lK,getD_at (l:=[97,98,99,32]) (j0 ns (k+1+j) (many:=4) (by decide)) (j3 ns (k+1+j) (many:=4) (by decide)) 0];rfl
  rw[show(0:Int)+(j:Int)=j from Int.zero_add _];exact qS rfl (by (repeat (first|array_get_dec|exact d1 _)))
 have hj:=uM (l:=(List.range (cT ns k (most+1)).toNat).map λ(j:Nat)=>[[97,98,99,32].getD (cT ns (k+1+j) 4).toNat 0]) (by rw[pQ];simp;omega);rw[pQ]at hj;have Yk:eG (((List.range (cT ns k (most+1)).toNat).map λ(j:Nat)=>[[97,98,99,32].getD (cT ns (k+1+j) 4).toNat 0]).map V.str)=some (.lst _):=dg (bK (by simp;omega));have rg:=Ob b0 (show cT ns k (most+1)<=100000 by omega);refine cy ht rfl (ai (bR (uQ rfl (bf rfl) (aN (j4 (jm (by (repeat (first|array_get_dec|exact d0 _))) rg) rfl Rl Yk) aZ) hj) ⟨rfl,rfl⟩))
end
noncomputable def jI(ns:List Int)(at_:Int)(s:List Nat)(k:Nat):List Pt:=
 (if cT ns (at_+4*k) 4=0 then [.put (rep (1+cT ns (at_+4*k+2) 2).toNat [[97,98,122].getD (cT ns (at_+4*k+1) 3).toNat 0])]else [])++
 (match s[k]? with
 |some c=>[if 0<cT ns (at_+4*k+3) 3 then .keep 1 else .drop [c]]
 |none=>[])
noncomputable def fV(ns:List Int)(at_:Int)(s:List Nat)(k:Nat):List Pt:=(List.range k).flatMap (jI ns at_ s)
noncomputable def chg(ns:List Int)(at_:Int)(s:List Nat):List Pt:=fV ns at_ s (s.length+1)
theorem CF(ns:List Int)(at_:Int)(s:List Nat)(k:Nat):(jI ns at_ s k).length<=2:=by
 unfold jI;split<;>split<;>simp
theorem jJ(ns:List Int)(at_:Int)(s:List Nat)(k:Nat):fV ns at_ s (k+1)=fV ns at_ s k++jI ns at_ s k:=by simp[fV,List.range_succ]
theorem oA(ns:List Int)(at_:Int)(s:List Nat):∀k,(fV ns at_ s k).length<=2*k
 |0=>by simp[fV]
 |k+1=>by
  have h1:=CF ns at_ s k;have h2:=oA ns at_ s k;rw[jJ,List.length_append];omega
theorem OT(i:Int):cH 4 i=true:=by simp[cH]
theorem Ay{a b:List Pt}(h:a.length+b.length<=100000):bS .add (aF a) (aF b)=some (aF (a++b)):=by
 simp only[aF];rw[EI (by simpa using h)];simp
theorem sO{j:Int}{n:Nat}(h:n<=100000)(e:j=n):er [.int j]=some (range 0 n):=by
 subst e;rw[Ob (by omega) (by omega)];rfl
theorem Km{a:List Pt}{s:List Nat}(h:a.length<100000):bS .add (aF a) (.tup [.tup [.str [112,117,116],.str s]])=some (aF (a++[.put s])):=Ay (a:=a) (b:=[.put s]) (by simp;omega)
theorem EV{a:List Pt}{s:List Nat}(h:a.length<100000):bS .add (aF a) (.tup [.tup [.str [100,114,111,112],.str s]])=some (aF (a++[.drop s])):=Ay (a:=a) (b:=[.drop s]) (by simp;omega)
theorem EW{a:List Pt}(h:a.length<100000):bS .add (aF a) (.tup [.tup [.str [107,101,101,112],.int 1]])=some (aF (a++[.keep 1])):=Ay (a:=a) (b:=[.keep 1]) (by simp;omega)
section
variable{F:List Fn}{w n c dr t:Nat}(hc:F[c]?=some uN)(hd:F[dr]?=some (wz c)){ns:List Int}(hn:ns.length<=63)
include hc hd hn
theorem EX(k:Int)(x:V)(fd:List Pt)(j:Nat)(u v:Option Sl)(hu:vo u)(hfd:fd.length<=10000) :
  Wp (ex (run F w (n+2)) w (Hy dr) [some (.val (jl ns)),some (.val (.int k)),some (.val x),some (.val (aF fd)),some (.val (.int j)),u,v]) λg fr=>g=.nx/\∃b,vo b/\fr=[some (.val (jl ns)),some (.val (.int k)),some (.val x),some (.val (aF (fd++if cT ns (k+4*j) 4=0 then [.put (rep (1+cT ns (k+4*j+2) 2).toNat [[97,98,122].getD (cT ns (k+4*j+1) 3).toNat 0])]else []))),some (.val (.int j)),b,v]:=by
 have d1:=λfr=>fC (fr:=fr) (gz (w:=w) (n:=n) hc hd hn (k+4*j) (many:=4) (by decide));have m4:bS .mul (.int 4) (.int j)=some (.int (4*j)):=by rw[qg,OT];rfl
 refine aL (by (repeat (first|array_get_dec|exact d1 _))) (λh=>?_) λh=>?_
 .have h0:=of_decide_eq_true h;have d2:=λfr=>fC (fr:=fr) (gz (w:=w) (n:=n) hc hd hn (k+4*j+1) (many:=3) (by decide));have d3:=λfr=>fC (fr:=fr) (gz (w:=w) (n:=n) hc hd hn (k+4*j+2) (many:=2) (by decide));have c2:=j0 ns (k+4*j+2) (many:=2) (by decide);have c3:=j3 ns (k+4*j+2) (many:=2) (by decide);have ix:dY (.str [97,98,122]) (.int (cT ns (k+4*j+1) 3))=some (.str [[97,98,122].getD (cT ns (k+4*j+1) 3).toNat 0]):=by
   rw[lK,getD_at (l:=[97,98,122]) (j0 ns (k+4*j+1) (many:=3) (by decide)) (j3 ns (k+4*j+1) (many:=3) (by decide)) 0];rfl
  have ml:=EJ (j:=1+cT ns (k+4*j+2) 2) (a:=[[97,98,122].getD (cT ns (k+4*j+1) 3).toNat 0]) (by omega) (by omega) (by simp);have ad:=Km (a:=fd) (s:=rep (1+cT ns (k+4*j+2) 2).toNat [[97,98,122].getD (cT ns (k+4*j+1) 3).toNat 0]) (by omega);refine ai (aU (by (repeat (first|array_get_dec|exact d2 _|exact d3 _))) rfl (fK rfl hu) ?_);refine ai (aU (by repeat array_get_dec) rfl rfl (ay ?_));rw[if_pos h0];exact⟨rfl,_,.val,rfl⟩
 .have h0:=of_decide_eq_false h;rw[if_neg h0,List.append_nil];exact ay ⟨rfl,u,hu,rfl⟩
theorem EY(k:Int)(x:List Nat)(hx:x.length<=1000)(fd:List Pt)(j:Nat)(u v:Option Sl)(hv:vo v)(hfd:fd.length<=10000) :
  Wp (ex (run F w (n+2)) w (Hz dr) [some (.val (jl ns)),some (.val (.int k)),some (.val (.str x)),some (.val (aF fd)),some (.val (.int j)),u,v]) λg fr=>g=.nx/\∃b,vo b/\fr=[some (.val (jl ns)),some (.val (.int k)),some (.val (.str x)),some (.val (aF (fd++match x[j]? with
     |some c=>[if 0<cT ns (k+4*j+3) 3 then .keep 1 else .drop [c]]
     |none=>[]))),some (.val (.int j)),u,b]:=by
 have ln:cX .len [.str x]=some (.int (x.length:Nat)):=len_str (by omega);refine aL (by repeat array_get_dec) (λh=>?_) λh=>?_
 .have hlt:j<x.length:=by have:=of_decide_eq_true h;omega
  have d1:=λfr=>fC (fr:=fr) (gz (w:=w) (n:=n) hc hd hn (k+4*j+3) (many:=3) (by decide));have m4:bS .mul (.int 4) (.int j)=some (.int (4*j)):=by rw[qg,OT];rfl
  have hg:x[j]?=some x[j]:=List.getElem?_eq_getElem hlt;have ix:dY (.str x) (.int j)=some (.str [x[j]]):=by rw[lK,yj,hg];rfl
  rw[hg];refine ai (aU (by (repeat (first|array_get_dec|exact d1 _))) rfl (fK rfl hv) ?_);by_cases hk:0<cT ns (k+4*j+3) 3
  .have ad:=EW (a:=fd) (by omega);have ht:truthy (.bl (decide (0<cT ns (k+4*j+3) 3)))=true:=decide_eq_true hk;refine ai (aU (bX (au rfl) (mP (aN (Au (b:=true) (aB rfl (au rfl) ht) (λ_=>by repeat array_get_dec) λh=>absurd h (by decide)) aZ) Aj) ad) rfl rfl (ay ?_));refine⟨rfl,some (.val (.bl (decide (0<cT ns (k+4*j+3) 3)))),.val,?_⟩;simp only[if_pos hk];rfl
  .have ad:=EV (a:=fd) (s:=[x[j]]) (by omega);have ht:truthy (.bl (decide (0<cT ns (k+4*j+3) 3)))=false:=decide_eq_false hk;refine ai (aU (bX (au rfl) (mP (aN (Au (b:=false) (aB rfl (au rfl) ht) (λh=>absurd h (by decide)) λ_=>by repeat array_get_dec) aZ) Aj) ad) rfl rfl (ay ?_));refine⟨rfl,some (.val (.bl (decide (0<cT ns (k+4*j+3) 3)))),.val,?_⟩;simp only[if_neg hk];rfl
 .have hlt:¬ j<x.length:=by have:=of_decide_eq_false h;omega
  rw[List.getElem?_eq_none (by omega),List.append_nil];exact ay ⟨rfl,v,hv,rfl⟩
theorem qT(ht:F[t]?=some (Kh dr))(k:Int)(x:List Nat)(hx:x.length<=1000):run F w (n+3) t [.val (jl ns),.val (.int k),.val (.str x)]=some (aF (chg ns k x),[]):=by
 refine cy ht rfl ?_;have ln:cX .len [.str x]=some (.int (x.length:Nat)):=len_str (by omega);have rg:er [.int ((x.length:Nat)+1)]=some (range 0 (x.length+1)):=sO (by omega) (by omega);refine ai (aU (by repeat array_get_dec) rfl rfl ?_);refine ai (kG (jm (aN (bX (fH (aN (au rfl) aZ) ln) (bf rfl) fj) aZ) rg) ?_);refine sM (λj fr=>∃a b c,vo a/\vo b/\vo c/\fr=[some (.val (jl ns)),some (.val (.int k)),some (.val (.str x)),some (.val (aF (fV ns k x j))),a,b,c]) (λj fr hj ⟨a,b,c',ha,hb,hc',hfr⟩=>?_) (λfr ⟨a,b,c',ha,hb,hc',hfr⟩=>?_) ⟨none,none,none,.none,.none,.none,rfl⟩
 .subst hfr;have hz:=oA ns k x j;rw[show(0:Int)+(j:Int)=j from Int.zero_add _];refine dR (bind1 rfl ha) (ai ?_);refine(EX hc hd hn k (.str x) (fV ns k x j) j b c' hb (by omega)).mono λg fr ⟨q1,b2,hb2,q3⟩=>?_;subst q1 q3;refine ai ?_;refine(EY hc hd hn k x hx _ j b2 c' hc' (by split<;>simp<;>omega)).mono λg fr ⟨q1,b3,Yl,q3⟩=>?_;subst q1 q3;refine ay ?_;rw[fU];refine⟨some (.val (.int j)),b2,b3,.val,hb2,Yl,?_⟩;rw[jJ,jI,List.append_assoc]
 .subst hfr;refine ai (bR (v:=aF (chg ns k x)) (af:=[some (.val (jl ns)),some (.val (.int k)),some (.val (.str x)),some (.val (aF (fV ns k x (x.length+1)))),a,b,c']) ?_ ⟨rfl,rfl⟩);have sh:fS [some (.val (jl ns)),some (.val (.int k)),some (.val (.str x)),some (.val (aF (fV ns k x (x.length+1)))),a,b,c']=[some (.val (jl ns)),some (.val (.int k)),some (.val (.str x)),some (.val (aF (fV ns k x (x.length+1)))),a,b,c']:=by
   show _ :: _ :: _ :: _ :: a.map Sl.dD :: b.map Sl.dD :: [c'.map Sl.dD]=_;rw[dh ha,dh hb,dh hc'];rfl
  rw[sh];exact au rfl
end
end Pv
namespace Pv
open Ev (D bU bN TY BI ME T E Es Eo It S Ss Fn big deep b2i rep cH ef bL aT cut cV eO slots)
noncomputable def EZ:S:=.iff (.cmp .eq (.ix (.v 0) (.c (.int 0))) (.c (.str [107,101,101,112]))) (.cons (.ret (.ix (.v 0) (.c (.int 1)))) .nil) .nil
noncomputable def E1:S:=.ret (.bi .len (.cons (.ix (.v 0) (.c (.int 1))) .nil))
noncomputable def dS:Fn:=⟨1,1,(.cons EZ (.cons E1 .nil))⟩
noncomputable def Az(bx:Nat):S:=.ret (.bi .sum (.cons (.comp (.cl bx (.cons (.v 1) .nil)) (.one 1) (.seq (.v 0)) (.yes (.cmp .ne (.ix (.v 1) (.c (.int 0))) (.c (.str [112,117,116]))))) .nil))
noncomputable def gA(bx:Nat):Fn:=⟨1,2,(.cons (Az bx) .nil)⟩
noncomputable def CG(bx:Nat):S:=.ret (.bi .sum (.cons (.comp (.cl bx (.cons (.v 1) .nil)) (.one 1) (.seq (.v 0)) (.yes (.cmp .ne (.ix (.v 1) (.c (.int 0))) (.c (.str [100,114,111,112]))))) .nil))
noncomputable def o6(bx:Nat):Fn:=⟨1,2,(.cons (CG bx) .nil)⟩
noncomputable def E2:S:=.set 1 (.lst .nil)
noncomputable def E3:S:=.set 2 (.c (.int 0))
noncomputable def E4:S:=.set 3 (.c (.str []))
noncomputable def E5:S:=.set 4 (.c (.str []))
noncomputable def E6(fO:Nat):Ss:=(.cons (.iff (.cmp .eq (.v 5) (.c (.str [100,114,111,112]))) (.cons (.set 3 (.bin .add (.v 3) (.v 6))) .nil) (.cons (.iff (.cmp .eq (.v 5) (.c (.str [112,117,116]))) (.cons (.set 4 (.bin .add (.v 4) (.v 6))) .nil) (.cons (.iff (.cmp .gt (.v 6) (.c (.int 0))) (.cons (.iff (.orr (.cmp .ne (.v 3) (.c (.str []))) (.cmp .ne (.v 4) (.c (.str [])))) (.cons (.exp (.me .extend (.v 1) (.cons (.cl fO (.cons (.v 2) (.cons (.v 3) (.cons (.v 4) .nil)))) .nil))) (.cons (.set 2 (.c (.int 0))) (.cons (.set 3 (.c (.str []))) (.cons (.set 4 (.c (.str []))) .nil)))) .nil) (.cons (.set 2 (.bin .add (.v 2) (.v 6))) .nil)) .nil) .nil)) .nil)) .nil)
noncomputable def E7(fO:Nat):S:=.for (.many [5,6]) (.seq (.v 0)) (E6 fO)
noncomputable def E8(fO:Nat):S:=.exp (.me .extend (.v 1) (.cons (.cl fO (.cons (.v 2) (.cons (.v 3) (.cons (.v 4) .nil)))) .nil))
noncomputable def E9:S:=.ret (.iY (.v 1))
noncomputable def j6(fO:Nat):Fn:=⟨1,7,(.cons E2 (.cons E3 (.cons E4 (.cons E5 (.cons (E7 fO) (.cons (E8 fO) (.cons E9 .nil)))))))⟩
noncomputable def xR:S:=.set 3 (.lst .nil)
noncomputable def xS:S:=.iff (.cmp .gt (.v 0) (.c (.int 0))) (.cons (.exp (.me .append (.v 3) (.cons (.tup (.cons (.c (.str [107,101,101,112])) (.cons (.v 0) .nil))) .nil))) .nil) .nil
noncomputable def pR:S:=.iff (.cmp .ne (.v 1) (.c (.str []))) (.cons (.exp (.me .append (.v 3) (.cons (.tup (.cons (.c (.str [100,114,111,112])) (.cons (.v 1) .nil))) .nil))) .nil) .nil
noncomputable def kQ:S:=.iff (.cmp .ne (.v 2) (.c (.str []))) (.cons (.exp (.me .append (.v 3) (.cons (.tup (.cons (.c (.str [112,117,116])) (.cons (.v 2) .nil))) .nil))) .nil) .nil
noncomputable def jh:S:=.ret (.v 3)
noncomputable def fP:Fn:=⟨3,4,(.cons xR (.cons xS (.cons pR (.cons kQ (.cons jh .nil)))))⟩
noncomputable def CH:S:=.set 1 (.lst .nil)
noncomputable def CJ:S:=.set 2 (.lst .nil)
noncomputable def CK:Ss:=(.cons (.iff (.cmp .eq (.v 3) (.c (.str [107,101,101,112]))) (.cons (.set 2 (.bin .add (.v 2) (.eF (.fE (.cons (.bi .len (.cons (.v 1) .nil)) (.cons (.bin .add (.bi .len (.cons (.v 1) .nil)) (.v 4)) .nil)))))) (.cons (.set 1 (.bin .add (.v 1) (.bin .mul (.lst (.cons (.c (.str [])) .nil)) (.v 4)))) .nil)) (.cons (.iff (.cmp .eq (.v 3) (.c (.str [100,114,111,112]))) (.cons (.set 1 (.bin .add (.v 1) (.eF (.seq (.v 4))))) .nil) (.cons (.set 2 (.bin .add (.v 2) (.eF (.seq (.v 4))))) .nil)) .nil)) .nil)
noncomputable def CL:S:=.for (.many [3,4]) (.seq (.v 0)) CK
noncomputable def CM:S:=.ret (.tup (.cons (.v 1) (.cons (.v 2) .nil)))
noncomputable def Kn:Fn:=⟨1,5,(.cons CH (.cons CJ (.cons CL (.cons CM .nil))))⟩
noncomputable def Pt.n:Pt->Nat
 |.keep n=>n
 |.put s=>s.length
 |.drop s=>s.length
noncomputable def tot(c:List Pt):Nat:=(c.map Pt.n).sum
theorem dz(a b:List Pt):tot (a++b)=tot a+tot b:=by simp[tot]
theorem aQ(p:Pt)(c:List Pt):tot (p :: c)=p.n+tot c:=by simp[tot]
noncomputable def b7:Pt->Bool
 |.put _=>true
 |_=>false
noncomputable def ek:Pt->Bool
 |.drop _=>true
 |_=>false
noncomputable def dm:Pt->Bool
 |.keep _=>true
 |_=>false
noncomputable def aR(c:List Pt):Nat:=tot (c.filter λp=>!b7 p)
noncomputable def gp(c:List Pt):Nat:=tot (c.filter λp=>!ek p)
noncomputable def cst(c:List Pt):Nat:=tot (c.filter λp=>!dm p)
section
variable{F:List Fn}{w n aD i:Nat}
theorem fX(hs:F[i]?=some dS)(p:Pt)(hp:p.n<=100000):run F w (n+1) i [.val p.v]=some (.int p.n,[]):=by
 cases p with
 |keep k=>exact cy hs rfl (ai (aL (b:=true) (aB rfl (bE (cC (au rfl) (bf rfl) rfl) (bf rfl) jc) rfl) (λ_=>ai (bR (cC (au rfl) (bf rfl) rfl) ⟨rfl,rfl⟩)) nofun))
 |put s=>exact cy hs rfl (ai (aL (b:=false) (aB rfl (bE (cC (au rfl) (bf rfl) rfl) (bf rfl) jc) rfl) nofun (λ_=>ay (ai (bR (fH (aN (cC (au rfl) (bf rfl) rfl) aZ) (len_str hp)) ⟨rfl,rfl⟩)))))
 |drop s=>exact cy hs rfl (ai (aL (b:=false) (aB rfl (bE (cC (au rfl) (bf rfl) rfl) (bf rfl) jc) rfl) nofun (λ_=>ay (ai (bR (fH (aN (cC (au rfl) (bf rfl) rfl) aZ) (len_str hp)) ⟨rfl,rfl⟩)))))
theorem Wj{c:List Pt}{p:Pt}(h:p∈c):p.n<=tot c:=by
 induction c with
 |nil=>simp at h
 |cons q c ih=>
  rw[aQ];rcases List.mem_cons.mp h with rfl|h
  .omega
  .have:=ih h;omega
theorem Rm(c:List Pt):(c.map λp=>(p.n:Int)).sum=(tot c:Int):=by
 induction c with
 |nil=>rfl
 |cons p c ih=>simp only[List.map_cons,List.sum_cons,ih,aQ];omega
theorem zf{word:List Nat}{pr:Pt->Bool}(hs:F[aD]?=some dS)(hb:F[i]?=some ⟨1,2,.cons (.ret (.bi .sum (.cons (.comp (.cl aD (.cons (.v 1) .nil)) (.one 1) (.seq (.v 0)) (.yes (.cmp .ne (.ix (.v 1) (.c (.int 0))) (.c (.str word))))) .nil))) .nil⟩)
  (hw:∀p:Pt,∃x u,p.v=.tup [.str x,u]/\(!decide (x=word))=pr p) (c:List Pt) (h1:c.length<=10000) (h2:tot c<=100000):run F w (n+2) i [.val (aF c)]=some (.int (tot (c.filter pr)),[]):=by
 refine cy hb rfl (ai (bR (fH (aN (j4 (gy (gM rfl) rfl) rfl (jZ (e:=Pt.v) (p:=pr) (g:=λp=>.int p.n) c λp hp=>?_) (dg (bK ?_))) aZ) ?_) ⟨rfl,rfl⟩))
 .obtain⟨x,u,hx,Ym⟩:=hw p;have hcall:=λfr=>cI (fr:=fr) (fX (w:=w) (n:=n) hs p (Nat.le_trans (Wj hp) h2));rw[hx]at hcall;rw[hx,<-Ym];exact sN rfl (aB rfl (bE (cC (au rfl) (bf rfl) rfl) (bf rfl) iS) rfl) λ_=>bh (aJ rfl (au rfl) aK) (hcall _)
 .rw[List.length_map];exact Nat.le_trans (List.length_filter_le _ _) (Nat.le_trans h1 (by decide))
 .rw[JY,Ak (λp:Pt=>(p.n:Int))];show some (V.int _)=_;rw[Rm]
theorem iT(hs:F[aD]?=some dS)(hb:F[i]?=some (gA aD))(c:List Pt)(h1:c.length<=10000)(h2:tot c<=100000):run F w (n+2) i [.val (aF c)]=some (.int (aR c),[]):=
 zf (pr:=λp=>!b7 p) hs hb (λp=>by cases p<;>exact⟨_,_,rfl,rfl⟩) c h1 h2
theorem um(hs:F[aD]?=some dS)(hb:F[i]?=some (o6 aD))(c:List Pt)(h1:c.length<=10000)(h2:tot c<=100000):run F w (n+2) i [.val (aF c)]=some (.int (gp c),[]):=
 zf (pr:=λp=>!ek p) hs hb (λp=>by cases p<;>exact⟨_,_,rfl,rfl⟩) c h1 h2
end
noncomputable def b5(k:Nat)(g w:List Nat):List Pt:=(if 0<k then [.keep k]else [])++(if g=[]then []else [.drop g])++(if w=[]then []else [.put w])
theorem kR(k:Nat)(g w:List Nat):(b5 k g w).length<=3:=by unfold b5;split<;>split<;>split<;>simp
theorem pT{F:List Fn}{w n i:Nat}(hs:F[i]?=some fP)(k:Nat)(g x:List Nat):run F w (n+1) i [.val (.int k),.val (.str g),.val (.str x)]=some (.lst ((b5 k g x).map Pt.v),[]):=by
 refine cy hs rfl ?_;refine ai (fJ (l:=[]) (by repeat array_get_dec) rfl rfl ?_);have ap:∀(l:List V) (d:V) (fr:Fr) (i:Nat),l.length<=3->fr[i]?=some (some (.own l))->gx .append i [d] fr fr[i]?=.ok .aS (fr.set i (some (.own (l++[d])))):=λl d fr i h e=>by rw[e];exact jN (by omega)
 have fin:∀l:List V,Wp (exs (run F w n) w (.cons jh .nil) [some (.val (.int k)),some (.val (.str g)),some (.val (.str x)),some (.own l)]) λg fr=>g=.ret (.lst l)/\outs 3 fr=[]:=λl=>ai (bR (by repeat array_get_dec) ⟨rfl,rfl⟩);have s3:∀l:List V,l.length<=2->Wp (exs (run F w n) w (.cons kQ (.cons jh .nil)) [some (.val (.int k)),some (.val (.str g)),some (.val (.str x)),some (.own l)]) λg fr=>g=.ret (.lst (l++(if x=[]then []else [Pt.put x]).map Pt.v))/\outs 3 fr=[]:=λl hl=>by
  refine ai (aL (by repeat array_get_dec) (λh=>?_) λh=>?_)
  .have hx:x≠[]:=by simpa using h
   refine ai (fD (by (repeat array_get_dec);exact ap _ _ _ _ (by omega) rfl) (ay ?_));rw[if_neg hx];exact fin _
  .have hx:x=[]:=by simpa using h
   refine ay ?_;rw[if_pos hx,List.map_nil,List.append_nil];exact fin _
 have s2:∀l:List V,l.length<=1->Wp (exs (run F w n) w (.cons pR (.cons kQ (.cons jh .nil))) [some (.val (.int k)),some (.val (.str g)),some (.val (.str x)),some (.own l)]) λy fr=>y=.ret (.lst (l++((if g=[]then []else [Pt.drop g])++(if x=[]then []else [Pt.put x])).map Pt.v))/\outs 3 fr=[]:=λl hl=>by
  refine ai (aL (by repeat array_get_dec) (λh=>?_) λh=>?_)
  .have hx:g≠[]:=by simpa using h
   refine ai (fD (by (repeat array_get_dec);exact ap _ _ _ _ (by omega) rfl) (ay ?_));rw[if_neg hx,List.map_append,<-List.append_assoc];exact s3 _ (by simp;omega)
  .have hx:g=[]:=by simpa using h
   refine ay ?_;rw[if_pos hx,List.nil_append];exact s3 _ (by omega)
 refine ai (aL (by repeat array_get_dec) (λh=>?_) λh=>?_)
 .have hx:0<k:=by have:=of_decide_eq_true h;omega
  refine ai (fD (by (repeat array_get_dec);exact ap _ _ _ _ (by decide) rfl) (ay ?_));unfold b5;rw[if_pos hx,List.append_assoc];exact s2 _ (Nat.le_refl 1)
 .have hx:¬ 0<k:=by have:=of_decide_eq_false h;omega
  refine ay ?_;unfold b5;rw[if_neg hx];exact s2 _ (by decide)
abbrev FS:=List Pt×Nat×List Nat×List Nat
noncomputable def bM(st:FS):Pt->FS
 |.drop s=>(st.1,st.2.1,st.2.2.1++s,st.2.2.2)
 |.put s=>(st.1,st.2.1,st.2.2.1,st.2.2.2++s)
 |.keep k=>if 0<k then (if st.2.2.1=[]/\st.2.2.2=[]then (st.1,st.2.1+k,[],[])else (st.1++b5 st.2.1 st.2.2.1 st.2.2.2,k,[],[]))else st
noncomputable def fL:FS:=([],0,[],[])
noncomputable def dw(st:FS):List Pt:=st.1++b5 st.2.1 st.2.2.1 st.2.2.2
noncomputable def aE(c:List Pt):List Pt:=dw (c.foldl bM fL)
theorem Ko(p:List Pt)(a:Pt):(p++[a]).foldl bM fL=bM (p.foldl bM fL) a:=by simp
theorem wC(c:List Pt):∀st:FS,(c.foldl bM st).1.length<=st.1.length+3*c.length/\(c.foldl bM st).2.2.1.length<=st.2.2.1.length+tot c/\(c.foldl bM st).2.2.2.length<=st.2.2.2.length+tot c:=by
 induction c with
 |nil=>intro st;simp[tot]
 |cons p c ih=>
  intro st;have h:=ih (bM st p);have h2:(bM st p).1.length<=st.1.length+3/\(bM st p).2.2.1.length<=st.2.2.1.length+p.n/\(bM st p).2.2.2.length<=st.2.2.2.length+p.n:=by
   have:=kR st.2.1 st.2.2.1 st.2.2.2;cases p with
   |drop s=>simp[bM,Pt.n]
   |put s=>simp[bM,Pt.n]
   |keep k=>
    simp only[bM];split
    .split
     .simp
     .simp;omega
    .simp
  simp only[List.foldl_cons,List.length_cons,aQ];omega
theorem iw{F:List Fn}{w n bB i:Nat}(hs:F[bB]?=some fP)(hf:F[i]?=some (j6 bB))(c:List Pt)(h1:c.length<=10000)(h2:tot c<=10000):run F w (n+2) i [.val (aF c)]=some (aF (aE c),[]):=by
 refine cy hf rfl ?_;refine ai (fJ (l:=[]) (by repeat array_get_dec) rfl rfl ?_);refine ai (aU (by repeat array_get_dec) rfl rfl ?_);refine ai (aU (by repeat array_get_dec) rfl rfl ?_);refine ai (aU (by repeat array_get_dec) rfl rfl ?_);refine ai (kG (vs:=c.map Pt.v) (gy (gM rfl) rfl) ?_);have ext:∀(st:FS) (fr:Fr),st.1.length<=30010->gx .extend 1 [.lst ((b5 st.2.1 st.2.2.1 st.2.2.2).map Pt.v)] fr (some (some (.own (st.1.map Pt.v))))=.ok .aS (fr.set 1 (some (.own ((dw st).map Pt.v)))):=λst fr h=>by
  have:=kR st.2.1 st.2.2.1 st.2.2.2;unfold dw;rw[List.map_append];exact ze (by simp;omega)
 refine iE (e:=Pt.v) (λp l fr=>p++l=c/\∃a b,vo a/\vo b/\fr=[some (.val (aF c)),some (.own ((p.foldl bM fL).1.map Pt.v)),some (.val (.int (p.foldl bM fL).2.1)),some (.val (.str (p.foldl bM fL).2.2.1)),some (.val (.str (p.foldl bM fL).2.2.2)),a,b]) (λp x l fr ⟨hpl,a,b,ha,hb,hfr⟩=>?_) (λp fr ⟨hpl,a,b,ha,hb,hfr⟩=>?_) c [] _ ⟨rfl,none,none,.none,.none,rfl⟩
 .subst hfr;obtain⟨b1,b2,b3⟩:=wC p fL;have hlen:p.length+l.length+1=c.length:=by rw[<-hpl];simp;omega
  have mR:tot p+x.n+tot l=tot c:=by rw[<-hpl,dz,aQ];omega
  rw[Ko];have gD:(p++[x])++l=c:=by simpa using hpl
  generalize p.foldl bM fL=st at *
  simp[fL]at b1 b2 b3;have rs:=λfr=>fC (fr:=fr) (pT (w:=w) (n:=n) hs st.2.1 st.2.2.1 st.2.2.2);have ex:=λfr=>ext st fr (by omega);cases x with
  |drop s=>
   have hs:s.length<=tot c:=by simp only[Pt.n]at mR;omega
   have ad:=jY (a:=st.2.2.1) (b:=s) (by omega);refine dR (jG rfl ha rfl hb) (ai (aL (by repeat array_get_dec) (λ_=>?_) λh=>absurd h (by decide)));refine ai (aU (by repeat array_get_dec) rfl rfl (ay (ay ?_)));rw[fU];exact⟨gD,_,_,.val,.val,rfl⟩
  |put s=>
   have hs:s.length<=tot c:=by simp only[Pt.n]at mR;omega
   have ad:=jY (a:=st.2.2.2) (b:=s) (by omega);refine dR (jG rfl ha rfl hb) (ai (aL (by repeat array_get_dec) (λh=>absurd h (by decide)) λ_=>?_));refine ai (aL (by repeat array_get_dec) (λ_=>?_) λh=>absurd h (by decide));refine ai (aU (by repeat array_get_dec) rfl rfl (ay (ay (ay ?_))));rw[fU];exact⟨gD,_,_,.val,.val,rfl⟩
  |keep k=>
   refine dR (jG rfl ha rfl hb) (ai (aL (by repeat array_get_dec) (λh=>absurd h (by decide)) λ_=>?_));refine ai (aL (by repeat array_get_dec) (λh=>absurd h (by decide)) λ_=>?_);refine ai (aL (by repeat array_get_dec) (λh=>?_) λh=>?_)
   .have hk:0<k:=by have:=of_decide_eq_true h;omega
    by_cases hg:st.2.2.1=[]/\st.2.2.2=[]
    .have n1:cop .ne (.str st.2.2.1) (.str [])=some false:=by rw[iS,hg.1];rfl
     have n2:cop .ne (.str st.2.2.2) (.str [])=some false:=by rw[iS,hg.2];rfl
     refine ai (aL (b:=false) (dQ (aB rfl (by repeat array_get_dec) rfl) (aB rfl (by repeat array_get_dec) rfl)) (λh=>absurd h (by decide)) λ_=>ay ?_);refine ai (aU (by repeat array_get_dec) rfl rfl (ay (ay (ay (ay ?_)))));rw[fU];refine⟨gD,some (.val (.str eE)),some (.val (.int k)),.val,.val,?_⟩;simp only[bM,if_pos hk,if_pos hg];rw[hg.1,hg.2];rfl
    .have tt:aI (run F w (n+1)) (.orr (.cmp .ne (.v 3) (.c (.str []))) (.cmp .ne (.v 4) (.c (.str [])))) [some (.val (aF c)),some (.own (st.1.map Pt.v)),some (.val (.int st.2.1)),some (.val (.str st.2.2.1)),some (.val (.str st.2.2.2)),some (.val (.str eE)),some (.val (.int k))]=.ok true [some (.val (aF c)),some (.own (st.1.map Pt.v)),some (.val (.int st.2.1)),some (.val (.str st.2.2.1)),some (.val (.str st.2.2.2)),some (.val (.str eE)),some (.val (.int k))]:=by
      by_cases h3:st.2.2.1=[]
      .have h4:¬ st.2.2.2=[]:=λz=>hg ⟨h3,z⟩;have n1:cop .ne (.str st.2.2.1) (.str [])=some false:=by rw[iS,h3];rfl
       have n2:cop .ne (.str st.2.2.2) (.str [])=some true:=by rw[iS,decide_eq_false h4];rfl
       exact dQ (aB rfl (by repeat array_get_dec) rfl) (aB rfl (by repeat array_get_dec) rfl)
      .have n1:cop .ne (.str st.2.2.1) (.str [])=some true:=by rw[iS,decide_eq_false h3];rfl
       exact lP (aB rfl (by repeat array_get_dec) rfl)
     refine ai (aL tt (λ_=>?_) λh=>absurd h (by decide));refine ai (fD (by (repeat (first|array_get_dec|exact rs _|exact ex _))) ?_);refine ai (aU (by repeat array_get_dec) rfl rfl ?_);refine ai (aU (by repeat array_get_dec) rfl rfl ?_);refine ai (aU (by repeat array_get_dec) rfl rfl (ay ?_));refine ai (aU (by repeat array_get_dec) rfl rfl (ay (ay (ay (ay ?_)))));rw[fU];refine⟨gD,some (.val (.str eE)),some (.val (.int k)),.val,.val,?_⟩;simp only[bM,if_pos hk,if_neg hg];rw[Int.zero_add];rfl
   .have hk:¬ 0<k:=by have:=of_decide_eq_false h;omega
    refine ay (ay (ay (ay ?_)));rw[fU];refine⟨gD,some (.val (.str eE)),some (.val (.int k)),.val,.val,?_⟩;simp only[bM,if_neg hk];rfl
 .subst hfr;simp at hpl;subst hpl;obtain⟨b1,b2,b3⟩:=wC p fL;have e:aE p=dw (p.foldl bM fL):=rfl;rw[e];generalize p.foldl bM fL=st at *
  simp[fL]at b1 b2 b3;have sl:=kR st.2.1 st.2.2.1 st.2.2.2;have rs:=λfr=>fC (fr:=fr) (pT (w:=w) (n:=n) hs st.2.1 st.2.2.1 st.2.2.2);have ex:=λfr=>ext st fr (by omega);have mk:toT (.lst ((dw st).map Pt.v))=some (aF (dw st)):=by rw[sL];exact iR (bK (by simp[dw];omega))
  refine ai (fD (by (repeat (first|array_get_dec|exact rs _|exact ex _))) ?_);exact ai (bR (qR (au rfl) mk) ⟨rfl,rfl⟩)
end Pv
namespace Pv
open Ev (D bU bN TY BI ME T E Es Eo It S Ss Fn big deep b2i rep cH ef bL aT cut cV eO slots)
noncomputable def lv(o:Option Sl)(l:List V):Prop:=o=some (.own l)\/o=some (.val (.lst l))
section
variable{o:Option Sl}{l:List V}{fr:Fr}{i:Nat}{s:Sl}
theorem lv.own:lv (some (.own l)) l:=.inl rfl
theorem lv.val:lv (some (.val (.lst l))) l:=.inr rfl
theorem OU(h:lv o l):CB true (some o)=some (.lst l):=by rcases h with rfl|rfl<;>simp
theorem OV(h:lv o l):zd fr i s (some o)=some (fr.set i (some s)):=by rcases h with rfl|rfl<;>simp
theorem zg(h:lv o l):o.map Sl.dD=some (.val (.lst l)):=by rcases h with rfl|rfl<;>simp
end
theorem sP{P:aO}{fr:Fr}{i:Nat}{k:Bool}{o:Option Sl}{l:List V}(hk:k=true)(e:fr[i]?=some o)(h:lv o l):ev P k (.v i) fr=.ok (.lst l) fr:=by
 subst hk;exact au (by rw[Kc,e,OU h])
theorem qU{fr:Fr}{i:Nat}{s:Sl}{o:Option Sl}{l:List V}(e:fr[i]?=some o)(h:lv o l):put fr i s=some (fr.set i (some s)):=by rw[CC,e,OV h]
inductive Tq where
 |at (i:Nat)|sg (c:Nat)
deriving DecidableEq
noncomputable def Tq.v:Tq->V
 |.at i=>.int i
 |.sg c=>.str [c]
noncomputable def Pt.asks:Pt->List (List Nat)
 |.keep n=>List.replicate n []
 |.drop s=>s.map λc=>[c]
 |.put _=>[]
noncomputable def asks(c:List Pt):List (List Nat):=c.flatMap Pt.asks
noncomputable def Pt.told(k:Nat):Pt->List Tq
 |.keep n=>(List.range n).map λj=>.at (k+j)
 |.drop _=>[]
 |.put s=>s.map .sg
noncomputable def told(k:Nat):List Pt->List Tq
 |[]=>[]
 |p :: c=>p.told k++told (k+p.asks.length) c
theorem eN(a b:List Pt):asks (a++b)=asks a++asks b:=by simp[asks]
theorem fY(a b:List Pt):∀k,told k (a++b)=told k a++told (k+(asks a).length) b:=by
 induction a with
 |nil=>intro k;simp[told,asks]
 |cons p a ih=>
  intro k;simp only[List.cons_append,told,ih,List.append_assoc]
  congr 3
  simp[asks];omega
theorem Fb(p:Pt):p.asks.length<=p.n:=by cases p<;>simp[Pt.asks,Pt.n]
theorem Fc(k:Nat)(p:Pt):(p.told k).length<=p.n:=by cases p<;>simp[Pt.told,Pt.n]
theorem Kp(c:List Pt):(asks c).length<=tot c:=by
 induction c with
 |nil=>simp[asks]
 |cons p c ih=>have:=Fb p;simp only[asks,List.flatMap_cons,List.length_append,aQ]at *;omega
theorem Kq(c:List Pt):∀k,(told k c).length<=tot c:=by
 induction c with
 |nil=>intro k;simp[told]
 |cons p c ih=>intro k;have:=Fc k p;have:=ih (k+p.asks.length);simp only[told,List.length_append,aQ];omega
noncomputable def cE(c:List Pt):List V:=(asks c).map V.str
noncomputable def fh(c:List Pt):List V:=(told 0 c).map Tq.v
noncomputable def jK(c:List Pt):List (List Nat)×List Tq:=(asks c,told 0 c)
noncomputable def OW(c:List Pt):V:=.tup [.lst (cE c),.lst (fh c)]
theorem Rn{i j:Int}{n:Nat}(h0:0<=i)(h1:i<=50000)(h2:n<=50000)(e:j=i+n):er [.int i,.int j]=some (range i n):=by
 rw[Wb (by omega) (by omega) (by omega) (by omega)]
 congr 2
 omega
theorem Kr{α:Type}(n:Nat)(a:α):rep n [a]=List.replicate n a:=by
 induction n with
 |zero=>rfl
 |succ n ih=>simp only[rep,List.replicate_succ,List.flatten_cons]at ih ⊢;rw[ih];rfl
theorem uo{F:List Fn}{w n i:Nat}(hs:F[i]?=some Kn)(c:List Pt)(h1:tot c<=1000):run F w (n+1) i [.val (aF c)]=some (OW c,[]):=by
 refine cy hs rfl ?_;refine ai (fJ (l:=[]) (by repeat array_get_dec) rfl rfl ?_);refine ai (fJ (l:=[]) (by repeat array_get_dec) rfl rfl ?_);refine ai (kG (vs:=c.map Pt.v) (gy (gM rfl) rfl) ?_);refine iE (e:=Pt.v) (λp l fr=>p++l=c/\∃o1 o2 a b,lv o1 (cE p)/\lv o2 (fh p)/\vo a/\vo b/\fr=[some (.val (aF c)),o1,o2,a,b]) (λp x l fr ⟨hpl,o1,o2,a,b,qV,h2',ha,hb,hfr⟩=>?_) (λp fr ⟨hpl,o1,o2,a,b,qV,h2',ha,hb,hfr⟩=>?_) c [] _ ⟨rfl,_,_,none,none,.own,.own,.none,.none,rfl⟩
 .subst hfr;have gD:(p++[x])++l=c:=by simpa using hpl
  have mR:tot p+x.n+tot l=tot c:=by rw[<-hpl,dz,aQ];omega
  have lA:(cE p).length<=tot p:=by rw[cE,List.length_map];exact Kp p
  have lT:(fh p).length<=tot p:=by rw[fh,List.length_map];exact Kq p 0
  have hA:cE (p++[x])=cE p++x.asks.map V.str:=by simp[cE,asks]
  have hT:fh (p++[x])=fh p++(x.told (cE p).length).map Tq.v:=by simp[fh,fY,told,cE]
  cases x with
  |drop s=>
   have hs:s.length<=1000:=by simp only[Pt.n]at mR;omega
   have ad:=mL (x:=cE p) (y:=s.map λc=>V.str [c]) (by simp;omega);have hd:cE (p++[.drop s])=cE p++s.map λc=>V.str [c]:=by rw[hA];simp[Pt.asks]
   have ht:fh (p++[.drop s])=fh p:=by rw[hT];simp[Pt.told]
   have mk:=dg (x:=s.map λc=>V.str [c]) (bK (by simp;omega));refine dR (jG rfl ha rfl hb) (ai (aL (by repeat array_get_dec) (λh=>absurd h (by decide)) λ_=>?_));refine ai (aL (by repeat array_get_dec) (λ_=>?_) λh=>absurd h (by decide));refine ai (aU (bX (sP rfl rfl qV) (jE (gy (gM rfl) rfl) mk) ad) rfl (qU rfl qV) (ay (ay (ay ?_))));rw[fU,hd,ht];exact⟨gD,_,o2,_,_,.val,h2',.val,.val,rfl⟩
  |put s=>
   have hs:s.length<=1000:=by simp only[Pt.n]at mR;omega
   have ad:=mL (x:=fh p) (y:=s.map λc=>V.str [c]) (by simp;omega);have hd:fh (p++[.put s])=fh p++s.map λc=>V.str [c]:=by rw[hT];simp[Pt.told,Tq.v]
   have ht:cE (p++[.put s])=cE p:=by rw[hA];simp[Pt.asks]
   have mk:=dg (x:=s.map λc=>V.str [c]) (bK (by simp;omega));refine dR (jG rfl ha rfl hb) (ai (aL (by repeat array_get_dec) (λh=>absurd h (by decide)) λ_=>?_));refine ai (aL (by repeat array_get_dec) (λh=>absurd h (by decide)) λ_=>?_);refine ai (aU (bX (sP rfl rfl h2') (jE (gy (gM rfl) rfl) mk) ad) rfl (qU rfl h2') (ay (ay (ay ?_))));rw[fU,hd,ht];exact⟨gD,o1,_,_,_,qV,.val,.val,.val,rfl⟩
  |keep k=>
   have hs:k<=1000:=by simp only[Pt.n]at mR;omega
   have rg:=Rn (i:=((cE p).length:Int)) (j:=((cE p).length:Int)+k) (n:=k) (by omega) (by omega) (by omega) rfl;have mk:=dg (x:=range ((cE p).length:Int) k) (bK (by simp[range];omega));have ad:=mL (x:=fh p) (y:=range ((cE p).length:Int) k) (by simp[range];omega);have ml:=EK (x:=[V.str []]) (j:=(k:Int)) (by omega) (by omega) (by simp) (by simp[rep];omega);have Yn:=mL (x:=cE p) (y:=rep (k:Int).toNat [V.str []]) (by simp[rep];omega);have hd:fh (p++[.keep k])=fh p++range ((cE p).length:Int) k:=by rw[hT];simp[Pt.told,Tq.v,range]
   have ht:cE (p++[.keep k])=cE p++rep (k:Int).toNat [V.str []]:=by rw[hA,Kr];simp[Pt.asks]
   refine dR (jG rfl ha rfl hb) (ai (aL (by repeat array_get_dec) (λ_=>?_) λh=>absurd h (by decide)));have le:cX .len [.lst (cE p)]=some (.int ((cE p).length:Nat)):=lM;refine ai (aU (bX (sP rfl rfl h2') (jE (jm (vs:=[.int ((cE p).length:Nat),.int (((cE p).length:Nat)+(k:Int))]) (aN (fH (aN (sP rfl rfl qV) aZ) le) (aN (bX (fH (aN (sP rfl rfl qV) aZ) le) (au rfl) fj) aZ)) rg) mk) ad) rfl (qU rfl h2') ?_);refine ai (aU (bX (sP rfl rfl qV) (bX (qQ (aN (bf rfl) aZ) Hs) (au rfl) ml) Yn) rfl (qU rfl qV) (ay (ay ?_)));rw[fU,hd,ht];exact⟨gD,_,_,_,_,.val,.val,.val,.val,rfl⟩
 .subst hfr;simp at hpl;subst hpl;have sh:fS [some (.val (aF p)),o1,o2,a,b]=[some (.val (aF p)),some (.val (.lst (cE p))),some (.val (.lst (fh p))),a,b]:=by
   show _ :: o1.map Sl.dD :: o2.map Sl.dD :: a.map Sl.dD :: [b.map Sl.dD]=_;rw[zg qV,zg h2',dh ha,dh hb];rfl
  refine ai (bR (v:=OW p) (af:=[some (.val (aF p)),some (.val (.lst (cE p))),some (.val (.lst (fh p))),a,b]) ?_ ⟨rfl,rfl⟩);rw[sh];exact mP (aN (au rfl) (aN (au rfl) aZ)) uL
noncomputable def Pt.word:Pt->List Nat
 |.keep _=>eE
 |.put _=>mQ
 |.drop _=>jH
noncomputable def kH(a b:List Nat):Bool:=!(decide (a=b) || (decide (a=mQ)&&decide (b=jH)))
noncomputable def jy:List (List Nat)->Bool
 |a :: b :: r=>kH a b&&jy (b :: r)
 |_=>true
noncomputable def CN(p:Pt):Bool:=p.n != 0
noncomputable def gE(c:List Pt):Bool:=jy (c.map Pt.word)&&c.all CN
theorem fM(k:Nat)(g x:List Nat):asks (b5 k g x)=List.replicate k []++g.map λc=>[c]:=by
  unfold b5;by_cases hk:0<k<;>by_cases hg:g=[]<;>by_cases hx:x=[]<;>simp[hk,hg,hx,asks,Pt.asks]
  all_goals (have:k=0:=by omega
             subst this;simp)
theorem iU(k:Nat)(g x:List Nat)(j:Nat):told j (b5 k g x)=(List.range k).map (λi=>Tq.at (j+i))++x.map Tq.sg:=by
  unfold b5;by_cases hk:0<k<;>by_cases hg:g=[]<;>by_cases hx:x=[]<;>simp[hk,hg,hx,told,Pt.told,Pt.asks]
  all_goals (have:k=0:=by omega
             subst this;simp)
theorem AA(st:FS)(p:Pt):asks (dw (bM st p))=asks (dw st++[p])/\∀j,told j (dw (bM st p))=told j (dw st++[p]):=by
 obtain⟨ps,k,g,x⟩:=st;have e1:∀a:List Pt,asks (a++[p])=asks a++p.asks:=λa=>by simp[asks]
 have e2:∀(a:List Pt) j,told j (a++[p])=told j a++p.told (j+(asks a).length):=λa j=>by simp[fY,told]
 rw[e1];cases p with
 |drop s=>
  refine⟨by simp[bM,dw,eN,fM,Pt.asks],λj=>?_⟩;rw[e2];simp[bM,dw,fY,iU,Pt.told]
 |put s=>
  refine⟨by simp[bM,dw,eN,fM,Pt.asks],λj=>?_⟩;rw[e2];simp[bM,dw,fY,iU,Pt.told]
 |keep m=>
  simp only[bM];split
  .split
   .rename_i h;obtain⟨rfl,rfl⟩:=h;refine⟨by simp[dw,eN,fM,Pt.asks],λj=>?_⟩;rw[e2];simp[dw,eN,fY,iU,fM,Pt.told,List.range_add,Nat.add_assoc]
   .refine⟨by simp[dw,eN,fM,Pt.asks],λj=>?_⟩;rw[e2];simp[dw,eN,fY,iU,fM,Pt.told,Nat.add_assoc]
  .rename_i h;have:m=0:=by omega
   subst this;refine⟨by simp[Pt.asks],λj=>?_⟩;rw[e2];simp[Pt.told]
theorem qW(c:List Pt):∀st:FS,asks (dw (c.foldl bM st))=asks (dw st++c)/\∀j,told j (dw (c.foldl bM st))=told j (dw st++c):=by
 induction c with
 |nil=>intro st;simp
 |cons p c ih=>
  intro st;obtain⟨h1,h2⟩:=ih (bM st p);obtain⟨h3,h4⟩:=AA st p;simp only[List.foldl_cons];have e:dw st++p :: c=(dw st++[p])++c:=by simp
  refine⟨?_,λj=>?_⟩
  .rw[h1,e,eN,eN _ c,h3]
  .rw[h2 j,e,fY,fY _ c,h4 j,h3]
theorem cz(c:List Pt):asks (aE c)=asks c:=by
 have:=(qW c fL).1;simpa[aE,fL,dw,b5]using this
theorem cK(c:List Pt)(j:Nat):told j (aE c)=told j c:=by
 have:=(qW c fL).2 j;simpa[aE,fL,dw,b5]using this
theorem mS(c:List Pt):jK (aE c)=jK c:=by simp[jK,cz,cK]
noncomputable def kps(c:List Pt):Nat:=tot (c.filter dm)
theorem fZ(c:List Pt):(asks c).length=aR c:=by
 induction c with
 |nil=>rfl
 |cons p c ih=>cases p<;>simp[asks,aR,tot,b7,Pt.asks,Pt.n]at ih ⊢<;>omega
theorem j7(c:List Pt):∀j,(told j c).length=gp c:=by
 induction c with
 |nil=>intro j;rfl
 |cons p c ih=>intro j;cases p<;>simp[told,gp,tot,ek,Pt.told,Pt.n,ih]at ih ⊢
theorem kI(n:Nat)(c:List Pt):aR (.keep n :: c)=n+aR c:=by simp[aR,tot,b7,Pt.n]
theorem mT(s:List Nat)(c:List Pt):aR (.drop s :: c)=s.length+aR c:=by simp[aR,tot,b7,Pt.n]
theorem jL(s:List Nat)(c:List Pt):aR (.put s :: c)=aR c:=by simp[aR,tot,b7,Pt.n]
theorem AB(n:Nat)(c:List Pt):gp (.keep n :: c)=n+gp c:=by simp[gp,tot,ek,Pt.n]
theorem AD(s:List Nat)(c:List Pt):gp (.drop s :: c)=gp c:=by simp[gp,tot,ek,Pt.n]
theorem AE(s:List Nat)(c:List Pt):gp (.put s :: c)=s.length+gp c:=by simp[gp,tot,ek,Pt.n]
theorem AF(n:Nat)(c:List Pt):cst (.keep n :: c)=cst c:=by simp[cst,tot,dm,Pt.n]
theorem AG(s:List Nat)(c:List Pt):cst (.drop s :: c)=s.length+cst c:=by simp[cst,tot,dm,Pt.n]
theorem AH(s:List Nat)(c:List Pt):cst (.put s :: c)=s.length+cst c:=by simp[cst,tot,dm,Pt.n]
theorem HA(n:Nat)(c:List Pt):kps (.keep n :: c)=n+kps c:=by simp[kps,tot,List.filter_cons,dm,Pt.n]
theorem HB(s:List Nat)(c:List Pt):kps (.drop s :: c)=kps c:=by simp[kps,tot,dm,Pt.n]
theorem HC(s:List Nat)(c:List Pt):kps (.put s :: c)=kps c:=by simp[kps,tot,dm,Pt.n]
noncomputable def isAt:Tq->Bool
 |.at _=>true
 |_=>false
theorem CO(c:List Pt):∀j,((told j c).filter isAt).length=kps c:=by
 induction c with
 |nil=>intro j;rfl
 |cons p c ih=>
  intro j;have e1:∀(m:Nat) (f:Nat->Nat),(((List.range m).map λi=>Tq.at (f i)).filter isAt).length=m:=λm f=>by
   rw[List.filter_eq_self.mpr]
   .simp
   .intro a ha;obtain⟨i,_,rfl⟩:=List.mem_map.mp ha;rfl
  have e2:∀s:List Nat,((s.map Tq.sg).filter isAt).length=0:=λs=>by
   rw[List.filter_eq_nil_iff.mpr]
   .rfl
   .intro a ha;obtain⟨i,_,rfl⟩:=List.mem_map.mp ha;simp[isAt]
  cases p with
  |keep m=>simp only[told,Pt.told,List.filter_append,List.length_append,e1,ih,kps,tot,dm,List.filter_cons,if_true,List.map_cons,List.sum_cons,Pt.n]
  |put s=>simp only[told,Pt.told,List.filter_append,List.length_append,e2,ih,kps,dm,List.filter_cons];simp
  |drop s=>simp only[told,Pt.told,List.filter_append,List.length_append,ih,kps,dm,List.filter_cons];simp
theorem CP(c:List Pt):(cst c:Int)=aR c - kps c+gp c - kps c:=by
 induction c with
 |nil=>rfl
 |cons p c ih=>cases p<;>simp only[AF,AG,AH,kI,mT,jL,AB,AD,AE,HA,HB,HC]<;>omega
theorem CQ(c:List Pt):tot c+kps c=aR c+gp c:=by
 induction c with
 |nil=>rfl
 |cons p c ih=>cases p<;>simp only[aQ,Pt.n,kI,mT,jL,AB,AD,AE,HA,HB,HC]<;>omega
theorem qh(c:List Pt):aR (aE c)=aR c:=by rw[<-fZ,<-fZ,cz]
theorem wD(c:List Pt):gp (aE c)=gp c:=by rw[<-j7 _ 0,<-j7 _ 0,cK]
theorem wF(c:List Pt):kps (aE c)=kps c:=by rw[<-CO _ 0,<-CO _ 0,cK]
theorem j8(c:List Pt):cst (aE c)=cst c:=by
 have h1:=CP (aE c);have h2:=CP c;rw[qh,wD,wF]at h1;omega
theorem gb(c:List Pt):tot (aE c)=tot c:=by
 have h1:=CQ (aE c);have h2:=CQ c;rw[qh,wD,wF]at h1;omega
theorem sQ:∀(a:List (List Nat)) (b:List (List Nat)),jy (a++b)=true↔jy a=true/\jy b=true/\∀x∈a.getLast?,∀y∈b.head?,kH x y=true
 |[],b=>by simp[jy]
 |[x],[]=>by simp[jy]
 |[x],y :: b=>by simp[jy,and_comm]
 |x :: y :: a,b=>by
  have:=sQ (y :: a) b;simp only[List.cons_append]at this ⊢;simp only[jy,Bool.and_eq_true,this,List.getLast?_cons_cons];constructor
  .rintro⟨h1,h2,h3,h4⟩;exact⟨⟨h1,h2⟩,h3,h4⟩
  .rintro⟨⟨h1,h2⟩,h3,h4⟩;exact⟨h1,h2,h3,h4⟩
theorem xT(k:Nat)(g x:List Nat):gE (b5 k g x)=true:=by
 unfold b5;by_cases hk:0<k<;>by_cases hg:g=[]<;>by_cases hx:x=[]<;>simp[hk,hg,hx,gE,CN,jy,kH,Pt.word,Pt.n,eE,mQ,jH]
 all_goals omega
noncomputable def wG(st:FS):Prop:=gE st.1=true/\(st.1≠[]->0<st.2.1)/\∀p∈st.1.getLast?,p.word≠eE
theorem o7{a b:List Pt}(ha:gE a=true)(hb:gE b=true)(h:∀p∈a.getLast?,∀q∈b.head?,kH p.word q.word=true):gE (a++b)=true:=by
 simp only[gE,Bool.and_eq_true]at ha hb ⊢;refine⟨?_,by rw[List.all_append,ha.2,hb.2];rfl⟩;rw[List.map_append,sQ];refine⟨ha.1,hb.1,λx hx y hy=>?_⟩;simp at hx hy;obtain⟨p,hp,rfl⟩:=hx;obtain⟨q,hq,rfl⟩:=hy;exact h p hp q hq
theorem wH{k:Nat}{g x:List Nat}(hk:0<k):(b5 k g x).head?=some (.keep k):=by simp[b5,hk]
theorem Ks{w:List Nat}(h:w≠eE)(hw:w=mQ\/w=jH):kH w eE=true:=by
 rcases hw with rfl|rfl<;>decide
theorem Ku(p:Pt):p.word=eE\/p.word=mQ\/p.word=jH:=by cases p<;>simp[Pt.word]
theorem wI{st:FS}(h:wG st):gE (dw st)=true:=by
 refine o7 h.1 (xT _ _ _) λp hp q hq=>?_;have hne:st.1≠[]:=by intro z;rw[z]at hp;simp at hp
 rw[wH (h.2.1 hne)]at hq;simp at hq;subst hq;have hw:=h.2.2 p hp;exact Ks hw ((Ku p).resolve_left hw)
theorem wJ{k:Nat}{g x:List Nat}(h:¬ (g=[]/\x=[])):∀p∈(b5 k g x).getLast?,p.word≠eE:=by
 unfold b5;by_cases hx:x=[]
 .have hg:g≠[]:=λz=>h ⟨z,hx⟩;intro p hp;simp[hg,hx]at hp;subst hp;simp[Pt.word,jH,eE]
 .intro p hp;simp[hx]at hp;subst hp;simp[Pt.word,mQ,eE]
theorem CS{st:FS}(h:wG st)(p:Pt):wG (bM st p):=by
 cases p with
 |drop s=>exact h
 |put s=>exact h
 |keep k=>
  simp only[bM];split
  .rename_i hk;split
   .exact⟨h.1,λz=>by simp;omega,h.2.2⟩
   .rename_i TU;refine⟨wI h,λ_=>hk,λp hp=>?_⟩;rw[List.getLast?_append]at hp;cases z:(b5 st.2.1 st.2.2.1 st.2.2.2).getLast? with
    |none=>
     exfalso;rw[List.getLast?_eq_none_iff]at z;unfold b5 at z;by_cases hx:st.2.2.2=[]<;>by_cases hg:st.2.2.1=[]<;>simp[hx,hg]at z TU
    |some q=>
     rw[z]at hp;simp at hp;subst hp;exact wJ TU q z
  .exact h
theorem dH(c:List Pt):gE (aE c)=true:=by
 have:∀(c:List Pt) (st:FS),wG st->wG (c.foldl bM st):=λc=>by
  induction c with
  |nil=>exact λst h=>h
  |cons p c ih=>exact λst h=>ih _ (CS h p)
 exact wI (this c fL ⟨rfl,λz=>absurd rfl z,λp hp=>by simp[fL]at hp⟩)
end Pv
namespace Pv
open Ev (D bU bN TY BI ME T E Es Eo It S Ss Fn big deep b2i rep cH ef bL aT cut cV eO slots)
abbrev Bl:=List Nat×List Nat
abbrev BS:=List Bl×Bl
noncomputable def eS(st:BS):Pt->BS
 |.drop s=>(st.1,(st.2.1++s,st.2.2))
 |.put s=>(st.1,(st.2.1,st.2.2++s))
 |.keep 0=>st
 |.keep (n+1)=>(st.1++st.2 :: List.replicate n ([],[]),([],[]))
noncomputable def pU:BS:=([],([],[]))
noncomputable def blocks(c:List Pt):BS:=c.foldl eS pU
noncomputable def lQ(st:List Pt×Nat)(b:Bl):List Pt×Nat:=if b.1=[]/\b.2=[]then (st.1,st.2+1)else (st.1++b5 st.2 b.1 b.2,1)
noncomputable def pk(bs:List Bl):List Pt×Nat:=bs.foldl lQ ([],0)
theorem Fd(n:Nat):∀st:List Pt×Nat,(List.replicate n (([],[]):Bl)).foldl lQ st=(st.1,st.2+n):=by
 induction n with
 |zero=>intro st;simp
 |succ n ih=>intro st;simp[List.replicate_succ,lQ,ih];omega
noncomputable def zh(st:BS):FS:=((pk st.1).1,(pk st.1).2,st.2.1,st.2.2)
theorem Fe(st:BS)(p:Pt):bM (zh st) p=zh (eS st p):=by
 obtain⟨bs,g,x⟩:=st;cases p with
 |drop s=>rfl
 |put s=>rfl
 |keep n=>
  cases n with
  |zero=>rfl
  |succ n=>
   have e:pk (bs++(g,x) :: List.replicate n ([],[]))=((lQ (pk bs) (g,x)).1,(lQ (pk bs) (g,x)).2+n):=by
    simp only[pk,List.foldl_append,List.foldl_cons,Fd]
   simp only[zh,eS,e,bM,Nat.succ_pos,if_true,lQ];by_cases h:g=[]/\x=[]
   .simp[h];omega
   .simp[h];omega
theorem Ff(c:List Pt):∀st:BS,c.foldl bM (zh st)=zh (c.foldl eS st):=by
 induction c with
 |nil=>intro st;rfl
 |cons p c ih=>intro st;simp only[List.foldl_cons,Fe,ih]
theorem ji(c:List Pt):aE c=dw (zh (blocks c)):=by
 unfold aE blocks;rw[<-Ff];rfl
noncomputable def CT(st:List (List Nat)×List Nat):List Nat->List (List Nat)×List Nat
 |[]=>(st.1++[st.2],[])
 |c :: _=>(st.1,st.2++[c])
noncomputable def spT(st:List (List Nat)×List Nat):Tq->List (List Nat)×List Nat
 |.at _=>(st.1++[st.2],[])
 |.sg c=>(st.1,st.2++[c])
theorem CU(s:List Nat):∀st,(s.map λc=>[c]).foldl CT st=(st.1,st.2++s):=by
 induction s with
 |nil=>intro st;simp
 |cons c s ih=>intro st;simp[CT,ih]
theorem Fi(n:Nat):∀st,(List.replicate n []).foldl CT st=if n=0 then st else (st.1++st.2 :: List.replicate (n - 1) [],[]):=by
 induction n with
 |zero=>intro st;rfl
 |succ n ih=>
  intro st;simp only[List.replicate_succ,List.foldl_cons,CT,ih];cases n with
  |zero=>simp
  |succ n=>simp[List.replicate_succ]
theorem CV(s:List Nat):∀st,(s.map Tq.sg).foldl spT st=(st.1,st.2++s):=by
 induction s with
 |nil=>intro st;simp
 |cons c s ih=>intro st;simp[spT,ih]
theorem Fj(n:Nat):∀(k:Nat) st,((List.range n).map λj=>Tq.at (k+j)).foldl spT st=if n=0 then st else (st.1++st.2 :: List.replicate (n - 1) [],[]):=by
 induction n with
 |zero=>intro k st;rfl
 |succ n ih=>
  intro k st;rw[List.range_succ,List.map_append,List.foldl_append,ih];cases n with
  |zero=>simp[spT]
  |succ n=>
   simp[spT];rw[<-List.replicate_succ',List.replicate_succ]
theorem qX(c:List Pt):∀st:BS,(asks c).foldl CT (st.1.map Prod.fst,st.2.1)=((c.foldl eS st).1.map Prod.fst,(c.foldl eS st).2.1):=by
 induction c with
 |nil=>intro st;rfl
 |cons p c ih=>
  intro st;have e:asks (p :: c)=p.asks++asks c:=by simp[asks]
  rw[e,List.foldl_append,List.foldl_cons,<-ih]
  congr 1
  cases p with
  |drop s=>simp[Pt.asks,CU,eS]
  |put s=>simp[Pt.asks,eS]
  |keep n=>
   simp only[Pt.asks,Fi];cases n with
   |zero=>rfl
   |succ n=>simp[eS]
theorem qY(c:List Pt):∀(k:Nat) (st:BS),(told k c).foldl spT (st.1.map Prod.snd,st.2.2)=((c.foldl eS st).1.map Prod.snd,(c.foldl eS st).2.2):=by
 induction c with
 |nil=>intro k st;rfl
 |cons p c ih=>
  intro k st;rw[told,List.foldl_append,List.foldl_cons,<-ih (k+p.asks.length)]
  congr 1
  cases p with
  |put s=>simp[Pt.told,CV,eS]
  |drop s=>simp[Pt.told,eS]
  |keep n=>
   simp only[Pt.told,Fj];cases n with
   |zero=>rfl
   |succ n=>simp[eS]
theorem zj{α β:Type}:∀{a b:List (α×β)},a.map Prod.fst=b.map Prod.fst->a.map Prod.snd=b.map Prod.snd->a=b
 |[],[],_,_=>rfl
 |[],_ :: _,h,_=>by simp at h
 |_ :: _,[],h,_=>by simp at h
 | (x,y) :: a,(x',y') :: b,h1,h2=>by
  simp at h1 h2;rw[h1.1,h2.1,zj h1.2 h2.2]
theorem oB{a b:List Pt}(h:jK a=jK b):blocks a=blocks b:=by
 have hA:asks a=asks b:=congrArg Prod.fst h;have hT:told 0 a=told 0 b:=congrArg Prod.snd h;have a1:=qX a pU;have b1:=qX b pU;have a2:=qY a 0 pU;have b2:=qY b 0 pU;rw[hA,b1]at a1;rw[hT,b2]at a2;have e1:=congrArg Prod.fst a1;have e2:=congrArg Prod.snd a1;have e3:=congrArg Prod.fst a2;have e4:=congrArg Prod.snd a2;unfold blocks;exact Prod.ext (zj e1.symm e3.symm) (Prod.ext e2.symm e4.symm)
theorem mU(a b:List Pt):aE a=aE b↔jK a=jK b:=by
 constructor
 .intro h;rw[<-mS a,<-mS b,h]
 .intro h;rw[ji,ji,oB h]
theorem oE(a:List Pt):aE (aE a)=aE a:=(mU _ _).mpr (mS a)
noncomputable def Pt.sw:Pt->Pt
 |.keep n=>.keep n
 |.put s=>.drop s
 |.drop s=>.put s
noncomputable def sw(c:List Pt):List Pt:=c.map Pt.sw
theorem uq(c:List Pt):∀st:BS,(sw c).foldl eS (st.1.map Prod.swap,st.2.swap)=((c.foldl eS st).1.map Prod.swap,(c.foldl eS st).2.swap):=by
 induction c with
 |nil=>intro st;rfl
 |cons p c ih=>
  intro st;simp only[sw,List.map_cons,List.foldl_cons]at ih ⊢;rw[<-ih]
  congr 1
  cases p with
  |put s=>rfl
  |drop s=>rfl
  |keep n=>cases n<;>simp[Pt.sw,eS]
theorem Kv{a b:List Pt}(h:aE a=aE b):aE (sw a)=aE (sw b):=by
 have hb:=oB ((mU a b).mp h);rw[ji,ji];have a1:=uq a pU;have b1:=uq b pU;have e:blocks (sw a)=blocks (sw b):=by
  unfold blocks at hb ⊢;have z:((pU.1.map Prod.swap,pU.2.swap):BS)=pU:=rfl;rw[z]at a1 b1;rw[a1,b1,hb]
 rw[e]
noncomputable def Wk(c:List Pt):List Pt:=aE (sw c)
theorem OX(c:List Pt):aR (sw c)=gp c:=by
 induction c with
 |nil=>rfl
 |cons p c ih=>cases p<;>simp only[sw,List.map_cons,Pt.sw,kI,mT,jL,AB,AD,AE]at ih ⊢<;>omega
noncomputable def az:List Pt->List Nat->Bool
 |[],t=>t.isEmpty
 |.keep n :: c,t=>decide (n<=t.length)&&az c (t.drop n)
 |.drop s :: c,t=>s.isPrefixOf t&&az c (t.drop s.length)
 |.put _ :: c,t=>az c t
noncomputable def aM:List Pt->List Nat->List Nat
 |[],_=>[]
 |.keep n :: c,t=>t.take n++aM c (t.drop n)
 |.drop s :: c,t=>aM c (t.drop s.length)
 |.put s :: c,t=>s++aM c t
noncomputable def aC:List (List Nat)->List Nat->Bool
 |[],[]=>true
 |x :: a,c :: t=>(decide (x=[]) ||decide (x=[c]))&&aC a t
 |_,_=>false
theorem CW(n:Nat)(a:List (List Nat)):∀t,aC (List.replicate n []++a) t=(decide (n<=t.length)&&aC a (t.drop n)):=by
 induction n with
 |zero=>intro t;simp
 |succ n ih=>
  intro t;cases t with
  |nil=>simp[List.replicate_succ,aC]
  |cons c t=>simp[List.replicate_succ,aC,ih]
theorem CY(s:List Nat)(a:List (List Nat)):∀t,aC ((s.map λc=>[c])++a) t=(s.isPrefixOf t&&aC a (t.drop s.length)):=by
 induction s with
 |nil=>intro t;simp
 |cons c s ih=>
  intro t;cases t with
  |nil=>simp[aC]
  |cons d t=>
   simp only[List.map_cons,List.cons_append,aC,ih,List.isPrefixOf,List.length_cons,List.drop_succ_cons];by_cases h:c=d<;>simp[h]
theorem cD(c:List Pt):∀t,az c t=aC (asks c) t:=by
 induction c with
 |nil=>intro t;cases t<;>rfl
 |cons p c ih=>
  intro t;have e:asks (p :: c)=p.asks++asks c:=by simp[asks]
  rw[e];cases p with
  |keep n=>simp[az,Pt.asks,CW,ih]
  |drop s=>simp[az,Pt.asks,CY,ih]
  |put s=>simp[az,Pt.asks,ih]
theorem mV(c:List Pt)(t:List Nat):az (aE c) t=az c t:=by rw[cD,cD,cz]
noncomputable def pick(t:List Nat):Tq->List Nat
 |.at i=>(t[i]?).toList
 |.sg c=>[c]
theorem wK(c:List Pt):∀(t:List Nat) (k:Nat),aM c (t.drop k)=(told k c).flatMap (pick t):=by
 induction c with
 |nil=>intro t k;rfl
 |cons p c ih=>
  intro t k;rw[told,List.flatMap_append,<-ih];cases p with
  |put s=>
   simp only[aM,Pt.told,Pt.asks,List.length_nil,Nat.add_zero]
   congr 1
   induction s with
   |nil=>rfl
   |cons c s ih=>simp[pick]at ih ⊢;exact ih
  |drop s=>simp[aM,Pt.told,Pt.asks,Nat.add_comm]
  |keep n=>
   simp only[aM,Pt.told,Pt.asks,List.length_replicate,List.drop_drop]
   congr 1
   induction n generalizing k with
   |zero=>simp
   |succ n ihn=>
    rw[List.range_succ,List.map_append,List.flatMap_append,<-ihn];rw[List.take_add_one];simp[pick]
theorem cL(c:List Pt)(t:List Nat):aM (aE c) t=aM c t:=by
 have h1:=wK (aE c) t 0;have h2:=wK c t 0;rw[cK,<-h2]at h1;simpa using h1
theorem Fp(c:List Pt):∀t,az c t=true->az (sw c) (aM c t)=true/\aM (sw c) (aM c t)=t:=by
 induction c with
 |nil=>intro t h;simp[az]at h;subst h;simp[sw,az,aM]
 |cons p c ih=>
  intro t h;cases p with
  |keep n=>
   simp only[az,Bool.and_eq_true,decide_eq_true_eq]at h;obtain⟨h1,h2⟩:=ih _ h.2;have hl:(t.take n).length=n:=by simp;omega
   simp only[sw,List.map_cons,Pt.sw,aM,az]at h1 h2 ⊢;have e1:(t.take n++aM c (t.drop n)).drop n=aM c (t.drop n):=by rw[List.drop_append_of_le_length (by omega),List.drop_eq_nil_of_le (by omega)];rfl
   have e2:(t.take n++aM c (t.drop n)).take n=t.take n:=by rw[List.take_append_of_le_length (by omega),List.take_take,Nat.min_self]
   rw[e1,e2,h1,h2];simp;omega
  |drop s=>
   simp only[az,Bool.and_eq_true]at h;obtain⟨h1,h2⟩:=ih _ h.2;simp only[sw,List.map_cons,Pt.sw,aM,az]at h1 h2 ⊢;rw[h2];refine⟨h1,?_⟩;obtain⟨r,rfl⟩:=List.isPrefixOf_iff_prefix.mp h.1;simp
  |put s=>
   simp only[az]at h;obtain⟨h1,h2⟩:=ih _ h;simp only[sw,List.map_cons,Pt.sw,aM,az]at h1 h2 ⊢;simp[h1,h2]
end Pv
namespace Pv
open Ev (D bU bN TY BI ME T E Es Eo It S Ss Fn big deep b2i rep cH ef bL aT cut cV eO slots)
noncomputable def Fq:S:=.set 2 (.c (.int 0))
noncomputable def Ft(bx:Nat):Ss:=(.cons (.iff (.an (.cmp .eq (.ix (.v 3) (.c (.int 0))) (.c (.str [100,114,111,112]))) (.cmp .ne (.sl (.v 1) (.yes (.v 2)) (.yes (.bin .add (.v 2) (.cl bx (.cons (.v 3) .nil))))) (.ix (.v 3) (.c (.int 1))))) (.cons (.ret (.c (.bl false))) .nil) .nil) (.cons (.iff (.cmp .ne (.ix (.v 3) (.c (.int 0))) (.c (.str [112,117,116]))) (.cons (.set 2 (.bin .add (.v 2) (.cl bx (.cons (.v 3) .nil)))) .nil) .nil) .nil))
noncomputable def Fv(bx:Nat):S:=.for (.one 3) (.seq (.v 0)) (Ft bx)
noncomputable def Fx:S:=.ret (.cmp .eq (.v 2) (.bi .len (.cons (.v 1) .nil)))
noncomputable def wL(bx:Nat):Fn:=⟨2,4,(.cons Fq (.cons (Fv bx) (.cons Fx .nil)))⟩
noncomputable def Fy(j9:Nat):S:=.iff (.nt (.cl j9 (.cons (.v 0) (.cons (.v 1) .nil)))) (.cons (.eY) .nil) .nil
noncomputable def Fz:S:=.set 2 (.lst .nil)
noncomputable def FA:S:=.set 3 (.c (.int 0))
noncomputable def FD:Ss:=(.cons (.iff (.cmp .eq (.v 4) (.c (.str [112,117,116]))) (.cons (.exp (.me .append (.v 2) (.cons (.v 5) .nil))) .nil) (.cons (.iff (.cmp .eq (.v 4) (.c (.str [100,114,111,112]))) (.cons (.set 3 (.bin .add (.v 3) (.bi .len (.cons (.v 5) .nil)))) .nil) (.cons (.exp (.me .append (.v 2) (.cons (.sl (.v 1) (.yes (.v 3)) (.yes (.bin .add (.v 3) (.v 5)))) .nil))) (.cons (.set 3 (.bin .add (.v 3) (.v 5))) .nil))) .nil)) .nil)
noncomputable def FE:S:=.for (.many [4,5]) (.seq (.v 0)) FD
noncomputable def FF:S:=.ret (.me .join (.c (.str [])) (.cons (.v 2) .nil))
noncomputable def OY(j9:Nat):Fn:=⟨2,6,(.cons (Fy j9) (.cons Fz (.cons FA (.cons FE (.cons FF .nil)))))⟩
noncomputable def xU(bT:Nat):S:=.ret (.cl bT (.cons (.tup (.cons (.tup (.cons (.c (.str [107,101,101,112])) (.cons (.v 0) .nil))) .nil)) .nil))
noncomputable def oF(bT:Nat):Fn:=⟨1,1,(.cons (xU bT) .nil)⟩
theorem CZ{α:Type}(l:List α)(p k:Nat):cut l (some (p:Int)) (some ((p:Int)+k))=(l.drop p).take k:=by
 have h1:¬ (p:Int)<0:=by omega
 have h2:¬ (p:Int)+k<0:=by omega
 have h3:((p:Int)+k).toNat=p+k:=by omega
 simp only[cut,aT,h1,h2,if_false,h3,Int.toNat_natCast];by_cases hp:p<=l.length
 .rw[Nat.min_eq_left hp];by_cases hk:p+k<=l.length
  .rw[Nat.min_eq_left hk];congr 1;omega
  .rw[Nat.min_eq_right (by omega),List.take_of_length_le (by simp),List.take_of_length_le (by simp;omega)]
 .have e1:min p l.length=l.length:=by omega
  rw[e1,List.drop_eq_nil_of_le (Nat.le_refl _),List.drop_eq_nil_of_le (by omega)];simp
theorem pre_take{s t:List Nat}:s.isPrefixOf t=decide (t.take s.length=s):=by
 cases h:s.isPrefixOf t with
 |true=>
  obtain⟨r,rfl⟩:=List.isPrefixOf_iff_prefix.mp h;simp
 |false=>
  symm
  rw[decide_eq_false_iff_not];intro e;have:s.isPrefixOf t=true:=List.isPrefixOf_iff_prefix.mpr (by have z:=List.take_prefix s.length t;rw[e]at z;exact z);rw[h]at this;cases this
theorem lS(a b:List Pt):aR (a++b)=aR a+aR b:=by simp[aR,tot]
theorem dZ{c:List Pt}:∀{t:List Nat},az c t=true->t.length=aR c:=by
 induction c with
 |nil=>intro t h;simp[az]at h;subst h;rfl
 |cons p c ih=>
  intro t h;cases p with
  |keep n=>simp only[az,Bool.and_eq_true,decide_eq_true_eq]at h;have:=ih h.2;rw[kI];simp at this;omega
  |drop s=>
   simp only[az,Bool.and_eq_true]at h;have h2:=ih h.2;obtain⟨r,rfl⟩:=List.isPrefixOf_iff_prefix.mp h.1;rw[mT];simp at h2 ⊢;omega
  |put s=>rw[jL];exact ih h
theorem FG(c:List Pt):∀t,(aM c t).length<=t.length+tot c:=by
 induction c with
 |nil=>intro t;simp[aM]
 |cons p c ih=>
  intro t;rw[aQ];cases p with
  |keep n=>have:=ih (t.drop n);simp[aM,Pt.n]at this ⊢;omega
  |drop s=>have:=ih (t.drop s.length);simp[aM,Pt.n]at this ⊢;omega
  |put s=>have:=ih t;simp[aM,Pt.n]at this ⊢;omega
section
variable{F:List Fn}{w n aD kc bQ bB i:Nat}
theorem FH(c:List Pt)(t:List Nat)(q:Nat)(p:Pt)(l:List Pt)(h:az c t=(decide (q<=t.length)&&az (p :: l) (t.drop q))) :
  (ek p=true->(∃s,p=.drop s/\(if (t.drop q).take s.length=s then az c t=(decide (q+s.length<=t.length)&&az l (t.drop (q+s.length)))else az c t=false)))/\
  (ek p=false->az c t=(decide (q+aR [p]<=t.length)&&az l (t.drop (q+aR [p])))):=by
 cases p with
 |drop s=>
  refine⟨λ_=>⟨s,rfl,?_⟩,λz=>by simp[ek]at z⟩;simp only[az,pre_take,List.drop_drop]at h;split
  .rename_i hs;rw[h];simp only[hs,decide_true,Bool.true_and];have hl:=congrArg List.length hs;simp at hl;by_cases hq:q<=t.length
   .by_cases hq2:q+s.length<=t.length
    .simp[hq,hq2]
    .omega
   .have:¬ q+s.length<=t.length:=by omega
    simp[hq,this]
  .rename_i hs;rw[h];simp[hs]
 |keep k=>
  refine⟨λz=>by simp[ek]at z,λ_=>?_⟩;have e:aR [.keep k]=k:=by rw[kI];rfl
  rw[h,e];simp only[az,List.drop_drop,List.length_drop];by_cases hq:q<=t.length
  .by_cases hq2:q+k<=t.length
   .have:k<=t.length - q:=by omega
    simp[hq,hq2,this]
   .have:¬ k<=t.length - q:=by omega
    simp[hq2,this]
  .have:¬ q+k<=t.length:=by omega
   simp[hq,this]
 |put s=>
  refine⟨λz=>by simp[ek]at z,λ_=>?_⟩;have e:aR [.put s]=0:=by rw[jL];rfl
  rw[h,e];simp[az]
theorem kg(hs:F[aD]?=some dS)(hf:F[i]?=some (wL aD))(c:List Pt)(t:List Nat)(h1:tot c<=10000)(h2:t.length<=10000):run F w (n+2) i [.val (aF c),.val (.str t)]=some (.bl (az c t),[]):=by
 refine cy hf rfl ?_;refine ai (aU (by repeat array_get_dec) rfl rfl ?_);refine ai (kG (vs:=c.map Pt.v) (gy (gM rfl) rfl) ?_);refine iE (e:=Pt.v) (λp l fr=>p++l=c/\az c t=(decide (aR p<=t.length)&&az l (t.drop (aR p)))/\∃a,vo a/\fr=[some (.val (aF c)),some (.val (.str t)),some (.val (.int (aR p))),a]) (λp x l fr ⟨hpl,hfit,a,ha,hfr⟩=>?_) (λp fr ⟨hpl,hfit,a,ha,hfr⟩=>?_) c [] _ ⟨rfl,by simp[aR,tot],none,.none,rfl⟩
 .subst hfr;have mR:tot p+x.n+tot l=tot c:=by rw[<-hpl,dz,aQ];omega
  have sz:=λfr=>cI (fr:=fr) (fX (w:=w) (n:=n) hs x (by omega));obtain⟨k1,k2⟩:=FH c t (aR p) x l hfit;have gD:(p++[x])++l=c:=by simpa using hpl
  have eb:aR (p++[x])=aR p+aR [x]:=lS p [x];have ei:((aR (p++[x]):Nat):Int)=(aR p:Int)+(aR [x]:Nat):=by rw[eb];simp
  cases x with
  |drop s=>
   obtain⟨s',e,k1⟩:=k1 rfl;cases e;have e2:aR [.drop s]=s.length:=by rw[mT];rfl
   rw[e2]at eb ei;have cu:gT (.str t) (some (aR p:Int)) (some ((aR p:Int)+((Pt.drop s).n:Nat)))=some (.str ((t.drop (aR p)).take s.length)):=by rw[iD];exact congrArg (λz=>some (V.str z)) (CZ t (aR p) s.length)
   by_cases hx:(t.drop (aR p)).take s.length=s
   .rw[if_pos hx]at k1;have ne:cop .ne (.str ((t.drop (aR p)).take s.length)) (.str s)=some false:=by rw[iS,decide_eq_true hx];rfl
    refine dR (bind1 rfl ha) (ai (aL (b:=false) (fc (b2:=false) (aB rfl (by repeat array_get_dec) rfl) (aB rfl (by (repeat (first|array_get_dec|exact sz _))) rfl)) (λh=>absurd h (by decide)) λ_=>ay ?_));refine ai (aL (by repeat array_get_dec) (λ_=>?_) λh=>absurd h (by decide));refine ai (aU (by (repeat (first|array_get_dec|exact sz _))) rfl rfl (ay (ay ?_)));rw[fU];exact⟨gD,by rw[eb];exact k1,some (.val (Pt.drop s).v),.val,by rw[ei];rfl⟩
   .rw[if_neg hx]at k1;have ne:cop .ne (.str ((t.drop (aR p)).take s.length)) (.str s)=some true:=by rw[iS,decide_eq_false hx];rfl
    refine dR (bind1 rfl ha) (ai (aL (b:=true) (fc (b2:=true) (aB rfl (by repeat array_get_dec) rfl) (aB rfl (by (repeat (first|array_get_dec|exact sz _))) rfl)) (λ_=>?_) λh=>absurd h (by decide)));refine ai (bR (by repeat array_get_dec) ?_);show nx _ _ _ _ _ _;rw[k1];exact⟨rfl,rfl⟩
  |keep k=>
   have k2:=k2 rfl;have e2:aR [.keep k]=k:=by rw[kI];rfl
   rw[e2]at k2 eb ei;refine dR (bind1 rfl ha) (ai (aL (b:=false) (lO (aB rfl (by repeat array_get_dec) rfl)) (λh=>absurd h (by decide)) λ_=>ay ?_));refine ai (aL (by repeat array_get_dec) (λ_=>?_) λh=>absurd h (by decide));refine ai (aU (by (repeat (first|array_get_dec|exact sz _))) rfl rfl (ay (ay ?_)));rw[fU];exact⟨gD,by rw[eb];exact k2,some (.val (Pt.keep k).v),.val,by rw[ei];rfl⟩
  |put s=>
   have k2:=k2 rfl;have e2:aR [.put s]=0:=by rw[jL];rfl
   rw[e2]at k2 eb;refine dR (bind1 rfl ha) (ai (aL (b:=false) (lO (aB rfl (by repeat array_get_dec) rfl)) (λh=>absurd h (by decide)) λ_=>ay ?_));refine ai (aL (by repeat array_get_dec) (λh=>absurd h (by decide)) λ_=>ay (ay ?_));rw[fU];exact⟨gD,by rw[eb];exact k2,some (.val (Pt.put s).v),.val,by rw[eb];rfl⟩
 .subst hfr;simp at hpl;subst hpl;have e:decide ((aR p:Int)=(t.length:Nat))=az p t:=by
   rw[hfit];simp only[az];by_cases hq:aR p=t.length
   .have:(aR p:Int)=t.length:=by omega
    simp[this,hq]
   .have:¬ (aR p:Int)=t.length:=by omega
    simp[this];intro h;omega
  have ln:cX .len [.str t]=some (.int (t.length:Nat)):=len_str (by omega);have eq:cop .eq (.int (aR p)) (.int (t.length:Nat))=some (az p t):=by rw[OM,e]
  have sh:fS [some (.val (aF p)),some (.val (.str t)),some (.val (.int (aR p))),a]=[some (.val (aF p)),some (.val (.str t)),some (.val (.int (aR p))),a]:=by
   show _ :: _ :: _ :: [a.map Sl.dD]=_;rw[dh ha];rfl
  refine ai (bR (v:=.bl (az p t)) (af:=[some (.val (aF p)),some (.val (.str t)),some (.val (.int (aR p))),a]) ?_ ⟨rfl,rfl⟩);rw[sh];repeat array_get_dec
theorem FJ(hs:F[aD]?=some dS)(hf:F[kc]?=some (wL aD))(hd:F[i]?=some (OY kc))(c:List Pt)(t:List Nat)(h1:tot c<=10000)(h2:t.length<=10000)(h3:c.length<=10000)(h:az c t=true):run F w (n+3) i [.val (aF c),.val (.str t)]=some (.str (aM c t),[]):=by
 refine cy hd rfl ?_;have ft:=λfr=>call2 (fr:=fr) (kg (w:=w) (n:=n) hs hf c t h1 h2);rw[h]at ft;refine ai (aL (b:=false) (jF (aB (b:=true) rfl (by (repeat (first|array_get_dec|exact ft _))) rfl)) (λh=>absurd h (by decide)) λ_=>ay ?_);refine ai (fJ (l:=[]) (by repeat array_get_dec) rfl rfl ?_);refine ai (aU (by repeat array_get_dec) rfl rfl ?_);refine ai (kG (vs:=c.map Pt.v) (gy (gM rfl) rfl) ?_);refine iE (e:=Pt.v) (λp l fr=>p++l=c/\∃ps a b,vo a/\vo b/\ps.length<=p.length/\ps.flatten++aM l (t.drop (aR p))=aM c t/\fr=[some (.val (aF c)),some (.val (.str t)),some (.own (ps.map V.str)),some (.val (.int (aR p))),a,b]) (λp x l fr ⟨hpl,ps,a,b,ha,hb,hl,hd,hfr⟩=>?_) (λp fr ⟨hpl,ps,a,b,ha,hb,hl,hd,hfr⟩=>?_) c [] _ ⟨rfl,[],none,none,.none,.none,by simp,by simp[aR,tot],rfl⟩
 .subst hfr;have gD:(p++[x])++l=c:=by simpa using hpl
  have eb:aR (p++[x])=aR p+aR [x]:=lS p [x];have ei:((aR (p++[x]):Nat):Int)=(aR p:Int)+(aR [x]:Nat):=by rw[eb];simp
  have mR:tot p+x.n+tot l=tot c:=by rw[<-hpl,dz,aQ];omega
  have hlen:p.length+l.length+1=c.length:=by rw[<-hpl];simp;omega
  have ap:∀(fr:Fr) (z:List Nat),gx .append 2 [.str z] fr (some (some (.own (ps.map V.str))))=.ok .aS (fr.set 2 (some (.own ((ps++[z]).map V.str)))):=λfr z=>by
   rw[List.map_append];exact jN (by simp;omega)
  cases x with
  |put s=>
   have e2:aR [.put s]=0:=by rw[jL];rfl
   rw[e2]at eb;refine dR (jG rfl ha rfl hb) (ai (aL (by repeat array_get_dec) (λ_=>?_) λh=>absurd h (by decide)));refine ai (fD (by (repeat (first|array_get_dec|exact ap _ _))) (ay (ay ?_)));rw[fU];exact⟨gD,ps++[s],some (.val (.str mQ)),some (.val (.str s)),.val,.val,by simp;omega,by rw[eb];simpa[aM]using hd,by rw[eb];rfl⟩
  |drop s=>
   have e2:aR [.drop s]=s.length:=by rw[mT];rfl
   rw[e2]at eb ei;have YY:s.length<=tot c:=by simp only[Pt.n]at mR;omega
   have ln:cX .len [.str s]=some (.int (s.length:Nat)):=len_str (by omega);refine dR (jG rfl ha rfl hb) (ai (aL (by repeat array_get_dec) (λh=>absurd h (by decide)) λ_=>?_));refine ai (aL (by repeat array_get_dec) (λ_=>?_) λh=>absurd h (by decide));refine ai (aU (by repeat array_get_dec) rfl rfl (ay (ay (ay ?_))));rw[fU];exact⟨gD,ps,some (.val (.str jH)),some (.val (.str s)),.val,.val,by simp;omega,by rw[eb];simpa[aM]using hd,by rw[ei];rfl⟩
  |keep k=>
   have e2:aR [.keep k]=k:=by rw[kI];rfl
   rw[e2]at eb ei;have cu:gT (.str t) (some (aR p:Int)) (some ((aR p:Int)+(k:Nat)))=some (.str ((t.drop (aR p)).take k)):=by rw[iD,CZ]
   refine dR (jG rfl ha rfl hb) (ai (aL (by repeat array_get_dec) (λh=>absurd h (by decide)) λ_=>?_));refine ai (aL (by repeat array_get_dec) (λh=>absurd h (by decide)) λ_=>?_);refine ai (fD (by (repeat (first|array_get_dec|exact ap _ _))) ?_);refine ai (aU (by repeat array_get_dec) rfl rfl (ay (ay (ay ?_))));rw[fU];exact⟨gD,ps++[(t.drop (aR p)).take k],some (.val (.str eE)),some (.val (.int k)),.val,.val,by simp;omega,by rw[eb];simpa[aM]using hd,by rw[ei];rfl⟩
 .subst hfr;simp at hpl;subst hpl;have hd':ps.flatten=aM p t:=by simpa[aM]using hd
  have dl:=FG p t;have hj:=uM (l:=ps) (by rw[hd'];omega);rw[hd']at hj;have sh:fS [some (.val (aF p)),some (.val (.str t)),some (.own (ps.map V.str)),some (.val (.int (aR p))),a,b]=[some (.val (aF p)),some (.val (.str t)),some (.val (.lst (ps.map V.str))),some (.val (.int (aR p))),a,b]:=by
   show _ :: _ :: _ :: _ :: a.map Sl.dD :: [b.map Sl.dD]=_;rw[dh ha,dh hb];rfl
  refine ai (bR (v:=.str (aM p t)) (af:=[some (.val (aF p)),some (.val (.str t)),some (.val (.lst (ps.map V.str))),some (.val (.int (aR p))),a,b]) ?_ ⟨rfl,rfl⟩);rw[sh];repeat array_get_dec
end
end Pv
namespace Pv
open Ev (rep)
theorem C0(ns:List Int)(at_:Int)(s:List Nat)(k:Nat):tot (jI ns at_ s k)<=3:=by
 have h1:=j3 ns (at_+4*k+2) (many:=2) (by decide);have h2:=j0 ns (at_+4*k+2) (many:=2) (by decide);unfold jI;rw[dz];have a:tot (if cT ns (at_+4*k) 4=0 then [Pt.put (rep (1+cT ns (at_+4*k+2) 2).toNat [[97,98,122].getD (cT ns (at_+4*k+1) 3).toNat 0])]else [])<=2:=by
  split
  .simp[tot,Pt.n,rep];omega
  .simp[tot]
 cases s[k]? with
 |none=>simp[tot]at a ⊢;omega
 |some c=>
  have b:tot [if 0<cT ns (at_+4*k+3) 3 then Pt.keep 1 else Pt.drop [c]]<=1:=by split<;>simp[tot,Pt.n]
  simp only at b ⊢;omega
theorem ur(ns:List Int)(at_:Int)(s:List Nat):∀k,tot (fV ns at_ s k)<=3*k
 |0=>by simp[fV,tot]
 |k+1=>by
  have h1:=C0 ns at_ s k;have h2:=ur ns at_ s k;rw[jJ,dz];omega
theorem qi:∀{a:List (List Nat)}{t:List Nat},aC a t=true->a.length=t.length
 |[],[],_=>rfl
 |x :: a,c :: t,h=>by simp[aC]at h;simp[qi h.2]
 |[],_ :: _,h=>by simp[aC]at h
 |_ :: _,[],h=>by simp[aC]at h
theorem wN:∀{a b:List (List Nat)}{t u:List Nat},aC a t=true->aC b u=true->aC (a++b) (t++u)=true
 |[],_,[],_,_,hb=>hb
 |x :: a,b,c :: t,u,ha,hb=>by
  simp only[aC,Bool.and_eq_true]at ha;simp only[List.cons_append,aC,Bool.and_eq_true];exact⟨ha.1,wN ha.2 hb⟩
 |[],_,_ :: _,_,ha,_=>by simp[aC]at ha
 |_ :: _,_,[],_,ha,_=>by simp[aC]at ha
theorem Kw(ns:List Int)(at_:Int)(s:List Nat)(k:Nat):aC (asks (jI ns at_ s k)) (s[k]?).toList=true:=by
 unfold jI;rw[eN];have a:asks (if cT ns (at_+4*k) 4=0 then [Pt.put (rep (1+cT ns (at_+4*k+2) 2).toNat [[97,98,122].getD (cT ns (at_+4*k+1) 3).toNat 0])]else [])=[]:=by
  split<;>simp[asks,Pt.asks]
 rw[a];cases s[k]? with
 |none=>simp[asks,aC]
 |some c=>simp only;split<;>simp[asks,Pt.asks,aC]
theorem C1(ns:List Int)(at_:Int)(s:List Nat):∀k,aC (asks (fV ns at_ s k)) (s.take k)=true
 |0=>by simp[fV,asks,aC]
 |k+1=>by
  rw[jJ,eN,List.take_add_one];exact wN (C1 ns at_ s k) (Kw ns at_ s k)
theorem zk(ns:List Int)(at_:Int)(s:List Nat):az (chg ns at_ s) s=true:=by
 have:=C1 ns at_ s (s.length+1);rw[List.take_of_length_le (by omega)]at this;rw[cD];exact this
end Pv
namespace Pv
inductive At where
 |k|d (c:Nat)|p (c:Nat)
noncomputable def Pt.av:Pt->List At
 |.keep n=>List.replicate n .k
 |.drop s=>s.map .d
 |.put s=>s.map .p
noncomputable def av(c:List Pt):List At:=c.flatMap Pt.av
theorem dI(a b:List Pt):av (a++b)=av a++av b:=by simp[av]
theorem bz(p:Pt)(c:List Pt):av (p :: c)=p.av++av c:=by simp[av]
theorem wO(p:Pt):p.av.length=p.n:=by cases p<;>simp[Pt.av,Pt.n]
theorem dJ(c:List Pt):(av c).length=tot c:=by
 induction c with
 |nil=>rfl
 |cons p c ih=>rw[bz,List.length_append,wO,ih,aQ]
noncomputable def tA:Nat->List At->List Tq
 |_,[]=>[]
 |i,.k :: a=>.at i :: tA (i+1) a
 |i,.d _ :: a=>tA (i+1) a
 |i,.p c :: a=>.sg c :: tA i a
noncomputable def aA:List At->List (List Nat)
 |[]=>[]
 |.k :: a=>[] :: aA a
 |.d c :: a=>[c] :: aA a
 |.p _ :: a=>aA a
noncomputable def dA:List At->List Nat->List Nat
 |[],_=>[]
 |.k :: a,t=>t.take 1++dA a (t.drop 1)
 |.d _ :: a,t=>dA a (t.drop 1)
 |.p c :: a,t=>c :: dA a t
noncomputable def pV:At->At
 |.k=>.k
 |.d c=>.p c
 |.p c=>.d c
noncomputable def cA:List At->Nat
 |[]=>0
 |.k :: a=>cA a
 |_ :: a=>cA a+1
theorem qZ:∀a b:List At,aA (a++b)=aA a++aA b
 |[],_=>rfl
 |.k :: a,b=>by simp[aA,qZ a b]
 |.d c :: a,b=>by simp[aA,qZ a b]
 |.p c :: a,b=>by simp[aA,qZ a b]
theorem q8:∀(a b:List At) (i:Nat),tA i (a++b)=tA i a++tA (i+(aA a).length) b
 |[],_,_=>rfl
 |.k :: a,b,i=>by simp[tA,aA,q8 a b,Nat.add_assoc,Nat.add_comm 1]
 |.d c :: a,b,i=>by simp[tA,aA,q8 a b,Nat.add_assoc,Nat.add_comm 1]
 |.p c :: a,b,i=>by simp[tA,aA,q8 a b]
theorem q9:∀a b:List At,cA (a++b)=cA a+cA b
 |[],b=>by simp[cA]
 |.k :: a,b=>by simp[cA,q9 a b]
 |.d c :: a,b=>by simp[cA,q9 a b];omega
 |.p c :: a,b=>by simp[cA,q9 a b];omega
theorem HD(p:Pt):aA p.av=p.asks:=by
 cases p with
 |keep n=>simp only[Pt.av,Pt.asks];induction n<;>simp_all [List.replicate_succ,aA]
 |drop s=>simp only[Pt.av,Pt.asks];induction s<;>simp_all [aA]
 |put s=>simp only[Pt.av,Pt.asks];induction s<;>simp_all [aA]
theorem Rq(p:Pt):∀i,tA i p.av=p.told i:=by
 cases p with
 |keep n=>
  simp only[Pt.av,Pt.told];induction n with
  |zero=>intro i;rfl
  |succ n ih=>intro i;simp only[List.replicate_succ,tA,ih,List.range_succ_eq_map,List.map_cons,List.map_map];simp[Function.comp_def,Nat.add_assoc,Nat.add_comm 1]
 |drop s=>intro i;simp only[Pt.av,Pt.told];induction s generalizing i<;>simp_all [tA]
 |put s=>intro i;simp only[Pt.av,Pt.told];induction s generalizing i<;>simp_all [tA]
theorem Rt(p:Pt):cA p.av=cst [p]:=by
 cases p with
 |keep n=>simp only[Pt.av];rw[AF];induction n<;>simp_all [List.replicate_succ,cA,cst,tot]
 |drop s=>simp only[Pt.av];rw[AG];induction s<;>simp_all [cA,cst,tot]
 |put s=>simp only[Pt.av];rw[AH];induction s<;>simp_all [cA,cst,tot]
theorem bO(c:List Pt):asks c=aA (av c):=by
 induction c with
 |nil=>rfl
 |cons p c ih=>rw[bz,qZ,HD,<-ih];simp[asks]
theorem b6(c:List Pt):∀i,told i c=tA i (av c):=by
 induction c with
 |nil=>intro i;rfl
 |cons p c ih=>intro i;rw[bz,q8,Rq,HD,<-ih,told]
theorem lU(c:List Pt):cst c=cA (av c):=by
 induction c with
 |nil=>rfl
 |cons p c ih=>
  rw[bz,q9,Rt,<-ih];simp[cst,tot];cases p<;>simp[List.filter_cons,dm]
theorem wQ(c:List Pt):av (sw c)=(av c).map pV:=by
 induction c with
 |nil=>rfl
 |cons p c ih=>
  have:av (sw (p :: c))=p.sw.av++av (sw c):=by simp[av,sw]
  rw[this,ih,bz,List.map_append]
  congr 1
  cases p<;>simp[Pt.sw,Pt.av,pV,Function.comp_def]
theorem cZ:∀(c:List Pt) (t:List Nat),aM c t=dA (av c) t:=by
 have k:∀(n:Nat) (a:List At) (t:List Nat),dA (List.replicate n .k++a) t=t.take n++dA a (t.drop n):=λn=>by
  induction n with
  |zero=>intro a t;simp
  |succ n ih=>
   intro a t;simp only[List.replicate_succ,List.cons_append,dA,ih,List.drop_drop];cases t with
   |nil=>simp
   |cons c t=>simp[Nat.add_comm 1]
 have d:∀(s:List Nat) (a:List At) (t:List Nat),dA (s.map .d++a) t=dA a (t.drop s.length):=λs=>by
  induction s with
  |nil=>intro a t;simp
  |cons c s ih=>intro a t;simp[dA,ih,Nat.add_comm 1]
 have p:∀(s:List Nat) (a:List At) (t:List Nat),dA (s.map .p++a) t=s++dA a t:=λs=>by
  induction s with
  |nil=>intro a t;simp
  |cons c s ih=>intro a t;simp[dA,ih]
 intro c;induction c with
 |nil=>intro t;rfl
 |cons q c ih=>
  intro t;rw[bz];cases q with
  |keep n=>simp only[Pt.av,k,aM,ih]
  |drop s=>simp only[Pt.av,d,aM,ih]
  |put s=>simp only[Pt.av,p,aM,ih]
noncomputable def C2:List At->Bool
 |.d _ :: _=>false
 |_=>true
inductive Th:List At->List At->List At->Prop
 |nil:Th [] [] []
 |d {a b r c}:Th a b r->Th (.d c :: a) b (.d c :: r)
 |p {a b r c}:C2 a=true->Th a b r->Th a (.p c :: b) (.p c :: r)
 |kk {a b r}:Th a b r->Th (.k :: a) (.k :: b) (.k :: r)
 |kd {a b r c}:Th a b r->Th (.k :: a) (.d c :: b) (.d c :: r)
 |pk {a b r c}:Th a b r->Th (.p c :: a) (.k :: b) (.p c :: r)
 |pd {a b r c}:Th a b r->Th (.p c :: a) (.d c :: b) r
noncomputable def sub(L:List Tq):Tq->Tq
 |.at j=>L.getD j (.sg 0)
 |.sg c=>.sg c
theorem oG{L M:List Tq}{q:Tq}{j:Nat}(h:L.length=j):sub (L++q :: M) (.at j)=q:=by
 subst h;simp[sub]
theorem Th.told{a b r:List At}(h:Th a b r):∀(i j:Nat) (L:List Tq),L.length=j->tA i r=(tA j b).map (sub (L++tA i a)):=by
 induction h with
 |nil=>intro i j L hL;rfl
 |d h ih=>intro i j L hL;exact ih (i+1) j L hL
 |p _ h ih=>intro i j L hL;simp only[tA,List.map_cons];rw[ih i j L hL];rfl
 |kk h ih=>
  intro i j L hL;simp only[tA,List.map_cons];rw[ih (i+1) (j+1) (L++[.at i]) (by simp[hL]),oG hL];simp
 |kd h ih=>
  intro i j L hL;simp only[tA];rw[ih (i+1) (j+1) (L++[.at i]) (by simp[hL])];simp
 |@pk _ _ _ c h ih=>
  intro i j L hL;simp only[tA,List.map_cons];rw[ih i (j+1) (L++[.sg c]) (by simp[hL]),oG hL];simp
 |@pd _ _ _ c h ih=>
  intro i j L hL;simp only[tA];rw[ih i (j+1) (L++[.sg c]) (by simp[hL])];simp
theorem Th.back{a b r:List At}(h:Th a b r):∀(i j:Nat) (L:List Tq),L.length=j->tA i (r.map pV)=(tA j (a.map pV)).map (sub (L++tA i (b.map pV))):=by
 induction h with
 |nil=>intro i j L hL;rfl
 |d h ih=>intro i j L hL;simp only[List.map_cons,pV,tA];rw[ih i j L hL];rfl
 |p _ h ih=>intro i j L hL;exact ih (i+1) j L hL
 |kk h ih=>
  intro i j L hL;simp only[List.map_cons,pV,tA];rw[ih (i+1) (j+1) (L++[.at i]) (by simp[hL]),oG hL];simp
 |@kd _ _ _ c h ih=>
  intro i j L hL;simp only[List.map_cons,pV,tA];rw[ih i (j+1) (L++[.sg c]) (by simp[hL]),oG hL];simp
 |pk h ih=>
  intro i j L hL;simp only[List.map_cons,pV,tA];rw[ih (i+1) (j+1) (L++[.at i]) (by simp[hL])];simp
 |@pd _ _ _ c h ih=>
  intro i j L hL;simp only[List.map_cons,pV,tA];rw[ih i (j+1) (L++[.sg c]) (by simp[hL])];simp
theorem Th.fit{a b r:List At}(h:Th a b r):∀t,aC (aA a) t=true->aC (aA b) (dA a t)=true->aC (aA r) t=true:=by
 induction h with
 |nil=>intro t h1 _;exact h1
 |d h ih=>
  intro t h1 h2;cases t with
  |nil=>simp[aA,aC]at h1
  |cons x t=>simp only[aA,aC,Bool.and_eq_true]at h1 ⊢;exact⟨h1.1,ih t h1.2 h2⟩
 |p _ h ih=>intro t h1 h2;exact ih t h1 h2
 |kk h ih=>
  intro t h1 h2;cases t with
  |nil=>simp[aA,aC]at h1
  |cons x t=>simp only[aA,aC,Bool.and_eq_true,dA,List.take_succ_cons,List.take_zero,List.drop_succ_cons,List.drop_zero,List.singleton_append]at h1 h2 ⊢;exact⟨h1.1,ih t h1.2 h2.2⟩
 |kd h ih=>
  intro t h1 h2;cases t with
  |nil=>simp[aA,aC]at h1
  |cons x t=>simp only[aA,aC,Bool.and_eq_true,dA,List.take_succ_cons,List.take_zero,List.drop_succ_cons,List.drop_zero,List.singleton_append]at h1 h2 ⊢;exact⟨h2.1,ih t h1.2 h2.2⟩
 |pk h ih=>intro t h1 h2;simp only[aA,dA,aC,Bool.and_eq_true]at h1 h2 ⊢;exact ih t h1 h2.2
 |pd h ih=>intro t h1 h2;simp only[aA,dA,aC,Bool.and_eq_true]at h1 h2 ⊢;exact ih t h1 h2.2
theorem Th.all:∀(n:Nat) (a b:List At) (t:List Nat),a.length+b.length<=n->aC (aA a) t=true->aC (aA b) (dA a t)=true->∃r,Th a b r:=by
 intro n;induction n with
 |zero=>
  intro a b t hn _ _;obtain rfl:a=[]:=List.length_eq_zero_iff.mp (by omega);obtain rfl:b=[]:=List.length_eq_zero_iff.mp (by omega);exact⟨[],.nil⟩
 |succ n ih=>
  intro a b t hn h1 h2;cases a with
  |nil=>
   cases b with
   |nil=>exact⟨[],.nil⟩
   |cons y b=>
    cases y with
    |p c=>obtain⟨r,h⟩:=ih [] b t (by simp at hn ⊢;omega) h1 h2;exact⟨_,.p rfl h⟩
    |k=>simp[aA,dA,aC]at h2
    |d c=>simp[aA,dA,aC]at h2
  |cons x a=>
   by_cases hd:C2 (x :: a)=true
   .cases b with
    |nil=>
     cases x with
     |d c=>cases hd
     |k=>cases t<;>simp[aA,dA,aC]at h1 h2
     |p c=>simp[aA,dA,aC]at h2
    |cons y b=>
     cases y with
     |p c=>obtain⟨r,h⟩:=ih (x :: a) b t (by simp at hn ⊢;omega) h1 h2;exact⟨_,.p hd h⟩
     |k=>
      cases x with
      |d c=>cases hd
      |k=>
       cases t with
       |nil=>simp[aA,aC]at h1
       |cons z t=>
        simp[aA,aC,dA]at h1 h2;obtain⟨r,h⟩:=ih a b t (by simp at hn ⊢;omega) h1 h2;exact⟨_,.kk h⟩
      |p c=>
       simp[aA,aC,dA]at h1 h2;obtain⟨r,h⟩:=ih a b t (by simp at hn ⊢;omega) h1 h2;exact⟨_,.pk h⟩
     |d c'=>
      cases x with
      |d c=>cases hd
      |k=>
       cases t with
       |nil=>simp[aA,aC]at h1
       |cons z t=>
        simp[aA,aC,dA]at h1 h2;obtain⟨r,h⟩:=ih a b t (by simp at hn ⊢;omega) h1 h2.2;exact⟨_,.kd h⟩
      |p c=>
       simp[aA,aC,dA]at h1 h2;obtain⟨rfl,h2⟩:=h2;obtain⟨r,h⟩:=ih a b t (by simp at hn ⊢;omega) h1 h2;exact⟨_,.pd h⟩
   .cases x with
    |k=>exact absurd rfl hd
    |p c=>exact absurd rfl hd
    |d c=>
     cases t with
     |nil=>simp[aA,aC]at h1
     |cons z t=>
      simp[aA,aC]at h1;obtain⟨r,h⟩:=ih a b t (by simp at hn ⊢;omega) h1.2 h2;exact⟨_,.d h⟩
theorem Th.done{a b r:List At}(h:Th a b r):∀t,aC (aA a) t=true->dA r t=dA b (dA a t):=by
 induction h with
 |nil=>intro t _;rfl
 |d h ih=>
  intro t h1;cases t with
  |nil=>simp[aA,aC]at h1
  |cons x t=>simp only[aA,aC,Bool.and_eq_true]at h1;simp only[dA];exact ih t h1.2
 |p _ h ih=>intro t h1;simp only[dA];rw[ih t h1]
 |kk h ih=>
  intro t h1;cases t with
  |nil=>simp[aA,aC]at h1
  |cons x t=>simp only[aA,aC,Bool.and_eq_true]at h1;simp[dA,ih t h1.2]
 |kd h ih=>
  intro t h1;cases t with
  |nil=>simp[aA,aC]at h1
  |cons x t=>simp only[aA,aC,Bool.and_eq_true]at h1;simp[dA,ih t h1.2]
 |pk h ih=>intro t h1;simp[dA,ih t h1]
 |pd h ih=>intro t h1;simp[dA,ih t h1]
theorem Th.cost{a b r:List At}(h:Th a b r):cA r<=cA a+cA b:=by induction h<;>simp[cA]<;>omega
theorem Th.len{a b r:List At}(h:Th a b r):r.length<=a.length+b.length:=by induction h<;>simp<;>omega
theorem Th.ds{b r:List At}:∀{s:List Nat}{a:List At},Th (s.map .d++a) b r->∃r',r=s.map .d++r'/\Th a b r'
 |[],a,h=>⟨r,rfl,h⟩
 |c :: s,a,h=>by
  cases h with
  |d h=>obtain⟨r',rfl,h'⟩:=Th.ds h;exact⟨r',rfl,h'⟩
  |p hn h=>cases hn
theorem Th.ps{a r:List At}(hn:C2 a=true):∀{s:List Nat}{b:List At},Th a (s.map .p++b) r->∃r',r=s.map .p++r'/\Th a b r'
 |[],b,h=>⟨r,rfl,h⟩
 |c :: s,b,h=>by
  cases h with
  |d h=>cases hn
  |p _ h=>obtain⟨r',rfl,h'⟩:=Th.ps hn h;exact⟨r',rfl,h'⟩
theorem Th.HE{a b r:List At}:∀{n:Nat},Th (List.replicate n .k++a) (List.replicate n .k++b) r->∃r',r=List.replicate n .k++r'/\Th a b r':=λ{n}=>by
 induction n generalizing r with
 |zero=>intro h;exact⟨r,rfl,h⟩
 |succ n ih=>intro h;cases h with|kk h=>obtain⟨r',rfl,h'⟩:=ih h;exact⟨r',rfl,h'⟩
theorem Th.HF{a b r:List At}:∀{s:List Nat},Th (List.replicate s.length .k++a) (s.map .d++b) r->∃r',r=s.map .d++r'/\Th a b r':=λ{s}=>by
 induction s generalizing r with
 |nil=>intro h;exact⟨r,rfl,h⟩
 |cons c s ih=>intro h;cases h with|kd h=>obtain⟨r',rfl,h'⟩:=ih h;exact⟨r',rfl,h'⟩
theorem Th.Yo{a b r:List At}:∀{s:List Nat},Th (s.map .p++a) (List.replicate s.length .k++b) r->∃r',r=s.map .p++r'/\Th a b r':=λ{s}=>by
 induction s generalizing r with
 |nil=>intro h;exact⟨r,rfl,h⟩
 |cons c s ih=>intro h;cases h with|pk h=>obtain⟨r',rfl,h'⟩:=ih h;exact⟨r',rfl,h'⟩
theorem Th.TV{a b r:List At}:∀{s s':List Nat},s.length=s'.length->Th (s.map .p++a) (s'.map .d++b) r->s=s'/\Th a b r
 |[],[],_,h=>⟨rfl,h⟩
 |[],_ :: _,hl,_=>by simp at hl
 |_ :: _,[],hl,_=>by simp at hl
 |c :: s,c' :: s',hl,h=>by cases h with|pd h=>obtain⟨rfl,h'⟩:=Th.TV (by simpa using hl) h;exact⟨rfl,h'⟩
theorem iF:∀(a:List At) (i q:Nat),Tq.at q∈tA i a↔∃j,q=i+j/\(aA a)[j]?=some []
 |[],i,q=>by simp[tA,aA]
 |.k :: a,i,q=>by
  simp only[tA,List.mem_cons,iF a,aA];constructor
  .rintro(h|⟨j,rfl,h⟩)
   .cases h;exact⟨0,rfl,by simp⟩
   .exact⟨j+1,by omega,by simpa using h⟩
  .rintro⟨j,rfl,h⟩;cases j with
   |zero=>exact .inl rfl
   |succ j=>exact .inr ⟨j,by omega,by simpa using h⟩
 |.d c :: a,i,q=>by
  simp only[tA,iF a,aA];constructor
  .rintro⟨j,rfl,h⟩;exact⟨j+1,by omega,by simpa using h⟩
  .rintro⟨j,rfl,h⟩;cases j with
   |zero=>simp at h
   |succ j=>exact⟨j,by omega,by simpa using h⟩
 |.p c :: a,i,q=>by simp[tA,iF a,aA]
theorem sR:∀{a:List (List Nat)}{t:List Nat},aC a t=true->∀(j:Nat) x,a[j]?=some x->x=[]\/∃c,t[j]?=some c/\x=[c]
 |y :: a,c :: t,h,j,x,e=>by
  simp only[aC,Bool.and_eq_true,Bool.or_eq_true,decide_eq_true_eq]at h;cases j with
  |zero=>simp at e;subst e;exact h.1.imp id λz=>⟨c,by simp,z⟩
  |succ j=>simpa using sR h.2 j x (by simpa using e)
 |[],[],_,j,x,e=>by simp at e
 |[],_ :: _,h,_,_,_=>by simp[aC]at h
 |_ :: _,[],h,_,_,_=>by simp[aC]at h
theorem C3{a:List At}{A:List (List Nat)}{t:List Nat}(ha:aC (aA a) t=true)(hb:aC A t=true)(h:∀q:Nat,Tq.at q∈tA 0 a↔A[q]?=some []):aA a=A:=by
 have la:=qi ha;have lb:=qi hb;apply List.ext_getElem?;intro j;by_cases hj:j<t.length
 .obtain⟨x,hx⟩:∃x,(aA a)[j]?=some x:=⟨_,List.getElem?_eq_getElem (by omega)⟩
  obtain⟨y,hy⟩:∃y,A[j]?=some y:=⟨_,List.getElem?_eq_getElem (by omega)⟩
  have k1:=iF a 0 j;rw[h j,hy]at k1;have hxy:x=[]↔y=[]:=by
   constructor
   .rintro rfl;have:=k1.mpr ⟨j,by omega,hx⟩;cases this;rfl
   .rintro rfl;obtain⟨i,hi,e⟩:=k1.mp rfl;obtain rfl:i=j:=by omega
    rw[e]at hx;cases hx;rfl
  rw[hx,hy];rcases sR ha j x hx with TX|⟨c,hc,TJ⟩
  .rw[TX,hxy.mp TX]
  .rcases sR hb j y hy with TZ|⟨c',hc',hy1⟩
   .rw[TZ,hxy.mpr TZ]
   .rw[hc]at hc';cases hc';rw[TJ,hy1]
 .rw[List.getElem?_eq_none (by omega),List.getElem?_eq_none (by omega)]
theorem C4{a b:List At}{t:List Nat}(ha:aC (aA a) t=true)(hb:aC (aA b) t=true)(h:tA 0 a=tA 0 b):aA a=aA b:=
 C3 ha hb λq=>by
  rw[h,iF b 0 q];constructor
  .rintro⟨j,hj,e⟩;obtain rfl:q=j:=by omega
   exact e
  .intro e;exact⟨q,by omega,e⟩
theorem C5{a b:List Pt}{t:List Nat}(ha:az a t=true)(hb:az b t=true)(h:told 0 a=told 0 b):aE a=aE b:=by
 rw[mU];rw[cD]at ha hb;have h':=h;rw[bO]at ha hb;rw[b6,b6]at h';have:=C4 ha hb h';simp only[jK,h,bO,this]
theorem sub_sub(L M:List Tq)(q:Tq):sub M (sub L q)=sub (L.map (sub M)) q:=by
 cases q with
 |sg c=>rfl
 |«at» j=>
  simp only[sub,List.getD_eq_getElem?_getD,List.getElem?_map];cases L[j]?<;>rfl
theorem wR(L M T:List Tq):(T.map (sub L)).map (sub M)=T.map (sub (L.map (sub M))):=by
 rw[List.map_map];exact List.map_congr_left λq _=>sub_sub L M q
theorem FL{a:List At}{M:List Tq}(h:∀j:Nat,(aA a)[j]?=some []->M[j]?=some (Tq.at j)):(tA 0 a).map (sub M)=tA 0 a:=by
 refine(List.map_congr_left λq hq=>?_).trans (List.map_id _);cases q with
 |sg c=>rfl
 |«at» j=>
  obtain⟨i,hi,e⟩:=(iF a 0 j).mp hq;obtain rfl:i=j:=by omega
  simp[sub,h i e]
theorem wU{c:List Pt}{t:List Nat}(h:az c t=true):(aM c t).length=gp c:=by
 rw[dZ (Fp c t h).1,OX]
end Pv
namespace Pv
open Ev (D bU bN TY BI ME T E Es Eo It S Ss Fn big deep b2i rep cH ef bL aT cut cV eO slots)
noncomputable def FO(sS:Nat)(cR:Nat):S:=.iff (.cmp .ne (.cl sS (.cons (.v 0) .nil)) (.cl cR (.cons (.v 1) .nil))) (.cons (.eY) .nil) .nil
noncomputable def FP(bT:Nat):S:=.set 2 (.eF (.rev (.cl bT (.cons (.v 0) .nil))))
noncomputable def FQ(bT:Nat):S:=.set 3 (.eF (.rev (.cl bT (.cons (.v 1) .nil))))
noncomputable def FT:S:=.set 4 (.lst .nil)
noncomputable def wV(bx:Nat)(rj:Nat)(cO:Nat):Ss:=(.cons (.iff (.an (.v 2) (.cmp .eq (.ix (.ix (.v 2) (.neg (.c (.int 1)))) (.c (.int 0))) (.c (.str [100,114,111,112])))) (.cons (.exp (.me .append (.v 4) (.cons (.me .pop (.v 2) .nil) .nil))) .nil) (.cons (.iff (.an (.v 3) (.cmp .eq (.ix (.ix (.v 3) (.neg (.c (.int 1)))) (.c (.int 0))) (.c (.str [112,117,116])))) (.cons (.exp (.me .append (.v 4) (.cons (.me .pop (.v 3) .nil) .nil))) .nil) (.cons (.set 5 (.bi .min (.cons (.cl bx (.cons (.ix (.v 2) (.neg (.c (.int 1)))) .nil)) (.cons (.cl bx (.cons (.ix (.v 3) (.neg (.c (.int 1)))) .nil)) .nil)))) (.cons (.exp (.me .extend (.v 4) (.cons (.cl rj (.cons (.cl cO (.cons (.v 2) (.cons (.v 5) .nil))) (.cons (.cl cO (.cons (.v 3) (.cons (.v 5) .nil))) .nil))) .nil))) .nil))) .nil)) .nil)
noncomputable def FU(bx:Nat)(rj:Nat)(cO:Nat):S:=.ly (.orr (.v 2) (.v 3)) (wV bx rj cO)
noncomputable def FY(bT:Nat):S:=.ret (.cl bT (.cons (.iY (.v 4)) .nil))
noncomputable def lV(sS:Nat)(cR:Nat)(bT:Nat)(bx:Nat)(rj:Nat)(cO:Nat):Fn:=⟨2,6,(.cons (FO sS cR) (.cons (FP bT) (.cons (FQ bT) (.cons FT (.cons (FU bx rj cO) (.cons (FY bT) .nil))))))⟩
noncomputable def Ky:S:=.iff (.cmp .eq (.ix (.v 1) (.c (.int 0))) (.c (.str [107,101,101,112]))) (.cons (.ret (.lst (.cons (.v 0) .nil))) .nil) .nil
noncomputable def Kz:S:=.iff (.cmp .eq (.ix (.v 0) (.c (.int 0))) (.c (.str [107,101,101,112]))) (.cons (.ret (.lst (.cons (.v 1) .nil))) .nil) .nil
noncomputable def KA:S:=.iff (.cmp .ne (.ix (.v 0) (.c (.int 1))) (.ix (.v 1) (.c (.int 1)))) (.cons (.eY) .nil) .nil
noncomputable def KC:S:=.ret (.lst .nil)
noncomputable def uS:Fn:=⟨2,2,(.cons Ky (.cons Kz (.cons KA (.cons KC .nil))))⟩
noncomputable def C6(qj:Nat):S:=.set 2 (.cl qj (.cons (.me .pop (.v 0) .nil) (.cons (.v 1) .nil)))
noncomputable def C7(bx:Nat):S:=.iff (.cmp .gt (.cl bx (.cons (.ix (.v 2) (.c (.int 1))) .nil)) (.c (.int 0))) (.cons (.exp (.me .append (.v 0) (.cons (.ix (.v 2) (.c (.int 1))) .nil))) .nil) .nil
noncomputable def C8:S:=.ret (.ix (.v 2) (.c (.int 0)))
noncomputable def jd(qj:Nat)(bx:Nat):Fn:=⟨2,3,(.cons (C6 qj) (.cons (C7 bx) (.cons C8 .nil)))⟩
noncomputable def AI:S:=.set 2 (.ix (.v 0) (.c (.int 0)))
noncomputable def AJ:S:=.iff (.cmp .eq (.v 2) (.c (.str [107,101,101,112]))) (.cons (.ret (.tup (.cons (.tup (.cons (.v 2) (.cons (.v 1) .nil))) (.cons (.tup (.cons (.v 2) (.cons (.bin .sub (.ix (.v 0) (.c (.int 1))) (.v 1)) .nil))) .nil)))) .nil) .nil
noncomputable def AK:S:=.ret (.tup (.cons (.tup (.cons (.v 2) (.cons (.sl (.ix (.v 0) (.c (.int 1))) .no (.yes (.v 1))) .nil))) (.cons (.tup (.cons (.v 2) (.cons (.sl (.ix (.v 0) (.c (.int 1))) (.yes (.v 1)) .no) .nil))) .nil)))
noncomputable def gF:Fn:=⟨2,3,(.cons AI (.cons AJ (.cons AK .nil)))⟩
noncomputable def Pt.tk(m:Nat):Pt->Pt
 |.keep _=>.keep m
 |.put s=>.put (s.take m)
 |.drop s=>.drop (s.take m)
noncomputable def Pt.dp(m:Nat):Pt->Pt
 |.keep k=>.keep (k - m)
 |.put s=>.put (s.drop m)
 |.drop s=>.drop (s.drop m)
theorem AL{α:Type}(l:List α)(m:Nat):cut l none (some (m:Int))=l.take m:=by
 have h1:¬ (m:Int)<0:=by omega
 simp only[cut,aT,h1,if_false,Int.toNat_natCast,List.drop_zero,Nat.sub_zero];by_cases h:m<=l.length
 .rw[Nat.min_eq_left h]
 .rw[Nat.min_eq_right (by omega),List.take_of_length_le (Nat.le_refl _),List.take_of_length_le (by omega)]
theorem AM{α:Type}(l:List α)(m:Nat):cut l (some (m:Int)) none=l.drop m:=by
 have h1:¬ (m:Int)<0:=by omega
 simp only[cut,aT,h1,if_false,Int.toNat_natCast];by_cases h:m<=l.length
 .rw[Nat.min_eq_left h,List.take_of_length_le (by simp)]
 .rw[Nat.min_eq_right (by omega),List.drop_eq_nil_of_le (Nat.le_refl _),List.drop_eq_nil_of_le (by omega)];simp
section
variable{F:List Fn}{w n bY aD dO aY bQ bB eK br gG rm i:Nat}
theorem AN(hf:F[i]?=some gF)(p:Pt)(m:Nat)(h:m<=p.n):run F w (n+1) i [.val p.v,.val (.int m)]=some (.tup [(p.tk m).v,(p.dp m).v],[]):=by
 refine cy hf rfl ?_;cases p with
 |keep k=>
  refine ai (aU (by repeat array_get_dec) rfl rfl ?_);refine ai (aL (by repeat array_get_dec) (λ_=>?_) λh=>absurd h (by decide));refine ai (bR (by repeat array_get_dec) ⟨?_,rfl⟩);have:(k:Int) - m=((k - m:Nat):Int):=by simp only[Pt.n]at h;omega
  exact congrArg (λz=>Fl.ret (V.tup [V.tup [V.str eE,V.int m],V.tup [V.str eE,V.int z]])) this
 |put s=>
  have c1:gT (.str s) none (some (m:Int))=some (.str (s.take m)):=by rw[iD,AL]
  have c2:gT (.str s) (some (m:Int)) none=some (.str (s.drop m)):=by rw[iD,AM]
  refine ai (aU (by repeat array_get_dec) rfl rfl ?_);refine ai (aL (by repeat array_get_dec) (λh=>absurd h (by decide)) λ_=>ay ?_);exact ai (bR (by repeat array_get_dec) ⟨rfl,rfl⟩)
 |drop s=>
  have c1:gT (.str s) none (some (m:Int))=some (.str (s.take m)):=by rw[iD,AL]
  have c2:gT (.str s) (some (m:Int)) none=some (.str (s.drop m)):=by rw[iD,AM]
  refine ai (aU (by repeat array_get_dec) rfl rfl ?_);refine ai (aL (by repeat array_get_dec) (λh=>absurd h (by decide)) λ_=>ay ?_);exact ai (bR (by repeat array_get_dec) ⟨rfl,rfl⟩)
theorem qk(m:Nat)(p:Pt):(p.dp m).n=p.n - m:=by cases p<;>simp[Pt.dp,Pt.n]
theorem jq(hs:F[aD]?=some dS)(hp:F[bY]?=some gF)(hf:F[i]?=some (jd bY aD))(L:List V)(p:Pt)(m:Nat)(h:m<=p.n)(hn:p.n<=100000)(hL:L.length<=10000) :
  run F w (n+2) i [.bor (L++[p.v]),.val (.int m)]=some ((p.tk m).v,[L++if 0<p.n - m then [(p.dp m).v]else []]):=by
 refine cy hf rfl ?_;have c1:=λfr=>call2 (fr:=fr) (AN (F:=F) (w:=w) (n:=n) hp p m h);have c2:=λfr=>cI (fr:=fr) (fX (F:=F) (w:=w) (n:=n) hs (p.dp m) (by rw[qk];omega));have po:∀fr:Fr,gx .pop 0 [] fr (some (some (.bor (L++[p.v]))))=.ok p.v (fr.set 0 (some (.bor L))):=λfr=>Kf;have ap:∀fr:Fr,gx .append 0 [(p.dp m).v] fr (some (some (.bor L)))=.ok .aS (fr.set 0 (some (.bor (L++[(p.dp m).v])))):=λfr=>Ke (by omega);refine ai (aU (by (repeat (first|array_get_dec|exact po _|exact c1 _))) rfl rfl ?_);refine ai (aL (by (repeat (first|array_get_dec|exact c2 _))) (λh=>?_) λh=>?_)
 .have h':=of_decide_eq_true h;rw[qk]at h';rw[if_pos (by omega)];refine ai (fD (by (repeat (first|array_get_dec|exact ap _))) (ay ?_));exact ai (bR (by repeat array_get_dec) ⟨rfl,rfl⟩)
 .have h':=of_decide_eq_false h;rw[qk]at h';rw[if_neg (by omega),List.append_nil];exact ay (ai (bR (by repeat array_get_dec) ⟨rfl,rfl⟩))
noncomputable def mW:Pt->Pt->Option (List Pt)
 |l,.keep _=>some [l]
 |.keep _,g=>some [g]
 |.put s,.drop s'=>if s=s' then some []else none
 |_,_=>none
theorem KD(hf:F[i]?=some uS)(p q:Pt)(r:List Pt)(h:mW p q=some r):run F w (n+1) i [.val p.v,.val q.v]=some (.lst (r.map Pt.v),[]):=by
 refine cy hf rfl ?_;cases q with
 |keep k=>
  simp only[mW,Option.some.injEq]at h;subst h;refine ai (aL (by repeat array_get_dec) (λ_=>?_) λh=>absurd h (by decide));exact ai (bR (by repeat array_get_dec) ⟨rfl,rfl⟩)
 |put s=>
  cases p<;>simp[mW]at h
  subst h;refine ai (aL (by repeat array_get_dec) (λh=>absurd h (by decide)) λ_=>ay ?_);refine ai (aL (by repeat array_get_dec) (λ_=>?_) λh=>absurd h (by decide));exact ai (bR (by repeat array_get_dec) ⟨rfl,rfl⟩)
 |drop s'=>
  cases p with
  |keep k=>
   simp only[mW,Option.some.injEq]at h;subst h;refine ai (aL (by repeat array_get_dec) (λh=>absurd h (by decide)) λ_=>ay ?_);refine ai (aL (by repeat array_get_dec) (λ_=>?_) λh=>absurd h (by decide));exact ai (bR (by repeat array_get_dec) ⟨rfl,rfl⟩)
  |drop s=>simp[mW]at h
  |put s=>
   simp only[mW]at h;split at h
   .rename_i hs;subst hs;cases h;refine ai (aL (by repeat array_get_dec) (λh=>absurd h (by decide)) λ_=>ay ?_);refine ai (aL (by repeat array_get_dec) (λh=>absurd h (by decide)) λ_=>ay ?_);refine ai (aL (by repeat array_get_dec) (λh=>?_) λ_=>ay ?_)
    .simp at h
    .exact ai (bR (by repeat array_get_dec) ⟨rfl,rfl⟩)
   .cases h
theorem cP{l:List V}{v:V}:dY (.lst (l++[v])) (.int (-1))=some v:=by rw[sJ,OG];simp
theorem iW{l:List V}{v:V}:truthy (.lst (l++[v]))=true:=by simp
theorem o8{P:aO}{f i:Nat}{fr:Fr}{b v:V}{l l':List V}(e:fr[i]?=some (some (.own l)))(h:P f [.bor l,.val b]=some (v,[l'])):fy P f [.inl i,.inr b] fr=.ok v (fr.set i (some (.own l'))):=by
 have e1:lent fr i=some (.bor l):=by rw[zc,e];rfl
 simp[fy,bW,args,e1,h,back,e,Sl.with]
theorem eU{c:List Pt}(h:gE c=true):∀p∈c,0<p.n:=λp hp=>by
 simp only[gE,Bool.and_eq_true,List.all_eq_true]at h;have:=h.2 p hp;simp only[CN,bne_iff_ne,ne_eq]at this;omega
theorem dB:∀{c:List Pt},(∀p∈c,0<p.n)->c.length<=tot c
 |[],_=>by simp[tot]
 |p :: c,h=>by
  have h1:=h p (by simp);have h2:=dB (c:=c) λq hq=>h q (by simp[hq]);rw[aQ,List.length_cons];omega
theorem mX{p:Pt}{m:Nat}(h:m<=p.n):(p.tk m).av++(p.dp m).av=p.av/\(p.tk m).n=m:=by
 cases p with
 |keep k=>simp only[Pt.n]at h;simp[Pt.tk,Pt.dp,Pt.av,Pt.n,h]
 |put s=>simp only[Pt.n]at h;simp[Pt.tk,Pt.dp,Pt.av,Pt.n,h,<-List.map_append]
 |drop s=>simp only[Pt.n]at h;simp[Pt.tk,Pt.dp,Pt.av,Pt.n,h,<-List.map_append]
noncomputable def gg(m:Nat)(p:Pt):List Pt:=if 0<p.n - m then [p.dp m]else []
theorem lW{p:Pt}{m:Nat}(h:m<=p.n):p.av=(p.tk m).av++av (gg m p):=by
 rw[<- (mX h).1]
 congr 1
 unfold gg;split
 .simp[av]
 .rename_i hz;have:(p.dp m).av.length=0:=by rw[wO,qk];omega
  rw[List.length_eq_zero_iff.mp this];rfl
theorem lX(m:Nat)(p:Pt):∀q∈gg m p,0<q.n:=λq hq=>by
 unfold gg at hq;split at hq
 .simp at hq;subst hq;rw[qk];omega
 .simp at hq
theorem sU(m:Nat)(p:Pt)(A:List Pt):((gg m p++A).map Pt.v).reverse=(A.map Pt.v).reverse++if 0<p.n - m then [(p.dp m).v]else []:=by
 unfold gg;split<;>simp
theorem gO(m:Nat)(p:Pt):tot (gg m p)=p.n - m:=by
 unfold gg;split
 .simp[tot,qk]
 .simp[tot];omega
theorem o9{m:Nat}{p:Pt}:ek (p.tk m)=ek p/\b7 (p.tk m)=b7 p:=by cases p<;>exact⟨rfl,rfl⟩
theorem OZ{A B r:List At}(p q:Pt)(hp:ek p=false)(hq:b7 q=false)(hn:p.n=q.n)(h:Th (p.av++A) (q.av++B) r):∃m r',mW p q=some m/\m.length<=1/\r=av m++r'/\Th A B r':=by
 cases p with
 |drop s=>cases hp
 |keep k=>
  cases q with
  |put s=>cases hq
  |keep k'=>simp only[Pt.n]at hn;subst hn;obtain⟨r',rfl,h'⟩:=Th.HE h;exact⟨[.keep k],r',rfl,by simp,by simp[av,Pt.av],h'⟩
  |drop s=>simp only[Pt.n]at hn;subst hn;obtain⟨r',rfl,h'⟩:=Th.HF h;exact⟨[.drop s],r',rfl,by simp,by simp[av,Pt.av],h'⟩
 |put s=>
  cases q with
  |put s'=>cases hq
  |keep k'=>simp only[Pt.n]at hn;subst hn;obtain⟨r',rfl,h'⟩:=Th.Yo h;exact⟨[.put s],r',rfl,by simp,by simp[av,Pt.av],h'⟩
  |drop s'=>simp only[Pt.n]at hn;obtain⟨rfl,h'⟩:=Th.TV hn h;exact⟨[],r,by simp[mW],by simp,by simp[av],h'⟩
structure Tn(one other c:List Pt)(t:List Nat):Prop where
 O0:aE c=c
 fit:az c t=true
 dn:aM c t=aM other (aM one t)
 O1:told 0 c=(told 0 other).map (sub (told 0 one))
 Yp:told 0 (sw c)=(told 0 (sw one)).map (sub (told 0 (sw other)))
 cs:cst c<=cst one+cst other
 tt:tot c<=tot one+tot other
 ln:c.length<=tot c
 th:∃ps,c=aE ps/\Th (av (aE one)) (av (aE other)) (av ps)
theorem Ru{one other ps:List Pt}{t:List Nat}(h1:az one t=true)(h2:az other (aM one t)=true)(h:Th (av (aE one)) (av (aE other)) (av ps)):Tn one other (aE ps) t:=by
 have f1:aC (aA (av (aE one))) t=true:=by rw[<-bO,cz,<-cD];exact h1
 have f2:aC (aA (av (aE other))) (dA (av (aE one)) t)=true:=by rw[<-bO,cz,<-cZ,cL,<-cD];exact h2
 have b:=h.back 0 0 [] rfl;rw[<-wQ,<-wQ,<-wQ,<-b6,<-b6,<-b6]at b;have sf:∀c i,told i (sw (aE c))=told i (sw c):=λc i=>by
  have:=congrArg (told i) (Kv (oE c));rwa [cK,cK]at this
 refine⟨oE _,?_,?_,?_,?_,?_,?_,dB (eU (dH _)),ps,rfl,h⟩
 .rw[mV,cD,bO];exact h.fit t f1 f2
 .rw[cL,cZ,h.done t f1,<-cZ,cL,<-cZ,cL]
 .have:=h.told 0 0 [] rfl;rw[<-b6,<-b6,<-b6,cK,cK]at this;rw[cK];exact this
 .rw[sf,<-sf one,<-sf other];exact b
 .have:=h.cost;rw[<-lU,<-lU,<-lU,j8,j8]at this;rw[j8];exact this
 .have:=h.len;rw[dJ,dJ,dJ,gb,gb]at this;rw[gb];exact this
section
variable(hs:F[aD]?=some dS)(hp:F[bY]?=some gF)(ht:F[aY]?=some (jd bY aD))(hm:F[dO]?=some uS){one other:List Pt}{r:List At}{N:Nat}(hN:N<=5000)
noncomputable def gj(one other A B C:List Pt)(a:Option Sl):Fr:=[some (.val (aF one)),some (.val (aF other)),some (.own (A.map Pt.v).reverse),some (.own (B.map Pt.v).reverse),some (.own (C.map Pt.v)),a]
noncomputable def T3(one other:List Pt)(r:List At)(N k:Nat)(fr:Fr):Prop:=∃A B C r' a,Th (av A) (av B) r'/\av C++r'=r/\(∀p∈A,0<p.n)/\(∀p∈B,0<p.n)/\C.length+k<=N/\k=tot A+tot B/\vo a/\fr=gj one other A B C a
include hs hp ht hm hN
noncomputable def C9(aD dO aY:Nat):Ss:=(.cons (.set 5 (.bi .min (.cons (.cl aD (.cons (.ix (.v 2) (.neg (.c (.int 1)))) .nil)) (.cons (.cl aD (.cons (.ix (.v 3) (.neg (.c (.int 1)))) .nil)) .nil)))) (.cons (.exp (.me .extend (.v 4) (.cons (.cl dO (.cons (.cl aY (.cons (.v 2) (.cons (.v 5) .nil))) (.cons (.cl aY (.cons (.v 3) (.cons (.v 5) .nil))) .nil))) .nil))) .nil))
noncomputable def wW(aD dO aY:Nat):Ss:=.cons (.iff (.an (.v 3) (.cmp .eq (.ix (.ix (.v 3) (.neg (.c (.int 1)))) (.c (.int 0))) (.c (.str [112,117,116])))) (.cons (.exp (.me .append (.v 4) (.cons (.me .pop (.v 3) .nil) .nil))) .nil) (C9 aD dO aY)) .nil
noncomputable def wX(one other:List Pt)(r:List At)(N t:Nat)(g:Fl)(fr:Fr):Prop:=g=.nx/\∃j,j<t/\T3 one other r N j fr
omit hs hp ht hm hN in
theorem Dc{C:List Pt}(lC:C.length<=5000)(d:Pt)(fr:Fr):gx .append 4 [d.v] fr (some (some (.own (C.map Pt.v))))=.ok .aS (fr.set 4 (some (.own ((C++[d]).map Pt.v)))):=by
 rw[List.map_append];exact jN (by simp;omega)
omit hs hp ht hm in
theorem wY(A B C:List Pt)(s:List Nat)(r':List At)(a:Option Sl)(h:Th (av A) (av (.put s :: B)) r')(hn:C2 (av A)=true)(hC:av C++r'=r)(hA:∀p∈A,0<p.n)(hB:∀p∈(.put s :: B),0<p.n)(hk:C.length+(tot A+tot (.put s :: B))<=N)(ha:vo a) :
  Wp (exs (run F w (n+2)) w (wW aD dO aY) (gj one other A (.put s :: B) C a)) (wX one other r N (tot A+tot (.put s :: B))):=by
 have lC:C.length<=5000:=by omega
 rw[bz]at h;obtain⟨r2,e2,h2⟩:=Th.ps hn h;have hs1:=hB (.put s) (by simp);unfold gj;rw[List.map_cons,List.reverse_cons];refine ai (aL (fc (aB rfl (au rfl) iW) (by (repeat (first|array_get_dec|exact cP)))) (λ_=>?_) λh=>absurd h (by decide));refine ai (fD (by (repeat (first|array_get_dec|exact lN|exact Dc lC _ _))) (ay (ay ?_)));refine⟨rfl,tot A+tot B,by rw[aQ];omega,A,B,C++[.put s],r2,a,h2,?_,hA,λx hx=>hB x (by simp[hx]),?_,rfl,ha,rfl⟩
 .rw[<-hC,e2,dI];simp[av,Pt.av]
 .rw[aQ]at hk;simp;omega
omit hN in
theorem O2(A B C mm:List Pt)(p q:Pt)(m:Nat)(a:Option Sl)(mn:cX .min [.int p.n,.int q.n]=some (.int m))(hm1:m<=p.n)(hm2:m<=q.n)(lp:p.n<=5000)(lq:q.n<=5000)(lA:A.length<=5000)(lB:B.length<=5000)(lC:C.length+mm.length<=10000)(e1:mW (p.tk m) (q.tk m)=some mm)(ha:vo a)(Q:Fl->Fr->Prop)
  (hQ:Q .nx (gj one other (gg m p++A) (gg m q++B) (C++mm) (some (.val (.int m))))):Wp (exs (run F w (n+2)) w (C9 aD dO aY) (gj one other (p :: A) (q :: B) C a)) Q:=by
 have z1:=λfr=>cI (fr:=fr) (fX (F:=F) (w:=w) (n:=n+1) hs p (Nat.le_trans lp (by decide)));have z2:=λfr=>cI (fr:=fr) (fX (F:=F) (w:=w) (n:=n+1) hs q (Nat.le_trans lq (by decide)));have t1:=jq (F:=F) (w:=w) (n:=n) hs hp ht (A.map Pt.v).reverse p m hm1 (by omega) (by simp;omega);have t2:=jq (F:=F) (w:=w) (n:=n) hs hp ht (B.map Pt.v).reverse q m hm2 (by omega) (by simp;omega);rw[<-sU]at t1 t2;have cm:=λfr=>call2 (fr:=fr) (KD (F:=F) (w:=w) (n:=n+1) hm _ _ mm e1);have ex:∀fr:Fr,gx .extend 4 [.lst (mm.map Pt.v)] fr (some (some (.own (C.map Pt.v))))=.ok .aS (fr.set 4 (some (.own ((C++mm).map Pt.v)))):=λfr=>by
  rw[List.map_append];exact ze (by simp;omega)
 unfold gj at hQ ⊢;rw[List.map_cons,List.reverse_cons,List.map_cons,List.reverse_cons];refine ai (aU (by (repeat (first|array_get_dec|exact cP|exact z1 _|exact z2 _))) rfl (fK rfl ha) ?_);exact ai (fD (by (repeat (first|array_get_dec|exact o8 rfl t1|exact o8 rfl t2|exact cm _|exact ex _))) (ay hQ))
theorem FZ(A B C:List Pt)(p q:Pt)(r':List At)(a:Option Sl)(hd:ek p=false)(hq:b7 q=false)(h:Th (av (p :: A)) (av (q :: B)) r')(hC:av C++r'=r)(hA:∀x∈p :: A,0<x.n)(hB:∀x∈q :: B,0<x.n)(hk:C.length+(tot (p :: A)+tot (q :: B))<=N)(ha:vo a) :
  Wp (exs (run F w (n+2)) w (wW aD dO aY) (gj one other (p :: A) (q :: B) C a)) (wX one other r N (tot (p :: A)+tot (q :: B))):=by
 have hp0:=hA p (by simp);have BO:=hB q (by simp);obtain⟨m,hm1,hm2,HG⟩:∃m:Nat,m<=p.n/\m<=q.n/\(m=p.n\/m=q.n):=⟨min p.n q.n,by omega,by omega,by omega⟩
 have mn:cX .min [.int p.n,.int q.n]=some (.int m):=by
  rw[wm];split
  .congr 2;omega
  .congr 2;omega
 rw[aQ,aQ]at hk;have lA:=dB (c:=A) λx hx=>hA x (by simp[hx]);have lB:=dB (c:=B) λx hx=>hB x (by simp[hx]);have h3:Th ((p.tk m).av++av (gg m p++A)) ((q.tk m).av++av (gg m q++B)) r':=by
  rw[dI,dI,<-List.append_assoc,<-List.append_assoc,<-lW hm1,<-lW hm2,<-bz,<-bz];exact h
 obtain⟨mm,r2,e1,e2,e3,h4⟩:=OZ (p.tk m) (q.tk m) (by rw[o9.1];exact hd) (by rw[o9.2];exact hq) (by rw[(mX hm1).2,(mX hm2).2]) h3;have fin:wX one other r N (tot (p :: A)+tot (q :: B)) .nx (gj one other (gg m p++A) (gg m q++B) (C++mm) (some (.val (.int m)))):=by
  refine⟨rfl,_,?_,_,_,_,r2,_,h4,?_,?_,?_,?_,rfl,.val,rfl⟩
  .rw[dz,dz,gO,gO,aQ,aQ];omega
  .rw[dI,List.append_assoc,<-e3];exact hC
  .intro x hx;rcases List.mem_append.mp hx with hx|hx
   .exact lX m p x hx
   .exact hA x (List.mem_cons_of_mem _ hx)
  .intro x hx;rcases List.mem_append.mp hx with hx|hx
   .exact lX m q x hx
   .exact hB x (List.mem_cons_of_mem _ hx)
  .rw[dz,dz,gO,gO,List.length_append];omega
 have st:=O2 (one:=one) (other:=other) (w:=w) (n:=n) hs hp ht hm A B C mm p q m a mn hm1 hm2 (by omega) (by omega) (by omega) (by omega) (by omega) e1 ha _ (show nx (run F w (n+2)) w .nil (wX one other r N (tot (p :: A)+tot (q :: B))) .nx _ from ay fin);unfold gj at st ⊢;rw[List.map_cons,List.reverse_cons,List.map_cons,List.reverse_cons]at st ⊢;cases q with
 |put s=>cases hq
 |keep k=>exact ai (aL (fc (aB rfl (au rfl) iW) (by (repeat (first|array_get_dec|exact cP)))) (λh=>absurd h (by decide)) λ_=>st)
 |drop s=>exact ai (aL (fc (aB rfl (au rfl) iW) (by (repeat (first|array_get_dec|exact cP)))) (λh=>absurd h (by decide)) λ_=>st)
omit hs hp ht hm hN in
theorem T4{b r:List At}{x:At}(h:Th [] (x :: b) r):∃c,x=.p c:=by cases h with|p=>exact⟨_,rfl⟩
omit hs hp ht hm hN in
theorem T5{a r:List At}{x:At}(h:Th (x :: a) [] r):∃c,x=.d c:=by cases h with|d=>exact⟨_,rfl⟩
theorem De(A B C:List Pt)(r':List At)(a:Option Sl)(hne:A≠[]\/B≠[])(h:Th (av A) (av B) r')(hC:av C++r'=r)(hA:∀p∈A,0<p.n)(hB:∀p∈B,0<p.n)(hk:C.length+(tot A+tot B)<=N)(ha:vo a) :
  Wp (exs (run F w (n+2)) w (wV aD dO aY) (gj one other A B C a)) (wX one other r N (tot A+tot B)):=by
 cases A with
 |nil=>
  cases B with
  |nil=>exact absurd hne (by simp)
  |cons q B'=>
   refine ai (aL (lO (aB rfl (au rfl) rfl)) (λh=>absurd h (by decide)) λ_=>?_);have hq:=hB q (by simp);cases q with
   |put s=>exact(wY hN [] B' C s r' a h rfl hC hA hB hk ha).mono λg fr ⟨hg,hx⟩=>by subst hg;exact ay ⟨rfl,hx⟩
   |keep k=>
    rw[bz]at h;cases k with
    |zero=>exact absurd hq (Nat.lt_irrefl 0)
    |succ k=>obtain⟨c,e⟩:=T4 (x:=.k) h;cases e
   |drop s=>
    rw[bz]at h;cases s with
    |nil=>exact absurd hq (Nat.lt_irrefl 0)
    |cons c s=>obtain⟨c,e⟩:=T4 (x:=.d c) h;cases e
 |cons p A'=>
  have hp0:=hA p (by simp);cases hd:ek p with
  |true=>
   cases p with
   |keep k=>cases hd
   |put s=>cases hd
   |drop s=>
    have lC:C.length<=5000:=by omega
    rw[bz]at h;obtain⟨r2,e2,h2⟩:=Th.ds h;unfold gj;rw[List.map_cons,List.reverse_cons];refine ai (aL (fc (aB rfl (au rfl) iW) (by (repeat (first|array_get_dec|exact cP)))) (λ_=>?_) λh=>absurd h (by decide));refine ai (fD (by (repeat (first|array_get_dec|exact lN|exact Dc lC _ _))) (ay (ay ?_)));refine⟨rfl,tot A'+tot B,by rw[aQ];omega,A',B,C++[.drop s],r2,a,h2,?_,λx hx=>hA x (by simp[hx]),hB,?_,rfl,ha,rfl⟩
    .rw[<-hC,e2,dI];simp[av,Pt.av]
    .rw[aQ]at hk;simp;omega
  |false=>
   have st:Wp (exs (run F w (n+2)) w (wW aD dO aY) (gj one other (p :: A') B C a)) (wX one other r N (tot (p :: A')+tot B)):=by
    cases B with
    |nil=>
     exfalso;rw[bz]at h;cases p with
     |drop s=>cases hd
     |keep k=>cases k with|zero=>exact absurd hp0 (Nat.lt_irrefl 0)|succ k=>obtain⟨c,e⟩:=T5 (x:=.k) h;cases e
     |put s=>cases s with|nil=>exact absurd hp0 (Nat.lt_irrefl 0)|cons c s=>obtain⟨c,e⟩:=T5 (x:=.p c) h;cases e
    |cons q B'=>
     cases hq:b7 q with
     |true=>
      have hnd:C2 (av (p :: A'))=true:=by
       rw[bz];cases p with
       |drop s=>cases hd
       |keep k=>cases k<;>first|exact absurd hp0 (Nat.lt_irrefl 0)|rfl
       |put s=>cases s<;>first|exact absurd hp0 (Nat.lt_irrefl 0)|rfl
      cases q with
      |keep k=>cases hq
      |drop s=>cases hq
      |put s=>exact wY hN (p :: A') B' C s r' a h hnd hC hA hB hk ha
     |false=>exact FZ hs hp ht hm hN A' B' C p q r' a hd hq h hC hA hB hk ha
   replace st:=st.mono (Q':=nx (run F w (n+2)) w .nil (wX one other r N (tot (p :: A')+tot B))) λg fr ⟨hg,hx⟩=>by subst hg;exact ay ⟨rfl,hx⟩
   unfold gj at st ⊢;rw[List.map_cons,List.reverse_cons]at st ⊢;cases p with
   |drop s=>cases hd
   |keep k=>exact ai (aL (fc (aB rfl (au rfl) iW) (by (repeat (first|array_get_dec|exact cP)))) (λh=>absurd h (by decide)) λ_=>st)
   |put s=>exact ai (aL (fc (aB rfl (au rfl) iW) (by (repeat (first|array_get_dec|exact cP)))) (λh=>absurd h (by decide)) λ_=>st)
omit hN in
theorem Ga(hst:F[bB]?=some fP)(hf:F[bQ]?=some (j6 bB))(hb:F[br]?=some (gA aD))(ha:F[eK]?=some (o6 aD))(Df:F[i]?=some (lV eK br bQ aD dO aY))(hw:5000<w)
  (one other:List Pt) (t:List Nat) (h1:az one t=true) (h2:az other (aM one t)=true) (b1:tot one<=2000) (b2:tot other<=2000) (l1:one.length<=2000) (l2:other.length<=2000) :
  ∃c,run F w (n+3) i [.val (aF one),.val (aF other)]=some (aF c,[])/\Tn one other c t:=by
 have f1:aC (aA (av (aE one))) t=true:=by rw[<-bO,cz,<-cD];exact h1
 have f2:aC (aA (av (aE other))) (dA (av (aE one)) t)=true:=by rw[<-bO,cz,<-cZ,cL,<-cD];exact h2
 obtain⟨r,hr⟩:=Th.all _ _ _ t (Nat.le_refl _) f1 f2;have e1:gp one=aR other:=by rw[<-wU h1,dZ h2]
 have ne:cop .ne (.int (gp one)) (.int (aR other))=some false:=by rw[Ax,e1];simp
 have c1:=λfr=>cI (fr:=fr) (um (F:=F) (w:=w) (n:=n) hs ha one (by omega) (by omega));have c2:=λfr=>cI (fr:=fr) (iT (F:=F) (w:=w) (n:=n) hs hb other (by omega) (by omega));have c3:=λfr=>cI (fr:=fr) (iw (F:=F) (w:=w) (n:=n) hst hf one (by omega) (by omega));have c4:=λfr=>cI (fr:=fr) (iw (F:=F) (w:=w) (n:=n) hst hf other (by omega) (by omega));have t1:=gb one;have t2:=gb other;have g1:=dB (eU (dH one));have g2:=dB (eU (dH other));have m1:eG ((aE one).map Pt.v).reverse=some (.lst ((aE one).map Pt.v).reverse):=dg (bK (by simp;omega));have m2:eG ((aE other).map Pt.v).reverse=some (.lst ((aE other).map Pt.v).reverse):=dg (bK (by simp;omega));have key:Wp (exs (run F w (n+2)) w (lV eK br bQ aD dO aY).body (eT (lV eK br bQ aD dO aY) [.val (aF one),.val (aF other)])) λg fr=>∃ps,av ps=r/\g=.ret (aF (aE ps))/\outs 2 fr=[]:=by
  refine ai (aL (by (repeat (first|array_get_dec|exact c1 _|exact c2 _))) (λh=>absurd h (by decide)) λ_=>ay ?_);refine ai (fJ (l:=((aE one).map Pt.v).reverse) (jE (oq (bh (aJ rfl (au rfl) aK) (c3 _)) rfl) m1) rfl rfl ?_);refine ai (fJ (l:=((aE other).map Pt.v).reverse) (jE (oq (bh (aJ rfl (au rfl) aK) (c4 _)) rfl) m2) rfl rfl ?_);refine ai (fJ (l:=[]) (by repeat array_get_dec) rfl rfl ?_);refine ai (Aw (oh (T3 one other r (tot one+tot other)) (λk fr hI=>?_) w (tot one+tot other) _ (by omega) ⟨aE one,aE other,[],r,none,hr,rfl,eU (dH one),eU (dH other),by simp,by omega,.none,rfl⟩));obtain⟨A,B,C,r',a,hT,hC,hA,hB,hk,hkk,rq,rfl⟩:=hI;by_cases hne:A≠[]\/B≠[]
  .have ht1:aI (run F w (n+2)) (.orr (.v 2) (.v 3)) (gj one other A B C a)=.ok true (gj one other A B C a):=by
    cases A with
    |cons p A=>unfold gj;rw[List.map_cons,List.reverse_cons];exact lP (aB rfl (au rfl) iW)
    |nil=>
     cases B with
     |nil=>simp at hne
     |cons q B=>unfold gj;rw[List.map_cons,List.reverse_cons];exact dQ (aB rfl (au rfl) rfl) (aB rfl (au rfl) iW)
   refine⟨true,_,ht1,?_⟩;dsimp only;rw[if_pos rfl];refine(De hs hp ht hm (N:=tot one+tot other) (by omega) A B C r' a hne hT hC hA hB (by omega) rq).mono λg fr ⟨hg,hx⟩=>?_;subst hg hkk;exact hx
  .obtain⟨rfl,rfl⟩:A=[]/\B=[]:=by simpa using hne
   refine⟨false,_,dQ (aB rfl (au rfl) rfl) (aB rfl (au rfl) rfl),?_⟩;dsimp only;rw[if_neg (by decide)];cases hT;rw[List.append_nil]at hC;subst hC;have lC:=hr.len;rw[dJ,dJ,dJ]at lC;have mt:toT (.lst (C.map Pt.v))=some (aF C):=by rw[sL];exact iR (bK (by simp;omega))
   have c5:=λfr=>cI (fr:=fr) (iw (F:=F) (w:=w) (n:=n) hst hf C (by omega) (by omega));have sh:fS (gj one other [] [] C a)=[some (.val (aF one)),some (.val (aF other)),some (.val (.lst [])),some (.val (.lst [])),some (.val (.lst (C.map Pt.v))),a]:=by
    show _ :: _ :: _ :: _ :: _ :: [a.map Sl.dD]=_;rw[dh rq];rfl
   refine ai (bR (v:=aF (aE C)) (af:=[some (.val (aF one)),some (.val (aF other)),some (.val (.lst [])),some (.val (.lst [])),some (.val (.lst (C.map Pt.v))),a]) ?_ ⟨C,rfl,rfl,rfl⟩);rw[sh];exact bh (aJ rfl (qR (au rfl) mt) aK) (c5 _)
 obtain⟨g,fr,e,ps,hps,rfl,ho⟩:=key;refine⟨aE ps,?_,Ru h1 h2 (hps▸hr)⟩;rw[run_eq Df rfl,e];simp only[JZ];rw[show outs (lV eK br bQ aD dO aY).np fr=[]from ho]
end
end
end Pv
namespace Pv
open Ev (D bU bN TY BI ME T E Es Eo It S Ss Fn big deep b2i rep cH ef bL aT cut cV eO slots)
section
variable{F:List Fn}{w n bY aD dO aY bQ bB eK br gG rm i:Nat}
noncomputable def Ch:List Nat->List (List Pt)->Prop
 |_,[]=>True
 |t,c :: rs=>az c t=true/\Ch (aM c t) rs
noncomputable def rA(t:List Nat)(rs:List (List Pt)):List Nat:=rs.foldl (λs c=>aM c s) t
noncomputable def uu(T:List Tq)(rs:List (List Pt)):List Tq:=rs.foldl (λT c=>(told 0 c).map (sub T)) T
noncomputable def Gb(rs:List (List Pt)):Nat:=(rs.map tot).sum
theorem Dg(n:Nat):told 0 [.keep n]=(List.range n).map Tq.at:=by simp[told,Pt.told]
theorem Wl{a b:List Pt}{t:List Nat}(fa:aE a=a)(fb:aE b=b)(ha:az a t=true)(hb:az b t=true)(h:told 0 a=told 0 b):a=b:=by rw[<-fa,<-fb];exact C5 ha hb h
theorem T6{c:List Pt}{t:List Nat}(h:az c t=true):(told 0 c).map (sub (told 0 [.keep t.length]))=told 0 c:=by
 rw[b6 c,Dg];refine FL λj hj=>?_;have:j<(aA (av c)).length:=(List.getElem?_eq_some_iff.mp hj).1;rw[<-bO,fZ,<-dZ h]at this;simp[this]
structure An(c:List Pt)(t:List Nat)(rs:List (List Pt)):Prop where
 O0:aE c=c
 fit:az c t=true
 dn:aM c t=rA t rs
 O1:told 0 c=uu (told 0 [.keep t.length]) rs
 Yp:told 0 (sw c)=uu (told 0 [.keep (rA t rs).length]) (rs.map Wk).reverse
 tt:tot c<=t.length+Gb rs
 ln:c.length<=tot c
section
variable(hs:F[aD]?=some dS)(hp:F[bY]?=some gF)(ht:F[aY]?=some (jd bY aD))(hm:F[dO]?=some uS)
 (hst:F[bB]?=some fP) (hf:F[bQ]?=some (j6 bB)) (hb:F[br]?=some (gA aD)) (ha:F[eK]?=some (o6 aD)) (Df:F[rm]?=some (lV eK br bQ aD dO aY)) (hno:F[gG]?=some (oF bQ)) (hw:5000<w)
include hs hp ht hm hst hf hb ha Df hno hw
end
end
end Pv
namespace Pv
section
variable{t:List Nat}{p q rs:List (List Pt)}{s e w x y c:List Pt}
end
open Ev (D bU bN TY BI ME T E Es Eo It S Ss Fn big deep b2i rep cH ef bL aT cut cV eO slots)
inductive Hd(L:List V):Sl->List (List V)->Prop
 |val:Hd L (.val (.lst L)) []
 |bor:Hd L (.bor L) [L]
section
variable{F:List Fn}{w n bY aD dO aY bQ bB eK br gG rm i:Nat}
section
variable(hs:F[aD]?=some dS)(hp:F[bY]?=some gF)(ht:F[aY]?=some (jd bY aD))(hm:F[dO]?=some uS)
 (hst:F[bB]?=some fP) (hf:F[bQ]?=some (j6 bB)) (hb:F[br]?=some (gA aD)) (ha:F[eK]?=some (o6 aD)) (Df:F[rm]?=some (lV eK br bQ aD dO aY)) (hno:F[gG]?=some (oF bQ)) (hw:5000<w)
include hs hp ht hm hst hf hb ha Df hno hw
end
end
end Pv
namespace Pv
open Ev (deep big rep cut bL)
noncomputable def YR:At->Bool
 |.p _=>false
 |_=>true
theorem Gd{a b:List Pt}(h:av a=av b):aE a=aE b:=(mU a b).mpr (by simp only[jK,bO,b6,h])
noncomputable def jr:List At->Bool
 |.p _ :: _=>false
 |_=>true
structure Cut(c:List Pt)(p:Nat)(A B:List Pt):Prop where
 at_:av A++av B=av (aE c)
 bA:aR A=p
 hd:jr (av B)=true
 pA:∀q∈A,0<q.n
 pB:∀q∈B,0<q.n
 fA:gE A=true
 fB:gE B=true
section
variable{c A B:List Pt}{p:Nat}{t:List Nat}
end
end Pv
namespace Pv
open Ev (D bU bN TY BI ME T E Es Eo It S Ss Fn big deep rep cut bL)
noncomputable def AO(bT:Nat):S:=.ret (.cl bT (.cons (.bin .add (.v 0) (.v 1)) .nil))
noncomputable def Ge(bT:Nat):Fn:=⟨2,2,(.cons (AO bT) .nil)⟩
noncomputable def KG(cR:Nat):S:=.iff (.orr (.cmp .lt (.v 1) (.c (.int 0))) (.cmp .gt (.v 1) (.cl cR (.cons (.v 0) .nil)))) (.cons (.eY) .nil) .nil
noncomputable def KH(bT:Nat):S:=.set 2 (.eF (.rev (.cl bT (.cons (.v 0) .nil))))
noncomputable def KJ:S:=.set 3 (.lst .nil)
noncomputable def KL:S:=.set 4 (.v 1)
noncomputable def sV(bx:Nat)(cO:Nat):Ss:=(.cons (.iff (.cmp .eq (.ix (.ix (.v 2) (.neg (.c (.int 1)))) (.c (.int 0))) (.c (.str [112,117,116]))) (.cons (.exp (.me .append (.v 3) (.cons (.me .pop (.v 2) .nil) .nil))) .nil) (.cons (.set 5 (.bi .min (.cons (.v 4) (.cons (.cl bx (.cons (.ix (.v 2) (.neg (.c (.int 1)))) .nil)) .nil)))) (.cons (.exp (.me .append (.v 3) (.cons (.cl cO (.cons (.v 2) (.cons (.v 5) .nil))) .nil))) (.cons (.set 4 (.bin .sub (.v 4) (.v 5))) .nil)))) .nil)
noncomputable def KN(bx:Nat)(cO:Nat):S:=.ly (.an (.v 2) (.orr (.cmp .gt (.v 4) (.c (.int 0))) (.cmp .eq (.ix (.ix (.v 2) (.neg (.c (.int 1)))) (.c (.int 0))) (.c (.str [112,117,116]))))) (sV bx cO)
noncomputable def zl:S:=.ret (.tup (.cons (.iY (.v 3)) (.cons (.m9 (.v 2)) .nil)))
noncomputable def AQ(cR:Nat)(bT:Nat)(bx:Nat)(cO:Nat):Fn:=⟨2,6,(.cons (KG cR) (.cons (KH bT) (.cons KJ (.cons KL (.cons (KN bx cO) (.cons zl .nil))))))⟩
noncomputable def Dh(mY:Nat)(kJ:Nat):S:=.ret (.cl mY (.cons (.cl mY (.cons (.cl kJ (.cons (.v 0) .nil)) (.cons (.v 1) .nil))) (.cons (.cl kJ (.cons (.v 2) .nil)) .nil)))
noncomputable def KO(mY:Nat)(kJ:Nat):Fn:=⟨3,3,(.cons (Dh mY kJ) .nil)⟩
section
variable{F:List Fn}{w n aD bB bQ br bY aY gG wZ Rw KP i:Nat}
noncomputable def gH(c:List Pt)(p:Nat)(R C:List Pt)(l:Nat)(a:Option Sl):Fr:=[some (.val (aF c)),some (.val (.int p)),some (.own (R.map Pt.v).reverse),some (.own (C.map Pt.v)),some (.val (.int l)),a]
noncomputable def rB(C R:List Pt)(l:Nat):Prop:=gE C=true/\gE R=true/\((∀x∈C.getLast?,∀y∈R.head?,kH x.word y.word=true)\/l=0/\∀y∈R.head?,b7 y=false)
noncomputable def HH(c:List Pt)(p k:Nat)(fr:Fr):Prop:=∃R C l a,rB C R l/\av C++av R=av (aE c)/\aR C+l=p/\l<=aR R/\(∀q∈R,0<q.n)/\(∀q∈C,0<q.n)/\k=tot R/\vo a/\fr=gH c p R C l a
noncomputable def Yq:E:=.an (.v 2) (.orr (.cmp .gt (.v 4) (.c (.int 0))) (.cmp .eq (.ix (.ix (.v 2) (.neg (.c (.int 1)))) (.c (.int 0))) (.c (.str [112,117,116]))))
theorem w9{q:Pt}{R:List Pt}(h:gE (q :: R)=true):gE R=true/\gE [q]=true/\∀y∈R.head?,kH q.word y.word=true:=by
 simp only[gE,Bool.and_eq_true,List.map_cons,List.all_cons]at h ⊢;cases R with
 |nil=>exact⟨⟨rfl,rfl⟩,⟨rfl,by simp[h.2.1]⟩,λy hy=>by cases hy⟩
 |cons r R=>
  have:=sQ [q.word] ((r :: R).map Pt.word);have h2:=this.mp h.1;exact⟨⟨h2.2.1,h.2.2⟩,⟨rfl,by simp[h.2.1]⟩,λy hy=>by simp at hy;subst hy;exact h2.2.2 _ (by simp) _ (by simp)⟩
theorem Gf{q:Pt}{R:List Pt}(h:gE R=true)(hq:0<q.n)(hr:∀y∈R.head?,kH q.word y.word=true):gE (q :: R)=true:=
 o7 (a:=[q]) (b:=R) (by simp[gE,jy,CN];omega) h λp hp y hy=>by simp at hp;subst hp;exact hr y hy
theorem rB.put{C R:List Pt}{q:Pt}{l:Nat}(h:rB C (q :: R) l)(hq:b7 q=true):rB (C++[q]) R l:=by
 obtain⟨h1,h2,h3⟩:=h;obtain⟨t1,t2,t3⟩:=w9 h2;rcases h3 with h3|⟨_,h3⟩
 .exact⟨o7 h1 t2 λp hp y hy=>by simp at hy;subst hy;exact h3 p hp _ (by simp),t1,.inl λx hx y hy=>by simp at hx;subst hx;exact t3 y hy⟩
 .have:=h3 q (by simp);rw[hq]at this;cases this
theorem sW(m:Nat)(q:Pt):(q.tk m).word=q.word/\(q.dp m).word=q.word:=by cases q<;>exact⟨rfl,rfl⟩
theorem rB.two{C R:List Pt}{q:Pt}{l m:Nat}(h:rB C (q :: R) l)(l0:0<l)(hq:b7 q=false)(m0:0<m)(hm:m<=q.n)(HG:m=l\/m=q.n):rB (C++[q.tk m]) (gg m q++R) (l - m):=by
 obtain⟨h1,h2,h3⟩:=h;obtain⟨t1,t2,t3⟩:=w9 h2;rcases h3 with h3|⟨h3,_⟩
 .have hn:=(mX hm).2;refine⟨o7 h1 (by simp[gE,jy,CN];omega) λp hp y hy=>by simp at hy;subst hy;rw[(sW m q).1];exact h3 p hp _ (by simp),?_,?_⟩
  .unfold gg;split
   .rename_i hlt;exact Gf t1 (by rw[qk];exact hlt) λy hy=>by rw[(sW m q).2];exact t3 y hy
   .exact t1
  .unfold gg;split
   .exact .inr ⟨by omega,λy hy=>by simp at hy;subst hy;cases q<;>first|rfl|cases hq⟩
   .refine .inl λx hx y hy=>?_;simp at hx;subst hx;rw[(sW m q).1];exact t3 y hy
 .omega
theorem O3{q:Pt}{m:Nat}(h:m<=q.n)(hq:b7 q=false):aR [q.tk m]=m:=by
 cases q with
 |put s=>cases hq
 |keep k=>simp[Pt.tk,aR,tot,b7,Pt.n]
 |drop s=>simp[Pt.tk,aR,tot,b7,Pt.n]at h ⊢;omega
theorem KQ{q:Pt}{m:Nat}(hq:b7 q=false):aR (gg m q)=q.n - m:=by
 cases q with
 |put s=>cases hq
 |keep k=>unfold gg;split<;>simp[Pt.dp,aR,tot,b7,Pt.n]at *<;>omega
 |drop s=>unfold gg;split<;>simp[Pt.dp,aR,tot,b7,Pt.n]at *<;>omega
theorem Gg{q:Pt}{R:List Pt}(hq:b7 q=false):aR (q :: R)=q.n+aR R:=by cases q<;>simp_all [aR,tot,b7,Pt.n]
theorem O4{q:Pt}{m:Nat}(h:m<=q.n)(h0:0<m):0<(q.tk m).n:=by rw[(mX h).2];exact h0
theorem O5(hs:F[aD]?=some dS){c:List Pt}{p:Nat}(R C:List Pt)(s:List Nat)(l:Nat)(a:Option Sl)(hJ:rB C (.put s :: R) l)(hC:av C++av (.put s :: R)=av (aE c))(hl:aR C+l=p)(hb:l<=aR (.put s :: R))(hR:∀q∈Pt.put s :: R,0<q.n)(pC:∀q∈C,0<q.n)(lC:C.length<=5000)(ha:vo a) :
  Wp (exs (run F w (n+2)) w (sV aD aY) (gH c p (.put s :: R) C l a)) λg fr=>g=.nx/\∃j,j<tot (.put s :: R)/\HH c p j fr:=by
 have ap:∀fr:Fr,gx .append 3 [(Pt.put s).v] fr (some (some (.own (C.map Pt.v))))=.ok .aS (fr.set 3 (some (.own ((C++[Pt.put s]).map Pt.v)))):=λfr=>by
  rw[List.map_append];exact jN (by simp;omega)
 unfold gH;rw[List.map_cons,List.reverse_cons];refine ai (aL (b:=true) (aB rfl (by (repeat (first|array_get_dec|exact cP))) rfl) (λ_=>?_) λh=>absurd h (by decide));refine ai (fD (by (repeat (first|array_get_dec|exact lN|exact ap _))) (ay (ay ?_)));have h0:=hR _ (.head _);refine⟨rfl,tot R,by rw[aQ];omega,R,C++[.put s],l,a,hJ.put rfl,?_,?_,?_,λq hq=>hR q (.tail _ hq),λq hq=>?_,rfl,ha,rfl⟩
 .rw[<-hC,dI,bz];simp[av]
 .rw[lS];simp[aR,tot,b7]at hl ⊢;exact hl
 .rw[jL]at hb;exact hb
 .rcases List.mem_append.mp hq with hq|hq
  .exact pC q hq
  .rw[List.mem_singleton.mp hq];exact h0
theorem O6(hs:F[aD]?=some dS)(hp:F[bY]?=some gF)(ht:F[aY]?=some (jd bY aD)){c:List Pt}{p:Nat}(R C:List Pt)(q:Pt)(l:Nat)(a:Option Sl)(hJ:rB C (q :: R) l)(hq:b7 q=false)(l0:0<l)(hC:av C++av (q :: R)=av (aE c))(hl:aR C+l=p)(hb:l<=aR (q :: R))
  (hR:∀x∈q :: R,0<x.n) (pC:∀x∈C,0<x.n) (lC:C.length<=5000) (lR:tot (q :: R)<=5000) (ha:vo a) :
  Wp (exs (run F w (n+2)) w (sV aD aY) (gH c p (q :: R) C l a)) λg fr=>g=.nx/\∃j,j<tot (q :: R)/\HH c p j fr:=by
 have q0:=hR q (.head _);rw[aQ]at lR;have l2:=dB (c:=R) λx hx=>hR x (.tail _ hx);obtain⟨m,hm1,hm2,HG⟩:∃m:Nat,m<=l/\m<=q.n/\(m=l\/m=q.n):=⟨min l q.n,by omega,by omega,by omega⟩
 have m0:0<m:=by omega
 have mn:cX .min [.int l,.int q.n]=some (.int m):=by
  rw[wm];split
  .congr 2;omega
  .congr 2;omega
 have z1:=λfr=>cI (fr:=fr) (fX (F:=F) (w:=w) (n:=n+1) hs q (by omega));have t1:=jq (F:=F) (w:=w) (n:=n) hs hp ht (R.map Pt.v).reverse q m hm2 (by omega) (by simp;omega);rw[<-sU]at t1;have ap:∀fr:Fr,gx .append 3 [(q.tk m).v] fr (some (some (.own (C.map Pt.v))))=.ok .aS (fr.set 3 (some (.own ((C++[q.tk m]).map Pt.v)))):=λfr=>by
  rw[List.map_append];exact jN (by simp;omega)
 have fin:(Fl.nx=Fl.nx/\∃j,j<tot (q :: R)/\HH c p j (gH c p (gg m q++R) (C++[q.tk m]) (l - m) (some (.val (.int m))))):=by
  refine⟨rfl,_,?_,_,_,_,_,hJ.two l0 hq m0 hm2 HG,?_,?_,?_,?_,?_,rfl,.val,rfl⟩
  .rw[dz,gO,aQ];omega
  .rw[<-hC,dI,dI,bz q,lW hm2];simp[av]
  .rw[lS,O3 hm2 hq];omega
  .rw[lS,KQ hq];rw[Gg hq]at hb;omega
  .intro x hx;rcases List.mem_append.mp hx with hx|hx
   .exact lX m q x hx
   .exact hR x (.tail _ hx)
  .intro x hx;rcases List.mem_append.mp hx with hx|hx
   .exact pC x hx
   .rw[List.mem_singleton.mp hx];exact O4 hm2 m0
 have sb:bS .sub (.int (l:Int)) (.int (m:Int))=some (.int ((l - m:Nat):Int)):=by rw[wj];congr 2;omega
 unfold gH at fin ⊢;rw[List.map_cons,List.reverse_cons];have O7:aI (run F w (n+2)) (.cmp .eq (.ix (.ix (.v 2) (.neg (.c (.int 1)))) (.c (.int 0))) (.c (.str [112,117,116]))) [some (.val (aF c)),some (.val (.int p)),some (.own ((R.map Pt.v).reverse++[q.v])),some (.own (C.map Pt.v)),some (.val (.int l)),a]=.ok false [some (.val (aF c)),some (.val (.int p)),some (.own ((R.map Pt.v).reverse++[q.v])),some (.own (C.map Pt.v)),some (.val (.int l)),a]:=by
  cases q with
  |put s=>cases hq
  |keep k=>exact aB rfl (by (repeat (first|array_get_dec|exact cP))) rfl
  |drop s=>exact aB rfl (by (repeat (first|array_get_dec|exact cP))) rfl
 refine ai (aL O7 (λh=>absurd h (by decide)) λ_=>?_);refine ai (aU (by (repeat (first|exact mn|array_get_dec|exact cP|exact z1 _))) rfl (fK rfl ha) ?_);refine ai (fD (by (repeat (first|array_get_dec|exact o8 rfl t1|exact ap _))) ?_);exact ai (aU (by (repeat (first|exact sb|array_get_dec))) rfl rfl (ay (ay fin)))
theorem KR(hst:F[bB]?=some fP)(hf:F[bQ]?=some (j6 bB))(hs:F[aD]?=some dS)(hp:F[bY]?=some gF)(ht:F[aY]?=some (jd bY aD))(hb:F[br]?=some (gA aD))(hd:F[i]?=some (AQ br bQ aD aY))(hw:5000<w)
  (c:List Pt) (p:Nat) (h1:c.length<=5000) (h2:tot c<=4000) (h:p<=aR c):∃A B,run F w (n+3) i [.val (aF c),.val (.int p)]=some (.tup [aF A,aF B],[])/\Cut c p A B:=by
 have c1:=λfr=>cI (fr:=fr) (iT (F:=F) (w:=w) (n:=n) hs hb c (by omega) (by omega));have c2:=λfr=>cI (fr:=fr) (iw (F:=F) (w:=w) (n:=n) hst hf c (by omega) (by omega));have t1:=gb c;have g1:=dB (eU (dH c));have m1:eG ((aE c).map Pt.v).reverse=some (.lst ((aE c).map Pt.v).reverse):=dg (bK (by simp;omega));have n1:cop .lt (.int (p:Int)) (.int 0)=some false:=by rw[ON];simp
 have n2:cop .gt (.int (p:Int)) (.int (aR c))=some false:=by rw[oz];simp;omega
 have key:Wp (exs (run F w (n+2)) w (AQ br bQ aD aY).body (eT (AQ br bQ aD aY) [.val (aF c),.val (.int p)])) λg fr=>∃A B,Cut c p A B/\g=.ret (.tup [aF A,aF B])/\outs 2 fr=[]:=by
  refine ai (aL (b:=false) (dQ (aB rfl (bE (au rfl) (bf rfl) n1) rfl) (aB rfl (bE (au rfl) (bh (aJ rfl (au rfl) aK) (c1 _)) n2) rfl)) (λh=>absurd h (by decide)) λ_=>ay ?_);refine ai (fJ (l:=((aE c).map Pt.v).reverse) (jE (oq (bh (aJ rfl (au rfl) aK) (c2 _)) rfl) m1) rfl rfl ?_);refine ai (fJ (l:=[]) (by repeat array_get_dec) rfl rfl ?_);refine ai (aU (au rfl) rfl rfl ?_);refine ai (Aw (oh (HH c p) (λk fr hI=>?_) w (tot (aE c)) _ (by omega) ⟨aE c,[],p,none,⟨rfl,dH c,.inl λx hx=>by cases hx⟩,rfl,by simp[aR,tot],by rw[qh];exact h,eU (dH c),(λq hq=>by cases hq),rfl,.none,rfl⟩));obtain⟨R,C,l,a,hJ,hC,hl,O8,hR,pC,hkk,rq,rfl⟩:=hI;have ln:=congrArg List.length hC;rw[List.length_append,dJ,dJ,dJ]at ln;have lC:=dB pC;have lR:=dB hR;have fin:l=0->jr (av R)=true->nx (run F w (n+2)) w (.cons zl .nil) (λg fr=>∃A B,Cut c p A B/\g=.ret (.tup [aF A,aF B])/\outs 2 fr=[]) .nx (gH c p R C l a):=λe0 e1=>by
   have sh:fS (gH c p R C l a)=[some (.val (aF c)),some (.val (.int p)),some (.val (.lst (R.map Pt.v).reverse)),some (.val (.lst (C.map Pt.v))),some (.val (.int l)),a]:=by
    show _ :: _ :: _ :: _ :: _ :: [a.map Sl.dD]=_;rw[dh rq];rfl
   have m2:iP (C.map Pt.v)=some (aF C):=iR (bK (by simp;omega));have m3:sC (.lst (R.map Pt.v).reverse)=some (aF R):=by
    show iP (R.map Pt.v).reverse.reverse=_;rw[List.reverse_reverse];exact iR (bK (by simp;omega))
   refine ai (bR (v:=.tup [aF C,aF R]) (af:=[some (.val (aF c)),some (.val (.int p)),some (.val (.lst (R.map Pt.v).reverse)),some (.val (.lst (C.map Pt.v))),some (.val (.int l)),a]) ?_ ⟨C,R,⟨hC,by omega,e1,pC,hR,hJ.1,hJ.2.1⟩,rfl,rfl⟩);rw[sh];exact mP (aN (qR (au rfl) m2) (aN (Rj (au rfl) m3) aZ)) uL
  cases R with
  |nil=>
   refine⟨false,_,lO (aB rfl (au rfl) rfl),?_⟩;dsimp only;rw[if_neg (by decide)];exact fin (by simp[aR,tot]at O8;omega) rfl
  |cons q R=>
   have O9:aI (run F w (n+2)) (.v 2) (gH c p (q :: R) C l a)=.ok true (gH c p (q :: R) C l a):=by
    unfold gH;rw[List.map_cons,List.reverse_cons];exact aB rfl (au rfl) iW
   by_cases hq:b7 q=true
   .cases q with
    |keep k=>cases hq
    |drop s=>cases hq
    |put s=>
     have ht1:aI (run F w (n+2)) Yq (gH c p (.put s :: R) C l a)=.ok true (gH c p (.put s :: R) C l a):=by
      refine fc O9 ?_;by_cases h0:0<l
      .exact lP (aB rfl (bE (au rfl) (bf rfl) (by rw[oz];simp;exact h0)) rfl)
      .refine dQ (aB rfl (bE (b:=false) (au rfl) (bf rfl) (by rw[oz];simp;omega)) rfl) ?_;unfold gH;rw[List.map_cons,List.reverse_cons];exact aB rfl (by (repeat (first|array_get_dec|exact cP))) rfl
     refine⟨true,_,ht1,?_⟩;dsimp only;rw[if_pos rfl];refine(O5 hs R C s l a hJ hC hl O8 hR pC (by omega) rq).mono λg fr ⟨hg,hx⟩=>?_;subst hg hkk;exact hx
   .have hq':b7 q=false:=by simpa using hq
    by_cases h0:0<l
    .refine⟨true,_,fc O9 (lP (aB rfl (bE (au rfl) (bf rfl) (by rw[oz];simp;exact h0)) rfl)),?_⟩;dsimp only;rw[if_pos rfl];refine(O6 hs hp ht R C q l a hJ hq' h0 hC hl O8 hR pC (by omega) (by omega) rq).mono λg fr ⟨hg,hx⟩=>?_;subst hg hkk;exact hx
    .have O7:aI (run F w (n+2)) (.cmp .eq (.ix (.ix (.v 2) (.neg (.c (.int 1)))) (.c (.int 0))) (.c (.str [112,117,116]))) (gH c p (q :: R) C l a)=.ok false (gH c p (q :: R) C l a):=by
      unfold gH;rw[List.map_cons,List.reverse_cons];cases q with
      |put s=>cases hq'
      |keep k=>exact aB rfl (by (repeat (first|array_get_dec|exact cP))) rfl
      |drop s=>exact aB rfl (by (repeat (first|array_get_dec|exact cP))) rfl
     refine⟨false,_,fc O9 (dQ (aB rfl (bE (b:=false) (au rfl) (bf rfl) (by rw[oz];simp;omega)) rfl) O7),?_⟩;dsimp only;rw[if_neg (by decide)];refine fin (by omega) ?_;have q0:=hR q (.head _);rw[bz];cases q with
     |put s=>cases hq'
     |keep k=>cases k with
      |zero=>exact absurd q0 (by simp[Pt.n])
      |succ k=>simp[Pt.av,List.replicate_succ,jr]
     |drop s=>cases s with
      |nil=>exact absurd q0 (by simp[Pt.n])
      |cons x s=>simp[Pt.av,jr]
 obtain⟨g,fr,e,A,B,hc,hg,ho⟩:=key;exact⟨A,B,cy hd rfl ⟨g,fr,e,hg,ho⟩,hc⟩
section
variable(hst:F[bB]?=some fP)(hf:F[bQ]?=some (j6 bB))(hj:F[wZ]?=some (Ge bQ))(hn:F[gG]?=some (oF bQ))(ha:F[KP]?=some (KO wZ gG))
include hst hf hj hn ha
end
end
end Pv
namespace Pv
open Ev (D bU bN TY BI ME T E Es Eo It S Ss Fn big deep rep cut bL)
structure CA(a:List At)(p:Nat)(x y:List At):Prop where
 ap:x++y=a
 ln:(aA x).length=p
 hd:jr y=true
theorem Pb(c:List Pt):gp c=(tA 0 (av c)).length:=by rw[<-b6,j7]
section
variable{F:List Fn}{w n aD bB bQ br eK bY aY Rw i:Nat}
end
end Pv
namespace Pv
open Ev (D bU bN TY BI ME T E Es Eo It S Ss Fn big deep rep cut bL)
abbrev Row:=List Nat×List Pt
noncomputable def Di(rs:List Row):List (List Pt):=rs.map Prod.snd
noncomputable def who(st:List V)(o:List Nat):Tq->V
 |.at i=>st.getD i .aS
 |.sg _=>.str o
noncomputable def Yr(st:List V)(r:Row):List V:=(told 0 r.2).map (who st r.1)
noncomputable def ows(st:List V)(rs:List Row):List V:=rs.foldl Yr st
open Classical in
noncomputable def bF(t:List Nat)(a c:List Pt):List Pt:=if h:∃X,Tn a c X t then h.choose else []
noncomputable def Ys(K:List Row):Prop:=∀A a b B,K=A++a :: b :: B->a.1≠b.1
structure Nm(t:List Nat)(rs K:List Row):Prop where
 ch:Ch t (Di K)
 tx:rA t (Di K)=rA t (Di rs)
 ow:∀st:List V,st.length=t.length->ows st K=ows st rs
 fm:∀q∈K,aE q.2=q.2/\0<cst q.2
 ad:Ys K
 ln:K.length<=rs.length
 sb:∀q∈K,∃r∈rs,r.1=q.1
 tt:Gb (Di K)<=Gb (Di rs)
section
variable{t:List Nat}{rs K:List Row}{o:List Nat}{c:List Pt}
end
end Pv
namespace Pv
open Ev (D bU bN TY BI ME T E Es Eo It S Ss Fn big deep rep cut bL)
inductive Pa(f:Bool):List At->List At->List At->Prop
 |nil:Pa f [] [] []
 |p1 {a b r:List At} {c:Nat}:(f=true\/jr b=true)->Pa f a b r->Pa f (.p c :: a) b (.p c :: r)
 |p2 {a b r:List At} {c:Nat}:(f=false\/jr a=true)->Pa f a b r->Pa f a (.p c :: b) (.k :: r)
 |kk {a b r:List At}:Pa f a b r->Pa f (.k :: a) (.k :: b) (.k :: r)
 |dk {a b r:List At} {c:Nat}:Pa f a b r->Pa f (.d c :: a) (.k :: b) (.d c :: r)
 |kd {a b r:List At} {c:Nat}:Pa f a b r->Pa f (.k :: a) (.d c :: b) r
 |dd {a b r:List At} {c e:Nat}:Pa f a b r->Pa f (.d c :: a) (.d e :: b) r
theorem uT{f:Bool}{a b:List At}{c d:Nat}(h:f=true\/jr (.p d :: b)=true)(h2:f=false\/jr (.p c :: a)=true):False:=by
 rcases h with rfl|h
 .rcases h2 with h2|h2
  .cases h2
  .simp[jr]at h2
 .simp[jr]at h
theorem Pa.uniq{f:Bool}{a b r:List At}(h:Pa f a b r):∀{r'},Pa f a b r'->r=r':=by
 induction h with
 |nil=>intro r' h';cases h';rfl
 |p1 hc h ih=>
  intro r' h';cases h' with
  |p1 _ h'=>rw[ih h']
  |p2 hc' h'=>exact(uT hc hc').elim
 |p2 hc h ih=>
  intro r' h';cases h' with
  |p1 hc' h'=>exact(uT hc' hc).elim
  |p2 _ h'=>rw[ih h']
 |kk h ih=>intro r' h';cases h' with|kk h'=>rw[ih h']
 |dk h ih=>intro r' h';cases h' with|dk h'=>rw[ih h']
 |kd h ih=>intro r' h';cases h' with|kd h'=>rw[ih h']
 |dd h ih=>intro r' h';cases h' with|dd h'=>rw[ih h']
theorem Pa.all(f:Bool):∀(n:Nat) (a b:List At) (t:List Nat),a.length+b.length<=n->aC (aA a) t=true->aC (aA b) t=true->∃r,Pa f a b r
 |0,a,b,t,hn,_,_=>by
  obtain rfl:a=[]:=List.length_eq_zero_iff.mp (by omega);obtain rfl:b=[]:=List.length_eq_zero_iff.mp (by omega);exact⟨[],.nil⟩
 |n+1,.p c :: a,b,t,hn,h1,h2=>by
  by_cases hc:f=true\/jr b=true
  .obtain⟨r,h⟩:=Pa.all f n a b t (by simp at hn;omega) h1 h2;exact⟨_,.p1 hc h⟩
  .cases b with
   |nil=>exact(hc (.inr rfl)).elim
   |cons y b=>
    cases y with
    |k=>exact(hc (.inr rfl)).elim
    |d e=>exact(hc (.inr rfl)).elim
    |p e=>
     obtain⟨r,h⟩:=Pa.all f n (.p c :: a) b t (by simp at hn ⊢;omega) h1 h2;exact⟨_,.p2 (.inl (by cases f<;>simp at hc ⊢)) h⟩
 |n+1,[],.p c :: b,t,hn,h1,h2=>by
  obtain⟨r,h⟩:=Pa.all f n [] b t (by simp at hn ⊢;omega) h1 h2;exact⟨_,.p2 (.inr rfl) h⟩
 |n+1,.k :: a,.p c :: b,t,hn,h1,h2=>by
  obtain⟨r,h⟩:=Pa.all f n (.k :: a) b t (by simp at hn ⊢;omega) h1 h2;exact⟨_,.p2 (.inr rfl) h⟩
 |n+1,.d e :: a,.p c :: b,t,hn,h1,h2=>by
  obtain⟨r,h⟩:=Pa.all f n (.d e :: a) b t (by simp at hn ⊢;omega) h1 h2;exact⟨_,.p2 (.inr rfl) h⟩
 |n+1,[],[],t,_,_,_=>⟨[],.nil⟩
 |n+1,[],.k :: b,t,_,h1,h2=>by cases t<;>simp[aA,aC]at h1 h2
 |n+1,[],.d e :: b,t,_,h1,h2=>by cases t<;>simp[aA,aC]at h1 h2
 |n+1,.k :: a,[],t,_,h1,h2=>by cases t<;>simp[aA,aC]at h1 h2
 |n+1,.d e :: a,[],t,_,h1,h2=>by cases t<;>simp[aA,aC]at h1 h2
 |n+1,.k :: a,.k :: b,t,hn,h1,h2=>by
  cases t with
  |nil=>simp[aA,aC]at h1
  |cons x t=>
   simp only[aA,aC,Bool.and_eq_true]at h1 h2;obtain⟨r,h⟩:=Pa.all f n a b t (by simp at hn;omega) h1.2 h2.2;exact⟨_,.kk h⟩
 |n+1,.d e :: a,.k :: b,t,hn,h1,h2=>by
  cases t with
  |nil=>simp[aA,aC]at h1
  |cons x t=>
   simp only[aA,aC,Bool.and_eq_true]at h1 h2;obtain⟨r,h⟩:=Pa.all f n a b t (by simp at hn;omega) h1.2 h2.2;exact⟨_,.dk h⟩
 |n+1,.k :: a,.d c :: b,t,hn,h1,h2=>by
  cases t with
  |nil=>simp[aA,aC]at h1
  |cons x t=>
   simp only[aA,aC,Bool.and_eq_true]at h1 h2;obtain⟨r,h⟩:=Pa.all f n a b t (by simp at hn;omega) h1.2 h2.2;exact⟨_,.kd h⟩
 |n+1,.d e :: a,.d c :: b,t,hn,h1,h2=>by
  cases t with
  |nil=>simp[aA,aC]at h1
  |cons x t=>
   simp only[aA,aC,Bool.and_eq_true]at h1 h2;obtain⟨r,h⟩:=Pa.all f n a b t (by simp at hn;omega) h1.2 h2.2;exact⟨_,.dd h⟩
structure Jn(f:Bool)(a b l m:List At)(W:Nat->List Tq):Prop where
 bk:Pa (!f) b a m
 t1:∀(i:Nat) (U:List Tq),(tA U.length m).map (sub (U++tA i a))=W i
 t2:∀(i:Nat) (U:List Tq),(tA U.length l).map (sub (U++tA i b))=W i
 ft:∀t:List Nat,aC (aA a) t=true->aC (aA b) t=true->aC (aA m) (dA a t)=true/\aC (aA l) (dA b t)=true/\dA m (dA a t)=dA l (dA b t)
theorem AR(U:List Tq)(q:Tq)(L m:List Tq):(Tq.at U.length :: m).map (sub (U++q :: L))=q :: m.map (sub ((U++[q])++L)):=by
 rw[List.map_cons,oG rfl];simp
theorem je(U:List Tq)(q:Tq):(U++[q]).length=U.length+1:=by simp
theorem Pa.join{f:Bool}{a b l:List At}(h:Pa f a b l):∃m W,Jn f a b l m W:=by
 induction h with
 |nil=>exact⟨[],λ_=>[],.nil,λ_ _=>rfl,λ_ _=>rfl,λt h _=>by cases t<;>simp[aA,aC,dA]at h ⊢⟩
 |@p1 a b r c hc h ih=>
  obtain⟨m,W,J⟩:=ih;refine⟨.k :: m,λi=>.sg c :: W i,.p2 (hc.imp (λz=>by rw[z];rfl) id) J.bk,λi U=>?_,λi U=>?_,λt h1 h2=>?_⟩
  .simp only[tA];rw[AR,<-je U (.sg c),J.t1]
  .simp only[tA,List.map_cons,sub];rw[J.t2]
  .obtain⟨g1,g2,g3⟩:=J.ft t h1 h2;exact⟨by simp only[aA,dA,aC];simp[g1],g2,by simp[dA,g3]⟩
 |@p2 a b r c hc h ih=>
  obtain⟨m,W,J⟩:=ih;refine⟨.p c :: m,λi=>.sg c :: W i,.p1 (hc.imp (λz=>by rw[z];rfl) id) J.bk,λi U=>?_,λi U=>?_,λt h1 h2=>?_⟩
  .simp only[tA,List.map_cons,sub];rw[J.t1]
  .simp only[tA];rw[AR,<-je U (.sg c),J.t2]
  .obtain⟨g1,g2,g3⟩:=J.ft t h1 h2;exact⟨g1,by simp only[aA,dA,aC];simp[g2],by simp[dA,g3]⟩
 |@kk a b r h ih=>
  obtain⟨m,W,J⟩:=ih;refine⟨.k :: m,λi=>.at i :: W (i+1),.kk J.bk,λi U=>?_,λi U=>?_,λt h1 h2=>?_⟩
  .simp only[tA];rw[AR,<-je U (.at i),J.t1]
  .simp only[tA];rw[AR,<-je U (.at i),J.t2]
  .cases t with
   |nil=>simp[aA,aC]at h1
   |cons x t=>
    simp only[aA,aC,Bool.and_eq_true]at h1 h2;obtain⟨g1,g2,g3⟩:=J.ft t h1.2 h2.2;exact⟨by simp[aA,dA,aC,g1],by simp[aA,dA,aC,g2],by simp[dA,g3]⟩
 |@dk a b r c h ih=>
  obtain⟨m,W,J⟩:=ih;refine⟨m,λi=>W (i+1),.kd J.bk,λi U=>?_,λi U=>?_,λt h1 h2=>?_⟩
  .simp only[tA];exact J.t1 (i+1) U
  .simp only[tA];have:=J.t2 (i+1) (U++[.at i]);rw[je]at this;rw[<-this];simp
  .cases t with
   |nil=>simp[aA,aC]at h1
   |cons x t=>
    simp only[aA,aC,Bool.and_eq_true]at h1 h2;obtain⟨g1,g2,g3⟩:=J.ft t h1.2 h2.2;have hx:=h1.1;simp at hx;exact⟨by simpa[dA]using g1,by simp[aA,dA,aC,g2,hx],by simpa[dA]using g3⟩
 |@kd a b r c h ih=>
  obtain⟨m,W,J⟩:=ih;refine⟨.d c :: m,λi=>W (i+1),.dk J.bk,λi U=>?_,λi U=>?_,λt h1 h2=>?_⟩
  .simp only[tA];have:=J.t1 (i+1) (U++[.at i]);rw[je]at this;rw[<-this];simp
  .simp only[tA];exact J.t2 (i+1) U
  .cases t with
   |nil=>simp[aA,aC]at h1
   |cons x t=>
    simp only[aA,aC,Bool.and_eq_true]at h1 h2;obtain⟨g1,g2,g3⟩:=J.ft t h1.2 h2.2;have hx:=h2.1;simp at hx;exact⟨by simp[aA,dA,aC,g1,hx],by simpa[dA]using g2,by simpa[dA]using g3⟩
 |@dd a b r c e h ih=>
  obtain⟨m,W,J⟩:=ih;refine⟨m,λi=>W (i+1),.dd J.bk,λi U=>?_,λi U=>?_,λt h1 h2=>?_⟩
  .simp only[tA];exact J.t1 (i+1) U
  .simp only[tA];exact J.t2 (i+1) U
  .cases t with
   |nil=>simp[aA,aC]at h1
   |cons x t=>
    simp only[aA,aC,Bool.and_eq_true]at h1 h2;obtain⟨g1,g2,g3⟩:=J.ft t h1.2 h2.2;exact⟨by simpa[dA]using g1,by simpa[dA]using g2,by simpa[dA]using g3⟩
theorem Pa.T7{f:Bool}:∀(s:List Nat) {a b r:List At},(f=true\/jr b=true)->Pa f (s.map .p++a) b r->∃r',r=s.map .p++r'/\Pa f a b r'
 |[],a,b,r,_,h=>⟨r,rfl,h⟩
 |c :: s,a,b,r,hc,h=>by
  rw[List.map_cons,List.cons_append]at h;cases h with
  |p1 _ h=>
   obtain⟨r',rfl,h'⟩:=Pa.T7 s hc h;exact⟨r',rfl,h'⟩
  |p2 hc' h=>exact(uT hc hc').elim
theorem Pa.T8{f:Bool}:∀(s:List Nat) {a b r:List At},(f=false\/jr a=true)->Pa f a (s.map .p++b) r->∃r',r=List.replicate s.length .k++r'/\Pa f a b r'
 |[],a,b,r,_,h=>⟨r,rfl,h⟩
 |c :: s,a,b,r,hc,h=>by
  rw[List.map_cons,List.cons_append]at h;cases h with
  |p1 hc' h=>exact(uT hc' hc).elim
  |p2 _ h=>
   obtain⟨r',rfl,h'⟩:=Pa.T8 s hc h;exact⟨r',by simp[List.replicate_succ],h'⟩
theorem Pa.HE{f:Bool}:∀(n:Nat) {a b r:List At},Pa f (List.replicate n .k++a) (List.replicate n .k++b) r->∃r',r=List.replicate n .k++r'/\Pa f a b r'
 |0,a,b,r,h=>⟨r,rfl,h⟩
 |n+1,a,b,r,h=>by
  rw[List.replicate_succ,List.cons_append,List.cons_append]at h;cases h with
  |kk h=>obtain⟨r',rfl,h'⟩:=Pa.HE n h;exact⟨r',by simp[List.replicate_succ],h'⟩
theorem Pa.T9{f:Bool}:∀(s:List Nat) {a b r:List At},Pa f (s.map .d++a) (List.replicate s.length .k++b) r->∃r',r=s.map .d++r'/\Pa f a b r'
 |[],a,b,r,h=>⟨r,rfl,h⟩
 |c :: s,a,b,r,h=>by
  rw[List.map_cons,List.cons_append,List.length_cons,List.replicate_succ,List.cons_append]at h;cases h with
  |dk h=>obtain⟨r',rfl,h'⟩:=Pa.T9 s h;exact⟨r',rfl,h'⟩
theorem Pa.HF{f:Bool}:∀(s:List Nat) {a b r:List At},Pa f (List.replicate s.length .k++a) (s.map .d++b) r->Pa f a b r
 |[],a,b,r,h=>h
 |c :: s,a,b,r,h=>by
  rw[List.map_cons,List.cons_append,List.length_cons,List.replicate_succ,List.cons_append]at h;cases h with
  |kd h=>exact Pa.HF s h
theorem Pa.Ua{f:Bool}:∀(s u:List Nat) {a b r:List At},s.length=u.length->Pa f (s.map .d++a) (u.map .d++b) r->Pa f a b r
 |[],[],a,b,r,_,h=>h
 |[],_ :: _,_,_,_,hl,_=>by simp at hl
 |_ :: _,[],_,_,_,hl,_=>by simp at hl
 |c :: s,e :: u,a,b,r,hl,h=>by
  rw[List.map_cons,List.cons_append,List.map_cons,List.cons_append]at h;cases h with
  |dd h=>exact Pa.Ua s u (by simpa using hl) h
theorem Pa.two{f:Bool}{A B r:List At}(p q:Pt)(hp:b7 p=false)(hq:b7 q=false)(hn:p.n=q.n)(h:Pa f (p.av++A) (q.av++B) r):∃r',r=av (if dm q then [p]else [])++r'/\Pa f A B r':=by
 cases p with
 |put s=>cases hp
 |keep k=>
  cases q with
  |put s=>cases hq
  |keep k'=>simp only[Pt.n]at hn;subst hn;obtain⟨r',rfl,h'⟩:=Pa.HE k h;exact⟨r',by simp[dm,av,Pt.av],h'⟩
  |drop s=>simp only[Pt.n]at hn;subst hn;exact⟨r,by simp[dm,av],Pa.HF s h⟩
 |drop s=>
  cases q with
  |put s=>cases hq
  |keep k'=>simp only[Pt.n]at hn;subst hn;obtain⟨r',rfl,h'⟩:=Pa.T9 s h;exact⟨r',by simp[dm,av,Pt.av],h'⟩
  |drop u=>simp only[Pt.n]at hn;exact⟨r,by simp[dm,av],Pa.Ua s u hn h⟩
noncomputable def lY:List Pt->Bool
 |.put _ :: _=>true
 |_=>false
theorem Dj{A:List Pt}(h:∀p∈A,0<p.n):jr (av A) = !lY A:=by
 cases A with
 |nil=>rfl
 |cons p A=>
  have hp:=h p (.head _);rw[bz];cases p with
  |keep k=>cases k with|zero=>simp[Pt.n]at hp|succ k=>rfl
  |drop s=>cases s with|nil=>simp[Pt.n]at hp|cons c s=>rfl
  |put s=>cases s with|nil=>simp[Pt.n]at hp|cons c s=>rfl
theorem Pc{f:Bool}{q:Pt}{B:List Pt}{r:List At}(hq:b7 q=false)(h0:0<q.n)(h:Pa f (av []) (av (q :: B)) r):False:=by
 rw[bz]at h;cases q with
 |put s=>cases hq
 |keep k=>cases k with|zero=>simp[Pt.n]at h0|succ k=>cases h
 |drop s=>cases s with|nil=>simp[Pt.n]at h0|cons c s=>cases h
theorem Pd{f:Bool}{q:Pt}{B:List Pt}{r:List At}(hq:b7 q=false)(h0:0<q.n)(h:Pa f (av (q :: B)) (av []) r):False:=by
 rw[bz]at h;cases q with
 |put s=>cases hq
 |keep k=>cases k with|zero=>simp[Pt.n]at h0|succ k=>cases h
 |drop s=>cases s with|nil=>simp[Pt.n]at h0|cons c s=>cases h
noncomputable def Gh(mZ:Nat):S:=.iff (.cl mZ (.cons (.v 0) (.cons (.v 1) .nil))) (.cons (.eY) .nil) .nil
noncomputable def Gi(bT:Nat):S:=.set 3 (.eF (.rev (.cl bT (.cons (.v 0) .nil))))
noncomputable def Gj(bT:Nat):S:=.set 4 (.eF (.rev (.cl bT (.cons (.v 1) .nil))))
noncomputable def Gk:S:=.set 5 (.lst .nil)
noncomputable def xg(fk:Nat)(bx:Nat)(cO:Nat):Ss:=(.cons (.iff (.an (.cl fk (.cons (.v 3) .nil)) (.orr (.v 2) (.nt (.cl fk (.cons (.v 4) .nil))))) (.cons (.exp (.me .append (.v 5) (.cons (.me .pop (.v 3) .nil) .nil))) .nil) (.cons (.iff (.cl fk (.cons (.v 4) .nil)) (.cons (.exp (.me .append (.v 5) (.cons (.tup (.cons (.c (.str [107,101,101,112])) (.cons (.cl bx (.cons (.me .pop (.v 4) .nil) .nil)) .nil))) .nil))) .nil) (.cons (.set 6 (.bi .min (.cons (.cl bx (.cons (.ix (.v 3) (.neg (.c (.int 1)))) .nil)) (.cons (.cl bx (.cons (.ix (.v 4) (.neg (.c (.int 1)))) .nil)) .nil)))) (.cons (.set 7 (.cl cO (.cons (.v 3) (.cons (.v 6) .nil)))) (.cons (.iff (.cmp .eq (.ix (.cl cO (.cons (.v 4) (.cons (.v 6) .nil))) (.c (.int 0))) (.c (.str [107,101,101,112]))) (.cons (.exp (.me .append (.v 5) (.cons (.v 7) .nil))) .nil) .nil) .nil)))) .nil)) .nil)
noncomputable def Gm(fk:Nat)(bx:Nat)(cO:Nat):S:=.ly (.orr (.v 3) (.v 4)) (xg fk bx cO)
noncomputable def Gn(bT:Nat):S:=.ret (.cl bT (.cons (.iY (.v 5)) .nil))
noncomputable def xj(mZ:Nat)(bT:Nat)(fk:Nat)(bx:Nat)(cO:Nat):Fn:=⟨3,8,(.cons (Gh mZ) (.cons (Gi bT) (.cons (Gj bT) (.cons Gk (.cons (Gm fk bx cO) (.cons (Gn bT) .nil))))))⟩
noncomputable def uA:S:=.ret (.an (.cmp .gt (.bi .len (.cons (.v 0) .nil)) (.c (.int 0))) (.cmp .eq (.ix (.ix (.v 0) (.neg (.c (.int 1)))) (.c (.int 0))) (.c (.str [112,117,116]))))
noncomputable def pW:Fn:=⟨1,1,(.cons uA .nil)⟩
section
variable{F:List Fn}{w n aD bB bQ bY aY gh lZ i:Nat}
theorem xm(h:F[i]?=some pW)(A:List Pt):run F w (n+1) i [.bor (A.map Pt.v).reverse]=some (.bl (lY A),[(A.map Pt.v).reverse]):=by
 refine cy h rfl ?_;cases A with
 |nil=>exact ai (bR (OI (b:=false) (bE (fH (aN (au rfl) aZ) lM) (bf rfl) oz) (λh=>absurd h (by decide)) λ_=>⟨rfl,rfl⟩) ⟨rfl,rfl⟩)
 |cons p A=>
  rw[List.map_cons,List.reverse_cons];have gt:cop .gt (.int (((A.map Pt.v).reverse++[p.v]).length:Nat)) (.int 0)=some true:=by rw[oz];exact congrArg some (decide_eq_true (by simp))
  cases p with
  |keep k=>exact ai (bR (uP (bE (fH (aN (au rfl) aZ) lM) (bf rfl) gt) (bE (cC (cC (au rfl) (oX (bf rfl)) cP) (bf rfl) rfl) (bf rfl) jc)) ⟨rfl,rfl⟩)
  |drop s=>exact ai (bR (uP (bE (fH (aN (au rfl) aZ) lM) (bf rfl) gt) (bE (cC (cC (au rfl) (oX (bf rfl)) cP) (bf rfl) rfl) (bf rfl) jc)) ⟨rfl,rfl⟩)
  |put s=>exact ai (bR (uP (bE (fH (aN (au rfl) aZ) lM) (bf rfl) gt) (bE (cC (cC (au rfl) (oX (bf rfl)) cP) (bf rfl) rfl) (bf rfl) jc)) ⟨rfl,rfl⟩)
theorem HJ{P:aO}{g j:Nat}{fr:Fr}{v:V}{l l':List V}(e:fr[j]?=some (some (.own l)))(h:P g [.bor l]=some (v,[l'])):fy P g [.inl j] fr=.ok v (fr.set j (some (.own l'))):=by
 have e1:lent fr j=some (.bor l):=by rw[zc,e];rfl
 simp[fy,bW,args,e1,h,back,e,Sl.with]
noncomputable def gc(one other:List Pt)(f:Bool)(A B C:List Pt)(a b:Option Sl):Fr:=[some (.val (aF one)),some (.val (aF other)),some (.val (.bl f)),some (.own (A.map Pt.v).reverse),some (.own (B.map Pt.v).reverse),some (.own (C.map Pt.v)),a,b]
noncomputable def Ub(one other:List Pt)(f:Bool)(r:List At)(N k:Nat)(fr:Fr):Prop:=∃A B C r' a b,Pa f (av A) (av B) r'/\av C++r'=r/\(∀p∈A,0<p.n)/\(∀p∈B,0<p.n)/\C.length+k<=N/\k=tot A+tot B/\vo a/\vo b/\fr=gc one other f A B C a b
noncomputable def Uc(one other:List Pt)(f:Bool)(r:List At)(N t:Nat)(g:Fl)(fr:Fr):Prop:=g=.nx/\∃j,j<t/\Ub one other f r N j fr
theorem Pe{C:List Pt}(lC:C.length<=5000)(d:Pt)(fr:Fr):gx .append 5 [d.v] fr (some (some (.own (C.map Pt.v))))=.ok .aS (fr.set 5 (some (.own ((C++[d]).map Pt.v)))):=by
 rw[List.map_append];exact jN (by simp;omega)
variable(hs:F[aD]?=some dS)(hp:F[bY]?=some gF)(ht:F[aY]?=some (jd bY aD))(Dk:F[gh]?=some pW){one other:List Pt}{f:Bool}{r:List At}{N:Nat}
include hs hp ht Dk
theorem Dl(hN:N<=5000)(A B C:List Pt)(r':List At)(a b:Option Sl)(hne:A≠[]\/B≠[])(h:Pa f (av A) (av B) r')(hC:av C++r'=r)(hA:∀p∈A,0<p.n)(hB:∀p∈B,0<p.n)(hk:C.length+(tot A+tot B)<=N)(ha:vo a)(hb:vo b) :
  Wp (exs (run F w (n+2)) w (xg gh aD aY) (gc one other f A B C a b)) (Uc one other f r N (tot A+tot B)):=by
 have lC:C.length<=5000:=by omega
 have pA:∀B C a b,fy (run F w (n+2)) gh [.inl 3] (gc one other f A B C a b)=.ok (.bl (lY A)) (gc one other f A B C a b):=λB C a b=>HJ (l:=(A.map Pt.v).reverse) rfl (xm (w:=w) (n:=n+1) Dk A);have pB:∀A C a b,fy (run F w (n+2)) gh [.inl 4] (gc one other f A B C a b)=.ok (.bl (lY B)) (gc one other f A B C a b):=λA C a b=>HJ (l:=(B.map Pt.v).reverse) rfl (xm (w:=w) (n:=n+1) Dk B);have nA:=Dj hA;have nB:=Dj hB;by_cases c1:lY A=true/\(f=true\/lY B=false)
 .obtain⟨cA,cB⟩:=c1;have t1:aI (run F w (n+2)) (.an (.cl gh (.cons (.v 3) .nil)) (.orr (.v 2) (.nt (.cl gh (.cons (.v 4) .nil))))) (gc one other f A B C a b)=.ok true (gc one other f A B C a b):=by
   refine fc (aB rfl (bh (j5 rfl aK) (pA B C a b)) cA) ?_;by_cases hf:f=true
   .exact lP (aB rfl (au rfl) hf)
   .exact dQ (aB rfl (au rfl) (by simpa using hf)) (jF (b:=false) (aB rfl (bh (j5 rfl aK) (pB A C a b)) (cB.resolve_left hf)))
  refine ai (aL t1 (λ_=>?_) λh=>absurd h (by decide));cases A with
  |nil=>cases cA
  |cons p A'=>
   cases p with
   |keep k=>cases cA
   |drop s=>cases cA
   |put s=>
    rw[bz]at h;obtain⟨r2,e2,h2⟩:=Pa.T7 s (by rw[nB];rcases cB with z|z<;>simp[z]) h;have hs1:=hA (.put s) (.head _);unfold gc;rw[List.map_cons,List.reverse_cons];refine ai (fD (oY rfl rfl (aN (oY rfl rfl aZ lN) aZ) (Pe lC (.put s) _)) (ay (ay ?_)));refine⟨rfl,tot A'+tot B,by rw[aQ];omega,A',B,C++[.put s],r2,a,b,h2,?_,λx hx=>hA x (.tail _ hx),hB,?_,rfl,ha,hb,rfl⟩
    .rw[<-hC,e2,dI];simp[av,Pt.av]
    .rw[aQ]at hk;simp;omega
 .have t1:aI (run F w (n+2)) (.an (.cl gh (.cons (.v 3) .nil)) (.orr (.v 2) (.nt (.cl gh (.cons (.v 4) .nil))))) (gc one other f A B C a b)=.ok false (gc one other f A B C a b):=by
   by_cases cA:lY A=true
   .have cf:f=false:=by cases f with|false=>rfl|true=>exact(c1 ⟨cA,.inl rfl⟩).elim
    have cB:lY B=true:=by cases e:lY B with|true=>rfl|false=>exact(c1 ⟨cA,.inr e⟩).elim
    exact fc (aB rfl (bh (j5 rfl aK) (pA B C a b)) cA) (dQ (aB rfl (au rfl) cf) (jF (b:=true) (aB rfl (bh (j5 rfl aK) (pB A C a b)) cB)))
   .exact lO (aB rfl (bh (j5 rfl aK) (pA B C a b)) (by simpa using cA))
  refine ai (aL t1 (λh=>absurd h (by decide)) λ_=>?_);by_cases cB:lY B=true
  .refine ai (aL (b:=true) (aB rfl (bh (j5 rfl aK) (pB A C a b)) cB) (λ_=>?_) λh=>absurd h (by decide));cases B with
   |nil=>cases cB
   |cons q B'=>
    cases q with
    |keep k=>cases cB
    |drop s=>cases cB
    |put s=>
     rw[bz]at h;have Rx:f=false\/jr (av A)=true:=by
      rw[nA];cases e:lY A with
      |false=>exact .inr rfl
      |true=>exact .inl (by cases f with|false=>rfl|true=>exact(c1 ⟨e,.inl rfl⟩).elim)
     obtain⟨r2,e2,h2⟩:=Pa.T8 s Rx h;have hs1:=hB (.put s) (.head _);have sl:s.length<=5000:=by rw[aQ]at hk;simp[Pt.n]at hk;omega
     have z:=λfr=>cI (fr:=fr) (fX (F:=F) (w:=w) (n:=n+1) hs (.put s) (by simp[Pt.n];omega));unfold gc;rw[List.map_cons,List.reverse_cons];refine ai (fD (oY rfl rfl (aN (mP (aN (bf rfl) (aN (bh (aJ rfl (oY rfl rfl aZ lN) aK) (z _)) aZ)) uL) aZ) (Pe lC (.keep s.length) _)) (ay (ay (ay ?_))));refine⟨rfl,tot A+tot B',by rw[aQ];omega,A,B',C++[.keep s.length],r2,a,b,h2,?_,hA,λx hx=>hB x (.tail _ hx),?_,rfl,ha,hb,rfl⟩
     .rw[<-hC,e2,dI];simp[av,Pt.av]
     .rw[aQ]at hk;simp[Pt.n]at hk hs1 ⊢;omega
  .have cA:lY A=false:=by
    cases e:lY A with
    |false=>rfl
    |true=>exact(c1 ⟨e,.inr (by simpa using cB)⟩).elim
   refine ai (aL (b:=false) (aB rfl (bh (j5 rfl aK) (pB A C a b)) (by simpa using cB)) (λh=>absurd h (by decide)) λ_=>?_);cases A with
   |nil=>
    cases B with
    |nil=>exact absurd hne (by simp)
    |cons q B'=>exact(Pc (by cases q<;>first|rfl|exact absurd rfl cB) (hB q (.head _)) h).elim
   |cons p A'=>
    have hpp:b7 p=false:=by cases p<;>first|rfl|cases cA
    cases B with
    |nil=>exact(Pd hpp (hA p (.head _)) h).elim
    |cons q B'=>
     have Ud:b7 q=false:=by cases q<;>first|rfl|exact absurd rfl cB
     have hp0:=hA p (.head _);have BO:=hB q (.head _);obtain⟨m,hm1,hm2,HG⟩:∃m:Nat,m<=p.n/\m<=q.n/\(m=p.n\/m=q.n):=⟨min p.n q.n,by omega,by omega,by omega⟩
     have mn:cX .min [.int p.n,.int q.n]=some (.int m):=by
      rw[wm];split
      .congr 2;omega
      .congr 2;omega
     rw[aQ,aQ]at hk;have lA:=dB (c:=A') λx hx=>hA x (.tail _ hx);have lB:=dB (c:=B') λx hx=>hB x (.tail _ hx);have h3:Pa f ((p.tk m).av++av (gg m p++A')) ((q.tk m).av++av (gg m q++B')) r':=by
      rw[dI,dI,<-List.append_assoc,<-List.append_assoc,<-lW hm1,<-lW hm2,<-bz,<-bz];exact h
     obtain⟨r2,e2,h4⟩:=Pa.two (p.tk m) (q.tk m) (by rw[o9.2];exact hpp) (by rw[o9.2];exact Ud) (by rw[(mX hm1).2,(mX hm2).2]) h3;have z1:=λfr=>cI (fr:=fr) (fX (F:=F) (w:=w) (n:=n+1) hs p (by omega));have z2:=λfr=>cI (fr:=fr) (fX (F:=F) (w:=w) (n:=n+1) hs q (by omega));have k1:=jq (F:=F) (w:=w) (n:=n) hs hp ht (A'.map Pt.v).reverse p m hm1 (by omega) (by simp;omega);have k2:=jq (F:=F) (w:=w) (n:=n) hs hp ht (B'.map Pt.v).reverse q m hm2 (by omega) (by simp;omega);rw[<-sU]at k1 k2;have fin:∀C' b',vo b'->av C'++r2=r->C'.length<=C.length+1->Uc one other f r N (tot (p :: A')+tot (q :: B')) .nx (gc one other f (gg m p++A') (gg m q++B') C' (some (.val (.int m))) b'):=λC' b' vb e3 e4=>by
      refine⟨rfl,_,?_,_,_,_,r2,_,_,h4,e3,?_,?_,?_,rfl,.val,vb,rfl⟩
      .rw[dz,dz,gO,gO,aQ,aQ];omega
      .intro x hx;rcases List.mem_append.mp hx with hx|hx
       .exact lX m p x hx
       .exact hA x (.tail _ hx)
      .intro x hx;rcases List.mem_append.mp hx with hx|hx
       .exact lX m q x hx
       .exact hB x (.tail _ hx)
      .rw[dz,dz,gO,gO];omega
     unfold gc;rw[List.map_cons,List.reverse_cons,List.map_cons,List.reverse_cons];refine ai (aU (fH (aN (bh (aJ rfl (cC (au rfl) (oX (bf rfl)) cP) aK) (z1 _)) (aN (bh (aJ rfl (cC (au rfl) (oX (bf rfl)) cP) aK) (z2 _)) aZ)) mn) rfl (fK rfl ha) ?_);refine ai (aU (bh (j5 rfl (aJ rfl (au rfl) aK)) (o8 rfl k1)) rfl (fK rfl hb) ?_);cases q with
     |put s=>cases Ud
     |keep k=>
      have Pf:r'=(p.tk m).av++r2:=by rw[e2];simp[dm,Pt.tk,av]
      refine ai (aL (b:=true) (aB rfl (bE (cC (bh (j5 rfl (aJ rfl (au rfl) aK)) (o8 rfl k2)) (bf rfl) rfl) (bf rfl) jc) rfl) (λ_=>?_) λh=>absurd h (by decide));refine ai (fD (oY rfl rfl (aN (au rfl) aZ) (Pe lC (p.tk m) _)) (ay (ay (ay (ay ?_)))));exact fin (C++[p.tk m]) _ .val (by rw[<-hC,Pf,dI];simp[av]) (by simp)
     |drop s=>
      have Pf:r'=r2:=by rw[e2];simp[dm,Pt.tk,av]
      refine ai (aL (b:=false) (aB rfl (bE (cC (bh (j5 rfl (aJ rfl (au rfl) aK)) (o8 rfl k2)) (bf rfl) rfl) (bf rfl) jc) rfl) (λh=>absurd h (by decide)) λ_=>ay (ay (ay ?_)));exact ay (fin C _ .val (by rw[<-hC,Pf]) (by omega))
omit hs hp ht Dk in
theorem Pa.len{f:Bool}{a b r:List At}(h:Pa f a b r):r.length<=a.length+b.length:=by
 induction h with
 |nil=>exact Nat.le_refl _
 |p1 _ _ ih=>simp;omega
 |p2 _ _ ih=>simp;omega
 |kk _ ih=>simp;omega
 |dk _ ih=>simp;omega
 |kd _ ih=>simp;omega
 |dd _ ih=>simp;omega
theorem Gp(hst:F[bB]?=some fP)(hf:F[bQ]?=some (j6 bB))(hd:F[i]?=some (xj lZ bQ gh aD aY))(hw:5000<w)(one other:List Pt)(f:Bool)(t:List Nat)(h1:az one t=true)(h2:az other t=true)(b1:tot one<=2000)(b2:tot other<=2000)(l1:one.length<=2000)(l2:other.length<=2000)
  (hcl:run F w (n+2) lZ [.val (aF one),.val (aF other)]=some (.lst [],[])) :
  ∃ps,Pa f (av (aE one)) (av (aE other)) (av ps)/\run F w (n+3) i [.val (aF one),.val (aF other),.val (.bl f)]=some (aF (aE ps),[]):=by
 have f1:aC (aA (av (aE one))) t=true:=by rw[<-bO,cz,<-cD];exact h1
 have f2:aC (aA (av (aE other))) t=true:=by rw[<-bO,cz,<-cD];exact h2
 obtain⟨r,hr⟩:=Pa.all f _ _ _ t (Nat.le_refl _) f1 f2;have c0:=λfr=>call2 (fr:=fr) hcl;have c3:=λfr=>cI (fr:=fr) (iw (F:=F) (w:=w) (n:=n) hst hf one (by omega) (by omega));have c4:=λfr=>cI (fr:=fr) (iw (F:=F) (w:=w) (n:=n) hst hf other (by omega) (by omega));have t1:=gb one;have t2:=gb other;have g1:=dB (eU (dH one));have g2:=dB (eU (dH other));have m1:eG ((aE one).map Pt.v).reverse=some (.lst ((aE one).map Pt.v).reverse):=dg (bK (by simp;omega));have m2:eG ((aE other).map Pt.v).reverse=some (.lst ((aE other).map Pt.v).reverse):=dg (bK (by simp;omega));have key:Wp (exs (run F w (n+2)) w (xj lZ bQ gh aD aY).body (eT (xj lZ bQ gh aD aY) [.val (aF one),.val (aF other),.val (.bl f)])) λg fr=>∃ps,av ps=r/\g=.ret (aF (aE ps))/\outs 3 fr=[]:=by
  refine ai (aL (b:=false) (aB rfl (bh (aJ rfl (au rfl) (aJ rfl (au rfl) aK)) (c0 _)) rfl) (λh=>absurd h (by decide)) λ_=>ay ?_);refine ai (fJ (l:=((aE one).map Pt.v).reverse) (jE (oq (bh (aJ rfl (au rfl) aK) (c3 _)) rfl) m1) rfl rfl ?_);refine ai (fJ (l:=((aE other).map Pt.v).reverse) (jE (oq (bh (aJ rfl (au rfl) aK) (c4 _)) rfl) m2) rfl rfl ?_);refine ai (fJ (l:=[]) (qQ aZ uK) rfl rfl ?_);refine ai (Aw (oh (Ub one other f r (tot one+tot other)) (λk fr hI=>?_) w (tot one+tot other) _ (by omega) ⟨aE one,aE other,[],r,none,none,hr,rfl,eU (dH one),eU (dH other),by simp,by omega,.none,.none,rfl⟩));obtain⟨A,B,C,r',a,b,hT,hC,hA,hB,hk,hkk,rq,Ue,rfl⟩:=hI;by_cases hne:A≠[]\/B≠[]
  .have ht1:aI (run F w (n+2)) (.orr (.v 3) (.v 4)) (gc one other f A B C a b)=.ok true (gc one other f A B C a b):=by
    cases A with
    |cons p A=>unfold gc;rw[List.map_cons,List.reverse_cons];exact lP (aB rfl (au rfl) iW)
    |nil=>
     cases B with
     |nil=>simp at hne
     |cons q B=>unfold gc;rw[List.map_cons,List.reverse_cons];exact dQ (aB rfl (au rfl) rfl) (aB rfl (au rfl) iW)
   refine⟨true,_,ht1,?_⟩;dsimp only;rw[if_pos rfl];refine(Dl hs hp ht Dk (N:=tot one+tot other) (by omega) A B C r' a b hne hT hC hA hB (by omega) rq Ue).mono λg fr ⟨hg,hx⟩=>?_;subst hg hkk;exact hx
  .obtain⟨rfl,rfl⟩:A=[]/\B=[]:=by simpa using hne
   refine⟨false,_,dQ (aB rfl (au rfl) rfl) (aB rfl (au rfl) rfl),?_⟩;dsimp only;rw[if_neg (by decide)];cases hT;rw[List.append_nil]at hC;subst hC;have lC:=hr.len;rw[dJ,dJ,dJ]at lC;have mt:toT (.lst (C.map Pt.v))=some (aF C):=by rw[sL];exact iR (bK (by simp;omega))
   have c5:=λfr=>cI (fr:=fr) (iw (F:=F) (w:=w) (n:=n) hst hf C (by omega) (by omega));have sh:fS (gc one other f [] [] C a b)=[some (.val (aF one)),some (.val (aF other)),some (.val (.bl f)),some (.val (.lst [])),some (.val (.lst [])),some (.val (.lst (C.map Pt.v))),a,b]:=by
    show _ :: _ :: _ :: _ :: _ :: _ :: [a.map Sl.dD,b.map Sl.dD]=_;rw[dh rq,dh Ue];rfl
   refine ai (bR (v:=aF (aE C)) (af:=[some (.val (aF one)),some (.val (aF other)),some (.val (.bl f)),some (.val (.lst [])),some (.val (.lst [])),some (.val (.lst (C.map Pt.v))),a,b]) ?_ ⟨C,rfl,rfl,rfl⟩);rw[sh];exact bh (aJ rfl (qR (au rfl) mt) aK) (c5 _)
 obtain⟨g,fr,e,ps,hps,hg,ho⟩:=key;exact⟨ps,hps▸hr,cy hd rfl ⟨g,fr,e,hg,ho⟩⟩
end
theorem Pg{one other ps:List Pt}{f:Bool}{t:List Nat}(h1:az one t=true)(h2:az other t=true)(h:Pa f (av (aE one)) (av (aE other)) (av ps)):az (aE ps) (aM other t)=true:=by
 obtain⟨m,W,J⟩:=h.join;have f1:aC (aA (av (aE one))) t=true:=by rw[<-bO,cz,<-cD];exact h1
 have f2:aC (aA (av (aE other))) t=true:=by rw[<-bO,cz,<-cD];exact h2
 rw[mV,cD,bO,<-cL other,cZ];exact(J.ft t f1 f2).2.1
noncomputable def pS:List At->List Nat
 |[]=>[]
 |.p c :: a=>c :: pS a
 |_ :: a=>pS a
theorem rC:∀a b:List At,pS (a++b)=pS a++pS b
 |[],_=>rfl
 |.k :: a,b=>rC a b
 |.d _ :: a,b=>rC a b
 |.p c :: a,b=>congrArg (c :: ·) (rC a b)
theorem HK(n:Nat):pS (List.replicate n .k)=[]:=by
 induction n with
 |zero=>rfl
 |succ n ih=>exact ih
theorem Pa.ql{f:Bool}{a b r:List At}(h:Pa f a b r):pS r=pS a:=by
 induction h with
 |nil=>rfl
 |p1 _ _ ih=>exact congrArg (List.cons _) ih
 |p2 _ _ ih=>exact ih
 |kk _ ih=>exact ih
 |dk _ ih=>exact ih
 |kd _ ih=>exact ih
 |dd _ ih=>exact ih
noncomputable def Ph:List Tq->List Nat
 |[]=>[]
 |.sg c :: a=>c :: Ph a
 |_ :: a=>Ph a
theorem rD:∀(a:List At) (i:Nat),pS a=Ph (tA i a)
 |[],_=>rfl
 |.k :: a,i=>rD a (i+1)
 |.d _ :: a,i=>rD a (i+1)
 |.p c :: a,i=>congrArg (c :: ·) (rD a i)
theorem KS(c:List Pt):pS (av (aE c))=pS (av c):=by rw[rD _ 0,rD _ 0,<-b6,<-b6,cK]
noncomputable def pe:List (List Nat)->List (List Nat)->Nat
 |x :: a,y :: b=>(if x≠[]/\y≠[]then 1 else 0)+pe a b
 |_,_=>0
theorem Pa.cost{f:Bool}{a b r:List At}(h:Pa f a b r):cA a=cA r+pe (aA a) (aA b):=by
 induction h with
 |nil=>rfl
 |p1 _ _ ih=>simp only[cA,aA,ih];omega
 |p2 _ _ ih=>simp only[cA,aA,ih]
 |kk _ ih=>simp only[cA,aA,pe,ih];simp
 |dk _ ih=>simp only[cA,aA,pe,ih];simp;omega
 |kd _ ih=>simp only[cA,aA,pe,ih];simp
 |dd _ ih=>simp only[cA,aA,pe,ih];simp;omega
end Pv
namespace Pv
open Ev (D bU bN TY BI ME T E Es Eo It S Ss Fn big deep rep cut bL)
theorem zm(k:List (Int×List Nat))(p q:Int)(s:List Nat):Ev.cJ (Ev.di k p s) q=if q=p then some s else Ev.cJ k q:=by
 unfold Ev.di;split
 .rename_i h;unfold Ev.cJ;induction k with
  |nil=>simp at h
  |cons x k ih=>
   simp only[List.map_cons,List.find?_cons];by_cases hx:x.1=p
   .rw[if_pos hx];by_cases hq:q=p
    .simp[hx,hq]
    .have:¬ (x.1=q):=λz=>hq (by rw[<-z,hx]);simp only[decide_eq_false this,if_neg hq];clear ih h;induction k with
     |nil=>rfl
     |cons y k ih=>
      simp only[List.map_cons,List.find?_cons];by_cases hy:y.1=p
      .rw[if_pos hy];have:¬ (y.1=q):=λz=>hq (by rw[<-z,hy]);simp only[decide_eq_false this];exact ih
      .rw[if_neg hy];by_cases hz:y.1=q
       .simp[hz]
       .simp only[decide_eq_false hz];exact ih
   .rw[if_neg hx];by_cases hq:x.1=q
    .have:¬ q=p:=λz=>hx (by rw[hq,z]);simp[hq,this]
    .simp only[decide_eq_false hq];exact ih (by simpa[hx]using h)
 .rename_i h;unfold Ev.cJ;rw[List.find?_append];by_cases hq:q=p
  .subst hq;have:k.find? (λx=>decide (x.1=q))=none:=by
    rw[List.find?_eq_none];intro x hx hz;exact h (List.any_eq_true.mpr ⟨x,hx,hz⟩)
   rw[this];simp
  .have:¬ p=q:=λz=>hq z.symm;simp[hq,this]
noncomputable def KI(t:List Nat)(k:List (Int×List Nat)):Prop:=∀p s,Ev.cJ k p=some s->∃(i c:Nat),p=i/\t[i]?=some c/\s=[c]
theorem KI.put{t:List Nat}{k:List (Int×List Nat)}(h:KI t k){i c:Nat}(hc:t[i]?=some c):KI t (Ev.di k i [c]):=λp s e=>by
 rw[zm]at e;split at e
 .rename_i hp;cases e;exact⟨i,c,hp,hc,rfl⟩
 .exact h p s e
theorem KI.ql{t:List Nat}:∀(s:List Nat) {k:List (Int×List Nat)}(i:Nat),KI t k->(t.drop i).take s.length=s->KI t (gS k i s)
 |[],k,i,h,_=>h
 |c :: s,k,i,h,e=>by
  have hl:i<t.length:=by
   refine Nat.lt_of_not_le λz=>?_;rw[List.drop_eq_nil_of_le z]at e;simp at e
  rw[List.drop_eq_getElem_cons hl,List.length_cons,List.take_succ_cons,List.cons.injEq]at e;have:=KI.ql s (i+1) (h.put (i:=i) (c:=c) (by rw[List.getElem?_eq_getElem hl,e.1])) e.2;exact this
theorem xo:∀(s:List Nat) (k:List (Int×List Nat)) (p:Int),(gS k p s).length<=k.length+s.length
 |[],k,p=>by simp[gS]
 |c :: s,k,p=>by
  have h1:=xo s (Ev.di k p [c]) (p+1);have h2:(Ev.di k p [c]).length<=k.length+1:=by unfold Ev.di;split<;>simp
  rw[gS,List.length_cons];omega
noncomputable def nD:List Pt->Nat
 |[]=>0
 |.drop s :: c=>s.length+nD c
 |_ :: c=>nD c
theorem kh:∀c:List Pt,nD c<=tot c
 |[]=>Nat.zero_le _
 |.drop s :: c=>by have:=kh c;rw[aQ];simp only[nD,Pt.n];omega
 |.put s :: c=>by have:=kh c;rw[aQ];simp only[nD,Pt.n];omega
 |.keep n :: c=>by have:=kh c;rw[aQ];simp only[nD,Pt.n];omega
theorem rE:∀(c:List Pt) (t:List Nat) (i:Nat) (k:List (Int×List Nat)),az c (t.drop i)=true->KI t k->k.length+nD c<=1000->∃k',bg (c.map Pt.v) i k=some k'/\KI t k'/\k'.length<=k.length+nD c
 |[],t,i,k,_,h,_=>⟨k,rfl,h,by omega⟩
 |.keep m :: c,t,i,k,hf,h,hb=>by
  have hf':az c (t.drop (i+m))=true:=by simp only[az,Bool.and_eq_true]at hf;have:=hf.2;rwa [List.drop_drop]at this
  obtain⟨k',e1,e2,e3⟩:=rE c t (i+m) k hf' h hb;refine⟨k',?_,e2,e3⟩;show bg (.tup [.str [107,101,101,112],.int m] :: c.map Pt.v) i k=_;rw[bg,if_pos rfl,<-e1];congr 1
 |.put s :: c,t,i,k,hf,h,hb=>by
  obtain⟨k',e1,e2,e3⟩:=rE c t i k hf h hb;refine⟨k',?_,e2,e3⟩;show bg (.tup [.str [112,117,116],.str s] :: c.map Pt.v) i k=_;rw[bg,if_neg (by decide),if_neg (by decide)];exact e1
 |.drop s :: c,t,i,k,hf,h,hb=>by
  simp only[az,Bool.and_eq_true,decide_eq_true_eq]at hf;simp only[nD]at hb;have hl:=xo s k i;obtain⟨k',e1,e2,e3⟩:=rE c t (i+s.length) (gS k i s) (by have:=hf.2;rwa [List.drop_drop]at this) (h.ql s i (List.prefix_iff_eq_take.mp (List.isPrefixOf_iff_prefix.mp hf.1)).symm) (by omega);refine⟨k',?_,e2,by simp only[nD];omega⟩;show bg (.tup [.str [100,114,111,112],.str s] :: c.map Pt.v) i k=_;rw[bg,if_pos rfl,if_pos (by omega),<-e1];congr 1
section
variable{F:List Fn}{w n i:Nat}
theorem rF(hd:F[i]?=some fT)(c:List Pt)(t:List Nat)(hf:az c t=true)(b:nD c<=1000):∃k,run F w (n+1) i [.val (aF c)]=some (.dct k,[])/\KI t k/\k.length<=nD c:=by
 obtain⟨k,e1,e2,e3⟩:=rE c t 0 [] hf (λp s e=>by cases e) (by simpa using b);refine⟨k,?_,e2,by simpa using e3⟩;have bad:exs (run F w n) w fT.body (eT fT [.val (aF c)])=.bad:=by
  show exs _ _ (.cons (.set 1 .ig) _) _=_;rw[exs,ex,ev];rfl
 rw[run_eq hd rfl,bad];have fb:fin fT [.val (aF c)] .bad=ug fT [.val (aF c)]:=by simp only[fin]
 rw[fb];unfold ug;rw[if_pos rfl];show(bg (c.map Pt.v) 0 []).map _=_;have MJ:bg (c.map Pt.v) 0 []=some k:=e1;rw[MJ];rfl
theorem Gq{l:List Int}{x:Int}(h:x∈Ev.sortI l):x∈l:=by
 have ins:∀(a:Int) (m:List Int),x∈Ev.insI a m->x=a\/x∈m:=λa m=>by
  induction m with
  |nil=>intro h;simp[Ev.insI]at h;exact .inl h
  |cons b m ih=>
   intro h;unfold Ev.insI at h;split at h
   .rcases List.mem_cons.mp h with h|h
    .exact .inl h
    .exact .inr h
   .rcases List.mem_cons.mp h with h|h
    .exact .inr (by rw[h];simp)
    .rcases ih h with h|h
     .exact .inl h
     .exact .inr (.tail _ h)
 induction l with
 |nil=>simp[Ev.sortI]at h
 |cons a l ih=>
  rcases ins a _ h with h|h
  .rw[h];simp
  .exact .tail _ (ih h)
theorem Gr(l:List Int):(Ev.sortI l).length=l.length:=by
 have ins:∀(a:Int) (m:List Int),(Ev.insI a m).length=m.length+1:=λa m=>by
  induction m with
  |nil=>rfl
  |cons b m ih=>unfold Ev.insI;split<;>simp[ih]
 induction l with
 |nil=>rfl
 |cons a l ih=>rw[Ev.sortI,ins,ih];rfl
theorem KU{k:List (Int×List Nat)}{p:Int}(h:p∈k.map (·.1)):∃s,Ev.cJ k p=some s:=by
 obtain⟨x,hx,rfl⟩:=List.mem_map.mp h;unfold Ev.cJ;cases e:k.find? (λy=>decide (y.1=x.1))with
 |none=>rw[List.find?_eq_none]at e;exact absurd (decide_eq_true rfl) (e x hx)
 |some y=>exact⟨y.2,rfl⟩
noncomputable def xq(cR:Nat):S:=.iff (.cmp .ne (.cl cR (.cons (.v 0) .nil)) (.cl cR (.cons (.v 1) .nil))) (.cons (.eY) .nil) .nil
noncomputable def xr(b8:Nat):S:=.set 2 (.cl b8 (.cons (.v 0) .nil))
noncomputable def xu(b8:Nat):S:=.set 3 (.cl b8 (.cons (.v 1) .nil))
noncomputable def xw:S:=.ret (.comp (.v 4) (.one 4) (.seq (.bi .ko (.cons (.v 2) .nil))) (.yes (.cmp .ne (.kr (.v 3) (.v 4) (.kq (.v 2) (.v 4))) (.kq (.v 2) (.v 4)))))
noncomputable def rG(cR:Nat)(b8:Nat):Fn:=⟨2,5,(.cons (xq cR) (.cons (xr b8) (.cons (xu b8) (.cons xw .nil))))⟩
theorem AS{aD br kT:Nat}(hs:F[aD]?=some dS)(hb:F[br]?=some (gA aD))(hd:F[kT]?=some fT)(hc:F[i]?=some (rG br kT))(one other:List Pt)(t:List Nat)(h1:az one t=true)(h2:az other t=true)(d1:nD one<=60)(d2:nD other<=60)(b1:tot one<=2000)(b2:tot other<=2000)(l1:one.length<=900)(l2:other.length<=900) :
  run F w (n+3) i [.val (aF one),.val (aF other)]=some (.lst [],[]):=by
 obtain⟨k1,r1,K1,n1⟩:=rF (F:=F) (w:=w) (n:=n+1) hd one t h1 (by omega);obtain⟨k2,r2,K2,n2⟩:=rF (F:=F) (w:=w) (n:=n+1) hd other t h2 (by omega);have r1:=λfr=>cI (fr:=fr) r1;have r2:=λfr=>cI (fr:=fr) r2;have c1:=λfr=>cI (fr:=fr) (iT (F:=F) (w:=w) (n:=n) hs hb one (by omega) (by omega));have c2:=λfr=>cI (fr:=fr) (iT (F:=F) (w:=w) (n:=n) hs hb other (by omega) (by omega));have e1:=dZ h1;have e2:=dZ h2;have ne:cop .ne (.int (aR one)) (.int (aR other))=some false:=by rw[Ax,<-e1,<-e2];simp
 have so:cX .ko [.dct k1]=some (.lst ((Ev.sortI (k1.map (·.1))).map V.int)):=by
  delta cX;dsimp only
  show(if k1.length<64 then eG _ else none)=_;rw[if_pos (by omega)];exact dg (bK (by rw[List.length_map,Gr,List.length_map];omega))
 refine cy hc rfl ?_;refine ai (aL (b:=false) (aB rfl (bE (bh (aJ rfl (au rfl) aK) (c1 _)) (bh (aJ rfl (au rfl) aK) (c2 _)) ne) rfl) (λh=>absurd h (by decide)) λ_=>ay ?_);refine ai (aU (bh (aJ rfl (au rfl) aK) (r1 _)) rfl rfl ?_);refine ai (aU (bh (aJ rfl (au rfl) aK) (r2 _)) rfl rfl ?_);refine ai (bR (j4 (l:=[]) (gy (fH (aN (au rfl) aZ) so) rfl) rfl ?_ uK) ⟨rfl,rfl⟩);have none_:∀{f:V->Option (Option V)} (l:List Int),(∀p∈l,f (.int p)=some none)->cW f (l.map V.int)=some []:=λ{f} l h=>by
  have:=jZ (f:=f) V.int (λ_=>false) (λ_=>V.aS) l λa ha=>by rw[h a ha];rfl
  rw[this];simp
 refine none_ _ λp hp=>?_;obtain⟨s,hv⟩:=KU (Gq hp);obtain⟨j,c,rfl,hc1,rfl⟩:=K1 p s hv;have g1:qf (.dct k1) (.int j)=some (.str [c]):=by simp[qf,hv]
 have g2:nQ (.dct k2) (.int j) (.str [c])=some (.str [c]):=by
  cases e:Ev.cJ k2 j with
  |none=>simp[nQ,e]
  |some s2=>
   obtain⟨j2,c',hj,hc2,rfl⟩:=K2 _ _ e;have:j2=j:=by omega
   subst this;rw[hc1]at hc2;cases hc2;simp[nQ,e]
 exact sN (b:=false) (v:=.aS) (bI:=[]) rfl (aB rfl (bE (Hx (au rfl) (au rfl) (Hw (au rfl) (au rfl) g1) g2) (Hw (au rfl) (au rfl) g1) (by rw[iS];simp)) rfl) λh=>absurd h (by decide)
theorem xx{aD br kT:Nat}(hs:F[aD]?=some dS)(hb:F[br]?=some (gA aD))(hd:F[kT]?=some fT)(hc:F[i]?=some (rG br kT))(one other:List Pt)(t:List Nat)(h1:az one t=true)(h2:az other t=true)(b1:tot one<=60)(b2:tot other<=60)(l1:one.length<=900)(l2:other.length<=900) :
  run F w (n+3) i [.val (aF one),.val (aF other)]=some (.lst [],[]):=
 AS hs hb hd hc one other t h1 h2 (Nat.le_trans (kh _) b1) (Nat.le_trans (kh _) b2) (Nat.le_trans b1 (by decide)) (Nat.le_trans b2 (by decide)) l1 l2
end
theorem Gs:∀s:List Nat,pS (s.map .p)=s
 |[]=>rfl
 |c :: s=>congrArg (c :: ·) (Gs s)
theorem Gu:∀s:List Nat,pS (s.map .d)=[]
 |[]=>rfl
 |_ :: s=>Gu s
end Pv
namespace Pv
noncomputable def Ug:At->Pt
 |.k=>.keep 1
 |.d c=>.drop [c]
 |.p c=>.put [c]
theorem oH:∀r:List At,av (r.map Ug)=r
 |[]=>rfl
 |.k :: r=>by rw[List.map_cons,bz,oH r];rfl
 |.d c :: r=>by rw[List.map_cons,bz,oH r];rfl
 |.p c :: r=>by rw[List.map_cons,bz,oH r];rfl
open Classical in
noncomputable def Uh(f:Bool)(a b:List At):List At:=if h:∃r,Pa f a b r then h.choose else []
noncomputable def ld(f:Bool)(one other:List Pt):List Pt:=aE ((Uh f (av (aE one)) (av (aE other))).map Ug)
theorem AU{c:List Pt}{t:List Nat}(h:az c t=true):aC (aA (av (aE c))) t=true:=by rw[<-bO,cz,<-cD];exact h
theorem HL{f:Bool}{one other ps:List Pt}(h:Pa f (av (aE one)) (av (aE other)) (av ps)):ld f one other=aE ps:=by
 unfold ld;refine Gd ?_;have h2:∃r,Pa f (av (aE one)) (av (aE other)) r:=⟨_,h⟩
 rw[oH,Uh,dif_pos h2];exact h2.choose_spec.uniq h
theorem AV(f:Bool){one other:List Pt}{t:List Nat}(h1:az one t=true)(h2:az other t=true):∃ps,Pa f (av (aE one)) (av (aE other)) (av ps)/\ld f one other=aE ps:=by
 obtain⟨r,h⟩:=Pa.all f _ _ _ t (Nat.le_refl _) (AU h1) (AU h2);rw[<-oH r]at h;exact⟨_,h,HL h⟩
noncomputable def nP(c:List Pt):Nat:=(pS (av c)).length
theorem pq(c:List Pt):nP (aE c)=nP c:=by unfold nP;rw[KS]
theorem jO(p:Pt)(c:List Pt):nP (p :: c)=(pS p.av).length+nP c:=by unfold nP;rw[bz,rC,List.length_append]
theorem ki:∀c:List Pt,cst c=nD c+nP c
 |[]=>rfl
 |.keep n :: c=>by rw[AF,jO,ki c,Pt.av,HK];simp[nD]
 |.drop s :: c=>by rw[AG,jO,ki c,Pt.av,Gu];simp[nD];omega
 |.put s :: c=>by rw[AH,jO,ki c,Pt.av,Gs];simp[nD];omega
theorem oJ:∀c:List Pt,tot c=aR c+nP c
 |[]=>rfl
 |.keep n :: c=>by rw[aQ,kI,jO,oJ c,Pt.av,HK];simp[Pt.n];omega
 |.drop s :: c=>by rw[aQ,mT,jO,oJ c,Pt.av,Gu];simp[Pt.n];omega
 |.put s :: c=>by rw[aQ,jL,jO,oJ c,Pt.av,Gs];simp[Pt.n];omega
theorem KW(c:List Pt):nD (aE c)=nD c:=by have h1:=ki (aE c);have h2:=ki c;rw[j8,pq]at h1;omega
structure Ld(f:Bool)(one other l:List Pt)(t:List Nat):Prop where
 ft:az l (aM other t)=true
 fm:aE l=l
 np:nP l=nP one
 nd:nD l<=nD one
theorem uU(f:Bool){one other:List Pt}{t:List Nat}(h1:az one t=true)(h2:az other t=true):Ld f one other (ld f one other) t:=by
 obtain⟨ps,p,e⟩:=AV f h1 h2;rw[e];have n1:nP (aE ps)=nP one:=by rw[pq,<-pq one];unfold nP;rw[p.ql]
 refine⟨Pg h1 h2 p,oE _,n1,?_⟩;have c1:=p.cost;rw[<-lU,<-lU,j8,ki,ki ps]at c1;rw[pq]at n1;rw[KW];omega
theorem Dm{one other:List Pt}{t:List Nat}(h1:az one t=true)(h2:az other t=true):aM (ld false other one) (aM one t)=aM (ld true one other) (aM other t)/\∀T,uu T [one,ld false other one]=uu T [other,ld true one other]:=by
 obtain⟨ps,p,e⟩:=AV true h1 h2;obtain⟨qs,q,e2⟩:=AV false h2 h1;obtain⟨m,W,J⟩:=p.join;have em:=J.bk.uniq q;rw[e,e2];refine⟨?_,λT=>?_⟩
 .have:=(J.ft t (AU h1) (AU h2)).2.2;rw[em,<-cZ,<-cZ,<-cZ,<-cZ,cL,cL]at this;rw[cL,cL];exact this
 .show(told 0 (aE qs)).map (sub ((told 0 one).map (sub T)))=(told 0 (aE ps)).map (sub ((told 0 other).map (sub T)));have a1:=J.t1 0 [];have a2:=J.t2 0 [];simp only[List.length_nil,List.nil_append]at a1 a2;have a3:=a1.trans a2.symm;rw[em,<-b6,<-b6,<-b6,<-b6,cK,cK]at a3;rw[cK,cK,<-wR,<-wR,a3]
noncomputable def zo(rs:List (List Pt)):Nat:=(rs.map nP).sum
noncomputable def Fw(rs:List (List Pt)):Prop:=∀c∈rs,aE c=c/\nD c<=60
structure Rp(c:List Pt)(os:List (List Pt))(t:List Nat)(c':List Pt)(L:List (List Pt)):Prop where
 ft:az c' (rA t os)=true
 ch:Ch (aM c t) L
 tx:rA (aM c t) L=aM c' (rA t os)
 tl:∀T,uu T (c :: L)=uu T (os++[c'])
 ln:L.length=os.length
 pt:zo L=zo os
 fw:Fw os->Fw L
 np:nP c'=nP c
 nd:nD c'<=nD c
 fm:aE c=c->aE c'=c'
structure Rs(as os:List (List Pt))(t:List Nat)(M Y:List (List Pt)):Prop where
 c1:Ch (rA t os) M
 c2:Ch (rA t as) Y
 tl:∀T,uu T (as++Y)=uu T (os++M)
 l1:M.length=as.length
 l2:Y.length=os.length
 p1:zo M=zo as
 p2:zo Y=zo os
 f1:(∀c∈as,nD c<=60)->Fw M
 f2:Fw os->Fw Y
theorem uV:∀(a:List At) (i:Nat),(tA i a).length<=a.length
 |[],_=>Nat.le_refl _
 |.k :: a,i=>Nat.succ_le_succ (uV a (i+1))
 |.d _ :: a,i=>Nat.le_succ_of_le (uV a (i+1))
 |.p _ :: a,i=>Nat.succ_le_succ (uV a i)
theorem iG{c:List Pt}{t:List Nat}(h:az c t=true):(aM c t).length<=t.length+nP c/\tot c=t.length+nP c:=by
 have h1:=oJ c;have h2:=dZ h;have h3:gp c<=tot c:=by rw[Pb,<-dJ];exact uV _ _
 rw[wU h];exact⟨by omega,by omega⟩
end Pv
namespace Pv
open Ev (D bU bN TY BI ME T E Es Eo It S Ss Fn big deep rep cut bL)
noncomputable def KE(t:List Nat)(k:List (Int×List Nat)):Prop:=∀e∈k,∃(i c:Nat),e.1=i/\t[i]?=some c/\e.2=[c]
theorem Gv{k:List (Int×List Nat)}{p:Int}{s:List Nat}{e:Int×List Nat}(h:e∈Ev.di k p s):e∈k\/(e.1=p/\e.2=s):=by
 unfold Ev.di at h;split at h
 .obtain⟨q,hq,rfl⟩:=List.mem_map.mp h;split
  .rename_i z;exact .inr ⟨z,rfl⟩
  .exact .inl hq
 .rcases List.mem_append.mp h with h|h
  .exact .inl h
  .rw[List.mem_singleton]at h;subst h;exact .inr ⟨rfl,rfl⟩
theorem KE.put{t:List Nat}{k:List (Int×List Nat)}(h:KE t k){i c:Nat}(hc:t[i]?=some c):KE t (Ev.di k i [c]):=λe he=>by
 rcases Gv he with he|⟨h1,h2⟩
 .exact h e he
 .exact⟨i,c,h1,hc,h2⟩
theorem KE.ql{t:List Nat}:∀(s:List Nat) {k:List (Int×List Nat)}(i:Nat),KE t k->(t.drop i).take s.length=s->KE t (gS k i s)
 |[],k,i,h,_=>h
 |c :: s,k,i,h,e=>by
  have hl:i<t.length:=by
   refine Nat.lt_of_not_le λz=>?_;rw[List.drop_eq_nil_of_le z]at e;simp at e
  rw[List.drop_eq_getElem_cons hl,List.length_cons,List.take_succ_cons,List.cons.injEq]at e;exact KE.ql s (i+1) (h.put (i:=i) (c:=c) (by rw[List.getElem?_eq_getElem hl,e.1])) e.2
theorem KE.merge{t:List Nat}:∀{m k:List (Int×List Nat)},KE t k->KE t m->KE t (Ev.dj k m)
 |[],_,h,_=>h
 |e :: m,k,h,g=>by
  obtain⟨i,c,h1,h2,h3⟩:=g e (.head _);show KE t (Ev.dj (Ev.di k e.1 e.2) m);rw[h1,h3];exact KE.merge (h.put h2) λx hx=>g x (.tail _ hx)
theorem KE.val{t:List Nat}{k:List (Int×List Nat)}(h:KE t k){p:Int}{s:List Nat}(e:Ev.cJ k p=some s):∃(i c:Nat),p=i/\t[i]?=some c/\s=[c]:=by
 unfold Ev.cJ at e;obtain⟨q,e1,rfl⟩:=Option.map_eq_some_iff.mp e;obtain⟨i,c,h1,h2,h3⟩:=h q (List.mem_of_find?_eq_some e1);have:=List.find?_some e1;exact⟨i,c,by rw[<-h1];exact(of_decide_eq_true this).symm,h2,h3⟩
noncomputable def gf(k:List (Int×List Nat))(p:Int):Prop:=(Ev.cJ k p).isSome=true
theorem zp{k:List (Int×List Nat)}{p q:Int}{s:List Nat}:gf (Ev.di k p s) q↔q=p\/gf k q:=by
 unfold gf;rw[zm];by_cases h:q=p<;>simp[h]
theorem qm:∀(s:List Nat) (k:List (Int×List Nat)) (i:Nat) (q:Int),(gf k q\/∃j:Nat,j<s.length/\q=((i+j:Nat):Int))->gf (gS k i s) q
 |[],k,i,q,h=>by
  rcases h with h|⟨j,hj,_⟩
  .exact h
  .simp at hj
 |c :: s,k,i,q,h=>by
  show gf (gS (Ev.di k i [c]) ((i:Int)+1) s) q;have e:(i:Int)+1=((i+1:Nat):Int):=by omega
  rw[e];refine qm s _ (i+1) q ?_;rw[zp];rcases h with h|⟨j,hj,h⟩
  .exact .inl (.inr h)
  .cases j with
   |zero=>exact .inl (.inl (by rw[h];omega))
   |succ j=>exact .inr ⟨j,by simpa using hj,by rw[h];omega⟩
theorem oK:∀{m k:List (Int×List Nat)}{q:Int},gf k q\/gf m q->gf (Ev.dj k m) q
 |[],k,q,h=>h.elim id λh=>by simp[gf,Ev.cJ]at h
 |e :: m,k,q,h=>by
  show gf (Ev.dj (Ev.di k e.1 e.2) m) q;refine oK ?_;rw[zp];rcases h with h|h
  .exact .inl (.inr h)
  .by_cases hq:q=e.1
   .exact .inl (.inl hq)
   .refine .inr ?_;unfold gf Ev.cJ at h ⊢;rw[List.find?_cons,decide_eq_false (λz=>hq z.symm)]at h;exact h
theorem uW:∀(c:List Pt) (t:List Nat) (i:Nat) (k k':List (Int×List Nat)),az c (t.drop i)=true->KE t k->bg (c.map Pt.v) i k=some k'->KE t k'
 |[],t,i,k,k',_,h,e=>by cases e;exact h
 |.keep m :: c,t,i,k,k',hf,h,e=>by
  have hf':az c (t.drop (i+m))=true:=by simp only[az,Bool.and_eq_true]at hf;have:=hf.2;rwa [List.drop_drop]at this
  have e:bg (.tup [.str [107,101,101,112],.int m] :: c.map Pt.v) i k=some k':=e;rw[bg,if_pos rfl]at e;exact uW c t (i+m) k k' hf' h e
 |.put s :: c,t,i,k,k',hf,h,e=>by
  have e:bg (.tup [.str [112,117,116],.str s] :: c.map Pt.v) i k=some k':=e;rw[bg,if_neg (by decide),if_neg (by decide)]at e;exact uW c t i k k' hf h e
 |.drop s :: c,t,i,k,k',hf,h,e=>by
  simp only[az,Bool.and_eq_true,decide_eq_true_eq]at hf;have e:bg (.tup [.str [100,114,111,112],.str s] :: c.map Pt.v) i k=some k':=e;rw[bg,if_pos rfl]at e;split at e
  .exact uW c t (i+s.length) (gS k i s) k' (by have:=hf.2;rwa [List.drop_drop]at this) (h.ql s i (List.prefix_iff_eq_take.mp (List.isPrefixOf_iff_prefix.mp hf.1)).symm) e
  .cases e
theorem rH:∀(c:List Pt) (i:Nat) (k k':List (Int×List Nat)),bg (c.map Pt.v) i k=some k'->∀q:Int,(gf k q\/∃p x,(asks c)[p]?=some [x]/\q=((i+p:Nat):Int))->gf k' q
 |[],i,k,k',e,q,h=>by
  cases e;rcases h with h|⟨p,x,h,_⟩
  .exact h
  .simp[asks]at h
 |.keep m :: c,i,k,k',e,q,h=>by
  have e:bg (.tup [.str [107,101,101,112],.int m] :: c.map Pt.v) i k=some k':=e;rw[bg,if_pos rfl]at e;refine rH c (i+m) k k' e q (h.imp id λ⟨p,x,h1,h2⟩=>?_);have h1:(List.replicate m []++asks c)[p]?=some [x]:=h1;by_cases hp:p<m
  .rw[List.getElem?_append_left (by simpa using hp)]at h1;simp[hp]at h1
  .rw[List.getElem?_append_right (by simp;omega),List.length_replicate]at h1;exact⟨p - m,x,h1,by rw[h2];omega⟩
 |.put s :: c,i,k,k',e,q,h=>by
  have e:bg (.tup [.str [112,117,116],.str s] :: c.map Pt.v) i k=some k':=e;rw[bg,if_neg (by decide),if_neg (by decide)]at e;exact rH c i k k' e q h
 |.drop s :: c,i,k,k',e,q,h=>by
  have e:bg (.tup [.str [100,114,111,112],.str s] :: c.map Pt.v) i k=some k':=e;rw[bg,if_pos rfl]at e;split at e
  .refine rH c (i+s.length) (gS k i s) k' e q ?_;rcases h with h|⟨p,x,h1,h2⟩
   .exact .inl (qm s k i q (.inl h))
   .have h1:(s.map (λc=>[c])++asks c)[p]?=some [x]:=h1;by_cases hp:p<s.length
    .exact .inl (qm s k i q (.inr ⟨p,hp,h2⟩))
    .rw[List.getElem?_append_right (by simp;omega),List.length_map]at h1;exact .inr ⟨p - s.length,x,h1,by rw[h2];omega⟩
  .cases e
theorem KY(c:List Pt){t:List Nat}(hf:az c t=true)(b:nD c<=1000):∃k,bg (c.map Pt.v) 0 []=some k/\k.length<=nD c/\(∀u,az c u=true->KE u k)/\∀p x,(asks c)[p]?=some [x]->gf k (p:Nat):=by
 obtain⟨k,e1,_,e3⟩:=rE c t 0 [] hf (λp s e=>by cases e) (by simpa using b);refine⟨k,e1,by simpa using e3,λu hu=>uW c u 0 [] k hu (λe he=>by cases he) e1,λp x h=>rH c 0 [] k e1 _ (.inr ⟨p,x,h,by simp⟩)⟩
noncomputable def pD(s:Nat)(a:List (List Nat)):List Nat:=a.map λy=>y.headD s
theorem m5:∀{c:List Pt}{y:List Nat},y∈asks c->y=[]\/∃x,y=[x]
 |[],y,h=>by simp[asks]at h
 |p :: c,y,h=>by
  have h:y∈p.asks++asks c:=h;rcases List.mem_append.mp h with h|h
  .cases p with
   |keep n=>exact .inl (List.eq_of_mem_replicate h)
   |put s=>simp[Pt.asks]at h
   |drop s=>obtain⟨x,_,rfl⟩:=List.mem_map.mp h;exact .inr ⟨x,rfl⟩
  .exact m5 h
theorem kj:∀{a:List (List Nat)}{t:List Nat},aC a t=true↔a.length=t.length/\∀(p:Nat) y x,a[p]?=some y->t[p]?=some x->y=[]\/y=[x]
 |[],[]=>by simp[aC]
 |[],_ :: _=>by simp[aC]
 |_ :: _,[]=>by simp[aC]
 |y :: a,x :: t=>by
  simp only[aC,Bool.and_eq_true,Bool.or_eq_true,decide_eq_true_eq,List.length_cons,Nat.add_right_cancel_iff,kj (a:=a) (t:=t)];constructor
  .rintro⟨h1,h2,h3⟩;refine⟨h2,λp z w e1 e2=>?_⟩;cases p with
   |zero=>simp at e1 e2;subst e1 e2;exact h1
   |succ p=>exact h3 p z w (by simpa using e1) (by simpa using e2)
  .rintro⟨h1,h2⟩;exact⟨h2 0 y x rfl rfl,h1,λp z w e1 e2=>h2 (p+1) z w (by simpa using e1) (by simpa using e2)⟩
noncomputable def vl(x:List Nat):Tq->Nat
 |.at p=>x.getD p 0
 |.sg c=>c
noncomputable def zq(g:Nat->Bool):Tq->Option Nat
 |.at p=>if g p then some p else none
 |.sg _=>none
noncomputable def kp(g:Nat->Bool):Nat->List (List Nat)->List Nat
 |_,[]=>[]
 |i,y :: a=>if decide (y=[])&&g i then i :: kp g (i+1) a else kp g (i+1) a
theorem rJ(g:Nat->Bool):∀(a:List At) (i:Nat),(tA i a).filterMap (zq g)=kp g i (aA a)
 |[],i=>rfl
 |.k :: a,i=>by
  simp only[tA,aA,kp,List.filterMap_cons,zq];cases g i<;>simp[rJ g a (i+1)]
 |.d c :: a,i=>by
  simp only[tA,aA,kp];simp[rJ g a (i+1)]
 |.p c :: a,i=>by
  simp only[tA,aA,List.filterMap_cons,zq];exact rJ g a i
theorem Dn(c:List Pt)(g:Nat->Bool):(told 0 c).filterMap (zq g)=kp g 0 (asks c):=by rw[b6,rJ,bO]
theorem xy{g:Nat->Bool}:∀{a:List (List Nat)}{i p:Nat},p∈kp g i a->∃j,p=i+j/\a[j]?=some []
 |[],i,p,h=>by simp[kp]at h
 |y :: a,i,p,h=>by
  simp only[kp]at h;split at h
  .rename_i hy;rcases List.mem_cons.mp h with rfl|h
   .simp at hy;exact⟨0,rfl,by simp[hy.1]⟩
   .obtain⟨j,h1,h2⟩:=xy h;exact⟨j+1,by omega,by simpa using h2⟩
  .obtain⟨j,h1,h2⟩:=xy h;exact⟨j+1,by omega,by simpa using h2⟩
theorem KZ{c:List Pt}{p:Nat}(h:Tq.at p∈told 0 c):(asks c)[p]?=some []:=by
 have h1:p∈(told 0 c).filterMap (zq λ_=>true):=List.mem_filterMap.mpr ⟨_,h,by simp[zq]⟩;rw[Dn]at h1;obtain⟨j,h2,h3⟩:=xy h1;rw[h2];simpa using h3
theorem K0{c:List Pt}{x:List Nat}(h:az c x=true):aM c x=(told 0 c).map (vl x):=by
 have e:=wK c x 0;rw[List.drop_zero]at e;rw[e];have hl:(asks c).length=x.length:=by rw[fZ,dZ h]
 have:∀L:List Tq,(∀q∈L,∀p,q=.at p->p<x.length)->L.flatMap (pick x)=L.map (vl x):=λL=>by
  induction L with
  |nil=>intro _;rfl
  |cons q L ih=>
   intro hq;rw[List.flatMap_cons,List.map_cons,ih λz hz=>hq z (.tail _ hz)];cases q with
   |sg c=>rfl
   |«at» p=>
    have:=hq _ (.head _) p rfl;simp[pick,vl,List.getElem?_eq_getElem this,List.getD]
 refine this _ λq hq p e=>?_;subst e;have:=(List.getElem?_eq_some_iff.mp (KZ hq)).1;omega
inductive Pw(a:List (List Nat)):List Tq->List Tq->Prop
 |nil:Pw a [] []
 |at {p L M}:Pw a L M->Pw a (.at p :: L) (.at p :: M)
 |sg {y L M}:Pw a L M->Pw a (.sg y :: L) (.sg y :: M)
 |as {y p L M}:a[p]?=some [y]->Pw a L M->Pw a (.sg y :: L) (.at p :: M)
structure Wi(c d:List Pt):Prop where
 fa:az d (pD 97 (asks c))=true
 fb:az d (pD 98 (asks c))=true
 da:aM c (pD 97 (asks c))=aM d (pD 97 (asks c))
 db:aM c (pD 98 (asks c))=aM d (pD 98 (asks c))
theorem rK{c:List Pt}{x:List Nat}(h:az c x=true){p y:Nat}(e:(asks c)[p]?=some [y]):x[p]?=some y:=by
 rw[cD,kj]at h;have hp:p<x.length:=by rw[<-h.1];exact(List.getElem?_eq_some_iff.mp e).1
 have e2:=List.getElem?_eq_getElem hp;have:=h.2 p _ _ e e2;simp at this;rw[e2,<-this]
theorem Th.Ry{a b r:List At}(h:Th a b r):∀t,aC (aA r) t=true->aC (aA a) t=true/\aC (aA b) (dA a t)=true:=by
 induction h with
 |nil=>intro t h;cases t<;>simp[aA,aC,dA]at h ⊢
 |d h ih=>
  intro t h1;cases t with
  |nil=>simp[aA,aC]at h1
  |cons x t=>
   simp only[aA,aC,Bool.and_eq_true]at h1 ⊢;obtain⟨i1,i2⟩:=ih t h1.2;exact⟨⟨h1.1,i1⟩,by simpa[dA]using i2⟩
 |p _ h ih=>intro t h1;exact ih t h1
 |kk h ih=>
  intro t h1;cases t with
  |nil=>simp[aA,aC]at h1
  |cons x t=>
   simp only[aA,aC,Bool.and_eq_true]at h1;obtain⟨i1,i2⟩:=ih t h1.2;exact⟨by simp[aA,aC,i1],by simp[aA,aC,dA,i2]⟩
 |kd h ih=>
  intro t h1;cases t with
  |nil=>simp[aA,aC]at h1
  |cons x t=>
   simp only[aA,aC,Bool.and_eq_true]at h1;obtain⟨i1,i2⟩:=ih t h1.2;have hx:=h1.1;simp at hx;exact⟨by simp[aA,aC,i1],by simp[aA,aC,dA,i2,hx]⟩
 |pk h ih=>intro t h1;obtain⟨i1,i2⟩:=ih t h1;exact⟨i1,by simp[aA,aC,dA,i2]⟩
 |pd h ih=>intro t h1;obtain⟨i1,i2⟩:=ih t h1;exact⟨i1,by simp[aA,aC,dA,i2]⟩
theorem xA{one other c:List Pt}{t:List Nat}(T:Tn one other c t){x:List Nat}(h:az c x=true):az one x=true/\az other (aM one x)=true/\aM c x=aM other (aM one x):=by
 obtain⟨ps,rfl,th⟩:=T.th;rw[mV,cD,bO]at h;obtain⟨h1,h2⟩:=th.Ry x h;have h3:=th.done x h1;rw[<-cZ,<-cZ,<-cZ,cL,cL]at h3;rw[<-bO,cz,<-cD]at h1;rw[<-cZ,cL,<-bO,cz,<-cD]at h2;exact⟨h1,h2,by rw[cL];exact h3⟩
theorem Pj{one other c:List Pt}{t:List Nat}(T:Tn one other c t){x:List Nat}(h1:az one x=true)(h2:az other (aM one x)=true):az c x=true:=by
 obtain⟨ps,rfl,th⟩:=T.th;rw[mV,cD,bO];refine th.fit x ?_ ?_
 .rw[<-bO,cz,<-cD];exact h1
 .rw[<-bO,cz,<-cZ,cL,<-cD];exact h2
end Pv
namespace Pv
open Ev (D bU bN TY BI ME T E Es Eo It S Ss Fn big deep rep cut bL)
noncomputable def AW:S:=.ret (.me .join (.c (.str [])) (.cons (.comp (.kr (.v 1) (.v 3) (.v 2)) (.one 3) (.fE (.cons (.v 0) .nil)) .no) .nil))
noncomputable def xB:Fn:=⟨3,4,(.cons AW .nil)⟩
noncomputable def xV(b8:Nat):S:=.jw 1 2 0 b8
noncomputable def xW(qo:Nat)(cR:Nat):S:=.set 3 (.cl qo (.cons (.cl cR (.cons (.ix (.v 0) (.c (.int 0))) .nil)) (.cons (.v 1) (.cons (.ix (.c (.tup [.str [97],.str [98]])) (.c (.int 0))) .nil))))
noncomputable def xX(j9:Nat):S:=.iff (.bi .all (.cons (.comp (.cl j9 (.cons (.v 4) (.cons (.v 3) .nil))) (.one 4) (.seq (.v 0)) .no) .nil)) (.cons (.ret (.v 3)) .nil) .nil
noncomputable def xY:S:=.ret (.c (.aS))
noncomputable def Dp(b8:Nat)(qo:Nat)(cR:Nat)(j9:Nat):Fn:=⟨1,5,(.cons (xV b8) (.cons (xW qo cR) (.cons (xX j9) (.cons xY .nil))))⟩
section
variable{F:List Fn}{w n aD br kT qp kc Yt Ui Uj bQ bB i:Nat}
noncomputable def ou(c:List Pt)(x:List Nat):Option (List Nat):=if az c x=true then some (aM c x)else none
noncomputable def uv(k:List (Int×List Nat))(s:Nat)(m:Nat):List Nat:=((List.range m).map λ(p:Nat)=>(Ev.cJ k (p:Int)).getD [s]).flatten
theorem AX(h:F[i]?=some xB)(k:List (Int×List Nat))(s m:Nat)(hm:m<=1000)(hl:(uv k s m).length<=1000):run F w (n+1) i [.val (.int (m:Nat)),.val (.dct k),.val (.str [s])]=some (.str (uv k s m),[]):=by
 have jn:=uM (l:=(List.range m).map λ(p:Nat)=>(Ev.cJ k (p:Int)).getD [s]) (Nat.le_trans hl (by decide));rw[List.map_map]at jn;refine cy h rfl (ai (bR (uQ rfl (bf rfl) (aN (j4 (jm (aN (au rfl) aZ) (sO (by omega) rfl)) rfl (kE (λ(p:Nat)=>V.int (0+(p:Nat))) (λp=>V.str ((Ev.cJ k (p:Int)).getD [s])) (List.range m) λp _=>qS rfl (Hx (au rfl) (au rfl) (au rfl) ?_)) (dg (bK (by simp;omega)))) aZ) jn) ⟨rfl,rfl⟩));simp only[nQ,Int.zero_add];cases Ev.cJ k (p:Int)<;>rfl
theorem K3(hd:F[i]?=some fT){c:List Pt}{k:List (Int×List Nat)}(e:bg (c.map Pt.v) 0 []=some k):run F w (n+1) i [.val (aF c)]=some (.dct k,[]):=by
 have bad:exs (run F w n) w fT.body (eT fT [.val (aF c)])=.bad:=by
  show exs _ _ (.cons (.set 1 .ig) _) _=_;rw[exs,ex,ev];rfl
 rw[run_eq hd rfl,bad];have fb:fin fT [.val (aF c)] .bad=ug fT [.val (aF c)]:=by simp only[fin]
 rw[fb];unfold ug;rw[if_pos rfl];show(bg (c.map Pt.v) 0 []).map _=_;rw[e];rfl
inductive PR(c d:List Pt):V->Prop
 |no:aE c=aE d->PR c d .aS
 |yes {x:List Nat}:aE c≠aE d->ou c x≠ou d x->x.length<=tot c+tot d->PR c d (.str x)
theorem HM{t:List Nat}(hd:F[i]?=some fT):∀(rows:List (List Pt)) (k:List (Int×List Nat)),(∀c∈rows,az c t=true/\nD c<=1000)->KE t k->k.length+(rows.map nD).sum<=10000->∃K,mG (run F w (n+1)) i (rows.map aF) k=some K/\KE t K/\(∀q,gf k q->gf K q)/\∀c∈rows,∀p x,(asks c)[p]?=some [x]->gf K (p:Nat)
 |[],k,_,h,_=>⟨k,rfl,h,λ_ h=>h,λc hc=>by cases hc⟩
 |c :: rows,k,hr,h,hb=>by
  obtain⟨h1,h2⟩:=hr c (.head _);obtain⟨m,e1,e2,e3,e4⟩:=KY c h1 h2;rw[List.map_cons,List.sum_cons]at hb;have ml:(Ev.dj k m).length<=k.length+m.length:=by
   have:∀(m k:List (Int×List Nat)),(Ev.dj k m).length<=k.length+m.length:=λm=>by
    induction m with
    |nil=>intro k;exact Nat.le_refl _
    |cons p m ih=>intro k;have:=ih (Ev.di k p.1 p.2);have:=v8 k p.1 p.2;show(Ev.dj (Ev.di k p.1 p.2) m).length<=_;rw[List.length_cons];omega
   exact this m k
  obtain⟨K,g1,g2,g3,g4⟩:=HM hd rows (Ev.dj k m) (λx hx=>hr x (.tail _ hx)) (h.merge (e3 t h1)) (by omega);refine⟨K,?_,g2,λq hq=>g3 q (oK (.inl hq)),λx hx p y e=>?_⟩
  .rw[List.map_cons,mG,K3 hd e1];show(if k.length+m.length<=100000 then _ else none)=_;rw[if_pos (by omega)];exact g1
  .rcases List.mem_cons.mp hx with rfl|hx
   .exact g3 _ (oK (.inr (e4 p y e)))
   .exact g4 x hx p y e
theorem xZ{s0:Sl}{os:List (List V)}(hs:F[aD]?=some dS)(hb:F[br]?=some (gA aD))(hd:F[kT]?=some fT)(hfl:F[qp]?=some xB)(hf:F[kc]?=some (wL aD))(h:F[i]?=some (Dp kT qp br kc))(t:List Nat)(c0:List Pt)(rows:List (List Pt))(hr:∀c∈c0 :: rows,az c t=true/\tot c<=900/\c.length<=900)(hl:rows.length<=10)(hS:Hd ((c0 :: rows).map aF) s0 os) :
  ∃u,run F w (n+3) i [s0]=some (.str u,os)/\u.length=t.length/\∀c∈c0 :: rows,az c u=true:=by
 have nb:∀l:List (List Pt),(∀c∈l,tot c<=900)->(l.map nD).sum<=l.length*900:=λl=>by
  induction l with
  |nil=>intro _;simp
  |cons c l ih=>
   intro q;have:=ih λx hx=>q x (.tail _ hx);have:=q c (.head _);have:=kh c;rw[List.map_cons,List.sum_cons,List.length_cons,Nat.add_mul];omega
 have nb:=nb (c0 :: rows) λc hc=>(hr c hc).2.1;rw[List.length_cons]at nb;obtain⟨K,k1,k2,_,k4⟩:=HM (w:=w) (n:=n+1) (t:=t) hd (c0 :: rows) [] (λc hc=>⟨(hr c hc).1,by have:=(hr c hc).2.1;have:=kh c;omega⟩) (λe he=>by cases he) (by
  have:(rows.length+1)*900<=11*900:=Nat.mul_le_mul_right _ (by omega);simp only[List.length_nil];omega)
 obtain⟨h1,h2,h3⟩:=hr c0 (.head _);have et:=dZ h1;have ba:aR c0<=tot c0:=by have:=oJ c0;omega
 have vk:∀p:Nat,Ev.cJ K (p:Int)=none\/∃c,t[p]?=some c/\Ev.cJ K (p:Int)=some [c]:=λp=>by
  cases ev:Ev.cJ K (p:Int)with
  |none=>exact .inl rfl
  |some u=>
   obtain⟨j,c,g1,g2,g3⟩:=k2.val ev;have:j=p:=by omega
   subst this;exact .inr ⟨c,g2,by rw[g3]⟩
 have fu:uv K 97 t.length=(List.range t.length).map λ(p:Nat)=>((Ev.cJ K (p:Int)).getD [97]).headD 0:=by
  unfold uv;generalize t.length=m
  have:∀l:List Nat,(l.map λ(p:Nat)=>(Ev.cJ K (p:Int)).getD [97]).flatten=l.map λ(p:Nat)=>((Ev.cJ K (p:Int)).getD [97]).headD 0:=λl=>by
   induction l with
   |nil=>rfl
   |cons p l ih=>
    rw[List.map_cons,List.map_cons,List.flatten_cons,ih];rcases vk p with z|⟨c,_,z⟩<;>rw[z]<;>rfl
  exact this _
 have lu:(uv K 97 t.length).length=t.length:=by rw[fu];simp
 have ff:∀c∈c0 :: rows,az c (uv K 97 t.length)=true:=λc hc=>by
  have hc1:=(hr c hc).1;rw[cD,kj];refine⟨by rw[lu,fZ,dZ hc1],λp y x e1 e2=>?_⟩;rcases m5 (List.mem_of_getElem? e1)with rfl|⟨z,rfl⟩
  .exact .inl rfl
  .refine .inr ?_;have hh:=k4 c hc p z e1;have ha:=rK hc1 e1;rcases vk p with q|⟨c',q1,q2⟩
   .unfold gf at hh;rw[q]at hh;cases hh
   .rw[ha]at q1;cases q1;have hp:p<t.length:=(List.getElem?_eq_some_iff.mp ha).1;rw[fu,List.getElem?_map,List.getElem?_range hp]at e2;simp[q2]at e2;rw[e2]
 refine⟨uv K 97 t.length,?_,lu,ff⟩;have rb:=λfr=>cI (fr:=fr) (iT (F:=F) (w:=w) (n:=n) hs hb c0 (by omega) (by omega));rw[<-et]at rb;have rf:=λfr=>fC (fr:=fr) (AX (F:=F) (w:=w) (n:=n+1) hfl K 97 t.length (by omega) (by omega));generalize uv K 97 t.length=u at lu ff rf
 have ri:=λc (hc:c∈c0 :: rows) fr=>call2 (fr:=fr) (kg (F:=F) (w:=w) (n:=n) hs hf c u (by have:=(hr c hc).2.1;omega) (by omega));have al:cX .all [.lst ((c0 :: rows).map λc=>V.bl (az c u))]=some (.bl true):=by
  rw[JX];have:∀l:List (List Pt),(∀c∈l,az c u=true)->(boolsOf (l.map λc=>V.bl (az c u))).map (λbs=>V.bl (bs.all id))=some (.bl true):=λl=>by
   induction l with
   |nil=>intro _;rfl
   |cons c l ih=>
    intro q;have:=ih λx hx=>q x (.tail _ hx);rw[List.map_cons,q c (.head _)];cases e:boolsOf (l.map λc=>V.bl (az c u))with
    |none=>rw[e]at this;cases this
    |some bs=>
     rw[e]at this;simp only[boolsOf,e,Option.map]at this ⊢;simpa using this
  exact this _ ff
 have g1:∀k a b c d,vR k [some s0.walk,a,b,c,d] 0=some (.lst ((c0 :: rows).map aF)):=λk _ _ _ _=>by cases hS<;>rfl
 have g2:∀a b c d,mF true [some s0.walk,a,b,c,d] 0=some (.lst ((c0 :: rows).map aF)):=λ_ _ _ _=>by cases hS<;>rfl
 have g3:s0.walk.dD=s0.walk:=by cases hS<;>rfl
 have g4:∀a b c d,outs 1 [some s0.walk,a,b,c,d]=os:=λ_ _ _ _=>by cases hS<;>rfl
 have Yu:dY (.lst ((c0 :: rows).map aF)) (.int 0)=some (aF c0):=by rw[sJ,gZ (by decide)];rfl
 obtain⟨cl,hcl⟩:∃v,((c0 :: rows).map aF).getLast?=some v:=⟨_,List.getLast?_eq_some_getLast (by simp)⟩
 have lp:kD [some s0.walk,some (.val (.dct K)),none,none,none] 2 ((c0 :: rows).map aF)=some [some s0.walk,some (.val (.dct K)),some (.val cl),none,none]:=by unfold kD;rw[hcl];rfl
 refine cy h rfl ?_;refine ai (OL (af:=[some s0.walk,none,none,none,none]) (ao:=[some s0.walk,some (.val (.dct K)),none,none,none]) ⟨by decide,by decide,by show 1<5;decide,by show 2<5;decide⟩ (gy (gM (g1 _ _ _ _ _)) rfl) k1 rfl lp ?_);refine ai (aU (af:=[some s0.walk,some (.val (.dct K)),some (.val cl),none,none]) (bh (aJ rfl (bh (aJ rfl (cC (au (g2 _ _ _ _)) (bf rfl) Yu) aK) (rb _)) (aJ rfl (au rfl) (aJ rfl (cC (bf rfl) (bf rfl) rfl) aK))) (rf _)) rfl rfl ?_);refine ai (aL (b:=true) (af:=[some s0.walk,some (.val (.dct K)),some (.val cl),some (.val (.str u)),none]) (aB rfl (fH (aN (j4 (gy (gM (g1 _ _ _ _ _)) rfl) rfl (kE aF (λc=>V.bl (az c u)) (c0 :: rows) λc hc=>qS rfl (bh (aJ rfl (au rfl) (aJ rfl (au rfl) aK)) (ri c hc _))) (dg (bK (by simp;omega)))) aZ) al) rfl) (λ_=>?_) λh=>absurd h (by decide));have sh:fS [some s0.walk,some (.val (.dct K)),some (.val cl),some (.val (.str u)),none]=[some s0.walk,some (.val (.dct K)),some (.val cl),some (.val (.str u)),none]:=by
  show some s0.walk.dD :: _=_;rw[g3];rfl
 refine ai (bR (af:=[some s0.walk,some (.val (.dct K)),some (.val cl),some (.val (.str u)),none]) ?_ ⟨rfl,g4 _ _ _ _⟩);rw[sh];exact au rfl
end
end Pv
set_option maxRecDepth 100000
namespace Lw
@[reducible] noncomputable def Wm:Ev.S:=.iff (.cmp .eq (.ix (.v 0) (.c (.int 0))) (.c (.str [107,101,101,112]))) (.cons (.ret (.ix (.v 0) (.c (.int 1)))) .nil) .nil
@[reducible] noncomputable def Wn:Ev.S:=.ret (.bi .len (.cons (.ix (.v 0) (.c (.int 1))) .nil))
@[reducible] noncomputable def f0:Ev.Fn:=⟨1,1,(.cons Wm (.cons Wn .nil))⟩
@[reducible] noncomputable def Wo:Ev.S:=.ret (.bi .sum (.cons (.comp (.cl 0 (.cons (.v 1) .nil)) (.one 1) (.seq (.v 0)) (.yes (.cmp .ne (.ix (.v 1) (.c (.int 0))) (.c (.str [112,117,116]))))) .nil))
@[reducible] noncomputable def f1:Ev.Fn:=⟨1,2,(.cons Wo .nil)⟩
@[reducible] noncomputable def Wq:Ev.S:=.ret (.bi .sum (.cons (.comp (.cl 0 (.cons (.v 1) .nil)) (.one 1) (.seq (.v 0)) (.yes (.cmp .ne (.ix (.v 1) (.c (.int 0))) (.c (.str [100,114,111,112]))))) .nil))
@[reducible] noncomputable def f2:Ev.Fn:=⟨1,2,(.cons Wq .nil)⟩
@[reducible] noncomputable def Wr:Ev.S:=.set 1 (.lst .nil)
@[reducible] noncomputable def Ws:Ev.S:=.set 2 (.c (.int 0))
@[reducible] noncomputable def Wt:Ev.S:=.set 3 (.c (.str []))
@[reducible] noncomputable def Wu:Ev.S:=.set 4 (.c (.str []))
@[reducible] noncomputable def Wv:Ev.Ss:=(.cons (.iff (.cmp .eq (.v 5) (.c (.str [100,114,111,112]))) (.cons (.set 3 (.bin .add (.v 3) (.v 6))) .nil) (.cons (.iff (.cmp .eq (.v 5) (.c (.str [112,117,116]))) (.cons (.set 4 (.bin .add (.v 4) (.v 6))) .nil) (.cons (.iff (.cmp .gt (.v 6) (.c (.int 0))) (.cons (.iff (.orr (.cmp .ne (.v 3) (.c (.str []))) (.cmp .ne (.v 4) (.c (.str [])))) (.cons (.exp (.me .extend (.v 1) (.cons (.cl 4 (.cons (.v 2) (.cons (.v 3) (.cons (.v 4) .nil)))) .nil))) (.cons (.set 2 (.c (.int 0))) (.cons (.set 3 (.c (.str []))) (.cons (.set 4 (.c (.str []))) .nil)))) .nil) (.cons (.set 2 (.bin .add (.v 2) (.v 6))) .nil)) .nil) .nil)) .nil)) .nil)
@[reducible] noncomputable def Ww:Ev.S:=.for (.many [5,6]) (.seq (.v 0)) Wv
@[reducible] noncomputable def Wx:Ev.S:=.exp (.me .extend (.v 1) (.cons (.cl 4 (.cons (.v 2) (.cons (.v 3) (.cons (.v 4) .nil)))) .nil))
@[reducible] noncomputable def Wy:Ev.S:=.ret (.iY (.v 1))
@[reducible] noncomputable def f3:Ev.Fn:=⟨1,7,(.cons Wr (.cons Ws (.cons Wt (.cons Wu (.cons Ww (.cons Wx (.cons Wy .nil)))))))⟩
@[reducible] noncomputable def Wz:Ev.S:=.set 3 (.lst .nil)
@[reducible] noncomputable def WA:Ev.S:=.iff (.cmp .gt (.v 0) (.c (.int 0))) (.cons (.exp (.me .append (.v 3) (.cons (.tup (.cons (.c (.str [107,101,101,112])) (.cons (.v 0) .nil))) .nil))) .nil) .nil
@[reducible] noncomputable def WB:Ev.S:=.iff (.cmp .ne (.v 1) (.c (.str []))) (.cons (.exp (.me .append (.v 3) (.cons (.tup (.cons (.c (.str [100,114,111,112])) (.cons (.v 1) .nil))) .nil))) .nil) .nil
@[reducible] noncomputable def WC:Ev.S:=.iff (.cmp .ne (.v 2) (.c (.str []))) (.cons (.exp (.me .append (.v 3) (.cons (.tup (.cons (.c (.str [112,117,116])) (.cons (.v 2) .nil))) .nil))) .nil) .nil
@[reducible] noncomputable def WD:Ev.S:=.ret (.v 3)
@[reducible] noncomputable def f4:Ev.Fn:=⟨3,4,(.cons Wz (.cons WA (.cons WB (.cons WC (.cons WD .nil)))))⟩
@[reducible] noncomputable def WE:Ev.S:=.set 2 (.c (.int 0))
@[reducible] noncomputable def WG:Ev.Ss:=(.cons (.iff (.an (.cmp .eq (.ix (.v 3) (.c (.int 0))) (.c (.str [100,114,111,112]))) (.cmp .ne (.sl (.v 1) (.yes (.v 2)) (.yes (.bin .add (.v 2) (.cl 0 (.cons (.v 3) .nil))))) (.ix (.v 3) (.c (.int 1))))) (.cons (.ret (.c (.bl false))) .nil) .nil) (.cons (.iff (.cmp .ne (.ix (.v 3) (.c (.int 0))) (.c (.str [112,117,116]))) (.cons (.set 2 (.bin .add (.v 2) (.cl 0 (.cons (.v 3) .nil)))) .nil) .nil) .nil))
@[reducible] noncomputable def WH:Ev.S:=.for (.one 3) (.seq (.v 0)) WG
@[reducible] noncomputable def WI:Ev.S:=.ret (.cmp .eq (.v 2) (.bi .len (.cons (.v 1) .nil)))
@[reducible] noncomputable def f5:Ev.Fn:=⟨2,4,(.cons WE (.cons WH (.cons WI .nil)))⟩
@[reducible] noncomputable def WJ:Ev.S:=.iff (.nt (.cl 5 (.cons (.v 0) (.cons (.v 1) .nil)))) (.cons (.eY) .nil) .nil
@[reducible] noncomputable def WK:Ev.S:=.set 2 (.lst .nil)
@[reducible] noncomputable def WL:Ev.S:=.set 3 (.c (.int 0))
@[reducible] noncomputable def WM:Ev.Ss:=(.cons (.iff (.cmp .eq (.v 4) (.c (.str [112,117,116]))) (.cons (.exp (.me .append (.v 2) (.cons (.v 5) .nil))) .nil) (.cons (.iff (.cmp .eq (.v 4) (.c (.str [100,114,111,112]))) (.cons (.set 3 (.bin .add (.v 3) (.bi .len (.cons (.v 5) .nil)))) .nil) (.cons (.exp (.me .append (.v 2) (.cons (.sl (.v 1) (.yes (.v 3)) (.yes (.bin .add (.v 3) (.v 5)))) .nil))) (.cons (.set 3 (.bin .add (.v 3) (.v 5))) .nil))) .nil)) .nil)
@[reducible] noncomputable def WN:Ev.S:=.for (.many [4,5]) (.seq (.v 0)) WM
@[reducible] noncomputable def WO:Ev.S:=.ret (.me .join (.c (.str [])) (.cons (.v 2) .nil))
@[reducible] noncomputable def f6:Ev.Fn:=⟨2,6,(.cons WJ (.cons WK (.cons WL (.cons WN (.cons WO .nil)))))⟩
@[reducible] noncomputable def WQ:Ev.S:=.iff (.cmp .ne (.cl 2 (.cons (.v 0) .nil)) (.cl 1 (.cons (.v 1) .nil))) (.cons (.eY) .nil) .nil
@[reducible] noncomputable def WR:Ev.S:=.set 2 (.eF (.rev (.cl 3 (.cons (.v 0) .nil))))
@[reducible] noncomputable def WS:Ev.S:=.set 3 (.eF (.rev (.cl 3 (.cons (.v 1) .nil))))
@[reducible] noncomputable def WT:Ev.S:=.set 4 (.lst .nil)
@[reducible] noncomputable def WU:Ev.Ss:=(.cons (.iff (.an (.v 2) (.cmp .eq (.ix (.ix (.v 2) (.neg (.c (.int 1)))) (.c (.int 0))) (.c (.str [100,114,111,112])))) (.cons (.exp (.me .append (.v 4) (.cons (.me .pop (.v 2) .nil) .nil))) .nil) (.cons (.iff (.an (.v 3) (.cmp .eq (.ix (.ix (.v 3) (.neg (.c (.int 1)))) (.c (.int 0))) (.c (.str [112,117,116])))) (.cons (.exp (.me .append (.v 4) (.cons (.me .pop (.v 3) .nil) .nil))) .nil) (.cons (.set 5 (.bi .min (.cons (.cl 0 (.cons (.ix (.v 2) (.neg (.c (.int 1)))) .nil)) (.cons (.cl 0 (.cons (.ix (.v 3) (.neg (.c (.int 1)))) .nil)) .nil)))) (.cons (.exp (.me .extend (.v 4) (.cons (.cl 8 (.cons (.cl 9 (.cons (.v 2) (.cons (.v 5) .nil))) (.cons (.cl 9 (.cons (.v 3) (.cons (.v 5) .nil))) .nil))) .nil))) .nil))) .nil)) .nil)
@[reducible] noncomputable def WV:Ev.S:=.ly (.orr (.v 2) (.v 3)) WU
@[reducible] noncomputable def WX:Ev.S:=.ret (.cl 3 (.cons (.iY (.v 4)) .nil))
@[reducible] noncomputable def f7:Ev.Fn:=⟨2,6,(.cons WQ (.cons WR (.cons WS (.cons WT (.cons WV (.cons WX .nil))))))⟩
@[reducible] noncomputable def WY:Ev.S:=.iff (.cmp .eq (.ix (.v 1) (.c (.int 0))) (.c (.str [107,101,101,112]))) (.cons (.ret (.lst (.cons (.v 0) .nil))) .nil) .nil
@[reducible] noncomputable def WZ:Ev.S:=.iff (.cmp .eq (.ix (.v 0) (.c (.int 0))) (.c (.str [107,101,101,112]))) (.cons (.ret (.lst (.cons (.v 1) .nil))) .nil) .nil
@[reducible] noncomputable def W0:Ev.S:=.iff (.cmp .ne (.ix (.v 0) (.c (.int 1))) (.ix (.v 1) (.c (.int 1)))) (.cons (.eY) .nil) .nil
@[reducible] noncomputable def W2:Ev.S:=.ret (.lst .nil)
@[reducible] noncomputable def f8:Ev.Fn:=⟨2,2,(.cons WY (.cons WZ (.cons W0 (.cons W2 .nil))))⟩
@[reducible] noncomputable def W3:Ev.S:=.set 2 (.cl 10 (.cons (.me .pop (.v 0) .nil) (.cons (.v 1) .nil)))
@[reducible] noncomputable def W4:Ev.S:=.iff (.cmp .gt (.cl 0 (.cons (.ix (.v 2) (.c (.int 1))) .nil)) (.c (.int 0))) (.cons (.exp (.me .append (.v 0) (.cons (.ix (.v 2) (.c (.int 1))) .nil))) .nil) .nil
@[reducible] noncomputable def W5:Ev.S:=.ret (.ix (.v 2) (.c (.int 0)))
@[reducible] noncomputable def f9:Ev.Fn:=⟨2,3,(.cons W3 (.cons W4 (.cons W5 .nil)))⟩
@[reducible] noncomputable def Rz:Ev.S:=.set 2 (.ix (.v 0) (.c (.int 0)))
@[reducible] noncomputable def RA:Ev.S:=.iff (.cmp .eq (.v 2) (.c (.str [107,101,101,112]))) (.cons (.ret (.tup (.cons (.tup (.cons (.v 2) (.cons (.v 1) .nil))) (.cons (.tup (.cons (.v 2) (.cons (.bin .sub (.ix (.v 0) (.c (.int 1))) (.v 1)) .nil))) .nil)))) .nil) .nil
@[reducible] noncomputable def RB:Ev.S:=.ret (.tup (.cons (.tup (.cons (.v 2) (.cons (.sl (.ix (.v 0) (.c (.int 1))) .no (.yes (.v 1))) .nil))) (.cons (.tup (.cons (.v 2) (.cons (.sl (.ix (.v 0) (.c (.int 1))) (.yes (.v 1)) .no) .nil))) .nil)))
@[reducible] noncomputable def GW:Ev.Fn:=⟨2,3,(.cons Rz (.cons RA (.cons RB .nil)))⟩
@[reducible] noncomputable def RC:Ev.S:=.iff (.cl 13 (.cons (.v 0) (.cons (.v 1) .nil))) (.cons (.eY) .nil) .nil
@[reducible] noncomputable def RD:Ev.S:=.set 3 (.eF (.rev (.cl 3 (.cons (.v 0) .nil))))
@[reducible] noncomputable def RE:Ev.S:=.set 4 (.eF (.rev (.cl 3 (.cons (.v 1) .nil))))
@[reducible] noncomputable def RG:Ev.S:=.set 5 (.lst .nil)
@[reducible] noncomputable def RH:Ev.Ss:=(.cons (.iff (.an (.cl 12 (.cons (.v 3) .nil)) (.orr (.v 2) (.nt (.cl 12 (.cons (.v 4) .nil))))) (.cons (.exp (.me .append (.v 5) (.cons (.me .pop (.v 3) .nil) .nil))) .nil) (.cons (.iff (.cl 12 (.cons (.v 4) .nil)) (.cons (.exp (.me .append (.v 5) (.cons (.tup (.cons (.c (.str [107,101,101,112])) (.cons (.cl 0 (.cons (.me .pop (.v 4) .nil) .nil)) .nil))) .nil))) .nil) (.cons (.set 6 (.bi .min (.cons (.cl 0 (.cons (.ix (.v 3) (.neg (.c (.int 1)))) .nil)) (.cons (.cl 0 (.cons (.ix (.v 4) (.neg (.c (.int 1)))) .nil)) .nil)))) (.cons (.set 7 (.cl 9 (.cons (.v 3) (.cons (.v 6) .nil)))) (.cons (.iff (.cmp .eq (.ix (.cl 9 (.cons (.v 4) (.cons (.v 6) .nil))) (.c (.int 0))) (.c (.str [107,101,101,112]))) (.cons (.exp (.me .append (.v 5) (.cons (.v 7) .nil))) .nil) .nil) .nil)))) .nil)) .nil)
@[reducible] noncomputable def RI:Ev.S:=.ly (.orr (.v 3) (.v 4)) RH
@[reducible] noncomputable def RJ:Ev.S:=.ret (.cl 3 (.cons (.iY (.v 5)) .nil))
@[reducible] noncomputable def Uk:Ev.Fn:=⟨3,8,(.cons RC (.cons RD (.cons RE (.cons RG (.cons RI (.cons RJ .nil))))))⟩
@[reducible] noncomputable def RK:Ev.S:=.ret (.an (.cmp .gt (.bi .len (.cons (.v 0) .nil)) (.c (.int 0))) (.cmp .eq (.ix (.ix (.v 0) (.neg (.c (.int 1)))) (.c (.int 0))) (.c (.str [112,117,116]))))
@[reducible] noncomputable def Ul:Ev.Fn:=⟨1,1,(.cons RK .nil)⟩
@[reducible] noncomputable def RL:Ev.S:=.iff (.cmp .ne (.cl 1 (.cons (.v 0) .nil)) (.cl 1 (.cons (.v 1) .nil))) (.cons (.eY) .nil) .nil
@[reducible] noncomputable def RM:Ev.S:=.set 2 (.cl 14 (.cons (.v 0) .nil))
@[reducible] noncomputable def RN:Ev.S:=.set 3 (.cl 14 (.cons (.v 1) .nil))
@[reducible] noncomputable def RP:Ev.S:=.ret (.comp (.v 4) (.one 4) (.seq (.bi .ko (.cons (.v 2) .nil))) (.yes (.cmp .ne (.kr (.v 3) (.v 4) (.kq (.v 2) (.v 4))) (.kq (.v 2) (.v 4)))))
@[reducible] noncomputable def Um:Ev.Fn:=⟨2,5,(.cons RL (.cons RM (.cons RN (.cons RP .nil))))⟩
@[reducible] noncomputable def RQ:Ev.S:=.set 1 (.ig)
@[reducible] noncomputable def RS:Ev.S:=.set 2 (.c (.int 0))
@[reducible] noncomputable def RT:Ev.Ss:=(.cons (.dput (.v 1) (.v 2) (.v 4)) (.cons (.set 2 (.bin .add (.v 2) (.c (.int 1)))) .nil))
@[reducible] noncomputable def RU:Ev.Ss:=(.cons (.iff (.cmp .eq (.ix (.v 3) (.c (.int 0))) (.c (.str [100,114,111,112]))) (.cons (.for (.one 4) (.seq (.ix (.v 3) (.c (.int 1)))) RT) .nil) (.cons (.iff (.cmp .eq (.ix (.v 3) (.c (.int 0))) (.c (.str [107,101,101,112]))) (.cons (.set 2 (.bin .add (.v 2) (.ix (.v 3) (.c (.int 1))))) .nil) .nil) .nil)) .nil)
@[reducible] noncomputable def RW:Ev.S:=.for (.one 3) (.seq (.v 0)) RU
@[reducible] noncomputable def RX:Ev.S:=.ret (.v 1)
@[reducible] noncomputable def Uo:Ev.Fn:=⟨1,5,(.cons RQ (.cons RS (.cons RW (.cons RX .nil))))⟩
@[reducible] noncomputable def RY:Ev.S:=.ret (.cl 7 (.cons (.v 0) (.cons (.cl 11 (.cons (.v 1) (.cons (.v 0) (.cons (.c (.bl false)) .nil)))) .nil)))
@[reducible] noncomputable def HN:Ev.Fn:=⟨2,2,(.cons RY .nil)⟩
@[reducible] noncomputable def RZ:Ev.S:=.jw 1 2 0 14
@[reducible] noncomputable def R0:Ev.S:=.set 3 (.cl 17 (.cons (.cl 1 (.cons (.ix (.v 0) (.c (.int 0))) .nil)) (.cons (.v 1) (.cons (.ix (.c (.tup [.str [97],.str [98]])) (.c (.int 0))) .nil))))
@[reducible] noncomputable def R1:Ev.S:=.iff (.bi .all (.cons (.comp (.cl 5 (.cons (.v 4) (.cons (.v 3) .nil))) (.one 4) (.seq (.v 0)) .no) .nil)) (.cons (.ret (.v 3)) .nil) .nil
@[reducible] noncomputable def R3:Ev.S:=.ret (.c (.aS))
@[reducible] noncomputable def Up:Ev.Fn:=⟨1,5,(.cons RZ (.cons R0 (.cons R1 (.cons R3 .nil))))⟩
@[reducible] noncomputable def R4:Ev.S:=.ret (.me .join (.c (.str [])) (.cons (.comp (.kr (.v 1) (.v 3) (.v 2)) (.one 3) (.fE (.cons (.v 0) .nil)) .no) .nil))
@[reducible] noncomputable def Uq:Ev.Fn:=⟨3,4,(.cons R4 .nil)⟩
@[reducible] noncomputable def R5:Ev.S:=.iff (.orr (.cmp .lt (.v 1) (.c (.int 0))) (.cmp .gt (.v 1) (.cl 1 (.cons (.v 0) .nil)))) (.cons (.eY) .nil) .nil
@[reducible] noncomputable def R6:Ev.S:=.set 2 (.eF (.rev (.cl 3 (.cons (.v 0) .nil))))
@[reducible] noncomputable def R7:Ev.S:=.set 3 (.lst .nil)
@[reducible] noncomputable def R8:Ev.S:=.set 4 (.v 1)
@[reducible] noncomputable def R9:Ev.Ss:=(.cons (.iff (.cmp .eq (.ix (.ix (.v 2) (.neg (.c (.int 1)))) (.c (.int 0))) (.c (.str [112,117,116]))) (.cons (.exp (.me .append (.v 3) (.cons (.me .pop (.v 2) .nil) .nil))) .nil) (.cons (.set 5 (.bi .min (.cons (.v 4) (.cons (.cl 0 (.cons (.ix (.v 2) (.neg (.c (.int 1)))) .nil)) .nil)))) (.cons (.exp (.me .append (.v 3) (.cons (.cl 9 (.cons (.v 2) (.cons (.v 5) .nil))) .nil))) (.cons (.set 4 (.bin .sub (.v 4) (.v 5))) .nil)))) .nil)
@[reducible] noncomputable def Sa:Ev.S:=.ly (.an (.v 2) (.orr (.cmp .gt (.v 4) (.c (.int 0))) (.cmp .eq (.ix (.ix (.v 2) (.neg (.c (.int 1)))) (.c (.int 0))) (.c (.str [112,117,116]))))) R9
@[reducible] noncomputable def Sb:Ev.S:=.ret (.tup (.cons (.iY (.v 3)) (.cons (.m9 (.v 2)) .nil)))
@[reducible] noncomputable def Ur:Ev.Fn:=⟨2,6,(.cons R5 (.cons R6 (.cons R7 (.cons R8 (.cons Sa (.cons Sb .nil))))))⟩
@[reducible] noncomputable def Sd:Ev.S:=.set 2 (.cl 18 (.cons (.v 0) (.cons (.v 1) .nil)))
@[reducible] noncomputable def Se:Ev.S:=.iff (.nt (.ix (.v 2) (.c (.int 1)))) (.cons (.eY) .nil) .nil
@[reducible] noncomputable def Sf:Ev.S:=.iff (.cmp .eq (.ix (.ix (.ix (.v 2) (.c (.int 1))) (.c (.int 0))) (.c (.int 0))) (.c (.str [100,114,111,112]))) (.cons (.ret (.c (.aS))) .nil) .nil
@[reducible] noncomputable def Sg:Ev.S:=.ret (.cl 2 (.cons (.ix (.v 2) (.c (.int 0))) .nil))
@[reducible] noncomputable def Dq:Ev.Fn:=⟨2,3,(.cons Sd (.cons Se (.cons Sf (.cons Sg .nil))))⟩
@[reducible] noncomputable def Sh:Ev.S:=.iff (.cmp .eq (.v 0) (.lst .nil)) (.cons (.ret (.bin .mul (.c (.int 7)) (.v 1))) .nil) .nil
@[reducible] noncomputable def Si:Ev.S:=.ret (.bin .add (.ix (.v 0) (.bin .mod (.v 1) (.bi .len (.cons (.v 0) .nil)))) (.bin .mul (.c (.int 6553)) (.bin .fdiv (.v 1) (.bi .len (.cons (.v 0) .nil)))))
@[reducible] noncomputable def Us:Ev.Fn:=⟨2,2,(.cons Sh (.cons Si .nil))⟩
@[reducible] noncomputable def Sj:Ev.S:=.set 3 (.bin .mod (.bin .add (.bin .mul (.bin .mod (.cl 20 (.cons (.v 0) (.cons (.v 1) .nil))) (.c (.int 2147483563))) (.c (.int 69069))) (.bin .mul (.c (.int 104723)) (.bin .add (.v 1) (.c (.int 1))))) (.c (.int 2147483563)))
@[reducible] noncomputable def Sk:Ev.S:=.set 3 (.bin .mod (.bin .add (.bin .mul (.v 3) (.v 3)) (.bin .fdiv (.v 3) (.c (.int 3)))) (.c (.int 2147483399)))
@[reducible] noncomputable def Sn:Ev.S:=.ret (.bin .mod (.bin .fdiv (.bin .mod (.bin .add (.bin .mul (.v 3) (.v 3)) (.bin .fdiv (.v 3) (.c (.int 7)))) (.c (.int 2147483647))) (.c (.int 11))) (.v 2))
@[reducible] noncomputable def Ut:Ev.Fn:=⟨3,4,(.cons Sj (.cons Sk (.cons Sn .nil)))⟩
@[reducible] noncomputable def So:Ev.S:=.ret (.me .join (.c (.str [])) (.cons (.comp (.ix (.c (.str [97,98,99,32])) (.cl 21 (.cons (.v 0) (.cons (.bin .add (.bin .add (.v 1) (.c (.int 1))) (.v 3)) (.cons (.c (.int 4)) .nil))))) (.one 3) (.fE (.cons (.cl 21 (.cons (.v 0) (.cons (.v 1) (.cons (.bin .add (.v 2) (.c (.int 1))) .nil)))) .nil)) .no) .nil))
@[reducible] noncomputable def Uu:Ev.Fn:=⟨3,4,(.cons So .nil)⟩
@[reducible] noncomputable def Sq:Ev.S:=.set 3 (.tup .nil)
@[reducible] noncomputable def Su:Ev.Ss:=(.cons (.iff (.cmp .eq (.cl 21 (.cons (.v 0) (.cons (.bin .add (.v 1) (.bin .mul (.c (.int 4)) (.v 4))) (.cons (.c (.int 4)) .nil)))) (.c (.int 0))) (.cons (.set 5 (.bin .mul (.ix (.c (.str [97,98,122])) (.cl 21 (.cons (.v 0) (.cons (.bin .add (.bin .add (.v 1) (.bin .mul (.c (.int 4)) (.v 4))) (.c (.int 1))) (.cons (.c (.int 3)) .nil))))) (.bin .add (.c (.int 1)) (.cl 21 (.cons (.v 0) (.cons (.bin .add (.bin .add (.v 1) (.bin .mul (.c (.int 4)) (.v 4))) (.c (.int 2))) (.cons (.c (.int 2)) .nil))))))) (.cons (.set 3 (.bin .add (.v 3) (.tup (.cons (.tup (.cons (.c (.str [112,117,116])) (.cons (.v 5) .nil))) .nil)))) .nil)) .nil) (.cons (.iff (.cmp .lt (.v 4) (.bi .len (.cons (.v 2) .nil))) (.cons (.set 6 (.cmp .gt (.cl 21 (.cons (.v 0) (.cons (.bin .add (.bin .add (.v 1) (.bin .mul (.c (.int 4)) (.v 4))) (.c (.int 3))) (.cons (.c (.int 3)) .nil)))) (.c (.int 0)))) (.cons (.set 3 (.bin .add (.v 3) (.tup (.cons (.lg (.v 6) (.tup (.cons (.c (.str [107,101,101,112])) (.cons (.c (.int 1)) .nil))) (.tup (.cons (.c (.str [100,114,111,112])) (.cons (.ix (.v 2) (.v 4)) .nil)))) .nil)))) .nil)) .nil) .nil))
@[reducible] noncomputable def Sv:Ev.S:=.for (.one 4) (.fE (.cons (.bin .add (.bi .len (.cons (.v 2) .nil)) (.c (.int 1))) .nil)) Su
@[reducible] noncomputable def Sw:Ev.S:=.ret (.v 3)
@[reducible] noncomputable def Uv:Ev.Fn:=⟨3,7,(.cons Sq (.cons Sv (.cons Sw .nil)))⟩
@[reducible] noncomputable def Sx:Ev.S:=.set 1 (.lst .nil)
@[reducible] noncomputable def Sy:Ev.S:=.set 2 (.lst .nil)
@[reducible] noncomputable def Sz:Ev.Ss:=(.cons (.iff (.cmp .eq (.v 3) (.c (.str [107,101,101,112]))) (.cons (.set 2 (.bin .add (.v 2) (.eF (.fE (.cons (.bi .len (.cons (.v 1) .nil)) (.cons (.bin .add (.bi .len (.cons (.v 1) .nil)) (.v 4)) .nil)))))) (.cons (.set 1 (.bin .add (.v 1) (.bin .mul (.lst (.cons (.c (.str [])) .nil)) (.v 4)))) .nil)) (.cons (.iff (.cmp .eq (.v 3) (.c (.str [100,114,111,112]))) (.cons (.set 1 (.bin .add (.v 1) (.eF (.seq (.v 4))))) .nil) (.cons (.set 2 (.bin .add (.v 2) (.eF (.seq (.v 4))))) .nil)) .nil)) .nil)
@[reducible] noncomputable def SA:Ev.S:=.for (.many [3,4]) (.seq (.v 0)) Sz
@[reducible] noncomputable def SD:Ev.S:=.ret (.tup (.cons (.v 1) (.cons (.v 2) .nil)))
@[reducible] noncomputable def Uw:Ev.Fn:=⟨1,5,(.cons Sx (.cons Sy (.cons SA (.cons SD .nil))))⟩
@[reducible] noncomputable def HQ:Ev.S:=.set 1 (.cl 22 (.cons (.v 0) (.cons (.c (.int 0)) (.cons (.c (.int 5)) .nil))))
@[reducible] noncomputable def HS:Ev.S:=.set 2 (.cl 23 (.cons (.v 0) (.cons (.c (.int 10)) (.cons (.v 1) .nil))))
@[reducible] noncomputable def HU:Ev.S:=.set 3 (.cl 23 (.cons (.v 0) (.cons (.c (.int 50)) (.cons (.v 1) .nil))))
@[reducible] noncomputable def HV:Ev.S:=.set 4 (.ix (.cl 24 (.cons (.v 2) .nil)) (.c (.int 0)))
@[reducible] noncomputable def HW:Ev.S:=.set 5 (.ix (.cl 24 (.cons (.v 3) .nil)) (.c (.int 0)))
@[reducible] noncomputable def HX:Ev.S:=.set 6 (.comp (.v 16) (.one 16) (.fE (.cons (.bi .len (.cons (.v 1) .nil)) .nil)) (.yes (.an (.cmp .eq (.ix (.v 4) (.v 16)) (.c (.str []))) (.cmp .eq (.ix (.v 5) (.v 16)) (.c (.str []))))))
@[reducible] noncomputable def HY:Ev.S:=.set 7 (.comp (.lg (.cmp .isin (.v 17) (.v 6)) (.ix (.c (.str [109,110,111,112,113,114])) (.cl 21 (.cons (.v 0) (.cons (.bin .add (.c (.int 100)) (.v 17)) (.cons (.c (.int 6)) .nil))))) (.ix (.v 1) (.v 17))) (.one 17) (.fE (.cons (.bi .len (.cons (.v 1) .nil)) .nil)) .no)
@[reducible] noncomputable def HZ:Ev.S:=.set 8 (.cl 15 (.cons (.v 2) (.cons (.v 3) .nil)))
@[reducible] noncomputable def Ia:Ev.S:=.set 9 (.cl 11 (.cons (.v 3) (.cons (.v 2) (.cons (.c (.bl false)) .nil))))
@[reducible] noncomputable def Ib:Ev.S:=.set 10 (.cl 11 (.cons (.v 2) (.cons (.v 3) (.cons (.c (.bl true)) .nil))))
@[reducible] noncomputable def AY:Ev.Ss:=(.cons (.set 14 (.cl 19 (.cons (.v 8) (.cons (.v 13) .nil)))) (.cons (.iff (.orr (.cmp .ne (.cmp .yo (.v 14) (.c (.aS))) (.cmp .g7 (.v 13) (.v 6))) (.an (.cmp .rS (.v 14) (.c (.aS))) (.cmp .ne (.ix (.v 12) (.v 14)) (.ix (.v 11) (.v 13))))) (.cons (.ret (.c (.bl false))) .nil) .nil) .nil))
@[reducible] noncomputable def AZ:Ev.Ss:=(.cons (.iff (.orr (.nt (.cl 5 (.cons (.v 8) (.cons (.v 11) .nil)))) (.orr (.nt (.cl 5 (.cons (.v 9) (.cons (.cl 6 (.cons (.v 2) (.cons (.v 11) .nil))) .nil)))) (.nt (.cl 5 (.cons (.v 10) (.cons (.cl 6 (.cons (.v 3) (.cons (.v 11) .nil))) .nil)))))) (.cons (.ret (.c (.bl false))) .nil) .nil) (.cons (.set 12 (.cl 6 (.cons (.v 8) (.cons (.v 11) .nil)))) (.cons (.iff (.orr (.cmp .ne (.v 12) (.cl 6 (.cons (.v 9) (.cons (.cl 6 (.cons (.v 2) (.cons (.v 11) .nil))) .nil)))) (.cmp .ne (.v 12) (.cl 6 (.cons (.v 10) (.cons (.cl 6 (.cons (.v 3) (.cons (.v 11) .nil))) .nil))))) (.cons (.ret (.c (.bl false))) .nil) .nil) (.cons (.for (.one 13) (.fE (.cons (.bi .len (.cons (.v 1) .nil)) .nil)) AY) .nil))))
@[reducible] noncomputable def Dr:Ev.S:=.for (.one 11) (.seq (.tup (.cons (.v 1) (.cons (.me .join (.c (.str [])) (.cons (.v 7) .nil)) (.cons (.cl 16 (.cons (.lst (.cons (.v 2) (.cons (.v 3) .nil))) .nil)) .nil))))) AZ
@[reducible] noncomputable def A1:Ev.Ss:=(.cons (.set 15 (.bin .add (.bin .add (.sl (.v 1) .no (.yes (.v 13))) (.c (.str [121]))) (.sl (.v 1) (.yes (.bin .add (.v 13) (.c (.int 1)))) .no))) (.cons (.iff (.orr (.cmp .ne (.cl 5 (.cons (.v 8) (.cons (.v 15) .nil))) (.cmp .isin (.v 13) (.v 6))) (.cmp .ne (.an (.cl 5 (.cons (.v 2) (.cons (.v 15) .nil))) (.cl 5 (.cons (.v 3) (.cons (.v 15) .nil)))) (.cmp .isin (.v 13) (.v 6)))) (.cons (.ret (.c (.bl false))) .nil) .nil) .nil))
@[reducible] noncomputable def xC:Ev.S:=.for (.one 13) (.fE (.cons (.bi .len (.cons (.v 1) .nil)) .nil)) A1
@[reducible] noncomputable def xD:Ev.S:=.ret (.an (.nt (.cl 5 (.cons (.v 8) (.cons (.bin .add (.v 1) (.c (.str [97]))) .nil)))) (.cmp .eq (.v 8) (.cl 7 (.cons (.v 3) (.cons (.v 10) .nil)))))
@[reducible] noncomputable def Ic:Ev.Fn:=⟨1,18,(.cons HQ (.cons HS (.cons HU (.cons HV (.cons HW (.cons HX (.cons HY (.cons HZ (.cons Ia (.cons Ib (.cons Dr (.cons xC (.cons xD .nil)))))))))))))⟩
noncomputable def prog:List Ev.Fn:=[f0,f1,f2,f3,f4,f5,f6,f7,f8,f9,GW,Uk,Ul,Um,Uo,HN,Up,Uq,Ur,Dq,Us,Ut,Uu,Uv,Uw,Ic]
end Lw
set_option maxRecDepth 100000
namespace Lw
open PySem PySem.Spec PyProof.Rows L2 Sm
open Ev (D O Hh Fr R aO E Es Eo T S Ss Fl Src bU bN TY BI ME)
noncomputable def top(i:Nat):Stmt:=PySem.Challenge.pw_pastways_k24_whole_other_texts.main.body.getD i (.Pass ⟨0,0,0,0⟩)
abbrev i0 (a:Nat->Addr) (d:Nat->FuncData):FI:=⟨"size",a 0,d 0,["part"]⟩
abbrev i1 (a:Nat->Addr) (d:Nat->FuncData):FI:=⟨"before",a 1,d 1,["change"]⟩
abbrev i2 (a:Nat->Addr) (d:Nat->FuncData):FI:=⟨"after",a 2,d 2,["change"]⟩
abbrev i3 (a:Nat->Addr) (d:Nat->FuncData):FI:=⟨"form",a 3,d 3,["change"]⟩
abbrev i4 (a:Nat->Addr) (d:Nat->FuncData):FI:=⟨"stretch",a 4,d 4,["kept","gone","new"]⟩
abbrev i5 (a:Nat->Addr) (d:Nat->FuncData):FI:=⟨"fits",a 5,d 5,["change","text"]⟩
abbrev i6 (a:Nat->Addr) (d:Nat->FuncData):FI:=⟨"done",a 6,d 6,["change","text"]⟩
abbrev i7 (a:Nat->Addr) (d:Nat->FuncData):FI:=⟨"then",a 7,d 7,["one","other"]⟩
abbrev i8 (a:Nat->Addr) (d:Nat->FuncData):FI:=⟨"met",a 8,d 8,["left","gone_through"]⟩
abbrev i9 (a:Nat->Addr) (d:Nat->FuncData):FI:=⟨"taken",a 9,d 9,["parts","many"]⟩
abbrev Pk (a:Nat->Addr) (d:Nat->FuncData):FI:=⟨"parted",a 10,d 10,["part","many"]⟩
abbrev Pn (a:Nat->Addr) (d:Nat->FuncData):FI:=⟨"past",a 11,d 11,["one","other","is_first"]⟩
abbrev i12 (a:Nat->Addr) (d:Nat->FuncData):FI:=⟨"puts_next",a 12,d 12,["parts"]⟩
abbrev Po (a:Nat->Addr) (d:Nat->FuncData):FI:=⟨"clashing",a 13,d 13,["one","other"]⟩
abbrev Pp (a:Nat->Addr) (d:Nat->FuncData):FI:=⟨"dropped_signs",a 14,d 14,["change"]⟩
abbrev Pq (a:Nat->Addr) (d:Nat->FuncData):FI:=⟨"merged",a 15,d 15,["one","other"]⟩
abbrev Pr (a:Nat->Addr) (d:Nat->FuncData):FI:=⟨"all_fit",a 16,d 16,["changes"]⟩
abbrev Pu (a:Nat->Addr) (d:Nat->FuncData):FI:=⟨"filled",a 17,d 17,["many","signs","sign"]⟩
abbrev Px (a:Nat->Addr) (d:Nat->FuncData):FI:=⟨"cut",a 18,d 18,["change","place"]⟩
abbrev Py (a:Nat->Addr) (d:Nat->FuncData):FI:=⟨"sign_after",a 19,d 19,["change","place"]⟩
abbrev Pz (a:Nat->Addr) (d:Nat->FuncData):FI:=⟨"_law_cell",a 20,d 20,["_law_script","_law_k"]⟩
abbrev PB (a:Nat->Addr) (d:Nat->FuncData):FI:=⟨"_law_drawn",a 21,d 21,["_law_script","_law_k","_law_many"]⟩
abbrev PC (a:Nat->Addr) (d:Nat->FuncData):FI:=⟨"_law_text",a 22,d 22,["_law_script","_law_at","_law_most"]⟩
abbrev PD (a:Nat->Addr) (d:Nat->FuncData):FI:=⟨"_law_change",a 23,d 23,["_law_script","_law_at","_law_text_here"]⟩
abbrev PF (a:Nat->Addr) (d:Nat->FuncData):FI:=⟨"_law_sense",a 24,d 24,["_law_change_here"]⟩
abbrev Ie (a:Nat->Addr) (d:Nat->FuncData):FI:=⟨"law",a 25,d 25,["_law_script"]⟩
noncomputable def oM:List Str:=["all","len","list","min","range","reversed","sorted","sum","tuple"]
theorem SE:("all" : Str)∈oM:=by decide +kernel
theorem SG:("len" : Str)∈oM:=by decide +kernel
theorem xE:("list" : Str)∈oM:=by decide +kernel
theorem SH:("min" : Str)∈oM:=by decide +kernel
theorem zu:("range" : Str)∈oM:=by decide +kernel
theorem rL:("reversed" : Str)∈oM:=by decide +kernel
theorem Gw:("sorted" : Str)∈oM:=by decide +kernel
theorem SI:("sum" : Str)∈oM:=by decide +kernel
theorem zv:("tuple" : Str)∈oM:=by decide +kernel
noncomputable def tb (a:Nat->Addr) (d:Nat->FuncData):Tb:=⟨prog,100000,[i0 a d,i1 a d,i2 a d,i3 a d,i4 a d,i5 a d,i6 a d,i7 a d,i8 a d,i9 a d,Pk a d,Pn a d,i12 a d,Po a d,Pp a d,Pq a d,Pr a d,Pu a d,Px a d,Py a d,Pz a d,PB a d,PC a d,PD a d,PF a d,Ie a d],oM,[("__name__",.str [108,97,119,95,112,97,115,116,119,97,121,115,95,107,50,52,95,119,104,111,108,101,95,111,116,104,101,114,95,116,101,120,116,115]),("FILLS",.tup [.str [97],.str [98]])],[]⟩
section
variable{a:Nat->Addr}{d:Nat->FuncData}{n:Nat}
abbrev n0:List Str:=["part"]
theorem s0:bH n0 ["part"] (aP (top 1)):=⟨rfl,rfl,rfl,by decide +kernel,rfl,by decide +kernel,by decide +kernel⟩
abbrev n1:List Str:=["change"]
theorem s1:bH n1 ["change"] (aP (top 2)):=⟨rfl,rfl,rfl,by decide +kernel,rfl,by decide +kernel,by decide +kernel⟩
abbrev n2:List Str:=["change"]
theorem s2:bH n2 ["change"] (aP (top 3)):=⟨rfl,rfl,rfl,by decide +kernel,rfl,by decide +kernel,by decide +kernel⟩
abbrev n3:List Str:=["change","parts","kept","gone","new","word","what"]
theorem s3:bH n3 ["change"] (aP (top 4)):=⟨rfl,rfl,rfl,by decide +kernel,rfl,by decide +kernel,by decide +kernel⟩
abbrev n4:List Str:=["kept","gone","new","parts"]
theorem s4:bH n4 ["kept","gone","new"] (aP (top 5)):=⟨rfl,rfl,rfl,by decide +kernel,rfl,by decide +kernel,by decide +kernel⟩
abbrev n5:List Str:=["change","text","place","part"]
theorem s5:bH n5 ["change","text"] (aP (top 12)):=⟨rfl,rfl,rfl,by decide +kernel,rfl,by decide +kernel,by decide +kernel⟩
abbrev n6:List Str:=["change","text","pieces","place","word","what"]
theorem s6:bH n6 ["change","text"] (aP (top 13)):=⟨rfl,rfl,rfl,by decide +kernel,rfl,by decide +kernel,by decide +kernel⟩
abbrev n7:List Str:=["one","other","ones","others","parts","many"]
theorem s7:bH n7 ["one","other"] (aP (top 14)):=⟨rfl,rfl,rfl,by decide +kernel,rfl,by decide +kernel,by decide +kernel⟩
abbrev n8:List Str:=["left","gone_through"]
theorem s8:bH n8 ["left","gone_through"] (aP (top 15)):=⟨rfl,rfl,rfl,by decide +kernel,rfl,by decide +kernel,by decide +kernel⟩
abbrev n9:List Str:=["parts","many","halves"]
theorem s9:bH n9 ["parts","many"] (aP (top 16)):=⟨rfl,rfl,rfl,by decide +kernel,rfl,by decide +kernel,by decide +kernel⟩
abbrev Ux:List Str:=["part","many","word"]
theorem Tt:bH Ux ["part","many"] (aP (top 17)):=⟨rfl,rfl,rfl,by decide +kernel,rfl,by decide +kernel,by decide +kernel⟩
abbrev Uy:List Str:=["one","other","is_first","ones","others","parts","many","part"]
theorem GS:bH Uy ["one","other","is_first"] (aP (top 19)):=⟨rfl,rfl,rfl,by decide +kernel,rfl,by decide +kernel,by decide +kernel⟩
abbrev Uz:List Str:=["parts"]
theorem s12:bH Uz ["parts"] (aP (top 20)):=⟨rfl,rfl,rfl,by decide +kernel,rfl,by decide +kernel,by decide +kernel⟩
abbrev UA:List Str:=["one","other","signs","unlike"]
theorem Yv:bH UA ["one","other"] (aP (top 21)):=⟨rfl,rfl,rfl,by decide +kernel,rfl,by decide +kernel,by decide +kernel⟩
abbrev UB:List Str:=["change","signs","place","part","sign"]
theorem Yw:bH UB ["change"] (aP (top 22)):=⟨rfl,rfl,rfl,by decide +kernel,rfl,by decide +kernel,by decide +kernel⟩
abbrev UC:List Str:=["one","other"]
theorem Yx:bH UC ["one","other"] (aP (top 23)):=⟨rfl,rfl,rfl,by decide +kernel,rfl,by decide +kernel,by decide +kernel⟩
abbrev UD:List Str:=["changes","signs","change","text"]
theorem Yy:bH UD ["changes"] (aP (top 26)):=⟨rfl,rfl,rfl,by decide +kernel,rfl,by decide +kernel,by decide +kernel⟩
abbrev UE:List Str:=["many","signs","sign"]
theorem Yz:bH UE ["many","signs","sign"] (aP (top 27)):=⟨rfl,rfl,rfl,by decide +kernel,rfl,by decide +kernel,by decide +kernel⟩
abbrev UG:List Str:=["change","place","parts","first","left","many"]
theorem YA:bH UG ["change","place"] (aP (top 29)):=⟨rfl,rfl,rfl,by decide +kernel,rfl,by decide +kernel,by decide +kernel⟩
abbrev UH:List Str:=["change","place","halves"]
theorem YB:bH UH ["change","place"] (aP (top 31)):=⟨rfl,rfl,rfl,by decide +kernel,rfl,by decide +kernel,by decide +kernel⟩
abbrev UI:List Str:=["_law_script","_law_k"]
theorem YC:bH UI ["_law_script","_law_k"] (aP (top 33)):=⟨rfl,rfl,rfl,by decide +kernel,rfl,by decide +kernel,by decide +kernel⟩
abbrev UJ:List Str:=["_law_script","_law_k","_law_many","_law_cell_here"]
theorem YD:bH UJ ["_law_script","_law_k","_law_many"] (aP (top 34)):=⟨rfl,rfl,rfl,by decide +kernel,rfl,by decide +kernel,by decide +kernel⟩
abbrev UK:List Str:=["_law_script","_law_at","_law_most"]
theorem YE:bH UK ["_law_script","_law_at","_law_most"] (aP (top 35)):=⟨rfl,rfl,rfl,by decide +kernel,rfl,by decide +kernel,by decide +kernel⟩
abbrev UL:List Str:=["_law_script","_law_at","_law_text_here","_law_found","_law_k","_law_new","_law_is_kept"]
theorem YF:bH UL ["_law_script","_law_at","_law_text_here"] (aP (top 36)):=⟨rfl,rfl,rfl,by decide +kernel,rfl,by decide +kernel,by decide +kernel⟩
abbrev UM:List Str:=["_law_change_here","_law_asks","_law_told","_law_word","_law_what"]
theorem YG:bH UM ["_law_change_here"] (aP (top 37)):=⟨rfl,rfl,rfl,by decide +kernel,rfl,by decide +kernel,by decide +kernel⟩
abbrev UN:List Str:=["_law_script","_law_text_here","_law_one","_law_other","_law_asks","_law_wants","_law_free","_law_signs","_law_whole","_law_led","_law_back","_law_some","_law_made","_law_at","_law_place","_law_odd"]
theorem YH:bH UN ["_law_script"] (aP (top 39)):=⟨rfl,rfl,rfl,by decide +kernel,rfl,by decide +kernel,by decide +kernel⟩
set_option maxHeartbeats 0 in
theorem dU:allB (tb a d) n [(f0.body,top 1,n0),(f1.body,top 2,n1),(f2.body,top 3,n2),(f3.body,top 4,n3),(f4.body,top 5,n4),(f5.body,top 12,n5),(f6.body,top 13,n6),(f7.body,top 14,n7),(f8.body,top 15,n8),(f9.body,top 16,n9),(GW.body,top 17,Ux),(Uk.body,top 19,Uy),(Ul.body,top 20,Uz),(Um.body,top 21,UA),(Uo.body,top 22,UB),(HN.body,top 23,UC),(Up.body,top 26,UD),(Uq.body,top 27,UE),(Ur.body,top 29,UG),(Dq.body,top 31,UH),(Us.body,top 33,UI),(Ut.body,top 34,UJ),(Uu.body,top 35,UK),(Uv.body,top 36,UL),(Uw.body,top 37,UM),(Ic.body,top 39,UN)]:=by
 refine⟨?_,?_,?_,?_,?_,?_,?_,?_,?_,?_,?_,?_,?_,?_,?_,?_,?_,?_,?_,?_,?_,?_,?_,?_,?_,?_,trivial⟩;all_goals dsimp only
 all_goals repeat (first
  | ((with_reducible show JE _ _ _ _ _ _ _ (.BoolOp _ [_] _));refine Mg ?_)
  | ((with_reducible show jU _ _ _ _ _ _ (.cons (.jw _ _ _ _) _) _);refine Ed ?_)
  | ((with_reducible show JE _ _ _ _ _ _ (.c _) (.Name _ _));refine IP (x:="FILLS") (.tail _ (.head _)))
  | ((with_reducible show JE _ _ _ _ _ _ (.v _) _);exact jv (by decide +kernel))
  | ((with_reducible show JA _ _ _ _ _ _ (.cons _ _) _);refine IQ ?_ ?_)
  | ((with_reducible show jU _ _ _ _ _ _ (.cons _ _) _);refine D6 ?_ ?_)
  | ((with_reducible show JA _ _ _ _ _ _ .nil _);refine Mb)
  | ((with_reducible show jU _ _ _ _ _ _ .nil _);refine IY)
  | ((with_reducible show JE _ _ _ _ _ _ (.c (.int _)) _);refine L7)
  | ((with_reducible show JE _ _ _ _ _ _ (.cl _ _) _);refine XY (by decide +kernel) rfl rfl ?_)
  | ((with_reducible show JE _ _ _ _ _ _ (.ix _ _) _);refine QJ (λX g=>QX) ?_ ?_)
  | ((with_reducible show JE _ _ _ _ _ _ (.c (.str _)) _);refine Ma)
  | ((with_reducible show JS _ _ _ _ _ _ (.iff _ _ _) _);refine Mz ?_ ?_ ?_)
  | ((with_reducible show JE _ _ _ _ _ _ (.bin .add _ _) _);refine nI (λX g=>MR) ?_ ?_)
  | ((with_reducible show JS _ _ _ _ _ _ (.ret _) _);refine My ?_)
  | ((with_reducible show JT _ _ _ _ _ _ (.cmp .eq _ _) _);refine lD (λX g=>G2 g) ?_ ?_ (jk _))
  | ((with_reducible show JE _ _ _ _ _ _ (.tup _) _);refine Mc ?_)
  | ((with_reducible show JT _ _ _ _ _ _ (.cmp .ne _ _) _);refine lD (λX g=>QV g) ?_ ?_ (jk _))
  | ((with_reducible show JG _ _ _ _ _ _ (.one _) _);exact XW (by decide +kernel))
  | ((with_reducible show JS _ _ _ _ _ _ (.exp _) _);refine Mx ?_)
  | ((with_reducible show JE _ _ _ _ _ _ (.bi .len _) _);refine qA (x:="len") (id:="len") (λX g=>M7) ?_ (hb:=SG) (hv:=by decide +kernel))
  | ((with_reducible show JE _ _ _ _ _ _ (.lst _) _);refine Me ?_)
  | ((with_reducible show JE _ _ _ _ _ _ (.me .append _ (.cons _ _)) _);refine zN PySem.F.plainAttrs_list PySem.F.slot_list_append PySem.F.type_list_append (λX g=>B4) rfl ?_ ?_)
  | ((with_reducible show JI _ _ _ _ _ _ (.seq _) _ _);refine Mt ?_)
  | ((with_reducible show JE _ _ _ _ _ _ (.bin .mul _ _) _);refine nI (λX g=>M4) ?_ ?_)
  | ((with_reducible show JS _ _ _ _ _ _ (.for _ _ _) _);refine MB ?_ ?_ ?_)
  | ((with_reducible show JT _ _ _ _ _ _ (.orr _ _) _);refine V6 ?_ ?_)
  | ((with_reducible show JW _ _ _ _ _ _ (.orr _ _) (.BoolOp _ (_ :: _ :: _) _));refine BD ?_ ?_)
  | ((with_reducible show JW _ _ _ _ _ _ _ (.BoolOp .Or [_] _));refine IS ?_)
  | ((with_reducible show JE _ _ _ _ _ _ (.neg _) _);refine Mf ?_)
  | ((with_reducible show JO _ _ _ _ _ _ (.yes _) _);refine Mp ?_)
  | ((with_reducible show JE _ _ _ _ _ _ (.c (.bl _)) _);refine QF)
  | ((with_reducible show JT _ _ _ _ _ _ (.an _ _) _);refine V5 ?_ ?_)
  | ((with_reducible show JW _ _ _ _ _ _ (.an _ _) (.BoolOp _ (_ :: _ :: _) _));refine GL ?_ ?_)
  | ((with_reducible show JW _ _ _ _ _ _ _ (.BoolOp .And [_] _));refine Mj ?_)
  | ((with_reducible show JS _ _ _ _ _ _ .eY _);refine Nc)
  | ((with_reducible show JI _ _ _ _ _ _ (.fE (.cons _ .nil)) _ _);refine IV ?_ (hb:=zu))
  | ((with_reducible show JE _ _ _ _ _ _ (.comp _ _ _ _) _);refine Q0 (by decide +kernel) (by decide +kernel) ?_ ?_ ?_ ?_)
  | ((with_reducible show tS _ _ _ _ _ _ (_ :: _) _);refine XX (by decide +kernel) ?_)
  | ((with_reducible show JE _ _ _ _ _ _ (.sl _ _ _) _);refine QL (λX g=>MZ) ?_ ?_ ?_)
  | ((with_reducible show JT _ _ _ _ _ _ (.nt _) _);refine QI ?_)
  | ((with_reducible show JE _ _ _ _ _ _ (.me .pop _ .nil) _);refine Mq PySem.F.plainAttrs_list PySem.F.slot_list_pop PySem.F.type_list_pop (λX g=>M9) rfl ?_)
  | ((with_reducible show JE _ _ _ _ _ _ (.bin .mod _ _) _);refine nI (λX g=>MT) ?_ ?_)
  | ((with_reducible show JT _ _ _ _ _ _ (.cmp .gt _ _) _);refine lD (λX g=>G3) ?_ ?_ (jk _))
  | ((with_reducible show JE _ _ _ _ _ _ (.eF (.rev _)) _);refine Ju ?_ (h1:=xE) (hb:=rL))
  | ((with_reducible show JC _ _ _ _ _ _ (.yes _) _);refine MG ?_)
  | ((with_reducible show JE _ _ _ _ _ _ (.iY _) _);refine Nb ?_ (h1:=zv))
  | ((with_reducible show JE _ _ _ _ _ _ (.me .join _ (.cons _ _)) _);refine zN PySem.F.plainAttrs_str PySem.F.slot_str_join PySem.F.type_str_join (λX g=>Js) rfl ?_ ?_)
  | ((with_reducible show JO _ _ _ _ _ _ .no _);refine QK)
  | ((with_reducible show JC _ _ _ _ _ _ .no _);refine QS)
  | ((with_reducible show JE _ _ _ _ _ _ (.c .aS) _);refine L8)
  | ((with_reducible show JE _ _ _ _ _ _ (.bin .fdiv _ _) _);refine nI (λX g=>Jm) ?_ ?_)
  | ((with_reducible show JG _ _ _ _ _ _ (.many _) _);refine IX ?_)
  | ((with_reducible show tS _ _ _ _ _ _ [] _);refine IW)
  | ((with_reducible show JE _ _ _ _ _ _ (.me .extend _ (.cons _ _)) _);refine zN PySem.F.plainAttrs_list PySem.F.slot_list_extend PySem.F.type_list_extend (λX g=>B5) rfl ?_ ?_)
  | ((with_reducible show JE _ _ _ _ _ _ (.cmp .eq _ _) _);refine nJ (λX g=>G2 g) ?_ ?_ (jk _))
  | ((with_reducible show JS _ _ _ _ _ _ (.ly _ _) _);refine MA ?_ ?_)
  | ((with_reducible show JE _ _ _ _ _ _ (.bi .min _) _);refine qA (x:="min") (id:="min") (λX g=>M8 g) ?_ (hb:=SH) (hv:=by decide +kernel))
  | ((with_reducible show JE _ _ _ _ _ _ (.an _ _) (.BoolOp _ (_ :: _ :: _) _));refine QH ?_ ?_)
  | ((with_reducible show JE _ _ _ _ _ _ (.bi .sum _) _);refine qA (x:="sum") (id:="sum") (λX g=>M6 g) ?_ (hb:=SI) (hv:=by decide +kernel))
  | ((with_reducible show JE _ _ _ _ _ _ (.bin .sub _ _) _);refine nI (λX g=>MS) ?_ ?_)
  | ((with_reducible show JE _ _ _ _ _ _ (.cmp .gt _ _) _);refine nJ (λX g=>G3) ?_ ?_ (jk _))
  | ((with_reducible show JE _ _ _ _ _ _ (.kr _ _ _) _);refine MD ?_ ?_ ?_)
  | ((with_reducible show JE _ _ _ _ _ _ (.kq _ _) _);refine MC ?_ ?_)
  | ((with_reducible show JE _ _ _ _ _ _ .ig _);exact Jb)
  | ((with_reducible show JT _ _ _ _ _ _ (.cmp .lt _ _) _);refine lD (λX g=>QW) ?_ ?_ (jk _))
  | ((with_reducible show JE _ _ _ _ _ _ (.lg _ _ _) _);refine Mh ?_ ?_ ?_)
  | ((with_reducible show JE _ _ _ _ _ _ (.eF (.seq _)) _);refine Na ?_ (h1:=xE))
  | ((with_reducible show JS _ _ _ _ _ _ (.set _ (.comp _ _ _ _)) _);refine Q2 (by decide +kernel) (by decide +kernel) (by decide +kernel) ?_ ?_ ?_ ?_)
  | ((with_reducible show JE _ _ _ _ _ _ (.cmp .isin _ _) _);refine nJ (λX g=>G4 g) ?_ ?_ (by with_unfolding_all rfl))
  | ((with_reducible show JE _ _ _ _ _ _ (.bi .ko _) _);refine qA (x:="sorted") (id:="sorted") (λX g=>Ex g.calm) ?_ (hb:=Gw) (hv:=by decide +kernel))
  | ((with_reducible show JS _ _ _ _ _ _ (.dput _ _ _) _);refine Jc ?_ ?_ ?_)
  | ((with_reducible show JS _ _ _ _ _ _ (.qb _ _) _);refine Je ?_ ?_)
  | ((with_reducible show JE _ _ _ _ _ _ (.bi .all _) _);refine qA (x:="all") (id:="all") (λX g=>M5 g) ?_ (hb:=SE) (hv:=by decide +kernel))
  | ((with_reducible show JE _ _ _ _ _ _ (.m9 _) _);refine Np ?_ (h1:=zv) (hb:=rL))
  | ((with_reducible show JE _ _ _ _ _ _ (.eF (.fE (.cons _ (.cons _ .nil)))) _);refine En ?_ (h1:=xE) (hb:=zu))
  | ((with_reducible show JT _ _ _ _ _ _ (.cmp .isin _ _) _);refine lD (λX g=>G4 g) ?_ ?_ (by with_unfolding_all rfl))
  | ((with_reducible show JE _ _ _ _ _ _ (.cmp .yo _ _) _);refine nJ (λX g=>MQ) ?_ ?_ (jk _))
  | ((with_reducible show JE _ _ _ _ _ _ (.cmp .g7 _ _) _);refine nJ (λX g=>Ej g) ?_ ?_ (by with_unfolding_all rfl))
  | ((with_reducible show JT _ _ _ _ _ _ (.cmp .rS _ _) _);refine lD (λX g=>Jk) ?_ ?_ (jk _))
  | ((with_reducible show JE _ _ _ _ _ _ (.nt _) _);refine QG ?_)
  | ((with_reducible show JS _ _ _ _ _ _ (.set _ _) _);refine V4 (by decide +kernel) ?_)
  | ((with_reducible show JT _ _ _ _ _ _ _ _);refine Mm ?_))
end
end Lw
set_option maxRecDepth 100000
namespace Lw
open PySem PySem.Spec PyProof.Rows L2 Sm
open Ev (D O Hh Fr R aO E Es Eo T S Ss Fl Src bU bN TY BI ME)
theorem kU{α:Type _}{l:List α}(h:l.length=1):∃a,l=[a]:=by
 rcases l with _|⟨a,_|⟨b,l⟩⟩<;>simp at h ⊢
theorem jz{α:Type _}{l:List α}(h:l.length=2):∃a b,l=[a,b]:=by
 rcases l with _|⟨a,l⟩
 .simp at h
 .obtain⟨b,rfl⟩:=kU (l:=l) (by simpa using h);exact⟨a,b,rfl⟩
theorem sX{α:Type _}{l:List α}(h:l.length=3):∃a b c,l=[a,b,c]:=by
 rcases l with _|⟨a,l⟩
 .simp at h
 .obtain⟨b,c,rfl⟩:=jz (l:=l) (by simpa using h);exact⟨a,b,c,rfl⟩
structure Fg(K:PySem.W.Frag)(x:Str)(i:Nat)(p:Addr)(d:FuncData):Prop where
 a:PySem.W.nsIn K mainGlobals x=some (some (.ref p))
 f:tN K x x (top i) p d
theorem Fg.t{K:PySem.W.Frag}{h:Heap}{mg:Str->Option Value}{x:Str}{i:Nat}{p:Addr}{d:FuncData}{ps:List Str}(F:Fg K x i p d)(X:K.In h)(G:h.Ns mainGlobals mg)(b:Binds K d ps []):mg x=some (.ref p)/\PySem.W.keepIn K (.ref p)=true/\Binds K d ps []:=⟨PySem.W.mg_of X G F.a,F.f.kp,b⟩
theorem all_mk {l:PySem.W.OpenLaw}{w:World}{K:PySem.W.Frag}{h:Heap}{mg:Str->Option Value}{fa p0 p1 p2 p3 p4 p5 p6 p7 p8 p9 UO UP UQ UR US UT UU UW UX UY UZ U0 U1 U3 U4 PJ:Addr}{d0 d1 d2 d3 d4 d5 d6 d7 d8 d9 U5 U6 U7 U8 U9 Va Vb Vc Vd Ve Vf Vg Vh Vi Vj PK:FuncData}(X:K.In h) (G:h.Ns mainGlobals mg) (YI:mg "law" = some (.ref fa))
  (F0:Fg K "size" 1 p0 d0)
  (F1:Fg K "before" 2 p1 d1)
  (F2:Fg K "after" 3 p2 d2)
  (F3:Fg K "form" 4 p3 d3)
  (F4:Fg K "stretch" 5 p4 d4)
  (F5:Fg K "fits" 12 p5 d5)
  (F6:Fg K "done" 13 p6 d6)
  (F7:Fg K "then" 14 p7 d7)
  (F8:Fg K "met" 15 p8 d8)
  (F9:Fg K "taken" 16 p9 d9)
  (PL:Fg K "parted" 17 UO U5)
  (PM:Fg K "past" 19 UP U6)
  (PN:Fg K "puts_next" 20 UQ U7)
  (PU:Fg K "clashing" 21 UR U8)
  (PV:Fg K "dropped_signs" 22 US U9)
  (PX:Fg K "merged" 23 UT Va)
  (PY:Fg K "all_fit" 26 UU Vb)
  (PZ:Fg K "filled" 27 UW Vc)
  (P0:Fg K "cut" 29 UX Vd)
  (P1:Fg K "sign_after" 31 UY Ve)
  (P4:Fg K "_law_cell" 33 UZ Vf)
  (P5:Fg K "_law_drawn" 34 U0 Vg)
  (P6:Fg K "_law_text" 35 U1 Vh)
  (P7:Fg K "_law_change" 36 U3 Vi)
  (P8:Fg K "_law_sense" 37 U4 Vj)
  (Ds:Fg K "law" 39 PJ PK)
  (z0:PySem.W.nsIn K mainGlobals "all" = some none)
  (z1:PySem.W.nsIn K mainGlobals "len" = some none)
  (z2:PySem.W.nsIn K mainGlobals "list" = some none)
  (z3:PySem.W.nsIn K mainGlobals "min" = some none)
  (z4:PySem.W.nsIn K mainGlobals "range" = some none)
  (z5:PySem.W.nsIn K mainGlobals "reversed" = some none)
  (z6:PySem.W.nsIn K mainGlobals "sorted" = some none)
  (z7:PySem.W.nsIn K mainGlobals "sum" = some none)
  (z8:PySem.W.nsIn K mainGlobals "tuple" = some none)
  {t0:Tok} (q0:PySem.W.nsIn K mainGlobals "__name__" = some (some (.str "law_pastways_k24_whole_other_texts" t0)))
  {W6 W7:Tok} {Ig:Addr} {YJ:Option Addr} {YK:Nat} {YL:Array (Option Value)} (q1:PySem.W.nsIn K mainGlobals "FILLS" = some (some (.ref Ig))) (Vk:K.lookup Ig=some ⟨.type "tuple",YJ,.seq #[.str "a" W6,.str "b" W7] YK,YL⟩)
  : ∃fd:FuncData,(∀(s:Shared) (v:Value),BindsTo s fd ⟨[v],[]⟩ [("_law_script",v)])/\∀base:Heap,K.In base->base.Ns mainGlobals mg->iZ l.prog w K mg base nG 60 fa fd ["_law_script"] (pJ K prog 100000 60 25):=by
 have e:=YI.symm.trans (PySem.W.mg_of X G Ds.a);have e2:PJ=fa:=by injection e with e;injection e with e;exact e.symm
 subst e2
 let aa:Nat->Addr:=λk=>[p0,p1,p2,p3,p4,p5,p6,p7,p8,p9,UO,UP,UQ,UR,US,UT,UU,UW,UX,UY,UZ,U0,U1,U3,U4,PJ].getD k p0
 let dd:Nat->FuncData:=λk=>[d0,d1,d2,d3,d4,d5,d6,d7,d8,d9,U5,U6,U7,U8,U9,Va,Vb,Vc,Vd,Ve,Vf,Vg,Vh,Vi,Vj,PK].getD k d0
 have T:Top l.prog w K mg (tb aa dd):=by
  refine⟨λf i hi=>(show ∀i∈(tb aa dd).fi,mg i.name=some (.ref i.addr)/\PySem.W.keepIn K (.ref i.addr)=true/\Binds K i.fd i.ps []from ?_) i (List.mem_of_getElem? hi),?_,?_,?_⟩
  .refine List.forall_mem_cons.mpr ⟨F0.t X G (F0.f.binds λ_ _ _ _ _ _ us hl=>by obtain⟨_,rfl⟩:=kU hl;rfl),?_⟩;refine List.forall_mem_cons.mpr ⟨F1.t X G (F1.f.binds λ_ _ _ _ _ _ us hl=>by obtain⟨_,rfl⟩:=kU hl;rfl),?_⟩;refine List.forall_mem_cons.mpr ⟨F2.t X G (F2.f.binds λ_ _ _ _ _ _ us hl=>by obtain⟨_,rfl⟩:=kU hl;rfl),?_⟩;refine List.forall_mem_cons.mpr ⟨F3.t X G (F3.f.binds λ_ _ _ _ _ _ us hl=>by obtain⟨_,rfl⟩:=kU hl;rfl),?_⟩;refine List.forall_mem_cons.mpr ⟨F4.t X G (F4.f.binds λ_ _ _ _ _ _ us hl=>by obtain⟨_,_,_,rfl⟩:=sX hl;rfl),?_⟩;refine List.forall_mem_cons.mpr ⟨F5.t X G (F5.f.binds λ_ _ _ _ _ _ us hl=>by obtain⟨_,_,rfl⟩:=jz hl;rfl),?_⟩;refine List.forall_mem_cons.mpr ⟨F6.t X G (F6.f.binds λ_ _ _ _ _ _ us hl=>by obtain⟨_,_,rfl⟩:=jz hl;rfl),?_⟩;refine List.forall_mem_cons.mpr ⟨F7.t X G (F7.f.binds λ_ _ _ _ _ _ us hl=>by obtain⟨_,_,rfl⟩:=jz hl;rfl),?_⟩;refine List.forall_mem_cons.mpr ⟨F8.t X G (F8.f.binds λ_ _ _ _ _ _ us hl=>by obtain⟨_,_,rfl⟩:=jz hl;rfl),?_⟩;refine List.forall_mem_cons.mpr ⟨F9.t X G (F9.f.binds λ_ _ _ _ _ _ us hl=>by obtain⟨_,_,rfl⟩:=jz hl;rfl),?_⟩;refine List.forall_mem_cons.mpr ⟨PL.t X G (PL.f.binds λ_ _ _ _ _ _ us hl=>by obtain⟨_,_,rfl⟩:=jz hl;rfl),?_⟩;refine List.forall_mem_cons.mpr ⟨PM.t X G (PM.f.binds λ_ _ _ _ _ _ us hl=>by obtain⟨_,_,_,rfl⟩:=sX hl;rfl),?_⟩;refine List.forall_mem_cons.mpr ⟨PN.t X G (PN.f.binds λ_ _ _ _ _ _ us hl=>by obtain⟨_,rfl⟩:=kU hl;rfl),?_⟩;refine List.forall_mem_cons.mpr ⟨PU.t X G (PU.f.binds λ_ _ _ _ _ _ us hl=>by obtain⟨_,_,rfl⟩:=jz hl;rfl),?_⟩;refine List.forall_mem_cons.mpr ⟨PV.t X G (PV.f.binds λ_ _ _ _ _ _ us hl=>by obtain⟨_,rfl⟩:=kU hl;rfl),?_⟩;refine List.forall_mem_cons.mpr ⟨PX.t X G (PX.f.binds λ_ _ _ _ _ _ us hl=>by obtain⟨_,_,rfl⟩:=jz hl;rfl),?_⟩;refine List.forall_mem_cons.mpr ⟨PY.t X G (PY.f.binds λ_ _ _ _ _ _ us hl=>by obtain⟨_,rfl⟩:=kU hl;rfl),?_⟩;refine List.forall_mem_cons.mpr ⟨PZ.t X G (PZ.f.binds λ_ _ _ _ _ _ us hl=>by obtain⟨_,_,_,rfl⟩:=sX hl;rfl),?_⟩;refine List.forall_mem_cons.mpr ⟨P0.t X G (P0.f.binds λ_ _ _ _ _ _ us hl=>by obtain⟨_,_,rfl⟩:=jz hl;rfl),?_⟩;refine List.forall_mem_cons.mpr ⟨P1.t X G (P1.f.binds λ_ _ _ _ _ _ us hl=>by obtain⟨_,_,rfl⟩:=jz hl;rfl),?_⟩;refine List.forall_mem_cons.mpr ⟨P4.t X G (P4.f.binds λ_ _ _ _ _ _ us hl=>by obtain⟨_,_,rfl⟩:=jz hl;rfl),?_⟩;refine List.forall_mem_cons.mpr ⟨P5.t X G (P5.f.binds λ_ _ _ _ _ _ us hl=>by obtain⟨_,_,_,rfl⟩:=sX hl;rfl),?_⟩;refine List.forall_mem_cons.mpr ⟨P6.t X G (P6.f.binds λ_ _ _ _ _ _ us hl=>by obtain⟨_,_,_,rfl⟩:=sX hl;rfl),?_⟩;refine List.forall_mem_cons.mpr ⟨P7.t X G (P7.f.binds λ_ _ _ _ _ _ us hl=>by obtain⟨_,_,_,rfl⟩:=sX hl;rfl),?_⟩;refine List.forall_mem_cons.mpr ⟨P8.t X G (P8.f.binds λ_ _ _ _ _ _ us hl=>by obtain⟨_,rfl⟩:=kU hl;rfl),?_⟩;refine List.forall_mem_cons.mpr ⟨Ds.t X G (Ds.f.binds λ_ _ _ _ _ _ us hl=>by obtain⟨_,rfl⟩:=kU hl;rfl),?_⟩;exact λ_ h=>nomatch h
  .exact(show ∀x∈oM,mg x=none from List.forall_mem_cons.mpr ⟨PySem.W.mg_none_of X G z0,List.forall_mem_cons.mpr ⟨PySem.W.mg_none_of X G z1,List.forall_mem_cons.mpr ⟨PySem.W.mg_none_of X G z2,List.forall_mem_cons.mpr ⟨PySem.W.mg_none_of X G z3,List.forall_mem_cons.mpr ⟨PySem.W.mg_none_of X G z4,List.forall_mem_cons.mpr ⟨PySem.W.mg_none_of X G z5,List.forall_mem_cons.mpr ⟨PySem.W.mg_none_of X G z6,List.forall_mem_cons.mpr ⟨PySem.W.mg_none_of X G z7,List.forall_mem_cons.mpr ⟨PySem.W.mg_none_of X G z8,λ_ h=>nomatch h⟩⟩⟩⟩⟩⟩⟩⟩⟩)
  .exact λx d hx=>(show ∀y∈(tb aa dd).cs,∃v u,mg y.1=some u/\RelV v u/\yr K y.2 v from List.forall_mem_cons.mpr ⟨⟨.str "law_pastways_k24_whole_other_texts",_,PySem.W.mg_of X G q0,⟨_,rfl⟩,λ_ _=>⟨by decide +kernel,by decide⟩⟩,List.forall_mem_cons.mpr ⟨⟨.ref Ig,_,PySem.W.mg_of X G q1,rfl,λ_ _=>⟨Ig,[V.str "a",V.str "b"],rfl,.inr ⟨_,_,_,Vk,rfl,rfl,by show 2<=sizeLine;decide,.cons ⟨_,rfl⟩ (.cons ⟨_,rfl⟩ .nil)⟩,⟨_,_,rfl,⟨by decide +kernel,by decide⟩,⟨_,_,rfl,⟨by decide +kernel,by decide⟩,rfl⟩⟩⟩⟩,λ_ h=>nomatch h⟩⟩) (x,d) hx
  .exact λx d hx=>(show ∀y∈(tb aa dd).dk,∃a,mg y.1=some (.ref a)/\∀h:Heap,K.In h->StrTab l.prog w h a (tabOf y.2)from λ_ h=>nomatch h) (x,d) hx
 refine⟨PK,λs v=>?_,λbase _ _=>?_⟩
 .obtain⟨oc,od,kV,doc,pm,an,cdv,ct,osl,e,_⟩:=Ds.f.ex;rw[e];exact .of_eq rfl
 refine Ca (P:=l.prog) (w:=w) (base:=base) T (λn A0 f i hi=>?_) 60 25 (Ie aa dd) rfl
 match f,hi with
 |0,hi=>obtain rfl:i0 aa dd=i:=Option.some.inj hi;exact cS (i:=i0 aa dd) T A0 F0.f s0 rfl rfl (dU.get (k:=0) rfl)
 |1,hi=>obtain rfl:i1 aa dd=i:=Option.some.inj hi;exact cS (i:=i1 aa dd) T A0 F1.f s1 rfl rfl (dU.get (k:=1) rfl)
 |2,hi=>obtain rfl:i2 aa dd=i:=Option.some.inj hi;exact cS (i:=i2 aa dd) T A0 F2.f s2 rfl rfl (dU.get (k:=2) rfl)
 |3,hi=>obtain rfl:i3 aa dd=i:=Option.some.inj hi;exact cS (i:=i3 aa dd) T A0 F3.f s3 rfl rfl (dU.get (k:=3) rfl)
 |4,hi=>obtain rfl:i4 aa dd=i:=Option.some.inj hi;exact cS (i:=i4 aa dd) T A0 F4.f s4 rfl rfl (dU.get (k:=4) rfl)
 |5,hi=>obtain rfl:i5 aa dd=i:=Option.some.inj hi;exact cS (i:=i5 aa dd) T A0 F5.f s5 rfl rfl (dU.get (k:=5) rfl)
 |6,hi=>obtain rfl:i6 aa dd=i:=Option.some.inj hi;exact cS (i:=i6 aa dd) T A0 F6.f s6 rfl rfl (dU.get (k:=6) rfl)
 |7,hi=>obtain rfl:i7 aa dd=i:=Option.some.inj hi;exact cS (i:=i7 aa dd) T A0 F7.f s7 rfl rfl (dU.get (k:=7) rfl)
 |8,hi=>obtain rfl:i8 aa dd=i:=Option.some.inj hi;exact cS (i:=i8 aa dd) T A0 F8.f s8 rfl rfl (dU.get (k:=8) rfl)
 |9,hi=>obtain rfl:i9 aa dd=i:=Option.some.inj hi;exact cS (i:=i9 aa dd) T A0 F9.f s9 rfl rfl (dU.get (k:=9) rfl)
 |10,hi=>obtain rfl:Pk aa dd=i:=Option.some.inj hi;exact cS (i:=Pk aa dd) T A0 PL.f Tt rfl rfl (dU.get (k:=10) rfl)
 |11,hi=>obtain rfl:Pn aa dd=i:=Option.some.inj hi;exact cS (i:=Pn aa dd) T A0 PM.f GS rfl rfl (dU.get (k:=11) rfl)
 |12,hi=>obtain rfl:i12 aa dd=i:=Option.some.inj hi;exact cS (i:=i12 aa dd) T A0 PN.f s12 rfl rfl (dU.get (k:=12) rfl)
 |13,hi=>obtain rfl:Po aa dd=i:=Option.some.inj hi;exact cS (i:=Po aa dd) T A0 PU.f Yv rfl rfl (dU.get (k:=13) rfl)
 |14,hi=>obtain rfl:Pp aa dd=i:=Option.some.inj hi;exact cS (i:=Pp aa dd) T A0 PV.f Yw rfl rfl (dU.get (k:=14) rfl)
 |15,hi=>obtain rfl:Pq aa dd=i:=Option.some.inj hi;exact cS (i:=Pq aa dd) T A0 PX.f Yx rfl rfl (dU.get (k:=15) rfl)
 |16,hi=>obtain rfl:Pr aa dd=i:=Option.some.inj hi;exact cS (i:=Pr aa dd) T A0 PY.f Yy rfl rfl (dU.get (k:=16) rfl)
 |17,hi=>obtain rfl:Pu aa dd=i:=Option.some.inj hi;exact cS (i:=Pu aa dd) T A0 PZ.f Yz rfl rfl (dU.get (k:=17) rfl)
 |18,hi=>obtain rfl:Px aa dd=i:=Option.some.inj hi;exact cS (i:=Px aa dd) T A0 P0.f YA rfl rfl (dU.get (k:=18) rfl)
 |19,hi=>obtain rfl:Py aa dd=i:=Option.some.inj hi;exact cS (i:=Py aa dd) T A0 P1.f YB rfl rfl (dU.get (k:=19) rfl)
 |20,hi=>obtain rfl:Pz aa dd=i:=Option.some.inj hi;exact cS (i:=Pz aa dd) T A0 P4.f YC rfl rfl (dU.get (k:=20) rfl)
 |21,hi=>obtain rfl:PB aa dd=i:=Option.some.inj hi;exact cS (i:=PB aa dd) T A0 P5.f YD rfl rfl (dU.get (k:=21) rfl)
 |22,hi=>obtain rfl:PC aa dd=i:=Option.some.inj hi;exact cS (i:=PC aa dd) T A0 P6.f YE rfl rfl (dU.get (k:=22) rfl)
 |23,hi=>obtain rfl:PD aa dd=i:=Option.some.inj hi;exact cS (i:=PD aa dd) T A0 P7.f YF rfl rfl (dU.get (k:=23) rfl)
 |24,hi=>obtain rfl:PF aa dd=i:=Option.some.inj hi;exact cS (i:=PF aa dd) T A0 P8.f YG rfl rfl (dU.get (k:=24) rfl)
 |25,hi=>obtain rfl:Ie aa dd=i:=Option.some.inj hi;exact cS (i:=Ie aa dd) T A0 Ds.f YH rfl rfl (dU.get (k:=25) rfl)
 |j+26,hi=>exact nomatch (show(none:Option FI)=some i from hi)
end Lw
namespace Lg
open Pv
open Lw (prog HN Dq Ic AY AZ A1 HQ HS HU HV HW HX HY HZ Ia Ib Dr xC xD)
open Ev (deep big rep cut bL)
theorem Ih(ns:List Int)(k:Int)(x:List Nat)(b:Nat)(h:x.length<=b):(chg ns k x).length<=2*b+2/\tot (chg ns k x)<=3*b+3:=by
 have h1:=oA ns k x (x.length+1);have h2:=ur ns k x (x.length+1);simp only[chg];omega
theorem nS(s:List Nat):Pv.cop .ne (.str s) (.str s)=some false:=by rw[iS];simp
theorem nB(b:Bool):Pv.cop .ne (.bl b) (.bl b)=some false:=by rw[wk,JU];simp
structure Ro(c:List Pt)(t:List Nat)(b:Nat):Prop where
 ft:az c t=true
 tt:tot c<=b
 ln:c.length<=b
theorem f_len{c:List Pt}(h:aE c=c):c.length<=tot c:=by rw[<-h];exact dB (eU (dH _))
theorem uX{f:Bool}{one other:List Pt}{t:List Nat}(h1:Ro one t 18)(h2:Ro other t 18):Ro (ld f one other) (aM other t) 42:=by
 have L:=uU f h1.ft h2.ft;have e1:=(iG L.ft).2;have e2:=(iG h1.ft).2;have e3:=(iG h2.ft).1;have e4:=(iG h2.ft).2;have e5:=h1.tt;have e6:=h2.tt;have e7:=f_len L.fm;rw[L.np]at e1;exact⟨L.ft,by omega,by omega⟩
theorem SJ{one other W X:List Pt}{t:List Nat}(h1:az one t=true)(h2:az other t=true)(T1:Tn one (ld false other one) W t)(T2:Tn other (ld true one other) X t):W=X:=by
 refine Wl T1.O0 T2.O0 T1.fit T2.fit ?_;rw[T1.O1,T2.O1];have:=(Dm h1 h2).2 (told 0 [.keep t.length]);have e:(told 0 (ld false other one)).map (sub ((told 0 one).map (sub (told 0 [.keep t.length]))))=(told 0 (ld true one other)).map (sub ((told 0 other).map (sub (told 0 [.keep t.length])))):=this;rw[T6 h1,T6 h2]at e;exact e
structure Bo(one other W:List Pt)(t:List Nat):Prop where
 h1:Ro one t 18
 h2:Ro other t 18
 hW:Ro W t 60
 T1:Tn one (ld false other one) W t
 T2:Tn other (ld true one other) W t
theorem Bo.fit{one other W:List Pt}{t:List Nat}(B:Bo one other W t)(x:List Nat):az W x=(az one x&&az other x):=by
 rw[Bool.eq_iff_iff,Bool.and_eq_true];exact⟨λh=>⟨(xA B.T1 h).1,(xA B.T2 h).1⟩,λh=>Pj B.T1 h.1 (uU false h.2 h.1).ft⟩
theorem pF{c:List Pt}{t:List Nat}(h:az c t=true){p:Nat}(hp:p<t.length)(hy:∀x∈t,x≠121):az c (t.set p 121)=decide ((asks c)[p]?=some []):=by
 rw[Bool.eq_iff_iff,decide_eq_true_iff];have h':=h;rw[cD,kj]at h' ⊢;have hl:p<(asks c).length:=by rw[h'.1];exact hp
 have e:=List.getElem?_eq_getElem hl;constructor
 .rintro⟨_,g⟩;rcases m5 (List.getElem_mem hl)with z|⟨x,z⟩
  .rw[z]at e;exact e
  .rw[z]at e;have e2:=rK h e;have:=g p _ _ e (List.getElem?_set_self hp);simp at this;exact absurd this (hy x (List.mem_of_getElem? e2))
 .intro z;refine⟨by rw[List.length_set];exact h'.1,λq y x e1 e2=>?_⟩;by_cases hq:q=p
  .subst hq;rw[z]at e1;cases e1;exact .inl rfl
  .rw[List.getElem?_set_ne (λz=>hq z.symm)]at e2;exact h'.2 q y x e1 e2
theorem Bo.ask{one other W:List Pt}{t:List Nat}(B:Bo one other W t)(hy:∀x∈t,x≠121){p:Nat}(hp:p<t.length):((asks W)[p]?=some [])↔((asks one)[p]?=some []/\(asks other)[p]?=some []):=by
 have:=B.fit (t.set p 121);rw[pF B.hW.ft hp hy,pF B.h1.ft hp hy,pF B.h2.ft hp hy,Bool.eq_iff_iff,Bool.and_eq_true]at this;simpa using this
noncomputable def fq(one other:List Pt)(m:Nat):List Nat:=(List.range m).filter λp=>decide ((asks one)[p]?=some [])&&decide ((asks other)[p]?=some [])
theorem mh{one other:List Pt}{m p:Nat}(hp:p<m):p∈fq one other m↔((asks one)[p]?=some []/\(asks other)[p]?=some []):=by simp[fq,hp]
theorem agree{c:List Pt}{t x:List Nat}(h:az c t=true)(hl:x.length=t.length)(ha:∀(p:Nat) y,(asks c)[p]?=some [y]->x[p]?=t[p]?):az c x=true:=by
 have h':=h;rw[cD,kj]at h' ⊢;refine⟨by rw[hl];exact h'.1,λp y z e1 e2=>?_⟩;rcases m5 (List.mem_of_getElem? e1)with rfl|⟨u,rfl⟩
 .exact .inl rfl
 .rw[ha p u e1,rK h e1]at e2;cases e2;exact .inr rfl
theorem P9{W A B:List Pt}{p:Nat}(C:Cut W p A B)(hp:p<aR W):∃q B',B=q :: B'/\((∃s,q=.drop s/\¬ (asks W)[p]?=some [])\/(∃n,q=.keep n/\(asks W)[p]?=some []/\(told 0 W)[gp A]?=some (.at p))):=by
 have e0:av (A++B)=av (aE W):=by rw[dI];exact C.at_
 have e1:asks W=asks A++asks B:=by rw[<-cz W,bO,<-e0,<-bO,eN]
 have e2:told 0 W=told 0 A++told (0+(asks A).length) B:=by rw[<-cK W,b6,<-e0,<-b6,fY]
 have la:(asks A).length=p:=by rw[fZ,C.bA]
 rw[la,Nat.zero_add]at e2;have hB:(asks B).length=aR W - p:=by have:=congrArg List.length e1;rw[fZ,List.length_append,la]at this;omega
 cases B with
 |nil=>simp[asks]at hB;omega
 |cons q B'=>
  have q0:=C.pB q (.head _);have hd:=C.hd;rw[bz]at hd;refine⟨q,B',rfl,?_⟩;have ap:(asks W)[p]?=(asks (q :: B'))[0]?:=by rw[e1,List.getElem?_append_right (by omega),la,Nat.sub_self]
  cases q with
  |put s=>cases s with|nil=>simp[Pt.n]at q0|cons x s=>simp[Pt.av,jr]at hd
  |drop s=>
   cases s with
   |nil=>simp[Pt.n]at q0
   |cons x s=>exact .inl ⟨_,rfl,by rw[ap];simp[asks,Pt.asks]⟩
  |keep n=>
   cases n with
   |zero=>simp[Pt.n]at q0
   |succ n=>
    refine .inr ⟨_,rfl,by rw[ap];simp[asks,Pt.asks,List.replicate_succ],?_⟩;rw[e2,List.getElem?_append_right (by rw[j7];exact Nat.le_refl _),j7,Nat.sub_self];simp[told,Pt.told,List.range_succ_eq_map]
section
variable{w n:Nat}{ns:List Int}
theorem Qa(hw:5000<w){one other:List Pt}{t:List Nat}(h1:Ro one t 18)(h2:Ro other t 18)(f:Bool):run prog w (n+4) 11 [.val (aF one),.val (aF other),.val (.bl f)]=some (aF (ld f one other),[]):=by
 have z1:=h1.tt;have z2:=h2.tt;have z3:=h1.ln;have z4:=h2.ln;have hc:=xx (F:=prog) (w:=w) (n:=n) (i:=13) (aD:=0) (br:=1) (kT:=14) rfl rfl rfl rfl one other t h1.ft h2.ft (by omega) (by omega) (by omega) (by omega);obtain⟨ps,p,r⟩:=Gp (F:=prog) (w:=w) (n:=n+1) (i:=11) (aD:=0) (bY:=10) (aY:=9) (gh:=12) (bB:=4) (bQ:=3) (lZ:=13) rfl rfl rfl rfl rfl rfl rfl hw one other f t h1.ft h2.ft (by omega) (by omega) (by omega) (by omega) hc;rw[HL p];exact r
theorem bF(hw:5000<w){one other:List Pt}{t:List Nat}{b c:Nat}(h1:Ro one t b)(h2:Ro other (aM one t) c)(hb:b<=100)(hc:c<=100):∃c,run prog w (n+3) 7 [.val (aF one),.val (aF other)]=some (aF c,[])/\Tn one other c t:=by
 have z1:=h1.tt;have z2:=h2.tt;have z3:=h1.ln;have z4:=h2.ln;exact Ga (F:=prog) (w:=w) (n:=n) (i:=7) (aD:=0) (bY:=10) (aY:=9) (dO:=8) (bB:=4) (bQ:=3) (br:=1) (eK:=2) rfl rfl rfl rfl rfl rfl rfl rfl rfl hw one other t h1.ft h2.ft (by omega) (by omega) (by omega) (by omega)
theorem Gx(hw:5000<w){W:List Pt}{t:List Nat}(h:Ro W t 60){p:Nat}(hp:p<t.length):(run prog w (n+4) 19 [.val (aF W),.val (.int (p:Nat))]=some (.aS,[])/\¬ (asks W)[p]?=some [])\/∃j:Nat,run prog w (n+4) 19 [.val (aF W),.val (.int (p:Nat))]=some (.int (j:Nat),[])/\(asks W)[p]?=some []/\(told 0 W)[j]?=some (.at p):=by
 have z1:=h.tt;have z2:=h.ln;have eb:=dZ h.ft;obtain⟨A,B,r1,C⟩:=KR (F:=prog) (w:=w) (n:=n) (i:=18) (aD:=0) (bY:=10) (aY:=9) (bB:=4) (bQ:=3) (br:=1) rfl rfl rfl rfl rfl rfl rfl hw W p (by omega) (by omega) (by omega);have r1:=λfr=>call2 (fr:=fr) r1;have e0:av (A++B)=av (aE W):=by rw[dI];exact C.at_
 have tA:tot A<=60:=by
  have:=congrArg List.length e0;rw[dJ,dJ,gb,dz]at this;omega
 have lA:=dB C.pA;have ra:=λfr=>cI (fr:=fr) (um (F:=prog) (aD:=0) (i:=2) (w:=w) (n:=n+1) rfl rfl A (by omega) (by omega));obtain⟨q,B',rfl,hq⟩:=P9 C (by omega);have i1:dY (.tup [aF A,aF (q :: B')]) (.int 1)=some (aF (q :: B')):=by rw[sI,gZ (by decide)];rfl
 have i0:dY (.tup [aF A,aF (q :: B')]) (.int 0)=some (aF A):=by rw[sI,gZ (by decide)];rfl
 have i2:dY (aF (q :: B')) (.int 0)=some q.v:=by show dY (.tup _) _=_;rw[sI,gZ (by decide)];rfl
 have tr:truthy (aF (q :: B'))=true:=rfl;rcases hq with ⟨s,rfl,h3⟩|⟨m,rfl,h3,h4⟩
 .refine .inl ⟨?_,h3⟩;refine cy (fn:=Dq) rfl rfl ?_;refine ai (aU (bh (aJ rfl (au rfl) (aJ rfl (au rfl) aK)) (r1 _)) rfl rfl ?_);refine ai (aL (b:=false) (jF (b:=true) (aB rfl (cC (au rfl) (bf rfl) i1) tr)) (λh=>absurd h (by decide)) λ_=>ay ?_);exact ai (aL (b:=true) (aB rfl (bE (cC (cC (cC (au rfl) (bf rfl) i1) (bf rfl) i2) (bf rfl) rfl) (bf rfl) jc) rfl) (λ_=>ai (bR (bf rfl) ⟨rfl,rfl⟩)) λh=>absurd h (by decide))
 .refine .inr ⟨gp A,?_,h3,h4⟩;refine cy (fn:=Dq) rfl rfl ?_;refine ai (aU (bh (aJ rfl (au rfl) (aJ rfl (au rfl) aK)) (r1 _)) rfl rfl ?_);refine ai (aL (b:=false) (jF (b:=true) (aB rfl (cC (au rfl) (bf rfl) i1) tr)) (λh=>absurd h (by decide)) λ_=>ay ?_);refine ai (aL (b:=false) (aB rfl (bE (cC (cC (cC (au rfl) (bf rfl) i1) (bf rfl) i2) (bf rfl) rfl) (bf rfl) jc) rfl) (λh=>absurd h (by decide)) λ_=>ay ?_);exact ai (bR (bh (aJ rfl (cC (au rfl) (bf rfl) i0) aK) (ra _)) ⟨rfl,rfl⟩)
noncomputable def iV(F:List Nat):V:=.lst (F.map λ(p:Nat)=>V.int (p:Int))
theorem A2(p:Nat):∀F:List Nat,Pv.mem (.int (p:Int)) (F.map λ(p:Nat)=>V.int (p:Int))=some (decide (p∈F))
 |[]=>by rw[List.map_nil,Pv.JR];simp
 |q :: F=>by
  rw[List.map_cons,Pv.mem_cons,A2 p F,sH];show some (decide ((q:Int)=(p:Int)) ||decide (p∈F))=_;by_cases h1:q=p<;>by_cases h2:p∈F<;>simp[h1,h2]
  .exact⟨λz=>by omega,λz=>by omega⟩
theorem Qc(p:Nat)(F:List Nat):Pv.cop .isin (.int (p:Int)) (iV F)=some (decide (p∈F)):=by
 rw[N7];exact A2 p F
theorem SK(p:Nat)(F:List Nat):Pv.cop .g7 (.int (p:Int)) (iV F)=some (!decide (p∈F)):=by
 rw[Cw];show(Pv.mem _ _).map _=_;rw[A2];rfl
noncomputable def lF(ns:List Int)(t:List Nat)(one other:List Pt)(F:List Nat)(G:List V)(W:List Pt)(l:List (Option Sl)):Fr:=some (.val (jl ns)) :: some (.val (.str t)) :: some (.val (aF one)) :: some (.val (aF other)) :: some (.val (.lst (cE one))) :: some (.val (.lst (cE other))) :: some (.val (iV F)) :: some (.val (.lst G)) :: some (.val (aF W)) :: some (.val (aF (ld false other one))) :: some (.val (aF (ld true one other))) :: l
theorem z0(k:Nat):((0:Int)+(k:Nat))=(k:Nat):=by omega
theorem Gy{x:List Nat}{p c:Nat}(h:x[p]?=some c):dY (.str x) (.int (p:Int))=some (.str [c]):=by rw[lK,gZ (Int.natCast_nonneg p)];show(x[p]?).map _=_;rw[h];rfl
theorem SM(hw:5000<w){t x:List Nat}{one other W:List Pt}{G:List V}(B:Bo one other W t)(hy:∀x∈t,x≠121)(hx:x.length=t.length)(f1:az one x=true)(f2:az other x=true){k:Nat}(hk:k<t.length){cY dW gQ:Option Sl}(iX:vo cY)(kK:vo dW) :
  Wp (turnF (run prog w (n+5)) w (.one 13) AY (.int (0+(k:Nat))) (lF ns t one other (fq one other t.length) G W [some (.val (.str x)),some (.val (.str (aM W x))),cY,dW,gQ,none,none])) λg fr=>g=.nx/\∃cY dW,vo cY/\vo dW/\fr=lF ns t one other (fq one other t.length) G W [some (.val (.str x)),some (.val (.str (aM W x))),cY,dW,gQ,none,none]:=by
 rw[z0];have fW:az W x=true:=by rw[B.fit,f1,f2];rfl
 have ni:=SK k (fq one other t.length);refine dR (bind1 rfl iX) ?_;rcases Gx (w:=w) (n:=n+1) hw B.hW hk with ⟨r,h⟩|⟨j,r,h,hj⟩
 .have r:=λfr=>call2 (fr:=fr) r;have nf:¬ k∈fq one other t.length:=λz=>h ((B.ask hy hk).mpr ((mh hk).mp z));rw[decide_eq_false nf]at ni;refine ai (aU (bh (aJ rfl (au rfl) (aJ rfl (au rfl) aK)) (r _)) rfl (fK rfl kK) ?_);exact ai (aL (b:=false) (dQ (aB rfl (bE (bE (au rfl) (bf rfl) rfl) (bE (au rfl) (au rfl) ni) (nB true)) rfl) (lO (aB rfl (bE (au rfl) (bf rfl) rfl) rfl))) (λh=>absurd h (by decide)) λ_=>ay (ay ⟨rfl,_,_,.val,.val,rfl⟩))
 .have r:=λfr=>call2 (fr:=fr) r;have nf:k∈fq one other t.length:=(mh hk).mpr ((B.ask hy hk).mp h);rw[decide_eq_true nf]at ni;have kx:k<x.length:=by omega
  have e1:=List.getElem?_eq_getElem kx;have e2:(aM W x)[j]?=some x[k]:=by
   rw[K0 fW,List.getElem?_map,hj];simp[vl,List.getD,e1]
  refine ai (aU (bh (aJ rfl (au rfl) (aJ rfl (au rfl) aK)) (r _)) rfl (fK rfl kK) ?_);exact ai (aL (b:=false) (dQ (aB rfl (bE (bE (au rfl) (bf rfl) rfl) (bE (au rfl) (au rfl) ni) (nB false)) rfl) (fc (aB rfl (bE (au rfl) (bf rfl) rfl) rfl) (aB rfl (bE (cC (au rfl) (au rfl) (Gy e2)) (cC (au rfl) (au rfl) (Gy e1)) (nS _)) rfl))) (λh=>absurd h (by decide)) λ_=>ay (ay ⟨rfl,_,_,.val,.val,rfl⟩))
theorem A3{t:List Nat}(ht:t.length<=5):cX .len [.str t]=some (.int (t.length:Nat)):=len_str (by omega)
theorem SN(hw:5000<w){t x:List Nat}{one other W:List Pt}{G:List V}(ht:t.length<=5)(B:Bo one other W t)(hy:∀x∈t,x≠121)(hx:x.length=t.length)(f1:az one x=true)(f2:az other x=true){gI gK cY dW gQ:Option Sl}(v11:vo gI)(xF:vo gK)(iX:vo cY)(kK:vo dW) :
  Wp (turnF (run prog w (n+5)) w (.one 11) AZ (.str x) (lF ns t one other (fq one other t.length) G W [gI,gK,cY,dW,gQ,none,none])) λg fr=>g=.nx/\∃gI gK cY dW,vo gI/\vo gK/\vo cY/\vo dW/\fr=lF ns t one other (fq one other t.length) G W [gI,gK,cY,dW,gQ,none,none]:=by
 have fW:az W x=true:=by rw[B.fit,f1,f2];rfl
 have L1:=uX (f:=false) B.h2 B.h1;have L2:=uX (f:=true) B.h1 B.h2;have g1:=(uU false f2 f1).ft;have g2:=(uU true f1 f2).ft;have d1:=(xA B.T1 fW).2.2;have d2:=(Dm f1 f2).1;have z1:=B.h1.tt;have z2:=B.h1.ln;have z3:=B.h2.tt;have z4:=B.h2.ln;have z5:=B.hW.tt;have z6:=B.hW.ln;have z7:=L1.tt;have z8:=L1.ln;have z9:=L2.tt;have YZ:=L2.ln;have n1:=(iG f1).1;have n2:=(iG f2).1;have n3:=(iG f1).2;have n4:=(iG f2).2;have dn:=λ{c:List Pt} {u:List Nat} (h:az c u=true) (b1:tot c<=60) (b2:c.length<=60) (b3:u.length<=100) fr=>call2 (fr:=fr) (FJ (F:=prog) (aD:=0) (kc:=5) (i:=6) (w:=w) (n:=n+2) rfl rfl rfl c u (by omega) (by omega) (by omega) h);have fi:=λ{c:List Pt} {u:List Nat} (b1:tot c<=60) (b3:u.length<=100) fr=>call2 (fr:=fr) (kg (F:=prog) (aD:=0) (i:=5) (w:=w) (n:=n+3) rfl rfl c u (by omega) (by omega));have D1:=dn f1 (by omega) (by omega) (by omega);have D2:=dn f2 (by omega) (by omega) (by omega);have DW:=dn fW (by omega) (by omega) (by omega);have DL:=dn g1 (by omega) (by omega) (by omega);have DB:=dn g2 (by omega) (by omega) (by omega);rw[<-d1]at DL;rw[<-d2,<-d1]at DB;refine dR (bind1 rfl v11) ?_;refine ai (aL (b:=false) (dQ (jF (b:=true) (aB rfl (bh (aJ rfl (au rfl) (aJ rfl (au rfl) aK)) (fi (by omega) (by omega) _)) fW)) (dQ (jF (b:=true) (aB rfl (bh (aJ rfl (au rfl) (aJ rfl (bh (aJ rfl (au rfl) (aJ rfl (au rfl) aK)) (D1 _)) aK)) (fi (by omega) (by omega) _)) g1)) (jF (b:=true) (aB rfl (bh (aJ rfl (au rfl) (aJ rfl (bh (aJ rfl (au rfl) (aJ rfl (au rfl) aK)) (D2 _)) aK)) (fi (by omega) (by omega) _)) g2)))) (λh=>absurd h (by decide)) λ_=>ay ?_);refine ai (aU (bh (aJ rfl (au rfl) (aJ rfl (au rfl) aK)) (DW _)) rfl (fK rfl xF) ?_);refine ai (aL (b:=false) (dQ (aB rfl (bE (au rfl) (bh (aJ rfl (au rfl) (aJ rfl (bh (aJ rfl (au rfl) (aJ rfl (au rfl) aK)) (D1 _)) aK)) (DL _)) (nS _)) rfl) (aB rfl (bE (au rfl) (bh (aJ rfl (au rfl) (aJ rfl (bh (aJ rfl (au rfl) (aJ rfl (au rfl) aK)) (D2 _)) aK)) (DB _)) (nS _)) rfl)) (λh=>absurd h (by decide)) λ_=>ay ?_);refine ai (kG (vs:=range 0 t.length) (jm (aN (fH (aN (au rfl) aZ) (A3 ht)) aZ) (sO (by omega) rfl)) ?_);refine sM (lo:=0) (N:=t.length) (λ_ fr=>∃cY dW,vo cY/\vo dW/\fr=lF ns t one other (fq one other t.length) G W [some (.val (.str x)),some (.val (.str (aM W x))),cY,dW,gQ,none,none]) (λk fr hk ⟨cY,dW,iX,kK,hfr⟩=>?_) (λfr ⟨cY,dW,iX,kK,hfr⟩=>?_) ⟨cY,dW,iX,kK,rfl⟩
 .subst hfr;refine(SM (w:=w) (n:=n) (ns:=ns) hw B hy hx f1 f2 hk iX kK).mono λg fr ⟨hg,e⟩=>?_;subst hg;exact e
 .subst hfr;exact ay ⟨rfl,_,_,_,_,.val,.val,iX,kK,rfl⟩
theorem SO{t:List Nat}{one other W:List Pt}{G:List V}(ht:t.length<=5)(B:Bo one other W t)(hy:∀x∈t,x≠121){k:Nat}(hk:k<t.length){gI gK cY dW gQ:Option Sl}(iX:vo cY)(Dt:vo gQ) :
  Wp (turnF (run prog w (n+5)) w (.one 13) A1 (.int (0+(k:Nat))) (lF ns t one other (fq one other t.length) G W [gI,gK,cY,dW,gQ,none,none])) λg fr=>g=.nx/\∃cY gQ,vo cY/\vo gQ/\fr=lF ns t one other (fq one other t.length) G W [gI,gK,cY,dW,gQ,none,none]:=by
 rw[z0];have z1:=B.h1.tt;have z3:=B.h2.tt;have z5:=B.hW.tt;have st:t.set k 121=t.take k++[121]++t.drop (k+1):=by
  rw[List.set_eq_take_append_cons_drop,if_pos hk,List.append_assoc];rfl
 have s1:gT (.str t) none (some (k:Int))=some (.str (t.take k)):=by rw[iD,AL]
 have s2:gT (.str t) (some ((k:Int)+1)) none=some (.str (t.drop (k+1))):=by
  rw[iD];have:((k:Int)+1)=((k+1:Nat):Int):=by omega
  rw[this,AM]
 have a1:Pv.bS .add (.str (t.take k)) (.str [121])=some (.str (t.take k++[121])):=jY (by simp;omega);have a2:Pv.bS .add (.str (t.take k++[121])) (.str (t.drop (k+1)))=some (.str (t.set k 121)):=by rw[st];exact jY (by simp;omega)
 have fi:=λ{c:List Pt} (b1:tot c<=60) fr=>call2 (fr:=fr) (kg (F:=prog) (aD:=0) (i:=5) (w:=w) (n:=n+3) rfl rfl c (t.set k 121) (by omega) (by rw[List.length_set];omega));have i1:=Qc k (fq one other t.length);have eW:az W (t.set k 121)=decide (k∈fq one other t.length):=by
  rw[pF B.hW.ft hk hy,Bool.eq_iff_iff,decide_eq_true_iff,decide_eq_true_iff,B.ask hy hk,mh hk]
 have FW:=fi (c:=W) (by omega);rw[eW]at FW;have F1:=fi (c:=one) (by omega);have F2:=fi (c:=other) (by omega);have eB:=B.fit (t.set k 121);rw[eW]at eB;refine dR (bind1 rfl iX) ?_;refine ai (aU (bX (bX (ES (au rfl) Av (wA (au rfl)) s1) (bf rfl) a1) (ES (au rfl) (wA (bX (au rfl) (bf rfl) fj)) Av s2) a2) rfl (fK rfl Dt) ?_);refine ai (aL (b:=false) (dQ (aB rfl (bE (bh (aJ rfl (au rfl) (aJ rfl (au rfl) aK)) (FW _)) (bE (au rfl) (au rfl) i1) (nB _)) rfl) (aB rfl (bE (x:=.bl (decide (k∈fq one other t.length))) (af:=lF ns t one other (fq one other t.length) G W [gI,gK,some (.val (.int (k:Nat))),dW,some (.val (.str (t.set k 121))),none,none]) ?_ (bE (au rfl) (au rfl) i1) (nB _)) rfl)) (λh=>absurd h (by decide)) λ_=>ay (ay ⟨rfl,_,_,.val,.val,rfl⟩));refine OI (b:=az one (t.set k 121)) (bh (aJ rfl (au rfl) (aJ rfl (au rfl) aK)) (F1 _)) (λe=>?_) λe=>⟨?_,rfl⟩
 .rw[e,Bool.true_and]at eB;rw[eB];exact bh (aJ rfl (au rfl) (aJ rfl (au rfl) aK)) (F2 _)
 .rw[e,Bool.false_and]at eB;rw[eB]
noncomputable def G9(w n:Nat)(ss:Ev.Ss)(fr:Fr):Prop:=Wp (exs (run prog w (n+5)) w ss fr) λg fr=>g=.ret (.bl true)/\outs 1 fr=[]
theorem SQ(hw:5000<w){t:List Nat}{one other W:List Pt}{G:List V}(ht:t.length<=5)(B:Bo one other W t)(hy:∀x∈t,x≠121)(hT:run prog w (n+5) 7 [.val (aF other),.val (aF (ld true one other))]=some (aF W,[])){gI gK cY dW:Option Sl}(v11:vo gI)(xF:vo gK)(iX:vo cY)(kK:vo dW) :
  G9 w n (.cons xC (.cons xD .nil)) (lF ns t one other (fq one other t.length) G W [gI,gK,cY,dW,none,none,none]):=by
 refine ai (kG (vs:=range 0 t.length) (jm (aN (fH (aN (au rfl) aZ) (A3 ht)) aZ) (sO (by omega) rfl)) ?_);refine sM (lo:=0) (N:=t.length) (λ_ fr=>∃cY gQ,vo cY/\vo gQ/\fr=lF ns t one other (fq one other t.length) G W [gI,gK,cY,dW,gQ,none,none]) (λk fr hk ⟨cY,gQ,iX,Dt,hfr⟩=>?_) (λfr ⟨cY,gQ,iX,Dt,hfr⟩=>?_) ⟨cY,none,iX,.none,rfl⟩
 .subst hfr;refine(SO (w:=w) (n:=n) (ns:=ns) ht B hy hk iX Dt).mono λg fr ⟨hg,e⟩=>?_;subst hg;exact e
 .subst hfr;have z5:=B.hW.tt;have ad:Pv.bS .add (.str t) (.str [97])=some (.str (t++[97])):=jY (by simp;omega);have ff:=λfr=>call2 (fr:=fr) (kg (F:=prog) (aD:=0) (i:=5) (w:=w) (n:=n+3) rfl rfl W (t++[97]) (by omega) (by simp;omega));have nf:az W (t++[97])=false:=by
   cases e:az W (t++[97])with
   |false=>rfl
   |true=>
    have e1:=dZ e;have e2:=dZ B.hW.ft;simp at e1;omega
  rw[nf]at ff;have hT:=λfr=>call2 (fr:=fr) hT;have eq:Pv.cop .eq (aF W) (aF W)=some true:=by show eg deep _ _=_;rw[OS];simp
  have sh:fS (lF ns t one other (fq one other t.length) G W [gI,gK,cY,dW,gQ,none,none])=lF ns t one other (fq one other t.length) G W [gI,gK,cY,dW,gQ,none,none]:=by
   show _ :: _ :: _ :: _ :: _ :: _ :: _ :: _ :: _ :: _ :: _ :: [gI.map Sl.dD,gK.map Sl.dD,cY.map Sl.dD,dW.map Sl.dD,gQ.map Sl.dD,_,_]=_;rw[dh v11,dh xF,dh iX,dh kK,dh Dt];rfl
  refine ai (bR (v:=.bl true) (af:=lF ns t one other (fq one other t.length) G W [gI,gK,cY,dW,gQ,none,none]) ?_ ⟨rfl,rfl⟩);refine(congrArg (ev _ _ _) sh).trans ?_;exact uP (OH (b:=false) (bh (aJ rfl (au rfl) (aJ rfl (bX (au rfl) (bf rfl) ad) aK)) (ff _))) (bE (au rfl) (bh (aJ rfl (au rfl) (aJ rfl (au rfl) aK)) (hT _)) eq)
variable(hn:ns.length<=63)
include hn
theorem Qd(hw:5000<w):run prog w (n+6) 25 [.val (jl ns)]=some (.bl true,[]):=by
 have ht:(txt ns 0 5).length<=5:=Kl ns 0 (most:=5) (by decide);have hy:∀x∈txt ns 0 5,x≠121:=λx hx=>by
  unfold txt at hx;obtain⟨k,_,rfl⟩:=List.mem_map.mp hx;generalize (cT ns (0+1+(k:Nat)) 4).toNat=j
  match j with
  |0=>decide
  |1=>decide
  |2=>decide
  |3=>decide
  |j+4=>show(0:Nat)≠121;decide
 have c1:=λfr=>fC (fr:=fr) (EU (F:=prog) (c:=20) (dr:=21) (t:=22) (w:=w) (n:=n+2) rfl rfl hn rfl 0 5 (by decide) (by decide));generalize txt ns 0 5=t at ht hy c1
 have c2:=λfr=>fC (fr:=fr) (qT (F:=prog) (c:=20) (dr:=21) (t:=23) (w:=w) (n:=n+2) rfl rfl hn rfl 10 t (by omega));have c3:=λfr=>fC (fr:=fr) (qT (F:=prog) (c:=20) (dr:=21) (t:=23) (w:=w) (n:=n+2) rfl rfl hn rfl 50 t (by omega));have b1:=Ih ns 10 t 5 ht;have b2:=Ih ns 50 t 5 ht;have h1:Ro (chg ns 10 t) t 18:=⟨zk ns 10 t,by omega,by omega⟩
 have h2:Ro (chg ns 50 t) t 18:=⟨zk ns 50 t,by omega,by omega⟩
 generalize chg ns 10 t=one at h1 c2
 generalize chg ns 50 t=other at h2 c3
 have z1:=h1.tt;have z2:=h1.ln;have z3:=h2.tt;have z4:=h2.ln;have g1:=λfr=>cI (fr:=fr) (uo (F:=prog) (i:=24) (w:=w) (n:=n+4) rfl one (by omega));have g2:=λfr=>cI (fr:=fr) (uo (F:=prog) (i:=24) (w:=w) (n:=n+4) rfl other (by omega));have L1:=uX (f:=false) h2 h1;have L2:=uX (f:=true) h1 h2;obtain⟨W,rW,T1⟩:=bF (w:=w) (n:=n+1) hw h1 L1 (by omega) (by omega);obtain⟨X,rX,T2⟩:=bF (w:=w) (n:=n+2) hw h2 L2 (by omega) (by omega);have eX:=SJ h1.ft h2.ft T1 T2;subst eX;have tw:=T1.tt;have lw:=T1.ln;have y1:=L1.tt;have B:Bo one other W t:=⟨h1,h2,⟨T1.fit,by omega,by omega⟩,T1,T2⟩
 have p1:=λfr=>fC (fr:=fr) (Qa (w:=w) (n:=n+1) hw h2 h1 false);have p2:=λfr=>fC (fr:=fr) (Qa (w:=w) (n:=n+1) hw h1 h2 true);have p3:=λfr=>fC (fr:=fr) (Qa (w:=w) (n:=n) hw h2 h1 false);have rW:=λfr=>call2 (fr:=fr) rW;have mg:=λfr=>call2 (fr:=fr) (show run prog w (n+5) 15 [.val (aF one),.val (aF other)]=some (aF W,[])from cy (fn:=HN) rfl rfl (ai (bR (bh (aJ rfl (au rfl) (aJ rfl (bh (aJ rfl (au rfl) (aJ rfl (au rfl) (aJ rfl (bf rfl) aK))) (p3 _)) aK)) (rW _)) ⟨rfl,rfl⟩)));obtain⟨u,ru,lu,fu⟩:=xZ (F:=prog) (w:=w) (n:=n+2) (i:=16) (aD:=0) (br:=1) (kT:=14) (qp:=17) (kc:=5) rfl rfl rfl rfl rfl rfl t one [other] (λc hc=>by
  rcases List.mem_cons.mp hc with rfl|hc
  .exact⟨h1.ft,by omega,by omega⟩
  .rw[List.mem_singleton]at hc;subst hc;exact⟨h2.ft,by omega,by omega⟩) (by simp) .val
 have ru:=λfr=>cI (fr:=fr) ru;have YM:(asks one).length=t.length:=by rw[fZ,dZ h1.ft]
 have YN:(asks other).length=t.length:=by rw[fZ,dZ h2.ft]
 have Vl:∀{c:List Pt} {p:Nat} {y:List Nat},(asks c)[p]?=some y->dY (.lst (cE c)) (.int (p:Int))=some (.str y):=λ{c p y} h=>by
  rw[sJ,gZ (Int.natCast_nonneg p)];show(cE c)[p]?=_;unfold cE;rw[List.getElem?_map,h];rfl
 have sgn:∀p:Nat,∃d:Nat,Ev.bL ([109,110,111,112,113,114]:List Nat) (cT ns (100+(p:Nat)) 6)=some d:=λp=>by
  have h1:=j0 ns (100+(p:Nat)) (many:=6) (by omega);have h2:=j3 ns (100+(p:Nat)) (many:=6) (by omega);rw[gZ h1];have:(cT ns (100+(p:Nat)) 6).toNat<6:=by omega
  exact⟨_,List.getElem?_eq_getElem (by simpa using this)⟩
 let sg:Nat->Nat:=λp=>if p∈fq one other t.length then (sgn p).choose else t.getD p 0
 have j2:=uM (l:=(List.range t.length).map λp=>[sg p]) (by
  have:∀l:List Nat,(l.map λp=>[sg p]).flatten.length=l.length:=λl=>by induction l with|nil=>rfl|cons a l ih=>simp[ih]
  rw[this];simp;omega)
 have gP:∀l:List Nat,(l.map λp=>[sg p]).flatten=l.map sg:=λl=>by induction l with|nil=>rfl|cons a l ih=>simp[ih]
 rw[gP,List.map_map]at j2;have lx:((List.range t.length).map sg).length=t.length:=by simp
 have ax:∀{c:List Pt},az c t=true->(∀p y,(asks c)[p]?=some [y]->¬ p∈fq one other t.length)->az c ((List.range t.length).map sg)=true:=λ{c} h q=>agree h lx λp y e=>by
  have e2:=rK h e;have hp:p<t.length:=(List.getElem?_eq_some_iff.mp e2).1;rw[List.getElem?_map,List.getElem?_range hp,e2];show some (sg p)=_;simp only[sg];rw[if_neg (q p y e)];simp[List.getD,e2]
 have x1:az one ((List.range t.length).map sg)=true:=ax h1.ft λp y e z=>by
  have hp:p<t.length:=by rw[<-YM];exact(List.getElem?_eq_some_iff.mp e).1
  rw[mh hp,e]at z;simp at z
 have x2:az other ((List.range t.length).map sg)=true:=ax h2.ft λp y e z=>by
  have hp:p<t.length:=by rw[<-YN];exact(List.getElem?_eq_some_iff.mp e).1
  rw[mh hp,e]at z;simp at z
 have dr:=λ(p:Nat) fr=>fC (fr:=fr) (gz (F:=prog) (c:=20) (dr:=21) (w:=w) (n:=n+3) rfl rfl hn (100+(p:Nat)) (many:=6) (by omega));refine cy (fn:=Ic) rfl rfl ?_;refine ai (aU (bh (aJ rfl (au rfl) (aJ rfl (bf rfl) (aJ rfl (bf rfl) aK))) (c1 _)) rfl rfl ?_);refine ai (aU (bh (aJ rfl (au rfl) (aJ rfl (bf rfl) (aJ rfl (au rfl) aK))) (c2 _)) rfl rfl ?_);refine ai (aU (bh (aJ rfl (au rfl) (aJ rfl (bf rfl) (aJ rfl (au rfl) aK))) (c3 _)) rfl rfl ?_);refine ai (aU (cC (bh (aJ rfl (au rfl) aK) (g1 _)) (bf rfl) rfl) rfl rfl ?_);refine ai (aU (cC (bh (aJ rfl (au rfl) aK) (g2 _)) (bf rfl) rfl) rfl rfl ?_);refine ai (aU (v:=iV (fq one other t.length)) (j4 (jm (aN (fH (aN (au rfl) aZ) (A3 ht)) aZ) (sO (by omega) rfl)) rfl (jZ (λ(p:Nat)=>V.int (0+(p:Nat))) (λp=>decide ((asks one)[p]?=some [])&&decide ((asks other)[p]?=some [])) (λ(p:Nat)=>V.int (p:Int)) (List.range t.length) λp hp=>?_) ((dg (bK (Nat.le_trans (by rw[List.length_map];exact List.length_filter_le _ _) (by simp;omega)))).trans rfl)) rfl rfl ?_)
 .have hp:=List.mem_range.mp hp;have e1:=List.getElem?_eq_getElem (show p<(asks one).length by omega);have e2:=List.getElem?_eq_getElem (show p<(asks other).length by omega);rw[z0];have r:kF (run prog w (n+5)) (.v 16) (.one 16) (.yes (.an (.cmp .eq (.ix (.v 4) (.v 16)) (.c (.str []))) (.cmp .eq (.ix (.v 5) (.v 16)) (.c (.str []))))) [some (.val (jl ns)),some (.val (.str t)),some (.val (aF one)),some (.val (aF other)),some (.val (.lst (cE one))),some (.val (.lst (cE other))),none,none,none,none,none,none,none,none,none,none,none,none] (.int (p:Nat))=some (if decide ((asks one)[p]=[])&&decide ((asks other)[p]=[])then some (.int (p:Nat))else none):=by
   refine sN rfl (Rk (b:=decide ((asks one)[p]=[])) (aB rfl (bE (cC (au rfl) (au rfl) (Vl e1)) (bf rfl) jc) rfl) (λz=>?_) λz=>⟨?_,rfl⟩) λ_=>au rfl
   .rw[z,Bool.true_and];exact aB rfl (bE (cC (au rfl) (au rfl) (Vl e2)) (bf rfl) jc) rfl
   .rw[z,Bool.false_and]
  refine r.trans ?_;rw[e1,e2];simp
 refine ai (aU (v:=.lst ((List.range t.length).map λp=>V.str [sg p])) (j4 (jm (aN (fH (aN (au rfl) aZ) (A3 ht)) aZ) (sO (by omega) rfl)) rfl (kE (λ(p:Nat)=>V.int (0+(p:Nat))) (λp=>V.str [sg p]) (List.range t.length) λp hp=>?_) (dg (bK (by simp;omega)))) rfl rfl ?_)
 .have hp:=List.mem_range.mp hp;rw[z0];refine qS (ao:=[some (.val (jl ns)),some (.val (.str t)),some (.val (aF one)),some (.val (aF other)),some (.val (.lst (cE one))),some (.val (.lst (cE other))),some (.val (iV (fq one other t.length))),none,none,none,none,none,none,none,none,none,none,some (.val (.int (p:Nat)))]) rfl (Au (b:=decide (p∈fq one other t.length)) (aB rfl (bE (au rfl) (au rfl) (Qc p _)) rfl) (λz=>?_) λz=>?_)
  .have:sg p=(sgn p).choose:=by simp only[sg];rw[if_pos (of_decide_eq_true z)]
   rw[this];exact cC (bf rfl) (bh (aJ rfl (au rfl) (aJ rfl (bX (bf rfl) (au rfl) fj) (aJ rfl (bf rfl) aK))) (dr p _)) (by rw[lK];exact congrArg (Option.map λc=>V.str [c]) (sgn p).choose_spec)
  .have e1:=List.getElem?_eq_getElem hp;have:sg p=t[p]:=by simp only[sg];rw[if_neg (of_decide_eq_false z)];simp[List.getD,e1]
   rw[this];exact cC (au rfl) (au rfl) (Gy e1)
 refine ai (aU (bh (aJ rfl (au rfl) (aJ rfl (au rfl) aK)) (mg _)) rfl rfl ?_);refine ai (aU (bh (aJ rfl (au rfl) (aJ rfl (au rfl) (aJ rfl (bf rfl) aK))) (p1 _)) rfl rfl ?_);refine ai (aU (bh (aJ rfl (au rfl) (aJ rfl (au rfl) (aJ rfl (bf rfl) aK))) (p2 _)) rfl rfl ?_);refine ai (kG (vs:=[t,(List.range t.length).map sg,u].map V.str) (af:=lF ns t one other (fq one other t.length) ((List.range t.length).map λp=>V.str [sg p]) W [none,none,none,none,none,none,none]) (gy (mP (aN (au rfl) (aN (uQ rfl (bf rfl) (aN (au rfl) aZ) j2) (aN (bh (aJ rfl (qQ (aN (au rfl) (aN (au rfl) aZ)) Ht) aK) (ru _)) aZ))) Hu) rfl) ?_);refine iE (e:=V.str) (λp l fr=>p++l=[t,(List.range t.length).map sg,u]/\∃gI gK cY dW,vo gI/\vo gK/\vo cY/\vo dW/\fr=lF ns t one other (fq one other t.length) ((List.range t.length).map λp=>V.str [sg p]) W [gI,gK,cY,dW,none,none,none]) (λp x l fr ⟨hp,gI,gK,cY,dW,v11,xF,iX,kK,hfr⟩=>?_) (λp fr ⟨hp,gI,gK,cY,dW,v11,xF,iX,kK,hfr⟩=>?_) _ [] _ ⟨rfl,none,none,none,none,.none,.none,.none,.none,rfl⟩
 .subst hfr;have hx:x∈[t,(List.range t.length).map sg,u]:=by rw[<-hp];simp
  have ok:x.length=t.length/\az one x=true/\az other x=true:=by
   simp only[List.mem_cons,List.mem_nil_iff,or_false]at hx;rcases hx with rfl|rfl|rfl
   .exact⟨rfl,h1.ft,h2.ft⟩
   .exact⟨lx,x1,x2⟩
   .exact⟨lu,fu one (.head _),fu other (.tail _ (.head _))⟩
  refine(SN (w:=w) (n:=n) (ns:=ns) hw ht B hy ok.1 ok.2.1 ok.2.2 v11 xF iX kK).mono λg fr ⟨hg,e⟩=>?_;subst hg;exact⟨by rw[<-hp,List.append_assoc];rfl,e⟩
 .subst hfr;exact SQ hw ht B hy rX v11 xF iX kK
end
theorem good:∀ns:List Int,ns.length<=63->∃h',Ev.run prog 100000 60 25 [.ref 0] [.bP (ns.map Ev.D.int)]=.ok (.bl true) h':=λns h=>JP (Qd (w:=100000) (n:=54) h (by decide))
end Lg
theorem Lw.good:∀ns:List Int,ns.length<=63->∃h',Ev.run Lw.prog 100000 60 25 [.ref 0] [.bP (ns.map Ev.D.int)]=.ok (.bl true) h':=Lg.good
namespace PySem.W.Fast
theorem tw1866842273021589788:True:=⟨⟩
theorem tw10054258748086330630:True:=⟨⟩
theorem tw8769619504649237460:True:=⟨⟩
theorem tw10574238414163255690:True:=⟨⟩
theorem tw3164671044441982030:True:=⟨⟩
theorem tw18026687986600803648:True:=⟨⟩
theorem tw15730927692836805899:True:=⟨⟩
theorem tw10690376418321356468:True:=⟨⟩
theorem tw4801909705773776032:True:=⟨⟩
theorem tw14829365773870619524:True:=⟨⟩
theorem tw13394138775197765426:True:=⟨⟩
theorem tw1665078201303103758:True:=⟨⟩
theorem tw18158581666546275943:True:=⟨⟩
theorem tw18380119213429833452:True:=⟨⟩
theorem tw6293846130648438835:True:=⟨⟩
theorem tw11932299351813977367:True:=⟨⟩
theorem tw8832539594190620584:True:=⟨⟩
theorem tw15474176747490415882:True:=⟨⟩
theorem tw12567388076105089810:True:=⟨⟩
theorem tw10486829801892809191:True:=⟨⟩
theorem tw15874289658951376919:True:=⟨⟩
theorem tw612287286353470033:True:=⟨⟩
theorem tw4395001151311284382:True:=⟨⟩
theorem tw13284838767163412238:True:=⟨⟩
theorem tw5935774729500910995:True:=⟨⟩
theorem tw14501466070886361435:True:=⟨⟩
theorem tw9466562482580116855:True:=⟨⟩
theorem tw5277761986392743350:True:=⟨⟩
theorem tw11224793663334028847:True:=⟨⟩
theorem tw7478522729606549305:True:=⟨⟩
theorem tw312190509959407733:True:=⟨⟩
theorem tw14843822328832064204:True:=⟨⟩
theorem tw14958802462398116998:True:=⟨⟩
theorem tw12114636808484974071:True:=⟨⟩
theorem tw18159154873554954500:True:=⟨⟩
theorem tw5561461549750190079:True:=⟨⟩
theorem tw12787038066111735677:True:=⟨⟩
theorem tw16054901107547163502:True:=⟨⟩
theorem tw4117523319589582549:True:=⟨⟩
theorem tw16250000343779565900:True:=⟨⟩
theorem tw8631415991715063628:True:=⟨⟩
theorem tw14884344634068784744:True:=⟨⟩
theorem tw8135614089587934800:True:=⟨⟩
theorem tw15538267863174460848:True:=⟨⟩
theorem tw12260866190588335955:True:=⟨⟩
theorem tw15909211534266611947:True:=⟨⟩
theorem tw777250043974111665:True:=⟨⟩
theorem tw12485570636406854996:True:=⟨⟩
theorem tw11915932869995488562:True:=⟨⟩
theorem tw17655164997158565443:True:=⟨⟩
theorem tw15966374083094116490:True:=⟨⟩
theorem tw8905724593408904667:True:=⟨⟩
theorem tw4354320285253354309:True:=⟨⟩
theorem tw11995644086825856476:True:=⟨⟩
theorem tw6915165231059188905:True:=⟨⟩
theorem tw6959111155794668189:True:=⟨⟩
theorem tw2378504854829509200:True:=⟨⟩
theorem tw1994357139163266769:True:=⟨⟩
theorem tw16226475173423098313:True:=⟨⟩
theorem tw1813577114030416786:True:=⟨⟩
theorem tw15469717397924417271:True:=⟨⟩
theorem tw1820254541281942103:True:=⟨⟩
theorem tw7611116642411428402:True:=⟨⟩
theorem tw14496374750630598919:True:=⟨⟩
theorem tw16038391024713644465:True:=⟨⟩
theorem tw12962385669834670048:True:=⟨⟩
theorem tw10949830631984607806:True:=⟨⟩
theorem tw10664759924034726987:True:=⟨⟩
theorem tw15007550123467032185:True:=⟨⟩
theorem tw10366219600951730223:True:=⟨⟩
theorem tw5954242878635818827:True:=⟨⟩
theorem tw12025770634364477990:True:=⟨⟩
theorem tw12182060071494960351:True:=⟨⟩
theorem tw12875839836580464581:True:=⟨⟩
theorem tw5775452235625955011:True:=⟨⟩
theorem tw6778052946964115347:True:=⟨⟩
theorem tw12518657791631199841:True:=⟨⟩
theorem tw8894705715942524084:True:=⟨⟩
theorem tw15422592239078026577:True:=⟨⟩
theorem tw2695614290303840640:True:=⟨⟩
theorem tw17030478626694743395:True:=⟨⟩
theorem tw9217489770762892000:True:=⟨⟩
theorem tw8880244498790188183:True:=⟨⟩
theorem tw16289514714432233456:True:=⟨⟩
theorem tw17151472530893462442:True:=⟨⟩
theorem tw6678185228742178683:True:=⟨⟩
theorem tw5144788499310808640:True:=⟨⟩
theorem tw17479107571977853283:True:=⟨⟩
theorem tw14266324164863472077:True:=⟨⟩
theorem tw17656806977051151361:True:=⟨⟩
theorem tw13309605406877292379:True:=⟨⟩
theorem tw12236833094390223918:True:=⟨⟩
theorem tw10305715409092697168:True:=⟨⟩
theorem tw15653613332922958441:True:=⟨⟩
theorem tw12473719617189267320:True:=⟨⟩
theorem tw8150325190920593736:True:=⟨⟩
theorem tw4266923026566288340:True:=⟨⟩
theorem tw6088597791031405900:True:=⟨⟩
theorem tw4392081833544290997:True:=⟨⟩
theorem tw5098411971824201369:True:=⟨⟩
theorem tw5301313597948292369:True:=⟨⟩
theorem tw10237616060491191587:True:=⟨⟩
theorem tw13585344668166571902:True:=⟨⟩
theorem tw5800147401765210446:True:=⟨⟩
theorem tw15114497885627419842:True:=⟨⟩
theorem tw3801900134886790098:True:=⟨⟩
theorem tw17978218909515463317:True:=⟨⟩
theorem tw1603353186229771807:True:=⟨⟩
theorem tw18404055959413445465:True:=⟨⟩
theorem tw1365045637542266134:True:=⟨⟩
theorem tw6868962943239577988:True:=⟨⟩
theorem tw14988320926872053842:True:=⟨⟩
theorem tw8277951116262308647:True:=⟨⟩
theorem tw3984125618819549927:True:=⟨⟩
theorem tw7950750555013579289:True:=⟨⟩
theorem tw14791828374199448483:True:=⟨⟩
theorem tw1574954889412041645:True:=⟨⟩
theorem tw958244947874023635:True:=⟨⟩
theorem tw17963344957524258499:True:=⟨⟩
theorem tw2775138805642683044:True:=⟨⟩
theorem tw7722734129780961329:True:=⟨⟩
theorem tw6271483993852668513:True:=⟨⟩
theorem tw11216495481404543370:True:=⟨⟩
theorem tw1237875757588486993:True:=⟨⟩
theorem tw2880491264881610854:True:=⟨⟩
theorem tw5227909776319150258:True:=⟨⟩
theorem tw18095825775957100696:True:=⟨⟩
theorem tw2089386044508497959:True:=⟨⟩
theorem tw3470827266311868457:True:=⟨⟩
theorem tw1483097750361647711:True:=⟨⟩
theorem tw2694260768143915740:True:=⟨⟩
theorem tw10183374541509809132:True:=⟨⟩
theorem tw17173688165266555772:True:=⟨⟩
theorem tw15950335920272133821:True:=⟨⟩
theorem tw7447765847588259001:True:=⟨⟩
theorem tw5627267219631845708:True:=⟨⟩
theorem tw4777037139687830909:True:=⟨⟩
theorem tw10610765098600089225:True:=⟨⟩
theorem tw13203540981701074344:True:=⟨⟩
theorem tw14464255403620079464:True:=⟨⟩
theorem tw17810570597475283518:True:=⟨⟩
theorem tw11153100844022123618:True:=⟨⟩
theorem tw9535227396349735844:True:=⟨⟩
theorem tw12091132696238871469:True:=⟨⟩
theorem tw6879883123034084317:True:=⟨⟩
theorem tw15620312001639246142:True:=⟨⟩
theorem tw9809229272031821853:True:=⟨⟩
theorem tw12272799510104906257:True:=⟨⟩
theorem tw1252633006338856185:True:=⟨⟩
theorem tw2292364568485948657:True:=⟨⟩
theorem tw2828912141135958817:True:=⟨⟩
theorem tw14810457635381512398:True:=⟨⟩
theorem tw15321018506039795357:True:=⟨⟩
theorem tw15634603451935436010:True:=⟨⟩
theorem tw4784814441822962807:True:=⟨⟩
theorem tw7489142768072123267:True:=⟨⟩
theorem tw14021304751936875744:True:=⟨⟩
theorem tw4516822550078205841:True:=⟨⟩
theorem tw17599376916428257292:True:=⟨⟩
theorem tw2016799829050769408:True:=⟨⟩
theorem tw17923658559202574582:True:=⟨⟩
theorem tw8074443117308690701:True:=⟨⟩
theorem tw5925186907994499709:True:=⟨⟩
theorem tw2705689201738292273:True:=⟨⟩
theorem tw16042755902105493050:True:=⟨⟩
theorem tw14456593569794210007:True:=⟨⟩
theorem tw1947534090435499755:True:=⟨⟩
theorem tw2359602352311481799:True:=⟨⟩
theorem tw18244710375020384456:True:=⟨⟩
theorem tw1370182888105972005:True:=⟨⟩
theorem tw9806302619686627913:True:=⟨⟩
theorem tw2651965058509774936:True:=⟨⟩
theorem tw3865220675596106785:True:=⟨⟩
theorem tw13723792353009079876:True:=⟨⟩
theorem tw16583838957618595506:True:=⟨⟩
theorem tw14215009774661539806:True:=⟨⟩
theorem tw17829834329862769289:True:=⟨⟩
theorem tw16931194385272870366:True:=⟨⟩
theorem tw4830446081912613782:True:=⟨⟩
theorem tw14425605606331163430:True:=⟨⟩
theorem tw7944012922624421265:True:=⟨⟩
theorem tw12348881045477117189:True:=⟨⟩
theorem tw10698709349517895836:True:=⟨⟩
theorem tw7300552992080113108:True:=⟨⟩
theorem tw1301130833172937565:True:=⟨⟩
theorem tw4375898436642011807:True:=⟨⟩
theorem tw6462656677650043525:True:=⟨⟩
theorem tw1108624763351394393:True:=⟨⟩
theorem tw5191955577148208305:True:=⟨⟩
theorem tw6906288195244966260:True:=⟨⟩
theorem tw2984444119184263618:True:=⟨⟩
theorem tw9304718928612742947:True:=⟨⟩
theorem tw15384917963113574447:True:=⟨⟩
theorem tw5086655239393243552:True:=⟨⟩
theorem tw10693431763285414697:True:=⟨⟩
theorem tw4752659982197151575:True:=⟨⟩
theorem tw5224578962223184401:True:=⟨⟩
theorem tw4858575395310084450:True:=⟨⟩
theorem tw10042341240214268278:True:=⟨⟩
theorem tw7901419029569076511:True:=⟨⟩
theorem tw4214814302097860182:True:=⟨⟩
theorem tw17571816237561719019:True:=⟨⟩
theorem tw3899935087184163334:True:=⟨⟩
theorem tw3162932555067175626:True:=⟨⟩
theorem tw5653183701085145490:True:=⟨⟩
theorem tw5951134168629852234:True:=⟨⟩
theorem tw910990438908483356:True:=⟨⟩
theorem tw10586352904784378420:True:=⟨⟩
theorem tw374323054701802195:True:=⟨⟩
theorem tw12967542546510125976:True:=⟨⟩
theorem tw10087227013981705986:True:=⟨⟩
theorem tw14676997833530250728:True:=⟨⟩
theorem tw12964998138700288586:True:=⟨⟩
theorem tw7190331122300712416:True:=⟨⟩
theorem tw16954212677803884184:True:=⟨⟩
theorem tw7623532162470327708:True:=⟨⟩
theorem tw18093396291985999481:True:=⟨⟩
theorem tw10779831671771052221:True:=⟨⟩
theorem tw1290204100403941808:True:=⟨⟩
theorem tw15996520217126966415:True:=⟨⟩
theorem tw15626084293327821123:True:=⟨⟩
theorem tw11777256535940654926:True:=⟨⟩
theorem tw14515158854631638439:True:=⟨⟩
theorem tw17656864401887438128:True:=⟨⟩
end PySem.W.Fast
open PySem PySem.W PyProof.Rows
set_option maxRecDepth 100000 in
set_option maxHeartbeats 0 in
theorem PySem.Challenge.cw_pastways_k24_whole_other_texts_holds : PySem.Challenge.rw_pastways_k24_whole_other_texts.Holds := by
 w_on;o_law;k_head;(case hw=>w_witness2)
 k_fill
 refine Sm.Jv (F:=Lw.prog) (wh:=100000) (n:=60) (f:=25) (x:="_law_script") (l:=PySem.Challenge.rw_pastways_k24_whole_other_texts) rfl rfl ⟨rfl,by decide,by decide⟩ (λw h Y=>PySem.W.kIn_of Y) Lw.good ?F
 case F=>
  intro w mg fa h KX G hmg
  refine' Lw.all_mk KX G hmg ⟨?a0,L2.b9 ?l0 ?c0 ?k0⟩ ⟨?a1,L2.b9 ?l1 ?c1 ?k1⟩ ⟨?a2,L2.b9 ?l2 ?c2 ?k2⟩ ⟨?a3,L2.b9 ?l3 ?c3 ?k3⟩ ⟨?a4,L2.b9 ?l4 ?c4 ?k4⟩ ⟨?a5,L2.b9 ?l5 ?c5 ?k5⟩ ⟨?a6,L2.b9 ?l6 ?c6 ?k6⟩ ⟨?a7,L2.b9 ?l7 ?c7 ?k7⟩ ⟨?a8,L2.b9 ?l8 ?c8 ?k8⟩ ⟨?a9,L2.b9 ?l9 ?c9 ?k9⟩ ⟨?Y0,L2.b9 ?Y3 ?Y4 ?Y5⟩ ⟨?gI,L2.b9 ?Y6 ?Y7 ?Y8⟩ ⟨?gK,L2.b9 ?Y9 ?c12 ?Za⟩ ⟨?cY,L2.b9 ?Zb ?Zc ?Zd⟩ ⟨?dW,L2.b9 ?Ze ?Zf ?Zg⟩ ⟨?gQ,L2.b9 ?Zh ?Zi ?Zj⟩ ⟨?Zk,L2.b9 ?Zl ?Zm ?Zn⟩ ⟨?Zo,L2.b9 ?Zp ?Zq ?Zr⟩ ⟨?Zs,L2.b9 ?Zt ?Zu ?Zv⟩ ⟨?Zw,L2.b9 ?Zx ?Zy ?Zz⟩ ⟨?ZA,L2.b9 ?ZC ?ZD ?ZE⟩ ⟨?ZF,L2.b9 ?ZG ?ZH ?ZI⟩ ⟨?ZJ,L2.b9 ?ZK ?ZL ?ZM⟩ ⟨?ZN,L2.b9 ?ZO ?ZP ?ZQ⟩ ⟨?ZR,L2.b9 ?ZS ?ZT ?ZU⟩ ⟨?ZV,L2.b9 ?ZW ?ZX ?ZY⟩ ?z0 ?z1 ?z2 ?z3 ?z4 ?z5 ?z6 ?z7 ?z8 ?q0 ?q1 ?Vk;all_goals try first|k_is|rfl|decide +kernel | (with_unfolding_all rfl)

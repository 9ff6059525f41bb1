import PyProof.Rows.All
import Wide.All
import OpenK.AllK
import Wide.FinOn
import Lean
import PyProof.EqAt
import PyProof.EqKinds
import PyProof.TupleCall
import PyProof.DictUpdate
import PyProof.NeKinds
import PyProof.StrLawsIn
import KE.KRevSl
import PyProof.ZipIter
import PyProof.ListRange
import PyProof.Rows.SortStr
import KE.KRevIter
import KE.KDictSum
import PyProof.EnumMake
import PyProof.EnumFor
import PySem.Challenge.RW_pastways_k60_alike
set_option Elab.async false
set_option linter.all false
set_option maxRecDepth 100000
namespace L2
open PySem PySem.Spec PyProof.Rows
abbrev Key:=Sum Int Str
noncomputable def nO:Key->Value->Bool
 |.inl k,v=>Value.isInt k v
 |.inr x,v=>Value.isStrOf x v
noncomputable def RE(w:World):Key->Int
 |.inl k=>hashInt k
 |.inr x=>hashStr w x
theorem dD:∀{k:Key}{v:Value},nO k v=true->(∃i t,k=Sum.inl i/\v=Value.int i t)\/(∃x t,k=Sum.inr x/\v=Value.str x t)
 |.inl i,v,h=>by
  obtain⟨t,e⟩:=Value.isInt_shape (k:=i) (v:=v) h;exact .inl ⟨i,t,rfl,e⟩
 |.inr x,v,h=>by
  obtain⟨t,e⟩:=Value.isStrOf_shape (x:=x) (v:=v) h;exact .inr ⟨x,t,rfl,e⟩
theorem zB(i:Int)(t:Tok):nO (.inl i) (.int i t)=true:=by simp[nO,Value.isInt]
theorem zC(x:Str)(t:Tok):nO (.inr x) (.str x t)=true:=by simp[nO,Value.isStrOf]
theorem IB(a b:Int):decide ((Sum.inl a:Key)=Sum.inl b)=(a==b):=by
 by_cases e:a=b
 .subst e;simp
 .have h:¬ (Sum.inl a:Key)=Sum.inl b:=λq=>e (Sum.inl.inj q);rw[decide_eq_false h];exact(beq_eq_false_iff_ne.mpr e).symm
theorem IC(a b:Str):decide ((Sum.inr a:Key)=Sum.inr b)=decide (a=b):=by
 by_cases e:a=b
 .subst e;simp
 .have h:¬ (Sum.inr a:Key)=Sum.inr b:=λq=>e (Sum.inr.inj q);rw[decide_eq_false h,decide_eq_false e]
theorem ID(a:Int)(b:Str):decide ((Sum.inl a:Key)=Sum.inr b)=false:=decide_eq_false (λq=>nomatch q)
theorem IE(a:Str)(b:Int):decide ((Sum.inr a:Key)=Sum.inl b)=false:=decide_eq_false (λq=>nomatch q)
noncomputable def cR(prog:Program)(w:World):PySem.KeyKind prog w Key where
 is:=nO
 hash:=RE w
 inj:=λv a b ha hb=>by
  rcases dD ha with ⟨i,t,rfl,rfl⟩|⟨x,t,rfl,rfl⟩
  .rcases dD hb with ⟨j,u,rfl,e⟩|⟨y,u,rfl,e⟩
   .injection e with e1 _;rw[e1]
   .exact nomatch e
  .rcases dD hb with ⟨j,u,rfl,e⟩|⟨y,u,rfl,e⟩
   .exact nomatch e
   .injection e with e1 _;rw[e1]
 byValue:=λk v h=>by
  rcases dD h with ⟨i,t,rfl,rfl⟩|⟨x,t,rfl,rfl⟩<;>rfl
 pyHash:=λhv h=>by
  rcases dD hv with ⟨i,t,rfl,rfl⟩|⟨x,t,rfl,rfl⟩
  .exact wpAny_pyHash_int h
  .exact wpAny_pyHash_str h
 eqBool:=λhu hv h=>by
  rcases dD hu with ⟨i,t,rfl,rfl⟩|⟨x,t,rfl,rfl⟩
  .rcases dD hv with ⟨j,u,rfl,rfl⟩|⟨y,u,rfl,rfl⟩
   .rw[IB]at h;exact wpAny_eqBool_int h
   .rw[ID]at h;exact SeqAt.EqAt.int_str i t y u _ _ _ _ h
  .rcases dD hv with ⟨j,u,rfl,rfl⟩|⟨y,u,rfl,rfl⟩
   .rw[IE]at h;exact SeqAt.EqAt.str_int x t j u _ _ _ _ h
   .rw[IC]at h;exact wpAny_eqBool_str h
 «strs»:=λk x t v h=>by
  rcases dD h with ⟨i,u,rfl,e⟩|⟨y,u,rfl,e⟩
  .exact nomatch e
  .injection e with e1 _
   subst e1;cases v<;>rfl
theorem vz(prog:Program)(w:World)(i:Int)(t:Tok):(cR prog w).is (.inl i) (.int i t)=true:=zB i t
theorem vA(prog:Program)(w:World)(x:Str)(t:Tok):(cR prog w).is (.inr x) (.str x t)=true:=zC x t
end L2
namespace L2
open PySem PySem.Spec PyProof.Rows
inductive V where
 |aH|bl (b:Bool)|int (i:Int)|str (x:Str)|zD (b:Array UInt8)|vZ (b:UInt64)|ref (a:Addr)|ty (n:String)
 deriving DecidableEq
noncomputable def RelV:V->Value->Prop
 |.aH,u=>u=Value.none
 |.bl b,u=>u=Value.bool b
 |.int i,u=>∃t,u=Value.int i t
 |.str x,u=>∃t,u=Value.str x t
 |.zD b,u=>∃t,u=Value.bytes b t
 |.vZ b,u=>∃t,u=Value.float b t
 |.ref a,u=>u=Value.ref a
 |.ty n,u=>u=Value.type n
abbrev Vals:List V->List Value->Prop:=Paired RelV
theorem Vals.length{xs:List V}{us:List Value}(r:Vals xs us):xs.length=us.length:=Paired.length r
theorem Vals.get:∀{xs:List V}{us:List Value}{i:Nat}{x:V},Vals xs us->xs[i]?=some x->∃u,us[i]?=some u/\RelV x u
 |_,_,_,_,.nil,e=>by simp at e
 |_,_,0,_,.cons r _,e=>by simp at e;subst e;exact⟨_,rfl,r⟩
 |_,_,i+1,x,.cons _ t,e=>by
  obtain⟨u,h1,h2⟩:=Vals.get (i:=i) (x:=x) t (by simpa using e);exact⟨u,by simpa using h1,h2⟩
theorem Vals.set{x:V}{u:Value}(r:RelV x u):∀{xs:List V}{us:List Value}(i:Nat),Vals xs us->Vals (xs.set i x) (us.set i u)
 |_,_,_,.nil=>.nil
 |_,_,0,.cons _ t=>.cons r t
 |_,_,i+1,.cons q t=>.cons q (Vals.set r i t)
theorem Vals.append:∀{xs ys:List V}{us ws:List Value},Vals xs us->Vals ys ws->Vals (xs++ys) (us++ws)
 |_,_,_,_,.nil,s=>s
 |_,_,_,_,.cons r t,s=>.cons r (Vals.append t s)
theorem Vals.take:∀{xs:List V}{us:List Value}(n:Nat),Vals xs us->Vals (xs.take n) (us.take n)
 |_,_,0,_=>.nil
 |_,_,_+1,.nil=>.nil
 |_,_,n+1,.cons r t=>.cons r (Vals.take n t)
theorem Vals.drop:∀{xs:List V}{us:List Value}(n:Nat),Vals xs us->Vals (xs.drop n) (us.drop n)
 |_,_,0,r=>r
 |_,_,_+1,.nil=>.nil
 |_,_,n+1,.cons _ t=>Vals.drop n t
noncomputable def ly:Option V->Option Value->Prop
 |some v,some u=>RelV v u
 |none,none=>True
 |_,_=>False
noncomputable def KV{κ:Type}:List (κ×V)->List (κ×Value)->Prop:=Paired λ(p:κ×V) (q:κ×Value)=>p.1=q.1/\RelV p.2 q.2
noncomputable def kV:Key->V
 |.inl i=>.int i
 |.inr x=>.str x
inductive HO where
 |lst (xs:List V)
 |tup (xs:List V)
 |dK (kvs:List (Key×V))|dT (kvs:List (List Key×V))
 |set (S:Int->Bool) (n:Nat)
 |ins (C dx:Addr) (fs:List (Str×V))
 |own (x:Addr)
 |xd (fs:List (Str×V))
 |met (f x:Addr)
 |fR (lo hi:Int)
 |bD (o:Obj) (u:HO)
 |tG (ps:Array Value)
 |ext (φ:Heap->Prop)
abbrev Hp:=Addr->Option HO
noncomputable def upd(H:Hp)(a:Addr)(o:HO):Hp:=λb=>if b=a then some o else H b
theorem eL{H:Hp}{a:Addr}{o:HO}:upd H a o a=some o:=by unfold upd;rw[if_pos rfl]
theorem aX{H:Hp}{a b:Addr}{o:HO}(h:b≠a):upd H a o b=H b:=by unfold upd;rw[if_neg h]
theorem gZ{H:Hp}{a b:Addr}{o u:HO}(h:H a=some o)(h':H b=some u)(d:o≠u):a≠b:=by
 intro e;subst e;rw[h]at h';exact d (Option.some.inj h')
theorem bz{H:Hp}{a b:Addr}{o:HO}(h:H a=some o)(h':H b=none):a≠b:=by
 intro e;subst e;rw[h]at h';cases h'
section
variable(P:Program)(w:World)
noncomputable def cF(H:Hp)(h:Heap)(a:Addr):HO->Prop
 |.lst xs=>xs.length<=sizeLine/\∃(its:List Value) (n:Nat),Vals xs its/\h.get? a=some { cls:=.type "list",data:=.seq its.toArray n }
 |.tup xs=>xs.length<=sizeLine/\∃its:List Value,Vals xs its/\IsTup h a its.toArray
 |.dK kvs=>kvs.length<=sizeLine/\(a==sysModules)=false/\∃vs,KV kvs vs/\h.DictOf (cR P w) a vs
 |.dT kvs=>kvs.length<=sizeLine/\(a==sysModules)=false/\∃xs:List (List Key×Addr×Value),
   Paired (λ(p:List Key×V) (q:List Key×Addr×Value)=>p.1=q.1/\H q.2.1=some (.tup (p.1.map kV))/\RelV p.2 q.2.2) kvs xs/\
   ∃o es ep,h.get? a=some o/\o.ExactDict/\o.data=.dict es ep/\es.toList=xs.map (entryOfKey (tupleKind (cR P w)))/\(xs.map (·.1)).Nodup
 |.set S n=>h.SetOf (intKind P w) a S n
 |.ins C dx fs=>H dx=some (.own a)/\fs.length<=1000/\dx≠a/\h.get? a=some (PySem.W.instObj C dx)/\
   ∃mA,h.Ns1 dx mA/\(∀f,ly (fs.lookup f) (mA f))/\PySem.Within mA (fs.map (·.1))
 |.own _=>∃o,h.get? a=some o
 |.xd fs=>∃mA,h.Ns1 a mA/\∀f,ly (fs.lookup f) (mA f)
 |.fR lo hi=>∃t u v,h.get? a=some { cls:=.type "range",data:=.fields #[.int lo t,.int hi u,.int 1 v]}
 |.bD o u=>h.get? a=some o/\cF H h a u
 |.tG ps=>h.get? a=some { cls:=.none,data:=.fields ps }
 |.met f x=>h.get? a=some (PySem.W.methodObj (.ref f) (.ref x))
 |.ext φ=>φ h/\(∃o,h.get? a=some o)/\∀h1 h2:Heap,φ h1->(∀o,h1.get? a=some o->h2.get? a=some o)->φ h2
noncomputable def ee(H:Hp)(h:Heap):Prop:=∀a o,H a=some o->cF P w H h a o
end
section
variable{P:Program}{w:World}{H H':Hp}{h h':Heap}{a:Addr}{o:HO}
theorem cF.lt(x:cF P w H h a o):a<h.objs.size:=by
 cases o with
 |lst xs=>obtain⟨_,_,_,_,e⟩:=x;exact Heap.lt_size e
 |tup xs=>obtain⟨_,_,_,p⟩:=x;exact p.lt
 |dK kvs=>obtain⟨_,_,_,_,o,_,_,e,_⟩:=x;exact Heap.lt_size e
 |dT kvs=>obtain⟨_,_,_,_,o,_,_,e,_⟩:=x;exact Heap.lt_size e
 |set S n=>obtain⟨o,_,_,_,e,_⟩:=x;exact Heap.lt_size e
 |ins C dx fs=>obtain⟨_,_,_,e,_⟩:=x;exact Heap.lt_size e
 |own y=>obtain⟨_,e⟩:=x;exact Heap.lt_size e
 |xd fs=>obtain⟨_,⟨_,_,_,e,_⟩,_⟩:=x;exact Heap.lt_size e
 |fR lo hi=>obtain⟨_,_,_,e⟩:=x;exact Heap.lt_size e
 |bD ob u=>obtain⟨e,_⟩:=x;exact Heap.lt_size e
 |tG ps=>exact Heap.lt_size (show h.get? a=some _ from x)
 |met f y=>exact Heap.lt_size (show h.get? a=some _ from x)
 |ext φ=>obtain⟨_,⟨_,e⟩,_⟩:=x;exact Heap.lt_size e
theorem Paired.B4{α β:Type}{F G:α->β->Prop}:∀{l₁:List α}{l₂:List β},Paired F l₁ l₂->(∀a b,F a b->G a b)->Paired G l₁ l₂
 |_,_,.nil,_=>.nil
 |_,_,.cons r t,f=>.cons (f _ _ r) (Paired.B4 t f)
theorem cF.stay(x:cF P w H h a o)(k:∀b u,(b=a\/H b=some (.own a))->h.get? b=some u->h'.get? b=some u)
  (ho:∀b,H b=some (.own a)->H' b=some (.own a)) (ht:∀b xs,H b=some (.tup xs)->H' b=some (.tup xs)):cF P w H' h' a o:=by
 induction o with
 |lst xs=>obtain⟨z,its,n,r,e⟩:=x;exact⟨z,its,n,r,k _ _ (.inl rfl) e⟩
 |tup xs=>obtain⟨z,its,r,ob,e,c⟩:=x;exact⟨z,its,r,ob,k _ _ (.inl rfl) e,c⟩
 |dK kvs=>obtain⟨z,y,vs,r,ob,es,ep,e,c⟩:=x;exact⟨z,y,vs,r,ob,es,ep,k _ _ (.inl rfl) e,c⟩
 |dT kvs=>
  obtain⟨z,y,xs,r,ob,es,ep,e,c⟩:=x;exact⟨z,y,xs,Paired.B4 r λp q z=>⟨z.1,ht _ _ z.2.1,z.2.2⟩,ob,es,ep,k _ _ (.inl rfl) e,c⟩
 |set S n=>obtain⟨ob,es,ep,t,e,c⟩:=x;exact⟨ob,es,ep,t,k _ _ (.inl rfl) e,c⟩
 |ins C dx fs=>
  obtain⟨d,z,ne,e,mA,⟨od,es,ep,e2,c⟩,r⟩:=x;exact⟨ho _ d,z,ne,k _ _ (.inl rfl) e,mA,⟨od,es,ep,k _ _ (.inr d) e2,c⟩,r⟩
 |own y=>obtain⟨ob,e⟩:=x;exact⟨ob,k _ _ (.inl rfl) e⟩
 |xd fs=>obtain⟨mA,⟨od,es,ep,e,c⟩,r⟩:=x;exact⟨mA,⟨od,es,ep,k _ _ (.inl rfl) e,c⟩,r⟩
 |fR lo hi=>obtain⟨t,u,v,e⟩:=x;exact⟨t,u,v,k _ _ (.inl rfl) e⟩
 |bD ob u ih=>obtain⟨e,q⟩:=x;exact⟨k _ _ (.inl rfl) e,ih q⟩
 |tG ps=>
  have e:h.get? a=some { cls:=.none,data:=.fields ps }:=x;show h'.get? a=some { cls:=.none,data:=.fields ps };exact k a _ (.inl rfl) e
 |met f y=>
  have e:h.get? a=some (PySem.W.methodObj (.ref f) (.ref y)):=x;show h'.get? a=some (PySem.W.methodObj (.ref f) (.ref y));exact k a _ (.inl rfl) e
 |ext φ=>obtain⟨p,⟨o,e⟩,st⟩:=x;exact⟨st _ _ p λo q=>k _ _ (.inl rfl) q,⟨o,k _ _ (.inl rfl) e⟩,st⟩
theorem ee.lt(x:ee P w H h)(e:H a=some o):a<h.objs.size:=(x a o e).lt
theorem ee.fresh(x:ee P w H h)(e:h.objs.size<=a):H a=none:=by
 cases q:H a with
 |none=>rfl
 |some u=>exact absurd (Nat.lt_of_lt_of_le (x.lt q) e) (Nat.lt_irrefl _)
theorem ee.kept(x:ee P w H h)(k:∀b u,h.get? b=some u->h'.get? b=some u):ee P w H h':=λa o e=>
 (x a o e).stay (λb u _ q=>k b u q) (λ_ q=>q) λ_ _ q=>q
theorem ee.laid(x:ee P w H h)(k:∀b u,h.get? b=some u->h'.get? b=some u)(hp:h.objs.size<=a)(new:cF P w (upd H a o) h' a o):ee P w (upd H a o) h':=λb u e=>by
 have hn:=x.fresh hp;by_cases hb:b=a
 .subst hb;rw[eL]at e;cases e;exact new
 .rw[aX hb]at e;exact(x b u e).stay (λc v _ q=>k c v q) (λc q=>by rw[aX (bz q hn)];exact q) λc xs q=>by rw[aX (bz q hn)];exact q
end
noncomputable def Rd(H:Hp)(a:Addr)(u:HO):Prop:=H a=some u\/∃o,H a=some (.bD o u)
theorem Rd.ok{P:Program}{w:World}{H:Hp}{h:Heap}{a:Addr}{u:HO}(r:Rd H a u)(x:ee P w H h):cF P w H h a u:=by
 rcases r with r|⟨o,r⟩
 .exact x a u r
 .obtain⟨_,q⟩:=x a _ r;exact q
noncomputable def zE:Option HO->Prop
 |some (.lst _)=>True
 |some (.dK _)=>True
 |some (.dT _)=>True
 |some (.set _ _)=>True
 |some (.ins _ _ _)=>True
 |some (.ext _)=>True
 |_=>False
section
variable{P:Program}{w:World}{H:Hp}{h h':Heap}{x e:Addr}{o':HO}
theorem ee.write(ok:ee P w H h)(mu:zE (H x))(he:e=x\/H e=some (.own x))(k:∀b u,b≠e->h.get? b=some u->h'.get? b=some u)(v5:∃u,h'.get? e=some u)
  (new:cF P w (upd H x o') h' x o'):ee P w (upd H x o') h':=λb u q=>by
 have IF:∀c y,H c=some (.own y)->c≠x:=λc y r z=>by subst z;rw[r]at mu;exact mu
 have RG:∀c xs,H c=some (.tup xs)->c≠x:=λc xs r z=>by subst z;rw[r]at mu;exact mu
 by_cases hb:b=x
 .subst hb;rw[eL]at q;cases q;exact new
 .rw[aX hb]at q;by_cases tH:b=e
  .have q':H b=some (.own x):=by
    rcases he with z|z
    .exact absurd (tH.trans z) hb
    .rw[tH];exact z
   rw[q]at q';cases q';obtain⟨v,hv⟩:=v5;exact⟨v,by rw[tH];exact hv⟩
  .refine(ok b u q).stay (λc v hc r=>k c v ?_ r) (λc r=>by rw[aX (IF c b r)];exact r) λc xs r=>by rw[aX (RG c xs r)];exact r
   rcases hc with rfl|hc
   .exact tH
   .rintro rfl;rcases he with z|z
    .exact IF c b hc z
    .rw[hc]at z;cases z;exact hb rfl
end
structure Un(fs ex:List Addr)(H H':Hp)(h h':Heap):Prop where
 keep:∀b o,h.get? b=some o->H b=none->b∉fs->b∉ex->h'.get? b=some o
 slot:∀b o,h.get? b=some o->H b=none->b∈fs->b∉ex->∃sl,h'.get? b=some { o with slots:=sl }
 free:∀b o,h.get? b=some o->H b=none->b∉ex->H' b=none
 there:∀b o,h.get? b=some o->b∉ex->∃o',h'.get? b=some o'
 tups:∀b xs,H b=some (.tup xs)->H' b=some (.tup xs)
 lB:∀b o u,H b=some (.bD o u)->H' b=some (.bD o u)
 mR:∀b ps,H b=some (.tG ps)->∃more,H' b=some (.tG (ps++more))
section
variable{fs fs' ex ex':List Addr}{H H1 H2:Hp}{h h1 h2 h':Heap}{a x e:Addr}{o:HO}
theorem Un.any(u:Un fs ex H H1 h h1){b:Addr}{ob:Obj}(q:h.get? b=some ob)(n:H b=none)(hx:b∉ex):∃sl,h1.get? b=some { ob with slots:=sl }:=by
 by_cases hb:b∈fs
 .exact u.slot b ob q n hb hx
 .exact⟨ob.slots,u.keep b ob q n hb hx⟩
theorem Un.kept(k:∀b u,h.get? b=some u->h'.get? b=some u):Un fs ex H H h h':=
 ⟨λb ob q _ _ _=>k b ob q,λb ob q _ _ _=>⟨ob.slots,k b ob q⟩,λ_ _ _ n _=>n,λb ob q _=>⟨ob,k b ob q⟩,λ_ _ q=>q,λ_ _ _ q=>q,λ_ ps q=>⟨#[],by rw[q];simp⟩⟩
theorem Un.refl:Un fs ex H H h h:=Un.kept λ_ _ q=>q
theorem Un.laid(k:∀b u,h.get? b=some u->h'.get? b=some u)(hp:h.objs.size<=a)(hn:H a=none):Un fs ex H (upd H a o) h h' where
 keep:=λb u q _ _ _=>k b u q
 slot:=λb u q _ _ _=>⟨u.slots,k b u q⟩
 free:=λb u q n _=>by rw[aX (Nat.ne_of_lt (Nat.lt_of_lt_of_le (Heap.lt_size q) hp))];exact n
 there:=λb u q _=>⟨u,k b u q⟩
 tups:=λb xs q=>by rw[aX (bz q hn)];exact q
 lB:=λb u xs q=>by rw[aX (bz q hn)];exact q
 mR:=λb ps q=>⟨#[],by rw[aX (bz q hn),q];simp⟩
theorem Un.write(mu:zE (H x))(he:e=x\/H e=some (.own x))(k:∀b u,b≠e->h.get? b=some u->h'.get? b=some u)(v5:∃u,h'.get? e=some u):Un fs ex H (upd H x o) h h':=by
 have hx:∀b,H b=none->b≠x:=λb n z=>by subst z;rw[n]at mu;exact mu
 have hb:∀b,H b=none->b≠e:=λb n z=>by
  subst z;rcases he with r|r
  .exact hx b n r
  .rw[n]at r;cases r
 have hm:∀b u,H b=some u->¬ zE (some u)->b≠x:=λb u q nm z=>by subst z;rw[q]at mu;exact nm mu
 refine⟨λb u q n _ _=>k b u (hb b n) q,λb u q n _ _=>⟨u.slots,k b u (hb b n) q⟩,λb u q n _=>by rw[aX (hx b n)];exact n,λb u q _=>?_,
  λb xs q=>by rw[aX (hm b _ q λz=>z)];exact q,λb u xs q=>by rw[aX (hm b _ q λz=>z)];exact q,λb ps q=>⟨#[],by rw[aX (hm b _ q λz=>z),q];simp⟩⟩
 by_cases tH:b=e
 .subst tH;exact v5
 .exact⟨u,k b u tH q⟩
end
noncomputable def Ei(h:Heap)(H:Hp):List Addr:=(List.range h.objs.size).filter λa=>(H a).isSome
noncomputable def lC(h:Heap)(H:Hp):Heap:=PySem.W.hideAll h (Ei h H)
theorem zF(h:Heap)(H:Hp):(lC h H).objs.size=h.objs.size:=PySem.W.hideAll_size _ _
theorem B5{h:Heap}{H:Hp}{b:Addr}{o:Obj}(e:h.get? b=some o)(n:H b=none):(lC h H).get? b=some o:=
 PySem.W.hideAll_get _ e λhm=>by
  have q:(H b).isSome=true:=(List.mem_filter.mp hm).2;rw[n]at q;simp at q
theorem FJ{h:Heap}{H:Hp}{b:Addr}{o:Obj}(e:(lC h H).get? b=some o):h.get? b=some o/\H b=none:=by
 have e':h.get? b=some o:=PySem.W.of_hideAll (Ei h H) e;refine⟨e',?_⟩;cases q:H b with
 |none=>rfl
 |some x=>
  have hm:b∈Ei h H:=List.mem_filter.mpr ⟨List.mem_range.mpr (Heap.lt_size e'),by simp[q]⟩;have z:(lC h H).get? b=none:=PySem.W.hideAll_none (Ei h H) hm;rw[z]at e;cases e
noncomputable def FL(g h:Heap)(L:Addr):List (Addr×Obj):=(List.range h.objs.size).filterMap λa=>if a=L\/(g.get? a).isSome=true then none else (h.get? a).map λo=>(a,o)
noncomputable def rest(g h:Heap)(L d:Addr):List (Addr×Obj):=(FL g h L).filter λp=>decide (p.1≠d)
end L2
namespace L2
open PySem PySem.Spec PyProof.Rows
structure Mod(K:PySem.W.Frag)(mg:Str->Option Value)(base:Heap):Prop where
 Ej:K.In base
 glob:base.Ns mainGlobals mg
 blt:∃mb,base.Ns builtinsNs mb/\∀x:Str,x≠"__name__" ->mb x=bootBuiltins x
 nolimit:base.NoLimit
structure Cx where
 prog:Program
 w:World
 K:PySem.W.Frag
 mg:Str->Option Value
 base:Heap
 A:Around
 N:List Str
 s₀:Shared
 H₀:Hp
 env:Env
 outer:List Env
 stack:List Env
 ex:List Addr
 fn:Str->Bool
 calm:Bool
 pn:List (Addr×Obj)
 xe:Value->Shared->Prop
noncomputable def frs(l:List Env):List Addr:=l.filterMap (·.frame)
noncomputable abbrev Cx.fs(X:Cx):List Addr:=frs X.outer
noncomputable def zG(sc:Scope)(x:Str):Prop:=sc.names.lookup x=some .local\/sc.names.lookup x=some .cell\/sc.names.lookup x=some .free
noncomputable def Loc(sc:Scope)(x:Str):Prop:=sc.names.lookup x=some .local\/sc.names.lookup x=some .cell
noncomputable def Look(env:Env)(h:Heap)(m:Str->Option Value)(x:Str)(u:Value):Prop:=
 (env.kindOf x=some .local/\m x=some u)\/((env.kindOf x=some .cell\/env.kindOf x=some .free)/\∃c,env.cells.lookup x=some c/\h.IsCell c (some u))
structure Cx.Ok(X:Cx):Prop where
 mod:Mod X.K X.mg X.base
 kind:X.env.scope.kind=.function
 glob:X.env.globals=mainGlobals
 blt:X.env.builtins=builtinsNs
 above:X.s₀.heap.objs.size<=X.env.locals
 inj:∀x y c,X.env.cells.lookup x=some c->X.env.cells.lookup y=some c->x=y
 has:∀x,(X.env.kindOf x=some .cell\/X.env.kindOf x=some .free)->∃c,X.env.cells.lookup x=some c
 wc:∀x c,X.fn x=true->X.env.cells.lookup x=some c->X.s₀.heap.objs.size<=c
 hd:X.calm=true->X.A.handled=none
 frames:X.A.frames=some X.stack
 stk:X.stack=X.outer\/(X.stack=X.env :: X.outer/\X.env.frame=some X.env.locals)
 Ek:∀b∈X.ex,b≠X.env.locals/\∀x c,X.env.cells.lookup x=some c->c≠b
 bs:∀b o,X.base.get? b=some o->X.s₀.heap.get? b=some o/\X.H₀ b=none
 rC:X.base.objs.size<=X.s₀.heap.objs.size
 qv:∀b o,X.base.get? b=some o->b∉X.ex
 qw:∀b∈X.ex,b∉X.fs
 jt:X.s₀.heap.FunFrames X.base X.outer
 tK:∀b∈X.fs,X.H₀ b=none
structure Inv(X:Cx)(pins:List (Addr×Obj))(σ:List (Option V))(H:Hp)(s:Shared):Prop where
 ok:X.Ok
 os:s.os=X.s₀.os
 bare:AllBare s.gens
 base:Un X.fs X.ex X.H₀ H X.s₀.heap s.heap
 loc:∃m,s.heap.Ns X.env.locals m/\∀(i:Nat) (x:Str) (v:V),X.N[i]?=some x->σ[i]?=some (some v)->zG X.env.scope x->∃u,RelV v u/\Look X.env s.heap m x u
 cell:∀x c,X.env.cells.lookup x=some c->∃v,s.heap.IsCell c v
 free:H X.env.locals=none
 iW:∀x c,X.env.cells.lookup x=some c->H c=none
 pin:∀p∈X.pn++pins,s.heap.get? p.1=some p.2/\H p.1=none/\p.1≠X.env.locals/\p.1∉X.fs/\∀v,p.2.data≠.cell v
 hok:ee X.prog X.w H s.heap
 len:σ.length=X.N.length
section
variable{X:Cx}{pins:List (Addr×Obj)}{σ:List (Option V)}{H H':Hp}{s:Shared}{h':Heap}
theorem Cx.Ok.RH(ok:X.Ok){b:Addr}{o:Obj}(e:X.base.get? b=some o):b∉X.fs:=λhb=>by
 have:=(ok.jt.mem hb).1;rw[e]at this;cases this
theorem Inv.bs(I:Inv X pins σ H s):∀b o,X.base.get? b=some o->s.heap.get? b=some o/\H b=none:=λb o e=>
 ⟨I.base.keep b o (I.ok.bs b o e).1 (I.ok.bs b o e).2 (I.ok.RH e) (I.ok.qv b o e),I.base.free b o (I.ok.bs b o e).1 (I.ok.bs b o e).2 (I.ok.qv b o e)⟩
theorem Inv.bk(I:Inv X pins σ H s):∀b o,X.base.get? b=some o->s.heap.get? b=some o:=λb o e=>(I.bs b o e).1
theorem Inv.mod(I:Inv X pins σ H s):Mod X.K X.mg X.base:=I.ok.mod
theorem Inv.gq(I:Inv X pins σ H s):X.K.In s.heap:=I.ok.mod.Ej.keeps I.bk
theorem Inv.lt(I:Inv X pins σ H s):X.env.locals<s.heap.objs.size:=let ⟨_,hn,_⟩:=I.loc;hn.lt
theorem Inv.sz(I:Inv X pins σ H s):X.s₀.heap.objs.size<=s.heap.objs.size:=Nat.le_trans I.ok.above (Nat.le_of_lt I.lt)
theorem Inv.RI(I:Inv X pins σ H s){a:Addr}(h:s.heap.objs.size<=a):a∉X.fs:=λhb=>by
 obtain⟨_,o,ho,_⟩:=I.ok.jt.mem hb;exact absurd (Nat.lt_of_lt_of_le (Heap.lt_size ho) (Nat.le_trans I.sz h)) (Nat.lt_irrefl _)
theorem Inv.tL(I:Inv X pins σ H s):∀x c,X.env.cells.lookup x=some c->c≠X.env.locals:=λx c e z=>by
 obtain⟨v,o,ho,hd⟩:=I.cell x c e;obtain⟨m,⟨o',es,ep,ho',hd',_⟩,_⟩:=I.loc;rw[z,ho']at ho;cases ho;rw[hd']at hd;cases hd
theorem Inv.jt(I:Inv X pins σ H s):s.heap.FunFrames X.base X.outer:=by
 have all:∀(l:List Env),(∀b∈frs l,b∈X.fs)->X.s₀.heap.FunFrames X.base l->s.heap.FunFrames X.base l:=by
  intro l;induction l with
  |nil=>intro _ _;trivial
  |cons env r ih=>
   intro hs hl;obtain⟨hk,⟨L,o,hf,hn,ho,hd⟩,hr⟩:=hl;have hL:L∈X.fs:=hs L (by unfold frs;rw[List.filterMap_cons,hf];exact List.mem_cons_self);obtain⟨sl,e⟩:=I.base.slot L o ho (I.ok.tK L hL) hL λz=>I.ok.qw L z hL;exact⟨hk,⟨L,_,hf,hn,e,hd⟩,ih (λb hb=>hs b (by unfold frs;rw[List.filterMap_cons,hf];exact List.mem_cons_of_mem _ hb)) hr⟩
 exact all X.outer (λ_ hb=>hb) I.ok.jt
theorem Inv.stack(I:Inv X pins σ H s):s.heap.FunFrames X.base X.stack:=by
 rcases I.ok.stk with e|⟨e,hf⟩
 .rw[e];exact I.jt
 .rw[e];obtain⟨m,hn,_⟩:=I.loc;refine .cons (by rw[I.ok.kind];decide) hf hn ?_ I.jt;exact Heap.get?_none_of_le (Nat.le_trans I.ok.rC I.ok.above)
theorem Inv.tM(I:Inv X pins σ H s):∀b∈frs X.stack,b∈X.env.locals :: X.fs:=λb hb=>by
 rcases I.ok.stk with e|⟨e,hf⟩
 .rw[e]at hb;exact List.mem_cons_of_mem _ hb
 .rw[e]at hb;unfold frs at hb;rw[List.filterMap_cons,hf]at hb;exact hb
theorem Inv.we(I:Inv X pins σ H s):∀b∈frs X.stack,H b=none:=λb hb=>by
 rcases List.mem_cons.mp (I.tM b hb)with e|hb
 .rw[e];exact I.free
 .obtain⟨_,o,ho,_⟩:=I.ok.jt.mem hb;exact I.base.free b o ho (I.ok.tK b hb) λz=>I.ok.qw b z hb
theorem Inv.step{g':Array GenState}{t':Nat}{d':Drawn}{ch:List Addr}(I:Inv X pins σ H s)
  (hch:∀b∈ch,(b∈X.ex\/X.s₀.heap.objs.size<=b)/\b≠X.env.locals/\(∀x c,X.env.cells.lookup x=some c->c≠b)/\∀p∈X.pn++pins,p.1≠b)
  (keep:∀b o,b≠X.env.locals->b∉X.fs->b∉ch->s.heap.get? b=some o->H b=none->h'.get? b=some o)
  (slot:∀b o,b≠X.env.locals->b∈X.fs->b∉ch->s.heap.get? b=some o->H b=none->∃sl,h'.get? b=some { o with slots:=sl }) (free:∀b o,b∉ch->s.heap.get? b=some o->H b=none->H' b=none)
  (there:∀b o,b∉ch->s.heap.get? b=some o->∃o',h'.get? b=some o')
  (tups:∀b xs,H b=some (.tup xs)->H' b=some (.tup xs)) (lB:∀b o u,H b=some (.bD o u)->H' b=some (.bD o u)) (mR:∀b ps,H b=some (.tG ps)->∃more,H' b=some (.tG (ps++more)))
  (ns:∀m,s.heap.Ns X.env.locals m->h'.Ns X.env.locals m) (hok:ee X.prog X.w H' h') (hg:AllBare g') :
  Inv X pins σ H' { s with heap:=h',gens:=g',drawn:=d',toks:=t' }:=by
 have Qj:∀b o,X.s₀.heap.get? b=some o->b≠X.env.locals:=λb o e=>Nat.ne_of_lt (Nat.lt_of_lt_of_le (Heap.lt_size e) I.ok.above);have El:∀b o,X.s₀.heap.get? b=some o->b∉X.ex->b∉ch:=λb o e hx hb=>by
  rcases(hch b hb).1 with z|z
  .exact hx z
  .exact absurd (Nat.lt_of_lt_of_le (Heap.lt_size e) z) (Nat.lt_irrefl _)
 have cellK:∀x c,X.env.cells.lookup x=some c->∀v,s.heap.IsCell c v->h'.IsCell c v:=λx c e v ⟨o,ho,hd⟩=>by
  have zH:c∉ch:=λz=>(hch c z).2.2.1 x c e rfl;by_cases hc:c∈X.fs
  .obtain⟨sl,q⟩:=slot c o (I.tL x c e) hc zH ho (I.iW x c e);exact⟨_,q,hd⟩
  .exact⟨o,keep c o (I.tL x c e) hc zH ho (I.iW x c e),hd⟩
 refine⟨I.ok,I.os,hg,⟨λb o e n hb hx=>?_,λb o e n hb hx=>?_,λb o e n hx=>?_,λb o e hx=>?_,λb xs e=>tups b xs (I.base.tups b xs e),λb o xs e=>lB b o xs (I.base.lB b o xs e),λb ps e=>?_⟩,?_,λx c e=>?_,?_,λx c e=>?_,λp hp=>?_,hok,I.len⟩
 .exact keep b o (Qj b o e) hb (El b o e hx) (I.base.keep b o e n hb hx) (I.base.free b o e n hx)
 .obtain⟨sl,e1⟩:=I.base.slot b o e n hb hx;obtain⟨Ul,e2⟩:=slot b _ (Qj b o e) hb (El b o e hx) e1 (I.base.free b o e n hx);exact⟨Ul,e2⟩
 .obtain⟨o',e1⟩:=I.base.there b o e hx;exact free b o' (El b o e hx) e1 (I.base.free b o e n hx)
 .obtain⟨o',e1⟩:=I.base.there b o e hx;exact there b o' (El b o e hx) e1
 .obtain⟨m1,e1⟩:=I.base.mR b ps e;obtain⟨m2,e2⟩:=mR b _ e1;exact⟨m1++m2,by rw[e2,Array.append_assoc]⟩
 .obtain⟨m,hn,hl⟩:=I.loc;refine⟨m,ns m hn,λi x v e1 e2 e3=>?_⟩;obtain⟨u,r,l⟩:=hl i x v e1 e2 e3;refine⟨u,r,?_⟩;rcases l with l|⟨k,c,e,z⟩
  .exact .inl l
  .exact .inr ⟨k,c,e,cellK x c e _ z⟩
 .obtain⟨v,z⟩:=I.cell x c e;exact⟨v,cellK x c e v z⟩
 .obtain⟨m,⟨o,_,_,ho,_⟩,_⟩:=I.loc;exact free _ o (λz=>(hch _ z).2.1 rfl) ho I.free
 .obtain⟨v,o,ho,hd⟩:=I.cell x c e;exact free c o (λz=>(hch c z).2.2.1 x c e rfl) ho (I.iW x c e)
 .obtain⟨e,n,ne,nf,d⟩:=I.pin p hp;have zH:p.1∉ch:=λz=>(hch p.1 z).2.2.2 p hp rfl;exact⟨keep p.1 p.2 ne nf zH e n,free p.1 p.2 zH e n,ne,nf,d⟩
theorem Inv.un{t':Nat}(I:Inv X pins σ H s)(u:Un X.fs [] H H' s.heap h')(hok:ee X.prog X.w H' h'):Inv X pins σ H' { s with heap:=h',toks:=t' }:=by
 obtain⟨m,⟨o,es,ep,ho,r⟩,_⟩:=id I.loc;obtain⟨sl,hL⟩:=u.any ho I.free (by simp);exact I.step (g':=s.gens) (d':=s.drawn) (ch:=[]) (λ_ z=>nomatch z) (λb o _ hb _ e n=>u.keep b o e n hb (by simp)) (λb o _ hb _ e n=>u.slot b o e n hb (by simp)) (λb o _ e n=>u.free b o e n (by simp)) (λb o _ e=>u.there b o e (by simp)) u.tups u.lB u.mR (λm' hm=>by
  obtain⟨o',es',IG,ho',r'⟩:=hm;rw[ho]at ho';cases ho';exact⟨_,es',IG,hL,r'⟩) hok I.bare
theorem Inv.call{g':Array GenState}{t':Nat}{d':Drawn}{ch:List Addr}(I:Inv X pins σ H s)(u:Un (frs X.stack) ch H H' s.heap h')(hok:ee X.prog X.w H' h')(hg:AllBare g')
  (hch:∀b∈ch,(b∈X.ex\/X.s₀.heap.objs.size<=b)/\b≠X.env.locals/\(∀x c,X.env.cells.lookup x=some c->c≠b)/\∀p∈X.pn++pins,p.1≠b) :
  Inv X pins σ H' { s with heap:=h',gens:=g',drawn:=d',toks:=t' }:=by
 obtain⟨m,⟨o,es,ep,ho,r⟩,_⟩:=id I.loc;obtain⟨sl,hL⟩:=u.any ho I.free λz=>(hch _ z).2.1 rfl;exact I.step (ch:=ch) hch (λb o hL hb hc e n=>u.keep b o e n (λz=>(List.mem_cons.mp (I.tM b z)).elim hL hb) hc) (λb o _ _ hc e n=>u.any e n hc) (λb o hc e n=>u.free b o e n hc) (λb o hc e=>u.there b o e hc) u.tups u.lB u.mR (λm' hm=>by
  obtain⟨o',es',IG,ho',r'⟩:=hm;rw[ho]at ho';cases ho';exact⟨_,es',IG,hL,r'⟩) hok hg
theorem Inv.turned{t':Nat}{it:Addr}(I:Inv X pins σ H s)(k:∀b o,b≠it->s.heap.get? b=some o->h'.get? b=some o)(hn:H it=none)(hL:it≠X.env.locals)
  (h1:it∈X.ex\/X.s₀.heap.objs.size<=it) (h2:∀x c,X.env.cells.lookup x=some c->c≠it) (h3:∀p∈X.pn++pins,p.1≠it):Inv X pins σ H { s with heap:=h',toks:=t' }:=by
 have zI:∀b u,H b=some u->b≠it:=λb u e z=>by rw[z,hn]at e;cases e
 refine I.step (g':=s.gens) (d':=s.drawn) (ch:=[it]) (λb hb=>?_) (λb o _ _ hc e _=>k b o (λz=>hc (by simp[z])) e) (λb o _ _ hc e _=>⟨o.slots,k b o (λz=>hc (by simp[z])) e⟩) (λ_ _ _ _ n=>n)
  (λb o hc e=>⟨o,k b o (λz=>hc (by simp[z])) e⟩) (λ_ _ e=>e) (λ_ _ _ e=>e) (λb ps e=>⟨#[],by rw[e];simp⟩) (λm hm=>?_) (λb u e=>?_) I.bare
 .have e:b=it:=by simpa using hb
  subst e;exact⟨h1,hL,h2,h3⟩
 .obtain⟨o,es,ep,ho,r⟩:=hm;exact⟨o,es,ep,k _ o (Ne.symm hL) ho,r⟩
 .refine(I.hok b u e).stay (λc v hc q=>k c v ?_ q) (λ_ q=>q) λ_ _ q=>q;rcases hc with z|z
  .rw[z];exact zI b u e
  .exact zI c _ z
theorem Inv.tok(I:Inv X pins σ H s)(t:Nat):Inv X pins σ H { s with toks:=t }:=I.un (h':=s.heap) (t':=t) Un.refl I.hok
theorem Inv.kept{t':Nat}(I:Inv X pins σ H s)(k:∀b u,s.heap.get? b=some u->h'.get? b=some u):Inv X pins σ H { s with heap:=h',toks:=t' }:=I.un (Un.kept k) (I.hok.kept k)
theorem Inv.laid{a:Addr}{o:HO}{t':Nat}(I:Inv X pins σ H s)(k:∀b u,s.heap.get? b=some u->h'.get? b=some u)(hp:s.heap.objs.size<=a)(new:cF X.prog X.w (upd H a o) h' a o) :
  Inv X pins σ (upd H a o) { s with heap:=h',toks:=t' }:=I.un (Un.laid k hp (I.hok.fresh hp)) (I.hok.laid k hp new)
theorem Inv.write{x e:Addr}{o:HO}{t':Nat}(I:Inv X pins σ H s)(mu:zE (H x))(he:e=x\/H e=some (.own x))(k:∀b u,b≠e->s.heap.get? b=some u->h'.get? b=some u)(v5:∃u,h'.get? e=some u)
  (new:cF X.prog X.w (upd H x o) h' x o):Inv X pins σ (upd H x o) { s with heap:=h',toks:=t' }:=I.un (Un.write mu he k v5) (I.hok.write mu he k v5 new)
theorem Inv.wg{Em:List (Addr×Obj)}(I:Inv X pins σ H s)(h:∀p∈Em,s.heap.get? p.1=some p.2/\H p.1=none/\p.1≠X.env.locals/\p.1∉X.fs/\∀v,p.2.data≠.cell v):Inv X Em σ H s:=
 ⟨I.ok,I.os,I.bare,I.base,I.loc,I.cell,I.free,I.iW,λp hp=>(List.mem_append.mp hp).elim (λz=>I.pin p (List.mem_append_left _ z)) (h p),I.hok,I.len⟩
theorem tN{N:List Str}(hN:N.Nodup){i j:Nat}{x:Str}(a:N[i]?=some x)(b:N[j]?=some x):i=j:=by
 obtain⟨h1,e1⟩:=List.getElem?_eq_some_iff.mp a;obtain⟨h2,e2⟩:=List.getElem?_eq_some_iff.mp b;exact(List.getElem_inj hN).mp (e1.trans e2.symm)
theorem rD{M:Model}{A:Around}{E:Value->Shared->Prop}{i:Nat}{x:Str}{v:V}{u:Value}{Q:Unit->Shared->Prop}(I:Inv X pins σ H s)(hN:X.N.Nodup)(hi:X.N[i]?=some x)(hx:Loc X.env.scope x)(r:RelV v u)
  (h:∀s',Inv X pins (σ.set i (some v)) H s'->(∃a,Heap.SameBut a s.heap s'.heap/\(a=X.env.locals\/X.env.cells.lookup x=some a))->Q () s') (hf:X.fn x=true\/X.env.scope.names.lookup x=some .local:=by first|exact .inl rfl|exact .inr rfl|assumption):wpAny M A (storeName X.env x u) Q E s:=by
 obtain⟨m,hn,hl⟩:=id I.loc;have hcls:(X.env.scope.kind==.class || (X.env.scope.kind==.module&&X.env.locals != X.env.globals))=false:=by rw[I.ok.kind];rfl
 have II:i<σ.length:=by rw[I.len];exact(List.getElem?_eq_some_iff.mp hi).1
 have tL:=I.tL;have tracked:∀{a:Addr} {h':Heap},(∃o,s.heap.get? a=some o/\H a=none)->Heap.SameBut a s.heap h'->ee X.prog X.w H h':=λ{a h'} ha hs b ob e=>by
  obtain⟨_,_,hfree⟩:=ha;refine(I.hok b ob e).stay (λc w' hc q=>(hs.2 c ?_).trans q) (λ_ q=>q) λ_ _ q=>q;rintro rfl;rcases hc with rfl|hc
  .rw[hfree]at e;cases e
  .rw[hfree]at hc;cases hc
 rcases hx with hk|hk
 .refine wpAny_storeName_local hk hn (λh' hn' hs=>?_) hcls;obtain⟨oL,_,_,Um,_⟩:=id hn;refine h _ ⟨I.ok,I.os,I.bare,⟨λb o e n hb hx=>?_,λb o e n hb hx=>?_,I.base.free,λb o e hx=>?_,I.base.tups,I.base.lB,I.base.mR⟩,⟨_,hn',λj y v' e1 e2 e3=>?_⟩,λy c e=>?_,I.free,I.iW,λp hp=>?_,tracked ⟨oL,Um,I.free⟩ hs,by simpa using I.len⟩ ⟨_,hs,.inl rfl⟩
  .exact(hs.2 b (Nat.ne_of_lt (Nat.lt_of_lt_of_le (Heap.lt_size e) I.ok.above))).trans (I.base.keep b o e n hb hx)
  .obtain⟨sl,e1⟩:=I.base.slot b o e n hb hx;exact⟨sl,(hs.2 b (Nat.ne_of_lt (Nat.lt_of_lt_of_le (Heap.lt_size e) I.ok.above))).trans e1⟩
  .obtain⟨o',e1⟩:=I.base.there b o e hx;exact⟨o',(hs.2 b (Nat.ne_of_lt (Nat.lt_of_lt_of_le (Heap.lt_size e) I.ok.above))).trans e1⟩
  .by_cases hj:j=i
   .subst hj;rw[hi]at e1;cases e1;rw[List.getElem?_set_self II]at e2;cases e2;exact⟨u,r,.inl ⟨hk,by simp⟩⟩
   .rw[List.getElem?_set_ne (Ne.symm hj)]at e2;obtain⟨u',r',q⟩:=hl j y v' e1 e2 e3;refine⟨u',r',?_⟩;rcases q with ⟨k,e⟩|⟨k,c,e,z⟩
    .refine .inl ⟨k,?_⟩;have:y≠x:=λe=>hj (tN hN e1 (e▸hi));simp[this,e]
    .exact .inr ⟨k,c,e,z.sameBut hs (tL y c e)⟩
  .obtain⟨w',z⟩:=I.cell y c e;exact⟨w',z.sameBut hs (tL y c e)⟩
  .obtain⟨e,n,ne,nf,d⟩:=I.pin p hp;exact⟨(hs.2 p.1 ne).trans e,n,ne,nf,d⟩
 .have hfn:X.fn x=true:=by
   rcases hf with z|z
   .exact z
   .rw[z]at hk;cases hk
  obtain⟨c,hc⟩:=I.ok.has x (.inl hk);obtain⟨w',z⟩:=I.cell x c hc;refine wpAny_storeName_cell I.ok.kind hk hc z (λh' hc' hs=>?_);obtain⟨oc,hoc,RJ⟩:=id z;refine h { s with heap:=h' } ⟨I.ok,I.os,I.bare,⟨λb o e n hb hx=>?_,λb o e n hb hx=>?_,I.base.free,λb o e hx=>?_,I.base.tups,I.base.lB,I.base.mR⟩,⟨m,hn.sameBut hs (Ne.symm (tL x c hc)),λj y v' e1 e2 e3=>?_⟩,λy c' e=>?_,I.free,I.iW,λp hp=>?_,tracked ⟨oc,hoc,I.iW x c hc⟩ hs,by simpa using I.len⟩ ⟨c,hs,.inr hc⟩
  .exact(hs.2 b (Nat.ne_of_lt (Nat.lt_of_lt_of_le (Heap.lt_size e) (I.ok.wc x c hfn hc)))).trans (I.base.keep b o e n hb hx)
  .obtain⟨sl,e1⟩:=I.base.slot b o e n hb hx;exact⟨sl,(hs.2 b (Nat.ne_of_lt (Nat.lt_of_lt_of_le (Heap.lt_size e) (I.ok.wc x c hfn hc)))).trans e1⟩
  .obtain⟨o',e1⟩:=I.base.there b o e hx;exact⟨o',(hs.2 b (Nat.ne_of_lt (Nat.lt_of_lt_of_le (Heap.lt_size e) (I.ok.wc x c hfn hc)))).trans e1⟩
  .by_cases hj:j=i
   .subst hj;rw[hi]at e1;cases e1;rw[List.getElem?_set_self II]at e2;cases e2;exact⟨u,r,.inr ⟨.inl hk,c,hc,hc'⟩⟩
   .rw[List.getElem?_set_ne (Ne.symm hj)]at e2;obtain⟨u',r',q⟩:=hl j y v' e1 e2 e3;refine⟨u',r',?_⟩;rcases q with q|⟨k,c',e,z'⟩
    .exact .inl q
    .refine .inr ⟨k,c',e,z'.sameBut hs ?_⟩;rintro rfl;exact hj (tN hN e1 (I.ok.inj _ _ _ e hc▸hi))
  .by_cases hcc:c'=c
   .subst hcc;exact⟨_,hc'⟩
   .obtain⟨w2,z2⟩:=I.cell y c' e;exact⟨w2,z2.sameBut hs hcc⟩
  .obtain⟨e,n,ne,nf,d⟩:=I.pin p hp;refine⟨(hs.2 p.1 ?_).trans e,n,ne,nf,d⟩;intro q;rw[q,hoc]at e;have q':oc=p.2:=Option.some.inj e;exact d w' (by rw[<-q'];exact RJ)
theorem tO{M:Model}{A:Around}{E:Value->Shared->Prop}{i:Nat}{x:Str}{v:V}{u:Value}{Q:Unit->Shared->Prop}(I:Inv X pins σ H s)(hN:X.N.Nodup)(hi:X.N[i]?=some x)(hx:Loc X.env.scope x)(r:RelV v u)
  (h:∀s',Inv X pins (σ.set i (some v)) H s'->Q () s') (hf:X.fn x=true\/X.env.scope.names.lookup x=some .local:=by first|exact .inl rfl|exact .inr rfl|assumption):wpAny M A (storeName X.env x u) Q E s:=
 rD I hN hi hx r (λs' I' _=>h s' I') hf
theorem Inv.NF{s':Shared}{ch:List Addr}(I:Inv X pins σ H s)(ho:s'.os=s.os)(u:Un (frs X.stack) ch H H' s.heap s'.heap)(hok:ee X.prog X.w H' s'.heap)(hg:AllBare s'.gens)
  (hch:∀b∈ch,(b∈X.ex\/X.s₀.heap.objs.size<=b)/\b≠X.env.locals/\(∀x c,X.env.cells.lookup x=some c->c≠b)/\∀p∈X.pn++pins,p.1≠b):Inv X pins σ H' s':=by
 obtain⟨h',g',d',t',o'⟩:=s';have e:o'=s.os:=ho;subst e;exact I.call (g':=g') (t':=t') (d':=d') u hok hg hch
end
abbrev XK:=Value->Option Addr->Hp->Prop
abbrev St:=List (Option V)
abbrev VK:=V->Hp->Prop
abbrev TE:=St->Hp->VK->Prop
abbrev TT:=St->Hp->(Bool->Hp->Prop)->Prop
abbrev TA:=St->Hp->(List V->Hp->Prop)->Prop
structure Ends where
 nx:St->Hp->Prop
 rt:VK
 bk:St->Hp->Prop:=λ_ _=>False
 ct:St->Hp->Prop:=λ_ _=>False
abbrev TS:=Ends->St->Hp->Prop
noncomputable def EP(X:Cx)(pins:List (Addr×Obj))(σ:St)(Q:VK)(u:Value)(s':Shared):Prop:=∃v H',Inv X pins σ H' s'/\RelV v u/\Q v H'
noncomputable def TP(X:Cx)(pins:List (Addr×Obj))(σ:St)(Q:Bool->Hp->Prop)(b:Bool)(s':Shared):Prop:=∃H',Inv X pins σ H' s'/\Q b H'
noncomputable def AP(X:Cx)(pins:List (Addr×Obj))(σ:St)(Q:List V->Hp->Prop)(us:List Value)(s':Shared):Prop:=∃vs H',Inv X pins σ H' s'/\Vals vs us/\Q vs H'
noncomputable def SP(X:Cx)(pins:List (Addr×Obj))(D:Ends)(f:Flow)(s':Shared):Prop:=
 match f with
 |.next=>∃σ' H',Inv X pins σ' H' s'/\D.nx σ' H'
 |.brk=>∃σ' H',Inv X pins σ' H' s'/\D.bk σ' H'
 |.cont=>∃σ' H',Inv X pins σ' H' s'/\D.ct σ' H'
 |.ret u=>∃v σ' H',Inv X pins σ' H' s'/\RelV v u/\D.rt v H'
noncomputable def PE(X:Cx)(e:Expr)(t:TE):Prop:=
 ∀(pins:List (Addr×Obj)) (s:Shared) (σ:St) (H:Hp) (Q:VK),Inv X pins σ H s->t σ H Q->wpAny (model X.prog X.w) X.A (eval e X.env) (EP X pins σ Q) X.xe s
noncomputable def PT(X:Cx)(e:Expr)(t:TT):Prop:=
 ∀(pins:List (Addr×Obj)) (s:Shared) (σ:St) (H:Hp) (Q:Bool->Hp->Prop),Inv X pins σ H s->t σ H Q->wpAny (model X.prog X.w) X.A (isTrue e X.env (eval e X.env)) (TP X pins σ Q) X.xe s
noncomputable def PW(X:Cx)(e:Expr)(t:TT):Prop:=
 ∀(whole:Sem Value) (pins:List (Addr×Obj)) (s:Shared) (σ:St) (H:Hp) (Q:Bool->Hp->Prop),Inv X pins σ H s->t σ H Q->wpAny (model X.prog X.w) X.A (isTrue e X.env whole) (TP X pins σ Q) X.xe s
theorem PW.pt{X:Cx}{e:Expr}{t:TT}(h:PW X e t):PT X e t:=h _
noncomputable def PA(X:Cx)(es:List Expr)(t:TA):Prop:=
 ∀(pos:Pos) (pins:List (Addr×Obj)) (s:Shared) (σ:St) (H:Hp) (Q:List V->Hp->Prop),Inv X pins σ H s->t σ H Q->wpAny (model X.prog X.w) X.A (spliced (backTo pos (starEach es X.env))) (AP X pins σ Q) X.xe s
noncomputable def PS(X:Cx)(st:Stmt)(t:TS):Prop:=
 ∀(pins:List (Addr×Obj)) (s:Shared) (σ:St) (H:Hp) (D:Ends),Inv X pins σ H s->t D σ H->wpAny (model X.prog X.w) X.A (exec st X.env) (SP X pins D) X.xe s
noncomputable def iM(X:Cx)(st:List Stmt)(t:TS):Prop:=
 ∀(pins:List (Addr×Obj)) (s:Shared) (σ:St) (H:Hp) (D:Ends),Inv X pins σ H s->t D σ H->wpAny (model X.prog X.w) X.A (execs st X.env) (SP X pins D) X.xe s
theorem bJ{α:Type}{t:Sem α}{Q Q':α->Shared->Prop}{M:Model}{A:Around}{E:Value->Shared->Prop}{s:Shared}(h:wpAny M A t Q E s)(hQ:∀a s,Q a s->Q' a s):wpAny M A t Q' E s:=wpAny_mono h hQ λ_ _ x=>x
end L2
namespace L2
open PySem PySem.Spec PyProof.Rows
section
variable{X:Cx}
theorem bin{a b:Expr}{ta tb:TE}(ha:PE X a ta)(hb:PE X b tb){pins:List (Addr×Obj)}{s:Shared}{σ:St}{H:Hp}{R:V->V->Hp->Prop}(I:Inv X pins σ H s)(h:ta σ H λx H1=>tb σ H1 λy H2=>R x y H2)
  {α:Type} {Q:α->Shared->Prop} {f:Value->Value->Sem α}
  (hf:∀v u s2 x y H2,Inv X pins σ H2 s2->RelV x v->RelV y u->R x y H2->wpAny (model X.prog X.w) X.A (f v u) Q X.xe s2) :
  wpAny (model X.prog X.w) X.A (eval a X.env) (λv s₁=>wpAny (model X.prog X.w) X.A (eval b X.env) (λu s₂=>wpAny (model X.prog X.w) X.A (f v u) Q X.xe s₂) X.xe s₁) X.xe s:=by
 refine bJ (ha pins s σ H _ I h) λv s1 ⟨x,H1,I1,r1,q1⟩=>?_;refine bJ (hb pins s1 σ H1 _ I1 q1) λu s2 ⟨y,H2,I2,r2,q2⟩=>?_;exact hf v u s2 x y H2 I2 r1 r2 q2
noncomputable def IJ(i:Nat):TE:=λσ H Q=>∃v,σ[i]?=some (some v)/\Q v H
noncomputable def tC(v:V):TE:=λ_ H Q=>Q v H
theorem zJ {i:Nat}{x:Str}{pos:Pos}(hN:X.N[i]?=some x) (hv:zG X.env.scope x) (hd:(x==("__debug__" : Str))=false:=by decide) (hcd:(x==("__classdict__" : Str))=false:=by decide):PE X (.Name x pos) (IJ i):=by
 intro pins s σ H Q I h;obtain⟨v,e,h⟩:=h;obtain⟨m,hn,hl⟩:=I.loc;obtain⟨u,r,l⟩:=hl i x v hN e hv;have fin:EP X pins σ Q u s:=⟨v,H,I,r,h⟩
 rcases l with ⟨hk,hm⟩|⟨hk,c,hc,hcell⟩
 .exact wpAny_Name (wpAny_loadName_local I.ok.kind hk hn hm fin) hd
 .rcases hk with hk|hk
  .exact wpAny_Name (wpAny_loadName_cell I.ok.kind hk hc hcell fin) hd
  .exact wpAny_Name (wpAny_loadName_free I.ok.kind hk hc hcell fin hcd) hd
theorem IK{i j pos}:PE X (.Constant (.int i) j pos) (tC (.int i)):=λ_ _ _ H _ I h=>wpAny_Constant_int ⟨.int i,H,I.tok _,⟨_,rfl⟩,h⟩
theorem NG{b j pos}:PE X (.Constant (.bool b) j pos) (tC (.bl b)):=λ_ _ _ H _ I h=>Constant_bool ⟨.bl b,H,I,rfl,h⟩
theorem IL{j pos}:PE X (.Constant .none j pos) (tC .aH):=λ_ _ _ H _ I h=>Constant_none ⟨.aH,H,I,rfl,h⟩
theorem IM{x j pos}:PE X (.Constant (.str x) j pos) (tC (.str x)):=λ_ _ _ H _ I h=>Calls.Constant_str ⟨.str x,H,I.tok _,⟨_,rfl⟩,h⟩
noncomputable def Gl(X:Cx)(x:Str):Prop:=X.env.kindOf x=some .globalImplicit
theorem qx{E:Value->Shared->Prop}{pins:List (Addr×Obj)}{s:Shared}{σ:St}{H:Hp}{x:Str}{u:Value}{pos:Pos}{Q:Value->Shared->Prop}(I:Inv X pins σ H s)(hg:Gl X x)(hm:X.mg x=some u)(h:Q u s)
  (hd:(x==("__debug__" : Str))=false:=by decide):wpAny (model X.prog X.w) X.A (eval (.Name x pos) X.env) Q E s:=
 Calls.Name_function_global I.ok.kind hg (Calls.loadGlobal_global (by rw[I.ok.glob];exact I.mod.glob.keeps I.bk) hm h) hd
theorem jN{E:Value->Shared->Prop}{pins:List (Addr×Obj)}{s:Shared}{σ:St}{H:Hp}{x:Str}{u:Value}{pos:Pos}{Q:Value->Shared->Prop}(I:Inv X pins σ H s)(hg:Gl X x)(hm:X.mg x=none)(hv:bootBuiltins x=some u)(h:Q u s)
  (hn:x≠"__name__" :=by decide) (hd:(x==("__debug__" : Str))=false:=by decide):wpAny (model X.prog X.w) X.A (eval (.Name x pos) X.env) Q E s:=by
 obtain⟨mb,h1,h2⟩:=I.mod.blt;exact Calls.Name_function_global I.ok.kind hg (Calls.loadGlobal_builtin (by rw[I.ok.glob];exact I.mod.glob.keeps I.bk) hm (by rw[I.ok.blt];exact h1.keeps I.bk) ((h2 x hn).trans hv) h) hd
theorem wj {x:Str}{v:V}{u:Value}{pos:Pos}(hg:Gl X x) (hm:X.mg x=some u) (r:RelV v u) (hd:(x==("__debug__" : Str))=false:=by decide):PE X (.Name x pos) (tC v):=
 λ_ _ _ H _ I h=>qx I hg hm ⟨v,H,I,r,h⟩ hd
theorem FO {x:Str}{v:V}{u:Value}{pos:Pos}(hg:Gl X x) (hm:X.mg x=none) (hv:bootBuiltins x=some u) (r:RelV v u) (hn:x≠"__name__" :=by decide) (hd:(x==("__debug__" : Str))=false:=by decide):PE X (.Name x pos) (tC v):=
 λ_ _ _ H _ I h=>jN I hg hm hv ⟨v,H,I,r,h⟩ hn hd
variable{a b:Expr}{ta tb:TE}{pos:Pos}
variable{tA En:TT}{rest:List Expr}
noncomputable def RK(t u:TT):TT:=λσ H Q=>t σ H λc H1=>if c=true then u σ H1 Q else Q false H1
noncomputable def Uo(t u:TT):TT:=λσ H Q=>t σ H λc H1=>if c=true then Q true H1 else u σ H1 Q
noncomputable def RL(t:TT):TT:=λσ H Q=>t σ H λc H1=>Q (!c) H1
theorem FP(ha:PT X a tA):PW X (.BoolOp .And [a] pos) tA:=by
 intro wh pins s σ H Q I h;refine isTrue_and (bJ (ha pins s σ H Q I h) λc s1 e=>?_);cases c with
 |true=>exact isTrue_and_nil e
 |false=>exact e
theorem IP(ha:PT X a tA):PW X (.BoolOp .Or [a] pos) tA:=by
 intro wh pins s σ H Q I h;refine isTrue_or (bJ (ha pins s σ H Q I h) λc s1 e=>?_);cases c with
 |false=>exact isTrue_or_nil e
 |true=>exact e
theorem IQ(ha:PT X a tA)(hb:PW X (.BoolOp .And (b :: rest) pos) En):PW X (.BoolOp .And (a :: b :: rest) pos) (RK tA En):=by
 intro wh pins s σ H Q I h;refine isTrue_and (bJ (ha pins s σ H _ I h) λc s1 ⟨H1,I1,q1⟩=>?_);cases c with
 |true=>exact hb wh pins s1 σ H1 Q I1 q1
 |false=>exact⟨H1,I1,q1⟩
theorem NH(ha:PT X a tA)(hb:PW X (.BoolOp .Or (b :: rest) pos) En):PW X (.BoolOp .Or (a :: b :: rest) pos) (Uo tA En):=by
 intro wh pins s σ H Q I h;refine isTrue_or (bJ (ha pins s σ H _ I h) λc s1 ⟨H1,I1,q1⟩=>?_);cases c with
 |true=>exact⟨H1,I1,q1⟩
 |false=>exact hb wh pins s1 σ H1 Q I1 q1
theorem IS(ha:PT X a tA):PT X (.UnaryOp .Not a pos) (RL tA):=by
 intro pins s σ H Q I h;exact isTrue_not (ha pins s σ H (λc H1=>Q (!c) H1) I h)
noncomputable def Up(t:TT)(ta tb:TE):TE:=λσ H Q=>t σ H λc H1=>if c=true then ta σ H1 Q else tb σ H1 Q
theorem B6{c:Expr}(hc:PT X c tA)(ha:PE X a ta)(hb:PE X b tb):PE X (.IfExp c a b pos) (Up tA ta tb):=by
 intro pins s σ H Q I h;refine wpAny_IfExp (bJ (hc pins s σ H _ I h) λd s1 ⟨H1,I1,q1⟩=>?_);cases d with
 |true=>exact ha pins s1 σ H1 Q I1 q1
 |false=>exact hb pins s1 σ H1 Q I1 q1
end
end L2
namespace L2
open PySem PySem.Spec PyProof.Rows
noncomputable def ef(K:PySem.W.Frag)(H:Hp)(a:Addr)(xs:List V):Prop:=
 Rd H a (.lst xs)\/
  ∃(o:Obj) (its:Array Value) (n:Nat),K.lookup a=some o/\o.cls=.type "list" /\o.dict=none/\o.data=.seq its n/\its.size<=sizeLine/\Vals xs its.toList
noncomputable def dH(K:PySem.W.Frag)(H:Hp)(a:Addr)(xs:List V):Prop:=
 Rd H a (.tup xs)\/
  ∃(o:Obj) (its:Array Value) (n:Nat),K.lookup a=some o/\o.cls=.type "tuple" /\o.data=.seq its n/\its.size<=sizeLine/\Vals xs its.toList
noncomputable def RM:Value->Option V
 |.none=>some .aH
 |.bool b=>some (.bl b)
 |.int i _=>some (.int i)
 |.str x _=>some (.str x)
 |.bytes b _=>some (.zD b)
 |.float b _=>some (.vZ b)
 |.ref a=>some (.ref a)
 |.type n=>some (.ty n)
 |_=>none
theorem RelV.abs{x:V}{u:Value}(r:RelV x u):RM u=some x:=by
 cases x with
 |aH=>cases r;rfl
 |bl _=>cases r;rfl
 |int _=>obtain⟨t,rfl⟩:=r;rfl
 |str _=>obtain⟨t,rfl⟩:=r;rfl
 |zD _=>obtain⟨t,rfl⟩:=r;rfl
 |vZ _=>obtain⟨t,rfl⟩:=r;rfl
 |ref _=>cases r;rfl
 |ty _=>cases r;rfl
theorem RelV.inj{x y:V}{u:Value}(r:RelV x u)(q:RelV y u):x=y:=Option.some.inj (r.abs.symm.trans q.abs)
theorem Vals.inj:∀{xs ys:List V}{us:List Value},Vals xs us->Vals ys us->xs=ys
 |_,_,_,.nil,.nil=>rfl
 |_,_,_,.cons r t,.cons r' t'=>by rw[r.inj r',Vals.inj t t']
section
variable{X:Cx}{pins:List (Addr×Obj)}{σ:St}{H:Hp}{s:Shared}{a:Addr}{xs ys:List V}
theorem ef.of{K:PySem.W.Frag}(h:H a=some (.lst xs)):ef K H a xs:=.inl (.inl h)
theorem dH.of{K:PySem.W.Frag}(h:H a=some (.tup xs)):dH K H a xs:=.inl (.inl h)
theorem Inv.list(I:Inv X pins σ H s)(h:ef X.K H a xs):∃its:List Value,Vals xs its/\PlainL s.heap a its.toArray/\xs.length<=sizeLine:=by
 rcases h with h|⟨o,its,n,hk,hc,hd,hs,hz,r⟩
 .obtain⟨z,its,n,r,e⟩:=h.ok I.hok;exact⟨its,r,⟨_,n,e,rfl,rfl,rfl⟩,z⟩
 .refine⟨its.toList,r,⟨o,n,I.gq a o hk,hc,hd,by simpa using hs⟩,?_⟩;have e:=r.length;simp only[Array.length_toList]at e;omega
theorem Inv.tuple(I:Inv X pins σ H s)(h:dH X.K H a xs):∃its:List Value,Vals xs its/\IsTup s.heap a its.toArray/\xs.length<=sizeLine:=by
 rcases h with h|⟨o,its,n,hk,hc,hs,hz,r⟩
 .obtain⟨z,its,r,p⟩:=h.ok I.hok;exact⟨its,r,p,z⟩
 .refine⟨its.toList,r,⟨o,I.gq a o hk,hc,n,by simpa using hs⟩,?_⟩;have e:=r.length;simp only[Array.length_toList]at e;omega
theorem Inv.tP(I:Inv X pins σ H s)(h:ef X.K H a xs)(h':ef X.K H a ys):xs=ys:=by
 obtain⟨its,r,⟨o,n,e,_,_,d⟩,_⟩:=I.list h;obtain⟨its',r',⟨o',n',e',_,_,d'⟩,_⟩:=I.list h';rw[e]at e';cases e';rw[d]at d';injection d' with d1 _
 have:its=its':=by simpa using congrArg Array.toList d1
 subst this;exact r.inj r'
theorem Inv.mS(I:Inv X pins σ H s)(h:dH X.K H a xs)(h':dH X.K H a ys):xs=ys:=by
 obtain⟨its,r,⟨o,e,_,n,d⟩,_⟩:=I.tuple h;obtain⟨its',r',⟨o',e',_,n',d'⟩,_⟩:=I.tuple h';rw[e]at e';cases e';rw[d]at d';injection d' with d1 _
 have:its=its':=by simpa using congrArg Array.toList d1
 subst this;exact r.inj r'
end
abbrev Cx.kB(X:Cx)(E:Value->Shared->Prop):Cx:={ X with xe:=E }
abbrev Cx.rE(X:Cx):Cx:=X.kB λ_ _=>False
theorem Cx.Ok.kB{X:Cx}(ok:X.Ok)(E:Value->Shared->Prop):(X.kB E).Ok:=
 ⟨ok.mod,ok.kind,ok.glob,ok.blt,ok.above,ok.inj,ok.has,ok.wc,ok.hd,ok.frames,ok.stk,ok.Ek,ok.bs,ok.rC,ok.qv,ok.qw,ok.jt,ok.tK⟩
theorem Cx.Ok.jd{X:Cx}{E:Value->Shared->Prop}(ok:(X.kB E).Ok):X.Ok:=
 ⟨ok.mod,ok.kind,ok.glob,ok.blt,ok.above,ok.inj,ok.has,ok.wc,ok.hd,ok.frames,ok.stk,ok.Ek,ok.bs,ok.rC,ok.qv,ok.qw,ok.jt,ok.tK⟩
section
variable{X:Cx}{pins:List (Addr×Obj)}{σ:St}{H:Hp}{s:Shared}{E:Value->Shared->Prop}
theorem Inv.kB(I:Inv X pins σ H s)(E:Value->Shared->Prop):Inv (X.kB E) pins σ H s:=⟨I.ok.kB E,I.os,I.bare,I.base,I.loc,I.cell,I.free,I.iW,I.pin,I.hok,I.len⟩
theorem Inv.jd(I:Inv (X.kB E) pins σ H s):Inv X pins σ H s:=⟨I.ok.jd,I.os,I.bare,I.base,I.loc,I.cell,I.free,I.iW,I.pin,I.hok,I.len⟩
theorem SP.jd{D:Ends}{f:Flow}{s':Shared}(h:SP (X.kB E) pins D f s'):SP X pins D f s':=by
 cases f with
 |next=>obtain⟨σ',H',I,q⟩:=h;exact⟨σ',H',I.jd,q⟩
 |brk=>obtain⟨σ',H',I,q⟩:=h;exact⟨σ',H',I.jd,q⟩
 |cont=>obtain⟨σ',H',I,q⟩:=h;exact⟨σ',H',I.jd,q⟩
 |ret u=>obtain⟨v,σ',H',I,r,q⟩:=h;exact⟨v,σ',H',I.jd,r,q⟩
theorem iM.rE{st:List Stmt}{t:TS}(h:iM X.rE st t):iM X st t:=λpins s σ H D I hw=>
 wpAny_mono (h pins s σ H D (I.kB _) hw) (λ_ _ q=>q.jd) λ_ _ z=>False.elim z
end
section
variable{X:Cx}{st:Stmt}{rest:List Stmt}{t u:TS}{e:Expr}{te:TE}{pos:Pos}
noncomputable def NI:TS:=λD σ H=>D.nx σ H
noncomputable def RN(t u:TS):TS:=λD σ H=>t { D with nx:=u D } σ H
theorem FQ:iM X [] NI:=λ_ _ σ H _ I h=>wpAny_execs_nil ⟨σ,H,I,h⟩
theorem B7(h1:PS X st t)(h2:iM X rest u):iM X (st :: rest) (RN t u):=by
 intro pins s σ H D I h;refine wpAny_execs_cons (bJ (h1 pins s σ H { D with nx:=u D } I h) λf s1 q=>?_);cases f with
 |next=>
  obtain⟨σ',H',I',q⟩:=q;exact h2 pins s1 σ' H' D I' q
 |ret v=>exact q
 |brk=>exact q
 |cont=>exact q
theorem Inv.quiet{pins:List (Addr×Obj)}{σ:St}{H:Hp}{s:Shared}(I:Inv X pins σ H s):interactive X.env=false:=by simp[interactive,I.ok.kind]
noncomputable def NJ(te:TE):TS:=λD σ H=>te σ H λ_ H1=>D.nx σ H1
theorem wk(he:PE X e te)(hs:swapsWith e none pos.line X.env=pure false:=by rfl):PS X (.Expr e pos) (NJ te):=by
 intro pins s σ H D I h;exact wpAny_Expr_any (bJ (he pins s σ H _ I h) λv s1 ⟨x,H1,I1,r1,q1⟩=>⟨σ,H1,I1,q1⟩) I.quiet hs
noncomputable def RP(te:TE):TS:=λD σ H=>te σ H D.rt
theorem IT(he:PE X e te):PS X (.Return (some e) pos) (RP te):=by
 intro pins s σ H D I h;exact wpAny_Return_some (bJ (he pins s σ H _ I h) λv s1 ⟨x,H1,I1,r1,q1⟩=>⟨x,σ,H1,I1,r1,q1⟩)
noncomputable def RQ(c:TT)(t u:TS):TS:=λD σ H=>c σ H λb H1=>if b=true then t D σ H1 else u D σ H1
theorem NK{c:Expr}{a b:List Stmt}{tc:TT}(hc:PT X c tc)(ha:iM X a t)(hb:iM X b u):PS X (.If c a b pos) (RQ tc t u):=by
 intro pins s σ H D I h;refine wpAny_If (bJ (hc pins s σ H _ I h) λd s1 ⟨H1,I1,q1⟩=>?_);cases d with
 |true=>exact ha pins s1 σ H1 D I1 q1
 |false=>exact hb pins s1 σ H1 D I1 q1
noncomputable def IU:TS:=λ_ _ _=>False
theorem B8:PS X st IU:=λ_ _ _ _ _ _ h=>h.elim
end
abbrev TG:=V->St->Hp->(St->Hp->Prop)->Prop
abbrev rF:=List V->St->Hp->(St->Hp->Prop)->Prop
noncomputable def PG(X:Cx)(target:Expr)(t:TG):Prop:=
 ∀(pins:List (Addr×Obj)) (s:Shared) (σ:St) (H:Hp) (v:V) (u:Value) (Q:St->Hp->Prop),Inv X pins σ H s->RelV v u->t v σ H Q->
  wpAny (model X.prog X.w) X.A (assign target X.env u) (λ_ s'=>∃σ' H',Inv X pins σ' H' s'/\Q σ' H') X.xe s
noncomputable def oz(X:Cx)(ts:List Expr)(t:rF):Prop:=
 ∀(pins:List (Addr×Obj)) (s:Shared) (σ:St) (H:Hp) (vs:List V) (us:List Value) (Q:St->Hp->Prop),Inv X pins σ H s->Vals vs us->t vs σ H Q->
  wpAny (model X.prog X.w) X.A (assignInOrder ((assignEach ts X.env).map (·.2)) us) (λ_ s'=>∃σ' H',Inv X pins σ' H' s'/\Q σ' H') X.xe s
abbrev B9:=V->V->V->Hp->(Hp->Prop)->Prop
noncomputable def IV(X:Cx)(t:B9):Prop:=
 ∀(pins:List (Addr×Obj)) (s:Shared) (σ:St) (H:Hp) (o i v:V) (ov iv u:Value) (Q:Hp->Prop),Inv X pins σ H s->RelV o ov->RelV i iv->RelV v u->t o i v H Q->
  wpAny (model X.prog X.w) X.A (setItem ov iv u) (λ_ s'=>∃H',Inv X pins σ H' s'/\Q H') X.xe s
section
variable{X:Cx}{pos:Pos}
noncomputable def Ep(i:Nat):TG:=λv σ H Q=>Q (σ.set i (some v)) H
theorem wm{i:Nat}{x:Str}(hN:X.N.Nodup)(hi:X.N[i]?=some x)(hx:Loc X.env.scope x)(hf:X.fn x=true\/X.env.scope.names.lookup x=some .local:=by first|exact .inl rfl|exact .inr rfl|assumption):PG X (.Name x pos) (Ep i):=by
 intro pins s σ H v u Q I r h;exact wpAny_assign_Name (tO I hN hi hx r (λs' I'=>⟨_,H,I',h⟩) hf)
noncomputable def RS:rF:=λvs σ H Q=>vs=[]/\Q σ H
noncomputable def NL(t:TG)(u:rF):rF:=λvs σ H Q=>∃v r,vs=v :: r/\t v σ H λσ' H'=>u r σ' H' Q
theorem FT:oz X [] RS:=by
 intro pins s σ H vs us Q I r h;obtain⟨e,h⟩:=h;subst e;cases r;exact assignInOrder_nil ⟨σ,H,I,h⟩
theorem Ca{e:Expr}{es:List Expr}{t:TG}{u:rF}(h1:PG X e t)(h2:oz X es u)
  (hs:(assignEach (e :: es) X.env).map (·.2)=assign e X.env :: (assignEach es X.env).map (·.2):=by rfl):oz X (e :: es) (NL t u):=by
 intro pins s σ H vs us Q I r h;obtain⟨v,vr,e1,h⟩:=h;subst e1;cases r with
 |cons r rr=>
  rw[hs];refine assignInOrder_cons (bJ (h1 pins s σ H _ _ _ I r h) λ_ s1 ⟨σ1,H1,I1,q1⟩=>?_);exact h2 pins s1 σ1 H1 _ _ Q I1 rr q1
noncomputable def RT(K:PySem.W.Frag)(n:Nat)(t:rF):TG:=λv σ H Q=>∃a xs,v=.ref a/\dH K H a xs/\xs.length=n/\t xs σ H Q
theorem IW{es:List Expr}{k:Nat}{t:rF}{n:Nat}(hc:X.calm=true)(h:oz X es t)
  (hn:(assignEach es X.env).length=n:=by rfl) (hst:(assignEach es X.env).findIdx? (·.1)=none:=by rfl):PG X (.Tuple es k pos) (RT X.K n t):=by
 intro pins s σ H v u Q I r hw;obtain⟨a,xs,e1,hq,hl,hw⟩:=hw;subst e1;cases r;obtain⟨its,rv,ht,hz⟩:=I.tuple hq;refine assign_Tuple_tuple (I.ok.hd hc) ht (by simp[hn,<-hl,rv.length]) hst λh' hx=>?_;have I1:Inv X pins σ H { s with heap:=h' }:=I.kept (t':=s.toks) λb o e=>hx b o (Nat.ne_of_lt (Heap.lt_size e)) e;exact h pins _ σ H xs _ Q I1 (by simpa using rv) hw
noncomputable def RU(to ti:TE)(t:B9):TG:=λv σ H Q=>to σ H λo H1=>ti σ H1 λi H2=>t o i v H2 λH3=>Q σ H3
theorem IX{o i:Expr}{to ti:TE}{t:B9}(ho:PE X o to)(hi:PE X i ti)(hs:IV X t)
  (ha:∀v,assign (.Subscript o i pos) X.env v=(do
   let ov <-holding [v] (eval o X.env)
   let iv <-holding [v,ov] (eval i X.env)
   standAt pos
   holding [v,ov,iv] (setItem ov iv v)
   release [v,ov,iv] []):=by intro _;rfl):PG X (.Subscript o i pos) (RU to ti t):=by
 intro pins s σ H v u Q I r h;rw[ha];refine wpAny_bind (wpAny_holding (bJ (ho pins s σ H _ I h) λov s1 ⟨x,H1,I1,r1,q1⟩=>?_));refine wpAny_bind (wpAny_holding (bJ (hi pins s1 σ H1 _ I1 q1) λiv s2 ⟨y,H2,I2,r2,q2⟩=>?_));refine wpAny_bind (wpAny_standAt (wpAny_bind (wpAny_holding (bJ (hs pins s2 σ H2 x y v ov iv u _ I2 r1 r2 r q2) λ_ s3 ⟨H3,I3,q3⟩=>?_))));exact wpAny_release ⟨σ,H3,I3,q3⟩
noncomputable def IY(te:TE)(g:TG):TS:=λD σ H=>te σ H λx H1=>g x σ H1 D.nx
theorem zK{tg e:Expr}{te:TE}{g:TG}(he:PE X e te)(hg:PG X tg g)(hs:swapsWithSole [tg] e pos.line X.env=pure false:=by rfl)(hw:swappedStores [tg] e X.env=pure none:=by rfl)
  (h1:(assignEach [tg] X.env).map (·.2)=[assign tg X.env]:=by rfl):PS X (.Assign [tg] e pos) (IY te g):=by
 intro pins s σ H D I h;refine wpAny_Assign_stores (bJ (he pins s σ H _ I h) λv s1 ⟨x,H1,I1,r1,q1⟩=>?_) hs hw;rw[h1];exact bJ (hg pins s1 σ H1 x v _ I1 r1 q1) λ_ s2 q=>q
theorem zL{i:Nat}{x:Str}{e:Expr}{te:TE}{pos':Pos}(hN:X.N.Nodup)(hi:X.N[i]?=some x)(hx:Loc X.env.scope x)(he:PE X e te)(hs:swapsWith e (some (.Name x pos')) pos.line X.env=pure false:=by rfl)(hf:X.fn x=true\/X.env.scope.names.lookup x=some .local:=by first|exact .inl rfl|exact .inr rfl|assumption) :
  PS X (.Assign [.Name x pos'] e pos) (IY te (Ep i)):=by
 intro pins s σ H D I h;refine wpAny_Assign_Name (bJ (he pins s σ H _ I h) λv s1 ⟨y,H1,I1,r1,q1⟩=>?_) hs;exact tO I1 hN hi hx r1 (λs2 I2=>⟨_,H1,I2,q1⟩) hf
end
section
variable{X:Cx}{pos:Pos}
end
structure It where
 go:Nat->Hp->Prop
 Er:Nat->Hp->V->Hp->Prop
 stop:Nat->Hp->Prop
noncomputable def gr(X:Cx)(pins:List (Addr×Obj))(H:Hp)(b:Addr):Prop:=
 H b=none/\b≠X.env.locals/\b∉X.fs/\(b∈X.ex\/X.s₀.heap.objs.size<=b)/\(∀x c,X.env.cells.lookup x=some c->c≠b)/\∀p∈X.pn++pins,p.1≠b
theorem Inv.x8{X:Cx}{pins:List (Addr×Obj)}{σ:St}{H H':Hp}{s:Shared}{b:Addr}(I:Inv X pins σ H s)(hb:s.heap.objs.size<=b)(hn:H' b=none):gr X pins H' b:=by
 refine⟨hn,Nat.ne_of_gt (Nat.lt_of_lt_of_le I.lt hb),I.RI hb,.inr (Nat.le_trans I.sz hb),λx c e z=>?_,λp hp z=>?_⟩
 .obtain⟨v,q⟩:=I.cell x c e;exact absurd (Nat.lt_of_lt_of_le q.lt (by rw[z];exact hb)) (Nat.lt_irrefl _)
 .exact absurd (Nat.lt_of_lt_of_le (Heap.lt_size (I.pin p hp).1) (by rw[z];exact hb)) (Nat.lt_irrefl _)
structure Turn(P:Program)(w:World)(K:PySem.W.Frag)(tg:Expr)(J:It)(fp:List Addr)(it:Addr)(tn:Nat->Heap->Prop):Prop where
 mem:it∈fp
 obj:∀i h,tn i h->∀b∈fp,∃o,h.get? b=some o/\∀v,o.data≠.cell v
 keep:∀i h h',tn i h->(∀b∈fp,∀o,h.get? b=some o->h'.get? b=some o)->tn i h'
 item:∀(X:Cx),X.prog=P->X.w=w->X.K=K->X.calm=true->∀(i:Nat) (pins:List (Addr×Obj)) (s:Shared) (σ:St) (H:Hp) (E:Value->Shared->Prop),Inv X pins σ H s->(∀b∈fp,gr X pins H b)->tn i s.heap->J.go i H->
  wpAny (model P w) X.A (pyNext (.ref it)) (λr s1=>∃u,r=some u/\
   wpAny (model P w) X.A (letOwnedTupleGo tg (.ref it) u) (λ_ s2=>∃x H',Inv X pins σ H' s2/\RelV x u/\J.Er i H x H'/\tn (i+1) s2.heap/\∀b∈fp,H' b=none) E s1) E s
 done:∀(X:Cx),X.prog=P->X.w=w->X.K=K->X.calm=true->∀(i:Nat) (pins:List (Addr×Obj)) (s:Shared) (σ:St) (H:Hp) (E:Value->Shared->Prop),Inv X pins σ H s->(∀b∈fp,gr X pins H b)->tn i s.heap->J.stop i H->
  wpAny (model P w) X.A (pyNext (.ref it)) (λr s1=>r=none/\Inv X pins σ H s1) E s
 self:∀(A:Around) (i:Nat) (s:Shared) (Q:Value->Shared->Prop) (E:Value->Shared->Prop),tn i s.heap->Q (.ref it) s->wpAny (model P w) A (pyIter (.ref it)) Q E s
abbrev TI:=St->Hp->(It->Hp->Prop)->Prop
noncomputable def Qk(X:Cx)(pins:List (Addr×Obj))(σ:St)(tg:Expr)(R:It->Hp->Prop)(itv:Value)(s2:Shared):Prop:=
 ∃(it:Addr) (fp:List Addr) (tn:Nat->Heap->Prop) (J:It) (H':Hp),itv=.ref it/\Inv X pins σ H' s2/\Turn X.prog X.w X.K tg J fp it tn/\tn 0 s2.heap/\(∀b∈fp,gr X pins H' b)/\R J H'
noncomputable def PI(X:Cx)(tg iter:Expr)(wi:TI):Prop:=
 ∀(pins:List (Addr×Obj)) (s:Shared) (σ:St) (H:Hp) (R:It->Hp->Prop),Inv X pins σ H s->wi σ H R->
  wpAny (model X.prog X.w) X.A (eval iter X.env) (λv s1=>wpAny (model X.prog X.w) X.A (pyIter v) (Qk X pins σ tg R) X.xe s1) X.xe s
theorem x9{M:Model}{A:Around}{E:Value->Shared->Prop}{s:Shared}{tg:Expr}{it:Addr}{u:Value}{o:Obj}{n:String}{vs:Array Value}{Q:Unit->Shared->Prop}(ho:s.heap.get? it=some o)(hc:o.cls=.type n)(hd:o.data=.fields vs)
    (hn:["enumerate","zip","dict_itemiterator","dict_reverseitemiterator","odict_iterator","itertools.zip_longest","itertools.pairwise"].contains n=false) (hQ:Q () s):wpAny M A (letOwnedTupleGo tg (.ref it) u) Q E s:=by
  unfold letOwnedTupleGo;cases tg<;>first
    |exact wpAny_pure hQ
    | (cases u<;>first
        |exact wpAny_pure hQ
        | (refine wpAny_bind (wpAny_load ho ?_)
           rw[hc,hd];show wpAny M A (if (["enumerate","zip","dict_itemiterator","dict_reverseitemiterator","odict_iterator","itertools.zip_longest","itertools.pairwise"].contains n&&vs[0]?==some (rawInt _))=true then _ else _) Q E s;rw[if_neg (by intro h;rw[hn,Bool.false_and]at h;cases h)];exact wpAny_pure hQ))
noncomputable def Ql(K:PySem.W.Frag)(a:Addr):It:=
 ⟨λi H=>∃xs x,ef K H a xs/\xs[i]?=some x,λi H x H'=>H'=H/\∀xs,ef K H a xs->xs[i]?=some x,λi H=>∃xs,ef K H a xs/\xs.length<=i⟩
noncomputable def Qm(K:PySem.W.Frag)(a:Addr):It:=
 ⟨λi H=>∃xs x,dH K H a xs/\xs[i]?=some x,λi H x H'=>H'=H/\∀xs,dH K H a xs->xs[i]?=some x,λi H=>∃xs,dH K H a xs/\xs.length<=i⟩
noncomputable def Et(lo:Int)(n:Nat):It:=⟨λi _=>i<n,λi H x H'=>H'=H/\x=.int (lo+i),λi _=>n<=i⟩
theorem zM{P:Program}{w:World}{K:PySem.W.Frag}{tg:Expr}(a it:Addr):Turn P w K tg (Ql K a) [it] it (λi h=>h.IsListIter it a i) where
 mem:=by simp
 obj:=λi h st b hb=>by
  have e:b=it:=by simpa using hb
  subst e;obtain⟨o,e,c,d⟩:=st;exact⟨o,e,λv z=>by rw[d]at z;cases z⟩
 keep:=λi h h' st k=>st.at λo e=>k it (by simp) o e
 item:=by
  intro X hP hw hK hc i pins s σ H E I hf st hg;subst hP hw hK;obtain⟨xs,x,hq,hx⟩:=hg;obtain⟨its,rv,p,hz⟩:=I.list hq;obtain⟨u,hu,ru⟩:=rv.get hx;obtain⟨f0,f1,f2,f3,f4,f5⟩:=hf it (by simp);refine wpAny_pyNext_list_item st p.isList (x:=u) (by simpa using hu) λh' st' sb=>?_;have I1:Inv X pins σ H { s with heap:=h' }:=I.turned (t':=s.toks) (λb o hb e=>(sb.2 b hb).trans e) f0 f1 f3 f4 f5;obtain⟨o,e,c,d⟩:=id st';exact⟨u,rfl,x9 (s:={ s with heap:=h' }) e c d (by decide) ⟨x,H,I1,ru,⟨rfl,λys hy=>by rw[I.tP hy hq];exact hx⟩,st',λb hb=>(hf b hb).1⟩⟩
 done:=by
  intro X hP hw hK hc i pins s σ H E I hf st hg;subst hP hw hK;obtain⟨xs,hq,hx⟩:=hg;obtain⟨its,rv,p,hz⟩:=I.list hq;obtain⟨f0,f1,f2,f3,f4,f5⟩:=hf it (by simp);have hl:=rv.length;exact wpAny_pyNext_list_end (I.ok.hd hc) st p.isList (by simp;omega) λh' eb=>⟨rfl,I.turned (t':=s.toks) (λb o hb e=>eb b o hb e) f0 f1 f3 f4 f5⟩
 self:=λ_ _ _ _ _ st h=>wpAny_pyIter_listiter st h
theorem yc{P:Program}{w:World}{K:PySem.W.Frag}{tg:Expr}(a it:Addr):Turn P w K tg (Qm K a) [it] it (λi h=>h.IsTupleIter it a i) where
 mem:=by simp
 obj:=λi h st b hb=>by
  have e:b=it:=by simpa using hb
  subst e;obtain⟨o,e,c,d⟩:=st;exact⟨o,e,λv z=>by rw[d]at z;cases z⟩
 keep:=λi h h' st k=>st.at λo e=>k it (by simp) o e
 item:=by
  intro X hP hw hK hc i pins s σ H E I hf st hg;subst hP hw hK;obtain⟨xs,x,hq,hx⟩:=hg;obtain⟨its,rv,p,hz⟩:=I.tuple hq;obtain⟨u,hu,ru⟩:=rv.get hx;obtain⟨f0,f1,f2,f3,f4,f5⟩:=hf it (by simp);refine wpAny_pyNext_tuple_item st (show s.heap.IsTuple a its.toArray from p) (x:=u) (by simpa using hu) λh' st' sb=>?_;have I1:Inv X pins σ H { s with heap:=h' }:=I.turned (t':=s.toks) (λb o hb e=>(sb.2 b hb).trans e) f0 f1 f3 f4 f5;obtain⟨o,e,c,d⟩:=id st';exact⟨u,rfl,x9 (s:={ s with heap:=h' }) e c d (by decide) ⟨x,H,I1,ru,⟨rfl,λys hy=>by rw[I.mS hy hq];exact hx⟩,st',λb hb=>(hf b hb).1⟩⟩
 done:=by
  intro X hP hw hK hc i pins s σ H E I hf st hg;subst hP hw hK;obtain⟨xs,hq,hx⟩:=hg;obtain⟨its,rv,p,hz⟩:=I.tuple hq;obtain⟨f0,f1,f2,f3,f4,f5⟩:=hf it (by simp);have hl:=rv.length;exact wpAny_pyNext_tuple_end (I.ok.hd hc) st (show s.heap.IsTuple a its.toArray from p) (by simp;omega) λh' eb=>⟨rfl,I.turned (t':=s.toks) (λb o hb e=>eb b o hb e) f0 f1 f3 f4 f5⟩
 self:=λ_ _ _ _ _ st h=>wpAny_pyIter_tupleiter st h
theorem yd{P:Program}{w:World}{K:PySem.W.Frag}{tg:Expr}(it:Addr)(lo:Int)(n:Nat):Turn P w K tg (Et lo n) [it] it (λi h=>IsRangeIter h it (lo+(i:Nat)*1) ((n:Int) - (i:Nat)) 1) where
 mem:=by simp
 obj:=λi h st b hb=>by
  have e:b=it:=by simpa using hb
  subst e;exact⟨_,st,λv z=>by
   have z':Data.fields _=Data.cell v:=z;cases z'⟩
 keep:=λi h h' st k=>k it (by simp) _ st
 item:=by
  intro X hP hw hK hc i pins s σ H E I hf st hg;subst hP hw hK;obtain⟨f0,f1,f2,f3,f4,f5⟩:=hf it (by simp);have W:=Walks.range (prog:=X.prog) (w:=X.w) (I.ok.hd hc) it lo 1 n;refine W.item i s _ _ hg st λv h' tk hv st' kk=>?_;obtain⟨t,rfl⟩:=hv;have I1:Inv X pins σ H { s with heap:=h',toks:=tk }:=I.turned (λb o hb e=>kk b o (by simpa using hb) e) f0 f1 f3 f4 f5;refine⟨_,rfl,x9 (s:={ s with heap:=h',toks:=tk }) (n:="range_iterator") st' rfl rfl (by decide) ⟨.int (lo+i),H,I1,⟨t,?_⟩,⟨rfl,rfl⟩,st',λb hb=>(hf b hb).1⟩⟩;rw[Int.mul_one]
 done:=by
  intro X hP hw hK hc i pins s σ H E I hf st hg;subst hP hw hK;obtain⟨f0,f1,f2,f3,f4,f5⟩:=hf it (by simp);exact wpAny_pyNext_range_end (I.ok.hd hc) st (by have:n<=i:=hg;omega) λh' eb=>⟨rfl,I.turned (t':=s.toks) (λb o hb e=>eb b o hb e) f0 f1 f3 f4 f5⟩
 self:=λ_ _ _ _ _ st h=>wpAny_pyIter_rangeiter st h
end L2
namespace L2
open PySem PySem.Spec PyProof.Rows
section
variable{X:Cx}{tg:Expr}
theorem Cb{pins:List (Addr×Obj)}{σ:St}{H:Hp}{s:Shared}{R:It->Hp->Prop}{E:Value->Shared->Prop}{lo hi:Int}{t u v:Tok}{tk:Nat}(I:Inv X pins σ H s)(h1:-(2 ^ 62)<=lo)(h2:lo<2 ^ 62)(h3:-(2 ^ 62)<=hi)(h4:hi<2 ^ 62)
  (q:R (Et lo (hi - lo).toNat) H):wpAny (model X.prog X.w) X.A (pyIter (.ref s.heap.objs.size)) (Qk X pins σ tg R) E { s with heap:=s.heap.push { cls:=.type "range",data:=.fields #[.int lo t,.int hi u,.int 1 v]},toks:=tk }:=by
 refine wpAny_pyIter_range (IsRange.new ..) (small_one h1 h2 h3 h4) ?_;have I1:Inv X pins σ H { s with heap:=s.heap.push { cls:=.type "range",data:=.fields #[.int lo t,.int hi u,.int 1 v]},toks:=tk }:=I.kept λb o e=>Heap.get?_push_of_some _ e;refine⟨(s.heap.push { cls:=.type "range",data:=.fields #[.int lo t,.int hi u,.int 1 v]}).objs.size,[(s.heap.push { cls:=.type "range",data:=.fields #[.int lo t,.int hi u,.int 1 v]}).objs.size],_,_,H,rfl,
  I1.kept (t':=tk) λb o e=>Heap.get?_push_of_some _ e,yd _ lo (hi - lo).toNat,?_,λb hb=>?_,q⟩
 .have e1:lo+((0:Nat):Int)*1=lo:=by simp
  have e2:(((hi - lo).toNat:Nat):Int) - ((0:Nat):Int)=Builtin.Range.rangeSize lo hi 1:=by rw[rangeSize_one];split<;>omega
  show IsRangeIter _ _ (lo+((0:Nat):Int)*1) ((((hi - lo).toNat:Nat):Int) - ((0:Nat):Int)) 1;rw[e1,e2];exact Heap.get?_push_size _ rfl
 .have e:b=(s.heap.push { cls:=.type "range",data:=.fields #[.int lo t,.int hi u,.int 1 v]}).objs.size:=by simpa using hb
  subst e;exact I1.x8 (Nat.le_refl _) (I1.hok.fresh (Nat.le_refl _))
noncomputable def NN(ta:TA):TI:=λσ H R=>ta σ H λvs H1=>∃j:Int,vs=[.int j]/\-(2 ^ 62)<=j/\j<2 ^ 62/\R (Et 0 j.toNat) H1
theorem zN {a:Expr}{ta:TA}{p pos:Pos}(hg:Gl X "range") (hm:X.mg "range" = none) (ha:PA X [a] ta) (hs:starEach [a] X.env=[(false,eval a X.env)]:=by rfl):PI X tg (.Call (.Name "range" p) [a] [] pos) (NN ta):=by
 intro pins s σ H R I h;refine Call_ (jN I hg hm boot_range (PyProof.Rows.callWith_type1 (bJ (ha pos pins s σ H _ I h) λus s1 ⟨vs,H1,I1,r1,q1⟩=>?_) hs rfl));obtain⟨j,e,q1,q2,q⟩:=q1;subst e;cases r1 with
 |cons r rr=>
  cases rr;obtain⟨t,rfl⟩:=r;exact call_range_1 (Cb I1 (by omega) (by omega) q1 q2 (by simpa using q))
noncomputable def RW(wi:TI)(g:TG)(tb:TS):TS:=λD σ H=>wi σ H λJ H1=>∃W:Nat->Nat->St->Hp->Prop,(∃m,W 0 m σ H1)/\∀i m σ H,W i m σ H->
 (J.stop i H/\D.nx σ H)\/(J.go i H/\∃N:St->Hp->Prop,(∀σ' H',N σ' H'->∃m',m'<m/\W (i+1) m' σ' H')/\∀x H',J.Er i H x H'->g x σ H' λσ2 H2=>tb { D with nx:=N,ct:=N,bk:=D.nx } σ2 H2)
noncomputable def mT(fp:List Addr)(h:Heap):List (Addr×Obj):=fp.filterMap λb=>(h.get? b).map λo=>(b,o)
theorem jC{fp:List Addr}{h:Heap}{b:Addr}{o:Obj}(hb:b∈fp)(e:h.get? b=some o):(b,o)∈mT fp h:=List.mem_filterMap.mpr ⟨b,hb,by rw[e];rfl⟩
theorem zO{fp:List Addr}{h:Heap}{p:Addr×Obj}(hp:p∈mT fp h):p.1∈fp/\h.get? p.1=some p.2:=by
 obtain⟨b,hb,e⟩:=List.mem_filterMap.mp hp;cases q:h.get? b with
 |none=>rw[q]at e;cases e
 |some o=>
  rw[q]at e;have e':(b,o)=p:=Option.some.inj e;subst e';exact⟨hb,q⟩
theorem Inv.pinned{pins:List (Addr×Obj)}{σ:St}{H:Hp}{s:Shared}{fp:List Addr}(I:Inv X pins σ H s)(hf:∀b∈fp,gr X pins H b)(ho:∀b∈fp,∃o,s.heap.get? b=some o/\∀v,o.data≠.cell v):Inv X (pins++mT fp s.heap) σ H s:=
 I.wg λp hp=>(List.mem_append.mp hp).elim (λz=>I.pin p (List.mem_append_right _ z)) λz=>by
  obtain⟨hb,e⟩:=zO z;obtain⟨f0,f1,f2,_⟩:=hf p.1 hb;obtain⟨o,e',d⟩:=ho p.1 hb;rw[e]at e';cases e';exact⟨e,f0,f1,f2,d⟩
theorem Inv.lD{pins pl:List (Addr×Obj)}{σ:St}{H:Hp}{s:Shared}(I:Inv X (pins++pl) σ H s):Inv X pins σ H s:=I.wg λp hp=>I.pin p (List.mem_append_right _ (List.mem_append_left _ hp))
theorem IZ{iter:Expr}{body:List Stmt}{wi:TI}{g:TG}{tb:TS}{pos:Pos}(hp:PassesOwn (model X.prog X.w) X.A X.env X.xe)(hc:X.calm=true)(hi:PI X tg iter wi)(hg:PG X tg g)(hb:iM X body tb)
  (hs:∀x,foldedSetIterable iter X.env x=pure x:=by intro _;rfl):PS X (.For tg iter body [] pos) (RW wi g tb):=by
 intro pins s σ H D I h;refine wpAny_For (bJ (hi pins s σ H _ I h) λv s1 h1=>bJ h1 λitv s2 h2=>?_) hs;obtain⟨it,fp,tn,J,H2,e,I2,T,st2,f2,W,⟨m0,w0⟩,turn⟩:=h2;subst e;have lE:∀{H':Hp},(∀b∈fp,H' b=none)->∀b∈fp,gr X pins H' b:=λhn b hb=>⟨hn b hb,(f2 b hb).2⟩
 refine codeAny_forLoop_any (λn s'=>∃i σ' H',Inv X pins σ' H' s'/\tn i s'.heap/\(∀b∈fp,H' b=none)/\W i n σ' H') ?_ m0 ⟨0,σ,H2,I2,st2,λb hb=>(f2 b hb).1,w0⟩;rintro n s3 ⟨i,σ3,H3,I3,st3,bE,w3⟩;rcases turn i n σ3 H3 w3 with ⟨stop,qn⟩|⟨go,N,hN,step⟩
 .refine wpAny_passesOwn hp (bJ (T.done X rfl rfl rfl hc i pins s3 σ3 H3 X.xe I3 (lE bE) st3 stop) λr s4 ⟨hr,I4⟩=>?_);subst hr;exact wpAny_execs_nil ⟨σ3,H3,I4,qn⟩
 .refine wpAny_passesOwn hp (bJ (T.item X rfl rfl rfl hc i pins s3 σ3 H3 X.xe I3 (lE bE) st3 go) λr s4 ⟨u,hr,h4⟩=>?_);subst hr;refine wpAny_passesOwn hp (bJ h4 λ_ s5 ⟨x,H5,I5,r5,y5,wo,mU⟩=>?_);have Uq:=I5.pinned (lE mU) (T.obj _ _ wo);refine wpAny_passesOwn hp (bJ (hg _ s5 σ3 H5 x u _ Uq r5 (step x H5 y5)) λ_ s6 ⟨Ur,H6,I6,q6⟩=>?_);refine wpAny_passesOwn hp (bJ (hb _ s6 Ur H6 _ I6 q6) λf s7 q7=>?_);have again:∀{mV:St} {H7:Hp},Inv X (pins++mT fp s5.heap) mV H7 s7->N mV H7->∃m,m<n/\∃i σ' H',Inv X pins σ' H' s7/\tn i s7.heap/\(∀b∈fp,H' b=none)/\W i m σ' H':=λ{mV H7} I7 n7=>by
   obtain⟨m',hm,w7⟩:=hN mV H7 n7;refine⟨m',hm,i+1,mV,H7,I7.lD,T.keep _ _ _ wo λb hb o e=>(I7.pin (b,o) (List.mem_append_right _ (List.mem_append_right _ (jC hb e)))).1,λb hb=>?_,w7⟩;obtain⟨o,e,d⟩:=T.obj _ _ wo b hb;exact(I7.pin (b,o) (List.mem_append_right _ (List.mem_append_right _ (jC hb e)))).2.1
  cases f with
  |next=>obtain⟨mV,H7,I7,n7⟩:=q7;exact again I7 n7
  |cont=>obtain⟨mV,H7,I7,n7⟩:=q7;exact again I7 n7
  |brk=>obtain⟨mV,H7,I7,q7⟩:=q7;exact⟨mV,H7,I7.lD,q7⟩
  |ret v=>obtain⟨x7,mV,H7,I7,r7,q7⟩:=q7;exact⟨x7,mV,H7,I7.lD,r7,q7⟩
end
end L2
namespace L2
open PySem PySem.Spec PyProof.Rows
abbrev R2:=V->V->Hp->VK->Prop
noncomputable def dJ(X:Cx)(f:Value->Value->Sem Value)(r:R2):Prop:=
 ∀(pins:List (Addr×Obj)) (s:Shared) (σ:St) (H:Hp) (x y:V) (v u:Value) (Q:VK),Inv X pins σ H s->RelV x v->RelV y u->r x y H Q->
  wpAny (model X.prog X.w) X.A (f v u) (EP X pins σ Q) X.xe s
noncomputable def gh(X:Cx)(f:Value)(r:List V->Hp->VK->Prop):Prop:=
 ∀(pins:List (Addr×Obj)) (s:Shared) (σ:St) (H:Hp) (xs:List V) (us:List Value) (Q:VK),Inv X pins σ H s->Vals xs us->r xs H Q->
  wpAny (model X.prog X.w) X.A (call f us) (EP X pins σ Q) X.xe s
noncomputable def RX(X:Cx)(r:V->Hp->(Bool->Hp->Prop)->Prop):Prop:=
 ∀(pins:List (Addr×Obj)) (s:Shared) (σ:St) (H:Hp) (x:V) (v:Value) (Q:Bool->Hp->Prop),Inv X pins σ H s->RelV x v->r x H Q->
  wpAny (model X.prog X.w) X.A (truthy v) (TP X pins σ Q) X.xe s
noncomputable def zP(r:R2)(ta tb:TE):TE:=λσ H Q=>ta σ H λx H1=>tb σ H1 λy H2=>r x y H2 Q
noncomputable def rI(C:Int->Int->Prop)(g:Int->Int->V):R2:=λx y H Q=>∃i j,x=.int i/\y=.int j/\C i j/\Q (g i j) H
noncomputable def wu(g:Int->Int->V):R2:=λx y H Q=>∃i j,x=.int i/\y=.int j/\Q (g i j) H
section
variable{X:Cx}{a b c:Expr}{ta tb tc:TE}{pos:Pos}
theorem ye(ha:PE X a ta)(hb:PE X b tb){pins:List (Addr×Obj)}{s:Shared}{σ:St}{H:Hp}{R:V->V->Hp->Prop}(I:Inv X pins σ H s)
  (h:ta σ H λx H1=>tb σ H1 λy H2=>R x y H2) {Q:Value->Shared->Prop} {f:Value->Value->Sem Value}
  (hf:∀v u s2 x y H2,Inv X pins σ H2 s2->RelV x v->RelV y u->R x y H2->wpAny (model X.prog X.w) X.A (f v u) Q X.xe s2) :
  wpAny (model X.prog X.w) X.A (eval a X.env) (λv s₁=>wpAny (model X.prog X.w) X.A (eval b X.env) (λu s₂=>wpAny (model X.prog X.w) X.A (f v u) Q X.xe s₂) X.xe s₁) X.xe s:=by
 refine bJ (ha pins s σ H _ I h) λv s1 ⟨x,H1,I1,r1,q1⟩=>?_;refine bJ (hb pins s1 σ H1 _ I1 q1) λu s2 ⟨y,H2,I2,r2,q2⟩=>?_;exact hf v u s2 x y H2 I2 r1 r2 q2
theorem NO{op:Operator}{r:R2}(ho:dJ X (binaryOp op) r)(ha:PE X a ta)(hb:PE X b tb):PE X (.BinOp a op b pos) (zP r ta tb):=by
 intro pins s σ H Q I h;exact wpAny_BinOp (ye ha hb I h λv u s2 x y H2 I2 rx ry q=>ho pins s2 σ H2 x y v u Q I2 rx ry q)
theorem Ja{f:Value->Value->Sem Value}{C:Int->Int->Prop}{g:Int->Int->Int}
  (rule:∀(i j:Int) (t u:Tok) (s:Shared) (Q:Value->Shared->Prop) (E:Value->Shared->Prop),C i j->Q (.int (g i j) s.toks) { s with toks:=s.toks+1 }->wpAny (model X.prog X.w) X.A (f (.int i t) (.int j u)) Q E s) :
  dJ X f (rI C λi j=>.int (g i j)):=by
 intro pins s σ H x y v u Q I rx ry h;obtain⟨i,j,rfl,rfl,hc,q⟩:=h;obtain⟨t,rfl⟩:=rx;obtain⟨t',rfl⟩:=ry;exact rule i j t t' s _ _ hc ⟨.int (g i j),H,I.tok _,⟨_,rfl⟩,q⟩
theorem RY{f:Value->Value->Sem Value}{g:Int->Int->Int}
  (rule:∀(i j:Int) (t u:Tok) (s:Shared) (Q:Value->Shared->Prop) (E:Value->Shared->Prop),Q (.int (g i j) s.toks) { s with toks:=s.toks+1 }->wpAny (model X.prog X.w) X.A (f (.int i t) (.int j u)) Q E s) :
  dJ X f (wu λi j=>.int (g i j)):=by
 intro pins s σ H x y v u Q I rx ry h;obtain⟨i,j,rfl,rfl,q⟩:=h;obtain⟨t,rfl⟩:=rx;obtain⟨t',rfl⟩:=ry;exact rule i j t t' s _ _ ⟨.int (g i j),H,I.tok _,⟨_,rfl⟩,q⟩
theorem Jb{f:Value->Value->Sem Value}{g:Int->Int->Bool}
  (rule:∀(i j:Int) (t u:Tok) (s:Shared) (Q:Value->Shared->Prop) (E:Value->Shared->Prop),Q (.bool (g i j)) s->wpAny (model X.prog X.w) X.A (f (.int i t) (.int j u)) Q E s) :
  dJ X f (wu λi j=>.bl (g i j)):=by
 intro pins s σ H x y v u Q I rx ry h;obtain⟨i,j,rfl,rfl,q⟩:=h;obtain⟨t,rfl⟩:=rx;obtain⟨t',rfl⟩:=ry;exact rule i j t t' s _ _ ⟨.bl (g i j),H,I,rfl,q⟩
noncomputable def RZ(i j:Int):Prop:=0<j/\j<1073741824
noncomputable def Cc(i j:Int):Prop:=(-(2 ^ 64)<i/\i<2 ^ 64)\/(-(2 ^ 64)<j/\j<2 ^ 64)
theorem Cc.ok{i j:Int}(h:Cc i j):IntMulOk i j:=by
 rcases h with ⟨h1,h2⟩|⟨h1,h2⟩
 .exact .of_left (intBits_le_64 h1 h2)
 .exact .of_right (intBits_le_64 h1 h2)
theorem Jc:dJ X (binaryOp .Add) (wu λi j=>.int (i+j)):=RY λ_ _ _ _ _ _ _ q=>add_int q
theorem Jd:dJ X (binaryOp .Mult) (rI Cc λi j=>.int (i*j)):=Ja λ_ _ _ _ _ _ _ hc q=>mul_int q hc.ok
theorem FU:dJ X (binaryOp .FloorDiv) (rI RZ λi j=>.int (i / j)):=Ja λi j _ _ _ _ _ hc q=>by
 have h1:(0:Int)<j:=hc.1;have h2:j<1073741824:=hc.2;exact floordiv_int (by omega) (by rw[Int.fdiv_eq_ediv_of_nonneg i (by omega)];exact q) (.inl (PyProof.noPylong_small (by omega)))
theorem Je:dJ X (binaryOp .Mod) (rI (λ_ j=>0<j) λi j=>.int (i % j)):=Ja λi j _ _ _ _ _ hc q=>by
 have h1:(0:Int)<j:=hc;exact mod_int' (by omega) (by rw[Int.fmod_eq_emod_of_nonneg i (by omega)];exact q)
end
section
variable{X:Cx}{a b c:Expr}{ta tb tc:TE}{pos:Pos}
theorem zQ{pins:List (Addr×Obj)}{σ:St}{H:Hp}{s:Shared}{Q:VK}{k k':Bool}(I:Inv X pins σ H s)(q:Q (.bl k) H)(e:k=k'):EP X pins σ Q (.bool k') s:=by
 subst e;exact⟨.bl k,H,I,rfl,q⟩
theorem NP:dJ X (compareOp .Lt) (wu λi j=>.bl (decide (i<j))):=Jb λ_ _ _ _ _ _ _ q=>lt_int q
theorem NQ:dJ X (compareOp .Gt) (wu λi j=>.bl (decide (j<i))):=Jb λ_ _ _ _ _ _ _ q=>gt_int q
theorem Jf:dJ X (compareOp .Is) (λx y H Q=>y=.aH/\Q (.bl (decide (x=.aH))) H):=by
 intro pins s σ H x y v u Q I rx ry h;obtain⟨rfl,q⟩:=h;cases ry;refine is_none_gen (zQ I q ?_);cases x<;>first
  | (cases rx;rfl)
  | (obtain⟨t,rfl⟩:=rx;rfl)
theorem FY:dJ X (compareOp .IsNot) (λx y H Q=>y=.aH/\Q (.bl (!decide (x=.aH))) H):=by
 intro pins s σ H x y v u Q I rx ry h;obtain⟨rfl,q⟩:=h;cases ry;refine isnot_none_gen (zQ I q ?_);cases x<;>first
  | (cases rx;rfl)
  | (obtain⟨t,rfl⟩:=rx;rfl)
theorem g7(b:Expr){op:CmpOp}(h:op≠.In:=by decide)(h2:op≠.NotIn:=by decide):behindInMarks op b=false:=by
 have e1:(op==CmpOp.In)=false:=by cases op<;>first|rfl|exact absurd rfl h
 have e2:(op==CmpOp.NotIn)=false:=by cases op<;>first|rfl|exact absurd rfl h2
 cases b<;>simp[behindInMarks,e1,e2]
theorem FZ{op:CmpOp}{r:R2}(ho:dJ X (compareOp op) r)(ha:PE X a ta)(hb:PE X b tb)(hm:behindInMarks op b=false):PE X (.Compare a [op] [b] pos) (zP r ta tb):=by
 intro pins s σ H Q I h;exact wpAny_Compare1 (ye ha hb I h λv u s2 x y H2 I2 rx ry q=>ho pins s2 σ H2 x y v u Q I2 rx ry q) hm
noncomputable def NR(t:TE):TT:=λσ H Q=>t σ H λx H'=>∃k,x=.bl k/\Q k H'
theorem Ga{op:CmpOp}{r:R2}(ho:dJ X (compareOp op) r)(ha:PE X a ta)(hb:PE X b tb)(hm:behindInMarks op b=false):PT X (.Compare a [op] [b] pos) (NR (zP r ta tb)):=by
 intro pins s σ H Q I h;refine wpAny_isTrue_Compare1 (bJ (ha pins s σ H _ I h) λv s1 ⟨x,H1,I1,r1,q1⟩=>bJ (hb pins s1 σ H1 _ I1 q1) λu s2 ⟨y,H2,I2,r2,q2⟩=>
  bJ (ho pins s2 σ H2 x y v u _ I2 r1 r2 q2) λc s3 ⟨z,H3,I3,r3,k,e,q3⟩=>?_) hm
 subst e;cases r3;exact wpAny_truthy_bool ⟨H3,I3,q3⟩
noncomputable def Cd(K:PySem.W.Frag)(x:V)(H:Hp)(k:Bool):Prop:=
 match x with
 |.aH=>k=false
 |.bl b=>k=b
 |.int i=>k=(i != 0)
 |.str y=>y.length<=sizeLine/\k=((y.length:Int) != 0)
 |.zD y=>y.size<=sizeLine/\k=((y.size:Int) != 0)
 |.ref p=>(∃xs,ef K H p xs/\k = !xs.isEmpty)\/(∃xs,dH K H p xs/\k = !xs.isEmpty)\/∃kvs,H p=some (.dK kvs)/\k = !kvs.isEmpty
 |_=>False
theorem yf{κ:Type}{kvs:List (κ×V)}{vs:List (κ×Value)}(r:KV kvs vs):(!vs.isEmpty) = !kvs.isEmpty:=by
 cases r<;>rfl
theorem pD{xs:List V}{its:List Value}(r:Vals xs its):(!its.toArray.isEmpty) = !xs.isEmpty:=by
 cases r<;>simp
theorem jO:(sizeLine:Nat)<2 ^ 63:=by rw[sizeLine_eq];decide
theorem Jg:RX X (λx H Q=>∃k,Cd X.K x H k/\Q k H):=by
 intro pins s σ H x v Q I rx h;obtain⟨k,e,q⟩:=h;have hl:=jO;have hs:sizeLine=16777216:=sizeLine_eq;cases x with
 |aH=>
  cases rx;have e':k=false:=e;subst e';exact truthy_none ⟨H,I,q⟩
 |bl b=>
  cases rx;have e':k=b:=e;subst e';exact wpAny_truthy_bool ⟨H,I,q⟩
 |int i=>
  obtain⟨t,rfl⟩:=rx;have e':k=(i != 0):=e;subst e';exact PySem.P.truthy_int ⟨H,I,q⟩
 |str y=>
  obtain⟨t,rfl⟩:=rx;obtain⟨hy,e'⟩:y.length<=sizeLine/\k=((y.length:Int) != 0):=e;subst e';exact PySem.P.truthy_str (by omega) ⟨H,I.tok _,q⟩
 |zD y=>
  obtain⟨t,rfl⟩:=rx;obtain⟨hy,e'⟩:y.size<=sizeLine/\k=((y.size:Int) != 0):=e;subst e';exact PySem.W.truthy_bytes (by omega) ⟨H,I.tok _,q⟩
 |ref p=>
  cases rx;have e':(∃xs,ef X.K H p xs/\k = !xs.isEmpty)\/(∃xs,dH X.K H p xs/\k = !xs.isEmpty)\/∃kvs,H p=some (.dK kvs)/\k = !kvs.isEmpty:=e;rcases e' with ⟨xs,hx,e'⟩|⟨xs,hx,e'⟩|⟨kvs,hx,e'⟩
  .subst e';obtain⟨its,r,pl,hz⟩:=I.list hx;have hlen:=r.length;exact wpAny_truthy_list pl.isList (by simp only[List.size_toArray];omega) ⟨H,I.tok _,by rw[pD r];exact q⟩
  .subst e';obtain⟨its,r,pl,hz⟩:=I.tuple hx;have hlen:=r.length;exact truthy_tuple pl (by simp only[List.size_toArray];omega) ⟨H,I.tok _,by rw[pD r];exact q⟩
  .subst e';obtain⟨hz,hS,vs,r,m⟩:kvs.length<=sizeLine/\(p==sysModules)=false/\∃vs,KV kvs vs/\s.heap.DictOf (cR X.prog X.w) p vs:=I.hok p _ hx;have hlen:kvs.length=vs.length:=Paired.length r;exact wpAny_truthy_dict hS m (by omega) ⟨H,I.tok _,by rw[yf r];exact q⟩
 |_=>exact(show False from e).elim
theorem Ce(ha:PE X a ta)(he:∀whole,isTrue a X.env whole=(do let v <-whole;standAt a.pos;holding [v] (truthy v))) :
  PT X a (λσ H Q=>ta σ H λx H'=>∃k,Cd X.K x H' k/\Q k H'):=by
 intro pins s σ H Q I h;exact isTrue_plain (bJ (ha pins s σ H _ I h) λv s1 ⟨x,H1,I1,r1,q1⟩=>Jg pins s1 σ H1 x v Q I1 r1 q1) (he _)
theorem yg:dJ X (binaryOp .Add) (λx y H Q=>∃i j,x=.str i/\y=.str j/\i.length+j.length<=sizeLine/\Q (.str (i++j)) H):=by
 intro pins s σ H x y v u Q I rx ry h;obtain⟨i,j,rfl,rfl,hz,q⟩:=h;obtain⟨t,rfl⟩:=rx;obtain⟨t',rfl⟩:=ry;exact add_str (λt' tk=>⟨.str (i++j),H,I.tok _,⟨_,rfl⟩,q⟩) hz
theorem vals1{x:V}{us:List Value}(r:Vals [x] us):∃u,us=[u]/\RelV x u:=by
 cases r with
 |cons r1 r2=>cases r2;exact⟨_,rfl,r1⟩
theorem vals2{x y:V}{us:List Value}(r:Vals [x,y] us):∃u w',us=[u,w']/\RelV x u/\RelV y w':=by
 cases r with
 |cons r1 r2=>
  cases r2 with
  |cons r3 r4=>cases r4;exact⟨_,_,rfl,r1,r3⟩
end
end L2
namespace L2
open PySem PySem.Spec PyProof.Rows
structure Cg(h:Heap)(x dx C:Addr)(mA:Str->Option Value):Prop where
 obj:h.get? x=some (PySem.W.instObj C dx)
 ns:h.Ns1 dx mA
 ne:dx≠x
theorem zR{h:Heap}{dx:Addr}{mA:Str->Option Value}(n:h.Ns1 dx mA):∃od,h.get? dx=some od/\∀name,PySem.W.lookIn name od=some (mA name):=by
 obtain⟨o,es,ep,ho,hd,hk,_,hm⟩:=n;refine⟨o,ho,λname=>?_⟩;have e:=hm name;unfold nsFind findBy at e;rw[<-Array.find?_toList]at e;unfold PySem.W.lookIn;rw[hd];dsimp only;split
 .rename_i y q;rw[q]at e;exact congrArg some e
 .rename_i q;rw[q]at e;have a:es.toList.any (·.refKey)=false:=by
   rw[List.any_eq_false];intro y hy;obtain⟨z,t,hkey⟩:=hk y (Array.mem_toList_iff.mp hy);simp[DictEntry.refKey,hkey]
  have a':¬ es.toList.any (·.refKey)=true:=by rw[a];exact Bool.false_ne_true
  rw[if_neg a'];exact congrArg some e
theorem Cg.look{h:Heap}{x dx C:Addr}{mA:Str->Option Value}(I:Cg h x dx C mA):∃od,PySem.W.InstAt h x (PySem.W.instObj C dx) C (some od)/\∀name,PySem.W.lookIn name od=some (mA name):=
 let ⟨od,ho,hl⟩:=zR I.ns
 ⟨od,⟨I.obj,rfl,rfl,ho⟩,hl⟩
section
variable{prog:Program}{w:World}{A:Around}{E:Value->Shared->Prop}{s:Shared}{K:PySem.W.Frag}{x dx C f:Addr}{mA:Str->Option Value}{name:Str}{v:Value}
end
section
variable{P:Program}{w:World}{H H':Hp}{h h':Heap}{a C dx:Addr}{fs fs':List (Str×V)}
theorem Gb(hok:ee P w H h)(e:H a=some (.ins C dx fs)):∃mA,Cg h a dx C mA/\(∀f,ly (fs.lookup f) (mA f))/\PySem.Within mA (fs.map (·.1))/\fs.length<=1000/\H dx=some (.own a):=by
 obtain⟨d,z,ne,ob,mA,n,r,q⟩:=(show cF P w H h a (.ins C dx fs)from hok a _ e)
 exact⟨mA,⟨ob,n,ne⟩,r,q,z,d⟩
end
structure Jh(K:PySem.W.Frag)(C:Addr):Prop where
 pg:PySem.W.plainGet K C Str.empty=true
 hd:PySem.W.hasDictIn K C=true
 po:PySem.W.plainOver K C=true
 sa:PySem.W.findIn K (.ref C) "__setattr__" = some (some (.builtin "object.__setattr__"))
theorem Jh.get{K:PySem.W.Frag}{C:Addr}(c:Jh K C)(f:Str):PySem.W.plainGet K C f=true:=c.pg
structure VT(K:PySem.W.Frag)(C:Addr)(f:Str)(v:V)(u:Value):Prop where
 at_:PySem.W.findIn K (.ref C) f=some (some u)
 rel:RelV v u
 get:PySem.W.specialIn K u "__get__" = some none
 cp:PySem.W.copiedNames.contains f=false
structure Meth(K:PySem.W.Frag)(C:Addr)(m:Str)(f:Addr):Prop where
 at_:PySem.W.findIn K (.ref C) m=some (some (.ref f))
 fn:PySem.W.isFn K (.ref f)=true
 kp:PySem.W.keepIn K (.ref f)=true
section
variable{X:Cx}{pins:List (Addr×Obj)}{σ:St}{H:Hp}{s:Shared}{a C dx:Addr}{fs:List (Str×V)}{f:Str}{v:V}{A:Around}{E:Value->Shared->Prop}
end
section
variable{X:Cx}{o e value:Expr}{f:Str}{pos pos' tpos:Pos}{ta tv:TE}
end
section
variable{X:Cx}{pins:List (Addr×Obj)}{σ:St}{H:Hp}{s:Shared}{A:Around}{E:Value->Shared->Prop}{Q:Value->Shared->Prop}{c:Value}{b:Bool}
inductive ju(K:PySem.W.Frag)(H:Hp):V->Value->Prop where
 |aH:ju K H .aH (.type "NoneType")
 |bl (x:Bool):ju K H (.bl x) (.type "bool")
 |int (i:Int):ju K H (.int i) (.type "int")
 |str (x:Str):ju K H (.str x) (.type "str")
 |vZ (x:UInt64):ju K H (.vZ x) (.type "float")
 |lst {a:Addr} {xs:List V} (e:H a=some (.lst xs)):ju K H (.ref a) (.type "list")
 |bD {a:Addr} {o:Obj} {xs:List V} (e:H a=some (.bD o (.lst xs))):ju K H (.ref a) (.type "list")
 |tup {a:Addr} {xs:List V} (e:H a=some (.tup xs)):ju K H (.ref a) (.type "tuple")
 |dK {a:Addr} {kvs:List (Key×V)} (e:H a=some (.dK kvs)):ju K H (.ref a) (.type "dict")
 |dT {a:Addr} {kvs:List (List Key×V)} (e:H a=some (.dT kvs)):ju K H (.ref a) (.type "dict")
 |ins {a C dx:Addr} {fs:List (Str×V)} (e:H a=some (.ins C dx fs)) (cl:Jh K C) (ha:PySem.W.findIn K (.ref C) "__class__" = some (some (.builtin "object.__class__")))
   (hn:PySem.W.specialIn K (.builtin "object.__class__") "__get__" = some (some (.builtin "getset_descriptor.__get__"))) (htk:PySem.W.takesIn K (.builtin "object.__class__")=some true)
   (hm:PySem.W.mroIn K C (.type "object")=some true):ju K H (.ref a) (.ref C)
theorem je{x:V}{u t:Value}(I:Inv X pins σ H s)(rx:RelV x u)(ty:ju X.K H x t)(e:PySem.W.kitOne X.K t c=some b)(h:∀tk,Q (.bool b) { s with toks:=tk }) :
  wpAny (model X.prog X.w) A (call (.builtin "isinstance") [u,c]) Q E s:=by
 cases ty with
 |aH=>cases (show u=Value.none from rx);exact PySem.W.kia_one PySem.W.kitx_none I.gq True.intro e (λz=>nomatch z) h
 |bl y=>cases (show u=Value.bool y from rx);exact PySem.W.kia_one PySem.W.kitx_bool I.gq True.intro e (λz=>nomatch z) h
 |int i=>obtain⟨t,q⟩:=(show ∃t,u=Value.int i t from rx);cases q;exact PySem.W.kia_one PySem.W.kitx_int I.gq True.intro e (λz=>nomatch z) h
 |str y=>obtain⟨t,q⟩:=(show ∃t,u=Value.str y t from rx);cases q;exact PySem.W.kia_one PySem.W.kitx_str I.gq True.intro e (λz=>nomatch z) h
 |vZ y=>obtain⟨t,q⟩:=(show ∃t,u=Value.float y t from rx);cases q;exact PySem.W.kia_one PySem.W.kitx_float I.gq True.intro e (λz=>nomatch z) h
 |@lst a xs ea=>
  cases (show u=Value.ref a from rx);obtain⟨_,_,n,_,h1⟩:=(show cF X.prog X.w H s.heap a (.lst xs)from I.hok a _ ea)
  exact PySem.W.kia_one PySem.W.kitx_list I.gq ⟨_,h1,rfl⟩ e (λz=>nomatch z) h
 |@bD a ob xs ea=>
  cases (show u=Value.ref a from rx);obtain⟨_,_,_,n,_,h1⟩:=(show cF X.prog X.w H s.heap a (.bD ob (.lst xs))from I.hok a _ ea)
  exact PySem.W.kia_one PySem.W.kitx_list I.gq ⟨_,h1,rfl⟩ e (λz=>nomatch z) h
 |@tup a xs ea=>
  cases (show u=Value.ref a from rx);obtain⟨_,_,_,p⟩:=(show cF X.prog X.w H s.heap a (.tup xs)from I.hok a _ ea)
  obtain⟨o,h1,h2,_⟩:=p;exact PySem.W.kia_one PySem.W.kitx_tuple I.gq ⟨o,h1,h2⟩ e (λz=>nomatch z) h
 |@dK a kvs ea=>
  cases (show u=Value.ref a from rx);obtain⟨_,_,vs,_,p⟩:=(show cF X.prog X.w H s.heap a (.dK kvs)from I.hok a _ ea)
  obtain⟨o,es,ep,h1,h2,_⟩:=p;exact PySem.W.kia_one PySem.W.kitx_dict I.gq ⟨o,h1,h2.1⟩ e (λz=>nomatch z) h
 |@dT a kvs ea=>
  cases (show u=Value.ref a from rx);obtain⟨_,_,xs,_,o,es,ep,h1,h2,_⟩:=(show cF X.prog X.w H s.heap a (.dT kvs)from I.hok a _ ea)
  exact PySem.W.kia_one PySem.W.kitx_dict I.gq ⟨o,h1,h2.1⟩ e (λz=>nomatch z) h
 |@ins a C dx fs ea cl ha hn htk hm=>
  cases (show u=Value.ref a from rx);obtain⟨mA,O,_⟩:=Gb I.hok ea;obtain⟨od,J,_⟩:=O.look;exact PySem.W.kia_one (PySem.W.kitx_own (cl.get _) cl.hd ha hn htk hm) I.gq J e (λz=>nomatch z) h
end
end L2
namespace L2
open PySem PySem.Spec PyProof.Rows
structure fC(k:Nat)(A:Around):Prop where
 hd:A.handled=none
 dp:A.depth+3*k+5<recursionLimit
 un:A.units+16*k+200<cLine
theorem fC.deeper{k:Nat}{A:Around}(r:fC (k+1) A)(env:Env):fC k (A.deeper env):=
 ⟨r.hd,by have:=r.dp;show A.depth+1+3*k+5<_;omega,by have:=r.un;show A.units+3+16*k+200<_;omega⟩
theorem fC.depth{k:Nat}{A:Around}(r:fC k A):A.depth<recursionLimit:=by have:=r.dp;omega
theorem fC.units{k:Nat}{A:Around}(r:fC k A):A.units+64<cLine:=by have:=r.un;omega
noncomputable def Ji:TA:=λ_ H Q=>Q [] H
noncomputable def NS(ta:TE)(tr:TA):TA:=λσ H Q=>ta σ H λx H1=>tr σ H1 λxs H2=>Q (x :: xs) H2
section
variable{X:Cx}{e:Expr}{es:List Expr}{te:TE}{t:TA}{pos:Pos}
theorem mW:PA X [] Ji:=λ_ _ _ _ H Q I h=>Calls.spliced_nil ⟨[],H,I,.nil,h⟩
theorem jG(ha:PE X e te)(hr:PA X es t)(hs:starEach (e :: es) X.env=(false,eval e X.env) :: starEach es X.env:=by rfl):PA X (e :: es) (NS te t):=by
 intro pos pins s σ H Q I h;rw[hs];show wpAny _ _ (spliced ((false,eval e X.env) :: backTo pos (starEach es X.env))) _ _ s;refine Calls.spliced_cons (bJ (ha pins s σ H _ I h) λu s1 ⟨x,H1,I1,r1,q1⟩=>?_);exact bJ (hr pos pins s1 σ H1 _ I1 q1) λus s2 ⟨xs,H2,I2,r2,q2⟩=>⟨x :: xs,H2,I2,.cons r1 r2,q2⟩
noncomputable def R0(t:TA):TE:=λσ H Q=>t σ H λxs H1=>xs.length<=sizeLine/\∀p,H1 p=none->Q (.ref p) (upd H1 p (.tup xs))
noncomputable def R1(t:TA):TE:=λσ H Q=>t σ H λxs H1=>xs.length<=sizeLine/\∀p,H1 p=none->Q (.ref p) (upd H1 p (.lst xs))
theorem Jj{x1}(h:PA X es t):PE X (.Tuple es x1 pos) (R0 t):=by
 intro pins s σ H Q I hq;refine wpAny_Tuple_spliced (bJ (h pos pins s σ H _ I hq) λus s1 ⟨xs,H1,I1,r,z,q⟩=>⟨by rw[<-r.length];exact z,?_⟩);have hf:H1 s1.heap.objs.size=none:=I1.hok.fresh (Nat.le_refl _);refine⟨.ref s1.heap.objs.size,upd H1 s1.heap.objs.size (.tup xs),I1.laid (t':=s1.toks) (λb u e=>Heap.get?_push_of_some _ e) (Nat.le_refl _) ?_,rfl,q _ hf⟩;exact⟨z,us,r,⟨_,Heap.get?_push_size _ rfl,rfl,_,rfl⟩⟩
theorem Jk(h:PA X es t):PE X (.List es pos) (R1 t):=by
 intro pins s σ H Q I hq;refine wpAny_List_spliced (bJ (h pos pins s σ H _ I hq) λus s1 ⟨xs,H1,I1,r,z,q⟩=>⟨by rw[<-r.length];exact z,?_⟩);have hf:H1 s1.heap.objs.size=none:=I1.hok.fresh (Nat.le_refl _);refine⟨.ref s1.heap.objs.size,upd H1 s1.heap.objs.size (.lst xs),I1.laid (t':=s1.toks) (λb u e=>Heap.get?_push_of_some _ e) (Nat.le_refl _) ?_,rfl,q _ hf⟩;exact⟨z,us,0,r,Heap.get?_push_size _ rfl⟩
end
abbrev Sp:=List V->Hp->VK->XK->Prop
abbrev mz:=List Env->Hp->Shared->XK->Value->Shared->Prop
structure yh(P:Program)(w:World)(K:PySem.W.Frag)(mg:Str->Option Value)(base:Heap)(A:Around)(outer:List Env)(s:Shared)(H:Hp):Prop where
 frames:A.frames=some outer
 mod:Mod K mg base
 bs:∀b o,base.get? b=some o->s.heap.get? b=some o/\H b=none
 rC:base.objs.size<=s.heap.objs.size
 jt:s.heap.FunFrames base outer
 tK:∀b∈frs outer,H b=none
 hok:ee P w H s.heap
 bare:AllBare s.gens
noncomputable def CE(outer:List Env)(P:Program)(w:World)(H:Hp)(s:Shared)(Q:VK)(u:Value)(s':Shared):Prop:=
 ∃v H',s'.os=s.os/\AllBare s'.gens/\Un (frs outer) [] H H' s.heap s'.heap/\ee P w H' s'.heap/\RelV v u/\Q v H'
noncomputable def CR(CX:mz)(outer:List Env)(P:Program)(w:World)(H:Hp)(s:Shared)(Q:VK)(E:XK)(r:Result)(s':Shared):Prop:=
 match r with
 |.ok (.ret u)=>CE outer P w H s Q u s'
 |.ok _=>False
 |.error e=>CX outer H s E e s'
structure g8(P:Program)(w:World)(K:PySem.W.Frag)(mg:Str->Option Value)(base:Heap)(CX:mz)(k:Nat)(f:Addr)(fd:FuncData)(ps:List Str)(sp:Sp):Prop where
 len:∀vs H Q E,sp vs H Q E->vs.length=ps.length
 run:∀(A:Around) (outer:List Env) (s:Shared) (H:Hp) (args:Args) (us:List Value) (vs:List V) (Q:VK) (E:XK),fC k A->yh P w K mg base A outer s H->BindsTo s fd args (ps.zip us)->Vals vs us->sp vs H Q E->
  codeAny (model P w) A (.call (.ref f) args) (CR CX outer P w H s Q E) s
section
variable{X:Cx}{pins:List (Addr×Obj)}{σ:St}{H:Hp}{s s':Shared}
theorem Inv.R3(I:Inv X pins σ H s):yh X.prog X.w X.K X.mg X.base X.A X.stack s H:=
 ⟨I.ok.frames,I.ok.mod,I.bs,Nat.le_trans I.ok.rC I.sz,I.stack,I.we,I.hok,I.bare⟩
theorem Inv.after{Q:VK}{u:Value}(I:Inv X pins σ H s)(h:CE X.stack X.prog X.w H s Q u s'):EP X pins σ Q u s':=by
 obtain⟨v,H',os,bare,un,hok,r,q⟩:=h;obtain⟨hh,g,d,t,os'⟩:=s';obtain rfl:os'=s.os:=os;exact⟨v,H',I.call (h':=hh) (g':=g) (d':=d) (t':=t) (ch:=[]) un hok bare (λb z=>absurd z (by simp)),r,q⟩
end
noncomputable def Eu(sp:Sp)(jf:List V)(E:XK)(t:TA):TE:=λσ H Q=>t σ H λvs H1=>sp (vs++jf) H1 Q E
noncomputable def Binds(K:PySem.W.Frag)(fd:FuncData)(ps:List Str)(ds:List Value):Prop:=
 ∀(s:Shared) (us:List Value),K.In s.heap->(us++ds).length=ps.length->BindsTo s fd ⟨us,[]⟩ (ps.zip (us++ds))
theorem Binds.all{K:PySem.W.Frag}{fd:FuncData}{ps:List Str}(h:∀us:List Value,us.length=ps.length->bindArgs fd ⟨us,[]⟩=pure (ps.zip us)):Binds K fd ps []:=λs us _ hl=>by
 rw[List.append_nil]at hl ⊢;exact .of_eq (h us hl)
noncomputable def Passes(CX:mz)(X:Cx)(E:XK):Prop:=∀(pins:List (Addr×Obj)) (σ:St) (H:Hp) (s:Shared) (e:Value) (s':Shared),Inv X pins σ H s->CX X.stack H s E e s'->X.xe e s'
section
variable{X:Cx}{CX:mz}{k:Nat}{f C:Addr}{fd:FuncData}{ps:List Str}{sp:Sp}{jf:List V}{ds:List Value}{E:XK}{x m:Str}{p pos apos:Pos}{e o:Expr}{es:List Expr}{ta:TE}{t:TA}
theorem zS{pins:List (Addr×Obj)}{σ:St}{H:Hp}{s:Shared}{Q:VK}{us:List Value}{vs:List V}(F:g8 X.prog X.w X.K X.mg X.base CX k f fd ps sp)(hr:fC k X.A)(hb:Binds X.K fd ps ds)(hd:Vals jf ds)(hx:Passes CX X E)
  (I:Inv X pins σ H s) (r:Vals vs us) (h:sp (vs++jf) H Q E):wpAny (model X.prog X.w) X.A (call (.ref f) us) (EP X pins σ Q) X.xe s:=by
 have r2:Vals (vs++jf) (us++ds):=r.append hd;have hl:(us++ds).length=ps.length:=by rw[<-r2.length];exact F.len _ _ _ _ h
 refine wpAny_call (codeAny_mono (F.run X.A X.stack s H ⟨us,[]⟩ (us++ds) (vs++jf) Q E hr I.R3 (hb s us I.gq hl) r2 h) λr s' hq=>?_);cases r with
 |error e=>exact hx pins σ H s e s' I hq
 |ok fl=>
  cases fl with
  |ret u=>exact I.after hq
  |next=>exact False.elim hq
  |brk=>exact False.elim hq
  |cont=>exact False.elim hq
theorem Gd(F:g8 X.prog X.w X.K X.mg X.base CX k f fd ps sp)(hr:fC k X.A)(hg:Gl X x)(hm:X.mg x=some (.ref f))(hk:PySem.W.keepIn X.K (.ref f)=true)(hb:Binds X.K fd ps ds)(hd:Vals jf ds)(hx:Passes CX X E)
  (ha:PA X (e :: es) t) (hdb:(x==("__debug__" : Str))=false:=by decide) (he:starEach (e :: es) X.env=(false,eval e X.env) :: starEach es X.env:=by rfl) (hpl:(backTo pos (starEach es X.env)).any (·.1)=false:=by rfl) :
  PE X (.Call (.Name x p) (e :: es) [] pos) (Eu sp jf E t):=by
 intro pins s σ H Q I h;refine wpAny_Call_Name_kw (qx I hg hm ?_ hdb);refine PySem.W.callWith_K (h₀:=X.base) I.ok.mod.Ej hk (bJ (ha pos pins s σ H _ I h) λus s1 ⟨vs,H1,I1,r,q⟩=>⟨I1.gq,?_⟩) he hpl;exact zS F hr hb hd hx I1 r q
theorem Ci(F:g8 X.prog X.w X.K X.mg X.base CX k f fd ps sp)(hr:fC k X.A)(hg:Gl X x)(hm:X.mg x=some (.ref f))(hk:PySem.W.keepIn X.K (.ref f)=true)(hb:Binds X.K fd ps ds)(hd:Vals jf ds)(hx:Passes CX X E)
  (hdb:(x==("__debug__" : Str))=false:=by decide):PE X (.Call (.Name x p) [] [] pos) (Eu sp jf E Ji):=by
 intro pins s σ H Q I h;refine wpAny_Call_Name_kw (qx I hg hm ?_ hdb);exact PySem.W.callWith_K0 I.gq hk (zS (us:=[]) F hr hb hd hx I .nil h)
structure Mk(K:PySem.W.Frag)(C f:Addr):Prop where
 makes:PySem.W.makesIn K C=true
 init:PySem.W.findIn K (.ref C) "__init__" = some (some (.ref f))
 fn:PySem.W.isFn K (.ref f)=true
 kp:PySem.W.keepIn K (.ref C)=true
end
section
variable{X:Cx}{CX:mz}{k:Nat}{f C:Addr}{fd:FuncData}{ps ks:List Str}{sp:Sp}{E:XK}{x m:Str}{p pos apos kpos:Pos}{e o:Expr}{es:List Expr}{kws:List Keyword}{te ta:TE}{t tk:TA}{nm:Option Str}
structure Us(K:PySem.W.Frag)(fd:FuncData)(ps ks:List Str)(g:List Value->List Value->List Value)(gV:List V->List V->List V):Prop where
 to:∀(s:Shared) (us ws:List Value),K.In s.heap->(g us ws).length=ps.length->BindsTo s fd ⟨us,ks.zip ws⟩ (ps.zip (g us ws))
 rel:∀{vs:List V} {us:List Value} {zs:List V} {ws:List Value},Vals vs us->Vals zs ws->Vals (gV vs zs) (g us ws)
variable{g:List Value->List Value->List Value}{gV:List V->List V->List V}
end
structure bF(N P:List Str)(sc:Scope):Prop where
 kind:sc.kind=.function
 co:sc.isCoroutine=false
 gen:sc.isGenerator=false
 nd:N.Nodup
 pre:N.take P.length=P
 par:∀x∈P,sc.names.lookup x=some .local\/sc.names.lookup x=some .cell
 Jl:∀y∈sc.names,y.2≠.free
theorem rG{kindOf:Str->Option NameKind}{x:Str}:∀{binds:List (Str×Value)}{m:Str->Option Value},(∀v,(x,v)∉binds)->bindL kindOf binds m x=m x
 |[],_,_=>rfl
 | (n,v) :: r,m,h=>by
  unfold bindL;rw[rG λw hw=>h w (List.mem_cons_of_mem _ hw)];split
  .have:x≠n:=by rintro rfl;exact h v List.mem_cons_self
   simp[this]
  .rfl
theorem rH{kindOf:Str->Option NameKind}{x:Str}:∀{binds:List (Str×Value)}{m:Str->Option Value},(∀v,(x,v)∉binds)->bindC kindOf binds m x=m x
 |[],_,_=>rfl
 | (n,v) :: r,m,h=>by
  unfold bindC;rw[rH λw hw=>h w (List.mem_cons_of_mem _ hw)];split
  .rfl
  .have:x≠n:=by rintro rfl;exact h v List.mem_cons_self
   simp[this]
theorem rJ{kindOf:Str->Option NameKind}{x:Str}{v:Value}:∀{P:List Str}{vs:List Value}{i:Nat}{m:Str->Option Value},P.Nodup->P[i]?=some x->vs[i]?=some v->kindOf x=some .local->
  bindL kindOf (P.zip vs) m x=some v
 |[],_,_,_,_,h,_,_=>by simp at h
 |_ :: _,[],_,_,_,_,h,_=>by simp at h
 |p :: P,w :: vs,0,m,nd,h1,h2,hk=>by
  simp at h1 h2;subst h1;subst h2;show bindL kindOf ((p,w) :: P.zip vs) m p=_;unfold bindL;rw[rG λv hv=>(List.nodup_cons.mp nd).1 (List.of_mem_zip hv).1,if_pos hk];simp
 |p :: P,w :: vs,i+1,m,nd,h1,h2,hk=>by
  show bindL kindOf ((p,w) :: P.zip vs) m x=_;unfold bindL;exact rJ (i:=i) (List.nodup_cons.mp nd).2 (by simpa using h1) (by simpa using h2) hk
theorem rK{kindOf:Str->Option NameKind}{x:Str}{v:Value}:∀{P:List Str}{vs:List Value}{i:Nat}{m:Str->Option Value},P.Nodup->P[i]?=some x->vs[i]?=some v->kindOf x≠some .local->
  bindC kindOf (P.zip vs) m x=some v
 |[],_,_,_,_,h,_,_=>by simp at h
 |_ :: _,[],_,_,_,_,h,_=>by simp at h
 |p :: P,w :: vs,0,m,nd,h1,h2,hk=>by
  simp at h1 h2;subst h1;subst h2;show bindC kindOf ((p,w) :: P.zip vs) m p=_;unfold bindC;rw[rH λv hv=>(List.nodup_cons.mp nd).1 (List.of_mem_zip hv).1,if_neg hk];simp
 |p :: P,w :: vs,i+1,m,nd,h1,h2,hk=>by
  show bindC kindOf ((p,w) :: P.zip vs) m x=_;unfold bindC;exact rK (i:=i) (List.nodup_cons.mp nd).2 (by simpa using h1) (by simpa using h2) hk
noncomputable def start(N:List Str)(vs:List V):St:=vs.map some++List.replicate (N.length - vs.length) none
noncomputable def oO(CX:mz)(P:Program)(w:World)(K:PySem.W.Frag)(mg:Str->Option Value)(base:Heap)(N:List Str)(qual:Str)(scope:Scope)(f:Addr)(cd:Value)(A:Around)(outer:List Env)(s:Shared)(H:Hp)(E:XK):Cx where
 prog:=P
 w:=w
 K:=K
 mg:=mg
 base:=base
 A:=A.deeper (envOfC qual scope s.heap.objs.size f cd)
 N:=N
 s₀:=s
 H₀:=H
 env:=envOfC qual scope s.heap.objs.size f cd
 outer:=outer
 stack:=envOfC qual scope s.heap.objs.size f cd :: outer
 ex:=[]
 calm:=true
 fn:=λ_=>true
 pn:=[]
 xe:=λe s'=>wpAny (model P w) (A.deeper (envOfC qual scope s.heap.objs.size f cd)) (leaving (envOfC qual scope s.heap.objs.size f cd) e) (λ_ s''=>CX outer H s E e s'') (λe' s''=>CX outer H s E e' s'') s'
theorem tQ{sc:Scope}{n:Nat}{x:Str}(h:sc.names.lookup x=some .cell):∃c,(cellsFrom n sc.names []).lookup x=some c:=by
 have q:=PySem.W.cellsFrom_some sc.names n [] (.inl h);exact Option.isSome_iff_exists.mp q
theorem zT{CX:mz}{P:Program}{w:World}{K:PySem.W.Frag}{mg:Str->Option Value}{base:Heap}{N ps:List Str}{qual:Str}{scope:Scope}{f:Addr}{cd:Value}{A:Around}{outer:List Env}{s s1:Shared}{H:Hp}{E:XK}{us:List Value}{vs:List V}
  (S:bF N ps scope) (hd:A.handled=none) (e0:yh P w K mg base A outer s H) (hl:vs.length=ps.length) (r:Vals vs us)
  (x:InCallC s s.heap.objs.size (bindL (envOfC qual scope s.heap.objs.size f cd).kindOf (ps.zip us) λ_=>none) (cellsFrom (s.heap.objs.size+1) scope.names []) (bindC (envOfC qual scope s.heap.objs.size f cd).kindOf (ps.zip us) λ_=>none) s1) :
  Inv (oO CX P w K mg base N qual scope f cd A outer s H E) [] (start N vs) H s1:=by
 have hpl:ps.length<=N.length:=by have:=congrArg List.length S.pre;rw[List.length_take]at this;omega
 obtain⟨h1,tk,rfl,hk⟩:=x.done;have zU:∀b:Addr,b∉(oO CX P w K mg base N qual scope f cd A outer s H E).ex:=λb z=>absurd (show b∈([]:List Addr)from z) (by simp);refine⟨⟨e0.mod,S.kind,rfl,rfl,Nat.le_refl _,λy z c h1 h2=>?_,λy hy=>?_,λy c _ h=>?_,λ_=>hd,Around.frames_deeper e0.frames,.inr ⟨rfl,rfl⟩,λb z=>absurd z (zU b),e0.bs,e0.rC,λb _ _=>zU b,λb z=>absurd z (zU b),e0.jt,e0.tK⟩,
  rfl,e0.bare,Un.kept hk,⟨_,x.toInCall.ns,λi y v h1 h2 h3=>?_⟩,λy c h=>⟨_,x.cell y c h⟩,e0.hok.fresh (Nat.le_refl _),λy c h=>?_,λp hp=>absurd (show p∈([]:List (Addr×Obj))from hp) (by simp),e0.hok.kept hk,?_⟩
 .exact name_of_addr x.apart (PySem.mem_of_lookup h1) (PySem.mem_of_lookup h2)
 .have hy:scope.names.lookup y=some .cell\/scope.names.lookup y=some .free:=hy;rcases hy with hy|hy
  .exact tQ hy
  .exact absurd rfl (S.Jl _ (PySem.mem_of_lookup hy))
 .exact Nat.le_of_lt (x.above y c (PySem.mem_of_lookup h))
 .have hi:i<vs.length:=by
   unfold start at h2;by_cases hi:i<vs.length
   .exact hi
   .rw[List.getElem?_append_right (by simpa using hi)]at h2;rw[List.getElem?_replicate]at h2;split at h2<;>cases h2
  have ha:vs[i]?=some v:=by
   unfold start at h2;rw[List.getElem?_append_left (by simpa using hi),List.getElem?_map]at h2;cases e:vs[i]? with
   |none=>rw[e]at h2;cases h2
   |some a=>rw[e]at h2;cases h2;rfl
  obtain⟨u,hu,rv⟩:=r.get ha;have hp:ps[i]?=some y:=by
   rw[<-S.pre,List.getElem?_take_of_lt (by omega)];exact h1
  have Qn:ps.Nodup:=by rw[<-S.pre];exact S.nd.sublist (List.take_sublist _ _)
  refine⟨u,rv,?_⟩;rcases S.par y (List.mem_of_getElem? hp)with k|k
  .exact .inl ⟨k,rJ Qn hp hu k⟩
  .obtain⟨c,e⟩:=tQ (n:=s.heap.objs.size+1) k;refine .inr ⟨.inl k,c,e,?_⟩;have q:=x.cell y c e;rw[rK Qn hp hu (by show scope.names.lookup y≠_;rw[k];decide)]at q;exact q
 .exact e0.hok.fresh (Nat.le_of_lt (x.above y c (PySem.mem_of_lookup h)))
 .unfold start;show _=N.length;rw[List.length_append,List.length_map,List.length_replicate];omega
theorem NT{CX:mz}{P:Program}{w:World}{K:PySem.W.Frag}{mg:Str->Option Value}{base:Heap}{k:Nat}{f:Addr}{name qual:Str}{params:Arguments}{body:List Stmt}{scope:Scope}{dV kV doc pm cdv ct oc:Value}{an od:Option Addr}
  {osl:Array (Option Value)} {N ps:List Str} {sp:Sp} (lk:K.lookup f=some ⟨oc,od,.func (PySem.W.fnOf name qual params body scope dV kV doc pm an cdv ct),osl⟩) (hcd:PySem.W.codeIn K cdv qual=true) (S:bF N ps scope)
  (len:∀vs H Q E,sp vs H Q E->vs.length=ps.length)
  (hbody:∀(A:Around) (outer:List Env) (s:Shared) (H:Hp) (vs:List V) (Q:VK) (E:XK),fC k (A.deeper (envOfC qual scope s.heap.objs.size f cdv))->sp vs H Q E->
   ∃t,iM (oO CX P w K mg base N qual scope f cdv A outer s H E) body t/\t { nx:=λ_ H'=>Q .aH H',rt:=Q } (start N vs) H) :
  g8 P w K mg base CX (k+1) f (PySem.W.fnOf name qual params body scope dV kV doc pm an cdv ct) ps sp:=by
 refine⟨len,λA outer s H args us vs Q E hr e0 hb r kM=>?_⟩;have hl:=len _ _ _ _ kM;have KX:K.In s.heap:=e0.mod.Ej.keeps λb o e=>(e0.bs b o e).1;have lim:s.heap.NoLimit:=e0.mod.nolimit.keeps λb o e=>(e0.bs b o e).1;have hkind:∀y∈ps.zip us,scope.names.lookup y.1=some .local\/(scope.names.lookup y.1=some .cell/\((cellsFrom (s.heap.objs.size+1) scope.names []).lookup y.1).isSome=true):=λ⟨n,v⟩ hy=>by
  rcases S.par n (List.of_mem_zip hy).1 with q|q
  .exact .inl q
  .exact .inr ⟨q,PySem.W.cellsFrom_some _ _ _ (.inl q)⟩
 refine codeAny_call_function hr.depth (KX _ _ lk) rfl S.co S.gen rfl (PySem.W.codeRec_of KX hcd) (hb _ _ _ _ ?_);refine wpAny_newFunctionEnv_cells S.kind hkind λenv he s1 x=>?_;subst he;refine⟨lim.keeps x.toInCall.keep,codeAny_func ?_⟩;obtain⟨t,ht,hq⟩:=hbody A outer s H vs Q E (hr.deeper _) kM;have I:Inv (oO CX P w K mg base N qual scope f cdv A outer s H E) [] (start N vs) H s1:=zT S hr.hd e0 hl r x;refine wpAny_mono (ht [] s1 (start N vs) H _ I hq) (λfl s' hs=>?_) λe s' hs=>hs;have fin:∀{σ':St} {H':Hp} {v:V} {u:Value},Inv (oO CX P w K mg base N qual scope f cdv A outer s H E) [] σ' H' s'->RelV v u->Q v H'->CE outer P w H s Q u s':=
  λ{σ' H' v u} J rv q=>⟨v,H',J.os,J.bare,J.base,J.hok,rv,q⟩
 cases fl with
 |ret u=>
  obtain⟨v,σ',H',J,rv,q⟩:=hs;exact fin J rv q
 |next=>
  obtain⟨σ',H',J,q⟩:=hs;exact fin (v:=V.aH) (u:=Value.none) J rfl q
 |brk=>
  obtain⟨_,_,_,q⟩:=hs;exact False.elim q
 |cont=>
  obtain⟨_,_,_,q⟩:=hs;exact False.elim q
end L2
namespace L2
open PySem PySem.Spec PyProof.Rows
section
variable{X:Cx}{x:Str}{p pos:Pos}{e:Expr}{es:List Expr}{t:TA}{id T:String}{r:List V->Hp->VK->Prop}
noncomputable def Jm(r:List V->Hp->VK->Prop)(t:TA):TE:=λσ H Q=>t σ H λvs H1=>r vs H1 Q
theorem tR (hc:gh X (.builtin id) r) (hg:Gl X x) (hm:X.mg x=none) (hv:bootBuiltins x=some (.builtin id)) (ha:PA X (e :: es) t) (hn:x≠"__name__" :=by decide) (hdb:(x==("__debug__" : Str))=false:=by decide)
  (he:starEach (e :: es) X.env=(false,eval e X.env) :: starEach es X.env:=by rfl) (hpl:(backTo pos (starEach es X.env)).any (·.1)=false:=by rfl):PE X (.Call (.Name x p) (e :: es) [] pos) (Jm r t):=by
 intro pins s σ H Q I h;refine wpAny_Call_Name_kw (jN I hg hm hv ?_ hn hdb);exact PyProof.Rows.callWith_builtin1 (bJ (ha pos pins s σ H _ I h) λus s1 ⟨vs,H1,I1,r1,q1⟩=>hc pins s1 σ H1 vs us Q I1 r1 q1) he hpl
theorem rL (hc:gh X (.type T) r) (hg:Gl X x) (hm:X.mg x=none) (hv:bootBuiltins x=some (.type T)) (ha:PA X (e :: es) t) (hn:x≠"__name__" :=by decide) (hdb:(x==("__debug__" : Str))=false:=by decide)
  (he:starEach (e :: es) X.env=(false,eval e X.env) :: starEach es X.env:=by rfl) (hpl:(backTo pos (starEach es X.env)).any (·.1)=false:=by rfl):PE X (.Call (.Name x p) (e :: es) [] pos) (Jm r t):=by
 intro pins s σ H Q I h;refine wpAny_Call_Name_kw (jN I hg hm hv ?_ hn hdb);exact PyProof.Rows.callWith_type1 (bJ (ha pos pins s σ H _ I h) λus s1 ⟨vs,H1,I1,r1,q1⟩=>hc pins s1 σ H1 vs us Q I1 r1 q1) he hpl
end
end L2
namespace HT
open PySem PyProof.Rows
section
open PySem.SeqAt
open PySem.AutoSeq1 (wpAny_loadPart')
open PySem.MeetsSeq PySem.MeetsSeq2 PySem.MeetsSeq3
end
section
variable{prog:Program}{w:World}{A:Around}{E:Value->Shared->Prop}{s:Shared}
theorem Ge{t b:Addr}{vs ws:List Value}{Q:Value->Shared->Prop}(ht:IsTup s.heap t vs.toArray)(hb:IsTup s.heap b ws.toArray)(hv:vs≠[])
  (h1:ws=[]->Q (.ref t) s) (h2:ws≠[]->Q (.ref s.heap.objs.size) { s with heap:=s.heap.push { cls:=.type "tuple",data:=.seq (vs++ws).toArray }})
  (hsz:vs.length+ws.length<=sizeLine):wpAny (model prog w) A (binaryOp .Add (.ref t) (.ref b)) Q E s:=by
 obtain⟨⟨cls,dd,data,sl⟩,ho,hc,n,hd⟩:=id ht;obtain⟨⟨R4,dd2,data2,sl2⟩,ho2,hc2,n2,hd2⟩:=id hb;simp only at hc hd hc2 hd2;subst hc hd hc2 hd2;have e:vs.toArray++ws.toArray=(vs++ws).toArray:=by simp
 by_cases hw:ws=[]
 .exact concat_meets ⟨_,ho,rfl⟩ ⟨_,ho2,rfl⟩ noFill_tuple_add seq_tuple_add PySem.F.slot_tuple_add PySem.F.entry_tuple_add (PySem.F.args_tuple_add_2 _ _)
   (tuple_addW1 t b vs.toArray ws.toArray n n2 dd dd2 sl sl2 (by simpa using hv) (by simp[hw])) ⟨ho,ho2,h1 hw⟩
 .refine concat_meets ⟨_,ho,rfl⟩ ⟨_,ho2,rfl⟩ noFill_tuple_add seq_tuple_add PySem.F.slot_tuple_add PySem.F.entry_tuple_add (PySem.F.args_tuple_add_2 _ _)
   (tuple_addW2 t b vs.toArray ws.toArray n n2 dd dd2 sl sl2 (by simpa using hv) (by simpa using hw) (by rw[List.size_toArray,List.size_toArray];exact hsz)) ⟨ho,ho2,?_⟩
  rw[e];exact h2 hw
noncomputable def aV(n d:Nat):Option Int->Nat
 |none=>d
 |some v=>if v<0 then (v+(n:Int)).toNat else min v.toNat n
theorem tS(n d:Nat)(hd:d<=n)(o:Option Int):aV n d o<=n:=by
 cases o with
 |none=>exact hd
 |some v=>
  show(if v<0 then (v+(n:Int)).toNat else min v.toNat n)<=n;by_cases hv:v<0
  .rw[if_pos hv];omega
  .rw[if_neg hv];exact Nat.min_le_right _ _
theorem wz(v:Int)(n d:Nat):(if v<0 then max (v+(n:Int)) 0 else min v (n:Int))=((aV n d (some v):Nat):Int):=by
 show(if v<0 then max (v+(n:Int)) 0 else min v (n:Int))=(((if v<0 then (v+(n:Int)).toNat else min v.toNat n):Nat):Int)
 by_cases hv:v<0
 .simp only[if_pos hv];omega
 .simp only[if_neg hv];omega
theorem yi(lo hi:Option Int)(n:Nat):Builtin.Slice.sliceAdjust lo hi 1 (n:Int)=(((aV n 0 lo:Nat):Int),((aV n n hi:Nat):Int)):=by
 have h1:¬ ((1:Int)<0):=by omega
 unfold Builtin.Slice.sliceAdjust;simp only[h1,if_false];refine Prod.ext ?_ ?_
 .cases lo with
  |none=>rfl
  |some v=>exact wz v n 0
 .cases hi with
  |none=>rfl
  |some v=>exact wz v n n
theorem yj(i j:Nat):Builtin.Slice.slicePlaces (i:Int) (j:Int) 1=j - i:=by
 unfold Builtin.Slice.slicePlaces;have h1:(1:Int) > 0:=by omega
 simp only[h1,if_true,Int.ediv_one];split<;>omega
theorem pF{v:Value}{o:Option Int}{Q:Option Int->Shared->Prop}(p:IsPart v o)(h:Q o s):wpAny (model prog w) A (Builtin.Slice.slicePartIndex v) Q E s:=by
 cases p with
 |none=>exact slicePart_none h
 |int i t=>exact slicePart_int h
theorem jP{sl:Addr}{vl vu:Value}{lo hi:Option Int}{n:Nat}{Q:Int×Int×Nat->Shared->Prop}(hs:s.heap.IsSliceOf sl vl vu .none)(pl:IsPart vl lo)(pu:IsPart vu hi)
  (h:Q (((aV n 0 lo:Nat):Int),1,aV n n hi - aV n 0 lo) s):wpAny (model prog w) A (Builtin.Slice.sliceApplied (.ref sl) (pure (n:Int))) Q E s:=by
 obtain⟨os,hos,hcs,hds⟩:=id hs;unfold Builtin.Slice.sliceApplied Builtin.Slice.sliceFields;refine wpAny_bind (wpAny_bind (wpAny_field hos hds (x:=vl) rfl (wpAny_bind (wpAny_field hos hds (x:=vu) rfl (wpAny_bind (wpAny_field hos hds (x:=.none) rfl (wpAny_pure ?_)))))));refine wpAny_bind (slicePart_none ?_);show wpAny _ _ (if ((1:Int)==0)=true then _ else _) _ _ s;rw[if_neg (by decide)];refine wpAny_bind (pF pl (wpAny_bind (pF pu (wpAny_bind (wpAny_pure ?_)))));show wpAny _ _ (match Builtin.Slice.sliceAdjust lo hi 1 (n:Int)with | (lo,hi)=>pure (lo,(1:Int),Builtin.Slice.slicePlaces lo hi 1)) _ _ s;rw[yi lo hi n];show wpAny _ _ (pure (((aV n 0 lo:Nat):Int),(1:Int),Builtin.Slice.slicePlaces ((aV n 0 lo:Nat):Int) ((aV n n hi:Nat):Int) 1)) _ _ s;rw[yj];exact wpAny_pure h
theorem Cj(xs:Array Value)(i k:Nat):((List.range k).filterMap λ(m:Nat)=>xs[((i:Int)+(m:Int)*1).toNat]?).toArray=((xs.toList.drop i).take k).toArray:=by
 have e:(λ(m:Nat)=>xs[((i:Int)+(m:Int)*1).toNat]?)=λm=>xs[i+m]?:=by
  funext m
  have:((i:Int)+(m:Int)*1).toNat=i+m:=by omega
  rw[this]
 rw[e];have:=pick_run xs i k;rw[List.filterMap_map]at this;have e2:((λx=>xs[x]?) ∘ λx=>i+x)=λm=>xs[i+m]?:=rfl;rw[e2]at this;rw[this]
theorem oq{t sl:Addr}{items:Array Value}{vl vu:Value}{lo hi:Option Int}{Q:Value->Shared->Prop}(ht:IsTup s.heap t items)(hs:s.heap.IsSliceOf sl vl vu .none)(pl:IsPart vl lo)(pu:IsPart vu hi)
  (hw:¬ (aV items.size 0 lo=0/\aV items.size items.size hi=items.size))
  (h:Q (.ref s.heap.objs.size) { s with heap:=s.heap.push { cls:=.type "tuple",data:=.seq ((items.toList.drop (aV items.size 0 lo)).take (aV items.size items.size hi - aV items.size 0 lo)).toArray }})
  (hsz:items.size<=sizeLine):wpAny (model prog w) A (getItem (.ref t) (.ref sl)) Q E s:=by
 have sP:sizeOk (.seq ((items.toList.drop (aV items.size 0 lo)).take (aV items.size items.size hi - aV items.size 0 lo)).toArray):=by
  show((items.toList.drop (aV items.size 0 lo)).take (aV items.size items.size hi - aV items.size 0 lo)).toArray.size<=sizeLine;rw[List.size_toArray,List.length_take,List.length_drop,Array.length_toList];omega
 have hj:aV items.size items.size hi<=items.size:=tS _ _ (Nat.le_refl _) hi;obtain⟨os,hos,hcs,hds⟩:=id hs;have Jo:s.TypeIs (.ref sl) "slice" :=⟨os,hos,hcs⟩
 unfold getItem;try with_reducible refine wpAny_holding ?_
 first|refine wpAny_bind (wpAny_pure ?_)|skip
 refine wpAny_bind (wpAny_sequenceKey ht.typeIs (by decide) ?_);refine wpAny_bind (wpAny_callSpecial?_slot (name:=Str.ofString "__getitem__") ht.typeIs PyProof.Rows.slot_tuple_getitem
  (wpAny_call_entry PyProof.Rows.slot_tuple_getitem ht.typeIs entry_tuple_getitem ?_ (args_tuple_getitem _ _)))
 show wpAny _ _ (Builtin.Tuple.tupleItemsOf (.ref t) >>= _) _ _ s;refine wpAny_bind (tupleItemsOf_ ht ?_);refine wpAny_bind (wpAny_typeOf Jo ?_);rw[if_pos (by decide)];refine wpAny_bind (jP hs pl pu ?_);have hno:¬ ((((aV items.size 0 lo:Nat):Int)==0&&(1:Int)==1&&(aV items.size items.size hi - aV items.size 0 lo)==items.size)=true):=by
  intro q;rw[Bool.and_eq_true,Bool.and_eq_true]at q;have q1:((aV items.size 0 lo:Nat):Int)=0:=eq_of_beq q.1.1;have q2:aV items.size items.size hi - aV items.size 0 lo=items.size:=eq_of_beq q.2;exact hw ⟨by omega,by omega⟩
 show wpAny _ _ (if (((aV items.size 0 lo:Nat):Int)==0&&(1:Int)==1&&(aV items.size items.size hi - aV items.size 0 lo)==items.size)=true then _ else _) _ _ s;rw[if_neg hno,Cj];first
  |exact wpAny_bind (m:=Builtin.Tuple.tupleExact _) (wpAny_newObj_type (wpAny_pure ⟨_,rfl,wpAny_pure h⟩) sP)
  |exact wpAny_bind (m:=Builtin.Tuple.tupleExact _) (wpAny_newObj_type (wpAny_bind (wpAny_pure (wpAny_pure ⟨_,rfl,wpAny_pure h⟩))) sP)
  |exact wpAny_bind (wpAny_bind (m:=Builtin.Tuple.tupleExact _) (wpAny_newObj_type (wpAny_pure (wpAny_pure ⟨_,rfl,wpAny_pure h⟩)) sP))
  |exact wpAny_bind (wpAny_bind (m:=Builtin.Tuple.tupleExact _) (wpAny_newObj_type (wpAny_pure ⟨_,rfl,wpAny_pure h⟩) sP))
end
end HT
namespace L2
open PySem PySem.Spec PyProof.Rows
abbrev TO:=St->Hp->(Option Int->Hp->Prop)->Prop
noncomputable def PO(X:Cx)(e:Option Expr)(t:TO):Prop:=
 ∀(pins:List (Addr×Obj)) (s:Shared) (σ:St) (H:Hp) (Q:Option Int->Hp->Prop),Inv X pins σ H s->t σ H Q->
  wpAny (model X.prog X.w) X.A (evalPart e X.env) (λu s'=>∃o H',Inv X pins σ H' s'/\IsPart u o/\Q o H') X.xe s
noncomputable def Gf:TO:=λ_ H Q=>Q none H
noncomputable def NU(t:TE):TO:=λσ H Q=>t σ H λx H1=>∃i,x=.int i/\Q (some i) H1
section
variable{X:Cx}{e:Expr}{te:TE}{lo hi:Option Expr}{tl th:TO}{pos p2:Pos}
theorem Gg:PO X none Gf:=by
 intro pins s σ H Q I h;rw[evalPart_none];exact wpAny_pure ⟨none,H,I,.none,h⟩
theorem Gh(h:PE X e te):PO X (some e) (NU te):=by
 intro pins s σ H Q I hw;rw[evalPart_some];refine bJ (h pins s σ H _ I hw) λu s1 ⟨x,H1,I1,r1,q1⟩=>?_;obtain⟨i,rfl,q⟩:=q1;obtain⟨t,rfl⟩:=r1;exact⟨some i,H1,I1,.int i t,q⟩
noncomputable def kN(X:Cx)(r:V->Option Int->Option Int->Hp->VK->Prop):Prop:=
 ∀(pins:List (Addr×Obj)) (s:Shared) (σ:St) (H:Hp) (x:V) (v vl vu:Value) (lo hi:Option Int) (sl:Addr) (Q:VK),Inv X pins σ H s->RelV x v->s.heap.IsSliceOf sl vl vu .none->IsPart vl lo->IsPart vu hi->r x lo hi H Q->
  ∃T id,typeLookup (.type T) "__getitem__" = pure (some (.builtin id))/\s.TypeIs v T/\wpAny (model X.prog X.w) X.A (getItem v (.ref sl)) (EP X pins σ Q) X.xe s
noncomputable def Ut(r:V->Option Int->Option Int->Hp->VK->Prop)(te:TE)(tl th:TO):TE:=λσ H Q=>te σ H λx H1=>tl σ H1 λl H2=>th σ H2 λu H3=>r x l u H3 Q
theorem Ck{r:V->Option Int->Option Int->Hp->VK->Prop}(hr:kN X r)(he:PE X e te)(hl:PO X lo tl)(hu:PO X hi th):PE X (.Subscript e (.Slice lo hi none p2) pos) (Ut r te tl th):=by
 intro pins s σ H Q I h;refine Subscript_ (bJ (he pins s σ H _ I h) λv s1 ⟨x,H1,I1,r1,q1⟩=>?_);refine wpAny_Slice (bJ (hl pins s1 σ H1 _ I1 q1) λvl s2 ⟨l,H2,I2,pl,q2⟩=>bJ (hu pins s2 σ H2 _ I2 q2) λvu s3 ⟨u,H3,I3,pu,q3⟩=>?_);rw[evalPart_none];refine wpAny_pure ?_;have I4:Inv X pins σ H3 { s3 with heap:=s3.heap.push { cls:=.type "slice",data:=.fields #[vl,vu,.none]}}:=I3.kept (t':=s3.toks) λb ob q=>Heap.get?_push_of_some _ q;obtain⟨T,id,hT,ht,hg⟩:=hr pins { s3 with heap:=s3.heap.push { cls:=.type "slice",data:=.fields #[vl,vu,.none]}} σ H3 x v vl vu l u s3.heap.objs.size Q I4 r1 (Heap.IsSliceOf.new ..) pl pu q3;show wpAny (model X.prog X.w) X.A (subscriptTail e (.Slice lo hi none p2) v (.ref s3.heap.objs.size)) (EP X pins σ Q) X.xe { s3 with heap:=s3.heap.push { cls:=.type "slice",data:=.fields #[vl,vu,.none]}};exact tail_any (ops:=[.ref s3.heap.objs.size,v]) ht hT hg (by with_unfolding_all rfl)
noncomputable def mX(xs:List V)(lo hi:Option Int):List V:=(xs.drop (HT.aV xs.length 0 lo)).take (HT.aV xs.length xs.length hi - HT.aV xs.length 0 lo)
theorem oA(xs:List V)(lo hi:Option Int):(mX xs lo hi).length<=xs.length:=by
 unfold mX;rw[List.length_take,List.length_drop];omega
noncomputable def R5(K:PySem.W.Frag):V->Option Int->Option Int->Hp->VK->Prop:=λx lo hi H Q=>∃a xs,x=.ref a/\dH K H a xs/\
 ¬ (HT.aV xs.length 0 lo=0/\HT.aV xs.length xs.length hi=xs.length)/\∀p,H p=none->Q (.ref p) (upd H p (.tup (mX xs lo hi)))
theorem Jp:kN X (R5 X.K):=by
 intro pins s σ H x v vl vu lo hi sl Q I rx hs pl pu h;obtain⟨a,xs,rfl,hx,hw,q⟩:=h;cases rx;obtain⟨its,r,ht,hz⟩:=I.tuple hx;have hlen:its.toArray.size=xs.length:=by rw[List.size_toArray];exact r.length.symm
 refine⟨"tuple",_,PyProof.Rows.slot_tuple_getitem.lookup,ht.typeIs,?_⟩;refine HT.oq ht hs pl pu (by rw[hlen];exact hw) ?_ (by rw[hlen];exact hz);rw[hlen];refine⟨.ref s.heap.objs.size,_,I.laid (t':=s.toks) (o:=.tup (mX xs lo hi)) (λb ob q=>Heap.get?_push_of_some _ q) (Nat.le_refl _) ?_,rfl,q _ (I.hok.fresh (Nat.le_refl _))⟩;exact⟨Nat.le_trans (oA xs lo hi) hz,_,(r.drop (HT.aV xs.length 0 lo)).take (HT.aV xs.length xs.length hi - HT.aV xs.length 0 lo),IsTup.new _ _⟩
noncomputable def NV(K:PySem.W.Frag):R2:=λx y H Q=>∃a b xs ys,x=.ref a/\y=.ref b/\dH K H a xs/\dH K H b ys/\xs≠[]/\xs.length+ys.length<=sizeLine/\
 (ys=[]->Q (.ref a) H)/\(ys≠[]->∀p,H p=none->Q (.ref p) (upd H p (.tup (xs++ys))))
theorem Vals.qy{xs:List V}{us:List Value}(r:Vals xs us):us=[]↔xs=[]:=by
 cases r with
 |nil=>simp
 |cons _ _=>simp
theorem Gi:dJ X (binaryOp .Add) (NV X.K):=by
 intro pins s σ H x y v u Q I rx ry h;obtain⟨a,b,xs,ys,rfl,rfl,ha,hb,hx,hz,q1,q2⟩:=h;cases rx;cases ry;obtain⟨its,r1,p1,_⟩:=I.tuple ha;obtain⟨its2,r2,p2,_⟩:=I.tuple hb;refine HT.Ge p1 p2 (λz=>hx (r1.qy.mp z)) (λz=>⟨.ref a,H,I,rfl,q1 (r2.qy.mp z)⟩) (λz=>?_) (by rw[<-r1.length,<-r2.length];exact hz);refine⟨.ref s.heap.objs.size,_,I.laid (t':=s.toks) (o:=.tup (xs++ys)) (λb ob q=>Heap.get?_push_of_some _ q) (Nat.le_refl _) ?_,rfl,q2 (λw=>z (r2.qy.mpr w)) _ (I.hok.fresh (Nat.le_refl _))⟩;exact⟨by rw[List.length_append];exact hz,_,r1.append r2,IsTup.new _ _⟩
end
end L2
namespace L2
open PySem PySem.Spec PyProof.Rows
noncomputable def di(n:Nat)(i:Int):Option Nat:=if 0<=i then (if i<n then some i.toNat else none)else if -(n:Int)<=i then some (i+n).toNat else none
noncomputable def bM{α:Type}(xs:List α)(i:Int):Option α:=(di xs.length i).bind λj=>xs[j]?
theorem wA{n:Nat}{i:Int}{j:Nat}(h:di n i=some j):seqIndex? i n=some j/\j<n/\-(n:Int)<=i/\i<n:=by
 unfold di at h;by_cases h0:0<=i
 .rw[if_pos h0]at h;by_cases h1:i<n
  .rw[if_pos h1]at h;have e:i.toNat=j:=Option.some.inj h;exact⟨by rw[seqIndex_of h0 h1,e],by omega,by omega,h1⟩
  .rw[if_neg h1]at h;cases h
 .rw[if_neg h0]at h;by_cases h1:-(n:Int)<=i
  .rw[if_pos h1]at h;have e:(i+n).toNat=j:=Option.some.inj h;exact⟨by rw[seqIndex_neg (by omega) h1,e],by omega,h1,by omega⟩
  .rw[if_neg h1]at h;cases h
theorem qz{α:Type}{xs:List α}{i:Int}{v:α}(h:bM xs i=some v):∃j,seqIndex? i xs.length=some j/\xs[j]?=some v/\j<xs.length/\-(xs.length:Int)<=i/\i<xs.length:=by
 unfold bM at h;cases e:di xs.length i with
 |none=>rw[e]at h;cases h
 |some j=>
  rw[e]at h;obtain⟨h1,h2,h3,h4⟩:=wA e;exact⟨j,h1,h,h2,h3,h4⟩
theorem wC{α:Type}{xs:List α}{j:Nat}{v:α}(h:xs[j]?=some v):bM xs (j:Int)=some v:=by
 have hj:j<xs.length:=(List.getElem?_eq_some_iff.mp h).1;have e:di xs.length (j:Int)=some j:=by
  unfold di;rw[if_pos (by omega),if_pos (by omega)];simp
 unfold bM;rw[e];exact h
noncomputable def qA(b:Expr):Prop:=∀o i,subscripted b false o i=operate [o,i] (getItem o i)
noncomputable def wD(X:Cx)(r:R2):Prop:=
 ∀(value slice:Expr) (pins:List (Addr×Obj)) (s:Shared) (σ:St) (H:Hp) (x y:V) (v u:Value) (Q:VK),Inv X pins σ H s->RelV x v->RelV y u->r x y H Q->
  subscripted slice false v u=operate [v,u] (getItem v u)->wpAny (model X.prog X.w) X.A (subscriptTail value slice v u) (EP X pins σ Q) X.xe s
noncomputable def zV(X:Cx)(id:String)(r:V->List V->Hp->VK->Prop):Prop:=
 ∀(pins:List (Addr×Obj)) (s:Shared) (σ:St) (H:Hp) (x:V) (xs:List V) (v:Value) (us:List Value) (Q:VK),Inv X pins σ H s->RelV x v->Vals xs us->r x xs H Q->
  wpAny (model X.prog X.w) X.A (call (.builtin id) (v :: us)) (EP X pins σ Q) X.xe s
section
variable{X:Cx}{a b:Expr}{ta tb:TE}{pos:Pos}
theorem NW{r:R2}(hr:wD X r)(ha:PE X a ta)(hb:PE X b tb)(hs:qA b):PE X (.Subscript a b pos) (zP r ta tb):=by
 intro pins s σ H Q I h;exact Subscript_ (ye ha hb I h λv u s2 x y H2 I2 rx ry q=>hr a b pins s2 σ H2 x y v u Q I2 rx ry q (hs _ _))
noncomputable def R6(K:PySem.W.Frag):R2:=λx y H Q=>∃p xs i v,x=.ref p/\y=.int i/\ef K H p xs/\bM xs i=some v/\Q v H
noncomputable def R7(K:PySem.W.Frag):R2:=λx y H Q=>∃p xs i v,x=.ref p/\y=.int i/\dH K H p xs/\bM xs i=some v/\Q v H
noncomputable def R8:R2:=λx y H Q=>∃z i c,x=.str z/\y=.int i/\z.length<=sizeLine/\bM z.cps.toList i=some c/\Q (.str ⟨#[c]⟩) H
theorem Gj:wD X (R6 X.K):=by
 intro value slice pins s σ H x y v u Q I rx ry h hs;obtain⟨p,xs,i,z,rfl,rfl,hq,he,q⟩:=h;cases rx;obtain⟨t,rfl⟩:=ry;obtain⟨its,r,pl,hz⟩:=I.list hq;obtain⟨j,h1,h2,h3,h4,h5⟩:=qz he;obtain⟨w,ew,rw'⟩:=r.get h2;have hl:=r.length;have hn:=jO;have fin:EP X pins σ Q w s:=⟨z,H,I,rw',q⟩
 by_cases h0:0<=i
 .have hj:i.toNat=j:=by
   rw[seqIndex_of h0 h5]at h1;exact Option.some.inj h1
  exact item_listR pl.isList h0 (by omega) (by rw[hj];simpa using ew) fin hs
 .have hj:(i+(its.toArray.size:Int)).toNat=j:=by
   rw[seqIndex_neg (by omega) h4]at h1;rw[List.size_toArray,<-hl];exact Option.some.inj h1
  exact subscriptTail_builtinR (x:=w) pl.isList.typeIs slot_list_getitem.lookup
   (wpAny_getItem_list_neg (Q:=λr s'=>r=w/\EP X pins σ Q r s') pl.isList (by omega) (by rw[List.size_toArray]<;>omega) (by omega) (by rw[hj];simpa using ew) ⟨rfl,fin⟩) hs
theorem Jq:wD X (R7 X.K):=by
 intro value slice pins s σ H x y v u Q I rx ry h hs;obtain⟨p,xs,i,z,rfl,rfl,hq,he,q⟩:=h;cases rx;obtain⟨t,rfl⟩:=ry;obtain⟨its,r,pl,hz⟩:=I.tuple hq;obtain⟨j,h1,h2,h3,h4,h5⟩:=qz he;obtain⟨w,ew,rw'⟩:=r.get h2;have hl:=r.length;have hn:=jO;have fin:EP X pins σ Q w s:=⟨z,H,I,rw',q⟩
 exact subscriptTail_builtinR (x:=w) pl.typeIs slot_tuple_getitem.lookup
  (getItem_tuple (j:=j) (Q:=λr s'=>r=w/\EP X pins σ Q r s') pl (by omega) (by omega) (by rw[List.size_toArray,<-hl];exact h1) (by simpa using ew) ⟨rfl,fin⟩) hs
theorem Jr:wD X R8:=by
 intro value slice pins s σ H x y v u Q I rx ry h hs;obtain⟨z,i,c,rfl,rfl,hz,he,q⟩:=h;obtain⟨t,rfl⟩:=rx;obtain⟨t',rfl⟩:=ry;obtain⟨j,h1,h2,h3,h4,h5⟩:=qz he;have hl:z.cps.toList.length=z.length:=by simp[Str.length]
 rw[hl]at h1 h4 h5;have hn:=jO;exact tail_any (typeIs_str s z t) slot_str_getitem.lookup (getItem_str (c:=c) (by
  have e1:decide (i < -(2 ^ 63:Int))=false:=decide_eq_false (by omega);have e2:decide (i≥2 ^ 63)=false:=decide_eq_false (by omega);rw[e1,e2,Bool.or_false]) (by rw[h1];simpa using h2) ⟨.str ⟨#[c]⟩,H,I.tok _,⟨_,rfl⟩,q⟩) hs
theorem yk (its:List Value) (n j:Nat) (u:Value):Obj.mapSeq (·.setIfInBounds j u) { cls:=.type "list",data:=.seq its.toArray n }={ cls:=.type "list",data:=.seq (its.set j u).toArray n }:=by
 simp[Obj.mapSeq]
theorem Inv.lst{pins:List (Addr×Obj)}{σ:St}{H:Hp}{s:Shared}{p:Addr}{xs:List V}(I:Inv X pins σ H s)(h:H p=some (.lst xs)) :
  ∃(its:List Value) (n:Nat),Vals xs its/\s.heap.get? p=some { cls:=.type "list",data:=.seq its.toArray n }/\xs.length<=sizeLine:=by
 obtain⟨z,its,n,r,e⟩:=I.hok p _ h;exact⟨its,n,r,e,z⟩
theorem Inv.Js{pins:List (Addr×Obj)}{σ:St}{H:Hp}{s:Shared}{p:Addr}{xs ys:List V}{its its':List Value}{n n':Nat}{f:Obj->Obj}(I:Inv X pins σ H s)(h:H p=some (.lst xs))
  (ho:s.heap.get? p=some { cls:=.type "list",data:=.seq its.toArray n }) (hf:f { cls:=.type "list",data:=.seq its.toArray n }={ cls:=.type "list",data:=.seq its'.toArray n' }) (r:Vals ys its') (hz:ys.length<=sizeLine) (t:Nat) :
  Inv X pins σ (upd H p (.lst ys)) { s with heap:=s.heap.update p f,toks:=t }:=by
 have e:(s.heap.update p f).get? p=some { cls:=.type "list",data:=.seq its'.toArray n' }:=by
  rw[Heap.get?_update_self f ho (by rw[hf]<;>rfl),hf]
 refine I.write (x:=p) (e:=p) (by rw[h];trivial) (.inl rfl) (λb u hb q=>(Heap.get?_update_other _ _ (Ne.symm hb)).trans q) ⟨_,e⟩ ?_;exact⟨hz,its',n',r,e⟩
noncomputable def NX:V->V->V->Hp->(Hp->Prop)->Prop:=λo i v H Q=>∃p xs k j,o=.ref p/\i=.int k/\H p=some (.lst xs)/\di xs.length k=some j/\Q (upd H p (.lst (xs.set j v)))
theorem set_list:IV X NX:=by
 intro pins s σ H o i v ov iv u Q I ro ri rv h;obtain⟨p,xs,k,j,rfl,rfl,hp,hj,q⟩:=h;cases ro;obtain⟨t,rfl⟩:=ri;obtain⟨its,n,r,ho,hz⟩:=I.lst hp;obtain⟨h1,h2,h3,h4⟩:=wA hj;have hl:=r.length;have hn:=jO;have I':Inv X pins σ (upd H p (.lst (xs.set j v))) { s with heap:=s.heap.update p (Obj.mapSeq (·.setIfInBounds j u))}:=
  I.Js hp ho (yk its n j u) (r.set rv j) (by rw[List.length_set];exact hz) s.toks
 by_cases h0:0<=k
 .have hk:k.toNat=j:=by
   rw[seqIndex_of h0 h4]at h1;exact Option.some.inj h1
  exact PySem.W.ki_setAt ho h0 (by omega) (by rw[List.size_toArray,<-hl];exact h4) (by rw[hk];exact⟨_,I',q⟩)
 .have hk:(k+(its.toArray.size:Int)).toNat=j:=by
   rw[seqIndex_neg (by omega) h3]at h1;rw[List.size_toArray,<-hl];exact Option.some.inj h1
  exact PySem.W.ki_setBack ho (by omega) (by rw[List.size_toArray,<-hl];exact h3) (by omega) (by rw[hk];exact⟨_,I',q⟩)
theorem tT(lo hi:Option Int)(n:Nat):(sliceBounds lo hi none n).1=((HT.aV n 0 lo:Nat):Int)/\(sliceBounds lo hi none n).2.1=((HT.aV n n hi:Nat):Int)/\(sliceBounds lo hi none n).2.2=1:=by
 refine⟨?_,?_,rfl⟩
 .cases lo with
  |none=>simp[sliceBounds,HT.aV]
  |some i=>
   simp only[sliceBounds,HT.aV,Option.getD_none,show(1:Int) > 0 by decide,if_true];by_cases h:i<0
   .simp only[h,if_true]<;>omega
   .simp only[h,if_false]<;>omega
 .cases hi with
  |none=>simp[sliceBounds,HT.aV]
  |some i=>
   simp only[sliceBounds,HT.aV,Option.getD_none,show(1:Int) > 0 by decide,if_true];by_cases h:i<0
   .simp only[h,if_true]<;>omega
   .simp only[h,if_false]<;>omega
theorem sM(its:List Value)(lo hi:Option Int):slicePick its.toArray lo hi none=((its.drop (HT.aV its.length 0 lo)).take (HT.aV its.length its.length hi - HT.aV its.length 0 lo)).toArray:=by
 obtain⟨h1,h2,h3⟩:=tT lo hi its.toArray.size;unfold slicePick;rw[h1,h2,h3];simp only[sliceRange_one,pick_run,List.size_toArray]<;>rfl
noncomputable def R9(K:PySem.W.Frag):V->Option Int->Option Int->Hp->VK->Prop:=λx lo hi H Q=>∃a xs,x=.ref a/\ef K H a xs/\∀p,H p=none->Q (.ref p) (upd H p (.lst (mX xs lo hi)))
theorem Gk:kN X (R9 X.K):=by
 intro pins s σ H x v vl vu lo hi sl Q I rx hs pl pu h;obtain⟨a,xs,rfl,hx,q⟩:=h;cases rx;obtain⟨its,r,ht,hz⟩:=I.list hx;have hlen:=r.length;refine⟨"list",_,slot_list_getitem.lookup,ht.isList.typeIs,?_⟩;refine wpAny_getItem_list_slice ht.isList hs pl pu .none (by simp) ?_ (by rw[List.size_toArray]<;>omega);rw[sM,<-hlen];refine⟨.ref s.heap.objs.size,_,I.laid (t':=s.toks) (o:=.lst (mX xs lo hi)) (λb ob q=>Heap.get?_push_of_some _ q) (Nat.le_refl _) ?_,rfl,q _ (I.hok.fresh (Nat.le_refl _))⟩;exact⟨Nat.le_trans (oA xs lo hi) hz,_,0,(r.drop (HT.aV xs.length 0 lo)).take (HT.aV xs.length xs.length hi - HT.aV xs.length 0 lo),Heap.get?_push_size _ rfl⟩
noncomputable def sQ:V->Bool
 |.aH=>true
 |.bl _=>true
 |.int _=>true
 |.str _=>true
 |_=>false
theorem mY:gh X (.builtin "len") (λxs H Q=>∃p ys,xs=[.ref p]/\(ef X.K H p ys\/dH X.K H p ys)/\Q (.int ys.length) H):=by
 intro pins s σ H xs us Q I r h;obtain⟨p,ys,rfl,hq,q⟩:=h;obtain⟨u,rfl,rx⟩:=vals1 r;cases rx;have hn:=jO;rcases hq with hq|hq
 .obtain⟨its,r',pl,hz⟩:=I.list hq;have hlen:=r'.length;exact Calls.call_len_list pl.isList (by simp only[List.size_toArray]<;>omega) ⟨.int ys.length,H,I.tok _,⟨s.toks+1,by rw[List.size_toArray,hlen]⟩,q⟩
 .obtain⟨its,r',pl,hz⟩:=I.tuple hq;have hlen:=r'.length;exact len_tuple pl (by simp only[List.size_toArray]<;>omega) ⟨.int ys.length,H,I.tok _,⟨s.toks+1,by rw[List.size_toArray,hlen]⟩,q⟩
theorem tU:gh X (.builtin "len") (λxs H Q=>∃z,xs=[.str z]/\z.length<=sizeLine/\Q (.int z.length) H):=by
 intro pins s σ H xs us Q I r h;obtain⟨z,rfl,hz,q⟩:=h;obtain⟨u,rfl,t,rfl⟩:=vals1 r;have hn:=jO;exact len_str (by omega) ⟨.int z.length,H,I.tok _,⟨_,rfl⟩,q⟩
theorem mZ:gh X (.type "list") (λxs H Q=>∃p ys,xs=[.ref p]/\(ef X.K H p ys\/dH X.K H p ys)/\∀l,H l=none->Q (.ref l) (upd H l (.lst ys))):=by
 intro pins s σ H xs us Q I r h;obtain⟨p,ys,rfl,hq,q⟩:=h;obtain⟨u,rfl,rx⟩:=vals1 r;cases rx;have fin:∀(its:List Value),Vals ys its->ys.length<=sizeLine->∀(h':Heap) (c':Nat),(∀b o',s.heap.get? b=some o'->h'.get? b=some o')->
   h'.get? s.heap.objs.size=some { cls:=.type "list",dict:=none,data:=.seq its.toArray c',slots:=#[]}->EP X pins σ Q (.ref s.heap.objs.size) { s with heap:=h' }:=λits r' hz h' c' kp e=>
  ⟨.ref s.heap.objs.size,_,I.laid (t':=s.toks) kp (Nat.le_refl _) (show cF X.prog X.w _ h' _ (.lst ys)from ⟨hz,its,c',r',e⟩),rfl,q _ (I.hok.fresh (Nat.le_refl _))⟩
 rcases hq with hq|hq
 .obtain⟨its,r',pl,hz⟩:=I.list hq;have hlen:=r'.length;obtain⟨o,ho,hc,n,hd⟩:=pl.isList;exact call_list_seq p (.inl rfl) ho hc hd (λh' c' kp e=>fin its r' hz h' c' kp e) (by simp only[List.size_toArray]<;>omega)
 .obtain⟨its,r',pl,hz⟩:=I.tuple hq;have hlen:=r'.length;obtain⟨o,ho,hc,n,hd⟩:=pl;exact call_list_seq p (.inr rfl) ho hc hd (λh' c' kp e=>fin its r' hz h' c' kp e) (by simp only[List.size_toArray]<;>omega)
theorem mC:gh X (.type "tuple") (λxs H Q=>∃p ys,xs=[.ref p]/\((ef X.K H p ys/\∀l,H l=none->Q (.ref l) (upd H l (.tup ys)))\/(dH X.K H p ys/\Q (.ref p) H))):=by
 intro pins s σ H xs us Q I r h;obtain⟨p,ys,rfl,h⟩:=h;obtain⟨u,rfl,rx⟩:=vals1 r;cases rx;rcases h with ⟨hq,q⟩|⟨hq,q⟩
 .obtain⟨its,r',pl,hz⟩:=I.list hq;have hlen:=r'.length;refine call_tuple_list pl.isList (λh' kp=>?_) (by simp only[List.size_toArray]<;>omega);have I1:Inv X pins σ H { s with heap:=h' }:=I.kept (t':=s.toks) kp;have I2:Inv X pins σ (upd H h'.objs.size (.tup ys)) { s with heap:=h'.push { cls:=.type "tuple",data:=.seq its.toArray }}:=
   I1.laid (t':=s.toks) (λb o e=>Heap.get?_push_of_some _ e) (Nat.le_refl _) (show cF X.prog X.w _ _ _ (.tup ys)from ⟨hz,its,r',IsTup.new _ _⟩)
  exact⟨.ref h'.objs.size,_,I2,rfl,q _ (I1.hok.fresh (Nat.le_refl _))⟩
 .obtain⟨its,r',pl,hz⟩:=I.tuple hq;exact call_tuple_same pl ⟨.ref p,H,I,rfl,q⟩
noncomputable def Ew(K:PySem.W.Frag)(T:String)(x:V)(H:Hp):Prop:=match x with
 |.str _=>T = "str"
 |.int _=>T = "int"
 |.ref p=>(T = "list" /\∃xs,ef K H p xs)\/(T = "tuple" /\∃o,K.lookup p=some o/\o.cls=.type "tuple" /\o.dict=none)\/
   (T = "dict" /\((∃kvs,H p=some (.dK kvs))\/∃kvs,H p=some (.dT kvs)))\/(T = "set" /\∃S n,H p=some (.set S n))
 |_=>False
theorem Jt{pins:List (Addr×Obj)}{σ:St}{H:Hp}{s:Shared}{T:String}{x:V}{v:Value}(I:Inv X pins σ H s)(r:RelV x v)(ty:Ew X.K T x H) :
  s.TypeIs v T/\∀a,v=.ref a->∃ob,s.heap.get? a=some ob/\ob.dict=none:=by
 cases x with
 |str z=>
  obtain⟨t,rfl⟩:=r;cases (show T = "str" from ty);exact⟨typeIs_str s z t,λ_ e=>nomatch e⟩
 |int i=>
  obtain⟨t,rfl⟩:=r;cases (show T = "int" from ty);exact⟨typeIs_int s i t,λ_ e=>nomatch e⟩
 |ref p=>
  cases r;rcases ty with ⟨rfl,xs,hq⟩|⟨rfl,o,hk,hc,hd⟩|⟨rfl,hk⟩|⟨rfl,S,n,hk⟩
  .obtain⟨its,_,pl,_⟩:=I.list hq;refine⟨pl.isList.typeIs,λa e=>?_⟩;cases e;obtain⟨o,n,e,c,hd,_⟩:=pl;exact⟨o,e,hd⟩
  .refine⟨⟨o,I.gq p o hk,hc⟩,λa e=>?_⟩;cases e;exact⟨o,I.gq _ o hk,hd⟩
  .have z:∃o,s.heap.get? p=some o/\o.ExactDict:=by
    rcases hk with ⟨kvs,hk⟩|⟨kvs,hk⟩
    .obtain⟨_,_,_,_,o,_,_,e,ex,_⟩:=I.hok p _ hk;exact⟨o,e,ex⟩
    .obtain⟨_,_,_,_,o,_,_,e,ex,_⟩:=I.hok p _ hk;exact⟨o,e,ex⟩
   obtain⟨o,e,ex⟩:=z;refine⟨⟨o,e,ex.1⟩,λa e2=>?_⟩;cases e2;exact⟨o,e,ex.2.1⟩
  .obtain⟨o,_,_,_,e,ex,_⟩:=I.hok p _ hk;refine⟨⟨o,e,ex.1⟩,λa e2=>?_⟩;cases e2;exact⟨o,e,ex.2.1⟩
 |_=>exact False.elim ty
noncomputable def Uu(K:PySem.W.Frag)(T:String)(r:V->List V->Hp->VK->Prop)(to:TE)(t:TA):TE:=λσ H Q=>to σ H λx H1=>Ew K T x H1/\t σ H1 λxs H2=>r x xs H2 Q
variable{o e:Expr}{es:List Expr}{to:TE}{t:TA}{name:Str}{apos cpos:Pos}{T id:String}{r:V->List V->Hp->VK->Prop}
theorem NY (pa:PlainAttrs T) (slot:Slot T name id) (hty:typeOf (.builtin id)=pure (.type "method_descriptor")) (hm:zV X id r) (ho:PE X o to) (ha:PA X (e :: es) t)
  (hbase:attributeBase o name X.env (eval o X.env)=eval o X.env:=by rfl)
  (hfew:((backTo cpos (starEach (e :: es) X.env)).all (λx=>!x.1)&&(backToKw cpos (keywordEach [] X.env)).all (λx=>x.1.isSome)
   &&decide ((e :: es).length+([]:List Keyword).length+(if ([]:List Keyword).isEmpty then 0 else 1)<30))=true:=by rfl)
  (hline:(apos.endLine==cpos.line)=true:=by rfl) (hs:starEach (e :: es) X.env=(false,eval e X.env) :: starEach es X.env:=by rfl) (hplain:(backTo cpos (starEach es X.env)).any (·.1)=false:=by rfl) :
  PE X (.Call (.Attribute o name apos) (e :: es) [] cpos) (Uu X.K T r to t):=by
 intro pins s σ H Q I h;refine wpAny_Call_method_late hbase hfew hline rfl (bJ (ho pins s σ H _ I h) λv s1 ⟨x,H1,I1,r1,ty,q1⟩=>?_);obtain⟨h1,h2⟩:=Jt I1 r1 ty;refine⟨T,id,pa,slot,hty,h1,h2,?_⟩;have hA:=ha cpos pins s1 σ H1 _ I1 q1;rw[hs]at hA ⊢;refine Calls.callWith_builtin (by show(false || (backTo cpos (starEach es X.env)).any (·.1))=false;rw[hplain]<;>rfl) (Calls.evalArgs_plain ?_);exact bJ hA λus s2 ⟨vs,H2,I2,r2,q2⟩=>hm pins s2 σ H2 x vs v us Q I2 r1 r2 q2
end
end L2
namespace L2
open PySem PySem.Spec PyProof.Rows
noncomputable def Qo(X:Cx)(id:String)(r:V->List V->Hp->VK->Prop):Prop:=
 ∀(pins:List (Addr×Obj)) (s:Shared) (σ:St) (H:Hp) (x:V) (xs:List V) (v:Value) (us:List Value) (Q:VK),Inv X pins σ H s->RelV x v->Vals xs us->r x xs H Q->
  wpAny (model X.prog X.w) X.A (call (.builtin id) (v :: us)) (EP X pins σ Q) X.xe s
theorem Vals.one:∀{x:V}{us:List Value},Vals [x] us->∃u,us=[u]/\RelV x u
 |_,_,.cons r .nil=>⟨_,rfl,r⟩
theorem Vals.rep{xs:List V}{us:List Value}(h:Vals xs us):∀k:Nat,Vals (List.replicate k xs).flatten (List.replicate k us).flatten
 |0=>.nil
 |k+1=>by
  rw[List.replicate_succ,List.replicate_succ,List.flatten_cons,List.flatten_cons];exact Vals.append h (Vals.rep h k)
theorem foldl_rep(its:List Value):∀(k:Nat) (acc:List Value),
  List.foldl (λx1 x2=>x1++x2) acc.toArray (List.replicate k its.toArray)=(acc++(List.replicate k its).flatten).toArray
 |0,acc=>by simp
 |k+1,acc=>by
  have e:acc.toArray++its.toArray=(acc++its).toArray:=by simp
  have e2:(acc++its)++(List.replicate k its).flatten=acc++(List.replicate (k+1) its).flatten:=by
   rw[List.replicate_succ,List.flatten_cons,List.append_assoc]
  rw[<-e2,<-foldl_rep its k (acc++its),<-e,List.replicate_succ,List.foldl_cons]
section
variable{X:Cx}{pins:List (Addr×Obj)}{σ:St}{H:Hp}{s:Shared}{l b:Addr}{xs ys zs:List V}
theorem Inv.Ju{its its':List Value}{n:Nat}{f:Array Value->Array Value}{t':Nat}(I:Inv X pins σ H s)(hH:H l=some (.lst xs))
  (e:s.heap.get? l=some { cls:=.type "list",data:=.seq its.toArray n }) (hf:f its.toArray=its'.toArray) (hv:Vals ys its') (hz:ys.length<=sizeLine) :
  Inv X pins σ (upd H l (.lst ys)) { s with heap:=s.heap.update l (Obj.mapSeq f),toks:=t' }:=by
 have q:=PySem.IsL.update e f;rw[hf]at q;refine I.write (x:=l) (e:=l) (by rw[hH];exact trivial) (.inl rfl) (λb' u hb hu=>(Heap.get?_update_other s.heap (Obj.mapSeq f) (Ne.symm hb)).trans hu) ⟨_,q⟩ ?_;exact⟨hz,its',_,hv,q⟩
theorem Inv.Cm{its:List Value}{t':Nat}(I:Inv X pins σ H s)(hv:Vals ys its)(hz:ys.length<=sizeLine) :
  Inv X pins σ (upd H s.heap.objs.size (.lst ys)) { s with heap:=s.heap.push { cls:=.type "list",data:=.seq its.toArray },toks:=t' }:=
 I.laid (λ_ _ q=>Heap.get?_push_of_some _ q) (Nat.le_refl _) ⟨hz,its,0,hv,Heap.get?_push_size _ rfl⟩
theorem Inv.fresh(I:Inv X pins σ H s):H s.heap.objs.size=none:=I.hok.fresh (Nat.le_refl _)
theorem Inv.qB (I:Inv X pins σ H s) (hH:H l=some (.lst xs)):xs.length<=sizeLine/\∃(its:List Value) (n:Nat),Vals xs its/\xs.length=its.length/\s.heap.get? l=some { cls:=.type "list",data:=.seq its.toArray n }:=by
 obtain⟨z,its,n,r,e⟩:=I.hok l _ hH;exact⟨z,its,n,r,r.length,e⟩
theorem tV{n:Nat}(h:n<=sizeLine):Builtin.List.listTooLong n=false:=by
 unfold Builtin.List.listTooLong;exact decide_eq_false (by omega)
end
section
variable{X:Cx}
noncomputable def Gm:V->List V->Hp->VK->Prop:=λx vs H Q=>∃l xs y,x=.ref l/\vs=[y]/\H l=some (.lst xs)/\xs.length<sizeLine/\Q .aH (upd H l (.lst (xs++[y])))
theorem rM:Qo X "list.append" Gm:=by
 intro pins s σ H x vs v us Q I rx rv h;obtain⟨l,xs,y,rfl,rfl,hH,hz,q⟩:=h;cases rx;obtain⟨u,rfl,ru⟩:=rv.one;obtain⟨z,its,n,r,hl,e⟩:=I.qB hH;refine call_meets F.slot_list_append ⟨_,e,rfl⟩ F.entry_list_append (F.args_list_append_2 _ _) (PySem.list_append l its.toArray n u (by rw[List.size_toArray];omega)) ⟨e,?_⟩;refine⟨.aH,_,I.Ju (its':=its++[u]) hH e (by simp) (r.append (.cons ru .nil)) ?_,rfl,q⟩;rw[List.length_append,List.length_singleton];omega
noncomputable def Gn:V->List V->Hp->VK->Prop:=λx vs H Q=>∃l b xs zs,x=.ref l/\vs=[.ref b]/\H l=some (.lst xs)/\H b=some (.lst zs)/\xs.length+zs.length<=sizeLine/\Q .aH (upd H l (.lst (xs++zs)))
theorem zW:Qo X "list.extend" Gn:=by
 intro pins s σ H x vs v us Q I rx rv h;obtain⟨l,b,xs,zs,rfl,rfl,hH,hB,hz,q⟩:=h;cases rx;obtain⟨u,rfl,ru⟩:=rv.one;cases ru;obtain⟨z,its,n,r,hl,e⟩:=I.qB hH;obtain⟨z2,its2,n2,r2,hl2,e2⟩:=I.qB hB;have hsz:its.toArray.size+its2.toArray.size<=sizeLine:=by rw[List.size_toArray,List.size_toArray];omega
 have yl:¬ (!its.toArray.isEmpty&&Builtin.List.listTooLong (its.toArray.size+its2.toArray.size))=true:=by
  rw[tV hsz,Bool.and_false];exact Bool.false_ne_true
 refine call_meets F.slot_list_extend ⟨_,e,rfl⟩ F.entry_list_extend (F.args_list_extend_2 _ _)
  (AutoSeq1.list_extend_list_list_0 l its.toArray n b its2.toArray n2 yl (by rw[List.size_toArray];omega) (by omega)) ⟨e,e2,?_⟩
 refine⟨.aH,_,I.Ju (its':=its++its2) hH e (by simp) (r.append r2) ?_,rfl,q⟩;rw[List.length_append];omega
noncomputable def Sa:R2:=λx y H Q=>∃l b xs zs,x=.ref l/\y=.ref b/\H l=some (.lst xs)/\H b=some (.lst zs)/\xs.length+zs.length<=sizeLine/\∀p,H p=none->Q (.ref p) (upd H p (.lst (xs++zs)))
theorem Jv:dJ X (binaryOp .Add) Sa:=by
 intro pins s σ H x y v u Q I rx ry h;obtain⟨l,b,xs,zs,rfl,rfl,hH,hB,hz,q⟩:=h;cases rx;cases ry;obtain⟨z,its,n,r,hl,e⟩:=I.qB hH;obtain⟨z2,its2,n2,r2,hl2,e2⟩:=I.qB hB;refine PySem.P.add_list e e2 ?_ (by rw[List.size_toArray,List.size_toArray];omega);have ea:its.toArray++its2.toArray=(its++its2).toArray:=by simp
 rw[ea];exact⟨.ref _,_,I.Cm (t':=s.toks) (r.append r2) (by rw[List.length_append];omega),rfl,q _ I.fresh⟩
noncomputable def Sb:R2:=λx y H Q=>∃l k xs,x=.ref l/\y=.int k/\H l=some (.lst xs)/\-(2 ^ 63)<=k/\k<2 ^ 63/\xs.length*k.toNat<=sizeLine/\
 ∀p,H p=none->Q (.ref p) (upd H p (.lst (List.replicate k.toNat xs).flatten))
theorem len_rep{α:Type}(xs:List α)(k:Nat):(List.replicate k xs).flatten.length=k*xs.length:=by
 induction k with
 |zero=>simp
 |succ k ih=>rw[List.replicate_succ,List.flatten_cons,List.length_append,ih,Nat.succ_mul,Nat.add_comm]
theorem Jw:dJ X (binaryOp .Mult) Sb:=by
 intro pins s σ H x y v u Q I rx ry h;obtain⟨l,k,xs,rfl,rfl,hH,h1,h2,hz,q⟩:=h;cases rx;obtain⟨t,rfl⟩:=ry;obtain⟨z,its,n,r,hl,e⟩:=I.qB hH;have hlen:its.toArray.size*k.toNat<=sizeLine:=by rw[List.size_toArray,<-hl];exact hz
 have hcap:¬ its.toArray.size*k.toNat > (2 ^ 63 - 1) / 8:=by
  have:(sizeLine:Nat)<=(2 ^ 63 - 1) / 8:=by decide
  omega
 have hfit:¬ (!Builtin.List.listFitsIndex k)=true:=by
  rw[fitsIndex_both h1 h2];exact Bool.false_ne_true
 have yl:¬ Builtin.List.listTooLong (its.toArray.size*k.toNat)=true:=by
  rw[tV hlen];exact Bool.false_ne_true
 have hnew:List.foldl (λx1 x2=>x1++x2) #[] (List.replicate (if its.toArray.isEmpty=true then 0 else k.toNat) its.toArray)=(List.replicate k.toNat its).flatten.toArray:=by
  have f0:∀m:Nat,List.foldl (λx1 x2=>x1++x2) #[] (List.replicate m its.toArray)=(List.replicate m its).flatten.toArray:=λm=>by
   have:=foldl_rep its m [];rw[List.nil_append]at this;exact this
  rw[f0];cases its with
  |nil=>simp
  |cons a r'=>rw[if_neg (by simp)]
 refine wpAny_binaryOp_repeat_ref (T:="list") (U:="int") (by decide) ⟨_,e,rfl⟩ (λs'=>typeIs_int s' k t) noFill_list_mul F.fills_int_mul F.slot_int_rmul repeat_list F.slot_int_index.lookup
  (call_meets F.slot_int_rmul (typeIs_int s k t) F.entry_int_rmul (F.args_int_rmul_2 _ _) (int___rmul___int_list k t l its.toArray n)
   ⟨e,rfl,⟨_,e,rfl⟩,call_meets F.slot_list_mul ⟨_,e,rfl⟩ F.entry_list_mul (F.args_list_mul_2 _ _) (AutoListH.list___mul___list_int_3 l its.toArray n k t hfit hcap yl) ⟨e,?_⟩⟩)
 rw[hnew];exact⟨.ref _,_,I.Cm (t':=s.toks) (r.rep k.toNat) (by rw[len_rep,Nat.mul_comm];exact hz),rfl,q _ I.fresh⟩
end
section
variable{prog:Program}{w:World}{A:Around}{E:Value->Shared->Prop}{s:Shared}
end
section
variable{X:Cx}
end
end L2
namespace Qp
open PySem PySem.W PySem.Calls PyProof.Rows
theorem pG{P:Params}{h:Heap}:∀(ns:List Int) (vs:List Value),WellAll P h vs (ns.map WData.int)->IntsAre vs ns:=by
 intro ns;induction ns with
 |nil=>
  intro vs w;rw[List.map_nil]at w;cases w;exact .nil
 |cons n ns ih=>
  intro vs w;rw[List.map_cons]at w;cases w with
  |cons a b=>
   cases a;exact .cons _ _ (ih _ b)
theorem zX{l:OpenLaw}{n:Nat}(hn:l.most=some n){P:Params}{h:Heap}{args:List WData}{vals:List Value}
  (hpre:l.row.toRowW.claim.pre args=true) (hwl:WellAll P h vals args) :
  ∃a vs ns,vals=[Value.ref a]/\args=[WData.list (ns.map WData.int)]/\h.get? a=some { cls:=.type "list",data:=.seq vs.toArray }/\IntsAre vs ns/\ns.length<=n:=by
 have hsh:WShape.hasAll [] args [.list .int]=true:=(pre_splitW hpre).1;have hc:l.pre.holds [] { args:=args }=true:=(pre_splitW hpre).2;obtain⟨d,r,rfl,h1,h2⟩:=hasAllW_cons hsh;obtain rfl:=hasAllW_nil h2;obtain⟨xs,rfl,h3⟩:=hasW_list h1;obtain⟨ns,rfl⟩:=items_int h3;have hlen:ns.length<=n:=by
  unfold OpenLaw.pre at hc;have h4:(WTm.not (.lt (.lit (.int (n:Int))) (.len (.arg 0)))).holds [] { args:=[.list (ns.map .int)]}=true:=by
   have h4:=(holds_andW hc).1;rw[hn]at h4;exact h4
  have h5:=condW_of h4 (w_not (w_lt w_lit (w_len_list (w_arg rfl))));rw[List.length_map]at h5;refine Nat.le_of_not_lt λq=>?_;have q':(n:Int)<((ns.length:Nat):Int):=by omega
  first
   | (rw[decide_eq_true q']at h5;exact absurd h5 (by decide))
   | (simp at h5;omega)
 cases hwl with
 |cons w1 w2=>
  cases w2;cases w1 with
  |list ho hall=>exact⟨_,_,ns,rfl,rfl,ho,pG ns _ hall,hlen⟩
theorem zY(l:OpenLaw)(args:List WData):l.row.toRowW.claim.post args (.bool true) args=true:=
 postW_of (r:=l.row.toRowW) (X:=(true==true))
  (show WShape.has [] (.bool true) .bool=true by first|rfl|decide|simp[WShape.has,WShape.arms,WShape.armsAll])
  (show(WTm.eq .res (.lit (.bool true))).value [] { args:=args,res:=some (.bool true),after:=args }=some (.bool (true==true))from w_eq_bool (w_res rfl) w_lit) rfl
theorem vC{l:OpenLaw}{n:Nat}{q:Program}{loose:List Str}{XP:(Str->Option Value)->Heap->Prop}{YP:World->Heap->Prop}{d:DefRec}
  (hn:l.most=some n) (hdf:d.params.defaults=[])
  (call:∀(w:World) (s₀ s₁:Shared) (mg mb:Str->Option Value) (fa:Addr) (o:Obj) (pm cd doc:Value) (a:Addr) (vs:List Value) (ns:List Int),
   Ground q loose [] XP w s₀ mg mb s₁.heap->YP w s₁.heap->
   s₁.heap.get? fa=some o->o.data=.func (docDef d.name d.params d.body d.scope pm cd doc)->s₁.heap.CodeRec cd d.name->mg d.name=some (.ref fa)->
   s₁.heap.get? a=some { cls:=.type "list",data:=.seq vs.toArray }->IntsAre vs ns->ns.length<=n->s₁.gens = #[]->
   codeAny (model l.prog w) callerA (.call (.ref fa) ⟨[.ref a],[]⟩) (λr s'=>r=.ok (.ret (.bool true))/\OldK s₁.heap s'.heap/\s'.os=s₁.os/\AllBare s'.gens) s₁) :
  WalkO q loose XP YP l.row.toRowW d [] (λf vs=>PySem.call f vs):=by
 intro w s₀ s₁ mg mb G Y fa o pm cd doc dV kV ho hd hcd hD hmg hg args vals as hpre hlay hrd hwl hlo;obtain rfl:dV=.none:=Dflts.none hD hdf;obtain rfl:kV=.none:=Dflts.noKw hD;obtain⟨a,vs,ns,rfl,rfl,hobj,hints,hlen⟩:=zX hn hpre hwl;refine enter_call (codeAny_mono (call w s₀ s₁ mg mb fa o pm cd doc a vs ns G Y ho (fd_plain hd) hcd hmg hobj hints hlen hg) λr s' hq=>?_);obtain⟨rfl,h2,h3,h4⟩:=hq;exact⟨.inl ⟨.bool true,.bool true,[],rfl,λ_=>rfl,.bool true,zY l _,λ_=>⟨List.Pairwise.nil,λ_ hm=>(nomatch hm)⟩⟩,h2,h3,h4⟩
section
variable{prog:Program}{w:World}{A:Around}{E:Value->Shared->Prop}{s:Shared}{K:Frag}
end
end Qp
namespace L2
open PySem PySem.Spec PyProof.Rows
theorem rN:∀{vs:List Value}{ns:List Int},IntsAre vs ns->Vals (ns.map V.int) vs
 |_,_,.nil=>.nil
 |_,_,.cons n t h=>.cons ⟨t,rfl⟩ (rN h)
noncomputable def qC(H:Hp):Prop:=∀b,H b=none\/∃o xs,H b=some (.bD o (.lst xs))
theorem Cn{P:Program}{w:World}{K:PySem.W.Frag}{mg mb:Str->Option Value}{CX:mz}{k:Nat}{fa a:Addr}{fd:FuncData}{x:Str}{sp:Sp}{s₁:Shared}{vs:List Value}{ns:List Int}
  (KX:K.In s₁.heap) (hns:s₁.heap.Ns mainGlobals mg) (hb:s₁.heap.Ns builtinsNs mb) (Jx:∀x:Str,x≠"__name__" ->mb x=bootBuiltins x) (hlim:s₁.heap.NoLimit) (hg:s₁.gens = #[])
  (ha:s₁.heap.get? a=some { cls:=.type "list",data:=.seq vs.toArray }) (hi:IntsAre vs ns) (hl:ns.length<=sizeLine) (hr:fC k callerA)
  (F:∀base:Heap,K.In base->base.Ns mainGlobals mg->g8 P w K mg base CX k fa fd [x] sp) (hbind:∀(s:Shared) (u:Value),BindsTo s fd ⟨[u],[]⟩ [(x,u)])
  (kM:∀H:Hp,qC H->ef K H a (ns.map V.int)->sp [.ref a] H (λv _=>v=.bl true) λ_ _ _=>False)
  (zZ:∀H e s',CX [] H s₁ (λ_ _ _=>False) e s'->False) :
  codeAny (model P w) callerA (.call (.ref fa) ⟨[.ref a],[]⟩) (λr s'=>r=.ok (.ret (.bool true))/\OldK s₁.heap s'.heap/\s'.os=s₁.os/\AllBare s'.gens) s₁:=by
 have rv:=rN hi;have Sd:=hi.length;have core:∀H:Hp,qC H->ef K H a (ns.map V.int)->ee P w H s₁.heap->(∀b,H b≠none->b=a)->(H a≠none->K.lookup a=none)->
   codeAny (model P w) callerA (.call (.ref fa) ⟨[.ref a],[]⟩) (λr s'=>r=.ok (.ret (.bool true))/\OldK s₁.heap s'.heap/\s'.os=s₁.os/\AllBare s'.gens) s₁:=by
  intro H hO hS hok hA hK;have wF:∀{b:Addr} {o:Obj},s₁.heap.get? b=some o->H b=none->(lC s₁.heap H).get? b=some o:=λe n=>B5 e n;have zU:∀{b:Addr} {o:Obj} {es:Array DictEntry} {ep:Nat},s₁.heap.get? b=some o->o.data=.dict es ep->H b=none:=λ{b o es ep} e d=>by
   cases q:H b with
   |none=>rfl
   |some u=>
    have e':b=a:=hA b (by rw[q];simp);subst e';rw[ha]at e;cases e;have d':Data.seq vs.toArray _=Data.dict es ep:=d;cases d'
  have Ex:∀{b:Addr} {m:Str->Option Value},s₁.heap.Ns b m->(lC s₁.heap H).Ns b m:=λ{b m} ⟨o,es,ep,e,d,r⟩=>⟨o,es,ep,wF e (zU e d),d,r⟩
  have Qq:K.In (lC s₁.heap H):=λb o e=>wF (KX b o e) (by
   cases q:H b with
   |none=>rfl
   |some u=>
    have e':b=a:=hA b (by rw[q];simp);subst e';rw[hK (by rw[q];simp)]at e;cases e)
  have hM:Mod K mg (lC s₁.heap H):=⟨Qq,Ex hns,⟨mb,Ex hb,Jx⟩,let ⟨mc,h1,h2⟩:=hlim;⟨mc,Ex h1,h2⟩⟩
  have e0:yh P w K mg (lC s₁.heap H) callerA [] s₁ H:=⟨rfl,hM,λb o e=>FJ e,Nat.le_of_eq (zF _ _),trivial,λb hb=>absurd (show b∈([]:List Addr)from hb) (by simp),hok,.of_eq hg⟩
  refine codeAny_mono ((F _ Qq (Ex hns)).run callerA [] s₁ H ⟨[.ref a],[]⟩ [.ref a] [.ref a] _ _ hr e0 (hbind s₁ (.ref a)) (.cons rfl .nil) (kM H hO hS)) λr s' h=>?_;cases r with
  |error e=>exact(zZ H e s' h).elim
  |ok fl=>
   cases fl with
   |next=>exact False.elim h
   |brk=>exact False.elim h
   |cont=>exact False.elim h
   |ret u=>
    obtain⟨v,H',os,bare,un,Se,r',q⟩:=h;have q':v=.bl true:=q;subst q';obtain rfl:u=Value.bool true:=r';refine⟨rfl,OldK.of_keep λb o e=>?_,os,bare⟩;cases q:H b with
    |none=>exact un.keep b o e q (by intro z;exact absurd (show b∈([]:List Addr)from z) (by simp)) (by simp)
    |some u=>
     rcases hO b with z|⟨ob,xs,z⟩
     .rw[q]at z;cases z
     .have z2:=un.lB b ob _ z;obtain⟨e1,_⟩:=hok b _ z;obtain⟨e2,_⟩:=Se b _ z2;rw[e]at e1;cases e1;exact e2
 cases hk:K.lookup a with
 |some o=>
  have e:=KX a o hk;rw[ha]at e;cases e;refine core (λ_=>none) (λ_=>.inl rfl) (.inr ⟨_,vs.toArray,_,hk,rfl,rfl,rfl,by rw[List.size_toArray,Sd];exact hl,by simpa using rv⟩) (λb u z=>by have z':(none:Option HO)=some u:=z;cases z') (λb z=>absurd rfl z) λz=>absurd rfl z
 |none=>
  refine core (λb=>if b=a then some (.bD { cls:=.type "list",data:=.seq vs.toArray } (.lst (ns.map V.int)))else none) (λb=>?_) (.inl (.inr ⟨{ cls:=.type "list",data:=.seq vs.toArray },if_pos rfl⟩)) (λb u z=>?_) (λb z=>?_) λ_=>hk
  .by_cases hb:b=a
   .exact .inr ⟨_,_,if_pos hb⟩
   .exact .inl (if_neg hb)
  .by_cases hb:b=a
   .have z':=(if_pos hb).symm.trans z;cases z';subst hb;exact⟨ha,by rw[List.length_map];exact hl,vs,_,rv,ha⟩
   .have z':=(if_neg hb).symm.trans z;cases z'
  .by_cases hb:b=a
   .exact hb
   .exact absurd (if_neg hb) z
end L2
namespace L2
open PySem PySem.Spec PyProof.Rows
theorem Gp{l:PySem.W.OpenLaw}{n k:Nat}{q:Program}{loose:List Str}{XP:(Str->Option Value)->Heap->Prop}{YP:World->Heap->Prop}{d:DefRec}{K:Params->PySem.W.Frag}{CX:World->mz}{sp:World->Sp}{x:Str}
  (hn:l.most=some n) (hn2:n<=sizeLine) (hdf:d.params.defaults=[]) (hr:fC k callerA)
  (hY:∀(w:World) (h:Heap),YP w h->(K w.params).In h)
  (F:∀(w:World) (mg:Str->Option Value) (fa:Addr) (h:Heap),(K w.params).In h->h.Ns mainGlobals mg->mg d.name=some (.ref fa)->
   ∃fd:FuncData,(∀(s:Shared) (u:Value),BindsTo s fd ⟨[u],[]⟩ [(x,u)])/\
    ∀base:Heap,(K w.params).In base->base.Ns mainGlobals mg->g8 l.prog w (K w.params) mg base (CX w) k fa fd [x] (sp w))
  (kM:∀(w:World) (H:Hp) (a:Addr) (ns:List Int),ns.length<=n->qC H->ef (K w.params) H a (ns.map V.int)->sp w [.ref a] H (λv _=>v=.bl true) λ_ _ _=>False)
  (zZ:∀(w:World) (H:Hp) (s:Shared) (e:Value) (s':Shared),CX w [] H s (λ_ _ _=>False) e s'->False) :
  PySem.W.WalkO q loose XP YP l.row.toRowW d [] (λf vs=>PySem.call f vs):=by
 refine Qp.vC hn hdf λw s₀ s₁ mg mb fa o pm cd doc a vs ns G Y ho hd hcd hmg hobj hints hlen hg=>?_;have KX:=hY w _ Y;obtain⟨fd,hb,hF⟩:=F w mg fa _ KX G.T.g hmg;exact Cn KX G.T.g G.T.b G.T.builtins G.T.nolimit hg hobj hints (Nat.le_trans hlen hn2) hr hF hb (λH hO hS=>kM w H a ns hlen hO hS) λH e s'=>zZ w H s₁ e s'
theorem Co{l:PySem.W.OpenLaw}{n k:Nat}{q:Program}{loose:List Str}{XP:(Str->Option Value)->Heap->Prop}{YP:World->Heap->Prop}{d:DefRec}{K:Params->PySem.W.Frag}{CX:mz}{sp:PySem.W.Frag->Sp}{x:Str}
  (hn:l.most=some n) (hn2:n<=sizeLine) (hdf:d.params.defaults=[]) (hr:fC k callerA)
  (hY:∀(w:World) (h:Heap),YP w h->(K w.params).In h)
  (F:∀(w:World) (mg:Str->Option Value) (fa:Addr) (h:Heap),(K w.params).In h->h.Ns mainGlobals mg->mg d.name=some (.ref fa)->
   ∃fd:FuncData,(∀(s:Shared) (u:Value),BindsTo s fd ⟨[u],[]⟩ [(x,u)])/\
    ∀base:Heap,(K w.params).In base->base.Ns mainGlobals mg->g8 l.prog w (K w.params) mg base CX k fa fd [x] (sp (K w.params)))
  (kM:∀(K:PySem.W.Frag) (H:Hp) (a:Addr) (ns:List Int),ns.length<=n->qC H->ef K H a (ns.map V.int)->sp K [.ref a] H (λv _=>v=.bl true) λ_ _ _=>False)
  (zZ:∀(H:Hp) (s:Shared) (e:Value) (s':Shared),CX [] H s (λ_ _ _=>False) e s'->False) :
  PySem.W.WalkO q loose XP YP l.row.toRowW d [] (λf vs=>PySem.call f vs):=
 Gp (K:=K) (CX:=λ_=>CX) (sp:=λw=>sp (K w.params)) hn hn2 hdf hr hY F (λw H a ns h1 h2 h3=>kM (K w.params) H a ns h1 h2 h3) λ_ H s e s'=>zZ H s e s'
end L2
namespace L2
open PySem PySem.Spec PyProof.Rows
noncomputable def nQ(s:Stmt):Arguments:=match s with
 |.FunctionDef _ a _ _ _ _ _ _ _ _=>a
 |_=>{ posonlyargs:=[],args:=[],vararg:=none,kwonlyargs:=[],kw_defaults:=[],kwarg:=none,defaults:=[]}
noncomputable def gQ(s:Stmt):List Stmt:=match s with
 |.FunctionDef _ _ b _ _ _ _ _ _ _=>b
 |_=>[]
noncomputable def aT(s:Stmt):Scope:=match s with
 |.FunctionDef _ _ _ _ _ _ sc _ _ _=>sc
 |_=>{ kind:=.function,names:=[],isGenerator:=false,isCoroutine:=false }
abbrev m5:mz:=λ_ _ _ _ _ _=>False
abbrev E0:XK:=λ_ _ _=>False
theorem Ey{X:Cx}:Passes m5 X E0:=λ_ _ _ _ _ _ _ h=>h.elim
structure rO(K:PySem.W.Frag)(x qual:Str)(st:Stmt)(f:Addr)(fd:FuncData):Prop where
 ex:∃(oc:Value) (od:Option Addr) (kV doc pm:Value) (an:Option Addr) (cdv ct:Value) (osl:Array (Option Value)),
  fd=PySem.W.fnOf x qual (nQ st) (gQ st) (aT st) .none kV doc pm an cdv ct/\K.lookup f=some ⟨oc,od,.func fd,osl⟩/\PySem.W.codeIn K cdv qual=true
 kp:PySem.W.keepIn K (.ref f)=true
section
variable{P:Program}{w:World}{K:PySem.W.Frag}{mg:Str->Option Value}{base:Heap}
theorem rO.ok{x qual:Str}{st:Stmt}{f:Addr}{fd:FuncData}{N ps:List Str}{k:Nat}{sp:Sp}(F:rO K x qual st f fd)(S:bF N ps (aT st))(len:∀vs H Q E,sp vs H Q E->vs.length=ps.length)
  (hbody:∀(cdv:Value) (A:Around) (outer:List Env) (s:Shared) (H:Hp) (vs:List V) (Q:VK) (E:XK),fC k (A.deeper (envOfC qual (aT st) s.heap.objs.size f cdv))->sp vs H Q E->
   ∃t,iM (oO m5 P w K mg base N qual (aT st) f cdv A outer s H E).rE (gQ st) t/\t { nx:=λ_ H'=>Q .aH H',rt:=Q } (start N vs) H):g8 P w K mg base m5 (k+1) f fd ps sp:=by
 obtain⟨oc,od,kV,doc,pm,an,cdv,ct,osl,rfl,lk,hcd⟩:=F.ex;refine NT lk hcd S len λA outer s H vs Q E hr kM=>?_;obtain⟨t,h,q⟩:=hbody cdv A outer s H vs Q E hr kM;exact⟨t,h.rE,q⟩
theorem rO.binds{x qual:Str}{st:Stmt}{f:Addr}{fd:FuncData}{ps:List Str}(F:rO K x qual st f fd)
  (h:∀(kV doc pm:Value) (an:Option Addr) (cdv ct:Value) (us:List Value),us.length=ps.length->bindArgs (PySem.W.fnOf x qual (nQ st) (gQ st) (aT st) .none kV doc pm an cdv ct) ⟨us,[]⟩=pure (ps.zip us)):Binds K fd ps []:=by
 obtain⟨oc,od,kV,doc,pm,an,cdv,ct,osl,rfl,lk,hcd⟩:=F.ex;exact .all (h kV doc pm an cdv ct)
theorem b9{x qual:Str}{st:Stmt}{f:Addr}{oc:Value}{od an:Option Addr}{osl:Array (Option Value)}{kV doc pm cdv ct:Value}(l:K.lookup f=some ⟨oc,od,.func (PySem.W.fnOf x qual (nQ st) (gQ st) (aT st) .none kV doc pm an cdv ct),osl⟩)
  (c:PySem.W.codeIn K cdv qual=true) (k:PySem.W.keepIn K (.ref f)=true):rO K x qual st f (PySem.W.fnOf x qual (nQ st) (gQ st) (aT st) .none kV doc pm an cdv ct):=⟨⟨oc,od,kV,doc,pm,an,cdv,ct,osl,rfl,l,c⟩,k⟩
end
theorem Ez{A:Around}{k:Nat}(hr:fC k A):A.units+1<cLine:=Nat.lt_of_le_of_lt (Nat.add_le_add_left (by decide:1<=64) _) hr.units
section
variable{X:Cx}
theorem pv (i:Nat) {x:Str}{pos:Pos}(hN:X.N[i]?=some x:=by rfl) (hv:zG X.env.scope x:=by first|exact Or.inl rfl|exact Or.inr (Or.inl rfl)|exact Or.inr (Or.inr rfl)) (hd:(x==("__debug__" : Str))=false:=by decide)
  (hcd:(x==("__classdict__" : Str))=false:=by decide):PE X (.Name x pos) (IJ i):=zJ hN hv hd hcd
end
end L2
set_option maxRecDepth 100000
namespace L2
open PySem PySem.Spec PyProof.Rows
section
variable{κ:Type}[DecidableEq κ]
noncomputable def iO(kvs:List (κ×V))(k:κ):Option V:=(kvs.find? λkv=>decide (kv.1=k)).map (·.2)
noncomputable def putK(kvs:List (κ×V))(k:κ)(v:V):List (κ×V):=
 if (kvs.any λkv=>decide (kv.1=k))=true then kvs.map (λkv=>if kv.1=k then (kv.1,v)else kv)else kvs++[(k,v)]
theorem oQ{p:κ×V}{r:List (κ×V)}{k:κ}(e:p.1=k):iO (p :: r) k=some p.2:=by simp[iO,List.find?_cons,e]
theorem oR{p:κ×V}{r:List (κ×V)}{k:κ}(e:¬ p.1=k):iO (p :: r) k=iO r k:=by simp[iO,List.find?_cons,e]
theorem tW(k:κ):∀kvs:List (κ×V),(kvs.any λkv=>decide (kv.1=k))=(iO kvs k).isSome
 |[]=>rfl
 |p :: r=>by
  rw[List.any_cons];by_cases e:p.1=k
  .simp only[oQ e,decide_eq_true e,Bool.true_or,Option.isSome_some]
  .rw[oR e,decide_eq_false e,Bool.false_or];exact tW k r
theorem kC(kvs:List (κ×V))(k:κ)(v:V):(putK kvs k v).length<=kvs.length+1:=by
 unfold putK;split
 .rw[List.length_map];omega
 .rw[List.length_append,List.length_cons,List.length_nil];omega
theorem ly.Aa{o:Option V}{u:Option Value}(r:ly o u):o.isSome=u.isSome:=by
 cases o with
 |none=>cases u with
  |none=>rfl
  |some _=>exact(show False from r).elim
 |some _=>cases u with
  |none=>exact(show False from r).elim
  |some _=>rfl
theorem ly.getD{o:Option V}{u:Option Value}{d:V}{d':Value}(r:ly o u)(rd:RelV d d'):RelV (o.getD d) (u.getD d'):=by
 cases o with
 |none=>cases u with
  |none=>exact rd
  |some _=>exact(show False from r).elim
 |some _=>cases u with
  |none=>exact(show False from r).elim
  |some _=>exact r
theorem KV.val{kvs:List (κ×V)}{vs:List (κ×Value)}(r:KV kvs vs)(k:κ):ly (iO kvs k) (valueAt vs k):=by
 unfold KV at r;induction r with
 |nil=>exact True.intro
 |@cons p q ps qs h t ih=>
  obtain⟨h1,h2⟩:=h;by_cases e:p.1=k
  .have e':q.1=k:=h1.symm.trans e;have b:valueAt (q :: qs) k=some q.2:=by simp[valueAt,List.find?_cons,e']
   rw[oQ e,b];exact h2
  .have e':¬ q.1=k:=λz=>e (h1.trans z);have b:valueAt (q :: qs) k=valueAt qs k:=by simp[valueAt,List.find?_cons,e']
   rw[oR e,b];exact ih
theorem KV.any{kvs:List (κ×V)}{vs:List (κ×Value)}(r:KV kvs vs)(k:κ):(kvs.any λkv=>decide (kv.1=k))=vs.any λkv=>decide (kv.1=k):=by
 unfold KV at r;induction r with
 |nil=>rfl
 |cons h t ih=>rw[List.any_cons,List.any_cons,ih,h.1]
theorem KV.repl{kvs:List (κ×V)}{vs:List (κ×Value)}(r:KV kvs vs)(k:κ){y:V}{u:Value}(ry:RelV y u) :
  KV (kvs.map λkv=>if kv.1=k then (kv.1,y)else kv) (vs.map λkv=>if kv.1=k then (kv.1,u)else kv):=by
 unfold KV at r ⊢;induction r with
 |nil=>exact .nil
 |@cons p q ps qs h t ih=>
  rw[List.map_cons,List.map_cons];refine .cons ?_ ih;obtain⟨h1,h2⟩:=h;by_cases e:p.1=k
  .rw[if_pos e,if_pos (h1.symm.trans e)];exact⟨h1,ry⟩
  .rw[if_neg e,if_neg (λz=>e (h1.trans z))];exact⟨h1,h2⟩
theorem KV.put{kvs:List (κ×V)}{vs:List (κ×Value)}(r:KV kvs vs)(k:κ){y:V}{u:Value}(ry:RelV y u):KV (putK kvs k y) (stored vs k u):=by
 unfold putK stored;rw[r.any k];by_cases e:(vs.any λkv=>decide (kv.1=k))=true
 .rw[if_pos e,if_pos e];exact r.repl k ry
 .rw[if_neg e,if_neg e];exact Paired.snoc r ⟨rfl,ry⟩
theorem KV.length{kvs:List (κ×V)}{vs:List (κ×Value)}(r:KV kvs vs):kvs.length=vs.length:=Paired.length r
end
theorem ym{P:Program}{w:World}{k:Key}{u:Value}(r:RelV (kV k) u):(cR P w).is k u=true:=by
 cases k with
 |inl i=>obtain⟨t,e⟩:=(show ∃t,u=Value.int i t from r);subst e;exact vz P w i t
 |inr x=>obtain⟨t,e⟩:=(show ∃t,u=Value.str x t from r);subst e;exact vA P w x t
theorem rP{P:Program}{w:World}:∀{ks:List Key}{us:List Value},Vals (ks.map kV) us->ItemsAre (cR P w) ks us
 |[],_,r=>by rw[List.map_nil]at r;cases r;exact .nil
 |k :: ks,_,r=>by
  rw[List.map_cons]at r;cases r with
  |cons h t=>exact .cons (ym h) (rP t)
abbrev KT(H:Hp):List (List Key×V)->List (List Key×Addr×Value)->Prop:=Paired λp q=>p.1=q.1/\H q.2.1=some (.tup (p.1.map kV))/\RelV p.2 q.2.2
theorem KT.val{H:Hp}{kvs:List (List Key×V)}{xs:List (List Key×Addr×Value)}(r:KT H kvs xs)(k:List Key):ly (iO kvs k) ((atKey xs k).map (·.2)):=by
 induction r with
 |nil=>exact True.intro
 |@cons p q ps qs h t ih=>
  obtain⟨h1,_,h2⟩:=h;by_cases e:p.1=k
  .have e':q.1=k:=h1.symm.trans e;have b:atKey (q :: qs) k=some q.2:=by simp[atKey,List.find?_cons,e']
   rw[oQ e,b];exact h2
  .have e':¬ q.1=k:=λz=>e (h1.trans z);have b:atKey (q :: qs) k=atKey qs k:=by simp[atKey,List.find?_cons,e']
   rw[oR e,b];exact ih
theorem KT.repl{H:Hp}{kvs:List (List Key×V)}{xs:List (List Key×Addr×Value)}(r:KT H kvs xs)(k:List Key){y:V}{u:Value}(ry:RelV y u) :
  KT H (kvs.map λkv=>if kv.1=k then (kv.1,y)else kv) (xs.map (putAt k u)):=by
 induction r with
 |nil=>exact .nil
 |@cons p q ps qs h t ih=>
  rw[List.map_cons,List.map_cons];refine .cons ?_ ih;obtain⟨h1,h2,h3⟩:=h;unfold putAt;by_cases e:p.1=k
  .rw[if_pos e,if_pos (h1.symm.trans e)];exact⟨h1,h2,ry⟩
  .rw[if_neg e,if_neg (λz=>e (h1.trans z))];exact⟨h1,h2,h3⟩
theorem KT.put{H:Hp}{kvs:List (List Key×V)}{xs:List (List Key×Addr×Value)}(r:KT H kvs xs)(k:List Key){b:Addr}{y:V}{u:Value}(hb:H b=some (.tup (k.map kV)))(ry:RelV y u) :
  KT H (putK kvs k y) (storedH xs k b u):=by
 have e:(kvs.any λkv=>decide (kv.1=k))=(atKey xs k).isSome:=by
  rw[tW,(r.val k).Aa,Option.isSome_map]
 unfold putK storedH;rw[e];by_cases q:(atKey xs k).isSome=true
 .rw[if_pos q,if_pos q];exact r.repl k ry
 .rw[if_neg q,if_neg q];exact Paired.snoc r ⟨rfl,hb,ry⟩
theorem KT.keeps{H H':Hp}{kvs:List (List Key×V)}{xs:List (List Key×Addr×Value)}(r:KT H kvs xs)(ht:∀b ys,H b=some (.tup ys)->H' b=some (.tup ys)):KT H' kvs xs:=
 Paired.B4 r λ_ _ z=>⟨z.1,ht _ _ z.2.1,z.2.2⟩
section
variable{P:Program}{w:World}{H:Hp}{h:Heap}{a:Addr}
theorem EA{u:HO}(ok:ee P w H h)(e:Rd H a u):cF P w H h a u:=e.ok ok
theorem yo{kvs:List (Key×V)}(ok:ee P w H h)(e:Rd H a (.dK kvs)):kvs.length<=sizeLine/\(a==sysModules)=false/\∃vs,KV kvs vs/\h.DictOf (cR P w) a vs:=
 show cF P w H h a (.dK kvs)from EA ok e
theorem yp{kvs:List (Key×V)}(ok:ee P w H h)(e:H a=some (.dK kvs)):kvs.length<=sizeLine/\(a==sysModules)=false/\∃vs,KV kvs vs/\h.DictOf (cR P w) a vs:=yo ok (.inl e)
theorem tX{ks:List Key}(ok:ee P w H h)(e:H a=some (.tup (ks.map kV))):(tupleKind (cR P w)).is h ks a:=by
 obtain⟨_,its,r,o,h1,h2,n,h3⟩:=(show cF P w H h a (.tup (ks.map kV))from ok a _ e)
 exact⟨o,its.toArray,n,h1,h2,h3,by simpa using rP r⟩
theorem yq{kvs:List (List Key×V)}(ok:ee P w H h)(e:Rd H a (.dT kvs)):kvs.length<=sizeLine/\(a==sysModules)=false/\
  ∃xs,KT H kvs xs/\h.DictOfH (tupleKind (cR P w)) a xs:=by
 obtain⟨z,y,xs,r,o,es,ep,h1,h2,h3,h4,h5⟩:=(show cF P w H h a (.dT kvs)from EA ok e)
 refine⟨z,y,xs,r,o,es,ep,h1,h2,h3,h4,λx hx=>?_,h5⟩;have all:∀{l:List (List Key×V)} {m:List (List Key×Addr×Value)},KT H l m->∀x∈m,(tupleKind (cR P w)).is h x.1 x.2.1:=by
  intro l m q;induction q with
  |nil=>intro x hx;exact nomatch hx
  |@cons p q ps qs hq t ih=>
   intro x hx;rcases List.mem_cons.mp hx with e|hx
   .subst e;exact tX ok (by rw[<-hq.1];exact hq.2.1)
   .exact ih x hx
 exact all r x hx
theorem NZ{kvs:List (List Key×V)}(ok:ee P w H h)(e:H a=some (.dT kvs)):kvs.length<=sizeLine/\(a==sysModules)=false/\
  ∃xs,KT H kvs xs/\h.DictOfH (tupleKind (cR P w)) a xs:=yq ok (.inl e)
end
noncomputable def tY(H:Hp)(a:Addr)(y:V)(r:Option V):Prop:=
 (∃kvs k,Rd H a (.dK kvs)/\y=kV k/\r=iO kvs k)\/∃kvs k b,Rd H a (.dT kvs)/\y=.ref b/\H b=some (.tup (k.map kV))/\r=iO kvs k
noncomputable def tZ(H:Hp)(a:Addr)(y v:V)(H':Hp):Prop:=
 (∃kvs k,H a=some (.dK kvs)/\y=kV k/\kvs.length<sizeLine/\H'=upd H a (.dK (putK kvs k v)))\/
 ∃kvs k b,H a=some (.dT kvs)/\y=.ref b/\H b=some (.tup (k.map kV))/\kvs.length<sizeLine/\H'=upd H a (.dT (putK kvs k v))
theorem tY.k{H:Hp}{a:Addr}{kvs:List (Key×V)}{k:Key}(e:H a=some (.dK kvs)):tY H a (kV k) (iO kvs k):=.inl ⟨kvs,k,.inl e,rfl,rfl⟩
theorem tZ.k{H:Hp}{a:Addr}{kvs:List (Key×V)}{k:Key}{v:V}(e:H a=some (.dK kvs))(hl:kvs.length<sizeLine):tZ H a (kV k) v (upd H a (.dK (putK kvs k v))):=.inl ⟨kvs,k,e,rfl,hl,rfl⟩
section
variable{X:Cx}{pins:List (Addr×Obj)}{σ:St}{H:Hp}{s:Shared}{a:Addr}{y v:V}{u r:Value}{o:Option V}{A:Around}{E:Value->Shared->Prop}
theorem Inv.big(I:Inv X pins σ H s):sysModules<s.heap.objs.size:=by
 have h:mainGlobals<s.heap.objs.size:=(I.mod.glob.keeps I.bk).lt;exact Nat.lt_trans (by decide) h
theorem qD{h':Heap}{t':Nat}{ob:HO}(I:Inv X pins σ H s)(mu:zE (H a))(hs:Heap.SameBut a s.heap h')(he:∃q,h'.get? a=some q)(new:cF X.prog X.w (upd H a ob) h' a ob) :
  Inv X pins σ (upd H a ob) { s with heap:=h',toks:=t' }:=
 I.write (x:=a) (e:=a) mu (.inl rfl) (λb q hb z=>(hs.2 b hb).trans z) he new
theorem Ab{P:Program}{w:World}{H':Hp}{h':Heap}{kvs:List (Key×V)}{vs:List (Key×Value)}(z:kvs.length<=sizeLine)(hd:(a==sysModules)=false)(rel:KV kvs vs)(dd:h'.DictOf (cR P w) a vs) :
  cF P w H' h' a (.dK kvs):=⟨z,hd,vs,rel,dd⟩
theorem Ac{H':Hp}{Q:Unit->Shared->Prop}(hu:A.units+1<cLine)(I:Inv X pins σ H s)(g:tZ H a y v H')(ry:RelV y u)(rv:RelV v r)(h:∀s',Inv X pins σ H' s'->Q () s') :
  wpAny (model X.prog X.w) A (setItem (.ref a) u r) Q E s:=by
 rcases g with ⟨kvs,k,e,ey,l,eH⟩|⟨kvs,k,b,e,ey,eb,l,eH⟩
 .subst ey eH;obtain⟨z,hd,vs,rel,dd⟩:=yp I.hok e;have hz:vs.length<=sizeLine:=by rw[<-rel.length];exact z
  have hl:(putK kvs k v).length<=sizeLine:=by have:=kC kvs k v;omega
  refine wpAny_setItem_pairs (hsz:=hz) (ym ry) dd λh' t6 hs=>h _ ?_;have he:∃q,h'.get? a=some q:=let ⟨q,_,_,hq,_⟩:=t6;⟨q,hq⟩;exact qD I (by rw[e];exact True.intro) hs he (Ab hl hd (rel.put k rv) t6)
 .subst ey eH;cases (show u=Value.ref b from ry);obtain⟨z,hd,xs,rel,dd⟩:=NZ I.hok e;have hz:xs.length<=sizeLine:=by rw[<-Paired.length rel];exact z
  have hl:(putK kvs k v).length<=sizeLine:=by have:=kC kvs k v;omega
  refine wpAny_setItem_heap (hsz:=hz) (tupleKind_room_in1 hu) (tX I.hok eb) dd λh' t6 hs=>h _ ?_;obtain⟨q,es,ep,hq,h2,h3,h4,_,h5⟩:=t6;refine qD I (by rw[e];exact True.intro) hs ⟨q,hq⟩ ⟨hl,hd,_,(rel.put k eb rv).keeps λc ys ec=>?_,q,es,ep,hq,h2,h3,h4,h5⟩;rw[aX (gZ ec e (λz=>nomatch z))];exact ec
end
section
variable{X:Cx}{pins:List (Addr×Obj)}{σ:St}{H:Hp}{s:Shared}{a:Addr}{kvs:List (Key×V)}{k:Key}{u:Value}{A:Around}{E:Value->Shared->Prop}
end
noncomputable def N1(td ty tv:TE):TS:=λD σ H=>tv σ H λv H1=>td σ H1 λx H2=>ty σ H2 λy H3=>∃a H4,x=.ref a/\tZ H3 a y v H4/\D.nx σ H4
section
variable{X:Cx}{o i e value:Expr}{pos pos' tpos:Pos}{td ty tv:TE}
theorem Gq(hu:X.A.units+1<cLine)(ho:PE X o td)(hi:PE X i ty)(hv:PE X value tv)(hs:swapsWith value (some (.Subscript o i pos')) pos.line X.env=pure false) :
  PS X (.Assign [.Subscript o i pos'] value pos) (N1 td ty tv):=by
 intro pins s σ H D I h;refine wpAny_Assign_Subscript (bJ (hv pins s σ H _ I h) λr s1 ⟨v,H1,I1,rv,q1⟩=>bJ (ho pins s1 σ H1 _ I1 q1) λu s2 ⟨x,H2,I2,rx,q2⟩=>bJ (hi pins s2 σ H2 _ I2 q2) λiv s3 ⟨y,H3,I3,ry,a,H4,ex,g,q3⟩=>?_) hs;subst ex;obtain rfl:u=Value.ref a:=rx;exact Ac hu I3 g ry rv λs4 I4=>⟨σ,H4,I4,q3⟩
end
theorem Cp {P:Program}{w:World}{H:Hp}(h:Heap) (hb:sysModules<h.objs.size):cF P w H (h.push { cls:=.type "dict",data:=.dict #[]}) h.objs.size (.dK []):=
 ⟨Nat.zero_le _,beq_eq_false_iff_ne.mpr (Ne.symm (Nat.ne_of_lt hb)),[],.nil,Heap.DictOf.new h⟩
noncomputable def Jy:TE:=λ_ H Q=>∀p,H p=none->Q (.ref p) (upd H p (.dK []))
section
variable{X:Cx}{pos:Pos}
theorem Cq:PE X (.Dict [] [] pos) Jy:=λpins s σ H Q I h=>
 wpAny_Dict_empty ⟨.ref s.heap.objs.size,_,I.laid (a:=s.heap.objs.size) (o:=.dK []) (t':=s.toks) (λ_ _ q=>Heap.get?_push_of_some _ q) (Nat.le_refl _) (Cp s.heap I.big),rfl,h _ (I.hok.fresh (Nat.le_refl _))⟩
end
noncomputable def jQ(kvs more:List (Key×V)):List (Key×V):=more.foldl (λacc kv=>putK acc kv.1 kv.2) kvs
theorem KV.merge:∀{more:List (Key×V)}{rs:List (Key×Value)}{kvs:List (Key×V)}{vs:List (Key×Value)},KV more rs->KV kvs vs->KV (jQ kvs more) (merged vs rs):=by
 intro more rs kvs vs r;unfold KV at r;induction r generalizing kvs vs with
 |nil=>intro q;exact q
 |@cons p q ps qs h t ih=>
  intro r0;have e:KV (putK kvs p.1 p.2) (stored vs q.1 q.2):=by
   have:=r0.put p.1 h.2;rw[<-h.1];exact this
  exact ih e
theorem mD:∀(more kvs:List (Key×V)),(jQ kvs more).length<=kvs.length+more.length
 |[],kvs=>by show kvs.length<=kvs.length+0;omega
 |p :: r,kvs=>by
  have h1:=mD r (putK kvs p.1 p.2);have h2:=kC kvs p.1 p.2;show(jQ (putK kvs p.1 p.2) r).length<=_;rw[List.length_cons];omega
structure M1(X:Cx)(o:Expr)(m:Str)(apos:Pos)(e:Expr)(cpos:Pos):Prop where
 base:attributeBase o m X.env (eval o X.env)=eval o X.env
 few:((backTo cpos (starEach [e] X.env)).all (λx=>!x.1)&&(backToKw cpos (keywordEach [] X.env)).all (λx=>x.1.isSome)
  &&decide (([e]:List Expr).length+([]:List Keyword).length+(if ([]:List Keyword).isEmpty then 0 else 1)<30))=true
 line:(apos.endLine==cpos.line)=true
 trees:backTo cpos (starEach [e] X.env)=[(false,eval e X.env)]
structure M2(X:Cx)(o:Expr)(m:Str)(apos:Pos)(e f:Expr)(cpos:Pos):Prop where
 base:attributeBase o m X.env (eval o X.env)=eval o X.env
 few:((backTo cpos (starEach [e,f] X.env)).all (λx=>!x.1)&&(backToKw cpos (keywordEach [] X.env)).all (λx=>x.1.isSome)
  &&decide (([e,f]:List Expr).length+([]:List Keyword).length+(if ([]:List Keyword).isEmpty then 0 else 1)<30))=true
 line:(apos.endLine==cpos.line)=true
 trees:backTo cpos (starEach [e,f] X.env)=[(false,eval e X.env),(false,eval f X.env)]
noncomputable def Jz(H:Hp)(a:Addr):Prop:=(∃kvs,Rd H a (.dK kvs))\/∃kvs,Rd H a (.dT kvs)
theorem Ad{X:Cx}{pins:List (Addr×Obj)}{σ:St}{H:Hp}{s:Shared}{a:Addr}(I:Inv X pins σ H s)(d:Jz H a) :
  s.TypeIs (.ref a) "dict" /\(∀b,Value.ref a=.ref b->∃ob,s.heap.get? b=some ob/\ob.dict=none)/\(a==sysModules)=false:=by
 rcases d with ⟨kvs,e⟩|⟨kvs,e⟩
 .obtain⟨_,hd,vs,_,dd⟩:=yo I.hok e;refine⟨dd.typeIs,λb q=>?_,hd⟩;cases q;obtain⟨ob,_,_,h1,h2,_⟩:=dd;exact⟨ob,h1,h2.2.1⟩
 .obtain⟨_,hd,xs,_,dd⟩:=yq I.hok e;refine⟨dd.typeIs,λb q=>?_,hd⟩;cases q;obtain⟨ob,_,_,h1,h2,_⟩:=dd;exact⟨ob,h1,h2.2.1⟩
section
variable{X:Cx}{pins:List (Addr×Obj)}{σ:St}{H:Hp}{s:Shared}{a:Addr}{y d:V}{u r:Value}{o:Option V}{A:Around}{E:Value->Shared->Prop}
theorem JB{Q:Value->Shared->Prop}(hu:A.units+1<cLine)(I:Inv X pins σ H s)(g:tY H a y o)(ry:RelV y u)(rd:RelV d r)(h:∀w' s',Inv X pins σ H s'->RelV (o.getD d) w'->Q w' s') :
  wpAny (model X.prog X.w) A (call (.builtin "dict.get") [.ref a,u,r]) Q E s:=by
 rcases g with ⟨kvs,k,e,ey,l⟩|⟨kvs,k,b,e,ey,eb,l⟩
 .subst ey;obtain⟨z,hd,vs,rel,dd⟩:=yo I.hok e;refine call_meetsIn PySem.F.slot_dict_get dd.typeIs PySem.F.entry_dict_get (PySem.F.args_dict_get_3 _ _ _) (meets_dict_get_default (cR X.prog X.w) a (ym ry) hd r) ⟨_,dd.mapOf,h _ _ (I.tok _) ?_⟩;rw[l];exact(rel.val k).getD rd
 .subst ey;cases (show u=Value.ref b from ry);obtain⟨z,hd,xs,rel,dd⟩:=yq I.hok e;refine call_meetsIn PySem.F.slot_dict_get dd.typeIs PySem.F.entry_dict_get (PySem.F.args_dict_get_3 _ _ _) (meetsH_dict_get_default (tupleKind (cR X.prog X.w)) a b hd r) ⟨tupleKind_room_in1 hu,k,xs,tX I.hok eb,dd,h _ _ (I.tok _) ?_⟩;rw[l];exact(rel.val k).getD rd
end
noncomputable def JD(td ty tx:TE):TE:=λσ H Q=>td σ H λx H1=>∃a,x=.ref a/\Jz H1 a/\ty σ H1 λy H2=>tx σ H2 λz H3=>∃o,tY H3 a y o/\Q (o.getD z) H3
section
variable{X:Cx}{o e f:Expr}{apos cpos:Pos}{td ty tx:TE}
theorem Cr (hu:X.A.units+1<cLine) (ho:PE X o td) (he:PE X e ty) (hf:PE X f tx) (m:M2 X o "get" apos e f cpos):PE X (.Call (.Attribute o "get" apos) [e,f] [] cpos) (JD td ty tx):=by
 intro pins s σ H Q I h;refine wpAny_Call_method m.base m.few m.line PySem.F.plainAttrs_dict PySem.F.slot_dict_get PySem.F.type_dict_get (bJ (ho pins s σ H _ I h) λu s1 ⟨x,H1,I1,rx,a,ex,d,q1⟩=>?_);subst ex;obtain rfl:u=Value.ref a:=rx;obtain⟨t1,t2,_⟩:=Ad I1 d;refine⟨t1,t2,?_⟩;rw[m.trees];refine Calls.callWith_builtin rfl (Calls.evalArgs_plain (Calls.spliced_cons (bJ (he pins s1 σ H1 _ I1 q1) λiv s2 ⟨y,H2,I2,ry,q2⟩=>
  Calls.spliced_cons (bJ (hf pins s2 σ H2 _ I2 q2) λfv s3 ⟨z,H3,I3,rz,ov,g,q3⟩=>Calls.spliced_nil ?_))))
 exact JB hu I3 g ry rz λw' s4 I4 rw'=>⟨_,H3,I4,rw',q3⟩
end
end L2
namespace Ev
inductive D where
 |aH|bl (b:Bool)|int (i:Int)|str (s:List Nat)|tup (ds:List D)|ref (n:Nat)
inductive O where
 |lst (ds:List D)|bD (ds:List D)
 |dct (kvs:List (Int×List Nat))
abbrev Hh:=List O
abbrev Fr:=List (Option D)
inductive R(α:Type) where
 |ok (a:α) (h:Hh)
 |bad
noncomputable def R.bind{α β:Type}(r:R α)(f:α->Hh->R β):R β:=
 match r with
 |.ok a h=>f a h
 |.bad=>.bad
@[simp] theorem ao{α β:Type}(a:α)(h:Hh)(f:α->Hh->R β):(R.ok a h).bind f=f a h:=rfl
@[simp] theorem Cs{α β:Type}(f:α->Hh->R β):(R.bad:R α).bind f=.bad:=rfl
theorem ah{α β:Type}{r:R α}{f:α->Hh->R β}{b:β}{h:Hh}(e:r.bind f=.ok b h):∃a h1,r=.ok a h1/\f a h1=.ok b h:=by
 cases r with
 |ok a h1=>exact⟨a,h1,rfl,e⟩
 |bad=>cases e
noncomputable def R.of{α:Type}(o:Option α)(h:Hh):R α:=match o with
 |some a=>.ok a h
 |none=>.bad
@[simp] theorem dM{α:Type}(a:α)(h:Hh):R.of (some a) h=.ok a h:=rfl
@[simp] theorem of_none{α:Type}(h:Hh):R.of (none:Option α) h=.bad:=rfl
theorem aD{α:Type}{o:Option α}{h h':Hh}{a:α}(e:R.of o h=.ok a h'):o=some a/\h'=h:=by
 cases o with
 |none=>cases e
 |some b=>cases e;exact⟨rfl,rfl⟩
inductive bQ where
 |add|sub|mul|fdiv|mod
inductive bK where
 |eq|ne|lt|gt
 |isin|fD
 |jA|jR
inductive TY where
 |int|bool|str|tuple|list
inductive BI where
 |len|sum|min
 |all
 |yr
 |yt
inductive ME where
 |join|append|extend|pop
 |lG
inductive T where
 |one (i:Nat)|many (l:List Nat)
mutual
inductive E where
 |c (d:D)|v (i:Nat)|tup (es:Es)|lst (es:Es)
 |bin (o:bQ) (a b:E)|cmp (o:bK) (a b:E)
 |nt (a:E)|neg (a:E)|an (a b:E)|orr (a b:E)|g9 (t a b:E)
 |ix (a b:E)|sl (a:E) (lo hi:Eo)
 |cl (f:Nat) (es:Es)|bi (b:BI) (es:Es)|me (m:ME) (o:E) (es:Es)
 |kO (a:E) (ts:List TY)
 |comp (elt:E) (t:T) (it:It) (cond:Eo)
 |fS (it:It)
 |jw (kvs:List (D×D)) (a:E)|jg (a:E)
 |ig|wG (a k:E)|mF (a k x:E)
inductive Es where
 |nil|cons (e:E) (es:Es)
inductive Eo where
 |no|yes (e:E)
inductive It where
 |seq (e:E)|fR (es:Es)
 |enum (a:E)|rev (a:E)
end
mutual
inductive S where
 |set (i:Nat) (e:E)|kD (l:List Nat) (e:E)
 |dput (o i e:E)
 |oS (o e:E)|jy (i x y f:Nat)
 |exp (e:E)|ret (e:E)|iff (t:E) (a b:Ss)|for (t:T) (it:It) (b:Ss)|EB (t:E) (b:Ss)
 |gR
inductive Ss where
 |nil|cons (s:S) (ss:Ss)
end
inductive Fl where
 |nx|bk|ct|ret (d:D)
noncomputable def big:Nat:=16777216
noncomputable def cD(f:D->D->Option Bool):List D->List D->Option Bool
 |[],[]=>some true
 |x :: xs,y :: ys=>do
  let b <-f x y
  let c <-cD f xs ys
  pure (b&&c)
 |_,_=>some false
noncomputable def aZ(h:Hh)(n:Nat):Option (List D):=match h[n]? with
 |some (.lst ds)=>some ds
 |some (.bD ds)=>some ds
 |_=>none
noncomputable def b2i(b:Bool):Int:=if b then 1 else 0
noncomputable def jS(h:Hh)(f:D->D->Option Bool)(a b:Nat):Option Bool:=if a=b then (aZ h a).map λ_=>true else match h[a]?,h[b]? with
 |some (.lst x),some (.lst y)=>cD f x y
 |some (.bD x),some (.lst y)=>cD f x y
 |some (.lst x),some (.bD y)=>cD f x y
 |_,_=>none
noncomputable def fM(h:Hh):Nat->D->D->Option Bool
 |0,_,_=>none
 |_+1,.aH,.aH=>some true
 |_+1,.bl a,.bl b=>some (a==b)
 |_+1,.int a,.int b=>some (a==b)
 |_+1,.bl a,.int b=>some (b2i a==b)
 |_+1,.int a,.bl b=>some (a==b2i b)
 |_+1,.str a,.str b=>some (a==b)
 |n+1,.tup a,.tup b=>cD (fM h n) a b
 |n+1,.ref a,.ref b=>jS h (fM h n) a b
 |_+1,.ref a,_=>(aZ h a).map λ_=>false
 |_+1,_,.ref a=>(aZ h a).map λ_=>false
 |_+1,_,_=>some false
noncomputable def deep:Nat:=20
noncomputable def truthy(h:Hh):D->Option Bool
 |.aH=>some false
 |.bl b=>some b
 |.int i=>some (i != 0)
 |.str s=>some (!s.isEmpty)
 |.tup ds=>some (!ds.isEmpty)
 |.ref n=>match h[n]? with
  |some (.dct kvs)=>some (!kvs.isEmpty)
  |_=>(aZ h n).map λds=>!ds.isEmpty
noncomputable def alloc(ds:List D)(h:Hh):R D:=if ds.length<=big then .ok (.ref h.length) (h++[.lst ds])else .bad
noncomputable def rep{α:Type}(k:Nat)(l:List α):List α:=(List.replicate k l).flatten
noncomputable def cA(i j:Int):Bool:=(decide (-(2 ^ 64)<i)&&decide (i<2 ^ 64)) || (decide (-(2 ^ 64)<j)&&decide (j<2 ^ 64))
noncomputable def bL:bQ->D->D->Hh->R D
 |.add,.int i,.int j,h=>.ok (.int (i+j)) h
 |.add,.str a,.str b,h=>if a.length+b.length<=big then .ok (.str (a++b)) h else .bad
 |.add,.tup a,.tup b,h=>if a.length+b.length<=big then .ok (.tup (a++b)) h else .bad
 |.add,.ref a,.ref b,h=>match h[a]?,h[b]? with
  |some (.lst x),some (.lst y)=>alloc (x++y) h
  |_,_=>.bad
 |.sub,.int i,.int j,h=>.ok (.int (i - j)) h
 |.mul,.int i,.int j,h=>if cA i j then .ok (.int (i*j)) h else .bad
 |.mul,.str a,.int k,h=>if 0<=k/\k<=1000/\a.length<=1000 then .ok (.str (rep k.toNat a)) h else .bad
 |.mul,.tup a,.int k,h=>if 0<=k/\k<=1000/\a.length<=1000 then .ok (.tup (rep k.toNat a)) h else .bad
 |.mul,.ref a,.int k,h=>match h[a]? with
  |some (.lst x)=>if 0<=k/\k<=1000/\x.length<=1000 then alloc (rep k.toNat x) h else .bad
  |_=>.bad
 |.fdiv,.int i,.int j,h=>if 0<j/\j<1073741824 then .ok (.int (i / j)) h else .bad
 |.mod,.int i,.int j,h=>if 0<j then .ok (.int (i % j)) h else .bad
 |_,_,_,_=>.bad
noncomputable def mem(h:Hh)(x:D):List D->Option Bool
 |[]=>some false
 |y :: ys=>do
  let b <-fM h deep y x
  let c <-mem h x ys
  pure (b ||c)
noncomputable def isin(x y:D)(h:Hh):Option Bool:=match y with
 |.str s=>match x with
  |.str [c]=>some (s.contains c)
  |_=>none
 |.tup ds=>mem h x ds
 |.ref n=>(aZ h n).bind λds=>mem h x ds
 |_=>none
noncomputable def cop(o:bK)(x y:D)(h:Hh):Option Bool:=match o,x,y with
 |.eq,x,y=>fM h deep x y
 |.ne,x,y=>(fM h deep x y).map (!·)
 |.lt,.int i,.int j=>some (decide (i<j))
 |.gt,.int i,.int j=>some (decide (j<i))
 |.isin,x,y=>isin x y h
 |.fD,x,y=>(isin x y h).map (!·)
 |.jA,x,.aH=>some (match x with|.aH=>true|_=>false)
 |.jR,x,.aH=>some (match x with|.aH=>false|_=>true)
 |_,_,_=>none
noncomputable def di(n:Nat)(i:Int):Option Nat:=if 0<=i then (if i<n then some i.toNat else none)else if -(n:Int)<=i then some (i+n).toNat else none
noncomputable def bM{α:Type}(xs:List α)(i:Int):Option α:=(di xs.length i).bind λj=>xs[j]?
noncomputable def ek(x y:D)(h:Hh):Option D:=match x,y with
 |.tup ds,.int i=>bM ds i
 |.str s,.int i=>(bM s i).map λc=>.str [c]
 |.ref n,.int i=>(aZ h n).bind λds=>bM ds i
 |_,_=>none
noncomputable def aV(n d:Nat):Option Int->Nat
 |none=>d
 |some v=>if v<0 then (v+n).toNat else min v.toNat n
noncomputable def cut{α:Type}(xs:List α)(lo hi:Option Int):List α:=(xs.drop (aV xs.length 0 lo)).take (aV xs.length xs.length hi - aV xs.length 0 lo)
noncomputable def gy(x:D)(lo hi:Option Int)(h:Hh):R D:=match x with
 |.tup ds=>.ok (.tup (cut ds lo hi)) h
 |.str s=>.ok (.str (cut s lo hi)) h
 |.ref n=>match aZ h n with
  |some ds=>alloc (cut ds lo hi) h
  |none=>.bad
 |_=>.bad
noncomputable def cW(h:Hh):D->TY->Bool
 |.bl _,.bool=>true
 |.bl _,.int=>true
 |.int _,.int=>true
 |.str _,.str=>true
 |.tup _,.tuple=>true
 |.ref n,.list=>(aZ h n).isSome
 |_,_=>false
noncomputable def boolsOf:List D->Option (List Bool)
 |[]=>some []
 |.bl b :: ds=>(boolsOf ds).map λr=>b :: r
 |_=>none
noncomputable def intsOf:List D->Option (List Int)
 |[]=>some []
 |.int i :: ds=>(intsOf ds).map λr=>i :: r
 |_=>none
noncomputable def strsOf:List D->Option (List (List Nat))
 |[]=>some []
 |.str s :: ds=>(strsOf ds).map λr=>s :: r
 |_=>none
noncomputable def cL(sep:List Nat):List (List Nat)->List Nat
 |[]=>[]
 |[s]=>s
 |s :: t :: r=>s++sep++cL sep (t :: r)
noncomputable def lexLe:List Nat->List Nat->Bool
 |[],_=>true
 |_ :: _,[]=>false
 |x :: xs,y :: ys=>if x=y then lexLe xs ys else decide (x<y)
noncomputable def JF(x:List Nat):List (List Nat)->List (List Nat)
 |[]=>[x]
 |y :: ys=>if lexLe x y then x :: y :: ys else y :: JF x ys
noncomputable def dY:List (List Nat)->List (List Nat)
 |[]=>[]
 |x :: xs=>JF x (dY xs)
noncomputable def b7(kvs:List (Int×List Nat))(k:Int):Option (List Nat):=(kvs.find? λp=>decide (p.1=k)).map (·.2)
noncomputable def cI(kvs:List (Int×List Nat))(k:Int)(s:List Nat):List (Int×List Nat):=if (kvs.any λp=>decide (p.1=k))=true then kvs.map (λp=>if p.1=k then (p.1,s)else p)else kvs++[(k,s)]
noncomputable def fE(h:Hh):D->Option (List (Int×List Nat))
 |.ref n=>match h[n]? with
  |some (.dct kvs)=>some kvs
  |_=>none
 |_=>none
noncomputable def Ct(x y:D)(h:Hh):Option D:=match fE h x,y with
 |some kvs,.int k=>(b7 kvs k).map .str
 |_,_=>none
noncomputable def t7(x y z:D)(h h0:Hh):Option D:=match fE h0 x,fE h x,y with
 |some _,some kvs,.int k=>some (match b7 kvs k with|some s=>.str s|none=>z)
 |_,_,_=>none
noncomputable def sR(x y z:D)(h:Hh):Option Hh:=match x,y,z with
 |.ref n,.int k,.str s=>match h[n]? with
  |some (.dct kvs)=>if kvs.length<big then some (h.set n (.dct (cI kvs k s)))else none
  |_=>none
 |_,_,_=>none
noncomputable def cg(k m:List (Int×List Nat)):List (Int×List Nat):=m.foldl (λa p=>cI a p.1 p.2) k
noncomputable def sS(x y:D)(h h0:Hh):Option Hh:=match x,y with
 |.ref n,.ref m=>match fE h0 (.ref n),h[n]?,h[m]? with
  |some _,some (.dct k),some (.dct j)=>if n≠m/\k.length+j.length<=big then some (h.set n (.dct (cg k j)))else none
  |_,_,_=>none
 |_,_=>none
noncomputable def insI(x:Int):List Int->List Int
 |[]=>[x]
 |y :: ys=>if x<=y then x :: y :: ys else y :: insI x ys
noncomputable def sortI:List Int->List Int
 |[]=>[]
 |x :: xs=>insI x (sortI xs)
noncomputable def cS(b:BI)(xs:List D)(h:Hh):R D:=match b,xs with
 |.len,[.str s]=>if s.length<=big then .ok (.int s.length) h else .bad
 |.len,[.tup ds]=>.ok (.int ds.length) h
 |.len,[.ref n]=>R.of ((aZ h n).map λds=>.int ds.length) h
 |.all,[.ref n]=>R.of (((aZ h n).bind boolsOf).map λbs=>.bl (bs.all id)) h
 |.sum,[.ref n]=>R.of (((aZ h n).bind intsOf).map λis=>.int is.sum) h
 |.min,[.int i,.int j]=>.ok (.int (if j<i then j else i)) h
 |.yr,[.ref n]=>match (aZ h n).bind intsOf with
  |some ss=>if ss.length<64 then alloc ((sortI ss).map .int) h else .bad
  |none=>.bad
 |.yt,[x]=>match fE h x with
  |some kvs=>if kvs.length<64 then alloc ((sortI (kvs.map (·.1))).map .int) h else .bad
  |none=>.bad
 |_,_=>.bad
noncomputable def fJ(m:ME)(o:D)(xs:List D)(h:Hh):R D:=match m,o,xs with
 |.join,.str sep,[.ref n]=>match (aZ h n).bind strsOf with
  |some ss=>if (ss.map (·.length)).sum+ss.length*sep.length<=big then .ok (.str (cL sep ss)) h else .bad
  |none=>.bad
 |.append,.ref n,[x]=>match h[n]? with
  |some (.lst ds)=>if ds.length<big then .ok .aH (h.set n (.lst (ds++[x])))else .bad
  |_=>.bad
 |.extend,.ref n,[.ref m]=>match h[n]?,h[m]? with
  |some (.lst ds),some (.lst es)=>if ds.length+es.length<=big then .ok .aH (h.set n (.lst (ds++es)))else .bad
  |_,_=>.bad
 |.pop,.ref n,[]=>match h[n]? with
  |some (.lst ds)=>match ds[ds.length - 1]? with
   |some x=>.ok x (h.set n (.lst ds.dropLast))
   |none=>.bad
  |_=>.bad
 |.lG,.ref n,[x,.int k]=>match h[n]? with
  |some (.lst ds)=>match di ds.length k with
   |some j=>.ok .aH (h.set n (.lst (ds.set j x)))
   |none=>.bad
  |_=>.bad
 |_,_,_=>.bad
noncomputable def wH(m:ME)(x:D)(h:Hh):Bool:=match m,x with
 |.join,.str _=>true
 |.join,_=>false
 |_,.ref n=>(aZ h n).isSome
 |_,_=>false
noncomputable def eS(x:D):List (D×D)->Option D
 |[]=>none
 | (k,v) :: r=>match fM [] 1 k x with
  |some true=>some v
  |some false=>eS x r
  |none=>none
abbrev Src:=List D×List (Nat×List D)
noncomputable def eB(h:Hh):D->Option Src
 |.tup ds=>some (ds,[])
 |.str s=>some (s.map λc=>.str [c],[])
 |.ref n=>(aZ h n).map λds=>(ds,[(n,ds)])
 |_=>none
noncomputable def range(lo:Int)(n:Nat):List D:=(List.range n).map λ(i:Nat)=>.int (lo+i)
noncomputable def dO:List D->Option Src
 |[.int j]=>if -(2 ^ 62)<=j/\j<2 ^ 62 then some (range 0 j.toNat,[])else none
 |[.int i,.int j]=>if -(2 ^ 62)<=i/\i<2 ^ 62/\-(2 ^ 62)<=j/\j<2 ^ 62 then some (range i (j - i).toNat,[])else none
 |_=>none
noncomputable def cG:Int->List D->List D
 |_,[]=>[]
 |k,x :: xs=>.tup [.int k,x] :: cG (k+1) xs
noncomputable def yu(a b:List D):Bool:=@decide (a=b) (Classical.propDecidable _)
theorem rQ(a b:List D):yu a b=true↔a=b:=@decide_eq_true_iff _ (Classical.propDecidable _)
@[simp] theorem yv(a:List D):yu a a=true:=(rQ a a).mpr rfl
noncomputable def stays(h:Hh):List (Nat×List D)->Bool
 |[]=>true
 | (n,ds) :: r=>(match aZ h n with|some es=>yu es ds|none=>false)&&stays h r
noncomputable def cK:List Nat->List D->Fr->Option Fr
 |[],[],fr=>some fr
 |i :: is,d :: ds,fr=>cK is ds (fr.set i (some d))
 |_,_,_=>none
noncomputable def br:T->D->Fr->Option Fr
 |.one i,d,fr=>some (fr.set i (some d))
 |.many l,.tup ds,fr=>cK l ds fr
 |_,_,_=>none
noncomputable def slots:T->List Nat
 |.one i=>[i]
 |.many l=>l
noncomputable def undef(t:T)(fr:Fr):Bool:=(slots t).all λi=>(fr[i]?.join).isNone
noncomputable def JH:D->Option (List D)
 |.tup ds=>some ds
 |_=>none
noncomputable def qE:D->Hh->R D
 |.tup ds,h=>.ok (.tup ds) h
 |.ref n,h=>match aZ h n with
  |some ds=>if ds.length<=big then .ok (.tup ds) h else .bad
  |none=>.bad
 |_,_=>.bad
noncomputable def yw(h:Hh):D->Option Src
 |.ref n=>(aZ h n).map λds=>(ds,[(n,ds)])
 |_=>none
noncomputable def cV(f:D->Hh->R (Option D))(ck:List (Nat×List D)):List D->Hh->R (List D)
 |[],h=>if stays h ck then .ok [] h else .bad
 |d :: ds,h=>if stays h ck then (f d h).bind λo h1=>(cV f ck ds h1).bind λr h2=>.ok (o.toList++r) h2 else .bad
noncomputable def forL(f:D->Fr->Hh->R (Fl×Fr))(ck:List (Nat×List D)):List D->Fr->Hh->R (Fl×Fr)
 |[],fr,h=>if stays h ck then .ok (.nx,fr) h else .bad
 |d :: ds,fr,h=>if stays h ck then (f d fr h).bind λp h1=>match p.1 with
   |.nx=>forL f ck ds p.2 h1
   |.ct=>forL f ck ds p.2 h1
   |.bk=>.ok (.nx,p.2) h1
   |.ret x=>.ok (.ret x,p.2) h1
  else .bad
noncomputable def gu(t:Fr->Hh->R Bool)(f:Fr->Hh->R (Fl×Fr)):Nat->Fr->Hh->R (Fl×Fr)
 |0,_,_=>.bad
 |n+1,fr,h=>(t fr h).bind λb h1=>if b then (f fr h1).bind λp h2=>match p.1 with
   |.nx=>gu t f n p.2 h2
   |.ct=>gu t f n p.2 h2
   |.bk=>.ok (.nx,p.2) h2
   |.ret x=>.ok (.ret x,p.2) h2
  else .ok (.nx,fr) h1
abbrev aR:=Nat->List D->Hh->R D
noncomputable def intOf:D->Option Int
 |.int i=>some i
 |_=>none
mutual
noncomputable def ev(P:aR):E->Fr->Hh->R D
 |.c d,_,h=>.ok d h
 |.v i,fr,h=>R.of (fr[i]?.join) h
 |.tup es,fr,h=>(bZ P es fr h).bind λds h1=>if ds.length<=big then .ok (.tup ds) h1 else .bad
 |.lst es,fr,h=>(bZ P es fr h).bind λds h1=>alloc ds h1
 |.bin o a b,fr,h=>(ev P a fr h).bind λx h1=>(ev P b fr h1).bind λy h2=>bL o x y h2
 |.cmp o a b,fr,h=>(ev P a fr h).bind λx h1=>(ev P b fr h1).bind λy h2=>R.of ((cop o x y h2).map .bl) h2
 |.nt a,fr,h=>(ev P a fr h).bind λx h1=>match x with
   |.bl b=>.ok (.bl (!b)) h1
   |_=>.bad
 |.neg a,fr,h=>(ev P a fr h).bind λx h1=>match x with
   |.int i=>.ok (.int (-i)) h1
   |_=>.bad
 |.an a b,fr,h=>(ev P a fr h).bind λx h1=>match x with
   |.bl true=>ev P b fr h1
   |.bl false=>.ok (.bl false) h1
   |_=>.bad
 |.orr a b,fr,h=>(ev P a fr h).bind λx h1=>match x with
   |.bl true=>.ok (.bl true) h1
   |.bl false=>ev P b fr h1
   |_=>.bad
 |.g9 t a b,fr,h=>(aK P t fr h).bind λk h1=>if k then ev P a fr h1 else ev P b fr h1
 |.ix a b,fr,h=>(ev P a fr h).bind λx h1=>(ev P b fr h1).bind λy h2=>R.of (ek x y h2) h2
 |.sl a lo hi,fr,h=>(ev P a fr h).bind λx h1=>(fN P lo fr h1).bind λl h2=>(fN P hi fr h2).bind λu h3=>gy x l u h3
 |.cl f es,fr,h=>(bZ P es fr h).bind λds h1=>P f ds h1
 |.bi b es,fr,h=>(bZ P es fr h).bind λds h1=>cS b ds h1
 |.me m o es,fr,h=>(ev P o fr h).bind λx h1=>if wH m x h1 then (bZ P es fr h1).bind λds h2=>fJ m x ds h2 else .bad
 |.kO a ts,fr,h=>(ev P a fr h).bind λx h1=>.ok (.bl (ts.any (cW h1 x))) h1
 |.comp elt t it cond,fr,h=>(cB P it fr h).bind λs h1=>if undef t fr then
   (cV (λd h2=>match br t d fr with
    |none=>.bad
    |some av=>(ir P cond av h2).bind λk h3=>if k then (ev P elt av h3).bind λx h4=>.ok (some x) h4 else .ok none h3) s.2 s.1 h1).bind λds h2=>alloc ds h2 else .bad
 |.fS it,fr,h=>(cB P it fr h).bind λs h1=>alloc s.1 h1
 |.jw kvs a,fr,h=>(ev P a fr h).bind λx h1=>R.of (eS x kvs) h1
 |.ig,_,h=>.ok (.ref h.length) (h++[.dct []])
 |.wG a k,fr,h=>(ev P a fr h).bind λx h1=>(ev P k fr h1).bind λy h2=>R.of (Ct x y h2) h2
 |.mF a k z,fr,h=>(ev P a fr h).bind λx h1=>(ev P k fr h1).bind λy h2=>(ev P z fr h2).bind λw h3=>R.of (t7 x y w h3 h1) h3
 |.jg a,fr,h=>(ev P a fr h).bind λx h1=>qE x h1
noncomputable def bZ(P:aR):Es->Fr->Hh->R (List D)
 |.nil,_,h=>.ok [] h
 |.cons e es,fr,h=>(ev P e fr h).bind λd h1=>(bZ P es fr h1).bind λds h2=>.ok (d :: ds) h2
noncomputable def fN(P:aR):Eo->Fr->Hh->R (Option Int)
 |.no,_,h=>.ok none h
 |.yes e,fr,h=>(ev P e fr h).bind λd h1=>R.of ((intOf d).map some) h1
noncomputable def ir(P:aR):Eo->Fr->Hh->R Bool
 |.no,_,h=>.ok true h
 |.yes e,fr,h=>aK P e fr h
noncomputable def aK(P:aR):E->Fr->Hh->R Bool
 |.an a b,fr,h=>(aK P a fr h).bind λk h1=>if k then aK P b fr h1 else .ok false h1
 |.orr a b,fr,h=>(aK P a fr h).bind λk h1=>if k then .ok true h1 else aK P b fr h1
 |.nt a,fr,h=>(aK P a fr h).bind λk h1=>.ok (!k) h1
 |e,fr,h=>(ev P e fr h).bind λx h1=>R.of (truthy h1 x) h1
noncomputable def cB(P:aR):It->Fr->Hh->R Src
 |.seq e,fr,h=>(ev P e fr h).bind λx h1=>R.of (eB h1 x) h1
 |.fR es,fr,h=>(bZ P es fr h).bind λds h1=>R.of (dO ds) h1
 |.enum a,fr,h=>(ev P a fr h).bind λx h1=>R.of ((yw h1 x).map λs=>(cG 0 s.1,s.2)) h1
 |.rev a,fr,h=>(ev P a fr h).bind λx h1=>R.of ((JH x).map λds=>(ds.reverse,[])) h1
end
noncomputable def t8(P:aR)(o e:E)(fr:Fr)(h:Hh):R (Fl×Fr):=(ev P o fr h).bind λx h1=>(ev P e fr h1).bind λy h2=>match sS x y h2 h1 with
 |some h3=>.ok (.nx,fr) h3
 |none=>.bad
mutual
noncomputable def ex(P:aR)(w:Nat):S->Fr->Hh->R (Fl×Fr)
 |.set i e,fr,h=>(ev P e fr h).bind λx h1=>.ok (.nx,fr.set i (some x)) h1
 |.kD l e,fr,h=>(ev P e fr h).bind λx h1=>match br (.many l) x fr with
   |some av=>.ok (.nx,av) h1
   |none=>.bad
 |.dput o i e,fr,h=>(ev P e fr h).bind λx h1=>(ev P o fr h1).bind λy h2=>(ev P i fr h2).bind λz h3=>match sR y z x h3 with
   |some h4=>.ok (.nx,fr) h4
   |none=>.bad
 |.oS o e,fr,h=>t8 P o e fr h
 |.jy i x y f,fr,h=>(cB P (.seq (.v y)) (fr.set i (some (.ref h.length))) (h++[.dct []])).bind λs h1=>forL (λd av h2=>match br (.one x) d av with
   |some bE=>t8 P (.v i) (.cl f (.cons (.v x) .nil)) bE h2
   |none=>.bad) s.2 s.1 (fr.set i (some (.ref h.length))) h1
 |.exp e,fr,h=>(ev P e fr h).bind λ_ h1=>.ok (.nx,fr) h1
 |.ret e,fr,h=>(ev P e fr h).bind λx h1=>.ok (.ret x,fr) h1
 |.iff t a b,fr,h=>(aK P t fr h).bind λk h1=>if k then exs P w a fr h1 else exs P w b fr h1
 |.for t it b,fr,h=>(cB P it fr h).bind λs h1=>forL (λd av h2=>match br t d av with
   |some bE=>exs P w b bE h2
   |none=>.bad) s.2 s.1 fr h1
 |.EB t b,fr,h=>gu (λav h2=>aK P t av h2) (λav h2=>exs P w b av h2) w fr h
 |.gR,_,_=>.bad
noncomputable def exs(P:aR)(w:Nat):Ss->Fr->Hh->R (Fl×Fr)
 |.nil,fr,h=>.ok (.nx,fr) h
 |.cons s ss,fr,h=>(ex P w s fr h).bind λp h1=>match p.1 with
   |.nx=>exs P w ss p.2 h1
   |_=>.ok p h1
end
structure Fn where
 np:Nat
 ns:Nat
 body:Ss
noncomputable def eO(fn:Fn)(ds:List D):Fr:=ds.map some++List.replicate (fn.ns - fn.np) none
noncomputable def endOf(r:R (Fl×Fr)):R D:=r.bind λp h=>match p.1 with
 |.ret d=>.ok d h
 |.nx=>.ok .aH h
 |_=>.bad
noncomputable def run(F:List Fn)(w:Nat):Nat->aR
 |0,_,_,_=>.bad
 |n+1,f,ds,h=>match F[f]? with
  |some fn=>if ds.length=fn.np then endOf (exs (run F w n) w fn.body (eO fn ds) h)else .bad
  |none=>.bad
end Ev
set_option maxRecDepth 100000
namespace Sm
open PySem PySem.Spec PyProof.Rows L2
noncomputable def aN(l:List Nat):Str:=⟨l.toArray⟩
theorem cT(l:List Nat):(aN l).length=l.length:=by simp[aN,Str.length]
theorem qF{a b:List Nat}(h:aN a=aN b):a=b:=by
 have h1:a.toArray=b.toArray:=congrArg Str.cps h;simpa using congrArg Array.toList h1
theorem gz:Ev.big=sizeLine:=by rw[sizeLine_eq];rfl
section
variable(K:PySem.W.Frag)
mutual
noncomputable def RV(H:Hp)(r:List Addr):Ev.D->V->Prop
 |.aH,v=>v=.aH
 |.bl b,v=>v=.bl b
 |.int i,v=>v=.int i
 |.str s,v=>v=.str (aN s)/\s.length<=sizeLine
 |.ref n,v=>∃a,v=.ref a/\r[n]?=some a
 |.tup ds,v=>∃a vs,v=.ref a/\dH K H a vs/\aE H r ds vs
noncomputable def aE(H:Hp)(r:List Addr):List Ev.D->List V->Prop
 |[],vs=>vs=[]
 |d :: ds,vs=>∃v w,vs=v :: w/\RV H r d v/\aE H r ds w
end
noncomputable def yx(H:Hp)(a:Addr)(vs:List V):Prop:=(∃o,H a=some (.bD o (.lst vs)))\/
 ∃(o:Obj) (its:Array Value) (n:Nat),K.lookup a=some o/\o.cls=.type "list" /\o.dict=none/\o.data=.seq its n/\its.size<=sizeLine/\Vals vs its.toList
noncomputable def dP(kvs:List (Int×List Nat)):List (Key×V):=kvs.map λp=>(Sum.inl p.1,V.str (aN p.2))
noncomputable def RO(H:Hp)(r:List Addr):Ev.O->Addr->Prop
 |.lst ds,a=>∃vs,H a=some (.lst vs)/\aE K H r ds vs
 |.bD ds,a=>∃vs,yx K H a vs/\aE K H r ds vs
 |.dct kvs,a=>H a=some (.dK (dP kvs))/\∀p∈kvs,p.2.length<=sizeLine
structure HR(H:Hp)(r:List Addr)(h:Ev.Hh):Prop where
 len:r.length=h.length
 ob:∀(n:Nat) o,h[n]?=some o->∃a,r[n]?=some a/\RO K H r o a
 inj:∀(n m:Nat) a x y,r[n]?=some a->r[m]?=some a->h[n]?=some (.lst x)->h[m]?=some (.lst y)->n=m
 j9:∀(n m:Nat) a x y,r[n]?=some a->r[m]?=some a->h[n]?=some (.dct x)->h[m]?=some (.dct y)->n=m
structure Fm(r r':List Addr)(H H':Hp):Prop where
 pre:∀(n:Nat) a,r[n]?=some a->r'[n]?=some a
 new:∀a∈r',a∈r\/H a=none
 keep:∀a o,H a=some o->a∉r->H' a=some o
 tups:∀a vs,dH K H a vs->dH K H' a vs
end
section
variable{K:PySem.W.Frag}{H H1 H2:Hp}{r r1 r2:List Addr}{h:Ev.Hh}
theorem Fm.refl:Fm K r r H H:=⟨λ_ _ e=>e,λ_ e=>.inl e,λ_ _ e _=>e,λ_ _ e=>e⟩
theorem Fm.trans(a:Fm K r r1 H H1)(b:Fm K r1 r2 H1 H2):Fm K r r2 H H2 where
 pre:=λn x e=>b.pre n x (a.pre n x e)
 new:=λx e=>by
  rcases b.new x e with q|q
  .exact a.new x q
  .by_cases z:x∈r
   .exact .inl z
   .refine .inr ?_;cases w:H x with
    |none=>rfl
    |some o=>rw[a.keep x o w z]at q;cases q
 keep:=λx o e n=>by
  refine b.keep x o (a.keep x o e n) λz=>?_;rcases a.new x z with q|q
  .exact n q
  .rw[e]at q;cases q
 tups:=λx vs e=>b.tups x vs (a.tups x vs e)
mutual
theorem RV.grow(f:∀(n:Nat) a,r[n]?=some a->r1[n]?=some a)(g:∀a vs,dH K H a vs->dH K H1 a vs):∀{d:Ev.D}{v:V},RV K H r d v->RV K H1 r1 d v
 |.aH,_,e=>e
 |.bl _,_,e=>e
 |.int _,_,e=>e
 |.str _,_,e=>e
 |.ref n,_,⟨a,e,z⟩=>⟨a,e,f n a z⟩
 |.tup ds,_,⟨a,vs,e,z,q⟩=>⟨a,vs,e,g a vs z,aE.grow f g q⟩
theorem aE.grow(f:∀(n:Nat) a,r[n]?=some a->r1[n]?=some a)(g:∀a vs,dH K H a vs->dH K H1 a vs):∀{ds:List Ev.D}{vs:List V},aE K H r ds vs->aE K H1 r1 ds vs
 |[],_,e=>e
 |_ :: _,_,⟨v,w,e,z,q⟩=>⟨v,w,e,RV.grow f g z,aE.grow f g q⟩
end
theorem RV.mono(f:Fm K r r1 H H1){d:Ev.D}{v:V}(q:RV K H r d v):RV K H1 r1 d v:=q.grow f.pre f.tups
theorem aE.mono(f:Fm K r r1 H H1){ds:List Ev.D}{vs:List V}(q:aE K H r ds vs):aE K H1 r1 ds vs:=q.grow f.pre f.tups
theorem aE.nil:aE K H r [] []:=by simp[aE]
theorem aE.cons{d:Ev.D}{v:V}{ds:List Ev.D}{vs:List V}(a:RV K H r d v)(b:aE K H r ds vs):aE K H r (d :: ds) (v :: vs):=by
 simp only[aE];exact⟨v,vs,rfl,a,b⟩
theorem aE.length:∀{ds:List Ev.D}{vs:List V},aE K H r ds vs->vs.length=ds.length
 |[],_,e=>by simp only[aE]at e;subst e;rfl
 |_ :: _,_,e=>by
  simp only[aE]at e;obtain⟨v,w,rfl,_,q⟩:=e;simp[aE.length q]
theorem aE.get:∀{ds:List Ev.D}{vs:List V}{i:Nat}{d:Ev.D},aE K H r ds vs->ds[i]?=some d->∃v,vs[i]?=some v/\RV K H r d v
 |[],_,_,_,_,e=>by simp at e
 |_ :: _,_,0,_,h,e=>by
  simp only[aE]at h;obtain⟨v,w,rfl,z,q⟩:=h;simp at e;subst e;exact⟨v,by simp,z⟩
 |_ :: _,_,i+1,_,h,e=>by
  simp only[aE]at h;obtain⟨v,w,rfl,z,q⟩:=h;obtain⟨u,a,b⟩:=aE.get (i:=i) q (by simpa using e);exact⟨u,by simpa using a,b⟩
theorem aE.append:∀{ds es:List Ev.D}{vs ws:List V},aE K H r ds vs->aE K H r es ws->aE K H r (ds++es) (vs++ws)
 |[],_,_,_,a,b=>by simp only[aE]at a;subst a;simpa using b
 |_ :: _,_,_,_,a,b=>by
  simp only[aE]at a;obtain⟨v,w,rfl,z,q⟩:=a;simp only[List.cons_append];exact .cons z (aE.append q b)
theorem aE.take:∀{ds:List Ev.D}{vs:List V}(n:Nat),aE K H r ds vs->aE K H r (ds.take n) (vs.take n)
 |_,_,0,_=>by simp[aE]
 |[],_,_+1,a=>by simp only[aE]at a;subst a;simp[aE]
 |_ :: _,_,n+1,a=>by
  simp only[aE]at a;obtain⟨v,w,rfl,z,q⟩:=a;simp only[List.take_succ_cons];exact .cons z (aE.take n q)
theorem aE.drop:∀{ds:List Ev.D}{vs:List V}(n:Nat),aE K H r ds vs->aE K H r (ds.drop n) (vs.drop n)
 |_,_,0,a=>by simpa using a
 |[],_,_+1,a=>by simp only[aE]at a;subst a;simp[aE]
 |_ :: _,_,n+1,a=>by
  simp only[aE]at a;obtain⟨v,w,rfl,z,q⟩:=a;simp only[List.drop_succ_cons];exact aE.drop n q
theorem aE.set:∀{ds:List Ev.D}{vs:List V}(i:Nat) {d:Ev.D}{v:V},aE K H r ds vs->RV K H r d v->aE K H r (ds.set i d) (vs.set i v)
 |[],_,_,_,_,a,_=>by simp only[aE]at a;subst a;simp[aE]
 |_ :: _,_,0,_,_,a,b=>by
  simp only[aE]at a;obtain⟨v,w,rfl,z,q⟩:=a;simp only[List.set_cons_zero];exact .cons b q
 |_ :: _,_,i+1,_,_,a,b=>by
  simp only[aE]at a;obtain⟨v,w,rfl,z,q⟩:=a;simp only[List.set_cons_succ];exact .cons z (aE.set i q b)
theorem aE.rep{ds:List Ev.D}{vs:List V}(a:aE K H r ds vs):∀k:Nat,aE K H r (Ev.rep k ds) (Ev.rep k vs)
 |0=>by simp[Ev.rep,aE]
 |k+1=>by
  have h:=aE.rep a k;simp only[Ev.rep,List.replicate_succ,List.flatten_cons]at h ⊢;exact a.append h
theorem Fm.laid{p:Addr}{o:HO}(hp:H p=none):Fm K r (r++[p]) H (upd H p o) where
 pre:=λn a e=>by rw[List.getElem?_append_left (List.getElem?_eq_some_iff.mp e).1];exact e
 new:=λa e=>by
  rcases List.mem_append.mp e with q|q
  .exact .inl q
  .rw[List.mem_singleton]at q;subst q;exact .inr hp
 keep:=λa ob e _=>by rw[aX (bz e hp)];exact e
 tups:=λa vs e=>by
  rcases e with (e|⟨ob,e⟩)|e
  .exact .inl (.inl (by rw[aX (bz e hp)];exact e))
  .exact .inl (.inr ⟨ob,by rw[aX (bz e hp)];exact e⟩)
  .exact .inr e
theorem Fm.tup{p:Addr}{o:HO}(hp:H p=none):Fm K r r H (upd H p o) where
 pre:=λn a e=>e
 new:=λa e=>.inl e
 keep:=λa ob e _=>by rw[aX (bz e hp)];exact e
 tups:=(Fm.laid (r:=r) hp).tups
theorem RO.mono{o:Ev.O}{a:Addr}(f:Fm K r r1 H H1)(q:RO K H r o a)(hl:∀ds vs,o=.lst ds->H a=some (.lst vs)->H1 a=some (.lst vs))(hf:∀ob vs,H a=some (.bD ob vs)->H1 a=some (.bD ob vs))
  (hd:∀kvs vs,o=.dct kvs->H a=some (.dK vs)->H1 a=some (.dK vs))
  : RO K H1 r1 o a:=by
 cases o with
 |lst ds=>
  obtain⟨vs,e,z⟩:=q;exact⟨vs,hl ds vs rfl e,z.mono f⟩
 |bD ds=>
  obtain⟨vs,e,z⟩:=q;refine⟨vs,?_,z.mono f⟩;rcases e with ⟨ob,e⟩|e
  .exact .inl ⟨ob,hf _ _ e⟩
  .exact .inr e
 |dct kvs=>exact⟨hd kvs _ rfl q.1,q.2⟩
theorem HR.tup{p:Addr}{o:HO}(hr:HR K H r h)(hp:H p=none):HR K (upd H p o) r h where
 len:=hr.len
 ob:=λn ob e=>by
  obtain⟨a,e1,q⟩:=hr.ob n ob e;exact⟨a,e1,q.mono (Fm.tup hp) (λ_ vs _ z=>by rw[aX (bz z hp)];exact z) (λ_ _ z=>by rw[aX (bz z hp)];exact z)
   (λ_ _ _ z=>by rw[aX (bz z hp)];exact z)
   ⟩
 inj:=hr.inj
 j9:=hr.j9
theorem HR.JJ{p:Addr}{ds:List Ev.D}(hr:HR K H r h):∀(n m:Nat) a x y,(r++[p])[n]?=some a->(r++[p])[m]?=some a->(h++[Ev.O.lst ds])[n]?=some (.dct x)->(h++[Ev.O.lst ds])[m]?=some (.dct y)->n=m:=λn m a x y e1 e2 e3 e4=>by
 have out:∀(k:Nat) z,(h++[Ev.O.lst ds])[k]?=some (.dct z)->(r++[p])[k]?=some a->r[k]?=some a/\h[k]?=some (.dct z):=λk z q1 q2=>by
  by_cases hk:k<h.length
  .rw[List.getElem?_append_left hk]at q1;rw[List.getElem?_append_left (by rw[hr.len];exact hk)]at q2;exact⟨q2,q1⟩
  .have e5:=(List.getElem?_eq_some_iff.mp q1).1;simp only[List.length_append,List.length_singleton]at e5;have e6:k=h.length:=by omega
   subst e6;simp at q1
 exact hr.j9 n m a x y (out n x e3 e1).1 (out m y e4 e2).1 (out n x e3 e1).2 (out m y e4 e2).2
theorem HR.lst{p:Addr}{ds:List Ev.D}{vs:List V}(hr:HR K H r h)(hp:H p=none)(q:aE K H r ds vs):HR K (upd H p (.lst vs)) (r++[p]) (h++[.lst ds]) where
 len:=by simp[hr.len]
 ob:=λn ob e=>by
  by_cases hn:n<h.length
  .rw[List.getElem?_append_left hn]at e;obtain⟨a,e1,z⟩:=hr.ob n ob e;exact⟨a,(Fm.laid (K:=K) (o:=.lst vs) hp).pre n a e1,z.mono (Fm.laid hp) (λ_ vs _ z=>by rw[aX (bz z hp)];exact z) (λ_ _ z=>by rw[aX (bz z hp)];exact z)
    (λ_ _ _ z=>by rw[aX (bz z hp)];exact z)
    ⟩
  .have e2:=(List.getElem?_eq_some_iff.mp e).1;simp only[List.length_append,List.length_singleton]at e2;have e3:n=h.length:=by omega
   subst e3;simp at e;subst e;exact⟨p,by rw[<-hr.len];simp,vs,eL,q.mono (Fm.laid hp)⟩
 inj:=λn m a x y e1 e2 e3 e4=>by
  have out:∀(k:Nat) z,(h++[Ev.O.lst ds])[k]?=some (.lst z)->(r++[p])[k]?=some a->(k<h.length/\r[k]?=some a/\h[k]?=some (.lst z)/\a≠p)\/(k=h.length/\a=p):=λk z q1 q2=>by
   by_cases hk:k<h.length
   .rw[List.getElem?_append_left hk]at q1;rw[List.getElem?_append_left (by rw[hr.len];exact hk)]at q2;obtain⟨b,e5,vs',e6,_⟩:=hr.ob k _ q1;rw[q2]at e5;cases e5;exact .inl ⟨hk,q2,q1,bz e6 hp⟩
   .have e5:=(List.getElem?_eq_some_iff.mp q1).1;simp only[List.length_append,List.length_singleton]at e5;have e6:k=r.length:=by rw[hr.len];omega
    subst e6;simp at q2;exact .inr ⟨hr.len,q2.symm⟩
  rcases out n x e3 e1 with ⟨h1,h2,h3,h4⟩|⟨h1,h2⟩
  .rcases out m y e4 e2 with ⟨k1,k2,k3,k4⟩|⟨k1,k2⟩
   .exact hr.inj n m a x y h2 k2 h3 k3
   .exact absurd k2 h4
  .rcases out m y e4 e2 with ⟨k1,k2,k3,k4⟩|⟨k1,k2⟩
   .exact absurd h2 k4
   .rw[h1,k1]
 j9:=hr.JJ
theorem HR.dct{n:Nat}{kvs:List (Int×List Nat)}(hr:HR K H r h)(e:h[n]?=some (.dct kvs)):∃a,r[n]?=some a/\H a=some (.dK (dP kvs))/\∀p∈kvs,p.2.length<=sizeLine:=by
 obtain⟨a,e1,e2,e3⟩:=hr.ob n _ e;exact⟨a,e1,e2,e3⟩
theorem HR.read{n:Nat}{ds:List Ev.D}(hr:HR K H r h)(e:Ev.aZ h n=some ds):∃a vs,r[n]?=some a/\ef K H a vs/\aE K H r ds vs:=by
 unfold Ev.aZ at e;split at e
 .rename_i z;cases e;obtain⟨a,e1,vs,e2,e3⟩:=hr.ob n _ z;exact⟨a,vs,e1,.inl (.inl e2),e3⟩
 .rename_i z;cases e;obtain⟨a,e1,vs,e2,e3⟩:=hr.ob n _ z;refine⟨a,vs,e1,?_,e3⟩;rcases e2 with ⟨ob,e2⟩|e2
  .exact .inl (.inr ⟨ob,e2⟩)
  .exact .inr e2
 .cases e
theorem Fm.write{a:Addr}{vs ws:List V}(ha:H a=some (.lst vs))(hm:a∈r):Fm K r r H (upd H a (.lst ws)) where
 pre:=λn b e=>e
 new:=λb e=>.inl e
 keep:=λb ob e n=>by rw[aX (λz=>n (by rw[z];exact hm))];exact e
 tups:=λb us e=>by
  rcases e with (e|⟨ob,e⟩)|e
  .exact .inl (.inl (by rw[aX (gZ e ha (by intro z;cases z))];exact e))
  .exact .inl (.inr ⟨ob,by rw[aX (gZ e ha (by intro z;cases z))];exact e⟩)
  .exact .inr e
theorem HR.write{n:Nat}{a:Addr}{ds es:List Ev.D}{vs ws:List V}(hr:HR K H r h)(hn:h[n]?=some (.lst ds))(t9:r[n]?=some a)(ha:H a=some (.lst vs))(q:aE K H r es ws) :
  HR K (upd H a (.lst ws)) r (h.set n (.lst es)) where
 len:=by simp[hr.len]
 ob:=λm ob e=>by
  have f:=Fm.write (K:=K) (ws:=ws) ha (List.mem_of_getElem? t9);by_cases hm:m=n
  .subst hm;rw[List.getElem?_set_self (List.getElem?_eq_some_iff.mp hn).1]at e;cases e;exact⟨a,t9,ws,eL,q.mono f⟩
  .rw[List.getElem?_set_ne (λz=>hm z.symm)]at e;obtain⟨b,e1,z⟩:=hr.ob m ob e;refine⟨b,e1,z.mono f (λUv us z3 z2=>?_) (λUw us z2=>by rw[aX (gZ z2 ha (by intro z;cases z))];exact z2)
    (λ_ us _ z2=>by rw[aX (gZ z2 ha (by intro z;cases z))];exact z2)
    ⟩
   by_cases hb:b=a
   .subst hb;subst z3;exact absurd (hr.inj m n b Uv ds e1 t9 e hn) hm
   .rw[aX hb];exact z2
 inj:=λk m b x y e1 e2 e3 e4=>by
  have back:∀(j:Nat) z,(h.set n (Ev.O.lst es))[j]?=some (.lst z)->∃z',h[j]?=some (.lst z'):=λj z w=>by
   by_cases hj:j=n
   .subst hj;exact⟨ds,hn⟩
   .rw[List.getElem?_set_ne (λz=>hj z.symm)]at w;exact⟨z,w⟩
  obtain⟨x',e5⟩:=back k x e3;obtain⟨y',e6⟩:=back m y e4;exact hr.inj k m b x' y' e1 e2 e5 e6
 j9:=λk m b x y e1 e2 e3 e4=>by
  have back:∀(j:Nat) z,(h.set n (Ev.O.lst es))[j]?=some (.dct z)->h[j]?=some (.dct z):=λj z w=>by
   by_cases hj:j=n
   .subst hj;rw[List.getElem?_set_self (List.getElem?_eq_some_iff.mp hn).1]at w;cases w
   .rw[List.getElem?_set_ne (λz=>hj z.symm)]at w;exact w
  exact hr.j9 k m b x y e1 e2 (back k x e3) (back m y e4)
theorem iu{p:Addr}{vs ws:List V}(hp:H p=some (.lst vs)):∀a us,dH K H a us->dH K (upd H p (.lst ws)) a us:=λb us e=>by
 rcases e with (e|⟨ob,e⟩)|e
 .exact .inl (.inl (by rw[aX (gZ e hp (by intro z;cases z))];exact e))
 .exact .inl (.inr ⟨ob,by rw[aX (gZ e hp (by intro z;cases z))];exact e⟩)
 .exact .inr e
theorem HR.other{p:Addr}{vs ws:List V}(hr:HR K H r h)(hp:H p=some (.lst vs))(hn:p∉r):HR K (upd H p (.lst ws)) r h where
 len:=hr.len
 ob:=λn ob e=>by
  obtain⟨a,e1,q⟩:=hr.ob n ob e;have ha:a≠p:=λz=>hn (by rw[<-z];exact List.mem_of_getElem? e1);refine⟨a,e1,?_⟩;cases ob with
  |lst ds=>
   obtain⟨us,e2,e3⟩:=q;exact⟨us,by rw[aX ha];exact e2,e3.grow (λ_ _ z=>z) (iu hp)⟩
  |bD ds=>
   obtain⟨us,e2,e3⟩:=q;refine⟨us,?_,e3.grow (λ_ _ z=>z) (iu hp)⟩;rcases e2 with ⟨o,e2⟩|e2
   .exact .inl ⟨o,by rw[aX ha];exact e2⟩
   .exact .inr e2
  |dct kvs=>exact⟨by rw[aX ha];exact q.1,q.2⟩
 inj:=hr.inj
 j9:=hr.j9
theorem Fm.other{p:Addr}{vs ws:List V}(f:Fm K r r1 H H1)(h0:H p=none)(hp:H1 p=some (.lst vs)):Fm K r r1 H (upd H1 p (.lst ws)) where
 pre:=f.pre
 new:=f.new
 keep:=λa o e n=>by rw[aX (bz e h0)];exact f.keep a o e n
 tups:=λa us e=>iu hp a us (f.tups a us e)
theorem Fm.fD{p:Addr}{o:HO}(f:Fm K r r1 H H1)(hp:H p=some o)(hn:p∉r):p∉r1/\H1 p=some o:=by
 refine⟨λz=>?_,f.keep p o hp hn⟩;rcases f.new p z with q|q
 .exact hn q
 .rw[hp]at q;cases q
theorem HR.known{p:Addr}{ds:List Ev.D}{vs:List V}(hr:HR K H r h)(hp:H p=some (.lst vs))(hn:p∉r)(q:aE K H r ds vs):HR K H (r++[p]) (h++[.lst ds]):=by
 have pre:∀(n:Nat) a,r[n]?=some a->(r++[p])[n]?=some a:=λn a e=>by rw[List.getElem?_append_left (List.getElem?_eq_some_iff.mp e).1];exact e
 refine⟨by simp[hr.len],λn ob e=>?_,λn m a x y e1 e2 e3 e4=>?_
  ,hr.JJ
  ⟩
 .by_cases hk:n<h.length
  .rw[List.getElem?_append_left hk]at e;obtain⟨a,e1,z⟩:=hr.ob n ob e;refine⟨a,pre n a e1,?_⟩;cases ob with
   |lst ds=>obtain⟨us,e2,e3⟩:=z;exact⟨us,e2,e3.grow pre λ_ _ z=>z⟩
   |bD ds=>obtain⟨us,e2,e3⟩:=z;exact⟨us,e2,e3.grow pre λ_ _ z=>z⟩
   |dct kvs=>exact z
  .have e2:=(List.getElem?_eq_some_iff.mp e).1;simp only[List.length_append,List.length_singleton]at e2;have e3:n=h.length:=by omega
   subst e3;simp at e;subst e;exact⟨p,by rw[<-hr.len];simp,vs,hp,q.grow pre λ_ _ z=>z⟩
 .have out:∀(k:Nat) z,(h++[Ev.O.lst ds])[k]?=some (.lst z)->(r++[p])[k]?=some a->(k<h.length/\r[k]?=some a/\h[k]?=some (.lst z)/\a≠p)\/(k=h.length/\a=p):=λk z q1 q2=>by
   by_cases hk:k<h.length
   .rw[List.getElem?_append_left hk]at q1;rw[List.getElem?_append_left (by rw[hr.len];exact hk)]at q2;exact .inl ⟨hk,q2,q1,λz=>hn (by rw[<-z];exact List.mem_of_getElem? q2)⟩
   .have e5:=(List.getElem?_eq_some_iff.mp q1).1;simp only[List.length_append,List.length_singleton]at e5;have e6:k=r.length:=by rw[hr.len];omega
    subst e6;simp at q2;exact .inr ⟨hr.len,q2.symm⟩
  rcases out n x e3 e1 with ⟨h1,h2,h3,h4⟩|⟨h1,h2⟩
  .rcases out m y e4 e2 with ⟨k1,k2,k3,k4⟩|⟨k1,k2⟩
   .exact hr.inj n m a x y h2 k2 h3 k3
   .exact absurd k2 h4
  .rcases out m y e4 e2 with ⟨k1,k2,k3,k4⟩|⟨k1,k2⟩
   .exact absurd h2 k4
   .rw[h1,k1]
theorem Fm.known{p:Addr}(f:Fm K r r1 H H1)(h0:H p=none):Fm K r (r1++[p]) H H1 where
 pre:=λn a e=>by
  have e':=f.pre n a e;rw[List.getElem?_append_left (List.getElem?_eq_some_iff.mp e').1];exact e'
 new:=λa e=>by
  rcases List.mem_append.mp e with q|q
  .exact f.new a q
  .rw[List.mem_singleton]at q;subst q;exact .inr h0
 keep:=f.keep
 tups:=f.tups
end
end Sm
set_option maxRecDepth 100000
namespace Sm
open PySem PySem.Spec PyProof.Rows L2
open Ev (D O Hh Fr R aR E Es Eo It T S Ss Fl Src bQ bK TY BI ME)
section
variable(K:PySem.W.Frag)
noncomputable def Res(r:List Addr)(H:Hp)(h':Hh)(d:D)(Q:VK):Prop:=∀v H' r',RV K H' r' d v->HR K H' r' h'->Fm K r r' H H'->Q v H'
structure SR(m:List Nat)(H:Hp)(r:List Addr)(fr:Fr)(s:L2.St):Prop where
 len:s.length=m.length
 sl:∀(j i:Nat) d,m[j]?=some i->fr[i]?=some (some d)->∃v,s[j]?=some (some v)/\RV K H r d v
inductive tJ(m:List Nat)(P:aR)(e:E)(s:L2.St)(H:Hp)(Q:VK):Prop
 |mk (r:List Addr) (fr:Fr) (h:Hh) (d:D) (h':Hh) (c0:SR K m H r fr s) (c1:HR K H r h) (c2:Ev.ev P e fr h=.ok d h') (c3:Res K r H h' d Q):tJ m P e s H Q
inductive JK(m:List Nat)(P:aR)(e:E)(s:L2.St)(H:Hp)(Q:Bool->Hp->Prop):Prop
 |mk (r:List Addr) (fr:Fr) (h:Hh) (k:Bool) (h':Hh) (c0:SR K m H r fr s) (c1:HR K H r h) (c2:Ev.aK P e fr h=.ok k h') (c3:∀H' r',HR K H' r' h'->Fm K r r' H H'->Q k H'):JK m P e s H Q
inductive JL(m:List Nat)(P:aR)(es:Es)(s:L2.St)(H:Hp)(Q:List V->Hp->Prop):Prop
 |mk (r:List Addr) (fr:Fr) (h:Hh) (ds:List D) (h':Hh) (c0:SR K m H r fr s) (c1:HR K H r h) (c2:Ev.bZ P es fr h=.ok ds h') (c3:∀vs H' r',aE K H' r' ds vs->HR K H' r' h'->Fm K r r' H H'->Q vs H'):JL m P es s H Q
inductive Qs(m:List Nat)(P:aR)(e:Eo)(s:L2.St)(H:Hp)(Q:Option Int->Hp->Prop):Prop
 |mk (r:List Addr) (fr:Fr) (h:Hh) (o:Option Int) (h':Hh) (c0:SR K m H r fr s) (c1:HR K H r h) (c2:Ev.fN P e fr h=.ok o h') (c3:∀H' r',HR K H' r' h'->Fm K r r' H H'->Q o H'):Qs m P e s H Q
inductive iw(f:D->D->Hh->R D)(x:V)(y:V)(H:Hp)(Q:VK):Prop
 |mk (r:List Addr) (h:Hh) (a:D) (b:D) (d:D) (h':Hh) (c0:HR K H r h) (c1:RV K H r a x) (c2:RV K H r b y) (c3:f a b h=.ok d h') (c4:Res K r H h' d Q):iw f x y H Q
inductive Ux(f:D->Hh->R D)(x:V)(H:Hp)(Q:VK):Prop
 |mk (r:List Addr) (h:Hh) (a:D) (d:D) (h':Hh) (c0:HR K H r h) (c1:RV K H r a x) (c2:f a h=.ok d h') (c3:Res K r H h' d Q):Ux f x H Q
inductive wI(f:List D->Hh->R D)(xs:List V)(H:Hp)(Q:VK):Prop
 |mk (r:List Addr) (h:Hh) (as:List D) (d:D) (h':Hh) (c0:HR K H r h) (c1:aE K H r as xs) (c2:f as h=.ok d h') (c3:Res K r H h' d Q):wI f xs H Q
inductive Ae(f:D->List D->Hh->R D)(x:V)(xs:List V)(H:Hp)(Q:VK):Prop
 |mk (r:List Addr) (h:Hh) (a:D) (as:List D) (d:D) (h':Hh) (c0:HR K H r h) (c1:RV K H r a x) (c2:aE K H r as xs) (c3:f a as h=.ok d h') (c4:Res K r H h' d Q):Ae f x xs H Q
inductive JM  (x:V) (lo:Option Int) (hi:Option Int) (H:Hp) (Q:VK):Prop
 |mk (r:List Addr) (h:Hh) (a:D) (d:D) (h':Hh) (c0:HR K H r h) (c1:RV K H r a x) (c2:Ev.gy a lo hi h=.ok d h') (c3:Res K r H h' d Q):JM x lo hi H Q
end
section
variable{K:PySem.W.Frag}{m:List Nat}{H H':Hp}{r r':List Addr}{fr:Fr}{s:L2.St}{h h':Hh}{d:D}{Q:VK}
theorem SR.mono(a:SR K m H r fr s)(f:Fm K r r' H H'):SR K m H' r' fr s:=⟨a.len,λj i d e1 e2=>by
 obtain⟨v,q,z⟩:=a.sl j i d e1 e2;exact⟨v,q,z.mono f⟩⟩
theorem Res.here{v:V}(q:Res K r H h d Q)(a:RV K H r d v)(b:HR K H r h):Q v H:=q v H r a b .refl
theorem Res.later(q:Res K r H h' d Q)(f:Fm K r r' H H'):Res K r' H' h' d Q:=λv H2 r2 a b g=>q v H2 r2 a b (f.trans g)
theorem Res.lst{ds:List D}{vs:List V}(q:Res K r H h' d Q)(e:Ev.alloc ds h=.ok d h')(a:aE K H r ds vs)(b:HR K H r h):vs.length<=sizeLine/\∀p,H p=none->Q (.ref p) (upd H p (.lst vs)):=by
 unfold Ev.alloc at e;split at e
 .rename_i z;cases e;refine⟨by rw[a.length,<-gz];exact z,λp hp=>?_⟩;exact q _ _ (r++[p]) ⟨p,rfl,by rw[<-b.len];simp⟩ (b.lst hp a) (.laid hp)
 .cases e
theorem Res.tup{ds:List D}{vs:List V}(q:Res K r H h (.tup ds) Q)(a:aE K H r ds vs)(b:HR K H r h){p:Addr}(hp:H p=none):Q (.ref p) (upd H p (.tup vs)):=
 q _ _ r ⟨p,vs,rfl,.of eL,a.mono (.tup hp)⟩ (b.tup hp) (.tup hp)
end
theorem PE.of{X:Cx}{e:Expr}{t t':TE}(h:PE X e t)(w:∀s H Q,t' s H Q->t s H Q):PE X e t':=λpins s σ H Q I q=>h pins s σ H Q I (w _ _ _ q)
theorem PT.of{X:Cx}{e:Expr}{t t':TT}(h:PT X e t)(w:∀s H Q,t' s H Q->t s H Q):PT X e t':=λpins s σ H Q I q=>h pins s σ H Q I (w _ _ _ q)
theorem PW.of{X:Cx}{e:Expr}{t t':TT}(h:PW X e t)(w:∀s H Q,t' s H Q->t s H Q):PW X e t':=λwh pins s σ H Q I q=>h wh pins s σ H Q I (w _ _ _ q)
theorem PA.of{X:Cx}{es:List Expr}{t t':TA}(h:PA X es t)(w:∀s H Q,t' s H Q->t s H Q):PA X es t':=λpos pins s σ H Q I q=>h pos pins s σ H Q I (w _ _ _ q)
theorem PO.of{X:Cx}{e:Option Expr}{t t':TO}(h:PO X e t)(w:∀s H Q,t' s H Q->t s H Q):PO X e t':=λpins s σ H Q I q=>h pins s σ H Q I (w _ _ _ q)
structure FI where
 name:Str
 addr:Addr
 fd:FuncData
 ps:List Str
noncomputable def oB(K:PySem.W.Frag)(F:List Ev.Fn)(w n f:Nat):Sp:=λvs H Q _=>∃r h ds d h',aE K H r ds vs/\HR K H r h/\Ev.run F w n f ds h=.ok d h'/\Res K r H h' d Q
noncomputable def wJ(K:PySem.W.Frag)(d:D)(v:V):Prop:=∀H r,RV K H r d v
theorem wJ.rv{K:PySem.W.Frag}{H:Hp}{r:List Addr}{d:D}{v:V}(h:wJ K d v):RV K H r d v:=h H r
structure Tb where
 F:List Ev.Fn
 w:Nat
 fi:List FI
 bl:List Str
 cs:List (Str×D)
 dk:List (Str×List (D×D))
noncomputable def tabOf:List (D×D)->List (PyData×PyData)
 | (.str k,.str v) :: r=>(.str (aN k),.str (aN v)) :: tabOf r
 |_=>[]
structure Good(G:Tb)(n:Nat)(sc:Scope)(N:List Str)(df:Bool)(X:Cx):Prop where
 nm:X.N=N
 sc:X.env.scope=sc
 calm:X.calm=true
 own:df=true->∀x,X.fn x=true
 room:fC n X.A
 xe:X.xe=λ_ _=>False
 fn:∀(f:Nat) i,G.fi[f]?=some i->X.mg i.name=some (.ref i.addr)/\PySem.W.keepIn X.K (.ref i.addr)=true/\Binds X.K i.fd i.ps []/\g8 X.prog X.w X.K X.mg X.base m5 n i.addr i.fd i.ps (oB X.K G.F G.w n f)
 bl:∀x∈G.bl,X.mg x=none
 cs:∀x d,(x,d)∈G.cs->∃v u,X.mg x=some u/\RelV v u/\wJ X.K d v
 dk:∀x kvs,(x,kvs)∈G.dk->∃a,X.mg x=some (.ref a)/\∀h:Heap,X.K.In h->StrTab X.prog X.w h a (tabOf kvs)
section
variable(G:Tb)(n:Nat)(sc:Scope)(N:List Str)(df:Bool)(m:List Nat)
noncomputable def JE(e:E)(x:Expr):Prop:=∀X,Good G n sc N df X->PE X x (tJ X.K m (Ev.run G.F G.w n) e)
noncomputable def JT(e:E)(x:Expr):Prop:=∀X,Good G n sc N df X->PT X x (JK X.K m (Ev.run G.F G.w n) e)
noncomputable def JW(e:E)(x:Expr):Prop:=∀X,Good G n sc N df X->PW X x (JK X.K m (Ev.run G.F G.w n) e)
noncomputable def JA(es:Es)(xs:List Expr):Prop:=∀X,Good G n sc N df X->PA X xs (JL X.K m (Ev.run G.F G.w n) es)
noncomputable def JO(e:Eo)(x:Option Expr):Prop:=∀X,Good G n sc N df X->PO X x (Qs X.K m (Ev.run G.F G.w n) e)
end
section
variable{G:Tb}{n:Nat}{sc:Scope}{N:List Str}{df:Bool}{m:List Nat}{a b c:E}{xa xb xc:Expr}{pos:Pos}
theorem Good.vis{X:Cx}(g:Good G n sc N df X){x:Str}(h:sc.names.lookup x=some .local\/sc.names.lookup x=some .cell\/sc.names.lookup x=some .free):zG X.env.scope x:=by
 rw[g.sc];exact h
theorem Good.gl{X:Cx}(g:Good G n sc N df X){x:Str}(h:sc.names.lookup x=some .globalImplicit):Gl X x:=by
 unfold Gl Env.kindOf;rw[g.sc];exact h
theorem Sf(j i:Nat){x:Str}(hj:m[j]?=some i:=by rfl)(hN:N[j]?=some x:=by rfl)
  (hv:sc.names.lookup x=some .local\/sc.names.lookup x=some .cell\/sc.names.lookup x=some .free:=by first|exact Or.inl rfl|exact Or.inr (Or.inl rfl)|exact Or.inr (Or.inr rfl))
  (hd:(x==("__debug__" : Str))=false:=by decide) (hcd:(x==("__classdict__" : Str))=false:=by decide):JE G n sc N df m (.v i) (.Name x pos):=by
 intro X g;refine PE.of (zJ (i:=j) (by rw[g.nm];exact hN) (g.vis hv) hd hcd) λs H Q q=>?_;obtain⟨r,fr,h,d,h',sr,hr,e,q⟩:=q;simp only[Ev.ev]at e;obtain⟨e2,e3⟩:=Ev.aD e;subst e3;obtain⟨v,q1,q2⟩:=sr.sl j i d hj (by
  cases z:fr[i]? with
  |none=>rw[z]at e2;cases e2
  |some o=>
   rw[z]at e2;have e':o=some d:=e2;rw[e'])
 exact⟨v,q1,q.here q2 hr⟩
theorem pH{K:PySem.W.Frag}{P:aR}{d:D}{v:V}(hc:wJ K d v):∀s H Q,tJ K m P (.c d) s H Q->tC v s H Q:=λs H Q q=>by
 obtain⟨r,fr,h,d',h',sr,hr,e,q⟩:=q;simp only[Ev.ev]at e;cases e;exact q.here hc.rv hr
theorem JN{i:Int}{j}:JE G n sc N df m (.c (.int i)) (.Constant (.int i) j pos):=λX g=>PE.of IK (pH λ_ _=>rfl)
theorem N2{k:Bool}{j}:JE G n sc N df m (.c (.bl k)) (.Constant (.bool k) j pos):=λX g=>PE.of NG (pH λ_ _=>rfl)
theorem JP{j}:JE G n sc N df m (.c .aH) (.Constant .none j pos):=λX g=>PE.of IL (pH λ_ _=>rfl)
theorem JQ{l:List Nat}{x:Str}{j}(hx:x=aN l:=by decide +kernel)(hl:l.length<=sizeLine:=by decide):JE G n sc N df m (.c (.str l)) (.Constant (.str x) j pos):=
 λX g=>PE.of IM (pH λ_ _=>by subst hx;exact⟨rfl,hl⟩)
theorem Gr {x:Str}{d:D}(hm:(x,d)∈G.cs) (hg:sc.names.lookup x=some .globalImplicit:=by rfl) (hd:(x==("__debug__" : Str))=false:=by decide):JE G n sc N df m (.c d) (.Name x pos):=λX g=>by
 obtain⟨v,u,h1,h2,h3⟩:=g.cs x d hm;exact PE.of (wj (g.gl hg) h1 h2 hd) (pH h3)
theorem JR:JA G n sc N df m .nil []:=λX g=>PA.of mW λs H Q q=>by
 obtain⟨r,fr,h,ds,h',sr,hr,e,q⟩:=q;simp only[Ev.bZ]at e;cases e;exact q [] H r .nil hr .refl
theorem Gs{es:Es}{xs:List Expr}(ha:JE G n sc N df m a xa)(hs:JA G n sc N df m es xs)(hst:∀env:Env,starEach (xa :: xs) env=(false,eval xa env) :: starEach xs env:=by intro _;rfl):JA G n sc N df m (.cons a es) (xa :: xs):=
 λX g=>PA.of (jG (ha X g) (hs X g) (hst _)) λs H Q q=>by
  obtain⟨r,fr,h,ds,h',sr,hr,e,q⟩:=q;simp only[Ev.bZ]at e;obtain⟨d,h1,e1,e⟩:=Ev.ah e;obtain⟨ds',h2,e2,e⟩:=Ev.ah e;cases e;refine⟨r,fr,h,d,h1,sr,hr,e1,λv H1 r1 v1 hr1 f1=>?_⟩;refine⟨r1,fr,h1,ds',_,sr.mono f1,hr1,e2,λvs H2 r2 v2 hr2 f2=>?_⟩;exact q _ H2 r2 (.cons (v1.mono f2) v2) hr2 (f1.trans f2)
theorem JU{es:Es}{xs:List Expr}{k}(hs:JA G n sc N df m es xs):JE G n sc N df m (.tup es) (.Tuple xs k pos):=λX g=>PE.of (Jj (hs X g)) λs H Q q=>by
 obtain⟨r,fr,h,d,h',sr,hr,e,q⟩:=q;simp only[Ev.ev]at e;obtain⟨ds,h1,e1,e⟩:=Ev.ah e;split at e
 .rename_i z;cases e;refine⟨r,fr,h,ds,_,sr,hr,e1,λvs H1 r1 v1 hr1 f1=>⟨by rw[v1.length,<-gz];exact z,λp hp=>?_⟩⟩;exact(q.later f1).tup v1 hr1 hp
 .cases e
theorem JV{es:Es}{xs:List Expr}(hs:JA G n sc N df m es xs):JE G n sc N df m (.lst es) (.List xs pos):=λX g=>PE.of (Jk (hs X g)) λs H Q q=>by
 obtain⟨r,fr,h,d,h',sr,hr,e,q⟩:=q;simp only[Ev.ev]at e;obtain⟨ds,h1,e1,e⟩:=Ev.ah e;refine⟨r,fr,h,ds,h1,sr,hr,e1,λvs H1 r1 v1 hr1 f1=>?_⟩;exact(q.later f1).lst e v1 hr1
theorem pI{K:PySem.W.Frag}{P:aR}{f:D->D->Hh->R D}{e':E}(he:∀fr h,Ev.ev P e' fr h=(Ev.ev P a fr h).bind λx h1=>(Ev.ev P b fr h1).bind λy h2=>f x y h2) :
  ∀s H Q,tJ K m P e' s H Q->zP (iw K f) (tJ K m P a) (tJ K m P b) s H Q:=λs H Q q=>by
 obtain⟨r,fr,h,d,h',sr,hr,e,q⟩:=q;rw[he]at e;obtain⟨x,h1,e1,e⟩:=Ev.ah e;obtain⟨y,h2,e2,e⟩:=Ev.ah e;refine⟨r,fr,h,x,h1,sr,hr,e1,λv H1 r1 v1 hr1 f1=>?_⟩;refine⟨r1,fr,h1,y,h2,sr.mono f1,hr1,e2,λu H2 r2 v2 hr2 f2=>?_⟩;exact⟨r2,h2,x,y,d,h',hr2,v1.mono f2,v2,e,q.later (f1.trans f2)⟩
theorem pJ{o:bQ}{op:Operator}(ho:∀X,Good G n sc N df X->dJ X (binaryOp op) (iw X.K (Ev.bL o)))(ha:JE G n sc N df m a xa)(hb:JE G n sc N df m b xb):JE G n sc N df m (.bin o a b) (.BinOp xa op xb pos):=
 λX g=>PE.of (NO (ho X g) (ha X g) (hb X g)) (pI λfr h=>by simp only[Ev.ev])
noncomputable def gv(o:bK):D->D->Hh->R D:=λx y h=>R.of ((Ev.cop o x y h).map .bl) h
theorem ua{o:bK}{op:CmpOp}(ho:∀X,Good G n sc N df X->dJ X (compareOp op) (iw X.K (gv o)))(ha:JE G n sc N df m a xa)(hb:JE G n sc N df m b xb)(hm:behindInMarks op xb=false):JE G n sc N df m (.cmp o a b) (.Compare xa [op] [xb] pos):=
 λX g=>PE.of (FZ (ho X g) (ha X g) (hb X g) hm) (pI λfr h=>by simp only[Ev.ev,gv])
theorem iP{o:bK}{x y d:D}{h h':Hh}(e:gv o x y h=.ok d h'):∃k,Ev.cop o x y h=some k/\d=.bl k/\h'=h:=by
 unfold gv at e;obtain⟨e1,rfl⟩:=Ev.aD e;cases z:Ev.cop o x y h' with
 |none=>rw[z]at e1;cases e1
 |some k=>rw[z]at e1;cases e1;exact⟨k,rfl,rfl,rfl⟩
theorem jT{o:bK}{op:CmpOp}(ho:∀X,Good G n sc N df X->dJ X (compareOp op) (iw X.K (gv o)))(ha:JE G n sc N df m a xa)(hb:JE G n sc N df m b xb)(hm:behindInMarks op xb=false):JT G n sc N df m (.cmp o a b) (.Compare xa [op] [xb] pos):=
 λX g=>PT.of (Ga (ho X g) (ha X g) (hb X g) hm) λs H Q q=>by
  obtain⟨r,fr,h,k,h',sr,hr,e,q⟩:=q;simp only[Ev.aK]at e;obtain⟨d,h1,e1,e⟩:=Ev.ah e;have e0:=e1;simp only[Ev.ev]at e0;obtain⟨x,h2,_,e0⟩:=Ev.ah e0;obtain⟨y,h3,_,e0⟩:=Ev.ah e0;obtain⟨k',e2,e3,e4⟩:=iP (o:=o) (show gv o x y h3=_ from e0);subst e3;simp only[Ev.truthy]at e;cases e;refine pI (e':=.cmp o a b) (f:=gv o) (λfr h=>by simp only[Ev.ev,gv]) s H _ ⟨r,fr,h,.bl k,_,sr,hr,e1,λv H1 r1 v1 hr1 f1=>?_⟩;exact⟨k,v1,q H1 r1 hr1 f1⟩
end
end Sm
set_option maxRecDepth 100000
namespace Sm
open PySem PySem.Spec PyProof.Rows L2
open Ev (D O Hh Fr R aR E Es Eo It T S Ss Fl Src bQ bK TY BI ME)
section
variable{G:Tb}{n:Nat}{sc:Scope}{N:List Str}{df:Bool}{m:List Nat}{a b c:E}{xa xb xc:Expr}{pos:Pos}
theorem JX(ha:JT G n sc N df m a xa)(hb:JE G n sc N df m b xb)(hc:JE G n sc N df m c xc):JE G n sc N df m (.g9 a b c) (.IfExp xa xb xc pos):=λX g=>PE.of (B6 (ha X g) (hb X g) (hc X g)) λs H Q q=>by
 obtain⟨r,fr,h,d,h',sr,hr,e,q⟩:=q;simp only[Ev.ev]at e;obtain⟨k,h1,e1,e⟩:=Ev.ah e;refine⟨r,fr,h,k,h1,sr,hr,e1,λH1 r1 hr1 f1=>?_⟩;cases k with
 |true=>exact⟨r1,fr,h1,d,h',sr.mono f1,hr1,e,q.later f1⟩
 |false=>exact⟨r1,fr,h1,d,h',sr.mono f1,hr1,e,q.later f1⟩
theorem JY(h:JW G n sc N df m a xa):JT G n sc N df m a xa:=λX g=>(h X g).pt
theorem JZ(ha:JT G n sc N df m a xa):JW G n sc N df m a (.BoolOp .And [xa] pos):=λX g=>FP (ha X g)
theorem Gu(ha:JT G n sc N df m a xa):JW G n sc N df m a (.BoolOp .Or [xa] pos):=λX g=>IP (ha X g)
theorem EC{rest:List Expr}(ha:JT G n sc N df m a xa)(hb:JW G n sc N df m b (.BoolOp .And (xb :: rest) pos)):JW G n sc N df m (.an a b) (.BoolOp .And (xa :: xb :: rest) pos):=λX g=>PW.of (IQ (ha X g) (hb X g)) λs H Q q=>by
 obtain⟨r,fr,h,k,h',sr,hr,e,q⟩:=q;simp only[Ev.aK]at e;obtain⟨k1,h1,e1,e⟩:=Ev.ah e;refine⟨r,fr,h,k1,h1,sr,hr,e1,λH1 r1 hr1 f1=>?_⟩;cases k1 with
 |true=>exact⟨r1,fr,h1,k,h',sr.mono f1,hr1,e,λH2 r2 hr2 f2=>q H2 r2 hr2 (f1.trans f2)⟩
 |false=>
  have e':R.ok false h1=R.ok k h':=e;cases e';exact q H1 r1 hr1 f1
theorem Af{rest:List Expr}(ha:JT G n sc N df m a xa)(hb:JW G n sc N df m b (.BoolOp .Or (xb :: rest) pos)):JW G n sc N df m (.orr a b) (.BoolOp .Or (xa :: xb :: rest) pos):=λX g=>PW.of (NH (ha X g) (hb X g)) λs H Q q=>by
 obtain⟨r,fr,h,k,h',sr,hr,e,q⟩:=q;simp only[Ev.aK]at e;obtain⟨k1,h1,e1,e⟩:=Ev.ah e;refine⟨r,fr,h,k1,h1,sr,hr,e1,λH1 r1 hr1 f1=>?_⟩;cases k1 with
 |false=>exact⟨r1,fr,h1,k,h',sr.mono f1,hr1,e,λH2 r2 hr2 f2=>q H2 r2 hr2 (f1.trans f2)⟩
 |true=>
  have e':R.ok true h1=R.ok k h':=e;cases e';exact q H1 r1 hr1 f1
theorem N3(ha:JT G n sc N df m a xa):JT G n sc N df m (.nt a) (.UnaryOp .Not xa pos):=λX g=>PT.of (IS (ha X g)) λs H Q q=>by
 obtain⟨r,fr,h,k,h',sr,hr,e,q⟩:=q;simp only[Ev.aK]at e;obtain⟨k1,h1,e1,e⟩:=Ev.ah e;cases e;exact⟨r,fr,h,k1,_,sr,hr,e1,λH1 r1 hr1 f1=>q H1 r1 hr1 f1⟩
theorem J0{K:PySem.W.Frag}{H:Hp}{r:List Addr}{h:Hh}{d:D}{v:V}{k:Bool}(hr:HR K H r h)(v1:RV K H r d v)(e:Ev.truthy h d=some k):Cd K v H k:=by
 cases d with
 |aH=>simp only[RV]at v1;subst v1;cases e;rfl
 |bl x=>simp only[RV]at v1;subst v1;cases e;rfl
 |int x=>simp only[RV]at v1;subst v1;cases e;rfl
 |str x=>
  simp only[RV]at v1;obtain⟨rfl,z⟩:=v1;cases e;refine⟨by rw[cT];exact z,?_⟩;rw[cT];cases x with
  |nil=>rfl
  |cons c l=>simp;omega
 |tup ds=>
  simp only[RV]at v1;obtain⟨p,vs,rfl,z,q⟩:=v1;cases e;refine .inr (.inl ⟨vs,z,?_⟩);have hl:=q.length;cases ds<;>cases vs<;>simp_all
 |ref i=>
  simp only[RV]at v1;obtain⟨p,rfl,z⟩:=v1;by_cases Qt:∃kvs,h[i]?=some (.dct kvs)
  .obtain⟨kvs,e1⟩:=Qt;simp only[Ev.truthy,e1]at e;obtain⟨p',z1,z2,_⟩:=hr.dct e1;rw[z]at z1;cases z1;refine .inr (.inr ⟨_,z2,?_⟩);cases e;cases kvs<;>rfl
  have et:Ev.truthy h (.ref i)=(Ev.aZ h i).map λds=>!ds.isEmpty:=by
   simp only[Ev.truthy];split
   .rename_i kvs z;exact(Qt ⟨kvs,z⟩).elim
   .rfl
  rw[et]at e;simp only[Option.map_eq_some_iff]at e;obtain⟨ds,e1,rfl⟩:=e;obtain⟨p',vs,e2,q1,q2⟩:=hr.read e1;rw[z]at e2;cases e2;refine .inl ⟨vs,q1,?_⟩;have hl:=q2.length;cases ds<;>cases vs<;>simp_all
theorem J1(ha:JE G n sc N df m a xa)(he:∀(P:aR) fr h,Ev.aK P a fr h=(Ev.ev P a fr h).bind λx h1=>R.of (Ev.truthy h1 x) h1:=by intros;simp only[Ev.aK])
  (hx:∀(env:Env) whole,isTrue xa env whole=(do let v <-whole;standAt xa.pos;holding [v] (truthy v)):=by intro _ _;rfl):JT G n sc N df m a xa:=λX g=>PT.of (Ce (ha X g) (hx _)) λs H Q q=>by
 obtain⟨r,fr,h,k,h',sr,hr,e,q⟩:=q;rw[he]at e;obtain⟨d,h1,e1,e⟩:=Ev.ah e;obtain⟨e,rfl⟩:=Ev.aD e;refine⟨r,fr,h,d,_,sr,hr,e1,λv H1 r1 v1 hr1 f1=>⟨k,J0 hr1 v1 e,q H1 r1 hr1 f1⟩⟩
noncomputable def J2:D->D->Hh->R D:=λx y h=>R.of (Ev.ek x y h) h
theorem N4(ho:∀X,Good G n sc N df X->wD X (iw X.K J2))(ha:JE G n sc N df m a xa)(hb:JE G n sc N df m b xb)(hs:qA xb:=by intro _ _;rfl):JE G n sc N df m (.ix a b) (.Subscript xa xb pos):=
 λX g=>PE.of (NW (ho X g) (ha X g) (hb X g) hs) (pI λfr h=>by simp only[Ev.ev,J2])
theorem N5:JO G n sc N df m .no none:=λX g=>PO.of Gg λs H Q q=>by
 obtain⟨r,fr,h,o,h',sr,hr,e,q⟩:=q;simp only[Ev.fN]at e;cases e;exact q H r hr .refl
theorem J3(ha:JE G n sc N df m a xa):JO G n sc N df m (.yes a) (some xa):=λX g=>PO.of (Gh (ha X g)) λs H Q q=>by
 obtain⟨r,fr,h,o,h',sr,hr,e,q⟩:=q;simp only[Ev.fN]at e;obtain⟨d,h1,e1,e⟩:=Ev.ah e;obtain⟨e,rfl⟩:=Ev.aD e;cases d with
 |int i=>
  cases e;exact⟨r,fr,h,.int i,_,sr,hr,e1,λv H1 r1 v1 hr1 f1=>⟨i,v1,q H1 r1 hr1 f1⟩⟩
 |_=>cases e
theorem N6{lo hi:Eo}{xl xh:Option Expr}{p2}(ho:∀X,Good G n sc N df X->kN X (JM X.K))(ha:JE G n sc N df m a xa)(hl:JO G n sc N df m lo xl)(hu:JO G n sc N df m hi xh):JE G n sc N df m (.sl a lo hi) (.Subscript xa (.Slice xl xh none p2) pos):=
 λX g=>PE.of (Ck (ho X g) (ha X g) (hl X g) (hu X g)) λs H Q q=>by
  obtain⟨r,fr,h,d,h',sr,hr,e,q⟩:=q;simp only[Ev.ev]at e;obtain⟨x,h1,e1,e⟩:=Ev.ah e;obtain⟨l,h2,e2,e⟩:=Ev.ah e;obtain⟨u,h3,e3,e⟩:=Ev.ah e;refine⟨r,fr,h,x,h1,sr,hr,e1,λv H1 r1 v1 hr1 f1=>?_⟩;refine⟨r1,fr,h1,l,h2,sr.mono f1,hr1,e2,λH2 r2 hr2 f2=>?_⟩;refine⟨r2,fr,h2,u,h3,(sr.mono f1).mono f2,hr2,e3,λH3 r3 jh f3=>?_⟩;exact⟨r3,h3,x,d,h',jh,(v1.mono f2).mono f3,e,q.later ((f1.trans f2).trans f3)⟩
theorem Gv{K:PySem.W.Frag}{P:aR}{es:Es}{f:List D->Hh->R D}{e':E}(he:∀fr h,Ev.ev P e' fr h=(Ev.bZ P es fr h).bind f) :
  ∀s H Q,tJ K m P e' s H Q->Jm (wI K f) (JL K m P es) s H Q:=λs H Q q=>by
 obtain⟨r,fr,h,d,h',sr,hr,e,q⟩:=q;rw[he]at e;obtain⟨ds,h1,e1,e⟩:=Ev.ah e;exact⟨r,fr,h,ds,h1,sr,hr,e1,λvs H1 r1 v1 hr1 f1=>⟨r1,h1,ds,d,h',hr1,v1,e,q.later f1⟩⟩
theorem yy{k:BI}{es:Es}{x:Str}{id:String}{e0:Expr}{xs:List Expr}{p:Pos}(hc:∀X,Good G n sc N df X->gh X (.builtin id) (wI X.K (Ev.cS k)))(hs:JA G n sc N df m es (e0 :: xs))(hb:x∈G.bl:=by decide +kernel)
  (hg:sc.names.lookup x=some .globalImplicit:=by rfl) (hv:bootBuiltins x=some (.builtin id)) (hn:x≠"__name__" :=by decide) (hd:(x==("__debug__" : Str))=false:=by decide)
  (hst:∀env:Env,starEach (e0 :: xs) env=(false,eval e0 env) :: starEach xs env:=by intro _;rfl) (hpl:∀env:Env,(backTo pos (starEach xs env)).any (·.1)=false:=by intro _;rfl) :
  JE G n sc N df m (.bi k es) (.Call (.Name x p) (e0 :: xs) [] pos):=
 λX g=>PE.of (tR (hc X g) (g.gl hg) (g.bl x hb) hv (hs X g) hn hd (hst _) (hpl _)) (Gv λfr h=>by simp only[Ev.ev])
theorem N7{f:Nat}{i:FI}{es:Es}{e0:Expr}{xs:List Expr}{p:Pos}(hf:G.fi[f]?=some i)(hs:JA G n sc N df m es (e0 :: xs))
  (hg:sc.names.lookup i.name=some .globalImplicit:=by rfl) (hd:(i.name==("__debug__" : Str))=false:=by decide)
  (hst:∀env:Env,starEach (e0 :: xs) env=(false,eval e0 env) :: starEach xs env:=by intro _;rfl) (hpl:∀env:Env,(backTo pos (starEach xs env)).any (·.1)=false:=by intro _;rfl) :
  JE G n sc N df m (.cl f es) (.Call (.Name i.name p) (e0 :: xs) [] pos):=λX g=>by
 obtain⟨h1,h2,h3,h4⟩:=g.fn f i hf;refine PE.of (Gd h4 g.room (g.gl hg) h1 h2 h3 .nil Ey (hs X g) hd (hst _) (hpl _)) λs H Q q=>?_;obtain⟨r,fr,h,d,h',sr,hr,e,q⟩:=q;simp only[Ev.ev]at e;obtain⟨ds,h5,e1,e⟩:=Ev.ah e;refine⟨r,fr,h,ds,h5,sr,hr,e1,λvs H1 r1 v1 hr1 f1=>?_⟩;exact⟨r1,h5,ds,d,h',by rw[List.append_nil];exact v1,hr1,e,q.later f1⟩
noncomputable def J4:ME->String
 |.join=>"str"
 |_=>"list"
theorem J5{K:PySem.W.Frag}{H:Hp}{r:List Addr}{h:Hh}{k:ME}{d:D}{v:V}{ty:String}(hr:HR K H r h)(v1:RV K H r d v)(e:Ev.wH k d h=true)(ht:ty=J4 k):Ew K ty v H:=by
 subst ht;have lst:∀i,d=.ref i->(Ev.aZ h i).isSome=true->Ew K "list" v H:=λi ed es=>by
  subst ed;obtain⟨ds,e1⟩:=Option.isSome_iff_exists.mp es;obtain⟨p,vs,e2,q1,q2⟩:=hr.read e1;simp only[RV]at v1;obtain⟨p',rfl,e3⟩:=v1;rw[e2]at e3;cases e3;exact .inl ⟨rfl,vs,q1⟩
 cases k with
 |join=>
  cases d with
  |str l=>simp only[RV]at v1;obtain⟨rfl,_⟩:=v1;rfl
  |_=>cases e
 |append=>cases d with|ref i=>exact lst i rfl e|_=>cases e
 |extend=>cases d with|ref i=>exact lst i rfl e|_=>cases e
 |pop=>cases d with|ref i=>exact lst i rfl e|_=>cases e
 |lG=>cases d with|ref i=>exact lst i rfl e|_=>cases e
theorem yz {k:ME}{es:Es}{e0:Expr}{xs:List Expr}{name:Str}{apos:Pos}{ty id:String}(pa:PlainAttrs ty) (slot:Slot ty name id) (hty:typeOf (.builtin id)=pure (.type "method_descriptor"))
  (hm:∀X,Good G n sc N df X->zV X id (Ae X.K (Ev.fJ k))) (ht:ty=J4 k) (ha:JE G n sc N df m a xa) (hs:JA G n sc N df m es (e0 :: xs))
  (hbase:∀env:Env,attributeBase xa name env (eval xa env)=eval xa env:=by intro _;rfl)
  (hfew:∀env:Env,((backTo pos (starEach (e0 :: xs) env)).all (λx=>!x.1)&&(backToKw pos (keywordEach [] env)).all (λx=>x.1.isSome)
   &&decide ((e0 :: xs).length+([]:List Keyword).length+(if ([]:List Keyword).isEmpty then 0 else 1)<30))=true:=by intro _;rfl)
  (hline:(apos.endLine==pos.line)=true:=by rfl) (hst:∀env:Env,starEach (e0 :: xs) env=(false,eval e0 env) :: starEach xs env:=by intro _;rfl) (hpl:∀env:Env,(backTo pos (starEach xs env)).any (·.1)=false:=by intro _;rfl) :
  JE G n sc N df m (.me k a es) (.Call (.Attribute xa name apos) (e0 :: xs) [] pos):=λX g=>
 PE.of (NY pa slot hty (hm X g) (ha X g) (hs X g) (hbase _) (hfew _) hline (hst _) (hpl _)) λs H Q q=>by
  obtain⟨r,fr,h,d,h',sr,hr,e,q⟩:=q;simp only[Ev.ev]at e;obtain⟨x,h1,e1,e⟩:=Ev.ah e;split at e
  .rename_i hk;obtain⟨ds,h2,e2,e⟩:=Ev.ah e;refine⟨r,fr,h,x,h1,sr,hr,e1,λv H1 r1 v1 hr1 f1=>⟨J5 hr1 v1 hk ht,?_⟩⟩;refine⟨r1,fr,h1,ds,h2,sr.mono f1,hr1,e2,λvs H2 r2 v2 hr2 f2=>?_⟩;exact⟨r2,h2,x,ds,d,h',hr2,v1.mono f2,v2,e,q.later (f1.trans f2)⟩
  .cases e
end
end Sm
set_option maxRecDepth 100000
namespace Sm
open PySem PySem.Spec PyProof.Rows L2
open Ev (D O Hh Fr R aR E Es Eo T S Ss Fl Src bQ bK TY BI ME)
noncomputable def oU(K:PySem.W.Frag)(r0:List Addr)(H0:Hp)(s:Src)(J:L2.It):Prop:=∀(i:Nat) H1 r1 h1,HR K H1 r1 h1->Fm K r0 r1 H0 H1->Ev.stays h1 s.2=true->
 (∀d,s.1[i]?=some d->J.go i H1/\∀x H2,J.Er i H1 x H2->∃r2,RV K H2 r2 d x/\HR K H2 r2 h1/\Fm K r1 r2 H1 H2)/\(s.1.length<=i->J.stop i H1)
inductive Qu(K:PySem.W.Frag)(m:List Nat)(P:aR)(it:Ev.It)(s:L2.St)(H:Hp)(Rr:L2.It->Hp->Prop):Prop
 |mk (r:List Addr) (fr:Fr) (h:Hh) (src:Src) (h':Hh) (c0:SR K m H r fr s) (c1:HR K H r h) (c2:Ev.cB P it fr h=.ok src h') (c3:∀J H' r',HR K H' r' h'->Fm K r r' H H'->oU K r' H' src J->Rr J H'):Qu K m P it s H Rr
noncomputable def JI(G:Tb)(n:Nat)(sc:Scope)(N:List Str)(df:Bool)(m:List Nat)(it:Ev.It)(tg x:Expr):Prop:=∀X,Good G n sc N df X->PI X tg x (Qu X.K m (Ev.run G.F G.w n) it)
noncomputable def ED(z:Str):L2.It:=⟨λi _=>i<z.length,λi H x H'=>H'=H/\∃c,z.cps[i]?=some c/\x=.str ⟨#[c]⟩,λi _=>z.length<=i⟩
theorem J6{M:Model}{A:Around}{E:Value->Shared->Prop}{s:Shared}{tg:Expr}{it:Value}{x:Str}{t:Tok}{Q:Unit->Shared->Prop}(hQ:Q () s):wpAny M A (letOwnedTupleGo tg it (.str x t)) Q E s:=by
 unfold letOwnedTupleGo;cases tg<;>first
  |exact wpAny_pure hQ
  | (cases it<;>exact wpAny_pure hQ)
theorem uc {P:Program}{w:World}{K:PySem.W.Frag}{tg:Expr}(z:Str) (t:Tok) (it:Addr) (ty:String) (hty:ty = "str_ascii_iterator" \/ty = "str_iterator") :
  Turn P w K tg (ED z) [it] it (λi h=>h.IsStrIter it ty z t i) where
 mem:=by simp
 obj:=λi h st b hb=>by
  have e:b=it:=by simpa using hb
  subst e;obtain⟨o,e,c,d⟩:=st;exact⟨o,e,λv z=>by rw[d]at z;cases z⟩
 keep:=λi h h' st k=>by
  obtain⟨o,e,c,d⟩:=st;exact⟨o,k it (by simp) o e,c,d⟩
 item:=by
  intro X hP hw hK hc i pins s σ H E I hf st hg;subst hP hw hK;obtain⟨f0,f1,f2,f3,f4,f5⟩:=hf it (by simp);have W:Walks X.prog X.w X.A it [it] [it] z.cps.size (SignAt z) (λi h=>h.IsStrIter it ty z t i):=by
   rcases hty with e|e
   .subst e;exact Walks.strAscii (I.ok.hd hc) it z t
   .subst e;exact Walks.strWide (I.ok.hd hc) it z t
  refine W.item i s _ _ hg st λv h' tk hv st' kk=>?_;obtain⟨c,u,hc',rfl⟩:=hv;have I1:Inv X pins σ H { s with heap:=h',toks:=tk }:=I.turned (λb o hb e=>kk b o (by simpa using hb) e) f0 f1 f3 f4 f5;exact⟨_,rfl,J6 ⟨.str ⟨#[c]⟩,H,I1,⟨u,rfl⟩,⟨rfl,c,hc',rfl⟩,st',λb hb=>(hf b hb).1⟩⟩
 done:=by
  intro X hP hw hK hc i pins s σ H E I hf st hg;subst hP hw hK;obtain⟨f0,f1,f2,f3,f4,f5⟩:=hf it (by simp);rcases hty with e|e
  .subst e;exact wpAny_pyNext_ascii_end (I.ok.hd hc) st (by simpa[Str.length,ED]using hg) λh' eb=>⟨rfl,I.turned (t':=s.toks) (λb o hb e=>eb b o hb e) f0 f1 f3 f4 f5⟩
  .subst e;exact wpAny_pyNext_wide_end (I.ok.hd hc) st (by simpa[Str.length,ED]using hg) λh' eb=>⟨rfl,I.turned (t':=s.toks) (λb o hb e=>eb b o hb e) f0 f1 f3 f4 f5⟩
 self:=λ_ _ _ _ _ st h=>by
  rcases hty with e|e
  .subst e;exact wpAny_pyIter_striter_ascii st h
  .subst e;exact wpAny_pyIter_striter_wide st h
noncomputable def EE(K:PySem.W.Frag)(x:V)(H:Hp)(Rr:L2.It->Hp->Prop):Prop:=
 (∃a xs,x=.ref a/\ef K H a xs/\Rr (Ql K a) H)\/(∃a xs,x=.ref a/\dH K H a xs/\Rr (Qm K a) H)\/∃z,x=.str z/\Rr (ED z) H
theorem J7{X:Cx}{tg l:Expr}{tl:TE}{wi:TI}(hl:PE X l tl)(hw:∀s H Rr,wi s H Rr->tl s H λx H1=>EE X.K x H1 Rr):PI X tg l wi:=by
 intro pins s σ H Rr I h;refine bJ (hl pins s σ H _ I (hw _ _ _ h)) λv s1 ⟨x,H1,I1,r1,q1⟩=>?_;have fp:∀(o:Obj) b,b∈[s1.heap.objs.size]->gr X pins H1 b:=λo b hb=>by
  have e:b=s1.heap.objs.size:=by simpa using hb
  subst e;exact I1.x8 (Nat.le_refl _) (I1.hok.fresh (Nat.le_refl _))
 rcases q1 with ⟨a,xs,rfl,hq,q⟩|⟨a,xs,rfl,hq,q⟩|⟨z,rfl,q⟩
 .cases r1;obtain⟨its,rv,p,hz⟩:=I1.list hq;refine wpAny_pyIter_list p.isList ?_;exact⟨s1.heap.objs.size,[s1.heap.objs.size],_,_,H1,rfl,I1.kept (t':=s1.toks) λb o e=>Heap.get?_push_of_some _ e,zM a _,⟨_,Heap.get?_push_size _ rfl,rfl,rfl⟩,fp default,q⟩
 .cases r1;obtain⟨its,rv,p,hz⟩:=I1.tuple hq;refine wpAny_pyIter_tuple (show s1.heap.IsTuple a its.toArray from p) ?_;exact⟨s1.heap.objs.size,[s1.heap.objs.size],_,_,H1,rfl,I1.kept (t':=s1.toks) λb o e=>Heap.get?_push_of_some _ e,yc a _,⟨_,Heap.get?_push_size _ rfl,rfl,rfl⟩,fp default,q⟩
 .obtain⟨t,rfl⟩:=r1;cases ha:z.cps.all (· < 128)
  .refine wpAny_pyIter_wide ha ?_;exact⟨s1.heap.objs.size,[s1.heap.objs.size],_,_,H1,rfl,I1.kept (t':=s1.toks) λb o e=>Heap.get?_push_of_some _ e,uc z t _ _ (.inr rfl),⟨_,Heap.get?_push_size _ rfl,rfl,rfl⟩,fp default,q⟩
  .refine wpAny_pyIter_ascii ha ?_;exact⟨s1.heap.objs.size,[s1.heap.objs.size],_,_,H1,rfl,I1.kept (t':=s1.toks) λb o e=>Heap.get?_push_of_some _ e,uc z t _ _ (.inl rfl),⟨_,Heap.get?_push_size _ rfl,rfl,rfl⟩,fp default,q⟩
theorem rR{h:Hh}{n:Nat}{ds:List D}(e:Ev.stays h [(n,ds)]=true):Ev.aZ h n=some ds:=by
 simp only[Ev.stays,Bool.and_true]at e;split at e
 .rename_i es q;rw[q,(Ev.rQ _ _).mp e]
 .cases e
theorem Gw{K:PySem.W.Frag}{H:Hp}{r:List Addr}{h:Hh}{d:D}{v:V}{src:Src}{Rr:L2.It->Hp->Prop}(hr:HR K H r h)(v1:RV K H r d v)(e:Ev.eB h d=some src)(q:∀J,oU K r H src J->Rr J H):EE K v H Rr:=by
 cases d with
 |tup ds=>
  simp only[RV]at v1;obtain⟨a,vs,rfl,z,w⟩:=v1;cases e;refine .inr (.inl ⟨a,vs,rfl,z,q _ λi H1 r1 h1 hr1 f1 st=>⟨λd' e'=>?_,λhl=>?_⟩⟩)
  .obtain⟨u,e1,e2⟩:=w.get e';refine⟨⟨vs,u,f1.tups _ _ z,e1⟩,λx H2 y=>?_⟩;obtain⟨rfl,y⟩:=y;have:=y vs (f1.tups _ _ z);rw[e1]at this;cases this;exact⟨r1,e2.mono f1,hr1,.refl⟩
  .exact⟨vs,f1.tups _ _ z,by rw[w.length];exact hl⟩
 |str l=>
  simp only[RV]at v1;obtain⟨rfl,z⟩:=v1;cases e;refine .inr (.inr ⟨_,rfl,q _ λi H1 r1 h1 hr1 f1 st=>⟨λd' e'=>?_,λhl=>?_⟩⟩)
  .rw[List.getElem?_map]at e';cases e2:l[i]? with
   |none=>rw[e2]at e';cases e'
   |some c=>
    rw[e2]at e';cases e';refine⟨by show i<(aN l).length;rw[cT];exact(List.getElem?_eq_some_iff.mp e2).1,λx H2 y=>?_⟩;obtain⟨rfl,c',y1,rfl⟩:=y;have e3:(aN l).cps[i]?=some c:=by simp[aN,e2]
    rw[e3]at y1;cases y1;exact⟨r1,⟨rfl,by show 1<=sizeLine;decide⟩,hr1,.refl⟩
  .show(aN l).length<=i;rw[cT];simpa using hl
 |ref k=>
  simp only[RV]at v1;obtain⟨a,rfl,z⟩:=v1;simp only[Ev.eB,Option.map_eq_some_iff]at e;obtain⟨ds,e1,rfl⟩:=e;obtain⟨a',vs,e2,e3,e4⟩:=hr.read e1;rw[z]at e2;cases e2;refine .inl ⟨a,vs,rfl,e3,q _ λi H1 r1 h1 hr1 f1 st=>?_⟩;obtain⟨a',us,e5,e6,e7⟩:=hr1.read (rR st);rw[f1.pre _ _ z]at e5;cases e5;refine⟨λd' e'=>?_,λhl=>⟨us,e6,by rw[e7.length];exact hl⟩⟩;obtain⟨u,g1,g2⟩:=e7.get e';refine⟨⟨us,u,e6,g1⟩,λx H2 y=>?_⟩;obtain⟨rfl,y⟩:=y;have:=y us e6;rw[g1]at this;cases this;exact⟨r1,g2,hr1,.refl⟩
 |_=>cases e
section
variable{G:Tb}{n:Nat}{sc:Scope}{N:List Str}{df:Bool}{m:List Nat}{a b c:E}{xa xb xc tg:Expr}{pos:Pos}
theorem J8(ha:JE G n sc N df m a xa):JI G n sc N df m (.seq a) tg xa:=λX g=>J7 (ha X g) λs H Rr q=>by
 obtain⟨r,fr,h,src,h',sr,hr,e,q⟩:=q;simp only[Ev.cB]at e;obtain⟨d,h1,e1,e⟩:=Ev.ah e;obtain⟨e,rfl⟩:=Ev.aD e;refine⟨r,fr,h,d,_,sr,hr,e1,λv H1 r1 v1 hr1 f1=>?_⟩;exact Gw hr1 v1 e λJ hJ=>q J H1 r1 hr1 f1 hJ
theorem PI.of{X:Cx}{tg l:Expr}{t t':TI}(h:PI X tg l t)(w:∀s H Q,t' s H Q->t s H Q):PI X tg l t':=λpins s σ H Q I q=>h pins s σ H Q I (w _ _ _ q)
theorem J9{K:PySem.W.Frag}{r:List Addr}{H:Hp}(lo:Int)(k:Nat):oU K r H (Ev.range lo k,[]) (Et lo k):=λi H1 r1 h1 hr1 f1 st=>by
 refine⟨λd e=>?_,λhl=>?_⟩
 .simp only[Ev.range,List.getElem?_map]at e;cases e2:(List.range k)[i]? with
  |none=>rw[e2]at e;cases e
  |some j=>
   rw[e2]at e;cases e;have hi:i<k:=by simpa using (List.getElem?_eq_some_iff.mp e2).1
   have hj:j=i:=by
    rw[List.getElem?_range hi]at e2;exact(Option.some.inj e2).symm
   subst hj;refine⟨hi,λx H2 y=>?_⟩;obtain⟨rfl,rfl⟩:=y;exact⟨r1,rfl,hr1,.refl⟩
 .have:(Ev.range lo k).length=k:=by simp[Ev.range]
  show k<=i;have hl':(Ev.range lo k).length<=i:=hl;omega
theorem Gx {e1:E}{p:Pos}(hs:JA G n sc N df m (.cons e1 .nil) [xa]) (hg:sc.names.lookup ("range" : Str)=some .globalImplicit:=by rfl) (hb:("range" : Str)∈G.bl:=by decide +kernel)
  (hst:∀env:Env,starEach [xa] env=[(false,eval xa env)]:=by intro _;rfl):JI G n sc N df m (.fR (.cons e1 .nil)) tg (.Call (.Name "range" p) [xa] [] pos):=λX g=>
 PI.of (zN (g.gl hg) (g.bl _ hb) (hs X g) (hst _)) λs H Rr q=>by
  obtain⟨r,fr,h,src,h',sr,hr,e,q⟩:=q;simp only[Ev.cB]at e;obtain⟨ds,h1,e1,e⟩:=Ev.ah e;obtain⟨e,rfl⟩:=Ev.aD e;refine⟨r,fr,h,ds,_,sr,hr,e1,λvs H1 r1 v1 hr1 f1=>?_⟩;unfold Ev.dO at e;split at e
  .rename_i j;split at e
   .rename_i hj;cases e;simp only[aE,RV]at v1;obtain⟨v,w,rfl,rfl,rfl⟩:=v1;exact⟨_,rfl,hj.1,hj.2,q _ H1 r1 hr1 f1 (J9 0 _)⟩
   .cases e
  .exfalso;simp only[Ev.bZ]at e1;obtain⟨d,_,_,e1⟩:=Ev.ah e1;simp only[Ev.ao]at e1;cases e1
  .cases e
inductive gJ(K:PySem.W.Frag)(m:List Nat)(t:T)(v:V)(s:L2.St)(H:Hp)(Q:L2.St->Hp->Prop):Prop
 |mk (r:List Addr) (fr:Fr) (h:Hh) (d:D) (ak:Fr) (c0:SR K m H r fr s) (c1:HR K H r h) (c2:RV K H r d v) (c3:Ev.br t d fr=some ak) (c4:∀s',SR K m H r ak s'->Q s' H):gJ K m t v s H Q
noncomputable def JG(G:Tb)(n:Nat)(sc:Scope)(N:List Str)(df:Bool)(m:List Nat)(t:T)(x:Expr):Prop:=∀X,Good G n sc N df X->PG X x (gJ X.K m t)
theorem PG.of{X:Cx}{e:Expr}{t t':TG}(h:PG X e t)(w:∀v s H Q,t' v s H Q->t v s H Q):PG X e t':=λpins s σ H v u Q I r q=>h pins s σ H v u Q I r (w _ _ _ _ q)
theorem SR.set{K:PySem.W.Frag}{m:List Nat}{H:Hp}{r:List Addr}{fr:Fr}{s:L2.St}(sr:SR K m H r fr s)(hm:m.Nodup){j i:Nat}(hj:m[j]?=some i){d:D}{v:V}(v1:RV K H r d v):SR K m H r (fr.set i (some d)) (s.set j (some v)):=by
 refine⟨by simp[sr.len],λj' i' d' e1 e2=>?_⟩;by_cases hi:i'=i
 .subst hi;have:j'=j:=Ag hm e1 hj;subst this;have hlt:i'<fr.length:=by
   have:=(List.getElem?_eq_some_iff.mp e2).1;simpa using this
  rw[List.getElem?_set_self hlt]at e2;cases e2;refine⟨v,List.getElem?_set_self ?_,v1⟩;rw[sr.len];exact(List.getElem?_eq_some_iff.mp hj).1
 .rw[List.getElem?_set_ne (λz=>hi z.symm)]at e2;obtain⟨u,q1,q2⟩:=sr.sl j' i' d' e1 e2;refine⟨u,?_,q2⟩;rw[List.getElem?_set_ne]
  .exact q1
  .intro z;subst z;rw[hj]at e1;cases e1;exact hi rfl
where
 Ag {l:List Nat} (hl:l.Nodup) {i j:Nat} {x:Nat} (a:l[i]?=some x) (b:l[j]?=some x):i=j:=by
  have ha:=(List.getElem?_eq_some_iff.mp a)
  have hb:=(List.getElem?_eq_some_iff.mp b)
  obtain⟨h1,e1⟩:=ha;obtain⟨h2,e2⟩:=hb;exact(List.getElem_inj hl).mp (e1.trans e2.symm)
theorem Good.loc{X:Cx}(g:Good G n sc N df X){x:Str}(h:sc.names.lookup x=some .local\/(df=true/\sc.names.lookup x=some .cell)):Loc X.env.scope x/\(X.fn x=true\/X.env.scope.names.lookup x=some .local):=by
 rw[show Loc X.env.scope x↔Loc sc x by rw[g.sc],g.sc];rcases h with h|⟨h1,h⟩
 .exact⟨.inl h,.inr h⟩
 .exact⟨.inr h,.inl (g.own h1 x)⟩
theorem Ka(j i:Nat){x:Str}(hm:m.Nodup)(hN:N.Nodup)(hj:m[j]?=some i:=by rfl)(rS:N[j]?=some x:=by rfl)
  (hl:sc.names.lookup x=some .local\/(df=true/\sc.names.lookup x=some .cell):=by first|exact Or.inl rfl|exact Or.inr ⟨rfl,rfl⟩):JG G n sc N df m (.one i) (.Name x pos):=λX g=>by
 obtain⟨h1,h2⟩:=g.loc hl;refine PG.of (wm (i:=j) (by rw[g.nm];exact hN) (by rw[g.nm];exact rS) h1 h2) λv s H Q q=>?_;obtain⟨r,fr,h,d,ak,sr,hr,v1,e,q⟩:=q;cases e;exact q _ (sr.set hm hj v1)
inductive Qv(K:PySem.W.Frag)(m:List Nat)(l:List Nat)(vs:List V)(s:L2.St)(H:Hp)(Q:L2.St->Hp->Prop):Prop
 |mk (r:List Addr) (fr:Fr) (h:Hh) (ds:List D) (ak:Fr) (c0:SR K m H r fr s) (c1:HR K H r h) (c2:aE K H r ds vs) (c3:Ev.cK l ds fr=some ak) (c4:∀s',SR K m H r ak s'->Q s' H):Qv K m l vs s H Q
noncomputable def rT(G:Tb)(n:Nat)(sc:Scope)(N:List Str)(df:Bool)(m:List Nat)(l:List Nat)(xs:List Expr):Prop:=∀X,Good G n sc N df X->oz X xs (Qv X.K m l)
theorem oz.of{X:Cx}{e:List Expr}{t t':rF}(h:oz X e t)(w:∀v s H Q,t' v s H Q->t v s H Q):oz X e t':=λpins s σ H v u Q I r q=>h pins s σ H v u Q I r (w _ _ _ _ q)
theorem Gy:rT G n sc N df m [] []:=λX g=>oz.of FT λvs s H Q q=>by
 obtain⟨r,fr,h,ds,ak,sr,hr,v1,e,q⟩:=q;cases ds with
 |nil=>simp only[aE]at v1;subst v1;cases e;exact⟨rfl,q _ sr⟩
 |cons _ _=>cases e
theorem Cu(j i:Nat){x:Str}{l:List Nat}{xs:List Expr}(hm:m.Nodup)(hN:N.Nodup)(hs:rT G n sc N df m l xs)(hj:m[j]?=some i:=by rfl)(rS:N[j]?=some x:=by rfl)
  (hl:sc.names.lookup x=some .local\/(df=true/\sc.names.lookup x=some .cell):=by first|exact Or.inl rfl|exact Or.inr ⟨rfl,rfl⟩)
  (hst:∀env:Env,(assignEach (.Name x pos :: xs) env).map (·.2)=assign (.Name x pos) env :: (assignEach xs env).map (·.2):=by intro _;rfl):rT G n sc N df m (i :: l) (.Name x pos :: xs):=λX g=>by
 obtain⟨h1,h2⟩:=g.loc hl;refine oz.of (Ca (wm (i:=j) (by rw[g.nm];exact hN) (by rw[g.nm];exact rS) h1 h2) (hs X g) (hst _)) λvs s H Q q=>?_;obtain⟨r,fr,h,ds,ak,sr,hr,v1,e,q⟩:=q;cases ds with
 |nil=>cases e
 |cons d ds=>
  simp only[aE]at v1;obtain⟨v,w,rfl,v2,v3⟩:=v1;exact⟨v,w,rfl,r,_,h,ds,ak,sr.set hm hj v2,hr,v3,e,q⟩
theorem Gz{l:List Nat}{xs:List Expr}{k:Nat}(hs:rT G n sc N df m l xs)(hn:∀env:Env,(assignEach xs env).length=l.length:=by intro _;rfl)(hst:∀env:Env,(assignEach xs env).findIdx? (·.1)=none:=by intro _;rfl) :
  JG G n sc N df m (.many l) (.Tuple xs k pos):=λX g=>PG.of (IW (n:=l.length) g.calm (hs X g) (hn _) (hst _)) λv s H Q q=>by
 obtain⟨r,fr,h,d,ak,sr,hr,v1,e,q⟩:=q;cases d with
 |tup ds=>
  simp only[RV]at v1;obtain⟨p,vs,rfl,z,w⟩:=v1;have hlen:∀(l:List Nat) (ds:List D) fr ak,Ev.cK l ds fr=some ak->ds.length=l.length:=by
   intro l;induction l with
   |nil=>intro ds fr ak e;cases ds with|nil=>rfl|cons _ _=>cases e
   |cons i l ih=>intro ds fr ak e;cases ds with|nil=>cases e|cons d ds=>simp[ih ds _ _ e]
  exact⟨p,vs,rfl,z,by rw[w.length];exact hlen _ _ _ _ e,r,fr,h,ds,ak,sr,hr,w,e,q⟩
 |_=>cases e
end
end Sm
set_option maxRecDepth 100000
namespace Sm
open PySem PySem.Spec PyProof.Rows L2
open Ev (D O Hh Fr R aR E Es Eo T S Ss Fl Src bQ bK TY BI ME)
noncomputable def Fin(K:PySem.W.Frag)(m:List Nat)(r:List Addr)(H:Hp)(h':Hh)(fl:Fl)(ak:Fr)(Q:Ends):Prop:=match fl with
 |.nx=>∀s' H' r',SR K m H' r' ak s'->HR K H' r' h'->Fm K r r' H H'->Q.nx s' H'
 |.bk=>∀s' H' r',SR K m H' r' ak s'->HR K H' r' h'->Fm K r r' H H'->Q.bk s' H'
 |.ct=>∀s' H' r',SR K m H' r' ak s'->HR K H' r' h'->Fm K r r' H H'->Q.ct s' H'
 |.ret d=>Res K r H h' d Q.rt
theorem Fin.later{K:PySem.W.Frag}{m:List Nat}{r r':List Addr}{H H':Hp}{h':Hh}{fl:Fl}{ak:Fr}{Q:Ends}(q:Fin K m r H h' fl ak Q)(f:Fm K r r' H H'):Fin K m r' H' h' fl ak Q:=by
 cases fl with
 |nx=>exact λs2 H2 r2 a b g=>q s2 H2 r2 a b (f.trans g)
 |bk=>exact λs2 H2 r2 a b g=>q s2 H2 r2 a b (f.trans g)
 |ct=>exact λs2 H2 r2 a b g=>q s2 H2 r2 a b (f.trans g)
 |ret d=>exact Res.later q f
inductive Qw(K:PySem.W.Frag)(m:List Nat)(P:aR)(w:Nat)(st:S)(Q:Ends)(s:L2.St)(H:Hp):Prop
 |mk (r:List Addr) (fr:Fr) (h:Hh) (fl:Fl) (ak:Fr) (h':Hh) (c0:SR K m H r fr s) (c1:HR K H r h) (c2:Ev.ex P w st fr h=.ok (fl,ak) h') (c3:Fin K m r H h' fl ak Q):Qw K m P w st Q s H
inductive Cv(K:PySem.W.Frag)(m:List Nat)(P:aR)(w:Nat)(ss:Ss)(Q:Ends)(s:L2.St)(H:Hp):Prop
 |mk (r:List Addr) (fr:Fr) (h:Hh) (fl:Fl) (ak:Fr) (h':Hh) (c0:SR K m H r fr s) (c1:HR K H r h) (c2:Ev.exs P w ss fr h=.ok (fl,ak) h') (c3:Fin K m r H h' fl ak Q):Cv K m P w ss Q s H
theorem PS.of{X:Cx}{st:Stmt}{t t':TS}(h:PS X st t)(w:∀Q s H,t' Q s H->t Q s H):PS X st t':=λpins s σ H Q I q=>h pins s σ H Q I (w _ _ _ q)
theorem iM.of{X:Cx}{st:List Stmt}{t t':TS}(h:iM X st t)(w:∀Q s H,t' Q s H->t Q s H):iM X st t':=λpins s σ H Q I q=>h pins s σ H Q I (w _ _ _ q)
section
variable(G:Tb)(n:Nat)(sc:Scope)(N:List Str)(df:Bool)(m:List Nat)
noncomputable def JS(st:S)(x:Stmt):Prop:=∀X,Good G n sc N df X->PS X x (Qw X.K m (Ev.run G.F G.w n) G.w st)
noncomputable def kc(ss:Ss)(xs:List Stmt):Prop:=∀X,Good G n sc N df X->iM X xs (Cv X.K m (Ev.run G.F G.w n) G.w ss)
end
section
variable{G:Tb}{n:Nat}{sc:Scope}{N:List Str}{df:Bool}{m:List Nat}{a b c:E}{xa xb xc tg:Expr}{pos:Pos}
theorem GA:kc G n sc N df m .nil []:=λX g=>iM.of FQ λQ s H q=>by
 obtain⟨r,fr,h,fl,ak,h',sr,hr,e,q⟩:=q;simp only[Ev.exs]at e;cases e;exact q s H r sr hr .refl
theorem Cw{st:S}{ss:Ss}{x:Stmt}{xs:List Stmt}(h1:JS G n sc N df m st x)(h2:kc G n sc N df m ss xs):kc G n sc N df m (.cons st ss) (x :: xs):=λX g=>iM.of (B7 (h1 X g) (h2 X g)) λQ s H q=>by
 obtain⟨r,fr,h,fl,ak,h',sr,hr,e,q⟩:=q;simp only[Ev.exs]at e;obtain⟨⟨ji,af⟩,h1,e1,e⟩:=Ev.ah e;refine⟨r,fr,h,ji,af,h1,sr,hr,e1,?_⟩;cases ji with
 |nx=>exact λs1 H1 r1 Uy hr1 f1=>⟨r1,af,h1,fl,ak,h',Uy,hr1,e,q.later f1⟩
 |bk=>cases e;exact q
 |ct=>cases e;exact q
 |ret d=>cases e;exact q
theorem Kc(j i:Nat){x:Str}{pos':Pos}(hm:m.Nodup)(hN:N.Nodup)(ha:JE G n sc N df m a xa)(hs:∀env:Env,swapsWith xa (some (.Name x pos')) pos.line env=pure false:=by intro _;rfl)(hj:m[j]?=some i:=by rfl)(rS:N[j]?=some x:=by rfl)
  (hl:sc.names.lookup x=some .local\/(df=true/\sc.names.lookup x=some .cell):=by first|exact Or.inl rfl|exact Or.inr ⟨rfl,rfl⟩):JS G n sc N df m (.set i a) (.Assign [.Name x pos'] xa pos):=λX g=>by
 obtain⟨h1,h2⟩:=g.loc hl;refine PS.of (zL (i:=j) (by rw[g.nm];exact hN) (by rw[g.nm];exact rS) h1 (ha X g) (hs _) h2) λQ s H q=>?_;obtain⟨r,fr,h,fl,ak,h',sr,hr,e,q⟩:=q;simp only[Ev.ex]at e;obtain⟨d,h1,e1,e⟩:=Ev.ah e;cases e;exact⟨r,fr,h,d,_,sr,hr,e1,λv H1 r1 v1 hr1 f1=>q _ H1 r1 ((sr.mono f1).set hm hj v1) hr1 f1⟩
theorem GB{l:List Nat}(ha:JE G n sc N df m a xa)(hg:JG G n sc N df m (.many l) tg)(hs:∀env:Env,swapsWithSole [tg] xa pos.line env=pure false:=by intro _;rfl)(hw:∀env:Env,swappedStores [tg] xa env=pure none:=by intro _;rfl)
  (h1:∀env:Env,(assignEach [tg] env).map (·.2)=[assign tg env]:=by intro _;rfl):JS G n sc N df m (.kD l a) (.Assign [tg] xa pos):=λX g=>PS.of (zK (ha X g) (hg X g) (hs _) (hw _) (h1 _)) λQ s H q=>by
 obtain⟨r,fr,h,fl,ak,h',sr,hr,e,q⟩:=q;simp only[Ev.ex]at e;obtain⟨d,h2,e1,e⟩:=Ev.ah e;split at e
 .rename_i av e2;cases e;exact⟨r,fr,h,d,_,sr,hr,e1,λv H1 r1 v1 hr1 f1=>⟨r1,fr,_,d,_,sr.mono f1,hr1,v1,e2,λs' Uz=>q s' H1 r1 Uz hr1 f1⟩⟩
 .cases e
theorem GC{i:Nat}{tp:Pos}(ho:JE G n sc N df m (.v i) xa)(hi:JE G n sc N df m b xb)(hv:JE G n sc N df m c xc)
  (hs:∀env:Env,swapsWithSole [.Subscript xa xb tp] xc pos.line env=pure false:=by intro _;rfl) (hw:∀env:Env,swappedStores [.Subscript xa xb tp] xc env=pure none:=by intro _;rfl)
  (h1:∀env:Env,(assignEach [.Subscript xa xb tp] env).map (·.2)=[assign (.Subscript xa xb tp) env]:=by intro _;rfl)
  (has:∀(env:Env) v,assign (.Subscript xa xb tp) env v=(do
   let ov <-holding [v] (eval xa env)
   let iv <-holding [v,ov] (eval xb env)
   standAt tp
   holding [v,ov,iv] (setItem ov iv v)
   release [v,ov,iv] []):=by intro _ _;rfl):JS G n sc N df m (.exp (.me .lG (.v i) (.cons c (.cons b .nil)))) (.Assign [.Subscript xa xb tp] xc pos):=λX g=>PS.of (zK (hv X g) (IX (ho X g) (hi X g) set_list (has _)) (hs _) (hw _) (h1 _)) λQ s H q=>by
 obtain⟨r,fr,h,fl,ak,h',sr,hr,e,q⟩:=q;simp only[Ev.ex]at e;obtain⟨_,h5,ea,e'⟩:=Ev.ah e;cases e';clear e;simp only[Ev.ev,Ev.bZ]at ea;obtain⟨y,h2,e2,eb⟩:=Ev.ah ea;clear ea;obtain⟨UA,rfl⟩:=Ev.aD e2;clear e2;split at eb
 case isFalse=>cases eb
 obtain⟨xs,h3,e3,e⟩:=Ev.ah eb;obtain⟨x,h4,e1,e6⟩:=Ev.ah e3;obtain⟨zs,h6,e4,e7⟩:=Ev.ah e6;clear eb e3 e6;cases e7;obtain⟨z,h7,e5,e8⟩:=Ev.ah e4;clear e4;cases e8;refine⟨r,fr,_,x,h4,sr,hr,e1,λv H1 r1 v1 hr1 f1=>?_⟩;refine⟨r1,fr,h4,y,h4,sr.mono f1,hr1,by simp only[Ev.ev];rw[UA];rfl,λu H2 r2 v2 hr2 f2=>?_⟩;refine⟨r2,fr,h4,z,_,(sr.mono f1).mono f2,hr2,e5,λt H3 r3 v3 jh f3=>?_⟩;cases y with
 |ref i=>
  cases z with
  |int k=>
   delta Ev.fJ at e;dsimp only at e
   split at e
   .rename_i ds e4;split at e
    .rename_i jx e5;cases e;have v2':=v2.mono f3;simp only[RV]at v2' v3;obtain⟨p,rfl,e6⟩:=v2';subst v3;obtain⟨p',e7,vs,e8,e9⟩:=jh.ob i _ e4;rw[e6]at e7;cases e7;refine⟨p,vs,k,jx,rfl,rfl,e8,by rw[e9.length];exact e5,?_⟩;have f4:=Fm.write (K:=X.K) (ws:=vs.set jx v) e8 (List.mem_of_getElem? e6);exact q s _ r3 (((sr.mono f1).mono f2).mono (f3.trans f4)) (jh.write e4 e6 e8 (e9.set jx ((v1.mono f2).mono f3))) (((f1.trans f2).trans f3).trans f4)
    .cases e
   .cases e
  |_=>cases e
 |_=>cases e
theorem Kd(ha:JE G n sc N df m a xa)(hs:∀env:Env,swapsWith xa none pos.line env=pure false:=by intro _;rfl):JS G n sc N df m (.exp a) (.Expr xa pos):=λX g=>PS.of (wk (ha X g) (hs _)) λQ s H q=>by
 obtain⟨r,fr,h,fl,ak,h',sr,hr,e,q⟩:=q;simp only[Ev.ex]at e;obtain⟨d,h1,e1,e⟩:=Ev.ah e;cases e;exact⟨r,fr,h,d,_,sr,hr,e1,λv H1 r1 v1 hr1 f1=>q s H1 r1 (sr.mono f1) hr1 f1⟩
theorem Ke(ha:JE G n sc N df m a xa):JS G n sc N df m (.ret a) (.Return (some xa) pos):=λX g=>PS.of (IT (ha X g)) λQ s H q=>by
 obtain⟨r,fr,h,fl,ak,h',sr,hr,e,q⟩:=q;simp only[Ev.ex]at e;obtain⟨d,h1,e1,e⟩:=Ev.ah e;cases e;exact⟨r,fr,h,d,_,sr,hr,e1,q⟩
theorem Kf{ta tb:Ss}{ya yb:List Stmt}(hc:JT G n sc N df m a xa)(h1:kc G n sc N df m ta ya)(h2:kc G n sc N df m tb yb):JS G n sc N df m (.iff a ta tb) (.If xa ya yb pos):=λX g=>PS.of (NK (hc X g) (h1 X g) (h2 X g)) λQ s H q=>by
 obtain⟨r,fr,h,fl,ak,h',sr,hr,e,q⟩:=q;simp only[Ev.ex]at e;obtain⟨k,h3,e1,e⟩:=Ev.ah e;refine⟨r,fr,h,k,h3,sr,hr,e1,λH1 r1 hr1 f1=>?_⟩;cases k with
 |true=>exact⟨r1,fr,h3,fl,ak,h',sr.mono f1,hr1,e,q.later f1⟩
 |false=>exact⟨r1,fr,h3,fl,ak,h',sr.mono f1,hr1,e,q.later f1⟩
theorem Good.pass{X:Cx}(g:Good G n sc N df X):PassesOwn (model X.prog X.w) X.A X.env X.xe:=by
 rw[g.xe];exact PassesOwn.never
noncomputable def FN(K:PySem.W.Frag)(m:List Nat)(ji:Fl)(gA:Fr)(h4:Hh)(r1:List Addr)(H1:Hp)(s5:L2.St)(H5:Hp):Prop:=(ji=.nx\/ji=.ct)/\∃r5,SR K m H5 r5 gA s5/\HR K H5 r5 h4/\Fm K r1 r5 H1 H5
section
variable{K:PySem.W.Frag}{r r1 r2:List Addr}{H H1 H2:Hp}{h4 h':Hh}{fl ji:Fl}{gA ak:Fr}{Q:Ends}
noncomputable def Cy(L:R (Fl×Fr))(p:Fl×Fr)(h1:Hh):R (Fl×Fr):=match p.1 with
 |.nx=>L
 |.ct=>L
 |.bk=>.ok (.nx,p.2) h1
 |.ret x=>.ok (.ret x,p.2) h1
theorem GD{L:R (Fl×Fr)}(e:Cy L (ji,gA) h4=.ok (fl,ak) h')(z:ji=.nx\/ji=.ct):L=.ok (fl,ak) h':=by rcases z with rfl|rfl<;>exact e
theorem Cz{L:R (Fl×Fr)}(e:Cy L (ji,gA) h4=.ok (fl,ak) h')(q:Fin K m r H h' fl ak Q)(f:Fm K r r1 H H1)(f2:Fm K r1 r2 H1 H2):Fin K m r2 H2 h4 ji gA { Q with nx:=FN K m ji gA h4 r1 H1,ct:=FN K m ji gA h4 r1 H1,bk:=Q.nx }:=by
 cases ji with
 |nx=>exact λs6 H6 r6 Ah Ai f6=>⟨.inl rfl,r6,Ah,Ai,f2.trans f6⟩
 |ct=>exact λs6 H6 r6 Ah Ai f6=>⟨.inr rfl,r6,Ah,Ai,f2.trans f6⟩
 |bk=>
  cases e;exact λs6 H6 r6 Ah Ai f6=>q s6 H6 r6 Ah Ai ((f.trans f2).trans f6)
 |ret d=>
  cases e;exact Res.later q (f.trans f2)
noncomputable def ud(P:aR)(w:Nat)(t:T)(tb:Ss):D->Fr->Hh->R (Fl×Fr):=λd av h2=>match Ev.br t d av with
 |some bE=>Ev.exs P w tb bE h2
 |none=>.bad
theorem ue(P:aR)(w:Nat)(t:T)(it:Ev.It)(tb:Ss)(fr:Fr)(h:Hh):Ev.ex P w (.for t it tb) fr h=(Ev.cB P it fr h).bind λs h1=>Ev.forL (ud P w t tb) s.2 s.1 fr h1:=by simp only[Ev.ex];rfl
theorem rU(f:D->Fr->Hh->R (Fl×Fr))(ck:List (Nat×List D))(d:D)(ds:List D)(fr:Fr)(h:Hh):Ev.forL f ck (d :: ds) fr h=if Ev.stays h ck then (f d fr h).bind λp h1=>Cy (Ev.forL f ck ds p.2 h1) p h1 else .bad:=rfl
noncomputable def FW(K:PySem.W.Frag)(m:List Nat)(f:D->Fr->Hh->R (Fl×Fr))(src:Src)(r1:List Addr)(H1:Hp)(o:Fl×Fr)(h':Hh)(i k:Nat)(s3:L2.St)(H3:Hp):Prop:=
 k=src.1.length - i/\i<=src.1.length/\∃r3 bE h3,SR K m H3 r3 bE s3/\HR K H3 r3 h3/\Fm K r1 r3 H1 H3/\Ev.forL f src.2 (src.1.drop i) bE h3=.ok o h'
theorem CB{P:aR}{w:Nat}{t:T}{tb:Ss}{src:Src}{J:L2.It}{i k:Nat}{s3:L2.St}{H3:Hp}(hJ:oU K r1 H1 src J)(q:Fin K m r H h' fl ak Q)(f1:Fm K r r1 H H1)(hW:FW K m (ud P w t tb) src r1 H1 (fl,ak) h' i k s3 H3) :
  (J.stop i H3/\Q.nx s3 H3)\/(J.go i H3/\∃N:L2.St->Hp->Prop,(∀σ' H',N σ' H'->∃m',m'<k/\FW K m (ud P w t tb) src r1 H1 (fl,ak) h' (i+1) m' σ' H')/\∀x H',J.Er i H3 x H'->gJ K m t x s3 H' λσ2 H2=>Cv K m P w tb { Q with nx:=N,ct:=N,bk:=Q.nx } σ2 H2):=by
 obtain⟨rfl,hle,r3,bE,h3,EF,jh,f3,e3⟩:=hW;rcases Nat.lt_or_ge i src.1.length with hlt|hge
 .rw[List.drop_eq_getElem_cons hlt,rU]at e3;split at e3
  .rename_i hst;obtain⟨g1,g2⟩:=(hJ i H3 r3 h3 jh f3 hst).1 src.1[i] (List.getElem?_eq_getElem hlt);obtain⟨⟨ji,gA⟩,h4,e4,e3⟩:=Ev.ah e3;unfold ud at e4;split at e4
   .rename_i mU e5;exact .inr ⟨g1,FN K m ji gA h4 r1 H1,λs5 H5 ⟨hfl,r5,Aj,rV,f5⟩=>⟨_,Nat.sub_lt_sub_left hlt (Nat.lt_succ_self i),rfl,hlt,r5,gA,h4,Aj,rV,f5,GD e3 hfl⟩,λx H4 y=>
     let ⟨r4,v4,Qx,f4⟩:=g2 x H4 y
     ⟨r4,bE,h3,_,mU,EF.mono f4,Qx,v4,e5,λs5 Aj=>⟨r4,mU,h3,ji,gA,h4,Aj,Qx,e4,Cz e3 q f1 (f3.trans f4)⟩⟩⟩
   .cases e4
  .cases e3
 .have hi:i=src.1.length:=Nat.le_antisymm hle hge;subst hi;rw[List.drop_length]at e3;unfold Ev.forL at e3;split at e3
  .rename_i hst;cases e3;exact .inl ⟨(hJ _ H3 r3 _ jh f3 hst).2 (Nat.le_refl _),q s3 H3 r3 EF jh (f1.trans f3)⟩
  .cases e3
end
theorem Kg{t:T}{it:Ev.It}{tb:Ss}{yb:List Stmt}(hi:JI G n sc N df m it tg xa)(hg:JG G n sc N df m t tg)(h1:kc G n sc N df m tb yb)(hs:∀(env:Env) x,foldedSetIterable xa env x=pure x:=by intro _ _;rfl) :
  JS G n sc N df m (.for t it tb) (.For tg xa yb [] pos):=λX g=>PS.of (IZ g.pass g.calm (hi X g) (hg X g) (h1 X g) (hs _)) λQ s H q=>by
 obtain⟨r,fr,h,fl,ak,h',sr,hr,e,q⟩:=q;rw[ue]at e;obtain⟨src,h2,e1,e⟩:=Ev.ah e;exact⟨r,fr,h,src,h2,sr,hr,e1,λJ H1 r1 hr1 f1 hJ=>⟨FW X.K m (ud (Ev.run G.F G.w n) G.w t tb) src r1 H1 (fl,ak) h',⟨src.1.length,rfl,Nat.zero_le _,r1,fr,h2,sr.mono f1,hr1,.refl,by rw[List.drop_zero];exact e⟩,λi k s3 H3 hW=>CB hJ q f1 hW⟩⟩
end
theorem getElem?_range'{k j i:Nat}(h:(List.range k)[j]?=some i):i=j:=by
 obtain⟨h1,h2⟩:=List.getElem?_eq_some_iff.mp h;simpa using h2.symm
theorem CC{K:PySem.W.Frag}{H:Hp}{r:List Addr}{ds:List D}{vs:List V}{N:List Str}{fn:Ev.Fn}(v1:aE K H r ds vs)(hN:vs.length<=N.length):SR K (List.range N.length) H r (Ev.eO fn ds) (L2.start N vs):=by
 refine⟨by unfold L2.start;simp;omega,λj i d e1 e2=>?_⟩;have e3:=getElem?_range' e1;subst e3;unfold Ev.eO at e2;by_cases hj:i<ds.length
 .rw[List.getElem?_append_left (by simpa using hj),List.getElem?_map]at e2;cases e4:ds[i]? with
  |none=>rw[e4]at e2;cases e2
  |some d'=>
   rw[e4]at e2;cases e2;obtain⟨v,q1,q2⟩:=v1.get e4;refine⟨v,?_,q2⟩;unfold L2.start;rw[List.getElem?_append_left (by have:=v1.length;simpa using (by omega:i<vs.length)),List.getElem?_map,q1];rfl
 .rw[List.getElem?_append_right (by simpa using Nat.not_lt.mp hj),List.getElem?_replicate]at e2;split at e2<;>cases e2
section
variable{P:Program}{w:World}{K:PySem.W.Frag}{mg:Str->Option Value}{base:Heap}{G:Tb}
noncomputable def sU(P:Program)(w:World)(K:PySem.W.Frag)(mg:Str->Option Value)(base:Heap)(G:Tb)(n:Nat):Prop:=∀(f:Nat) i,G.fi[f]?=some i->g8 P w K mg base m5 n i.addr i.fd i.ps (oB K G.F G.w n f)
structure Top(P:Program)(w:World)(K:PySem.W.Frag)(mg:Str->Option Value)(G:Tb):Prop where
 fn:∀(f:Nat) i,G.fi[f]?=some i->mg i.name=some (.ref i.addr)/\PySem.W.keepIn K (.ref i.addr)=true/\Binds K i.fd i.ps []
 bl:∀x∈G.bl,mg x=none
 cs:∀x d,(x,d)∈G.cs->∃v u,mg x=some u/\RelV v u/\wJ K d v
 dk:∀x kvs,(x,kvs)∈G.dk->∃a,mg x=some (.ref a)/\∀h:Heap,K.In h->StrTab P w h a (tabOf kvs)
theorem GF{f:Addr}{fd:FuncData}{ps:List Str}{k:Nat}:g8 P w K mg base m5 0 f fd ps (oB K G.F G.w 0 k):=by
 have no:∀vs H Q E,¬ oB K G.F G.w 0 k vs H Q E:=λvs H Q E h=>by
  obtain⟨r,h,ds,d,h',_,_,e,_⟩:=h;cases e
 exact⟨λvs H Q E h=>absurd h (no vs H Q E),λA outer s H args us vs Q E _ _ _ _ h=>absurd h (no vs H Q E)⟩
theorem cO{x qual:Str}{st:Stmt}{i:FI}{N:List Str}{n f:Nat}{fn:Ev.Fn}(T:Top P w K mg G)(A0:sU P w K mg base G n)(F:rO K x qual st i.addr i.fd)(S:bF N i.ps (aT st))(hf:G.F[f]?=some fn)(hp:i.ps.length=fn.np)
  (hb:kc G n (aT st) N true (List.range N.length) fn.body (gQ st)):g8 P w K mg base m5 (n+1) i.addr i.fd i.ps (oB K G.F G.w (n+1) f):=by
 have hlen:∀vs H Q E,oB K G.F G.w (n+1) f vs H Q E->vs.length=i.ps.length:=λvs H Q E h=>by
  obtain⟨r,h,ds,d,h',v1,_,e,_⟩:=h;simp only[Ev.run,hf]at e;split at e
  .rename_i z;rw[v1.length,z,hp]
  .cases e
 refine F.ok S hlen λcdv A outer s H vs Q E hr kM=>?_;have hl:=hlen vs H Q E kM;have hN:vs.length<=N.length:=by
  have:=congrArg List.length S.pre;rw[List.length_take]at this;omega
 have g:Good G n (aT st) N true (oO m5 P w K mg base N qual (aT st) i.addr cdv A outer s H E).rE:=
  ⟨rfl,rfl,rfl,λ_ _=>rfl,hr,rfl,λf i hi=>⟨(T.fn f i hi).1,(T.fn f i hi).2.1,(T.fn f i hi).2.2,A0 f i hi⟩,T.bl,T.cs,T.dk⟩
 refine⟨_,hb _ g,?_⟩;obtain⟨r,h,ds,d,h',v1,hr1,e,q⟩:=kM;simp only[Ev.run,hf]at e;split at e
 .unfold Ev.endOf at e;obtain⟨⟨fl,ak⟩,h2,e1,e⟩:=Ev.ah e;refine⟨r,Ev.eO fn ds,h,fl,ak,h2,CC v1 hN,hr1,e1,?_⟩;cases fl with
  |nx=>
   cases e;exact λs' H' r' _ hr' f'=>q _ H' r' rfl hr' f'
  |ret d'=>
   cases e;exact q
  |bk=>cases e
  |ct=>cases e
 .cases e
end
end Sm
set_option maxRecDepth 100000
namespace Sm
open PySem PySem.Spec PyProof.Rows L2 PySem.SeqAt
open Ev (D O Hh Fr R aR E Es Eo T S Ss Fl Src bQ bK TY BI ME)
theorem CD(kvs:List (Int×List Nat))(k:Int):((dP kvs).find? λkv=>decide (kv.1=(Sum.inl k:Key)))=(kvs.find? λp=>decide (p.1=k)).map λp=>(Sum.inl p.1,V.str (aN p.2)):=by
 induction kvs with
 |nil=>rfl
 |cons p kvs ih=>
  simp only[dP,List.map_cons,List.find?_cons]at ih ⊢;by_cases h:p.1=k
  .simp[h]
  .rw[decide_eq_false (by simpa using h),decide_eq_false h];exact ih
theorem GG(kvs:List (Int×List Nat))(k:Int):iO (dP kvs) (Sum.inl k:Key)=(Ev.b7 kvs k).map λs=>V.str (aN s):=by
 unfold iO Ev.b7;rw[CD,Option.map_map,Option.map_map];rfl
theorem wK(kvs:List (Int×List Nat))(k:Int)(s:List Nat):putK (dP kvs) (Sum.inl k:Key) (V.str (aN s))=dP (Ev.cI kvs k s):=by
 have ha:((dP kvs).any λkv=>decide (kv.1=(Sum.inl k:Key)))=(kvs.any λp=>decide (p.1=k)):=by
  unfold dP;rw[List.any_map];congr 1;funext p;simp
 unfold putK Ev.cI;rw[ha];split
 .unfold dP;rw[List.map_map,List.map_map];refine List.map_congr_left λp _=>?_;by_cases h:p.1=k<;>simp[h]
 .unfold dP;rw[List.map_append];rfl
theorem GH{kvs:List (Int×List Nat)}{k:Int}{s:List Nat}(h:Ev.b7 kvs k=some s):∃p∈kvs,p.2=s:=by
 unfold Ev.b7 at h;obtain⟨p,e,rfl⟩:=Option.map_eq_some_iff.mp h;exact⟨p,List.mem_of_find?_eq_some e,rfl⟩
theorem wL{kvs:List (Int×List Nat)}{k:Int}{s:List Nat}{p:Int×List Nat}(h:p∈Ev.cI kvs k s):p∈kvs\/p.2=s:=by
 unfold Ev.cI at h;split at h
 .obtain⟨q,hq,rfl⟩:=List.mem_map.mp h;split
  .exact .inr rfl
  .exact .inl hq
 .rcases List.mem_append.mp h with h|h
  .exact .inl h
  .rw[List.mem_singleton]at h;subst h;exact .inr rfl
section
variable{K:PySem.W.Frag}{H:Hp}{r:List Addr}{h:Hh}
theorem HR.ig{p:Addr}(hr:HR K H r h)(hp:H p=none):HR K (upd H p (.dK [])) (r++[p]) (h++[.dct []]) where
 len:=by simp[hr.len]
 ob:=λn ob e=>by
  by_cases hn:n<h.length
  .rw[List.getElem?_append_left hn]at e;obtain⟨a,e1,z⟩:=hr.ob n ob e;exact⟨a,(Fm.laid (K:=K) (o:=.dK []) hp).pre n a e1,z.mono (Fm.laid hp) (λ_ vs _ z=>by rw[aX (bz z hp)];exact z) (λ_ _ z=>by rw[aX (bz z hp)];exact z) (λ_ _ _ z=>by rw[aX (bz z hp)];exact z)⟩
  .have e2:=(List.getElem?_eq_some_iff.mp e).1;simp only[List.length_append,List.length_singleton]at e2;have e3:n=h.length:=by omega
   subst e3;simp at e;subst e;exact⟨p,by rw[<-hr.len];simp,eL,λq hq=>by cases hq⟩
 inj:=λn m a x y e1 e2 e3 e4=>by
  have out:∀(k:Nat) z,(h++[O.dct []])[k]?=some (.lst z)->(r++[p])[k]?=some a->r[k]?=some a/\h[k]?=some (.lst z):=λk z q1 q2=>by
   by_cases hk:k<h.length
   .rw[List.getElem?_append_left hk]at q1;rw[List.getElem?_append_left (by rw[hr.len];exact hk)]at q2;exact⟨q2,q1⟩
   .have e5:=(List.getElem?_eq_some_iff.mp q1).1;simp only[List.length_append,List.length_singleton]at e5;have e6:k=h.length:=by omega
    subst e6;simp at q1
  exact hr.inj n m a x y (out n x e3 e1).1 (out m y e4 e2).1 (out n x e3 e1).2 (out m y e4 e2).2
 j9:=λn m a x y e1 e2 e3 e4=>by
  have out:∀(k:Nat) z,(h++[O.dct []])[k]?=some (.dct z)->(r++[p])[k]?=some a->(r[k]?=some a/\h[k]?=some (.dct z)/\a≠p)\/(k=h.length/\a=p):=λk z q1 q2=>by
   by_cases hk:k<h.length
   .rw[List.getElem?_append_left hk]at q1;rw[List.getElem?_append_left (by rw[hr.len];exact hk)]at q2;obtain⟨b,e5,e6,_⟩:=hr.dct q1;rw[q2]at e5;cases e5;exact .inl ⟨q2,q1,bz e6 hp⟩
   .have e5:=(List.getElem?_eq_some_iff.mp q1).1;simp only[List.length_append,List.length_singleton]at e5;have e6:k=r.length:=by rw[hr.len];omega
    subst e6;simp at q2;exact .inr ⟨hr.len,q2.symm⟩
  rcases out n x e3 e1 with ⟨h2,h3,h4⟩|⟨h1,h2⟩
  .rcases out m y e4 e2 with ⟨k2,k3,k4⟩|⟨k1,k2⟩
   .exact hr.j9 n m a x y h2 k2 h3 k3
   .exact absurd k2 h4
  .rcases out m y e4 e2 with ⟨k2,k3,k4⟩|⟨k1,k2⟩
   .exact absurd h2 k4
   .rw[h1,k1]
theorem Fm.dput{a:Addr}{vs ws:List (Key×V)}(ha:H a=some (.dK vs))(hm:a∈r):Fm K r r H (upd H a (.dK ws)) where
 pre:=λn b e=>e
 new:=λb e=>.inl e
 keep:=λb ob e n=>by rw[aX (λz=>n (by rw[z];exact hm))];exact e
 tups:=λb us e=>by
  rcases e with (e|⟨ob,e⟩)|e
  .exact .inl (.inl (by rw[aX (gZ e ha (by intro z;cases z))];exact e))
  .exact .inl (.inr ⟨ob,by rw[aX (gZ e ha (by intro z;cases z))];exact e⟩)
  .exact .inr e
theorem HR.dput{n:Nat}{a:Addr}{ds es:List (Int×List Nat)}(hr:HR K H r h)(hn:h[n]?=some (.dct ds))(t9:r[n]?=some a)(ha:H a=some (.dK (dP ds)))(q:∀p∈es,p.2.length<=sizeLine) :
  HR K (upd H a (.dK (dP es))) r (h.set n (.dct es)) where
 len:=by simp[hr.len]
 ob:=λm ob e=>by
  have f:=Fm.dput (K:=K) (ws:=dP es) ha (List.mem_of_getElem? t9);by_cases hm:m=n
  .subst hm;rw[List.getElem?_set_self (List.getElem?_eq_some_iff.mp hn).1]at e;cases e;exact⟨a,t9,eL,q⟩
  .rw[List.getElem?_set_ne (λz=>hm z.symm)]at e;obtain⟨b,e1,z⟩:=hr.ob m ob e;refine⟨b,e1,z.mono f (λ_ us _ z2=>by rw[aX (gZ z2 ha (by intro z;cases z))];exact z2) (λUw us z2=>by rw[aX (gZ z2 ha (by intro z;cases z))];exact z2) (λkvs us z3 z2=>?_)⟩;by_cases hb:b=a
   .subst hb;subst z3;exact absurd (hr.j9 m n b kvs ds e1 t9 e hn) hm
   .rw[aX hb];exact z2
 inj:=λk m b x y e1 e2 e3 e4=>by
  have back:∀(j:Nat) z,(h.set n (O.dct es))[j]?=some (.lst z)->h[j]?=some (.lst z):=λj z w=>by
   by_cases hj:j=n
   .subst hj;rw[List.getElem?_set_self (List.getElem?_eq_some_iff.mp hn).1]at w;cases w
   .rw[List.getElem?_set_ne (λz=>hj z.symm)]at w;exact w
  exact hr.inj k m b x y e1 e2 (back k x e3) (back m y e4)
 j9:=λk m b x y e1 e2 e3 e4=>by
  have back:∀(j:Nat) z,(h.set n (O.dct es))[j]?=some (.dct z)->∃z',h[j]?=some (.dct z'):=λj z w=>by
   by_cases hj:j=n
   .subst hj;exact⟨ds,hn⟩
   .rw[List.getElem?_set_ne (λz=>hj z.symm)]at w;exact⟨z,w⟩
  obtain⟨x',e5⟩:=back k x e3;obtain⟨y',e6⟩:=back m y e4;exact hr.j9 k m b x' y' e1 e2 e5 e6
end
theorem uf{h:Hh}{x:D}{kvs:List (Int×List Nat)}(e:Ev.fE h x=some kvs):∃n,x=.ref n/\h[n]?=some (.dct kvs):=by
 cases x with
 |ref n=>
  simp only[Ev.fE]at e;split at e
  .rename_i k z;cases e;exact⟨n,rfl,z⟩
  .cases e
 |_=>cases e
theorem GI{h h0:Hh}{x y z d:D}(e:Ev.t7 x y z h h0=some d):∃n EG kvs k,x=.ref n/\h0[n]?=some (.dct EG)/\h[n]?=some (.dct kvs)/\y=.int k/\d=(match Ev.b7 kvs k with|some s=>.str s|none=>z):=by
 unfold Ev.t7 at e;cases hx:Ev.fE h0 x with
 |none=>rw[hx]at e;cases e
 |some EG=>
  rw[hx]at e;obtain⟨n,rfl,w⟩:=uf hx;cases hy:Ev.fE h (.ref n)with
  |none=>rw[hy]at e;cases e
  |some kvs=>
   rw[hy]at e;obtain⟨n',en,w'⟩:=uf hy;cases en;cases y with
   |int k=>cases e;exact⟨n,EG,kvs,k,rfl,w,w',rfl,rfl⟩
   |_=>cases e
theorem CF{h h':Hh}{x y z:D}(e:Ev.sR x y z h=some h'):∃n kvs k s,x=.ref n/\y=.int k/\z=.str s/\h[n]?=some (.dct kvs)/\kvs.length<Ev.big/\h'=h.set n (.dct (Ev.cI kvs k s)):=by
 unfold Ev.sR at e;cases x with
 |ref n=>
  cases y with
  |int k=>
   cases z with
   |str s=>
    simp only at e;cases hn:h[n]? with
    |none=>rw[hn]at e;cases e
    |some o=>
     rw[hn]at e;cases o with
     |dct kvs=>
      simp only at e;by_cases hl:kvs.length<Ev.big
      .rw[if_pos hl]at e;cases e;exact⟨n,kvs,k,s,rfl,rfl,rfl,hn,hl,rfl⟩
      .rw[if_neg hl]at e;cases e
     |_=>cases e
   |_=>cases e
  |_=>cases e
 |_=>cases e
section
variable{G:Tb}{n:Nat}{sc:Scope}{N:List Str}{df:Bool}{m:List Nat}{a b c:E}{xa xb xc:Expr}{pos:Pos}
theorem GJ:JE G n sc N df m .ig (.Dict [] [] pos):=λX g=>PE.of Cq λs H Q q=>by
 obtain⟨r,fr,h,d,h',sr,hr,e,q⟩:=q;simp only[Ev.ev]at e;cases e;intro p hp;exact q _ _ (r++[p]) ⟨p,rfl,by rw[<-hr.len];simp⟩ (hr.ig hp) (Fm.laid hp)
theorem Kh {apos:Pos}(ha:JE G n sc N df m a xa) (hb:JE G n sc N df m b xb) (hc:JE G n sc N df m c xc) (hM:∀X:Cx,M2 X xa "get" apos xb xc pos:=by intro X;exact⟨rfl,rfl,rfl,rfl⟩):JE G n sc N df m (.mF a b c) (.Call (.Attribute xa "get" apos) [xb,xc] [] pos):=λX g=>PE.of (Cr (Ez g.room) (ha X g) (hb X g) (hc X g) (hM X)) λs H Q q=>by
 obtain⟨r,fr,h,d,h',sr,hr,e,q⟩:=q;simp only[Ev.ev]at e;obtain⟨x,h1,e1,e⟩:=Ev.ah e;obtain⟨y,h2,e2,e⟩:=Ev.ah e;obtain⟨z,h3,e3,e⟩:=Ev.ah e;obtain⟨e,rfl⟩:=Ev.aD e;obtain⟨i,EG,kvs,k,rfl,y0,y1,rfl,rfl⟩:=GI e;refine⟨r,fr,h,.ref i,h1,sr,hr,e1,λv H1 r1 v1 hr1 f1=>?_⟩;obtain⟨p0,w1,w2,w3⟩:=hr1.dct y0;obtain⟨p,rfl,z4⟩:=id v1;rw[w1]at z4;cases z4;refine⟨p0,rfl,.inl ⟨_,.inl w2⟩,r1,fr,h1,.int k,h2,sr.mono f1,hr1,e2,λu H2 r2 v2 hr2 f2=>?_⟩;refine⟨r2,fr,h2,z,_,(sr.mono f1).mono f2,hr2,e3,λt H3 r3 v3 jh f3=>?_⟩;obtain⟨p1,x1,x2,x3⟩:=jh.dct y1;have x4:=f3.pre _ _ (f2.pre _ _ w1);rw[x1]at x4;cases x4;cases v2;have g:=tY.k (k:=Sum.inl k) x2;rw[GG]at g;refine⟨_,g,?_⟩;cases ev:Ev.b7 kvs k with
 |none=>rw[ev]at q;exact q _ H3 r3 v3 jh ((f1.trans f2).trans f3)
 |some s2=>
  rw[ev]at q;obtain⟨q0,UB,rfl⟩:=GH ev;exact q _ H3 r3 ⟨rfl,x3 q0 UB⟩ jh ((f1.trans f2).trans f3)
theorem GK{tp:Pos}(ho:JE G n sc N df m a xa)(hi:JE G n sc N df m b xb)(hv:JE G n sc N df m c xc)
  (hs:∀env:Env,swapsWith xc (some (.Subscript xa xb tp)) pos.line env=pure false:=by intro _;rfl):JS G n sc N df m (.dput a b c) (.Assign [.Subscript xa xb tp] xc pos):=λX g=>PS.of (Gq (Ez g.room) (ho X g) (hi X g) (hv X g) (hs _)) λQ s H q=>by
 obtain⟨r,fr,h,fl,ak,h',sr,hr,e,q⟩:=q;simp only[Ev.ex]at e;obtain⟨x,h2,e1,e⟩:=Ev.ah e;obtain⟨y,h3,e2,e⟩:=Ev.ah e;obtain⟨z,h4,e3,e⟩:=Ev.ah e;refine⟨r,fr,h,x,h2,sr,hr,e1,λv H1 r1 v1 hr1 f1=>?_⟩;refine⟨r1,fr,h2,y,h3,sr.mono f1,hr1,e2,λu H2 r2 v2 hr2 f2=>?_⟩;refine⟨r2,fr,h3,z,h4,(sr.mono f1).mono f2,hr2,e3,λt H3 r3 v3 jh f3=>?_⟩;split at e
 .rename_i h5 e5;cases e;obtain⟨i,kvs,k,w,rfl,rfl,rfl,z5,hl,rfl⟩:=CF e5;obtain⟨p1,x1,x2,x3⟩:=jh.dct z5;obtain⟨p,rfl,x4⟩:=v2.mono f3;rw[x1]at x4;cases x4;cases v3;obtain⟨rfl,lw⟩:=(v1.mono f2).mono f3;have lk:(dP kvs).length<sizeLine:=by unfold dP;rw[List.length_map];exact hl
  have g:=tZ.k (k:=Sum.inl k) (v:=V.str (aN w)) x2 lk;rw[wK]at g;refine⟨p1,_,rfl,g,?_⟩;have fp:=Fm.dput (K:=X.K) (ws:=dP (Ev.cI kvs k w)) x2 (List.mem_of_getElem? x1);exact q _ _ r3 ((((sr.mono f1).mono f2).mono f3).mono fp) (jh.dput z5 x1 x2 λp hp=>(wL hp).elim (x3 p) λz=>by rw[z];exact lw) (((f1.trans f2).trans f3).trans fp)
 .cases e
end
end Sm
set_option maxRecDepth 100000
namespace L2
open PySem PySem.Spec PyProof.Rows
theorem N8{X:Cx}{pins:List (Addr×Obj)}{σ:St}{H:Hp}{s:Shared}{A:Around}{E:Value->Shared->Prop}{a b:Addr}{kvs more:List (Key×V)}{Q:Value->Shared->Prop}(I:Inv X pins σ H s)(ea:H a=some (.dK kvs))(eb:H b=some (.dK more))(ne:a≠b)(hz:kvs.length+more.length<=sizeLine)
  (h:∀s',Inv X pins σ (upd H a (.dK (jQ kvs more))) s'->Q .none s'):wpAny (model X.prog X.w) A (call (.builtin "dict.update") [.ref a,.ref b]) Q E s:=by
 obtain⟨z,hd,vs,rel,dd⟩:=yp I.hok ea;obtain⟨z2,hd2,wN,Kl,dd2⟩:=yp I.hok eb;refine call_meetsIn PySem.F.slot_dict_update dd.typeIs PySem.F.entry_dict_update (PySem.F.args_dict_update_2 _ _) (meets_dict_update (cR X.prog X.w) a b ne hd2) ⟨vs,wN,dd,dd2,by rw[<-rel.length,<-Kl.length];exact hz,λh' t6 _ hs=>h _ ?_⟩;have he:∃q,h'.get? a=some q:=let ⟨q,_,_,hq,_⟩:=t6;⟨q,hq⟩;exact qD (t':=s.toks) I (by rw[ea];exact True.intro) hs he (Ab (Nat.le_trans (mD _ _) hz) hd (Kl.merge rel) t6)
noncomputable def N9(td ty:TE):TE:=λσ H Q=>td σ H λx H1=>∃a,x=.ref a/\Jz H1 a/\ty σ H1 λy H2=>∃b kvs more,y=.ref b/\a≠b/\H2 a=some (.dK kvs)/\H2 b=some (.dK more)/\kvs.length+more.length<=sizeLine/\Q .aH (upd H2 a (.dK (jQ kvs more)))
theorem GL {X:Cx}{o e:Expr}{apos cpos:Pos}{td ty:TE}(ho:PE X o td) (he:PE X e ty) (m:M1 X o "update" apos e cpos):PE X (.Call (.Attribute o "update" apos) [e] [] cpos) (N9 td ty):=by
 intro pins s σ H Q I h;refine wpAny_Call_method m.base m.few m.line PySem.F.plainAttrs_dict PySem.F.slot_dict_update PySem.F.type_dict_update (bJ (ho pins s σ H _ I h) λu s1 ⟨x,H1,I1,rx,a,ex,d,q1⟩=>?_);subst ex;obtain rfl:u=Value.ref a:=rx;obtain⟨t1,t2,_⟩:=Ad I1 d;refine⟨t1,t2,?_⟩;rw[m.trees];refine Calls.callWith_builtin rfl (Calls.evalArgs_plain (Calls.spliced_cons (bJ (he pins s1 σ H1 _ I1 q1) λiv s2 ⟨y,H2,I2,ry,b,kvs,more,ey,ne,ea,eb,hz,q2⟩=>Calls.spliced_nil ?_)));subst ey;obtain rfl:iv=Value.ref b:=ry;exact N8 I2 ea eb ne hz λs3 I3=>⟨.aH,_,I3,rfl,q2⟩
end L2
namespace Sm
open PySem PySem.Spec PyProof.Rows L2 PySem.SeqAt
open Ev (D O Hh Fr R aR E Es Eo T S Ss Fl Src bQ bK TY BI ME)
theorem rW:∀(m k:List (Int×List Nat)),jQ (dP k) (dP m)=dP (Ev.cg k m)
 |[],k=>rfl
 |p :: m,k=>by
  show jQ (putK (dP k) (Sum.inl p.1) (V.str (aN p.2))) (dP m)=_;rw[wK];exact rW m _
theorem rX:∀{m k:List (Int×List Nat)}{p:Int×List Nat},p∈Ev.cg k m->p∈k\/∃q∈m,q.2=p.2
 |[],k,p,h=>.inl h
 |q :: m,k,p,h=>by
  have h:p∈Ev.cg (Ev.cI k q.1 q.2) m:=h;rcases rX h with h|⟨q',h1,h2⟩
  .rcases wL h with h|h
   .exact .inl h
   .exact .inr ⟨q,.head _,h.symm⟩
  .exact .inr ⟨q',.tail _ h1,h2⟩
theorem CG{h h' h0:Hh}{x y:D}(e:Ev.sS x y h h0=some h'):∃n m k0 k j,x=.ref n/\y=.ref m/\h0[n]?=some (.dct k0)/\h[n]?=some (.dct k)/\h[m]?=some (.dct j)/\n≠m/\k.length+j.length<=Ev.big/\h'=h.set n (.dct (Ev.cg k j)):=by
 unfold Ev.sS at e;split at e
 .rename_i n m;split at e
  .rename_i k0 k j e0 e1 e2;split at e
   .rename_i hc;cases e;refine⟨n,m,k0,k,j,rfl,rfl,?_,e1,e2,hc.1,hc.2,rfl⟩;simp only[Ev.fE]at e0;split at e0
    .rename_i z;cases e0;exact z
    .cases e0
   .cases e
  .cases e
 .cases e
section
variable{G:Tb}{n:Nat}{sc:Scope}{N:List Str}{df:Bool}{m:List Nat}{a b c:E}{xa xb xc:Expr}{pos:Pos}
theorem GN {apos p2:Pos}(ha:JE G n sc N df m a xa) (hb:JE G n sc N df m b xb) (hM:∀X:Cx,M1 X xa "update" apos xb p2:=by intro X;exact⟨rfl,rfl,rfl,rfl⟩)
  (hs:∀env:Env,swapsWith (.Call (.Attribute xa "update" apos) [xb] [] p2) none pos.line env=pure false:=by intro _;rfl):JS G n sc N df m (.oS a b) (.Expr (.Call (.Attribute xa "update" apos) [xb] [] p2) pos):=λX g=>PS.of (wk (GL (ha X g) (hb X g) (hM X)) (hs _)) λQ s H q=>by
 obtain⟨r,fr,h,fl,ak,h',sr,hr,e,q⟩:=q;simp only[Ev.ex,Ev.t8]at e;obtain⟨x,h1,e1,e⟩:=Ev.ah e;obtain⟨y,h2,e2,e⟩:=Ev.ah e;split at e
 .rename_i h3 e3;cases e;obtain⟨i,j,k0,k,l,rfl,rfl,y0,y1,y2,ne,hl,rfl⟩:=CG e3;refine⟨r,fr,h,.ref i,h1,sr,hr,e1,λv H1 r1 v1 hr1 f1=>?_⟩;obtain⟨p0,w1,w2,w3⟩:=hr1.dct y0;obtain⟨p,rfl,z4⟩:=id v1;rw[w1]at z4;cases z4;refine⟨p0,rfl,.inl ⟨_,.inl w2⟩,r1,fr,h1,.ref j,h2,sr.mono f1,hr1,e2,λu H2 r2 v2 hr2 f2=>?_⟩;obtain⟨p1,x1,x2,x3⟩:=hr2.dct y1;have x4:=f2.pre _ _ w1;rw[x1]at x4;cases x4;obtain⟨p3,x5,x6,x7⟩:=hr2.dct y2;obtain⟨p4,rfl,z5⟩:=id v2;rw[x5]at z5;cases z5;have UC:p0≠p3:=λz=>ne (by subst z;exact hr2.j9 i j p0 k l x1 x5 y1 y2);refine⟨p3,_,_,rfl,UC,x2,x6,?_,?_⟩
  .unfold dP;rw[List.length_map,List.length_map,<-gz];exact hl
  rw[rW];have fp:=Fm.dput (K:=X.K) (ws:=dP (Ev.cg k l)) x2 (List.mem_of_getElem? x1);exact q _ _ r2 (((sr.mono f1).mono f2).mono fp) (hr2.dput y1 x1 x2 λp hp=>(rX hp).elim (x3 p) λ⟨q,hq,z⟩=>by rw[<-z];exact x7 q hq) ((f1.trans f2).trans fp)
 .cases e
theorem CH{P:aR}{w i x y f:Nat}{ss:Ss}{fr:Fr}{h:Hh}:Ev.exs P w (.cons (.jy i x y f) ss) fr h=Ev.exs P w (.cons (.set i .ig) (.cons (.for (.one x) (.seq (.v y)) (.cons (.oS (.v i) (.cl f (.cons (.v x) .nil))) .nil)) ss)) fr h:=by
 conv=>lhs;rw[Ev.exs,Ev.ex]
 conv=>rhs;rw[Ev.exs,Ev.ex,Ev.ev]
 simp only[Ev.ao];rw[Ev.exs,Ev.ex]
 congr 2
 funext s h1
 congr 1
 funext d av h2
 cases Ev.br (.one x) d av with
 |none=>rfl
 |some bE=>
  simp only[Ev.exs,Ev.ex];cases Ev.t8 P (.v i) (.cl f (.cons (.v x) .nil)) bE h2 with
  |bad=>rfl
  |ok p h3=>
   obtain⟨g,q⟩:=p;cases g<;>rfl
theorem CJ{i x y f:Nat}{ss:Ss}{s1 s2:Stmt}{xs:List Stmt}(h:kc G n sc N df m (.cons (.set i .ig) (.cons (.for (.one x) (.seq (.v y)) (.cons (.oS (.v i) (.cl f (.cons (.v x) .nil))) .nil)) ss)) (s1 :: s2 :: xs)):kc G n sc N df m (.cons (.jy i x y f) ss) (s1 :: s2 :: xs):=λX g=>iM.of (h X g) λQ s H q=>by
 obtain⟨r,fr,h,fl,ak,h',sr,hr,e,q⟩:=q;rw[CH]at e;exact⟨r,fr,h,fl,ak,h',sr,hr,e,q⟩
end
end Sm
set_option maxRecDepth 100000
namespace Sm
open PySem PySem.Spec PyProof.Rows L2
open Ev (D O Hh Fr R aR E Es Eo T S Ss Fl Src bQ bK TY BI ME)
theorem qG(env:Env):∀(names:List (Str×NameKind)) (acc:List (Str×Addr)),(∀x,(x,NameKind.free)∈names->∃c,env.cells.lookup x=some c)->(∀x c,acc.lookup x=some c->env.cells.lookup x=some c)->
  ∃cl,(forIn names acc (λ(x:Str×NameKind) cs=>if (x.2==NameKind.free)=true then (do let c <-cellOf env x.1;pure (ForInStep.yield ((x.1,c) :: cs)))else pure (ForInStep.yield cs)):Sem (List (Str×Addr)))=pure cl/\
   (∀x c,cl.lookup x=some c->env.cells.lookup x=some c)/\(∀x,(x,NameKind.free)∈names->(cl.lookup x).isSome=true)/\(∀x,(acc.lookup x).isSome=true->(cl.lookup x).isSome=true)
 |[],acc,_,h2=>⟨acc,rfl,h2,(λx h=>by simp at h),λ_ h=>h⟩
 | (y,k) :: r,acc,h1,h2=>by
  by_cases hk:k=.free
  .subst hk;obtain⟨c,hc⟩:=h1 y (List.mem_cons_self ..);have h2':∀x c',((y,c) :: acc).lookup x=some c'->env.cells.lookup x=some c':=λx c' e=>by
    rw[List.lookup_cons]at e;split at e
    .rename_i hx;have hx':x=y:=by simpa using hx
     cases e;rw[hx'];exact hc
    .exact h2 x c' e
   obtain⟨cl,e1,e2,e3,e4⟩:=qG env r ((y,c) :: acc) (λx hx=>h1 x (List.mem_cons_of_mem _ hx)) h2';refine⟨cl,?_,e2,λx hx=>?_,λx hx=>e4 x ?_⟩
   .rw[List.forIn_cons];simp only[beq_self_eq_true,if_true];unfold cellOf;rw[hc];exact e1
   .rcases List.mem_cons.mp hx with z|z
    .cases z;exact e4 y (by simp[List.lookup_cons])
    .exact e3 x z
   .rw[List.lookup_cons];split
    .rfl
    .exact hx
  .have hk':(k==NameKind.free)=false:=by simpa using hk
   obtain⟨cl,e1,e2,e3,e4⟩:=qG env r acc (λx hx=>h1 x (List.mem_cons_of_mem _ hx)) h2;refine⟨cl,?_,e2,λx hx=>?_,e4⟩
   .rw[List.forIn_cons];simp only[hk',Bool.false_eq_true,if_false];exact e1
   .rcases List.mem_cons.mp hx with z|z
    .cases z;exact absurd rfl hk
    .exact e3 x z
theorem GO{scope:Scope}{env:Env}(h:∀x,(x,NameKind.free)∈scope.names->∃c,env.cells.lookup x=some c) :
  ∃cl,closureFor scope env=pure cl/\(∀x c,cl.lookup x=some c->env.cells.lookup x=some c)/\∀x,(x,NameKind.free)∈scope.names->∃c,cl.lookup x=some c:=by
 obtain⟨cl,e1,e2,e3,_⟩:=qG env scope.names [] h (λx c e=>by simp at e);refine⟨cl,?_,e2,λx hx=>Option.isSome_iff_exists.mp (e3 x hx)⟩;unfold closureFor;show(forIn scope.names [] _ >>= λcs=>pure cs:Sem (List (Str×Addr)))=pure cl;have e:(forIn scope.names [] (λ(x:Str×NameKind) cs=>if (x.2==NameKind.free)=true then (do let c <-cellOf env x.1;pure (ForInStep.yield ((x.1,c) :: cs)))else pure (ForInStep.yield cs)):Sem (List (Str×Addr)))=pure cl:=e1;exact congrArg (λt:Sem (List (Str×Addr))=>t >>= λcs=>pure cs) e
noncomputable def eU(sc scope:Scope):Scope:={ scope with names:=scope.names.map λ(n,k)=>if (k==.free&&sc.kind==.function&&sc.names.lookup n==some .cell)then (n,.cell)else (n,k)}
theorem qH{env:Env}{sc scope:Scope}(h:env.scope=sc):relabel scope env=eU sc scope:=by
 subst h;rfl
theorem rY{sc:Scope}:∀{names:List (Str×NameKind)}{x:Str},(∀y∈names,y.2≠.cell)->
  ((names.map λ(n,k)=>if (k==NameKind.free&&sc.kind==.function&&sc.names.lookup n==some .cell)then (n,NameKind.cell)else (n,k)).lookup x=some .cell\/
   (names.map λ(n,k)=>if (k==NameKind.free&&sc.kind==.function&&sc.names.lookup n==some .cell)then (n,NameKind.cell)else (n,k)).lookup x=some .free)->(x,NameKind.free)∈names
 |[],_,_,h=>by rcases h with h|h<;>simp at h
 | (n,k) :: r,x,hc,h=>by
  have ih:=@rY sc r x λy hy=>hc y (List.mem_cons_of_mem _ hy);simp only[List.map_cons]at h;have nk:∀(k':NameKind),(if (k==NameKind.free&&sc.kind==.function&&sc.names.lookup n==some .cell)then (n,NameKind.cell)else (n,k))=(n,k')->k'=.cell\/k'=.free->k=.free:=λk' e hk'=>by
   split at e
   .rename_i z;simp only[Bool.and_eq_true,beq_iff_eq]at z;exact z.1.1
   .cases e;rcases hk' with z|z
    .exact absurd z (hc (n,_) (List.mem_cons_self ..))
    .exact z
  generalize hg:(if (k==NameKind.free&&sc.kind==.function&&sc.names.lookup n==some .cell)then (n,NameKind.cell)else (n,k))=p at h nk
  have hp:p.1=n:=by rw[<-hg];split<;>rfl
  obtain⟨p1,p2⟩:=p;simp only at hp;subst hp;simp only[List.lookup_cons]at h;cases hx:(x==p1)with
  |true=>
   have hx':x=p1:=by simpa using hx
   rw[hx]at h;have:=nk p2 rfl (by rcases h with h|h<;>simp at h<;>simp[h]);subst this;rw[hx'];exact List.mem_cons_self ..
  |false=>
   rw[hx]at h;exact List.mem_cons_of_mem _ (ih h)
section
variable{prog:Program}{w:World}{A:Around}{R':Result->Shared->Prop}{s:Shared}
abbrev gR:Value->Shared->Prop:=λ_ _=>False
noncomputable def wO(ifs:List Expr)(env:Env):Sem Bool:=forIn ifs true λc r=>if r=true then do let ok <-isTrue c env (eval c env);pure (ForInStep.yield ok)else pure (ForInStep.yield r)
theorem ug{elt target iter:Expr}{ifs:List Expr}{scope:Scope}{pos:Pos}{it acc:Value}{env:Env}(I:Nat->Shared->Prop)
  (turn:∀n s,I n s->wpAny (model prog w) A (pyNext it) (λr s₁=>match r with
   |none=>R' (.ok .next) s₁
   |some v=>wpAny (model prog w) A (letOwnedTupleGo target it v) (λ_ s₂=>wpAny (model prog w) A (assign target env v) (λ_ s₃=>
     wpAny (model prog w) A (wO ifs env) (λok s₄=>
      if ok=true then wpAny (model prog w) A (eval elt env) (λx s₅=>
       wpAny (model prog w) A (call (.builtin "list.append") [acc,x]) (λ_ s₆=>∃m,m<n/\I m s₆) gR s₅) gR s₄
      else ∃m,m<n/\I m s₄) gR s₃) gR s₂) gR s₁) gR s)
  (n:Nat) (h:I n s):codeAny (model prog w) A (.compLoop (.ListComp elt [⟨target,iter,ifs,0⟩] scope pos) 0 it acc env) R' s:=by
 refine codeAny_loop rfl I (λn s hI=>?_) n h;show wpAny _ A ((compTurn (.ListComp elt [⟨target,iter,ifs,0⟩] scope pos) 0 it acc env).onRaise (λx=>do noteFrame x env;theTreesLotGoes x)) _ _ s;refine wpAny_noted ?_;rw[compTurn_list];refine wpAny_bind (wpAny_standAt (wpAny_bind (wpAny_mono (turn n s hI) (λr s₁ h₁=>?_) λ_ _ h'=>h'.elim)));cases r with
 |none=>exact wpAny_pure h₁
 |some v=>
  refine wpAny_bind (wpAny_mono h₁ (λ_ s₂ h₂=>?_) λ_ _ h'=>h'.elim);refine wpAny_bind (wpAny_mono h₂ (λ_ s₃ h₃=>wpAny_bind (wpAny_mono h₃ (λok s₄ h₄=>?_) λ_ _ h'=>h'.elim)) λ_ _ h'=>h'.elim);cases ok with
  |false=>exact wpAny_pure ⟨rfl,h₄⟩
  |true=>
   exact wpAny_bind (wpAny_bind (wpAny_mono h₄ (λx s₅ h₅=>wpAny_bind (wpAny_mono h₅ (λ_ s₆ h₆=>wpAny_pure (wpAny_pure ⟨rfl,h₆⟩)) λ_ _ h'=>h'.elim)) λ_ _ h'=>h'.elim))
end
inductive Qy(K:PySem.W.Frag)(m:List Nat)(P:aR)(e:Eo)(s:L2.St)(H:Hp)(Q:Bool->Hp->Prop):Prop
 |mk (r:List Addr) (fr:Fr) (h:Hh) (k:Bool) (h':Hh) (c0:SR K m H r fr s) (c1:HR K H r h) (c2:Ev.ir P e fr h=.ok k h') (c3:∀H' r',HR K H' r' h'->Fm K r r' H H'->Q k H'):Qy K m P e s H Q
noncomputable def JC(G:Tb)(n:Nat)(sc:Scope)(N:List Str)(df:Bool)(m:List Nat)(e:Eo)(ifs:List Expr):Prop:=∀X,Good G n sc N df X->∀(pins:List (Addr×Obj)) (s:Shared) (σ:L2.St) (H:Hp) (Q:Bool->Hp->Prop),Inv X pins σ H s->
 Qy X.K m (Ev.run G.F G.w n) e σ H Q->wpAny (model X.prog X.w) X.A (wO ifs X.env) (TP X pins σ Q) X.xe s
section
variable{G:Tb}{n:Nat}{sc:Scope}{N:List Str}{df:Bool}{m:List Nat}{a b c:E}{xa xb xc tg:Expr}{pos:Pos}
theorem Oa:JC G n sc N df m .no []:=λX g pins s σ H Q I q=>by
 obtain⟨r,fr,h,k,h',sr,hr,e,q⟩:=q;simp only[Ev.ir]at e;cases e;exact wpAny_pure ⟨H,I,q H r hr .refl⟩
theorem Km(hc:JT G n sc N df m a xa):JC G n sc N df m (.yes a) [xa]:=λX g pins s σ H Q I q=>by
 obtain⟨r,fr,h,k,h',sr,hr,e,q⟩:=q;simp only[Ev.ir]at e;exact wpAny_tests_one (hc X g pins s σ H Q I ⟨r,fr,h,k,h',sr,hr,e,q⟩)
end
noncomputable def pK(X:Cx)(N':List Str)(scope:Scope)(cl:List (Str×Addr))(C:Addr)(s3:Shared)(H3:Hp)(fp:List Addr):Cx:=
 { X with N:=N',s₀:=s3,H₀:=H3,env:=compEnvC scope cl C X.env,outer:=X.stack,stack:=X.stack,ex:=fp,fn:=λ_=>false,pn:=[],xe:=λ_ _=>False }
noncomputable def namesOk(sc:Scope)(N:List Str)(m:List Nat)(scope:Scope)(t:T)(N':List Str)(m':List Nat):Prop:=m'.length=N'.length/\
 ∀(j:Nat) x i,N'[j]?=some x->m'[j]?=some i->i∈Ev.slots t\/((x,NameKind.free)∈scope.names/\∃jo:Nat,N[jo]?=some x/\m[jo]?=some i)
noncomputable def pL(sc:Scope)(N:List Str)(m:List Nat)(scope:Scope)(t:T)(N':List Str)(m':List Nat):Bool:=m'.length==N'.length&&
 (List.range N'.length).all λj=>match N'[j]?,m'[j]? with
  |some x,some i=>(Ev.slots t).contains i || (scope.names.contains (x,NameKind.free)&&(List.range N.length).any λjo=>N[jo]?==some x&&m[jo]?==some i)
  |_,_=>true
theorem namesOk.of{sc:Scope}{N:List Str}{m:List Nat}{scope:Scope}{t:T}{N':List Str}{m':List Nat}(h:pL sc N m scope t N' m'=true):namesOk sc N m scope t N' m':=by
 unfold pL at h;rw[Bool.and_eq_true]at h;refine⟨by simpa using h.1,λj x i e1 e2=>?_⟩;have hj:j<N'.length:=(List.getElem?_eq_some_iff.mp e1).1;have q:=List.all_eq_true.mp h.2 j (List.mem_range.mpr hj);rw[e1,e2]at q;simp only[Bool.or_eq_true,Bool.and_eq_true,List.any_eq_true]at q;rcases q with q|⟨q1,jo,_,q2⟩
 .exact .inl (by simpa using q)
 .exact .inr ⟨by simpa using q1,jo,by simpa using q2.1,by simpa using q2.2⟩
theorem vD{t:T}{d:D}{fr av:Fr}(e:Ev.br t d fr=some av){i:Nat}(hi:i∉Ev.slots t):av[i]?=fr[i]?:=by
 have go:∀(l:List Nat) (ds:List D) (fr av:Fr),Ev.cK l ds fr=some av->i∉l->av[i]?=fr[i]?:=by
  intro l;induction l with
  |nil=>
   intro ds fr av e _;cases ds with
   |nil=>cases e;rfl
   |cons _ _=>cases e
  |cons j l ih=>
   intro ds fr av e hj;cases ds with
   |nil=>cases e
   |cons d ds=>
    rw[ih ds _ _ e λz=>hj (List.mem_cons_of_mem _ z),List.getElem?_set_ne];intro z;exact hj (by rw[z];exact List.mem_cons_self ..)
 cases t with
 |one j=>
  cases e;rw[List.getElem?_set_ne];intro z;exact hi (by simp[Ev.slots,z])
 |many l=>
  cases d with
  |tup ds=>exact go l ds fr av e hi
  |_=>cases e
theorem SR.unbind{K:PySem.W.Frag}{m:List Nat}{H:Hp}{r:List Addr}{t:T}{d:D}{fr av:Fr}{s:L2.St}(sr:SR K m H r av s)(e:Ev.br t d fr=some av)(hu:Ev.undef t fr=true):SR K m H r fr s:=by
 refine⟨sr.len,λj i d' e1 e2=>sr.sl j i d' e1 ?_⟩;rw[vD e]
 .exact e2
 .intro hi;have q:=List.all_eq_true.mp hu i hi;rw[e2]at q;cases q
end Sm
set_option maxRecDepth 100000
namespace Sm
open PySem PySem.Spec PyProof.Rows L2
open Ev (D O Hh Fr R aR E Es Eo T S Ss Fl Src bQ bK TY BI ME)
structure kE(sc scope:Scope):Prop where
 kind:scope.kind=.function
 Ak:∀y∈scope.names,y.2≠.cell
 free:∀x,(x,NameKind.free)∈scope.names->(sc.names.lookup x=some .cell\/sc.names.lookup x=some .free)/\scope.names.lookup x=some .free
 loc:∀y∈scope.names,y.2=.local->scope.names.lookup y.1=some .local
noncomputable def EH(sc scope:Scope):Bool:=scope.kind==.function&&scope.names.all λy=>y.2 != .cell&&(y.2 != .free || ((sc.names.lookup y.1==some .cell ||sc.names.lookup y.1==some .free)&&scope.names.lookup y.1==some .free))&&(y.2 != .local ||scope.names.lookup y.1==some .local)
theorem kE.of{sc scope:Scope}(h:EH sc scope=true):kE sc scope:=by
 unfold EH at h;rw[Bool.and_eq_true]at h;have q:∀y∈scope.names,y.2≠.cell/\(y.2=.free->(sc.names.lookup y.1=some .cell\/sc.names.lookup y.1=some .free)/\scope.names.lookup y.1=some .free)/\(y.2=.local->scope.names.lookup y.1=some .local):=λy hy=>by
  have z:=List.all_eq_true.mp h.2 y hy;simp only[Bool.and_eq_true,Bool.or_eq_true,bne_iff_ne,beq_iff_eq,ne_eq]at z;refine⟨z.1.1,λe=>?_,λe=>?_⟩
  .rcases z.1.2 with w|w
   .exact absurd e w
   .exact w
  .rcases z.2 with w|w
   .exact absurd e w
   .exact w
 exact⟨by simpa using h.1,λy hy=>(q y hy).1,λx hx=>(q _ hx).2.1 rfl,λy hy=>(q y hy).2.2⟩
theorem rZ{sc:Scope}:∀{names:List (Str×NameKind)}{x:Str},names.lookup x=some .free->
  ((names.map λ(n,k)=>if (k==NameKind.free&&sc.kind==.function&&sc.names.lookup n==some .cell)then (n,NameKind.cell)else (n,k)).lookup x=some .cell\/
   (names.map λ(n,k)=>if (k==NameKind.free&&sc.kind==.function&&sc.names.lookup n==some .cell)then (n,NameKind.cell)else (n,k)).lookup x=some .free)
 |[],_,h=>by simp at h
 | (n,k) :: r,x,h=>by
  have ih:=@rZ sc r x;simp only[List.map_cons];simp only[List.lookup_cons]at h;by_cases hc:(k==NameKind.free&&sc.kind==.function&&sc.names.lookup n==some .cell)=true
  .rw[if_pos hc];simp only[List.lookup_cons];cases hx:(x==n)with
   |true=>exact .inl rfl
   |false=>rw[hx]at h;exact ih h
  .rw[if_neg hc];simp only[List.lookup_cons];cases hx:(x==n)with
   |true=>rw[hx]at h;exact .inr h
   |false=>rw[hx]at h;exact ih h
section
variable{G:Tb}{n:Nat}{sc scope:Scope}{N N':List Str}{df:Bool}{m m':List Nat}{elt:E}{t:T}{it:Ev.It}{cond:Eo}{xe xi tg:Expr}{ifs:List Expr}{pos:Pos}{X:Cx}
theorem Good.comp(g:Good G n sc N df X){cl:List (Str×Addr)}{C:Addr}{s3:Shared}{H3:Hp}{fp:List Addr}:Good G n (eU sc scope) N' false (pK X N' scope cl C s3 H3 fp):=
 ⟨rfl,qH g.sc,g.calm,(λh=>by cases h),g.room,rfl,g.fn,g.bl,g.cs,g.dk⟩
theorem GP{pins:List (Addr×Obj)}{σ:L2.St}{H3:Hp}{s3:Shared}(g:Good G n sc N df X)(I:Inv X pins σ H3 s3)(hs:kE sc scope){cl:List (Str×Addr)}(iy:∀x c,cl.lookup x=some c->X.env.cells.lookup x=some c)
  (kF:∀x,(x,NameKind.free)∈scope.names->∃c,cl.lookup x=some c) {fp:List Addr} (hfp:∀b∈fp,gr X pins H3 b) (hfl:∀b∈fp,b<s3.heap.objs.size):(pK X N' scope cl s3.heap.objs.size s3 H3 fp).Ok where
 mod:=I.ok.mod
 kind:=hs.kind
 glob:=I.ok.glob
 blt:=I.ok.blt
 above:=Nat.le_refl _
 inj:=λx y c h1 h2=>I.ok.inj x y c (iy x c h1) (iy y c h2)
 has:=λx h=>by
  have h':(eU sc scope).names.lookup x=some .cell\/(eU sc scope).names.lookup x=some .free:=by
   rw[<-qH (scope:=scope) g.sc];exact h
  exact kF x (rY hs.Ak h')
 wc:=λx c h=>by cases h
 hd:=I.ok.hd
 frames:=I.ok.frames
 stk:=.inl rfl
 Ek:=λb hb=>⟨Nat.ne_of_lt (hfl b hb),λx c e=>(hfp b hb).2.2.2.2.1 x c (iy x c e)⟩
 bs:=I.bs
 rC:=Nat.le_trans I.ok.rC I.sz
 qv:=λb o e hb=>by
  rcases(hfp b hb).2.2.2.1 with z|z
  .exact I.ok.qv b o e z
  .have:=Heap.lt_size (I.ok.bs b o e).1;exact absurd (Nat.lt_of_lt_of_le this z) (Nat.lt_irrefl _)
 qw:=λb hb z=>by
  rcases List.mem_cons.mp (I.tM b z)with q|q
  .exact(hfp b hb).2.1 q
  .exact(hfp b hb).2.2.1 q
 jt:=I.stack
 tK:=I.we
open Classical in
noncomputable def sig(scope:Scope)(N N':List Str)(m':List Nat)(K:PySem.W.Frag)(H:Hp)(r:List Addr)(fr:Fr)(σ:L2.St):L2.St:=
 (List.range N'.length).map λj=>if h:∃v,∃x i,N'[j]?=some x/\m'[j]?=some i/\(x,NameKind.free)∈scope.names/\(∃jo:Nat,N[jo]?=some x/\σ[jo]?=some (some v))/\∀d,fr[i]?=some (some d)->RV K H r d v then some h.choose else none
theorem Kn{K:PySem.W.Frag}{H:Hp}{r:List Addr}{fr:Fr}{σ:L2.St}{j:Nat}{v:V}(h:(sig scope N N' m' K H r fr σ)[j]?=some (some v)) :
  ∃x i,N'[j]?=some x/\m'[j]?=some i/\(x,NameKind.free)∈scope.names/\(∃jo:Nat,N[jo]?=some x/\σ[jo]?=some (some v))/\∀d,fr[i]?=some (some d)->RV K H r d v:=by
 unfold sig at h;rw[List.getElem?_map]at h;cases e:(List.range N'.length)[j]? with
 |none=>rw[e]at h;cases h
 |some j'=>
  have:=getElem?_range' e;subst this;rw[e]at h;simp only[Option.map_some,Option.some.injEq]at h;split at h
  .rename_i hh;cases h;exact hh.choose_spec
  .cases h
theorem Ko{K:PySem.W.Frag}{H:Hp}{r:List Addr}{fr:Fr}{σ:L2.St}(sr:SR K m H r fr σ)(hn:namesOk sc N m scope t N' m')(hu:Ev.undef t fr=true):SR K m' H r fr (sig scope N N' m' K H r fr σ):=by
 refine⟨by unfold sig;simp[hn.1],λj i d e1 e2=>?_⟩;have hj:j<N'.length:=by rw[<-hn.1];exact(List.getElem?_eq_some_iff.mp e1).1
 have hx:N'[j]?=some N'[j]:=List.getElem?_eq_getElem hj;rcases hn.2 j _ i hx e1 with hi|⟨h1,jo,h2,h3⟩
 .exfalso;have q:=List.all_eq_true.mp hu i hi;rw[e2]at q;cases q
 .obtain⟨v,h4,h5⟩:=sr.sl jo i d h3 e2;have ex:∃v,∃x i,N'[j]?=some x/\m'[j]?=some i/\(x,NameKind.free)∈scope.names/\(∃jo:Nat,N[jo]?=some x/\σ[jo]?=some (some v))/\∀d,fr[i]?=some (some d)->RV K H r d v:=
   ⟨v,N'[j],i,hx,e1,h1,⟨jo,h2,h4⟩,λd' e'=>by rw[e2]at e';cases e';exact h5⟩
  refine⟨ex.choose,?_,?_⟩
  .unfold sig;rw[List.getElem?_map,List.getElem?_range hj];simp only[Option.map_some];rw[dif_pos ex]
  .obtain⟨x',i',q1,q2,q3,q4,q5⟩:=ex.choose_spec;rw[e1]at q2;cases q2;exact q5 d e2
theorem CK{pins:List (Addr×Obj)}{σ:L2.St}{H3:Hp}{s3:Shared}(g:Good G n sc N df X)(I:Inv X pins σ H3 s3)(hs:kE sc scope){cl:List (Str×Addr)}(iy:∀x c,cl.lookup x=some c->X.env.cells.lookup x=some c)
  (kF:∀x,(x,NameKind.free)∈scope.names->∃c,cl.lookup x=some c) {fp:List Addr} (hfp:∀b∈fp,gr X pins H3 b) (hfl:∀b∈fp,b<s3.heap.objs.size) {h1:Heap} {tk:Nat} {mm:Str->Option Value}
  (hns:h1.Ns s3.heap.objs.size mm) (hk:∀b o,s3.heap.get? b=some o->h1.get? b=some o) {r:List Addr} {fr:Fr} :
  Inv (pK X N' scope cl s3.heap.objs.size s3 H3 fp) [] (sig scope N N' m' X.K H3 r fr σ) H3 { s3 with heap:=h1,toks:=tk }:=by
 refine⟨GP g I hs iy kF hfp hfl,rfl,I.bare,Un.kept hk,⟨mm,hns,λj x v e1 e2 e3=>?_⟩,λx c e=>?_,I.hok.fresh (Nat.le_refl _),λx c e=>I.iW x c (iy x c e),(λp hp=>by simp[pK]at hp),I.hok.kept hk,(by unfold sig;simp[pK])⟩
 .obtain⟨x',i,q1,q2,q3,⟨jo,q4,q5⟩,_⟩:=Kn e2;have UD:N'[j]?=some x:=e1;rw[UD]at q1;cases q1;obtain⟨f1,f2⟩:=hs.free x q3;obtain⟨mO,VU,UE⟩:=I.loc;obtain⟨u,ru,lk⟩:=UE jo x v (by rw[g.nm];exact q4) q5 (by rw[g.sc];rcases f1 with z|z<;>simp[zG,z]);refine⟨u,ru,?_⟩;have hkd:X.env.kindOf x=some .cell\/X.env.kindOf x=some .free:=by unfold Env.kindOf;rw[g.sc];exact f1
  rcases lk with ⟨z,_⟩|⟨_,c,hc,hcell⟩
  .rcases hkd with w|w <;> (rw[z]at w;cases w)
  .obtain⟨c',hc'⟩:=kF x q3;have:c'=c:=by
    have:=iy x c' hc';rw[hc]at this;cases this;rfl
   subst this;refine .inr ⟨?_,c',hc',?_⟩
   .show(relabel scope X.env).names.lookup x=some .cell\/(relabel scope X.env).names.lookup x=some .free;rw[qH (scope:=scope) g.sc];exact rZ f2
   .obtain⟨o,ho,hd⟩:=hcell;exact⟨o,hk _ _ ho,hd⟩
 .obtain⟨v,o,ho,hd⟩:=I.cell x c (iy x c e);exact⟨v,o,hk _ _ ho,hd⟩
end
end Sm
set_option maxRecDepth 100000
namespace Sm
open PySem PySem.Spec PyProof.Rows L2
open Ev (D O Hh Fr R aR E Es Eo T S Ss Fl Src bQ bK TY BI ME)
section
variable{G:Tb}{n:Nat}{sc scope:Scope}{N N':List Str}{df:Bool}{m m':List Nat}{elt:E}{t:T}{it:Ev.It}{cond:Eo}{xe xi tg:Expr}{ifs:List Expr}{pos:Pos}{X:Cx}
noncomputable def yC(P:aR)(elt:E)(t:T)(cond:Eo)(fr:Fr):D->Hh->R (Option D):=λd h2=>match Ev.br t d fr with
 |none=>.bad
 |some av=>(Ev.ir P cond av h2).bind λk h3=>if k then (Ev.ev P elt av h3).bind λx h4=>.ok (some x) h4 else .ok none h3
theorem qI(P:aR)(elt:E)(t:T)(it:Ev.It)(cond:Eo)(fr:Fr)(h:Hh):Ev.ev P (.comp elt t it cond) fr h=(Ev.cB P it fr h).bind λs h1=>if Ev.undef t fr then
  (Ev.cV (yC P elt t cond fr) s.2 s.1 h1).bind λds h2=>Ev.alloc ds h2 else .bad:=by
 simp only[Ev.ev];rfl
noncomputable def CI(Y:Cx)(m':List Nat)(f:D->Hh->R (Option D))(fr:Fr)(src:Src)(fp:List Addr)(tn:Nat->Heap->Prop)(r2:List Addr)(H2:Hp)(Dd:Addr)(ds:List D)(h2:Hh)(k:Nat)(s:Shared):Prop:=
 ∃i oE Hc rc hc dn vs rest,Inv Y [] oE Hc s/\tn i s.heap/\(∀b∈fp,Hc b=none)/\k=src.1.length - i/\i<=src.1.length/\
  SR Y.K m' Hc rc fr oE/\HR Y.K Hc rc hc/\Fm Y.K r2 rc H2 Hc/\Hc Dd=some (.lst vs)/\Dd∉rc/\aE Y.K Hc rc dn vs/\Ev.cV f src.2 (src.1.drop i) hc=.ok rest h2/\dn++rest=ds
section
variable{Y:Cx}{sc':Scope}{J:L2.It}{fp:List Addr}{ita:Addr}{tn:Nat->Heap->Prop}{fr:Fr}{src:Src}{r2:List Addr}{H2:Hp}{Dd:Addr}{ds:List D}{h2:Hh}
theorem yD(gC:Good G n sc' N' false Y){α:Type}{tt:Sem α}{Q:α->Shared->Prop}{s:Shared}(hw:wpAny (model Y.prog Y.w) Y.A tt Q Y.xe s):wpAny (model Y.prog Y.w) Y.A tt Q gR s:=by rw[gC.xe]at hw;exact hw
theorem wQ{i:Nat}{mG:L2.St}{H9:Hp}{r9:List Addr}{h9:Hh}{dn:List D}{vs:List V}{rest':List D}{s9:Shared}{p:List (Addr×Obj)}{f:D->Hh->R (Option D)}(hlt:i<src.1.length)(I9:Inv Y ([]++p) mG H9 s9)(bk:tn (i+1) s9.heap/\∀b∈fp,H9 b=none)(q:SR Y.K m' H9 r9 fr mG)(r8:HR Y.K H9 r9 h9)(fm:Fm Y.K r2 r9 H2 H9)(yE:H9 Dd=some (.lst vs))(yF:Dd∉r9)(rv:aE Y.K H9 r9 dn vs)(e7:Ev.cV f src.2 (src.1.drop (i+1)) h9=.ok rest' h2)(ed:dn++rest'=ds) :
  ∃k,k<src.1.length - i/\CI Y m' f fr src fp tn r2 H2 Dd ds h2 k s9:=
 ⟨src.1.length - (i+1),Nat.sub_lt_sub_left hlt (Nat.lt_succ_self i),i+1,mG,H9,r9,h9,dn,vs,rest',I9.lD,bk.1,bk.2,rfl,hlt,q,r8,fm,yE,yF,rv,e7,ed⟩
theorem Kp{i:Nat}{mG:L2.St}{H9:Hp}{r9:List Addr}{h9:Hh}{dn:List D}{vs:List V}{xd:D}{v10:V}{EI:Value}{rest':List D}{s9:Shared}{p:List (Addr×Obj)}{f:D->Hh->R (Option D)}(hlt:i<src.1.length)(mH:H2 Dd=none)(hsz:ds.length<=sizeLine)(gC:Good G n sc' N' false Y)(I9:Inv Y ([]++p) mG H9 s9)(CL:RelV v10 EI)(bk:∀{σ':L2.St}{H':Hp}{s':Shared},Inv Y ([]++p) σ' H' s'->tn (i+1) s'.heap/\∀b∈fp,H' b=none)(q:SR Y.K m' H9 r9 fr mG)(r8:HR Y.K H9 r9 h9)(fm:Fm Y.K r2 r9 H2 H9)(oF:H9 Dd=some (.lst vs))(uh:Dd∉r9)(rv:aE Y.K H9 r9 dn vs)(CM:RV Y.K H9 r9 xd v10)(e7:Ev.cV f src.2 (src.1.drop (i+1)) h9=.ok rest' h2)(ed:dn++xd :: rest'=ds) :
  wpAny (model Y.prog Y.w) Y.A (call (.builtin "list.append") [.ref Dd,EI]) (λ_ EJ=>∃k,k<src.1.length - i/\CI Y m' f fr src fp tn r2 H2 Dd ds h2 k EJ) gR s9:=by
 have hlen:vs.length<sizeLine:=by
  have h1:=rv.length;have h2:=congrArg List.length ed;simp at h2;omega
 refine bJ (yD gC (rM _ s9 mG H9 (.ref Dd) [v10] (.ref Dd) [EI] (λ_ Qz=>Qz=upd H9 Dd (.lst (vs++[v10]))) I9 rfl (.cons CL .nil) ⟨Dd,vs,v10,rfl,rfl,oF,hlen,rfl⟩)) λ_ EJ ⟨_,Qz,QA,_,Sg⟩=>?_;subst Sg;refine wQ (dn:=dn++[xd]) (vs:=vs++[v10]) hlt QA (bk QA) ?_ (r8.other oF uh) (fm.other mH oF) eL uh ?_ e7 ?_
 .exact⟨q.len,λj i' d' a1 a2=>by
   obtain⟨w,b1,b2⟩:=q.sl j i' d' a1 a2;exact⟨w,b1,b2.grow (λ_ _ z=>z) (iu oF)⟩⟩
 .exact(rv.append (.cons CM .nil)).grow (λ_ _ z=>z) (iu oF)
 .rw[<-ed];simp
theorem Am(gC:Good G n sc' N' false Y)(hg:JG G n sc' N' false m' t tg)(hc:JC G n sc' N' false m' cond ifs)(he:JE G n sc' N' false m' elt xe)(Tn:Turn Y.prog Y.w Y.K tg J fp ita tn)(lE:∀{Hc:Hp},(∀b∈fp,Hc b=none)->∀b∈fp,gr Y [] Hc b)
  (hu:Ev.undef t fr=true) (hJ:oU Y.K r2 H2 src J) (mH:H2 Dd=none) (hsz:ds.length<=sizeLine) {R':Result->Shared->Prop}
  (Sh:∀s6 oE Hc rc vs,Inv Y [] oE Hc s6->HR Y.K Hc rc h2->Fm Y.K r2 rc H2 Hc->Hc Dd=some (.lst vs)->Dd∉rc->aE Y.K Hc rc ds vs->R' (.ok .next) s6) {k:Nat} {s:Shared}
  (h:CI Y m' (yC (Ev.run G.F G.w n) elt t cond fr) fr src fp tn r2 H2 Dd ds h2 k s):codeAny (model Y.prog Y.w) Y.A (.compLoop (.ListComp xe [⟨tg,xi,ifs,0⟩] scope pos) 0 (.ref ita) (.ref Dd) Y.env) R' s:=by
 refine ug (CI Y m' (yC (Ev.run G.F G.w n) elt t cond fr) fr src fp tn r2 H2 Dd ds h2) ?_ k h;rintro k s5 ⟨i,oE,Hc,rc,hc',dn,vs,rest,I5,wo,mU,rfl,hle,Aj,rV,um,oF,uh,Ao,e5,EK⟩;rcases Nat.lt_or_ge i src.1.length with hlt|hge
 .rw[List.drop_eq_getElem_cons hlt]at e5;simp only[Ev.cV]at e5;split at e5
  .rename_i hst;obtain⟨hgo,_⟩:=hJ i Hc rc hc' rV um hst;obtain⟨g1,g2⟩:=hgo src.1[i] (List.getElem?_eq_getElem hlt);obtain⟨o,h6,e6,e5⟩:=Ev.ah e5;obtain⟨rest',h7,e7,e5⟩:=Ev.ah e5;cases e5;refine bJ (Tn.item Y rfl rfl rfl gC.calm i [] s5 oE Hc gR I5 (lE mU) wo g1) λrr s6 ⟨u,UG,h8⟩=>?_;subst UG;refine bJ h8 λ_ s7 ⟨x,H7,I7,rx,y7,Kq,QB⟩=>?_;obtain⟨r7,v7,QC,wR⟩:=g2 x H7 y7;obtain⟨Si,Sj⟩:=wR.fD oF uh;unfold yC at e6;split at e6
   .cases e6
   .rename_i av eb;obtain⟨kk,h9,e9,e6⟩:=Ev.ah e6;have UH:=I7.pinned (lE QB) (Tn.obj _ _ Kq);refine bJ (yD gC (hg _ gC _ s7 oE H7 x u (λmG H8=>H8=H7/\SR Y.K m' H7 r7 av mG) UH rx ⟨r7,fr,hc',_,av,Aj.mono wR,QC,v7,eb,λs' q=>⟨rfl,q⟩⟩)) λ_ s8 ⟨mG,H8,I8,UI,EL⟩=>?_;subst UI;refine bJ (yD gC (hc _ gC _ s8 mG _ (λb H9=>b=kk/\∃r9,HR Y.K H9 r9 h9/\Fm Y.K r7 r9 _ H9) I8 ⟨r7,av,hc',kk,h9,EL,QC,e9,λH9 r9 r8 f9=>⟨rfl,r9,r8,f9⟩⟩)) λbb s9 ⟨H9,I9,Jx,r9,r8,sd⟩=>?_;subst Jx;obtain⟨yF,yE⟩:=sd.fD Sj Si;have back:∀{σ':L2.St} {H':Hp} {s':Shared},Inv Y ([]++mT fp s7.heap) σ' H' s'->tn (i+1) s'.heap/\∀b∈fp,H' b=none:=λ{σ' H' s'} I'=>
     ⟨Tn.keep _ _ _ Kq λb hb o e=>(I'.pin (b,o) (List.mem_append_right _ (List.mem_append_right _ (jC hb e)))).1,λb hb=>
      let ⟨o,e,_⟩:=Tn.obj _ _ Kq b hb
      (I'.pin (b,o) (List.mem_append_right _ (List.mem_append_right _ (jC hb e)))).2.1⟩
    cases bb with
    |false=>
     simp only[Bool.false_eq_true,if_false]at e6 ⊢;cases e6;exact wQ hlt I9 (back I9) ((EL.mono sd).unbind eb hu) r8 ((um.trans wR).trans sd) yE yF ((Ao.mono wR).mono sd) e7 EK
    |true=>
     simp only[if_true]at e6 ⊢;obtain⟨xd,VV,UJ,e6⟩:=Ev.ah e6;cases e6;refine bJ (yD gC (he _ gC _ s9 mG H9 (λv Aq=>∃wU,RV Y.K Aq wU xd v/\HR Y.K Aq wU _/\Fm Y.K r9 wU H9 Aq) I9 ⟨r9,av,h9,xd,_,EL.mono sd,r8,UJ,λv Aq wU v10 CN Ar=>⟨wU,v10,CN,Ar⟩⟩)) λEI QD ⟨v10,Aq,UK,CL,wU,CM,CN,yG⟩=>?_;obtain⟨Ob,Oc⟩:=yG.fD yE yF;exact Kp hlt mH hsz gC UK CL back (((EL.mono sd).mono yG).unbind eb hu) CN (((um.trans wR).trans sd).trans yG) Oc Ob (((Ao.mono wR).mono sd).mono yG) CM e7 EK
  .cases e5
 .have hi':i=src.1.length:=Nat.le_antisymm hle hge;subst hi';rw[List.drop_length]at e5;simp only[Ev.cV]at e5;split at e5
  .rename_i hst;cases e5;refine bJ (Tn.done Y rfl rfl rfl gC.calm _ [] s5 oE Hc gR I5 (lE mU) wo ((hJ _ Hc rc _ rV um hst).2 (Nat.le_refl _))) λrr s6 ⟨hrr,I6⟩=>?_;subst hrr;rw[List.append_nil]at EK;subst EK;exact Sh s6 oE Hc rc vs I6 rV um oF uh Ao
  .cases e5
end
theorem sf(g:Good G n sc N df X)(hi:JI G n sc N df m it tg xi)(hg:JG G n (eU sc scope) N' false m' t tg)(hc:JC G n (eU sc scope) N' false m' cond ifs)(he:JE G n (eU sc scope) N' false m' elt xe)
  (hn:namesOk sc N m scope t N' m') (hs:kE sc scope) {cl:List (Str×Addr)} (iy:∀x c,cl.lookup x=some c->X.env.cells.lookup x=some c) (kF:∀x,(x,NameKind.free)∈scope.names->∃c,cl.lookup x=some c)
  {pins:List (Addr×Obj)} {σ:L2.St} {H:Hp} {s:Shared} (I:Inv X pins σ H s) {r:List Addr} {fr:Fr} {h:Hh} {d:D} {h':Hh} (sr:SR X.K m H r fr σ) (hr:HR X.K H r h)
  (e:Ev.ev (Ev.run G.F G.w n) (.comp elt t it cond) fr h=.ok d h') (post:Value->Addr->Result->Shared->Prop)
  (hpost:∀Dd C s' H' r',Inv X pins σ H' s'->(∃mm,s'.heap.Ns C mm)->gr X pins H' C->RV X.K H' r' d (.ref Dd)->HR X.K H' r' h'->Fm X.K r r' H H'->post (.ref Dd) C (.ok .next) s') {E:Value->Shared->Prop} (hE:X.xe=λ_ _=>False) :
  wpAny (model X.prog X.w) X.A (eval xi X.env) (λx s₁=>wpAny (model X.prog X.w) X.A (pyIter x) (λitv s₂=>wpAny (model X.prog X.w) X.A (newList []) (λacc s₃=>
   wpAny (model X.prog X.w) X.A (newFunctionEnv scope X.env.globals cl [] X.env.qual none .none (some X.env)) (λcenv s₄=>
    codeAny (model X.prog X.w) X.A (.compStart (.ListComp xe [⟨tg,xi,ifs,0⟩] scope pos) 0 itv acc { cenv with scope:=relabel scope X.env }) (post acc cenv.locals) s₄) E s₃) E s₂) E s₁) E s:=by
 rw[qI]at e;obtain⟨src,h1,e1,e⟩:=Ev.ah e;split at e
 .rename_i hu;obtain⟨ds,h2,e2,e⟩:=Ev.ah e;have rE:∀{α:Type} {tt:Sem α} {Q:α->Shared->Prop} {s:Shared},wpAny (model X.prog X.w) X.A tt Q X.xe s->wpAny (model X.prog X.w) X.A tt Q E s:=λ{α tt Q s} hw=>wpAny_mono hw (λ_ _ q=>q) λ_ _ q=>by rw[hE]at q;exact q.elim
  refine bJ (rE (hi X g pins s σ H (λJ H2=>∃r2,HR X.K H2 r2 h1/\Fm X.K r r2 H H2/\oU X.K r2 H2 src J) I ⟨r,fr,h,src,h1,sr,hr,e1,λJ H2 r2 hr2 f2 hJ=>⟨r2,hr2,f2,hJ⟩⟩)) λv s1 q1=>?_;refine bJ (rE q1) λitv s2 q2=>?_;obtain⟨ita,fp,tn,J,H2,rfl,I2,Tn,st2,f2,r2,hr2,EM,hJ⟩:=q2;refine wpAny_newObj_type ?_;generalize EN:s2.heap.objs.size=Dd
  have mH:H2 Dd=none:=by rw[<-EN];exact I2.fresh
  have I3:Inv X pins σ (upd H2 Dd (.lst [])) { s2 with heap:=s2.heap.push { cls:=.type "list",data:=.seq ([]:List Value).toArray }}:=by
   have:=I2.Cm (ys:=[]) (its:=[]) (t':=s2.toks) .nil (Nat.zero_le _);rw[EN]at this;exact this
  have Kr:∀b∈fp,b<s2.heap.objs.size:=λb hb=>by
   obtain⟨o,e,_⟩:=Tn.obj 0 _ st2 b hb;exact Heap.lt_size e
  generalize Ks:({ s2 with heap:=s2.heap.push { cls:=.type "list",data:=.seq ([]:List Value).toArray }}:Shared)=s3 at I3
  have Sk:s3.heap.objs.size=s2.heap.objs.size+1:=by rw[<-Ks];exact Heap.size_push ..
  have k3:∀b o,s2.heap.get? b=some o->s3.heap.get? b=some o:=λb o e=>by rw[<-Ks];exact Heap.get?_push_of_some _ e
  have Ku:∀b∈fp,b<s3.heap.objs.size:=λb hb=>Nat.lt_of_lt_of_le (Kr b hb) (by rw[Sk];exact Nat.le_succ _);have qJ:∀b∈fp,gr X pins (upd H2 Dd (.lst [])) b:=λb hb=>⟨by rw[aX (λz=>absurd (Kr b hb) (by rw[z,EN];exact Nat.lt_irrefl _))];exact(f2 b hb).1,(f2 b hb).2⟩
  refine wpAny_newFunctionEnv (hs.Ak) (λy hy=>by simp at hy) (λKv Sn So=>?_) hs.kind;have k4:∀b o,s3.heap.get? b=some o->Kv.get? b=some o:=λb o e=>So.extBut b o (Nat.ne_of_lt (Heap.lt_size e)) (Heap.get?_push_of_some _ e);have gC:Good G n (eU sc scope) N' false (pK X N' scope cl s3.heap.objs.size s3 (upd H2 Dd (.lst [])) fp):=g.comp;have I4:Inv (pK X N' scope cl s3.heap.objs.size s3 (upd H2 Dd (.lst [])) fp) [] (sig scope N N' m' X.K (upd H2 Dd (.lst [])) r2 fr σ) (upd H2 Dd (.lst [])) { s3 with heap:=Kv,toks:=s3.toks+0 }:=
   CK g I3 hs iy kF qJ Ku Sn k4
  have EF:SR X.K m' (upd H2 Dd (.lst [])) r2 fr (sig scope N N' m' X.K (upd H2 Dd (.lst [])) r2 fr σ):=Ko (((sr.mono EM).mono (Fm.tup mH))) hn hu;have jh:HR X.K (upd H2 Dd (.lst [])) r2 h1:=hr2.tup mH;have QE:Dd∉r2:=λhm=>by
   obtain⟨k,hk⟩:=List.getElem?_of_mem hm;have hlt:k<h1.length:=by rw[<-hr2.len];exact(List.getElem?_eq_some_iff.mp hk).1
   obtain⟨a,e3,e4⟩:=hr2.ob k _ (List.getElem?_eq_getElem hlt);rw[hk]at e3;cases e3;cases eo:h1[k]with
   |lst dd=>rw[eo]at e4;obtain⟨us,e5,_⟩:=e4;rw[mH]at e5;cases e5
   |bD dd=>
    rw[eo]at e4;obtain⟨us,e5,_⟩:=e4;rcases e5 with ⟨ob,e5⟩|⟨ob,_,_,e5,_⟩
    .rw[mH]at e5;cases e5
    .have:=Heap.lt_size (I2.gq _ _ e5);rw[EN]at this;exact absurd this (Nat.lt_irrefl _)
   |dct kvs=>rw[eo]at e4;have e5:=e4.1;rw[mH]at e5;cases e5
  have UL:H Dd=none:=by
   cases z:H Dd with
   |none=>rfl
   |some o=>
    have hnr:Dd∉r:=λhm=>by
     obtain⟨k,hk⟩:=List.getElem?_of_mem hm;exact QE (List.mem_of_getElem? (EM.pre _ _ hk))
    have:=EM.keep _ _ z hnr;rw[mH]at this;cases this
  have lE:∀{Hc:Hp},(∀b∈fp,Hc b=none)->∀b∈fp,gr (pK X N' scope cl s3.heap.objs.size s3 (upd H2 Dd (.lst [])) fp) [] Hc b:=λ{Hc} hz b hb=>by
   refine⟨hz b hb,Nat.ne_of_lt (Ku b hb),(I4.ok).qw b hb,.inl hb,λx c e=>((I4.ok).Ek b hb).2 x c e,λp hp=>?_⟩;simp[pK]at hp
  have hsz:ds.length<=sizeLine:=by
   unfold Ev.alloc at e;split at e
   .rename_i z;rw[<-gz];exact z
   .cases e
  have fin:codeAny (model X.prog X.w) X.A (.compLoop (.ListComp xe [⟨tg,xi,ifs,0⟩] scope pos) 0 (.ref ita) (.ref Dd) (compEnvC scope cl s3.heap.objs.size X.env)) (post (.ref Dd) s3.heap.objs.size) { s3 with heap:=Kv,toks:=s3.toks+0 }:=by
   refine Am gC hg hc he Tn lE hu hJ mH hsz (λs6 oE Hc rc vs I6 rV um oF uh Ao=>?_) ⟨0,_,_,r2,h1,[],[],ds,I4,Tn.keep _ _ _ st2 λb hb o eo=>k4 b o (k3 b o eo),λb hb=>(qJ b hb).1,rfl,Nat.zero_le _,EF,jh,Fm.tup mH,eL,QE,.nil,by rw[List.drop_zero];exact e2,rfl⟩;unfold Ev.alloc at e;split at e
   .cases e;obtain⟨UM,Sq,_⟩:=I6.loc;refine hpost Dd _ s6 Hc (rc++[Dd]) ?_ ⟨UM,Sq⟩ ?_ ⟨Dd,rfl,?_⟩ (rV.known oF uh Ao) ((EM.trans um).known ?_)
    .exact I3.NF (ch:=fp) (I6.os) I6.base I6.hok I6.bare λb hb=>⟨(qJ b hb).2.2.2.1,(qJ b hb).2.1,(qJ b hb).2.2.2.2.1,(qJ b hb).2.2.2.2.2⟩
    .exact I3.x8 (Nat.le_refl _) I6.free
    .rw[<-rV.len];simp
    .exact UL
   .cases e
  subst Ks;exact codeAny_compStart_list fin (Tn.self _ 0 _ _ _ (Tn.keep _ _ _ st2 λb hb o eo=>k4 b o (k3 b o eo)) fin)
 .cases e
end
end Sm
set_option maxRecDepth 100000
namespace Sm
open PySem PySem.Spec PyProof.Rows L2
open Ev (D O Hh Fr R aR E Es Eo T S Ss Fl Src bQ bK TY BI ME)
section
variable{G:Tb}{n:Nat}{sc scope:Scope}{N N':List Str}{df:Bool}{m m':List Nat}{elt:E}{t:T}{it:Ev.It}{cond:Eo}{xe xi tg:Expr}{ifs:List Expr}{pos:Pos}
theorem Good.cells{X:Cx}{pins:List (Addr×Obj)}{σ:L2.St}{H:Hp}{s:Shared}(g:Good G n sc N df X)(I:Inv X pins σ H s)(hs:kE sc scope) :
  ∃cl,closureFor scope X.env=pure cl/\(∀x c,cl.lookup x=some c->X.env.cells.lookup x=some c)/\∀x,(x,NameKind.free)∈scope.names->∃c,cl.lookup x=some c:=
 GO λx hx=>I.ok.has x (by unfold Env.kindOf;rw[g.sc];exact(hs.free x hx).1)
theorem As{X:Cx}{pins:List (Addr×Obj)}{σ:L2.St}{H:Hp}{s:Shared}(I:Inv X pins σ H s){C:Addr}(fp:gr X pins H C){h':Heap}(hs:Heap.SameBut C s.heap h'):Inv X pins σ H { s with heap:=h' }:=
 I.turned (t':=s.toks) (λb o hb e=>hs.extBut b o hb e) fp.1 fp.2.1 fp.2.2.2.1 fp.2.2.2.2.1 fp.2.2.2.2.2
theorem wV(hi:JI G n sc N df m it tg xi)(hg:JG G n (eU sc scope) N' false m' t tg)(hc:JC G n (eU sc scope) N' false m' cond ifs)(he:JE G n (eU sc scope) N' false m' elt xe)
  (hn:namesOk sc N m scope t N' m') (hs:kE sc scope) (hf:∀(env:Env) x,foldedSetIterable xi env x=pure x:=by intro _ _;rfl):JE G n sc N df m (.comp elt t it cond) (.ListComp xe [⟨tg,xi,ifs,0⟩] scope pos):=λX g pins s σ H Q I q=>by
 obtain⟨r,fr,h,d,h',sr,hr,e,q⟩:=q;obtain⟨cl,hcl,iy,kF⟩:=g.cells I hs;rw[eval_ListComp];refine wpAny_comprehension_free (use:=none) (Q:=EP X pins σ Q) rfl (hf _) hcl hs.kind hs.loc ?_;refine sf g hi hg hc he hn hs iy kF I sr hr e (λacc C=>compPost (model X.prog X.w) X.A X.xe none (EP X pins σ Q) acc C) (λDd C s' H' r' I' hC fp rv hr' EO=>?_) g.xe;obtain⟨mm,hC⟩:=hC;exact⟨mm,hC,λh'' Au=>⟨.ref Dd,H',As I' fp Au,rfl,q _ H' r' rv hr' EO⟩⟩
theorem GQ(j i:Nat){x:Str}{pos' cpos:Pos}(hm:m.Nodup)(hN:N.Nodup)(hi:JI G n sc N df m it tg xi)(hg:JG G n (eU sc scope) N' false m' t tg)(hc:JC G n (eU sc scope) N' false m' cond ifs)(he:JE G n (eU sc scope) N' false m' elt xe)
  (hn:namesOk sc N m scope t N' m') (hs:kE sc scope) (hj:m[j]?=some i:=by rfl) (rS:N[j]?=some x:=by rfl)
  (hl:sc.names.lookup x=some .local\/(df=true/\sc.names.lookup x=some .cell):=by first|exact Or.inl rfl|exact Or.inr ⟨rfl,rfl⟩) (hf:∀(env:Env) x,foldedSetIterable xi env x=pure x:=by intro _ _;rfl) :
  JS G n sc N df m (.set i (.comp elt t it cond)) (.Assign [.Name x pos'] (.ListComp xe [⟨tg,xi,ifs,0⟩] scope cpos) pos):=λX g=>by
 obtain⟨h1,h2⟩:=g.loc hl;have hsw:swapsWith (.ListComp xe [⟨tg,xi,ifs,0⟩] scope cpos) (some (.Name x pos')) pos.line X.env=pure (X.env.blockKind==.function&&X.env.kindOf x==some .local&&pos'.line==(Expr.ListComp xe [⟨tg,xi,ifs,0⟩] scope cpos).pos.line&&!(scope.names.any λ(n,k)=>n==x&&(k==.local ||k==.cell))):=rfl;generalize hb:(X.env.blockKind==.function&&X.env.kindOf x==some .local&&pos'.line==(Expr.ListComp xe [⟨tg,xi,ifs,0⟩] scope cpos).pos.line&&!(scope.names.any λ(n,k)=>n==x&&(k==.local ||k==.cell)))=b at hsw
 cases b with
 |false=>
  refine PS.of (zL (i:=j) (by rw[g.nm];exact hN) (by rw[g.nm];exact rS) h1 (wV hi hg hc he hn hs hf X g) hsw h2) λQ s H q=>?_;obtain⟨r,fr,h,fl,ak,h',sr,hr,e,q⟩:=q;simp only[Ev.ex]at e;obtain⟨d,h1,e1,e⟩:=Ev.ah e;cases e;exact⟨r,fr,h,d,_,sr,hr,e1,λv H1 r1 v1 hr1 f1=>q _ H1 r1 ((sr.mono f1).set hm hj v1) hr1 f1⟩
 |true=>
  have VW:X.env.kindOf x=some .local:=by
   simp only[Bool.and_eq_true,beq_iff_eq]at hb;exact hb.1.1.2
  intro pins s σ H Q I q;obtain⟨r,fr,h,fl,ak,h',sr,hr,e,q⟩:=q;simp only[Ev.ex]at e;obtain⟨d,h3,e1,e⟩:=Ev.ah e;cases e;obtain⟨cl,hcl,iy,kF⟩:=g.cells I hs;rw[exec_Assign_Name_used _ _ _ _ hsw];refine wpAny_bind (wpAny_standAt (wpAny_bind ?_));show wpAny _ X.A (do let _ <-comprehension (.ListComp xe [⟨tg,xi,ifs,0⟩] scope cpos) scope X.env _ (newList []) false (eval xi X.env) (some (assign (.Name x pos') X.env))) _ _ s;refine wpAny_bind (wpAny_mono (wpAny_comprehension_free (use:=some (assign (.Name x pos') X.env)) (Q:=λ_ s'=>SP X pins Q .next s') rfl (hf _) hcl hs.kind hs.loc ?_) (λ_ s' hq=>wpAny_pure (wpAny_pure hq)) λ_ _ e=>e);refine sf g hi hg hc he hn hs iy kF I sr hr e1 (λacc C=>compPost (model X.prog X.w) X.A X.xe (some (assign (.Name x pos') X.env)) (λ_ s'=>SP X pins Q .next s') acc C) (λDd C s' H' r' I' hC fp rv hr' EO=>?_) g.xe;obtain⟨mm,hC⟩:=hC;show wpAny _ X.A (assign (.Name x pos') X.env (.ref Dd)) _ _ s';refine wpAny_assign_Name (rD (v:=.ref Dd) I' (by rw[g.nm];exact hN) (i:=j) (by rw[g.nm];exact rS) h1 rfl (λs'' UN Au=>?_) h2);obtain⟨a,Au,ha⟩:=Au;have UO:C≠a:=by
   rcases ha with z|z
   .rw[z];exact fp.2.1
   .exact λw=>fp.2.2.2.2.1 x a z w.symm
  refine⟨mm,hC.sameBut Au UO,λh'' Su=>?_⟩;exact⟨_,H',As UN ⟨fp.1,fp.2⟩ Su,q _ H' r' ((sr.mono EO).set hm hj rv) hr' EO⟩
end
end Sm
set_option maxRecDepth 100000
namespace Sm
open PySem PySem.Spec PyProof.Rows L2 PySem.SeqAt
open Ev (D O Hh Fr R aR E Es Eo T S Ss Fl Src bQ bK TY BI ME)
structure uo(A:Around)(s:Shared)(u w:Value)(k:Bool):Prop where
 eq:EqAt A s u w k
 rc:RcAt A s u w k
 ne:RcNeAt A s u w (!k)
theorem qK{f:D->D->Option Bool}:∀{x y:List D},x.length≠y.length->∀{k},Ev.cD f x y=some k->k=false
 |[],[],h,_,_=>absurd rfl h
 |[],_ :: _,_,_,e=>by cases e;rfl
 |_ :: _,[],_,_,e=>by cases e;rfl
 |a :: x,b :: y,h,k,e=>by
  simp only[Ev.cD,Option.bind_eq_bind,Option.bind_eq_some_iff]at e;obtain⟨p,_,q,e2,e3⟩:=e;have:=qK (x:=x) (y:=y) (by simpa using h) e2;subst this;cases e3;simp
theorem wW{f:D->D->Option Bool}:∀{x y:List D}{k},Ev.cD f x y=some k->x.length=y.length->∃e:Nat->Bool,(∀(j:Nat) a b,x[j]?=some a->y[j]?=some b->f a b=some (e j))/\(List.range x.length).all e=k
 |[],[],_,h,_=>⟨λ_=>true,(λj a b h1=>by simp at h1),by cases h;simp⟩
 |[],_ :: _,_,_,h=>by simp at h
 |_ :: _,[],_,_,h=>by simp at h
 |a :: x,b :: y,k,h,hl=>by
  simp only[Ev.cD,Option.bind_eq_bind,Option.bind_eq_some_iff]at h;obtain⟨p,e1,q,e2,e3⟩:=h;cases e3;obtain⟨e,h1,h2⟩:=wW e2 (by simpa using hl);refine⟨λj=>match j with|0=>p|j+1=>e j,λj a' b' g1 g2=>?_,?_⟩
  .cases j with
   |zero=>simp at g1 g2;subst g1 g2;exact e1
   |succ j=>exact h1 j a' b' (by simpa using g1) (by simpa using g2)
  .rw[List.length_cons,List.range_succ_eq_map,List.all_cons,List.all_map,<-h2];rfl
theorem wX{f:D->D->Option Bool}:∀{x y:List D}{k},Ev.cD f x y=some k->∃e:Nat->Bool,∀(j:Nat) a b,x[j]?=some a->y[j]?=some b->f a b=some (e j)
 |[],_,_,_=>⟨λ_=>true,λj a b h1=>by simp at h1⟩
 |_ :: _,[],_,_=>⟨λ_=>true,λj a b _ h1=>by simp at h1⟩
 |a :: x,b :: y,k,h=>by
  simp only[Ev.cD,Option.bind_eq_bind,Option.bind_eq_some_iff]at h;obtain⟨p,e1,q,e2,e3⟩:=h;obtain⟨e,h1⟩:=wX e2;refine⟨λj=>match j with|0=>p|j+1=>e j,λj a' b' g1 g2=>?_⟩;cases j with
  |zero=>simp at g1 g2;subst g1 g2;exact e1
  |succ j=>exact h1 j a' b' (by simpa using g1) (by simpa using g2)
section
variable{X:Cx}{pins:List (Addr×Obj)}{σ:L2.St}{H:Hp}{s:Shared}{r:List Addr}{h:Hh}
theorem nR(I:Inv X pins σ H s){a b:Addr}{vs ws:List V}(h1:yx X.K H a vs)(h2:H b=some (.lst ws)):a≠b:=by
 rintro rfl;rcases h1 with ⟨o,h1⟩|⟨o,_,_,h1,_⟩
 .rw[h2]at h1;cases h1
 .have:=(I.bs a o (I.ok.mod.Ej a o h1)).2;rw[h2]at this;cases this
theorem sq{x y:List D}{vs ws:List V}{us zs:List Value}{f:D->D->Option Bool}{A:Around}{k:Bool}(v1:aE X.K H r x vs)(v2:aE X.K H r y ws)(p1:Vals vs us)(p2:Vals ws zs)
  (ih:∀a b va vb u w k,RV X.K H r a va->RV X.K H r b vb->RelV va u->RelV vb w->f a b=some k->uo A s u w k) (hl:x.length=y.length) (e:Ev.cD f x y=some k) :
  ∃e':Nat->Bool,(∀j (h1:j<us.toArray.size) (h2:j<zs.toArray.size),EqAt A s us.toArray[j] zs.toArray[j] (e' j))/\(List.range us.toArray.size).all e'=k/\us.length=zs.length:=by
 obtain⟨e',h1,h2⟩:=wW e hl;have l1:=v1.length;have l2:=v2.length;have l3:=p1.length;have l4:=p2.length;refine⟨e',λj g1 g2=>?_,?_,by omega⟩
 .have UP:j<us.length:=by simpa using g1
  have UQ:j<zs.length:=by simpa using g2
  have ha:x[j]?=some x[j]:=List.getElem?_eq_getElem (by omega);have hb:y[j]?=some y[j]:=List.getElem?_eq_getElem (by omega);obtain⟨va,a1,a2⟩:=v1.get ha;obtain⟨vb,b1,b2⟩:=v2.get hb;obtain⟨u,a3,a4⟩:=p1.get a1;obtain⟨w,b3,b4⟩:=p2.get b1;have eu:us.toArray[j]=u:=by
   have:=(List.getElem?_eq_some_iff.mp a3).2;simpa using this
  have ew:zs.toArray[j]=w:=by
   have:=(List.getElem?_eq_some_iff.mp b3).2;simpa using this
  rw[eu,ew];exact(ih _ _ _ _ _ _ _ a2 b2 a4 b4 (h1 j _ _ ha hb)).eq
 .rw[<-h2];have:us.toArray.size=x.length:=by simp;omega
  rw[this]
noncomputable def bW(K:PySem.W.Frag)(H:Hp)(r:List Addr):D->V->Prop
 |.aH,v=>v=.aH
 |.bl b,v=>v=.bl b
 |.int i,v=>v=.int i
 |.str l,v=>v=.str (aN l)
 |.ref n,v=>∃a,v=.ref a/\r[n]?=some a
 |.tup ds,v=>∃a vs,v=.ref a/\dH K H a vs/\aE K H r ds vs
theorem RV.shape{d:D}{v:V}(h:RV X.K H r d v):bW X.K H r d v:=by
 cases d<;>simp only[RV]at h<;>simp only[bW]<;>first|exact h|exact h.1
theorem GR{a b:List Nat}:(aN a==aN b)=(a==b):=by
 by_cases e:a=b
 .subst e;simp
 .have e1:(aN a==aN b)=false:=beq_eq_false_iff_ne.mpr λz=>e (qF z);have e2:(a==b)=false:=beq_eq_false_iff_ne.mpr e;rw[e1,e2]
theorem oW{n:Nat}{A:Around}{x y:List D}{a b:Addr}{vs ws:List V}{k:Bool}(I:Inv X pins σ H s)(hu:A.units<cLine)(q1:ef X.K H a vs)(q2:ef X.K H b ws)(v1:aE X.K H r x vs)(v2:aE X.K H r y ws)(hab:a≠b)
  (ih:∀a b va vb u w k,RV X.K H r a va->RV X.K H r b vb->RelV va u->RelV vb w->Ev.fM h n a b=some k->uo A.in1 s u w k) (e:Ev.cD (Ev.fM h n) x y=some k):uo A s (.ref a) (.ref b) k:=by
 obtain⟨us,p1,oG,_⟩:=I.list q1;obtain⟨zs,p2,oH,_⟩:=I.list q2;by_cases hl:x.length=y.length
 .obtain⟨e',h1,h2,h3⟩:=sq v1 v2 p1 p2 ih hl e;have hs:us.toArray.size=zs.toArray.size:=by simpa using h3
  have rc:=RcAt.lists oG.isList oH.isList hs hu h1;have ne:=RcNeAt.lists oG.isList oH.isList hs hu h1;rw[h2]at rc ne;exact⟨.of_refs hab rc,rc,ne⟩
 .have hk:=qK hl e;subst hk;have hs:(us.toArray.size != zs.toArray.size)=true:=by
   have l1:=v1.length;have l2:=v2.length;have l3:=p1.length;have l4:=p2.length;simp only[List.size_toArray,bne_iff_ne,ne_eq];omega
  exact⟨.of_refs hab (.lists_lengths oG.isList oH.isList hs hu),.lists_lengths oG.isList oH.isList hs hu,.lists_lengths oG.isList oH.isList hs hu⟩
theorem uq(I:Inv X pins σ H s)(hr:HR X.K H r h){n:Nat}{a:Addr}{ds:List D}(e:Ev.aZ h n=some ds)(ha:r[n]?=some a):∃us:List Value,PlainL s.heap a us.toArray:=by
 obtain⟨a',vs,e1,e2,e3⟩:=hr.read e;rw[ha]at e1;cases e1;obtain⟨us,_,pl,_⟩:=I.list e2;exact⟨us,pl⟩
theorem Av(I:Inv X pins σ H s)(hr:HR X.K H r h):∀(n:Nat) (a b:D) (v:V) (k:Bool),RV X.K H r a v->RV X.K H r b v->Ev.fM h n a b=some k->k=true:=by
 intro n;induction n with
 |zero=>intro a b v k _ _ e;cases e
 |succ n ih=>
  have items:∀(x y:List D) (vs:List V) (k:Bool),aE X.K H r x vs->aE X.K H r y vs->Ev.cD (Ev.fM h n) x y=some k->k=true:=by
   intro x;induction x with
   |nil=>
    intro y vs k h1 h2 e;simp only[aE]at h1;subst h1;cases y with
    |nil=>cases e;rfl
    |cons _ _=>simp only[aE]at h2;obtain⟨_,_,h2,_⟩:=h2;cases h2
   |cons d x UR=>
    intro y vs k h1 h2 e;simp only[aE]at h1;obtain⟨v,w,rfl,h3,h4⟩:=h1;cases y with
    |nil=>simp only[aE]at h2;cases h2
    |cons d' y=>
     simp only[aE]at h2;obtain⟨v',w',e2,h5,h6⟩:=h2;cases e2;simp only[Ev.cD,Option.bind_eq_bind,Option.bind_eq_some_iff]at e;obtain⟨p,e1,q,e2,e3⟩:=e;cases e3;rw[ih d d' v p h3 h5 e1,UR y w q h4 h6 e2];rfl
  have lt:∀(a:Addr) (vs:List V) (i:Nat) (ds:List D),dH X.K H a vs->r[i]?=some a->Ev.aZ h i=some ds->False:=λa vs i ds h1 h2 h3=>by
   obtain⟨us,pl⟩:=uq I hr h3 h2;obtain⟨zs,_,pt,_⟩:=I.tuple h1;exact ne_of_list_tuple pl.isList pt rfl
  intro a b v k h1 h2 e;have s1:=h1.shape;have s2:=h2.shape;clear h1 h2;cases a with
  |aH=>simp only[bW]at s1;cases b with
   |aH=>cases e;rfl
   |ref m=>obtain⟨p,z,_⟩:=s2;rw[s1]at z;cases z
   |tup y=>obtain⟨p,_,z,_⟩:=s2;rw[s1]at z;cases z
   |_=>simp only[bW]at s2;rw[s1]at s2;cases s2
  |bl x=>simp only[bW]at s1;cases b with
   |bl y=>simp only[bW]at s2;rw[s1]at s2;cases s2;cases e;simp
   |ref m=>obtain⟨p,z,_⟩:=s2;rw[s1]at z;cases z
   |tup y=>obtain⟨p,_,z,_⟩:=s2;rw[s1]at z;cases z
   |_=>simp only[bW]at s2;rw[s1]at s2;cases s2
  |int x=>simp only[bW]at s1;cases b with
   |int y=>simp only[bW]at s2;rw[s1]at s2;cases s2;cases e;simp
   |ref m=>obtain⟨p,z,_⟩:=s2;rw[s1]at z;cases z
   |tup y=>obtain⟨p,_,z,_⟩:=s2;rw[s1]at z;cases z
   |_=>simp only[bW]at s2;rw[s1]at s2;cases s2
  |str x=>simp only[bW]at s1;cases b with
   |str y=>
    simp only[bW]at s2;rw[s1]at s2;have:x=y:=qF (by injection s2);subst this;cases e;simp
   |ref m=>obtain⟨p,z,_⟩:=s2;rw[s1]at z;cases z
   |tup y=>obtain⟨p,_,z,_⟩:=s2;rw[s1]at z;cases z
   |_=>simp only[bW]at s2;rw[s1]at s2;cases s2
  |tup x=>
   obtain⟨p,vs,rfl,z,w⟩:=s1;cases b with
   |tup y=>
    obtain⟨p',vs',z',z2,w2⟩:=s2;cases z';rw[I.mS z2 z]at w2;exact items x y vs k w w2 e
   |ref m=>
    obtain⟨p',z',z2⟩:=s2;cases z';obtain⟨ds,e1,_⟩:=Option.map_eq_some_iff.mp e;exact(lt _ _ _ _ z z2 e1).elim
   |_=>cases s2
  |ref i=>
   obtain⟨p,rfl,z⟩:=s1;cases b with
   |ref m=>
    obtain⟨p',z',z2⟩:=s2;cases z';replace e:Ev.jS h (Ev.fM h n) i m=some k:=e;unfold Ev.jS at e;split at e
    .simp only[Option.map_eq_some_iff]at e;obtain⟨_,_,e⟩:=e;exact e.symm
    .rename_i hne;split at e
     .rename_i x y g1 g2;exact absurd (hr.inj _ _ _ _ _ z z2 g1 g2) hne
     .rename_i x y g1 g2;obtain⟨p1,q1,ER,q2,_⟩:=hr.ob _ _ g1;obtain⟨p2,q3,wN,q4,_⟩:=hr.ob _ _ g2;rw[z]at q1;cases q1;rw[z2]at q3;cases q3;exact absurd rfl (nR I q2 q4)
     .rename_i x y g1 g2;obtain⟨p1,q1,ER,q2,_⟩:=hr.ob _ _ g1;obtain⟨p2,q3,wN,q4,_⟩:=hr.ob _ _ g2;rw[z]at q1;cases q1;rw[z2]at q3;cases q3;exact absurd rfl (nR I q4 q2)
     .cases e
   |tup y=>
    obtain⟨p',vs',z',z2,w2⟩:=s2;cases z';obtain⟨ds,e1,_⟩:=Option.map_eq_some_iff.mp e;exact(lt _ _ _ _ z2 z e1).elim
   |_=>cases s2
theorem GS{n:Nat}{A:Around}{x y:List D}{a b:Addr}{vs ws:List V}{k:Bool}(I:Inv X pins σ H s)(hr:HR X.K H r h)(hu:A.units<cLine)(q1:dH X.K H a vs)(q2:dH X.K H b ws)(v1:aE X.K H r x vs)(v2:aE X.K H r y ws)
  (ih:∀a b va vb u w k,RV X.K H r a va->RV X.K H r b vb->RelV va u->RelV vb w->Ev.fM h n a b=some k->uo A.in1 s u w k) (e:Ev.cD (Ev.fM h n) x y=some k):uo A s (.ref a) (.ref b) k:=by
 obtain⟨us,p1,oG,_⟩:=I.tuple q1;obtain⟨zs,p2,oH,_⟩:=I.tuple q2;have l1:=v1.length;have l2:=v2.length;have l3:=p1.length;have l4:=p2.length;have both:RcAt A s (.ref a) (.ref b) k/\RcNeAt A s (.ref a) (.ref b) (!k):=by
  by_cases hl:x.length=y.length
  .obtain⟨e',h1,h2,h3⟩:=sq v1 v2 p1 p2 ih hl e;have rc:=RcAt.tuples oG oH hu h1;have ne:=RcNeAt.tuples oG oH hu h1;have hs:us.toArray.size=zs.toArray.size:=by simpa using h3
   have hb:((List.range (min us.toArray.size zs.toArray.size)).all e'&&us.toArray.size==zs.toArray.size)=k:=by
    rw[<-hs,Nat.min_self,h2];simp
   rw[hb]at rc ne;exact⟨rc,ne⟩
  .have hk:=qK hl e;subst hk;have hcl:∃e':Nat->Bool,∀j (h1:j<us.toArray.size) (h2:j<zs.toArray.size),EqAt A.in1 s us.toArray[j] zs.toArray[j] (e' j):=by
    obtain⟨e',h1⟩:=wX e;refine⟨e',λj g1 g2=>?_⟩;have UP:j<us.length:=by simpa using g1
    have UQ:j<zs.length:=by simpa using g2
    have ha:x[j]?=some x[j]:=List.getElem?_eq_getElem (by omega);have hb:y[j]?=some y[j]:=List.getElem?_eq_getElem (by omega);obtain⟨va,a1,a2⟩:=v1.get ha;obtain⟨vb,b1,b2⟩:=v2.get hb;obtain⟨u,a3,a4⟩:=p1.get a1;obtain⟨w,b3,b4⟩:=p2.get b1;have eu:us.toArray[j]=u:=by
     have:=(List.getElem?_eq_some_iff.mp a3).2;simpa using this
    have ew:zs.toArray[j]=w:=by
     have:=(List.getElem?_eq_some_iff.mp b3).2;simpa using this
    rw[eu,ew];exact(ih _ _ _ _ _ _ _ a2 b2 a4 b4 (h1 j _ _ ha hb)).eq
   obtain⟨e',h1⟩:=hcl;have rc:=RcAt.tuples oG oH hu h1;have ne:=RcNeAt.tuples oG oH hu h1;have hs:(us.toArray.size==zs.toArray.size)=false:=by
    simp only[List.size_toArray,beq_eq_false_iff_ne,ne_eq];omega
   rw[hs,Bool.and_false]at rc ne;exact⟨rc,ne⟩
 by_cases hab:a=b
 .subst hab;rw[I.mS q2 q1]at v2;have hk:k=true:=Av I hr (n+1) (.tup x) (.tup y) (.ref a) k ⟨a,vs,rfl,q1,v1⟩ ⟨a,vs,rfl,q1,v2⟩ e;subst hk;exact⟨.same _,both.1,both.2⟩
 .exact⟨.of_refs hab both.1,both.1,both.2⟩
end
end Sm
set_option maxRecDepth 100000
namespace Sm
open PySem PySem.Spec PyProof.Rows L2 PySem.SeqAt
open Ev (D O Hh Fr R aR E Es Eo T S Ss Fl Src bQ bK TY BI ME)
section
variable{X:Cx}{pins:List (Addr×Obj)}{σ:L2.St}{H:Hp}{s:Shared}{r:List Addr}{h:Hh}
theorem yH(I:Inv X pins σ H s)(hr:HR X.K H r h):∀(n:Nat) (A:Around) (a b:D) (va vb:V) (u w:Value) (k:Bool),A.units+n<cLine->RV X.K H r a va->RV X.K H r b vb->RelV va u->RelV vb w->Ev.fM h n a b=some k->uo A s u w k:=by
 intro n;induction n with
 |zero=>intro A a b va vb u w k _ _ _ _ _ e;cases e
 |succ n ih=>
  intro A a b va vb u w k hu h1 h2 r1 r2 e;have bT:A.units<cLine:=by omega
  have ih':∀a b va vb u w k,RV X.K H r a va->RV X.K H r b vb->RelV va u->RelV vb w->Ev.fM h n a b=some k->uo A.in1 s u w k:=λa b va vb u w k=>ih A.in1 a b va vb u w k (by show A.units+1+n<cLine;omega);have s1:=h1.shape;have s2:=h2.shape;have lst:∀{i:Nat} {v:V} {u:Value} {ds:List D},bW X.K H r (.ref i) v->RelV v u->Ev.aZ h i=some ds->∃p us,u=.ref p/\PlainL s.heap p (List.toArray us):=λ{i v u ds} hv ru el=>by
   obtain⟨p,rfl,z⟩:=hv;cases ru;obtain⟨us,pl⟩:=uq I hr el z;exact⟨p,us,rfl,pl⟩
  have tup:∀{ds:List D} {v:V} {u:Value},bW X.K H r (.tup ds) v->RelV v u->∃p us,u=.ref p/\s.heap.IsTuple p (List.toArray us):=λ{ds v u} hv ru=>by
   obtain⟨p,vs,rfl,z,_⟩:=hv;cases ru;obtain⟨us,_,pt,_⟩:=I.tuple z;exact⟨p,us,rfl,pt⟩
  cases a with
  |aH=>
   simp only[bW]at s1;subst s1;cases r1;cases b with
   |aH=>simp only[bW]at s2;subst s2;cases r2;cases e;exact⟨.same _,.none_none,.none_none⟩
   |bl y=>simp only[bW]at s2;subst s2;cases r2;cases e;exact⟨.none_bool _,.none_bool _,.none_bool _⟩
   |int y=>simp only[bW]at s2;subst s2;obtain⟨t,rfl⟩:=r2;cases e;exact⟨.none_int _ _,.none_int _ _,.none_int _ _⟩
   |str y=>simp only[bW]at s2;subst s2;obtain⟨t,rfl⟩:=r2;cases e;exact⟨.none_str _ _,.none_str _ _,.none_str _ _⟩
   |tup y=>obtain⟨p,us,rfl,pt⟩:=tup s2 r2;cases e;exact⟨.none_tuple pt bT,.none_tuple pt bT,.none_tuple pt bT⟩
   |ref m=>
    obtain⟨ds,e1,rfl⟩:=Option.map_eq_some_iff.mp e;obtain⟨p,us,rfl,pl⟩:=lst s2 r2 e1;exact⟨.none_list pl.isList bT,.none_list pl.isList bT,.none_list pl.isList bT⟩
  |bl x=>
   simp only[bW]at s1;subst s1;cases r1;cases b with
   |aH=>simp only[bW]at s2;subst s2;cases r2;cases e;exact⟨.bool_none _,.bool_none _,.bool_none _⟩
   |bl y=>simp only[bW]at s2;subst s2;cases r2;cases e;exact⟨.bool_bool _ _,.bool_bool _ _,.bool_bool _ _⟩
   |int y=>simp only[bW]at s2;subst s2;obtain⟨t,rfl⟩:=r2;cases e;exact⟨.bool_int _ _ _,.bool_int _ _ _,.bool_int _ _ _⟩
   |str y=>simp only[bW]at s2;subst s2;obtain⟨t,rfl⟩:=r2;cases e;exact⟨.bool_str _ _ _,.bool_str _ _ _,.bool_str _ _ _⟩
   |tup y=>obtain⟨p,us,rfl,pt⟩:=tup s2 r2;cases e;exact⟨.bool_tuple _ pt bT,.bool_tuple _ pt bT,.bool_tuple _ pt bT⟩
   |ref m=>
    obtain⟨ds,e1,rfl⟩:=Option.map_eq_some_iff.mp e;obtain⟨p,us,rfl,pl⟩:=lst s2 r2 e1;exact⟨.bool_list _ pl.isList bT,.bool_list _ pl.isList bT,.bool_list _ pl.isList bT⟩
  |int x=>
   simp only[bW]at s1;subst s1;obtain⟨t0,rfl⟩:=r1;cases b with
   |aH=>simp only[bW]at s2;subst s2;cases r2;cases e;exact⟨.int_none _ _,.int_none _ _,.int_none _ _⟩
   |bl y=>simp only[bW]at s2;subst s2;cases r2;cases e;exact⟨.int_bool _ _ _,.int_bool _ _ _,.int_bool _ _ _⟩
   |int y=>simp only[bW]at s2;subst s2;obtain⟨t,rfl⟩:=r2;cases e;exact⟨.int_int _ _ _ _,.int_int _ _ _ _,.int_int _ _ _ _⟩
   |str y=>simp only[bW]at s2;subst s2;obtain⟨t,rfl⟩:=r2;cases e;exact⟨.int_str _ _ _ _,.int_str _ _ _ _,.int_str _ _ _ _⟩
   |tup y=>obtain⟨p,us,rfl,pt⟩:=tup s2 r2;cases e;exact⟨.int_tuple _ _ pt bT,.int_tuple _ _ pt bT,.int_tuple _ _ pt bT⟩
   |ref m=>
    obtain⟨ds,e1,rfl⟩:=Option.map_eq_some_iff.mp e;obtain⟨p,us,rfl,pl⟩:=lst s2 r2 e1;exact⟨.int_list _ _ pl.isList bT,.int_list _ _ pl.isList bT,.int_list _ _ pl.isList bT⟩
  |str x=>
   simp only[bW]at s1;subst s1;obtain⟨t0,rfl⟩:=r1;cases b with
   |aH=>simp only[bW]at s2;subst s2;cases r2;cases e;exact⟨.str_none _ _,.str_none _ _,.str_none _ _⟩
   |bl y=>simp only[bW]at s2;subst s2;cases r2;cases e;exact⟨.str_bool _ _ _,.str_bool _ _ _,.str_bool _ _ _⟩
   |int y=>simp only[bW]at s2;subst s2;obtain⟨t,rfl⟩:=r2;cases e;exact⟨.str_int _ _ _ _,.str_int _ _ _ _,.str_int _ _ _ _⟩
   |str y=>
    simp only[bW]at s2;subst s2;obtain⟨t,rfl⟩:=r2;cases e;rw[<-GR];exact⟨.str_str _ _ _ _,.str_str _ _ _ _,.str_str _ _ _ _⟩
   |tup y=>obtain⟨p,us,rfl,pt⟩:=tup s2 r2;cases e;exact⟨.str_tuple _ _ pt bT,.str_tuple _ _ pt bT,.str_tuple _ _ pt bT⟩
   |ref m=>
    obtain⟨ds,e1,rfl⟩:=Option.map_eq_some_iff.mp e;obtain⟨p,us,rfl,pl⟩:=lst s2 r2 e1;exact⟨.str_list _ _ pl.isList bT,.str_list _ _ pl.isList bT,.str_list _ _ pl.isList bT⟩
  |tup x=>
   cases b with
   |tup y=>
    obtain⟨p,vs,rfl,z,w1⟩:=s1;obtain⟨p',vs',rfl,z',w2⟩:=s2;cases r1;cases r2;exact GS I hr bT z z' w1 w2 ih' e
   |aH=>obtain⟨p,us,rfl,pt⟩:=tup s1 r1;simp only[bW]at s2;subst s2;cases r2;cases e;exact⟨.tuple_none pt bT,.tuple_none pt bT,.tuple_none pt bT⟩
   |bl y=>obtain⟨p,us,rfl,pt⟩:=tup s1 r1;simp only[bW]at s2;subst s2;cases r2;cases e;exact⟨.tuple_bool _ pt bT,.tuple_bool _ pt bT,.tuple_bool _ pt bT⟩
   |int y=>obtain⟨p,us,rfl,pt⟩:=tup s1 r1;simp only[bW]at s2;subst s2;obtain⟨t,rfl⟩:=r2;cases e;exact⟨.tuple_int _ _ pt bT,.tuple_int _ _ pt bT,.tuple_int _ _ pt bT⟩
   |str y=>obtain⟨p,us,rfl,pt⟩:=tup s1 r1;simp only[bW]at s2;subst s2;obtain⟨t,rfl⟩:=r2;cases e;exact⟨.tuple_str _ _ pt bT,.tuple_str _ _ pt bT,.tuple_str _ _ pt bT⟩
   |ref m=>
    obtain⟨p,us,rfl,pt⟩:=tup s1 r1;obtain⟨ds,e1,rfl⟩:=Option.map_eq_some_iff.mp e;obtain⟨p',us',rfl,pl⟩:=lst s2 r2 e1;exact⟨.tuple_list pt pl.isList bT,.tuple_list pt pl.isList bT,.tuple_list pt pl.isList bT⟩
  |ref i=>
   cases b with
   |ref m=>
    replace e:Ev.jS h (Ev.fM h n) i m=some k:=e;unfold Ev.jS at e;split at e
    .rename_i US;subst US;simp only[Option.map_eq_some_iff]at e;obtain⟨ds,e1,rfl⟩:=e;obtain⟨p,us,rfl,pl⟩:=lst s1 r1 e1;obtain⟨p0,rfl,z⟩:=s1;obtain⟨p1,rfl,z'⟩:=s2;rw[z]at z';cases z';cases r1;cases r2;have q:(List.range (List.toArray us).size).all (λ_=>true)=true:=by simp
     have rc:=RcAt.lists (A:=A) (e:=λ_=>true) pl.isList pl.isList rfl bT λj _ _=>EqAt.same _;have ne:=RcNeAt.lists (A:=A) (e:=λ_=>true) pl.isList pl.isList rfl bT λj _ _=>EqAt.same _;rw[q]at rc ne;exact⟨.same _,rc,ne⟩
    .rename_i hne;obtain⟨p0,rfl,z⟩:=s1;obtain⟨p1,rfl,z'⟩:=s2;cases r1;cases r2;split at e
     .rename_i x y g1 g2;obtain⟨q0,q1,ER,q2,q3⟩:=hr.ob _ _ g1;obtain⟨q4,q5,wN,q6,q7⟩:=hr.ob _ _ g2;rw[z]at q1;cases q1;rw[z']at q5;cases q5;exact oW I bT (.of q2) (.of q6) q3 q7 (λw=>hne (hr.inj _ _ _ _ _ z (by rw[w];exact z') g1 g2)) ih' e
     .rename_i x y g1 g2;obtain⟨q0,q1,ER,q2,q3⟩:=hr.ob _ _ g1;obtain⟨q4,q5,wN,q6,q7⟩:=hr.ob _ _ g2;rw[z]at q1;cases q1;rw[z']at q5;cases q5;exact oW I bT (ES q2) (.of q6) q3 q7 (nR I q2 q6) ih' e
     .rename_i x y g1 g2;obtain⟨q0,q1,ER,q2,q3⟩:=hr.ob _ _ g1;obtain⟨q4,q5,wN,q6,q7⟩:=hr.ob _ _ g2;rw[z]at q1;cases q1;rw[z']at q5;cases q5;exact oW I bT (.of q2) (ES q6) q3 q7 (nR I q6 q2).symm ih' e
     .cases e
   |aH=>obtain⟨ds,e1,rfl⟩:=Option.map_eq_some_iff.mp e;obtain⟨p,us,rfl,pl⟩:=lst s1 r1 e1;simp only[bW]at s2;subst s2;cases r2;exact⟨.list_none pl.isList bT,.list_none pl.isList bT,.list_none pl.isList bT⟩
   |bl y=>obtain⟨ds,e1,rfl⟩:=Option.map_eq_some_iff.mp e;obtain⟨p,us,rfl,pl⟩:=lst s1 r1 e1;simp only[bW]at s2;subst s2;cases r2;exact⟨.list_bool _ pl.isList bT,.list_bool _ pl.isList bT,.list_bool _ pl.isList bT⟩
   |int y=>obtain⟨ds,e1,rfl⟩:=Option.map_eq_some_iff.mp e;obtain⟨p,us,rfl,pl⟩:=lst s1 r1 e1;simp only[bW]at s2;subst s2;obtain⟨t,rfl⟩:=r2;exact⟨.list_int _ _ pl.isList bT,.list_int _ _ pl.isList bT,.list_int _ _ pl.isList bT⟩
   |str y=>obtain⟨ds,e1,rfl⟩:=Option.map_eq_some_iff.mp e;obtain⟨p,us,rfl,pl⟩:=lst s1 r1 e1;simp only[bW]at s2;subst s2;obtain⟨t,rfl⟩:=r2;exact⟨.list_str _ _ pl.isList bT,.list_str _ _ pl.isList bT,.list_str _ _ pl.isList bT⟩
   |tup y=>
    obtain⟨ds,e1,rfl⟩:=Option.map_eq_some_iff.mp e;obtain⟨p,us,rfl,pl⟩:=lst s1 r1 e1;obtain⟨p',us',rfl,pt⟩:=tup s2 r2;exact⟨.list_tuple pl.isList pt bT,.list_tuple pl.isList pt bT,.list_tuple pl.isList pt bT⟩
where
 ES {K:PySem.W.Frag} {H:Hp} {a:Addr} {vs:List V} (q:yx K H a vs):ef K H a vs:=by
  rcases q with ⟨ob,e2⟩|e2
  .exact .inl (.inr ⟨ob,e2⟩)
  .exact .inr e2
end
theorem Good.units{G:Tb}{n:Nat}{sc:Scope}{N:List Str}{df:Bool}{X:Cx}(g:Good G n sc N df X):X.A.units+1+Ev.deep<cLine:=by
 have:=g.room.un;have:Ev.deep=20:=rfl;omega
section
variable{G:Tb}{n:Nat}{sc:Scope}{N:List Str}{df:Bool}{X:Cx}
theorem qL{pins:List (Addr×Obj)}{σ:L2.St}{H:Hp}{s:Shared}{Q:VK}{r:List Addr}{h:Hh}{k:Bool}(I:Inv X pins σ H s)(hr:HR X.K H r h)(q:Res X.K r H h (.bl k) Q):EP X pins σ Q (.bool k) s:=
 ⟨.bl k,H,I,rfl,q.here rfl hr⟩
theorem ET(g:Good G n sc N df X):dJ X (compareOp .Eq) (iw X.K (gv .eq)):=by
 intro pins s σ H x y v u Q I rx ry q;obtain⟨r,h,a,b,d,h',hr,v1,v2,e,q⟩:=q;obtain⟨k,e1,rfl,rfl⟩:=iP e;have:=g.units;exact(yH I hr Ev.deep X.A a b x y v u k (by omega) v1 v2 rx ry e1).rc _ _ _ _ (qL I hr q)
theorem Od(g:Good G n sc N df X):dJ X (compareOp .NotEq) (iw X.K (gv .ne)):=by
 intro pins s σ H x y v u Q I rx ry q;obtain⟨r,h,a,b,d,h',hr,v1,v2,e,q⟩:=q;obtain⟨k,e1,rfl,rfl⟩:=iP e;have:=g.units
 delta Ev.cop at e1;dsimp only at e1;simp only[Option.map_eq_some_iff]at e1
 obtain⟨k',e2,rfl⟩:=e1;exact(yH I hr Ev.deep X.A a b x y v u k' (by omega) v1 v2 rx ry e2).ne _ _ _ _ (qL I hr q)
theorem Aw{op:CmpOp}{o:bK}{p:Int->Int->Bool}(ho:dJ X (compareOp op) (wu λi j=>.bl (p i j)))(hc:∀a b h k,Ev.cop o a b h=some k->∃i j,a=.int i/\b=.int j/\k=p i j):dJ X (compareOp op) (iw X.K (gv o)):=by
 intro pins s σ H x y v u Q I rx ry q;obtain⟨r,h,a,b,d,h',hr,v1,v2,e,q⟩:=q;obtain⟨k,e1,rfl,rfl⟩:=iP e;obtain⟨i,j,rfl,rfl,rfl⟩:=hc _ _ _ _ e1;exact ho pins s σ H x y v u Q I rx ry ⟨i,j,v1,v2,q.here rfl hr⟩
theorem Oe:dJ X (compareOp .Lt) (iw X.K (gv .lt)):=Aw NP λa b h k e=>by
 cases a<;>cases b <;> (delta Ev.cop at e;dsimp only at e)<;>first | (cases e;exact⟨_,_,rfl,rfl,rfl⟩)|cases e
theorem EU:dJ X (compareOp .Gt) (iw X.K (gv .gt)):=Aw NQ λa b h k e=>by
 cases a<;>cases b <;> (delta Ev.cop at e;dsimp only at e)<;>first | (cases e;exact⟨_,_,rfl,rfl,rfl⟩)|cases e
theorem Ax:dJ X (compareOp .Is) (iw X.K (gv .jA)):=by
 intro pins s σ H x y v u Q I rx ry q;obtain⟨r,h,a,b,d,h',hr,v1,v2,e,q⟩:=q;obtain⟨k,e1,rfl,rfl⟩:=iP e;cases b with
 |aH=>
  refine Jf pins s σ H x y v u Q I rx ry ⟨v2,?_⟩;have:=v1.shape;cases a with
  |aH=>simp only[bW]at this;subst this;cases e1;exact q.here rfl hr
  |bl _=>simp only[bW]at this;subst this;cases e1;exact q.here rfl hr
  |int _=>simp only[bW]at this;subst this;cases e1;exact q.here rfl hr
  |str _=>simp only[bW]at this;subst this;cases e1;exact q.here rfl hr
  |ref _=>obtain⟨p,rfl,_⟩:=this;cases e1;exact q.here rfl hr
  |tup _=>obtain⟨p,_,rfl,_⟩:=this;cases e1;exact q.here rfl hr
 |_=>cases a<;>cases e1
theorem GU:dJ X (compareOp .IsNot) (iw X.K (gv .jR)):=by
 intro pins s σ H x y v u Q I rx ry q;obtain⟨r,h,a,b,d,h',hr,v1,v2,e,q⟩:=q;obtain⟨k,e1,rfl,rfl⟩:=iP e;cases b with
 |aH=>
  refine FY pins s σ H x y v u Q I rx ry ⟨v2,?_⟩;have:=v1.shape;cases a with
  |aH=>simp only[bW]at this;subst this;cases e1;exact q.here rfl hr
  |bl _=>simp only[bW]at this;subst this;cases e1;exact q.here rfl hr
  |int _=>simp only[bW]at this;subst this;cases e1;exact q.here rfl hr
  |str _=>simp only[bW]at this;subst this;cases e1;exact q.here rfl hr
  |ref _=>obtain⟨p,rfl,_⟩:=this;cases e1;exact q.here rfl hr
  |tup _=>obtain⟨p,_,rfl,_⟩:=this;cases e1;exact q.here rfl hr
 |_=>cases a<;>cases e1
end
end Sm
set_option maxRecDepth 100000
namespace Sm
open PySem PySem.Spec PyProof.Rows L2 PySem.SeqAt
open Ev (D O Hh Fr R aR E Es Eo T S Ss Fl Src bQ bK TY BI ME)
theorem wY{h:Hh}{x:D}:∀{ys:List D}{k:Bool},Ev.mem h x ys=some k->∃e:Nat->Bool,(∀(j:Nat) y,ys[j]?=some y->Ev.fM h Ev.deep y x=some (e j))/\(List.range ys.length).any e=k
 |[],_,e=>⟨λ_=>true,(λj y h=>by simp at h),by cases e;simp⟩
 |y :: ys,k,e=>by
  simp only[Ev.mem,Option.bind_eq_bind,Option.bind_eq_some_iff]at e;obtain⟨p,e1,q,e2,e3⟩:=e;cases e3;obtain⟨e,h1,h2⟩:=wY e2;refine⟨λj=>match j with|0=>p|j+1=>e j,λj y' g=>?_,?_⟩
  .cases j with
   |zero=>simp at g;subst g;exact e1
   |succ j=>exact h1 j y' (by simpa using g)
  .rw[List.length_cons,List.range_succ_eq_map,List.any_cons,List.any_map,<-h2];rfl
section
variable{X:Cx}{pins:List (Addr×Obj)}{σ:L2.St}{H:Hp}{s:Shared}{r:List Addr}{h:Hh}
open Classical in
theorem wZ(I:Inv X pins σ H s)(hr:HR X.K H r h){A:Around}(hu:A.units+1+Ev.deep<cLine){x:D}{vx:V}{ux:Value}(v1:RV X.K H r x vx)(rx:RelV vx ux){ys:List D}{vs:List V}{us:List Value}(v2:aE X.K H r ys vs)(p2:Vals vs us){k:Bool}(e:Ev.mem h x ys=some k) :
  ∃f:Value->Bool,(∀y,y∈us.toArray->EqAt A.in1 s y ux (f y))/\us.toArray.any f=k:=by
 obtain⟨e',h1,h2⟩:=wY e;have l1:=v2.length;have l2:=p2.length;have at':∀(j:Nat) (hj:j<us.length),EqAt A.in1 s us[j] ux (e' j):=λj hj=>by
  have ha:ys[j]?=some ys[j]:=List.getElem?_eq_getElem (by omega);obtain⟨va,a1,a2⟩:=v2.get ha;obtain⟨u,a3,a4⟩:=p2.get a1;have eu:us[j]=u:=(List.getElem?_eq_some_iff.mp a3).2;rw[eu];exact(yH I hr Ev.deep A.in1 _ _ _ _ _ _ _ (by show A.units+1+Ev.deep<cLine;exact hu) a2 v1 a4 rx (h1 j _ ha)).eq
 refine⟨λy=>decide (∃j,∃hj:j<us.length,us[j]=y/\e' j=true),λy hy=>?_,?_⟩
 .by_cases hx:∃j,∃hj:j<us.length,us[j]=y/\e' j=true
  .obtain⟨j,hj,rfl,ej⟩:=hx;have q:=at' j hj;rw[ej]at q;have:decide (∃j',∃hj':j'<us.length,us[j']=us[j]/\e' j'=true)=true:=decide_eq_true ⟨j,hj,rfl,ej⟩;show EqAt A.in1 s us[j] ux (decide (∃j',∃hj':j'<us.length,us[j']=us[j]/\e' j'=true));rw[this];exact q
  .show EqAt A.in1 s y ux (decide (∃j',∃hj':j'<us.length,us[j']=y/\e' j'=true));rw[decide_eq_false hx];have hy':y∈us:=by simpa using hy
   obtain⟨j,hj,rfl⟩:=List.getElem_of_mem hy';have q:=at' j hj;have:e' j=false:=by
    cases z:e' j with
    |false=>rfl
    |true=>exact absurd ⟨j,hj,rfl,z⟩ hx
   rw[this]at q;exact q
 .rw[<-h2,Bool.eq_iff_iff,Array.any_eq_true',List.any_eq_true];constructor
  .rintro⟨y,hy,hd⟩;obtain⟨j,hj,_,ej⟩:=of_decide_eq_true hd;exact⟨j,List.mem_range.mpr (by omega),ej⟩
  .rintro⟨j,hj,ej⟩;have hj':j<us.length:=by have:=List.mem_range.mp hj;omega
   exact⟨us[j],by simp,decide_eq_true ⟨j,hj',rfl,ej⟩⟩
end
section
variable{G:Tb}{n:Nat}{sc:Scope}{N:List Str}{df:Bool}{X:Cx}
theorem in_of(g:Good G n sc N df X){pins:List (Addr×Obj)}{σ:L2.St}{H:Hp}{s:Shared}{r:List Addr}{h:Hh}(I:Inv X pins σ H s)(hr:HR X.K H r h){a b:D}{x y:V}{v u:Value}{k:Bool}(v1:RV X.K H r a x)(v2:RV X.K H r b y)(rx:RelV x v)(ry:RelV y u)(e:Ev.isin a b h=some k) :
  (∀Q:Value->Shared->Prop,∀E:Value->Shared->Prop,Q (.bool k) s->wpAny (model X.prog X.w) X.A (compareOp .In v u) Q E s)/\(∀Q:Value->Shared->Prop,∀E:Value->Shared->Prop,Q (.bool (!k)) s->wpAny (model X.prog X.w) X.A (compareOp .NotIn v u) Q E s):=by
 have hu:=g.units;cases b with
 |str l=>
  cases a with
  |str c=>
   have s1:=v1.shape;have s2:=v2.shape;simp only[bW]at s1 s2;subst s1 s2;obtain⟨t,rfl⟩:=rx;obtain⟨t',rfl⟩:=ry
   match c,e with
   |[c],e=>
    cases e;have q:(!(Builtin.Str.occurrences (aN l) (aN [c]) 0 (aN l).length 1).isEmpty)=l.contains c:=by
     have:=PySem.StrLaws.found_one (aN l) c;rw[show(aN [c])=⟨#[c]⟩from rfl,this,Bool.eq_iff_iff];have e1:l.contains c=true↔c∈l:=by simp
     rw[e1];exact⟨λz=>by simpa[aN]using of_decide_eq_true z,λz=>decide_eq_true (by simpa[aN]using z)⟩
    refine⟨λQ E hq=>in_str (by rw[q];exact hq),λQ E hq=>notIn_str (by rw[q];exact hq)⟩
   |[],e=>cases e
   |_ :: _ :: _,e=>cases e
  |_=>cases e
 |tup ys=>
  obtain⟨p,vs,rfl,z,w⟩:=v2.shape;cases ry;obtain⟨us,pv,pt,_⟩:=I.tuple z;obtain⟨f,f1,f2⟩:=wZ I hr hu v1 rx w pv e;refine⟨λQ E hq=>in_tupleAt f pt f1 (by rw[f2];exact hq),λQ E hq=>notIn_tupleAt f pt f1 (by rw[f2];exact hq)⟩
 |ref i=>
  simp only[Ev.isin,Option.bind_eq_some_iff]at e;obtain⟨ds,e1,e2⟩:=e;obtain⟨p,rfl,z⟩:=v2.shape;cases ry;obtain⟨p',vs,z',q1,w⟩:=hr.read e1;rw[z]at z';cases z';obtain⟨us,pv,pl,_⟩:=I.list q1;obtain⟨f,f1,f2⟩:=wZ I hr hu v1 rx w pv e2;refine⟨λQ E hq=>in_listAt f pl.isList f1 (by rw[f2];exact hq),λQ E hq=>notIn_listAt f pl.isList f1 (by rw[f2];exact hq)⟩
 |_=>cases e
theorem CO(g:Good G n sc N df X):dJ X (compareOp .NotIn) (iw X.K (gv .fD)):=by
 intro pins s σ H x y v u Q I rx ry q;obtain⟨r,h,a,b,d,h',hr,v1,v2,e,q⟩:=q;obtain⟨k,e1,rfl,rfl⟩:=iP e;have e2:(Ev.isin a b h').map (!·)=some k:=by cases a<;>cases b<;>exact e1
 simp only[Option.map_eq_some_iff]at e2;obtain⟨k',e3,rfl⟩:=e2;exact(in_of g I hr v1 v2 rx ry e3).2 _ _ (qL I hr q)
theorem qM(a b:List Nat):aN a++aN b=aN (a++b):=by
 show Str.append (aN a) (aN b)=_;simp[Str.append,aN]
theorem GV{pins:List (Addr×Obj)}{σ:L2.St}{H:Hp}{s:Shared}{Q:Value->Shared->Prop}{E:Value->Shared->Prop}(I:Inv X pins σ H s){a b:Addr}{ys:List V}(h1:dH X.K H a [])(h2:dH X.K H b ys)(q:Q (.ref b) s):wpAny (model X.prog X.w) X.A (binaryOp .Add (.ref a) (.ref b)) Q E s:=by
 obtain⟨us,p1,UT,_⟩:=I.tuple h1;obtain⟨zs,p2,UU,_⟩:=I.tuple h2;cases p1;obtain⟨⟨cls,dd,data,sl⟩,ho,hc,n,hd⟩:=id UT;obtain⟨⟨R4,dd2,data2,sl2⟩,ho2,hc2,n2,hd2⟩:=id UU;simp only at hc hd hc2 hd2;subst hc hd hc2 hd2;exact concat_meets ⟨_,ho,rfl⟩ ⟨_,ho2,rfl⟩ noFill_tuple_add seq_tuple_add PySem.F.slot_tuple_add PySem.F.entry_tuple_add (PySem.F.args_tuple_add_2 _ _)
  (tuple_addW0 a b _ _ n n2 dd dd2 sl sl2 (by simp)) ⟨ho,ho2,q⟩
theorem Kw:dJ X (binaryOp .Add) (iw X.K (Ev.bL .add)):=by
 intro pins s σ H x y v u Q I rx ry q;obtain⟨r,h,a,b,d,h',hr,v1,v2,e,q⟩:=q;have s1:=v1.shape;have s2:=v2.shape;cases a with
 |int i=>cases b with
  |int j=>cases e;exact Jc pins s σ H x y v u Q I rx ry ⟨i,j,s1,s2,q.here rfl hr⟩
  |_=>cases e
 |str i=>cases b with
  |str j=>
   delta Ev.bL at e;dsimp only at e
   split at e
   .rename_i hz;cases e;rw[gz]at hz;refine yg pins s σ H x y v u Q I rx ry ⟨aN i,aN j,s1,s2,by rw[cT,cT];exact hz,?_⟩;rw[qM];exact q.here ⟨rfl,by rw[List.length_append];exact hz⟩ hr
   .cases e
  |_=>cases e
 |tup i=>cases b with
  |tup j=>
   delta Ev.bL at e;dsimp only at e
   split at e
   .rename_i hz;cases e;rw[gz]at hz;obtain⟨pa,vs,rfl,z1,w1⟩:=s1;obtain⟨pb,ws,rfl,z2,w2⟩:=s2;have l1:=w1.length;have l2:=w2.length;cases vs with
    |nil=>
     cases rx;cases ry;refine GV I z1 z2 ⟨.ref pb,H,I,rfl,q.here ?_ hr⟩;have:i=[]:=by cases i with|nil=>rfl|cons _ _=>simp at l1
     subst this;exact⟨pb,ws,rfl,z2,by simpa using w2⟩
    |cons v0 vs=>
     refine Gi pins s σ H _ _ v u Q I rx ry ⟨pa,pb,v0 :: vs,ws,rfl,rfl,z1,z2,by simp,by rw[l1,l2];exact hz,λhw=>?_,λhw p hp=>?_⟩
     .subst hw;have:j=[]:=by cases j with|nil=>rfl|cons _ _=>simp at l2
      subst this;exact q.here ⟨pa,v0 :: vs,rfl,z1,by simpa using w1⟩ hr
     .exact q.tup (w1.append w2) hr hp
   .cases e
  |_=>cases e
 |ref i=>cases b with
  |ref j=>
   delta Ev.bL at e;dsimp only at e
   split at e
   .rename_i ds es e1 e2;obtain⟨pa,rfl,z1⟩:=s1;obtain⟨pb,rfl,z2⟩:=s2;cases rx;cases ry;obtain⟨p1,g1,vs,g2,g3⟩:=hr.ob _ _ e1;obtain⟨p2,k1,ws,k2,k3⟩:=hr.ob _ _ e2;rw[z1]at g1;cases g1;rw[z2]at k1;cases k1;obtain⟨hz,q2⟩:=q.lst e (g3.append k3) hr;exact Jv pins s σ H (.ref pa) (.ref pb) _ _ Q I rfl rfl ⟨_,_,vs,ws,rfl,rfl,g2,k2,by rw[List.length_append]at hz;exact hz,q2⟩
   .cases e
  |_=>cases e
 |_=>cases b<;>cases e
theorem GW:dJ X (binaryOp .FloorDiv) (iw X.K (Ev.bL .fdiv)):=by
 intro pins s σ H x y v u Q I rx ry q;obtain⟨r,h,a,b,d,h',hr,v1,v2,e,q⟩:=q;cases a with
 |int i=>cases b with
  |int j=>
   delta Ev.bL at e;dsimp only at e
   split at e
   .rename_i hz;cases e;exact FU pins s σ H x y v u Q I rx ry ⟨i,j,v1,v2,hz,q.here rfl hr⟩
   .cases e
  |_=>cases e
 |_=>cases b<;>cases e
theorem Ky:dJ X (binaryOp .Mod) (iw X.K (Ev.bL .mod)):=by
 intro pins s σ H x y v u Q I rx ry q;obtain⟨r,h,a,b,d,h',hr,v1,v2,e,q⟩:=q;cases a with
 |int i=>cases b with
  |int j=>
   delta Ev.bL at e;dsimp only at e
   split at e
   .rename_i hz;cases e;exact Je pins s σ H x y v u Q I rx ry ⟨i,j,v1,v2,hz,q.here rfl hr⟩
   .cases e
  |_=>cases e
 |_=>cases b<;>cases e
end
end Sm
set_option maxRecDepth 100000
namespace Sm
open PySem PySem.Spec PyProof.Rows L2 PySem.SeqAt
open Ev (D O Hh Fr R aR E Es Eo T S Ss Fl Src bQ bK TY BI ME)
section
variable{X:Cx}
theorem Kz(n:Nat)(i:Int):Ev.di n i=L2.di n i:=rfl
theorem KA{α:Type}(xs:List α)(i:Int):Ev.bM xs i=L2.bM xs i:=rfl
theorem aE.bM{K:PySem.W.Frag}{H:Hp}{r:List Addr}{ds:List D}{vs:List V}{i:Int}{d:D}(w:aE K H r ds vs)(e:Ev.bM ds i=some d):∃v,L2.bM vs i=some v/\RV K H r d v:=by
 unfold Ev.bM at e;obtain⟨j,e1,e2⟩:=Option.bind_eq_some_iff.mp e;obtain⟨v,e3,e4⟩:=w.get e2;exact⟨v,by unfold L2.bM;rw[w.length,<-Kz,e1];exact e3,e4⟩
theorem Of:wD X (iw X.K J2):=by
 intro value slice pins s σ H x y v u Q I rx ry q hs;obtain⟨r,h,a,b,d,h',hr,v1,v2,e,q⟩:=q;obtain⟨e,rfl⟩:=Ev.aD e;cases b with
 |int i=>
  have s2:=v2.shape;cases a with
  |tup ds=>
   obtain⟨p,vs,rfl,z,w⟩:=v1.shape;obtain⟨v',g1,g2⟩:=w.bM e;exact Jq value slice pins s σ H _ y v u Q I rx ry ⟨p,vs,i,v',rfl,s2,z,g1,q.here g2 hr⟩ hs
  |str l=>
   simp only[RV]at v1;obtain⟨rfl,hl⟩:=v1;simp only[Ev.ek,Option.map_eq_some_iff]at e;obtain⟨c,e1,rfl⟩:=e;exact Jr value slice pins s σ H _ y v u Q I rx ry ⟨aN l,i,c,rfl,s2,by rw[cT];exact hl,by simpa[aN,KA]using e1,q.here ⟨rfl,by show 1<=sizeLine;decide⟩ hr⟩ hs
  |ref m=>
   simp only[Ev.ek,Option.bind_eq_some_iff]at e;obtain⟨ds,e1,e2⟩:=e;obtain⟨p,rfl,z⟩:=v1.shape;obtain⟨p',vs,z',q1,w⟩:=hr.read e1;rw[z]at z';cases z';obtain⟨v',g1,g2⟩:=w.bM e2;exact Gj value slice pins s σ H _ y v u Q I rx ry ⟨p,vs,i,v',rfl,s2,q1,g1,q.here g2 hr⟩ hs
  |_=>cases e
 |_=>cases a<;>cases e
theorem aE.cut{K:PySem.W.Frag}{H:Hp}{r:List Addr}{ds:List D}{vs:List V}(w:aE K H r ds vs)(lo hi:Option Int):aE K H r (Ev.cut ds lo hi) (mX vs lo hi):=by
 unfold Ev.cut mX;rw[w.length];exact(w.drop _).take _
theorem su{α:Type}(xs:List α)(lo hi:Option Int)(h:Ev.aV xs.length 0 lo=0/\Ev.aV xs.length xs.length hi=xs.length):Ev.cut xs lo hi=xs:=by
 unfold Ev.cut;rw[h.1,h.2];simp
theorem GX{α:Type}(xs:List α)(lo hi:Option Int):(Ev.cut xs lo hi).length<=xs.length:=by
 unfold Ev.cut;rw[List.length_take,List.length_drop];omega
theorem sN{prog:Program}{w:World}{A:Around}{E:Value->Shared->Prop}{s:Shared}{t sl:Addr}{items:Array Value}{vl vu:Value}{lo hi:Option Int}{Q:Value->Shared->Prop}(ht:IsTup s.heap t items)(hs:s.heap.IsSliceOf sl vl vu .none)(pl:IsPart vl lo)(pu:IsPart vu hi)
  (hw:HT.aV items.size 0 lo=0/\HT.aV items.size items.size hi=items.size) (h:Q (.ref t) s):wpAny (model prog w) A (getItem (.ref t) (.ref sl)) Q E s:=by
 obtain⟨os,hos,hcs,hds⟩:=id hs;have Jo:s.TypeIs (.ref sl) "slice" :=⟨os,hos,hcs⟩
 unfold getItem;try with_reducible refine wpAny_holding ?_
 first|refine wpAny_bind (wpAny_pure ?_)|skip
 refine wpAny_bind (wpAny_sequenceKey ht.typeIs (by decide) ?_);refine wpAny_bind (wpAny_callSpecial?_slot (name:=Str.ofString "__getitem__") ht.typeIs PyProof.Rows.slot_tuple_getitem
  (wpAny_call_entry PyProof.Rows.slot_tuple_getitem ht.typeIs entry_tuple_getitem ?_ (args_tuple_getitem _ _)))
 show wpAny _ _ (Builtin.Tuple.tupleItemsOf (.ref t) >>= _) _ _ s;refine wpAny_bind (tupleItemsOf_ ht ?_);refine wpAny_bind (wpAny_typeOf Jo ?_);rw[if_pos (by decide)];refine wpAny_bind (HT.jP hs pl pu ?_);have hyes:(((HT.aV items.size 0 lo:Nat):Int)==0&&(1:Int)==1&&(HT.aV items.size items.size hi - HT.aV items.size 0 lo)==items.size)=true:=by
  rw[hw.1,hw.2];simp
 show wpAny _ _ (if (((HT.aV items.size 0 lo:Nat):Int)==0&&(1:Int)==1&&(HT.aV items.size items.size hi - HT.aV items.size 0 lo)==items.size)=true then _ else _) _ _ s;rw[if_pos hyes];refine wpAny_bind (m:=Builtin.Tuple.tupleIsExact (.ref t)) (wpAny_bind (wpAny_typeOf ht.typeIs (wpAny_pure ?_)));show wpAny _ _ (if ((Value.type "tuple" ==Value.type "tuple")=true)then _ else _) _ _ s;rw[if_pos (by decide)];exact wpAny_bind (wpAny_rule (wpAny_bind (wpAny_pure (wpAny_pure ⟨_,rfl,wpAny_pure h⟩))))
theorem Ay(lo hi:Option Int)(n:Nat):Builtin.Str.strSliceIndices lo hi 1 n=(List.range (Ev.aV n n hi - Ev.aV n 0 lo)).map (λk=>Ev.aV n 0 lo+k):=by
 have KC:∀o:Option Int,((match o with|none=>(0:Int)|some i=>max 0 (min (if i<0 then i+(n:Int)else i) (n:Int))))=((Ev.aV n 0 o:Nat):Int):=λo=>by
  cases o with
  |none=>rfl
  |some i=>simp only[Ev.aV];split<;>omega
 have KD:∀o:Option Int,((match o with|none=>(n:Int)|some i=>max 0 (min (if i<0 then i+(n:Int)else i) (n:Int))))=((Ev.aV n n o:Nat):Int):=λo=>by
  cases o with
  |none=>rfl
  |some i=>simp only[Ev.aV];split<;>omega
 have e:Builtin.Str.strSliceIndices lo hi 1 n=sliceRange (match lo with|none=>(0:Int)|some i=>max 0 (min (if i<0 then i+(n:Int)else i) (n:Int))) (match hi with|none=>(n:Int)|some i=>max 0 (min (if i<0 then i+(n:Int)else i) (n:Int))) 1:=by
  unfold Builtin.Str.strSliceIndices;cases lo<;>cases hi<;>simp
 rw[e,KC,KD,sliceRange_one]
theorem KG(l:List Nat)(lo hi:Option Int):((Builtin.Str.strSliceIndices lo hi 1 (aN l).length).filterMap ((aN l).cps[·]?)).toArray=(Ev.cut l lo hi).toArray:=by
 rw[cT,Ay,pick_run];simp[aN,Ev.cut]
theorem KH:kN X (JM X.K):=by
 intro pins s σ H x v vl vu lo hi sl Q I rx hs pl pu q;obtain⟨r,h,a,d,h',hr,v1,e,q⟩:=q;cases a with
 |tup ds=>
  cases e;obtain⟨p,vs,rfl,z,w⟩:=v1.shape;by_cases hw:HT.aV vs.length 0 lo=0/\HT.aV vs.length vs.length hi=vs.length
  .cases rx;obtain⟨us,pv,pt,hz⟩:=I.tuple z;have hl:=pv.length;have UW:Ev.aV ds.length 0 lo=0/\Ev.aV ds.length ds.length hi=ds.length:=by rw[<-w.length];exact hw
   refine⟨"tuple",_,PyProof.Rows.slot_tuple_getitem.lookup,pt.typeIs,?_⟩;refine sN pt hs pl pu (by rw[List.size_toArray,<-hl];exact hw) ⟨.ref p,H,I,rfl,q.here ?_ hr⟩;rw[su ds lo hi UW];exact⟨p,vs,rfl,z,w⟩
  .exact Jp pins s σ H _ v vl vu lo hi sl Q I rx hs pl pu ⟨p,vs,rfl,z,hw,λp' hp=>q.tup (w.cut lo hi) hr hp⟩
 |str l=>
  simp only[RV]at v1;obtain⟨rfl,hl⟩:=v1;obtain⟨t,rfl⟩:=rx;cases e;refine⟨"str",_,PySem.F.slot_str_getitem.lookup,typeIs_str s _ t,?_⟩;have part:∀{v:Value} {o:Option Int},IsPart v o->∃p:Option (Int×Tok),v=partValue p/\p.map (·.1)=o:=λ{v o} hp=>by
   cases hp with
   |none=>exact⟨none,rfl,rfl⟩
   |int i t=>exact⟨some (i,t),rfl,rfl⟩
  obtain⟨l1,e1,e2⟩:=part pl;obtain⟨u1,e3,e4⟩:=part pu;subst e1 e3;obtain⟨os,hos,hcs,hds⟩:=hs;refine wpAny_getItem_str_slice (l:=l1) (u:=u1) (st:=none) ⟨os,hos,hcs,hds⟩ rfl ?_;have EV:((slicePicked (aN l) l1 u1 none).filterMap ((aN l).cps[·]?)).toArray=(Ev.cut l lo hi).toArray:=by
   show((Builtin.Str.strSliceIndices (l1.map (·.1)) (u1.map (·.1)) 1 (aN l).length).filterMap ((aN l).cps[·]?)).toArray=_;rw[e2,e4];exact KG l lo hi
  have hcl:=GX l lo hi;unfold sliceMade;refine post_val_or_made (λ_=>?_) λt' k=>?_
  .rw[EV];show(Ev.cut l lo hi).toArray.size<=sizeLine;simp only[List.size_toArray];omega
  .have hres:(if (((none:Option (Int×Tok)).map (·.1)).getD 1==1&&(slicePicked (aN l) l1 u1 none).length==(aN l).length)=true then aN l else (⟨((slicePicked (aN l) l1 u1 none).filterMap ((aN l).cps[·]?)).toArray⟩:Str))=aN (Ev.cut l lo hi):=by
    split
    .rename_i hc;rw[Bool.and_eq_true]at hc;have hlen:(slicePicked (aN l) l1 u1 none).length=(aN l).length:=eq_of_beq hc.2;have hlen2:(slicePicked (aN l) l1 u1 none).length=Ev.aV l.length l.length hi - Ev.aV l.length 0 lo:=by
      show(Builtin.Str.strSliceIndices (l1.map (·.1)) (u1.map (·.1)) 1 (aN l).length).length=_;rw[e2,e4,Ay,cT];simp
     rw[cT]at hlen;have hb:Ev.aV l.length l.length hi<=l.length:=HT.tS _ _ (Nat.le_refl _) hi;have ha:Ev.aV l.length 0 lo<=l.length:=HT.tS _ _ (Nat.zero_le _) lo;rw[su l lo hi ⟨by omega,by omega⟩]
    .rw[EV];rfl
   rw[hres];exact⟨.str (aN (Ev.cut l lo hi)),H,I.tok _,⟨_,rfl⟩,q.here ⟨rfl,by omega⟩ hr⟩
 |ref m=>
  simp only[Ev.gy]at e;split at e
  .rename_i ds e1;obtain⟨p,rfl,z⟩:=v1.shape;obtain⟨p',vs,z',q1,w⟩:=hr.read e1;rw[z]at z';cases z';obtain⟨hz,q2⟩:=q.lst e (w.cut lo hi) hr;exact Gk pins s σ H _ v vl vu lo hi sl Q I rx hs pl pu ⟨p,vs,rfl,q1,q2⟩
  .cases e
 |_=>cases e
theorem ur:∀(k:Nat) (l:List Nat) (acc:List Nat),(List.replicate k l.toArray).foldl (·++·) acc.toArray=(acc++Ev.rep k l).toArray
 |0,l,acc=>by simp[Ev.rep]
 |k+1,l,acc=>by
  rw[List.replicate_succ,List.foldl_cons];have:acc.toArray++l.toArray=(acc++l).toArray:=by simp
  rw[this,ur k l (acc++l)];simp[Ev.rep,List.replicate_succ]
theorem nT{α:Type}(k:Nat)(l:List α):(Ev.rep k l).length=k*l.length:=by
 unfold Ev.rep;exact len_rep l k
theorem GY{l:List Nat}{k:Int}(h:0<=k):Txt.mul (aN l) k=aN (Ev.rep k.toNat l):=by
 unfold Txt.mul;by_cases h1:k<1
 .have:k=0:=by omega
  subst this;rw[if_pos (by decide)];rfl
 .rw[if_neg h1];split
  .rename_i hc;rw[Bool.or_eq_true]at hc;rcases hc with hc|hc
   .have:k=1:=by simpa using hc
    subst this;simp[Ev.rep]
   .rw[cT]at hc;have:l=[]:=by cases l with|nil=>rfl|cons _ _=>simp at hc
    subst this;simp[Ev.rep,aN]
  .show(⟨(List.replicate k.toNat (aN l).cps).foldl (·++·) #[]⟩:Str)=_;have:=ur k.toNat l [];simp only[List.nil_append]at this;exact congrArg Str.mk this
theorem kg{a b:Nat}(h1:a<=1000)(h2:b<=1000):a*b<=sizeLine:=Nat.le_trans (Nat.mul_le_mul h1 h2) (by decide)
theorem GZ{pins:List (Addr×Obj)}{σ:L2.St}{H:Hp}{s:Shared}{Q:VK}(I:Inv X pins σ H s){l:List Nat}{k:Int}{t u:Tok}(hk:0<=k/\k<=1000/\l.length<=1000)(q:Q (.str (aN (Ev.rep k.toNat l))) H) :
  wpAny (model X.prog X.w) X.A (binaryOp .Mult (.str (aN l) t) (.int k u)) (EP X pins σ Q) X.xe s:=by
 have hok:MulOk (aN l) k:=mulOk_of 1000 1000 (by rw[cT];exact hk.2.2) (by exact hk.2.1) (by omega) (by decide) (by decide);refine SB.mul hok λt' k'=>?_;rw[GY hk.1];exact⟨.str _,H,I.tok _,⟨_,rfl⟩,q⟩
theorem oX:fillsNumberSlot (.type "tuple") "mul" = pure false:=
 PySem.fillsNumberSlot_seq (id:="tuple.__mul__") (r:=some (.builtin "tuple.__rmul__")) PySem.F.slot_tuple_mul.lookup (by decide +kernel) PySem.F.slot_tuple_rmul.lookup (by decide +kernel)
theorem uu:seqRepeat? (.type "tuple")=pure (some (.builtin "tuple.__mul__")):=by
 unfold seqRepeat?;rw[PySem.seqSlot_of (T:="tuple") (name:="__mul__") (id:="tuple.__mul__") PySem.F.slot_tuple_mul.lookup (by decide +kernel),PySem.seqSlot_of (T:="tuple") (name:="__rmul__") (id:="tuple.__rmul__") PySem.F.slot_tuple_rmul.lookup (by decide +kernel)];rfl
theorem yI(a:Int)(t:Tok)(l:Addr)(items:Array Value)(n:Nat)(dd:Option Addr)(sl:Array (Option Value)) :
  Meets (Builtin.«int.__rmul__» ⟨[.int a t,.ref l],[]⟩) (λ_ R s=>s.heap.get? l=some { cls:=.type "tuple",dict:=dd,data:=.seq items n,slots:=sl }/\R (.ok (.ret Value.notImplemented)) s):=
 .of_wp λprog w A R s h=>by obtain⟨hp,g,d,tk,os⟩:=s;obtain⟨hl,h⟩:=h;wp_walk;exact⟨_,rfl,h⟩
theorem yJ(l:Addr)(items:Array Value)(n:Nat)(dd:Option Addr)(sl:Array (Option Value))(k:Int)(u:Tok)(h1:¬ (decide (k < -2 ^ 63) ||decide (k≥2 ^ 63))=true)(h3:(items.isEmpty ||k==1)=true) :
  Meets (Builtin.«tuple.__mul__» ⟨[.ref l,.int k u],[]⟩) (λ_ R s=>s.heap.get? l=some { cls:=.type "tuple",dict:=dd,data:=.seq items n,slots:=sl }/\R (.ok (.ret (.ref l))) s):=
 .of_wp λprog w A R s h=>by obtain⟨hp,g,d,tk,os⟩:=s;obtain⟨hl,h⟩:=h;have f1:=AutoSeq1.idx_int;wp_walk using AutoSeq1.wpAny_loadPart' hl;rw[if_neg h1];wp_walk using AutoSeq1.wpAny_loadPart' hl;exact⟨_,rfl,h⟩
theorem yK(l:Addr)(items:Array Value)(n:Nat)(dd:Option Addr)(sl:Array (Option Value))(k:Int)(u:Tok)(h1:¬ (decide (k < -2 ^ 63) ||decide (k≥2 ^ 63))=true)(h3:¬ (items.isEmpty ||k==1)=true)(h4:(decide (k<=0) ||items.isEmpty)=true) :
  Meets (Builtin.«tuple.__mul__» ⟨[.ref l,.int k u],[]⟩) (λ_ R s=>s.heap.get? l=some { cls:=.type "tuple",dict:=dd,data:=.seq items n,slots:=sl }/\R (.ok (.ret (Value.ref s.heap.objs.size))) { s with heap:=s.heap.push { cls:=Value.type "tuple",data:=Data.seq #[]},toks:=s.toks }):=
 .of_wp λprog w A R s h=>by obtain⟨hp,g,d,tk,os⟩:=s;obtain⟨hl,h⟩:=h;have f1:=AutoSeq1.idx_int;wp_walk using AutoSeq1.wpAny_loadPart' hl;rw[if_neg h1];wp_walk using AutoSeq1.wpAny_loadPart' hl;exact⟨_,rfl,h⟩
theorem yL(l:Addr)(items:Array Value)(n:Nat)(dd:Option Addr)(sl:Array (Option Value))(k:Int)(u:Tok)(h1:¬ (decide (k < -2 ^ 63) ||decide (k≥2 ^ 63))=true)(h3:¬ (items.isEmpty ||k==1)=true)(h4:¬ (decide (k<=0) ||items.isEmpty)=true)
  (h5:¬ (items.size*k > (2 ^ 63 - 1) / 8)) (h6:¬ Builtin.Tuple.tupleTooMany (items.size*k)=true) (hsz:(List.foldl (λx1 x2=>x1++x2) #[] (List.replicate k.toNat items)).size<=sizeLine) :
  Meets (Builtin.«tuple.__mul__» ⟨[.ref l,.int k u],[]⟩) (λ_ R s=>s.heap.get? l=some { cls:=.type "tuple",dict:=dd,data:=.seq items n,slots:=sl }/\R (.ok (.ret (Value.ref s.heap.objs.size))) { s with heap:=s.heap.push { cls:=Value.type "tuple",data:=Data.seq (List.foldl (λx1 x2=>x1++x2) #[] (List.replicate k.toNat items))},toks:=s.toks }):=
 .of_wp λprog w A R s h=>by obtain⟨hp,g,d,tk,os⟩:=s;obtain⟨hl,h⟩:=h;have f1:=AutoSeq1.idx_int;wp_walk using AutoSeq1.wpAny_loadPart' hl;rw[if_neg h1];wp_walk using AutoSeq1.wpAny_loadPart' hl;rw[if_neg h5];wp_walk using AutoSeq1.wpAny_loadPart' hl;exact⟨_,rfl,h⟩
theorem sy:∀(k:Nat) (l acc:List Value),(List.replicate k l.toArray).foldl (·++·) acc.toArray=(acc++Ev.rep k l).toArray
 |0,l,acc=>by simp[Ev.rep]
 |k+1,l,acc=>by
  rw[List.replicate_succ,List.foldl_cons];have:acc.toArray++l.toArray=(acc++l).toArray:=by simp
  rw[this,sy k l (acc++l)];simp[Ev.rep,List.replicate_succ]
theorem G0{pins:List (Addr×Obj)}{σ:L2.St}{H:Hp}{s:Shared}{Q:VK}(I:Inv X pins σ H s){p:Addr}{vs:List V}{k:Int}{u:Tok}(hk:0<=k/\k<=1000/\vs.length<=1000)(hp:dH X.K H p vs)
  (q1:Ev.rep k.toNat vs=vs->Q (.ref p) H) (q2:∀p',H p'=none->Q (.ref p') (upd H p' (.tup (Ev.rep k.toNat vs)))) :
  wpAny (model X.prog X.w) X.A (binaryOp .Mult (.ref p) (.int k u)) (EP X pins σ Q) X.xe s:=by
 obtain⟨us,pv,pt,hz⟩:=I.tuple hp;obtain⟨⟨cls,dd,data,sl⟩,ho,hc,n,hd⟩:=id pt;simp only at hc hd;subst hc hd;have hl:=pv.length;have h1:¬ (decide (k < -2 ^ 63) ||decide (k≥2 ^ 63))=true:=by simp;omega
 refine wpAny_binaryOp_repeat_ref (T:="tuple") (U:="int") (by decide) ⟨_,ho,rfl⟩ (λs'=>typeIs_int s' k u) oX PySem.F.fills_int_mul PySem.F.slot_int_rmul uu PySem.F.slot_int_index.lookup
  (call_meets PySem.F.slot_int_rmul (typeIs_int s k u) PySem.F.entry_int_rmul (PySem.F.args_int_rmul_2 _ _) (yI k u p us.toArray n dd sl) ⟨ho,rfl,⟨_,ho,rfl⟩,?_⟩)
 have hrep:∀m:Nat,(Ev.rep m us).length=m*us.length:=λm=>nT m us;by_cases h3:(us.toArray.isEmpty ||k==1)=true
 .refine call_meets PySem.F.slot_tuple_mul ⟨_,ho,rfl⟩ PySem.F.entry_tuple_mul (PySem.F.args_tuple_mul_2 _ _) (yJ p us.toArray n dd sl k u h1 h3) ⟨ho,?_⟩;refine⟨.ref p,H,I,rfl,q1 ?_⟩;rw[Bool.or_eq_true]at h3;rcases h3 with h3|h3
  .have:us=[]:=by simpa using h3
   subst this;cases pv;simp[Ev.rep]
  .have:k=1:=by simpa using h3
   subst this;simp[Ev.rep]
 .have laid:∀m:Nat,m=k.toNat->EP X pins σ Q (.ref s.heap.objs.size) { s with heap:=s.heap.push { cls:=.type "tuple",data:=.seq (Ev.rep m us).toArray }}:=λm hm=>by
   subst hm;refine⟨.ref s.heap.objs.size,_,I.laid (t':=s.toks) (o:=.tup (Ev.rep k.toNat vs)) (λb ob q=>Heap.get?_push_of_some _ q) (Nat.le_refl _) ?_,rfl,q2 _ (I.hok.fresh (Nat.le_refl _))⟩;exact⟨by rw[nT];exact kg (by omega) hk.2.2,_,pv.rep k.toNat,IsTup.new _ _⟩
  by_cases h4:(decide (k<=0) ||us.toArray.isEmpty)=true
  .refine call_meets PySem.F.slot_tuple_mul ⟨_,ho,rfl⟩ PySem.F.entry_tuple_mul (PySem.F.args_tuple_mul_2 _ _) (yK p us.toArray n dd sl k u h1 h3 h4) ⟨ho,?_⟩;have hk0:k=0:=by
    rw[Bool.or_eq_true]at h4 h3;rcases h4 with h4|h4
    .have:k<=0:=of_decide_eq_true h4;omega
    .exact absurd (.inl h4) h3
   have:=laid 0 (by rw[hk0];rfl);exact this
  .have hm:us.toArray.size*k.toNat<=1000000:=by
    rw[List.size_toArray];exact Nat.mul_le_mul (by omega:us.length<=1000) (by omega:k.toNat<=1000)
   have hm':(us.toArray.size:Int)*k<=1000000:=by
    have e:(us.toArray.size:Int)*k=((us.toArray.size*k.toNat:Nat):Int):=by
     rw[Int.natCast_mul,Int.toNat_of_nonneg hk.1]
    rw[e];omega
   have hf:List.foldl (λx1 x2=>x1++x2) #[] (List.replicate k.toNat us.toArray)=(Ev.rep k.toNat us).toArray:=by
    have:=sy k.toNat us [];simpa using this
   refine call_meets PySem.F.slot_tuple_mul ⟨_,ho,rfl⟩ PySem.F.entry_tuple_mul (PySem.F.args_tuple_mul_2 _ _) (yL p us.toArray n dd sl k u h1 h3 h4 (by omega) ?_ ?_) ⟨ho,?_⟩
   .unfold Builtin.Tuple.tupleTooMany;simp only[decide_eq_true_eq];have:(sizeLine:Int)=16777216:=by rw[sizeLine_eq];rfl
    omega
   .rw[hf];simp only[List.size_toArray];rw[nT];exact kg (by omega) (by omega)
   .rw[hf];exact laid _ rfl
theorem KJ:dJ X (binaryOp .Mult) (iw X.K (Ev.bL .mul)):=by
 intro pins s σ H x y v u Q I rx ry q;obtain⟨r,h,a,b,d,h',hr,v1,v2,e,q⟩:=q;cases b with
 |int k=>
  have s2:=v2.shape;simp only[bW]at s2;subst s2;cases a with
  |int i=>
   delta Ev.bL at e;dsimp only at e
   split at e
   .rename_i hz;cases e;refine Jd pins s σ H x _ v u Q I rx ry ⟨i,k,v1,rfl,?_,q.here rfl hr⟩;unfold Ev.cA at hz;simp only[Bool.or_eq_true,Bool.and_eq_true,decide_eq_true_eq]at hz;exact hz
   .cases e
  |str l=>
   delta Ev.bL at e;dsimp only at e
   split at e
   .rename_i hz;cases e;simp only[RV]at v1;obtain⟨rfl,hl⟩:=v1;obtain⟨t,rfl⟩:=rx;obtain⟨t',rfl⟩:=ry;exact GZ I hz (q.here ⟨rfl,by rw[nT];exact kg (by omega) hz.2.2⟩ hr)
   .cases e
  |tup ds=>
   delta Ev.bL at e;dsimp only at e
   split at e
   .rename_i hz;cases e;obtain⟨p,vs,rfl,z,w⟩:=v1.shape;cases rx;obtain⟨t',rfl⟩:=ry;refine G0 I ⟨hz.1,hz.2.1,by rw[w.length];exact hz.2.2⟩ z (λUX=>q.here ⟨p,vs,rfl,z,?_⟩ hr) λp' hp=>q.tup (w.rep k.toNat) hr hp;have:=w.rep k.toNat;rw[UX]at this;exact this
   .cases e
  |ref i=>
   delta Ev.bL at e;dsimp only at e
   split at e
   .rename_i ds e1;split at e
    .rename_i hz;obtain⟨p,rfl,z⟩:=v1.shape;obtain⟨p',g1,vs,g2,g3⟩:=hr.ob _ _ e1;rw[z]at g1;cases g1;obtain⟨hz2,q2⟩:=q.lst e (g3.rep k.toNat) hr;exact Jw pins s σ H (.ref p) _ v u Q I rx ry ⟨p,k,vs,rfl,rfl,g2,by omega,by omega,kg (by rw[g3.length];exact hz.2.2) (by omega),q2⟩
    .cases e
   .cases e
  |_=>cases e
 |_=>cases a<;>cases e
end
end Sm
set_option maxRecDepth 100000
namespace Sm
open PySem PySem.Spec PyProof.Rows L2 PySem.SeqAt
open Ev (D O Hh Fr R aR E Es Eo T S Ss Fl Src bQ bK TY BI ME)
section
variable{X:Cx}
theorem uv{K:PySem.W.Frag}{H:Hp}{r:List Addr}:∀{ds:List D}{bs:List Bool}{vs:List V}{us:List Value},Ev.boolsOf ds=some bs->aE K H r ds vs->Vals vs us->us=bs.map Value.bool
 |[],bs,vs,us,e,w,p=>by
  cases e;simp only[aE]at w;subst w;cases p;rfl
 |d :: ds,bs,vs,us,e,w,p=>by
  cases d with
  |bl b=>
   simp only[Ev.boolsOf,Option.map_eq_some_iff]at e;obtain⟨bs',e1,rfl⟩:=e;simp only[aE,RV]at w;obtain⟨v,w',rfl,rfl,w2⟩:=w;cases p with
   |cons p1 p2=>
    cases p1;rw[uv e1 w2 p2];rfl
  |_=>cases e
theorem w9{K:PySem.W.Frag}{H:Hp}{r:List Addr}:∀{ds:List D}{is:List Int}{vs:List V}{us:List Value},Ev.intsOf ds=some is->aE K H r ds vs->Vals vs us->IntsAre us is
 |[],bs,vs,us,e,w,p=>by
  cases e;simp only[aE]at w;subst w;cases p;exact .nil
 |d :: ds,bs,vs,us,e,w,p=>by
  cases d with
  |int b=>
   simp only[Ev.intsOf,Option.map_eq_some_iff]at e;obtain⟨bs',e1,rfl⟩:=e;simp only[aE,RV]at w;obtain⟨v,w',rfl,rfl,w2⟩:=w;cases p with
   |cons p1 p2=>
    obtain⟨t,rfl⟩:=p1;exact .cons _ _ (w9 e1 w2 p2)
  |_=>cases e
theorem xg{K:PySem.W.Frag}{H:Hp}{r:List Addr}:∀{ds:List D}{ss:List (List Nat)}{vs:List V}{us:List Value},Ev.strsOf ds=some ss->aE K H r ds vs->Vals vs us->StrsAre us (ss.map aN)/\∀l∈ss,l.length<=sizeLine
 |[],bs,vs,us,e,w,p=>by
  cases e;simp only[aE]at w;subst w;cases p;exact⟨.nil,λl h=>nomatch h⟩
 |d :: ds,bs,vs,us,e,w,p=>by
  cases d with
  |str b=>
   simp only[Ev.strsOf,Option.map_eq_some_iff]at e;obtain⟨bs',e1,rfl⟩:=e;simp only[aE,RV]at w;obtain⟨v,w',rfl,⟨rfl,hb⟩,w2⟩:=w;cases p with
   |cons p1 p2=>
    obtain⟨t,rfl⟩:=p1;obtain⟨g1,g2⟩:=xg e1 w2 p2;refine⟨.cons _ _ g1,λl hl=>?_⟩;rcases List.mem_cons.mp hl with z|z
    .subst z;exact hb
    .exact g2 l z
  |_=>cases e
theorem sA{A:Around}{pins:List (Addr×Obj)}{σ:L2.St}{H:Hp}{s:Shared}(I:Inv X pins σ H s){p:Addr}{us:List Value}(pl:PlainL s.heap p us.toArray){Q:Value->Shared->Prop}{E:Value->Shared->Prop}
  (h:∀s₂:Shared,s₂={ s with heap:=s.heap.push { cls:=.type "list_iterator",data:=.fields #[.ref p,.int 0 0]}}->(s₂.heap.IsListIter s.heap.objs.size p 0/\s₂.heap.IsList p us.toArray)->p≠s.heap.objs.size->(∀b∈[s.heap.objs.size,p],b<s₂.heap.objs.size)->Q (.ref s.heap.objs.size) s₂) :
  wpAny (model X.prog X.w) A (pyIter (.ref p)) Q E s:=by
 have hlt:p<s.heap.objs.size:=by obtain⟨_,e,_⟩:=pl.isList;exact Heap.lt_size e
 refine wpAny_pyIter_list pl.isList (h _ rfl ⟨⟨_,Heap.get?_push_size _ rfl,rfl,rfl⟩,pl.isList.push _⟩ (Nat.ne_of_lt hlt) λb hb=>?_);show b<(s.heap.push _).objs.size;rw[Heap.size_push];rcases List.mem_cons.mp hb with z|z
 .rw[z];exact Nat.lt_succ_self _
 .rw[List.mem_singleton.mp z];exact Nat.lt_succ_of_lt hlt
theorem all_range{bs:List Bool}:(List.range bs.length).all (λi=>bs[i]?.getD true)=bs.all id:=by
 rw[Bool.eq_iff_iff,List.all_eq_true,List.all_eq_true];constructor
 .intro h b hb;obtain⟨i,hi,rfl⟩:=List.getElem_of_mem hb;simpa[hi]using h i (List.mem_range.mpr hi)
 .intro h i hi;have hi':=List.mem_range.mp hi;simpa[hi']using h bs[i] (by simp)
theorem any_range{bs:List Bool}:(List.range bs.length).any (λi=>bs[i]?.getD true)=bs.any id:=by
 rw[Bool.eq_iff_iff,List.any_eq_true,List.any_eq_true];constructor
 .rintro⟨i,hi,h⟩;have hi':=List.mem_range.mp hi;exact⟨bs[i],by simp,by simpa[hi']using h⟩
 .rintro⟨b,hb,h⟩;obtain⟨i,hi,rfl⟩:=List.getElem_of_mem hb;exact⟨i,List.mem_range.mpr hi,by simpa[hi]using h⟩
theorem sC {s s₂:Shared}{I p:Addr}{h':Heap}(e:s₂.heap=s.heap.push { cls:=.type "list_iterator",data:=.fields #[.ref p,.int 0 0]}) (hI:I=s.heap.objs.size) (hk:∀b o,b∉[I]->s₂.heap.get? b=some o->h'.get? b=some o) :
  ∀b o,s.heap.get? b=some o->h'.get? b=some o:=λb o q=>hk b o (by simp;rw[hI];exact Nat.ne_of_lt (Heap.lt_size q)) (by rw[e];exact Heap.get?_push_of_some _ q)
variable{G:Tb}{n:Nat}{sc:Scope}{N:List Str}{df:Bool}
theorem CP(g:Good G n sc N df X){pins:List (Addr×Obj)}{σ:L2.St}{H:Hp}{s:Shared}(I:Inv X pins σ H s){p:Addr}{bs:List Bool}(pl:PlainL s.heap p (bs.map Value.bool).toArray){Q:VK} :
  (Q (.bl (bs.all id)) H->wpAny (model X.prog X.w) X.A (call (.builtin "all") [.ref p]) (EP X pins σ Q) X.xe s)/\(Q (.bl (bs.any id)) H->wpAny (model X.prog X.w) X.A (call (.builtin "any") [.ref p]) (EP X pins σ Q) X.xe s):=by
 have hh:=I.ok.hd g.calm;have tr:TruthOf X.prog X.w X.A.in1 (λi v=>(bs.map Value.bool).toArray[i]?=some v) (λi=>bs[i]?.getD true):=λi v s' Q' E' hP hQ=>by
  simp only[List.getElem?_toArray,List.getElem?_map,Option.map_eq_some_iff]at hP;obtain⟨b,hb,rfl⟩:=hP;have QF:Q' (bs[i]?.getD true) s':=hQ;rw[hb]at QF;exact wpAny_truthy_bool QF
 have hsz:(bs.map Value.bool).toArray.size=bs.length:=by simp
 constructor
 .intro q;refine call_all_walk (sA I pl λs₂ e st hne hfp=>?_);subst e;refine⟨_,_,_,_,_,_,_,rfl,Walks.list (A:=X.A.in1) hh _ p hne (bs.map Value.bool).toArray,st,tr,λh' tk hk=>?_⟩;rw[hsz,all_range];exact⟨.bl _,H,I.kept (sC rfl rfl hk),rfl,q⟩
 .intro q;refine call_any_walk (sA I pl λs₂ e st hne hfp=>?_);subst e;refine⟨_,_,_,_,_,_,_,rfl,Walks.list (A:=X.A.in1) hh _ p hne (bs.map Value.bool).toArray,st,tr,λh' tk hk=>?_⟩;rw[hsz,any_range];exact⟨.bl _,H,I.kept (sC rfl rfl hk),rfl,q⟩
theorem KL (g:Good G n sc N df X):gh X (.builtin "all") (wI X.K (Ev.cS .all)):=by
 intro pins s σ H xs us Q I r q;obtain⟨rr,h,as,d,h',hr,v1,e,q⟩:=q
 match as,e with
 |[.ref m],e=>
  obtain⟨e,rfl⟩:=Ev.aD e;simp only[Option.map_eq_some_iff,Option.bind_eq_some_iff]at e;obtain⟨bs,⟨ds,e1,e2⟩,rfl⟩:=e;simp only[aE,RV]at v1;obtain⟨v,w,rfl,⟨p,rfl,z⟩,rfl⟩:=v1;obtain⟨u,rfl,ru⟩:=vals1 r;cases ru;obtain⟨p',vs,z',q1,w⟩:=hr.read e1;rw[z]at z';cases z';obtain⟨zs,pv,pl,_⟩:=I.list q1;have:=uv e2 w pv;subst this;exact(CP g I pl).1 (q.here rfl hr)
theorem KN (g:Good G n sc N df X):gh X (.builtin "sum") (wI X.K (Ev.cS .sum)):=by
 intro pins s σ H xs us Q I r q;obtain⟨rr,h,as,d,h',hr,v1,e,q⟩:=q
 match as,e with
 |[.ref m],e=>
  obtain⟨e,rfl⟩:=Ev.aD e;simp only[Option.map_eq_some_iff,Option.bind_eq_some_iff]at e;obtain⟨is,⟨ds,e1,e2⟩,rfl⟩:=e;simp only[aE,RV]at v1;obtain⟨v,w,rfl,⟨p,rfl,z⟩,rfl⟩:=v1;obtain⟨u,rfl,ru⟩:=vals1 r;cases ru;obtain⟨p',vs,z',q1,w⟩:=hr.read e1;rw[z]at z';cases z';obtain⟨zs,pv,pl,_⟩:=I.list q1;have hi:=w9 e2 w pv;obtain⟨ys,hys⟩:=(hi.allInts).items;have hl:s.heap.IsList p (intItems ys):=by rw[<-hys];exact pl.isList
  refine sum_intListG (I.ok.hd g.calm) hl λh'' tk t' hk=>?_;have hsum:preSum (numAt ys) ys.size=is.sum:=by
   have h1:numsOf zs.toArray.toList=is:=by rw[show zs.toArray.toList=zs from rfl];exact hi.numsOf
   rw[hys,nums_intItems]at h1;rw[preSum_eq,List.take_of_length_le (by simp),h1]
  rw[hsum];exact⟨.int is.sum,H,I.kept hk,⟨_,rfl⟩,q.here rfl hr⟩
theorem KO:gh X (.builtin "len") (wI X.K (Ev.cS .len)):=by
 intro pins s σ H xs us Q I r q;obtain⟨rr,h,as,d,h',hr,v1,e,q⟩:=q
 match as,e with
 |[.str l],e=>
  delta Ev.cS at e;dsimp only at e
  split at e
  .cases e;simp only[aE,RV]at v1;obtain⟨v,w,rfl,⟨rfl,hl⟩,rfl⟩:=v1;refine tU pins s σ H _ us Q I r ⟨_,rfl,by rw[cT];exact hl,?_⟩;rw[cT];exact q.here rfl hr
  .cases e
 |[.tup ds],e=>
  cases e;simp only[aE,RV]at v1;obtain⟨v,w,rfl,⟨p,vs,rfl,z,w'⟩,rfl⟩:=v1;refine mY pins s σ H _ us Q I r ⟨p,vs,rfl,.inr z,?_⟩;rw[w'.length];exact q.here rfl hr
 |[.ref m],e=>
  obtain⟨e,rfl⟩:=Ev.aD e;simp only[Option.map_eq_some_iff]at e;obtain⟨ds,e1,rfl⟩:=e;simp only[aE,RV]at v1;obtain⟨v,w,rfl,⟨p,rfl,z⟩,rfl⟩:=v1;obtain⟨p',vs,z',q1,w⟩:=hr.read e1;rw[z]at z';cases z';refine mY pins s σ H _ us Q I r ⟨p,vs,rfl,.inl q1,?_⟩;rw[w.length];exact q.here rfl hr
theorem Az:zV X "list.append" (Ae X.K (Ev.fJ .append)):=by
 intro pins s σ H x xs v us Q I rx rs q;obtain⟨r,h,a,as,d,h',hr,v1,v2,e,q⟩:=q;cases a with
 |ref m=>
  match as,e with
  |[b],e=>
   delta Ev.fJ at e;dsimp only at e
   split at e
   .rename_i ds e1;split at e
    .rename_i hz;cases e;rw[gz]at hz;obtain⟨p,rfl,z⟩:=v1.shape;simp only[aE]at v2;obtain⟨y,w,rfl,v3,rfl⟩:=v2;obtain⟨p',g1,vs,g2,g3⟩:=hr.ob _ _ e1;rw[z]at g1;cases g1;refine rM pins s σ H _ _ v us Q I rx rs ⟨p,vs,y,rfl,rfl,g2,by rw[g3.length];exact hz,?_⟩;have f:=Fm.write (K:=X.K) (ws:=vs++[y]) g2 (List.mem_of_getElem? z);exact q _ _ r rfl (hr.write e1 z g2 (g3.append (.cons v3 .nil))) f
    .cases e
   .cases e
  |[],e=>cases e
  |_ :: _ :: _,e=>cases e
 |_=>cases e
theorem AA:zV X "list.extend" (Ae X.K (Ev.fJ .extend)):=by
 intro pins s σ H x xs v us Q I rx rs q;obtain⟨r,h,a,as,d,h',hr,v1,v2,e,q⟩:=q;cases a with
 |ref m=>
  match as,e with
  |[.ref k],e=>
   delta Ev.fJ at e;dsimp only at e
   split at e
   .rename_i ds es e1 e2;split at e
    .rename_i hz;cases e;rw[gz]at hz;obtain⟨p,rfl,z⟩:=v1.shape;simp only[aE,RV]at v2;obtain⟨y,w,rfl,⟨p2,rfl,z2⟩,rfl⟩:=v2;obtain⟨p',g1,vs,g2,g3⟩:=hr.ob _ _ e1;rw[z]at g1;cases g1;obtain⟨p'',k1,ws,k2,k3⟩:=hr.ob _ _ e2;rw[z2]at k1;cases k1;refine zW pins s σ H _ _ v us Q I rx rs ⟨p,p2,vs,ws,rfl,rfl,g2,k2,by rw[g3.length,k3.length];exact hz,?_⟩;have f:=Fm.write (K:=X.K) (ws:=vs++ws) g2 (List.mem_of_getElem? z);exact q _ _ r rfl (hr.write e1 z g2 (g3.append k3)) f
    .cases e
   .cases e
 |_=>cases e
theorem oY(sep:List Nat):∀ss:List (List Nat),Str.join (aN sep) (ss.map aN)=aN (Ev.cL sep ss)
 |[]=>rfl
 |[s]=>rfl
 |s :: t :: r=>by
  have ih:=oY sep (t :: r);show aN s++aN sep++Str.join (aN sep) ((t :: r).map aN)=_;rw[ih,qM,qM];rfl
theorem join_eq(sep:List Nat)(ss:List (List Nat)):Txt.join (aN sep) (ss.map aN)=aN (Ev.cL sep ss):=by
 rw[<-oY];exact PySem.StrLaws.glued_eq_join _ _
theorem G1:zV X "str.join" (Ae X.K (Ev.fJ .join)):=by
 intro pins s σ H x xs v us Q I rx rs q;obtain⟨r,h,a,as,d,h',hr,v1,v2,e,q⟩:=q;cases a with
 |str sep=>
  match as,e with
  |[.ref k],e=>
   delta Ev.fJ at e;dsimp only at e
   split at e
   .rename_i ss e1;split at e
    .rename_i hz;cases e;simp only[Option.bind_eq_some_iff]at e1;obtain⟨ds,e1,e2⟩:=e1;simp only[RV]at v1;obtain⟨rfl,hl⟩:=v1;obtain⟨t,rfl⟩:=rx;simp only[aE,RV]at v2;obtain⟨y,w,rfl,⟨p2,rfl,z2⟩,rfl⟩:=v2;obtain⟨u,rfl,ru⟩:=vals1 rs;cases ru;obtain⟨p',vs,z',q1,w⟩:=hr.read e1;rw[z2]at z';cases z';obtain⟨zs,pv,pl,_⟩:=I.list q1;obtain⟨g1,g2⟩:=xg e2 w pv;have hlen:((ss.map aN).map (·.length)).sum+(ss.map aN).length*(aN sep).length<=16777216:=by
      rw[List.map_map,List.length_map,cT];have:(λx:Str=>x.length) ∘ aN=λl:List Nat=>l.length:=funext λl=>cT l;rw[this];exact hz
     refine join_list pl.isList g1 hlen λt' k'=>?_;rw[join_eq];refine⟨.str _,H,I.tok _,⟨_,rfl⟩,q.here ⟨rfl,?_⟩ hr⟩;have hj:=PySem.StrLaws.join_length_le (aN sep) (ss.map aN);rw[oY,cT]at hj;have:sizeLine=16777216:=sizeLine_eq;omega
    .cases e
   .cases e
 |_=>cases e
end
end Sm
set_option maxRecDepth 100000
namespace Sm
open PySem PySem.Spec PyProof.Rows L2 PySem.SeqAt
open Ev (D O Hh Fr R aR E Es Eo T S Ss Fl Src bQ bK TY BI ME)
section
variable{X:Cx}{G:Tb}{n:Nat}{sc:Scope}{N:List Str}{df:Bool}{m:List Nat}{a b c:E}{xa xb xc tg:Expr}{pos:Pos}
noncomputable def m6:TY->String
 |.int=>"int" |.bool=>"bool" |.str=>"str" |.tuple=>"tuple" |.list=>"list"
theorem Sv (K:PySem.W.Frag) (t:TY):PySem.W.kitOne K (.type "NoneType") (.type (m6 t))=some false/\PySem.W.kitOne K (.type "bool") (.type (m6 t))=some (Ev.cW [] (.bl true) t)/\PySem.W.kitOne K (.type "int") (.type (m6 t))=some (Ev.cW [] (.int 0) t)/\
  PySem.W.kitOne K (.type "str") (.type (m6 t))=some (Ev.cW [] (.str []) t)/\PySem.W.kitOne K (.type "tuple") (.type (m6 t))=some (Ev.cW [] (.tup []) t)/\PySem.W.kitOne K (.type "list") (.type (m6 t))=some (match t with|.list=>true|_=>false):=by
 cases t<;>refine⟨?_,?_,?_,?_,?_,?_⟩<;>kernel_rfl
noncomputable def LD(h:Hh)(i:Nat):Prop:=(Ev.aZ h i).isSome=true
 \/∃kvs,h[i]?=some (O.dct kvs)
theorem Sw (K:PySem.W.Frag) (t:TY):PySem.W.kitOne K (.type "dict") (.type (m6 t))=some false:=by cases t<;>kernel_rfl
theorem G2{pins:List (Addr×Obj)}{σ:L2.St}{H:Hp}{s:Shared}{r:List Addr}{h:Hh}(I:Inv X pins σ H s)(hr:HR X.K H r h){d:D}{x:V}{u:Value}(v1:RV X.K H r d x)(rx:RelV x u)(hd:∀i,d=.ref i->LD h i)(t:TY){Q:Value->Shared->Prop}{E:Value->Shared->Prop}(q:∀tk,Q (.bool (Ev.cW h d t)) { s with toks:=tk }) :
  wpAny (model X.prog X.w) X.A (call (.builtin "isinstance") [u,.type (m6 t)]) Q E s:=by
 obtain⟨k0,k1,k2,k3,k4,k5⟩:=Sv X.K t;have s1:=v1.shape;cases d with
 |aH=>simp only[bW]at s1;subst s1;exact je I rx .aH k0 (by simpa[Ev.cW]using q)
 |bl b=>simp only[bW]at s1;subst s1;exact je I rx (.bl _) k1 (by cases t<;>simpa[Ev.cW]using q)
 |int b=>simp only[bW]at s1;subst s1;exact je I rx (.int _) k2 (by cases t<;>simpa[Ev.cW]using q)
 |str b=>simp only[bW]at s1;subst s1;exact je I rx (.str _) k3 (by cases t<;>simpa[Ev.cW]using q)
 |tup ds=>
  obtain⟨p,vs,rfl,z,w⟩:=s1;cases rx;obtain⟨us,_,pt,_⟩:=I.tuple z;obtain⟨o,h1,h2,_⟩:=pt;exact PySem.W.kia_one PySem.W.kitx_tuple I.gq ⟨o,h1,h2⟩ k4 (λz=>nomatch z) (by cases t<;>simpa[Ev.cW]using q)
 |ref i=>
  obtain⟨p,rfl,z⟩:=s1;cases rx;rcases hd i rfl with hd|hd
  case inr=>
   obtain⟨kvs,e1⟩:=hd;obtain⟨p',z1,z2,_⟩:=hr.dct e1;rw[z]at z1;cases z1;have e2:Ev.aZ h i=none:=by unfold Ev.aZ;rw[e1]
   exact je I (show RelV (.ref p) (.ref p)from rfl) (.dK z2) (Sw X.K t) (by cases t<;>simpa[Ev.cW,e2]using q)
  obtain⟨ds,e1⟩:=Option.isSome_iff_exists.mp hd;obtain⟨us,pl⟩:=uq I hr e1 z;obtain⟨o,h1,h2,_⟩:=pl.isList;exact PySem.W.kia_one PySem.W.kitx_list I.gq ⟨o,h1,h2⟩ k5 (λz=>nomatch z) (by cases t<;>simpa[Ev.cW,e1]using q)
theorem AB {t:TY}{T:Str}{p q:Pos}(ha:JE G n sc N df m a xa) (hT:bootBuiltins T=some (.type (m6 t))) (h1:("isinstance" : Str)∈G.bl:=by decide +kernel) (h2:T∈G.bl:=by decide +kernel)
  (uw:sc.names.lookup ("isinstance" : Str)=some .globalImplicit:=by rfl) (UY:sc.names.lookup T=some .globalImplicit:=by rfl) (hn:T≠"__name__" :=by decide) (hd:(T==("__debug__" : Str))=false:=by decide)
  (hst:∀env:Env,starEach [xa,.Name T q] env=(false,eval xa env) :: starEach [.Name T q] env:=by intro _;rfl):JE G n sc N df m (.kO a [t]) (.Call (.Name "isinstance" p) [xa,.Name T q] [] pos):=λX g=>by
 have hty:PE X (.Name T q) (tC (.ty (m6 t))):=FO (g.gl UY) (g.bl T h2) hT rfl hn hd;have hc:gh X (.builtin "isinstance") (λxs H Q=>∃r h d x,HR X.K H r h/\RV X.K H r d x/\xs=[x,.ty (m6 t)]/\(∀i,d=.ref i->LD h i)/\Q (.bl (Ev.cW h d t)) H):=by
  intro pins s σ H xs us Q I rv q;obtain⟨r,h,d,x,hr,v1,rfl,hd,q⟩:=q;obtain⟨u,w,rfl,r1,r2⟩:=vals2 rv;cases r2;exact G2 I hr v1 r1 hd t λtk=>⟨.bl _,H,I.tok _,rfl,q⟩
 refine PE.of (tR hc (g.gl uw) (g.bl _ h1) (by decide +kernel) (jG (ha X g) (jG hty mW) (hst _)) (by decide) (by decide) (hst _) rfl) λs H Q q=>?_;obtain⟨r,fr,h,d,h',sr,hr,e,q⟩:=q;simp only[Ev.ev]at e;obtain⟨x,h3,e1,e⟩:=Ev.ah e;cases e;refine⟨r,fr,h,x,_,sr,hr,e1,λv H1 r1 v1 hr1 f1=>?_⟩;refine⟨r1,_,x,v,hr1,v1,rfl,λi hi=>?_,?_⟩
 .subst hi;simp only[RV]at v1;obtain⟨p,_,z⟩:=v1;have hlt:i<h'.length:=by rw[<-hr1.len];exact(List.getElem?_eq_some_iff.mp z).1
  unfold LD Ev.aZ;rw[List.getElem?_eq_getElem hlt];cases h'[i]with
  |lst ds=>exact .inl rfl
  |bD ds=>exact .inl rfl
  |dct kvs=>exact .inr ⟨kvs,rfl⟩
 .have:=(q.later f1).here (v:=.bl (Ev.cW h' x t)) (by simp[RV]) hr1;exact this
theorem aE.ofStr{K:PySem.W.Frag}{H:Hp}{r:List Addr}:∀(l:List Nat),aE K H r (l.map λc=>.str [c]) (l.map λc=>.str (aN [c]))
 |[]=>.nil
 |c :: l=>.cons ⟨rfl,by show 1<=sizeLine;decide⟩ (aE.ofStr l)
theorem yN{x:List Nat}{acc:Array Value}(h:ItemsOf (SignAt (aN x)) acc (aN x).cps.size):Vals (x.map λc=>.str (aN [c])) acc.toList:=by
 obtain⟨h1,h2⟩:=h;have hl:acc.toList.length=x.length:=by simpa[aN]using h1
 have go:∀(y:List Nat) (l:List Value) (k:Nat),l.length=y.length->(∀j v,l[j]?=some v->SignAt (aN x) (k+j) v)->(∀j,y[j]?=x[k+j]?)->Vals (y.map λc=>.str (aN [c])) l:=by
  intro y;induction y with
  |nil=>intro l k hl _ _;cases l with|nil=>exact .nil|cons _ _=>simp at hl
  |cons c y ih=>
   intro l k hl hv hy;cases l with
   |nil=>simp at hl
   |cons v l=>
    refine .cons ?_ (ih l (k+1) (by simpa using hl) (λj w hw=>?_) λj=>?_)
    .obtain⟨c',u,hc',rfl⟩:=hv 0 v (by simp);have:=hy 0;simp at this;have hc2:x[k]?=some c':=by simpa[aN]using hc'
     rw[hc2]at this;cases this;exact⟨u,rfl⟩
    .have:=hv (j+1) w (by simpa using hw);rw[show k+1+j=k+(j+1)by omega];exact this
    .have:=hy (j+1);simp at this;rw[this]
     congr 1
     omega
 exact go x acc.toList 0 hl (λj v hv=>by simpa using h2 j v (by simpa using hv)) λj=>by simp
theorem G3 (g:Good G n sc N df X):gh X (.type "list") (λxs H Q=>∃r h d src x,HR X.K H r h/\RV X.K H r d x/\xs=[x]/\Ev.eB h d=some src/\src.1.length<=sizeLine/\∀vs,aE X.K H r src.1 vs->∀l,H l=none->Q (.ref l) (upd H l (.lst vs))):=by
 intro pins s σ H xs us Q I rv q;obtain⟨r,h,d,src,x,hr,v1,rfl,e,hz,q⟩:=q;cases d with
 |tup ds=>
  cases e;obtain⟨p,vs,rfl,z,w⟩:=v1.shape;exact mZ pins s σ H _ us Q I rv ⟨p,vs,rfl,.inr z,q vs w⟩
 |ref i=>
  simp only[Ev.eB,Option.map_eq_some_iff]at e;obtain⟨ds,e1,rfl⟩:=e;obtain⟨p,rfl,z⟩:=v1.shape;obtain⟨p',vs,z',q1,w⟩:=hr.read e1;rw[z]at z';cases z';exact mZ pins s σ H _ us Q I rv ⟨p,vs,rfl,.inl q1,q vs w⟩
 |str l=>
  cases e;simp only[RV]at v1;obtain⟨rfl,hl⟩:=v1;obtain⟨u,rfl,ru⟩:=vals1 rv;obtain⟨t,rfl⟩:=ru;refine call_list_str (I.ok.hd g.calm) (aN l) t (λh' tk acc' c' hk hS' hacc=>?_) (by simpa[aN]using hl);refine⟨.ref s.heap.objs.size,_,I.laid (t':=tk) (o:=.lst (l.map λc=>.str (aN [c]))) hk (Nat.le_refl _) ?_,rfl,q _ (aE.ofStr l) _ (I.hok.fresh (Nat.le_refl _))⟩;exact⟨by simpa using hl,acc'.toList,c',yN hacc,by simpa using hS'⟩
 |_=>cases e
theorem KP {p:Pos}(ha:JE G n sc N df m a xa) (h1:("list" : Str)∈G.bl:=by decide +kernel) (uw:sc.names.lookup ("list" : Str)=some .globalImplicit:=by rfl)
  (hst:∀env:Env,starEach [xa] env=[(false,eval xa env)]:=by intro _;rfl):JE G n sc N df m (.fS (.seq a)) (.Call (.Name "list" p) [xa] [] pos):=λX g=>by
 refine PE.of (rL (G3 g) (g.gl uw) (g.bl _ h1) (by decide +kernel) (jG (ha X g) mW (hst _)) (by decide) (by decide) (hst _) rfl) λs H Q q=>?_;obtain⟨r,fr,h,d,h',sr,hr,e,q⟩:=q;simp only[Ev.ev,Ev.cB]at e;obtain⟨src,h3,e1,e⟩:=Ev.ah e;obtain⟨x,h4,e2,e1⟩:=Ev.ah e1;obtain⟨e1,rfl⟩:=Ev.aD e1;refine⟨r,fr,h,x,_,sr,hr,e2,λv H1 r1 v1 hr1 f1=>?_⟩;have hz:src.1.length<=sizeLine:=by
  unfold Ev.alloc at e;split at e
  .rename_i z;rw[<-gz];exact z
  .cases e
 exact⟨r1,_,x,src,v,hr1,v1,rfl,e1,hz,λvs w l hl=>((q.later f1).lst e w hr1).2 l hl⟩
theorem yO{lo:Int}{acc:Array Value}{k:Nat}(h:ItemsOf (λi v=>∃t,v=Value.int (lo+i*1) t) acc k):Vals ((List.range k).map λi=>V.int (lo+(i:Nat))) acc.toList:=by
 obtain⟨h1,h2⟩:=h;subst h1;have go:∀(l:List Value) (b:Nat),(∀j v,l[j]?=some v->∃t,v=Value.int (lo+((b+j:Nat):Int)) t)->Vals ((List.range' b l.length).map λi=>V.int (lo+(i:Nat))) l:=by
  intro l;induction l with
  |nil=>intro b _;exact .nil
  |cons v l ih=>
   intro b hv;rw[List.length_cons,List.range'_succ];refine .cons (by obtain⟨t,e⟩:=hv 0 v (by simp);subst e;exact⟨t,by simp⟩) (ih (b+1) λj w hw=>?_);have:=hv (j+1) w (by simpa using hw);rw[show b+1+j=b+(j+1)by omega];exact this
 have:=go acc.toList 0 λj v hv=>by
  obtain⟨t,e⟩:=h2 j v (by simpa using hv);exact⟨t,by simpa using e⟩
 rw[List.range_eq_range'];simpa using this
theorem aE.ofRange{K:PySem.W.Frag}{H:Hp}{r:List Addr}(lo:Int)(k:Nat):aE K H r (Ev.range lo k) ((List.range k).map λi=>V.int (lo+(i:Nat))):=by
 unfold Ev.range;generalize List.range k=l
 induction l with
 |nil=>exact .nil
 |cons i l ih=>exact .cons rfl ih
end
end Sm
set_option maxRecDepth 100000
namespace Sm
open PySem PySem.Spec PyProof.Rows L2 PySem.SeqAt
open Ev (D O Hh Fr R aR E Es Eo T S Ss Fl Src bQ bK TY BI ME)
section
variable{X:Cx}{G:Tb}{n:Nat}{sc:Scope}{N:List Str}{df:Bool}{m:List Nat}{a b c:E}{xa xb xc tg:Expr}{pos:Pos}
end
end Sm
set_option maxRecDepth 100000
namespace Sm
open PySem PySem.Spec PyProof.Rows L2 PySem.SeqAt
open Ev (D O Hh Fr R aR E Es Eo T S Ss Fl Src bQ bK TY BI ME)
section
variable{G:Tb}{n:Nat}{sc:Scope}{N:List Str}{df:Bool}{m:List Nat}{a b c:E}{xa xb xc tg:Expr}{pos:Pos}
theorem CQ (g:Good G n sc N df X):gh X (.type "tuple") (λxs H Q=>∃r h d x d' h',HR X.K H r h/\RV X.K H r d x/\xs=[x]/\Ev.qE d h=.ok d' h'/\Res X.K r H h' d' Q):=by
 intro pins s σ H xs us Q I rv q;obtain⟨r,h,d,x,d',h',hr,v1,rfl,e,q⟩:=q;cases d with
 |tup ds=>
  cases e;have v2:=v1;obtain⟨p,vs,rfl,z,w⟩:=v1.shape;exact mC pins s σ H _ us Q I rv ⟨p,vs,rfl,.inr ⟨z,q.here v2 hr⟩⟩
 |ref i=>
  simp only[Ev.qE]at e;split at e
  .rename_i ds e1;split at e
   .cases e;obtain⟨p,rfl,z⟩:=v1.shape;obtain⟨p',vs,z',q1,w⟩:=hr.read e1;rw[z]at z';cases z';exact mC pins s σ H _ us Q I rv ⟨p,vs,rfl,.inl ⟨q1,λl hl=>q.tup w hr hl⟩⟩
   .cases e
  .cases e
 |_=>cases e
theorem KQ {p:Pos}(ha:JE G n sc N df m a xa) (h1:("tuple" : Str)∈G.bl:=by decide +kernel) (uw:sc.names.lookup ("tuple" : Str)=some .globalImplicit:=by rfl)
  (hst:∀env:Env,starEach [xa] env=[(false,eval xa env)]:=by intro _;rfl):JE G n sc N df m (.jg a) (.Call (.Name "tuple" p) [xa] [] pos):=λX g=>by
 refine PE.of (rL (CQ g) (g.gl uw) (g.bl _ h1) (by decide +kernel) (jG (ha X g) mW (hst _)) (by decide) (by decide) (hst _) rfl) λs H Q q=>?_;obtain⟨r,fr,h,d,h',sr,hr,e,q⟩:=q;simp only[Ev.ev]at e;obtain⟨x,h3,e1,e⟩:=Ev.ah e;refine⟨r,fr,h,x,_,sr,hr,e1,λv H1 r1 v1 hr1 f1=>?_⟩;exact⟨r1,h3,x,v,d,h',hr1,v1,rfl,e,q.later f1⟩
theorem KR{st:Stmt}:JS G n sc N df m .gR st:=λX g=>PS.of B8 λQ s H q=>by
 obtain⟨r,fr,h,fl,ak,h',sr,hr,e,q⟩:=q;simp only[Ev.ex]at e;cases e
theorem CS{X:Cx}(g:Good G n sc N df X){pins:List (Addr×Obj)}{σ:L2.St}{H:Hp}{s:Shared}{Q:VK}{lo hi:Int}{t u v:Tok}{tk:Nat}(I:Inv X pins σ H s)(h1:-(2 ^ 62)<=lo)(h2:lo<2 ^ 62)(h3:-(2 ^ 62)<=hi)(h4:hi<2 ^ 62)
  (hl:(hi - lo).toNat<=sizeLine) (q:∀l,H l=none->Q (.ref l) (upd H l (.lst ((List.range (hi - lo).toNat).map λi=>V.int (lo+(i:Nat)))))) :
  wpAny (model X.prog X.w) X.A (call (.type "list") [.ref s.heap.objs.size]) (EP X pins σ Q) X.xe { s with heap:=s.heap.push { cls:=.type "range",data:=.fields #[.int lo t,.int hi u,.int 1 v]},toks:=tk }:=by
 have I1:Inv X pins σ H { s with heap:=s.heap.push { cls:=.type "range",data:=.fields #[.int lo t,.int hi u,.int 1 v]},toks:=tk }:=I.kept λb o e=>Heap.get?_push_of_some _ e;have e2:Builtin.Range.rangeSize lo hi 1=(((hi - lo).toNat:Nat):Int):=by rw[rangeSize_one];split<;>omega
 refine call_list_range (n:=(hi - lo).toNat) (I.ok.hd g.calm) (IsRange.new ..) (small_one h1 h2 h3 h4) e2 (by rw[sizeLine_eq]at hl;exact hl) λh' tk' acc' c' hk hS' hacc=>?_;refine⟨.ref _,_,I1.laid (t':=tk') (o:=.lst ((List.range (hi - lo).toNat).map λi=>V.int (lo+(i:Nat)))) hk (Nat.le_refl _) ?_,rfl,q _ (I1.hok.fresh (Nat.le_refl _))⟩;exact⟨by simpa using hl,acc'.toList,c',yO hacc,by simpa using hS'⟩
theorem CT {e1 e2:E}{p p2 pos2:Pos}(hs:JA G n sc N df m (.cons e1 (.cons e2 .nil)) [xa,xb]) (h1:("list" : Str)∈G.bl:=by decide +kernel) (uw:sc.names.lookup ("list" : Str)=some .globalImplicit:=by rfl)
  (hg:sc.names.lookup ("range" : Str)=some .globalImplicit:=by rfl) (hb:("range" : Str)∈G.bl:=by decide +kernel)
  (hst:∀env:Env,starEach [xa,xb] env=[(false,eval xa env),(false,eval xb env)]:=by intro _;rfl) (KS:∀env:Env,starEach [xb] env=[(false,eval xb env)]:=by intro _;rfl)
  (KU:∀env:Env,starEach [Expr.Call (.Name "range" p2) [xa,xb] [] pos2] env=[(false,eval (Expr.Call (.Name "range" p2) [xa,xb] [] pos2) env)]:=by intro _;rfl) :
  JE G n sc N df m (.fS (.fR (.cons e1 (.cons e2 .nil)))) (.Call (.Name "list" p) [.Call (.Name "range" p2) [xa,xb] [] pos2] [] pos):=λX g=>by
 intro pins s σ H Q I q;obtain⟨r,fr,h,d,h',sr,hr,e,q⟩:=q;simp only[Ev.ev,Ev.cB]at e;replace e:=Ev.ah e;obtain⟨src,h3,e1,e⟩:=e;replace e1:=Ev.ah e1;obtain⟨ds,h4,e2,e1⟩:=e1;replace e1:=Ev.aD e1;obtain⟨e1,y0⟩:=e1;subst y0;refine wpAny_Call_Name_kw (jN I (g.gl uw) (g.bl _ h1) (show bootBuiltins ("list" : Str)=some (.type "list")by decide +kernel) ?_ (by decide) (by decide));refine PyProof.Rows.callWith_type1 ?_ (KU _) rfl;rw[KU];show wpAny _ _ (spliced ((false,eval (Expr.Call (.Name "range" p2) [xa,xb] [] pos2) X.env) :: backTo pos [])) _ _ s;refine Calls.spliced_cons ?_;refine Call_ (jN I (g.gl hg) (g.bl _ hb) boot_range (PyProof.Rows.callWith_type1 (bJ ((hs X g) pos2 pins s σ H (λvs H1=>∃r1,aE X.K H1 r1 ds vs/\HR X.K H1 r1 h3/\Fm X.K r r1 H H1) I ⟨r,fr,h,ds,h3,sr,hr,e2,λvs H1 r1 v1 hr1 f1=>⟨r1,v1,hr1,f1⟩⟩) λus s1 z=>?_) (by rw[hst,KS]) (by rw[KS];rfl)))
 .obtain⟨vs,H1,I1,rv,r1,v1,hr1,f1⟩:=z;unfold Ev.dO at e1;split at e1
  .exfalso;simp only[Ev.bZ]at e2;obtain⟨d,_,_,e2⟩:=Ev.ah e2;obtain⟨d2,_,e3,e2⟩:=Ev.ah e2;obtain⟨d3,_,e4,e3⟩:=Ev.ah e3;simp only[Ev.ao]at e3;cases e3;cases e2
  .rename_i i j;split at e1
   .rename_i hj;cases e1;simp only[aE,RV]at v1;obtain⟨v,w,rfl,rfl,v',w',rfl,rfl,rfl⟩:=v1;cases rv with
    |cons ra rb=>
    cases rb with
    |cons rb rc=>
    cases rc;obtain⟨t,rfl⟩:=ra;obtain⟨u,rfl⟩:=rb;refine call_range_2 ?_;refine Calls.spliced_nil ?_;have hz:(j - i).toNat<=sizeLine:=by
     unfold Ev.alloc at e;split at e
     .rename_i z;rw[<-gz];simpa[Ev.range]using z
     .cases e
    refine CS g I1 hj.1 hj.2.1 hj.2.2.1 hj.2.2.2 hz λl hl=>?_;exact((q.later f1).lst e (aE.ofRange i (j - i).toNat) hr1).2 l hl
   .cases e1
  .cases e1
end
theorem xj{X:Cx}{pins:List (Addr×Obj)}{σ:L2.St}{H:Hp}{s:Shared}{h':Heap}{t':Nat}{ch:List Addr}(I:Inv X pins σ H s)(k:∀b o,b∉ch->s.heap.get? b=some o->h'.get? b=some o)(hf:∀b∈ch,gr X pins H b):Inv X pins σ H { s with heap:=h',toks:=t' }:=by
 have zI:∀b u,H b=some u->b∉ch:=λb u e z=>by rw[(hf b z).1]at e;cases e
 refine I.step (g':=s.gens) (d':=s.drawn) (ch:=ch) (λb hb=>?_) (λb o _ _ hc e _=>k b o hc e) (λb o _ _ hc e _=>⟨o.slots,k b o hc e⟩) (λ_ _ _ _ n=>n)
  (λb o hc e=>⟨o,k b o hc e⟩) (λ_ _ e=>e) (λ_ _ _ e=>e) (λb ps e=>⟨#[],by rw[e];simp⟩) (λm hm=>?_) (λb u e=>?_) I.bare
 .obtain⟨f0,f1,f2,f3,f4,f5⟩:=hf b hb;exact⟨f3,f1,f4,f5⟩
 .obtain⟨o,es,ep,ho,r⟩:=hm;exact⟨o,es,ep,k _ o (λz=>(hf _ z).2.1 rfl) ho,r⟩
 .refine(I.hok b u e).stay (λc v hc q=>k c v ?_ q) (λ_ q=>q) λ_ _ q=>q;rcases hc with z|z
  .rw[z];exact zI b u e
  .exact zI c _ z
section
variable{prog:Program}{w:World}{A:Around}{E:Value->Shared->Prop}{s:Shared}
end
end Sm
set_option maxRecDepth 100000
namespace Sm
open PySem PySem.Spec PyProof.Rows L2 PySem.SeqAt
open Ev (D O Hh Fr R aR E Es Eo T S Ss Fl Src bQ bK TY BI ME)
section
variable{G:Tb}{n:Nat}{sc:Scope}{N:List Str}{df:Bool}{m:List Nat}{a b c:E}{xa xb xc:Expr}{pos:Pos}
end
end Sm
set_option maxRecDepth 100000
namespace Sm
open PySem PySem.Spec PyProof.Rows L2 PySem.SeqAt
open Ev (D O Hh Fr R aR E Es Eo T S Ss Fl Src bQ bK TY BI ME)
noncomputable def qN:List (D×D)->Bool
 |[]=>true
 | (.str k,.str v) :: r=>decide (v.length<=1000)&&qN r
 |_=>false
theorem uy{s:List Nat}{r:D}:∀{kvs:List (D×D)},qN kvs=true->Ev.eS (.str s) kvs=some r->∃t,r=.str t/\t.length<=1000/\PySem.Spec.lookup (.str (aN s)) (tabOf kvs)=some (.str (aN t))
 |[],_,e=>by simp[Ev.eS]at e
 | (k,v) :: l,ha,e=>by
  cases k<;>cases v<;>simp only[qN,Bool.false_eq_true,Bool.and_eq_true,decide_eq_true_eq]at ha
  rename_i k v;simp only[Ev.eS]at e;rw[show Ev.fM [] 1 (.str k) (.str s)=some (k==s)from rfl]at e;simp only[tabOf,PySem.Spec.lookup];by_cases h:k=s
  .subst h;simp at e;subst e;refine⟨v,rfl,ha.1,?_⟩;have:PySem.Spec.same (.str (aN k)) (.str (aN k))=true:=by rw[PyProof.V.same_str];simp
   rw[this];rfl
  .have hb:(k==s)=false:=by simpa using h
   rw[hb]at e;simp only at e;obtain⟨t,h1,h2,h3⟩:=uy ha.2 e;refine⟨t,h1,h2,?_⟩;have:PySem.Spec.same (.str (aN k)) (.str (aN s))=false:=by
    rw[PyProof.V.same_str];simp;exact λz=>h (qF z)
   rw[this];exact h3
theorem uz{y r:D}:∀{kvs:List (D×D)},qN kvs=true->Ev.eS y kvs=some r->∃s,y=.str s
 |[],_,e=>by simp[Ev.eS]at e
 | (k,v) :: l,ha,e=>by
  cases k<;>cases v<;>simp only[qN,Bool.false_eq_true,Bool.and_eq_true,decide_eq_true_eq]at ha
  cases y with
  |str s=>exact⟨s,rfl⟩
  |ref a=>cases e
  |_=>first|exact uz ha.2 e|cases e
section
variable{G:Tb}{n:Nat}{sc:Scope}{N:List Str}{df:Bool}{m:List Nat}{a b c:E}{xa xb xc:Expr}{pos:Pos}
theorem G4 {x:Str}{kvs:List (D×D)}{p:Pos}(hm:(x,kvs)∈G.dk) (ha:JE G n sc N df m a xa) (hk:qN kvs=true:=by decide) (hg:sc.names.lookup x=some .globalImplicit:=by rfl) (hd:(x==("__debug__" : Str))=false:=by decide) (hs:qA xa:=by intro _ _;rfl) :
  JE G n sc N df m (.jw kvs a) (.Subscript (.Name x p) xa pos):=λX g=>by
 intro pins s σ H Q I q;obtain⟨r,fr,h,d,h',sr,hr,e,q⟩:=q;simp only[Ev.ev]at e;replace e:=Ev.ah e;obtain⟨y,h1,e1,e⟩:=e;replace e:=Ev.aD e;obtain⟨e,y0⟩:=e;subst y0;obtain⟨ad,hmg,htab⟩:=g.dk x kvs hm;refine Subscript_ (ye (wj (v:=.ref ad) (g.gl hg) hmg rfl hd) (ha X g) I (R:=λx' y' H2=>x'=.ref ad/\∃r1,RV X.K H2 r1 y y'/\HR X.K H2 r1 h'/\Fm X.K r r1 H H2) ?_ λv u s2 x' y' H2 I2 rx ry z=>?_)
 .refine⟨r,fr,h,y,h',sr,hr,e1,λv H1 r1 v1 hr1 f1=>⟨rfl,r1,v1,hr1,f1⟩⟩
 .obtain⟨rfl,r1,v1,hr1,f1⟩:=z;obtain rfl:v=Value.ref ad:=rx;have hy:∃sx,y=.str sx:=uz hk e;obtain⟨sx,rfl⟩:=hy;obtain⟨t,rfl,ht,hl⟩:=uy hk e;simp only[RV]at v1;obtain⟨rfl,_⟩:=v1;obtain⟨tk,rfl⟩:=ry;refine item_strTab (htab s2.heap I2.gq) hl (λv hv=>?_) (hs _ _);obtain⟨t2,rfl⟩:=PyProof.V.Flat.str_inv hv;exact⟨.str (aN t),H2,I2.tok _,⟨t2,rfl⟩,q _ H2 r1 ⟨rfl,Nat.le_trans ht (by rw[sizeLine_eq];decide)⟩ hr1 f1⟩
end
end Sm
set_option maxRecDepth 100000
namespace Sm
open PySem PySem.Spec PyProof.Rows L2 PySem.SeqAt
open Ev (D O Hh Fr R aR E Es Eo T S Ss Fl Src bQ bK TY BI ME)
section
variable{X:Cx}{G:Tb}{n:Nat}{sc:Scope}{N:List Str}{df:Bool}{m:List Nat}{a b c:E}{xa xb xc xd tg:Expr}{pos:Pos}
end
end Sm
set_option maxRecDepth 100000
namespace Rv
open PySem PyProof.Rows
section
variable{prog:Program}{w:World}{A:Around}{E:Value->Shared->Prop}{s:Shared}
end
end Rv
namespace Sm
open PySem PySem.Spec PyProof.Rows L2 PySem.SeqAt
open Ev (D O Hh Fr R aR E Es Eo T S Ss Fl Src bQ bK TY BI ME)
section
variable{X:Cx}{G:Tb}{n:Nat}{sc:Scope}{N:List Str}{df:Bool}{m:List Nat}{a b c:E}{xa xb xc tg:Expr}{pos:Pos}
end
end Sm
set_option maxRecDepth 100000
set_option maxRecDepth 100000
namespace Sm
open PySem PySem.Spec PyProof.Rows L2 PySem.SeqAt
open Ev (D O Hh Fr R aR E Es Eo T S Ss Fl Src bQ bK TY BI ME)
end Sm
set_option maxRecDepth 100000
namespace Sm
open PySem PySem.Spec PyProof.Rows L2 PySem.SeqAt
open Ev (D O Hh Fr R aR E Es Eo T S Ss Fl Src bQ bK TY BI ME)
end Sm
set_option maxRecDepth 100000
namespace Sm
open PySem PySem.Spec PyProof.Rows L2 PySem.SeqAt
open Ev (D O Hh Fr R aR E Es Eo T S Ss Fl Src bQ bK TY BI ME)
noncomputable def QG(K:PySem.W.Frag)(a:Addr):L2.It:=
  ⟨λi H=>∃xs x,ef K H a xs/\xs[i]?=some x,
   λi H x H'=>∃p u,H p=none/\x=.ref p/\H'=upd H p (.tup [.int i,u])/\∀xs,ef K H a xs->xs[i]?=some u,
   λi H=>∃xs,ef K H a xs/\xs.length<=i⟩
theorem AD{P:Program}{w:World}{K:PySem.W.Frag}{elts:List Expr}{x1}{pos:Pos}{l e it:Addr}(hne:e≠it) :
  Turn P w K (.Tuple elts x1 pos) (QG K l) [e,it] e (λi h=>(∃old,IsEnum h e it i old)/\h.IsListIter it l i) where
 mem:=by simp
 obj:=λi h st b hb=>by
  obtain⟨⟨old,s1⟩,s2⟩:=st;simp only[List.mem_cons,List.mem_nil_iff,or_false]at hb;rcases hb with rfl|rfl
  .exact⟨_,s1,λv z=>by have z':Data.fields _=Data.cell v:=z;cases z'⟩
  .obtain⟨o,e,c,d⟩:=s2;exact⟨o,e,λv z=>by rw[d]at z;cases z⟩
 keep:=λi h h' st k=>by
  obtain⟨⟨old,s1⟩,s2⟩:=st;exact⟨⟨old,k e (by simp) _ s1⟩,s2.at λo e=>k it (by simp) o e⟩
 item:=by
  intro X hP hw hK hc i pins s σ H E I hf st hg;subst hP hw hK;obtain⟨⟨old,s1⟩,s2⟩:=st;obtain⟨xs,x,hx,ex⟩:=hg;obtain⟨xt,rx,px,_⟩:=I.list hx;obtain⟨u,hu,ru⟩:=rx.get ex;refine wpAny_pyNext_enum_item s1 s2 px.isList (x:=u) (by simpa using hu) hne λh' a1 a2 a3 a4 hk=>?_;refine⟨_,rfl,wpAny_letOwnedTupleGo_enum (s:={ s with heap:=h',toks:=s.toks+1 }) a1 λh'' b1 b2=>?_⟩;have lt:∀{c o},s.heap.get? c=some o->c≠s.heap.objs.size:=λe=>Nat.ne_of_lt (Heap.lt_size e);have hT:H s.heap.objs.size=none:=I.hok.fresh (Nat.le_refl _);have I0:Inv X pins σ (upd H s.heap.objs.size (.tup [.int i,x])) { s with heap:=s.heap.push { cls:=.type "tuple",data:=.seq #[.int i s.toks,u]},toks:=s.toks+1 }:=
   I.laid (λb o e=>Heap.get?_push_of_some _ e) (Nat.le_refl _) ⟨by show 2<=sizeLine;decide,[.int i s.toks,u],.cons ⟨_,rfl⟩ (.cons ru .nil),⟨_,Heap.get?_push_size _ rfl,rfl,_,rfl⟩⟩
  have ne:∀b∈[e,it],b≠s.heap.objs.size:=λb hb=>by
   simp only[List.mem_cons,List.mem_nil_iff,or_false]at hb;rcases hb with rfl|rfl
   .exact lt s1
   .obtain⟨o,e,_⟩:=s2;exact lt e
  have fp:∀b∈[e,it],gr X pins (upd H s.heap.objs.size (.tup [.int i,x])) b:=λb hb=>⟨by rw[aX (ne b hb)];exact(hf b hb).1,(hf b hb).2⟩
  have I1:Inv X pins σ (upd H s.heap.objs.size (.tup [.int i,x])) { s with heap:=h'',toks:=s.toks+1 }:=by
   refine xj (s:={ s with heap:=s.heap.push { cls:=.type "tuple",data:=.seq #[.int i s.toks,u]},toks:=s.toks+1 }) (ch:=[e,it]) I0 (λb o hb e=>?_) fp;simp only[List.mem_cons,List.mem_nil_iff,or_false,not_or]at hb;refine b2.extBut _ _ hb.1 ?_;by_cases hT:b=s.heap.objs.size
   .subst hT;have e':(s.heap.push { cls:=.type "tuple",data:=.seq #[.int i s.toks,u]}).get? s.heap.objs.size=some o:=e;rw[Heap.get?_push_size _ rfl]at e';cases e';exact a3
   .refine hk b o hb.1 hb.2 ?_;have e':(s.heap.push { cls:=.type "tuple",data:=.seq #[.int i s.toks,u]}).get? b=some o:=e;rw[Heap.get?_push_ne _ _ _ hT]at e';exact e'
  refine⟨.ref s.heap.objs.size,_,I1,rfl,⟨s.heap.objs.size,x,hT,rfl,rfl,λxs' h=>by rw[I.tP h hx];exact ex⟩,?_,λb hb=>(fp b hb).1⟩;exact⟨⟨_,by simpa using b1⟩,a2.extBut b2.extBut (Ne.symm hne)⟩
 done:=by
  intro X hP hw hK hc i pins s σ H E I hf st hg;subst hP hw hK;obtain⟨⟨old,s1⟩,s2⟩:=st;obtain⟨xs,hx,hl⟩:=hg;obtain⟨xt,rx,px,_⟩:=I.list hx;have hl1:=rx.length;refine wpAny_pyNext_enum_end (I.ok.hd hc) s1 s2 px.isList (by simp;omega) λh' hk=>⟨rfl,?_⟩
  refine xj (ch:=[e,it]) (t':=s.toks) I (λb o hb e=>?_) hf;simp only[List.mem_cons,List.mem_nil_iff,or_false,not_or]at hb;exact hk b o hb.2 e
 self:=λ_ _ _ _ _ st h=>by obtain⟨⟨old,s1⟩,s2⟩:=st;exact wpAny_pyIter_enum s1 h
theorem uA:∀{ds:List D}{k:Int}{i:Nat}{d:D},(Ev.cG k ds)[i]?=some d->∃x,ds[i]?=some x/\d=.tup [.int (k+i),x]
 |[],_,_,_,e=>by simp[Ev.cG]at e
 |x :: ds,k,0,d,e=>by simp[Ev.cG]at e;exact⟨x,by simp,by simp[e]⟩
 |x :: ds,k,i+1,d,e=>by
  simp only[Ev.cG,List.getElem?_cons_succ]at e;obtain⟨y,h1,h2⟩:=uA e;refine⟨y,by simpa using h1,?_⟩;rw[h2];have:k+1+(i:Int)=k+((i+1:Nat):Int):=by omega
  rw[this]
theorem uB:∀(ds:List D) (k:Int),(Ev.cG k ds).length=ds.length
 |[],_=>rfl
 |_ :: ds,k=>by simp[Ev.cG,uB ds]
theorem G5{K:PySem.W.Frag}{r:List Addr}{H:Hp}{h:Hh}{n1:Nat}{a1:Addr}{ds:List D}(z1:r[n1]?=some a1):oU K r H (Ev.cG 0 ds,[(n1,ds)]) (QG K a1):=λi H1 r1 h1 hr1 f1 st=>by
 obtain⟨b1,vs,e1,e2,e3⟩:=hr1.read (rR st);rw[f1.pre _ _ z1]at e1;cases e1;refine⟨λd e=>?_,λhl=>?_⟩
 .obtain⟨x,k1,rfl⟩:=uA e;obtain⟨u,p1,p2⟩:=e3.get k1;refine⟨⟨vs,u,e2,p1⟩,λX H2 y=>?_⟩;obtain⟨p,u',hp,rfl,rfl,hu⟩:=y;have QH:=hu vs e2;rw[p1]at QH;cases QH;exact⟨r1,⟨p,[.int i,u],rfl,.of eL,.cons (by simp[RV]) (.cons (p2.mono (.tup hp)) .nil)⟩,hr1.tup hp,.tup hp⟩
 .refine⟨vs,e2,?_⟩;have:=e3.length;have hl':(Ev.cG 0 ds).length<=i:=hl;rw[uB]at hl';omega
section
variable{G:Tb}{n:Nat}{sc:Scope}{N:List Str}{df:Bool}{m:List Nat}{a b c:E}{xa xb xc:Expr}{pos:Pos}
theorem G6 {elts:List Expr}{x1}{tpos p:Pos}(ha:JE G n sc N df m a xa) (hg:sc.names.lookup ("enumerate" : Str)=some .globalImplicit:=by rfl) (QI:("enumerate" : Str)∈G.bl:=by decide +kernel)
  (hst:∀env:Env,starEach [xa] env=[(false,eval xa env)]:=by intro _;rfl) :
  JI G n sc N df m (.enum a) (.Tuple elts x1 tpos) (.Call (.Name "enumerate" p) [xa] [] pos):=λX g=>by
 intro pins s σ H Rr I q;obtain⟨r,fr,h,src,h',sr,hr,e,q⟩:=q;rw[Ev.cB]at e;replace e:=Ev.ah e;obtain⟨x,h1,e1,e⟩:=e;replace e:=Ev.aD e;obtain⟨e,y0⟩:=e;subst y0;have UZ:PA X [xa] _:=jG (ha X g) mW (by rw[hst];rfl);refine Call_ (jN I (g.gl hg) (g.bl _ QI) (show bootBuiltins ("enumerate" : Str)=some (.type "enumerate")by decide +kernel) (PyProof.Rows.callWith_type1 (bJ (UZ pos pins s σ H (λvs H1=>∃r1 u,vs=[u]/\RV X.K H1 r1 x u/\HR X.K H1 r1 h'/\Fm X.K r r1 H H1) I ⟨r,fr,h,x,h',sr,hr,e1,λu H1 r1 v1 hr1 f1=>⟨r1,u,rfl,v1,hr1,f1⟩⟩) λus s1 z=>?_) (hst _) rfl));obtain⟨vs,H1,I1,rv,r1,u,rfl,v1,hr1,f1⟩:=z;simp only[Option.map_eq_some_iff]at e;obtain⟨s1',k1,rfl⟩:=e;cases x<;>simp only[Ev.yw,reduceCtorEq,Option.map_eq_some_iff]at k1
 rename_i n1;obtain⟨ds,k1,rfl⟩:=k1;obtain⟨a1,rfl,z1⟩:=v1.shape;obtain⟨b1,xs,w1,w2,w3⟩:=hr1.read k1;rw[z1]at w1;cases w1;cases rv with
 |cons ra rb=>
 cases rb;cases ra;obtain⟨xt,_,px,_⟩:=I1.list w2;refine call_enumerate_list px.isList λhp c1 c2 c3 c4=>?_;have I2:Inv X pins σ H1 { s1 with heap:=hp,toks:=s1.toks }:=I1.kept c4;have nb:∀b∈[s1.heap.objs.size+1,s1.heap.objs.size],s1.heap.objs.size<=b:=λb hb=>by
  simp only[List.mem_cons,List.mem_nil_iff,or_false]at hb;rcases hb with rfl|rfl
  .exact Nat.le_succ _
  .exact Nat.le_refl _
 exact wpAny_pyIter_enum c1 ⟨_,[s1.heap.objs.size+1,s1.heap.objs.size],_,_,H1,rfl,I2,AD (Nat.succ_ne_self _),⟨⟨_,c1⟩,c2⟩,λb hb=>I1.x8 (nb b hb) (I1.hok.fresh (nb b hb)),q _ H1 r1 hr1 f1 (G5 (h:=h') z1)⟩
end
end Sm
set_option maxRecDepth 100000
namespace Sm
open PySem PySem.Spec PyProof.Rows L2 PySem.SeqAt
open Ev (D O Hh Fr R aR E Es Eo T S Ss Fl Src bQ bK TY BI ME)
theorem aE.ofInts{K:PySem.W.Frag}{H:Hp}{r:List Addr}:∀ns:List Int,aE K H r (ns.map D.int) (ns.map V.int)
 |[]=>.nil
 |_ :: l=>.cons rfl (aE.ofInts l)
theorem KW{K:PySem.W.Frag}{H:Hp}{a:Addr}{vs:List V}(hO:qC H)(hS:ef K H a vs):yx K H a vs:=by
 rcases hS with h|h
 .rcases h with h|⟨o,h⟩
  .rcases hO a with q|⟨o,xs,q⟩
   .rw[q]at h;cases h
   .rw[q]at h;cases h
  .exact .inl ⟨o,h⟩
 .exact .inr h
theorem Og{K:PySem.W.Frag}{F:List Ev.Fn}{w n f:Nat}{H:Hp}{a:Addr}{ns:List Int}(hO:qC H)(hS:ef K H a (ns.map V.int)){h':Hh}(e:Ev.run F w n f [.ref 0] [.bD (ns.map D.int)]=.ok (.bl true) h') :
  oB K F w n f [.ref a] H (λv _=>v=.bl true) λ_ _ _=>False:=by
 refine⟨[a],[.bD (ns.map D.int)],[.ref 0],.bl true,h',.cons (show RV K H [a] (.ref 0) (.ref a)from ⟨a,rfl,rfl⟩) .nil,⟨rfl,λk o hk=>?_,λk l b x y _ _ hk _=>?_
  ,λk l b x y _ _ hk _=>by cases k with|zero=>simp at hk|succ k=>simp at hk
  ⟩,e,λv H' r' v1 _ _=>v1⟩
 .cases k with
  |zero=>
   simp at hk;subst hk;exact⟨a,rfl,_,KW hO hS,aE.ofInts ns⟩
  |succ k=>simp at hk
 .cases k with
  |zero=>simp at hk
  |succ k=>simp at hk
theorem G7{F:List Ev.Fn}{wh n f:Nat}{l:PySem.W.OpenLaw}{q:Program}{loose:List Str}{XP:(Str->Option Value)->Heap->Prop}{YP:World->Heap->Prop}{d:DefRec}{K:Params->PySem.W.Frag}{x:Str}(hn:l.most=some 63)(hdf:d.params.defaults=[])(hr:fC n callerA)
  (hY:∀(w:World) (h:Heap),YP w h->(K w.params).In h) (good:∀ns:List Int,ns.length<=63->∃h',Ev.run F wh n f [.ref 0] [.bD (ns.map D.int)]=.ok (.bl true) h')
  (Fo:∀(w:World) (mg:Str->Option Value) (fa:Addr) (h:Heap),(K w.params).In h->h.Ns mainGlobals mg->mg d.name=some (.ref fa)->
   ∃fd:FuncData,(∀(s:Shared) (u:Value),BindsTo s fd ⟨[u],[]⟩ [(x,u)])/\∀base:Heap,(K w.params).In base->base.Ns mainGlobals mg->g8 l.prog w (K w.params) mg base m5 n fa fd [x] (oB (K w.params) F wh n f)) :
  PySem.W.WalkO q loose XP YP l.row.toRowW d [] (λf vs=>PySem.call f vs):=
 L2.Co (n:=63) (k:=n) (x:=x) (CX:=m5) (sp:=λK=>oB K F wh n f) hn (by decide) hdf hr hY Fo (λK H a ns hl hO hS=>by
  obtain⟨h',e⟩:=good ns hl;exact Og hO hS e) λ_ _ _ _ z=>z
theorem AE{P:Program}{w:World}{K:PySem.W.Frag}{mg:Str->Option Value}{base:Heap}{G:Tb}(T:Top P w K mg G)
  (st:∀n,sU P w K mg base G n->sU P w K mg base G (n+1)):∀n,sU P w K mg base G n
 |0=>λf i _=>GF
 |n+1=>st n (AE T st n)
structure At(K:PySem.W.Frag)(x:Str)(st:Stmt)(i:FI):Prop where
 name:i.name=x
 ns:PySem.W.nsIn K mainGlobals x=some (some (.ref i.addr))
 fu:rO K x x st i.addr i.fd
 bd:Binds K i.fd i.ps []
end Sm
set_option maxRecDepth 100000
namespace Sm
open PySem PySem.Spec PyProof.Rows L2
open Ev (D O Hh Fr R aR E Es Eo It T S Ss Fl Src bQ bK TY BI ME)
section
variable{G:Tb}{n:Nat}{sc:Scope}{N:List Str}{df:Bool}{m:List Nat}{a b c:E}{xa xb xc:Expr}{pos:Pos}
noncomputable def hasB(N:List Str)(m:List Nat)(x:Str)(i:Nat):Bool:=(List.range N.length).any λj=>m[j]?==some i&&N[j]?==some x
theorem hasB.of{x:Str}{i:Nat}(h:hasB N m x i=true):∃j:Nat,m[j]?=some i/\N[j]?=some x:=by
 obtain⟨j,_,q⟩:=List.any_eq_true.mp h;rw[Bool.and_eq_true]at q;exact⟨j,by simpa using q.1,by simpa using q.2⟩
noncomputable def vB (sc:Scope) (N:List Str) (m:List Nat) (x:Str) (i:Nat):Bool:=hasB N m x i&&(sc.names.lookup x==some .local ||sc.names.lookup x==some .cell ||sc.names.lookup x==some .free)&&!(x==("__debug__" : Str))&&!(x==("__classdict__" : Str))
theorem jv{x:Str}{i:Nat}(h:vB sc N m x i=true):JE G n sc N df m (.v i) (.Name x pos):=by
 unfold vB at h;simp only[Bool.and_eq_true,Bool.not_eq_true',Bool.or_eq_true]at h;obtain⟨⟨⟨h1,h2⟩,h3⟩,h4⟩:=h;obtain⟨j,e1,e2⟩:=hasB.of h1;exact Sf j i e1 e2 (by rcases h2 with (h2|h2)|h2;exact .inl (by simpa using h2);exact .inr (.inl (by simpa using h2));exact .inr (.inr (by simpa using h2))) h3 h4
noncomputable def gB(sc:Scope)(N:List Str)(df:Bool)(m:List Nat)(x:Str)(i:Nat):Bool:=hasB N m x i&&(sc.names.lookup x==some .local || (df&&sc.names.lookup x==some .cell))&&decide m.Nodup&&decide N.Nodup
theorem gB.of{x:Str}{i:Nat}(h:gB sc N df m x i=true):∃j:Nat,m[j]?=some i/\N[j]?=some x/\(sc.names.lookup x=some .local\/(df=true/\sc.names.lookup x=some .cell))/\m.Nodup/\N.Nodup:=by
 unfold gB at h;simp only[Bool.and_eq_true,Bool.or_eq_true]at h;obtain⟨⟨⟨h1,h2⟩,h3⟩,h4⟩:=h;obtain⟨j,e1,e2⟩:=hasB.of h1;exact⟨j,e1,e2,by rcases h2 with h2|⟨h2,h5⟩;exact .inl (by simpa using h2);exact .inr ⟨h2,by simpa using h5⟩,of_decide_eq_true h3,of_decide_eq_true h4⟩
theorem U0{x:Str}{i:Nat}(h:gB sc N df m x i=true):JG G n sc N df m (.one i) (.Name x pos):=by
 obtain⟨j,e1,e2,e3,e4,e5⟩:=gB.of h;exact Ka j i e4 e5 e1 e2 e3
theorem U1{x:Str}{i:Nat}{l:List Nat}{xs:List Expr}(h:gB sc N df m x i=true)(hs:rT G n sc N df m l xs):rT G n sc N df m (i :: l) (.Name x pos :: xs):=by
 obtain⟨j,e1,e2,e3,e4,e5⟩:=gB.of h;exact Cu j i e4 e5 hs e1 e2 e3
theorem Sx{i:Nat}{x:Str}{pos':Pos}(h:gB sc N df m x i=true)(ha:JE G n sc N df m a xa)(hs:∀env:Env,swapsWith xa (some (.Name x pos')) pos.line env=pure false:=by intro _;rfl):JS G n sc N df m (.set i a) (.Assign [.Name x pos'] xa pos):=by
 obtain⟨j,e1,e2,e3,e4,e5⟩:=gB.of h;exact Kc j i e4 e5 ha hs e1 e2 e3
noncomputable def EW (sc:Scope) (x:Str):Bool:=sc.names.lookup x==some .globalImplicit&&!(x==("__debug__" : Str))
theorem U3{f:Nat}{i:FI}{es:Es}{x:Str}{e0:Expr}{xs:List Expr}{p:Pos}(h:EW sc x=true)(hf:G.fi[f]?=some i)(hx:i.name=x)(hs:JA G n sc N df m es (e0 :: xs))
  (hst:∀env:Env,starEach (e0 :: xs) env=(false,eval e0 env) :: starEach xs env:=by intro _;rfl) (hpl:∀env:Env,(backTo pos (starEach xs env)).any (·.1)=false:=by intro _;rfl) :
  JE G n sc N df m (.cl f es) (.Call (.Name x p) (e0 :: xs) [] pos):=by
 subst hx;unfold EW at h;simp only[Bool.and_eq_true,Bool.not_eq_true']at h;exact N7 hf hs (by simpa using h.1) h.2 hst hpl
theorem Sy{f:Nat}{i:FI}{x:Str}{p:Pos}(h:EW sc x=true)(hf:G.fi[f]?=some i)(hx:i.name=x):JE G n sc N df m (.cl f .nil) (.Call (.Name x p) [] [] pos):=by
 subst hx;unfold EW at h;simp only[Bool.and_eq_true,Bool.not_eq_true']at h;refine λX g=>?_;obtain⟨h1,h2,h3,h4⟩:=g.fn f i hf;refine PE.of (Ci h4 g.room (g.gl (by simpa using h.1)) h1 h2 h3 .nil Ey h.2) λs H Q q=>?_;obtain⟨r,fr,h,d,h',sr,hr,e,q⟩:=q;simp only[Ev.ev,Ev.bZ,Ev.ao]at e;exact⟨r,h,[],d,h',by simp only[aE,List.append_nil],hr,e,q⟩
noncomputable def U4:Expr->List Str
 |.Name x _=>[x]
 |.Tuple xs _ _=>xs.filterMap λy=>match y with|.Name x _=>some x|_=>none
 |_=>[]
noncomputable def QJ(N:List Str)(m:List Nat)(scope:Scope):List (Str×Nat):=(N.zip m).filter λp=>scope.names.contains (p.1,NameKind.free)
noncomputable def cN(N:List Str)(m:List Nat)(scope:Scope)(tg:Expr):List Str:=U4 tg++(QJ N m scope).map (·.1)
noncomputable def cM(N:List Str)(m:List Nat)(scope:Scope)(t:T):List Nat:=Ev.slots t++(QJ N m scope).map (·.2)
theorem Oh{elt:E}{t:T}{it:Ev.It}{cond:Eo}{tg xi xe:Expr}{ifs:List Expr}{scope:Scope}(hn:pL sc N m scope t (cN N m scope tg) (cM N m scope t)=true)(hs:EH sc scope=true)
  (hi:JI G n sc N df m it tg xi) (hg:JG G n (eU sc scope) (cN N m scope tg) false (cM N m scope t) t tg) (hc:JC G n (eU sc scope) (cN N m scope tg) false (cM N m scope t) cond ifs)
  (he:JE G n (eU sc scope) (cN N m scope tg) false (cM N m scope t) elt xe) (hf:∀(env:Env) x,foldedSetIterable xi env x=pure x:=by intro _ _;rfl):JE G n sc N df m (.comp elt t it cond) (.ListComp xe [⟨tg,xi,ifs,0⟩] scope pos):=
 wV hi hg hc he (namesOk.of hn) (kE.of hs) hf
theorem Oi{i:Nat}{x:Str}{pos' cpos:Pos}{elt:E}{t:T}{it:Ev.It}{cond:Eo}{tg xi xe:Expr}{ifs:List Expr}{scope:Scope}(h:gB sc N df m x i=true)(hn:pL sc N m scope t (cN N m scope tg) (cM N m scope t)=true)(hs:EH sc scope=true)
  (hi:JI G n sc N df m it tg xi) (hg:JG G n (eU sc scope) (cN N m scope tg) false (cM N m scope t) t tg) (hc:JC G n (eU sc scope) (cN N m scope tg) false (cM N m scope t) cond ifs)
  (he:JE G n (eU sc scope) (cN N m scope tg) false (cM N m scope t) elt xe) (hf:∀(env:Env) x,foldedSetIterable xi env x=pure x:=by intro _ _;rfl) :
  JS G n sc N df m (.set i (.comp elt t it cond)) (.Assign [.Name x pos'] (.ListComp xe [⟨tg,xi,ifs,0⟩] scope cpos) pos):=by
 obtain⟨j,e1,e2,e3,e4,e5⟩:=gB.of h;exact GQ j i e4 e5 hi hg hc he (namesOk.of hn) (kE.of hs) e1 e2 e3 hf
theorem SA{rest:List Expr}(ha:JT G n sc N df m a xa)(hb:JW G n sc N df m b (.BoolOp .And (xb :: rest) pos)):JT G n sc N df m (.an a b) (.BoolOp .And (xa :: xb :: rest) pos):=JY (EC ha hb)
theorem SD{rest:List Expr}(ha:JT G n sc N df m a xa)(hb:JW G n sc N df m b (.BoolOp .Or (xb :: rest) pos)):JT G n sc N df m (.orr a b) (.BoolOp .Or (xa :: xb :: rest) pos):=JY (Af ha hb)
noncomputable def allB(G:Tb)(n:Nat):List (Ss×Stmt×List Str)->Prop
 |[]=>True
 |p :: r=>kc G n (aT p.2.1) p.2.2 true (List.range p.2.2.length) p.1 (gQ p.2.1)/\allB G n r
theorem allB.get:∀{l:List (Ss×Stmt×List Str)}{k:Nat}{p:Ss×Stmt×List Str},allB G n l->l[k]?=some p->kc G n (aT p.2.1) p.2.2 true (List.range p.2.2.length) p.1 (gQ p.2.1)
 |[],_,_,_,e=>nomatch e
 |_ :: _,0,_,h,e=>by cases e;exact h.1
 |_ :: r,k+1,p,h,e=>allB.get (l:=r) (k:=k) h.2 (by simpa using e)
end
end Sm
namespace Pv
open Ev (D bQ bK TY BI ME T E Es Eo It S Ss Fn big deep b2i rep cA di bM aV cut cL dY slots)
theorem nd{α:Type _}{a b:α}(h:a=b):a=b:=h
inductive V where
 |aH|bl (b:Bool)|int (i:Int)|str (s:List Nat)|tup (l:List V)|lst (l:List V)|bD (l:List V)
 |dct (kvs:List (Int×List Nat))
inductive Sl where
 |val (v:V)|own (l:List V)|bor (l:List V)|ro (l:List V)
abbrev Fr:=List (Option Sl)
inductive R(α:Type) where
 |ok (a:α) (fr:Fr)
 |bad
noncomputable def R.bind{α β:Type}(r:R α)(f:α->Fr->R β):R β:=
 match r with
 |.ok a h=>f a h
 |.bad=>.bad
@[simp] theorem ao{α β:Type}(a:α)(h:Fr)(f:α->Fr->R β):(R.ok a h).bind f=f a h:=nd rfl
@[simp] theorem Cs{α β:Type}(f:α->Fr->R β):(R.bad:R α).bind f=.bad:=nd rfl
theorem ah{α β:Type}{r:R α}{f:α->Fr->R β}{b:β}{h:Fr}(e:r.bind f=.ok b h):∃a h1,r=.ok a h1/\f a h1=.ok b h:=by
 cases r with
 |ok a h1=>exact⟨a,h1,rfl,e⟩
 |bad=>cases e
noncomputable def R.of{α:Type}(o:Option α)(h:Fr):R α:=match o with
 |some a=>.ok a h
 |none=>.bad
@[simp] theorem dM{α:Type}(a:α)(h:Fr):R.of (some a) h=.ok a h:=nd rfl
@[simp] theorem of_none{α:Type}(h:Fr):R.of (none:Option α) h=.bad:=nd rfl
theorem aD{α:Type}{o:Option α}{h h':Fr}{a:α}(e:R.of o h=.ok a h'):o=some a/\h'=h:=by
 cases o with
 |none=>cases e
 |some b=>cases e;exact⟨rfl,rfl⟩
inductive Fl where
 |nx|bk|ct|ret (v:V)
mutual
noncomputable def ofD:D->Option V
 |.aH=>some .aH
 |.bl b=>some (.bl b)
 |.int i=>some (.int i)
 |.str s=>some (.str s)
 |.tup ds=>(uC ds).map .tup
 |.ref _=>none
noncomputable def uC:List D->Option (List V)
 |[]=>some []
 |d :: ds=>(ofD d).bind λv=>(uC ds).map λvs=>v :: vs
end
noncomputable def cD(f:V->V->Option Bool):List V->List V->Option Bool
 |[],[]=>some true
 |x :: xs,y :: ys=>(f x y).bind λb=>(cD f xs ys).bind λc=>some (b&&c)
 |_,_=>some false
noncomputable def cC:Nat->V->V->Option Bool
 |0,_,_=>none
 |_+1,.aH,.aH=>some true
 |_+1,.bl a,.bl b=>some (a==b)
 |_+1,.int a,.int b=>some (a==b)
 |_+1,.bl a,.int b=>some (b2i a==b)
 |_+1,.int a,.bl b=>some (a==b2i b)
 |_+1,.str a,.str b=>some (a==b)
 |n+1,.tup a,.tup b=>cD (cC n) a b
 |n+1,.lst a,.lst b=>cD (cC n) a b
 |n+1,.bD a,.lst b=>cD (cC n) a b
 |n+1,.lst a,.bD b=>cD (cC n) a b
 |_+1,.bD _,.bD _=>none
 |_+1,.dct _,_=>none
 |_+1,_,.dct _=>none
 |_+1,_,_=>some false
noncomputable def truthy:V->Bool
 |.aH=>false
 |.bl b=>b
 |.int i=>i != 0
 |.str s=>!s.isEmpty
 |.tup ds=>!ds.isEmpty
 |.lst ds=>!ds.isEmpty
 |.bD ds=>!ds.isEmpty
 |.dct kvs=>!kvs.isEmpty
noncomputable def dS(l:List V):Option V:=if l.length<=big then some (.lst l)else none
noncomputable def jU(l:List V):Option V:=if l.length<=big then some (.tup l)else none
noncomputable def bL:bQ->V->V->Option V
 |.add,.int i,.int j=>some (.int (i+j))
 |.add,.str a,.str b=>if a.length+b.length<=big then some (.str (a++b))else none
 |.add,.tup a,.tup b=>if a.length+b.length<=big then some (.tup (a++b))else none
 |.add,.lst a,.lst b=>dS (a++b)
 |.sub,.int i,.int j=>some (.int (i - j))
 |.mul,.int i,.int j=>if cA i j then some (.int (i*j))else none
 |.mul,.str a,.int k=>if 0<=k/\k<=1000/\a.length<=1000 then some (.str (rep k.toNat a))else none
 |.mul,.tup a,.int k=>if 0<=k/\k<=1000/\a.length<=1000 then some (.tup (rep k.toNat a))else none
 |.mul,.lst a,.int k=>if 0<=k/\k<=1000/\a.length<=1000 then dS (rep k.toNat a)else none
 |.fdiv,.int i,.int j=>if 0<j/\j<1073741824 then some (.int (i / j))else none
 |.mod,.int i,.int j=>if 0<j then some (.int (i % j))else none
 |_,_,_=>none
noncomputable def mem(x:V):List V->Option Bool
 |[]=>some false
 |y :: ys=>(cC deep y x).bind λb=>(mem x ys).bind λc=>some (b ||c)
noncomputable def isin(x y:V):Option Bool:=match y with
 |.str s=>match x with
  |.str [c]=>some (s.contains c)
  |_=>none
 |.tup ds=>mem x ds
 |.lst ds=>mem x ds
 |.bD ds=>mem x ds
 |_=>none
noncomputable def cop(o:bK)(x y:V):Option Bool:=match o,x,y with
 |.eq,x,y=>cC deep x y
 |.ne,x,y=>(cC deep x y).map (!·)
 |.lt,.int i,.int j=>some (decide (i<j))
 |.gt,.int i,.int j=>some (decide (j<i))
 |.isin,x,y=>isin x y
 |.fD,x,y=>(isin x y).map (!·)
 |.jA,x,.aH=>some (match x with|.aH=>true|_=>false)
 |.jR,x,.aH=>some (match x with|.aH=>false|_=>true)
 |_,_,_=>none
noncomputable def CU:V->V->Option V
 |.dct kvs,.int k=>(Ev.b7 kvs k).map .str
 |_,_=>none
noncomputable def uD:V->V->V->Option V
 |.dct kvs,.int k,z=>some (match Ev.b7 kvs k with|some s=>.str s|none=>z)
 |_,_,_=>none
noncomputable def ek(x y:V):Option V:=match x,y with
 |.tup ds,.int i=>bM ds i
 |.str s,.int i=>(bM s i).map λc=>.str [c]
 |.lst ds,.int i=>bM ds i
 |.bD ds,.int i=>bM ds i
 |_,_=>none
noncomputable def gy(x:V)(lo hi:Option Int):Option V:=match x with
 |.tup ds=>some (.tup (cut ds lo hi))
 |.str s=>some (.str (cut s lo hi))
 |.lst ds=>dS (cut ds lo hi)
 |.bD ds=>dS (cut ds lo hi)
 |_=>none
noncomputable def toT:V->Option V
 |.tup l=>some (.tup l)
 |.lst l=>jU l
 |.bD l=>jU l
 |_=>none
noncomputable def cW:V->TY->Bool
 |.bl _,.bool=>true
 |.bl _,.int=>true
 |.int _,.int=>true
 |.str _,.str=>true
 |.tup _,.tuple=>true
 |.lst _,.list=>true
 |.bD _,.list=>true
 |_,_=>false
noncomputable def boolsOf:List V->Option (List Bool)
 |[]=>some []
 |.bl b :: ds=>(boolsOf ds).map λr=>b :: r
 |_=>none
noncomputable def intsOf:List V->Option (List Int)
 |[]=>some []
 |.int i :: ds=>(intsOf ds).map λr=>i :: r
 |_=>none
noncomputable def strsOf:List V->Option (List (List Nat))
 |[]=>some []
 |.str s :: ds=>(strsOf ds).map λr=>s :: r
 |_=>none
noncomputable def mJ:V->Option (List V)
 |.lst l=>some l
 |.bD l=>some l
 |_=>none
noncomputable def KY:V->Option (List (Int×List Nat))
 |.dct kvs=>some kvs
 |_=>none
noncomputable def cS(b:BI)(xs:List V):Option V:=match b,xs with
 |.len,[.str s]=>if s.length<=big then some (.int s.length)else none
 |.len,[.tup ds]=>some (.int ds.length)
 |.len,[x]=>(mJ x).map λds=>.int ds.length
 |.all,[x]=>((mJ x).bind boolsOf).map λbs=>.bl (bs.all id)
 |.sum,[x]=>((mJ x).bind intsOf).map λis=>.int is.sum
 |.min,[.int i,.int j]=>some (.int (if j<i then j else i))
 |.yr,[x]=>((mJ x).bind intsOf).bind λss=>if ss.length<64 then dS ((Ev.sortI ss).map .int)else none
 |.yt,[x]=>(KY x).bind λkvs=>if kvs.length<64 then dS ((Ev.sortI (kvs.map (·.1))).map .int)else none
 |_,_=>none
noncomputable def fJ(m:ME)(o:V)(xs:List V):Option V:=match m,o,xs with
 |.join,.str sep,[x]=>((mJ x).bind strsOf).bind λss=>if (ss.map (·.length)).sum+ss.length*sep.length<=big then some (.str (cL sep ss))else none
 |_,_,_=>none
noncomputable def mK(m:ME)(l:List V)(xs:List V):Option (V×List V):=match m,xs with
 |.append,[x]=>if l.length<big then some (.aH,l++[x])else none
 |.extend,[.lst es]=>if l.length+es.length<=big then some (.aH,l++es)else none
 |.pop,[]=>match l[l.length - 1]? with
  |some x=>some (x,l.dropLast)
  |none=>none
 |.lG,[x,.int k]=>(Ev.di l.length k).map λj=>(.aH,l.set j x)
 |_,_=>none
noncomputable def AF:ME->Bool
 |.extend=>true
 |_=>false
noncomputable def iX:ME->Bool
 |.append=>true
 |.extend=>true
 |.pop=>true
 |.lG=>true
 |_=>false
noncomputable def sQ:V->Bool
 |.aH=>true
 |.bl _=>true
 |.int _=>true
 |.str _=>true
 |_=>false
noncomputable def yP(x:V):List (D×D)->Option V
 |[]=>none
 | (k,v) :: r=>match (ofD k).bind λk'=>cC 1 k' x with
  |some true=>ofD v
  |some false=>yP x r
  |none=>none
noncomputable def eS(x:V)(kvs:List (D×D)):Option V:=if sQ x then yP x kvs else none
noncomputable def eB:V->Option (List V)
 |.tup ds=>some ds
 |.str s=>some (s.map λc=>.str [c])
 |.lst ds=>some ds
 |.bD ds=>some ds
 |_=>none
noncomputable def KZ:V->Option (List V)
 |.tup ds=>some ds
 |_=>none
noncomputable def range(lo:Int)(n:Nat):List V:=(List.range n).map λ(i:Nat)=>.int (lo+i)
noncomputable def dO:List V->Option (List V)
 |[.int j]=>if -(2 ^ 62)<=j/\j<2 ^ 62 then some (range 0 j.toNat)else none
 |[.int i,.int j]=>if -(2 ^ 62)<=i/\i<2 ^ 62/\-(2 ^ 62)<=j/\j<2 ^ 62 then some (range i (j - i).toNat)else none
 |_=>none
noncomputable def cG:Int->List V->List V
 |_,[]=>[]
 |k,x :: xs=>.tup [.int k,x] :: cG (k+1) xs
noncomputable def put(fr:Fr)(i:Nat)(s:Sl):Option Fr:=match fr[i]? with
 |some (some (.bor _))=>none
 |some (some (.ro _))=>none
 |_=>some (fr.set i (some s))
noncomputable def cK:List Nat->List V->Fr->Option Fr
 |[],[],fr=>some fr
 |i :: is,d :: ds,fr=>(put fr i (.val d)).bind (cK is ds)
 |_,_,_=>none
noncomputable def br:T->V->Fr->Option Fr
 |.one i,d,fr=>put fr i (.val d)
 |.many l,.tup ds,fr=>cK l ds fr
 |_,_,_=>none
noncomputable def undef(t:T)(fr:Fr):Bool:=(slots t).all λi=>(fr[i]?.join).isNone
noncomputable def Sl.read:Sl->Sl
 |.own l=>.ro l
 |.bor l=>.ro l
 |s=>s
noncomputable def sD(fr:Fr):Fr:=fr.map (Option.map Sl.read)
noncomputable def Sl.dg:Sl->Sl
 |.own l=>.val (.lst l)
 |s=>s
noncomputable def fF(fr:Fr):Fr:=fr.map (Option.map Sl.dg)
noncomputable def Sl.walk:Sl->Sl
 |.own l=>.val (.lst l)
 |.bor l=>.ro l
 |s=>s
noncomputable def lH(is:List Nat)(fr:Fr):Fr:=is.foldl (λfr i=>match fr[i]? with
 |some (some s)=>fr.set i (some s.walk)
 |_=>fr) fr
noncomputable def Sl.out:Sl->Option (List V)
 |.bor l=>some l
 |.ro l=>some l
 |_=>none
noncomputable def Sl.lend:Sl->Option Sl
 |.own l=>some (.bor l)
 |.bor l=>some (.bor l)
 |.ro l=>some (.ro l)
 |.val _=>none
noncomputable def lent(fr:Fr)(i:Nat):Option Sl:=match fr[i]? with
 |some (some s)=>s.lend
 |_=>none
noncomputable def Sl.with:Sl->List V->Sl
 |.own _,l=>.own l
 |.bor _,l=>.bor l
 |s,_=>s
noncomputable def back:List Nat->List (List V)->Fr->Option Fr
 |[],[],fr=>some fr
 |i :: is,l :: ls,fr=>match fr[i]? with
  |some (some s)=>back is ls (fr.set i (some (s.with l)))
  |_=>none
 |_,_,_=>none
noncomputable def cV(f:V->Option (Option V)):List V->Option (List V)
 |[]=>some []
 |d :: ds=>(f d).bind λo=>(cV f ds).bind λr=>some (o.toList++r)
noncomputable def forL(f:V->Fr->R Fl):List V->Fr->R Fl
 |[],fr=>.ok .nx fr
 |d :: ds,fr=>(f d fr).bind λp af=>match p with
   |.nx=>forL f ds af
   |.ct=>forL f ds af
   |.bk=>.ok .nx af
   |.ret x=>.ok (.ret x) af
noncomputable def gu(t:Fr->R Bool)(f:Fr->R Fl):Nat->Fr->R Fl
 |0,_=>.bad
 |n+1,fr=>(t fr).bind λb af=>if b then (f af).bind λp av=>match p with
   |.nx=>gu t f n av
   |.ct=>gu t f n av
   |.bk=>.ok .nx av
   |.ret x=>.ok (.ret x) av
  else .ok .nx af
noncomputable def jf:Es->List Nat
 |.nil=>[]
 |.cons (.v i) es=>i :: jf es
 |.cons _ es=>jf es
noncomputable def QK(m:ME):E->List Nat
 |.v i=>if iX m then [i]else []
 |_=>[]
mutual
noncomputable def bG:E->List Nat
 |.c _=>[]|.v _=>[]|.tup es=>fT es|.lst es=>fT es
 |.bin _ a b=>bG a++bG b|.cmp _ a b=>bG a++bG b
 |.nt a=>bG a|.neg a=>bG a|.an a b=>bG a++bG b|.orr a b=>bG a++bG b|.g9 t a b=>bG t++(bG a++bG b)
 |.ix a b=>bG a++bG b|.sl a lo hi=>bG a++(kG lo++kG hi)
 |.cl _ es=>fT es++jf es|.bi _ es=>fT es|.me m o es=>bG o++(fT es++QK m o)
 |.kO a _=>bG a
 |.comp _ _ it _=>CV it
 |.fS it=>CV it
 |.jw _ a=>bG a
 |.ig=>[]|.wG a k=>bG a++bG k|.mF a k x=>bG a++(bG k++bG x)
 |.jg a=>bG a
noncomputable def fT:Es->List Nat
 |.nil=>[]
 |.cons e es=>bG e++fT es
noncomputable def kG:Eo->List Nat
 |.no=>[]
 |.yes e=>bG e
noncomputable def CV:It->List Nat
 |.seq e=>bG e|.fR es=>fT es
 |.enum a=>bG a|.rev a=>bG a
end
noncomputable def kf(a:E)(l:List Nat):Bool:=match a with
 |.v i=>!l.contains i
 |_=>l.isEmpty
noncomputable def itv:It->List Nat
 |.seq (.v i)=>[i]
 |.enum (.v i)=>[i]
 |.rev (.v i)=>[i]
 |_=>[]
abbrev aR:=Nat->List Sl->Option (V×List (List V))
noncomputable def intOf:V->Option Int
 |.int i=>some i
 |_=>none
noncomputable def gH(k:Bool)(fr:Fr)(i:Nat):Option V:=match fr[i]? with
 |some (some (.val v))=>some v
 |some (some (.own l))=>if k then some (.lst l)else none
 |some (some (.bor l))=>if k then some (.lst l)else none
 |some (some (.ro l))=>if k then some (.lst l)else none
 |_=>none
noncomputable def qO(k:Bool)(fr:Fr)(i:Nat):Option V:=match fr[i]? with
 |some (some (.ro l))=>some (.lst l)
 |_=>gH k fr i
noncomputable def src(k:Bool)(fr:Fr)(e:E)(r:R V):R V:=match e with
 |.v i=>R.of (qO k fr i) fr
 |_=>r
noncomputable def jB(fr:Fr):E->Option Nat
 |.v i=>if (lent fr i).isSome then some i else none
 |_=>none
noncomputable def args(fr:Fr):List (Nat ⊕ V)->Option (List Sl)
 |[]=>some []
 |.inl i :: r=>(lent fr i).bind λs=>(args fr r).map λl=>s :: l
 |.inr v :: r=>(args fr r).map λl=>.val v :: l
noncomputable def bU:List (Nat ⊕ V)->List Nat
 |[]=>[]
 |.inl i :: r=>i :: bU r
 |.inr _ :: r=>bU r
noncomputable def eE(P:aR)(f:Nat)(as:List (Nat ⊕ V))(fr:Fr):R V:=
 if (bU as).Nodup then match args fr as with
  |some sl=>match P f sl with
   |some (v,outs)=>R.of ((back (bU as) outs fr).map λaf=>(v,af)) fr |>.bind λp _=>.ok p.1 p.2
   |none=>.bad
  |none=>.bad
 else .bad
mutual
noncomputable def ev(P:aR):Bool->E->Fr->R V
 |_,.c d,fr=>R.of (ofD d) fr
 |k,.v i,fr=>R.of (gH k fr i) fr
 |_,.tup es,fr=>(bZ P false es fr).bind λds af=>R.of (jU ds) af
 |_,.lst es,fr=>(bZ P false es fr).bind λds af=>R.of (dS ds) af
 |_,.bin o a b,fr=>(ev P (kf a (bG b)) a fr).bind λx af=>(ev P true b af).bind λy av=>R.of (bL o x y) av
 |_,.cmp o a b,fr=>(ev P (kf a (bG b)) a fr).bind λx af=>(ev P true b af).bind λy av=>R.of ((cop o x y).map .bl) av
 |_,.ig,_=>.bad
 |_,.wG a b,fr=>(ev P (kf a (bG b)) a fr).bind λx af=>(ev P true b af).bind λy av=>R.of (CU x y) av
 |_,.mF a b c,fr=>(ev P (kf a (bG b++bG c)) a fr).bind λx af=>(ev P (kf b (bG c)) b af).bind λy av=>(ev P false c av).bind λz bE=>R.of (uD x y z) bE
 |_,.nt a,fr=>(ev P true a fr).bind λx af=>match x with
   |.bl b=>.ok (.bl (!b)) af
   |_=>.bad
 |_,.neg a,fr=>(ev P true a fr).bind λx af=>match x with
   |.int i=>.ok (.int (-i)) af
   |_=>.bad
 |k,.an a b,fr=>(ev P true a fr).bind λx af=>match x with
   |.bl true=>ev P k b af
   |.bl false=>.ok (.bl false) af
   |_=>.bad
 |k,.orr a b,fr=>(ev P true a fr).bind λx af=>match x with
   |.bl true=>.ok (.bl true) af
   |.bl false=>ev P k b af
   |_=>.bad
 |k,.g9 t a b,fr=>(aK P t fr).bind λc af=>if c then ev P k a af else ev P k b af
 |_,.ix a b,fr=>(ev P (kf a (bG b)) a fr).bind λx af=>(ev P true b af).bind λy av=>R.of (ek x y) av
 |_,.sl a lo hi,fr=>(ev P (kf a (kG lo++kG hi)) a fr).bind λx af=>(fN P lo af).bind λl av=>(fN P hi av).bind λu bE=>R.of (gy x l u) bE
 |_,.cl f es,fr=>(fO P es fr).bind λas af=>eE P f as af
 |_,.bi b es,fr=>(bZ P true es fr).bind λds af=>R.of (cS b ds) af
 |_,.me m o es,fr=>if iX m then match jB fr o with
   |some i=>(bZ P (AF m) es fr).bind λds af=>match af[i]? with
    |some (some (.own l))=>match mK m l ds with
     |some (v,l')=>.ok v (af.set i (some (.own l')))
     |none=>.bad
    |some (some (.bor l))=>match mK m l ds with
     |some (v,l')=>.ok v (af.set i (some (.bor l')))
     |none=>.bad
    |_=>.bad
   |none=>.bad
  else (ev P (kf o (fT es)) o fr).bind λx af=>(bZ P true es af).bind λds av=>R.of (fJ m x ds) av
 |_,.kO a ts,fr=>(ev P true a fr).bind λx af=>.ok (.bl (ts.any (cW x))) af
 |_,.comp elt t it cond,fr=>(cB P true it fr).bind λs af=>if undef t af then
   R.of ((cV (λd=>match br t d (sD af)with
    |none=>none
    |some av=>match ir P cond av with
     |.ok c _=>if c then (match ev P false elt av with|.ok x _=>some (some x)|.bad=>none)else some none
     |.bad=>none) s).bind dS) af else .bad
 |_,.fS it,fr=>(cB P true it fr).bind λs af=>R.of (dS s) af
 |_,.jw kvs a,fr=>(ev P true a fr).bind λx af=>R.of (eS x kvs) af
 |_,.jg a,fr=>(ev P true a fr).bind λx af=>R.of (toT x) af
termination_by _ e=>(sizeOf e,0)
noncomputable def bZ(P:aR):Bool->Es->Fr->R (List V)
 |_,.nil,fr=>.ok [] fr
 |k,.cons e es,fr=>(ev P (k&&kf e (fT es)) e fr).bind λd af=>(bZ P k es af).bind λds av=>.ok (d :: ds) av
termination_by _ e=>(sizeOf e,0)
noncomputable def fO(P:aR):Es->Fr->R (List (Nat ⊕ V))
 |.nil,fr=>.ok [] fr
 |.cons e es,fr=>match jB fr e with
   |some i=>(fO P es fr).bind λr af=>.ok (.inl i :: r) af
   |none=>(ev P false e fr).bind λd af=>(fO P es af).bind λr av=>.ok (.inr d :: r) av
termination_by e=>(sizeOf e,0)
noncomputable def fN(P:aR):Eo->Fr->R (Option Int)
 |.no,fr=>.ok none fr
 |.yes e,fr=>(ev P true e fr).bind λd af=>R.of ((intOf d).map some) af
termination_by e=>(sizeOf e,0)
noncomputable def ir(P:aR):Eo->Fr->R Bool
 |.no,fr=>.ok true fr
 |.yes e,fr=>aK P e fr
termination_by e=>(sizeOf e,0)
noncomputable def aK(P:aR):E->Fr->R Bool
 |.an a b,fr=>(aK P a fr).bind λk af=>if k then aK P b af else .ok false af
 |.orr a b,fr=>(aK P a fr).bind λk af=>if k then .ok true af else aK P b af
 |.nt a,fr=>(aK P a fr).bind λk af=>.ok (!k) af
 |e,fr=>(ev P true e fr).bind λx af=>.ok (truthy x) af
termination_by e=>(sizeOf e,1)
noncomputable def cB(P:aR):Bool->It->Fr->R (List V)
 |k,.seq e,fr=>(src k fr e (ev P k e fr)).bind λx af=>R.of (eB x) af
 |_,.fR es,fr=>(bZ P true es fr).bind λds af=>R.of (dO ds) af
 |k,.enum a,fr=>(src k fr a (ev P k a fr)).bind λx af=>R.of ((mJ x).map λs=>cG 0 s) af
 |_,.rev a,fr=>(ev P true a fr).bind λx af=>R.of ((KZ x).map λs=>s.reverse) af
termination_by _ e=>(sizeOf e,0)
end
noncomputable def isNew:E->Bool
 |.lst _=>true
 |.fS _=>true
 |_=>false
noncomputable def jV(P:aR)(f:Nat):List V->List (Int×List Nat)->Option (List (Int×List Nat))
 |[],k=>some k
 |v :: vs,k=>match P f [.val v]with
  |some (.dct m,[])=>if k.length+m.length<=100000 then jV P f vs (Ev.cg k m)else none
  |_=>none
noncomputable def iY(fr:Fr)(x:Nat)(vs:List V):Option Fr:=match vs.getLast? with
 |some v=>put fr x (.val v)
 |none=>some fr
mutual
noncomputable def ex(P:aR)(w:Nat):S->Fr->R Fl
 |.set i e,fr=>(ev P false e fr).bind λx af=>if isNew e then (match x with
   |.lst l=>(R.of (put af i (.own l)) af).bind λav _=>.ok .nx av
   |_=>.bad)
  else (R.of (put af i (.val x)) af).bind λav _=>.ok .nx av
 |.kD l e,fr=>(ev P false e fr).bind λx af=>(R.of (br (.many l) x af) af).bind λav _=>.ok .nx av
 |.dput _ _ _,_=>.bad
 |.oS _ _,_=>.bad
 |.jy i x y f,fr=>if i≠y/\x≠i/\i<fr.length/\x<fr.length then (cB P false (.seq (.v y)) (lH [y] fr)).bind λvs af=>(R.of (jV P f vs []) af).bind λk av=>(R.of (put av i (.val (.dct k))) av).bind λbE _=>(R.of (iY bE x vs) bE).bind λgA _=>.ok .nx gA else .bad
 |.exp e,fr=>(ev P true e fr).bind λ_ af=>.ok .nx af
 |.ret e,fr=>(ev P false e (fF fr)).bind λx af=>.ok (.ret x) af
 |.iff t a b,fr=>(aK P t fr).bind λk af=>if k then exs P w a af else exs P w b af
 |.for t it b,fr=>(cB P false it (lH (itv it) fr)).bind λs af=>forL (λd av=>match br t d av with
   |some bE=>exs P w b bE
   |none=>.bad) s af
 |.EB t b,fr=>gu (λav=>aK P t av) (λav=>exs P w b av) w fr
 |.gR,_=>.bad
noncomputable def exs(P:aR)(w:Nat):Ss->Fr->R Fl
 |.nil,fr=>.ok .nx fr
 |.cons s ss,fr=>(ex P w s fr).bind λp af=>match p with
   |.nx=>exs P w ss af
   |p=>.ok p af
end
noncomputable def eO(fn:Fn)(ds:List Sl):Fr:=ds.map some++List.replicate (fn.ns - fn.np) none
noncomputable def outs(np:Nat)(fr:Fr):List (List V):=(fr.take np).filterMap λo=>o.bind Sl.out
noncomputable def EX:Ss:=.cons (.dput (.v 1) (.v 2) (.v 4)) (.cons (.set 2 (.bin .add (.v 2) (.c (.int 1)))) .nil)
noncomputable def uE:Ss:=.cons (.iff (.cmp .eq (.ix (.v 3) (.c (.int 0))) (.c (.str [100,114,111,112]))) (.cons (.for (.one 4) (.seq (.ix (.v 3) (.c (.int 1)))) EX) .nil) (.cons (.iff (.cmp .eq (.ix (.v 3) (.c (.int 0))) (.c (.str [107,101,101,112]))) (.cons (.set 2 (.bin .add (.v 2) (.ix (.v 3) (.c (.int 1))))) .nil) .nil) .nil)) .nil
noncomputable def fU:Fn:=⟨1,5,.cons (.set 1 .ig) (.cons (.set 2 (.c (.int 0))) (.cons (.for (.one 3) (.seq (.v 0)) uE) (.cons (.ret (.v 1)) .nil)))⟩
noncomputable def gw:List (Int×List Nat)->Int->List Nat->List (Int×List Nat)
 |k,_,[]=>k
 |k,p,c :: s=>gw (Ev.cI k p [c]) (p+1) s
noncomputable def bh:List V->Int->List (Int×List Nat)->Option (List (Int×List Nat))
 |[],_,k=>some k
 |.tup [.str w,.str s] :: r,p,k=>if w=[100,114,111,112]then (if k.length+s.length<=100000 then bh r (p+s.length) (gw k p s)else none)else if w=[107,101,101,112]then none else bh r p k
 |.tup [.str w,.int i] :: r,p,k=>if w=[107,101,101,112]then bh r (p+i) k else none
 |_ :: _,_,_=>none
open Classical in
noncomputable def xm(fn:Fn)(ds:List Sl):Option (V×List (List V)):=if fn=fU then match ds with
  |[.val (.tup l)]=>(bh l 0 []).map λk=>(.dct k,[])
  |_=>none
 else none
noncomputable def run(F:List Fn)(w:Nat):Nat->aR
 |0,_,_=>none
 |n+1,f,ds=>match F[f]? with
  |some fn=>if ds.length=fn.np then match exs (run F w n) w fn.body (eO fn ds)with
    |.ok (.ret v) fr=>some (v,outs fn.np fr)
    |.ok .nx fr=>some (.aH,outs fn.np fr)
    |_=>xm fn ds
   else none
  |none=>none
end Pv
namespace Pv
open Ev (D O Hh bQ bK TY BI ME T E Es Eo It S Ss Fn big deep b2i rep cA di bM aV cut cL dY slots aZ)
section
variable(h:Hh)(S:Nat->Prop)
mutual
noncomputable def Rep:V->D->Prop
 |.aH,d=>d=.aH
 |.bl b,d=>d=.bl b
 |.int i,d=>d=.int i
 |.str s,d=>d=.str s
 |.tup l,d=>∃ds,d=.tup ds/\au l ds
 |.lst l,d=>∃n ds,d=.ref n/\S n/\h[n]?=some (.lst ds)/\au l ds
 |.bD l,d=>∃n ds,d=.ref n/\S n/\h[n]?=some (.bD ds)/\au l ds
 |.dct kvs,d=>∃n,d=.ref n/\S n/\h[n]?=some (.dct kvs)
noncomputable def au:List V->List D->Prop
 |[],ds=>ds=[]
 |v :: vs,ds=>∃d es,ds=d :: es/\Rep v d/\au vs es
end
noncomputable def bq:V->D->Prop
 |.lst l,d=>∃n ds,d=.ref n/\h[n]?=some (.lst ds)/\au h S l ds
 |v,d=>Rep h S v d
noncomputable def fP:List V->List D->Prop
 |[],ds=>ds=[]
 |v :: vs,ds=>∃d es,ds=d :: es/\bq h S v d/\fP vs es
end
abbrev U:Nat->Prop:=λ_=>True
section
variable{h h':Hh}{S S':Nat->Prop}
mutual
theorem Rep.mono(f:∀m,S m->h'[m]?=h[m]?)(g:∀m,S m->S' m):∀{v:V}{d:D},Rep h S v d->Rep h' S' v d
 |.aH,_,q=>q
 |.bl _,_,q=>q
 |.int _,_,q=>q
 |.str _,_,q=>q
 |.tup l,_,⟨ds,a,b⟩=>⟨ds,a,au.mono f g b⟩
 |.lst l,_,⟨n,ds,a,b,c,e⟩=>⟨n,ds,a,g n b,by rw[f n b];exact c,au.mono f g e⟩
 |.bD l,_,⟨n,ds,a,b,c,e⟩=>⟨n,ds,a,g n b,by rw[f n b];exact c,au.mono f g e⟩
 |.dct kvs,_,⟨n,a,b,c⟩=>⟨n,a,g n b,by rw[f n b];exact c⟩
theorem au.mono(f:∀m,S m->h'[m]?=h[m]?)(g:∀m,S m->S' m):∀{v:List V}{d:List D},au h S v d->au h' S' v d
 |[],_,q=>q
 |_ :: _,_,⟨d,es,a,b,c⟩=>⟨d,es,a,Rep.mono f g b,au.mono f g c⟩
end
theorem au.nil:au h S [] []:=by simp[au]
theorem au.cons{v:V}{d:D}{vs:List V}{ds:List D}(a:Rep h S v d)(b:au h S vs ds):au h S (v :: vs) (d :: ds):=by simp only[au];exact⟨d,ds,rfl,a,b⟩
theorem Rep.top{v:V}{d:D}(q:Rep h S v d):bq h S v d:=by
 cases v<;>first|exact q | (obtain⟨n,ds,a,b,c,e⟩:=q;exact⟨n,ds,a,c,e⟩)
theorem bq.u{v:V}{d:D}(q:bq h S v d):Rep h U v d:=by
 cases v with
 |lst l=>obtain⟨n,ds,a,b,c⟩:=q;exact⟨n,ds,a,trivial,b,c.mono (λ_ _=>rfl) λ_ _=>trivial⟩
 |_=>exact Rep.mono (S:=S) (λ_ _=>rfl) (λ_ _=>trivial) q
theorem au.u{v:List V}{d:List D}(q:au h S v d):au h U v d:=q.mono (λ_ _=>rfl) λ_ _=>trivial
theorem bq.mono{v:V}{d:D}(f:∀m,m<h.length->h'[m]?=h[m]?)(k:∀m,S m->m<h.length)(g:∀m,S m->S' m)(q:bq h S v d):bq h' S' v d:=by
 cases v with
 |lst l=>
  obtain⟨n,ds,a,b,c⟩:=q;exact⟨n,ds,a,by rw[f n (List.getElem?_eq_some_iff.mp b).1];exact b,c.mono (λm z=>f m (k m z)) g⟩
 |_=>exact Rep.mono (λm z=>f m (k m z)) g q
theorem au.length:∀{v:List V}{d:List D},au h S v d->v.length=d.length
 |[],_,q=>by simp only[au]at q;subst q;rfl
 |_ :: _,_,q=>by simp only[au]at q;obtain⟨d,es,rfl,_,c⟩:=q;simp[c.length]
theorem au.get:∀{v:List V}{d:List D}{i:Nat}{x:V},au h S v d->v[i]?=some x->∃y,d[i]?=some y/\Rep h S x y
 |[],_,_,_,_,e=>by simp at e
 |_ :: _,_,0,_,q,e=>by
  simp only[au]at q;obtain⟨d,es,rfl,b,_⟩:=q;simp at e;subst e;exact⟨d,by simp,b⟩
 |_ :: _,_,i+1,_,q,e=>by
  simp only[au]at q;obtain⟨d,es,rfl,_,c⟩:=q;obtain⟨y,a,b⟩:=c.get (i:=i) (by simpa using e);exact⟨y,by simpa using a,b⟩
theorem au.append:∀{v w:List V}{d e:List D},au h S v d->au h S w e->au h S (v++w) (d++e)
 |[],_,_,_,a,b=>by simp only[au]at a;subst a;simpa using b
 |_ :: _,_,_,_,a,b=>by
  simp only[au]at a;obtain⟨d,es,rfl,x,y⟩:=a;exact .cons x (y.append b)
theorem au.take:∀{v:List V}{d:List D}(n:Nat),au h S v d->au h S (v.take n) (d.take n)
 |_,_,0,_=>by simp[au]
 |[],_,_+1,a=>by simp only[au]at a;subst a;simp[au]
 |_ :: _,_,n+1,a=>by
  simp only[au]at a;obtain⟨d,es,rfl,x,y⟩:=a;simp only[List.take_succ_cons];exact .cons x (y.take n)
theorem au.drop:∀{v:List V}{d:List D}(n:Nat),au h S v d->au h S (v.drop n) (d.drop n)
 |_,_,0,a=>by simpa using a
 |[],_,_+1,a=>by simp only[au]at a;subst a;simp[au]
 |_ :: _,_,n+1,a=>by
  simp only[au]at a;obtain⟨d,es,rfl,x,y⟩:=a;simp only[List.drop_succ_cons];exact y.drop n
theorem au.set:∀{v:List V}{d:List D}(j:Nat) {x:V}{y:D},au h S v d->Rep h S x y->au h S (v.set j x) (d.set j y)
 |[],_,_,_,_,a,_=>by simp only[au]at a;subst a;simp[au]
 |_ :: _,_,0,_,_,a,b=>by
  simp only[au]at a;obtain⟨d,es,rfl,x,y⟩:=a;exact .cons b y
 |_ :: _,_,j+1,_,_,a,b=>by
  simp only[au]at a;obtain⟨d,es,rfl,x,y⟩:=a;exact .cons x (y.set j b)
theorem au.dropLast:∀{v:List V}{d:List D},au h S v d->au h S v.dropLast d.dropLast:=λ{v d} a=>by
 rw[List.dropLast_eq_take,List.dropLast_eq_take,a.length];exact a.take _
theorem au.reverse:∀{v:List V}{d:List D},au h S v d->au h S v.reverse d.reverse
 |[],_,a=>by simp only[au]at a;subst a;simp[au]
 |_ :: _,_,a=>by
  simp only[au]at a;obtain⟨d,es,rfl,x,y⟩:=a;simp only[List.reverse_cons];exact y.reverse.append (.cons x .nil)
theorem au.rep{v:List V}{d:List D}(a:au h S v d):∀k:Nat,au h S (Ev.rep k v) (Ev.rep k d)
 |0=>by simp[Ev.rep,au]
 |k+1=>by
  have z:=au.rep a k;simp only[Ev.rep,List.replicate_succ,List.flatten_cons]at z ⊢;exact a.append z
theorem au.cut{v:List V}{d:List D}(a:au h S v d)(lo hi:Option Int):au h S (Ev.cut v lo hi) (Ev.cut d lo hi):=by
 unfold Ev.cut;rw[a.length];exact(a.drop _).take _
theorem au.map{α:Type}{f:α->V}{g:α->D}(q:∀a,Rep h S (f a) (g a)):∀l:List α,au h S (l.map f) (l.map g)
 |[]=>.nil
 |_ :: l=>.cons (q _) (au.map q l)
mutual
theorem Rep.uniq:∀{v w:V}{d:D},Rep h U v d->Rep h U w d->v=w
 |.aH,w,_,a,b=>by simp only[Rep]at a;subst a;cases w<;>simp[Rep]at b<;>rfl
 |.bl _,w,_,a,b=>by simp only[Rep]at a;subst a;cases w<;>simp[Rep]at b<;>rw[b]
 |.int _,w,_,a,b=>by simp only[Rep]at a;subst a;cases w<;>simp[Rep]at b<;>rw[b]
 |.str _,w,_,a,b=>by simp only[Rep]at a;subst a;cases w<;>simp[Rep]at b<;>rw[b]
 |.tup l,w,_,a,b=>by
  simp only[Rep]at a;obtain⟨ds,rfl,a⟩:=a;cases w<;>simp[Rep]at b
  rw[au.uniq a b]
 |.lst l,w,_,a,b=>by
  simp only[Rep]at a;obtain⟨n,ds,rfl,_,a1,a⟩:=a;cases w<;>simp[Rep]at b
  .obtain⟨ds',b1,b⟩:=b;rw[a1]at b1;cases b1;rw[au.uniq a b]
  .obtain⟨ds',b1,b⟩:=b;rw[a1]at b1;cases b1
  .rw[a1]at b;cases b
 |.bD l,w,_,a,b=>by
  simp only[Rep]at a;obtain⟨n,ds,rfl,_,a1,a⟩:=a;cases w<;>simp[Rep]at b
  .obtain⟨ds',b1,b⟩:=b;rw[a1]at b1;cases b1
  .obtain⟨ds',b1,b⟩:=b;rw[a1]at b1;cases b1;rw[au.uniq a b]
  .rw[a1]at b;cases b
 |.dct kvs,w,_,a,b=>by
  simp only[Rep]at a;obtain⟨n,rfl,_,a1⟩:=a;cases w<;>simp[Rep]at b
  .obtain⟨ds',b1,b⟩:=b;rw[a1]at b1;cases b1
  .obtain⟨ds',b1,b⟩:=b;rw[a1]at b1;cases b1
  .rw[a1]at b;cases b;rfl
theorem au.uniq:∀{v w:List V}{d:List D},au h U v d->au h U w d->v=w
 |[],w,_,a,b=>by simp only[au]at a;subst a;cases w<;>simp[au]at b;rfl
 |x :: xs,w,_,a,b=>by
  simp only[au]at a;obtain⟨d,es,rfl,a1,a2⟩:=a;cases w<;>simp only[au]at b
  .cases b
  obtain⟨d',es',e,b1,b2⟩:=b;cases e;rw[Rep.uniq a1 b1,au.uniq a2 b2]
end
theorem uF{n:Nat}(f:∀v b,cC n v v=some b->b=true):∀l b,cD (cC n) l l=some b->b=true
 |[],b,e=>by simp[cD]at e;exact e
 |x :: xs,b,e=>by
  simp only[cD,Option.bind_eq_some_iff]at e;obtain⟨c,e1,c2,e2,e⟩:=e;rw[f x c e1,uF f xs c2 e2]at e;simpa using e.symm
theorem uG:∀n v b,cC n v v=some b->b=true
 |0,_,_,e=>by cases e
 |n+1,v,b,e=>by
  cases v<;>first|exact uF (uG n) _ _ e | (cases e<;>first|rfl|exact beq_self_eq_true _)
theorem uH{n:Nat}(f:∀{v w:V}{d e:D}{b},cC n v w=some b->Rep h U v d->Rep h U w e->Ev.fM h n d e=some b):∀{l m:List V}{ds es:List D}{b},cD (cC n) l m=some b->au h U l ds->au h U m es->Ev.cD (Ev.fM h n) ds es=some b
 |[],[],_,_,b,e,p,q=>by simp only[au]at p q;subst p q;simpa[cD,Ev.cD]using e
 |[],_ :: _,_,_,b,e,p,q=>by simp only[au]at p q;subst p;obtain⟨_,_,rfl,_⟩:=q;simpa[cD,Ev.cD]using e
 |_ :: _,[],_,_,b,e,p,q=>by simp only[au]at p q;subst q;obtain⟨_,_,rfl,_⟩:=p;simpa[cD,Ev.cD]using e
 |x :: xs,y :: ys,_,_,b,e,p,q=>by
  simp only[au]at p q;obtain⟨d,ds,rfl,p1,p2⟩:=p;obtain⟨d',ds',rfl,q1,q2⟩:=q;simp only[cD,Option.bind_eq_some_iff]at e;obtain⟨c,e1,c2,e2,e⟩:=e;simp[Ev.cD,f e1 p1 q1,uH f e2 p2 q2];simpa using e
theorem gI{n:Nat}{ds:List D}(q:h[n]?=some (.lst ds)):aZ h n=some ds:=by simp[aZ,q]
theorem iz{n:Nat}{ds:List D}(q:h[n]?=some (.bD ds)):aZ h n=some ds:=by simp[aZ,q]
theorem jW:∀(n:Nat) {v w:V}{d e:D}{b},cC n v w=some b->Rep h U v d->Rep h U w e->Ev.fM h n d e=some b
  |0,_,_,_,_,_,e,_,_=>by cases e
  |n+1,v,w,d,e,b,x,p,q=>by
    by_cases hr:∃m,d=.ref m/\e=.ref m
    . obtain⟨m,rfl,rfl⟩:=hr;have hvw:=p.uniq q;subst hvw;have hb:=uG _ _ _ x;subst hb;cases v<;>simp[Rep]at p
      . obtain⟨ds,p1,p2⟩:=p;show Ev.jS _ _ _ _=_;rw[Ev.jS,if_pos rfl,gI p1];rfl
      . obtain⟨ds,p1,p2⟩:=p;show Ev.jS _ _ _ _=_;rw[Ev.jS,if_pos rfl,iz p1];rfl
      . cases x
    . cases v<;>cases w<;>simp only[Rep]at p q <;>
      first
      | (subst p;subst q;exact x)
      | (obtain⟨ds,rfl,p⟩:=p;subst q;exact x)
      | (obtain⟨ds,rfl,q⟩:=q;subst p;exact x)
      | (obtain⟨ds,rfl,p⟩:=p;obtain⟨es,rfl,q⟩:=q;exact uH (λa b c=>jW n a b c) x p q)
      | (cases x;done)
      | (obtain⟨m,ds,rfl,_,p1,p⟩:=p;obtain⟨k,es,rfl,_,q1,q⟩:=q
         have hne:m≠k:=λz=>hr ⟨m,rfl,by rw[z]⟩;show Ev.jS _ _ _ _=_;rw[Ev.jS,if_neg hne,p1,q1];exact uH (λa b c=>jW n a b c) x p q)
      | (cases x;obtain⟨m,ds,rfl,_,p1,p⟩:=p;subst q;exact congrArg (Option.map λ_=>false) (gI p1))
      | (cases x;obtain⟨m,ds,rfl,_,p1,p⟩:=p;subst q;exact congrArg (Option.map λ_=>false) (iz p1))
      | (cases x;obtain⟨m,ds,rfl,_,p1,p⟩:=p;obtain⟨es,rfl,q⟩:=q;exact congrArg (Option.map λ_=>false) (gI p1))
      | (cases x;obtain⟨m,ds,rfl,_,p1,p⟩:=p;obtain⟨es,rfl,q⟩:=q;exact congrArg (Option.map λ_=>false) (iz p1))
      | (cases x;obtain⟨m,ds,rfl,_,q1,q⟩:=q;subst p;exact congrArg (Option.map λ_=>false) (gI q1))
      | (cases x;obtain⟨m,ds,rfl,_,q1,q⟩:=q;subst p;exact congrArg (Option.map λ_=>false) (iz q1))
      | (cases x;obtain⟨m,ds,rfl,_,q1,q⟩:=q;obtain⟨es,rfl,p⟩:=p;exact congrArg (Option.map λ_=>false) (gI q1))
      | (cases x;obtain⟨m,ds,rfl,_,q1,q⟩:=q;obtain⟨es,rfl,p⟩:=p;exact congrArg (Option.map λ_=>false) (iz q1))
end
end Pv
namespace Pv
open Ev (D O Hh bQ bK TY BI ME T E Es Eo It S Ss Fn big deep b2i rep cA di bM aV cut cL dY slots aZ)
structure Al(h:Hh)(S:Nat->Prop)(h':Hh)(S':Nat->Prop):Prop where
 len:h.length<=h'.length
 keep:∀m,m<h.length->h'[m]?=h[m]?
 sub:∀m,S m->S' m
 new:∀m,S' m->S m\/(h.length<=m/\m<h'.length)
section
variable{h h':Hh}{S S':Nat->Prop}
theorem Al.refl:Al h S h S:=⟨Nat.le_refl _,λ_ _=>rfl,λ_ q=>q,λ_ q=>.inl q⟩
theorem Al.snoc(o:O):Al h S (h++[o]) (λm=>S m\/m=h.length) where
 len:=by simp
 keep:=λm q=>by rw[List.getElem?_append_left q]
 sub:=λ_ q=>.inl q
 new:=λm q=>by
  rcases q with q|q
  .exact .inl q
  .subst q;exact .inr ⟨Nat.le_refl _,by simp⟩
theorem iA{l:List V}{v:V}{ds:List D}(w:∀m,S m->m<h.length)(e:dS l=some v)(q:au h S l ds):∃r h' S',Ev.alloc ds h=.ok r h'/\Rep h' S' v r/\Al h S h' S':=by
 unfold dS at e;split at e
 .rename_i z;cases e;refine⟨.ref h.length,h++[.lst ds],λm=>S m\/m=h.length,by unfold Ev.alloc;rw[if_pos (by rw[<-q.length];exact z)],?_,Al.snoc _⟩;simp only[Rep];refine⟨h.length,ds,rfl,.inr rfl,by simp,q.mono (λm z=>?_) λ_ z=>.inl z⟩;rw[List.getElem?_append_left (w m z)]
 .cases e
theorem kP{v:V}{l:List V}{d:D}(e:mJ v=some l)(q:bq h S v d):∃n ds,d=.ref n/\aZ h n=some ds/\au h S l ds:=by
 cases v<;>simp[mJ]at e
 .subst e;simp only[bq]at q;obtain⟨n,ds,rfl,a,b⟩:=q;exact⟨n,ds,rfl,gI a,b⟩
 .subst e;simp only[bq,Rep]at q;obtain⟨n,ds,rfl,_,a,b⟩:=q;exact⟨n,ds,rfl,iz a,b⟩
mutual
theorem m7:∀{d:D}{v:V},ofD d=some v->Rep h S v d
 |.aH,_,e=>by simp[ofD]at e;subst e;simp[Rep]
 |.bl _,_,e=>by simp[ofD]at e;subst e;simp[Rep]
 |.int _,_,e=>by simp[ofD]at e;subst e;simp[Rep]
 |.str _,_,e=>by simp[ofD]at e;subst e;simp[Rep]
 |.ref _,_,e=>by simp[ofD]at e
 |.tup ds,_,e=>by
  simp[ofD]at e;obtain⟨vs,e,rfl⟩:=e;exact⟨ds,rfl,xo e⟩
theorem xo:∀{d:List D}{v:List V},uC d=some v->au h S v d
 |[],_,e=>by simp[uC]at e;subst e;exact .nil
 |d :: ds,_,e=>by
  simp only[uC,Option.bind_eq_some_iff,Option.map_eq_some_iff]at e;obtain⟨v,e1,vs,e2,rfl⟩:=e;exact .cons (m7 e1) (xo e2)
end
theorem au.emp{l:List V}{ds:List D}(q:au h S l ds):ds.isEmpty=l.isEmpty:=by
 have:=q.length;cases l<;>cases ds<;>simp at this ⊢
theorem K0{v:V}{d:D}{kvs:List (Int×List Nat)}(z:KY v=some kvs)(p:bq h S v d):∃n,d=.ref n/\h[n]?=some (.dct kvs):=by
 cases v<;>simp only[KY,reduceCtorEq,Option.some.injEq]at z
 subst z;simp only[bq,Rep]at p;obtain⟨n,rfl,_,a⟩:=p;exact⟨n,rfl,a⟩
theorem AG{v:V}{d:D}(q:bq h S v d):Ev.truthy h d=some (truthy v):=by
 cases v<;>simp only[bq,Rep]at q
 .subst q;rfl
 .subst q;rfl
 .subst q;rfl
 .subst q;rfl
 .obtain⟨ds,rfl,q⟩:=q;simp only[Ev.truthy,truthy,q.emp]
 .obtain⟨n,ds,rfl,a,q⟩:=q;simp only[Ev.truthy,truthy,gI a,Option.map,q.emp];rw[a]
 .obtain⟨n,ds,rfl,_,a,q⟩:=q;simp only[Ev.truthy,truthy,iz a,Option.map,q.emp];rw[a]
 .obtain⟨n,rfl,_,a⟩:=q;simp only[Ev.truthy,truthy];rw[a]
theorem nn{α:Type}{v:α}{p:Prop}(z:none=some v):p:=Option.noConfusion rfl (heq_of_eq z)
theorem K2{o:bQ}{x y v:V}{d e:D}(w:∀m,S m->m<h.length)(z:bL o x y=some v)(p:bq h S x d)(q:bq h S y e):∃r h' S',Ev.bL o d e h=.ok r h'/\Rep h' S' v r/\Al h S h' S':=by
 cases o<;>cases x<;>first|exact nn z | (cases y<;>first|exact nn z|skip)
 all_goals (delta bL at z;dsimp only at z;simp only[bq,Rep]at p q)
 .subst p q;cases z;exact⟨_,_,S,rfl,rfl,.refl⟩
 .subst p q;split at z
  .rename_i k;cases z;exact⟨_,_,S,by delta Ev.bL;dsimp only;rw[if_pos k],rfl,.refl⟩
  .cases z
 .obtain⟨ds,rfl,p⟩:=p;obtain⟨es,rfl,q⟩:=q;split at z
  .rename_i k;cases z;exact⟨_,_,S,by delta Ev.bL;dsimp only;rw[if_pos (by rw[<-p.length,<-q.length];exact k)],⟨_,rfl,p.append q⟩,.refl⟩
  .cases z
 .obtain⟨n,ds,rfl,a,p⟩:=p;obtain⟨m,es,rfl,b,q⟩:=q
  delta Ev.bL;dsimp only;simp only[a,b]
  exact iA w z (p.append q)
 .subst p q;cases z;exact⟨_,_,S,rfl,rfl,.refl⟩
 .subst p q;split at z
  .rename_i k;cases z;exact⟨_,_,S,by delta Ev.bL;dsimp only;rw[if_pos k],rfl,.refl⟩
  .cases z
 .subst p q;split at z
  .rename_i k;cases z;exact⟨_,_,S,by delta Ev.bL;dsimp only;rw[if_pos k],rfl,.refl⟩
  .cases z
 .obtain⟨ds,rfl,p⟩:=p;subst q;split at z
  .rename_i k;cases z;exact⟨_,_,S,by delta Ev.bL;dsimp only;rw[if_pos (by rw[<-p.length];exact k)],⟨_,rfl,p.rep _⟩,.refl⟩
  .cases z
 .obtain⟨n,ds,rfl,a,p⟩:=p;subst q;split at z
  .rename_i k
   delta Ev.bL;dsimp only;simp only[a]
   rw[if_pos (by rw[<-p.length];exact k)];exact iA w z (p.rep _)
  .cases z
 .subst p q;split at z
  .rename_i k;cases z;exact⟨_,_,S,by delta Ev.bL;dsimp only;rw[if_pos k],rfl,.refl⟩
  .cases z
 .subst p q;split at z
  .rename_i k;cases z;exact⟨_,_,S,by delta Ev.bL;dsimp only;rw[if_pos k],rfl,.refl⟩
  .cases z
theorem pM{x:V}{d:D}(p:Rep h U x d):∀{l:List V}{ds:List D}{b},mem x l=some b->au h U l ds->Ev.mem h d ds=some b
 |[],_,b,e,q=>by simp only[au]at q;subst q;simpa[mem,Ev.mem]using e
 |y :: ys,_,b,e,q=>by
  simp only[au]at q;obtain⟨d',ds,rfl,q1,q2⟩:=q;simp only[mem,Option.bind_eq_some_iff]at e;obtain⟨c,e1,c2,e2,e⟩:=e;simp[Ev.mem,jW deep e1 q1 p,pM p e2 q2];simpa using e
theorem xq{x y:V}{d e:D}{b:Bool}(z:isin x y=some b)(p:Rep h U x d)(q:Rep h U y e):Ev.isin d e h=some b:=by
 cases y<;>simp only[isin,reduceCtorEq]at z<;>simp only[Rep]at q
 .subst q;split at z
  .simp only[Rep]at p;subst p;simpa[Ev.isin]using z
  .cases z
 .obtain⟨ds,rfl,q⟩:=q;simpa[Ev.isin]using pM p z q
 .obtain⟨n,ds,rfl,_,a,q⟩:=q;simpa[Ev.isin,gI a]using pM p z q
 .obtain⟨n,ds,rfl,_,a,q⟩:=q;simpa[Ev.isin,iz a]using pM p z q
theorem K3{o:bK}{x y:V}{d e:D}{b:Bool}(z:cop o x y=some b)(p:Rep h U x d)(q:Rep h U y e):Ev.cop o d e h=some b:=by
 cases o
 case eq=>delta cop at z;dsimp only at z;delta Ev.cop;dsimp only;exact jW deep z p q
 case ne=>
  delta cop at z;dsimp only at z;simp only[Option.map_eq_some_iff]at z;obtain⟨c,z,rfl⟩:=z
  delta Ev.cop;dsimp only;simp only[jW deep z p q];rfl
 case isin=>delta cop at z;dsimp only at z;delta Ev.cop;dsimp only;exact xq z p q
 case fD=>
  delta cop at z;dsimp only at z;simp only[Option.map_eq_some_iff]at z;obtain⟨c,z,rfl⟩:=z
  delta Ev.cop;dsimp only;simp only[xq z p q];rfl
 case jA=>
  cases y <;> (delta cop at z;dsimp only at z) <;> (try simp only[reduceCtorEq]at z)
  simp only[Rep]at q;subst q;cases x<;>simp only[Rep]at p <;> (try obtain⟨_,rfl,_⟩:=p) <;> (try obtain⟨_,_,rfl,_⟩:=p) <;> (try subst p) <;> (delta Ev.cop;dsimp only;simpa using z)
 case jR=>
  cases y <;> (delta cop at z;dsimp only at z) <;> (try simp only[reduceCtorEq]at z)
  simp only[Rep]at q;subst q;cases x<;>simp only[Rep]at p <;> (try obtain⟨_,rfl,_⟩:=p) <;> (try obtain⟨_,_,rfl,_⟩:=p) <;> (try subst p) <;> (delta Ev.cop;dsimp only;simpa using z)
 all_goals (
  cases x<;>first|exact nn z | (cases y<;>first|exact nn z|skip)
  simp only[Rep]at p q;subst p q;exact z)
theorem yQ{l:List V}{ds:List D}{i:Int}{v:V}(e:bM l i=some v)(q:au h S l ds):∃d,bM ds i=some d/\Rep h S v d:=by
 unfold bM at e ⊢;rw[q.length]at e;cases z:di ds.length i with
 |none=>rw[z]at e;cases e
 |some j=>rw[z]at e;exact q.get e
theorem K4{x y v:V}{d e:D}(z:ek x y=some v)(p:bq h S x d)(q:bq h S y e):∃r,Ev.ek d e h=some r/\Rep h S v r:=by
 cases x<;>cases y<;>simp only[ek,reduceCtorEq]at z<;>simp only[bq,Rep]at p q
 .subst p q;simp only[Option.map_eq_some_iff]at z;obtain⟨c,z,rfl⟩:=z;exact⟨.str [c],by simp[Ev.ek,z],rfl⟩
 .obtain⟨ds,rfl,p⟩:=p;subst q;simpa[Ev.ek]using yQ z p
 .obtain⟨n,ds,rfl,a,p⟩:=p;subst q;simpa[Ev.ek,gI a]using yQ z p
 .obtain⟨n,ds,rfl,_,a,p⟩:=p;subst q;simpa[Ev.ek,iz a]using yQ z p
theorem K5{x v:V}{d:D}{lo hi:Option Int}(w:∀m,S m->m<h.length)(z:gy x lo hi=some v)(p:bq h S x d):∃r h' S',Ev.gy d lo hi h=.ok r h'/\Rep h' S' v r/\Al h S h' S':=by
 cases x<;>simp only[gy,reduceCtorEq]at z<;>simp only[bq,Rep]at p
 .subst p;cases z;exact⟨_,_,S,rfl,rfl,.refl⟩
 .obtain⟨ds,rfl,p⟩:=p;cases z;exact⟨_,_,S,rfl,⟨_,rfl,p.cut _ _⟩,.refl⟩
 .obtain⟨n,ds,rfl,a,p⟩:=p;simp only[Ev.gy,gI a];exact iA w z (p.cut _ _)
 .obtain⟨n,ds,rfl,_,a,p⟩:=p;simp only[Ev.gy,iz a];exact iA w z (p.cut _ _)
theorem K6{x v:V}{d:D}(z:toT x=some v)(p:bq h S x d):∃r,Ev.qE d h=.ok r h/\Rep h S v r:=by
 cases x<;>simp only[toT,reduceCtorEq]at z<;>simp only[bq,Rep]at p
 .obtain⟨ds,rfl,p⟩:=p;cases z;exact⟨_,rfl,⟨_,rfl,p⟩⟩
 .obtain⟨n,ds,rfl,a,p⟩:=p;unfold jU at z;split at z
  .rename_i k;cases z;refine⟨.tup ds,?_,⟨_,rfl,p⟩⟩;simp only[Ev.qE,gI a];rw[if_pos (by rw[<-p.length];exact k)]
  .cases z
 .obtain⟨n,ds,rfl,_,a,p⟩:=p;unfold jU at z;split at z
  .rename_i k;cases z;refine⟨.tup ds,?_,⟨_,rfl,p⟩⟩;simp only[Ev.qE,iz a];rw[if_pos (by rw[<-p.length];exact k)]
  .cases z
theorem G8{x:V}{l:List V}{d:D}(z:mJ x=some l)(p:bq h S x d):∃s,Ev.yw h d=some s/\au h S l s.1/\(∀q∈s.2,d=.ref q.1/\aZ h q.1=some q.2):=by
 obtain⟨n,ds,rfl,a,q⟩:=kP z p;exact⟨(ds,[(n,ds)]),by simp[Ev.yw,a],q,by simp[a]⟩
theorem G9{x:V}{d:D}(p:bq h S x d)(t:TY):Ev.cW h d t=cW x t:=by
 cases x<;>simp only[bq,Rep]at p
 .subst p;cases t<;>rfl
 .subst p;cases t<;>rfl
 .subst p;cases t<;>rfl
 .subst p;cases t<;>rfl
 .obtain⟨_,rfl,_⟩:=p;cases t<;>rfl
 .obtain⟨n,ds,rfl,a,p⟩:=p;cases t<;>simp[Ev.cW,cW,gI a]
 .obtain⟨n,ds,rfl,_,a,p⟩:=p;cases t<;>simp[Ev.cW,cW,iz a]
 .obtain⟨n,rfl,_,a⟩:=p;cases t<;>simp[Ev.cW,cW,Ev.aZ,a]
theorem uI:∀{l:List V}{ds:List D}{bs},boolsOf l=some bs->au h S l ds->Ev.boolsOf ds=some bs
 |[],_,_,e,q=>by simp only[au]at q;subst q;exact e
 |x :: xs,_,bs,e,q=>by
  cases x<;>simp only[boolsOf,reduceCtorEq,Option.map_eq_some_iff]at e
  obtain⟨r,e,rfl⟩:=e;simp only[au,Rep]at q;obtain⟨_,ds,rfl,rfl,q⟩:=q;simp[Ev.boolsOf,uI e q]
theorem qP:∀{l:List V}{ds:List D}{bs},intsOf l=some bs->au h S l ds->Ev.intsOf ds=some bs
 |[],_,_,e,q=>by simp only[au]at q;subst q;exact e
 |x :: xs,_,bs,e,q=>by
  cases x<;>simp only[intsOf,reduceCtorEq,Option.map_eq_some_iff]at e
  obtain⟨r,e,rfl⟩:=e;simp only[au,Rep]at q;obtain⟨_,ds,rfl,rfl,q⟩:=q;simp[Ev.intsOf,qP e q]
theorem xr:∀{l:List V}{ds:List D}{bs},strsOf l=some bs->au h S l ds->Ev.strsOf ds=some bs
 |[],_,_,e,q=>by simp only[au]at q;subst q;exact e
 |x :: xs,_,bs,e,q=>by
  cases x<;>simp only[strsOf,reduceCtorEq,Option.map_eq_some_iff]at e
  obtain⟨r,e,rfl⟩:=e;simp only[au,Rep]at q;obtain⟨_,ds,rfl,rfl,q⟩:=q;simp[Ev.strsOf,xr e q]
theorem fP.one{v:V}{ds:List D}(q:fP h S [v] ds):∃d,ds=[d]/\bq h S v d:=by
 simp only[fP]at q;obtain⟨d,es,rfl,a,rfl⟩:=q;exact⟨d,rfl,a⟩
theorem K7{b:BI}{xs:List V}{v:V}{ds:List D}(w:∀m,S m->m<h.length)(z:cS b xs=some v)(p:fP h S xs ds):∃r h' S',Ev.cS b ds h=.ok r h'/\Rep h' S' v r/\Al h S h' S':=by
 delta cS at z
 rcases xs with _|⟨x,_|⟨y,_|⟨u,xs⟩⟩⟩
 .cases b<;>exact nn z
 .obtain⟨d,rfl,p1⟩:=p.one;cases b
  case len=>
   cases x
   case str s=>
    dsimp only at z;simp only[bq,Rep]at p1;subst p1;split at z
    .rename_i k;cases z;exact⟨_,_,S,by delta Ev.cS;dsimp only;rw[if_pos k],rfl,.refl⟩
    .cases z
   case tup l=>
    dsimp only at z;simp only[bq,Rep]at p1;obtain⟨es,rfl,p2⟩:=p1;cases z;exact⟨_,_,S,rfl,by simp[Rep,p2.length],.refl⟩
   all_goals
    dsimp only at z;simp only[Option.map_eq_some_iff]at z;obtain⟨l,z,rfl⟩:=z;obtain⟨n,es,rfl,a,q⟩:=kP z p1;exact⟨.int es.length,h,S,by delta Ev.cS;dsimp only;simp[a],by simp[Rep,q.length],.refl⟩
  case all=>
   dsimp only at z;simp only[Option.map_eq_some_iff,Option.bind_eq_some_iff]at z;obtain⟨bs,⟨l,z,z2⟩,rfl⟩:=z;obtain⟨n,es,rfl,a,q⟩:=kP z p1;exact⟨_,_,S,by delta Ev.cS;dsimp only;simp only[a,Option.bind,uI z2 q];rfl,rfl,.refl⟩
  case sum=>
   dsimp only at z;simp only[Option.map_eq_some_iff,Option.bind_eq_some_iff]at z;obtain⟨bs,⟨l,z,z2⟩,rfl⟩:=z;obtain⟨n,es,rfl,a,q⟩:=kP z p1;exact⟨_,_,S,by delta Ev.cS;dsimp only;simp only[a,Option.bind,qP z2 q];rfl,rfl,.refl⟩
  case min=>cases x<;>exact nn z
  case yr=>
   dsimp only at z;simp only[Option.bind_eq_some_iff]at z;obtain⟨ss,⟨l,z,z2⟩,z3⟩:=z;obtain⟨n,es,rfl,a,q⟩:=kP z p1;split at z3
   .rename_i hl
    delta Ev.cS;dsimp only;simp only[a,Option.bind,qP z2 q]
    rw[if_pos hl];exact iA w z3 (au.map (f:=V.int) (g:=D.int) (λs=>by simp[Rep]) _)
   .cases z3
  case yt=>
   dsimp only at z;obtain⟨kvs,z1,z⟩:=Option.bind_eq_some_iff.mp z;obtain⟨n,rfl,a⟩:=K0 z1 p1;by_cases hl:kvs.length<64
   .rw[if_pos hl]at z
    delta Ev.cS;dsimp only;simp only[Ev.fE,a]
    rw[if_pos hl];exact iA w z (au.map (f:=V.int) (g:=D.int) (λs=>by simp[Rep]) _)
   .rw[if_neg hl]at z;cases z
 .cases b
  case min=>
   cases x
   case int i=>
    cases y
    case int j=>
     dsimp only at z;simp only[fP,bq,Rep]at p;obtain⟨_,_,rfl,rfl,_,_,rfl,rfl,rfl⟩:=p;cases z;exact⟨_,_,S,rfl,rfl,.refl⟩
    all_goals exact nn z
   all_goals exact nn z
  case len=>cases x<;>exact nn z
  all_goals exact nn z
 .cases b
  case min=>cases x <;> (try cases y)<;>exact nn z
  case len=>cases x<;>exact nn z
  all_goals exact nn z
theorem K8{m:ME}{o:V}{xs:List V}{v:V}{d:D}{ds:List D}(z:fJ m o xs=some v)(hm:iX m=false)(po:bq h S o d)(p:fP h S xs ds):Ev.wH m d h=true/\∃r,Ev.fJ m d ds h=.ok r h/\Rep h S v r:=by
 unfold fJ at z;split at z
 .obtain⟨d,rfl,p1⟩:=p.one;simp only[bq,Rep]at po;subst po;simp only[Option.bind_eq_some_iff]at z;obtain⟨ss,⟨l,z,z2⟩,z3⟩:=z;obtain⟨n,es,rfl,a,q⟩:=kP z p1;split at z3
  .rename_i k;cases z3;refine⟨rfl,_,?_,rfl⟩
   delta Ev.fJ;dsimp only;simp only[a,Option.bind,xr z2 q]
   rw[if_pos k]
  .cases z3
 .cases z
theorem Hf{x:V}{d:D}(f:sQ x=true)(p:Rep h U x d):Rep [] U x d:=by
 cases x<;>simp only[sQ,Bool.false_eq_true]at f<;>exact p
theorem CW{x:V}{d:D}(p:Rep h U x d):∀{kvs:List (D×D)}{v:V},eS x kvs=some v->∃r,Ev.eS d kvs=some r/\Rep h S v r:=by
 intro kvs v z;unfold eS at z;split at z
 .rename_i f;have p':=Hf f p;induction kvs with
  |nil=>cases z
  |cons kv r ih=>
   obtain⟨k,u⟩:=kv;simp only[yP]at z;simp only[Ev.eS];split at z
   .rename_i y;simp only[Option.bind_eq_some_iff]at y;obtain⟨k',y1,y2⟩:=y;rw[jW 1 y2 (m7 y1) p'];exact⟨u,rfl,m7 z⟩
   .rename_i y;simp only[Option.bind_eq_some_iff]at y;obtain⟨k',y1,y2⟩:=y;rw[jW 1 y2 (m7 y1) p'];exact ih z
   .cases z
 .cases z
theorem CY{x:V}{l:List V}{d:D}(z:eB x=some l)(p:bq h S x d):∃s,Ev.eB h d=some s/\au h S l s.1/\(∀q∈s.2,d=.ref q.1/\aZ h q.1=some q.2):=by
 cases x<;>simp only[eB,reduceCtorEq]at z<;>simp only[bq,Rep]at p
 .subst p;cases z;exact⟨_,rfl,au.map (f:=λc=>V.str [c]) (g:=λc=>D.str [c]) (λ_=>by simp[Rep]) _,by simp⟩
 .obtain⟨ds,rfl,p⟩:=p;cases z;exact⟨_,rfl,p,by simp⟩
 .obtain⟨n,ds,rfl,a,p⟩:=p;cases z;exact⟨(ds,[(n,ds)]),by simp[Ev.eB,gI a],p,by simp[gI a]⟩
 .obtain⟨n,ds,rfl,_,a,p⟩:=p;cases z;exact⟨(ds,[(n,ds)]),by simp[Ev.eB,iz a],p,by simp[iz a]⟩
theorem uJ(lo:Int)(n:Nat):au h S (range lo n) (Ev.range lo n):=au.map (f:=λ(i:Nat)=>V.int (lo+i)) (g:=λ(i:Nat)=>D.int (lo+i)) (λ_=>by simp[Rep]) _
theorem K9{xs l:List V}{ds:List D}(z:dO xs=some l)(p:fP h S xs ds):∃s,Ev.dO ds=some (s,[])/\au h S l s:=by
 unfold dO at z;split at z
 .obtain⟨d,rfl,p1⟩:=p.one;simp only[bq,Rep]at p1;subst p1;split at z
  .rename_i k;cases z;exact⟨_,by simp only[Ev.dO];rw[if_pos k],uJ _ _⟩
  .cases z
 .simp only[fP,bq,Rep]at p;obtain⟨_,_,rfl,rfl,_,_,rfl,rfl,rfl⟩:=p;split at z
  .rename_i k;cases z;exact⟨_,by simp only[Ev.dO];rw[if_pos k],uJ _ _⟩
  .cases z
 .cases z
theorem xu:∀{a:List V}{ds:List D}(k:Int),au h S a ds->au h S (cG k a) (Ev.cG k ds)
 |[],_,_,p=>by simp only[au]at p;subst p;simp[cG,Ev.cG,au]
 |x :: xs,_,k,p=>by
  simp only[au]at p;obtain⟨d,ds,rfl,p1,p2⟩:=p;simp only[cG,Ev.cG];exact .cons ⟨_,rfl,.cons rfl (.cons p1 .nil)⟩ (xu _ p2)
end
end Pv
namespace Pv
open Ev (D O Hh bQ bK TY BI ME T E Es Eo It S Ss Fn big deep b2i rep cA di bM aV cut cL dY slots aZ)
noncomputable def kN(M B:Nat->Prop)(h:Hh)(S:Nat->Prop):Option Sl->Option D->Prop
 |none,p=>p=none
 |some (.val v),p=>∃d,p=some d/\Rep h S v d
 |some (.own l),p=>∃m ds,p=some (.ref m)/\(M m/\¬ B m)/\h[m]?=some (.lst ds)/\au h S l ds
 |some (.bor l),p=>∃m ds,p=some (.ref m)/\(M m/\B m)/\h[m]?=some (.lst ds)/\au h S l ds
 |some (.ro l),p=>∃m ds,p=some (.ref m)/\¬ M m/\h[m]?=some (.lst ds)/\au h S l ds
noncomputable def gS:Option Sl->Bool
 |some (.own _)=>true
 |some (.bor _)=>true
 |_=>false
noncomputable def xw:Option Sl->Bool
 |some (.bor _)=>true
 |some (.ro _)=>true
 |_=>false
noncomputable def locked(fr:Fr)(i:Nat):Bool:=match fr[i]? with
 |some o=>xw o
 |none=>false
structure bw(M B:Nat->Prop)(h:Hh)(S:Nat->Prop)(fr:Fr)(ak:Ev.Fr):Prop where
 wS:∀m,S m->m<h.length/\¬ M m/\¬ B m
 wM:∀m,M m->m<h.length
 wB:∀m,B m->m<h.length
 len:fr.length=ak.length
 sl:∀(i:Nat) o p,fr[i]?=some o->ak[i]?=some p->kN M B h S o p
 inj:∀(i j:Nat) o o' m,fr[i]?=some o->fr[j]?=some o'->gS o=true->gS o'=true->ak[i]?=some (some (.ref m))->ak[j]?=some (some (.ref m))->i=j
structure Tk(X:Nat->Prop)(h:Hh)(S:Nat->Prop)(h':Hh)(S':Nat->Prop):Prop where
 len:h.length<=h'.length
 keep:∀m,m<h.length->¬ X m->h'[m]?=h[m]?
 sub:∀m,S m->S' m
 new:∀m,S' m->S m\/(h.length<=m/\m<h'.length)
noncomputable def Xs(M:Nat->Prop)(ak:Ev.Fr)(l:List Nat):Nat->Prop:=λm=>M m/\∃i∈l,ak[i]?=some (some (.ref m))
structure Out(M B:Nat->Prop)(c:List Nat)(h:Hh)(S:Nat->Prop)(fr:Fr)(ak:Ev.Fr)(h':Hh)(S':Nat->Prop)(af:Fr):Prop where
 f:bw M B h' S' af ak
 tr:Tk (Xs M ak c) h S h' S'
 lk:∀i,locked af i=locked fr i
section
variable{M B M':Nat->Prop}{h h' h1 h2:Hh}{S S' S1 S2:Nat->Prop}{fr af av:Fr}{ak:Ev.Fr}{c c1 c2:List Nat}{v:V}{d:D}{X X1 X2:Nat->Prop}
theorem bw.get(f:bw M B h S fr ak){i:Nat}{o:Option Sl}(e:fr[i]?=some o):∃p,ak[i]?=some p/\kN M B h S o p:=by
 have h1:=(List.getElem?_eq_some_iff.mp e).1;rw[f.len]at h1;exact⟨ak[i],List.getElem?_eq_getElem h1,f.sl i o _ e (List.getElem?_eq_getElem h1)⟩
theorem bw.w(f:bw M B h S fr ak):∀m,S m->m<h.length:=λm q=>(f.wS m q).1
theorem Al.tr(a:Al h S h' S'):Tk X h S h' S':=⟨a.len,λm q _=>a.keep m q,a.sub,a.new⟩
theorem Tk.al(t:Tk X h S h' S')(z:∀m,¬ X m):Al h S h' S':=⟨t.len,λm q=>t.keep m q (z m),t.sub,t.new⟩
theorem Tk.weak(t:Tk X h S h' S')(q:∀m,X m->X1 m):Tk X1 h S h' S':=⟨t.len,λm k z=>t.keep m k λy=>z (q m y),t.sub,t.new⟩
theorem Tk.trans(a:Tk X1 h S h1 S1)(b:Tk X2 h1 S1 h2 S2):Tk (λm=>X1 m\/X2 m) h S h2 S2 where
 len:=Nat.le_trans a.len b.len
 keep:=λm q z=>by rw[b.keep m (Nat.lt_of_lt_of_le q a.len) (λy=>z (.inr y)),a.keep m q (λy=>z (.inl y))]
 sub:=λm q=>b.sub m (a.sub m q)
 new:=λm q=>by
  rcases b.new m q with q|⟨q1,q2⟩
  .rcases a.new m q with q|⟨q1,q2⟩
   .exact .inl q
   .exact .inr ⟨q1,Nat.lt_of_lt_of_le q2 b.len⟩
  .exact .inr ⟨Nat.le_trans a.len q1,q2⟩
theorem Al.trans(a:Al h S h1 S1)(b:Al h1 S1 h2 S2):Al h S h2 S2:=((a.tr (X:=λ_=>False)).trans (b.tr (X:=λ_=>False))).al λm z=>by simp at z
theorem Tk.refl:Tk X h S h S:=⟨Nat.le_refl _,λ_ _ _=>rfl,λ_ q=>q,λ_ q=>.inl q⟩
theorem Xs.app{l1 l2:List Nat}{m:Nat}:Xs M ak (l1++l2) m↔Xs M ak l1 m\/Xs M ak l2 m:=by
 unfold Xs;constructor
 .rintro⟨a,i,hi,e⟩;rcases List.mem_append.mp hi with hi|hi
  .exact .inl ⟨a,i,hi,e⟩
  .exact .inr ⟨a,i,hi,e⟩
 .rintro(⟨a,i,hi,e⟩|⟨a,i,hi,e⟩)
  .exact⟨a,i,List.mem_append.mpr (.inl hi),e⟩
  .exact⟨a,i,List.mem_append.mpr (.inr hi),e⟩
theorem Xs.nil{m:Nat}:¬ Xs M ak [] m:=by rintro⟨_,i,hi,_⟩;simp at hi
theorem Xs.mono{l1 l2:List Nat}(q:∀i∈l1,i∈l2){m:Nat}:Xs M ak l1 m->Xs M ak l2 m:=λ⟨a,i,hi,e⟩=>⟨a,i,q i hi,e⟩
theorem Rep.tr(q:Rep h S v d)(f:bw M B h S fr ak)(t:Tk (Xs M ak c) h S h' S'):Rep h' S' v d:=q.mono (λm z=>t.keep m (f.wS m z).1 (λy=>(f.wS m z).2.1 y.1)) t.sub
theorem au.tr{l:List V}{ds:List D}(q:au h S l ds)(f:bw M B h S fr ak)(t:Tk (Xs M ak c) h S h' S'):au h' S' l ds:=q.mono (λm z=>t.keep m (f.wS m z).1 (λy=>(f.wS m z).2.1 y.1)) t.sub
theorem bq.tr(q:bq h S v d)(f:bw M B h S fr ak)(t:Tk X h S h' S')(z:∀m,¬ X m):bq h' S' v d:=q.mono (λm k=>t.keep m k (z m)) f.w t.sub
theorem kN.al{o:Option Sl}{p:Option D}(q:kN M B h S o p)(w:∀m,S m->m<h.length)(a:Al h S h' S'):kN M B h' S' o p:=by
 have k:∀m,S m->h'[m]?=h[m]?:=λm z=>a.keep m (w m z);have g:∀(m:Nat) (ds:List D),h[m]?=some (O.lst ds)->h'[m]?=some (O.lst ds):=λm ds z=>by rw[a.keep m (List.getElem?_eq_some_iff.mp z).1];exact z
 rcases o with _|s
 .exact q
 .cases s with
  |val v=>obtain⟨d,e,q⟩:=q;exact⟨d,e,q.mono k a.sub⟩
  |own l=>obtain⟨m,ds,e,z,y,q⟩:=q;exact⟨m,ds,e,z,g m ds y,q.mono k a.sub⟩
  |bor l=>obtain⟨m,ds,e,z,y,q⟩:=q;exact⟨m,ds,e,z,g m ds y,q.mono k a.sub⟩
  |ro l=>obtain⟨m,ds,e,z,y,q⟩:=q;exact⟨m,ds,e,z,g m ds y,q.mono k a.sub⟩
theorem bw.al(f:bw M B h S fr ak)(a:Al h S h' S'):bw M B h' S' fr ak where
 wS:=λm q=>by
  rcases a.new m q with q|⟨q1,q2⟩
  .exact⟨Nat.lt_of_lt_of_le (f.wS m q).1 a.len,(f.wS m q).2⟩
  .exact⟨q2,λz=>by have:=f.wM m z;omega,λz=>by have:=f.wB m z;omega⟩
 wM:=λm q=>Nat.lt_of_lt_of_le (f.wM m q) a.len
 wB:=λm q=>Nat.lt_of_lt_of_le (f.wB m q) a.len
 len:=f.len
 sl:=λi o p e1 e2=>(f.sl i o p e1 e2).al f.w a
 inj:=f.inj
theorem Out.refl(f:bw M B h S fr ak):Out M B c h S fr ak h S fr:=⟨f,.refl,λ_=>rfl⟩
theorem Out.trans(a:Out M B c1 h S fr ak h1 S1 af)(b:Out M B c2 h1 S1 af ak h2 S2 av):Out M B (c1++c2) h S fr ak h2 S2 av:=⟨b.f,(a.tr.trans b.tr).weak λm z=>Xs.app.mpr z,λi=>(b.lk i).trans (a.lk i)⟩
theorem Out.al(a:Out M B c h S fr ak h1 S1 af)(b:Al h1 S1 h2 S2):Out M B c h S fr ak h2 S2 af:=⟨a.f.al b,(a.tr.trans (b.tr (X:=λ_=>False))).weak (λm z=>by rcases z with z|z;exact z;exact z.elim),a.lk⟩
theorem Out.weak(a:Out M B c h S fr ak h1 S1 af)(q:∀i∈c,i∈c1):Out M B c1 h S fr ak h1 S1 af:=⟨a.f,a.tr.weak λm z=>Xs.mono q z,a.lk⟩
noncomputable def fV(k:Bool)(h:Hh)(S:Nat->Prop)(v:V)(d:D):Prop:=if k=true then bq h S v d else Rep h S v d
theorem fV.of{k:Bool}(q:Rep h S v d):fV k h S v d:=by unfold fV;split;exact q.top;exact q
theorem fV.t{k:Bool}(q:fV k h S v d):bq h S v d:=by unfold fV at q;split at q;exact q;exact q.top
theorem fV.n(q:fV false h S v d):Rep h S v d:=by simpa[fV]using q
theorem bw.slot(f:bw M B h S fr ak){i m:Nat}(e:ak[i]?=some (some (.ref m)))(hm:M m):∃o,fr[i]?=some o/\gS o=true:=by
 have hl:i<fr.length:=by rw[f.len];exact(List.getElem?_eq_some_iff.mp e).1
 refine⟨fr[i],List.getElem?_eq_getElem hl,?_⟩;have s:=f.sl i _ _ (List.getElem?_eq_getElem hl) e
 revert s
 generalize fr[i]=o
 intro s;rcases o with _|s'
 .cases s
 .cases s' with
  |own l=>rfl
  |bor l=>rfl
  |ro l=>obtain⟨m',ds,e,y,_⟩:=s;cases e;exact absurd hm y
  |val v=>
   obtain⟨d,e,q⟩:=s;cases e;exfalso;cases v<;>simp only[Rep,reduceCtorEq]at q
   .obtain⟨_,e,_⟩:=q;cases e
   .obtain⟨n,ds,e,sn,_⟩:=q;cases e;exact(f.wS _ sn).2.1 hm
   .obtain⟨n,ds,e,sn,_⟩:=q;cases e;exact(f.wS _ sn).2.1 hm
   .obtain⟨n,e,sn,_⟩:=q;cases e;exact(f.wS _ sn).2.1 hm
theorem fV.tr{k:Bool}{a:E}(q:fV k h S v d)(f:bw M B h S fr ak)(t:Tk (Xs M ak c) h S h' S')(hk:k=true->kf a c=true)(ha:∀i,a=.v i->ak[i]?.join=some d):fV k h' S' v d:=by
 unfold fV at q ⊢;split at q
 .rename_i e;rw[if_pos e];have hk:=hk e;have gen:c=[]->bq h' S' v d:=λz=>q.tr f t λm y=>by subst z;exact Xs.nil y
  by_cases hv:∃i,a=.v i
  .obtain⟨i0,rfl⟩:=hv;simp only[kf,Bool.not_eq_true',List.contains_eq_mem,decide_eq_false_iff_not]at hk;cases v
   case lst l=>
    simp only[bq]at q ⊢;obtain⟨n,ds,rfl,b1,b2⟩:=q;refine⟨n,ds,rfl,?_,b2.tr f t⟩;rw[t.keep n (List.getElem?_eq_some_iff.mp b1).1 ?_]
    .exact b1
    .rintro⟨mn,j,hj,ej⟩;have e2:ak[i0]?=some (some (D.ref n)):=by
      have:=ha i0 rfl;cases z:ak[i0]? with
      |none=>rw[z]at this;cases this
      |some p=>rw[z]at this;simp at this;rw[this]
     obtain⟨o1,y1,y2⟩:=f.slot e2 mn;obtain⟨o2,y3,y4⟩:=f.slot ej mn;have:=f.inj i0 j o1 o2 n y1 y3 y2 y4 e2 ej;subst this;exact hk hj
   all_goals exact Rep.tr (show Rep h S _ d from q) f t
  .have:kf a c=c.isEmpty:=by
    cases a<;>first|rfl|exact absurd ⟨_,rfl⟩ hv
   rw[this,List.isEmpty_iff]at hk;exact gen hk
 .rename_i e;rw[if_neg e];exact q.tr f t
theorem Hg{k:Bool}{i:Nat}(e:gH k fr i=some v)(f:bw M B h S fr ak):∃d,ak[i]?.join=some d/\fV k h S v d:=by
  unfold gH at e;split at e
  . rename_i z;obtain⟨p,e1,q⟩:=f.get z;obtain⟨d,rfl,q⟩:=q;cases e;exact⟨d,by rw[e1];rfl,.of q⟩
  all_goals first
    | (rename_i z
       obtain⟨p,e1,q⟩:=f.get z;obtain⟨m,ds,rfl,_,y,q⟩:=q;split at e
       . rename_i hk;cases e;exact⟨.ref m,by rw[e1];rfl,by unfold fV;rw[if_pos hk];exact⟨m,ds,rfl,y,q⟩⟩
       . cases e)
    |cases e
theorem jH{i:Nat}{s:Sl}(e:lent fr i=some s)(f:bw M B h S fr ak):∃m ds l o,fr[i]?=some o/\ak[i]?=some (some (.ref m))/\h[m]?=some (.lst ds)/\au h S l ds/\((s=.bor l/\M m/\gS o=true)\/(s=.ro l/\¬ M m/\o=some (.ro l))):=by
 unfold lent at e;split at e
 .rename_i s' z;obtain⟨p,e1,q⟩:=f.get z;cases s' with
  |val v=>simp[Sl.lend]at e
  |own l=>
   simp[Sl.lend]at e;subst e;obtain⟨m,ds,rfl,y,y1,q⟩:=q;exact⟨m,ds,l,_,z,e1,y1,q,.inl ⟨rfl,y.1,rfl⟩⟩
  |bor l=>
   simp[Sl.lend]at e;subst e;obtain⟨m,ds,rfl,y,y1,q⟩:=q;exact⟨m,ds,l,_,z,e1,y1,q,.inl ⟨rfl,y.1,rfl⟩⟩
  |ro l=>
   simp[Sl.lend]at e;subst e;obtain⟨m,ds,rfl,y,y1,q⟩:=q;exact⟨m,ds,l,_,z,e1,y1,q,.inr ⟨rfl,y,rfl⟩⟩
 .cases e
noncomputable def uK(h:Hh)(S:Nat->Prop)(ak:Ev.Fr):List (Nat ⊕ V)->List D->Prop
 |[],ds=>ds=[]
 |.inl i :: r,ds=>∃d es,ds=d :: es/\ak[i]?=some (some d)/\uK h S ak r es
 |.inr v :: r,ds=>∃d es,ds=d :: es/\Rep h S v d/\uK h S ak r es
noncomputable def m8(h:Hh)(S:Nat->Prop):List Sl->List D->List (List V)->Prop
 |[],_,os=>os=[]
 |.val _ :: sl,ds,os=>∃d es,ds=d :: es/\m8 h S sl es os
 |.own _ :: _,_,_=>False
 |_ :: sl,ds,os=>∃d es l r m cs,ds=d :: es/\os=l :: r/\d=.ref m/\h[m]?=some (.lst cs)/\au h S l cs/\m8 h S sl es r
noncomputable def pN(P:aR)(P':Ev.aR):Prop:=∀f sl v os,P f sl=some (v,os)->∀(h:Hh) (S B:Nat->Prop) (ds:List D),bw B B h S (sl.map some) (ds.map some)->
 ∃d h' S',P' f ds h=.ok d h'/\Rep h' S' v d/\Tk B h S h' S'/\m8 h' S' sl ds os
theorem args_get(f:bw M B h S fr ak):∀{as:List (Nat ⊕ V)}{sl:List Sl}{ds:List D},args fr as=some sl->uK h S ak as ds->sl.length=ds.length/\∀(a:Nat) s d,sl[a]?=some s->ds[a]?=some d->
  (∃i,as[a]?=some (.inl i)/\lent fr i=some s/\ak[i]?=some (some d))\/(∃v,s=.val v/\Rep h S v d)
 |[],sl,ds,e,q=>by
  simp[args]at e;simp only[uK]at q;subst e q;simp
 |.inl i :: r,sl,ds,e,q=>by
  simp only[args,Option.bind_eq_some_iff,Option.map_eq_some_iff]at e;obtain⟨s,e1,l,e2,rfl⟩:=e;obtain⟨d,es,rfl,q1,q⟩:=q;obtain⟨h1,h2⟩:=args_get f e2 q;refine⟨by simp[h1],λa s' d' z1 z2=>?_⟩;cases a with
  |zero=>simp at z1 z2;subst z1 z2;exact .inl ⟨i,by simp,e1,q1⟩
  |succ a=>exact(h2 a s' d' (by simpa using z1) (by simpa using z2)).imp (λ⟨i,k,z⟩=>⟨i,by simpa using k,z⟩) id
 |.inr v :: r,sl,ds,e,q=>by
  simp only[args,Option.map_eq_some_iff]at e;obtain⟨l,e2,rfl⟩:=e;obtain⟨d,es,rfl,q1,q⟩:=q;obtain⟨h1,h2⟩:=args_get f e2 q;refine⟨by simp[h1],λa s' d' z1 z2=>?_⟩;cases a with
  |zero=>simp at z1 z2;subst z1 z2;exact .inr ⟨v,rfl,q1⟩
  |succ a=>exact(h2 a s' d' (by simpa using z1) (by simpa using z2)).imp (λ⟨i,k,z⟩=>⟨i,by simpa using k,z⟩) id
theorem gT:∀{as:List (Nat ⊕ V)}{a i:Nat},as[a]?=some (.inl i)->i∈bU as
 |[],_,_,e=>by simp at e
 |.inl j :: r,0,i,e=>by simp at e;subst e;simp[bU]
 |.inr j :: r,0,i,e=>by simp at e
 |.inl j :: r,a+1,i,e=>by have:=gT (as:=r) (a:=a) (i:=i) (by simpa using e);simp[bU,this]
 |.inr j :: r,a+1,i,e=>by have:=gT (as:=r) (a:=a) (i:=i) (by simpa using e);simp[bU,this]
theorem m9:∀{as:List (Nat ⊕ V)}{a b i:Nat},(bU as).Nodup->as[a]?=some (.inl i)->as[b]?=some (.inl i)->a=b
 |[],_,_,_,_,e,_=>by simp at e
 |x :: r,0,0,_,_,_,_=>rfl
 |.inr j :: r,0,b+1,i,n,e,_=>by simp at e
 |.inl j :: r,0,b+1,i,n,e,e2=>by
  simp at e;subst e;simp only[bU,List.nodup_cons]at n;exact absurd (gT (as:=r) (a:=b) (by simpa using e2)) n.1
 |.inr j :: r,a+1,0,i,n,_,e=>by simp at e
 |.inl j :: r,a+1,0,i,n,e2,e=>by
  simp at e;subst e;simp only[bU,List.nodup_cons]at n;exact absurd (gT (as:=r) (a:=a) (by simpa using e2)) n.1
 |.inl j :: r,a+1,b+1,i,n,e1,e2=>by
  simp only[bU,List.nodup_cons]at n;have:=m9 (as:=r) (a:=a) (b:=b) (i:=i) n.2 (by simpa using e1) (by simpa using e2);omega
 |.inr j :: r,a+1,b+1,i,n,e1,e2=>by
  simp only[bU]at n;have:=m9 (as:=r) (a:=a) (b:=b) (i:=i) n (by simpa using e1) (by simpa using e2);omega
theorem CZ{s:Sl}{l:List V}:gS (some (s.with l))=gS (some s):=by cases s<;>rfl
theorem xx{s:Sl}{l:List V}:xw (some (s.with l))=xw (some s):=by cases s<;>rfl
theorem uL:∀{is:List Nat}{ls:List (List V)}{fr af:Fr},back is ls fr=some af->is.Nodup->af.length=fr.length/\(∀i,i∉is->af[i]?=fr[i]?)/\∀i∈is,∃(k:Nat) (s:Sl) (l:List V),is[k]?=some i/\ls[k]?=some l/\fr[i]?=some (some s)/\af[i]?=some (some (s.with l))
 |[],[],fr,af,e,_=>by simp[back]at e;subst e;simp
 |[],_ :: _,_,_,e,_=>by simp[back]at e
 |_ :: _,[],_,_,e,_=>by simp[back]at e
 |i :: is,l :: ls,fr,af,e,n=>by
  simp only[back]at e;simp only[List.nodup_cons]at n;split at e
  .rename_i s z;obtain⟨h1,h2,h3⟩:=uL e n.2;refine⟨by simpa using h1,λj hj=>?_,λj hj=>?_⟩
   .simp at hj;rw[h2 j hj.2,List.getElem?_set_ne (λq=>hj.1 q.symm)]
   .rcases List.mem_cons.mp hj with rfl|hj
    .exact⟨0,s,l,by simp,by simp,z,by rw[h2 j n.1,List.getElem?_set_self (List.getElem?_eq_some_iff.mp z).1]⟩
    .obtain⟨k,s',l',a,b,c,d⟩:=h3 j hj;have hne:i≠j:=λq=>n.1 (q▸hj);rw[List.getElem?_set_ne hne]at c;exact⟨k+1,s',l',by simpa using a,by simpa using b,c,d⟩
  .cases e
theorem nc(f:bw M B h S fr ak):∀{as:List (Nat ⊕ V)}{sl:List Sl}{ds:List D}{os:List (List V)},args fr as=some sl->uK h S ak as ds->m8 h' S' sl ds os->
  ∀(k i:Nat) l,(bU as)[k]?=some i->os[k]?=some l->∃m cs,ak[i]?=some (some (.ref m))/\h'[m]?=some (.lst cs)/\au h' S' l cs
 |[],sl,ds,os,e,q,o=>by simp[bU]
 |.inl i :: r,sl,ds,os,e,q,o=>by
  simp only[args,Option.bind_eq_some_iff,Option.map_eq_some_iff]at e;obtain⟨s,e1,l,e2,rfl⟩:=e;obtain⟨d,es,rfl,q1,q⟩:=q;obtain⟨m,cs,l0,o0,_,z2,z3,z4,z5⟩:=jH e1 f;have key:∃l1 r1 cs,os=l1 :: r1/\h'[m]?=some (.lst cs)/\au h' S' l1 cs/\m8 h' S' l es r1:=by
   rw[q1]at z2;cases z2;rcases z5 with ⟨rfl,_⟩|⟨rfl,_⟩
   .obtain⟨d',es',l1,r1,m1,AH,a1,a2,a3,a4,a5,a6⟩:=o;cases a1;cases a3;exact⟨l1,r1,AH,a2,a4,a5,a6⟩
   .obtain⟨d',es',l1,r1,m1,AH,a1,a2,a3,a4,a5,a6⟩:=o;cases a1;cases a3;exact⟨l1,r1,AH,a2,a4,a5,a6⟩
  obtain⟨l1,r1,AH,rfl,a4,a5,a6⟩:=key;intro k j l' y1 y2;cases k with
  |zero=>simp[bU]at y1 y2;subst y1 y2;exact⟨m,AH,z2,a4,a5⟩
  |succ k=>exact nc f e2 q a6 k j l' (by simpa[bU]using y1) (by simpa using y2)
 |.inr v :: r,sl,ds,os,e,q,o=>by
  simp only[args,Option.map_eq_some_iff]at e;obtain⟨l,e2,rfl⟩:=e;obtain⟨d,es,rfl,q1,q⟩:=q;obtain⟨d',es',a1,a2⟩:=o;cases a1;intro k j l' y1 y2;exact nc f e2 q a2 k j l' (by simpa[bU]using y1) y2
theorem lI:∀{as:List (Nat ⊕ V)}{sl:List Sl}{i:Nat},args fr as=some sl->i∈bU as->∃s,lent fr i=some s
 |[],_,_,_,q=>by simp[bU]at q
 |.inl j :: r,_,i,z,q=>by
  simp only[args,Option.bind_eq_some_iff,Option.map_eq_some_iff]at z;obtain⟨s,e1,l,e2,rfl⟩:=z;simp[bU]at q;rcases q with rfl|q
  .exact⟨s,e1⟩
  .exact lI e2 q
 |.inr u :: r,_,i,z,q=>by
  simp only[args,Option.map_eq_some_iff]at z;obtain⟨l,e2,rfl⟩:=z;exact lI e2 (by simpa[bU]using q)
theorem C0{P:aR}{P':Ev.aR}(HP:pN P P'){g:Nat}{as:List (Nat ⊕ V)}{ds:List D}(e:eE P g as fr=.ok v af)(f:bw M B h S fr ak)(q:uK h S ak as ds) :
  ∃d h' S',P' g ds h=.ok d h'/\Rep h' S' v d/\Out M B (bU as) h S fr ak h' S' af:=by
 unfold eE at e;split at e
 case isFalse=>cases e
 rename_i nd;cases z:args fr as with
 |none=>rw[z]at e;cases e
 |some sl=>
 rw[z]at e;simp only at e;cases z2:P g sl with
 |none=>rw[z2]at e;cases e
 |some vo=>
 obtain⟨v',os⟩:=vo;rw[z2]at e;simp only at e;cases z3:back (bU as) os fr with
 |none=>rw[z3]at e;cases e
 |some av=>
 rw[z3]at e;simp at e;obtain⟨rfl,rfl⟩:=e;obtain⟨hl,hg⟩:=args_get f z q
 let B0:Nat->Prop:=λm=>∃i o,i∈bU as/\fr[i]?=some o/\gS o=true/\ak[i]?=some (some (.ref m))
 have pO:∀m,B0 m->M m:=λm ⟨i,o,_,a,b,c⟩=>by
  have s:=f.sl i o _ a c;rcases o with _|s'
  .cases b
  .cases s' with
   |val v=>cases b
   |ro l=>cases b
   |own l=>obtain⟨m',ds',e,y,_⟩:=s;cases e;exact y.1
   |bor l=>obtain⟨m',ds',e,y,_⟩:=s;cases e;exact y.1
 have F0:bw B0 B0 h S (sl.map some) (ds.map some):=by
  refine⟨λm y=>⟨(f.wS m y).1,λz=>(f.wS m y).2.1 (pO m z),λz=>(f.wS m y).2.1 (pO m z)⟩,λm y=>f.wM m (pO m y),λm y=>f.wM m (pO m y),by simp[hl],λa o p y1 y2=>?_,λa b o o' m y1 y2 y3 y4 y5 y6=>?_⟩
  .simp at y1 y2;obtain⟨s,y1,rfl⟩:=y1;obtain⟨d,y2,rfl⟩:=y2;rcases hg a s d y1 y2 with ⟨i,k1,k2,k3⟩|⟨u,rfl,k⟩
   .obtain⟨m,cs,l0,o0,w1,w2,w3,w4,w5⟩:=jH k2 f;rw[k3]at w2;cases w2;rcases w5 with ⟨rfl,w6,w7⟩|⟨rfl,w6,w7⟩
    .exact⟨m,cs,rfl,⟨⟨i,o0,gT k1,w1,w7,k3⟩,⟨i,o0,gT k1,w1,w7,k3⟩⟩,w3,w4⟩
    .exact⟨m,cs,rfl,λz=>w6 (pO m z),w3,w4⟩
   .exact⟨d,rfl,k⟩
  .simp at y1 y2 y5 y6;obtain⟨s,y1,rfl⟩:=y1;obtain⟨s',y2,rfl⟩:=y2;rcases hg a s _ y1 y5 with ⟨i,k1,k2,k3⟩|⟨u,rfl,k⟩
   .rcases hg b s' _ y2 y6 with ⟨j,k4,k5,k6⟩|⟨u,rfl,k⟩
    .obtain⟨m1,_,l1,o1,w1,w2,_,_,w5⟩:=jH k2 f;obtain⟨m2,_,l2,o2,x1,x2,_,_,x5⟩:=jH k5 f;have i1:gS o1=true:=by rcases w5 with ⟨_,_,w7⟩|⟨rfl,_,_⟩;exact w7;cases y3
     have i2:gS o2=true:=by rcases x5 with ⟨_,_,w7⟩|⟨rfl,_,_⟩;exact w7;cases y4
     have:=f.inj i j o1 o2 m w1 x1 i1 i2 k3 k6;subst this;exact m9 nd k1 k4
    .cases y4
   .cases y3
 obtain⟨d,h',S',c1,c2,c3,c4⟩:=HP g sl v' os z2 h S B0 ds F0;obtain⟨b1,b2,b3⟩:=uL z3 nd;have hL:=nc f z q c4;have pP:∀m,S m->h'[m]?=h[m]?:=λm y=>c3.keep m (f.wS m y).1 (λz=>(f.wS m y).2.1 (pO m z));refine⟨d,h',S',c1,c2,⟨?_,?_,?_⟩⟩
 .refine⟨λm y=>?_,λm y=>Nat.lt_of_lt_of_le (f.wM m y) c3.len,λm y=>Nat.lt_of_lt_of_le (f.wB m y) c3.len,by rw[b1,f.len],λi o p y1 y2=>?_,λi j o o' m y1 y2 y3 y4 y5 y6=>?_⟩
  .rcases c3.new m y with y|⟨y1,y2⟩
   .exact⟨Nat.lt_of_lt_of_le (f.wS m y).1 c3.len,(f.wS m y).2⟩
   .exact⟨y2,λz=>by have:=f.wM m z;omega,λz=>by have:=f.wB m z;omega⟩
  .by_cases hi:i∈bU as
   .obtain⟨k,s,l,w1,w2,w3,w4⟩:=b3 i hi;rw[w4]at y1;cases y1;obtain⟨m,cs,x1,x2,x3⟩:=hL k i l w1 w2;rw[x1]at y2;cases y2;have old:=f.sl i _ _ w3 x1;cases s with
    |val u=>
     exfalso;have:∃s,lent fr i=some s:=lI z hi;obtain⟨s,hs⟩:=this;simp[lent,w3,Sl.lend]at hs
    |own u=>obtain⟨m',ds',e,y,_⟩:=old;cases e;exact⟨m,cs,rfl,y,x2,x3⟩
    |bor u=>obtain⟨m',ds',e,y,_⟩:=old;cases e;exact⟨m,cs,rfl,y,x2,x3⟩
    |ro u=>
     obtain⟨m',ds',e,y,y1,y2⟩:=old;cases e;refine⟨m,ds',rfl,y,?_,y2.mono pP c3.sub⟩;rw[c3.keep m (List.getElem?_eq_some_iff.mp y1).1 (λz=>y (pO m z))];exact y1
   .rw[b2 i hi]at y1;have old:=f.sl i o p y1 y2;rcases o with _|s
    .exact old
    .cases s with
     |val u=>obtain⟨d,e,q⟩:=old;exact⟨d,e,q.mono pP c3.sub⟩
     |own u=>
      obtain⟨m,ds',rfl,w1,w2,w3⟩:=old;refine⟨m,ds',rfl,w1,?_,w3.mono pP c3.sub⟩;rw[c3.keep m (f.wM m w1.1) (λ⟨j,o2,x1,x2,x3,x4⟩=>hi (f.inj i j _ o2 m y1 x2 rfl x3 y2 x4▸x1))];exact w2
     |bor u=>
      obtain⟨m,ds',rfl,w1,w2,w3⟩:=old;refine⟨m,ds',rfl,w1,?_,w3.mono pP c3.sub⟩;rw[c3.keep m (f.wM m w1.1) (λ⟨j,o2,x1,x2,x3,x4⟩=>hi (f.inj i j _ o2 m y1 x2 rfl x3 y2 x4▸x1))];exact w2
     |ro u=>
      obtain⟨m,ds',rfl,w1,w2,w3⟩:=old;refine⟨m,ds',rfl,w1,?_,w3.mono pP c3.sub⟩;rw[c3.keep m (List.getElem?_eq_some_iff.mp w2).1 (λz=>w1 (pO m z))];exact w2
  .have kind:∀(i:Nat) o,av[i]?=some o->gS o=true->∃o0,fr[i]?=some o0/\gS o0=true:=λi o w1 w2=>by
    by_cases hi:i∈bU as
    .obtain⟨k,s,l,x1,x2,x3,x4⟩:=b3 i hi;rw[x4]at w1;cases w1;exact⟨_,x3,by rw[CZ]at w2;exact w2⟩
    .rw[b2 i hi]at w1;exact⟨o,w1,w2⟩
   obtain⟨oi,k1,k2⟩:=kind i o y1 y3;obtain⟨oj,k3,k4⟩:=kind j o' y2 y4;exact f.inj i j oi oj m k1 k3 k2 k4 y5 y6
 .exact c3.weak λm z=>⟨pO m z,by obtain⟨i,o,a1,a2,a3,a4⟩:=z;exact⟨i,a1,a4⟩⟩
 .intro i;unfold locked;by_cases hi:i∈bU as
  .obtain⟨k,s,l,x1,x2,x3,x4⟩:=b3 i hi;rw[x3,x4];exact xx
  .rw[b2 i hi]
end
end Pv
namespace Pv
open Ev (D O Hh)
theorem oZ(k:List (Int×List Nat))(p:Int)(s:List Nat):(Ev.cI k p s).length<=k.length+1:=by
 unfold Ev.cI;split<;>simp
theorem EY{P:Ev.aR}{w:Nat}{d0 d3:D}{n:Nat}:∀(s:List Nat) (k:List (Int×List Nat)) (p:Int) (o:Option D) (h:Hh),h[n]?=some (.dct k)->k.length+s.length<=100000->
  ∃o',Ev.forL (λd av h2=>match Ev.br (.one 4) d av with|some bE=>Ev.exs P w EX bE h2|none=>.bad) [] (s.map λc=>.str [c]) [some d0,some (.ref n),some (.int p),some d3,o] h=.ok (.nx,[some d0,some (.ref n),some (.int (p+s.length)),some d3,o']) (h.set n (.dct (gw k p s)))
 |[],k,p,o,h,hn,_=>⟨o,by
  simp only[List.map_nil,Ev.forL,gw];have:h.set n (.dct k)=h:=by
   obtain⟨hl,e⟩:=List.getElem?_eq_some_iff.mp hn;rw[<-e];exact List.set_getElem_self hl
  rw[this];simp[Ev.stays]⟩
 |c :: s,k,p,o,h,hn,hk=>by
  have hl:=(List.getElem?_eq_some_iff.mp hn).1;have h1:=oZ k p [c];simp only[List.length_cons]at hk;obtain⟨o',ih⟩:=EY (P:=P) (w:=w) (d0:=d0) (d3:=d3) (n:=n) s (Ev.cI k p [c]) (p+1) (some (.str [c])) (h.set n (.dct (Ev.cI k p [c]))) (by rw[List.getElem?_set_self hl]) (by omega);refine⟨o',?_⟩;have kb:k.length<Ev.big:=Nat.lt_of_le_of_lt (show k.length<=100000 by omega) (by decide);have st:Ev.exs P w EX [some d0,some (.ref n),some (.int p),some d3,some (.str [c])] h=.ok (.nx,[some d0,some (.ref n),some (.int (p+1)),some d3,some (.str [c])]) (h.set n (.dct (Ev.cI k p [c]))):=by
   simp[EX,Ev.exs,Ev.ex,Ev.ev,Ev.R.bind,Ev.R.of,Ev.sR,hn,kb,Ev.bL]
  simp only[List.map_cons,Ev.forL,Ev.br,List.set];rw[st];simp only[Ev.ao];simp only[Ev.br]at ih;rw[ih,List.set_set];have e2:p+1+(s.length:Int)=p+((s.length+1:Nat):Int):=by omega
  simp[Ev.stays,gw,e2]
theorem La{v:V}{l:List V}{p:Int}{k k':List (Int×List Nat)}(e:bh (v :: l) p k=some k'):(∃s,v=.tup [.str [100,114,111,112],.str s]/\k.length+s.length<=100000/\bh l (p+s.length) (gw k p s)=some k')\/
  (∃i,v=.tup [.str [107,101,101,112],.int i]/\bh l (p+i) k=some k')\/∃w s,v=.tup [.str w,.str s]/\w≠[100,114,111,112]/\w≠[107,101,101,112]/\bh l p k=some k':=by
 match v,e with
 |.tup [.str w,.str s],e=>
  rw[bh]at e;by_cases h1:w=[100,114,111,112]
  .rw[if_pos h1]at e;by_cases h2:k.length+s.length<=100000
   .rw[if_pos h2]at e;exact .inl ⟨s,by rw[h1],h2,e⟩
   .rw[if_neg h2]at e;cases e
  .rw[if_neg h1]at e;by_cases h2:w=[107,101,101,112]
   .rw[if_pos h2]at e;cases e
   .rw[if_neg h2]at e;exact .inr (.inr ⟨w,s,rfl,h1,h2,e⟩)
 |.tup [.str w,.int i],e=>
  rw[bh]at e;by_cases h2:w=[107,101,101,112]
  .rw[if_pos h2]at e;exact .inr (.inl ⟨i,by rw[h2],e⟩)
  .rw[if_neg h2]at e;cases e
 |.tup [],e=>simp[bh]at e
 |.tup [_],e=>simp[bh]at e
 |.tup (_ :: _ :: _ :: _),e=>simp[bh]at e
 |.aH,e=>simp[bh]at e
 |.bl _,e=>simp[bh]at e
 |.int _,e=>simp[bh]at e
 |.str _,e=>simp[bh]at e
 |.lst _,e=>simp[bh]at e
 |.bD _,e=>simp[bh]at e
 |.dct _,e=>simp[bh]at e
 |.tup [.aH,_],e=>simp[bh]at e
 |.tup [.bl _,_],e=>simp[bh]at e
 |.tup [.int _,_],e=>simp[bh]at e
 |.tup [.tup _,_],e=>simp[bh]at e
 |.tup [.lst _,_],e=>simp[bh]at e
 |.tup [.bD _,_],e=>simp[bh]at e
 |.tup [.dct _,_],e=>simp[bh]at e
 |.tup [.str _,.aH],e=>simp[bh]at e
 |.tup [.str _,.bl _],e=>simp[bh]at e
 |.tup [.str _,.tup _],e=>simp[bh]at e
 |.tup [.str _,.lst _],e=>simp[bh]at e
 |.tup [.str _,.bD _],e=>simp[bh]at e
 |.tup [.str _,.dct _],e=>simp[bh]at e
theorem EZ{P:Ev.aR}{w:Nat}{d0:D}{n:Nat}{h0:Hh}{S:Nat->Prop}:∀(l:List V) (ds:List D) (k k':List (Int×List Nat)) (p:Int) (o3 o4:Option D) (h:Hh),au h0 S l ds->h[n]?=some (.dct k)->bh l p k=some k'->
  ∃p' AI AJ,Ev.forL (λd av h2=>match Ev.br (.one 3) d av with|some bE=>Ev.exs P w uE bE h2|none=>.bad) [] ds [some d0,some (.ref n),some (.int p),o3,o4] h=.ok (.nx,[some d0,some (.ref n),some (.int p'),AI,AJ]) (h.set n (.dct k'))
 |[],ds,k,k',p,o3,o4,h,q,hn,e=>by
  simp only[au]at q;subst q;simp only[bh]at e;cases e;refine⟨p,o3,o4,?_⟩;have:h.set n (.dct k)=h:=by
   obtain⟨hl,e⟩:=List.getElem?_eq_some_iff.mp hn;rw[<-e];exact List.set_getElem_self hl
  rw[this];simp[Ev.forL,Ev.stays]
 |v :: l,ds,k,k',p,o3,o4,h,q,hn,e=>by
  have hl:=(List.getElem?_eq_some_iff.mp hn).1;simp only[au]at q;obtain⟨d,es,rfl,q1,q2⟩:=q;have go:∀(k1:List (Int×List Nat)) (p1:Int) (o':Option D),Ev.exs P w uE [some d0,some (.ref n),some (.int p),some d,o4] h=.ok (.nx,[some d0,some (.ref n),some (.int p1),some d,o']) (h.set n (.dct k1))->bh l p1 k1=some k'->∃p' AI AJ,Ev.forL (λd av h2=>match Ev.br (.one 3) d av with|some bE=>Ev.exs P w uE bE h2|none=>.bad) [] (d :: es) [some d0,some (.ref n),some (.int p),o3,o4] h=.ok (.nx,[some d0,some (.ref n),some (.int p'),AI,AJ]) (h.set n (.dct k')):=λk1 p1 o' st e1=>by
   obtain⟨p',AI,AJ,ih⟩:=EZ (P:=P) (w:=w) (d0:=d0) (n:=n) l es k1 k' p1 (some d) o' (h.set n (.dct k1)) q2 (by rw[List.getElem?_set_self hl]) e1;refine⟨p',AI,AJ,?_⟩;simp only[Ev.forL,Ev.br,List.set];rw[st];simp only[Ev.ao];simp only[Ev.br]at ih;rw[ih,List.set_set];simp[Ev.stays]
  have hs:h.set n (.dct k)=h:=by
   obtain⟨hl,e⟩:=List.getElem?_eq_some_iff.mp hn;rw[<-e];exact List.set_getElem_self hl
  rcases La e with ⟨s,rfl,hk,e1⟩|⟨i,rfl,e1⟩|⟨w0,s,rfl,h1,h2,e1⟩
  .simp only[Rep,au]at q1;obtain⟨_,rfl,d1,_,rfl,rfl,d2,_,rfl,rfl,rfl⟩:=q1;obtain⟨o',hin⟩:=EY (P:=P) (w:=w) (d0:=d0) (d3:=.tup [.str [100,114,111,112],.str s]) (n:=n) s k p o4 h hn hk;refine go _ _ o' ?_ e1;simp only[Ev.br]at hin;simp[uE,Ev.exs,Ev.ex,Ev.aK,Ev.ev,Ev.R.bind,Ev.R.of,Ev.ek,Ev.bM,Ev.di,Ev.cop,Ev.fM,Ev.deep,Ev.truthy,Ev.cB,Ev.eB,Ev.br,hin]
  .simp only[Rep,au]at q1;obtain⟨_,rfl,d1,_,rfl,rfl,d2,_,rfl,rfl,rfl⟩:=q1;refine go k (p+i) o4 ?_ e1;rw[hs];simp[uE,Ev.exs,Ev.ex,Ev.aK,Ev.ev,Ev.R.bind,Ev.R.of,Ev.ek,Ev.bM,Ev.di,Ev.cop,Ev.fM,Ev.deep,Ev.truthy,Ev.bL]
  .simp only[Rep,au]at q1;obtain⟨_,rfl,d1,_,rfl,rfl,d2,_,rfl,rfl,rfl⟩:=q1;refine go k p o4 ?_ e1;rw[hs];simp[uE,Ev.exs,Ev.ex,Ev.aK,Ev.ev,Ev.R.bind,Ev.R.of,Ev.ek,Ev.bM,Ev.di,Ev.cop,Ev.fM,Ev.deep,Ev.truthy,Ev.bL,h1,h2]
theorem Lb{F:List Ev.Fn}{w n f:Nat}{l:List V}{k:List (Int×List Nat)}{d:D}{h:Hh}{S:Nat->Prop}(hf:F[f]?=some fU)(q:Rep h S (.tup l) d)(e:bh l 0 []=some k):Ev.run F w (n+1) f [d] h=.ok (.ref h.length) (h++[.dct k]):=by
 simp only[Rep]at q;obtain⟨dl,rfl,q⟩:=q;obtain⟨p',o3,o4,g⟩:=EZ (P:=Ev.run F w n) (w:=w) (d0:=.tup dl) (n:=h.length) l dl [] k 0 none none (h++[.dct []]) q (by simp) e;have hs:(h++[O.dct []]).set h.length (.dct k)=h++[.dct k]:=by simp
 rw[hs]at g;simp only[Ev.br]at g;simp only[Ev.run,hf];show Ev.endOf (Ev.exs (Ev.run F w n) w fU.body [some (.tup dl),none,none,none,none] h)=_;simp[fU,Ev.exs,Ev.ex,Ev.ev,Ev.R.bind,Ev.R.of,Ev.cB,Ev.eB,Ev.br,g,Ev.endOf]
theorem Lc{fn:Ev.Fn}{sl:List Sl}{v:V}{os:List (List V)}(e:xm fn sl=some (v,os)):fn=fU/\∃l k,sl=[.val (.tup l)]/\bh l 0 []=some k/\v=.dct k/\os=[]:=by
 unfold xm at e;split at e
 .rename_i h;refine⟨h,?_⟩;split at e
  .rename_i l;obtain⟨k,e1,e2⟩:=Option.map_eq_some_iff.mp e;cases e2;exact⟨l,k,rfl,e1,rfl,rfl⟩
  .cases e
 .cases e
end Pv
namespace Pv
open Ev (D O Hh bQ bK TY BI ME T E Es Eo It S Ss Fn big deep b2i rep cA di bM aV cut cL dY slots aZ)
section
variable{M B M':Nat->Prop}{h h' h1 h2:Hh}{S S' S1 S2:Nat->Prop}{fr af av:Fr}{ak:Ev.Fr}{c c1 c2:List Nat}{v:V}{d:D}
theorem kQ{n m:Nat}{o:O}(q:n≠m):(h.set n o)[m]?=h[m]?:=List.getElem?_set_ne q
theorem bw.mM(f:bw M B h S fr ak){i n:Nat}{o:Option Sl}(e:fr[i]?=some o)(hM:gS o=true)(e':ak[i]?=some (some (.ref n))):M n:=by
 have s:=f.sl i o _ e e';rcases o with _|s'
 .cases hM
 .cases s' with
  |val v=>cases hM
  |ro l=>cases hM
  |own l=>obtain⟨m',ds',e,y,_⟩:=s;cases e;exact y.1
  |bor l=>obtain⟨m',ds',e,y,_⟩:=s;cases e;exact y.1
theorem bw.write(f:bw M B h S fr ak){i n:Nat}{s:Sl}{l':List V}{ds':List D}(e:fr[i]?=some (some s))(hM:gS (some s)=true)(e':ak[i]?=some (some (.ref n)))(q:au h S l' ds') :
  bw M B (h.set n (.lst ds')) S (fr.set i (some (s.with l'))) ak:=by
 have mn:=f.mM e hM e';have kp:∀m,S m->(h.set n (.lst ds'))[m]?=h[m]?:=λm z=>kQ λy=>(f.wS m z).2.1 (y▸mn);have il:=(List.getElem?_eq_some_iff.mp e).1;refine⟨λm y=>by simpa using f.wS m y,λm y=>by simpa using f.wM m y,λm y=>by simpa using f.wB m y,by simp[f.len],λj o p y1 y2=>?_,λj k o o' m y1 y2 y3 y4 y5 y6=>?_⟩
 .by_cases hj:i=j
  .subst hj;rw[List.getElem?_set_self il]at y1;cases y1;rw[e']at y2;cases y2;have old:=f.sl i _ _ e e';have hn:(h.set n (.lst ds'))[n]?=some (.lst ds'):=List.getElem?_set_self (f.wM n mn);cases s with
   |val v=>cases hM
   |ro l=>cases hM
   |own l=>obtain⟨m',_,e,y,_⟩:=old;cases e;exact⟨n,ds',rfl,y,hn,q.mono kp λ_ z=>z⟩
   |bor l=>obtain⟨m',_,e,y,_⟩:=old;cases e;exact⟨n,ds',rfl,y,hn,q.mono kp λ_ z=>z⟩
  .rw[List.getElem?_set_ne hj]at y1;have old:=f.sl j o p y1 y2;rcases o with _|s'
   .exact old
   .cases s' with
    |val u=>obtain⟨d,e,q⟩:=old;exact⟨d,e,q.mono kp λ_ z=>z⟩
    |own u=>
     obtain⟨m,es,rfl,w1,w2,w3⟩:=old;refine⟨m,es,rfl,w1,?_,w3.mono kp λ_ z=>z⟩;rw[kQ λ(z:n=m)=>hj (f.inj i j _ _ n e y1 hM rfl e' (by rw[z];exact y2))];exact w2
    |bor u=>
     obtain⟨m,es,rfl,w1,w2,w3⟩:=old;refine⟨m,es,rfl,w1,?_,w3.mono kp λ_ z=>z⟩;rw[kQ λ(z:n=m)=>hj (f.inj i j _ _ n e y1 hM rfl e' (by rw[z];exact y2))];exact w2
    |ro u=>
     obtain⟨m,es,rfl,w1,w2,w3⟩:=old;refine⟨m,es,rfl,w1,?_,w3.mono kp λ_ z=>z⟩;rw[kQ λ(z:n=m)=>w1 (z▸mn)];exact w2
 .have kind:∀(j:Nat) o,(fr.set i (some (s.with l')))[j]?=some o->gS o=true->∃o0,fr[j]?=some o0/\gS o0=true:=λj o w1 w2=>by
   by_cases hj:i=j
   .subst hj;exact⟨_,e,hM⟩
   .rw[List.getElem?_set_ne hj]at w1;exact⟨o,w1,w2⟩
  obtain⟨oi,k1,k2⟩:=kind j o y1 y3;obtain⟨oj,k3,k4⟩:=kind k o' y2 y4;exact f.inj j k oi oj m k1 k3 k2 k4 y5 y6
theorem Le{m:ME}{l l':List V}{xs:List V}{n:Nat}{ds es:List D}(z:mK m l xs=some (v,l'))(e:h[n]?=some (.lst ds))(q:au h S l ds)(p:fP h S xs es)(p':AF m=false->au h S xs es)(hS:∀k,S k->k≠n) :
  ∃r ds',Ev.fJ m (.ref n) es h=.ok r (h.set n (.lst ds'))/\Rep h S v r/\au h S l' ds':=by
 unfold mK at z;split at z
 .have p':=p' rfl;split at z
  .rename_i k;cases z;simp only[au]at p';obtain⟨d,_,rfl,p1,rfl⟩:=p';refine⟨_,_,?_,rfl,q.append (.cons p1 .nil)⟩
   delta Ev.fJ;dsimp only;simp only[e]
   rw[if_pos (by rw[<-q.length];exact k)]
  .cases z
 .split at z
  .rename_i k;cases z;obtain⟨d,rfl,p1⟩:=p.one;simp only[bq]at p1;obtain⟨n2,cs,rfl,e2,p1⟩:=p1;refine⟨_,_,?_,rfl,q.append p1⟩
   delta Ev.fJ;dsimp only;simp only[e,e2]
   rw[if_pos (by rw[<-q.length,<-p1.length];exact k)]
  .cases z
 .simp only[fP]at p;subst p;split at z
  .rename_i x y;cases z;obtain⟨d,k1,k2⟩:=q.get y;refine⟨d,_,?_,k2,q.dropLast⟩
   delta Ev.fJ;dsimp only;simp only[e]
   rw[<-q.length,k1]
  .cases z
 .have p':=p' rfl;simp only[au]at p';obtain⟨d1,_,rfl,p1,d2,_,rfl,p2,rfl⟩:=p';obtain⟨j,z1,z⟩:=Option.map_eq_some_iff.mp z;cases z;simp only[Rep]at p2;subst p2;refine⟨.aH,_,?_,rfl,q.set j p1⟩
  delta Ev.fJ;dsimp only;simp only[e]
  rw[<-q.length,z1]
 .cases z
theorem bw.set(f:bw M B h S fr ak){i:Nat}(e:put fr i (.val v)=some af)(q:Rep h S v d):bw M B h S af (ak.set i (some d))/\(∀j,locked af j=locked fr j)/\∀j,locked fr j=true->(ak.set i (some d))[j]?=ak[j]?:=by
 have hx:af=fr.set i (some (.val v))/\locked fr i=false:=by
  unfold put at e;unfold locked;split at e
  .cases e
  .cases e
  .rename_i k1 k2;cases e;refine⟨rfl,?_⟩;cases z:fr[i]? with
   |none=>rfl
   |some o=>
    rcases o with _|s
    .rfl
    .cases s with
     |bor l=>exact absurd z (k1 l)
     |ro l=>exact absurd z (k2 l)
     |_=>rfl
 obtain⟨rfl,hk⟩:=hx;have lk:∀j,locked (fr.set i (some (.val v))) j=locked fr j:=λj=>by
  by_cases hj:i=j
  .subst hj;rw[hk];unfold locked;by_cases hl:i<fr.length
   .rw[List.getElem?_set_self hl];rfl
   .rw[List.getElem?_eq_none (by simpa using hl)]
  .unfold locked;rw[List.getElem?_set_ne hj]
 refine⟨⟨f.wS,f.wM,f.wB,by simp[f.len],λj o p y1 y2=>?_,λj k o o' m y1 y2 y3 y4 y5 y6=>?_⟩,lk,λj hj=>?_⟩
 .by_cases hj:i=j
  .subst hj;have hl:i<fr.length:=by have:=(List.getElem?_eq_some_iff.mp y1).1;simpa using this
   rw[List.getElem?_set_self hl]at y1;rw[List.getElem?_set_self (by rw[<-f.len];exact hl)]at y2;cases y1;cases y2;exact⟨d,rfl,q⟩
  .rw[List.getElem?_set_ne hj]at y1 y2;exact f.sl j o p y1 y2
 .have hn:∀(j:Nat) o,(fr.set i (some (.val v)))[j]?=some o->gS o=true->i≠j:=λj o w1 w2 w3=>by
   subst w3;have hl:i<fr.length:=by have:=(List.getElem?_eq_some_iff.mp w1).1;simpa using this
   rw[List.getElem?_set_self hl]at w1;cases w1;cases w2
  have n1:=hn j o y1 y3;have n2:=hn k o' y2 y4;rw[List.getElem?_set_ne n1]at y1 y5;rw[List.getElem?_set_ne n2]at y2 y6;exact f.inj j k o o' m y1 y2 y3 y4 y5 y6
 .have:i≠j:=λz=>by subst z;rw[hk]at hj;cases hj
  rw[List.getElem?_set_ne this]
theorem bw.cK:∀{is:List Nat}{vs:List V}{ds:List D}{fr af:Fr}{ak:Ev.Fr},bw M B h S fr ak->cK is vs fr=some af->au h S vs ds->∃bR,Ev.cK is ds ak=some bR/\bw M B h S af bR/\(∀j,locked af j=locked fr j)/\∀j,locked fr j=true->bR[j]?=ak[j]?
 |[],[],ds,fr,af,ak,f,e,q=>by
  simp[Pv.cK]at e;simp only[au]at q;subst e q;exact⟨ak,rfl,f,λ_=>rfl,λ_ _=>rfl⟩
 |[],_ :: _,_,_,_,_,_,e,_=>by simp[Pv.cK]at e
 |_ :: _,[],_,_,_,_,_,e,_=>by simp[Pv.cK]at e
 |i :: is,v :: vs,ds,fr,af,ak,f,e,q=>by
  simp only[Pv.cK,Option.bind_eq_some_iff]at e;obtain⟨av,e1,e2⟩:=e;simp only[au]at q;obtain⟨d,es,rfl,q1,q2⟩:=q;obtain⟨f2,l2,r2⟩:=f.set e1 q1;obtain⟨bR,a,f3,l3,r3⟩:=f2.cK e2 q2;exact⟨bR,a,f3,λj=>(l3 j).trans (l2 j),λj hj=>(r3 j (by rw[l2 j];exact hj)).trans (r2 j hj)⟩
theorem bw.br(f:bw M B h S fr ak){t:T}(e:br t v fr=some af)(q:Rep h S v d):∃bR,Ev.br t d ak=some bR/\bw M B h S af bR/\(∀j,locked af j=locked fr j)/\∀j,locked fr j=true->bR[j]?=ak[j]?:=by
 cases t with
 |one i=>exact⟨_,rfl,f.set e q⟩
 |many l=>
  cases v<;>simp only[Pv.br,reduceCtorEq]at e
  simp only[Rep]at q;obtain⟨ds,rfl,q⟩:=q;exact f.cK e q
theorem bw.undef(f:bw M B h S fr ak){t:T}(e:undef t fr=true):Ev.undef t ak=true:=by
 unfold Pv.undef at e;unfold Ev.undef;rw[List.all_eq_true]at e ⊢;intro i hi;have:=e i hi;cases z:fr[i]? with
 |none=>
  have:ak[i]?=none:=by
   rw[List.getElem?_eq_none_iff]at z ⊢;rw[<-f.len];exact z
  rw[this];rfl
 |some o=>
  obtain⟨p,e1,q⟩:=f.get z;rw[z]at this;rcases o with _|s
  .simp only[kN]at q;subst q;rw[e1];rfl
  .simp at this
theorem xy{i:Nat}{o:Option Sl}(e:(sD fr)[i]?=some o):∃o0,fr[i]?=some o0/\o=o0.map Sl.read:=by
 unfold sD at e;rw[List.getElem?_map]at e;cases z:fr[i]? with
 |none=>rw[z]at e;cases e
 |some o0=>rw[z]at e;cases e;exact⟨o0,rfl,rfl⟩
theorem bw.ro(f:bw M B h S fr ak):bw (λ_=>False) B h S (sD fr) ak:=by
 refine⟨λm y=>⟨(f.wS m y).1,id,(f.wS m y).2.2⟩,λm y=>y.elim,f.wB,by simp[sD,f.len],λi o p y1 y2=>?_,λi j o o' m y1 y2 y3 y4 y5 y6=>?_⟩
 .obtain⟨o0,z,rfl⟩:=xy y1;have q:=f.sl i o0 p z y2;rcases o0 with _|s
  .exact q
  .cases s with
   |val v=>exact q
   |own l=>obtain⟨m,ds,a,b,c,d⟩:=q;exact⟨m,ds,a,id,c,d⟩
   |bor l=>obtain⟨m,ds,a,b,c,d⟩:=q;exact⟨m,ds,a,id,c,d⟩
   |ro l=>obtain⟨m,ds,a,b,c,d⟩:=q;exact⟨m,ds,a,id,c,d⟩
 .obtain⟨o0,z,rfl⟩:=xy y1;rcases o0 with _|s
  .cases y3
  .cases s<;>cases y3
theorem gK:∀{ck:List (Nat×List D)},(∀q∈ck,aZ h q.1=some q.2)->Ev.stays h ck=true
 |[],_=>rfl
 | (n,ds) :: r,q=>by
  simp only[Ev.stays,Bool.and_eq_true];refine⟨?_,gK λx hx=>q x (List.mem_cons_of_mem _ hx)⟩;rw[q (n,ds) (List.mem_cons_self ..)];exact Ev.yv _
theorem jX{n:Nat}{ds:List D}(q:aZ h n=some ds)(k:h'[n]?=h[n]?):aZ h' n=some ds:=by
 unfold aZ at q ⊢;rw[k];exact q
theorem nh{n:Nat}{ds:List D}(q:aZ h n=some ds):n<h.length:=by
 unfold aZ at q;cases z:h[n]? with
 |none=>rw[z]at q;cases q
 |some o=>exact(List.getElem?_eq_some_iff.mp z).1
noncomputable def C1(h:Hh)(S:Nat->Prop):Option V->Option D->Prop
 |none,o=>o=none
 |some v,o=>∃d,o=some d/\Rep h S v d
theorem xA{f:V->Option (Option V)}{f':D->Hh->Ev.R (Option D)}{ck:List (Nat×List D)}{h0:Hh}{S0:Nat->Prop}(w0:∀m,S0 m->m<h0.length)(st:∀q∈ck,aZ h0 q.1=some q.2)
  (turn:∀v o d h S,Al h0 S0 h S->f v=some o->Rep h S v d->∃o' h' S',f' d h=.ok o' h'/\C1 h' S' o o'/\Al h S h' S') :
  ∀{vs:List V} {ds:List D} {rs:List V} {h:Hh} {S:Nat->Prop},Al h0 S0 h S->cV f vs=some rs->au h S vs ds->∃rs' h' S',Ev.cV f' ck ds h=.ok rs' h'/\au h' S' rs rs'/\Al h S h' S'
 |[],ds,rs,h,S,a,e,q=>by
  simp[cV]at e;simp only[au]at q;subst e q;refine⟨[],h,S,?_,.nil,.refl⟩;simp only[Ev.cV];rw[if_pos (gK λx hx=>jX (st x hx) (a.keep _ (nh (st x hx))))]
 |v :: vs,ds,rs,h,S,a,e,q=>by
  simp only[cV,Option.bind_eq_some_iff]at e;obtain⟨o,e1,r,e2,e3⟩:=e;cases e3;simp only[au]at q;obtain⟨d,es,rfl,q1,q2⟩:=q;have w:∀m,S m->m<h.length:=λm z=>by
   rcases a.new m z with z|z
   .exact Nat.lt_of_lt_of_le (w0 m z) a.len
   .exact z.2
  obtain⟨o',h1,S1,t1,t2,t3⟩:=turn v o d h S a e1 q1;obtain⟨rs',h2,S2,u1,u2,u3⟩:=xA w0 st turn (a.trans t3) e2 (q2.mono (λm z=>t3.keep m (w m z)) t3.sub);have w1:∀m,S1 m->m<h1.length:=λm z=>by
   rcases t3.new m z with z|z
   .exact Nat.lt_of_lt_of_le (w m z) t3.len
   .exact z.2
  refine⟨o'.toList++rs',h2,S2,?_,?_,t3.trans u3⟩
  .simp only[Ev.cV];rw[if_pos (gK λx hx=>jX (st x hx) (a.keep _ (nh (st x hx)))),t1,Ev.ao,u1,Ev.ao]
  .cases o with
   |none=>simp only[C1]at t2;subst t2;simpa using u2
   |some v'=>
    simp only[C1]at t2;obtain⟨d',rfl,t2⟩:=t2;exact .cons (t2.mono (λm z=>u3.keep m (w1 m z)) u3.sub) u2
end
noncomputable def jD(k:Bool)(h:Hh)(S:Nat->Prop)(v:List V)(d:List D):Prop:=if k=true then fP h S v d else au h S v d
inductive Lf(P':Ev.aR)(e:E)(k:Bool)(v:V)(M B:Nat->Prop)(h:Hh)(S:Nat->Prop)(fr:Fr)(ak:Ev.Fr)(af:Fr):Prop
 |mk (d:D) (h':Hh) (S':Nat->Prop) (c0:Ev.ev P' e ak h=.ok d h') (c1:fV k h' S' v d) (c2:Out M B (bG e) h S fr ak h' S' af):Lf P' e k v M B h S fr ak af
inductive Lh(P':Ev.aR)(e:E)(b:Bool)(M B:Nat->Prop)(h:Hh)(S:Nat->Prop)(fr:Fr)(ak:Ev.Fr)(af:Fr):Prop
 |mk (h':Hh) (S':Nat->Prop) (c0:Ev.aK P' e ak h=.ok b h') (c1:Out M B (bG e) h S fr ak h' S' af):Lh P' e b M B h S fr ak af
inductive Li(P':Ev.aR)(e:Es)(k:Bool)(v:List V)(M B:Nat->Prop)(h:Hh)(S:Nat->Prop)(fr:Fr)(ak:Ev.Fr)(af:Fr):Prop
 |mk (d:List D) (h':Hh) (S':Nat->Prop) (c0:Ev.bZ P' e ak h=.ok d h') (c1:jD k h' S' v d) (c2:Out M B (fT e) h S fr ak h' S' af):Li P' e k v M B h S fr ak af
inductive Lj(P':Ev.aR)(e:Es)(v:List (Nat ⊕ V))(M B:Nat->Prop)(h:Hh)(S:Nat->Prop)(fr:Fr)(ak:Ev.Fr)(af:Fr):Prop
 |mk (d:List D) (h':Hh) (S':Nat->Prop) (c0:Ev.bZ P' e ak h=.ok d h') (c1:uK h' S' ak v d) (c2:Out M B (fT e) h S fr ak h' S' af):Lj P' e v M B h S fr ak af
inductive Lk(P':Ev.aR)(e:Eo)(v:Option Int)(M B:Nat->Prop)(h:Hh)(S:Nat->Prop)(fr:Fr)(ak:Ev.Fr)(af:Fr):Prop
 |mk (h':Hh) (S':Nat->Prop) (c0:Ev.fN P' e ak h=.ok v h') (c1:Out M B (kG e) h S fr ak h' S' af):Lk P' e v M B h S fr ak af
inductive Ll(P':Ev.aR)(e:Eo)(v:Bool)(M B:Nat->Prop)(h:Hh)(S:Nat->Prop)(fr:Fr)(ak:Ev.Fr)(af:Fr):Prop
 |mk (h':Hh) (S':Nat->Prop) (c0:Ev.ir P' e ak h=.ok v h') (c1:Out M B (kG e) h S fr ak h' S' af):Ll P' e v M B h S fr ak af
inductive Lm(P':Ev.aR)(e:It)(k:Bool)(v:List V)(M B:Nat->Prop)(h:Hh)(S:Nat->Prop)(fr:Fr)(ak:Ev.Fr)(af:Fr):Prop
 |mk (s:Ev.Src) (h':Hh) (S':Nat->Prop) (c0:Ev.cB P' e ak h=.ok s h') (c1:au h' S' v s.1) (c2:∀q∈s.2,aZ h' q.1=some q.2/\(k=false->¬ M q.1)) (c3:Out M B (CV e) h S fr ak h' S' af):Lm P' e k v M B h S fr ak af
section
variable(P:aR)(P':Ev.aR)
noncomputable def bu(e:E):Prop:=∀{k:Bool} {fr:Fr} {v:V} {af:Fr} {M B:Nat->Prop} {h:Hh} {S:Nat->Prop} {ak:Ev.Fr},ev P k e fr=.ok v af->bw M B h S fr ak->Lf P' e k v M B h S fr ak af
noncomputable def gG(e:E):Prop:=∀{fr:Fr} {b:Bool} {af:Fr} {M B:Nat->Prop} {h:Hh} {S:Nat->Prop} {ak:Ev.Fr},aK P e fr=.ok b af->bw M B h S fr ak->Lh P' e b M B h S fr ak af
noncomputable def jE(e:Es):Prop:=∀{k:Bool} {fr:Fr} {v:List V} {af:Fr} {M B:Nat->Prop} {h:Hh} {S:Nat->Prop} {ak:Ev.Fr},bZ P k e fr=.ok v af->bw M B h S fr ak->Li P' e k v M B h S fr ak af
noncomputable def pQ(e:Es):Prop:=∀{fr:Fr} {v:List (Nat ⊕ V)} {af:Fr} {M B:Nat->Prop} {h:Hh} {S:Nat->Prop} {ak:Ev.Fr},fO P e fr=.ok v af->bw M B h S fr ak->Lj P' e v M B h S fr ak af
noncomputable def pR(e:Eo):Prop:=∀{fr:Fr} {v:Option Int} {af:Fr} {M B:Nat->Prop} {h:Hh} {S:Nat->Prop} {ak:Ev.Fr},fN P e fr=.ok v af->bw M B h S fr ak->Lk P' e v M B h S fr ak af
noncomputable def sV(e:Eo):Prop:=∀{fr:Fr} {v:Bool} {af:Fr} {M B:Nat->Prop} {h:Hh} {S:Nat->Prop} {ak:Ev.Fr},ir P e fr=.ok v af->bw M B h S fr ak->Ll P' e v M B h S fr ak af
noncomputable def lJ(e:It):Prop:=∀{k:Bool} {fr:Fr} {v:List V} {af:Fr} {M B:Nat->Prop} {h:Hh} {S:Nat->Prop} {ak:Ev.Fr},cB P k e fr=.ok v af->bw M B h S fr ak->Lm P' e k v M B h S fr ak af
end
section
variable{P:aR}{P':Ev.aR}{a b e tt:E}{es:Es}{lo hi:Eo}{it:It}
theorem Ln{d:D}:bu P P' (.c d):=λz f=>by
 simp only[ev]at z;replace z:=aD z;obtain⟨z,y0⟩:=z;subst y0;exact⟨d,_,_,by simp only[Ev.ev],.of (m7 z),.refl f⟩
theorem Lo{i:Nat}:bu P P' (.v i):=λz f=>by
 simp only[ev]at z;replace z:=aD z;obtain⟨z,y0⟩:=z;subst y0;obtain⟨d,e1,q⟩:=Hg z f;exact⟨d,_,_,by simp only[Ev.ev,e1,Ev.dM],q,.refl f⟩
theorem jD.n{h:Hh}{S:Nat->Prop}{v:List V}{d:List D}(q:jD false h S v d):au h S v d:=by simpa[jD]using q
theorem au.tl{h:Hh}{S:Nat->Prop}:∀{v:List V}{d:List D},au h S v d->fP h S v d
 |[],_,q=>q
 |_ :: _,_,⟨d,es,a,b,q⟩=>⟨d,es,a,b.top,q.tl⟩
theorem jD.t{k:Bool}{h:Hh}{S:Nat->Prop}{v:List V}{d:List D}(q:jD k h S v d):fP h S v d:=by
 unfold jD at q;split at q
 .exact q
 .exact q.tl
theorem AK(is:jE P P' es):bu P P' (.tup es):=λz f=>by
 simp only[ev]at z;obtain⟨ds,av,z1,z2⟩:=ah z;replace z2:=aD z2;obtain⟨z2,y0⟩:=z2;subst y0;obtain⟨ds',h',S',e1,q,o⟩:=is z1 f;unfold jU at z2;split at z2
 .rename_i hk;cases z2;refine⟨.tup ds',h',S',?_,.of ⟨ds',rfl,q.n⟩,o⟩;simp only[Ev.ev,e1,Ev.ao];rw[if_pos (by rw[<-q.n.length];exact hk)]
 .cases z2
theorem AL(is:jE P P' es):bu P P' (.lst es):=λz f=>by
 simp only[ev]at z;obtain⟨ds,av,z1,z2⟩:=ah z;replace z2:=aD z2;obtain⟨z2,y0⟩:=z2;subst y0;obtain⟨ds',h',S',e1,q,o⟩:=is z1 f;obtain⟨r,h2,S2,a1,a2,a3⟩:=iA o.f.w z2 q.n;exact⟨r,h2,S2,by simp only[Ev.ev,e1,Ev.ao,a1],.of a2,o.al a3⟩
theorem nU{a:E}{ak:Ev.Fr}{h h1:Hh}{d:D}(e:Ev.ev P' a ak h=.ok d h1):∀i,a=.v i->ak[i]?.join=some d:=λi hi=>by
 subst hi;simp only[Ev.ev]at e;exact(Ev.aD e).1
theorem two(ia:bu P P' a)(ib:bu P P' b){α:Type}{X:V->V->Fr->R α}{u:α}{fr bD:Fr}{M B:Nat->Prop}{h:Hh}{S:Nat->Prop}{ak:Ev.Fr}
  (z:((ev P (kf a (bG b)) a fr).bind λx af=>(ev P true b af).bind λy av=>X x y av)=.ok u bD) (f:bw M B h S fr ak) :
  ∃x y d e h2 S2 av,(∀{β:Type} (g:D->D->Hh->Ev.R β),((Ev.ev P' a ak h).bind λx h1=>(Ev.ev P' b ak h1).bind λy h2=>g x y h2)=g d e h2)/\X x y av=.ok u bD/\bq h2 S2 x d/\bq h2 S2 y e/\Out M B (bG a++bG b) h S fr ak h2 S2 av:=by
 replace z:=ah z;obtain⟨x,af,z1,z⟩:=z;replace z:=ah z;obtain⟨y,av,z2,z⟩:=z;obtain⟨d,h1,S1,e1,q1,o1⟩:=ia z1 f;obtain⟨e,h2,S2,e2,q2,o2⟩:=ib z2 o1.f;exact⟨x,y,d,e,h2,S2,av,λg=>by rw[e1,Ev.ao,e2,Ev.ao],z,(q1.tr o1.f o2.tr id (nU e1)).t,q2.t,o1.trans o2⟩
theorem AM{o:bQ}(ia:bu P P' a)(ib:bu P P' b):bu P P' (.bin o a b):=λz f=>by
 simp only[ev]at z;replace z:=two ia ib z f;obtain⟨x,y,d,e,h2,S2,av,k,z,q1,q2,ou⟩:=z;replace z:=aD z;obtain⟨z,y0⟩:=z;subst y0;obtain⟨r,h3,S3,a1,a2,a3⟩:=K2 ou.f.w z q1 q2;exact⟨r,h3,S3,by simp only[Ev.ev];rw[k];exact a1,.of a2,ou.al a3⟩
theorem AN{o:bK}(ia:bu P P' a)(ib:bu P P' b):bu P P' (.cmp o a b):=λz f=>by
 simp only[ev]at z;replace z:=two ia ib z f;obtain⟨x,y,d,e,h2,S2,av,k,z,q1,q2,ou⟩:=z;replace z:=aD z;obtain⟨z,y0⟩:=z;subst y0;simp only[Option.map_eq_some_iff]at z;obtain⟨b,z,rfl⟩:=z;exact⟨.bl b,h2,S2,by simp only[Ev.ev];rw[k,K3 z q1.u q2.u];rfl,.of rfl,ou⟩
theorem E1(ia:bu P P' a)(ib:bu P P' b):bu P P' (.ix a b):=λz f=>by
 simp only[ev]at z;replace z:=two ia ib z f;obtain⟨x,y,d,e,h2,S2,av,k,z,q1,q2,ou⟩:=z;replace z:=aD z;obtain⟨z,y0⟩:=z;subst y0;obtain⟨r,a1,a2⟩:=K4 z q1 q2;exact⟨r,h2,S2,by simp only[Ev.ev];rw[k,a1];rfl,.of a2,ou⟩
theorem Hi{x y v:V}{d e:D}{h:Hh}{S:Nat->Prop}(z:CU x y=some v)(p:bq h S x d)(q:bq h S y e):∃r,Ev.Ct d e h=some r/\Rep h S v r:=by
 unfold CU at z;split at z
 .simp only[bq,Rep]at p q;obtain⟨n,rfl,_,p⟩:=p;subst q;obtain⟨s,e1,rfl⟩:=Option.map_eq_some_iff.mp z;exact⟨.str s,by simp[Ev.Ct,Ev.fE,p,e1],rfl⟩
 .cases z
theorem AO(ia:bu P P' a)(ib:bu P P' b):bu P P' (.wG a b):=λz f=>by
 simp only[ev]at z;replace z:=two ia ib z f;obtain⟨x,y,d,e,h2,S2,av,k,z,q1,q2,ou⟩:=z;replace z:=aD z;obtain⟨z,y0⟩:=z;subst y0;obtain⟨r,a1,a2⟩:=Hi z q1 q2;exact⟨r,h2,S2,by simp only[Ev.ev];rw[k,a1];rfl,.of a2,ou⟩
theorem AQ{c:E}(ia:bu P P' a)(ib:bu P P' b)(ic:bu P P' c):bu P P' (.mF a b c):=λz f=>by
 simp only[ev]at z;replace z:=ah z;obtain⟨x,af,z1,z⟩:=z;replace z:=ah z;obtain⟨y,av,z2,z⟩:=z;replace z:=ah z;obtain⟨u,bE,z3,z⟩:=z;replace z:=aD z;obtain⟨z,y0⟩:=z;subst y0;obtain⟨d,h1,S1,e1,q1,o1⟩:=ia z1 f;obtain⟨e,h2,S2,e2,q2,o2⟩:=ib z2 o1.f;obtain⟨g,h3,S3,e3,q3,o3⟩:=ic z3 o2.f;have p0:=q1.t;have p1:=(q1.tr o1.f (o2.trans o3).tr id (nU e1)).t;have p2:=(q2.tr o2.f o3.tr id (nU e2)).t;have p3:Rep h3 S3 u g:=q3;unfold uD at z;split at z
 .cases z;simp only[bq,Rep]at p0 p1 p2;obtain⟨n,rfl,_,p0⟩:=p0;obtain⟨n',en,_,p1⟩:=p1;cases en;subst p2;rename_i kvs k _ _;cases hv:Ev.b7 kvs k with
  |none=>exact⟨g,h3,S3,by simp only[Ev.ev,e1,Ev.ao,e2,e3];simp[Ev.t7,Ev.fE,p0,p1,hv,Ev.dM],.of p3,o1.trans (o2.trans o3)⟩
  |some s=>exact⟨.str s,h3,S3,by simp only[Ev.ev,e1,Ev.ao,e2,e3];simp[Ev.t7,Ev.fE,p0,p1,hv,Ev.dM],.of rfl,o1.trans (o2.trans o3)⟩
 .cases z
theorem Oj(ia:bu P P' a):bu P P' (.nt a):=λz f=>by
 simp only[ev]at z;replace z:=ah z;obtain⟨x,af,z1,z⟩:=z;obtain⟨d,h1,S1,e1,q1,o1⟩:=ia z1 f;cases x<;>simp only[reduceCtorEq]at z
 cases z;have q:=q1.t;simp only[bq,Rep]at q;subst q;exact⟨_,h1,S1,by simp only[Ev.ev,e1,Ev.ao],.of rfl,o1⟩
theorem AR(ia:bu P P' a):bu P P' (.neg a):=λz f=>by
 simp only[ev]at z;replace z:=ah z;obtain⟨x,af,z1,z⟩:=z;obtain⟨d,h1,S1,e1,q1,o1⟩:=ia z1 f;cases x<;>simp only[reduceCtorEq]at z
 cases z;have q:=q1.t;simp only[bq,Rep]at q;subst q;exact⟨_,h1,S1,by simp only[Ev.ev,e1,Ev.ao],.of rfl,o1⟩
theorem Ol(ia:bu P P' a)(ib:bu P P' b):bu P P' (.an a b):=λz f=>by
 simp only[ev]at z;replace z:=ah z;obtain⟨x,af,z1,z⟩:=z;obtain⟨d,h1,S1,e1,q1,o1⟩:=ia z1 f;cases x<;>try (cases z;done)
 rename_i k;have q:=q1.t;simp only[bq,Rep]at q;subst q;cases k with
 |true=>
  try simp only at z
  obtain⟨d,h2,S2,e2,q2,o2⟩:=ib z o1.f;exact⟨d,h2,S2,by simp only[Ev.ev,e1,Ev.ao,e2],q2,o1.trans o2⟩
 |false=>
  try simp only at z
  cases z;exact⟨_,h1,S1,by simp only[Ev.ev,e1,Ev.ao],.of rfl,o1.weak (by simp only[bG];intro i hi;simp[hi])⟩
theorem Lp(ia:bu P P' a)(ib:bu P P' b):bu P P' (.orr a b):=λz f=>by
 simp only[ev]at z;replace z:=ah z;obtain⟨x,af,z1,z⟩:=z;obtain⟨d,h1,S1,e1,q1,o1⟩:=ia z1 f;cases x<;>try (cases z;done)
 rename_i k;have q:=q1.t;simp only[bq,Rep]at q;subst q;cases k with
 |false=>
  try simp only at z
  obtain⟨d,h2,S2,e2,q2,o2⟩:=ib z o1.f;exact⟨d,h2,S2,by simp only[Ev.ev,e1,Ev.ao,e2],q2,o1.trans o2⟩
 |true=>
  try simp only at z
  cases z;exact⟨_,h1,S1,by simp only[Ev.ev,e1,Ev.ao],.of rfl,o1.weak (by simp only[bG];intro i hi;simp[hi])⟩
theorem AS(it:gG P P' tt)(ia:bu P P' a)(ib:bu P P' b):bu P P' (.g9 tt a b):=λz f=>by
 simp only[ev]at z;replace z:=ah z;obtain⟨k,af,z1,z⟩:=z;obtain⟨h1,S1,e1,o1⟩:=it z1 f;cases k with
 |true=>
  simp only[if_true]at z;obtain⟨d,h2,S2,e2,q2,o2⟩:=ia z o1.f;exact⟨d,h2,S2,by simp only[Ev.ev,e1,Ev.ao,if_true,e2],q2,(o1.trans o2).weak (by simp only[bG];intro i hi;simp at hi ⊢;rcases hi with hi|hi<;>simp[hi])⟩
 |false=>
  simp only[Bool.false_eq_true,if_false]at z;obtain⟨d,h2,S2,e2,q2,o2⟩:=ib z o1.f;exact⟨d,h2,S2,by simp only[Ev.ev,e1,Ev.ao];rw[if_neg (by decide)];exact e2,q2,(o1.trans o2).weak (by simp only[bG];intro i hi;simp at hi ⊢;rcases hi with hi|hi<;>simp[hi])⟩
theorem E2(ia:bu P P' a)(il:pR P P' lo)(ih:pR P P' hi):bu P P' (.sl a lo hi):=λz f=>by
 simp only[ev]at z;replace z:=ah z;obtain⟨x,af,z1,z⟩:=z;replace z:=ah z;obtain⟨l,av,z2,z⟩:=z;replace z:=ah z;obtain⟨u,bE,z3,z⟩:=z;replace z:=aD z;obtain⟨z,y0⟩:=z;subst y0;obtain⟨d,h1,S1,e1,q1,o1⟩:=ia z1 f;obtain⟨h2,S2,e2,o2⟩:=il z2 o1.f;obtain⟨h3,S3,e3,o3⟩:=ih z3 o2.f;have q:=(q1.tr o1.f (o2.trans o3).tr id (nU e1)).t;obtain⟨r,h4,S4,a1,a2,a3⟩:=K5 o3.f.w z q;exact⟨r,h4,S4,by simp only[Ev.ev,e1,Ev.ao,e2,e3,a1],.of a2,(o1.trans (o2.trans o3)).al a3⟩
theorem ni:∀{es:Es}{fr af:Fr}{as:List (Nat ⊕ V)},fO P es fr=.ok as af->∀i∈bU as,i∈jf es
 |.nil,_,_,_,z=>by simp only[fO]at z;cases z;simp[bU]
 |.cons e es,fr,af,as,z=>by
  simp only[fO]at z;cases y:jB fr e with
  |some i=>
   rw[y]at z;simp only at z;replace z:=ah z;obtain⟨xs,bE,z2,z⟩:=z;cases z;have hy:e=.v i:=by
    cases e<;>simp only[jB,reduceCtorEq]at y
    split at y
    .cases y;rfl
    .cases y
   subst hy;intro j hj;simp only[bU,List.mem_cons]at hj;simp only[jf,List.mem_cons];exact hj.imp id λhj=>ni z2 j hj
  |none=>
   rw[y]at z;simp only at z;replace z:=ah z;obtain⟨x,av,z1,z⟩:=z;replace z:=ah z;obtain⟨xs,bE,z2,z⟩:=z;cases z;intro j hj;simp only[bU]at hj;have:=ni z2 j hj;cases e<;>simp only[jf]<;>first|exact this|exact List.mem_cons_of_mem _ this
theorem E3(HP:pN P P'){g:Nat}(is:pQ P P' es):bu P P' (.cl g es):=λz f=>by
 simp only[ev]at z;replace z:=ah z;obtain⟨as,af,z1,z⟩:=z;obtain⟨ds,h1,S1,e1,q1,o1⟩:=is z1 f;obtain⟨d,h2,S2,e2,q2,o2⟩:=C0 HP z o1.f q1;exact⟨d,h2,S2,by simp only[Ev.ev,e1,Ev.ao,e2],.of q2,(o1.trans o2).weak (by
  simp only[bG];intro i hi;rcases List.mem_append.mp hi with hi|hi
  .exact List.mem_append.mpr (.inl hi)
  .exact List.mem_append.mpr (.inr (ni z1 i hi)))⟩
theorem E4{g:BI}(is:jE P P' es):bu P P' (.bi g es):=λz f=>by
 simp only[ev]at z;replace z:=ah z;obtain⟨as,af,z1,z⟩:=z;replace z:=aD z;obtain⟨z,y0⟩:=z;subst y0;obtain⟨ds,h1,S1,e1,q1,o1⟩:=is z1 f;obtain⟨r,h4,S4,a1,a2,a3⟩:=K7 o1.f.w z q1.t;exact⟨r,h4,S4,by simp only[Ev.ev,e1,Ev.ao,a1],.of a2,o1.al a3⟩
theorem AU{ts:List TY}(ia:bu P P' a):bu P P' (.kO a ts):=λz f=>by
 simp only[ev]at z;replace z:=ah z;obtain⟨x,af,z1,z⟩:=z;cases z;obtain⟨d,h1,S1,e1,q1,o1⟩:=ia z1 f;have:Ev.cW h1 d=cW x:=funext λt=>G9 q1.t t;refine⟨.bl (ts.any (Ev.cW h1 d)),h1,S1,by simp only[Ev.ev,e1,Ev.ao],.of ?_,o1⟩;rw[this];rfl
theorem xB{kvs:List (D×D)}(ia:bu P P' a):bu P P' (.jw kvs a):=λz f=>by
 simp only[ev]at z;replace z:=ah z;obtain⟨x,af,z1,z⟩:=z;replace z:=aD z;obtain⟨z,y0⟩:=z;subst y0;obtain⟨d,h1,S1,e1,q1,o1⟩:=ia z1 f;obtain⟨r,a1,a2⟩:=CW (S:=S1) q1.t.u z;exact⟨r,h1,S1,by simp only[Ev.ev,e1,Ev.ao,a1,Ev.dM],.of a2,o1⟩
theorem AV(ia:bu P P' a):bu P P' (.jg a):=λz f=>by
 simp only[ev]at z;replace z:=ah z;obtain⟨x,af,z1,z⟩:=z;replace z:=aD z;obtain⟨z,y0⟩:=z;subst y0;obtain⟨d,h1,S1,e1,q1,o1⟩:=ia z1 f;obtain⟨r,a1,a2⟩:=K6 z q1.t;exact⟨r,h1,S1,by simp only[Ev.ev,e1,Ev.ao,a1],.of a2,o1⟩
theorem E5{m:ME}{o:E}(io:bu P P' o)(is:jE P P' es):bu P P' (.me m o es):=λ{k fr v af M B h S ak} z f=>by
 simp only[ev]at z;by_cases hm:iX m=true
 .rw[if_pos hm]at z;cases y:jB fr o with
  |none=>rw[y]at z;cases z
  |some i=>
  rw[y]at z;try simp only at z
  replace z:=ah z;obtain⟨as,av,z1,z⟩:=z;have hy:o=.v i/\∃s,lent fr i=some s:=by
   cases o<;>simp only[jB,reduceCtorEq]at y
   rename_i j;split at y
   .rename_i hs;cases y;exact⟨rfl,Option.isSome_iff_exists.mp hs⟩
   .cases y
  obtain⟨rfl,s,hs⟩:=hy;obtain⟨n,cs,_,_,_,w2,w3,_,_⟩:=jH hs f;obtain⟨ds,h1,S1,e1,q1,o1⟩:=is z1 f;have hr:Ev.wH m (.ref n) h=true:=by cases m<;>simp[iX]at hm<;>simp[Ev.wH,gI w3]
  have hap:AF m=false->au h1 S1 as ds:=λhh=>by rw[hh]at q1;exact q1.n
  have fin:∀s l l',av[i]?=some (some s)->gS (some s)=true->(∃m' cs',ak[i]?=some (some (.ref m'))/\h1[m']?=some (.lst cs')/\au h1 S1 l cs')->mK m l as=some (v,l')->af=av.set i (some (s.with l'))->
    Lf P' (.me m (.v i) es) k v M B h S fr ak af:=by
   intro s l l' k1 k2 ⟨m',cs',k3,k4,k5⟩ k6 k7;rw[w2]at k3;cases k3;have mn:=o1.f.mM k1 k2 w2;obtain⟨r,ds',a1,a2,a3⟩:=Le k6 k4 k5 q1.t hap λk z y=>(o1.f.wS k z).2.1 (y▸mn);have fw:=o1.f.write (l':=l') k1 k2 w2 a3;subst k7;refine⟨r,_,S1,?_,.of (a2.mono (λm z=>kQ λy=>(o1.f.wS m z).2.1 (y▸mn)) λ_ z=>z),fw,?_,λj=>?_⟩
   .simp only[Ev.ev,w2,Option.join,Ev.dM,Ev.ao,hr,if_true,e1];simp only[Option.bind,id,Ev.dM,Ev.ao,hr,if_true,e1];exact a1
   .refine⟨by simpa using o1.tr.len,λm y1 y2=>?_,o1.tr.sub,λm y=>by simpa using o1.tr.new m y⟩;have y3:¬ Xs M ak (fT es) m:=λz=>y2 (Xs.mono (by simp only[bG];intro i hi;simp[hi]) z);have y4:m≠n:=λz=>y2 ⟨z▸mn,i,by simp[bG,QK,hm],by rw[z];exact w2⟩;rw[kQ (λ(z:n=m)=>y4 z.symm)];exact o1.tr.keep m y1 y3
   .rw[<-o1.lk j];unfold locked;by_cases hj:i=j
    .subst hj;rw[List.getElem?_set_self (List.getElem?_eq_some_iff.mp k1).1,k1];exact xx
    .rw[List.getElem?_set_ne hj]
  split at z
  .rename_i l k1;have old:=o1.f.get k1;obtain⟨p,k2,m',cs',rfl,_,k4,k5⟩:=old;split at z
   .rename_i v' l' k6;cases z;exact fin _ l l' k1 rfl ⟨m',cs',k2,k4,k5⟩ k6 rfl
   .cases z
  .rename_i l k1;have old:=o1.f.get k1;obtain⟨p,k2,m',cs',rfl,_,k4,k5⟩:=old;split at z
   .rename_i v' l' k6;cases z;exact fin _ l l' k1 rfl ⟨m',cs',k2,k4,k5⟩ k6 rfl
   .cases z
  .cases z
 .rw[if_neg hm]at z;replace z:=ah z;obtain⟨x,av,z1,z⟩:=z;replace z:=ah z;obtain⟨as,bE,z2,z⟩:=z;replace z:=aD z;obtain⟨z,y0⟩:=z;subst y0;obtain⟨d,h1,S1,e1,q1,o1⟩:=io z1 f;obtain⟨ds,h2,S2,e2,q2,o2⟩:=is z2 o1.f;have hm':iX m=false:=by simpa using hm
  have E6:=(q1.tr o1.f o2.tr id (nU e1)).t;obtain⟨a1,r,a2,a3⟩:=K8 z hm' E6 q2.t;have hr:Ev.wH m d h1=true:=by
   unfold fJ at z;split at z
   .have:=q1.t;simp only[bq,Rep]at this;subst this;rfl
   .cases z
  exact⟨r,h2,S2,by simp only[Ev.ev,e1,Ev.ao,hr,if_true,e2,a2],.of a3,(o1.trans o2).weak (by simp only[bG];intro i hi;simp at hi ⊢;rcases hi with hi|hi<;>simp[hi])⟩
theorem uM{elt:E}{t:T}{cond:Eo}(ii:lJ P P' it)(ic:sV P P' cond)(ie:bu P P' elt):bu P P' (.comp elt t it cond):=λz f=>by
 simp only[ev]at z;replace z:=ah z;obtain⟨vs,av,z1,z⟩:=z;split at z
 case isFalse=>cases z
 rename_i hu;replace z:=aD z;obtain⟨z,y0⟩:=z;subst y0;simp only[Option.bind_eq_some_iff]at z;obtain⟨rs,z2,z3⟩:=z;obtain⟨s,h1,S1,e1,q1,q2,o1⟩:=ii z1 f;have U5:=o1.f.ro;obtain⟨rs',h2,S2,c1,c2,c3⟩:=xA (f':=λd h2=>match Ev.br t d _ with
    |none=>.bad
    |some av=>(Ev.ir P' cond av h2).bind λk h3=>if k then (Ev.ev P' elt av h3).bind λx h4=>.ok (some x) h4 else .ok none h3) (ck:=s.2) o1.f.w (λq hq=>(q2 q hq).1) (λv o d h S al y q=>by
  split at y
  .cases y
  .rename_i bE y1;obtain⟨jz,b1,b2,_,_⟩:=(U5.al al).br y1 q;rw[b1];split at y
   .rename_i c gA y2;obtain⟨h3,S3,c1,oc⟩:=ic y2 b2;have Lq:Al h S h3 S3:=oc.tr.al λm z=>z.1;split at y
    .rename_i hc;subst hc;split at y
     .rename_i x mU y3;cases y;obtain⟨d',h4,S4,d1,d2,od⟩:=ie y3 (b2.al Lq);refine⟨some d',h4,S4,?_,⟨d',rfl,d2.n⟩,Lq.trans (od.tr.al λm z=>z.1)⟩;simp only[c1,Ev.ao,if_true,d1]
     .cases y
    .rename_i hc;cases y;refine⟨none,h3,S3,?_,rfl,Lq⟩;simp only[c1,Ev.ao];rw[if_neg hc]
   .cases y) Al.refl z2 q1
 obtain⟨r,h4,S4,a1,a2,a3⟩:=iA (o1.f.al c3).w z3 c2;refine⟨r,h4,S4,?_,.of a2,(o1.al c3).al a3⟩;simp only[Ev.ev,e1,Ev.ao];rw[if_pos (o1.f.undef hu)];refine Eq.trans (congrArg (λq:Ev.R (List D)=>q.bind λds h2=>Ev.alloc ds h2) c1) ?_;simp only[Ev.ao,a1]
theorem AW(ii:lJ P P' it):bu P P' (.fS it):=λz f=>by
 simp only[ev]at z;replace z:=ah z;obtain⟨vs,av,z1,z⟩:=z;replace z:=aD z;obtain⟨z,y0⟩:=z;subst y0;obtain⟨s,h1,S1,e1,q1,q2,o1⟩:=ii z1 f;obtain⟨r,h4,S4,a1,a2,a3⟩:=iA o1.f.w z q1;exact⟨r,h4,S4,by simp only[Ev.ev,e1,Ev.ao,a1],.of a2,o1.al a3⟩
theorem Lr:jE P P' .nil:=λ{k fr v af M B h S ak} z f=>by
 simp only[bZ]at z;cases z;refine⟨[],_,_,by simp only[Ev.bZ],?_,.refl f⟩;unfold jD;split<;>rfl
theorem Hj(ie:bu P P' e)(is:jE P P' es):jE P P' (.cons e es):=λ{k fr v af M B h S ak} z f=>by
 simp only[bZ]at z;replace z:=ah z;obtain⟨x,av,z1,z⟩:=z;replace z:=ah z;obtain⟨xs,bE,z2,z⟩:=z;cases z;obtain⟨d,h1,S1,e1,q1,o1⟩:=ie z1 f;obtain⟨ds,h2,S2,e2,q2,o2⟩:=is z2 o1.f;have E6:=q1.tr (a:=e) o1.f o2.tr (by intro z;simp at z;exact z.2) (nU e1);refine⟨d :: ds,h2,S2,by simp only[Ev.bZ,e1,Ev.ao,e2],?_,o1.trans o2⟩;unfold jD at q2 ⊢;cases k with
 |true=>simp only[if_true]at q2 ⊢;exact⟨d,ds,rfl,E6.t,q2⟩
 |false=>
  simp only[Bool.false_eq_true,if_false]at q2 ⊢;exact .cons (by simpa[fV]using E6) q2
theorem Hl:pQ P P' .nil:=λz f=>by
 simp only[fO]at z;cases z;exact⟨[],_,_,by simp only[Ev.bZ],rfl,.refl f⟩
theorem C2(ie:bu P P' e)(is:pQ P P' es):pQ P P' (.cons e es):=λ{fr v af M B h S ak} z f=>by
 simp only[fO]at z;cases y:jB fr e with
 |some i=>
  rw[y]at z;try simp only at z
  replace z:=ah z;obtain⟨xs,bE,z2,z⟩:=z;cases z;have hy:e=.v i/\∃s,lent fr i=some s:=by
   cases e<;>simp only[jB,reduceCtorEq]at y
   rename_i j;split at y
   .rename_i hs;cases y;exact⟨rfl,Option.isSome_iff_exists.mp hs⟩
   .cases y
  obtain⟨rfl,s,hs⟩:=hy;obtain⟨n,cs,_,_,_,w2,w3,_,_⟩:=jH hs f;obtain⟨ds,h2,S2,e2,q2,o2⟩:=is z2 f;refine⟨.ref n :: ds,h2,S2,?_,⟨_,_,rfl,w2,q2⟩,o2.weak (by simp only[fT,bG];intro i hi;simpa using hi)⟩;simp only[Ev.bZ,Ev.ev,w2,Option.join,Option.bind,id,Ev.dM,Ev.ao,e2]
 |none=>
  rw[y]at z;try simp only at z
  replace z:=ah z;obtain⟨x,av,z1,z⟩:=z;replace z:=ah z;obtain⟨xs,bE,z2,z⟩:=z;cases z;obtain⟨d,h1,S1,e1,q1,o1⟩:=ie z1 f;obtain⟨ds,h2,S2,e2,q2,o2⟩:=is z2 o1.f;exact⟨d :: ds,h2,S2,by simp only[Ev.bZ,e1,Ev.ao,e2],⟨_,_,rfl,q1.n.tr o1.f o2.tr,q2⟩,o1.trans o2⟩
theorem Om:pR P P' .no:=λz f=>by
 simp only[fN]at z;cases z;exact⟨_,_,by simp only[Ev.fN],.refl f⟩
theorem Ls(ie:bu P P' e):pR P P' (.yes e):=λz f=>by
 simp only[fN]at z;replace z:=ah z;obtain⟨x,av,z1,z⟩:=z;replace z:=aD z;obtain⟨z,y0⟩:=z;subst y0;obtain⟨d,h1,S1,e1,q1,o1⟩:=ie z1 f;cases x<;>simp[intOf]at z
 subst z;have q:=q1.t;simp only[bq,Rep]at q;subst q;exact⟨h1,S1,by simp only[Ev.fN,e1,Ev.ao];rfl,o1⟩
theorem Lu:sV P P' .no:=λz f=>by
 simp only[ir]at z;cases z;exact⟨_,_,by simp only[Ev.ir],.refl f⟩
theorem Ho(ie:gG P P' e):sV P P' (.yes e):=λz f=>by
 simp only[ir]at z;obtain⟨h1,S1,e1,o1⟩:=ie z f;exact⟨h1,S1,by simp only[Ev.ir,e1],o1⟩
theorem SE(ia:gG P P' a)(ib:gG P P' b):gG P P' (.an a b):=λz f=>by
 simp only[aK]at z;replace z:=ah z;obtain⟨k,af,z1,z⟩:=z;obtain⟨h1,S1,e1,o1⟩:=ia z1 f;cases k with
 |true=>
  simp only[if_true]at z;obtain⟨h2,S2,e2,o2⟩:=ib z o1.f;exact⟨h2,S2,by simp only[Ev.aK,e1,Ev.ao,if_true,e2],o1.trans o2⟩
 |false=>
  simp only[Bool.false_eq_true,if_false]at z;cases z;exact⟨h1,S1,by simp only[Ev.aK,e1,Ev.ao];rfl,o1.weak (by simp only[bG];intro i hi;simp[hi])⟩
theorem Oo(ia:gG P P' a)(ib:gG P P' b):gG P P' (.orr a b):=λz f=>by
 simp only[aK]at z;replace z:=ah z;obtain⟨k,af,z1,z⟩:=z;obtain⟨h1,S1,e1,o1⟩:=ia z1 f;cases k with
 |false=>
  simp only[Bool.false_eq_true,if_false]at z;obtain⟨h2,S2,e2,o2⟩:=ib z o1.f;exact⟨h2,S2,by simp only[Ev.aK,e1,Ev.ao];rw[if_neg (by decide)];exact e2,o1.trans o2⟩
 |true=>
  simp only[if_true]at z;cases z;exact⟨h1,S1,by simp only[Ev.aK,e1,Ev.ao];rfl,o1.weak (by simp only[bG];intro i hi;simp[hi])⟩
theorem SG(ia:gG P P' a):gG P P' (.nt a):=λz f=>by
 simp only[aK]at z;replace z:=ah z;obtain⟨k,af,z1,z⟩:=z;obtain⟨h1,S1,e1,o1⟩:=ia z1 f;cases z;exact⟨h1,S1,by simp only[Ev.aK,e1,Ev.ao],o1⟩
theorem dF(ie:bu P P' e)(h1:∀fr,aK P e fr=(ev P true e fr).bind λx af=>.ok (truthy x) af)(h2:∀fr h,Ev.aK P' e fr h=(Ev.ev P' e fr h).bind λx h1=>Ev.R.of (Ev.truthy h1 x) h1):gG P P' e:=λz f=>by
 rw[h1]at z;replace z:=ah z;obtain⟨x,af,z1,z⟩:=z;cases z;obtain⟨d,h1,S1,e1,q1,o1⟩:=ie z1 f;exact⟨h1,S1,by rw[h2,e1,Ev.ao,AG q1.t];rfl,o1⟩
theorem AX(ie:bu P P' e){k:Bool}{fr:Fr}{v:V}{af:Fr}{M B:Nat->Prop}{h:Hh}{S:Nat->Prop}{ak:Ev.Fr}(z:src k fr e (ev P k e fr)=.ok v af)(f:bw M B h S fr ak) :
  ∃d h' S',Ev.ev P' e ak h=.ok d h'/\bq h' S' v d/\(k=false->∀n,d=.ref n->¬ M n)/\Out M B (bG e) h S fr ak h' S' af:=by
 have gen:ev P k e fr=.ok v af->∃d h' S',Ev.ev P' e ak h=.ok d h'/\bq h' S' v d/\(k=false->∀n,d=.ref n->¬ M n)/\Out M B (bG e) h S fr ak h' S' af:=λz=>by
  obtain⟨d,h1,S1,e1,q1,o1⟩:=ie z f;refine⟨d,h1,S1,e1,q1.t,λhk n hd=>?_,o1⟩;subst hk;have q:=q1.n;cases v<;>simp only[Rep]at q
  .cases q.symm.trans hd
  .cases q.symm.trans hd
  .cases q.symm.trans hd
  .cases q.symm.trans hd
  .obtain⟨_,q,_⟩:=q;cases q.symm.trans hd
  .obtain⟨m,ds,q,sm,_⟩:=q;cases q.symm.trans hd;exact(o1.f.wS _ sm).2.1
  .obtain⟨m,ds,q,sm,_⟩:=q;cases q.symm.trans hd;exact(o1.f.wS _ sm).2.1
  .obtain⟨m,q,sm,_⟩:=q;cases q.symm.trans hd;exact(o1.f.wS _ sm).2.1
 cases e
 case v i=>
  simp only[src]at z;replace z:=aD z;obtain⟨z,y0⟩:=z;subst y0;unfold qO at z;split at z
  .rename_i l y;cases z;obtain⟨p,e1,m,ds,rfl,y1,y2,y3⟩:=f.get y;exact⟨.ref m,h,S,by simp only[Ev.ev,e1,Option.join,Option.bind,id,Ev.dM],⟨m,ds,rfl,y2,y3⟩,λ_ n hn=>by cases hn;exact y1,.refl f⟩
  .exact gen (by simp only[ev,z,dM])
 all_goals exact gen z
theorem Lv(ie:bu P P' e):lJ P P' (.seq e):=λz f=>by
 simp only[cB]at z;replace z:=ah z;obtain⟨x,af,z1,z⟩:=z;replace z:=aD z;obtain⟨z,y0⟩:=z;subst y0;obtain⟨d,h1,S1,e1,q1,q2,o1⟩:=AX ie z1 f;obtain⟨s,a1,a2,a3⟩:=CY z q1;exact⟨s,h1,S1,by simp only[Ev.cB,e1,Ev.ao,a1,Ev.dM],a2,λq hq=>⟨(a3 q hq).2,λhk=>q2 hk _ (a3 q hq).1⟩,o1⟩
theorem Hq(is:jE P P' es):lJ P P' (.fR es):=λz f=>by
 simp only[cB]at z;replace z:=ah z;obtain⟨x,af,z1,z⟩:=z;replace z:=aD z;obtain⟨z,y0⟩:=z;subst y0;obtain⟨d,h1,S1,e1,q1,o1⟩:=is z1 f;obtain⟨s,a1,a2⟩:=K9 z q1.t;exact⟨(s,[]),h1,S1,by simp only[Ev.cB,e1,Ev.ao,a1,Ev.dM],a2,λq hq=>by simp at hq,o1⟩
theorem C3(ie:bu P P' e):lJ P P' (.enum e):=λz f=>by
 simp only[cB]at z;replace z:=ah z;obtain⟨x,af,z1,z⟩:=z;replace z:=aD z;obtain⟨z,y0⟩:=z;subst y0;obtain⟨d,h1,S1,e1,q1,q2,o1⟩:=AX ie z1 f;simp only[Option.map_eq_some_iff]at z;obtain⟨l,z,rfl⟩:=z;obtain⟨s,a1,a2,a3⟩:=G8 z q1;exact⟨(Ev.cG 0 s.1,s.2),h1,S1,by simp only[Ev.cB,e1,Ev.ao,a1,Option.map,Ev.dM],xu 0 a2,λq hq=>⟨(a3 q hq).2,λhk=>q2 hk _ (a3 q hq).1⟩,o1⟩
theorem Hr(ie:bu P P' e):lJ P P' (.rev e):=λz f=>by
 simp only[cB]at z;replace z:=ah z;obtain⟨x,af,z1,z⟩:=z;replace z:=aD z;obtain⟨z,y0⟩:=z;subst y0;obtain⟨d,h1,S1,e1,q1,o1⟩:=ie z1 f;simp only[Option.map_eq_some_iff]at z;obtain⟨l,z,rfl⟩:=z;cases x<;>simp only[KZ,reduceCtorEq]at z
 cases z;have k1:=q1.t;simp only[bq,Rep]at k1;obtain⟨ds,y1,k2⟩:=k1;subst y1;exact⟨(ds.reverse,[]),h1,S1,by simp only[Ev.cB,e1,Ev.ao,Ev.JH,Option.map,Ev.dM],k2.reverse,λq hq=>by simp at hq,o1⟩
end
section
variable{P:aR}{P':Ev.aR}(HP:pN P P')
include HP
mutual
theorem aY:∀e:E,bu P P' e
 |.c _=>Ln
 |.v _=>Lo
 |.tup es=>AK (fW es)
 |.lst es=>AL (fW es)
 |.bin _ a b=>AM (aY a) (aY b)
 |.cmp _ a b=>AN (aY a) (aY b)
 |.nt a=>Oj (aY a)
 |.neg a=>AR (aY a)
 |.an a b=>Ol (aY a) (aY b)
 |.orr a b=>Lp (aY a) (aY b)
 |.g9 t a b=>AS (gD t) (aY a) (aY b)
 |.ix a b=>E1 (aY a) (aY b)
 |.sl a lo hi=>E2 (aY a) (pT lo) (pT hi)
 |.ig=>λz _=>by simp only[ev]at z;cases z
 |.wG a b=>AO (aY a) (aY b)
 |.mF a b c=>AQ (aY a) (aY b) (aY c)
 |.cl _ es=>E3 HP (uN es)
 |.bi _ es=>E4 (fW es)
 |.me _ o es=>E5 (aY o) (fW es)
 |.kO a _=>AU (aY a)
 |.comp elt _ it cond=>uM (jY it) (AY cond) (aY elt)
 |.fS it=>AW (jY it)
 |.jw _ a=>xB (aY a)
 |.jg a=>AV (aY a)
theorem gD:∀e:E,gG P P' e
 |.an a b=>SE (gD a) (gD b)
 |.orr a b=>Oo (gD a) (gD b)
 |.nt a=>SG (gD a)
 |.c x=>dF Ln (λ_=>by simp only[aK]) (λ_ _=>by simp only[Ev.aK])
 |.v x=>dF Lo (λ_=>by simp only[aK]) (λ_ _=>by simp only[Ev.aK])
 |.tup es=>dF (AK (fW es)) (λ_=>by simp only[aK]) (λ_ _=>by simp only[Ev.aK])
 |.lst es=>dF (AL (fW es)) (λ_=>by simp only[aK]) (λ_ _=>by simp only[Ev.aK])
 |.bin _ a b=>dF (AM (aY a) (aY b)) (λ_=>by simp only[aK]) (λ_ _=>by simp only[Ev.aK])
 |.cmp _ a b=>dF (AN (aY a) (aY b)) (λ_=>by simp only[aK]) (λ_ _=>by simp only[Ev.aK])
 |.neg a=>dF (AR (aY a)) (λ_=>by simp only[aK]) (λ_ _=>by simp only[Ev.aK])
 |.g9 t a b=>dF (AS (gD t) (aY a) (aY b)) (λ_=>by simp only[aK]) (λ_ _=>by simp only[Ev.aK])
 |.ix a b=>dF (E1 (aY a) (aY b)) (λ_=>by simp only[aK]) (λ_ _=>by simp only[Ev.aK])
 |.sl a lo hi=>dF (E2 (aY a) (pT lo) (pT hi)) (λ_=>by simp only[aK]) (λ_ _=>by simp only[Ev.aK])
 |.ig=>dF (λz _=>by simp only[ev]at z;cases z) (λ_=>by simp only[aK]) (λ_ _=>by simp only[Ev.aK])
 |.wG a b=>dF (AO (aY a) (aY b)) (λ_=>by simp only[aK]) (λ_ _=>by simp only[Ev.aK])
 |.mF a b c=>dF (AQ (aY a) (aY b) (aY c)) (λ_=>by simp only[aK]) (λ_ _=>by simp only[Ev.aK])
 |.cl _ es=>dF (E3 HP (uN es)) (λ_=>by simp only[aK]) (λ_ _=>by simp only[Ev.aK])
 |.bi _ es=>dF (E4 (fW es)) (λ_=>by simp only[aK]) (λ_ _=>by simp only[Ev.aK])
 |.me _ o es=>dF (E5 (aY o) (fW es)) (λ_=>by simp only[aK]) (λ_ _=>by simp only[Ev.aK])
 |.kO a _=>dF (AU (aY a)) (λ_=>by simp only[aK]) (λ_ _=>by simp only[Ev.aK])
 |.comp elt _ it cond=>dF (uM (jY it) (AY cond) (aY elt)) (λ_=>by simp only[aK]) (λ_ _=>by simp only[Ev.aK])
 |.fS it=>dF (AW (jY it)) (λ_=>by simp only[aK]) (λ_ _=>by simp only[Ev.aK])
 |.jw _ a=>dF (xB (aY a)) (λ_=>by simp only[aK]) (λ_ _=>by simp only[Ev.aK])
 |.jg a=>dF (AV (aY a)) (λ_=>by simp only[aK]) (λ_ _=>by simp only[Ev.aK])
theorem fW:∀e:Es,jE P P' e
 |.nil=>Lr
 |.cons e es=>Hj (aY e) (fW es)
theorem uN:∀e:Es,pQ P P' e
 |.nil=>Hl
 |.cons e es=>C2 (aY e) (uN es)
theorem pT:∀e:Eo,pR P P' e
 |.no=>Om
 |.yes e=>Ls (aY e)
theorem AY:∀e:Eo,sV P P' e
 |.no=>Lu
 |.yes e=>Ho (gD e)
theorem jY:∀e:It,lJ P P' e
 |.seq e=>Lv (aY e)
 |.fR es=>Hq (fW es)
 |.enum a=>C3 (aY a)
 |.rev a=>Hr (aY a)
end
end
end Pv
namespace Pv
open Ev (D O Hh bQ bK TY BI ME T E Es Eo It S Ss Fn big deep b2i rep cA di bM aV cut cL dY slots aZ)
structure Tr(M B:Nat->Prop)(h:Hh)(S:Nat->Prop)(M':Nat->Prop)(h':Hh)(S':Nat->Prop):Prop where
 len:h.length<=h'.length
 keep:∀m,m<h.length->¬ M m->h'[m]?=h[m]?
 sub:∀m,S m->S' m
 new:∀m,S' m->S m\/(h.length<=m/\m<h'.length)\/(M m/\¬ B m)
 qQ:∀m,M' m->M m\/h.length<=m
structure dQ(M B:Nat->Prop)(h:Hh)(S:Nat->Prop)(fr:Fr)(ak:Ev.Fr)(M':Nat->Prop)(h':Hh)(S':Nat->Prop)(af:Fr)(bR:Ev.Fr):Prop where
 f:bw M' B h' S' af bR
 tr:Tr M B h S M' h' S'
 lk:∀i,locked af i=locked fr i
 rf:∀i,locked fr i=true->bR[i]?=ak[i]?
noncomputable def gU(h:Hh)(S:Nat->Prop):Fl->Ev.Fl->Prop
 |.nx,g=>g=.nx
 |.bk,g=>g=.bk
 |.ct,g=>g=.ct
 |.ret v,g=>∃d,g=.ret d/\Rep h S v d
section
variable{M B M' M1 M2:Nat->Prop}{h h' h1 h2:Hh}{S S' S1 S2:Nat->Prop}{fr af av:Fr}{ak bR lK:Ev.Fr}{c c1 c2:List Nat}{v:V}{d:D}
theorem dQ.refl(f:bw M B h S fr ak):dQ M B h S fr ak M h S fr ak:=⟨f,⟨Nat.le_refl _,λ_ _ _=>rfl,λ_ q=>q,λ_ q=>.inl q,λ_ q=>.inl q⟩,λ_=>rfl,λ_ _=>rfl⟩
theorem Out.s(o:Out M B c h S fr ak h1 S1 af):dQ M B h S fr ak M h1 S1 af ak:=⟨o.f,⟨o.tr.len,λm y1 y2=>o.tr.keep m y1 (λz=>y2 z.1),o.tr.sub,λm q=>(o.tr.new m q).imp id .inl,λ_ q=>.inl q⟩,o.lk,λ_ _=>rfl⟩
theorem dQ.trans(f0:bw M B h S fr ak)(a:dQ M B h S fr ak M1 h1 S1 af bR)(b:dQ M1 B h1 S1 af bR M2 h2 S2 av lK):dQ M B h S fr ak M2 h2 S2 av lK where
 f:=b.f
 tr:=⟨Nat.le_trans a.tr.len b.tr.len,λm y1 y2=>by
   rw[b.tr.keep m (Nat.lt_of_lt_of_le y1 a.tr.len) (λz=>by
    rcases a.tr.qQ m z with z|z
    .exact y2 z
    .omega),a.tr.keep m y1 y2],λm q=>b.tr.sub m (a.tr.sub m q),λm q=>by
   rcases b.tr.new m q with q|q|q
   .rcases a.tr.new m q with q|q|q
    .exact .inl q
    .exact .inr (.inl ⟨q.1,Nat.lt_of_lt_of_le q.2 b.tr.len⟩)
    .exact .inr (.inr q)
   .exact .inr (.inl ⟨Nat.le_trans a.tr.len q.1,q.2⟩)
   .rcases a.tr.qQ m q.1 with z|z
    .exact .inr (.inr ⟨z,q.2⟩)
    .exact .inr (.inl ⟨z,Nat.lt_of_lt_of_le (a.f.wM m q.1) b.tr.len⟩),λm q=>by
   rcases b.tr.qQ m q with q|q
   .exact a.tr.qQ m q
   .exact .inr (Nat.le_trans a.tr.len q)⟩
 lk:=λi=>(b.lk i).trans (a.lk i)
 rf:=λi q=>(b.rf i (by rw[a.lk i];exact q)).trans (a.rf i q)
theorem bw.kind(f:bw M B h S fr ak)(g:Option Sl->Option Sl->Prop)(hl:af.length=fr.length)(hg:∀(i:Nat) o,af[i]?=some o->∃o0,fr[i]?=some o0/\(o=o0\/(∃l,o0=some (.own l)/\o=some (.val (.lst l)))\/(∃l,o0=some (.bor l)/\o=some (.ro l)))) :
  ∃M' S',dQ M B h S fr ak M' h S' af ak:=by
 let X:Nat->Prop:=λm=>∃(i:Nat) (l:List V),fr[i]?=some (some (Sl.own l))/\af[i]?=some (some (Sl.val (V.lst l)))/\ak[i]?=some (some (D.ref m))
 let Y:Nat->Prop:=λm=>∃(i:Nat) (l:List V),fr[i]?=some (some (Sl.bor l))/\af[i]?=some (some (Sl.ro l))/\ak[i]?=some (some (D.ref m))
 have xM:∀m,X m->M m/\¬ B m:=λm ⟨i,l,a,_,b⟩=>by
  obtain⟨m',ds,e,q,_⟩:=f.sl i _ _ a b;cases e;exact q
 have yM:∀m,Y m->M m/\B m:=λm ⟨i,l,a,_,b⟩=>by
  obtain⟨m',ds,e,q,_⟩:=f.sl i _ _ a b;cases e;exact q
 have mono:∀{l:List V} {ds:List D},au h S l ds->au h (λm=>S m\/X m) l ds:=λq=>q.mono (λ_ _=>rfl) λ_ z=>.inl z;refine⟨λm=>M m/\¬ X m/\¬ Y m,λm=>S m\/X m,⟨⟨λm q=>?_,λm q=>f.wM m q.1,f.wB,by rw[hl,f.len],λi o p e1 e2=>?_,λi j o o' m y1 y2 y3 y4 y5 y6=>?_⟩,⟨Nat.le_refl _,λ_ _ _=>rfl,λ_ q=>.inl q,λm q=>?_,λm q=>.inl q.1⟩,λi=>?_,λ_ _=>rfl⟩⟩
 .rcases q with q|q
  .exact⟨(f.wS m q).1,λz=>(f.wS m q).2.1 z.1,(f.wS m q).2.2⟩
  .exact⟨f.wM m (xM m q).1,λz=>z.2.1 q,(xM m q).2⟩
 .obtain⟨o0,e0,k⟩:=hg i o e1;have old:=f.sl i o0 p e0 e2;rcases k with rfl|⟨l,rfl,rfl⟩|⟨l,rfl,rfl⟩
  .rcases o with _|s
   .exact old
   .cases s with
    |val v=>obtain⟨d,e,q⟩:=old;exact⟨d,e,q.mono (λ_ _=>rfl) λ_ z=>.inl z⟩
    |own l=>
     obtain⟨m,ds,rfl,z,y,q⟩:=old;refine⟨m,ds,rfl,⟨⟨z.1,λ⟨j,l',a1,a2,a3⟩=>?_,λ⟨j,l',a1,a2,a3⟩=>?_⟩,z.2⟩,y,mono q⟩
     .have:=f.inj i j _ _ m e0 a1 rfl rfl e2 a3;subst this;rw[e1]at a2;cases a2
     .have:=f.inj i j _ _ m e0 a1 rfl rfl e2 a3;subst this;rw[e1]at a2;cases a2
    |bor l=>
     obtain⟨m,ds,rfl,z,y,q⟩:=old;refine⟨m,ds,rfl,⟨⟨z.1,λ⟨j,l',a1,a2,a3⟩=>?_,λ⟨j,l',a1,a2,a3⟩=>?_⟩,z.2⟩,y,mono q⟩
     .have:=f.inj i j _ _ m e0 a1 rfl rfl e2 a3;subst this;rw[e1]at a2;cases a2
     .have:=f.inj i j _ _ m e0 a1 rfl rfl e2 a3;subst this;rw[e1]at a2;cases a2
    |ro l=>obtain⟨m,ds,rfl,z,y,q⟩:=old;exact⟨m,ds,rfl,λw=>z w.1,y,mono q⟩
  .obtain⟨m,ds,rfl,z,y,q⟩:=old;exact⟨.ref m,rfl,m,ds,rfl,.inr ⟨i,l,e0,e1,e2⟩,y,mono q⟩
  .obtain⟨m,ds,rfl,z,y,q⟩:=old;exact⟨m,ds,rfl,λw=>w.2.2 ⟨i,l,e0,e1,e2⟩,y,mono q⟩
 .have kd:∀(i:Nat) o,af[i]?=some o->gS o=true->∃o0,fr[i]?=some o0/\gS o0=true:=λi o w1 w2=>by
   obtain⟨o0,e0,k⟩:=hg i o w1;rcases k with rfl|⟨l,rfl,rfl⟩|⟨l,rfl,rfl⟩
   .exact⟨o,e0,w2⟩
   .cases w2
   .cases w2
  obtain⟨oi,k1,k2⟩:=kd i o y1 y3;obtain⟨oj,k3,k4⟩:=kd j o' y2 y4;exact f.inj i j oi oj m k1 k3 k2 k4 y5 y6
 .rcases q with q|q
  .exact .inl q
  .exact .inr (.inr (xM m q))
 .unfold locked;cases z:af[i]? with
  |none=>
   have:fr[i]?=none:=by rw[List.getElem?_eq_none_iff]at z ⊢;omega
   rw[this]
  |some o=>
   obtain⟨o0,e0,k⟩:=hg i o z;rw[e0];rcases k with rfl|⟨l,rfl,rfl⟩|⟨l,rfl,rfl⟩<;>rfl
theorem bw.dg(f:bw M B h S fr ak):∃M' S',dQ M B h S fr ak M' h S' (fF fr) ak:=by
 refine f.kind (λ_ _=>True) (by simp[fF]) λi o e=>?_;unfold fF at e;rw[List.getElem?_map]at e;cases z:fr[i]? with
 |none=>rw[z]at e;cases e
 |some o0=>
  rw[z]at e;cases e;refine⟨o0,rfl,?_⟩;rcases o0 with _|s
  .exact .inl rfl
  .cases s with
   |own l=>exact .inr (.inl ⟨l,rfl,rfl⟩)
   |_=>exact .inl rfl
theorem bw.walk:∀(is:List Nat) {M:Nat->Prop}{S:Nat->Prop}{fr:Fr},bw M B h S fr ak->∃M' S',dQ M B h S fr ak M' h S' (lH is fr) ak
 |[],_,_,_,f=>⟨_,_,.refl f⟩
 |i :: is,M,S,fr,f=>by
  have one:∃M1 S1,dQ M B h S fr ak M1 h S1 (match fr[i]? with|some (some s)=>fr.set i (some s.walk)|_=>fr) ak:=by
   split
   .rename_i s z;have hl:=(List.getElem?_eq_some_iff.mp z).1;refine f.kind (λ_ _=>True) (by simp) λj o e=>?_;by_cases hj:i=j
    .subst hj;rw[List.getElem?_set_self hl]at e;cases e;refine⟨_,z,?_⟩;cases s with
     |own l=>exact .inr (.inl ⟨l,rfl,rfl⟩)
     |bor l=>exact .inr (.inr ⟨l,rfl,rfl⟩)
     |_=>exact .inl rfl
    .rw[List.getElem?_set_ne hj]at e;exact⟨o,e,.inl rfl⟩
   .exact⟨M,S,.refl f⟩
  obtain⟨M1,S1,o1⟩:=one;obtain⟨M2,S2,o2⟩:=bw.walk is o1.f;exact⟨M2,S2,o1.trans f o2⟩
theorem bw.own(f:bw M B h S fr ak){i:Nat}{l:List V}{ds:List D}(e:put fr i (.own l)=some af)(q:au h S l ds):dQ M B h S fr ak (λm=>M m\/m=h.length) (h++[.lst ds]) S af (ak.set i (some (.ref h.length))):=by
 have hx:af=fr.set i (some (.own l))/\locked fr i=false:=by
  unfold put at e;unfold locked;split at e
  .cases e
  .cases e
  .rename_i k1 k2;cases e;refine⟨rfl,?_⟩;cases z:fr[i]? with
   |none=>rfl
   |some o=>
    rcases o with _|s
    .rfl
    .cases s with
     |bor l=>exact absurd z (k1 l)
     |ro l=>exact absurd z (k2 l)
     |_=>rfl
 obtain⟨rfl,hk⟩:=hx;have kp:∀m,m<h.length->(h++[O.lst ds])[m]?=h[m]?:=λm z=>by rw[List.getElem?_append_left z]
 have kS:∀m,S m->(h++[O.lst ds])[m]?=h[m]?:=λm z=>kp m (f.w m z);refine⟨⟨λm y=>⟨by have:=(f.wS m y).1;simp;omega,λz=>?_,(f.wS m y).2.2⟩,λm y=>?_,λm y=>by have:=f.wB m y;simp;omega,by simp[f.len],λj o p y1 y2=>?_,λj k o o' m y1 y2 y3 y4 y5 y6=>?_⟩,⟨by simp,λm y _=>kp m y,λ_ z=>z,λ_ z=>.inl z,λm z=>z.imp id (λz=>by omega)⟩,λj=>?_,λj hj=>?_⟩
 .rcases z with z|z
  .exact(f.wS m y).2.1 z
  .have:=(f.wS m y).1;omega
 .rcases y with y|y
  .have:=f.wM m y;simp;omega
  .subst y;simp
 .by_cases hj:i=j
  .subst hj;have hl:i<fr.length:=by have:=(List.getElem?_eq_some_iff.mp y1).1;simpa using this
   rw[List.getElem?_set_self hl]at y1;rw[List.getElem?_set_self (by rw[<-f.len];exact hl)]at y2;cases y1;cases y2;exact⟨h.length,ds,rfl,⟨.inr rfl,λz=>by have:=f.wB _ z;omega⟩,by simp,q.mono kS λ_ z=>z⟩
  .rw[List.getElem?_set_ne hj]at y1 y2;have old:=f.sl j o p y1 y2;rcases o with _|s
   .exact old
   .cases s with
    |val v=>obtain⟨d,e,q⟩:=old;exact⟨d,e,q.mono kS λ_ z=>z⟩
    |own l=>obtain⟨m,es,rfl,z,y,q⟩:=old;exact⟨m,es,rfl,⟨.inl z.1,z.2⟩,by rw[kp m (f.wM m z.1)];exact y,q.mono kS λ_ z=>z⟩
    |bor l=>obtain⟨m,es,rfl,z,y,q⟩:=old;exact⟨m,es,rfl,⟨.inl z.1,z.2⟩,by rw[kp m (f.wM m z.1)];exact y,q.mono kS λ_ z=>z⟩
    |ro l=>
     obtain⟨m,es,rfl,z,y,q⟩:=old;have hm:=(List.getElem?_eq_some_iff.mp y).1;exact⟨m,es,rfl,λw=>by rcases w with w|w;exact z w;omega,by rw[kp m hm];exact y,q.mono kS λ_ z=>z⟩
 .have low:∀(j:Nat) o,i≠j->fr[j]?=some o->gS o=true->ak[j]?=some (some (.ref m))->m<h.length:=λj o _ w1 w2 w3=>f.wM m (f.mM w1 w2 w3);have new:∀(j:Nat),j<fr.length->i=j->(ak.set i (some (.ref h.length)))[j]?=some (some (.ref m))->m=h.length:=λj hl hj w=>by
   subst hj;rw[List.getElem?_set_self (by rw[<-f.len];exact hl)]at w;cases w;rfl
  have lj:j<fr.length:=by have:=(List.getElem?_eq_some_iff.mp y1).1;simpa using this
  have lk:k<fr.length:=by have:=(List.getElem?_eq_some_iff.mp y2).1;simpa using this
  by_cases hj:i=j
  .by_cases hk2:i=k
   .rw[<-hj,<-hk2]
   .have a:=new j lj hj y5;rw[List.getElem?_set_ne hk2]at y2 y6;have b:=low k o' hk2 y2 y4 y6;omega
  .by_cases hk2:i=k
   .have a:=new k lk hk2 y6;rw[List.getElem?_set_ne hj]at y1 y5;have b:=low j o hj y1 y3 y5;omega
   .rw[List.getElem?_set_ne hj]at y1 y5;rw[List.getElem?_set_ne hk2]at y2 y6;exact f.inj j k o o' m y1 y2 y3 y4 y5 y6
 .by_cases hj:i=j
  .subst hj;rw[hk];unfold locked;by_cases hl:i<fr.length
   .rw[List.getElem?_set_self hl];rfl
   .rw[List.getElem?_eq_none (by simpa using hl)]
  .unfold locked;rw[List.getElem?_set_ne hj]
 .have:i≠j:=λz=>by subst z;rw[hk]at hj;cases hj
  rw[List.getElem?_set_ne this]
end
inductive QL(P':Ev.aR)(w:Nat)(s:S)(g:Fl)(M B:Nat->Prop)(h:Hh)(S:Nat->Prop)(fr:Fr)(ak:Ev.Fr)(af:Fr):Prop
 |mk (g':Ev.Fl) (bR:Ev.Fr) (M':Nat->Prop) (h':Hh) (S':Nat->Prop) (c0:Ev.ex P' w s ak h=.ok (g',bR) h') (c1:gU h' S' g g') (c2:dQ M B h S fr ak M' h' S' af bR):QL P' w s g M B h S fr ak af
inductive Lx(P':Ev.aR)(w:Nat)(s:Ss)(g:Fl)(M B:Nat->Prop)(h:Hh)(S:Nat->Prop)(fr:Fr)(ak:Ev.Fr)(af:Fr):Prop
 |mk (g':Ev.Fl) (bR:Ev.Fr) (M':Nat->Prop) (h':Hh) (S':Nat->Prop) (c0:Ev.exs P' w s ak h=.ok (g',bR) h') (c1:gU h' S' g g') (c2:dQ M B h S fr ak M' h' S' af bR):Lx P' w s g M B h S fr ak af
section
variable(P:aR)(P':Ev.aR)(w:Nat)
noncomputable def nj(s:S):Prop:=∀{fr:Fr} {g:Fl} {af:Fr} {M B:Nat->Prop} {h:Hh} {S:Nat->Prop} {ak:Ev.Fr},ex P w s fr=.ok g af->bw M B h S fr ak->QL P' w s g M B h S fr ak af
noncomputable def pU(s:Ss):Prop:=∀{fr:Fr} {g:Fl} {af:Fr} {M B:Nat->Prop} {h:Hh} {S:Nat->Prop} {ak:Ev.Fr},exs P w s fr=.ok g af->bw M B h S fr ak->Lx P' w s g M B h S fr ak af
end
section
variable{P:aR}{P':Ev.aR}{w:Nat}(HP:pN P P')
include HP
theorem E7{i x f n0:Nat}{ck:List (Nat×List D)}(hxi:x≠i):∀(vs:List V) (ds:List D) (k K:List (Int×List Nat)) (h:Hh) (S:Nat->Prop) (fr:Ev.Fr),jV P f vs k=some K->au h S vs ds->(∀m,S m->m<h.length/\m≠n0)->h[n0]?=some (.dct k)->fr[i]?=some (some (.ref n0))->(ds≠[]->x<fr.length)->(∀q∈ck,aZ h q.1=some q.2)->
  ∃(h':Hh) (S':Nat->Prop),Ev.forL (λd av h2=>match Ev.br (.one x) d av with|some bE=>Ev.t8 P' (.v i) (.cl f (.cons (.v x) .nil)) bE h2|none=>.bad) ck ds fr h=.ok (.nx,(ds.getLast?.map λd=>fr.set x (some d)).getD fr) h'/\h'[n0]?=some (.dct K)/\h.length<=h'.length/\(∀m,m<h.length->m≠n0->h'[m]?=h[m]?)/\(∀m,S m->S' m)/\(∀m,S' m->S m\/(h.length<=m/\m<h'.length))
 |[],ds,k,K,h,S,fr,e,q,w,hn,hi,hx,st=>by
  simp only[jV]at e;cases e;simp only[au]at q;subst q;refine⟨h,S,?_,hn,Nat.le_refl _,λ_ _ _=>rfl,λ_ z=>z,λ_ z=>.inl z⟩;simp only[Ev.forL];rw[if_pos (gK st)];rfl
 |v :: vs,ds,k,K,h,S,fr,e,q,w,hn,hi,hx,st=>by
  simp only[jV]at e;split at e
  case h_2=>cases e
  rename_i m e1;split at e
  case isFalse=>cases e
  rename_i hk;simp only[au]at q;obtain⟨d,es,rfl,q1,q2⟩:=q;have U6:=(List.getElem?_eq_some_iff.mp hn).1;have eO:bw (λ_=>False) (λ_=>False) h S ([Sl.val v].map some) ([d].map some):=⟨λm z=>⟨(w m z).1,λz=>z,λz=>z⟩,λm z=>z.elim,λm z=>z.elim,rfl,λj o p a b=>by
   cases j with
   |zero=>simp at a b;subst a b;exact⟨d,rfl,q1⟩
   |succ j=>simp at a,λj1 j2 o o' m a b c _ _ _=>by
   cases j1 with
   |zero=>simp at a;subst a;cases c
   |succ j=>simp at a⟩
  obtain⟨d',h1,S1,p1,p2,p3,p4⟩:=HP f [.val v] _ _ e1 h S (λ_=>False) [d] eO;simp only[Rep]at p2;obtain⟨j,rfl,sj,hj⟩:=p2;have k1:∀m,m<h.length->h1[m]?=h[m]?:=λm z=>p3.keep m z λz=>z;have w1:∀m,S1 m->m<h1.length/\m≠n0:=λm z=>by
   rcases p3.new m z with z|z
   .exact⟨Nat.lt_of_lt_of_le (w m z).1 p3.len,(w m z).2⟩
   .exact⟨z.2,λy=>by subst y;omega⟩
  have jn:n0≠j:=λz=>(w1 j sj).2 z.symm;have hn1:h1[n0]?=some (.dct k):=by rw[k1 n0 U6];exact hn
  have SH:=(List.getElem?_eq_some_iff.mp hn1).1;have km:∀m',m'≠n0->(h1.set n0 (.dct (Ev.cg k m)))[m']?=h1[m']?:=λm' z=>List.getElem?_set_ne λy=>z y.symm;have U7:∀q∈ck,q.1≠n0:=λq hq z=>by
   have:=st q hq;rw[z]at this;simp[aZ,hn]at this
  obtain⟨h2,S2,g1,g2,g3,g4,g5,g6⟩:=E7 hxi vs es (Ev.cg k m) K (h1.set n0 (.dct (Ev.cg k m))) S1 (fr.set x (some d)) e (q2.mono (λm' z=>by rw[km m' (w m' z).2,k1 m' (w m' z).1]) p3.sub) (λm' z=>⟨by rw[List.length_set];exact(w1 m' z).1,(w1 m' z).2⟩) (List.getElem?_set_self SH) (by rw[List.getElem?_set_ne hxi];exact hi) (λ_=>by rw[List.length_set];exact hx (by simp))
   (λq hq=>jX (st q hq) (by rw[km _ (U7 q hq),k1 _ (nh (st q hq))]))
  rw[List.length_set]at g3 g4 g6;refine⟨h2,S2,?_,g2,Nat.le_trans p3.len g3,λm' z1 z2=>by rw[g4 m' (Nat.lt_of_lt_of_le z1 p3.len) z2,km m' z2,k1 m' z1],λm' z=>g5 m' (p3.sub m' z),λm' z=>?_⟩
  .have big:k.length+m.length<=Ev.big:=Nat.le_trans hk (by decide);have hxx:(fr.set x (some d))[x]?=some (some d):=List.getElem?_set_self (hx (by simp));have U8:(fr.set x (some d))[i]?=some (some (.ref n0)):=by rw[List.getElem?_set_ne hxi];exact hi
   have du:Ev.t8 P' (.v i) (.cl f (.cons (.v x) .nil)) (fr.set x (some d)) h=.ok (.nx,fr.set x (some d)) (h1.set n0 (.dct (Ev.cg k m))):=by
    simp[Ev.t8,Ev.ev,Ev.bZ,U8,hxx,Ev.R.bind,Ev.R.of,p1,Ev.sS,Ev.fE,hn,hn1,hj,jn,big]
   simp only[Ev.forL];rw[if_pos (gK st)];simp only[Ev.br];rw[du];simp only[Ev.ao];simp only[Ev.br]at g1;rw[g1];cases es with
   |nil=>rfl
   |cons d2 es=>
    have:(d :: d2 :: es).getLast?=(d2 :: es).getLast?:=by simp[List.getLast?_cons_cons]
    rw[this];cases z:(d2 :: es).getLast? with
    |none=>simp at z
    |some d3=>simp[List.set_set]
  .rcases g6 m' z with z|z
   .rcases p3.new m' z with z|z
    .exact .inl z
    .exact .inr ⟨z.1,Nat.lt_of_lt_of_le z.2 g3⟩
   .exact .inr ⟨Nat.le_trans p3.len z.1,z.2⟩
omit HP in
theorem uO{h:Hh}{S:Nat->Prop}:∀{vs:List V}{ds:List D},au h S vs ds->(vs.getLast?=none/\ds.getLast?=none)\/∃v d,vs.getLast?=some v/\ds.getLast?=some d/\Rep h S v d
 |[],ds,q=>by simp only[au]at q;subst q;exact .inl ⟨rfl,rfl⟩
 |v :: vs,ds,q=>by
  simp only[au]at q;obtain⟨d,es,rfl,q1,q2⟩:=q;refine .inr ?_;rcases uO q2 with ⟨a,b⟩|⟨v',d',a,b,c⟩
  .have a':=List.getLast?_eq_none_iff.mp a;have b':=List.getLast?_eq_none_iff.mp b;subst a' b';exact⟨v,d,rfl,rfl,q1⟩
  .refine⟨v',d',?_,?_,c⟩
   .cases vs with|nil=>cases a|cons x xs=>rw[List.getLast?_cons_cons];exact a
   .cases es with|nil=>cases b|cons x xs=>rw[List.getLast?_cons_cons];exact b
omit HP in
theorem bw.U9{M B:Nat->Prop}{h h':Hh}{S S':Nat->Prop}{fr:Fr}{ak:Ev.Fr}{n0:Nat}{k:List (Int×List Nat)}(f:bw M B h S fr ak)(hn:h[n0]?=some (.dct k))(nS:∀m,S m->m≠n0)(nM:¬ M n0)(nB:¬ B n0)(len:h.length<=h'.length)(keep:∀m,m<h.length->m≠n0->h'[m]?=h[m]?)(sub:∀m,S m->S' m)(new:∀m,S' m->S m\/(h.length<=m/\m<h'.length)\/m=n0):bw M B h' S' fr ak where
 wS:=λm q=>by
  rcases new m q with q|⟨q1,q2⟩|rfl
  .exact⟨Nat.lt_of_lt_of_le (f.wS m q).1 len,(f.wS m q).2⟩
  .exact⟨q2,λz=>by have:=f.wM m z;omega,λz=>by have:=f.wB m z;omega⟩
  .exact⟨Nat.lt_of_lt_of_le (List.getElem?_eq_some_iff.mp hn).1 len,nM,nB⟩
 wM:=λm q=>Nat.lt_of_lt_of_le (f.wM m q) len
 wB:=λm q=>Nat.lt_of_lt_of_le (f.wB m q) len
 len:=f.len
 sl:=λi o p e1 e2=>by
  have q:=f.sl i o p e1 e2;have k:∀m,S m->h'[m]?=h[m]?:=λm z=>keep m (f.w m z) (nS m z);have g:∀(m:Nat) (ds:List D),h[m]?=some (O.lst ds)->h'[m]?=some (O.lst ds):=λm ds z=>by
   rw[keep m (List.getElem?_eq_some_iff.mp z).1 (λy=>by rw[y,hn]at z;cases z)];exact z
  rcases o with _|s
  .exact q
  .cases s with
   |val v=>obtain⟨d,e,q⟩:=q;exact⟨d,e,q.mono k sub⟩
   |own l=>obtain⟨m,ds,e,z,y,q⟩:=q;exact⟨m,ds,e,z,g m ds y,q.mono k sub⟩
   |bor l=>obtain⟨m,ds,e,z,y,q⟩:=q;exact⟨m,ds,e,z,g m ds y,q.mono k sub⟩
   |ro l=>obtain⟨m,ds,e,z,y,q⟩:=q;exact⟨m,ds,e,z,g m ds y,q.mono k sub⟩
 inj:=f.inj
theorem Hs{i x y f:Nat}:nj P P' w (.jy i x y f):=λ{fr g af M B h S ak} z f0=>by
 simp only[ex]at z;split at z
 case isFalse=>cases z
 rename_i hc;obtain⟨Va,hxi,il,xl⟩:=hc;rw[f0.len]at il xl;replace z:=ah z;obtain⟨vs,av,z1,z⟩:=z;replace z:=ah z;obtain⟨K,bE,z2,z⟩:=z;replace z2:=aD z2;obtain⟨z2,y0⟩:=z2;subst y0;replace z:=ah z;obtain⟨gA,mU,z3,z⟩:=z;replace z3:=aD z3;obtain⟨z3,y0⟩:=z3;subst y0;replace z:=ah z;obtain⟨VX,QB,z4,z⟩:=z;replace z4:=aD z4;obtain⟨z4,y0⟩:=z4;subst y0;cases z;have hl1:(h++[O.dct []]).length=h.length+1:=by simp
 have f1:bw M B (h++[.dct []]) S fr ak:=f0.al ⟨by rw[hl1];omega,λm z=>List.getElem?_append_left z,λ_ z=>z,λ_ z=>.inl z⟩;obtain⟨M1,S1,o1⟩:=f1.walk [y];obtain⟨s,h2,S2,e1,q1,q2,o2⟩:=jY HP (.seq (.v y)) z1 o1.f;have pV:=e1;simp only[Ev.cB,Ev.ev]at pV;replace pV:=Ev.ah pV;obtain⟨dx,QM,e2,pV⟩:=pV;replace e2:=Ev.aD e2;obtain⟨e2,y0⟩:=e2;subst y0;replace pV:=Ev.aD pV;obtain⟨pV,y0⟩:=pV;subst y0;have e3:Ev.cB P' (.seq (.v y)) (ak.set i (some (.ref h.length))) (h++[.dct []])=.ok s (h++[.dct []]):=by
  rw[<-e1];simp only[Ev.cB,Ev.ev,List.getElem?_set_ne Va]
 have hn:(h++[O.dct []])[h.length]?=some (.dct []):=by simp
 have Vb:¬ M1 h.length:=λz=>by
  rcases o1.tr.qQ _ z with z|z
  .have:=f0.wM _ z;omega
  .rw[hl1]at z;omega
 have nB:¬ B h.length:=λz=>by have:=f0.wB _ z;omega
 have QN:∀m,S2 m->S m\/(M m/\¬ B m):=λm z=>by
  rcases o2.tr.new m z with z|z
  .rcases o1.tr.new m z with z|z|z
   .exact .inl z
   .omega
   .exact .inr z
  .omega
 have Ly:∀m,S2 m->m≠h.length:=λm z y=>by
  rcases QN m z with z|z
  .have:=(f0.wS m z).1;omega
  .have:=f0.wM m z.1;omega
 obtain⟨h',S',g1,g2,g3,g4,g5,g6⟩:=E7 HP (i:=i) (x:=x) (f:=f) (n0:=h.length) (ck:=s.2) hxi vs s.1 [] K (h++[.dct []]) S2 (ak.set i (some (.ref h.length))) z2 q1 (λm z=>⟨(o2.f.wS m z).1,Ly m z⟩) hn (List.getElem?_set_self il) (λ_=>by rw[List.length_set];exact xl) (λq hq=>(q2 q hq).1);have f2:=o2.f.U9 (S':=λm=>S' m\/m=h.length) hn Ly Vb nB g3 g4 (λm z=>.inl (g5 m z)) (λm z=>by
  rcases z with z|z
  .exact(g6 m z).imp id .inl
  .exact .inr (.inr z))
 obtain⟨f3,l3,r3⟩:=f2.set z3 (d:=.ref h.length) (show Rep h' _ (.dct K) _ from ⟨_,rfl,.inr rfl,g2⟩);have q3:∀{v:V} {d:D},Rep (h++[.dct []]) S2 v d->Rep h' (λm=>S' m\/m=h.length) v d:=λq=>q.mono (λm z=>g4 m (o2.f.wS m z).1 (Ly m z)) λm z=>.inl (g5 m z);have fin:∀{bD:Fr} {nq:Ev.Fr},bw M1 B h' (λm=>S' m\/m=h.length) bD nq->(∀j,locked bD j=locked mU j)->(∀j,locked mU j=true->nq[j]?=ak[j]?)->dQ M B h S fr ak M1 h' (λm=>S' m\/m=h.length) bD nq:=λ{bD nq} fz lz rz=>⟨fz,⟨by rw[hl1]at g3;omega,λm y1 y2=>by
   rw[g4 m (by rw[hl1];omega) (by omega)];exact List.getElem?_append_left y1,λm z=>.inl (g5 m (o2.tr.sub m (o1.tr.sub m z))),λm z=>by
   rcases z with z|z
   .rcases g6 m z with z|z
    .rcases QN m z with z|z
     .exact .inl z
     .exact .inr (.inr z)
    .rw[hl1]at z;exact .inr (.inl ⟨by omega,z.2⟩)
   .rw[hl1]at g3;exact .inr (.inl ⟨by omega,by omega⟩),λm z=>by
   rcases o1.tr.qQ m z with z|z
   .exact .inl z
   .rw[hl1]at z;exact .inr (by omega)⟩,λj=>(lz j).trans ((o2.lk j).trans (o1.lk j)),λj z=>rz j (by rw[o2.lk j,o1.lk j];exact z)⟩
 have QO:∀nq,(s.1.getLast?.map λd=>(ak.set i (some (.ref h.length))).set x (some d)).getD (ak.set i (some (.ref h.length)))=nq->Ev.ex P' w (.jy i x y f) ak h=.ok (.nx,nq) h':=λnq z=>by
  rw[<-z];simp only[Ev.ex,e3,Ev.ao];exact g1
 rcases uO q1 with ⟨a,b⟩|⟨v,d,a,b,c⟩
 .unfold iY at z4;rw[a]at z4;cases z4;exact⟨.nx,_,_,_,_,QO _ (by rw[b];rfl),rfl,fin f3 l3 r3⟩
 .unfold iY at z4;rw[a]at z4;obtain⟨f4,l4,r4⟩:=f3.set z4 (q3 c);exact⟨.nx,_,_,_,_,QO _ (by rw[b];rfl),rfl,fin f4 (λj=>(l4 j).trans (l3 j)) (λj z=>(r4 j (by rw[l3 j];exact z)).trans (r3 j z))⟩
theorem Ht{i:Nat}{e:E}:nj P P' w (.set i e):=λ{fr g af M B h S ak} z f=>by
 simp only[ex]at z;replace z:=ah z;obtain⟨x,av,z1,z⟩:=z;by_cases hn:isNew e=true
 .rw[if_pos hn]at z;have key:∃l ds h1 S1,x=.lst l/\au h1 S1 l ds/\Ev.ev P' e ak h=.ok (.ref h1.length) (h1++[.lst ds])/\Out M B (bG e) h S fr ak h1 S1 av:=by
   cases e<;>simp only[isNew,Bool.false_eq_true]at hn
   case lst es=>
    simp only[ev]at z1;replace z1:=ah z1;obtain⟨l,bE,z2,z1⟩:=z1;replace z1:=aD z1;obtain⟨z1,y0⟩:=z1;subst y0;unfold dS at z1;split at z1
    case isFalse=>cases z1
    rename_i hk;cases z1;obtain⟨ds,h1,S1,e1,q1,o1⟩:=fW HP es z2 f;refine⟨l,ds,h1,S1,rfl,q1.n,?_,o1⟩;simp only[Ev.ev,e1,Ev.ao,Ev.alloc];rw[if_pos (by rw[<-q1.n.length];exact hk)]
   case fS it=>
    simp only[ev]at z1;replace z1:=ah z1;obtain⟨l,bE,z2,z1⟩:=z1;replace z1:=aD z1;obtain⟨z1,y0⟩:=z1;subst y0;unfold dS at z1;split at z1
    case isFalse=>cases z1
    rename_i hk;cases z1;obtain⟨s,h1,S1,e1,q1,q2,o1⟩:=jY HP it z2 f;refine⟨l,s.1,h1,S1,rfl,q1,?_,o1⟩;simp only[Ev.ev,e1,Ev.ao,Ev.alloc];rw[if_pos (by rw[<-q1.length];exact hk)]
  obtain⟨l,ds,h1,S1,rfl,q1,e1,o1⟩:=key;simp only at z;replace z:=ah z;obtain⟨bE,gA,z2,z⟩:=z;replace z2:=aD z2;obtain⟨z2,y0⟩:=z2;subst y0;cases z;have o2:=o1.f.own z2 q1;exact⟨.nx,_,_,_,_,by simp only[Ev.ex,e1,Ev.ao],rfl,o1.s.trans f o2⟩
 .rw[if_neg hn]at z;replace z:=ah z;obtain⟨bE,gA,z2,z⟩:=z;replace z2:=aD z2;obtain⟨z2,y0⟩:=z2;subst y0;cases z;obtain⟨d,h1,S1,e1,q1,o1⟩:=aY HP e z1 f;obtain⟨f2,l2,r2⟩:=o1.f.set z2 q1.n;refine⟨.nx,_,_,_,_,by simp only[Ev.ex,e1,Ev.ao],rfl,o1.s.trans f ⟨f2,(dQ.refl f2).tr,l2,r2⟩⟩
theorem Hu{l:List Nat}{e:E}:nj P P' w (.kD l e):=λ{fr g af M B h S ak} z f=>by
 simp only[ex]at z;replace z:=ah z;obtain⟨x,av,z1,z⟩:=z;replace z:=ah z;obtain⟨bE,gA,z2,z⟩:=z;replace z2:=aD z2;obtain⟨z2,y0⟩:=z2;subst y0;cases z;obtain⟨d,h1,S1,e1,q1,o1⟩:=aY HP e z1 f;obtain⟨jz,b1,f2,l2,r2⟩:=o1.f.br z2 q1.n;exact⟨.nx,_,_,_,_,by simp only[Ev.ex,e1,Ev.ao,b1],rfl,o1.s.trans f ⟨f2,(dQ.refl f2).tr,l2,r2⟩⟩
theorem Lz{e:E}:nj P P' w (.exp e):=λ{fr g af M B h S ak} z f=>by
 simp only[ex]at z;replace z:=ah z;obtain⟨x,av,z1,z⟩:=z;cases z;obtain⟨d,h1,S1,e1,q1,o1⟩:=aY HP e z1 f;exact⟨.nx,_,_,_,_,by simp only[Ev.ex,e1,Ev.ao],rfl,o1.s⟩
theorem LA{e:E}:nj P P' w (.ret e):=λ{fr g af M B h S ak} z f=>by
 simp only[ex]at z;replace z:=ah z;obtain⟨x,av,z1,z⟩:=z;cases z;obtain⟨M1,S1,o1⟩:=f.dg;obtain⟨d,h2,S2,e1,q1,o2⟩:=aY HP e z1 o1.f;exact⟨.ret d,_,_,_,_,by simp only[Ev.ex,e1,Ev.ao],⟨d,rfl,q1.n⟩,o1.trans f o2.s⟩
omit HP in
theorem qR{F:V->Fr->R Fl}{F':D->Ev.Fr->Hh->Ev.R (Ev.Fl×Ev.Fr)}{ck:List (Nat×List D)}{B:Nat->Prop}{M0:Nat->Prop}{h0:Hh}{S0:Nat->Prop}{eO:Fr}{C4:Ev.Fr}(f0:bw M0 B h0 S0 eO C4)(st:∀q∈ck,aZ h0 q.1=some q.2/\¬ M0 q.1)
  (turn:∀v d fr g af M h S ak,F v fr=.ok g af->bw M B h S fr ak->Rep h S v d->∃g' bR M' h' S',F' d ak h=.ok (g',bR) h'/\gU h' S' g g'/\dQ M B h S fr ak M' h' S' af bR) :
  ∀{vs:List V} {ds:List D} {fr:Fr} {g:Fl} {af:Fr} {M:Nat->Prop} {h:Hh} {S:Nat->Prop} {ak:Ev.Fr},forL F vs fr=.ok g af->dQ M0 B h0 S0 eO C4 M h S fr ak->au h S vs ds->
  ∃g' bR M' h' S',Ev.forL F' ck ds ak h=.ok (g',bR) h'/\gU h' S' g g'/\dQ M0 B h0 S0 eO C4 M' h' S' af bR
 |[],ds,fr,g,af,M,h,S,ak,e,o,q=>by
  simp only[forL]at e;simp only[au]at q;subst q;cases e;refine⟨.nx,ak,M,h,S,?_,rfl,o⟩;simp only[Ev.forL];rw[if_pos (gK λx hx=>jX (st x hx).1 (o.tr.keep _ (nh (st x hx).1) (st x hx).2))]
 |v :: vs,ds,fr,g,af,M,h,S,ak,e,o,q=>by
  simp only[forL]at e;replace e:=ah e;obtain⟨p,av,e1,e⟩:=e;simp only[au]at q;obtain⟨d,es,rfl,q1,q2⟩:=q;obtain⟨g',lK,M2,h2,S2,t1,t2,t3⟩:=turn v d fr p av M h S ak e1 o.f q1;have o2:=o.trans f0 t3;have E8:Ev.stays h ck=true:=gK λx hx=>jX (st x hx).1 (o.tr.keep _ (nh (st x hx).1) (st x hx).2);have QS:au h2 S2 vs es:=q2.mono (λm z=>t3.tr.keep m (o.f.wS m z).1 (o.f.wS m z).2.1) t3.tr.sub;cases p with
  |nx=>
   simp only[gU]at t2;subst t2;simp only at e;obtain⟨pW,jz,M3,h3,S3,u1,u2,u3⟩:=qR f0 st turn e o2 QS;refine⟨pW,jz,M3,h3,S3,?_,u2,u3⟩;simp only[Ev.forL];rw[if_pos E8,t1,Ev.ao];exact u1
  |ct=>
   simp only[gU]at t2;subst t2;simp only at e;obtain⟨pW,jz,M3,h3,S3,u1,u2,u3⟩:=qR f0 st turn e o2 QS;refine⟨pW,jz,M3,h3,S3,?_,u2,u3⟩;simp only[Ev.forL];rw[if_pos E8,t1,Ev.ao];exact u1
  |bk=>
   simp only[gU]at t2;subst t2;simp only at e;cases e;refine⟨.nx,lK,M2,h2,S2,?_,rfl,o2⟩;simp only[Ev.forL];rw[if_pos E8,t1,Ev.ao]
  |ret x=>
   simp only[gU]at t2;obtain⟨d2,rfl,t2⟩:=t2;simp only at e;cases e;refine⟨.ret d2,lK,M2,h2,S2,?_,⟨d2,rfl,t2⟩,o2⟩;simp only[Ev.forL];rw[if_pos E8,t1,Ev.ao]
theorem LB{t:T}{it:It}{b:Ss}(ib:pU P P' w b):nj P P' w (.for t it b):=λ{fr g af M B h S ak} z f=>by
 simp only[ex]at z;replace z:=ah z;obtain⟨vs,av,z1,z⟩:=z;obtain⟨M1,S1,o1⟩:=f.walk (itv it);obtain⟨s,h2,S2,e1,q1,q2,o2⟩:=jY HP it z1 o1.f;have o3:=o1.trans f o2.s;obtain⟨g',bR,M',h',S',u1,u2,u3⟩:=qR (F':=λd av h2=>match Ev.br t d av with
   |some bE=>Ev.exs P' w b bE h2
   |none=>.bad) (ck:=s.2) o2.f (λq hq=>⟨(q2 q hq).1,(q2 q hq).2 rfl⟩) (λv d fr g af M h S ak y f q=>by
  split at y
  .rename_i bE y1;obtain⟨jz,b1,b2,b3,b4⟩:=f.br y1 q;rw[b1];obtain⟨g',bR,M',h',S',c1,c2,c3⟩:=ib y b2;exact⟨g',bR,M',h',S',c1,c2,(⟨b2,(dQ.refl b2).tr,b3,b4⟩:dQ M _ h S fr ak M h S bE jz).trans f c3⟩
  .cases y) z (dQ.refl o2.f) q1
 refine⟨g',bR,M',h',S',?_,u2,o3.trans f u3⟩;simp only[Ev.ex,e1,Ev.ao];exact u1
theorem uP{t:E}{b:Ss}(ib:pU P P' w b):∀(n:Nat) {fr:Fr}{g:Fl}{af:Fr}{M B:Nat->Prop}{h:Hh}{S:Nat->Prop}{ak:Ev.Fr},gu (λav=>aK P t av) (λav=>exs P w b av) n fr=.ok g af->bw M B h S fr ak->
  ∃g' bR M' h' S',Ev.gu (λav h2=>Ev.aK P' t av h2) (λav h2=>Ev.exs P' w b av h2) n ak h=.ok (g',bR) h'/\gU h' S' g g'/\dQ M B h S fr ak M' h' S' af bR
 |0,_,_,_,_,_,_,_,_,z,_=>by simp only[gu]at z;cases z
 |n+1,fr,g,af,M,B,h,S,ak,z,f=>by
  simp only[gu]at z;replace z:=ah z;obtain⟨k,av,z1,z⟩:=z;obtain⟨h1,S1,e1,o1⟩:=gD HP t z1 f;cases k with
  |false=>
   simp only[Bool.false_eq_true,if_false]at z;cases z;refine⟨.nx,ak,M,h1,S1,?_,rfl,o1.s⟩;simp only[Ev.gu,e1,Ev.ao];rw[if_neg (by decide)]
  |true=>
   simp only[if_true]at z;replace z:=ah z;obtain⟨p,bE,z2,z⟩:=z;obtain⟨g',jz,M2,h2,S2,t1,t2,t3⟩:=ib z2 o1.f;have o2:=o1.s.trans f t3;cases p with
   |nx=>
    simp only[gU]at t2;subst t2;simp only at z;obtain⟨pW,C5,M3,h3,S3,u1,u2,u3⟩:=uP ib n z t3.f;refine⟨pW,C5,M3,h3,S3,?_,u2,o2.trans f u3⟩;simp only[Ev.gu,e1,Ev.ao,if_true,t1];exact u1
   |ct=>
    simp only[gU]at t2;subst t2;simp only at z;obtain⟨pW,C5,M3,h3,S3,u1,u2,u3⟩:=uP ib n z t3.f;refine⟨pW,C5,M3,h3,S3,?_,u2,o2.trans f u3⟩;simp only[Ev.gu,e1,Ev.ao,if_true,t1];exact u1
   |bk=>
    simp only[gU]at t2;subst t2;simp only at z;cases z;refine⟨.nx,jz,M2,h2,S2,?_,rfl,o2⟩;simp only[Ev.gu,e1,Ev.ao,if_true,t1]
   |ret x=>
    simp only[gU]at t2;obtain⟨d2,rfl,t2⟩:=t2;simp only at z;cases z;refine⟨.ret d2,jz,M2,h2,S2,?_,⟨d2,rfl,t2⟩,o2⟩;simp only[Ev.gu,e1,Ev.ao,if_true,t1]
theorem LC{t:E}{a b:Ss}(ia:pU P P' w a)(ib:pU P P' w b):nj P P' w (.iff t a b):=λ{fr g af M B h S ak} z f=>by
 simp only[ex]at z;replace z:=ah z;obtain⟨k,av,z1,z⟩:=z;obtain⟨h1,S1,e1,o1⟩:=gD HP t z1 f;cases k with
 |true=>
  simp only[if_true]at z;obtain⟨g',bR,M',h',S',c1,c2,c3⟩:=ia z o1.f;exact⟨g',bR,M',h',S',by simp only[Ev.ex,e1,Ev.ao,if_true,c1],c2,o1.s.trans f c3⟩
 |false=>
  simp only[Bool.false_eq_true,if_false]at z;obtain⟨g',bR,M',h',S',c1,c2,c3⟩:=ib z o1.f;exact⟨g',bR,M',h',S',by simp only[Ev.ex,e1,Ev.ao];rw[if_neg (by decide)];exact c1,c2,o1.s.trans f c3⟩
mutual
theorem Oq:∀s:S,nj P P' w s
 |.set _ _=>Ht HP
 |.kD _ _=>Hu HP
 |.dput _ _ _=>λz _=>by simp only[ex]at z;cases z
 |.oS _ _=>λz _=>by simp only[ex]at z;cases z
 |.jy _ _ _ _=>Hs HP
 |.exp _=>Lz HP
 |.ret _=>LA HP
 |.iff _ a b=>LC HP (kR a) (kR b)
 |.for _ _ b=>LB HP (kR b)
 |.EB _ b=>λz f=>by
  simp only[ex]at z;obtain⟨g',bR,M',h',S',c1,c2,c3⟩:=uP HP (kR b) w z f;exact⟨g',bR,M',h',S',by simp only[Ev.ex];exact c1,c2,c3⟩
 |.gR=>λz _=>by simp only[ex]at z;cases z
theorem kR:∀s:Ss,pU P P' w s
 |.nil=>λz f=>by simp only[exs]at z;cases z;exact⟨.nx,_,_,_,_,by simp only[Ev.exs],rfl,.refl f⟩
 |.cons s ss=>λz f=>by
  simp only[exs]at z;replace z:=ah z;obtain⟨p,av,z1,z⟩:=z;obtain⟨g',lK,M2,h2,S2,t1,t2,t3⟩:=Oq s z1 f;cases p with
  |nx=>
   simp only[gU]at t2;subst t2;simp only at z;obtain⟨pW,jz,M3,h3,S3,u1,u2,u3⟩:=kR ss z t3.f;exact⟨pW,jz,M3,h3,S3,by simp only[Ev.exs,t1,Ev.ao,u1],u2,t3.trans f u3⟩
  |ct=>
   simp only[gU]at t2;subst t2;simp only at z;cases z;exact⟨.ct,lK,M2,h2,S2,by simp only[Ev.exs,t1,Ev.ao],rfl,t3⟩
  |bk=>
   simp only[gU]at t2;subst t2;simp only at z;cases z;exact⟨.bk,lK,M2,h2,S2,by simp only[Ev.exs,t1,Ev.ao],rfl,t3⟩
  |ret x=>
   simp only[gU]at t2;obtain⟨d2,rfl,t2⟩:=t2;simp only at z;cases z;exact⟨.ret d2,lK,M2,h2,S2,by simp only[Ev.exs,t1,Ev.ao],⟨d2,rfl,t2⟩,t3⟩
end
end
theorem qS{h:Hh}{S:Nat->Prop}{B:Nat->Prop}{h0:Hh}{S0:Nat->Prop}:∀{sl:List Sl}{ds:List D}{cs:Fr},sl.length=ds.length->
  (∀(a:Nat) s d,sl[a]?=some s->ds[a]?=some d->kN B B h0 S0 (some s) (some d)/\locked cs a=xw (some s)/\(xw (some s)=true->∃m es l s',d=.ref m/\h[m]?=some (.lst es)/\au h S l es/\cs[a]?=some (some s')/\s'.out=some l))->m8 h S sl ds ((cs.take sl.length).filterMap λo=>o.bind Sl.out)
 |[],ds,cs,_,_=>by simp[m8]
 |s :: sl,[],cs,hl,_=>by simp at hl
 |s :: sl,d :: ds,[],hl,q=>by
  have ih:=qS (h:=h) (S:=S) (sl:=sl) (ds:=ds) (cs:=[]) (by simpa using hl) λa s' d' e1 e2=>by
   obtain⟨w1,w2,w3⟩:=q (a+1) s' d' (by simpa using e1) (by simpa using e2);exact⟨w1,by simpa[locked]using w2,λz=>by obtain⟨_,_,_,_,_,_,_,y,_⟩:=w3 z;simp at y⟩
  obtain⟨w1,w2,w3⟩:=q 0 s d (by simp) (by simp);cases s with
  |val v=>simp at ih ⊢;exact⟨d,ds,rfl,ih⟩
  |own l=>exact absurd w1 (by rintro⟨m,es,e,q,_⟩;exact q.2 q.1)
  |bor l=>obtain⟨_,_,_,_,_,_,_,y,_⟩:=w3 rfl;simp at y
  |ro l=>obtain⟨_,_,_,_,_,_,_,y,_⟩:=w3 rfl;simp at y
 |s :: sl,d :: ds,o :: cs,hl,q=>by
  have ih:=qS (h:=h) (S:=S) (sl:=sl) (ds:=ds) (cs:=cs) (by simpa using hl) λa s' d' e1 e2=>by
   obtain⟨w1,w2,w3⟩:=q (a+1) s' d' (by simpa using e1) (by simpa using e2);exact⟨w1,by simpa[locked]using w2,λz=>by simpa using w3 z⟩
  obtain⟨w1,w2,w3⟩:=q 0 s d (by simp) (by simp);cases s with
  |val v=>
   have:o.bind Sl.out=none:=by
    simp[locked]at w2;rcases o with _|s
    .rfl
    .cases s<;>first|rfl|cases w2
   simp only[List.length_cons,List.take_succ_cons,List.filterMap_cons,this];exact⟨d,ds,rfl,ih⟩
  |own l=>exact absurd w1 (by rintro⟨m,es,e,q,_⟩;exact q.2 q.1)
  |bor l=>
   obtain⟨m,es,l',s',a1,a2,a3,a4,a5⟩:=w3 rfl;simp at a4;subst a4;simp only[List.length_cons,List.take_succ_cons,List.filterMap_cons,Option.bind,a5];exact⟨d,ds,l',_,m,es,rfl,rfl,a1,a2,a3,ih⟩
  |ro l=>
   obtain⟨m,es,l',s',a1,a2,a3,a4,a5⟩:=w3 rfl;simp at a4;subst a4;simp only[List.length_cons,List.take_succ_cons,List.filterMap_cons,Option.bind,a5];exact⟨d,ds,l',_,m,es,rfl,rfl,a1,a2,a3,ih⟩
theorem AZ(F:List Fn)(w:Nat):∀n,pN (run F w n) (Ev.run F w n)
 |0=>λf sl v os e=>by simp[run]at e
 |n+1=>λf sl v os e h S B ds F0=>by
  have HP:=AZ F w n;simp only[run]at e;cases z:F[f]? with
  |none=>rw[z]at e;cases e
  |some fn=>
  rw[z]at e;simp only at e;split at e
  case isFalse=>cases e
  rename_i hl;have hlen:sl.length=ds.length:=by have:=F0.len;simpa using this
  have f1:bw B B h S (eO fn sl) (Ev.eO fn ds):=by
   unfold eO Ev.eO;have sp:∀(i:Nat) o,(sl.map some++List.replicate (fn.ns - fn.np) none)[i]?=some o->(sl.map some)[i]?=some o\/(sl.length<=i/\o=none):=λi o y=>by
    by_cases hi:i<sl.length
    .rw[List.getElem?_append_left (by simpa using hi)]at y;exact .inl y
    .rw[List.getElem?_append_right (by simpa using hi)]at y;have:=List.mem_of_getElem? y;exact .inr ⟨by omega,(List.mem_replicate.mp this).2⟩
   have lo:∀(i:Nat) p,i<sl.length->(ds.map some++List.replicate (fn.ns - fn.np) none)[i]?=some p->(ds.map some)[i]?=some p:=λi p hi y=>by
    rw[List.getElem?_append_left (by simpa[<-hlen]using hi)]at y;exact y
   refine⟨F0.wS,F0.wM,F0.wB,by simp[hlen],λi o p y1 y2=>?_,λi j o o' m y1 y2 y3 y4 y5 y6=>?_⟩
   .rcases sp i o y1 with y1|⟨hi,rfl⟩
    .have hi:i<sl.length:=by have:=(List.getElem?_eq_some_iff.mp y1).1;simpa using this
     exact F0.sl i o p y1 (lo i p hi y2)
    .rw[List.getElem?_append_right (by simpa[<-hlen]using hi)]at y2;have:=List.mem_of_getElem? y2;exact(List.mem_replicate.mp this).2
   .rcases sp i o y1 with y1|⟨hi,rfl⟩
    .rcases sp j o' y2 with y2|⟨hj,rfl⟩
     .have hi:i<sl.length:=by have:=(List.getElem?_eq_some_iff.mp y1).1;simpa using this
      have hj:j<sl.length:=by have:=(List.getElem?_eq_some_iff.mp y2).1;simpa using this
      exact F0.inj i j o o' m y1 y2 y3 y4 (lo i _ hi y5) (lo j _ hj y6)
     .cases y4
    .cases y3
  have fin:∀{g:Fl} {af:Fr},exs (run F w n) w fn.body (eO fn sl)=.ok g af->∃g' bR M' h' S',Ev.exs (Ev.run F w n) w fn.body (Ev.eO fn ds) h=.ok (g',bR) h'/\gU h' S' g g'/\Tk B h S h' S'/\m8 h' S' sl ds (outs fn.np af):=λ{g af} y=>by
   obtain⟨g',bR,M',h',S',c1,c2,c3⟩:=kR HP fn.body y f1;refine⟨g',bR,M',h',S',c1,c2,⟨c3.tr.len,λm y1 y2=>c3.tr.keep m y1 y2,c3.tr.sub,λm q=>?_⟩,?_⟩
   .rcases c3.tr.new m q with q|q|q
    .exact .inl q
    .exact .inr q
    .exact absurd q.1 q.2
   .unfold outs;rw[<-hl];refine qS (B:=B) (h0:=h) (S0:=S) hlen λa s d e1 e2=>?_;have ha:a<sl.length:=(List.getElem?_eq_some_iff.mp e1).1;have h0:(eO fn sl)[a]?=some (some s):=by unfold eO;rw[List.getElem?_append_left (by simpa using ha)];simp[e1]
    have hlk:locked af a=xw (some s):=by rw[c3.lk a];unfold locked;rw[h0]
    refine⟨F0.sl a _ _ (by simp[e1]) (by simp[e2]),hlk,λhk=>?_⟩;have hr:=c3.rf a (by unfold locked;rw[h0];exact hk);have hd:(Ev.eO fn ds)[a]?=some (some d):=by unfold Ev.eO;rw[List.getElem?_append_left (by simpa[<-hlen]using ha)];simp[e2]
    rw[hd]at hr;cases y2:af[a]? with
    |none=>unfold locked at hlk;rw[y2]at hlk;rw[<-hlk]at hk;cases hk
    |some o=>
     have sr:=c3.f.sl a _ _ y2 hr;unfold locked at hlk;rw[y2,hk]at hlk;rcases o with _|s'
     .cases hlk
     .cases s' with
      |val v=>cases hlk
      |own l=>cases hlk
      |bor l=>obtain⟨m,es,e,_,k1,k2⟩:=sr;cases e;exact⟨m,es,l,_,rfl,k1,k2,rfl,rfl⟩
      |ro l=>obtain⟨m,es,e,_,k1,k2⟩:=sr;cases e;exact⟨m,es,l,_,rfl,k1,k2,rfl,rfl⟩
  simp only[Ev.run,z];have hl':ds.length=fn.np:=by omega
  rw[if_pos hl'];split at e
  .rename_i v' af y;cases e;obtain⟨g',bR,M',h',S',c1,c2,c3,c4⟩:=fin y;simp only[gU]at c2;obtain⟨d,rfl,c2⟩:=c2;exact⟨d,h',S',by simp only[Ev.endOf,c1,Ev.ao],c2,c3,c4⟩
  .rename_i af y;cases e;obtain⟨g',bR,M',h',S',c1,c2,c3,c4⟩:=fin y;simp only[gU]at c2;subst c2;exact⟨.aH,h',S',by simp only[Ev.endOf,c1,Ev.ao],rfl,c3,c4⟩
  .obtain⟨rfl,l,k,rfl,e1,rfl,rfl⟩:=Lc e;obtain⟨d,rfl⟩:∃d,ds=[d]:=by cases ds with|nil=>simp at hlen|cons d ds=>cases ds with|nil=>exact⟨d,rfl⟩|cons _ _=>simp at hlen
   obtain⟨d',ed,q⟩:=F0.sl 0 _ _ rfl rfl;cases ed;have r:=Lb (w:=w) (n:=n) z q e1;simp only[Ev.run,z]at r;rw[if_pos hl']at r;refine⟨_,_,λm=>S m\/m=h.length,r,⟨h.length,rfl,.inr rfl,by simp⟩,⟨by simp,λm y1 _=>by rw[List.getElem?_append_left y1],λm q=>.inl q,λm q=>?_⟩,?_⟩
   .rcases q with q|rfl
    .exact .inl q
    .exact .inr ⟨Nat.le_refl _,by simp⟩
   .exact⟨d,[],rfl,rfl⟩
end Pv
namespace Pv
open Ev (D O Hh Fn)
theorem Hv{F:List Fn}{w n f:Nat}{ns:List Int}(e:run F w n f [.val (.bD (ns.map V.int))]=some (.bl true,[])):∃h',Ev.run F w n f [.ref 0] [.bD (ns.map D.int)]=.ok (.bl true) h':=by
 have F0:bw (λ_=>False) (λ_=>False) [O.bD (ns.map D.int)] (λm=>m=0) ([Sl.val (.bD (ns.map V.int))].map some) ([D.ref 0].map some):=by
  refine⟨λm q=>⟨by subst q;simp,id,id⟩,λm q=>q.elim,λm q=>q.elim,rfl,λi o p y1 y2=>?_,λi j o o' m y1 y2 y3 y4 y5 y6=>?_⟩
  .cases i with
   |zero=>
    simp at y1 y2;subst y1 y2;refine⟨.ref 0,rfl,?_⟩;simp only[Rep];exact⟨0,_,rfl,rfl,rfl,au.map (f:=V.int) (g:=D.int) (λ_=>by simp[Rep]) ns⟩
   |succ i=>simp at y1
  .cases i with
   |zero=>simp at y1;subst y1;cases y3
   |succ i=>simp at y1
 obtain⟨d,h',S',a,b,_,_⟩:=AZ F w n f _ _ _ e _ _ _ _ F0;simp only[Rep]at b;subst b;exact⟨h',a⟩
end Pv
namespace Pv
open Ev (D bQ bK TY BI ME T E Es Eo It S Ss Fn big deep b2i rep cA di bM aV cut cL dY slots)
theorem bO{n:Nat}(h:n<=100000):n<=big:=Nat.le_trans h (by decide)
section
variable{i j:Int}{a b:List Nat}{x y:List V}{d e:V}{m n:Nat}{k l:Bool}
theorem cj(h:x.length<=big):dS x=some (.lst x):=by simp[dS,h]
theorem jj(h:x.length<=big):jU x=some (.tup x):=by simp[jU,h]
@[simp] theorem yR:dS []=some (.lst []):=cj (bO (by simp))
@[simp] theorem Ot:jU []=some (.tup []):=jj (bO (by simp))
@[simp] theorem yS{a}:dS [a]=some (.lst [a]):=cj (bO (by simp))
@[simp] theorem kh{a}:jU [a]=some (.tup [a]):=jj (bO (by simp))
@[simp] theorem sW{a b}:dS [a,b]=some (.lst [a,b]):=cj (bO (by simp))
@[simp] theorem b8{a b}:jU [a,b]=some (.tup [a,b]):=jj (bO (by simp))
@[simp] theorem Ou{a b c}:jU [a,b,c]=some (.tup [a,b,c]):=jj (bO (by simp))
@[simp] theorem cJ:bL .add (.int i) (.int j)=some (.int (i+j)):=nd rfl
theorem fG(h:a.length+b.length<=100000):bL .add (.str a) (.str b)=some (.str (a++b)):=by delta bL;dsimp only;simp[bO h]
theorem uQ(h:x.length+y.length<=100000):bL .add (.tup x) (.tup y)=some (.tup (x++y)):=by delta bL;dsimp only;simp[bO h]
theorem gM(h:x.length+y.length<=100000):bL .add (.lst x) (.lst y)=some (.lst (x++y)):=by delta bL;dsimp only;simp[cj (bO (show(x++y).length<=100000 by simpa using h))]
@[simp] theorem C6:bL .sub (.int i) (.int j)=some (.int (i - j)):=nd rfl
@[simp] theorem o5:bL .mul (.int i) (.int j)=if cA i j then some (.int (i*j))else none:=nd rfl
theorem C7(h0:0<=j)(h1:j<=1000)(h2:a.length<=1000):bL .mul (.str a) (.int j)=some (.str (rep j.toNat a)):=by delta bL;dsimp only;simp[h0,h1,h2]
theorem C8(h0:0<=j)(h1:j<=1000)(h2:x.length<=1000)(h3:(rep j.toNat x).length<=100000):bL .mul (.lst x) (.int j)=some (.lst (rep j.toNat x)):=by delta bL;dsimp only;simp[h0,h1,h2,cj (bO h3)]
@[simp] theorem C9:bL .fdiv (.int i) (.int j)=if 0<j/\j<1073741824 then some (.int (i / j))else none:=nd rfl
@[simp] theorem Hw:bL .mod (.int i) (.int j)=if 0<j then some (.int (i % j))else none:=nd rfl
@[simp] theorem iB:cop .ne d e=(cC deep d e).map (!·):=nd rfl
@[simp] theorem sE:cop .fD d e=(isin d e).map (!·):=nd rfl
@[simp] theorem xC:mem d []=some false:=nd rfl
@[simp] theorem mem_cons:mem d (e :: x)=(cC deep e d).bind λb=>(mem d x).bind λc=>some (b ||c):=nd rfl
@[simp] theorem LF:cC (n+1) (.int i) (.int j)=some (decide (i=j)):=by show some (i==j)=_;by_cases h:i=j<;>simp[h]
@[simp] theorem A1:cC (n+1) (.str a) (.str b)=some (decide (a=b)):=by show some (a==b)=_;by_cases h:a=b<;>simp[h]
@[simp] theorem A2:cC (n+1) (.bl k) (.bl l)=some (decide (k=l)):=by cases k<;>cases l<;>rfl
@[simp] theorem Vc:cC (n+1) (.str a) (.int i)=some false:=nd rfl
@[simp] theorem Vd:cC (n+1) (.int i) (.str a)=some false:=nd rfl
@[simp] theorem Ve:cC (n+1) (.tup x) (.tup y)=cD (cC n) x y:=nd rfl
@[simp] theorem Vf:cC (n+1) (.lst x) (.lst y)=cD (cC n) x y:=nd rfl
@[simp] theorem xD:cC deep (.int i) (.int j)=some (decide (i=j)):=LF
@[simp] theorem fL:cC deep (.str a) (.str b)=some (decide (a=b)):=A1
@[simp] theorem Hx:cC deep (.bl k) (.bl l)=some (decide (k=l)):=A2
@[simp] theorem Hy:cC deep (.tup x) (.tup y)=cD (cC (18+1)) x y:=nd rfl
@[simp] theorem qT:cC deep (.lst x) (.lst y)=cD (cC (18+1)) x y:=nd rfl
@[simp] theorem Ue{f:V->V->Option Bool}:cD f [] []=some true:=nd rfl
@[simp] theorem Vg{f:V->V->Option Bool}:cD f [] (d :: x)=some false:=nd rfl
@[simp] theorem Vh{f:V->V->Option Bool}:cD f (d :: x) []=some false:=nd rfl
@[simp] theorem SI{f:V->V->Option Bool}:cD f (d :: x) (e :: y)=(f d e).bind λb=>(cD f x y).bind λc=>some (b&&c):=nd rfl
theorem jI{α:Type}[DecidableEq α]{f:V->V->Option Bool}{g:α->V}(h:∀a b,f (g a) (g b)=some (decide (a=b))):∀l m:List α,cD f (l.map g) (m.map g)=some (decide (l=m))
 |[],[]=>by simp
 |[],_ :: _=>by simp
 |_ :: _,[]=>by simp
 |a :: l,b :: m=>by simp[h,jI h l m]
@[simp] theorem qU:ek (.str a) (.int i)=(bM a i).map λc=>.str [c]:=nd rfl
@[simp] theorem kT:ek (.lst x) (.int i)=bM x i:=nd rfl
@[simp] theorem gW{lo hi:Option Int}:gy (.str a) lo hi=some (.str (cut a lo hi)):=nd rfl
theorem len_str(h:a.length<=100000):cS .len [.str a]=some (.int a.length):=by delta cS;dsimp only;simp[bO h]
@[simp] theorem nV:cS .len [.lst x]=some (.int x.length):=nd rfl
@[simp] theorem xE:cS .len [.bD x]=some (.int x.length):=nd rfl
@[simp] theorem qV:cS .all [.lst x]=(boolsOf x).map λbs=>.bl (bs.all id):=nd rfl
@[simp] theorem Hz:cS .sum [.lst x]=(intsOf x).map λis=>.int is.sum:=nd rfl
@[simp] theorem HA:toT (.lst x)=jU x:=nd rfl
theorem LG(h0:0<=j)(h1:j<=100000):dO [.int j]=some (range 0 j.toNat):=by
 simp only[dO];rw[if_pos ⟨by omega,by omega⟩]
theorem SJ(h0:-100000<=i)(h1:i<=100000)(h2:-100000<=j)(h3:j<=100000):dO [.int i,.int j]=some (range i (j - i).toNat):=by
 simp only[dO];rw[if_pos ⟨by omega,by omega,by omega,by omega⟩]
theorem yT{α:Type}(g:α->Int)(l:List α):intsOf (l.map λx=>.int (g x))=some (l.map g):=by induction l<;>simp[intsOf, *]
theorem pX{α:Type}(g:α->List Nat)(l:List α):strsOf (l.map λx=>.str (g x))=some (l.map g):=by induction l<;>simp[strsOf, *]
theorem sF:∀l:List (List Nat),cL [] l=l.flatten
 |[]=>rfl
 |[s]=>by simp[cL]
 |s :: t :: r=>by simp[cL,sF (t :: r)]
@[simp] theorem Vi:truthy (.bl k)=k:=nd rfl
theorem yU{l:List (List Nat)}(h:l.flatten.length<=100000):fJ .join (.str []) [.lst (l.map V.str)]=some (.str l.flatten):=by
 have hs:=pX (λx=>x) l;have:(l.map (·.length)).sum<=big:=bO (by rw[<-List.length_flatten];exact h);simp only[List.map_id']at hs;have hs':strsOf (l.map V.str)=some l:=by simpa using pX (λx=>x) l
 delta fJ;dsimp only;simp[mJ,hs',sF,this]
end
theorem dR{α:Type}{f:V->Option (Option V)}(e:α->V)(g:α->V)(l:List α)(h:∀a∈l,f (e a)=some (some (g a))):cV f (l.map e)=some (l.map g):=by
 induction l with
 |nil=>rfl
 |cons a l ih=>simp only[List.map_cons,cV,h a (by simp),ih λu hu=>h u (by simp[hu]),Option.bind];rfl
theorem jZ{α:Type}{f:V->Option (Option V)}(e:α->V)(p:α->Bool)(g:α->V)(l:List α)(h:∀a∈l,f (e a)=some (if p a then some (g a)else none)):cV f (l.map e)=some ((l.filter p).map g):=by
 induction l with
 |nil=>rfl
 |cons a l ih=>
  simp only[List.map_cons,cV,h a (by simp),ih λu hu=>h u (by simp[hu]),Option.bind];cases z:p a<;>simp[z]
noncomputable def Wp{α:Type}(r:R α)(Q:α->Fr->Prop):Prop:=∃a h,r=.ok a h/\Q a h
section
variable{α β:Type}{Q Q':α->Fr->Prop}
@[simp] theorem yV(a:α)(h:Fr):Wp (.ok a h) Q=Q a h:=propext ⟨λ⟨_,_,e,q⟩=>by cases e;exact q,λq=>⟨_,_,rfl,q⟩⟩
@[simp] theorem Vj:Wp (.bad:R α) Q=False:=propext ⟨λq=>(by obtain⟨_,_,e,_⟩:=q;cases e),False.elim⟩
@[simp] theorem wp_bind(r:R β)(f:β->Fr->R α):Wp (r.bind f) Q=Wp r λa h=>Wp (f a h) Q:=by cases r<;>simp
theorem Wp.mono{r:R α}(h:Wp r Q)(f:∀a h,Q a h->Q' a h):Wp r Q':=by
 obtain⟨a,h',e,q⟩:=h;exact⟨a,h',e,f a h' q⟩
end
noncomputable def fl(I Q:Fr->Prop)(X:V->Fr->Prop):Fl->Fr->Prop
 |.nx,fr=>I fr
 |.ct,fr=>I fr
 |.bk,fr=>Q fr
 |.ret v,fr=>X v fr
section
variable{I J:Fr->Prop}{X:V->Fr->Prop}{fr:Fr}{v:V}
@[simp] theorem cH:fl I J X .nx fr=I fr:=nd rfl
end
theorem dj{α:Type}{e:α->V}{f:V->Fr->R Fl}{Q:Fl->Fr->Prop}(I:List α->List α->Fr->Prop)(turn:∀p a l fr,I p (a :: l) fr->Wp (f (e a) fr) (fl (I (p++[a]) l) (Q .nx) λv=>Q (.ret v)))(fin:∀p fr,I p [] fr->Q .nx fr):∀(l p:List α) (fr:Fr),I p l fr->Wp (forL f (l.map e) fr) Q
 |[],p,fr,i=>by simp only[List.map_nil,forL,yV];exact fin p fr i
 |a :: l,p,fr,i=>by
  simp only[List.map_cons,forL,wp_bind];refine(turn p a l fr i).mono λg h2 q=>?_;cases g with
  |nx=>exact dj I turn fin l _ h2 q
  |ct=>exact dj I turn fin l _ h2 q
  |bk=>exact(yV _ _).mpr q
  |ret x=>exact(yV _ _).mpr q
theorem HB{f:V->Fr->R Fl}{Q:Fl->Fr->Prop}{lo:Int}{N:Nat}(I:Nat->Fr->Prop)(turn:∀(k:Nat) fr,k<N->I k fr->Wp (f (.int (lo+(k:Nat))) fr) (fl (I (k+1)) (Q .nx) λv=>Q (.ret v)))(fin:∀fr,I N fr->Q .nx fr){fr:Fr}(i:I 0 fr):Wp (forL f (range lo N) fr) Q:=by
 have h:=dj (e:=λ(k:Nat)=>V.int (lo+k)) (f:=f) (Q:=Q) (λp l fr=>∃k,k<=N/\p=List.range k/\p++l=List.range N/\I k fr)
  (λp a l fr ⟨k,hk,hp,hl,q⟩=>by
   subst hp;have hlen:=congrArg List.length hl;simp at hlen;have ha:a=k:=by
    have:=congrArg (·[k]?) hl;simp[List.getElem?_append_right]at this;rw[List.getElem?_range (by omega)]at this;simpa using this
   subst ha;refine(turn a fr (by omega) q).mono λg h2 z=>?_;cases g with
   |nx=>exact⟨a+1,by omega,by simp[List.range_succ],by simpa using hl,z⟩
   |ct=>exact⟨a+1,by omega,by simp[List.range_succ],by simpa using hl,z⟩
   |bk=>exact z
   |ret x=>exact z)
  (λp fr ⟨k,hk,hp,hl,q⟩=>by
   subst hp;have hlen:=congrArg List.length hl;simp at hlen;subst hlen;exact fin fr q) (List.range N) [] fr ⟨0,Nat.zero_le _,rfl,by simp,i⟩
 exact h
noncomputable def fin(fn:Fn)(ds:List Sl):R Fl->Option (V×List (List V))
 |.ok (.ret v) fr=>some (v,outs fn.np fr)
 |.ok .nx fr=>some (.aH,outs fn.np fr)
 |_=>xm fn ds
theorem run_eq{F:List Fn}{w n f:Nat}{ds:List Sl}{fn:Fn}(hf:F[f]?=some fn)(hl:ds.length=fn.np):run F w (n+1) f ds=fin fn ds (exs (run F w n) w fn.body (eO fn ds)):=by
 simp only[run,hf,hl,if_true];cases exs (run F w n) w fn.body (eO fn ds)with
 |bad=>rfl
 |ok g fr=>cases g<;>rfl
theorem bX{F:List Fn}{w n f:Nat}{ds:List Sl}{fn:Fn}{v:V}{os:List (List V)}(hf:F[f]?=some fn)(hl:ds.length=fn.np)(q:Wp (exs (run F w n) w fn.body (eO fn ds)) λg fr=>g=.ret v/\outs fn.np fr=os):run F w (n+1) f ds=some (v,os):=by
 rw[run_eq hf hl];obtain⟨g,fr,e,rfl,rfl⟩:=q;rw[e];rfl
section
variable{P:aR}{w:Nat}{fr:Fr}{k:Bool}{a b c:E}{es:Es}{ss sa sb:Ss}{st:S}{lo hi:Eo}{it:It}
@[simp] theorem SK{d:D}:ev P k (.c d) fr=R.of (ofD d) fr:=by rw[ev]
@[simp] theorem SM{i:Nat}:ev P k (.v i) fr=R.of (gH k fr i) fr:=by rw[ev]
@[simp] theorem LH:ev P k (.tup es) fr=(bZ P false es fr).bind λds af=>R.of (jU ds) af:=by rw[ev]
@[simp] theorem LI:ev P k (.lst es) fr=(bZ P false es fr).bind λds af=>R.of (dS ds) af:=by rw[ev]
@[simp] theorem LJ{o:bQ}:ev P k (.bin o a b) fr=(ev P (kf a (bG b)) a fr).bind λx af=>(ev P true b af).bind λy av=>R.of (bL o x y) av:=by rw[ev]
@[simp] theorem LK{o:bK}:ev P k (.cmp o a b) fr=(ev P (kf a (bG b)) a fr).bind λx af=>(ev P true b af).bind λy av=>R.of ((cop o x y).map .bl) av:=by rw[ev]
noncomputable def Vk:V->Fr->R V:=λx h1=>match x with
 |.bl b=>.ok (.bl (!b)) h1
 |_=>.bad
@[simp] theorem Ov:ev P k (.nt a) fr=(ev P true a fr).bind Vk:=by rw[ev];rfl
noncomputable def SN:V->Fr->R V:=λx h1=>match x with
 |.int i=>.ok (.int (-i)) h1
 |_=>.bad
@[simp] theorem LL:ev P k (.neg a) fr=(ev P true a fr).bind SN:=by rw[ev];rfl
@[simp] theorem LM:ev P k (.g9 a b c) fr=(aK P a fr).bind λt af=>if t then ev P k b af else ev P k c af:=by rw[ev]
theorem LN:ev P k (.mF a b c) fr=(ev P (kf a (bG b++bG c)) a fr).bind λx af=>(ev P (kf b (bG c)) b af).bind λy av=>(ev P false c av).bind λz bE=>R.of (uD x y z) bE:=by rw[ev]
@[simp] theorem Ow:ev P k (.ix a b) fr=(ev P (kf a (bG b)) a fr).bind λx af=>(ev P true b af).bind λy av=>R.of (ek x y) av:=by rw[ev]
@[simp] theorem Ox:ev P k (.sl a lo hi) fr=(ev P (kf a (kG lo++kG hi)) a fr).bind λx af=>(fN P lo af).bind λl av=>(fN P hi av).bind λu bE=>R.of (gy x l u) bE:=by rw[ev]
@[simp] theorem Oz{f:Nat}:ev P k (.cl f es) fr=(fO P es fr).bind λas af=>eE P f as af:=by rw[ev]
@[simp] theorem OA{g:BI}:ev P k (.bi g es) fr=(bZ P true es fr).bind λds af=>R.of (cS g ds) af:=by rw[ev]
noncomputable def Dc(m:ME)(i:Nat):List V->Fr->R V:=λds af=>match af[i]? with
 |some (some (.own l))=>match mK m l ds with
  |some (v,l')=>.ok v (af.set i (some (.own l')))
  |none=>.bad
 |some (some (.bor l))=>match mK m l ds with
  |some (v,l')=>.ok v (af.set i (some (.bor l')))
  |none=>.bad
 |_=>.bad
theorem LO{m:ME}{i:Nat}(hm:iX m=true):ev P k (.me m (.v i) es) fr=if (lent fr i).isSome then (bZ P (AF m) es fr).bind (Dc m i)else .bad:=by
 rw[ev,if_pos hm];unfold jB;cases z:(lent fr i).isSome<;>simp[z]<;>rfl
theorem LP{m:ME}(hm:iX m=false):ev P k (.me m a es) fr=(ev P (kf a (fT es)) a fr).bind λx af=>(bZ P true es af).bind λds av=>R.of (fJ m x ds) av:=by rw[ev,hm];rfl
@[simp] theorem LQ{ts:List TY}:ev P k (.kO a ts) fr=(ev P true a fr).bind λx af=>.ok (.bl (ts.any (cW x))) af:=by rw[ev]
noncomputable def lM(P:aR)(elt:E)(t:T)(cond:Eo)(fr:Fr):V->Option (Option V):=λd=>match br t d (sD fr)with
 |none=>none
 |some av=>match ir P cond av with
  |.ok c _=>if c then (match ev P false elt av with|.ok x _=>some (some x)|.bad=>none)else some none
  |.bad=>none
@[simp] theorem qI{elt:E}{t:T}{cond:Eo}:ev P k (.comp elt t it cond) fr=(cB P true it fr).bind λs af=>if undef t af then R.of ((cV (lM P elt t cond af) s).bind dS) af else .bad:=by rw[ev];rfl
@[simp] theorem LR:ev P k (.fS it) fr=(cB P true it fr).bind λs af=>R.of (dS s) af:=by rw[ev]
@[simp] theorem HC{kvs:List (D×D)}:ev P k (.jw kvs a) fr=(ev P true a fr).bind λx af=>R.of (eS x kvs) af:=by rw[ev]
@[simp] theorem LS:ev P k (.jg a) fr=(ev P true a fr).bind λx af=>R.of (toT x) af:=by rw[ev]
@[simp] theorem HD:bZ P k .nil fr=.ok [] fr:=by rw[bZ]
@[simp] theorem De:bZ P k (.cons a es) fr=(ev P (k&&kf a (fT es)) a fr).bind λd af=>(bZ P k es af).bind λds av=>.ok (d :: ds) av:=by rw[bZ]
@[simp] theorem HE:fO P .nil fr=.ok [] fr:=by rw[fO]
noncomputable def yW(P:aR)(a:E)(es:Es)(fr:Fr):Option Nat->R (List (Nat ⊕ V))
 |some i=>(fO P es fr).bind λr af=>.ok (.inl i :: r) af
 |none=>(ev P false a fr).bind λd af=>(fO P es af).bind λr av=>.ok (.inr d :: r) av
@[simp] theorem yX{i:Nat}:yW P a es fr (some i)=(fO P es fr).bind λr af=>.ok (.inl i :: r) af:=nd rfl
@[simp] theorem yY:yW P a es fr none=(ev P false a fr).bind λd af=>(fO P es af).bind λr av=>.ok (.inr d :: r) av:=nd rfl
@[simp] theorem uR:fO P (.cons a es) fr=yW P a es fr (jB fr a):=by rw[fO];cases jB fr a<;>rfl
@[simp] theorem LU:fN P .no fr=.ok none fr:=by rw[fN]
@[simp] theorem HF:fN P (.yes a) fr=(ev P true a fr).bind λd af=>R.of ((intOf d).map some) af:=by rw[fN]
@[simp] theorem LV:ir P .no fr=.ok true fr:=by rw[ir]
@[simp] theorem HG:ir P (.yes a) fr=aK P a fr:=by rw[ir]
@[simp] theorem A3:aK P (.an a b) fr=(aK P a fr).bind λk af=>if k then aK P b af else .ok false af:=by rw[aK]
@[simp] theorem xF:aK P (.orr a b) fr=(aK P a fr).bind λk af=>if k then .ok true af else aK P b af:=by rw[aK]
@[simp] theorem LW:aK P (.nt a) fr=(aK P a fr).bind λk af=>.ok (!k) af:=by rw[aK]
noncomputable def LX:V->Fr->R Bool:=λx af=>.ok (truthy x) af
@[simp] theorem HH{x:V}:LX x fr=.ok (truthy x) fr:=nd rfl
@[simp] theorem HJ:cB P k (.seq a) fr=(src k fr a (ev P k a fr)).bind λx af=>R.of (eB x) af:=by rw[cB]
@[simp] theorem HK:cB P k (.fR es) fr=(bZ P true es fr).bind λds af=>R.of (dO ds) af:=by rw[cB]
@[simp] theorem Df:cB P k (.enum a) fr=(src k fr a (ev P k a fr)).bind λx af=>R.of ((mJ x).map λs=>cG 0 s) af:=by rw[cB]
noncomputable def LY(i:Nat)(af:Fr):V->R Fl
 |.lst l=>(R.of (put af i (.own l)) af).bind λav _=>.ok .nx av
 |_=>.bad
@[simp] theorem Dg{i:Nat}{l:List V}:LY i fr (.lst l)=(R.of (put fr i (.own l)) fr).bind λav _=>.ok .nx av:=nd rfl
@[simp] theorem A4{i:Nat}:ex P w (.set i a) fr=(ev P false a fr).bind λx af=>if isNew a then LY i af x else (R.of (put af i (.val x)) af).bind λav _=>.ok .nx av:=by
 rw[ex];rfl
@[simp] theorem HL{l:List Nat}:ex P w (.kD l a) fr=(ev P false a fr).bind λx af=>(R.of (br (.many l) x af) af).bind λav _=>.ok .nx av:=by rw[ex]
@[simp] theorem LZ:ex P w (.exp a) fr=(ev P true a fr).bind λ_ af=>.ok .nx af:=by rw[ex]
@[simp] theorem L0:ex P w (.ret a) fr=(ev P false a (fF fr)).bind λx af=>.ok (.ret x) af:=by rw[ex]
@[simp] theorem L1:ex P w (.iff a sa sb) fr=(aK P a fr).bind λk af=>if k then exs P w sa af else exs P w sb af:=by rw[ex]
noncomputable def turnF(P:aR)(w:Nat)(t:T)(b:Ss):V->Fr->R Fl:=λd av=>match br t d av with
 |some bE=>exs P w b bE
 |none=>.bad
@[simp] theorem ue{t:T}:ex P w (.for t it ss) fr=(cB P false it (lH (itv it) fr)).bind λs af=>forL (turnF P w t ss) s af:=by rw[ex];rfl
theorem HM{i x y f:Nat}:ex P w (.jy i x y f) fr=if i≠y/\x≠i/\i<fr.length/\x<fr.length then (cB P false (.seq (.v y)) (lH [y] fr)).bind λvs af=>(R.of (jV P f vs []) af).bind λk av=>(R.of (put av i (.val (.dct k))) av).bind λbE _=>(R.of (iY bE x vs) bE).bind λgA _=>.ok .nx gA else .bad:=by rw[ex]
@[simp] theorem HN:exs P w .nil fr=.ok .nx fr:=by rw[exs]
noncomputable def OB(P:aR)(w:Nat)(ss:Ss):Fl->Fr->R Fl:=λp h1=>match p with
 |.nx=>exs P w ss h1
 |p=>.ok p h1
@[simp] theorem Dh:exs P w (.cons st ss) fr=(ex P w st fr).bind (OB P w ss):=by rw[exs];rfl
end
theorem ki{P:aR}{f:Nat}{vs:List V}{fr:Fr}{v:V}(h:P f (vs.map .val)=some (v,[])):eE P f (vs.map .inr) fr=.ok v fr:=by
 have h1:∀vs:List V,bU (vs.map .inr)=[]:=λvs=>by induction vs<;>simp[bU, *]
 have h2:∀vs:List V,args fr (vs.map .inr)=some (vs.map .val):=λvs=>by induction vs<;>simp[args, *]
 simp[eE,h1,h2,h,back]
section
variable{P:aR}{f:Nat}{fr:Fr}{a b c d v:V}
theorem eF(h:P f [.val a]=some (v,[])):eE P f [.inr a] fr=.ok v fr:=ki (vs:=[a]) h
theorem call2(h:P f [.val a,.val b]=some (v,[])):eE P f [.inr a,.inr b] fr=.ok v fr:=ki (vs:=[a,b]) h
theorem fH(h:P f [.val a,.val b,.val c]=some (v,[])):eE P f [.inr a,.inr b,.inr c] fr=.ok v fr:=ki (vs:=[a,b,c]) h
end
end Pv
namespace Pv
open Ev (D bQ bK TY BI ME T E Es Eo It S Ss Fn big deep b2i rep cA di bM aV cut cL dY slots)
section
variable{fr:Fr}{i j:Nat}{k:Bool}{s:Sl}{v u:V}{l:List V}{o:Option Sl}
noncomputable def A5(k:Bool):Option (Option Sl)->Option V
 |some (some (.val v))=>some v
 |some (some (.own l))=>if k then some (.lst l)else none
 |some (some (.bor l))=>if k then some (.lst l)else none
 |some (some (.ro l))=>if k then some (.lst l)else none
 |_=>none
@[simp] theorem HQ:gH k fr i=A5 k fr[i]?:=by unfold gH A5;split<;>simp_all
@[simp] theorem Ug:A5 k (some (some (.val v)))=some v:=nd rfl
@[simp] theorem Uh:A5 k (some (some (.own l)))=if k then some (.lst l)else none:=nd rfl
@[simp] theorem OC{r:R V}:src k fr (.v i) r=R.of (qO k fr i) fr:=nd rfl
noncomputable def xG(fr:Fr)(i:Nat)(s:Sl):Option (Option Sl)->Option Fr
 |some (some (.bor _))=>none
 |some (some (.ro _))=>none
 |_=>some (fr.set i (some s))
@[simp] theorem A6:put fr i s=xG fr i s fr[i]?:=by unfold put xG;split<;>simp_all
@[simp] theorem Ui:xG fr i s (some (some (.val v)))=some (fr.set i (some s)):=nd rfl
@[simp] theorem Uj:xG fr i s (some (some (.own l)))=some (fr.set i (some s)):=nd rfl
@[simp] theorem yZ{l:List Nat}{x:List V}:br (.many l) (.tup x) fr=cK l x fr:=nd rfl
@[simp] theorem y9:cK [] [] fr=some fr:=nd rfl
@[simp] theorem vE{l:List Nat}{x:List V}:cK (i :: l) (v :: x) fr=(put fr i (.val v)).bind (cK l x):=nd rfl
@[simp] theorem SO:Sl.dg (.val v)=.val v:=nd rfl
@[simp] theorem SQ:Sl.dg (.own l)=.val (.lst l):=nd rfl
noncomputable def kU(m:ME)(i:Nat)(ds:List V)(fr:Fr):Option (Option Sl)->R V
 |some (some (.own l))=>match mK m l ds with
  |some (v,l')=>.ok v (fr.set i (some (.own l')))
  |none=>.bad
 |some (some (.bor l))=>match mK m l ds with
  |some (v,l')=>.ok v (fr.set i (some (.bor l')))
  |none=>.bad
 |_=>.bad
@[simp] theorem HS{m:ME}{ds:List V}:Dc m i ds fr=kU m i ds fr fr[i]?:=by unfold Dc kU;split<;>simp_all<;>rfl
theorem xH{d:V}(h:l.length<100000):kU .append i [d] fr (some (some (.own l)))=.ok .aH (fr.set i (some (.own (l++[d])))):=by
 simp[kU,mK,Nat.lt_of_lt_of_le h (show 100000<=big by decide)]
theorem Di{d:V}{k:Nat}(h:k<l.length):kU .lG i [d,.int (k:Int)] fr (some (some (.own l)))=.ok .aH (fr.set i (some (.own (l.set k d)))):=by
 have:Ev.di l.length (k:Int)=some k:=by unfold Ev.di;rw[if_pos (by omega),if_pos (by omega)];simp
 simp[kU,mK,this]
theorem HU{d:List V}(h:l.length+d.length<=100000):kU .extend i [.lst d] fr (some (some (.own l)))=.ok .aH (fr.set i (some (.own (l++d)))):=by
 simp[kU,mK,bO h]
end
noncomputable def vo(o:Option Sl):Prop:=o=none\/∃y,o=some (.val y)
theorem vo.none:vo none:=.inl rfl
theorem vo.val{v:V}:vo (some (.val v)):=.inr ⟨v,rfl⟩
theorem L3{fr:Fr}{i:Nat}{s:Sl}{b:Option Sl}(h:vo b):xG fr i s (some b)=some (fr.set i (some s)):=by rcases h with rfl|⟨y,rfl⟩<;>rfl
theorem dm{b:Option Sl}(h:vo b):b.map Sl.dg=b:=by rcases h with rfl|⟨y,rfl⟩<;>rfl
noncomputable def OD(f:V->Fr->R Fl)(ds:List V):Fl->Fr->R Fl:=λp af=>match p with
 |.nx=>forL f ds af
 |.ct=>forL f ds af
 |.bk=>.ok .nx af
 |.ret x=>.ok (.ret x) af
section
variable{f:V->Fr->R Fl}{ds:List V}{d x:V}{fr:Fr}
@[simp] theorem rU:forL f (d :: ds) fr=(f d fr).bind (OD f ds):=nd rfl
end
section
variable{a b c:E}{es:Es}{lo hi:Eo}{it:It}{l:List Nat}
end
theorem jk{α:Type}{l:List α}{i:Int}(h0:0<=i):bM l i=l[i.toNat]?:=by
 unfold bM di;rw[if_pos h0];split
 .rfl
 .rw[List.getElem?_eq_none (by omega)];rfl
@[simp] theorem wC{α:Type}{l:List α}{n:Nat}:bM l (n:Int)=l[n]?:=by rw[jk (by omega)];simp
noncomputable def sX:Fn:=⟨2,2,(.cons (.iff (.cmp .eq (.v 0) (.lst .nil)) (.cons (.ret (.bin .mul (.c (.int 7)) (.v 1))) .nil) .nil) (.cons (.ret (.bin .add (.ix (.v 0) (.bin .mod (.v 1) (.bi .len (.cons (.v 0) .nil)))) (.bin .mul (.c (.int 6553)) (.bin .fdiv (.v 1) (.bi .len (.cons (.v 0) .nil)))))) .nil))⟩
noncomputable def uS(c:Nat):Fn:=⟨3,4,(.cons (.set 3 (.bin .mod (.bin .add (.bin .mul (.bin .mod (.cl c (.cons (.v 0) (.cons (.v 1) .nil))) (.c (.int 2147483563))) (.c (.int 69069))) (.bin .mul (.c (.int 104723)) (.bin .add (.v 1) (.c (.int 1))))) (.c (.int 2147483563)))) (.cons (.set 3 (.bin .mod (.bin .add (.bin .mul (.v 3) (.v 3)) (.bin .fdiv (.v 3) (.c (.int 3)))) (.c (.int 2147483399)))) (.cons (.ret (.bin .mod (.bin .fdiv (.bin .mod (.bin .add (.bin .mul (.v 3) (.v 3)) (.bin .fdiv (.v 3) (.c (.int 7)))) (.c (.int 2147483647))) (.c (.int 11))) (.v 2))) .nil)))⟩
noncomputable def sY(ns:List Int)(k:Int):Int:=if ns=[]then 7*k else (ns[(k % ns.length).toNat]?.getD 0)+6553*(k / ns.length)
noncomputable def cY(ns:List Int)(k many:Int):Int:=
 let c:=(sY ns k % 2147483563*69069+104723*(k+1)) % 2147483563
 let c:=(c*c+c / 3) % 2147483399
 (c*c+c / 7) % 2147483647 / 11 % many
theorem j0(ns:List Int)(k:Int){many:Int}(h:0<many):0<=cY ns k many:=Int.emod_nonneg _ (by omega)
theorem j3(ns:List Int)(k:Int){many:Int}(h:0<many):cY ns k many<many:=Int.emod_lt_of_pos _ h
noncomputable def j4(ns:List Int):V:=.bD (ns.map V.int)
theorem HV(ns:List Int):cD (cC (18+1)) (ns.map V.int) []=some (decide (ns=[])):=by cases ns<;>simp
end Pv
namespace Pv
open Ev (D bQ bK TY BI ME T E Es Eo It S Ss Fn big deep b2i rep cA di bM aV cut cL dY slots)
section
variable{P:aR}{w:Nat}{fr af av bE gA:Fr}{k b:Bool}{a e c:E}{es:Es}{ss sa sb:Ss}{st:S}{lo hi:Eo}{it:It}{v x y z:V}{vs:List V}{i:Nat}{l:List V}{Q:Fl->Fr->Prop}
theorem aF{d:D}(h:ofD d=some v):ev P k (.c d) fr=.ok v fr:=by rw[SK,h];rfl
theorem aq(h:gH k fr i=some v):ev P k (.v i) fr=.ok v fr:=by rw[SM,h];rfl
theorem bN(h:bZ P false es fr=.ok vs af)(h2:jU vs=some v):ev P k (.tup es) fr=.ok v af:=by rw[LH,h,ao,h2];rfl
theorem fQ(h:bZ P false es fr=.ok vs af)(h2:dS vs=some v):ev P k (.lst es) fr=.ok v af:=by rw[LI,h,ao,h2];rfl
theorem bf{o:bQ}(h:ev P (kf a (bG e)) a fr=.ok x af)(h2:ev P true e af=.ok y av)(h3:bL o x y=some v):ev P k (.bin o a e) fr=.ok v av:=by rw[LJ,h,ao,h2,ao,h3];rfl
theorem aS{o:bK}(h:ev P (kf a (bG e)) a fr=.ok x af)(h2:ev P true e af=.ok y av)(h3:cop o x y=some b):ev P k (.cmp o a e) fr=.ok (.bl b) av:=by rw[LK,h,ao,h2,ao,h3];rfl
theorem SS(h:ev P true a fr=.ok (.bl b) af):ev P k (.nt a) fr=.ok (.bl (!b)) af:=by rw[Ov,h];rfl
theorem OE{j:Int}(h:ev P true a fr=.ok (.int j) af):ev P k (.neg a) fr=.ok (.int (-j)) af:=by rw[LL,h];rfl
theorem gm(h:aK P a fr=.ok b af)(h2:b=true->ev P k e af=.ok v av)(h3:b=false->ev P k c af=.ok v av):ev P k (.g9 a e c) fr=.ok v av:=by
 rw[LM,h,ao];cases b with
 |true=>exact h2 rfl
 |false=>exact h3 rfl
theorem cX(h:ev P (kf a (bG e)) a fr=.ok x af)(h2:ev P true e af=.ok y av)(h3:ek x y=some v):ev P k (.ix a e) fr=.ok v av:=by rw[Ow,h,ao,h2,ao,h3];rfl
theorem OF{z:V}(h:ev P (kf a (bG e++bG c)) a fr=.ok x af)(h2:ev P (kf e (bG c)) e af=.ok y av)(h3:ev P false c av=.ok z bE)(h4:uD x y z=some v):ev P k (.mF a e c) fr=.ok v bE:=by rw[LN,h,ao,h2,ao,h3,ao,h4];rfl
theorem qW{p q:Option Int}(h:ev P (kf a (kG lo++kG hi)) a fr=.ok x af)(h2:fN P lo af=.ok p av)(h3:fN P hi av=.ok q bE)(h4:gy x p q=some v):ev P k (.sl a lo hi) fr=.ok v bE:=by rw[Ox,h,ao,h2,ao,h3,ao,h4];rfl
theorem bB{f:Nat}{as:List (Nat ⊕ V)}(h:fO P es fr=.ok as af)(h2:eE P f as af=.ok v av):ev P k (.cl f es) fr=.ok v av:=by rw[Oz,h,ao];exact h2
theorem dh{g:BI}(h:bZ P true es fr=.ok vs af)(h2:cS g vs=some v):ev P k (.bi g es) fr=.ok v af:=by rw[OA,h,ao,h2];rfl
theorem E9{m:ME}(hm:iX m=true)(hl:(lent fr i).isSome=true)(h:bZ P (AF m) es fr=.ok vs af)(h2:kU m i vs af af[i]?=.ok v av):ev P k (.me m (.v i) es) fr=.ok v av:=by
 rw[LO hm,if_pos hl,h,ao,HS];exact h2
theorem za{m:ME}(hm:iX m=false)(h:ev P (kf a (fT es)) a fr=.ok x af)(h2:bZ P true es af=.ok vs av)(h3:fJ m x vs=some v):ev P k (.me m a es) fr=.ok v av:=by rw[LP hm,h,ao,h2,ao,h3];rfl
theorem sZ{ts:List TY}(h:ev P true a fr=.ok x af)(h2:ts.any (cW x)=b):ev P k (.kO a ts) fr=.ok (.bl b) af:=by rw[LQ,h,ao,h2]
theorem eV{t:T}{cond:Eo}(h:cB P true it fr=.ok vs af)(hu:undef t af=true)(h2:cV (lM P a t cond af) vs=some l)(h3:dS l=some v):ev P k (.comp a t it cond) fr=.ok v af:=by
 rw[qI,h,ao,if_pos hu,h2];show R.of (dS l) af=_;rw[h3];rfl
theorem pY(h:cB P true it fr=.ok vs af)(h2:dS vs=some v):ev P k (.fS it) fr=.ok v af:=by rw[LR,h,ao,h2];rfl
theorem A7{kvs:List (D×D)}(h:ev P true a fr=.ok x af)(h2:eS x kvs=some v):ev P k (.jw kvs a) fr=.ok v af:=by rw[HC,h,ao,h2];rfl
theorem pZ(h:ev P true a fr=.ok x af)(h2:toT x=some v):ev P k (.jg a) fr=.ok v af:=by rw[LS,h,ao,h2];rfl
theorem az:bZ P k .nil fr=.ok [] fr:=HD
theorem aj(h:ev P (k&&kf a (fT es)) a fr=.ok v af)(h2:bZ P k es af=.ok vs av):bZ P k (.cons a es) fr=.ok (v :: vs) av:=by rw[De,h,ao,h2];rfl
theorem aO:fO P .nil fr=.ok [] fr:=HE
theorem aI{as:List (Nat ⊕ V)}(hi:jB fr a=none)(h:ev P false a fr=.ok v af)(h2:fO P es af=.ok as av):fO P (.cons a es) fr=.ok (.inr v :: as) av:=by rw[uR,hi,yY,h,ao,h2];rfl
theorem SV{as:List (Nat ⊕ V)}(hi:jB fr a=some i)(h2:fO P es fr=.ok as av):fO P (.cons a es) fr=.ok (.inl i :: as) av:=by rw[uR,hi,yX,h2];rfl
theorem zb:fN P .no fr=.ok none fr:=LU
theorem iC{j:Int}(h:ev P true a fr=.ok (.int j) af):fN P (.yes a) fr=.ok (some j) af:=by rw[HF,h];rfl
theorem j5(h:aK P a fr=.ok false af):aK P (.an a e) fr=.ok false af:=by rw[A3,h];rfl
theorem iD{b2:Bool}(h:aK P a fr=.ok true af)(h2:aK P e af=.ok b2 av):aK P (.an a e) fr=.ok b2 av:=by rw[A3,h];exact h2
theorem L4(h:aK P a fr=.ok true af):aK P (.orr a e) fr=.ok true af:=by rw[xF,h];rfl
theorem qa{b2:Bool}(h:aK P a fr=.ok false af)(h2:aK P e af=.ok b2 av):aK P (.orr a e) fr=.ok b2 av:=by rw[xF,h];exact h2
theorem tw(h:aK P a fr=.ok b af):aK P (.nt a) fr=.ok (!b) af:=by rw[LW,h];rfl
noncomputable def plainT:E->Bool
 |.an _ _=>false
 |.orr _ _=>false
 |.nt _=>false
 |_=>true
theorem aB(hp:plainT a=true)(h:ev P true a fr=.ok x af)(h2:truthy x=b):aK P a fr=.ok b af:=by
 have:aK P a fr=(ev P true a fr).bind LX:=by
  cases a<;>first | (cases hp;done) | (rw[aK];rfl;all_goals (intros;contradiction))
 rw[this,h,ao,HH,h2]
theorem cy(h:src k fr a (ev P k a fr)=.ok x af)(h2:eB x=some vs):cB P k (.seq a) fr=.ok vs af:=by rw[HJ,h,ao,h2];rfl
theorem bV(h:qO k fr i=some v){r:R V}:src k fr (.v i) r=.ok v fr:=by rw[OC,h];rfl
theorem qb(h:bZ P true es fr=.ok vs af)(h2:dO vs=some l):cB P k (.fR es) fr=.ok l af:=by rw[HK,h,ao,h2];rfl
theorem qX(h:src k fr a (ev P k a fr)=.ok x af)(h2:mJ x=some vs):cB P k (.enum a) fr=.ok (cG 0 vs) af:=by rw[Df,h,ao,h2];rfl
theorem aW(h:ev P false a fr=.ok v af)(hn:isNew a=false)(hp:put af i (.val v)=some av)(q:Q .nx av):Wp (ex P w (.set i a) fr) Q:=by
 rw[A4,h,ao,hn,hp];exact⟨_,_,rfl,q⟩
theorem iE(h:ev P false a fr=.ok (.lst l) af)(hn:isNew a=true)(hp:put af i (.own l)=some av)(q:Q .nx av):Wp (ex P w (.set i a) fr) Q:=by
 rw[A4,h,ao,hn,if_pos rfl,Dg,hp];exact⟨_,_,rfl,q⟩
theorem A8{is:List Nat}(h:ev P false a fr=.ok v af)(hp:br (.many is) v af=some av)(q:Q .nx av):Wp (ex P w (.kD is a) fr) Q:=by
 rw[HL,h,ao,hp];exact⟨_,_,rfl,q⟩
theorem kj(h:ev P true a fr=.ok v af)(q:Q .nx af):Wp (ex P w (.exp a) fr) Q:=by rw[LZ,h];exact⟨_,_,rfl,q⟩
theorem bS(h:ev P false a (fF fr)=.ok v af)(q:Q (.ret v) af):Wp (ex P w (.ret a) fr) Q:=by rw[L0,h];exact⟨_,_,rfl,q⟩
theorem aL(h:aK P a fr=.ok b af)(h2:b=true->Wp (exs P w sa af) Q)(h3:b=false->Wp (exs P w sb af) Q):Wp (ex P w (.iff a sa sb) fr) Q:=by
 rw[L1,h,ao];cases b with
 |true=>exact h2 rfl
 |false=>exact h3 rfl
theorem ay(q:Q .nx fr):Wp (exs P w .nil fr) Q:=by rw[HN];exact⟨_,_,rfl,q⟩
noncomputable def nx(P:aR)(w:Nat)(ss:Ss)(Q:Fl->Fr->Prop):Fl->Fr->Prop
 |.nx,fr=>Wp (exs P w ss fr) Q
 |g,fr=>Q g fr
theorem ai(q:Wp (ex P w st fr) (nx P w ss Q)):Wp (exs P w (.cons st ss) fr) Q:=by
 rw[Dh,wp_bind];refine q.mono λg af z=>?_;cases g with
 |nx=>exact z
 |bk=>exact⟨_,_,rfl,z⟩
 |ct=>exact⟨_,_,rfl,z⟩
 |ret v=>exact⟨_,_,rfl,z⟩
theorem gn{t:T}(h:cB P false it (lH (itv it) fr)=.ok vs af)(q:Wp (forL (turnF P w t ss) vs af) Q):Wp (ex P w (.for t it ss) fr) Q:=by rw[ue,h,ao];exact q
theorem A9{i' x' y' f:Nat}{K:List (Int×List Nat)}(hc:i'≠y'/\x'≠i'/\i'<fr.length/\x'<fr.length)(h:cB P false (.seq (.v y')) (lH [y'] fr)=.ok vs af)(hk:jV P f vs []=some K)(h2:put af i' (.val (.dct K))=some av)(h3:iY av x' vs=some bE)(q:Q .nx bE):Wp (ex P w (.jy i' x' y' f) fr) Q:=by
 rw[HM,if_pos hc,h,ao,hk];show Wp ((R.of (put af i' (.val (.dct K))) af).bind _) Q;rw[h2];show Wp ((R.of (iY av x' vs) av).bind _) Q;rw[h3];exact⟨_,_,rfl,q⟩
theorem b5{t:T}{d:V}(hb:br t d fr=some af)(q:Wp (exs P w ss af) Q):Wp (turnF P w t ss d fr) Q:=by unfold turnF;rw[hb];exact q
theorem eG{t:T}{d:V}(hb:br t d (sD fr)=some af)(h:ev P false a af=.ok v av):lM P a t .no fr d=some (some v):=by
 unfold lM;rw[hb];dsimp only;rw[LV];dsimp only;rw[h];rfl
theorem qY{t:T}{d:V}(hb:br t d (sD fr)=some af)(h:aK P c af=.ok b av)(h2:b=true->ev P false a af=.ok v bE):lM P a t (.yes c) fr d=some (if b then some v else none):=by
 unfold lM;rw[hb];dsimp only;rw[HG,h];dsimp only;cases b with
 |true=>rw[h2 rfl];rfl
 |false=>rfl
theorem iQ{p q:List Nat}:cop .eq (.str p) (.str q)=some (decide (p=q)):=fL
theorem iZ{p q:List Nat}:cop .ne (.str p) (.str q)=some (!decide (p=q)):=by rw[iB,fL];rfl
theorem uT{p q:Int}:cop .eq (.int p) (.int q)=some (decide (p=q)):=xD
theorem nW{p q:Int}:cop .ne (.int p) (.int q)=some (!decide (p=q)):=by rw[iB,xD];rfl
theorem SW{p q:Int}:cop .lt (.int p) (.int q)=some (decide (p<q)):=rfl
theorem SX{p q:Int}:cop .gt (.int p) (.int q)=some (decide (q<p)):=rfl
theorem lN{p q:Int}(h:cA p q=true):bL .mul (.int p) (.int q)=some (.int (p*q)):=by rw[o5,if_pos h]
theorem nX{p q:Int}(h:0<q):bL .mod (.int p) (.int q)=some (.int (p % q)):=by rw[Hw,if_pos h]
theorem tB{p q:Int}(h:0<q)(h2:q<1073741824):bL .fdiv (.int p) (.int q)=some (.int (p / q)):=by rw[C9,if_pos ⟨h,h2⟩]
end
theorem gE{fr:Fr}{i:Nat}{s:Sl}{o:Option Sl}(e:fr[i]?=some o)(h:vo o):put fr i s=some (fr.set i (some s)):=by rw[A6,e,L3 h]
theorem eT{fr:Fr}{i j:Nat}{u v:V}{a b:Option Sl}(ea:fr[i]?=some a)(ha:vo a)(eb:(fr.set i (some (.val u)))[j]?=some b)(hb:vo b):br (.many [i,j]) (.tup [u,v]) fr=some ((fr.set i (some (.val u))).set j (some (.val v))):=by
 simp only[yZ,vE,y9,gE ea ha,Option.bind,gE eb hb]
theorem bind1{fr:Fr}{i:Nat}{v:V}{a:Option Sl}(ea:fr[i]?=some a)(ha:vo a):br (.one i) v fr=some (fr.set i (some (.val v))):=gE ea ha
end Pv
local macro_rules|`(tactic|array_get_dec)=>`(tactic|first
 |exact Pv.az|exact Pv.aO|exact Pv.zb
 | (apply Pv.aq;rfl) | (apply Pv.aF;rfl)|apply Pv.bf|apply Pv.aS|apply Pv.bN|apply Pv.fQ|apply Pv.cX|apply Pv.qW|apply Pv.bB|apply Pv.dh
 |apply Pv.SS|apply Pv.OE|apply Pv.pZ|apply Pv.pY  | (apply Pv.E9 rfl rfl) | (apply Pv.za rfl)|apply Pv.A7
 |apply Pv.aj | (apply Pv.aI rfl) | (apply Pv.SV rfl)|apply Pv.iC|apply Pv.tw|apply Pv.aB rfl
 |exact Pv.Ot|exact Pv.kh|exact Pv.b8|exact Pv.Ou|exact Pv.yR|exact Pv.yS|exact Pv.sW
 | (with_reducible assumption)|exact Pv.cJ|exact Pv.C6|exact Pv.iQ|exact Pv.iZ|exact Pv.uT|exact Pv.nW|exact Pv.SW  | exact Pv.SX
 | (show Pv.truthy _=_;rfl) | (show Pv.ek _ _=some _;rfl) | (show Pv.toT _=some _;rfl) | (show Pv.eS _ _=some _;rfl) | (show Pv.eB _=some _;rfl)|assumption)
namespace Pv
open Ev (D bQ bK TY BI ME T E Es Eo It S Ss Fn big deep b2i rep cA di bM aV cut cL dY slots)
theorem L5(a b:Int):cA (a % 2147483563) b=true:=by have h1:=Int.emod_nonneg a (b:=2147483563) (by decide);have h2:=Int.emod_lt_of_pos a (b:=2147483563) (by decide);simp[cA];omega
theorem SY(a b:Int):cA (a % 2147483399) b=true:=by have h1:=Int.emod_nonneg a (b:=2147483399) (by decide);have h2:=Int.emod_lt_of_pos a (b:=2147483399) (by decide);simp[cA];omega
theorem L6{l:List V}{j:Int}{v:V}(h:bM l j=some v):ek (.bD l) (.int j)=some v:=h
theorem L7{l m:List V}:cop .eq (.bD l) (.lst m)=cD (cC (18+1)) l m:=rfl
theorem Dj{F:List Fn}{w n c:Nat}(hc:F[c]?=some sX){ns:List Int}(hn:ns.length<=63)(k:Int):run F w (n+1) c [.val (j4 ns),.val (.int k)]=some (.int (sY ns k),[]):=by
 refine bX hc rfl (ai (aL (b:=decide (ns=[])) (aB rfl (aS (aq rfl) (fQ az yR) (L7.trans (HV ns))) rfl) (λh=>?_) λh=>ay ?_))
 .have h0:=of_decide_eq_true h;exact ai (bS (bf (aF rfl) (aq rfl) (lN rfl)) ⟨by rw[sY,if_pos h0],rfl⟩)
 .have h0:=of_decide_eq_false h;have hlen:0<ns.length:=List.length_pos_iff.mpr h0;have QT:(0:Int)<(ns.map V.int).length:=by rw[List.length_map];exact Int.natCast_pos.mpr hlen
  have h30:((ns.map V.int).length:Int)<1073741824:=by rw[List.length_map];omega
  have hm0:=Int.emod_nonneg k (b:=(ns.length:Int)) (by omega);have hlt:(k % (ns.length:Int)).toNat<ns.length:=by have:=Int.emod_lt_of_pos k (b:=(ns.length:Int)) (by omega);omega
  have hx:bM (ns.map V.int) (k % ((ns.map V.int).length:Int))=some (.int (ns[(k % (ns.length:Int)).toNat]?.getD 0)):=by
   rw[List.length_map,jk hm0,List.getElem?_map,List.getElem?_eq_getElem hlt];rfl
  refine ai (bS (bf (cX (aq rfl) (bf (aq rfl) (dh (aj (aq rfl) az) xE) (nX QT)) (L6 hx)) (bf (aF rfl) (bf (aq rfl) (dh (aj (aq rfl) az) xE) (tB QT h30)) (lN rfl)) cJ) ⟨?_,rfl⟩);rw[sY,if_neg h0,List.length_map]
theorem fX{F:List Fn}{w n c dr:Nat}(hc:F[c]?=some sX)(hd:F[dr]?=some (uS c)){ns:List Int}(hn:ns.length<=63)(k:Int){many:Int}(hm:0<many):run F w (n+2) dr [.val (j4 ns),.val (.int k),.val (.int many)]=some (.int (cY ns k many),[]):=by
 refine bX hd rfl (ai (aW (bf (bf (bf (bf (bB (aI rfl (aq rfl) (aI rfl (aq rfl) aO)) (call2 (Dj hc hn k))) (aF rfl) (nX (by decide))) (aF rfl) (lN (L5 _ _))) (bf (aF rfl) (bf (aq rfl) (aF rfl) cJ) (lN rfl)) cJ) (aF rfl) (nX (by decide))) rfl rfl ?_));refine ai (aW (bf (bf (bf (aq rfl) (aq rfl) (lN (L5 _ _))) (bf (aq rfl) (aF rfl) (tB (by decide) (by decide))) cJ) (aF rfl) (nX (by decide))) rfl rfl ?_);exact ai (bS (bf (bf (bf (bf (bf (aq rfl) (aq rfl) (lN (SY _ _))) (bf (aq rfl) (aF rfl) (tB (by decide) (by decide))) cJ) (aF rfl) (nX (by decide))) (aF rfl) (tB (by decide) (by decide))) (aq rfl) (nX hm)) ⟨rfl,rfl⟩)
noncomputable def fText(dr:Nat):Fn:=⟨3,4,(.cons (.ret (.me .join (.c (.str [])) (.cons (.comp (.ix (.c (.str [97,98,99,32])) (.cl dr (.cons (.v 0) (.cons (.bin .add (.bin .add (.v 1) (.c (.int 1))) (.v 3)) (.cons (.c (.int 4)) .nil))))) (.one 3) (.fR (.cons (.cl dr (.cons (.v 0) (.cons (.v 1) (.cons (.bin .add (.v 2) (.c (.int 1))) .nil)))) .nil)) .no) .nil))) .nil)⟩
noncomputable def Fb(dr:Nat):S:=.iff (.cmp .eq (.cl dr (.cons (.v 0) (.cons (.bin .add (.v 1) (.bin .mul (.c (.int 4)) (.v 4))) (.cons (.c (.int 4)) .nil)))) (.c (.int 0))) (.cons (.set 5 (.bin .mul (.ix (.c (.str [97,98,122])) (.cl dr (.cons (.v 0) (.cons (.bin .add (.bin .add (.v 1) (.bin .mul (.c (.int 4)) (.v 4))) (.c (.int 1))) (.cons (.c (.int 3)) .nil))))) (.bin .add (.c (.int 1)) (.cl dr (.cons (.v 0) (.cons (.bin .add (.bin .add (.v 1) (.bin .mul (.c (.int 4)) (.v 4))) (.c (.int 2))) (.cons (.c (.int 2)) .nil))))))) (.cons (.set 3 (.bin .add (.v 3) (.tup (.cons (.tup (.cons (.c (.str [112,117,116])) (.cons (.v 5) .nil))) .nil)))) .nil)) .nil
noncomputable def Fc(dr:Nat):S:=.iff (.cmp .lt (.v 4) (.bi .len (.cons (.v 2) .nil))) (.cons (.set 6 (.cmp .gt (.cl dr (.cons (.v 0) (.cons (.bin .add (.bin .add (.v 1) (.bin .mul (.c (.int 4)) (.v 4))) (.c (.int 3))) (.cons (.c (.int 3)) .nil)))) (.c (.int 0)))) (.cons (.set 3 (.bin .add (.v 3) (.tup (.cons (.g9 (.v 6) (.tup (.cons (.c (.str [107,101,101,112])) (.cons (.c (.int 1)) .nil))) (.tup (.cons (.c (.str [100,114,111,112])) (.cons (.ix (.v 2) (.v 4)) .nil)))) .nil)))) .nil)) .nil
noncomputable def HW(dr:Nat):Fn:=⟨3,7,(.cons (.set 3 (.tup .nil)) (.cons (.for (.one 4) (.fR (.cons (.bin .add (.bi .len (.cons (.v 2) .nil)) (.c (.int 1))) .nil)) (.cons (Fb dr) (.cons (Fc dr) .nil))) (.cons (.ret (.v 3)) .nil)))⟩
inductive Pt where
 |keep (n:Nat)|put (s:List Nat)|drop (s:List Nat)
deriving DecidableEq
noncomputable def eK:List Nat:=[107,101,101,112]
noncomputable def lO:List Nat:=[112,117,116]
noncomputable def jF:List Nat:=[100,114,111,112]
noncomputable def Pt.v:Pt->V
 |.keep n=>.tup [.str eK,.int n]
 |.put s=>.tup [.str lO,.str s]
 |.drop s=>.tup [.str jF,.str s]
noncomputable def aC(c:List Pt):V:=.tup (c.map Pt.v)
theorem L8(n:Nat)(a b:Pt):cC (n+2) a.v b.v=some (decide (a=b)):=by
 cases a<;>cases b<;>simp[Pt.v,eK,lO,jF]
 all_goals omega
theorem Ba(a b:List Pt):cC deep (aC a) (aC b)=some (decide (a=b)):=by
 simp only[aC,Hy];exact jI (λa b=>L8 17 a b) a b
noncomputable def txt(ns:List Int)(at_ most:Int):List Nat:=(List.range (cY ns at_ (most+1)).toNat).map λ(k:Nat)=>[97,98,99,32].getD (cY ns (at_+1+k) 4).toNat 0
theorem xJ(ns:List Int)(at_:Int){most:Int}(h:0<=most):(txt ns at_ most).length<=most.toNat:=by
 unfold txt;have h1:=j3 ns at_ (many:=most+1) (by omega);have h2:=j0 ns at_ (many:=most+1) (by omega);simp;omega
theorem getD_at{α:Type}{l:List α}{i:Int}(h0:0<=i)(h1:i<l.length)(d:α):bM l i=some (l.getD i.toNat d):=by
 have:i.toNat<l.length:=by omega
 rw[jk h0];simp[List.getD,List.getElem?_eq_getElem this]
theorem oJ{α β:Type}(l:List α)(f:α->β):(l.map λx=>[f x]).flatten=l.map f:=by induction l<;>simp[*]
theorem Bb(lo:Int)(n:Nat):range lo n=(List.range n).map λ(i:Nat)=>V.int (lo+i):=rfl
section
variable{F:List Fn}{w n c dr t:Nat}(hc:F[c]?=some sX)(hd:F[dr]?=some (uS c)){ns:List Int}(hn:ns.length<=63)
include hc hd hn
theorem uU(ht:F[t]?=some (fText dr))(k most:Int)(hm:0<=most)(hm2:most<=1000):run F w (n+3) t [.val (j4 ns),.val (.int k),.val (.int most)]=some (.str (txt ns k most),[]):=by
 have b0:=j0 ns k (many:=most+1) (by omega);have b1:=j3 ns k (many:=most+1) (by omega);have d0:=λfr=>fH (fr:=fr) (fX (w:=w) (n:=n) hc hd hn k (many:=most+1) (by omega));have OG:cV (lM (run F w (n+2)) (.ix (.c (.str [97,98,99,32])) (.cl dr (.cons (.v 0) (.cons (.bin .add (.bin .add (.v 1) (.c (.int 1))) (.v 3)) (.cons (.c (.int 4)) .nil))))) (.one 3) .no [some (.val (j4 ns)),some (.val (.int k)),some (.val (.int most)),none]) (range 0 (cY ns k (most+1)).toNat)=some (((List.range (cY ns k (most+1)).toNat).map λ(j:Nat)=>[[97,98,99,32].getD (cY ns (k+1+j) 4).toNat 0]).map V.str):=by
  rw[Bb,List.map_map];refine dR _ _ _ λj _=>?_;have d1:=λfr=>fH (fr:=fr) (fX (w:=w) (n:=n) hc hd hn (k+1+j) (many:=4) (by decide));have ix:ek (.str [97,98,99,32]) (.int (cY ns (k+1+j) 4))=some (.str [[97,98,99,32].getD (cY ns (k+1+j) 4).toNat 0]):=by
   rw[qU,getD_at (l:=[97,98,99,32]) (j0 ns (k+1+j) (many:=4) (by decide)) (j3 ns (k+1+j) (many:=4) (by decide)) 0];rfl
  rw[show(0:Int)+(j:Int)=j from Int.zero_add _];exact eG rfl (by (repeat (first|array_get_dec|exact d1 _)))
 have hj:=yU (l:=(List.range (cY ns k (most+1)).toNat).map λ(j:Nat)=>[[97,98,99,32].getD (cY ns (k+1+j) 4).toNat 0]) (by rw[oJ];simp;omega);rw[oJ]at hj;have Vl:dS (((List.range (cY ns k (most+1)).toNat).map λ(j:Nat)=>[[97,98,99,32].getD (cY ns (k+1+j) 4).toNat 0]).map V.str)=some (.lst _):=cj (bO (by simp;omega));have rg:=LG b0 (show cY ns k (most+1)<=100000 by omega);refine bX ht rfl (ai (bS (za rfl (aF rfl) (aj (eV (qb (by (repeat (first|array_get_dec|exact d0 _))) rg) rfl OG Vl) az) hj) ⟨rfl,rfl⟩))
end
noncomputable def lP(ns:List Int)(at_:Int)(s:List Nat)(k:Nat):List Pt:=
 (if cY ns (at_+4*k) 4=0 then [.put (rep (1+cY ns (at_+4*k+2) 2).toNat [[97,98,122].getD (cY ns (at_+4*k+1) 3).toNat 0])]else [])++
 (match s[k]? with
 |some c=>[if 0<cY ns (at_+4*k+3) 3 then .keep 1 else .drop [c]]
 |none=>[])
noncomputable def gp(ns:List Int)(at_:Int)(s:List Nat)(k:Nat):List Pt:=(List.range k).flatMap (lP ns at_ s)
noncomputable def chg(ns:List Int)(at_:Int)(s:List Nat):List Pt:=gp ns at_ s (s.length+1)
theorem Bc(ns:List Int)(at_:Int)(s:List Nat)(k:Nat):(lP ns at_ s k).length<=2:=by
 unfold lP;split<;>split<;>simp
theorem lQ(ns:List Int)(at_:Int)(s:List Nat)(k:Nat):gp ns at_ s (k+1)=gp ns at_ s k++lP ns at_ s k:=by simp[gp,List.range_succ]
theorem nv(ns:List Int)(at_:Int)(s:List Nat):∀k,(gp ns at_ s k).length<=2*k
 |0=>by simp[gp]
 |k+1=>by
  have h1:=Bc ns at_ s k;have h2:=nv ns at_ s k;rw[lQ,List.length_append];omega
theorem Ma(i:Int):cA 4 i=true:=by simp[cA]
theorem zc{a b:List Pt}(h:a.length+b.length<=100000):bL .add (aC a) (aC b)=some (aC (a++b)):=by
 simp only[aC];rw[uQ (by simpa using h)];simp
theorem Mb{j:Int}{n:Nat}(h:n<=100000)(e:j=n):dO [.int j]=some (range 0 n):=by
 subst e;rw[LG (by omega) (by omega)];rfl
theorem HX{a:List Pt}{s:List Nat}(h:a.length<100000):bL .add (aC a) (.tup [.tup [.str [112,117,116],.str s]])=some (aC (a++[.put s])):=zc (a:=a) (b:=[.put s]) (by simp;omega)
theorem Dk{a:List Pt}{s:List Nat}(h:a.length<100000):bL .add (aC a) (.tup [.tup [.str [100,114,111,112],.str s]])=some (aC (a++[.drop s])):=zc (a:=a) (b:=[.drop s]) (by simp;omega)
theorem Dl{a:List Pt}(h:a.length<100000):bL .add (aC a) (.tup [.tup [.str [107,101,101,112],.int 1]])=some (aC (a++[.keep 1])):=zc (a:=a) (b:=[.keep 1]) (by simp;omega)
section
variable{F:List Fn}{w n c dr t:Nat}(hc:F[c]?=some sX)(hd:F[dr]?=some (uS c)){ns:List Int}(hn:ns.length<=63)
include hc hd hn
theorem Dm(k:Int)(x:V)(fd:List Pt)(j:Nat)(u v:Option Sl)(hu:vo u)(hfd:fd.length<=10000) :
  Wp (ex (run F w (n+2)) w (Fb dr) [some (.val (j4 ns)),some (.val (.int k)),some (.val x),some (.val (aC fd)),some (.val (.int j)),u,v]) λg fr=>g=.nx/\∃b,vo b/\fr=[some (.val (j4 ns)),some (.val (.int k)),some (.val x),some (.val (aC (fd++if cY ns (k+4*j) 4=0 then [.put (rep (1+cY ns (k+4*j+2) 2).toNat [[97,98,122].getD (cY ns (k+4*j+1) 3).toNat 0])]else []))),some (.val (.int j)),b,v]:=by
 have d1:=λfr=>fH (fr:=fr) (fX (w:=w) (n:=n) hc hd hn (k+4*j) (many:=4) (by decide));have m4:bL .mul (.int 4) (.int j)=some (.int (4*j)):=by rw[o5,Ma];rfl
 refine aL (by (repeat (first|array_get_dec|exact d1 _))) (λh=>?_) λh=>?_
 .have h0:=of_decide_eq_true h;have d2:=λfr=>fH (fr:=fr) (fX (w:=w) (n:=n) hc hd hn (k+4*j+1) (many:=3) (by decide));have d3:=λfr=>fH (fr:=fr) (fX (w:=w) (n:=n) hc hd hn (k+4*j+2) (many:=2) (by decide));have c2:=j0 ns (k+4*j+2) (many:=2) (by decide);have c3:=j3 ns (k+4*j+2) (many:=2) (by decide);have ix:ek (.str [97,98,122]) (.int (cY ns (k+4*j+1) 3))=some (.str [[97,98,122].getD (cY ns (k+4*j+1) 3).toNat 0]):=by
   rw[qU,getD_at (l:=[97,98,122]) (j0 ns (k+4*j+1) (many:=3) (by decide)) (j3 ns (k+4*j+1) (many:=3) (by decide)) 0];rfl
  have ml:=C7 (j:=1+cY ns (k+4*j+2) 2) (a:=[[97,98,122].getD (cY ns (k+4*j+1) 3).toNat 0]) (by omega) (by omega) (by simp);have ad:=HX (a:=fd) (s:=rep (1+cY ns (k+4*j+2) 2).toNat [[97,98,122].getD (cY ns (k+4*j+1) 3).toNat 0]) (by omega);refine ai (aW (by (repeat (first|array_get_dec|exact d2 _|exact d3 _))) rfl (gE rfl hu) ?_);refine ai (aW (by repeat array_get_dec) rfl rfl (ay ?_));rw[if_pos h0];exact⟨rfl,_,.val,rfl⟩
 .have h0:=of_decide_eq_false h;rw[if_neg h0,List.append_nil];exact ay ⟨rfl,u,hu,rfl⟩
theorem Dn(k:Int)(x:List Nat)(hx:x.length<=1000)(fd:List Pt)(j:Nat)(u v:Option Sl)(hv:vo v)(hfd:fd.length<=10000) :
  Wp (ex (run F w (n+2)) w (Fc dr) [some (.val (j4 ns)),some (.val (.int k)),some (.val (.str x)),some (.val (aC fd)),some (.val (.int j)),u,v]) λg fr=>g=.nx/\∃b,vo b/\fr=[some (.val (j4 ns)),some (.val (.int k)),some (.val (.str x)),some (.val (aC (fd++match x[j]? with
     |some c=>[if 0<cY ns (k+4*j+3) 3 then .keep 1 else .drop [c]]
     |none=>[]))),some (.val (.int j)),u,b]:=by
 have ln:cS .len [.str x]=some (.int (x.length:Nat)):=len_str (by omega);refine aL (by repeat array_get_dec) (λh=>?_) λh=>?_
 .have hlt:j<x.length:=by have:=of_decide_eq_true h;omega
  have d1:=λfr=>fH (fr:=fr) (fX (w:=w) (n:=n) hc hd hn (k+4*j+3) (many:=3) (by decide));have m4:bL .mul (.int 4) (.int j)=some (.int (4*j)):=by rw[o5,Ma];rfl
  have hg:x[j]?=some x[j]:=List.getElem?_eq_getElem hlt;have ix:ek (.str x) (.int j)=some (.str [x[j]]):=by rw[qU,wC,hg];rfl
  rw[hg];refine ai (aW (by (repeat (first|array_get_dec|exact d1 _))) rfl (gE rfl hv) ?_);by_cases hk:0<cY ns (k+4*j+3) 3
  .have ad:=Dl (a:=fd) (by omega);have ht:truthy (.bl (decide (0<cY ns (k+4*j+3) 3)))=true:=decide_eq_true hk;refine ai (aW (bf (aq rfl) (bN (aj (gm (b:=true) (aB rfl (aq rfl) ht) (λ_=>by repeat array_get_dec) λh=>absurd h (by decide)) az) kh) ad) rfl rfl (ay ?_));refine⟨rfl,some (.val (.bl (decide (0<cY ns (k+4*j+3) 3)))),.val,?_⟩;simp only[if_pos hk];rfl
  .have ad:=Dk (a:=fd) (s:=[x[j]]) (by omega);have ht:truthy (.bl (decide (0<cY ns (k+4*j+3) 3)))=false:=decide_eq_false hk;refine ai (aW (bf (aq rfl) (bN (aj (gm (b:=false) (aB rfl (aq rfl) ht) (λh=>absurd h (by decide)) λ_=>by repeat array_get_dec) az) kh) ad) rfl rfl (ay ?_));refine⟨rfl,some (.val (.bl (decide (0<cY ns (k+4*j+3) 3)))),.val,?_⟩;simp only[if_neg hk];rfl
 .have hlt:¬ j<x.length:=by have:=of_decide_eq_false h;omega
  rw[List.getElem?_eq_none (by omega),List.append_nil];exact ay ⟨rfl,v,hv,rfl⟩
theorem zd(ht:F[t]?=some (HW dr))(k:Int)(x:List Nat)(hx:x.length<=1000):run F w (n+3) t [.val (j4 ns),.val (.int k),.val (.str x)]=some (aC (chg ns k x),[]):=by
 refine bX ht rfl ?_;have ln:cS .len [.str x]=some (.int (x.length:Nat)):=len_str (by omega);have rg:dO [.int ((x.length:Nat)+1)]=some (range 0 (x.length+1)):=Mb (by omega) (by omega);refine ai (aW (by repeat array_get_dec) rfl rfl ?_);refine ai (gn (qb (aj (bf (dh (aj (aq rfl) az) ln) (aF rfl) cJ) az) rg) ?_);refine HB (λj fr=>∃a b c,vo a/\vo b/\vo c/\fr=[some (.val (j4 ns)),some (.val (.int k)),some (.val (.str x)),some (.val (aC (gp ns k x j))),a,b,c]) (λj fr hj ⟨a,b,c',ha,hb,hc',hfr⟩=>?_) (λfr ⟨a,b,c',ha,hb,hc',hfr⟩=>?_) ⟨none,none,none,.none,.none,.none,rfl⟩
 .subst hfr;have hz:=nv ns k x j;rw[show(0:Int)+(j:Int)=j from Int.zero_add _];refine b5 (bind1 rfl ha) (ai ?_);refine(Dm hc hd hn k (.str x) (gp ns k x j) j b c' hb (by omega)).mono λg fr ⟨q1,b2,hb2,q3⟩=>?_;subst q1 q3;refine ai ?_;refine(Dn hc hd hn k x hx _ j b2 c' hc' (by split<;>simp<;>omega)).mono λg fr ⟨q1,b3,Vm,q3⟩=>?_;subst q1 q3;refine ay ?_;rw[cH];refine⟨some (.val (.int j)),b2,b3,.val,hb2,Vm,?_⟩;rw[lQ,lP,List.append_assoc]
 .subst hfr;refine ai (bS (v:=aC (chg ns k x)) (af:=[some (.val (j4 ns)),some (.val (.int k)),some (.val (.str x)),some (.val (aC (gp ns k x (x.length+1)))),a,b,c']) ?_ ⟨rfl,rfl⟩);have sh:fF [some (.val (j4 ns)),some (.val (.int k)),some (.val (.str x)),some (.val (aC (gp ns k x (x.length+1)))),a,b,c']=[some (.val (j4 ns)),some (.val (.int k)),some (.val (.str x)),some (.val (aC (gp ns k x (x.length+1)))),a,b,c']:=by
   show _ :: _ :: _ :: _ :: a.map Sl.dg :: b.map Sl.dg :: [c'.map Sl.dg]=_;rw[dm ha,dm hb,dm hc'];rfl
  rw[sh];exact aq rfl
end
end Pv
namespace Pv
open Ev (D bQ bK TY BI ME T E Es Eo It S Ss Fn big deep b2i rep cA di bM aV cut cL dY slots)
noncomputable def Dp:S:=.iff (.cmp .eq (.ix (.v 0) (.c (.int 0))) (.c (.str [107,101,101,112]))) (.cons (.ret (.ix (.v 0) (.c (.int 1)))) .nil) .nil
noncomputable def Dq:S:=.ret (.bi .len (.cons (.ix (.v 0) (.c (.int 1))) .nil))
noncomputable def dU:Fn:=⟨1,1,(.cons Dp (.cons Dq .nil))⟩
noncomputable def ze(cz:Nat):S:=.ret (.bi .sum (.cons (.comp (.cl cz (.cons (.v 1) .nil)) (.one 1) (.seq (.v 0)) (.yes (.cmp .ne (.ix (.v 1) (.c (.int 0))) (.c (.str [112,117,116]))))) .nil))
noncomputable def fY(cz:Nat):Fn:=⟨1,2,(.cons (ze cz) .nil)⟩
noncomputable def Bd(cz:Nat):S:=.ret (.bi .sum (.cons (.comp (.cl cz (.cons (.v 1) .nil)) (.one 1) (.seq (.v 0)) (.yes (.cmp .ne (.ix (.v 1) (.c (.int 0))) (.c (.str [100,114,111,112]))))) .nil))
noncomputable def xK(cz:Nat):Fn:=⟨1,2,(.cons (Bd cz) .nil)⟩
noncomputable def Dr:S:=.set 1 (.lst .nil)
noncomputable def Ds:S:=.set 2 (.c (.int 0))
noncomputable def Dt:S:=.set 3 (.c (.str []))
noncomputable def Du:S:=.set 4 (.c (.str []))
noncomputable def Dv(fh:Nat):Ss:=(.cons (.iff (.cmp .eq (.v 5) (.c (.str [100,114,111,112]))) (.cons (.set 3 (.bin .add (.v 3) (.v 6))) .nil) (.cons (.iff (.cmp .eq (.v 5) (.c (.str [112,117,116]))) (.cons (.set 4 (.bin .add (.v 4) (.v 6))) .nil) (.cons (.iff (.cmp .gt (.v 6) (.c (.int 0))) (.cons (.iff (.orr (.cmp .ne (.v 3) (.c (.str []))) (.cmp .ne (.v 4) (.c (.str [])))) (.cons (.exp (.me .extend (.v 1) (.cons (.cl fh (.cons (.v 2) (.cons (.v 3) (.cons (.v 4) .nil)))) .nil))) (.cons (.set 2 (.c (.int 0))) (.cons (.set 3 (.c (.str []))) (.cons (.set 4 (.c (.str []))) .nil)))) .nil) (.cons (.set 2 (.bin .add (.v 2) (.v 6))) .nil)) .nil) .nil)) .nil)) .nil)
noncomputable def Dw(fh:Nat):S:=.for (.many [5,6]) (.seq (.v 0)) (Dv fh)
noncomputable def Dy(fh:Nat):S:=.exp (.me .extend (.v 1) (.cons (.cl fh (.cons (.v 2) (.cons (.v 3) (.cons (.v 4) .nil)))) .nil))
noncomputable def Dz:S:=.ret (.jg (.v 1))
noncomputable def kW(fh:Nat):Fn:=⟨1,7,(.cons Dr (.cons Ds (.cons Dt (.cons Du (.cons (Dw fh) (.cons (Dy fh) (.cons Dz .nil)))))))⟩
noncomputable def vF:S:=.set 3 (.lst .nil)
noncomputable def vG:S:=.iff (.cmp .gt (.v 0) (.c (.int 0))) (.cons (.exp (.me .append (.v 3) (.cons (.tup (.cons (.c (.str [107,101,101,112])) (.cons (.v 0) .nil))) .nil))) .nil) .nil
noncomputable def oK:S:=.iff (.cmp .ne (.v 1) (.c (.str []))) (.cons (.exp (.me .append (.v 3) (.cons (.tup (.cons (.c (.str [100,114,111,112])) (.cons (.v 1) .nil))) .nil))) .nil) .nil
noncomputable def kH:S:=.iff (.cmp .ne (.v 2) (.c (.str []))) (.cons (.exp (.me .append (.v 3) (.cons (.tup (.cons (.c (.str [112,117,116])) (.cons (.v 2) .nil))) .nil))) .nil) .nil
noncomputable def ja:S:=.ret (.v 3)
noncomputable def fZ:Fn:=⟨3,4,(.cons vF (.cons vG (.cons oK (.cons kH (.cons ja .nil)))))⟩
noncomputable def Be:S:=.set 1 (.lst .nil)
noncomputable def Bf:S:=.set 2 (.lst .nil)
noncomputable def Bg:Ss:=(.cons (.iff (.cmp .eq (.v 3) (.c (.str [107,101,101,112]))) (.cons (.set 2 (.bin .add (.v 2) (.fS (.fR (.cons (.bi .len (.cons (.v 1) .nil)) (.cons (.bin .add (.bi .len (.cons (.v 1) .nil)) (.v 4)) .nil)))))) (.cons (.set 1 (.bin .add (.v 1) (.bin .mul (.lst (.cons (.c (.str [])) .nil)) (.v 4)))) .nil)) (.cons (.iff (.cmp .eq (.v 3) (.c (.str [100,114,111,112]))) (.cons (.set 1 (.bin .add (.v 1) (.fS (.seq (.v 4))))) .nil) (.cons (.set 2 (.bin .add (.v 2) (.fS (.seq (.v 4))))) .nil)) .nil)) .nil)
noncomputable def Bh:S:=.for (.many [3,4]) (.seq (.v 0)) Bg
noncomputable def Bj:S:=.ret (.tup (.cons (.v 1) (.cons (.v 2) .nil)))
noncomputable def HY:Fn:=⟨1,5,(.cons Be (.cons Bf (.cons Bh (.cons Bj .nil))))⟩
noncomputable def Pt.n:Pt->Nat
 |.keep n=>n
 |.put s=>s.length
 |.drop s=>s.length
noncomputable def tot(c:List Pt):Nat:=(c.map Pt.n).sum
theorem iR(a b:List Pt):tot (a++b)=tot a+tot b:=by simp[tot]
theorem bH(p:Pt)(c:List Pt):tot (p :: c)=p.n+tot c:=by simp[tot]
noncomputable def iF:Pt->Bool
 |.put _=>true
 |_=>false
noncomputable def gF:Pt->Bool
 |.drop _=>true
 |_=>false
noncomputable def jl:Pt->Bool
 |.keep _=>true
 |_=>false
noncomputable def aJ(c:List Pt):Nat:=tot (c.filter λp=>!iF p)
noncomputable def ko(c:List Pt):Nat:=tot (c.filter λp=>!gF p)
noncomputable def cst(c:List Pt):Nat:=tot (c.filter λp=>!jl p)
section
variable{F:List Fn}{w n aU i:Nat}
theorem uV(hs:F[i]?=some dU)(p:Pt)(hp:p.n<=100000):run F w (n+1) i [.val p.v]=some (.int p.n,[]):=by
 cases p with
 |keep k=>exact bX hs rfl (ai (aL (b:=true) (aB rfl (aS (cX (aq rfl) (aF rfl) rfl) (aF rfl) iQ) rfl) (λ_=>ai (bS (cX (aq rfl) (aF rfl) rfl) ⟨rfl,rfl⟩)) nofun))
 |put s=>exact bX hs rfl (ai (aL (b:=false) (aB rfl (aS (cX (aq rfl) (aF rfl) rfl) (aF rfl) iQ) rfl) nofun (λ_=>ay (ai (bS (dh (aj (cX (aq rfl) (aF rfl) rfl) az) (len_str hp)) ⟨rfl,rfl⟩)))))
 |drop s=>exact bX hs rfl (ai (aL (b:=false) (aB rfl (aS (cX (aq rfl) (aF rfl) rfl) (aF rfl) iQ) rfl) nofun (λ_=>ay (ai (bS (dh (aj (cX (aq rfl) (aF rfl) rfl) az) (len_str hp)) ⟨rfl,rfl⟩)))))
theorem S5{c:List Pt}{p:Pt}(h:p∈c):p.n<=tot c:=by
 induction c with
 |nil=>simp at h
 |cons q c ih=>
  rw[bH];rcases List.mem_cons.mp h with rfl|h
  .omega
  .have:=ih h;omega
theorem OH(c:List Pt):(c.map λp=>(p.n:Int)).sum=(tot c:Int):=by
 induction c with
 |nil=>rfl
 |cons p c ih=>simp only[List.map_cons,List.sum_cons,ih,bH];omega
theorem HZ{word:List Nat}{pr:Pt->Bool}(hs:F[aU]?=some dU)(hb:F[i]?=some ⟨1,2,.cons (.ret (.bi .sum (.cons (.comp (.cl aU (.cons (.v 1) .nil)) (.one 1) (.seq (.v 0)) (.yes (.cmp .ne (.ix (.v 1) (.c (.int 0))) (.c (.str word))))) .nil))) .nil⟩)
  (hw:∀p:Pt,∃x u,p.v=.tup [.str x,u]/\(!decide (x=word))=pr p) (c:List Pt) (h1:c.length<=10000) (h2:tot c<=100000):run F w (n+2) i [.val (aC c)]=some (.int (tot (c.filter pr)),[]):=by
 refine bX hb rfl (ai (bS (dh (aj (eV (cy (bV rfl) rfl) rfl (jZ (e:=Pt.v) (p:=pr) (g:=λp=>.int p.n) c λp hp=>?_) (cj (bO ?_))) az) ?_) ⟨rfl,rfl⟩))
 .obtain⟨x,u,hx,Vn⟩:=hw p;have hcall:=λfr=>eF (fr:=fr) (uV (w:=w) (n:=n) hs p (Nat.le_trans (S5 hp) h2));rw[hx]at hcall;rw[hx,<-Vn];exact qY rfl (aB rfl (aS (cX (aq rfl) (aF rfl) rfl) (aF rfl) iZ) rfl) λ_=>bB (aI rfl (aq rfl) aO) (hcall _)
 .rw[List.length_map];exact Nat.le_trans (List.length_filter_le _ _) (Nat.le_trans h1 (by decide))
 .rw[Hz,yT (λp:Pt=>(p.n:Int))];show some (V.int _)=_;rw[OH]
theorem lR(hs:F[aU]?=some dU)(hb:F[i]?=some (fY aU))(c:List Pt)(h1:c.length<=10000)(h2:tot c<=100000):run F w (n+2) i [.val (aC c)]=some (.int (aJ c),[]):=
 HZ (pr:=λp=>!iF p) hs hb (λp=>by cases p<;>exact⟨_,_,rfl,rfl⟩) c h1 h2
end
noncomputable def bY(k:Nat)(g w:List Nat):List Pt:=(if 0<k then [.keep k]else [])++(if g=[]then []else [.drop g])++(if w=[]then []else [.put w])
theorem kI(k:Nat)(g w:List Nat):(bY k g w).length<=3:=by unfold bY;split<;>split<;>split<;>simp
theorem oM{F:List Fn}{w n i:Nat}(hs:F[i]?=some fZ)(k:Nat)(g x:List Nat):run F w (n+1) i [.val (.int k),.val (.str g),.val (.str x)]=some (.lst ((bY k g x).map Pt.v),[]):=by
 refine bX hs rfl ?_;refine ai (iE (l:=[]) (by repeat array_get_dec) rfl rfl ?_);have ap:∀(l:List V) (d:V) (fr:Fr) (i:Nat),l.length<=3->fr[i]?=some (some (.own l))->kU .append i [d] fr fr[i]?=.ok .aH (fr.set i (some (.own (l++[d])))):=λl d fr i h e=>by rw[e];exact xH (by omega)
 have fin:∀l:List V,Wp (exs (run F w n) w (.cons ja .nil) [some (.val (.int k)),some (.val (.str g)),some (.val (.str x)),some (.own l)]) λg fr=>g=.ret (.lst l)/\outs 3 fr=[]:=λl=>ai (bS (by repeat array_get_dec) ⟨rfl,rfl⟩);have s3:∀l:List V,l.length<=2->Wp (exs (run F w n) w (.cons kH (.cons ja .nil)) [some (.val (.int k)),some (.val (.str g)),some (.val (.str x)),some (.own l)]) λg fr=>g=.ret (.lst (l++(if x=[]then []else [Pt.put x]).map Pt.v))/\outs 3 fr=[]:=λl hl=>by
  refine ai (aL (by repeat array_get_dec) (λh=>?_) λh=>?_)
  .have hx:x≠[]:=by simpa using h
   refine ai (kj (by (repeat array_get_dec);exact ap _ _ _ _ (by omega) rfl) (ay ?_));rw[if_neg hx];exact fin _
  .have hx:x=[]:=by simpa using h
   refine ay ?_;rw[if_pos hx,List.map_nil,List.append_nil];exact fin _
 have s2:∀l:List V,l.length<=1->Wp (exs (run F w n) w (.cons oK (.cons kH (.cons ja .nil))) [some (.val (.int k)),some (.val (.str g)),some (.val (.str x)),some (.own l)]) λy fr=>y=.ret (.lst (l++((if g=[]then []else [Pt.drop g])++(if x=[]then []else [Pt.put x])).map Pt.v))/\outs 3 fr=[]:=λl hl=>by
  refine ai (aL (by repeat array_get_dec) (λh=>?_) λh=>?_)
  .have hx:g≠[]:=by simpa using h
   refine ai (kj (by (repeat array_get_dec);exact ap _ _ _ _ (by omega) rfl) (ay ?_));rw[if_neg hx,List.map_append,<-List.append_assoc];exact s3 _ (by simp;omega)
  .have hx:g=[]:=by simpa using h
   refine ay ?_;rw[if_pos hx,List.nil_append];exact s3 _ (by omega)
 refine ai (aL (by repeat array_get_dec) (λh=>?_) λh=>?_)
 .have hx:0<k:=by have:=of_decide_eq_true h;omega
  refine ai (kj (by (repeat array_get_dec);exact ap _ _ _ _ (by decide) rfl) (ay ?_));unfold bY;rw[if_pos hx,List.append_assoc];exact s2 _ (Nat.le_refl 1)
 .have hx:¬ 0<k:=by have:=of_decide_eq_false h;omega
  refine ay ?_;unfold bY;rw[if_neg hx];exact s2 _ (by decide)
abbrev FS:=List Pt×Nat×List Nat×List Nat
noncomputable def bI(st:FS):Pt->FS
 |.drop s=>(st.1,st.2.1,st.2.2.1++s,st.2.2.2)
 |.put s=>(st.1,st.2.1,st.2.2.1,st.2.2.2++s)
 |.keep k=>if 0<k then (if st.2.2.1=[]/\st.2.2.2=[]then (st.1,st.2.1+k,[],[])else (st.1++bY st.2.1 st.2.2.1 st.2.2.2,k,[],[]))else st
noncomputable def eW:FS:=([],0,[],[])
noncomputable def cZ(st:FS):List Pt:=st.1++bY st.2.1 st.2.2.1 st.2.2.2
noncomputable def aP(c:List Pt):List Pt:=cZ (c.foldl bI eW)
theorem Ia(p:List Pt)(a:Pt):(p++[a]).foldl bI eW=bI (p.foldl bI eW) a:=by simp
theorem uW(c:List Pt):∀st:FS,(c.foldl bI st).1.length<=st.1.length+3*c.length/\(c.foldl bI st).2.2.1.length<=st.2.2.1.length+tot c/\(c.foldl bI st).2.2.2.length<=st.2.2.2.length+tot c:=by
 induction c with
 |nil=>intro st;simp[tot]
 |cons p c ih=>
  intro st;have h:=ih (bI st p);have h2:(bI st p).1.length<=st.1.length+3/\(bI st p).2.2.1.length<=st.2.2.1.length+p.n/\(bI st p).2.2.2.length<=st.2.2.2.length+p.n:=by
   have:=kI st.2.1 st.2.2.1 st.2.2.2;cases p with
   |drop s=>simp[bI,Pt.n]
   |put s=>simp[bI,Pt.n]
   |keep k=>
    simp only[bI];split
    .split
     .simp
     .simp;omega
    .simp
  simp only[List.foldl_cons,List.length_cons,bH];omega
theorem o6{F:List Fn}{w n bC i:Nat}(hs:F[bC]?=some fZ)(hf:F[i]?=some (kW bC))(c:List Pt)(h1:c.length<=10000)(h2:tot c<=10000):run F w (n+2) i [.val (aC c)]=some (aC (aP c),[]):=by
 refine bX hf rfl ?_;refine ai (iE (l:=[]) (by repeat array_get_dec) rfl rfl ?_);refine ai (aW (by repeat array_get_dec) rfl rfl ?_);refine ai (aW (by repeat array_get_dec) rfl rfl ?_);refine ai (aW (by repeat array_get_dec) rfl rfl ?_);refine ai (gn (vs:=c.map Pt.v) (cy (bV rfl) rfl) ?_);have ext:∀(st:FS) (fr:Fr),st.1.length<=30010->kU .extend 1 [.lst ((bY st.2.1 st.2.2.1 st.2.2.2).map Pt.v)] fr (some (some (.own (st.1.map Pt.v))))=.ok .aH (fr.set 1 (some (.own ((cZ st).map Pt.v)))):=λst fr h=>by
  have:=kI st.2.1 st.2.2.1 st.2.2.2;unfold cZ;rw[List.map_append];exact HU (by simp;omega)
 refine dj (e:=Pt.v) (λp l fr=>p++l=c/\∃a b,vo a/\vo b/\fr=[some (.val (aC c)),some (.own ((p.foldl bI eW).1.map Pt.v)),some (.val (.int (p.foldl bI eW).2.1)),some (.val (.str (p.foldl bI eW).2.2.1)),some (.val (.str (p.foldl bI eW).2.2.2)),a,b]) (λp x l fr ⟨hpl,a,b,ha,hb,hfr⟩=>?_) (λp fr ⟨hpl,a,b,ha,hb,hfr⟩=>?_) c [] _ ⟨rfl,none,none,.none,.none,rfl⟩
 .subst hfr;obtain⟨b1,b2,b3⟩:=uW p eW;have hlen:p.length+l.length+1=c.length:=by rw[<-hpl];simp;omega
  have lS:tot p+x.n+tot l=tot c:=by rw[<-hpl,iR,bH];omega
  rw[Ia];have eN:(p++[x])++l=c:=by simpa using hpl
  generalize p.foldl bI eW=st at *
  simp[eW]at b1 b2 b3;have rs:=λfr=>fH (fr:=fr) (oM (w:=w) (n:=n) hs st.2.1 st.2.2.1 st.2.2.2);have ex:=λfr=>ext st fr (by omega);cases x with
  |drop s=>
   have hs:s.length<=tot c:=by simp only[Pt.n]at lS;omega
   have ad:=fG (a:=st.2.2.1) (b:=s) (by omega);refine b5 (eT rfl ha rfl hb) (ai (aL (by repeat array_get_dec) (λ_=>?_) λh=>absurd h (by decide)));refine ai (aW (by repeat array_get_dec) rfl rfl (ay (ay ?_)));rw[cH];exact⟨eN,_,_,.val,.val,rfl⟩
  |put s=>
   have hs:s.length<=tot c:=by simp only[Pt.n]at lS;omega
   have ad:=fG (a:=st.2.2.2) (b:=s) (by omega);refine b5 (eT rfl ha rfl hb) (ai (aL (by repeat array_get_dec) (λh=>absurd h (by decide)) λ_=>?_));refine ai (aL (by repeat array_get_dec) (λ_=>?_) λh=>absurd h (by decide));refine ai (aW (by repeat array_get_dec) rfl rfl (ay (ay (ay ?_))));rw[cH];exact⟨eN,_,_,.val,.val,rfl⟩
  |keep k=>
   refine b5 (eT rfl ha rfl hb) (ai (aL (by repeat array_get_dec) (λh=>absurd h (by decide)) λ_=>?_));refine ai (aL (by repeat array_get_dec) (λh=>absurd h (by decide)) λ_=>?_);refine ai (aL (by repeat array_get_dec) (λh=>?_) λh=>?_)
   .have hk:0<k:=by have:=of_decide_eq_true h;omega
    by_cases hg:st.2.2.1=[]/\st.2.2.2=[]
    .have n1:cop .ne (.str st.2.2.1) (.str [])=some false:=by rw[iZ,hg.1];rfl
     have n2:cop .ne (.str st.2.2.2) (.str [])=some false:=by rw[iZ,hg.2];rfl
     refine ai (aL (b:=false) (qa (aB rfl (by repeat array_get_dec) rfl) (aB rfl (by repeat array_get_dec) rfl)) (λh=>absurd h (by decide)) λ_=>ay ?_);refine ai (aW (by repeat array_get_dec) rfl rfl (ay (ay (ay (ay ?_)))));rw[cH];refine⟨eN,some (.val (.str eK)),some (.val (.int k)),.val,.val,?_⟩;simp only[bI,if_pos hk,if_pos hg];rw[hg.1,hg.2];rfl
    .have tt:aK (run F w (n+1)) (.orr (.cmp .ne (.v 3) (.c (.str []))) (.cmp .ne (.v 4) (.c (.str [])))) [some (.val (aC c)),some (.own (st.1.map Pt.v)),some (.val (.int st.2.1)),some (.val (.str st.2.2.1)),some (.val (.str st.2.2.2)),some (.val (.str eK)),some (.val (.int k))]=.ok true [some (.val (aC c)),some (.own (st.1.map Pt.v)),some (.val (.int st.2.1)),some (.val (.str st.2.2.1)),some (.val (.str st.2.2.2)),some (.val (.str eK)),some (.val (.int k))]:=by
      by_cases h3:st.2.2.1=[]
      .have h4:¬ st.2.2.2=[]:=λz=>hg ⟨h3,z⟩;have n1:cop .ne (.str st.2.2.1) (.str [])=some false:=by rw[iZ,h3];rfl
       have n2:cop .ne (.str st.2.2.2) (.str [])=some true:=by rw[iZ,decide_eq_false h4];rfl
       exact qa (aB rfl (by repeat array_get_dec) rfl) (aB rfl (by repeat array_get_dec) rfl)
      .have n1:cop .ne (.str st.2.2.1) (.str [])=some true:=by rw[iZ,decide_eq_false h3];rfl
       exact L4 (aB rfl (by repeat array_get_dec) rfl)
     refine ai (aL tt (λ_=>?_) λh=>absurd h (by decide));refine ai (kj (by (repeat (first|array_get_dec|exact rs _|exact ex _))) ?_);refine ai (aW (by repeat array_get_dec) rfl rfl ?_);refine ai (aW (by repeat array_get_dec) rfl rfl ?_);refine ai (aW (by repeat array_get_dec) rfl rfl (ay ?_));refine ai (aW (by repeat array_get_dec) rfl rfl (ay (ay (ay (ay ?_)))));rw[cH];refine⟨eN,some (.val (.str eK)),some (.val (.int k)),.val,.val,?_⟩;simp only[bI,if_pos hk,if_neg hg];rw[Int.zero_add];rfl
   .have hk:¬ 0<k:=by have:=of_decide_eq_false h;omega
    refine ay (ay (ay (ay ?_)));rw[cH];refine⟨eN,some (.val (.str eK)),some (.val (.int k)),.val,.val,?_⟩;simp only[bI,if_neg hk];rfl
 .subst hfr;simp at hpl;subst hpl;obtain⟨b1,b2,b3⟩:=uW p eW;have e:aP p=cZ (p.foldl bI eW):=rfl;rw[e];generalize p.foldl bI eW=st at *
  simp[eW]at b1 b2 b3;have sl:=kI st.2.1 st.2.2.1 st.2.2.2;have rs:=λfr=>fH (fr:=fr) (oM (w:=w) (n:=n) hs st.2.1 st.2.2.1 st.2.2.2);have ex:=λfr=>ext st fr (by omega);have mk:toT (.lst ((cZ st).map Pt.v))=some (aC (cZ st)):=by rw[HA];exact jj (bO (by simp[cZ];omega))
  refine ai (kj (by (repeat (first|array_get_dec|exact rs _|exact ex _))) ?_);exact ai (bS (pZ (aq rfl) mk) ⟨rfl,rfl⟩)
end Pv
namespace Pv
open Ev (D bQ bK TY BI ME T E Es Eo It S Ss Fn big deep b2i rep cA di bM aV cut cL dY slots)
noncomputable def lv(o:Option Sl)(l:List V):Prop:=o=some (.own l)\/o=some (.val (.lst l))
section
variable{o:Option Sl}{l:List V}{fr:Fr}{i:Nat}{s:Sl}
theorem lv.own:lv (some (.own l)) l:=.inl rfl
theorem lv.val:lv (some (.val (.lst l))) l:=.inr rfl
theorem Mc(h:lv o l):A5 true (some o)=some (.lst l):=by rcases h with rfl|rfl<;>simp
theorem Me(h:lv o l):xG fr i s (some o)=some (fr.set i (some s)):=by rcases h with rfl|rfl<;>simp
theorem xN(h:lv o l):o.map Sl.dg=some (.val (.lst l)):=by rcases h with rfl|rfl<;>simp
end
theorem qZ{P:aR}{fr:Fr}{i:Nat}{k:Bool}{o:Option Sl}{l:List V}(hk:k=true)(e:fr[i]?=some o)(h:lv o l):ev P k (.v i) fr=.ok (.lst l) fr:=by
 subst hk;exact aq (by rw[HQ,e,Mc h])
theorem qc{fr:Fr}{i:Nat}{s:Sl}{o:Option Sl}{l:List V}(e:fr[i]?=some o)(h:lv o l):put fr i s=some (fr.set i (some s)):=by rw[A6,e,Me h]
inductive Tq where
 |at (i:Nat)|sg (c:Nat)
deriving DecidableEq
noncomputable def Tq.v:Tq->V
 |.at i=>.int i
 |.sg c=>.str [c]
theorem Bk(n:Nat)(a b:Tq):cC (n+1) a.v b.v=some (decide (a=b)):=by
 cases a<;>cases b<;>simp[Tq.v]
 all_goals omega
noncomputable def Pt.asks:Pt->List (List Nat)
 |.keep n=>List.replicate n []
 |.drop s=>s.map λc=>[c]
 |.put _=>[]
noncomputable def asks(c:List Pt):List (List Nat):=c.flatMap Pt.asks
noncomputable def Pt.told(k:Nat):Pt->List Tq
 |.keep n=>(List.range n).map λj=>.at (k+j)
 |.drop _=>[]
 |.put s=>s.map .sg
noncomputable def told(k:Nat):List Pt->List Tq
 |[]=>[]
 |p :: c=>p.told k++told (k+p.asks.length) c
theorem gb(a b:List Pt):asks (a++b)=asks a++asks b:=by simp[asks]
theorem gc(a b:List Pt):∀k,told k (a++b)=told k a++told (k+(asks a).length) b:=by
 induction a with
 |nil=>intro k;simp[told,asks]
 |cons p a ih=>
  intro k;simp only[List.cons_append,told,ih,List.append_assoc]
  congr 3
  simp[asks];omega
theorem DA(p:Pt):p.asks.length<=p.n:=by cases p<;>simp[Pt.asks,Pt.n]
theorem DB(k:Nat)(p:Pt):(p.told k).length<=p.n:=by cases p<;>simp[Pt.told,Pt.n]
theorem jJ(c:List Pt):(asks c).length<=tot c:=by
 induction c with
 |nil=>simp[asks]
 |cons p c ih=>have:=DA p;simp only[asks,List.flatMap_cons,List.length_append,bH]at *;omega
theorem xO(c:List Pt):∀k,(told k c).length<=tot c:=by
 induction c with
 |nil=>intro k;simp[told]
 |cons p c ih=>intro k;have:=DB k p;have:=ih (k+p.asks.length);simp only[told,List.length_append,bH];omega
noncomputable def bg(c:List Pt):List V:=(asks c).map V.str
noncomputable def dG(c:List Pt):List V:=(told 0 c).map Tq.v
noncomputable def iG(c:List Pt):List (List Nat)×List Tq:=(asks c,told 0 c)
noncomputable def ez(c:List Pt):V:=.tup [.lst (bg c),.lst (dG c)]
theorem Ib(a b:List Pt):cC deep (ez a) (ez b)=some (decide (iG a=iG b)):=by
 have h1:=jI (f:=cC (17+1)) (g:=V.str) (λa b=>A1) (asks a) (asks b);have h2:=jI (f:=cC (17+1)) (g:=Tq.v) (λa b=>Bk 17 a b) (told 0 a) (told 0 b);simp[ez,iG,bg,dG,h1,h2]
theorem OI{i j:Int}{n:Nat}(h0:0<=i)(h1:i<=50000)(h2:n<=50000)(e:j=i+n):dO [.int i,.int j]=some (range i n):=by
 rw[SJ (by omega) (by omega) (by omega) (by omega)]
 congr 2
 omega
theorem Ic{α:Type}(n:Nat)(a:α):rep n [a]=List.replicate n a:=by
 induction n with
 |zero=>rfl
 |succ n ih=>simp only[rep,List.replicate_succ,List.flatten_cons]at ih ⊢;rw[ih];rfl
theorem Bm{F:List Fn}{w n i:Nat}(hs:F[i]?=some HY)(c:List Pt)(h1:tot c<=1000):run F w (n+1) i [.val (aC c)]=some (ez c,[]):=by
 refine bX hs rfl ?_;refine ai (iE (l:=[]) (by repeat array_get_dec) rfl rfl ?_);refine ai (iE (l:=[]) (by repeat array_get_dec) rfl rfl ?_);refine ai (gn (vs:=c.map Pt.v) (cy (bV rfl) rfl) ?_);refine dj (e:=Pt.v) (λp l fr=>p++l=c/\∃o1 o2 a b,lv o1 (bg p)/\lv o2 (dG p)/\vo a/\vo b/\fr=[some (.val (aC c)),o1,o2,a,b]) (λp x l fr ⟨hpl,o1,o2,a,b,qd,h2',ha,hb,hfr⟩=>?_) (λp fr ⟨hpl,o1,o2,a,b,qd,h2',ha,hb,hfr⟩=>?_) c [] _ ⟨rfl,_,_,none,none,.own,.own,.none,.none,rfl⟩
 .subst hfr;have eN:(p++[x])++l=c:=by simpa using hpl
  have lS:tot p+x.n+tot l=tot c:=by rw[<-hpl,iR,bH];omega
  have lA:(bg p).length<=tot p:=by rw[bg,List.length_map];exact jJ p
  have lT:(dG p).length<=tot p:=by rw[dG,List.length_map];exact xO p 0
  have hA:bg (p++[x])=bg p++x.asks.map V.str:=by simp[bg,asks]
  have hT:dG (p++[x])=dG p++(x.told (bg p).length).map Tq.v:=by simp[dG,gc,told,bg]
  cases x with
  |drop s=>
   have hs:s.length<=1000:=by simp only[Pt.n]at lS;omega
   have ad:=gM (x:=bg p) (y:=s.map λc=>V.str [c]) (by simp;omega);have hd:bg (p++[.drop s])=bg p++s.map λc=>V.str [c]:=by rw[hA];simp[Pt.asks]
   have ht:dG (p++[.drop s])=dG p:=by rw[hT];simp[Pt.told]
   have mk:=cj (x:=s.map λc=>V.str [c]) (bO (by simp;omega));refine b5 (eT rfl ha rfl hb) (ai (aL (by repeat array_get_dec) (λh=>absurd h (by decide)) λ_=>?_));refine ai (aL (by repeat array_get_dec) (λ_=>?_) λh=>absurd h (by decide));refine ai (aW (bf (qZ rfl rfl qd) (pY (cy (bV rfl) rfl) mk) ad) rfl (qc rfl qd) (ay (ay (ay ?_))));rw[cH,hd,ht];exact⟨eN,_,o2,_,_,.val,h2',.val,.val,rfl⟩
  |put s=>
   have hs:s.length<=1000:=by simp only[Pt.n]at lS;omega
   have ad:=gM (x:=dG p) (y:=s.map λc=>V.str [c]) (by simp;omega);have hd:dG (p++[.put s])=dG p++s.map λc=>V.str [c]:=by rw[hT];simp[Pt.told,Tq.v]
   have ht:bg (p++[.put s])=bg p:=by rw[hA];simp[Pt.asks]
   have mk:=cj (x:=s.map λc=>V.str [c]) (bO (by simp;omega));refine b5 (eT rfl ha rfl hb) (ai (aL (by repeat array_get_dec) (λh=>absurd h (by decide)) λ_=>?_));refine ai (aL (by repeat array_get_dec) (λh=>absurd h (by decide)) λ_=>?_);refine ai (aW (bf (qZ rfl rfl h2') (pY (cy (bV rfl) rfl) mk) ad) rfl (qc rfl h2') (ay (ay (ay ?_))));rw[cH,hd,ht];exact⟨eN,o1,_,_,_,qd,.val,.val,.val,rfl⟩
  |keep k=>
   have hs:k<=1000:=by simp only[Pt.n]at lS;omega
   have rg:=OI (i:=((bg p).length:Int)) (j:=((bg p).length:Int)+k) (n:=k) (by omega) (by omega) (by omega) rfl;have mk:=cj (x:=range ((bg p).length:Int) k) (bO (by simp[range];omega));have ad:=gM (x:=dG p) (y:=range ((bg p).length:Int) k) (by simp[range];omega);have ml:=C8 (x:=[V.str []]) (j:=(k:Int)) (by omega) (by omega) (by simp) (by simp[rep];omega);have Vo:=gM (x:=bg p) (y:=rep (k:Int).toNat [V.str []]) (by simp[rep];omega);have hd:dG (p++[.keep k])=dG p++range ((bg p).length:Int) k:=by rw[hT];simp[Pt.told,Tq.v,range]
   have ht:bg (p++[.keep k])=bg p++rep (k:Int).toNat [V.str []]:=by rw[hA,Ic];simp[Pt.asks]
   refine b5 (eT rfl ha rfl hb) (ai (aL (by repeat array_get_dec) (λ_=>?_) λh=>absurd h (by decide)));have le:cS .len [.lst (bg p)]=some (.int ((bg p).length:Nat)):=nV;refine ai (aW (bf (qZ rfl rfl h2') (pY (qb (vs:=[.int ((bg p).length:Nat),.int (((bg p).length:Nat)+(k:Int))]) (aj (dh (aj (qZ rfl rfl qd) az) le) (aj (bf (dh (aj (qZ rfl rfl qd) az) le) (aq rfl) cJ) az)) rg) mk) ad) rfl (qc rfl h2') ?_);refine ai (aW (bf (qZ rfl rfl qd) (bf (fQ (aj (aF rfl) az) yS) (aq rfl) ml) Vo) rfl (qc rfl qd) (ay (ay ?_)));rw[cH,hd,ht];exact⟨eN,_,_,_,_,.val,.val,.val,.val,rfl⟩
 .subst hfr;simp at hpl;subst hpl;have sh:fF [some (.val (aC p)),o1,o2,a,b]=[some (.val (aC p)),some (.val (.lst (bg p))),some (.val (.lst (dG p))),a,b]:=by
   show _ :: o1.map Sl.dg :: o2.map Sl.dg :: a.map Sl.dg :: [b.map Sl.dg]=_;rw[xN qd,xN h2',dm ha,dm hb];rfl
  refine ai (bS (v:=ez p) (af:=[some (.val (aC p)),some (.val (.lst (bg p))),some (.val (.lst (dG p))),a,b]) ?_ ⟨rfl,rfl⟩);rw[sh];exact bN (aj (aq rfl) (aj (aq rfl) az)) b8
noncomputable def Pt.word:Pt->List Nat
 |.keep _=>eK
 |.put _=>lO
 |.drop _=>jF
noncomputable def qe(a b:List Nat):Bool:=!(decide (a=b) || (decide (a=lO)&&decide (b=jF)))
noncomputable def kJ:List (List Nat)->Bool
 |a :: b :: r=>qe a b&&kJ (b :: r)
 |_=>true
noncomputable def Mf(p:Pt):Bool:=p.n != 0
noncomputable def kX(c:List Pt):Bool:=kJ (c.map Pt.word)&&c.all Mf
theorem eX(k:Nat)(g x:List Nat):asks (bY k g x)=List.replicate k []++g.map λc=>[c]:=by
  unfold bY;by_cases hk:0<k<;>by_cases hg:g=[]<;>by_cases hx:x=[]<;>simp[hk,hg,hx,asks,Pt.asks]
  all_goals (have:k=0:=by omega
             subst this;simp)
theorem iH(k:Nat)(g x:List Nat)(j:Nat):told j (bY k g x)=(List.range k).map (λi=>Tq.at (j+i))++x.map Tq.sg:=by
  unfold bY;by_cases hk:0<k<;>by_cases hg:g=[]<;>by_cases hx:x=[]<;>simp[hk,hg,hx,told,Pt.told,Pt.asks]
  all_goals (have:k=0:=by omega
             subst this;simp)
theorem zf(st:FS)(p:Pt):asks (cZ (bI st p))=asks (cZ st++[p])/\∀j,told j (cZ (bI st p))=told j (cZ st++[p]):=by
 obtain⟨ps,k,g,x⟩:=st;have e1:∀a:List Pt,asks (a++[p])=asks a++p.asks:=λa=>by simp[asks]
 have e2:∀(a:List Pt) j,told j (a++[p])=told j a++p.told (j+(asks a).length):=λa j=>by simp[gc,told]
 rw[e1];cases p with
 |drop s=>
  refine⟨by simp[bI,cZ,gb,eX,Pt.asks],λj=>?_⟩;rw[e2];simp[bI,cZ,gc,iH,Pt.told]
 |put s=>
  refine⟨by simp[bI,cZ,gb,eX,Pt.asks],λj=>?_⟩;rw[e2];simp[bI,cZ,gc,iH,Pt.told]
 |keep m=>
  simp only[bI];split
  .split
   .rename_i h;obtain⟨rfl,rfl⟩:=h;refine⟨by simp[cZ,gb,eX,Pt.asks],λj=>?_⟩;rw[e2];simp[cZ,gb,gc,iH,eX,Pt.told,List.range_add,Nat.add_assoc]
   .refine⟨by simp[cZ,gb,eX,Pt.asks],λj=>?_⟩;rw[e2];simp[cZ,gb,gc,iH,eX,Pt.told,Nat.add_assoc]
  .rename_i h;have:m=0:=by omega
   subst this;refine⟨by simp[Pt.asks],λj=>?_⟩;rw[e2];simp[Pt.told]
theorem qf(c:List Pt):∀st:FS,asks (cZ (c.foldl bI st))=asks (cZ st++c)/\∀j,told j (cZ (c.foldl bI st))=told j (cZ st++c):=by
 induction c with
 |nil=>intro st;simp
 |cons p c ih=>
  intro st;obtain⟨h1,h2⟩:=ih (bI st p);obtain⟨h3,h4⟩:=zf st p;simp only[List.foldl_cons];have e:cZ st++p :: c=(cZ st++[p])++c:=by simp
  refine⟨?_,λj=>?_⟩
  .rw[h1,e,gb,gb _ c,h3]
  .rw[h2 j,e,gc,gc _ c,h4 j,h3]
theorem ny(c:List Pt):asks (aP c)=asks c:=by
 have:=(qf c eW).1;simpa[aP,eW,cZ,bY]using this
theorem kq(c:List Pt)(j:Nat):told j (aP c)=told j c:=by
 have:=(qf c eW).2 j;simpa[aP,eW,cZ,bY]using this
theorem lU(c:List Pt):iG (aP c)=iG c:=by simp[iG,ny,kq]
noncomputable def kps(c:List Pt):Nat:=tot (c.filter jl)
theorem dW(c:List Pt):(asks c).length=aJ c:=by
 induction c with
 |nil=>rfl
 |cons p c ih=>cases p<;>simp[asks,aJ,tot,iF,Pt.asks,Pt.n]at ih ⊢<;>omega
theorem uX(c:List Pt):∀j,(told j c).length=ko c:=by
 induction c with
 |nil=>intro j;rfl
 |cons p c ih=>intro j;cases p<;>simp[told,ko,tot,gF,Pt.told,Pt.n,ih]at ih ⊢
theorem lV(n:Nat)(c:List Pt):aJ (.keep n :: c)=n+aJ c:=by simp[aJ,tot,iF,Pt.n]
theorem nY(s:List Nat)(c:List Pt):aJ (.drop s :: c)=s.length+aJ c:=by simp[aJ,tot,iF,Pt.n]
theorem lW(s:List Nat)(c:List Pt):aJ (.put s :: c)=aJ c:=by simp[aJ,tot,iF,Pt.n]
theorem OJ(n:Nat)(c:List Pt):ko (.keep n :: c)=n+ko c:=by simp[ko,tot,gF,Pt.n]
theorem OL(s:List Nat)(c:List Pt):ko (.drop s :: c)=ko c:=by simp[ko,tot,gF,Pt.n]
theorem OM(s:List Nat)(c:List Pt):ko (.put s :: c)=s.length+ko c:=by simp[ko,tot,gF,Pt.n]
theorem ON(n:Nat)(c:List Pt):kps (.keep n :: c)=n+kps c:=by simp[kps,tot,List.filter_cons,jl,Pt.n]
theorem OO(s:List Nat)(c:List Pt):kps (.drop s :: c)=kps c:=by simp[kps,tot,jl,Pt.n]
theorem OP(s:List Nat)(c:List Pt):kps (.put s :: c)=kps c:=by simp[kps,tot,jl,Pt.n]
noncomputable def isAt:Tq->Bool
 |.at _=>true
 |_=>false
theorem Bo(c:List Pt):∀j,((told j c).filter isAt).length=kps c:=by
 induction c with
 |nil=>intro j;rfl
 |cons p c ih=>
  intro j;have e1:∀(m:Nat) (f:Nat->Nat),(((List.range m).map λi=>Tq.at (f i)).filter isAt).length=m:=λm f=>by
   rw[List.filter_eq_self.mpr]
   .simp
   .intro a ha;obtain⟨i,_,rfl⟩:=List.mem_map.mp ha;rfl
  have e2:∀s:List Nat,((s.map Tq.sg).filter isAt).length=0:=λs=>by
   rw[List.filter_eq_nil_iff.mpr]
   .rfl
   .intro a ha;obtain⟨i,_,rfl⟩:=List.mem_map.mp ha;simp[isAt]
  cases p with
  |keep m=>simp only[told,Pt.told,List.filter_append,List.length_append,e1,ih,kps,tot,jl,List.filter_cons,if_true,List.map_cons,List.sum_cons,Pt.n]
  |put s=>simp only[told,Pt.told,List.filter_append,List.length_append,e2,ih,kps,jl,List.filter_cons];simp
  |drop s=>simp only[told,Pt.told,List.filter_append,List.length_append,ih,kps,jl,List.filter_cons];simp
theorem Bp(c:List Pt):tot c+kps c=aJ c+ko c:=by
 induction c with
 |nil=>rfl
 |cons p c ih=>cases p<;>simp only[bH,Pt.n,lV,nY,lW,OJ,OL,OM,ON,OO,OP]<;>omega
theorem DC(c:List Pt):aJ (aP c)=aJ c:=by rw[<-dW,<-dW,ny]
theorem DE(c:List Pt):ko (aP c)=ko c:=by rw[<-uX _ 0,<-uX _ 0,kq]
theorem DF(c:List Pt):kps (aP c)=kps c:=by rw[<-Bo _ 0,<-Bo _ 0,kq]
theorem uY(c:List Pt):tot (aP c)=tot c:=by
 have h1:=Bp (aP c);have h2:=Bp c;rw[DC,DE,DF]at h1;omega
theorem xP:∀(a:List (List Nat)) (b:List (List Nat)),kJ (a++b)=true↔kJ a=true/\kJ b=true/\∀x∈a.getLast?,∀y∈b.head?,qe x y=true
 |[],b=>by simp[kJ]
 |[x],[]=>by simp[kJ]
 |[x],y :: b=>by simp[kJ,and_comm]
 |x :: y :: a,b=>by
  have:=xP (y :: a) b;simp only[List.cons_append]at this ⊢;simp only[kJ,Bool.and_eq_true,this,List.getLast?_cons_cons];constructor
  .rintro⟨h1,h2,h3,h4⟩;exact⟨⟨h1,h2⟩,h3,h4⟩
  .rintro⟨⟨h1,h2⟩,h3,h4⟩;exact⟨h1,h2,h3,h4⟩
theorem vH(k:Nat)(g x:List Nat):kX (bY k g x)=true:=by
 unfold bY;by_cases hk:0<k<;>by_cases hg:g=[]<;>by_cases hx:x=[]<;>simp[hk,hg,hx,kX,Mf,kJ,qe,Pt.word,Pt.n,eK,lO,jF]
 all_goals omega
noncomputable def uZ(st:FS):Prop:=kX st.1=true/\(st.1≠[]->0<st.2.1)/\∀p∈st.1.getLast?,p.word≠eK
theorem Ie{a b:List Pt}(ha:kX a=true)(hb:kX b=true)(h:∀p∈a.getLast?,∀q∈b.head?,qe p.word q.word=true):kX (a++b)=true:=by
 simp only[kX,Bool.and_eq_true]at ha hb ⊢;refine⟨?_,by rw[List.all_append,ha.2,hb.2];rfl⟩;rw[List.map_append,xP];refine⟨ha.1,hb.1,λx hx y hy=>?_⟩;simp at hx hy;obtain⟨p,hp,rfl⟩:=hx;obtain⟨q,hq,rfl⟩:=hy;exact h p hp q hq
theorem u0{k:Nat}{g x:List Nat}(hk:0<k):(bY k g x).head?=some (.keep k):=by simp[bY,hk]
theorem Ig{w:List Nat}(h:w≠eK)(hw:w=lO\/w=jF):qe w eK=true:=by
 rcases hw with rfl|rfl<;>decide
theorem Ih(p:Pt):p.word=eK\/p.word=lO\/p.word=jF:=by cases p<;>simp[Pt.word]
theorem u5{st:FS}(h:uZ st):kX (cZ st)=true:=by
 refine Ie h.1 (vH _ _ _) λp hp q hq=>?_;have hne:st.1≠[]:=by intro z;rw[z]at hp;simp at hp
 rw[u0 (h.2.1 hne)]at hq;simp at hq;subst hq;have hw:=h.2.2 p hp;exact Ig hw ((Ih p).resolve_left hw)
theorem u6{k:Nat}{g x:List Nat}(h:¬ (g=[]/\x=[])):∀p∈(bY k g x).getLast?,p.word≠eK:=by
 unfold bY;by_cases hx:x=[]
 .have hg:g≠[]:=λz=>h ⟨z,hx⟩;intro p hp;simp[hg,hx]at hp;subst hp;simp[Pt.word,jF,eK]
 .intro p hp;simp[hx]at hp;subst hp;simp[Pt.word,lO,eK]
theorem Bq{st:FS}(h:uZ st)(p:Pt):uZ (bI st p):=by
 cases p with
 |drop s=>exact h
 |put s=>exact h
 |keep k=>
  simp only[bI];split
  .rename_i hk;split
   .exact⟨h.1,λz=>by simp;omega,h.2.2⟩
   .rename_i QU;refine⟨u5 h,λ_=>hk,λp hp=>?_⟩;rw[List.getLast?_append]at hp;cases z:(bY st.2.1 st.2.2.1 st.2.2.2).getLast? with
    |none=>
     exfalso;rw[List.getLast?_eq_none_iff]at z;unfold bY at z;by_cases hx:st.2.2.2=[]<;>by_cases hg:st.2.2.1=[]<;>simp[hx,hg]at z QU
    |some q=>
     rw[z]at hp;simp at hp;subst hp;exact u6 QU q z
  .exact h
theorem u7(c:List Pt):kX (aP c)=true:=by
 have:∀(c:List Pt) (st:FS),uZ st->uZ (c.foldl bI st):=λc=>by
  induction c with
  |nil=>exact λst h=>h
  |cons p c ih=>exact λst h=>ih _ (Bq h p)
 exact u5 (this c eW ⟨rfl,λz=>absurd rfl z,λp hp=>by simp[eW]at hp⟩)
end Pv
namespace Pv
open Ev (D bQ bK TY BI ME T E Es Eo It S Ss Fn big deep b2i rep cA di bM aV cut cL dY slots)
abbrev Bl:=List Nat×List Nat
abbrev BS:=List Bl×Bl
noncomputable def dZ(st:BS):Pt->BS
 |.drop s=>(st.1,(st.2.1++s,st.2.2))
 |.put s=>(st.1,(st.2.1,st.2.2++s))
 |.keep 0=>st
 |.keep (n+1)=>(st.1++st.2 :: List.replicate n ([],[]),([],[]))
noncomputable def oN:BS:=([],([],[]))
noncomputable def blocks(c:List Pt):BS:=c.foldl dZ oN
noncomputable def kY(st:List Pt×Nat)(b:Bl):List Pt×Nat:=if b.1=[]/\b.2=[]then (st.1,st.2+1)else (st.1++bY st.2 b.1 b.2,1)
noncomputable def pk(bs:List Bl):List Pt×Nat:=bs.foldl kY ([],0)
theorem DG(n:Nat):∀st:List Pt×Nat,(List.replicate n (([],[]):Bl)).foldl kY st=(st.1,st.2+n):=by
 induction n with
 |zero=>intro st;simp
 |succ n ih=>intro st;simp[List.replicate_succ,kY,ih];omega
noncomputable def xQ(st:BS):FS:=((pk st.1).1,(pk st.1).2,st.2.1,st.2.2)
theorem DH(st:BS)(p:Pt):bI (xQ st) p=xQ (dZ st p):=by
 obtain⟨bs,g,x⟩:=st;cases p with
 |drop s=>rfl
 |put s=>rfl
 |keep n=>
  cases n with
  |zero=>rfl
  |succ n=>
   have e:pk (bs++(g,x) :: List.replicate n ([],[]))=((kY (pk bs) (g,x)).1,(kY (pk bs) (g,x)).2+n):=by
    simp only[pk,List.foldl_append,List.foldl_cons,DG]
   simp only[xQ,dZ,e,bI,Nat.succ_pos,if_true,kY];by_cases h:g=[]/\x=[]
   .simp[h];omega
   .simp[h];omega
theorem DI(c:List Pt):∀st:BS,c.foldl bI (xQ st)=xQ (c.foldl dZ st):=by
 induction c with
 |nil=>intro st;rfl
 |cons p c ih=>intro st;simp only[List.foldl_cons,DH,ih]
theorem jb(c:List Pt):aP c=cZ (xQ (blocks c)):=by
 unfold aP blocks;rw[<-DI];rfl
noncomputable def Br(st:List (List Nat)×List Nat):List Nat->List (List Nat)×List Nat
 |[]=>(st.1++[st.2],[])
 |c :: _=>(st.1,st.2++[c])
noncomputable def spT(st:List (List Nat)×List Nat):Tq->List (List Nat)×List Nat
 |.at _=>(st.1++[st.2],[])
 |.sg c=>(st.1,st.2++[c])
theorem Bs(s:List Nat):∀st,(s.map λc=>[c]).foldl Br st=(st.1,st.2++s):=by
 induction s with
 |nil=>intro st;simp
 |cons c s ih=>intro st;simp[Br,ih]
theorem DJ(n:Nat):∀st,(List.replicate n []).foldl Br st=if n=0 then st else (st.1++st.2 :: List.replicate (n - 1) [],[]):=by
 induction n with
 |zero=>intro st;rfl
 |succ n ih=>
  intro st;simp only[List.replicate_succ,List.foldl_cons,Br,ih];cases n with
  |zero=>simp
  |succ n=>simp[List.replicate_succ]
theorem Bt(s:List Nat):∀st,(s.map Tq.sg).foldl spT st=(st.1,st.2++s):=by
 induction s with
 |nil=>intro st;simp
 |cons c s ih=>intro st;simp[spT,ih]
theorem DK(n:Nat):∀(k:Nat) st,((List.range n).map λj=>Tq.at (k+j)).foldl spT st=if n=0 then st else (st.1++st.2 :: List.replicate (n - 1) [],[]):=by
 induction n with
 |zero=>intro k st;rfl
 |succ n ih=>
  intro k st;rw[List.range_succ,List.map_append,List.foldl_append,ih];cases n with
  |zero=>simp[spT]
  |succ n=>
   simp[spT];rw[<-List.replicate_succ',List.replicate_succ]
theorem qg(c:List Pt):∀st:BS,(asks c).foldl Br (st.1.map Prod.fst,st.2.1)=((c.foldl dZ st).1.map Prod.fst,(c.foldl dZ st).2.1):=by
 induction c with
 |nil=>intro st;rfl
 |cons p c ih=>
  intro st;have e:asks (p :: c)=p.asks++asks c:=by simp[asks]
  rw[e,List.foldl_append,List.foldl_cons,<-ih]
  congr 1
  cases p with
  |drop s=>simp[Pt.asks,Bs,dZ]
  |put s=>simp[Pt.asks,dZ]
  |keep n=>
   simp only[Pt.asks,DJ];cases n with
   |zero=>rfl
   |succ n=>simp[dZ]
theorem qh(c:List Pt):∀(k:Nat) (st:BS),(told k c).foldl spT (st.1.map Prod.snd,st.2.2)=((c.foldl dZ st).1.map Prod.snd,(c.foldl dZ st).2.2):=by
 induction c with
 |nil=>intro k st;rfl
 |cons p c ih=>
  intro k st;rw[told,List.foldl_append,List.foldl_cons,<-ih (k+p.asks.length)]
  congr 1
  cases p with
  |put s=>simp[Pt.told,Bt,dZ]
  |drop s=>simp[Pt.told,dZ]
  |keep n=>
   simp only[Pt.told,DK];cases n with
   |zero=>rfl
   |succ n=>simp[dZ]
theorem xR{α β:Type}:∀{a b:List (α×β)},a.map Prod.fst=b.map Prod.fst->a.map Prod.snd=b.map Prod.snd->a=b
 |[],[],_,_=>rfl
 |[],_ :: _,h,_=>by simp at h
 |_ :: _,[],h,_=>by simp at h
 | (x,y) :: a,(x',y') :: b,h1,h2=>by
  simp at h1 h2;rw[h1.1,h2.1,xR h1.2 h2.2]
theorem nA{a b:List Pt}(h:iG a=iG b):blocks a=blocks b:=by
 have hA:asks a=asks b:=congrArg Prod.fst h;have hT:told 0 a=told 0 b:=congrArg Prod.snd h;have a1:=qg a oN;have b1:=qg b oN;have a2:=qh a 0 oN;have b2:=qh b 0 oN;rw[hA,b1]at a1;rw[hT,b2]at a2;have e1:=congrArg Prod.fst a1;have e2:=congrArg Prod.snd a1;have e3:=congrArg Prod.fst a2;have e4:=congrArg Prod.snd a2;unfold blocks;exact Prod.ext (xR e1.symm e3.symm) (Prod.ext e2.symm e4.symm)
theorem lX(a b:List Pt):aP a=aP b↔iG a=iG b:=by
 constructor
 .intro h;rw[<-lU a,<-lU b,h]
 .intro h;rw[jb,jb,nA h]
theorem Bu(a:List Pt):aP (aP a)=aP a:=(lX _ _).mpr (lU a)
noncomputable def Pt.sw:Pt->Pt
 |.keep n=>.keep n
 |.put s=>.drop s
 |.drop s=>.put s
noncomputable def sw(c:List Pt):List Pt:=c.map Pt.sw
theorem OQ(c:List Pt):sw (sw c)=c:=by
 induction c with
 |nil=>rfl
 |cons p c ih=>cases p<;>simp[sw,Pt.sw]at ih ⊢<;>exact ih
theorem sG(c:List Pt):∀st:BS,(sw c).foldl dZ (st.1.map Prod.swap,st.2.swap)=((c.foldl dZ st).1.map Prod.swap,(c.foldl dZ st).2.swap):=by
 induction c with
 |nil=>intro st;rfl
 |cons p c ih=>
  intro st;simp only[sw,List.map_cons,List.foldl_cons]at ih ⊢;rw[<-ih]
  congr 1
  cases p with
  |put s=>rfl
  |drop s=>rfl
  |keep n=>cases n<;>simp[Pt.sw,dZ]
theorem Ii{a b:List Pt}(h:aP a=aP b):aP (sw a)=aP (sw b):=by
 have hb:=nA ((lX a b).mp h);rw[jb,jb];have a1:=sG a oN;have b1:=sG b oN;have e:blocks (sw a)=blocks (sw b):=by
  unfold blocks at hb ⊢;have z:((oN.1.map Prod.swap,oN.2.swap):BS)=oN:=rfl;rw[z]at a1 b1;rw[a1,b1,hb]
 rw[e]
noncomputable def j6(c:List Pt):List Pt:=aP (sw c)
theorem Bv(c:List Pt):j6 (j6 c)=aP c:=by
 unfold j6;rw[Ii (Bu (sw c)),OQ]
noncomputable def aG:List Pt->List Nat->Bool
 |[],t=>t.isEmpty
 |.keep n :: c,t=>decide (n<=t.length)&&aG c (t.drop n)
 |.drop s :: c,t=>s.isPrefixOf t&&aG c (t.drop s.length)
 |.put _ :: c,t=>aG c t
noncomputable def aQ:List Pt->List Nat->List Nat
 |[],_=>[]
 |.keep n :: c,t=>t.take n++aQ c (t.drop n)
 |.drop s :: c,t=>aQ c (t.drop s.length)
 |.put s :: c,t=>s++aQ c t
noncomputable def cP:List (List Nat)->List Nat->Bool
 |[],[]=>true
 |x :: a,c :: t=>(decide (x=[]) ||decide (x=[c]))&&cP a t
 |_,_=>false
theorem Bw(n:Nat)(a:List (List Nat)):∀t,cP (List.replicate n []++a) t=(decide (n<=t.length)&&cP a (t.drop n)):=by
 induction n with
 |zero=>intro t;simp
 |succ n ih=>
  intro t;cases t with
  |nil=>simp[List.replicate_succ,cP]
  |cons c t=>simp[List.replicate_succ,cP,ih]
theorem Bx(s:List Nat)(a:List (List Nat)):∀t,cP ((s.map λc=>[c])++a) t=(s.isPrefixOf t&&cP a (t.drop s.length)):=by
 induction s with
 |nil=>intro t;simp
 |cons c s ih=>
  intro t;cases t with
  |nil=>simp[cP]
  |cons d t=>
   simp only[List.map_cons,List.cons_append,cP,ih,List.isPrefixOf,List.length_cons,List.drop_succ_cons];by_cases h:c=d<;>simp[h]
theorem iI(c:List Pt):∀t,aG c t=cP (asks c) t:=by
 induction c with
 |nil=>intro t;cases t<;>rfl
 |cons p c ih=>
  intro t;have e:asks (p :: c)=p.asks++asks c:=by simp[asks]
  rw[e];cases p with
  |keep n=>simp[aG,Pt.asks,Bw,ih]
  |drop s=>simp[aG,Pt.asks,Bx,ih]
  |put s=>simp[aG,Pt.asks,ih]
theorem u9(c:List Pt)(t:List Nat):aG (aP c) t=aG c t:=by rw[iI,iI,ny]
noncomputable def pick(t:List Nat):Tq->List Nat
 |.at i=>(t[i]?).toList
 |.sg c=>[c]
theorem vc(c:List Pt):∀(t:List Nat) (k:Nat),aQ c (t.drop k)=(told k c).flatMap (pick t):=by
 induction c with
 |nil=>intro t k;rfl
 |cons p c ih=>
  intro t k;rw[told,List.flatMap_append,<-ih];cases p with
  |put s=>
   simp only[aQ,Pt.told,Pt.asks,List.length_nil,Nat.add_zero]
   congr 1
   induction s with
   |nil=>rfl
   |cons c s ih=>simp[pick]at ih ⊢;exact ih
  |drop s=>simp[aQ,Pt.told,Pt.asks,Nat.add_comm]
  |keep n=>
   simp only[aQ,Pt.told,Pt.asks,List.length_replicate,List.drop_drop]
   congr 1
   induction n generalizing k with
   |zero=>simp
   |succ n ihn=>
    rw[List.range_succ,List.map_append,List.flatMap_append,<-ihn];rw[List.take_add_one];simp[pick]
theorem sH(c:List Pt)(t:List Nat):aQ (aP c) t=aQ c t:=by
 have h1:=vc (aP c) t 0;have h2:=vc c t 0;rw[kq,<-h2]at h1;simpa using h1
end Pv
namespace Pv
open Ev (D bQ bK TY BI ME T E Es Eo It S Ss Fn big deep b2i rep cA di bM aV cut cL dY slots)
noncomputable def DL:S:=.set 2 (.c (.int 0))
noncomputable def DM(cz:Nat):Ss:=(.cons (.iff (.an (.cmp .eq (.ix (.v 3) (.c (.int 0))) (.c (.str [100,114,111,112]))) (.cmp .ne (.sl (.v 1) (.yes (.v 2)) (.yes (.bin .add (.v 2) (.cl cz (.cons (.v 3) .nil))))) (.ix (.v 3) (.c (.int 1))))) (.cons (.ret (.c (.bl false))) .nil) .nil) (.cons (.iff (.cmp .ne (.ix (.v 3) (.c (.int 0))) (.c (.str [112,117,116]))) (.cons (.set 2 (.bin .add (.v 2) (.cl cz (.cons (.v 3) .nil)))) .nil) .nil) .nil))
noncomputable def DN(cz:Nat):S:=.for (.one 3) (.seq (.v 0)) (DM cz)
noncomputable def DO:S:=.ret (.cmp .eq (.v 2) (.bi .len (.cons (.v 1) .nil)))
noncomputable def j7(cz:Nat):Fn:=⟨2,4,(.cons DL (.cons (DN cz) (.cons DO .nil)))⟩
noncomputable def DP(gf:Nat):S:=.iff (.nt (.cl gf (.cons (.v 0) (.cons (.v 1) .nil)))) (.cons (.gR) .nil) .nil
noncomputable def DQ:S:=.set 2 (.lst .nil)
noncomputable def DR:S:=.set 3 (.c (.int 0))
noncomputable def DS:Ss:=(.cons (.iff (.cmp .eq (.v 4) (.c (.str [112,117,116]))) (.cons (.exp (.me .append (.v 2) (.cons (.v 5) .nil))) .nil) (.cons (.iff (.cmp .eq (.v 4) (.c (.str [100,114,111,112]))) (.cons (.set 3 (.bin .add (.v 3) (.bi .len (.cons (.v 5) .nil)))) .nil) (.cons (.exp (.me .append (.v 2) (.cons (.sl (.v 1) (.yes (.v 3)) (.yes (.bin .add (.v 3) (.v 5)))) .nil))) (.cons (.set 3 (.bin .add (.v 3) (.v 5))) .nil))) .nil)) .nil)
noncomputable def DT:S:=.for (.many [4,5]) (.seq (.v 0)) DS
noncomputable def DU:S:=.ret (.me .join (.c (.str [])) (.cons (.v 2) .nil))
noncomputable def qi(gf:Nat):Fn:=⟨2,6,(.cons (DP gf) (.cons DQ (.cons DR (.cons DT (.cons DU .nil)))))⟩
noncomputable def zg(b6:Nat):S:=.ret (.cl b6 (.cons (.jg (.comp (.tup (.cons (.jw [(.str [107,101,101,112],.str [107,101,101,112]),(.str [112,117,116],.str [100,114,111,112]),(.str [100,114,111,112],.str [112,117,116])] (.v 1)) (.cons (.v 2) .nil))) (.many [1,2]) (.seq (.v 0)) .no)) .nil))
noncomputable def DV(b6:Nat):Fn:=⟨1,3,(.cons (zg b6) .nil)⟩
noncomputable def vI(b6:Nat):S:=.ret (.cl b6 (.cons (.tup (.cons (.tup (.cons (.c (.str [107,101,101,112])) (.cons (.v 0) .nil))) .nil)) .nil))
noncomputable def nC(b6:Nat):Fn:=⟨1,1,(.cons (vI b6) .nil)⟩
noncomputable def DW:S:=.set 2 (.c (.int 0))
noncomputable def DX:S:=.set 3 (.c (.str []))
noncomputable def DY:Ss:=(.cons (.iff (.cmp .eq (.v 4) (.c (.str [112,117,116]))) (.cons (.set 3 (.bin .add (.v 3) (.v 5))) .nil) (.cons (.iff (.cmp .eq (.v 4) (.c (.str [100,114,111,112]))) (.cons (.iff (.cmp .ne (.sl (.v 1) (.yes (.v 2)) (.yes (.bin .add (.v 2) (.bi .len (.cons (.v 5) .nil))))) (.v 5)) (.cons (.ret (.c (.aH))) .nil) .nil) (.cons (.set 2 (.bin .add (.v 2) (.bi .len (.cons (.v 5) .nil)))) .nil)) (.cons (.set 3 (.bin .add (.v 3) (.sl (.v 1) (.yes (.v 2)) (.yes (.bin .add (.v 2) (.v 5)))))) (.cons (.set 2 (.bin .add (.v 2) (.v 5))) .nil))) .nil)) .nil)
noncomputable def DZ:S:=.for (.many [4,5]) (.seq (.v 0)) DY
noncomputable def D0:S:=.ret (.g9 (.cmp .eq (.v 2) (.bi .len (.cons (.v 1) .nil))) (.v 3) (.c (.aH)))
noncomputable def Mg:Fn:=⟨2,6,(.cons DW (.cons DX (.cons DZ (.cons D0 .nil))))⟩
theorem kZ{α:Type}(l:List α)(p k:Nat):cut l (some (p:Int)) (some ((p:Int)+k))=(l.drop p).take k:=by
 have h1:¬ (p:Int)<0:=by omega
 have h2:¬ (p:Int)+k<0:=by omega
 have h3:((p:Int)+k).toNat=p+k:=by omega
 simp only[cut,aV,h1,h2,if_false,h3,Int.toNat_natCast];by_cases hp:p<=l.length
 .rw[Nat.min_eq_left hp];by_cases hk:p+k<=l.length
  .rw[Nat.min_eq_left hk];congr 1;omega
  .rw[Nat.min_eq_right (by omega),List.take_of_length_le (by simp),List.take_of_length_le (by simp;omega)]
 .have e1:min p l.length=l.length:=by omega
  rw[e1,List.drop_eq_nil_of_le (Nat.le_refl _),List.drop_eq_nil_of_le (by omega)];simp
theorem pre_take{s t:List Nat}:s.isPrefixOf t=decide (t.take s.length=s):=by
 cases h:s.isPrefixOf t with
 |true=>
  obtain⟨r,rfl⟩:=List.isPrefixOf_iff_prefix.mp h;simp
 |false=>
  symm
  rw[decide_eq_false_iff_not];intro e;have:s.isPrefixOf t=true:=List.isPrefixOf_iff_prefix.mpr (by have z:=List.take_prefix s.length t;rw[e]at z;exact z);rw[h]at this;cases this
theorem lg(a b:List Pt):aJ (a++b)=aJ a+aJ b:=by simp[aJ,tot]
theorem Mh(c:List Pt):aJ c<=tot c:=by rw[<-dW];exact jJ c
theorem gX{c:List Pt}:∀{t:List Nat},aG c t=true->t.length=aJ c:=by
 induction c with
 |nil=>intro t h;simp[aG]at h;subst h;rfl
 |cons p c ih=>
  intro t h;cases p with
  |keep n=>simp only[aG,Bool.and_eq_true,decide_eq_true_eq]at h;have:=ih h.2;rw[lV];simp at this;omega
  |drop s=>
   simp only[aG,Bool.and_eq_true]at h;have h2:=ih h.2;obtain⟨r,rfl⟩:=List.isPrefixOf_iff_prefix.mp h.1;rw[nY];simp at h2 ⊢;omega
  |put s=>rw[lW];exact ih h
theorem vd(c:List Pt):∀t,(aQ c t).length<=t.length+tot c:=by
 induction c with
 |nil=>intro t;simp[aQ]
 |cons p c ih=>
  intro t;rw[bH];cases p with
  |keep n=>have:=ih (t.drop n);simp[aQ,Pt.n]at this ⊢;omega
  |drop s=>have:=ih (t.drop s.length);simp[aQ,Pt.n]at this ⊢;omega
  |put s=>have:=ih t;simp[aQ,Pt.n]at this ⊢;omega
section
variable{F:List Fn}{w n aU cU cE bC i:Nat}
theorem D3(c:List Pt)(t:List Nat)(q:Nat)(p:Pt)(l:List Pt)(h:aG c t=(decide (q<=t.length)&&aG (p :: l) (t.drop q))) :
  (gF p=true->(∃s,p=.drop s/\(if (t.drop q).take s.length=s then aG c t=(decide (q+s.length<=t.length)&&aG l (t.drop (q+s.length)))else aG c t=false)))/\
  (gF p=false->aG c t=(decide (q+aJ [p]<=t.length)&&aG l (t.drop (q+aJ [p])))):=by
 cases p with
 |drop s=>
  refine⟨λ_=>⟨s,rfl,?_⟩,λz=>by simp[gF]at z⟩;simp only[aG,pre_take,List.drop_drop]at h;split
  .rename_i hs;rw[h];simp only[hs,decide_true,Bool.true_and];have hl:=congrArg List.length hs;simp at hl;by_cases hq:q<=t.length
   .by_cases hq2:q+s.length<=t.length
    .simp[hq,hq2]
    .omega
   .have:¬ q+s.length<=t.length:=by omega
    simp[hq,this]
  .rename_i hs;rw[h];simp[hs]
 |keep k=>
  refine⟨λz=>by simp[gF]at z,λ_=>?_⟩;have e:aJ [.keep k]=k:=by rw[lV];rfl
  rw[h,e];simp only[aG,List.drop_drop,List.length_drop];by_cases hq:q<=t.length
  .by_cases hq2:q+k<=t.length
   .have:k<=t.length - q:=by omega
    simp[hq,hq2,this]
   .have:¬ k<=t.length - q:=by omega
    simp[hq2,this]
  .have:¬ q+k<=t.length:=by omega
   simp[hq,this]
 |put s=>
  refine⟨λz=>by simp[gF]at z,λ_=>?_⟩;have e:aJ [.put s]=0:=by rw[lW];rfl
  rw[h,e];simp[aG]
theorem lY(hs:F[aU]?=some dU)(hf:F[i]?=some (j7 aU))(c:List Pt)(t:List Nat)(h1:tot c<=10000)(h2:t.length<=10000):run F w (n+2) i [.val (aC c),.val (.str t)]=some (.bl (aG c t),[]):=by
 refine bX hf rfl ?_;refine ai (aW (by repeat array_get_dec) rfl rfl ?_);refine ai (gn (vs:=c.map Pt.v) (cy (bV rfl) rfl) ?_);refine dj (e:=Pt.v) (λp l fr=>p++l=c/\aG c t=(decide (aJ p<=t.length)&&aG l (t.drop (aJ p)))/\∃a,vo a/\fr=[some (.val (aC c)),some (.val (.str t)),some (.val (.int (aJ p))),a]) (λp x l fr ⟨hpl,hfit,a,ha,hfr⟩=>?_) (λp fr ⟨hpl,hfit,a,ha,hfr⟩=>?_) c [] _ ⟨rfl,by simp[aJ,tot],none,.none,rfl⟩
 .subst hfr;have lS:tot p+x.n+tot l=tot c:=by rw[<-hpl,iR,bH];omega
  have sz:=λfr=>eF (fr:=fr) (uV (w:=w) (n:=n) hs x (by omega));obtain⟨k1,k2⟩:=D3 c t (aJ p) x l hfit;have eN:(p++[x])++l=c:=by simpa using hpl
  have eb:aJ (p++[x])=aJ p+aJ [x]:=lg p [x];have ei:((aJ (p++[x]):Nat):Int)=(aJ p:Int)+(aJ [x]:Nat):=by rw[eb];simp
  cases x with
  |drop s=>
   obtain⟨s',e,k1⟩:=k1 rfl;cases e;have e2:aJ [.drop s]=s.length:=by rw[nY];rfl
   rw[e2]at eb ei;have cu:gy (.str t) (some (aJ p:Int)) (some ((aJ p:Int)+((Pt.drop s).n:Nat)))=some (.str ((t.drop (aJ p)).take s.length)):=by rw[gW];exact congrArg (λz=>some (V.str z)) (kZ t (aJ p) s.length)
   by_cases hx:(t.drop (aJ p)).take s.length=s
   .rw[if_pos hx]at k1;have ne:cop .ne (.str ((t.drop (aJ p)).take s.length)) (.str s)=some false:=by rw[iZ,decide_eq_true hx];rfl
    refine b5 (bind1 rfl ha) (ai (aL (b:=false) (iD (b2:=false) (aB rfl (by repeat array_get_dec) rfl) (aB rfl (by (repeat (first|array_get_dec|exact sz _))) rfl)) (λh=>absurd h (by decide)) λ_=>ay ?_));refine ai (aL (by repeat array_get_dec) (λ_=>?_) λh=>absurd h (by decide));refine ai (aW (by (repeat (first|array_get_dec|exact sz _))) rfl rfl (ay (ay ?_)));rw[cH];exact⟨eN,by rw[eb];exact k1,some (.val (Pt.drop s).v),.val,by rw[ei];rfl⟩
   .rw[if_neg hx]at k1;have ne:cop .ne (.str ((t.drop (aJ p)).take s.length)) (.str s)=some true:=by rw[iZ,decide_eq_false hx];rfl
    refine b5 (bind1 rfl ha) (ai (aL (b:=true) (iD (b2:=true) (aB rfl (by repeat array_get_dec) rfl) (aB rfl (by (repeat (first|array_get_dec|exact sz _))) rfl)) (λ_=>?_) λh=>absurd h (by decide)));refine ai (bS (by repeat array_get_dec) ?_);show nx _ _ _ _ _ _;rw[k1];exact⟨rfl,rfl⟩
  |keep k=>
   have k2:=k2 rfl;have e2:aJ [.keep k]=k:=by rw[lV];rfl
   rw[e2]at k2 eb ei;refine b5 (bind1 rfl ha) (ai (aL (b:=false) (j5 (aB rfl (by repeat array_get_dec) rfl)) (λh=>absurd h (by decide)) λ_=>ay ?_));refine ai (aL (by repeat array_get_dec) (λ_=>?_) λh=>absurd h (by decide));refine ai (aW (by (repeat (first|array_get_dec|exact sz _))) rfl rfl (ay (ay ?_)));rw[cH];exact⟨eN,by rw[eb];exact k2,some (.val (Pt.keep k).v),.val,by rw[ei];rfl⟩
  |put s=>
   have k2:=k2 rfl;have e2:aJ [.put s]=0:=by rw[lW];rfl
   rw[e2]at k2 eb;refine b5 (bind1 rfl ha) (ai (aL (b:=false) (j5 (aB rfl (by repeat array_get_dec) rfl)) (λh=>absurd h (by decide)) λ_=>ay ?_));refine ai (aL (by repeat array_get_dec) (λh=>absurd h (by decide)) λ_=>ay (ay ?_));rw[cH];exact⟨eN,by rw[eb];exact k2,some (.val (Pt.put s).v),.val,by rw[eb];rfl⟩
 .subst hfr;simp at hpl;subst hpl;have e:decide ((aJ p:Int)=(t.length:Nat))=aG p t:=by
   rw[hfit];simp only[aG];by_cases hq:aJ p=t.length
   .have:(aJ p:Int)=t.length:=by omega
    simp[this,hq]
   .have:¬ (aJ p:Int)=t.length:=by omega
    simp[this];intro h;omega
  have ln:cS .len [.str t]=some (.int (t.length:Nat)):=len_str (by omega);have eq:cop .eq (.int (aJ p)) (.int (t.length:Nat))=some (aG p t):=by rw[uT,e]
  have sh:fF [some (.val (aC p)),some (.val (.str t)),some (.val (.int (aJ p))),a]=[some (.val (aC p)),some (.val (.str t)),some (.val (.int (aJ p))),a]:=by
   show _ :: _ :: _ :: [a.map Sl.dg]=_;rw[dm ha];rfl
  refine ai (bS (v:=.bl (aG p t)) (af:=[some (.val (aC p)),some (.val (.str t)),some (.val (.int (aJ p))),a]) ?_ ⟨rfl,rfl⟩);rw[sh];repeat array_get_dec
theorem D4(hs:F[aU]?=some dU)(hf:F[cU]?=some (j7 aU))(hd:F[i]?=some (qi cU))(c:List Pt)(t:List Nat)(h1:tot c<=10000)(h2:t.length<=10000)(h3:c.length<=10000)(h:aG c t=true):run F w (n+3) i [.val (aC c),.val (.str t)]=some (.str (aQ c t),[]):=by
 refine bX hd rfl ?_;have ft:=λfr=>call2 (fr:=fr) (lY (w:=w) (n:=n) hs hf c t h1 h2);rw[h]at ft;refine ai (aL (b:=false) (tw (aB (b:=true) rfl (by (repeat (first|array_get_dec|exact ft _))) rfl)) (λh=>absurd h (by decide)) λ_=>ay ?_);refine ai (iE (l:=[]) (by repeat array_get_dec) rfl rfl ?_);refine ai (aW (by repeat array_get_dec) rfl rfl ?_);refine ai (gn (vs:=c.map Pt.v) (cy (bV rfl) rfl) ?_);refine dj (e:=Pt.v) (λp l fr=>p++l=c/\∃ps a b,vo a/\vo b/\ps.length<=p.length/\ps.flatten++aQ l (t.drop (aJ p))=aQ c t/\fr=[some (.val (aC c)),some (.val (.str t)),some (.own (ps.map V.str)),some (.val (.int (aJ p))),a,b]) (λp x l fr ⟨hpl,ps,a,b,ha,hb,hl,hd,hfr⟩=>?_) (λp fr ⟨hpl,ps,a,b,ha,hb,hl,hd,hfr⟩=>?_) c [] _ ⟨rfl,[],none,none,.none,.none,by simp,by simp[aJ,tot],rfl⟩
 .subst hfr;have eN:(p++[x])++l=c:=by simpa using hpl
  have eb:aJ (p++[x])=aJ p+aJ [x]:=lg p [x];have ei:((aJ (p++[x]):Nat):Int)=(aJ p:Int)+(aJ [x]:Nat):=by rw[eb];simp
  have lS:tot p+x.n+tot l=tot c:=by rw[<-hpl,iR,bH];omega
  have hlen:p.length+l.length+1=c.length:=by rw[<-hpl];simp;omega
  have ap:∀(fr:Fr) (z:List Nat),kU .append 2 [.str z] fr (some (some (.own (ps.map V.str))))=.ok .aH (fr.set 2 (some (.own ((ps++[z]).map V.str)))):=λfr z=>by
   rw[List.map_append];exact xH (by simp;omega)
  cases x with
  |put s=>
   have e2:aJ [.put s]=0:=by rw[lW];rfl
   rw[e2]at eb;refine b5 (eT rfl ha rfl hb) (ai (aL (by repeat array_get_dec) (λ_=>?_) λh=>absurd h (by decide)));refine ai (kj (by (repeat (first|array_get_dec|exact ap _ _))) (ay (ay ?_)));rw[cH];exact⟨eN,ps++[s],some (.val (.str lO)),some (.val (.str s)),.val,.val,by simp;omega,by rw[eb];simpa[aQ]using hd,by rw[eb];rfl⟩
  |drop s=>
   have e2:aJ [.drop s]=s.length:=by rw[nY];rfl
   rw[e2]at eb ei;have VY:s.length<=tot c:=by simp only[Pt.n]at lS;omega
   have ln:cS .len [.str s]=some (.int (s.length:Nat)):=len_str (by omega);refine b5 (eT rfl ha rfl hb) (ai (aL (by repeat array_get_dec) (λh=>absurd h (by decide)) λ_=>?_));refine ai (aL (by repeat array_get_dec) (λ_=>?_) λh=>absurd h (by decide));refine ai (aW (by repeat array_get_dec) rfl rfl (ay (ay (ay ?_))));rw[cH];exact⟨eN,ps,some (.val (.str jF)),some (.val (.str s)),.val,.val,by simp;omega,by rw[eb];simpa[aQ]using hd,by rw[ei];rfl⟩
  |keep k=>
   have e2:aJ [.keep k]=k:=by rw[lV];rfl
   rw[e2]at eb ei;have cu:gy (.str t) (some (aJ p:Int)) (some ((aJ p:Int)+(k:Nat)))=some (.str ((t.drop (aJ p)).take k)):=by rw[gW,kZ]
   refine b5 (eT rfl ha rfl hb) (ai (aL (by repeat array_get_dec) (λh=>absurd h (by decide)) λ_=>?_));refine ai (aL (by repeat array_get_dec) (λh=>absurd h (by decide)) λ_=>?_);refine ai (kj (by (repeat (first|array_get_dec|exact ap _ _))) ?_);refine ai (aW (by repeat array_get_dec) rfl rfl (ay (ay (ay ?_))));rw[cH];exact⟨eN,ps++[(t.drop (aJ p)).take k],some (.val (.str eK)),some (.val (.int k)),.val,.val,by simp;omega,by rw[eb];simpa[aQ]using hd,by rw[ei];rfl⟩
 .subst hfr;simp at hpl;subst hpl;have hd':ps.flatten=aQ p t:=by simpa[aQ]using hd
  have dl:=vd p t;have hj:=yU (l:=ps) (by rw[hd'];omega);rw[hd']at hj;have sh:fF [some (.val (aC p)),some (.val (.str t)),some (.own (ps.map V.str)),some (.val (.int (aJ p))),a,b]=[some (.val (aC p)),some (.val (.str t)),some (.val (.lst (ps.map V.str))),some (.val (.int (aJ p))),a,b]:=by
   show _ :: _ :: _ :: _ :: a.map Sl.dg :: [b.map Sl.dg]=_;rw[dm ha,dm hb];rfl
  refine ai (bS (v:=.str (aQ p t)) (af:=[some (.val (aC p)),some (.val (.str t)),some (.val (.lst (ps.map V.str))),some (.val (.int (aJ p))),a,b]) ?_ ⟨rfl,rfl⟩);rw[sh];repeat array_get_dec
theorem By(c:List Pt):tot (sw c)=tot c:=by
 induction c with
 |nil=>rfl
 |cons p c ih=>simp only[sw,List.map_cons,bH]at ih ⊢;rw[ih];cases p<;>rfl
theorem qj(hst:F[bC]?=some fZ)(hf:F[cE]?=some (kW bC))(hu:F[i]?=some (DV cE))(c:List Pt)(h1:c.length<=10000)(h2:tot c<=10000):run F w (n+3) i [.val (aC c)]=some (aC (j6 c),[]):=by
 have hl:(c.map λp=>p.sw.v).length<=big:=by rw[List.length_map];exact Nat.le_trans h1 (by decide)
 have cf:=λfr=>eF (fr:=fr) (o6 (w:=w) (n:=n) hst hf (sw c) (by rw[sw,List.length_map];exact h1) (by rw[By];exact h2));rw[show aC (sw c)=.tup (c.map λp=>p.sw.v)by simp only[aC,sw,List.map_map];rfl]at cf;exact bX hu rfl (ai (bS (bB (aI rfl (pZ (eV (cy (bV rfl) rfl) rfl (dR _ (λp=>p.sw.v) c λp _=>by
  cases p<;>exact eG rfl (bN (aj (A7 (aq rfl) rfl) (aj (aq rfl) az)) b8)) (cj hl)) (jj hl)) aO) (cf _)) ⟨rfl,rfl⟩))
end
end Pv
namespace Pv
open Ev (rep)
theorem BA(ns:List Int)(at_:Int)(s:List Nat)(k:Nat):tot (lP ns at_ s k)<=3:=by
 have h1:=j3 ns (at_+4*k+2) (many:=2) (by decide);have h2:=j0 ns (at_+4*k+2) (many:=2) (by decide);unfold lP;rw[iR];have a:tot (if cY ns (at_+4*k) 4=0 then [Pt.put (rep (1+cY ns (at_+4*k+2) 2).toNat [[97,98,122].getD (cY ns (at_+4*k+1) 3).toNat 0])]else [])<=2:=by
  split
  .simp[tot,Pt.n,rep];omega
  .simp[tot]
 cases s[k]? with
 |none=>simp[tot]at a ⊢;omega
 |some c=>
  have b:tot [if 0<cY ns (at_+4*k+3) 3 then Pt.keep 1 else Pt.drop [c]]<=1:=by split<;>simp[tot,Pt.n]
  simp only at b ⊢;omega
theorem sI(ns:List Int)(at_:Int)(s:List Nat):∀k,tot (gp ns at_ s k)<=3*k
 |0=>by simp[gp,tot]
 |k+1=>by
  have h1:=BA ns at_ s k;have h2:=sI ns at_ s k;rw[lQ,iR];omega
theorem o7:∀{a:List (List Nat)}{t:List Nat},cP a t=true->a.length=t.length
 |[],[],_=>rfl
 |x :: a,c :: t,h=>by simp[cP]at h;simp[o7 h.2]
 |[],_ :: _,h=>by simp[cP]at h
 |_ :: _,[],h=>by simp[cP]at h
end Pv
namespace Pv
inductive At where
 |k|d (c:Nat)|p (c:Nat)
noncomputable def Pt.er:Pt->List At
 |.keep n=>List.replicate n .k
 |.drop s=>s.map .d
 |.put s=>s.map .p
noncomputable def er(c:List Pt):List At:=c.flatMap Pt.er
theorem o8(p:Pt)(c:List Pt):er (p :: c)=p.er++er c:=by simp[er]
noncomputable def tA:Nat->List At->List Tq
 |_,[]=>[]
 |i,.k :: a=>.at i :: tA (i+1) a
 |i,.d _ :: a=>tA (i+1) a
 |i,.p c :: a=>.sg c :: tA i a
noncomputable def aA:List At->List (List Nat)
 |[]=>[]
 |.k :: a=>[] :: aA a
 |.d c :: a=>[c] :: aA a
 |.p _ :: a=>aA a
noncomputable def dA:List At->List Nat->List Nat
 |[],_=>[]
 |.k :: a,t=>t.take 1++dA a (t.drop 1)
 |.d _ :: a,t=>dA a (t.drop 1)
 |.p c :: a,t=>c :: dA a t
theorem qk:∀a b:List At,aA (a++b)=aA a++aA b
 |[],_=>rfl
 |.k :: a,b=>by simp[aA,qk a b]
 |.d c :: a,b=>by simp[aA,qk a b]
 |.p c :: a,b=>by simp[aA,qk a b]
theorem ql:∀(a b:List At) (i:Nat),tA i (a++b)=tA i a++tA (i+(aA a).length) b
 |[],_,_=>rfl
 |.k :: a,b,i=>by simp[tA,aA,ql a b,Nat.add_assoc,Nat.add_comm 1]
 |.d c :: a,b,i=>by simp[tA,aA,ql a b,Nat.add_assoc,Nat.add_comm 1]
 |.p c :: a,b,i=>by simp[tA,aA,ql a b]
theorem Fd(p:Pt):aA p.er=p.asks:=by
 cases p with
 |keep n=>simp only[Pt.er,Pt.asks];induction n<;>simp_all [List.replicate_succ,aA]
 |drop s=>simp only[Pt.er,Pt.asks];induction s<;>simp_all [aA]
 |put s=>simp only[Pt.er,Pt.asks];induction s<;>simp_all [aA]
theorem OR(p:Pt):∀i,tA i p.er=p.told i:=by
 cases p with
 |keep n=>
  simp only[Pt.er,Pt.told];induction n with
  |zero=>intro i;rfl
  |succ n ih=>intro i;simp only[List.replicate_succ,tA,ih,List.range_succ_eq_map,List.map_cons,List.map_map];simp[Function.comp_def,Nat.add_assoc,Nat.add_comm 1]
 |drop s=>intro i;simp only[Pt.er,Pt.told];induction s generalizing i<;>simp_all [tA]
 |put s=>intro i;simp only[Pt.er,Pt.told];induction s generalizing i<;>simp_all [tA]
theorem o9(c:List Pt):asks c=aA (er c):=by
 induction c with
 |nil=>rfl
 |cons p c ih=>rw[o8,qk,Fd,<-ih];simp[asks]
theorem pe(c:List Pt):∀i,told i c=tA i (er c):=by
 induction c with
 |nil=>intro i;rfl
 |cons p c ih=>intro i;rw[o8,ql,OR,Fd,<-ih,told]
noncomputable def Vp:List At->Bool
 |.d _ :: _=>false
 |_=>true
inductive Th:List At->List At->List At->Prop
 |nil:Th [] [] []
 |d {a b r c}:Th a b r->Th (.d c :: a) b (.d c :: r)
 |p {a b r c}:Vp a=true->Th a b r->Th a (.p c :: b) (.p c :: r)
 |kk {a b r}:Th a b r->Th (.k :: a) (.k :: b) (.k :: r)
 |kd {a b r c}:Th a b r->Th (.k :: a) (.d c :: b) (.d c :: r)
 |pk {a b r c}:Th a b r->Th (.p c :: a) (.k :: b) (.p c :: r)
 |pd {a b r c}:Th a b r->Th (.p c :: a) (.d c :: b) r
noncomputable def sub(L:List Tq):Tq->Tq
 |.at j=>L.getD j (.sg 0)
 |.sg c=>.sg c
theorem jm:∀(a:List At) (i q:Nat),Tq.at q∈tA i a↔∃j,q=i+j/\(aA a)[j]?=some []
 |[],i,q=>by simp[tA,aA]
 |.k :: a,i,q=>by
  simp only[tA,List.mem_cons,jm a,aA];constructor
  .rintro(h|⟨j,rfl,h⟩)
   .cases h;exact⟨0,rfl,by simp⟩
   .exact⟨j+1,by omega,by simpa using h⟩
  .rintro⟨j,rfl,h⟩;cases j with
   |zero=>exact .inl rfl
   |succ j=>exact .inr ⟨j,by omega,by simpa using h⟩
 |.d c :: a,i,q=>by
  simp only[tA,jm a,aA];constructor
  .rintro⟨j,rfl,h⟩;exact⟨j+1,by omega,by simpa using h⟩
  .rintro⟨j,rfl,h⟩;cases j with
   |zero=>simp at h
   |succ j=>exact⟨j,by omega,by simpa using h⟩
 |.p c :: a,i,q=>by simp[tA,jm a,aA]
theorem q8:∀{a:List (List Nat)}{t:List Nat},cP a t=true->∀(j:Nat) x,a[j]?=some x->x=[]\/∃c,t[j]?=some c/\x=[c]
 |y :: a,c :: t,h,j,x,e=>by
  simp only[cP,Bool.and_eq_true,Bool.or_eq_true,decide_eq_true_eq]at h;cases j with
  |zero=>simp at e;subst e;exact h.1.imp id λz=>⟨c,by simp,z⟩
  |succ j=>simpa using q8 h.2 j x (by simpa using e)
 |[],[],_,j,x,e=>by simp at e
 |[],_ :: _,h,_,_,_=>by simp[cP]at h
 |_ :: _,[],h,_,_,_=>by simp[cP]at h
theorem BB{a:List At}{A:List (List Nat)}{t:List Nat}(ha:cP (aA a) t=true)(hb:cP A t=true)(h:∀q:Nat,Tq.at q∈tA 0 a↔A[q]?=some []):aA a=A:=by
 have la:=o7 ha;have lb:=o7 hb;apply List.ext_getElem?;intro j;by_cases hj:j<t.length
 .obtain⟨x,hx⟩:∃x,(aA a)[j]?=some x:=⟨_,List.getElem?_eq_getElem (by omega)⟩
  obtain⟨y,hy⟩:∃y,A[j]?=some y:=⟨_,List.getElem?_eq_getElem (by omega)⟩
  have k1:=jm a 0 j;rw[h j,hy]at k1;have hxy:x=[]↔y=[]:=by
   constructor
   .rintro rfl;have:=k1.mpr ⟨j,by omega,hx⟩;cases this;rfl
   .rintro rfl;obtain⟨i,hi,e⟩:=k1.mp rfl;obtain rfl:i=j:=by omega
    rw[e]at hx;cases hx;rfl
  rw[hx,hy];rcases q8 ha j x hx with QV|⟨c,hc,QM⟩
  .rw[QV,hxy.mp QV]
  .rcases q8 hb j y hy with QW|⟨c',hc',hy1⟩
   .rw[QW,hxy.mpr QW]
   .rw[hc]at hc';cases hc';rw[QM,hy1]
 .rw[List.getElem?_eq_none (by omega),List.getElem?_eq_none (by omega)]
theorem BC{a b:List At}{t:List Nat}(ha:cP (aA a) t=true)(hb:cP (aA b) t=true)(h:tA 0 a=tA 0 b):aA a=aA b:=
 BB ha hb λq=>by
  rw[h,jm b 0 q];constructor
  .rintro⟨j,hj,e⟩;obtain rfl:q=j:=by omega
   exact e
  .intro e;exact⟨q,by omega,e⟩
theorem BD{a b:List Pt}{t:List Nat}(ha:aG a t=true)(hb:aG b t=true)(h:told 0 a=told 0 b):aP a=aP b:=by
 rw[lX];rw[iI]at ha hb;have h':=h;rw[o9]at ha hb;rw[pe,pe]at h';have:=BC ha hb h';simp only[iG,h,o9,this]
end Pv
namespace Pv
open Ev (D bQ bK TY BI ME T E Es Eo It S Ss Fn big deep b2i rep cA di bM aV cut cL dY slots)
noncomputable def D5(q9:Nat)(dX:Nat):S:=.iff (.cmp .ne (.cl q9 (.cons (.v 0) .nil)) (.cl dX (.cons (.v 1) .nil))) (.cons (.gR) .nil) .nil
noncomputable def D6(b6:Nat):S:=.set 2 (.fS (.rev (.cl b6 (.cons (.v 0) .nil))))
noncomputable def D7(b6:Nat):S:=.set 3 (.fS (.rev (.cl b6 (.cons (.v 1) .nil))))
noncomputable def D8:S:=.set 4 (.lst .nil)
noncomputable def D9(cz:Nat)(qm:Nat)(jK:Nat):Ss:=(.cons (.iff (.an (.v 2) (.cmp .eq (.ix (.ix (.v 2) (.neg (.c (.int 1)))) (.c (.int 0))) (.c (.str [100,114,111,112])))) (.cons (.exp (.me .append (.v 4) (.cons (.me .pop (.v 2) .nil) .nil))) .nil) (.cons (.iff (.an (.v 3) (.cmp .eq (.ix (.ix (.v 3) (.neg (.c (.int 1)))) (.c (.int 0))) (.c (.str [112,117,116])))) (.cons (.exp (.me .append (.v 4) (.cons (.me .pop (.v 3) .nil) .nil))) .nil) (.cons (.set 5 (.bi .min (.cons (.cl cz (.cons (.ix (.v 2) (.neg (.c (.int 1)))) .nil)) (.cons (.cl cz (.cons (.ix (.v 3) (.neg (.c (.int 1)))) .nil)) .nil)))) (.cons (.exp (.me .extend (.v 4) (.cons (.cl qm (.cons (.cl jK (.cons (.v 2) (.cons (.v 5) .nil))) (.cons (.cl jK (.cons (.v 3) (.cons (.v 5) .nil))) .nil))) .nil))) .nil))) .nil)) .nil)
noncomputable def Ea(cz:Nat)(qm:Nat)(jK:Nat):S:=.EB (.orr (.v 2) (.v 3)) (D9 cz qm jK)
noncomputable def Eb(b6:Nat):S:=.ret (.cl b6 (.cons (.jg (.v 4)) .nil))
noncomputable def BE(q9:Nat)(dX:Nat)(b6:Nat)(cz:Nat)(qm:Nat)(jK:Nat):Fn:=⟨2,6,(.cons (D5 q9 dX) (.cons (D6 b6) (.cons (D7 b6) (.cons D8 (.cons (Ea cz qm jK) (.cons (Eb b6) .nil))))))⟩
noncomputable def Ij:S:=.iff (.cmp .eq (.ix (.v 1) (.c (.int 0))) (.c (.str [107,101,101,112]))) (.cons (.ret (.lst (.cons (.v 0) .nil))) .nil) .nil
noncomputable def Ik:S:=.iff (.cmp .eq (.ix (.v 0) (.c (.int 0))) (.c (.str [107,101,101,112]))) (.cons (.ret (.lst (.cons (.v 1) .nil))) .nil) .nil
noncomputable def Il:S:=.iff (.cmp .ne (.ix (.v 0) (.c (.int 1))) (.ix (.v 1) (.c (.int 1)))) (.cons (.gR) .nil) .nil
noncomputable def Im:S:=.ret (.lst .nil)
noncomputable def zh:Fn:=⟨2,2,(.cons Ij (.cons Ik (.cons Il (.cons Im .nil))))⟩
noncomputable def BF(pq:Nat):S:=.set 2 (.cl pq (.cons (.me .pop (.v 0) .nil) (.cons (.v 1) .nil)))
noncomputable def BG(cz:Nat):S:=.iff (.cmp .gt (.cl cz (.cons (.ix (.v 2) (.c (.int 1))) .nil)) (.c (.int 0))) (.cons (.exp (.me .append (.v 0) (.cons (.ix (.v 2) (.c (.int 1))) .nil))) .nil) .nil
noncomputable def BH:S:=.ret (.ix (.v 2) (.c (.int 0)))
noncomputable def nZ(pq:Nat)(cz:Nat):Fn:=⟨2,3,(.cons (BF pq) (.cons (BG cz) (.cons BH .nil)))⟩
noncomputable def zj:S:=.set 2 (.ix (.v 0) (.c (.int 0)))
noncomputable def zk:S:=.iff (.cmp .eq (.v 2) (.c (.str [107,101,101,112]))) (.cons (.ret (.tup (.cons (.tup (.cons (.v 2) (.cons (.v 1) .nil))) (.cons (.tup (.cons (.v 2) (.cons (.bin .sub (.ix (.v 0) (.c (.int 1))) (.v 1)) .nil))) .nil)))) .nil) .nil
noncomputable def zl:S:=.ret (.tup (.cons (.tup (.cons (.v 2) (.cons (.sl (.ix (.v 0) (.c (.int 1))) .no (.yes (.v 1))) .nil))) (.cons (.tup (.cons (.v 2) (.cons (.sl (.ix (.v 0) (.c (.int 1))) (.yes (.v 1)) .no) .nil))) .nil)))
noncomputable def lZ:Fn:=⟨2,3,(.cons zj (.cons zk (.cons zl .nil)))⟩
theorem OS{α:Type}(l:List α)(m:Nat):cut l none (some (m:Int))=l.take m:=by
 have h1:¬ (m:Int)<0:=by omega
 simp only[cut,aV,h1,if_false,Int.toNat_natCast,List.drop_zero,Nat.sub_zero];by_cases h:m<=l.length
 .rw[Nat.min_eq_left h]
 .rw[Nat.min_eq_right (by omega),List.take_of_length_le (Nat.le_refl _),List.take_of_length_le (by omega)]
theorem OT{α:Type}(l:List α)(m:Nat):cut l (some (m:Int)) none=l.drop m:=by
 have h1:¬ (m:Int)<0:=by omega
 simp only[cut,aV,h1,if_false,Int.toNat_natCast];by_cases h:m<=l.length
 .rw[Nat.min_eq_left h,List.take_of_length_le (by simp)]
 .rw[Nat.min_eq_right (by omega),List.drop_eq_nil_of_le (Nat.le_refl _),List.drop_eq_nil_of_le (by omega)];simp
section
variable{F:List Fn}{w n dw aU mh eY cE bC iS bP gg qo i:Nat}
theorem xS{c:List Pt}(h:kX c=true):∀p∈c,0<p.n:=λp hp=>by
 simp only[kX,Bool.and_eq_true,List.all_eq_true]at h;have:=h.2 p hp;simp only[Mf,bne_iff_ne,ne_eq]at this;omega
theorem rj:∀{c:List Pt},(∀p∈c,0<p.n)->c.length<=tot c
 |[],_=>by simp[tot]
 |p :: c,h=>by
  have h1:=h p (by simp);have h2:=rj (c:=c) λq hq=>h q (by simp[hq]);rw[bH,List.length_cons];omega
structure Tn(one other c:List Pt)(t:List Nat):Prop where
 Vq:aP c=c
 fit:aG c t=true
 dn:aQ c t=aQ other (aQ one t)
 Vr:told 0 c=(told 0 other).map (sub (told 0 one))
 Vs:told 0 (sw c)=(told 0 (sw one)).map (sub (told 0 (sw other)))
 cs:cst c<=cst one+cst other
 tt:tot c<=tot one+tot other
 ln:c.length<=tot c
 th:∃ps,c=aP ps/\Th (er (aP one)) (er (aP other)) (er ps)
section
variable(hs:F[aU]?=some dU)(hp:F[dw]?=some lZ)(ht:F[eY]?=some (nZ dw aU))(hm:F[mh]?=some zh){one other:List Pt}{r:List At}{N:Nat}(hN:N<=5000)
include hs hp ht hm hN
end
end
end Pv
namespace Pv
open Ev (D bQ bK TY BI ME T E Es Eo It S Ss Fn big deep b2i rep cA di bM aV cut cL dY slots)
section
variable{F:List Fn}{w n dw aU mh eY cE bC iS bP gg qo i:Nat}
theorem ve(hf:F[i]?=some Mg)(c:List Pt)(t:List Nat)(h1:tot c<=10000)(h2:t.length<=10000)(h:aG c t=true):run F w (n+1) i [.val (aC c),.val (.str t)]=some (.str (aQ c t),[]):=by
 refine bX hf rfl ?_;refine ai (aW (by repeat array_get_dec) rfl rfl ?_);refine ai (aW (by repeat array_get_dec) rfl rfl ?_);refine ai (gn (vs:=c.map Pt.v) (cy (bV rfl) rfl) ?_);have dl:=vd c t;refine dj (e:=Pt.v) (λp l fr=>p++l=c/\aJ p<=t.length/\aG l (t.drop (aJ p))=true/\∃f a b,f++aQ l (t.drop (aJ p))=aQ c t/\vo a/\vo b/\fr=[some (.val (aC c)),some (.val (.str t)),some (.val (.int (aJ p))),some (.val (.str f)),a,b]) (λp x l fr ⟨hpl,QX,hfit,f,a,b,hd,ha,hb,hfr⟩=>?_) (λp fr ⟨hpl,QX,hfit,f,a,b,hd,ha,hb,hfr⟩=>?_) c [] _ ⟨rfl,by simp[aJ,tot],by simpa[aJ,tot]using h,[],none,none,by simp[aJ,tot],.none,.none,rfl⟩
 .subst hfr;have eN:(p++[x])++l=c:=by simpa using hpl
  have lf:=congrArg List.length hd;rw[List.length_append]at lf;cases x with
  |put s=>
   have e2:aJ (p++[.put s])=aJ p:=by rw[lg,lW];simp[aJ,tot]
   have ad:=fG (a:=f) (b:=s) (by simp[aQ]at lf;omega);refine b5 (eT rfl ha rfl hb) (ai (aL (by repeat array_get_dec) (λ_=>?_) λh=>absurd h (by decide)));refine ai (aW (by repeat array_get_dec) rfl rfl (ay (ay ?_)));rw[cH,e2];exact⟨eN,QX,hfit,f++s,_,_,by simpa[aQ]using hd,.val,.val,rfl⟩
  |drop s=>
   simp only[aG,Bool.and_eq_true]at hfit;have e2:aJ (p++[.drop s])=aJ p+s.length:=by rw[lg,nY];simp[aJ,tot]
   have e3:((aJ (p++[.drop s]):Nat):Int)=(aJ p:Int)+(s.length:Nat):=by rw[e2];simp
   have hs:=hfit.1;rw[pre_take]at hs;have hs:=of_decide_eq_true hs;have hl:s.length<=(t.drop (aJ p)).length:=by have:=congrArg List.length hs;simp at this ⊢;omega
   have hl2:aJ p+s.length<=t.length:=by simp at hl;omega
   have ln:cS .len [.str s]=some (.int (s.length:Nat)):=len_str (by omega);have cu:gy (.str t) (some (aJ p:Int)) (some ((aJ p:Int)+(s.length:Nat)))=some (.str s):=by rw[gW,kZ,hs]
   refine b5 (eT rfl ha rfl hb) (ai (aL (by repeat array_get_dec) (λh=>absurd h (by decide)) λ_=>?_));refine ai (aL (by repeat array_get_dec) (λ_=>?_) λh=>absurd h (by decide));refine ai (aL (by repeat array_get_dec) (λh=>?_) λ_=>ay ?_)
   .simp at h
   .refine ai (aW (by repeat array_get_dec) rfl rfl (ay (ay (ay ?_))));rw[cH];refine⟨eN,by omega,?_,f,_,_,?_,.val,.val,by rw[e3];rfl⟩
    .rw[e2,<-List.drop_drop];exact hfit.2
    .rw[e2,<-List.drop_drop];simpa[aQ]using hd
  |keep k=>
   simp only[aG,Bool.and_eq_true,decide_eq_true_eq]at hfit;have e2:aJ (p++[.keep k])=aJ p+k:=by rw[lg,lV];simp[aJ,tot]
   have e3:((aJ (p++[.keep k]):Nat):Int)=(aJ p:Int)+(k:Nat):=by rw[e2];simp
   have hl2:aJ p+k<=t.length:=by have:=hfit.1;simp at this;omega
   have cu:gy (.str t) (some (aJ p:Int)) (some ((aJ p:Int)+(k:Nat)))=some (.str ((t.drop (aJ p)).take k)):=by rw[gW,kZ]
   have ad:=fG (a:=f) (b:=(t.drop (aJ p)).take k) (by simp[aQ]at lf ⊢;omega);refine b5 (eT rfl ha rfl hb) (ai (aL (by repeat array_get_dec) (λh=>absurd h (by decide)) λ_=>?_));refine ai (aL (by repeat array_get_dec) (λh=>absurd h (by decide)) λ_=>?_);refine ai (aW (by repeat array_get_dec) rfl rfl ?_);refine ai (aW (by repeat array_get_dec) rfl rfl (ay (ay (ay ?_))));rw[cH];refine⟨eN,by omega,?_,f++(t.drop (aJ p)).take k,_,_,?_,.val,.val,by rw[e3];rfl⟩
   .rw[e2,<-List.drop_drop];exact hfit.2
   .rw[e2,<-List.drop_drop];simpa[aQ]using hd
 .subst hfr;simp at hpl;subst hpl;have hd':f=aQ p t:=by simpa[aQ]using hd
  subst hd';have e0:=gX h;have ln:cS .len [.str t]=some (.int (t.length:Nat)):=len_str (by omega);have eq:cop .eq (.int (aJ p)) (.int (t.length:Nat))=some true:=by rw[uT,e0];simp
  have sh:fF [some (.val (aC p)),some (.val (.str t)),some (.val (.int (aJ p))),some (.val (.str (aQ p t))),a,b]=[some (.val (aC p)),some (.val (.str t)),some (.val (.int (aJ p))),some (.val (.str (aQ p t))),a,b]:=by
   show _ :: _ :: _ :: _ :: a.map Sl.dg :: [b.map Sl.dg]=_;rw[dm ha,dm hb];rfl
  refine ai (bS (v:=.str (aQ p t)) (af:=[some (.val (aC p)),some (.val (.str t)),some (.val (.int (aJ p))),some (.val (.str (aQ p t))),a,b]) ?_ ⟨rfl,rfl⟩);rw[sh];exact gm (b:=true) (aB rfl (by repeat array_get_dec) rfl) (λ_=>aq rfl) λh=>absurd h (by decide)
noncomputable def Ch:List Nat->List (List Pt)->Prop
 |_,[]=>True
 |t,c :: rs=>aG c t=true/\Ch (aQ c t) rs
noncomputable def qp(t:List Nat)(rs:List (List Pt)):List Nat:=rs.foldl (λs c=>aQ c s) t
noncomputable def xT(T:List Tq)(rs:List (List Pt)):List Tq:=rs.foldl (λT c=>(told 0 c).map (sub T)) T
noncomputable def Ec(rs:List (List Pt)):Nat:=(rs.map tot).sum
structure An(c:List Pt)(t:List Nat)(rs:List (List Pt)):Prop where
 Vq:aP c=c
 fit:aG c t=true
 dn:aQ c t=qp t rs
 Vr:told 0 c=xT (told 0 [.keep t.length]) rs
 Vs:told 0 (sw c)=xT (told 0 [.keep (qp t rs).length]) (rs.map j6).reverse
 tt:tot c<=t.length+Ec rs
 ln:c.length<=tot c
section
variable(hs:F[aU]?=some dU)(hp:F[dw]?=some lZ)(ht:F[eY]?=some (nZ dw aU))(hm:F[mh]?=some zh)
 (hst:F[bC]?=some fZ) (hf:F[cE]?=some (kW bC)) (hb:F[bP]?=some (fY aU)) (ha:F[iS]?=some (xK aU)) (Mi:F[qo]?=some (BE iS bP cE aU mh eY)) (hno:F[gg]?=some (nC cE)) (hw:5000<w)
include hs hp ht hm hst hf hb ha Mi hno hw
end
end
end Pv
namespace Pv
section
variable{t:List Nat}{p q rs:List (List Pt)}{s e w x y c:List Pt}
end
open Ev (D bQ bK TY BI ME T E Es Eo It S Ss Fn big deep b2i rep cA di bM aV cut cL dY slots)
inductive Hd(L:List V):Sl->List (List V)->Prop
 |val:Hd L (.val (.lst L)) []
 |bor:Hd L (.bor L) [L]
section
variable{F:List Fn}{w n dw aU mh eY cE bC iS bP gg qo i:Nat}
section
variable(hs:F[aU]?=some dU)(hp:F[dw]?=some lZ)(ht:F[eY]?=some (nZ dw aU))(hm:F[mh]?=some zh)
 (hst:F[bC]?=some fZ) (hf:F[cE]?=some (kW bC)) (hb:F[bP]?=some (fY aU)) (ha:F[iS]?=some (xK aU)) (Mi:F[qo]?=some (BE iS bP cE aU mh eY)) (hno:F[gg]?=some (nC cE)) (hw:5000<w)
include hs hp ht hm hst hf hb ha Mi hno hw
end
end
end Pv
namespace Pv
open Ev (deep big rep cut bM)
noncomputable def Fe:List At->Bool
 |.p _ :: _=>false
 |_=>true
structure Cut(c:List Pt)(p:Nat)(A B:List Pt):Prop where
 at_:er A++er B=er (aP c)
 bA:aJ A=p
 hd:Fe (er B)=true
 pA:∀q∈A,0<q.n
 pB:∀q∈B,0<q.n
 fA:kX A=true
 fB:kX B=true
section
variable{c A B:List Pt}{p:Nat}{t:List Nat}
end
end Pv
namespace Pv
open Ev (D bQ bK TY BI ME T E Es Eo It S Ss Fn big deep rep cut bM)
noncomputable def zm(b6:Nat):S:=.ret (.cl b6 (.cons (.bin .add (.v 0) (.v 1)) .nil))
noncomputable def Ed(b6:Nat):Fn:=⟨2,2,(.cons (zm b6) .nil)⟩
noncomputable def BJ(mj:Nat)(kr:Nat):S:=.ret (.cl mj (.cons (.cl mj (.cons (.cl kr (.cons (.v 0) .nil)) (.cons (.v 1) .nil))) (.cons (.cl kr (.cons (.v 2) .nil)) .nil)))
noncomputable def Io(mj:Nat)(kr:Nat):Fn:=⟨3,3,(.cons (BJ mj kr) .nil)⟩
section
variable{F:List Fn}{w n aU bC cE bP dw eY gg vf OU Ip i:Nat}
theorem zo(f:Pt->Bool)(c:List Pt):tot (c.filter f)<=tot c:=by
 induction c with
 |nil=>exact Nat.le_refl _
 |cons p c ih=>
  rw[List.filter_cons];split
  .rw[bH,bH];omega
  .rw[bH];omega
section
variable(hst:F[bC]?=some fZ)(hf:F[cE]?=some (kW bC))(hj:F[vf]?=some (Ed cE))(hn:F[gg]?=some (nC cE))(ha:F[Ip]?=some (Io vf gg))
include hst hf hj hn ha
end
end
end Pv
namespace Pv
open Ev (D bQ bK TY BI ME T E Es Eo It S Ss Fn big deep rep cut bM)
structure CA(a:List At)(p:Nat)(x y:List At):Prop where
 ap:x++y=a
 ln:(aA x).length=p
 hd:Fe y=true
section
variable{F:List Fn}{w n aU bC cE bP iS dw eY OU i:Nat}
end
end Pv
namespace Pv
open Ev (D bQ bK TY BI ME T E Es Eo It S Ss Fn big deep rep cut bM)
abbrev Row:=List Nat×List Pt
noncomputable def BK(rs:List Row):List (List Pt):=rs.map Prod.snd
noncomputable def who(st:List V)(o:List Nat):Tq->V
 |.at i=>st.getD i .aH
 |.sg _=>.str o
noncomputable def Vt(st:List V)(r:Row):List V:=(told 0 r.2).map (who st r.1)
noncomputable def ows(st:List V)(rs:List Row):List V:=rs.foldl Vt st
open Classical in
noncomputable def bJ(t:List Nat)(a c:List Pt):List Pt:=if h:∃X,Tn a c X t then h.choose else []
noncomputable def Vu(K:List Row):Prop:=∀A a b B,K=A++a :: b :: B->a.1≠b.1
structure Nm(t:List Nat)(rs K:List Row):Prop where
 ch:Ch t (BK K)
 tx:qp t (BK K)=qp t (BK rs)
 ow:∀st:List V,st.length=t.length->ows st K=ows st rs
 fm:∀q∈K,aP q.2=q.2/\0<cst q.2
 ad:Vu K
 ln:K.length<=rs.length
 sb:∀q∈K,∃r∈rs,r.1=q.1
 tt:Ec (BK K)<=Ec (BK rs)
section
variable{t:List Nat}{rs K:List Row}{o:List Nat}{c:List Pt}
end
end Pv
namespace Pv
open Ev (D bQ bK TY BI ME T E Es Eo It S Ss Fn big deep rep cut bM)
inductive Pa(f:Bool):List At->List At->List At->Prop
 |nil:Pa f [] [] []
 |p1 {a b r:List At} {c:Nat}:(f=true\/Fe b=true)->Pa f a b r->Pa f (.p c :: a) b (.p c :: r)
 |p2 {a b r:List At} {c:Nat}:(f=false\/Fe a=true)->Pa f a b r->Pa f a (.p c :: b) (.k :: r)
 |kk {a b r:List At}:Pa f a b r->Pa f (.k :: a) (.k :: b) (.k :: r)
 |dk {a b r:List At} {c:Nat}:Pa f a b r->Pa f (.d c :: a) (.k :: b) (.d c :: r)
 |kd {a b r:List At} {c:Nat}:Pa f a b r->Pa f (.k :: a) (.d c :: b) r
 |dd {a b r:List At} {c e:Nat}:Pa f a b r->Pa f (.d c :: a) (.d e :: b) r
structure Jn(f:Bool)(a b l m:List At)(W:Nat->List Tq):Prop where
 bk:Pa (!f) b a m
 t1:∀(i:Nat) (U:List Tq),(tA U.length m).map (sub (U++tA i a))=W i
 t2:∀(i:Nat) (U:List Tq),(tA U.length l).map (sub (U++tA i b))=W i
 ft:∀t:List Nat,cP (aA a) t=true->cP (aA b) t=true->cP (aA m) (dA a t)=true/\cP (aA l) (dA b t)=true/\dA m (dA a t)=dA l (dA b t)
noncomputable def sO:S:=.ret (.an (.cmp .gt (.bi .len (.cons (.v 0) .nil)) (.c (.int 0))) (.cmp .eq (.ix (.ix (.v 0) (.neg (.c (.int 1)))) (.c (.int 0))) (.c (.str [112,117,116]))))
noncomputable def vJ:Fn:=⟨1,1,(.cons sO .nil)⟩
section
variable{F:List Fn}{w n aU bC cE dw eY Mj Uk i:Nat}
variable(hs:F[aU]?=some dU)(hp:F[dw]?=some lZ)(ht:F[eY]?=some (nZ dw aU))(Vv:F[Mj]?=some vJ){one other:List Pt}{f:Bool}{r:List At}{N:Nat}
include hs hp ht Vv
end
noncomputable def pS:List At->List Nat
 |[]=>[]
 |.p c :: a=>c :: pS a
 |_ :: a=>pS a
theorem qq:∀a b:List At,pS (a++b)=pS a++pS b
 |[],_=>rfl
 |.k :: a,b=>qq a b
 |.d _ :: a,b=>qq a b
 |.p c :: a,b=>congrArg (c :: ·) (qq a b)
theorem OV(n:Nat):pS (List.replicate n .k)=[]:=by
 induction n with
 |zero=>rfl
 |succ n ih=>exact ih
end Pv
namespace Pv
open Ev (D bQ bK TY BI ME T E Es Eo It S Ss Fn big deep rep cut bM)
theorem xU(k:List (Int×List Nat))(p q:Int)(s:List Nat):Ev.b7 (Ev.cI k p s) q=if q=p then some s else Ev.b7 k q:=by
 unfold Ev.cI;split
 .rename_i h;unfold Ev.b7;induction k with
  |nil=>simp at h
  |cons x k ih=>
   simp only[List.map_cons,List.find?_cons];by_cases hx:x.1=p
   .rw[if_pos hx];by_cases hq:q=p
    .simp[hx,hq]
    .have:¬ (x.1=q):=λz=>hq (by rw[<-z,hx]);simp only[decide_eq_false this,if_neg hq];clear ih h;induction k with
     |nil=>rfl
     |cons y k ih=>
      simp only[List.map_cons,List.find?_cons];by_cases hy:y.1=p
      .rw[if_pos hy];have:¬ (y.1=q):=λz=>hq (by rw[<-z,hy]);simp only[decide_eq_false this];exact ih
      .rw[if_neg hy];by_cases hz:y.1=q
       .simp[hz]
       .simp only[decide_eq_false hz];exact ih
   .rw[if_neg hx];by_cases hq:x.1=q
    .have:¬ q=p:=λz=>hx (by rw[hq,z]);simp[hq,this]
    .simp only[decide_eq_false hq];exact ih (by simpa[hx]using h)
 .rename_i h;unfold Ev.b7;rw[List.find?_append];by_cases hq:q=p
  .subst hq;have:k.find? (λx=>decide (x.1=q))=none:=by
    rw[List.find?_eq_none];intro x hx hz;exact h (List.any_eq_true.mpr ⟨x,hx,hz⟩)
   rw[this];simp
  .have:¬ p=q:=λz=>hq z.symm;simp[hq,this]
noncomputable def KI(t:List Nat)(k:List (Int×List Nat)):Prop:=∀p s,Ev.b7 k p=some s->∃(i c:Nat),p=i/\t[i]?=some c/\s=[c]
theorem KI.put{t:List Nat}{k:List (Int×List Nat)}(h:KI t k){i c:Nat}(hc:t[i]?=some c):KI t (Ev.cI k i [c]):=λp s e=>by
 rw[xU]at e;split at e
 .rename_i hp;cases e;exact⟨i,c,hp,hc,rfl⟩
 .exact h p s e
theorem KI.vg{t:List Nat}:∀(s:List Nat) {k:List (Int×List Nat)}(i:Nat),KI t k->(t.drop i).take s.length=s->KI t (gw k i s)
 |[],k,i,h,_=>h
 |c :: s,k,i,h,e=>by
  have hl:i<t.length:=by
   refine Nat.lt_of_not_le λz=>?_;rw[List.drop_eq_nil_of_le z]at e;simp at e
  rw[List.drop_eq_getElem_cons hl,List.length_cons,List.take_succ_cons,List.cons.injEq]at e;have:=KI.vg s (i+1) (h.put (i:=i) (c:=c) (by rw[List.getElem?_eq_getElem hl,e.1])) e.2;exact this
theorem vh:∀(s:List Nat) (k:List (Int×List Nat)) (p:Int),(gw k p s).length<=k.length+s.length
 |[],k,p=>by simp[gw]
 |c :: s,k,p=>by
  have h1:=vh s (Ev.cI k p [c]) (p+1);have h2:(Ev.cI k p [c]).length<=k.length+1:=by unfold Ev.cI;split<;>simp
  rw[gw,List.length_cons];omega
noncomputable def nD:List Pt->Nat
 |[]=>0
 |.drop s :: c=>s.length+nD c
 |_ :: c=>nD c
theorem jq:∀c:List Pt,nD c<=tot c
 |[]=>Nat.zero_le _
 |.drop s :: c=>by have:=jq c;rw[bH];simp only[nD,Pt.n];omega
 |.put s :: c=>by have:=jq c;rw[bH];simp only[nD,Pt.n];omega
 |.keep n :: c=>by have:=jq c;rw[bH];simp only[nD,Pt.n];omega
theorem tD:∀(c:List Pt) (t:List Nat) (i:Nat) (k:List (Int×List Nat)),aG c (t.drop i)=true->KI t k->k.length+nD c<=1000->∃k',bh (c.map Pt.v) i k=some k'/\KI t k'/\k'.length<=k.length+nD c
 |[],t,i,k,_,h,_=>⟨k,rfl,h,by omega⟩
 |.keep m :: c,t,i,k,hf,h,hb=>by
  have hf':aG c (t.drop (i+m))=true:=by simp only[aG,Bool.and_eq_true]at hf;have:=hf.2;rwa [List.drop_drop]at this
  obtain⟨k',e1,e2,e3⟩:=tD c t (i+m) k hf' h hb;refine⟨k',?_,e2,e3⟩;show bh (.tup [.str [107,101,101,112],.int m] :: c.map Pt.v) i k=_;rw[bh,if_pos rfl,<-e1];congr 1
 |.put s :: c,t,i,k,hf,h,hb=>by
  obtain⟨k',e1,e2,e3⟩:=tD c t i k hf h hb;refine⟨k',?_,e2,e3⟩;show bh (.tup [.str [112,117,116],.str s] :: c.map Pt.v) i k=_;rw[bh,if_neg (by decide),if_neg (by decide)];exact e1
 |.drop s :: c,t,i,k,hf,h,hb=>by
  simp only[aG,Bool.and_eq_true,decide_eq_true_eq]at hf;simp only[nD]at hb;have hl:=vh s k i;obtain⟨k',e1,e2,e3⟩:=tD c t (i+s.length) (gw k i s) (by have:=hf.2;rwa [List.drop_drop]at this) (h.vg s i (List.prefix_iff_eq_take.mp (List.isPrefixOf_iff_prefix.mp hf.1)).symm) (by omega);refine⟨k',?_,e2,by simp only[nD];omega⟩;show bh (.tup [.str [100,114,111,112],.str s] :: c.map Pt.v) i k=_;rw[bh,if_pos rfl,if_pos (by omega),<-e1];congr 1
section
variable{F:List Fn}{w n i:Nat}
end
theorem Ml:∀s:List Nat,pS (s.map .p)=s
 |[]=>rfl
 |c :: s=>congrArg (c :: ·) (Ml s)
theorem Mm:∀s:List Nat,pS (s.map .d)=[]
 |[]=>rfl
 |_ :: s=>Mm s
end Pv
namespace Pv
noncomputable def Vw:At->Pt
 |.k=>.keep 1
 |.d c=>.drop [c]
 |.p c=>.put [c]
open Classical in
noncomputable def Vx(f:Bool)(a b:List At):List At:=if h:∃r,Pa f a b r then h.choose else []
noncomputable def ld(f:Bool)(one other:List Pt):List Pt:=aP ((Vx f (er (aP one)) (er (aP other))).map Vw)
noncomputable def nP(c:List Pt):Nat:=(pS (er c)).length
theorem rm(p:Pt)(c:List Pt):nP (p :: c)=(pS p.er).length+nP c:=by unfold nP;rw[o8,qq,List.length_append]
theorem iJ:∀c:List Pt,tot c=aJ c+nP c
 |[]=>rfl
 |.keep n :: c=>by rw[bH,lV,rm,iJ c,Pt.er,OV];simp[Pt.n];omega
 |.drop s :: c=>by rw[bH,nY,rm,iJ c,Pt.er,Mm];simp[Pt.n];omega
 |.put s :: c=>by rw[bH,lW,rm,iJ c,Pt.er,Ml];simp[Pt.n];omega
structure Ld(f:Bool)(one other l:List Pt)(t:List Nat):Prop where
 ft:aG l (aQ other t)=true
 fm:aP l=l
 np:nP l=nP one
 nd:nD l<=nD one
noncomputable def xV(rs:List (List Pt)):Nat:=(rs.map nP).sum
noncomputable def Fw(rs:List (List Pt)):Prop:=∀c∈rs,aP c=c/\nD c<=60
structure Rp(c:List Pt)(os:List (List Pt))(t:List Nat)(c':List Pt)(L:List (List Pt)):Prop where
 ft:aG c' (qp t os)=true
 ch:Ch (aQ c t) L
 tx:qp (aQ c t) L=aQ c' (qp t os)
 tl:∀T,xT T (c :: L)=xT T (os++[c'])
 ln:L.length=os.length
 pt:xV L=xV os
 fw:Fw os->Fw L
 np:nP c'=nP c
 nd:nD c'<=nD c
 fm:aP c=c->aP c'=c'
structure Rs(as os:List (List Pt))(t:List Nat)(M Y:List (List Pt)):Prop where
 c1:Ch (qp t os) M
 c2:Ch (qp t as) Y
 tl:∀T,xT T (as++Y)=xT T (os++M)
 l1:M.length=as.length
 l2:Y.length=os.length
 p1:xV M=xV as
 p2:xV Y=xV os
 f1:(∀c∈as,nD c<=60)->Fw M
 f2:Fw os->Fw Y
end Pv
namespace Pv
open Ev (D bQ bK TY BI ME T E Es Eo It S Ss Fn big deep rep cut bM)
noncomputable def KE(t:List Nat)(k:List (Int×List Nat)):Prop:=∀e∈k,∃(i c:Nat),e.1=i/\t[i]?=some c/\e.2=[c]
theorem vj{k:List (Int×List Nat)}{p:Int}{s:List Nat}{e:Int×List Nat}(h:e∈Ev.cI k p s):e∈k\/(e.1=p/\e.2=s):=by
 unfold Ev.cI at h;split at h
 .obtain⟨q,hq,rfl⟩:=List.mem_map.mp h;split
  .rename_i z;exact .inr ⟨z,rfl⟩
  .exact .inl hq
 .rcases List.mem_append.mp h with h|h
  .exact .inl h
  .rw[List.mem_singleton]at h;subst h;exact .inr ⟨rfl,rfl⟩
theorem KE.put{t:List Nat}{k:List (Int×List Nat)}(h:KE t k){i c:Nat}(hc:t[i]?=some c):KE t (Ev.cI k i [c]):=λe he=>by
 rcases vj he with he|⟨h1,h2⟩
 .exact h e he
 .exact⟨i,c,h1,hc,h2⟩
theorem KE.vg{t:List Nat}:∀(s:List Nat) {k:List (Int×List Nat)}(i:Nat),KE t k->(t.drop i).take s.length=s->KE t (gw k i s)
 |[],k,i,h,_=>h
 |c :: s,k,i,h,e=>by
  have hl:i<t.length:=by
   refine Nat.lt_of_not_le λz=>?_;rw[List.drop_eq_nil_of_le z]at e;simp at e
  rw[List.drop_eq_getElem_cons hl,List.length_cons,List.take_succ_cons,List.cons.injEq]at e;exact KE.vg s (i+1) (h.put (i:=i) (c:=c) (by rw[List.getElem?_eq_getElem hl,e.1])) e.2
theorem KE.merge{t:List Nat}:∀{m k:List (Int×List Nat)},KE t k->KE t m->KE t (Ev.cg k m)
 |[],_,h,_=>h
 |e :: m,k,h,g=>by
  obtain⟨i,c,h1,h2,h3⟩:=g e (.head _);show KE t (Ev.cg (Ev.cI k e.1 e.2) m);rw[h1,h3];exact KE.merge (h.put h2) λx hx=>g x (.tail _ hx)
theorem KE.val{t:List Nat}{k:List (Int×List Nat)}(h:KE t k){p:Int}{s:List Nat}(e:Ev.b7 k p=some s):∃(i c:Nat),p=i/\t[i]?=some c/\s=[c]:=by
 unfold Ev.b7 at e;obtain⟨q,e1,rfl⟩:=Option.map_eq_some_iff.mp e;obtain⟨i,c,h1,h2,h3⟩:=h q (List.mem_of_find?_eq_some e1);have:=List.find?_some e1;exact⟨i,c,by rw[<-h1];exact(of_decide_eq_true this).symm,h2,h3⟩
noncomputable def eZ(k:List (Int×List Nat))(p:Int):Prop:=(Ev.b7 k p).isSome=true
theorem xW{k:List (Int×List Nat)}{p q:Int}{s:List Nat}:eZ (Ev.cI k p s) q↔q=p\/eZ k q:=by
 unfold eZ;rw[xU];by_cases h:q=p<;>simp[h]
theorem pC:∀(s:List Nat) (k:List (Int×List Nat)) (i:Nat) (q:Int),(eZ k q\/∃j:Nat,j<s.length/\q=((i+j:Nat):Int))->eZ (gw k i s) q
 |[],k,i,q,h=>by
  rcases h with h|⟨j,hj,_⟩
  .exact h
  .simp at hj
 |c :: s,k,i,q,h=>by
  show eZ (gw (Ev.cI k i [c]) ((i:Int)+1) s) q;have e:(i:Int)+1=((i+1:Nat):Int):=by omega
  rw[e];refine pC s _ (i+1) q ?_;rw[xW];rcases h with h|⟨j,hj,h⟩
  .exact .inl (.inr h)
  .cases j with
   |zero=>exact .inl (.inl (by rw[h];omega))
   |succ j=>exact .inr ⟨j,by simpa using hj,by rw[h];omega⟩
theorem nE:∀{m k:List (Int×List Nat)}{q:Int},eZ k q\/eZ m q->eZ (Ev.cg k m) q
 |[],k,q,h=>h.elim id λh=>by simp[eZ,Ev.b7]at h
 |e :: m,k,q,h=>by
  show eZ (Ev.cg (Ev.cI k e.1 e.2) m) q;refine nE ?_;rw[xW];rcases h with h|h
  .exact .inl (.inr h)
  .by_cases hq:q=e.1
   .exact .inl (.inl hq)
   .refine .inr ?_;unfold eZ Ev.b7 at h ⊢;rw[List.find?_cons,decide_eq_false (λz=>hq z.symm)]at h;exact h
theorem tE:∀(c:List Pt) (t:List Nat) (i:Nat) (k k':List (Int×List Nat)),aG c (t.drop i)=true->KE t k->bh (c.map Pt.v) i k=some k'->KE t k'
 |[],t,i,k,k',_,h,e=>by cases e;exact h
 |.keep m :: c,t,i,k,k',hf,h,e=>by
  have hf':aG c (t.drop (i+m))=true:=by simp only[aG,Bool.and_eq_true]at hf;have:=hf.2;rwa [List.drop_drop]at this
  have e:bh (.tup [.str [107,101,101,112],.int m] :: c.map Pt.v) i k=some k':=e;rw[bh,if_pos rfl]at e;exact tE c t (i+m) k k' hf' h e
 |.put s :: c,t,i,k,k',hf,h,e=>by
  have e:bh (.tup [.str [112,117,116],.str s] :: c.map Pt.v) i k=some k':=e;rw[bh,if_neg (by decide),if_neg (by decide)]at e;exact tE c t i k k' hf h e
 |.drop s :: c,t,i,k,k',hf,h,e=>by
  simp only[aG,Bool.and_eq_true,decide_eq_true_eq]at hf;have e:bh (.tup [.str [100,114,111,112],.str s] :: c.map Pt.v) i k=some k':=e;rw[bh,if_pos rfl]at e;split at e
  .exact tE c t (i+s.length) (gw k i s) k' (by have:=hf.2;rwa [List.drop_drop]at this) (h.vg s i (List.prefix_iff_eq_take.mp (List.isPrefixOf_iff_prefix.mp hf.1)).symm) e
  .cases e
theorem qt:∀(c:List Pt) (i:Nat) (k k':List (Int×List Nat)),bh (c.map Pt.v) i k=some k'->∀q:Int,(eZ k q\/∃p x,(asks c)[p]?=some [x]/\q=((i+p:Nat):Int))->eZ k' q
 |[],i,k,k',e,q,h=>by
  cases e;rcases h with h|⟨p,x,h,_⟩
  .exact h
  .simp[asks]at h
 |.keep m :: c,i,k,k',e,q,h=>by
  have e:bh (.tup [.str [107,101,101,112],.int m] :: c.map Pt.v) i k=some k':=e;rw[bh,if_pos rfl]at e;refine qt c (i+m) k k' e q (h.imp id λ⟨p,x,h1,h2⟩=>?_);have h1:(List.replicate m []++asks c)[p]?=some [x]:=h1;by_cases hp:p<m
  .rw[List.getElem?_append_left (by simpa using hp)]at h1;simp[hp]at h1
  .rw[List.getElem?_append_right (by simp;omega),List.length_replicate]at h1;exact⟨p - m,x,h1,by rw[h2];omega⟩
 |.put s :: c,i,k,k',e,q,h=>by
  have e:bh (.tup [.str [112,117,116],.str s] :: c.map Pt.v) i k=some k':=e;rw[bh,if_neg (by decide),if_neg (by decide)]at e;exact qt c i k k' e q h
 |.drop s :: c,i,k,k',e,q,h=>by
  have e:bh (.tup [.str [100,114,111,112],.str s] :: c.map Pt.v) i k=some k':=e;rw[bh,if_pos rfl]at e;split at e
  .refine qt c (i+s.length) (gw k i s) k' e q ?_;rcases h with h|⟨p,x,h1,h2⟩
   .exact .inl (pC s k i q (.inl h))
   .have h1:(s.map (λc=>[c])++asks c)[p]?=some [x]:=h1;by_cases hp:p<s.length
    .exact .inl (pC s k i q (.inr ⟨p,hp,h2⟩))
    .rw[List.getElem?_append_right (by simp;omega),List.length_map]at h1;exact .inr ⟨p - s.length,x,h1,by rw[h2];omega⟩
  .cases e
theorem rq(c:List Pt){t:List Nat}(hf:aG c t=true)(b:nD c<=1000):∃k,bh (c.map Pt.v) 0 []=some k/\k.length<=nD c/\(∀u,aG c u=true->KE u k)/\∀p x,(asks c)[p]?=some [x]->eZ k (p:Nat):=by
 obtain⟨k,e1,_,e3⟩:=tD c t 0 [] hf (λp s e=>by cases e) (by simpa using b);refine⟨k,e1,by simpa using e3,λu hu=>tE c u 0 [] k hu (λe he=>by cases he) e1,λp x h=>qt c 0 [] k e1 _ (.inr ⟨p,x,h,by simp⟩)⟩
noncomputable def aM(s:Nat)(a:List (List Nat)):List Nat:=a.map λy=>y.headD s
theorem dz:∀{c:List Pt}{y:List Nat},y∈asks c->y=[]\/∃x,y=[x]
 |[],y,h=>by simp[asks]at h
 |p :: c,y,h=>by
  have h:y∈p.asks++asks c:=h;rcases List.mem_append.mp h with h|h
  .cases p with
   |keep n=>exact .inl (List.eq_of_mem_replicate h)
   |put s=>simp[Pt.asks]at h
   |drop s=>obtain⟨x,_,rfl⟩:=List.mem_map.mp h;exact .inr ⟨x,rfl⟩
  .exact dz h
theorem gO:∀{a:List (List Nat)}{t:List Nat},cP a t=true↔a.length=t.length/\∀(p:Nat) y x,a[p]?=some y->t[p]?=some x->y=[]\/y=[x]
 |[],[]=>by simp[cP]
 |[],_ :: _=>by simp[cP]
 |_ :: _,[]=>by simp[cP]
 |y :: a,x :: t=>by
  simp only[cP,Bool.and_eq_true,Bool.or_eq_true,decide_eq_true_eq,List.length_cons,Nat.add_right_cancel_iff,gO (a:=a) (t:=t)];constructor
  .rintro⟨h1,h2,h3⟩;refine⟨h2,λp z w e1 e2=>?_⟩;cases p with
   |zero=>simp at e1 e2;subst e1 e2;exact h1
   |succ p=>exact h3 p z w (by simpa using e1) (by simpa using e2)
  .rintro⟨h1,h2⟩;exact⟨h2 0 y x rfl rfl,h1,λp z w e1 e2=>h2 (p+1) z w (by simpa using e1) (by simpa using e2)⟩
theorem iT(s:Nat)(a:List (List Nat)):(aM s a).length=a.length:=by simp[aM]
theorem gY{s:Nat}{a:List (List Nat)}{p:Nat}{y:List Nat}(h:a[p]?=some y):(aM s a)[p]?=some (y.headD s):=by simp[aM,h]
theorem dB(s:Nat)(c:List Pt):aG c (aM s (asks c))=true:=by
 rw[iI,gO];refine⟨(iT s _).symm,λp y x h1 h2=>?_⟩;rw[gY h1]at h2;cases h2;rcases dz (List.mem_of_getElem? h1)with rfl|⟨z,rfl⟩
 .exact .inl rfl
 .exact .inr rfl
noncomputable def vl(x:List Nat):Tq->Nat
 |.at p=>x.getD p 0
 |.sg c=>c
noncomputable def nF(g:Nat->Bool):Tq->Option Nat
 |.at p=>if g p then some p else none
 |.sg _=>none
noncomputable def kp(g:Nat->Bool):Nat->List (List Nat)->List Nat
 |_,[]=>[]
 |i,y :: a=>if decide (y=[])&&g i then i :: kp g (i+1) a else kp g (i+1) a
theorem qu(g:Nat->Bool):∀(a:List At) (i:Nat),(tA i a).filterMap (nF g)=kp g i (aA a)
 |[],i=>rfl
 |.k :: a,i=>by
  simp only[tA,aA,kp,List.filterMap_cons,nF];cases g i<;>simp[qu g a (i+1)]
 |.d c :: a,i=>by
  simp only[tA,aA,kp];simp[qu g a (i+1)]
 |.p c :: a,i=>by
  simp only[tA,aA,List.filterMap_cons,nF];exact qu g a i
theorem nG(c:List Pt)(g:Nat->Bool):(told 0 c).filterMap (nF g)=kp g 0 (asks c):=by rw[pe,qu,o9]
theorem vm{g:Nat->Bool}:∀{a:List (List Nat)}{i p:Nat},p∈kp g i a->∃j,p=i+j/\a[j]?=some []
 |[],i,p,h=>by simp[kp]at h
 |y :: a,i,p,h=>by
  simp only[kp]at h;split at h
  .rename_i hy;rcases List.mem_cons.mp h with rfl|h
   .simp at hy;exact⟨0,rfl,by simp[hy.1]⟩
   .obtain⟨j,h1,h2⟩:=vm h;exact⟨j+1,by omega,by simpa using h2⟩
  .obtain⟨j,h1,h2⟩:=vm h;exact⟨j+1,by omega,by simpa using h2⟩
theorem Ff{g:Nat->Bool}:∀{a b:List (List Nat)}{i:Nat},a.length=b.length->(∀p,g (i+p)=true->(a[p]?=some []↔b[p]?=some []))->kp g i a=kp g i b
 |[],[],_,_,_=>rfl
 |[],_ :: _,_,h,_=>by simp at h
 |_ :: _,[],_,h,_=>by simp at h
 |y :: a,z :: b,i,h,q=>by
  have ih:=Ff (g:=g) (a:=a) (b:=b) (i:=i+1) (by simpa using h) λp hp=>by
   have:=q (p+1) (by rw[<-hp];congr 1;omega);simpa using this
  have h0:=q 0;simp only[kp,ih];cases hg:g i with
  |false=>simp
  |true=>
   have:=h0 (by simpa using hg);simp at this;simp[this]
theorem lq{c:List Pt}{p:Nat}(h:Tq.at p∈told 0 c):(asks c)[p]?=some []:=by
 have h1:p∈(told 0 c).filterMap (nF λ_=>true):=List.mem_filterMap.mpr ⟨_,h,by simp[nF]⟩;rw[nG]at h1;obtain⟨j,h2,h3⟩:=vm h1;rw[h2];simpa using h3
theorem jL{c:List Pt}{x:List Nat}(h:aG c x=true):aQ c x=(told 0 c).map (vl x):=by
 have e:=vc c x 0;rw[List.drop_zero]at e;rw[e];have hl:(asks c).length=x.length:=by rw[dW,gX h]
 have:∀L:List Tq,(∀q∈L,∀p,q=.at p->p<x.length)->L.flatMap (pick x)=L.map (vl x):=λL=>by
  induction L with
  |nil=>intro _;rfl
  |cons q L ih=>
   intro hq;rw[List.flatMap_cons,List.map_cons,ih λz hz=>hq z (.tail _ hz)];cases q with
   |sg c=>rfl
   |«at» p=>
    have:=hq _ (.head _) p rfl;simp[pick,vl,List.getElem?_eq_getElem this,List.getD]
 refine this _ λq hq p e=>?_;subst e;have:=(List.getElem?_eq_some_iff.mp (lq hq)).1;omega
inductive Pw(a:List (List Nat)):List Tq->List Tq->Prop
 |nil:Pw a [] []
 |at {p L M}:Pw a L M->Pw a (.at p :: L) (.at p :: M)
 |sg {y L M}:Pw a L M->Pw a (.sg y :: L) (.sg y :: M)
 |as {y p L M}:a[p]?=some [y]->Pw a L M->Pw a (.sg y :: L) (.at p :: M)
theorem rA{a:List (List Nat)}{p s:Nat}{y:List Nat}(h:a[p]?=some y):vl (aM s a) (.at p)=y.headD s:=by simp[vl,List.getD,gY h]
theorem Fi{a:List (List Nat)}(h1:∀y∈a,y=[]\/∃x,y=[x]):∀{L M:List Tq},L.map (vl (aM 97 a))=M.map (vl (aM 97 a))->L.map (vl (aM 98 a))=M.map (vl (aM 98 a))->(∀p,Tq.at p∈L->a[p]?=some [])->(∀p,Tq.at p∈M->p<a.length)->
  L.filterMap (nF λp=>decide (a[p]?=some []))=M.filterMap (nF λp=>decide (a[p]?=some []))->Pw a L M
 |[],[],_,_,_,_,_=>.nil
 |[],_ :: _,e,_,_,_,_=>by simp at e
 |_ :: _,[],e,_,_,_,_=>by simp at e
 |q :: L,q' :: M,e1,e2,c1,c2,f=>by
  rw[List.map_cons,List.map_cons,List.cons.injEq]at e1 e2;have rest:=λf=>Fi h1 e1.2 e2.2 (λp hp=>c1 p (.tail _ hp)) (λp hp=>c2 p (.tail _ hp)) f;cases q with
  |«at» p=>
   have hp:=c1 p (.head _);have a1:=e1.1;have a2:=e2.1;rw[rA hp]at a1 a2;simp only[List.headD_nil]at a1 a2;cases q' with
   |sg y=>simp only[vl]at a1 a2;omega
   |«at» p'=>
    have hl:=c2 p' (.head _);have sJ:=List.getElem?_eq_getElem hl;rw[rA sJ]at a1 a2;rcases h1 _ (List.getElem_mem hl)with z|⟨x,z⟩
    .rw[z]at sJ;simp only[List.filterMap_cons,nF,hp,sJ,decide_true,if_true,List.cons.injEq]at f;obtain⟨rfl,f⟩:=f;exact .at (rest f)
    .rw[z]at a1 a2;simp at a1 a2;omega
  |sg y=>
   cases q' with
   |sg y'=>
    have a1:=e1.1;simp only[vl]at a1;subst a1;simp only[List.filterMap_cons,nF]at f;exact .sg (rest f)
   |«at» p'=>
    have a1:=e1.1;have a2:=e2.1;have hl:=c2 p' (.head _);have sJ:=List.getElem?_eq_getElem hl;rw[rA sJ]at a1 a2;simp only[vl]at a1 a2;rcases h1 _ (List.getElem_mem hl)with z|⟨x,z⟩
    .rw[z]at a1 a2;simp at a1 a2;omega
    .rw[z]at a1 sJ;simp at a1;subst a1;have ng:¬ (a[p']?=some []):=by rw[sJ];simp
     simp only[List.filterMap_cons,nF,ng,decide_false]at f;exact .as sJ (rest (by simpa using f))
structure Wi(c d:List Pt):Prop where
 fa:aG d (aM 97 (asks c))=true
 fb:aG d (aM 98 (asks c))=true
 da:aQ c (aM 97 (asks c))=aQ d (aM 97 (asks c))
 db:aQ c (aM 98 (asks c))=aQ d (aM 98 (asks c))
theorem Wi.sub{c d:List Pt}(h:Wi c d):(asks d).length=(asks c).length/\∀(p:Nat) y,(asks d)[p]?=some [y]->(asks c)[p]?=some [y]:=by
 have f1:=h.fa;have f2:=h.fb;rw[iI,gO]at f1 f2;have hl:(asks d).length=(asks c).length:=by rw[f1.1,iT]
 refine⟨hl,λp y e=>?_⟩;have hp:p<(asks c).length:=by rw[<-hl];exact(List.getElem?_eq_some_iff.mp e).1
 have e2:=List.getElem?_eq_getElem hp;rcases dz (List.getElem_mem hp)with z|⟨x,z⟩
 .rw[z]at e2;have a1:=f1.2 p _ _ e (gY e2);have a2:=f2.2 p _ _ e (gY e2);simp at a1 a2;omega
 .rw[z]at e2;have a1:=f1.2 p _ _ e (gY e2);simp at a1;subst a1;exact e2
theorem Wi.pw{c d:List Pt}(h:Wi c d):Pw (asks c) (told 0 c) (told 0 d):=by
 obtain⟨hl,hs⟩:=h.sub;have e1:=h.da;have e2:=h.db;rw[jL (dB 97 c),jL h.fa]at e1;rw[jL (dB 98 c),jL h.fb]at e2;refine Fi (λy hy=>dz hy) e1 e2 (λp hp=>lq hp) (λp hp=>by rw[<-hl];exact(List.getElem?_eq_some_iff.mp (lq hp)).1) ?_;rw[nG,nG];refine Ff hl.symm λp hg=>?_;have hc:=of_decide_eq_true hg;rw[Nat.zero_add]at hc;refine⟨λ_=>?_,λ_=>hc⟩;have hp:p<(asks d).length:=by rw[hl];exact(List.getElem?_eq_some_iff.mp hc).1
 have e:=List.getElem?_eq_getElem hp;rcases dz (List.getElem_mem hp)with z|⟨x,z⟩
 .rw[z]at e;exact e
 .rw[z]at e;rw[hs p x e]at hc;simp at hc
theorem Pw.vals{a:List (List Nat)}{x:List Nat}(hx:∀(p:Nat) y,a[p]?=some [y]->x[p]?=some y){L M:List Tq}(h:Pw a L M):L.map (vl x)=M.map (vl x):=by
 induction h with
 |nil=>rfl
 |«at» _ ih=>rw[List.map_cons,List.map_cons,ih]
 |sg _ ih=>rw[List.map_cons,List.map_cons,ih]
 |«as» e _ ih=>rw[List.map_cons,List.map_cons,ih];simp[vl,List.getD,hx _ _ e]
theorem nH{c:List Pt}{x:List Nat}(h:aG c x=true){p y:Nat}(e:(asks c)[p]?=some [y]):x[p]?=some y:=by
 rw[iI,gO]at h;have hp:p<x.length:=by rw[<-h.1];exact(List.getElem?_eq_some_iff.mp e).1
 have e2:=List.getElem?_eq_getElem hp;have:=h.2 p _ _ e e2;simp at this;rw[e2,<-this]
theorem OW{c d:List Pt}(h:∀x,aG c x=true->aG d x=true/\aQ d x=aQ c x):Wi c d:=
 ⟨(h _ (dB 97 c)).1,(h _ (dB 98 c)).1,(h _ (dB 97 c)).2.symm,(h _ (dB 98 c)).2.symm⟩
theorem Pw.anti{a b:List (List Nat)}{L M:List Tq}(h:Pw a L M)(g:Pw b M L):L=M:=by
 induction h with
 |nil=>rfl
 |«at» _ ih=>cases g with|«at» g=>rw[ih g]
 |sg _ ih=>cases g with|sg g=>rw[ih g]
 |«as» _ _ _=>cases g
theorem Wi.anti{c d:List Pt}(h:Wi c d)(g:Wi d c):aP c=aP d:=BD (dB 97 c) h.fa (h.pw.anti g.pw)
end Pv
namespace Pv
open Ev (D bQ bK TY BI ME T E Es Eo It S Ss Fn big deep rep cut bM)
noncomputable def BL(b6:Nat):S:=.ret (.cmp .eq (.cl b6 (.cons (.v 0) .nil)) (.cl b6 (.cons (.v 1) .nil)))
noncomputable def Iq(b6:Nat):Fn:=⟨2,2,(.cons (BL b6) .nil)⟩
noncomputable def vK(gf:Nat)(vn:Nat):S:=.ret (.g9 (.cl gf (.cons (.v 0) (.cons (.v 1) .nil))) (.cl vn (.cons (.v 0) (.cons (.v 1) .nil))) (.c (.aH)))
noncomputable def nI(gf:Nat)(vn:Nat):Fn:=⟨2,2,(.cons (vK gf vn) .nil)⟩
noncomputable def zp:S:=.ret (.me .join (.c (.str [])) (.cons (.comp (.mF (.v 1) (.v 3) (.v 2)) (.one 3) (.fR (.cons (.v 0) .nil)) .no) .nil))
noncomputable def iU:Fn:=⟨3,4,(.cons zp .nil)⟩
noncomputable def vL(dc:Nat):S:=.set 1 (.cl dc (.cons (.v 0) .nil))
noncomputable def vM(gP:Nat)(dX:Nat):S:=.ret (.comp (.cl gP (.cons (.cl dX (.cons (.v 0) .nil)) (.cons (.v 1) (.cons (.v 2) .nil)))) (.one 2) (.seq (.c (.tup [.str [97],.str [98]]))) .no)
noncomputable def nJ(dc:Nat)(gP:Nat)(dX:Nat):Fn:=⟨1,3,(.cons (vL dc) (.cons (vM gP dX) .nil))⟩
noncomputable def zq(fj:Nat)(dI:Nat):S:=.ret (.bi .all (.cons (.comp (.cmp .eq (.cl dI (.cons (.v 0) (.cons (.v 2) .nil))) (.cl dI (.cons (.v 1) (.cons (.v 2) .nil)))) (.one 2) (.seq (.cl fj (.cons (.v 0) .nil))) .no) .nil))
noncomputable def Ef(fj:Nat)(dI:Nat):Fn:=⟨2,3,(.cons (zq fj dI) .nil)⟩
noncomputable def vN(dI:Nat):Ss:=(.cons (.iff (.cmp .ne (.cl dI (.cons (.v 0) (.cons (.v 2) .nil))) (.cl dI (.cons (.v 1) (.cons (.v 2) .nil)))) (.cons (.ret (.v 2)) .nil) .nil) .nil)
noncomputable def vO(fj:Nat)(dI:Nat):S:=.for (.one 2) (.seq (.bin .add (.cl fj (.cons (.v 0) .nil)) (.cl fj (.cons (.v 1) .nil)))) (vN dI)
noncomputable def vP:S:=.ret (.c (.aH))
noncomputable def nK(fj:Nat)(dI:Nat):Fn:=⟨2,3,(.cons (vO fj dI) (.cons vP .nil))⟩
noncomputable def vQ(dc:Nat):S:=.jy 1 2 0 dc
noncomputable def vR(gP:Nat)(dX:Nat):S:=.set 3 (.cl gP (.cons (.cl dX (.cons (.ix (.v 0) (.c (.int 0))) .nil)) (.cons (.v 1) (.cons (.ix (.c (.tup [.str [97],.str [98]])) (.c (.int 0))) .nil))))
noncomputable def vS(gf:Nat):S:=.iff (.bi .all (.cons (.comp (.cl gf (.cons (.v 4) (.cons (.v 3) .nil))) (.one 4) (.seq (.v 0)) .no) .nil)) (.cons (.ret (.v 3)) .nil) .nil
noncomputable def vU:S:=.ret (.c (.aH))
noncomputable def sL(dc:Nat)(gP:Nat)(dX:Nat)(gf:Nat):Fn:=⟨1,5,(.cons (vQ dc) (.cons (vR gP dX) (.cons (vS gf) (.cons vU .nil))))⟩
section
variable{F:List Fn}{w n aU bP iK cQ cU jr fk fy cE bC i:Nat}
theorem BN(hst:F[bC]?=some fZ)(hf:F[cE]?=some (kW bC))(h:F[i]?=some (Iq cE))(c d:List Pt)(b1:tot c<=2000)(b2:tot d<=2000)(l1:c.length<=2000)(l2:d.length<=2000):run F w (n+3) i [.val (aC c),.val (aC d)]=some (.bl (decide (aP c=aP d)),[]):=by
 have c1:=λfr=>eF (fr:=fr) (o6 (F:=F) (w:=w) (n:=n) hst hf c (by omega) (by omega));have c2:=λfr=>eF (fr:=fr) (o6 (F:=F) (w:=w) (n:=n) hst hf d (by omega) (by omega));exact bX h rfl (ai (bS (aS (bB (aI rfl (aq rfl) aO) (c1 _)) (bB (aI rfl (aq rfl) aO) (c2 _)) (Ba _ _)) ⟨rfl,rfl⟩))
noncomputable def ou(c:List Pt)(x:List Nat):Option (List Nat):=if aG c x=true then some (aQ c x)else none
noncomputable def oV:Option (List Nat)->V
 |some s=>.str s
 |none=>.aH
theorem zu(a b:Option (List Nat)):Pv.cop .eq (oV a) (oV b)=some (decide (a=b)):=by
 show cC deep _ _=_;cases a with
 |none=>cases b<;>rfl
 |some a=>
  cases b with
  |none=>rfl
  |some b=>show cC deep (.str a) (.str b)=_;rw[fL];simp
theorem jc(hs:F[aU]?=some dU)(hf:F[cU]?=some (j7 aU))(hd:F[jr]?=some (qi cU))(h:F[i]?=some (nI cU jr))(c:List Pt)(x:List Nat)(b1:tot c<=2000)(l1:c.length<=2000)(b2:x.length<=2000):run F w (n+4) i [.val (aC c),.val (.str x)]=some (oV (ou c x),[]):=by
 have c1:=λfr=>call2 (fr:=fr) (lY (F:=F) (w:=w) (n:=n+1) hs hf c x (by omega) (by omega));have c2:=λ(h:aG c x=true) fr=>call2 (fr:=fr) (D4 (F:=F) (w:=w) (n:=n) hs hf hd c x (by omega) (by omega) (by omega) h);refine bX h rfl (ai (bS (af:=[some (.val (aC c)),some (.val (.str x))]) (gm (b:=aG c x) (aB rfl (bB (aI rfl (aq rfl) (aI rfl (aq rfl) aO)) (c1 _)) rfl) (λz=>?_) λz=>?_) ⟨rfl,rfl⟩))
 .unfold ou;rw[if_pos z];exact bB (aI rfl (aq rfl) (aI rfl (aq rfl) aO)) (c2 z _)
 .unfold ou;rw[if_neg (by rw[z];decide)];exact aF rfl
noncomputable def ku(k:List (Int×List Nat))(s:Nat)(m:Nat):List Nat:=((List.range m).map λ(p:Nat)=>(Ev.b7 k (p:Int)).getD [s]).flatten
theorem mw(h:F[i]?=some iU)(k:List (Int×List Nat))(s m:Nat)(hm:m<=1000)(hl:(ku k s m).length<=1000):run F w (n+1) i [.val (.int (m:Nat)),.val (.dct k),.val (.str [s])]=some (.str (ku k s m),[]):=by
 have jn:=yU (l:=(List.range m).map λ(p:Nat)=>(Ev.b7 k (p:Int)).getD [s]) (Nat.le_trans hl (by decide));rw[List.map_map]at jn;refine bX h rfl (ai (bS (za rfl (aF rfl) (aj (eV (qb (aj (aq rfl) az) (Mb (by omega) rfl)) rfl (dR (λ(p:Nat)=>V.int (0+(p:Nat))) (λp=>V.str ((Ev.b7 k (p:Int)).getD [s])) (List.range m) λp _=>eG rfl (OF (aq rfl) (aq rfl) (aq rfl) ?_)) (cj (bO (by simp;omega)))) az) jn) ⟨rfl,rfl⟩));simp only[uD,Int.zero_add];cases Ev.b7 k (p:Int)<;>rfl
theorem Mn{k:List (Int×List Nat)}{s:Nat}{a:List (List Nat)}(h:∀(p:Nat) y,a[p]?=some y->(Ev.b7 k (p:Int)).getD [s]=[y.headD s]):ku k s a.length=aM s a:=by
 have e:((List.range a.length).map λ(p:Nat)=>(Ev.b7 k (p:Int)).getD [s])=a.map λy=>[y.headD s]:=by
  apply List.ext_getElem?;intro p;by_cases hp:p<a.length
  .have e:=List.getElem?_eq_getElem hp;simp only[List.getElem?_map,e,Option.map];rw[List.getElem?_range hp];simp[h p _ e]
  .rw[List.getElem?_eq_none (by simp;omega),List.getElem?_eq_none (by simp;omega)]
 unfold ku aM;rw[e];clear h e;induction a with
 |nil=>rfl
 |cons y a ih=>rw[List.map_cons,List.map_cons,List.flatten_cons,ih];rfl
theorem rB(hd:F[i]?=some fU){c:List Pt}{k:List (Int×List Nat)}(e:bh (c.map Pt.v) 0 []=some k):run F w (n+1) i [.val (aC c)]=some (.dct k,[]):=by
 have bad:exs (run F w n) w fU.body (eO fU [.val (aC c)])=.bad:=by
  show exs _ _ (.cons (.set 1 .ig) _) _=_;rw[exs,ex,ev];rfl
 rw[run_eq hd rfl,bad];have fb:fin fU [.val (aC c)] .bad=xm fU [.val (aC c)]:=by simp only[fin]
 rw[fb];unfold xm;rw[if_pos rfl];show(bh (c.map Pt.v) 0 []).map _=_;rw[e];rfl
theorem kK(hs:F[aU]?=some dU)(hb:F[bP]?=some (fY aU))(hd:F[iK]?=some fU)(hfl:F[cQ]?=some iU)(h:F[i]?=some (nJ iK cQ bP))(c:List Pt)(b1:tot c<=900)(l1:c.length<=900) :
  run F w (n+3) i [.val (aC c)]=some (.lst [.str (aM 97 (asks c)),.str (aM 98 (asks c))],[]):=by
 have nd:=jq c;obtain⟨k,e1,_,e3,e4⟩:=rq c (dB 97 c) (by omega);have r1:=λfr=>eF (fr:=fr) (rB (F:=F) (w:=w) (n:=n+1) hd e1);have r2:=λfr=>eF (fr:=fr) (lR (F:=F) (w:=w) (n:=n) hs hb c (by omega) (by omega));have la:=dW c;have ba:aJ c<=tot c:=by have:=iJ c;omega
 have fq:∀s,ku k s (aJ c)=aM s (asks c):=λs=>by
  rw[<-la];refine Mn λp y e=>?_;rcases dz (List.mem_of_getElem? e)with rfl|⟨x,rfl⟩
  .cases ev:Ev.b7 k (p:Int)with
   |none=>rfl
   |some u=>
    obtain⟨i1,c1,h1,h2,h3⟩:=(e3 _ (dB 97 c)).val ev;obtain⟨i2,c2,g1,g2,g3⟩:=(e3 _ (dB 98 c)).val ev;have z1:i1=p:=by omega
    have z2:i2=p:=by omega
    subst z1 z2;rw[gY e]at h2 g2;cases h2;cases g2;rw[h3]at g3;simp at g3
  .have hh:=e4 p x e;unfold eZ at hh;cases ev:Ev.b7 k (p:Int)with
   |none=>rw[ev]at hh;cases hh
   |some u=>
    obtain⟨i1,c1,h1,h2,h3⟩:=(e3 _ (dB 97 c)).val ev;have z1:i1=p:=by omega
    subst z1;rw[gY e]at h2;cases h2;rw[h3];rfl
 have r3:∀s fr,eE (run F w (n+2)) cQ [.inr (.int (aJ c:Nat)),.inr (.dct k),.inr (.str [s])] fr=.ok (.str (aM s (asks c))) fr:=λs fr=>by
  rw[<-fq];exact fH (fr:=fr) (mw (F:=F) (w:=w) (n:=n+1) hfl k s (aJ c) (by omega) (by rw[fq,iT];omega))
 refine bX h rfl ?_;refine ai (aW (bB (aI rfl (aq rfl) aO) (r1 _)) rfl rfl ?_);refine ai (bS (eV (cy (aF rfl) rfl) rfl (dR (λs:Nat=>V.str [s]) (λs=>V.str (aM s (asks c))) [97,98] λs _=>eG rfl (bB (aI rfl (bB (aI rfl (aq rfl) aO) (r2 _)) (aI rfl (aq rfl) (aI rfl (aq rfl) aO))) (r3 s _))) sW) ⟨rfl,rfl⟩)
theorem vp{c:List Pt}{x:List Nat}(h:aG c x=true):ou c x=some (aQ c x):=if_pos h
theorem zv{c d:List Pt}:Wi c d↔ou c (aM 97 (asks c))=ou d (aM 97 (asks c))/\ou c (aM 98 (asks c))=ou d (aM 98 (asks c)):=by
 have key:∀s,ou c (aM s (asks c))=ou d (aM s (asks c))↔aG d (aM s (asks c))=true/\aQ c (aM s (asks c))=aQ d (aM s (asks c)):=λs=>by
  rw[vp (dB s c)];unfold ou;split
  .rename_i h;simp[h]
  .rename_i h;simp[h]
 rw[key,key];exact⟨λh=>⟨⟨h.fa,h.da⟩,h.fb,h.db⟩,λh=>⟨h.1.1,h.2.1,h.1.2,h.2.2⟩⟩
open Classical in
noncomputable def fK(c d:List Pt):Bool:=decide (Wi c d)
theorem oh{c d:List Pt}:fK c d=true↔Wi c d:=by unfold fK;simp
theorem zw(hs:F[aU]?=some dU)(hb:F[bP]?=some (fY aU))(hd:F[iK]?=some fU)(hfl:F[cQ]?=some iU)(hf:F[cU]?=some (j7 aU))(hdn:F[jr]?=some (qi cU))(ho:F[fk]?=some (nI cU jr))(Fj:F[fy]?=some (nJ iK cQ bP))(h:F[i]?=some (Ef fy fk))
  (c d:List Pt) (b1:tot c<=900) (b2:tot d<=900) (l1:c.length<=900) (l2:d.length<=900):run F w (n+5) i [.val (aC c),.val (aC d)]=some (.bl (fK c d),[]):=by
 have r1:=λfr=>eF (fr:=fr) (kK (F:=F) (w:=w) (n:=n+1) hs hb hd hfl Fj c b1 l1);have ba:aJ c<=tot c:=by have:=iJ c;omega
 have ln:∀s,(aM s (asks c)).length<=2000:=λs=>by rw[iT,dW];omega
 have r2:=λs fr=>call2 (fr:=fr) (jc (F:=F) (w:=w) (n:=n) hs hf hdn ho c (aM s (asks c)) (by omega) (by omega) (ln s));have r3:=λs fr=>call2 (fr:=fr) (jc (F:=F) (w:=w) (n:=n) hs hf hdn ho d (aM s (asks c)) (by omega) (by omega) (ln s));have al:cS .all [.lst ([97,98].map λs=>V.bl (decide (ou c (aM s (asks c))=ou d (aM s (asks c)))))]=some (.bl (fK c d)):=by
  rw[qV];show some (V.bl (decide _&&(decide _&&true)))=_;refine congrArg (λb=>some (V.bl b)) ?_;rw[Bool.eq_iff_iff,oh,zv];simp
 exact bX h rfl (ai (bS (dh (aj (eV (cy (bB (aI rfl (aq rfl) aO) (r1 _)) rfl) rfl (dR (λs:Nat=>V.str (aM s (asks c))) (λs=>V.bl (decide (ou c (aM s (asks c))=ou d (aM s (asks c))))) [97,98] λs _=>eG rfl (aS (bB (aI rfl (aq rfl) (aI rfl (aq rfl) aO)) (r2 s _)) (bB (aI rfl (aq rfl) (aI rfl (aq rfl) aO)) (r3 s _)) (zu _ _))) sW) az) al) ⟨rfl,rfl⟩))
inductive PR(c d:List Pt):V->Prop
 |no:aP c=aP d->PR c d .aH
 |yes {x:List Nat}:aP c≠aP d->ou c x≠ou d x->x.length<=tot c+tot d->PR c d (.str x)
theorem vV(hs:F[aU]?=some dU)(hb:F[bP]?=some (fY aU))(hd:F[iK]?=some fU)(hfl:F[cQ]?=some iU)(hf:F[cU]?=some (j7 aU))(hdn:F[jr]?=some (qi cU))(ho:F[fk]?=some (nI cU jr))(Fj:F[fy]?=some (nJ iK cQ bP))(h:F[i]?=some (nK fy fk))
  (c d:List Pt) (b1:tot c<=900) (b2:tot d<=900) (l1:c.length<=900) (l2:d.length<=900):∃v,run F w (n+5) i [.val (aC c),.val (aC d)]=some (v,[])/\PR c d v:=by
 have r1:=λfr=>eF (fr:=fr) (kK (F:=F) (w:=w) (n:=n+1) hs hb hd hfl Fj c b1 l1);have r2:=λfr=>eF (fr:=fr) (kK (F:=F) (w:=w) (n:=n+1) hs hb hd hfl Fj d b2 l2);have ba:aJ c<=tot c:=by have:=iJ c;omega
 have bd:aJ d<=tot d:=by have:=iJ d;omega
 have ln:∀x∈[aM 97 (asks c),aM 98 (asks c),aM 97 (asks d),aM 98 (asks d)],x.length<=tot c+tot d:=λx hx=>by
  simp only[List.mem_cons,List.mem_nil_iff,or_false]at hx;rcases hx with rfl|rfl|rfl|rfl<;>rw[iT,dW]<;>omega
 have ad:bL .add (.lst [.str (aM 97 (asks c)),.str (aM 98 (asks c))]) (.lst [.str (aM 97 (asks d)),.str (aM 98 (asks d))])=some (.lst ([aM 97 (asks c),aM 98 (asks c),aM 97 (asks d),aM 98 (asks d)].map V.str)):=gM (by simp);have key:Wp (exs (run F w (n+4)) w (nK fy fk).body (eO (nK fy fk) [.val (aC c),.val (aC d)])) λg fr=>∃v,PR c d v/\g=.ret v/\outs 2 fr=[]:=by
  refine ai (gn (vs:=[aM 97 (asks c),aM 98 (asks c),aM 97 (asks d),aM 98 (asks d)].map V.str) (af:=[some (.val (aC c)),some (.val (aC d)),none]) (cy (bf (bB (aI rfl (aq rfl) aO) (r1 _)) (bB (aI rfl (aq rfl) aO) (r2 _)) ad) rfl) ?_);refine dj (e:=V.str) (λp l fr=>p++l=[aM 97 (asks c),aM 98 (asks c),aM 97 (asks d),aM 98 (asks d)]/\(∀x∈p,ou c x=ou d x)/\∃a,vo a/\fr=[some (.val (aC c)),some (.val (aC d)),a]) (λp x l fr ⟨hp,ha,a,va,hfr⟩=>?_) (λp fr ⟨hp,ha,a,va,hfr⟩=>?_) _ [] _ ⟨rfl,(λx hx=>by cases hx),none,.none,rfl⟩
  .subst hfr;have hx:x∈[aM 97 (asks c),aM 98 (asks c),aM 97 (asks d),aM 98 (asks d)]:=by rw[<-hp];simp
   have lx:=ln x hx;have o1:=λfr=>call2 (fr:=fr) (jc (F:=F) (w:=w) (n:=n) hs hf hdn ho c x (by omega) (by omega) (by omega));have o2:=λfr=>call2 (fr:=fr) (jc (F:=F) (w:=w) (n:=n) hs hf hdn ho d x (by omega) (by omega) (by omega));have ne:cop .ne (oV (ou c x)) (oV (ou d x))=some (!decide (ou c x=ou d x)):=by
    have:=zu (ou c x) (ou d x);rw[iB,show cC deep (oV (ou c x)) (oV (ou d x))=_ from this];rfl
   refine b5 (bind1 rfl va) ?_;by_cases hq:ou c x=ou d x
   .refine ai (aL (b:=false) (aB rfl (aS (bB (aI rfl (aq rfl) (aI rfl (aq rfl) aO)) (o1 _)) (bB (aI rfl (aq rfl) (aI rfl (aq rfl) aO)) (o2 _)) ne) (by rw[decide_eq_true hq];rfl)) (λh=>absurd h (by decide)) λ_=>ay (ay ?_));rw[cH];refine⟨by rw[<-hp,List.append_assoc];rfl,λy hy=>?_,_,.val,rfl⟩;rcases List.mem_append.mp hy with hy|hy
    .exact ha y hy
    .rw[List.mem_singleton]at hy;subst hy;exact hq
   .refine ai (aL (b:=true) (aB rfl (aS (bB (aI rfl (aq rfl) (aI rfl (aq rfl) aO)) (o1 _)) (bB (aI rfl (aq rfl) (aI rfl (aq rfl) aO)) (o2 _)) ne) (by rw[decide_eq_false hq];rfl)) (λ_=>?_) λh=>absurd h (by decide));refine ai (bS (aq rfl) ?_);refine⟨.str x,.yes (λz=>hq ?_) hq lx,rfl,rfl⟩;unfold ou;rw[<-u9 c,<-u9 d,<-sH c,<-sH d,z]
  .subst hfr;rw[List.append_nil]at hp;subst hp;refine ai (bS (aF rfl) ⟨.aH,.no ?_,rfl,rfl⟩);exact(zv.mpr ⟨ha _ (by simp),ha _ (by simp)⟩).anti (zv.mpr ⟨(ha _ (by simp)).symm,(ha _ (by simp)).symm⟩)
 obtain⟨g,fr,e,v,hv,hg,ho⟩:=key;exact⟨v,bX h rfl ⟨g,fr,e,hg,ho⟩,hv⟩
theorem Fp{t:List Nat}(hd:F[i]?=some fU):∀(rows:List (List Pt)) (k:List (Int×List Nat)),(∀c∈rows,aG c t=true/\nD c<=1000)->KE t k->k.length+(rows.map nD).sum<=10000->∃K,jV (run F w (n+1)) i (rows.map aC) k=some K/\KE t K/\(∀q,eZ k q->eZ K q)/\∀c∈rows,∀p x,(asks c)[p]?=some [x]->eZ K (p:Nat)
 |[],k,_,h,_=>⟨k,rfl,h,λ_ h=>h,λc hc=>by cases hc⟩
 |c :: rows,k,hr,h,hb=>by
  obtain⟨h1,h2⟩:=hr c (.head _);obtain⟨m,e1,e2,e3,e4⟩:=rq c h1 h2;rw[List.map_cons,List.sum_cons]at hb;have ml:(Ev.cg k m).length<=k.length+m.length:=by
   have:∀(m k:List (Int×List Nat)),(Ev.cg k m).length<=k.length+m.length:=λm=>by
    induction m with
    |nil=>intro k;exact Nat.le_refl _
    |cons p m ih=>intro k;have:=ih (Ev.cI k p.1 p.2);have:=oZ k p.1 p.2;show(Ev.cg (Ev.cI k p.1 p.2) m).length<=_;rw[List.length_cons];omega
   exact this m k
  obtain⟨K,g1,g2,g3,g4⟩:=Fp hd rows (Ev.cg k m) (λx hx=>hr x (.tail _ hx)) (h.merge (e3 t h1)) (by omega);refine⟨K,?_,g2,λq hq=>g3 q (nE (.inl hq)),λx hx p y e=>?_⟩
  .rw[List.map_cons,jV,rB hd e1];show(if k.length+m.length<=100000 then _ else none)=_;rw[if_pos (by omega)];exact g1
  .rcases List.mem_cons.mp hx with rfl|hx
   .exact g3 _ (nE (.inr (e4 p y e)))
   .exact g4 x hx p y e
theorem vW{s0:Sl}{os:List (List V)}(hs:F[aU]?=some dU)(hb:F[bP]?=some (fY aU))(hd:F[iK]?=some fU)(hfl:F[cQ]?=some iU)(hf:F[cU]?=some (j7 aU))(h:F[i]?=some (sL iK cQ bP cU))(t:List Nat)(c0:List Pt)(rows:List (List Pt))(hr:∀c∈c0 :: rows,aG c t=true/\tot c<=900/\c.length<=900)(hl:rows.length<=10)(hS:Hd ((c0 :: rows).map aC) s0 os) :
  ∃u,run F w (n+3) i [s0]=some (.str u,os)/\u.length=t.length/\∀c∈c0 :: rows,aG c u=true:=by
 have nb:∀l:List (List Pt),(∀c∈l,tot c<=900)->(l.map nD).sum<=l.length*900:=λl=>by
  induction l with
  |nil=>intro _;simp
  |cons c l ih=>
   intro q;have:=ih λx hx=>q x (.tail _ hx);have:=q c (.head _);have:=jq c;rw[List.map_cons,List.sum_cons,List.length_cons,Nat.add_mul];omega
 have nb:=nb (c0 :: rows) λc hc=>(hr c hc).2.1;rw[List.length_cons]at nb;obtain⟨K,k1,k2,_,k4⟩:=Fp (w:=w) (n:=n+1) (t:=t) hd (c0 :: rows) [] (λc hc=>⟨(hr c hc).1,by have:=(hr c hc).2.1;have:=jq c;omega⟩) (λe he=>by cases he) (by
  have:(rows.length+1)*900<=11*900:=Nat.mul_le_mul_right _ (by omega);simp only[List.length_nil];omega)
 obtain⟨h1,h2,h3⟩:=hr c0 (.head _);have et:=gX h1;have ba:aJ c0<=tot c0:=by have:=iJ c0;omega
 have vk:∀p:Nat,Ev.b7 K (p:Int)=none\/∃c,t[p]?=some c/\Ev.b7 K (p:Int)=some [c]:=λp=>by
  cases ev:Ev.b7 K (p:Int)with
  |none=>exact .inl rfl
  |some u=>
   obtain⟨j,c,g1,g2,g3⟩:=k2.val ev;have:j=p:=by omega
   subst this;exact .inr ⟨c,g2,by rw[g3]⟩
 have fu:ku K 97 t.length=(List.range t.length).map λ(p:Nat)=>((Ev.b7 K (p:Int)).getD [97]).headD 0:=by
  unfold ku;generalize t.length=m
  have:∀l:List Nat,(l.map λ(p:Nat)=>(Ev.b7 K (p:Int)).getD [97]).flatten=l.map λ(p:Nat)=>((Ev.b7 K (p:Int)).getD [97]).headD 0:=λl=>by
   induction l with
   |nil=>rfl
   |cons p l ih=>
    rw[List.map_cons,List.map_cons,List.flatten_cons,ih];rcases vk p with z|⟨c,_,z⟩<;>rw[z]<;>rfl
  exact this _
 have lu:(ku K 97 t.length).length=t.length:=by rw[fu];simp
 have ff:∀c∈c0 :: rows,aG c (ku K 97 t.length)=true:=λc hc=>by
  have hc1:=(hr c hc).1;rw[iI,gO];refine⟨by rw[lu,dW,gX hc1],λp y x e1 e2=>?_⟩;rcases dz (List.mem_of_getElem? e1)with rfl|⟨z,rfl⟩
  .exact .inl rfl
  .refine .inr ?_;have hh:=k4 c hc p z e1;have ha:=nH hc1 e1;rcases vk p with q|⟨c',q1,q2⟩
   .unfold eZ at hh;rw[q]at hh;cases hh
   .rw[ha]at q1;cases q1;have hp:p<t.length:=(List.getElem?_eq_some_iff.mp ha).1;rw[fu,List.getElem?_map,List.getElem?_range hp]at e2;simp[q2]at e2;rw[e2]
 refine⟨ku K 97 t.length,?_,lu,ff⟩;have rb:=λfr=>eF (fr:=fr) (lR (F:=F) (w:=w) (n:=n) hs hb c0 (by omega) (by omega));rw[<-et]at rb;have rf:=λfr=>fH (fr:=fr) (mw (F:=F) (w:=w) (n:=n+1) hfl K 97 t.length (by omega) (by omega));generalize ku K 97 t.length=u at lu ff rf
 have ri:=λc (hc:c∈c0 :: rows) fr=>call2 (fr:=fr) (lY (F:=F) (w:=w) (n:=n) hs hf c u (by have:=(hr c hc).2.1;omega) (by omega));have al:cS .all [.lst ((c0 :: rows).map λc=>V.bl (aG c u))]=some (.bl true):=by
  rw[qV];have:∀l:List (List Pt),(∀c∈l,aG c u=true)->(boolsOf (l.map λc=>V.bl (aG c u))).map (λbs=>V.bl (bs.all id))=some (.bl true):=λl=>by
   induction l with
   |nil=>intro _;rfl
   |cons c l ih=>
    intro q;have:=ih λx hx=>q x (.tail _ hx);rw[List.map_cons,q c (.head _)];cases e:boolsOf (l.map λc=>V.bl (aG c u))with
    |none=>rw[e]at this;cases this
    |some bs=>
     rw[e]at this;simp only[boolsOf,e,Option.map]at this ⊢;simpa using this
  exact this _ ff
 have g1:∀k a b c d,qO k [some s0.walk,a,b,c,d] 0=some (.lst ((c0 :: rows).map aC)):=λk _ _ _ _=>by cases hS<;>rfl
 have g2:∀a b c d,gH true [some s0.walk,a,b,c,d] 0=some (.lst ((c0 :: rows).map aC)):=λ_ _ _ _=>by cases hS<;>rfl
 have g3:s0.walk.dg=s0.walk:=by cases hS<;>rfl
 have g4:∀a b c d,outs 1 [some s0.walk,a,b,c,d]=os:=λ_ _ _ _=>by cases hS<;>rfl
 have BO:ek (.lst ((c0 :: rows).map aC)) (.int 0)=some (aC c0):=by rw[kT,jk (by decide)];rfl
 obtain⟨cl,hcl⟩:∃v,((c0 :: rows).map aC).getLast?=some v:=⟨_,List.getLast?_eq_some_getLast (by simp)⟩
 have lp:iY [some s0.walk,some (.val (.dct K)),none,none,none] 2 ((c0 :: rows).map aC)=some [some s0.walk,some (.val (.dct K)),some (.val cl),none,none]:=by unfold iY;rw[hcl];rfl
 refine bX h rfl ?_;refine ai (A9 (af:=[some s0.walk,none,none,none,none]) (av:=[some s0.walk,some (.val (.dct K)),none,none,none]) ⟨by decide,by decide,by show 1<5;decide,by show 2<5;decide⟩ (cy (bV (g1 _ _ _ _ _)) rfl) k1 rfl lp ?_);refine ai (aW (af:=[some s0.walk,some (.val (.dct K)),some (.val cl),none,none]) (bB (aI rfl (bB (aI rfl (cX (aq (g2 _ _ _ _)) (aF rfl) BO) aO) (rb _)) (aI rfl (aq rfl) (aI rfl (cX (aF rfl) (aF rfl) rfl) aO))) (rf _)) rfl rfl ?_);refine ai (aL (b:=true) (af:=[some s0.walk,some (.val (.dct K)),some (.val cl),some (.val (.str u)),none]) (aB rfl (dh (aj (eV (cy (bV (g1 _ _ _ _ _)) rfl) rfl (dR aC (λc=>V.bl (aG c u)) (c0 :: rows) λc hc=>eG rfl (bB (aI rfl (aq rfl) (aI rfl (aq rfl) aO)) (ri c hc _))) (cj (bO (by simp;omega)))) az) al) rfl) (λ_=>?_) λh=>absurd h (by decide));have sh:fF [some s0.walk,some (.val (.dct K)),some (.val cl),some (.val (.str u)),none]=[some s0.walk,some (.val (.dct K)),some (.val cl),some (.val (.str u)),none]:=by
  show some s0.walk.dg :: _=_;rw[g3];rfl
 refine ai (bS (af:=[some s0.walk,some (.val (.dct K)),some (.val cl),some (.val (.str u)),none]) ?_ ⟨rfl,g4 _ _ _ _⟩);rw[sh];exact aq rfl
end
end Pv
namespace Pv
open Ev (D bQ bK TY BI ME T E Es Eo It S Ss Fn big deep rep cut bM)
noncomputable def K1(k:List (Int×List Nat)):Prop:=∀e∈k,∃c:Nat,e.2=[c]
theorem KE.k1{t:List Nat}{k:List (Int×List Nat)}(h:KE t k):K1 k:=λe he=>by
 obtain⟨_,c,_,_,h3⟩:=h e he;exact⟨c,h3⟩
theorem K1.merge:∀{m k:List (Int×List Nat)},K1 k->K1 m->K1 (Ev.cg k m)
 |[],_,h,_=>h
 |e :: m,k,h,g=>by
  show K1 (Ev.cg (Ev.cI k e.1 e.2) m);refine K1.merge (λx hx=>?_) λx hx=>g x (.tail _ hx);rcases vj hx with hx|⟨_,h2⟩
  .exact h x hx
  .rw[h2];exact g e (.head _)
theorem K1.val{k:List (Int×List Nat)}(h:K1 k)(p:Int)(s:Nat):((Ev.b7 k p).getD [s]).length=1:=by
 cases e:Ev.b7 k p with
 |none=>rfl
 |some u=>
  unfold Ev.b7 at e;obtain⟨q,e1,rfl⟩:=Option.map_eq_some_iff.mp e;obtain⟨c,h3⟩:=h q (List.mem_of_find?_eq_some e1);rw[Option.getD_some,h3];rfl
theorem Mp{k:List (Int×List Nat)}(h:K1 k)(s m:Nat):(ku k s m).length=m:=by
 unfold ku;have:∀l:List Nat,((l.map λ(p:Nat)=>(Ev.b7 k (p:Int)).getD [s]).flatten).length=l.length:=λl=>by
  induction l with
  |nil=>rfl
  |cons p l ih=>rw[List.map_cons,List.flatten_cons,List.length_append,ih,h.val,List.length_cons];omega
 rw[this,List.length_range]
noncomputable def iL(rows:List (List Pt)):Bool:=by
 classical exact decide (¬ ∃t,∀c∈rows,aG c t=true)
theorem jM{rows:List (List Pt)}:iL rows=false↔∃t,∀c∈rows,aG c t=true:=by
 unfold iL;simp
theorem Mq{r q:List (List Pt)}(h:∀t,(∀c∈r,aG c t=true)↔∀c∈q,aG c t=true):iL r=iL q:=by
 have:iL r=false↔iL q=false:=by rw[jM,jM];exact exists_congr h
 cases h1:iL r<;>cases h2:iL q<;>simp[h1,h2]at this ⊢
theorem vq(o:Option (List Nat)):Pv.cop .jA (oV o) .aH=some o.isNone:=by cases o<;>rfl
theorem xX(o:Option (List Nat)):Pv.cop .jR (oV o) .aH=some (!o.isNone):=by cases o<;>rfl
section
variable{F:List Fn}{w n aU bP iK cQ cU i:Nat}
theorem BP(hd:F[i]?=some fU):∀(rows:List (List Pt)) (k:List (Int×List Nat)),(∀c∈rows,(∃t,aG c t=true)/\nD c<=1000)->K1 k->k.length+(rows.map nD).sum<=10000->∃K,jV (run F w (n+1)) i (rows.map aC) k=some K/\K1 K
 |[],k,_,h,_=>⟨k,rfl,h⟩
 |c :: rows,k,hr,h,hb=>by
  obtain⟨⟨t,h1⟩,h2⟩:=hr c (.head _);obtain⟨m,e1,e2,e3,_⟩:=rq c h1 h2;rw[List.map_cons,List.sum_cons]at hb;have ml:(Ev.cg k m).length<=k.length+m.length:=by
   have:∀(m k:List (Int×List Nat)),(Ev.cg k m).length<=k.length+m.length:=λm=>by
    induction m with
    |nil=>intro k;exact Nat.le_refl _
    |cons p m ih=>intro k;have:=ih (Ev.cI k p.1 p.2);have:=oZ k p.1 p.2;show(Ev.cg (Ev.cI k p.1 p.2) m).length<=_;rw[List.length_cons];omega
   exact this m k
  obtain⟨K,g1,g2⟩:=BP hd rows (Ev.cg k m) (λx hx=>hr x (.tail _ hx)) (h.merge (e3 t h1).k1) (by omega);refine⟨K,?_,g2⟩;rw[List.map_cons,jV,rB hd e1];show(if k.length+m.length<=100000 then _ else none)=_;rw[if_pos (by omega)];exact g1
theorem BQ(u:List Nat):∀l:List (List Pt),(boolsOf (l.map λc=>V.bl (aG c u))).map (λbs=>V.bl (bs.all id))=some (.bl (l.all λc=>aG c u))
 |[]=>rfl
 |c :: l=>by
  have:=BQ u l;rw[List.map_cons];cases e:boolsOf (l.map λc=>V.bl (aG c u))with
  |none=>rw[e]at this;cases this
  |some bs=>
   rw[e]at this;simp only[boolsOf,e,Option.map]at this ⊢;simp only[Option.some.injEq,V.bl.injEq]at this ⊢;rw[List.all_cons,List.all_cons,this];rfl
theorem vX{s0:Sl}{os:List (List V)}(hs:F[aU]?=some dU)(hb:F[bP]?=some (fY aU))(hd:F[iK]?=some fU)(hfl:F[cQ]?=some iU)(hf:F[cU]?=some (j7 aU))(h:F[i]?=some (sL iK cQ bP cU))(c0:List Pt)(rows:List (List Pt))(hr:∀c∈c0 :: rows,(∃t,aG c t=true)/\tot c<=900/\c.length<=900)(hl:rows.length<=10)(hS:Hd ((c0 :: rows).map aC) s0 os) :
  ∃o,run F w (n+3) i [s0]=some (oV o,os)/\o.isNone=iL (c0 :: rows)/\∀u,o=some u->u.length=aJ c0/\∀c∈c0 :: rows,aG c u=true:=by
 cases hno:iL (c0 :: rows)with
 |false=>
  obtain⟨t,ht⟩:=jM.mp hno;obtain⟨u,r,l,f⟩:=vW (w:=w) (n:=n) hs hb hd hfl hf h t c0 rows (λc hc=>⟨ht c hc,(hr c hc).2⟩) hl hS;exact⟨some u,r,rfl,λv e=>by cases e;exact⟨by rw[l,gX (ht c0 (.head _))],f⟩⟩
 |true=>
  have hno:¬ ∃t,∀c∈c0 :: rows,aG c t=true:=λz=>by rw[jM.mpr z]at hno;cases hno
  refine⟨none,?_,rfl,λu e=>by cases e⟩;have nb:∀l:List (List Pt),(∀c∈l,tot c<=900)->(l.map nD).sum<=l.length*900:=λl=>by
   induction l with
   |nil=>intro _;simp
   |cons c l ih=>
    intro q;have:=ih λx hx=>q x (.tail _ hx);have:=q c (.head _);have:=jq c;rw[List.map_cons,List.sum_cons,List.length_cons,Nat.add_mul];omega
  have nb:=nb (c0 :: rows) λc hc=>(hr c hc).2.1;rw[List.length_cons]at nb;obtain⟨K,k1,k2⟩:=BP (w:=w) (n:=n+1) hd (c0 :: rows) [] (λc hc=>⟨(hr c hc).1,by have:=(hr c hc).2.1;have:=jq c;omega⟩) (λe he=>by cases he) (by
   have:(rows.length+1)*900<=11*900:=Nat.mul_le_mul_right _ (by omega);simp only[List.length_nil];omega)
  obtain⟨h1,h2,h3⟩:=hr c0 (.head _);have ba:aJ c0<=tot c0:=by have:=iJ c0;omega
  have lu:=Mp k2 97 (aJ c0);have rb:=λfr=>eF (fr:=fr) (lR (F:=F) (w:=w) (n:=n) hs hb c0 (by omega) (by omega));have rf:=λfr=>fH (fr:=fr) (mw (F:=F) (w:=w) (n:=n+1) hfl K 97 (aJ c0) (by omega) (by omega));generalize ku K 97 (aJ c0)=u at lu rf
  have ri:=λc (hc:c∈c0 :: rows) fr=>call2 (fr:=fr) (lY (F:=F) (w:=w) (n:=n) hs hf c u (by have:=(hr c hc).2.1;omega) (by omega));have al:cS .all [.lst ((c0 :: rows).map λc=>V.bl (aG c u))]=some (.bl false):=by
   rw[qV,BQ];cases e:(c0 :: rows).all λc=>aG c u with
   |false=>rfl
   |true=>exact absurd ⟨u,List.all_eq_true.mp e⟩ hno
  have g1:∀k a b c d,qO k [some s0.walk,a,b,c,d] 0=some (.lst ((c0 :: rows).map aC)):=λk _ _ _ _=>by cases hS<;>rfl
  have g2:∀a b c d,gH true [some s0.walk,a,b,c,d] 0=some (.lst ((c0 :: rows).map aC)):=λ_ _ _ _=>by cases hS<;>rfl
  have g4:∀a b c d,outs 1 [some s0.walk,a,b,c,d]=os:=λ_ _ _ _=>by cases hS<;>rfl
  have BO:ek (.lst ((c0 :: rows).map aC)) (.int 0)=some (aC c0):=by rw[kT,jk (by decide)];rfl
  obtain⟨cl,hcl⟩:∃v,((c0 :: rows).map aC).getLast?=some v:=⟨_,List.getLast?_eq_some_getLast (by simp)⟩
  have lp:iY [some s0.walk,some (.val (.dct K)),none,none,none] 2 ((c0 :: rows).map aC)=some [some s0.walk,some (.val (.dct K)),some (.val cl),none,none]:=by unfold iY;rw[hcl];rfl
  refine bX h rfl ?_;refine ai (A9 (af:=[some s0.walk,none,none,none,none]) (av:=[some s0.walk,some (.val (.dct K)),none,none,none]) ⟨by decide,by decide,by show 1<5;decide,by show 2<5;decide⟩ (cy (bV (g1 _ _ _ _ _)) rfl) k1 rfl lp ?_);refine ai (aW (af:=[some s0.walk,some (.val (.dct K)),some (.val cl),none,none]) (bB (aI rfl (bB (aI rfl (cX (aq (g2 _ _ _ _)) (aF rfl) BO) aO) (rb _)) (aI rfl (aq rfl) (aI rfl (cX (aF rfl) (aF rfl) rfl) aO))) (rf _)) rfl rfl ?_);refine ai (aL (b:=false) (af:=[some s0.walk,some (.val (.dct K)),some (.val cl),some (.val (.str u)),none]) (aB rfl (dh (aj (eV (cy (bV (g1 _ _ _ _ _)) rfl) rfl (dR aC (λc=>V.bl (aG c u)) (c0 :: rows) λc hc=>eG rfl (bB (aI rfl (aq rfl) (aI rfl (aq rfl) aO)) (ri c hc _))) (cj (bO (by simp;omega)))) az) al) rfl) (λh=>absurd h (by decide)) λ_=>ay ?_);have g3:s0.walk.dg=s0.walk:=by cases hS<;>rfl
  have sh:fF [some s0.walk,some (.val (.dct K)),some (.val cl),some (.val (.str u)),none]=[some s0.walk,some (.val (.dct K)),some (.val cl),some (.val (.str u)),none]:=by
   show some s0.walk.dg :: _=_;rw[g3];rfl
  refine ai (bS (af:=[some s0.walk,some (.val (.dct K)),some (.val cl),some (.val (.str u)),none]) ?_ ⟨rfl,g4 _ _ _ _⟩);rw[sh];exact aF rfl
end
end Pv
set_option maxRecDepth 100000
namespace Lw
@[reducible] noncomputable def S6:Ev.S:=.iff (.cmp .eq (.ix (.v 0) (.c (.int 0))) (.c (.str [107,101,101,112]))) (.cons (.ret (.ix (.v 0) (.c (.int 1)))) .nil) .nil
@[reducible] noncomputable def S7:Ev.S:=.ret (.bi .len (.cons (.ix (.v 0) (.c (.int 1))) .nil))
@[reducible] noncomputable def f0:Ev.Fn:=⟨1,1,(.cons S6 (.cons S7 .nil))⟩
@[reducible] noncomputable def S8:Ev.S:=.ret (.bi .sum (.cons (.comp (.cl 0 (.cons (.v 1) .nil)) (.one 1) (.seq (.v 0)) (.yes (.cmp .ne (.ix (.v 1) (.c (.int 0))) (.c (.str [112,117,116]))))) .nil))
@[reducible] noncomputable def f1:Ev.Fn:=⟨1,2,(.cons S8 .nil)⟩
@[reducible] noncomputable def S9:Ev.S:=.set 1 (.lst .nil)
@[reducible] noncomputable def Tc:Ev.S:=.set 2 (.c (.int 0))
@[reducible] noncomputable def Td:Ev.S:=.set 3 (.c (.str []))
@[reducible] noncomputable def Te:Ev.S:=.set 4 (.c (.str []))
@[reducible] noncomputable def Tf:Ev.Ss:=(.cons (.iff (.cmp .eq (.v 5) (.c (.str [100,114,111,112]))) (.cons (.set 3 (.bin .add (.v 3) (.v 6))) .nil) (.cons (.iff (.cmp .eq (.v 5) (.c (.str [112,117,116]))) (.cons (.set 4 (.bin .add (.v 4) (.v 6))) .nil) (.cons (.iff (.cmp .gt (.v 6) (.c (.int 0))) (.cons (.iff (.orr (.cmp .ne (.v 3) (.c (.str []))) (.cmp .ne (.v 4) (.c (.str [])))) (.cons (.exp (.me .extend (.v 1) (.cons (.cl 3 (.cons (.v 2) (.cons (.v 3) (.cons (.v 4) .nil)))) .nil))) (.cons (.set 2 (.c (.int 0))) (.cons (.set 3 (.c (.str []))) (.cons (.set 4 (.c (.str []))) .nil)))) .nil) (.cons (.set 2 (.bin .add (.v 2) (.v 6))) .nil)) .nil) .nil)) .nil)) .nil)
@[reducible] noncomputable def Tg:Ev.S:=.for (.many [5,6]) (.seq (.v 0)) Tf
@[reducible] noncomputable def Ti:Ev.S:=.exp (.me .extend (.v 1) (.cons (.cl 3 (.cons (.v 2) (.cons (.v 3) (.cons (.v 4) .nil)))) .nil))
@[reducible] noncomputable def Tj:Ev.S:=.ret (.jg (.v 1))
@[reducible] noncomputable def f2:Ev.Fn:=⟨1,7,(.cons S9 (.cons Tc (.cons Td (.cons Te (.cons Tg (.cons Ti (.cons Tj .nil)))))))⟩
@[reducible] noncomputable def To:Ev.S:=.set 3 (.lst .nil)
@[reducible] noncomputable def Tp:Ev.S:=.iff (.cmp .gt (.v 0) (.c (.int 0))) (.cons (.exp (.me .append (.v 3) (.cons (.tup (.cons (.c (.str [107,101,101,112])) (.cons (.v 0) .nil))) .nil))) .nil) .nil
@[reducible] noncomputable def Tt:Ev.S:=.iff (.cmp .ne (.v 1) (.c (.str []))) (.cons (.exp (.me .append (.v 3) (.cons (.tup (.cons (.c (.str [100,114,111,112])) (.cons (.v 1) .nil))) .nil))) .nil) .nil
@[reducible] noncomputable def Tu:Ev.S:=.iff (.cmp .ne (.v 2) (.c (.str []))) (.cons (.exp (.me .append (.v 3) (.cons (.tup (.cons (.c (.str [112,117,116])) (.cons (.v 2) .nil))) .nil))) .nil) .nil
@[reducible] noncomputable def Tv:Ev.S:=.ret (.v 3)
@[reducible] noncomputable def f3:Ev.Fn:=⟨3,4,(.cons To (.cons Tp (.cons Tt (.cons Tu (.cons Tv .nil)))))⟩
@[reducible] noncomputable def Tw:Ev.S:=.set 2 (.c (.int 0))
@[reducible] noncomputable def Tz:Ev.Ss:=(.cons (.iff (.an (.cmp .eq (.ix (.v 3) (.c (.int 0))) (.c (.str [100,114,111,112]))) (.cmp .ne (.sl (.v 1) (.yes (.v 2)) (.yes (.bin .add (.v 2) (.cl 0 (.cons (.v 3) .nil))))) (.ix (.v 3) (.c (.int 1))))) (.cons (.ret (.c (.bl false))) .nil) .nil) (.cons (.iff (.cmp .ne (.ix (.v 3) (.c (.int 0))) (.c (.str [112,117,116]))) (.cons (.set 2 (.bin .add (.v 2) (.cl 0 (.cons (.v 3) .nil)))) .nil) .nil) .nil))
@[reducible] noncomputable def TF:Ev.S:=.for (.one 3) (.seq (.v 0)) Tz
@[reducible] noncomputable def TH:Ev.S:=.ret (.cmp .eq (.v 2) (.bi .len (.cons (.v 1) .nil)))
@[reducible] noncomputable def f4:Ev.Fn:=⟨2,4,(.cons Tw (.cons TF (.cons TH .nil)))⟩
@[reducible] noncomputable def TJ:Ev.S:=.iff (.nt (.cl 4 (.cons (.v 0) (.cons (.v 1) .nil)))) (.cons (.gR) .nil) .nil
@[reducible] noncomputable def TL:Ev.S:=.set 2 (.lst .nil)
@[reducible] noncomputable def TM:Ev.S:=.set 3 (.c (.int 0))
@[reducible] noncomputable def TN:Ev.Ss:=(.cons (.iff (.cmp .eq (.v 4) (.c (.str [112,117,116]))) (.cons (.exp (.me .append (.v 2) (.cons (.v 5) .nil))) .nil) (.cons (.iff (.cmp .eq (.v 4) (.c (.str [100,114,111,112]))) (.cons (.set 3 (.bin .add (.v 3) (.bi .len (.cons (.v 5) .nil)))) .nil) (.cons (.exp (.me .append (.v 2) (.cons (.sl (.v 1) (.yes (.v 3)) (.yes (.bin .add (.v 3) (.v 5)))) .nil))) (.cons (.set 3 (.bin .add (.v 3) (.v 5))) .nil))) .nil)) .nil)
@[reducible] noncomputable def TQ:Ev.S:=.for (.many [4,5]) (.seq (.v 0)) TN
@[reducible] noncomputable def TR:Ev.S:=.ret (.me .join (.c (.str [])) (.cons (.v 2) .nil))
@[reducible] noncomputable def f5:Ev.Fn:=⟨2,6,(.cons TJ (.cons TL (.cons TM (.cons TQ (.cons TR .nil)))))⟩
@[reducible] noncomputable def TU:Ev.S:=.ret (.cl 2 (.cons (.jg (.comp (.tup (.cons (.jw [(.str [107,101,101,112],.str [107,101,101,112]),(.str [112,117,116],.str [100,114,111,112]),(.str [100,114,111,112],.str [112,117,116])] (.v 1)) (.cons (.v 2) .nil))) (.many [1,2]) (.seq (.v 0)) .no)) .nil))
@[reducible] noncomputable def f6:Ev.Fn:=⟨1,3,(.cons TU .nil)⟩
@[reducible] noncomputable def TV:Ev.S:=.set 1 (.ig)
@[reducible] noncomputable def TX:Ev.S:=.set 2 (.c (.int 0))
@[reducible] noncomputable def TZ:Ev.Ss:=(.cons (.dput (.v 1) (.v 2) (.v 4)) (.cons (.set 2 (.bin .add (.v 2) (.c (.int 1)))) .nil))
@[reducible] noncomputable def T3:Ev.Ss:=(.cons (.iff (.cmp .eq (.ix (.v 3) (.c (.int 0))) (.c (.str [100,114,111,112]))) (.cons (.for (.one 4) (.seq (.ix (.v 3) (.c (.int 1)))) TZ) .nil) (.cons (.iff (.cmp .eq (.ix (.v 3) (.c (.int 0))) (.c (.str [107,101,101,112]))) (.cons (.set 2 (.bin .add (.v 2) (.ix (.v 3) (.c (.int 1))))) .nil) .nil) .nil)) .nil)
@[reducible] noncomputable def T4:Ev.S:=.for (.one 3) (.seq (.v 0)) T3
@[reducible] noncomputable def T5:Ev.S:=.ret (.v 1)
@[reducible] noncomputable def f7:Ev.Fn:=⟨1,5,(.cons TV (.cons TX (.cons T4 (.cons T5 .nil))))⟩
@[reducible] noncomputable def T6:Ev.S:=.ret (.cmp .eq (.cl 2 (.cons (.v 0) .nil)) (.cl 2 (.cons (.v 1) .nil)))
@[reducible] noncomputable def f8:Ev.Fn:=⟨2,2,(.cons T6 .nil)⟩
@[reducible] noncomputable def T7:Ev.Ss:=(.cons (.iff (.cmp .ne (.cl 14 (.cons (.v 0) (.cons (.v 2) .nil))) (.cl 14 (.cons (.v 1) (.cons (.v 2) .nil)))) (.cons (.ret (.v 2)) .nil) .nil) .nil)
@[reducible] noncomputable def T8:Ev.S:=.for (.one 2) (.seq (.bin .add (.cl 12 (.cons (.v 0) .nil)) (.cl 12 (.cons (.v 1) .nil)))) T7
@[reducible] noncomputable def T9:Ev.S:=.ret (.c (.aH))
@[reducible] noncomputable def f9:Ev.Fn:=⟨2,3,(.cons T8 (.cons T9 .nil))⟩
@[reducible] noncomputable def OX:Ev.S:=.ret (.bi .all (.cons (.comp (.cmp .eq (.cl 14 (.cons (.v 0) (.cons (.v 2) .nil))) (.cl 14 (.cons (.v 1) (.cons (.v 2) .nil)))) (.one 2) (.seq (.cl 12 (.cons (.v 0) .nil))) .no) .nil))
@[reducible] noncomputable def Ar:Ev.Fn:=⟨2,3,(.cons OX .nil)⟩
@[reducible] noncomputable def OY:Ev.S:=.jy 1 2 0 7
@[reducible] noncomputable def OZ:Ev.S:=.set 3 (.cl 13 (.cons (.cl 1 (.cons (.ix (.v 0) (.c (.int 0))) .nil)) (.cons (.v 1) (.cons (.ix (.c (.tup [.str [97],.str [98]])) (.c (.int 0))) .nil))))
@[reducible] noncomputable def O0:Ev.S:=.iff (.bi .all (.cons (.comp (.cl 4 (.cons (.v 4) (.cons (.v 3) .nil))) (.one 4) (.seq (.v 0)) .no) .nil)) (.cons (.ret (.v 3)) .nil) .nil
@[reducible] noncomputable def O1:Ev.S:=.ret (.c (.aH))
@[reducible] noncomputable def Mr:Ev.Fn:=⟨1,5,(.cons OY (.cons OZ (.cons O0 (.cons O1 .nil))))⟩
@[reducible] noncomputable def O2:Ev.S:=.set 1 (.cl 7 (.cons (.v 0) .nil))
@[reducible] noncomputable def O3:Ev.S:=.ret (.comp (.cl 13 (.cons (.cl 1 (.cons (.v 0) .nil)) (.cons (.v 1) (.cons (.v 2) .nil)))) (.one 2) (.seq (.c (.tup [.str [97],.str [98]]))) .no)
@[reducible] noncomputable def Ms:Ev.Fn:=⟨1,3,(.cons O2 (.cons O3 .nil))⟩
@[reducible] noncomputable def O4:Ev.S:=.ret (.me .join (.c (.str [])) (.cons (.comp (.mF (.v 1) (.v 3) (.v 2)) (.one 3) (.fR (.cons (.v 0) .nil)) .no) .nil))
@[reducible] noncomputable def Mt:Ev.Fn:=⟨3,4,(.cons O4 .nil)⟩
@[reducible] noncomputable def O5:Ev.S:=.ret (.g9 (.cl 4 (.cons (.v 0) (.cons (.v 1) .nil))) (.cl 5 (.cons (.v 0) (.cons (.v 1) .nil))) (.c (.aH)))
@[reducible] noncomputable def Mu:Ev.Fn:=⟨2,2,(.cons O5 .nil)⟩
@[reducible] noncomputable def O6:Ev.S:=.iff (.cmp .eq (.v 0) (.lst .nil)) (.cons (.ret (.bin .mul (.c (.int 7)) (.v 1))) .nil) .nil
@[reducible] noncomputable def O7:Ev.S:=.ret (.bin .add (.ix (.v 0) (.bin .mod (.v 1) (.bi .len (.cons (.v 0) .nil)))) (.bin .mul (.c (.int 6553)) (.bin .fdiv (.v 1) (.bi .len (.cons (.v 0) .nil)))))
@[reducible] noncomputable def Mv:Ev.Fn:=⟨2,2,(.cons O6 (.cons O7 .nil))⟩
@[reducible] noncomputable def O8:Ev.S:=.set 3 (.bin .mod (.bin .add (.bin .mul (.bin .mod (.cl 15 (.cons (.v 0) (.cons (.v 1) .nil))) (.c (.int 2147483563))) (.c (.int 69069))) (.bin .mul (.c (.int 104723)) (.bin .add (.v 1) (.c (.int 1))))) (.c (.int 2147483563)))
@[reducible] noncomputable def O9:Ev.S:=.set 3 (.bin .mod (.bin .add (.bin .mul (.v 3) (.v 3)) (.bin .fdiv (.v 3) (.c (.int 3)))) (.c (.int 2147483399)))
@[reducible] noncomputable def Pb:Ev.S:=.ret (.bin .mod (.bin .fdiv (.bin .mod (.bin .add (.bin .mul (.v 3) (.v 3)) (.bin .fdiv (.v 3) (.c (.int 7)))) (.c (.int 2147483647))) (.c (.int 11))) (.v 2))
@[reducible] noncomputable def Mw:Ev.Fn:=⟨3,4,(.cons O8 (.cons O9 (.cons Pb .nil)))⟩
@[reducible] noncomputable def Pc:Ev.S:=.ret (.me .join (.c (.str [])) (.cons (.comp (.ix (.c (.str [97,98,99,32])) (.cl 16 (.cons (.v 0) (.cons (.bin .add (.bin .add (.v 1) (.c (.int 1))) (.v 3)) (.cons (.c (.int 4)) .nil))))) (.one 3) (.fR (.cons (.cl 16 (.cons (.v 0) (.cons (.v 1) (.cons (.bin .add (.v 2) (.c (.int 1))) .nil)))) .nil)) .no) .nil))
@[reducible] noncomputable def Mx:Ev.Fn:=⟨3,4,(.cons Pc .nil)⟩
@[reducible] noncomputable def Pd:Ev.S:=.set 3 (.tup .nil)
@[reducible] noncomputable def Pe:Ev.Ss:=(.cons (.iff (.cmp .eq (.cl 16 (.cons (.v 0) (.cons (.bin .add (.v 1) (.bin .mul (.c (.int 4)) (.v 4))) (.cons (.c (.int 4)) .nil)))) (.c (.int 0))) (.cons (.set 5 (.bin .mul (.ix (.c (.str [97,98,122])) (.cl 16 (.cons (.v 0) (.cons (.bin .add (.bin .add (.v 1) (.bin .mul (.c (.int 4)) (.v 4))) (.c (.int 1))) (.cons (.c (.int 3)) .nil))))) (.bin .add (.c (.int 1)) (.cl 16 (.cons (.v 0) (.cons (.bin .add (.bin .add (.v 1) (.bin .mul (.c (.int 4)) (.v 4))) (.c (.int 2))) (.cons (.c (.int 2)) .nil))))))) (.cons (.set 3 (.bin .add (.v 3) (.tup (.cons (.tup (.cons (.c (.str [112,117,116])) (.cons (.v 5) .nil))) .nil)))) .nil)) .nil) (.cons (.iff (.cmp .lt (.v 4) (.bi .len (.cons (.v 2) .nil))) (.cons (.set 6 (.cmp .gt (.cl 16 (.cons (.v 0) (.cons (.bin .add (.bin .add (.v 1) (.bin .mul (.c (.int 4)) (.v 4))) (.c (.int 3))) (.cons (.c (.int 3)) .nil)))) (.c (.int 0)))) (.cons (.set 3 (.bin .add (.v 3) (.tup (.cons (.g9 (.v 6) (.tup (.cons (.c (.str [107,101,101,112])) (.cons (.c (.int 1)) .nil))) (.tup (.cons (.c (.str [100,114,111,112])) (.cons (.ix (.v 2) (.v 4)) .nil)))) .nil)))) .nil)) .nil) .nil))
@[reducible] noncomputable def Pf:Ev.S:=.for (.one 4) (.fR (.cons (.bin .add (.bi .len (.cons (.v 2) .nil)) (.c (.int 1))) .nil)) Pe
@[reducible] noncomputable def Pg:Ev.S:=.ret (.v 3)
@[reducible] noncomputable def My:Ev.Fn:=⟨3,7,(.cons Pd (.cons Pf (.cons Pg .nil)))⟩
@[reducible] noncomputable def Ph:Ev.S:=.set 1 (.lst .nil)
@[reducible] noncomputable def Pj:Ev.S:=.set 2 (.lst .nil)
@[reducible] noncomputable def Pk:Ev.Ss:=(.cons (.iff (.cmp .eq (.v 3) (.c (.str [107,101,101,112]))) (.cons (.set 2 (.bin .add (.v 2) (.fS (.fR (.cons (.bi .len (.cons (.v 1) .nil)) (.cons (.bin .add (.bi .len (.cons (.v 1) .nil)) (.v 4)) .nil)))))) (.cons (.set 1 (.bin .add (.v 1) (.bin .mul (.lst (.cons (.c (.str [])) .nil)) (.v 4)))) .nil)) (.cons (.iff (.cmp .eq (.v 3) (.c (.str [100,114,111,112]))) (.cons (.set 1 (.bin .add (.v 1) (.fS (.seq (.v 4))))) .nil) (.cons (.set 2 (.bin .add (.v 2) (.fS (.seq (.v 4))))) .nil)) .nil)) .nil)
@[reducible] noncomputable def Pn:Ev.S:=.for (.many [3,4]) (.seq (.v 0)) Pk
@[reducible] noncomputable def Po:Ev.S:=.ret (.tup (.cons (.v 1) (.cons (.v 2) .nil)))
@[reducible] noncomputable def Mz:Ev.Fn:=⟨1,5,(.cons Ph (.cons Pj (.cons Pn (.cons Po .nil))))⟩
@[reducible] noncomputable def Pp:Ev.S:=.set 2 (.c (.int 0))
@[reducible] noncomputable def Pq:Ev.S:=.set 3 (.c (.str []))
@[reducible] noncomputable def Fq:Ev.Ss:=(.cons (.iff (.cmp .eq (.v 4) (.c (.str [112,117,116]))) (.cons (.set 3 (.bin .add (.v 3) (.v 5))) .nil) (.cons (.iff (.cmp .eq (.v 4) (.c (.str [100,114,111,112]))) (.cons (.iff (.cmp .ne (.sl (.v 1) (.yes (.v 2)) (.yes (.bin .add (.v 2) (.bi .len (.cons (.v 5) .nil))))) (.v 5)) (.cons (.ret (.c (.aH))) .nil) .nil) (.cons (.set 2 (.bin .add (.v 2) (.bi .len (.cons (.v 5) .nil)))) .nil)) (.cons (.set 3 (.bin .add (.v 3) (.sl (.v 1) (.yes (.v 2)) (.yes (.bin .add (.v 2) (.v 5)))))) (.cons (.set 2 (.bin .add (.v 2) (.v 5))) .nil))) .nil)) .nil)
@[reducible] noncomputable def Pr:Ev.S:=.for (.many [4,5]) (.seq (.v 0)) Fq
@[reducible] noncomputable def Pu:Ev.S:=.ret (.g9 (.cmp .eq (.v 2) (.bi .len (.cons (.v 1) .nil))) (.v 3) (.c (.aH)))
@[reducible] noncomputable def BR:Ev.Fn:=⟨2,6,(.cons Pp (.cons Pq (.cons Pr (.cons Pu .nil))))⟩
@[reducible] noncomputable def Px:Ev.S:=.kD [2,3] (.v 0)
@[reducible] noncomputable def Py:Ev.S:=.kD [4,5] (.v 1)
@[reducible] noncomputable def Pz:Ev.S:=.iff (.cmp .ne (.bi .len (.cons (.v 2) .nil)) (.bi .len (.cons (.v 4) .nil))) (.cons (.ret (.c (.bl false))) .nil) .nil
@[reducible] noncomputable def PB:Ev.S:=.iff (.cmp .ne (.comp (.v 7) (.many [7,8]) (.enum (.v 4)) (.yes (.cmp .fD (.v 8) (.tup (.cons (.c (.str [])) (.cons (.ix (.v 2) (.v 7)) .nil)))))) (.lst .nil)) (.cons (.ret (.c (.bl false))) .nil) .nil
@[reducible] noncomputable def PC:Ev.S:=.set 6 (.comp (.g9 (.an (.kO (.v 9) [.int]) (.cmp .ne (.ix (.v 2) (.v 9)) (.c (.str [])))) (.ix (.v 2) (.v 9)) (.v 9)) (.one 9) (.seq (.v 5)) .no)
@[reducible] noncomputable def PD:Ev.S:=.ret (.cmp .eq (.v 6) (.v 3))
@[reducible] noncomputable def BU:Ev.Fn:=⟨2,10,(.cons Px (.cons Py (.cons Pz (.cons PB (.cons PC (.cons PD .nil))))))⟩
@[reducible] noncomputable def PF:Ev.S:=.set 1 (.fS (.seq (.ix (.v 0) (.c (.int 0)))))
@[reducible] noncomputable def zx:Ev.Ss:=(.cons (.iff (.an (.cmp .fD (.c (.str [])) (.tup (.cons (.v 4) (.cons (.ix (.v 1) (.v 3)) .nil)))) (.cmp .ne (.v 4) (.ix (.v 1) (.v 3)))) (.cons (.ret (.c (.aH))) .nil) .nil) (.cons (.exp (.me .lG (.v 1) (.cons (.g9 (.cmp .eq (.v 4) (.c (.str []))) (.ix (.v 1) (.v 3)) (.v 4)) (.cons (.v 3) .nil)))) .nil))
@[reducible] noncomputable def Ft:Ev.Ss:=(.cons (.iff (.cmp .ne (.bi .len (.cons (.v 2) .nil)) (.bi .len (.cons (.v 1) .nil))) (.cons (.ret (.c (.aH))) .nil) .nil) (.cons (.for (.many [3,4]) (.enum (.v 2)) zx) .nil))
@[reducible] noncomputable def PJ:Ev.S:=.for (.one 2) (.seq (.v 0)) Ft
@[reducible] noncomputable def PK:Ev.S:=.ret (.v 1)
@[reducible] noncomputable def xY:Ev.Fn:=⟨1,5,(.cons PF (.cons PJ (.cons PK .nil)))⟩
@[reducible] noncomputable def PL:Ev.S:=.set 0 (.lst (.cons (.tup (.cons (.tup (.cons (.c (.str [107,101,101,112])) (.cons (.c (.int 1)) .nil))) .nil)) (.cons (.tup (.cons (.tup (.cons (.c (.str [107,101,101,112])) (.cons (.c (.int 2)) .nil))) .nil)) (.cons (.tup (.cons (.tup (.cons (.c (.str [100,114,111,112])) (.cons (.c (.str [97])) .nil))) .nil)) (.cons (.tup (.cons (.tup (.cons (.c (.str [100,114,111,112])) (.cons (.c (.str [98])) .nil))) .nil)) (.cons (.tup (.cons (.tup (.cons (.c (.str [107,101,101,112])) (.cons (.c (.int 1)) .nil))) (.cons (.tup (.cons (.c (.str [112,117,116])) (.cons (.c (.str [97])) .nil))) .nil))) .nil))))))
@[reducible] noncomputable def PM:Ev.S:=.set 0 (.bin .add (.v 0) (.lst (.cons (.tup (.cons (.tup (.cons (.c (.str [112,117,116])) (.cons (.c (.str [97])) .nil))) (.cons (.tup (.cons (.c (.str [107,101,101,112])) (.cons (.c (.int 1)) .nil))) .nil))) (.cons (.tup (.cons (.tup (.cons (.c (.str [100,114,111,112])) (.cons (.c (.str [97])) .nil))) (.cons (.tup (.cons (.c (.str [112,117,116])) (.cons (.c (.str [97])) .nil))) .nil))) (.cons (.tup (.cons (.tup (.cons (.c (.str [100,114,111,112])) (.cons (.c (.str [98])) .nil))) (.cons (.tup (.cons (.c (.str [112,117,116])) (.cons (.c (.str [98])) .nil))) .nil))) .nil)))))
@[reducible] noncomputable def PN:Ev.S:=.set 0 (.bin .add (.v 0) (.lst (.cons (.tup (.cons (.tup (.cons (.c (.str [112,117,116])) (.cons (.c (.str [98])) .nil))) (.cons (.tup (.cons (.c (.str [107,101,101,112])) (.cons (.c (.int 1)) .nil))) .nil))) (.cons (.tup (.cons (.tup (.cons (.c (.str [100,114,111,112])) (.cons (.c (.str [122])) .nil))) (.cons (.tup (.cons (.c (.str [112,117,116])) (.cons (.c (.str [97])) .nil))) .nil))) .nil))))
@[reducible] noncomputable def Fv:Ev.Ss:=(.cons (.set 3 (.cl 9 (.cons (.v 1) (.cons (.v 2) .nil)))) (.cons (.iff (.cmp .ne (.cl 10 (.cons (.v 1) (.cons (.v 2) .nil))) (.cl 21 (.cons (.cl 19 (.cons (.v 1) .nil)) (.cons (.cl 19 (.cons (.v 2) .nil)) .nil)))) (.cons (.ret (.c (.bl false))) .nil) .nil) (.cons (.iff (.orr (.cmp .ne (.cmp .jA (.v 3) (.c (.aH))) (.cmp .eq (.v 1) (.v 2))) (.cmp .ne (.cl 8 (.cons (.v 1) (.cons (.v 2) .nil))) (.cmp .eq (.v 1) (.v 2)))) (.cons (.ret (.c (.bl false))) .nil) .nil) (.cons (.iff (.an (.cmp .jR (.v 3) (.c (.aH))) (.cmp .eq (.cl 20 (.cons (.v 1) (.cons (.v 3) .nil))) (.cl 20 (.cons (.v 2) (.cons (.v 3) .nil))))) (.cons (.ret (.c (.bl false))) .nil) .nil) .nil))))
@[reducible] noncomputable def Fx:Ev.Ss:=(.cons (.for (.one 2) (.seq (.v 0)) Fv) .nil)
@[reducible] noncomputable def PU:Ev.S:=.for (.one 1) (.seq (.v 0)) Fx
@[reducible] noncomputable def PV:Ev.S:=.ret (.c (.bl true))
@[reducible] noncomputable def BV:Ev.Fn:=⟨0,4,(.cons PL (.cons PM (.cons PN (.cons PU (.cons PV .nil)))))⟩
@[reducible] noncomputable def PX:Ev.S:=.set 1 (.cl 17 (.cons (.v 0) (.cons (.c (.int 0)) (.cons (.c (.int 4)) .nil))))
@[reducible] noncomputable def PY:Ev.S:=.set 2 (.cl 18 (.cons (.v 0) (.cons (.c (.int 10)) (.cons (.v 1) .nil))))
@[reducible] noncomputable def PZ:Ev.S:=.set 3 (.cl 16 (.cons (.v 0) (.cons (.c (.int 40)) (.cons (.bin .add (.bi .len (.cons (.v 1) .nil)) (.c (.int 1))) .nil))))
@[reducible] noncomputable def P0:Ev.S:=.set 4 (.lst (.cons (.v 1) (.cons (.v 1) (.cons (.bin .add (.bin .add (.sl (.v 1) .no (.yes (.v 3))) (.c (.str [98]))) (.sl (.v 1) (.yes (.bin .add (.v 3) (.c (.int 1)))) .no)) (.cons (.bin .add (.v 1) (.c (.str [99]))) (.cons (.cl 17 (.cons (.v 0) (.cons (.c (.int 41)) (.cons (.c (.int 4)) .nil)))) .nil))))))
@[reducible] noncomputable def P1:Ev.S:=.set 5 (.comp (.cl 18 (.cons (.v 0) (.cons (.bin .add (.c (.int 50)) (.bin .mul (.c (.int 30)) (.v 13))) (.cons (.v 14) .nil)))) (.many [13,14]) (.enum (.v 4)) .no)
@[reducible] noncomputable def P4:Ev.S:=.set 5 (.bin .add (.v 5) (.lst (.cons (.cl 6 (.cons (.cl 6 (.cons (.v 2) .nil)) .nil)) (.cons (.jg (.comp (.v 15) (.one 15) (.seq (.v 2)) (.yes (.cmp .ne (.ix (.v 15) (.c (.int 0))) (.c (.str [112,117,116])))))) (.cons (.bin .add (.v 2) (.tup (.cons (.tup (.cons (.c (.str [112,117,116])) (.cons (.c (.str [97])) .nil))) .nil))) .nil)))))
@[reducible] noncomputable def P5:Ev.S:=.set 5 (.bin .add (.v 5) (.lst (.cons (.jg (.comp (.g9 (.cmp .eq (.ix (.v 16) (.c (.int 0))) (.c (.str [100,114,111,112]))) (.tup (.cons (.c (.str [107,101,101,112])) (.cons (.c (.int 1)) .nil))) (.v 16)) (.one 16) (.seq (.v 2)) .no)) .nil)))
@[reducible] noncomputable def P6:Ev.S:=.iff (.nt (.cl 23 .nil)) (.cons (.ret (.c (.bl false))) .nil) .nil
@[reducible] noncomputable def P7:Ev.S:=.set 6 (.cl 19 (.cons (.v 2) .nil))
@[reducible] noncomputable def zy:Ev.Ss:=(.cons (.set 8 (.cl 19 (.cons (.v 7) .nil))) (.cons (.set 9 (.lst (.cons (.cl 8 (.cons (.v 2) (.cons (.v 7) .nil))) (.cons (.cl 10 (.cons (.v 2) (.cons (.v 7) .nil))) (.cons (.cl 10 (.cons (.v 7) (.cons (.v 2) .nil))) .nil))))) (.cons (.iff (.cmp .ne (.v 9) (.lst (.cons (.cmp .eq (.v 6) (.v 8)) (.cons (.cl 21 (.cons (.v 6) (.cons (.v 8) .nil))) (.cons (.cl 21 (.cons (.v 8) (.cons (.v 6) .nil))) .nil))))) (.cons (.ret (.c (.bl false))) .nil) .nil) (.cons (.set 10 (.cl 9 (.cons (.v 2) (.cons (.v 7) .nil)))) (.cons (.iff (.cmp .ne (.cmp .jA (.v 10) (.c (.aH))) (.cmp .eq (.v 6) (.v 8))) (.cons (.ret (.c (.bl false))) .nil) .nil) (.cons (.iff (.an (.cmp .jR (.v 10) (.c (.aH))) (.nt (.kO (.v 10) [.str]))) (.cons (.ret (.c (.bl false))) .nil) .nil) (.cons (.iff (.an (.cmp .jR (.v 10) (.c (.aH))) (.cmp .eq (.cl 20 (.cons (.v 2) (.cons (.v 10) .nil))) (.cl 20 (.cons (.v 7) (.cons (.v 10) .nil))))) (.cons (.ret (.c (.bl false))) .nil) .nil) (.cons (.set 11 (.cl 11 (.cons (.lst (.cons (.v 2) (.cons (.v 7) (.cons (.v 2) .nil)))) .nil))) (.cons (.set 12 (.cl 22 (.cons (.lst (.cons (.ix (.v 6) (.c (.int 0))) (.cons (.ix (.v 8) (.c (.int 0))) .nil))) .nil))) (.cons (.iff (.cmp .ne (.cmp .jA (.v 11) (.c (.aH))) (.cmp .jA (.v 12) (.c (.aH)))) (.cons (.ret (.c (.bl false))) .nil) .nil) (.cons (.iff (.an (.cmp .jR (.v 11) (.c (.aH))) (.orr (.cmp .jA (.cl 20 (.cons (.v 2) (.cons (.v 11) .nil))) (.c (.aH))) (.cmp .jA (.cl 20 (.cons (.v 7) (.cons (.v 11) .nil))) (.c (.aH))))) (.cons (.ret (.c (.bl false))) .nil) .nil) .nil)))))))))))
@[reducible] noncomputable def P8:Ev.S:=.for (.one 7) (.seq (.v 5)) zy
@[reducible] noncomputable def MA:Ev.S:=.ret (.c (.bl true))
@[reducible] noncomputable def BW:Ev.Fn:=⟨1,17,(.cons PX (.cons PY (.cons PZ (.cons P0 (.cons P1 (.cons P4 (.cons P5 (.cons P6 (.cons P7 (.cons P8 (.cons MA .nil)))))))))))⟩
noncomputable def prog:List Ev.Fn:=[f0,f1,f2,f3,f4,f5,f6,f7,f8,f9,Ar,Mr,Ms,Mt,Mu,Mv,Mw,Mx,My,Mz,BR,BU,xY,BV,BW]
end Lw
set_option maxRecDepth 100000
namespace Lw
open PySem PySem.Spec PyProof.Rows L2 Sm
open Ev (D O Hh Fr R aR E Es Eo T S Ss Fl Src bQ bK TY BI ME)
noncomputable def top(i:Nat):Stmt:=PySem.Challenge.pw_pastways_k60_alike.main.body.getD i (.Pass ⟨0,0,0,0⟩)
abbrev i0 (a:Nat->Addr) (d:Nat->FuncData):FI:=⟨"size",a 0,d 0,["part"]⟩
abbrev i1 (a:Nat->Addr) (d:Nat->FuncData):FI:=⟨"before",a 1,d 1,["change"]⟩
abbrev i2 (a:Nat->Addr) (d:Nat->FuncData):FI:=⟨"form",a 2,d 2,["change"]⟩
abbrev i3 (a:Nat->Addr) (d:Nat->FuncData):FI:=⟨"stretch",a 3,d 3,["kept","gone","new"]⟩
abbrev i4 (a:Nat->Addr) (d:Nat->FuncData):FI:=⟨"fits",a 4,d 4,["change","text"]⟩
abbrev i5 (a:Nat->Addr) (d:Nat->FuncData):FI:=⟨"done",a 5,d 5,["change","text"]⟩
abbrev i6 (a:Nat->Addr) (d:Nat->FuncData):FI:=⟨"undone",a 6,d 6,["change"]⟩
abbrev i7 (a:Nat->Addr) (d:Nat->FuncData):FI:=⟨"dropped_signs",a 7,d 7,["change"]⟩
abbrev i8 (a:Nat->Addr) (d:Nat->FuncData):FI:=⟨"alike",a 8,d 8,["one","other"]⟩
abbrev i9 (a:Nat->Addr) (d:Nat->FuncData):FI:=⟨"parting",a 9,d 9,["one","other"]⟩
abbrev MB (a:Nat->Addr) (d:Nat->FuncData):FI:=⟨"within",a 10,d 10,["one","other"]⟩
abbrev MC (a:Nat->Addr) (d:Nat->FuncData):FI:=⟨"all_fit",a 11,d 11,["changes"]⟩
abbrev i12 (a:Nat->Addr) (d:Nat->FuncData):FI:=⟨"fitting",a 12,d 12,["change"]⟩
abbrev MD (a:Nat->Addr) (d:Nat->FuncData):FI:=⟨"filled",a 13,d 13,["many","signs","sign"]⟩
abbrev MF (a:Nat->Addr) (d:Nat->FuncData):FI:=⟨"outcome",a 14,d 14,["change","text"]⟩
abbrev MG (a:Nat->Addr) (d:Nat->FuncData):FI:=⟨"_law_cell",a 15,d 15,["_law_script","_law_k"]⟩
abbrev MH (a:Nat->Addr) (d:Nat->FuncData):FI:=⟨"_law_drawn",a 16,d 16,["_law_script","_law_k","_law_many"]⟩
abbrev MI (a:Nat->Addr) (d:Nat->FuncData):FI:=⟨"_law_text",a 17,d 17,["_law_script","_law_at","_law_most"]⟩
abbrev MJ (a:Nat->Addr) (d:Nat->FuncData):FI:=⟨"_law_change",a 18,d 18,["_law_script","_law_at","_law_text_here"]⟩
abbrev MK (a:Nat->Addr) (d:Nat->FuncData):FI:=⟨"_law_sense",a 19,d 19,["_law_change_here"]⟩
abbrev ML (a:Nat->Addr) (d:Nat->FuncData):FI:=⟨"_law_made",a 20,d 20,["_law_change_here","_law_text_here"]⟩
abbrev MM (a:Nat->Addr) (d:Nat->FuncData):FI:=⟨"_law_is_within",a 21,d 21,["_law_one","_law_other"]⟩
abbrev MN (a:Nat->Addr) (d:Nat->FuncData):FI:=⟨"_law_all",a 22,d 22,["_law_rows"]⟩
abbrev MO (a:Nat->Addr) (d:Nat->FuncData):FI:=⟨"_law_parted",a 23,d 23,[]⟩
abbrev Fy (a:Nat->Addr) (d:Nat->FuncData):FI:=⟨"law",a 24,d 24,["_law_script"]⟩
noncomputable def mL:List Str:=["all","enumerate","int","isinstance","len","list","range","str","sum","tuple"]
theorem P9:("all" : Str)∈mL:=by decide +kernel
theorem vY:("enumerate" : Str)∈mL:=by decide +kernel
theorem Qa:("int" : Str)∈mL:=by decide +kernel
theorem nL:("isinstance" : Str)∈mL:=by decide +kernel
theorem Qc:("len" : Str)∈mL:=by decide +kernel
theorem BX:("list" : Str)∈mL:=by decide +kernel
theorem xZ:("range" : Str)∈mL:=by decide +kernel
theorem Qd:("str" : Str)∈mL:=by decide +kernel
theorem Qe:("sum" : Str)∈mL:=by decide +kernel
theorem Ir:("tuple" : Str)∈mL:=by decide +kernel
noncomputable def tb (a:Nat->Addr) (d:Nat->FuncData):Tb:=⟨prog,100000,[i0 a d,i1 a d,i2 a d,i3 a d,i4 a d,i5 a d,i6 a d,i7 a d,i8 a d,i9 a d,MB a d,MC a d,i12 a d,MD a d,MF a d,MG a d,MH a d,MI a d,MJ a d,MK a d,ML a d,MM a d,MN a d,MO a d,Fy a d],mL,[("__name__",.str [108,97,119,95,112,97,115,116,119,97,121,115,95,107,54,48,95,97,108,105,107,101]),("FILLS",.tup [.str [97],.str [98]])],[("TURNED",[(.str [107,101,101,112],.str [107,101,101,112]),(.str [112,117,116],.str [100,114,111,112]),(.str [100,114,111,112],.str [112,117,116])])]⟩
section
variable{a:Nat->Addr}{d:Nat->FuncData}{n:Nat}
abbrev n0:List Str:=["part"]
theorem s0:bF n0 ["part"] (aT (top 1)):=⟨rfl,rfl,rfl,by decide +kernel,rfl,by decide +kernel,by decide +kernel⟩
abbrev n1:List Str:=["change"]
theorem s1:bF n1 ["change"] (aT (top 2)):=⟨rfl,rfl,rfl,by decide +kernel,rfl,by decide +kernel,by decide +kernel⟩
abbrev n2:List Str:=["change","parts","kept","gone","new","word","what"]
theorem s2:bF n2 ["change"] (aT (top 3)):=⟨rfl,rfl,rfl,by decide +kernel,rfl,by decide +kernel,by decide +kernel⟩
abbrev n3:List Str:=["kept","gone","new","parts"]
theorem s3:bF n3 ["kept","gone","new"] (aT (top 4)):=⟨rfl,rfl,rfl,by decide +kernel,rfl,by decide +kernel,by decide +kernel⟩
abbrev n4:List Str:=["change","text","place","part"]
theorem s4:bF n4 ["change","text"] (aT (top 10)):=⟨rfl,rfl,rfl,by decide +kernel,rfl,by decide +kernel,by decide +kernel⟩
abbrev n5:List Str:=["change","text","pieces","place","word","what"]
theorem s5:bF n5 ["change","text"] (aT (top 11)):=⟨rfl,rfl,rfl,by decide +kernel,rfl,by decide +kernel,by decide +kernel⟩
abbrev n6:List Str:=["change"]
theorem s6:bF n6 ["change"] (aT (top 12)):=⟨rfl,rfl,rfl,by decide +kernel,rfl,by decide +kernel,by decide +kernel⟩
abbrev n7:List Str:=["change","signs","place","part","sign"]
theorem s7:bF n7 ["change"] (aT (top 14)):=⟨rfl,rfl,rfl,by decide +kernel,rfl,by decide +kernel,by decide +kernel⟩
abbrev n8:List Str:=["one","other"]
theorem s8:bF n8 ["one","other"] (aT (top 17)):=⟨rfl,rfl,rfl,by decide +kernel,rfl,by decide +kernel,by decide +kernel⟩
abbrev n9:List Str:=["one","other","text"]
theorem s9:bF n9 ["one","other"] (aT (top 18)):=⟨rfl,rfl,rfl,by decide +kernel,rfl,by decide +kernel,by decide +kernel⟩
abbrev MP:List Str:=["one","other"]
theorem QD:bF MP ["one","other"] (aT (top 19)):=⟨rfl,rfl,rfl,by decide +kernel,rfl,by decide +kernel,by decide +kernel⟩
abbrev MQ:List Str:=["changes","signs","change","text"]
theorem EJ:bF MQ ["changes"] (aT (top 20)):=⟨rfl,rfl,rfl,by decide +kernel,rfl,by decide +kernel,by decide +kernel⟩
abbrev MR:List Str:=["change","signs"]
theorem s12:bF MR ["change"] (aT (top 21)):=⟨rfl,rfl,rfl,by decide +kernel,rfl,by decide +kernel,by decide +kernel⟩
abbrev MS:List Str:=["many","signs","sign"]
theorem Vy:bF MS ["many","signs","sign"] (aT (top 22)):=⟨rfl,rfl,rfl,by decide +kernel,rfl,by decide +kernel,by decide +kernel⟩
abbrev MT:List Str:=["change","text"]
theorem Vz:bF MT ["change","text"] (aT (top 23)):=⟨rfl,rfl,rfl,by decide +kernel,rfl,by decide +kernel,by decide +kernel⟩
abbrev MU:List Str:=["_law_script","_law_k"]
theorem VA:bF MU ["_law_script","_law_k"] (aT (top 25)):=⟨rfl,rfl,rfl,by decide +kernel,rfl,by decide +kernel,by decide +kernel⟩
abbrev MV:List Str:=["_law_script","_law_k","_law_many","_law_cell_here"]
theorem VB:bF MV ["_law_script","_law_k","_law_many"] (aT (top 26)):=⟨rfl,rfl,rfl,by decide +kernel,rfl,by decide +kernel,by decide +kernel⟩
abbrev MW:List Str:=["_law_script","_law_at","_law_most"]
theorem VC:bF MW ["_law_script","_law_at","_law_most"] (aT (top 27)):=⟨rfl,rfl,rfl,by decide +kernel,rfl,by decide +kernel,by decide +kernel⟩
abbrev MX:List Str:=["_law_script","_law_at","_law_text_here","_law_found","_law_k","_law_new","_law_is_kept"]
theorem VD:bF MX ["_law_script","_law_at","_law_text_here"] (aT (top 28)):=⟨rfl,rfl,rfl,by decide +kernel,rfl,by decide +kernel,by decide +kernel⟩
abbrev MY:List Str:=["_law_change_here","_law_asks","_law_told","_law_word","_law_what"]
theorem VE:bF MY ["_law_change_here"] (aT (top 29)):=⟨rfl,rfl,rfl,by decide +kernel,rfl,by decide +kernel,by decide +kernel⟩
abbrev MZ:List Str:=["_law_change_here","_law_text_here","_law_place","_law_found","_law_word","_law_what"]
theorem VF:bF MZ ["_law_change_here","_law_text_here"] (aT (top 31)):=⟨rfl,rfl,rfl,by decide +kernel,rfl,by decide +kernel,by decide +kernel⟩
abbrev M4:List Str:=["_law_one","_law_other","_law_asks","_law_told","_law_wants","_law_says","_law_mine"]
theorem VG:bF M4 ["_law_one","_law_other"] (aT (top 32)):=⟨rfl,rfl,rfl,by decide +kernel,rfl,by decide +kernel,by decide +kernel⟩
abbrev M5:List Str:=["_law_rows","_law_found","_law_asks","_law_at","_law_ask"]
theorem VH:bF M5 ["_law_rows"] (aT (top 33)):=⟨rfl,rfl,rfl,by decide +kernel,rfl,by decide +kernel,by decide +kernel⟩
abbrev M6:List Str:=["_law_some","_law_one","_law_other","_law_told"]
theorem VI:bF M6 [] (aT (top 34)):=⟨rfl,rfl,rfl,by decide +kernel,rfl,by decide +kernel,by decide +kernel⟩
abbrev M7:List Str:=["_law_script","_law_text_here","_law_one","_law_at","_law_texts","_law_others","_law_mine","_law_other","_law_yours","_law_said","_law_told","_law_both","_law_due"]
theorem VJ:bF M7 ["_law_script"] (aT (top 35)):=⟨rfl,rfl,rfl,by decide +kernel,rfl,by decide +kernel,by decide +kernel⟩
set_option maxHeartbeats 0 in
theorem dN:allB (tb a d) n [(f0.body,top 1,n0),(f1.body,top 2,n1),(f2.body,top 3,n2),(f3.body,top 4,n3),(f4.body,top 10,n4),(f5.body,top 11,n5),(f6.body,top 12,n6),(f7.body,top 14,n7),(f8.body,top 17,n8),(f9.body,top 18,n9),(Ar.body,top 19,MP),(Mr.body,top 20,MQ),(Ms.body,top 21,MR),(Mt.body,top 22,MS),(Mu.body,top 23,MT),(Mv.body,top 25,MU),(Mw.body,top 26,MV),(Mx.body,top 27,MW),(My.body,top 28,MX),(Mz.body,top 29,MY),(BR.body,top 31,MZ),(BU.body,top 32,M4),(xY.body,top 33,M5),(BV.body,top 34,M6),(BW.body,top 35,M7)]:=by
 refine⟨?_,?_,?_,?_,?_,?_,?_,?_,?_,?_,?_,?_,?_,?_,?_,?_,?_,?_,?_,?_,?_,?_,?_,?_,?_,trivial⟩;all_goals dsimp only
 all_goals repeat (first
  | ((with_reducible show JE _ _ _ _ _ _ (.c _) (.Name _ _));refine Gr (x:="FILLS") (.tail _ (.head _)))
  | ((with_reducible show kc _ _ _ _ _ _ (.cons (.jy _ _ _ _) _) _);refine CJ ?_)
  | ((with_reducible show JE _ _ _ _ _ _ (.v _) _);exact jv (by decide +kernel))
  | ((with_reducible show JA _ _ _ _ _ _ (.cons _ _) _);refine Gs ?_ ?_)
  | ((with_reducible show kc _ _ _ _ _ _ (.cons _ _) _);refine Cw ?_ ?_)
  | ((with_reducible show JA _ _ _ _ _ _ .nil _);refine JR)
  | ((with_reducible show kc _ _ _ _ _ _ .nil _);refine GA)
  | ((with_reducible show JE _ _ _ _ _ _ (.c (.int _)) _);refine JN)
  | ((with_reducible show JE _ _ _ _ _ _ (.c (.str _)) _);refine JQ)
  | ((with_reducible show JE _ _ _ _ _ _ (.cl _ _) _);refine U3 (by decide +kernel) rfl rfl ?_)
  | ((with_reducible show JE _ _ _ _ _ _ (.bin .add _ _) _);refine pJ (λX g=>Kw) ?_ ?_)
  | ((with_reducible show JS _ _ _ _ _ _ (.ret _) _);refine Ke ?_)
  | ((with_reducible show JE _ _ _ _ _ _ (.tup _) _);refine JU ?_)
  | ((with_reducible show JS _ _ _ _ _ _ (.iff _ _ _) _);refine Kf ?_ ?_ ?_)
  | ((with_reducible show JE _ _ _ _ _ _ (.ix _ _) _);refine N4 (λX g=>Of) ?_ ?_)
  | ((with_reducible show JI _ _ _ _ _ _ (.seq _) _ _);refine J8 ?_)
  | ((with_reducible show JT _ _ _ _ _ _ (.cmp .ne _ _) _);refine jT (λX g=>Od g) ?_ ?_ (g7 _))
  | ((with_reducible show rT _ _ _ _ _ _ (_ :: _) _);refine U1 (by decide +kernel) ?_)
  | ((with_reducible show JT _ _ _ _ _ _ (.cmp .eq _ _) _);refine jT (λX g=>ET g) ?_ ?_ (g7 _))
  | ((with_reducible show JG _ _ _ _ _ _ (.one _) _);exact U0 (by decide +kernel))
  | ((with_reducible show JE _ _ _ _ _ _ (.lst _) _);refine JV ?_)
  | ((with_reducible show JE _ _ _ _ _ _ (.bi .len _) _);refine yy (x:="len") (id:="len") (λX g=>KO) ?_ (hb:=Qc) (hv:=by decide +kernel))
  | ((with_reducible show JE _ _ _ _ _ _ (.c .aH) _);refine JP)
  | ((with_reducible show JS _ _ _ _ _ _ (.for _ _ _) _);refine Kg ?_ ?_ ?_)
  | ((with_reducible show JE _ _ _ _ _ _ (.c (.bl _)) _);refine N2)
  | ((with_reducible show JE _ _ _ _ _ _ (.bin .mul _ _) _);refine pJ (λX g=>KJ) ?_ ?_)
  | ((with_reducible show JE _ _ _ _ _ _ (.comp _ _ _ _) _);refine Oh (by decide +kernel) (by decide +kernel) ?_ ?_ ?_ ?_)
  | ((with_reducible show JG _ _ _ _ _ _ (.many _) _);refine Gz ?_)
  | ((with_reducible show rT _ _ _ _ _ _ [] _);refine Gy)
  | ((with_reducible show JO _ _ _ _ _ _ (.yes _) _);refine J3 ?_)
  | ((with_reducible show JC _ _ _ _ _ _ .no _);refine Oa)
  | ((with_reducible show JE _ _ _ _ _ _ (.cmp .eq _ _) _);refine ua (λX g=>ET g) ?_ ?_ (g7 _))
  | ((with_reducible show JS _ _ _ _ _ _ (.exp _) _);refine Kd ?_)
  | ((with_reducible show JT _ _ _ _ _ _ (.an _ _) _);refine SA ?_ ?_)
  | ((with_reducible show JW _ _ _ _ _ _ (.an _ _) (.BoolOp _ (_ :: _ :: _) _));refine EC ?_ ?_)
  | ((with_reducible show JW _ _ _ _ _ _ _ (.BoolOp .And [_] _));refine JZ ?_)
  | ((with_reducible show JE _ _ _ _ _ _ (.sl _ _ _) _);refine N6 (λX g=>KH) ?_ ?_ ?_)
  | ((with_reducible show JE _ _ _ _ _ _ (.g9 _ _ _) _);refine JX ?_ ?_ ?_)
  | ((with_reducible show JE _ _ _ _ _ _ (.bin .mod _ _) _);refine pJ (λX g=>Ky) ?_ ?_)
  | ((with_reducible show JE _ _ _ _ _ _ (.me .append _ (.cons _ _)) _);refine yz PySem.F.plainAttrs_list PySem.F.slot_list_append PySem.F.type_list_append (λX g=>Az) rfl ?_ ?_)
  | ((with_reducible show JE _ _ _ _ _ _ (.jg _) _);refine KQ ?_ (h1:=Ir))
  | ((with_reducible show JE _ _ _ _ _ _ (.bin .fdiv _ _) _);refine pJ (λX g=>GW) ?_ ?_)
  | ((with_reducible show JE _ _ _ _ _ _ (.cmp .jA _ _) _);refine ua (λX g=>Ax) ?_ ?_ (g7 _))
  | ((with_reducible show JT _ _ _ _ _ _ (.cmp .jR _ _) _);refine jT (λX g=>GU) ?_ ?_ (g7 _))
  | ((with_reducible show JC _ _ _ _ _ _ (.yes _) _);refine Km ?_)
  | ((with_reducible show JT _ _ _ _ _ _ (.orr _ _) _);refine SD ?_ ?_)
  | ((with_reducible show JW _ _ _ _ _ _ (.orr _ _) (.BoolOp _ (_ :: _ :: _) _));refine Af ?_ ?_)
  | ((with_reducible show JW _ _ _ _ _ _ _ (.BoolOp .Or [_] _));refine Gu ?_)
  | ((with_reducible show JT _ _ _ _ _ _ (.nt _) _);refine N3 ?_)
  | ((with_reducible show JE _ _ _ _ _ _ (.me .join _ (.cons _ _)) _);refine yz PySem.F.plainAttrs_str PySem.F.slot_str_join PySem.F.type_str_join (λX g=>G1) rfl ?_ ?_)
  | ((with_reducible show JI _ _ _ _ _ _ (.fR (.cons _ .nil)) _ _);refine Gx ?_ (hb:=xZ))
  | ((with_reducible show JE _ _ _ _ _ _ (.fS (.seq _)) _);refine KP ?_ (h1:=BX))
  | ((with_reducible show JI _ _ _ _ _ _ (.enum _) _ _);refine G6 ?_ (QI:=vY))
  | ((with_reducible show JT _ _ _ _ _ _ (.cmp .gt _ _) _);refine jT (λX g=>EU) ?_ ?_ (g7 _))
  | ((with_reducible show JE _ _ _ _ _ _ (.me .extend _ (.cons _ _)) _);refine yz PySem.F.plainAttrs_list PySem.F.slot_list_extend PySem.F.type_list_extend (λX g=>AA) rfl ?_ ?_)
  | ((with_reducible show JE _ _ _ _ _ _ .ig _);exact GJ)
  | ((with_reducible show JE _ _ _ _ _ _ (.bi .all _) _);refine yy (x:="all") (id:="all") (λX g=>KL g) ?_ (hb:=P9) (hv:=by decide +kernel))
  | ((with_reducible show JS _ _ _ _ _ _ (.kD _ _) _);refine GB ?_ ?_)
  | ((with_reducible show JT _ _ _ _ _ _ (.cmp .fD _ _) _);refine jT (λX g=>CO g) ?_ ?_ (by with_unfolding_all rfl))
  | ((with_reducible show JS _ _ _ _ _ _ (.set _ (.comp _ _ _ _)) _);refine Oi (by decide +kernel) (by decide +kernel) (by decide +kernel) ?_ ?_ ?_ ?_)
  | ((with_reducible show JO _ _ _ _ _ _ .no _);refine N5)
  | ((with_reducible show JT _ _ _ _ _ _ (.cmp .jA _ _) _);refine jT (λX g=>Ax) ?_ ?_ (g7 _))
  | ((with_reducible show JE _ _ _ _ _ _ (.bi .sum _) _);refine yy (x:="sum") (id:="sum") (λX g=>KN g) ?_ (hb:=Qe) (hv:=by decide +kernel))
  | ((with_reducible show JS _ _ _ _ _ _ .gR _);refine KR)
  | ((with_reducible show JE _ _ _ _ _ _ (.jw _ _) _);refine G4 (x:="TURNED") (.head _) ?_)
  | ((with_reducible show JS _ _ _ _ _ _ (.dput _ _ _) _);refine GK ?_ ?_ ?_)
  | ((with_reducible show JS _ _ _ _ _ _ (.oS _ _) _);refine GN ?_ ?_)
  | ((with_reducible show JE _ _ _ _ _ _ (.mF _ _ _) _);refine Kh ?_ ?_ ?_)
  | ((with_reducible show JT _ _ _ _ _ _ (.cmp .lt _ _) _);refine jT (λX g=>Oe) ?_ ?_ (g7 _))
  | ((with_reducible show JE _ _ _ _ _ _ (.cmp .gt _ _) _);refine ua (λX g=>EU) ?_ ?_ (g7 _))
  | ((with_reducible show JE _ _ _ _ _ _ (.fS (.fR (.cons _ (.cons _ .nil)))) _);refine CT ?_ (h1:=BX) (hb:=xZ))
  | ((with_reducible show JE _ _ _ _ _ _ (.kO _ [.int]) _);refine AB (t:=.int) (T:="int") ?_ (by decide +kernel) (h1:=nL) (h2:=Qa))
  | ((with_reducible show JS _ _ _ _ _ _ (.exp (.me .lG _ _)) _);refine GC ?_ ?_ ?_)
  | ((with_reducible show JE _ _ _ _ _ _ (.cl _ .nil) _);refine Sy (by decide +kernel) rfl rfl)
  | ((with_reducible show JE _ _ _ _ _ _ (.kO _ [.str]) _);refine AB (t:=.str) (T:="str") ?_ (by decide +kernel) (h1:=nL) (h2:=Qd))
  | ((with_reducible show JS _ _ _ _ _ _ (.set _ _) _);refine Sx ?_ ?_;decide +kernel)
  | ((with_reducible show JT _ _ _ _ _ _ _ _);refine J1 ?_))
end
end Lw
set_option maxRecDepth 100000
namespace Lw
open PySem PySem.Spec PyProof.Rows L2 Sm
open Ev (D O Hh Fr R aR E Es Eo T S Ss Fl Src bQ bK TY BI ME)
theorem j8{α:Type _}{l:List α}(h:l.length=1):∃a,l=[a]:=by
 rcases l with _|⟨a,_|⟨b,l⟩⟩<;>simp at h ⊢
theorem kL{α:Type _}{l:List α}(h:l.length=2):∃a b,l=[a,b]:=by
 rcases l with _|⟨a,l⟩
 .simp at h
 .obtain⟨b,rfl⟩:=j8 (l:=l) (by simpa using h);exact⟨a,b,rfl⟩
theorem vt{α:Type _}{l:List α}(h:l.length=3):∃a b c,l=[a,b,c]:=by
 rcases l with _|⟨a,l⟩
 .simp at h
 .obtain⟨b,c,rfl⟩:=kL (l:=l) (by simpa using h);exact⟨a,b,c,rfl⟩
structure Fg(K:PySem.W.Frag)(x:Str)(i:Nat)(p:Addr)(d:FuncData):Prop where
 a:PySem.W.nsIn K mainGlobals x=some (some (.ref p))
 f:rO K x x (top i) p d
theorem Fg.t{K:PySem.W.Frag}{h:Heap}{mg:Str->Option Value}{x:Str}{i:Nat}{p:Addr}{d:FuncData}{ps:List Str}(F:Fg K x i p d)(X:K.In h)(G:h.Ns mainGlobals mg)(b:Binds K d ps []):mg x=some (.ref p)/\PySem.W.keepIn K (.ref p)=true/\Binds K d ps []:=⟨PySem.W.mg_of X G F.a,F.f.kp,b⟩
theorem all_mk {l:PySem.W.OpenLaw}{w:World}{K:PySem.W.Frag}{h:Heap}{mg:Str->Option Value}{fa p0 p1 p2 p3 p4 p5 p6 p7 p8 p9 QY QZ Q0 Q2 Q3 Q4 Q5 Q6 Q7 Q8 Q9 Ra Rb Rc M8:Addr}{d0 d1 d2 d3 d4 d5 d6 d7 d8 d9 Rf Rg Rh Ri Rj Rk Rl Rm Rn Ro Rq Rt Ru Rw M9:FuncData}(X:K.In h) (G:h.Ns mainGlobals mg) (VL:mg "law" = some (.ref fa))
  (F0:Fg K "size" 1 p0 d0)
  (F1:Fg K "before" 2 p1 d1)
  (F2:Fg K "form" 3 p2 d2)
  (F3:Fg K "stretch" 4 p3 d3)
  (F4:Fg K "fits" 10 p4 d4)
  (F5:Fg K "done" 11 p5 d5)
  (F6:Fg K "undone" 12 p6 d6)
  (F7:Fg K "dropped_signs" 14 p7 d7)
  (F8:Fg K "alike" 17 p8 d8)
  (F9:Fg K "parting" 18 p9 d9)
  (Na:Fg K "within" 19 QY Rf)
  (Nb:Fg K "all_fit" 20 QZ Rg)
  (Nc:Fg K "fitting" 21 Q0 Rh)
  (Nd:Fg K "filled" 22 Q2 Ri)
  (Nf:Fg K "outcome" 23 Q3 Rj)
  (Ng:Fg K "_law_cell" 25 Q4 Rk)
  (Nh:Fg K "_law_drawn" 26 Q5 Rl)
  (Ni:Fg K "_law_text" 27 Q6 Rm)
  (Nj:Fg K "_law_change" 28 Q7 Rn)
  (Nk:Fg K "_law_sense" 29 Q8 Ro)
  (Nl:Fg K "_law_made" 31 Q9 Rq)
  (Nn:Fg K "_law_is_within" 32 Ra Rt)
  (Np:Fg K "_law_all" 33 Rb Ru)
  (Nq:Fg K "_law_parted" 34 Rc Rw)
  (BY:Fg K "law" 35 M8 M9)
  (z0:PySem.W.nsIn K mainGlobals "all" = some none)
  (z1:PySem.W.nsIn K mainGlobals "enumerate" = some none)
  (z2:PySem.W.nsIn K mainGlobals "int" = some none)
  (z3:PySem.W.nsIn K mainGlobals "isinstance" = some none)
  (z4:PySem.W.nsIn K mainGlobals "len" = some none)
  (z5:PySem.W.nsIn K mainGlobals "list" = some none)
  (z6:PySem.W.nsIn K mainGlobals "range" = some none)
  (z7:PySem.W.nsIn K mainGlobals "str" = some none)
  (z8:PySem.W.nsIn K mainGlobals "sum" = some none)
  (z9:PySem.W.nsIn K mainGlobals "tuple" = some none)
  {t0:Tok} (q0:PySem.W.nsIn K mainGlobals "__name__" = some (some (.str "law_pastways_k60_alike" t0)))
  {Ua Ub:Tok} {Fz:Addr} {VM:Option Addr} {VN:Nat} {VO:Array (Option Value)} (q1:PySem.W.nsIn K mainGlobals "FILLS" = some (some (.ref Fz))) (Rx:K.lookup Fz=some ⟨.type "tuple",VM,.seq #[.str "a" Ua,.str "b" Ub] VN,VO⟩)
  {FA:Addr} (Ry:PySem.W.nsIn K mainGlobals "TURNED" = some (some (.ref FA))) (Rz:PyProof.Rows.KTD.tabLook PyProof.Rows.KTD.flatLooks (λb=>K.lookup b) FA [(aN [107,101,101,112],PyData.str (aN [107,101,101,112])),(aN [112,117,116],PyData.str (aN [100,114,111,112])),(aN [100,114,111,112],PyData.str (aN [112,117,116]))]=true) (RA:PyProof.Rows.KTD.hashesOf (λb=>K.lookup b) FA=([(aN [107,101,101,112],PyData.str (aN [107,101,101,112])),(aN [112,117,116],PyData.str (aN [100,114,111,112])),(aN [100,114,111,112],PyData.str (aN [112,117,116]))]:List (Str×PyData)).map λp=>(PySem.strKind l.prog w).hash p.1)
  : ∃fd:FuncData,(∀(s:Shared) (v:Value),BindsTo s fd ⟨[v],[]⟩ [("_law_script",v)])/\∀base:Heap,K.In base->base.Ns mainGlobals mg->g8 l.prog w K mg base m5 60 fa fd ["_law_script"] (oB K prog 100000 60 24):=by
 have e:=VL.symm.trans (PySem.W.mg_of X G BY.a);have e2:M8=fa:=by injection e with e;injection e with e;exact e.symm
 subst e2
 let aa:Nat->Addr:=λk=>[p0,p1,p2,p3,p4,p5,p6,p7,p8,p9,QY,QZ,Q0,Q2,Q3,Q4,Q5,Q6,Q7,Q8,Q9,Ra,Rb,Rc,M8].getD k p0
 let dd:Nat->FuncData:=λk=>[d0,d1,d2,d3,d4,d5,d6,d7,d8,d9,Rf,Rg,Rh,Ri,Rj,Rk,Rl,Rm,Rn,Ro,Rq,Rt,Ru,Rw,M9].getD k d0
 have T:Top l.prog w K mg (tb aa dd):=by
  refine⟨λf i hi=>(show ∀i∈(tb aa dd).fi,mg i.name=some (.ref i.addr)/\PySem.W.keepIn K (.ref i.addr)=true/\Binds K i.fd i.ps []from ?_) i (List.mem_of_getElem? hi),?_,?_,?_⟩
  .refine List.forall_mem_cons.mpr ⟨F0.t X G (F0.f.binds λ_ _ _ _ _ _ us hl=>by obtain⟨_,rfl⟩:=j8 hl;rfl),?_⟩;refine List.forall_mem_cons.mpr ⟨F1.t X G (F1.f.binds λ_ _ _ _ _ _ us hl=>by obtain⟨_,rfl⟩:=j8 hl;rfl),?_⟩;refine List.forall_mem_cons.mpr ⟨F2.t X G (F2.f.binds λ_ _ _ _ _ _ us hl=>by obtain⟨_,rfl⟩:=j8 hl;rfl),?_⟩;refine List.forall_mem_cons.mpr ⟨F3.t X G (F3.f.binds λ_ _ _ _ _ _ us hl=>by obtain⟨_,_,_,rfl⟩:=vt hl;rfl),?_⟩;refine List.forall_mem_cons.mpr ⟨F4.t X G (F4.f.binds λ_ _ _ _ _ _ us hl=>by obtain⟨_,_,rfl⟩:=kL hl;rfl),?_⟩;refine List.forall_mem_cons.mpr ⟨F5.t X G (F5.f.binds λ_ _ _ _ _ _ us hl=>by obtain⟨_,_,rfl⟩:=kL hl;rfl),?_⟩;refine List.forall_mem_cons.mpr ⟨F6.t X G (F6.f.binds λ_ _ _ _ _ _ us hl=>by obtain⟨_,rfl⟩:=j8 hl;rfl),?_⟩;refine List.forall_mem_cons.mpr ⟨F7.t X G (F7.f.binds λ_ _ _ _ _ _ us hl=>by obtain⟨_,rfl⟩:=j8 hl;rfl),?_⟩;refine List.forall_mem_cons.mpr ⟨F8.t X G (F8.f.binds λ_ _ _ _ _ _ us hl=>by obtain⟨_,_,rfl⟩:=kL hl;rfl),?_⟩;refine List.forall_mem_cons.mpr ⟨F9.t X G (F9.f.binds λ_ _ _ _ _ _ us hl=>by obtain⟨_,_,rfl⟩:=kL hl;rfl),?_⟩;refine List.forall_mem_cons.mpr ⟨Na.t X G (Na.f.binds λ_ _ _ _ _ _ us hl=>by obtain⟨_,_,rfl⟩:=kL hl;rfl),?_⟩;refine List.forall_mem_cons.mpr ⟨Nb.t X G (Nb.f.binds λ_ _ _ _ _ _ us hl=>by obtain⟨_,rfl⟩:=j8 hl;rfl),?_⟩;refine List.forall_mem_cons.mpr ⟨Nc.t X G (Nc.f.binds λ_ _ _ _ _ _ us hl=>by obtain⟨_,rfl⟩:=j8 hl;rfl),?_⟩;refine List.forall_mem_cons.mpr ⟨Nd.t X G (Nd.f.binds λ_ _ _ _ _ _ us hl=>by obtain⟨_,_,_,rfl⟩:=vt hl;rfl),?_⟩;refine List.forall_mem_cons.mpr ⟨Nf.t X G (Nf.f.binds λ_ _ _ _ _ _ us hl=>by obtain⟨_,_,rfl⟩:=kL hl;rfl),?_⟩;refine List.forall_mem_cons.mpr ⟨Ng.t X G (Ng.f.binds λ_ _ _ _ _ _ us hl=>by obtain⟨_,_,rfl⟩:=kL hl;rfl),?_⟩;refine List.forall_mem_cons.mpr ⟨Nh.t X G (Nh.f.binds λ_ _ _ _ _ _ us hl=>by obtain⟨_,_,_,rfl⟩:=vt hl;rfl),?_⟩;refine List.forall_mem_cons.mpr ⟨Ni.t X G (Ni.f.binds λ_ _ _ _ _ _ us hl=>by obtain⟨_,_,_,rfl⟩:=vt hl;rfl),?_⟩;refine List.forall_mem_cons.mpr ⟨Nj.t X G (Nj.f.binds λ_ _ _ _ _ _ us hl=>by obtain⟨_,_,_,rfl⟩:=vt hl;rfl),?_⟩;refine List.forall_mem_cons.mpr ⟨Nk.t X G (Nk.f.binds λ_ _ _ _ _ _ us hl=>by obtain⟨_,rfl⟩:=j8 hl;rfl),?_⟩;refine List.forall_mem_cons.mpr ⟨Nl.t X G (Nl.f.binds λ_ _ _ _ _ _ us hl=>by obtain⟨_,_,rfl⟩:=kL hl;rfl),?_⟩;refine List.forall_mem_cons.mpr ⟨Nn.t X G (Nn.f.binds λ_ _ _ _ _ _ us hl=>by obtain⟨_,_,rfl⟩:=kL hl;rfl),?_⟩;refine List.forall_mem_cons.mpr ⟨Np.t X G (Np.f.binds λ_ _ _ _ _ _ us hl=>by obtain⟨_,rfl⟩:=j8 hl;rfl),?_⟩;refine List.forall_mem_cons.mpr ⟨Nq.t X G (Nq.f.binds λ_ _ _ _ _ _ us hl=>match us,hl with|[],_=>rfl),?_⟩;refine List.forall_mem_cons.mpr ⟨BY.t X G (BY.f.binds λ_ _ _ _ _ _ us hl=>by obtain⟨_,rfl⟩:=j8 hl;rfl),?_⟩;exact λ_ h=>nomatch h
  .exact(show ∀x∈mL,mg x=none from List.forall_mem_cons.mpr ⟨PySem.W.mg_none_of X G z0,List.forall_mem_cons.mpr ⟨PySem.W.mg_none_of X G z1,List.forall_mem_cons.mpr ⟨PySem.W.mg_none_of X G z2,List.forall_mem_cons.mpr ⟨PySem.W.mg_none_of X G z3,List.forall_mem_cons.mpr ⟨PySem.W.mg_none_of X G z4,List.forall_mem_cons.mpr ⟨PySem.W.mg_none_of X G z5,List.forall_mem_cons.mpr ⟨PySem.W.mg_none_of X G z6,List.forall_mem_cons.mpr ⟨PySem.W.mg_none_of X G z7,List.forall_mem_cons.mpr ⟨PySem.W.mg_none_of X G z8,List.forall_mem_cons.mpr ⟨PySem.W.mg_none_of X G z9,λ_ h=>nomatch h⟩⟩⟩⟩⟩⟩⟩⟩⟩⟩)
  .exact λx d hx=>(show ∀y∈(tb aa dd).cs,∃v u,mg y.1=some u/\RelV v u/\wJ K y.2 v from List.forall_mem_cons.mpr ⟨⟨.str "law_pastways_k60_alike",_,PySem.W.mg_of X G q0,⟨_,rfl⟩,λ_ _=>⟨by decide +kernel,by decide⟩⟩,List.forall_mem_cons.mpr ⟨⟨.ref Fz,_,PySem.W.mg_of X G q1,rfl,λ_ _=>⟨Fz,[V.str "a",V.str "b"],rfl,.inr ⟨_,_,_,Rx,rfl,rfl,by show 2<=sizeLine;decide,.cons ⟨_,rfl⟩ (.cons ⟨_,rfl⟩ .nil)⟩,⟨_,_,rfl,⟨by decide +kernel,by decide⟩,⟨_,_,rfl,⟨by decide +kernel,by decide⟩,rfl⟩⟩⟩⟩,λ_ h=>nomatch h⟩⟩) (x,d) hx
  .exact λx d hx=>(show ∀y∈(tb aa dd).dk,∃a,mg y.1=some (.ref a)/\∀h:Heap,K.In h->StrTab l.prog w h a (tabOf y.2)from List.forall_mem_cons.mpr ⟨⟨FA,PySem.W.mg_of X G Ry,λh hK=>PySem.W.kt_tab_in l.prog w hK Rz (by decide +kernel) RA⟩,λ_ h=>nomatch h⟩) (x,d) hx
 refine⟨M9,λs v=>?_,λbase _ _=>?_⟩
 .obtain⟨oc,od,kV,doc,pm,an,cdv,ct,osl,e,_⟩:=BY.f.ex;rw[e];exact .of_eq rfl
 refine AE (P:=l.prog) (w:=w) (base:=base) T (λn A0 f i hi=>?_) 60 24 (Fy aa dd) rfl
 match f,hi with
 |0,hi=>obtain rfl:i0 aa dd=i:=Option.some.inj hi;exact cO (i:=i0 aa dd) T A0 F0.f s0 rfl rfl (@allB.get _ _ _ 0 (f0.body,top 1,n0) dN rfl)
 |1,hi=>obtain rfl:i1 aa dd=i:=Option.some.inj hi;exact cO (i:=i1 aa dd) T A0 F1.f s1 rfl rfl (@allB.get _ _ _ 1 (f1.body,top 2,n1) dN rfl)
 |2,hi=>obtain rfl:i2 aa dd=i:=Option.some.inj hi;exact cO (i:=i2 aa dd) T A0 F2.f s2 rfl rfl (@allB.get _ _ _ 2 (f2.body,top 3,n2) dN rfl)
 |3,hi=>obtain rfl:i3 aa dd=i:=Option.some.inj hi;exact cO (i:=i3 aa dd) T A0 F3.f s3 rfl rfl (@allB.get _ _ _ 3 (f3.body,top 4,n3) dN rfl)
 |4,hi=>obtain rfl:i4 aa dd=i:=Option.some.inj hi;exact cO (i:=i4 aa dd) T A0 F4.f s4 rfl rfl (@allB.get _ _ _ 4 (f4.body,top 10,n4) dN rfl)
 |5,hi=>obtain rfl:i5 aa dd=i:=Option.some.inj hi;exact cO (i:=i5 aa dd) T A0 F5.f s5 rfl rfl (@allB.get _ _ _ 5 (f5.body,top 11,n5) dN rfl)
 |6,hi=>obtain rfl:i6 aa dd=i:=Option.some.inj hi;exact cO (i:=i6 aa dd) T A0 F6.f s6 rfl rfl (@allB.get _ _ _ 6 (f6.body,top 12,n6) dN rfl)
 |7,hi=>obtain rfl:i7 aa dd=i:=Option.some.inj hi;exact cO (i:=i7 aa dd) T A0 F7.f s7 rfl rfl (@allB.get _ _ _ 7 (f7.body,top 14,n7) dN rfl)
 |8,hi=>obtain rfl:i8 aa dd=i:=Option.some.inj hi;exact cO (i:=i8 aa dd) T A0 F8.f s8 rfl rfl (@allB.get _ _ _ 8 (f8.body,top 17,n8) dN rfl)
 |9,hi=>obtain rfl:i9 aa dd=i:=Option.some.inj hi;exact cO (i:=i9 aa dd) T A0 F9.f s9 rfl rfl (@allB.get _ _ _ 9 (f9.body,top 18,n9) dN rfl)
 |10,hi=>obtain rfl:MB aa dd=i:=Option.some.inj hi;exact cO (i:=MB aa dd) T A0 Na.f QD rfl rfl (@allB.get _ _ _ 10 (Ar.body,top 19,MP) dN rfl)
 |11,hi=>obtain rfl:MC aa dd=i:=Option.some.inj hi;exact cO (i:=MC aa dd) T A0 Nb.f EJ rfl rfl (@allB.get _ _ _ 11 (Mr.body,top 20,MQ) dN rfl)
 |12,hi=>obtain rfl:i12 aa dd=i:=Option.some.inj hi;exact cO (i:=i12 aa dd) T A0 Nc.f s12 rfl rfl (@allB.get _ _ _ 12 (Ms.body,top 21,MR) dN rfl)
 |13,hi=>obtain rfl:MD aa dd=i:=Option.some.inj hi;exact cO (i:=MD aa dd) T A0 Nd.f Vy rfl rfl (@allB.get _ _ _ 13 (Mt.body,top 22,MS) dN rfl)
 |14,hi=>obtain rfl:MF aa dd=i:=Option.some.inj hi;exact cO (i:=MF aa dd) T A0 Nf.f Vz rfl rfl (@allB.get _ _ _ 14 (Mu.body,top 23,MT) dN rfl)
 |15,hi=>obtain rfl:MG aa dd=i:=Option.some.inj hi;exact cO (i:=MG aa dd) T A0 Ng.f VA rfl rfl (@allB.get _ _ _ 15 (Mv.body,top 25,MU) dN rfl)
 |16,hi=>obtain rfl:MH aa dd=i:=Option.some.inj hi;exact cO (i:=MH aa dd) T A0 Nh.f VB rfl rfl (@allB.get _ _ _ 16 (Mw.body,top 26,MV) dN rfl)
 |17,hi=>obtain rfl:MI aa dd=i:=Option.some.inj hi;exact cO (i:=MI aa dd) T A0 Ni.f VC rfl rfl (@allB.get _ _ _ 17 (Mx.body,top 27,MW) dN rfl)
 |18,hi=>obtain rfl:MJ aa dd=i:=Option.some.inj hi;exact cO (i:=MJ aa dd) T A0 Nj.f VD rfl rfl (@allB.get _ _ _ 18 (My.body,top 28,MX) dN rfl)
 |19,hi=>obtain rfl:MK aa dd=i:=Option.some.inj hi;exact cO (i:=MK aa dd) T A0 Nk.f VE rfl rfl (@allB.get _ _ _ 19 (Mz.body,top 29,MY) dN rfl)
 |20,hi=>obtain rfl:ML aa dd=i:=Option.some.inj hi;exact cO (i:=ML aa dd) T A0 Nl.f VF rfl rfl (@allB.get _ _ _ 20 (BR.body,top 31,MZ) dN rfl)
 |21,hi=>obtain rfl:MM aa dd=i:=Option.some.inj hi;exact cO (i:=MM aa dd) T A0 Nn.f VG rfl rfl (@allB.get _ _ _ 21 (BU.body,top 32,M4) dN rfl)
 |22,hi=>obtain rfl:MN aa dd=i:=Option.some.inj hi;exact cO (i:=MN aa dd) T A0 Np.f VH rfl rfl (@allB.get _ _ _ 22 (xY.body,top 33,M5) dN rfl)
 |23,hi=>obtain rfl:MO aa dd=i:=Option.some.inj hi;exact cO (i:=MO aa dd) T A0 Nq.f VI rfl rfl (@allB.get _ _ _ 23 (BV.body,top 34,M6) dN rfl)
 |24,hi=>obtain rfl:Fy aa dd=i:=Option.some.inj hi;exact cO (i:=Fy aa dd) T A0 BY.f VJ rfl rfl (@allB.get _ _ _ 24 (BW.body,top 35,M7) dN rfl)
 |j+25,hi=>exact nomatch (show(none:Option FI)=some i from hi)
end Lw
namespace Lg
open Pv
open Lw (prog BR BU xY BV BW Fq zx Ft Fv Fx zy)
open Ev (deep big rep cut bM)
theorem FD(ns:List Int)(k:Int)(x:List Nat)(b:Nat)(h:x.length<=b):(chg ns k x).length<=2*b+2/\tot (chg ns k x)<=3*b+3:=by
 have h1:=nv ns k x (x.length+1);have h2:=sI ns k x (x.length+1);simp only[chg];omega
theorem z0(k:Nat):((0:Int)+(k:Nat))=(k:Nat):=by omega
noncomputable def mk(x:List Nat)(l:List Pt)(k:Nat)(f:List Nat):Option (List Nat):=if k<=x.length/\aG l (x.drop k)=true then some (f++aQ l (x.drop k))else none
theorem Nr(x:List Nat)(l:List Pt)(k:Nat)(f s:List Nat):mk x (.put s :: l) k f=mk x l k (f++s):=by
 unfold mk;simp only[aG,aQ,List.append_assoc];rfl
theorem Iu(x:List Nat)(l:List Pt)(k n:Nat)(f:List Nat):mk x (.keep n :: l) k f=mk x l (k+n) (f++(x.drop k).take n):=by
 unfold mk;simp only[aG,aQ,List.append_assoc,List.drop_drop];by_cases h:k+n<=x.length
 .have e1:n<=(x.drop k).length:=by simp;omega
  rw[decide_eq_true e1,Bool.true_and];by_cases h2:aG l (x.drop (k+n))=true
  .rw[if_pos ⟨by omega,h2⟩,if_pos ⟨h,h2⟩]
  .rw[if_neg (λz=>h2 z.2),if_neg λz=>h2 z.2]
 .rw[if_neg,if_neg λz=>h z.1];intro z;have:=z.2;rw[Bool.and_eq_true,decide_eq_true_iff]at this;have:=this.1;simp at this;omega
theorem Iv(x:List Nat)(l:List Pt)(k:Nat)(f s:List Nat)(h:(x.drop k).take s.length=s):mk x (.drop s :: l) k f=mk x l (k+s.length) f:=by
 unfold mk;simp only[aG,aQ,List.drop_drop];have hl:=congrArg List.length h;simp only[List.length_take,List.length_drop]at hl;have hp:s.isPrefixOf (x.drop k)=true:=by
  rw[List.isPrefixOf_iff_prefix];rw[<-h];exact List.take_prefix _ _
 rw[hp,Bool.true_and];by_cases hk:k<=x.length
 .have:k+s.length<=x.length:=by omega
  by_cases h2:aG l (x.drop (k+s.length))=true
  .rw[if_pos ⟨hk,h2⟩,if_pos ⟨this,h2⟩]
  .rw[if_neg (λz=>h2 z.2),if_neg λz=>h2 z.2]
 .rw[if_neg (λz=>hk z.1),if_neg λz=>hk (by omega)]
theorem Nt(x:List Nat)(l:List Pt)(k:Nat)(f s:List Nat)(h:¬ (x.drop k).take s.length=s):mk x (.drop s :: l) k f=none:=by
 unfold mk;rw[if_neg];intro z;have:=z.2;simp only[aG]at this;rw[Bool.and_eq_true,List.isPrefixOf_iff_prefix]at this;obtain⟨r,e⟩:=this.1;exact h (by rw[<-e];simp)
theorem Nu(x:List Nat)(k:Nat)(f:List Nat):mk x [] k f=if k=x.length then some f else none:=by
 unfold mk;simp only[aG,aQ,List.append_nil];by_cases h:k=x.length
 .rw[if_pos h,if_pos];subst h;simp
 .rw[if_neg h,if_neg];intro z;have:=z.2;simp at this;omega
section
variable{w n:Nat}{ns:List Int}
theorem ve(c:List Pt)(x:List Nat)(b1:tot c<=900)(b2:x.length<=900):run prog w (n+1) 20 [.val (aC c),.val (.str x)]=some (oV (ou c x),[]):=by
 have lx:cS .len [.str x]=some (.int (x.length:Nat)):=len_str (by omega);have hi:mk x c 0 []=ou c x:=by unfold mk ou;simp
 refine bX (fn:=BR) rfl rfl ?_;refine ai (aW (aF rfl) rfl rfl ?_);refine ai (aW (aF rfl) rfl rfl ?_);refine ai (gn (vs:=c.map Pt.v) (af:=[some (.val (aC c)),some (.val (.str x)),some (.val (.int 0)),some (.val (.str [])),none,none]) (cy (bV rfl) rfl) ?_);refine dj (e:=Pt.v) (λp l fr=>∃(k:Nat) (f:List Nat) (a b:Option Sl),mk x l k f=ou c x/\f.length+tot l<=tot c/\vo a/\vo b/\fr=[some (.val (aC c)),some (.val (.str x)),some (.val (.int k)),some (.val (.str f)),a,b]) (λp q l fr ⟨k,f,a,b,hm,hf,va,vb,hfr⟩=>?_) (λp fr ⟨k,f,a,b,hm,hf,va,vb,hfr⟩=>?_) _ [] _ ⟨0,[],none,none,hi,by simp,.none,.none,rfl⟩
 .subst hfr;rw[bH]at hf;cases q with
  |put s=>
   simp only[Pt.n]at hf;rw[Nr]at hm;refine b5 (eT rfl va rfl vb) ?_;refine ai (aL (b:=true) (aB rfl (aS (aq rfl) (aF rfl) iQ) rfl) (λ_=>ai (aW (bf (aq rfl) (aq rfl) (fG (by omega))) rfl rfl (ay (ay ?_)))) λh=>absurd h (by decide));rw[cH];exact⟨k,f++s,_,_,hm,by rw[List.length_append];omega,.val,.val,rfl⟩
  |keep m=>
   simp only[Pt.n]at hf;rw[Iu]at hm;have sl:gy (.str x) (some (k:Int)) (some ((k:Int)+(m:Nat)))=some (.str ((x.drop k).take m)):=by rw[gW,kZ]
   refine b5 (eT rfl va rfl vb) ?_;refine ai (aL (b:=false) (aB rfl (aS (aq rfl) (aF rfl) iQ) rfl) (λh=>absurd h (by decide)) λ_=>?_);refine ai (aL (b:=false) (aB rfl (aS (aq rfl) (aF rfl) iQ) rfl) (λh=>absurd h (by decide)) λ_=>?_);refine ai (aW (bf (aq rfl) (qW (aq rfl) (iC (aq rfl)) (iC (bf (aq rfl) (aq rfl) cJ)) sl) (fG (by simp;omega))) rfl rfl ?_);refine ai (aW (bf (aq rfl) (aq rfl) cJ) rfl rfl (ay (ay (ay ?_))));rw[cH];exact⟨k+m,_,_,_,hm,by rw[List.length_append,List.length_take];omega,.val,.val,rfl⟩
  |drop s=>
   simp only[Pt.n]at hf;have ls:cS .len [.str s]=some (.int (s.length:Nat)):=len_str (by omega);have sl:gy (.str x) (some (k:Int)) (some ((k:Int)+(s.length:Nat)))=some (.str ((x.drop k).take s.length)):=by rw[gW,kZ]
   have ne:cop .ne (.str ((x.drop k).take s.length)) (.str s)=some (!decide ((x.drop k).take s.length=s)):=by rw[iB,fL];rfl
   refine b5 (eT rfl va rfl vb) ?_;refine ai (aL (b:=false) (aB rfl (aS (aq rfl) (aF rfl) iQ) rfl) (λh=>absurd h (by decide)) λ_=>?_);refine ai (aL (b:=true) (aB rfl (aS (aq rfl) (aF rfl) iQ) rfl) (λ_=>?_) λh=>absurd h (by decide));by_cases he:(x.drop k).take s.length=s
   .rw[Iv _ _ _ _ _ he]at hm;refine ai (aL (b:=false) (aB rfl (aS (qW (aq rfl) (iC (aq rfl)) (iC (bf (aq rfl) (dh (aj (aq rfl) az) ls) cJ)) sl) (aq rfl) ne) (by rw[decide_eq_true he];rfl)) (λh=>absurd h (by decide)) λ_=>ay ?_);refine ai (aW (bf (aq rfl) (dh (aj (aq rfl) az) ls) cJ) rfl rfl (ay (ay (ay ?_))));rw[cH];exact⟨k+s.length,f,_,_,hm,by omega,.val,.val,rfl⟩
   .rw[Nt _ _ _ _ _ he]at hm;refine ai (aL (b:=true) (aB rfl (aS (qW (aq rfl) (iC (aq rfl)) (iC (bf (aq rfl) (dh (aj (aq rfl) az) ls) cJ)) sl) (aq rfl) ne) (by rw[decide_eq_false he];rfl)) (λ_=>ai (bS (aF rfl) ?_)) λh=>absurd h (by decide));rw[<-hm];exact⟨rfl,rfl⟩
 .subst hfr;rw[Nu]at hm;rw[<-hm];have sh:fF [some (.val (aC c)),some (.val (.str x)),some (.val (.int (k:Nat))),some (.val (.str f)),a,b]=[some (.val (aC c)),some (.val (.str x)),some (.val (.int (k:Nat))),some (.val (.str f)),a,b]:=by
   show _ :: _ :: _ :: _ :: [a.map Sl.dg,b.map Sl.dg]=_;rw[dm va,dm vb];rfl
  refine ai (bS (af:=[some (.val (aC c)),some (.val (.str x)),some (.val (.int (k:Nat))),some (.val (.str f)),a,b]) ?_ ⟨rfl,rfl⟩);refine(congrArg (ev _ _ _) sh).trans ?_;by_cases hk:k=x.length
  .rw[if_pos hk];exact gm (b:=true) (aB rfl (aS (aq rfl) (dh (aj (aq rfl) az) lx) uT) (decide_eq_true (by rw[hk]))) (λ_=>aq rfl) λh=>absurd h (by decide)
  .rw[if_neg hk];exact gm (b:=false) (aB rfl (aS (aq rfl) (dh (aj (aq rfl) az) lx) uT) (decide_eq_false (by omega))) (λh=>absurd h (by decide)) λ_=>aF rfl
theorem om(f:List Nat->V):∀(l:List (List Nat)) (k:Nat),cG (k:Int) (l.map f)=(List.range l.length).map λj=>.tup [.int ((k+j:Nat):Int),f (l.getD j [])]
 |[],_=>rfl
 |x :: l,k=>by
  have:=om f l (k+1);rw[List.map_cons,cG,List.length_cons,List.range_succ_eq_map,List.map_cons,List.map_map];rw[show((k:Int)+1)=((k+1:Nat):Int)by omega,this];rw[List.cons.injEq];refine⟨rfl,List.map_congr_left λj _=>?_⟩;show V.tup [.int ((k+1+j:Nat):Int),_]=V.tup [.int ((k+(j+1):Nat):Int),_];rw[show k+1+j=k+(j+1)by omega];rfl
noncomputable def mq(a:List (List Nat)):Tq->Tq
 |.at p=>match a[p]? with
  |some [y]=>.sg y
  |_=>.at p
 |.sg s=>.sg s
theorem Qf{a:List (List Nat)}{L M:List Tq}(h:Pw a L M):(∀p,Tq.at p∈L->a[p]?=some [])->M.map (mq a)=L:=by
 induction h with
 |nil=>intro _;rfl
 |«at» _ ih=>
  intro q;rw[List.map_cons,ih λp hp=>q p (.tail _ hp)];simp only[mq,q _ (.head _)]
 |sg _ ih=>intro q;rw[List.map_cons,ih λp hp=>q p (.tail _ hp)];rfl
 |«as» e _ ih=>
  intro q;rw[List.map_cons,ih λp hp=>q p (.tail _ hp)];simp only[mq,e]
theorem tF(a:List (List Nat)):∀M:List Tq,Pw a (M.map (mq a)) M
 |[]=>.nil
 |.sg s :: M=>.sg (tF a M)
 |.at p :: M=>by
  rw[List.map_cons];show Pw a ((match a[p]? with|some [y]=>Tq.sg y|_=>.at p) :: _) _;split
  .rename_i y e;exact .as e (tF a M)
  .exact .at (tF a M)
noncomputable def Ww(c d:List Pt):Prop:=(asks c).length=(asks d).length/\(∀p<(asks d).length,(asks d).getD p []=[]\/(asks d).getD p []=(asks c).getD p [])/\(told 0 d).map (mq (asks c))=told 0 c
theorem zz{c d:List Pt}:Ww c d↔Wi c d:=by
 constructor
 .rintro⟨hl,hs,ht⟩;have pw:Pw (asks c) (told 0 c) (told 0 d):=by rw[<-ht];exact tF _ _
  refine OW λx hx=>?_;have hd:aG d x=true:=by
   rw[iI,gO];refine⟨by rw[<-hl,dW,gX hx],λp y z e1 e2=>?_⟩;rcases dz (List.mem_of_getElem? e1)with rfl|⟨w,rfl⟩
   .exact .inl rfl
   .have hp:p<(asks d).length:=(List.getElem?_eq_some_iff.mp e1).1;have e3:=List.getElem?_eq_getElem (show p<(asks c).length by omega);have q:=hs p hp;simp only[List.getD,e1,e3,Option.getD_some,reduceCtorEq,false_or]at q;rw[<-q]at e3;have:=nH hx e3;rw[this]at e2;cases e2;exact .inr rfl
  refine⟨hd,?_⟩;rw[jL hd,jL hx];exact(pw.vals λp y e=>nH hx e).symm
 .intro h;obtain⟨hl,hs⟩:=h.sub;refine⟨hl.symm,λp hp=>?_,Qf h.pw λp hp=>lq hp⟩;have e:=List.getElem?_eq_getElem hp;rcases dz (List.getElem_mem hp)with z|⟨x,z⟩
  .rw[z]at e;left;simp[List.getD,e]
  .rw[z]at e;right;simp[List.getD,e,hs p x e]
theorem Uc(x y:List Nat):Pv.cop .fD (.str x) (.tup [.str [],.str y])=some (!decide (x=[]\/x=y)):=by
 rw[sE];show(mem _ _).map _=_;rw[mem_cons,mem_cons,xC,fL,fL];by_cases hx:[]=x
 .subst hx;simp
 .by_cases hy:y=x
  .subst hy;simp
  .rw[decide_eq_false hx,decide_eq_false hy,decide_eq_false (p:=x=[]\/x=y) λz=>z.elim (λz=>hx z.symm) λz=>hy z.symm];rfl
noncomputable def iV(l:List Nat):V:=.lst (l.map λ(j:Nat)=>.int (j:Int))
theorem Qg(l:List Nat):Pv.cop .ne (iV l) (.lst [])=some (!decide (l=[])):=by
 rw[iB];cases l<;>simp[iV,qT]
theorem Iw(c d:List Pt)(b1:tot c<=900)(b2:tot d<=900):run prog w (n+1) 21 [.val (ez c),.val (ez d)]=some (.bl (fK c d),[]):=by
 have lc:cS .len [.lst (bg c)]=some (.int ((asks c).length:Nat)):=by rw[nV];simp[bg]
 have ld:cS .len [.lst (bg d)]=some (.int ((asks d).length:Nat)):=by rw[nV];simp[bg]
 have mc:(asks c).length<=900:=Nat.le_trans (jJ c) b1;have md:(asks d).length<=900:=Nat.le_trans (jJ d) b2;have mt:(told 0 d).length<=900:=Nat.le_trans (xO d 0) b2;have FE:∀p,p<(asks c).length->ek (.lst (bg c)) (.int (p:Int))=some (.str ((asks c).getD p [])):=λp h=>by
  rw[kT,jk (Int.natCast_nonneg p)];show(bg c)[p]?=_;unfold bg;rw[List.getElem?_map,List.getElem?_eq_getElem h];simp[List.getD,List.getElem?_eq_getElem h]
 refine bX (fn:=BU) rfl rfl ?_;refine ai (A8 (aq rfl) rfl ?_);refine ai (A8 (aq rfl) rfl ?_);by_cases h1:(asks c).length=(asks d).length
 case neg=>
  refine ai (aL (b:=true) (aB rfl (aS (dh (aj (aq rfl) az) lc) (dh (aj (aq rfl) az) ld) nW) (by rw[decide_eq_false (by omega)];rfl)) (λ_=>ai (bS (aF rfl) ⟨?_,rfl⟩)) λh=>absurd h (by decide));have:fK c d=false:=by
   cases e:fK c d with
   |false=>rfl
   |true=>exact absurd (zz.mpr (oh.mp e)).1 h1
  rw[this]
 refine ai (aL (b:=false) (aB rfl (aS (dh (aj (aq rfl) az) lc) (dh (aj (aq rfl) az) ld) nW) (by rw[decide_eq_true (by omega)];rfl)) (λh=>absurd h (by decide)) λ_=>ay ?_);have en:cG 0 (bg d)=(List.range (asks d).length).map λj=>.tup [.int ((j:Nat):Int),.str ((asks d).getD j [])]:=by
  have:=om V.str (asks d) 0;simp only[Nat.zero_add]at this;exact this
 let F:List Nat:=(List.range (asks d).length).filter λj=>!decide ((asks d).getD j []=[]\/(asks d).getD j []=(asks c).getD j [])
 have hF:F=[]↔∀p<(asks d).length,(asks d).getD p []=[]\/(asks d).getD p []=(asks c).getD p []:=by
  show List.filter _ _=[]↔_;rw[List.filter_eq_nil_iff];refine⟨λh p hp=>?_,λh p hp=>?_⟩
  .have:=h p (List.mem_range.mpr hp);exact Decidable.byContradiction λz=>this (by rw[decide_eq_false z];rfl)
  .rw[decide_eq_true (h p (List.mem_range.mp hp))];decide
 have fl:F.length<=900:=Nat.le_trans (List.length_filter_le _ _) (by simp;omega);have Ud:=Qg F;have c1:∀fr b,fr=([some (.val (ez c)),some (.val (ez d)),some (.val (.lst (bg c))),some (.val (.lst (dG c))),some (.val (.lst (bg d))),some (.val (.lst (dG d))),none,none,none,none]:Fr)->(F=[])=(b=true)->aK (run prog w n) (.cmp .ne (.comp (.v 7) (.many [7,8]) (.enum (.v 4)) (.yes (.cmp .fD (.v 8) (.tup (.cons (.c (.str [])) (.cons (.ix (.v 2) (.v 7)) .nil)))))) (.lst .nil)) fr=.ok (!b) fr:=λfr b hfr hb=>by
  subst hfr;have VP:dS (F.map λ(j:Nat)=>V.int (j:Int))=some (iV F):=cj (bO (by rw[List.length_map];omega));refine aB rfl (aS (eV (qX (bV rfl) rfl) rfl (by rw[en];exact jZ (λ(j:Nat)=>V.tup [.int ((j:Nat):Int),.str ((asks d).getD j [])]) (λj=>!decide ((asks d).getD j []=[]\/(asks d).getD j []=(asks c).getD j [])) (λ(j:Nat)=>V.int (j:Int)) (List.range (asks d).length) λj hj=>qY rfl (aB rfl (aS (aq rfl) (bN (aj (aF rfl) (aj (cX (aq rfl) (aq rfl) (FE j (by have:=List.mem_range.mp hj;omega))) az)) b8) (Uc _ _)) rfl) λ_=>aq rfl) VP) (fQ az yR) Ud) ?_;show(!decide (F=[])) = !b
  congr 1
  rw[Bool.eq_iff_iff,decide_eq_true_iff,hb]
 by_cases h2:F=[]
 case neg=>
  refine ai (aL (b:=true) (c1 _ false rfl (by simp[h2])) (λ_=>ai (bS (aF rfl) ⟨?_,rfl⟩)) λh=>absurd h (by decide));have:fK c d=false:=by
   cases e:fK c d with
   |false=>rfl
   |true=>exact absurd (hF.mpr (zz.mpr (oh.mp e)).2.1) h2
  rw[this]
 refine ai (aL (b:=false) (c1 _ true rfl (by simp[h2])) (λh=>absurd h (by decide)) λ_=>ay ?_);have mm:dS (((told 0 d).map (mq (asks c))).map Tq.v)=some (.lst (((told 0 d).map (mq (asks c))).map Tq.v)):=cj (bO (by simp;omega));have VQ:dS ((told 0 d).map λq=>(mq (asks c) q).v)=some (.lst (((told 0 d).map (mq (asks c))).map Tq.v)):=by rw[List.map_map]at mm ⊢;exact mm
 have cm:cop .eq (.lst (((told 0 d).map (mq (asks c))).map Tq.v)) (.lst (dG c))=some (decide ((told 0 d).map (mq (asks c))=told 0 c)):=by
  show cC deep _ _=_;rw[qT];exact jI (f:=cC (18+1)) (g:=Tq.v) (λa b=>Bk 18 a b) _ _
 refine ai (aW (eV (cy (bV rfl) rfl) rfl (dR Tq.v (λq=>(mq (asks c) q).v) (told 0 d) λq hq=>?_) VQ) rfl rfl ?_)
 .cases q with
  |sg s=>exact eG rfl (gm (b:=false) (j5 (aB rfl (sZ (aq rfl) rfl) rfl)) (λh=>absurd h (by decide)) λ_=>aq rfl)
  |«at» p=>
   have hp:p<(asks c).length:=by rw[h1];exact(List.getElem?_eq_some_iff.mp (lq hq)).1
   have e:=List.getElem?_eq_getElem hp;have eg:(asks c).getD p []=(asks c)[p]:=by simp[List.getD,e]
   have ne:cop .ne (.str ((asks c).getD p [])) (.str [])=some (!decide ((asks c)[p]=[])):=by rw[iB,fL,eg];rfl
   rcases dz (List.getElem_mem hp)with z|⟨y,z⟩
   .have:mq (asks c) (.at p)=.at p:=by simp only[mq,e,z]
    rw[this];exact eG rfl (gm (b:=false) (iD (aB rfl (sZ (aq rfl) rfl) rfl) (aB rfl (aS (cX (aq rfl) (aq rfl) (FE p hp)) (aF rfl) ne) (by rw[z];rfl))) (λh=>absurd h (by decide)) λ_=>aq rfl)
   .have:mq (asks c) (.at p)=.sg y:=by simp only[mq,e,z]
    rw[this];exact eG rfl (gm (b:=true) (iD (aB rfl (sZ (aq rfl) rfl) rfl) (aB rfl (aS (cX (aq rfl) (aq rfl) (FE p hp)) (aF rfl) ne) (by rw[z];rfl))) (λ_=>cX (aq rfl) (aq rfl) ((FE p hp).trans (by rw[eg,z];rfl))) λh=>absurd h (by decide))
 refine ai (bS (aS (aq rfl) (aq rfl) cm) ⟨?_,rfl⟩)
 congr 2
 rw[Bool.eq_iff_iff,oh,decide_eq_true_iff,<-zz];exact⟨λh=>⟨h1,hF.mp h2,h⟩,λh=>h.2.2⟩
noncomputable def mg(x y:List Nat):List Nat:=if x=[]then y else x
noncomputable def iN(a f:List (List Nat))(k:Nat):List (List Nat):=(List.range f.length).map λj=>if j<k then mg (a.getD j []) (f.getD j [])else f.getD j []
noncomputable def Cf(a f:List (List Nat))(j:Nat):Prop:=a.getD j []=[]\/f.getD j []=[]\/a.getD j []=f.getD j []
theorem Qh(a f:List (List Nat)):iN a f 0=f:=by
 refine List.ext_getElem? λj=>?_;unfold iN;by_cases h:j<f.length
 .rw[List.getElem?_map,List.getElem?_range h,List.getElem?_eq_getElem h];simp[List.getD,List.getElem?_eq_getElem h]
 .rw[List.getElem?_eq_none (by simp;omega),List.getElem?_eq_none (by omega)]
theorem Nv(a f:List (List Nat)){k:Nat}(h:k<f.length):(iN a f k)[k]?=some (f.getD k []):=by
 unfold iN;rw[List.getElem?_map,List.getElem?_range h];simp
theorem Qi(a f:List (List Nat)){k:Nat}(h:k<f.length):(iN a f k).set k (mg (a.getD k []) (f.getD k []))=iN a f (k+1):=by
 refine List.ext_getElem? λj=>?_;rw[List.getElem?_set];unfold iN;by_cases hj:j<f.length
 .by_cases e:k=j
  .subst e;rw[if_pos rfl,if_pos (by simpa using h),List.getElem?_map,List.getElem?_range h];simp
  .rw[if_neg e,List.getElem?_map,List.getElem?_map,List.getElem?_range hj];simp only[Option.map_some]
   congr 1
   by_cases h1:j<k
   .rw[if_pos h1,if_pos (by omega)]
   .rw[if_neg h1,if_neg (by omega)]
 .rw[if_neg (by omega),List.getElem?_eq_none (by simp;omega),List.getElem?_eq_none (by simp;omega)]
theorem Eg(x y:List Nat):Pv.cop .fD (.str []) (.tup [.str x,.str y])=some (!decide (x=[]\/y=[])):=by
 rw[sE];show(mem _ _).map _=_;rw[mem_cons,mem_cons,xC,fL,fL];by_cases hx:x=[]<;>by_cases hy:y=[]<;>simp[hx,hy]
theorem inner{r:V}{a f:List (List Nat)}(hl:a.length=f.length)(hb:f.length<=900){b3 b4:Option Sl}(v3:vo b3)(v4:vo b4) :
  Wp (ex (run prog w n) w (.for (.many [3,4]) (.enum (.v 2)) zx) [some (.val r),some (.own (f.map V.str)),some (.val (.lst (a.map V.str))),b3,b4]) λg fr=>(g=.nx/\(∀j<f.length,Cf a f j)/\∃b3 b4,vo b3/\vo b4/\fr=[some (.val r),some (.own ((iN a f f.length).map V.str)),some (.val (.lst (a.map V.str))),b3,b4])\/(g=.ret .aH/\(¬ ∀j<f.length,Cf a f j)/\outs 1 fr=[]):=by
 have en:cG 0 (a.map V.str)=(List.range a.length).map λj=>.tup [.int ((j:Nat):Int),.str (a.getD j [])]:=by
  have:=om V.str a 0;simp only[Nat.zero_add]at this;exact this
 refine gn (vs:=(List.range a.length).map λj=>.tup [.int ((j:Nat):Int),.str (a.getD j [])]) (af:=[some (.val r),some (.own (f.map V.str)),some (.val (.lst (a.map V.str))),b3,b4]) (by rw[<-en];exact qX (bV rfl) rfl) ?_;refine dj (e:=λ(j:Nat)=>V.tup [.int ((j:Nat):Int),.str (a.getD j [])]) (λp l fr=>p++l=List.range a.length/\(∀j<p.length,Cf a f j)/\∃(b3 b4:Option Sl),vo b3/\vo b4/\fr=[some (.val r),some (.own ((iN a f p.length).map V.str)),some (.val (.lst (a.map V.str))),b3,b4]) (λp q l fr ⟨hp,hc,b3,b4,v3,v4,hfr⟩=>?_) (λp fr ⟨hp,hc,b3,b4,v3,v4,hfr⟩=>?_) _ [] _ ⟨rfl,(λj hj=>by cases hj),b3,b4,v3,v4,by rw[List.length_nil,Qh]⟩
 .subst hfr;have VR:p.length<a.length:=by
   have:=congrArg List.length hp;rw[List.length_append,List.length_cons,List.length_range]at this;omega
  have hq:q=p.length:=by
   have:(p++q :: l)[p.length]?=(List.range a.length)[p.length]?:=by rw[hp]
   rw[List.getElem?_append_right (Nat.le_refl _),Nat.sub_self,List.getElem?_range VR]at this;simpa using this
  subst hq;have ix:ek (.lst ((iN a f p.length).map V.str)) (.int (p.length:Int))=some (.str (f.getD p.length [])):=by
   rw[kT,jk (Int.natCast_nonneg _)];show((iN a f p.length).map V.str)[p.length]?=_;rw[List.getElem?_map,Nv a f (by omega)];rfl
  have ne:cop .ne (.str (a.getD p.length [])) (.str (f.getD p.length []))=some (!decide (a.getD p.length []=f.getD p.length [])):=by rw[iB,fL];rfl
  refine b5 (eT rfl v3 rfl v4) ?_;by_cases h:Cf a f p.length
  .refine ai (aL (b:=false) (af:=[some (.val r),some (.own ((iN a f p.length).map V.str)),some (.val (.lst (a.map V.str))),some (.val (.int (p.length:Int))),some (.val (.str (a.getD p.length [])))]) ?_ (λh=>absurd h (by decide)) λ_=>ay ?_)
   .by_cases h1:a.getD p.length []=[]\/f.getD p.length []=[]
    .exact j5 (aB rfl (aS (aF rfl) (bN (aj (aq rfl) (aj (cX (aq rfl) (aq rfl) ix) az)) b8) (Eg _ _)) (by rw[decide_eq_true h1];rfl))
    .exact iD (aB rfl (aS (aF rfl) (bN (aj (aq rfl) (aj (cX (aq rfl) (aq rfl) ix) az)) b8) (Eg _ _)) (by rw[decide_eq_false h1];rfl)) (aB rfl (aS (aq rfl) (cX (aq rfl) (aq rfl) ix) ne) (by
      rcases h with h|h|h
      .exact absurd (.inl h) h1
      .exact absurd (.inr h) h1
      .rw[decide_eq_true h];rfl))
   .have so:∀fr:Fr,kU .lG 1 [.str (mg (a.getD p.length []) (f.getD p.length [])),.int (p.length:Int)] fr (some (some (.own ((iN a f p.length).map V.str))))=.ok .aH (fr.set 1 (some (.own (((iN a f p.length).map V.str).set p.length (.str (mg (a.getD p.length []) (f.getD p.length []))))))):=λfr=>Di (by rw[List.length_map];unfold iN;simp;omega);refine ai (kj (E9 (af:=[some (.val r),some (.own ((iN a f p.length).map V.str)),some (.val (.lst (a.map V.str))),some (.val (.int (p.length:Int))),some (.val (.str (a.getD p.length [])))]) rfl rfl (aj (v:=.str (mg (a.getD p.length []) (f.getD p.length []))) (gm (b:=decide (a.getD p.length []=[])) (aB rfl (aS (aq rfl) (aF rfl) iQ) rfl) (λz=>?_) λz=>?_) (aj (aq rfl) az)) (so _)) (ay ?_))
    .unfold mg;rw[if_pos (of_decide_eq_true z)];exact cX (aq rfl) (aq rfl) ix
    .unfold mg;rw[if_neg (of_decide_eq_false z)];exact aq rfl
    .rw[cH];refine⟨by rw[<-hp,List.append_assoc];rfl,λj hj=>?_,some (.val (.int (p.length:Int))),some (.val (.str (a.getD p.length []))),.val,.val,?_⟩
     .rw[List.length_append,List.length_singleton]at hj;by_cases e:j=p.length
      .subst e;exact h
      .exact hc j (by omega)
     .rw[List.length_append,List.length_singleton,<-Qi a f (by omega),List.map_set];rfl
  .have h1:¬ (a.getD p.length []=[]\/f.getD p.length []=[]):=λz=>h (z.elim .inl λz=>.inr (.inl z));have h2:¬ a.getD p.length []=f.getD p.length []:=λz=>h (.inr (.inr z));refine ai (aL (b:=true) (iD (aB rfl (aS (aF rfl) (bN (aj (aq rfl) (aj (cX (aq rfl) (aq rfl) ix) az)) b8) (Eg _ _)) (by rw[decide_eq_false h1];rfl)) (aB rfl (aS (aq rfl) (cX (aq rfl) (aq rfl) ix) ne) (by rw[decide_eq_false h2];rfl))) (λ_=>ai (bS (aF rfl) ?_)) λh=>absurd h (by decide));exact .inr ⟨rfl,λz=>h (z _ (by omega)),rfl⟩
 .subst hfr;rw[List.append_nil]at hp;have e:p.length=f.length:=by rw[hp,List.length_range,hl]
  rw[e]at hc ⊢;exact .inl ⟨rfl,hc,b3,b4,v3,v4,rfl⟩
theorem Eh(a:List (List Nat))(k:Nat):iN a a k=a:=by
 refine List.ext_getElem? λj=>?_;unfold iN mg;by_cases h:j<a.length
 .rw[List.getElem?_map,List.getElem?_range h,List.getElem?_eq_getElem h];simp[List.getD,List.getElem?_eq_getElem h]
 .rw[List.getElem?_eq_none (by simp;omega),List.getElem?_eq_none (by omega)]
theorem Iz{c d:List Pt}(h:(asks c).length≠(asks d).length):iL [c,d]=true:=by
 cases e:iL [c,d]with
 |true=>rfl
 |false=>
  obtain⟨t,ht⟩:=jM.mp e;have h1:=gX (ht c (.head _));have h2:=gX (ht d (.tail _ (.head _)));rw[dW,dW]at h;omega
theorem BZ{c d:List Pt}(h:(asks c).length=(asks d).length):iL [c,d]=false↔∀j<(asks c).length,Cf (asks d) (asks c) j:=by
 rw[jM];constructor
 .rintro⟨t,ht⟩ j hj;have f1:=ht c (.head _);have f2:=ht d (.tail _ (.head _));have e1:=List.getElem?_eq_getElem hj;have e2:=List.getElem?_eq_getElem (show j<(asks d).length by omega);unfold Cf;simp only[List.getD,e1,e2,Option.getD_some];rcases dz (List.getElem_mem hj)with z1|⟨x,z1⟩
  .exact .inr (.inl z1)
  .rcases dz (List.getElem_mem (show j<(asks d).length by omega))with z2|⟨y,z2⟩
   .exact .inl z2
   .rw[z1]at e1;rw[z2]at e2;have q1:=nH f1 e1;have q2:=nH f2 e2;rw[q1]at q2;cases q2;rw[z1,z2];exact .inr (.inr rfl)
 .intro hc
  let m:List (List Nat):=(List.range (asks c).length).map λj=>mg ((asks d).getD j []) ((asks c).getD j [])
  have lm:m.length=(asks c).length:=by simp[m]
  have am:∀j<(asks c).length,(aM 97 m)[j]?=some ((mg ((asks d).getD j []) ((asks c).getD j [])).headD 97):=λj hj=>gY (by simp only[m];rw[List.getElem?_map,List.getElem?_range hj];rfl);have go:∀e:List Pt,(asks e).length=(asks c).length->(∀j<(asks c).length,(asks e).getD j []=[]\/mg ((asks d).getD j []) ((asks c).getD j [])=(asks e).getD j [])->aG e (aM 97 m)=true:=λe hl hq=>by
   rw[iI,gO];refine⟨by rw[iT,lm,hl],λp y x e1 e2=>?_⟩;have hp:p<(asks c).length:=by rw[<-hl];exact(List.getElem?_eq_some_iff.mp e1).1
   rw[am p hp]at e2;have q:=hq p hp;simp only[List.getD,e1,Option.getD_some]at q;rcases dz (List.mem_of_getElem? e1)with z|⟨u,z⟩
   .exact .inl z
   .subst z;rcases q with q|q
    .cases q
    .simp only[List.getD]at e2;rw[q]at e2;cases e2;exact .inr rfl
  refine⟨aM 97 m,λe he=>?_⟩;rcases List.mem_cons.mp he with rfl|he
  .refine go e rfl λj hj=>?_;have:=hc j hj;unfold Cf at this;unfold mg;split
   .exact .inr rfl
   .rcases this with z|z|z
    .contradiction
    .exact .inl z
    .exact .inr z
  .rw[List.mem_singleton]at he;subst he;refine go e h.symm λj hj=>?_;unfold mg;split
   .rename_i z;exact .inl z
   .exact .inr rfl
theorem IA(c d:List Pt)(b1:tot c<=900)(b2:tot d<=900):∃v,run prog w (n+1) 22 [.val (.lst [.lst (bg c),.lst (bg d)])]=some (v,[])/\Pv.cop .jA v .aH=some (iL [c,d]):=by
 have mc:(asks c).length<=900:=Nat.le_trans (jJ c) b1;have md:(asks d).length<=900:=Nat.le_trans (jJ d) b2;have lv:∀a:List (List Nat),cS .len [.lst (a.map V.str)]=some (.int (a.length:Nat)):=λa=>by rw[nV];simp
 have BO:ek (.lst [.lst (bg c),.lst (bg d)]) (.int 0)=some (.lst (bg c)):=by rw[kT,jk (by decide)];rfl
 have key:Wp (exs (run prog w n) w xY.body (eO xY [.val (.lst [.lst (bg c),.lst (bg d)])])) λg fr=>∃v,Pv.cop .jA v .aH=some (iL [c,d])/\g=.ret v/\outs 1 fr=[]:=by
  refine ai (iE (l:=bg c) (pY (cy (cX (aq rfl) (aF rfl) BO) rfl) (cj (bO (by simp[bg];omega)))) rfl rfl ?_);refine ai (gn (vs:=[asks c,asks d].map λl=>V.lst (l.map V.str)) (af:=[some (.val (.lst [.lst (bg c),.lst (bg d)])),some (.own ((asks c).map V.str)),none,none,none]) (cy (bV rfl) rfl) ?_);refine dj (e:=λ(l:List (List Nat))=>V.lst (l.map V.str)) (λp l fr=>(((p=[]/\l=[asks c,asks d])\/(p=[asks c]/\l=[asks d]))/\∃(a2 a3 a4:Option Sl),vo a2/\vo a3/\vo a4/\fr=[some (.val (.lst [.lst (bg c),.lst (bg d)])),some (.own ((asks c).map V.str)),a2,a3,a4])\/(l=[]/\iL [c,d]=false/\∃(L:List V) (a2 a3 a4:Option Sl),vo a2/\vo a3/\vo a4/\fr=[some (.val (.lst [.lst (bg c),.lst (bg d)])),some (.own L),a2,a3,a4])) (λp a l fr h=>?_) (λp fr h=>?_) _ [] _ (.inl ⟨.inl ⟨rfl,rfl⟩,none,none,none,.none,.none,.none,rfl⟩)
  .rcases h with ⟨h,a2,a3,a4,v2,v3,v4,hfr⟩|⟨h,_⟩
   case inr=>cases h
   subst hfr;refine b5 (bind1 rfl v2) ?_;rcases h with ⟨rfl,h⟩|⟨rfl,h⟩
   .cases h;refine ai (aL (b:=false) (aB rfl (aS (dh (aj (aq rfl) az) (lv _)) (dh (aj (aq rfl) az) (lv _)) nW) (by rw[decide_eq_true rfl];rfl)) (λh=>absurd h (by decide)) λ_=>ay ?_);refine ai ((inner (w:=w) (n:=n) (r:=.lst [.lst (bg c),.lst (bg d)]) (a:=asks c) (f:=asks c) rfl mc v3 v4).mono λg fr h=>?_);rcases h with ⟨rfl,_,c3,c4,u3,u4,e⟩|⟨_,h,_⟩
    .refine ay ?_;rw[cH,e,Eh];exact .inl ⟨.inr ⟨rfl,rfl⟩,_,c3,c4,.val,u3,u4,rfl⟩
    .exact absurd (λj _=>.inr (.inr rfl)) h
   .cases h;by_cases hl:(asks d).length=(asks c).length
    .refine ai (aL (b:=false) (aB rfl (aS (dh (aj (aq rfl) az) (lv _)) (dh (aj (aq rfl) az) (lv _)) nW) (by rw[decide_eq_true (by omega)];rfl)) (λh=>absurd h (by decide)) λ_=>ay ?_);refine ai ((inner (w:=w) (n:=n) (r:=.lst [.lst (bg c),.lst (bg d)]) (a:=asks d) (f:=asks c) hl mc v3 v4).mono λg fr h=>?_);rcases h with ⟨rfl,hc,c3,c4,u3,u4,e⟩|⟨rfl,hc,ho⟩
     .refine ay ?_;rw[cH,e];exact .inr ⟨rfl,(BZ hl.symm).mpr hc,_,_,c3,c4,.val,u3,u4,rfl⟩
     .refine⟨.aH,?_,rfl,ho⟩;cases e:iL [c,d]with
      |true=>rfl
      |false=>exact absurd ((BZ hl.symm).mp e) hc
    .refine ai (aL (b:=true) (aB rfl (aS (dh (aj (aq rfl) az) (lv _)) (dh (aj (aq rfl) az) (lv _)) nW) (by rw[decide_eq_false (by omega)];rfl)) (λ_=>ai (bS (aF rfl) ⟨.aH,?_,rfl,rfl⟩)) λh=>absurd h (by decide));rw[Iz λz=>hl z.symm];rfl
  .rcases h with ⟨h,_⟩|⟨_,hno,L,a2,a3,a4,v2,v3,v4,hfr⟩
   .rcases h with ⟨_,h⟩|⟨_,h⟩<;>cases h
   .subst hfr;have sh:fF [some (.val (.lst [.lst (bg c),.lst (bg d)])),some (.own L),a2,a3,a4]=[some (.val (.lst [.lst (bg c),.lst (bg d)])),some (.val (.lst L)),a2,a3,a4]:=by
     show _ :: _ :: [a2.map Sl.dg,a3.map Sl.dg,a4.map Sl.dg]=_;rw[dm v2,dm v3,dm v4];rfl
    refine ai (bS (v:=.lst L) (af:=[some (.val (.lst [.lst (bg c),.lst (bg d)])),some (.val (.lst L)),a2,a3,a4]) ?_ ⟨.lst L,by rw[hno];rfl,rfl,rfl⟩);refine(congrArg (ev _ _ _) sh).trans ?_;exact aq rfl
 obtain⟨g,fr,e,v,hv,hg,ho⟩:=key;exact⟨v,bX rfl rfl ⟨g,fr,e,hg,ho⟩,hv⟩
structure Sz(c:List Pt):Prop where
 tt:tot c<=100
 ln:c.length<=100
theorem se{c:List Pt}(h:Sz c)(fr:Fr):eE (run prog w (n+5)) 19 [.inr (aC c)] fr=.ok (ez c) fr:=
 eF (fr:=fr) (Bm (F:=prog) (i:=19) (w:=w) (n:=n+4) rfl c (by have:=h.tt;omega))
theorem RB{c d:List Pt}(h1:Sz c)(h2:Sz d)(fr:Fr):eE (run prog w (n+5)) 8 [.inr (aC c),.inr (aC d)] fr=.ok (.bl (decide (aP c=aP d))) fr:=by
 have a1:=h1.tt;have a2:=h1.ln;have a3:=h2.tt;have a4:=h2.ln;exact call2 (fr:=fr) (BN (F:=prog) (w:=w) (n:=n+2) (i:=8) (cE:=2) (bC:=3) rfl rfl rfl c d (by omega) (by omega) (by omega) (by omega))
theorem Nx{c d:List Pt}(h1:Sz c)(h2:Sz d)(fr:Fr):eE (run prog w (n+5)) 10 [.inr (aC c),.inr (aC d)] fr=.ok (.bl (fK c d)) fr:=by
 have a1:=h1.tt;have a2:=h1.ln;have a3:=h2.tt;have a4:=h2.ln;exact call2 (fr:=fr) (zw (F:=prog) (w:=w) (n:=n) (i:=10) (aU:=0) (bP:=1) (iK:=7) (cQ:=13) (cU:=4) (jr:=5) (fk:=14) (fy:=12) rfl rfl rfl rfl rfl rfl rfl rfl rfl c d (by omega) (by omega) (by omega) (by omega))
theorem RC{c d:List Pt}(h1:Sz c)(h2:Sz d):∃v,(∀fr,eE (run prog w (n+5)) 9 [.inr (aC c),.inr (aC d)] fr=.ok v fr)/\PR c d v:=by
 have a1:=h1.tt;have a2:=h1.ln;have a3:=h2.tt;have a4:=h2.ln;obtain⟨v,r,p⟩:=vV (F:=prog) (w:=w) (n:=n) (i:=9) (aU:=0) (bP:=1) (iK:=7) (cQ:=13) (cU:=4) (jr:=5) (fk:=14) (fy:=12) rfl rfl rfl rfl rfl rfl rfl rfl rfl c d (by omega) (by omega) (by omega) (by omega);exact⟨v,λfr=>call2 r,p⟩
theorem Ny{c d:List Pt}(h1:Sz c)(h2:Sz d)(fr:Fr):eE (run prog w (n+5)) 21 [.inr (ez c),.inr (ez d)] fr=.ok (.bl (fK c d)) fr:=
 call2 (fr:=fr) (Iw (w:=w) (n:=n+4) c d (by have:=h1.tt;omega) (by have:=h2.tt;omega))
theorem FF{c:List Pt}(h:Sz c)(x:List Nat)(hx:x.length<=900)(fr:Fr):eE (run prog w (n+5)) 20 [.inr (aC c),.inr (.str x)] fr=.ok (oV (ou c x)) fr:=
 call2 (fr:=fr) (ve (w:=w) (n:=n+4) c x (by have:=h.tt;omega) hx)
theorem B3{c d:List Pt}{v:V}(h:PR c d v):Pv.cop .jA v .aH=some (decide (aP c=aP d)):=by
 cases h with
 |no e=>rw[decide_eq_true e];rfl
 |yes e _ _=>rw[decide_eq_false e];rfl
theorem nB{a b:Bool}(h:a=b):Pv.cop .ne (.bl a) (.bl b)=some false:=by subst h;rw[iB,Hx];simp
theorem parts{c d:List Pt}{v:V}(h1:Sz c)(h2:Sz d)(h:PR c d v){fr:Fr}{i j k:Nat}(gi:gH false fr i=some (aC c))(gj:gH false fr j=some (aC d))(gk:gH false fr k=some v)(VZ:gH true fr k=some v)(ii:jB fr (.v i)=none)(ij:jB fr (.v j)=none)(ik:jB fr (.v k)=none)
  (RD:gH (kf (.v k) (bG (.c .aH))) fr k=some v) :
  aK (run prog w (n+5)) (.an (.cmp .jR (.v k) (.c .aH)) (.cmp .eq (.cl 20 (.cons (.v i) (.cons (.v k) .nil))) (.cl 20 (.cons (.v j) (.cons (.v k) .nil))))) fr=.ok false fr:=by
 have a1:=h1.tt;have a3:=h2.tt;cases h with
 |no e=>exact j5 (aB rfl (aS (aq RD) (aF rfl) rfl) rfl)
 |@yes x e1 e2 lx=>
  refine iD (aB rfl (aS (aq RD) (aF rfl) rfl) rfl) (aB rfl (aS (bB (aI ii (aq gi) (aI ik (aq gk) aO)) (FF h1 x (by omega) _)) (bB (aI ij (aq gj) (aI ik (aq gk) aO)) (FF h2 x (by omega) _)) (zu _ _)) (decide_eq_false e2))
noncomputable def ps:List (List Pt):=[[.keep 1],[.keep 2],[.drop [97]],[.drop [98]],[.keep 1,.put [97]],[.put [97],.keep 1],[.drop [97],.put [97]],[.drop [98],.put [98]],[.put [98],.keep 1],[.drop [122],.put [97]]]
theorem FG:∀c∈ps,aP c=c/\Sz c:=by
 intro c hc;simp only[ps,List.mem_cons,List.mem_nil_iff,or_false]at hc;rcases hc with rfl|rfl|rfl|rfl|rfl|rfl|rfl|rfl|rfl|rfl<;>exact⟨rfl,by decide,by decide⟩
theorem zA:run prog w (n+6) 23 []=some (.bl true,[]):=by
 have ad:∀a b:List (List Pt),a.length+b.length<=100->Pv.bL .add (.lst (a.map aC)) (.lst (b.map aC))=some (.lst ((a++b).map aC)):=λa b h=>by rw[gM (by simp;omega),List.map_append]
 refine bX (fn:=BV) rfl rfl ?_;refine ai (iE (l:=(ps.take 5).map aC) (fQ (aj (bN (aj (bN (aj (aF rfl) (aj (aF rfl) az)) b8) az) kh) (aj (bN (aj (bN (aj (aF rfl) (aj (aF rfl) az)) b8) az) kh) (aj (bN (aj (bN (aj (aF rfl) (aj (aF rfl) az)) b8) az) kh) (aj (bN (aj (bN (aj (aF rfl) (aj (aF rfl) az)) b8) az) kh) (aj (bN (aj (bN (aj (aF rfl) (aj (aF rfl) az)) b8) (aj (bN (aj (aF rfl) (aj (aF rfl) az)) b8) az)) b8) az))))) (cj (by decide))) rfl rfl ?_);refine ai (aW (v:=.lst ((ps.take 8).map aC)) (bf (aq rfl) (fQ (aj (bN (aj (bN (aj (aF rfl) (aj (aF rfl) az)) b8) (aj (bN (aj (aF rfl) (aj (aF rfl) az)) b8) az)) b8) (aj (bN (aj (bN (aj (aF rfl) (aj (aF rfl) az)) b8) (aj (bN (aj (aF rfl) (aj (aF rfl) az)) b8) az)) b8) (aj (bN (aj (bN (aj (aF rfl) (aj (aF rfl) az)) b8) (aj (bN (aj (aF rfl) (aj (aF rfl) az)) b8) az)) b8) az))) (cj (by decide))) (ad (ps.take 5) ((ps.drop 5).take 3) (by decide))) rfl rfl ?_);refine ai (aW (v:=.lst (ps.map aC)) (bf (aq rfl) (fQ (aj (bN (aj (bN (aj (aF rfl) (aj (aF rfl) az)) b8) (aj (bN (aj (aF rfl) (aj (aF rfl) az)) b8) az)) b8) (aj (bN (aj (bN (aj (aF rfl) (aj (aF rfl) az)) b8) (aj (bN (aj (aF rfl) (aj (aF rfl) az)) b8) az)) b8) az)) (cj (by decide))) (ad (ps.take 8) (ps.drop 8) (by decide))) rfl rfl ?_);refine ai (gn (vs:=ps.map aC) (af:=[some (.val (.lst (ps.map aC))),none,none,none]) (cy (bV rfl) rfl) ?_);refine dj (e:=aC) (λp l fr=>p++l=ps/\∃(a1 a2 a3:Option Sl),vo a1/\vo a2/\vo a3/\fr=[some (.val (.lst (ps.map aC))),a1,a2,a3]) (λp c l fr ⟨hp,a1,a2,a3,v1,v2,v3,hfr⟩=>?_) (λp fr ⟨hp,a1,a2,a3,v1,v2,v3,hfr⟩=>?_) _ [] _ ⟨rfl,none,none,none,.none,.none,.none,rfl⟩
 .subst hfr;obtain⟨fc,hc⟩:=FG c (by rw[<-hp];simp);refine b5 (bind1 rfl v1) ?_;refine ai (gn (vs:=ps.map aC) (af:=[some (.val (.lst (ps.map aC))),some (.val (aC c)),a2,a3]) (cy (bV rfl) rfl) ?_);refine dj (e:=aC) (λq m fr=>q++m=ps/\∃(a2 a3:Option Sl),vo a2/\vo a3/\fr=[some (.val (.lst (ps.map aC))),some (.val (aC c)),a2,a3]) (λq d m fr ⟨hq,a2,a3,v2,v3,hfr⟩=>?_) (λq fr ⟨hq,a2,a3,v2,v3,hfr⟩=>?_) _ [] _ ⟨rfl,a2,a3,v2,v3,rfl⟩
  .subst hfr;obtain⟨fd,hd⟩:=FG d (by rw[<-hq];simp);obtain⟨v,rv,pr⟩:=RC (w:=w) (n:=n) hc hd;have n1:=B3 pr;have eq:Pv.cop .eq (aC c) (aC d)=some (decide (aP c=aP d)):=by show cC deep _ _=_;rw[Ba,fc,fd]
   have W:=λfr=>Nx (w:=w) (n:=n) hc hd fr;have I:=λfr=>Ny (w:=w) (n:=n) hc hd fr;have S1:=λfr=>se (w:=w) (n:=n) hc fr;have S2:=λfr=>se (w:=w) (n:=n) hd fr;have A:=λfr=>RB (w:=w) (n:=n) hc hd fr;refine b5 (bind1 rfl v2) ?_;refine ai (aW (bB (aI rfl (aq rfl) (aI rfl (aq rfl) aO)) (rv _)) rfl (gE rfl v3) ?_);refine ai (aL (b:=false) (aB rfl (aS (bB (aI rfl (aq rfl) (aI rfl (aq rfl) aO)) (W _)) (bB (aI rfl (bB (aI rfl (aq rfl) aO) (S1 _)) (aI rfl (bB (aI rfl (aq rfl) aO) (S2 _)) aO)) (I _)) (nB rfl)) rfl) (λh=>absurd h (by decide)) λ_=>ay ?_);refine ai (aL (b:=false) (qa (aB rfl (aS (aS (aq rfl) (aF rfl) n1) (aS (aq rfl) (aq rfl) eq) (nB rfl)) rfl) (aB rfl (aS (bB (aI rfl (aq rfl) (aI rfl (aq rfl) aO)) (A _)) (aS (aq rfl) (aq rfl) eq) (nB rfl)) rfl)) (λh=>absurd h (by decide)) λ_=>ay ?_);refine ai (aL (b:=false) (parts hc hd pr rfl rfl rfl rfl rfl rfl rfl rfl) (λh=>absurd h (by decide)) λ_=>ay (ay ?_));rw[cH];exact⟨by rw[<-hq,List.append_assoc];rfl,_,_,.val,.val,rfl⟩
  .subst hfr;refine ay ?_;rw[cH];exact⟨by rw[<-hp,List.append_assoc];rfl,_,_,_,.val,v2,v3,rfl⟩
 .subst hfr;exact ai (bS (aF rfl) ⟨rfl,rfl⟩)
theorem mk3{a b c:V}:dS [a,b,c]=some (.lst [a,b,c]):=cj (bO (show 3<=100000 by decide))
noncomputable def lF(ns:List Int)(t:List Nat)(c:List Pt)(l:List (Option Sl)):Fr:=some (.val (j4 ns)) :: some (.val (.str t)) :: some (.val (aC c)) :: l
noncomputable def ow(a:Option Sl):Prop:=a=none\/∃l,a=some (.own l)
theorem Nz{fr:Fr}{i:Nat}{s:Sl}{o:Option Sl}(e:fr[i]?=some o)(h:ow o):put fr i s=some (fr.set i (some s)):=by
 unfold put;rw[e];rcases h with rfl|⟨l,rfl⟩<;>rfl
theorem vv{c:List Pt}(h:Sz c):(∃t,aG c t=true)/\tot c<=900/\c.length<=900:=⟨⟨_,dB 97 c⟩,by have:=h.tt;omega,by have:=h.ln;omega⟩
theorem turn{t:List Nat}{c d:List Pt}(h1:Sz c)(h2:Sz d){a3 a4 a5 a7 a8 a9 nN mP mQ:Option Sl}(v7:vo a7)(v8:vo a8)(v9:ow a9)(v10:vo nN)(v11:vo mP)(FH:vo mQ) :
  Wp (turnF (run prog w (n+5)) w (.one 7) zy (aC d) (lF ns t c [a3,a4,a5,some (.val (ez c)),a7,a8,a9,nN,mP,mQ,none,none,none,none])) λg fr=>g=.nx/\∃a7 a8 a9 nN mP mQ,vo a7/\vo a8/\ow a9/\vo nN/\vo mP/\vo mQ/\fr=lF ns t c [a3,a4,a5,some (.val (ez c)),a7,a8,a9,nN,mP,mQ,none,none,none,none]:=by
 have a1:=h1.tt;have V0:=h2.tt;have S:=λfr=>se (w:=w) (n:=n) h2 fr;have A:=λfr=>RB (w:=w) (n:=n) h1 h2 fr;have W1:=λfr=>Nx (w:=w) (n:=n) h1 h2 fr;have W2:=λfr=>Nx (w:=w) (n:=n) h2 h1 fr;have I1:=λfr=>Ny (w:=w) (n:=n) h1 h2 fr;have I2:=λfr=>Ny (w:=w) (n:=n) h2 h1 fr;have es:Pv.cop .eq (ez c) (ez d)=some (decide (aP c=aP d)):=by
  show cC deep _ _=_;rw[Ib]
  congr 1
  rw[Bool.eq_iff_iff,decide_eq_true_iff,decide_eq_true_iff,lX]
 have ne:Pv.cop .ne (.lst [.bl (decide (aP c=aP d)),.bl (fK c d),.bl (fK d c)]) (.lst [.bl (decide (aP c=aP d)),.bl (fK c d),.bl (fK d c)])=some false:=by
  rw[iB,qT];have e:=jI (f:=cC (18+1)) (g:=V.bl) (λa b=>A2) [decide (aP c=aP d),fK c d,fK d c] [decide (aP c=aP d),fK c d,fK d c];rw[decide_eq_true rfl]at e;exact congrArg (Option.map _) e
 obtain⟨v,rv,pr⟩:=RC (w:=w) (n:=n) h1 h2;have n1:=B3 pr;obtain⟨o,ro,no,fo⟩:=vX (F:=prog) (w:=w) (n:=n+2) (i:=11) (aU:=0) (bP:=1) (iK:=7) (cQ:=13) (cU:=4) rfl rfl rfl rfl rfl rfl c [d,c] (λe he=>by
  simp only[List.mem_cons,List.mem_nil_iff,or_false]at he;rcases he with rfl|rfl|rfl
  .exact vv h1
  .exact vv h2
  .exact vv h1) (by simp) .val
 have ro:=λfr=>eF (fr:=fr) ro;obtain⟨u,ru,nu⟩:=IA (w:=w) (n:=n+4) c d (by omega) (by omega);have ru:=λfr=>eF (fr:=fr) ru;have nn:iL [c,d,c]=iL [c,d]:=Mq λt=>by simp;intro h _;exact h
 rw[nn]at no;refine b5 (bind1 rfl v7) ?_;refine ai (aW (bB (aI rfl (aq rfl) aO) (S _)) rfl (gE rfl v8) ?_);refine ai (iE (l:=[.bl (decide (aP c=aP d)),.bl (fK c d),.bl (fK d c)]) (fQ (aj (bB (aI rfl (aq rfl) (aI rfl (aq rfl) aO)) (A _)) (aj (bB (aI rfl (aq rfl) (aI rfl (aq rfl) aO)) (W1 _)) (aj (bB (aI rfl (aq rfl) (aI rfl (aq rfl) aO)) (W2 _)) az))) mk3) rfl (Nz rfl v9) ?_);refine ai (aL (b:=false) (aB rfl (aS (aq rfl) (fQ (aj (aS (aq rfl) (aq rfl) es) (aj (bB (aI rfl (aq rfl) (aI rfl (aq rfl) aO)) (I1 _)) (aj (bB (aI rfl (aq rfl) (aI rfl (aq rfl) aO)) (I2 _)) az))) mk3) ne) rfl) (λh=>absurd h (by decide)) λ_=>ay ?_);refine ai (aW (bB (aI rfl (aq rfl) (aI rfl (aq rfl) aO)) (rv _)) rfl (gE rfl v10) ?_);refine ai (aL (b:=false) (aB rfl (aS (aS (aq rfl) (aF rfl) n1) (aS (aq rfl) (aq rfl) es) (nB rfl)) rfl) (λh=>absurd h (by decide)) λ_=>ay ?_);refine ai (aL (b:=false) (af:=lF ns t c [a3,a4,a5,some (.val (ez c)),some (.val (aC d)),some (.val (ez d)),some (.own [.bl (decide (aP c=aP d)),.bl (fK c d),.bl (fK d c)]),some (.val v),mP,mQ,none,none,none,none]) ?_ (λh=>absurd h (by decide)) λ_=>ay ?_)
 .cases pr with
  |no e=>exact j5 (aB rfl (aS (aq rfl) (aF rfl) rfl) rfl)
  |yes e1 e2 lx=>exact iD (aB rfl (aS (aq rfl) (aF rfl) rfl) rfl) (tw (b:=true) (aB rfl (sZ (aq rfl) rfl) rfl))
 refine ai (aL (b:=false) (parts h1 h2 pr rfl rfl rfl rfl rfl rfl rfl rfl) (λh=>absurd h (by decide)) λ_=>ay ?_);refine ai (aW (bB (aI rfl (fQ (aj (aq rfl) (aj (aq rfl) (aj (aq rfl) az))) mk3) aO) (ro _)) rfl (gE rfl v11) ?_);refine ai (aW (bB (aI rfl (fQ (aj (cX (aq rfl) (aF rfl) rfl) (aj (cX (aq rfl) (aF rfl) rfl) az)) sW) aO) (ru _)) rfl (gE rfl FH) ?_);refine ai (aL (b:=false) (aB rfl (aS (aS (aq rfl) (aF rfl) (vq o)) (aS (aq rfl) (aF rfl) nu) (nB no)) rfl) (λh=>absurd h (by decide)) λ_=>ay ?_);refine ai (aL (b:=false) (af:=lF ns t c [a3,a4,a5,some (.val (ez c)),some (.val (aC d)),some (.val (ez d)),some (.own [.bl (decide (aP c=aP d)),.bl (fK c d),.bl (fK d c)]),some (.val v),some (.val (oV o)),some (.val u),none,none,none,none]) ?_ (λh=>absurd h (by decide)) λ_=>ay (ay ?_))
 .cases o with
  |none=>exact j5 (aB rfl (aS (aq rfl) (aF rfl) (xX none)) rfl)
  |some x=>
   obtain⟨lx,fx⟩:=fo x rfl;have bx:aJ c<=tot c:=Mh c;have o1:=vp (fx c (.head _));have o2:=vp (fx d (.tail _ (.head _)));have M1:=λfr=>FF (w:=w) (n:=n) h1 x (by omega) fr;have M2:=λfr=>FF (w:=w) (n:=n) h2 x (by omega) fr;rw[o1]at M1;rw[o2]at M2;exact iD (aB rfl (aS (aq rfl) (aF rfl) (xX (some x))) rfl) (qa (aB rfl (aS (bB (aI rfl (aq rfl) (aI rfl (aq rfl) aO)) (M1 _)) (aF rfl) (vq (some _))) rfl) (aB rfl (aS (bB (aI rfl (aq rfl) (aI rfl (aq rfl) aO)) (M2 _)) (aF rfl) (vq (some _))) rfl))
 exact⟨rfl,_,_,_,_,_,_,.val,.val,.inr ⟨_,rfl⟩,.val,.val,.val,rfl⟩
noncomputable def kd:Pt->Pt
 |.drop _=>.keep 1
 |p=>p
theorem NB(l:List Pt):tot (l.map kd)<=tot l+l.length:=by
 induction l with
 |nil=>exact Nat.le_refl _
 |cons p l ih=>
  rw[List.map_cons,bH,bH,List.length_cons];cases p<;>simp only[kd,Pt.n]<;>omega
theorem NC(ns:List Int)(k:Int)(x:List Nat)(h:x.length<=5):Sz (chg ns k x):=by
 have:=FD ns k x 5 h;exact⟨by omega,by omega⟩
variable(hn:ns.length<=63)
include hn
theorem ND:run prog w (n+7) 24 [.val (j4 ns)]=some (.bl true,[]):=by
 have ht:(txt ns 0 4).length<=4:=xJ ns 0 (most:=4) (by decide);have VS:(txt ns 41 4).length<=4:=xJ ns 41 (most:=4) (by decide);have c1:=λfr=>fH (fr:=fr) (uU (F:=prog) (c:=15) (dr:=16) (t:=17) (w:=w) (n:=n+3) rfl rfl hn rfl 0 4 (by decide) (by decide));have c2:=λfr=>fH (fr:=fr) (uU (F:=prog) (c:=15) (dr:=16) (t:=17) (w:=w) (n:=n+3) rfl rfl hn rfl 41 4 (by decide) (by decide));generalize txt ns 0 4=t at ht c1
 generalize txt ns 41 4=t2 at VS c2
 have cc:=λ(k:Int) (x:List Nat) (h:x.length<=5) fr=>fH (fr:=fr) (zd (F:=prog) (c:=15) (dr:=16) (t:=18) (w:=w) (n:=n+3) rfl rfl hn rfl k x (by omega));have c3:=cc 10 t (by omega);have bb:=FD ns 10 t 4 ht;generalize chg ns 10 t=c at c3 bb
 have hc:Sz c:=⟨by omega,by omega⟩
 have d1:=λfr=>fH (fr:=fr) (fX (F:=prog) (c:=15) (dr:=16) (w:=w) (n:=n+4) rfl rfl hn 40 (many:=(t.length:Int)+1) (by omega));have e1:=j0 ns 40 (many:=(t.length:Int)+1) (by omega);have e2:=j3 ns 40 (many:=(t.length:Int)+1) (by omega);generalize cY ns 40 ((t.length:Int)+1)=e at d1 e1 e2
 obtain⟨p,rfl⟩:∃p:Nat,e=p:=⟨e.toNat,by omega⟩
 have l2:cS .len [.str t]=some (.int (t.length:Nat)):=len_str (by omega);have s1:gy (.str t) none (some (p:Int))=some (.str (t.take p)):=by rw[gW,OS]
 have s2:gy (.str t) (some ((p:Int)+1)) none=some (.str (t.drop (p+1))):=by
  rw[gW];have:((p:Int)+1)=((p+1:Nat):Int):=by omega
  rw[this,OT]
 have a1:Pv.bL .add (.str (t.take p)) (.str [98])=some (.str (t.take p++[98])):=fG (by simp;omega);have a2:Pv.bL .add (.str (t.take p++[98])) (.str (t.drop (p+1)))=some (.str (t.take p++[98]++t.drop (p+1))):=fG (by simp;omega);have a3:Pv.bL .add (.str t) (.str [99])=some (.str (t++[99])):=fG (by simp;omega);have l3:(t.take p++[98]++t.drop (p+1)).length<=5:=by simp;omega
 generalize t.take p++[98]++t.drop (p+1)=t3 at a2 l3
 let xs:List (List Nat):=[t,t,t3,t++[99],t2]
 have hx:∀x∈xs,x.length<=5:=λx h=>by
  simp only[xs,List.mem_cons,List.mem_nil_iff,or_false]at h;rcases h with rfl|rfl|rfl|rfl|rfl
  .omega
  .omega
  .exact l3
  .simp;omega
  .omega
 have en:cG 0 (xs.map V.str)=(List.range 5).map λj=>.tup [.int ((j:Nat):Int),.str (xs.getD j [])]:=by
  have:=om V.str xs 0;simp only[Nat.zero_add]at this;exact this
 have gx:∀j<5,(xs.getD j []).length<=5:=λj hj=>hx _ (by
  have e:j<xs.length:=hj;simp only[List.getD,List.getElem?_eq_getElem e,Option.getD_some];exact List.getElem_mem e)
 let E:List (List Pt):=(List.range 5).map λj=>chg ns (50+30*(j:Nat)) (xs.getD j [])
 have hE:∀d∈E,Sz d:=λd h=>by
  obtain⟨j,hj,rfl⟩:=List.mem_map.mp h;exact NC ns _ _ (gx j (List.mem_range.mp hj))
 have mE:dS (E.map aC)=some (.lst (E.map aC)):=cj (bO (by simp[E]));have u1:=λfr=>eF (fr:=fr) (qj (F:=prog) (bC:=3) (cE:=2) (i:=6) (w:=w) (n:=n+3) rfl rfl rfl c (by omega) (by omega));have tu:tot (j6 c)=tot c:=by simp only[j6];rw[uY,By]
 have lu:(j6 c).length<=tot (j6 c):=by simp only[j6];exact rj (xS (u7 _))
 have u2:=λfr=>eF (fr:=fr) (qj (F:=prog) (bC:=3) (cE:=2) (i:=6) (w:=w) (n:=n+3) rfl rfl rfl (j6 c) (by omega) (by omega));have tf:tot (aP c)=tot c:=uY c;have lf:(aP c).length<=tot (aP c):=rj (xS (u7 _));rw[Bv]at u2;have lk:(c.filter λp=>!iF p).length<=c.length:=List.length_filter_le _ _;have tk:tot (c.filter λp=>!iF p)<=tot c:=zo _ _;have hk:((c.filter λp=>!iF p).map Pt.v).length<=big:=bO (by rw[List.length_map];omega);have kk:=NB c;have hkd:((c.map λq=>(kd q).v)).length<=big:=bO (by rw[List.length_map];omega);have ap:Pv.bL .add (aC c) (.tup [.tup [.str [112,117,116],.str [97]]])=some (aC (c++[.put [97]])):=by
  show Pv.bL .add (.tup _) _=_;rw[uQ (by simp;omega)];show some (V.tup (c.map Pt.v++_))=some (V.tup ((c++[Pt.put [97]]).map Pt.v));rw[List.map_append];rfl
 let O:List (List Pt):=[aP c,c.filter λp=>!iF p,c++[.put [97]]]
 have ad:∀a b:List (List Pt),a.length+b.length<=100->Pv.bL .add (.lst (a.map aC)) (.lst (b.map aC))=some (.lst ((a++b).map aC)):=λa b h=>by rw[gM (by simp;omega),List.map_append]
 have hO:∀d∈E++O++[c.map kd],Sz d:=λd h=>by
  simp only[List.mem_append,O,List.mem_cons,List.mem_nil_iff,or_false]at h;rcases h with (h|rfl|rfl|rfl)|rfl
  .exact hE d h
  .exact⟨by omega,by omega⟩
  .exact⟨by omega,by omega⟩
  .exact⟨by rw[iR];simp[tot,Pt.n];simp only[tot]at bb;omega,by simp;omega⟩
  .exact⟨by omega,by simp;omega⟩
 have sc:=λfr=>se (w:=w) (n:=n+1) hc fr;have rp:=zA (w:=w) (n:=n);refine bX (fn:=BW) rfl rfl ?_;refine ai (aW (bB (aI rfl (aq rfl) (aI rfl (aF rfl) (aI rfl (aF rfl) aO))) (c1 _)) rfl rfl ?_);refine ai (aW (bB (aI rfl (aq rfl) (aI rfl (aF rfl) (aI rfl (aq rfl) aO))) (c3 _)) rfl rfl ?_);refine ai (aW (bB (aI rfl (aq rfl) (aI rfl (aF rfl) (aI rfl (bf (dh (aj (aq rfl) az) l2) (aF rfl) cJ) aO))) (d1 _)) rfl rfl ?_);refine ai (iE (l:=xs.map V.str) (fQ (aj (aq rfl) (aj (aq rfl) (aj (bf (bf (qW (aq rfl) zb (iC (aq rfl)) s1) (aF rfl) a1) (qW (aq rfl) (iC (bf (aq rfl) (aF rfl) cJ)) zb s2) a2) (aj (bf (aq rfl) (aF rfl) a3) (aj (bB (aI rfl (aq rfl) (aI rfl (aF rfl) (aI rfl (aF rfl) aO))) (c2 _)) az))))) (cj (bO (show 5<=100000 by decide)))) rfl rfl ?_);refine ai (aW (v:=.lst (E.map aC)) (eV (l:=E.map aC) (qX (bV rfl) rfl) rfl (by
  rw[en];refine(dR (λ(j:Nat)=>V.tup [.int ((j:Nat):Int),.str (xs.getD j [])]) (λj=>aC (chg ns (50+30*(j:Nat)) (xs.getD j []))) (List.range 5) λj hj=>eG rfl (bB (aI rfl (aq rfl) (aI rfl (bf (aF rfl) (bf (aF rfl) (aq rfl) (lN (by simp[Ev.cA]))) cJ) (aI rfl (aq rfl) aO))) (cc _ _ (gx j (List.mem_range.mp hj)) _))).trans ?_;simp only[E,List.map_map];rfl) mE) rfl rfl ?_)
 refine ai (aW (v:=.lst ((E++O).map aC)) (bf (aq rfl) (fQ (aj (bB (aI rfl (bB (aI rfl (aq rfl) aO) (u1 _)) aO) (u2 _)) (aj (pZ (eV (cy (bV rfl) rfl) rfl (jZ Pt.v (λp=>!iF p) Pt.v c λq _=>by
  cases q<;>exact qY rfl (aB rfl (aS (cX (aq rfl) (aF rfl) rfl) (aF rfl) iZ) rfl) λ_=>aq rfl) (cj hk)) (jj hk)) (aj (bf (aq rfl) (bN (aj (bN (aj (aF rfl) (aj (aF rfl) az)) b8) az) kh) ap) az))) mk3) (ad E O (by simp[E,O]))) rfl rfl ?_)
 refine ai (aW (v:=.lst ((E++O++[c.map kd]).map aC)) (bf (aq rfl) (fQ (aj (v:=aC (c.map kd)) (pZ (eV (cy (bV rfl) rfl) rfl (dR Pt.v (λq=>(kd q).v) c λq _=>by
  cases q with
  |drop s=>exact eG rfl (gm (b:=true) (aB rfl (aS (cX (aq rfl) (aF rfl) rfl) (aF rfl) iQ) rfl) (λ_=>bN (aj (aF rfl) (aj (aF rfl) az)) b8) λh=>absurd h (by decide))
  |put s=>exact eG rfl (gm (b:=false) (aB rfl (aS (cX (aq rfl) (aF rfl) rfl) (aF rfl) iQ) rfl) (λh=>absurd h (by decide)) λ_=>aq rfl)
  |keep m=>exact eG rfl (gm (b:=false) (aB rfl (aS (cX (aq rfl) (aF rfl) rfl) (aF rfl) iQ) rfl) (λh=>absurd h (by decide)) λ_=>aq rfl)) (cj hkd)) ((jj hkd).trans (by simp only[aC,List.map_map];rfl))) az) yS) (ad (E++O) [c.map kd] (by simp[E,O]))) rfl rfl ?_)
 refine ai (aL (b:=false) (tw (b:=true) (aB rfl (bB aO (ki (vs:=[]) rp)) rfl)) (λh=>absurd h (by decide)) λ_=>ay ?_);refine ai (aW (bB (aI rfl (aq rfl) aO) (sc _)) rfl rfl ?_);generalize E++O++[c.map kd]=others at hO
 generalize V1:some (Sl.own (xs.map V.str))=x4
 refine ai (gn (vs:=others.map aC) (af:=lF ns t c [some (.val (.int (p:Nat))),x4,some (.val (.lst (others.map aC))),some (.val (ez c)),none,none,none,none,none,none,none,none,none,none]) (cy (bV rfl) rfl) ?_);refine dj (e:=aC) (λq l fr=>q++l=others/\∃a7 a8 a9 nN mP mQ,vo a7/\vo a8/\ow a9/\vo nN/\vo mP/\vo mQ/\fr=lF ns t c [some (.val (.int (p:Nat))),x4,some (.val (.lst (others.map aC))),some (.val (ez c)),a7,a8,a9,nN,mP,mQ,none,none,none,none]) (λq d l fr ⟨hq,a7,a8,a9,nN,mP,mQ,v7,v8,v9,v10,v11,FH,hfr⟩=>?_) (λq fr ⟨hq,a7,a8,a9,nN,mP,mQ,v7,v8,v9,v10,v11,FH,hfr⟩=>?_) _ [] _ ⟨rfl,none,none,none,none,none,none,.none,.none,.inl rfl,.none,.none,.none,rfl⟩
 .subst hfr;refine(turn (w:=w) (n:=n+1) (ns:=ns) hc (hO d (by rw[<-hq];simp)) v7 v8 v9 v10 v11 FH).mono λg fr ⟨hg,e⟩=>?_;subst hg;exact⟨by rw[<-hq,List.append_assoc];rfl,e⟩
 .subst hfr;exact ai (bS (aF rfl) ⟨rfl,rfl⟩)
end
theorem good:∀ns:List Int,ns.length<=63->∃h',Ev.run prog 100000 60 24 [.ref 0] [.bD (ns.map Ev.D.int)]=.ok (.bl true) h':=λns h=>Hv (ND (w:=100000) (n:=53) h)
end Lg
theorem Lw.good:∀ns:List Int,ns.length<=63->∃h',Ev.run Lw.prog 100000 60 24 [.ref 0] [.bD (ns.map Ev.D.int)]=.ok (.bl true) h':=Lg.good
namespace PySem.W.Fast
theorem tw3148124492834202557:True:=⟨⟩
theorem tw2670327724566738453:True:=⟨⟩
theorem tw16335438561165662505:True:=⟨⟩
theorem tw5504907216997619770:True:=⟨⟩
theorem tw9320844367364703990:True:=⟨⟩
theorem tw7332843640484339540:True:=⟨⟩
theorem tw15689875826788162230:True:=⟨⟩
theorem tw216201902712472115:True:=⟨⟩
theorem tw15235106595628108720:True:=⟨⟩
theorem tw11956197229808795219:True:=⟨⟩
theorem tw87930906094182747:True:=⟨⟩
theorem tw3486858042483700909:True:=⟨⟩
theorem tw6960116720027981353:True:=⟨⟩
theorem tw6593756257533536559:True:=⟨⟩
theorem tw13290880956318266882:True:=⟨⟩
theorem tw13267152665944973094:True:=⟨⟩
theorem tw17630979803223138592:True:=⟨⟩
theorem tw8042707498688203698:True:=⟨⟩
theorem tw14948736015277054412:True:=⟨⟩
theorem tw17866880341394793037:True:=⟨⟩
theorem tw3934668954263384746:True:=⟨⟩
theorem tw4178558950963645148:True:=⟨⟩
theorem tw10671119769694502738:True:=⟨⟩
theorem tw5682980416201998553:True:=⟨⟩
theorem tw16580783892811041114:True:=⟨⟩
theorem tw8294505449695842764:True:=⟨⟩
theorem tw6062799074469435859:True:=⟨⟩
theorem tw4819321207324087559:True:=⟨⟩
theorem tw2121306029185379126:True:=⟨⟩
theorem tw10931237979262593553:True:=⟨⟩
theorem tw12795461918678315920:True:=⟨⟩
theorem tw3106696562750267317:True:=⟨⟩
theorem tw7144632170852635234:True:=⟨⟩
theorem tw6318699197909029345:True:=⟨⟩
theorem tw5067894346817031199:True:=⟨⟩
theorem tw2809960782020093294:True:=⟨⟩
theorem tw13856487863619765248:True:=⟨⟩
theorem tw12304110488960302268:True:=⟨⟩
theorem tw8965520801801827119:True:=⟨⟩
theorem tw4829812590517127291:True:=⟨⟩
theorem tw15037910648110056752:True:=⟨⟩
theorem tw14756652974776345613:True:=⟨⟩
theorem tw1458709144099285047:True:=⟨⟩
theorem tw2596861365079108439:True:=⟨⟩
theorem tw5504636510782069705:True:=⟨⟩
theorem tw8266149290277826529:True:=⟨⟩
theorem tw9000385319521256122:True:=⟨⟩
theorem tw7916044980312025843:True:=⟨⟩
theorem tw7356571224914578781:True:=⟨⟩
theorem tw15865797605617396520:True:=⟨⟩
theorem tw15929691728229434864:True:=⟨⟩
theorem tw730887150320705849:True:=⟨⟩
theorem tw16118345493971189497:True:=⟨⟩
theorem tw17018451584606890094:True:=⟨⟩
theorem tw4564075475972257292:True:=⟨⟩
theorem tw6025785374286453645:True:=⟨⟩
theorem tw5510123863769441538:True:=⟨⟩
theorem tw1450222943736400379:True:=⟨⟩
theorem tw17619060914939372622:True:=⟨⟩
theorem tw5633265597173498888:True:=⟨⟩
theorem tw9862433018210083426:True:=⟨⟩
theorem tw9767902247465820614:True:=⟨⟩
theorem tw8006593163851417052:True:=⟨⟩
theorem tw2000432927735542833:True:=⟨⟩
theorem tw11134439768881642355:True:=⟨⟩
theorem tw16385397619464276386:True:=⟨⟩
theorem tw11687767906003578442:True:=⟨⟩
theorem tw10159893649117778140:True:=⟨⟩
theorem tw4389507358583825143:True:=⟨⟩
theorem tw15733820134802039901:True:=⟨⟩
theorem tw1118721289954464252:True:=⟨⟩
theorem tw7753357096281718134:True:=⟨⟩
theorem tw981171537172514438:True:=⟨⟩
theorem tw4013089559307189473:True:=⟨⟩
theorem tw10477341879370575285:True:=⟨⟩
theorem tw16415637187122454229:True:=⟨⟩
theorem tw7090385843223982117:True:=⟨⟩
theorem tw12383155183191373390:True:=⟨⟩
theorem tw2783966616455074431:True:=⟨⟩
theorem tw4072884316951460720:True:=⟨⟩
theorem tw8836733092245320103:True:=⟨⟩
theorem tw491210577469191448:True:=⟨⟩
theorem tw10158371451569911674:True:=⟨⟩
theorem tw16679721173189317080:True:=⟨⟩
theorem tw6861954102111237541:True:=⟨⟩
theorem tw10532885344248618890:True:=⟨⟩
theorem tw16182747374337641258:True:=⟨⟩
theorem tw6836131266641995811:True:=⟨⟩
theorem tw12525740470827391721:True:=⟨⟩
theorem tw11904655252436823514:True:=⟨⟩
theorem tw6212019057114211026:True:=⟨⟩
theorem tw1392440898465104832:True:=⟨⟩
theorem tw7930376698614975519:True:=⟨⟩
theorem tw12504021055812555354:True:=⟨⟩
theorem tw8111487957154796248:True:=⟨⟩
theorem tw17225844239826053640:True:=⟨⟩
theorem tw15392123848867050045:True:=⟨⟩
theorem tw4227075378799515206:True:=⟨⟩
theorem tw4543107238266013754:True:=⟨⟩
theorem tw3468352915642353659:True:=⟨⟩
theorem tw2734610279124189564:True:=⟨⟩
theorem tw15605114151469332018:True:=⟨⟩
theorem tw15744707502275561570:True:=⟨⟩
theorem tw7615459534555983753:True:=⟨⟩
theorem tw15094181334576645361:True:=⟨⟩
theorem tw14408417411674812008:True:=⟨⟩
theorem tw645299281965677772:True:=⟨⟩
theorem tw1200536802599819544:True:=⟨⟩
theorem tw13743103945959842605:True:=⟨⟩
theorem tw13094960959037458507:True:=⟨⟩
theorem tw9632050494040759136:True:=⟨⟩
theorem tw8631624751156115253:True:=⟨⟩
theorem tw13709665570855628260:True:=⟨⟩
theorem tw384697691456922562:True:=⟨⟩
theorem tw3198178435331109587:True:=⟨⟩
theorem tw5257825105750100883:True:=⟨⟩
theorem tw10742598336413905197:True:=⟨⟩
theorem tw17890955282790020441:True:=⟨⟩
theorem tw15001527667670968299:True:=⟨⟩
theorem tw12217148903576863184:True:=⟨⟩
theorem tw14025570021295433226:True:=⟨⟩
theorem tw5674101195921610942:True:=⟨⟩
theorem tw12003880514006645000:True:=⟨⟩
theorem tw6935076242537099195:True:=⟨⟩
theorem tw10102402827303578643:True:=⟨⟩
theorem tw9923778313078456813:True:=⟨⟩
theorem tw17670242598651681269:True:=⟨⟩
theorem tw13876319233951151663:True:=⟨⟩
theorem tw11421074279986812717:True:=⟨⟩
theorem tw16186606855764523034:True:=⟨⟩
theorem tw4107383067872398362:True:=⟨⟩
theorem tw13393264702399508687:True:=⟨⟩
theorem tw5113394933913726449:True:=⟨⟩
theorem tw4623328314799041253:True:=⟨⟩
theorem tw7603388897604269640:True:=⟨⟩
theorem tw2842281249855574134:True:=⟨⟩
theorem tw4084496165404152555:True:=⟨⟩
theorem tw16894541128462308190:True:=⟨⟩
theorem tw10537091500466218990:True:=⟨⟩
theorem tw1736557497366065494:True:=⟨⟩
theorem tw8515709354728628975:True:=⟨⟩
theorem tw2844481714558046650:True:=⟨⟩
theorem tw9982859328834960950:True:=⟨⟩
theorem tw15252578731829733787:True:=⟨⟩
theorem tw16012878477469773008:True:=⟨⟩
theorem tw4566282545364759788:True:=⟨⟩
theorem tw17607705030847318795:True:=⟨⟩
theorem tw11759930351327114107:True:=⟨⟩
theorem tw4171163479668731913:True:=⟨⟩
theorem tw14304600499228717071:True:=⟨⟩
theorem tw13322969998720461141:True:=⟨⟩
theorem tw10624953273197642560:True:=⟨⟩
theorem tw8967989302257474673:True:=⟨⟩
theorem tw3081073165375210238:True:=⟨⟩
theorem tw6185967653128187325:True:=⟨⟩
theorem tw14931081651481122980:True:=⟨⟩
theorem tw7516879139032326383:True:=⟨⟩
theorem tw13223457318287215590:True:=⟨⟩
theorem tw15581814514189731840:True:=⟨⟩
theorem tw17964236195326492148:True:=⟨⟩
theorem tw16328910146980277077:True:=⟨⟩
theorem tw17195104597172644537:True:=⟨⟩
theorem tw17744797073943073495:True:=⟨⟩
theorem tw11345156401999211770:True:=⟨⟩
theorem tw10930852032484782884:True:=⟨⟩
theorem tw9493373341879585083:True:=⟨⟩
theorem tw3402970049807382397:True:=⟨⟩
theorem tw974814318204982646:True:=⟨⟩
theorem tw1869169137048138498:True:=⟨⟩
theorem tw3593145227469505111:True:=⟨⟩
theorem tw7757715092119291089:True:=⟨⟩
theorem tw7216576713943707284:True:=⟨⟩
theorem tw17356953154230561900:True:=⟨⟩
theorem tw10322384235187371135:True:=⟨⟩
theorem tw17952512450613493053:True:=⟨⟩
theorem tw7538598194357695047:True:=⟨⟩
theorem tw7063093322742028768:True:=⟨⟩
theorem tw3279685540699141929:True:=⟨⟩
theorem tw9107330189375311224:True:=⟨⟩
theorem tw15351806723470793361:True:=⟨⟩
theorem tw4309159299830799493:True:=⟨⟩
theorem tw16666995799019243232:True:=⟨⟩
theorem tw4771921872568692038:True:=⟨⟩
theorem tw2490648057110926193:True:=⟨⟩
theorem tw12989438114892563760:True:=⟨⟩
end PySem.W.Fast
open PySem PySem.W PyProof.Rows
set_option maxRecDepth 100000 in
set_option maxHeartbeats 0 in
theorem PySem.Challenge.cw_pastways_k60_alike_holds : PySem.Challenge.rw_pastways_k60_alike.Holds := by
 w_on;o_law;k_head;(case hw=>w_witness2)
 k_fill
 refine Sm.G7 (F:=Lw.prog) (wh:=100000) (n:=60) (f:=24) (x:="_law_script") (l:=PySem.Challenge.rw_pastways_k60_alike) rfl rfl ⟨rfl,by decide,by decide⟩ (λw h Y=>PySem.W.kIn_of Y) Lw.good ?F
 case F=>
  intro w mg fa h KX G hmg
  refine' Lw.all_mk KX G hmg ⟨?a0,L2.b9 ?l0 ?c0 ?k0⟩ ⟨?a1,L2.b9 ?l1 ?c1 ?k1⟩ ⟨?a2,L2.b9 ?l2 ?c2 ?k2⟩ ⟨?a3,L2.b9 ?l3 ?c3 ?k3⟩ ⟨?a4,L2.b9 ?l4 ?c4 ?k4⟩ ⟨?a5,L2.b9 ?l5 ?c5 ?k5⟩ ⟨?a6,L2.b9 ?l6 ?c6 ?k6⟩ ⟨?a7,L2.b9 ?l7 ?c7 ?k7⟩ ⟨?a8,L2.b9 ?l8 ?c8 ?k8⟩ ⟨?a9,L2.b9 ?l9 ?c9 ?k9⟩ ⟨?nN,L2.b9 ?V2 ?V3 ?V4⟩ ⟨?mP,L2.b9 ?V5 ?V6 ?V7⟩ ⟨?mQ,L2.b9 ?V8 ?c12 ?V9⟩ ⟨?Wa,L2.b9 ?Wb ?Wc ?Wd⟩ ⟨?We,L2.b9 ?Wf ?Wg ?Wh⟩ ⟨?Wj,L2.b9 ?Wk ?Wl ?Wm⟩ ⟨?Wn,L2.b9 ?Wo ?Wq ?Wr⟩ ⟨?Ws,L2.b9 ?Wt ?Wu ?Wv⟩ ⟨?Wx,L2.b9 ?Wy ?Wz ?WA⟩ ⟨?WB,L2.b9 ?WC ?WD ?WE⟩ ⟨?WG,L2.b9 ?WH ?WI ?WJ⟩ ⟨?WK,L2.b9 ?WL ?WM ?WN⟩ ⟨?WO,L2.b9 ?WQ ?WR ?WS⟩ ⟨?WT,L2.b9 ?WU ?WV ?WW⟩ ⟨?WX,L2.b9 ?WY ?WZ ?W0⟩ ?z0 ?z1 ?z2 ?z3 ?z4 ?z5 ?z6 ?z7 ?z8 ?z9 ?q0 ?q1 ?Rx ?Ry ?Rz ?RA;all_goals try first|k_is|rfl|decide +kernel | (with_unfolding_all rfl)

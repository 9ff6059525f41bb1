import PyProof.Rows.All
import Wide.All
import OpenK.AllK
import Wide.FinOn
import Lean
import PyProof.EqAt
import PyProof.EqKinds
import PyProof.TupleCall
import PyProof.NeKinds
import PyProof.StrLawsIn
import KE.KRevSl
import PyProof.ZipIter
import PyProof.ListRange
import PyProof.Rows.SortStr
import KE.KRevIter
import PyProof.EnumMake
import PyProof.EnumFor
import PySem.Challenge.RW_pastways_k42_whole_stretches
set_option Elab.async false
set_option linter.all false
set_option maxRecDepth 100000
namespace L2
open PySem PySem.Spec PyProof.Rows
abbrev Key:=Sum Int Str
noncomputable def Ej:Key→Value→Bool
 | .inl k,v=>Value.isInt k v
 | .inr x,v=>Value.isStrOf x v
noncomputable def Uh (w:World):Key→Int
 | .inl k=>hashInt k
 | .inr x=>hashStr w x
theorem dD:∀ {k:Key}{v:Value},Ej k v=true→(∃ i t,k=Sum.inl i∧v=Value.int i t)∨(∃ x t,k=Sum.inr x∧v=Value.str x t)
 | .inl i,v,h=>by
  obtain ⟨t,e⟩:=Value.isInt_shape (k:=i) (v:=v) h
  exact .inl ⟨i,t,rfl,e⟩
 | .inr x,v,h=>by
  obtain ⟨t,e⟩:=Value.isStrOf_shape (x:=x) (v:=v) h
  exact .inr ⟨x,t,rfl,e⟩
theorem Jc (a b:Int):decide ((Sum.inl a:Key)=Sum.inl b)=(a==b):=by
 by_cases e:a=b
 ·subst e;simp
 ·have h:¬ (Sum.inl a:Key)=Sum.inl b:=fun q=>e (Sum.inl.inj q)
  rw [decide_eq_false h]
  exact (beq_eq_false_iff_ne.mpr e).symm
theorem Jd (a b:Str):decide ((Sum.inr a:Key)=Sum.inr b)=decide (a=b):=by
 by_cases e:a=b
 ·subst e;simp
 ·have h:¬ (Sum.inr a:Key)=Sum.inr b:=fun q=>e (Sum.inr.inj q)
  rw [decide_eq_false h,decide_eq_false e]
theorem Je (a:Int) (b:Str):decide ((Sum.inl a:Key)=Sum.inr b)=false:=decide_eq_false (fun q=>nomatch q)
theorem Jf (a:Str) (b:Int):decide ((Sum.inr a:Key)=Sum.inl b)=false:=decide_eq_false (fun q=>nomatch q)
noncomputable def qc (prog:Program) (w:World):PySem.KeyKind prog w Key where
 is:=Ej
 hash:=Uh w
 inj:=fun v a b ha hb=>by
  rcases dD ha with ⟨i,t,rfl,rfl⟩ | ⟨x,t,rfl,rfl⟩
  ·rcases dD hb with ⟨j,u,rfl,e⟩ | ⟨y,u,rfl,e⟩
   ·injection e with e1 _;rw [e1]
   ·exact nomatch e
  ·rcases dD hb with ⟨j,u,rfl,e⟩ | ⟨y,u,rfl,e⟩
   ·exact nomatch e
   ·injection e with e1 _;rw [e1]
 byValue:=fun k v h=>by
  rcases dD h with ⟨i,t,rfl,rfl⟩ | ⟨x,t,rfl,rfl⟩ <;> rfl
 pyHash:=fun hv h=>by
  rcases dD hv with ⟨i,t,rfl,rfl⟩ | ⟨x,t,rfl,rfl⟩
  ·exact wpAny_pyHash_int h
  ·exact wpAny_pyHash_str h
 eqBool:=fun hu hv h=>by
  rcases dD hu with ⟨i,t,rfl,rfl⟩ | ⟨x,t,rfl,rfl⟩
  ·rcases dD hv with ⟨j,u,rfl,rfl⟩ | ⟨y,u,rfl,rfl⟩
   ·rw [Jc] at h;exact wpAny_eqBool_int h
   ·rw [Je] at h;exact SeqAt.EqAt.int_str i t y u _ _ _ _ h
  ·rcases dD hv with ⟨j,u,rfl,rfl⟩ | ⟨y,u,rfl,rfl⟩
   ·rw [Jf] at h;exact SeqAt.EqAt.str_int x t j u _ _ _ _ h
   ·rw [Jd] at h;exact wpAny_eqBool_str h
 «strs»:=fun k x t v h=>by
  rcases dD h with ⟨i,u,rfl,e⟩ | ⟨y,u,rfl,e⟩
  ·exact nomatch e
  ·injection e with e1 _
   subst e1
   cases v <;> rfl
end L2
namespace L2
open PySem PySem.Spec PyProof.Rows
inductive V where
 | bH | bl (b:Bool) | int (i:Int) | str (x:Str) | yR (b:Array UInt8) | yS (b:UInt64) | ref (a:Addr) | ty (n:String)
 deriving DecidableEq
noncomputable def RelV:V→Value→Prop
 | .bH,u=>u=Value.none
 | .bl b,u=>u=Value.bool b
 | .int i,u=>∃ t,u=Value.int i t
 | .str x,u=>∃ t,u=Value.str x t
 | .yR b,u=>∃ t,u=Value.bytes b t
 | .yS b,u=>∃ t,u=Value.float b t
 | .ref a,u=>u=Value.ref a
 | .ty n,u=>u=Value.type n
abbrev Vals:List V→List Value→Prop:=Paired RelV
theorem Vals.length {xs:List V}{us:List Value}(r:Vals xs us):xs.length=us.length:=Paired.length r
theorem Vals.get:∀ {xs:List V}{us:List Value}{i:Nat}{x:V},Vals xs us→xs[i]?=some x→∃ u,us[i]?=some u∧RelV x u
 | _,_,_,_,.nil,e=>by simp at e
 | _,_,0,_,.cons r _,e=>by simp at e;subst e;exact ⟨_,rfl,r⟩
 | _,_,i+1,x,.cons _ t,e=>by
  obtain ⟨u,h1,h2⟩:=Vals.get (i:=i) (x:=x) t (by simpa using e)
  exact ⟨u,by simpa using h1,h2⟩
theorem Vals.append:∀ {xs ys:List V}{us ws:List Value},Vals xs us→Vals ys ws→Vals (xs++ys) (us++ws)
 | _,_,_,_,.nil,s=>s
 | _,_,_,_,.cons r t,s=>.cons r (Vals.append t s)
theorem Vals.take:∀ {xs:List V}{us:List Value}(n:Nat),Vals xs us→Vals (xs.take n) (us.take n)
 | _,_,0,_=>.nil
 | _,_,_+1,.nil=>.nil
 | _,_,n+1,.cons r t=>.cons r (Vals.take n t)
theorem Vals.drop:∀ {xs:List V}{us:List Value}(n:Nat),Vals xs us→Vals (xs.drop n) (us.drop n)
 | _,_,0,r=>r
 | _,_,_+1,.nil=>.nil
 | _,_,n+1,.cons _ t=>Vals.drop n t
noncomputable def Jg:Option V→Option Value→Prop
 | some v,some u=>RelV v u
 | none,none=>True
 | _,_=>False
noncomputable def KV {κ:Type}:List (κ×V)→List (κ×Value)→Prop:=Paired fun (p:κ×V) (q:κ×Value)=>p.1=q.1∧RelV p.2 q.2
noncomputable def kV:Key→V
 | .inl i=>.int i
 | .inr x=>.str x
inductive HO where
 | lst (xs:List V)
 | tup (xs:List V)
 | dK (kvs:List (Key×V)) | dT (kvs:List (List Key×V))
 | set (S:Int→Bool) (n:Nat)
 | ins (C dx:Addr) (fs:List (Str×V))
 | own (x:Addr)
 | xd (fs:List (Str×V))
 | met (f x:Addr)
 | gm (lo hi:Int)
 | bS (o:Obj) (u:HO)
 | sP (ps:Array Value)
 | ext (φ:Heap→Prop)
abbrev Hp:=Addr→Option HO
noncomputable def upd (H:Hp) (a:Addr) (o:HO):Hp:=fun b=>if b=a then some o else H b
theorem gz {H:Hp}{a:Addr}{o:HO}:upd H a o a=some o:=by unfold upd;rw [if_pos rfl]
theorem bE {H:Hp}{a b:Addr}{o:HO}(h:b≠a):upd H a o b=H b:=by unfold upd;rw [if_neg h]
theorem oE {H:Hp}{a b:Addr}{o u:HO}(h:H a=some o) (h':H b=some u) (d:o≠u):a≠b:=by
 intro e;subst e;rw [h] at h';exact d (Option.some.inj h')
theorem b5 {H:Hp}{a b:Addr}{o:HO}(h:H a=some o) (h':H b=none):a≠b:=by
 intro e;subst e;rw [h] at h';cases h'
section
variable (P:Program)(w:World)
noncomputable def fH (H:Hp) (h:Heap) (a:Addr):HO→Prop
 | .lst xs=>xs.length≤sizeLine∧∃ (its:List Value) (n:Nat),Vals xs its∧h.get? a=some { cls:=.type "list",data:=.seq its.toArray n }
 | .tup xs=>xs.length≤sizeLine∧∃ its:List Value,Vals xs its∧IsTup h a its.toArray
 | .dK kvs=>kvs.length≤sizeLine∧(a==sysModules)=false∧∃ vs,KV kvs vs∧h.DictOf (qc P w) a vs
 | .dT kvs=>kvs.length≤sizeLine∧(a==sysModules)=false∧∃ xs:List (List Key×Addr×Value),
   Paired (fun (p:List Key×V) (q:List Key×Addr×Value)=>p.1=q.1∧H q.2.1=some (.tup (p.1.map kV))∧RelV p.2 q.2.2) kvs xs∧
   ∃ o es ep,h.get? a=some o∧o.ExactDict∧o.data=.dict es ep∧es.toList=xs.map (entryOfKey (tupleKind (qc P w)))∧(xs.map (·.1)).Nodup
 | .set S n=>h.SetOf (intKind P w) a S n
 | .ins C dx fs=>H dx=some (.own a)∧fs.length≤1000∧dx≠a∧h.get? a=some (PySem.W.instObj C dx)∧
   ∃ mA,h.Ns1 dx mA∧(∀ f,Jg (fs.lookup f) (mA f))∧PySem.Within mA (fs.map (·.1))
 | .own _=>∃ o,h.get? a=some o
 | .xd fs=>∃ mA,h.Ns1 a mA∧∀ f,Jg (fs.lookup f) (mA f)
 | .gm lo hi=>∃ t u v,h.get? a=some { cls:=.type "range",data:=.fields #[.int lo t,.int hi u,.int 1 v]}
 | .bS o u=>h.get? a=some o∧fH H h a u
 | .sP ps=>h.get? a=some { cls:=.none,data:=.fields ps }
 | .met f x=>h.get? a=some (PySem.W.methodObj (.ref f) (.ref x))
 | .ext φ=>φ h∧(∃ o,h.get? a=some o)∧∀ h1 h2:Heap,φ h1→(∀ o,h1.get? a=some o→h2.get? a=some o)→φ h2
noncomputable def fQ (H:Hp) (h:Heap):Prop:=∀ a o,H a=some o→fH P w H h a o
end
section
variable {P:Program}{w:World}{H H':Hp}{h h':Heap}{a:Addr}{o:HO}
theorem fH.lt (x:fH P w H h a o):a<h.objs.size:=by
 cases o with
 | lst xs=>obtain ⟨_,_,_,_,e⟩:=x;exact Heap.lt_size e
 | tup xs=>obtain ⟨_,_,_,p⟩:=x;exact p.lt
 | dK kvs=>obtain ⟨_,_,_,_,o,_,_,e,_⟩:=x;exact Heap.lt_size e
 | dT kvs=>obtain ⟨_,_,_,_,o,_,_,e,_⟩:=x;exact Heap.lt_size e
 | set S n=>obtain ⟨o,_,_,_,e,_⟩:=x;exact Heap.lt_size e
 | ins C dx fs=>obtain ⟨_,_,_,e,_⟩:=x;exact Heap.lt_size e
 | own y=>obtain ⟨_,e⟩:=x;exact Heap.lt_size e
 | xd fs=>obtain ⟨_,⟨_,_,_,e,_⟩,_⟩:=x;exact Heap.lt_size e
 | gm lo hi=>obtain ⟨_,_,_,e⟩:=x;exact Heap.lt_size e
 | bS ob u=>obtain ⟨e,_⟩:=x;exact Heap.lt_size e
 | sP ps=>exact Heap.lt_size (show h.get? a=some _ from x)
 | met f y=>exact Heap.lt_size (show h.get? a=some _ from x)
 | ext φ=>obtain ⟨_,⟨_,e⟩,_⟩:=x;exact Heap.lt_size e
theorem Paired.Jh {α β:Type}{F G:α→β→Prop}:∀ {l₁:List α}{l₂:List β},Paired F l₁ l₂→(∀ a b,F a b→G a b)→Paired G l₁ l₂
 | _,_,.nil,_=>.nil
 | _,_,.cons r t,f=>.cons (f _ _ r) (Paired.Jh t f)
theorem fH.stay (x:fH P w H h a o) (k:∀ b u,(b=a∨H b=some (.own a))→h.get? b=some u→h'.get? b=some u)
  (ho:∀ b,H b=some (.own a)→H' b=some (.own a)) (ht:∀ b xs,H b=some (.tup xs)→H' b=some (.tup xs)):fH P w H' h' a o:=by
 induction o with
 | lst xs=>obtain ⟨z,its,n,r,e⟩:=x;exact ⟨z,its,n,r,k _ _ (.inl rfl) e⟩
 | tup xs=>obtain ⟨z,its,r,ob,e,c⟩:=x;exact ⟨z,its,r,ob,k _ _ (.inl rfl) e,c⟩
 | dK kvs=>obtain ⟨z,y,vs,r,ob,es,ep,e,c⟩:=x;exact ⟨z,y,vs,r,ob,es,ep,k _ _ (.inl rfl) e,c⟩
 | dT kvs=>
  obtain ⟨z,y,xs,r,ob,es,ep,e,c⟩:=x
  exact ⟨z,y,xs,Paired.Jh r fun p q z=>⟨z.1,ht _ _ z.2.1,z.2.2⟩,ob,es,ep,k _ _ (.inl rfl) e,c⟩
 | set S n=>obtain ⟨ob,es,ep,t,e,c⟩:=x;exact ⟨ob,es,ep,t,k _ _ (.inl rfl) e,c⟩
 | ins C dx fs=>
  obtain ⟨d,z,ne,e,mA,⟨od,es,ep,e2,c⟩,r⟩:=x
  exact ⟨ho _ d,z,ne,k _ _ (.inl rfl) e,mA,⟨od,es,ep,k _ _ (.inr d) e2,c⟩,r⟩
 | own y=>obtain ⟨ob,e⟩:=x;exact ⟨ob,k _ _ (.inl rfl) e⟩
 | xd fs=>obtain ⟨mA,⟨od,es,ep,e,c⟩,r⟩:=x;exact ⟨mA,⟨od,es,ep,k _ _ (.inl rfl) e,c⟩,r⟩
 | gm lo hi=>obtain ⟨t,u,v,e⟩:=x;exact ⟨t,u,v,k _ _ (.inl rfl) e⟩
 | bS ob u ih=>obtain ⟨e,q⟩:=x;exact ⟨k _ _ (.inl rfl) e,ih q⟩
 | sP ps=>
  have e:h.get? a=some { cls:=.none,data:=.fields ps }:=x
  show h'.get? a=some { cls:=.none,data:=.fields ps }
  exact k a _ (.inl rfl) e
 | met f y=>
  have e:h.get? a=some (PySem.W.methodObj (.ref f) (.ref y)):=x
  show h'.get? a=some (PySem.W.methodObj (.ref f) (.ref y))
  exact k a _ (.inl rfl) e
 | ext φ=>obtain ⟨p,⟨o,e⟩,st⟩:=x;exact ⟨st _ _ p fun o q=>k _ _ (.inl rfl) q,⟨o,k _ _ (.inl rfl) e⟩,st⟩
theorem fQ.lt (x:fQ P w H h) (e:H a=some o):a<h.objs.size:=(x a o e).lt
theorem fQ.fresh (x:fQ P w H h) (e:h.objs.size≤a):H a=none:=by
 cases q:H a with
 | none=>rfl
 | some u=>exact absurd (Nat.lt_of_lt_of_le (x.lt q) e) (Nat.lt_irrefl _)
theorem fQ.kept (x:fQ P w H h) (k:∀ b u,h.get? b=some u→h'.get? b=some u):fQ P w H h':=fun a o e=>
 (x a o e).stay (fun b u _ q=>k b u q) (fun _ q=>q) fun _ _ q=>q
theorem fQ.laid (x:fQ P w H h) (k:∀ b u,h.get? b=some u→h'.get? b=some u) (hp:h.objs.size≤a) (new:fH P w (upd H a o) h' a o):fQ P w (upd H a o) h':=fun b u e=>by
 have hn:=x.fresh hp
 by_cases hb:b=a
 ·subst hb;rw [gz] at e;cases e;exact new
 ·rw [bE hb] at e
  exact (x b u e).stay (fun c v _ q=>k c v q) (fun c q=>by rw [bE (b5 q hn)];exact q) fun c xs q=>by rw [bE (b5 q hn)];exact q
end
noncomputable def Rd (H:Hp) (a:Addr) (u:HO):Prop:=H a=some u∨∃ o,H a=some (.bS o u)
theorem Rd.ok {P:Program}{w:World}{H:Hp}{h:Heap}{a:Addr}{u:HO}(r:Rd H a u) (x:fQ P w H h):fH P w H h a u:=by
 rcases r with r | ⟨o,r⟩
 ·exact x a u r
 ·obtain ⟨_,q⟩:=x a _ r
  exact q
noncomputable def Ek:Option HO→Prop
 | some (.lst _)=>True
 | some (.dK _)=>True
 | some (.dT _)=>True
 | some (.set _ _)=>True
 | some (.ins _ _ _)=>True
 | some (.ext _)=>True
 | _=>False
section
variable {P:Program}{w:World}{H:Hp}{h h':Heap}{x e:Addr}{o':HO}
theorem fQ.write (ok:fQ P w H h) (mu:Ek (H x)) (he:e=x∨H e=some (.own x)) (k:∀ b u,b≠e→h.get? b=some u→h'.get? b=some u) (vq:∃ u,h'.get? e=some u)
  (new:fH P w (upd H x o') h' x o'):fQ P w (upd H x o') h':=fun b u q=>by
 have Ji:∀ c y,H c=some (.own y)→c≠x:=fun c y r z=>by subst z;rw [r] at mu;exact mu
 have Ui:∀ c xs,H c=some (.tup xs)→c≠x:=fun c xs r z=>by subst z;rw [r] at mu;exact mu
 by_cases hb:b=x
 ·subst hb;rw [gz] at q;cases q;exact new
 ·rw [bE hb] at q
  by_cases sQ:b=e
  ·have q':H b=some (.own x):=by
    rcases he with z | z
    ·exact absurd (sQ.trans z) hb
    ·rw [sQ];exact z
   rw [q] at q';cases q'
   obtain ⟨v,hv⟩:=vq
   exact ⟨v,by rw [sQ];exact hv⟩
  ·refine (ok b u q).stay (fun c v hc r=>k c v ?_ r) (fun c r=>by rw [bE (Ji c b r)];exact r) fun c xs r=>by rw [bE (Ui c xs r)];exact r
   rcases hc with rfl | hc
   ·exact sQ
   ·rintro rfl
    rcases he with z | z
    ·exact Ji c b hc z
    ·rw [hc] at z;cases z;exact hb rfl
end
structure Un (fs ex:List Addr) (H H':Hp) (h h':Heap):Prop where
 keep:∀ b o,h.get? b=some o→H b=none→b∉fs→b∉ex→h'.get? b=some o
 slot:∀ b o,h.get? b=some o→H b=none→b∈fs→b∉ex→∃ sl,h'.get? b=some { o with slots:=sl }
 free:∀ b o,h.get? b=some o→H b=none→b∉ex→H' b=none
 there:∀ b o,h.get? b=some o→b∉ex→∃ o',h'.get? b=some o'
 tups:∀ b xs,H b=some (.tup xs)→H' b=some (.tup xs)
 kr:∀ b o u,H b=some (.bS o u)→H' b=some (.bS o u)
 lG:∀ b ps,H b=some (.sP ps)→∃ more,H' b=some (.sP (ps++more))
section
variable {fs fs' ex ex':List Addr}{H H1 H2:Hp}{h h1 h2 h':Heap}{a x e:Addr}{o:HO}
theorem Un.any (u:Un fs ex H H1 h h1) {b:Addr}{ob:Obj}(q:h.get? b=some ob) (n:H b=none) (hx:b∉ex):∃ sl,h1.get? b=some { ob with slots:=sl }:=by
 by_cases hb:b∈fs
 ·exact u.slot b ob q n hb hx
 ·exact ⟨ob.slots,u.keep b ob q n hb hx⟩
theorem Un.kept (k:∀ b u,h.get? b=some u→h'.get? b=some u):Un fs ex H H h h':=
 ⟨fun b ob q _ _ _=>k b ob q,fun b ob q _ _ _=>⟨ob.slots,k b ob q⟩,fun _ _ _ n _=>n,fun b ob q _=>⟨ob,k b ob q⟩,fun _ _ q=>q,fun _ _ _ q=>q,fun _ ps q=>⟨#[],by rw [q];simp⟩⟩
theorem Un.refl:Un fs ex H H h h:=Un.kept fun _ _ q=>q
theorem Un.laid (k:∀ b u,h.get? b=some u→h'.get? b=some u) (hp:h.objs.size≤a) (hn:H a=none):Un fs ex H (upd H a o) h h' where
 keep:=fun b u q _ _ _=>k b u q
 slot:=fun b u q _ _ _=>⟨u.slots,k b u q⟩
 free:=fun b u q n _=>by rw [bE (Nat.ne_of_lt (Nat.lt_of_lt_of_le (Heap.lt_size q) hp))];exact n
 there:=fun b u q _=>⟨u,k b u q⟩
 tups:=fun b xs q=>by rw [bE (b5 q hn)];exact q
 kr:=fun b u xs q=>by rw [bE (b5 q hn)];exact q
 lG:=fun b ps q=>⟨#[],by rw [bE (b5 q hn),q];simp⟩
theorem Un.write (mu:Ek (H x)) (he:e=x∨H e=some (.own x)) (k:∀ b u,b≠e→h.get? b=some u→h'.get? b=some u) (vq:∃ u,h'.get? e=some u):Un fs ex H (upd H x o) h h':=by
 have hx:∀ b,H b=none→b≠x:=fun b n z=>by subst z;rw [n] at mu;exact mu
 have hb:∀ b,H b=none→b≠e:=fun b n z=>by
  subst z
  rcases he with r | r
  ·exact hx b n r
  ·rw [n] at r;cases r
 have hm:∀ b u,H b=some u→¬ Ek (some u)→b≠x:=fun b u q nm z=>by subst z;rw [q] at mu;exact nm mu
 refine ⟨fun b u q n _ _=>k b u (hb b n) q,fun b u q n _ _=>⟨u.slots,k b u (hb b n) q⟩,fun b u q n _=>by rw [bE (hx b n)];exact n,fun b u q _=>?_,
  fun b xs q=>by rw [bE (hm b _ q fun z=>z)];exact q,fun b u xs q=>by rw [bE (hm b _ q fun z=>z)];exact q,fun b ps q=>⟨#[],by rw [bE (hm b _ q fun z=>z),q];simp⟩⟩
 by_cases sQ:b=e
 ·subst sQ;exact vq
 ·exact ⟨u,k b u sQ q⟩
end
noncomputable def El (h:Heap) (H:Hp):List Addr:=(List.range h.objs.size).filter fun a=>(H a).isSome
noncomputable def ku (h:Heap) (H:Hp):Heap:=PySem.W.hideAll h (El h H)
theorem yT (h:Heap) (H:Hp):(ku h H).objs.size=h.objs.size:=PySem.W.hideAll_size _ _
theorem Bj {h:Heap}{H:Hp}{b:Addr}{o:Obj}(e:h.get? b=some o) (n:H b=none):(ku h H).get? b=some o:=
 PySem.W.hideAll_get _ e fun hm=>by
  have q:(H b).isSome=true:=(List.mem_filter.mp hm).2
  rw [n] at q;simp at q
theorem GI {h:Heap}{H:Hp}{b:Addr}{o:Obj}(e:(ku h H).get? b=some o):h.get? b=some o∧H b=none:=by
 have e':h.get? b=some o:=PySem.W.of_hideAll (El h H) e
 refine ⟨e',?_⟩
 cases q:H b with
 | none=>rfl
 | some x=>
  have hm:b∈El h H:=List.mem_filter.mpr ⟨List.mem_range.mpr (Heap.lt_size e'),by simp [q]⟩
  have z:(ku h H).get? b=none:=PySem.W.hideAll_none (El h H) hm
  rw [z] at e;cases e
noncomputable def GJ (g h:Heap) (L:Addr):List (Addr×Obj):=(List.range h.objs.size).filterMap fun a=>if a=L∨(g.get? a).isSome=true then none else (h.get? a).map fun o=>(a,o)
noncomputable def rest (g h:Heap) (L d:Addr):List (Addr×Obj):=(GJ g h L).filter fun p=>decide (p.1≠d)
end L2
namespace L2
open PySem PySem.Spec PyProof.Rows
structure Mod (K:PySem.W.Frag) (mg:Str→Option Value) (base:Heap):Prop where
 Em:K.In base
 glob:base.Ns mainGlobals mg
 blt:∃ mb,base.Ns builtinsNs mb∧∀ x:Str,x≠"__name__" →mb x=bootBuiltins x
 nolimit:base.NoLimit
structure Cx where
 prog:Program
 w:World
 K:PySem.W.Frag
 mg:Str→Option Value
 base:Heap
 A:Around
 N:List Str
 s₀:Shared
 H₀:Hp
 env:Env
 outer:List Env
 stack:List Env
 ex:List Addr
 fn:Str→Bool
 calm:Bool
 pn:List (Addr×Obj)
 xe:Value→Shared→Prop
noncomputable def frs (l:List Env):List Addr:=l.filterMap (·.frame)
noncomputable abbrev Cx.fs (X:Cx):List Addr:=frs X.outer
noncomputable def yU (sc:Scope) (x:Str):Prop:=sc.names.lookup x=some .local∨sc.names.lookup x=some .cell∨sc.names.lookup x=some .free
noncomputable def Loc (sc:Scope) (x:Str):Prop:=sc.names.lookup x=some .local∨sc.names.lookup x=some .cell
noncomputable def Look (env:Env) (h:Heap) (m:Str→Option Value) (x:Str) (u:Value):Prop:=
 (env.kindOf x=some .local∧m x=some u)∨((env.kindOf x=some .cell∨env.kindOf x=some .free)∧∃ c,env.cells.lookup x=some c∧h.IsCell c (some u))
structure Cx.Ok (X:Cx):Prop where
 mod:Mod X.K X.mg X.base
 kind:X.env.scope.kind=.function
 glob:X.env.globals=mainGlobals
 blt:X.env.builtins=builtinsNs
 above:X.s₀.heap.objs.size≤X.env.locals
 inj:∀ x y c,X.env.cells.lookup x=some c→X.env.cells.lookup y=some c→x=y
 has:∀ x,(X.env.kindOf x=some .cell∨X.env.kindOf x=some .free)→∃ c,X.env.cells.lookup x=some c
 vt:∀ x c,X.fn x=true→X.env.cells.lookup x=some c→X.s₀.heap.objs.size≤c
 hd:X.calm=true→X.A.handled=none
 frames:X.A.frames=some X.stack
 stk:X.stack=X.outer∨(X.stack=X.env :: X.outer∧X.env.frame=some X.env.locals)
 En:∀ b∈X.ex,b≠X.env.locals∧∀ x c,X.env.cells.lookup x=some c→c≠b
 bs:∀ b o,X.base.get? b=some o→X.s₀.heap.get? b=some o∧X.H₀ b=none
 qQ:X.base.objs.size≤X.s₀.heap.objs.size
 qd:∀ b o,X.base.get? b=some o→b∉X.ex
 qe:∀ b∈X.ex,b∉X.fs
 iX:X.s₀.heap.FunFrames X.base X.outer
 sR:∀ b∈X.fs,X.H₀ b=none
structure Inv (X:Cx) (pins:List (Addr×Obj)) (σ:List (Option V)) (H:Hp) (s:Shared):Prop where
 ok:X.Ok
 os:s.os=X.s₀.os
 bare:AllBare s.gens
 base:Un X.fs X.ex X.H₀ H X.s₀.heap s.heap
 loc:∃ m,s.heap.Ns X.env.locals m∧∀ (i:Nat) (x:Str) (v:V),X.N[i]?=some x→σ[i]?=some (some v)→yU X.env.scope x→∃ u,RelV v u∧Look X.env s.heap m x u
 cell:∀ x c,X.env.cells.lookup x=some c→∃ v,s.heap.IsCell c v
 free:H X.env.locals=none
 iI:∀ x c,X.env.cells.lookup x=some c→H c=none
 pin:∀ p∈X.pn++pins,s.heap.get? p.1=some p.2∧H p.1=none∧p.1≠X.env.locals∧p.1∉X.fs∧∀ v,p.2.data≠.cell v
 hok:fQ X.prog X.w H s.heap
 len:σ.length=X.N.length
section
variable {X:Cx}{pins:List (Addr×Obj)}{σ:List (Option V)}{H H':Hp}{s:Shared}{h':Heap}
theorem Cx.Ok.Uj (ok:X.Ok) {b:Addr}{o:Obj}(e:X.base.get? b=some o):b∉X.fs:=fun hb=>by
 have:=(ok.iX.mem hb).1
 rw [e] at this;cases this
theorem Inv.bs (I:Inv X pins σ H s):∀ b o,X.base.get? b=some o→s.heap.get? b=some o∧H b=none:=fun b o e=>
 ⟨I.base.keep b o (I.ok.bs b o e).1 (I.ok.bs b o e).2 (I.ok.Uj e) (I.ok.qd b o e),I.base.free b o (I.ok.bs b o e).1 (I.ok.bs b o e).2 (I.ok.qd b o e)⟩
theorem Inv.bk (I:Inv X pins σ H s):∀ b o,X.base.get? b=some o→s.heap.get? b=some o:=fun b o e=>(I.bs b o e).1
theorem Inv.mod (I:Inv X pins σ H s):Mod X.K X.mg X.base:=I.ok.mod
theorem Inv.sS (I:Inv X pins σ H s):X.K.In s.heap:=I.ok.mod.Em.keeps I.bk
theorem Inv.lt (I:Inv X pins σ H s):X.env.locals<s.heap.objs.size:=let ⟨_,hn,_⟩:=I.loc;hn.lt
theorem Inv.sz (I:Inv X pins σ H s):X.s₀.heap.objs.size≤s.heap.objs.size:=Nat.le_trans I.ok.above (Nat.le_of_lt I.lt)
theorem Inv.Uk (I:Inv X pins σ H s) {a:Addr}(h:s.heap.objs.size≤a):a∉X.fs:=fun hb=>by
 obtain ⟨_,o,ho,_⟩:=I.ok.iX.mem hb
 exact absurd (Nat.lt_of_lt_of_le (Heap.lt_size ho) (Nat.le_trans I.sz h)) (Nat.lt_irrefl _)
theorem Inv.sU (I:Inv X pins σ H s):∀ x c,X.env.cells.lookup x=some c→c≠X.env.locals:=fun x c e z=>by
 obtain ⟨v,o,ho,hd⟩:=I.cell x c e
 obtain ⟨m,⟨o',es,ep,ho',hd',_⟩,_⟩:=I.loc
 rw [z,ho'] at ho;cases ho;rw [hd'] at hd;cases hd
theorem Inv.iX (I:Inv X pins σ H s):s.heap.FunFrames X.base X.outer:=by
 have all:∀ (l:List Env),(∀ b∈frs l,b∈X.fs)→X.s₀.heap.FunFrames X.base l→s.heap.FunFrames X.base l:=by
  intro l
  induction l with
  | nil=>intro _ _;trivial
  | cons env r ih=>
   intro hs hl
   obtain ⟨hk,⟨L,o,hf,hn,ho,hd⟩,hr⟩:=hl
   have hL:L∈X.fs:=hs L (by unfold frs;rw [List.filterMap_cons,hf];exact List.mem_cons_self)
   obtain ⟨sl,e⟩:=I.base.slot L o ho (I.ok.sR L hL) hL fun z=>I.ok.qe L z hL
   exact ⟨hk,⟨L,_,hf,hn,e,hd⟩,ih (fun b hb=>hs b (by unfold frs;rw [List.filterMap_cons,hf];exact List.mem_cons_of_mem _ hb)) hr⟩
 exact all X.outer (fun _ hb=>hb) I.ok.iX
theorem Inv.stack (I:Inv X pins σ H s):s.heap.FunFrames X.base X.stack:=by
 rcases I.ok.stk with e | ⟨e,hf⟩
 ·rw [e];exact I.iX
 ·rw [e]
  obtain ⟨m,hn,_⟩:=I.loc
  refine .cons (by rw [I.ok.kind];decide) hf hn ?_ I.iX
  exact Heap.get?_none_of_le (Nat.le_trans I.ok.qQ I.ok.above)
theorem Inv.sV (I:Inv X pins σ H s):∀ b∈frs X.stack,b∈X.env.locals :: X.fs:=fun b hb=>by
 rcases I.ok.stk with e | ⟨e,hf⟩
 ·rw [e] at hb;exact List.mem_cons_of_mem _ hb
 ·rw [e] at hb
  unfold frs at hb
  rw [List.filterMap_cons,hf] at hb
  exact hb
theorem Inv.vv (I:Inv X pins σ H s):∀ b∈frs X.stack,H b=none:=fun b hb=>by
 rcases List.mem_cons.mp (I.sV b hb) with e | hb
 ·rw [e];exact I.free
 ·obtain ⟨_,o,ho,_⟩:=I.ok.iX.mem hb
  exact I.base.free b o ho (I.ok.sR b hb) fun z=>I.ok.qe b z hb
theorem Inv.step {g':Array GenState}{t':Nat}{d':Drawn}{ch:List Addr}(I:Inv X pins σ H s)
  (hch:∀ b∈ch,(b∈X.ex∨X.s₀.heap.objs.size≤b)∧b≠X.env.locals∧(∀ x c,X.env.cells.lookup x=some c→c≠b)∧∀ p∈X.pn++pins,p.1≠b)
  (keep:∀ b o,b≠X.env.locals→b∉X.fs→b∉ch→s.heap.get? b=some o→H b=none→h'.get? b=some o)
  (slot:∀ b o,b≠X.env.locals→b∈X.fs→b∉ch→s.heap.get? b=some o→H b=none→∃ sl,h'.get? b=some { o with slots:=sl }) (free:∀ b o,b∉ch→s.heap.get? b=some o→H b=none→H' b=none)
  (there:∀ b o,b∉ch→s.heap.get? b=some o→∃ o',h'.get? b=some o')
  (tups:∀ b xs,H b=some (.tup xs)→H' b=some (.tup xs)) (kr:∀ b o u,H b=some (.bS o u)→H' b=some (.bS o u)) (lG:∀ b ps,H b=some (.sP ps)→∃ more,H' b=some (.sP (ps++more)))
  (ns:∀ m,s.heap.Ns X.env.locals m→h'.Ns X.env.locals m) (hok:fQ X.prog X.w H' h') (hg:AllBare g') :
  Inv X pins σ H' { s with heap:=h',gens:=g',drawn:=d',toks:=t' }:=by
 have Ro:∀ b o,X.s₀.heap.get? b=some o→b≠X.env.locals:=fun b o e=>Nat.ne_of_lt (Nat.lt_of_lt_of_le (Heap.lt_size e) I.ok.above)
 have Ep:∀ b o,X.s₀.heap.get? b=some o→b∉X.ex→b∉ch:=fun b o e hx hb=>by
  rcases (hch b hb).1 with z | z
  ·exact hx z
  ·exact absurd (Nat.lt_of_lt_of_le (Heap.lt_size e) z) (Nat.lt_irrefl _)
 have cellK:∀ x c,X.env.cells.lookup x=some c→∀ v,s.heap.IsCell c v→h'.IsCell c v:=fun x c e v ⟨o,ho,hd⟩=>by
  have yV:c∉ch:=fun z=>(hch c z).2.2.1 x c e rfl
  by_cases hc:c∈X.fs
  ·obtain ⟨sl,q⟩:=slot c o (I.sU x c e) hc yV ho (I.iI x c e)
   exact ⟨_,q,hd⟩
  ·exact ⟨o,keep c o (I.sU x c e) hc yV ho (I.iI x c e),hd⟩
 refine ⟨I.ok,I.os,hg,⟨fun b o e n hb hx=>?_,fun b o e n hb hx=>?_,fun b o e n hx=>?_,fun b o e hx=>?_,fun b xs e=>tups b xs (I.base.tups b xs e),fun b o xs e=>kr b o xs (I.base.kr b o xs e),fun b ps e=>?_⟩,?_,fun x c e=>?_,?_,fun x c e=>?_,fun p hp=>?_,hok,I.len⟩
 ·exact keep b o (Ro b o e) hb (Ep b o e hx) (I.base.keep b o e n hb hx) (I.base.free b o e n hx)
 ·obtain ⟨sl,e1⟩:=I.base.slot b o e n hb hx
  obtain ⟨WD,e2⟩:=slot b _ (Ro b o e) hb (Ep b o e hx) e1 (I.base.free b o e n hx)
  exact ⟨WD,e2⟩
 ·obtain ⟨o',e1⟩:=I.base.there b o e hx
  exact free b o' (Ep b o e hx) e1 (I.base.free b o e n hx)
 ·obtain ⟨o',e1⟩:=I.base.there b o e hx
  exact there b o' (Ep b o e hx) e1
 ·obtain ⟨m1,e1⟩:=I.base.lG b ps e
  obtain ⟨m2,e2⟩:=lG b _ e1
  exact ⟨m1++m2,by rw [e2,Array.append_assoc]⟩
 ·obtain ⟨m,hn,hl⟩:=I.loc
  refine ⟨m,ns m hn,fun i x v e1 e2 e3=>?_⟩
  obtain ⟨u,r,l⟩:=hl i x v e1 e2 e3
  refine ⟨u,r,?_⟩
  rcases l with l | ⟨k,c,e,z⟩
  ·exact .inl l
  ·exact .inr ⟨k,c,e,cellK x c e _ z⟩
 ·obtain ⟨v,z⟩:=I.cell x c e
  exact ⟨v,cellK x c e v z⟩
 ·obtain ⟨m,⟨o,_,_,ho,_⟩,_⟩:=I.loc
  exact free _ o (fun z=>(hch _ z).2.1 rfl) ho I.free
 ·obtain ⟨v,o,ho,hd⟩:=I.cell x c e
  exact free c o (fun z=>(hch c z).2.2.1 x c e rfl) ho (I.iI x c e)
 ·obtain ⟨e,n,ne,nf,d⟩:=I.pin p hp
  have yV:p.1∉ch:=fun z=>(hch p.1 z).2.2.2 p hp rfl
  exact ⟨keep p.1 p.2 ne nf yV e n,free p.1 p.2 yV e n,ne,nf,d⟩
theorem Inv.un {t':Nat}(I:Inv X pins σ H s) (u:Un X.fs [] H H' s.heap h') (hok:fQ X.prog X.w H' h'):Inv X pins σ H' { s with heap:=h',toks:=t' }:=by
 obtain ⟨m,⟨o,es,ep,ho,r⟩,_⟩:=id I.loc
 obtain ⟨sl,hL⟩:=u.any ho I.free (by simp)
 exact I.step (g':=s.gens) (d':=s.drawn) (ch:=[]) (fun _ z=>nomatch z) (fun b o _ hb _ e n=>u.keep b o e n hb (by simp)) (fun b o _ hb _ e n=>u.slot b o e n hb (by simp)) (fun b o _ e n=>u.free b o e n (by simp)) (fun b o _ e=>u.there b o e (by simp)) u.tups u.kr u.lG (fun m' hm=>by
  obtain ⟨o',es',Jj,ho',r'⟩:=hm
  rw [ho] at ho';cases ho'
  exact ⟨_,es',Jj,hL,r'⟩) hok I.bare
theorem Inv.call {g':Array GenState}{t':Nat}{d':Drawn}{ch:List Addr}(I:Inv X pins σ H s) (u:Un (frs X.stack) ch H H' s.heap h') (hok:fQ X.prog X.w H' h') (hg:AllBare g')
  (hch:∀ b∈ch,(b∈X.ex∨X.s₀.heap.objs.size≤b)∧b≠X.env.locals∧(∀ x c,X.env.cells.lookup x=some c→c≠b)∧∀ p∈X.pn++pins,p.1≠b) :
  Inv X pins σ H' { s with heap:=h',gens:=g',drawn:=d',toks:=t' }:=by
 obtain ⟨m,⟨o,es,ep,ho,r⟩,_⟩:=id I.loc
 obtain ⟨sl,hL⟩:=u.any ho I.free fun z=>(hch _ z).2.1 rfl
 exact I.step (ch:=ch) hch (fun b o hL hb hc e n=>u.keep b o e n (fun z=>(List.mem_cons.mp (I.sV b z)).elim hL hb) hc) (fun b o _ _ hc e n=>u.any e n hc) (fun b o hc e n=>u.free b o e n hc) (fun b o hc e=>u.there b o e hc) u.tups u.kr u.lG (fun m' hm=>by
  obtain ⟨o',es',Jj,ho',r'⟩:=hm
  rw [ho] at ho';cases ho'
  exact ⟨_,es',Jj,hL,r'⟩) hok hg
theorem Inv.turned {t':Nat}{it:Addr}(I:Inv X pins σ H s)(k:∀ b o,b≠it→s.heap.get? b=some o→h'.get? b=some o)(hn:H it=none)(hL:it≠X.env.locals)
  (h1:it∈X.ex∨X.s₀.heap.objs.size≤it) (h2:∀ x c,X.env.cells.lookup x=some c→c≠it) (h3:∀ p∈X.pn++pins,p.1≠it):Inv X pins σ H { s with heap:=h',toks:=t' }:=by
 have Rp:∀ b u,H b=some u→b≠it:=fun b u e z=>by rw [z,hn] at e;cases e
 refine I.step (g':=s.gens) (d':=s.drawn) (ch:=[it]) (fun b hb=>?_) (fun b o _ _ hc e _=>k b o (fun z=>hc (by simp [z])) e) (fun b o _ _ hc e _=>⟨o.slots,k b o (fun z=>hc (by simp [z])) e⟩) (fun _ _ _ _ n=>n)
  (fun b o hc e=>⟨o,k b o (fun z=>hc (by simp [z])) e⟩) (fun _ _ e=>e) (fun _ _ _ e=>e) (fun b ps e=>⟨#[],by rw [e];simp⟩) (fun m hm=>?_) (fun b u e=>?_) I.bare
 ·have e:b=it:=by simpa using hb
  subst e
  exact ⟨h1,hL,h2,h3⟩
 ·obtain ⟨o,es,ep,ho,r⟩:=hm
  exact ⟨o,es,ep,k _ o (Ne.symm hL) ho,r⟩
 ·refine (I.hok b u e).stay (fun c v hc q=>k c v ?_ q) (fun _ q=>q) fun _ _ q=>q
  rcases hc with z | z
  ·rw [z];exact Rp b u e
  ·exact Rp c _ z
theorem Inv.tok (I:Inv X pins σ H s) (t:Nat):Inv X pins σ H { s with toks:=t }:=I.un (h':=s.heap) (t':=t) Un.refl I.hok
theorem Inv.kept {t':Nat}(I:Inv X pins σ H s) (k:∀ b u,s.heap.get? b=some u→h'.get? b=some u):Inv X pins σ H { s with heap:=h',toks:=t' }:=I.un (Un.kept k) (I.hok.kept k)
theorem Inv.laid {a:Addr}{o:HO}{t':Nat}(I:Inv X pins σ H s) (k:∀ b u,s.heap.get? b=some u→h'.get? b=some u) (hp:s.heap.objs.size≤a) (new:fH X.prog X.w (upd H a o) h' a o) :
  Inv X pins σ (upd H a o) { s with heap:=h',toks:=t' }:=I.un (Un.laid k hp (I.hok.fresh hp)) (I.hok.laid k hp new)
theorem Inv.write {x e:Addr}{o:HO}{t':Nat}(I:Inv X pins σ H s) (mu:Ek (H x)) (he:e=x∨H e=some (.own x)) (k:∀ b u,b≠e→s.heap.get? b=some u→h'.get? b=some u) (vq:∃ u,h'.get? e=some u)
  (new:fH X.prog X.w (upd H x o) h' x o):Inv X pins σ (upd H x o) { s with heap:=h',toks:=t' }:=I.un (Un.write mu he k vq) (I.hok.write mu he k vq new)
theorem Inv.vz {Er:List (Addr×Obj)}(I:Inv X pins σ H s) (h:∀ p∈Er,s.heap.get? p.1=some p.2∧H p.1=none∧p.1≠X.env.locals∧p.1∉X.fs∧∀ v,p.2.data≠.cell v):Inv X Er σ H s:=
 ⟨I.ok,I.os,I.bare,I.base,I.loc,I.cell,I.free,I.iI,fun p hp=>(List.mem_append.mp hp).elim (fun z=>I.pin p (List.mem_append_left _ z)) (h p),I.hok,I.len⟩
theorem sW {N:List Str}(hN:N.Nodup) {i j:Nat}{x:Str}(a:N[i]?=some x) (b:N[j]?=some x):i=j:=by
 obtain ⟨h1,e1⟩:=List.getElem?_eq_some_iff.mp a
 obtain ⟨h2,e2⟩:=List.getElem?_eq_some_iff.mp b
 exact (List.getElem_inj hN).mp (e1.trans e2.symm)
theorem qR {M:Model}{A:Around}{E:Value→Shared→Prop}{i:Nat}{x:Str}{v:V}{u:Value}{Q:Unit→Shared→Prop}(I:Inv X pins σ H s) (hN:X.N.Nodup) (hi:X.N[i]?=some x) (hx:Loc X.env.scope x) (r:RelV v u)
  (h:∀ s',Inv X pins (σ.set i (some v)) H s'→(∃ a,Heap.SameBut a s.heap s'.heap∧(a=X.env.locals∨X.env.cells.lookup x=some a))→Q () s') (hf:X.fn x=true∨X.env.scope.names.lookup x=some .local:=by first | exact .inl rfl | exact .inr rfl | assumption):wpAny M A (storeName X.env x u) Q E s:=by
 obtain ⟨m,hn,hl⟩:=id I.loc
 have hcls:(X.env.scope.kind==.class || (X.env.scope.kind==.module&&X.env.locals != X.env.globals))=false:=by rw [I.ok.kind];rfl
 have Jk:i<σ.length:=by rw [I.len];exact (List.getElem?_eq_some_iff.mp hi).1
 have sU:=I.sU
 have tracked:∀ {a:Addr} {h':Heap},(∃ o,s.heap.get? a=some o∧H a=none)→Heap.SameBut a s.heap h'→fQ X.prog X.w H h':=fun {a h'} ha hs b ob e=>by
  obtain ⟨_,_,hfree⟩:=ha
  refine (I.hok b ob e).stay (fun c w' hc q=>(hs.2 c ?_).trans q) (fun _ q=>q) fun _ _ q=>q
  rintro rfl
  rcases hc with rfl | hc
  ·rw [hfree] at e;cases e
  ·rw [hfree] at hc;cases hc
 rcases hx with hk | hk
 ·refine wpAny_storeName_local hk hn (fun h' hn' hs=>?_) hcls
  obtain ⟨oL,_,_,WE,_⟩:=id hn
  refine h _ ⟨I.ok,I.os,I.bare,⟨fun b o e n hb hx=>?_,fun b o e n hb hx=>?_,I.base.free,fun b o e hx=>?_,I.base.tups,I.base.kr,I.base.lG⟩,⟨_,hn',fun j y v' e1 e2 e3=>?_⟩,fun y c e=>?_,I.free,I.iI,fun p hp=>?_,tracked ⟨oL,WE,I.free⟩ hs,by simpa using I.len⟩ ⟨_,hs,.inl rfl⟩
  ·exact (hs.2 b (Nat.ne_of_lt (Nat.lt_of_lt_of_le (Heap.lt_size e) I.ok.above))).trans (I.base.keep b o e n hb hx)
  ·obtain ⟨sl,e1⟩:=I.base.slot b o e n hb hx
   exact ⟨sl,(hs.2 b (Nat.ne_of_lt (Nat.lt_of_lt_of_le (Heap.lt_size e) I.ok.above))).trans e1⟩
  ·obtain ⟨o',e1⟩:=I.base.there b o e hx
   exact ⟨o',(hs.2 b (Nat.ne_of_lt (Nat.lt_of_lt_of_le (Heap.lt_size e) I.ok.above))).trans e1⟩
  ·by_cases hj:j=i
   ·subst hj
    rw [hi] at e1;cases e1
    rw [List.getElem?_set_self Jk] at e2
    cases e2
    exact ⟨u,r,.inl ⟨hk,by simp⟩⟩
   ·rw [List.getElem?_set_ne (Ne.symm hj)] at e2
    obtain ⟨u',r',q⟩:=hl j y v' e1 e2 e3
    refine ⟨u',r',?_⟩
    rcases q with ⟨k,e⟩ | ⟨k,c,e,z⟩
    ·refine .inl ⟨k,?_⟩
     have:y≠x:=fun e=>hj (sW hN e1 (e▸hi))
     simp [this,e]
    ·exact .inr ⟨k,c,e,z.sameBut hs (sU y c e)⟩
  ·obtain ⟨w',z⟩:=I.cell y c e
   exact ⟨w',z.sameBut hs (sU y c e)⟩
  ·obtain ⟨e,n,ne,nf,d⟩:=I.pin p hp
   exact ⟨(hs.2 p.1 ne).trans e,n,ne,nf,d⟩
 ·have hfn:X.fn x=true:=by
   rcases hf with z | z
   ·exact z
   ·rw [z] at hk;cases hk
  obtain ⟨c,hc⟩:=I.ok.has x (.inl hk)
  obtain ⟨w',z⟩:=I.cell x c hc
  refine wpAny_storeName_cell I.ok.kind hk hc z (fun h' hc' hs=>?_)
  obtain ⟨oc,hoc,Ul⟩:=id z
  refine h { s with heap:=h' } ⟨I.ok,I.os,I.bare,⟨fun b o e n hb hx=>?_,fun b o e n hb hx=>?_,I.base.free,fun b o e hx=>?_,I.base.tups,I.base.kr,I.base.lG⟩,⟨m,hn.sameBut hs (Ne.symm (sU x c hc)),fun j y v' e1 e2 e3=>?_⟩,fun y c' e=>?_,I.free,I.iI,fun p hp=>?_,tracked ⟨oc,hoc,I.iI x c hc⟩ hs,by simpa using I.len⟩ ⟨c,hs,.inr hc⟩
  ·exact (hs.2 b (Nat.ne_of_lt (Nat.lt_of_lt_of_le (Heap.lt_size e) (I.ok.vt x c hfn hc)))).trans (I.base.keep b o e n hb hx)
  ·obtain ⟨sl,e1⟩:=I.base.slot b o e n hb hx
   exact ⟨sl,(hs.2 b (Nat.ne_of_lt (Nat.lt_of_lt_of_le (Heap.lt_size e) (I.ok.vt x c hfn hc)))).trans e1⟩
  ·obtain ⟨o',e1⟩:=I.base.there b o e hx
   exact ⟨o',(hs.2 b (Nat.ne_of_lt (Nat.lt_of_lt_of_le (Heap.lt_size e) (I.ok.vt x c hfn hc)))).trans e1⟩
  ·by_cases hj:j=i
   ·subst hj
    rw [hi] at e1;cases e1
    rw [List.getElem?_set_self Jk] at e2
    cases e2
    exact ⟨u,r,.inr ⟨.inl hk,c,hc,hc'⟩⟩
   ·rw [List.getElem?_set_ne (Ne.symm hj)] at e2
    obtain ⟨u',r',q⟩:=hl j y v' e1 e2 e3
    refine ⟨u',r',?_⟩
    rcases q with q | ⟨k,c',e,z'⟩
    ·exact .inl q
    ·refine .inr ⟨k,c',e,z'.sameBut hs ?_⟩
     rintro rfl
     exact hj (sW hN e1 (I.ok.inj _ _ _ e hc▸hi))
  ·by_cases hcc:c'=c
   ·subst hcc;exact ⟨_,hc'⟩
   ·obtain ⟨w2,z2⟩:=I.cell y c' e
    exact ⟨w2,z2.sameBut hs hcc⟩
  ·obtain ⟨e,n,ne,nf,d⟩:=I.pin p hp
   refine ⟨(hs.2 p.1 ?_).trans e,n,ne,nf,d⟩
   intro q
   rw [q,hoc] at e
   have q':oc=p.2:=Option.some.inj e
   exact d w' (by rw [←q'];exact Ul)
theorem sX {M:Model}{A:Around}{E:Value→Shared→Prop}{i:Nat}{x:Str}{v:V}{u:Value}{Q:Unit→Shared→Prop}(I:Inv X pins σ H s) (hN:X.N.Nodup) (hi:X.N[i]?=some x) (hx:Loc X.env.scope x) (r:RelV v u)
  (h:∀ s',Inv X pins (σ.set i (some v)) H s'→Q () s') (hf:X.fn x=true∨X.env.scope.names.lookup x=some .local:=by first | exact .inl rfl | exact .inr rfl | assumption):wpAny M A (storeName X.env x u) Q E s:=
 qR I hN hi hx r (fun s' I' _=>h s' I') hf
theorem Inv.Pb {s':Shared}{ch:List Addr}(I:Inv X pins σ H s) (ho:s'.os=s.os) (u:Un (frs X.stack) ch H H' s.heap s'.heap) (hok:fQ X.prog X.w H' s'.heap) (hg:AllBare s'.gens)
  (hch:∀ b∈ch,(b∈X.ex∨X.s₀.heap.objs.size≤b)∧b≠X.env.locals∧(∀ x c,X.env.cells.lookup x=some c→c≠b)∧∀ p∈X.pn++pins,p.1≠b):Inv X pins σ H' s':=by
 obtain ⟨h',g',d',t',o'⟩:=s'
 have e:o'=s.os:=ho
 subst e
 exact I.call (g':=g') (t':=t') (d':=d') u hok hg hch
end
abbrev XK:=Value→Option Addr→Hp→Prop
abbrev St:=List (Option V)
abbrev VK:=V→Hp→Prop
abbrev TE:=St→Hp→VK→Prop
abbrev TT:=St→Hp→(Bool→Hp→Prop)→Prop
abbrev TA:=St→Hp→(List V→Hp→Prop)→Prop
structure Ends where
 nx:St→Hp→Prop
 rt:VK
 bk:St→Hp→Prop:=fun _ _=>False
 ct:St→Hp→Prop:=fun _ _=>False
abbrev TS:=Ends→St→Hp→Prop
noncomputable def EP (X:Cx) (pins:List (Addr×Obj)) (σ:St) (Q:VK) (u:Value) (s':Shared):Prop:=∃ v H',Inv X pins σ H' s'∧RelV v u∧Q v H'
noncomputable def TP (X:Cx) (pins:List (Addr×Obj)) (σ:St) (Q:Bool→Hp→Prop) (b:Bool) (s':Shared):Prop:=∃ H',Inv X pins σ H' s'∧Q b H'
noncomputable def AP (X:Cx) (pins:List (Addr×Obj)) (σ:St) (Q:List V→Hp→Prop) (us:List Value) (s':Shared):Prop:=∃ vs H',Inv X pins σ H' s'∧Vals vs us∧Q vs H'
noncomputable def SP (X:Cx) (pins:List (Addr×Obj)) (D:Ends) (f:Flow) (s':Shared):Prop:=
 match f with
 | .next=>∃ σ' H',Inv X pins σ' H' s'∧D.nx σ' H'
 | .brk=>∃ σ' H',Inv X pins σ' H' s'∧D.bk σ' H'
 | .cont=>∃ σ' H',Inv X pins σ' H' s'∧D.ct σ' H'
 | .ret u=>∃ v σ' H',Inv X pins σ' H' s'∧RelV v u∧D.rt v H'
noncomputable def PE (X:Cx) (e:Expr) (t:TE):Prop:=
 ∀ (pins:List (Addr×Obj)) (s:Shared) (σ:St) (H:Hp) (Q:VK),Inv X pins σ H s→t σ H Q→wpAny (model X.prog X.w) X.A (eval e X.env) (EP X pins σ Q) X.xe s
noncomputable def PT (X:Cx) (e:Expr) (t:TT):Prop:=
 ∀ (pins:List (Addr×Obj)) (s:Shared) (σ:St) (H:Hp) (Q:Bool→Hp→Prop),Inv X pins σ H s→t σ H Q→wpAny (model X.prog X.w) X.A (isTrue e X.env (eval e X.env)) (TP X pins σ Q) X.xe s
noncomputable def PW (X:Cx) (e:Expr) (t:TT):Prop:=
 ∀ (whole:Sem Value) (pins:List (Addr×Obj)) (s:Shared) (σ:St) (H:Hp) (Q:Bool→Hp→Prop),Inv X pins σ H s→t σ H Q→wpAny (model X.prog X.w) X.A (isTrue e X.env whole) (TP X pins σ Q) X.xe s
theorem PW.pt {X:Cx}{e:Expr}{t:TT}(h:PW X e t):PT X e t:=h _
noncomputable def PA (X:Cx) (es:List Expr) (t:TA):Prop:=
 ∀ (pos:Pos) (pins:List (Addr×Obj)) (s:Shared) (σ:St) (H:Hp) (Q:List V→Hp→Prop),Inv X pins σ H s→t σ H Q→wpAny (model X.prog X.w) X.A (spliced (backTo pos (starEach es X.env))) (AP X pins σ Q) X.xe s
noncomputable def PS (X:Cx) (st:Stmt) (t:TS):Prop:=
 ∀ (pins:List (Addr×Obj)) (s:Shared) (σ:St) (H:Hp) (D:Ends),Inv X pins σ H s→t D σ H→wpAny (model X.prog X.w) X.A (exec st X.env) (SP X pins D) X.xe s
noncomputable def ir (X:Cx) (st:List Stmt) (t:TS):Prop:=
 ∀ (pins:List (Addr×Obj)) (s:Shared) (σ:St) (H:Hp) (D:Ends),Inv X pins σ H s→t D σ H→wpAny (model X.prog X.w) X.A (execs st X.env) (SP X pins D) X.xe s
theorem bM {α:Type}{t:Sem α}{Q Q':α→Shared→Prop}{M:Model}{A:Around}{E:Value→Shared→Prop}{s:Shared}(h:wpAny M A t Q E s) (hQ:∀ a s,Q a s→Q' a s):wpAny M A t Q' E s:=wpAny_mono h hQ fun _ _ x=>x
end L2
namespace L2
open PySem PySem.Spec PyProof.Rows
section
variable {X:Cx}
theorem bin {a b:Expr}{ta tb:TE}(ha:PE X a ta) (hb:PE X b tb) {pins:List (Addr×Obj)}{s:Shared}{σ:St}{H:Hp}{R:V→V→Hp→Prop}(I:Inv X pins σ H s) (h:ta σ H fun x H1=>tb σ H1 fun y H2=>R x y H2)
  {α:Type} {Q:α→Shared→Prop} {f:Value→Value→Sem α}
  (hf:∀ v u s2 x y H2,Inv X pins σ H2 s2→RelV x v→RelV y u→R x y H2→wpAny (model X.prog X.w) X.A (f v u) Q X.xe s2) :
  wpAny (model X.prog X.w) X.A (eval a X.env) (fun v s₁=>wpAny (model X.prog X.w) X.A (eval b X.env) (fun u s₂=>wpAny (model X.prog X.w) X.A (f v u) Q X.xe s₂) X.xe s₁) X.xe s:=by
 refine bM (ha pins s σ H _ I h) fun v s1 ⟨x,H1,I1,r1,q1⟩=>?_
 refine bM (hb pins s1 σ H1 _ I1 q1) fun u s2 ⟨y,H2,I2,r2,q2⟩=>?_
 exact hf v u s2 x y H2 I2 r1 r2 q2
noncomputable def Jl (i:Nat):TE:=fun σ H Q=>∃ v,σ[i]?=some (some v)∧Q v H
noncomputable def tC (v:V):TE:=fun _ H Q=>Q v H
theorem yW {i:Nat}{x:Str}{pos:Pos}(hN:X.N[i]?=some x) (hv:yU X.env.scope x) (hd:(x==("__debug__" : Str))=false:=by decide) (hcd:(x==("__classdict__" : Str))=false:=by decide):PE X (.Name x pos) (Jl i):=by
 intro pins s σ H Q I h
 obtain ⟨v,e,h⟩:=h
 obtain ⟨m,hn,hl⟩:=I.loc
 obtain ⟨u,r,l⟩:=hl i x v hN e hv
 have fin:EP X pins σ Q u s:=⟨v,H,I,r,h⟩
 rcases l with ⟨hk,hm⟩ | ⟨hk,c,hc,hcell⟩
 ·exact wpAny_Name (wpAny_loadName_local I.ok.kind hk hn hm fin) hd
 ·rcases hk with hk | hk
  ·exact wpAny_Name (wpAny_loadName_cell I.ok.kind hk hc hcell fin) hd
  ·exact wpAny_Name (wpAny_loadName_free I.ok.kind hk hc hcell fin hcd) hd
theorem Jm {i j pos}:PE X (.Constant (.int i) j pos) (tC (.int i)):=fun _ _ _ H _ I h=>wpAny_Constant_int ⟨.int i,H,I.tok _,⟨_,rfl⟩,h⟩
theorem Pc {b j pos}:PE X (.Constant (.bool b) j pos) (tC (.bl b)):=fun _ _ _ H _ I h=>Constant_bool ⟨.bl b,H,I,rfl,h⟩
theorem Jo {x j pos}:PE X (.Constant (.str x) j pos) (tC (.str x)):=fun _ _ _ H _ I h=>Calls.Constant_str ⟨.str x,H,I.tok _,⟨_,rfl⟩,h⟩
noncomputable def Gl (X:Cx) (x:Str):Prop:=X.env.kindOf x=some .globalImplicit
theorem GK {E:Value→Shared→Prop}{pins:List (Addr×Obj)}{s:Shared}{σ:St}{H:Hp}{x:Str}{u:Value}{pos:Pos}{Q:Value→Shared→Prop}(I:Inv X pins σ H s) (hg:Gl X x) (hm:X.mg x=some u) (h:Q u s)
  (hd:(x==("__debug__" : Str))=false:=by decide):wpAny (model X.prog X.w) X.A (eval (.Name x pos) X.env) Q E s:=
 Calls.Name_function_global I.ok.kind hg (Calls.loadGlobal_global (by rw [I.ok.glob];exact I.mod.glob.keeps I.bk) hm h) hd
theorem gU {E:Value→Shared→Prop}{pins:List (Addr×Obj)}{s:Shared}{σ:St}{H:Hp}{x:Str}{u:Value}{pos:Pos}{Q:Value→Shared→Prop}(I:Inv X pins σ H s) (hg:Gl X x) (hm:X.mg x=none) (hv:bootBuiltins x=some u) (h:Q u s)
  (hn:x≠"__name__" :=by decide) (hd:(x==("__debug__" : Str))=false:=by decide):wpAny (model X.prog X.w) X.A (eval (.Name x pos) X.env) Q E s:=by
 obtain ⟨mb,h1,h2⟩:=I.mod.blt
 exact Calls.Name_function_global I.ok.kind hg (Calls.loadGlobal_builtin (by rw [I.ok.glob];exact I.mod.glob.keeps I.bk) hm (by rw [I.ok.blt];exact h1.keeps I.bk) ((h2 x hn).trans hv) h) hd
variable {a b:Expr}{ta tb:TE}{pos:Pos}
variable {tA Et:TT}{rest:List Expr}
noncomputable def Um (t u:TT):TT:=fun σ H Q=>t σ H fun c H1=>if c=true then u σ H1 Q else Q false H1
noncomputable def WG (t u:TT):TT:=fun σ H Q=>t σ H fun c H1=>if c=true then Q true H1 else u σ H1 Q
noncomputable def Uo (t:TT):TT:=fun σ H Q=>t σ H fun c H1=>Q (!c) H1
theorem GL (ha:PT X a tA):PW X (.BoolOp .And [a] pos) tA:=by
 intro wh pins s σ H Q I h
 refine isTrue_and (bM (ha pins s σ H Q I h) fun c s1 e=>?_)
 cases c with
 | true=>exact isTrue_and_nil e
 | false=>exact e
theorem Jp (ha:PT X a tA):PW X (.BoolOp .Or [a] pos) tA:=by
 intro wh pins s σ H Q I h
 refine isTrue_or (bM (ha pins s σ H Q I h) fun c s1 e=>?_)
 cases c with
 | false=>exact isTrue_or_nil e
 | true=>exact e
theorem Jq (ha:PT X a tA) (hb:PW X (.BoolOp .And (b :: rest) pos) Et):PW X (.BoolOp .And (a :: b :: rest) pos) (Um tA Et):=by
 intro wh pins s σ H Q I h
 refine isTrue_and (bM (ha pins s σ H _ I h) fun c s1 ⟨H1,I1,q1⟩=>?_)
 cases c with
 | true=>exact hb wh pins s1 σ H1 Q I1 q1
 | false=>exact ⟨H1,I1,q1⟩
theorem Pd (ha:PT X a tA) (hb:PW X (.BoolOp .Or (b :: rest) pos) Et):PW X (.BoolOp .Or (a :: b :: rest) pos) (WG tA Et):=by
 intro wh pins s σ H Q I h
 refine isTrue_or (bM (ha pins s σ H _ I h) fun c s1 ⟨H1,I1,q1⟩=>?_)
 cases c with
 | true=>exact ⟨H1,I1,q1⟩
 | false=>exact hb wh pins s1 σ H1 Q I1 q1
theorem Jr (ha:PT X a tA):PT X (.UnaryOp .Not a pos) (Uo tA):=by
 intro pins s σ H Q I h
 exact isTrue_not (ha pins s σ H (fun c H1=>Q (!c) H1) I h)
noncomputable def Pe (ta tb:TE):TE:=fun σ H Q=>ta σ H fun x H1=>∃ c,x=.bl c∧if c=true then tb σ H1 Q else Q (.bl false) H1
theorem Js {op}{t:TE}(h:PE X a t):PE X (.BoolOp op [a] pos) t:=fun pins s σ H Q I hw=>BoolOp_one (h pins s σ H Q I hw)
theorem Jt (ha:PE X a ta) (hb:PE X (.BoolOp .And (b :: rest) pos) tb):PE X (.BoolOp .And (a :: b :: rest) pos) (Pe ta tb):=by
 intro pins s σ H Q I h
 refine BoolOp_and (bM (ha pins s σ H _ I h) fun v s1 ⟨x,H1,I1,r1,q1⟩=>?_)
 obtain ⟨c,rfl,q1⟩:=q1
 cases r1
 refine wpAny_truthy_bool ?_
 cases c with
 | true=>exact hb pins s1 σ H1 Q I1 q1
 | false=>exact ⟨.bl false,H1,I1,rfl,q1⟩
noncomputable def WH (t:TT) (ta tb:TE):TE:=fun σ H Q=>t σ H fun c H1=>if c=true then ta σ H1 Q else tb σ H1 Q
theorem Bk {c:Expr}(hc:PT X c tA) (ha:PE X a ta) (hb:PE X b tb):PE X (.IfExp c a b pos) (WH tA ta tb):=by
 intro pins s σ H Q I h
 refine wpAny_IfExp (bM (hc pins s σ H _ I h) fun d s1 ⟨H1,I1,q1⟩=>?_)
 cases d with
 | true=>exact ha pins s1 σ H1 Q I1 q1
 | false=>exact hb pins s1 σ H1 Q I1 q1
end
end L2
namespace L2
open PySem PySem.Spec PyProof.Rows
noncomputable def fh (K:PySem.W.Frag) (H:Hp) (a:Addr) (xs:List V):Prop:=
 Rd H a (.lst xs)∨
  ∃ (o:Obj) (its:Array Value) (n:Nat),K.lookup a=some o∧o.cls=.type "list" ∧o.dict=none∧o.data=.seq its n∧its.size≤sizeLine∧Vals xs its.toList
noncomputable def dG (K:PySem.W.Frag) (H:Hp) (a:Addr) (xs:List V):Prop:=
 Rd H a (.tup xs)∨
  ∃ (o:Obj) (its:Array Value) (n:Nat),K.lookup a=some o∧o.cls=.type "tuple" ∧o.data=.seq its n∧its.size≤sizeLine∧Vals xs its.toList
noncomputable def Up:Value→Option V
 | .none=>some .bH
 | .bool b=>some (.bl b)
 | .int i _=>some (.int i)
 | .str x _=>some (.str x)
 | .bytes b _=>some (.yR b)
 | .float b _=>some (.yS b)
 | .ref a=>some (.ref a)
 | .type n=>some (.ty n)
 | _=>none
theorem RelV.abs {x:V}{u:Value}(r:RelV x u):Up u=some x:=by
 cases x with
 | bH=>cases r;rfl
 | bl _=>cases r;rfl
 | int _=>obtain ⟨t,rfl⟩:=r;rfl
 | str _=>obtain ⟨t,rfl⟩:=r;rfl
 | yR _=>obtain ⟨t,rfl⟩:=r;rfl
 | yS _=>obtain ⟨t,rfl⟩:=r;rfl
 | ref _=>cases r;rfl
 | ty _=>cases r;rfl
theorem RelV.inj {x y:V}{u:Value}(r:RelV x u) (q:RelV y u):x=y:=Option.some.inj (r.abs.symm.trans q.abs)
theorem Vals.inj:∀ {xs ys:List V}{us:List Value},Vals xs us→Vals ys us→xs=ys
 | _,_,_,.nil,.nil=>rfl
 | _,_,_,.cons r t,.cons r' t'=>by rw [r.inj r',Vals.inj t t']
section
variable {X:Cx}{pins:List (Addr×Obj)}{σ:St}{H:Hp}{s:Shared}{a:Addr}{xs ys:List V}
theorem fh.of {K:PySem.W.Frag}(h:H a=some (.lst xs)):fh K H a xs:=.inl (.inl h)
theorem dG.of {K:PySem.W.Frag}(h:H a=some (.tup xs)):dG K H a xs:=.inl (.inl h)
theorem Inv.list (I:Inv X pins σ H s) (h:fh X.K H a xs):∃ its:List Value,Vals xs its∧PlainL s.heap a its.toArray∧xs.length≤sizeLine:=by
 rcases h with h | ⟨o,its,n,hk,hc,hd,hs,hz,r⟩
 ·obtain ⟨z,its,n,r,e⟩:=h.ok I.hok
  exact ⟨its,r,⟨_,n,e,rfl,rfl,rfl⟩,z⟩
 ·refine ⟨its.toList,r,⟨o,n,I.sS a o hk,hc,hd,by simpa using hs⟩,?_⟩
  have e:=r.length
  simp only [Array.length_toList] at e
  omega
theorem Inv.tuple (I:Inv X pins σ H s) (h:dG X.K H a xs):∃ its:List Value,Vals xs its∧IsTup s.heap a its.toArray∧xs.length≤sizeLine:=by
 rcases h with h | ⟨o,its,n,hk,hc,hs,hz,r⟩
 ·obtain ⟨z,its,r,p⟩:=h.ok I.hok
  exact ⟨its,r,p,z⟩
 ·refine ⟨its.toList,r,⟨o,I.sS a o hk,hc,n,by simpa using hs⟩,?_⟩
  have e:=r.length
  simp only [Array.length_toList] at e
  omega
theorem Inv.Bo (I:Inv X pins σ H s) (h:fh X.K H a xs) (h':fh X.K H a ys):xs=ys:=by
 obtain ⟨its,r,⟨o,n,e,_,_,d⟩,_⟩:=I.list h
 obtain ⟨its',r',⟨o',n',e',_,_,d'⟩,_⟩:=I.list h'
 rw [e] at e';cases e'
 rw [d] at d'
 injection d' with d1 _
 have:its=its':=by simpa using congrArg Array.toList d1
 subst this
 exact r.inj r'
theorem Inv.lH (I:Inv X pins σ H s) (h:dG X.K H a xs) (h':dG X.K H a ys):xs=ys:=by
 obtain ⟨its,r,⟨o,e,_,n,d⟩,_⟩:=I.tuple h
 obtain ⟨its',r',⟨o',e',_,n',d'⟩,_⟩:=I.tuple h'
 rw [e] at e';cases e'
 rw [d] at d'
 injection d' with d1 _
 have:its=its':=by simpa using congrArg Array.toList d1
 subst this
 exact r.inj r'
end
abbrev Cx.jK (X:Cx) (E:Value→Shared→Prop):Cx:={ X with xe:=E }
abbrev Cx.qS (X:Cx):Cx:=X.jK fun _ _=>False
theorem Cx.Ok.jK {X:Cx}(ok:X.Ok) (E:Value→Shared→Prop):(X.jK E).Ok:=
 ⟨ok.mod,ok.kind,ok.glob,ok.blt,ok.above,ok.inj,ok.has,ok.vt,ok.hd,ok.frames,ok.stk,ok.En,ok.bs,ok.qQ,ok.qd,ok.qe,ok.iX,ok.sR⟩
theorem Cx.Ok.iP {X:Cx}{E:Value→Shared→Prop}(ok:(X.jK E).Ok):X.Ok:=
 ⟨ok.mod,ok.kind,ok.glob,ok.blt,ok.above,ok.inj,ok.has,ok.vt,ok.hd,ok.frames,ok.stk,ok.En,ok.bs,ok.qQ,ok.qd,ok.qe,ok.iX,ok.sR⟩
section
variable {X:Cx}{pins:List (Addr×Obj)}{σ:St}{H:Hp}{s:Shared}{E:Value→Shared→Prop}
theorem Inv.jK (I:Inv X pins σ H s) (E:Value→Shared→Prop):Inv (X.jK E) pins σ H s:=⟨I.ok.jK E,I.os,I.bare,I.base,I.loc,I.cell,I.free,I.iI,I.pin,I.hok,I.len⟩
theorem Inv.iP (I:Inv (X.jK E) pins σ H s):Inv X pins σ H s:=⟨I.ok.iP,I.os,I.bare,I.base,I.loc,I.cell,I.free,I.iI,I.pin,I.hok,I.len⟩
theorem SP.iP {D:Ends}{f:Flow}{s':Shared}(h:SP (X.jK E) pins D f s'):SP X pins D f s':=by
 cases f with
 | next=>obtain ⟨σ',H',I,q⟩:=h;exact ⟨σ',H',I.iP,q⟩
 | brk=>obtain ⟨σ',H',I,q⟩:=h;exact ⟨σ',H',I.iP,q⟩
 | cont=>obtain ⟨σ',H',I,q⟩:=h;exact ⟨σ',H',I.iP,q⟩
 | ret u=>obtain ⟨v,σ',H',I,r,q⟩:=h;exact ⟨v,σ',H',I.iP,r,q⟩
theorem ir.qS {st:List Stmt}{t:TS}(h:ir X.qS st t):ir X st t:=fun pins s σ H D I hw=>
 wpAny_mono (h pins s σ H D (I.jK _) hw) (fun _ _ q=>q.iP) fun _ _ z=>False.elim z
end
section
variable {X:Cx}{st:Stmt}{rest:List Stmt}{t u:TS}{e:Expr}{te:TE}{pos:Pos}
noncomputable def Pf:TS:=fun D σ H=>D.nx σ H
noncomputable def Uq (t u:TS):TS:=fun D σ H=>t { D with nx:=u D } σ H
theorem GN:ir X [] Pf:=fun _ _ σ H _ I h=>wpAny_execs_nil ⟨σ,H,I,h⟩
theorem Bp (h1:PS X st t) (h2:ir X rest u):ir X (st :: rest) (Uq t u):=by
 intro pins s σ H D I h
 refine wpAny_execs_cons (bM (h1 pins s σ H { D with nx:=u D } I h) fun f s1 q=>?_)
 cases f with
 | next=>
  obtain ⟨σ',H',I',q⟩:=q
  exact h2 pins s1 σ' H' D I' q
 | ret v=>exact q
 | brk=>exact q
 | cont=>exact q
theorem Inv.quiet {pins:List (Addr×Obj)}{σ:St}{H:Hp}{s:Shared}(I:Inv X pins σ H s):interactive X.env=false:=by simp [interactive,I.ok.kind]
noncomputable def Pg (te:TE):TS:=fun D σ H=>te σ H fun _ H1=>D.nx σ H1
theorem GO (he:PE X e te) (hs:swapsWith e none pos.line X.env=pure false:=by rfl):PS X (.Expr e pos) (Pg te):=by
 intro pins s σ H D I h
 exact wpAny_Expr_any (bM (he pins s σ H _ I h) fun v s1 ⟨x,H1,I1,r1,q1⟩=>⟨σ,H1,I1,q1⟩) I.quiet hs
noncomputable def Ur (te:TE):TS:=fun D σ H=>te σ H D.rt
theorem Ju (he:PE X e te):PS X (.Return (some e) pos) (Ur te):=by
 intro pins s σ H D I h
 exact wpAny_Return_some (bM (he pins s σ H _ I h) fun v s1 ⟨x,H1,I1,r1,q1⟩=>⟨x,σ,H1,I1,r1,q1⟩)
noncomputable def Us (c:TT) (t u:TS):TS:=fun D σ H=>c σ H fun b H1=>if b=true then t D σ H1 else u D σ H1
theorem Ph {c:Expr}{a b:List Stmt}{tc:TT}(hc:PT X c tc) (ha:ir X a t) (hb:ir X b u):PS X (.If c a b pos) (Us tc t u):=by
 intro pins s σ H D I h
 refine wpAny_If (bM (hc pins s σ H _ I h) fun d s1 ⟨H1,I1,q1⟩=>?_)
 cases d with
 | true=>exact ha pins s1 σ H1 D I1 q1
 | false=>exact hb pins s1 σ H1 D I1 q1
noncomputable def Jv:TS:=fun _ _ _=>False
theorem Bq:PS X st Jv:=fun _ _ _ _ _ _ h=>h.elim
end
abbrev TG:=V→St→Hp→(St→Hp→Prop)→Prop
abbrev qT:=List V→St→Hp→(St→Hp→Prop)→Prop
noncomputable def PG (X:Cx) (target:Expr) (t:TG):Prop:=
 ∀ (pins:List (Addr×Obj)) (s:Shared) (σ:St) (H:Hp) (v:V) (u:Value) (Q:St→Hp→Prop),Inv X pins σ H s→RelV v u→t v σ H Q→
  wpAny (model X.prog X.w) X.A (assign target X.env u) (fun _ s'=>∃ σ' H',Inv X pins σ' H' s'∧Q σ' H') X.xe s
noncomputable def ny (X:Cx) (ts:List Expr) (t:qT):Prop:=
 ∀ (pins:List (Addr×Obj)) (s:Shared) (σ:St) (H:Hp) (vs:List V) (us:List Value) (Q:St→Hp→Prop),Inv X pins σ H s→Vals vs us→t vs σ H Q→
  wpAny (model X.prog X.w) X.A (assignInOrder ((assignEach ts X.env).map (·.2)) us) (fun _ s'=>∃ σ' H',Inv X pins σ' H' s'∧Q σ' H') X.xe s
section
variable {X:Cx}{pos:Pos}
noncomputable def Eu (i:Nat):TG:=fun v σ H Q=>Q (σ.set i (some v)) H
theorem vA {i:Nat}{x:Str}(hN:X.N.Nodup) (hi:X.N[i]?=some x) (hx:Loc X.env.scope x) (hf:X.fn x=true∨X.env.scope.names.lookup x=some .local:=by first | exact .inl rfl | exact .inr rfl | assumption):PG X (.Name x pos) (Eu i):=by
 intro pins s σ H v u Q I r h
 exact wpAny_assign_Name (sX I hN hi hx r (fun s' I'=>⟨_,H,I',h⟩) hf)
noncomputable def Ut:qT:=fun vs σ H Q=>vs=[]∧Q σ H
noncomputable def Pj (t:TG) (u:qT):qT:=fun vs σ H Q=>∃ v r,vs=v :: r∧t v σ H fun σ' H'=>u r σ' H' Q
theorem GP:ny X [] Ut:=by
 intro pins s σ H vs us Q I r h
 obtain ⟨e,h⟩:=h
 subst e
 cases r
 exact assignInOrder_nil ⟨σ,H,I,h⟩
theorem Br {e:Expr}{es:List Expr}{t:TG}{u:qT}(h1:PG X e t)(h2:ny X es u)
  (hs:(assignEach (e :: es) X.env).map (·.2)=assign e X.env :: (assignEach es X.env).map (·.2):=by rfl):ny X (e :: es) (Pj t u):=by
 intro pins s σ H vs us Q I r h
 obtain ⟨v,vr,e1,h⟩:=h
 subst e1
 cases r with
 | cons r rr=>
  rw [hs]
  refine assignInOrder_cons (bM (h1 pins s σ H _ _ _ I r h) fun _ s1 ⟨σ1,H1,I1,q1⟩=>?_)
  exact h2 pins s1 σ1 H1 _ _ Q I1 rr q1
noncomputable def Uu (K:PySem.W.Frag) (n:Nat) (t:qT):TG:=fun v σ H Q=>∃ a xs,v=.ref a∧dG K H a xs∧xs.length=n∧t xs σ H Q
theorem Jw {es:List Expr}{k:Nat}{t:qT}{n:Nat}(hc:X.calm=true)(h:ny X es t)
  (hn:(assignEach es X.env).length=n:=by rfl) (hst:(assignEach es X.env).findIdx? (·.1)=none:=by rfl):PG X (.Tuple es k pos) (Uu X.K n t):=by
 intro pins s σ H v u Q I r hw
 obtain ⟨a,xs,e1,hq,hl,hw⟩:=hw
 subst e1
 cases r
 obtain ⟨its,rv,ht,hz⟩:=I.tuple hq
 refine assign_Tuple_tuple (I.ok.hd hc) ht (by simp [hn,←hl,rv.length]) hst fun h' hx=>?_
 have I1:Inv X pins σ H { s with heap:=h' }:=I.kept (t':=s.toks) fun b o e=>hx b o (Nat.ne_of_lt (Heap.lt_size e)) e
 exact h pins _ σ H xs _ Q I1 (by simpa using rv) hw
noncomputable def Uv (te:TE) (g:TG):TS:=fun D σ H=>te σ H fun x H1=>g x σ H1 D.nx
theorem yX {i:Nat}{x:Str}{e:Expr}{te:TE}{pos':Pos}(hN:X.N.Nodup) (hi:X.N[i]?=some x) (hx:Loc X.env.scope x) (he:PE X e te) (hs:swapsWith e (some (.Name x pos')) pos.line X.env=pure false:=by rfl) (hf:X.fn x=true∨X.env.scope.names.lookup x=some .local:=by first | exact .inl rfl | exact .inr rfl | assumption) :
  PS X (.Assign [.Name x pos'] e pos) (Uv te (Eu i)):=by
 intro pins s σ H D I h
 refine wpAny_Assign_Name (bM (he pins s σ H _ I h) fun v s1 ⟨y,H1,I1,r1,q1⟩=>?_) hs
 exact sX I1 hN hi hx r1 (fun s2 I2=>⟨_,H1,I2,q1⟩) hf
end
section
variable {X:Cx}{pos:Pos}
noncomputable def Jx (c:TT) (tb:TS):TS:=fun D σ H=>∃ W:Nat→St→Hp→Prop,(∃ m,W m σ H)∧∀ m σ H,W m σ H→
 c σ H fun b H1=>if b=true then ∃ N:St→Hp→Prop,(∀ σ' H',N σ' H'→∃ m',m'<m∧W m' σ' H')∧tb { D with nx:=N,ct:=N,bk:=D.nx } σ H1 else D.nx σ H1
theorem Bt {c:Expr}{body:List Stmt}{tc:TT}{tb:TS}(hp:PassesOwn (model X.prog X.w) X.A X.env X.xe) (hc:PT X c tc) (hb:ir X body tb):PS X (.While c body [] pos) (Jx tc tb):=by
 intro pins s σ H D I h
 obtain ⟨W,⟨m0,w0⟩,turn⟩:=h
 refine wpAny_While (codeAny_whileLoop (fun n s'=>∃ σ' H',Inv X pins σ' H' s'∧W n σ' H') ?_ m0 ⟨σ,H,I,w0⟩)
 rintro n s1 ⟨σ1,H1,I1,w1⟩
 refine wpAny_passesOwn hp (bM (hc pins s1 σ1 H1 _ I1 (turn n σ1 H1 w1)) fun b s2 ⟨H2,I2,q2⟩=>?_)
 cases b with
 | true=>
  obtain ⟨N,hN,q2⟩:=q2
  rw [if_pos rfl]
  refine wpAny_passesOwn hp (bM (hb pins s2 σ1 H2 _ I2 q2) fun f s3 q3=>?_)
  cases f with
  | next=>
   obtain ⟨σ3,H3,I3,n3⟩:=q3
   obtain ⟨m',hm,w3⟩:=hN σ3 H3 n3
   exact ⟨m',hm,σ3,H3,I3,w3⟩
  | cont=>
   obtain ⟨σ3,H3,I3,n3⟩:=q3
   obtain ⟨m',hm,w3⟩:=hN σ3 H3 n3
   exact ⟨m',hm,σ3,H3,I3,w3⟩
  | brk=>exact q3
  | ret v=>exact q3
 | false=>
  rw [if_neg Bool.false_ne_true]
  exact wpAny_execs_nil ⟨σ1,H2,I2,q2⟩
end
structure It where
 go:Nat→Hp→Prop
 Ew:Nat→Hp→V→Hp→Prop
 stop:Nat→Hp→Prop
noncomputable def gW (X:Cx) (pins:List (Addr×Obj)) (H:Hp) (b:Addr):Prop:=
 H b=none∧b≠X.env.locals∧b∉X.fs∧(b∈X.ex∨X.s₀.heap.objs.size≤b)∧(∀ x c,X.env.cells.lookup x=some c→c≠b)∧∀ p∈X.pn++pins,p.1≠b
theorem Inv.Bu {X:Cx}{pins:List (Addr×Obj)}{σ:St}{H H':Hp}{s:Shared}{b:Addr}(I:Inv X pins σ H s) (hb:s.heap.objs.size≤b) (hn:H' b=none):gW X pins H' b:=by
 refine ⟨hn,Nat.ne_of_gt (Nat.lt_of_lt_of_le I.lt hb),I.Uk hb,.inr (Nat.le_trans I.sz hb),fun x c e z=>?_,fun p hp z=>?_⟩
 ·obtain ⟨v,q⟩:=I.cell x c e
  exact absurd (Nat.lt_of_lt_of_le q.lt (by rw [z];exact hb)) (Nat.lt_irrefl _)
 ·exact absurd (Nat.lt_of_lt_of_le (Heap.lt_size (I.pin p hp).1) (by rw [z];exact hb)) (Nat.lt_irrefl _)
structure Turn (P:Program) (w:World) (K:PySem.W.Frag) (tg:Expr) (J:It) (fp:List Addr) (it:Addr) (tn:Nat→Heap→Prop):Prop where
 mem:it∈fp
 obj:∀ i h,tn i h→∀ b∈fp,∃ o,h.get? b=some o∧∀ v,o.data≠.cell v
 keep:∀ i h h',tn i h→(∀ b∈fp,∀ o,h.get? b=some o→h'.get? b=some o)→tn i h'
 item:∀ (X:Cx),X.prog=P→X.w=w→X.K=K→X.calm=true→∀ (i:Nat) (pins:List (Addr×Obj)) (s:Shared) (σ:St) (H:Hp) (E:Value→Shared→Prop),Inv X pins σ H s→(∀ b∈fp,gW X pins H b)→tn i s.heap→J.go i H→
  wpAny (model P w) X.A (pyNext (.ref it)) (fun r s1=>∃ u,r=some u∧
   wpAny (model P w) X.A (letOwnedTupleGo tg (.ref it) u) (fun _ s2=>∃ x H',Inv X pins σ H' s2∧RelV x u∧J.Ew i H x H'∧tn (i+1) s2.heap∧∀ b∈fp,H' b=none) E s1) E s
 done:∀ (X:Cx),X.prog=P→X.w=w→X.K=K→X.calm=true→∀ (i:Nat) (pins:List (Addr×Obj)) (s:Shared) (σ:St) (H:Hp) (E:Value→Shared→Prop),Inv X pins σ H s→(∀ b∈fp,gW X pins H b)→tn i s.heap→J.stop i H→
  wpAny (model P w) X.A (pyNext (.ref it)) (fun r s1=>r=none∧Inv X pins σ H s1) E s
 self:∀ (A:Around) (i:Nat) (s:Shared) (Q:Value→Shared→Prop) (E:Value→Shared→Prop),tn i s.heap→Q (.ref it) s→wpAny (model P w) A (pyIter (.ref it)) Q E s
abbrev TI:=St→Hp→(It→Hp→Prop)→Prop
noncomputable def Rq (X:Cx) (pins:List (Addr×Obj)) (σ:St) (tg:Expr) (R:It→Hp→Prop) (itv:Value) (s2:Shared):Prop:=
 ∃ (it:Addr) (fp:List Addr) (tn:Nat→Heap→Prop) (J:It) (H':Hp),itv=.ref it∧Inv X pins σ H' s2∧Turn X.prog X.w X.K tg J fp it tn∧tn 0 s2.heap∧(∀ b∈fp,gW X pins H' b)∧R J H'
noncomputable def PI (X:Cx) (tg iter:Expr) (wi:TI):Prop:=
 ∀ (pins:List (Addr×Obj)) (s:Shared) (σ:St) (H:Hp) (R:It→Hp→Prop),Inv X pins σ H s→wi σ H R→
  wpAny (model X.prog X.w) X.A (eval iter X.env) (fun v s1=>wpAny (model X.prog X.w) X.A (pyIter v) (Rq X pins σ tg R) X.xe s1) X.xe s
theorem wY {M:Model}{A:Around}{E:Value→Shared→Prop}{s:Shared}{tg:Expr}{it:Addr}{u:Value}{o:Obj}{n:String}{vs:Array Value}{Q:Unit→Shared→Prop}(ho:s.heap.get? it=some o)(hc:o.cls=.type n)(hd:o.data=.fields vs)
    (hn:["enumerate","zip","dict_itemiterator","dict_reverseitemiterator","odict_iterator","itertools.zip_longest","itertools.pairwise"].contains n=false) (hQ:Q () s):wpAny M A (letOwnedTupleGo tg (.ref it) u) Q E s:=by
  unfold letOwnedTupleGo
  cases tg <;> first
    | exact wpAny_pure hQ
    | (cases u <;> first
        | exact wpAny_pure hQ
        | (refine wpAny_bind (wpAny_load ho ?_)
           rw [hc,hd]
           show wpAny M A (if (["enumerate","zip","dict_itemiterator","dict_reverseitemiterator","odict_iterator","itertools.zip_longest","itertools.pairwise"].contains n&&vs[0]?==some (rawInt _))=true then _ else _) Q E s
           rw [if_neg (by intro h;rw [hn,Bool.false_and] at h;cases h)]
           exact wpAny_pure hQ))
noncomputable def Rt (K:PySem.W.Frag) (a:Addr):It:=
 ⟨fun i H=>∃ xs x,fh K H a xs∧xs[i]?=some x,fun i H x H'=>H'=H∧∀ xs,fh K H a xs→xs[i]?=some x,fun i H=>∃ xs,fh K H a xs∧xs.length≤i⟩
noncomputable def Ru (K:PySem.W.Frag) (a:Addr):It:=
 ⟨fun i H=>∃ xs x,dG K H a xs∧xs[i]?=some x,fun i H x H'=>H'=H∧∀ xs,dG K H a xs→xs[i]?=some x,fun i H=>∃ xs,dG K H a xs∧xs.length≤i⟩
noncomputable def Ex (lo:Int) (n:Nat):It:=⟨fun i _=>i<n,fun i H x H'=>H'=H∧x=.int (lo+i),fun i _=>n≤i⟩
theorem yY {P:Program}{w:World}{K:PySem.W.Frag}{tg:Expr}(a it:Addr):Turn P w K tg (Rt K a) [it] it (fun i h=>h.IsListIter it a i) where
 mem:=by simp
 obj:=fun i h st b hb=>by
  have e:b=it:=by simpa using hb
  subst e
  obtain ⟨o,e,c,d⟩:=st
  exact ⟨o,e,fun v z=>by rw [d] at z;cases z⟩
 keep:=fun i h h' st k=>st.at fun o e=>k it (by simp) o e
 item:=by
  intro X hP hw hK hc i pins s σ H E I hf st hg
  subst hP hw hK
  obtain ⟨xs,x,hq,hx⟩:=hg
  obtain ⟨its,rv,p,hz⟩:=I.list hq
  obtain ⟨u,hu,ru⟩:=rv.get hx
  obtain ⟨f0,f1,f2,f3,f4,f5⟩:=hf it (by simp)
  refine wpAny_pyNext_list_item st p.isList (x:=u) (by simpa using hu) fun h' st' sb=>?_
  have I1:Inv X pins σ H { s with heap:=h' }:=I.turned (t':=s.toks) (fun b o hb e=>(sb.2 b hb).trans e) f0 f1 f3 f4 f5
  obtain ⟨o,e,c,d⟩:=id st'
  exact ⟨u,rfl,wY (s:={ s with heap:=h' }) e c d (by decide) ⟨x,H,I1,ru,⟨rfl,fun ys hy=>by rw [I.Bo hy hq];exact hx⟩,st',fun b hb=>(hf b hb).1⟩⟩
 done:=by
  intro X hP hw hK hc i pins s σ H E I hf st hg
  subst hP hw hK
  obtain ⟨xs,hq,hx⟩:=hg
  obtain ⟨its,rv,p,hz⟩:=I.list hq
  obtain ⟨f0,f1,f2,f3,f4,f5⟩:=hf it (by simp)
  have hl:=rv.length
  exact wpAny_pyNext_list_end (I.ok.hd hc) st p.isList (by simp;omega) fun h' eb=>⟨rfl,I.turned (t':=s.toks) (fun b o hb e=>eb b o hb e) f0 f1 f3 f4 f5⟩
 self:=fun _ _ _ _ _ st h=>wpAny_pyIter_listiter st h
theorem wZ {P:Program}{w:World}{K:PySem.W.Frag}{tg:Expr}(a it:Addr):Turn P w K tg (Ru K a) [it] it (fun i h=>h.IsTupleIter it a i) where
 mem:=by simp
 obj:=fun i h st b hb=>by
  have e:b=it:=by simpa using hb
  subst e
  obtain ⟨o,e,c,d⟩:=st
  exact ⟨o,e,fun v z=>by rw [d] at z;cases z⟩
 keep:=fun i h h' st k=>st.at fun o e=>k it (by simp) o e
 item:=by
  intro X hP hw hK hc i pins s σ H E I hf st hg
  subst hP hw hK
  obtain ⟨xs,x,hq,hx⟩:=hg
  obtain ⟨its,rv,p,hz⟩:=I.tuple hq
  obtain ⟨u,hu,ru⟩:=rv.get hx
  obtain ⟨f0,f1,f2,f3,f4,f5⟩:=hf it (by simp)
  refine wpAny_pyNext_tuple_item st (show s.heap.IsTuple a its.toArray from p) (x:=u) (by simpa using hu) fun h' st' sb=>?_
  have I1:Inv X pins σ H { s with heap:=h' }:=I.turned (t':=s.toks) (fun b o hb e=>(sb.2 b hb).trans e) f0 f1 f3 f4 f5
  obtain ⟨o,e,c,d⟩:=id st'
  exact ⟨u,rfl,wY (s:={ s with heap:=h' }) e c d (by decide) ⟨x,H,I1,ru,⟨rfl,fun ys hy=>by rw [I.lH hy hq];exact hx⟩,st',fun b hb=>(hf b hb).1⟩⟩
 done:=by
  intro X hP hw hK hc i pins s σ H E I hf st hg
  subst hP hw hK
  obtain ⟨xs,hq,hx⟩:=hg
  obtain ⟨its,rv,p,hz⟩:=I.tuple hq
  obtain ⟨f0,f1,f2,f3,f4,f5⟩:=hf it (by simp)
  have hl:=rv.length
  exact wpAny_pyNext_tuple_end (I.ok.hd hc) st (show s.heap.IsTuple a its.toArray from p) (by simp;omega) fun h' eb=>⟨rfl,I.turned (t':=s.toks) (fun b o hb e=>eb b o hb e) f0 f1 f3 f4 f5⟩
 self:=fun _ _ _ _ _ st h=>wpAny_pyIter_tupleiter st h
theorem w9 {P:Program}{w:World}{K:PySem.W.Frag}{tg:Expr}(it:Addr) (lo:Int) (n:Nat):Turn P w K tg (Ex lo n) [it] it (fun i h=>IsRangeIter h it (lo+(i:Nat)*1) ((n:Int) - (i:Nat)) 1) where
 mem:=by simp
 obj:=fun i h st b hb=>by
  have e:b=it:=by simpa using hb
  subst e
  exact ⟨_,st,fun v z=>by
   have z':Data.fields _=Data.cell v:=z
   cases z'⟩
 keep:=fun i h h' st k=>k it (by simp) _ st
 item:=by
  intro X hP hw hK hc i pins s σ H E I hf st hg
  subst hP hw hK
  obtain ⟨f0,f1,f2,f3,f4,f5⟩:=hf it (by simp)
  have W:=Walks.range (prog:=X.prog) (w:=X.w) (I.ok.hd hc) it lo 1 n
  refine W.item i s _ _ hg st fun v h' tk hv st' kk=>?_
  obtain ⟨t,rfl⟩:=hv
  have I1:Inv X pins σ H { s with heap:=h',toks:=tk }:=I.turned (fun b o hb e=>kk b o (by simpa using hb) e) f0 f1 f3 f4 f5
  refine ⟨_,rfl,wY (s:={ s with heap:=h',toks:=tk }) (n:="range_iterator") st' rfl rfl (by decide) ⟨.int (lo+i),H,I1,⟨t,?_⟩,⟨rfl,rfl⟩,st',fun b hb=>(hf b hb).1⟩⟩
  rw [Int.mul_one]
 done:=by
  intro X hP hw hK hc i pins s σ H E I hf st hg
  subst hP hw hK
  obtain ⟨f0,f1,f2,f3,f4,f5⟩:=hf it (by simp)
  exact wpAny_pyNext_range_end (I.ok.hd hc) st (by have:n≤i:=hg;omega) fun h' eb=>⟨rfl,I.turned (t':=s.toks) (fun b o hb e=>eb b o hb e) f0 f1 f3 f4 f5⟩
 self:=fun _ _ _ _ _ st h=>wpAny_pyIter_rangeiter st h
end L2
namespace L2
open PySem PySem.Spec PyProof.Rows
section
variable {X:Cx}{tg:Expr}
theorem Bv {pins:List (Addr×Obj)}{σ:St}{H:Hp}{s:Shared}{R:It→Hp→Prop}{E:Value→Shared→Prop}{lo hi:Int}{t u v:Tok}{tk:Nat}(I:Inv X pins σ H s) (h1:-(2 ^ 62)≤lo) (h2:lo<2 ^ 62) (h3:-(2 ^ 62)≤hi) (h4:hi<2 ^ 62)
  (q:R (Ex lo (hi - lo).toNat) H):wpAny (model X.prog X.w) X.A (pyIter (.ref s.heap.objs.size)) (Rq X pins σ tg R) E { s with heap:=s.heap.push { cls:=.type "range",data:=.fields #[.int lo t,.int hi u,.int 1 v]},toks:=tk }:=by
 refine wpAny_pyIter_range (IsRange.new ..) (small_one h1 h2 h3 h4) ?_
 have I1:Inv X pins σ H { s with heap:=s.heap.push { cls:=.type "range",data:=.fields #[.int lo t,.int hi u,.int 1 v]},toks:=tk }:=I.kept fun b o e=>Heap.get?_push_of_some _ e
 refine ⟨(s.heap.push { cls:=.type "range",data:=.fields #[.int lo t,.int hi u,.int 1 v]}).objs.size,[(s.heap.push { cls:=.type "range",data:=.fields #[.int lo t,.int hi u,.int 1 v]}).objs.size],_,_,H,rfl,
  I1.kept (t':=tk) fun b o e=>Heap.get?_push_of_some _ e,w9 _ lo (hi - lo).toNat,?_,fun b hb=>?_,q⟩
 ·have e1:lo+((0:Nat):Int)*1=lo:=by simp
  have e2:(((hi - lo).toNat:Nat):Int) - ((0:Nat):Int)=Builtin.Range.rangeSize lo hi 1:=by rw [rangeSize_one];split <;> omega
  show IsRangeIter _ _ (lo+((0:Nat):Int)*1) ((((hi - lo).toNat:Nat):Int) - ((0:Nat):Int)) 1
  rw [e1,e2]
  exact Heap.get?_push_size _ rfl
 ·have e:b=(s.heap.push { cls:=.type "range",data:=.fields #[.int lo t,.int hi u,.int 1 v]}).objs.size:=by simpa using hb
  subst e
  exact I1.Bu (Nat.le_refl _) (I1.hok.fresh (Nat.le_refl _))
noncomputable def Pk (ta:TA):TI:=fun σ H R=>ta σ H fun vs H1=>∃ j:Int,vs=[.int j]∧-(2 ^ 62)≤j∧j<2 ^ 62∧R (Ex 0 j.toNat) H1
theorem yZ {a:Expr}{ta:TA}{p pos:Pos}(hg:Gl X "range") (hm:X.mg "range" = none) (ha:PA X [a] ta) (hs:starEach [a] X.env=[(false,eval a X.env)]:=by rfl):PI X tg (.Call (.Name "range" p) [a] [] pos) (Pk ta):=by
 intro pins s σ H R I h
 refine Call_ (gU I hg hm boot_range (PyProof.Rows.callWith_type1 (bM (ha pos pins s σ H _ I h) fun us s1 ⟨vs,H1,I1,r1,q1⟩=>?_) hs rfl))
 obtain ⟨j,e,q1,q2,q⟩:=q1
 subst e
 cases r1 with
 | cons r rr=>
  cases rr
  obtain ⟨t,rfl⟩:=r
  exact call_range_1 (Bv I1 (by omega) (by omega) q1 q2 (by simpa using q))
noncomputable def Uw (wi:TI) (g:TG) (tb:TS):TS:=fun D σ H=>wi σ H fun J H1=>∃ W:Nat→Nat→St→Hp→Prop,(∃ m,W 0 m σ H1)∧∀ i m σ H,W i m σ H→
 (J.stop i H∧D.nx σ H)∨(J.go i H∧∃ N:St→Hp→Prop,(∀ σ' H',N σ' H'→∃ m',m'<m∧W (i+1) m' σ' H')∧∀ x H',J.Ew i H x H'→g x σ H' fun σ2 H2=>tb { D with nx:=N,ct:=N,bk:=D.nx } σ2 H2)
noncomputable def lI (fp:List Addr) (h:Heap):List (Addr×Obj):=fp.filterMap fun b=>(h.get? b).map fun o=>(b,o)
theorem jc {fp:List Addr}{h:Heap}{b:Addr}{o:Obj}(hb:b∈fp) (e:h.get? b=some o):(b,o)∈lI fp h:=List.mem_filterMap.mpr ⟨b,hb,by rw [e];rfl⟩
theorem y9 {fp:List Addr}{h:Heap}{p:Addr×Obj}(hp:p∈lI fp h):p.1∈fp∧h.get? p.1=some p.2:=by
 obtain ⟨b,hb,e⟩:=List.mem_filterMap.mp hp
 cases q:h.get? b with
 | none=>rw [q] at e;cases e
 | some o=>
  rw [q] at e
  have e':(b,o)=p:=Option.some.inj e
  subst e'
  exact ⟨hb,q⟩
theorem Inv.pinned {pins:List (Addr×Obj)}{σ:St}{H:Hp}{s:Shared}{fp:List Addr}(I:Inv X pins σ H s) (hf:∀ b∈fp,gW X pins H b) (ho:∀ b∈fp,∃ o,s.heap.get? b=some o∧∀ v,o.data≠.cell v):Inv X (pins++lI fp s.heap) σ H s:=
 I.vz fun p hp=>(List.mem_append.mp hp).elim (fun z=>I.pin p (List.mem_append_right _ z)) fun z=>by
  obtain ⟨hb,e⟩:=y9 z
  obtain ⟨f0,f1,f2,_⟩:=hf p.1 hb
  obtain ⟨o,e',d⟩:=ho p.1 hb
  rw [e] at e';cases e'
  exact ⟨e,f0,f1,f2,d⟩
theorem Inv.kB {pins pl:List (Addr×Obj)}{σ:St}{H:Hp}{s:Shared}(I:Inv X (pins++pl) σ H s):Inv X pins σ H s:=I.vz fun p hp=>I.pin p (List.mem_append_right _ (List.mem_append_left _ hp))
theorem Jy {iter:Expr}{body:List Stmt}{wi:TI}{g:TG}{tb:TS}{pos:Pos}(hp:PassesOwn (model X.prog X.w) X.A X.env X.xe) (hc:X.calm=true) (hi:PI X tg iter wi) (hg:PG X tg g) (hb:ir X body tb)
  (hs:∀ x,foldedSetIterable iter X.env x=pure x:=by intro _;rfl):PS X (.For tg iter body [] pos) (Uw wi g tb):=by
 intro pins s σ H D I h
 refine wpAny_For (bM (hi pins s σ H _ I h) fun v s1 h1=>bM h1 fun itv s2 h2=>?_) hs
 obtain ⟨it,fp,tn,J,H2,e,I2,T,st2,f2,W,⟨m0,w0⟩,turn⟩:=h2
 subst e
 have kC:∀ {H':Hp},(∀ b∈fp,H' b=none)→∀ b∈fp,gW X pins H' b:=fun hn b hb=>⟨hn b hb,(f2 b hb).2⟩
 refine codeAny_forLoop_any (fun n s'=>∃ i σ' H',Inv X pins σ' H' s'∧tn i s'.heap∧(∀ b∈fp,H' b=none)∧W i n σ' H') ?_ m0 ⟨0,σ,H2,I2,st2,fun b hb=>(f2 b hb).1,w0⟩
 rintro n s3 ⟨i,σ3,H3,I3,st3,cX,w3⟩
 rcases turn i n σ3 H3 w3 with ⟨stop,qn⟩ | ⟨go,N,hN,step⟩
 ·refine wpAny_passesOwn hp (bM (T.done X rfl rfl rfl hc i pins s3 σ3 H3 X.xe I3 (kC cX) st3 stop) fun r s4 ⟨hr,I4⟩=>?_)
  subst hr
  exact wpAny_execs_nil ⟨σ3,H3,I4,qn⟩
 ·refine wpAny_passesOwn hp (bM (T.item X rfl rfl rfl hc i pins s3 σ3 H3 X.xe I3 (kC cX) st3 go) fun r s4 ⟨u,hr,h4⟩=>?_)
  subst hr
  refine wpAny_passesOwn hp (bM h4 fun _ s5 ⟨x,H5,I5,r5,y5,vC,qU⟩=>?_)
  have WI:=I5.pinned (kC qU) (T.obj _ _ vC)
  refine wpAny_passesOwn hp (bM (hg _ s5 σ3 H5 x u _ WI r5 (step x H5 y5)) fun _ s6 ⟨WJ,H6,I6,q6⟩=>?_)
  refine wpAny_passesOwn hp (bM (hb _ s6 WJ H6 _ I6 q6) fun f s7 q7=>?_)
  have again:∀ {lJ:St} {H7:Hp},Inv X (pins++lI fp s5.heap) lJ H7 s7→N lJ H7→∃ m,m<n∧∃ i σ' H',Inv X pins σ' H' s7∧tn i s7.heap∧(∀ b∈fp,H' b=none)∧W i m σ' H':=fun {lJ H7} I7 n7=>by
   obtain ⟨m',hm,w7⟩:=hN lJ H7 n7
   refine ⟨m',hm,i+1,lJ,H7,I7.kB,T.keep _ _ _ vC fun b hb o e=>(I7.pin (b,o) (List.mem_append_right _ (List.mem_append_right _ (jc hb e)))).1,fun b hb=>?_,w7⟩
   obtain ⟨o,e,d⟩:=T.obj _ _ vC b hb
   exact (I7.pin (b,o) (List.mem_append_right _ (List.mem_append_right _ (jc hb e)))).2.1
  cases f with
  | next=>obtain ⟨lJ,H7,I7,n7⟩:=q7;exact again I7 n7
  | cont=>obtain ⟨lJ,H7,I7,n7⟩:=q7;exact again I7 n7
  | brk=>obtain ⟨lJ,H7,I7,q7⟩:=q7;exact ⟨lJ,H7,I7.kB,q7⟩
  | ret v=>obtain ⟨x7,lJ,H7,I7,r7,q7⟩:=q7;exact ⟨x7,lJ,H7,I7.kB,r7,q7⟩
end
end L2
namespace L2
open PySem PySem.Spec PyProof.Rows
abbrev R2:=V→V→Hp→VK→Prop
noncomputable def dS (X:Cx) (f:Value→Value→Sem Value) (r:R2):Prop:=
 ∀ (pins:List (Addr×Obj)) (s:Shared) (σ:St) (H:Hp) (x y:V) (v u:Value) (Q:VK),Inv X pins σ H s→RelV x v→RelV y u→r x y H Q→
  wpAny (model X.prog X.w) X.A (f v u) (EP X pins σ Q) X.xe s
noncomputable def Jz (X:Cx) (f:Value→Sem Value) (r:V→Hp→VK→Prop):Prop:=
 ∀ (pins:List (Addr×Obj)) (s:Shared) (σ:St) (H:Hp) (x:V) (v:Value) (Q:VK),Inv X pins σ H s→RelV x v→r x H Q→
  wpAny (model X.prog X.w) X.A (f v) (EP X pins σ Q) X.xe s
noncomputable def gw (X:Cx) (f:Value) (r:List V→Hp→VK→Prop):Prop:=
 ∀ (pins:List (Addr×Obj)) (s:Shared) (σ:St) (H:Hp) (xs:List V) (us:List Value) (Q:VK),Inv X pins σ H s→Vals xs us→r xs H Q→
  wpAny (model X.prog X.w) X.A (call f us) (EP X pins σ Q) X.xe s
noncomputable def Ux (X:Cx) (r:V→Hp→(Bool→Hp→Prop)→Prop):Prop:=
 ∀ (pins:List (Addr×Obj)) (s:Shared) (σ:St) (H:Hp) (x:V) (v:Value) (Q:Bool→Hp→Prop),Inv X pins σ H s→RelV x v→r x H Q→
  wpAny (model X.prog X.w) X.A (truthy v) (TP X pins σ Q) X.xe s
noncomputable def za (r:R2) (ta tb:TE):TE:=fun σ H Q=>ta σ H fun x H1=>tb σ H1 fun y H2=>r x y H2 Q
noncomputable def WK (r:V→Hp→VK→Prop) (ta:TE):TE:=fun σ H Q=>ta σ H fun x H1=>r x H1 Q
noncomputable def rI (C:Int→Int→Prop) (g:Int→Int→V):R2:=fun x y H Q=>∃ i j,x=.int i∧y=.int j∧C i j∧Q (g i j) H
noncomputable def sY (g:Int→Int→V):R2:=fun x y H Q=>∃ i j,x=.int i∧y=.int j∧Q (g i j) H
noncomputable def rU (g:Int→V):V→Hp→VK→Prop:=fun x H Q=>∃ i,x=.int i∧Q (g i) H
section
variable {X:Cx}{a b c:Expr}{ta tb tc:TE}{pos:Pos}
theorem Bx (ha:PE X a ta) (hb:PE X b tb) {pins:List (Addr×Obj)}{s:Shared}{σ:St}{H:Hp}{R:V→V→Hp→Prop}(I:Inv X pins σ H s)
  (h:ta σ H fun x H1=>tb σ H1 fun y H2=>R x y H2) {Q:Value→Shared→Prop} {f:Value→Value→Sem Value}
  (hf:∀ v u s2 x y H2,Inv X pins σ H2 s2→RelV x v→RelV y u→R x y H2→wpAny (model X.prog X.w) X.A (f v u) Q X.xe s2) :
  wpAny (model X.prog X.w) X.A (eval a X.env) (fun v s₁=>wpAny (model X.prog X.w) X.A (eval b X.env) (fun u s₂=>wpAny (model X.prog X.w) X.A (f v u) Q X.xe s₂) X.xe s₁) X.xe s:=by
 refine bM (ha pins s σ H _ I h) fun v s1 ⟨x,H1,I1,r1,q1⟩=>?_
 refine bM (hb pins s1 σ H1 _ I1 q1) fun u s2 ⟨y,H2,I2,r2,q2⟩=>?_
 exact hf v u s2 x y H2 I2 r1 r2 q2
theorem Pn {op:Operator}{r:R2}(ho:dS X (binaryOp op) r) (ha:PE X a ta) (hb:PE X b tb):PE X (.BinOp a op b pos) (za r ta tb):=by
 intro pins s σ H Q I h
 exact wpAny_BinOp (Bx ha hb I h fun v u s2 x y H2 I2 rx ry q=>ho pins s2 σ H2 x y v u Q I2 rx ry q)
theorem Po {op:UnaryOp}{r:V→Hp→VK→Prop}(ho:Jz X (unaryOp op) r) (ha:PE X a ta):PE X (.UnaryOp op a pos) (WK r ta):=by
 intro pins s σ H Q I h
 exact UnaryOp_ (bM (ha pins s σ H _ I h) fun v s1 ⟨x,H1,I1,r1,q1⟩=>ho pins s1 σ H1 x v Q I1 r1 q1)
theorem JB {f:Value→Value→Sem Value}{C:Int→Int→Prop}{g:Int→Int→Int}
  (rule:∀ (i j:Int) (t u:Tok) (s:Shared) (Q:Value→Shared→Prop) (E:Value→Shared→Prop),C i j→Q (.int (g i j) s.toks) { s with toks:=s.toks+1 }→wpAny (model X.prog X.w) X.A (f (.int i t) (.int j u)) Q E s) :
  dS X f (rI C fun i j=>.int (g i j)):=by
 intro pins s σ H x y v u Q I rx ry h
 obtain ⟨i,j,rfl,rfl,hc,q⟩:=h
 obtain ⟨t,rfl⟩:=rx
 obtain ⟨t',rfl⟩:=ry
 exact rule i j t t' s _ _ hc ⟨.int (g i j),H,I.tok _,⟨_,rfl⟩,q⟩
theorem JD {f:Value→Value→Sem Value}{g:Int→Int→Int}
  (rule:∀ (i j:Int) (t u:Tok) (s:Shared) (Q:Value→Shared→Prop) (E:Value→Shared→Prop),Q (.int (g i j) s.toks) { s with toks:=s.toks+1 }→wpAny (model X.prog X.w) X.A (f (.int i t) (.int j u)) Q E s) :
  dS X f (sY fun i j=>.int (g i j)):=by
 intro pins s σ H x y v u Q I rx ry h
 obtain ⟨i,j,rfl,rfl,q⟩:=h
 obtain ⟨t,rfl⟩:=rx
 obtain ⟨t',rfl⟩:=ry
 exact rule i j t t' s _ _ ⟨.int (g i j),H,I.tok _,⟨_,rfl⟩,q⟩
theorem JF {f:Value→Value→Sem Value}{g:Int→Int→Bool}
  (rule:∀ (i j:Int) (t u:Tok) (s:Shared) (Q:Value→Shared→Prop) (E:Value→Shared→Prop),Q (.bool (g i j)) s→wpAny (model X.prog X.w) X.A (f (.int i t) (.int j u)) Q E s) :
  dS X f (sY fun i j=>.bl (g i j)):=by
 intro pins s σ H x y v u Q I rx ry h
 obtain ⟨i,j,rfl,rfl,q⟩:=h
 obtain ⟨t,rfl⟩:=rx
 obtain ⟨t',rfl⟩:=ry
 exact rule i j t t' s _ _ ⟨.bl (g i j),H,I,rfl,q⟩
noncomputable def Uy (i j:Int):Prop:=0<j∧j<1073741824
noncomputable def By (i j:Int):Prop:=(-(2 ^ 64)<i∧i<2 ^ 64)∨(-(2 ^ 64)<j∧j<2 ^ 64)
theorem By.ok {i j:Int}(h:By i j):IntMulOk i j:=by
 rcases h with ⟨h1,h2⟩ | ⟨h1,h2⟩
 ·exact .of_left (intBits_le_64 h1 h2)
 ·exact .of_right (intBits_le_64 h1 h2)
theorem JH:dS X (binaryOp .Add) (sY fun i j=>.int (i+j)):=JD fun _ _ _ _ _ _ _ q=>add_int q
theorem JJ:dS X (binaryOp .Sub) (sY fun i j=>.int (i - j)):=JD fun _ _ _ _ _ _ _ q=>sub_int q
theorem JK:dS X (binaryOp .Mult) (rI By fun i j=>.int (i*j)):=JB fun _ _ _ _ _ _ _ hc q=>mul_int q hc.ok
theorem GQ:dS X (binaryOp .FloorDiv) (rI Uy fun i j=>.int (i / j)):=JB fun i j _ _ _ _ _ hc q=>by
 have h1:(0:Int)<j:=hc.1
 have h2:j<1073741824:=hc.2
 exact floordiv_int (by omega) (by rw [Int.fdiv_eq_ediv_of_nonneg i (by omega)];exact q) (.inl (PyProof.noPylong_small (by omega)))
theorem JL:dS X (binaryOp .Mod) (rI (fun _ j=>0<j) fun i j=>.int (i % j)):=JB fun i j _ _ _ _ _ hc q=>by
 have h1:(0:Int)<j:=hc
 exact mod_int' (by omega) (by rw [Int.fmod_eq_emod_of_nonneg i (by omega)];exact q)
theorem WL {f:Value→Sem Value}{g:Int→Int}
  (rule:∀ (i:Int) (t:Tok) (s:Shared) (Q:Value→Shared→Prop) (E:Value→Shared→Prop),Q (.int (g i) s.toks) { s with toks:=s.toks+1 }→wpAny (model X.prog X.w) X.A (f (.int i t)) Q E s) :
  Jz X f (rU fun i=>.int (g i)):=by
 intro pins s σ H x v Q I rx h
 obtain ⟨i,rfl,q⟩:=h
 obtain ⟨t,rfl⟩:=rx
 exact rule i t s _ _ ⟨.int (g i),H,I.tok _,⟨_,rfl⟩,q⟩
theorem JM:Jz X (unaryOp .USub) (rU fun i=>.int (-i)):=WL fun _ _ _ _ _ q=>neg_int q
end
section
variable {X:Cx}{a b c:Expr}{ta tb tc:TE}{pos:Pos}
theorem Pp:dS X (compareOp .Lt) (sY fun i j=>.bl (decide (i<j))):=JF fun _ _ _ _ _ _ _ q=>lt_int q
theorem Pq:dS X (compareOp .Gt) (sY fun i j=>.bl (decide (j<i))):=JF fun _ _ _ _ _ _ _ q=>gt_int q
theorem jU (b:Expr) {op:CmpOp}(h:op≠.In:=by decide) (h2:op≠.NotIn:=by decide):behindInMarks op b=false:=by
 have e1:(op==CmpOp.In)=false:=by cases op <;> first | rfl | exact absurd rfl h
 have e2:(op==CmpOp.NotIn)=false:=by cases op <;> first | rfl | exact absurd rfl h2
 cases b <;> simp [behindInMarks,e1,e2]
theorem GR {op:CmpOp}{r:R2}(ho:dS X (compareOp op) r) (ha:PE X a ta) (hb:PE X b tb) (hm:behindInMarks op b=false):PE X (.Compare a [op] [b] pos) (za r ta tb):=by
 intro pins s σ H Q I h
 exact wpAny_Compare1 (Bx ha hb I h fun v u s2 x y H2 I2 rx ry q=>ho pins s2 σ H2 x y v u Q I2 rx ry q) hm
noncomputable def Pr (t:TE):TT:=fun σ H Q=>t σ H fun x H'=>∃ k,x=.bl k∧Q k H'
theorem GS {op:CmpOp}{r:R2}(ho:dS X (compareOp op) r) (ha:PE X a ta) (hb:PE X b tb) (hm:behindInMarks op b=false):PT X (.Compare a [op] [b] pos) (Pr (za r ta tb)):=by
 intro pins s σ H Q I h
 refine wpAny_isTrue_Compare1 (bM (ha pins s σ H _ I h) fun v s1 ⟨x,H1,I1,r1,q1⟩=>bM (hb pins s1 σ H1 _ I1 q1) fun u s2 ⟨y,H2,I2,r2,q2⟩=>
  bM (ho pins s2 σ H2 x y v u _ I2 r1 r2 q2) fun c s3 ⟨z,H3,I3,r3,k,e,q3⟩=>?_) hm
 subst e
 cases r3
 exact wpAny_truthy_bool ⟨H3,I3,q3⟩
noncomputable def BA (K:PySem.W.Frag) (x:V) (H:Hp) (k:Bool):Prop:=
 match x with
 | .bH=>k=false
 | .bl b=>k=b
 | .int i=>k=(i != 0)
 | .str y=>y.length≤sizeLine∧k=((y.length:Int) != 0)
 | .yR y=>y.size≤sizeLine∧k=((y.size:Int) != 0)
 | .ref p=>(∃ xs,fh K H p xs∧k = !xs.isEmpty)∨(∃ xs,dG K H p xs∧k = !xs.isEmpty)∨∃ kvs,H p=some (.dK kvs)∧k = !kvs.isEmpty
 | _=>False
theorem xg {κ:Type}{kvs:List (κ×V)}{vs:List (κ×Value)}(r:KV kvs vs):(!vs.isEmpty) = !kvs.isEmpty:=by
 cases r <;> rfl
theorem oF {xs:List V}{its:List Value}(r:Vals xs its):(!its.toArray.isEmpty) = !xs.isEmpty:=by
 cases r <;> simp
theorem jV:(sizeLine:Nat)<2 ^ 63:=by rw [sizeLine_eq];decide
theorem JN:Ux X (fun x H Q=>∃ k,BA X.K x H k∧Q k H):=by
 intro pins s σ H x v Q I rx h
 obtain ⟨k,e,q⟩:=h
 have hl:=jV
 have hs:sizeLine=16777216:=sizeLine_eq
 cases x with
 | bH=>
  cases rx
  have e':k=false:=e
  subst e'
  exact truthy_none ⟨H,I,q⟩
 | bl b=>
  cases rx
  have e':k=b:=e
  subst e'
  exact wpAny_truthy_bool ⟨H,I,q⟩
 | int i=>
  obtain ⟨t,rfl⟩:=rx
  have e':k=(i != 0):=e
  subst e'
  exact PySem.P.truthy_int ⟨H,I,q⟩
 | str y=>
  obtain ⟨t,rfl⟩:=rx
  obtain ⟨hy,e'⟩:y.length≤sizeLine∧k=((y.length:Int) != 0):=e
  subst e'
  exact PySem.P.truthy_str (by omega) ⟨H,I.tok _,q⟩
 | yR y=>
  obtain ⟨t,rfl⟩:=rx
  obtain ⟨hy,e'⟩:y.size≤sizeLine∧k=((y.size:Int) != 0):=e
  subst e'
  exact PySem.W.truthy_bytes (by omega) ⟨H,I.tok _,q⟩
 | ref p=>
  cases rx
  have e':(∃ xs,fh X.K H p xs∧k = !xs.isEmpty)∨(∃ xs,dG X.K H p xs∧k = !xs.isEmpty)∨∃ kvs,H p=some (.dK kvs)∧k = !kvs.isEmpty:=e
  rcases e' with ⟨xs,hx,e'⟩ | ⟨xs,hx,e'⟩ | ⟨kvs,hx,e'⟩
  ·subst e'
   obtain ⟨its,r,pl,hz⟩:=I.list hx
   have hlen:=r.length
   exact wpAny_truthy_list pl.isList (by simp only [List.size_toArray];omega) ⟨H,I.tok _,by rw [oF r];exact q⟩
  ·subst e'
   obtain ⟨its,r,pl,hz⟩:=I.tuple hx
   have hlen:=r.length
   exact truthy_tuple pl (by simp only [List.size_toArray];omega) ⟨H,I.tok _,by rw [oF r];exact q⟩
  ·subst e'
   obtain ⟨hz,hS,vs,r,m⟩:kvs.length≤sizeLine∧(p==sysModules)=false∧∃ vs,KV kvs vs∧s.heap.DictOf (qc X.prog X.w) p vs:=I.hok p _ hx
   have hlen:kvs.length=vs.length:=Paired.length r
   exact wpAny_truthy_dict hS m (by omega) ⟨H,I.tok _,by rw [xg r];exact q⟩
 | _=>exact (show False from e).elim
theorem BB (ha:PE X a ta) (he:∀ whole,isTrue a X.env whole=(do let v ←whole;standAt a.pos;holding [v] (truthy v))) :
  PT X a (fun σ H Q=>ta σ H fun x H'=>∃ k,BA X.K x H' k∧Q k H'):=by
 intro pins s σ H Q I h
 exact isTrue_plain (bM (ha pins s σ H _ I h) fun v s1 ⟨x,H1,I1,r1,q1⟩=>JN pins s1 σ H1 x v Q I1 r1 q1) (he _)
theorem xj:dS X (binaryOp .Add) (fun x y H Q=>∃ i j,x=.str i∧y=.str j∧i.length+j.length≤sizeLine∧Q (.str (i++j)) H):=by
 intro pins s σ H x y v u Q I rx ry h
 obtain ⟨i,j,rfl,rfl,hz,q⟩:=h
 obtain ⟨t,rfl⟩:=rx
 obtain ⟨t',rfl⟩:=ry
 exact add_str (fun t' tk=>⟨.str (i++j),H,I.tok _,⟨_,rfl⟩,q⟩) hz
theorem vals1 {x:V}{us:List Value}(r:Vals [x] us):∃ u,us=[u]∧RelV x u:=by
 cases r with
 | cons r1 r2=>cases r2;exact ⟨_,rfl,r1⟩
theorem vals2 {x y:V}{us:List Value}(r:Vals [x,y] us):∃ u w',us=[u,w']∧RelV x u∧RelV y w':=by
 cases r with
 | cons r1 r2=>
  cases r2 with
  | cons r3 r4=>cases r4;exact ⟨_,_,rfl,r1,r3⟩
theorem zb (hc:X.calm=true):gw X (.builtin "min") (fun xs H Q=>∃ i j,xs=[.int i,.int j]∧Q (.int (if j<i then j else i)) H):=by
 intro pins s σ H xs us Q I r h
 obtain ⟨i,j,rfl,q⟩:=h
 obtain ⟨u,w',rfl,⟨t,rfl⟩,⟨t',rfl⟩⟩:=vals2 r
 refine min_two_ints (I.ok.hd hc) fun h' tk k=>⟨_,H,I.kept k,?_,q⟩
 by_cases hj:j<i
 ·rw [if_pos hj,if_pos hj];exact ⟨_,rfl⟩
 ·rw [if_neg hj,if_neg hj];exact ⟨_,rfl⟩
end
end L2
namespace L2
open PySem PySem.Spec PyProof.Rows
structure YJ (h:Heap) (x dx C:Addr) (mA:Str→Option Value):Prop where
 obj:h.get? x=some (PySem.W.instObj C dx)
 ns:h.Ns1 dx mA
 ne:dx≠x
section
variable {prog:Program}{w:World}{A:Around}{E:Value→Shared→Prop}{s:Shared}{K:PySem.W.Frag}{x dx C f:Addr}{mA:Str→Option Value}{name:Str}{v:Value}
end
section
variable {P:Program}{w:World}{H H':Hp}{h h':Heap}{a C dx:Addr}{fs fs':List (Str×V)}
end
structure WM (K:PySem.W.Frag) (C:Addr):Prop where
 pg:PySem.W.plainGet K C Str.empty=true
 hd:PySem.W.hasDictIn K C=true
 po:PySem.W.plainOver K C=true
 sa:PySem.W.findIn K (.ref C) "__setattr__" = some (some (.builtin "object.__setattr__"))
structure YL (K:PySem.W.Frag) (C:Addr) (f:Str) (v:V) (u:Value):Prop where
 at_:PySem.W.findIn K (.ref C) f=some (some u)
 rel:RelV v u
 get:PySem.W.specialIn K u "__get__" = some none
 cp:PySem.W.copiedNames.contains f=false
structure Meth (K:PySem.W.Frag) (C:Addr) (m:Str) (f:Addr):Prop where
 at_:PySem.W.findIn K (.ref C) m=some (some (.ref f))
 fn:PySem.W.isFn K (.ref f)=true
 kp:PySem.W.keepIn K (.ref f)=true
section
variable {X:Cx}{pins:List (Addr×Obj)}{σ:St}{H:Hp}{s:Shared}{a C dx:Addr}{fs:List (Str×V)}{f:Str}{v:V}{A:Around}{E:Value→Shared→Prop}
end
section
variable {X:Cx}{o e value:Expr}{f:Str}{pos pos' tpos:Pos}{ta tv:TE}
end
section
variable {X:Cx}{pins:List (Addr×Obj)}{σ:St}{H:Hp}{s:Shared}{A:Around}{E:Value→Shared→Prop}{Q:Value→Shared→Prop}{c:Value}{b:Bool}
inductive jq (K:PySem.W.Frag) (H:Hp):V→Value→Prop where
 | bH:jq K H .bH (.type "NoneType")
 | bl (x:Bool):jq K H (.bl x) (.type "bool")
 | int (i:Int):jq K H (.int i) (.type "int")
 | str (x:Str):jq K H (.str x) (.type "str")
 | yS (x:UInt64):jq K H (.yS x) (.type "float")
 | lst {a:Addr} {xs:List V} (e:H a=some (.lst xs)):jq K H (.ref a) (.type "list")
 | bS {a:Addr} {o:Obj} {xs:List V} (e:H a=some (.bS o (.lst xs))):jq K H (.ref a) (.type "list")
 | tup {a:Addr} {xs:List V} (e:H a=some (.tup xs)):jq K H (.ref a) (.type "tuple")
 | dK {a:Addr} {kvs:List (Key×V)} (e:H a=some (.dK kvs)):jq K H (.ref a) (.type "dict")
 | dT {a:Addr} {kvs:List (List Key×V)} (e:H a=some (.dT kvs)):jq K H (.ref a) (.type "dict")
 | ins {a C dx:Addr} {fs:List (Str×V)} (e:H a=some (.ins C dx fs)) (cl:WM K C) (ha:PySem.W.findIn K (.ref C) "__class__" = some (some (.builtin "object.__class__")))
   (hn:PySem.W.specialIn K (.builtin "object.__class__") "__get__" = some (some (.builtin "getset_descriptor.__get__"))) (htk:PySem.W.takesIn K (.builtin "object.__class__")=some true)
   (hm:PySem.W.mroIn K C (.type "object")=some true):jq K H (.ref a) (.ref C)
end
end L2
namespace L2
open PySem PySem.Spec PyProof.Rows
structure gA (k:Nat) (A:Around):Prop where
 hd:A.handled=none
 dp:A.depth+3*k+5<recursionLimit
 un:A.units+16*k+200<cLine
theorem gA.deeper {k:Nat}{A:Around}(r:gA (k+1) A) (env:Env):gA k (A.deeper env):=
 ⟨r.hd,by have:=r.dp;show A.depth+1+3*k+5<_;omega,by have:=r.un;show A.units+3+16*k+200<_;omega⟩
theorem gA.depth {k:Nat}{A:Around}(r:gA k A):A.depth<recursionLimit:=by have:=r.dp;omega
noncomputable def Uz:TA:=fun _ H Q=>Q [] H
noncomputable def Pu (ta:TE) (tr:TA):TA:=fun σ H Q=>ta σ H fun x H1=>tr σ H1 fun xs H2=>Q (x :: xs) H2
section
variable {X:Cx}{e:Expr}{es:List Expr}{te:TE}{t:TA}{pos:Pos}
theorem oG:PA X [] Uz:=fun _ _ _ _ H Q I h=>Calls.spliced_nil ⟨[],H,I,.nil,h⟩
theorem mT (ha:PE X e te) (hr:PA X es t) (hs:starEach (e :: es) X.env=(false,eval e X.env) :: starEach es X.env:=by rfl):PA X (e :: es) (Pu te t):=by
 intro pos pins s σ H Q I h
 rw [hs]
 show wpAny _ _ (spliced ((false,eval e X.env) :: backTo pos (starEach es X.env))) _ _ s
 refine Calls.spliced_cons (bM (ha pins s σ H _ I h) fun u s1 ⟨x,H1,I1,r1,q1⟩=>?_)
 exact bM (hr pos pins s1 σ H1 _ I1 q1) fun us s2 ⟨xs,H2,I2,r2,q2⟩=>⟨x :: xs,H2,I2,.cons r1 r2,q2⟩
noncomputable def UA (t:TA):TE:=fun σ H Q=>t σ H fun xs H1=>xs.length≤sizeLine∧∀ p,H1 p=none→Q (.ref p) (upd H1 p (.tup xs))
noncomputable def UB (t:TA):TE:=fun σ H Q=>t σ H fun xs H1=>xs.length≤sizeLine∧∀ p,H1 p=none→Q (.ref p) (upd H1 p (.lst xs))
theorem JP {x1}(h:PA X es t):PE X (.Tuple es x1 pos) (UA t):=by
 intro pins s σ H Q I hq
 refine wpAny_Tuple_spliced (bM (h pos pins s σ H _ I hq) fun us s1 ⟨xs,H1,I1,r,z,q⟩=>⟨by rw [←r.length];exact z,?_⟩)
 have hf:H1 s1.heap.objs.size=none:=I1.hok.fresh (Nat.le_refl _)
 refine ⟨.ref s1.heap.objs.size,upd H1 s1.heap.objs.size (.tup xs),I1.laid (t':=s1.toks) (fun b u e=>Heap.get?_push_of_some _ e) (Nat.le_refl _) ?_,rfl,q _ hf⟩
 exact ⟨z,us,r,⟨_,Heap.get?_push_size _ rfl,rfl,_,rfl⟩⟩
theorem JQ (h:PA X es t):PE X (.List es pos) (UB t):=by
 intro pins s σ H Q I hq
 refine wpAny_List_spliced (bM (h pos pins s σ H _ I hq) fun us s1 ⟨xs,H1,I1,r,z,q⟩=>⟨by rw [←r.length];exact z,?_⟩)
 have hf:H1 s1.heap.objs.size=none:=I1.hok.fresh (Nat.le_refl _)
 refine ⟨.ref s1.heap.objs.size,upd H1 s1.heap.objs.size (.lst xs),I1.laid (t':=s1.toks) (fun b u e=>Heap.get?_push_of_some _ e) (Nat.le_refl _) ?_,rfl,q _ hf⟩
 exact ⟨z,us,0,r,Heap.get?_push_size _ rfl⟩
end
abbrev Sp:=List V→Hp→VK→XK→Prop
abbrev lg:=List Env→Hp→Shared→XK→Value→Shared→Prop
structure xm (P:Program) (w:World) (K:PySem.W.Frag) (mg:Str→Option Value) (base:Heap) (A:Around) (outer:List Env) (s:Shared) (H:Hp):Prop where
 frames:A.frames=some outer
 mod:Mod K mg base
 bs:∀ b o,base.get? b=some o→s.heap.get? b=some o∧H b=none
 qQ:base.objs.size≤s.heap.objs.size
 iX:s.heap.FunFrames base outer
 sR:∀ b∈frs outer,H b=none
 hok:fQ P w H s.heap
 bare:AllBare s.gens
noncomputable def CE (outer:List Env) (P:Program) (w:World) (H:Hp) (s:Shared) (Q:VK) (u:Value) (s':Shared):Prop:=
 ∃ v H',s'.os=s.os∧AllBare s'.gens∧Un (frs outer) [] H H' s.heap s'.heap∧fQ P w H' s'.heap∧RelV v u∧Q v H'
noncomputable def CR (CX:lg) (outer:List Env) (P:Program) (w:World) (H:Hp) (s:Shared) (Q:VK) (E:XK) (r:Result) (s':Shared):Prop:=
 match r with
 | .ok (.ret u)=>CE outer P w H s Q u s'
 | .ok _=>False
 | .error e=>CX outer H s E e s'
structure iw (P:Program) (w:World) (K:PySem.W.Frag) (mg:Str→Option Value) (base:Heap) (CX:lg) (k:Nat) (f:Addr) (fd:FuncData) (ps:List Str) (sp:Sp):Prop where
 len:∀ vs H Q E,sp vs H Q E→vs.length=ps.length
 run:∀ (A:Around) (outer:List Env) (s:Shared) (H:Hp) (args:Args) (us:List Value) (vs:List V) (Q:VK) (E:XK),gA k A→xm P w K mg base A outer s H→BindsTo s fd args (ps.zip us)→Vals vs us→sp vs H Q E→
  codeAny (model P w) A (.call (.ref f) args) (CR CX outer P w H s Q E) s
section
variable {X:Cx}{pins:List (Addr×Obj)}{σ:St}{H:Hp}{s s':Shared}
theorem Inv.UC (I:Inv X pins σ H s):xm X.prog X.w X.K X.mg X.base X.A X.stack s H:=
 ⟨I.ok.frames,I.ok.mod,I.bs,Nat.le_trans I.ok.qQ I.sz,I.stack,I.vv,I.hok,I.bare⟩
theorem Inv.after {Q:VK}{u:Value}(I:Inv X pins σ H s) (h:CE X.stack X.prog X.w H s Q u s'):EP X pins σ Q u s':=by
 obtain ⟨v,H',os,bare,un,hok,r,q⟩:=h
 obtain ⟨hh,g,d,t,os'⟩:=s'
 obtain rfl:os'=s.os:=os
 exact ⟨v,H',I.call (h':=hh) (g':=g) (d':=d) (t':=t) (ch:=[]) un hok bare (fun b z=>absurd z (by simp)),r,q⟩
end
noncomputable def Pw (sp:Sp) (jr:List V) (E:XK) (t:TA):TE:=fun σ H Q=>t σ H fun vs H1=>sp (vs++jr) H1 Q E
noncomputable def Binds (K:PySem.W.Frag) (fd:FuncData) (ps:List Str) (ds:List Value):Prop:=
 ∀ (s:Shared) (us:List Value),K.In s.heap→(us++ds).length=ps.length→BindsTo s fd ⟨us,[]⟩ (ps.zip (us++ds))
theorem Binds.all {K:PySem.W.Frag}{fd:FuncData}{ps:List Str}(h:∀ us:List Value,us.length=ps.length→bindArgs fd ⟨us,[]⟩=pure (ps.zip us)):Binds K fd ps []:=fun s us _ hl=>by
 rw [List.append_nil] at hl ⊢
 exact .of_eq (h us hl)
noncomputable def Passes (CX:lg) (X:Cx) (E:XK):Prop:=∀ (pins:List (Addr×Obj)) (σ:St) (H:Hp) (s:Shared) (e:Value) (s':Shared),Inv X pins σ H s→CX X.stack H s E e s'→X.xe e s'
section
variable {X:Cx}{CX:lg}{k:Nat}{f C:Addr}{fd:FuncData}{ps:List Str}{sp:Sp}{jr:List V}{ds:List Value}{E:XK}{x m:Str}{p pos apos:Pos}{e o:Expr}{es:List Expr}{ta:TE}{t:TA}
theorem JR {pins:List (Addr×Obj)}{σ:St}{H:Hp}{s:Shared}{Q:VK}{us:List Value}{vs:List V}(F:iw X.prog X.w X.K X.mg X.base CX k f fd ps sp) (hr:gA k X.A) (hb:Binds X.K fd ps ds) (hd:Vals jr ds) (hx:Passes CX X E)
  (I:Inv X pins σ H s) (r:Vals vs us) (h:sp (vs++jr) H Q E):wpAny (model X.prog X.w) X.A (call (.ref f) us) (EP X pins σ Q) X.xe s:=by
 have r2:Vals (vs++jr) (us++ds):=r.append hd
 have hl:(us++ds).length=ps.length:=by rw [←r2.length];exact F.len _ _ _ _ h
 refine wpAny_call (codeAny_mono (F.run X.A X.stack s H ⟨us,[]⟩ (us++ds) (vs++jr) Q E hr I.UC (hb s us I.sS hl) r2 h) fun r s' hq=>?_)
 cases r with
 | error e=>exact hx pins σ H s e s' I hq
 | ok fl=>
  cases fl with
  | ret u=>exact I.after hq
  | next=>exact False.elim hq
  | brk=>exact False.elim hq
  | cont=>exact False.elim hq
theorem GU (F:iw X.prog X.w X.K X.mg X.base CX k f fd ps sp) (hr:gA k X.A) (hg:Gl X x) (hm:X.mg x=some (.ref f)) (hk:PySem.W.keepIn X.K (.ref f)=true) (hb:Binds X.K fd ps ds) (hd:Vals jr ds) (hx:Passes CX X E)
  (ha:PA X (e :: es) t) (hdb:(x==("__debug__" : Str))=false:=by decide) (he:starEach (e :: es) X.env=(false,eval e X.env) :: starEach es X.env:=by rfl) (hpl:(backTo pos (starEach es X.env)).any (·.1)=false:=by rfl) :
  PE X (.Call (.Name x p) (e :: es) [] pos) (Pw sp jr E t):=by
 intro pins s σ H Q I h
 refine wpAny_Call_Name_kw (GK I hg hm ?_ hdb)
 refine PySem.W.callWith_K (h₀:=X.base) I.ok.mod.Em hk (bM (ha pos pins s σ H _ I h) fun us s1 ⟨vs,H1,I1,r,q⟩=>⟨I1.sS,?_⟩) he hpl
 exact JR F hr hb hd hx I1 r q
structure Mk (K:PySem.W.Frag) (C f:Addr):Prop where
 makes:PySem.W.makesIn K C=true
 init:PySem.W.findIn K (.ref C) "__init__" = some (some (.ref f))
 fn:PySem.W.isFn K (.ref f)=true
 kp:PySem.W.keepIn K (.ref C)=true
end
section
variable {X:Cx}{CX:lg}{k:Nat}{f C:Addr}{fd:FuncData}{ps ks:List Str}{sp:Sp}{E:XK}{x m:Str}{p pos apos kpos:Pos}{e o:Expr}{es:List Expr}{kws:List Keyword}{te ta:TE}{t tk:TA}{nm:Option Str}
structure WN (K:PySem.W.Frag) (fd:FuncData) (ps ks:List Str) (g:List Value→List Value→List Value) (gV:List V→List V→List V):Prop where
 to:∀ (s:Shared) (us ws:List Value),K.In s.heap→(g us ws).length=ps.length→BindsTo s fd ⟨us,ks.zip ws⟩ (ps.zip (g us ws))
 rel:∀ {vs:List V} {us:List Value} {zs:List V} {ws:List Value},Vals vs us→Vals zs ws→Vals (gV vs zs) (g us ws)
variable {g:List Value→List Value→List Value}{gV:List V→List V→List V}
end
structure bG (N P:List Str) (sc:Scope):Prop where
 kind:sc.kind=.function
 co:sc.isCoroutine=false
 gen:sc.isGenerator=false
 nd:N.Nodup
 pre:N.take P.length=P
 par:∀ x∈P,sc.names.lookup x=some .local∨sc.names.lookup x=some .cell
 JU:∀ y∈sc.names,y.2≠.free
theorem qV {kindOf:Str→Option NameKind}{x:Str}:∀ {binds:List (Str×Value)}{m:Str→Option Value},(∀ v,(x,v)∉binds)→bindL kindOf binds m x=m x
 | [],_,_=>rfl
 | (n,v) :: r,m,h=>by
  unfold bindL
  rw [qV fun w hw=>h w (List.mem_cons_of_mem _ hw)]
  split
  ·have:x≠n:=by rintro rfl;exact h v List.mem_cons_self
   simp [this]
  ·rfl
theorem qW {kindOf:Str→Option NameKind}{x:Str}:∀ {binds:List (Str×Value)}{m:Str→Option Value},(∀ v,(x,v)∉binds)→bindC kindOf binds m x=m x
 | [],_,_=>rfl
 | (n,v) :: r,m,h=>by
  unfold bindC
  rw [qW fun w hw=>h w (List.mem_cons_of_mem _ hw)]
  split
  ·rfl
  ·have:x≠n:=by rintro rfl;exact h v List.mem_cons_self
   simp [this]
theorem qX {kindOf:Str→Option NameKind}{x:Str}{v:Value}:∀ {P:List Str}{vs:List Value}{i:Nat}{m:Str→Option Value},P.Nodup→P[i]?=some x→vs[i]?=some v→kindOf x=some .local→
  bindL kindOf (P.zip vs) m x=some v
 | [],_,_,_,_,h,_,_=>by simp at h
 | _ :: _,[],_,_,_,_,h,_=>by simp at h
 | p :: P,w :: vs,0,m,nd,h1,h2,hk=>by
  simp at h1 h2;subst h1;subst h2
  show bindL kindOf ((p,w) :: P.zip vs) m p=_
  unfold bindL
  rw [qV fun v hv=>(List.nodup_cons.mp nd).1 (List.of_mem_zip hv).1,if_pos hk]
  simp
 | p :: P,w :: vs,i+1,m,nd,h1,h2,hk=>by
  show bindL kindOf ((p,w) :: P.zip vs) m x=_
  unfold bindL
  exact qX (i:=i) (List.nodup_cons.mp nd).2 (by simpa using h1) (by simpa using h2) hk
theorem qY {kindOf:Str→Option NameKind}{x:Str}{v:Value}:∀ {P:List Str}{vs:List Value}{i:Nat}{m:Str→Option Value},P.Nodup→P[i]?=some x→vs[i]?=some v→kindOf x≠some .local→
  bindC kindOf (P.zip vs) m x=some v
 | [],_,_,_,_,h,_,_=>by simp at h
 | _ :: _,[],_,_,_,_,h,_=>by simp at h
 | p :: P,w :: vs,0,m,nd,h1,h2,hk=>by
  simp at h1 h2;subst h1;subst h2
  show bindC kindOf ((p,w) :: P.zip vs) m p=_
  unfold bindC
  rw [qW fun v hv=>(List.nodup_cons.mp nd).1 (List.of_mem_zip hv).1,if_neg hk]
  simp
 | p :: P,w :: vs,i+1,m,nd,h1,h2,hk=>by
  show bindC kindOf ((p,w) :: P.zip vs) m x=_
  unfold bindC
  exact qY (i:=i) (List.nodup_cons.mp nd).2 (by simpa using h1) (by simpa using h2) hk
noncomputable def start (N:List Str) (vs:List V):St:=vs.map some++List.replicate (N.length - vs.length) none
noncomputable def nP (CX:lg) (P:Program) (w:World) (K:PySem.W.Frag) (mg:Str→Option Value) (base:Heap) (N:List Str) (qual:Str) (scope:Scope) (f:Addr) (cd:Value) (A:Around) (outer:List Env) (s:Shared) (H:Hp) (E:XK):Cx where
 prog:=P
 w:=w
 K:=K
 mg:=mg
 base:=base
 A:=A.deeper (envOfC qual scope s.heap.objs.size f cd)
 N:=N
 s₀:=s
 H₀:=H
 env:=envOfC qual scope s.heap.objs.size f cd
 outer:=outer
 stack:=envOfC qual scope s.heap.objs.size f cd :: outer
 ex:=[]
 calm:=true
 fn:=fun _=>true
 pn:=[]
 xe:=fun e s'=>wpAny (model P w) (A.deeper (envOfC qual scope s.heap.objs.size f cd)) (leaving (envOfC qual scope s.heap.objs.size f cd) e) (fun _ s''=>CX outer H s E e s'') (fun e' s''=>CX outer H s E e' s'') s'
theorem sZ {sc:Scope}{n:Nat}{x:Str}(h:sc.names.lookup x=some .cell):∃ c,(cellsFrom n sc.names []).lookup x=some c:=by
 have q:=PySem.W.cellsFrom_some sc.names n [] (.inl h)
 exact Option.isSome_iff_exists.mp q
theorem zc {CX:lg}{P:Program}{w:World}{K:PySem.W.Frag}{mg:Str→Option Value}{base:Heap}{N ps:List Str}{qual:Str}{scope:Scope}{f:Addr}{cd:Value}{A:Around}{outer:List Env}{s s1:Shared}{H:Hp}{E:XK}{us:List Value}{vs:List V}
  (S:bG N ps scope) (hd:A.handled=none) (e0:xm P w K mg base A outer s H) (hl:vs.length=ps.length) (r:Vals vs us)
  (x:InCallC s s.heap.objs.size (bindL (envOfC qual scope s.heap.objs.size f cd).kindOf (ps.zip us) fun _=>none) (cellsFrom (s.heap.objs.size+1) scope.names []) (bindC (envOfC qual scope s.heap.objs.size f cd).kindOf (ps.zip us) fun _=>none) s1) :
  Inv (nP CX P w K mg base N qual scope f cd A outer s H E) [] (start N vs) H s1:=by
 have hpl:ps.length≤N.length:=by have:=congrArg List.length S.pre;rw [List.length_take] at this;omega
 obtain ⟨h1,tk,rfl,hk⟩:=x.done
 have zd:∀ b:Addr,b∉(nP CX P w K mg base N qual scope f cd A outer s H E).ex:=fun b z=>absurd (show b∈([]:List Addr) from z) (by simp)
 refine ⟨⟨e0.mod,S.kind,rfl,rfl,Nat.le_refl _,fun y z c h1 h2=>?_,fun y hy=>?_,fun y c _ h=>?_,fun _=>hd,Around.frames_deeper e0.frames,.inr ⟨rfl,rfl⟩,fun b z=>absurd z (zd b),e0.bs,e0.qQ,fun b _ _=>zd b,fun b z=>absurd z (zd b),e0.iX,e0.sR⟩,
  rfl,e0.bare,Un.kept hk,⟨_,x.toInCall.ns,fun i y v h1 h2 h3=>?_⟩,fun y c h=>⟨_,x.cell y c h⟩,e0.hok.fresh (Nat.le_refl _),fun y c h=>?_,fun p hp=>absurd (show p∈([]:List (Addr×Obj)) from hp) (by simp),e0.hok.kept hk,?_⟩
 ·exact name_of_addr x.apart (PySem.mem_of_lookup h1) (PySem.mem_of_lookup h2)
 ·have hy:scope.names.lookup y=some .cell∨scope.names.lookup y=some .free:=hy
  rcases hy with hy | hy
  ·exact sZ hy
  ·exact absurd rfl (S.JU _ (PySem.mem_of_lookup hy))
 ·exact Nat.le_of_lt (x.above y c (PySem.mem_of_lookup h))
 ·have hi:i<vs.length:=by
   unfold start at h2
   by_cases hi:i<vs.length
   ·exact hi
   ·rw [List.getElem?_append_right (by simpa using hi)] at h2
    rw [List.getElem?_replicate] at h2
    split at h2 <;> cases h2
  have ha:vs[i]?=some v:=by
   unfold start at h2
   rw [List.getElem?_append_left (by simpa using hi),List.getElem?_map] at h2
   cases e:vs[i]? with
   | none=>rw [e] at h2;cases h2
   | some a=>rw [e] at h2;cases h2;rfl
  obtain ⟨u,hu,rv⟩:=r.get ha
  have hp:ps[i]?=some y:=by
   rw [←S.pre,List.getElem?_take_of_lt (by omega)];exact h1
  have Rw:ps.Nodup:=by rw [←S.pre];exact S.nd.sublist (List.take_sublist _ _)
  refine ⟨u,rv,?_⟩
  rcases S.par y (List.mem_of_getElem? hp) with k | k
  ·exact .inl ⟨k,qX Rw hp hu k⟩
  ·obtain ⟨c,e⟩:=sZ (n:=s.heap.objs.size+1) k
   refine .inr ⟨.inl k,c,e,?_⟩
   have q:=x.cell y c e
   rw [qY Rw hp hu (by show scope.names.lookup y≠_;rw [k];decide)] at q
   exact q
 ·exact e0.hok.fresh (Nat.le_of_lt (x.above y c (PySem.mem_of_lookup h)))
 ·unfold start
  show _=N.length
  rw [List.length_append,List.length_map,List.length_replicate]
  omega
theorem Px {CX:lg}{P:Program}{w:World}{K:PySem.W.Frag}{mg:Str→Option Value}{base:Heap}{k:Nat}{f:Addr}{name qual:Str}{params:Arguments}{body:List Stmt}{scope:Scope}{dV kV doc pm cdv ct oc:Value}{an od:Option Addr}
  {osl:Array (Option Value)} {N ps:List Str} {sp:Sp} (lk:K.lookup f=some ⟨oc,od,.func (PySem.W.fnOf name qual params body scope dV kV doc pm an cdv ct),osl⟩) (hcd:PySem.W.codeIn K cdv qual=true) (S:bG N ps scope)
  (len:∀ vs H Q E,sp vs H Q E→vs.length=ps.length)
  (hbody:∀ (A:Around) (outer:List Env) (s:Shared) (H:Hp) (vs:List V) (Q:VK) (E:XK),gA k (A.deeper (envOfC qual scope s.heap.objs.size f cdv))→sp vs H Q E→
   ∃ t,ir (nP CX P w K mg base N qual scope f cdv A outer s H E) body t∧t { nx:=fun _ H'=>Q .bH H',rt:=Q } (start N vs) H) :
  iw P w K mg base CX (k+1) f (PySem.W.fnOf name qual params body scope dV kV doc pm an cdv ct) ps sp:=by
 refine ⟨len,fun A outer s H args us vs Q E hr e0 hb r jW=>?_⟩
 have hl:=len _ _ _ _ jW
 have KX:K.In s.heap:=e0.mod.Em.keeps fun b o e=>(e0.bs b o e).1
 have lim:s.heap.NoLimit:=e0.mod.nolimit.keeps fun b o e=>(e0.bs b o e).1
 have hkind:∀ y∈ps.zip us,scope.names.lookup y.1=some .local∨(scope.names.lookup y.1=some .cell∧((cellsFrom (s.heap.objs.size+1) scope.names []).lookup y.1).isSome=true):=fun ⟨n,v⟩ hy=>by
  rcases S.par n (List.of_mem_zip hy).1 with q | q
  ·exact .inl q
  ·exact .inr ⟨q,PySem.W.cellsFrom_some _ _ _ (.inl q)⟩
 refine codeAny_call_function hr.depth (KX _ _ lk) rfl S.co S.gen rfl (PySem.W.codeRec_of KX hcd) (hb _ _ _ _ ?_)
 refine wpAny_newFunctionEnv_cells S.kind hkind fun env he s1 x=>?_
 subst he
 refine ⟨lim.keeps x.toInCall.keep,codeAny_func ?_⟩
 obtain ⟨t,ht,hq⟩:=hbody A outer s H vs Q E (hr.deeper _) jW
 have I:Inv (nP CX P w K mg base N qual scope f cdv A outer s H E) [] (start N vs) H s1:=zc S hr.hd e0 hl r x
 refine wpAny_mono (ht [] s1 (start N vs) H _ I hq) (fun fl s' hs=>?_) fun e s' hs=>hs
 have fin:∀ {σ':St} {H':Hp} {v:V} {u:Value},Inv (nP CX P w K mg base N qual scope f cdv A outer s H E) [] σ' H' s'→RelV v u→Q v H'→CE outer P w H s Q u s':=
  fun {σ' H' v u} J rv q=>⟨v,H',J.os,J.bare,J.base,J.hok,rv,q⟩
 cases fl with
 | ret u=>
  obtain ⟨v,σ',H',J,rv,q⟩:=hs
  exact fin J rv q
 | next=>
  obtain ⟨σ',H',J,q⟩:=hs
  exact fin (v:=V.bH) (u:=Value.none) J rfl q
 | brk=>
  obtain ⟨_,_,_,q⟩:=hs
  exact False.elim q
 | cont=>
  obtain ⟨_,_,_,q⟩:=hs
  exact False.elim q
end L2
namespace L2
open PySem PySem.Spec PyProof.Rows
section
variable {X:Cx}{x:Str}{p pos:Pos}{e:Expr}{es:List Expr}{t:TA}{id T:String}{r:List V→Hp→VK→Prop}
noncomputable def JV (r:List V→Hp→VK→Prop) (t:TA):TE:=fun σ H Q=>t σ H fun vs H1=>r vs H1 Q
theorem BC (hc:gw X (.builtin id) r) (hg:Gl X x) (hm:X.mg x=none) (hv:bootBuiltins x=some (.builtin id)) (ha:PA X (e :: es) t) (hn:x≠"__name__" :=by decide) (hdb:(x==("__debug__" : Str))=false:=by decide)
  (he:starEach (e :: es) X.env=(false,eval e X.env) :: starEach es X.env:=by rfl) (hpl:(backTo pos (starEach es X.env)).any (·.1)=false:=by rfl):PE X (.Call (.Name x p) (e :: es) [] pos) (JV r t):=by
 intro pins s σ H Q I h
 refine wpAny_Call_Name_kw (gU I hg hm hv ?_ hn hdb)
 exact PyProof.Rows.callWith_builtin1 (bM (ha pos pins s σ H _ I h) fun us s1 ⟨vs,H1,I1,r1,q1⟩=>hc pins s1 σ H1 vs us Q I1 r1 q1) he hpl
theorem ze (hc:gw X (.type T) r) (hg:Gl X x) (hm:X.mg x=none) (hv:bootBuiltins x=some (.type T)) (ha:PA X (e :: es) t) (hn:x≠"__name__" :=by decide) (hdb:(x==("__debug__" : Str))=false:=by decide)
  (he:starEach (e :: es) X.env=(false,eval e X.env) :: starEach es X.env:=by rfl) (hpl:(backTo pos (starEach es X.env)).any (·.1)=false:=by rfl):PE X (.Call (.Name x p) (e :: es) [] pos) (JV r t):=by
 intro pins s σ H Q I h
 refine wpAny_Call_Name_kw (gU I hg hm hv ?_ hn hdb)
 exact PyProof.Rows.callWith_type1 (bM (ha pos pins s σ H _ I h) fun us s1 ⟨vs,H1,I1,r1,q1⟩=>hc pins s1 σ H1 vs us Q I1 r1 q1) he hpl
end
end L2
namespace HT
open PySem PyProof.Rows
section
open PySem.SeqAt
open PySem.AutoSeq1 (wpAny_loadPart')
open PySem.MeetsSeq PySem.MeetsSeq2 PySem.MeetsSeq3
end
section
variable {prog:Program}{w:World}{A:Around}{E:Value→Shared→Prop}{s:Shared}
theorem GV {t b:Addr}{vs ws:List Value}{Q:Value→Shared→Prop}(ht:IsTup s.heap t vs.toArray) (hb:IsTup s.heap b ws.toArray) (hv:vs≠[])
  (h1:ws=[]→Q (.ref t) s) (h2:ws≠[]→Q (.ref s.heap.objs.size) { s with heap:=s.heap.push { cls:=.type "tuple",data:=.seq (vs++ws).toArray }})
  (hsz:vs.length+ws.length≤sizeLine):wpAny (model prog w) A (binaryOp .Add (.ref t) (.ref b)) Q E s:=by
 obtain ⟨⟨cls,dd,data,sl⟩,ho,hc,n,hd⟩:=id ht
 obtain ⟨⟨UD,dd2,data2,sl2⟩,ho2,hc2,n2,hd2⟩:=id hb
 simp only at hc hd hc2 hd2
 subst hc hd hc2 hd2
 have e:vs.toArray++ws.toArray=(vs++ws).toArray:=by simp
 by_cases hw:ws=[]
 ·exact concat_meets ⟨_,ho,rfl⟩ ⟨_,ho2,rfl⟩ noFill_tuple_add seq_tuple_add PySem.F.slot_tuple_add PySem.F.entry_tuple_add (PySem.F.args_tuple_add_2 _ _)
   (tuple_addW1 t b vs.toArray ws.toArray n n2 dd dd2 sl sl2 (by simpa using hv) (by simp [hw])) ⟨ho,ho2,h1 hw⟩
 ·refine concat_meets ⟨_,ho,rfl⟩ ⟨_,ho2,rfl⟩ noFill_tuple_add seq_tuple_add PySem.F.slot_tuple_add PySem.F.entry_tuple_add (PySem.F.args_tuple_add_2 _ _)
   (tuple_addW2 t b vs.toArray ws.toArray n n2 dd dd2 sl sl2 (by simpa using hv) (by simpa using hw) (by rw [List.size_toArray,List.size_toArray];exact hsz)) ⟨ho,ho2,?_⟩
  rw [e]
  exact h2 hw
noncomputable def aS (n d:Nat):Option Int→Nat
 | none=>d
 | some v=>if v<0 then (v+(n:Int)).toNat else min v.toNat n
theorem tu (n d:Nat) (hd:d≤n) (o:Option Int):aS n d o≤n:=by
 cases o with
 | none=>exact hd
 | some v=>
  show (if v<0 then (v+(n:Int)).toNat else min v.toNat n)≤n
  by_cases hv:v<0
  ·rw [if_pos hv];omega
  ·rw [if_neg hv];exact Nat.min_le_right _ _
theorem vD (v:Int) (n d:Nat):(if v<0 then max (v+(n:Int)) 0 else min v (n:Int))=((aS n d (some v):Nat):Int):=by
 show (if v<0 then max (v+(n:Int)) 0 else min v (n:Int))=(((if v<0 then (v+(n:Int)).toNat else min v.toNat n):Nat):Int)
 by_cases hv:v<0
 ·simp only [if_pos hv];omega
 ·simp only [if_neg hv];omega
theorem xo (lo hi:Option Int) (n:Nat):Builtin.Slice.sliceAdjust lo hi 1 (n:Int)=(((aS n 0 lo:Nat):Int),((aS n n hi:Nat):Int)):=by
 have h1:¬ ((1:Int)<0):=by omega
 unfold Builtin.Slice.sliceAdjust
 simp only [h1,if_false]
 refine Prod.ext ?_ ?_
 ·cases lo with
  | none=>rfl
  | some v=>exact vD v n 0
 ·cases hi with
  | none=>rfl
  | some v=>exact vD v n n
theorem xq (i j:Nat):Builtin.Slice.slicePlaces (i:Int) (j:Int) 1=j - i:=by
 unfold Builtin.Slice.slicePlaces
 have h1:(1:Int) > 0:=by omega
 simp only [h1,if_true,Int.ediv_one]
 split <;> omega
theorem gX {v:Value}{o:Option Int}{Q:Option Int→Shared→Prop}(p:IsPart v o) (h:Q o s):wpAny (model prog w) A (Builtin.Slice.slicePartIndex v) Q E s:=by
 cases p with
 | none=>exact slicePart_none h
 | int i t=>exact slicePart_int h
theorem ju {sl:Addr}{vl vu:Value}{lo hi:Option Int}{n:Nat}{Q:Int×Int×Nat→Shared→Prop}(hs:s.heap.IsSliceOf sl vl vu .none)(pl:IsPart vl lo)(pu:IsPart vu hi)
  (h:Q (((aS n 0 lo:Nat):Int),1,aS n n hi - aS n 0 lo) s):wpAny (model prog w) A (Builtin.Slice.sliceApplied (.ref sl) (pure (n:Int))) Q E s:=by
 obtain ⟨os,hos,hcs,hds⟩:=id hs
 unfold Builtin.Slice.sliceApplied Builtin.Slice.sliceFields
 refine wpAny_bind (wpAny_bind (wpAny_field hos hds (x:=vl) rfl (wpAny_bind (wpAny_field hos hds (x:=vu) rfl (wpAny_bind (wpAny_field hos hds (x:=.none) rfl (wpAny_pure ?_)))))))
 refine wpAny_bind (slicePart_none ?_)
 show wpAny _ _ (if ((1:Int)==0)=true then _ else _) _ _ s
 rw [if_neg (by decide)]
 refine wpAny_bind (gX pl (wpAny_bind (gX pu (wpAny_bind (wpAny_pure ?_)))))
 show wpAny _ _ (match Builtin.Slice.sliceAdjust lo hi 1 (n:Int) with | (lo,hi)=>pure (lo,(1:Int),Builtin.Slice.slicePlaces lo hi 1)) _ _ s
 rw [xo lo hi n]
 show wpAny _ _ (pure (((aS n 0 lo:Nat):Int),(1:Int),Builtin.Slice.slicePlaces ((aS n 0 lo:Nat):Int) ((aS n n hi:Nat):Int) 1)) _ _ s
 rw [xq]
 exact wpAny_pure h
theorem BD (xs:Array Value) (i k:Nat):((List.range k).filterMap fun (m:Nat)=>xs[((i:Int)+(m:Int)*1).toNat]?).toArray=((xs.toList.drop i).take k).toArray:=by
 have e:(fun (m:Nat)=>xs[((i:Int)+(m:Int)*1).toNat]?)=fun m=>xs[i+m]?:=by
  funext m
  have:((i:Int)+(m:Int)*1).toNat=i+m:=by omega
  rw [this]
 rw [e]
 have:=pick_run xs i k
 rw [List.filterMap_map] at this
 have e2:((fun x=>xs[x]?) ∘ fun x=>i+x)=fun m=>xs[i+m]?:=rfl
 rw [e2] at this
 rw [this]
theorem nv {t sl:Addr}{items:Array Value}{vl vu:Value}{lo hi:Option Int}{Q:Value→Shared→Prop}(ht:IsTup s.heap t items)(hs:s.heap.IsSliceOf sl vl vu .none)(pl:IsPart vl lo)(pu:IsPart vu hi)
  (hw:¬ (aS items.size 0 lo=0∧aS items.size items.size hi=items.size))
  (h:Q (.ref s.heap.objs.size) { s with heap:=s.heap.push { cls:=.type "tuple",data:=.seq ((items.toList.drop (aS items.size 0 lo)).take (aS items.size items.size hi - aS items.size 0 lo)).toArray }})
  (hsz:items.size≤sizeLine):wpAny (model prog w) A (getItem (.ref t) (.ref sl)) Q E s:=by
 have jd:sizeOk (.seq ((items.toList.drop (aS items.size 0 lo)).take (aS items.size items.size hi - aS items.size 0 lo)).toArray):=by
  show ((items.toList.drop (aS items.size 0 lo)).take (aS items.size items.size hi - aS items.size 0 lo)).toArray.size≤sizeLine
  rw [List.size_toArray,List.length_take,List.length_drop,Array.length_toList]
  omega
 have hj:aS items.size items.size hi≤items.size:=tu _ _ (Nat.le_refl _) hi
 obtain ⟨os,hos,hcs,hds⟩:=id hs
 have zf:s.TypeIs (.ref sl) "slice" :=⟨os,hos,hcs⟩
 unfold getItem
 try with_reducible refine wpAny_holding ?_
 first | refine wpAny_bind (wpAny_pure ?_) | skip
 refine wpAny_bind (wpAny_sequenceKey ht.typeIs (by decide) ?_)
 refine wpAny_bind (wpAny_callSpecial?_slot (name:=Str.ofString "__getitem__") ht.typeIs PyProof.Rows.slot_tuple_getitem
  (wpAny_call_entry PyProof.Rows.slot_tuple_getitem ht.typeIs entry_tuple_getitem ?_ (args_tuple_getitem _ _)))
 show wpAny _ _ (Builtin.Tuple.tupleItemsOf (.ref t) >>= _) _ _ s
 refine wpAny_bind (tupleItemsOf_ ht ?_)
 refine wpAny_bind (wpAny_typeOf zf ?_)
 rw [if_pos (by decide)]
 refine wpAny_bind (ju hs pl pu ?_)
 have hno:¬ ((((aS items.size 0 lo:Nat):Int)==0&&(1:Int)==1&&(aS items.size items.size hi - aS items.size 0 lo)==items.size)=true):=by
  intro q
  rw [Bool.and_eq_true,Bool.and_eq_true] at q
  have q1:((aS items.size 0 lo:Nat):Int)=0:=eq_of_beq q.1.1
  have q2:aS items.size items.size hi - aS items.size 0 lo=items.size:=eq_of_beq q.2
  exact hw ⟨by omega,by omega⟩
 show wpAny _ _ (if (((aS items.size 0 lo:Nat):Int)==0&&(1:Int)==1&&(aS items.size items.size hi - aS items.size 0 lo)==items.size)=true then _ else _) _ _ s
 rw [if_neg hno,BD]
 first
  | exact wpAny_bind (m:=Builtin.Tuple.tupleExact _) (wpAny_newObj_type (wpAny_pure ⟨_,rfl,wpAny_pure h⟩) jd)
  | exact wpAny_bind (m:=Builtin.Tuple.tupleExact _) (wpAny_newObj_type (wpAny_bind (wpAny_pure (wpAny_pure ⟨_,rfl,wpAny_pure h⟩))) jd)
  | exact wpAny_bind (wpAny_bind (m:=Builtin.Tuple.tupleExact _) (wpAny_newObj_type (wpAny_pure (wpAny_pure ⟨_,rfl,wpAny_pure h⟩)) jd))
  | exact wpAny_bind (wpAny_bind (m:=Builtin.Tuple.tupleExact _) (wpAny_newObj_type (wpAny_pure ⟨_,rfl,wpAny_pure h⟩) jd))
end
end HT
namespace L2
open PySem PySem.Spec PyProof.Rows
abbrev TO:=St→Hp→(Option Int→Hp→Prop)→Prop
noncomputable def PO (X:Cx) (e:Option Expr) (t:TO):Prop:=
 ∀ (pins:List (Addr×Obj)) (s:Shared) (σ:St) (H:Hp) (Q:Option Int→Hp→Prop),Inv X pins σ H s→t σ H Q→
  wpAny (model X.prog X.w) X.A (evalPart e X.env) (fun u s'=>∃ o H',Inv X pins σ H' s'∧IsPart u o∧Q o H') X.xe s
noncomputable def GW:TO:=fun _ H Q=>Q none H
noncomputable def Py (t:TE):TO:=fun σ H Q=>t σ H fun x H1=>∃ i,x=.int i∧Q (some i) H1
section
variable {X:Cx}{e:Expr}{te:TE}{lo hi:Option Expr}{tl th:TO}{pos p2:Pos}
theorem GX:PO X none GW:=by
 intro pins s σ H Q I h
 rw [evalPart_none]
 exact wpAny_pure ⟨none,H,I,.none,h⟩
theorem vE (h:PE X e te):PO X (some e) (Py te):=by
 intro pins s σ H Q I hw
 rw [evalPart_some]
 refine bM (h pins s σ H _ I hw) fun u s1 ⟨x,H1,I1,r1,q1⟩=>?_
 obtain ⟨i,rfl,q⟩:=q1
 obtain ⟨t,rfl⟩:=r1
 exact ⟨some i,H1,I1,.int i t,q⟩
noncomputable def jX (X:Cx) (r:V→Option Int→Option Int→Hp→VK→Prop):Prop:=
 ∀ (pins:List (Addr×Obj)) (s:Shared) (σ:St) (H:Hp) (x:V) (v vl vu:Value) (lo hi:Option Int) (sl:Addr) (Q:VK),Inv X pins σ H s→RelV x v→s.heap.IsSliceOf sl vl vu .none→IsPart vl lo→IsPart vu hi→r x lo hi H Q→
  ∃ T id,typeLookup (.type T) "__getitem__" = pure (some (.builtin id))∧s.TypeIs v T∧wpAny (model X.prog X.w) X.A (getItem v (.ref sl)) (EP X pins σ Q) X.xe s
noncomputable def WO (r:V→Option Int→Option Int→Hp→VK→Prop) (te:TE) (tl th:TO):TE:=fun σ H Q=>te σ H fun x H1=>tl σ H1 fun l H2=>th σ H2 fun u H3=>r x l u H3 Q
theorem BE {r:V→Option Int→Option Int→Hp→VK→Prop}(hr:jX X r) (he:PE X e te) (hl:PO X lo tl) (hu:PO X hi th):PE X (.Subscript e (.Slice lo hi none p2) pos) (WO r te tl th):=by
 intro pins s σ H Q I h
 refine Subscript_ (bM (he pins s σ H _ I h) fun v s1 ⟨x,H1,I1,r1,q1⟩=>?_)
 refine wpAny_Slice (bM (hl pins s1 σ H1 _ I1 q1) fun vl s2 ⟨l,H2,I2,pl,q2⟩=>bM (hu pins s2 σ H2 _ I2 q2) fun vu s3 ⟨u,H3,I3,pu,q3⟩=>?_)
 rw [evalPart_none]
 refine wpAny_pure ?_
 have I4:Inv X pins σ H3 { s3 with heap:=s3.heap.push { cls:=.type "slice",data:=.fields #[vl,vu,.none]}}:=I3.kept (t':=s3.toks) fun b ob q=>Heap.get?_push_of_some _ q
 obtain ⟨T,id,hT,ht,hg⟩:=hr pins { s3 with heap:=s3.heap.push { cls:=.type "slice",data:=.fields #[vl,vu,.none]}} σ H3 x v vl vu l u s3.heap.objs.size Q I4 r1 (Heap.IsSliceOf.new ..) pl pu q3
 show wpAny (model X.prog X.w) X.A (subscriptTail e (.Slice lo hi none p2) v (.ref s3.heap.objs.size)) (EP X pins σ Q) X.xe { s3 with heap:=s3.heap.push { cls:=.type "slice",data:=.fields #[vl,vu,.none]}}
 exact tail_any (ops:=[.ref s3.heap.objs.size,v]) ht hT hg (by with_unfolding_all rfl)
noncomputable def lK (xs:List V) (lo hi:Option Int):List V:=(xs.drop (HT.aS xs.length 0 lo)).take (HT.aS xs.length xs.length hi - HT.aS xs.length 0 lo)
theorem nA (xs:List V) (lo hi:Option Int):(lK xs lo hi).length≤xs.length:=by
 unfold lK
 rw [List.length_take,List.length_drop]
 omega
noncomputable def UE (K:PySem.W.Frag):V→Option Int→Option Int→Hp→VK→Prop:=fun x lo hi H Q=>∃ a xs,x=.ref a∧dG K H a xs∧
 ¬ (HT.aS xs.length 0 lo=0∧HT.aS xs.length xs.length hi=xs.length)∧∀ p,H p=none→Q (.ref p) (upd H p (.tup (lK xs lo hi)))
theorem JX:jX X (UE X.K):=by
 intro pins s σ H x v vl vu lo hi sl Q I rx hs pl pu h
 obtain ⟨a,xs,rfl,hx,hw,q⟩:=h
 cases rx
 obtain ⟨its,r,ht,hz⟩:=I.tuple hx
 have hlen:its.toArray.size=xs.length:=by rw [List.size_toArray];exact r.length.symm
 refine ⟨"tuple",_,PyProof.Rows.slot_tuple_getitem.lookup,ht.typeIs,?_⟩
 refine HT.nv ht hs pl pu (by rw [hlen];exact hw) ?_ (by rw [hlen];exact hz)
 rw [hlen]
 refine ⟨.ref s.heap.objs.size,_,I.laid (t':=s.toks) (o:=.tup (lK xs lo hi)) (fun b ob q=>Heap.get?_push_of_some _ q) (Nat.le_refl _) ?_,rfl,q _ (I.hok.fresh (Nat.le_refl _))⟩
 exact ⟨Nat.le_trans (nA xs lo hi) hz,_,(r.drop (HT.aS xs.length 0 lo)).take (HT.aS xs.length xs.length hi - HT.aS xs.length 0 lo),IsTup.new _ _⟩
noncomputable def Pz (K:PySem.W.Frag):R2:=fun x y H Q=>∃ a b xs ys,x=.ref a∧y=.ref b∧dG K H a xs∧dG K H b ys∧xs≠[]∧xs.length+ys.length≤sizeLine∧
 (ys=[]→Q (.ref a) H)∧(ys≠[]→∀ p,H p=none→Q (.ref p) (upd H p (.tup (xs++ys))))
theorem Vals.qf {xs:List V}{us:List Value}(r:Vals xs us):us=[]↔xs=[]:=by
 cases r with
 | nil=>simp
 | cons _ _=>simp
theorem GY:dS X (binaryOp .Add) (Pz X.K):=by
 intro pins s σ H x y v u Q I rx ry h
 obtain ⟨a,b,xs,ys,rfl,rfl,ha,hb,hx,hz,q1,q2⟩:=h
 cases rx
 cases ry
 obtain ⟨its,r1,p1,_⟩:=I.tuple ha
 obtain ⟨its2,r2,p2,_⟩:=I.tuple hb
 refine HT.GV p1 p2 (fun z=>hx (r1.qf.mp z)) (fun z=>⟨.ref a,H,I,rfl,q1 (r2.qf.mp z)⟩) (fun z=>?_) (by rw [←r1.length,←r2.length];exact hz)
 refine ⟨.ref s.heap.objs.size,_,I.laid (t':=s.toks) (o:=.tup (xs++ys)) (fun b ob q=>Heap.get?_push_of_some _ q) (Nat.le_refl _) ?_,rfl,q2 (fun w=>z (r2.qf.mpr w)) _ (I.hok.fresh (Nat.le_refl _))⟩
 exact ⟨by rw [List.length_append];exact hz,_,r1.append r2,IsTup.new _ _⟩
end
end L2
namespace L2
open PySem PySem.Spec PyProof.Rows
noncomputable def er (n:Nat) (i:Int):Option Nat:=if 0≤i then (if i<n then some i.toNat else none) else if -(n:Int)≤i then some (i+n).toNat else none
noncomputable def bN {α:Type}(xs:List α) (i:Int):Option α:=(er xs.length i).bind fun j=>xs[j]?
theorem GZ {n:Nat}{i:Int}{j:Nat}(h:er n i=some j):seqIndex? i n=some j∧j<n∧-(n:Int)≤i∧i<n:=by
 unfold er at h
 by_cases h0:0≤i
 ·rw [if_pos h0] at h
  by_cases h1:i<n
  ·rw [if_pos h1] at h
   have e:i.toNat=j:=Option.some.inj h
   exact ⟨by rw [seqIndex_of h0 h1,e],by omega,by omega,h1⟩
  ·rw [if_neg h1] at h;cases h
 ·rw [if_neg h0] at h
  by_cases h1:-(n:Int)≤i
  ·rw [if_pos h1] at h
   have e:(i+n).toNat=j:=Option.some.inj h
   exact ⟨by rw [seqIndex_neg (by omega) h1,e],by omega,h1,by omega⟩
  ·rw [if_neg h1] at h;cases h
theorem qg {α:Type}{xs:List α}{i:Int}{v:α}(h:bN xs i=some v):∃ j,seqIndex? i xs.length=some j∧xs[j]?=some v∧j<xs.length∧-(xs.length:Int)≤i∧i<xs.length:=by
 unfold bN at h
 cases e:er xs.length i with
 | none=>rw [e] at h;cases h
 | some j=>
  rw [e] at h
  obtain ⟨h1,h2,h3,h4⟩:=GZ e
  exact ⟨j,h1,h,h2,h3,h4⟩
theorem vG {α:Type}{xs:List α}{j:Nat}{v:α}(h:xs[j]?=some v):bN xs (j:Int)=some v:=by
 have hj:j<xs.length:=(List.getElem?_eq_some_iff.mp h).1
 have e:er xs.length (j:Int)=some j:=by
  unfold er
  rw [if_pos (by omega),if_pos (by omega)];simp
 unfold bN;rw [e];exact h
noncomputable def vH (b:Expr):Prop:=∀ o i,subscripted b false o i=operate [o,i] (getItem o i)
noncomputable def vI (X:Cx) (r:R2):Prop:=
 ∀ (value slice:Expr) (pins:List (Addr×Obj)) (s:Shared) (σ:St) (H:Hp) (x y:V) (v u:Value) (Q:VK),Inv X pins σ H s→RelV x v→RelV y u→r x y H Q→
  subscripted slice false v u=operate [v,u] (getItem v u)→wpAny (model X.prog X.w) X.A (subscriptTail value slice v u) (EP X pins σ Q) X.xe s
noncomputable def oH (X:Cx) (id:String) (r:V→List V→Hp→VK→Prop):Prop:=
 ∀ (pins:List (Addr×Obj)) (s:Shared) (σ:St) (H:Hp) (x:V) (xs:List V) (v:Value) (us:List Value) (Q:VK),Inv X pins σ H s→RelV x v→Vals xs us→r x xs H Q→
  wpAny (model X.prog X.w) X.A (call (.builtin id) (v :: us)) (EP X pins σ Q) X.xe s
section
variable {X:Cx}{a b:Expr}{ta tb:TE}{pos:Pos}
theorem PB {r:R2}(hr:vI X r) (ha:PE X a ta) (hb:PE X b tb) (hs:vH b):PE X (.Subscript a b pos) (za r ta tb):=by
 intro pins s σ H Q I h
 exact Subscript_ (Bx ha hb I h fun v u s2 x y H2 I2 rx ry q=>hr a b pins s2 σ H2 x y v u Q I2 rx ry q (hs _ _))
noncomputable def UG (K:PySem.W.Frag):R2:=fun x y H Q=>∃ p xs i v,x=.ref p∧y=.int i∧fh K H p xs∧bN xs i=some v∧Q v H
noncomputable def UH (K:PySem.W.Frag):R2:=fun x y H Q=>∃ p xs i v,x=.ref p∧y=.int i∧dG K H p xs∧bN xs i=some v∧Q v H
noncomputable def UI:R2:=fun x y H Q=>∃ z i c,x=.str z∧y=.int i∧z.length≤sizeLine∧bN z.cps.toList i=some c∧Q (.str ⟨#[c]⟩) H
theorem G0:vI X (UG X.K):=by
 intro value slice pins s σ H x y v u Q I rx ry h hs
 obtain ⟨p,xs,i,z,rfl,rfl,hq,he,q⟩:=h
 cases rx
 obtain ⟨t,rfl⟩:=ry
 obtain ⟨its,r,pl,hz⟩:=I.list hq
 obtain ⟨j,h1,h2,h3,h4,h5⟩:=qg he
 obtain ⟨w,ew,rw'⟩:=r.get h2
 have hl:=r.length
 have hn:=jV
 have fin:EP X pins σ Q w s:=⟨z,H,I,rw',q⟩
 by_cases h0:0≤i
 ·have hj:i.toNat=j:=by
   rw [seqIndex_of h0 h5] at h1
   exact Option.some.inj h1
  exact item_listR pl.isList h0 (by omega) (by rw [hj];simpa using ew) fin hs
 ·have hj:(i+(its.toArray.size:Int)).toNat=j:=by
   rw [seqIndex_neg (by omega) h4] at h1
   rw [List.size_toArray,←hl]
   exact Option.some.inj h1
  exact subscriptTail_builtinR (x:=w) pl.isList.typeIs slot_list_getitem.lookup
   (wpAny_getItem_list_neg (Q:=fun r s'=>r=w∧EP X pins σ Q r s') pl.isList (by omega) (by rw [List.size_toArray] <;> omega) (by omega) (by rw [hj];simpa using ew) ⟨rfl,fin⟩) hs
theorem JY:vI X (UH X.K):=by
 intro value slice pins s σ H x y v u Q I rx ry h hs
 obtain ⟨p,xs,i,z,rfl,rfl,hq,he,q⟩:=h
 cases rx
 obtain ⟨t,rfl⟩:=ry
 obtain ⟨its,r,pl,hz⟩:=I.tuple hq
 obtain ⟨j,h1,h2,h3,h4,h5⟩:=qg he
 obtain ⟨w,ew,rw'⟩:=r.get h2
 have hl:=r.length
 have hn:=jV
 have fin:EP X pins σ Q w s:=⟨z,H,I,rw',q⟩
 exact subscriptTail_builtinR (x:=w) pl.typeIs slot_tuple_getitem.lookup
  (getItem_tuple (j:=j) (Q:=fun r s'=>r=w∧EP X pins σ Q r s') pl (by omega) (by omega) (by rw [List.size_toArray,←hl];exact h1) (by simpa using ew) ⟨rfl,fin⟩) hs
theorem JZ:vI X UI:=by
 intro value slice pins s σ H x y v u Q I rx ry h hs
 obtain ⟨z,i,c,rfl,rfl,hz,he,q⟩:=h
 obtain ⟨t,rfl⟩:=rx
 obtain ⟨t',rfl⟩:=ry
 obtain ⟨j,h1,h2,h3,h4,h5⟩:=qg he
 have hl:z.cps.toList.length=z.length:=by simp [Str.length]
 rw [hl] at h1 h4 h5
 have hn:=jV
 exact tail_any (typeIs_str s z t) slot_str_getitem.lookup (getItem_str (c:=c) (by
  have e1:decide (i < -(2 ^ 63:Int))=false:=decide_eq_false (by omega)
  have e2:decide (i≥2 ^ 63)=false:=decide_eq_false (by omega)
  rw [e1,e2,Bool.or_false]) (by rw [h1];simpa using h2) ⟨.str ⟨#[c]⟩,H,I.tok _,⟨_,rfl⟩,q⟩) hs
theorem tw (lo hi:Option Int) (n:Nat):(sliceBounds lo hi none n).1=((HT.aS n 0 lo:Nat):Int)∧(sliceBounds lo hi none n).2.1=((HT.aS n n hi:Nat):Int)∧(sliceBounds lo hi none n).2.2=1:=by
 refine ⟨?_,?_,rfl⟩
 ·cases lo with
  | none=>simp [sliceBounds,HT.aS]
  | some i=>
   simp only [sliceBounds,HT.aS,Option.getD_none,show (1:Int) > 0 by decide,if_true]
   by_cases h:i<0
   ·simp only [h,if_true] <;> omega
   ·simp only [h,if_false] <;> omega
 ·cases hi with
  | none=>simp [sliceBounds,HT.aS]
  | some i=>
   simp only [sliceBounds,HT.aS,Option.getD_none,show (1:Int) > 0 by decide,if_true]
   by_cases h:i<0
   ·simp only [h,if_true] <;> omega
   ·simp only [h,if_false] <;> omega
theorem rY (its:List Value) (lo hi:Option Int):slicePick its.toArray lo hi none=((its.drop (HT.aS its.length 0 lo)).take (HT.aS its.length its.length hi - HT.aS its.length 0 lo)).toArray:=by
 obtain ⟨h1,h2,h3⟩:=tw lo hi its.toArray.size
 unfold slicePick
 rw [h1,h2,h3]
 simp only [sliceRange_one,pick_run,List.size_toArray] <;> rfl
noncomputable def UJ (K:PySem.W.Frag):V→Option Int→Option Int→Hp→VK→Prop:=fun x lo hi H Q=>∃ a xs,x=.ref a∧fh K H a xs∧∀ p,H p=none→Q (.ref p) (upd H p (.lst (lK xs lo hi)))
theorem G1:jX X (UJ X.K):=by
 intro pins s σ H x v vl vu lo hi sl Q I rx hs pl pu h
 obtain ⟨a,xs,rfl,hx,q⟩:=h
 cases rx
 obtain ⟨its,r,ht,hz⟩:=I.list hx
 have hlen:=r.length
 refine ⟨"list",_,slot_list_getitem.lookup,ht.isList.typeIs,?_⟩
 refine wpAny_getItem_list_slice ht.isList hs pl pu .none (by simp) ?_ (by rw [List.size_toArray] <;> omega)
 rw [rY,←hlen]
 refine ⟨.ref s.heap.objs.size,_,I.laid (t':=s.toks) (o:=.lst (lK xs lo hi)) (fun b ob q=>Heap.get?_push_of_some _ q) (Nat.le_refl _) ?_,rfl,q _ (I.hok.fresh (Nat.le_refl _))⟩
 exact ⟨Nat.le_trans (nA xs lo hi) hz,_,0,(r.drop (HT.aS xs.length 0 lo)).take (HT.aS xs.length xs.length hi - HT.aS xs.length 0 lo),Heap.get?_push_size _ rfl⟩
noncomputable def sj:V→Bool
 | .bH=>true
 | .bl _=>true
 | .int _=>true
 | .str _=>true
 | _=>false
theorem lM:gw X (.builtin "len") (fun xs H Q=>∃ p ys,xs=[.ref p]∧(fh X.K H p ys∨dG X.K H p ys)∧Q (.int ys.length) H):=by
 intro pins s σ H xs us Q I r h
 obtain ⟨p,ys,rfl,hq,q⟩:=h
 obtain ⟨u,rfl,rx⟩:=vals1 r
 cases rx
 have hn:=jV
 rcases hq with hq | hq
 ·obtain ⟨its,r',pl,hz⟩:=I.list hq
  have hlen:=r'.length
  exact Calls.call_len_list pl.isList (by simp only [List.size_toArray] <;> omega) ⟨.int ys.length,H,I.tok _,⟨s.toks+1,by rw [List.size_toArray,hlen]⟩,q⟩
 ·obtain ⟨its,r',pl,hz⟩:=I.tuple hq
  have hlen:=r'.length
  exact len_tuple pl (by simp only [List.size_toArray] <;> omega) ⟨.int ys.length,H,I.tok _,⟨s.toks+1,by rw [List.size_toArray,hlen]⟩,q⟩
theorem tB:gw X (.builtin "len") (fun xs H Q=>∃ z,xs=[.str z]∧z.length≤sizeLine∧Q (.int z.length) H):=by
 intro pins s σ H xs us Q I r h
 obtain ⟨z,rfl,hz,q⟩:=h
 obtain ⟨u,rfl,t,rfl⟩:=vals1 r
 have hn:=jV
 exact len_str (by omega) ⟨.int z.length,H,I.tok _,⟨_,rfl⟩,q⟩
theorem lu:gw X (.type "tuple") (fun xs H Q=>∃ p ys,xs=[.ref p]∧((fh X.K H p ys∧∀ l,H l=none→Q (.ref l) (upd H l (.tup ys)))∨(dG X.K H p ys∧Q (.ref p) H))):=by
 intro pins s σ H xs us Q I r h
 obtain ⟨p,ys,rfl,h⟩:=h
 obtain ⟨u,rfl,rx⟩:=vals1 r
 cases rx
 rcases h with ⟨hq,q⟩ | ⟨hq,q⟩
 ·obtain ⟨its,r',pl,hz⟩:=I.list hq
  have hlen:=r'.length
  refine call_tuple_list pl.isList (fun h' kp=>?_) (by simp only [List.size_toArray] <;> omega)
  have I1:Inv X pins σ H { s with heap:=h' }:=I.kept (t':=s.toks) kp
  have I2:Inv X pins σ (upd H h'.objs.size (.tup ys)) { s with heap:=h'.push { cls:=.type "tuple",data:=.seq its.toArray }}:=
   I1.laid (t':=s.toks) (fun b o e=>Heap.get?_push_of_some _ e) (Nat.le_refl _) (show fH X.prog X.w _ _ _ (.tup ys) from ⟨hz,its,r',IsTup.new _ _⟩)
  exact ⟨.ref h'.objs.size,_,I2,rfl,q _ (I1.hok.fresh (Nat.le_refl _))⟩
 ·obtain ⟨its,r',pl,hz⟩:=I.tuple hq
  exact call_tuple_same pl ⟨.ref p,H,I,rfl,q⟩
noncomputable def zg (K:PySem.W.Frag) (T:String) (x:V) (H:Hp):Prop:=match x with
 | .str _=>T = "str"
 | .int _=>T = "int"
 | .ref p=>(T = "list" ∧∃ xs,fh K H p xs)∨(T = "tuple" ∧∃ o,K.lookup p=some o∧o.cls=.type "tuple" ∧o.dict=none)∨
   (T = "dict" ∧((∃ kvs,H p=some (.dK kvs))∨∃ kvs,H p=some (.dT kvs)))∨(T = "set" ∧∃ S n,H p=some (.set S n))
 | _=>False
theorem zh {pins:List (Addr×Obj)}{σ:St}{H:Hp}{s:Shared}{T:String}{x:V}{v:Value}(I:Inv X pins σ H s) (r:RelV x v) (ty:zg X.K T x H) :
  s.TypeIs v T∧∀ a,v=.ref a→∃ ob,s.heap.get? a=some ob∧ob.dict=none:=by
 cases x with
 | str z=>
  obtain ⟨t,rfl⟩:=r
  cases (show T = "str" from ty)
  exact ⟨typeIs_str s z t,fun _ e=>nomatch e⟩
 | int i=>
  obtain ⟨t,rfl⟩:=r
  cases (show T = "int" from ty)
  exact ⟨typeIs_int s i t,fun _ e=>nomatch e⟩
 | ref p=>
  cases r
  rcases ty with ⟨rfl,xs,hq⟩ | ⟨rfl,o,hk,hc,hd⟩ | ⟨rfl,hk⟩ | ⟨rfl,S,n,hk⟩
  ·obtain ⟨its,_,pl,_⟩:=I.list hq
   refine ⟨pl.isList.typeIs,fun a e=>?_⟩
   cases e
   obtain ⟨o,n,e,c,hd,_⟩:=pl
   exact ⟨o,e,hd⟩
  ·refine ⟨⟨o,I.sS p o hk,hc⟩,fun a e=>?_⟩
   cases e
   exact ⟨o,I.sS _ o hk,hd⟩
  ·have z:∃ o,s.heap.get? p=some o∧o.ExactDict:=by
    rcases hk with ⟨kvs,hk⟩ | ⟨kvs,hk⟩
    ·obtain ⟨_,_,_,_,o,_,_,e,ex,_⟩:=I.hok p _ hk
     exact ⟨o,e,ex⟩
    ·obtain ⟨_,_,_,_,o,_,_,e,ex,_⟩:=I.hok p _ hk
     exact ⟨o,e,ex⟩
   obtain ⟨o,e,ex⟩:=z
   refine ⟨⟨o,e,ex.1⟩,fun a e2=>?_⟩
   cases e2
   exact ⟨o,e,ex.2.1⟩
  ·obtain ⟨o,_,_,_,e,ex,_⟩:=I.hok p _ hk
   refine ⟨⟨o,e,ex.1⟩,fun a e2=>?_⟩
   cases e2
   exact ⟨o,e,ex.2.1⟩
 | _=>exact False.elim ty
noncomputable def UK (K:PySem.W.Frag) (T:String) (r:V→List V→Hp→VK→Prop) (to:TE):TE:=fun σ H Q=>to σ H fun x H1=>zg K T x H1∧r x [] H1 Q
noncomputable def WQ (K:PySem.W.Frag) (T:String) (r:V→List V→Hp→VK→Prop) (to:TE) (t:TA):TE:=fun σ H Q=>to σ H fun x H1=>zg K T x H1∧t σ H1 fun xs H2=>r x xs H2 Q
variable {o e:Expr}{es:List Expr}{to:TE}{t:TA}{name:Str}{apos cpos:Pos}{T id:String}{r:V→List V→Hp→VK→Prop}
theorem J0 (pa:PlainAttrs T) (slot:Slot T name id) (hty:typeOf (.builtin id)=pure (.type "method_descriptor")) (hm:oH X id r) (ho:PE X o to)
  (hbase:attributeBase o name X.env (eval o X.env)=eval o X.env:=by rfl) (hline:(apos.endLine==cpos.line)=true:=by rfl):PE X (.Call (.Attribute o name apos) [] [] cpos) (UK X.K T r to):=by
 intro pins s σ H Q I h
 refine wpAny_Call_method0_late hbase hline (bM (ho pins s σ H _ I h) fun v s1 ⟨x,H1,I1,r1,ty,q1⟩=>?_)
 obtain ⟨h1,h2⟩:=zh I1 r1 ty
 exact ⟨T,id,pa,slot,hty,h1,h2,Calls.callWith_builtin rfl (PySem.evalArgs_none (hm pins s1 σ H1 x [] v [] Q I1 r1 .nil q1))⟩
theorem PC (pa:PlainAttrs T) (slot:Slot T name id) (hty:typeOf (.builtin id)=pure (.type "method_descriptor")) (hm:oH X id r) (ho:PE X o to) (ha:PA X (e :: es) t)
  (hbase:attributeBase o name X.env (eval o X.env)=eval o X.env:=by rfl)
  (hfew:((backTo cpos (starEach (e :: es) X.env)).all (fun x=>!x.1)&&(backToKw cpos (keywordEach [] X.env)).all (fun x=>x.1.isSome)
   &&decide ((e :: es).length+([]:List Keyword).length+(if ([]:List Keyword).isEmpty then 0 else 1)<30))=true:=by rfl)
  (hline:(apos.endLine==cpos.line)=true:=by rfl) (hs:starEach (e :: es) X.env=(false,eval e X.env) :: starEach es X.env:=by rfl) (hplain:(backTo cpos (starEach es X.env)).any (·.1)=false:=by rfl) :
  PE X (.Call (.Attribute o name apos) (e :: es) [] cpos) (WQ X.K T r to t):=by
 intro pins s σ H Q I h
 refine wpAny_Call_method_late hbase hfew hline rfl (bM (ho pins s σ H _ I h) fun v s1 ⟨x,H1,I1,r1,ty,q1⟩=>?_)
 obtain ⟨h1,h2⟩:=zh I1 r1 ty
 refine ⟨T,id,pa,slot,hty,h1,h2,?_⟩
 have hA:=ha cpos pins s1 σ H1 _ I1 q1
 rw [hs] at hA ⊢
 refine Calls.callWith_builtin (by show (false || (backTo cpos (starEach es X.env)).any (·.1))=false;rw [hplain] <;> rfl) (Calls.evalArgs_plain ?_)
 exact bM hA fun us s2 ⟨vs,H2,I2,r2,q2⟩=>hm pins s2 σ H2 x vs v us Q I2 r1 r2 q2
end
end L2
namespace L2
open PySem PySem.Spec PyProof.Rows
noncomputable def J1 (X:Cx) (id:String) (r:V→List V→Hp→VK→Prop):Prop:=
 ∀ (pins:List (Addr×Obj)) (s:Shared) (σ:St) (H:Hp) (x:V) (xs:List V) (v:Value) (us:List Value) (Q:VK),Inv X pins σ H s→RelV x v→Vals xs us→r x xs H Q→
  wpAny (model X.prog X.w) X.A (call (.builtin id) (v :: us)) (EP X pins σ Q) X.xe s
theorem Vals.one:∀ {x:V}{us:List Value},Vals [x] us→∃ u,us=[u]∧RelV x u
 | _,_,.cons r .nil=>⟨_,rfl,r⟩
theorem Vals.zero:∀ {us:List Value},Vals [] us→us=[]
 | _,.nil=>rfl
theorem Vals.dropLast {xs:List V}{us:List Value}(h:Vals xs us):Vals xs.dropLast us.dropLast:=by
 induction h with
 | nil=>exact .nil
 | cons r t ih=>
  cases t with
  | nil=>exact .nil
  | cons q t'=>exact .cons r ih
theorem Vals.reverse {xs:List V}{us:List Value}(h:Vals xs us):Vals xs.reverse us.reverse:=by
 induction h with
 | nil=>exact .nil
 | cons r t ih=>rw [List.reverse_cons,List.reverse_cons];exact Vals.append ih (.cons r .nil)
theorem Vals.rep {xs:List V}{us:List Value}(h:Vals xs us):∀ k:Nat,Vals (List.replicate k xs).flatten (List.replicate k us).flatten
 | 0=>.nil
 | k+1=>by
  rw [List.replicate_succ,List.replicate_succ,List.flatten_cons,List.flatten_cons]
  exact Vals.append h (Vals.rep h k)
theorem xr {α:Type}(l:List α):l.eraseIdx (l.length - 1)=l.dropLast:=by
 induction l with
 | nil=>rfl
 | cons a r ih=>
  cases r with
  | nil=>rfl
  | cons b r=>
   have e:(a :: b :: r).length - 1=((b :: r).length - 1)+1:=by
    have h1:(a :: b :: r).length=r.length+2:=rfl
    have h2:(b :: r).length=r.length+1:=rfl
    omega
   rw [e,List.eraseIdx_cons_succ,ih]
   all_goals rfl
theorem foldl_rep (its:List Value):∀ (k:Nat) (acc:List Value),
  List.foldl (fun x1 x2=>x1++x2) acc.toArray (List.replicate k its.toArray)=(acc++(List.replicate k its).flatten).toArray
 | 0,acc=>by simp
 | k+1,acc=>by
  have e:acc.toArray++its.toArray=(acc++its).toArray:=by simp
  have e2:(acc++its)++(List.replicate k its).flatten=acc++(List.replicate (k+1) its).flatten:=by
   rw [List.replicate_succ,List.flatten_cons,List.append_assoc]
  rw [←e2,←foldl_rep its k (acc++its),←e,List.replicate_succ,List.foldl_cons]
section
variable {X:Cx}{pins:List (Addr×Obj)}{σ:St}{H:Hp}{s:Shared}{l b:Addr}{xs ys zs:List V}
theorem Inv.BF {its its':List Value}{n:Nat}{f:Array Value→Array Value}{t':Nat}(I:Inv X pins σ H s) (hH:H l=some (.lst xs))
  (e:s.heap.get? l=some { cls:=.type "list",data:=.seq its.toArray n }) (hf:f its.toArray=its'.toArray) (hv:Vals ys its') (hz:ys.length≤sizeLine) :
  Inv X pins σ (upd H l (.lst ys)) { s with heap:=s.heap.update l (Obj.mapSeq f),toks:=t' }:=by
 have q:=PySem.IsL.update e f
 rw [hf] at q
 refine I.write (x:=l) (e:=l) (by rw [hH];exact trivial) (.inl rfl) (fun b' u hb hu=>(Heap.get?_update_other s.heap (Obj.mapSeq f) (Ne.symm hb)).trans hu) ⟨_,q⟩ ?_
 exact ⟨hz,its',_,hv,q⟩
theorem Inv.BG {its:List Value}{t':Nat}(I:Inv X pins σ H s) (hv:Vals ys its) (hz:ys.length≤sizeLine) :
  Inv X pins σ (upd H s.heap.objs.size (.lst ys)) { s with heap:=s.heap.push { cls:=.type "list",data:=.seq its.toArray },toks:=t' }:=
 I.laid (fun _ _ q=>Heap.get?_push_of_some _ q) (Nat.le_refl _) ⟨hz,its,0,hv,Heap.get?_push_size _ rfl⟩
theorem Inv.fresh (I:Inv X pins σ H s):H s.heap.objs.size=none:=I.hok.fresh (Nat.le_refl _)
theorem Inv.nQ (I:Inv X pins σ H s) (hH:H l=some (.lst xs)):xs.length≤sizeLine∧∃ (its:List Value) (n:Nat),Vals xs its∧xs.length=its.length∧s.heap.get? l=some { cls:=.type "list",data:=.seq its.toArray n }:=by
 obtain ⟨z,its,n,r,e⟩:=I.hok l _ hH
 exact ⟨z,its,n,r,r.length,e⟩
theorem tD {n:Nat}(h:n≤sizeLine):Builtin.List.listTooLong n=false:=by
 unfold Builtin.List.listTooLong
 exact decide_eq_false (by omega)
end
section
variable {X:Cx}
noncomputable def G2:V→List V→Hp→VK→Prop:=fun x vs H Q=>∃ l xs y,x=.ref l∧vs=[y]∧H l=some (.lst xs)∧xs.length<sizeLine∧Q .bH (upd H l (.lst (xs++[y])))
theorem qZ:J1 X "list.append" G2:=by
 intro pins s σ H x vs v us Q I rx rv h
 obtain ⟨l,xs,y,rfl,rfl,hH,hz,q⟩:=h
 cases rx
 obtain ⟨u,rfl,ru⟩:=rv.one
 obtain ⟨z,its,n,r,hl,e⟩:=I.nQ hH
 refine call_meets F.slot_list_append ⟨_,e,rfl⟩ F.entry_list_append (F.args_list_append_2 _ _) (PySem.list_append l its.toArray n u (by rw [List.size_toArray];omega)) ⟨e,?_⟩
 refine ⟨.bH,_,I.BF (its':=its++[u]) hH e (by simp) (r.append (.cons ru .nil)) ?_,rfl,q⟩
 rw [List.length_append,List.length_singleton]
 omega
noncomputable def G3:V→List V→Hp→VK→Prop:=fun x vs H Q=>∃ l b xs zs,x=.ref l∧vs=[.ref b]∧H l=some (.lst xs)∧H b=some (.lst zs)∧xs.length+zs.length≤sizeLine∧Q .bH (upd H l (.lst (xs++zs)))
theorem zj:J1 X "list.extend" G3:=by
 intro pins s σ H x vs v us Q I rx rv h
 obtain ⟨l,b,xs,zs,rfl,rfl,hH,hB,hz,q⟩:=h
 cases rx
 obtain ⟨u,rfl,ru⟩:=rv.one
 cases ru
 obtain ⟨z,its,n,r,hl,e⟩:=I.nQ hH
 obtain ⟨z2,its2,n2,r2,hl2,e2⟩:=I.nQ hB
 have hsz:its.toArray.size+its2.toArray.size≤sizeLine:=by rw [List.size_toArray,List.size_toArray];omega
 have xu:¬ (!its.toArray.isEmpty&&Builtin.List.listTooLong (its.toArray.size+its2.toArray.size))=true:=by
  rw [tD hsz,Bool.and_false]
  exact Bool.false_ne_true
 refine call_meets F.slot_list_extend ⟨_,e,rfl⟩ F.entry_list_extend (F.args_list_extend_2 _ _)
  (AutoSeq1.list_extend_list_list_0 l its.toArray n b its2.toArray n2 xu (by rw [List.size_toArray];omega) (by omega)) ⟨e,e2,?_⟩
 refine ⟨.bH,_,I.BF (its':=its++its2) hH e (by simp) (r.append r2) ?_,rfl,q⟩
 rw [List.length_append]
 omega
noncomputable def UL:V→List V→Hp→VK→Prop:=fun x vs H Q=>∃ l xs y,x=.ref l∧vs=[]∧H l=some (.lst xs)∧xs[xs.length - 1]?=some y∧Q y (upd H l (.lst xs.dropLast))
theorem J2:J1 X "list.pop" UL:=by
 intro pins s σ H x vs v us Q I rx rv h
 obtain ⟨l,xs,y,rfl,rfl,hH,hy,q⟩:=h
 cases rx
 have WR:=rv.zero
 subst WR
 obtain ⟨z,its,n,r,hl,e⟩:=I.nQ hH
 obtain ⟨u,hu,ru⟩:=r.get hy
 have hy':its.toArray[its.toArray.size - 1]?=some u:=by
  show its.toArray[its.length - 1]?=some u
  rw [←Array.getElem?_toList,←hl]
  exact hu
 refine call_meets F.slot_list_pop ⟨_,e,rfl⟩ F.entry_list_pop (F.args_list_pop_1 _) (MeetsSeq.list_pop_last l its.toArray n u hy' (by rw [List.size_toArray];omega)) ⟨e,?_⟩
 refine ⟨y,_,I.BF (its':=its.dropLast) hH e ?_ r.dropLast ?_,ru,q⟩
 ·show its.toArray.eraseIdxIfInBounds (its.toArray.size - 1)=its.dropLast.toArray
  rw [List.size_toArray,List.eraseIdxIfInBounds_toArray,xr]
 ·rw [List.length_dropLast]
  omega
noncomputable def UM:R2:=fun x y H Q=>∃ l b xs zs,x=.ref l∧y=.ref b∧H l=some (.lst xs)∧H b=some (.lst zs)∧xs.length+zs.length≤sizeLine∧∀ p,H p=none→Q (.ref p) (upd H p (.lst (xs++zs)))
theorem J3:dS X (binaryOp .Add) UM:=by
 intro pins s σ H x y v u Q I rx ry h
 obtain ⟨l,b,xs,zs,rfl,rfl,hH,hB,hz,q⟩:=h
 cases rx
 cases ry
 obtain ⟨z,its,n,r,hl,e⟩:=I.nQ hH
 obtain ⟨z2,its2,n2,r2,hl2,e2⟩:=I.nQ hB
 refine PySem.P.add_list e e2 ?_ (by rw [List.size_toArray,List.size_toArray];omega)
 have ea:its.toArray++its2.toArray=(its++its2).toArray:=by simp
 rw [ea]
 exact ⟨.ref _,_,I.BG (t':=s.toks) (r.append r2) (by rw [List.length_append];omega),rfl,q _ I.fresh⟩
noncomputable def UN:R2:=fun x y H Q=>∃ l k xs,x=.ref l∧y=.int k∧H l=some (.lst xs)∧-(2 ^ 63)≤k∧k<2 ^ 63∧xs.length*k.toNat≤sizeLine∧
 ∀ p,H p=none→Q (.ref p) (upd H p (.lst (List.replicate k.toNat xs).flatten))
theorem len_rep {α:Type}(xs:List α) (k:Nat):(List.replicate k xs).flatten.length=k*xs.length:=by
 induction k with
 | zero=>simp
 | succ k ih=>rw [List.replicate_succ,List.flatten_cons,List.length_append,ih,Nat.succ_mul,Nat.add_comm]
theorem J4:dS X (binaryOp .Mult) UN:=by
 intro pins s σ H x y v u Q I rx ry h
 obtain ⟨l,k,xs,rfl,rfl,hH,h1,h2,hz,q⟩:=h
 cases rx
 obtain ⟨t,rfl⟩:=ry
 obtain ⟨z,its,n,r,hl,e⟩:=I.nQ hH
 have hlen:its.toArray.size*k.toNat≤sizeLine:=by rw [List.size_toArray,←hl];exact hz
 have hcap:¬ its.toArray.size*k.toNat > (2 ^ 63 - 1) / 8:=by
  have:(sizeLine:Nat)≤(2 ^ 63 - 1) / 8:=by decide
  omega
 have hfit:¬ (!Builtin.List.listFitsIndex k)=true:=by
  rw [fitsIndex_both h1 h2]
  exact Bool.false_ne_true
 have xu:¬ Builtin.List.listTooLong (its.toArray.size*k.toNat)=true:=by
  rw [tD hlen]
  exact Bool.false_ne_true
 have hnew:List.foldl (fun x1 x2=>x1++x2) #[] (List.replicate (if its.toArray.isEmpty=true then 0 else k.toNat) its.toArray)=(List.replicate k.toNat its).flatten.toArray:=by
  have f0:∀ m:Nat,List.foldl (fun x1 x2=>x1++x2) #[] (List.replicate m its.toArray)=(List.replicate m its).flatten.toArray:=fun m=>by
   have:=foldl_rep its m []
   rw [List.nil_append] at this
   exact this
  rw [f0]
  cases its with
  | nil=>simp
  | cons a r'=>rw [if_neg (by simp)]
 refine wpAny_binaryOp_repeat_ref (T:="list") (U:="int") (by decide) ⟨_,e,rfl⟩ (fun s'=>typeIs_int s' k t) noFill_list_mul F.fills_int_mul F.slot_int_rmul repeat_list F.slot_int_index.lookup
  (call_meets F.slot_int_rmul (typeIs_int s k t) F.entry_int_rmul (F.args_int_rmul_2 _ _) (int___rmul___int_list k t l its.toArray n)
   ⟨e,rfl,⟨_,e,rfl⟩,call_meets F.slot_list_mul ⟨_,e,rfl⟩ F.entry_list_mul (F.args_list_mul_2 _ _) (AutoListH.list___mul___list_int_3 l its.toArray n k t hfit hcap xu) ⟨e,?_⟩⟩)
 rw [hnew]
 exact ⟨.ref _,_,I.BG (t':=s.toks) (r.rep k.toNat) (by rw [len_rep,Nat.mul_comm];exact hz),rfl,q _ I.fresh⟩
end
section
variable {prog:Program}{w:World}{A:Around}{E:Value→Shared→Prop}{s:Shared}
end
section
variable {X:Cx}
end
end L2
namespace Rx
open PySem PySem.W PySem.Calls PyProof.Rows
theorem oJ {P:Params}{h:Heap}:∀ (ns:List Int) (vs:List Value),WellAll P h vs (ns.map WData.int)→IntsAre vs ns:=by
 intro ns
 induction ns with
 | nil=>
  intro vs w
  rw [List.map_nil] at w
  cases w
  exact .nil
 | cons n ns ih=>
  intro vs w
  rw [List.map_cons] at w
  cases w with
  | cons a b=>
   cases a
   exact .cons _ _ (ih _ b)
theorem zk {l:OpenLaw}{n:Nat}(hn:l.most=some n){P:Params}{h:Heap}{args:List WData}{vals:List Value}
  (hpre:l.row.toRowW.claim.pre args=true) (hwl:WellAll P h vals args) :
  ∃ a vs ns,vals=[Value.ref a]∧args=[WData.list (ns.map WData.int)]∧h.get? a=some { cls:=.type "list",data:=.seq vs.toArray }∧IntsAre vs ns∧ns.length≤n:=by
 have hsh:WShape.hasAll [] args [.list .int]=true:=(pre_splitW hpre).1
 have hc:l.pre.holds [] { args:=args }=true:=(pre_splitW hpre).2
 obtain ⟨d,r,rfl,h1,h2⟩:=hasAllW_cons hsh
 obtain rfl:=hasAllW_nil h2
 obtain ⟨xs,rfl,h3⟩:=hasW_list h1
 obtain ⟨ns,rfl⟩:=items_int h3
 have hlen:ns.length≤n:=by
  unfold OpenLaw.pre at hc
  have h4:(WTm.not (.lt (.lit (.int (n:Int))) (.len (.arg 0)))).holds [] { args:=[.list (ns.map .int)]}=true:=by
   have h4:=(holds_andW hc).1
   rw [hn] at h4
   exact h4
  have h5:=condW_of h4 (w_not (w_lt w_lit (w_len_list (w_arg rfl))))
  rw [List.length_map] at h5
  refine Nat.le_of_not_lt fun q=>?_
  have q':(n:Int)<((ns.length:Nat):Int):=by omega
  first
   | (rw [decide_eq_true q'] at h5;exact absurd h5 (by decide))
   | (simp at h5;omega)
 cases hwl with
 | cons w1 w2=>
  cases w2
  cases w1 with
  | list ho hall=>exact ⟨_,_,ns,rfl,rfl,ho,oJ ns _ hall,hlen⟩
theorem zm (l:OpenLaw) (args:List WData):l.row.toRowW.claim.post args (.bool true) args=true:=
 postW_of (r:=l.row.toRowW) (X:=(true==true))
  (show WShape.has [] (.bool true) .bool=true by first | rfl | decide | simp [WShape.has,WShape.arms,WShape.armsAll])
  (show (WTm.eq .res (.lit (.bool true))).value [] { args:=args,res:=some (.bool true),after:=args }=some (.bool (true==true)) from w_eq_bool (w_res rfl) w_lit) rfl
theorem ve {l:OpenLaw}{n:Nat}{q:Program}{loose:List Str}{XP:(Str→Option Value)→Heap→Prop}{YP:World→Heap→Prop}{d:DefRec}
  (hn:l.most=some n) (hdf:d.params.defaults=[])
  (call:∀ (w:World) (s₀ s₁:Shared) (mg mb:Str→Option Value) (fa:Addr) (o:Obj) (pm cd doc:Value) (a:Addr) (vs:List Value) (ns:List Int),
   Ground q loose [] XP w s₀ mg mb s₁.heap→YP w s₁.heap→
   s₁.heap.get? fa=some o→o.data=.func (docDef d.name d.params d.body d.scope pm cd doc)→s₁.heap.CodeRec cd d.name→mg d.name=some (.ref fa)→
   s₁.heap.get? a=some { cls:=.type "list",data:=.seq vs.toArray }→IntsAre vs ns→ns.length≤n→s₁.gens = #[]→
   codeAny (model l.prog w) callerA (.call (.ref fa) ⟨[.ref a],[]⟩) (fun r s'=>r=.ok (.ret (.bool true))∧OldK s₁.heap s'.heap∧s'.os=s₁.os∧AllBare s'.gens) s₁) :
  WalkO q loose XP YP l.row.toRowW d [] (fun f vs=>PySem.call f vs):=by
 intro w s₀ s₁ mg mb G Y fa o pm cd doc dV kV ho hd hcd hD hmg hg args vals as hpre hlay hrd hwl hlo
 obtain rfl:dV=.none:=Dflts.none hD hdf
 obtain rfl:kV=.none:=Dflts.noKw hD
 obtain ⟨a,vs,ns,rfl,rfl,hobj,hints,hlen⟩:=zk hn hpre hwl
 refine enter_call (codeAny_mono (call w s₀ s₁ mg mb fa o pm cd doc a vs ns G Y ho (fd_plain hd) hcd hmg hobj hints hlen hg) fun r s' hq=>?_)
 obtain ⟨rfl,h2,h3,h4⟩:=hq
 exact ⟨.inl ⟨.bool true,.bool true,[],rfl,fun _=>rfl,.bool true,zm l _,fun _=>⟨List.Pairwise.nil,fun _ hm=>(nomatch hm)⟩⟩,h2,h3,h4⟩
section
variable {prog:Program}{w:World}{A:Around}{E:Value→Shared→Prop}{s:Shared}{K:Frag}
end
end Rx
namespace L2
open PySem PySem.Spec PyProof.Rows
theorem q8:∀ {vs:List Value}{ns:List Int},IntsAre vs ns→Vals (ns.map V.int) vs
 | _,_,.nil=>.nil
 | _,_,.cons n t h=>.cons ⟨t,rfl⟩ (q8 h)
noncomputable def qh (H:Hp):Prop:=∀ b,H b=none∨∃ o xs,H b=some (.bS o (.lst xs))
theorem BH {P:Program}{w:World}{K:PySem.W.Frag}{mg mb:Str→Option Value}{CX:lg}{k:Nat}{fa a:Addr}{fd:FuncData}{x:Str}{sp:Sp}{s₁:Shared}{vs:List Value}{ns:List Int}
  (KX:K.In s₁.heap) (hns:s₁.heap.Ns mainGlobals mg) (hb:s₁.heap.Ns builtinsNs mb) (J5:∀ x:Str,x≠"__name__" →mb x=bootBuiltins x) (hlim:s₁.heap.NoLimit) (hg:s₁.gens = #[])
  (ha:s₁.heap.get? a=some { cls:=.type "list",data:=.seq vs.toArray }) (hi:IntsAre vs ns) (hl:ns.length≤sizeLine) (hr:gA k callerA)
  (F:∀ base:Heap,K.In base→base.Ns mainGlobals mg→iw P w K mg base CX k fa fd [x] sp) (hbind:∀ (s:Shared) (u:Value),BindsTo s fd ⟨[u],[]⟩ [(x,u)])
  (jW:∀ H:Hp,qh H→fh K H a (ns.map V.int)→sp [.ref a] H (fun v _=>v=.bl true) fun _ _ _=>False)
  (zo:∀ H e s',CX [] H s₁ (fun _ _ _=>False) e s'→False) :
  codeAny (model P w) callerA (.call (.ref fa) ⟨[.ref a],[]⟩) (fun r s'=>r=.ok (.ret (.bool true))∧OldK s₁.heap s'.heap∧s'.os=s₁.os∧AllBare s'.gens) s₁:=by
 have rv:=q8 hi
 have UO:=hi.length
 have core:∀ H:Hp,qh H→fh K H a (ns.map V.int)→fQ P w H s₁.heap→(∀ b,H b≠none→b=a)→(H a≠none→K.lookup a=none)→
   codeAny (model P w) callerA (.call (.ref fa) ⟨[.ref a],[]⟩) (fun r s'=>r=.ok (.ret (.bool true))∧OldK s₁.heap s'.heap∧s'.os=s₁.os∧AllBare s'.gens) s₁:=by
  intro H hO hS hok hA hK
  have vJ:∀ {b:Addr} {o:Obj},s₁.heap.get? b=some o→H b=none→(ku s₁.heap H).get? b=some o:=fun e n=>Bj e n
  have zd:∀ {b:Addr} {o:Obj} {es:Array DictEntry} {ep:Nat},s₁.heap.get? b=some o→o.data=.dict es ep→H b=none:=fun {b o es ep} e d=>by
   cases q:H b with
   | none=>rfl
   | some u=>
    have e':b=a:=hA b (by rw [q];simp)
    subst e'
    rw [ha] at e;cases e
    have d':Data.seq vs.toArray _=Data.dict es ep:=d
    cases d'
  have Ey:∀ {b:Addr} {m:Str→Option Value},s₁.heap.Ns b m→(ku s₁.heap H).Ns b m:=fun {b m} ⟨o,es,ep,e,d,r⟩=>⟨o,es,ep,vJ e (zd e d),d,r⟩
  have Ry:K.In (ku s₁.heap H):=fun b o e=>vJ (KX b o e) (by
   cases q:H b with
   | none=>rfl
   | some u=>
    have e':b=a:=hA b (by rw [q];simp)
    subst e'
    rw [hK (by rw [q];simp)] at e;cases e)
  have hM:Mod K mg (ku s₁.heap H):=⟨Ry,Ey hns,⟨mb,Ey hb,J5⟩,let ⟨mc,h1,h2⟩:=hlim;⟨mc,Ey h1,h2⟩⟩
  have e0:xm P w K mg (ku s₁.heap H) callerA [] s₁ H:=⟨rfl,hM,fun b o e=>GI e,Nat.le_of_eq (yT _ _),trivial,fun b hb=>absurd (show b∈([]:List Addr) from hb) (by simp),hok,.of_eq hg⟩
  refine codeAny_mono ((F _ Ry (Ey hns)).run callerA [] s₁ H ⟨[.ref a],[]⟩ [.ref a] [.ref a] _ _ hr e0 (hbind s₁ (.ref a)) (.cons rfl .nil) (jW H hO hS)) fun r s' h=>?_
  cases r with
  | error e=>exact (zo H e s' h).elim
  | ok fl=>
   cases fl with
   | next=>exact False.elim h
   | brk=>exact False.elim h
   | cont=>exact False.elim h
   | ret u=>
    obtain ⟨v,H',os,bare,un,UP,r',q⟩:=h
    have q':v=.bl true:=q
    subst q'
    obtain rfl:u=Value.bool true:=r'
    refine ⟨rfl,OldK.of_keep fun b o e=>?_,os,bare⟩
    cases q:H b with
    | none=>exact un.keep b o e q (by intro z;exact absurd (show b∈([]:List Addr) from z) (by simp)) (by simp)
    | some u=>
     rcases hO b with z | ⟨ob,xs,z⟩
     ·rw [q] at z;cases z
     ·have z2:=un.kr b ob _ z
      obtain ⟨e1,_⟩:=hok b _ z
      obtain ⟨e2,_⟩:=UP b _ z2
      rw [e] at e1;cases e1
      exact e2
 cases hk:K.lookup a with
 | some o=>
  have e:=KX a o hk
  rw [ha] at e
  cases e
  refine core (fun _=>none) (fun _=>.inl rfl) (.inr ⟨_,vs.toArray,_,hk,rfl,rfl,rfl,by rw [List.size_toArray,UO];exact hl,by simpa using rv⟩) (fun b u z=>by have z':(none:Option HO)=some u:=z;cases z') (fun b z=>absurd rfl z) fun z=>absurd rfl z
 | none=>
  refine core (fun b=>if b=a then some (.bS { cls:=.type "list",data:=.seq vs.toArray } (.lst (ns.map V.int))) else none) (fun b=>?_) (.inl (.inr ⟨{ cls:=.type "list",data:=.seq vs.toArray },if_pos rfl⟩)) (fun b u z=>?_) (fun b z=>?_) fun _=>hk
  ·by_cases hb:b=a
   ·exact .inr ⟨_,_,if_pos hb⟩
   ·exact .inl (if_neg hb)
  ·by_cases hb:b=a
   ·have z':=(if_pos hb).symm.trans z
    cases z'
    subst hb
    exact ⟨ha,by rw [List.length_map];exact hl,vs,_,rv,ha⟩
   ·have z':=(if_neg hb).symm.trans z
    cases z'
  ·by_cases hb:b=a
   ·exact hb
   ·exact absurd (if_neg hb) z
end L2
namespace L2
open PySem PySem.Spec PyProof.Rows
theorem G4 {l:PySem.W.OpenLaw}{n k:Nat}{q:Program}{loose:List Str}{XP:(Str→Option Value)→Heap→Prop}{YP:World→Heap→Prop}{d:DefRec}{K:Params→PySem.W.Frag}{CX:World→lg}{sp:World→Sp}{x:Str}
  (hn:l.most=some n) (hn2:n≤sizeLine) (hdf:d.params.defaults=[]) (hr:gA k callerA)
  (hY:∀ (w:World) (h:Heap),YP w h→(K w.params).In h)
  (F:∀ (w:World) (mg:Str→Option Value) (fa:Addr) (h:Heap),(K w.params).In h→h.Ns mainGlobals mg→mg d.name=some (.ref fa)→
   ∃ fd:FuncData,(∀ (s:Shared) (u:Value),BindsTo s fd ⟨[u],[]⟩ [(x,u)])∧
    ∀ base:Heap,(K w.params).In base→base.Ns mainGlobals mg→iw l.prog w (K w.params) mg base (CX w) k fa fd [x] (sp w))
  (jW:∀ (w:World) (H:Hp) (a:Addr) (ns:List Int),ns.length≤n→qh H→fh (K w.params) H a (ns.map V.int)→sp w [.ref a] H (fun v _=>v=.bl true) fun _ _ _=>False)
  (zo:∀ (w:World) (H:Hp) (s:Shared) (e:Value) (s':Shared),CX w [] H s (fun _ _ _=>False) e s'→False) :
  PySem.W.WalkO q loose XP YP l.row.toRowW d [] (fun f vs=>PySem.call f vs):=by
 refine Rx.ve hn hdf fun w s₀ s₁ mg mb fa o pm cd doc a vs ns G Y ho hd hcd hmg hobj hints hlen hg=>?_
 have KX:=hY w _ Y
 obtain ⟨fd,hb,hF⟩:=F w mg fa _ KX G.T.g hmg
 exact BH KX G.T.g G.T.b G.T.builtins G.T.nolimit hg hobj hints (Nat.le_trans hlen hn2) hr hF hb (fun H hO hS=>jW w H a ns hlen hO hS) fun H e s'=>zo w H s₁ e s'
theorem BJ {l:PySem.W.OpenLaw}{n k:Nat}{q:Program}{loose:List Str}{XP:(Str→Option Value)→Heap→Prop}{YP:World→Heap→Prop}{d:DefRec}{K:Params→PySem.W.Frag}{CX:lg}{sp:PySem.W.Frag→Sp}{x:Str}
  (hn:l.most=some n) (hn2:n≤sizeLine) (hdf:d.params.defaults=[]) (hr:gA k callerA)
  (hY:∀ (w:World) (h:Heap),YP w h→(K w.params).In h)
  (F:∀ (w:World) (mg:Str→Option Value) (fa:Addr) (h:Heap),(K w.params).In h→h.Ns mainGlobals mg→mg d.name=some (.ref fa)→
   ∃ fd:FuncData,(∀ (s:Shared) (u:Value),BindsTo s fd ⟨[u],[]⟩ [(x,u)])∧
    ∀ base:Heap,(K w.params).In base→base.Ns mainGlobals mg→iw l.prog w (K w.params) mg base CX k fa fd [x] (sp (K w.params)))
  (jW:∀ (K:PySem.W.Frag) (H:Hp) (a:Addr) (ns:List Int),ns.length≤n→qh H→fh K H a (ns.map V.int)→sp K [.ref a] H (fun v _=>v=.bl true) fun _ _ _=>False)
  (zo:∀ (H:Hp) (s:Shared) (e:Value) (s':Shared),CX [] H s (fun _ _ _=>False) e s'→False) :
  PySem.W.WalkO q loose XP YP l.row.toRowW d [] (fun f vs=>PySem.call f vs):=
 G4 (K:=K) (CX:=fun _=>CX) (sp:=fun w=>sp (K w.params)) hn hn2 hdf hr hY F (fun w H a ns h1 h2 h3=>jW (K w.params) H a ns h1 h2 h3) fun _ H s e s'=>zo H s e s'
end L2
namespace L2
open PySem PySem.Spec PyProof.Rows
noncomputable def aK (s:Stmt):Arguments:=match s with
 | .FunctionDef _ a _ _ _ _ _ _ _ _=>a
 | _=>{ posonlyargs:=[],args:=[],vararg:=none,kwonlyargs:=[],kw_defaults:=[],kwarg:=none,defaults:=[]}
noncomputable def aH (s:Stmt):List Stmt:=match s with
 | .FunctionDef _ _ b _ _ _ _ _ _ _=>b
 | _=>[]
noncomputable def aq (s:Stmt):Scope:=match s with
 | .FunctionDef _ _ _ _ _ _ sc _ _ _=>sc
 | _=>{ kind:=.function,names:=[],isGenerator:=false,isCoroutine:=false }
abbrev lN:lg:=fun _ _ _ _ _ _=>False
abbrev E0:XK:=fun _ _ _=>False
theorem PD {X:Cx}:Passes lN X E0:=fun _ _ _ _ _ _ _ h=>h.elim
structure tE (K:PySem.W.Frag) (x qual:Str) (st:Stmt) (f:Addr) (fd:FuncData):Prop where
 ex:∃ (oc:Value) (od:Option Addr) (kV doc pm:Value) (an:Option Addr) (cdv ct:Value) (osl:Array (Option Value)),
  fd=PySem.W.fnOf x qual (aK st) (aH st) (aq st) .none kV doc pm an cdv ct∧K.lookup f=some ⟨oc,od,.func fd,osl⟩∧PySem.W.codeIn K cdv qual=true
 kp:PySem.W.keepIn K (.ref f)=true
section
variable {P:Program}{w:World}{K:PySem.W.Frag}{mg:Str→Option Value}{base:Heap}
theorem tE.ok {x qual:Str}{st:Stmt}{f:Addr}{fd:FuncData}{N ps:List Str}{k:Nat}{sp:Sp}(F:tE K x qual st f fd) (S:bG N ps (aq st)) (len:∀ vs H Q E,sp vs H Q E→vs.length=ps.length)
  (hbody:∀ (cdv:Value) (A:Around) (outer:List Env) (s:Shared) (H:Hp) (vs:List V) (Q:VK) (E:XK),gA k (A.deeper (envOfC qual (aq st) s.heap.objs.size f cdv))→sp vs H Q E→
   ∃ t,ir (nP lN P w K mg base N qual (aq st) f cdv A outer s H E).qS (aH st) t∧t { nx:=fun _ H'=>Q .bH H',rt:=Q } (start N vs) H):iw P w K mg base lN (k+1) f fd ps sp:=by
 obtain ⟨oc,od,kV,doc,pm,an,cdv,ct,osl,rfl,lk,hcd⟩:=F.ex
 refine Px lk hcd S len fun A outer s H vs Q E hr jW=>?_
 obtain ⟨t,h,q⟩:=hbody cdv A outer s H vs Q E hr jW
 exact ⟨t,h.qS,q⟩
theorem tE.binds {x qual:Str}{st:Stmt}{f:Addr}{fd:FuncData}{ps:List Str}(F:tE K x qual st f fd)
  (h:∀ (kV doc pm:Value) (an:Option Addr) (cdv ct:Value) (us:List Value),us.length=ps.length→bindArgs (PySem.W.fnOf x qual (aK st) (aH st) (aq st) .none kV doc pm an cdv ct) ⟨us,[]⟩=pure (ps.zip us)):Binds K fd ps []:=by
 obtain ⟨oc,od,kV,doc,pm,an,cdv,ct,osl,rfl,lk,hcd⟩:=F.ex
 exact .all (h kV doc pm an cdv ct)
theorem cC {x qual:Str}{st:Stmt}{f:Addr}{oc:Value}{od an:Option Addr}{osl:Array (Option Value)}{kV doc pm cdv ct:Value}(l:K.lookup f=some ⟨oc,od,.func (PySem.W.fnOf x qual (aK st) (aH st) (aq st) .none kV doc pm an cdv ct),osl⟩)
  (c:PySem.W.codeIn K cdv qual=true) (k:PySem.W.keepIn K (.ref f)=true):tE K x qual st f (PySem.W.fnOf x qual (aK st) (aH st) (aq st) .none kV doc pm an cdv ct):=⟨⟨oc,od,kV,doc,pm,an,cdv,ct,osl,rfl,l,c⟩,k⟩
end
section
variable {X:Cx}
theorem pv (i:Nat) {x:Str}{pos:Pos}(hN:X.N[i]?=some x:=by rfl) (hv:yU X.env.scope x:=by first | exact Or.inl rfl | exact Or.inr (Or.inl rfl) | exact Or.inr (Or.inr rfl)) (hd:(x==("__debug__" : Str))=false:=by decide)
  (hcd:(x==("__classdict__" : Str))=false:=by decide):PE X (.Name x pos) (Jl i):=yW hN hv hd hcd
end
end L2
namespace Ev
inductive D where
 | bH | bl (b:Bool) | int (i:Int) | str (s:List Nat) | tup (ds:List D) | ref (n:Nat)
inductive O where
 | lst (ds:List D) | bS (ds:List D)
abbrev Hh:=List O
abbrev Fr:=List (Option D)
inductive R (α:Type) where
 | ok (a:α) (h:Hh)
 | bad
noncomputable def R.bind {α β:Type}(r:R α) (f:α→Hh→R β):R β:=
 match r with
 | .ok a h=>f a h
 | .bad=>.bad
@[simp] theorem ao {α β:Type} (a:α) (h:Hh) (f:α→Hh→R β):(R.ok a h).bind f=f a h:=rfl
@[simp] theorem BK {α β:Type} (f:α→Hh→R β):(R.bad:R α).bind f=.bad:=rfl
theorem ai {α β:Type}{r:R α}{f:α→Hh→R β}{b:β}{h:Hh}(e:r.bind f=.ok b h):∃ a h1,r=.ok a h1∧f a h1=.ok b h:=by
 cases r with
 | ok a h1=>exact ⟨a,h1,rfl,e⟩
 | bad=>cases e
noncomputable def R.of {α:Type}(o:Option α) (h:Hh):R α:=match o with
 | some a=>.ok a h
 | none=>.bad
@[simp] theorem eF {α:Type} (a:α) (h:Hh):R.of (some a) h=.ok a h:=rfl
@[simp] theorem of_none {α:Type} (h:Hh):R.of (none:Option α) h=.bad:=rfl
theorem aO {α:Type}{o:Option α}{h h':Hh}{a:α}(e:R.of o h=.ok a h'):o=some a∧h'=h:=by
 cases o with
 | none=>cases e
 | some b=>cases e;exact ⟨rfl,rfl⟩
inductive bV where
 | add | sub | mul | fdiv | mod
inductive bQ where
 | eq | ne | lt | gt
inductive TY where
 | int | bool | str | tuple | list
inductive BI where
 | len | sum | min
 | jE
inductive ME where
 | join | append | extend | pop
 | iJ
inductive T where
 | one (i:Nat) | many (l:List Nat)
mutual
inductive E where
 | c (d:D) | v (i:Nat) | tup (es:Es) | lst (es:Es)
 | bin (o:bV) (a b:E) | cmp (o:bQ) (a b:E)
 | nt (a:E) | neg (a:E) | an (a b:E) | orr (a b:E) | ly (t a b:E)
 | ix (a b:E) | sl (a:E) (lo hi:Eo)
 | rv (a:E)
 | lz (a:E)
 | cl (f:Nat) (es:Es) | bi (b:BI) (es:Es) | me (m:ME) (o:E) (es:Es)
 | comp (elt:E) (t:T) (it:It) (cond:Eo)
 | gn (it:It)
 | lO (kvs:List (D×D)) (a:E) | iZ (a:E)
inductive Es where
 | nil | cons (e:E) (es:Es)
inductive Eo where
 | no | yes (e:E)
inductive It where
 | seq (e:E) | gm (es:Es)
 | enum (a:E) | rev (a:E)
end
mutual
inductive S where
 | set (i:Nat) (e:E) | xw (l:List Nat) (e:E)
 | exp (e:E) | ret (e:E) | iff (t:E) (a b:Ss) | for (t:T) (it:It) (b:Ss) | lP (t:E) (b:Ss)
 | fJ
inductive Ss where
 | nil | cons (s:S) (ss:Ss)
end
inductive Fl where
 | nx | bk | ct | ret (d:D)
noncomputable def big:Nat:=16777216
noncomputable def cD (f:D→D→Option Bool):List D→List D→Option Bool
 | [],[]=>some true
 | x :: xs,y :: ys=>do
  let b ←f x y
  let c ←cD f xs ys
  pure (b&&c)
 | _,_=>some false
noncomputable def bu (h:Hh) (n:Nat):Option (List D):=match h[n]? with
 | some (.lst ds)=>some ds
 | some (.bS ds)=>some ds
 | none=>none
noncomputable def b2i (b:Bool):Int:=if b then 1 else 0
noncomputable def jw (h:Hh) (f:D→D→Option Bool) (a b:Nat):Option Bool:=if a=b then (bu h a).map fun _=>true else match h[a]?,h[b]? with
 | some (.lst x),some (.lst y)=>cD f x y
 | some (.bS x),some (.lst y)=>cD f x y
 | some (.lst x),some (.bS y)=>cD f x y
 | _,_=>none
noncomputable def iu (h:Hh):Nat→D→D→Option Bool
 | 0,_,_=>none
 | _+1,.bH,_=>none
 | _+1,.bl _,_=>none
 | _+1,_,.bH=>none
 | _+1,_,.bl _=>none
 | _+1,.int a,.int b=>some (a==b)
 | _+1,.str a,.str b=>some (a==b)
 | n+1,.tup a,.tup b=>cD (iu h n) a b
 | n+1,.ref a,.ref b=>jw h (iu h n) a b
 | _+1,.ref a,_=>(bu h a).map fun _=>false
 | _+1,_,.ref a=>(bu h a).map fun _=>false
 | _+1,_,_=>some false
noncomputable def deep:Nat:=20
noncomputable def truthy (h:Hh):D→Option Bool
 | .bH=>some false
 | .bl b=>some b
 | .int i=>some (i != 0)
 | .str s=>some (!s.isEmpty)
 | .tup ds=>some (!ds.isEmpty)
 | .ref n=>(bu h n).map fun ds=>!ds.isEmpty
noncomputable def alloc (ds:List D) (h:Hh):R D:=if ds.length≤big then .ok (.ref h.length) (h++[.lst ds]) else .bad
noncomputable def rep {α:Type}(k:Nat) (l:List α):List α:=(List.replicate k l).flatten
noncomputable def cB (i j:Int):Bool:=(decide (-(2 ^ 64)<i)&&decide (i<2 ^ 64)) || (decide (-(2 ^ 64)<j)&&decide (j<2 ^ 64))
noncomputable def bT:bV→D→D→Hh→R D
 | .add,.int i,.int j,h=>.ok (.int (i+j)) h
 | .add,.str a,.str b,h=>if a.length+b.length≤big then .ok (.str (a++b)) h else .bad
 | .add,.tup a,.tup b,h=>if a.length+b.length≤big then .ok (.tup (a++b)) h else .bad
 | .add,.ref a,.ref b,h=>match h[a]?,h[b]? with
  | some (.lst x),some (.lst y)=>alloc (x++y) h
  | _,_=>.bad
 | .sub,.int i,.int j,h=>.ok (.int (i - j)) h
 | .mul,.int i,.int j,h=>if cB i j then .ok (.int (i*j)) h else .bad
 | .mul,.str a,.int k,h=>if 0≤k∧k≤1000∧a.length≤1000 then .ok (.str (rep k.toNat a)) h else .bad
 | .mul,.tup a,.int k,h=>if 0≤k∧k≤1000∧a.length≤1000 then .ok (.tup (rep k.toNat a)) h else .bad
 | .mul,.ref a,.int k,h=>match h[a]? with
  | some (.lst x)=>if 0≤k∧k≤1000∧x.length≤1000 then alloc (rep k.toNat x) h else .bad
  | _=>.bad
 | .fdiv,.int i,.int j,h=>if 0<j∧j<1073741824 then .ok (.int (i / j)) h else .bad
 | .mod,.int i,.int j,h=>if 0<j then .ok (.int (i % j)) h else .bad
 | _,_,_,_=>.bad
noncomputable def cop (o:bQ) (x y:D) (h:Hh):Option Bool:=match o,x,y with
 | .eq,x,y=>iu h deep x y
 | .ne,x,y=>(iu h deep x y).map (!·)
 | .lt,.int i,.int j=>some (decide (i<j))
 | .gt,.int i,.int j=>some (decide (j<i))
 | _,_,_=>none
noncomputable def er (n:Nat) (i:Int):Option Nat:=if 0≤i then (if i<n then some i.toNat else none) else if -(n:Int)≤i then some (i+n).toNat else none
noncomputable def bN {α:Type}(xs:List α) (i:Int):Option α:=(er xs.length i).bind fun j=>xs[j]?
noncomputable def fK (x y:D) (h:Hh):Option D:=match x,y with
 | .tup ds,.int i=>bN ds i
 | .str s,.int i=>(bN s i).map fun c=>.str [c]
 | .ref n,.int i=>(bu h n).bind fun ds=>bN ds i
 | _,_=>none
noncomputable def aS (n d:Nat):Option Int→Nat
 | none=>d
 | some v=>if v<0 then (v+n).toNat else min v.toNat n
noncomputable def cut {α:Type}(xs:List α) (lo hi:Option Int):List α:=(xs.drop (aS xs.length 0 lo)).take (aS xs.length xs.length hi - aS xs.length 0 lo)
noncomputable def fR (x:D) (lo hi:Option Int) (h:Hh):R D:=match x with
 | .tup ds=>.ok (.tup (cut ds lo hi)) h
 | .str s=>.ok (.str (cut s lo hi)) h
 | .ref n=>match bu h n with
  | some ds=>alloc (cut ds lo hi) h
  | none=>.bad
 | _=>.bad
noncomputable def lD (x:D) (h:Hh):R D:=match x with
 | .tup ds=>.ok (.tup ds.reverse) h
 | .ref n=>match bu h n with
  | some ds=>alloc ds.reverse h
  | none=>.bad
 | _=>.bad
noncomputable def boolsOf:List D→Option (List Bool)
 | []=>some []
 | .bl b :: ds=>(boolsOf ds).map fun r=>b :: r
 | _=>none
noncomputable def intsOf:List D→Option (List Int)
 | []=>some []
 | .int i :: ds=>(intsOf ds).map fun r=>i :: r
 | _=>none
noncomputable def strsOf:List D→Option (List (List Nat))
 | []=>some []
 | .str s :: ds=>(strsOf ds).map fun r=>s :: r
 | _=>none
noncomputable def cT (sep:List Nat):List (List Nat)→List Nat
 | []=>[]
 | [s]=>s
 | s :: t :: r=>s++sep++cT sep (t :: r)
noncomputable def lexLe:List Nat→List Nat→Bool
 | [],_=>true
 | _ :: _,[]=>false
 | x :: xs,y :: ys=>if x=y then lexLe xs ys else decide (x<y)
noncomputable def J6 (x:List Nat):List (List Nat)→List (List Nat)
 | []=>[x]
 | y :: ys=>if lexLe x y then x :: y :: ys else y :: J6 x ys
noncomputable def ef:List (List Nat)→List (List Nat)
 | []=>[]
 | x :: xs=>J6 x (ef xs)
noncomputable def insI (x:Int):List Int→List Int
 | []=>[x]
 | y :: ys=>if x≤y then x :: y :: ys else y :: insI x ys
noncomputable def sortI:List Int→List Int
 | []=>[]
 | x :: xs=>insI x (sortI xs)
noncomputable def dz (b:BI) (xs:List D) (h:Hh):R D:=match b,xs with
 | .len,[.str s]=>if s.length≤big then .ok (.int s.length) h else .bad
 | .len,[.tup ds]=>.ok (.int ds.length) h
 | .len,[.ref n]=>R.of ((bu h n).map fun ds=>.int ds.length) h
 | .sum,[.ref n]=>R.of (((bu h n).bind intsOf).map fun is=>.int is.sum) h
 | .min,[.int i,.int j]=>.ok (.int (if j<i then j else i)) h
 | .jE,[.ref n]=>match (bu h n).bind intsOf with
  | some ss=>if ss.length<64 then alloc ((sortI ss).map .int) h else .bad
  | none=>.bad
 | _,_=>.bad
noncomputable def eN (m:ME) (o:D) (xs:List D) (h:Hh):R D:=match m,o,xs with
 | .join,.str sep,[.ref n]=>match (bu h n).bind strsOf with
  | some ss=>if (ss.map (·.length)).sum+ss.length*sep.length≤big then .ok (.str (cT sep ss)) h else .bad
  | none=>.bad
 | .iJ,.str a,[.str b]=>.ok (.bl (b.isSuffixOf a)) h
 | .append,.ref n,[x]=>match h[n]? with
  | some (.lst ds)=>if ds.length<big then .ok .bH (h.set n (.lst (ds++[x]))) else .bad
  | _=>.bad
 | .extend,.ref n,[.ref m]=>match h[n]?,h[m]? with
  | some (.lst ds),some (.lst es)=>if ds.length+es.length≤big then .ok .bH (h.set n (.lst (ds++es))) else .bad
  | _,_=>.bad
 | .pop,.ref n,[]=>match h[n]? with
  | some (.lst ds)=>match ds[ds.length - 1]? with
   | some x=>.ok x (h.set n (.lst ds.dropLast))
   | none=>.bad
  | _=>.bad
 | _,_,_=>.bad
noncomputable def vK (m:ME) (x:D) (h:Hh):Bool:=match m,x with
 | .join,.str _=>true
 | .join,_=>false
 | .iJ,.str _=>true
 | .iJ,_=>false
 | _,.ref n=>(bu h n).isSome
 | _,_=>false
noncomputable def gY (x:D):List (D×D)→Option D
 | []=>none
 | (k,v) :: r=>match iu [] 1 k x with
  | some true=>some v
  | some false=>gY x r
  | none=>none
abbrev Src:=List D×List (Nat×List D)
noncomputable def gc (h:Hh):D→Option Src
 | .tup ds=>some (ds,[])
 | .str s=>some (s.map fun c=>.str [c],[])
 | .ref n=>(bu h n).map fun ds=>(ds,[(n,ds)])
 | _=>none
noncomputable def range (lo:Int) (n:Nat):List D:=(List.range n).map fun (i:Nat)=>.int (lo+i)
noncomputable def eU:List D→Option Src
 | [.int j]=>if -(2 ^ 62)≤j∧j<2 ^ 62 then some (range 0 j.toNat,[]) else none
 | [.int i,.int j]=>if -(2 ^ 62)≤i∧i<2 ^ 62∧-(2 ^ 62)≤j∧j<2 ^ 62 then some (range i (j - i).toNat,[]) else none
 | _=>none
noncomputable def gx:Int→List D→List D
 | _,[]=>[]
 | k,x :: xs=>.tup [.int k,x] :: gx (k+1) xs
noncomputable def xx (a b:List D):Bool:=@decide (a=b) (Classical.propDecidable _)
theorem q9 (a b:List D):xx a b=true↔a=b:=@decide_eq_true_iff _ (Classical.propDecidable _)
@[simp] theorem xy (a:List D):xx a a=true:=(q9 a a).mpr rfl
noncomputable def stays (h:Hh):List (Nat×List D)→Bool
 | []=>true
 | (n,ds) :: r=>(match bu h n with | some es=>xx es ds | none=>false)&&stays h r
noncomputable def cQ:List Nat→List D→Fr→Option Fr
 | [],[],fr=>some fr
 | i :: is,d :: ds,fr=>cQ is ds (fr.set i (some d))
 | _,_,_=>none
noncomputable def cj:T→D→Fr→Option Fr
 | .one i,d,fr=>some (fr.set i (some d))
 | .many l,.tup ds,fr=>cQ l ds fr
 | _,_,_=>none
noncomputable def slots:T→List Nat
 | .one i=>[i]
 | .many l=>l
noncomputable def undef (t:T) (fr:Fr):Bool:=(slots t).all fun i=>(fr[i]?.join).isNone
noncomputable def BL:D→Option (List D)
 | .tup ds=>some ds
 | _=>none
noncomputable def qi:D→Hh→R D
 | .tup ds,h=>.ok (.tup ds) h
 | .ref n,h=>match bu h n with
  | some ds=>if ds.length≤big then .ok (.tup ds) h else .bad
  | none=>.bad
 | _,_=>.bad
noncomputable def xA:D→Hh→R D
 | .ref n,h=>match bu h n with
  | some ds=>if ds.length≤big then .ok (.tup ds.reverse) h else .bad
  | none=>.bad
 | _,_=>.bad
noncomputable def BN (h:Hh):D→Option Src
 | .ref n=>(bu h n).map fun ds=>(ds,[(n,ds)])
 | _=>none
noncomputable def cL (f:D→Hh→R (Option D)) (ck:List (Nat×List D)):List D→Hh→R (List D)
 | [],h=>if stays h ck then .ok [] h else .bad
 | d :: ds,h=>if stays h ck then (f d h).bind fun o h1=>(cL f ck ds h1).bind fun r h2=>.ok (o.toList++r) h2 else .bad
noncomputable def forL (f:D→Fr→Hh→R (Fl×Fr)) (ck:List (Nat×List D)):List D→Fr→Hh→R (Fl×Fr)
 | [],fr,h=>if stays h ck then .ok (.nx,fr) h else .bad
 | d :: ds,fr,h=>if stays h ck then (f d fr h).bind fun p h1=>match p.1 with
   | .nx=>forL f ck ds p.2 h1
   | .ct=>forL f ck ds p.2 h1
   | .bk=>.ok (.nx,p.2) h1
   | .ret x=>.ok (.ret x,p.2) h1
  else .bad
noncomputable def dU (t:Fr→Hh→R Bool) (f:Fr→Hh→R (Fl×Fr)):Nat→Fr→Hh→R (Fl×Fr)
 | 0,_,_=>.bad
 | n+1,fr,h=>(t fr h).bind fun b h1=>if b then (f fr h1).bind fun p h2=>match p.1 with
   | .nx=>dU t f n p.2 h2
   | .ct=>dU t f n p.2 h2
   | .bk=>.ok (.nx,p.2) h2
   | .ret x=>.ok (.ret x,p.2) h2
  else .ok (.nx,fr) h1
abbrev aU:=Nat→List D→Hh→R D
noncomputable def intOf:D→Option Int
 | .int i=>some i
 | _=>none
mutual
noncomputable def ev (P:aU):E→Fr→Hh→R D
 | .c d,_,h=>.ok d h
 | .v i,fr,h=>R.of (fr[i]?.join) h
 | .tup es,fr,h=>(b7 P es fr h).bind fun ds h1=>if ds.length≤big then .ok (.tup ds) h1 else .bad
 | .lst es,fr,h=>(b7 P es fr h).bind fun ds h1=>alloc ds h1
 | .bin o a b,fr,h=>(ev P a fr h).bind fun x h1=>(ev P b fr h1).bind fun y h2=>bT o x y h2
 | .cmp o a b,fr,h=>(ev P a fr h).bind fun x h1=>(ev P b fr h1).bind fun y h2=>R.of ((cop o x y h2).map .bl) h2
 | .nt a,fr,h=>(ev P a fr h).bind fun x h1=>match x with
   | .bl b=>.ok (.bl (!b)) h1
   | _=>.bad
 | .neg a,fr,h=>(ev P a fr h).bind fun x h1=>match x with
   | .int i=>.ok (.int (-i)) h1
   | _=>.bad
 | .an a b,fr,h=>(ev P a fr h).bind fun x h1=>match x with
   | .bl true=>ev P b fr h1
   | .bl false=>.ok (.bl false) h1
   | _=>.bad
 | .orr a b,fr,h=>(ev P a fr h).bind fun x h1=>match x with
   | .bl true=>.ok (.bl true) h1
   | .bl false=>ev P b fr h1
   | _=>.bad
 | .ly t a b,fr,h=>(aL P t fr h).bind fun k h1=>if k then ev P a fr h1 else ev P b fr h1
 | .ix a b,fr,h=>(ev P a fr h).bind fun x h1=>(ev P b fr h1).bind fun y h2=>R.of (fK x y h2) h2
 | .sl a lo hi,fr,h=>(ev P a fr h).bind fun x h1=>(fL P lo fr h1).bind fun l h2=>(fL P hi fr h2).bind fun u h3=>fR x l u h3
 | .rv a,fr,h=>(ev P a fr h).bind fun x h1=>lD x h1
 | .lz a,fr,h=>(ev P a fr h).bind fun x h1=>xA x h1
 | .cl f es,fr,h=>(b7 P es fr h).bind fun ds h1=>P f ds h1
 | .bi b es,fr,h=>(b7 P es fr h).bind fun ds h1=>dz b ds h1
 | .me m o es,fr,h=>(ev P o fr h).bind fun x h1=>if vK m x h1 then (b7 P es fr h1).bind fun ds h2=>eN m x ds h2 else .bad
 | .comp elt t it cond,fr,h=>(dc P it fr h).bind fun s h1=>if undef t fr then
   (cL (fun d h2=>match cj t d fr with
    | none=>.bad
    | some ay=>(gZ P cond ay h2).bind fun k h3=>if k then (ev P elt ay h3).bind fun x h4=>.ok (some x) h4 else .ok none h3) s.2 s.1 h1).bind fun ds h2=>alloc ds h2 else .bad
 | .gn it,fr,h=>(dc P it fr h).bind fun s h1=>alloc s.1 h1
 | .lO kvs a,fr,h=>(ev P a fr h).bind fun x h1=>R.of (gY x kvs) h1
 | .iZ a,fr,h=>(ev P a fr h).bind fun x h1=>qi x h1
noncomputable def b7 (P:aU):Es→Fr→Hh→R (List D)
 | .nil,_,h=>.ok [] h
 | .cons e es,fr,h=>(ev P e fr h).bind fun d h1=>(b7 P es fr h1).bind fun ds h2=>.ok (d :: ds) h2
noncomputable def fL (P:aU):Eo→Fr→Hh→R (Option Int)
 | .no,_,h=>.ok none h
 | .yes e,fr,h=>(ev P e fr h).bind fun d h1=>R.of ((intOf d).map some) h1
noncomputable def gZ (P:aU):Eo→Fr→Hh→R Bool
 | .no,_,h=>.ok true h
 | .yes e,fr,h=>aL P e fr h
noncomputable def aL (P:aU):E→Fr→Hh→R Bool
 | .an a b,fr,h=>(aL P a fr h).bind fun k h1=>if k then aL P b fr h1 else .ok false h1
 | .orr a b,fr,h=>(aL P a fr h).bind fun k h1=>if k then .ok true h1 else aL P b fr h1
 | .nt a,fr,h=>(aL P a fr h).bind fun k h1=>.ok (!k) h1
 | e,fr,h=>(ev P e fr h).bind fun x h1=>R.of (truthy h1 x) h1
noncomputable def dc (P:aU):It→Fr→Hh→R Src
 | .seq e,fr,h=>(ev P e fr h).bind fun x h1=>R.of (gc h1 x) h1
 | .gm es,fr,h=>(b7 P es fr h).bind fun ds h1=>R.of (eU ds) h1
 | .enum a,fr,h=>(ev P a fr h).bind fun x h1=>R.of ((BN h1 x).map fun s=>(gx 0 s.1,s.2)) h1
 | .rev a,fr,h=>(ev P a fr h).bind fun x h1=>R.of ((BL x).map fun ds=>(ds.reverse,[])) h1
end
mutual
noncomputable def ex (P:aU) (w:Nat):S→Fr→Hh→R (Fl×Fr)
 | .set i e,fr,h=>(ev P e fr h).bind fun x h1=>.ok (.nx,fr.set i (some x)) h1
 | .xw l e,fr,h=>(ev P e fr h).bind fun x h1=>match cj (.many l) x fr with
   | some ay=>.ok (.nx,ay) h1
   | none=>.bad
 | .exp e,fr,h=>(ev P e fr h).bind fun _ h1=>.ok (.nx,fr) h1
 | .ret e,fr,h=>(ev P e fr h).bind fun x h1=>.ok (.ret x,fr) h1
 | .iff t a b,fr,h=>(aL P t fr h).bind fun k h1=>if k then exs P w a fr h1 else exs P w b fr h1
 | .for t it b,fr,h=>(dc P it fr h).bind fun s h1=>forL (fun d ay h2=>match cj t d ay with
   | some cX=>exs P w b cX h2
   | none=>.bad) s.2 s.1 fr h1
 | .lP t b,fr,h=>dU (fun ay h2=>aL P t ay h2) (fun ay h2=>exs P w b ay h2) w fr h
 | .fJ,_,_=>.bad
noncomputable def exs (P:aU) (w:Nat):Ss→Fr→Hh→R (Fl×Fr)
 | .nil,fr,h=>.ok (.nx,fr) h
 | .cons s ss,fr,h=>(ex P w s fr h).bind fun p h1=>match p.1 with
   | .nx=>exs P w ss p.2 h1
   | _=>.ok p h1
end
structure Fn where
 np:Nat
 ns:Nat
 body:Ss
noncomputable def fz (fn:Fn) (ds:List D):Fr:=ds.map some++List.replicate (fn.ns - fn.np) none
noncomputable def endOf (r:R (Fl×Fr)):R D:=r.bind fun p h=>match p.1 with
 | .ret d=>.ok d h
 | .nx=>.ok .bH h
 | _=>.bad
noncomputable def run (F:List Fn) (w:Nat):Nat→aU
 | 0,_,_,_=>.bad
 | n+1,f,ds,h=>match F[f]? with
  | some fn=>if ds.length=fn.np then endOf (exs (run F w n) w fn.body (fz fn ds) h) else .bad
  | none=>.bad
end Ev
set_option maxRecDepth 100000
namespace Sm
open PySem PySem.Spec PyProof.Rows L2
noncomputable def bh (l:List Nat):Str:=⟨l.toArray⟩
theorem cy (l:List Nat):(bh l).length=l.length:=by simp [bh,Str.length]
theorem vL {a b:List Nat}(h:bh a=bh b):a=b:=by
 have h1:a.toArray=b.toArray:=congrArg Str.cps h
 simpa using congrArg Array.toList h1
theorem iQ:Ev.big=sizeLine:=by rw [sizeLine_eq];rfl
section
variable (K:PySem.W.Frag)
mutual
noncomputable def RV (H:Hp) (r:List Addr):Ev.D→V→Prop
 | .bH,v=>v=.bH
 | .bl b,v=>v=.bl b
 | .int i,v=>v=.int i
 | .str s,v=>v=.str (bh s)∧s.length≤sizeLine
 | .ref n,v=>∃ a,v=.ref a∧r[n]?=some a
 | .tup ds,v=>∃ a vs,v=.ref a∧dG K H a vs∧aI H r ds vs
noncomputable def aI (H:Hp) (r:List Addr):List Ev.D→List V→Prop
 | [],vs=>vs=[]
 | d :: ds,vs=>∃ v w,vs=v :: w∧RV H r d v∧aI H r ds w
end
noncomputable def xB (H:Hp) (a:Addr) (vs:List V):Prop:=(∃ o,H a=some (.bS o (.lst vs)))∨
 ∃ (o:Obj) (its:Array Value) (n:Nat),K.lookup a=some o∧o.cls=.type "list" ∧o.dict=none∧o.data=.seq its n∧its.size≤sizeLine∧Vals vs its.toList
noncomputable def RO (H:Hp) (r:List Addr):Ev.O→Addr→Prop
 | .lst ds,a=>∃ vs,H a=some (.lst vs)∧aI K H r ds vs
 | .bS ds,a=>∃ vs,xB K H a vs∧aI K H r ds vs
structure HR (H:Hp) (r:List Addr) (h:Ev.Hh):Prop where
 len:r.length=h.length
 ob:∀ (n:Nat) o,h[n]?=some o→∃ a,r[n]?=some a∧RO K H r o a
 inj:∀ (n m:Nat) a x y,r[n]?=some a→r[m]?=some a→h[n]?=some (.lst x)→h[m]?=some (.lst y)→n=m
structure Fm (r r':List Addr) (H H':Hp):Prop where
 pre:∀ (n:Nat) a,r[n]?=some a→r'[n]?=some a
 new:∀ a∈r',a∈r∨H a=none
 keep:∀ a o,H a=some o→a∉r→H' a=some o
 tups:∀ a vs,dG K H a vs→dG K H' a vs
end
section
variable {K:PySem.W.Frag}{H H1 H2:Hp}{r r1 r2:List Addr}{h:Ev.Hh}
theorem Fm.refl:Fm K r r H H:=⟨fun _ _ e=>e,fun _ e=>.inl e,fun _ _ e _=>e,fun _ _ e=>e⟩
theorem Fm.trans (a:Fm K r r1 H H1) (b:Fm K r1 r2 H1 H2):Fm K r r2 H H2 where
 pre:=fun n x e=>b.pre n x (a.pre n x e)
 new:=fun x e=>by
  rcases b.new x e with q | q
  ·exact a.new x q
  ·by_cases z:x∈r
   ·exact .inl z
   ·refine .inr ?_
    cases w:H x with
    | none=>rfl
    | some o=>rw [a.keep x o w z] at q;cases q
 keep:=fun x o e n=>by
  refine b.keep x o (a.keep x o e n) fun z=>?_
  rcases a.new x z with q | q
  ·exact n q
  ·rw [e] at q;cases q
 tups:=fun x vs e=>b.tups x vs (a.tups x vs e)
mutual
theorem RV.grow (f:∀ (n:Nat) a,r[n]?=some a→r1[n]?=some a) (g:∀ a vs,dG K H a vs→dG K H1 a vs):∀ {d:Ev.D}{v:V},RV K H r d v→RV K H1 r1 d v
 | .bH,_,e=>e
 | .bl _,_,e=>e
 | .int _,_,e=>e
 | .str _,_,e=>e
 | .ref n,_,⟨a,e,z⟩=>⟨a,e,f n a z⟩
 | .tup ds,_,⟨a,vs,e,z,q⟩=>⟨a,vs,e,g a vs z,aI.grow f g q⟩
theorem aI.grow (f:∀ (n:Nat) a,r[n]?=some a→r1[n]?=some a) (g:∀ a vs,dG K H a vs→dG K H1 a vs):∀ {ds:List Ev.D}{vs:List V},aI K H r ds vs→aI K H1 r1 ds vs
 | [],_,e=>e
 | _ :: _,_,⟨v,w,e,z,q⟩=>⟨v,w,e,RV.grow f g z,aI.grow f g q⟩
end
theorem RV.mono (f:Fm K r r1 H H1) {d:Ev.D}{v:V}(q:RV K H r d v):RV K H1 r1 d v:=q.grow f.pre f.tups
theorem aI.mono (f:Fm K r r1 H H1) {ds:List Ev.D}{vs:List V}(q:aI K H r ds vs):aI K H1 r1 ds vs:=q.grow f.pre f.tups
theorem aI.nil:aI K H r [] []:=by simp [aI]
theorem aI.cons {d:Ev.D}{v:V}{ds:List Ev.D}{vs:List V}(a:RV K H r d v) (b:aI K H r ds vs):aI K H r (d :: ds) (v :: vs):=by
 simp only [aI];exact ⟨v,vs,rfl,a,b⟩
theorem aI.length:∀ {ds:List Ev.D}{vs:List V},aI K H r ds vs→vs.length=ds.length
 | [],_,e=>by simp only [aI] at e;subst e;rfl
 | _ :: _,_,e=>by
  simp only [aI] at e
  obtain ⟨v,w,rfl,_,q⟩:=e
  simp [aI.length q]
theorem aI.get:∀ {ds:List Ev.D}{vs:List V}{i:Nat}{d:Ev.D},aI K H r ds vs→ds[i]?=some d→∃ v,vs[i]?=some v∧RV K H r d v
 | [],_,_,_,_,e=>by simp at e
 | _ :: _,_,0,_,h,e=>by
  simp only [aI] at h
  obtain ⟨v,w,rfl,z,q⟩:=h
  simp at e;subst e
  exact ⟨v,by simp,z⟩
 | _ :: _,_,i+1,_,h,e=>by
  simp only [aI] at h
  obtain ⟨v,w,rfl,z,q⟩:=h
  obtain ⟨u,a,b⟩:=aI.get (i:=i) q (by simpa using e)
  exact ⟨u,by simpa using a,b⟩
theorem aI.append:∀ {ds es:List Ev.D}{vs ws:List V},aI K H r ds vs→aI K H r es ws→aI K H r (ds++es) (vs++ws)
 | [],_,_,_,a,b=>by simp only [aI] at a;subst a;simpa using b
 | _ :: _,_,_,_,a,b=>by
  simp only [aI] at a
  obtain ⟨v,w,rfl,z,q⟩:=a
  simp only [List.cons_append]
  exact .cons z (aI.append q b)
theorem aI.take:∀ {ds:List Ev.D}{vs:List V}(n:Nat),aI K H r ds vs→aI K H r (ds.take n) (vs.take n)
 | _,_,0,_=>by simp [aI]
 | [],_,_+1,a=>by simp only [aI] at a;subst a;simp [aI]
 | _ :: _,_,n+1,a=>by
  simp only [aI] at a
  obtain ⟨v,w,rfl,z,q⟩:=a
  simp only [List.take_succ_cons]
  exact .cons z (aI.take n q)
theorem aI.drop:∀ {ds:List Ev.D}{vs:List V}(n:Nat),aI K H r ds vs→aI K H r (ds.drop n) (vs.drop n)
 | _,_,0,a=>by simpa using a
 | [],_,_+1,a=>by simp only [aI] at a;subst a;simp [aI]
 | _ :: _,_,n+1,a=>by
  simp only [aI] at a
  obtain ⟨v,w,rfl,z,q⟩:=a
  simp only [List.drop_succ_cons]
  exact aI.drop n q
theorem aI.reverse:∀ {ds:List Ev.D}{vs:List V},aI K H r ds vs→aI K H r ds.reverse vs.reverse
 | [],_,a=>by simp only [aI] at a;subst a;simp [aI]
 | _ :: _,_,a=>by
  simp only [aI] at a
  obtain ⟨v,w,rfl,z,q⟩:=a
  simp only [List.reverse_cons]
  exact (aI.reverse q).append (.cons z .nil)
theorem aI.rep {ds:List Ev.D}{vs:List V}(a:aI K H r ds vs):∀ k:Nat,aI K H r (Ev.rep k ds) (Ev.rep k vs)
 | 0=>by simp [Ev.rep,aI]
 | k+1=>by
  have h:=aI.rep a k
  simp only [Ev.rep,List.replicate_succ,List.flatten_cons] at h ⊢
  exact a.append h
theorem Fm.laid {p:Addr}{o:HO}(hp:H p=none):Fm K r (r++[p]) H (upd H p o) where
 pre:=fun n a e=>by rw [List.getElem?_append_left (List.getElem?_eq_some_iff.mp e).1];exact e
 new:=fun a e=>by
  rcases List.mem_append.mp e with q | q
  ·exact .inl q
  ·rw [List.mem_singleton] at q;subst q;exact .inr hp
 keep:=fun a ob e _=>by rw [bE (b5 e hp)];exact e
 tups:=fun a vs e=>by
  rcases e with (e | ⟨ob,e⟩) | e
  ·exact .inl (.inl (by rw [bE (b5 e hp)];exact e))
  ·exact .inl (.inr ⟨ob,by rw [bE (b5 e hp)];exact e⟩)
  ·exact .inr e
theorem Fm.tup {p:Addr}{o:HO}(hp:H p=none):Fm K r r H (upd H p o) where
 pre:=fun n a e=>e
 new:=fun a e=>.inl e
 keep:=fun a ob e _=>by rw [bE (b5 e hp)];exact e
 tups:=(Fm.laid (r:=r) hp).tups
theorem RO.mono {o:Ev.O}{a:Addr}(f:Fm K r r1 H H1) (q:RO K H r o a) (hl:∀ ds vs,o=.lst ds→H a=some (.lst vs)→H1 a=some (.lst vs)) (hf:∀ ob vs,H a=some (.bS ob vs)→H1 a=some (.bS ob vs)):RO K H1 r1 o a:=by
 cases o with
 | lst ds=>
  obtain ⟨vs,e,z⟩:=q
  exact ⟨vs,hl ds vs rfl e,z.mono f⟩
 | bS ds=>
  obtain ⟨vs,e,z⟩:=q
  refine ⟨vs,?_,z.mono f⟩
  rcases e with ⟨ob,e⟩ | e
  ·exact .inl ⟨ob,hf _ _ e⟩
  ·exact .inr e
theorem HR.tup {p:Addr}{o:HO}(hr:HR K H r h) (hp:H p=none):HR K (upd H p o) r h where
 len:=hr.len
 ob:=fun n ob e=>by
  obtain ⟨a,e1,q⟩:=hr.ob n ob e
  exact ⟨a,e1,q.mono (Fm.tup hp) (fun _ vs _ z=>by rw [bE (b5 z hp)];exact z) fun _ _ z=>by rw [bE (b5 z hp)];exact z⟩
 inj:=hr.inj
theorem HR.lst {p:Addr}{ds:List Ev.D}{vs:List V}(hr:HR K H r h) (hp:H p=none) (q:aI K H r ds vs):HR K (upd H p (.lst vs)) (r++[p]) (h++[.lst ds]) where
 len:=by simp [hr.len]
 ob:=fun n ob e=>by
  by_cases hn:n<h.length
  ·rw [List.getElem?_append_left hn] at e
   obtain ⟨a,e1,z⟩:=hr.ob n ob e
   exact ⟨a,(Fm.laid (K:=K) (o:=.lst vs) hp).pre n a e1,z.mono (Fm.laid hp) (fun _ vs _ z=>by rw [bE (b5 z hp)];exact z) fun _ _ z=>by rw [bE (b5 z hp)];exact z⟩
  ·have e2:=(List.getElem?_eq_some_iff.mp e).1
   simp only [List.length_append,List.length_singleton] at e2
   have e3:n=h.length:=by omega
   subst e3
   simp at e
   subst e
   exact ⟨p,by rw [←hr.len];simp,vs,gz,q.mono (Fm.laid hp)⟩
 inj:=fun n m a x y e1 e2 e3 e4=>by
  have out:∀ (k:Nat) z,(h++[Ev.O.lst ds])[k]?=some (.lst z)→(r++[p])[k]?=some a→(k<h.length∧r[k]?=some a∧h[k]?=some (.lst z)∧a≠p)∨(k=h.length∧a=p):=fun k z q1 q2=>by
   by_cases hk:k<h.length
   ·rw [List.getElem?_append_left hk] at q1
    rw [List.getElem?_append_left (by rw [hr.len];exact hk)] at q2
    obtain ⟨b,e5,vs',e6,_⟩:=hr.ob k _ q1
    rw [q2] at e5;cases e5
    exact .inl ⟨hk,q2,q1,b5 e6 hp⟩
   ·have e5:=(List.getElem?_eq_some_iff.mp q1).1
    simp only [List.length_append,List.length_singleton] at e5
    have e6:k=r.length:=by rw [hr.len];omega
    subst e6
    simp at q2
    exact .inr ⟨hr.len,q2.symm⟩
  rcases out n x e3 e1 with ⟨h1,h2,h3,h4⟩ | ⟨h1,h2⟩
  ·rcases out m y e4 e2 with ⟨k1,k2,k3,k4⟩ | ⟨k1,k2⟩
   ·exact hr.inj n m a x y h2 k2 h3 k3
   ·exact absurd k2 h4
  ·rcases out m y e4 e2 with ⟨k1,k2,k3,k4⟩ | ⟨k1,k2⟩
   ·exact absurd h2 k4
   ·rw [h1,k1]
theorem HR.read {n:Nat}{ds:List Ev.D}(hr:HR K H r h) (e:Ev.bu h n=some ds):∃ a vs,r[n]?=some a∧fh K H a vs∧aI K H r ds vs:=by
 unfold Ev.bu at e
 split at e
 ·rename_i z
  cases e
  obtain ⟨a,e1,vs,e2,e3⟩:=hr.ob n _ z
  exact ⟨a,vs,e1,.inl (.inl e2),e3⟩
 ·rename_i z
  cases e
  obtain ⟨a,e1,vs,e2,e3⟩:=hr.ob n _ z
  refine ⟨a,vs,e1,?_,e3⟩
  rcases e2 with ⟨ob,e2⟩ | e2
  ·exact .inl (.inr ⟨ob,e2⟩)
  ·exact .inr e2
 ·cases e
theorem Fm.write {a:Addr}{vs ws:List V}(ha:H a=some (.lst vs)) (hm:a∈r):Fm K r r H (upd H a (.lst ws)) where
 pre:=fun n b e=>e
 new:=fun b e=>.inl e
 keep:=fun b ob e n=>by rw [bE (fun z=>n (by rw [z];exact hm))];exact e
 tups:=fun b us e=>by
  rcases e with (e | ⟨ob,e⟩) | e
  ·exact .inl (.inl (by rw [bE (oE e ha (by intro z;cases z))];exact e))
  ·exact .inl (.inr ⟨ob,by rw [bE (oE e ha (by intro z;cases z))];exact e⟩)
  ·exact .inr e
theorem HR.write {n:Nat}{a:Addr}{ds es:List Ev.D}{vs ws:List V}(hr:HR K H r h) (hn:h[n]?=some (.lst ds)) (J7:r[n]?=some a) (ha:H a=some (.lst vs)) (q:aI K H r es ws) :
  HR K (upd H a (.lst ws)) r (h.set n (.lst es)) where
 len:=by simp [hr.len]
 ob:=fun m ob e=>by
  have f:=Fm.write (K:=K) (ws:=ws) ha (List.mem_of_getElem? J7)
  by_cases hm:m=n
  ·subst hm
   rw [List.getElem?_set_self (List.getElem?_eq_some_iff.mp hn).1] at e
   cases e
   exact ⟨a,J7,ws,gz,q.mono f⟩
  ·rw [List.getElem?_set_ne (fun z=>hm z.symm)] at e
   obtain ⟨b,e1,z⟩:=hr.ob m ob e
   refine ⟨b,e1,z.mono f (fun WS us z3 z2=>?_) fun YM us z2=>by rw [bE (oE z2 ha (by intro z;cases z))];exact z2⟩
   by_cases hb:b=a
   ·subst hb
    subst z3
    exact absurd (hr.inj m n b WS ds e1 J7 e hn) hm
   ·rw [bE hb];exact z2
 inj:=fun k m b x y e1 e2 e3 e4=>by
  have back:∀ (j:Nat) z,(h.set n (Ev.O.lst es))[j]?=some (.lst z)→∃ z',h[j]?=some (.lst z'):=fun j z w=>by
   by_cases hj:j=n
   ·subst hj;exact ⟨ds,hn⟩
   ·rw [List.getElem?_set_ne (fun z=>hj z.symm)] at w;exact ⟨z,w⟩
  obtain ⟨x',e5⟩:=back k x e3
  obtain ⟨y',e6⟩:=back m y e4
  exact hr.inj k m b x' y' e1 e2 e5 e6
theorem g6 {p:Addr}{vs ws:List V}(hp:H p=some (.lst vs)):∀ a us,dG K H a us→dG K (upd H p (.lst ws)) a us:=fun b us e=>by
 rcases e with (e | ⟨ob,e⟩) | e
 ·exact .inl (.inl (by rw [bE (oE e hp (by intro z;cases z))];exact e))
 ·exact .inl (.inr ⟨ob,by rw [bE (oE e hp (by intro z;cases z))];exact e⟩)
 ·exact .inr e
theorem HR.other {p:Addr}{vs ws:List V}(hr:HR K H r h) (hp:H p=some (.lst vs)) (hn:p∉r):HR K (upd H p (.lst ws)) r h where
 len:=hr.len
 ob:=fun n ob e=>by
  obtain ⟨a,e1,q⟩:=hr.ob n ob e
  have ha:a≠p:=fun z=>hn (by rw [←z];exact List.mem_of_getElem? e1)
  refine ⟨a,e1,?_⟩
  cases ob with
  | lst ds=>
   obtain ⟨us,e2,e3⟩:=q
   exact ⟨us,by rw [bE ha];exact e2,e3.grow (fun _ _ z=>z) (g6 hp)⟩
  | bS ds=>
   obtain ⟨us,e2,e3⟩:=q
   refine ⟨us,?_,e3.grow (fun _ _ z=>z) (g6 hp)⟩
   rcases e2 with ⟨o,e2⟩ | e2
   ·exact .inl ⟨o,by rw [bE ha];exact e2⟩
   ·exact .inr e2
 inj:=hr.inj
theorem Fm.other {p:Addr}{vs ws:List V}(f:Fm K r r1 H H1) (h0:H p=none) (hp:H1 p=some (.lst vs)):Fm K r r1 H (upd H1 p (.lst ws)) where
 pre:=f.pre
 new:=f.new
 keep:=fun a o e n=>by rw [bE (b5 e h0)];exact f.keep a o e n
 tups:=fun a us e=>g6 hp a us (f.tups a us e)
theorem Fm.xC {p:Addr}{o:HO}(f:Fm K r r1 H H1) (hp:H p=some o) (hn:p∉r):p∉r1∧H1 p=some o:=by
 refine ⟨fun z=>?_,f.keep p o hp hn⟩
 rcases f.new p z with q | q
 ·exact hn q
 ·rw [hp] at q;cases q
theorem HR.known {p:Addr}{ds:List Ev.D}{vs:List V}(hr:HR K H r h) (hp:H p=some (.lst vs)) (hn:p∉r) (q:aI K H r ds vs):HR K H (r++[p]) (h++[.lst ds]):=by
 have pre:∀ (n:Nat) a,r[n]?=some a→(r++[p])[n]?=some a:=fun n a e=>by rw [List.getElem?_append_left (List.getElem?_eq_some_iff.mp e).1];exact e
 refine ⟨by simp [hr.len],fun n ob e=>?_,fun n m a x y e1 e2 e3 e4=>?_⟩
 ·by_cases hk:n<h.length
  ·rw [List.getElem?_append_left hk] at e
   obtain ⟨a,e1,z⟩:=hr.ob n ob e
   refine ⟨a,pre n a e1,?_⟩
   cases ob with
   | lst ds=>obtain ⟨us,e2,e3⟩:=z;exact ⟨us,e2,e3.grow pre fun _ _ z=>z⟩
   | bS ds=>obtain ⟨us,e2,e3⟩:=z;exact ⟨us,e2,e3.grow pre fun _ _ z=>z⟩
  ·have e2:=(List.getElem?_eq_some_iff.mp e).1
   simp only [List.length_append,List.length_singleton] at e2
   have e3:n=h.length:=by omega
   subst e3
   simp at e
   subst e
   exact ⟨p,by rw [←hr.len];simp,vs,hp,q.grow pre fun _ _ z=>z⟩
 ·have out:∀ (k:Nat) z,(h++[Ev.O.lst ds])[k]?=some (.lst z)→(r++[p])[k]?=some a→(k<h.length∧r[k]?=some a∧h[k]?=some (.lst z)∧a≠p)∨(k=h.length∧a=p):=fun k z q1 q2=>by
   by_cases hk:k<h.length
   ·rw [List.getElem?_append_left hk] at q1
    rw [List.getElem?_append_left (by rw [hr.len];exact hk)] at q2
    exact .inl ⟨hk,q2,q1,fun z=>hn (by rw [←z];exact List.mem_of_getElem? q2)⟩
   ·have e5:=(List.getElem?_eq_some_iff.mp q1).1
    simp only [List.length_append,List.length_singleton] at e5
    have e6:k=r.length:=by rw [hr.len];omega
    subst e6
    simp at q2
    exact .inr ⟨hr.len,q2.symm⟩
  rcases out n x e3 e1 with ⟨h1,h2,h3,h4⟩ | ⟨h1,h2⟩
  ·rcases out m y e4 e2 with ⟨k1,k2,k3,k4⟩ | ⟨k1,k2⟩
   ·exact hr.inj n m a x y h2 k2 h3 k3
   ·exact absurd k2 h4
  ·rcases out m y e4 e2 with ⟨k1,k2,k3,k4⟩ | ⟨k1,k2⟩
   ·exact absurd h2 k4
   ·rw [h1,k1]
theorem Fm.known {p:Addr}(f:Fm K r r1 H H1) (h0:H p=none):Fm K r (r1++[p]) H H1 where
 pre:=fun n a e=>by
  have e':=f.pre n a e
  rw [List.getElem?_append_left (List.getElem?_eq_some_iff.mp e').1];exact e'
 new:=fun a e=>by
  rcases List.mem_append.mp e with q | q
  ·exact f.new a q
  ·rw [List.mem_singleton] at q;subst q;exact .inr h0
 keep:=f.keep
 tups:=f.tups
end
end Sm
set_option maxRecDepth 100000
namespace Sm
open PySem PySem.Spec PyProof.Rows L2
open Ev (D O Hh Fr R aU E Es Eo It T S Ss Fl Src bV bQ TY BI ME)
section
variable (K:PySem.W.Frag)
noncomputable def Res (r:List Addr) (H:Hp) (h':Hh) (d:D) (Q:VK):Prop:=∀ v H' r',RV K H' r' d v→HR K H' r' h'→Fm K r r' H H'→Q v H'
structure SR (m:List Nat) (H:Hp) (r:List Addr) (fr:Fr) (s:L2.St):Prop where
 len:s.length=m.length
 sl:∀ (j i:Nat) d,m[j]?=some i→fr[i]?=some (some d)→∃ v,s[j]?=some (some v)∧RV K H r d v
inductive tJ (m:List Nat) (P:aU) (e:E) (s:L2.St) (H:Hp) (Q:VK):Prop
 | mk (r:List Addr) (fr:Fr) (h:Hh) (d:D) (h':Hh) (c0:SR K m H r fr s) (c1:HR K H r h) (c2:Ev.ev P e fr h=.ok d h') (c3:Res K r H h' d Q):tJ m P e s H Q
inductive J8 (m:List Nat) (P:aU) (e:E) (s:L2.St) (H:Hp) (Q:Bool→Hp→Prop):Prop
 | mk (r:List Addr) (fr:Fr) (h:Hh) (k:Bool) (h':Hh) (c0:SR K m H r fr s) (c1:HR K H r h) (c2:Ev.aL P e fr h=.ok k h') (c3:∀ H' r',HR K H' r' h'→Fm K r r' H H'→Q k H'):J8 m P e s H Q
inductive J9 (m:List Nat) (P:aU) (es:Es) (s:L2.St) (H:Hp) (Q:List V→Hp→Prop):Prop
 | mk (r:List Addr) (fr:Fr) (h:Hh) (ds:List D) (h':Hh) (c0:SR K m H r fr s) (c1:HR K H r h) (c2:Ev.b7 P es fr h=.ok ds h') (c3:∀ vs H' r',aI K H' r' ds vs→HR K H' r' h'→Fm K r r' H H'→Q vs H'):J9 m P es s H Q
inductive Rz (m:List Nat) (P:aU) (e:Eo) (s:L2.St) (H:Hp) (Q:Option Int→Hp→Prop):Prop
 | mk (r:List Addr) (fr:Fr) (h:Hh) (o:Option Int) (h':Hh) (c0:SR K m H r fr s) (c1:HR K H r h) (c2:Ev.fL P e fr h=.ok o h') (c3:∀ H' r',HR K H' r' h'→Fm K r r' H H'→Q o H'):Rz m P e s H Q
inductive iR (f:D→D→Hh→R D) (x:V) (y:V) (H:Hp) (Q:VK):Prop
 | mk (r:List Addr) (h:Hh) (a:D) (b:D) (d:D) (h':Hh) (c0:HR K H r h) (c1:RV K H r a x) (c2:RV K H r b y) (c3:f a b h=.ok d h') (c4:Res K r H h' d Q):iR f x y H Q
inductive WT (f:D→Hh→R D) (x:V) (H:Hp) (Q:VK):Prop
 | mk (r:List Addr) (h:Hh) (a:D) (d:D) (h':Hh) (c0:HR K H r h) (c1:RV K H r a x) (c2:f a h=.ok d h') (c3:Res K r H h' d Q):WT f x H Q
inductive tF (f:List D→Hh→R D) (xs:List V) (H:Hp) (Q:VK):Prop
 | mk (r:List Addr) (h:Hh) (as:List D) (d:D) (h':Hh) (c0:HR K H r h) (c1:aI K H r as xs) (c2:f as h=.ok d h') (c3:Res K r H h' d Q):tF f xs H Q
inductive ri (f:D→List D→Hh→R D) (x:V) (xs:List V) (H:Hp) (Q:VK):Prop
 | mk (r:List Addr) (h:Hh) (a:D) (as:List D) (d:D) (h':Hh) (c0:HR K H r h) (c1:RV K H r a x) (c2:aI K H r as xs) (c3:f a as h=.ok d h') (c4:Res K r H h' d Q):ri f x xs H Q
inductive Ka  (x:V) (lo:Option Int) (hi:Option Int) (H:Hp) (Q:VK):Prop
 | mk (r:List Addr) (h:Hh) (a:D) (d:D) (h':Hh) (c0:HR K H r h) (c1:RV K H r a x) (c2:Ev.fR a lo hi h=.ok d h') (c3:Res K r H h' d Q):Ka x lo hi H Q
end
section
variable {K:PySem.W.Frag}{m:List Nat}{H H':Hp}{r r':List Addr}{fr:Fr}{s:L2.St}{h h':Hh}{d:D}{Q:VK}
theorem SR.mono (a:SR K m H r fr s) (f:Fm K r r' H H'):SR K m H' r' fr s:=⟨a.len,fun j i d e1 e2=>by
 obtain ⟨v,q,z⟩:=a.sl j i d e1 e2
 exact ⟨v,q,z.mono f⟩⟩
theorem Res.here {v:V}(q:Res K r H h d Q) (a:RV K H r d v) (b:HR K H r h):Q v H:=q v H r a b .refl
theorem Res.later (q:Res K r H h' d Q) (f:Fm K r r' H H'):Res K r' H' h' d Q:=fun v H2 r2 a b g=>q v H2 r2 a b (f.trans g)
theorem Res.lst {ds:List D}{vs:List V}(q:Res K r H h' d Q) (e:Ev.alloc ds h=.ok d h') (a:aI K H r ds vs) (b:HR K H r h):vs.length≤sizeLine∧∀ p,H p=none→Q (.ref p) (upd H p (.lst vs)):=by
 unfold Ev.alloc at e
 split at e
 ·rename_i z
  cases e
  refine ⟨by rw [a.length,←iQ];exact z,fun p hp=>?_⟩
  exact q _ _ (r++[p]) ⟨p,rfl,by rw [←b.len];simp⟩ (b.lst hp a) (.laid hp)
 ·cases e
theorem Res.tup {ds:List D}{vs:List V}(q:Res K r H h (.tup ds) Q) (a:aI K H r ds vs) (b:HR K H r h) {p:Addr}(hp:H p=none):Q (.ref p) (upd H p (.tup vs)):=
 q _ _ r ⟨p,vs,rfl,.of gz,a.mono (.tup hp)⟩ (b.tup hp) (.tup hp)
end
theorem PE.of {X:Cx}{e:Expr}{t t':TE}(h:PE X e t) (w:∀ s H Q,t' s H Q→t s H Q):PE X e t':=fun pins s σ H Q I q=>h pins s σ H Q I (w _ _ _ q)
theorem PT.of {X:Cx}{e:Expr}{t t':TT}(h:PT X e t) (w:∀ s H Q,t' s H Q→t s H Q):PT X e t':=fun pins s σ H Q I q=>h pins s σ H Q I (w _ _ _ q)
theorem PW.of {X:Cx}{e:Expr}{t t':TT}(h:PW X e t) (w:∀ s H Q,t' s H Q→t s H Q):PW X e t':=fun wh pins s σ H Q I q=>h wh pins s σ H Q I (w _ _ _ q)
theorem PA.of {X:Cx}{es:List Expr}{t t':TA}(h:PA X es t) (w:∀ s H Q,t' s H Q→t s H Q):PA X es t':=fun pos pins s σ H Q I q=>h pos pins s σ H Q I (w _ _ _ q)
theorem PO.of {X:Cx}{e:Option Expr}{t t':TO}(h:PO X e t) (w:∀ s H Q,t' s H Q→t s H Q):PO X e t':=fun pins s σ H Q I q=>h pins s σ H Q I (w _ _ _ q)
structure FI where
 name:Str
 addr:Addr
 fd:FuncData
 ps:List Str
noncomputable def nB (K:PySem.W.Frag) (F:List Ev.Fn) (w n f:Nat):Sp:=fun vs H Q _=>∃ r h ds d h',aI K H r ds vs∧HR K H r h∧Ev.run F w n f ds h=.ok d h'∧Res K r H h' d Q
noncomputable def tG:D→V→Prop
 | .bH,v=>v=.bH
 | .bl b,v=>v=.bl b
 | .int i,v=>v=.int i
 | .str s,v=>v=.str (bh s)∧s.length≤sizeLine
 | _,_=>False
theorem tG.rv {K:PySem.W.Frag}{H:Hp}{r:List Addr}{d:D}{v:V}(h:tG d v):RV K H r d v:=by
 cases d <;> simp only [tG] at h <;> simp only [RV] <;> first | exact h | exact h.elim
structure Tb where
 F:List Ev.Fn
 w:Nat
 fi:List FI
 bl:List Str
 cs:List (Str×D)
 dk:List (Str×List (D×D))
noncomputable def tabOf:List (D×D)→List (PyData×PyData)
 | (.str k,.str v) :: r=>(.str (bh k),.str (bh v)) :: tabOf r
 | _=>[]
structure Good (G:Tb) (n:Nat) (sc:Scope) (N:List Str) (df:Bool) (X:Cx):Prop where
 nm:X.N=N
 sc:X.env.scope=sc
 calm:X.calm=true
 own:df=true→∀ x,X.fn x=true
 room:gA n X.A
 xe:X.xe=fun _ _=>False
 fn:∀ (f:Nat) i,G.fi[f]?=some i→X.mg i.name=some (.ref i.addr)∧PySem.W.keepIn X.K (.ref i.addr)=true∧Binds X.K i.fd i.ps []∧iw X.prog X.w X.K X.mg X.base lN n i.addr i.fd i.ps (nB X.K G.F G.w n f)
 bl:∀ x∈G.bl,X.mg x=none
 cs:∀ x d,(x,d)∈G.cs→∃ v u,X.mg x=some u∧RelV v u∧tG d v
 dk:∀ x kvs,(x,kvs)∈G.dk→∃ a,X.mg x=some (.ref a)∧∀ h:Heap,X.K.In h→StrTab X.prog X.w h a (tabOf kvs)
section
variable (G:Tb)(n:Nat)(sc:Scope)(N:List Str)(df:Bool)(m:List Nat)
noncomputable def JE (e:E) (x:Expr):Prop:=∀ X,Good G n sc N df X→PE X x (tJ X.K m (Ev.run G.F G.w n) e)
noncomputable def JT (e:E) (x:Expr):Prop:=∀ X,Good G n sc N df X→PT X x (J8 X.K m (Ev.run G.F G.w n) e)
noncomputable def JW (e:E) (x:Expr):Prop:=∀ X,Good G n sc N df X→PW X x (J8 X.K m (Ev.run G.F G.w n) e)
noncomputable def JA (es:Es) (xs:List Expr):Prop:=∀ X,Good G n sc N df X→PA X xs (J9 X.K m (Ev.run G.F G.w n) es)
noncomputable def JO (e:Eo) (x:Option Expr):Prop:=∀ X,Good G n sc N df X→PO X x (Rz X.K m (Ev.run G.F G.w n) e)
end
section
variable {G:Tb}{n:Nat}{sc:Scope}{N:List Str}{df:Bool}{m:List Nat}{a b c:E}{xa xb xc:Expr}{pos:Pos}
theorem Good.vis {X:Cx}(g:Good G n sc N df X) {x:Str}(h:sc.names.lookup x=some .local∨sc.names.lookup x=some .cell∨sc.names.lookup x=some .free):yU X.env.scope x:=by
 rw [g.sc];exact h
theorem Good.gl {X:Cx}(g:Good G n sc N df X) {x:Str}(h:sc.names.lookup x=some .globalImplicit):Gl X x:=by
 unfold Gl Env.kindOf;rw [g.sc];exact h
theorem UQ (j i:Nat) {x:Str}(hj:m[j]?=some i:=by rfl) (hN:N[j]?=some x:=by rfl)
  (hv:sc.names.lookup x=some .local∨sc.names.lookup x=some .cell∨sc.names.lookup x=some .free:=by first | exact Or.inl rfl | exact Or.inr (Or.inl rfl) | exact Or.inr (Or.inr rfl))
  (hd:(x==("__debug__" : Str))=false:=by decide) (hcd:(x==("__classdict__" : Str))=false:=by decide):JE G n sc N df m (.v i) (.Name x pos):=by
 intro X g
 refine PE.of (yW (i:=j) (by rw [g.nm];exact hN) (g.vis hv) hd hcd) fun s H Q q=>?_
 obtain ⟨r,fr,h,d,h',sr,hr,e,q⟩:=q
 simp only [Ev.ev] at e
 obtain ⟨e2,e3⟩:=Ev.aO e
 subst e3
 obtain ⟨v,q1,q2⟩:=sr.sl j i d hj (by
  cases z:fr[i]? with
  | none=>rw [z] at e2;cases e2
  | some o=>
   rw [z] at e2
   have e':o=some d:=e2
   rw [e'])
 exact ⟨v,q1,q.here q2 hr⟩
theorem xD {K:PySem.W.Frag}{P:aU}{d:D}{v:V}(hc:tG d v):∀ s H Q,tJ K m P (.c d) s H Q→tC v s H Q:=fun s H Q q=>by
 obtain ⟨r,fr,h,d',h',sr,hr,e,q⟩:=q
 simp only [Ev.ev] at e
 cases e
 exact q.here hc.rv hr
theorem zp {i:Int}{j}:JE G n sc N df m (.c (.int i)) (.Constant (.int i) j pos):=fun X g=>PE.of Jm (xD rfl)
theorem PF {k:Bool}{j}:JE G n sc N df m (.c (.bl k)) (.Constant (.bool k) j pos):=fun X g=>PE.of Pc (xD rfl)
theorem Kc {l:List Nat}{x:Str}{j}(hx:x=bh l:=by decide +kernel) (hl:l.length≤sizeLine:=by decide):JE G n sc N df m (.c (.str l)) (.Constant (.str x) j pos):=
 fun X g=>PE.of Jo (xD (by subst hx;exact ⟨rfl,hl⟩))
theorem Kd:JA G n sc N df m .nil []:=fun X g=>PA.of oG fun s H Q q=>by
 obtain ⟨r,fr,h,ds,h',sr,hr,e,q⟩:=q
 simp only [Ev.b7] at e
 cases e
 exact q [] H r .nil hr .refl
theorem G5 {es:Es}{xs:List Expr}(ha:JE G n sc N df m a xa) (hs:JA G n sc N df m es xs) (hst:∀ env:Env,starEach (xa :: xs) env=(false,eval xa env) :: starEach xs env:=by intro _;rfl):JA G n sc N df m (.cons a es) (xa :: xs):=
 fun X g=>PA.of (mT (ha X g) (hs X g) (hst _)) fun s H Q q=>by
  obtain ⟨r,fr,h,ds,h',sr,hr,e,q⟩:=q
  simp only [Ev.b7] at e
  obtain ⟨d,h1,e1,e⟩:=Ev.ai e
  obtain ⟨ds',h2,e2,e⟩:=Ev.ai e
  cases e
  refine ⟨r,fr,h,d,h1,sr,hr,e1,fun v H1 r1 v1 hr1 f1=>?_⟩
  refine ⟨r1,fr,h1,ds',_,sr.mono f1,hr1,e2,fun vs H2 r2 v2 hr2 f2=>?_⟩
  exact q _ H2 r2 (.cons (v1.mono f2) v2) hr2 (f1.trans f2)
theorem Ke {es:Es}{xs:List Expr}{k}(hs:JA G n sc N df m es xs):JE G n sc N df m (.tup es) (.Tuple xs k pos):=fun X g=>PE.of (JP (hs X g)) fun s H Q q=>by
 obtain ⟨r,fr,h,d,h',sr,hr,e,q⟩:=q
 simp only [Ev.ev] at e
 obtain ⟨ds,h1,e1,e⟩:=Ev.ai e
 split at e
 ·rename_i z
  cases e
  refine ⟨r,fr,h,ds,_,sr,hr,e1,fun vs H1 r1 v1 hr1 f1=>⟨by rw [v1.length,←iQ];exact z,fun p hp=>?_⟩⟩
  exact (q.later f1).tup v1 hr1 hp
 ·cases e
theorem Kf {es:Es}{xs:List Expr}(hs:JA G n sc N df m es xs):JE G n sc N df m (.lst es) (.List xs pos):=fun X g=>PE.of (JQ (hs X g)) fun s H Q q=>by
 obtain ⟨r,fr,h,d,h',sr,hr,e,q⟩:=q
 simp only [Ev.ev] at e
 obtain ⟨ds,h1,e1,e⟩:=Ev.ai e
 refine ⟨r,fr,h,ds,h1,sr,hr,e1,fun vs H1 r1 v1 hr1 f1=>?_⟩
 exact (q.later f1).lst e v1 hr1
theorem oK {K:PySem.W.Frag}{P:aU}{f:D→D→Hh→R D}{e':E}(he:∀ fr h,Ev.ev P e' fr h=(Ev.ev P a fr h).bind fun x h1=>(Ev.ev P b fr h1).bind fun y h2=>f x y h2) :
  ∀ s H Q,tJ K m P e' s H Q→za (iR K f) (tJ K m P a) (tJ K m P b) s H Q:=fun s H Q q=>by
 obtain ⟨r,fr,h,d,h',sr,hr,e,q⟩:=q
 rw [he] at e
 obtain ⟨x,h1,e1,e⟩:=Ev.ai e
 obtain ⟨y,h2,e2,e⟩:=Ev.ai e
 refine ⟨r,fr,h,x,h1,sr,hr,e1,fun v H1 r1 v1 hr1 f1=>?_⟩
 refine ⟨r1,fr,h1,y,h2,sr.mono f1,hr1,e2,fun u H2 r2 v2 hr2 f2=>?_⟩
 exact ⟨r2,h2,x,y,d,h',hr2,v1.mono f2,v2,e,q.later (f1.trans f2)⟩
theorem lQ {o:bV}{op:Operator}(ho:∀ X,Good G n sc N df X→dS X (binaryOp op) (iR X.K (Ev.bT o))) (ha:JE G n sc N df m a xa) (hb:JE G n sc N df m b xb):JE G n sc N df m (.bin o a b) (.BinOp xa op xb pos):=
 fun X g=>PE.of (Pn (ho X g) (ha X g) (hb X g)) (oK fun fr h=>by simp only [Ev.ev])
noncomputable def iy (o:bQ):D→D→Hh→R D:=fun x y h=>R.of ((Ev.cop o x y h).map .bl) h
theorem zq {o:bQ}{op:CmpOp}(ho:∀ X,Good G n sc N df X→dS X (compareOp op) (iR X.K (iy o))) (ha:JE G n sc N df m a xa) (hb:JE G n sc N df m b xb) (hm:behindInMarks op xb=false):JE G n sc N df m (.cmp o a b) (.Compare xa [op] [xb] pos):=
 fun X g=>PE.of (GR (ho X g) (ha X g) (hb X g) hm) (oK fun fr h=>by simp only [Ev.ev,iy])
theorem mU {o:bQ}{x y d:D}{h h':Hh}(e:iy o x y h=.ok d h'):∃ k,Ev.cop o x y h=some k∧d=.bl k∧h'=h:=by
 unfold iy at e
 obtain ⟨e1,rfl⟩:=Ev.aO e
 cases z:Ev.cop o x y h' with
 | none=>rw [z] at e1;cases e1
 | some k=>rw [z] at e1;cases e1;exact ⟨k,rfl,rfl,rfl⟩
theorem oM {o:bQ}{op:CmpOp}(ho:∀ X,Good G n sc N df X→dS X (compareOp op) (iR X.K (iy o))) (ha:JE G n sc N df m a xa) (hb:JE G n sc N df m b xb) (hm:behindInMarks op xb=false):JT G n sc N df m (.cmp o a b) (.Compare xa [op] [xb] pos):=
 fun X g=>PT.of (GS (ho X g) (ha X g) (hb X g) hm) fun s H Q q=>by
  obtain ⟨r,fr,h,k,h',sr,hr,e,q⟩:=q
  simp only [Ev.aL] at e
  obtain ⟨d,h1,e1,e⟩:=Ev.ai e
  have e0:=e1
  simp only [Ev.ev] at e0
  obtain ⟨x,h2,_,e0⟩:=Ev.ai e0
  obtain ⟨y,h3,_,e0⟩:=Ev.ai e0
  obtain ⟨k',e2,e3,e4⟩:=mU (o:=o) (show iy o x y h3=_ from e0)
  subst e3
  simp only [Ev.truthy] at e
  cases e
  refine oK (e':=.cmp o a b) (f:=iy o) (fun fr h=>by simp only [Ev.ev,iy]) s H _ ⟨r,fr,h,.bl k,_,sr,hr,e1,fun v H1 r1 v1 hr1 f1=>?_⟩
  exact ⟨k,v1,q H1 r1 hr1 f1⟩
end
end Sm
set_option maxRecDepth 100000
namespace Sm
open PySem PySem.Spec PyProof.Rows L2
open Ev (D O Hh Fr R aU E Es Eo It T S Ss Fl Src bV bQ TY BI ME)
section
variable {G:Tb}{n:Nat}{sc:Scope}{N:List Str}{df:Bool}{m:List Nat}{a b c:E}{xa xb xc:Expr}{pos:Pos}
theorem zu (ha:JE G n sc N df m a xa):JE G n sc N df m (.neg a) (.UnaryOp .USub xa pos):=fun X g=>PE.of (Po JM (ha X g)) fun s H Q q=>by
 obtain ⟨r,fr,h,d,h',sr,hr,e,q⟩:=q
 simp only [Ev.ev] at e
 obtain ⟨x,h1,e1,e⟩:=Ev.ai e
 split at e
 ·cases e
  exact ⟨r,fr,h,_,_,sr,hr,e1,fun v H1 r1 v1 hr1 f1=>⟨_,v1,(q.later f1).here rfl hr1⟩⟩
 ·cases e
theorem Kg {op}(ha:JE G n sc N df m a xa):JE G n sc N df m a (.BoolOp op [xa] pos):=fun X g=>Js (ha X g)
theorem PJ {rest:List Expr}(ha:JE G n sc N df m a xa) (hb:JE G n sc N df m b (.BoolOp .And (xb :: rest) pos)):JE G n sc N df m (.an a b) (.BoolOp .And (xa :: xb :: rest) pos):=fun X g=>PE.of (Jt (ha X g) (hb X g)) fun s H Q q=>by
 obtain ⟨r,fr,h,d,h',sr,hr,e,q⟩:=q
 simp only [Ev.ev] at e
 obtain ⟨x,h1,e1,e⟩:=Ev.ai e
 refine ⟨r,fr,h,x,h1,sr,hr,e1,fun v H1 r1 v1 hr1 f1=>?_⟩
 split at e
 ·exact ⟨true,v1,r1,fr,h1,d,h',sr.mono f1,hr1,e,q.later f1⟩
 ·cases e
  exact ⟨false,v1,(q.later f1).here rfl hr1⟩
 ·cases e
theorem Kh (ha:JT G n sc N df m a xa) (hb:JE G n sc N df m b xb) (hc:JE G n sc N df m c xc):JE G n sc N df m (.ly a b c) (.IfExp xa xb xc pos):=fun X g=>PE.of (Bk (ha X g) (hb X g) (hc X g)) fun s H Q q=>by
 obtain ⟨r,fr,h,d,h',sr,hr,e,q⟩:=q
 simp only [Ev.ev] at e
 obtain ⟨k,h1,e1,e⟩:=Ev.ai e
 refine ⟨r,fr,h,k,h1,sr,hr,e1,fun H1 r1 hr1 f1=>?_⟩
 cases k with
 | true=>exact ⟨r1,fr,h1,d,h',sr.mono f1,hr1,e,q.later f1⟩
 | false=>exact ⟨r1,fr,h1,d,h',sr.mono f1,hr1,e,q.later f1⟩
theorem Kl (h:JW G n sc N df m a xa):JT G n sc N df m a xa:=fun X g=>(h X g).pt
theorem Km (ha:JT G n sc N df m a xa):JW G n sc N df m a (.BoolOp .And [xa] pos):=fun X g=>GL (ha X g)
theorem G6 (ha:JT G n sc N df m a xa):JW G n sc N df m a (.BoolOp .Or [xa] pos):=fun X g=>Jp (ha X g)
theorem Ez {rest:List Expr}(ha:JT G n sc N df m a xa) (hb:JW G n sc N df m b (.BoolOp .And (xb :: rest) pos)):JW G n sc N df m (.an a b) (.BoolOp .And (xa :: xb :: rest) pos):=fun X g=>PW.of (Jq (ha X g) (hb X g)) fun s H Q q=>by
 obtain ⟨r,fr,h,k,h',sr,hr,e,q⟩:=q
 simp only [Ev.aL] at e
 obtain ⟨k1,h1,e1,e⟩:=Ev.ai e
 refine ⟨r,fr,h,k1,h1,sr,hr,e1,fun H1 r1 hr1 f1=>?_⟩
 cases k1 with
 | true=>exact ⟨r1,fr,h1,k,h',sr.mono f1,hr1,e,fun H2 r2 hr2 f2=>q H2 r2 hr2 (f1.trans f2)⟩
 | false=>
  have e':R.ok false h1=R.ok k h':=e
  cases e'
  exact q H1 r1 hr1 f1
theorem zv {rest:List Expr}(ha:JT G n sc N df m a xa) (hb:JW G n sc N df m b (.BoolOp .Or (xb :: rest) pos)):JW G n sc N df m (.orr a b) (.BoolOp .Or (xa :: xb :: rest) pos):=fun X g=>PW.of (Pd (ha X g) (hb X g)) fun s H Q q=>by
 obtain ⟨r,fr,h,k,h',sr,hr,e,q⟩:=q
 simp only [Ev.aL] at e
 obtain ⟨k1,h1,e1,e⟩:=Ev.ai e
 refine ⟨r,fr,h,k1,h1,sr,hr,e1,fun H1 r1 hr1 f1=>?_⟩
 cases k1 with
 | false=>exact ⟨r1,fr,h1,k,h',sr.mono f1,hr1,e,fun H2 r2 hr2 f2=>q H2 r2 hr2 (f1.trans f2)⟩
 | true=>
  have e':R.ok true h1=R.ok k h':=e
  cases e'
  exact q H1 r1 hr1 f1
theorem PK (ha:JT G n sc N df m a xa):JT G n sc N df m (.nt a) (.UnaryOp .Not xa pos):=fun X g=>PT.of (Jr (ha X g)) fun s H Q q=>by
 obtain ⟨r,fr,h,k,h',sr,hr,e,q⟩:=q
 simp only [Ev.aL] at e
 obtain ⟨k1,h1,e1,e⟩:=Ev.ai e
 cases e
 exact ⟨r,fr,h,k1,_,sr,hr,e1,fun H1 r1 hr1 f1=>q H1 r1 hr1 f1⟩
theorem Kn {K:PySem.W.Frag}{H:Hp}{r:List Addr}{h:Hh}{d:D}{v:V}{k:Bool}(hr:HR K H r h) (v1:RV K H r d v) (e:Ev.truthy h d=some k):BA K v H k:=by
 cases d with
 | bH=>simp only [RV] at v1;subst v1;cases e;rfl
 | bl x=>simp only [RV] at v1;subst v1;cases e;rfl
 | int x=>simp only [RV] at v1;subst v1;cases e;rfl
 | str x=>
  simp only [RV] at v1
  obtain ⟨rfl,z⟩:=v1
  cases e
  refine ⟨by rw [cy];exact z,?_⟩
  rw [cy]
  cases x with
  | nil=>rfl
  | cons c l=>simp;omega
 | tup ds=>
  simp only [RV] at v1
  obtain ⟨p,vs,rfl,z,q⟩:=v1
  cases e
  refine .inr (.inl ⟨vs,z,?_⟩)
  have hl:=q.length
  cases ds <;> cases vs <;> simp_all
 | ref i=>
  simp only [RV] at v1
  obtain ⟨p,rfl,z⟩:=v1
  simp only [Ev.truthy,Option.map_eq_some_iff] at e
  obtain ⟨ds,e1,rfl⟩:=e
  obtain ⟨p',vs,e2,q1,q2⟩:=hr.read e1
  rw [z] at e2;cases e2
  refine .inl ⟨vs,q1,?_⟩
  have hl:=q2.length
  cases ds <;> cases vs <;> simp_all
theorem Ko (ha:JE G n sc N df m a xa) (he:∀ (P:aU) fr h,Ev.aL P a fr h=(Ev.ev P a fr h).bind fun x h1=>R.of (Ev.truthy h1 x) h1:=by intros;simp only [Ev.aL])
  (hx:∀ (env:Env) whole,isTrue xa env whole=(do let v ←whole;standAt xa.pos;holding [v] (truthy v)):=by intro _ _;rfl):JT G n sc N df m a xa:=fun X g=>PT.of (BB (ha X g) (hx _)) fun s H Q q=>by
 obtain ⟨r,fr,h,k,h',sr,hr,e,q⟩:=q
 rw [he] at e
 obtain ⟨d,h1,e1,e⟩:=Ev.ai e
 obtain ⟨e,rfl⟩:=Ev.aO e
 refine ⟨r,fr,h,d,_,sr,hr,e1,fun v H1 r1 v1 hr1 f1=>⟨k,Kn hr1 v1 e,q H1 r1 hr1 f1⟩⟩
noncomputable def Kp:D→D→Hh→R D:=fun x y h=>R.of (Ev.fK x y h) h
theorem PL (ho:∀ X,Good G n sc N df X→vI X (iR X.K Kp)) (ha:JE G n sc N df m a xa) (hb:JE G n sc N df m b xb) (hs:vH xb:=by intro _ _;rfl):JE G n sc N df m (.ix a b) (.Subscript xa xb pos):=
 fun X g=>PE.of (PB (ho X g) (ha X g) (hb X g) hs) (oK fun fr h=>by simp only [Ev.ev,Kp])
theorem PM:JO G n sc N df m .no none:=fun X g=>PO.of GX fun s H Q q=>by
 obtain ⟨r,fr,h,o,h',sr,hr,e,q⟩:=q
 simp only [Ev.fL] at e
 cases e
 exact q H r hr .refl
theorem Kq (ha:JE G n sc N df m a xa):JO G n sc N df m (.yes a) (some xa):=fun X g=>PO.of (vE (ha X g)) fun s H Q q=>by
 obtain ⟨r,fr,h,o,h',sr,hr,e,q⟩:=q
 simp only [Ev.fL] at e
 obtain ⟨d,h1,e1,e⟩:=Ev.ai e
 obtain ⟨e,rfl⟩:=Ev.aO e
 cases d with
 | int i=>
  cases e
  exact ⟨r,fr,h,.int i,_,sr,hr,e1,fun v H1 r1 v1 hr1 f1=>⟨i,v1,q H1 r1 hr1 f1⟩⟩
 | _=>cases e
theorem PN {lo hi:Eo}{xl xh:Option Expr}{p2}(ho:∀ X,Good G n sc N df X→jX X (Ka X.K)) (ha:JE G n sc N df m a xa) (hl:JO G n sc N df m lo xl) (hu:JO G n sc N df m hi xh):JE G n sc N df m (.sl a lo hi) (.Subscript xa (.Slice xl xh none p2) pos):=
 fun X g=>PE.of (BE (ho X g) (ha X g) (hl X g) (hu X g)) fun s H Q q=>by
  obtain ⟨r,fr,h,d,h',sr,hr,e,q⟩:=q
  simp only [Ev.ev] at e
  obtain ⟨x,h1,e1,e⟩:=Ev.ai e
  obtain ⟨l,h2,e2,e⟩:=Ev.ai e
  obtain ⟨u,h3,e3,e⟩:=Ev.ai e
  refine ⟨r,fr,h,x,h1,sr,hr,e1,fun v H1 r1 v1 hr1 f1=>?_⟩
  refine ⟨r1,fr,h1,l,h2,sr.mono f1,hr1,e2,fun H2 r2 hr2 f2=>?_⟩
  refine ⟨r2,fr,h2,u,h3,(sr.mono f1).mono f2,hr2,e3,fun H3 r3 oN f3=>?_⟩
  exact ⟨r3,h3,x,d,h',oN,(v1.mono f2).mono f3,e,q.later ((f1.trans f2).trans f3)⟩
theorem G7 {K:PySem.W.Frag}{P:aU}{es:Es}{f:List D→Hh→R D}{e':E}(he:∀ fr h,Ev.ev P e' fr h=(Ev.b7 P es fr h).bind f) :
  ∀ s H Q,tJ K m P e' s H Q→JV (tF K f) (J9 K m P es) s H Q:=fun s H Q q=>by
 obtain ⟨r,fr,h,d,h',sr,hr,e,q⟩:=q
 rw [he] at e
 obtain ⟨ds,h1,e1,e⟩:=Ev.ai e
 exact ⟨r,fr,h,ds,h1,sr,hr,e1,fun vs H1 r1 v1 hr1 f1=>⟨r1,h1,ds,d,h',hr1,v1,e,q.later f1⟩⟩
theorem sq {k:BI}{es:Es}{x:Str}{id:String}{e0:Expr}{xs:List Expr}{p:Pos}(hc:∀ X,Good G n sc N df X→gw X (.builtin id) (tF X.K (Ev.dz k))) (hs:JA G n sc N df m es (e0 :: xs)) (hb:x∈G.bl:=by decide +kernel)
  (hg:sc.names.lookup x=some .globalImplicit:=by rfl) (hv:bootBuiltins x=some (.builtin id)) (hn:x≠"__name__" :=by decide) (hd:(x==("__debug__" : Str))=false:=by decide)
  (hst:∀ env:Env,starEach (e0 :: xs) env=(false,eval e0 env) :: starEach xs env:=by intro _;rfl) (hpl:∀ env:Env,(backTo pos (starEach xs env)).any (·.1)=false:=by intro _;rfl) :
  JE G n sc N df m (.bi k es) (.Call (.Name x p) (e0 :: xs) [] pos):=
 fun X g=>PE.of (BC (hc X g) (g.gl hg) (g.bl x hb) hv (hs X g) hn hd (hst _) (hpl _)) (G7 fun fr h=>by simp only [Ev.ev])
theorem PR {f:Nat}{i:FI}{es:Es}{e0:Expr}{xs:List Expr}{p:Pos}(hf:G.fi[f]?=some i) (hs:JA G n sc N df m es (e0 :: xs))
  (hg:sc.names.lookup i.name=some .globalImplicit:=by rfl) (hd:(i.name==("__debug__" : Str))=false:=by decide)
  (hst:∀ env:Env,starEach (e0 :: xs) env=(false,eval e0 env) :: starEach xs env:=by intro _;rfl) (hpl:∀ env:Env,(backTo pos (starEach xs env)).any (·.1)=false:=by intro _;rfl) :
  JE G n sc N df m (.cl f es) (.Call (.Name i.name p) (e0 :: xs) [] pos):=fun X g=>by
 obtain ⟨h1,h2,h3,h4⟩:=g.fn f i hf
 refine PE.of (GU h4 g.room (g.gl hg) h1 h2 h3 .nil PD (hs X g) hd (hst _) (hpl _)) fun s H Q q=>?_
 obtain ⟨r,fr,h,d,h',sr,hr,e,q⟩:=q
 simp only [Ev.ev] at e
 obtain ⟨ds,h5,e1,e⟩:=Ev.ai e
 refine ⟨r,fr,h,ds,h5,sr,hr,e1,fun vs H1 r1 v1 hr1 f1=>?_⟩
 exact ⟨r1,h5,ds,d,h',by rw [List.append_nil];exact v1,hr1,e,q.later f1⟩
noncomputable def BO:ME→String
 | .join=>"str"
 | .iJ=>"str"
 | _=>"list"
theorem zw {K:PySem.W.Frag}{H:Hp}{r:List Addr}{h:Hh}{k:ME}{d:D}{v:V}{ty:String}(hr:HR K H r h) (v1:RV K H r d v) (e:Ev.vK k d h=true) (ht:ty=BO k):zg K ty v H:=by
 subst ht
 have lst:∀ i,d=.ref i→(Ev.bu h i).isSome=true→zg K "list" v H:=fun i ed es=>by
  subst ed
  obtain ⟨ds,e1⟩:=Option.isSome_iff_exists.mp es
  obtain ⟨p,vs,e2,q1,q2⟩:=hr.read e1
  simp only [RV] at v1
  obtain ⟨p',rfl,e3⟩:=v1
  rw [e2] at e3;cases e3
  exact .inl ⟨rfl,vs,q1⟩
 cases k with
 | join=>
  cases d with
  | str l=>simp only [RV] at v1;obtain ⟨rfl,_⟩:=v1;rfl
  | _=>cases e
 | iJ=>
  cases d with
  | str l=>simp only [RV] at v1;obtain ⟨rfl,_⟩:=v1;rfl
  | _=>cases e
 | append=>cases d with | ref i=>exact lst i rfl e | _=>cases e
 | extend=>cases d with | ref i=>exact lst i rfl e | _=>cases e
 | pop=>cases d with | ref i=>exact lst i rfl e | _=>cases e
theorem su {k:ME}{es:Es}{e0:Expr}{xs:List Expr}{name:Str}{apos:Pos}{ty id:String}(pa:PlainAttrs ty) (slot:Slot ty name id) (hty:typeOf (.builtin id)=pure (.type "method_descriptor"))
  (hm:∀ X,Good G n sc N df X→oH X id (ri X.K (Ev.eN k))) (ht:ty=BO k) (ha:JE G n sc N df m a xa) (hs:JA G n sc N df m es (e0 :: xs))
  (hbase:∀ env:Env,attributeBase xa name env (eval xa env)=eval xa env:=by intro _;rfl)
  (hfew:∀ env:Env,((backTo pos (starEach (e0 :: xs) env)).all (fun x=>!x.1)&&(backToKw pos (keywordEach [] env)).all (fun x=>x.1.isSome)
   &&decide ((e0 :: xs).length+([]:List Keyword).length+(if ([]:List Keyword).isEmpty then 0 else 1)<30))=true:=by intro _;rfl)
  (hline:(apos.endLine==pos.line)=true:=by rfl) (hst:∀ env:Env,starEach (e0 :: xs) env=(false,eval e0 env) :: starEach xs env:=by intro _;rfl) (hpl:∀ env:Env,(backTo pos (starEach xs env)).any (·.1)=false:=by intro _;rfl) :
  JE G n sc N df m (.me k a es) (.Call (.Attribute xa name apos) (e0 :: xs) [] pos):=fun X g=>
 PE.of (PC pa slot hty (hm X g) (ha X g) (hs X g) (hbase _) (hfew _) hline (hst _) (hpl _)) fun s H Q q=>by
  obtain ⟨r,fr,h,d,h',sr,hr,e,q⟩:=q
  simp only [Ev.ev] at e
  obtain ⟨x,h1,e1,e⟩:=Ev.ai e
  split at e
  ·rename_i hk
   obtain ⟨ds,h2,e2,e⟩:=Ev.ai e
   refine ⟨r,fr,h,x,h1,sr,hr,e1,fun v H1 r1 v1 hr1 f1=>⟨zw hr1 v1 hk ht,?_⟩⟩
   refine ⟨r1,fr,h1,ds,h2,sr.mono f1,hr1,e2,fun vs H2 r2 v2 hr2 f2=>?_⟩
   exact ⟨r2,h2,x,ds,d,h',hr2,v1.mono f2,v2,e,q.later (f1.trans f2)⟩
  ·cases e
theorem Kr {k:ME}{name:Str}{apos:Pos}{ty id:String}(pa:PlainAttrs ty) (slot:Slot ty name id) (hty:typeOf (.builtin id)=pure (.type "method_descriptor"))
  (hm:∀ X,Good G n sc N df X→oH X id (ri X.K (Ev.eN k))) (ht:ty=BO k) (ha:JE G n sc N df m a xa)
  (hbase:∀ env:Env,attributeBase xa name env (eval xa env)=eval xa env:=by intro _;rfl) (hline:(apos.endLine==pos.line)=true:=by rfl) :
  JE G n sc N df m (.me k a .nil) (.Call (.Attribute xa name apos) [] [] pos):=fun X g=>
 PE.of (J0 pa slot hty (hm X g) (ha X g) (hbase _) hline) fun s H Q q=>by
  obtain ⟨r,fr,h,d,h',sr,hr,e,q⟩:=q
  simp only [Ev.ev] at e
  obtain ⟨x,h1,e1,e⟩:=Ev.ai e
  split at e
  ·rename_i hk
   simp only [Ev.b7,Ev.ao] at e
   refine ⟨r,fr,h,x,h1,sr,hr,e1,fun v H1 r1 v1 hr1 f1=>⟨zw hr1 v1 hk ht,?_⟩⟩
   exact ⟨r1,h1,x,[],d,h',hr1,v1,.nil,e,q.later f1⟩
  ·cases e
end
end Sm
set_option maxRecDepth 100000
namespace Sm
open PySem PySem.Spec PyProof.Rows L2
open Ev (D O Hh Fr R aU E Es Eo T S Ss Fl Src bV bQ TY BI ME)
noncomputable def qj (K:PySem.W.Frag) (r0:List Addr) (H0:Hp) (s:Src) (J:L2.It):Prop:=∀ (i:Nat) H1 r1 h1,HR K H1 r1 h1→Fm K r0 r1 H0 H1→Ev.stays h1 s.2=true→
 (∀ d,s.1[i]?=some d→J.go i H1∧∀ x H2,J.Ew i H1 x H2→∃ r2,RV K H2 r2 d x∧HR K H2 r2 h1∧Fm K r1 r2 H1 H2)∧(s.1.length≤i→J.stop i H1)
inductive RA (K:PySem.W.Frag) (m:List Nat) (P:aU) (it:Ev.It) (s:L2.St) (H:Hp) (Rr:L2.It→Hp→Prop):Prop
 | mk (r:List Addr) (fr:Fr) (h:Hh) (src:Src) (h':Hh) (c0:SR K m H r fr s) (c1:HR K H r h) (c2:Ev.dc P it fr h=.ok src h') (c3:∀ J H' r',HR K H' r' h'→Fm K r r' H H'→qj K r' H' src J→Rr J H'):RA K m P it s H Rr
noncomputable def JI (G:Tb) (n:Nat) (sc:Scope) (N:List Str) (df:Bool) (m:List Nat) (it:Ev.It) (tg x:Expr):Prop:=∀ X,Good G n sc N df X→PI X tg x (RA X.K m (Ev.run G.F G.w n) it)
noncomputable def EA (z:Str):L2.It:=⟨fun i _=>i<z.length,fun i H x H'=>H'=H∧∃ c,z.cps[i]?=some c∧x=.str ⟨#[c]⟩,fun i _=>z.length≤i⟩
theorem Ks {M:Model}{A:Around}{E:Value→Shared→Prop}{s:Shared}{tg:Expr}{it:Value}{x:Str}{t:Tok}{Q:Unit→Shared→Prop}(hQ:Q () s):wpAny M A (letOwnedTupleGo tg it (.str x t)) Q E s:=by
 unfold letOwnedTupleGo
 cases tg <;> first
  | exact wpAny_pure hQ
  | (cases it <;> exact wpAny_pure hQ)
theorem tH {P:Program}{w:World}{K:PySem.W.Frag}{tg:Expr}(z:Str) (t:Tok) (it:Addr) (ty:String) (hty:ty = "str_ascii_iterator" ∨ty = "str_iterator") :
  Turn P w K tg (EA z) [it] it (fun i h=>h.IsStrIter it ty z t i) where
 mem:=by simp
 obj:=fun i h st b hb=>by
  have e:b=it:=by simpa using hb
  subst e
  obtain ⟨o,e,c,d⟩:=st
  exact ⟨o,e,fun v z=>by rw [d] at z;cases z⟩
 keep:=fun i h h' st k=>by
  obtain ⟨o,e,c,d⟩:=st
  exact ⟨o,k it (by simp) o e,c,d⟩
 item:=by
  intro X hP hw hK hc i pins s σ H E I hf st hg
  subst hP hw hK
  obtain ⟨f0,f1,f2,f3,f4,f5⟩:=hf it (by simp)
  have W:Walks X.prog X.w X.A it [it] [it] z.cps.size (SignAt z) (fun i h=>h.IsStrIter it ty z t i):=by
   rcases hty with e | e
   ·subst e;exact Walks.strAscii (I.ok.hd hc) it z t
   ·subst e;exact Walks.strWide (I.ok.hd hc) it z t
  refine W.item i s _ _ hg st fun v h' tk hv st' kk=>?_
  obtain ⟨c,u,hc',rfl⟩:=hv
  have I1:Inv X pins σ H { s with heap:=h',toks:=tk }:=I.turned (fun b o hb e=>kk b o (by simpa using hb) e) f0 f1 f3 f4 f5
  exact ⟨_,rfl,Ks ⟨.str ⟨#[c]⟩,H,I1,⟨u,rfl⟩,⟨rfl,c,hc',rfl⟩,st',fun b hb=>(hf b hb).1⟩⟩
 done:=by
  intro X hP hw hK hc i pins s σ H E I hf st hg
  subst hP hw hK
  obtain ⟨f0,f1,f2,f3,f4,f5⟩:=hf it (by simp)
  rcases hty with e | e
  ·subst e
   exact wpAny_pyNext_ascii_end (I.ok.hd hc) st (by simpa [Str.length,EA] using hg) fun h' eb=>⟨rfl,I.turned (t':=s.toks) (fun b o hb e=>eb b o hb e) f0 f1 f3 f4 f5⟩
  ·subst e
   exact wpAny_pyNext_wide_end (I.ok.hd hc) st (by simpa [Str.length,EA] using hg) fun h' eb=>⟨rfl,I.turned (t':=s.toks) (fun b o hb e=>eb b o hb e) f0 f1 f3 f4 f5⟩
 self:=fun _ _ _ _ _ st h=>by
  rcases hty with e | e
  ·subst e;exact wpAny_pyIter_striter_ascii st h
  ·subst e;exact wpAny_pyIter_striter_wide st h
noncomputable def EB (K:PySem.W.Frag) (x:V) (H:Hp) (Rr:L2.It→Hp→Prop):Prop:=
 (∃ a xs,x=.ref a∧fh K H a xs∧Rr (Rt K a) H)∨(∃ a xs,x=.ref a∧dG K H a xs∧Rr (Ru K a) H)∨∃ z,x=.str z∧Rr (EA z) H
theorem Ku {X:Cx}{tg l:Expr}{tl:TE}{wi:TI}(hl:PE X l tl) (hw:∀ s H Rr,wi s H Rr→tl s H fun x H1=>EB X.K x H1 Rr):PI X tg l wi:=by
 intro pins s σ H Rr I h
 refine bM (hl pins s σ H _ I (hw _ _ _ h)) fun v s1 ⟨x,H1,I1,r1,q1⟩=>?_
 have fp:∀ (o:Obj) b,b∈[s1.heap.objs.size]→gW X pins H1 b:=fun o b hb=>by
  have e:b=s1.heap.objs.size:=by simpa using hb
  subst e
  exact I1.Bu (Nat.le_refl _) (I1.hok.fresh (Nat.le_refl _))
 rcases q1 with ⟨a,xs,rfl,hq,q⟩ | ⟨a,xs,rfl,hq,q⟩ | ⟨z,rfl,q⟩
 ·cases r1
  obtain ⟨its,rv,p,hz⟩:=I1.list hq
  refine wpAny_pyIter_list p.isList ?_
  exact ⟨s1.heap.objs.size,[s1.heap.objs.size],_,_,H1,rfl,I1.kept (t':=s1.toks) fun b o e=>Heap.get?_push_of_some _ e,yY a _,⟨_,Heap.get?_push_size _ rfl,rfl,rfl⟩,fp default,q⟩
 ·cases r1
  obtain ⟨its,rv,p,hz⟩:=I1.tuple hq
  refine wpAny_pyIter_tuple (show s1.heap.IsTuple a its.toArray from p) ?_
  exact ⟨s1.heap.objs.size,[s1.heap.objs.size],_,_,H1,rfl,I1.kept (t':=s1.toks) fun b o e=>Heap.get?_push_of_some _ e,wZ a _,⟨_,Heap.get?_push_size _ rfl,rfl,rfl⟩,fp default,q⟩
 ·obtain ⟨t,rfl⟩:=r1
  cases ha:z.cps.all (· < 128)
  ·refine wpAny_pyIter_wide ha ?_
   exact ⟨s1.heap.objs.size,[s1.heap.objs.size],_,_,H1,rfl,I1.kept (t':=s1.toks) fun b o e=>Heap.get?_push_of_some _ e,tH z t _ _ (.inr rfl),⟨_,Heap.get?_push_size _ rfl,rfl,rfl⟩,fp default,q⟩
  ·refine wpAny_pyIter_ascii ha ?_
   exact ⟨s1.heap.objs.size,[s1.heap.objs.size],_,_,H1,rfl,I1.kept (t':=s1.toks) fun b o e=>Heap.get?_push_of_some _ e,tH z t _ _ (.inl rfl),⟨_,Heap.get?_push_size _ rfl,rfl,rfl⟩,fp default,q⟩
theorem zx {h:Hh}{n:Nat}{ds:List D}(e:Ev.stays h [(n,ds)]=true):Ev.bu h n=some ds:=by
 simp only [Ev.stays,Bool.and_true] at e
 split at e
 ·rename_i es q
  rw [q,(Ev.q9 _ _).mp e]
 ·cases e
theorem G8 {K:PySem.W.Frag}{H:Hp}{r:List Addr}{h:Hh}{d:D}{v:V}{src:Src}{Rr:L2.It→Hp→Prop}(hr:HR K H r h) (v1:RV K H r d v) (e:Ev.gc h d=some src) (q:∀ J,qj K r H src J→Rr J H):EB K v H Rr:=by
 cases d with
 | tup ds=>
  simp only [RV] at v1
  obtain ⟨a,vs,rfl,z,w⟩:=v1
  cases e
  refine .inr (.inl ⟨a,vs,rfl,z,q _ fun i H1 r1 h1 hr1 f1 st=>⟨fun d' e'=>?_,fun hl=>?_⟩⟩)
  ·obtain ⟨u,e1,e2⟩:=w.get e'
   refine ⟨⟨vs,u,f1.tups _ _ z,e1⟩,fun x H2 y=>?_⟩
   obtain ⟨rfl,y⟩:=y
   have:=y vs (f1.tups _ _ z)
   rw [e1] at this;cases this
   exact ⟨r1,e2.mono f1,hr1,.refl⟩
  ·exact ⟨vs,f1.tups _ _ z,by rw [w.length];exact hl⟩
 | str l=>
  simp only [RV] at v1
  obtain ⟨rfl,z⟩:=v1
  cases e
  refine .inr (.inr ⟨_,rfl,q _ fun i H1 r1 h1 hr1 f1 st=>⟨fun d' e'=>?_,fun hl=>?_⟩⟩)
  ·rw [List.getElem?_map] at e'
   cases e2:l[i]? with
   | none=>rw [e2] at e';cases e'
   | some c=>
    rw [e2] at e'
    cases e'
    refine ⟨by show i<(bh l).length;rw [cy];exact (List.getElem?_eq_some_iff.mp e2).1,fun x H2 y=>?_⟩
    obtain ⟨rfl,c',y1,rfl⟩:=y
    have e3:(bh l).cps[i]?=some c:=by simp [bh,e2]
    rw [e3] at y1;cases y1
    exact ⟨r1,⟨rfl,by show 1≤sizeLine;decide⟩,hr1,.refl⟩
  ·show (bh l).length≤i
   rw [cy];simpa using hl
 | ref k=>
  simp only [RV] at v1
  obtain ⟨a,rfl,z⟩:=v1
  simp only [Ev.gc,Option.map_eq_some_iff] at e
  obtain ⟨ds,e1,rfl⟩:=e
  obtain ⟨a',vs,e2,e3,e4⟩:=hr.read e1
  rw [z] at e2;cases e2
  refine .inl ⟨a,vs,rfl,e3,q _ fun i H1 r1 h1 hr1 f1 st=>?_⟩
  obtain ⟨a',us,e5,e6,e7⟩:=hr1.read (zx st)
  rw [f1.pre _ _ z] at e5;cases e5
  refine ⟨fun d' e'=>?_,fun hl=>⟨us,e6,by rw [e7.length];exact hl⟩⟩
  obtain ⟨u,g1,g2⟩:=e7.get e'
  refine ⟨⟨us,u,e6,g1⟩,fun x H2 y=>?_⟩
  obtain ⟨rfl,y⟩:=y
  have:=y us e6
  rw [g1] at this;cases this
  exact ⟨r1,g2,hr1,.refl⟩
 | _=>cases e
section
variable {G:Tb}{n:Nat}{sc:Scope}{N:List Str}{df:Bool}{m:List Nat}{a b c:E}{xa xb xc tg:Expr}{pos:Pos}
theorem Kv (ha:JE G n sc N df m a xa):JI G n sc N df m (.seq a) tg xa:=fun X g=>Ku (ha X g) fun s H Rr q=>by
 obtain ⟨r,fr,h,src,h',sr,hr,e,q⟩:=q
 simp only [Ev.dc] at e
 obtain ⟨d,h1,e1,e⟩:=Ev.ai e
 obtain ⟨e,rfl⟩:=Ev.aO e
 refine ⟨r,fr,h,d,_,sr,hr,e1,fun v H1 r1 v1 hr1 f1=>?_⟩
 exact G8 hr1 v1 e fun J hJ=>q J H1 r1 hr1 f1 hJ
theorem PI.of {X:Cx}{tg l:Expr}{t t':TI}(h:PI X tg l t) (w:∀ s H Q,t' s H Q→t s H Q):PI X tg l t':=fun pins s σ H Q I q=>h pins s σ H Q I (w _ _ _ q)
theorem Kw {K:PySem.W.Frag}{r:List Addr}{H:Hp}(lo:Int) (k:Nat):qj K r H (Ev.range lo k,[]) (Ex lo k):=fun i H1 r1 h1 hr1 f1 st=>by
 refine ⟨fun d e=>?_,fun hl=>?_⟩
 ·simp only [Ev.range,List.getElem?_map] at e
  cases e2:(List.range k)[i]? with
  | none=>rw [e2] at e;cases e
  | some j=>
   rw [e2] at e
   cases e
   have hi:i<k:=by simpa using (List.getElem?_eq_some_iff.mp e2).1
   have hj:j=i:=by
    rw [List.getElem?_range hi] at e2
    exact (Option.some.inj e2).symm
   subst hj
   refine ⟨hi,fun x H2 y=>?_⟩
   obtain ⟨rfl,rfl⟩:=y
   exact ⟨r1,rfl,hr1,.refl⟩
 ·have:(Ev.range lo k).length=k:=by simp [Ev.range]
  show k≤i
  have hl':(Ev.range lo k).length≤i:=hl
  omega
theorem Hf {e1:E}{p:Pos}(hs:JA G n sc N df m (.cons e1 .nil) [xa]) (hg:sc.names.lookup ("range" : Str)=some .globalImplicit:=by rfl) (hb:("range" : Str)∈G.bl:=by decide +kernel)
  (hst:∀ env:Env,starEach [xa] env=[(false,eval xa env)]:=by intro _;rfl):JI G n sc N df m (.gm (.cons e1 .nil)) tg (.Call (.Name "range" p) [xa] [] pos):=fun X g=>
 PI.of (yZ (g.gl hg) (g.bl _ hb) (hs X g) (hst _)) fun s H Rr q=>by
  obtain ⟨r,fr,h,src,h',sr,hr,e,q⟩:=q
  simp only [Ev.dc] at e
  obtain ⟨ds,h1,e1,e⟩:=Ev.ai e
  obtain ⟨e,rfl⟩:=Ev.aO e
  refine ⟨r,fr,h,ds,_,sr,hr,e1,fun vs H1 r1 v1 hr1 f1=>?_⟩
  unfold Ev.eU at e
  split at e
  ·rename_i j
   split at e
   ·rename_i hj
    cases e
    simp only [aI,RV] at v1
    obtain ⟨v,w,rfl,rfl,rfl⟩:=v1
    exact ⟨_,rfl,hj.1,hj.2,q _ H1 r1 hr1 f1 (Kw 0 _)⟩
   ·cases e
  ·exfalso
   simp only [Ev.b7] at e1
   obtain ⟨d,_,_,e1⟩:=Ev.ai e1
   simp only [Ev.ao] at e1
   cases e1
  ·cases e
inductive gJ (K:PySem.W.Frag) (m:List Nat) (t:T) (v:V) (s:L2.St) (H:Hp) (Q:L2.St→Hp→Prop):Prop
 | mk (r:List Addr) (fr:Fr) (h:Hh) (d:D) (ak:Fr) (c0:SR K m H r fr s) (c1:HR K H r h) (c2:RV K H r d v) (c3:Ev.cj t d fr=some ak) (c4:∀ s',SR K m H r ak s'→Q s' H):gJ K m t v s H Q
noncomputable def JG (G:Tb) (n:Nat) (sc:Scope) (N:List Str) (df:Bool) (m:List Nat) (t:T) (x:Expr):Prop:=∀ X,Good G n sc N df X→PG X x (gJ X.K m t)
theorem PG.of {X:Cx}{e:Expr}{t t':TG}(h:PG X e t) (w:∀ v s H Q,t' v s H Q→t v s H Q):PG X e t':=fun pins s σ H v u Q I r q=>h pins s σ H v u Q I r (w _ _ _ _ q)
theorem SR.set {K:PySem.W.Frag}{m:List Nat}{H:Hp}{r:List Addr}{fr:Fr}{s:L2.St}(sr:SR K m H r fr s) (hm:m.Nodup) {j i:Nat}(hj:m[j]?=some i) {d:D}{v:V}(v1:RV K H r d v):SR K m H r (fr.set i (some d)) (s.set j (some v)):=by
 refine ⟨by simp [sr.len],fun j' i' d' e1 e2=>?_⟩
 by_cases hi:i'=i
 ·subst hi
  have:j'=j:=zy hm e1 hj
  subst this
  have hlt:i'<fr.length:=by
   have:=(List.getElem?_eq_some_iff.mp e2).1
   simpa using this
  rw [List.getElem?_set_self hlt] at e2
  cases e2
  refine ⟨v,List.getElem?_set_self ?_,v1⟩
  rw [sr.len]
  exact (List.getElem?_eq_some_iff.mp hj).1
 ·rw [List.getElem?_set_ne (fun z=>hi z.symm)] at e2
  obtain ⟨u,q1,q2⟩:=sr.sl j' i' d' e1 e2
  refine ⟨u,?_,q2⟩
  rw [List.getElem?_set_ne]
  ·exact q1
  ·intro z
   subst z
   rw [hj] at e1;cases e1
   exact hi rfl
where
 zy {l:List Nat} (hl:l.Nodup) {i j:Nat} {x:Nat} (a:l[i]?=some x) (b:l[j]?=some x):i=j:=by
  have ha:=(List.getElem?_eq_some_iff.mp a)
  have hb:=(List.getElem?_eq_some_iff.mp b)
  obtain ⟨h1,e1⟩:=ha
  obtain ⟨h2,e2⟩:=hb
  exact (List.getElem_inj hl).mp (e1.trans e2.symm)
theorem Good.loc {X:Cx}(g:Good G n sc N df X) {x:Str}(h:sc.names.lookup x=some .local∨(df=true∧sc.names.lookup x=some .cell)):Loc X.env.scope x∧(X.fn x=true∨X.env.scope.names.lookup x=some .local):=by
 rw [show Loc X.env.scope x↔Loc sc x by rw [g.sc],g.sc]
 rcases h with h | ⟨h1,h⟩
 ·exact ⟨.inl h,.inr h⟩
 ·exact ⟨.inr h,.inl (g.own h1 x)⟩
theorem Ky (j i:Nat) {x:Str}(hm:m.Nodup) (hN:N.Nodup) (hj:m[j]?=some i:=by rfl) (rj:N[j]?=some x:=by rfl)
  (hl:sc.names.lookup x=some .local∨(df=true∧sc.names.lookup x=some .cell):=by first | exact Or.inl rfl | exact Or.inr ⟨rfl,rfl⟩):JG G n sc N df m (.one i) (.Name x pos):=fun X g=>by
 obtain ⟨h1,h2⟩:=g.loc hl
 refine PG.of (vA (i:=j) (by rw [g.nm];exact hN) (by rw [g.nm];exact rj) h1 h2) fun v s H Q q=>?_
 obtain ⟨r,fr,h,d,ak,sr,hr,v1,e,q⟩:=q
 cases e
 exact q _ (sr.set hm hj v1)
inductive RB (K:PySem.W.Frag) (m:List Nat) (l:List Nat) (vs:List V) (s:L2.St) (H:Hp) (Q:L2.St→Hp→Prop):Prop
 | mk (r:List Addr) (fr:Fr) (h:Hh) (ds:List D) (ak:Fr) (c0:SR K m H r fr s) (c1:HR K H r h) (c2:aI K H r ds vs) (c3:Ev.cQ l ds fr=some ak) (c4:∀ s',SR K m H r ak s'→Q s' H):RB K m l vs s H Q
noncomputable def rq (G:Tb) (n:Nat) (sc:Scope) (N:List Str) (df:Bool) (m:List Nat) (l:List Nat) (xs:List Expr):Prop:=∀ X,Good G n sc N df X→ny X xs (RB X.K m l)
theorem ny.of {X:Cx}{e:List Expr}{t t':qT}(h:ny X e t) (w:∀ v s H Q,t' v s H Q→t v s H Q):ny X e t':=fun pins s σ H v u Q I r q=>h pins s σ H v u Q I r (w _ _ _ _ q)
theorem Hg:rq G n sc N df m [] []:=fun X g=>ny.of GP fun vs s H Q q=>by
 obtain ⟨r,fr,h,ds,ak,sr,hr,v1,e,q⟩:=q
 cases ds with
 | nil=>simp only [aI] at v1;subst v1;cases e;exact ⟨rfl,q _ sr⟩
 | cons _ _=>cases e
theorem BP (j i:Nat) {x:Str}{l:List Nat}{xs:List Expr}(hm:m.Nodup) (hN:N.Nodup) (hs:rq G n sc N df m l xs) (hj:m[j]?=some i:=by rfl) (rj:N[j]?=some x:=by rfl)
  (hl:sc.names.lookup x=some .local∨(df=true∧sc.names.lookup x=some .cell):=by first | exact Or.inl rfl | exact Or.inr ⟨rfl,rfl⟩)
  (hst:∀ env:Env,(assignEach (.Name x pos :: xs) env).map (·.2)=assign (.Name x pos) env :: (assignEach xs env).map (·.2):=by intro _;rfl):rq G n sc N df m (i :: l) (.Name x pos :: xs):=fun X g=>by
 obtain ⟨h1,h2⟩:=g.loc hl
 refine ny.of (Br (vA (i:=j) (by rw [g.nm];exact hN) (by rw [g.nm];exact rj) h1 h2) (hs X g) (hst _)) fun vs s H Q q=>?_
 obtain ⟨r,fr,h,ds,ak,sr,hr,v1,e,q⟩:=q
 cases ds with
 | nil=>cases e
 | cons d ds=>
  simp only [aI] at v1
  obtain ⟨v,w,rfl,v2,v3⟩:=v1
  exact ⟨v,w,rfl,r,_,h,ds,ak,sr.set hm hj v2,hr,v3,e,q⟩
theorem Hi {l:List Nat}{xs:List Expr}{k:Nat}(hs:rq G n sc N df m l xs) (hn:∀ env:Env,(assignEach xs env).length=l.length:=by intro _;rfl) (hst:∀ env:Env,(assignEach xs env).findIdx? (·.1)=none:=by intro _;rfl) :
  JG G n sc N df m (.many l) (.Tuple xs k pos):=fun X g=>PG.of (Jw (n:=l.length) g.calm (hs X g) (hn _) (hst _)) fun v s H Q q=>by
 obtain ⟨r,fr,h,d,ak,sr,hr,v1,e,q⟩:=q
 cases d with
 | tup ds=>
  simp only [RV] at v1
  obtain ⟨p,vs,rfl,z,w⟩:=v1
  have hlen:∀ (l:List Nat) (ds:List D) fr ak,Ev.cQ l ds fr=some ak→ds.length=l.length:=by
   intro l
   induction l with
   | nil=>intro ds fr ak e;cases ds with | nil=>rfl | cons _ _=>cases e
   | cons i l ih=>intro ds fr ak e;cases ds with | nil=>cases e | cons d ds=>simp [ih ds _ _ e]
  exact ⟨p,vs,rfl,z,by rw [w.length];exact hlen _ _ _ _ e,r,fr,h,ds,ak,sr,hr,w,e,q⟩
 | _=>cases e
end
end Sm
set_option maxRecDepth 100000
namespace Sm
open PySem PySem.Spec PyProof.Rows L2
open Ev (D O Hh Fr R aU E Es Eo T S Ss Fl Src bV bQ TY BI ME)
noncomputable def Fin (K:PySem.W.Frag) (m:List Nat) (r:List Addr) (H:Hp) (h':Hh) (fl:Fl) (ak:Fr) (Q:Ends):Prop:=match fl with
 | .nx=>∀ s' H' r',SR K m H' r' ak s'→HR K H' r' h'→Fm K r r' H H'→Q.nx s' H'
 | .bk=>∀ s' H' r',SR K m H' r' ak s'→HR K H' r' h'→Fm K r r' H H'→Q.bk s' H'
 | .ct=>∀ s' H' r',SR K m H' r' ak s'→HR K H' r' h'→Fm K r r' H H'→Q.ct s' H'
 | .ret d=>Res K r H h' d Q.rt
theorem Fin.later {K:PySem.W.Frag}{m:List Nat}{r r':List Addr}{H H':Hp}{h':Hh}{fl:Fl}{ak:Fr}{Q:Ends}(q:Fin K m r H h' fl ak Q) (f:Fm K r r' H H'):Fin K m r' H' h' fl ak Q:=by
 cases fl with
 | nx=>exact fun s2 H2 r2 a b g=>q s2 H2 r2 a b (f.trans g)
 | bk=>exact fun s2 H2 r2 a b g=>q s2 H2 r2 a b (f.trans g)
 | ct=>exact fun s2 H2 r2 a b g=>q s2 H2 r2 a b (f.trans g)
 | ret d=>exact Res.later q f
inductive RC (K:PySem.W.Frag) (m:List Nat) (P:aU) (w:Nat) (st:S) (Q:Ends) (s:L2.St) (H:Hp):Prop
 | mk (r:List Addr) (fr:Fr) (h:Hh) (fl:Fl) (ak:Fr) (h':Hh) (c0:SR K m H r fr s) (c1:HR K H r h) (c2:Ev.ex P w st fr h=.ok (fl,ak) h') (c3:Fin K m r H h' fl ak Q):RC K m P w st Q s H
inductive BQ (K:PySem.W.Frag) (m:List Nat) (P:aU) (w:Nat) (ss:Ss) (Q:Ends) (s:L2.St) (H:Hp):Prop
 | mk (r:List Addr) (fr:Fr) (h:Hh) (fl:Fl) (ak:Fr) (h':Hh) (c0:SR K m H r fr s) (c1:HR K H r h) (c2:Ev.exs P w ss fr h=.ok (fl,ak) h') (c3:Fin K m r H h' fl ak Q):BQ K m P w ss Q s H
theorem PS.of {X:Cx}{st:Stmt}{t t':TS}(h:PS X st t) (w:∀ Q s H,t' Q s H→t Q s H):PS X st t':=fun pins s σ H Q I q=>h pins s σ H Q I (w _ _ _ q)
theorem ir.of {X:Cx}{st:List Stmt}{t t':TS}(h:ir X st t) (w:∀ Q s H,t' Q s H→t Q s H):ir X st t':=fun pins s σ H Q I q=>h pins s σ H Q I (w _ _ _ q)
section
variable (G:Tb)(n:Nat)(sc:Scope)(N:List Str)(df:Bool)(m:List Nat)
noncomputable def JS (st:S) (x:Stmt):Prop:=∀ X,Good G n sc N df X→PS X x (RC X.K m (Ev.run G.F G.w n) G.w st)
noncomputable def lE (ss:Ss) (xs:List Stmt):Prop:=∀ X,Good G n sc N df X→ir X xs (BQ X.K m (Ev.run G.F G.w n) G.w ss)
end
section
variable {G:Tb}{n:Nat}{sc:Scope}{N:List Str}{df:Bool}{m:List Nat}{a b c:E}{xa xb xc tg:Expr}{pos:Pos}
theorem Hj:lE G n sc N df m .nil []:=fun X g=>ir.of GN fun Q s H q=>by
 obtain ⟨r,fr,h,fl,ak,h',sr,hr,e,q⟩:=q
 simp only [Ev.exs] at e
 cases e
 exact q s H r sr hr .refl
theorem BR {st:S}{ss:Ss}{x:Stmt}{xs:List Stmt}(h1:JS G n sc N df m st x) (h2:lE G n sc N df m ss xs):lE G n sc N df m (.cons st ss) (x :: xs):=fun X g=>ir.of (Bp (h1 X g) (h2 X g)) fun Q s H q=>by
 obtain ⟨r,fr,h,fl,ak,h',sr,hr,e,q⟩:=q
 simp only [Ev.exs] at e
 obtain ⟨⟨gK,ah⟩,h1,e1,e⟩:=Ev.ai e
 refine ⟨r,fr,h,gK,ah,h1,sr,hr,e1,?_⟩
 cases gK with
 | nx=>exact fun s1 H1 r1 zz hr1 f1=>⟨r1,ah,h1,fl,ak,h',zz,hr1,e,q.later f1⟩
 | bk=>cases e;exact q
 | ct=>cases e;exact q
 | ret d=>cases e;exact q
theorem Kz (j i:Nat) {x:Str}{pos':Pos}(hm:m.Nodup) (hN:N.Nodup) (ha:JE G n sc N df m a xa) (hs:∀ env:Env,swapsWith xa (some (.Name x pos')) pos.line env=pure false:=by intro _;rfl) (hj:m[j]?=some i:=by rfl) (rj:N[j]?=some x:=by rfl)
  (hl:sc.names.lookup x=some .local∨(df=true∧sc.names.lookup x=some .cell):=by first | exact Or.inl rfl | exact Or.inr ⟨rfl,rfl⟩):JS G n sc N df m (.set i a) (.Assign [.Name x pos'] xa pos):=fun X g=>by
 obtain ⟨h1,h2⟩:=g.loc hl
 refine PS.of (yX (i:=j) (by rw [g.nm];exact hN) (by rw [g.nm];exact rj) h1 (ha X g) (hs _) h2) fun Q s H q=>?_
 obtain ⟨r,fr,h,fl,ak,h',sr,hr,e,q⟩:=q
 simp only [Ev.ex] at e
 obtain ⟨d,h1,e1,e⟩:=Ev.ai e
 cases e
 exact ⟨r,fr,h,d,_,sr,hr,e1,fun v H1 r1 v1 hr1 f1=>q _ H1 r1 ((sr.mono f1).set hm hj v1) hr1 f1⟩
theorem KA (ha:JE G n sc N df m a xa) (hs:∀ env:Env,swapsWith xa none pos.line env=pure false:=by intro _;rfl):JS G n sc N df m (.exp a) (.Expr xa pos):=fun X g=>PS.of (GO (ha X g) (hs _)) fun Q s H q=>by
 obtain ⟨r,fr,h,fl,ak,h',sr,hr,e,q⟩:=q
 simp only [Ev.ex] at e
 obtain ⟨d,h1,e1,e⟩:=Ev.ai e
 cases e
 exact ⟨r,fr,h,d,_,sr,hr,e1,fun v H1 r1 v1 hr1 f1=>q s H1 r1 (sr.mono f1) hr1 f1⟩
theorem KC (ha:JE G n sc N df m a xa):JS G n sc N df m (.ret a) (.Return (some xa) pos):=fun X g=>PS.of (Ju (ha X g)) fun Q s H q=>by
 obtain ⟨r,fr,h,fl,ak,h',sr,hr,e,q⟩:=q
 simp only [Ev.ex] at e
 obtain ⟨d,h1,e1,e⟩:=Ev.ai e
 cases e
 exact ⟨r,fr,h,d,_,sr,hr,e1,q⟩
theorem KD {ta tb:Ss}{ya yb:List Stmt}(hc:JT G n sc N df m a xa) (h1:lE G n sc N df m ta ya) (h2:lE G n sc N df m tb yb):JS G n sc N df m (.iff a ta tb) (.If xa ya yb pos):=fun X g=>PS.of (Ph (hc X g) (h1 X g) (h2 X g)) fun Q s H q=>by
 obtain ⟨r,fr,h,fl,ak,h',sr,hr,e,q⟩:=q
 simp only [Ev.ex] at e
 obtain ⟨k,h3,e1,e⟩:=Ev.ai e
 refine ⟨r,fr,h,k,h3,sr,hr,e1,fun H1 r1 hr1 f1=>?_⟩
 cases k with
 | true=>exact ⟨r1,fr,h3,fl,ak,h',sr.mono f1,hr1,e,q.later f1⟩
 | false=>exact ⟨r1,fr,h3,fl,ak,h',sr.mono f1,hr1,e,q.later f1⟩
theorem Good.pass {X:Cx}(g:Good G n sc N df X):PassesOwn (model X.prog X.w) X.A X.env X.xe:=by
 rw [g.xe];exact PassesOwn.never
noncomputable def FN (K:PySem.W.Frag) (m:List Nat) (gK:Fl) (ja:Fr) (h4:Hh) (r1:List Addr) (H1:Hp) (s5:L2.St) (H5:Hp):Prop:=(gK=.nx∨gK=.ct)∧∃ r5,SR K m H5 r5 ja s5∧HR K H5 r5 h4∧Fm K r1 r5 H1 H5
section
variable {K:PySem.W.Frag}{r r1 r2:List Addr}{H H1 H2:Hp}{h4 h':Hh}{fl gK:Fl}{ja ak:Fr}{Q:Ends}
noncomputable def xE (L:R (Fl×Fr)) (p:Fl×Fr) (h1:Hh):R (Fl×Fr):=match p.1 with
 | .nx=>L
 | .ct=>L
 | .bk=>.ok (.nx,p.2) h1
 | .ret x=>.ok (.ret x,p.2) h1
theorem vM {L:R (Fl×Fr)}(e:xE L (gK,ja) h4=.ok (fl,ak) h') (z:gK=.nx∨gK=.ct):L=.ok (fl,ak) h':=by rcases z with rfl | rfl <;> exact e
theorem tK {L:R (Fl×Fr)}(e:xE L (gK,ja) h4=.ok (fl,ak) h') (q:Fin K m r H h' fl ak Q) (f:Fm K r r1 H H1) (f2:Fm K r1 r2 H1 H2):Fin K m r2 H2 h4 gK ja { Q with nx:=FN K m gK ja h4 r1 H1,ct:=FN K m gK ja h4 r1 H1,bk:=Q.nx }:=by
 cases gK with
 | nx=>exact fun s6 H6 r6 zA zB f6=>⟨.inl rfl,r6,zA,zB,f2.trans f6⟩
 | ct=>exact fun s6 H6 r6 zA zB f6=>⟨.inr rfl,r6,zA,zB,f2.trans f6⟩
 | bk=>
  cases e
  exact fun s6 H6 r6 zA zB f6=>q s6 H6 r6 zA zB ((f.trans f2).trans f6)
 | ret d=>
  cases e
  exact Res.later q (f.trans f2)
noncomputable def tL (P:aU) (w:Nat) (t:T) (tb:Ss):D→Fr→Hh→R (Fl×Fr):=fun d ay h2=>match Ev.cj t d ay with
 | some cX=>Ev.exs P w tb cX h2
 | none=>.bad
theorem tM (P:aU) (w:Nat) (t:T) (it:Ev.It) (tb:Ss) (fr:Fr) (h:Hh):Ev.ex P w (.for t it tb) fr h=(Ev.dc P it fr h).bind fun s h1=>Ev.forL (tL P w t tb) s.2 s.1 fr h1:=by simp only [Ev.ex];rfl
theorem rz (f:D→Fr→Hh→R (Fl×Fr)) (ck:List (Nat×List D)) (d:D) (ds:List D) (fr:Fr) (h:Hh):Ev.forL f ck (d :: ds) fr h=if Ev.stays h ck then (f d fr h).bind fun p h1=>xE (Ev.forL f ck ds p.2 h1) p h1 else .bad:=rfl
noncomputable def FW (K:PySem.W.Frag) (m:List Nat) (f:D→Fr→Hh→R (Fl×Fr)) (src:Src) (r1:List Addr) (H1:Hp) (o:Fl×Fr) (h':Hh) (i k:Nat) (s3:L2.St) (H3:Hp):Prop:=
 k=src.1.length - i∧i≤src.1.length∧∃ r3 cX h3,SR K m H3 r3 cX s3∧HR K H3 r3 h3∧Fm K r1 r3 H1 H3∧Ev.forL f src.2 (src.1.drop i) cX h3=.ok o h'
theorem BU {P:aU}{w:Nat}{t:T}{tb:Ss}{src:Src}{J:L2.It}{i k:Nat}{s3:L2.St}{H3:Hp}(hJ:qj K r1 H1 src J) (q:Fin K m r H h' fl ak Q) (f1:Fm K r r1 H H1) (hW:FW K m (tL P w t tb) src r1 H1 (fl,ak) h' i k s3 H3) :
  (J.stop i H3∧Q.nx s3 H3)∨(J.go i H3∧∃ N:L2.St→Hp→Prop,(∀ σ' H',N σ' H'→∃ m',m'<k∧FW K m (tL P w t tb) src r1 H1 (fl,ak) h' (i+1) m' σ' H')∧∀ x H',J.Ew i H3 x H'→gJ K m t x s3 H' fun σ2 H2=>BQ K m P w tb { Q with nx:=N,ct:=N,bk:=Q.nx } σ2 H2):=by
 obtain ⟨rfl,hle,r3,cX,h3,vN,oN,f3,e3⟩:=hW
 rcases Nat.lt_or_ge i src.1.length with hlt | hge
 ·rw [List.drop_eq_getElem_cons hlt,rz] at e3
  split at e3
  ·rename_i hst
   obtain ⟨g1,g2⟩:=(hJ i H3 r3 h3 oN f3 hst).1 src.1[i] (List.getElem?_eq_getElem hlt)
   obtain ⟨⟨gK,ja⟩,h4,e4,e3⟩:=Ev.ai e3
   unfold tL at e4
   split at e4
   ·rename_i qU e5
    exact .inr ⟨g1,FN K m gK ja h4 r1 H1,fun s5 H5 ⟨hfl,r5,zC,rA,f5⟩=>⟨_,Nat.sub_lt_sub_left hlt (Nat.lt_succ_self i),rfl,hlt,r5,ja,h4,zC,rA,f5,vM e3 hfl⟩,fun x H4 y=>
     let ⟨r4,v4,RD,f4⟩:=g2 x H4 y
     ⟨r4,cX,h3,_,qU,vN.mono f4,RD,v4,e5,fun s5 zC=>⟨r4,qU,h3,gK,ja,h4,zC,RD,e4,tK e3 q f1 (f3.trans f4)⟩⟩⟩
   ·cases e4
  ·cases e3
 ·have hi:i=src.1.length:=Nat.le_antisymm hle hge
  subst hi
  rw [List.drop_length] at e3
  unfold Ev.forL at e3
  split at e3
  ·rename_i hst
   cases e3
   exact .inl ⟨(hJ _ H3 r3 _ oN f3 hst).2 (Nat.le_refl _),q s3 H3 r3 vN oN (f1.trans f3)⟩
  ·cases e3
end
theorem zD (t:Fr→Hh→R Bool) (f:Fr→Hh→R (Fl×Fr)) (n:Nat) (fr:Fr) (h:Hh):Ev.dU t f (n+1) fr h=(t fr h).bind fun b h1=>if b then (f fr h1).bind fun p h2=>xE (Ev.dU t f n p.2 h2) p h2 else .ok (.nx,fr) h1:=rfl
noncomputable def WW (K:PySem.W.Frag) (m:List Nat) (P:aU) (w:Nat) (a:E) (tb:Ss) (r:List Addr) (H:Hp) (o:Fl×Fr) (h':Hh) (k:Nat) (s1:L2.St) (H1:Hp):Prop:=
 ∃ r1 ah h1,SR K m H1 r1 ah s1∧HR K H1 r1 h1∧Fm K r r1 H H1∧Ev.dU (fun ay h2=>Ev.aL P a ay h2) (fun ay h2=>Ev.exs P w tb ay h2) k ah h1=.ok o h'
theorem KG {tb:Ss}{yb:List Stmt}(hc:JT G n sc N df m a xa) (h1:lE G n sc N df m tb yb):JS G n sc N df m (.lP a tb) (.While xa yb [] pos):=fun X g=>PS.of (Bt g.pass (hc X g) (h1 X g)) fun Q s H q=>by
 obtain ⟨r,fr,h,fl,ak,h',sr,hr,e,q⟩:=q
 simp only [Ev.ex] at e
 refine ⟨WW X.K m (Ev.run G.F G.w n) G.w a tb r H (fl,ak) h',⟨_,r,fr,h,sr,hr,.refl,e⟩,fun k s1 H1 hW=>?_⟩
 obtain ⟨r1,ah,h1,zz,hr1,f1,e1⟩:=hW
 cases k with
 | zero=>cases e1
 | succ k=>
  rw [zD] at e1
  obtain ⟨bb,h2,e2,e1⟩:=Ev.ai e1
  refine ⟨r1,ah,h1,bb,h2,zz,hr1,e2,fun H2 r2 hr2 f2=>?_⟩
  cases bb with
  | false=>
   cases e1
   exact q s1 H2 r2 (zz.mono f2) hr2 (f1.trans f2)
  | true=>
   rw [if_pos rfl] at e1
   obtain ⟨⟨gK,ay⟩,h3,e3,e1⟩:=Ev.ai e1
   exact ⟨FN X.K m gK ay h3 r H,fun s3 H3 ⟨hfl,r3,vN,oN,f3⟩=>⟨k,Nat.lt_succ_self k,r3,ay,h3,vN,oN,f3,vM e1 hfl⟩,r2,ah,h2,gK,ay,h3,zz.mono f2,hr2,e3,tK e1 q .refl (f1.trans f2)⟩
theorem KH {t:T}{it:Ev.It}{tb:Ss}{yb:List Stmt}(hi:JI G n sc N df m it tg xa) (hg:JG G n sc N df m t tg) (h1:lE G n sc N df m tb yb) (hs:∀ (env:Env) x,foldedSetIterable xa env x=pure x:=by intro _ _;rfl) :
  JS G n sc N df m (.for t it tb) (.For tg xa yb [] pos):=fun X g=>PS.of (Jy g.pass g.calm (hi X g) (hg X g) (h1 X g) (hs _)) fun Q s H q=>by
 obtain ⟨r,fr,h,fl,ak,h',sr,hr,e,q⟩:=q
 rw [tM] at e
 obtain ⟨src,h2,e1,e⟩:=Ev.ai e
 exact ⟨r,fr,h,src,h2,sr,hr,e1,fun J H1 r1 hr1 f1 hJ=>⟨FW X.K m (tL (Ev.run G.F G.w n) G.w t tb) src r1 H1 (fl,ak) h',⟨src.1.length,rfl,Nat.zero_le _,r1,fr,h2,sr.mono f1,hr1,.refl,by rw [List.drop_zero];exact e⟩,fun i k s3 H3 hW=>BU hJ q f1 hW⟩⟩
end
theorem getElem?_range' {k j i:Nat}(h:(List.range k)[j]?=some i):i=j:=by
 obtain ⟨h1,h2⟩:=List.getElem?_eq_some_iff.mp h
 simpa using h2.symm
theorem BV {K:PySem.W.Frag}{H:Hp}{r:List Addr}{ds:List D}{vs:List V}{N:List Str}{fn:Ev.Fn}(v1:aI K H r ds vs) (hN:vs.length≤N.length):SR K (List.range N.length) H r (Ev.fz fn ds) (L2.start N vs):=by
 refine ⟨by unfold L2.start;simp;omega,fun j i d e1 e2=>?_⟩
 have e3:=getElem?_range' e1
 subst e3
 unfold Ev.fz at e2
 by_cases hj:i<ds.length
 ·rw [List.getElem?_append_left (by simpa using hj),List.getElem?_map] at e2
  cases e4:ds[i]? with
  | none=>rw [e4] at e2;cases e2
  | some d'=>
   rw [e4] at e2
   cases e2
   obtain ⟨v,q1,q2⟩:=v1.get e4
   refine ⟨v,?_,q2⟩
   unfold L2.start
   rw [List.getElem?_append_left (by have:=v1.length;simpa using (by omega:i<vs.length)),List.getElem?_map,q1]
   rfl
 ·rw [List.getElem?_append_right (by simpa using Nat.not_lt.mp hj),List.getElem?_replicate] at e2
  split at e2 <;> cases e2
section
variable {P:Program}{w:World}{K:PySem.W.Frag}{mg:Str→Option Value}{base:Heap}{G:Tb}
noncomputable def sy (P:Program) (w:World) (K:PySem.W.Frag) (mg:Str→Option Value) (base:Heap) (G:Tb) (n:Nat):Prop:=∀ (f:Nat) i,G.fi[f]?=some i→iw P w K mg base lN n i.addr i.fd i.ps (nB K G.F G.w n f)
structure Top (P:Program) (w:World) (K:PySem.W.Frag) (mg:Str→Option Value) (G:Tb):Prop where
 fn:∀ (f:Nat) i,G.fi[f]?=some i→mg i.name=some (.ref i.addr)∧PySem.W.keepIn K (.ref i.addr)=true∧Binds K i.fd i.ps []
 bl:∀ x∈G.bl,mg x=none
 cs:∀ x d,(x,d)∈G.cs→∃ v u,mg x=some u∧RelV v u∧tG d v
 dk:∀ x kvs,(x,kvs)∈G.dk→∃ a,mg x=some (.ref a)∧∀ h:Heap,K.In h→StrTab P w h a (tabOf kvs)
theorem Hl {f:Addr}{fd:FuncData}{ps:List Str}{k:Nat}:iw P w K mg base lN 0 f fd ps (nB K G.F G.w 0 k):=by
 have no:∀ vs H Q E,¬ nB K G.F G.w 0 k vs H Q E:=fun vs H Q E h=>by
  obtain ⟨r,h,ds,d,h',_,_,e,_⟩:=h
  cases e
 exact ⟨fun vs H Q E h=>absurd h (no vs H Q E),fun A outer s H args us vs Q E _ _ _ _ h=>absurd h (no vs H Q E)⟩
theorem dg {x qual:Str}{st:Stmt}{i:FI}{N:List Str}{n f:Nat}{fn:Ev.Fn}(T:Top P w K mg G) (A0:sy P w K mg base G n) (F:tE K x qual st i.addr i.fd) (S:bG N i.ps (aq st)) (hf:G.F[f]?=some fn) (hp:i.ps.length=fn.np)
  (hb:lE G n (aq st) N true (List.range N.length) fn.body (aH st)):iw P w K mg base lN (n+1) i.addr i.fd i.ps (nB K G.F G.w (n+1) f):=by
 have hlen:∀ vs H Q E,nB K G.F G.w (n+1) f vs H Q E→vs.length=i.ps.length:=fun vs H Q E h=>by
  obtain ⟨r,h,ds,d,h',v1,_,e,_⟩:=h
  simp only [Ev.run,hf] at e
  split at e
  ·rename_i z
   rw [v1.length,z,hp]
  ·cases e
 refine F.ok S hlen fun cdv A outer s H vs Q E hr jW=>?_
 have hl:=hlen vs H Q E jW
 have hN:vs.length≤N.length:=by
  have:=congrArg List.length S.pre
  rw [List.length_take] at this
  omega
 have g:Good G n (aq st) N true (nP lN P w K mg base N qual (aq st) i.addr cdv A outer s H E).qS:=
  ⟨rfl,rfl,rfl,fun _ _=>rfl,hr,rfl,fun f i hi=>⟨(T.fn f i hi).1,(T.fn f i hi).2.1,(T.fn f i hi).2.2,A0 f i hi⟩,T.bl,T.cs,T.dk⟩
 refine ⟨_,hb _ g,?_⟩
 obtain ⟨r,h,ds,d,h',v1,hr1,e,q⟩:=jW
 simp only [Ev.run,hf] at e
 split at e
 ·unfold Ev.endOf at e
  obtain ⟨⟨fl,ak⟩,h2,e1,e⟩:=Ev.ai e
  refine ⟨r,Ev.fz fn ds,h,fl,ak,h2,BV v1 hN,hr1,e1,?_⟩
  cases fl with
  | nx=>
   cases e
   exact fun s' H' r' _ hr' f'=>q _ H' r' rfl hr' f'
  | ret d'=>
   cases e
   exact q
  | bk=>cases e
  | ct=>cases e
 ·cases e
end
end Sm
set_option maxRecDepth 100000
namespace Sm
open PySem PySem.Spec PyProof.Rows L2
open Ev (D O Hh Fr R aU E Es Eo T S Ss Fl Src bV bQ TY BI ME)
theorem qk (env:Env):∀ (names:List (Str×NameKind)) (acc:List (Str×Addr)),(∀ x,(x,NameKind.free)∈names→∃ c,env.cells.lookup x=some c)→(∀ x c,acc.lookup x=some c→env.cells.lookup x=some c)→
  ∃ cl,(forIn names acc (fun (x:Str×NameKind) cs=>if (x.2==NameKind.free)=true then (do let c ←cellOf env x.1;pure (ForInStep.yield ((x.1,c) :: cs))) else pure (ForInStep.yield cs)):Sem (List (Str×Addr)))=pure cl∧
   (∀ x c,cl.lookup x=some c→env.cells.lookup x=some c)∧(∀ x,(x,NameKind.free)∈names→(cl.lookup x).isSome=true)∧(∀ x,(acc.lookup x).isSome=true→(cl.lookup x).isSome=true)
 | [],acc,_,h2=>⟨acc,rfl,h2,(fun x h=>by simp at h),fun _ h=>h⟩
 | (y,k) :: r,acc,h1,h2=>by
  by_cases hk:k=.free
  ·subst hk
   obtain ⟨c,hc⟩:=h1 y (List.mem_cons_self ..)
   have h2':∀ x c',((y,c) :: acc).lookup x=some c'→env.cells.lookup x=some c':=fun x c' e=>by
    rw [List.lookup_cons] at e
    split at e
    ·rename_i hx
     have hx':x=y:=by simpa using hx
     cases e;rw [hx'];exact hc
    ·exact h2 x c' e
   obtain ⟨cl,e1,e2,e3,e4⟩:=qk env r ((y,c) :: acc) (fun x hx=>h1 x (List.mem_cons_of_mem _ hx)) h2'
   refine ⟨cl,?_,e2,fun x hx=>?_,fun x hx=>e4 x ?_⟩
   ·rw [List.forIn_cons]
    simp only [beq_self_eq_true,if_true]
    unfold cellOf
    rw [hc]
    exact e1
   ·rcases List.mem_cons.mp hx with z | z
    ·cases z
     exact e4 y (by simp [List.lookup_cons])
    ·exact e3 x z
   ·rw [List.lookup_cons]
    split
    ·rfl
    ·exact hx
  ·have hk':(k==NameKind.free)=false:=by simpa using hk
   obtain ⟨cl,e1,e2,e3,e4⟩:=qk env r acc (fun x hx=>h1 x (List.mem_cons_of_mem _ hx)) h2
   refine ⟨cl,?_,e2,fun x hx=>?_,e4⟩
   ·rw [List.forIn_cons]
    simp only [hk',Bool.false_eq_true,if_false]
    exact e1
   ·rcases List.mem_cons.mp hx with z | z
    ·cases z;exact absurd rfl hk
    ·exact e3 x z
theorem Ho {scope:Scope}{env:Env}(h:∀ x,(x,NameKind.free)∈scope.names→∃ c,env.cells.lookup x=some c) :
  ∃ cl,closureFor scope env=pure cl∧(∀ x c,cl.lookup x=some c→env.cells.lookup x=some c)∧∀ x,(x,NameKind.free)∈scope.names→∃ c,cl.lookup x=some c:=by
 obtain ⟨cl,e1,e2,e3,_⟩:=qk env scope.names [] h (fun x c e=>by simp at e)
 refine ⟨cl,?_,e2,fun x hx=>Option.isSome_iff_exists.mp (e3 x hx)⟩
 unfold closureFor
 show (forIn scope.names [] _ >>= fun cs=>pure cs:Sem (List (Str×Addr)))=pure cl
 have e:(forIn scope.names [] (fun (x:Str×NameKind) cs=>if (x.2==NameKind.free)=true then (do let c ←cellOf env x.1;pure (ForInStep.yield ((x.1,c) :: cs))) else pure (ForInStep.yield cs)):Sem (List (Str×Addr)))=pure cl:=e1
 exact congrArg (fun t:Sem (List (Str×Addr))=>t >>= fun cs=>pure cs) e
noncomputable def eV (sc scope:Scope):Scope:={ scope with names:=scope.names.map fun (n,k)=>if (k==.free&&sc.kind==.function&&sc.names.lookup n==some .cell) then (n,.cell) else (n,k)}
theorem ql {env:Env}{sc scope:Scope}(h:env.scope=sc):relabel scope env=eV sc scope:=by
 subst h;rfl
theorem rB {sc:Scope}:∀ {names:List (Str×NameKind)}{x:Str},(∀ y∈names,y.2≠.cell)→
  ((names.map fun (n,k)=>if (k==NameKind.free&&sc.kind==.function&&sc.names.lookup n==some .cell) then (n,NameKind.cell) else (n,k)).lookup x=some .cell∨
   (names.map fun (n,k)=>if (k==NameKind.free&&sc.kind==.function&&sc.names.lookup n==some .cell) then (n,NameKind.cell) else (n,k)).lookup x=some .free)→(x,NameKind.free)∈names
 | [],_,_,h=>by rcases h with h | h <;> simp at h
 | (n,k) :: r,x,hc,h=>by
  have ih:=@rB sc r x fun y hy=>hc y (List.mem_cons_of_mem _ hy)
  simp only [List.map_cons] at h
  have nk:∀ (k':NameKind),(if (k==NameKind.free&&sc.kind==.function&&sc.names.lookup n==some .cell) then (n,NameKind.cell) else (n,k))=(n,k')→k'=.cell∨k'=.free→k=.free:=fun k' e hk'=>by
   split at e
   ·rename_i z
    simp only [Bool.and_eq_true,beq_iff_eq] at z
    exact z.1.1
   ·cases e
    rcases hk' with z | z
    ·exact absurd z (hc (n,_) (List.mem_cons_self ..))
    ·exact z
  generalize hg:(if (k==NameKind.free&&sc.kind==.function&&sc.names.lookup n==some .cell) then (n,NameKind.cell) else (n,k))=p at h nk
  have hp:p.1=n:=by rw [←hg];split <;> rfl
  obtain ⟨p1,p2⟩:=p
  simp only at hp
  subst hp
  simp only [List.lookup_cons] at h
  cases hx:(x==p1) with
  | true=>
   have hx':x=p1:=by simpa using hx
   rw [hx] at h
   have:=nk p2 rfl (by rcases h with h | h <;> simp at h <;> simp [h])
   subst this
   rw [hx']
   exact List.mem_cons_self ..
  | false=>
   rw [hx] at h
   exact List.mem_cons_of_mem _ (ih h)
section
variable {prog:Program}{w:World}{A:Around}{R':Result→Shared→Prop}{s:Shared}
abbrev fJ:Value→Shared→Prop:=fun _ _=>False
noncomputable def vO (ifs:List Expr) (env:Env):Sem Bool:=forIn ifs true fun c r=>if r=true then do let ok ←isTrue c env (eval c env);pure (ForInStep.yield ok) else pure (ForInStep.yield r)
theorem tN {elt target iter:Expr}{ifs:List Expr}{scope:Scope}{pos:Pos}{it acc:Value}{env:Env}(I:Nat→Shared→Prop)
  (turn:∀ n s,I n s→wpAny (model prog w) A (pyNext it) (fun r s₁=>match r with
   | none=>R' (.ok .next) s₁
   | some v=>wpAny (model prog w) A (letOwnedTupleGo target it v) (fun _ s₂=>wpAny (model prog w) A (assign target env v) (fun _ s₃=>
     wpAny (model prog w) A (vO ifs env) (fun ok s₄=>
      if ok=true then wpAny (model prog w) A (eval elt env) (fun x s₅=>
       wpAny (model prog w) A (call (.builtin "list.append") [acc,x]) (fun _ s₆=>∃ m,m<n∧I m s₆) fJ s₅) fJ s₄
      else ∃ m,m<n∧I m s₄) fJ s₃) fJ s₂) fJ s₁) fJ s)
  (n:Nat) (h:I n s):codeAny (model prog w) A (.compLoop (.ListComp elt [⟨target,iter,ifs,0⟩] scope pos) 0 it acc env) R' s:=by
 refine codeAny_loop rfl I (fun n s hI=>?_) n h
 show wpAny _ A ((compTurn (.ListComp elt [⟨target,iter,ifs,0⟩] scope pos) 0 it acc env).onRaise (fun x=>do noteFrame x env;theTreesLotGoes x)) _ _ s
 refine wpAny_noted ?_
 rw [compTurn_list]
 refine wpAny_bind (wpAny_standAt (wpAny_bind (wpAny_mono (turn n s hI) (fun r s₁ h₁=>?_) fun _ _ h'=>h'.elim)))
 cases r with
 | none=>exact wpAny_pure h₁
 | some v=>
  refine wpAny_bind (wpAny_mono h₁ (fun _ s₂ h₂=>?_) fun _ _ h'=>h'.elim)
  refine wpAny_bind (wpAny_mono h₂ (fun _ s₃ h₃=>wpAny_bind (wpAny_mono h₃ (fun ok s₄ h₄=>?_) fun _ _ h'=>h'.elim)) fun _ _ h'=>h'.elim)
  cases ok with
  | false=>exact wpAny_pure ⟨rfl,h₄⟩
  | true=>
   exact wpAny_bind (wpAny_bind (wpAny_mono h₄ (fun x s₅ h₅=>wpAny_bind (wpAny_mono h₅ (fun _ s₆ h₆=>wpAny_pure (wpAny_pure ⟨rfl,h₆⟩)) fun _ _ h'=>h'.elim)) fun _ _ h'=>h'.elim))
end
inductive RE (K:PySem.W.Frag) (m:List Nat) (P:aU) (e:Eo) (s:L2.St) (H:Hp) (Q:Bool→Hp→Prop):Prop
 | mk (r:List Addr) (fr:Fr) (h:Hh) (k:Bool) (h':Hh) (c0:SR K m H r fr s) (c1:HR K H r h) (c2:Ev.gZ P e fr h=.ok k h') (c3:∀ H' r',HR K H' r' h'→Fm K r r' H H'→Q k H'):RE K m P e s H Q
noncomputable def JC (G:Tb) (n:Nat) (sc:Scope) (N:List Str) (df:Bool) (m:List Nat) (e:Eo) (ifs:List Expr):Prop:=∀ X,Good G n sc N df X→∀ (pins:List (Addr×Obj)) (s:Shared) (σ:L2.St) (H:Hp) (Q:Bool→Hp→Prop),Inv X pins σ H s→
 RE X.K m (Ev.run G.F G.w n) e σ H Q→wpAny (model X.prog X.w) X.A (vO ifs X.env) (TP X pins σ Q) X.xe s
section
variable {G:Tb}{n:Nat}{sc:Scope}{N:List Str}{df:Bool}{m:List Nat}{a b c:E}{xa xb xc tg:Expr}{pos:Pos}
theorem PU:JC G n sc N df m .no []:=fun X g pins s σ H Q I q=>by
 obtain ⟨r,fr,h,k,h',sr,hr,e,q⟩:=q
 simp only [Ev.gZ] at e
 cases e
 exact wpAny_pure ⟨H,I,q H r hr .refl⟩
theorem KI (hc:JT G n sc N df m a xa):JC G n sc N df m (.yes a) [xa]:=fun X g pins s σ H Q I q=>by
 obtain ⟨r,fr,h,k,h',sr,hr,e,q⟩:=q
 simp only [Ev.gZ] at e
 exact wpAny_tests_one (hc X g pins s σ H Q I ⟨r,fr,h,k,h',sr,hr,e,q⟩)
end
noncomputable def oO (X:Cx) (N':List Str) (scope:Scope) (cl:List (Str×Addr)) (C:Addr) (s3:Shared) (H3:Hp) (fp:List Addr):Cx:=
 { X with N:=N',s₀:=s3,H₀:=H3,env:=compEnvC scope cl C X.env,outer:=X.stack,stack:=X.stack,ex:=fp,fn:=fun _=>false,pn:=[],xe:=fun _ _=>False }
noncomputable def namesOk (sc:Scope) (N:List Str) (m:List Nat) (scope:Scope) (t:T) (N':List Str) (m':List Nat):Prop:=m'.length=N'.length∧
 ∀ (j:Nat) x i,N'[j]?=some x→m'[j]?=some i→i∈Ev.slots t∨((x,NameKind.free)∈scope.names∧∃ jo:Nat,N[jo]?=some x∧m[jo]?=some i)
noncomputable def oQ (sc:Scope) (N:List Str) (m:List Nat) (scope:Scope) (t:T) (N':List Str) (m':List Nat):Bool:=m'.length==N'.length&&
 (List.range N'.length).all fun j=>match N'[j]?,m'[j]? with
  | some x,some i=>(Ev.slots t).contains i || (scope.names.contains (x,NameKind.free)&&(List.range N.length).any fun jo=>N[jo]?==some x&&m[jo]?==some i)
  | _,_=>true
theorem namesOk.of {sc:Scope}{N:List Str}{m:List Nat}{scope:Scope}{t:T}{N':List Str}{m':List Nat}(h:oQ sc N m scope t N' m'=true):namesOk sc N m scope t N' m':=by
 unfold oQ at h
 rw [Bool.and_eq_true] at h
 refine ⟨by simpa using h.1,fun j x i e1 e2=>?_⟩
 have hj:j<N'.length:=(List.getElem?_eq_some_iff.mp e1).1
 have q:=List.all_eq_true.mp h.2 j (List.mem_range.mpr hj)
 rw [e1,e2] at q
 simp only [Bool.or_eq_true,Bool.and_eq_true,List.any_eq_true] at q
 rcases q with q | ⟨q1,jo,_,q2⟩
 ·exact .inl (by simpa using q)
 ·exact .inr ⟨by simpa using q1,jo,by simpa using q2.1,by simpa using q2.2⟩
theorem vf {t:T}{d:D}{fr ay:Fr}(e:Ev.cj t d fr=some ay) {i:Nat}(hi:i∉Ev.slots t):ay[i]?=fr[i]?:=by
 have go:∀ (l:List Nat) (ds:List D) (fr ay:Fr),Ev.cQ l ds fr=some ay→i∉l→ay[i]?=fr[i]?:=by
  intro l
  induction l with
  | nil=>
   intro ds fr ay e _
   cases ds with
   | nil=>cases e;rfl
   | cons _ _=>cases e
  | cons j l ih=>
   intro ds fr ay e hj
   cases ds with
   | nil=>cases e
   | cons d ds=>
    rw [ih ds _ _ e fun z=>hj (List.mem_cons_of_mem _ z),List.getElem?_set_ne]
    intro z
    exact hj (by rw [z];exact List.mem_cons_self ..)
 cases t with
 | one j=>
  cases e
  rw [List.getElem?_set_ne]
  intro z
  exact hi (by simp [Ev.slots,z])
 | many l=>
  cases d with
  | tup ds=>exact go l ds fr ay e hi
  | _=>cases e
theorem SR.unbind {K:PySem.W.Frag}{m:List Nat}{H:Hp}{r:List Addr}{t:T}{d:D}{fr ay:Fr}{s:L2.St}(sr:SR K m H r ay s) (e:Ev.cj t d fr=some ay) (hu:Ev.undef t fr=true):SR K m H r fr s:=by
 refine ⟨sr.len,fun j i d' e1 e2=>sr.sl j i d' e1 ?_⟩
 rw [vf e]
 ·exact e2
 ·intro hi
  have q:=List.all_eq_true.mp hu i hi
  rw [e2] at q
  cases q
end Sm
set_option maxRecDepth 100000
namespace Sm
open PySem PySem.Spec PyProof.Rows L2
open Ev (D O Hh Fr R aU E Es Eo T S Ss Fl Src bV bQ TY BI ME)
structure jL (sc scope:Scope):Prop where
 kind:scope.kind=.function
 zE:∀ y∈scope.names,y.2≠.cell
 free:∀ x,(x,NameKind.free)∈scope.names→(sc.names.lookup x=some .cell∨sc.names.lookup x=some .free)∧scope.names.lookup x=some .free
 loc:∀ y∈scope.names,y.2=.local→scope.names.lookup y.1=some .local
noncomputable def EC (sc scope:Scope):Bool:=scope.kind==.function&&scope.names.all fun y=>y.2 != .cell&&(y.2 != .free || ((sc.names.lookup y.1==some .cell || sc.names.lookup y.1==some .free)&&scope.names.lookup y.1==some .free))&&(y.2 != .local || scope.names.lookup y.1==some .local)
theorem jL.of {sc scope:Scope}(h:EC sc scope=true):jL sc scope:=by
 unfold EC at h
 rw [Bool.and_eq_true] at h
 have q:∀ y∈scope.names,y.2≠.cell∧(y.2=.free→(sc.names.lookup y.1=some .cell∨sc.names.lookup y.1=some .free)∧scope.names.lookup y.1=some .free)∧(y.2=.local→scope.names.lookup y.1=some .local):=fun y hy=>by
  have z:=List.all_eq_true.mp h.2 y hy
  simp only [Bool.and_eq_true,Bool.or_eq_true,bne_iff_ne,beq_iff_eq,ne_eq] at z
  refine ⟨z.1.1,fun e=>?_,fun e=>?_⟩
  ·rcases z.1.2 with w | w
   ·exact absurd e w
   ·exact w
  ·rcases z.2 with w | w
   ·exact absurd e w
   ·exact w
 exact ⟨by simpa using h.1,fun y hy=>(q y hy).1,fun x hx=>(q _ hx).2.1 rfl,fun y hy=>(q y hy).2.2⟩
theorem rC {sc:Scope}:∀ {names:List (Str×NameKind)}{x:Str},names.lookup x=some .free→
  ((names.map fun (n,k)=>if (k==NameKind.free&&sc.kind==.function&&sc.names.lookup n==some .cell) then (n,NameKind.cell) else (n,k)).lookup x=some .cell∨
   (names.map fun (n,k)=>if (k==NameKind.free&&sc.kind==.function&&sc.names.lookup n==some .cell) then (n,NameKind.cell) else (n,k)).lookup x=some .free)
 | [],_,h=>by simp at h
 | (n,k) :: r,x,h=>by
  have ih:=@rC sc r x
  simp only [List.map_cons]
  simp only [List.lookup_cons] at h
  by_cases hc:(k==NameKind.free&&sc.kind==.function&&sc.names.lookup n==some .cell)=true
  ·rw [if_pos hc]
   simp only [List.lookup_cons]
   cases hx:(x==n) with
   | true=>exact .inl rfl
   | false=>rw [hx] at h;exact ih h
  ·rw [if_neg hc]
   simp only [List.lookup_cons]
   cases hx:(x==n) with
   | true=>rw [hx] at h;exact .inr h
   | false=>rw [hx] at h;exact ih h
section
variable {G:Tb}{n:Nat}{sc scope:Scope}{N N':List Str}{df:Bool}{m m':List Nat}{elt:E}{t:T}{it:Ev.It}{cond:Eo}{xe xi tg:Expr}{ifs:List Expr}{pos:Pos}{X:Cx}
theorem Good.comp (g:Good G n sc N df X) {cl:List (Str×Addr)}{C:Addr}{s3:Shared}{H3:Hp}{fp:List Addr}:Good G n (eV sc scope) N' false (oO X N' scope cl C s3 H3 fp):=
 ⟨rfl,ql g.sc,g.calm,(fun h=>by cases h),g.room,rfl,g.fn,g.bl,g.cs,g.dk⟩
theorem Hq {pins:List (Addr×Obj)}{σ:L2.St}{H3:Hp}{s3:Shared}(g:Good G n sc N df X) (I:Inv X pins σ H3 s3) (hs:jL sc scope) {cl:List (Str×Addr)}(g7:∀ x c,cl.lookup x=some c→X.env.cells.lookup x=some c)
  (jM:∀ x,(x,NameKind.free)∈scope.names→∃ c,cl.lookup x=some c) {fp:List Addr} (hfp:∀ b∈fp,gW X pins H3 b) (hfl:∀ b∈fp,b<s3.heap.objs.size):(oO X N' scope cl s3.heap.objs.size s3 H3 fp).Ok where
 mod:=I.ok.mod
 kind:=hs.kind
 glob:=I.ok.glob
 blt:=I.ok.blt
 above:=Nat.le_refl _
 inj:=fun x y c h1 h2=>I.ok.inj x y c (g7 x c h1) (g7 y c h2)
 has:=fun x h=>by
  have h':(eV sc scope).names.lookup x=some .cell∨(eV sc scope).names.lookup x=some .free:=by
   rw [←ql (scope:=scope) g.sc];exact h
  exact jM x (rB hs.zE h')
 vt:=fun x c h=>by cases h
 hd:=I.ok.hd
 frames:=I.ok.frames
 stk:=.inl rfl
 En:=fun b hb=>⟨Nat.ne_of_lt (hfl b hb),fun x c e=>(hfp b hb).2.2.2.2.1 x c (g7 x c e)⟩
 bs:=I.bs
 qQ:=Nat.le_trans I.ok.qQ I.sz
 qd:=fun b o e hb=>by
  rcases (hfp b hb).2.2.2.1 with z | z
  ·exact I.ok.qd b o e z
  ·have:=Heap.lt_size (I.ok.bs b o e).1
   exact absurd (Nat.lt_of_lt_of_le this z) (Nat.lt_irrefl _)
 qe:=fun b hb z=>by
  rcases List.mem_cons.mp (I.sV b z) with q | q
  ·exact (hfp b hb).2.1 q
  ·exact (hfp b hb).2.2.1 q
 iX:=I.stack
 sR:=I.vv
open Classical in
noncomputable def sig (scope:Scope) (N N':List Str) (m':List Nat) (K:PySem.W.Frag) (H:Hp) (r:List Addr) (fr:Fr) (σ:L2.St):L2.St:=
 (List.range N'.length).map fun j=>if h:∃ v,∃ x i,N'[j]?=some x∧m'[j]?=some i∧(x,NameKind.free)∈scope.names∧(∃ jo:Nat,N[jo]?=some x∧σ[jo]?=some (some v))∧∀ d,fr[i]?=some (some d)→RV K H r d v then some h.choose else none
theorem KJ {K:PySem.W.Frag}{H:Hp}{r:List Addr}{fr:Fr}{σ:L2.St}{j:Nat}{v:V}(h:(sig scope N N' m' K H r fr σ)[j]?=some (some v)) :
  ∃ x i,N'[j]?=some x∧m'[j]?=some i∧(x,NameKind.free)∈scope.names∧(∃ jo:Nat,N[jo]?=some x∧σ[jo]?=some (some v))∧∀ d,fr[i]?=some (some d)→RV K H r d v:=by
 unfold sig at h
 rw [List.getElem?_map] at h
 cases e:(List.range N'.length)[j]? with
 | none=>rw [e] at h;cases h
 | some j'=>
  have:=getElem?_range' e
  subst this
  rw [e] at h
  simp only [Option.map_some,Option.some.injEq] at h
  split at h
  ·rename_i hh
   cases h
   exact hh.choose_spec
  ·cases h
theorem KL {K:PySem.W.Frag}{H:Hp}{r:List Addr}{fr:Fr}{σ:L2.St}(sr:SR K m H r fr σ) (hn:namesOk sc N m scope t N' m') (hu:Ev.undef t fr=true):SR K m' H r fr (sig scope N N' m' K H r fr σ):=by
 refine ⟨by unfold sig;simp [hn.1],fun j i d e1 e2=>?_⟩
 have hj:j<N'.length:=by rw [←hn.1];exact (List.getElem?_eq_some_iff.mp e1).1
 have hx:N'[j]?=some N'[j]:=List.getElem?_eq_getElem hj
 rcases hn.2 j _ i hx e1 with hi | ⟨h1,jo,h2,h3⟩
 ·exfalso
  have q:=List.all_eq_true.mp hu i hi
  rw [e2] at q
  cases q
 ·obtain ⟨v,h4,h5⟩:=sr.sl jo i d h3 e2
  have ex:∃ v,∃ x i,N'[j]?=some x∧m'[j]?=some i∧(x,NameKind.free)∈scope.names∧(∃ jo:Nat,N[jo]?=some x∧σ[jo]?=some (some v))∧∀ d,fr[i]?=some (some d)→RV K H r d v:=
   ⟨v,N'[j],i,hx,e1,h1,⟨jo,h2,h4⟩,fun d' e'=>by rw [e2] at e';cases e';exact h5⟩
  refine ⟨ex.choose,?_,?_⟩
  ·unfold sig
   rw [List.getElem?_map,List.getElem?_range hj]
   simp only [Option.map_some]
   rw [dif_pos ex]
  ·obtain ⟨x',i',q1,q2,q3,q4,q5⟩:=ex.choose_spec
   rw [e1] at q2;cases q2
   exact q5 d e2
theorem BW {pins:List (Addr×Obj)}{σ:L2.St}{H3:Hp}{s3:Shared}(g:Good G n sc N df X) (I:Inv X pins σ H3 s3) (hs:jL sc scope) {cl:List (Str×Addr)}(g7:∀ x c,cl.lookup x=some c→X.env.cells.lookup x=some c)
  (jM:∀ x,(x,NameKind.free)∈scope.names→∃ c,cl.lookup x=some c) {fp:List Addr} (hfp:∀ b∈fp,gW X pins H3 b) (hfl:∀ b∈fp,b<s3.heap.objs.size) {h1:Heap} {tk:Nat} {mm:Str→Option Value}
  (hns:h1.Ns s3.heap.objs.size mm) (hk:∀ b o,s3.heap.get? b=some o→h1.get? b=some o) {r:List Addr} {fr:Fr} :
  Inv (oO X N' scope cl s3.heap.objs.size s3 H3 fp) [] (sig scope N N' m' X.K H3 r fr σ) H3 { s3 with heap:=h1,toks:=tk }:=by
 refine ⟨Hq g I hs g7 jM hfp hfl,rfl,I.bare,Un.kept hk,⟨mm,hns,fun j x v e1 e2 e3=>?_⟩,fun x c e=>?_,I.hok.fresh (Nat.le_refl _),fun x c e=>I.iI x c (g7 x c e),(fun p hp=>by simp [oO] at hp),I.hok.kept hk,(by unfold sig;simp [oO])⟩
 ·obtain ⟨x',i,q1,q2,q3,⟨jo,q4,q5⟩,_⟩:=KJ e2
  have WU:N'[j]?=some x:=e1
  rw [WU] at q1;cases q1
  obtain ⟨f1,f2⟩:=hs.free x q3
  obtain ⟨mO,YN,WV⟩:=I.loc
  obtain ⟨u,ru,lk⟩:=WV jo x v (by rw [g.nm];exact q4) q5 (by rw [g.sc];rcases f1 with z | z <;> simp [yU,z])
  refine ⟨u,ru,?_⟩
  have hkd:X.env.kindOf x=some .cell∨X.env.kindOf x=some .free:=by unfold Env.kindOf;rw [g.sc];exact f1
  rcases lk with ⟨z,_⟩ | ⟨_,c,hc,hcell⟩
  ·rcases hkd with w | w <;> (rw [z] at w;cases w)
  ·obtain ⟨c',hc'⟩:=jM x q3
   have:c'=c:=by
    have:=g7 x c' hc'
    rw [hc] at this;cases this;rfl
   subst this
   refine .inr ⟨?_,c',hc',?_⟩
   ·show (relabel scope X.env).names.lookup x=some .cell∨(relabel scope X.env).names.lookup x=some .free
    rw [ql (scope:=scope) g.sc]
    exact rC f2
   ·obtain ⟨o,ho,hd⟩:=hcell
    exact ⟨o,hk _ _ ho,hd⟩
 ·obtain ⟨v,o,ho,hd⟩:=I.cell x c (g7 x c e)
  exact ⟨v,o,hk _ _ ho,hd⟩
end
end Sm
set_option maxRecDepth 100000
namespace Sm
open PySem PySem.Spec PyProof.Rows L2
open Ev (D O Hh Fr R aU E Es Eo T S Ss Fl Src bV bQ TY BI ME)
section
variable {G:Tb}{n:Nat}{sc scope:Scope}{N N':List Str}{df:Bool}{m m':List Nat}{elt:E}{t:T}{it:Ev.It}{cond:Eo}{xe xi tg:Expr}{ifs:List Expr}{pos:Pos}{X:Cx}
noncomputable def xG (P:aU) (elt:E) (t:T) (cond:Eo) (fr:Fr):D→Hh→R (Option D):=fun d h2=>match Ev.cj t d fr with
 | none=>.bad
 | some ay=>(Ev.gZ P cond ay h2).bind fun k h3=>if k then (Ev.ev P elt ay h3).bind fun x h4=>.ok (some x) h4 else .ok none h3
theorem qm (P:aU) (elt:E) (t:T) (it:Ev.It) (cond:Eo) (fr:Fr) (h:Hh):Ev.ev P (.comp elt t it cond) fr h=(Ev.dc P it fr h).bind fun s h1=>if Ev.undef t fr then
  (Ev.cL (xG P elt t cond fr) s.2 s.1 h1).bind fun ds h2=>Ev.alloc ds h2 else .bad:=by
 simp only [Ev.ev]
 rfl
noncomputable def CI (Y:Cx) (m':List Nat) (f:D→Hh→R (Option D)) (fr:Fr) (src:Src) (fp:List Addr) (tn:Nat→Heap→Prop) (r2:List Addr) (H2:Hp) (Dd:Addr) (ds:List D) (h2:Hh) (k:Nat) (s:Shared):Prop:=
 ∃ i nD Hc rc hc dn vs rest,Inv Y [] nD Hc s∧tn i s.heap∧(∀ b∈fp,Hc b=none)∧k=src.1.length - i∧i≤src.1.length∧
  SR Y.K m' Hc rc fr nD∧HR Y.K Hc rc hc∧Fm Y.K r2 rc H2 Hc∧Hc Dd=some (.lst vs)∧Dd∉rc∧aI Y.K Hc rc dn vs∧Ev.cL f src.2 (src.1.drop i) hc=.ok rest h2∧dn++rest=ds
section
variable {Y:Cx}{sc':Scope}{J:L2.It}{fp:List Addr}{ita:Addr}{tn:Nat→Heap→Prop}{fr:Fr}{src:Src}{r2:List Addr}{H2:Hp}{Dd:Addr}{ds:List D}{h2:Hh}
theorem xH (gC:Good G n sc' N' false Y) {α:Type}{tt:Sem α}{Q:α→Shared→Prop}{s:Shared}(hw:wpAny (model Y.prog Y.w) Y.A tt Q Y.xe s):wpAny (model Y.prog Y.w) Y.A tt Q fJ s:=by rw [gC.xe] at hw;exact hw
theorem vP {i:Nat}{lF:L2.St}{H9:Hp}{r9:List Addr}{h9:Hh}{dn:List D}{vs:List V}{rest':List D}{s9:Shared}{p:List (Addr×Obj)}{f:D→Hh→R (Option D)}(hlt:i<src.1.length) (I9:Inv Y ([]++p) lF H9 s9) (bk:tn (i+1) s9.heap∧∀ b∈fp,H9 b=none) (q:SR Y.K m' H9 r9 fr lF) (rD:HR Y.K H9 r9 h9) (fm:Fm Y.K r2 r9 H2 H9) (xJ:H9 Dd=some (.lst vs)) (xK:Dd∉r9) (rv:aI Y.K H9 r9 dn vs) (e7:Ev.cL f src.2 (src.1.drop (i+1)) h9=.ok rest' h2) (ed:dn++rest'=ds) :
  ∃ k,k<src.1.length - i∧CI Y m' f fr src fp tn r2 H2 Dd ds h2 k s9:=
 ⟨src.1.length - (i+1),Nat.sub_lt_sub_left hlt (Nat.lt_succ_self i),i+1,lF,H9,r9,h9,dn,vs,rest',I9.kB,bk.1,bk.2,rfl,hlt,q,rD,fm,xJ,xK,rv,e7,ed⟩
theorem KN {i:Nat}{lF:L2.St}{H9:Hp}{r9:List Addr}{h9:Hh}{dn:List D}{vs:List V}{xd:D}{v10:V}{ED:Value}{rest':List D}{s9:Shared}{p:List (Addr×Obj)}{f:D→Hh→R (Option D)}(hlt:i<src.1.length) (lS:H2 Dd=none) (hsz:ds.length≤sizeLine) (gC:Good G n sc' N' false Y) (I9:Inv Y ([]++p) lF H9 s9) (BX:RelV v10 ED) (bk:∀ {σ':L2.St}{H':Hp}{s':Shared},Inv Y ([]++p) σ' H' s'→tn (i+1) s'.heap∧∀ b∈fp,H' b=none) (q:SR Y.K m' H9 r9 fr lF) (rD:HR Y.K H9 r9 h9) (fm:Fm Y.K r2 r9 H2 H9) (nE:H9 Dd=some (.lst vs)) (tO:Dd∉r9) (rv:aI Y.K H9 r9 dn vs) (BY:RV Y.K H9 r9 xd v10) (e7:Ev.cL f src.2 (src.1.drop (i+1)) h9=.ok rest' h2) (ed:dn++xd :: rest'=ds) :
  wpAny (model Y.prog Y.w) Y.A (call (.builtin "list.append") [.ref Dd,ED]) (fun _ EE=>∃ k,k<src.1.length - i∧CI Y m' f fr src fp tn r2 H2 Dd ds h2 k EE) fJ s9:=by
 have hlen:vs.length<sizeLine:=by
  have h1:=rv.length
  have h2:=congrArg List.length ed
  simp at h2
  omega
 refine bM (xH gC (qZ _ s9 lF H9 (.ref Dd) [v10] (.ref Dd) [ED] (fun _ RG=>RG=upd H9 Dd (.lst (vs++[v10]))) I9 rfl (.cons BX .nil) ⟨Dd,vs,v10,rfl,rfl,nE,hlen,rfl⟩)) fun _ EE ⟨_,RG,RH,_,UR⟩=>?_
 subst UR
 refine vP (dn:=dn++[xd]) (vs:=vs++[v10]) hlt RH (bk RH) ?_ (rD.other nE tO) (fm.other lS nE) gz tO ?_ e7 ?_
 ·exact ⟨q.len,fun j i' d' a1 a2=>by
   obtain ⟨w,b1,b2⟩:=q.sl j i' d' a1 a2
   exact ⟨w,b1,b2.grow (fun _ _ z=>z) (g6 nE)⟩⟩
 ·exact (rv.append (.cons BY .nil)).grow (fun _ _ z=>z) (g6 nE)
 ·rw [←ed];simp
theorem zF (gC:Good G n sc' N' false Y) (hg:JG G n sc' N' false m' t tg) (hc:JC G n sc' N' false m' cond ifs) (he:JE G n sc' N' false m' elt xe) (Tn:Turn Y.prog Y.w Y.K tg J fp ita tn) (kC:∀ {Hc:Hp},(∀ b∈fp,Hc b=none)→∀ b∈fp,gW Y [] Hc b)
  (hu:Ev.undef t fr=true) (hJ:qj Y.K r2 H2 src J) (lS:H2 Dd=none) (hsz:ds.length≤sizeLine) {R':Result→Shared→Prop}
  (US:∀ s6 nD Hc rc vs,Inv Y [] nD Hc s6→HR Y.K Hc rc h2→Fm Y.K r2 rc H2 Hc→Hc Dd=some (.lst vs)→Dd∉rc→aI Y.K Hc rc ds vs→R' (.ok .next) s6) {k:Nat} {s:Shared}
  (h:CI Y m' (xG (Ev.run G.F G.w n) elt t cond fr) fr src fp tn r2 H2 Dd ds h2 k s):codeAny (model Y.prog Y.w) Y.A (.compLoop (.ListComp xe [⟨tg,xi,ifs,0⟩] scope pos) 0 (.ref ita) (.ref Dd) Y.env) R' s:=by
 refine tN (CI Y m' (xG (Ev.run G.F G.w n) elt t cond fr) fr src fp tn r2 H2 Dd ds h2) ?_ k h
 rintro k s5 ⟨i,nD,Hc,rc,hc',dn,vs,rest,I5,vC,qU,rfl,hle,zC,rA,tP,nE,tO,zG,e5,EF⟩
 rcases Nat.lt_or_ge i src.1.length with hlt | hge
 ·rw [List.drop_eq_getElem_cons hlt] at e5
  simp only [Ev.cL] at e5
  split at e5
  ·rename_i hst
   obtain ⟨hgo,_⟩:=hJ i Hc rc hc' rA tP hst
   obtain ⟨g1,g2⟩:=hgo src.1[i] (List.getElem?_eq_getElem hlt)
   obtain ⟨o,h6,e6,e5⟩:=Ev.ai e5
   obtain ⟨rest',h7,e7,e5⟩:=Ev.ai e5
   cases e5
   refine bM (Tn.item Y rfl rfl rfl gC.calm i [] s5 nD Hc fJ I5 (kC qU) vC g1) fun rr s6 ⟨u,WX,h8⟩=>?_
   subst WX
   refine bM h8 fun _ s7 ⟨x,H7,I7,rx,y7,KO,WY⟩=>?_
   obtain ⟨r7,v7,RI,vQ⟩:=g2 x H7 y7
   obtain ⟨UT,UU⟩:=vQ.xC nE tO
   unfold xG at e6
   split at e6
   ·cases e6
   ·rename_i ay eb
    obtain ⟨kk,h9,e9,e6⟩:=Ev.ai e6
    have WZ:=I7.pinned (kC WY) (Tn.obj _ _ KO)
    refine bM (xH gC (hg _ gC _ s7 nD H7 x u (fun lF H8=>H8=H7∧SR Y.K m' H7 r7 ay lF) WZ rx ⟨r7,fr,hc',_,ay,zC.mono vQ,RI,v7,eb,fun s' q=>⟨rfl,q⟩⟩)) fun _ s8 ⟨lF,H8,I8,W0,EG⟩=>?_
    subst W0
    refine bM (xH gC (hc _ gC _ s8 lF _ (fun b H9=>b=kk∧∃ r9,HR Y.K H9 r9 h9∧Fm Y.K r7 r9 _ H9) I8 ⟨r7,ay,hc',kk,h9,EG,RI,e9,fun H9 r9 rD f9=>⟨rfl,r9,rD,f9⟩⟩)) fun bb s9 ⟨H9,I9,J5,r9,rD,rE⟩=>?_
    subst J5
    obtain ⟨xK,xJ⟩:=rE.xC UU UT
    have back:∀ {σ':L2.St} {H':Hp} {s':Shared},Inv Y ([]++lI fp s7.heap) σ' H' s'→tn (i+1) s'.heap∧∀ b∈fp,H' b=none:=fun {σ' H' s'} I'=>
     ⟨Tn.keep _ _ _ KO fun b hb o e=>(I'.pin (b,o) (List.mem_append_right _ (List.mem_append_right _ (jc hb e)))).1,fun b hb=>
      let ⟨o,e,_⟩:=Tn.obj _ _ KO b hb
      (I'.pin (b,o) (List.mem_append_right _ (List.mem_append_right _ (jc hb e)))).2.1⟩
    cases bb with
    | false=>
     simp only [Bool.false_eq_true,if_false] at e6 ⊢
     cases e6
     exact vP hlt I9 (back I9) ((EG.mono rE).unbind eb hu) rD ((tP.trans vQ).trans rE) xJ xK ((zG.mono vQ).mono rE) e7 EF
    | true=>
     simp only [if_true] at e6 ⊢
     obtain ⟨xd,YO,W3,e6⟩:=Ev.ai e6
     cases e6
     refine bM (xH gC (he _ gC _ s9 lF H9 (fun v zH=>∃ vR,RV Y.K zH vR xd v∧HR Y.K zH vR _∧Fm Y.K r9 vR H9 zH) I9 ⟨r9,ay,h9,xd,_,EG.mono rE,rD,W3,fun v zH vR v10 BZ EH=>⟨vR,v10,BZ,EH⟩⟩)) fun ED zI ⟨v10,zH,W4,BX,vR,BY,BZ,xN⟩=>?_
     obtain ⟨PV,PX⟩:=xN.xC xJ xK
     exact KN hlt lS hsz gC W4 BX back (((EG.mono rE).mono xN).unbind eb hu) BZ (((tP.trans vQ).trans rE).trans xN) PX PV (((zG.mono vQ).mono rE).mono xN) BY e7 EF
  ·cases e5
 ·have hi':i=src.1.length:=Nat.le_antisymm hle hge
  subst hi'
  rw [List.drop_length] at e5
  simp only [Ev.cL] at e5
  split at e5
  ·rename_i hst
   cases e5
   refine bM (Tn.done Y rfl rfl rfl gC.calm _ [] s5 nD Hc fJ I5 (kC qU) vC ((hJ _ Hc rc _ rA tP hst).2 (Nat.le_refl _))) fun rr s6 ⟨hrr,I6⟩=>?_
   subst hrr
   rw [List.append_nil] at EF
   subst EF
   exact US s6 nD Hc rc vs I6 rA tP nE tO zG
  ·cases e5
end
theorem rF (g:Good G n sc N df X) (hi:JI G n sc N df m it tg xi) (hg:JG G n (eV sc scope) N' false m' t tg) (hc:JC G n (eV sc scope) N' false m' cond ifs) (he:JE G n (eV sc scope) N' false m' elt xe)
  (hn:namesOk sc N m scope t N' m') (hs:jL sc scope) {cl:List (Str×Addr)} (g7:∀ x c,cl.lookup x=some c→X.env.cells.lookup x=some c) (jM:∀ x,(x,NameKind.free)∈scope.names→∃ c,cl.lookup x=some c)
  {pins:List (Addr×Obj)} {σ:L2.St} {H:Hp} {s:Shared} (I:Inv X pins σ H s) {r:List Addr} {fr:Fr} {h:Hh} {d:D} {h':Hh} (sr:SR X.K m H r fr σ) (hr:HR X.K H r h)
  (e:Ev.ev (Ev.run G.F G.w n) (.comp elt t it cond) fr h=.ok d h') (post:Value→Addr→Result→Shared→Prop)
  (hpost:∀ Dd C s' H' r',Inv X pins σ H' s'→(∃ mm,s'.heap.Ns C mm)→gW X pins H' C→RV X.K H' r' d (.ref Dd)→HR X.K H' r' h'→Fm X.K r r' H H'→post (.ref Dd) C (.ok .next) s') {E:Value→Shared→Prop} (hE:X.xe=fun _ _=>False) :
  wpAny (model X.prog X.w) X.A (eval xi X.env) (fun x s₁=>wpAny (model X.prog X.w) X.A (pyIter x) (fun itv s₂=>wpAny (model X.prog X.w) X.A (newList []) (fun acc s₃=>
   wpAny (model X.prog X.w) X.A (newFunctionEnv scope X.env.globals cl [] X.env.qual none .none (some X.env)) (fun cenv s₄=>
    codeAny (model X.prog X.w) X.A (.compStart (.ListComp xe [⟨tg,xi,ifs,0⟩] scope pos) 0 itv acc { cenv with scope:=relabel scope X.env }) (post acc cenv.locals) s₄) E s₃) E s₂) E s₁) E s:=by
 rw [qm] at e
 obtain ⟨src,h1,e1,e⟩:=Ev.ai e
 split at e
 ·rename_i hu
  obtain ⟨ds,h2,e2,e⟩:=Ev.ai e
  have qS:∀ {α:Type} {tt:Sem α} {Q:α→Shared→Prop} {s:Shared},wpAny (model X.prog X.w) X.A tt Q X.xe s→wpAny (model X.prog X.w) X.A tt Q E s:=fun {α tt Q s} hw=>wpAny_mono hw (fun _ _ q=>q) fun _ _ q=>by rw [hE] at q;exact q.elim
  refine bM (qS (hi X g pins s σ H (fun J H2=>∃ r2,HR X.K H2 r2 h1∧Fm X.K r r2 H H2∧qj X.K r2 H2 src J) I ⟨r,fr,h,src,h1,sr,hr,e1,fun J H2 r2 hr2 f2 hJ=>⟨r2,hr2,f2,hJ⟩⟩)) fun v s1 q1=>?_
  refine bM (qS q1) fun itv s2 q2=>?_
  obtain ⟨ita,fp,tn,J,H2,rfl,I2,Tn,st2,f2,r2,hr2,EI,hJ⟩:=q2
  refine wpAny_newObj_type ?_
  generalize EJ:s2.heap.objs.size=Dd
  have lS:H2 Dd=none:=by rw [←EJ];exact I2.fresh
  have I3:Inv X pins σ (upd H2 Dd (.lst [])) { s2 with heap:=s2.heap.push { cls:=.type "list",data:=.seq ([]:List Value).toArray }}:=by
   have:=I2.BG (ys:=[]) (its:=[]) (t':=s2.toks) .nil (Nat.zero_le _)
   rw [EJ] at this
   exact this
  have KP:∀ b∈fp,b<s2.heap.objs.size:=fun b hb=>by
   obtain ⟨o,e,_⟩:=Tn.obj 0 _ st2 b hb
   exact Heap.lt_size e
  generalize KQ:({ s2 with heap:=s2.heap.push { cls:=.type "list",data:=.seq ([]:List Value).toArray }}:Shared)=s3 at I3
  have UW:s3.heap.objs.size=s2.heap.objs.size+1:=by rw [←KQ];exact Heap.size_push ..
  have k3:∀ b o,s2.heap.get? b=some o→s3.heap.get? b=some o:=fun b o e=>by rw [←KQ];exact Heap.get?_push_of_some _ e
  have KR:∀ b∈fp,b<s3.heap.objs.size:=fun b hb=>Nat.lt_of_lt_of_le (KP b hb) (by rw [UW];exact Nat.le_succ _)
  have qo:∀ b∈fp,gW X pins (upd H2 Dd (.lst [])) b:=fun b hb=>⟨by rw [bE (fun z=>absurd (KP b hb) (by rw [z,EJ];exact Nat.lt_irrefl _))];exact (f2 b hb).1,(f2 b hb).2⟩
  refine wpAny_newFunctionEnv (hs.zE) (fun y hy=>by simp at hy) (fun KS UX UY=>?_) hs.kind
  have k4:∀ b o,s3.heap.get? b=some o→KS.get? b=some o:=fun b o e=>UY.extBut b o (Nat.ne_of_lt (Heap.lt_size e)) (Heap.get?_push_of_some _ e)
  have gC:Good G n (eV sc scope) N' false (oO X N' scope cl s3.heap.objs.size s3 (upd H2 Dd (.lst [])) fp):=g.comp
  have I4:Inv (oO X N' scope cl s3.heap.objs.size s3 (upd H2 Dd (.lst [])) fp) [] (sig scope N N' m' X.K (upd H2 Dd (.lst [])) r2 fr σ) (upd H2 Dd (.lst [])) { s3 with heap:=KS,toks:=s3.toks+0 }:=
   BW g I3 hs g7 jM qo KR UX k4
  have vN:SR X.K m' (upd H2 Dd (.lst [])) r2 fr (sig scope N N' m' X.K (upd H2 Dd (.lst [])) r2 fr σ):=KL (((sr.mono EI).mono (Fm.tup lS))) hn hu
  have oN:HR X.K (upd H2 Dd (.lst [])) r2 h1:=hr2.tup lS
  have RJ:Dd∉r2:=fun hm=>by
   obtain ⟨k,hk⟩:=List.getElem?_of_mem hm
   have hlt:k<h1.length:=by rw [←hr2.len];exact (List.getElem?_eq_some_iff.mp hk).1
   obtain ⟨a,e3,e4⟩:=hr2.ob k _ (List.getElem?_eq_getElem hlt)
   rw [hk] at e3;cases e3
   cases eo:h1[k] with
   | lst dd=>rw [eo] at e4;obtain ⟨us,e5,_⟩:=e4;rw [lS] at e5;cases e5
   | bS dd=>
    rw [eo] at e4
    obtain ⟨us,e5,_⟩:=e4
    rcases e5 with ⟨ob,e5⟩ | ⟨ob,_,_,e5,_⟩
    ·rw [lS] at e5;cases e5
    ·have:=Heap.lt_size (I2.sS _ _ e5)
     rw [EJ] at this
     exact absurd this (Nat.lt_irrefl _)
  have W5:H Dd=none:=by
   cases z:H Dd with
   | none=>rfl
   | some o=>
    have hnr:Dd∉r:=fun hm=>by
     obtain ⟨k,hk⟩:=List.getElem?_of_mem hm
     exact RJ (List.mem_of_getElem? (EI.pre _ _ hk))
    have:=EI.keep _ _ z hnr
    rw [lS] at this;cases this
  have kC:∀ {Hc:Hp},(∀ b∈fp,Hc b=none)→∀ b∈fp,gW (oO X N' scope cl s3.heap.objs.size s3 (upd H2 Dd (.lst [])) fp) [] Hc b:=fun {Hc} hz b hb=>by
   refine ⟨hz b hb,Nat.ne_of_lt (KR b hb),(I4.ok).qe b hb,.inl hb,fun x c e=>((I4.ok).En b hb).2 x c e,fun p hp=>?_⟩
   simp [oO] at hp
  have hsz:ds.length≤sizeLine:=by
   unfold Ev.alloc at e
   split at e
   ·rename_i z;rw [←iQ];exact z
   ·cases e
  have fin:codeAny (model X.prog X.w) X.A (.compLoop (.ListComp xe [⟨tg,xi,ifs,0⟩] scope pos) 0 (.ref ita) (.ref Dd) (compEnvC scope cl s3.heap.objs.size X.env)) (post (.ref Dd) s3.heap.objs.size) { s3 with heap:=KS,toks:=s3.toks+0 }:=by
   refine zF gC hg hc he Tn kC hu hJ lS hsz (fun s6 nD Hc rc vs I6 rA tP nE tO zG=>?_) ⟨0,_,_,r2,h1,[],[],ds,I4,Tn.keep _ _ _ st2 fun b hb o eo=>k4 b o (k3 b o eo),fun b hb=>(qo b hb).1,rfl,Nat.zero_le _,vN,oN,Fm.tup lS,gz,RJ,.nil,by rw [List.drop_zero];exact e2,rfl⟩
   unfold Ev.alloc at e
   split at e
   ·cases e
    obtain ⟨W6,UZ,_⟩:=I6.loc
    refine hpost Dd _ s6 Hc (rc++[Dd]) ?_ ⟨W6,UZ⟩ ?_ ⟨Dd,rfl,?_⟩ (rA.known nE tO zG) ((EI.trans tP).known ?_)
    ·exact I3.Pb (ch:=fp) (I6.os) I6.base I6.hok I6.bare fun b hb=>⟨(qo b hb).2.2.2.1,(qo b hb).2.1,(qo b hb).2.2.2.2.1,(qo b hb).2.2.2.2.2⟩
    ·exact I3.Bu (Nat.le_refl _) I6.free
    ·rw [←rA.len];simp
    ·exact W5
   ·cases e
  subst KQ
  exact codeAny_compStart_list fin (Tn.self _ 0 _ _ _ (Tn.keep _ _ _ st2 fun b hb o eo=>k4 b o (k3 b o eo)) fin)
 ·cases e
end
end Sm
set_option maxRecDepth 100000
namespace Sm
open PySem PySem.Spec PyProof.Rows L2
open Ev (D O Hh Fr R aU E Es Eo T S Ss Fl Src bV bQ TY BI ME)
section
variable {G:Tb}{n:Nat}{sc scope:Scope}{N N':List Str}{df:Bool}{m m':List Nat}{elt:E}{t:T}{it:Ev.It}{cond:Eo}{xe xi tg:Expr}{ifs:List Expr}{pos:Pos}
theorem Good.cells {X:Cx}{pins:List (Addr×Obj)}{σ:L2.St}{H:Hp}{s:Shared}(g:Good G n sc N df X) (I:Inv X pins σ H s) (hs:jL sc scope) :
  ∃ cl,closureFor scope X.env=pure cl∧(∀ x c,cl.lookup x=some c→X.env.cells.lookup x=some c)∧∀ x,(x,NameKind.free)∈scope.names→∃ c,cl.lookup x=some c:=
 Ho fun x hx=>I.ok.has x (by unfold Env.kindOf;rw [g.sc];exact (hs.free x hx).1)
theorem zJ {X:Cx}{pins:List (Addr×Obj)}{σ:L2.St}{H:Hp}{s:Shared}(I:Inv X pins σ H s) {C:Addr}(fp:gW X pins H C) {h':Heap}(hs:Heap.SameBut C s.heap h'):Inv X pins σ H { s with heap:=h' }:=
 I.turned (t':=s.toks) (fun b o hb e=>hs.extBut b o hb e) fp.1 fp.2.1 fp.2.2.2.1 fp.2.2.2.2.1 fp.2.2.2.2.2
theorem vS (hi:JI G n sc N df m it tg xi) (hg:JG G n (eV sc scope) N' false m' t tg) (hc:JC G n (eV sc scope) N' false m' cond ifs) (he:JE G n (eV sc scope) N' false m' elt xe)
  (hn:namesOk sc N m scope t N' m') (hs:jL sc scope) (hf:∀ (env:Env) x,foldedSetIterable xi env x=pure x:=by intro _ _;rfl):JE G n sc N df m (.comp elt t it cond) (.ListComp xe [⟨tg,xi,ifs,0⟩] scope pos):=fun X g pins s σ H Q I q=>by
 obtain ⟨r,fr,h,d,h',sr,hr,e,q⟩:=q
 obtain ⟨cl,hcl,g7,jM⟩:=g.cells I hs
 rw [eval_ListComp]
 refine wpAny_comprehension_free (use:=none) (Q:=EP X pins σ Q) rfl (hf _) hcl hs.kind hs.loc ?_
 refine rF g hi hg hc he hn hs g7 jM I sr hr e (fun acc C=>compPost (model X.prog X.w) X.A X.xe none (EP X pins σ Q) acc C) (fun Dd C s' H' r' I' hC fp rv hr' EK=>?_) g.xe
 obtain ⟨mm,hC⟩:=hC
 exact ⟨mm,hC,fun h'' zK=>⟨.ref Dd,H',zJ I' fp zK,rfl,q _ H' r' rv hr' EK⟩⟩
theorem Hr (j i:Nat) {x:Str}{pos' cpos:Pos}(hm:m.Nodup) (hN:N.Nodup) (hi:JI G n sc N df m it tg xi) (hg:JG G n (eV sc scope) N' false m' t tg) (hc:JC G n (eV sc scope) N' false m' cond ifs) (he:JE G n (eV sc scope) N' false m' elt xe)
  (hn:namesOk sc N m scope t N' m') (hs:jL sc scope) (hj:m[j]?=some i:=by rfl) (rj:N[j]?=some x:=by rfl)
  (hl:sc.names.lookup x=some .local∨(df=true∧sc.names.lookup x=some .cell):=by first | exact Or.inl rfl | exact Or.inr ⟨rfl,rfl⟩) (hf:∀ (env:Env) x,foldedSetIterable xi env x=pure x:=by intro _ _;rfl) :
  JS G n sc N df m (.set i (.comp elt t it cond)) (.Assign [.Name x pos'] (.ListComp xe [⟨tg,xi,ifs,0⟩] scope cpos) pos):=fun X g=>by
 obtain ⟨h1,h2⟩:=g.loc hl
 have hsw:swapsWith (.ListComp xe [⟨tg,xi,ifs,0⟩] scope cpos) (some (.Name x pos')) pos.line X.env=pure (X.env.blockKind==.function&&X.env.kindOf x==some .local&&pos'.line==(Expr.ListComp xe [⟨tg,xi,ifs,0⟩] scope cpos).pos.line&&!(scope.names.any fun (n,k)=>n==x&&(k==.local || k==.cell))):=rfl
 generalize hb:(X.env.blockKind==.function&&X.env.kindOf x==some .local&&pos'.line==(Expr.ListComp xe [⟨tg,xi,ifs,0⟩] scope cpos).pos.line&&!(scope.names.any fun (n,k)=>n==x&&(k==.local || k==.cell)))=b at hsw
 cases b with
 | false=>
  refine PS.of (yX (i:=j) (by rw [g.nm];exact hN) (by rw [g.nm];exact rj) h1 (vS hi hg hc he hn hs hf X g) hsw h2) fun Q s H q=>?_
  obtain ⟨r,fr,h,fl,ak,h',sr,hr,e,q⟩:=q
  simp only [Ev.ex] at e
  obtain ⟨d,h1,e1,e⟩:=Ev.ai e
  cases e
  exact ⟨r,fr,h,d,_,sr,hr,e1,fun v H1 r1 v1 hr1 f1=>q _ H1 r1 ((sr.mono f1).set hm hj v1) hr1 f1⟩
 | true=>
  have YQ:X.env.kindOf x=some .local:=by
   simp only [Bool.and_eq_true,beq_iff_eq] at hb
   exact hb.1.1.2
  intro pins s σ H Q I q
  obtain ⟨r,fr,h,fl,ak,h',sr,hr,e,q⟩:=q
  simp only [Ev.ex] at e
  obtain ⟨d,h3,e1,e⟩:=Ev.ai e
  cases e
  obtain ⟨cl,hcl,g7,jM⟩:=g.cells I hs
  rw [exec_Assign_Name_used _ _ _ _ hsw]
  refine wpAny_bind (wpAny_standAt (wpAny_bind ?_))
  show wpAny _ X.A (do let _ ←comprehension (.ListComp xe [⟨tg,xi,ifs,0⟩] scope cpos) scope X.env _ (newList []) false (eval xi X.env) (some (assign (.Name x pos') X.env))) _ _ s
  refine wpAny_bind (wpAny_mono (wpAny_comprehension_free (use:=some (assign (.Name x pos') X.env)) (Q:=fun _ s'=>SP X pins Q .next s') rfl (hf _) hcl hs.kind hs.loc ?_) (fun _ s' hq=>wpAny_pure (wpAny_pure hq)) fun _ _ e=>e)
  refine rF g hi hg hc he hn hs g7 jM I sr hr e1 (fun acc C=>compPost (model X.prog X.w) X.A X.xe (some (assign (.Name x pos') X.env)) (fun _ s'=>SP X pins Q .next s') acc C) (fun Dd C s' H' r' I' hC fp rv hr' EK=>?_) g.xe
  obtain ⟨mm,hC⟩:=hC
  show wpAny _ X.A (assign (.Name x pos') X.env (.ref Dd)) _ _ s'
  refine wpAny_assign_Name (qR (v:=.ref Dd) I' (by rw [g.nm];exact hN) (i:=j) (by rw [g.nm];exact rj) h1 rfl (fun s'' W7 zK=>?_) h2)
  obtain ⟨a,zK,ha⟩:=zK
  have W8:C≠a:=by
   rcases ha with z | z
   ·rw [z];exact fp.2.1
   ·exact fun w=>fp.2.2.2.2.1 x a z w.symm
  refine ⟨mm,hC.sameBut zK W8,fun h'' U0=>?_⟩
  exact ⟨_,H',zJ W7 ⟨fp.1,fp.2⟩ U0,q _ H' r' ((sr.mono EK).set hm hj rv) hr' EK⟩
end
end Sm
set_option maxRecDepth 100000
namespace Sm
open PySem PySem.Spec PyProof.Rows L2 PySem.SeqAt
open Ev (D O Hh Fr R aU E Es Eo T S Ss Fl Src bV bQ TY BI ME)
structure tQ (A:Around) (s:Shared) (u w:Value) (k:Bool):Prop where
 eq:EqAt A s u w k
 rc:RcAt A s u w k
 ne:RcNeAt A s u w (!k)
theorem qp {f:D→D→Option Bool}:∀ {x y:List D},x.length≠y.length→∀ {k},Ev.cD f x y=some k→k=false
 | [],[],h,_,_=>absurd rfl h
 | [],_ :: _,_,_,e=>by cases e;rfl
 | _ :: _,[],_,_,e=>by cases e;rfl
 | a :: x,b :: y,h,k,e=>by
  simp only [Ev.cD,Option.bind_eq_bind,Option.bind_eq_some_iff] at e
  obtain ⟨p,_,q,e2,e3⟩:=e
  have:=qp (x:=x) (y:=y) (by simpa using h) e2
  subst this
  cases e3
  simp
theorem vU {f:D→D→Option Bool}:∀ {x y:List D}{k},Ev.cD f x y=some k→x.length=y.length→∃ e:Nat→Bool,(∀ (j:Nat) a b,x[j]?=some a→y[j]?=some b→f a b=some (e j))∧(List.range x.length).all e=k
 | [],[],_,h,_=>⟨fun _=>true,(fun j a b h1=>by simp at h1),by cases h;simp⟩
 | [],_ :: _,_,_,h=>by simp at h
 | _ :: _,[],_,_,h=>by simp at h
 | a :: x,b :: y,k,h,hl=>by
  simp only [Ev.cD,Option.bind_eq_bind,Option.bind_eq_some_iff] at h
  obtain ⟨p,e1,q,e2,e3⟩:=h
  cases e3
  obtain ⟨e,h1,h2⟩:=vU e2 (by simpa using hl)
  refine ⟨fun j=>match j with | 0=>p | j+1=>e j,fun j a' b' g1 g2=>?_,?_⟩
  ·cases j with
   | zero=>simp at g1 g2;subst g1 g2;exact e1
   | succ j=>exact h1 j a' b' (by simpa using g1) (by simpa using g2)
  ·rw [List.length_cons,List.range_succ_eq_map,List.all_cons,List.all_map,←h2]
   rfl
theorem vV {f:D→D→Option Bool}:∀ {x y:List D}{k},Ev.cD f x y=some k→∃ e:Nat→Bool,∀ (j:Nat) a b,x[j]?=some a→y[j]?=some b→f a b=some (e j)
 | [],_,_,_=>⟨fun _=>true,fun j a b h1=>by simp at h1⟩
 | _ :: _,[],_,_=>⟨fun _=>true,fun j a b _ h1=>by simp at h1⟩
 | a :: x,b :: y,k,h=>by
  simp only [Ev.cD,Option.bind_eq_bind,Option.bind_eq_some_iff] at h
  obtain ⟨p,e1,q,e2,e3⟩:=h
  obtain ⟨e,h1⟩:=vV e2
  refine ⟨fun j=>match j with | 0=>p | j+1=>e j,fun j a' b' g1 g2=>?_⟩
  cases j with
  | zero=>simp at g1 g2;subst g1 g2;exact e1
  | succ j=>exact h1 j a' b' (by simpa using g1) (by simpa using g2)
section
variable {X:Cx}{pins:List (Addr×Obj)}{σ:L2.St}{H:Hp}{s:Shared}{r:List Addr}{h:Hh}
theorem mV (I:Inv X pins σ H s) {a b:Addr}{vs ws:List V}(h1:xB X.K H a vs) (h2:H b=some (.lst ws)):a≠b:=by
 rintro rfl
 rcases h1 with ⟨o,h1⟩ | ⟨o,_,_,h1,_⟩
 ·rw [h2] at h1;cases h1
 ·have:=(I.bs a o (I.ok.mod.Em a o h1)).2
  rw [h2] at this;cases this
theorem rG {x y:List D}{vs ws:List V}{us zs:List Value}{f:D→D→Option Bool}{A:Around}{k:Bool}(v1:aI X.K H r x vs)(v2:aI X.K H r y ws)(p1:Vals vs us)(p2:Vals ws zs)
  (ih:∀ a b va vb u w k,RV X.K H r a va→RV X.K H r b vb→RelV va u→RelV vb w→f a b=some k→tQ A s u w k) (hl:x.length=y.length) (e:Ev.cD f x y=some k) :
  ∃ e':Nat→Bool,(∀ j (h1:j<us.toArray.size) (h2:j<zs.toArray.size),EqAt A s us.toArray[j] zs.toArray[j] (e' j))∧(List.range us.toArray.size).all e'=k∧us.length=zs.length:=by
 obtain ⟨e',h1,h2⟩:=vU e hl
 have l1:=v1.length
 have l2:=v2.length
 have l3:=p1.length
 have l4:=p2.length
 refine ⟨e',fun j g1 g2=>?_,?_,by omega⟩
 ·have W9:j<us.length:=by simpa using g1
  have Xa:j<zs.length:=by simpa using g2
  have ha:x[j]?=some x[j]:=List.getElem?_eq_getElem (by omega)
  have hb:y[j]?=some y[j]:=List.getElem?_eq_getElem (by omega)
  obtain ⟨va,a1,a2⟩:=v1.get ha
  obtain ⟨vb,b1,b2⟩:=v2.get hb
  obtain ⟨u,a3,a4⟩:=p1.get a1
  obtain ⟨w,b3,b4⟩:=p2.get b1
  have eu:us.toArray[j]=u:=by
   have:=(List.getElem?_eq_some_iff.mp a3).2
   simpa using this
  have ew:zs.toArray[j]=w:=by
   have:=(List.getElem?_eq_some_iff.mp b3).2
   simpa using this
  rw [eu,ew]
  exact (ih _ _ _ _ _ _ _ a2 b2 a4 b4 (h1 j _ _ ha hb)).eq
 ·rw [←h2]
  have:us.toArray.size=x.length:=by simp;omega
  rw [this]
noncomputable def gp (K:PySem.W.Frag) (H:Hp) (r:List Addr):D→V→Prop
 | .bH,v=>v=.bH
 | .bl b,v=>v=.bl b
 | .int i,v=>v=.int i
 | .str l,v=>v=.str (bh l)
 | .ref n,v=>∃ a,v=.ref a∧r[n]?=some a
 | .tup ds,v=>∃ a vs,v=.ref a∧dG K H a vs∧aI K H r ds vs
theorem RV.shape {d:D}{v:V}(h:RV X.K H r d v):gp X.K H r d v:=by
 cases d <;> simp only [RV] at h <;> simp only [gp] <;> first | exact h | exact h.1
theorem Hs {a b:List Nat}:(bh a==bh b)=(a==b):=by
 by_cases e:a=b
 ·subst e;simp
 ·have e1:(bh a==bh b)=false:=beq_eq_false_iff_ne.mpr fun z=>e (vL z)
  have e2:(a==b)=false:=beq_eq_false_iff_ne.mpr e
  rw [e1,e2]
theorem nR {n:Nat}{A:Around}{x y:List D}{a b:Addr}{vs ws:List V}{k:Bool}(I:Inv X pins σ H s)(hu:A.units<cLine)(q1:fh X.K H a vs)(q2:fh X.K H b ws)(v1:aI X.K H r x vs)(v2:aI X.K H r y ws)(hab:a≠b)
  (ih:∀ a b va vb u w k,RV X.K H r a va→RV X.K H r b vb→RelV va u→RelV vb w→Ev.iu h n a b=some k→tQ A.in1 s u w k) (e:Ev.cD (Ev.iu h n) x y=some k):tQ A s (.ref a) (.ref b) k:=by
 obtain ⟨us,p1,nF,_⟩:=I.list q1
 obtain ⟨zs,p2,nG,_⟩:=I.list q2
 by_cases hl:x.length=y.length
 ·obtain ⟨e',h1,h2,h3⟩:=rG v1 v2 p1 p2 ih hl e
  have hs:us.toArray.size=zs.toArray.size:=by simpa using h3
  have rc:=RcAt.lists nF.isList nG.isList hs hu h1
  have ne:=RcNeAt.lists nF.isList nG.isList hs hu h1
  rw [h2] at rc ne
  exact ⟨.of_refs hab rc,rc,ne⟩
 ·have hk:=qp hl e
  subst hk
  have hs:(us.toArray.size != zs.toArray.size)=true:=by
   have l1:=v1.length
   have l2:=v2.length
   have l3:=p1.length
   have l4:=p2.length
   simp only [List.size_toArray,bne_iff_ne,ne_eq]
   omega
  exact ⟨.of_refs hab (.lists_lengths nF.isList nG.isList hs hu),.lists_lengths nF.isList nG.isList hs hu,.lists_lengths nF.isList nG.isList hs hu⟩
theorem zL (I:Inv X pins σ H s) (hr:HR X.K H r h) {n:Nat}{a:Addr}{ds:List D}(e:Ev.bu h n=some ds) (ha:r[n]?=some a):∃ us:List Value,PlainL s.heap a us.toArray:=by
 obtain ⟨a',vs,e1,e2,e3⟩:=hr.read e
 rw [ha] at e1;cases e1
 obtain ⟨us,_,pl,_⟩:=I.list e2
 exact ⟨us,pl⟩
theorem zM (I:Inv X pins σ H s) (hr:HR X.K H r h):∀ (n:Nat) (a b:D) (v:V) (k:Bool),RV X.K H r a v→RV X.K H r b v→Ev.iu h n a b=some k→k=true:=by
 intro n
 induction n with
 | zero=>intro a b v k _ _ e;cases e
 | succ n ih=>
  have items:∀ (x y:List D) (vs:List V) (k:Bool),aI X.K H r x vs→aI X.K H r y vs→Ev.cD (Ev.iu h n) x y=some k→k=true:=by
   intro x
   induction x with
   | nil=>
    intro y vs k h1 h2 e
    simp only [aI] at h1
    subst h1
    cases y with
    | nil=>cases e;rfl
    | cons _ _=>simp only [aI] at h2;obtain ⟨_,_,h2,_⟩:=h2;cases h2
   | cons d x Xb=>
    intro y vs k h1 h2 e
    simp only [aI] at h1
    obtain ⟨v,w,rfl,h3,h4⟩:=h1
    cases y with
    | nil=>simp only [aI] at h2;cases h2
    | cons d' y=>
     simp only [aI] at h2
     obtain ⟨v',w',e2,h5,h6⟩:=h2
     cases e2
     simp only [Ev.cD,Option.bind_eq_bind,Option.bind_eq_some_iff] at e
     obtain ⟨p,e1,q,e2,e3⟩:=e
     cases e3
     rw [ih d d' v p h3 h5 e1,Xb y w q h4 h6 e2]
     rfl
  have lt:∀ (a:Addr) (vs:List V) (i:Nat) (ds:List D),dG X.K H a vs→r[i]?=some a→Ev.bu h i=some ds→False:=fun a vs i ds h1 h2 h3=>by
   obtain ⟨us,pl⟩:=zL I hr h3 h2
   obtain ⟨zs,_,pt,_⟩:=I.tuple h1
   exact ne_of_list_tuple pl.isList pt rfl
  intro a b v k h1 h2 e
  have s1:=h1.shape
  have s2:=h2.shape
  clear h1 h2
  cases a with
  | bH=>cases e
  | bl _=>cases e
  | int x=>simp only [gp] at s1;cases b with
   | int y=>simp only [gp] at s2;rw [s1] at s2;cases s2;cases e;simp
   | ref m=>obtain ⟨p,z,_⟩:=s2;rw [s1] at z;cases z
   | tup y=>obtain ⟨p,_,z,_⟩:=s2;rw [s1] at z;cases z
   | _=>simp only [gp] at s2;rw [s1] at s2;cases s2
  | str x=>simp only [gp] at s1;cases b with
   | str y=>
    simp only [gp] at s2
    rw [s1] at s2
    have:x=y:=vL (by injection s2)
    subst this
    cases e;simp
   | ref m=>obtain ⟨p,z,_⟩:=s2;rw [s1] at z;cases z
   | tup y=>obtain ⟨p,_,z,_⟩:=s2;rw [s1] at z;cases z
   | _=>simp only [gp] at s2;rw [s1] at s2;cases s2
  | tup x=>
   obtain ⟨p,vs,rfl,z,w⟩:=s1
   cases b with
   | tup y=>
    obtain ⟨p',vs',z',z2,w2⟩:=s2
    cases z'
    rw [I.lH z2 z] at w2
    exact items x y vs k w w2 e
   | ref m=>
    obtain ⟨p',z',z2⟩:=s2
    cases z'
    obtain ⟨ds,e1,_⟩:=Option.map_eq_some_iff.mp e
    exact (lt _ _ _ _ z z2 e1).elim
   | _=>cases s2
  | ref i=>
   obtain ⟨p,rfl,z⟩:=s1
   cases b with
   | ref m=>
    obtain ⟨p',z',z2⟩:=s2
    cases z'
    replace e:Ev.jw h (Ev.iu h n) i m=some k:=e
    unfold Ev.jw at e
    split at e
    ·simp only [Option.map_eq_some_iff] at e
     obtain ⟨_,_,e⟩:=e
     exact e.symm
    ·rename_i hne
     split at e
     ·rename_i x y g1 g2
      exact absurd (hr.inj _ _ _ _ _ z z2 g1 g2) hne
     ·rename_i x y g1 g2
      obtain ⟨p1,q1,EL,q2,_⟩:=hr.ob _ _ g1
      obtain ⟨p2,q3,EM,q4,_⟩:=hr.ob _ _ g2
      rw [z] at q1;cases q1
      rw [z2] at q3;cases q3
      exact absurd rfl (mV I q2 q4)
     ·rename_i x y g1 g2
      obtain ⟨p1,q1,EL,q2,_⟩:=hr.ob _ _ g1
      obtain ⟨p2,q3,EM,q4,_⟩:=hr.ob _ _ g2
      rw [z] at q1;cases q1
      rw [z2] at q3;cases q3
      exact absurd rfl (mV I q4 q2)
     ·cases e
   | tup y=>
    obtain ⟨p',vs',z',z2,w2⟩:=s2
    cases z'
    obtain ⟨ds,e1,_⟩:=Option.map_eq_some_iff.mp e
    exact (lt _ _ _ _ z2 z e1).elim
   | _=>cases s2
theorem Ht {n:Nat}{A:Around}{x y:List D}{a b:Addr}{vs ws:List V}{k:Bool}(I:Inv X pins σ H s)(hr:HR X.K H r h)(hu:A.units<cLine)(q1:dG X.K H a vs)(q2:dG X.K H b ws)(v1:aI X.K H r x vs)(v2:aI X.K H r y ws)
  (ih:∀ a b va vb u w k,RV X.K H r a va→RV X.K H r b vb→RelV va u→RelV vb w→Ev.iu h n a b=some k→tQ A.in1 s u w k) (e:Ev.cD (Ev.iu h n) x y=some k):tQ A s (.ref a) (.ref b) k:=by
 obtain ⟨us,p1,nF,_⟩:=I.tuple q1
 obtain ⟨zs,p2,nG,_⟩:=I.tuple q2
 have l1:=v1.length
 have l2:=v2.length
 have l3:=p1.length
 have l4:=p2.length
 have both:RcAt A s (.ref a) (.ref b) k∧RcNeAt A s (.ref a) (.ref b) (!k):=by
  by_cases hl:x.length=y.length
  ·obtain ⟨e',h1,h2,h3⟩:=rG v1 v2 p1 p2 ih hl e
   have rc:=RcAt.tuples nF nG hu h1
   have ne:=RcNeAt.tuples nF nG hu h1
   have hs:us.toArray.size=zs.toArray.size:=by simpa using h3
   have hb:((List.range (min us.toArray.size zs.toArray.size)).all e'&&us.toArray.size==zs.toArray.size)=k:=by
    rw [←hs,Nat.min_self,h2];simp
   rw [hb] at rc ne
   exact ⟨rc,ne⟩
  ·have hk:=qp hl e
   subst hk
   have hcl:∃ e':Nat→Bool,∀ j (h1:j<us.toArray.size) (h2:j<zs.toArray.size),EqAt A.in1 s us.toArray[j] zs.toArray[j] (e' j):=by
    obtain ⟨e',h1⟩:=vV e
    refine ⟨e',fun j g1 g2=>?_⟩
    have W9:j<us.length:=by simpa using g1
    have Xa:j<zs.length:=by simpa using g2
    have ha:x[j]?=some x[j]:=List.getElem?_eq_getElem (by omega)
    have hb:y[j]?=some y[j]:=List.getElem?_eq_getElem (by omega)
    obtain ⟨va,a1,a2⟩:=v1.get ha
    obtain ⟨vb,b1,b2⟩:=v2.get hb
    obtain ⟨u,a3,a4⟩:=p1.get a1
    obtain ⟨w,b3,b4⟩:=p2.get b1
    have eu:us.toArray[j]=u:=by
     have:=(List.getElem?_eq_some_iff.mp a3).2
     simpa using this
    have ew:zs.toArray[j]=w:=by
     have:=(List.getElem?_eq_some_iff.mp b3).2
     simpa using this
    rw [eu,ew]
    exact (ih _ _ _ _ _ _ _ a2 b2 a4 b4 (h1 j _ _ ha hb)).eq
   obtain ⟨e',h1⟩:=hcl
   have rc:=RcAt.tuples nF nG hu h1
   have ne:=RcNeAt.tuples nF nG hu h1
   have hs:(us.toArray.size==zs.toArray.size)=false:=by
    simp only [List.size_toArray,beq_eq_false_iff_ne,ne_eq];omega
   rw [hs,Bool.and_false] at rc ne
   exact ⟨rc,ne⟩
 by_cases hab:a=b
 ·subst hab
  rw [I.lH q2 q1] at v2
  have hk:k=true:=zM I hr (n+1) (.tup x) (.tup y) (.ref a) k ⟨a,vs,rfl,q1,v1⟩ ⟨a,vs,rfl,q1,v2⟩ e
  subst hk
  exact ⟨.same _,both.1,both.2⟩
 ·exact ⟨.of_refs hab both.1,both.1,both.2⟩
end
end Sm
set_option maxRecDepth 100000
namespace Sm
open PySem PySem.Spec PyProof.Rows L2 PySem.SeqAt
open Ev (D O Hh Fr R aU E Es Eo T S Ss Fl Src bV bQ TY BI ME)
section
variable {X:Cx}{pins:List (Addr×Obj)}{σ:L2.St}{H:Hp}{s:Shared}{r:List Addr}{h:Hh}
theorem EN (I:Inv X pins σ H s) (hr:HR X.K H r h):∀ (n:Nat) (A:Around) (a b:D) (va vb:V) (u w:Value) (k:Bool),A.units+n<cLine→RV X.K H r a va→RV X.K H r b vb→RelV va u→RelV vb w→Ev.iu h n a b=some k→tQ A s u w k:=by
 intro n
 induction n with
 | zero=>intro A a b va vb u w k _ _ _ _ _ e;cases e
 | succ n ih=>
  intro A a b va vb u w k hu h1 h2 r1 r2 e
  have dB:A.units<cLine:=by omega
  have ih':∀ a b va vb u w k,RV X.K H r a va→RV X.K H r b vb→RelV va u→RelV vb w→Ev.iu h n a b=some k→tQ A.in1 s u w k:=fun a b va vb u w k=>ih A.in1 a b va vb u w k (by show A.units+1+n<cLine;omega)
  have s1:=h1.shape
  have s2:=h2.shape
  have lst:∀ {i:Nat} {v:V} {u:Value} {ds:List D},gp X.K H r (.ref i) v→RelV v u→Ev.bu h i=some ds→∃ p us,u=.ref p∧PlainL s.heap p (List.toArray us):=fun {i v u ds} hv ru el=>by
   obtain ⟨p,rfl,z⟩:=hv
   cases ru
   obtain ⟨us,pl⟩:=zL I hr el z
   exact ⟨p,us,rfl,pl⟩
  have tup:∀ {ds:List D} {v:V} {u:Value},gp X.K H r (.tup ds) v→RelV v u→∃ p us,u=.ref p∧s.heap.IsTuple p (List.toArray us):=fun {ds v u} hv ru=>by
   obtain ⟨p,vs,rfl,z,_⟩:=hv
   cases ru
   obtain ⟨us,_,pt,_⟩:=I.tuple z
   exact ⟨p,us,rfl,pt⟩
  cases a with
  | bH=>cases e
  | bl _=>cases e
  | int x=>
   simp only [gp] at s1;subst s1;obtain ⟨t0,rfl⟩:=r1
   cases b with
   | bH=>cases e
   | bl _=>cases e
   | int y=>simp only [gp] at s2;subst s2;obtain ⟨t,rfl⟩:=r2;cases e;exact ⟨.int_int _ _ _ _,.int_int _ _ _ _,.int_int _ _ _ _⟩
   | str y=>simp only [gp] at s2;subst s2;obtain ⟨t,rfl⟩:=r2;cases e;exact ⟨.int_str _ _ _ _,.int_str _ _ _ _,.int_str _ _ _ _⟩
   | tup y=>obtain ⟨p,us,rfl,pt⟩:=tup s2 r2;cases e;exact ⟨.int_tuple _ _ pt dB,.int_tuple _ _ pt dB,.int_tuple _ _ pt dB⟩
   | ref m=>
    obtain ⟨ds,e1,rfl⟩:=Option.map_eq_some_iff.mp e
    obtain ⟨p,us,rfl,pl⟩:=lst s2 r2 e1
    exact ⟨.int_list _ _ pl.isList dB,.int_list _ _ pl.isList dB,.int_list _ _ pl.isList dB⟩
  | str x=>
   simp only [gp] at s1;subst s1;obtain ⟨t0,rfl⟩:=r1
   cases b with
   | bH=>cases e
   | bl _=>cases e
   | int y=>simp only [gp] at s2;subst s2;obtain ⟨t,rfl⟩:=r2;cases e;exact ⟨.str_int _ _ _ _,.str_int _ _ _ _,.str_int _ _ _ _⟩
   | str y=>
    simp only [gp] at s2;subst s2;obtain ⟨t,rfl⟩:=r2
    cases e
    rw [←Hs]
    exact ⟨.str_str _ _ _ _,.str_str _ _ _ _,.str_str _ _ _ _⟩
   | tup y=>obtain ⟨p,us,rfl,pt⟩:=tup s2 r2;cases e;exact ⟨.str_tuple _ _ pt dB,.str_tuple _ _ pt dB,.str_tuple _ _ pt dB⟩
   | ref m=>
    obtain ⟨ds,e1,rfl⟩:=Option.map_eq_some_iff.mp e
    obtain ⟨p,us,rfl,pl⟩:=lst s2 r2 e1
    exact ⟨.str_list _ _ pl.isList dB,.str_list _ _ pl.isList dB,.str_list _ _ pl.isList dB⟩
  | tup x=>
   cases b with
   | tup y=>
    obtain ⟨p,vs,rfl,z,w1⟩:=s1
    obtain ⟨p',vs',rfl,z',w2⟩:=s2
    cases r1;cases r2
    exact Ht I hr dB z z' w1 w2 ih' e
   | bH=>cases e
   | bl _=>cases e
   | int y=>obtain ⟨p,us,rfl,pt⟩:=tup s1 r1;simp only [gp] at s2;subst s2;obtain ⟨t,rfl⟩:=r2;cases e;exact ⟨.tuple_int _ _ pt dB,.tuple_int _ _ pt dB,.tuple_int _ _ pt dB⟩
   | str y=>obtain ⟨p,us,rfl,pt⟩:=tup s1 r1;simp only [gp] at s2;subst s2;obtain ⟨t,rfl⟩:=r2;cases e;exact ⟨.tuple_str _ _ pt dB,.tuple_str _ _ pt dB,.tuple_str _ _ pt dB⟩
   | ref m=>
    obtain ⟨p,us,rfl,pt⟩:=tup s1 r1
    obtain ⟨ds,e1,rfl⟩:=Option.map_eq_some_iff.mp e
    obtain ⟨p',us',rfl,pl⟩:=lst s2 r2 e1
    exact ⟨.tuple_list pt pl.isList dB,.tuple_list pt pl.isList dB,.tuple_list pt pl.isList dB⟩
  | ref i=>
   cases b with
   | ref m=>
    replace e:Ev.jw h (Ev.iu h n) i m=some k:=e
    unfold Ev.jw at e
    split at e
    ·rename_i Xc
     subst Xc
     simp only [Option.map_eq_some_iff] at e
     obtain ⟨ds,e1,rfl⟩:=e
     obtain ⟨p,us,rfl,pl⟩:=lst s1 r1 e1
     obtain ⟨p0,rfl,z⟩:=s1
     obtain ⟨p1,rfl,z'⟩:=s2
     rw [z] at z';cases z'
     cases r1;cases r2
     have q:(List.range (List.toArray us).size).all (fun _=>true)=true:=by simp
     have rc:=RcAt.lists (A:=A) (e:=fun _=>true) pl.isList pl.isList rfl dB fun j _ _=>EqAt.same _
     have ne:=RcNeAt.lists (A:=A) (e:=fun _=>true) pl.isList pl.isList rfl dB fun j _ _=>EqAt.same _
     rw [q] at rc ne
     exact ⟨.same _,rc,ne⟩
    ·rename_i hne
     obtain ⟨p0,rfl,z⟩:=s1
     obtain ⟨p1,rfl,z'⟩:=s2
     cases r1;cases r2
     split at e
     ·rename_i x y g1 g2
      obtain ⟨q0,q1,EL,q2,q3⟩:=hr.ob _ _ g1
      obtain ⟨q4,q5,EM,q6,q7⟩:=hr.ob _ _ g2
      rw [z] at q1;cases q1
      rw [z'] at q5;cases q5
      exact nR I dB (.of q2) (.of q6) q3 q7 (fun w=>hne (hr.inj _ _ _ _ _ z (by rw [w];exact z') g1 g2)) ih' e
     ·rename_i x y g1 g2
      obtain ⟨q0,q1,EL,q2,q3⟩:=hr.ob _ _ g1
      obtain ⟨q4,q5,EM,q6,q7⟩:=hr.ob _ _ g2
      rw [z] at q1;cases q1
      rw [z'] at q5;cases q5
      exact nR I dB (EO q2) (.of q6) q3 q7 (mV I q2 q6) ih' e
     ·rename_i x y g1 g2
      obtain ⟨q0,q1,EL,q2,q3⟩:=hr.ob _ _ g1
      obtain ⟨q4,q5,EM,q6,q7⟩:=hr.ob _ _ g2
      rw [z] at q1;cases q1
      rw [z'] at q5;cases q5
      exact nR I dB (.of q2) (EO q6) q3 q7 (mV I q6 q2).symm ih' e
     ·cases e
   | bH=>cases e
   | bl _=>cases e
   | int y=>obtain ⟨ds,e1,rfl⟩:=Option.map_eq_some_iff.mp e;obtain ⟨p,us,rfl,pl⟩:=lst s1 r1 e1;simp only [gp] at s2;subst s2;obtain ⟨t,rfl⟩:=r2;exact ⟨.list_int _ _ pl.isList dB,.list_int _ _ pl.isList dB,.list_int _ _ pl.isList dB⟩
   | str y=>obtain ⟨ds,e1,rfl⟩:=Option.map_eq_some_iff.mp e;obtain ⟨p,us,rfl,pl⟩:=lst s1 r1 e1;simp only [gp] at s2;subst s2;obtain ⟨t,rfl⟩:=r2;exact ⟨.list_str _ _ pl.isList dB,.list_str _ _ pl.isList dB,.list_str _ _ pl.isList dB⟩
   | tup y=>
    obtain ⟨ds,e1,rfl⟩:=Option.map_eq_some_iff.mp e
    obtain ⟨p,us,rfl,pl⟩:=lst s1 r1 e1
    obtain ⟨p',us',rfl,pt⟩:=tup s2 r2
    exact ⟨.list_tuple pl.isList pt dB,.list_tuple pl.isList pt dB,.list_tuple pl.isList pt dB⟩
where
 EO {K:PySem.W.Frag} {H:Hp} {a:Addr} {vs:List V} (q:xB K H a vs):fh K H a vs:=by
  rcases q with ⟨ob,e2⟩ | e2
  ·exact .inl (.inr ⟨ob,e2⟩)
  ·exact .inr e2
end
theorem Good.units {G:Tb}{n:Nat}{sc:Scope}{N:List Str}{df:Bool}{X:Cx}(g:Good G n sc N df X):X.A.units+1+Ev.deep<cLine:=by
 have:=g.room.un
 have:Ev.deep=20:=rfl
 omega
section
variable {G:Tb}{n:Nat}{sc:Scope}{N:List Str}{df:Bool}{X:Cx}
theorem vW {pins:List (Addr×Obj)}{σ:L2.St}{H:Hp}{s:Shared}{Q:VK}{r:List Addr}{h:Hh}{k:Bool}(I:Inv X pins σ H s) (hr:HR X.K H r h) (q:Res X.K r H h (.bl k) Q):EP X pins σ Q (.bool k) s:=
 ⟨.bl k,H,I,rfl,q.here rfl hr⟩
theorem ER (g:Good G n sc N df X):dS X (compareOp .Eq) (iR X.K (iy .eq)):=by
 intro pins s σ H x y v u Q I rx ry q
 obtain ⟨r,h,a,b,d,h',hr,v1,v2,e,q⟩:=q
 obtain ⟨k,e1,rfl,rfl⟩:=mU e
 have:=g.units
 exact (EN I hr Ev.deep X.A a b x y v u k (by omega) v1 v2 rx ry e1).rc _ _ _ _ (vW I hr q)
theorem PY (g:Good G n sc N df X):dS X (compareOp .NotEq) (iR X.K (iy .ne)):=by
 intro pins s σ H x y v u Q I rx ry q
 obtain ⟨r,h,a,b,d,h',hr,v1,v2,e,q⟩:=q
 obtain ⟨k,e1,rfl,rfl⟩:=mU e
 have:=g.units
 delta Ev.cop at e1;dsimp only at e1;simp only [Option.map_eq_some_iff] at e1
 obtain ⟨k',e2,rfl⟩:=e1
 exact (EN I hr Ev.deep X.A a b x y v u k' (by omega) v1 v2 rx ry e2).ne _ _ _ _ (vW I hr q)
theorem zN {op:CmpOp}{o:bQ}{p:Int→Int→Bool}(ho:dS X (compareOp op) (sY fun i j=>.bl (p i j))) (hc:∀ a b h k,Ev.cop o a b h=some k→∃ i j,a=.int i∧b=.int j∧k=p i j):dS X (compareOp op) (iR X.K (iy o)):=by
 intro pins s σ H x y v u Q I rx ry q
 obtain ⟨r,h,a,b,d,h',hr,v1,v2,e,q⟩:=q
 obtain ⟨k,e1,rfl,rfl⟩:=mU e
 obtain ⟨i,j,rfl,rfl,rfl⟩:=hc _ _ _ _ e1
 exact ho pins s σ H x y v u Q I rx ry ⟨i,j,v1,v2,q.here rfl hr⟩
theorem PZ:dS X (compareOp .Lt) (iR X.K (iy .lt)):=zN Pp fun a b h k e=>by
 cases a <;> cases b <;> (delta Ev.cop at e;dsimp only at e) <;> first | (cases e;exact ⟨_,_,rfl,rfl,rfl⟩) | cases e
theorem ES:dS X (compareOp .Gt) (iR X.K (iy .gt)):=zN Pq fun a b h k e=>by
 cases a <;> cases b <;> (delta Ev.cop at e;dsimp only at e) <;> first | (cases e;exact ⟨_,_,rfl,rfl,rfl⟩) | cases e
end
end Sm
set_option maxRecDepth 100000
namespace Sm
open PySem PySem.Spec PyProof.Rows L2 PySem.SeqAt
open Ev (D O Hh Fr R aU E Es Eo T S Ss Fl Src bV bQ TY BI ME)
section
variable {X:Cx}{pins:List (Addr×Obj)}{σ:L2.St}{H:Hp}{s:Shared}{r:List Addr}{h:Hh}
end
section
variable {G:Tb}{n:Nat}{sc:Scope}{N:List Str}{df:Bool}{X:Cx}
theorem qq (a b:List Nat):bh a++bh b=bh (a++b):=by
 show Str.append (bh a) (bh b)=_
 simp [Str.append,bh]
theorem Hu {pins:List (Addr×Obj)}{σ:L2.St}{H:Hp}{s:Shared}{Q:Value→Shared→Prop}{E:Value→Shared→Prop}(I:Inv X pins σ H s) {a b:Addr}{ys:List V}(h1:dG X.K H a []) (h2:dG X.K H b ys) (q:Q (.ref b) s):wpAny (model X.prog X.w) X.A (binaryOp .Add (.ref a) (.ref b)) Q E s:=by
 obtain ⟨us,p1,Xd,_⟩:=I.tuple h1
 obtain ⟨zs,p2,Xe,_⟩:=I.tuple h2
 cases p1
 obtain ⟨⟨cls,dd,data,sl⟩,ho,hc,n,hd⟩:=id Xd
 obtain ⟨⟨UD,dd2,data2,sl2⟩,ho2,hc2,n2,hd2⟩:=id Xe
 simp only at hc hd hc2 hd2
 subst hc hd hc2 hd2
 exact concat_meets ⟨_,ho,rfl⟩ ⟨_,ho2,rfl⟩ noFill_tuple_add seq_tuple_add PySem.F.slot_tuple_add PySem.F.entry_tuple_add (PySem.F.args_tuple_add_2 _ _)
  (tuple_addW0 a b _ _ n n2 dd dd2 sl sl2 (by simp)) ⟨ho,ho2,q⟩
theorem KU:dS X (binaryOp .Add) (iR X.K (Ev.bT .add)):=by
 intro pins s σ H x y v u Q I rx ry q
 obtain ⟨r,h,a,b,d,h',hr,v1,v2,e,q⟩:=q
 have s1:=v1.shape
 have s2:=v2.shape
 cases a with
 | int i=>cases b with
  | int j=>cases e;exact JH pins s σ H x y v u Q I rx ry ⟨i,j,s1,s2,q.here rfl hr⟩
  | _=>cases e
 | str i=>cases b with
  | str j=>
   delta Ev.bT at e;dsimp only at e
   split at e
   ·rename_i hz
    cases e
    rw [iQ] at hz
    refine xj pins s σ H x y v u Q I rx ry ⟨bh i,bh j,s1,s2,by rw [cy,cy];exact hz,?_⟩
    rw [qq]
    exact q.here ⟨rfl,by rw [List.length_append];exact hz⟩ hr
   ·cases e
  | _=>cases e
 | tup i=>cases b with
  | tup j=>
   delta Ev.bT at e;dsimp only at e
   split at e
   ·rename_i hz
    cases e
    rw [iQ] at hz
    obtain ⟨pa,vs,rfl,z1,w1⟩:=s1
    obtain ⟨pb,ws,rfl,z2,w2⟩:=s2
    have l1:=w1.length
    have l2:=w2.length
    cases vs with
    | nil=>
     cases rx;cases ry
     refine Hu I z1 z2 ⟨.ref pb,H,I,rfl,q.here ?_ hr⟩
     have:i=[]:=by cases i with | nil=>rfl | cons _ _=>simp at l1
     subst this
     exact ⟨pb,ws,rfl,z2,by simpa using w2⟩
    | cons v0 vs=>
     refine GY pins s σ H _ _ v u Q I rx ry ⟨pa,pb,v0 :: vs,ws,rfl,rfl,z1,z2,by simp,by rw [l1,l2];exact hz,fun hw=>?_,fun hw p hp=>?_⟩
     ·subst hw
      have:j=[]:=by cases j with | nil=>rfl | cons _ _=>simp at l2
      subst this
      exact q.here ⟨pa,v0 :: vs,rfl,z1,by simpa using w1⟩ hr
     ·exact q.tup (w1.append w2) hr hp
   ·cases e
  | _=>cases e
 | ref i=>cases b with
  | ref j=>
   delta Ev.bT at e;dsimp only at e
   split at e
   ·rename_i ds es e1 e2
    obtain ⟨pa,rfl,z1⟩:=s1
    obtain ⟨pb,rfl,z2⟩:=s2
    cases rx;cases ry
    obtain ⟨p1,g1,vs,g2,g3⟩:=hr.ob _ _ e1
    obtain ⟨p2,k1,ws,k2,k3⟩:=hr.ob _ _ e2
    rw [z1] at g1;cases g1
    rw [z2] at k1;cases k1
    obtain ⟨hz,q2⟩:=q.lst e (g3.append k3) hr
    exact J3 pins s σ H (.ref pa) (.ref pb) _ _ Q I rfl rfl ⟨_,_,vs,ws,rfl,rfl,g2,k2,by rw [List.length_append] at hz;exact hz,q2⟩
   ·cases e
  | _=>cases e
 | _=>cases b <;> cases e
theorem KW:dS X (binaryOp .Sub) (iR X.K (Ev.bT .sub)):=by
 intro pins s σ H x y v u Q I rx ry q
 obtain ⟨r,h,a,b,d,h',hr,v1,v2,e,q⟩:=q
 cases a with
 | int i=>cases b with
  | int j=>cases e;exact JJ pins s σ H x y v u Q I rx ry ⟨i,j,v1,v2,q.here rfl hr⟩
  | _=>cases e
 | _=>cases b <;> cases e
theorem Hv:dS X (binaryOp .FloorDiv) (iR X.K (Ev.bT .fdiv)):=by
 intro pins s σ H x y v u Q I rx ry q
 obtain ⟨r,h,a,b,d,h',hr,v1,v2,e,q⟩:=q
 cases a with
 | int i=>cases b with
  | int j=>
   delta Ev.bT at e;dsimp only at e
   split at e
   ·rename_i hz;cases e;exact GQ pins s σ H x y v u Q I rx ry ⟨i,j,v1,v2,hz,q.here rfl hr⟩
   ·cases e
  | _=>cases e
 | _=>cases b <;> cases e
theorem KY:dS X (binaryOp .Mod) (iR X.K (Ev.bT .mod)):=by
 intro pins s σ H x y v u Q I rx ry q
 obtain ⟨r,h,a,b,d,h',hr,v1,v2,e,q⟩:=q
 cases a with
 | int i=>cases b with
  | int j=>
   delta Ev.bT at e;dsimp only at e
   split at e
   ·rename_i hz;cases e;exact JL pins s σ H x y v u Q I rx ry ⟨i,j,v1,v2,hz,q.here rfl hr⟩
   ·cases e
  | _=>cases e
 | _=>cases b <;> cases e
end
end Sm
set_option maxRecDepth 100000
namespace Sm
open PySem PySem.Spec PyProof.Rows L2 PySem.SeqAt
open Ev (D O Hh Fr R aU E Es Eo T S Ss Fl Src bV bQ TY BI ME)
section
variable {X:Cx}
theorem KZ (n:Nat) (i:Int):Ev.er n i=L2.er n i:=rfl
theorem K0 {α:Type}(xs:List α) (i:Int):Ev.bN xs i=L2.bN xs i:=rfl
theorem aI.bN {K:PySem.W.Frag}{H:Hp}{r:List Addr}{ds:List D}{vs:List V}{i:Int}{d:D}(w:aI K H r ds vs) (e:Ev.bN ds i=some d):∃ v,L2.bN vs i=some v∧RV K H r d v:=by
 unfold Ev.bN at e
 obtain ⟨j,e1,e2⟩:=Option.bind_eq_some_iff.mp e
 obtain ⟨v,e3,e4⟩:=w.get e2
 exact ⟨v,by unfold L2.bN;rw [w.length,←KZ,e1];exact e3,e4⟩
theorem P0:vI X (iR X.K Kp):=by
 intro value slice pins s σ H x y v u Q I rx ry q hs
 obtain ⟨r,h,a,b,d,h',hr,v1,v2,e,q⟩:=q
 obtain ⟨e,rfl⟩:=Ev.aO e
 cases b with
 | int i=>
  have s2:=v2.shape
  cases a with
  | tup ds=>
   obtain ⟨p,vs,rfl,z,w⟩:=v1.shape
   obtain ⟨v',g1,g2⟩:=w.bN e
   exact JY value slice pins s σ H _ y v u Q I rx ry ⟨p,vs,i,v',rfl,s2,z,g1,q.here g2 hr⟩ hs
  | str l=>
   simp only [RV] at v1
   obtain ⟨rfl,hl⟩:=v1
   simp only [Ev.fK,Option.map_eq_some_iff] at e
   obtain ⟨c,e1,rfl⟩:=e
   exact JZ value slice pins s σ H _ y v u Q I rx ry ⟨bh l,i,c,rfl,s2,by rw [cy];exact hl,by simpa [bh,K0] using e1,q.here ⟨rfl,by show 1≤sizeLine;decide⟩ hr⟩ hs
  | ref m=>
   simp only [Ev.fK,Option.bind_eq_some_iff] at e
   obtain ⟨ds,e1,e2⟩:=e
   obtain ⟨p,rfl,z⟩:=v1.shape
   obtain ⟨p',vs,z',q1,w⟩:=hr.read e1
   rw [z] at z';cases z'
   obtain ⟨v',g1,g2⟩:=w.bN e2
   exact G0 value slice pins s σ H _ y v u Q I rx ry ⟨p,vs,i,v',rfl,s2,q1,g1,q.here g2 hr⟩ hs
  | _=>cases e
 | _=>cases a <;> cases e
theorem aI.cut {K:PySem.W.Frag}{H:Hp}{r:List Addr}{ds:List D}{vs:List V}(w:aI K H r ds vs) (lo hi:Option Int):aI K H r (Ev.cut ds lo hi) (lK vs lo hi):=by
 unfold Ev.cut lK
 rw [w.length]
 exact (w.drop _).take _
theorem rH {α:Type}(xs:List α) (lo hi:Option Int) (h:Ev.aS xs.length 0 lo=0∧Ev.aS xs.length xs.length hi=xs.length):Ev.cut xs lo hi=xs:=by
 unfold Ev.cut
 rw [h.1,h.2]
 simp
theorem Hw {α:Type}(xs:List α) (lo hi:Option Int):(Ev.cut xs lo hi).length≤xs.length:=by
 unfold Ev.cut
 rw [List.length_take,List.length_drop]
 omega
theorem rZ {prog:Program}{w:World}{A:Around}{E:Value→Shared→Prop}{s:Shared}{t sl:Addr}{items:Array Value}{vl vu:Value}{lo hi:Option Int}{Q:Value→Shared→Prop}(ht:IsTup s.heap t items)(hs:s.heap.IsSliceOf sl vl vu .none)(pl:IsPart vl lo)(pu:IsPart vu hi)
  (hw:HT.aS items.size 0 lo=0∧HT.aS items.size items.size hi=items.size) (h:Q (.ref t) s):wpAny (model prog w) A (getItem (.ref t) (.ref sl)) Q E s:=by
 obtain ⟨os,hos,hcs,hds⟩:=id hs
 have zf:s.TypeIs (.ref sl) "slice" :=⟨os,hos,hcs⟩
 unfold getItem
 try with_reducible refine wpAny_holding ?_
 first | refine wpAny_bind (wpAny_pure ?_) | skip
 refine wpAny_bind (wpAny_sequenceKey ht.typeIs (by decide) ?_)
 refine wpAny_bind (wpAny_callSpecial?_slot (name:=Str.ofString "__getitem__") ht.typeIs PyProof.Rows.slot_tuple_getitem
  (wpAny_call_entry PyProof.Rows.slot_tuple_getitem ht.typeIs entry_tuple_getitem ?_ (args_tuple_getitem _ _)))
 show wpAny _ _ (Builtin.Tuple.tupleItemsOf (.ref t) >>= _) _ _ s
 refine wpAny_bind (tupleItemsOf_ ht ?_)
 refine wpAny_bind (wpAny_typeOf zf ?_)
 rw [if_pos (by decide)]
 refine wpAny_bind (HT.ju hs pl pu ?_)
 have hyes:(((HT.aS items.size 0 lo:Nat):Int)==0&&(1:Int)==1&&(HT.aS items.size items.size hi - HT.aS items.size 0 lo)==items.size)=true:=by
  rw [hw.1,hw.2];simp
 show wpAny _ _ (if (((HT.aS items.size 0 lo:Nat):Int)==0&&(1:Int)==1&&(HT.aS items.size items.size hi - HT.aS items.size 0 lo)==items.size)=true then _ else _) _ _ s
 rw [if_pos hyes]
 refine wpAny_bind (m:=Builtin.Tuple.tupleIsExact (.ref t)) (wpAny_bind (wpAny_typeOf ht.typeIs (wpAny_pure ?_)))
 show wpAny _ _ (if ((Value.type "tuple" ==Value.type "tuple")=true) then _ else _) _ _ s
 rw [if_pos (by decide)]
 exact wpAny_bind (wpAny_rule (wpAny_bind (wpAny_pure (wpAny_pure ⟨_,rfl,wpAny_pure h⟩))))
theorem zO (lo hi:Option Int) (n:Nat):Builtin.Str.strSliceIndices lo hi 1 n=(List.range (Ev.aS n n hi - Ev.aS n 0 lo)).map (fun k=>Ev.aS n 0 lo+k):=by
 have K1:∀ o:Option Int,((match o with | none=>(0:Int) | some i=>max 0 (min (if i<0 then i+(n:Int) else i) (n:Int))))=((Ev.aS n 0 o:Nat):Int):=fun o=>by
  cases o with
  | none=>rfl
  | some i=>simp only [Ev.aS];split <;> omega
 have K2:∀ o:Option Int,((match o with | none=>(n:Int) | some i=>max 0 (min (if i<0 then i+(n:Int) else i) (n:Int))))=((Ev.aS n n o:Nat):Int):=fun o=>by
  cases o with
  | none=>rfl
  | some i=>simp only [Ev.aS];split <;> omega
 have e:Builtin.Str.strSliceIndices lo hi 1 n=sliceRange (match lo with | none=>(0:Int) | some i=>max 0 (min (if i<0 then i+(n:Int) else i) (n:Int))) (match hi with | none=>(n:Int) | some i=>max 0 (min (if i<0 then i+(n:Int) else i) (n:Int))) 1:=by
  unfold Builtin.Str.strSliceIndices
  cases lo <;> cases hi <;> simp
 rw [e,K1,K2,sliceRange_one]
theorem K3 (l:List Nat) (lo hi:Option Int):((Builtin.Str.strSliceIndices lo hi 1 (bh l).length).filterMap ((bh l).cps[·]?)).toArray=(Ev.cut l lo hi).toArray:=by
 rw [cy,zO,pick_run]
 simp [bh,Ev.cut]
theorem K4:jX X (Ka X.K):=by
 intro pins s σ H x v vl vu lo hi sl Q I rx hs pl pu q
 obtain ⟨r,h,a,d,h',hr,v1,e,q⟩:=q
 cases a with
 | tup ds=>
  cases e
  obtain ⟨p,vs,rfl,z,w⟩:=v1.shape
  by_cases hw:HT.aS vs.length 0 lo=0∧HT.aS vs.length vs.length hi=vs.length
  ·cases rx
   obtain ⟨us,pv,pt,hz⟩:=I.tuple z
   have hl:=pv.length
   have Xf:Ev.aS ds.length 0 lo=0∧Ev.aS ds.length ds.length hi=ds.length:=by rw [←w.length];exact hw
   refine ⟨"tuple",_,PyProof.Rows.slot_tuple_getitem.lookup,pt.typeIs,?_⟩
   refine rZ pt hs pl pu (by rw [List.size_toArray,←hl];exact hw) ⟨.ref p,H,I,rfl,q.here ?_ hr⟩
   rw [rH ds lo hi Xf]
   exact ⟨p,vs,rfl,z,w⟩
  ·exact JX pins s σ H _ v vl vu lo hi sl Q I rx hs pl pu ⟨p,vs,rfl,z,hw,fun p' hp=>q.tup (w.cut lo hi) hr hp⟩
 | str l=>
  simp only [RV] at v1
  obtain ⟨rfl,hl⟩:=v1
  obtain ⟨t,rfl⟩:=rx
  cases e
  refine ⟨"str",_,PySem.F.slot_str_getitem.lookup,typeIs_str s _ t,?_⟩
  have part:∀ {v:Value} {o:Option Int},IsPart v o→∃ p:Option (Int×Tok),v=partValue p∧p.map (·.1)=o:=fun {v o} hp=>by
   cases hp with
   | none=>exact ⟨none,rfl,rfl⟩
   | int i t=>exact ⟨some (i,t),rfl,rfl⟩
  obtain ⟨l1,e1,e2⟩:=part pl
  obtain ⟨u1,e3,e4⟩:=part pu
  subst e1 e3
  obtain ⟨os,hos,hcs,hds⟩:=hs
  refine wpAny_getItem_str_slice (l:=l1) (u:=u1) (st:=none) ⟨os,hos,hcs,hds⟩ rfl ?_
  have ET:((slicePicked (bh l) l1 u1 none).filterMap ((bh l).cps[·]?)).toArray=(Ev.cut l lo hi).toArray:=by
   show ((Builtin.Str.strSliceIndices (l1.map (·.1)) (u1.map (·.1)) 1 (bh l).length).filterMap ((bh l).cps[·]?)).toArray=_
   rw [e2,e4]
   exact K3 l lo hi
  have hcl:=Hw l lo hi
  unfold sliceMade
  refine post_val_or_made (fun _=>?_) fun t' k=>?_
  ·rw [ET]
   show (Ev.cut l lo hi).toArray.size≤sizeLine
   simp only [List.size_toArray]
   omega
  ·have hres:(if (((none:Option (Int×Tok)).map (·.1)).getD 1==1&&(slicePicked (bh l) l1 u1 none).length==(bh l).length)=true then bh l else (⟨((slicePicked (bh l) l1 u1 none).filterMap ((bh l).cps[·]?)).toArray⟩:Str))=bh (Ev.cut l lo hi):=by
    split
    ·rename_i hc
     rw [Bool.and_eq_true] at hc
     have hlen:(slicePicked (bh l) l1 u1 none).length=(bh l).length:=eq_of_beq hc.2
     have hlen2:(slicePicked (bh l) l1 u1 none).length=Ev.aS l.length l.length hi - Ev.aS l.length 0 lo:=by
      show (Builtin.Str.strSliceIndices (l1.map (·.1)) (u1.map (·.1)) 1 (bh l).length).length=_
      rw [e2,e4,zO,cy]
      simp
     rw [cy] at hlen
     have hb:Ev.aS l.length l.length hi≤l.length:=HT.tu _ _ (Nat.le_refl _) hi
     have ha:Ev.aS l.length 0 lo≤l.length:=HT.tu _ _ (Nat.zero_le _) lo
     rw [rH l lo hi ⟨by omega,by omega⟩]
    ·rw [ET];rfl
   rw [hres]
   exact ⟨.str (bh (Ev.cut l lo hi)),H,I.tok _,⟨_,rfl⟩,q.here ⟨rfl,by omega⟩ hr⟩
 | ref m=>
  simp only [Ev.fR] at e
  split at e
  ·rename_i ds e1
   obtain ⟨p,rfl,z⟩:=v1.shape
   obtain ⟨p',vs,z',q1,w⟩:=hr.read e1
   rw [z] at z';cases z'
   obtain ⟨hz,q2⟩:=q.lst e (w.cut lo hi) hr
   exact G1 pins s σ H _ v vl vu lo hi sl Q I rx hs pl pu ⟨p,vs,rfl,q1,q2⟩
  ·cases e
 | _=>cases e
theorem tR:∀ (k:Nat) (l:List Nat) (acc:List Nat),(List.replicate k l.toArray).foldl (·++·) acc.toArray=(acc++Ev.rep k l).toArray
 | 0,l,acc=>by simp [Ev.rep]
 | k+1,l,acc=>by
  rw [List.replicate_succ,List.foldl_cons]
  have:acc.toArray++l.toArray=(acc++l).toArray:=by simp
  rw [this,tR k l (acc++l)]
  simp [Ev.rep,List.replicate_succ]
theorem mW {α:Type}(k:Nat) (l:List α):(Ev.rep k l).length=k*l.length:=by
 unfold Ev.rep
 exact len_rep l k
theorem Hx {l:List Nat}{k:Int}(h:0≤k):Txt.mul (bh l) k=bh (Ev.rep k.toNat l):=by
 unfold Txt.mul
 by_cases h1:k<1
 ·have:k=0:=by omega
  subst this
  rw [if_pos (by decide)]
  rfl
 ·rw [if_neg h1]
  split
  ·rename_i hc
   rw [Bool.or_eq_true] at hc
   rcases hc with hc | hc
   ·have:k=1:=by simpa using hc
    subst this
    simp [Ev.rep]
   ·rw [cy] at hc
    have:l=[]:=by cases l with | nil=>rfl | cons _ _=>simp at hc
    subst this
    simp [Ev.rep,bh]
  ·show (⟨(List.replicate k.toNat (bh l).cps).foldl (·++·) #[]⟩:Str)=_
   have:=tR k.toNat l []
   simp only [List.nil_append] at this
   exact congrArg Str.mk this
theorem jF {a b:Nat}(h1:a≤1000) (h2:b≤1000):a*b≤sizeLine:=Nat.le_trans (Nat.mul_le_mul h1 h2) (by decide)
theorem Hy {pins:List (Addr×Obj)}{σ:L2.St}{H:Hp}{s:Shared}{Q:VK}(I:Inv X pins σ H s) {l:List Nat}{k:Int}{t u:Tok}(hk:0≤k∧k≤1000∧l.length≤1000) (q:Q (.str (bh (Ev.rep k.toNat l))) H) :
  wpAny (model X.prog X.w) X.A (binaryOp .Mult (.str (bh l) t) (.int k u)) (EP X pins σ Q) X.xe s:=by
 have hok:MulOk (bh l) k:=mulOk_of 1000 1000 (by rw [cy];exact hk.2.2) (by exact hk.2.1) (by omega) (by decide) (by decide)
 refine SB.mul hok fun t' k'=>?_
 rw [Hx hk.1]
 exact ⟨.str _,H,I.tok _,⟨_,rfl⟩,q⟩
theorem nT:fillsNumberSlot (.type "tuple") "mul" = pure false:=
 PySem.fillsNumberSlot_seq (id:="tuple.__mul__") (r:=some (.builtin "tuple.__rmul__")) PySem.F.slot_tuple_mul.lookup (by decide +kernel) PySem.F.slot_tuple_rmul.lookup (by decide +kernel)
theorem tS:seqRepeat? (.type "tuple")=pure (some (.builtin "tuple.__mul__")):=by
 unfold seqRepeat?
 rw [PySem.seqSlot_of (T:="tuple") (name:="__mul__") (id:="tuple.__mul__") PySem.F.slot_tuple_mul.lookup (by decide +kernel),PySem.seqSlot_of (T:="tuple") (name:="__rmul__") (id:="tuple.__rmul__") PySem.F.slot_tuple_rmul.lookup (by decide +kernel)]
 rfl
theorem xO (a:Int) (t:Tok) (l:Addr) (items:Array Value) (n:Nat) (dd:Option Addr) (sl:Array (Option Value)) :
  Meets (Builtin.«int.__rmul__» ⟨[.int a t,.ref l],[]⟩) (fun _ R s=>s.heap.get? l=some { cls:=.type "tuple",dict:=dd,data:=.seq items n,slots:=sl }∧R (.ok (.ret Value.notImplemented)) s):=
 .of_wp fun prog w A R s h=>by obtain ⟨hp,g,d,tk,os⟩:=s;obtain ⟨hl,h⟩:=h;wp_walk;exact ⟨_,rfl,h⟩
theorem xP (l:Addr) (items:Array Value) (n:Nat) (dd:Option Addr) (sl:Array (Option Value)) (k:Int) (u:Tok) (h1:¬ (decide (k < -2 ^ 63) || decide (k≥2 ^ 63))=true) (h3:(items.isEmpty || k==1)=true) :
  Meets (Builtin.«tuple.__mul__» ⟨[.ref l,.int k u],[]⟩) (fun _ R s=>s.heap.get? l=some { cls:=.type "tuple",dict:=dd,data:=.seq items n,slots:=sl }∧R (.ok (.ret (.ref l))) s):=
 .of_wp fun prog w A R s h=>by obtain ⟨hp,g,d,tk,os⟩:=s;obtain ⟨hl,h⟩:=h;have f1:=AutoSeq1.idx_int;wp_walk using AutoSeq1.wpAny_loadPart' hl;rw [if_neg h1];wp_walk using AutoSeq1.wpAny_loadPart' hl;exact ⟨_,rfl,h⟩
theorem xQ (l:Addr) (items:Array Value) (n:Nat) (dd:Option Addr) (sl:Array (Option Value)) (k:Int) (u:Tok) (h1:¬ (decide (k < -2 ^ 63) || decide (k≥2 ^ 63))=true) (h3:¬ (items.isEmpty || k==1)=true) (h4:(decide (k≤0) || items.isEmpty)=true) :
  Meets (Builtin.«tuple.__mul__» ⟨[.ref l,.int k u],[]⟩) (fun _ R s=>s.heap.get? l=some { cls:=.type "tuple",dict:=dd,data:=.seq items n,slots:=sl }∧R (.ok (.ret (Value.ref s.heap.objs.size))) { s with heap:=s.heap.push { cls:=Value.type "tuple",data:=Data.seq #[]},toks:=s.toks }):=
 .of_wp fun prog w A R s h=>by obtain ⟨hp,g,d,tk,os⟩:=s;obtain ⟨hl,h⟩:=h;have f1:=AutoSeq1.idx_int;wp_walk using AutoSeq1.wpAny_loadPart' hl;rw [if_neg h1];wp_walk using AutoSeq1.wpAny_loadPart' hl;exact ⟨_,rfl,h⟩
theorem xR (l:Addr) (items:Array Value) (n:Nat) (dd:Option Addr) (sl:Array (Option Value)) (k:Int) (u:Tok) (h1:¬ (decide (k < -2 ^ 63) || decide (k≥2 ^ 63))=true) (h3:¬ (items.isEmpty || k==1)=true) (h4:¬ (decide (k≤0) || items.isEmpty)=true)
  (h5:¬ (items.size*k > (2 ^ 63 - 1) / 8)) (h6:¬ Builtin.Tuple.tupleTooMany (items.size*k)=true) (hsz:(List.foldl (fun x1 x2=>x1++x2) #[] (List.replicate k.toNat items)).size≤sizeLine) :
  Meets (Builtin.«tuple.__mul__» ⟨[.ref l,.int k u],[]⟩) (fun _ R s=>s.heap.get? l=some { cls:=.type "tuple",dict:=dd,data:=.seq items n,slots:=sl }∧R (.ok (.ret (Value.ref s.heap.objs.size))) { s with heap:=s.heap.push { cls:=Value.type "tuple",data:=Data.seq (List.foldl (fun x1 x2=>x1++x2) #[] (List.replicate k.toNat items))},toks:=s.toks }):=
 .of_wp fun prog w A R s h=>by obtain ⟨hp,g,d,tk,os⟩:=s;obtain ⟨hl,h⟩:=h;have f1:=AutoSeq1.idx_int;wp_walk using AutoSeq1.wpAny_loadPart' hl;rw [if_neg h1];wp_walk using AutoSeq1.wpAny_loadPart' hl;rw [if_neg h5];wp_walk using AutoSeq1.wpAny_loadPart' hl;exact ⟨_,rfl,h⟩
theorem rJ:∀ (k:Nat) (l acc:List Value),(List.replicate k l.toArray).foldl (·++·) acc.toArray=(acc++Ev.rep k l).toArray
 | 0,l,acc=>by simp [Ev.rep]
 | k+1,l,acc=>by
  rw [List.replicate_succ,List.foldl_cons]
  have:acc.toArray++l.toArray=(acc++l).toArray:=by simp
  rw [this,rJ k l (acc++l)]
  simp [Ev.rep,List.replicate_succ]
theorem Hz {pins:List (Addr×Obj)}{σ:L2.St}{H:Hp}{s:Shared}{Q:VK}(I:Inv X pins σ H s) {p:Addr}{vs:List V}{k:Int}{u:Tok}(hk:0≤k∧k≤1000∧vs.length≤1000) (hp:dG X.K H p vs)
  (q1:Ev.rep k.toNat vs=vs→Q (.ref p) H) (q2:∀ p',H p'=none→Q (.ref p') (upd H p' (.tup (Ev.rep k.toNat vs)))) :
  wpAny (model X.prog X.w) X.A (binaryOp .Mult (.ref p) (.int k u)) (EP X pins σ Q) X.xe s:=by
 obtain ⟨us,pv,pt,hz⟩:=I.tuple hp
 obtain ⟨⟨cls,dd,data,sl⟩,ho,hc,n,hd⟩:=id pt
 simp only at hc hd
 subst hc hd
 have hl:=pv.length
 have h1:¬ (decide (k < -2 ^ 63) || decide (k≥2 ^ 63))=true:=by simp;omega
 refine wpAny_binaryOp_repeat_ref (T:="tuple") (U:="int") (by decide) ⟨_,ho,rfl⟩ (fun s'=>typeIs_int s' k u) nT PySem.F.fills_int_mul PySem.F.slot_int_rmul tS PySem.F.slot_int_index.lookup
  (call_meets PySem.F.slot_int_rmul (typeIs_int s k u) PySem.F.entry_int_rmul (PySem.F.args_int_rmul_2 _ _) (xO k u p us.toArray n dd sl) ⟨ho,rfl,⟨_,ho,rfl⟩,?_⟩)
 have hrep:∀ m:Nat,(Ev.rep m us).length=m*us.length:=fun m=>mW m us
 by_cases h3:(us.toArray.isEmpty || k==1)=true
 ·refine call_meets PySem.F.slot_tuple_mul ⟨_,ho,rfl⟩ PySem.F.entry_tuple_mul (PySem.F.args_tuple_mul_2 _ _) (xP p us.toArray n dd sl k u h1 h3) ⟨ho,?_⟩
  refine ⟨.ref p,H,I,rfl,q1 ?_⟩
  rw [Bool.or_eq_true] at h3
  rcases h3 with h3 | h3
  ·have:us=[]:=by simpa using h3
   subst this
   cases pv
   simp [Ev.rep]
  ·have:k=1:=by simpa using h3
   subst this
   simp [Ev.rep]
 ·have laid:∀ m:Nat,m=k.toNat→EP X pins σ Q (.ref s.heap.objs.size) { s with heap:=s.heap.push { cls:=.type "tuple",data:=.seq (Ev.rep m us).toArray }}:=fun m hm=>by
   subst hm
   refine ⟨.ref s.heap.objs.size,_,I.laid (t':=s.toks) (o:=.tup (Ev.rep k.toNat vs)) (fun b ob q=>Heap.get?_push_of_some _ q) (Nat.le_refl _) ?_,rfl,q2 _ (I.hok.fresh (Nat.le_refl _))⟩
   exact ⟨by rw [mW];exact jF (by omega) hk.2.2,_,pv.rep k.toNat,IsTup.new _ _⟩
  by_cases h4:(decide (k≤0) || us.toArray.isEmpty)=true
  ·refine call_meets PySem.F.slot_tuple_mul ⟨_,ho,rfl⟩ PySem.F.entry_tuple_mul (PySem.F.args_tuple_mul_2 _ _) (xQ p us.toArray n dd sl k u h1 h3 h4) ⟨ho,?_⟩
   have hk0:k=0:=by
    rw [Bool.or_eq_true] at h4 h3
    rcases h4 with h4 | h4
    ·have:k≤0:=of_decide_eq_true h4
     omega
    ·exact absurd (.inl h4) h3
   have:=laid 0 (by rw [hk0];rfl)
   exact this
  ·have hm:us.toArray.size*k.toNat≤1000000:=by
    rw [List.size_toArray]
    exact Nat.mul_le_mul (by omega:us.length≤1000) (by omega:k.toNat≤1000)
   have hm':(us.toArray.size:Int)*k≤1000000:=by
    have e:(us.toArray.size:Int)*k=((us.toArray.size*k.toNat:Nat):Int):=by
     rw [Int.natCast_mul,Int.toNat_of_nonneg hk.1]
    rw [e];omega
   have hf:List.foldl (fun x1 x2=>x1++x2) #[] (List.replicate k.toNat us.toArray)=(Ev.rep k.toNat us).toArray:=by
    have:=rJ k.toNat us []
    simpa using this
   refine call_meets PySem.F.slot_tuple_mul ⟨_,ho,rfl⟩ PySem.F.entry_tuple_mul (PySem.F.args_tuple_mul_2 _ _) (xR p us.toArray n dd sl k u h1 h3 h4 (by omega) ?_ ?_) ⟨ho,?_⟩
   ·unfold Builtin.Tuple.tupleTooMany
    simp only [decide_eq_true_eq]
    have:(sizeLine:Int)=16777216:=by rw [sizeLine_eq];rfl
    omega
   ·rw [hf]
    simp only [List.size_toArray]
    rw [mW]
    exact jF (by omega) (by omega)
   ·rw [hf]
    exact laid _ rfl
theorem K5:dS X (binaryOp .Mult) (iR X.K (Ev.bT .mul)):=by
 intro pins s σ H x y v u Q I rx ry q
 obtain ⟨r,h,a,b,d,h',hr,v1,v2,e,q⟩:=q
 cases b with
 | int k=>
  have s2:=v2.shape
  simp only [gp] at s2
  subst s2
  cases a with
  | int i=>
   delta Ev.bT at e;dsimp only at e
   split at e
   ·rename_i hz
    cases e
    refine JK pins s σ H x _ v u Q I rx ry ⟨i,k,v1,rfl,?_,q.here rfl hr⟩
    unfold Ev.cB at hz
    simp only [Bool.or_eq_true,Bool.and_eq_true,decide_eq_true_eq] at hz
    exact hz
   ·cases e
  | str l=>
   delta Ev.bT at e;dsimp only at e
   split at e
   ·rename_i hz
    cases e
    simp only [RV] at v1
    obtain ⟨rfl,hl⟩:=v1
    obtain ⟨t,rfl⟩:=rx
    obtain ⟨t',rfl⟩:=ry
    exact Hy I hz (q.here ⟨rfl,by rw [mW];exact jF (by omega) hz.2.2⟩ hr)
   ·cases e
  | tup ds=>
   delta Ev.bT at e;dsimp only at e
   split at e
   ·rename_i hz
    cases e
    obtain ⟨p,vs,rfl,z,w⟩:=v1.shape
    cases rx
    obtain ⟨t',rfl⟩:=ry
    refine Hz I ⟨hz.1,hz.2.1,by rw [w.length];exact hz.2.2⟩ z (fun Xg=>q.here ⟨p,vs,rfl,z,?_⟩ hr) fun p' hp=>q.tup (w.rep k.toNat) hr hp
    have:=w.rep k.toNat
    rw [Xg] at this
    exact this
   ·cases e
  | ref i=>
   delta Ev.bT at e;dsimp only at e
   split at e
   ·rename_i ds e1
    split at e
    ·rename_i hz
     obtain ⟨p,rfl,z⟩:=v1.shape
     obtain ⟨p',g1,vs,g2,g3⟩:=hr.ob _ _ e1
     rw [z] at g1;cases g1
     obtain ⟨hz2,q2⟩:=q.lst e (g3.rep k.toNat) hr
     exact J4 pins s σ H (.ref p) _ v u Q I rx ry ⟨p,k,vs,rfl,rfl,g2,by omega,by omega,jF (by rw [g3.length];exact hz.2.2) (by omega),q2⟩
    ·cases e
   ·cases e
  | _=>cases e
 | _=>cases a <;> cases e
end
end Sm
set_option maxRecDepth 100000
namespace Sm
open PySem PySem.Spec PyProof.Rows L2 PySem.SeqAt
open Ev (D O Hh Fr R aU E Es Eo T S Ss Fl Src bV bQ TY BI ME)
section
variable {X:Cx}
theorem qs {K:PySem.W.Frag}{H:Hp}{r:List Addr}:∀ {ds:List D}{is:List Int}{vs:List V}{us:List Value},Ev.intsOf ds=some is→aI K H r ds vs→Vals vs us→IntsAre us is
 | [],bs,vs,us,e,w,p=>by
  cases e
  simp only [aI] at w;subst w;cases p;exact .nil
 | d :: ds,bs,vs,us,e,w,p=>by
  cases d with
  | int b=>
   simp only [Ev.intsOf,Option.map_eq_some_iff] at e
   obtain ⟨bs',e1,rfl⟩:=e
   simp only [aI,RV] at w
   obtain ⟨v,w',rfl,rfl,w2⟩:=w
   cases p with
   | cons p1 p2=>
    obtain ⟨t,rfl⟩:=p1
    exact .cons _ _ (qs e1 w2 p2)
  | _=>cases e
theorem vX {K:PySem.W.Frag}{H:Hp}{r:List Addr}:∀ {ds:List D}{ss:List (List Nat)}{vs:List V}{us:List Value},Ev.strsOf ds=some ss→aI K H r ds vs→Vals vs us→StrsAre us (ss.map bh)∧∀ l∈ss,l.length≤sizeLine
 | [],bs,vs,us,e,w,p=>by
  cases e
  simp only [aI] at w;subst w;cases p;exact ⟨.nil,fun l h=>nomatch h⟩
 | d :: ds,bs,vs,us,e,w,p=>by
  cases d with
  | str b=>
   simp only [Ev.strsOf,Option.map_eq_some_iff] at e
   obtain ⟨bs',e1,rfl⟩:=e
   simp only [aI,RV] at w
   obtain ⟨v,w',rfl,⟨rfl,hb⟩,w2⟩:=w
   cases p with
   | cons p1 p2=>
    obtain ⟨t,rfl⟩:=p1
    obtain ⟨g1,g2⟩:=vX e1 w2 p2
    refine ⟨.cons _ _ g1,fun l hl=>?_⟩
    rcases List.mem_cons.mp hl with z | z
    ·subst z;exact hb
    ·exact g2 l z
  | _=>cases e
variable {G:Tb}{n:Nat}{sc:Scope}{N:List Str}{df:Bool}
theorem K6 (g:Good G n sc N df X):gw X (.builtin "sum") (tF X.K (Ev.dz .sum)):=by
 intro pins s σ H xs us Q I r q
 obtain ⟨rr,h,as,d,h',hr,v1,e,q⟩:=q
 match as,e with
 | [.ref m],e=>
  obtain ⟨e,rfl⟩:=Ev.aO e
  simp only [Option.map_eq_some_iff,Option.bind_eq_some_iff] at e
  obtain ⟨is,⟨ds,e1,e2⟩,rfl⟩:=e
  simp only [aI,RV] at v1
  obtain ⟨v,w,rfl,⟨p,rfl,z⟩,rfl⟩:=v1
  obtain ⟨u,rfl,ru⟩:=vals1 r
  cases ru
  obtain ⟨p',vs,z',q1,w⟩:=hr.read e1
  rw [z] at z';cases z'
  obtain ⟨zs,pv,pl,_⟩:=I.list q1
  have hi:=qs e2 w pv
  obtain ⟨ys,hys⟩:=(hi.allInts).items
  have hl:s.heap.IsList p (intItems ys):=by rw [←hys];exact pl.isList
  refine sum_intListG (I.ok.hd g.calm) hl fun h'' tk t' hk=>?_
  have hsum:preSum (numAt ys) ys.size=is.sum:=by
   have h1:numsOf zs.toArray.toList=is:=by rw [show zs.toArray.toList=zs from rfl];exact hi.numsOf
   rw [hys,nums_intItems] at h1
   rw [preSum_eq,List.take_of_length_le (by simp),h1]
  rw [hsum]
  exact ⟨.int is.sum,H,I.kept hk,⟨_,rfl⟩,q.here rfl hr⟩
theorem K7:gw X (.builtin "len") (tF X.K (Ev.dz .len)):=by
 intro pins s σ H xs us Q I r q
 obtain ⟨rr,h,as,d,h',hr,v1,e,q⟩:=q
 match as,e with
 | [.str l],e=>
  delta Ev.dz at e;dsimp only at e
  split at e
  ·cases e
   simp only [aI,RV] at v1
   obtain ⟨v,w,rfl,⟨rfl,hl⟩,rfl⟩:=v1
   refine tB pins s σ H _ us Q I r ⟨_,rfl,by rw [cy];exact hl,?_⟩
   rw [cy]
   exact q.here rfl hr
  ·cases e
 | [.tup ds],e=>
  cases e
  simp only [aI,RV] at v1
  obtain ⟨v,w,rfl,⟨p,vs,rfl,z,w'⟩,rfl⟩:=v1
  refine lM pins s σ H _ us Q I r ⟨p,vs,rfl,.inr z,?_⟩
  rw [w'.length]
  exact q.here rfl hr
 | [.ref m],e=>
  obtain ⟨e,rfl⟩:=Ev.aO e
  simp only [Option.map_eq_some_iff] at e
  obtain ⟨ds,e1,rfl⟩:=e
  simp only [aI,RV] at v1
  obtain ⟨v,w,rfl,⟨p,rfl,z⟩,rfl⟩:=v1
  obtain ⟨p',vs,z',q1,w⟩:=hr.read e1
  rw [z] at z';cases z'
  refine lM pins s σ H _ us Q I r ⟨p,vs,rfl,.inl q1,?_⟩
  rw [w.length]
  exact q.here rfl hr
theorem K8 (g:Good G n sc N df X):gw X (.builtin "min") (tF X.K (Ev.dz .min)):=by
 intro pins s σ H xs us Q I r q
 obtain ⟨rr,h,as,d,h',hr,v1,e,q⟩:=q
 match as,e with
 | [.int i,.int j],e=>
  cases e
  simp only [aI,RV] at v1
  obtain ⟨v,w,rfl,rfl,v',w',rfl,rfl,rfl⟩:=v1
  exact zb g.calm pins s σ H _ us Q I r ⟨i,j,rfl,q.here rfl hr⟩
theorem zP:oH X "list.append" (ri X.K (Ev.eN .append)):=by
 intro pins s σ H x xs v us Q I rx rs q
 obtain ⟨r,h,a,as,d,h',hr,v1,v2,e,q⟩:=q
 cases a with
 | ref m=>
  match as,e with
  | [b],e=>
   delta Ev.eN at e;dsimp only at e
   split at e
   ·rename_i ds e1
    split at e
    ·rename_i hz
     cases e
     rw [iQ] at hz
     obtain ⟨p,rfl,z⟩:=v1.shape
     simp only [aI] at v2
     obtain ⟨y,w,rfl,v3,rfl⟩:=v2
     obtain ⟨p',g1,vs,g2,g3⟩:=hr.ob _ _ e1
     rw [z] at g1;cases g1
     refine qZ pins s σ H _ _ v us Q I rx rs ⟨p,vs,y,rfl,rfl,g2,by rw [g3.length];exact hz,?_⟩
     have f:=Fm.write (K:=X.K) (ws:=vs++[y]) g2 (List.mem_of_getElem? z)
     exact q _ _ r rfl (hr.write e1 z g2 (g3.append (.cons v3 .nil))) f
    ·cases e
   ·cases e
  | [],e=>cases e
  | _ :: _ :: _,e=>cases e
 | _=>cases e
theorem zQ:oH X "list.extend" (ri X.K (Ev.eN .extend)):=by
 intro pins s σ H x xs v us Q I rx rs q
 obtain ⟨r,h,a,as,d,h',hr,v1,v2,e,q⟩:=q
 cases a with
 | ref m=>
  match as,e with
  | [.ref k],e=>
   delta Ev.eN at e;dsimp only at e
   split at e
   ·rename_i ds es e1 e2
    split at e
    ·rename_i hz
     cases e
     rw [iQ] at hz
     obtain ⟨p,rfl,z⟩:=v1.shape
     simp only [aI,RV] at v2
     obtain ⟨y,w,rfl,⟨p2,rfl,z2⟩,rfl⟩:=v2
     obtain ⟨p',g1,vs,g2,g3⟩:=hr.ob _ _ e1
     rw [z] at g1;cases g1
     obtain ⟨p'',k1,ws,k2,k3⟩:=hr.ob _ _ e2
     rw [z2] at k1;cases k1
     refine zj pins s σ H _ _ v us Q I rx rs ⟨p,p2,vs,ws,rfl,rfl,g2,k2,by rw [g3.length,k3.length];exact hz,?_⟩
     have f:=Fm.write (K:=X.K) (ws:=vs++ws) g2 (List.mem_of_getElem? z)
     exact q _ _ r rfl (hr.write e1 z g2 (g3.append k3)) f
    ·cases e
   ·cases e
 | _=>cases e
theorem K9:oH X "list.pop" (ri X.K (Ev.eN .pop)):=by
 intro pins s σ H x xs v us Q I rx rs q
 obtain ⟨r,h,a,as,d,h',hr,v1,v2,e,q⟩:=q
 cases a with
 | ref m=>
  match as,e with
  | [],e=>
   delta Ev.eN at e;dsimp only at e
   split at e
   ·rename_i ds e1
    split at e
    ·rename_i y e2
     cases e
     obtain ⟨p,rfl,z⟩:=v1.shape
     simp only [aI] at v2
     subst v2
     obtain ⟨p',g1,vs,g2,g3⟩:=hr.ob _ _ e1
     rw [z] at g1;cases g1
     obtain ⟨vy,g4,g5⟩:=g3.get e2
     refine J2 pins s σ H _ _ v us Q I rx rs ⟨p,vs,vy,rfl,rfl,g2,by rw [g3.length];exact g4,?_⟩
     have f:=Fm.write (K:=X.K) (ws:=vs.dropLast) g2 (List.mem_of_getElem? z)
     have hd:aI X.K H r ds.dropLast vs.dropLast:=by
      rw [List.dropLast_eq_take,List.dropLast_eq_take,g3.length]
      exact g3.take _
     exact q _ _ r (g5.mono f) (hr.write e1 z g2 hd) f
    ·cases e
   ·cases e
  | _ :: _,e=>cases e
 | _=>cases e
theorem nU (sep:List Nat):∀ ss:List (List Nat),Str.join (bh sep) (ss.map bh)=bh (Ev.cT sep ss)
 | []=>rfl
 | [s]=>rfl
 | s :: t :: r=>by
  have ih:=nU sep (t :: r)
  show bh s++bh sep++Str.join (bh sep) ((t :: r).map bh)=_
  rw [ih,qq,qq]
  rfl
theorem join_eq (sep:List Nat) (ss:List (List Nat)):Txt.join (bh sep) (ss.map bh)=bh (Ev.cT sep ss):=by
 rw [←nU]
 exact PySem.StrLaws.glued_eq_join _ _
theorem HA:oH X "str.join" (ri X.K (Ev.eN .join)):=by
 intro pins s σ H x xs v us Q I rx rs q
 obtain ⟨r,h,a,as,d,h',hr,v1,v2,e,q⟩:=q
 cases a with
 | str sep=>
  match as,e with
  | [.ref k],e=>
   delta Ev.eN at e;dsimp only at e
   split at e
   ·rename_i ss e1
    split at e
    ·rename_i hz
     cases e
     simp only [Option.bind_eq_some_iff] at e1
     obtain ⟨ds,e1,e2⟩:=e1
     simp only [RV] at v1
     obtain ⟨rfl,hl⟩:=v1
     obtain ⟨t,rfl⟩:=rx
     simp only [aI,RV] at v2
     obtain ⟨y,w,rfl,⟨p2,rfl,z2⟩,rfl⟩:=v2
     obtain ⟨u,rfl,ru⟩:=vals1 rs
     cases ru
     obtain ⟨p',vs,z',q1,w⟩:=hr.read e1
     rw [z2] at z';cases z'
     obtain ⟨zs,pv,pl,_⟩:=I.list q1
     obtain ⟨g1,g2⟩:=vX e2 w pv
     have hlen:((ss.map bh).map (·.length)).sum+(ss.map bh).length*(bh sep).length≤16777216:=by
      rw [List.map_map,List.length_map,cy]
      have:(fun x:Str=>x.length) ∘ bh=fun l:List Nat=>l.length:=funext fun l=>cy l
      rw [this]
      exact hz
     refine join_list pl.isList g1 hlen fun t' k'=>?_
     rw [join_eq]
     refine ⟨.str _,H,I.tok _,⟨_,rfl⟩,q.here ⟨rfl,?_⟩ hr⟩
     have hj:=PySem.StrLaws.join_length_le (bh sep) (ss.map bh)
     rw [nU,cy] at hj
     have:sizeLine=16777216:=sizeLine_eq
     omega
    ·cases e
   ·cases e
 | _=>cases e
end
end Sm
set_option maxRecDepth 100000
namespace Sm
open PySem PySem.Spec PyProof.Rows L2 PySem.SeqAt
open Ev (D O Hh Fr R aU E Es Eo T S Ss Fl Src bV bQ TY BI ME)
section
variable {X:Cx}{G:Tb}{n:Nat}{sc:Scope}{N:List Str}{df:Bool}{m:List Nat}{a b c:E}{xa xb xc tg:Expr}{pos:Pos}
theorem xS {lo:Int}{acc:Array Value}{k:Nat}(h:ItemsOf (fun i v=>∃ t,v=Value.int (lo+i*1) t) acc k):Vals ((List.range k).map fun i=>V.int (lo+(i:Nat))) acc.toList:=by
 obtain ⟨h1,h2⟩:=h
 subst h1
 have go:∀ (l:List Value) (b:Nat),(∀ j v,l[j]?=some v→∃ t,v=Value.int (lo+((b+j:Nat):Int)) t)→Vals ((List.range' b l.length).map fun i=>V.int (lo+(i:Nat))) l:=by
  intro l
  induction l with
  | nil=>intro b _;exact .nil
  | cons v l ih=>
   intro b hv
   rw [List.length_cons,List.range'_succ]
   refine .cons (by obtain ⟨t,e⟩:=hv 0 v (by simp);subst e;exact ⟨t,by simp⟩) (ih (b+1) fun j w hw=>?_)
   have:=hv (j+1) w (by simpa using hw)
   rw [show b+1+j=b+(j+1) by omega]
   exact this
 have:=go acc.toList 0 fun j v hv=>by
  obtain ⟨t,e⟩:=h2 j v (by simpa using hv)
  exact ⟨t,by simpa using e⟩
 rw [List.range_eq_range']
 simpa using this
theorem aI.ofRange {K:PySem.W.Frag}{H:Hp}{r:List Addr}(lo:Int) (k:Nat):aI K H r (Ev.range lo k) ((List.range k).map fun i=>V.int (lo+(i:Nat))):=by
 unfold Ev.range
 generalize List.range k=l
 induction l with
 | nil=>exact .nil
 | cons i l ih=>exact .cons rfl ih
end
end Sm
set_option maxRecDepth 100000
namespace Sm
open PySem PySem.Spec PyProof.Rows L2 PySem.SeqAt
open Ev (D O Hh Fr R aU E Es Eo T S Ss Fl Src bV bQ TY BI ME)
section
variable {X:Cx}{G:Tb}{n:Nat}{sc:Scope}{N:List Str}{df:Bool}{m:List Nat}{a b c:E}{xa xb xc tg:Expr}{pos:Pos}
theorem zR (n:Nat):Builtin.Slice.sliceAdjust none none (-1) (n:Int)=((n:Int) - 1,-1):=by
 unfold Builtin.Slice.sliceAdjust
 simp
theorem zS (n:Nat):Builtin.Slice.slicePlaces ((n:Int) - 1) (-1) (-1)=n:=by
 unfold Builtin.Slice.slicePlaces
 have h1:¬ ((-1:Int) > 0):=by omega
 simp only [h1,if_false]
 have h2:(- -1:Int)=1:=by omega
 rw [h2]
 simp only [Int.ediv_one]
 split <;> omega
theorem oR {prog:Program}{w:World}{A:Around}{E:Value→Shared→Prop}{s:Shared}{sl:Addr}{vk:Value}{n:Nat}{Q:Int×Int×Nat→Shared→Prop}(hs:s.heap.IsSliceOf sl .none .none vk) (pk:IsPart vk (some (-1)))
  (h:Q ((n:Int) - 1,-1,n) s):wpAny (model prog w) A (Builtin.Slice.sliceApplied (.ref sl) (pure (n:Int))) Q E s:=by
 obtain ⟨os,hos,hcs,hds⟩:=id hs
 unfold Builtin.Slice.sliceApplied Builtin.Slice.sliceFields
 refine wpAny_bind (wpAny_bind (wpAny_field hos hds (x:=.none) rfl (wpAny_bind (wpAny_field hos hds (x:=.none) rfl (wpAny_bind (wpAny_field hos hds (x:=vk) rfl (wpAny_pure ?_)))))))
 refine wpAny_bind (HT.gX pk ?_)
 show wpAny _ _ (if ((-1:Int)==0)=true then _ else _) _ _ s
 rw [if_neg (by decide)]
 refine wpAny_bind (HT.gX .none (wpAny_bind (HT.gX .none (wpAny_bind (wpAny_pure ?_)))))
 show wpAny _ _ (match Builtin.Slice.sliceAdjust none none (-1) (n:Int) with | (lo,hi)=>pure (lo,(-1:Int),Builtin.Slice.slicePlaces lo hi (-1))) _ _ s
 rw [zR n]
 show wpAny _ _ (pure ((n:Int) - 1,(-1:Int),Builtin.Slice.slicePlaces ((n:Int) - 1) (-1) (-1))) _ _ s
 rw [zS]
 exact wpAny_pure h
theorem HB (xs:Array Value):((List.range xs.size).filterMap fun (m:Nat)=>xs[((xs.size:Int) - 1+(m:Int)*(-1)).toNat]?).toArray=xs.toList.reverse.toArray:=by
 have e:(List.range xs.size).filterMap (fun (m:Nat)=>xs[((xs.size:Int) - 1+(m:Int)*(-1)).toNat]?)=((List.range xs.size).map (fun k=>xs.size - 1 - k)).filterMap (xs[·]?):=by
  rw [List.filterMap_map]
  have go:∀ l:List Nat,(∀ k∈l,k<xs.size)→l.filterMap (fun (m:Nat)=>xs[((xs.size:Int) - 1+(m:Int)*(-1)).toNat]?)=l.filterMap ((xs[·]?) ∘ fun k=>xs.size - 1 - k):=by
   intro l hl
   induction l with
   | nil=>rfl
   | cons k l ih=>
    have hk:=hl k (by simp)
    have e2:((xs.size:Int) - 1+(k:Int)*(-1)).toNat=xs.size - 1 - k:=by omega
    rw [List.filterMap_cons,List.filterMap_cons,e2,ih fun k' h'=>hl k' (by simp [h'])]
    rfl
  exact go _ fun k hk=>List.mem_range.mp hk
 rw [e,PySem.W.krv_range,List.filterMap_reverse,PySem.W.krv_all]
theorem xT {prog:Program}{w:World}{A:Around}{E:Value→Shared→Prop}{s:Shared}{t sl:Addr}{items:Array Value}{vk:Value}{Q:Value→Shared→Prop}(ht:IsTup s.heap t items) (hs:s.heap.IsSliceOf sl .none .none vk) (pk:IsPart vk (some (-1)))
  (h:Q (.ref s.heap.objs.size) { s with heap:=s.heap.push { cls:=.type "tuple",data:=.seq items.toList.reverse.toArray }})
  (hsz:items.size≤sizeLine):wpAny (model prog w) A (getItem (.ref t) (.ref sl)) Q E s:=by
 have jd:sizeOk (.seq items.toList.reverse.toArray):=by
  show items.toList.reverse.toArray.size≤sizeLine
  rw [List.size_toArray,List.length_reverse,Array.length_toList]
  exact hsz
 obtain ⟨os,hos,hcs,hds⟩:=id hs
 have zf:s.TypeIs (.ref sl) "slice" :=⟨os,hos,hcs⟩
 unfold getItem
 try with_reducible refine wpAny_holding ?_
 first | refine wpAny_bind (wpAny_pure ?_) | skip
 refine wpAny_bind (wpAny_sequenceKey ht.typeIs (by decide) ?_)
 refine wpAny_bind (wpAny_callSpecial?_slot (name:=Str.ofString "__getitem__") ht.typeIs PyProof.Rows.slot_tuple_getitem
  (wpAny_call_entry PyProof.Rows.slot_tuple_getitem ht.typeIs entry_tuple_getitem ?_ (args_tuple_getitem _ _)))
 show wpAny _ _ (Builtin.Tuple.tupleItemsOf (.ref t) >>= _) _ _ s
 refine wpAny_bind (tupleItemsOf_ ht ?_)
 refine wpAny_bind (wpAny_typeOf zf ?_)
 rw [if_pos (by decide)]
 refine wpAny_bind (oR hs pk ?_)
 have hno:¬ (((items.size:Int) - 1==0&&(-1:Int)==1&&items.size==items.size)=true):=by simp
 show wpAny _ _ (if ((items.size:Int) - 1==0&&(-1:Int)==1&&items.size==items.size)=true then _ else _) _ _ s
 rw [if_neg hno,HB]
 first
  | exact wpAny_bind (m:=Builtin.Tuple.tupleExact _) (wpAny_newObj_type (wpAny_pure ⟨_,rfl,wpAny_pure h⟩) jd)
  | exact wpAny_bind (m:=Builtin.Tuple.tupleExact _) (wpAny_newObj_type (wpAny_bind (wpAny_pure (wpAny_pure ⟨_,rfl,wpAny_pure h⟩))) jd)
  | exact wpAny_bind (wpAny_bind (m:=Builtin.Tuple.tupleExact _) (wpAny_newObj_type (wpAny_pure (wpAny_pure ⟨_,rfl,wpAny_pure h⟩)) jd))
  | exact wpAny_bind (wpAny_bind (m:=Builtin.Tuple.tupleExact _) (wpAny_newObj_type (wpAny_pure ⟨_,rfl,wpAny_pure h⟩) jd))
theorem Vals.reverse {vs:List V}{us:List Value}(w:Vals vs us):Vals vs.reverse us.reverse:=by
 induction w with
 | nil=>exact .nil
 | cons a _ ih=>rw [List.reverse_cons,List.reverse_cons];exact ih.append (.cons a .nil)
theorem P1 {p1 p2 p3:Pos}{j}(ha:JE G n sc N df m a xa):JE G n sc N df m (.rv a) (.Subscript xa (.Slice none none (some (.UnaryOp .USub (.Constant (.int 1) j p1) p2)) p3) pos):=fun X g=>by
 intro pins s σ H Q I q
 obtain ⟨r,fr,h,d,h',sr,hr,e,q⟩:=q
 simp only [Ev.ev] at e
 obtain ⟨x,h1,e1,e⟩:=Ev.ai e
 refine Subscript_ (bM (ha X g pins s σ H _ I ⟨r,fr,h,x,h1,sr,hr,e1,fun v H1 r1 v1 hr1 f1=>(show (fun (v:V) (H1:Hp)=>∃ r1,RV X.K H1 r1 x v∧HR X.K H1 r1 h1∧Fm X.K r r1 H H1) v H1 from ⟨r1,v1,hr1,f1⟩)⟩) fun v s1 ⟨x1,H1,I1,rx,r1,v1,hr1,f1⟩=>?_)
 refine wpAny_Slice ?_
 rw [evalPart_none]
 refine wpAny_pure (wpAny_pure ?_)
 have hm1:PE X (.UnaryOp .USub (.Constant (.int 1) j p1) p2) (tJ X.K m (Ev.run G.F G.w n) (.neg (.c (.int 1)))):=zu zp X g
 refine bM (vE hm1 pins s1 σ H1 (fun o H2=>o=some (-1)∧∃ r2,RV X.K H2 r2 x x1∧HR X.K H2 r2 h1∧Fm X.K r r2 H H2) I1 ⟨r1,fr,h1,.int (-1),h1,sr.mono f1,hr1,by simp [Ev.ev],fun v' H2 r2 v2 hr2 f2=>⟨-1,v2,rfl,r2,v1.mono f2,hr2,f1.trans f2⟩⟩) fun vk s2 ⟨o,H2,I2,pk,q2⟩=>?_
 obtain ⟨rfl,r2,v2,hr2,f2⟩:=q2
 have I4:Inv X pins σ H2 { s2 with heap:=s2.heap.push { cls:=.type "slice",data:=.fields #[.none,.none,vk]}}:=I2.kept (t':=s2.toks) fun b ob q=>Heap.get?_push_of_some _ q
 have hS:({ s2 with heap:=s2.heap.push { cls:=.type "slice",data:=.fields #[.none,.none,vk]}}:Shared).heap.IsSliceOf s2.heap.objs.size .none .none vk:=Heap.IsSliceOf.new s2.heap .none .none vk
 have key:∃ T id,typeLookup (.type T) "__getitem__" = pure (some (.builtin id))∧({ s2 with heap:=s2.heap.push { cls:=.type "slice",data:=.fields #[.none,.none,vk]}}:Shared).TypeIs v T∧wpAny (model X.prog X.w) X.A (getItem v (.ref s2.heap.objs.size)) (EP X pins σ Q) X.xe { s2 with heap:=s2.heap.push { cls:=.type "slice",data:=.fields #[.none,.none,vk]}}:=by
  revert I4 hS
  generalize ({ s2 with heap:=s2.heap.push { cls:=.type "slice",data:=.fields #[.none,.none,vk]}}:Shared)=s3
  intro I4 hS
  cases x with
  | tup ds=>
   cases e
   obtain ⟨p,vs,rfl,z,w⟩:=v2.shape
   cases rx
   obtain ⟨us,pv,pt,hz⟩:=I4.tuple z
   refine ⟨"tuple",_,PyProof.Rows.slot_tuple_getitem.lookup,pt.typeIs,?_⟩
   refine xT pt hS pk ?_ (by rw [List.size_toArray,←pv.length];exact hz)
   refine ⟨.ref s3.heap.objs.size,_,I4.laid (t':=s3.toks) (o:=.tup vs.reverse) (fun b ob q=>Heap.get?_push_of_some _ q) (Nat.le_refl _) ?_,rfl,(q.later f2).tup w.reverse hr2 (I4.hok.fresh (Nat.le_refl _))⟩
   exact ⟨by simpa using hz,_,Vals.reverse pv,⟨_,Heap.get?_push_size _ rfl,rfl,0,rfl⟩⟩
  | ref i=>
   simp only [Ev.lD] at e
   split at e
   ·rename_i ds e2
    obtain ⟨p,rfl,z⟩:=v2.shape
    obtain ⟨p',vs,z',q1,w⟩:=hr2.read e2
    rw [z] at z';cases z'
    cases rx
    obtain ⟨us,pv,pt,hz⟩:=I4.list q1
    obtain ⟨hz2,q2⟩:=(q.later f2).lst e w.reverse hr2
    refine ⟨"list",_,slot_list_getitem.lookup,pt.isList.typeIs,?_⟩
    refine wpAny_getItem_list_slice pt.isList hS .none .none pk (by simp) ?_ (by rw [List.size_toArray,←pv.length];exact hz)
    rw [PySem.W.krv_pick]
    refine ⟨.ref s3.heap.objs.size,_,I4.laid (t':=s3.toks) (o:=.lst vs.reverse) (fun b ob q=>Heap.get?_push_of_some _ q) (Nat.le_refl _) ?_,rfl,q2 _ (I4.hok.fresh (Nat.le_refl _))⟩
    exact ⟨by simpa using hz,_,0,Vals.reverse pv,Heap.get?_push_size _ rfl⟩
   ·cases e
  | _=>cases e
 obtain ⟨T,id,hT,ht,hg⟩:=key
 exact tail_any (ops:=[v,.ref s2.heap.objs.size]) ht hT hg (by with_unfolding_all rfl)
end
end Sm
set_option maxRecDepth 100000
namespace Sm
open PySem PySem.Spec PyProof.Rows L2 PySem.SeqAt
open Ev (D O Hh Fr R aU E Es Eo T S Ss Fl Src bV bQ TY BI ME)
section
variable {G:Tb}{n:Nat}{sc:Scope}{N:List Str}{df:Bool}{m:List Nat}{a b c:E}{xa xb xc tg:Expr}{pos:Pos}
theorem Ca (g:Good G n sc N df X):gw X (.type "tuple") (fun xs H Q=>∃ r h d x d' h',HR X.K H r h∧RV X.K H r d x∧xs=[x]∧Ev.qi d h=.ok d' h'∧Res X.K r H h' d' Q):=by
 intro pins s σ H xs us Q I rv q
 obtain ⟨r,h,d,x,d',h',hr,v1,rfl,e,q⟩:=q
 cases d with
 | tup ds=>
  cases e
  have v2:=v1
  obtain ⟨p,vs,rfl,z,w⟩:=v1.shape
  exact lu pins s σ H _ us Q I rv ⟨p,vs,rfl,.inr ⟨z,q.here v2 hr⟩⟩
 | ref i=>
  simp only [Ev.qi] at e
  split at e
  ·rename_i ds e1
   split at e
   ·cases e
    obtain ⟨p,rfl,z⟩:=v1.shape
    obtain ⟨p',vs,z',q1,w⟩:=hr.read e1
    rw [z] at z';cases z'
    exact lu pins s σ H _ us Q I rv ⟨p,vs,rfl,.inl ⟨q1,fun l hl=>q.tup w hr hl⟩⟩
   ·cases e
  ·cases e
 | _=>cases e
theorem La {p:Pos}(ha:JE G n sc N df m a xa) (h1:("tuple" : Str)∈G.bl:=by decide +kernel) (tT:sc.names.lookup ("tuple" : Str)=some .globalImplicit:=by rfl)
  (hst:∀ env:Env,starEach [xa] env=[(false,eval xa env)]:=by intro _;rfl):JE G n sc N df m (.iZ a) (.Call (.Name "tuple" p) [xa] [] pos):=fun X g=>by
 refine PE.of (ze (Ca g) (g.gl tT) (g.bl _ h1) (by decide +kernel) (mT (ha X g) oG (hst _)) (by decide) (by decide) (hst _) rfl) fun s H Q q=>?_
 obtain ⟨r,fr,h,d,h',sr,hr,e,q⟩:=q
 simp only [Ev.ev] at e
 obtain ⟨x,h3,e1,e⟩:=Ev.ai e
 refine ⟨r,fr,h,x,_,sr,hr,e1,fun v H1 r1 v1 hr1 f1=>?_⟩
 exact ⟨r1,h3,x,v,d,h',hr1,v1,rfl,e,q.later f1⟩
theorem Lb {st:Stmt}:JS G n sc N df m .fJ st:=fun X g=>PS.of Bq fun Q s H q=>by
 obtain ⟨r,fr,h,fl,ak,h',sr,hr,e,q⟩:=q
 simp only [Ev.ex] at e
 cases e
theorem Cb {X:Cx}(g:Good G n sc N df X) {pins:List (Addr×Obj)}{σ:L2.St}{H:Hp}{s:Shared}{Q:VK}{lo hi:Int}{t u v:Tok}{tk:Nat}(I:Inv X pins σ H s) (h1:-(2 ^ 62)≤lo) (h2:lo<2 ^ 62) (h3:-(2 ^ 62)≤hi) (h4:hi<2 ^ 62)
  (hl:(hi - lo).toNat≤sizeLine) (q:∀ l,H l=none→Q (.ref l) (upd H l (.lst ((List.range (hi - lo).toNat).map fun i=>V.int (lo+(i:Nat)))))) :
  wpAny (model X.prog X.w) X.A (call (.type "list") [.ref s.heap.objs.size]) (EP X pins σ Q) X.xe { s with heap:=s.heap.push { cls:=.type "range",data:=.fields #[.int lo t,.int hi u,.int 1 v]},toks:=tk }:=by
 have I1:Inv X pins σ H { s with heap:=s.heap.push { cls:=.type "range",data:=.fields #[.int lo t,.int hi u,.int 1 v]},toks:=tk }:=I.kept fun b o e=>Heap.get?_push_of_some _ e
 have e2:Builtin.Range.rangeSize lo hi 1=(((hi - lo).toNat:Nat):Int):=by rw [rangeSize_one];split <;> omega
 refine call_list_range (n:=(hi - lo).toNat) (I.ok.hd g.calm) (IsRange.new ..) (small_one h1 h2 h3 h4) e2 (by rw [sizeLine_eq] at hl;exact hl) fun h' tk' acc' c' hk hS' hacc=>?_
 refine ⟨.ref _,_,I1.laid (t':=tk') (o:=.lst ((List.range (hi - lo).toNat).map fun i=>V.int (lo+(i:Nat)))) hk (Nat.le_refl _) ?_,rfl,q _ (I1.hok.fresh (Nat.le_refl _))⟩
 exact ⟨by simpa using hl,acc'.toList,c',xS hacc,by simpa using hS'⟩
theorem Cc {e1:E}{p p2 pos2:Pos}(hs:JA G n sc N df m (.cons e1 .nil) [xa]) (h1:("list" : Str)∈G.bl:=by decide +kernel) (tT:sc.names.lookup ("list" : Str)=some .globalImplicit:=by rfl)
  (hg:sc.names.lookup ("range" : Str)=some .globalImplicit:=by rfl) (hb:("range" : Str)∈G.bl:=by decide +kernel)
  (hst:∀ env:Env,starEach [xa] env=[(false,eval xa env)]:=by intro _;rfl)
  (lT:∀ env:Env,starEach [Expr.Call (.Name "range" p2) [xa] [] pos2] env=[(false,eval (Expr.Call (.Name "range" p2) [xa] [] pos2) env)]:=by intro _;rfl) :
  JE G n sc N df m (.gn (.gm (.cons e1 .nil))) (.Call (.Name "list" p) [.Call (.Name "range" p2) [xa] [] pos2] [] pos):=fun X g=>by
 intro pins s σ H Q I q
 obtain ⟨r,fr,h,d,h',sr,hr,e,q⟩:=q
 simp only [Ev.ev,Ev.dc] at e
 replace e:=Ev.ai e;obtain ⟨src,h3,e1,e⟩:=e
 replace e1:=Ev.ai e1;obtain ⟨ds,h4,e2,e1⟩:=e1
 replace e1:=Ev.aO e1;obtain ⟨e1,y0⟩:=e1;subst y0
 refine wpAny_Call_Name_kw (gU I (g.gl tT) (g.bl _ h1) (show bootBuiltins ("list" : Str)=some (.type "list") by decide +kernel) ?_ (by decide) (by decide))
 refine PyProof.Rows.callWith_type1 ?_ (lT _) rfl
 rw [lT]
 show wpAny _ _ (spliced ((false,eval (Expr.Call (.Name "range" p2) [xa] [] pos2) X.env) :: backTo pos [])) _ _ s
 refine Calls.spliced_cons ?_
 refine Call_ (gU I (g.gl hg) (g.bl _ hb) boot_range (PyProof.Rows.callWith_type1 (bM ((hs X g) pos2 pins s σ H (fun vs H1=>∃ r1,aI X.K H1 r1 ds vs∧HR X.K H1 r1 h3∧Fm X.K r r1 H H1) I ⟨r,fr,h,ds,h3,sr,hr,e2,fun vs H1 r1 v1 hr1 f1=>⟨r1,v1,hr1,f1⟩⟩) fun us s1 z=>?_) (hst _) rfl))
 obtain ⟨vs,H1,I1,rv,r1,v1,hr1,f1⟩:=z
 unfold Ev.eU at e1
 split at e1
 ·rename_i j
  split at e1
  ·rename_i hj
   cases e1
   simp only [aI,RV] at v1
   obtain ⟨v,w,rfl,rfl,rfl⟩:=v1
   cases rv with
   | cons ra rb=>
   cases rb
   obtain ⟨t,rfl⟩:=ra
   refine call_range_1 ?_
   refine Calls.spliced_nil ?_
   have hz:(j - 0).toNat≤sizeLine:=by
    unfold Ev.alloc at e
    split at e
    ·rename_i z;rw [←iQ];simpa [Ev.range] using z
    ·cases e
   refine Cb g I1 (by decide) (by decide) hj.1 hj.2 hz fun l hl=>?_
   have:=((q.later f1).lst e (aI.ofRange 0 j.toNat) hr1).2 l hl
   simpa using this
  ·cases e1
 ·exfalso
  simp only [Ev.b7] at e2
  obtain ⟨d,_,_,e2⟩:=Ev.ai e2
  simp only [Ev.ao] at e2
  cases e2
 ·cases e1
end
end Sm
set_option maxRecDepth 100000
namespace Sm
open PySem PySem.Spec PyProof.Rows L2 PySem.SeqAt
open Ev (D O Hh Fr R aU E Es Eo T S Ss Fl Src bV bQ TY BI ME)
section
variable {G:Tb}{n:Nat}{sc:Scope}{N:List Str}{df:Bool}{m:List Nat}{a b c:E}{xa xb xc:Expr}{pos:Pos}
end
end Sm
set_option maxRecDepth 100000
namespace Sm
open PySem PySem.Spec PyProof.Rows L2 PySem.SeqAt
open Ev (D O Hh Fr R aU E Es Eo T S Ss Fl Src bV bQ TY BI ME)
section
variable {G:Tb}{n:Nat}{sc:Scope}{N:List Str}{df:Bool}{m:List Nat}{a b c:E}{xa xb xc:Expr}{pos:Pos}
end
end Sm
set_option maxRecDepth 100000
namespace Sm
open PySem PySem.Spec PyProof.Rows L2 PySem.SeqAt
open Ev (D O Hh Fr R aU E Es Eo T S Ss Fl Src bV bQ TY BI ME)
section
variable {X:Cx}{G:Tb}{n:Nat}{sc:Scope}{N:List Str}{df:Bool}{m:List Nat}{a b c:E}{xa xb xc xd tg:Expr}{pos:Pos}
end
end Sm
set_option maxRecDepth 100000
namespace Rv
open PySem PyProof.Rows
theorem lU:Manifest.owners.lookup (String.ofList ['d','e','s','r','e','v','e','r'].reverse)=some Manifest.sig_reversed:=by kernel_rfl
theorem slot_next:Slot "reversed" "__next__" "reversed.__next__" :=
 .of (owner:="reversed") (n:="__next__") (by rw [typeLookup_type,builtinLookup_eq_fast];kernel_rfl) (by decide +kernel) (by decide +kernel) (by decide +kernel)
  (by first | exact .inl (by decide +kernel) | exact .inr (by decide +kernel)) (by rw [isSubtype_type];kernel_rfl)
theorem entry_next:entryFor table "reversed.__next__" = some Builtin.«reversed.__next__»:=entryFor_of_tree (by kernel_rfl)
theorem args_next (a:Value):argsOk "reversed.__next__" ⟨[a],[]⟩:=by
 unfold argsOk;rw [signature?_of (id:="reversed.__next__") (n:=['_','_','t','x','e','n','_','_']) (o:=['d','e','s','r','e','v','e','r']) (by kernel_rfl) lU];kernel_rfl
theorem rK:Slot "reversed" "__iter__" "reversed.__iter__" :=
 .of (owner:="reversed") (n:="__iter__") (by rw [typeLookup_type,builtinLookup_eq_fast];kernel_rfl) (by decide +kernel) (by decide +kernel) (by decide +kernel)
  (by first | exact .inl (by decide +kernel) | exact .inr (by decide +kernel)) (by rw [isSubtype_type];kernel_rfl)
theorem zT (a:Value):argsOk "reversed.__iter__" ⟨[a],[]⟩:=by
 unfold argsOk;rw [signature?_of (id:="reversed.__iter__") (n:=['_','_','r','e','t','i','_','_']) (o:=['d','e','s','r','e','v','e','r']) (by kernel_rfl) lU];kernel_rfl
theorem xU:entryFor table "reversed.__iter__" = some Builtin.«dict_keyiterator.__iter__»:=
 entryFor_alias (id':="dict_keyiterator.__iter__") (by kernel_rfl) (by first | rfl | decide +kernel | (unfold String.splitOn;simp +decide [String.splitOnAux])) (by decide +kernel) (by kernel_rfl)
theorem lV:Slot "reversed" "__length_hint__" "reversed.__length_hint__" :=
 .of (owner:="reversed") (n:="__length_hint__") (by rw [typeLookup_type,builtinLookup_eq_fast];kernel_rfl) (by decide +kernel) (by decide +kernel) (by decide +kernel)
  (by first | exact .inl (by decide +kernel) | exact .inr (by decide +kernel)) (by rw [isSubtype_type];kernel_rfl)
theorem xV:entryFor table "reversed.__length_hint__" = some Builtin.«reversed.__length_hint__»:=entryFor_of_tree (by kernel_rfl)
theorem zU (a:Value):argsOk "reversed.__length_hint__" ⟨[a],[]⟩:=by
 unfold argsOk;rw [signature?_of (id:="reversed.__length_hint__") (n:=['_','_','t','n','i','h','_','h','t','g','n','e','l','_','_']) (o:=['d','e','s','r','e','v','e','r']) (by kernel_rfl) lU];kernel_rfl
theorem Lc:typeLookup (.type "reversed") "__len__" = pure none:=by rw [typeLookup_type,builtinLookup_eq_fast];kernel_rfl
theorem Ld:typeLookup (.type "tuple") "__reversed__" = pure none:=by rw [typeLookup_type,builtinLookup_eq_fast];kernel_rfl
section
variable {prog:Program}{w:World}{A:Around}{E:Value→Shared→Prop}{s:Shared}
theorem zV:Slot "reversed" "__init__" "object.__init__" :=
 .of (owner:="object") (n:="__init__") (by rw [typeLookup_type,builtinLookup_eq_fast];kernel_rfl) (by decide +kernel) (by decide +kernel) (by decide +kernel)
  (by first | exact .inl (by decide +kernel) | exact .inr (by decide +kernel)) (by rw [isSubtype_type];kernel_rfl)
theorem called:TypeCalled "reversed" "reversed.__new__" "object.__init__" :=
 ⟨by decide +kernel,by decide +kernel,⟨_,_,F.mro_reversed⟩,F.made_reversed,by decide +kernel,F.sub_reversed_self,zV⟩
noncomputable def gj (h:Heap) (a t:Addr) (i:Int):Prop:=∃ o,h.get? a=some o∧o.cls=.type "reversed" ∧o.data=.fields #[.ref t,rawInt i]
theorem gj.typeIs {a l:Addr}{i:Int}(x:gj s.heap a l i):s.TypeIs (.ref a) "reversed" :=let ⟨o,ho,hc,_⟩:=x;⟨o,ho,hc⟩
theorem gj.at {h h':Heap}{a l:Addr}{i:Int}(x:gj h a l i) (e:∀ o,h.get? a=some o→h'.get? a=some o):gj h' a l i:=let ⟨o,ho,r⟩:=x;⟨o,e _ ho,r⟩
noncomputable def mX (l:Addr) (i:Int):Obj:={ cls:=.type "reversed",data:=.fields #[.ref l,rawInt i]}
theorem mY {h h':Heap}{t:Addr}{items:Array Value}(x:IsTup h t items) (e:∀ o,h.get? t=some o→h'.get? t=some o):IsTup h' t items:=let ⟨o,ho,r⟩:=x;⟨o,e _ ho,r⟩
theorem Cd {t:Addr}{items:Array Value}{Q₁:Value→Shared→Prop}(ht:IsTup s.heap t items) (hfit:(items.size:Int)<2 ^ 63)
  (h:Q₁ (.ref s.heap.objs.size) { s with heap:=s.heap.push (mX t ((items.size:Int) - 1)),toks:=s.toks+1+1 }) :
  codeAny (model prog w) A (.call (.builtin "reversed.__new__") ⟨[.type "reversed",.ref t],[]⟩) (wants Q₁ E) s:=by
 refine codeAny_of_tree ?_
 show wpAny _ A.in1 (do checkBuiltinCall "reversed.__new__" ⟨[.type "reversed",.ref t],[]⟩;again (.builtin "reversed.__new__" ⟨[.type "reversed",.ref t],[]⟩)) _ _ s
 refine wpAny_bind (wpAny_of_eq (F.newCall_reversed_1 _) (wpAny_pure ⟨plainId_quiet F.plain_reversed_new _,codeAny_builtin F.entry_reversed_new ?_⟩))
 rw [Around.under_plainId F.plain_reversed_new _]
 unfold Builtin.«reversed.__new__»
 refine wpAny_bind (wpAny_of_eq (newClass_reversed _) ?_)
 try dsimp only
 refine wpAny_bind (wpAny_of_eq (a:=()) (by first | rfl | kernel_rfl) ?_)
 refine wpAny_bind (wpAny_of_eq (a:=()) (by first | rfl | kernel_rfl) ?_)
 try dsimp only
 refine wpAny_bind (wpAny_specialOf ht.typeIs Ld ?_)
 try dsimp only
 refine wpAny_bind ?_
 wp_delta
 refine wpAny_bind (wpAny_isInstance (T:="tuple") (b:=false) ht.typeIs (by rw [isSubtype_type];kernel_rfl) ?_)
 refine wpAny_ite_split (fun hab=>absurd hab (by decide)) (fun _=>?_)
 refine wpAny_bind (wpAny_specialOf ht.typeIs slot_tuple_getitem.lookup ?_)
 try dsimp only
 refine wpAny_ite_split (fun _=>?_) (fun hab=>absurd (by decide) hab)
 refine wpAny_pure ?_
 refine wpAny_ite_split (fun hab=>absurd hab (by decide)) (fun _=>?_)
 refine wpAny_bind (len_tuple ht hfit ?_)
 refine wpAny_bind (m:=asInt? _) (wpAny_pure ?_)
 try dsimp only
 refine wpAny_bind (m:=Builtin.SmallTypes.newRecord _ _) ?_
 unfold Builtin.SmallTypes.newRecord
 refine wpAny_newObj_type ?_ (by size_fits)
 exact wpAny_pure h
theorem Cg {t:Addr}{items:Array Value}{Q:Value→Shared→Prop}(ht:IsTup s.heap t items) (hfit:(items.size:Int)<2 ^ 63)
  (h:Q (.ref s.heap.objs.size) { s with heap:=s.heap.push (mX t ((items.size:Int) - 1)),toks:=s.toks+1+1 }):wpAny (model prog w) A (call (.type "reversed") [.ref t]) Q E s:=by
 refine callType_codes (Q₁:=fun obj s₁=>obj=.ref s.heap.objs.size∧s₁={ s with heap:=s.heap.push (mX t ((items.size:Int) - 1)),toks:=s.toks+1+1 }) called (F.typeCall_reversed_1 _) F.entry_object_init (Cd ht hfit ⟨rfl,rfl⟩) ?_
 rintro obj s₁ ⟨rfl,rfl⟩
 have hT:({ s with heap:=s.heap.push (mX t ((items.size:Int) - 1)),toks:=s.toks+1+1 }:Shared).TypeIs (.ref s.heap.objs.size) "reversed" :=⟨_,Heap.get?_push_size _ rfl,rfl⟩
 refine ⟨hT,F.args_object_init_2 _ _,?_⟩
 exact object_init_meets (self:=Value.ref s.heap.objs.size) (rest:=[Value.ref t]) called.init.lookup called.made (by decide) prog w A.in1 _ _ ⟨hT,rfl,h⟩
theorem next_item {it t:Addr}{i:Nat}{items:Array Value}{x:Value}{Q:Option Value→Shared→Prop}(hit:gj s.heap it t (i:Int)) (ht:IsTup s.heap t items) (hx:items[i]?=some x) (hfit:(items.size:Int)<2 ^ 62)
  (hQ:∀ h' tk,gj h' it t ((i:Int) - 1)→Heap.SameBut it s.heap h'→Q (some x) { s with heap:=h',toks:=tk }):wpAny (model prog w) A (pyNext (.ref it)) Q E s:=by
 obtain ⟨o,ho,hc,hd⟩:=id hit
 have hi:i<items.size:=(Array.getElem?_eq_some_iff.mp hx).1
 unfold pyNext
 refine wpAny_bind (wpAny_attempt (wpAny_callSpecial?_slot (name:=Str.ofString "__next__") hit.typeIs slot_next
  (wpAny_call_entry slot_next hit.typeIs entry_next ?_ (args_next _))))
 unfold Builtin.«reversed.__next__»
 refine wpAny_bind (wpAny_of_eq (a:=(Value.ref it,[])) rfl ?_)
 try dsimp only
 refine wpAny_bind (wpAny_field ho hd (x:=.ref t) rfl ?_)
 refine wpAny_bind (wpAny_field ho hd (x:=rawInt (i:Int)) rfl ?_)
 show wpAny _ _ (if (i:Int)<0 then _ else _) _ _ s
 rw [if_neg (by omega)]
 try dsimp only
 refine wpAny_bind (wpAny_specialOf ht.typeIs slot_tuple_getitem.lookup ?_)
 try dsimp only
 refine wpAny_ite_split (fun hab=>absurd hab (by decide)) (fun _=>?_)
 refine wpAny_bind (wpAny_mkInt ?_)
 refine wpAny_bind (wpAny_attempt (getItem_tuple (j:=i) ht (by omega) (by omega) (by unfold seqIndex?;simp;omega) hx ?_))
 try dsimp only
 refine wpAny_bind (wpAny_field ho hd (x:=rawInt (i:Int)) rfl ?_)
 show wpAny _ _ (setField (.ref it) 1 (rawInt ((i:Int) - 1)) >>= _) _ _ _
 refine wpAny_bind (wpAny_setField ho hd (by simp) ?_)
 refine wpAny_pure ⟨x,rfl,wpAny_pure (hQ _ _ ?_ (Heap.SameBut.update ..))⟩
 exact ⟨_,Heap.get?_update_self _ ho (Obj.isFreed_of_fields (Obj.data_mapFields hd _)),(Obj.cls_mapFields ..).trans hc,by
  rw [Obj.data_mapFields hd];simp⟩
theorem next_end {it t:Addr}{Q:Option Value→Shared→Prop}(hh:A.handled=none) (hit:gj s.heap it t (-1))
  (hQ:∀ h',Heap.ExtBut it s.heap h'→Q none { s with heap:=h' }):wpAny (model prog w) A (pyNext (.ref it)) Q E s:=by
 obtain ⟨o,ho,hc,hd⟩:=id hit
 unfold pyNext
 refine wpAny_bind (wpAny_attempt (wpAny_callSpecial?_slot (name:=Str.ofString "__next__") hit.typeIs slot_next
  (wpAny_call_entry slot_next hit.typeIs entry_next ?_ (args_next _))))
 unfold Builtin.«reversed.__next__»
 refine wpAny_bind (wpAny_of_eq (a:=(Value.ref it,[])) rfl ?_)
 try dsimp only
 refine wpAny_bind (wpAny_field ho hd (x:=.ref t) rfl ?_)
 refine wpAny_bind (wpAny_field ho hd (x:=rawInt (-1)) rfl ?_)
 show wpAny _ _ (if (-1:Int)<0 then _ else _) _ _ s
 rw [if_pos (by decide)]
 refine wpAny_bind (wpAny_rule ?_)
 refine wpAny_bind ?_
 wp_delta
 refine wpAny_bind (wpAny_setField ho hd (by simp) ?_)
 have ho2:=Heap.get?_update_self (Obj.mapFields fun x=>x.setIfInBounds 1 (rawInt (-1))) ho (Obj.isFreed_of_fields (Obj.data_mapFields hd _))
 refine wpAny_setField ho2 (Obj.data_mapFields hd _) (by simp) ?_
 refine wpAny_bind ?_
 unfold Builtin.SmallTypes.stopIteration
 first
 | show wpAny _ _ (newExc (.type "StopIteration") [] >>= _) _ _ _
 | (refine wpAny_bind ?_;show wpAny _ _ (newExc (.type "StopIteration") [] >>= _) _ _ _)
 refine wpAny_bind ?_
 simp only [newExc,newTuple]
 refine wpAny_bind (wpAny_newObj_type ?_ (by size_fits))
 refine wpAny_bind (m:=firstArgMember _ _) (wpAny_of_eq (a:=Value.none) (by first | rfl | (simp only [firstArgMember];rfl)) ?_)
 refine wpAny_newObj_type ?_ (by size_fits)
 simp only [raiseNew]
 refine wpAny_bind (wpAny_handled ?_)
 first | rw [show A.in1.handled=none from hh] | rw [hh]
 refine wpAny_bind (wpAny_pure (wpAny_throw ?_))
 refine wpAny_bind (wpAny_isInstance (T:="StopIteration") (b:=true) ⟨_,Heap.get?_push_size _ rfl,rfl⟩ isSubtype_stop ?_)
 exact wpAny_pure (hQ _ ((((Heap.SameBut.update ..).extBut.trans (Heap.SameBut.update ..).extBut).push _).push _))
theorem tU {it t:Addr}{i:Int}{Q:Value→Shared→Prop}(hit:gj s.heap it t i) (h:Q (.ref it) s):wpAny (model prog w) A (pyIter (.ref it)) Q E s:=by
 refine wpAny_pyIter_slot hit.typeIs rK (wpAny_call_entry rK hit.typeIs xU ?_ (zT _))
 show wpAny _ _ (ret (.ref it)) _ _ s
 exact wpAny_pure ⟨_,rfl,"reversed",_,hit.typeIs,slot_next.lookup,h⟩
theorem Ci {it t:Addr}{items:Array Value}{Q:Bool→Shared→Prop}(hit:gj s.heap it t ((items.size:Int) - 1)) (ht:IsTup s.heap t items) (hfit:items.size≤sizeLine)
  (h:∀ tk,Q ((items.size:Int) != 0) { s with toks:=tk }):wpAny (model prog w) A (Builtin.List.listLengthHint (.ref it)) Q E s:=by
 obtain ⟨o,ho,hc,hd⟩:=id hit
 unfold Builtin.List.listLengthHint
 refine wpAny_bind (wpAny_specialOf hit.typeIs Lc ?_)
 refine wpAny_ite_split (fun hab=>absurd hab (by decide +kernel)) (fun _=>?_)
 refine wpAny_ite_split (fun hab=>absurd hab (by decide)) (fun _=>?_)
 refine wpAny_bind (wpAny_specialOf hit.typeIs lV.lookup ?_)
 generalize hid:("reversed.__length_hint__" : String)=Le
 dsimp only
 rw [show splitId Le=some ("reversed","__length_hint__") from by subst hid;decide +kernel]
 subst hid
 dsimp only
 refine wpAny_bind (wpAny_isInstance (T:="reversed") (b:=true) hit.typeIs (by rw [isSubtype_type];kernel_rfl) ?_)
 refine wpAny_ite_split (fun hab=>absurd hab (by decide)) (fun _=>?_)
 refine wpAny_ite_split (fun hab=>absurd hab (by decide +kernel)) (fun _=>?_)
 refine wpAny_bind (wpAny_rule ?_)
 refine wpAny_bind (wpAny_of_eq (lV.bind _) ?_)
 refine wpAny_bind (wpAny_attempt (wpAny_call_entry lV hit.typeIs xV ?_ (zU _)))
 unfold Builtin.«reversed.__length_hint__»
 refine wpAny_bind (wpAny_of_eq (a:=Value.ref it) rfl ?_)
 refine wpAny_bind (wpAny_field ho hd (x:=.ref t) rfl ?_)
 refine wpAny_ite_split (fun hab=>absurd hab Bool.false_ne_true) (fun _=>?_)
 have hf2:(items.size:Int)<2 ^ 63:=by rw [sizeLine_eq] at hfit;omega
 refine wpAny_bind (len_tuple ht hf2 ?_)
 refine wpAny_bind (m:=asInt? _) (wpAny_pure ?_)
 refine wpAny_bind (wpAny_field ho hd (x:=rawInt ((items.size:Int) - 1)) rfl ?_)
 show wpAny _ _ (if (items.size:Int)<(items.size:Int) - 1+1 then _ else _) _ _ _
 rw [if_neg (by omega)]
 have e1:(items.size:Int) - 1+1=(items.size:Int):=by omega
 rw [e1]
 unfold retInt
 refine wpAny_bind (wpAny_mkInt (wpAny_pure ⟨_,rfl,?_⟩))
 generalize s.toks+1+1=tk
 show wpAny _ _ (asInt? (Value.int (items.size:Int) tk) >>= _) _ _ _
 refine wpAny_bind ?_
 refine wpAny_pure (a:=some (items.size:Int)) ?_
 have Xh:Builtin.List.listFitsIndex (items.size:Int)=true:=by unfold Builtin.List.listFitsIndex;rw [decide_eq_true (by omega),decide_eq_true (by omega)];rfl
 show wpAny _ _ (if (!Builtin.List.listFitsIndex (items.size:Int))=true then _ else _) _ _ _
 rw [if_neg (by rw [Xh];decide)]
 show wpAny _ _ (if (items.size:Int)<0 then _ else _) _ _ _
 rw [if_neg (by omega)]
 have Xi:Builtin.List.listTooLong ((items.size:Int).toNat)=false:=by unfold Builtin.List.listTooLong;rw [Int.toNat_natCast];exact decide_eq_false (by omega)
 show wpAny _ _ (if Builtin.List.listTooLong ((items.size:Int).toNat)=true then _ else _) _ _ _
 rw [if_neg (by rw [Xi];decide)]
 exact wpAny_pure (h _)
theorem _root_.PySem.Walks.Lf (hh:A.handled=none) (I t:Addr) (hne:t≠I) (items:Array Value) (hfit:(items.size:Int)<2 ^ 62) :
  Walks prog w A I [I,t] [I] items.size (fun i v=>items[items.size - 1 - i]?=some v) (fun i h=>i≤items.size∧gj h I t ((items.size:Int) - 1 - (i:Int))∧IsTup h t items) where
 sub:=fun b hb=>by simp at hb;simp [hb]
 frame:=fun _ _ _ x hk=>⟨x.1,x.2.1.at fun o e=>hk I (by simp) o e,mY x.2.2 fun o e=>hk t (by simp) o e⟩
 item:=fun i s Q E hi x hQ=>by
  have e:(items.size:Int) - 1 - (i:Int)=((items.size - 1 - i:Nat):Int):=by omega
  have hit:=x.2.1
  rw [e] at hit
  have hx:items[items.size - 1 - i]?=some (items[items.size - 1 - i]'(by omega)):=Array.getElem?_eq_getElem (by omega)
  refine next_item hit x.2.2 hx hfit fun h' tk Lh hs'=>?_
  have e2:((items.size - 1 - i:Nat):Int) - 1=(items.size:Int) - 1 - ((i+1:Nat):Int):=by omega
  rw [e2] at Lh
  exact hQ _ h' tk hx ⟨hi,Lh,mY x.2.2 fun o eo=>(hs'.2 t hne).trans eo⟩ fun b o hb eo=>hs'.extBut b o (fun h=>hb (by simp [h])) eo
 done:=fun s Q E x hQ=>by
  have e:(items.size:Int) - 1 - (items.size:Int) = -1:=by omega
  have hit:=x.2.1
  rw [e] at hit
  exact next_end hh hit fun h' he'=>hQ h' s.toks fun b o hb eo=>he' b o (fun h=>hb (by simp [h])) eo
 self:=fun _ _ _ _ x hQ=>tU x.2.1 hQ
theorem xW {R:Result→Shared→Prop}{I t:Addr}{items:Array Value}(hh:A.handled=none) (hit:gj s.heap I t ((items.size:Int) - 1)) (ht:IsTup s.heap t items) (hne:t≠I) (hlen:items.size≤sizeLine)
  (S:Addr) (hSI:S≠I) (hSt:S≠t) (res:Value) (c₀:Nat) (hS:s.heap.get? S=some { cls:=.type "list",data:=.seq #[] c₀ })
  (hR:∀ h' tk acc' c',(∀ b o,b≠S→b≠I→s.heap.get? b=some o→h'.get? b=some o)→h'.get? S=some { cls:=.type "list",dict:=none,data:=.seq acc' c',slots:=#[]}→
   ItemsOf (fun i v=>items[items.size - 1 - i]?=some v) acc' items.size→R (.ok (.ret res)) { s with heap:=h',toks:=tk }) :
  wpAny (model prog w) A.in1 (Builtin.List.listExtendWith (.ref S) (.ref I) res)
   (fun fin s'=>match fin with | .done f=>R (.ok f) s' | .again c'=>c'.quiet=true∧codeAny (model prog w) A c' R s') (fun e s'=>R (.error e) s') s:=by
 have hf:(items.size:Int)<2 ^ 62:=by rw [sizeLine_eq] at hlen;omega
 have hSf:S∉[I,t]:=fun hm=>by rcases List.mem_cons.mp hm with e | e;exact hSI e;exact hSt (List.mem_singleton.mp e)
 have W:=(Walks.Lf (prog:=prog) (w:=w) (A:=A.in1) hh I t hne items hf).toS
 have key:∀ (h:Heap) (c₁ tk:Nat),gj h I t ((items.size:Int) - 1 - ((0:Nat):Int))→IsTup h t items→(∀ b o,b≠S→s.heap.get? b=some o→h.get? b=some o)→
   h.get? S=some { cls:=.type "list",data:=.seq #[] c₁ }→codeAny (model prog w) A (.builtin "list.extend.loop" ⟨[.ref S,.ref I,res],[]⟩) R { s with heap:=h,toks:=tk }:=by
  intro h c₁ tk hit ht hk xX
  refine codeAny_extend_loopS W hlen S hSf res items.size 0 _ #[] c₁ rfl (Nat.zero_le _) ⟨Nat.zero_le _,hit,ht⟩ xX (ItemsOf.nil _) fun s' acc' c' hm hS' hacc=>?_
  rw [Moved.eq_with hm]
  refine hR s'.heap s'.toks acc' c' (fun b o hb hb2 e=>hm.heap b o (fun hmem=>?_) (hk b o hb e)) hS' hacc
  rcases List.mem_cons.mp hmem with e' | hmem
  ·exact hb e'
  ·exact hb2 (List.mem_singleton.mp hmem)
 unfold Builtin.List.listExtendWith
 refine wpAny_bind (wpAny_typeOf (T:="reversed") hit.typeIs ?_)
 have h1:Builtin.List.listSameRef (.ref S) (.ref I)=false:=by simp [Builtin.List.listSameRef,hSI]
 have h2:(Value.type "reversed" ==Value.type "list")=false:=by decide
 have h3:(Value.type "reversed" ==Value.type "tuple")=false:=by decide
 simp only [h1,h2,h3,Bool.or_false,Bool.false_eq_true,if_false]
 refine wpAny_bind (tU hit ?_)
 refine wpAny_bind (wpAny_holding (Ci hit ht hlen fun tk=>?_))
 have Li:gj s.heap I t ((items.size:Int) - 1 - ((0:Nat):Int)):=by simpa using hit
 refine wpAny_ite_split (fun _=>?_) (fun _=>wpAny_pure ⟨plainId_quiet F.plain_extend_loop _,key _ c₀ _ Li ht (fun b o _ e=>e) hS⟩)
 refine wpAny_bind (wpAny_rule ?_)
 refine wpAny_bind ?_
 show wpAny _ _ (updateSeq S (·.push .none) >>= fun _=>updateSeq S (·.pop)) _ _ _
 refine wpAny_bind (wpAny_updateSeq hS rfl ?_)
 have sA:=Heap.get?_update_self (Obj.mapSeq (·.push Value.none)) hS rfl
 refine wpAny_updateSeq (hz:=by seq_fits) sA rfl ?_
 have P4:=Heap.get?_update_self (Obj.mapSeq (·.pop)) sA rfl
 have ot:∀ b o,b≠S→s.heap.get? b=some o→((s.heap.update S (Obj.mapSeq (·.push Value.none))).update S (Obj.mapSeq (·.pop))).get? b=some o:=fun b o hb e=>(Heap.get?_update_other _ _ (Ne.symm hb)).trans ((Heap.get?_update_other _ _ (Ne.symm hb)).trans e)
 exact wpAny_pure ⟨plainId_quiet F.plain_extend_loop _,key _ _ _ (Li.at fun o e=>ot _ _ (Ne.symm hSI) e) (mY ht fun o e=>ot _ _ (Ne.symm hSt) e) ot P4⟩
theorem Cj {R:Result→Shared→Prop}{I t:Addr}{items:Array Value}(hh:A.handled=none) (hit:gj s.heap I t ((items.size:Int) - 1)) (ht:IsTup s.heap t items) (hne:t≠I) (hlen:items.size≤sizeLine)
  (S:Addr) (hSI:S≠I) (hSt:S≠t) (hS:s.heap.get? S=some { cls:=.type "list",data:=.seq #[]})
  (hR:∀ h' tk acc' c',(∀ b o,b≠S→b≠I→s.heap.get? b=some o→h'.get? b=some o)→h'.get? S=some { cls:=.type "list",dict:=none,data:=.seq acc' c',slots:=#[]}→
   ItemsOf (fun i v=>items[items.size - 1 - i]?=some v) acc' items.size→R (.ok (.ret .none)) { s with heap:=h',toks:=tk }) :
  wpAny (model prog w) A.in1 (Builtin.«list.__init__» ⟨[.ref S,.ref I],[]⟩)
   (fun fin s'=>match fin with | .done f=>R (.ok f) s' | .again c'=>c'.quiet=true∧codeAny (model prog w) A c' R s') (fun e s'=>R (.error e) s') s:=by
 show wpAny _ _ (do let old ←Builtin.List.listItems (.ref S);Builtin.List.listUpdate (.ref S) (fun _=>#[]);letGo old.toList.reverse;Builtin.List.listExtendWith (.ref S) (.ref I) .none) _ _ s
 refine wpAny_bind ?_
 unfold Builtin.List.listItems
 refine wpAny_bind (wpAny_seqItems hS rfl (wpAny_pure ?_))
 show wpAny _ _ (updateSeq S (fun _=>#[]) >>= fun _=>letGo (#[]:Array Value).toList.reverse >>= fun _=>Builtin.List.listExtendWith (.ref S) (.ref I) .none) _ _ s
 refine wpAny_bind (wpAny_updateSeq hS rfl ?_)
 have sA:=Heap.get?_update_self (Obj.mapSeq (fun _=>(#[]:Array Value))) hS rfl
 have Lj:∀ b o,b≠S→s.heap.get? b=some o→(s.heap.update S (Obj.mapSeq (fun _=>(#[]:Array Value)))).get? b=some o:=
  fun b o hb e=>(Heap.get?_update_other _ _ (Ne.symm hb)).trans e
 refine wpAny_bind (wpAny_letGo ?_)
 refine xW hh (hit.at fun o e=>Lj _ _ (Ne.symm hSI) e) (mY ht fun o e=>Lj _ _ (Ne.symm hSt) e) hne hlen S hSI hSt .none _ sA fun h' tk acc' c' hk hS' hacc=>?_
 exact hR h' tk acc' c' (fun b o hb hb2 e=>hk b o hb hb2 (Lj b o hb e)) hS' hacc
theorem r8 {Q:Value→Shared→Prop}{I t:Addr}{items:Array Value}(hh:A.handled=none) (hit:gj s.heap I t ((items.size:Int) - 1)) (ht:IsTup s.heap t items) (hne:t≠I) (hlen:items.size≤sizeLine)
  (hQ:∀ h' tk acc' c',(∀ b o,b≠I→s.heap.get? b=some o→h'.get? b=some o)→
   h'.get? s.heap.objs.size=some { cls:=.type "list",dict:=none,data:=.seq acc' c',slots:=#[]}→ItemsOf (fun i v=>items[items.size - 1 - i]?=some v) acc' items.size→Q (.ref s.heap.objs.size) { s with heap:=h',toks:=tk }) :
  wpAny (model prog w) A (call (.type "list") [.ref I]) Q E s:=by
 refine callType_codes (Q₁:=fun obj s₁=>obj=.ref s.heap.objs.size∧s₁={ s with heap:=s.heap.push { cls:=.type "list",data:=.seq #[]}}) F.called_list (F.typeCall_list_1 _) F.entry_list_init
  (code_list_new _ ⟨rfl,rfl⟩) fun obj s₁ h₁=>?_
 obtain ⟨rfl,rfl⟩:=h₁
 have hS:(s.heap.push { cls:=.type "list",data:=.seq #[]}).get? s.heap.objs.size=some { cls:=.type "list",data:=.seq #[]}:=Heap.get?_push_size _ rfl
 have hI:I<s.heap.objs.size:=by obtain ⟨o,ho,_⟩:=hit;exact Heap.lt_size ho
 have hT:t<s.heap.objs.size:=by obtain ⟨o,ho,_⟩:=ht;exact Heap.lt_size ho
 refine ⟨⟨_,hS,rfl⟩,F.args_list_init_2 _ _,Cj (A:=A.in1) hh (hit.at fun o e=>Heap.get?_push_of_some _ e) (mY ht fun o e=>Heap.get?_push_of_some _ e) hne hlen _ (Nat.ne_of_gt hI) (Nat.ne_of_gt hT) hS fun h' tk acc' c' hk hS' hacc=>?_⟩
 exact ⟨rfl,hQ h' tk acc' c' (fun b o hb e=>hk b o (Nat.ne_of_lt (Heap.lt_size e)) hb (Heap.get?_push_of_some _ e)) hS' hacc⟩
end
end Rv
namespace Sm
open PySem PySem.Spec PyProof.Rows L2 PySem.SeqAt
open Ev (D O Hh Fr R aU E Es Eo T S Ss Fl Src bV bQ TY BI ME)
section
variable {X:Cx}{G:Tb}{n:Nat}{sc:Scope}{N:List Str}{df:Bool}{m:List Nat}{a b c:E}{xa xb xc tg:Expr}{pos:Pos}
theorem tV {vs:List V}{us:List Value}(r:Vals vs us) {acc:Array Value}(h:ItemsOf (fun i v=>us.toArray[us.toArray.size - 1 - i]?=some v) acc us.toArray.size):Vals vs.reverse acc.toList:=by
 obtain ⟨h1,h2⟩:=h
 have e:acc.toList=us.reverse:=by
  apply List.ext_getElem?
  intro i
  by_cases hi:i<us.length
  ·have ha:i<acc.size:=by rw [h1];simpa using hi
   have:=h2 i _ (Array.getElem?_eq_getElem ha)
   rw [List.getElem?_reverse hi]
   simp only [List.size_toArray,List.getElem?_toArray] at this
   rw [this]
   simp [ha]
  ·have hs:acc.size=us.length:=by rw [h1];simp
   rw [List.getElem?_eq_none (by rw [Array.length_toList];omega),List.getElem?_eq_none (by rw [List.length_reverse];omega)]
 rw [e];exact Vals.reverse r
theorem HC {p p2 pos2:Pos}(ha:JE G n sc N df m a xa) (h1:("list" : Str)∈G.bl:=by decide +kernel) (tT:sc.names.lookup ("list" : Str)=some .globalImplicit:=by rfl)
  (hg:sc.names.lookup ("reversed" : Str)=some .globalImplicit:=by rfl) (hb:("reversed" : Str)∈G.bl:=by decide +kernel)
  (hst:∀ env:Env,starEach [xa] env=[(false,eval xa env)]:=by intro _;rfl)
  (lT:∀ env:Env,starEach [Expr.Call (.Name "reversed" p2) [xa] [] pos2] env=[(false,eval (Expr.Call (.Name "reversed" p2) [xa] [] pos2) env)]:=by intro _;rfl) :
  JE G n sc N df m (.gn (.rev a)) (.Call (.Name "list" p) [.Call (.Name "reversed" p2) [xa] [] pos2] [] pos):=fun X g=>by
 intro pins s σ H Q I q
 obtain ⟨r,fr,h,d,h',sr,hr,e,q⟩:=q
 rw [Ev.ev,Ev.dc] at e
 replace e:=Ev.ai e;obtain ⟨src,h3,e1,e⟩:=e
 replace e1:=Ev.ai e1;obtain ⟨x,h4,e2,e1⟩:=e1
 replace e1:=Ev.aO e1;obtain ⟨e1,y0⟩:=e1;subst y0
 refine wpAny_Call_Name_kw (gU I (g.gl tT) (g.bl _ h1) (show bootBuiltins ("list" : Str)=some (.type "list") by decide +kernel) ?_ (by decide) (by decide))
 refine PyProof.Rows.callWith_type1 ?_ (lT _) rfl
 rw [lT]
 show wpAny _ _ (spliced ((false,eval (Expr.Call (.Name "reversed" p2) [xa] [] pos2) X.env) :: backTo pos [])) _ _ s
 refine Calls.spliced_cons ?_
 have Lk:PA X [xa] _:=mT (ha X g) oG (by rw [hst];rfl)
 refine Call_ (gU I (g.gl hg) (g.bl _ hb) (show bootBuiltins ("reversed" : Str)=some (.type "reversed") by decide +kernel) (PyProof.Rows.callWith_type1 (bM (Lk pos2 pins s σ H (fun vs H1=>∃ r1 u,vs=[u]∧RV X.K H1 r1 x u∧HR X.K H1 r1 h3∧Fm X.K r r1 H H1) I ⟨r,fr,h,x,h3,sr,hr,e2,fun u H1 r1 v1 hr1 f1=>⟨r1,u,rfl,v1,hr1,f1⟩⟩) fun us s1 z=>?_) (hst _) rfl))
 obtain ⟨vs,H1,I1,rv,r1,u,rfl,v1,hr1,f1⟩:=z
 cases x <;> simp only [Ev.BL,Option.map,reduceCtorEq] at e1
 rename_i ds
 cases e1
 obtain ⟨t,ws,rfl,z,w⟩:=v1.shape
 cases rv with
 | cons ra rb=>
 cases rb
 cases ra
 obtain ⟨its,pv,pt,hz⟩:=I1.tuple z
 have hlen:its.toArray.size≤sizeLine:=by rw [List.size_toArray,←pv.length];exact hz
 have hf:(its.toArray.size:Int)<2 ^ 63:=by rw [sizeLine_eq] at hlen;omega
 refine Rv.Cg pt hf ?_
 refine Calls.spliced_nil ?_
 have I2:Inv X pins σ H1 { s1 with heap:=s1.heap.push (Rv.mX t ((its.toArray.size:Int) - 1)),toks:=s1.toks+1+1 }:=I1.kept fun b o e=>Heap.get?_push_of_some _ e
 have hne:t≠s1.heap.objs.size:=by obtain ⟨o,ho,_⟩:=pt;exact Nat.ne_of_lt (Heap.lt_size ho)
 refine Rv.r8 (I1.ok.hd g.calm) ⟨_,Heap.get?_push_size _ rfl,rfl,rfl⟩ (Rv.mY pt fun o e=>Heap.get?_push_of_some _ e) hne hlen fun h' tk acc' c' hk hS' hacc=>?_
 obtain ⟨hz2,q2⟩:=(q.later f1).lst e w.reverse hr1
 have hp:s1.heap.objs.size≤(s1.heap.push (Rv.mX t ((its.toArray.size:Int) - 1))).objs.size:=by rw [size_push'];exact Nat.le_succ _
 refine ⟨.ref _,_,I1.laid (t':=tk) (o:=.lst ws.reverse) (fun b u e=>hk b u (Nat.ne_of_lt (Heap.lt_size e)) (Heap.get?_push_of_some _ e)) hp ?_,rfl,q2 _ (I1.hok.fresh hp)⟩
 exact ⟨by simpa using hz,acc'.toList,c',tV pv hacc,by simpa using hS'⟩
end
end Sm
set_option maxRecDepth 100000
namespace Rv
open PySem PySem.Spec PyProof.Rows
section
variable {prog:Program}{w:World}{A:Around}{E:Value→Shared→Prop}{s:Shared}
theorem zW:typeLookup (.type "list_reverseiterator") "__len__" = pure none:=by rw [typeLookup_type,builtinLookup_eq_fast];kernel_rfl
theorem Ck:typeLookup (.type "list_reverseiterator") "__length_hint__" = pure (some (.builtin "list_reverseiterator.__length_hint__")):=by rw [typeLookup_type,builtinLookup_eq_fast];kernel_rfl
theorem vg {Q:List Value→Shared→Prop}{I:Addr}{fp wr:List Addr}{G:Array GenState→Array GenState→Prop}{n:Nat}{P:Nat→Value→Prop}{St:Nat→Shared→Prop}
  (W:WalksS prog w A.in1 I fp wr G n P St) (hT:∀ i s,St i s→s.TypeIs (.ref I) "list_reverseiterator") (hst:St 0 s) (hfp:∀ b∈fp,b<s.heap.objs.size) (hI:I∈fp)
  (hQ:∀ s' acc,Moved wr G s s'→ItemsOf P acc n→Q acc.toList s') (hn:n≤sizeLine):wpAny (model prog w) A (collect (.ref I)) Q E s:=by
 have hSf:s.heap.objs.size∉fp:=fun hm=>Nat.lt_irrefl _ (hfp _ hm)
 have hSI:s.heap.objs.size≠I:=fun e=>hSf (e▸hI)
 unfold collect
 refine wpAny_bind (wpAny_runValue (codeAny_builtin F.entry_proto_collect ?_))
 rw [Around.under_plainId F.plain_proto_collect _]
 show wpAny _ A.in1 (newList [] >>= fun l=>again (.builtin "list.__iadd__" ⟨[l,.ref I],[]⟩)) _ _ s
 refine wpAny_bind (wpAny_newObj_type ?_)
 refine wpAny_pure ⟨plainId_quiet F.plain_list_iadd _,codeAny_builtin F.entry_list_iadd ?_⟩
 rw [Around.under_plainId F.plain_list_iadd _]
 have jY:=W.frame 0 s (s.heap.push { cls:=.type "list",data:=.seq ([]:List Value).toArray }) s.toks hst (Nat.le_refl _) fun b _ o e=>Heap.get?_push_of_some _ e
 have xX:(s.heap.push { cls:=.type "list",data:=.seq ([]:List Value).toArray }).get? s.heap.objs.size=some { cls:=.type "list",data:=.seq ([]:List Value).toArray }:=Heap.get?_push_size _ rfl
 have h1:Builtin.List.listSameRef (.ref s.heap.objs.size) (.ref I)=false:=by simp [Builtin.List.listSameRef,hSI]
 show wpAny _ A.in1 (Builtin.List.listExtendWith (.ref s.heap.objs.size) (.ref I) (.ref s.heap.objs.size)) _ _ _
 unfold Builtin.List.listExtendWith
 refine wpAny_bind (wpAny_typeOf (hT 0 _ jY) ?_)
 rw [if_neg (by rw [h1];decide)]
 refine wpAny_bind (W.self 0 _ _ _ jY ?_)
 refine wpAny_bind (wpAny_holding ?_)
 unfold Builtin.List.listLengthHint
 refine wpAny_bind (wpAny_specialOf (hT 0 _ jY) zW ?_)
 show wpAny _ A.in1 (specialOf (Value.ref I) (Str.ofString "__length_hint__") >>= _) _ _ _
 refine wpAny_bind (wpAny_specialOf (hT 0 _ jY) Ck ?_)
 generalize hid:("list_reverseiterator.__length_hint__" : String)=Le
 wp_delta
 rw [show splitId Le=some ("list_reverseiterator","__length_hint__") from by subst hid;decide +kernel]
 subst hid
 refine wpAny_bind (wpAny_isInstance (b:=true) (hT 0 _ jY) (by rw [isSubtype_type];kernel_rfl) ?_)
 refine wpAny_pure ?_
 rw [if_neg (by decide)]
 refine wpAny_pure ⟨plainId_quiet F.plain_extend_loop _,codeAny_extend_loopS W hn _ hSf _ n 0 _ _ _ rfl (Nat.zero_le _) jY xX (ItemsOf.nil P) fun s' acc' c' hm hS' hacc=>?_⟩
 show wpAny _ A (load s.heap.objs.size >>= _) _ _ s'
 refine wpAny_bind (wpAny_load hS' ?_)
 exact wpAny_pure (hQ s' acc' (Moved.drop_new (o:={ cls:=.type "list",data:=.seq ([]:List Value).toArray }) (tk:=s.toks) hm (Nat.le_refl _)) hacc)
theorem qt {Q₁:Value→Shared→Prop}{I:Addr}{fp wr:List Addr}{G:Array GenState→Array GenState→Prop}{n:Nat}{P:Nat→Value→Prop}{St:Nat→Shared→Prop}
  (W:WalksS prog w A.in1.in1 I fp wr G n P St) (hT:∀ i s,St i s→s.TypeIs (.ref I) "list_reverseiterator") (hst:St 0 s) (hfp:∀ b∈fp,b<s.heap.objs.size) (hI:I∈fp)
  (h:∀ s' acc,Moved wr G s s'→ItemsOf P acc n→Q₁ (.ref s'.heap.objs.size) { s' with heap:=s'.heap.push { cls:=.type "tuple",data:=.seq acc }}) (hsz:n≤sizeLine) :
  codeAny (model prog w) A (.call (.builtin "tuple.__new__") ⟨[.type "tuple",.ref I],[]⟩) (wants Q₁ E) s:=by
 refine codeAny_of_tree ?_
 show wpAny _ A.in1 (do checkBuiltinCall "tuple.__new__" ⟨[.type "tuple",.ref I],[]⟩;again (.builtin "tuple.__new__" ⟨[.type "tuple",.ref I],[]⟩)) _ _ s
 refine wpAny_bind (wpAny_of_eq (F.newCall_tuple_1 _) (wpAny_pure ⟨plainId_quiet F.plain_tuple_new _,codeAny_builtin F.entry_tuple_new ?_⟩))
 rw [Around.under_plainId F.plain_tuple_new _]
 have hsub:=sub_tuple_self
 have YI:=init_tuple_lookup
 have YR:=madeHere_tuple
 have hTI:=hT 0 s hst
 wp_walk using wpAny_typeOf hTI,vg (hn:=hsz) W hT hst hfp hI
 intro s' acc hm hacc
 show wpAny _ _ (Builtin.Tuple.tupleExact acc.toList.toArray >>= fun v=>ret v) _ _ _
 unfold Builtin.Tuple.tupleExact
 refine wpAny_bind (wpAny_newObj_type ?_ (by show acc.toList.toArray.size≤sizeLine;simp only [Array.toArray_toList];rw [hacc.1];exact hsz))
 refine wpAny_pure ?_
 have e:acc.toList.toArray=acc:=by simp
 rw [e]
 exact h s' acc hm hacc
theorem qu {Q:Value→Shared→Prop}{I:Addr}{fp wr:List Addr}{G:Array GenState→Array GenState→Prop}{n:Nat}{P:Nat→Value→Prop}{St:Nat→Shared→Prop}
  (W:WalksS prog w A.in1.in1.in1 I fp wr G n P St) (hT:∀ i s,St i s→s.TypeIs (.ref I) "list_reverseiterator") (hst:St 0 s) (hfp:∀ b∈fp,b<s.heap.objs.size) (hI:I∈fp)
  (hQ:∀ s' acc,Moved wr G s s'→ItemsOf P acc n→Q (.ref s'.heap.objs.size) { s' with heap:=s'.heap.push { cls:=.type "tuple",data:=.seq acc }}) (hsz:n≤sizeLine) :
  wpAny (model prog w) A (call (.type "tuple") [.ref I]) Q E s:=by
 refine callType_codes (Q₁:=fun obj s₁=>s₁.TypeIs obj "tuple" ∧Q obj s₁) F.called_tuple (F.typeCall_tuple_1 _) F.entry_object_init
  (qt (hsz:=hsz) W hT hst hfp hI fun s' acc hm hacc=>⟨⟨_,Heap.get?_push_size _ rfl,rfl⟩,hQ s' acc hm hacc⟩) fun obj s₁ h₁=>?_
 exact ⟨h₁.1,F.args_object_init_2 obj _,object_init_meets F.called_tuple.init.lookup F.called_tuple.made (by decide) prog w A.in1 _ s₁ ⟨h₁.1,rfl,h₁.2⟩⟩
theorem qv {Q:Value→Shared→Prop}{I l:Addr}{items:Array Value}(hh:A.handled=none) (hit:s.heap.IsRevIter I l ((items.size:Int) - 1)) (hl:s.heap.IsList l items) (hne:l≠I) (hlen:items.size≤sizeLine)
  (hQ:∀ (h':Heap) (tk:Nat) (acc:Array Value),(∀ b o,b≠I→s.heap.get? b=some o→h'.get? b=some o)→ItemsOf (fun i v=>items[items.size - 1 - i]?=some v) acc items.size→
   Q (.ref h'.objs.size) { s with heap:=h'.push { cls:=.type "tuple",data:=.seq acc },toks:=tk }):wpAny (model prog w) A (call (.type "tuple") [.ref I]) Q E s:=by
 have W:=(Walks.listRev (prog:=prog) (w:=w) (A:=A.in1.in1.in1) hh I l hne items).toS
 refine qu W (fun i s x=>x.2.1.typeIs) ⟨Nat.zero_le _,by simpa using hit,hl⟩ (fun b hb=>?_) (by simp) (fun s' acc hm hacc=>?_) hlen
 ·rcases List.mem_cons.mp hb with rfl | hb
  ·obtain ⟨o,ho,_⟩:=hit;exact Heap.lt_size ho
  ·rw [List.mem_singleton.mp hb];obtain ⟨o,ho,_⟩:=hl;exact Heap.lt_size ho
 ·rw [Moved.eq_with hm]
  exact hQ s'.heap s'.toks acc (fun b o hb e=>hm.heap b o (fun hmem=>hb (List.mem_singleton.mp hmem)) e) hacc
end
end Rv
namespace Sm
open PySem PySem.Spec PyProof.Rows L2 PySem.SeqAt
open Ev (D O Hh Fr R aU E Es Eo T S Ss Fl Src bV bQ TY BI ME)
section
variable {X:Cx}{G:Tb}{n:Nat}{sc:Scope}{N:List Str}{df:Bool}{m:List Nat}{a b c:E}{xa xb xc tg:Expr}{pos:Pos}
theorem Ll {p p2 pos2:Pos}(ha:JE G n sc N df m a xa) (h1:("tuple" : Str)∈G.bl:=by decide +kernel) (tT:sc.names.lookup ("tuple" : Str)=some .globalImplicit:=by rfl)
  (hg:sc.names.lookup ("reversed" : Str)=some .globalImplicit:=by rfl) (hb:("reversed" : Str)∈G.bl:=by decide +kernel)
  (hst:∀ env:Env,starEach [xa] env=[(false,eval xa env)]:=by intro _;rfl)
  (lT:∀ env:Env,starEach [Expr.Call (.Name "reversed" p2) [xa] [] pos2] env=[(false,eval (Expr.Call (.Name "reversed" p2) [xa] [] pos2) env)]:=by intro _;rfl) :
  JE G n sc N df m (.lz a) (.Call (.Name "tuple" p) [.Call (.Name "reversed" p2) [xa] [] pos2] [] pos):=fun X g=>by
 intro pins s σ H Q I q
 obtain ⟨r,fr,h,d,h',sr,hr,e,q⟩:=q
 rw [Ev.ev] at e
 replace e:=Ev.ai e;obtain ⟨x,h3,e2,e⟩:=e
 refine wpAny_Call_Name_kw (gU I (g.gl tT) (g.bl _ h1) (show bootBuiltins ("tuple" : Str)=some (.type "tuple") by decide +kernel) ?_ (by decide) (by decide))
 refine PyProof.Rows.callWith_type1 ?_ (lT _) rfl
 rw [lT]
 show wpAny _ _ (spliced ((false,eval (Expr.Call (.Name "reversed" p2) [xa] [] pos2) X.env) :: backTo pos [])) _ _ s
 refine Calls.spliced_cons ?_
 have Lk:PA X [xa] _:=mT (ha X g) oG (by rw [hst];rfl)
 refine Call_ (gU I (g.gl hg) (g.bl _ hb) (show bootBuiltins ("reversed" : Str)=some (.type "reversed") by decide +kernel) (PyProof.Rows.callWith_type1 (bM (Lk pos2 pins s σ H (fun vs H1=>∃ r1 u,vs=[u]∧RV X.K H1 r1 x u∧HR X.K H1 r1 h3∧Fm X.K r r1 H H1) I ⟨r,fr,h,x,h3,sr,hr,e2,fun u H1 r1 v1 hr1 f1=>⟨r1,u,rfl,v1,hr1,f1⟩⟩) fun us s1 z=>?_) (hst _) rfl))
 obtain ⟨vs,H1,I1,rv,r1,u,rfl,v1,hr1,f1⟩:=z
 cases x <;> simp only [Ev.xA,reduceCtorEq] at e
 rename_i i
 split at e
 ·rename_i ds e1
  split at e
  ·cases e
   obtain ⟨t,rfl,z⟩:=v1.shape
   obtain ⟨t',ws,z',q1,w⟩:=hr1.read e1
   rw [z] at z';cases z'
   cases rv with
   | cons ra rb=>
   cases rb
   cases ra
   obtain ⟨its,pv,pl,hz⟩:=I1.list q1
   have hlen:its.toArray.size≤sizeLine:=by rw [List.size_toArray,←pv.length];exact hz
   refine call_reversed_list pl.isList ?_
   refine Calls.spliced_nil ?_
   have I2:Inv X pins σ H1 { s1 with heap:=s1.heap.push (revObj t ((its.toArray.size:Int) - 1))}:=I1.kept fun b o e=>Heap.get?_push_of_some _ e
   have hne:t≠s1.heap.objs.size:=by obtain ⟨o,ho,_⟩:=pl.isList;exact Nat.ne_of_lt (Heap.lt_size ho)
   refine Rv.qv (I1.ok.hd g.calm) ⟨_,Heap.get?_push_size _ rfl,rfl,rfl⟩ (pl.isList.at fun o e=>Heap.get?_push_of_some _ e) hne hlen fun h4 tk acc hk hacc=>?_
   have I3:Inv X pins σ H1 { s1 with heap:=h4 }:=I1.kept fun b o e=>hk b o (Nat.ne_of_lt (Heap.lt_size e)) (Heap.get?_push_of_some _ e)
   have I4:Inv X pins σ (upd H1 h4.objs.size (.tup ws.reverse)) { s1 with heap:=h4.push { cls:=.type "tuple",data:=.seq acc },toks:=tk }:=
    I3.laid (t':=tk) (fun b o e=>Heap.get?_push_of_some _ e) (Nat.le_refl _) (show fH X.prog X.w _ _ _ (.tup ws.reverse) from ⟨by simpa using hz,acc.toList,tV pv hacc,by simpa using IsTup.new h4 acc⟩)
   exact ⟨.ref h4.objs.size,_,I4,rfl,(q.later f1).tup w.reverse hr1 (I3.hok.fresh (Nat.le_refl _))⟩
  ·cases e
 ·cases e
end
end Sm
set_option maxRecDepth 100000
namespace Sm
open PySem PySem.Spec PyProof.Rows L2 PySem.SeqAt
open Ev (D O Hh Fr R aU E Es Eo T S Ss Fl Src bV bQ TY BI ME)
theorem insI_perm (x:Int):∀ l,(Ev.insI x l).Perm (x :: l)
 | []=>.refl _
 | y :: l=>by
  unfold Ev.insI
  split
  ·exact .refl _
  ·exact ((insI_perm x l).cons y).trans (.swap x y l)
theorem sortI_perm:∀ l,(Ev.sortI l).Perm l
 | []=>.refl _
 | x :: l=>(insI_perm x _).trans ((sortI_perm l).cons x)
theorem nH (x:Int):∀ {l},l.Pairwise (·≤·)→(Ev.insI x l).Pairwise (·≤·)
 | [],_=>List.pairwise_singleton _ _
 | y :: l,h=>by
  unfold Ev.insI
  obtain ⟨h1,h2⟩:=List.pairwise_cons.mp h
  split
  ·rename_i hx
   exact List.pairwise_cons.mpr ⟨fun z hz=>by
    rcases List.mem_cons.mp hz with rfl | hz
    ·exact hx
    ·exact Int.le_trans hx (h1 z hz),h⟩
  ·rename_i hx
   refine List.pairwise_cons.mpr ⟨fun z hz=>?_,nH x h2⟩
   rcases List.mem_cons.mp ((insI_perm x l).mem_iff.mp hz) with rfl | hz
   ·omega
   ·exact h1 z hz
theorem lW:∀ l,(Ev.sortI l).Pairwise (·≤·)
 | []=>.nil
 | x :: l=>nH x (lW l)
theorem xY {l m:List Int}(h:m.Perm l) (s:m.Pairwise (·≤·)):m=Ev.sortI l:=
 (h.trans (sortI_perm l).symm).eq_of_pairwise (fun a b _ _ h1 h2=>Int.le_antisymm h1 h2) s (lW l)
theorem vY:∀ {us:List Value}{is:List Int},IntsAre us is→Vals (is.map V.int) us
 | _,_,.nil=>.nil
 | _,_,.cons _ _ h=>.cons ⟨_,rfl⟩ (vY h)
theorem aI.Lm {K:PySem.W.Frag}{H:Hp}{r:List Addr}:∀ {ss:List Int},aI K H r (ss.map D.int) (ss.map V.int)
 | []=>.nil
 | l :: ss=>.cons rfl aI.Lm
theorem Cn {X:Cx}:gw X (.builtin "sorted") (tF X.K (Ev.dz .jE)):=by
 intro pins s σ H xs us Q I r q
 obtain ⟨rr,h,as,d,h',hr,v1,e,q⟩:=q
 match as,e with
 | [.ref n],e=>
  delta Ev.dz at e;dsimp only at e
  split at e
  case h_2=>cases e
  rename_i ss e1
  split at e
  case isFalse=>cases e
  rename_i h64
  obtain ⟨ds,e2,e3⟩:=Option.bind_eq_some_iff.mp e1
  simp only [aI,RV] at v1
  obtain ⟨v,w,rfl,⟨p,rfl,z⟩,rfl⟩:=v1
  obtain ⟨p',vs,z',q1,w⟩:=hr.read e2
  rw [z] at z';cases z'
  obtain ⟨u,rfl,ru⟩:=vals1 r
  cases ru
  obtain ⟨us,pv,pl,hz⟩:=I.list q1
  have hI:=qs e3 w pv
  have hlen:us.length<64:=by
   have h1:=hI.length
   omega
  refine sorted_ints pl.isList hI hlen fun out ns' a1 a2 a3=>?_
  have hq:=xY a2 a3
  subst hq
  obtain ⟨e',he⟩:=sortedAll_at s.heap us out
  obtain ⟨hz2,q2⟩:=q.lst e aI.Lm hr
  refine ⟨.ref (s.heap.objs.size+1),_,I.laid (t':=s.toks) (o:=.lst ((Ev.sortI ss).map V.int)) (fun b ob q=>sortedAll_old q) (Nat.le_succ _) ?_,rfl,q2 _ (I.hok.fresh (Nat.le_succ _))⟩
  exact ⟨hz2,out.toList,e',vY a1,by simpa [seqObj] using he⟩
theorem HD (a b:List Nat):Builtin.Str.subAt (bh a) (bh b) (a.length - b.length)=decide (a.drop (a.length - b.length)=b)∨a.length<b.length:=by
 by_cases h:a.length<b.length
 ·exact .inr h
 ·refine .inl ?_
  unfold Builtin.Str.subAt
  have e:(bh a).cps.extract (a.length - b.length) (a.length - b.length+(bh b).length)=(a.drop (a.length - b.length)).toArray:=by
   rw [cy]
   show a.toArray.extract _ _=_
   rw [List.extract_toArray]
   congr 1
   rw [List.extract_eq_drop_take]
   rw [List.take_of_length_le (by simp;omega)]
  rw [e]
  show ((a.drop _).toArray==b.toArray)=_
  by_cases q:a.drop (a.length - b.length)=b
  ·simp [q]
  ·rw [decide_eq_false q]
   exact beq_eq_false_iff_ne.mpr fun z=>q (by simpa using z)
theorem Co {X:Cx}:oH X "str.endswith" (ri X.K (Ev.eN .iJ)):=by
 intro pins s σ H x xs v us Q I rx rs q
 obtain ⟨r,h,a,as,d,h',hr,v1,v2,e,q⟩:=q
 cases a with
 | str a=>
  match as,e with
  | [.str b],e=>
   delta Ev.eN at e;dsimp only at e
   cases e
   simp only [RV] at v1
   obtain ⟨rfl,hl⟩:=v1
   obtain ⟨t,rfl⟩:=rx
   simp only [aI,RV] at v2
   obtain ⟨y,w,rfl,⟨rfl,hl2⟩,rfl⟩:=v2
   obtain ⟨u,rfl,ru⟩:=vals1 rs
   obtain ⟨t2,rfl⟩:=ru
   have g:=gives_str_endswith (bh a) (bh b) t t2
   have eb:(decide (0+(bh b).length≤(bh a).length)&&Builtin.Str.subAt (bh a) (bh b) ((bh a).length - (bh b).length))=b.isSuffixOf a:=by
    rw [cy,cy]
    by_cases hlt:a.length<b.length
    ·rw [decide_eq_false (by omega),Bool.false_and]
     refine (Bool.eq_false_iff.mpr fun z=>?_).symm
     have:=(List.isSuffixOf_iff_suffix.mp z).length_le
     omega
    ·rw [decide_eq_true (by omega),Bool.true_and]
     rcases HD a b with e1 | e1
     ·rw [e1]
      by_cases q:a.drop (a.length - b.length)=b
      ·rw [decide_eq_true q]
       exact (List.isSuffixOf_iff_suffix.mpr (List.suffix_iff_eq_drop.mpr q.symm)).symm
      ·rw [decide_eq_false q]
       exact (Bool.eq_false_iff.mpr fun z=>q (List.suffix_iff_eq_drop.mp (List.isSuffixOf_iff_suffix.mp z)).symm).symm
     ·omega
   rw [eb] at g
   refine call_gives F.slot_str_endswith (typeIs_str _ _ _) F.entry_str_endswith (F.args_str_endswith_2 _ _) g ?_
   exact ⟨.bl _,H,I,rfl,q.here rfl hr⟩
 | _=>cases e
end Sm
set_option maxRecDepth 100000
namespace Sm
open PySem PySem.Spec PyProof.Rows L2 PySem.SeqAt
open Ev (D O Hh Fr R aU E Es Eo T S Ss Fl Src bV bQ TY BI ME)
section
variable {G:Tb}{n:Nat}{sc:Scope}{N:List Str}{df:Bool}{m:List Nat}{a b c:E}{xa xb xc:Expr}{pos:Pos}
end
end Sm
set_option maxRecDepth 100000
namespace Sm
open PySem PySem.Spec PyProof.Rows L2 PySem.SeqAt
open Ev (D O Hh Fr R aU E Es Eo T S Ss Fl Src bV bQ TY BI ME)
theorem aI.ofInts {K:PySem.W.Frag}{H:Hp}{r:List Addr}:∀ ns:List Int,aI K H r (ns.map D.int) (ns.map V.int)
 | []=>.nil
 | _ :: l=>.cons rfl (aI.ofInts l)
theorem Ln {K:PySem.W.Frag}{H:Hp}{a:Addr}{vs:List V}(hO:qh H) (hS:fh K H a vs):xB K H a vs:=by
 rcases hS with h | h
 ·rcases h with h | ⟨o,h⟩
  ·rcases hO a with q | ⟨o,xs,q⟩
   ·rw [q] at h;cases h
   ·rw [q] at h;cases h
  ·exact .inl ⟨o,h⟩
 ·exact .inr h
theorem P5 {K:PySem.W.Frag}{F:List Ev.Fn}{w n f:Nat}{H:Hp}{a:Addr}{ns:List Int}(hO:qh H) (hS:fh K H a (ns.map V.int)) {h':Hh}(e:Ev.run F w n f [.ref 0] [.bS (ns.map D.int)]=.ok (.bl true) h') :
  nB K F w n f [.ref a] H (fun v _=>v=.bl true) fun _ _ _=>False:=by
 refine ⟨[a],[.bS (ns.map D.int)],[.ref 0],.bl true,h',.cons (show RV K H [a] (.ref 0) (.ref a) from ⟨a,rfl,rfl⟩) .nil,⟨rfl,fun k o hk=>?_,fun k l b x y _ _ hk _=>?_⟩,e,fun v H' r' v1 _ _=>v1⟩
 ·cases k with
  | zero=>
   simp at hk
   subst hk
   exact ⟨a,rfl,_,Ln hO hS,aI.ofInts ns⟩
  | succ k=>simp at hk
 ·cases k with
  | zero=>simp at hk
  | succ k=>simp at hk
theorem HE {F:List Ev.Fn}{wh n f:Nat}{l:PySem.W.OpenLaw}{q:Program}{loose:List Str}{XP:(Str→Option Value)→Heap→Prop}{YP:World→Heap→Prop}{d:DefRec}{K:Params→PySem.W.Frag}{x:Str}(hn:l.most=some 63) (hdf:d.params.defaults=[]) (hr:gA n callerA)
  (hY:∀ (w:World) (h:Heap),YP w h→(K w.params).In h) (good:∀ ns:List Int,ns.length≤63→∃ h',Ev.run F wh n f [.ref 0] [.bS (ns.map D.int)]=.ok (.bl true) h')
  (Fo:∀ (w:World) (mg:Str→Option Value) (fa:Addr) (h:Heap),(K w.params).In h→h.Ns mainGlobals mg→mg d.name=some (.ref fa)→
   ∃ fd:FuncData,(∀ (s:Shared) (u:Value),BindsTo s fd ⟨[u],[]⟩ [(x,u)])∧∀ base:Heap,(K w.params).In base→base.Ns mainGlobals mg→iw l.prog w (K w.params) mg base lN n fa fd [x] (nB (K w.params) F wh n f)) :
  PySem.W.WalkO q loose XP YP l.row.toRowW d [] (fun f vs=>PySem.call f vs):=
 L2.BJ (n:=63) (k:=n) (x:=x) (CX:=lN) (sp:=fun K=>nB K F wh n f) hn (by decide) hdf hr hY Fo (fun K H a ns hl hO hS=>by
  obtain ⟨h',e⟩:=good ns hl
  exact P5 hO hS e) fun _ _ _ _ z=>z
theorem zX {P:Program}{w:World}{K:PySem.W.Frag}{mg:Str→Option Value}{base:Heap}{G:Tb}(T:Top P w K mg G)
  (st:∀ n,sy P w K mg base G n→sy P w K mg base G (n+1)):∀ n,sy P w K mg base G n
 | 0=>fun f i _=>Hl
 | n+1=>st n (zX T st n)
structure At (K:PySem.W.Frag) (x:Str) (st:Stmt) (i:FI):Prop where
 name:i.name=x
 ns:PySem.W.nsIn K mainGlobals x=some (some (.ref i.addr))
 fu:tE K x x st i.addr i.fd
 bd:Binds K i.fd i.ps []
end Sm
set_option maxRecDepth 100000
namespace Sm
open PySem PySem.Spec PyProof.Rows L2
open Ev (D O Hh Fr R aU E Es Eo It T S Ss Fl Src bV bQ TY BI ME)
section
variable {G:Tb}{n:Nat}{sc:Scope}{N:List Str}{df:Bool}{m:List Nat}{a b c:E}{xa xb xc:Expr}{pos:Pos}
noncomputable def hasB (N:List Str) (m:List Nat) (x:Str) (i:Nat):Bool:=(List.range N.length).any fun j=>m[j]?==some i&&N[j]?==some x
theorem hasB.of {x:Str}{i:Nat}(h:hasB N m x i=true):∃ j:Nat,m[j]?=some i∧N[j]?=some x:=by
 obtain ⟨j,_,q⟩:=List.any_eq_true.mp h
 rw [Bool.and_eq_true] at q
 exact ⟨j,by simpa using q.1,by simpa using q.2⟩
noncomputable def vB (sc:Scope) (N:List Str) (m:List Nat) (x:Str) (i:Nat):Bool:=hasB N m x i&&(sc.names.lookup x==some .local || sc.names.lookup x==some .cell || sc.names.lookup x==some .free)&&!(x==("__debug__" : Str))&&!(x==("__classdict__" : Str))
theorem jv {x:Str}{i:Nat}(h:vB sc N m x i=true):JE G n sc N df m (.v i) (.Name x pos):=by
 unfold vB at h
 simp only [Bool.and_eq_true,Bool.not_eq_true',Bool.or_eq_true] at h
 obtain ⟨⟨⟨h1,h2⟩,h3⟩,h4⟩:=h
 obtain ⟨j,e1,e2⟩:=hasB.of h1
 exact UQ j i e1 e2 (by rcases h2 with (h2 | h2) | h2;exact .inl (by simpa using h2);exact .inr (.inl (by simpa using h2));exact .inr (.inr (by simpa using h2))) h3 h4
noncomputable def gB (sc:Scope) (N:List Str) (df:Bool) (m:List Nat) (x:Str) (i:Nat):Bool:=hasB N m x i&&(sc.names.lookup x==some .local || (df&&sc.names.lookup x==some .cell))&&decide m.Nodup&&decide N.Nodup
theorem gB.of {x:Str}{i:Nat}(h:gB sc N df m x i=true):∃ j:Nat,m[j]?=some i∧N[j]?=some x∧(sc.names.lookup x=some .local∨(df=true∧sc.names.lookup x=some .cell))∧m.Nodup∧N.Nodup:=by
 unfold gB at h
 simp only [Bool.and_eq_true,Bool.or_eq_true] at h
 obtain ⟨⟨⟨h1,h2⟩,h3⟩,h4⟩:=h
 obtain ⟨j,e1,e2⟩:=hasB.of h1
 exact ⟨j,e1,e2,by rcases h2 with h2 | ⟨h2,h5⟩;exact .inl (by simpa using h2);exact .inr ⟨h2,by simpa using h5⟩,of_decide_eq_true h3,of_decide_eq_true h4⟩
theorem Xj {x:Str}{i:Nat}(h:gB sc N df m x i=true):JG G n sc N df m (.one i) (.Name x pos):=by
 obtain ⟨j,e1,e2,e3,e4,e5⟩:=gB.of h
 exact Ky j i e4 e5 e1 e2 e3
theorem Xk {x:Str}{i:Nat}{l:List Nat}{xs:List Expr}(h:gB sc N df m x i=true) (hs:rq G n sc N df m l xs):rq G n sc N df m (i :: l) (.Name x pos :: xs):=by
 obtain ⟨j,e1,e2,e3,e4,e5⟩:=gB.of h
 exact BP j i e4 e5 hs e1 e2 e3
theorem U1 {i:Nat}{x:Str}{pos':Pos}(h:gB sc N df m x i=true) (ha:JE G n sc N df m a xa) (hs:∀ env:Env,swapsWith xa (some (.Name x pos')) pos.line env=pure false:=by intro _;rfl):JS G n sc N df m (.set i a) (.Assign [.Name x pos'] xa pos):=by
 obtain ⟨j,e1,e2,e3,e4,e5⟩:=gB.of h
 exact Kz j i e4 e5 ha hs e1 e2 e3
noncomputable def RK (sc:Scope) (x:Str):Bool:=sc.names.lookup x==some .globalImplicit&&!(x==("__debug__" : Str))
theorem Xl {f:Nat}{i:FI}{es:Es}{x:Str}{e0:Expr}{xs:List Expr}{p:Pos}(h:RK sc x=true) (hf:G.fi[f]?=some i) (hx:i.name=x) (hs:JA G n sc N df m es (e0 :: xs))
  (hst:∀ env:Env,starEach (e0 :: xs) env=(false,eval e0 env) :: starEach xs env:=by intro _;rfl) (hpl:∀ env:Env,(backTo pos (starEach xs env)).any (·.1)=false:=by intro _;rfl) :
  JE G n sc N df m (.cl f es) (.Call (.Name x p) (e0 :: xs) [] pos):=by
 subst hx
 unfold RK at h
 simp only [Bool.and_eq_true,Bool.not_eq_true'] at h
 exact PR hf hs (by simpa using h.1) h.2 hst hpl
noncomputable def Xm:Expr→List Str
 | .Name x _=>[x]
 | .Tuple xs _ _=>xs.filterMap fun y=>match y with | .Name x _=>some x | _=>none
 | _=>[]
noncomputable def RL (N:List Str) (m:List Nat) (scope:Scope):List (Str×Nat):=(N.zip m).filter fun p=>scope.names.contains (p.1,NameKind.free)
noncomputable def cN (N:List Str) (m:List Nat) (scope:Scope) (tg:Expr):List Str:=Xm tg++(RL N m scope).map (·.1)
noncomputable def cM (N:List Str) (m:List Nat) (scope:Scope) (t:T):List Nat:=Ev.slots t++(RL N m scope).map (·.2)
theorem P6 {elt:E}{t:T}{it:Ev.It}{cond:Eo}{tg xi xe:Expr}{ifs:List Expr}{scope:Scope}(hn:oQ sc N m scope t (cN N m scope tg) (cM N m scope t)=true) (hs:EC sc scope=true)
  (hi:JI G n sc N df m it tg xi) (hg:JG G n (eV sc scope) (cN N m scope tg) false (cM N m scope t) t tg) (hc:JC G n (eV sc scope) (cN N m scope tg) false (cM N m scope t) cond ifs)
  (he:JE G n (eV sc scope) (cN N m scope tg) false (cM N m scope t) elt xe) (hf:∀ (env:Env) x,foldedSetIterable xi env x=pure x:=by intro _ _;rfl):JE G n sc N df m (.comp elt t it cond) (.ListComp xe [⟨tg,xi,ifs,0⟩] scope pos):=
 vS hi hg hc he (namesOk.of hn) (jL.of hs) hf
theorem P7 {i:Nat}{x:Str}{pos' cpos:Pos}{elt:E}{t:T}{it:Ev.It}{cond:Eo}{tg xi xe:Expr}{ifs:List Expr}{scope:Scope}(h:gB sc N df m x i=true) (hn:oQ sc N m scope t (cN N m scope tg) (cM N m scope t)=true) (hs:EC sc scope=true)
  (hi:JI G n sc N df m it tg xi) (hg:JG G n (eV sc scope) (cN N m scope tg) false (cM N m scope t) t tg) (hc:JC G n (eV sc scope) (cN N m scope tg) false (cM N m scope t) cond ifs)
  (he:JE G n (eV sc scope) (cN N m scope tg) false (cM N m scope t) elt xe) (hf:∀ (env:Env) x,foldedSetIterable xi env x=pure x:=by intro _ _;rfl) :
  JS G n sc N df m (.set i (.comp elt t it cond)) (.Assign [.Name x pos'] (.ListComp xe [⟨tg,xi,ifs,0⟩] scope cpos) pos):=by
 obtain ⟨j,e1,e2,e3,e4,e5⟩:=gB.of h
 exact Hr j i e4 e5 hi hg hc he (namesOk.of hn) (jL.of hs) e1 e2 e3 hf
theorem U3 {rest:List Expr}(ha:JT G n sc N df m a xa) (hb:JW G n sc N df m b (.BoolOp .And (xb :: rest) pos)):JT G n sc N df m (.an a b) (.BoolOp .And (xa :: xb :: rest) pos):=Kl (Ez ha hb)
theorem U4 {rest:List Expr}(ha:JT G n sc N df m a xa) (hb:JW G n sc N df m b (.BoolOp .Or (xb :: rest) pos)):JT G n sc N df m (.orr a b) (.BoolOp .Or (xa :: xb :: rest) pos):=Kl (zv ha hb)
noncomputable def allB (G:Tb) (n:Nat):List (Ss×Stmt×List Str)→Prop
 | []=>True
 | p :: r=>lE G n (aq p.2.1) p.2.2 true (List.range p.2.2.length) p.1 (aH p.2.1)∧allB G n r
theorem allB.get:∀ {l:List (Ss×Stmt×List Str)}{k:Nat}{p:Ss×Stmt×List Str},allB G n l→l[k]?=some p→lE G n (aq p.2.1) p.2.2 true (List.range p.2.2.length) p.1 (aH p.2.1)
 | [],_,_,_,e=>nomatch e
 | _ :: _,0,_,h,e=>by cases e;exact h.1
 | _ :: r,k+1,p,h,e=>allB.get (l:=r) (k:=k) h.2 (by simpa using e)
end
end Sm
namespace Pv
open Ev (D bV bQ TY BI ME T E Es Eo It S Ss Fn big deep b2i rep cB er bN aS cut cT ef slots)
theorem nd {α:Type _}{a b:α}(h:a=b):a=b:=h
inductive V where
 | bH | bl (b:Bool) | int (i:Int) | str (s:List Nat) | tup (l:List V) | lst (l:List V) | bS (l:List V)
inductive Sl where
 | val (v:V) | own (l:List V) | bor (l:List V) | ro (l:List V)
abbrev Fr:=List (Option Sl)
inductive R (α:Type) where
 | ok (a:α) (fr:Fr)
 | bad
noncomputable def R.bind {α β:Type}(r:R α) (f:α→Fr→R β):R β:=
 match r with
 | .ok a h=>f a h
 | .bad=>.bad
@[simp] theorem ao {α β:Type} (a:α) (h:Fr) (f:α→Fr→R β):(R.ok a h).bind f=f a h:=nd rfl
@[simp] theorem BK {α β:Type} (f:α→Fr→R β):(R.bad:R α).bind f=.bad:=nd rfl
theorem ai {α β:Type}{r:R α}{f:α→Fr→R β}{b:β}{h:Fr}(e:r.bind f=.ok b h):∃ a h1,r=.ok a h1∧f a h1=.ok b h:=by
 cases r with
 | ok a h1=>exact ⟨a,h1,rfl,e⟩
 | bad=>cases e
noncomputable def R.of {α:Type}(o:Option α) (h:Fr):R α:=match o with
 | some a=>.ok a h
 | none=>.bad
@[simp] theorem eF {α:Type} (a:α) (h:Fr):R.of (some a) h=.ok a h:=nd rfl
@[simp] theorem of_none {α:Type} (h:Fr):R.of (none:Option α) h=.bad:=nd rfl
theorem aO {α:Type}{o:Option α}{h h':Fr}{a:α}(e:R.of o h=.ok a h'):o=some a∧h'=h:=by
 cases o with
 | none=>cases e
 | some b=>cases e;exact ⟨rfl,rfl⟩
inductive Fl where
 | nx | bk | ct | ret (v:V)
mutual
noncomputable def ofD:D→Option V
 | .bH=>some .bH
 | .bl b=>some (.bl b)
 | .int i=>some (.int i)
 | .str s=>some (.str s)
 | .tup ds=>(tW ds).map .tup
 | .ref _=>none
noncomputable def tW:List D→Option (List V)
 | []=>some []
 | d :: ds=>(ofD d).bind fun v=>(tW ds).map fun vs=>v :: vs
end
noncomputable def cD (f:V→V→Option Bool):List V→List V→Option Bool
 | [],[]=>some true
 | x :: xs,y :: ys=>(f x y).bind fun b=>(cD f xs ys).bind fun c=>some (b&&c)
 | _,_=>some false
noncomputable def ez:Nat→V→V→Option Bool
 | 0,_,_=>none
 | _+1,.bH,_=>none
 | _+1,.bl _,_=>none
 | _+1,_,.bH=>none
 | _+1,_,.bl _=>none
 | _+1,.int a,.int b=>some (a==b)
 | _+1,.str a,.str b=>some (a==b)
 | n+1,.tup a,.tup b=>cD (ez n) a b
 | n+1,.lst a,.lst b=>cD (ez n) a b
 | n+1,.bS a,.lst b=>cD (ez n) a b
 | n+1,.lst a,.bS b=>cD (ez n) a b
 | _+1,.bS _,.bS _=>none
 | _+1,_,_=>some false
noncomputable def truthy:V→Bool
 | .bH=>false
 | .bl b=>b
 | .int i=>i != 0
 | .str s=>!s.isEmpty
 | .tup ds=>!ds.isEmpty
 | .lst ds=>!ds.isEmpty
 | .bS ds=>!ds.isEmpty
noncomputable def dX (l:List V):Option V:=if l.length≤big then some (.lst l) else none
noncomputable def g8 (l:List V):Option V:=if l.length≤big then some (.tup l) else none
noncomputable def bT:bV→V→V→Option V
 | .add,.int i,.int j=>some (.int (i+j))
 | .add,.str a,.str b=>if a.length+b.length≤big then some (.str (a++b)) else none
 | .add,.tup a,.tup b=>if a.length+b.length≤big then some (.tup (a++b)) else none
 | .add,.lst a,.lst b=>dX (a++b)
 | .sub,.int i,.int j=>some (.int (i - j))
 | .mul,.int i,.int j=>if cB i j then some (.int (i*j)) else none
 | .mul,.str a,.int k=>if 0≤k∧k≤1000∧a.length≤1000 then some (.str (rep k.toNat a)) else none
 | .mul,.tup a,.int k=>if 0≤k∧k≤1000∧a.length≤1000 then some (.tup (rep k.toNat a)) else none
 | .mul,.lst a,.int k=>if 0≤k∧k≤1000∧a.length≤1000 then dX (rep k.toNat a) else none
 | .fdiv,.int i,.int j=>if 0<j∧j<1073741824 then some (.int (i / j)) else none
 | .mod,.int i,.int j=>if 0<j then some (.int (i % j)) else none
 | _,_,_=>none
noncomputable def cop (o:bQ) (x y:V):Option Bool:=match o,x,y with
 | .eq,x,y=>ez deep x y
 | .ne,x,y=>(ez deep x y).map (!·)
 | .lt,.int i,.int j=>some (decide (i<j))
 | .gt,.int i,.int j=>some (decide (j<i))
 | _,_,_=>none
noncomputable def fK (x y:V):Option V:=match x,y with
 | .tup ds,.int i=>bN ds i
 | .str s,.int i=>(bN s i).map fun c=>.str [c]
 | .lst ds,.int i=>bN ds i
 | .bS ds,.int i=>bN ds i
 | _,_=>none
noncomputable def fR (x:V) (lo hi:Option Int):Option V:=match x with
 | .tup ds=>some (.tup (cut ds lo hi))
 | .str s=>some (.str (cut s lo hi))
 | .lst ds=>dX (cut ds lo hi)
 | .bS ds=>dX (cut ds lo hi)
 | _=>none
noncomputable def toT:V→Option V
 | .tup l=>some (.tup l)
 | .lst l=>g8 l
 | .bS l=>g8 l
 | _=>none
noncomputable def lD:V→Option V
 | .tup ds=>some (.tup ds.reverse)
 | .lst ds=>dX ds.reverse
 | .bS ds=>dX ds.reverse
 | _=>none
noncomputable def qw:V→Option V
 | .lst l=>g8 l.reverse
 | _=>none
noncomputable def boolsOf:List V→Option (List Bool)
 | []=>some []
 | .bl b :: ds=>(boolsOf ds).map fun r=>b :: r
 | _=>none
noncomputable def intsOf:List V→Option (List Int)
 | []=>some []
 | .int i :: ds=>(intsOf ds).map fun r=>i :: r
 | _=>none
noncomputable def strsOf:List V→Option (List (List Nat))
 | []=>some []
 | .str s :: ds=>(strsOf ds).map fun r=>s :: r
 | _=>none
noncomputable def oS:V→Option (List V)
 | .lst l=>some l
 | .bS l=>some l
 | _=>none
noncomputable def dz (b:BI) (xs:List V):Option V:=match b,xs with
 | .len,[.str s]=>if s.length≤big then some (.int s.length) else none
 | .len,[.tup ds]=>some (.int ds.length)
 | .len,[x]=>(oS x).map fun ds=>.int ds.length
 | .sum,[x]=>((oS x).bind intsOf).map fun is=>.int is.sum
 | .min,[.int i,.int j]=>some (.int (if j<i then j else i))
 | .jE,[x]=>((oS x).bind intsOf).bind fun ss=>if ss.length<64 then dX ((Ev.sortI ss).map .int) else none
 | _,_=>none
noncomputable def eN (m:ME) (o:V) (xs:List V):Option V:=match m,o,xs with
 | .join,.str sep,[x]=>((oS x).bind strsOf).bind fun ss=>if (ss.map (·.length)).sum+ss.length*sep.length≤big then some (.str (cT sep ss)) else none
 | .iJ,.str a,[.str b]=>some (.bl (b.isSuffixOf a))
 | _,_,_=>none
noncomputable def jG (m:ME) (l:List V) (xs:List V):Option (V×List V):=match m,xs with
 | .append,[x]=>if l.length<big then some (.bH,l++[x]) else none
 | .extend,[.lst es]=>if l.length+es.length≤big then some (.bH,l++es) else none
 | .pop,[]=>match l[l.length - 1]? with
  | some x=>some (x,l.dropLast)
  | none=>none
 | _,_=>none
noncomputable def zY:ME→Bool
 | .extend=>true
 | _=>false
noncomputable def iK:ME→Bool
 | .append=>true
 | .extend=>true
 | .pop=>true
 | _=>false
noncomputable def sj:V→Bool
 | .bH=>true
 | .bl _=>true
 | .int _=>true
 | .str _=>true
 | _=>false
noncomputable def xZ (x:V):List (D×D)→Option V
 | []=>none
 | (k,v) :: r=>match (ofD k).bind fun k'=>ez 1 k' x with
  | some true=>ofD v
  | some false=>xZ x r
  | none=>none
noncomputable def gY (x:V) (kvs:List (D×D)):Option V:=if sj x then xZ x kvs else none
noncomputable def gc:V→Option (List V)
 | .tup ds=>some ds
 | .str s=>some (s.map fun c=>.str [c])
 | .lst ds=>some ds
 | .bS ds=>some ds
 | _=>none
noncomputable def x6:V→Option (List V)
 | .tup ds=>some ds
 | _=>none
noncomputable def range (lo:Int) (n:Nat):List V:=(List.range n).map fun (i:Nat)=>.int (lo+i)
noncomputable def eU:List V→Option (List V)
 | [.int j]=>if -(2 ^ 62)≤j∧j<2 ^ 62 then some (range 0 j.toNat) else none
 | [.int i,.int j]=>if -(2 ^ 62)≤i∧i<2 ^ 62∧-(2 ^ 62)≤j∧j<2 ^ 62 then some (range i (j - i).toNat) else none
 | _=>none
noncomputable def gx:Int→List V→List V
 | _,[]=>[]
 | k,x :: xs=>.tup [.int k,x] :: gx (k+1) xs
noncomputable def put (fr:Fr) (i:Nat) (s:Sl):Option Fr:=match fr[i]? with
 | some (some (.bor _))=>none
 | some (some (.ro _))=>none
 | _=>some (fr.set i (some s))
noncomputable def cQ:List Nat→List V→Fr→Option Fr
 | [],[],fr=>some fr
 | i :: is,d :: ds,fr=>(put fr i (.val d)).bind (cQ is ds)
 | _,_,_=>none
noncomputable def cj:T→V→Fr→Option Fr
 | .one i,d,fr=>put fr i (.val d)
 | .many l,.tup ds,fr=>cQ l ds fr
 | _,_,_=>none
noncomputable def undef (t:T) (fr:Fr):Bool:=(slots t).all fun i=>(fr[i]?.join).isNone
noncomputable def Sl.read:Sl→Sl
 | .own l=>.ro l
 | .bor l=>.ro l
 | s=>s
noncomputable def rL (fr:Fr):Fr:=fr.map (Option.map Sl.read)
noncomputable def Sl.gk:Sl→Sl
 | .own l=>.val (.lst l)
 | s=>s
noncomputable def gf (fr:Fr):Fr:=fr.map (Option.map Sl.gk)
noncomputable def Sl.walk:Sl→Sl
 | .own l=>.val (.lst l)
 | .bor l=>.ro l
 | s=>s
noncomputable def sC (is:List Nat) (fr:Fr):Fr:=is.foldl (fun fr i=>match fr[i]? with
 | some (some s)=>fr.set i (some s.walk)
 | _=>fr) fr
noncomputable def Sl.out:Sl→Option (List V)
 | .bor l=>some l
 | .ro l=>some l
 | _=>none
noncomputable def Sl.lend:Sl→Option Sl
 | .own l=>some (.bor l)
 | .bor l=>some (.bor l)
 | .ro l=>some (.ro l)
 | .val _=>none
noncomputable def lent (fr:Fr) (i:Nat):Option Sl:=match fr[i]? with
 | some (some s)=>s.lend
 | _=>none
noncomputable def Sl.with:Sl→List V→Sl
 | .own _,l=>.own l
 | .bor _,l=>.bor l
 | s,_=>s
noncomputable def back:List Nat→List (List V)→Fr→Option Fr
 | [],[],fr=>some fr
 | i :: is,l :: ls,fr=>match fr[i]? with
  | some (some s)=>back is ls (fr.set i (some (s.with l)))
  | _=>none
 | _,_,_=>none
noncomputable def cL (f:V→Option (Option V)):List V→Option (List V)
 | []=>some []
 | d :: ds=>(f d).bind fun o=>(cL f ds).bind fun r=>some (o.toList++r)
noncomputable def forL (f:V→Fr→R Fl):List V→Fr→R Fl
 | [],fr=>.ok .nx fr
 | d :: ds,fr=>(f d fr).bind fun p ah=>match p with
   | .nx=>forL f ds ah
   | .ct=>forL f ds ah
   | .bk=>.ok .nx ah
   | .ret x=>.ok (.ret x) ah
noncomputable def dU (t:Fr→R Bool) (f:Fr→R Fl):Nat→Fr→R Fl
 | 0,_=>.bad
 | n+1,fr=>(t fr).bind fun b ah=>if b then (f ah).bind fun p ay=>match p with
   | .nx=>dU t f n ay
   | .ct=>dU t f n ay
   | .bk=>.ok .nx ay
   | .ret x=>.ok (.ret x) ay
  else .ok .nx ah
noncomputable def jr:Es→List Nat
 | .nil=>[]
 | .cons (.v i) es=>i :: jr es
 | .cons _ es=>jr es
noncomputable def RM (m:ME):E→List Nat
 | .v i=>if iK m then [i] else []
 | _=>[]
mutual
noncomputable def bW:E→List Nat
 | .c _=>[] | .v _=>[] | .tup es=>fS es | .lst es=>fS es
 | .bin _ a b=>bW a++bW b | .cmp _ a b=>bW a++bW b
 | .nt a=>bW a | .neg a=>bW a | .an a b=>bW a++bW b | .orr a b=>bW a++bW b | .ly t a b=>bW t++(bW a++bW b)
 | .ix a b=>bW a++bW b | .sl a lo hi=>bW a++(jN lo++jN hi)
 | .rv a=>bW a
 | .lz a=>bW a
 | .cl _ es=>fS es++jr es | .bi _ es=>fS es | .me m o es=>bW o++(fS es++RM m o)
 | .comp _ _ it _=>Cp it
 | .gn it=>Cp it
 | .lO _ a=>bW a
 | .iZ a=>bW a
noncomputable def fS:Es→List Nat
 | .nil=>[]
 | .cons e es=>bW e++fS es
noncomputable def jN:Eo→List Nat
 | .no=>[]
 | .yes e=>bW e
noncomputable def Cp:It→List Nat
 | .seq e=>bW e | .gm es=>fS es
 | .enum a=>bW a | .rev a=>bW a
end
noncomputable def kf (a:E) (l:List Nat):Bool:=match a with
 | .v i=>!l.contains i
 | _=>l.isEmpty
noncomputable def itv:It→List Nat
 | .seq (.v i)=>[i]
 | .enum (.v i)=>[i]
 | .rev (.v i)=>[i]
 | _=>[]
abbrev aU:=Nat→List Sl→Option (V×List (List V))
noncomputable def intOf:V→Option Int
 | .int i=>some i
 | _=>none
noncomputable def qx (k:Bool) (fr:Fr) (i:Nat):Option V:=match fr[i]? with
 | some (some (.val v))=>some v
 | some (some (.own l))=>if k then some (.lst l) else none
 | some (some (.bor l))=>if k then some (.lst l) else none
 | some (some (.ro l))=>if k then some (.lst l) else none
 | _=>none
noncomputable def x8 (k:Bool) (fr:Fr) (i:Nat):Option V:=match fr[i]? with
 | some (some (.ro l))=>some (.lst l)
 | _=>qx k fr i
noncomputable def src (k:Bool) (fr:Fr) (e:E) (r:R V):R V:=match e with
 | .v i=>R.of (x8 k fr i) fr
 | _=>r
noncomputable def jZ (fr:Fr):E→Option Nat
 | .v i=>if (lent fr i).isSome then some i else none
 | _=>none
noncomputable def args (fr:Fr):List (Nat ⊕ V)→Option (List Sl)
 | []=>some []
 | .inl i :: r=>(lent fr i).bind fun s=>(args fr r).map fun l=>s :: l
 | .inr v :: r=>(args fr r).map fun l=>.val v :: l
noncomputable def bO:List (Nat ⊕ V)→List Nat
 | []=>[]
 | .inl i :: r=>i :: bO r
 | .inr _ :: r=>bO r
noncomputable def cU (P:aU) (f:Nat) (as:List (Nat ⊕ V)) (fr:Fr):R V:=
 if (bO as).Nodup then match args fr as with
  | some sl=>match P f sl with
   | some (v,outs)=>R.of ((back (bO as) outs fr).map fun ah=>(v,ah)) fr |>.bind fun p _=>.ok p.1 p.2
   | none=>.bad
  | none=>.bad
 else .bad
mutual
noncomputable def ev (P:aU):Bool→E→Fr→R V
 | _,.c d,fr=>R.of (ofD d) fr
 | k,.v i,fr=>R.of (qx k fr i) fr
 | _,.tup es,fr=>(b7 P false es fr).bind fun ds ah=>R.of (g8 ds) ah
 | _,.lst es,fr=>(b7 P false es fr).bind fun ds ah=>R.of (dX ds) ah
 | _,.bin o a b,fr=>(ev P (kf a (bW b)) a fr).bind fun x ah=>(ev P true b ah).bind fun y ay=>R.of (bT o x y) ay
 | _,.cmp o a b,fr=>(ev P (kf a (bW b)) a fr).bind fun x ah=>(ev P true b ah).bind fun y ay=>R.of ((cop o x y).map .bl) ay
 | _,.nt a,fr=>(ev P true a fr).bind fun x ah=>match x with
   | .bl b=>.ok (.bl (!b)) ah
   | _=>.bad
 | _,.neg a,fr=>(ev P true a fr).bind fun x ah=>match x with
   | .int i=>.ok (.int (-i)) ah
   | _=>.bad
 | k,.an a b,fr=>(ev P true a fr).bind fun x ah=>match x with
   | .bl true=>ev P k b ah
   | .bl false=>.ok (.bl false) ah
   | _=>.bad
 | k,.orr a b,fr=>(ev P true a fr).bind fun x ah=>match x with
   | .bl true=>.ok (.bl true) ah
   | .bl false=>ev P k b ah
   | _=>.bad
 | k,.ly t a b,fr=>(aL P t fr).bind fun c ah=>if c then ev P k a ah else ev P k b ah
 | _,.ix a b,fr=>(ev P (kf a (bW b)) a fr).bind fun x ah=>(ev P true b ah).bind fun y ay=>R.of (fK x y) ay
 | _,.sl a lo hi,fr=>(ev P (kf a (jN lo++jN hi)) a fr).bind fun x ah=>(fL P lo ah).bind fun l ay=>(fL P hi ay).bind fun u cX=>R.of (fR x l u) cX
 | _,.rv a,fr=>(ev P true a fr).bind fun x ah=>R.of (lD x) ah
 | _,.lz a,fr=>(ev P true a fr).bind fun x ah=>R.of (qw x) ah
 | _,.cl f es,fr=>(fM P es fr).bind fun as ah=>cU P f as ah
 | _,.bi b es,fr=>(b7 P true es fr).bind fun ds ah=>R.of (dz b ds) ah
 | _,.me m o es,fr=>if iK m then match jZ fr o with
   | some i=>(b7 P (zY m) es fr).bind fun ds ah=>match ah[i]? with
    | some (some (.own l))=>match jG m l ds with
     | some (v,l')=>.ok v (ah.set i (some (.own l')))
     | none=>.bad
    | some (some (.bor l))=>match jG m l ds with
     | some (v,l')=>.ok v (ah.set i (some (.bor l')))
     | none=>.bad
    | _=>.bad
   | none=>.bad
  else (ev P (kf o (fS es)) o fr).bind fun x ah=>(b7 P true es ah).bind fun ds ay=>R.of (eN m x ds) ay
 | _,.comp elt t it cond,fr=>(dc P true it fr).bind fun s ah=>if undef t ah then
   R.of ((cL (fun d=>match cj t d (rL ah) with
    | none=>none
    | some ay=>match gZ P cond ay with
     | .ok c _=>if c then (match ev P false elt ay with | .ok x _=>some (some x) | .bad=>none) else some none
     | .bad=>none) s).bind dX) ah else .bad
 | _,.gn it,fr=>(dc P true it fr).bind fun s ah=>R.of (dX s) ah
 | _,.lO kvs a,fr=>(ev P true a fr).bind fun x ah=>R.of (gY x kvs) ah
 | _,.iZ a,fr=>(ev P true a fr).bind fun x ah=>R.of (toT x) ah
termination_by _ e=>(sizeOf e,0)
noncomputable def b7 (P:aU):Bool→Es→Fr→R (List V)
 | _,.nil,fr=>.ok [] fr
 | k,.cons e es,fr=>(ev P (k&&kf e (fS es)) e fr).bind fun d ah=>(b7 P k es ah).bind fun ds ay=>.ok (d :: ds) ay
termination_by _ e=>(sizeOf e,0)
noncomputable def fM (P:aU):Es→Fr→R (List (Nat ⊕ V))
 | .nil,fr=>.ok [] fr
 | .cons e es,fr=>match jZ fr e with
   | some i=>(fM P es fr).bind fun r ah=>.ok (.inl i :: r) ah
   | none=>(ev P false e fr).bind fun d ah=>(fM P es ah).bind fun r ay=>.ok (.inr d :: r) ay
termination_by e=>(sizeOf e,0)
noncomputable def fL (P:aU):Eo→Fr→R (Option Int)
 | .no,fr=>.ok none fr
 | .yes e,fr=>(ev P true e fr).bind fun d ah=>R.of ((intOf d).map some) ah
termination_by e=>(sizeOf e,0)
noncomputable def gZ (P:aU):Eo→Fr→R Bool
 | .no,fr=>.ok true fr
 | .yes e,fr=>aL P e fr
termination_by e=>(sizeOf e,0)
noncomputable def aL (P:aU):E→Fr→R Bool
 | .an a b,fr=>(aL P a fr).bind fun k ah=>if k then aL P b ah else .ok false ah
 | .orr a b,fr=>(aL P a fr).bind fun k ah=>if k then .ok true ah else aL P b ah
 | .nt a,fr=>(aL P a fr).bind fun k ah=>.ok (!k) ah
 | e,fr=>(ev P true e fr).bind fun x ah=>.ok (truthy x) ah
termination_by e=>(sizeOf e,1)
noncomputable def dc (P:aU):Bool→It→Fr→R (List V)
 | k,.seq e,fr=>(src k fr e (ev P k e fr)).bind fun x ah=>R.of (gc x) ah
 | _,.gm es,fr=>(b7 P true es fr).bind fun ds ah=>R.of (eU ds) ah
 | k,.enum a,fr=>(src k fr a (ev P k a fr)).bind fun x ah=>R.of ((oS x).map fun s=>gx 0 s) ah
 | _,.rev a,fr=>(ev P true a fr).bind fun x ah=>R.of ((x6 x).map fun s=>s.reverse) ah
termination_by _ e=>(sizeOf e,0)
end
noncomputable def isNew:E→Bool
 | .lst _=>true
 | .gn _=>true
 | _=>false
mutual
noncomputable def ex (P:aU) (w:Nat):S→Fr→R Fl
 | .set i e,fr=>(ev P false e fr).bind fun x ah=>if isNew e then (match x with
   | .lst l=>(R.of (put ah i (.own l)) ah).bind fun ay _=>.ok .nx ay
   | _=>.bad)
  else (R.of (put ah i (.val x)) ah).bind fun ay _=>.ok .nx ay
 | .xw l e,fr=>(ev P false e fr).bind fun x ah=>(R.of (cj (.many l) x ah) ah).bind fun ay _=>.ok .nx ay
 | .exp e,fr=>(ev P true e fr).bind fun _ ah=>.ok .nx ah
 | .ret e,fr=>(ev P false e (gf fr)).bind fun x ah=>.ok (.ret x) ah
 | .iff t a b,fr=>(aL P t fr).bind fun k ah=>if k then exs P w a ah else exs P w b ah
 | .for t it b,fr=>(dc P false it (sC (itv it) fr)).bind fun s ah=>forL (fun d ay=>match cj t d ay with
   | some cX=>exs P w b cX
   | none=>.bad) s ah
 | .lP t b,fr=>dU (fun ay=>aL P t ay) (fun ay=>exs P w b ay) w fr
 | .fJ,_=>.bad
noncomputable def exs (P:aU) (w:Nat):Ss→Fr→R Fl
 | .nil,fr=>.ok .nx fr
 | .cons s ss,fr=>(ex P w s fr).bind fun p ah=>match p with
   | .nx=>exs P w ss ah
   | p=>.ok p ah
end
noncomputable def fz (fn:Fn) (ds:List Sl):Fr:=ds.map some++List.replicate (fn.ns - fn.np) none
noncomputable def outs (np:Nat) (fr:Fr):List (List V):=(fr.take np).filterMap fun o=>o.bind Sl.out
noncomputable def run (F:List Fn) (w:Nat):Nat→aU
 | 0,_,_=>none
 | n+1,f,ds=>match F[f]? with
  | some fn=>if ds.length=fn.np then match exs (run F w n) w fn.body (fz fn ds) with
    | .ok (.ret v) fr=>some (v,outs fn.np fr)
    | .ok .nx fr=>some (.bH,outs fn.np fr)
    | _=>none
   else none
  | none=>none
end Pv
namespace Pv
open Ev (D O Hh bV bQ TY BI ME T E Es Eo It S Ss Fn big deep b2i rep cB er bN aS cut cT ef slots bu)
section
variable (h:Hh)(S:Nat→Prop)
mutual
noncomputable def Rep:V→D→Prop
 | .bH,d=>d=.bH
 | .bl b,d=>d=.bl b
 | .int i,d=>d=.int i
 | .str s,d=>d=.str s
 | .tup l,d=>∃ ds,d=.tup ds∧az l ds
 | .lst l,d=>∃ n ds,d=.ref n∧S n∧h[n]?=some (.lst ds)∧az l ds
 | .bS l,d=>∃ n ds,d=.ref n∧S n∧h[n]?=some (.bS ds)∧az l ds
noncomputable def az:List V→List D→Prop
 | [],ds=>ds=[]
 | v :: vs,ds=>∃ d es,ds=d :: es∧Rep v d∧az vs es
end
noncomputable def br:V→D→Prop
 | .lst l,d=>∃ n ds,d=.ref n∧h[n]?=some (.lst ds)∧az h S l ds
 | v,d=>Rep h S v d
noncomputable def fN:List V→List D→Prop
 | [],ds=>ds=[]
 | v :: vs,ds=>∃ d es,ds=d :: es∧br h S v d∧fN vs es
end
abbrev U:Nat→Prop:=fun _=>True
section
variable {h h':Hh}{S S':Nat→Prop}
mutual
theorem Rep.mono (f:∀ m,S m→h'[m]?=h[m]?) (g:∀ m,S m→S' m):∀ {v:V}{d:D},Rep h S v d→Rep h' S' v d
 | .bH,_,q=>q
 | .bl _,_,q=>q
 | .int _,_,q=>q
 | .str _,_,q=>q
 | .tup l,_,⟨ds,a,b⟩=>⟨ds,a,az.mono f g b⟩
 | .lst l,_,⟨n,ds,a,b,c,e⟩=>⟨n,ds,a,g n b,by rw [f n b];exact c,az.mono f g e⟩
 | .bS l,_,⟨n,ds,a,b,c,e⟩=>⟨n,ds,a,g n b,by rw [f n b];exact c,az.mono f g e⟩
theorem az.mono (f:∀ m,S m→h'[m]?=h[m]?) (g:∀ m,S m→S' m):∀ {v:List V}{d:List D},az h S v d→az h' S' v d
 | [],_,q=>q
 | _ :: _,_,⟨d,es,a,b,c⟩=>⟨d,es,a,Rep.mono f g b,az.mono f g c⟩
end
theorem az.nil:az h S [] []:=by simp [az]
theorem az.cons {v:V}{d:D}{vs:List V}{ds:List D}(a:Rep h S v d) (b:az h S vs ds):az h S (v :: vs) (d :: ds):=by simp only [az];exact ⟨d,ds,rfl,a,b⟩
theorem Rep.top {v:V}{d:D}(q:Rep h S v d):br h S v d:=by
 cases v <;> first | exact q | (obtain ⟨n,ds,a,b,c,e⟩:=q;exact ⟨n,ds,a,c,e⟩)
theorem br.u {v:V}{d:D}(q:br h S v d):Rep h U v d:=by
 cases v with
 | lst l=>obtain ⟨n,ds,a,b,c⟩:=q;exact ⟨n,ds,a,trivial,b,c.mono (fun _ _=>rfl) fun _ _=>trivial⟩
 | _=>exact Rep.mono (S:=S) (fun _ _=>rfl) (fun _ _=>trivial) q
theorem az.u {v:List V}{d:List D}(q:az h S v d):az h U v d:=q.mono (fun _ _=>rfl) fun _ _=>trivial
theorem br.mono {v:V}{d:D}(f:∀ m,m<h.length→h'[m]?=h[m]?) (k:∀ m,S m→m<h.length) (g:∀ m,S m→S' m) (q:br h S v d):br h' S' v d:=by
 cases v with
 | lst l=>
  obtain ⟨n,ds,a,b,c⟩:=q
  exact ⟨n,ds,a,by rw [f n (List.getElem?_eq_some_iff.mp b).1];exact b,c.mono (fun m z=>f m (k m z)) g⟩
 | _=>exact Rep.mono (fun m z=>f m (k m z)) g q
theorem az.length:∀ {v:List V}{d:List D},az h S v d→v.length=d.length
 | [],_,q=>by simp only [az] at q;subst q;rfl
 | _ :: _,_,q=>by simp only [az] at q;obtain ⟨d,es,rfl,_,c⟩:=q;simp [c.length]
theorem az.get:∀ {v:List V}{d:List D}{i:Nat}{x:V},az h S v d→v[i]?=some x→∃ y,d[i]?=some y∧Rep h S x y
 | [],_,_,_,_,e=>by simp at e
 | _ :: _,_,0,_,q,e=>by
  simp only [az] at q
  obtain ⟨d,es,rfl,b,_⟩:=q
  simp at e;subst e
  exact ⟨d,by simp,b⟩
 | _ :: _,_,i+1,_,q,e=>by
  simp only [az] at q
  obtain ⟨d,es,rfl,_,c⟩:=q
  obtain ⟨y,a,b⟩:=c.get (i:=i) (by simpa using e)
  exact ⟨y,by simpa using a,b⟩
theorem az.append:∀ {v w:List V}{d e:List D},az h S v d→az h S w e→az h S (v++w) (d++e)
 | [],_,_,_,a,b=>by simp only [az] at a;subst a;simpa using b
 | _ :: _,_,_,_,a,b=>by
  simp only [az] at a
  obtain ⟨d,es,rfl,x,y⟩:=a
  exact .cons x (y.append b)
theorem az.take:∀ {v:List V}{d:List D}(n:Nat),az h S v d→az h S (v.take n) (d.take n)
 | _,_,0,_=>by simp [az]
 | [],_,_+1,a=>by simp only [az] at a;subst a;simp [az]
 | _ :: _,_,n+1,a=>by
  simp only [az] at a
  obtain ⟨d,es,rfl,x,y⟩:=a
  simp only [List.take_succ_cons]
  exact .cons x (y.take n)
theorem az.drop:∀ {v:List V}{d:List D}(n:Nat),az h S v d→az h S (v.drop n) (d.drop n)
 | _,_,0,a=>by simpa using a
 | [],_,_+1,a=>by simp only [az] at a;subst a;simp [az]
 | _ :: _,_,n+1,a=>by
  simp only [az] at a
  obtain ⟨d,es,rfl,x,y⟩:=a
  simp only [List.drop_succ_cons]
  exact y.drop n
theorem az.dropLast:∀ {v:List V}{d:List D},az h S v d→az h S v.dropLast d.dropLast:=fun {v d} a=>by
 rw [List.dropLast_eq_take,List.dropLast_eq_take,a.length];exact a.take _
theorem az.reverse:∀ {v:List V}{d:List D},az h S v d→az h S v.reverse d.reverse
 | [],_,a=>by simp only [az] at a;subst a;simp [az]
 | _ :: _,_,a=>by
  simp only [az] at a
  obtain ⟨d,es,rfl,x,y⟩:=a
  simp only [List.reverse_cons]
  exact y.reverse.append (.cons x .nil)
theorem az.rep {v:List V}{d:List D}(a:az h S v d):∀ k:Nat,az h S (Ev.rep k v) (Ev.rep k d)
 | 0=>by simp [Ev.rep,az]
 | k+1=>by
  have z:=az.rep a k
  simp only [Ev.rep,List.replicate_succ,List.flatten_cons] at z ⊢
  exact a.append z
theorem az.cut {v:List V}{d:List D}(a:az h S v d) (lo hi:Option Int):az h S (Ev.cut v lo hi) (Ev.cut d lo hi):=by
 unfold Ev.cut
 rw [a.length]
 exact (a.drop _).take _
theorem az.map {α:Type}{f:α→V}{g:α→D}(q:∀ a,Rep h S (f a) (g a)):∀ l:List α,az h S (l.map f) (l.map g)
 | []=>.nil
 | _ :: l=>.cons (q _) (az.map q l)
mutual
theorem Rep.uniq:∀ {v w:V}{d:D},Rep h U v d→Rep h U w d→v=w
 | .bH,w,_,a,b=>by simp only [Rep] at a;subst a;cases w <;> simp [Rep] at b <;> rfl
 | .bl _,w,_,a,b=>by simp only [Rep] at a;subst a;cases w <;> simp [Rep] at b <;> rw [b]
 | .int _,w,_,a,b=>by simp only [Rep] at a;subst a;cases w <;> simp [Rep] at b <;> rw [b]
 | .str _,w,_,a,b=>by simp only [Rep] at a;subst a;cases w <;> simp [Rep] at b <;> rw [b]
 | .tup l,w,_,a,b=>by
  simp only [Rep] at a;obtain ⟨ds,rfl,a⟩:=a
  cases w <;> simp [Rep] at b
  rw [az.uniq a b]
 | .lst l,w,_,a,b=>by
  simp only [Rep] at a;obtain ⟨n,ds,rfl,_,a1,a⟩:=a
  cases w <;> simp [Rep] at b
  ·obtain ⟨ds',b1,b⟩:=b
   rw [a1] at b1;cases b1
   rw [az.uniq a b]
  ·obtain ⟨ds',b1,b⟩:=b
   rw [a1] at b1;cases b1
 | .bS l,w,_,a,b=>by
  simp only [Rep] at a;obtain ⟨n,ds,rfl,_,a1,a⟩:=a
  cases w <;> simp [Rep] at b
  ·obtain ⟨ds',b1,b⟩:=b
   rw [a1] at b1;cases b1
  ·obtain ⟨ds',b1,b⟩:=b
   rw [a1] at b1;cases b1
   rw [az.uniq a b]
theorem az.uniq:∀ {v w:List V}{d:List D},az h U v d→az h U w d→v=w
 | [],w,_,a,b=>by simp only [az] at a;subst a;cases w <;> simp [az] at b;rfl
 | x :: xs,w,_,a,b=>by
  simp only [az] at a;obtain ⟨d,es,rfl,a1,a2⟩:=a
  cases w <;> simp only [az] at b
  ·cases b
  obtain ⟨d',es',e,b1,b2⟩:=b
  cases e
  rw [Rep.uniq a1 b1,az.uniq a2 b2]
end
theorem tY {n:Nat}(f:∀ v b,ez n v v=some b→b=true):∀ l b,cD (ez n) l l=some b→b=true
 | [],b,e=>by simp [cD] at e;exact e
 | x :: xs,b,e=>by
  simp only [cD,Option.bind_eq_some_iff] at e
  obtain ⟨c,e1,c2,e2,e⟩:=e
  rw [f x c e1,tY f xs c2 e2] at e
  simpa using e.symm
theorem tZ:∀ n v b,ez n v v=some b→b=true
 | 0,_,_,e=>by cases e
 | n+1,v,b,e=>by
  cases v <;> first | exact tY (tZ n) _ _ e | (cases e <;> first | rfl | exact beq_self_eq_true _)
theorem t6 {n:Nat}(f:∀ {v w:V}{d e:D}{b},ez n v w=some b→Rep h U v d→Rep h U w e→Ev.iu h n d e=some b):∀ {l m:List V}{ds es:List D}{b},cD (ez n) l m=some b→az h U l ds→az h U m es→Ev.cD (Ev.iu h n) ds es=some b
 | [],[],_,_,b,e,p,q=>by simp only [az] at p q;subst p q;simpa [cD,Ev.cD] using e
 | [],_ :: _,_,_,b,e,p,q=>by simp only [az] at p q;subst p;obtain ⟨_,_,rfl,_⟩:=q;simpa [cD,Ev.cD] using e
 | _ :: _,[],_,_,b,e,p,q=>by simp only [az] at p q;subst q;obtain ⟨_,_,rfl,_⟩:=p;simpa [cD,Ev.cD] using e
 | x :: xs,y :: ys,_,_,b,e,p,q=>by
  simp only [az] at p q
  obtain ⟨d,ds,rfl,p1,p2⟩:=p
  obtain ⟨d',ds',rfl,q1,q2⟩:=q
  simp only [cD,Option.bind_eq_some_iff] at e
  obtain ⟨c,e1,c2,e2,e⟩:=e
  simp [Ev.cD,f e1 p1 q1,t6 f e2 p2 q2]
  simpa using e
theorem gD {n:Nat}{ds:List D}(q:h[n]?=some (.lst ds)):bu h n=some ds:=by simp [bu,q]
theorem iz {n:Nat}{ds:List D}(q:h[n]?=some (.bS ds)):bu h n=some ds:=by simp [bu,q]
theorem j0:∀ (n:Nat) {v w:V}{d e:D}{b},ez n v w=some b→Rep h U v d→Rep h U w e→Ev.iu h n d e=some b
  | 0,_,_,_,_,_,e,_,_=>by cases e
  | n+1,v,w,d,e,b,x,p,q=>by
    by_cases hr:∃ m,d=.ref m∧e=.ref m
    · obtain ⟨m,rfl,rfl⟩:=hr
      have hvw:=p.uniq q
      subst hvw
      have hb:=tZ _ _ _ x
      subst hb
      cases v <;> simp [Rep] at p
      · obtain ⟨ds,p1,p2⟩:=p;show Ev.jw _ _ _ _=_;rw [Ev.jw,if_pos rfl,gD p1];rfl
      · obtain ⟨ds,p1,p2⟩:=p;show Ev.jw _ _ _ _=_;rw [Ev.jw,if_pos rfl,iz p1];rfl
    · cases v <;> cases w <;> simp only [Rep] at p q <;>
      first
      | (subst p;subst q;exact x)
      | (obtain ⟨ds,rfl,p⟩:=p;subst q;exact x)
      | (obtain ⟨ds,rfl,q⟩:=q;subst p;exact x)
      | (obtain ⟨ds,rfl,p⟩:=p;obtain ⟨es,rfl,q⟩:=q;exact t6 (fun a b c=>j0 n a b c) x p q)
      | (cases x;done)
      | (obtain ⟨m,ds,rfl,_,p1,p⟩:=p;obtain ⟨k,es,rfl,_,q1,q⟩:=q
         have hne:m≠k:=fun z=>hr ⟨m,rfl,by rw [z]⟩
         show Ev.jw _ _ _ _=_
         rw [Ev.jw,if_neg hne,p1,q1];exact t6 (fun a b c=>j0 n a b c) x p q)
      | (cases x;obtain ⟨m,ds,rfl,_,p1,p⟩:=p;subst q;exact congrArg (Option.map fun _=>false) (gD p1))
      | (cases x;obtain ⟨m,ds,rfl,_,p1,p⟩:=p;subst q;exact congrArg (Option.map fun _=>false) (iz p1))
      | (cases x;obtain ⟨m,ds,rfl,_,p1,p⟩:=p;obtain ⟨es,rfl,q⟩:=q;exact congrArg (Option.map fun _=>false) (gD p1))
      | (cases x;obtain ⟨m,ds,rfl,_,p1,p⟩:=p;obtain ⟨es,rfl,q⟩:=q;exact congrArg (Option.map fun _=>false) (iz p1))
      | (cases x;obtain ⟨m,ds,rfl,_,q1,q⟩:=q;subst p;exact congrArg (Option.map fun _=>false) (gD q1))
      | (cases x;obtain ⟨m,ds,rfl,_,q1,q⟩:=q;subst p;exact congrArg (Option.map fun _=>false) (iz q1))
      | (cases x;obtain ⟨m,ds,rfl,_,q1,q⟩:=q;obtain ⟨es,rfl,p⟩:=p;exact congrArg (Option.map fun _=>false) (gD q1))
      | (cases x;obtain ⟨m,ds,rfl,_,q1,q⟩:=q;obtain ⟨es,rfl,p⟩:=p;exact congrArg (Option.map fun _=>false) (iz q1))
end
end Pv
namespace Pv
open Ev (D O Hh bV bQ TY BI ME T E Es Eo It S Ss Fn big deep b2i rep cB er bN aS cut cT ef slots bu)
structure Al (h:Hh) (S:Nat→Prop) (h':Hh) (S':Nat→Prop):Prop where
 len:h.length≤h'.length
 keep:∀ m,m<h.length→h'[m]?=h[m]?
 sub:∀ m,S m→S' m
 new:∀ m,S' m→S m∨(h.length≤m∧m<h'.length)
section
variable {h h':Hh}{S S':Nat→Prop}
theorem Al.refl:Al h S h S:=⟨Nat.le_refl _,fun _ _=>rfl,fun _ q=>q,fun _ q=>.inl q⟩
theorem Al.snoc (o:O):Al h S (h++[o]) (fun m=>S m∨m=h.length) where
 len:=by simp
 keep:=fun m q=>by rw [List.getElem?_append_left q]
 sub:=fun _ q=>.inl q
 new:=fun m q=>by
  rcases q with q | q
  ·exact .inl q
  ·subst q;exact .inr ⟨Nat.le_refl _,by simp⟩
theorem gq {l:List V}{v:V}{ds:List D}(w:∀ m,S m→m<h.length) (e:dX l=some v) (q:az h S l ds):∃ r h' S',Ev.alloc ds h=.ok r h'∧Rep h' S' v r∧Al h S h' S':=by
 unfold dX at e
 split at e
 ·rename_i z
  cases e
  refine ⟨.ref h.length,h++[.lst ds],fun m=>S m∨m=h.length,by unfold Ev.alloc;rw [if_pos (by rw [←q.length];exact z)],?_,Al.snoc _⟩
  simp only [Rep]
  refine ⟨h.length,ds,rfl,.inr rfl,by simp,q.mono (fun m z=>?_) fun _ z=>.inl z⟩
  rw [List.getElem?_append_left (w m z)]
 ·cases e
theorem lY {v:V}{l:List V}{d:D}(e:oS v=some l) (q:br h S v d):∃ n ds,d=.ref n∧bu h n=some ds∧az h S l ds:=by
 cases v <;> simp [oS] at e
 ·subst e;simp only [br] at q;obtain ⟨n,ds,rfl,a,b⟩:=q;exact ⟨n,ds,rfl,gD a,b⟩
 ·subst e;simp only [br,Rep] at q;obtain ⟨n,ds,rfl,_,a,b⟩:=q;exact ⟨n,ds,rfl,iz a,b⟩
mutual
theorem lZ:∀ {d:D}{v:V},ofD d=some v→Rep h S v d
 | .bH,_,e=>by simp [ofD] at e;subst e;simp [Rep]
 | .bl _,_,e=>by simp [ofD] at e;subst e;simp [Rep]
 | .int _,_,e=>by simp [ofD] at e;subst e;simp [Rep]
 | .str _,_,e=>by simp [ofD] at e;subst e;simp [Rep]
 | .ref _,_,e=>by simp [ofD] at e
 | .tup ds,_,e=>by
  simp [ofD] at e
  obtain ⟨vs,e,rfl⟩:=e
  exact ⟨ds,rfl,vZ e⟩
theorem vZ:∀ {d:List D}{v:List V},tW d=some v→az h S v d
 | [],_,e=>by simp [tW] at e;subst e;exact .nil
 | d :: ds,_,e=>by
  simp only [tW,Option.bind_eq_some_iff,Option.map_eq_some_iff] at e
  obtain ⟨v,e1,vs,e2,rfl⟩:=e
  exact .cons (lZ e1) (vZ e2)
end
theorem az.emp {l:List V}{ds:List D}(q:az h S l ds):ds.isEmpty=l.isEmpty:=by
 have:=q.length
 cases l <;> cases ds <;> simp at this ⊢
theorem zZ {v:V}{d:D}(q:br h S v d):Ev.truthy h d=some (truthy v):=by
 cases v <;> simp only [br,Rep] at q
 ·subst q;rfl
 ·subst q;rfl
 ·subst q;rfl
 ·subst q;rfl
 ·obtain ⟨ds,rfl,q⟩:=q;simp only [Ev.truthy,truthy,q.emp]
 ·obtain ⟨n,ds,rfl,a,q⟩:=q;simp only [Ev.truthy,truthy,gD a,Option.map,q.emp]
 ·obtain ⟨n,ds,rfl,_,a,q⟩:=q;simp only [Ev.truthy,truthy,iz a,Option.map,q.emp]
theorem nn {α:Type}{v:α}{p:Prop}(z:none=some v):p:=Option.noConfusion rfl (heq_of_eq z)
theorem Lo {o:bV}{x y v:V}{d e:D}(w:∀ m,S m→m<h.length) (z:bT o x y=some v) (p:br h S x d) (q:br h S y e):∃ r h' S',Ev.bT o d e h=.ok r h'∧Rep h' S' v r∧Al h S h' S':=by
 cases o <;> cases x <;> first | exact nn z | (cases y <;> first | exact nn z | skip)
 all_goals (delta bT at z;dsimp only at z;simp only [br,Rep] at p q)
 ·subst p q;cases z;exact ⟨_,_,S,rfl,rfl,.refl⟩
 ·subst p q;split at z
  ·rename_i k;cases z;exact ⟨_,_,S,by delta Ev.bT;dsimp only;rw [if_pos k],rfl,.refl⟩
  ·cases z
 ·obtain ⟨ds,rfl,p⟩:=p;obtain ⟨es,rfl,q⟩:=q;split at z
  ·rename_i k;cases z;exact ⟨_,_,S,by delta Ev.bT;dsimp only;rw [if_pos (by rw [←p.length,←q.length];exact k)],⟨_,rfl,p.append q⟩,.refl⟩
  ·cases z
 ·obtain ⟨n,ds,rfl,a,p⟩:=p;obtain ⟨m,es,rfl,b,q⟩:=q
  delta Ev.bT;dsimp only;simp only [a,b]
  exact gq w z (p.append q)
 ·subst p q;cases z;exact ⟨_,_,S,rfl,rfl,.refl⟩
 ·subst p q;split at z
  ·rename_i k;cases z;exact ⟨_,_,S,by delta Ev.bT;dsimp only;rw [if_pos k],rfl,.refl⟩
  ·cases z
 ·subst p q;split at z
  ·rename_i k;cases z;exact ⟨_,_,S,by delta Ev.bT;dsimp only;rw [if_pos k],rfl,.refl⟩
  ·cases z
 ·obtain ⟨ds,rfl,p⟩:=p;subst q;split at z
  ·rename_i k;cases z;exact ⟨_,_,S,by delta Ev.bT;dsimp only;rw [if_pos (by rw [←p.length];exact k)],⟨_,rfl,p.rep _⟩,.refl⟩
  ·cases z
 ·obtain ⟨n,ds,rfl,a,p⟩:=p;subst q;split at z
  ·rename_i k
   delta Ev.bT;dsimp only;simp only [a]
   rw [if_pos (by rw [←p.length];exact k)]
   exact gq w z (p.rep _)
  ·cases z
 ·subst p q;split at z
  ·rename_i k;cases z;exact ⟨_,_,S,by delta Ev.bT;dsimp only;rw [if_pos k],rfl,.refl⟩
  ·cases z
 ·subst p q;split at z
  ·rename_i k;cases z;exact ⟨_,_,S,by delta Ev.bT;dsimp only;rw [if_pos k],rfl,.refl⟩
  ·cases z
theorem Lp {o:bQ}{x y:V}{d e:D}{b:Bool}(z:cop o x y=some b) (p:Rep h U x d) (q:Rep h U y e):Ev.cop o d e h=some b:=by
 cases o
 case eq=>delta cop at z;dsimp only at z;delta Ev.cop;dsimp only;exact j0 deep z p q
 case ne=>
  delta cop at z;dsimp only at z;simp only [Option.map_eq_some_iff] at z;obtain ⟨c,z,rfl⟩:=z
  delta Ev.cop;dsimp only;simp only [j0 deep z p q];rfl
 all_goals (
  cases x <;> first | exact nn z | (cases y <;> first | exact nn z | skip)
  simp only [Rep] at p q;subst p q;exact z)
theorem x9 {l:List V}{ds:List D}{i:Int}{v:V}(e:bN l i=some v) (q:az h S l ds):∃ d,bN ds i=some d∧Rep h S v d:=by
 unfold bN at e ⊢
 rw [q.length] at e
 cases z:er ds.length i with
 | none=>rw [z] at e;cases e
 | some j=>rw [z] at e;exact q.get e
theorem Lq {x y v:V}{d e:D}(z:fK x y=some v) (p:br h S x d) (q:br h S y e):∃ r,Ev.fK d e h=some r∧Rep h S v r:=by
 cases x <;> cases y <;> simp only [fK,reduceCtorEq] at z <;> simp only [br,Rep] at p q
 ·subst p q
  simp only [Option.map_eq_some_iff] at z
  obtain ⟨c,z,rfl⟩:=z
  exact ⟨.str [c],by simp [Ev.fK,z],rfl⟩
 ·obtain ⟨ds,rfl,p⟩:=p;subst q;simpa [Ev.fK] using x9 z p
 ·obtain ⟨n,ds,rfl,a,p⟩:=p;subst q;simpa [Ev.fK,gD a] using x9 z p
 ·obtain ⟨n,ds,rfl,_,a,p⟩:=p;subst q;simpa [Ev.fK,iz a] using x9 z p
theorem Lr {x v:V}{d:D}{lo hi:Option Int}(w:∀ m,S m→m<h.length) (z:fR x lo hi=some v) (p:br h S x d):∃ r h' S',Ev.fR d lo hi h=.ok r h'∧Rep h' S' v r∧Al h S h' S':=by
 cases x <;> simp only [fR,reduceCtorEq] at z <;> simp only [br,Rep] at p
 ·subst p;cases z;exact ⟨_,_,S,rfl,rfl,.refl⟩
 ·obtain ⟨ds,rfl,p⟩:=p;cases z;exact ⟨_,_,S,rfl,⟨_,rfl,p.cut _ _⟩,.refl⟩
 ·obtain ⟨n,ds,rfl,a,p⟩:=p;simp only [Ev.fR,gD a];exact gq w z (p.cut _ _)
 ·obtain ⟨n,ds,rfl,_,a,p⟩:=p;simp only [Ev.fR,iz a];exact gq w z (p.cut _ _)
theorem Ls {x v:V}{d:D}(w:∀ m,S m→m<h.length) (z:lD x=some v) (p:br h S x d):∃ r h' S',Ev.lD d h=.ok r h'∧Rep h' S' v r∧Al h S h' S':=by
 cases x <;> simp only [lD,reduceCtorEq] at z <;> simp only [br,Rep] at p
 ·obtain ⟨ds,rfl,p⟩:=p;cases z;exact ⟨_,_,S,rfl,⟨_,rfl,p.reverse⟩,.refl⟩
 ·obtain ⟨n,ds,rfl,a,p⟩:=p;simp only [Ev.lD,gD a];exact gq w z p.reverse
 ·obtain ⟨n,ds,rfl,_,a,p⟩:=p;simp only [Ev.lD,iz a];exact gq w z p.reverse
theorem HF {x v:V}{d:D}(z:qw x=some v) (p:br h S x d):∃ r,Ev.xA d h=.ok r h∧Rep h S v r:=by
 cases x <;> simp only [qw,reduceCtorEq] at z <;> simp only [br,Rep] at p
 obtain ⟨n,ds,rfl,a,p⟩:=p
 unfold g8 at z
 split at z
 ·rename_i k;cases z
  refine ⟨.tup ds.reverse,?_,⟨_,rfl,p.reverse⟩⟩
  rw [List.length_reverse] at k
  simp only [Ev.xA,gD a];rw [if_pos (by rw [←p.length];exact k)]
 ·cases z
theorem Lu {x v:V}{d:D}(z:toT x=some v) (p:br h S x d):∃ r,Ev.qi d h=.ok r h∧Rep h S v r:=by
 cases x <;> simp only [toT,reduceCtorEq] at z <;> simp only [br,Rep] at p
 ·obtain ⟨ds,rfl,p⟩:=p;cases z;exact ⟨_,rfl,⟨_,rfl,p⟩⟩
 ·obtain ⟨n,ds,rfl,a,p⟩:=p
  unfold g8 at z
  split at z
  ·rename_i k;cases z
   refine ⟨.tup ds,?_,⟨_,rfl,p⟩⟩
   simp only [Ev.qi,gD a];rw [if_pos (by rw [←p.length];exact k)]
  ·cases z
 ·obtain ⟨n,ds,rfl,_,a,p⟩:=p
  unfold g8 at z
  split at z
  ·rename_i k;cases z
   refine ⟨.tup ds,?_,⟨_,rfl,p⟩⟩
   simp only [Ev.qi,iz a];rw [if_pos (by rw [←p.length];exact k)]
  ·cases z
theorem HG {x:V}{l:List V}{d:D}(z:oS x=some l) (p:br h S x d):∃ s,Ev.BN h d=some s∧az h S l s.1∧(∀ q∈s.2,d=.ref q.1∧bu h q.1=some q.2):=by
 obtain ⟨n,ds,rfl,a,q⟩:=lY z p
 exact ⟨(ds,[(n,ds)]),by simp [Ev.BN,a],q,by simp [a]⟩
theorem Cq:∀ {l:List V}{ds:List D}{bs},boolsOf l=some bs→az h S l ds→Ev.boolsOf ds=some bs
 | [],_,_,e,q=>by simp only [az] at q;subst q;exact e
 | x :: xs,_,bs,e,q=>by
  cases x <;> simp only [boolsOf,reduceCtorEq,Option.map_eq_some_iff] at e
  obtain ⟨r,e,rfl⟩:=e
  simp only [az,Rep] at q
  obtain ⟨_,ds,rfl,rfl,q⟩:=q
  simp [Ev.boolsOf,Cq e q]
theorem qy:∀ {l:List V}{ds:List D}{bs},intsOf l=some bs→az h S l ds→Ev.intsOf ds=some bs
 | [],_,_,e,q=>by simp only [az] at q;subst q;exact e
 | x :: xs,_,bs,e,q=>by
  cases x <;> simp only [intsOf,reduceCtorEq,Option.map_eq_some_iff] at e
  obtain ⟨r,e,rfl⟩:=e
  simp only [az,Rep] at q
  obtain ⟨_,ds,rfl,rfl,q⟩:=q
  simp [Ev.intsOf,qy e q]
theorem v5:∀ {l:List V}{ds:List D}{bs},strsOf l=some bs→az h S l ds→Ev.strsOf ds=some bs
 | [],_,_,e,q=>by simp only [az] at q;subst q;exact e
 | x :: xs,_,bs,e,q=>by
  cases x <;> simp only [strsOf,reduceCtorEq,Option.map_eq_some_iff] at e
  obtain ⟨r,e,rfl⟩:=e
  simp only [az,Rep] at q
  obtain ⟨_,ds,rfl,rfl,q⟩:=q
  simp [Ev.strsOf,v5 e q]
theorem fN.one {v:V}{ds:List D}(q:fN h S [v] ds):∃ d,ds=[d]∧br h S v d:=by
 simp only [fN] at q
 obtain ⟨d,es,rfl,a,rfl⟩:=q
 exact ⟨d,rfl,a⟩
theorem Lv {b:BI}{xs:List V}{v:V}{ds:List D}(w:∀ m,S m→m<h.length) (z:dz b xs=some v) (p:fN h S xs ds):∃ r h' S',Ev.dz b ds h=.ok r h'∧Rep h' S' v r∧Al h S h' S':=by
 delta dz at z
 rcases xs with _ | ⟨x,_ | ⟨y,_ | ⟨u,xs⟩⟩⟩
 ·cases b <;> exact nn z
 ·obtain ⟨d,rfl,p1⟩:=p.one
  cases b
  case len=>
   cases x
   case str s=>
    dsimp only at z;simp only [br,Rep] at p1;subst p1
    split at z
    ·rename_i k;cases z;exact ⟨_,_,S,by delta Ev.dz;dsimp only;rw [if_pos k],rfl,.refl⟩
    ·cases z
   case tup l=>
    dsimp only at z;simp only [br,Rep] at p1;obtain ⟨es,rfl,p2⟩:=p1
    cases z;exact ⟨_,_,S,rfl,by simp [Rep,p2.length],.refl⟩
   all_goals
    dsimp only at z
    simp only [Option.map_eq_some_iff] at z;obtain ⟨l,z,rfl⟩:=z
    obtain ⟨n,es,rfl,a,q⟩:=lY z p1
    exact ⟨.int es.length,h,S,by delta Ev.dz;dsimp only;simp [a],by simp [Rep,q.length],.refl⟩
  case sum=>
   dsimp only at z
   simp only [Option.map_eq_some_iff,Option.bind_eq_some_iff] at z;obtain ⟨bs,⟨l,z,z2⟩,rfl⟩:=z
   obtain ⟨n,es,rfl,a,q⟩:=lY z p1
   exact ⟨_,_,S,by delta Ev.dz;dsimp only;simp only [a,Option.bind,qy z2 q];rfl,rfl,.refl⟩
  case min=>cases x <;> exact nn z
  case jE=>
   dsimp only at z
   simp only [Option.bind_eq_some_iff] at z;obtain ⟨ss,⟨l,z,z2⟩,z3⟩:=z
   obtain ⟨n,es,rfl,a,q⟩:=lY z p1
   split at z3
   ·rename_i hl
    delta Ev.dz;dsimp only;simp only [a,Option.bind,qy z2 q]
    rw [if_pos hl]
    exact gq w z3 (az.map (f:=V.int) (g:=D.int) (fun s=>by simp [Rep]) _)
   ·cases z3
 ·cases b
  case min=>
   cases x
   case int i=>
    cases y
    case int j=>
     dsimp only at z
     simp only [fN,br,Rep] at p;obtain ⟨_,_,rfl,rfl,_,_,rfl,rfl,rfl⟩:=p
     cases z;exact ⟨_,_,S,rfl,rfl,.refl⟩
    all_goals exact nn z
   all_goals exact nn z
  case len=>cases x <;> exact nn z
  all_goals exact nn z
 ·cases b
  case min=>cases x <;> (try cases y) <;> exact nn z
  case len=>cases x <;> exact nn z
  all_goals exact nn z
theorem Lx {m:ME}{o:V}{xs:List V}{v:V}{d:D}{ds:List D}(z:eN m o xs=some v) (hm:iK m=false) (po:br h S o d) (p:fN h S xs ds):Ev.vK m d h=true∧∃ r,Ev.eN m d ds h=.ok r h∧Rep h S v r:=by
 unfold eN at z
 split at z
 ·obtain ⟨d,rfl,p1⟩:=p.one;simp only [br,Rep] at po;subst po
  simp only [Option.bind_eq_some_iff] at z;obtain ⟨ss,⟨l,z,z2⟩,z3⟩:=z
  obtain ⟨n,es,rfl,a,q⟩:=lY z p1
  split at z3
  ·rename_i k;cases z3
   refine ⟨rfl,_,?_,rfl⟩
   delta Ev.eN;dsimp only;simp only [a,Option.bind,v5 z2 q]
   rw [if_pos k]
  ·cases z3
 ·obtain ⟨d',rfl,p1⟩:=p.one;simp only [br,Rep] at po p1;subst po p1
  cases z
  exact ⟨rfl,_,rfl,rfl⟩
 ·cases z
theorem HH {x:V}{d:D}(f:sj x=true) (p:Rep h U x d):Rep [] U x d:=by
 cases x <;> simp only [sj,Bool.false_eq_true] at f <;> exact p
theorem Cr {x:V}{d:D}(p:Rep h U x d):∀ {kvs:List (D×D)}{v:V},gY x kvs=some v→∃ r,Ev.gY d kvs=some r∧Rep h S v r:=by
 intro kvs v z
 unfold gY at z
 split at z
 ·rename_i f
  have p':=HH f p
  induction kvs with
  | nil=>cases z
  | cons kv r ih=>
   obtain ⟨k,u⟩:=kv
   simp only [xZ] at z
   simp only [Ev.gY]
   split at z
   ·rename_i y
    simp only [Option.bind_eq_some_iff] at y
    obtain ⟨k',y1,y2⟩:=y
    rw [j0 1 y2 (lZ y1) p']
    exact ⟨u,rfl,lZ z⟩
   ·rename_i y
    simp only [Option.bind_eq_some_iff] at y
    obtain ⟨k',y1,y2⟩:=y
    rw [j0 1 y2 (lZ y1) p']
    exact ih z
   ·cases z
 ·cases z
theorem Ct {x:V}{l:List V}{d:D}(z:gc x=some l) (p:br h S x d):∃ s,Ev.gc h d=some s∧az h S l s.1∧(∀ q∈s.2,d=.ref q.1∧bu h q.1=some q.2):=by
 cases x <;> simp only [gc,reduceCtorEq] at z <;> simp only [br,Rep] at p
 ·subst p;cases z;exact ⟨_,rfl,az.map (f:=fun c=>V.str [c]) (g:=fun c=>D.str [c]) (fun _=>by simp [Rep]) _,by simp⟩
 ·obtain ⟨ds,rfl,p⟩:=p;cases z;exact ⟨_,rfl,p,by simp⟩
 ·obtain ⟨n,ds,rfl,a,p⟩:=p;cases z;exact ⟨(ds,[(n,ds)]),by simp [Ev.gc,gD a],p,by simp [gD a]⟩
 ·obtain ⟨n,ds,rfl,_,a,p⟩:=p;cases z;exact ⟨(ds,[(n,ds)]),by simp [Ev.gc,iz a],p,by simp [iz a]⟩
theorem t7 (lo:Int) (n:Nat):az h S (range lo n) (Ev.range lo n):=az.map (f:=fun (i:Nat)=>V.int (lo+i)) (g:=fun (i:Nat)=>D.int (lo+i)) (fun _=>by simp [Rep]) _
theorem Ly {xs l:List V}{ds:List D}(z:eU xs=some l) (p:fN h S xs ds):∃ s,Ev.eU ds=some (s,[])∧az h S l s:=by
 unfold eU at z
 split at z
 ·obtain ⟨d,rfl,p1⟩:=p.one;simp only [br,Rep] at p1;subst p1
  split at z
  ·rename_i k;cases z;exact ⟨_,by simp only [Ev.eU];rw [if_pos k],t7 _ _⟩
  ·cases z
 ·simp only [fN,br,Rep] at p;obtain ⟨_,_,rfl,rfl,_,_,rfl,rfl,rfl⟩:=p
  split at z
  ·rename_i k;cases z;exact ⟨_,by simp only [Ev.eU];rw [if_pos k],t7 _ _⟩
  ·cases z
 ·cases z
theorem v8:∀ {a:List V}{ds:List D}(k:Int),az h S a ds→az h S (gx k a) (Ev.gx k ds)
 | [],_,_,p=>by simp only [az] at p;subst p;simp [gx,Ev.gx,az]
 | x :: xs,_,k,p=>by
  simp only [az] at p
  obtain ⟨d,ds,rfl,p1,p2⟩:=p
  simp only [gx,Ev.gx]
  exact .cons ⟨_,rfl,.cons rfl (.cons p1 .nil)⟩ (v8 _ p2)
end
end Pv
namespace Pv
open Ev (D O Hh bV bQ TY BI ME T E Es Eo It S Ss Fn big deep b2i rep cB er bN aS cut cT ef slots bu)
noncomputable def jX (M B:Nat→Prop) (h:Hh) (S:Nat→Prop):Option Sl→Option D→Prop
 | none,p=>p=none
 | some (.val v),p=>∃ d,p=some d∧Rep h S v d
 | some (.own l),p=>∃ m ds,p=some (.ref m)∧(M m∧¬ B m)∧h[m]?=some (.lst ds)∧az h S l ds
 | some (.bor l),p=>∃ m ds,p=some (.ref m)∧(M m∧B m)∧h[m]?=some (.lst ds)∧az h S l ds
 | some (.ro l),p=>∃ m ds,p=some (.ref m)∧¬ M m∧h[m]?=some (.lst ds)∧az h S l ds
noncomputable def gM:Option Sl→Bool
 | some (.own _)=>true
 | some (.bor _)=>true
 | _=>false
noncomputable def v9:Option Sl→Bool
 | some (.bor _)=>true
 | some (.ro _)=>true
 | _=>false
noncomputable def locked (fr:Fr) (i:Nat):Bool:=match fr[i]? with
 | some o=>v9 o
 | none=>false
structure bC (M B:Nat→Prop) (h:Hh) (S:Nat→Prop) (fr:Fr) (ak:Ev.Fr):Prop where
 wS:∀ m,S m→m<h.length∧¬ M m∧¬ B m
 wM:∀ m,M m→m<h.length
 wB:∀ m,B m→m<h.length
 len:fr.length=ak.length
 sl:∀ (i:Nat) o p,fr[i]?=some o→ak[i]?=some p→jX M B h S o p
 inj:∀ (i j:Nat) o o' m,fr[i]?=some o→fr[j]?=some o'→gM o=true→gM o'=true→ak[i]?=some (some (.ref m))→ak[j]?=some (some (.ref m))→i=j
structure Tk (X:Nat→Prop) (h:Hh) (S:Nat→Prop) (h':Hh) (S':Nat→Prop):Prop where
 len:h.length≤h'.length
 keep:∀ m,m<h.length→¬ X m→h'[m]?=h[m]?
 sub:∀ m,S m→S' m
 new:∀ m,S' m→S m∨(h.length≤m∧m<h'.length)
noncomputable def Xs (M:Nat→Prop) (ak:Ev.Fr) (l:List Nat):Nat→Prop:=fun m=>M m∧∃ i∈l,ak[i]?=some (some (.ref m))
structure Out (M B:Nat→Prop) (c:List Nat) (h:Hh) (S:Nat→Prop) (fr:Fr) (ak:Ev.Fr) (h':Hh) (S':Nat→Prop) (ah:Fr):Prop where
 f:bC M B h' S' ah ak
 tr:Tk (Xs M ak c) h S h' S'
 lk:∀ i,locked ah i=locked fr i
section
variable {M B M':Nat→Prop}{h h' h1 h2:Hh}{S S' S1 S2:Nat→Prop}{fr ah ay:Fr}{ak:Ev.Fr}{c c1 c2:List Nat}{v:V}{d:D}{X X1 X2:Nat→Prop}
theorem bC.get (f:bC M B h S fr ak) {i:Nat}{o:Option Sl}(e:fr[i]?=some o):∃ p,ak[i]?=some p∧jX M B h S o p:=by
 have h1:=(List.getElem?_eq_some_iff.mp e).1
 rw [f.len] at h1
 exact ⟨ak[i],List.getElem?_eq_getElem h1,f.sl i o _ e (List.getElem?_eq_getElem h1)⟩
theorem bC.w (f:bC M B h S fr ak):∀ m,S m→m<h.length:=fun m q=>(f.wS m q).1
theorem Al.tr (a:Al h S h' S'):Tk X h S h' S':=⟨a.len,fun m q _=>a.keep m q,a.sub,a.new⟩
theorem Tk.al (t:Tk X h S h' S') (z:∀ m,¬ X m):Al h S h' S':=⟨t.len,fun m q=>t.keep m q (z m),t.sub,t.new⟩
theorem Tk.weak (t:Tk X h S h' S') (q:∀ m,X m→X1 m):Tk X1 h S h' S':=⟨t.len,fun m k z=>t.keep m k fun y=>z (q m y),t.sub,t.new⟩
theorem Tk.trans (a:Tk X1 h S h1 S1) (b:Tk X2 h1 S1 h2 S2):Tk (fun m=>X1 m∨X2 m) h S h2 S2 where
 len:=Nat.le_trans a.len b.len
 keep:=fun m q z=>by rw [b.keep m (Nat.lt_of_lt_of_le q a.len) (fun y=>z (.inr y)),a.keep m q (fun y=>z (.inl y))]
 sub:=fun m q=>b.sub m (a.sub m q)
 new:=fun m q=>by
  rcases b.new m q with q | ⟨q1,q2⟩
  ·rcases a.new m q with q | ⟨q1,q2⟩
   ·exact .inl q
   ·exact .inr ⟨q1,Nat.lt_of_lt_of_le q2 b.len⟩
  ·exact .inr ⟨Nat.le_trans a.len q1,q2⟩
theorem Al.trans (a:Al h S h1 S1) (b:Al h1 S1 h2 S2):Al h S h2 S2:=((a.tr (X:=fun _=>False)).trans (b.tr (X:=fun _=>False))).al fun m z=>by simp at z
theorem Tk.refl:Tk X h S h S:=⟨Nat.le_refl _,fun _ _ _=>rfl,fun _ q=>q,fun _ q=>.inl q⟩
theorem Xs.app {l1 l2:List Nat}{m:Nat}:Xs M ak (l1++l2) m↔Xs M ak l1 m∨Xs M ak l2 m:=by
 unfold Xs
 constructor
 ·rintro ⟨a,i,hi,e⟩
  rcases List.mem_append.mp hi with hi | hi
  ·exact .inl ⟨a,i,hi,e⟩
  ·exact .inr ⟨a,i,hi,e⟩
 ·rintro (⟨a,i,hi,e⟩ | ⟨a,i,hi,e⟩)
  ·exact ⟨a,i,List.mem_append.mpr (.inl hi),e⟩
  ·exact ⟨a,i,List.mem_append.mpr (.inr hi),e⟩
theorem Xs.nil {m:Nat}:¬ Xs M ak [] m:=by rintro ⟨_,i,hi,_⟩;simp at hi
theorem Xs.mono {l1 l2:List Nat}(q:∀ i∈l1,i∈l2) {m:Nat}:Xs M ak l1 m→Xs M ak l2 m:=fun ⟨a,i,hi,e⟩=>⟨a,i,q i hi,e⟩
theorem Rep.tr (q:Rep h S v d) (f:bC M B h S fr ak) (t:Tk (Xs M ak c) h S h' S'):Rep h' S' v d:=q.mono (fun m z=>t.keep m (f.wS m z).1 (fun y=>(f.wS m z).2.1 y.1)) t.sub
theorem az.tr {l:List V}{ds:List D}(q:az h S l ds) (f:bC M B h S fr ak) (t:Tk (Xs M ak c) h S h' S'):az h' S' l ds:=q.mono (fun m z=>t.keep m (f.wS m z).1 (fun y=>(f.wS m z).2.1 y.1)) t.sub
theorem br.tr (q:br h S v d) (f:bC M B h S fr ak) (t:Tk X h S h' S') (z:∀ m,¬ X m):br h' S' v d:=q.mono (fun m k=>t.keep m k (z m)) f.w t.sub
theorem jX.al {o:Option Sl}{p:Option D}(q:jX M B h S o p) (w:∀ m,S m→m<h.length) (a:Al h S h' S'):jX M B h' S' o p:=by
 have k:∀ m,S m→h'[m]?=h[m]?:=fun m z=>a.keep m (w m z)
 have g:∀ (m:Nat) (ds:List D),h[m]?=some (O.lst ds)→h'[m]?=some (O.lst ds):=fun m ds z=>by rw [a.keep m (List.getElem?_eq_some_iff.mp z).1];exact z
 rcases o with _ | s
 ·exact q
 ·cases s with
  | val v=>obtain ⟨d,e,q⟩:=q;exact ⟨d,e,q.mono k a.sub⟩
  | own l=>obtain ⟨m,ds,e,z,y,q⟩:=q;exact ⟨m,ds,e,z,g m ds y,q.mono k a.sub⟩
  | bor l=>obtain ⟨m,ds,e,z,y,q⟩:=q;exact ⟨m,ds,e,z,g m ds y,q.mono k a.sub⟩
  | ro l=>obtain ⟨m,ds,e,z,y,q⟩:=q;exact ⟨m,ds,e,z,g m ds y,q.mono k a.sub⟩
theorem bC.al (f:bC M B h S fr ak) (a:Al h S h' S'):bC M B h' S' fr ak where
 wS:=fun m q=>by
  rcases a.new m q with q | ⟨q1,q2⟩
  ·exact ⟨Nat.lt_of_lt_of_le (f.wS m q).1 a.len,(f.wS m q).2⟩
  ·exact ⟨q2,fun z=>by have:=f.wM m z;omega,fun z=>by have:=f.wB m z;omega⟩
 wM:=fun m q=>Nat.lt_of_lt_of_le (f.wM m q) a.len
 wB:=fun m q=>Nat.lt_of_lt_of_le (f.wB m q) a.len
 len:=f.len
 sl:=fun i o p e1 e2=>(f.sl i o p e1 e2).al f.w a
 inj:=f.inj
theorem Out.refl (f:bC M B h S fr ak):Out M B c h S fr ak h S fr:=⟨f,.refl,fun _=>rfl⟩
theorem Out.trans (a:Out M B c1 h S fr ak h1 S1 ah) (b:Out M B c2 h1 S1 ah ak h2 S2 ay):Out M B (c1++c2) h S fr ak h2 S2 ay:=⟨b.f,(a.tr.trans b.tr).weak fun m z=>Xs.app.mpr z,fun i=>(b.lk i).trans (a.lk i)⟩
theorem Out.al (a:Out M B c h S fr ak h1 S1 ah) (b:Al h1 S1 h2 S2):Out M B c h S fr ak h2 S2 ah:=⟨a.f.al b,(a.tr.trans (b.tr (X:=fun _=>False))).weak (fun m z=>by rcases z with z | z;exact z;exact z.elim),a.lk⟩
theorem Out.weak (a:Out M B c h S fr ak h1 S1 ah) (q:∀ i∈c,i∈c1):Out M B c1 h S fr ak h1 S1 ah:=⟨a.f,a.tr.weak fun m z=>Xs.mono q z,a.lk⟩
noncomputable def fT (k:Bool) (h:Hh) (S:Nat→Prop) (v:V) (d:D):Prop:=if k=true then br h S v d else Rep h S v d
theorem fT.of {k:Bool}(q:Rep h S v d):fT k h S v d:=by unfold fT;split;exact q.top;exact q
theorem fT.t {k:Bool}(q:fT k h S v d):br h S v d:=by unfold fT at q;split at q;exact q;exact q.top
theorem fT.n (q:fT false h S v d):Rep h S v d:=by simpa [fT] using q
theorem bC.slot (f:bC M B h S fr ak) {i m:Nat}(e:ak[i]?=some (some (.ref m))) (hm:M m):∃ o,fr[i]?=some o∧gM o=true:=by
 have hl:i<fr.length:=by rw [f.len];exact (List.getElem?_eq_some_iff.mp e).1
 refine ⟨fr[i],List.getElem?_eq_getElem hl,?_⟩
 have s:=f.sl i _ _ (List.getElem?_eq_getElem hl) e
 revert s
 generalize fr[i]=o
 intro s
 rcases o with _ | s'
 ·cases s
 ·cases s' with
  | own l=>rfl
  | bor l=>rfl
  | ro l=>obtain ⟨m',ds,e,y,_⟩:=s;cases e;exact absurd hm y
  | val v=>
   obtain ⟨d,e,q⟩:=s
   cases e
   exfalso
   cases v <;> simp only [Rep,reduceCtorEq] at q
   ·obtain ⟨_,e,_⟩:=q;cases e
   ·obtain ⟨n,ds,e,sn,_⟩:=q;cases e;exact (f.wS _ sn).2.1 hm
   ·obtain ⟨n,ds,e,sn,_⟩:=q;cases e;exact (f.wS _ sn).2.1 hm
theorem fT.tr {k:Bool}{a:E}(q:fT k h S v d) (f:bC M B h S fr ak) (t:Tk (Xs M ak c) h S h' S') (hk:k=true→kf a c=true) (ha:∀ i,a=.v i→ak[i]?.join=some d):fT k h' S' v d:=by
 unfold fT at q ⊢
 split at q
 ·rename_i e
  rw [if_pos e]
  have hk:=hk e
  have gen:c=[]→br h' S' v d:=fun z=>q.tr f t fun m y=>by subst z;exact Xs.nil y
  by_cases hv:∃ i,a=.v i
  ·obtain ⟨i0,rfl⟩:=hv
   simp only [kf,Bool.not_eq_true',List.contains_eq_mem,decide_eq_false_iff_not] at hk
   cases v
   case lst l=>
    simp only [br] at q ⊢
    obtain ⟨n,ds,rfl,b1,b2⟩:=q
    refine ⟨n,ds,rfl,?_,b2.tr f t⟩
    rw [t.keep n (List.getElem?_eq_some_iff.mp b1).1 ?_]
    ·exact b1
    ·rintro ⟨mn,j,hj,ej⟩
     have e2:ak[i0]?=some (some (D.ref n)):=by
      have:=ha i0 rfl
      cases z:ak[i0]? with
      | none=>rw [z] at this;cases this
      | some p=>rw [z] at this;simp at this;rw [this]
     obtain ⟨o1,y1,y2⟩:=f.slot e2 mn
     obtain ⟨o2,y3,y4⟩:=f.slot ej mn
     have:=f.inj i0 j o1 o2 n y1 y3 y2 y4 e2 ej
     subst this
     exact hk hj
   all_goals exact Rep.tr (show Rep h S _ d from q) f t
  ·have:kf a c=c.isEmpty:=by
    cases a <;> first | rfl | exact absurd ⟨_,rfl⟩ hv
   rw [this,List.isEmpty_iff] at hk
   exact gen hk
 ·rename_i e
  rw [if_neg e]
  exact q.tr f t
theorem HJ {k:Bool}{i:Nat}(e:qx k fr i=some v) (f:bC M B h S fr ak):∃ d,ak[i]?.join=some d∧fT k h S v d:=by
  unfold qx at e
  split at e
  · rename_i z
    obtain ⟨p,e1,q⟩:=f.get z
    obtain ⟨d,rfl,q⟩:=q
    cases e
    exact ⟨d,by rw [e1];rfl,.of q⟩
  all_goals first
    | (rename_i z
       obtain ⟨p,e1,q⟩:=f.get z
       obtain ⟨m,ds,rfl,_,y,q⟩:=q
       split at e
       · rename_i hk
         cases e
         exact ⟨.ref m,by rw [e1];rfl,by unfold fT;rw [if_pos hk];exact ⟨m,ds,rfl,y,q⟩⟩
       · cases e)
    | cases e
theorem jl {i:Nat}{s:Sl}(e:lent fr i=some s) (f:bC M B h S fr ak):∃ m ds l o,fr[i]?=some o∧ak[i]?=some (some (.ref m))∧h[m]?=some (.lst ds)∧az h S l ds∧((s=.bor l∧M m∧gM o=true)∨(s=.ro l∧¬ M m∧o=some (.ro l))):=by
 unfold lent at e
 split at e
 ·rename_i s' z
  obtain ⟨p,e1,q⟩:=f.get z
  cases s' with
  | val v=>simp [Sl.lend] at e
  | own l=>
   simp [Sl.lend] at e;subst e
   obtain ⟨m,ds,rfl,y,y1,q⟩:=q
   exact ⟨m,ds,l,_,z,e1,y1,q,.inl ⟨rfl,y.1,rfl⟩⟩
  | bor l=>
   simp [Sl.lend] at e;subst e
   obtain ⟨m,ds,rfl,y,y1,q⟩:=q
   exact ⟨m,ds,l,_,z,e1,y1,q,.inl ⟨rfl,y.1,rfl⟩⟩
  | ro l=>
   simp [Sl.lend] at e;subst e
   obtain ⟨m,ds,rfl,y,y1,q⟩:=q
   exact ⟨m,ds,l,_,z,e1,y1,q,.inr ⟨rfl,y,rfl⟩⟩
 ·cases e
noncomputable def t8 (h:Hh) (S:Nat→Prop) (ak:Ev.Fr):List (Nat ⊕ V)→List D→Prop
 | [],ds=>ds=[]
 | .inl i :: r,ds=>∃ d es,ds=d :: es∧ak[i]?=some (some d)∧t8 h S ak r es
 | .inr v :: r,ds=>∃ d es,ds=d :: es∧Rep h S v d∧t8 h S ak r es
noncomputable def mh (h:Hh) (S:Nat→Prop):List Sl→List D→List (List V)→Prop
 | [],_,os=>os=[]
 | .val _ :: sl,ds,os=>∃ d es,ds=d :: es∧mh h S sl es os
 | .own _ :: _,_,_=>False
 | _ :: sl,ds,os=>∃ d es l r m cs,ds=d :: es∧os=l :: r∧d=.ref m∧h[m]?=some (.lst cs)∧az h S l cs∧mh h S sl es r
noncomputable def oU (P:aU) (P':Ev.aU):Prop:=∀ f sl v os,P f sl=some (v,os)→∀ (h:Hh) (S B:Nat→Prop) (ds:List D),bC B B h S (sl.map some) (ds.map some)→
 ∃ d h' S',P' f ds h=.ok d h'∧Rep h' S' v d∧Tk B h S h' S'∧mh h' S' sl ds os
theorem args_get (f:bC M B h S fr ak):∀ {as:List (Nat ⊕ V)}{sl:List Sl}{ds:List D},args fr as=some sl→t8 h S ak as ds→sl.length=ds.length∧∀ (a:Nat) s d,sl[a]?=some s→ds[a]?=some d→
  (∃ i,as[a]?=some (.inl i)∧lent fr i=some s∧ak[i]?=some (some d))∨(∃ v,s=.val v∧Rep h S v d)
 | [],sl,ds,e,q=>by
  simp [args] at e;simp only [t8] at q;subst e q;simp
 | .inl i :: r,sl,ds,e,q=>by
  simp only [args,Option.bind_eq_some_iff,Option.map_eq_some_iff] at e
  obtain ⟨s,e1,l,e2,rfl⟩:=e
  obtain ⟨d,es,rfl,q1,q⟩:=q
  obtain ⟨h1,h2⟩:=args_get f e2 q
  refine ⟨by simp [h1],fun a s' d' z1 z2=>?_⟩
  cases a with
  | zero=>simp at z1 z2;subst z1 z2;exact .inl ⟨i,by simp,e1,q1⟩
  | succ a=>exact (h2 a s' d' (by simpa using z1) (by simpa using z2)).imp (fun ⟨i,k,z⟩=>⟨i,by simpa using k,z⟩) id
 | .inr v :: r,sl,ds,e,q=>by
  simp only [args,Option.map_eq_some_iff] at e
  obtain ⟨l,e2,rfl⟩:=e
  obtain ⟨d,es,rfl,q1,q⟩:=q
  obtain ⟨h1,h2⟩:=args_get f e2 q
  refine ⟨by simp [h1],fun a s' d' z1 z2=>?_⟩
  cases a with
  | zero=>simp at z1 z2;subst z1 z2;exact .inr ⟨v,rfl,q1⟩
  | succ a=>exact (h2 a s' d' (by simpa using z1) (by simpa using z2)).imp (fun ⟨i,k,z⟩=>⟨i,by simpa using k,z⟩) id
theorem gO:∀ {as:List (Nat ⊕ V)}{a i:Nat},as[a]?=some (.inl i)→i∈bO as
 | [],_,_,e=>by simp at e
 | .inl j :: r,0,i,e=>by simp at e;subst e;simp [bO]
 | .inr j :: r,0,i,e=>by simp at e
 | .inl j :: r,a+1,i,e=>by have:=gO (as:=r) (a:=a) (i:=i) (by simpa using e);simp [bO,this]
 | .inr j :: r,a+1,i,e=>by have:=gO (as:=r) (a:=a) (i:=i) (by simpa using e);simp [bO,this]
theorem mj:∀ {as:List (Nat ⊕ V)}{a b i:Nat},(bO as).Nodup→as[a]?=some (.inl i)→as[b]?=some (.inl i)→a=b
 | [],_,_,_,_,e,_=>by simp at e
 | x :: r,0,0,_,_,_,_=>rfl
 | .inr j :: r,0,b+1,i,n,e,_=>by simp at e
 | .inl j :: r,0,b+1,i,n,e,e2=>by
  simp at e;subst e
  simp only [bO,List.nodup_cons] at n
  exact absurd (gO (as:=r) (a:=b) (by simpa using e2)) n.1
 | .inr j :: r,a+1,0,i,n,_,e=>by simp at e
 | .inl j :: r,a+1,0,i,n,e2,e=>by
  simp at e;subst e
  simp only [bO,List.nodup_cons] at n
  exact absurd (gO (as:=r) (a:=a) (by simpa using e2)) n.1
 | .inl j :: r,a+1,b+1,i,n,e1,e2=>by
  simp only [bO,List.nodup_cons] at n
  have:=mj (as:=r) (a:=a) (b:=b) (i:=i) n.2 (by simpa using e1) (by simpa using e2)
  omega
 | .inr j :: r,a+1,b+1,i,n,e1,e2=>by
  simp only [bO] at n
  have:=mj (as:=r) (a:=a) (b:=b) (i:=i) n (by simpa using e1) (by simpa using e2)
  omega
theorem Cu {s:Sl}{l:List V}:gM (some (s.with l))=gM (some s):=by cases s <;> rfl
theorem wc {s:Sl}{l:List V}:v9 (some (s.with l))=v9 (some s):=by cases s <;> rfl
theorem t9:∀ {is:List Nat}{ls:List (List V)}{fr ah:Fr},back is ls fr=some ah→is.Nodup→ah.length=fr.length∧(∀ i,i∉is→ah[i]?=fr[i]?)∧∀ i∈is,∃ (k:Nat) (s:Sl) (l:List V),is[k]?=some i∧ls[k]?=some l∧fr[i]?=some (some s)∧ah[i]?=some (some (s.with l))
 | [],[],fr,ah,e,_=>by simp [back] at e;subst e;simp
 | [],_ :: _,_,_,e,_=>by simp [back] at e
 | _ :: _,[],_,_,e,_=>by simp [back] at e
 | i :: is,l :: ls,fr,ah,e,n=>by
  simp only [back] at e
  simp only [List.nodup_cons] at n
  split at e
  ·rename_i s z
   obtain ⟨h1,h2,h3⟩:=t9 e n.2
   refine ⟨by simpa using h1,fun j hj=>?_,fun j hj=>?_⟩
   ·simp at hj
    rw [h2 j hj.2,List.getElem?_set_ne (fun q=>hj.1 q.symm)]
   ·rcases List.mem_cons.mp hj with rfl | hj
    ·exact ⟨0,s,l,by simp,by simp,z,by rw [h2 j n.1,List.getElem?_set_self (List.getElem?_eq_some_iff.mp z).1]⟩
    ·obtain ⟨k,s',l',a,b,c,d⟩:=h3 j hj
     have hne:i≠j:=fun q=>n.1 (q▸hj)
     rw [List.getElem?_set_ne hne] at c
     exact ⟨k+1,s',l',by simpa using a,by simpa using b,c,d⟩
  ·cases e
theorem mq (f:bC M B h S fr ak):∀ {as:List (Nat ⊕ V)}{sl:List Sl}{ds:List D}{os:List (List V)},args fr as=some sl→t8 h S ak as ds→mh h' S' sl ds os→
  ∀ (k i:Nat) l,(bO as)[k]?=some i→os[k]?=some l→∃ m cs,ak[i]?=some (some (.ref m))∧h'[m]?=some (.lst cs)∧az h' S' l cs
 | [],sl,ds,os,e,q,o=>by simp [bO]
 | .inl i :: r,sl,ds,os,e,q,o=>by
  simp only [args,Option.bind_eq_some_iff,Option.map_eq_some_iff] at e
  obtain ⟨s,e1,l,e2,rfl⟩:=e
  obtain ⟨d,es,rfl,q1,q⟩:=q
  obtain ⟨m,cs,l0,o0,_,z2,z3,z4,z5⟩:=jl e1 f
  have key:∃ l1 r1 cs,os=l1 :: r1∧h'[m]?=some (.lst cs)∧az h' S' l1 cs∧mh h' S' l es r1:=by
   rw [q1] at z2;cases z2
   rcases z5 with ⟨rfl,_⟩ | ⟨rfl,_⟩
   ·obtain ⟨d',es',l1,r1,m1,z8,a1,a2,a3,a4,a5,a6⟩:=o
    cases a1;cases a3
    exact ⟨l1,r1,z8,a2,a4,a5,a6⟩
   ·obtain ⟨d',es',l1,r1,m1,z8,a1,a2,a3,a4,a5,a6⟩:=o
    cases a1;cases a3
    exact ⟨l1,r1,z8,a2,a4,a5,a6⟩
  obtain ⟨l1,r1,z8,rfl,a4,a5,a6⟩:=key
  intro k j l' y1 y2
  cases k with
  | zero=>simp [bO] at y1 y2;subst y1 y2;exact ⟨m,z8,z2,a4,a5⟩
  | succ k=>exact mq f e2 q a6 k j l' (by simpa [bO] using y1) (by simpa using y2)
 | .inr v :: r,sl,ds,os,e,q,o=>by
  simp only [args,Option.map_eq_some_iff] at e
  obtain ⟨l,e2,rfl⟩:=e
  obtain ⟨d,es,rfl,q1,q⟩:=q
  obtain ⟨d',es',a1,a2⟩:=o
  cases a1
  intro k j l' y1 y2
  exact mq f e2 q a2 k j l' (by simpa [bO] using y1) y2
theorem kD:∀ {as:List (Nat ⊕ V)}{sl:List Sl}{i:Nat},args fr as=some sl→i∈bO as→∃ s,lent fr i=some s
 | [],_,_,_,q=>by simp [bO] at q
 | .inl j :: r,_,i,z,q=>by
  simp only [args,Option.bind_eq_some_iff,Option.map_eq_some_iff] at z
  obtain ⟨s,e1,l,e2,rfl⟩:=z
  simp [bO] at q
  rcases q with rfl | q
  ·exact ⟨s,e1⟩
  ·exact kD e2 q
 | .inr u :: r,_,i,z,q=>by
  simp only [args,Option.map_eq_some_iff] at z
  obtain ⟨l,e2,rfl⟩:=z
  exact kD e2 (by simpa [bO] using q)
theorem Cv {P:aU}{P':Ev.aU}(HP:oU P P') {g:Nat}{as:List (Nat ⊕ V)}{ds:List D}(e:cU P g as fr=.ok v ah) (f:bC M B h S fr ak) (q:t8 h S ak as ds) :
  ∃ d h' S',P' g ds h=.ok d h'∧Rep h' S' v d∧Out M B (bO as) h S fr ak h' S' ah:=by
 unfold cU at e
 split at e
 case isFalse=>cases e
 rename_i nd
 cases z:args fr as with
 | none=>rw [z] at e;cases e
 | some sl=>
 rw [z] at e
 simp only at e
 cases z2:P g sl with
 | none=>rw [z2] at e;cases e
 | some vo=>
 obtain ⟨v',os⟩:=vo
 rw [z2] at e
 simp only at e
 cases z3:back (bO as) os fr with
 | none=>rw [z3] at e;cases e
 | some ay=>
 rw [z3] at e
 simp at e
 obtain ⟨rfl,rfl⟩:=e
 obtain ⟨hl,hg⟩:=args_get f z q
 let B0:Nat→Prop:=fun m=>∃ i o,i∈bO as∧fr[i]?=some o∧gM o=true∧ak[i]?=some (some (.ref m))
 have oV:∀ m,B0 m→M m:=fun m ⟨i,o,_,a,b,c⟩=>by
  have s:=f.sl i o _ a c
  rcases o with _ | s'
  ·cases b
  ·cases s' with
   | val v=>cases b
   | ro l=>cases b
   | own l=>obtain ⟨m',ds',e,y,_⟩:=s;cases e;exact y.1
   | bor l=>obtain ⟨m',ds',e,y,_⟩:=s;cases e;exact y.1
 have F0:bC B0 B0 h S (sl.map some) (ds.map some):=by
  refine ⟨fun m y=>⟨(f.wS m y).1,fun z=>(f.wS m y).2.1 (oV m z),fun z=>(f.wS m y).2.1 (oV m z)⟩,fun m y=>f.wM m (oV m y),fun m y=>f.wM m (oV m y),by simp [hl],fun a o p y1 y2=>?_,fun a b o o' m y1 y2 y3 y4 y5 y6=>?_⟩
  ·simp at y1 y2
   obtain ⟨s,y1,rfl⟩:=y1
   obtain ⟨d,y2,rfl⟩:=y2
   rcases hg a s d y1 y2 with ⟨i,k1,k2,k3⟩ | ⟨u,rfl,k⟩
   ·obtain ⟨m,cs,l0,o0,w1,w2,w3,w4,w5⟩:=jl k2 f
    rw [k3] at w2;cases w2
    rcases w5 with ⟨rfl,w6,w7⟩ | ⟨rfl,w6,w7⟩
    ·exact ⟨m,cs,rfl,⟨⟨i,o0,gO k1,w1,w7,k3⟩,⟨i,o0,gO k1,w1,w7,k3⟩⟩,w3,w4⟩
    ·exact ⟨m,cs,rfl,fun z=>w6 (oV m z),w3,w4⟩
   ·exact ⟨d,rfl,k⟩
  ·simp at y1 y2 y5 y6
   obtain ⟨s,y1,rfl⟩:=y1
   obtain ⟨s',y2,rfl⟩:=y2
   rcases hg a s _ y1 y5 with ⟨i,k1,k2,k3⟩ | ⟨u,rfl,k⟩
   ·rcases hg b s' _ y2 y6 with ⟨j,k4,k5,k6⟩ | ⟨u,rfl,k⟩
    ·obtain ⟨m1,_,l1,o1,w1,w2,_,_,w5⟩:=jl k2 f
     obtain ⟨m2,_,l2,o2,x1,x2,_,_,x5⟩:=jl k5 f
     have i1:gM o1=true:=by rcases w5 with ⟨_,_,w7⟩ | ⟨rfl,_,_⟩;exact w7;cases y3
     have i2:gM o2=true:=by rcases x5 with ⟨_,_,w7⟩ | ⟨rfl,_,_⟩;exact w7;cases y4
     have:=f.inj i j o1 o2 m w1 x1 i1 i2 k3 k6
     subst this
     exact mj nd k1 k4
    ·cases y4
   ·cases y3
 obtain ⟨d,h',S',c1,c2,c3,c4⟩:=HP g sl v' os z2 h S B0 ds F0
 obtain ⟨b1,b2,b3⟩:=t9 z3 nd
 have hL:=mq f z q c4
 have oW:∀ m,S m→h'[m]?=h[m]?:=fun m y=>c3.keep m (f.wS m y).1 (fun z=>(f.wS m y).2.1 (oV m z))
 refine ⟨d,h',S',c1,c2,⟨?_,?_,?_⟩⟩
 ·refine ⟨fun m y=>?_,fun m y=>Nat.lt_of_lt_of_le (f.wM m y) c3.len,fun m y=>Nat.lt_of_lt_of_le (f.wB m y) c3.len,by rw [b1,f.len],fun i o p y1 y2=>?_,fun i j o o' m y1 y2 y3 y4 y5 y6=>?_⟩
  ·rcases c3.new m y with y | ⟨y1,y2⟩
   ·exact ⟨Nat.lt_of_lt_of_le (f.wS m y).1 c3.len,(f.wS m y).2⟩
   ·exact ⟨y2,fun z=>by have:=f.wM m z;omega,fun z=>by have:=f.wB m z;omega⟩
  ·by_cases hi:i∈bO as
   ·obtain ⟨k,s,l,w1,w2,w3,w4⟩:=b3 i hi
    rw [w4] at y1;cases y1
    obtain ⟨m,cs,x1,x2,x3⟩:=hL k i l w1 w2
    rw [x1] at y2;cases y2
    have old:=f.sl i _ _ w3 x1
    cases s with
    | val u=>
     exfalso
     have:∃ s,lent fr i=some s:=kD z hi
     obtain ⟨s,hs⟩:=this
     simp [lent,w3,Sl.lend] at hs
    | own u=>obtain ⟨m',ds',e,y,_⟩:=old;cases e;exact ⟨m,cs,rfl,y,x2,x3⟩
    | bor u=>obtain ⟨m',ds',e,y,_⟩:=old;cases e;exact ⟨m,cs,rfl,y,x2,x3⟩
    | ro u=>
     obtain ⟨m',ds',e,y,y1,y2⟩:=old;cases e
     refine ⟨m,ds',rfl,y,?_,y2.mono oW c3.sub⟩
     rw [c3.keep m (List.getElem?_eq_some_iff.mp y1).1 (fun z=>y (oV m z))];exact y1
   ·rw [b2 i hi] at y1
    have old:=f.sl i o p y1 y2
    rcases o with _ | s
    ·exact old
    ·cases s with
     | val u=>obtain ⟨d,e,q⟩:=old;exact ⟨d,e,q.mono oW c3.sub⟩
     | own u=>
      obtain ⟨m,ds',rfl,w1,w2,w3⟩:=old
      refine ⟨m,ds',rfl,w1,?_,w3.mono oW c3.sub⟩
      rw [c3.keep m (f.wM m w1.1) (fun ⟨j,o2,x1,x2,x3,x4⟩=>hi (f.inj i j _ o2 m y1 x2 rfl x3 y2 x4▸x1))];exact w2
     | bor u=>
      obtain ⟨m,ds',rfl,w1,w2,w3⟩:=old
      refine ⟨m,ds',rfl,w1,?_,w3.mono oW c3.sub⟩
      rw [c3.keep m (f.wM m w1.1) (fun ⟨j,o2,x1,x2,x3,x4⟩=>hi (f.inj i j _ o2 m y1 x2 rfl x3 y2 x4▸x1))];exact w2
     | ro u=>
      obtain ⟨m,ds',rfl,w1,w2,w3⟩:=old
      refine ⟨m,ds',rfl,w1,?_,w3.mono oW c3.sub⟩
      rw [c3.keep m (List.getElem?_eq_some_iff.mp w2).1 (fun z=>w1 (oV m z))];exact w2
  ·have kind:∀ (i:Nat) o,ay[i]?=some o→gM o=true→∃ o0,fr[i]?=some o0∧gM o0=true:=fun i o w1 w2=>by
    by_cases hi:i∈bO as
    ·obtain ⟨k,s,l,x1,x2,x3,x4⟩:=b3 i hi
     rw [x4] at w1;cases w1
     exact ⟨_,x3,by rw [Cu] at w2;exact w2⟩
    ·rw [b2 i hi] at w1;exact ⟨o,w1,w2⟩
   obtain ⟨oi,k1,k2⟩:=kind i o y1 y3
   obtain ⟨oj,k3,k4⟩:=kind j o' y2 y4
   exact f.inj i j oi oj m k1 k3 k2 k4 y5 y6
 ·exact c3.weak fun m z=>⟨oV m z,by obtain ⟨i,o,a1,a2,a3,a4⟩:=z;exact ⟨i,a1,a4⟩⟩
 ·intro i
  unfold locked
  by_cases hi:i∈bO as
  ·obtain ⟨k,s,l,x1,x2,x3,x4⟩:=b3 i hi
   rw [x3,x4];exact wc
  ·rw [b2 i hi]
end
end Pv
namespace Pv
open Ev (D O Hh bV bQ TY BI ME T E Es Eo It S Ss Fn big deep b2i rep cB er bN aS cut cT ef slots bu)
section
variable {M B M':Nat→Prop}{h h' h1 h2:Hh}{S S' S1 S2:Nat→Prop}{fr ah ay:Fr}{ak:Ev.Fr}{c c1 c2:List Nat}{v:V}{d:D}
theorem j3 {n m:Nat}{o:O}(q:n≠m):(h.set n o)[m]?=h[m]?:=List.getElem?_set_ne q
theorem bC.mM (f:bC M B h S fr ak) {i n:Nat}{o:Option Sl}(e:fr[i]?=some o) (hM:gM o=true) (e':ak[i]?=some (some (.ref n))):M n:=by
 have s:=f.sl i o _ e e'
 rcases o with _ | s'
 ·cases hM
 ·cases s' with
  | val v=>cases hM
  | ro l=>cases hM
  | own l=>obtain ⟨m',ds',e,y,_⟩:=s;cases e;exact y.1
  | bor l=>obtain ⟨m',ds',e,y,_⟩:=s;cases e;exact y.1
theorem bC.write (f:bC M B h S fr ak) {i n:Nat}{s:Sl}{l':List V}{ds':List D}(e:fr[i]?=some (some s)) (hM:gM (some s)=true) (e':ak[i]?=some (some (.ref n))) (q:az h S l' ds') :
  bC M B (h.set n (.lst ds')) S (fr.set i (some (s.with l'))) ak:=by
 have mn:=f.mM e hM e'
 have kp:∀ m,S m→(h.set n (.lst ds'))[m]?=h[m]?:=fun m z=>j3 fun y=>(f.wS m z).2.1 (y▸mn)
 have il:=(List.getElem?_eq_some_iff.mp e).1
 refine ⟨fun m y=>by simpa using f.wS m y,fun m y=>by simpa using f.wM m y,fun m y=>by simpa using f.wB m y,by simp [f.len],fun j o p y1 y2=>?_,fun j k o o' m y1 y2 y3 y4 y5 y6=>?_⟩
 ·by_cases hj:i=j
  ·subst hj
   rw [List.getElem?_set_self il] at y1
   cases y1
   rw [e'] at y2;cases y2
   have old:=f.sl i _ _ e e'
   have hn:(h.set n (.lst ds'))[n]?=some (.lst ds'):=List.getElem?_set_self (f.wM n mn)
   cases s with
   | val v=>cases hM
   | ro l=>cases hM
   | own l=>obtain ⟨m',_,e,y,_⟩:=old;cases e;exact ⟨n,ds',rfl,y,hn,q.mono kp fun _ z=>z⟩
   | bor l=>obtain ⟨m',_,e,y,_⟩:=old;cases e;exact ⟨n,ds',rfl,y,hn,q.mono kp fun _ z=>z⟩
  ·rw [List.getElem?_set_ne hj] at y1
   have old:=f.sl j o p y1 y2
   rcases o with _ | s'
   ·exact old
   ·cases s' with
    | val u=>obtain ⟨d,e,q⟩:=old;exact ⟨d,e,q.mono kp fun _ z=>z⟩
    | own u=>
     obtain ⟨m,es,rfl,w1,w2,w3⟩:=old
     refine ⟨m,es,rfl,w1,?_,w3.mono kp fun _ z=>z⟩
     rw [j3 fun (z:n=m)=>hj (f.inj i j _ _ n e y1 hM rfl e' (by rw [z];exact y2))];exact w2
    | bor u=>
     obtain ⟨m,es,rfl,w1,w2,w3⟩:=old
     refine ⟨m,es,rfl,w1,?_,w3.mono kp fun _ z=>z⟩
     rw [j3 fun (z:n=m)=>hj (f.inj i j _ _ n e y1 hM rfl e' (by rw [z];exact y2))];exact w2
    | ro u=>
     obtain ⟨m,es,rfl,w1,w2,w3⟩:=old
     refine ⟨m,es,rfl,w1,?_,w3.mono kp fun _ z=>z⟩
     rw [j3 fun (z:n=m)=>w1 (z▸mn)];exact w2
 ·have kind:∀ (j:Nat) o,(fr.set i (some (s.with l')))[j]?=some o→gM o=true→∃ o0,fr[j]?=some o0∧gM o0=true:=fun j o w1 w2=>by
   by_cases hj:i=j
   ·subst hj;exact ⟨_,e,hM⟩
   ·rw [List.getElem?_set_ne hj] at w1;exact ⟨o,w1,w2⟩
  obtain ⟨oi,k1,k2⟩:=kind j o y1 y3
  obtain ⟨oj,k3,k4⟩:=kind k o' y2 y4
  exact f.inj j k oi oj m k1 k3 k2 k4 y5 y6
theorem Lz {m:ME}{l l':List V}{xs:List V}{n:Nat}{ds es:List D}(z:jG m l xs=some (v,l')) (e:h[n]?=some (.lst ds)) (q:az h S l ds) (p:fN h S xs es) (p':zY m=false→az h S xs es) (hS:∀ k,S k→k≠n) :
  ∃ r ds',Ev.eN m (.ref n) es h=.ok r (h.set n (.lst ds'))∧Rep h S v r∧az h S l' ds':=by
 unfold jG at z
 split at z
 ·have p':=p' rfl
  split at z
  ·rename_i k
   cases z
   simp only [az] at p'
   obtain ⟨d,_,rfl,p1,rfl⟩:=p'
   refine ⟨_,_,?_,rfl,q.append (.cons p1 .nil)⟩
   delta Ev.eN;dsimp only;simp only [e]
   rw [if_pos (by rw [←q.length];exact k)]
  ·cases z
 ·split at z
  ·rename_i k
   cases z
   obtain ⟨d,rfl,p1⟩:=p.one
   simp only [br] at p1
   obtain ⟨n2,cs,rfl,e2,p1⟩:=p1
   refine ⟨_,_,?_,rfl,q.append p1⟩
   delta Ev.eN;dsimp only;simp only [e,e2]
   rw [if_pos (by rw [←q.length,←p1.length];exact k)]
  ·cases z
 ·simp only [fN] at p
  subst p
  split at z
  ·rename_i x y
   cases z
   obtain ⟨d,k1,k2⟩:=q.get y
   refine ⟨d,_,?_,k2,q.dropLast⟩
   delta Ev.eN;dsimp only;simp only [e]
   rw [←q.length,k1]
  ·cases z
 ·cases z
theorem bC.set (f:bC M B h S fr ak) {i:Nat}(e:put fr i (.val v)=some ah) (q:Rep h S v d):bC M B h S ah (ak.set i (some d))∧(∀ j,locked ah j=locked fr j)∧∀ j,locked fr j=true→(ak.set i (some d))[j]?=ak[j]?:=by
 have hx:ah=fr.set i (some (.val v))∧locked fr i=false:=by
  unfold put at e
  unfold locked
  split at e
  ·cases e
  ·cases e
  ·rename_i k1 k2
   cases e
   refine ⟨rfl,?_⟩
   cases z:fr[i]? with
   | none=>rfl
   | some o=>
    rcases o with _ | s
    ·rfl
    ·cases s with
     | bor l=>exact absurd z (k1 l)
     | ro l=>exact absurd z (k2 l)
     | _=>rfl
 obtain ⟨rfl,hk⟩:=hx
 have lk:∀ j,locked (fr.set i (some (.val v))) j=locked fr j:=fun j=>by
  by_cases hj:i=j
  ·subst hj
   rw [hk]
   unfold locked
   by_cases hl:i<fr.length
   ·rw [List.getElem?_set_self hl];rfl
   ·rw [List.getElem?_eq_none (by simpa using hl)]
  ·unfold locked;rw [List.getElem?_set_ne hj]
 refine ⟨⟨f.wS,f.wM,f.wB,by simp [f.len],fun j o p y1 y2=>?_,fun j k o o' m y1 y2 y3 y4 y5 y6=>?_⟩,lk,fun j hj=>?_⟩
 ·by_cases hj:i=j
  ·subst hj
   have hl:i<fr.length:=by have:=(List.getElem?_eq_some_iff.mp y1).1;simpa using this
   rw [List.getElem?_set_self hl] at y1
   rw [List.getElem?_set_self (by rw [←f.len];exact hl)] at y2
   cases y1;cases y2
   exact ⟨d,rfl,q⟩
  ·rw [List.getElem?_set_ne hj] at y1 y2
   exact f.sl j o p y1 y2
 ·have hn:∀ (j:Nat) o,(fr.set i (some (.val v)))[j]?=some o→gM o=true→i≠j:=fun j o w1 w2 w3=>by
   subst w3
   have hl:i<fr.length:=by have:=(List.getElem?_eq_some_iff.mp w1).1;simpa using this
   rw [List.getElem?_set_self hl] at w1
   cases w1;cases w2
  have n1:=hn j o y1 y3
  have n2:=hn k o' y2 y4
  rw [List.getElem?_set_ne n1] at y1 y5
  rw [List.getElem?_set_ne n2] at y2 y6
  exact f.inj j k o o' m y1 y2 y3 y4 y5 y6
 ·have:i≠j:=fun z=>by subst z;rw [hk] at hj;cases hj
  rw [List.getElem?_set_ne this]
theorem bC.cQ:∀ {is:List Nat}{vs:List V}{ds:List D}{fr ah:Fr}{ak:Ev.Fr},bC M B h S fr ak→cQ is vs fr=some ah→az h S vs ds→∃ bL,Ev.cQ is ds ak=some bL∧bC M B h S ah bL∧(∀ j,locked ah j=locked fr j)∧∀ j,locked fr j=true→bL[j]?=ak[j]?
 | [],[],ds,fr,ah,ak,f,e,q=>by
  simp [Pv.cQ] at e;simp only [az] at q;subst e q
  exact ⟨ak,rfl,f,fun _=>rfl,fun _ _=>rfl⟩
 | [],_ :: _,_,_,_,_,_,e,_=>by simp [Pv.cQ] at e
 | _ :: _,[],_,_,_,_,_,e,_=>by simp [Pv.cQ] at e
 | i :: is,v :: vs,ds,fr,ah,ak,f,e,q=>by
  simp only [Pv.cQ,Option.bind_eq_some_iff] at e
  obtain ⟨ay,e1,e2⟩:=e
  simp only [az] at q
  obtain ⟨d,es,rfl,q1,q2⟩:=q
  obtain ⟨f2,l2,r2⟩:=f.set e1 q1
  obtain ⟨bL,a,f3,l3,r3⟩:=f2.cQ e2 q2
  exact ⟨bL,a,f3,fun j=>(l3 j).trans (l2 j),fun j hj=>(r3 j (by rw [l2 j];exact hj)).trans (r2 j hj)⟩
theorem bC.cj (f:bC M B h S fr ak) {t:T}(e:cj t v fr=some ah) (q:Rep h S v d):∃ bL,Ev.cj t d ak=some bL∧bC M B h S ah bL∧(∀ j,locked ah j=locked fr j)∧∀ j,locked fr j=true→bL[j]?=ak[j]?:=by
 cases t with
 | one i=>exact ⟨_,rfl,f.set e q⟩
 | many l=>
  cases v <;> simp only [Pv.cj,reduceCtorEq] at e
  simp only [Rep] at q
  obtain ⟨ds,rfl,q⟩:=q
  exact f.cQ e q
theorem bC.undef (f:bC M B h S fr ak) {t:T}(e:undef t fr=true):Ev.undef t ak=true:=by
 unfold Pv.undef at e
 unfold Ev.undef
 rw [List.all_eq_true] at e ⊢
 intro i hi
 have:=e i hi
 cases z:fr[i]? with
 | none=>
  have:ak[i]?=none:=by
   rw [List.getElem?_eq_none_iff] at z ⊢
   rw [←f.len];exact z
  rw [this];rfl
 | some o=>
  obtain ⟨p,e1,q⟩:=f.get z
  rw [z] at this
  rcases o with _ | s
  ·simp only [jX] at q;subst q;rw [e1];rfl
  ·simp at this
theorem we {i:Nat}{o:Option Sl}(e:(rL fr)[i]?=some o):∃ o0,fr[i]?=some o0∧o=o0.map Sl.read:=by
 unfold rL at e
 rw [List.getElem?_map] at e
 cases z:fr[i]? with
 | none=>rw [z] at e;cases e
 | some o0=>rw [z] at e;cases e;exact ⟨o0,rfl,rfl⟩
theorem bC.ro (f:bC M B h S fr ak):bC (fun _=>False) B h S (rL fr) ak:=by
 refine ⟨fun m y=>⟨(f.wS m y).1,id,(f.wS m y).2.2⟩,fun m y=>y.elim,f.wB,by simp [rL,f.len],fun i o p y1 y2=>?_,fun i j o o' m y1 y2 y3 y4 y5 y6=>?_⟩
 ·obtain ⟨o0,z,rfl⟩:=we y1
  have q:=f.sl i o0 p z y2
  rcases o0 with _ | s
  ·exact q
  ·cases s with
   | val v=>exact q
   | own l=>obtain ⟨m,ds,a,b,c,d⟩:=q;exact ⟨m,ds,a,id,c,d⟩
   | bor l=>obtain ⟨m,ds,a,b,c,d⟩:=q;exact ⟨m,ds,a,id,c,d⟩
   | ro l=>obtain ⟨m,ds,a,b,c,d⟩:=q;exact ⟨m,ds,a,id,c,d⟩
 ·obtain ⟨o0,z,rfl⟩:=we y1
  rcases o0 with _ | s
  ·cases y3
  ·cases s <;> cases y3
theorem jx:∀ {ck:List (Nat×List D)},(∀ q∈ck,bu h q.1=some q.2)→Ev.stays h ck=true
 | [],_=>rfl
 | (n,ds) :: r,q=>by
  simp only [Ev.stays,Bool.and_eq_true]
  refine ⟨?_,jx fun x hx=>q x (List.mem_cons_of_mem _ hx)⟩
  rw [q (n,ds) (List.mem_cons_self ..)]
  exact Ev.xy _
theorem kE {n:Nat}{ds:List D}(q:bu h n=some ds) (k:h'[n]?=h[n]?):bu h' n=some ds:=by
 unfold bu at q ⊢;rw [k];exact q
theorem oX {n:Nat}{ds:List D}(q:bu h n=some ds):n<h.length:=by
 unfold bu at q
 cases z:h[n]? with
 | none=>rw [z] at q;cases q
 | some o=>exact (List.getElem?_eq_some_iff.mp z).1
noncomputable def Cy (h:Hh) (S:Nat→Prop):Option V→Option D→Prop
 | none,o=>o=none
 | some v,o=>∃ d,o=some d∧Rep h S v d
theorem wg {f:V→Option (Option V)}{f':D→Hh→Ev.R (Option D)}{ck:List (Nat×List D)}{h0:Hh}{S0:Nat→Prop}(w0:∀ m,S0 m→m<h0.length) (st:∀ q∈ck,bu h0 q.1=some q.2)
  (turn:∀ v o d h S,Al h0 S0 h S→f v=some o→Rep h S v d→∃ o' h' S',f' d h=.ok o' h'∧Cy h' S' o o'∧Al h S h' S') :
  ∀ {vs:List V} {ds:List D} {rs:List V} {h:Hh} {S:Nat→Prop},Al h0 S0 h S→cL f vs=some rs→az h S vs ds→∃ rs' h' S',Ev.cL f' ck ds h=.ok rs' h'∧az h' S' rs rs'∧Al h S h' S'
 | [],ds,rs,h,S,a,e,q=>by
  simp [cL] at e;simp only [az] at q;subst e q
  refine ⟨[],h,S,?_,.nil,.refl⟩
  simp only [Ev.cL]
  rw [if_pos (jx fun x hx=>kE (st x hx) (a.keep _ (oX (st x hx))))]
 | v :: vs,ds,rs,h,S,a,e,q=>by
  simp only [cL,Option.bind_eq_some_iff] at e
  obtain ⟨o,e1,r,e2,e3⟩:=e
  cases e3
  simp only [az] at q
  obtain ⟨d,es,rfl,q1,q2⟩:=q
  have w:∀ m,S m→m<h.length:=fun m z=>by
   rcases a.new m z with z | z
   ·exact Nat.lt_of_lt_of_le (w0 m z) a.len
   ·exact z.2
  obtain ⟨o',h1,S1,t1,t2,t3⟩:=turn v o d h S a e1 q1
  obtain ⟨rs',h2,S2,u1,u2,u3⟩:=wg w0 st turn (a.trans t3) e2 (q2.mono (fun m z=>t3.keep m (w m z)) t3.sub)
  have w1:∀ m,S1 m→m<h1.length:=fun m z=>by
   rcases t3.new m z with z | z
   ·exact Nat.lt_of_lt_of_le (w m z) t3.len
   ·exact z.2
  refine ⟨o'.toList++rs',h2,S2,?_,?_,t3.trans u3⟩
  ·simp only [Ev.cL]
   rw [if_pos (jx fun x hx=>kE (st x hx) (a.keep _ (oX (st x hx)))),t1,Ev.ao,u1,Ev.ao]
  ·cases o with
   | none=>simp only [Cy] at t2;subst t2;simpa using u2
   | some v'=>
    simp only [Cy] at t2
    obtain ⟨d',rfl,t2⟩:=t2
    exact .cons (t2.mono (fun m z=>u3.keep m (w1 m z)) u3.sub) u2
end
noncomputable def je (k:Bool) (h:Hh) (S:Nat→Prop) (v:List V) (d:List D):Prop:=if k=true then fN h S v d else az h S v d
inductive LA (P':Ev.aU) (e:E) (k:Bool) (v:V) (M B:Nat→Prop) (h:Hh) (S:Nat→Prop) (fr:Fr) (ak:Ev.Fr) (ah:Fr):Prop
 | mk (d:D) (h':Hh) (S':Nat→Prop) (c0:Ev.ev P' e ak h=.ok d h') (c1:fT k h' S' v d) (c2:Out M B (bW e) h S fr ak h' S' ah):LA P' e k v M B h S fr ak ah
inductive LB (P':Ev.aU) (e:E) (b:Bool) (M B:Nat→Prop) (h:Hh) (S:Nat→Prop) (fr:Fr) (ak:Ev.Fr) (ah:Fr):Prop
 | mk (h':Hh) (S':Nat→Prop) (c0:Ev.aL P' e ak h=.ok b h') (c1:Out M B (bW e) h S fr ak h' S' ah):LB P' e b M B h S fr ak ah
inductive LC (P':Ev.aU) (e:Es) (k:Bool) (v:List V) (M B:Nat→Prop) (h:Hh) (S:Nat→Prop) (fr:Fr) (ak:Ev.Fr) (ah:Fr):Prop
 | mk (d:List D) (h':Hh) (S':Nat→Prop) (c0:Ev.b7 P' e ak h=.ok d h') (c1:je k h' S' v d) (c2:Out M B (fS e) h S fr ak h' S' ah):LC P' e k v M B h S fr ak ah
inductive LD (P':Ev.aU) (e:Es) (v:List (Nat ⊕ V)) (M B:Nat→Prop) (h:Hh) (S:Nat→Prop) (fr:Fr) (ak:Ev.Fr) (ah:Fr):Prop
 | mk (d:List D) (h':Hh) (S':Nat→Prop) (c0:Ev.b7 P' e ak h=.ok d h') (c1:t8 h' S' ak v d) (c2:Out M B (fS e) h S fr ak h' S' ah):LD P' e v M B h S fr ak ah
inductive LF (P':Ev.aU) (e:Eo) (v:Option Int) (M B:Nat→Prop) (h:Hh) (S:Nat→Prop) (fr:Fr) (ak:Ev.Fr) (ah:Fr):Prop
 | mk (h':Hh) (S':Nat→Prop) (c0:Ev.fL P' e ak h=.ok v h') (c1:Out M B (jN e) h S fr ak h' S' ah):LF P' e v M B h S fr ak ah
inductive LG (P':Ev.aU) (e:Eo) (v:Bool) (M B:Nat→Prop) (h:Hh) (S:Nat→Prop) (fr:Fr) (ak:Ev.Fr) (ah:Fr):Prop
 | mk (h':Hh) (S':Nat→Prop) (c0:Ev.gZ P' e ak h=.ok v h') (c1:Out M B (jN e) h S fr ak h' S' ah):LG P' e v M B h S fr ak ah
inductive LH (P':Ev.aU) (e:It) (k:Bool) (v:List V) (M B:Nat→Prop) (h:Hh) (S:Nat→Prop) (fr:Fr) (ak:Ev.Fr) (ah:Fr):Prop
 | mk (s:Ev.Src) (h':Hh) (S':Nat→Prop) (c0:Ev.dc P' e ak h=.ok s h') (c1:az h' S' v s.1) (c2:∀ q∈s.2,bu h' q.1=some q.2∧(k=false→¬ M q.1)) (c3:Out M B (Cp e) h S fr ak h' S' ah):LH P' e k v M B h S fr ak ah
section
variable (P:aU)(P':Ev.aU)
noncomputable def bx (e:E):Prop:=∀ {k:Bool} {fr:Fr} {v:V} {ah:Fr} {M B:Nat→Prop} {h:Hh} {S:Nat→Prop} {ak:Ev.Fr},ev P k e fr=.ok v ah→bC M B h S fr ak→LA P' e k v M B h S fr ak ah
noncomputable def gy (e:E):Prop:=∀ {fr:Fr} {b:Bool} {ah:Fr} {M B:Nat→Prop} {h:Hh} {S:Nat→Prop} {ak:Ev.Fr},aL P e fr=.ok b ah→bC M B h S fr ak→LB P' e b M B h S fr ak ah
noncomputable def jf (e:Es):Prop:=∀ {k:Bool} {fr:Fr} {v:List V} {ah:Fr} {M B:Nat→Prop} {h:Hh} {S:Nat→Prop} {ak:Ev.Fr},b7 P k e fr=.ok v ah→bC M B h S fr ak→LC P' e k v M B h S fr ak ah
noncomputable def oY (e:Es):Prop:=∀ {fr:Fr} {v:List (Nat ⊕ V)} {ah:Fr} {M B:Nat→Prop} {h:Hh} {S:Nat→Prop} {ak:Ev.Fr},fM P e fr=.ok v ah→bC M B h S fr ak→LD P' e v M B h S fr ak ah
noncomputable def oZ (e:Eo):Prop:=∀ {fr:Fr} {v:Option Int} {ah:Fr} {M B:Nat→Prop} {h:Hh} {S:Nat→Prop} {ak:Ev.Fr},fL P e fr=.ok v ah→bC M B h S fr ak→LF P' e v M B h S fr ak ah
noncomputable def sD (e:Eo):Prop:=∀ {fr:Fr} {v:Bool} {ah:Fr} {M B:Nat→Prop} {h:Hh} {S:Nat→Prop} {ak:Ev.Fr},gZ P e fr=.ok v ah→bC M B h S fr ak→LG P' e v M B h S fr ak ah
noncomputable def kF (e:It):Prop:=∀ {k:Bool} {fr:Fr} {v:List V} {ah:Fr} {M B:Nat→Prop} {h:Hh} {S:Nat→Prop} {ak:Ev.Fr},dc P k e fr=.ok v ah→bC M B h S fr ak→LH P' e k v M B h S fr ak ah
end
section
variable {P:aU}{P':Ev.aU}{a b e tt:E}{es:Es}{lo hi:Eo}{it:It}
theorem LI {d:D}:bx P P' (.c d):=fun z f=>by
 simp only [ev] at z
 replace z:=aO z;obtain ⟨z,y0⟩:=z;subst y0
 exact ⟨d,_,_,by simp only [Ev.ev],.of (lZ z),.refl f⟩
theorem LJ {i:Nat}:bx P P' (.v i):=fun z f=>by
 simp only [ev] at z
 replace z:=aO z;obtain ⟨z,y0⟩:=z;subst y0
 obtain ⟨d,e1,q⟩:=HJ z f
 exact ⟨d,_,_,by simp only [Ev.ev,e1,Ev.eF],q,.refl f⟩
theorem je.n {h:Hh}{S:Nat→Prop}{v:List V}{d:List D}(q:je false h S v d):az h S v d:=by simpa [je] using q
theorem az.tl {h:Hh}{S:Nat→Prop}:∀ {v:List V}{d:List D},az h S v d→fN h S v d
 | [],_,q=>q
 | _ :: _,_,⟨d,es,a,b,q⟩=>⟨d,es,a,b.top,q.tl⟩
theorem je.t {k:Bool}{h:Hh}{S:Nat→Prop}{v:List V}{d:List D}(q:je k h S v d):fN h S v d:=by
 unfold je at q
 split at q
 ·exact q
 ·exact q.tl
theorem z9 (is:jf P P' es):bx P P' (.tup es):=fun z f=>by
 simp only [ev] at z
 obtain ⟨ds,ay,z1,z2⟩:=ai z
 replace z2:=aO z2;obtain ⟨z2,y0⟩:=z2;subst y0
 obtain ⟨ds',h',S',e1,q,o⟩:=is z1 f
 unfold g8 at z2
 split at z2
 ·rename_i hk
  cases z2
  refine ⟨.tup ds',h',S',?_,.of ⟨ds',rfl,q.n⟩,o⟩
  simp only [Ev.ev,e1,Ev.ao]
  rw [if_pos (by rw [←q.n.length];exact hk)]
 ·cases z2
theorem Aa (is:jf P P' es):bx P P' (.lst es):=fun z f=>by
 simp only [ev] at z
 obtain ⟨ds,ay,z1,z2⟩:=ai z
 replace z2:=aO z2;obtain ⟨z2,y0⟩:=z2;subst y0
 obtain ⟨ds',h',S',e1,q,o⟩:=is z1 f
 obtain ⟨r,h2,S2,a1,a2,a3⟩:=gq o.f.w z2 q.n
 exact ⟨r,h2,S2,by simp only [Ev.ev,e1,Ev.ao,a1],.of a2,o.al a3⟩
theorem sE {a:E}{ak:Ev.Fr}{h h1:Hh}{d:D}(e:Ev.ev P' a ak h=.ok d h1):∀ i,a=.v i→ak[i]?.join=some d:=fun i hi=>by
 subst hi
 simp only [Ev.ev] at e
 exact (Ev.aO e).1
theorem two (ia:bx P P' a)(ib:bx P P' b){α:Type}{X:V→V→Fr→R α}{u:α}{fr bS:Fr}{M B:Nat→Prop}{h:Hh}{S:Nat→Prop}{ak:Ev.Fr}
  (z:((ev P (kf a (bW b)) a fr).bind fun x ah=>(ev P true b ah).bind fun y ay=>X x y ay)=.ok u bS) (f:bC M B h S fr ak) :
  ∃ x y d e h2 S2 ay,(∀ {β:Type} (g:D→D→Hh→Ev.R β),((Ev.ev P' a ak h).bind fun x h1=>(Ev.ev P' b ak h1).bind fun y h2=>g x y h2)=g d e h2)∧X x y ay=.ok u bS∧br h2 S2 x d∧br h2 S2 y e∧Out M B (bW a++bW b) h S fr ak h2 S2 ay:=by
 replace z:=ai z;obtain ⟨x,ah,z1,z⟩:=z
 replace z:=ai z;obtain ⟨y,ay,z2,z⟩:=z
 obtain ⟨d,h1,S1,e1,q1,o1⟩:=ia z1 f
 obtain ⟨e,h2,S2,e2,q2,o2⟩:=ib z2 o1.f
 exact ⟨x,y,d,e,h2,S2,ay,fun g=>by rw [e1,Ev.ao,e2,Ev.ao],z,(q1.tr o1.f o2.tr id (sE e1)).t,q2.t,o1.trans o2⟩
theorem Ab {o:bV}(ia:bx P P' a) (ib:bx P P' b):bx P P' (.bin o a b):=fun z f=>by
 simp only [ev] at z
 replace z:=two ia ib z f;obtain ⟨x,y,d,e,h2,S2,ay,k,z,q1,q2,ou⟩:=z
 replace z:=aO z;obtain ⟨z,y0⟩:=z;subst y0
 obtain ⟨r,h3,S3,a1,a2,a3⟩:=Lo ou.f.w z q1 q2
 exact ⟨r,h3,S3,by simp only [Ev.ev];rw [k];exact a1,.of a2,ou.al a3⟩
theorem Ac {o:bQ}(ia:bx P P' a) (ib:bx P P' b):bx P P' (.cmp o a b):=fun z f=>by
 simp only [ev] at z
 replace z:=two ia ib z f;obtain ⟨x,y,d,e,h2,S2,ay,k,z,q1,q2,ou⟩:=z
 replace z:=aO z;obtain ⟨z,y0⟩:=z;subst y0
 simp only [Option.map_eq_some_iff] at z
 obtain ⟨b,z,rfl⟩:=z
 exact ⟨.bl b,h2,S2,by simp only [Ev.ev];rw [k,Lp z q1.u q2.u];rfl,.of rfl,ou⟩
theorem EU (ia:bx P P' a) (ib:bx P P' b):bx P P' (.ix a b):=fun z f=>by
 simp only [ev] at z
 replace z:=two ia ib z f;obtain ⟨x,y,d,e,h2,S2,ay,k,z,q1,q2,ou⟩:=z
 replace z:=aO z;obtain ⟨z,y0⟩:=z;subst y0
 obtain ⟨r,a1,a2⟩:=Lq z q1 q2
 exact ⟨r,h2,S2,by simp only [Ev.ev];rw [k,a1];rfl,.of a2,ou⟩
theorem P8 (ia:bx P P' a):bx P P' (.nt a):=fun z f=>by
 simp only [ev] at z
 replace z:=ai z;obtain ⟨x,ah,z1,z⟩:=z
 obtain ⟨d,h1,S1,e1,q1,o1⟩:=ia z1 f
 cases x <;> simp only [reduceCtorEq] at z
 cases z
 have q:=q1.t
 simp only [br,Rep] at q
 subst q
 exact ⟨_,h1,S1,by simp only [Ev.ev,e1,Ev.ao],.of rfl,o1⟩
theorem Ad (ia:bx P P' a):bx P P' (.neg a):=fun z f=>by
 simp only [ev] at z
 replace z:=ai z;obtain ⟨x,ah,z1,z⟩:=z
 obtain ⟨d,h1,S1,e1,q1,o1⟩:=ia z1 f
 cases x <;> simp only [reduceCtorEq] at z
 cases z
 have q:=q1.t
 simp only [br,Rep] at q
 subst q
 exact ⟨_,h1,S1,by simp only [Ev.ev,e1,Ev.ao],.of rfl,o1⟩
theorem P9 (ia:bx P P' a) (ib:bx P P' b):bx P P' (.an a b):=fun z f=>by
 simp only [ev] at z
 replace z:=ai z;obtain ⟨x,ah,z1,z⟩:=z
 obtain ⟨d,h1,S1,e1,q1,o1⟩:=ia z1 f
 cases x <;> try (cases z;done)
 rename_i k
 have q:=q1.t
 simp only [br,Rep] at q
 subst q
 cases k with
 | true=>
  try simp only at z
  obtain ⟨d,h2,S2,e2,q2,o2⟩:=ib z o1.f
  exact ⟨d,h2,S2,by simp only [Ev.ev,e1,Ev.ao,e2],q2,o1.trans o2⟩
 | false=>
  try simp only at z
  cases z
  exact ⟨_,h1,S1,by simp only [Ev.ev,e1,Ev.ao],.of rfl,o1.weak (by simp only [bW];intro i hi;simp [hi])⟩
theorem LK (ia:bx P P' a) (ib:bx P P' b):bx P P' (.orr a b):=fun z f=>by
 simp only [ev] at z
 replace z:=ai z;obtain ⟨x,ah,z1,z⟩:=z
 obtain ⟨d,h1,S1,e1,q1,o1⟩:=ia z1 f
 cases x <;> try (cases z;done)
 rename_i k
 have q:=q1.t
 simp only [br,Rep] at q
 subst q
 cases k with
 | false=>
  try simp only at z
  obtain ⟨d,h2,S2,e2,q2,o2⟩:=ib z o1.f
  exact ⟨d,h2,S2,by simp only [Ev.ev,e1,Ev.ao,e2],q2,o1.trans o2⟩
 | true=>
  try simp only at z
  cases z
  exact ⟨_,h1,S1,by simp only [Ev.ev,e1,Ev.ao],.of rfl,o1.weak (by simp only [bW];intro i hi;simp [hi])⟩
theorem Ag (it:gy P P' tt) (ia:bx P P' a) (ib:bx P P' b):bx P P' (.ly tt a b):=fun z f=>by
 simp only [ev] at z
 replace z:=ai z;obtain ⟨k,ah,z1,z⟩:=z
 obtain ⟨h1,S1,e1,o1⟩:=it z1 f
 cases k with
 | true=>
  simp only [if_true] at z
  obtain ⟨d,h2,S2,e2,q2,o2⟩:=ia z o1.f
  exact ⟨d,h2,S2,by simp only [Ev.ev,e1,Ev.ao,if_true,e2],q2,(o1.trans o2).weak (by simp only [bW];intro i hi;simp at hi ⊢;rcases hi with hi | hi <;> simp [hi])⟩
 | false=>
  simp only [Bool.false_eq_true,if_false] at z
  obtain ⟨d,h2,S2,e2,q2,o2⟩:=ib z o1.f
  exact ⟨d,h2,S2,by simp only [Ev.ev,e1,Ev.ao];rw [if_neg (by decide)];exact e2,q2,(o1.trans o2).weak (by simp only [bW];intro i hi;simp at hi ⊢;rcases hi with hi | hi <;> simp [hi])⟩
theorem EV (ia:bx P P' a) (il:oZ P P' lo) (ih:oZ P P' hi):bx P P' (.sl a lo hi):=fun z f=>by
 simp only [ev] at z
 replace z:=ai z;obtain ⟨x,ah,z1,z⟩:=z
 replace z:=ai z;obtain ⟨l,ay,z2,z⟩:=z
 replace z:=ai z;obtain ⟨u,cX,z3,z⟩:=z
 replace z:=aO z;obtain ⟨z,y0⟩:=z;subst y0
 obtain ⟨d,h1,S1,e1,q1,o1⟩:=ia z1 f
 obtain ⟨h2,S2,e2,o2⟩:=il z2 o1.f
 obtain ⟨h3,S3,e3,o3⟩:=ih z3 o2.f
 have q:=(q1.tr o1.f (o2.trans o3).tr id (sE e1)).t
 obtain ⟨r,h4,S4,a1,a2,a3⟩:=Lr o3.f.w z q
 exact ⟨r,h4,S4,by simp only [Ev.ev,e1,Ev.ao,e2,e3,a1],.of a2,(o1.trans (o2.trans o3)).al a3⟩
theorem EW (ia:bx P P' a):bx P P' (.rv a):=fun z f=>by
 simp only [ev] at z
 replace z:=ai z;obtain ⟨x,ah,z1,z⟩:=z
 replace z:=aO z;obtain ⟨z,y0⟩:=z;subst y0
 obtain ⟨d,h1,S1,e1,q1,o1⟩:=ia z1 f
 obtain ⟨r,h4,S4,a1,a2,a3⟩:=Ls o1.f.w z q1.t
 exact ⟨r,h4,S4,by simp only [Ev.ev,e1,Ev.ao,a1],.of a2,o1.al a3⟩
theorem mw:∀ {es:Es}{fr ah:Fr}{as:List (Nat ⊕ V)},fM P es fr=.ok as ah→∀ i∈bO as,i∈jr es
 | .nil,_,_,_,z=>by simp only [fM] at z;cases z;simp [bO]
 | .cons e es,fr,ah,as,z=>by
  simp only [fM] at z
  cases y:jZ fr e with
  | some i=>
   rw [y] at z
   simp only at z
   replace z:=ai z;obtain ⟨xs,cX,z2,z⟩:=z
   cases z
   have hy:e=.v i:=by
    cases e <;> simp only [jZ,reduceCtorEq] at y
    split at y
    ·cases y;rfl
    ·cases y
   subst hy
   intro j hj
   simp only [bO,List.mem_cons] at hj
   simp only [jr,List.mem_cons]
   exact hj.imp id fun hj=>mw z2 j hj
  | none=>
   rw [y] at z
   simp only at z
   replace z:=ai z;obtain ⟨x,ay,z1,z⟩:=z
   replace z:=ai z;obtain ⟨xs,cX,z2,z⟩:=z
   cases z
   intro j hj
   simp only [bO] at hj
   have:=mw z2 j hj
   cases e <;> simp only [jr] <;> first | exact this | exact List.mem_cons_of_mem _ this
theorem EX (HP:oU P P') {g:Nat}(is:oY P P' es):bx P P' (.cl g es):=fun z f=>by
 simp only [ev] at z
 replace z:=ai z;obtain ⟨as,ah,z1,z⟩:=z
 obtain ⟨ds,h1,S1,e1,q1,o1⟩:=is z1 f
 obtain ⟨d,h2,S2,e2,q2,o2⟩:=Cv HP z o1.f q1
 exact ⟨d,h2,S2,by simp only [Ev.ev,e1,Ev.ao,e2],.of q2,(o1.trans o2).weak (by
  simp only [bW]
  intro i hi
  rcases List.mem_append.mp hi with hi | hi
  ·exact List.mem_append.mpr (.inl hi)
  ·exact List.mem_append.mpr (.inr (mw z1 i hi)))⟩
theorem EY {g:BI}(is:jf P P' es):bx P P' (.bi g es):=fun z f=>by
 simp only [ev] at z
 replace z:=ai z;obtain ⟨as,ah,z1,z⟩:=z
 replace z:=aO z;obtain ⟨z,y0⟩:=z;subst y0
 obtain ⟨ds,h1,S1,e1,q1,o1⟩:=is z1 f
 obtain ⟨r,h4,S4,a1,a2,a3⟩:=Lv o1.f.w z q1.t
 exact ⟨r,h4,S4,by simp only [Ev.ev,e1,Ev.ao,a1],.of a2,o1.al a3⟩
theorem wj {kvs:List (D×D)}(ia:bx P P' a):bx P P' (.lO kvs a):=fun z f=>by
 simp only [ev] at z
 replace z:=ai z;obtain ⟨x,ah,z1,z⟩:=z
 replace z:=aO z;obtain ⟨z,y0⟩:=z;subst y0
 obtain ⟨d,h1,S1,e1,q1,o1⟩:=ia z1 f
 obtain ⟨r,a1,a2⟩:=Cr (S:=S1) q1.t.u z
 exact ⟨r,h1,S1,by simp only [Ev.ev,e1,Ev.ao,a1,Ev.eF],.of a2,o1⟩
theorem Ah (ia:bx P P' a):bx P P' (.lz a):=fun z f=>by
 simp only [ev] at z
 replace z:=ai z;obtain ⟨x,ah,z1,z⟩:=z
 replace z:=aO z;obtain ⟨z,y0⟩:=z;subst y0
 obtain ⟨d,h1,S1,e1,q1,o1⟩:=ia z1 f
 obtain ⟨r,a1,a2⟩:=HF z q1.t
 exact ⟨r,h1,S1,by simp only [Ev.ev,e1,Ev.ao,a1],.of a2,o1⟩
theorem Ai (ia:bx P P' a):bx P P' (.iZ a):=fun z f=>by
 simp only [ev] at z
 replace z:=ai z;obtain ⟨x,ah,z1,z⟩:=z
 replace z:=aO z;obtain ⟨z,y0⟩:=z;subst y0
 obtain ⟨d,h1,S1,e1,q1,o1⟩:=ia z1 f
 obtain ⟨r,a1,a2⟩:=Lu z q1.t
 exact ⟨r,h1,S1,by simp only [Ev.ev,e1,Ev.ao,a1],.of a2,o1⟩
theorem EZ {m:ME}{o:E}(io:bx P P' o) (is:jf P P' es):bx P P' (.me m o es):=fun {k fr v ah M B h S ak} z f=>by
 simp only [ev] at z
 by_cases hm:iK m=true
 ·rw [if_pos hm] at z
  cases y:jZ fr o with
  | none=>rw [y] at z;cases z
  | some i=>
  rw [y] at z
  try simp only at z
  replace z:=ai z;obtain ⟨as,ay,z1,z⟩:=z
  have hy:o=.v i∧∃ s,lent fr i=some s:=by
   cases o <;> simp only [jZ,reduceCtorEq] at y
   rename_i j
   split at y
   ·rename_i hs
    cases y
    exact ⟨rfl,Option.isSome_iff_exists.mp hs⟩
   ·cases y
  obtain ⟨rfl,s,hs⟩:=hy
  obtain ⟨n,cs,_,_,_,w2,w3,_,_⟩:=jl hs f
  obtain ⟨ds,h1,S1,e1,q1,o1⟩:=is z1 f
  have hr:Ev.vK m (.ref n) h=true:=by cases m <;> simp [iK] at hm <;> simp [Ev.vK,gD w3]
  have hap:zY m=false→az h1 S1 as ds:=fun hh=>by rw [hh] at q1;exact q1.n
  have fin:∀ s l l',ay[i]?=some (some s)→gM (some s)=true→(∃ m' cs',ak[i]?=some (some (.ref m'))∧h1[m']?=some (.lst cs')∧az h1 S1 l cs')→jG m l as=some (v,l')→ah=ay.set i (some (s.with l'))→
    LA P' (.me m (.v i) es) k v M B h S fr ak ah:=by
   intro s l l' k1 k2 ⟨m',cs',k3,k4,k5⟩ k6 k7
   rw [w2] at k3;cases k3
   have mn:=o1.f.mM k1 k2 w2
   obtain ⟨r,ds',a1,a2,a3⟩:=Lz k6 k4 k5 q1.t hap fun k z y=>(o1.f.wS k z).2.1 (y▸mn)
   have fw:=o1.f.write (l':=l') k1 k2 w2 a3
   subst k7
   refine ⟨r,_,S1,?_,.of (a2.mono (fun m z=>j3 fun y=>(o1.f.wS m z).2.1 (y▸mn)) fun _ z=>z),fw,?_,fun j=>?_⟩
   ·simp only [Ev.ev,w2,Option.join,Ev.eF,Ev.ao,hr,if_true,e1]
    simp only [Option.bind,id,Ev.eF,Ev.ao,hr,if_true,e1]
    exact a1
   ·refine ⟨by simpa using o1.tr.len,fun m y1 y2=>?_,o1.tr.sub,fun m y=>by simpa using o1.tr.new m y⟩
    have y3:¬ Xs M ak (fS es) m:=fun z=>y2 (Xs.mono (by simp only [bW];intro i hi;simp [hi]) z)
    have y4:m≠n:=fun z=>y2 ⟨z▸mn,i,by simp [bW,RM,hm],by rw [z];exact w2⟩
    rw [j3 (fun (z:n=m)=>y4 z.symm)]
    exact o1.tr.keep m y1 y3
   ·rw [←o1.lk j]
    unfold locked
    by_cases hj:i=j
    ·subst hj
     rw [List.getElem?_set_self (List.getElem?_eq_some_iff.mp k1).1,k1]
     exact wc
    ·rw [List.getElem?_set_ne hj]
  split at z
  ·rename_i l k1
   have old:=o1.f.get k1
   obtain ⟨p,k2,m',cs',rfl,_,k4,k5⟩:=old
   split at z
   ·rename_i v' l' k6
    cases z
    exact fin _ l l' k1 rfl ⟨m',cs',k2,k4,k5⟩ k6 rfl
   ·cases z
  ·rename_i l k1
   have old:=o1.f.get k1
   obtain ⟨p,k2,m',cs',rfl,_,k4,k5⟩:=old
   split at z
   ·rename_i v' l' k6
    cases z
    exact fin _ l l' k1 rfl ⟨m',cs',k2,k4,k5⟩ k6 rfl
   ·cases z
  ·cases z
 ·rw [if_neg hm] at z
  replace z:=ai z;obtain ⟨x,ay,z1,z⟩:=z
  replace z:=ai z;obtain ⟨as,cX,z2,z⟩:=z
  replace z:=aO z;obtain ⟨z,y0⟩:=z;subst y0
  obtain ⟨d,h1,S1,e1,q1,o1⟩:=io z1 f
  obtain ⟨ds,h2,S2,e2,q2,o2⟩:=is z2 o1.f
  have hm':iK m=false:=by simpa using hm
  have E5:=(q1.tr o1.f o2.tr id (sE e1)).t
  obtain ⟨a1,r,a2,a3⟩:=Lx z hm' E5 q2.t
  have hr:Ev.vK m d h1=true:=by
   unfold eN at z
   split at z
   ·have:=q1.t;simp only [br,Rep] at this;subst this;rfl
   ·have:=q1.t;simp only [br,Rep] at this;subst this;rfl
   ·cases z
  exact ⟨r,h2,S2,by simp only [Ev.ev,e1,Ev.ao,hr,if_true,e2,a2],.of a3,(o1.trans o2).weak (by simp only [bW];intro i hi;simp at hi ⊢;rcases hi with hi | hi <;> simp [hi])⟩
theorem ua {elt:E}{t:T}{cond:Eo}(ii:kF P P' it) (ic:sD P P' cond) (ie:bx P P' elt):bx P P' (.comp elt t it cond):=fun z f=>by
 simp only [ev] at z
 replace z:=ai z;obtain ⟨vs,ay,z1,z⟩:=z
 split at z
 case isFalse=>cases z
 rename_i hu
 replace z:=aO z;obtain ⟨z,y0⟩:=z;subst y0
 simp only [Option.bind_eq_some_iff] at z
 obtain ⟨rs,z2,z3⟩:=z
 obtain ⟨s,h1,S1,e1,q1,q2,o1⟩:=ii z1 f
 have Xn:=o1.f.ro
 obtain ⟨rs',h2,S2,c1,c2,c3⟩:=wg (f':=fun d h2=>match Ev.cj t d _ with
    | none=>.bad
    | some ay=>(Ev.gZ P' cond ay h2).bind fun k h3=>if k then (Ev.ev P' elt ay h3).bind fun x h4=>.ok (some x) h4 else .ok none h3) (ck:=s.2) o1.f.w (fun q hq=>(q2 q hq).1) (fun v o d h S al y q=>by
  split at y
  ·cases y
  ·rename_i cX y1
   obtain ⟨iY,b1,b2,_,_⟩:=(Xn.al al).cj y1 q
   rw [b1]
   split at y
   ·rename_i c ja y2
    obtain ⟨h3,S3,c1,oc⟩:=ic y2 b2
    have LL:Al h S h3 S3:=oc.tr.al fun m z=>z.1
    split at y
    ·rename_i hc
     subst hc
     split at y
     ·rename_i x qU y3
      cases y
      obtain ⟨d',h4,S4,d1,d2,od⟩:=ie y3 (b2.al LL)
      refine ⟨some d',h4,S4,?_,⟨d',rfl,d2.n⟩,LL.trans (od.tr.al fun m z=>z.1)⟩
      simp only [c1,Ev.ao,if_true,d1]
     ·cases y
    ·rename_i hc
     cases y
     refine ⟨none,h3,S3,?_,rfl,LL⟩
     simp only [c1,Ev.ao]
     rw [if_neg hc]
   ·cases y) Al.refl z2 q1
 obtain ⟨r,h4,S4,a1,a2,a3⟩:=gq (o1.f.al c3).w z3 c2
 refine ⟨r,h4,S4,?_,.of a2,(o1.al c3).al a3⟩
 simp only [Ev.ev,e1,Ev.ao]
 rw [if_pos (o1.f.undef hu)]
 refine Eq.trans (congrArg (fun q:Ev.R (List D)=>q.bind fun ds h2=>Ev.alloc ds h2) c1) ?_
 simp only [Ev.ao,a1]
theorem Aj (ii:kF P P' it):bx P P' (.gn it):=fun z f=>by
 simp only [ev] at z
 replace z:=ai z;obtain ⟨vs,ay,z1,z⟩:=z
 replace z:=aO z;obtain ⟨z,y0⟩:=z;subst y0
 obtain ⟨s,h1,S1,e1,q1,q2,o1⟩:=ii z1 f
 obtain ⟨r,h4,S4,a1,a2,a3⟩:=gq o1.f.w z q1
 exact ⟨r,h4,S4,by simp only [Ev.ev,e1,Ev.ao,a1],.of a2,o1.al a3⟩
theorem LM:jf P P' .nil:=fun {k fr v ah M B h S ak} z f=>by
 simp only [b7] at z
 cases z
 refine ⟨[],_,_,by simp only [Ev.b7],?_,.refl f⟩
 unfold je;split <;> rfl
theorem HK (ie:bx P P' e) (is:jf P P' es):jf P P' (.cons e es):=fun {k fr v ah M B h S ak} z f=>by
 simp only [b7] at z
 replace z:=ai z;obtain ⟨x,ay,z1,z⟩:=z
 replace z:=ai z;obtain ⟨xs,cX,z2,z⟩:=z
 cases z
 obtain ⟨d,h1,S1,e1,q1,o1⟩:=ie z1 f
 obtain ⟨ds,h2,S2,e2,q2,o2⟩:=is z2 o1.f
 have E5:=q1.tr (a:=e) o1.f o2.tr (by intro z;simp at z;exact z.2) (sE e1)
 refine ⟨d :: ds,h2,S2,by simp only [Ev.b7,e1,Ev.ao,e2],?_,o1.trans o2⟩
 unfold je at q2 ⊢
 cases k with
 | true=>simp only [if_true] at q2 ⊢;exact ⟨d,ds,rfl,E5.t,q2⟩
 | false=>
  simp only [Bool.false_eq_true,if_false] at q2 ⊢
  exact .cons (by simpa [fT] using E5) q2
theorem HL:oY P P' .nil:=fun z f=>by
 simp only [fM] at z
 cases z
 exact ⟨[],_,_,by simp only [Ev.b7],rfl,.refl f⟩
theorem Cz (ie:bx P P' e) (is:oY P P' es):oY P P' (.cons e es):=fun {fr v ah M B h S ak} z f=>by
 simp only [fM] at z
 cases y:jZ fr e with
 | some i=>
  rw [y] at z
  try simp only at z
  replace z:=ai z;obtain ⟨xs,cX,z2,z⟩:=z
  cases z
  have hy:e=.v i∧∃ s,lent fr i=some s:=by
   cases e <;> simp only [jZ,reduceCtorEq] at y
   rename_i j
   split at y
   ·rename_i hs
    cases y
    exact ⟨rfl,Option.isSome_iff_exists.mp hs⟩
   ·cases y
  obtain ⟨rfl,s,hs⟩:=hy
  obtain ⟨n,cs,_,_,_,w2,w3,_,_⟩:=jl hs f
  obtain ⟨ds,h2,S2,e2,q2,o2⟩:=is z2 f
  refine ⟨.ref n :: ds,h2,S2,?_,⟨_,_,rfl,w2,q2⟩,o2.weak (by simp only [fS,bW];intro i hi;simpa using hi)⟩
  simp only [Ev.b7,Ev.ev,w2,Option.join,Option.bind,id,Ev.eF,Ev.ao,e2]
 | none=>
  rw [y] at z
  try simp only at z
  replace z:=ai z;obtain ⟨x,ay,z1,z⟩:=z
  replace z:=ai z;obtain ⟨xs,cX,z2,z⟩:=z
  cases z
  obtain ⟨d,h1,S1,e1,q1,o1⟩:=ie z1 f
  obtain ⟨ds,h2,S2,e2,q2,o2⟩:=is z2 o1.f
  exact ⟨d :: ds,h2,S2,by simp only [Ev.b7,e1,Ev.ao,e2],⟨_,_,rfl,q1.n.tr o1.f o2.tr,q2⟩,o1.trans o2⟩
theorem Qa:oZ P P' .no:=fun z f=>by
 simp only [fL] at z;cases z
 exact ⟨_,_,by simp only [Ev.fL],.refl f⟩
theorem LN (ie:bx P P' e):oZ P P' (.yes e):=fun z f=>by
 simp only [fL] at z
 replace z:=ai z;obtain ⟨x,ay,z1,z⟩:=z
 replace z:=aO z;obtain ⟨z,y0⟩:=z;subst y0
 obtain ⟨d,h1,S1,e1,q1,o1⟩:=ie z1 f
 cases x <;> simp [intOf] at z
 subst z
 have q:=q1.t
 simp only [br,Rep] at q
 subst q
 exact ⟨h1,S1,by simp only [Ev.fL,e1,Ev.ao];rfl,o1⟩
theorem LO:sD P P' .no:=fun z f=>by
 simp only [gZ] at z;cases z
 exact ⟨_,_,by simp only [Ev.gZ],.refl f⟩
theorem HM (ie:gy P P' e):sD P P' (.yes e):=fun z f=>by
 simp only [gZ] at z
 obtain ⟨h1,S1,e1,o1⟩:=ie z f
 exact ⟨h1,S1,by simp only [Ev.gZ,e1],o1⟩
theorem U5 (ia:gy P P' a) (ib:gy P P' b):gy P P' (.an a b):=fun z f=>by
 simp only [aL] at z
 replace z:=ai z;obtain ⟨k,ah,z1,z⟩:=z
 obtain ⟨h1,S1,e1,o1⟩:=ia z1 f
 cases k with
 | true=>
  simp only [if_true] at z
  obtain ⟨h2,S2,e2,o2⟩:=ib z o1.f
  exact ⟨h2,S2,by simp only [Ev.aL,e1,Ev.ao,if_true,e2],o1.trans o2⟩
 | false=>
  simp only [Bool.false_eq_true,if_false] at z
  cases z
  exact ⟨h1,S1,by simp only [Ev.aL,e1,Ev.ao];rfl,o1.weak (by simp only [bW];intro i hi;simp [hi])⟩
theorem Qc (ia:gy P P' a) (ib:gy P P' b):gy P P' (.orr a b):=fun z f=>by
 simp only [aL] at z
 replace z:=ai z;obtain ⟨k,ah,z1,z⟩:=z
 obtain ⟨h1,S1,e1,o1⟩:=ia z1 f
 cases k with
 | false=>
  simp only [Bool.false_eq_true,if_false] at z
  obtain ⟨h2,S2,e2,o2⟩:=ib z o1.f
  exact ⟨h2,S2,by simp only [Ev.aL,e1,Ev.ao];rw [if_neg (by decide)];exact e2,o1.trans o2⟩
 | true=>
  simp only [if_true] at z
  cases z
  exact ⟨h1,S1,by simp only [Ev.aL,e1,Ev.ao];rfl,o1.weak (by simp only [bW];intro i hi;simp [hi])⟩
theorem U6 (ia:gy P P' a):gy P P' (.nt a):=fun z f=>by
 simp only [aL] at z
 replace z:=ai z;obtain ⟨k,ah,z1,z⟩:=z
 obtain ⟨h1,S1,e1,o1⟩:=ia z1 f
 cases z
 exact ⟨h1,S1,by simp only [Ev.aL,e1,Ev.ao],o1⟩
theorem dO (ie:bx P P' e) (h1:∀ fr,aL P e fr=(ev P true e fr).bind fun x ah=>.ok (truthy x) ah) (h2:∀ fr h,Ev.aL P' e fr h=(Ev.ev P' e fr h).bind fun x h1=>Ev.R.of (Ev.truthy h1 x) h1):gy P P' e:=fun z f=>by
 rw [h1] at z
 replace z:=ai z;obtain ⟨x,ah,z1,z⟩:=z
 cases z
 obtain ⟨d,h1,S1,e1,q1,o1⟩:=ie z1 f
 exact ⟨h1,S1,by rw [h2,e1,Ev.ao,zZ q1.t];rfl,o1⟩
theorem Ak (ie:bx P P' e) {k:Bool}{fr:Fr}{v:V}{ah:Fr}{M B:Nat→Prop}{h:Hh}{S:Nat→Prop}{ak:Ev.Fr}(z:src k fr e (ev P k e fr)=.ok v ah) (f:bC M B h S fr ak) :
  ∃ d h' S',Ev.ev P' e ak h=.ok d h'∧br h' S' v d∧(k=false→∀ n,d=.ref n→¬ M n)∧Out M B (bW e) h S fr ak h' S' ah:=by
 have gen:ev P k e fr=.ok v ah→∃ d h' S',Ev.ev P' e ak h=.ok d h'∧br h' S' v d∧(k=false→∀ n,d=.ref n→¬ M n)∧Out M B (bW e) h S fr ak h' S' ah:=fun z=>by
  obtain ⟨d,h1,S1,e1,q1,o1⟩:=ie z f
  refine ⟨d,h1,S1,e1,q1.t,fun hk n hd=>?_,o1⟩
  subst hk
  have q:=q1.n
  cases v <;> simp only [Rep] at q
  ·cases q.symm.trans hd
  ·cases q.symm.trans hd
  ·cases q.symm.trans hd
  ·cases q.symm.trans hd
  ·obtain ⟨_,q,_⟩:=q;cases q.symm.trans hd
  ·obtain ⟨m,ds,q,sm,_⟩:=q;cases q.symm.trans hd;exact (o1.f.wS _ sm).2.1
  ·obtain ⟨m,ds,q,sm,_⟩:=q;cases q.symm.trans hd;exact (o1.f.wS _ sm).2.1
 cases e
 case v i=>
  simp only [src] at z
  replace z:=aO z;obtain ⟨z,y0⟩:=z;subst y0
  unfold x8 at z
  split at z
  ·rename_i l y
   cases z
   obtain ⟨p,e1,m,ds,rfl,y1,y2,y3⟩:=f.get y
   exact ⟨.ref m,h,S,by simp only [Ev.ev,e1,Option.join,Option.bind,id,Ev.eF],⟨m,ds,rfl,y2,y3⟩,fun _ n hn=>by cases hn;exact y1,.refl f⟩
  ·exact gen (by simp only [ev,z,eF])
 all_goals exact gen z
theorem LP (ie:bx P P' e):kF P P' (.seq e):=fun z f=>by
 simp only [dc] at z
 replace z:=ai z;obtain ⟨x,ah,z1,z⟩:=z
 replace z:=aO z;obtain ⟨z,y0⟩:=z;subst y0
 obtain ⟨d,h1,S1,e1,q1,q2,o1⟩:=Ak ie z1 f
 obtain ⟨s,a1,a2,a3⟩:=Ct z q1
 exact ⟨s,h1,S1,by simp only [Ev.dc,e1,Ev.ao,a1,Ev.eF],a2,fun q hq=>⟨(a3 q hq).2,fun hk=>q2 hk _ (a3 q hq).1⟩,o1⟩
theorem HN (is:jf P P' es):kF P P' (.gm es):=fun z f=>by
 simp only [dc] at z
 replace z:=ai z;obtain ⟨x,ah,z1,z⟩:=z
 replace z:=aO z;obtain ⟨z,y0⟩:=z;subst y0
 obtain ⟨d,h1,S1,e1,q1,o1⟩:=is z1 f
 obtain ⟨s,a1,a2⟩:=Ly z q1.t
 exact ⟨(s,[]),h1,S1,by simp only [Ev.dc,e1,Ev.ao,a1,Ev.eF],a2,fun q hq=>by simp at hq,o1⟩
theorem CB (ie:bx P P' e):kF P P' (.enum e):=fun z f=>by
 simp only [dc] at z
 replace z:=ai z;obtain ⟨x,ah,z1,z⟩:=z
 replace z:=aO z;obtain ⟨z,y0⟩:=z;subst y0
 obtain ⟨d,h1,S1,e1,q1,q2,o1⟩:=Ak ie z1 f
 simp only [Option.map_eq_some_iff] at z
 obtain ⟨l,z,rfl⟩:=z
 obtain ⟨s,a1,a2,a3⟩:=HG z q1
 exact ⟨(Ev.gx 0 s.1,s.2),h1,S1,by simp only [Ev.dc,e1,Ev.ao,a1,Option.map,Ev.eF],v8 0 a2,fun q hq=>⟨(a3 q hq).2,fun hk=>q2 hk _ (a3 q hq).1⟩,o1⟩
theorem HQ (ie:bx P P' e):kF P P' (.rev e):=fun z f=>by
 simp only [dc] at z
 replace z:=ai z;obtain ⟨x,ah,z1,z⟩:=z
 replace z:=aO z;obtain ⟨z,y0⟩:=z;subst y0
 obtain ⟨d,h1,S1,e1,q1,o1⟩:=ie z1 f
 simp only [Option.map_eq_some_iff] at z
 obtain ⟨l,z,rfl⟩:=z
 cases x <;> simp only [x6,reduceCtorEq] at z
 cases z
 have k1:=q1.t
 simp only [br,Rep] at k1
 obtain ⟨ds,y1,k2⟩:=k1
 subst y1
 exact ⟨(ds.reverse,[]),h1,S1,by simp only [Ev.dc,e1,Ev.ao,Ev.BL,Option.map,Ev.eF],k2.reverse,fun q hq=>by simp at hq,o1⟩
end
section
variable {P:aU}{P':Ev.aU}(HP:oU P P')
include HP
mutual
theorem bq:∀ e:E,bx P P' e
 | .c _=>LI
 | .v _=>LJ
 | .tup es=>z9 (fU es)
 | .lst es=>Aa (fU es)
 | .bin _ a b=>Ab (bq a) (bq b)
 | .cmp _ a b=>Ac (bq a) (bq b)
 | .nt a=>P8 (bq a)
 | .neg a=>Ad (bq a)
 | .an a b=>P9 (bq a) (bq b)
 | .orr a b=>LK (bq a) (bq b)
 | .ly t a b=>Ag (gr t) (bq a) (bq b)
 | .ix a b=>EU (bq a) (bq b)
 | .sl a lo hi=>EV (bq a) (o4 lo) (o4 hi)
 | .rv a=>EW (bq a)
 | .lz a=>Ah (bq a)
 | .cl _ es=>EX HP (uc es)
 | .bi _ es=>EY (fU es)
 | .me _ o es=>EZ (bq o) (fU es)
 | .comp elt _ it cond=>ua (j4 it) (Ao cond) (bq elt)
 | .gn it=>Aj (j4 it)
 | .lO _ a=>wj (bq a)
 | .iZ a=>Ai (bq a)
theorem gr:∀ e:E,gy P P' e
 | .an a b=>U5 (gr a) (gr b)
 | .orr a b=>Qc (gr a) (gr b)
 | .nt a=>U6 (gr a)
 | .c x=>dO LI (fun _=>by simp only [aL]) (fun _ _=>by simp only [Ev.aL])
 | .v x=>dO LJ (fun _=>by simp only [aL]) (fun _ _=>by simp only [Ev.aL])
 | .tup es=>dO (z9 (fU es)) (fun _=>by simp only [aL]) (fun _ _=>by simp only [Ev.aL])
 | .lst es=>dO (Aa (fU es)) (fun _=>by simp only [aL]) (fun _ _=>by simp only [Ev.aL])
 | .bin _ a b=>dO (Ab (bq a) (bq b)) (fun _=>by simp only [aL]) (fun _ _=>by simp only [Ev.aL])
 | .cmp _ a b=>dO (Ac (bq a) (bq b)) (fun _=>by simp only [aL]) (fun _ _=>by simp only [Ev.aL])
 | .neg a=>dO (Ad (bq a)) (fun _=>by simp only [aL]) (fun _ _=>by simp only [Ev.aL])
 | .ly t a b=>dO (Ag (gr t) (bq a) (bq b)) (fun _=>by simp only [aL]) (fun _ _=>by simp only [Ev.aL])
 | .ix a b=>dO (EU (bq a) (bq b)) (fun _=>by simp only [aL]) (fun _ _=>by simp only [Ev.aL])
 | .sl a lo hi=>dO (EV (bq a) (o4 lo) (o4 hi)) (fun _=>by simp only [aL]) (fun _ _=>by simp only [Ev.aL])
 | .rv a=>dO (EW (bq a)) (fun _=>by simp only [aL]) (fun _ _=>by simp only [Ev.aL])
 | .lz a=>dO (Ah (bq a)) (fun _=>by simp only [aL]) (fun _ _=>by simp only [Ev.aL])
 | .cl _ es=>dO (EX HP (uc es)) (fun _=>by simp only [aL]) (fun _ _=>by simp only [Ev.aL])
 | .bi _ es=>dO (EY (fU es)) (fun _=>by simp only [aL]) (fun _ _=>by simp only [Ev.aL])
 | .me _ o es=>dO (EZ (bq o) (fU es)) (fun _=>by simp only [aL]) (fun _ _=>by simp only [Ev.aL])
 | .comp elt _ it cond=>dO (ua (j4 it) (Ao cond) (bq elt)) (fun _=>by simp only [aL]) (fun _ _=>by simp only [Ev.aL])
 | .gn it=>dO (Aj (j4 it)) (fun _=>by simp only [aL]) (fun _ _=>by simp only [Ev.aL])
 | .lO _ a=>dO (wj (bq a)) (fun _=>by simp only [aL]) (fun _ _=>by simp only [Ev.aL])
 | .iZ a=>dO (Ai (bq a)) (fun _=>by simp only [aL]) (fun _ _=>by simp only [Ev.aL])
theorem fU:∀ e:Es,jf P P' e
 | .nil=>LM
 | .cons e es=>HK (bq e) (fU es)
theorem uc:∀ e:Es,oY P P' e
 | .nil=>HL
 | .cons e es=>Cz (bq e) (uc es)
theorem o4:∀ e:Eo,oZ P P' e
 | .no=>Qa
 | .yes e=>LN (bq e)
theorem Ao:∀ e:Eo,sD P P' e
 | .no=>LO
 | .yes e=>HM (gr e)
theorem j4:∀ e:It,kF P P' e
 | .seq e=>LP (bq e)
 | .gm es=>HN (fU es)
 | .enum a=>CB (bq a)
 | .rev a=>HQ (bq a)
end
end
end Pv
namespace Pv
open Ev (D O Hh bV bQ TY BI ME T E Es Eo It S Ss Fn big deep b2i rep cB er bN aS cut cT ef slots bu)
structure Tr (M B:Nat→Prop) (h:Hh) (S:Nat→Prop) (M':Nat→Prop) (h':Hh) (S':Nat→Prop):Prop where
 len:h.length≤h'.length
 keep:∀ m,m<h.length→¬ M m→h'[m]?=h[m]?
 sub:∀ m,S m→S' m
 new:∀ m,S' m→S m∨(h.length≤m∧m<h'.length)∨(M m∧¬ B m)
 yc:∀ m,M' m→M m∨h.length≤m
structure dY (M B:Nat→Prop) (h:Hh) (S:Nat→Prop) (fr:Fr) (ak:Ev.Fr) (M':Nat→Prop) (h':Hh) (S':Nat→Prop) (ah:Fr) (bL:Ev.Fr):Prop where
 f:bC M' B h' S' ah bL
 tr:Tr M B h S M' h' S'
 lk:∀ i,locked ah i=locked fr i
 rf:∀ i,locked fr i=true→bL[i]?=ak[i]?
noncomputable def gP (h:Hh) (S:Nat→Prop):Fl→Ev.Fl→Prop
 | .nx,g=>g=.nx
 | .bk,g=>g=.bk
 | .ct,g=>g=.ct
 | .ret v,g=>∃ d,g=.ret d∧Rep h S v d
section
variable {M B M' M1 M2:Nat→Prop}{h h' h1 h2:Hh}{S S' S1 S2:Nat→Prop}{fr ah ay:Fr}{ak bL kG:Ev.Fr}{c c1 c2:List Nat}{v:V}{d:D}
theorem dY.refl (f:bC M B h S fr ak):dY M B h S fr ak M h S fr ak:=⟨f,⟨Nat.le_refl _,fun _ _ _=>rfl,fun _ q=>q,fun _ q=>.inl q,fun _ q=>.inl q⟩,fun _=>rfl,fun _ _=>rfl⟩
theorem Out.s (o:Out M B c h S fr ak h1 S1 ah):dY M B h S fr ak M h1 S1 ah ak:=⟨o.f,⟨o.tr.len,fun m y1 y2=>o.tr.keep m y1 (fun z=>y2 z.1),o.tr.sub,fun m q=>(o.tr.new m q).imp id .inl,fun _ q=>.inl q⟩,o.lk,fun _ _=>rfl⟩
theorem dY.trans (f0:bC M B h S fr ak) (a:dY M B h S fr ak M1 h1 S1 ah bL) (b:dY M1 B h1 S1 ah bL M2 h2 S2 ay kG):dY M B h S fr ak M2 h2 S2 ay kG where
 f:=b.f
 tr:=⟨Nat.le_trans a.tr.len b.tr.len,fun m y1 y2=>by
   rw [b.tr.keep m (Nat.lt_of_lt_of_le y1 a.tr.len) (fun z=>by
    rcases a.tr.yc m z with z | z
    ·exact y2 z
    ·omega),a.tr.keep m y1 y2],fun m q=>b.tr.sub m (a.tr.sub m q),fun m q=>by
   rcases b.tr.new m q with q | q | q
   ·rcases a.tr.new m q with q | q | q
    ·exact .inl q
    ·exact .inr (.inl ⟨q.1,Nat.lt_of_lt_of_le q.2 b.tr.len⟩)
    ·exact .inr (.inr q)
   ·exact .inr (.inl ⟨Nat.le_trans a.tr.len q.1,q.2⟩)
   ·rcases a.tr.yc m q.1 with z | z
    ·exact .inr (.inr ⟨z,q.2⟩)
    ·exact .inr (.inl ⟨z,Nat.lt_of_lt_of_le (a.f.wM m q.1) b.tr.len⟩),fun m q=>by
   rcases b.tr.yc m q with q | q
   ·exact a.tr.yc m q
   ·exact .inr (Nat.le_trans a.tr.len q)⟩
 lk:=fun i=>(b.lk i).trans (a.lk i)
 rf:=fun i q=>(b.rf i (by rw [a.lk i];exact q)).trans (a.rf i q)
theorem bC.kind (f:bC M B h S fr ak) (g:Option Sl→Option Sl→Prop) (hl:ah.length=fr.length) (hg:∀ (i:Nat) o,ah[i]?=some o→∃ o0,fr[i]?=some o0∧(o=o0∨(∃ l,o0=some (.own l)∧o=some (.val (.lst l)))∨(∃ l,o0=some (.bor l)∧o=some (.ro l)))) :
  ∃ M' S',dY M B h S fr ak M' h S' ah ak:=by
 let X:Nat→Prop:=fun m=>∃ (i:Nat) (l:List V),fr[i]?=some (some (Sl.own l))∧ah[i]?=some (some (Sl.val (V.lst l)))∧ak[i]?=some (some (D.ref m))
 let Y:Nat→Prop:=fun m=>∃ (i:Nat) (l:List V),fr[i]?=some (some (Sl.bor l))∧ah[i]?=some (some (Sl.ro l))∧ak[i]?=some (some (D.ref m))
 have xM:∀ m,X m→M m∧¬ B m:=fun m ⟨i,l,a,_,b⟩=>by
  obtain ⟨m',ds,e,q,_⟩:=f.sl i _ _ a b;cases e;exact q
 have yM:∀ m,Y m→M m∧B m:=fun m ⟨i,l,a,_,b⟩=>by
  obtain ⟨m',ds,e,q,_⟩:=f.sl i _ _ a b;cases e;exact q
 have mono:∀ {l:List V} {ds:List D},az h S l ds→az h (fun m=>S m∨X m) l ds:=fun q=>q.mono (fun _ _=>rfl) fun _ z=>.inl z
 refine ⟨fun m=>M m∧¬ X m∧¬ Y m,fun m=>S m∨X m,⟨⟨fun m q=>?_,fun m q=>f.wM m q.1,f.wB,by rw [hl,f.len],fun i o p e1 e2=>?_,fun i j o o' m y1 y2 y3 y4 y5 y6=>?_⟩,⟨Nat.le_refl _,fun _ _ _=>rfl,fun _ q=>.inl q,fun m q=>?_,fun m q=>.inl q.1⟩,fun i=>?_,fun _ _=>rfl⟩⟩
 ·rcases q with q | q
  ·exact ⟨(f.wS m q).1,fun z=>(f.wS m q).2.1 z.1,(f.wS m q).2.2⟩
  ·exact ⟨f.wM m (xM m q).1,fun z=>z.2.1 q,(xM m q).2⟩
 ·obtain ⟨o0,e0,k⟩:=hg i o e1
  have old:=f.sl i o0 p e0 e2
  rcases k with rfl | ⟨l,rfl,rfl⟩ | ⟨l,rfl,rfl⟩
  ·rcases o with _ | s
   ·exact old
   ·cases s with
    | val v=>obtain ⟨d,e,q⟩:=old;exact ⟨d,e,q.mono (fun _ _=>rfl) fun _ z=>.inl z⟩
    | own l=>
     obtain ⟨m,ds,rfl,z,y,q⟩:=old
     refine ⟨m,ds,rfl,⟨⟨z.1,fun ⟨j,l',a1,a2,a3⟩=>?_,fun ⟨j,l',a1,a2,a3⟩=>?_⟩,z.2⟩,y,mono q⟩
     ·have:=f.inj i j _ _ m e0 a1 rfl rfl e2 a3;subst this;rw [e1] at a2;cases a2
     ·have:=f.inj i j _ _ m e0 a1 rfl rfl e2 a3;subst this;rw [e1] at a2;cases a2
    | bor l=>
     obtain ⟨m,ds,rfl,z,y,q⟩:=old
     refine ⟨m,ds,rfl,⟨⟨z.1,fun ⟨j,l',a1,a2,a3⟩=>?_,fun ⟨j,l',a1,a2,a3⟩=>?_⟩,z.2⟩,y,mono q⟩
     ·have:=f.inj i j _ _ m e0 a1 rfl rfl e2 a3;subst this;rw [e1] at a2;cases a2
     ·have:=f.inj i j _ _ m e0 a1 rfl rfl e2 a3;subst this;rw [e1] at a2;cases a2
    | ro l=>obtain ⟨m,ds,rfl,z,y,q⟩:=old;exact ⟨m,ds,rfl,fun w=>z w.1,y,mono q⟩
  ·obtain ⟨m,ds,rfl,z,y,q⟩:=old
   exact ⟨.ref m,rfl,m,ds,rfl,.inr ⟨i,l,e0,e1,e2⟩,y,mono q⟩
  ·obtain ⟨m,ds,rfl,z,y,q⟩:=old
   exact ⟨m,ds,rfl,fun w=>w.2.2 ⟨i,l,e0,e1,e2⟩,y,mono q⟩
 ·have kd:∀ (i:Nat) o,ah[i]?=some o→gM o=true→∃ o0,fr[i]?=some o0∧gM o0=true:=fun i o w1 w2=>by
   obtain ⟨o0,e0,k⟩:=hg i o w1
   rcases k with rfl | ⟨l,rfl,rfl⟩ | ⟨l,rfl,rfl⟩
   ·exact ⟨o,e0,w2⟩
   ·cases w2
   ·cases w2
  obtain ⟨oi,k1,k2⟩:=kd i o y1 y3
  obtain ⟨oj,k3,k4⟩:=kd j o' y2 y4
  exact f.inj i j oi oj m k1 k3 k2 k4 y5 y6
 ·rcases q with q | q
  ·exact .inl q
  ·exact .inr (.inr (xM m q))
 ·unfold locked
  cases z:ah[i]? with
  | none=>
   have:fr[i]?=none:=by rw [List.getElem?_eq_none_iff] at z ⊢;omega
   rw [this]
  | some o=>
   obtain ⟨o0,e0,k⟩:=hg i o z
   rw [e0]
   rcases k with rfl | ⟨l,rfl,rfl⟩ | ⟨l,rfl,rfl⟩ <;> rfl
theorem bC.gk (f:bC M B h S fr ak):∃ M' S',dY M B h S fr ak M' h S' (gf fr) ak:=by
 refine f.kind (fun _ _=>True) (by simp [gf]) fun i o e=>?_
 unfold gf at e
 rw [List.getElem?_map] at e
 cases z:fr[i]? with
 | none=>rw [z] at e;cases e
 | some o0=>
  rw [z] at e;cases e
  refine ⟨o0,rfl,?_⟩
  rcases o0 with _ | s
  ·exact .inl rfl
  ·cases s with
   | own l=>exact .inr (.inl ⟨l,rfl,rfl⟩)
   | _=>exact .inl rfl
theorem bC.walk:∀ (is:List Nat) {M:Nat→Prop}{S:Nat→Prop}{fr:Fr},bC M B h S fr ak→∃ M' S',dY M B h S fr ak M' h S' (sC is fr) ak
 | [],_,_,_,f=>⟨_,_,.refl f⟩
 | i :: is,M,S,fr,f=>by
  have one:∃ M1 S1,dY M B h S fr ak M1 h S1 (match fr[i]? with | some (some s)=>fr.set i (some s.walk) | _=>fr) ak:=by
   split
   ·rename_i s z
    have hl:=(List.getElem?_eq_some_iff.mp z).1
    refine f.kind (fun _ _=>True) (by simp) fun j o e=>?_
    by_cases hj:i=j
    ·subst hj
     rw [List.getElem?_set_self hl] at e
     cases e
     refine ⟨_,z,?_⟩
     cases s with
     | own l=>exact .inr (.inl ⟨l,rfl,rfl⟩)
     | bor l=>exact .inr (.inr ⟨l,rfl,rfl⟩)
     | _=>exact .inl rfl
    ·rw [List.getElem?_set_ne hj] at e
     exact ⟨o,e,.inl rfl⟩
   ·exact ⟨M,S,.refl f⟩
  obtain ⟨M1,S1,o1⟩:=one
  obtain ⟨M2,S2,o2⟩:=bC.walk is o1.f
  exact ⟨M2,S2,o1.trans f o2⟩
theorem bC.own (f:bC M B h S fr ak) {i:Nat}{l:List V}{ds:List D}(e:put fr i (.own l)=some ah) (q:az h S l ds):dY M B h S fr ak (fun m=>M m∨m=h.length) (h++[.lst ds]) S ah (ak.set i (some (.ref h.length))):=by
 have hx:ah=fr.set i (some (.own l))∧locked fr i=false:=by
  unfold put at e
  unfold locked
  split at e
  ·cases e
  ·cases e
  ·rename_i k1 k2
   cases e
   refine ⟨rfl,?_⟩
   cases z:fr[i]? with
   | none=>rfl
   | some o=>
    rcases o with _ | s
    ·rfl
    ·cases s with
     | bor l=>exact absurd z (k1 l)
     | ro l=>exact absurd z (k2 l)
     | _=>rfl
 obtain ⟨rfl,hk⟩:=hx
 have kp:∀ m,m<h.length→(h++[O.lst ds])[m]?=h[m]?:=fun m z=>by rw [List.getElem?_append_left z]
 have kS:∀ m,S m→(h++[O.lst ds])[m]?=h[m]?:=fun m z=>kp m (f.w m z)
 refine ⟨⟨fun m y=>⟨by have:=(f.wS m y).1;simp;omega,fun z=>?_,(f.wS m y).2.2⟩,fun m y=>?_,fun m y=>by have:=f.wB m y;simp;omega,by simp [f.len],fun j o p y1 y2=>?_,fun j k o o' m y1 y2 y3 y4 y5 y6=>?_⟩,⟨by simp,fun m y _=>kp m y,fun _ z=>z,fun _ z=>.inl z,fun m z=>z.imp id (fun z=>by omega)⟩,fun j=>?_,fun j hj=>?_⟩
 ·rcases z with z | z
  ·exact (f.wS m y).2.1 z
  ·have:=(f.wS m y).1;omega
 ·rcases y with y | y
  ·have:=f.wM m y;simp;omega
  ·subst y;simp
 ·by_cases hj:i=j
  ·subst hj
   have hl:i<fr.length:=by have:=(List.getElem?_eq_some_iff.mp y1).1;simpa using this
   rw [List.getElem?_set_self hl] at y1
   rw [List.getElem?_set_self (by rw [←f.len];exact hl)] at y2
   cases y1;cases y2
   exact ⟨h.length,ds,rfl,⟨.inr rfl,fun z=>by have:=f.wB _ z;omega⟩,by simp,q.mono kS fun _ z=>z⟩
  ·rw [List.getElem?_set_ne hj] at y1 y2
   have old:=f.sl j o p y1 y2
   rcases o with _ | s
   ·exact old
   ·cases s with
    | val v=>obtain ⟨d,e,q⟩:=old;exact ⟨d,e,q.mono kS fun _ z=>z⟩
    | own l=>obtain ⟨m,es,rfl,z,y,q⟩:=old;exact ⟨m,es,rfl,⟨.inl z.1,z.2⟩,by rw [kp m (f.wM m z.1)];exact y,q.mono kS fun _ z=>z⟩
    | bor l=>obtain ⟨m,es,rfl,z,y,q⟩:=old;exact ⟨m,es,rfl,⟨.inl z.1,z.2⟩,by rw [kp m (f.wM m z.1)];exact y,q.mono kS fun _ z=>z⟩
    | ro l=>
     obtain ⟨m,es,rfl,z,y,q⟩:=old
     have hm:=(List.getElem?_eq_some_iff.mp y).1
     exact ⟨m,es,rfl,fun w=>by rcases w with w | w;exact z w;omega,by rw [kp m hm];exact y,q.mono kS fun _ z=>z⟩
 ·have low:∀ (j:Nat) o,i≠j→fr[j]?=some o→gM o=true→ak[j]?=some (some (.ref m))→m<h.length:=fun j o _ w1 w2 w3=>f.wM m (f.mM w1 w2 w3)
  have new:∀ (j:Nat),j<fr.length→i=j→(ak.set i (some (.ref h.length)))[j]?=some (some (.ref m))→m=h.length:=fun j hl hj w=>by
   subst hj
   rw [List.getElem?_set_self (by rw [←f.len];exact hl)] at w
   cases w;rfl
  have lj:j<fr.length:=by have:=(List.getElem?_eq_some_iff.mp y1).1;simpa using this
  have lk:k<fr.length:=by have:=(List.getElem?_eq_some_iff.mp y2).1;simpa using this
  by_cases hj:i=j
  ·by_cases hk2:i=k
   ·rw [←hj,←hk2]
   ·have a:=new j lj hj y5
    rw [List.getElem?_set_ne hk2] at y2 y6
    have b:=low k o' hk2 y2 y4 y6
    omega
  ·by_cases hk2:i=k
   ·have a:=new k lk hk2 y6
    rw [List.getElem?_set_ne hj] at y1 y5
    have b:=low j o hj y1 y3 y5
    omega
   ·rw [List.getElem?_set_ne hj] at y1 y5
    rw [List.getElem?_set_ne hk2] at y2 y6
    exact f.inj j k o o' m y1 y2 y3 y4 y5 y6
 ·by_cases hj:i=j
  ·subst hj
   rw [hk]
   unfold locked
   by_cases hl:i<fr.length
   ·rw [List.getElem?_set_self hl];rfl
   ·rw [List.getElem?_eq_none (by simpa using hl)]
  ·unfold locked;rw [List.getElem?_set_ne hj]
 ·have:i≠j:=fun z=>by subst z;rw [hk] at hj;cases hj
  rw [List.getElem?_set_ne this]
end
inductive RN (P':Ev.aU) (w:Nat) (s:S) (g:Fl) (M B:Nat→Prop) (h:Hh) (S:Nat→Prop) (fr:Fr) (ak:Ev.Fr) (ah:Fr):Prop
 | mk (g':Ev.Fl) (bL:Ev.Fr) (M':Nat→Prop) (h':Hh) (S':Nat→Prop) (c0:Ev.ex P' w s ak h=.ok (g',bL) h') (c1:gP h' S' g g') (c2:dY M B h S fr ak M' h' S' ah bL):RN P' w s g M B h S fr ak ah
inductive LQ (P':Ev.aU) (w:Nat) (s:Ss) (g:Fl) (M B:Nat→Prop) (h:Hh) (S:Nat→Prop) (fr:Fr) (ak:Ev.Fr) (ah:Fr):Prop
 | mk (g':Ev.Fl) (bL:Ev.Fr) (M':Nat→Prop) (h':Hh) (S':Nat→Prop) (c0:Ev.exs P' w s ak h=.ok (g',bL) h') (c1:gP h' S' g g') (c2:dY M B h S fr ak M' h' S' ah bL):LQ P' w s g M B h S fr ak ah
section
variable (P:aU)(P':Ev.aU)(w:Nat)
noncomputable def nV (s:S):Prop:=∀ {fr:Fr} {g:Fl} {ah:Fr} {M B:Nat→Prop} {h:Hh} {S:Nat→Prop} {ak:Ev.Fr},ex P w s fr=.ok g ah→bC M B h S fr ak→RN P' w s g M B h S fr ak ah
noncomputable def o5 (s:Ss):Prop:=∀ {fr:Fr} {g:Fl} {ah:Fr} {M B:Nat→Prop} {h:Hh} {S:Nat→Prop} {ak:Ev.Fr},exs P w s fr=.ok g ah→bC M B h S fr ak→LQ P' w s g M B h S fr ak ah
end
section
variable {P:aU}{P':Ev.aU}{w:Nat}(HP:oU P P')
include HP
theorem HS {i:Nat}{e:E}:nV P P' w (.set i e):=fun {fr g ah M B h S ak} z f=>by
 simp only [ex] at z
 replace z:=ai z;obtain ⟨x,ay,z1,z⟩:=z
 by_cases hn:isNew e=true
 ·rw [if_pos hn] at z
  have key:∃ l ds h1 S1,x=.lst l∧az h1 S1 l ds∧Ev.ev P' e ak h=.ok (.ref h1.length) (h1++[.lst ds])∧Out M B (bW e) h S fr ak h1 S1 ay:=by
   cases e <;> simp only [isNew,Bool.false_eq_true] at hn
   case lst es=>
    simp only [ev] at z1
    replace z1:=ai z1;obtain ⟨l,cX,z2,z1⟩:=z1
    replace z1:=aO z1;obtain ⟨z1,y0⟩:=z1;subst y0
    unfold dX at z1
    split at z1
    case isFalse=>cases z1
    rename_i hk
    cases z1
    obtain ⟨ds,h1,S1,e1,q1,o1⟩:=fU HP es z2 f
    refine ⟨l,ds,h1,S1,rfl,q1.n,?_,o1⟩
    simp only [Ev.ev,e1,Ev.ao,Ev.alloc]
    rw [if_pos (by rw [←q1.n.length];exact hk)]
   case gn it=>
    simp only [ev] at z1
    replace z1:=ai z1;obtain ⟨l,cX,z2,z1⟩:=z1
    replace z1:=aO z1;obtain ⟨z1,y0⟩:=z1;subst y0
    unfold dX at z1
    split at z1
    case isFalse=>cases z1
    rename_i hk
    cases z1
    obtain ⟨s,h1,S1,e1,q1,q2,o1⟩:=j4 HP it z2 f
    refine ⟨l,s.1,h1,S1,rfl,q1,?_,o1⟩
    simp only [Ev.ev,e1,Ev.ao,Ev.alloc]
    rw [if_pos (by rw [←q1.length];exact hk)]
  obtain ⟨l,ds,h1,S1,rfl,q1,e1,o1⟩:=key
  simp only at z
  replace z:=ai z;obtain ⟨cX,ja,z2,z⟩:=z
  replace z2:=aO z2;obtain ⟨z2,y0⟩:=z2;subst y0
  cases z
  have o2:=o1.f.own z2 q1
  exact ⟨.nx,_,_,_,_,by simp only [Ev.ex,e1,Ev.ao],rfl,o1.s.trans f o2⟩
 ·rw [if_neg hn] at z
  replace z:=ai z;obtain ⟨cX,ja,z2,z⟩:=z
  replace z2:=aO z2;obtain ⟨z2,y0⟩:=z2;subst y0
  cases z
  obtain ⟨d,h1,S1,e1,q1,o1⟩:=bq HP e z1 f
  obtain ⟨f2,l2,r2⟩:=o1.f.set z2 q1.n
  refine ⟨.nx,_,_,_,_,by simp only [Ev.ex,e1,Ev.ao],rfl,o1.s.trans f ⟨f2,(dY.refl f2).tr,l2,r2⟩⟩
theorem HU {l:List Nat}{e:E}:nV P P' w (.xw l e):=fun {fr g ah M B h S ak} z f=>by
 simp only [ex] at z
 replace z:=ai z;obtain ⟨x,ay,z1,z⟩:=z
 replace z:=ai z;obtain ⟨cX,ja,z2,z⟩:=z
 replace z2:=aO z2;obtain ⟨z2,y0⟩:=z2;subst y0
 cases z
 obtain ⟨d,h1,S1,e1,q1,o1⟩:=bq HP e z1 f
 obtain ⟨iY,b1,f2,l2,r2⟩:=o1.f.cj z2 q1.n
 exact ⟨.nx,_,_,_,_,by simp only [Ev.ex,e1,Ev.ao,b1],rfl,o1.s.trans f ⟨f2,(dY.refl f2).tr,l2,r2⟩⟩
theorem LR {e:E}:nV P P' w (.exp e):=fun {fr g ah M B h S ak} z f=>by
 simp only [ex] at z
 replace z:=ai z;obtain ⟨x,ay,z1,z⟩:=z
 cases z
 obtain ⟨d,h1,S1,e1,q1,o1⟩:=bq HP e z1 f
 exact ⟨.nx,_,_,_,_,by simp only [Ev.ex,e1,Ev.ao],rfl,o1.s⟩
theorem LS {e:E}:nV P P' w (.ret e):=fun {fr g ah M B h S ak} z f=>by
 simp only [ex] at z
 replace z:=ai z;obtain ⟨x,ay,z1,z⟩:=z
 cases z
 obtain ⟨M1,S1,o1⟩:=f.gk
 obtain ⟨d,h2,S2,e1,q1,o2⟩:=bq HP e z1 o1.f
 exact ⟨.ret d,_,_,_,_,by simp only [Ev.ex,e1,Ev.ao],⟨d,rfl,q1.n⟩,o1.trans f o2.s⟩
omit HP in
theorem qz {F:V→Fr→R Fl}{F':D→Ev.Fr→Hh→Ev.R (Ev.Fl×Ev.Fr)}{ck:List (Nat×List D)}{B:Nat→Prop}{M0:Nat→Prop}{h0:Hh}{S0:Nat→Prop}{fz:Fr}{CC:Ev.Fr}(f0:bC M0 B h0 S0 fz CC) (st:∀ q∈ck,bu h0 q.1=some q.2∧¬ M0 q.1)
  (turn:∀ v d fr g ah M h S ak,F v fr=.ok g ah→bC M B h S fr ak→Rep h S v d→∃ g' bL M' h' S',F' d ak h=.ok (g',bL) h'∧gP h' S' g g'∧dY M B h S fr ak M' h' S' ah bL) :
  ∀ {vs:List V} {ds:List D} {fr:Fr} {g:Fl} {ah:Fr} {M:Nat→Prop} {h:Hh} {S:Nat→Prop} {ak:Ev.Fr},forL F vs fr=.ok g ah→dY M0 B h0 S0 fz CC M h S fr ak→az h S vs ds→
  ∃ g' bL M' h' S',Ev.forL F' ck ds ak h=.ok (g',bL) h'∧gP h' S' g g'∧dY M0 B h0 S0 fz CC M' h' S' ah bL
 | [],ds,fr,g,ah,M,h,S,ak,e,o,q=>by
  simp only [forL] at e;simp only [az] at q;subst q
  cases e
  refine ⟨.nx,ak,M,h,S,?_,rfl,o⟩
  simp only [Ev.forL]
  rw [if_pos (jx fun x hx=>kE (st x hx).1 (o.tr.keep _ (oX (st x hx).1) (st x hx).2))]
 | v :: vs,ds,fr,g,ah,M,h,S,ak,e,o,q=>by
  simp only [forL] at e
  replace e:=ai e;obtain ⟨p,ay,e1,e⟩:=e
  simp only [az] at q
  obtain ⟨d,es,rfl,q1,q2⟩:=q
  obtain ⟨g',kG,M2,h2,S2,t1,t2,t3⟩:=turn v d fr p ay M h S ak e1 o.f q1
  have o2:=o.trans f0 t3
  have E6:Ev.stays h ck=true:=jx fun x hx=>kE (st x hx).1 (o.tr.keep _ (oX (st x hx).1) (st x hx).2)
  have RP:az h2 S2 vs es:=q2.mono (fun m z=>t3.tr.keep m (o.f.wS m z).1 (o.f.wS m z).2.1) t3.tr.sub
  cases p with
  | nx=>
   simp only [gP] at t2;subst t2
   simp only at e
   obtain ⟨o6,iY,M3,h3,S3,u1,u2,u3⟩:=qz f0 st turn e o2 RP
   refine ⟨o6,iY,M3,h3,S3,?_,u2,u3⟩
   simp only [Ev.forL]
   rw [if_pos E6,t1,Ev.ao]
   exact u1
  | ct=>
   simp only [gP] at t2;subst t2
   simp only at e
   obtain ⟨o6,iY,M3,h3,S3,u1,u2,u3⟩:=qz f0 st turn e o2 RP
   refine ⟨o6,iY,M3,h3,S3,?_,u2,u3⟩
   simp only [Ev.forL]
   rw [if_pos E6,t1,Ev.ao]
   exact u1
  | bk=>
   simp only [gP] at t2;subst t2
   simp only at e
   cases e
   refine ⟨.nx,kG,M2,h2,S2,?_,rfl,o2⟩
   simp only [Ev.forL]
   rw [if_pos E6,t1,Ev.ao]
  | ret x=>
   simp only [gP] at t2
   obtain ⟨d2,rfl,t2⟩:=t2
   simp only at e
   cases e
   refine ⟨.ret d2,kG,M2,h2,S2,?_,⟨d2,rfl,t2⟩,o2⟩
   simp only [Ev.forL]
   rw [if_pos E6,t1,Ev.ao]
theorem LU {t:T}{it:It}{b:Ss}(ib:o5 P P' w b):nV P P' w (.for t it b):=fun {fr g ah M B h S ak} z f=>by
 simp only [ex] at z
 replace z:=ai z;obtain ⟨vs,ay,z1,z⟩:=z
 obtain ⟨M1,S1,o1⟩:=f.walk (itv it)
 obtain ⟨s,h2,S2,e1,q1,q2,o2⟩:=j4 HP it z1 o1.f
 have o3:=o1.trans f o2.s
 obtain ⟨g',bL,M',h',S',u1,u2,u3⟩:=qz (F':=fun d ay h2=>match Ev.cj t d ay with
   | some cX=>Ev.exs P' w b cX h2
   | none=>.bad) (ck:=s.2) o2.f (fun q hq=>⟨(q2 q hq).1,(q2 q hq).2 rfl⟩) (fun v d fr g ah M h S ak y f q=>by
  split at y
  ·rename_i cX y1
   obtain ⟨iY,b1,b2,b3,b4⟩:=f.cj y1 q
   rw [b1]
   obtain ⟨g',bL,M',h',S',c1,c2,c3⟩:=ib y b2
   exact ⟨g',bL,M',h',S',c1,c2,(⟨b2,(dY.refl b2).tr,b3,b4⟩:dY M _ h S fr ak M h S cX iY).trans f c3⟩
  ·cases y) z (dY.refl o2.f) q1
 refine ⟨g',bL,M',h',S',?_,u2,o3.trans f u3⟩
 simp only [Ev.ex,e1,Ev.ao]
 exact u1
theorem ud {t:E}{b:Ss}(ib:o5 P P' w b):∀ (n:Nat) {fr:Fr}{g:Fl}{ah:Fr}{M B:Nat→Prop}{h:Hh}{S:Nat→Prop}{ak:Ev.Fr},dU (fun ay=>aL P t ay) (fun ay=>exs P w b ay) n fr=.ok g ah→bC M B h S fr ak→
  ∃ g' bL M' h' S',Ev.dU (fun ay h2=>Ev.aL P' t ay h2) (fun ay h2=>Ev.exs P' w b ay h2) n ak h=.ok (g',bL) h'∧gP h' S' g g'∧dY M B h S fr ak M' h' S' ah bL
 | 0,_,_,_,_,_,_,_,_,z,_=>by simp only [dU] at z;cases z
 | n+1,fr,g,ah,M,B,h,S,ak,z,f=>by
  simp only [dU] at z
  replace z:=ai z;obtain ⟨k,ay,z1,z⟩:=z
  obtain ⟨h1,S1,e1,o1⟩:=gr HP t z1 f
  cases k with
  | false=>
   simp only [Bool.false_eq_true,if_false] at z
   cases z
   refine ⟨.nx,ak,M,h1,S1,?_,rfl,o1.s⟩
   simp only [Ev.dU,e1,Ev.ao]
   rw [if_neg (by decide)]
  | true=>
   simp only [if_true] at z
   replace z:=ai z;obtain ⟨p,cX,z2,z⟩:=z
   obtain ⟨g',iY,M2,h2,S2,t1,t2,t3⟩:=ib z2 o1.f
   have o2:=o1.s.trans f t3
   cases p with
   | nx=>
    simp only [gP] at t2;subst t2
    simp only at z
    obtain ⟨o6,CD,M3,h3,S3,u1,u2,u3⟩:=ud ib n z t3.f
    refine ⟨o6,CD,M3,h3,S3,?_,u2,o2.trans f u3⟩
    simp only [Ev.dU,e1,Ev.ao,if_true,t1]
    exact u1
   | ct=>
    simp only [gP] at t2;subst t2
    simp only at z
    obtain ⟨o6,CD,M3,h3,S3,u1,u2,u3⟩:=ud ib n z t3.f
    refine ⟨o6,CD,M3,h3,S3,?_,u2,o2.trans f u3⟩
    simp only [Ev.dU,e1,Ev.ao,if_true,t1]
    exact u1
   | bk=>
    simp only [gP] at t2;subst t2
    simp only at z
    cases z
    refine ⟨.nx,iY,M2,h2,S2,?_,rfl,o2⟩
    simp only [Ev.dU,e1,Ev.ao,if_true,t1]
   | ret x=>
    simp only [gP] at t2
    obtain ⟨d2,rfl,t2⟩:=t2
    simp only at z
    cases z
    refine ⟨.ret d2,iY,M2,h2,S2,?_,⟨d2,rfl,t2⟩,o2⟩
    simp only [Ev.dU,e1,Ev.ao,if_true,t1]
theorem LV {t:E}{a b:Ss}(ia:o5 P P' w a) (ib:o5 P P' w b):nV P P' w (.iff t a b):=fun {fr g ah M B h S ak} z f=>by
 simp only [ex] at z
 replace z:=ai z;obtain ⟨k,ay,z1,z⟩:=z
 obtain ⟨h1,S1,e1,o1⟩:=gr HP t z1 f
 cases k with
 | true=>
  simp only [if_true] at z
  obtain ⟨g',bL,M',h',S',c1,c2,c3⟩:=ia z o1.f
  exact ⟨g',bL,M',h',S',by simp only [Ev.ex,e1,Ev.ao,if_true,c1],c2,o1.s.trans f c3⟩
 | false=>
  simp only [Bool.false_eq_true,if_false] at z
  obtain ⟨g',bL,M',h',S',c1,c2,c3⟩:=ib z o1.f
  exact ⟨g',bL,M',h',S',by simp only [Ev.ex,e1,Ev.ao];rw [if_neg (by decide)];exact c1,c2,o1.s.trans f c3⟩
mutual
theorem Qd:∀ s:S,nV P P' w s
 | .set _ _=>HS HP
 | .xw _ _=>HU HP
 | .exp _=>LR HP
 | .ret _=>LS HP
 | .iff _ a b=>LV HP (j5 a) (j5 b)
 | .for _ _ b=>LU HP (j5 b)
 | .lP _ b=>fun z f=>by
  simp only [ex] at z
  obtain ⟨g',bL,M',h',S',c1,c2,c3⟩:=ud HP (j5 b) w z f
  exact ⟨g',bL,M',h',S',by simp only [Ev.ex];exact c1,c2,c3⟩
 | .fJ=>fun z _=>by simp only [ex] at z;cases z
theorem j5:∀ s:Ss,o5 P P' w s
 | .nil=>fun z f=>by simp only [exs] at z;cases z;exact ⟨.nx,_,_,_,_,by simp only [Ev.exs],rfl,.refl f⟩
 | .cons s ss=>fun z f=>by
  simp only [exs] at z
  replace z:=ai z;obtain ⟨p,ay,z1,z⟩:=z
  obtain ⟨g',kG,M2,h2,S2,t1,t2,t3⟩:=Qd s z1 f
  cases p with
  | nx=>
   simp only [gP] at t2;subst t2
   simp only at z
   obtain ⟨o6,iY,M3,h3,S3,u1,u2,u3⟩:=j5 ss z t3.f
   exact ⟨o6,iY,M3,h3,S3,by simp only [Ev.exs,t1,Ev.ao,u1],u2,t3.trans f u3⟩
  | ct=>
   simp only [gP] at t2;subst t2
   simp only at z
   cases z
   exact ⟨.ct,kG,M2,h2,S2,by simp only [Ev.exs,t1,Ev.ao],rfl,t3⟩
  | bk=>
   simp only [gP] at t2;subst t2
   simp only at z
   cases z
   exact ⟨.bk,kG,M2,h2,S2,by simp only [Ev.exs,t1,Ev.ao],rfl,t3⟩
  | ret x=>
   simp only [gP] at t2
   obtain ⟨d2,rfl,t2⟩:=t2
   simp only at z
   cases z
   exact ⟨.ret d2,kG,M2,h2,S2,by simp only [Ev.exs,t1,Ev.ao],⟨d2,rfl,t2⟩,t3⟩
end
end
theorem qA {h:Hh}{S:Nat→Prop}{B:Nat→Prop}{h0:Hh}{S0:Nat→Prop}:∀ {sl:List Sl}{ds:List D}{cs:Fr},sl.length=ds.length→
  (∀ (a:Nat) s d,sl[a]?=some s→ds[a]?=some d→jX B B h0 S0 (some s) (some d)∧locked cs a=v9 (some s)∧(v9 (some s)=true→∃ m es l s',d=.ref m∧h[m]?=some (.lst es)∧az h S l es∧cs[a]?=some (some s')∧s'.out=some l))→mh h S sl ds ((cs.take sl.length).filterMap fun o=>o.bind Sl.out)
 | [],ds,cs,_,_=>by simp [mh]
 | s :: sl,[],cs,hl,_=>by simp at hl
 | s :: sl,d :: ds,[],hl,q=>by
  have ih:=qA (h:=h) (S:=S) (sl:=sl) (ds:=ds) (cs:=[]) (by simpa using hl) fun a s' d' e1 e2=>by
   obtain ⟨w1,w2,w3⟩:=q (a+1) s' d' (by simpa using e1) (by simpa using e2)
   exact ⟨w1,by simpa [locked] using w2,fun z=>by obtain ⟨_,_,_,_,_,_,_,y,_⟩:=w3 z;simp at y⟩
  obtain ⟨w1,w2,w3⟩:=q 0 s d (by simp) (by simp)
  cases s with
  | val v=>simp at ih ⊢;exact ⟨d,ds,rfl,ih⟩
  | own l=>exact absurd w1 (by rintro ⟨m,es,e,q,_⟩;exact q.2 q.1)
  | bor l=>obtain ⟨_,_,_,_,_,_,_,y,_⟩:=w3 rfl;simp at y
  | ro l=>obtain ⟨_,_,_,_,_,_,_,y,_⟩:=w3 rfl;simp at y
 | s :: sl,d :: ds,o :: cs,hl,q=>by
  have ih:=qA (h:=h) (S:=S) (sl:=sl) (ds:=ds) (cs:=cs) (by simpa using hl) fun a s' d' e1 e2=>by
   obtain ⟨w1,w2,w3⟩:=q (a+1) s' d' (by simpa using e1) (by simpa using e2)
   exact ⟨w1,by simpa [locked] using w2,fun z=>by simpa using w3 z⟩
  obtain ⟨w1,w2,w3⟩:=q 0 s d (by simp) (by simp)
  cases s with
  | val v=>
   have:o.bind Sl.out=none:=by
    simp [locked] at w2
    rcases o with _ | s
    ·rfl
    ·cases s <;> first | rfl | cases w2
   simp only [List.length_cons,List.take_succ_cons,List.filterMap_cons,this]
   exact ⟨d,ds,rfl,ih⟩
  | own l=>exact absurd w1 (by rintro ⟨m,es,e,q,_⟩;exact q.2 q.1)
  | bor l=>
   obtain ⟨m,es,l',s',a1,a2,a3,a4,a5⟩:=w3 rfl
   simp at a4;subst a4
   simp only [List.length_cons,List.take_succ_cons,List.filterMap_cons,Option.bind,a5]
   exact ⟨d,ds,l',_,m,es,rfl,rfl,a1,a2,a3,ih⟩
  | ro l=>
   obtain ⟨m,es,l',s',a1,a2,a3,a4,a5⟩:=w3 rfl
   simp at a4;subst a4
   simp only [List.length_cons,List.take_succ_cons,List.filterMap_cons,Option.bind,a5]
   exact ⟨d,ds,l',_,m,es,rfl,rfl,a1,a2,a3,ih⟩
theorem Aq (F:List Fn) (w:Nat):∀ n,oU (run F w n) (Ev.run F w n)
 | 0=>fun f sl v os e=>by simp [run] at e
 | n+1=>fun f sl v os e h S B ds F0=>by
  have HP:=Aq F w n
  simp only [run] at e
  cases z:F[f]? with
  | none=>rw [z] at e;cases e
  | some fn=>
  rw [z] at e
  simp only at e
  split at e
  case isFalse=>cases e
  rename_i hl
  have hlen:sl.length=ds.length:=by have:=F0.len;simpa using this
  have f1:bC B B h S (fz fn sl) (Ev.fz fn ds):=by
   unfold fz Ev.fz
   have sp:∀ (i:Nat) o,(sl.map some++List.replicate (fn.ns - fn.np) none)[i]?=some o→(sl.map some)[i]?=some o∨(sl.length≤i∧o=none):=fun i o y=>by
    by_cases hi:i<sl.length
    ·rw [List.getElem?_append_left (by simpa using hi)] at y;exact .inl y
    ·rw [List.getElem?_append_right (by simpa using hi)] at y
     have:=List.mem_of_getElem? y
     exact .inr ⟨by omega,(List.mem_replicate.mp this).2⟩
   have lo:∀ (i:Nat) p,i<sl.length→(ds.map some++List.replicate (fn.ns - fn.np) none)[i]?=some p→(ds.map some)[i]?=some p:=fun i p hi y=>by
    rw [List.getElem?_append_left (by simpa [←hlen] using hi)] at y;exact y
   refine ⟨F0.wS,F0.wM,F0.wB,by simp [hlen],fun i o p y1 y2=>?_,fun i j o o' m y1 y2 y3 y4 y5 y6=>?_⟩
   ·rcases sp i o y1 with y1 | ⟨hi,rfl⟩
    ·have hi:i<sl.length:=by have:=(List.getElem?_eq_some_iff.mp y1).1;simpa using this
     exact F0.sl i o p y1 (lo i p hi y2)
    ·rw [List.getElem?_append_right (by simpa [←hlen] using hi)] at y2
     have:=List.mem_of_getElem? y2
     exact (List.mem_replicate.mp this).2
   ·rcases sp i o y1 with y1 | ⟨hi,rfl⟩
    ·rcases sp j o' y2 with y2 | ⟨hj,rfl⟩
     ·have hi:i<sl.length:=by have:=(List.getElem?_eq_some_iff.mp y1).1;simpa using this
      have hj:j<sl.length:=by have:=(List.getElem?_eq_some_iff.mp y2).1;simpa using this
      exact F0.inj i j o o' m y1 y2 y3 y4 (lo i _ hi y5) (lo j _ hj y6)
     ·cases y4
    ·cases y3
  have fin:∀ {g:Fl} {ah:Fr},exs (run F w n) w fn.body (fz fn sl)=.ok g ah→∃ g' bL M' h' S',Ev.exs (Ev.run F w n) w fn.body (Ev.fz fn ds) h=.ok (g',bL) h'∧gP h' S' g g'∧Tk B h S h' S'∧mh h' S' sl ds (outs fn.np ah):=fun {g ah} y=>by
   obtain ⟨g',bL,M',h',S',c1,c2,c3⟩:=j5 HP fn.body y f1
   refine ⟨g',bL,M',h',S',c1,c2,⟨c3.tr.len,fun m y1 y2=>c3.tr.keep m y1 y2,c3.tr.sub,fun m q=>?_⟩,?_⟩
   ·rcases c3.tr.new m q with q | q | q
    ·exact .inl q
    ·exact .inr q
    ·exact absurd q.1 q.2
   ·unfold outs
    rw [←hl]
    refine qA (B:=B) (h0:=h) (S0:=S) hlen fun a s d e1 e2=>?_
    have ha:a<sl.length:=(List.getElem?_eq_some_iff.mp e1).1
    have h0:(fz fn sl)[a]?=some (some s):=by unfold fz;rw [List.getElem?_append_left (by simpa using ha)];simp [e1]
    have hlk:locked ah a=v9 (some s):=by rw [c3.lk a];unfold locked;rw [h0]
    refine ⟨F0.sl a _ _ (by simp [e1]) (by simp [e2]),hlk,fun hk=>?_⟩
    have hr:=c3.rf a (by unfold locked;rw [h0];exact hk)
    have hd:(Ev.fz fn ds)[a]?=some (some d):=by unfold Ev.fz;rw [List.getElem?_append_left (by simpa [←hlen] using ha)];simp [e2]
    rw [hd] at hr
    cases y2:ah[a]? with
    | none=>unfold locked at hlk;rw [y2] at hlk;rw [←hlk] at hk;cases hk
    | some o=>
     have sr:=c3.f.sl a _ _ y2 hr
     unfold locked at hlk
     rw [y2,hk] at hlk
     rcases o with _ | s'
     ·cases hlk
     ·cases s' with
      | val v=>cases hlk
      | own l=>cases hlk
      | bor l=>obtain ⟨m,es,e,_,k1,k2⟩:=sr;cases e;exact ⟨m,es,l,_,rfl,k1,k2,rfl,rfl⟩
      | ro l=>obtain ⟨m,es,e,_,k1,k2⟩:=sr;cases e;exact ⟨m,es,l,_,rfl,k1,k2,rfl,rfl⟩
  simp only [Ev.run,z]
  have hl':ds.length=fn.np:=by omega
  rw [if_pos hl']
  split at e
  ·rename_i v' ah y
   cases e
   obtain ⟨g',bL,M',h',S',c1,c2,c3,c4⟩:=fin y
   simp only [gP] at c2
   obtain ⟨d,rfl,c2⟩:=c2
   exact ⟨d,h',S',by simp only [Ev.endOf,c1,Ev.ao],c2,c3,c4⟩
  ·rename_i ah y
   cases e
   obtain ⟨g',bL,M',h',S',c1,c2,c3,c4⟩:=fin y
   simp only [gP] at c2
   subst c2
   exact ⟨.bH,h',S',by simp only [Ev.endOf,c1,Ev.ao],rfl,c3,c4⟩
  ·cases e
end Pv
namespace Pv
open Ev (D O Hh Fn)
theorem HV {F:List Fn}{w n f:Nat}{ns:List Int}(e:run F w n f [.val (.bS (ns.map V.int))]=some (.bl true,[])):∃ h',Ev.run F w n f [.ref 0] [.bS (ns.map D.int)]=.ok (.bl true) h':=by
 have F0:bC (fun _=>False) (fun _=>False) [O.bS (ns.map D.int)] (fun m=>m=0) ([Sl.val (.bS (ns.map V.int))].map some) ([D.ref 0].map some):=by
  refine ⟨fun m q=>⟨by subst q;simp,id,id⟩,fun m q=>q.elim,fun m q=>q.elim,rfl,fun i o p y1 y2=>?_,fun i j o o' m y1 y2 y3 y4 y5 y6=>?_⟩
  ·cases i with
   | zero=>
    simp at y1 y2;subst y1 y2
    refine ⟨.ref 0,rfl,?_⟩
    simp only [Rep]
    exact ⟨0,_,rfl,rfl,rfl,az.map (f:=V.int) (g:=D.int) (fun _=>by simp [Rep]) ns⟩
   | succ i=>simp at y1
  ·cases i with
   | zero=>simp at y1;subst y1;cases y3
   | succ i=>simp at y1
 obtain ⟨d,h',S',a,b,_,_⟩:=Aq F w n f _ _ _ e _ _ _ _ F0
 simp only [Rep] at b
 subst b
 exact ⟨h',a⟩
end Pv
namespace Pv
open Ev (D bV bQ TY BI ME T E Es Eo It S Ss Fn big deep b2i rep cB er bN aS cut cT ef slots)
theorem bZ {n:Nat}(h:n≤100000):n≤big:=Nat.le_trans h (by decide)
section
variable {i j:Int}{a b:List Nat}{x y:List V}{d e:V}{m n:Nat}{k l:Bool}
theorem eW (h:x.length≤big):dX x=some (.lst x):=by simp [dX,h]
theorem iS (h:x.length≤big):g8 x=some (.tup x):=by simp [g8,h]
@[simp] theorem E7:dX []=some (.lst []):=eW (bZ (by simp))
@[simp] theorem Qe:g8 []=some (.tup []):=iS (bZ (by simp))
@[simp] theorem Qf {a}:dX [a]=some (.lst [a]):=eW (bZ (by simp))
@[simp] theorem sF {a}:g8 [a]=some (.tup [a]):=iS (bZ (by simp))
@[simp] theorem Qg {a b}:dX [a,b]=some (.lst [a,b]):=eW (bZ (by simp))
@[simp] theorem yd {a b}:g8 [a,b]=some (.tup [a,b]):=iS (bZ (by simp))
@[simp] theorem E8 {a b c}:g8 [a,b,c]=some (.tup [a,b,c]):=iS (bZ (by simp))
@[simp] theorem dZ:bT .add (.int i) (.int j)=some (.int (i+j)):=nd rfl
theorem ue (h:a.length+b.length≤100000):bT .add (.str a) (.str b)=some (.str (a++b)):=by delta bT;dsimp only;simp [bZ h]
theorem CF (h:x.length+y.length≤100000):bT .add (.tup x) (.tup y)=some (.tup (x++y)):=by delta bT;dsimp only;simp [bZ h]
@[simp] theorem jy:bT .sub (.int i) (.int j)=some (.int (i - j)):=nd rfl
@[simp] theorem nW:bT .mul (.int i) (.int j)=if cB i j then some (.int (i*j)) else none:=nd rfl
theorem CG (h0:0≤j) (h1:j≤1000) (h2:a.length≤1000):bT .mul (.str a) (.int j)=some (.str (rep j.toNat a)):=by delta bT;dsimp only;simp [h0,h1,h2]
@[simp] theorem CH:bT .fdiv (.int i) (.int j)=if 0<j∧j<1073741824 then some (.int (i / j)) else none:=nd rfl
@[simp] theorem HW:bT .mod (.int i) (.int j)=if 0<j then some (.int (i % j)) else none:=nd rfl
@[simp] theorem LW:cop .eq d e=ez deep d e:=nd rfl
@[simp] theorem o7:cop .ne d e=(ez deep d e).map (!·):=nd rfl
@[simp] theorem LX:ez (n+1) (.int i) (.int j)=some (decide (i=j)):=by show some (i==j)=_;by_cases h:i=j <;> simp [h]
@[simp] theorem LY:ez (n+1) (.str a) (.str b)=some (decide (a=b)):=by show some (a==b)=_;by_cases h:a=b <;> simp [h]
@[simp] theorem Xo:ez (n+1) (.str a) (.int i)=some false:=nd rfl
@[simp] theorem Xp:ez (n+1) (.int i) (.str a)=some false:=nd rfl
@[simp] theorem Xq:ez (n+1) (.tup x) (.tup y)=cD (ez n) x y:=nd rfl
@[simp] theorem wk:ez deep (.int i) (.int j)=some (decide (i=j)):=LX
@[simp] theorem wm:ez deep (.str a) (.str b)=some (decide (a=b)):=LY
@[simp] theorem HX:ez deep (.tup x) (.tup y)=cD (ez (18+1)) x y:=nd rfl
@[simp] theorem WA {f:V→V→Option Bool}:cD f [] []=some true:=nd rfl
@[simp] theorem Xr {f:V→V→Option Bool}:cD f [] (d :: x)=some false:=nd rfl
@[simp] theorem Xu {f:V→V→Option Bool}:cD f (d :: x) []=some false:=nd rfl
@[simp] theorem U7 {f:V→V→Option Bool}:cD f (d :: x) (e :: y)=(f d e).bind fun b=>(cD f x y).bind fun c=>some (b&&c):=nd rfl
theorem wo {α:Type} [DecidableEq α] {f:V→V→Option Bool}{g:α→V}(h:∀ a b,f (g a) (g b)=some (decide (a=b))):∀ l m:List α,cD f (l.map g) (m.map g)=some (decide (l=m))
 | [],[]=>by simp
 | [],_ :: _=>by simp
 | _ :: _,[]=>by simp
 | a :: l,b :: m=>by simp [h,wo h l m]
@[simp] theorem qB:fK (.str a) (.int i)=(bN a i).map fun c=>.str [c]:=nd rfl
@[simp] theorem HY:fK (.lst x) (.int i)=bN x i:=nd rfl
@[simp] theorem gQ {lo hi:Option Int}:fR (.str a) lo hi=some (.str (cut a lo hi)):=nd rfl
theorem len_str (h:a.length≤100000):dz .len [.str a]=some (.int a.length):=by delta dz;dsimp only;simp [bZ h]
@[simp] theorem wu:dz .len [.bS x]=some (.int x.length):=nd rfl
@[simp] theorem wz:dz .sum [.lst x]=(intsOf x).map fun is=>.int is.sum:=nd rfl
@[simp] theorem Ar:dz .min [.int i,.int j]=some (.int (if j<i then j else i)):=nd rfl
@[simp] theorem wA:toT (.lst x)=g8 x:=nd rfl
theorem LZ (h0:0≤j) (h1:j≤100000):eU [.int j]=some (range 0 j.toNat):=by
 simp only [eU];rw [if_pos ⟨by omega,by omega⟩]
theorem o8 {α:Type}(g:α→Int) (l:List α):intsOf (l.map fun x=>.int (g x))=some (l.map g):=by induction l <;> simp [intsOf, *]
theorem o9 {α:Type}(g:α→List Nat) (l:List α):strsOf (l.map fun x=>.str (g x))=some (l.map g):=by induction l <;> simp [strsOf, *]
theorem rM:∀ l:List (List Nat),cT [] l=l.flatten
 | []=>rfl
 | [s]=>by simp [cT]
 | s :: t :: r=>by simp [cT,rM (t :: r)]
@[simp] theorem Xv:truthy (.bl k)=k:=nd rfl
@[simp] theorem WB:truthy (.lst x) = !x.isEmpty:=nd rfl
theorem E9 {l:List (List Nat)}(h:l.flatten.length≤100000):eN .join (.str []) [.lst (l.map V.str)]=some (.str l.flatten):=by
 have hs:=o9 (fun x=>x) l
 have:(l.map (·.length)).sum≤big:=bZ (by rw [←List.length_flatten];exact h)
 simp only [List.map_id'] at hs
 have hs':strsOf (l.map V.str)=some l:=by simpa using o9 (fun x=>x) l
 delta eN;dsimp only;simp [oS,hs',rM,this]
end
theorem rN {α:Type}{f:V→Option (Option V)}(e:α→V) (g:α→V) (l:List α) (h:∀ a∈l,f (e a)=some (some (g a))):cL f (l.map e)=some (l.map g):=by
 induction l with
 | nil=>rfl
 | cons a l ih=>simp only [List.map_cons,cL,h a (by simp),ih fun u hu=>h u (by simp [hu]),Option.bind];rfl
theorem uf {α:Type}{f:V→Option (Option V)}(e:α→V) (p:α→Bool) (g:α→V) (l:List α) (h:∀ a∈l,f (e a)=some (if p a then some (g a) else none)):cL f (l.map e)=some ((l.filter p).map g):=by
 induction l with
 | nil=>rfl
 | cons a l ih=>
  simp only [List.map_cons,cL,h a (by simp),ih fun u hu=>h u (by simp [hu]),Option.bind]
  cases z:p a <;> simp [z]
noncomputable def Wp {α:Type}(r:R α) (Q:α→Fr→Prop):Prop:=∃ a h,r=.ok a h∧Q a h
section
variable {α β:Type}{Q Q':α→Fr→Prop}
@[simp] theorem pe (a:α) (h:Fr):Wp (.ok a h) Q=Q a h:=propext ⟨fun ⟨_,_,e,q⟩=>by cases e;exact q,fun q=>⟨_,_,rfl,q⟩⟩
@[simp] theorem Xw:Wp (.bad:R α) Q=False:=propext ⟨fun q=>(by obtain ⟨_,_,e,_⟩:=q;cases e),False.elim⟩
@[simp] theorem wp_bind (r:R β) (f:β→Fr→R α):Wp (r.bind f) Q=Wp r fun a h=>Wp (f a h) Q:=by cases r <;> simp
theorem Wp.mono {r:R α}(h:Wp r Q) (f:∀ a h,Q a h→Q' a h):Wp r Q':=by
 obtain ⟨a,h',e,q⟩:=h
 exact ⟨a,h',e,f a h' q⟩
end
noncomputable def fl (I Q:Fr→Prop) (X:V→Fr→Prop):Fl→Fr→Prop
 | .nx,fr=>I fr
 | .ct,fr=>I fr
 | .bk,fr=>Q fr
 | .ret v,fr=>X v fr
section
variable {I J:Fr→Prop}{X:V→Fr→Prop}{fr:Fr}{v:V}
@[simp] theorem gg:fl I J X .nx fr=I fr:=nd rfl
end
theorem iA {α:Type}{e:α→V}{f:V→Fr→R Fl}{Q:Fl→Fr→Prop}(I:List α→List α→Fr→Prop) (turn:∀ p a l fr,I p (a :: l) fr→Wp (f (e a) fr) (fl (I (p++[a]) l) (Q .nx) fun v=>Q (.ret v))) (fin:∀ p fr,I p [] fr→Q .nx fr):∀ (l p:List α) (fr:Fr),I p l fr→Wp (forL f (l.map e) fr) Q
 | [],p,fr,i=>by simp only [List.map_nil,forL,pe];exact fin p fr i
 | a :: l,p,fr,i=>by
  simp only [List.map_cons,forL,wp_bind]
  refine (turn p a l fr i).mono fun g h2 q=>?_
  cases g with
  | nx=>exact iA I turn fin l _ h2 q
  | ct=>exact iA I turn fin l _ h2 q
  | bk=>exact (pe _ _).mpr q
  | ret x=>exact (pe _ _).mpr q
theorem HZ {f:V→Fr→R Fl}{Q:Fl→Fr→Prop}{lo:Int}{N:Nat}(I:Nat→Fr→Prop) (turn:∀ (k:Nat) fr,k<N→I k fr→Wp (f (.int (lo+(k:Nat))) fr) (fl (I (k+1)) (Q .nx) fun v=>Q (.ret v))) (fin:∀ fr,I N fr→Q .nx fr) {fr:Fr}(i:I 0 fr):Wp (forL f (range lo N) fr) Q:=by
 have h:=iA (e:=fun (k:Nat)=>V.int (lo+k)) (f:=f) (Q:=Q) (fun p l fr=>∃ k,k≤N∧p=List.range k∧p++l=List.range N∧I k fr)
  (fun p a l fr ⟨k,hk,hp,hl,q⟩=>by
   subst hp
   have hlen:=congrArg List.length hl
   simp at hlen
   have ha:a=k:=by
    have:=congrArg (·[k]?) hl
    simp [List.getElem?_append_right] at this
    rw [List.getElem?_range (by omega)] at this
    simpa using this
   subst ha
   refine (turn a fr (by omega) q).mono fun g h2 z=>?_
   cases g with
   | nx=>exact ⟨a+1,by omega,by simp [List.range_succ],by simpa using hl,z⟩
   | ct=>exact ⟨a+1,by omega,by simp [List.range_succ],by simpa using hl,z⟩
   | bk=>exact z
   | ret x=>exact z)
  (fun p fr ⟨k,hk,hp,hl,q⟩=>by
   subst hp
   have hlen:=congrArg List.length hl
   simp at hlen
   subst hlen
   exact fin fr q) (List.range N) [] fr ⟨0,Nat.zero_le _,rfl,by simp,i⟩
 exact h
theorem pq {t:Fr→R Bool}{f:Fr→R Fl}{Q:Fl→Fr→Prop}(I:Nat→Fr→Prop) (turn:∀ k fr,I k fr→Wp (t fr) fun b ah=>if b then Wp (f ah) (fl (fun ay=>∃ j,j<k∧I j ay) (Q .nx) fun v=>Q (.ret v)) else Q .nx ah):∀ (n k:Nat) (fr:Fr),k<n→I k fr→Wp (dU t f n fr) Q
 | 0,k,fr,hk,_=>by omega
 | n+1,k,fr,hk,i=>by
  simp only [dU,wp_bind]
  refine (turn k fr i).mono fun b ah q=>?_
  cases b with
  | false=>simpa using q
  | true=>
   simp only [if_true,wp_bind] at q ⊢
   refine q.mono fun g ay z=>?_
   cases g with
   | nx=>obtain ⟨j,hj,z⟩:=z;exact pq I turn n j ay (by omega) z
   | ct=>obtain ⟨j,hj,z⟩:=z;exact pq I turn n j ay (by omega) z
   | bk=>exact (pe _ _).mpr z
   | ret x=>exact (pe _ _).mpr z
noncomputable def fin (np:Nat):R Fl→Option (V×List (List V))
 | .ok (.ret v) fr=>some (v,outs np fr)
 | .ok .nx fr=>some (.bH,outs np fr)
 | _=>none
@[simp] theorem Ia {np:Nat} {v:V} {fr:Fr}:fin np (.ok (.ret v) fr)=some (v,outs np fr):=nd rfl
theorem run_eq {F:List Fn}{w n f:Nat}{ds:List Sl}{fn:Fn}(hf:F[f]?=some fn) (hl:ds.length=fn.np):run F w (n+1) f ds=fin fn.np (exs (run F w n) w fn.body (fz fn ds)):=by
 simp only [run,hf,hl,if_true]
 cases exs (run F w n) w fn.body (fz fn ds) with
 | bad=>rfl
 | ok g fr=>cases g <;> rfl
theorem cI {F:List Fn}{w n f:Nat}{ds:List Sl}{fn:Fn}{v:V}{os:List (List V)}(hf:F[f]?=some fn) (hl:ds.length=fn.np) (q:Wp (exs (run F w n) w fn.body (fz fn ds)) fun g fr=>g=.ret v∧outs fn.np fr=os):run F w (n+1) f ds=some (v,os):=by
 rw [run_eq hf hl]
 obtain ⟨g,fr,e,rfl,rfl⟩:=q
 rw [e];rfl
section
variable {P:aU}{w:Nat}{fr:Fr}{k:Bool}{a b c:E}{es:Es}{ss sa sb:Ss}{st:S}{lo hi:Eo}{it:It}
@[simp] theorem U8 {d:D}:ev P k (.c d) fr=R.of (ofD d) fr:=by rw [ev]
@[simp] theorem U9 {i:Nat}:ev P k (.v i) fr=R.of (qx k fr i) fr:=by rw [ev]
@[simp] theorem L0:ev P k (.tup es) fr=(b7 P false es fr).bind fun ds ah=>R.of (g8 ds) ah:=by rw [ev]
@[simp] theorem L1:ev P k (.lst es) fr=(b7 P false es fr).bind fun ds ah=>R.of (dX ds) ah:=by rw [ev]
@[simp] theorem L3 {o:bV}:ev P k (.bin o a b) fr=(ev P (kf a (bW b)) a fr).bind fun x ah=>(ev P true b ah).bind fun y ay=>R.of (bT o x y) ay:=by rw [ev]
@[simp] theorem L4 {o:bQ}:ev P k (.cmp o a b) fr=(ev P (kf a (bW b)) a fr).bind fun x ah=>(ev P true b ah).bind fun y ay=>R.of ((cop o x y).map .bl) ay:=by rw [ev]
noncomputable def Xx:V→Fr→R V:=fun x h1=>match x with
 | .bl b=>.ok (.bl (!b)) h1
 | _=>.bad
@[simp] theorem Qh:ev P k (.nt a) fr=(ev P true a fr).bind Xx:=by rw [ev];rfl
noncomputable def Va:V→Fr→R V:=fun x h1=>match x with
 | .int i=>.ok (.int (-i)) h1
 | _=>.bad
@[simp] theorem L5:ev P k (.neg a) fr=(ev P true a fr).bind Va:=by rw [ev];rfl
noncomputable def RQ (r:Fr→R V):V→Fr→R V:=fun x h1=>match x with
 | .bl true=>r h1
 | .bl false=>.ok (.bl false) h1
 | _=>.bad
@[simp] theorem L6 {k:Bool} {r:Fr→R V}:RQ r (.bl k) fr=if k then r fr else .ok (.bl false) fr:=by cases k <;> rfl
@[simp] theorem Qi:ev P k (.an a b) fr=(ev P true a fr).bind (RQ fun h1=>ev P k b h1):=by rw [ev];rfl
@[simp] theorem L7:ev P k (.ly a b c) fr=(aL P a fr).bind fun t ah=>if t then ev P k b ah else ev P k c ah:=by rw [ev]
@[simp] theorem Qj:ev P k (.ix a b) fr=(ev P (kf a (bW b)) a fr).bind fun x ah=>(ev P true b ah).bind fun y ay=>R.of (fK x y) ay:=by rw [ev]
@[simp] theorem Qk:ev P k (.sl a lo hi) fr=(ev P (kf a (jN lo++jN hi)) a fr).bind fun x ah=>(fL P lo ah).bind fun l ay=>(fL P hi ay).bind fun u cX=>R.of (fR x l u) cX:=by rw [ev]
theorem L8:ev P k (.lz a) fr=(ev P true a fr).bind fun x ah=>R.of (qw x) ah:=by rw [ev]
@[simp] theorem Ql:ev P k (.rv a) fr=(ev P true a fr).bind fun x ah=>R.of (lD x) ah:=by rw [ev]
@[simp] theorem Qm {f:Nat}:ev P k (.cl f es) fr=(fM P es fr).bind fun as ah=>cU P f as ah:=by rw [ev]
@[simp] theorem Qn {g:BI}:ev P k (.bi g es) fr=(b7 P true es fr).bind fun ds ah=>R.of (dz g ds) ah:=by rw [ev]
noncomputable def CJ (m:ME) (i:Nat):List V→Fr→R V:=fun ds ah=>match ah[i]? with
 | some (some (.own l))=>match jG m l ds with
  | some (v,l')=>.ok v (ah.set i (some (.own l')))
  | none=>.bad
 | some (some (.bor l))=>match jG m l ds with
  | some (v,l')=>.ok v (ah.set i (some (.bor l')))
  | none=>.bad
 | _=>.bad
theorem Ma {m:ME}{i:Nat}(hm:iK m=true):ev P k (.me m (.v i) es) fr=if (lent fr i).isSome then (b7 P (zY m) es fr).bind (CJ m i) else .bad:=by
 rw [ev,if_pos hm]
 unfold jZ
 cases z:(lent fr i).isSome <;> simp [z] <;> rfl
theorem Mb {m:ME}(hm:iK m=false):ev P k (.me m a es) fr=(ev P (kf a (fS es)) a fr).bind fun x ah=>(b7 P true es ah).bind fun ds ay=>R.of (eN m x ds) ay:=by rw [ev,hm];rfl
noncomputable def kH (P:aU) (elt:E) (t:T) (cond:Eo) (fr:Fr):V→Option (Option V):=fun d=>match cj t d (rL fr) with
 | none=>none
 | some ay=>match gZ P cond ay with
  | .ok c _=>if c then (match ev P false elt ay with | .ok x _=>some (some x) | .bad=>none) else some none
  | .bad=>none
@[simp] theorem qm {elt:E} {t:T} {cond:Eo}:ev P k (.comp elt t it cond) fr=(dc P true it fr).bind fun s ah=>if undef t ah then R.of ((cL (kH P elt t cond ah) s).bind dX) ah else .bad:=by rw [ev];rfl
@[simp] theorem Mc:ev P k (.gn it) fr=(dc P true it fr).bind fun s ah=>R.of (dX s) ah:=by rw [ev]
@[simp] theorem Ib {kvs:List (D×D)}:ev P k (.lO kvs a) fr=(ev P true a fr).bind fun x ah=>R.of (gY x kvs) ah:=by rw [ev]
@[simp] theorem Me:ev P k (.iZ a) fr=(ev P true a fr).bind fun x ah=>R.of (toT x) ah:=by rw [ev]
@[simp] theorem Ic:b7 P k .nil fr=.ok [] fr:=by rw [b7]
@[simp] theorem CK:b7 P k (.cons a es) fr=(ev P (k&&kf a (fS es)) a fr).bind fun d ah=>(b7 P k es ah).bind fun ds ay=>.ok (d :: ds) ay:=by rw [b7]
@[simp] theorem Ie:fM P .nil fr=.ok [] fr:=by rw [fM]
noncomputable def ye (P:aU) (a:E) (es:Es) (fr:Fr):Option Nat→R (List (Nat ⊕ V))
 | some i=>(fM P es fr).bind fun r ah=>.ok (.inl i :: r) ah
 | none=>(ev P false a fr).bind fun d ah=>(fM P es ah).bind fun r ay=>.ok (.inr d :: r) ay
@[simp] theorem yf {i:Nat}:ye P a es fr (some i)=(fM P es fr).bind fun r ah=>.ok (.inl i :: r) ah:=nd rfl
@[simp] theorem yg:ye P a es fr none=(ev P false a fr).bind fun d ah=>(fM P es ah).bind fun r ay=>.ok (.inr d :: r) ay:=nd rfl
@[simp] theorem ug:fM P (.cons a es) fr=ye P a es fr (jZ fr a):=by rw [fM];cases jZ fr a <;> rfl
@[simp] theorem Mf:fL P .no fr=.ok none fr:=by rw [fL]
@[simp] theorem Ig:fL P (.yes a) fr=(ev P true a fr).bind fun d ah=>R.of ((intOf d).map some) ah:=by rw [fL]
@[simp] theorem Mg:gZ P .no fr=.ok true fr:=by rw [gZ]
@[simp] theorem Ih:gZ P (.yes a) fr=aL P a fr:=by rw [gZ]
@[simp] theorem Au:aL P (.an a b) fr=(aL P a fr).bind fun k ah=>if k then aL P b ah else .ok false ah:=by rw [aL]
@[simp] theorem wC:aL P (.orr a b) fr=(aL P a fr).bind fun k ah=>if k then .ok true ah else aL P b ah:=by rw [aL]
@[simp] theorem Mh:aL P (.nt a) fr=(aL P a fr).bind fun k ah=>.ok (!k) ah:=by rw [aL]
noncomputable def Mi:V→Fr→R Bool:=fun x ah=>.ok (truthy x) ah
@[simp] theorem Ii {x:V}:Mi x fr=.ok (truthy x) fr:=nd rfl
@[simp] theorem Ij:dc P k (.seq a) fr=(src k fr a (ev P k a fr)).bind fun x ah=>R.of (gc x) ah:=by rw [dc]
@[simp] theorem Ik:dc P k (.gm es) fr=(b7 P true es fr).bind fun ds ah=>R.of (eU ds) ah:=by rw [dc]
@[simp] theorem Il:dc P k (.rev a) fr=(ev P true a fr).bind fun x ah=>R.of ((x6 x).map fun s=>s.reverse) ah:=by rw [dc]
noncomputable def Mj (i:Nat) (ah:Fr):V→R Fl
 | .lst l=>(R.of (put ah i (.own l)) ah).bind fun ay _=>.ok .nx ay
 | _=>.bad
@[simp] theorem CL {i:Nat} {l:List V}:Mj i fr (.lst l)=(R.of (put fr i (.own l)) fr).bind fun ay _=>.ok .nx ay:=nd rfl
@[simp] theorem Av {i:Nat}:ex P w (.set i a) fr=(ev P false a fr).bind fun x ah=>if isNew a then Mj i ah x else (R.of (put ah i (.val x)) ah).bind fun ay _=>.ok .nx ay:=by
 rw [ex];rfl
@[simp] theorem Ml:ex P w (.exp a) fr=(ev P true a fr).bind fun _ ah=>.ok .nx ah:=by rw [ex]
@[simp] theorem Mm:ex P w (.ret a) fr=(ev P false a (gf fr)).bind fun x ah=>.ok (.ret x) ah:=by rw [ex]
@[simp] theorem Mn:ex P w (.iff a sa sb) fr=(aL P a fr).bind fun k ah=>if k then exs P w sa ah else exs P w sb ah:=by rw [ex]
noncomputable def turnF (P:aU) (w:Nat) (t:T) (b:Ss):V→Fr→R Fl:=fun d ay=>match cj t d ay with
 | some cX=>exs P w b cX
 | none=>.bad
@[simp] theorem tM {t:T}:ex P w (.for t it ss) fr=(dc P false it (sC (itv it) fr)).bind fun s ah=>forL (turnF P w t ss) s ah:=by rw [ex];rfl
@[simp] theorem Mp:ex P w (.lP a ss) fr=dU (fun ay=>aL P a ay) (fun ay=>exs P w ss ay) w fr:=by rw [ex]
@[simp] theorem Im:exs P w .nil fr=.ok .nx fr:=by rw [exs]
noncomputable def Qo (P:aU) (w:Nat) (ss:Ss):Fl→Fr→R Fl:=fun p h1=>match p with
 | .nx=>exs P w ss h1
 | p=>.ok p h1
@[simp] theorem CM:exs P w (.cons st ss) fr=(ex P w st fr).bind (Qo P w ss):=by rw [exs];rfl
end
theorem mz {P:aU}{f:Nat}{vs:List V}{fr:Fr}{v:V}(h:P f (vs.map .val)=some (v,[])):cU P f (vs.map .inr) fr=.ok v fr:=by
 have h1:∀ vs:List V,bO (vs.map .inr)=[]:=fun vs=>by induction vs <;> simp [bO, *]
 have h2:∀ vs:List V,args fr (vs.map .inr)=some (vs.map .val):=fun vs=>by induction vs <;> simp [args, *]
 simp [cU,h1,h2,h,back]
section
variable {P:aU}{f:Nat}{fr:Fr}{a b c d v:V}
theorem cZ (h:P f [.val a]=some (v,[])):cU P f [.inr a] fr=.ok v fr:=mz (vs:=[a]) h
theorem call2 (h:P f [.val a,.val b]=some (v,[])):cU P f [.inr a,.inr b] fr=.ok v fr:=mz (vs:=[a,b]) h
theorem fO (h:P f [.val a,.val b,.val c]=some (v,[])):cU P f [.inr a,.inr b,.inr c] fr=.ok v fr:=mz (vs:=[a,b,c]) h
end
end Pv
namespace Pv
open Ev (D bV bQ TY BI ME T E Es Eo It S Ss Fn big deep b2i rep cB er bN aS cut cT ef slots)
section
variable {fr:Fr}{i j:Nat}{k:Bool}{s:Sl}{v u:V}{l:List V}{o:Option Sl}
noncomputable def YS (k:Bool):Option (Option Sl)→Option V
 | some (some (.val v))=>some v
 | some (some (.own l))=>if k then some (.lst l) else none
 | some (some (.bor l))=>if k then some (.lst l) else none
 | some (some (.ro l))=>if k then some (.lst l) else none
 | _=>none
@[simp] theorem Qp {r:R V}:src k fr (.v i) r=R.of (x8 k fr i) fr:=nd rfl
noncomputable def Mq:Option (Option Sl)→Option Sl
 | some (some s)=>s.lend
 | _=>none
@[simp] theorem Io:lent fr i=Mq fr[i]?:=by unfold lent Mq;split <;> simp_all
@[simp] theorem WC:Mq (some (some (.own l)))=some (.bor l):=nd rfl
noncomputable def Mr (fr:Fr) (i:Nat) (s:Sl):Option (Option Sl)→Option Fr
 | some (some (.bor _))=>none
 | some (some (.ro _))=>none
 | _=>some (fr.set i (some s))
@[simp] theorem Ms:put fr i s=Mr fr i s fr[i]?:=by unfold put Mr;split <;> simp_all
@[simp] theorem yh {l:List Nat} {x:List V}:cj (.many l) (.tup x) fr=cQ l x fr:=nd rfl
@[simp] theorem yi:cQ [] [] fr=some fr:=nd rfl
@[simp] theorem vh {l:List Nat} {x:List V}:cQ (i :: l) (v :: x) fr=(put fr i (.val v)).bind (cQ l x):=nd rfl
noncomputable def gi (m:ME) (i:Nat) (ds:List V) (fr:Fr):Option (Option Sl)→R V
 | some (some (.own l))=>match jG m l ds with
  | some (v,l')=>.ok v (fr.set i (some (.own l')))
  | none=>.bad
 | some (some (.bor l))=>match jG m l ds with
  | some (v,l')=>.ok v (fr.set i (some (.bor l')))
  | none=>.bad
 | _=>.bad
@[simp] theorem Ip {m:ME} {ds:List V}:CJ m i ds fr=gi m i ds fr fr[i]?:=by unfold CJ gi;split <;> simp_all <;> rfl
theorem j6 {d:V}(h:l.length<100000):gi .append i [d] fr (some (some (.own l)))=.ok .bH (fr.set i (some (.own (l++[d])))):=by
 simp [gi,jG,Nat.lt_of_lt_of_le h (show 100000≤big by decide)]
theorem Iq {d:V}(h:l.length<100000):gi .append i [d] fr (some (some (.bor l)))=.ok .bH (fr.set i (some (.bor (l++[d])))):=by
 simp [gi,jG,Nat.lt_of_lt_of_le h (show 100000≤big by decide)]
theorem wD {d:List V}(h:l.length+d.length≤100000):gi .extend i [.lst d] fr (some (some (.own l)))=.ok .bH (fr.set i (some (.own (l++d)))):=by
 simp [gi,jG,bZ h]
theorem qC:gi .pop i [] fr (some (some (.own (l++[v]))))=.ok v (fr.set i (some (.own l))):=by
 simp [gi,jG]
theorem Ir:gi .pop i [] fr (some (some (.bor (l++[v]))))=.ok v (fr.set i (some (.bor l))):=by
 simp [gi,jG]
end
noncomputable def vo (o:Option Sl):Prop:=o=none∨∃ y,o=some (.val y)
theorem vo.none:vo none:=.inl rfl
theorem vo.val {v:V}:vo (some (.val v)):=.inr ⟨v,rfl⟩
theorem Mt {fr:Fr}{i:Nat}{s:Sl}{b:Option Sl}(h:vo b):Mr fr i s (some b)=some (fr.set i (some s)):=by rcases h with rfl | ⟨y,rfl⟩ <;> rfl
theorem fD {b:Option Sl}(h:vo b):b.map Sl.gk=b:=by rcases h with rfl | ⟨y,rfl⟩ <;> rfl
noncomputable def Qq (f:V→Fr→R Fl) (ds:List V):Fl→Fr→R Fl:=fun p ah=>match p with
 | .nx=>forL f ds ah
 | .ct=>forL f ds ah
 | .bk=>.ok .nx ah
 | .ret x=>.ok (.ret x) ah
section
variable {f:V→Fr→R Fl}{ds:List V}{d x:V}{fr:Fr}
@[simp] theorem rz:forL f (d :: ds) fr=(f d fr).bind (Qq f ds):=nd rfl
end
section
variable {a b c:E}{es:Es}{lo hi:Eo}{it:It}{l:List Nat}
end
theorem uh {α:Type}{l:List α}{i:Int}(h0:0≤i):bN l i=l[i.toNat]?:=by
 unfold bN er
 rw [if_pos h0]
 split
 ·rfl
 ·rw [List.getElem?_eq_none (by omega)];rfl
@[simp] theorem vG {α:Type} {l:List α} {n:Nat}:bN l (n:Int)=l[n]?:=by rw [uh (by omega)];simp
theorem Ax {α:Type}{l:List α}:bN l (-1:Int)=l.getLast?:=by
 unfold bN er
 cases l with
 | nil=>rfl
 | cons a l=>
  have h1:¬ (0:Int)≤-1:=by omega
  have h2:-(((a :: l).length:Nat):Int)≤-1:=by simp;omega
  rw [if_neg h1,if_pos h2,List.getLast?_eq_getElem?]
  simp only [Option.bind]
  congr 1
  simp;omega
noncomputable def sG:Fn:=⟨2,2,(.cons (.iff (.cmp .eq (.v 0) (.lst .nil)) (.cons (.ret (.bin .mul (.c (.int 7)) (.v 1))) .nil) .nil) (.cons (.ret (.bin .add (.ix (.v 0) (.bin .mod (.v 1) (.bi .len (.cons (.v 0) .nil)))) (.bin .mul (.c (.int 6553)) (.bin .fdiv (.v 1) (.bi .len (.cons (.v 0) .nil)))))) .nil))⟩
noncomputable def um (c:Nat):Fn:=⟨3,4,(.cons (.set 3 (.bin .mod (.bin .add (.bin .mul (.bin .mod (.cl c (.cons (.v 0) (.cons (.v 1) .nil))) (.c (.int 2147483563))) (.c (.int 69069))) (.bin .mul (.c (.int 104723)) (.bin .add (.v 1) (.c (.int 1))))) (.c (.int 2147483563)))) (.cons (.set 3 (.bin .mod (.bin .add (.bin .mul (.v 3) (.v 3)) (.bin .fdiv (.v 3) (.c (.int 3)))) (.c (.int 2147483399)))) (.cons (.ret (.bin .mod (.bin .fdiv (.bin .mod (.bin .add (.bin .mul (.v 3) (.v 3)) (.bin .fdiv (.v 3) (.c (.int 7)))) (.c (.int 2147483647))) (.c (.int 11))) (.v 2))) .nil)))⟩
noncomputable def sH (ns:List Int) (k:Int):Int:=if ns=[] then 7*k else (ns[(k % ns.length).toNat]?.getD 0)+6553*(k / ns.length)
noncomputable def cR (ns:List Int) (k many:Int):Int:=
 let c:=(sH ns k % 2147483563*69069+104723*(k+1)) % 2147483563
 let c:=(c*c+c / 3) % 2147483399
 (c*c+c / 7) % 2147483647 / 11 % many
theorem jz (ns:List Int) (k:Int) {many:Int}(h:0<many):0≤cR ns k many:=Int.emod_nonneg _ (by omega)
theorem jA (ns:List Int) (k:Int) {many:Int}(h:0<many):cR ns k many<many:=Int.emod_lt_of_pos _ h
noncomputable def jb (ns:List Int):V:=.bS (ns.map V.int)
theorem Iu (ns:List Int):cD (ez (18+1)) (ns.map V.int) []=some (decide (ns=[])):=by cases ns <;> simp
end Pv
namespace Pv
open Ev (D bV bQ TY BI ME T E Es Eo It S Ss Fn big deep b2i rep cB er bN aS cut cT ef slots)
section
variable {P:aU}{w:Nat}{fr ah ay cX ja:Fr}{k b:Bool}{a e c:E}{es:Es}{ss sa sb:Ss}{st:S}{lo hi:Eo}{it:It}{v x y z:V}{vs:List V}{i:Nat}{l:List V}{Q:Fl→Fr→Prop}
theorem aY {d:D}(h:ofD d=some v):ev P k (.c d) fr=.ok v fr:=by rw [U8,h];rfl
theorem aB (h:qx k fr i=some v):ev P k (.v i) fr=.ok v fr:=by rw [U9,h];rfl
theorem kI (h:b7 P false es fr=.ok vs ah) (h2:g8 vs=some v):ev P k (.tup es) fr=.ok v ah:=by rw [L0,h,ao,h2];rfl
theorem Fb (h:b7 P false es fr=.ok vs ah) (h2:dX vs=some v):ev P k (.lst es) fr=.ok v ah:=by rw [L1,h,ao,h2];rfl
theorem bw {o:bV}(h:ev P (kf a (bW e)) a fr=.ok x ah) (h2:ev P true e ah=.ok y ay) (h3:bT o x y=some v):ev P k (.bin o a e) fr=.ok v ay:=by rw [L3,h,ao,h2,ao,h3];rfl
theorem b8 {o:bQ}(h:ev P (kf a (bW e)) a fr=.ok x ah) (h2:ev P true e ah=.ok y ay) (h3:cop o x y=some b):ev P k (.cmp o a e) fr=.ok (.bl b) ay:=by rw [L4,h,ao,h2,ao,h3];rfl
theorem Vb (h:ev P true a fr=.ok (.bl b) ah):ev P k (.nt a) fr=.ok (.bl (!b)) ah:=by rw [Qh,h];rfl
theorem mZ {j:Int}(h:ev P true a fr=.ok (.int j) ah):ev P k (.neg a) fr=.ok (.int (-j)) ah:=by rw [L5,h];rfl
theorem Qs (h:ev P true a fr=.ok (.bl true) ah) (h2:ev P k e ah=.ok v ay):ev P k (.an a e) fr=.ok v ay:=by rw [Qi,h,ao,L6];exact h2
theorem Fc (h:aL P a fr=.ok b ah) (h2:b=true→ev P k e ah=.ok v ay) (h3:b=false→ev P k c ah=.ok v ay):ev P k (.ly a e c) fr=.ok v ay:=by
 rw [L7,h,ao]
 cases b with
 | true=>exact h2 rfl
 | false=>exact h3 rfl
theorem cE (h:ev P (kf a (bW e)) a fr=.ok x ah) (h2:ev P true e ah=.ok y ay) (h3:fK x y=some v):ev P k (.ix a e) fr=.ok v ay:=by rw [Qj,h,ao,h2,ao,h3];rfl
theorem uo {p q:Option Int}(h:ev P (kf a (jN lo++jN hi)) a fr=.ok x ah) (h2:fL P lo ah=.ok p ay) (h3:fL P hi ay=.ok q cX) (h4:fR x p q=some v):ev P k (.sl a lo hi) fr=.ok v cX:=by rw [Qk,h,ao,h2,ao,h3,ao,h4];rfl
theorem Qt (h:ev P true a fr=.ok x ah) (h2:qw x=some v):ev P k (.lz a) fr=.ok v ah:=by rw [L8,h,ao,h2];rfl
theorem Mu (h:ev P true a fr=.ok x ah) (h2:lD x=some v):ev P k (.rv a) fr=.ok v ah:=by rw [Ql,h,ao,h2];rfl
theorem aV {f:Nat}{as:List (Nat ⊕ V)}(h:fM P es fr=.ok as ah) (h2:cU P f as ah=.ok v ay):ev P k (.cl f es) fr=.ok v ay:=by rw [Qm,h,ao];exact h2
theorem jB {g:BI}(h:b7 P true es fr=.ok vs ah) (h2:dz g vs=some v):ev P k (.bi g es) fr=.ok v ah:=by rw [Qn,h,ao,h2];rfl
theorem Qu {m:ME}(hm:iK m=true) (hl:(lent fr i).isSome=true) (h:b7 P (zY m) es fr=.ok vs ah) (h2:gi m i vs ah ah[i]?=.ok v ay):ev P k (.me m (.v i) es) fr=.ok v ay:=by
 rw [Ma hm,if_pos hl,h,ao,Ip];exact h2
theorem yj {m:ME}(hm:iK m=false) (h:ev P (kf a (fS es)) a fr=.ok x ah) (h2:b7 P true es ah=.ok vs ay) (h3:eN m x vs=some v):ev P k (.me m a es) fr=.ok v ay:=by rw [Mb hm,h,ao,h2,ao,h3];rfl
theorem pD {t:T}{cond:Eo}(h:dc P true it fr=.ok vs ah) (hu:undef t ah=true) (h2:cL (kH P a t cond ah) vs=some l) (h3:dX l=some v):ev P k (.comp a t it cond) fr=.ok v ah:=by
 rw [qm,h,ao,if_pos hu,h2]
 show R.of (dX l) ah=_
 rw [h3];rfl
theorem pF (h:dc P true it fr=.ok vs ah) (h2:dX vs=some v):ev P k (.gn it) fr=.ok v ah:=by rw [Mc,h,ao,h2];rfl
theorem Mv {kvs:List (D×D)}(h:ev P true a fr=.ok x ah) (h2:gY x kvs=some v):ev P k (.lO kvs a) fr=.ok v ah:=by rw [Ib,h,ao,h2];rfl
theorem sI (h:ev P true a fr=.ok x ah) (h2:toT x=some v):ev P k (.iZ a) fr=.ok v ah:=by rw [Me,h,ao,h2];rfl
theorem cF:b7 P k .nil fr=.ok [] fr:=Ic
theorem bK (h:ev P (k&&kf a (fS es)) a fr=.ok v ah) (h2:b7 P k es ah=.ok vs ay):b7 P k (.cons a es) fr=.ok (v :: vs) ay:=by rw [CK,h,ao,h2];rfl
theorem aE:fM P .nil fr=.ok [] fr:=Ie
theorem aC {as:List (Nat ⊕ V)}(hi:jZ fr a=none) (h:ev P false a fr=.ok v ah) (h2:fM P es ah=.ok as ay):fM P (.cons a es) fr=.ok (.inr v :: as) ay:=by rw [ug,hi,yg,h,ao,h2];rfl
theorem Vc {as:List (Nat ⊕ V)}(hi:jZ fr a=some i) (h2:fM P es fr=.ok as ay):fM P (.cons a es) fr=.ok (.inl i :: as) ay:=by rw [ug,hi,yf,h2];rfl
theorem pG:fL P .no fr=.ok none fr:=Mf
theorem mC {j:Int}(h:ev P true a fr=.ok (.int j) ah):fL P (.yes a) fr=.ok (some j) ah:=by rw [Ig,h];rfl
theorem mD (h:aL P a fr=.ok false ah):aL P (.an a e) fr=.ok false ah:=by rw [Au,h];rfl
theorem dw {b2:Bool}(h:aL P a fr=.ok true ah) (h2:aL P e ah=.ok b2 ay):aL P (.an a e) fr=.ok b2 ay:=by rw [Au,h];exact h2
theorem pH (h:aL P a fr=.ok true ah):aL P (.orr a e) fr=.ok true ah:=by rw [wC,h];rfl
theorem gu {b2:Bool}(h:aL P a fr=.ok false ah) (h2:aL P e ah=.ok b2 ay):aL P (.orr a e) fr=.ok b2 ay:=by rw [wC,h];exact h2
theorem yk (h:aL P a fr=.ok b ah):aL P (.nt a) fr=.ok (!b) ah:=by rw [Mh,h];rfl
noncomputable def plainT:E→Bool
 | .an _ _=>false
 | .orr _ _=>false
 | .nt _=>false
 | _=>true
theorem aG (hp:plainT a=true) (h:ev P true a fr=.ok x ah) (h2:truthy x=b):aL P a fr=.ok b ah:=by
 have:aL P a fr=(ev P true a fr).bind Mi:=by
  cases a <;> first | (cases hp;done) | (rw [aL];rfl;all_goals (intros;contradiction))
 rw [this,h,ao,Ii,h2]
theorem j7 (h:src k fr a (ev P k a fr)=.ok x ah) (h2:gc x=some vs):dc P k (.seq a) fr=.ok vs ah:=by rw [Ij,h,ao,h2];rfl
theorem m6 (h:x8 k fr i=some v) {r:R V}:src k fr (.v i) r=.ok v fr:=by rw [Qp,h];rfl
theorem pI (h:b7 P true es fr=.ok vs ah) (h2:eU vs=some l):dc P k (.gm es) fr=.ok l ah:=by rw [Ik,h,ao,h2];rfl
theorem uq (h:ev P true a fr=.ok x ah) (h2:x6 x=some vs):dc P k (.rev a) fr=.ok vs.reverse ah:=by rw [Il,h,ao,h2];rfl
theorem bg (h:ev P false a fr=.ok v ah) (hn:isNew a=false) (hp:put ah i (.val v)=some ay) (q:Q .nx ay):Wp (ex P w (.set i a) fr) Q:=by
 rw [Av,h,ao,hn,hp];exact ⟨_,_,rfl,q⟩
theorem iT (h:ev P false a fr=.ok (.lst l) ah) (hn:isNew a=true) (hp:put ah i (.own l)=some ay) (q:Q .nx ay):Wp (ex P w (.set i a) fr) Q:=by
 rw [Av,h,ao,hn,if_pos rfl,CL,hp];exact ⟨_,_,rfl,q⟩
theorem gh (h:ev P true a fr=.ok v ah) (q:Q .nx ah):Wp (ex P w (.exp a) fr) Q:=by rw [Ml,h];exact ⟨_,_,rfl,q⟩
theorem bX (h:ev P false a (gf fr)=.ok v ah) (q:Q (.ret v) ah):Wp (ex P w (.ret a) fr) Q:=by rw [Mm,h];exact ⟨_,_,rfl,q⟩
theorem aQ (h:aL P a fr=.ok b ah) (h2:b=true→Wp (exs P w sa ah) Q) (h3:b=false→Wp (exs P w sb ah) Q):Wp (ex P w (.iff a sa sb) fr) Q:=by
 rw [Mn,h,ao]
 cases b with
 | true=>exact h2 rfl
 | false=>exact h3 rfl
theorem aF (q:Q .nx fr):Wp (exs P w .nil fr) Q:=by rw [Im];exact ⟨_,_,rfl,q⟩
noncomputable def nx (P:aU) (w:Nat) (ss:Ss) (Q:Fl→Fr→Prop):Fl→Fr→Prop
 | .nx,fr=>Wp (exs P w ss fr) Q
 | g,fr=>Q g fr
theorem aj (q:Wp (ex P w st fr) (nx P w ss Q)):Wp (exs P w (.cons st ss) fr) Q:=by
 rw [CM,wp_bind]
 refine q.mono fun g ah z=>?_
 cases g with
 | nx=>exact z
 | bk=>exact ⟨_,_,rfl,z⟩
 | ct=>exact ⟨_,_,rfl,z⟩
 | ret v=>exact ⟨_,_,rfl,z⟩
theorem pJ {t:T}(h:dc P false it (sC (itv it) fr)=.ok vs ah) (q:Wp (forL (turnF P w t ss) vs ah) Q):Wp (ex P w (.for t it ss) fr) Q:=by rw [tM,h,ao];exact q
theorem Fd (q:Wp (dU (fun ay=>aL P a ay) (fun ay=>exs P w ss ay) w fr) Q):Wp (ex P w (.lP a ss) fr) Q:=by rw [Mp];exact q
theorem fC {t:T}{d:V}(hb:cj t d fr=some ah) (q:Wp (exs P w ss ah) Q):Wp (turnF P w t ss d fr) Q:=by unfold turnF;rw [hb];exact q
theorem mE {t:T}{d:V}(hb:cj t d (rL fr)=some ah) (h:ev P false a ah=.ok v ay):kH P a t .no fr d=some (some v):=by
 unfold kH;rw [hb];dsimp only;rw [Mg];dsimp only;rw [h];rfl
theorem Iv {t:T}{d:V}(hb:cj t d (rL fr)=some ah) (h:aL P c ah=.ok b ay) (h2:b=true→ev P false a ah=.ok v cX):kH P a t (.yes c) fr d=some (if b then some v else none):=by
 unfold kH;rw [hb];dsimp only;rw [Ih,h];dsimp only
 cases b with
 | true=>rw [h2 rfl];rfl
 | false=>rfl
theorem jC {p q:List Nat}:cop .eq (.str p) (.str q)=some (decide (p=q)):=wm
theorem iL {p q:List Nat}:cop .ne (.str p) (.str q)=some (!decide (p=q)):=by rw [o7,wm];rfl
theorem Mw {p q:Int}:cop .eq (.int p) (.int q)=some (decide (p=q)):=wk
theorem yl {p q:Int}:cop .ne (.int p) (.int q)=some (!decide (p=q)):=by rw [o7,wk];rfl
theorem Mx {p q:Int}:cop .lt (.int p) (.int q)=some (decide (p<q)):=rfl
theorem qD {p q:Int}:cop .gt (.int p) (.int q)=some (decide (q<p)):=rfl
theorem m7 {p q:Int}(h:cB p q=true):bT .mul (.int p) (.int q)=some (.int (p*q)):=by rw [nW,if_pos h]
theorem m8 {p q:Int}(h:0<q):bT .mod (.int p) (.int q)=some (.int (p % q)):=by rw [HW,if_pos h]
theorem sJ {p q:Int}(h:0<q) (h2:q<1073741824):bT .fdiv (.int p) (.int q)=some (.int (p / q)):=by rw [CH,if_pos ⟨h,h2⟩]
end
theorem iU {fr:Fr}{i:Nat}{s:Sl}{o:Option Sl}(e:fr[i]?=some o) (h:vo o):put fr i s=some (fr.set i (some s)):=by rw [Ms,e,Mt h]
theorem m9 {fr:Fr}{i j:Nat}{u v:V}{a b:Option Sl}(ea:fr[i]?=some a) (ha:vo a) (eb:(fr.set i (some (.val u)))[j]?=some b) (hb:vo b):cj (.many [i,j]) (.tup [u,v]) fr=some ((fr.set i (some (.val u))).set j (some (.val v))):=by
 simp only [yh,vh,yi,iU ea ha,Option.bind,iU eb hb]
theorem bind1 {fr:Fr}{i:Nat}{v:V}{a:Option Sl}(ea:fr[i]?=some a) (ha:vo a):cj (.one i) v fr=some (fr.set i (some (.val v))):=iU ea ha
end Pv
local macro_rules | `(tactic| array_get_dec)=>`(tactic| first
 | exact Pv.cF | exact Pv.aE | exact Pv.pG
 | (apply Pv.aB;rfl) | (apply Pv.aY;rfl) | apply Pv.bw | apply Pv.b8 | apply Pv.kI | apply Pv.Fb | apply Pv.cE | apply Pv.uo | apply Pv.aV | apply Pv.jB
 | apply Pv.Vb | apply Pv.mZ | apply Pv.sI | apply Pv.pF | apply Pv.Mu | (apply Pv.Qu rfl rfl) | (apply Pv.yj rfl) | apply Pv.Mv
 | apply Pv.bK | (apply Pv.aC rfl) | (apply Pv.Vc rfl) | apply Pv.mC | apply Pv.yk | apply Pv.aG rfl
 | exact Pv.Qe | exact Pv.sF | exact Pv.yd | exact Pv.E8 | exact Pv.E7 | exact Pv.Qf | exact Pv.Qg
 | (with_reducible assumption) | exact Pv.dZ | exact Pv.jy | exact Pv.jC | exact Pv.iL | exact Pv.Mw | exact Pv.yl | exact Pv.Mx  | exact Pv.qD
 | (show Pv.truthy _=_;rfl) | (show Pv.fK _ _=some _;rfl) | (show Pv.toT _=some _;rfl) | (show Pv.gY _ _=some _;rfl) | (show Pv.gc _=some _;rfl) | assumption)
namespace Pv
open Ev (D bV bQ TY BI ME T E Es Eo It S Ss Fn big deep b2i rep cB er bN aS cut cT ef slots)
theorem My (a b:Int):cB (a % 2147483563) b=true:=by have h1:=Int.emod_nonneg a (b:=2147483563) (by decide);have h2:=Int.emod_lt_of_pos a (b:=2147483563) (by decide);simp [cB];omega
theorem Vd (a b:Int):cB (a % 2147483399) b=true:=by have h1:=Int.emod_nonneg a (b:=2147483399) (by decide);have h2:=Int.emod_lt_of_pos a (b:=2147483399) (by decide);simp [cB];omega
theorem Mz {l:List V}{j:Int}{v:V}(h:bN l j=some v):fK (.bS l) (.int j)=some v:=h
theorem MA {l m:List V}:cop .eq (.bS l) (.lst m)=cD (ez (18+1)) l m:=rfl
theorem CN {F:List Fn}{w n c:Nat}(hc:F[c]?=some sG) {ns:List Int}(hn:ns.length≤63) (k:Int):run F w (n+1) c [.val (jb ns),.val (.int k)]=some (.int (sH ns k),[]):=by
 refine cI hc rfl (aj (aQ (b:=decide (ns=[])) (aG rfl (b8 (aB rfl) (Fb cF E7) (MA.trans (Iu ns))) rfl) (fun h=>?_) fun h=>aF ?_))
 ·have h0:=of_decide_eq_true h
  exact aj (bX (bw (aY rfl) (aB rfl) (m7 rfl)) ⟨by rw [sH,if_pos h0],rfl⟩)
 ·have h0:=of_decide_eq_false h
  have hlen:0<ns.length:=List.length_pos_iff.mpr h0
  have RS:(0:Int)<(ns.map V.int).length:=by rw [List.length_map];exact Int.natCast_pos.mpr hlen
  have h30:((ns.map V.int).length:Int)<1073741824:=by rw [List.length_map];omega
  have hm0:=Int.emod_nonneg k (b:=(ns.length:Int)) (by omega)
  have hlt:(k % (ns.length:Int)).toNat<ns.length:=by have:=Int.emod_lt_of_pos k (b:=(ns.length:Int)) (by omega);omega
  have hx:bN (ns.map V.int) (k % ((ns.map V.int).length:Int))=some (.int (ns[(k % (ns.length:Int)).toNat]?.getD 0)):=by
   rw [List.length_map,uh hm0,List.getElem?_map,List.getElem?_eq_getElem hlt];rfl
  refine aj (bX (bw (cE (aB rfl) (bw (aB rfl) (jB (bK (aB rfl) cF) wu) (m8 RS)) (Mz hx)) (bw (aY rfl) (bw (aB rfl) (jB (bK (aB rfl) cF) wu) (sJ RS h30)) (m7 rfl)) dZ) ⟨?_,rfl⟩)
  rw [sH,if_neg h0,List.length_map]
theorem fV {F:List Fn}{w n c dr:Nat}(hc:F[c]?=some sG) (hd:F[dr]?=some (um c)) {ns:List Int}(hn:ns.length≤63) (k:Int) {many:Int}(hm:0<many):run F w (n+2) dr [.val (jb ns),.val (.int k),.val (.int many)]=some (.int (cR ns k many),[]):=by
 refine cI hd rfl (aj (bg (bw (bw (bw (bw (aV (aC rfl (aB rfl) (aC rfl (aB rfl) aE)) (call2 (CN hc hn k))) (aY rfl) (m8 (by decide))) (aY rfl) (m7 (My _ _))) (bw (aY rfl) (bw (aB rfl) (aY rfl) dZ) (m7 rfl)) dZ) (aY rfl) (m8 (by decide))) rfl rfl ?_))
 refine aj (bg (bw (bw (bw (aB rfl) (aB rfl) (m7 (My _ _))) (bw (aB rfl) (aY rfl) (sJ (by decide) (by decide))) dZ) (aY rfl) (m8 (by decide))) rfl rfl ?_)
 exact aj (bX (bw (bw (bw (bw (bw (aB rfl) (aB rfl) (m7 (Vd _ _))) (bw (aB rfl) (aY rfl) (sJ (by decide) (by decide))) dZ) (aY rfl) (m8 (by decide))) (aY rfl) (sJ (by decide) (by decide))) (aB rfl) (m8 hm)) ⟨rfl,rfl⟩)
noncomputable def fText (dr:Nat):Fn:=⟨3,4,(.cons (.ret (.me .join (.c (.str [])) (.cons (.comp (.ix (.c (.str [97,98,99,32])) (.cl dr (.cons (.v 0) (.cons (.bin .add (.bin .add (.v 1) (.c (.int 1))) (.v 3)) (.cons (.c (.int 4)) .nil))))) (.one 3) (.gm (.cons (.cl dr (.cons (.v 0) (.cons (.v 1) (.cons (.bin .add (.v 2) (.c (.int 1))) .nil)))) .nil)) .no) .nil))) .nil)⟩
noncomputable def Fe (dr:Nat):S:=.iff (.cmp .eq (.cl dr (.cons (.v 0) (.cons (.bin .add (.v 1) (.bin .mul (.c (.int 4)) (.v 4))) (.cons (.c (.int 4)) .nil)))) (.c (.int 0))) (.cons (.set 5 (.bin .mul (.ix (.c (.str [97,98,122])) (.cl dr (.cons (.v 0) (.cons (.bin .add (.bin .add (.v 1) (.bin .mul (.c (.int 4)) (.v 4))) (.c (.int 1))) (.cons (.c (.int 3)) .nil))))) (.bin .add (.c (.int 1)) (.cl dr (.cons (.v 0) (.cons (.bin .add (.bin .add (.v 1) (.bin .mul (.c (.int 4)) (.v 4))) (.c (.int 2))) (.cons (.c (.int 2)) .nil))))))) (.cons (.set 3 (.bin .add (.v 3) (.tup (.cons (.tup (.cons (.c (.str [112,117,116])) (.cons (.v 5) .nil))) .nil)))) .nil)) .nil
noncomputable def Ff (dr:Nat):S:=.iff (.cmp .lt (.v 4) (.bi .len (.cons (.v 2) .nil))) (.cons (.set 6 (.cmp .gt (.cl dr (.cons (.v 0) (.cons (.bin .add (.bin .add (.v 1) (.bin .mul (.c (.int 4)) (.v 4))) (.c (.int 3))) (.cons (.c (.int 3)) .nil)))) (.c (.int 0)))) (.cons (.set 3 (.bin .add (.v 3) (.tup (.cons (.ly (.v 6) (.tup (.cons (.c (.str [107,101,101,112])) (.cons (.c (.int 1)) .nil))) (.tup (.cons (.c (.str [100,114,111,112])) (.cons (.ix (.v 2) (.v 4)) .nil)))) .nil)))) .nil)) .nil
noncomputable def Iw (dr:Nat):Fn:=⟨3,7,(.cons (.set 3 (.tup .nil)) (.cons (.for (.one 4) (.gm (.cons (.bin .add (.bi .len (.cons (.v 2) .nil)) (.c (.int 1))) .nil)) (.cons (Fe dr) (.cons (Ff dr) .nil))) (.cons (.ret (.v 3)) .nil)))⟩
inductive Pt where
 | keep (n:Nat) | put (s:List Nat) | drop (s:List Nat)
deriving DecidableEq
noncomputable def dP:List Nat:=[107,101,101,112]
noncomputable def jO:List Nat:=[112,117,116]
noncomputable def jg:List Nat:=[100,114,111,112]
noncomputable def Pt.v:Pt→V
 | .keep n=>.tup [.str dP,.int n]
 | .put s=>.tup [.str jO,.str s]
 | .drop s=>.tup [.str jg,.str s]
noncomputable def aJ (c:List Pt):V:=.tup (c.map Pt.v)
theorem MB (n:Nat) (a b:Pt):ez (n+2) a.v b.v=some (decide (a=b)):=by
 cases a <;> cases b <;> simp [Pt.v,dP,jO,jg]
 all_goals omega
theorem Ay (a b:List Pt):ez deep (aJ a) (aJ b)=some (decide (a=b)):=by
 simp only [aJ,HX]
 exact wo (fun a b=>MB 17 a b) a b
noncomputable def txt (ns:List Int) (at_ most:Int):List Nat:=(List.range (cR ns at_ (most+1)).toNat).map fun (k:Nat)=>[97,98,99,32].getD (cR ns (at_+1+k) 4).toNat 0
theorem Iz (ns:List Int) (at_:Int) {most:Int}(h:0≤most):(txt ns at_ most).length≤most.toNat:=by
 unfold txt
 have h1:=jA ns at_ (many:=most+1) (by omega)
 have h2:=jz ns at_ (many:=most+1) (by omega)
 simp;omega
theorem getD_at {α:Type}{l:List α}{i:Int}(h0:0≤i) (h1:i<l.length) (d:α):bN l i=some (l.getD i.toNat d):=by
 have:i.toNat<l.length:=by omega
 rw [uh h0];simp [List.getD,List.getElem?_eq_getElem this]
theorem nJ {α β:Type}(l:List α) (f:α→β):(l.map fun x=>[f x]).flatten=l.map f:=by induction l <;> simp [*]
theorem Az (lo:Int) (n:Nat):range lo n=(List.range n).map fun (i:Nat)=>V.int (lo+i):=rfl
section
variable {F:List Fn}{w n c dr t:Nat}(hc:F[c]?=some sG) (hd:F[dr]?=some (um c)) {ns:List Int}(hn:ns.length≤63)
include hc hd hn
theorem CO (ht:F[t]?=some (fText dr)) (k most:Int) (hm:0≤most) (hm2:most≤1000):run F w (n+3) t [.val (jb ns),.val (.int k),.val (.int most)]=some (.str (txt ns k most),[]):=by
 have b0:=jz ns k (many:=most+1) (by omega)
 have b1:=jA ns k (many:=most+1) (by omega)
 have d0:=fun fr=>fO (fr:=fr) (fV (w:=w) (n:=n) hc hd hn k (many:=most+1) (by omega))
 have Qv:cL (kH (run F w (n+2)) (.ix (.c (.str [97,98,99,32])) (.cl dr (.cons (.v 0) (.cons (.bin .add (.bin .add (.v 1) (.c (.int 1))) (.v 3)) (.cons (.c (.int 4)) .nil))))) (.one 3) .no [some (.val (jb ns)),some (.val (.int k)),some (.val (.int most)),none]) (range 0 (cR ns k (most+1)).toNat)=some (((List.range (cR ns k (most+1)).toNat).map fun (j:Nat)=>[[97,98,99,32].getD (cR ns (k+1+j) 4).toNat 0]).map V.str):=by
  rw [Az,List.map_map]
  refine rN _ _ _ fun j _=>?_
  have d1:=fun fr=>fO (fr:=fr) (fV (w:=w) (n:=n) hc hd hn (k+1+j) (many:=4) (by decide))
  have ix:fK (.str [97,98,99,32]) (.int (cR ns (k+1+j) 4))=some (.str [[97,98,99,32].getD (cR ns (k+1+j) 4).toNat 0]):=by
   rw [qB,getD_at (l:=[97,98,99,32]) (jz ns (k+1+j) (many:=4) (by decide)) (jA ns (k+1+j) (many:=4) (by decide)) 0];rfl
  rw [show (0:Int)+(j:Int)=j from Int.zero_add _]
  exact mE rfl (by (repeat (first | array_get_dec | exact d1 _)))
 have hj:=E9 (l:=(List.range (cR ns k (most+1)).toNat).map fun (j:Nat)=>[[97,98,99,32].getD (cR ns (k+1+j) 4).toNat 0]) (by rw [nJ];simp;omega)
 rw [nJ] at hj
 have Xy:dX (((List.range (cR ns k (most+1)).toNat).map fun (j:Nat)=>[[97,98,99,32].getD (cR ns (k+1+j) 4).toNat 0]).map V.str)=some (.lst _):=eW (bZ (by simp;omega))
 have rg:=LZ b0 (show cR ns k (most+1)≤100000 by omega)
 refine cI ht rfl (aj (bX (yj rfl (aY rfl) (bK (pD (pI (by (repeat (first | array_get_dec | exact d0 _))) rg) rfl Qv Xy) cF) hj) ⟨rfl,rfl⟩))
end
noncomputable def jh (ns:List Int) (at_:Int) (s:List Nat) (k:Nat):List Pt:=
 (if cR ns (at_+4*k) 4=0 then [.put (rep (1+cR ns (at_+4*k+2) 2).toNat [[97,98,122].getD (cR ns (at_+4*k+1) 3).toNat 0])] else [])++
 (match s[k]? with
 | some c=>[if 0<cR ns (at_+4*k+3) 3 then .keep 1 else .drop [c]]
 | none=>[])
noncomputable def fq (ns:List Int) (at_:Int) (s:List Nat) (k:Nat):List Pt:=(List.range k).flatMap (jh ns at_ s)
noncomputable def chg (ns:List Int) (at_:Int) (s:List Nat):List Pt:=fq ns at_ s (s.length+1)
theorem AA (ns:List Int) (at_:Int) (s:List Nat) (k:Nat):(jh ns at_ s k).length≤2:=by
 unfold jh
 split <;> split <;> simp
theorem ji (ns:List Int) (at_:Int) (s:List Nat) (k:Nat):fq ns at_ s (k+1)=fq ns at_ s k++jh ns at_ s k:=by simp [fq,List.range_succ]
theorem mF (ns:List Int) (at_:Int) (s:List Nat):∀ k,(fq ns at_ s k).length≤2*k
 | 0=>by simp [fq]
 | k+1=>by
  have h1:=AA ns at_ s k
  have h2:=mF ns at_ s k
  rw [ji,List.length_append]
  omega
theorem MC (i:Int):cB 4 i=true:=by simp [cB]
theorem sL {a b:List Pt}(h:a.length+b.length≤100000):bT .add (aJ a) (aJ b)=some (aJ (a++b)):=by
 simp only [aJ];rw [CF (by simpa using h)];simp
theorem CP {j:Int}{n:Nat}(h:n≤100000) (e:j=n):eU [.int j]=some (range 0 n):=by
 subst e
 rw [LZ (by omega) (by omega)]
 rfl
theorem IA {a:List Pt}{s:List Nat}(h:a.length<100000):bT .add (aJ a) (.tup [.tup [.str [112,117,116],.str s]])=some (aJ (a++[.put s])):=sL (a:=a) (b:=[.put s]) (by simp;omega)
theorem CQ {a:List Pt}{s:List Nat}(h:a.length<100000):bT .add (aJ a) (.tup [.tup [.str [100,114,111,112],.str s]])=some (aJ (a++[.drop s])):=sL (a:=a) (b:=[.drop s]) (by simp;omega)
theorem CS {a:List Pt}(h:a.length<100000):bT .add (aJ a) (.tup [.tup [.str [107,101,101,112],.int 1]])=some (aJ (a++[.keep 1])):=sL (a:=a) (b:=[.keep 1]) (by simp;omega)
section
variable {F:List Fn}{w n c dr t:Nat}(hc:F[c]?=some sG) (hd:F[dr]?=some (um c)) {ns:List Int}(hn:ns.length≤63)
include hc hd hn
theorem CT (k:Int) (x:V) (fd:List Pt) (j:Nat) (u v:Option Sl) (hu:vo u) (hfd:fd.length≤10000) :
  Wp (ex (run F w (n+2)) w (Fe dr) [some (.val (jb ns)),some (.val (.int k)),some (.val x),some (.val (aJ fd)),some (.val (.int j)),u,v]) fun g fr=>g=.nx∧∃ b,vo b∧fr=[some (.val (jb ns)),some (.val (.int k)),some (.val x),some (.val (aJ (fd++if cR ns (k+4*j) 4=0 then [.put (rep (1+cR ns (k+4*j+2) 2).toNat [[97,98,122].getD (cR ns (k+4*j+1) 3).toNat 0])] else []))),some (.val (.int j)),b,v]:=by
 have d1:=fun fr=>fO (fr:=fr) (fV (w:=w) (n:=n) hc hd hn (k+4*j) (many:=4) (by decide))
 have m4:bT .mul (.int 4) (.int j)=some (.int (4*j)):=by rw [nW,MC];rfl
 refine aQ (by (repeat (first | array_get_dec | exact d1 _))) (fun h=>?_) fun h=>?_
 ·have h0:=of_decide_eq_true h
  have d2:=fun fr=>fO (fr:=fr) (fV (w:=w) (n:=n) hc hd hn (k+4*j+1) (many:=3) (by decide))
  have d3:=fun fr=>fO (fr:=fr) (fV (w:=w) (n:=n) hc hd hn (k+4*j+2) (many:=2) (by decide))
  have c2:=jz ns (k+4*j+2) (many:=2) (by decide)
  have c3:=jA ns (k+4*j+2) (many:=2) (by decide)
  have ix:fK (.str [97,98,122]) (.int (cR ns (k+4*j+1) 3))=some (.str [[97,98,122].getD (cR ns (k+4*j+1) 3).toNat 0]):=by
   rw [qB,getD_at (l:=[97,98,122]) (jz ns (k+4*j+1) (many:=3) (by decide)) (jA ns (k+4*j+1) (many:=3) (by decide)) 0];rfl
  have ml:=CG (j:=1+cR ns (k+4*j+2) 2) (a:=[[97,98,122].getD (cR ns (k+4*j+1) 3).toNat 0]) (by omega) (by omega) (by simp)
  have ad:=IA (a:=fd) (s:=rep (1+cR ns (k+4*j+2) 2).toNat [[97,98,122].getD (cR ns (k+4*j+1) 3).toNat 0]) (by omega)
  refine aj (bg (by (repeat (first | array_get_dec | exact d2 _ | exact d3 _))) rfl (iU rfl hu) ?_)
  refine aj (bg (by repeat array_get_dec) rfl rfl (aF ?_))
  rw [if_pos h0];exact ⟨rfl,_,.val,rfl⟩
 ·have h0:=of_decide_eq_false h
  rw [if_neg h0,List.append_nil]
  exact aF ⟨rfl,u,hu,rfl⟩
theorem CU (k:Int) (x:List Nat) (hx:x.length≤1000) (fd:List Pt) (j:Nat) (u v:Option Sl) (hv:vo v) (hfd:fd.length≤10000) :
  Wp (ex (run F w (n+2)) w (Ff dr) [some (.val (jb ns)),some (.val (.int k)),some (.val (.str x)),some (.val (aJ fd)),some (.val (.int j)),u,v]) fun g fr=>g=.nx∧∃ b,vo b∧fr=[some (.val (jb ns)),some (.val (.int k)),some (.val (.str x)),some (.val (aJ (fd++match x[j]? with
     | some c=>[if 0<cR ns (k+4*j+3) 3 then .keep 1 else .drop [c]]
     | none=>[]))),some (.val (.int j)),u,b]:=by
 have ln:dz .len [.str x]=some (.int (x.length:Nat)):=len_str (by omega)
 refine aQ (by repeat array_get_dec) (fun h=>?_) fun h=>?_
 ·have hlt:j<x.length:=by have:=of_decide_eq_true h;omega
  have d1:=fun fr=>fO (fr:=fr) (fV (w:=w) (n:=n) hc hd hn (k+4*j+3) (many:=3) (by decide))
  have m4:bT .mul (.int 4) (.int j)=some (.int (4*j)):=by rw [nW,MC];rfl
  have hg:x[j]?=some x[j]:=List.getElem?_eq_getElem hlt
  have ix:fK (.str x) (.int j)=some (.str [x[j]]):=by rw [qB,vG,hg];rfl
  rw [hg]
  refine aj (bg (by (repeat (first | array_get_dec | exact d1 _))) rfl (iU rfl hv) ?_)
  by_cases hk:0<cR ns (k+4*j+3) 3
  ·have ad:=CS (a:=fd) (by omega)
   have ht:truthy (.bl (decide (0<cR ns (k+4*j+3) 3)))=true:=decide_eq_true hk
   refine aj (bg (bw (aB rfl) (kI (bK (Fc (b:=true) (aG rfl (aB rfl) ht) (fun _=>by repeat array_get_dec) fun h=>absurd h (by decide)) cF) sF) ad) rfl rfl (aF ?_))
   refine ⟨rfl,some (.val (.bl (decide (0<cR ns (k+4*j+3) 3)))),.val,?_⟩
   simp only [if_pos hk];rfl
  ·have ad:=CQ (a:=fd) (s:=[x[j]]) (by omega)
   have ht:truthy (.bl (decide (0<cR ns (k+4*j+3) 3)))=false:=decide_eq_false hk
   refine aj (bg (bw (aB rfl) (kI (bK (Fc (b:=false) (aG rfl (aB rfl) ht) (fun h=>absurd h (by decide)) fun _=>by repeat array_get_dec) cF) sF) ad) rfl rfl (aF ?_))
   refine ⟨rfl,some (.val (.bl (decide (0<cR ns (k+4*j+3) 3)))),.val,?_⟩
   simp only [if_neg hk];rfl
 ·have hlt:¬ j<x.length:=by have:=of_decide_eq_false h;omega
  rw [List.getElem?_eq_none (by omega),List.append_nil]
  exact aF ⟨rfl,v,hv,rfl⟩
theorem ym (ht:F[t]?=some (Iw dr)) (k:Int) (x:List Nat) (hx:x.length≤1000):run F w (n+3) t [.val (jb ns),.val (.int k),.val (.str x)]=some (aJ (chg ns k x),[]):=by
 refine cI ht rfl ?_
 have ln:dz .len [.str x]=some (.int (x.length:Nat)):=len_str (by omega)
 have rg:eU [.int ((x.length:Nat)+1)]=some (range 0 (x.length+1)):=CP (by omega) (by omega)
 refine aj (bg (by repeat array_get_dec) rfl rfl ?_)
 refine aj (pJ (pI (bK (bw (jB (bK (aB rfl) cF) ln) (aY rfl) dZ) cF) rg) ?_)
 refine HZ (fun j fr=>∃ a b c,vo a∧vo b∧vo c∧fr=[some (.val (jb ns)),some (.val (.int k)),some (.val (.str x)),some (.val (aJ (fq ns k x j))),a,b,c]) (fun j fr hj ⟨a,b,c',ha,hb,hc',hfr⟩=>?_) (fun fr ⟨a,b,c',ha,hb,hc',hfr⟩=>?_) ⟨none,none,none,.none,.none,.none,rfl⟩
 ·subst hfr
  have hz:=mF ns k x j
  rw [show (0:Int)+(j:Int)=j from Int.zero_add _]
  refine fC (bind1 rfl ha) (aj ?_)
  refine (CT hc hd hn k (.str x) (fq ns k x j) j b c' hb (by omega)).mono fun g fr ⟨q1,b2,hb2,q3⟩=>?_
  subst q1 q3
  refine aj ?_
  refine (CU hc hd hn k x hx _ j b2 c' hc' (by split <;> simp <;> omega)).mono fun g fr ⟨q1,b3,Xz,q3⟩=>?_
  subst q1 q3
  refine aF ?_
  rw [gg]
  refine ⟨some (.val (.int j)),b2,b3,.val,hb2,Xz,?_⟩
  rw [ji,jh,List.append_assoc]
 ·subst hfr
  refine aj (bX (v:=aJ (chg ns k x)) (ah:=[some (.val (jb ns)),some (.val (.int k)),some (.val (.str x)),some (.val (aJ (fq ns k x (x.length+1)))),a,b,c']) ?_ ⟨rfl,rfl⟩)
  have sh:gf [some (.val (jb ns)),some (.val (.int k)),some (.val (.str x)),some (.val (aJ (fq ns k x (x.length+1)))),a,b,c']=[some (.val (jb ns)),some (.val (.int k)),some (.val (.str x)),some (.val (aJ (fq ns k x (x.length+1)))),a,b,c']:=by
   show _ :: _ :: _ :: _ :: a.map Sl.gk :: b.map Sl.gk :: [c'.map Sl.gk]=_
   rw [fD ha,fD hb,fD hc'];rfl
  rw [sh];exact aB rfl
end
end Pv
namespace Pv
open Ev (D bV bQ TY BI ME T E Es Eo It S Ss Fn big deep b2i rep cB er bN aS cut cT ef slots)
noncomputable def CV:S:=.iff (.cmp .eq (.ix (.v 0) (.c (.int 0))) (.c (.str [107,101,101,112]))) (.cons (.ret (.ix (.v 0) (.c (.int 1)))) .nil) .nil
noncomputable def CW:S:=.ret (.bi .len (.cons (.ix (.v 0) (.c (.int 1))) .nil))
noncomputable def dJ:Fn:=⟨1,1,(.cons CV (.cons CW .nil))⟩
noncomputable def yo (bz:Nat):S:=.ret (.bi .sum (.cons (.comp (.cl bz (.cons (.v 1) .nil)) (.one 1) (.seq (.v 0)) (.yes (.cmp .ne (.ix (.v 1) (.c (.int 0))) (.c (.str [112,117,116]))))) .nil))
noncomputable def gE (bz:Nat):Fn:=⟨1,2,(.cons (yo bz) .nil)⟩
noncomputable def AB (bz:Nat):S:=.ret (.bi .sum (.cons (.comp (.cl bz (.cons (.v 1) .nil)) (.one 1) (.seq (.v 0)) (.yes (.cmp .ne (.ix (.v 1) (.c (.int 0))) (.c (.str [100,114,111,112]))))) .nil))
noncomputable def j8 (bz:Nat):Fn:=⟨1,2,(.cons (AB bz) .nil)⟩
noncomputable def CZ (bz:Nat):S:=.ret (.bi .sum (.cons (.comp (.cl bz (.cons (.v 1) .nil)) (.one 1) (.seq (.v 0)) (.yes (.cmp .ne (.ix (.v 1) (.c (.int 0))) (.c (.str [107,101,101,112]))))) .nil))
noncomputable def MD (bz:Nat):Fn:=⟨1,2,(.cons (CZ bz) .nil)⟩
noncomputable def C4:S:=.set 1 (.lst .nil)
noncomputable def C5:S:=.set 2 (.c (.int 0))
noncomputable def C6:S:=.set 3 (.c (.str []))
noncomputable def C7:S:=.set 4 (.c (.str []))
noncomputable def C8 (fj:Nat):Ss:=(.cons (.iff (.cmp .eq (.v 5) (.c (.str [100,114,111,112]))) (.cons (.set 3 (.bin .add (.v 3) (.v 6))) .nil) (.cons (.iff (.cmp .eq (.v 5) (.c (.str [112,117,116]))) (.cons (.set 4 (.bin .add (.v 4) (.v 6))) .nil) (.cons (.iff (.cmp .gt (.v 6) (.c (.int 0))) (.cons (.iff (.orr (.cmp .ne (.v 3) (.c (.str []))) (.cmp .ne (.v 4) (.c (.str [])))) (.cons (.exp (.me .extend (.v 1) (.cons (.cl fj (.cons (.v 2) (.cons (.v 3) (.cons (.v 4) .nil)))) .nil))) (.cons (.set 2 (.c (.int 0))) (.cons (.set 3 (.c (.str []))) (.cons (.set 4 (.c (.str []))) .nil)))) .nil) (.cons (.set 2 (.bin .add (.v 2) (.v 6))) .nil)) .nil) .nil)) .nil)) .nil)
noncomputable def C9 (fj:Nat):S:=.for (.many [5,6]) (.seq (.v 0)) (C8 fj)
noncomputable def Dc (fj:Nat):S:=.exp (.me .extend (.v 1) (.cons (.cl fj (.cons (.v 2) (.cons (.v 3) (.cons (.v 4) .nil)))) .nil))
noncomputable def De:S:=.ret (.iZ (.v 1))
noncomputable def fW (fj:Nat):Fn:=⟨1,7,(.cons C4 (.cons C5 (.cons C6 (.cons C7 (.cons (C9 fj) (.cons (Dc fj) (.cons De .nil)))))))⟩
noncomputable def vj:S:=.set 3 (.lst .nil)
noncomputable def vm:S:=.iff (.cmp .gt (.v 0) (.c (.int 0))) (.cons (.exp (.me .append (.v 3) (.cons (.tup (.cons (.c (.str [107,101,101,112])) (.cons (.v 0) .nil))) .nil))) .nil) .nil
noncomputable def nK:S:=.iff (.cmp .ne (.v 1) (.c (.str []))) (.cons (.exp (.me .append (.v 3) (.cons (.tup (.cons (.c (.str [100,114,111,112])) (.cons (.v 1) .nil))) .nil))) .nil) .nil
noncomputable def jP:S:=.iff (.cmp .ne (.v 2) (.c (.str []))) (.cons (.exp (.me .append (.v 3) (.cons (.tup (.cons (.c (.str [112,117,116])) (.cons (.v 2) .nil))) .nil))) .nil) .nil
noncomputable def iM:S:=.ret (.v 3)
noncomputable def dj:Fn:=⟨3,4,(.cons vj (.cons vm (.cons nK (.cons jP (.cons iM .nil)))))⟩
noncomputable def Pt.n:Pt→Nat
 | .keep n=>n
 | .put s=>s.length
 | .drop s=>s.length
noncomputable def tot (c:List Pt):Nat:=(c.map Pt.n).sum
theorem cO (a b:List Pt):tot (a++b)=tot a+tot b:=by simp [tot]
theorem bI (p:Pt) (c:List Pt):tot (p :: c)=p.n+tot c:=by simp [tot]
noncomputable def cH:Pt→Bool
 | .put _=>true
 | _=>false
noncomputable def dM:Pt→Bool
 | .drop _=>true
 | _=>false
noncomputable def eY:Pt→Bool
 | .keep _=>true
 | _=>false
noncomputable def aM (c:List Pt):Nat:=tot (c.filter fun p=>!cH p)
noncomputable def bY (c:List Pt):Nat:=tot (c.filter fun p=>!dM p)
noncomputable def cst (c:List Pt):Nat:=tot (c.filter fun p=>!eY p)
section
variable {F:List Fn}{w n aD i:Nat}
theorem iB (hs:F[i]?=some dJ) (p:Pt) (hp:p.n≤100000):run F w (n+1) i [.val p.v]=some (.int p.n,[]):=by
 cases p with
 | keep k=>exact cI hs rfl (aj (aQ (b:=true) (aG rfl (b8 (cE (aB rfl) (aY rfl) rfl) (aY rfl) jC) rfl) (fun _=>aj (bX (cE (aB rfl) (aY rfl) rfl) ⟨rfl,rfl⟩)) nofun))
 | put s=>exact cI hs rfl (aj (aQ (b:=false) (aG rfl (b8 (cE (aB rfl) (aY rfl) rfl) (aY rfl) jC) rfl) nofun (fun _=>aF (aj (bX (jB (bK (cE (aB rfl) (aY rfl) rfl) cF) (len_str hp)) ⟨rfl,rfl⟩)))))
 | drop s=>exact cI hs rfl (aj (aQ (b:=false) (aG rfl (b8 (cE (aB rfl) (aY rfl) rfl) (aY rfl) jC) rfl) nofun (fun _=>aF (aj (bX (jB (bK (cE (aB rfl) (aY rfl) rfl) cF) (len_str hp)) ⟨rfl,rfl⟩)))))
theorem Ve {c:List Pt}{p:Pt}(h:p∈c):p.n≤tot c:=by
 induction c with
 | nil=>simp at h
 | cons q c ih=>
  rw [bI]
  rcases List.mem_cons.mp h with rfl | h
  ·omega
  ·have:=ih h;omega
theorem Qw (c:List Pt):(c.map fun p=>(p.n:Int)).sum=(tot c:Int):=by
 induction c with
 | nil=>rfl
 | cons p c ih=>simp only [List.map_cons,List.sum_cons,ih,bI];omega
theorem qE {word:List Nat}{pr:Pt→Bool}(hs:F[aD]?=some dJ) (hb:F[i]?=some ⟨1,2,.cons (.ret (.bi .sum (.cons (.comp (.cl aD (.cons (.v 1) .nil)) (.one 1) (.seq (.v 0)) (.yes (.cmp .ne (.ix (.v 1) (.c (.int 0))) (.c (.str word))))) .nil))) .nil⟩)
  (hw:∀ p:Pt,∃ x u,p.v=.tup [.str x,u]∧(!decide (x=word))=pr p) (c:List Pt) (h1:c.length≤10000) (h2:tot c≤100000):run F w (n+2) i [.val (aJ c)]=some (.int (tot (c.filter pr)),[]):=by
 refine cI hb rfl (aj (bX (jB (bK (pD (j7 (m6 rfl) rfl) rfl (uf (e:=Pt.v) (p:=pr) (g:=fun p=>.int p.n) c fun p hp=>?_) (eW (bZ ?_))) cF) ?_) ⟨rfl,rfl⟩))
 ·obtain ⟨x,u,hx,XA⟩:=hw p
  have hcall:=fun fr=>cZ (fr:=fr) (iB (w:=w) (n:=n) hs p (Nat.le_trans (Ve hp) h2))
  rw [hx] at hcall
  rw [hx,←XA]
  exact Iv rfl (aG rfl (b8 (cE (aB rfl) (aY rfl) rfl) (aY rfl) iL) rfl) fun _=>aV (aC rfl (aB rfl) aE) (hcall _)
 ·rw [List.length_map];exact Nat.le_trans (List.length_filter_le _ _) (Nat.le_trans h1 (by decide))
 ·rw [wz,o8 (fun p:Pt=>(p.n:Int))]
  show some (V.int _)=_
  rw [Qw]
theorem jj (hs:F[aD]?=some dJ) (hb:F[i]?=some (gE aD)) (c:List Pt) (h1:c.length≤10000) (h2:tot c≤100000):run F w (n+2) i [.val (aJ c)]=some (.int (aM c),[]):=
 qE (pr:=fun p=>!cH p) hs hb (fun p=>by cases p <;> exact ⟨_,_,rfl,rfl⟩) c h1 h2
theorem mG (hs:F[aD]?=some dJ) (hb:F[i]?=some (j8 aD)) (c:List Pt) (h1:c.length≤10000) (h2:tot c≤100000):run F w (n+2) i [.val (aJ c)]=some (.int (bY c),[]):=
 qE (pr:=fun p=>!dM p) hs hb (fun p=>by cases p <;> exact ⟨_,_,rfl,rfl⟩) c h1 h2
theorem Df (hs:F[aD]?=some dJ) (hb:F[i]?=some (MD aD)) (c:List Pt) (h1:c.length≤10000) (h2:tot c≤100000):run F w (n+2) i [.val (aJ c)]=some (.int (cst c),[]):=
 qE (pr:=fun p=>!eY p) hs hb (fun p=>by cases p <;> exact ⟨_,_,rfl,rfl⟩) c h1 h2
end
noncomputable def bD (k:Nat) (g w:List Nat):List Pt:=(if 0<k then [.keep k] else [])++(if g=[] then [] else [.drop g])++(if w=[] then [] else [.put w])
theorem jQ (k:Nat) (g w:List Nat):(bD k g w).length≤3:=by unfold bD;split <;> split <;> split <;> simp
theorem nL {F:List Fn}{w n i:Nat}(hs:F[i]?=some dj) (k:Nat) (g x:List Nat):run F w (n+1) i [.val (.int k),.val (.str g),.val (.str x)]=some (.lst ((bD k g x).map Pt.v),[]):=by
 refine cI hs rfl ?_
 refine aj (iT (l:=[]) (by repeat array_get_dec) rfl rfl ?_)
 have ap:∀ (l:List V) (d:V) (fr:Fr) (i:Nat),l.length≤3→fr[i]?=some (some (.own l))→gi .append i [d] fr fr[i]?=.ok .bH (fr.set i (some (.own (l++[d])))):=fun l d fr i h e=>by rw [e];exact j6 (by omega)
 have fin:∀ l:List V,Wp (exs (run F w n) w (.cons iM .nil) [some (.val (.int k)),some (.val (.str g)),some (.val (.str x)),some (.own l)]) fun g fr=>g=.ret (.lst l)∧outs 3 fr=[]:=fun l=>aj (bX (by repeat array_get_dec) ⟨rfl,rfl⟩)
 have s3:∀ l:List V,l.length≤2→Wp (exs (run F w n) w (.cons jP (.cons iM .nil)) [some (.val (.int k)),some (.val (.str g)),some (.val (.str x)),some (.own l)]) fun g fr=>g=.ret (.lst (l++(if x=[] then [] else [Pt.put x]).map Pt.v))∧outs 3 fr=[]:=fun l hl=>by
  refine aj (aQ (by repeat array_get_dec) (fun h=>?_) fun h=>?_)
  ·have hx:x≠[]:=by simpa using h
   refine aj (gh (by (repeat array_get_dec);exact ap _ _ _ _ (by omega) rfl) (aF ?_))
   rw [if_neg hx];exact fin _
  ·have hx:x=[]:=by simpa using h
   refine aF ?_
   rw [if_pos hx,List.map_nil,List.append_nil];exact fin _
 have s2:∀ l:List V,l.length≤1→Wp (exs (run F w n) w (.cons nK (.cons jP (.cons iM .nil))) [some (.val (.int k)),some (.val (.str g)),some (.val (.str x)),some (.own l)]) fun y fr=>y=.ret (.lst (l++((if g=[] then [] else [Pt.drop g])++(if x=[] then [] else [Pt.put x])).map Pt.v))∧outs 3 fr=[]:=fun l hl=>by
  refine aj (aQ (by repeat array_get_dec) (fun h=>?_) fun h=>?_)
  ·have hx:g≠[]:=by simpa using h
   refine aj (gh (by (repeat array_get_dec);exact ap _ _ _ _ (by omega) rfl) (aF ?_))
   rw [if_neg hx,List.map_append,←List.append_assoc];exact s3 _ (by simp;omega)
  ·have hx:g=[]:=by simpa using h
   refine aF ?_
   rw [if_pos hx,List.nil_append];exact s3 _ (by omega)
 refine aj (aQ (by repeat array_get_dec) (fun h=>?_) fun h=>?_)
 ·have hx:0<k:=by have:=of_decide_eq_true h;omega
  refine aj (gh (by (repeat array_get_dec);exact ap _ _ _ _ (by decide) rfl) (aF ?_))
  unfold bD
  rw [if_pos hx,List.append_assoc];exact s2 _ (Nat.le_refl 1)
 ·have hx:¬ 0<k:=by have:=of_decide_eq_false h;omega
  refine aF ?_
  unfold bD
  rw [if_neg hx];exact s2 _ (by decide)
abbrev FS:=List Pt×Nat×List Nat×List Nat
noncomputable def aX (st:FS):Pt→FS
 | .drop s=>(st.1,st.2.1,st.2.2.1++s,st.2.2.2)
 | .put s=>(st.1,st.2.1,st.2.2.1,st.2.2.2++s)
 | .keep k=>if 0<k then (if st.2.2.1=[]∧st.2.2.2=[] then (st.1,st.2.1+k,[],[]) else (st.1++bD st.2.1 st.2.2.1 st.2.2.2,k,[],[])) else st
noncomputable def dQ:FS:=([],0,[],[])
noncomputable def b9 (st:FS):List Pt:=st.1++bD st.2.1 st.2.2.1 st.2.2.2
noncomputable def av (c:List Pt):List Pt:=b9 (c.foldl aX dQ)
theorem IB (p:List Pt) (a:Pt):(p++[a]).foldl aX dQ=aX (p.foldl aX dQ) a:=by simp
theorem ur (c:List Pt):∀ st:FS,(c.foldl aX st).1.length≤st.1.length+3*c.length∧(c.foldl aX st).2.2.1.length≤st.2.2.1.length+tot c∧(c.foldl aX st).2.2.2.length≤st.2.2.2.length+tot c:=by
 induction c with
 | nil=>intro st;simp [tot]
 | cons p c ih=>
  intro st
  have h:=ih (aX st p)
  have h2:(aX st p).1.length≤st.1.length+3∧(aX st p).2.2.1.length≤st.2.2.1.length+p.n∧(aX st p).2.2.2.length≤st.2.2.2.length+p.n:=by
   have:=jQ st.2.1 st.2.2.1 st.2.2.2
   cases p with
   | drop s=>simp [aX,Pt.n]
   | put s=>simp [aX,Pt.n]
   | keep k=>
    simp only [aX]
    split
    ·split
     ·simp
     ·simp;omega
    ·simp
  simp only [List.foldl_cons,List.length_cons,bI]
  omega
theorem gF {F:List Fn}{w n aR i:Nat}(hs:F[aR]?=some dj) (hf:F[i]?=some (fW aR)) (c:List Pt) (h1:c.length≤10000) (h2:tot c≤10000):run F w (n+2) i [.val (aJ c)]=some (aJ (av c),[]):=by
 refine cI hf rfl ?_
 refine aj (iT (l:=[]) (by repeat array_get_dec) rfl rfl ?_)
 refine aj (bg (by repeat array_get_dec) rfl rfl ?_)
 refine aj (bg (by repeat array_get_dec) rfl rfl ?_)
 refine aj (bg (by repeat array_get_dec) rfl rfl ?_)
 refine aj (pJ (vs:=c.map Pt.v) (j7 (m6 rfl) rfl) ?_)
 have ext:∀ (st:FS) (fr:Fr),st.1.length≤30010→gi .extend 1 [.lst ((bD st.2.1 st.2.2.1 st.2.2.2).map Pt.v)] fr (some (some (.own (st.1.map Pt.v))))=.ok .bH (fr.set 1 (some (.own ((b9 st).map Pt.v)))):=fun st fr h=>by
  have:=jQ st.2.1 st.2.2.1 st.2.2.2
  unfold b9
  rw [List.map_append];exact wD (by simp;omega)
 refine iA (e:=Pt.v) (fun p l fr=>p++l=c∧∃ a b,vo a∧vo b∧fr=[some (.val (aJ c)),some (.own ((p.foldl aX dQ).1.map Pt.v)),some (.val (.int (p.foldl aX dQ).2.1)),some (.val (.str (p.foldl aX dQ).2.2.1)),some (.val (.str (p.foldl aX dQ).2.2.2)),a,b]) (fun p x l fr ⟨hpl,a,b,ha,hb,hfr⟩=>?_) (fun p fr ⟨hpl,a,b,ha,hb,hfr⟩=>?_) c [] _ ⟨rfl,none,none,.none,.none,rfl⟩
 ·subst hfr
  obtain ⟨b1,b2,b3⟩:=ur p dQ
  have hlen:p.length+l.length+1=c.length:=by rw [←hpl];simp;omega
  have uu:tot p+x.n+tot l=tot c:=by rw [←hpl,cO,bI];omega
  rw [IB]
  have iC:(p++[x])++l=c:=by simpa using hpl
  generalize p.foldl aX dQ=st at *
  simp [dQ] at b1 b2 b3
  have rs:=fun fr=>fO (fr:=fr) (nL (w:=w) (n:=n) hs st.2.1 st.2.2.1 st.2.2.2)
  have ex:=fun fr=>ext st fr (by omega)
  cases x with
  | drop s=>
   have hs:s.length≤tot c:=by simp only [Pt.n] at uu;omega
   have ad:=ue (a:=st.2.2.1) (b:=s) (by omega)
   refine fC (m9 rfl ha rfl hb) (aj (aQ (by repeat array_get_dec) (fun _=>?_) fun h=>absurd h (by decide)))
   refine aj (bg (by repeat array_get_dec) rfl rfl (aF (aF ?_)))
   rw [gg];exact ⟨iC,_,_,.val,.val,rfl⟩
  | put s=>
   have hs:s.length≤tot c:=by simp only [Pt.n] at uu;omega
   have ad:=ue (a:=st.2.2.2) (b:=s) (by omega)
   refine fC (m9 rfl ha rfl hb) (aj (aQ (by repeat array_get_dec) (fun h=>absurd h (by decide)) fun _=>?_))
   refine aj (aQ (by repeat array_get_dec) (fun _=>?_) fun h=>absurd h (by decide))
   refine aj (bg (by repeat array_get_dec) rfl rfl (aF (aF (aF ?_))))
   rw [gg];exact ⟨iC,_,_,.val,.val,rfl⟩
  | keep k=>
   refine fC (m9 rfl ha rfl hb) (aj (aQ (by repeat array_get_dec) (fun h=>absurd h (by decide)) fun _=>?_))
   refine aj (aQ (by repeat array_get_dec) (fun h=>absurd h (by decide)) fun _=>?_)
   refine aj (aQ (by repeat array_get_dec) (fun h=>?_) fun h=>?_)
   ·have hk:0<k:=by have:=of_decide_eq_true h;omega
    by_cases hg:st.2.2.1=[]∧st.2.2.2=[]
    ·have n1:cop .ne (.str st.2.2.1) (.str [])=some false:=by rw [iL,hg.1];rfl
     have n2:cop .ne (.str st.2.2.2) (.str [])=some false:=by rw [iL,hg.2];rfl
     refine aj (aQ (b:=false) (gu (aG rfl (by repeat array_get_dec) rfl) (aG rfl (by repeat array_get_dec) rfl)) (fun h=>absurd h (by decide)) fun _=>aF ?_)
     refine aj (bg (by repeat array_get_dec) rfl rfl (aF (aF (aF (aF ?_)))))
     rw [gg]
     refine ⟨iC,some (.val (.str dP)),some (.val (.int k)),.val,.val,?_⟩
     simp only [aX,if_pos hk,if_pos hg]
     rw [hg.1,hg.2];rfl
    ·have tt:aL (run F w (n+1)) (.orr (.cmp .ne (.v 3) (.c (.str []))) (.cmp .ne (.v 4) (.c (.str [])))) [some (.val (aJ c)),some (.own (st.1.map Pt.v)),some (.val (.int st.2.1)),some (.val (.str st.2.2.1)),some (.val (.str st.2.2.2)),some (.val (.str dP)),some (.val (.int k))]=.ok true [some (.val (aJ c)),some (.own (st.1.map Pt.v)),some (.val (.int st.2.1)),some (.val (.str st.2.2.1)),some (.val (.str st.2.2.2)),some (.val (.str dP)),some (.val (.int k))]:=by
      by_cases h3:st.2.2.1=[]
      ·have h4:¬ st.2.2.2=[]:=fun z=>hg ⟨h3,z⟩
       have n1:cop .ne (.str st.2.2.1) (.str [])=some false:=by rw [iL,h3];rfl
       have n2:cop .ne (.str st.2.2.2) (.str [])=some true:=by rw [iL,decide_eq_false h4];rfl
       exact gu (aG rfl (by repeat array_get_dec) rfl) (aG rfl (by repeat array_get_dec) rfl)
      ·have n1:cop .ne (.str st.2.2.1) (.str [])=some true:=by rw [iL,decide_eq_false h3];rfl
       exact pH (aG rfl (by repeat array_get_dec) rfl)
     refine aj (aQ tt (fun _=>?_) fun h=>absurd h (by decide))
     refine aj (gh (by (repeat (first | array_get_dec | exact rs _ | exact ex _))) ?_)
     refine aj (bg (by repeat array_get_dec) rfl rfl ?_)
     refine aj (bg (by repeat array_get_dec) rfl rfl ?_)
     refine aj (bg (by repeat array_get_dec) rfl rfl (aF ?_))
     refine aj (bg (by repeat array_get_dec) rfl rfl (aF (aF (aF (aF ?_)))))
     rw [gg]
     refine ⟨iC,some (.val (.str dP)),some (.val (.int k)),.val,.val,?_⟩
     simp only [aX,if_pos hk,if_neg hg]
     rw [Int.zero_add];rfl
   ·have hk:¬ 0<k:=by have:=of_decide_eq_false h;omega
    refine aF (aF (aF (aF ?_)))
    rw [gg]
    refine ⟨iC,some (.val (.str dP)),some (.val (.int k)),.val,.val,?_⟩
    simp only [aX,if_neg hk];rfl
 ·subst hfr
  simp at hpl
  subst hpl
  obtain ⟨b1,b2,b3⟩:=ur p dQ
  have e:av p=b9 (p.foldl aX dQ):=rfl
  rw [e]
  generalize p.foldl aX dQ=st at *
  simp [dQ] at b1 b2 b3
  have sl:=jQ st.2.1 st.2.2.1 st.2.2.2
  have rs:=fun fr=>fO (fr:=fr) (nL (w:=w) (n:=n) hs st.2.1 st.2.2.1 st.2.2.2)
  have ex:=fun fr=>ext st fr (by omega)
  have mk:toT (.lst ((b9 st).map Pt.v))=some (aJ (b9 st)):=by rw [wA];exact iS (bZ (by simp [b9];omega))
  refine aj (gh (by (repeat (first | array_get_dec | exact rs _ | exact ex _))) ?_)
  exact aj (bX (sI (aB rfl) mk) ⟨rfl,rfl⟩)
end Pv
namespace Pv
open Ev (D bV bQ TY BI ME T E Es Eo It S Ss Fn big deep b2i rep cB er bN aS cut cT ef slots)
section
variable {o:Option Sl}{l:List V}{fr:Fr}{i:Nat}{s:Sl}
end
inductive Tq where
 | at (i:Nat) | sg (c:Nat)
deriving DecidableEq
noncomputable def Pt.asks:Pt→List (List Nat)
 | .keep n=>List.replicate n []
 | .drop s=>s.map fun c=>[c]
 | .put _=>[]
noncomputable def asks (c:List Pt):List (List Nat):=c.flatMap Pt.asks
noncomputable def Pt.told (k:Nat):Pt→List Tq
 | .keep n=>(List.range n).map fun j=>.at (k+j)
 | .drop _=>[]
 | .put s=>s.map .sg
noncomputable def told (k:Nat):List Pt→List Tq
 | []=>[]
 | p :: c=>p.told k++told (k+p.asks.length) c
theorem dI (a b:List Pt):asks (a++b)=asks a++asks b:=by simp [asks]
theorem fY (a b:List Pt):∀ k,told k (a++b)=told k a++told (k+(asks a).length) b:=by
 induction a with
 | nil=>intro k;simp [told,asks]
 | cons p a ih=>
  intro k
  simp only [List.cons_append,told,ih,List.append_assoc]
  congr 3
  simp [asks];omega
theorem Dg (p:Pt):p.asks.length≤p.n:=by cases p <;> simp [Pt.asks,Pt.n]
theorem Dh (k:Nat) (p:Pt):(p.told k).length≤p.n:=by cases p <;> simp [Pt.told,Pt.n]
theorem IC (c:List Pt):(asks c).length≤tot c:=by
 induction c with
 | nil=>simp [asks]
 | cons p c ih=>have:=Dg p;simp only [asks,List.flatMap_cons,List.length_append,bI] at *;omega
theorem ID (c:List Pt):∀ k,(told k c).length≤tot c:=by
 induction c with
 | nil=>intro k;simp [told]
 | cons p c ih=>intro k;have:=Dh k p;have:=ih (k+p.asks.length);simp only [told,List.length_append,bI];omega
noncomputable def g9 (c:List Pt):List (List Nat)×List Tq:=(asks c,told 0 c)
noncomputable def Pt.word:Pt→List Nat
 | .keep _=>dP
 | .put _=>jO
 | .drop _=>jg
noncomputable def dR (a b:List Nat):Bool:=!(decide (a=b) || (decide (a=jO)&&decide (b=jg)))
noncomputable def gG:List (List Nat)→Bool
 | a :: b :: r=>dR a b&&gG (b :: r)
 | _=>true
noncomputable def AD (p:Pt):Bool:=p.n != 0
noncomputable def dN (c:List Pt):Bool:=gG (c.map Pt.word)&&c.all AD
theorem eZ (k:Nat) (g x:List Nat):asks (bD k g x)=List.replicate k []++g.map fun c=>[c]:=by
  unfold bD
  by_cases hk:0<k <;> by_cases hg:g=[] <;> by_cases hx:x=[] <;> simp [hk,hg,hx,asks,Pt.asks]
  all_goals (have:k=0:=by omega
             subst this;simp)
theorem ig (k:Nat) (g x:List Nat) (j:Nat):told j (bD k g x)=(List.range k).map (fun i=>Tq.at (j+i))++x.map Tq.sg:=by
  unfold bD
  by_cases hk:0<k <;> by_cases hg:g=[] <;> by_cases hx:x=[] <;> simp [hk,hg,hx,told,Pt.told,Pt.asks]
  all_goals (have:k=0:=by omega
             subst this;simp)
theorem yp (st:FS) (p:Pt):asks (b9 (aX st p))=asks (b9 st++[p])∧∀ j,told j (b9 (aX st p))=told j (b9 st++[p]):=by
 obtain ⟨ps,k,g,x⟩:=st
 have e1:∀ a:List Pt,asks (a++[p])=asks a++p.asks:=fun a=>by simp [asks]
 have e2:∀ (a:List Pt) j,told j (a++[p])=told j a++p.told (j+(asks a).length):=fun a j=>by simp [fY,told]
 rw [e1]
 cases p with
 | drop s=>
  refine ⟨by simp [aX,b9,dI,eZ,Pt.asks],fun j=>?_⟩
  rw [e2]
  simp [aX,b9,fY,ig,Pt.told]
 | put s=>
  refine ⟨by simp [aX,b9,dI,eZ,Pt.asks],fun j=>?_⟩
  rw [e2]
  simp [aX,b9,fY,ig,Pt.told]
 | keep m=>
  simp only [aX]
  split
  ·split
   ·rename_i h
    obtain ⟨rfl,rfl⟩:=h
    refine ⟨by simp [b9,dI,eZ,Pt.asks],fun j=>?_⟩
    rw [e2]
    simp [b9,dI,fY,ig,eZ,Pt.told,List.range_add,Nat.add_assoc]
   ·refine ⟨by simp [b9,dI,eZ,Pt.asks],fun j=>?_⟩
    rw [e2]
    simp [b9,dI,fY,ig,eZ,Pt.told,Nat.add_assoc]
  ·rename_i h
   have:m=0:=by omega
   subst this
   refine ⟨by simp [Pt.asks],fun j=>?_⟩
   rw [e2]
   simp [Pt.told]
theorem pK (c:List Pt):∀ st:FS,asks (b9 (c.foldl aX st))=asks (b9 st++c)∧∀ j,told j (b9 (c.foldl aX st))=told j (b9 st++c):=by
 induction c with
 | nil=>intro st;simp
 | cons p c ih=>
  intro st
  obtain ⟨h1,h2⟩:=ih (aX st p)
  obtain ⟨h3,h4⟩:=yp st p
  simp only [List.foldl_cons]
  have e:b9 st++p :: c=(b9 st++[p])++c:=by simp
  refine ⟨?_,fun j=>?_⟩
  ·rw [h1,e,dI,dI _ c,h3]
  ·rw [h2 j,e,fY,fY _ c,h4 j,h3]
theorem eO (c:List Pt):asks (av c)=asks c:=by
 have:=(pK c dQ).1
 simpa [av,dQ,b9,bD] using this
theorem bU (c:List Pt) (j:Nat):told j (av c)=told j c:=by
 have:=(pK c dQ).2 j
 simpa [av,dQ,b9,bD] using this
theorem kJ (c:List Pt):g9 (av c)=g9 c:=by simp [g9,eO,bU]
noncomputable def kps (c:List Pt):Nat:=tot (c.filter eY)
theorem kK (c:List Pt):(asks c).length=aM c:=by
 induction c with
 | nil=>rfl
 | cons p c ih=>cases p <;> simp [asks,aM,tot,cH,Pt.asks,Pt.n] at ih ⊢ <;> omega
theorem kL (c:List Pt):∀ j,(told j c).length=bY c:=by
 induction c with
 | nil=>intro j;rfl
 | cons p c ih=>intro j;cases p <;> simp [told,bY,tot,dM,Pt.told,Pt.n,ih] at ih ⊢
theorem kM (n:Nat) (c:List Pt):aM (.keep n :: c)=n+aM c:=by simp [aM,tot,cH,Pt.n]
theorem nc (s:List Nat) (c:List Pt):aM (.drop s :: c)=s.length+aM c:=by simp [aM,tot,cH,Pt.n]
theorem jH (s:List Nat) (c:List Pt):aM (.put s :: c)=aM c:=by simp [aM,tot,cH,Pt.n]
theorem sM (n:Nat) (c:List Pt):bY (.keep n :: c)=n+bY c:=by simp [bY,tot,dM,Pt.n]
theorem yq (s:List Nat) (c:List Pt):bY (.drop s :: c)=bY c:=by simp [bY,tot,dM,Pt.n]
theorem yr (s:List Nat) (c:List Pt):bY (.put s :: c)=s.length+bY c:=by simp [bY,tot,dM,Pt.n]
theorem Fg (n:Nat) (c:List Pt):cst (.keep n :: c)=cst c:=by simp [cst,tot,eY,Pt.n]
theorem Fi (s:List Nat) (c:List Pt):cst (.drop s :: c)=s.length+cst c:=by simp [cst,tot,eY,Pt.n]
theorem Fj (s:List Nat) (c:List Pt):cst (.put s :: c)=s.length+cst c:=by simp [cst,tot,eY,Pt.n]
theorem Fp (n:Nat) (c:List Pt):kps (.keep n :: c)=n+kps c:=by simp [kps,tot,List.filter_cons,eY,Pt.n]
theorem Fq (s:List Nat) (c:List Pt):kps (.drop s :: c)=kps c:=by simp [kps,tot,eY,Pt.n]
theorem Ft (s:List Nat) (c:List Pt):kps (.put s :: c)=kps c:=by simp [kps,tot,eY,Pt.n]
noncomputable def isAt:Tq→Bool
 | .at _=>true
 | _=>false
theorem AE (c:List Pt):∀ j,((told j c).filter isAt).length=kps c:=by
 induction c with
 | nil=>intro j;rfl
 | cons p c ih=>
  intro j
  have e1:∀ (m:Nat) (f:Nat→Nat),(((List.range m).map fun i=>Tq.at (f i)).filter isAt).length=m:=fun m f=>by
   rw [List.filter_eq_self.mpr]
   ·simp
   ·intro a ha;obtain ⟨i,_,rfl⟩:=List.mem_map.mp ha;rfl
  have e2:∀ s:List Nat,((s.map Tq.sg).filter isAt).length=0:=fun s=>by
   rw [List.filter_eq_nil_iff.mpr]
   ·rfl
   ·intro a ha;obtain ⟨i,_,rfl⟩:=List.mem_map.mp ha;simp [isAt]
  cases p with
  | keep m=>simp only [told,Pt.told,List.filter_append,List.length_append,e1,ih,kps,tot,eY,List.filter_cons,if_true,List.map_cons,List.sum_cons,Pt.n]
  | put s=>simp only [told,Pt.told,List.filter_append,List.length_append,e2,ih,kps,eY,List.filter_cons];simp
  | drop s=>simp only [told,Pt.told,List.filter_append,List.length_append,ih,kps,eY,List.filter_cons];simp
theorem AF (c:List Pt):(cst c:Int)=aM c - kps c+bY c - kps c:=by
 induction c with
 | nil=>rfl
 | cons p c ih=>cases p <;> simp only [Fg,Fi,Fj,kM,nc,jH,sM,yq,yr,Fp,Fq,Ft] <;> omega
theorem AG (c:List Pt):tot c+kps c=aM c+bY c:=by
 induction c with
 | nil=>rfl
 | cons p c ih=>cases p <;> simp only [bI,Pt.n,kM,nc,jH,sM,yq,yr,Fp,Fq,Ft] <;> omega
theorem iD (c:List Pt):aM (av c)=aM c:=by rw [←kK,←kK,eO]
theorem nX (c:List Pt):bY (av c)=bY c:=by rw [←kL _ 0,←kL _ 0,bU]
theorem uv (c:List Pt):kps (av c)=kps c:=by rw [←AE _ 0,←AE _ 0,bU]
theorem kN (c:List Pt):cst (av c)=cst c:=by
 have h1:=AF (av c)
 have h2:=AF c
 rw [iD,nX,uv] at h1
 omega
theorem cJ (c:List Pt):tot (av c)=tot c:=by
 have h1:=AG (av c)
 have h2:=AG c
 rw [iD,nX,uv] at h1
 omega
theorem qF:∀ (a:List (List Nat)) (b:List (List Nat)),gG (a++b)=true↔gG a=true∧gG b=true∧∀ x∈a.getLast?,∀ y∈b.head?,dR x y=true
 | [],b=>by simp [gG]
 | [x],[]=>by simp [gG]
 | [x],y :: b=>by simp [gG,and_comm]
 | x :: y :: a,b=>by
  have:=qF (y :: a) b
  simp only [List.cons_append] at this ⊢
  simp only [gG,Bool.and_eq_true,this,List.getLast?_cons_cons]
  constructor
  ·rintro ⟨h1,h2,h3,h4⟩;exact ⟨⟨h1,h2⟩,h3,h4⟩
  ·rintro ⟨⟨h1,h2⟩,h3,h4⟩;exact ⟨h1,h2,h3,h4⟩
theorem vn (k:Nat) (g x:List Nat):dN (bD k g x)=true:=by
 unfold bD
 by_cases hk:0<k <;> by_cases hg:g=[] <;> by_cases hx:x=[] <;> simp [hk,hg,hx,dN,AD,gG,dR,Pt.word,Pt.n,dP,jO,jg]
 all_goals omega
noncomputable def uw (st:FS):Prop:=dN st.1=true∧(st.1≠[]→0<st.2.1)∧∀ p∈st.1.getLast?,p.word≠dP
theorem nh {a b:List Pt}(ha:dN a=true) (hb:dN b=true) (h:∀ p∈a.getLast?,∀ q∈b.head?,dR p.word q.word=true):dN (a++b)=true:=by
 simp only [dN,Bool.and_eq_true] at ha hb ⊢
 refine ⟨?_,by rw [List.all_append,ha.2,hb.2];rfl⟩
 rw [List.map_append,qF]
 refine ⟨ha.1,hb.1,fun x hx y hy=>?_⟩
 simp at hx hy
 obtain ⟨p,hp,rfl⟩:=hx
 obtain ⟨q,hq,rfl⟩:=hy
 exact h p hp q hq
theorem ux {k:Nat}{g x:List Nat}(hk:0<k):(bD k g x).head?=some (.keep k):=by simp [bD,hk]
theorem IE {w:List Nat}(h:w≠dP) (hw:w=jO∨w=jg):dR w dP=true:=by
 rcases hw with rfl | rfl <;> decide
theorem IF (p:Pt):p.word=dP∨p.word=jO∨p.word=jg:=by cases p <;> simp [Pt.word]
theorem uy {st:FS}(h:uw st):dN (b9 st)=true:=by
 refine nh h.1 (vn _ _ _) fun p hp q hq=>?_
 have hne:st.1≠[]:=by intro z;rw [z] at hp;simp at hp
 rw [ux (h.2.1 hne)] at hq
 simp at hq;subst hq
 have hw:=h.2.2 p hp
 exact IE hw ((IF p).resolve_left hw)
theorem uz {k:Nat}{g x:List Nat}(h:¬ (g=[]∧x=[])):∀ p∈(bD k g x).getLast?,p.word≠dP:=by
 unfold bD
 by_cases hx:x=[]
 ·have hg:g≠[]:=fun z=>h ⟨z,hx⟩
  intro p hp
  simp [hg,hx] at hp
  subst hp
  simp [Pt.word,jg,dP]
 ·intro p hp
  simp [hx] at hp
  subst hp
  simp [Pt.word,jO,dP]
theorem AH {st:FS}(h:uw st) (p:Pt):uw (aX st p):=by
 cases p with
 | drop s=>exact h
 | put s=>exact h
 | keep k=>
  simp only [aX]
  split
  ·rename_i hk
   split
   ·exact ⟨h.1,fun z=>by simp;omega,h.2.2⟩
   ·rename_i RT
    refine ⟨uy h,fun _=>hk,fun p hp=>?_⟩
    rw [List.getLast?_append] at hp
    cases z:(bD st.2.1 st.2.2.1 st.2.2.2).getLast? with
    | none=>
     exfalso
     rw [List.getLast?_eq_none_iff] at z
     unfold bD at z
     by_cases hx:st.2.2.2=[] <;> by_cases hg:st.2.2.1=[] <;> simp [hx,hg] at z RT
    | some q=>
     rw [z] at hp
     simp at hp
     subst hp
     exact uz RT q z
  ·exact h
theorem b6 (c:List Pt):dN (av c)=true:=by
 have:∀ (c:List Pt) (st:FS),uw st→uw (c.foldl aX st):=fun c=>by
  induction c with
  | nil=>exact fun st h=>h
  | cons p c ih=>exact fun st h=>ih _ (AH h p)
 exact uy (this c dQ ⟨rfl,fun z=>absurd rfl z,fun p hp=>by simp [dQ] at hp⟩)
end Pv
namespace Pv
open Ev (D bV bQ TY BI ME T E Es Eo It S Ss Fn big deep b2i rep cB er bN aS cut cT ef slots)
abbrev Bl:=List Nat×List Nat
abbrev BS:=List Bl×Bl
noncomputable def eg (st:BS):Pt→BS
 | .drop s=>(st.1,(st.2.1++s,st.2.2))
 | .put s=>(st.1,(st.2.1,st.2.2++s))
 | .keep 0=>st
 | .keep (n+1)=>(st.1++st.2 :: List.replicate n ([],[]),([],[]))
noncomputable def nM:BS:=([],([],[]))
noncomputable def blocks (c:List Pt):BS:=c.foldl eg nM
noncomputable def j9 (st:List Pt×Nat) (b:Bl):List Pt×Nat:=if b.1=[]∧b.2=[] then (st.1,st.2+1) else (st.1++bD st.2 b.1 b.2,1)
noncomputable def pk (bs:List Bl):List Pt×Nat:=bs.foldl j9 ([],0)
theorem Di (n:Nat):∀ st:List Pt×Nat,(List.replicate n (([],[]):Bl)).foldl j9 st=(st.1,st.2+n):=by
 induction n with
 | zero=>intro st;simp
 | succ n ih=>intro st;simp [List.replicate_succ,j9,ih];omega
noncomputable def wF (st:BS):FS:=((pk st.1).1,(pk st.1).2,st.2.1,st.2.2)
theorem Dk (st:BS) (p:Pt):aX (wF st) p=wF (eg st p):=by
 obtain ⟨bs,g,x⟩:=st
 cases p with
 | drop s=>rfl
 | put s=>rfl
 | keep n=>
  cases n with
  | zero=>rfl
  | succ n=>
   have e:pk (bs++(g,x) :: List.replicate n ([],[]))=((j9 (pk bs) (g,x)).1,(j9 (pk bs) (g,x)).2+n):=by
    simp only [pk,List.foldl_append,List.foldl_cons,Di]
   simp only [wF,eg,e,aX,Nat.succ_pos,if_true,j9]
   by_cases h:g=[]∧x=[]
   ·simp [h];omega
   ·simp [h];omega
theorem Dm (c:List Pt):∀ st:BS,c.foldl aX (wF st)=wF (c.foldl eg st):=by
 induction c with
 | nil=>intro st;rfl
 | cons p c ih=>intro st;simp only [List.foldl_cons,Dk,ih]
theorem iN (c:List Pt):av c=b9 (wF (blocks c)):=by
 unfold av blocks
 rw [←Dm];rfl
noncomputable def AI (st:List (List Nat)×List Nat):List Nat→List (List Nat)×List Nat
 | []=>(st.1++[st.2],[])
 | c :: _=>(st.1,st.2++[c])
noncomputable def spT (st:List (List Nat)×List Nat):Tq→List (List Nat)×List Nat
 | .at _=>(st.1++[st.2],[])
 | .sg c=>(st.1,st.2++[c])
theorem AJ (s:List Nat):∀ st,(s.map fun c=>[c]).foldl AI st=(st.1,st.2++s):=by
 induction s with
 | nil=>intro st;simp
 | cons c s ih=>intro st;simp [AI,ih]
theorem Dn (n:Nat):∀ st,(List.replicate n []).foldl AI st=if n=0 then st else (st.1++st.2 :: List.replicate (n - 1) [],[]):=by
 induction n with
 | zero=>intro st;rfl
 | succ n ih=>
  intro st
  simp only [List.replicate_succ,List.foldl_cons,AI,ih]
  cases n with
  | zero=>simp
  | succ n=>simp [List.replicate_succ]
theorem AK (s:List Nat):∀ st,(s.map Tq.sg).foldl spT st=(st.1,st.2++s):=by
 induction s with
 | nil=>intro st;simp
 | cons c s ih=>intro st;simp [spT,ih]
theorem Dp (n:Nat):∀ (k:Nat) st,((List.range n).map fun j=>Tq.at (k+j)).foldl spT st=if n=0 then st else (st.1++st.2 :: List.replicate (n - 1) [],[]):=by
 induction n with
 | zero=>intro k st;rfl
 | succ n ih=>
  intro k st
  rw [List.range_succ,List.map_append,List.foldl_append,ih]
  cases n with
  | zero=>simp [spT]
  | succ n=>
   simp [spT]
   rw [←List.replicate_succ',List.replicate_succ]
theorem pL (c:List Pt):∀ st:BS,(asks c).foldl AI (st.1.map Prod.fst,st.2.1)=((c.foldl eg st).1.map Prod.fst,(c.foldl eg st).2.1):=by
 induction c with
 | nil=>intro st;rfl
 | cons p c ih=>
  intro st
  have e:asks (p :: c)=p.asks++asks c:=by simp [asks]
  rw [e,List.foldl_append,List.foldl_cons,←ih]
  congr 1
  cases p with
  | drop s=>simp [Pt.asks,AJ,eg]
  | put s=>simp [Pt.asks,eg]
  | keep n=>
   simp only [Pt.asks,Dn]
   cases n with
   | zero=>rfl
   | succ n=>simp [eg]
theorem pM (c:List Pt):∀ (k:Nat) (st:BS),(told k c).foldl spT (st.1.map Prod.snd,st.2.2)=((c.foldl eg st).1.map Prod.snd,(c.foldl eg st).2.2):=by
 induction c with
 | nil=>intro k st;rfl
 | cons p c ih=>
  intro k st
  rw [told,List.foldl_append,List.foldl_cons,←ih (k+p.asks.length)]
  congr 1
  cases p with
  | put s=>simp [Pt.told,AK,eg]
  | drop s=>simp [Pt.told,eg]
  | keep n=>
   simp only [Pt.told,Dp]
   cases n with
   | zero=>rfl
   | succ n=>simp [eg]
theorem wG {α β:Type}:∀ {a b:List (α×β)},a.map Prod.fst=b.map Prod.fst→a.map Prod.snd=b.map Prod.snd→a=b
 | [],[],_,_=>rfl
 | [],_ :: _,h,_=>by simp at h
 | _ :: _,[],h,_=>by simp at h
 | (x,y) :: a,(x',y') :: b,h1,h2=>by
  simp at h1 h2
  rw [h1.1,h2.1,wG h1.2 h2.2]
theorem mH {a b:List Pt}(h:g9 a=g9 b):blocks a=blocks b:=by
 have hA:asks a=asks b:=congrArg Prod.fst h
 have hT:told 0 a=told 0 b:=congrArg Prod.snd h
 have a1:=pL a nM
 have b1:=pL b nM
 have a2:=pM a 0 nM
 have b2:=pM b 0 nM
 rw [hA,b1] at a1
 rw [hT,b2] at a2
 have e1:=congrArg Prod.fst a1
 have e2:=congrArg Prod.snd a1
 have e3:=congrArg Prod.fst a2
 have e4:=congrArg Prod.snd a2
 unfold blocks
 exact Prod.ext (wG e1.symm e3.symm) (Prod.ext e2.symm e4.symm)
theorem gH (a b:List Pt):av a=av b↔g9 a=g9 b:=by
 constructor
 ·intro h
  rw [←kJ a,←kJ b,h]
 ·intro h
  rw [iN,iN,mH h]
theorem fk (a:List Pt):av (av a)=av a:=(gH _ _).mpr (kJ a)
noncomputable def Pt.sw:Pt→Pt
 | .keep n=>.keep n
 | .put s=>.drop s
 | .drop s=>.put s
noncomputable def sw (c:List Pt):List Pt:=c.map Pt.sw
theorem rO (c:List Pt):∀ st:BS,(sw c).foldl eg (st.1.map Prod.swap,st.2.swap)=((c.foldl eg st).1.map Prod.swap,(c.foldl eg st).2.swap):=by
 induction c with
 | nil=>intro st;rfl
 | cons p c ih=>
  intro st
  simp only [sw,List.map_cons,List.foldl_cons] at ih ⊢
  rw [←ih]
  congr 1
  cases p with
  | put s=>rfl
  | drop s=>rfl
  | keep n=>cases n <;> simp [Pt.sw,eg]
theorem IG {a b:List Pt}(h:av a=av b):av (sw a)=av (sw b):=by
 have hb:=mH ((gH a b).mp h)
 rw [iN,iN]
 have a1:=rO a nM
 have b1:=rO b nM
 have e:blocks (sw a)=blocks (sw b):=by
  unfold blocks at hb ⊢
  have z:((nM.1.map Prod.swap,nM.2.swap):BS)=nM:=rfl
  rw [z] at a1 b1
  rw [a1,b1,hb]
 rw [e]
noncomputable def Vf (c:List Pt):List Pt:=av (sw c)
theorem MF (c:List Pt):aM (sw c)=bY c:=by
 induction c with
 | nil=>rfl
 | cons p c ih=>cases p <;> simp only [sw,List.map_cons,Pt.sw,kM,nc,jH,sM,yq,yr] at ih ⊢ <;> omega
noncomputable def aP:List Pt→List Nat→Bool
 | [],t=>t.isEmpty
 | .keep n :: c,t=>decide (n≤t.length)&&aP c (t.drop n)
 | .drop s :: c,t=>s.isPrefixOf t&&aP c (t.drop s.length)
 | .put _ :: c,t=>aP c t
noncomputable def aN:List Pt→List Nat→List Nat
 | [],_=>[]
 | .keep n :: c,t=>t.take n++aN c (t.drop n)
 | .drop s :: c,t=>aN c (t.drop s.length)
 | .put s :: c,t=>s++aN c t
noncomputable def aT:List (List Nat)→List Nat→Bool
 | [],[]=>true
 | x :: a,c :: t=>(decide (x=[]) || decide (x=[c]))&&aT a t
 | _,_=>false
theorem AL (n:Nat) (a:List (List Nat)):∀ t,aT (List.replicate n []++a) t=(decide (n≤t.length)&&aT a (t.drop n)):=by
 induction n with
 | zero=>intro t;simp
 | succ n ih=>
  intro t
  cases t with
  | nil=>simp [List.replicate_succ,aT]
  | cons c t=>simp [List.replicate_succ,aT,ih]
theorem AM (s:List Nat) (a:List (List Nat)):∀ t,aT ((s.map fun c=>[c])++a) t=(s.isPrefixOf t&&aT a (t.drop s.length)):=by
 induction s with
 | nil=>intro t;simp
 | cons c s ih=>
  intro t
  cases t with
  | nil=>simp [aT]
  | cons d t=>
   simp only [List.map_cons,List.cons_append,aT,ih,List.isPrefixOf,List.length_cons,List.drop_succ_cons]
   by_cases h:c=d <;> simp [h]
theorem eS (c:List Pt):∀ t,aP c t=aT (asks c) t:=by
 induction c with
 | nil=>intro t;cases t <;> rfl
 | cons p c ih=>
  intro t
  have e:asks (p :: c)=p.asks++asks c:=by simp [asks]
  rw [e]
  cases p with
  | keep n=>simp [aP,Pt.asks,AL,ih]
  | drop s=>simp [aP,Pt.asks,AM,ih]
  | put s=>simp [aP,Pt.asks,ih]
theorem iE (c:List Pt) (t:List Nat):aP (av c) t=aP c t:=by rw [eS,eS,eO]
noncomputable def pick (t:List Nat):Tq→List Nat
 | .at i=>(t[i]?).toList
 | .sg c=>[c]
theorem AN (c:List Pt):∀ (t:List Nat) (k:Nat),aN c (t.drop k)=(told k c).flatMap (pick t):=by
 induction c with
 | nil=>intro t k;rfl
 | cons p c ih=>
  intro t k
  rw [told,List.flatMap_append,←ih]
  cases p with
  | put s=>
   simp only [aN,Pt.told,Pt.asks,List.length_nil,Nat.add_zero]
   congr 1
   induction s with
   | nil=>rfl
   | cons c s ih=>simp [pick] at ih ⊢;exact ih
  | drop s=>simp [aN,Pt.told,Pt.asks,Nat.add_comm]
  | keep n=>
   simp only [aN,Pt.told,Pt.asks,List.length_replicate,List.drop_drop]
   congr 1
   induction n generalizing k with
   | zero=>simp
   | succ n ihn=>
    rw [List.range_succ,List.map_append,List.flatMap_append,←ihn]
    rw [List.take_add_one]
    simp [pick]
theorem eT (c:List Pt) (t:List Nat):aN (av c) t=aN c t:=by
 have h1:=AN (av c) t 0
 have h2:=AN c t 0
 rw [bU,←h2] at h1
 simpa using h1
theorem Dq (c:List Pt):∀ t,aP c t=true→aP (sw c) (aN c t)=true∧aN (sw c) (aN c t)=t:=by
 induction c with
 | nil=>intro t h;simp [aP] at h;subst h;simp [sw,aP,aN]
 | cons p c ih=>
  intro t h
  cases p with
  | keep n=>
   simp only [aP,Bool.and_eq_true,decide_eq_true_eq] at h
   obtain ⟨h1,h2⟩:=ih _ h.2
   have hl:(t.take n).length=n:=by simp;omega
   simp only [sw,List.map_cons,Pt.sw,aN,aP] at h1 h2 ⊢
   have e1:(t.take n++aN c (t.drop n)).drop n=aN c (t.drop n):=by rw [List.drop_append_of_le_length (by omega),List.drop_eq_nil_of_le (by omega)];rfl
   have e2:(t.take n++aN c (t.drop n)).take n=t.take n:=by rw [List.take_append_of_le_length (by omega),List.take_take,Nat.min_self]
   rw [e1,e2,h1,h2]
   simp
   omega
  | drop s=>
   simp only [aP,Bool.and_eq_true] at h
   obtain ⟨h1,h2⟩:=ih _ h.2
   simp only [sw,List.map_cons,Pt.sw,aN,aP] at h1 h2 ⊢
   rw [h2]
   refine ⟨h1,?_⟩
   obtain ⟨r,rfl⟩:=List.isPrefixOf_iff_prefix.mp h.1
   simp
  | put s=>
   simp only [aP] at h
   obtain ⟨h1,h2⟩:=ih _ h
   simp only [sw,List.map_cons,Pt.sw,aN,aP] at h1 h2 ⊢
   simp [h1,h2]
end Pv
namespace Pv
open Ev (D bV bQ TY BI ME T E Es Eo It S Ss Fn big deep b2i rep cB er bN aS cut cT ef slots)
noncomputable def Dr:S:=.set 2 (.c (.int 0))
noncomputable def Ds (bz:Nat):Ss:=(.cons (.iff (.an (.cmp .eq (.ix (.v 3) (.c (.int 0))) (.c (.str [100,114,111,112]))) (.cmp .ne (.sl (.v 1) (.yes (.v 2)) (.yes (.bin .add (.v 2) (.cl bz (.cons (.v 3) .nil))))) (.ix (.v 3) (.c (.int 1))))) (.cons (.ret (.c (.bl false))) .nil) .nil) (.cons (.iff (.cmp .ne (.ix (.v 3) (.c (.int 0))) (.c (.str [112,117,116]))) (.cons (.set 2 (.bin .add (.v 2) (.cl bz (.cons (.v 3) .nil)))) .nil) .nil) .nil))
noncomputable def Dt (bz:Nat):S:=.for (.one 3) (.seq (.v 0)) (Ds bz)
noncomputable def Du:S:=.ret (.cmp .eq (.v 2) (.bi .len (.cons (.v 1) .nil)))
noncomputable def AO (bz:Nat):Fn:=⟨2,4,(.cons Dr (.cons (Dt bz) (.cons Du .nil)))⟩
noncomputable def Dv (uA:Nat):S:=.iff (.nt (.cl uA (.cons (.v 0) (.cons (.v 1) .nil)))) (.cons (.fJ) .nil) .nil
noncomputable def Dy:S:=.set 2 (.lst .nil)
noncomputable def Dz:S:=.set 3 (.c (.int 0))
noncomputable def DA:Ss:=(.cons (.iff (.cmp .eq (.v 4) (.c (.str [112,117,116]))) (.cons (.exp (.me .append (.v 2) (.cons (.v 5) .nil))) .nil) (.cons (.iff (.cmp .eq (.v 4) (.c (.str [100,114,111,112]))) (.cons (.set 3 (.bin .add (.v 3) (.bi .len (.cons (.v 5) .nil)))) .nil) (.cons (.exp (.me .append (.v 2) (.cons (.sl (.v 1) (.yes (.v 3)) (.yes (.bin .add (.v 3) (.v 5)))) .nil))) (.cons (.set 3 (.bin .add (.v 3) (.v 5))) .nil))) .nil)) .nil)
noncomputable def DB:S:=.for (.many [4,5]) (.seq (.v 0)) DA
noncomputable def DC:S:=.ret (.me .join (.c (.str [])) (.cons (.v 2) .nil))
noncomputable def MG (uA:Nat):Fn:=⟨2,6,(.cons (Dv uA) (.cons Dy (.cons Dz (.cons DB (.cons DC .nil)))))⟩
noncomputable def vp (cS:Nat):S:=.ret (.cl cS (.cons (.tup (.cons (.tup (.cons (.c (.str [107,101,101,112])) (.cons (.v 0) .nil))) .nil)) .nil))
noncomputable def gR (cS:Nat):Fn:=⟨1,1,(.cons (vp cS) .nil)⟩
theorem AQ {α:Type}(l:List α) (p k:Nat):cut l (some (p:Int)) (some ((p:Int)+k))=(l.drop p).take k:=by
 have h1:¬ (p:Int)<0:=by omega
 have h2:¬ (p:Int)+k<0:=by omega
 have h3:((p:Int)+k).toNat=p+k:=by omega
 simp only [cut,aS,h1,h2,if_false,h3,Int.toNat_natCast]
 by_cases hp:p≤l.length
 ·rw [Nat.min_eq_left hp]
  by_cases hk:p+k≤l.length
  ·rw [Nat.min_eq_left hk];congr 1;omega
  ·rw [Nat.min_eq_right (by omega),List.take_of_length_le (by simp),List.take_of_length_le (by simp;omega)]
 ·have e1:min p l.length=l.length:=by omega
  rw [e1,List.drop_eq_nil_of_le (Nat.le_refl _),List.drop_eq_nil_of_le (by omega)]
  simp
theorem pre_take {s t:List Nat}:s.isPrefixOf t=decide (t.take s.length=s):=by
 cases h:s.isPrefixOf t with
 | true=>
  obtain ⟨r,rfl⟩:=List.isPrefixOf_iff_prefix.mp h
  simp
 | false=>
  symm
  rw [decide_eq_false_iff_not]
  intro e
  have:s.isPrefixOf t=true:=List.isPrefixOf_iff_prefix.mpr (by have z:=List.take_prefix s.length t;rw [e] at z;exact z)
  rw [h] at this;cases this
theorem iF (a b:List Pt):aM (a++b)=aM a+aM b:=by simp [aM,tot]
theorem MH (c:List Pt):aM c≤tot c:=by rw [←kK];exact IC c
theorem e8 {c:List Pt}:∀ {t:List Nat},aP c t=true→t.length=aM c:=by
 induction c with
 | nil=>intro t h;simp [aP] at h;subst h;rfl
 | cons p c ih=>
  intro t h
  cases p with
  | keep n=>simp only [aP,Bool.and_eq_true,decide_eq_true_eq] at h;have:=ih h.2;rw [kM];simp at this;omega
  | drop s=>
   simp only [aP,Bool.and_eq_true] at h
   have h2:=ih h.2
   obtain ⟨r,rfl⟩:=List.isPrefixOf_iff_prefix.mp h.1
   rw [nc];simp at h2 ⊢;omega
  | put s=>rw [jH];exact ih h
theorem nY (c:List Pt):∀ t,(aN c t).length≤t.length+tot c:=by
 induction c with
 | nil=>intro t;simp [aN]
 | cons p c ih=>
  intro t
  rw [bI]
  cases p with
  | keep n=>have:=ih (t.drop n);simp [aN,Pt.n] at this ⊢;omega
  | drop s=>have:=ih (t.drop s.length);simp [aN,Pt.n] at this ⊢;omega
  | put s=>have:=ih t;simp [aN,Pt.n] at this ⊢;omega
section
variable {F:List Fn}{w n aD uB aZ aR i:Nat}
theorem DE (c:List Pt) (t:List Nat) (q:Nat) (p:Pt) (l:List Pt) (h:aP c t=(decide (q≤t.length)&&aP (p :: l) (t.drop q))) :
  (dM p=true→(∃ s,p=.drop s∧(if (t.drop q).take s.length=s then aP c t=(decide (q+s.length≤t.length)&&aP l (t.drop (q+s.length))) else aP c t=false)))∧
  (dM p=false→aP c t=(decide (q+aM [p]≤t.length)&&aP l (t.drop (q+aM [p])))):=by
 cases p with
 | drop s=>
  refine ⟨fun _=>⟨s,rfl,?_⟩,fun z=>by simp [dM] at z⟩
  simp only [aP,pre_take,List.drop_drop] at h
  split
  ·rename_i hs
   rw [h]
   simp only [hs,decide_true,Bool.true_and]
   have hl:=congrArg List.length hs
   simp at hl
   by_cases hq:q≤t.length
   ·by_cases hq2:q+s.length≤t.length
    ·simp [hq,hq2]
    ·omega
   ·have:¬ q+s.length≤t.length:=by omega
    simp [hq,this]
  ·rename_i hs
   rw [h];simp [hs]
 | keep k=>
  refine ⟨fun z=>by simp [dM] at z,fun _=>?_⟩
  have e:aM [.keep k]=k:=by rw [kM];rfl
  rw [h,e]
  simp only [aP,List.drop_drop,List.length_drop]
  by_cases hq:q≤t.length
  ·by_cases hq2:q+k≤t.length
   ·have:k≤t.length - q:=by omega
    simp [hq,hq2,this]
   ·have:¬ k≤t.length - q:=by omega
    simp [hq2,this]
  ·have:¬ q+k≤t.length:=by omega
   simp [hq,this]
 | put s=>
  refine ⟨fun z=>by simp [dM] at z,fun _=>?_⟩
  have e:aM [.put s]=0:=by rw [jH];rfl
  rw [h,e]
  simp [aP]
theorem DF (hs:F[aD]?=some dJ) (hf:F[i]?=some (AO aD)) (c:List Pt) (t:List Nat) (h1:tot c≤10000) (h2:t.length≤10000):run F w (n+2) i [.val (aJ c),.val (.str t)]=some (.bl (aP c t),[]):=by
 refine cI hf rfl ?_
 refine aj (bg (by repeat array_get_dec) rfl rfl ?_)
 refine aj (pJ (vs:=c.map Pt.v) (j7 (m6 rfl) rfl) ?_)
 refine iA (e:=Pt.v) (fun p l fr=>p++l=c∧aP c t=(decide (aM p≤t.length)&&aP l (t.drop (aM p)))∧∃ a,vo a∧fr=[some (.val (aJ c)),some (.val (.str t)),some (.val (.int (aM p))),a]) (fun p x l fr ⟨hpl,hfit,a,ha,hfr⟩=>?_) (fun p fr ⟨hpl,hfit,a,ha,hfr⟩=>?_) c [] _ ⟨rfl,by simp [aM,tot],none,.none,rfl⟩
 ·subst hfr
  have uu:tot p+x.n+tot l=tot c:=by rw [←hpl,cO,bI];omega
  have sz:=fun fr=>cZ (fr:=fr) (iB (w:=w) (n:=n) hs x (by omega))
  obtain ⟨k1,k2⟩:=DE c t (aM p) x l hfit
  have iC:(p++[x])++l=c:=by simpa using hpl
  have eb:aM (p++[x])=aM p+aM [x]:=iF p [x]
  have ei:((aM (p++[x]):Nat):Int)=(aM p:Int)+(aM [x]:Nat):=by rw [eb];simp
  cases x with
  | drop s=>
   obtain ⟨s',e,k1⟩:=k1 rfl
   cases e
   have e2:aM [.drop s]=s.length:=by rw [nc];rfl
   rw [e2] at eb ei
   have cu:fR (.str t) (some (aM p:Int)) (some ((aM p:Int)+((Pt.drop s).n:Nat)))=some (.str ((t.drop (aM p)).take s.length)):=by rw [gQ];exact congrArg (fun z=>some (V.str z)) (AQ t (aM p) s.length)
   by_cases hx:(t.drop (aM p)).take s.length=s
   ·rw [if_pos hx] at k1
    have ne:cop .ne (.str ((t.drop (aM p)).take s.length)) (.str s)=some false:=by rw [iL,decide_eq_true hx];rfl
    refine fC (bind1 rfl ha) (aj (aQ (b:=false) (dw (b2:=false) (aG rfl (by repeat array_get_dec) rfl) (aG rfl (by (repeat (first | array_get_dec | exact sz _))) rfl)) (fun h=>absurd h (by decide)) fun _=>aF ?_))
    refine aj (aQ (by repeat array_get_dec) (fun _=>?_) fun h=>absurd h (by decide))
    refine aj (bg (by (repeat (first | array_get_dec | exact sz _))) rfl rfl (aF (aF ?_)))
    rw [gg]
    exact ⟨iC,by rw [eb];exact k1,some (.val (Pt.drop s).v),.val,by rw [ei];rfl⟩
   ·rw [if_neg hx] at k1
    have ne:cop .ne (.str ((t.drop (aM p)).take s.length)) (.str s)=some true:=by rw [iL,decide_eq_false hx];rfl
    refine fC (bind1 rfl ha) (aj (aQ (b:=true) (dw (b2:=true) (aG rfl (by repeat array_get_dec) rfl) (aG rfl (by (repeat (first | array_get_dec | exact sz _))) rfl)) (fun _=>?_) fun h=>absurd h (by decide)))
    refine aj (bX (by repeat array_get_dec) ?_)
    show nx _ _ _ _ _ _
    rw [k1];exact ⟨rfl,rfl⟩
  | keep k=>
   have k2:=k2 rfl
   have e2:aM [.keep k]=k:=by rw [kM];rfl
   rw [e2] at k2 eb ei
   refine fC (bind1 rfl ha) (aj (aQ (b:=false) (mD (aG rfl (by repeat array_get_dec) rfl)) (fun h=>absurd h (by decide)) fun _=>aF ?_))
   refine aj (aQ (by repeat array_get_dec) (fun _=>?_) fun h=>absurd h (by decide))
   refine aj (bg (by (repeat (first | array_get_dec | exact sz _))) rfl rfl (aF (aF ?_)))
   rw [gg]
   exact ⟨iC,by rw [eb];exact k2,some (.val (Pt.keep k).v),.val,by rw [ei];rfl⟩
  | put s=>
   have k2:=k2 rfl
   have e2:aM [.put s]=0:=by rw [jH];rfl
   rw [e2] at k2 eb
   refine fC (bind1 rfl ha) (aj (aQ (b:=false) (mD (aG rfl (by repeat array_get_dec) rfl)) (fun h=>absurd h (by decide)) fun _=>aF ?_))
   refine aj (aQ (by repeat array_get_dec) (fun h=>absurd h (by decide)) fun _=>aF (aF ?_))
   rw [gg]
   exact ⟨iC,by rw [eb];exact k2,some (.val (Pt.put s).v),.val,by rw [eb];rfl⟩
 ·subst hfr
  simp at hpl
  subst hpl
  have e:decide ((aM p:Int)=(t.length:Nat))=aP p t:=by
   rw [hfit]
   simp only [aP]
   by_cases hq:aM p=t.length
   ·have:(aM p:Int)=t.length:=by omega
    simp [this,hq]
   ·have:¬ (aM p:Int)=t.length:=by omega
    simp [this]
    intro h
    omega
  have ln:dz .len [.str t]=some (.int (t.length:Nat)):=len_str (by omega)
  have eq:cop .eq (.int (aM p)) (.int (t.length:Nat))=some (aP p t):=by rw [Mw,e]
  have sh:gf [some (.val (aJ p)),some (.val (.str t)),some (.val (.int (aM p))),a]=[some (.val (aJ p)),some (.val (.str t)),some (.val (.int (aM p))),a]:=by
   show _ :: _ :: _ :: [a.map Sl.gk]=_
   rw [fD ha];rfl
  refine aj (bX (v:=.bl (aP p t)) (ah:=[some (.val (aJ p)),some (.val (.str t)),some (.val (.int (aM p))),a]) ?_ ⟨rfl,rfl⟩)
  rw [sh]
  repeat array_get_dec
theorem DG (hs:F[aD]?=some dJ) (hf:F[uB]?=some (AO aD)) (hd:F[i]?=some (MG uB)) (c:List Pt) (t:List Nat) (h1:tot c≤10000) (h2:t.length≤10000) (h3:c.length≤10000) (h:aP c t=true):run F w (n+3) i [.val (aJ c),.val (.str t)]=some (.str (aN c t),[]):=by
 refine cI hd rfl ?_
 have ft:=fun fr=>call2 (fr:=fr) (DF (w:=w) (n:=n) hs hf c t h1 h2)
 rw [h] at ft
 refine aj (aQ (b:=false) (yk (aG (b:=true) rfl (by (repeat (first | array_get_dec | exact ft _))) rfl)) (fun h=>absurd h (by decide)) fun _=>aF ?_)
 refine aj (iT (l:=[]) (by repeat array_get_dec) rfl rfl ?_)
 refine aj (bg (by repeat array_get_dec) rfl rfl ?_)
 refine aj (pJ (vs:=c.map Pt.v) (j7 (m6 rfl) rfl) ?_)
 refine iA (e:=Pt.v) (fun p l fr=>p++l=c∧∃ ps a b,vo a∧vo b∧ps.length≤p.length∧ps.flatten++aN l (t.drop (aM p))=aN c t∧fr=[some (.val (aJ c)),some (.val (.str t)),some (.own (ps.map V.str)),some (.val (.int (aM p))),a,b]) (fun p x l fr ⟨hpl,ps,a,b,ha,hb,hl,hd,hfr⟩=>?_) (fun p fr ⟨hpl,ps,a,b,ha,hb,hl,hd,hfr⟩=>?_) c [] _ ⟨rfl,[],none,none,.none,.none,by simp,by simp [aM,tot],rfl⟩
 ·subst hfr
  have iC:(p++[x])++l=c:=by simpa using hpl
  have eb:aM (p++[x])=aM p+aM [x]:=iF p [x]
  have ei:((aM (p++[x]):Nat):Int)=(aM p:Int)+(aM [x]:Nat):=by rw [eb];simp
  have uu:tot p+x.n+tot l=tot c:=by rw [←hpl,cO,bI];omega
  have hlen:p.length+l.length+1=c.length:=by rw [←hpl];simp;omega
  have ap:∀ (fr:Fr) (z:List Nat),gi .append 2 [.str z] fr (some (some (.own (ps.map V.str))))=.ok .bH (fr.set 2 (some (.own ((ps++[z]).map V.str)))):=fun fr z=>by
   rw [List.map_append];exact j6 (by simp;omega)
  cases x with
  | put s=>
   have e2:aM [.put s]=0:=by rw [jH];rfl
   rw [e2] at eb
   refine fC (m9 rfl ha rfl hb) (aj (aQ (by repeat array_get_dec) (fun _=>?_) fun h=>absurd h (by decide)))
   refine aj (gh (by (repeat (first | array_get_dec | exact ap _ _))) (aF (aF ?_)))
   rw [gg]
   exact ⟨iC,ps++[s],some (.val (.str jO)),some (.val (.str s)),.val,.val,by simp;omega,by rw [eb];simpa [aN] using hd,by rw [eb];rfl⟩
  | drop s=>
   have e2:aM [.drop s]=s.length:=by rw [nc];rfl
   rw [e2] at eb ei
   have YT:s.length≤tot c:=by simp only [Pt.n] at uu;omega
   have ln:dz .len [.str s]=some (.int (s.length:Nat)):=len_str (by omega)
   refine fC (m9 rfl ha rfl hb) (aj (aQ (by repeat array_get_dec) (fun h=>absurd h (by decide)) fun _=>?_))
   refine aj (aQ (by repeat array_get_dec) (fun _=>?_) fun h=>absurd h (by decide))
   refine aj (bg (by repeat array_get_dec) rfl rfl (aF (aF (aF ?_))))
   rw [gg]
   exact ⟨iC,ps,some (.val (.str jg)),some (.val (.str s)),.val,.val,by simp;omega,by rw [eb];simpa [aN] using hd,by rw [ei];rfl⟩
  | keep k=>
   have e2:aM [.keep k]=k:=by rw [kM];rfl
   rw [e2] at eb ei
   have cu:fR (.str t) (some (aM p:Int)) (some ((aM p:Int)+(k:Nat)))=some (.str ((t.drop (aM p)).take k)):=by rw [gQ,AQ]
   refine fC (m9 rfl ha rfl hb) (aj (aQ (by repeat array_get_dec) (fun h=>absurd h (by decide)) fun _=>?_))
   refine aj (aQ (by repeat array_get_dec) (fun h=>absurd h (by decide)) fun _=>?_)
   refine aj (gh (by (repeat (first | array_get_dec | exact ap _ _))) ?_)
   refine aj (bg (by repeat array_get_dec) rfl rfl (aF (aF (aF ?_))))
   rw [gg]
   exact ⟨iC,ps++[(t.drop (aM p)).take k],some (.val (.str dP)),some (.val (.int k)),.val,.val,by simp;omega,by rw [eb];simpa [aN] using hd,by rw [ei];rfl⟩
 ·subst hfr
  simp at hpl
  subst hpl
  have hd':ps.flatten=aN p t:=by simpa [aN] using hd
  have dl:=nY p t
  have hj:=E9 (l:=ps) (by rw [hd'];omega)
  rw [hd'] at hj
  have sh:gf [some (.val (aJ p)),some (.val (.str t)),some (.own (ps.map V.str)),some (.val (.int (aM p))),a,b]=[some (.val (aJ p)),some (.val (.str t)),some (.val (.lst (ps.map V.str))),some (.val (.int (aM p))),a,b]:=by
   show _ :: _ :: _ :: _ :: a.map Sl.gk :: [b.map Sl.gk]=_
   rw [fD ha,fD hb];rfl
  refine aj (bX (v:=.str (aN p t)) (ah:=[some (.val (aJ p)),some (.val (.str t)),some (.val (.lst (ps.map V.str))),some (.val (.int (aM p))),a,b]) ?_ ⟨rfl,rfl⟩)
  rw [sh]
  repeat array_get_dec
theorem jR (hst:F[aR]?=some dj) (hf:F[aZ]?=some (fW aR)) (hu:F[i]?=some (gR aZ)) (m:Nat) (h:m≤10000):run F w (n+3) i [.val (.int m)]=some (aJ (av [.keep m]),[]):=
 cI hu rfl (aj (bX (aV (aC rfl (kI (bK (kI (bK (aY rfl) (bK (aB rfl) cF)) yd) cF) sF) aE) (cZ (gF hst hf [.keep m] (Nat.succ_le_of_lt (Nat.zero_lt_succ _)) h))) ⟨rfl,rfl⟩))
end
end Pv
namespace Pv
open Ev (rep)
theorem AR (ns:List Int) (at_:Int) (s:List Nat) (k:Nat):tot (jh ns at_ s k)≤3:=by
 have h1:=jA ns (at_+4*k+2) (many:=2) (by decide)
 have h2:=jz ns (at_+4*k+2) (many:=2) (by decide)
 unfold jh
 rw [cO]
 have a:tot (if cR ns (at_+4*k) 4=0 then [Pt.put (rep (1+cR ns (at_+4*k+2) 2).toNat [[97,98,122].getD (cR ns (at_+4*k+1) 3).toNat 0])] else [])≤2:=by
  split
  ·simp [tot,Pt.n,rep];omega
  ·simp [tot]
 cases s[k]? with
 | none=>simp [tot] at a ⊢;omega
 | some c=>
  have b:tot [if 0<cR ns (at_+4*k+3) 3 then Pt.keep 1 else Pt.drop [c]]≤1:=by split <;> simp [tot,Pt.n]
  simp only at b ⊢
  omega
theorem rP (ns:List Int) (at_:Int) (s:List Nat):∀ k,tot (fq ns at_ s k)≤3*k
 | 0=>by simp [fq,tot]
 | k+1=>by
  have h1:=AR ns at_ s k
  have h2:=rP ns at_ s k
  rw [ji,cO]
  omega
theorem nZ:∀ {a:List (List Nat)}{t:List Nat},aT a t=true→a.length=t.length
 | [],[],_=>rfl
 | x :: a,c :: t,h=>by simp [aT] at h;simp [nZ h.2]
 | [],_ :: _,h=>by simp [aT] at h
 | _ :: _,[],h=>by simp [aT] at h
theorem oh:∀ {a b:List (List Nat)}{t u:List Nat},aT a t=true→aT b u=true→aT (a++b) (t++u)=true
 | [],_,[],_,_,hb=>hb
 | x :: a,b,c :: t,u,ha,hb=>by
  simp only [aT,Bool.and_eq_true] at ha
  simp only [List.cons_append,aT,Bool.and_eq_true]
  exact ⟨ha.1,oh ha.2 hb⟩
 | [],_,_ :: _,_,ha,_=>by simp [aT] at ha
 | _ :: _,_,[],_,ha,_=>by simp [aT] at ha
theorem II (ns:List Int) (at_:Int) (s:List Nat) (k:Nat):aT (asks (jh ns at_ s k)) (s[k]?).toList=true:=by
 unfold jh
 rw [dI]
 have a:asks (if cR ns (at_+4*k) 4=0 then [Pt.put (rep (1+cR ns (at_+4*k+2) 2).toNat [[97,98,122].getD (cR ns (at_+4*k+1) 3).toNat 0])] else [])=[]:=by
  split <;> simp [asks,Pt.asks]
 rw [a]
 cases s[k]? with
 | none=>simp [asks,aT]
 | some c=>simp only;split <;> simp [asks,Pt.asks,aT]
theorem AS (ns:List Int) (at_:Int) (s:List Nat):∀ k,aT (asks (fq ns at_ s k)) (s.take k)=true
 | 0=>by simp [fq,asks,aT]
 | k+1=>by
  rw [ji,dI,List.take_add_one]
  exact oh (AS ns at_ s k) (II ns at_ s k)
theorem IJ (ns:List Int) (at_:Int) (s:List Nat):aP (chg ns at_ s) s=true:=by
 have:=AS ns at_ s (s.length+1)
 rw [List.take_of_length_le (by omega)] at this
 rw [eS];exact this
end Pv
namespace Pv
inductive At where
 | k | d (c:Nat) | p (c:Nat)
noncomputable def Pt.au:Pt→List At
 | .keep n=>List.replicate n .k
 | .drop s=>s.map .d
 | .put s=>s.map .p
noncomputable def au (c:List Pt):List At:=c.flatMap Pt.au
theorem di (a b:List Pt):au (a++b)=au a++au b:=by simp [au]
theorem bJ (p:Pt) (c:List Pt):au (p :: c)=p.au++au c:=by simp [au]
theorem uC (p:Pt):p.au.length=p.n:=by cases p <;> simp [Pt.au,Pt.n]
theorem eG (c:List Pt):(au c).length=tot c:=by
 induction c with
 | nil=>rfl
 | cons p c ih=>rw [bJ,List.length_append,uC,ih,bI]
noncomputable def tA:Nat→List At→List Tq
 | _,[]=>[]
 | i,.k :: a=>.at i :: tA (i+1) a
 | i,.d _ :: a=>tA (i+1) a
 | i,.p c :: a=>.sg c :: tA i a
noncomputable def aA:List At→List (List Nat)
 | []=>[]
 | .k :: a=>[] :: aA a
 | .d c :: a=>[c] :: aA a
 | .p _ :: a=>aA a
noncomputable def dA:List At→List Nat→List Nat
 | [],_=>[]
 | .k :: a,t=>t.take 1++dA a (t.drop 1)
 | .d _ :: a,t=>dA a (t.drop 1)
 | .p c :: a,t=>c :: dA a t
noncomputable def nN:At→At
 | .k=>.k
 | .d c=>.p c
 | .p c=>.d c
noncomputable def cA:List At→Nat
 | []=>0
 | .k :: a=>cA a
 | _ :: a=>cA a+1
theorem fc:∀ a b:List At,aA (a++b)=aA a++aA b
 | [],_=>rfl
 | .k :: a,b=>by simp [aA,fc a b]
 | .d c :: a,b=>by simp [aA,fc a b]
 | .p c :: a,b=>by simp [aA,fc a b]
theorem iV:∀ (a b:List At) (i:Nat),tA i (a++b)=tA i a++tA (i+(aA a).length) b
 | [],_,_=>rfl
 | .k :: a,b,i=>by simp [tA,aA,iV a b,Nat.add_assoc,Nat.add_comm 1]
 | .d c :: a,b,i=>by simp [tA,aA,iV a b,Nat.add_assoc,Nat.add_comm 1]
 | .p c :: a,b,i=>by simp [tA,aA,iV a b]
theorem iW:∀ a b:List At,cA (a++b)=cA a+cA b
 | [],b=>by simp [cA]
 | .k :: a,b=>by simp [cA,iW a b]
 | .d c :: a,b=>by simp [cA,iW a b];omega
 | .p c :: a,b=>by simp [cA,iW a b];omega
theorem sN (p:Pt):aA p.au=p.asks:=by
 cases p with
 | keep n=>simp only [Pt.au,Pt.asks];induction n <;> simp_all [List.replicate_succ,aA]
 | drop s=>simp only [Pt.au,Pt.asks];induction s <;> simp_all [aA]
 | put s=>simp only [Pt.au,Pt.asks];induction s <;> simp_all [aA]
theorem Qx (p:Pt):∀ i,tA i p.au=p.told i:=by
 cases p with
 | keep n=>
  simp only [Pt.au,Pt.told]
  induction n with
  | zero=>intro i;rfl
  | succ n ih=>intro i;simp only [List.replicate_succ,tA,ih,List.range_succ_eq_map,List.map_cons,List.map_map];simp [Function.comp_def,Nat.add_assoc,Nat.add_comm 1]
 | drop s=>intro i;simp only [Pt.au,Pt.told];induction s generalizing i <;> simp_all [tA]
 | put s=>intro i;simp only [Pt.au,Pt.told];induction s generalizing i <;> simp_all [tA]
theorem Qy (p:Pt):cA p.au=cst [p]:=by
 cases p with
 | keep n=>simp only [Pt.au];rw [Fg];induction n <;> simp_all [List.replicate_succ,cA,cst,tot]
 | drop s=>simp only [Pt.au];rw [Fi];induction s <;> simp_all [cA,cst,tot]
 | put s=>simp only [Pt.au];rw [Fj];induction s <;> simp_all [cA,cst,tot]
theorem cW (c:List Pt):asks c=aA (au c):=by
 induction c with
 | nil=>rfl
 | cons p c ih=>rw [bJ,fc,sN,←ih];simp [asks]
theorem bR (c:List Pt):∀ i,told i c=tA i (au c):=by
 induction c with
 | nil=>intro i;rfl
 | cons p c ih=>intro i;rw [bJ,iV,Qx,sN,←ih,told]
theorem jm (c:List Pt):cst c=cA (au c):=by
 induction c with
 | nil=>rfl
 | cons p c ih=>
  rw [bJ,iW,Qy,←ih]
  simp [cst,tot]
  cases p <;> simp [List.filter_cons,eY]
theorem uD (c:List Pt):au (sw c)=(au c).map nN:=by
 induction c with
 | nil=>rfl
 | cons p c ih=>
  have:au (sw (p :: c))=p.sw.au++au (sw c):=by simp [au,sw]
  rw [this,ih,bJ,List.map_append]
  congr 1
  cases p <;> simp [Pt.sw,Pt.au,nN,Function.comp_def]
theorem cK:∀ (c:List Pt) (t:List Nat),aN c t=dA (au c) t:=by
 have k:∀ (n:Nat) (a:List At) (t:List Nat),dA (List.replicate n .k++a) t=t.take n++dA a (t.drop n):=fun n=>by
  induction n with
  | zero=>intro a t;simp
  | succ n ih=>
   intro a t
   simp only [List.replicate_succ,List.cons_append,dA,ih,List.drop_drop]
   cases t with
   | nil=>simp
   | cons c t=>simp [Nat.add_comm 1]
 have d:∀ (s:List Nat) (a:List At) (t:List Nat),dA (s.map .d++a) t=dA a (t.drop s.length):=fun s=>by
  induction s with
  | nil=>intro a t;simp
  | cons c s ih=>intro a t;simp [dA,ih,Nat.add_comm 1]
 have p:∀ (s:List Nat) (a:List At) (t:List Nat),dA (s.map .p++a) t=s++dA a t:=fun s=>by
  induction s with
  | nil=>intro a t;simp
  | cons c s ih=>intro a t;simp [dA,ih]
 intro c
 induction c with
 | nil=>intro t;rfl
 | cons q c ih=>
  intro t
  rw [bJ]
  cases q with
  | keep n=>simp only [Pt.au,k,aN,ih]
  | drop s=>simp only [Pt.au,d,aN,ih]
  | put s=>simp only [Pt.au,p,aN,ih]
noncomputable def pN:List At→Bool
 | .d _ :: _=>false
 | _=>true
inductive Th:List At→List At→List At→Prop
 | nil:Th [] [] []
 | d {a b r c}:Th a b r→Th (.d c :: a) b (.d c :: r)
 | p {a b r c}:pN a=true→Th a b r→Th a (.p c :: b) (.p c :: r)
 | kk {a b r}:Th a b r→Th (.k :: a) (.k :: b) (.k :: r)
 | kd {a b r c}:Th a b r→Th (.k :: a) (.d c :: b) (.d c :: r)
 | pk {a b r c}:Th a b r→Th (.p c :: a) (.k :: b) (.p c :: r)
 | pd {a b r c}:Th a b r→Th (.p c :: a) (.d c :: b) r
noncomputable def sub (L:List Tq):Tq→Tq
 | .at j=>L.getD j (.sg 0)
 | .sg c=>.sg c
theorem pO {L M:List Tq}{q:Tq}{j:Nat}(h:L.length=j):sub (L++q :: M) (.at j)=q:=by
 subst h;simp [sub]
theorem Th.told {a b r:List At}(h:Th a b r):∀ (i j:Nat) (L:List Tq),L.length=j→tA i r=(tA j b).map (sub (L++tA i a)):=by
 induction h with
 | nil=>intro i j L hL;rfl
 | d h ih=>intro i j L hL;exact ih (i+1) j L hL
 | p _ h ih=>intro i j L hL;simp only [tA,List.map_cons];rw [ih i j L hL];rfl
 | kk h ih=>
  intro i j L hL
  simp only [tA,List.map_cons]
  rw [ih (i+1) (j+1) (L++[.at i]) (by simp [hL]),pO hL];simp
 | kd h ih=>
  intro i j L hL
  simp only [tA]
  rw [ih (i+1) (j+1) (L++[.at i]) (by simp [hL])];simp
 | @pk _ _ _ c h ih=>
  intro i j L hL
  simp only [tA,List.map_cons]
  rw [ih i (j+1) (L++[.sg c]) (by simp [hL]),pO hL];simp
 | @pd _ _ _ c h ih=>
  intro i j L hL
  simp only [tA]
  rw [ih i (j+1) (L++[.sg c]) (by simp [hL])];simp
theorem Th.back {a b r:List At}(h:Th a b r):∀ (i j:Nat) (L:List Tq),L.length=j→tA i (r.map nN)=(tA j (a.map nN)).map (sub (L++tA i (b.map nN))):=by
 induction h with
 | nil=>intro i j L hL;rfl
 | d h ih=>intro i j L hL;simp only [List.map_cons,nN,tA];rw [ih i j L hL];rfl
 | p _ h ih=>intro i j L hL;exact ih (i+1) j L hL
 | kk h ih=>
  intro i j L hL
  simp only [List.map_cons,nN,tA]
  rw [ih (i+1) (j+1) (L++[.at i]) (by simp [hL]),pO hL];simp
 | @kd _ _ _ c h ih=>
  intro i j L hL
  simp only [List.map_cons,nN,tA]
  rw [ih i (j+1) (L++[.sg c]) (by simp [hL]),pO hL];simp
 | pk h ih=>
  intro i j L hL
  simp only [List.map_cons,nN,tA]
  rw [ih (i+1) (j+1) (L++[.at i]) (by simp [hL])];simp
 | @pd _ _ _ c h ih=>
  intro i j L hL
  simp only [List.map_cons,nN,tA]
  rw [ih i (j+1) (L++[.sg c]) (by simp [hL])];simp
theorem Th.fit {a b r:List At}(h:Th a b r):∀ t,aT (aA a) t=true→aT (aA b) (dA a t)=true→aT (aA r) t=true:=by
 induction h with
 | nil=>intro t h1 _;exact h1
 | d h ih=>
  intro t h1 h2
  cases t with
  | nil=>simp [aA,aT] at h1
  | cons x t=>simp only [aA,aT,Bool.and_eq_true] at h1 ⊢;exact ⟨h1.1,ih t h1.2 h2⟩
 | p _ h ih=>intro t h1 h2;exact ih t h1 h2
 | kk h ih=>
  intro t h1 h2
  cases t with
  | nil=>simp [aA,aT] at h1
  | cons x t=>simp only [aA,aT,Bool.and_eq_true,dA,List.take_succ_cons,List.take_zero,List.drop_succ_cons,List.drop_zero,List.singleton_append] at h1 h2 ⊢;exact ⟨h1.1,ih t h1.2 h2.2⟩
 | kd h ih=>
  intro t h1 h2
  cases t with
  | nil=>simp [aA,aT] at h1
  | cons x t=>simp only [aA,aT,Bool.and_eq_true,dA,List.take_succ_cons,List.take_zero,List.drop_succ_cons,List.drop_zero,List.singleton_append] at h1 h2 ⊢;exact ⟨h2.1,ih t h1.2 h2.2⟩
 | pk h ih=>intro t h1 h2;simp only [aA,dA,aT,Bool.and_eq_true] at h1 h2 ⊢;exact ih t h1 h2.2
 | pd h ih=>intro t h1 h2;simp only [aA,dA,aT,Bool.and_eq_true] at h1 h2 ⊢;exact ih t h1 h2.2
theorem Th.all:∀ (n:Nat) (a b:List At) (t:List Nat),a.length+b.length≤n→aT (aA a) t=true→aT (aA b) (dA a t)=true→∃ r,Th a b r:=by
 intro n
 induction n with
 | zero=>
  intro a b t hn _ _
  obtain rfl:a=[]:=List.length_eq_zero_iff.mp (by omega)
  obtain rfl:b=[]:=List.length_eq_zero_iff.mp (by omega)
  exact ⟨[],.nil⟩
 | succ n ih=>
  intro a b t hn h1 h2
  cases a with
  | nil=>
   cases b with
   | nil=>exact ⟨[],.nil⟩
   | cons y b=>
    cases y with
    | p c=>obtain ⟨r,h⟩:=ih [] b t (by simp at hn ⊢;omega) h1 h2;exact ⟨_,.p rfl h⟩
    | k=>simp [aA,dA,aT] at h2
    | d c=>simp [aA,dA,aT] at h2
  | cons x a=>
   by_cases hd:pN (x :: a)=true
   ·cases b with
    | nil=>
     cases x with
     | d c=>cases hd
     | k=>cases t <;> simp [aA,dA,aT] at h1 h2
     | p c=>simp [aA,dA,aT] at h2
    | cons y b=>
     cases y with
     | p c=>obtain ⟨r,h⟩:=ih (x :: a) b t (by simp at hn ⊢;omega) h1 h2;exact ⟨_,.p hd h⟩
     | k=>
      cases x with
      | d c=>cases hd
      | k=>
       cases t with
       | nil=>simp [aA,aT] at h1
       | cons z t=>
        simp [aA,aT,dA] at h1 h2
        obtain ⟨r,h⟩:=ih a b t (by simp at hn ⊢;omega) h1 h2;exact ⟨_,.kk h⟩
      | p c=>
       simp [aA,aT,dA] at h1 h2
       obtain ⟨r,h⟩:=ih a b t (by simp at hn ⊢;omega) h1 h2;exact ⟨_,.pk h⟩
     | d c'=>
      cases x with
      | d c=>cases hd
      | k=>
       cases t with
       | nil=>simp [aA,aT] at h1
       | cons z t=>
        simp [aA,aT,dA] at h1 h2
        obtain ⟨r,h⟩:=ih a b t (by simp at hn ⊢;omega) h1 h2.2;exact ⟨_,.kd h⟩
      | p c=>
       simp [aA,aT,dA] at h1 h2
       obtain ⟨rfl,h2⟩:=h2
       obtain ⟨r,h⟩:=ih a b t (by simp at hn ⊢;omega) h1 h2;exact ⟨_,.pd h⟩
   ·cases x with
    | k=>exact absurd rfl hd
    | p c=>exact absurd rfl hd
    | d c=>
     cases t with
     | nil=>simp [aA,aT] at h1
     | cons z t=>
      simp [aA,aT] at h1
      obtain ⟨r,h⟩:=ih a b t (by simp at hn ⊢;omega) h1.2 h2;exact ⟨_,.d h⟩
theorem Th.done {a b r:List At}(h:Th a b r):∀ t,aT (aA a) t=true→dA r t=dA b (dA a t):=by
 induction h with
 | nil=>intro t _;rfl
 | d h ih=>
  intro t h1
  cases t with
  | nil=>simp [aA,aT] at h1
  | cons x t=>simp only [aA,aT,Bool.and_eq_true] at h1;simp only [dA];exact ih t h1.2
 | p _ h ih=>intro t h1;simp only [dA];rw [ih t h1]
 | kk h ih=>
  intro t h1
  cases t with
  | nil=>simp [aA,aT] at h1
  | cons x t=>simp only [aA,aT,Bool.and_eq_true] at h1;simp [dA,ih t h1.2]
 | kd h ih=>
  intro t h1
  cases t with
  | nil=>simp [aA,aT] at h1
  | cons x t=>simp only [aA,aT,Bool.and_eq_true] at h1;simp [dA,ih t h1.2]
 | pk h ih=>intro t h1;simp [dA,ih t h1]
 | pd h ih=>intro t h1;simp [dA,ih t h1]
theorem Th.cost {a b r:List At}(h:Th a b r):cA r≤cA a+cA b:=by induction h <;> simp [cA] <;> omega
theorem Th.len {a b r:List At}(h:Th a b r):r.length≤a.length+b.length:=by induction h <;> simp <;> omega
theorem Th.ds {b r:List At}:∀ {s:List Nat}{a:List At},Th (s.map .d++a) b r→∃ r',r=s.map .d++r'∧Th a b r'
 | [],a,h=>⟨r,rfl,h⟩
 | c :: s,a,h=>by
  cases h with
  | d h=>obtain ⟨r',rfl,h'⟩:=Th.ds h;exact ⟨r',rfl,h'⟩
  | p hn h=>cases hn
theorem Th.ps {a r:List At}(hn:pN a=true):∀ {s:List Nat}{b:List At},Th a (s.map .p++b) r→∃ r',r=s.map .p++r'∧Th a b r'
 | [],b,h=>⟨r,rfl,h⟩
 | c :: s,b,h=>by
  cases h with
  | d h=>cases hn
  | p _ h=>obtain ⟨r',rfl,h'⟩:=Th.ps hn h;exact ⟨r',rfl,h'⟩
theorem Th.XC {a b r:List At}:∀ {n:Nat},Th (List.replicate n .k++a) (List.replicate n .k++b) r→∃ r',r=List.replicate n .k++r'∧Th a b r':=fun {n}=>by
 induction n generalizing r with
 | zero=>intro h;exact ⟨r,rfl,h⟩
 | succ n ih=>intro h;cases h with | kk h=>obtain ⟨r',rfl,h'⟩:=ih h;exact ⟨r',rfl,h'⟩
theorem Th.XD {a b r:List At}:∀ {s:List Nat},Th (List.replicate s.length .k++a) (s.map .d++b) r→∃ r',r=s.map .d++r'∧Th a b r':=fun {s}=>by
 induction s generalizing r with
 | nil=>intro h;exact ⟨r,rfl,h⟩
 | cons c s ih=>intro h;cases h with | kd h=>obtain ⟨r',rfl,h'⟩:=ih h;exact ⟨r',rfl,h'⟩
theorem Th.XE {a b r:List At}:∀ {s:List Nat},Th (s.map .p++a) (List.replicate s.length .k++b) r→∃ r',r=s.map .p++r'∧Th a b r':=fun {s}=>by
 induction s generalizing r with
 | nil=>intro h;exact ⟨r,rfl,h⟩
 | cons c s ih=>intro h;cases h with | pk h=>obtain ⟨r',rfl,h'⟩:=ih h;exact ⟨r',rfl,h'⟩
theorem Th.RU {a b r:List At}:∀ {s s':List Nat},s.length=s'.length→Th (s.map .p++a) (s'.map .d++b) r→s=s'∧Th a b r
 | [],[],_,h=>⟨rfl,h⟩
 | [],_ :: _,hl,_=>by simp at hl
 | _ :: _,[],hl,_=>by simp at hl
 | c :: s,c' :: s',hl,h=>by cases h with | pd h=>obtain ⟨rfl,h'⟩:=Th.RU (by simpa using hl) h;exact ⟨rfl,h'⟩
theorem gS:∀ (a:List At) (i q:Nat),Tq.at q∈tA i a↔∃ j,q=i+j∧(aA a)[j]?=some []
 | [],i,q=>by simp [tA,aA]
 | .k :: a,i,q=>by
  simp only [tA,List.mem_cons,gS a,aA]
  constructor
  ·rintro (h | ⟨j,rfl,h⟩)
   ·cases h;exact ⟨0,rfl,by simp⟩
   ·exact ⟨j+1,by omega,by simpa using h⟩
  ·rintro ⟨j,rfl,h⟩
   cases j with
   | zero=>exact .inl rfl
   | succ j=>exact .inr ⟨j,by omega,by simpa using h⟩
 | .d c :: a,i,q=>by
  simp only [tA,gS a,aA]
  constructor
  ·rintro ⟨j,rfl,h⟩;exact ⟨j+1,by omega,by simpa using h⟩
  ·rintro ⟨j,rfl,h⟩
   cases j with
   | zero=>simp at h
   | succ j=>exact ⟨j,by omega,by simpa using h⟩
 | .p c :: a,i,q=>by simp [tA,gS a,aA]
theorem qG:∀ {a:List (List Nat)}{t:List Nat},aT a t=true→∀ (j:Nat) x,a[j]?=some x→x=[]∨∃ c,t[j]?=some c∧x=[c]
 | y :: a,c :: t,h,j,x,e=>by
  simp only [aT,Bool.and_eq_true,Bool.or_eq_true,decide_eq_true_eq] at h
  cases j with
  | zero=>simp at e;subst e;exact h.1.imp id fun z=>⟨c,by simp,z⟩
  | succ j=>simpa using qG h.2 j x (by simpa using e)
 | [],[],_,j,x,e=>by simp at e
 | [],_ :: _,h,_,_,_=>by simp [aT] at h
 | _ :: _,[],h,_,_,_=>by simp [aT] at h
theorem AU {a:List At}{A:List (List Nat)}{t:List Nat}(ha:aT (aA a) t=true) (hb:aT A t=true) (h:∀ q:Nat,Tq.at q∈tA 0 a↔A[q]?=some []):aA a=A:=by
 have la:=nZ ha
 have lb:=nZ hb
 apply List.ext_getElem?
 intro j
 by_cases hj:j<t.length
 ·obtain ⟨x,hx⟩:∃ x,(aA a)[j]?=some x:=⟨_,List.getElem?_eq_getElem (by omega)⟩
  obtain ⟨y,hy⟩:∃ y,A[j]?=some y:=⟨_,List.getElem?_eq_getElem (by omega)⟩
  have k1:=gS a 0 j
  rw [h j,hy] at k1
  have hxy:x=[]↔y=[]:=by
   constructor
   ·rintro rfl
    have:=k1.mpr ⟨j,by omega,hx⟩
    cases this;rfl
   ·rintro rfl
    obtain ⟨i,hi,e⟩:=k1.mp rfl
    obtain rfl:i=j:=by omega
    rw [e] at hx;cases hx;rfl
  rw [hx,hy]
  rcases qG ha j x hx with RW | ⟨c,hc,XF⟩
  ·rw [RW,hxy.mp RW]
  ·rcases qG hb j y hy with RX | ⟨c',hc',hy1⟩
   ·rw [RX,hxy.mpr RX]
   ·rw [hc] at hc';cases hc';rw [XF,hy1]
 ·rw [List.getElem?_eq_none (by omega),List.getElem?_eq_none (by omega)]
theorem AV {a b:List At}{t:List Nat}(ha:aT (aA a) t=true) (hb:aT (aA b) t=true) (h:tA 0 a=tA 0 b):aA a=aA b:=
 AU ha hb fun q=>by
  rw [h,gS b 0 q]
  constructor
  ·rintro ⟨j,hj,e⟩;obtain rfl:q=j:=by omega
   exact e
  ·intro e;exact ⟨q,by omega,e⟩
theorem AW {a b:List Pt}{t:List Nat}(ha:aP a t=true) (hb:aP b t=true) (h:told 0 a=told 0 b):av a=av b:=by
 rw [gH]
 rw [eS] at ha hb
 have h':=h
 rw [cW] at ha hb
 rw [bR,bR] at h'
 have:=AV ha hb h'
 simp only [g9,h,cW,this]
theorem om {c:List Pt}{t:List Nat}(h:aP c t=true):(aN c t).length=bY c:=by
 rw [e8 (Dq c t h).1,MF]
end Pv
namespace Pv
open Ev (D bV bQ TY BI ME T E Es Eo It S Ss Fn big deep b2i rep cB er bN aS cut cT ef slots)
noncomputable def DH (fE:Nat) (d7:Nat):S:=.iff (.cmp .ne (.cl fE (.cons (.v 0) .nil)) (.cl d7 (.cons (.v 1) .nil))) (.cons (.fJ) .nil) .nil
noncomputable def DI (cS:Nat):S:=.set 2 (.gn (.rev (.cl cS (.cons (.v 0) .nil))))
noncomputable def DJ (cS:Nat):S:=.set 3 (.gn (.rev (.cl cS (.cons (.v 1) .nil))))
noncomputable def DK:S:=.set 4 (.lst .nil)
noncomputable def uE (bz:Nat) (pP:Nat) (eH:Nat):Ss:=(.cons (.iff (.an (.v 2) (.cmp .eq (.ix (.ix (.v 2) (.neg (.c (.int 1)))) (.c (.int 0))) (.c (.str [100,114,111,112])))) (.cons (.exp (.me .append (.v 4) (.cons (.me .pop (.v 2) .nil) .nil))) .nil) (.cons (.iff (.an (.v 3) (.cmp .eq (.ix (.ix (.v 3) (.neg (.c (.int 1)))) (.c (.int 0))) (.c (.str [112,117,116])))) (.cons (.exp (.me .append (.v 4) (.cons (.me .pop (.v 3) .nil) .nil))) .nil) (.cons (.set 5 (.bi .min (.cons (.cl bz (.cons (.ix (.v 2) (.neg (.c (.int 1)))) .nil)) (.cons (.cl bz (.cons (.ix (.v 3) (.neg (.c (.int 1)))) .nil)) .nil)))) (.cons (.exp (.me .extend (.v 4) (.cons (.cl pP (.cons (.cl eH (.cons (.v 2) (.cons (.v 5) .nil))) (.cons (.cl eH (.cons (.v 3) (.cons (.v 5) .nil))) .nil))) .nil))) .nil))) .nil)) .nil)
noncomputable def DL (bz:Nat) (pP:Nat) (eH:Nat):S:=.lP (.orr (.v 2) (.v 3)) (uE bz pP eH)
noncomputable def DM (cS:Nat):S:=.ret (.cl cS (.cons (.iZ (.v 4)) .nil))
noncomputable def kc (fE:Nat) (d7:Nat) (cS:Nat) (bz:Nat) (pP:Nat) (eH:Nat):Fn:=⟨2,6,(.cons (DH fE d7) (.cons (DI cS) (.cons (DJ cS) (.cons DK (.cons (DL bz pP eH) (.cons (DM cS) .nil))))))⟩
noncomputable def IK:S:=.iff (.cmp .eq (.ix (.v 1) (.c (.int 0))) (.c (.str [107,101,101,112]))) (.cons (.ret (.lst (.cons (.v 0) .nil))) .nil) .nil
noncomputable def IL:S:=.iff (.cmp .eq (.ix (.v 0) (.c (.int 0))) (.c (.str [107,101,101,112]))) (.cons (.ret (.lst (.cons (.v 1) .nil))) .nil) .nil
noncomputable def IM:S:=.iff (.cmp .ne (.ix (.v 0) (.c (.int 1))) (.ix (.v 1) (.c (.int 1)))) (.cons (.fJ) .nil) .nil
noncomputable def IP:S:=.ret (.lst .nil)
noncomputable def sO:Fn:=⟨2,2,(.cons IK (.cons IL (.cons IM (.cons IP .nil))))⟩
noncomputable def AX (oq:Nat):S:=.set 2 (.cl oq (.cons (.me .pop (.v 0) .nil) (.cons (.v 1) .nil)))
noncomputable def AY (bz:Nat):S:=.iff (.cmp .gt (.cl bz (.cons (.ix (.v 2) (.c (.int 1))) .nil)) (.c (.int 0))) (.cons (.exp (.me .append (.v 0) (.cons (.ix (.v 2) (.c (.int 1))) .nil))) .nil) .nil
noncomputable def AZ:S:=.ret (.ix (.v 2) (.c (.int 0)))
noncomputable def gT (oq:Nat) (bz:Nat):Fn:=⟨2,3,(.cons (AX oq) (.cons (AY bz) (.cons AZ .nil)))⟩
noncomputable def yt:S:=.set 2 (.ix (.v 0) (.c (.int 0)))
noncomputable def yu:S:=.iff (.cmp .eq (.v 2) (.c (.str [107,101,101,112]))) (.cons (.ret (.tup (.cons (.tup (.cons (.v 2) (.cons (.v 1) .nil))) (.cons (.tup (.cons (.v 2) (.cons (.bin .sub (.ix (.v 0) (.c (.int 1))) (.v 1)) .nil))) .nil)))) .nil) .nil
noncomputable def yv:S:=.ret (.tup (.cons (.tup (.cons (.v 2) (.cons (.sl (.ix (.v 0) (.c (.int 1))) .no (.yes (.v 1))) .nil))) (.cons (.tup (.cons (.v 2) (.cons (.sl (.ix (.v 0) (.c (.int 1))) (.yes (.v 1)) .no) .nil))) .nil)))
noncomputable def fy:Fn:=⟨2,3,(.cons yt (.cons yu (.cons yv .nil)))⟩
noncomputable def Pt.tk (m:Nat):Pt→Pt
 | .keep _=>.keep m
 | .put s=>.put (s.take m)
 | .drop s=>.drop (s.take m)
noncomputable def Pt.dp (m:Nat):Pt→Pt
 | .keep k=>.keep (k - m)
 | .put s=>.put (s.drop m)
 | .drop s=>.drop (s.drop m)
theorem yw {α:Type}(l:List α) (m:Nat):cut l none (some (m:Int))=l.take m:=by
 have h1:¬ (m:Int)<0:=by omega
 simp only [cut,aS,h1,if_false,Int.toNat_natCast,List.drop_zero,Nat.sub_zero]
 by_cases h:m≤l.length
 ·rw [Nat.min_eq_left h]
 ·rw [Nat.min_eq_right (by omega),List.take_of_length_le (Nat.le_refl _),List.take_of_length_le (by omega)]
theorem yx {α:Type}(l:List α) (m:Nat):cut l (some (m:Int)) none=l.drop m:=by
 have h1:¬ (m:Int)<0:=by omega
 simp only [cut,aS,h1,if_false,Int.toNat_natCast]
 by_cases h:m≤l.length
 ·rw [Nat.min_eq_left h,List.take_of_length_le (by simp)]
 ·rw [Nat.min_eq_right (by omega),List.drop_eq_nil_of_le (Nat.le_refl _),List.drop_eq_nil_of_le (by omega)];simp
section
variable {F:List Fn}{w n bF aD dF aW aZ aR cY bB dm pQ i:Nat}
theorem yy (hf:F[i]?=some fy) (p:Pt) (m:Nat) (h:m≤p.n):run F w (n+1) i [.val p.v,.val (.int m)]=some (.tup [(p.tk m).v,(p.dp m).v],[]):=by
 refine cI hf rfl ?_
 cases p with
 | keep k=>
  refine aj (bg (by repeat array_get_dec) rfl rfl ?_)
  refine aj (aQ (by repeat array_get_dec) (fun _=>?_) fun h=>absurd h (by decide))
  refine aj (bX (by repeat array_get_dec) ⟨?_,rfl⟩)
  have:(k:Int) - m=((k - m:Nat):Int):=by simp only [Pt.n] at h;omega
  exact congrArg (fun z=>Fl.ret (V.tup [V.tup [V.str dP,V.int m],V.tup [V.str dP,V.int z]])) this
 | put s=>
  have c1:fR (.str s) none (some (m:Int))=some (.str (s.take m)):=by rw [gQ,yw]
  have c2:fR (.str s) (some (m:Int)) none=some (.str (s.drop m)):=by rw [gQ,yx]
  refine aj (bg (by repeat array_get_dec) rfl rfl ?_)
  refine aj (aQ (by repeat array_get_dec) (fun h=>absurd h (by decide)) fun _=>aF ?_)
  exact aj (bX (by repeat array_get_dec) ⟨rfl,rfl⟩)
 | drop s=>
  have c1:fR (.str s) none (some (m:Int))=some (.str (s.take m)):=by rw [gQ,yw]
  have c2:fR (.str s) (some (m:Int)) none=some (.str (s.drop m)):=by rw [gQ,yx]
  refine aj (bg (by repeat array_get_dec) rfl rfl ?_)
  refine aj (aQ (by repeat array_get_dec) (fun h=>absurd h (by decide)) fun _=>aF ?_)
  exact aj (bX (by repeat array_get_dec) ⟨rfl,rfl⟩)
theorem ow (m:Nat) (p:Pt):(p.dp m).n=p.n - m:=by cases p <;> simp [Pt.dp,Pt.n]
theorem mJ (hs:F[aD]?=some dJ) (hp:F[bF]?=some fy) (hf:F[i]?=some (gT bF aD)) (L:List V) (p:Pt) (m:Nat) (h:m≤p.n) (hn:p.n≤100000) (hL:L.length≤10000) :
  run F w (n+2) i [.bor (L++[p.v]),.val (.int m)]=some ((p.tk m).v,[L++if 0<p.n - m then [(p.dp m).v] else []]):=by
 refine cI hf rfl ?_
 have c1:=fun fr=>call2 (fr:=fr) (yy (F:=F) (w:=w) (n:=n) hp p m h)
 have c2:=fun fr=>cZ (fr:=fr) (iB (F:=F) (w:=w) (n:=n) hs (p.dp m) (by rw [ow];omega))
 have po:∀ fr:Fr,gi .pop 0 [] fr (some (some (.bor (L++[p.v]))))=.ok p.v (fr.set 0 (some (.bor L))):=fun fr=>Ir
 have ap:∀ fr:Fr,gi .append 0 [(p.dp m).v] fr (some (some (.bor L)))=.ok .bH (fr.set 0 (some (.bor (L++[(p.dp m).v])))):=fun fr=>Iq (by omega)
 refine aj (bg (by (repeat (first | array_get_dec | exact po _ | exact c1 _))) rfl rfl ?_)
 refine aj (aQ (by (repeat (first | array_get_dec | exact c2 _))) (fun h=>?_) fun h=>?_)
 ·have h':=of_decide_eq_true h
  rw [ow] at h'
  rw [if_pos (by omega)]
  refine aj (gh (by (repeat (first | array_get_dec | exact ap _))) (aF ?_))
  exact aj (bX (by repeat array_get_dec) ⟨rfl,rfl⟩)
 ·have h':=of_decide_eq_false h
  rw [ow] at h'
  rw [if_neg (by omega),List.append_nil]
  exact aF (aj (bX (by repeat array_get_dec) ⟨rfl,rfl⟩))
noncomputable def kO:Pt→Pt→Option (List Pt)
 | l,.keep _=>some [l]
 | .keep _,g=>some [g]
 | .put s,.drop s'=>if s=s' then some [] else none
 | _,_=>none
theorem IQ (hf:F[i]?=some sO) (p q:Pt) (r:List Pt) (h:kO p q=some r):run F w (n+1) i [.val p.v,.val q.v]=some (.lst (r.map Pt.v),[]):=by
 refine cI hf rfl ?_
 cases q with
 | keep k=>
  simp only [kO,Option.some.injEq] at h
  subst h
  refine aj (aQ (by repeat array_get_dec) (fun _=>?_) fun h=>absurd h (by decide))
  exact aj (bX (by repeat array_get_dec) ⟨rfl,rfl⟩)
 | put s=>
  cases p <;> simp [kO] at h
  subst h
  refine aj (aQ (by repeat array_get_dec) (fun h=>absurd h (by decide)) fun _=>aF ?_)
  refine aj (aQ (by repeat array_get_dec) (fun _=>?_) fun h=>absurd h (by decide))
  exact aj (bX (by repeat array_get_dec) ⟨rfl,rfl⟩)
 | drop s'=>
  cases p with
  | keep k=>
   simp only [kO,Option.some.injEq] at h
   subst h
   refine aj (aQ (by repeat array_get_dec) (fun h=>absurd h (by decide)) fun _=>aF ?_)
   refine aj (aQ (by repeat array_get_dec) (fun _=>?_) fun h=>absurd h (by decide))
   exact aj (bX (by repeat array_get_dec) ⟨rfl,rfl⟩)
  | drop s=>simp [kO] at h
  | put s=>
   simp only [kO] at h
   split at h
   ·rename_i hs
    subst hs
    cases h
    refine aj (aQ (by repeat array_get_dec) (fun h=>absurd h (by decide)) fun _=>aF ?_)
    refine aj (aQ (by repeat array_get_dec) (fun h=>absurd h (by decide)) fun _=>aF ?_)
    refine aj (aQ (by repeat array_get_dec) (fun h=>?_) fun _=>aF ?_)
    ·simp at h
    ·exact aj (bX (by repeat array_get_dec) ⟨rfl,rfl⟩)
   ·cases h
theorem dH {l:List V}{v:V}:fK (.lst (l++[v])) (.int (-1))=some v:=by rw [HY,Ax];simp
theorem jk {l:List V}{v:V}:truthy (.lst (l++[v]))=true:=by simp
theorem yz {P:aU}{f i:Nat}{fr:Fr}{b v:V}{l l':List V}(e:fr[i]?=some (some (.own l))) (h:P f [.bor l,.val b]=some (v,[l'])):cU P f [.inl i,.inr b] fr=.ok v (fr.set i (some (.own l'))):=by
 have e1:lent fr i=some (.bor l):=by rw [Io,e];rfl
 simp [cU,bO,args,e1,h,back,e,Sl.with]
theorem cP {c:List Pt}(h:dN c=true):∀ p∈c,0<p.n:=fun p hp=>by
 simp only [dN,Bool.and_eq_true,List.all_eq_true] at h
 have:=h.2 p hp
 simp only [AD,bne_iff_ne,ne_eq] at this
 omega
theorem cz:∀ {c:List Pt},(∀ p∈c,0<p.n)→c.length≤tot c
 | [],_=>by simp [tot]
 | p :: c,h=>by
  have h1:=h p (by simp)
  have h2:=cz (c:=c) fun q hq=>h q (by simp [hq])
  rw [bI,List.length_cons];omega
theorem pR {p:Pt}{m:Nat}(h:m≤p.n):(p.tk m).au++(p.dp m).au=p.au∧(p.tk m).n=m:=by
 cases p with
 | keep k=>simp only [Pt.n] at h;simp [Pt.tk,Pt.dp,Pt.au,Pt.n,h]
 | put s=>simp only [Pt.n] at h;simp [Pt.tk,Pt.dp,Pt.au,Pt.n,h,←List.map_append]
 | drop s=>simp only [Pt.n] at h;simp [Pt.tk,Pt.dp,Pt.au,Pt.n,h,←List.map_append]
noncomputable def gv (m:Nat) (p:Pt):List Pt:=if 0<p.n - m then [p.dp m] else []
theorem qH {p:Pt}{m:Nat}(h:m≤p.n):p.au=(p.tk m).au++au (gv m p):=by
 rw [← (pR h).1]
 congr 1
 unfold gv
 split
 ·simp [au]
 ·rename_i hz
  have:(p.dp m).au.length=0:=by rw [uC,ow];omega
  rw [List.length_eq_zero_iff.mp this];rfl
theorem qI (m:Nat) (p:Pt):∀ q∈gv m p,0<q.n:=fun q hq=>by
 unfold gv at hq
 split at hq
 ·simp at hq;subst hq;rw [ow];omega
 ·simp at hq
theorem wH (m:Nat) (p:Pt) (A:List Pt):((gv m p++A).map Pt.v).reverse=(A.map Pt.v).reverse++if 0<p.n - m then [(p.dp m).v] else []:=by
 unfold gv;split <;> simp
theorem kg (m:Nat) (p:Pt):tot (gv m p)=p.n - m:=by
 unfold gv;split
 ·simp [tot,ow]
 ·simp [tot];omega
theorem wI {m:Nat}{p:Pt}:dM (p.tk m)=dM p∧cH (p.tk m)=cH p:=by cases p <;> exact ⟨rfl,rfl⟩
theorem MI {A B r:List At}(p q:Pt) (hp:dM p=false) (hq:cH q=false) (hn:p.n=q.n) (h:Th (p.au++A) (q.au++B) r):∃ m r',kO p q=some m∧m.length≤1∧r=au m++r'∧Th A B r':=by
 cases p with
 | drop s=>cases hp
 | keep k=>
  cases q with
  | put s=>cases hq
  | keep k'=>simp only [Pt.n] at hn;subst hn;obtain ⟨r',rfl,h'⟩:=Th.XC h;exact ⟨[.keep k],r',rfl,by simp,by simp [au,Pt.au],h'⟩
  | drop s=>simp only [Pt.n] at hn;subst hn;obtain ⟨r',rfl,h'⟩:=Th.XD h;exact ⟨[.drop s],r',rfl,by simp,by simp [au,Pt.au],h'⟩
 | put s=>
  cases q with
  | put s'=>cases hq
  | keep k'=>simp only [Pt.n] at hn;subst hn;obtain ⟨r',rfl,h'⟩:=Th.XE h;exact ⟨[.put s],r',rfl,by simp,by simp [au,Pt.au],h'⟩
  | drop s'=>simp only [Pt.n] at hn;obtain ⟨rfl,h'⟩:=Th.RU hn h;exact ⟨[],r,by simp [kO],by simp,by simp [au],h'⟩
structure Tn (one other c:List Pt) (t:List Nat):Prop where
 MJ:av c=c
 fit:aP c t=true
 dn:aN c t=aN other (aN one t)
 MK:told 0 c=(told 0 other).map (sub (told 0 one))
 XG:told 0 (sw c)=(told 0 (sw one)).map (sub (told 0 (sw other)))
 cs:cst c≤cst one+cst other
 tt:tot c≤tot one+tot other
 ln:c.length≤tot c
theorem Qz {one other ps:List Pt}{t:List Nat}(h1:aP one t=true) (h2:aP other (aN one t)=true) (h:Th (au (av one)) (au (av other)) (au ps)):Tn one other (av ps) t:=by
 have f1:aT (aA (au (av one))) t=true:=by rw [←cW,eO,←eS];exact h1
 have f2:aT (aA (au (av other))) (dA (au (av one)) t)=true:=by rw [←cW,eO,←cK,eT,←eS];exact h2
 have b:=h.back 0 0 [] rfl
 rw [←uD,←uD,←uD,←bR,←bR,←bR] at b
 have sf:∀ c i,told i (sw (av c))=told i (sw c):=fun c i=>by
  have:=congrArg (told i) (IG (fk c));rwa [bU,bU] at this
 refine ⟨fk _,?_,?_,?_,?_,?_,?_,cz (cP (b6 _))⟩
 ·rw [iE,eS,cW];exact h.fit t f1 f2
 ·rw [eT,cK,h.done t f1,←cK,eT,←cK,eT]
 ·have:=h.told 0 0 [] rfl
  rw [←bR,←bR,←bR,bU,bU] at this
  rw [bU];exact this
 ·rw [sf,←sf one,←sf other];exact b
 ·have:=h.cost
  rw [←jm,←jm,←jm,kN,kN] at this
  rw [kN];exact this
 ·have:=h.len
  rw [eG,eG,eG,cJ,cJ] at this
  rw [cJ];exact this
section
variable (hs:F[aD]?=some dJ) (hp:F[bF]?=some fy) (ht:F[aW]?=some (gT bF aD)) (hm:F[dF]?=some sO) {one other:List Pt}{r:List At}{N:Nat}(hN:N≤5000)
noncomputable def fG (one other A B C:List Pt) (a:Option Sl):Fr:=[some (.val (aJ one)),some (.val (aJ other)),some (.own (A.map Pt.v).reverse),some (.own (B.map Pt.v).reverse),some (.own (C.map Pt.v)),a]
noncomputable def RY (one other:List Pt) (r:List At) (N k:Nat) (fr:Fr):Prop:=∃ A B C r' a,Th (au A) (au B) r'∧au C++r'=r∧(∀ p∈A,0<p.n)∧(∀ p∈B,0<p.n)∧C.length+k≤N∧k=tot A+tot B∧vo a∧fr=fG one other A B C a
include hs hp ht hm hN
noncomputable def A4 (aD dF aW:Nat):Ss:=(.cons (.set 5 (.bi .min (.cons (.cl aD (.cons (.ix (.v 2) (.neg (.c (.int 1)))) .nil)) (.cons (.cl aD (.cons (.ix (.v 3) (.neg (.c (.int 1)))) .nil)) .nil)))) (.cons (.exp (.me .extend (.v 4) (.cons (.cl dF (.cons (.cl aW (.cons (.v 2) (.cons (.v 5) .nil))) (.cons (.cl aW (.cons (.v 3) (.cons (.v 5) .nil))) .nil))) .nil))) .nil))
noncomputable def uF (aD dF aW:Nat):Ss:=.cons (.iff (.an (.v 3) (.cmp .eq (.ix (.ix (.v 3) (.neg (.c (.int 1)))) (.c (.int 0))) (.c (.str [112,117,116])))) (.cons (.exp (.me .append (.v 4) (.cons (.me .pop (.v 3) .nil) .nil))) .nil) (A4 aD dF aW)) .nil
noncomputable def uG (one other:List Pt) (r:List At) (N t:Nat) (g:Fl) (fr:Fr):Prop:=g=.nx∧∃ j,j<t∧RY one other r N j fr
omit hs hp ht hm hN in
theorem A5 {C:List Pt}(lC:C.length≤5000) (d:Pt) (fr:Fr):gi .append 4 [d.v] fr (some (some (.own (C.map Pt.v))))=.ok .bH (fr.set 4 (some (.own ((C++[d]).map Pt.v)))):=by
 rw [List.map_append];exact j6 (by simp;omega)
omit hs hp ht hm in
theorem uH (A B C:List Pt) (s:List Nat) (r':List At) (a:Option Sl) (h:Th (au A) (au (.put s :: B)) r') (hn:pN (au A)=true) (hC:au C++r'=r) (hA:∀ p∈A,0<p.n) (hB:∀ p∈(.put s :: B),0<p.n) (hk:C.length+(tot A+tot (.put s :: B))≤N) (ha:vo a) :
  Wp (exs (run F w (n+2)) w (uF aD dF aW) (fG one other A (.put s :: B) C a)) (uG one other r N (tot A+tot (.put s :: B))):=by
 have lC:C.length≤5000:=by omega
 rw [bJ] at h
 obtain ⟨r2,e2,h2⟩:=Th.ps hn h
 have hs1:=hB (.put s) (by simp)
 unfold fG
 rw [List.map_cons,List.reverse_cons]
 refine aj (aQ (dw (aG rfl (aB rfl) jk) (by (repeat (first | array_get_dec | exact dH)))) (fun _=>?_) fun h=>absurd h (by decide))
 refine aj (gh (by (repeat (first | array_get_dec | exact qC | exact A5 lC _ _))) (aF (aF ?_)))
 refine ⟨rfl,tot A+tot B,by rw [bI];omega,A,B,C++[.put s],r2,a,h2,?_,hA,fun x hx=>hB x (by simp [hx]),?_,rfl,ha,rfl⟩
 ·rw [←hC,e2,di];simp [au,Pt.au]
 ·rw [bI] at hk;simp;omega
omit hN in
theorem ML (A B C mm:List Pt) (p q:Pt) (m:Nat) (a:Option Sl) (mn:dz .min [.int p.n,.int q.n]=some (.int m)) (hm1:m≤p.n) (hm2:m≤q.n) (lp:p.n≤5000) (lq:q.n≤5000) (lA:A.length≤5000) (lB:B.length≤5000) (lC:C.length+mm.length≤10000) (e1:kO (p.tk m) (q.tk m)=some mm) (ha:vo a) (Q:Fl→Fr→Prop)
  (hQ:Q .nx (fG one other (gv m p++A) (gv m q++B) (C++mm) (some (.val (.int m))))):Wp (exs (run F w (n+2)) w (A4 aD dF aW) (fG one other (p :: A) (q :: B) C a)) Q:=by
 have z1:=fun fr=>cZ (fr:=fr) (iB (F:=F) (w:=w) (n:=n+1) hs p (Nat.le_trans lp (by decide)))
 have z2:=fun fr=>cZ (fr:=fr) (iB (F:=F) (w:=w) (n:=n+1) hs q (Nat.le_trans lq (by decide)))
 have t1:=mJ (F:=F) (w:=w) (n:=n) hs hp ht (A.map Pt.v).reverse p m hm1 (by omega) (by simp;omega)
 have t2:=mJ (F:=F) (w:=w) (n:=n) hs hp ht (B.map Pt.v).reverse q m hm2 (by omega) (by simp;omega)
 rw [←wH] at t1 t2
 have cm:=fun fr=>call2 (fr:=fr) (IQ (F:=F) (w:=w) (n:=n+1) hm _ _ mm e1)
 have ex:∀ fr:Fr,gi .extend 4 [.lst (mm.map Pt.v)] fr (some (some (.own (C.map Pt.v))))=.ok .bH (fr.set 4 (some (.own ((C++mm).map Pt.v)))):=fun fr=>by
  rw [List.map_append];exact wD (by simp;omega)
 unfold fG at hQ ⊢
 rw [List.map_cons,List.reverse_cons,List.map_cons,List.reverse_cons]
 refine aj (bg (by (repeat (first | array_get_dec | exact dH | exact z1 _ | exact z2 _))) rfl (iU rfl ha) ?_)
 exact aj (gh (by (repeat (first | array_get_dec | exact yz rfl t1 | exact yz rfl t2 | exact cm _ | exact ex _))) (aF hQ))
theorem DN (A B C:List Pt) (p q:Pt) (r':List At) (a:Option Sl) (hd:dM p=false) (hq:cH q=false) (h:Th (au (p :: A)) (au (q :: B)) r') (hC:au C++r'=r) (hA:∀ x∈p :: A,0<x.n) (hB:∀ x∈q :: B,0<x.n) (hk:C.length+(tot (p :: A)+tot (q :: B))≤N) (ha:vo a) :
  Wp (exs (run F w (n+2)) w (uF aD dF aW) (fG one other (p :: A) (q :: B) C a)) (uG one other r N (tot (p :: A)+tot (q :: B))):=by
 have hp0:=hA p (by simp)
 have YU:=hB q (by simp)
 obtain ⟨m,hm1,hm2,MM⟩:∃ m:Nat,m≤p.n∧m≤q.n∧(m=p.n∨m=q.n):=⟨min p.n q.n,by omega,by omega,by omega⟩
 have mn:dz .min [.int p.n,.int q.n]=some (.int m):=by
  rw [Ar]
  split
  ·congr 2;omega
  ·congr 2;omega
 rw [bI,bI] at hk
 have lA:=cz (c:=A) fun x hx=>hA x (by simp [hx])
 have lB:=cz (c:=B) fun x hx=>hB x (by simp [hx])
 have h3:Th ((p.tk m).au++au (gv m p++A)) ((q.tk m).au++au (gv m q++B)) r':=by
  rw [di,di,←List.append_assoc,←List.append_assoc,←qH hm1,←qH hm2,←bJ,←bJ];exact h
 obtain ⟨mm,r2,e1,e2,e3,h4⟩:=MI (p.tk m) (q.tk m) (by rw [wI.1];exact hd) (by rw [wI.2];exact hq) (by rw [(pR hm1).2,(pR hm2).2]) h3
 have fin:uG one other r N (tot (p :: A)+tot (q :: B)) .nx (fG one other (gv m p++A) (gv m q++B) (C++mm) (some (.val (.int m)))):=by
  refine ⟨rfl,_,?_,_,_,_,r2,_,h4,?_,?_,?_,?_,rfl,.val,rfl⟩
  ·rw [cO,cO,kg,kg,bI,bI];omega
  ·rw [di,List.append_assoc,←e3];exact hC
  ·intro x hx
   rcases List.mem_append.mp hx with hx | hx
   ·exact qI m p x hx
   ·exact hA x (List.mem_cons_of_mem _ hx)
  ·intro x hx
   rcases List.mem_append.mp hx with hx | hx
   ·exact qI m q x hx
   ·exact hB x (List.mem_cons_of_mem _ hx)
  ·rw [cO,cO,kg,kg,List.length_append];omega
 have st:=ML (one:=one) (other:=other) (w:=w) (n:=n) hs hp ht hm A B C mm p q m a mn hm1 hm2 (by omega) (by omega) (by omega) (by omega) (by omega) e1 ha _ (show nx (run F w (n+2)) w .nil (uG one other r N (tot (p :: A)+tot (q :: B))) .nx _ from aF fin)
 unfold fG at st ⊢
 rw [List.map_cons,List.reverse_cons,List.map_cons,List.reverse_cons] at st ⊢
 cases q with
 | put s=>cases hq
 | keep k=>exact aj (aQ (dw (aG rfl (aB rfl) jk) (by (repeat (first | array_get_dec | exact dH)))) (fun h=>absurd h (by decide)) fun _=>st)
 | drop s=>exact aj (aQ (dw (aG rfl (aB rfl) jk) (by (repeat (first | array_get_dec | exact dH)))) (fun h=>absurd h (by decide)) fun _=>st)
omit hs hp ht hm hN in
theorem RZ {b r:List At}{x:At}(h:Th [] (x :: b) r):∃ c,x=.p c:=by cases h with | p=>exact ⟨_,rfl⟩
omit hs hp ht hm hN in
theorem R0 {a r:List At}{x:At}(h:Th (x :: a) [] r):∃ c,x=.d c:=by cases h with | d=>exact ⟨_,rfl⟩
theorem A6 (A B C:List Pt) (r':List At) (a:Option Sl) (hne:A≠[]∨B≠[]) (h:Th (au A) (au B) r') (hC:au C++r'=r) (hA:∀ p∈A,0<p.n) (hB:∀ p∈B,0<p.n) (hk:C.length+(tot A+tot B)≤N) (ha:vo a) :
  Wp (exs (run F w (n+2)) w (uE aD dF aW) (fG one other A B C a)) (uG one other r N (tot A+tot B)):=by
 cases A with
 | nil=>
  cases B with
  | nil=>exact absurd hne (by simp)
  | cons q B'=>
   refine aj (aQ (mD (aG rfl (aB rfl) rfl)) (fun h=>absurd h (by decide)) fun _=>?_)
   have hq:=hB q (by simp)
   cases q with
   | put s=>exact (uH hN [] B' C s r' a h rfl hC hA hB hk ha).mono fun g fr ⟨hg,hx⟩=>by subst hg;exact aF ⟨rfl,hx⟩
   | keep k=>
    rw [bJ] at h
    cases k with
    | zero=>exact absurd hq (Nat.lt_irrefl 0)
    | succ k=>obtain ⟨c,e⟩:=RZ (x:=.k) h;cases e
   | drop s=>
    rw [bJ] at h
    cases s with
    | nil=>exact absurd hq (Nat.lt_irrefl 0)
    | cons c s=>obtain ⟨c,e⟩:=RZ (x:=.d c) h;cases e
 | cons p A'=>
  have hp0:=hA p (by simp)
  cases hd:dM p with
  | true=>
   cases p with
   | keep k=>cases hd
   | put s=>cases hd
   | drop s=>
    have lC:C.length≤5000:=by omega
    rw [bJ] at h
    obtain ⟨r2,e2,h2⟩:=Th.ds h
    unfold fG
    rw [List.map_cons,List.reverse_cons]
    refine aj (aQ (dw (aG rfl (aB rfl) jk) (by (repeat (first | array_get_dec | exact dH)))) (fun _=>?_) fun h=>absurd h (by decide))
    refine aj (gh (by (repeat (first | array_get_dec | exact qC | exact A5 lC _ _))) (aF (aF ?_)))
    refine ⟨rfl,tot A'+tot B,by rw [bI];omega,A',B,C++[.drop s],r2,a,h2,?_,fun x hx=>hA x (by simp [hx]),hB,?_,rfl,ha,rfl⟩
    ·rw [←hC,e2,di];simp [au,Pt.au]
    ·rw [bI] at hk;simp;omega
  | false=>
   have st:Wp (exs (run F w (n+2)) w (uF aD dF aW) (fG one other (p :: A') B C a)) (uG one other r N (tot (p :: A')+tot B)):=by
    cases B with
    | nil=>
     exfalso
     rw [bJ] at h
     cases p with
     | drop s=>cases hd
     | keep k=>cases k with | zero=>exact absurd hp0 (Nat.lt_irrefl 0) | succ k=>obtain ⟨c,e⟩:=R0 (x:=.k) h;cases e
     | put s=>cases s with | nil=>exact absurd hp0 (Nat.lt_irrefl 0) | cons c s=>obtain ⟨c,e⟩:=R0 (x:=.p c) h;cases e
    | cons q B'=>
     cases hq:cH q with
     | true=>
      have hnd:pN (au (p :: A'))=true:=by
       rw [bJ]
       cases p with
       | drop s=>cases hd
       | keep k=>cases k <;> first | exact absurd hp0 (Nat.lt_irrefl 0) | rfl
       | put s=>cases s <;> first | exact absurd hp0 (Nat.lt_irrefl 0) | rfl
      cases q with
      | keep k=>cases hq
      | drop s=>cases hq
      | put s=>exact uH hN (p :: A') B' C s r' a h hnd hC hA hB hk ha
     | false=>exact DN hs hp ht hm hN A' B' C p q r' a hd hq h hC hA hB hk ha
   replace st:=st.mono (Q':=nx (run F w (n+2)) w .nil (uG one other r N (tot (p :: A')+tot B))) fun g fr ⟨hg,hx⟩=>by subst hg;exact aF ⟨rfl,hx⟩
   unfold fG at st ⊢
   rw [List.map_cons,List.reverse_cons] at st ⊢
   cases p with
   | drop s=>cases hd
   | keep k=>exact aj (aQ (dw (aG rfl (aB rfl) jk) (by (repeat (first | array_get_dec | exact dH)))) (fun h=>absurd h (by decide)) fun _=>st)
   | put s=>exact aj (aQ (dw (aG rfl (aB rfl) jk) (by (repeat (first | array_get_dec | exact dH)))) (fun h=>absurd h (by decide)) fun _=>st)
omit hs hp ht hm hN in
theorem A7 (c:List Pt):bY c≤tot c:=by rw [←kL c 0];exact ID c 0
omit hN in
theorem DO (hst:F[aR]?=some dj) (hf:F[aZ]?=some (fW aR)) (hb:F[bB]?=some (gE aD)) (ha:F[cY]?=some (j8 aD)) (A8:F[i]?=some (kc cY bB aZ aD dF aW)) (hw:5000<w)
  (one other:List Pt) (t:List Nat) (h1:aP one t=true) (h2:aP other (aN one t)=true) (b1:tot one≤2000) (b2:tot other≤2000) (l1:one.length≤2000) (l2:other.length≤2000) :
  ∃ c,run F w (n+3) i [.val (aJ one),.val (aJ other)]=some (aJ c,[])∧Tn one other c t:=by
 have f1:aT (aA (au (av one))) t=true:=by rw [←cW,eO,←eS];exact h1
 have f2:aT (aA (au (av other))) (dA (au (av one)) t)=true:=by rw [←cW,eO,←cK,eT,←eS];exact h2
 obtain ⟨r,hr⟩:=Th.all _ _ _ t (Nat.le_refl _) f1 f2
 have e1:bY one=aM other:=by rw [←om h1,e8 h2]
 have ne:cop .ne (.int (bY one)) (.int (aM other))=some false:=by rw [yl,e1];simp
 have c1:=fun fr=>cZ (fr:=fr) (mG (F:=F) (w:=w) (n:=n) hs ha one (by omega) (by omega))
 have c2:=fun fr=>cZ (fr:=fr) (jj (F:=F) (w:=w) (n:=n) hs hb other (by omega) (by omega))
 have c3:=fun fr=>cZ (fr:=fr) (gF (F:=F) (w:=w) (n:=n) hst hf one (by omega) (by omega))
 have c4:=fun fr=>cZ (fr:=fr) (gF (F:=F) (w:=w) (n:=n) hst hf other (by omega) (by omega))
 have t1:=cJ one
 have t2:=cJ other
 have g1:=cz (cP (b6 one))
 have g2:=cz (cP (b6 other))
 have m1:dX ((av one).map Pt.v).reverse=some (.lst ((av one).map Pt.v).reverse):=eW (bZ (by simp;omega))
 have m2:dX ((av other).map Pt.v).reverse=some (.lst ((av other).map Pt.v).reverse):=eW (bZ (by simp;omega))
 have key:Wp (exs (run F w (n+2)) w (kc cY bB aZ aD dF aW).body (fz (kc cY bB aZ aD dF aW) [.val (aJ one),.val (aJ other)])) fun g fr=>∃ ps,au ps=r∧g=.ret (aJ (av ps))∧outs 2 fr=[]:=by
  refine aj (aQ (by (repeat (first | array_get_dec | exact c1 _ | exact c2 _))) (fun h=>absurd h (by decide)) fun _=>aF ?_)
  refine aj (iT (l:=((av one).map Pt.v).reverse) (pF (uq (aV (aC rfl (aB rfl) aE) (c3 _)) rfl) m1) rfl rfl ?_)
  refine aj (iT (l:=((av other).map Pt.v).reverse) (pF (uq (aV (aC rfl (aB rfl) aE) (c4 _)) rfl) m2) rfl rfl ?_)
  refine aj (iT (l:=[]) (by repeat array_get_dec) rfl rfl ?_)
  refine aj (Fd (pq (RY one other r (tot one+tot other)) (fun k fr hI=>?_) w (tot one+tot other) _ (by omega) ⟨av one,av other,[],r,none,hr,rfl,cP (b6 one),cP (b6 other),by simp,by omega,.none,rfl⟩))
  obtain ⟨A,B,C,r',a,hT,hC,hA,hB,hk,hkk,wJ,rfl⟩:=hI
  by_cases hne:A≠[]∨B≠[]
  ·have ht1:aL (run F w (n+2)) (.orr (.v 2) (.v 3)) (fG one other A B C a)=.ok true (fG one other A B C a):=by
    cases A with
    | cons p A=>unfold fG;rw [List.map_cons,List.reverse_cons];exact pH (aG rfl (aB rfl) jk)
    | nil=>
     cases B with
     | nil=>simp at hne
     | cons q B=>unfold fG;rw [List.map_cons,List.reverse_cons];exact gu (aG rfl (aB rfl) rfl) (aG rfl (aB rfl) jk)
   refine ⟨true,_,ht1,?_⟩
   dsimp only
   rw [if_pos rfl]
   refine (A6 hs hp ht hm (N:=tot one+tot other) (by omega) A B C r' a hne hT hC hA hB (by omega) wJ).mono fun g fr ⟨hg,hx⟩=>?_
   subst hg hkk
   exact hx
  ·obtain ⟨rfl,rfl⟩:A=[]∧B=[]:=by simpa using hne
   refine ⟨false,_,gu (aG rfl (aB rfl) rfl) (aG rfl (aB rfl) rfl),?_⟩
   dsimp only
   rw [if_neg (by decide)]
   cases hT
   rw [List.append_nil] at hC
   subst hC
   have lC:=hr.len
   rw [eG,eG,eG] at lC
   have mt:toT (.lst (C.map Pt.v))=some (aJ C):=by rw [wA];exact iS (bZ (by simp;omega))
   have c5:=fun fr=>cZ (fr:=fr) (gF (F:=F) (w:=w) (n:=n) hst hf C (by omega) (by omega))
   have sh:gf (fG one other [] [] C a)=[some (.val (aJ one)),some (.val (aJ other)),some (.val (.lst [])),some (.val (.lst [])),some (.val (.lst (C.map Pt.v))),a]:=by
    show _ :: _ :: _ :: _ :: _ :: [a.map Sl.gk]=_
    rw [fD wJ];rfl
   refine aj (bX (v:=aJ (av C)) (ah:=[some (.val (aJ one)),some (.val (aJ other)),some (.val (.lst [])),some (.val (.lst [])),some (.val (.lst (C.map Pt.v))),a]) ?_ ⟨C,rfl,rfl,rfl⟩)
   rw [sh]
   exact aV (aC rfl (sI (aB rfl) mt) aE) (c5 _)
 obtain ⟨g,fr,e,ps,hps,rfl,ho⟩:=key
 refine ⟨av ps,?_,Qz h1 h2 (hps▸hr)⟩
 rw [run_eq A8 rfl,e]
 simp only [Ia]
 rw [show outs (kc cY bB aZ aD dF aW).np fr=[] from ho]
end
end
end Pv
namespace Pv
open Ev (D bV bQ TY BI ME T E Es Eo It S Ss Fn big deep b2i rep cB er bN aS cut cT ef slots)
section
variable {F:List Fn}{w n bF aD dF aW aZ aR cY bB dm pQ i:Nat}
noncomputable def R1 (t:List Nat) (rs:List (List Pt)):List Nat:=rs.foldl (fun s c=>aN c s) t
noncomputable def R3 (T:List Tq) (rs:List (List Pt)):List Tq:=rs.foldl (fun T c=>(told 0 c).map (sub T)) T
noncomputable def eE (rs:List (List Pt)):Nat:=(rs.map tot).sum
theorem MN {a b:List Pt}{t:List Nat}(fa:av a=a) (fb:av b=b) (ha:aP a t=true) (hb:aP b t=true) (h:told 0 a=told 0 b):a=b:=by rw [←fa,←fb];exact AW ha hb h
structure An (c:List Pt) (t:List Nat) (rs:List (List Pt)):Prop where
 MJ:av c=c
 fit:aP c t=true
 dn:aN c t=R1 t rs
 MK:told 0 c=R3 (told 0 [.keep t.length]) rs
 XG:told 0 (sw c)=R3 (told 0 [.keep (R1 t rs).length]) (rs.map Vf).reverse
 tt:tot c≤t.length+eE rs
 ln:c.length≤tot c
section
variable (hs:F[aD]?=some dJ) (hp:F[bF]?=some fy) (ht:F[aW]?=some (gT bF aD)) (hm:F[dF]?=some sO)
 (hst:F[aR]?=some dj) (hf:F[aZ]?=some (fW aR)) (hb:F[bB]?=some (gE aD)) (ha:F[cY]?=some (j8 aD)) (A8:F[pQ]?=some (kc cY bB aZ aD dF aW)) (hno:F[dm]?=some (gR aZ)) (hw:5000<w)
include hs hp ht hm hst hf hb ha A8 hno hw
end
end
end Pv
namespace Pv
section
variable {t:List Nat}{p q rs:List (List Pt)}{s e w x y c:List Pt}
end
open Ev (D bV bQ TY BI ME T E Es Eo It S Ss Fn big deep b2i rep cB er bN aS cut cT ef slots)
inductive Hd (L:List V):Sl→List (List V)→Prop
 | val:Hd L (.val (.lst L)) []
 | bor:Hd L (.bor L) [L]
section
variable {F:List Fn}{w n bF aD dF aW aZ aR cY bB dm pQ i:Nat}
section
variable (hs:F[aD]?=some dJ) (hp:F[bF]?=some fy) (ht:F[aW]?=some (gT bF aD)) (hm:F[dF]?=some sO)
 (hst:F[aR]?=some dj) (hf:F[aZ]?=some (fW aR)) (hb:F[bB]?=some (gE aD)) (ha:F[cY]?=some (j8 aD)) (A8:F[pQ]?=some (kc cY bB aZ aD dF aW)) (hno:F[dm]?=some (gR aZ)) (hw:5000<w)
include hs hp ht hm hst hf hb ha A8 hno hw
end
end
end Pv
namespace Pv
open Ev (deep big rep cut bN)
noncomputable def YK:At→Bool
 | .p _=>false
 | _=>true
theorem kP {a b:List Pt}(h:au a=au b):av a=av b:=(gH a b).mpr (by simp only [g9,cW,bR,h])
theorem uI {a a' b b':List Pt}(h1:av a=av a') (h2:av b=av b'):av (a++b)=av (a'++b'):=by
 have e1:=(gH _ _).mp h1
 have e2:=(gH _ _).mp h2
 simp only [g9,Prod.mk.injEq] at e1 e2
 refine (gH _ _).mpr ?_
 have key:∀ k,told k b=told k b':=fun k=>by
  have q1:=(bU b k).symm
  rw [h2,bU] at q1
  exact q1
 simp only [g9,dI,fY,e1.1,e1.2,e2.1,key]
theorem pS:∀ {x y:List (List Nat)}{t:List Nat},aT (x++y) t=true→aT x (t.take x.length)=true∧aT y (t.drop x.length)=true
 | [],_,_,h=>⟨rfl,h⟩
 | _ :: x,y,[],h=>by simp [aT] at h
 | z :: x,y,c :: t,h=>by
  simp only [List.cons_append,aT,Bool.and_eq_true] at h
  obtain ⟨h1,h2⟩:=pS h.2
  exact ⟨by simp only [List.length_cons,List.take_succ_cons,aT,Bool.and_eq_true];exact ⟨h.1,h1⟩,by simpa using h2⟩
theorem kh:∀ (a b:List At) (t:List Nat),dA (a++b) t=dA a (t.take (aA a).length)++dA b (t.drop (aA a).length)
 | [],b,t=>by simp [dA,aA]
 | .k :: a,b,t=>by
  simp only [List.cons_append,dA,aA,List.length_cons,kh a b]
  cases t with
  | nil=>simp
  | cons c t=>simp
 | .d c :: a,b,t=>by
  simp only [List.cons_append,dA,aA,List.length_cons,kh a b]
  cases t with
  | nil=>simp
  | cons c t=>simp
 | .p c :: a,b,t=>by simp only [List.cons_append,dA,aA,kh a b]
noncomputable def fZ:List At→Bool
 | .p _ :: _=>false
 | _=>true
structure Cut (c:List Pt) (p:Nat) (A B:List Pt):Prop where
 at_:au A++au B=au (av c)
 bA:aM A=p
 hd:fZ (au B)=true
 pA:∀ q∈A,0<q.n
 pB:∀ q∈B,0<q.n
 fA:dN A=true
 fB:dN B=true
section
variable {c A B:List Pt}{p:Nat}{t:List Nat}
theorem d8 (c:List Pt):aM c=(aA (au c)).length:=by rw [←cW,kK]
theorem Cut.fit (h:Cut c p A B) (hf:aP c t=true):aP A (t.take p)=true∧aP B (t.drop p)=true:=by
 rw [←iE,eS,cW,←h.at_,fc] at hf
 obtain ⟨h1,h2⟩:=pS hf
 rw [←d8,h.bA] at h1 h2
 exact ⟨by rw [eS,cW];exact h1,by rw [eS,cW];exact h2⟩
theorem Cut.done (h:Cut c p A B):aN A (t.take p)++aN B (t.drop p)=aN c t:=by
 rw [←eT c,cK (av c),←h.at_,kh,←d8,h.bA,←cK,←cK]
theorem Cut.join (h:Cut c p A B):av (A++B)=av c:=by
 rw [kP (show au (A++B)=au (av c) by rw [di];exact h.at_),fk]
theorem Cut.qJ (h:Cut c p A B):p+aM B=aM c:=by rw [←iD c,d8 (av c),←h.at_,fc,List.length_append,←d8,←d8,h.bA]
theorem Cut.eE (h:Cut c p A B):tot A+tot B=tot c:=by rw [←cJ c,←eG (av c),←h.at_,List.length_append,eG,eG]
theorem Cut.lA (h:Cut c p A B):A.length≤tot A:=cz h.pA
theorem Cut.lB (h:Cut c p A B):B.length≤tot B:=cz h.pB
end
theorem Vg {a b:List Nat}{l:List (List Nat)}(h:gG (a :: b :: l)=true):dR a b=true:=by
 simp only [gG,List.tail_cons,List.zip_cons_cons,List.all_cons,Bool.and_eq_true] at h;exact h.1
theorem IS {B:List Pt}(h:fZ (au B)=true):fZ (au (av B))=true:=by
 cases e:au (av B) with
 | nil=>rfl
 | cons x r=>
  cases x with
  | k=>rfl
  | d y=>rfl
  | p x=>
   exfalso
   have ht:tA 0 (au B)=.sg x :: tA 0 r:=by rw [←bR,←bU,bR,e];rfl
   have ha:asks (av B)=asks B:=eO B
   rw [cW B] at ha
   have hF:=b6 B
   have hp:=cP hF
   cases f:av B with
   | nil=>rw [f] at e;cases e
   | cons p0 rest=>
    rw [f] at e hF hp ha
    cases p0 with
    | keep n=>
     have hn:=hp _ (.head _)
     cases n with
     | zero=>exact absurd hn (by simp [Pt.n])
     | succ n=>rw [bJ] at e;simp [Pt.au,List.replicate_succ] at e
    | drop s=>
     have hn:=hp _ (.head _)
     cases s with
     | nil=>exact absurd hn (by simp [Pt.n])
     | cons y s=>rw [bJ] at e;simp [Pt.au] at e
    | put s=>
     cases g:au B with
     | nil=>rw [g] at ht;cases ht
     | cons z r2=>
      rw [g] at ht h ha
      cases z with
      | k=>simp only [tA,List.cons.injEq,reduceCtorEq,false_and] at ht
      | p z=>simp [fZ] at h
      | d z=>
       have a1:asks (Pt.put s :: rest)=asks rest:=by simp [asks,Pt.asks]
       rw [a1] at ha
       cases rest with
       | nil=>simp [asks,aA] at ha
       | cons q rest=>
        have hw:gG ((Pt.put s :: q :: rest).map Pt.word)=true:=by simp only [dN,Bool.and_eq_true] at hF;exact hF.1
        have ho:dR jO q.word=true:=by
         simp only [List.map_cons] at hw
         exact Vg hw
        cases q with
        | put s2=>simp [dR,Pt.word] at ho
        | drop s2=>simp [dR,Pt.word] at ho
        | keep n=>
         have hn:=hp (.keep n) (.tail _ (.head _))
         cases n with
         | zero=>exact absurd hn (by simp [Pt.n])
         | succ n=>simp [asks,Pt.asks,List.replicate_succ,aA] at ha
theorem Vh {B A2 B2:List Pt}(h:fZ (au B)=true) (hc:Cut B 0 A2 B2):A2=[]:=by
 cases A2 with
 | nil=>rfl
 | cons q A2=>
  exfalso
  have h1:=IS h
  rw [←hc.at_] at h1
  have h2:=hc.bA
  have h3:=hc.pA q (.head _)
  rw [d8] at h2
  rw [bJ,fc] at h2
  have h4:(aA q.au).length=0:=by rw [List.length_append] at h2;omega
  rw [bJ] at h1
  cases q with
  | keep n=>rw [sN] at h4;simp [Pt.asks] at h4;simp [Pt.n,h4] at h3
  | drop s=>rw [sN] at h4;simp [Pt.asks] at h4;simp [Pt.n,h4] at h3
  | put s=>
   cases s with
   | nil=>simp [Pt.n] at h3
   | cons x s=>simp [Pt.au,fZ] at h1
theorem wK (L:List Tq):∀ (n k:Nat),k+n≤L.length→((List.range n).map fun j=>Tq.at (k+j)).map (sub L)=(L.drop k).take n:=fun n k h=>by
 apply List.ext_getElem?
 intro i
 by_cases hi:i<n
 ·have:k+i<L.length:=by omega
  simp [hi,sub,List.getElem?_take,List.getElem?_drop,List.getElem?_eq_getElem this,List.getD]
 ·rw [List.getElem?_eq_none (by simp;omega),List.getElem?_eq_none (by simp;omega)]
end Pv
namespace Pv
open Ev (D bV bQ TY BI ME T E Es Eo It S Ss Fn big deep rep cut bN)
noncomputable def yC (cS:Nat):S:=.ret (.cl cS (.cons (.bin .add (.v 0) (.v 1)) .nil))
noncomputable def kQ (cS:Nat):Fn:=⟨2,2,(.cons (yC cS) .nil)⟩
noncomputable def IT (d7:Nat):S:=.iff (.orr (.cmp .lt (.v 1) (.c (.int 0))) (.cmp .gt (.v 1) (.cl d7 (.cons (.v 0) .nil)))) (.cons (.fJ) .nil) .nil
noncomputable def IU (cS:Nat):S:=.set 2 (.gn (.rev (.cl cS (.cons (.v 0) .nil))))
noncomputable def IV:S:=.set 3 (.lst .nil)
noncomputable def IW:S:=.set 4 (.v 1)
noncomputable def qK (bz:Nat) (eH:Nat):Ss:=(.cons (.iff (.cmp .eq (.ix (.ix (.v 2) (.neg (.c (.int 1)))) (.c (.int 0))) (.c (.str [112,117,116]))) (.cons (.exp (.me .append (.v 3) (.cons (.me .pop (.v 2) .nil) .nil))) .nil) (.cons (.set 5 (.bi .min (.cons (.v 4) (.cons (.cl bz (.cons (.ix (.v 2) (.neg (.c (.int 1)))) .nil)) .nil)))) (.cons (.exp (.me .append (.v 3) (.cons (.cl eH (.cons (.v 2) (.cons (.v 5) .nil))) .nil))) (.cons (.set 4 (.bin .sub (.v 4) (.v 5))) .nil)))) .nil)
noncomputable def IX (bz:Nat) (eH:Nat):S:=.lP (.an (.v 2) (.orr (.cmp .gt (.v 4) (.c (.int 0))) (.cmp .eq (.ix (.ix (.v 2) (.neg (.c (.int 1)))) (.c (.int 0))) (.c (.str [112,117,116]))))) (qK bz eH)
noncomputable def wL:S:=.ret (.tup (.cons (.iZ (.v 3)) (.cons (.lz (.v 2)) .nil)))
noncomputable def pT (d7:Nat) (cS:Nat) (bz:Nat) (eH:Nat):Fn:=⟨2,6,(.cons (IT d7) (.cons (IU cS) (.cons IV (.cons IW (.cons (IX bz eH) (.cons wL .nil))))))⟩
noncomputable def DP (iO:Nat):S:=.set 3 (.ix (.cl iO (.cons (.v 0) (.cons (.v 1) .nil))) (.c (.int 1)))
noncomputable def DQ (qL:Nat) (iO:Nat) (d7:Nat):S:=.ret (.cl qL (.cons (.v 1) (.cons (.ix (.cl iO (.cons (.v 3) (.cons (.bin .sub (.v 2) (.v 1)) .nil))) (.c (.int 0))) (.cons (.bin .sub (.cl d7 (.cons (.v 0) .nil)) (.v 2)) .nil))))
noncomputable def MO (iO:Nat) (qL:Nat) (d7:Nat):Fn:=⟨3,4,(.cons (DP iO) (.cons (DQ qL iO d7) .nil))⟩
noncomputable def A9 (kR:Nat) (jI:Nat):S:=.ret (.cl kR (.cons (.cl kR (.cons (.cl jI (.cons (.v 0) .nil)) (.cons (.v 1) .nil))) (.cons (.cl jI (.cons (.v 2) .nil)) .nil)))
noncomputable def qM (kR:Nat) (jI:Nat):Fn:=⟨3,3,(.cons (A9 kR jI) .nil)⟩
section
variable {F:List Fn}{w n aD aR aZ bB bF aW dm gI kT ni i:Nat}
theorem kU (hst:F[aR]?=some dj) (hf:F[aZ]?=some (fW aR)) (hd:F[i]?=some (kQ aZ)) (a b:List Pt) (h1:a.length+b.length≤10000) (h2:tot a+tot b≤10000):run F w (n+3) i [.val (aJ a),.val (aJ b)]=some (aJ (av (a++b)),[]):=by
 have cf:=fun fr=>cZ (fr:=fr) (gF (w:=w) (n:=n) hst hf (a++b) (by simp;omega) (by rw [cO];omega))
 exact cI hd rfl (aj (bX (aV (aC rfl (bw (aB rfl) (aB rfl) (sL (by omega))) aE) (cf _)) ⟨rfl,rfl⟩))
noncomputable def cG (m:Nat) (c:List Pt) (k:Nat):List Pt:=av ([.keep m]++c++[.keep k])
theorem Ba (m:Nat) (c:List Pt) (k:Nat):av (av (av [.keep m]++c)++av [.keep k])=cG m c k:=
 uI ((fk _).trans (uI (fk _) rfl)) (fk _)
theorem Bb (hst:F[aR]?=some dj) (hf:F[aZ]?=some (fW aR)) (hj:F[gI]?=some (kQ aZ)) (hn:F[dm]?=some (gR aZ)) (hd:F[i]?=some (qM gI dm)) (m k:Nat) (c:List Pt) (h1:c.length≤3000) (h2:m+tot c+k≤3000) :
  run F w (n+4) i [.val (.int m),.val (aJ c),.val (.int k)]=some (aJ (cG m c k),[]):=by
 have b1:∀ j:Nat,tot (av [Pt.keep j])=j:=fun j=>by rw [cJ];simp [tot,Pt.n]
 have b2:∀ j:Nat,(av [Pt.keep j]).length≤3:=fun j=>by unfold av b9;simp [aX,dQ];split <;> simp [bD] <;> split <;> simp
 have n1:=fun fr=>cZ (fr:=fr) (jR (F:=F) (w:=w) (n:=n) hst hf hn m (by omega))
 have n2:=fun fr=>cZ (fr:=fr) (jR (F:=F) (w:=w) (n:=n) hst hf hn k (by omega))
 have g1:=b1 m
 have g2:=b1 k
 have g3:=b2 m
 have g4:=b2 k
 have j1:=fun fr=>call2 (fr:=fr) (kU (F:=F) (w:=w) (n:=n) hst hf hj (av [.keep m]) c (by omega) (by omega))
 have t1:tot (av (av [.keep m]++c))=m+tot c:=by rw [cJ,cO,g1]
 have l1:=cz (cP (b6 (av [.keep m]++c)))
 have j2:=fun fr=>call2 (fr:=fr) (kU (F:=F) (w:=w) (n:=n) hst hf hj (av (av [.keep m]++c)) (av [.keep k]) (by omega) (by omega))
 rw [Ba] at j2
 exact cI hd rfl (aj (bX (aV (aC rfl (aV (aC rfl (aV (aC rfl (aB rfl) aE) (n1 _)) (aC rfl (aB rfl) aE)) (j1 _)) (aC rfl (aV (aC rfl (aB rfl) aE) (n2 _)) aE)) (j2 _)) ⟨rfl,rfl⟩))
noncomputable def gb (c:List Pt) (p:Nat) (R C:List Pt) (l:Nat) (a:Option Sl):Fr:=[some (.val (aJ c)),some (.val (.int p)),some (.own (R.map Pt.v).reverse),some (.own (C.map Pt.v)),some (.val (.int l)),a]
noncomputable def pU (C R:List Pt) (l:Nat):Prop:=dN C=true∧dN R=true∧((∀ x∈C.getLast?,∀ y∈R.head?,dR x.word y.word=true)∨l=0∧∀ y∈R.head?,cH y=false)
noncomputable def Fv (c:List Pt) (p k:Nat) (fr:Fr):Prop:=∃ R C l a,pU C R l∧au C++au R=au (av c)∧aM C+l=p∧l≤aM R∧(∀ q∈R,0<q.n)∧(∀ q∈C,0<q.n)∧k=tot R∧vo a∧fr=gb c p R C l a
noncomputable def XH:E:=.an (.v 2) (.orr (.cmp .gt (.v 4) (.c (.int 0))) (.cmp .eq (.ix (.ix (.v 2) (.neg (.c (.int 1)))) (.c (.int 0))) (.c (.str [112,117,116]))))
theorem kW {q:Pt}{R:List Pt}(h:dN (q :: R)=true):dN R=true∧dN [q]=true∧∀ y∈R.head?,dR q.word y.word=true:=by
 simp only [dN,Bool.and_eq_true,List.map_cons,List.all_cons] at h ⊢
 cases R with
 | nil=>exact ⟨⟨rfl,rfl⟩,⟨rfl,by simp [h.2.1]⟩,fun y hy=>by cases hy⟩
 | cons r R=>
  have:=qF [q.word] ((r :: R).map Pt.word)
  have h2:=this.mp h.1
  exact ⟨⟨h2.2.1,h.2.2⟩,⟨rfl,by simp [h.2.1]⟩,fun y hy=>by simp at hy;subst hy;exact h2.2.2 _ (by simp) _ (by simp)⟩
theorem DR {q:Pt}{R:List Pt}(h:dN R=true) (hq:0<q.n) (hr:∀ y∈R.head?,dR q.word y.word=true):dN (q :: R)=true:=
 nh (a:=[q]) (b:=R) (by simp [dN,gG,AD];omega) h fun p hp y hy=>by simp at hp;subst hp;exact hr y hy
theorem pU.put {C R:List Pt}{q:Pt}{l:Nat}(h:pU C (q :: R) l) (hq:cH q=true):pU (C++[q]) R l:=by
 obtain ⟨h1,h2,h3⟩:=h
 obtain ⟨t1,t2,t3⟩:=kW h2
 rcases h3 with h3 | ⟨_,h3⟩
 ·exact ⟨nh h1 t2 fun p hp y hy=>by simp at hy;subst hy;exact h3 p hp _ (by simp),t1,.inl fun x hx y hy=>by simp at hx;subst hx;exact t3 y hy⟩
 ·have:=h3 q (by simp);rw [hq] at this;cases this
theorem qN (m:Nat) (q:Pt):(q.tk m).word=q.word∧(q.dp m).word=q.word:=by cases q <;> exact ⟨rfl,rfl⟩
theorem pU.two {C R:List Pt}{q:Pt}{l m:Nat}(h:pU C (q :: R) l) (l0:0<l) (hq:cH q=false) (m0:0<m) (hm:m≤q.n) (MM:m=l∨m=q.n):pU (C++[q.tk m]) (gv m q++R) (l - m):=by
 obtain ⟨h1,h2,h3⟩:=h
 obtain ⟨t1,t2,t3⟩:=kW h2
 rcases h3 with h3 | ⟨h3,_⟩
 ·have hn:=(pR hm).2
  refine ⟨nh h1 (by simp [dN,gG,AD];omega) fun p hp y hy=>by simp at hy;subst hy;rw [(qN m q).1];exact h3 p hp _ (by simp),?_,?_⟩
  ·unfold gv
   split
   ·rename_i hlt
    exact DR t1 (by rw [ow];exact hlt) fun y hy=>by rw [(qN m q).2];exact t3 y hy
   ·exact t1
  ·unfold gv
   split
   ·exact .inr ⟨by omega,fun y hy=>by simp at hy;subst hy;cases q <;> first | rfl | cases hq⟩
   ·refine .inl fun x hx y hy=>?_
    simp at hx;subst hx
    rw [(qN m q).1];exact t3 y hy
 ·omega
theorem MP {q:Pt}{m:Nat}(h:m≤q.n) (hq:cH q=false):aM [q.tk m]=m:=by
 cases q with
 | put s=>cases hq
 | keep k=>simp [Pt.tk,aM,tot,cH,Pt.n]
 | drop s=>simp [Pt.tk,aM,tot,cH,Pt.n] at h ⊢;omega
theorem IY {q:Pt}{m:Nat}(hq:cH q=false):aM (gv m q)=q.n - m:=by
 cases q with
 | put s=>cases hq
 | keep k=>unfold gv;split <;> simp [Pt.dp,aM,tot,cH,Pt.n] at * <;> omega
 | drop s=>unfold gv;split <;> simp [Pt.dp,aM,tot,cH,Pt.n] at * <;> omega
theorem DS {q:Pt}{R:List Pt}(hq:cH q=false):aM (q :: R)=q.n+aM R:=by cases q <;> simp_all [aM,tot,cH,Pt.n]
theorem MQ {q:Pt}{m:Nat}(h:m≤q.n) (h0:0<m):0<(q.tk m).n:=by rw [(pR h).2];exact h0
theorem MR (hs:F[aD]?=some dJ) {c:List Pt}{p:Nat}(R C:List Pt) (s:List Nat) (l:Nat) (a:Option Sl) (hJ:pU C (.put s :: R) l) (hC:au C++au (.put s :: R)=au (av c)) (hl:aM C+l=p) (hb:l≤aM (.put s :: R)) (hR:∀ q∈Pt.put s :: R,0<q.n) (pC:∀ q∈C,0<q.n) (lC:C.length≤5000) (ha:vo a) :
  Wp (exs (run F w (n+2)) w (qK aD aW) (gb c p (.put s :: R) C l a)) fun g fr=>g=.nx∧∃ j,j<tot (.put s :: R)∧Fv c p j fr:=by
 have ap:∀ fr:Fr,gi .append 3 [(Pt.put s).v] fr (some (some (.own (C.map Pt.v))))=.ok .bH (fr.set 3 (some (.own ((C++[Pt.put s]).map Pt.v)))):=fun fr=>by
  rw [List.map_append];exact j6 (by simp;omega)
 unfold gb
 rw [List.map_cons,List.reverse_cons]
 refine aj (aQ (b:=true) (aG rfl (by (repeat (first | array_get_dec | exact dH))) rfl) (fun _=>?_) fun h=>absurd h (by decide))
 refine aj (gh (by (repeat (first | array_get_dec | exact qC | exact ap _))) (aF (aF ?_)))
 have h0:=hR _ (.head _)
 refine ⟨rfl,tot R,by rw [bI];omega,R,C++[.put s],l,a,hJ.put rfl,?_,?_,?_,fun q hq=>hR q (.tail _ hq),fun q hq=>?_,rfl,ha,rfl⟩
 ·rw [←hC,di,bJ];simp [au]
 ·rw [iF];simp [aM,tot,cH] at hl ⊢;exact hl
 ·rw [jH] at hb;exact hb
 ·rcases List.mem_append.mp hq with hq | hq
  ·exact pC q hq
  ·rw [List.mem_singleton.mp hq];exact h0
theorem MS (hs:F[aD]?=some dJ) (hp:F[bF]?=some fy) (ht:F[aW]?=some (gT bF aD)) {c:List Pt}{p:Nat}(R C:List Pt) (q:Pt) (l:Nat) (a:Option Sl) (hJ:pU C (q :: R) l) (hq:cH q=false) (l0:0<l) (hC:au C++au (q :: R)=au (av c)) (hl:aM C+l=p) (hb:l≤aM (q :: R))
  (hR:∀ x∈q :: R,0<x.n) (pC:∀ x∈C,0<x.n) (lC:C.length≤5000) (lR:tot (q :: R)≤5000) (ha:vo a) :
  Wp (exs (run F w (n+2)) w (qK aD aW) (gb c p (q :: R) C l a)) fun g fr=>g=.nx∧∃ j,j<tot (q :: R)∧Fv c p j fr:=by
 have q0:=hR q (.head _)
 rw [bI] at lR
 have l2:=cz (c:=R) fun x hx=>hR x (.tail _ hx)
 obtain ⟨m,hm1,hm2,MM⟩:∃ m:Nat,m≤l∧m≤q.n∧(m=l∨m=q.n):=⟨min l q.n,by omega,by omega,by omega⟩
 have m0:0<m:=by omega
 have mn:dz .min [.int l,.int q.n]=some (.int m):=by
  rw [Ar]
  split
  ·congr 2;omega
  ·congr 2;omega
 have z1:=fun fr=>cZ (fr:=fr) (iB (F:=F) (w:=w) (n:=n+1) hs q (by omega))
 have t1:=mJ (F:=F) (w:=w) (n:=n) hs hp ht (R.map Pt.v).reverse q m hm2 (by omega) (by simp;omega)
 rw [←wH] at t1
 have ap:∀ fr:Fr,gi .append 3 [(q.tk m).v] fr (some (some (.own (C.map Pt.v))))=.ok .bH (fr.set 3 (some (.own ((C++[q.tk m]).map Pt.v)))):=fun fr=>by
  rw [List.map_append];exact j6 (by simp;omega)
 have fin:(Fl.nx=Fl.nx∧∃ j,j<tot (q :: R)∧Fv c p j (gb c p (gv m q++R) (C++[q.tk m]) (l - m) (some (.val (.int m))))):=by
  refine ⟨rfl,_,?_,_,_,_,_,hJ.two l0 hq m0 hm2 MM,?_,?_,?_,?_,?_,rfl,.val,rfl⟩
  ·rw [cO,kg,bI];omega
  ·rw [←hC,di,di,bJ q,qH hm2];simp [au]
  ·rw [iF,MP hm2 hq];omega
  ·rw [iF,IY hq];rw [DS hq] at hb;omega
  ·intro x hx
   rcases List.mem_append.mp hx with hx | hx
   ·exact qI m q x hx
   ·exact hR x (.tail _ hx)
  ·intro x hx
   rcases List.mem_append.mp hx with hx | hx
   ·exact pC x hx
   ·rw [List.mem_singleton.mp hx];exact MQ hm2 m0
 have sb:bT .sub (.int (l:Int)) (.int (m:Int))=some (.int ((l - m:Nat):Int)):=by rw [jy];congr 2;omega
 unfold gb at fin ⊢
 rw [List.map_cons,List.reverse_cons]
 have MT:aL (run F w (n+2)) (.cmp .eq (.ix (.ix (.v 2) (.neg (.c (.int 1)))) (.c (.int 0))) (.c (.str [112,117,116]))) [some (.val (aJ c)),some (.val (.int p)),some (.own ((R.map Pt.v).reverse++[q.v])),some (.own (C.map Pt.v)),some (.val (.int l)),a]=.ok false [some (.val (aJ c)),some (.val (.int p)),some (.own ((R.map Pt.v).reverse++[q.v])),some (.own (C.map Pt.v)),some (.val (.int l)),a]:=by
  cases q with
  | put s=>cases hq
  | keep k=>exact aG rfl (by (repeat (first | array_get_dec | exact dH))) rfl
  | drop s=>exact aG rfl (by (repeat (first | array_get_dec | exact dH))) rfl
 refine aj (aQ MT (fun h=>absurd h (by decide)) fun _=>?_)
 refine aj (bg (by (repeat (first | exact mn | array_get_dec | exact dH | exact z1 _))) rfl (iU rfl ha) ?_)
 refine aj (gh (by (repeat (first | array_get_dec | exact yz rfl t1 | exact ap _))) ?_)
 exact aj (bg (by (repeat (first | exact sb | array_get_dec))) rfl rfl (aF (aF fin)))
theorem nj (hst:F[aR]?=some dj) (hf:F[aZ]?=some (fW aR)) (hs:F[aD]?=some dJ) (hp:F[bF]?=some fy) (ht:F[aW]?=some (gT bF aD)) (hb:F[bB]?=some (gE aD)) (hd:F[i]?=some (pT bB aZ aD aW)) (hw:5000<w)
  (c:List Pt) (p:Nat) (h1:c.length≤5000) (h2:tot c≤4000) (h:p≤aM c):∃ A B,run F w (n+3) i [.val (aJ c),.val (.int p)]=some (.tup [aJ A,aJ B],[])∧Cut c p A B:=by
 have c1:=fun fr=>cZ (fr:=fr) (jj (F:=F) (w:=w) (n:=n) hs hb c (by omega) (by omega))
 have c2:=fun fr=>cZ (fr:=fr) (gF (F:=F) (w:=w) (n:=n) hst hf c (by omega) (by omega))
 have t1:=cJ c
 have g1:=cz (cP (b6 c))
 have m1:dX ((av c).map Pt.v).reverse=some (.lst ((av c).map Pt.v).reverse):=eW (bZ (by simp;omega))
 have n1:cop .lt (.int (p:Int)) (.int 0)=some false:=by rw [Mx];simp
 have n2:cop .gt (.int (p:Int)) (.int (aM c))=some false:=by rw [qD];simp;omega
 have key:Wp (exs (run F w (n+2)) w (pT bB aZ aD aW).body (fz (pT bB aZ aD aW) [.val (aJ c),.val (.int p)])) fun g fr=>∃ A B,Cut c p A B∧g=.ret (.tup [aJ A,aJ B])∧outs 2 fr=[]:=by
  refine aj (aQ (b:=false) (gu (aG rfl (b8 (aB rfl) (aY rfl) n1) rfl) (aG rfl (b8 (aB rfl) (aV (aC rfl (aB rfl) aE) (c1 _)) n2) rfl)) (fun h=>absurd h (by decide)) fun _=>aF ?_)
  refine aj (iT (l:=((av c).map Pt.v).reverse) (pF (uq (aV (aC rfl (aB rfl) aE) (c2 _)) rfl) m1) rfl rfl ?_)
  refine aj (iT (l:=[]) (by repeat array_get_dec) rfl rfl ?_)
  refine aj (bg (aB rfl) rfl rfl ?_)
  refine aj (Fd (pq (Fv c p) (fun k fr hI=>?_) w (tot (av c)) _ (by omega) ⟨av c,[],p,none,⟨rfl,b6 c,.inl fun x hx=>by cases hx⟩,rfl,by simp [aM,tot],by rw [iD];exact h,cP (b6 c),(fun q hq=>by cases hq),rfl,.none,rfl⟩))
  obtain ⟨R,C,l,a,hJ,hC,hl,MU,hR,pC,hkk,wJ,rfl⟩:=hI
  have ln:=congrArg List.length hC
  rw [List.length_append,eG,eG,eG] at ln
  have lC:=cz pC
  have lR:=cz hR
  have fin:l=0→fZ (au R)=true→nx (run F w (n+2)) w (.cons wL .nil) (fun g fr=>∃ A B,Cut c p A B∧g=.ret (.tup [aJ A,aJ B])∧outs 2 fr=[]) .nx (gb c p R C l a):=fun e0 e1=>by
   have sh:gf (gb c p R C l a)=[some (.val (aJ c)),some (.val (.int p)),some (.val (.lst (R.map Pt.v).reverse)),some (.val (.lst (C.map Pt.v))),some (.val (.int l)),a]:=by
    show _ :: _ :: _ :: _ :: _ :: [a.map Sl.gk]=_
    rw [fD wJ];rfl
   have m2:g8 (C.map Pt.v)=some (aJ C):=iS (bZ (by simp;omega))
   have m3:qw (.lst (R.map Pt.v).reverse)=some (aJ R):=by
    show g8 (R.map Pt.v).reverse.reverse=_
    rw [List.reverse_reverse];exact iS (bZ (by simp;omega))
   refine aj (bX (v:=.tup [aJ C,aJ R]) (ah:=[some (.val (aJ c)),some (.val (.int p)),some (.val (.lst (R.map Pt.v).reverse)),some (.val (.lst (C.map Pt.v))),some (.val (.int l)),a]) ?_ ⟨C,R,⟨hC,by omega,e1,pC,hR,hJ.1,hJ.2.1⟩,rfl,rfl⟩)
   rw [sh]
   exact kI (bK (sI (aB rfl) m2) (bK (Qt (aB rfl) m3) cF)) yd
  cases R with
  | nil=>
   refine ⟨false,_,mD (aG rfl (aB rfl) rfl),?_⟩
   dsimp only
   rw [if_neg (by decide)]
   exact fin (by simp [aM,tot] at MU;omega) rfl
  | cons q R=>
   have MV:aL (run F w (n+2)) (.v 2) (gb c p (q :: R) C l a)=.ok true (gb c p (q :: R) C l a):=by
    unfold gb;rw [List.map_cons,List.reverse_cons];exact aG rfl (aB rfl) jk
   by_cases hq:cH q=true
   ·cases q with
    | keep k=>cases hq
    | drop s=>cases hq
    | put s=>
     have ht1:aL (run F w (n+2)) XH (gb c p (.put s :: R) C l a)=.ok true (gb c p (.put s :: R) C l a):=by
      refine dw MV ?_
      by_cases h0:0<l
      ·exact pH (aG rfl (b8 (aB rfl) (aY rfl) (by rw [qD];simp;exact h0)) rfl)
      ·refine gu (aG rfl (b8 (b:=false) (aB rfl) (aY rfl) (by rw [qD];simp;omega)) rfl) ?_
       unfold gb;rw [List.map_cons,List.reverse_cons]
       exact aG rfl (by (repeat (first | array_get_dec | exact dH))) rfl
     refine ⟨true,_,ht1,?_⟩
     dsimp only
     rw [if_pos rfl]
     refine (MR hs R C s l a hJ hC hl MU hR pC (by omega) wJ).mono fun g fr ⟨hg,hx⟩=>?_
     subst hg hkk
     exact hx
   ·have hq':cH q=false:=by simpa using hq
    by_cases h0:0<l
    ·refine ⟨true,_,dw MV (pH (aG rfl (b8 (aB rfl) (aY rfl) (by rw [qD];simp;exact h0)) rfl)),?_⟩
     dsimp only
     rw [if_pos rfl]
     refine (MS hs hp ht R C q l a hJ hq' h0 hC hl MU hR pC (by omega) (by omega) wJ).mono fun g fr ⟨hg,hx⟩=>?_
     subst hg hkk
     exact hx
    ·have MT:aL (run F w (n+2)) (.cmp .eq (.ix (.ix (.v 2) (.neg (.c (.int 1)))) (.c (.int 0))) (.c (.str [112,117,116]))) (gb c p (q :: R) C l a)=.ok false (gb c p (q :: R) C l a):=by
      unfold gb;rw [List.map_cons,List.reverse_cons]
      cases q with
      | put s=>cases hq'
      | keep k=>exact aG rfl (by (repeat (first | array_get_dec | exact dH))) rfl
      | drop s=>exact aG rfl (by (repeat (first | array_get_dec | exact dH))) rfl
     refine ⟨false,_,dw MV (gu (aG rfl (b8 (b:=false) (aB rfl) (aY rfl) (by rw [qD];simp;omega)) rfl) MT),?_⟩
     dsimp only
     rw [if_neg (by decide)]
     refine fin (by omega) ?_
     have q0:=hR q (.head _)
     rw [bJ]
     cases q with
     | put s=>cases hq'
     | keep k=>cases k with
      | zero=>exact absurd q0 (by simp [Pt.n])
      | succ k=>simp [Pt.au,List.replicate_succ,fZ]
     | drop s=>cases s with
      | nil=>exact absurd q0 (by simp [Pt.n])
      | cons x s=>simp [Pt.au,fZ]
 obtain ⟨g,fr,e,A,B,hc,hg,ho⟩:=key
 exact ⟨A,B,cI hd rfl ⟨g,fr,e,hg,ho⟩,hc⟩
theorem DT (hst:F[aR]?=some dj) (hf:F[aZ]?=some (fW aR)) (hs:F[aD]?=some dJ) (hp:F[bF]?=some fy) (ht:F[aW]?=some (gT bF aD)) (hb:F[bB]?=some (gE aD)) (hc:F[kT]?=some (pT bB aZ aD aW))
  (hj:F[gI]?=some (kQ aZ)) (hn:F[dm]?=some (gR aZ)) (ha:F[ni]?=some (qM gI dm)) (hd:F[i]?=some (MO kT ni bB)) (hw:5000<w)
  (c:List Pt) (s e:Nat) (h1:c.length≤900) (h2:tot c≤900) (he:e≤aM c) (hse:s≤e) :
  ∃ A B A2 B2,Cut c s A B∧Cut B (e - s) A2 B2∧run F w (n+5) i [.val (aJ c),.val (.int s),.val (.int e)]=some (aJ (cG s A2 (aM c - e)),[]):=by
 obtain ⟨A,B,r1,C1⟩:=nj (F:=F) (w:=w) (n:=n+1) hst hf hs hp ht hb hc hw c s (by omega) (by omega) (by omega)
 have b1:=C1.eE
 have b2:=C1.lB
 have b3:=C1.qJ
 obtain ⟨A2,B2,r2,C2⟩:=nj (F:=F) (w:=w) (n:=n+1) hst hf hs hp ht hb hc hw B (e - s) (by omega) (by omega) (by omega)
 have d1:=C2.eE
 have d2:=C2.lA
 have b4:=MH c
 have q1:=fun fr=>call2 (fr:=fr) r1
 have q2:=fun fr=>call2 (fr:=fr) r2
 have q3:=fun fr=>cZ (fr:=fr) (jj (F:=F) (w:=w) (n:=n+2) hs hb c (by omega) (by omega))
 have q4:=fun fr=>fO (fr:=fr) (Bb (F:=F) (w:=w) (n:=n) hst hf hj hn ha s (aM c - e) A2 (by omega) (by omega))
 have s1:bT .sub (.int (e:Int)) (.int (s:Int))=some (.int ((e - s:Nat):Int)):=by rw [jy];congr 2;omega
 have s2:bT .sub (.int (aM c:Int)) (.int (e:Int))=some (.int ((aM c - e:Nat):Int)):=by rw [jy];congr 2;omega
 refine ⟨A,B,A2,B2,C1,C2,cI hd rfl ?_⟩
 refine aj (bg (cE (aV (aC rfl (aB rfl) (aC rfl (aB rfl) aE)) (q1 _)) (aY rfl) rfl) rfl rfl ?_)
 exact aj (bX (aV (aC rfl (aB rfl) (aC rfl (cE (aV (aC rfl (aB rfl) (aC rfl (bw (aB rfl) (aB rfl) s1) aE)) (q2 _)) (aY rfl) rfl) (aC rfl (bw (aV (aC rfl (aB rfl) aE) (q3 _)) (aB rfl) s2) aE))) (q4 _)) ⟨rfl,rfl⟩)
section
variable (hst:F[aR]?=some dj) (hf:F[aZ]?=some (fW aR)) (hj:F[gI]?=some (kQ aZ)) (hn:F[dm]?=some (gR aZ)) (ha:F[ni]?=some (qM gI dm))
include hst hf hj hn ha
omit hst hf hj hn ha in
theorem IZ (a b:List Pt):bY (a++b)=bY a+bY b:=by simp [bY,tot]
end
end
end Pv
namespace Pv
open Ev (D bV bQ TY BI ME T E Es Eo It S Ss Fn big deep rep cut bN)
noncomputable def uJ (st:FS):Pt→Prop
 | .keep _=>st.2.2.1=[]∧st.2.2.2=[]→st.2.1=0
 | .drop _=>st.2.2.1=[]∧st.2.2.2=[]
 | .put _=>st.2.2.2=[]
theorem ki:∀ (A:List Pt) (st:FS),(∀ q∈A.head?,uJ st q)→dN A=true→b9 (A.foldl aX st)=b9 st++A
 | [],st,_,_=>by simp
 | q :: R,st,h,hF=>by
  obtain ⟨t1,t2,t3⟩:=kW hF
  have h0:=cP hF q (.head _)
  have hq:=h q (by simp)
  obtain ⟨ps,k,g,x⟩:=st
  rw [List.foldl_cons]
  cases q with
  | drop s=>
   simp only [uJ] at hq
   obtain ⟨rfl,rfl⟩:=hq
   have hs:s≠[]:=fun z=>by subst z;simp [Pt.n] at h0
   rw [ki R _ (fun r hr=>?_) t1]
   ·simp [b9,aX,bD,hs];try rfl
   ·have:=t3 r hr
    cases r with
    | keep m=>exact fun z=>absurd z.1 (by simpa [aX] using hs)
    | drop m=>simp [dR,Pt.word] at this
    | put m=>rfl
  | put s=>
   simp only [uJ] at hq
   subst hq
   have hs:s≠[]:=fun z=>by subst z;simp [Pt.n] at h0
   rw [ki R _ (fun r hr=>?_) t1]
   ·simp [b9,aX,bD,hs];try rfl
   ·have:=t3 r hr
    cases r with
    | keep m=>exact fun z=>absurd z.2 (by simpa [aX] using hs)
    | drop m=>simp [dR,Pt.word] at this
    | put m=>simp [dR,Pt.word] at this
  | keep n=>
   have hn:0<n:=h0
   simp only [uJ] at hq
   by_cases hg:g=[]∧x=[]
   ·obtain ⟨rfl,rfl⟩:=hg
    have hk:=hq ⟨rfl,rfl⟩
    subst hk
    rw [ki R _ (fun r hr=>?_) t1]
    ·simp [b9,aX,bD,hn]
    ·have:=t3 r hr
     cases r with
     | keep m=>simp [dR,Pt.word] at this
     | drop m=>simp [aX,hn,uJ]
     | put m=>simp [aX,hn,uJ]
   ·rw [ki R _ (fun r hr=>?_) t1]
    ·simp only [b9,aX,hn,if_true]
     rw [if_neg hg]
     simp [bD,hn]
    ·have:=t3 r hr
     cases r with
     | keep m=>simp [dR,Pt.word] at this
     | drop m=>simp only [aX,hn,if_true];rw [if_neg hg];exact ⟨rfl,rfl⟩
     | put m=>simp only [aX,hn,if_true];rw [if_neg hg];rfl
theorem oz {A:List Pt}(h:dN A=true):av A=A:=by
 have:=ki A dQ (fun q hq=>by cases q <;> simp [uJ,dQ]) h
 simpa [av,b9,dQ,bD] using this
theorem kj {A B:List Pt}(ha:dN A=true) (hb:dN B=true) (h:au A=au B):A=B:=by rw [←oz ha,←oz hb];exact kP h
noncomputable def dh:List At→Bool
 | .p _ :: .d _ :: _=>false
 | _ :: a=>dh a
 | []=>true
theorem kX (a:List At):dh (.k :: a)=dh a:=by rw [dh];intro c d r h;cases h
theorem yD (c:Nat) (a:List At):dh (.d c :: a)=dh a:=by rw [dh];intro c d r h;cases h
theorem uK (c:Nat) (a:List At):dh (.p c :: .k :: a)=dh a:=by rw [dh,kX];intro c d r h1 h;cases h
theorem pV (c d:Nat) (a:List At):dh (.p c :: .p d :: a)=dh (.p d :: a):=by rw [dh];intro c d r h1 h;cases h
theorem QA (c:Nat):dh [.p c]=true:=by rw [dh];rfl;intro c d r h1 h;cases h
theorem d9 {x:At}{a:List At}(h:dh (x :: a)=true):dh a=true:=by
 cases x with
 | k=>rw [kX] at h;exact h
 | d c=>rw [yD] at h;exact h
 | p c=>
  cases a with
  | nil=>rfl
  | cons y a=>
   cases y with
   | k=>rw [uK] at h;rw [kX];exact h
   | d e=>simp [dh] at h
   | p e=>rw [pV] at h;exact h
theorem uL:∀ (b:List At) (x c:Nat) (l:List (List Nat)),dh (.p x :: b)=true→aA b=[c] :: l→False
 | [],_,_,_,_,h=>by simp [aA] at h
 | .k :: b,_,_,_,_,h=>by simp [aA] at h
 | .d y :: b,_,_,_,hn,_=>by simp [dh] at hn
 | .p y :: b,x,c,l,hn,h=>uL b y c l (d9 hn) h
theorem nq:∀ (a b:List At) (i:Nat),dh a=true→dh b=true→aA a=aA b→tA i a=tA i b→a=b
 | [],[],_,_,_,_,_=>rfl
 | [],.k :: b,i,_,_,h,_=>by simp [aA] at h
 | [],.d c :: b,i,_,_,h,_=>by simp [aA] at h
 | [],.p c :: b,i,_,_,_,h=>by simp [tA] at h
 | .k :: a,[],i,_,_,h,_=>by simp [aA] at h
 | .d c :: a,[],i,_,_,h,_=>by simp [aA] at h
 | .p c :: a,[],i,_,_,_,h=>by simp [tA] at h
 | .k :: a,.k :: b,i,h1,h2,h3,h4=>by
  simp only [aA,tA,List.cons.injEq,true_and] at h3 h4
  rw [nq a b (i+1) (d9 h1) (d9 h2) h3 h4]
 | .k :: a,.d c :: b,i,_,_,h,_=>by simp [aA] at h
 | .k :: a,.p c :: b,i,_,_,_,h=>by simp [tA] at h
 | .d c :: a,.k :: b,i,_,_,h,_=>by simp [aA] at h
 | .d c :: a,.d e :: b,i,h1,h2,h3,h4=>by
  simp only [aA,tA,List.cons.injEq,and_true] at h3 h4
  obtain ⟨rfl,h3⟩:=h3
  rw [nq a b (i+1) (d9 h1) (d9 h2) h3 h4]
 | .d c :: a,.p e :: b,i,h1,h2,h3,_=>(uL b e c (aA a) h2 (by simpa [aA] using h3.symm)).elim
 | .p c :: a,.k :: b,i,_,_,_,h=>by simp [tA] at h
 | .p c :: a,.d e :: b,i,h1,h2,h3,_=>(uL a c e (aA b) h1 (by simpa [aA] using h3)).elim
 | .p c :: a,.p e :: b,i,h1,h2,h3,h4=>by
  simp only [aA,tA,List.cons.injEq,Tq.sg.injEq] at h3 h4
  obtain ⟨rfl,h4⟩:=h4
  rw [nq a b i (d9 h1) (d9 h2) h3 h4]
theorem mK (n:Nat) (a:List At):dh (List.replicate n .k++a)=dh a:=by
 induction n with
 | zero=>rfl
 | succ n ih=>rw [List.replicate_succ,List.cons_append,kX,ih]
theorem MW (s:List Nat) (a:List At):dh (s.map .d++a)=dh a:=by
 induction s with
 | nil=>rfl
 | cons c s ih=>rw [List.map_cons,List.cons_append,yD,ih]
theorem qO:∀ (s:List Nat) (a:List At),pN a=true→dh a=true→dh (s.map .p++a)=true
 | [],a,_,h=>h
 | [c],a,h1,h=>by
  cases a with
  | nil=>exact QA c
  | cons y a=>
   cases y with
   | k=>rw [kX] at h;show dh (.p c :: .k :: a)=true;rw [uK];exact h
   | d e=>simp [pN] at h1
   | p e=>show dh (.p c :: .p e :: a)=true;rw [pV];exact h
 | c :: d :: s,a,h1,h=>by
  have:=qO (d :: s) a h1 h
  show dh (.p c :: .p d :: (s.map At.p++a))=true
  rw [pV];exact this
theorem ko:∀ (a:List At) (n:Nat),dh a=true→dh (a++List.replicate n .k)=true
 | [],n,_=>by have:=mK n [];simpa [dh] using this
 | .k :: a,n,h=>by rw [List.cons_append,kX];exact ko a n (d9 h)
 | .d c :: a,n,h=>by rw [List.cons_append,yD];exact ko a n (d9 h)
 | [.p c],n,h=>qO [c] (List.replicate n .k) (by cases n <;> simp [List.replicate_succ,pN]) (by have:=mK n [];simpa [dh] using this)
 | .p c :: .k :: a,n,h=>by
  have:=ko (.k :: a) n (d9 h)
  simp only [List.cons_append] at this ⊢
  rw [uK];rw [kX] at this;exact this
 | .p c :: .d e :: a,n,h=>by simp [dh] at h
 | .p c :: .p e :: a,n,h=>by
  have:=ko (.p e :: a) n (d9 h)
  simp only [List.cons_append] at this ⊢
  rw [pV];exact this
theorem qP:∀ {A:List Pt},dN A=true→dh (au A)=true
 | [],_=>rfl
 | q :: R,h=>by
  obtain ⟨t1,t2,t3⟩:=kW h
  have ih:=qP t1
  rw [bJ]
  cases q with
  | keep n=>rw [Pt.au,mK];exact ih
  | drop s=>rw [Pt.au,MW];exact ih
  | put s=>
   rw [Pt.au]
   refine qO s _ ?_ ih
   cases R with
   | nil=>rfl
   | cons r R=>
    have:=t3 r (by simp)
    rw [bJ]
    cases r with
    | keep n=>
     cases n with
     | zero=>have:=cP t1 (.keep 0) (.head _);simp [Pt.n] at this
     | succ n=>simp [Pt.au,List.replicate_succ,pN]
    | drop s2=>simp [dR,Pt.word] at this
    | put s2=>simp [dR,Pt.word] at this
theorem uM {X:List Pt}(h:dh (au X)=true):au (av X)=au X:=
 nq _ _ 0 (qP (b6 X)) h (by rw [←cW,←cW,eO]) (by rw [←bR,←bR,bU])
structure CA (a:List At) (p:Nat) (x y:List At):Prop where
 ap:x++y=a
 ln:(aA x).length=p
 hd:fZ y=true
theorem Cut.ca {c A B:List Pt}{p:Nat}(h:Cut c p A B):CA (au (av c)) p (au A) (au B):=⟨h.at_,by rw [←d8];exact h.bA,h.hd⟩
theorem Cut.mL {c A B:List Pt}{p:Nat}(h:Cut c p A B) (hc:dN c=true):CA (au c) p (au A) (au B):=by have:=h.ca;rw [oz hc] at this;exact this
theorem wN:∀ {a a' b b':List At},a++b=a'++b'→(aA a).length=(aA a').length→fZ b=true→fZ b'=true→a=a'∧b=b'
 | [],[],_,_,h,_,_,_=>⟨rfl,h⟩
 | [],x :: a',b,b',h,hl,hb,_=>by
  cases x with
  | k=>simp [aA] at hl
  | d c=>simp [aA] at hl
  | p c=>rw [List.nil_append,List.cons_append] at h;rw [h] at hb;simp [fZ] at hb
 | x :: a,[],b,b',h,hl,_,hb=>by
  cases x with
  | k=>simp [aA] at hl
  | d c=>simp [aA] at hl
  | p c=>rw [List.nil_append,List.cons_append] at h;rw [←h] at hb;simp [fZ] at hb
 | x :: a,y :: a',b,b',h,hl,hb,hb'=>by
  simp only [List.cons_append,List.cons.injEq] at h
  obtain ⟨rfl,h⟩:=h
  have hl':(aA a).length=(aA a').length:=by cases x <;> simpa [aA] using hl
  obtain ⟨e1,e2⟩:=wN h hl' hb hb'
  exact ⟨by rw [e1],e2⟩
theorem CA.uniq {a x y x' y':List At}{p:Nat}(h:CA a p x y) (h':CA a p x' y'):x=x'∧y=y':=
 wN (h.ap.trans h'.ap.symm) (h.ln.trans h'.ln.symm) h.hd h'.hd
theorem I0 {y z:List At}(hy:fZ y=true) (hz:fZ z=true):fZ (y++z)=true:=by
 cases y with
 | nil=>exact hz
 | cons x y=>cases x <;> first | rfl | exact hy
theorem CA.left {a x y x1 y1:List At}{m s:Nat}(h:CA a m x y) (h1:CA x s x1 y1):CA a s x1 (y1++y):=⟨by rw [←List.append_assoc,h1.ap,h.ap],h1.ln,I0 h1.hd h.hd⟩
theorem CA.right {a x y x2 y2:List At}{m k:Nat}(h:CA a m x y) (h2:CA y k x2 y2):CA a (m+k) (x++x2) y2:=⟨by rw [List.append_assoc,h2.ap,h.ap],by rw [fc,List.length_append,h.ln,h2.ln],h2.hd⟩
theorem Cut.uniq {c A B A' B':List Pt}{p:Nat}(h:Cut c p A B) (h':Cut c p A' B'):A=A'∧B=B':=
 ⟨kj h.fA h'.fA (h.ca.uniq h'.ca).1,kj h.fB h'.fB (h.ca.uniq h'.ca).2⟩
noncomputable def cg:List At→Nat→List At×List At
 | [],_=>([],[])
 | .p c :: a,n=>(.p c :: (cg a n).1,(cg a n).2)
 | .k :: a,0=>([],.k :: a)
 | .k :: a,n+1=>(.k :: (cg a n).1,(cg a n).2)
 | .d c :: a,0=>([],.d c :: a)
 | .d c :: a,n+1=>(.d c :: (cg a n).1,(cg a n).2)
theorem fF:∀ (a:List At) (n:Nat),n≤(aA a).length→CA a n (cg a n).1 (cg a n).2
 | [],n,h=>by
  have:n=0:=by simpa [aA] using h
  subst this;exact ⟨rfl,rfl,rfl⟩
 | .p c :: a,n,h=>by
  obtain ⟨h1,h2,h3⟩:=fF a n h
  exact ⟨by rw [cg];simp [h1],by rw [cg];simpa [aA] using h2,by rw [cg];exact h3⟩
 | .k :: a,0,h=>⟨by simp [cg],by simp [cg,aA],by simp [cg,fZ]⟩
 | .d c :: a,0,h=>⟨by simp [cg],by simp [cg,aA],by simp [cg,fZ]⟩
 | .k :: a,n+1,h=>by
  obtain ⟨h1,h2,h3⟩:=fF a n (by simpa [aA] using h)
  exact ⟨by simp [cg,h1],by simp [cg,aA,h2],by simpa [cg] using h3⟩
 | .d c :: a,n+1,h=>by
  obtain ⟨h1,h2,h3⟩:=fF a n (by simpa [aA] using h)
  exact ⟨by simp [cg,h1],by simp [cg,aA,h2],by simpa [cg] using h3⟩
theorem Bc {a x y x2 y2:List At}{p k:Nat}(h:CA a p x y) (h2:CA y k x2 y2):(cg a p).1=x∧(cg a (p+k)).1=x++x2:=by
 have l:=congrArg (fun z=>(aA z).length) h.ap
 have l2:=congrArg (fun z=>(aA z).length) h2.ap
 simp only [fc,List.length_append,h.ln,h2.ln] at l l2
 exact ⟨((fF a p (by omega)).uniq h).1,((fF a (p+k) (by omega)).uniq (h.right h2)).1⟩
noncomputable def jS (a:List At) (i:Nat):Nat:=cA (cg a (i+1)).1 - cA (cg a i).1
theorem uN (a:List At):∀ n,n≤(aA a).length→((List.range n).map (jS a)).sum+cA (cg a 0).1=cA (cg a n).1
 | 0,_=>by simp
 | n+1,h=>by
  have ih:=uN a n (by omega)
  have h1:=fF a n (by omega)
  have l:=congrArg (fun z=>(aA z).length) h1.ap
  simp only [fc,List.length_append,h1.ln] at l
  have h2:=fF (cg a n).2 1 (by omega)
  have e:=(Bc h1 h2).2
  rw [List.range_succ,List.map_append,List.sum_append]
  simp only [List.map_cons,List.map_nil,List.sum_cons,List.sum_nil,jS,e,iW]
  omega
theorem DU (a:List At):(cg a (aA a).length).1=a:=by
 have h:=fF a (aA a).length (Nat.le_refl _)
 have l:=congrArg (fun z=>(aA z).length) h.ap
 simp only [fc,List.length_append,h.ln] at l
 have h0:(aA (cg a (aA a).length).2).length=0:=by omega
 have:(cg a (aA a).length).2=[]:=by
  have hd:=h.hd
  generalize (cg a (aA a).length).2=z at h0 hd
  cases z with
  | nil=>rfl
  | cons x z=>cases x <;> simp [aA,fZ] at h0 hd
 have ap:=h.ap
 rw [this,List.append_nil] at ap
 exact ap
theorem rQ {s k:Nat}{A:List Pt}(h:dN A=true):au (cG s A k)=List.replicate s .k++au A++List.replicate k .k:=by
 unfold cG
 rw [uM]
 ·simp [au,Pt.au]
 ·have:au ([.keep s]++A++[.keep k])=List.replicate s .k++(au A++List.replicate k .k):=by simp [au,Pt.au]
  rw [this,mK];exact ko _ _ (qP h)
theorem yE (n:Nat):aA (List.replicate n .k)=List.replicate n []:=by
 induction n with
 | zero=>rfl
 | succ n ih=>simp [List.replicate_succ,aA,ih]
theorem yF (n i:Nat):tA i (List.replicate n .k)=(List.range n).map fun j=>Tq.at (i+j):=by
 have:=bR [.keep n] i
 simp only [au,Pt.au,List.flatMap_cons,List.flatMap_nil,List.append_nil] at this
 rw [←this];simp [told,Pt.told]
theorem Fw (n:Nat):cA (List.replicate n .k)=0:=by
 induction n with
 | zero=>rfl
 | succ n ih=>simp [List.replicate_succ,cA,ih]
theorem yG {s k:Nat}{A:List Pt}(h:dN A=true):cst (cG s A k)=cA (au A):=by rw [jm,rQ h,iW,iW,Fw,Fw];omega
theorem rR {s k e:Nat}{A X Y:List Pt}(h:dN A=true) (he:s+aM A=e) (hc:Cut (cG s A k) e X Y):au X=List.replicate s .k++au A∧au Y=List.replicate k .k:=by
 have h1:=hc.mL (b6 _)
 have h2:CA (au (cG s A k)) e (List.replicate s .k++au A) (List.replicate k .k):=⟨(rQ h).symm,by rw [fc,yE,List.length_append,List.length_replicate,←d8];exact he,by cases k <;> rfl⟩
 exact h1.uniq h2
theorem pW:∀ (a:List At) (i j:Nat),(tA i a).length=(tA j a).length
 | [],_,_=>rfl
 | .k :: a,i,j=>by simp [tA,pW a (i+1) (j+1)]
 | .d c :: a,i,j=>by simp only [tA];exact pW a (i+1) (j+1)
 | .p c :: a,i,j=>by simp [tA,pW a i j]
theorem uO (j m r:Nat) (p q:List At) (hp:(aA p).length=m) (hr:(tA 0 q).length=r) :
  (tA 0 (List.replicate j .k++p++List.replicate r .k)).map (sub (tA 0 (List.replicate (j+m) .k++q)))=tA 0 (List.replicate j .k++p++q):=by
 have hq:(tA (j+m) q).length=r:=by rw [pW q (j+m) 0];exact hr
 have eL:tA 0 (List.replicate (j+m) .k++q)=(List.range (j+m)).map (fun i=>Tq.at (0+i))++tA (j+m) q:=by rw [iV,yF,yE];simp
 generalize hL:tA 0 (List.replicate (j+m) .k++q)=L at eL ⊢
 have lL:L.length=j+m+r:=by rw [eL];simp [hq]
 have e1:∀ z:List At,tA 0 (List.replicate j .k++p++z)=(List.range j).map (fun i=>Tq.at (0+i))++tA j p++tA (j+m) z:=fun z=>by
  rw [iV,iV,yF,fc,yE,List.length_append,List.length_replicate,hp];simp
 rw [e1,e1,yF,List.map_append,List.map_append,wK L j 0 (by omega),wK L r (j+m) (by omega)]
 congr 1
 ·congr 1
  ·rw [eL,List.drop_zero,List.take_append_of_le_length (by simp),←List.map_take,List.take_range]
   congr 2;omega
  ·refine (List.map_congr_left fun x hx=>?_).trans (List.map_id _)
   cases x with
   | sg c=>rfl
   | «at» i=>
    obtain ⟨i',rfl,hi⟩:=(gS p j i).mp hx
    have hlt:=(List.getElem?_eq_some_iff.mp hi).1
    rw [hp] at hlt
    simp only [sub,id]
    rw [eL,List.getD_eq_getElem?_getD,List.getElem?_append_left (by simp;omega),List.getElem?_map,List.getElem?_range (by omega)]
    simp
 ·rw [eL,List.drop_append_of_le_length (by simp)]
  rw [List.drop_eq_nil_of_le (by simp),List.nil_append,←hq,List.take_length]
noncomputable def cV (A:List Pt):Nat:=match A.getLast? with
 | some (.put _)=>bY A.dropLast
 | _=>bY A
theorem pX (c:List Pt):bY c=(tA 0 (au c)).length:=by rw [←bR,kL]
theorem mP {X A:List Pt}{z:List At}(h:au X=au A++z):bY A≤bY X:=by rw [pX,pX,h,iV,List.length_append];omega
theorem MX (A:List Pt):cV A≤bY A:=by
 unfold cV
 split
 ·rename_i s h
  obtain ⟨X,rfl⟩:=List.getLast?_eq_some_iff.mp h
  rw [List.dropLast_concat]
  exact mP (by rw [di])
 ·exact Nat.le_refl _
theorem uP {c A B A' B':List Pt}{p q:Nat}(h:Cut c p A B) (h':Cut c q A' B') (hpq:p≤q):cV A≤cV A':=by
 by_cases e:p=q
 ·subst e;rw [(h.uniq h').1];exact Nat.le_refl _
 ·refine Nat.le_trans (MX A) ?_
  have b:=h.qJ
  have b':=h'.qJ
  have hk:=fF (au B) (q - p) (by rw [←d8];omega)
  have hr:=h.ca.right hk
  rw [show p+(q - p)=q by omega] at hr
  have e1:=(hr.uniq h'.ca).1
  have hne:fZ (cg (au B) (q - p)).1=true:=by
   have:=h.hd
   rw [←hk.ap] at this
   revert this
   generalize (cg (au B) (q - p)).1=z
   intro this
   cases z with
   | nil=>rfl
   | cons x z=>cases x <;> first | rfl | exact this
  have hl:=hk.ln
  generalize (cg (au B) (q - p)).1=z at e1 hne hl
  unfold cV
  split
  ·rename_i s hs
   obtain ⟨X,rfl⟩:=List.getLast?_eq_some_iff.mp hs
   rw [List.dropLast_concat]
   rw [di,show au [Pt.put s]=s.map .p by simp [au,Pt.au]] at e1
   rcases List.append_eq_append_iff.mp e1 with ⟨y,h1,h2⟩ | ⟨y,h1,h2⟩
   ·exact mP h1
   ·exfalso
    cases z with
    | nil=>simp [aA] at hl;omega
    | cons x z=>
     have hx:x∈s.map At.p:=by rw [h2];simp
     obtain ⟨y',_,rfl⟩:=List.mem_map.mp hx
     simp [fZ] at hne
  ·exact mP e1.symm
theorem QB {a b c:Nat}(h1:a≤b) (h2:b≤c):Ev.sortI [(a:Int),(b:Int),(c:Int)]=[(a:Int),(b:Int),(c:Int)]:=by
 have e1:(b:Int)≤c:=by omega
 have e2:(a:Int)≤b:=by omega
 simp [Ev.sortI,Ev.insI,e1,e2]
noncomputable def pY (iO:Nat):S:=.set 3 (.ix (.cl iO (.cons (.v 0) (.cons (.v 1) .nil))) (.c (.int 0)))
noncomputable def pZ (fE:Nat):S:=.iff (.an (.cmp .eq (.v 2) (.c (.str [97,104,101,97,100]))) (.an (.v 3) (.cmp .eq (.ix (.ix (.v 3) (.neg (.c (.int 1)))) (.c (.int 0))) (.c (.str [112,117,116]))))) (.cons (.ret (.cl fE (.cons (.sl (.v 3) .no (.yes (.neg (.c (.int 1))))) .nil))) .nil) .nil
noncomputable def jJ (fE:Nat):S:=.ret (.cl fE (.cons (.v 3) .nil))
noncomputable def se (iO:Nat) (fE:Nat):Fn:=⟨3,4,(.cons (pY iO) (.cons (pZ fE) (.cons (jJ fE) .nil)))⟩
section
variable {F:List Fn}{w n aD aR aZ bB cY bF aW kT i:Nat}
theorem MY {α:Type}(m:List α) (x:α):cut (m++[x]) none (some (-1))=m:=by
 have e:Ev.aS (m++[x]).length (m++[x]).length (some (-1))=m.length:=by
  unfold Ev.aS
  dsimp only
  rw [if_pos (by decide)]
  simp;omega
 unfold Ev.cut
 rw [e]
 simp [Ev.aS]
theorem qa (hst:F[aR]?=some dj) (hf:F[aZ]?=some (fW aR)) (hs:F[aD]?=some dJ) (hp:F[bF]?=some fy) (ht:F[aW]?=some (gT bF aD)) (hb:F[bB]?=some (gE aD)) (ha:F[cY]?=some (j8 aD)) (hc:F[kT]?=some (pT bB aZ aD aW))
  (hd:F[i]?=some (se kT cY)) (hw:5000<w) (c:List Pt) (p:Nat) (h1:c.length≤900) (h2:tot c≤900) (h:p≤aM c) :
  ∃ A B,Cut c p A B∧run F w (n+4) i [.val (aJ c),.val (.int p),.val (.str [97,104,101,97,100])]=some (.int (cV A),[]):=by
 obtain ⟨A,B,r,C⟩:=nj (F:=F) (w:=w) (n:=n) hst hf hs hp ht hb hc hw c p (by omega) (by omega) h
 refine ⟨A,B,C,?_⟩
 have q1:=fun fr=>call2 (fr:=fr) r
 have b1:=C.eE
 have b2:=C.lA
 have q2:=fun (x:List Pt) (l1:x.length≤900) (l2:tot x≤900) fr=>cZ (fr:=fr) (mG (F:=F) (w:=w) (n:=n+1) hs ha x (by omega) (by omega))
 refine cI hd rfl ?_
 refine aj (bg (cE (aV (aC rfl (aB rfl) (aC rfl (aB rfl) aE)) (q1 _)) (aY rfl) rfl) rfl rfl ?_)
 have fin:cV A=bY A→Wp (exs (run F w (n+3)) w (.cons (jJ cY) .nil) [some (.val (aJ c)),some (.val (.int p)),some (.val (.str [97,104,101,97,100])),some (.val (aJ A))]) fun g fr=>g=.ret (.int (cV A))∧outs 3 fr=[]:=fun e=>by
  rw [e]
  exact aj (bX (aV (aC rfl (aB rfl) aE) (q2 A (by omega) (by omega) _)) ⟨rfl,rfl⟩)
 rcases List.eq_nil_or_concat A with rfl | ⟨X,q,hX⟩
 ·exact aj (aQ (b:=false) (dw (aG rfl (b8 (aB rfl) (aY rfl) jC) rfl) (mD (aG rfl (aB rfl) rfl))) (fun h=>absurd h (by decide)) fun _=>aF (fin rfl))
 ·rw [List.concat_eq_append] at hX
  subst hX
  have il:fK (aJ (X++[q])) (.int (-1))=some q.v:=by
   show bN ((X++[q]).map Pt.v) (-1)=_
   rw [Ax,List.map_append];simp
  have tr:truthy (aJ (X++[q]))=true:=by show (!((X++[q]).map Pt.v).isEmpty)=true;simp
  have sl:fR (aJ (X++[q])) none (some (-1))=some (aJ X):=by
   show some (V.tup (cut ((X++[q]).map Pt.v) none (some (-1))))=_
   rw [List.map_append]
   exact congrArg (fun z=>some (V.tup z)) (MY (X.map Pt.v) q.v)
  have tX:tot X≤900:=by rw [cO] at b1;omega
  have lX:X.length≤900:=by simp at b2;omega
  have ng:ev (run F w (n+3)) true (.neg (.c (.int 1)))=fun fr=>.ok (.int (-1)) fr:=by funext fr;exact mZ (aY rfl)
  cases q with
  | put s=>
   have e:cV (X++[.put s])=bY X:=by simp [cV]
   refine aj (aQ (b:=true) (dw (aG rfl (b8 (aB rfl) (aY rfl) jC) rfl) (dw (aG rfl (aB rfl) tr) (aG rfl (b8 (cE (cE (aB rfl) (mZ (aY rfl)) il) (aY rfl) rfl) (aY rfl) jC) rfl))) (fun _=>?_) fun h=>absurd h (by decide))
   rw [e]
   exact aj (bX (aV (aC rfl (uo (aB rfl) pG (mC (mZ (aY rfl))) sl) aE) (q2 X lX tX _)) ⟨rfl,rfl⟩)
  | keep k=>
   have e:cV (X++[.keep k])=bY (X++[.keep k]):=by simp [cV]
   exact aj (aQ (b:=false) (dw (aG rfl (b8 (aB rfl) (aY rfl) jC) rfl) (dw (aG rfl (aB rfl) tr) (aG rfl (b8 (cE (cE (aB rfl) (mZ (aY rfl)) il) (aY rfl) rfl) (aY rfl) jC) rfl))) (fun h=>absurd h (by decide)) fun _=>aF (fin e))
  | drop s=>
   have e:cV (X++[.drop s])=bY (X++[.drop s]):=by simp [cV]
   exact aj (aQ (b:=false) (dw (aG rfl (b8 (aB rfl) (aY rfl) jC) rfl) (dw (aG rfl (aB rfl) tr) (aG rfl (b8 (cE (cE (aB rfl) (mZ (aY rfl)) il) (aY rfl) rfl) (aY rfl) jC) rfl))) (fun h=>absurd h (by decide)) fun _=>aF (fin e))
end
end Pv
set_option maxRecDepth 100000
namespace Lw
@[reducible] noncomputable def Vi:Ev.S:=.iff (.cmp .eq (.ix (.v 0) (.c (.int 0))) (.c (.str [107,101,101,112]))) (.cons (.ret (.ix (.v 0) (.c (.int 1)))) .nil) .nil
@[reducible] noncomputable def Vj:Ev.S:=.ret (.bi .len (.cons (.ix (.v 0) (.c (.int 1))) .nil))
@[reducible] noncomputable def f0:Ev.Fn:=⟨1,1,(.cons Vi (.cons Vj .nil))⟩
@[reducible] noncomputable def Vk:Ev.S:=.ret (.bi .sum (.cons (.comp (.cl 0 (.cons (.v 1) .nil)) (.one 1) (.seq (.v 0)) (.yes (.cmp .ne (.ix (.v 1) (.c (.int 0))) (.c (.str [112,117,116]))))) .nil))
@[reducible] noncomputable def f1:Ev.Fn:=⟨1,2,(.cons Vk .nil)⟩
@[reducible] noncomputable def Vl:Ev.S:=.ret (.bi .sum (.cons (.comp (.cl 0 (.cons (.v 1) .nil)) (.one 1) (.seq (.v 0)) (.yes (.cmp .ne (.ix (.v 1) (.c (.int 0))) (.c (.str [100,114,111,112]))))) .nil))
@[reducible] noncomputable def f2:Ev.Fn:=⟨1,2,(.cons Vl .nil)⟩
@[reducible] noncomputable def Vm:Ev.S:=.ret (.bi .sum (.cons (.comp (.cl 0 (.cons (.v 1) .nil)) (.one 1) (.seq (.v 0)) (.yes (.cmp .ne (.ix (.v 1) (.c (.int 0))) (.c (.str [107,101,101,112]))))) .nil))
@[reducible] noncomputable def f3:Ev.Fn:=⟨1,2,(.cons Vm .nil)⟩
@[reducible] noncomputable def Vn:Ev.S:=.set 1 (.lst .nil)
@[reducible] noncomputable def Vo:Ev.S:=.set 2 (.c (.int 0))
@[reducible] noncomputable def Vp:Ev.S:=.set 3 (.c (.str []))
@[reducible] noncomputable def Vq:Ev.S:=.set 4 (.c (.str []))
@[reducible] noncomputable def Vr:Ev.Ss:=(.cons (.iff (.cmp .eq (.v 5) (.c (.str [100,114,111,112]))) (.cons (.set 3 (.bin .add (.v 3) (.v 6))) .nil) (.cons (.iff (.cmp .eq (.v 5) (.c (.str [112,117,116]))) (.cons (.set 4 (.bin .add (.v 4) (.v 6))) .nil) (.cons (.iff (.cmp .gt (.v 6) (.c (.int 0))) (.cons (.iff (.orr (.cmp .ne (.v 3) (.c (.str []))) (.cmp .ne (.v 4) (.c (.str [])))) (.cons (.exp (.me .extend (.v 1) (.cons (.cl 5 (.cons (.v 2) (.cons (.v 3) (.cons (.v 4) .nil)))) .nil))) (.cons (.set 2 (.c (.int 0))) (.cons (.set 3 (.c (.str []))) (.cons (.set 4 (.c (.str []))) .nil)))) .nil) (.cons (.set 2 (.bin .add (.v 2) (.v 6))) .nil)) .nil) .nil)) .nil)) .nil)
@[reducible] noncomputable def Vs:Ev.S:=.for (.many [5,6]) (.seq (.v 0)) Vr
@[reducible] noncomputable def Vt:Ev.S:=.exp (.me .extend (.v 1) (.cons (.cl 5 (.cons (.v 2) (.cons (.v 3) (.cons (.v 4) .nil)))) .nil))
@[reducible] noncomputable def Vu:Ev.S:=.ret (.iZ (.v 1))
@[reducible] noncomputable def f4:Ev.Fn:=⟨1,7,(.cons Vn (.cons Vo (.cons Vp (.cons Vq (.cons Vs (.cons Vt (.cons Vu .nil)))))))⟩
@[reducible] noncomputable def Vv:Ev.S:=.set 3 (.lst .nil)
@[reducible] noncomputable def Vw:Ev.S:=.iff (.cmp .gt (.v 0) (.c (.int 0))) (.cons (.exp (.me .append (.v 3) (.cons (.tup (.cons (.c (.str [107,101,101,112])) (.cons (.v 0) .nil))) .nil))) .nil) .nil
@[reducible] noncomputable def Vx:Ev.S:=.iff (.cmp .ne (.v 1) (.c (.str []))) (.cons (.exp (.me .append (.v 3) (.cons (.tup (.cons (.c (.str [100,114,111,112])) (.cons (.v 1) .nil))) .nil))) .nil) .nil
@[reducible] noncomputable def Vy:Ev.S:=.iff (.cmp .ne (.v 2) (.c (.str []))) (.cons (.exp (.me .append (.v 3) (.cons (.tup (.cons (.c (.str [112,117,116])) (.cons (.v 2) .nil))) .nil))) .nil) .nil
@[reducible] noncomputable def Vz:Ev.S:=.ret (.v 3)
@[reducible] noncomputable def f5:Ev.Fn:=⟨3,4,(.cons Vv (.cons Vw (.cons Vx (.cons Vy (.cons Vz .nil)))))⟩
@[reducible] noncomputable def VA:Ev.S:=.set 2 (.c (.int 0))
@[reducible] noncomputable def VB:Ev.Ss:=(.cons (.iff (.an (.cmp .eq (.ix (.v 3) (.c (.int 0))) (.c (.str [100,114,111,112]))) (.cmp .ne (.sl (.v 1) (.yes (.v 2)) (.yes (.bin .add (.v 2) (.cl 0 (.cons (.v 3) .nil))))) (.ix (.v 3) (.c (.int 1))))) (.cons (.ret (.c (.bl false))) .nil) .nil) (.cons (.iff (.cmp .ne (.ix (.v 3) (.c (.int 0))) (.c (.str [112,117,116]))) (.cons (.set 2 (.bin .add (.v 2) (.cl 0 (.cons (.v 3) .nil)))) .nil) .nil) .nil))
@[reducible] noncomputable def VC:Ev.S:=.for (.one 3) (.seq (.v 0)) VB
@[reducible] noncomputable def VD:Ev.S:=.ret (.cmp .eq (.v 2) (.bi .len (.cons (.v 1) .nil)))
@[reducible] noncomputable def f6:Ev.Fn:=⟨2,4,(.cons VA (.cons VC (.cons VD .nil)))⟩
@[reducible] noncomputable def VE:Ev.S:=.iff (.nt (.cl 6 (.cons (.v 0) (.cons (.v 1) .nil)))) (.cons (.fJ) .nil) .nil
@[reducible] noncomputable def VF:Ev.S:=.set 2 (.lst .nil)
@[reducible] noncomputable def VG:Ev.S:=.set 3 (.c (.int 0))
@[reducible] noncomputable def VH:Ev.Ss:=(.cons (.iff (.cmp .eq (.v 4) (.c (.str [112,117,116]))) (.cons (.exp (.me .append (.v 2) (.cons (.v 5) .nil))) .nil) (.cons (.iff (.cmp .eq (.v 4) (.c (.str [100,114,111,112]))) (.cons (.set 3 (.bin .add (.v 3) (.bi .len (.cons (.v 5) .nil)))) .nil) (.cons (.exp (.me .append (.v 2) (.cons (.sl (.v 1) (.yes (.v 3)) (.yes (.bin .add (.v 3) (.v 5)))) .nil))) (.cons (.set 3 (.bin .add (.v 3) (.v 5))) .nil))) .nil)) .nil)
@[reducible] noncomputable def VI:Ev.S:=.for (.many [4,5]) (.seq (.v 0)) VH
@[reducible] noncomputable def VJ:Ev.S:=.ret (.me .join (.c (.str [])) (.cons (.v 2) .nil))
@[reducible] noncomputable def f7:Ev.Fn:=⟨2,6,(.cons VE (.cons VF (.cons VG (.cons VI (.cons VJ .nil)))))⟩
@[reducible] noncomputable def VL:Ev.S:=.ret (.cl 4 (.cons (.tup (.cons (.tup (.cons (.c (.str [107,101,101,112])) (.cons (.v 0) .nil))) .nil)) .nil))
@[reducible] noncomputable def f8:Ev.Fn:=⟨1,1,(.cons VL .nil)⟩
@[reducible] noncomputable def VM:Ev.S:=.iff (.cmp .ne (.cl 2 (.cons (.v 0) .nil)) (.cl 1 (.cons (.v 1) .nil))) (.cons (.fJ) .nil) .nil
@[reducible] noncomputable def VN:Ev.S:=.set 2 (.gn (.rev (.cl 4 (.cons (.v 0) .nil))))
@[reducible] noncomputable def VO:Ev.S:=.set 3 (.gn (.rev (.cl 4 (.cons (.v 1) .nil))))
@[reducible] noncomputable def VP:Ev.S:=.set 4 (.lst .nil)
@[reducible] noncomputable def VQ:Ev.Ss:=(.cons (.iff (.an (.v 2) (.cmp .eq (.ix (.ix (.v 2) (.neg (.c (.int 1)))) (.c (.int 0))) (.c (.str [100,114,111,112])))) (.cons (.exp (.me .append (.v 4) (.cons (.me .pop (.v 2) .nil) .nil))) .nil) (.cons (.iff (.an (.v 3) (.cmp .eq (.ix (.ix (.v 3) (.neg (.c (.int 1)))) (.c (.int 0))) (.c (.str [112,117,116])))) (.cons (.exp (.me .append (.v 4) (.cons (.me .pop (.v 3) .nil) .nil))) .nil) (.cons (.set 5 (.bi .min (.cons (.cl 0 (.cons (.ix (.v 2) (.neg (.c (.int 1)))) .nil)) (.cons (.cl 0 (.cons (.ix (.v 3) (.neg (.c (.int 1)))) .nil)) .nil)))) (.cons (.exp (.me .extend (.v 4) (.cons (.cl 10 (.cons (.cl 11 (.cons (.v 2) (.cons (.v 5) .nil))) (.cons (.cl 11 (.cons (.v 3) (.cons (.v 5) .nil))) .nil))) .nil))) .nil))) .nil)) .nil)
@[reducible] noncomputable def VR:Ev.S:=.lP (.orr (.v 2) (.v 3)) VQ
@[reducible] noncomputable def VS:Ev.S:=.ret (.cl 4 (.cons (.iZ (.v 4)) .nil))
@[reducible] noncomputable def f9:Ev.Fn:=⟨2,6,(.cons VM (.cons VN (.cons VO (.cons VP (.cons VR (.cons VS .nil))))))⟩
@[reducible] noncomputable def QC:Ev.S:=.iff (.cmp .eq (.ix (.v 1) (.c (.int 0))) (.c (.str [107,101,101,112]))) (.cons (.ret (.lst (.cons (.v 0) .nil))) .nil) .nil
@[reducible] noncomputable def QD:Ev.S:=.iff (.cmp .eq (.ix (.v 0) (.c (.int 0))) (.c (.str [107,101,101,112]))) (.cons (.ret (.lst (.cons (.v 1) .nil))) .nil) .nil
@[reducible] noncomputable def QE:Ev.S:=.iff (.cmp .ne (.ix (.v 0) (.c (.int 1))) (.ix (.v 1) (.c (.int 1)))) (.cons (.fJ) .nil) .nil
@[reducible] noncomputable def QF:Ev.S:=.ret (.lst .nil)
@[reducible] noncomputable def EH:Ev.Fn:=⟨2,2,(.cons QC (.cons QD (.cons QE (.cons QF .nil))))⟩
@[reducible] noncomputable def QG:Ev.S:=.set 2 (.cl 12 (.cons (.me .pop (.v 0) .nil) (.cons (.v 1) .nil)))
@[reducible] noncomputable def QH:Ev.S:=.iff (.cmp .gt (.cl 0 (.cons (.ix (.v 2) (.c (.int 1))) .nil)) (.c (.int 0))) (.cons (.exp (.me .append (.v 0) (.cons (.ix (.v 2) (.c (.int 1))) .nil))) .nil) .nil
@[reducible] noncomputable def QI:Ev.S:=.ret (.ix (.v 2) (.c (.int 0)))
@[reducible] noncomputable def R4:Ev.Fn:=⟨2,3,(.cons QG (.cons QH (.cons QI .nil)))⟩
@[reducible] noncomputable def QJ:Ev.S:=.set 2 (.ix (.v 0) (.c (.int 0)))
@[reducible] noncomputable def QK:Ev.S:=.iff (.cmp .eq (.v 2) (.c (.str [107,101,101,112]))) (.cons (.ret (.tup (.cons (.tup (.cons (.v 2) (.cons (.v 1) .nil))) (.cons (.tup (.cons (.v 2) (.cons (.bin .sub (.ix (.v 0) (.c (.int 1))) (.v 1)) .nil))) .nil)))) .nil) .nil
@[reducible] noncomputable def QL:Ev.S:=.ret (.tup (.cons (.tup (.cons (.v 2) (.cons (.sl (.ix (.v 0) (.c (.int 1))) .no (.yes (.v 1))) .nil))) (.cons (.tup (.cons (.v 2) (.cons (.sl (.ix (.v 0) (.c (.int 1))) (.yes (.v 1)) .no) .nil))) .nil)))
@[reducible] noncomputable def R5:Ev.Fn:=⟨2,3,(.cons QJ (.cons QK (.cons QL .nil)))⟩
@[reducible] noncomputable def QM:Ev.S:=.ret (.cl 4 (.cons (.bin .add (.v 0) (.v 1)) .nil))
@[reducible] noncomputable def R6:Ev.Fn:=⟨2,2,(.cons QM .nil)⟩
@[reducible] noncomputable def QN:Ev.S:=.iff (.orr (.cmp .lt (.v 1) (.c (.int 0))) (.cmp .gt (.v 1) (.cl 1 (.cons (.v 0) .nil)))) (.cons (.fJ) .nil) .nil
@[reducible] noncomputable def QO:Ev.S:=.set 2 (.gn (.rev (.cl 4 (.cons (.v 0) .nil))))
@[reducible] noncomputable def QS:Ev.S:=.set 3 (.lst .nil)
@[reducible] noncomputable def QT:Ev.S:=.set 4 (.v 1)
@[reducible] noncomputable def QU:Ev.Ss:=(.cons (.iff (.cmp .eq (.ix (.ix (.v 2) (.neg (.c (.int 1)))) (.c (.int 0))) (.c (.str [112,117,116]))) (.cons (.exp (.me .append (.v 3) (.cons (.me .pop (.v 2) .nil) .nil))) .nil) (.cons (.set 5 (.bi .min (.cons (.v 4) (.cons (.cl 0 (.cons (.ix (.v 2) (.neg (.c (.int 1)))) .nil)) .nil)))) (.cons (.exp (.me .append (.v 3) (.cons (.cl 11 (.cons (.v 2) (.cons (.v 5) .nil))) .nil))) (.cons (.set 4 (.bin .sub (.v 4) (.v 5))) .nil)))) .nil)
@[reducible] noncomputable def QV:Ev.S:=.lP (.an (.v 2) (.orr (.cmp .gt (.v 4) (.c (.int 0))) (.cmp .eq (.ix (.ix (.v 2) (.neg (.c (.int 1)))) (.c (.int 0))) (.c (.str [112,117,116]))))) QU
@[reducible] noncomputable def QW:Ev.S:=.ret (.tup (.cons (.iZ (.v 3)) (.cons (.lz (.v 2)) .nil)))
@[reducible] noncomputable def R7:Ev.Fn:=⟨2,6,(.cons QN (.cons QO (.cons QS (.cons QT (.cons QV (.cons QW .nil))))))⟩
@[reducible] noncomputable def QX:Ev.S:=.set 3 (.ix (.cl 14 (.cons (.v 0) (.cons (.v 1) .nil))) (.c (.int 1)))
@[reducible] noncomputable def QY:Ev.S:=.ret (.cl 16 (.cons (.v 1) (.cons (.ix (.cl 14 (.cons (.v 3) (.cons (.bin .sub (.v 2) (.v 1)) .nil))) (.c (.int 0))) (.cons (.bin .sub (.cl 1 (.cons (.v 0) .nil)) (.v 2)) .nil))))
@[reducible] noncomputable def R8:Ev.Fn:=⟨3,4,(.cons QX (.cons QY .nil))⟩
@[reducible] noncomputable def QZ:Ev.S:=.ret (.cl 13 (.cons (.cl 13 (.cons (.cl 8 (.cons (.v 0) .nil)) (.cons (.v 1) .nil))) (.cons (.cl 8 (.cons (.v 2) .nil)) .nil)))
@[reducible] noncomputable def R9:Ev.Fn:=⟨3,3,(.cons QZ .nil)⟩
@[reducible] noncomputable def Q0:Ev.S:=.set 3 (.ix (.cl 14 (.cons (.v 0) (.cons (.v 1) .nil))) (.c (.int 0)))
@[reducible] noncomputable def Q2:Ev.S:=.iff (.an (.cmp .eq (.v 2) (.c (.str [97,104,101,97,100]))) (.an (.v 3) (.cmp .eq (.ix (.ix (.v 3) (.neg (.c (.int 1)))) (.c (.int 0))) (.c (.str [112,117,116]))))) (.cons (.ret (.cl 2 (.cons (.sl (.v 3) .no (.yes (.neg (.c (.int 1))))) .nil))) .nil) .nil
@[reducible] noncomputable def Q3:Ev.S:=.ret (.cl 2 (.cons (.v 3) .nil))
@[reducible] noncomputable def Sa:Ev.Fn:=⟨3,4,(.cons Q0 (.cons Q2 (.cons Q3 .nil)))⟩
@[reducible] noncomputable def Q4:Ev.S:=.iff (.cmp .eq (.v 0) (.lst .nil)) (.cons (.ret (.bin .mul (.c (.int 7)) (.v 1))) .nil) .nil
@[reducible] noncomputable def Q5:Ev.S:=.ret (.bin .add (.ix (.v 0) (.bin .mod (.v 1) (.bi .len (.cons (.v 0) .nil)))) (.bin .mul (.c (.int 6553)) (.bin .fdiv (.v 1) (.bi .len (.cons (.v 0) .nil)))))
@[reducible] noncomputable def Sb:Ev.Fn:=⟨2,2,(.cons Q4 (.cons Q5 .nil))⟩
@[reducible] noncomputable def Q6:Ev.S:=.set 3 (.bin .mod (.bin .add (.bin .mul (.bin .mod (.cl 18 (.cons (.v 0) (.cons (.v 1) .nil))) (.c (.int 2147483563))) (.c (.int 69069))) (.bin .mul (.c (.int 104723)) (.bin .add (.v 1) (.c (.int 1))))) (.c (.int 2147483563)))
@[reducible] noncomputable def Q7:Ev.S:=.set 3 (.bin .mod (.bin .add (.bin .mul (.v 3) (.v 3)) (.bin .fdiv (.v 3) (.c (.int 3)))) (.c (.int 2147483399)))
@[reducible] noncomputable def Q8:Ev.S:=.ret (.bin .mod (.bin .fdiv (.bin .mod (.bin .add (.bin .mul (.v 3) (.v 3)) (.bin .fdiv (.v 3) (.c (.int 7)))) (.c (.int 2147483647))) (.c (.int 11))) (.v 2))
@[reducible] noncomputable def Sd:Ev.Fn:=⟨3,4,(.cons Q6 (.cons Q7 (.cons Q8 .nil)))⟩
@[reducible] noncomputable def Q9:Ev.S:=.ret (.me .join (.c (.str [])) (.cons (.comp (.ix (.c (.str [97,98,99,32])) (.cl 19 (.cons (.v 0) (.cons (.bin .add (.bin .add (.v 1) (.c (.int 1))) (.v 3)) (.cons (.c (.int 4)) .nil))))) (.one 3) (.gm (.cons (.cl 19 (.cons (.v 0) (.cons (.v 1) (.cons (.bin .add (.v 2) (.c (.int 1))) .nil)))) .nil)) .no) .nil))
@[reducible] noncomputable def Se:Ev.Fn:=⟨3,4,(.cons Q9 .nil)⟩
@[reducible] noncomputable def Ra:Ev.S:=.set 3 (.tup .nil)
@[reducible] noncomputable def Rb:Ev.Ss:=(.cons (.iff (.cmp .eq (.cl 19 (.cons (.v 0) (.cons (.bin .add (.v 1) (.bin .mul (.c (.int 4)) (.v 4))) (.cons (.c (.int 4)) .nil)))) (.c (.int 0))) (.cons (.set 5 (.bin .mul (.ix (.c (.str [97,98,122])) (.cl 19 (.cons (.v 0) (.cons (.bin .add (.bin .add (.v 1) (.bin .mul (.c (.int 4)) (.v 4))) (.c (.int 1))) (.cons (.c (.int 3)) .nil))))) (.bin .add (.c (.int 1)) (.cl 19 (.cons (.v 0) (.cons (.bin .add (.bin .add (.v 1) (.bin .mul (.c (.int 4)) (.v 4))) (.c (.int 2))) (.cons (.c (.int 2)) .nil))))))) (.cons (.set 3 (.bin .add (.v 3) (.tup (.cons (.tup (.cons (.c (.str [112,117,116])) (.cons (.v 5) .nil))) .nil)))) .nil)) .nil) (.cons (.iff (.cmp .lt (.v 4) (.bi .len (.cons (.v 2) .nil))) (.cons (.set 6 (.cmp .gt (.cl 19 (.cons (.v 0) (.cons (.bin .add (.bin .add (.v 1) (.bin .mul (.c (.int 4)) (.v 4))) (.c (.int 3))) (.cons (.c (.int 3)) .nil)))) (.c (.int 0)))) (.cons (.set 3 (.bin .add (.v 3) (.tup (.cons (.ly (.v 6) (.tup (.cons (.c (.str [107,101,101,112])) (.cons (.c (.int 1)) .nil))) (.tup (.cons (.c (.str [100,114,111,112])) (.cons (.ix (.v 2) (.v 4)) .nil)))) .nil)))) .nil)) .nil) .nil))
@[reducible] noncomputable def Rc:Ev.S:=.for (.one 4) (.gm (.cons (.bin .add (.bi .len (.cons (.v 2) .nil)) (.c (.int 1))) .nil)) Rb
@[reducible] noncomputable def Rf:Ev.S:=.ret (.v 3)
@[reducible] noncomputable def Sf:Ev.Fn:=⟨3,7,(.cons Ra (.cons Rc (.cons Rf .nil)))⟩
@[reducible] noncomputable def Fx:Ev.S:=.set 1 (.cl 20 (.cons (.v 0) (.cons (.c (.int 0)) (.cons (.c (.int 5)) .nil))))
@[reducible] noncomputable def Fy:Ev.S:=.set 2 (.cl 21 (.cons (.v 0) (.cons (.c (.int 10)) (.cons (.v 1) .nil))))
@[reducible] noncomputable def Fz:Ev.S:=.set 3 (.bi .len (.cons (.v 1) .nil))
@[reducible] noncomputable def FA:Ev.S:=.iff (.cmp .ne (.bin .add (.bi .sum (.cons (.comp (.cl 3 (.cons (.cl 15 (.cons (.v 2) (.cons (.v 15) (.cons (.bin .add (.v 15) (.c (.int 1))) .nil)))) .nil)) (.one 15) (.gm (.cons (.v 3) .nil)) .no) .nil)) (.cl 3 (.cons (.ix (.cl 14 (.cons (.v 2) (.cons (.c (.int 0)) .nil))) (.c (.int 0))) .nil))) (.cl 3 (.cons (.v 2) .nil))) (.cons (.ret (.c (.bl false))) .nil) .nil
@[reducible] noncomputable def yH:Ev.S:=.set 4 (.cl 8 (.cons (.v 3) .nil))
@[reducible] noncomputable def FD:Ev.Ss:=(.cons (.set 6 (.ix (.cl 14 (.cons (.cl 15 (.cons (.v 2) (.cons (.v 5) (.cons (.bin .add (.v 5) (.c (.int 1))) .nil)))) (.cons (.bin .add (.v 5) (.c (.int 1))) .nil))) (.c (.int 0)))) (.cons (.set 4 (.cl 9 (.cons (.v 4) (.cons (.cl 13 (.cons (.v 6) (.cons (.cl 8 (.cons (.bin .sub (.bin .sub (.cl 2 (.cons (.v 4) .nil)) (.v 5)) (.c (.int 1))) .nil)) .nil))) .nil)))) .nil))
@[reducible] noncomputable def yI:Ev.S:=.for (.one 5) (.seq (.rv (.gn (.gm (.cons (.v 3) .nil))))) FD
@[reducible] noncomputable def yJ:Ev.S:=.iff (.cmp .ne (.cl 9 (.cons (.v 4) (.cons (.cl 13 (.cons (.ix (.cl 14 (.cons (.v 2) (.cons (.c (.int 0)) .nil))) (.c (.int 0))) (.cons (.cl 8 (.cons (.cl 2 (.cons (.v 4) .nil)) .nil)) .nil))) .nil))) (.cl 4 (.cons (.v 2) .nil))) (.cons (.ret (.c (.bl false))) .nil) .nil
@[reducible] noncomputable def yK:Ev.S:=.set 7 (.cl 19 (.cons (.v 0) (.cons (.c (.int 60)) (.cons (.bin .add (.v 3) (.c (.int 1))) .nil))))
@[reducible] noncomputable def yL:Ev.S:=.set 8 (.bin .add (.v 7) (.cl 19 (.cons (.v 0) (.cons (.c (.int 61)) (.cons (.bin .add (.bin .sub (.v 3) (.v 7)) (.c (.int 1))) .nil)))))
@[reducible] noncomputable def yN:Ev.S:=.set 9 (.bin .add (.v 8) (.cl 19 (.cons (.v 0) (.cons (.c (.int 62)) (.cons (.bin .add (.bin .sub (.v 3) (.v 8)) (.c (.int 1))) .nil)))))
@[reducible] noncomputable def uQ:Ev.S:=.set 4 (.cl 15 (.cons (.v 2) (.cons (.v 7) (.cons (.v 9) .nil))))
@[reducible] noncomputable def uR:Ev.S:=.set 10 (.cl 15 (.cons (.v 2) (.cons (.v 7) (.cons (.v 8) .nil))))
@[reducible] noncomputable def uS:Ev.S:=.set 11 (.cl 15 (.cons (.v 2) (.cons (.v 8) (.cons (.v 9) .nil))))
@[reducible] noncomputable def uT:Ev.S:=.set 12 (.cl 7 (.cons (.v 11) (.cons (.v 1) .nil)))
@[reducible] noncomputable def uU:Ev.S:=.iff (.cmp .ne (.cl 7 (.cons (.v 4) (.cons (.v 1) .nil))) (.cl 7 (.cons (.cl 13 (.cons (.ix (.cl 14 (.cons (.v 10) (.cons (.v 8) .nil))) (.c (.int 0))) (.cons (.cl 8 (.cons (.bin .sub (.bi .len (.cons (.v 12) .nil)) (.v 8)) .nil)) .nil))) (.cons (.v 12) .nil)))) (.cons (.ret (.c (.bl false))) .nil) .nil
@[reducible] noncomputable def uV:Ev.S:=.iff (.orr (.cmp .ne (.sl (.cl 7 (.cons (.v 4) (.cons (.v 1) .nil))) .no (.yes (.v 7))) (.sl (.v 1) .no (.yes (.v 7)))) (.nt (.me .iJ (.cl 7 (.cons (.v 4) (.cons (.v 1) .nil))) (.cons (.sl (.v 1) (.yes (.v 9)) .no) .nil)))) (.cons (.ret (.c (.bl false))) .nil) .nil
@[reducible] noncomputable def uW:Ev.S:=.set 13 (.cl 14 (.cons (.v 2) (.cons (.v 8) .nil)))
@[reducible] noncomputable def uZ:Ev.S:=.iff (.orr (.cmp .ne (.ix (.cl 14 (.cons (.ix (.v 13) (.c (.int 0))) (.cons (.v 7) .nil))) (.c (.int 0))) (.ix (.cl 14 (.cons (.v 2) (.cons (.v 7) .nil))) (.c (.int 0)))) (.cmp .ne (.ix (.cl 14 (.cons (.ix (.v 13) (.c (.int 1))) (.cons (.bin .sub (.v 9) (.v 8)) .nil))) (.c (.int 1))) (.ix (.cl 14 (.cons (.v 2) (.cons (.v 9) .nil))) (.c (.int 1))))) (.cons (.ret (.c (.bl false))) .nil) .nil
@[reducible] noncomputable def u0:Ev.S:=.iff (.orr (.cmp .ne (.ix (.cl 14 (.cons (.ix (.cl 14 (.cons (.v 2) (.cons (.v 7) .nil))) (.c (.int 1))) (.cons (.bin .sub (.v 8) (.v 7)) .nil))) (.c (.int 0))) (.ix (.cl 14 (.cons (.ix (.v 13) (.c (.int 0))) (.cons (.v 7) .nil))) (.c (.int 1)))) (.cmp .ne (.cl 1 (.cons (.ix (.v 13) (.c (.int 1))) .nil)) (.bin .sub (.v 3) (.v 8)))) (.cons (.ret (.c (.bl false))) .nil) .nil
@[reducible] noncomputable def u5:Ev.S:=.set 14 (.comp (.cl 17 (.cons (.v 2) (.cons (.v 16) (.cons (.c (.str [97,104,101,97,100])) .nil)))) (.one 16) (.seq (.tup (.cons (.v 7) (.cons (.v 8) (.cons (.v 9) .nil))))) .no)
@[reducible] noncomputable def u6:Ev.S:=.iff (.cmp .ne (.v 14) (.bi .jE (.cons (.v 14) .nil))) (.cons (.ret (.c (.bl false))) .nil) .nil
@[reducible] noncomputable def u7:Ev.S:=.ret (.an (.cmp .eq (.cl 15 (.cons (.v 2) (.cons (.v 7) (.cons (.v 7) .nil)))) (.cl 8 (.cons (.v 3) .nil))) (.cmp .eq (.cl 13 (.cons (.ix (.cl 14 (.cons (.v 2) (.cons (.c (.int 0)) .nil))) (.c (.int 0))) (.cons (.ix (.cl 14 (.cons (.v 2) (.cons (.c (.int 0)) .nil))) (.c (.int 1))) .nil))) (.cl 4 (.cons (.v 2) .nil))))
@[reducible] noncomputable def FE:Ev.Fn:=⟨1,17,(.cons Fx (.cons Fy (.cons Fz (.cons FA (.cons yH (.cons yI (.cons yJ (.cons yK (.cons yL (.cons yN (.cons uQ (.cons uR (.cons uS (.cons uT (.cons uU (.cons uV (.cons uW (.cons uZ (.cons u0 (.cons u5 (.cons u6 (.cons u7 .nil))))))))))))))))))))))⟩
noncomputable def prog:List Ev.Fn:=[f0,f1,f2,f3,f4,f5,f6,f7,f8,f9,EH,R4,R5,R6,R7,R8,R9,Sa,Sb,Sd,Se,Sf,FE]
end Lw
set_option maxRecDepth 100000
namespace Lw
open PySem PySem.Spec PyProof.Rows L2 Sm
open Ev (D O Hh Fr R aU E Es Eo T S Ss Fl Src bV bQ TY BI ME)
noncomputable def top (i:Nat):Stmt:=PySem.Challenge.pw_pastways_k42_whole_stretches.main.body.getD i (.Pass ⟨0,0,0,0⟩)
abbrev i0 (a:Nat→Addr) (d:Nat→FuncData):FI:=⟨"size",a 0,d 0,["part"]⟩
abbrev i1 (a:Nat→Addr) (d:Nat→FuncData):FI:=⟨"before",a 1,d 1,["change"]⟩
abbrev i2 (a:Nat→Addr) (d:Nat→FuncData):FI:=⟨"after",a 2,d 2,["change"]⟩
abbrev i3 (a:Nat→Addr) (d:Nat→FuncData):FI:=⟨"cost",a 3,d 3,["change"]⟩
abbrev i4 (a:Nat→Addr) (d:Nat→FuncData):FI:=⟨"form",a 4,d 4,["change"]⟩
abbrev i5 (a:Nat→Addr) (d:Nat→FuncData):FI:=⟨"stretch",a 5,d 5,["kept","gone","new"]⟩
abbrev i6 (a:Nat→Addr) (d:Nat→FuncData):FI:=⟨"fits",a 6,d 6,["change","text"]⟩
abbrev i7 (a:Nat→Addr) (d:Nat→FuncData):FI:=⟨"done",a 7,d 7,["change","text"]⟩
abbrev i8 (a:Nat→Addr) (d:Nat→FuncData):FI:=⟨"nothing",a 8,d 8,["many"]⟩
abbrev i9 (a:Nat→Addr) (d:Nat→FuncData):FI:=⟨"then",a 9,d 9,["one","other"]⟩
abbrev FF (a:Nat→Addr) (d:Nat→FuncData):FI:=⟨"met",a 10,d 10,["left","gone_through"]⟩
abbrev FG (a:Nat→Addr) (d:Nat→FuncData):FI:=⟨"taken",a 11,d 11,["parts","many"]⟩
abbrev i12 (a:Nat→Addr) (d:Nat→FuncData):FI:=⟨"parted",a 12,d 12,["part","many"]⟩
abbrev FH (a:Nat→Addr) (d:Nat→FuncData):FI:=⟨"joined",a 13,d 13,["one","other"]⟩
abbrev FJ (a:Nat→Addr) (d:Nat→FuncData):FI:=⟨"cut",a 14,d 14,["change","place"]⟩
abbrev FL (a:Nat→Addr) (d:Nat→FuncData):FI:=⟨"only",a 15,d 15,["change","start","end"]⟩
abbrev FO (a:Nat→Addr) (d:Nat→FuncData):FI:=⟨"among",a 16,d 16,["many","change","more"]⟩
abbrev FP (a:Nat→Addr) (d:Nat→FuncData):FI:=⟨"place_after",a 17,d 17,["change","place","side"]⟩
abbrev FQ (a:Nat→Addr) (d:Nat→FuncData):FI:=⟨"_law_cell",a 18,d 18,["_law_script","_law_k"]⟩
abbrev FT (a:Nat→Addr) (d:Nat→FuncData):FI:=⟨"_law_drawn",a 19,d 19,["_law_script","_law_k","_law_many"]⟩
abbrev FU (a:Nat→Addr) (d:Nat→FuncData):FI:=⟨"_law_text",a 20,d 20,["_law_script","_law_at","_law_most"]⟩
abbrev FY (a:Nat→Addr) (d:Nat→FuncData):FI:=⟨"_law_change",a 21,d 21,["_law_script","_law_at","_law_text_here"]⟩
abbrev Bd (a:Nat→Addr) (d:Nat→FuncData):FI:=⟨"law",a 22,d 22,["_law_script"]⟩
noncomputable def nO:List Str:=["len","list","min","range","reversed","sorted","sum","tuple"]
theorem Rg:("len" : Str)∈nO:=by decide +kernel
theorem Bg:("list" : Str)∈nO:=by decide +kernel
theorem Rh:("min" : Str)∈nO:=by decide +kernel
theorem wO:("range" : Str)∈nO:=by decide +kernel
theorem qb:("reversed" : Str)∈nO:=by decide +kernel
theorem DV:("sorted" : Str)∈nO:=by decide +kernel
theorem Ri:("sum" : Str)∈nO:=by decide +kernel
theorem wQ:("tuple" : Str)∈nO:=by decide +kernel
noncomputable def tb (a:Nat→Addr) (d:Nat→FuncData):Tb:=⟨prog,100000,[i0 a d,i1 a d,i2 a d,i3 a d,i4 a d,i5 a d,i6 a d,i7 a d,i8 a d,i9 a d,FF a d,FG a d,i12 a d,FH a d,FJ a d,FL a d,FO a d,FP a d,FQ a d,FT a d,FU a d,FY a d,Bd a d],nO,[("__name__",.str [108,97,119,95,112,97,115,116,119,97,121,115,95,107,52,50,95,119,104,111,108,101,95,115,116,114,101,116,99,104,101,115])],[]⟩
section
variable {a:Nat→Addr}{d:Nat→FuncData}{n:Nat}
abbrev n0:List Str:=["part"]
theorem s0:bG n0 ["part"] (aq (top 1)):=⟨rfl,rfl,rfl,by decide +kernel,rfl,by decide +kernel,by decide +kernel⟩
abbrev n1:List Str:=["change"]
theorem s1:bG n1 ["change"] (aq (top 2)):=⟨rfl,rfl,rfl,by decide +kernel,rfl,by decide +kernel,by decide +kernel⟩
abbrev n2:List Str:=["change"]
theorem s2:bG n2 ["change"] (aq (top 3)):=⟨rfl,rfl,rfl,by decide +kernel,rfl,by decide +kernel,by decide +kernel⟩
abbrev n3:List Str:=["change"]
theorem s3:bG n3 ["change"] (aq (top 4)):=⟨rfl,rfl,rfl,by decide +kernel,rfl,by decide +kernel,by decide +kernel⟩
abbrev n4:List Str:=["change","parts","kept","gone","new","word","what"]
theorem s4:bG n4 ["change"] (aq (top 5)):=⟨rfl,rfl,rfl,by decide +kernel,rfl,by decide +kernel,by decide +kernel⟩
abbrev n5:List Str:=["kept","gone","new","parts"]
theorem s5:bG n5 ["kept","gone","new"] (aq (top 6)):=⟨rfl,rfl,rfl,by decide +kernel,rfl,by decide +kernel,by decide +kernel⟩
abbrev n6:List Str:=["change","text","place","part"]
theorem s6:bG n6 ["change","text"] (aq (top 12)):=⟨rfl,rfl,rfl,by decide +kernel,rfl,by decide +kernel,by decide +kernel⟩
abbrev n7:List Str:=["change","text","pieces","place","word","what"]
theorem s7:bG n7 ["change","text"] (aq (top 13)):=⟨rfl,rfl,rfl,by decide +kernel,rfl,by decide +kernel,by decide +kernel⟩
abbrev n8:List Str:=["many"]
theorem s8:bG n8 ["many"] (aq (top 14)):=⟨rfl,rfl,rfl,by decide +kernel,rfl,by decide +kernel,by decide +kernel⟩
abbrev n9:List Str:=["one","other","ones","others","parts","many"]
theorem s9:bG n9 ["one","other"] (aq (top 15)):=⟨rfl,rfl,rfl,by decide +kernel,rfl,by decide +kernel,by decide +kernel⟩
abbrev Sg:List Str:=["left","gone_through"]
theorem zI:bG Sg ["left","gone_through"] (aq (top 16)):=⟨rfl,rfl,rfl,by decide +kernel,rfl,by decide +kernel,by decide +kernel⟩
abbrev Sh:List Str:=["parts","many","halves"]
theorem EE:bG Sh ["parts","many"] (aq (top 17)):=⟨rfl,rfl,rfl,by decide +kernel,rfl,by decide +kernel,by decide +kernel⟩
abbrev Si:List Str:=["part","many","word"]
theorem s12:bG Si ["part","many"] (aq (top 18)):=⟨rfl,rfl,rfl,by decide +kernel,rfl,by decide +kernel,by decide +kernel⟩
abbrev Sj:List Str:=["one","other"]
theorem XI:bG Sj ["one","other"] (aq (top 20)):=⟨rfl,rfl,rfl,by decide +kernel,rfl,by decide +kernel,by decide +kernel⟩
abbrev Sk:List Str:=["change","place","parts","first","left","many"]
theorem XJ:bG Sk ["change","place"] (aq (top 21)):=⟨rfl,rfl,rfl,by decide +kernel,rfl,by decide +kernel,by decide +kernel⟩
abbrev Sn:List Str:=["change","start","end","behind"]
theorem XM:bG Sn ["change","start","end"] (aq (top 22)):=⟨rfl,rfl,rfl,by decide +kernel,rfl,by decide +kernel,by decide +kernel⟩
abbrev So:List Str:=["many","change","more"]
theorem FZ:bG So ["many","change","more"] (aq (top 23)):=⟨rfl,rfl,rfl,by decide +kernel,rfl,by decide +kernel,by decide +kernel⟩
abbrev Sq:List Str:=["change","place","side","first"]
theorem XN:bG Sq ["change","place","side"] (aq (top 25)):=⟨rfl,rfl,rfl,by decide +kernel,rfl,by decide +kernel,by decide +kernel⟩
abbrev Su:List Str:=["_law_script","_law_k"]
theorem XO:bG Su ["_law_script","_law_k"] (aq (top 27)):=⟨rfl,rfl,rfl,by decide +kernel,rfl,by decide +kernel,by decide +kernel⟩
abbrev Sv:List Str:=["_law_script","_law_k","_law_many","_law_cell_here"]
theorem Ga:bG Sv ["_law_script","_law_k","_law_many"] (aq (top 28)):=⟨rfl,rfl,rfl,by decide +kernel,rfl,by decide +kernel,by decide +kernel⟩
abbrev Sw:List Str:=["_law_script","_law_at","_law_most"]
theorem XQ:bG Sw ["_law_script","_law_at","_law_most"] (aq (top 29)):=⟨rfl,rfl,rfl,by decide +kernel,rfl,by decide +kernel,by decide +kernel⟩
abbrev Sx:List Str:=["_law_script","_law_at","_law_text_here","_law_found","_law_k","_law_new","_law_is_kept"]
theorem XR:bG Sx ["_law_script","_law_at","_law_text_here"] (aq (top 30)):=⟨rfl,rfl,rfl,by decide +kernel,rfl,by decide +kernel,by decide +kernel⟩
abbrev Sy:List Str:=["_law_script","_law_text_here","_law_change_here","_law_size","_law_whole","_law_at","_law_part","_law_start","_law_middle","_law_end","_law_first","_law_last","_law_made","_law_one","_law_places"]
theorem XS:bG Sy ["_law_script"] (aq (top 31)):=⟨rfl,rfl,rfl,by decide +kernel,rfl,by decide +kernel,by decide +kernel⟩
set_option maxHeartbeats 0 in
theorem ee:allB (tb a d) n [(f0.body,top 1,n0),(f1.body,top 2,n1),(f2.body,top 3,n2),(f3.body,top 4,n3),(f4.body,top 5,n4),(f5.body,top 6,n5),(f6.body,top 12,n6),(f7.body,top 13,n7),(f8.body,top 14,n8),(f9.body,top 15,n9),(EH.body,top 16,Sg),(R4.body,top 17,Sh),(R5.body,top 18,Si),(R6.body,top 20,Sj),(R7.body,top 21,Sk),(R8.body,top 22,Sn),(R9.body,top 23,So),(Sa.body,top 25,Sq),(Sb.body,top 27,Su),(Sd.body,top 28,Sv),(Se.body,top 29,Sw),(Sf.body,top 30,Sx),(FE.body,top 31,Sy)]:=by
 refine ⟨?_,?_,?_,?_,?_,?_,?_,?_,?_,?_,?_,?_,?_,?_,?_,?_,?_,?_,?_,?_,?_,?_,?_,trivial⟩
 all_goals dsimp only
 all_goals repeat (first
  | ((with_reducible show JE _ _ _ _ _ _ _ (.BoolOp _ [_] _));refine Kg ?_)
  | ((with_reducible show JE _ _ _ _ _ _ (.v _) _);exact jv (by decide +kernel))
  | ((with_reducible show JA _ _ _ _ _ _ (.cons _ _) _);refine G5 ?_ ?_)
  | ((with_reducible show JA _ _ _ _ _ _ .nil _);refine Kd)
  | ((with_reducible show lE _ _ _ _ _ _ (.cons _ _) _);refine BR ?_ ?_)
  | ((with_reducible show JE _ _ _ _ _ _ (.c (.int _)) _);refine zp)
  | ((with_reducible show lE _ _ _ _ _ _ .nil _);refine Hj)
  | ((with_reducible show JE _ _ _ _ _ _ (.cl _ _) _);refine Xl (by decide +kernel) rfl rfl ?_)
  | ((with_reducible show JE _ _ _ _ _ _ (.ix _ _) _);refine PL (fun X g=>P0) ?_ ?_)
  | ((with_reducible show JE _ _ _ _ _ _ (.c (.str _)) _);refine Kc)
  | ((with_reducible show JS _ _ _ _ _ _ (.ret _) _);refine KC ?_)
  | ((with_reducible show JE _ _ _ _ _ _ (.bin .add _ _) _);refine lQ (fun X g=>KU) ?_ ?_)
  | ((with_reducible show JS _ _ _ _ _ _ (.iff _ _ _) _);refine KD ?_ ?_ ?_)
  | ((with_reducible show JT _ _ _ _ _ _ (.cmp .ne _ _) _);refine oM (fun X g=>PY g) ?_ ?_ (jU _))
  | ((with_reducible show JE _ _ _ _ _ _ (.tup _) _);refine Ke ?_)
  | ((with_reducible show JT _ _ _ _ _ _ (.cmp .eq _ _) _);refine oM (fun X g=>ER g) ?_ ?_ (jU _))
  | ((with_reducible show JS _ _ _ _ _ _ (.exp _) _);refine KA ?_)
  | ((with_reducible show JE _ _ _ _ _ _ (.bin .sub _ _) _);refine lQ (fun X g=>KW) ?_ ?_)
  | ((with_reducible show JE _ _ _ _ _ _ (.bin .mul _ _) _);refine lQ (fun X g=>K5) ?_ ?_)
  | ((with_reducible show JE _ _ _ _ _ _ (.me .append _ (.cons _ _)) _);refine su PySem.F.plainAttrs_list PySem.F.slot_list_append PySem.F.type_list_append (fun X g=>zP) rfl ?_ ?_)
  | ((with_reducible show JO _ _ _ _ _ _ (.yes _) _);refine Kq ?_)
  | ((with_reducible show JE _ _ _ _ _ _ (.bi .len _) _);refine sq (x:="len") (id:="len") (fun X g=>K7) ?_ (hb:=Rg) (hv:=by decide +kernel))
  | ((with_reducible show JG _ _ _ _ _ _ (.one _) _);exact Xj (by decide +kernel))
  | ((with_reducible show JE _ _ _ _ _ _ (.lst _) _);refine Kf ?_)
  | ((with_reducible show JE _ _ _ _ _ _ (.neg _) _);refine zu ?_)
  | ((with_reducible show JI _ _ _ _ _ _ (.seq _) _ _);refine Kv ?_)
  | ((with_reducible show JE _ _ _ _ _ _ (.sl _ _ _) _);refine PN (fun X g=>K4) ?_ ?_ ?_)
  | ((with_reducible show JE _ _ _ _ _ _ (.c (.bl _)) _);refine PF)
  | ((with_reducible show JT _ _ _ _ _ _ (.orr _ _) _);refine U4 ?_ ?_)
  | ((with_reducible show JW _ _ _ _ _ _ (.orr _ _) (.BoolOp _ (_ :: _ :: _) _));refine zv ?_ ?_)
  | ((with_reducible show JW _ _ _ _ _ _ _ (.BoolOp .Or [_] _));refine G6 ?_)
  | ((with_reducible show JT _ _ _ _ _ _ (.an _ _) _);refine U3 ?_ ?_)
  | ((with_reducible show JW _ _ _ _ _ _ (.an _ _) (.BoolOp _ (_ :: _ :: _) _));refine Ez ?_ ?_)
  | ((with_reducible show JO _ _ _ _ _ _ .no _);refine PM)
  | ((with_reducible show JE _ _ _ _ _ _ (.bin .mod _ _) _);refine lQ (fun X g=>KY) ?_ ?_)
  | ((with_reducible show JE _ _ _ _ _ _ (.comp _ _ _ _) _);refine P6 (by decide +kernel) (by decide +kernel) ?_ ?_ ?_ ?_)
  | ((with_reducible show JS _ _ _ _ _ _ (.for _ _ _) _);refine KH ?_ ?_ ?_)
  | ((with_reducible show JT _ _ _ _ _ _ (.cmp .gt _ _) _);refine oM (fun X g=>ES) ?_ ?_ (jU _))
  | ((with_reducible show JW _ _ _ _ _ _ _ (.BoolOp .And [_] _));refine Km ?_)
  | ((with_reducible show JE _ _ _ _ _ _ (.bi .sum _) _);refine sq (x:="sum") (id:="sum") (fun X g=>K6 g) ?_ (hb:=Ri) (hv:=by decide +kernel))
  | ((with_reducible show rq _ _ _ _ _ _ (_ :: _) _);refine Xk (by decide +kernel) ?_)
  | ((with_reducible show JS _ _ _ _ _ _ .fJ _);refine Lb)
  | ((with_reducible show JE _ _ _ _ _ _ (.me .pop _ .nil) _);refine Kr PySem.F.plainAttrs_list PySem.F.slot_list_pop PySem.F.type_list_pop (fun X g=>K9) rfl ?_)
  | ((with_reducible show JE _ _ _ _ _ _ (.bin .fdiv _ _) _);refine lQ (fun X g=>Hv) ?_ ?_)
  | ((with_reducible show JC _ _ _ _ _ _ (.yes _) _);refine KI ?_)
  | ((with_reducible show JE _ _ _ _ _ _ (.me .extend _ (.cons _ _)) _);refine su PySem.F.plainAttrs_list PySem.F.slot_list_extend PySem.F.type_list_extend (fun X g=>zQ) rfl ?_ ?_)
  | ((with_reducible show JE _ _ _ _ _ _ (.iZ _) _);refine La ?_ (h1:=wQ))
  | ((with_reducible show JE _ _ _ _ _ _ (.cmp .eq _ _) _);refine zq (fun X g=>ER g) ?_ ?_ (jU _))
  | ((with_reducible show JE _ _ _ _ _ _ (.gn (.rev _)) _);refine HC ?_ (h1:=Bg) (hb:=qb))
  | ((with_reducible show JI _ _ _ _ _ _ (.gm (.cons _ .nil)) _ _);refine Hf ?_ (hb:=wO))
  | ((with_reducible show JC _ _ _ _ _ _ .no _);refine PU)
  | ((with_reducible show JG _ _ _ _ _ _ (.many _) _);refine Hi ?_)
  | ((with_reducible show rq _ _ _ _ _ _ [] _);refine Hg)
  | ((with_reducible show JT _ _ _ _ _ _ (.nt _) _);refine PK ?_)
  | ((with_reducible show JE _ _ _ _ _ _ (.me .join _ (.cons _ _)) _);refine su PySem.F.plainAttrs_str PySem.F.slot_str_join PySem.F.type_str_join (fun X g=>HA) rfl ?_ ?_)
  | ((with_reducible show JS _ _ _ _ _ _ (.lP _ _) _);refine KG ?_ ?_)
  | ((with_reducible show JE _ _ _ _ _ _ (.bi .min _) _);refine sq (x:="min") (id:="min") (fun X g=>K8 g) ?_ (hb:=Rh) (hv:=by decide +kernel))
  | ((with_reducible show JT _ _ _ _ _ _ (.cmp .lt _ _) _);refine oM (fun X g=>PZ) ?_ ?_ (jU _))
  | ((with_reducible show JE _ _ _ _ _ _ (.lz _) _);refine Ll ?_ (h1:=wQ) (hb:=qb))
  | ((with_reducible show JE _ _ _ _ _ _ (.cmp .gt _ _) _);refine zq (fun X g=>ES) ?_ ?_ (jU _))
  | ((with_reducible show JE _ _ _ _ _ _ (.ly _ _ _) _);refine Kh ?_ ?_ ?_)
  | ((with_reducible show JE _ _ _ _ _ _ (.rv _) _);refine P1 ?_)
  | ((with_reducible show JE _ _ _ _ _ _ (.gn (.gm (.cons _ .nil))) _);refine Cc ?_ (h1:=Bg) (hb:=wO))
  | ((with_reducible show JE _ _ _ _ _ _ (.me .iJ _ (.cons _ _)) _);refine su PySem.F.plainAttrs_str PySem.F.slot_str_endswith PySem.F.type_str_endswith (fun X g=>Co) rfl ?_ ?_)
  | ((with_reducible show JS _ _ _ _ _ _ (.set _ (.comp _ _ _ _)) _);refine P7 (by decide +kernel) (by decide +kernel) (by decide +kernel) ?_ ?_ ?_ ?_)
  | ((with_reducible show JE _ _ _ _ _ _ (.bi .jE _) _);refine sq (x:="sorted") (id:="sorted") (fun X g=>Cn) ?_ (hb:=DV) (hv:=by decide +kernel))
  | ((with_reducible show JE _ _ _ _ _ _ (.an _ _) (.BoolOp _ (_ :: _ :: _) _));refine PJ ?_ ?_)
  | ((with_reducible show JS _ _ _ _ _ _ (.set _ _) _);refine U1 (by decide +kernel) ?_)
  | ((with_reducible show JT _ _ _ _ _ _ _ _);refine Ko ?_))
end
end Lw
set_option maxRecDepth 100000
namespace Lw
open PySem PySem.Spec PyProof.Rows L2 Sm
open Ev (D O Hh Fr R aU E Es Eo T S Ss Fl Src bV bQ TY BI ME)
theorem mQ {α:Type _}{l:List α}(h:l.length=1):∃ a,l=[a]:=by
 rcases l with _ | ⟨a,_ | ⟨b,l⟩⟩ <;> simp at h ⊢
theorem jT {α:Type _}{l:List α}(h:l.length=2):∃ a b,l=[a,b]:=by
 rcases l with _ | ⟨a,l⟩
 ·simp at h
 ·obtain ⟨b,rfl⟩:=mQ (l:=l) (by simpa using h);exact ⟨a,b,rfl⟩
theorem oA {α:Type _}{l:List α}(h:l.length=3):∃ a b c,l=[a,b,c]:=by
 rcases l with _ | ⟨a,l⟩
 ·simp at h
 ·obtain ⟨b,c,rfl⟩:=jT (l:=l) (by simpa using h);exact ⟨a,b,c,rfl⟩
theorem all_mk {l:PySem.W.OpenLaw}{w:World}{K:PySem.W.Frag}{h:Heap}{mg:Str→Option Value}{fa p0 p1 p2 p3 p4 p5 p6 p7 p8 p9 Gb Gd Ge Gf Gg Gh Gi Gj Gk Gm Gn Gp Bh:Addr}(X:K.In h) (G:h.Ns mainGlobals mg) (XT:mg "law" = some (.ref fa))
  {XU MZ XW Sz XX SA XY SD XZ SE X0 SG X4 SH X5 SI X6 SJ X7 SK VT M4 VU M5 VV M6 VW M7 VX M8 VY M9 VZ Na V0 Nb V1 Nc V2 Nd V3 Nf V4 Ng V5 DW:Option Addr} {X8 Yb sl2 Yc Yd Ye Yg Yh Yi Yj V6 V7 V8 V9 Wa Wb Wc Wd We Wf Wg Wh Wi:Array (Option Value)} {Yk Nh Ni Nj Gq Nk Yl SM SN SO Nl SQ Ym SS SV SW Nm SX Yn SY S5 S6 Nn S7 Yo S8 S9 Tc Np Td Yp Te Tf Tg Nq Ti Yq Tj To Tp Nr Tt Yr Tu Tv Tw Nt Tz Ys TF TH TJ Nu TL Yt TM TN TQ Nv TR Wj Nx Ny Nz DX NB Wk NC ND NF DY NG Wl NH NI NJ DZ NK Wm NL NN NO D0 NP Wn NQ NR NS D3 NT Wo NU NV NW D4 NX Wq NY NZ N1 D5 N2 Wr N3 N4 N5 D6 N6 Ws N7 N8 N9 D7 Oa Wt Ob Oc Od D8 Oe Wu Of Og Oh D9 Oi Wv Oj Ol Om Ea Oo Ww Eb Ec Ed yO Ef:Value}
  (a0:PySem.W.nsIn K mainGlobals "size" = some (some (.ref p0))) (l0:K.lookup p0=some ⟨Yk,XU,.func (PySem.W.fnOf "size" "size" (aK (top 1)) (aH (top 1)) (aq (top 1)) .none Nh Ni Nj MZ Gq Nk),X8⟩) (c0:PySem.W.codeIn K Gq "size" = true) (k0:PySem.W.keepIn K (.ref p0)=true)
  (a1:PySem.W.nsIn K mainGlobals "before" = some (some (.ref p1))) (l1:K.lookup p1=some ⟨Yl,XW,.func (PySem.W.fnOf "before" "before" (aK (top 2)) (aH (top 2)) (aq (top 2)) .none SM SN SO Sz Nl SQ),Yb⟩) (c1:PySem.W.codeIn K Nl "before" = true) (k1:PySem.W.keepIn K (.ref p1)=true)
  (a2:PySem.W.nsIn K mainGlobals "after" = some (some (.ref p2))) (l2:K.lookup p2=some ⟨Ym,XX,.func (PySem.W.fnOf "after" "after" (aK (top 3)) (aH (top 3)) (aq (top 3)) .none SS SV SW SA Nm SX),sl2⟩) (c2:PySem.W.codeIn K Nm "after" = true) (k2:PySem.W.keepIn K (.ref p2)=true)
  (a3:PySem.W.nsIn K mainGlobals "cost" = some (some (.ref p3))) (l3:K.lookup p3=some ⟨Yn,XY,.func (PySem.W.fnOf "cost" "cost" (aK (top 4)) (aH (top 4)) (aq (top 4)) .none SY S5 S6 SD Nn S7),Yc⟩) (c3:PySem.W.codeIn K Nn "cost" = true) (k3:PySem.W.keepIn K (.ref p3)=true)
  (a4:PySem.W.nsIn K mainGlobals "form" = some (some (.ref p4))) (l4:K.lookup p4=some ⟨Yo,XZ,.func (PySem.W.fnOf "form" "form" (aK (top 5)) (aH (top 5)) (aq (top 5)) .none S8 S9 Tc SE Np Td),Yd⟩) (c4:PySem.W.codeIn K Np "form" = true) (k4:PySem.W.keepIn K (.ref p4)=true)
  (a5:PySem.W.nsIn K mainGlobals "stretch" = some (some (.ref p5))) (l5:K.lookup p5=some ⟨Yp,X0,.func (PySem.W.fnOf "stretch" "stretch" (aK (top 6)) (aH (top 6)) (aq (top 6)) .none Te Tf Tg SG Nq Ti),Ye⟩) (c5:PySem.W.codeIn K Nq "stretch" = true) (k5:PySem.W.keepIn K (.ref p5)=true)
  (a6:PySem.W.nsIn K mainGlobals "fits" = some (some (.ref p6))) (l6:K.lookup p6=some ⟨Yq,X4,.func (PySem.W.fnOf "fits" "fits" (aK (top 12)) (aH (top 12)) (aq (top 12)) .none Tj To Tp SH Nr Tt),Yg⟩) (c6:PySem.W.codeIn K Nr "fits" = true) (k6:PySem.W.keepIn K (.ref p6)=true)
  (a7:PySem.W.nsIn K mainGlobals "done" = some (some (.ref p7))) (l7:K.lookup p7=some ⟨Yr,X5,.func (PySem.W.fnOf "done" "done" (aK (top 13)) (aH (top 13)) (aq (top 13)) .none Tu Tv Tw SI Nt Tz),Yh⟩) (c7:PySem.W.codeIn K Nt "done" = true) (k7:PySem.W.keepIn K (.ref p7)=true)
  (a8:PySem.W.nsIn K mainGlobals "nothing" = some (some (.ref p8))) (l8:K.lookup p8=some ⟨Ys,X6,.func (PySem.W.fnOf "nothing" "nothing" (aK (top 14)) (aH (top 14)) (aq (top 14)) .none TF TH TJ SJ Nu TL),Yi⟩) (c8:PySem.W.codeIn K Nu "nothing" = true) (k8:PySem.W.keepIn K (.ref p8)=true)
  (a9:PySem.W.nsIn K mainGlobals "then" = some (some (.ref p9))) (l9:K.lookup p9=some ⟨Yt,X7,.func (PySem.W.fnOf "then" "then" (aK (top 15)) (aH (top 15)) (aq (top 15)) .none TM TN TQ SK Nv TR),Yj⟩) (c9:PySem.W.codeIn K Nv "then" = true) (k9:PySem.W.keepIn K (.ref p9)=true)
  (Oq:PySem.W.nsIn K mainGlobals "met" = some (some (.ref Gb))) (Ot:K.lookup Gb=some ⟨Wj,VT,.func (PySem.W.fnOf "met" "met" (aK (top 16)) (aH (top 16)) (aq (top 16)) .none Nx Ny Nz M4 DX NB),V6⟩) (Ou:PySem.W.codeIn K DX "met" = true) (Gr:PySem.W.keepIn K (.ref Gb)=true)
  (Ov:PySem.W.nsIn K mainGlobals "taken" = some (some (.ref Gd))) (Ow:K.lookup Gd=some ⟨Wk,VU,.func (PySem.W.fnOf "taken" "taken" (aK (top 17)) (aH (top 17)) (aq (top 17)) .none NC ND NF M5 DY NG),V7⟩) (Ox:PySem.W.codeIn K DY "taken" = true) (Gs:PySem.W.keepIn K (.ref Gd)=true)
  (Oz:PySem.W.nsIn K mainGlobals "parted" = some (some (.ref Ge))) (OA:K.lookup Ge=some ⟨Wl,VV,.func (PySem.W.fnOf "parted" "parted" (aK (top 18)) (aH (top 18)) (aq (top 18)) .none NH NI NJ M6 DZ NK),V8⟩) (c12:PySem.W.codeIn K DZ "parted" = true) (Gu:PySem.W.keepIn K (.ref Ge)=true)
  (OB:PySem.W.nsIn K mainGlobals "joined" = some (some (.ref Gf))) (OC:K.lookup Gf=some ⟨Wm,VW,.func (PySem.W.fnOf "joined" "joined" (aK (top 20)) (aH (top 20)) (aq (top 20)) .none NL NN NO M7 D0 NP),V9⟩) (OD:PySem.W.codeIn K D0 "joined" = true) (Gv:PySem.W.keepIn K (.ref Gf)=true)
  (OE:PySem.W.nsIn K mainGlobals "cut" = some (some (.ref Gg))) (OF:K.lookup Gg=some ⟨Wn,VX,.func (PySem.W.fnOf "cut" "cut" (aK (top 21)) (aH (top 21)) (aq (top 21)) .none NQ NR NS M8 D3 NT),Wa⟩) (OG:PySem.W.codeIn K D3 "cut" = true) (Gw:PySem.W.keepIn K (.ref Gg)=true)
  (OH:PySem.W.nsIn K mainGlobals "only" = some (some (.ref Gh))) (OI:K.lookup Gh=some ⟨Wo,VY,.func (PySem.W.fnOf "only" "only" (aK (top 22)) (aH (top 22)) (aq (top 22)) .none NU NV NW M9 D4 NX),Wb⟩) (OJ:PySem.W.codeIn K D4 "only" = true) (Gx:PySem.W.keepIn K (.ref Gh)=true)
  (OL:PySem.W.nsIn K mainGlobals "among" = some (some (.ref Gi))) (OM:K.lookup Gi=some ⟨Wq,VZ,.func (PySem.W.fnOf "among" "among" (aK (top 23)) (aH (top 23)) (aq (top 23)) .none NY NZ N1 Na D5 N2),Wc⟩) (ON:PySem.W.codeIn K D5 "among" = true) (Gy:PySem.W.keepIn K (.ref Gi)=true)
  (OO:PySem.W.nsIn K mainGlobals "place_after" = some (some (.ref Gj))) (OP:K.lookup Gj=some ⟨Wr,V0,.func (PySem.W.fnOf "place_after" "place_after" (aK (top 25)) (aH (top 25)) (aq (top 25)) .none N3 N4 N5 Nb D6 N6),Wd⟩) (OQ:PySem.W.codeIn K D6 "place_after" = true) (Gz:PySem.W.keepIn K (.ref Gj)=true)
  (OR:PySem.W.nsIn K mainGlobals "_law_cell" = some (some (.ref Gk))) (OS:K.lookup Gk=some ⟨Ws,V1,.func (PySem.W.fnOf "_law_cell" "_law_cell" (aK (top 27)) (aH (top 27)) (aq (top 27)) .none N7 N8 N9 Nc D7 Oa),We⟩) (OT:PySem.W.codeIn K D7 "_law_cell" = true) (GA:PySem.W.keepIn K (.ref Gk)=true)
  (OU:PySem.W.nsIn K mainGlobals "_law_drawn" = some (some (.ref Gm))) (OV:K.lookup Gm=some ⟨Wt,V2,.func (PySem.W.fnOf "_law_drawn" "_law_drawn" (aK (top 28)) (aH (top 28)) (aq (top 28)) .none Ob Oc Od Nd D8 Oe),Wf⟩) (OW:PySem.W.codeIn K D8 "_law_drawn" = true) (GB:PySem.W.keepIn K (.ref Gm)=true)
  (OX:PySem.W.nsIn K mainGlobals "_law_text" = some (some (.ref Gn))) (OY:K.lookup Gn=some ⟨Wu,V3,.func (PySem.W.fnOf "_law_text" "_law_text" (aK (top 29)) (aH (top 29)) (aq (top 29)) .none Of Og Oh Nf D9 Oi),Wg⟩) (OZ:PySem.W.codeIn K D9 "_law_text" = true) (GC:PySem.W.keepIn K (.ref Gn)=true)
  (O0:PySem.W.nsIn K mainGlobals "_law_change" = some (some (.ref Gp))) (O3:K.lookup Gp=some ⟨Wv,V4,.func (PySem.W.fnOf "_law_change" "_law_change" (aK (top 30)) (aH (top 30)) (aq (top 30)) .none Oj Ol Om Ng Ea Oo),Wh⟩) (O4:PySem.W.codeIn K Ea "_law_change" = true) (GD:PySem.W.keepIn K (.ref Gp)=true)
  (GF:PySem.W.nsIn K mainGlobals "law" = some (some (.ref Bh))) (O5:K.lookup Bh=some ⟨Ww,V5,.func (PySem.W.fnOf "law" "law" (aK (top 31)) (aH (top 31)) (aq (top 31)) .none Eb Ec Ed DW yO Ef),Wi⟩) (O6:PySem.W.codeIn K yO "law" = true) (GG:PySem.W.keepIn K (.ref Bh)=true)
  (z0:PySem.W.nsIn K mainGlobals "len" = some none)
  (z1:PySem.W.nsIn K mainGlobals "list" = some none)
  (z2:PySem.W.nsIn K mainGlobals "min" = some none)
  (z3:PySem.W.nsIn K mainGlobals "range" = some none)
  (z4:PySem.W.nsIn K mainGlobals "reversed" = some none)
  (z5:PySem.W.nsIn K mainGlobals "sorted" = some none)
  (z6:PySem.W.nsIn K mainGlobals "sum" = some none)
  (z7:PySem.W.nsIn K mainGlobals "tuple" = some none)
  {t0:Tok} (q0:PySem.W.nsIn K mainGlobals "__name__" = some (some (.str "law_pastways_k42_whole_stretches" t0)))
  : ∃ fd:FuncData,(∀ (s:Shared) (v:Value),BindsTo s fd ⟨[v],[]⟩ [("_law_script",v)])∧∀ base:Heap,K.In base→base.Ns mainGlobals mg→iw l.prog w K mg base lN 60 fa fd ["_law_script"] (nB K prog 100000 60 22):=by
 have e:=XT.symm.trans (PySem.W.mg_of X G GF)
 have e2:Bh=fa:=by injection e with e;injection e with e;exact e.symm
 subst e2
 have F0:=cC (st:=top 1) l0 c0 k0
 have B0:=F0.binds (ps:=["part"]) fun _ _ _ _ _ _ us hl=>by obtain ⟨_,rfl⟩:=mQ hl;rfl
 have F1:=cC (st:=top 2) l1 c1 k1
 have B1:=F1.binds (ps:=["change"]) fun _ _ _ _ _ _ us hl=>by obtain ⟨_,rfl⟩:=mQ hl;rfl
 have F2:=cC (st:=top 3) l2 c2 k2
 have B2:=F2.binds (ps:=["change"]) fun _ _ _ _ _ _ us hl=>by obtain ⟨_,rfl⟩:=mQ hl;rfl
 have F3:=cC (st:=top 4) l3 c3 k3
 have B3:=F3.binds (ps:=["change"]) fun _ _ _ _ _ _ us hl=>by obtain ⟨_,rfl⟩:=mQ hl;rfl
 have F4:=cC (st:=top 5) l4 c4 k4
 have B4:=F4.binds (ps:=["change"]) fun _ _ _ _ _ _ us hl=>by obtain ⟨_,rfl⟩:=mQ hl;rfl
 have F5:=cC (st:=top 6) l5 c5 k5
 have B5:=F5.binds (ps:=["kept","gone","new"]) fun _ _ _ _ _ _ us hl=>by obtain ⟨_,_,_,rfl⟩:=oA hl;rfl
 have F6:=cC (st:=top 12) l6 c6 k6
 have B6:=F6.binds (ps:=["change","text"]) fun _ _ _ _ _ _ us hl=>by obtain ⟨_,_,rfl⟩:=jT hl;rfl
 have F7:=cC (st:=top 13) l7 c7 k7
 have B7:=F7.binds (ps:=["change","text"]) fun _ _ _ _ _ _ us hl=>by obtain ⟨_,_,rfl⟩:=jT hl;rfl
 have F8:=cC (st:=top 14) l8 c8 k8
 have B8:=F8.binds (ps:=["many"]) fun _ _ _ _ _ _ us hl=>by obtain ⟨_,rfl⟩:=mQ hl;rfl
 have F9:=cC (st:=top 15) l9 c9 k9
 have B9:=F9.binds (ps:=["one","other"]) fun _ _ _ _ _ _ us hl=>by obtain ⟨_,_,rfl⟩:=jT hl;rfl
 have TU:=cC (st:=top 16) Ot Ou Gr
 have Yu:=TU.binds (ps:=["left","gone_through"]) fun _ _ _ _ _ _ us hl=>by obtain ⟨_,_,rfl⟩:=jT hl;rfl
 have TV:=cC (st:=top 17) Ow Ox Gs
 have Yv:=TV.binds (ps:=["parts","many"]) fun _ _ _ _ _ _ us hl=>by obtain ⟨_,_,rfl⟩:=jT hl;rfl
 have TX:=cC (st:=top 18) OA c12 Gu
 have Yw:=TX.binds (ps:=["part","many"]) fun _ _ _ _ _ _ us hl=>by obtain ⟨_,_,rfl⟩:=jT hl;rfl
 have TZ:=cC (st:=top 20) OC OD Gv
 have Yx:=TZ.binds (ps:=["one","other"]) fun _ _ _ _ _ _ us hl=>by obtain ⟨_,_,rfl⟩:=jT hl;rfl
 have T3:=cC (st:=top 21) OF OG Gw
 have Yy:=T3.binds (ps:=["change","place"]) fun _ _ _ _ _ _ us hl=>by obtain ⟨_,_,rfl⟩:=jT hl;rfl
 have T4:=cC (st:=top 22) OI OJ Gx
 have Yz:=T4.binds (ps:=["change","start","end"]) fun _ _ _ _ _ _ us hl=>by obtain ⟨_,_,_,rfl⟩:=oA hl;rfl
 have T5:=cC (st:=top 23) OM ON Gy
 have YA:=T5.binds (ps:=["many","change","more"]) fun _ _ _ _ _ _ us hl=>by obtain ⟨_,_,_,rfl⟩:=oA hl;rfl
 have T6:=cC (st:=top 25) OP OQ Gz
 have YB:=T6.binds (ps:=["change","place","side"]) fun _ _ _ _ _ _ us hl=>by obtain ⟨_,_,_,rfl⟩:=oA hl;rfl
 have T7:=cC (st:=top 27) OS OT GA
 have YC:=T7.binds (ps:=["_law_script","_law_k"]) fun _ _ _ _ _ _ us hl=>by obtain ⟨_,_,rfl⟩:=jT hl;rfl
 have T8:=cC (st:=top 28) OV OW GB
 have YD:=T8.binds (ps:=["_law_script","_law_k","_law_many"]) fun _ _ _ _ _ _ us hl=>by obtain ⟨_,_,_,rfl⟩:=oA hl;rfl
 have T9:=cC (st:=top 29) OY OZ GC
 have YE:=T9.binds (ps:=["_law_script","_law_at","_law_most"]) fun _ _ _ _ _ _ us hl=>by obtain ⟨_,_,_,rfl⟩:=oA hl;rfl
 have Ua:=cC (st:=top 30) O3 O4 GD
 have YF:=Ua.binds (ps:=["_law_script","_law_at","_law_text_here"]) fun _ _ _ _ _ _ us hl=>by obtain ⟨_,_,_,rfl⟩:=oA hl;rfl
 have Ub:=cC (st:=top 31) O5 O6 GG
 have YG:=Ub.binds (ps:=["_law_script"]) fun _ _ _ _ _ _ us hl=>by obtain ⟨_,rfl⟩:=mQ hl;rfl
 let aa:Nat→Addr:=fun k=>[p0,p1,p2,p3,p4,p5,p6,p7,p8,p9,Gb,Gd,Ge,Gf,Gg,Gh,Gi,Gj,Gk,Gm,Gn,Gp,Bh].getD k p0
 let dd:Nat→FuncData:=fun k=>[(PySem.W.fnOf "size" "size" (aK (top 1)) (aH (top 1)) (aq (top 1)) .none Nh Ni Nj MZ Gq Nk),(PySem.W.fnOf "before" "before" (aK (top 2)) (aH (top 2)) (aq (top 2)) .none SM SN SO Sz Nl SQ),(PySem.W.fnOf "after" "after" (aK (top 3)) (aH (top 3)) (aq (top 3)) .none SS SV SW SA Nm SX),(PySem.W.fnOf "cost" "cost" (aK (top 4)) (aH (top 4)) (aq (top 4)) .none SY S5 S6 SD Nn S7),(PySem.W.fnOf "form" "form" (aK (top 5)) (aH (top 5)) (aq (top 5)) .none S8 S9 Tc SE Np Td),(PySem.W.fnOf "stretch" "stretch" (aK (top 6)) (aH (top 6)) (aq (top 6)) .none Te Tf Tg SG Nq Ti),(PySem.W.fnOf "fits" "fits" (aK (top 12)) (aH (top 12)) (aq (top 12)) .none Tj To Tp SH Nr Tt),(PySem.W.fnOf "done" "done" (aK (top 13)) (aH (top 13)) (aq (top 13)) .none Tu Tv Tw SI Nt Tz),(PySem.W.fnOf "nothing" "nothing" (aK (top 14)) (aH (top 14)) (aq (top 14)) .none TF TH TJ SJ Nu TL),(PySem.W.fnOf "then" "then" (aK (top 15)) (aH (top 15)) (aq (top 15)) .none TM TN TQ SK Nv TR),(PySem.W.fnOf "met" "met" (aK (top 16)) (aH (top 16)) (aq (top 16)) .none Nx Ny Nz M4 DX NB),(PySem.W.fnOf "taken" "taken" (aK (top 17)) (aH (top 17)) (aq (top 17)) .none NC ND NF M5 DY NG),(PySem.W.fnOf "parted" "parted" (aK (top 18)) (aH (top 18)) (aq (top 18)) .none NH NI NJ M6 DZ NK),(PySem.W.fnOf "joined" "joined" (aK (top 20)) (aH (top 20)) (aq (top 20)) .none NL NN NO M7 D0 NP),(PySem.W.fnOf "cut" "cut" (aK (top 21)) (aH (top 21)) (aq (top 21)) .none NQ NR NS M8 D3 NT),(PySem.W.fnOf "only" "only" (aK (top 22)) (aH (top 22)) (aq (top 22)) .none NU NV NW M9 D4 NX),(PySem.W.fnOf "among" "among" (aK (top 23)) (aH (top 23)) (aq (top 23)) .none NY NZ N1 Na D5 N2),(PySem.W.fnOf "place_after" "place_after" (aK (top 25)) (aH (top 25)) (aq (top 25)) .none N3 N4 N5 Nb D6 N6),(PySem.W.fnOf "_law_cell" "_law_cell" (aK (top 27)) (aH (top 27)) (aq (top 27)) .none N7 N8 N9 Nc D7 Oa),(PySem.W.fnOf "_law_drawn" "_law_drawn" (aK (top 28)) (aH (top 28)) (aq (top 28)) .none Ob Oc Od Nd D8 Oe),(PySem.W.fnOf "_law_text" "_law_text" (aK (top 29)) (aH (top 29)) (aq (top 29)) .none Of Og Oh Nf D9 Oi),(PySem.W.fnOf "_law_change" "_law_change" (aK (top 30)) (aH (top 30)) (aq (top 30)) .none Oj Ol Om Ng Ea Oo),(PySem.W.fnOf "law" "law" (aK (top 31)) (aH (top 31)) (aq (top 31)) .none Eb Ec Ed DW yO Ef)].getD k (PySem.W.fnOf "size" "size" (aK (top 1)) (aH (top 1)) (aq (top 1)) .none Nh Ni Nj MZ Gq Nk)
 have T:Top l.prog w K mg (tb aa dd):=by
  refine ⟨fun f i hi=>?_,?_,?_,?_⟩
  ·match f,hi with
   | 0,hi=>obtain rfl:i0 aa dd=i:=Option.some.inj hi;exact ⟨PySem.W.mg_of X G a0,k0,B0⟩
   | 1,hi=>obtain rfl:i1 aa dd=i:=Option.some.inj hi;exact ⟨PySem.W.mg_of X G a1,k1,B1⟩
   | 2,hi=>obtain rfl:i2 aa dd=i:=Option.some.inj hi;exact ⟨PySem.W.mg_of X G a2,k2,B2⟩
   | 3,hi=>obtain rfl:i3 aa dd=i:=Option.some.inj hi;exact ⟨PySem.W.mg_of X G a3,k3,B3⟩
   | 4,hi=>obtain rfl:i4 aa dd=i:=Option.some.inj hi;exact ⟨PySem.W.mg_of X G a4,k4,B4⟩
   | 5,hi=>obtain rfl:i5 aa dd=i:=Option.some.inj hi;exact ⟨PySem.W.mg_of X G a5,k5,B5⟩
   | 6,hi=>obtain rfl:i6 aa dd=i:=Option.some.inj hi;exact ⟨PySem.W.mg_of X G a6,k6,B6⟩
   | 7,hi=>obtain rfl:i7 aa dd=i:=Option.some.inj hi;exact ⟨PySem.W.mg_of X G a7,k7,B7⟩
   | 8,hi=>obtain rfl:i8 aa dd=i:=Option.some.inj hi;exact ⟨PySem.W.mg_of X G a8,k8,B8⟩
   | 9,hi=>obtain rfl:i9 aa dd=i:=Option.some.inj hi;exact ⟨PySem.W.mg_of X G a9,k9,B9⟩
   | 10,hi=>obtain rfl:FF aa dd=i:=Option.some.inj hi;exact ⟨PySem.W.mg_of X G Oq,Gr,Yu⟩
   | 11,hi=>obtain rfl:FG aa dd=i:=Option.some.inj hi;exact ⟨PySem.W.mg_of X G Ov,Gs,Yv⟩
   | 12,hi=>obtain rfl:i12 aa dd=i:=Option.some.inj hi;exact ⟨PySem.W.mg_of X G Oz,Gu,Yw⟩
   | 13,hi=>obtain rfl:FH aa dd=i:=Option.some.inj hi;exact ⟨PySem.W.mg_of X G OB,Gv,Yx⟩
   | 14,hi=>obtain rfl:FJ aa dd=i:=Option.some.inj hi;exact ⟨PySem.W.mg_of X G OE,Gw,Yy⟩
   | 15,hi=>obtain rfl:FL aa dd=i:=Option.some.inj hi;exact ⟨PySem.W.mg_of X G OH,Gx,Yz⟩
   | 16,hi=>obtain rfl:FO aa dd=i:=Option.some.inj hi;exact ⟨PySem.W.mg_of X G OL,Gy,YA⟩
   | 17,hi=>obtain rfl:FP aa dd=i:=Option.some.inj hi;exact ⟨PySem.W.mg_of X G OO,Gz,YB⟩
   | 18,hi=>obtain rfl:FQ aa dd=i:=Option.some.inj hi;exact ⟨PySem.W.mg_of X G OR,GA,YC⟩
   | 19,hi=>obtain rfl:FT aa dd=i:=Option.some.inj hi;exact ⟨PySem.W.mg_of X G OU,GB,YD⟩
   | 20,hi=>obtain rfl:FU aa dd=i:=Option.some.inj hi;exact ⟨PySem.W.mg_of X G OX,GC,YE⟩
   | 21,hi=>obtain rfl:FY aa dd=i:=Option.some.inj hi;exact ⟨PySem.W.mg_of X G O0,GD,YF⟩
   | 22,hi=>obtain rfl:Bd aa dd=i:=Option.some.inj hi;exact ⟨PySem.W.mg_of X G GF,GG,YG⟩
   | j+23,hi=>exact nomatch (show (none:Option FI)=some i from hi)
  ·exact (show ∀ x∈nO,mg x=none from List.forall_mem_cons.mpr ⟨PySem.W.mg_none_of X G z0,List.forall_mem_cons.mpr ⟨PySem.W.mg_none_of X G z1,List.forall_mem_cons.mpr ⟨PySem.W.mg_none_of X G z2,List.forall_mem_cons.mpr ⟨PySem.W.mg_none_of X G z3,List.forall_mem_cons.mpr ⟨PySem.W.mg_none_of X G z4,List.forall_mem_cons.mpr ⟨PySem.W.mg_none_of X G z5,List.forall_mem_cons.mpr ⟨PySem.W.mg_none_of X G z6,List.forall_mem_cons.mpr ⟨PySem.W.mg_none_of X G z7,fun _ h=>nomatch h⟩⟩⟩⟩⟩⟩⟩⟩)
  ·exact fun x d hx=>(show ∀ y∈(tb aa dd).cs,∃ v u,mg y.1=some u∧RelV v u∧tG y.2 v from List.forall_mem_cons.mpr ⟨⟨.str "law_pastways_k42_whole_stretches",_,PySem.W.mg_of X G q0,⟨_,rfl⟩,⟨by decide +kernel,by decide⟩⟩,fun _ h=>nomatch h⟩) (x,d) hx
  ·exact fun x d hx=>(show ∀ y∈(tb aa dd).dk,∃ a,mg y.1=some (.ref a)∧∀ h:Heap,K.In h→StrTab l.prog w h a (tabOf y.2) from fun _ h=>nomatch h) (x,d) hx
 refine ⟨PySem.W.fnOf "law" "law" (aK (top 31)) (aH (top 31)) (aq (top 31)) .none Eb Ec Ed DW yO Ef,fun s v=>.of_eq rfl,fun base _ _=>?_⟩
 refine zX (P:=l.prog) (w:=w) (base:=base) T (fun n A0 f i hi=>?_) 60 22 (Bd aa dd) rfl
 match f,hi with
 | 0,hi=>obtain rfl:i0 aa dd=i:=Option.some.inj hi;exact dg (i:=i0 aa dd) T A0 F0 s0 rfl rfl (ee.get (k:=0) rfl)
 | 1,hi=>obtain rfl:i1 aa dd=i:=Option.some.inj hi;exact dg (i:=i1 aa dd) T A0 F1 s1 rfl rfl (ee.get (k:=1) rfl)
 | 2,hi=>obtain rfl:i2 aa dd=i:=Option.some.inj hi;exact dg (i:=i2 aa dd) T A0 F2 s2 rfl rfl (ee.get (k:=2) rfl)
 | 3,hi=>obtain rfl:i3 aa dd=i:=Option.some.inj hi;exact dg (i:=i3 aa dd) T A0 F3 s3 rfl rfl (ee.get (k:=3) rfl)
 | 4,hi=>obtain rfl:i4 aa dd=i:=Option.some.inj hi;exact dg (i:=i4 aa dd) T A0 F4 s4 rfl rfl (ee.get (k:=4) rfl)
 | 5,hi=>obtain rfl:i5 aa dd=i:=Option.some.inj hi;exact dg (i:=i5 aa dd) T A0 F5 s5 rfl rfl (ee.get (k:=5) rfl)
 | 6,hi=>obtain rfl:i6 aa dd=i:=Option.some.inj hi;exact dg (i:=i6 aa dd) T A0 F6 s6 rfl rfl (ee.get (k:=6) rfl)
 | 7,hi=>obtain rfl:i7 aa dd=i:=Option.some.inj hi;exact dg (i:=i7 aa dd) T A0 F7 s7 rfl rfl (ee.get (k:=7) rfl)
 | 8,hi=>obtain rfl:i8 aa dd=i:=Option.some.inj hi;exact dg (i:=i8 aa dd) T A0 F8 s8 rfl rfl (ee.get (k:=8) rfl)
 | 9,hi=>obtain rfl:i9 aa dd=i:=Option.some.inj hi;exact dg (i:=i9 aa dd) T A0 F9 s9 rfl rfl (ee.get (k:=9) rfl)
 | 10,hi=>obtain rfl:FF aa dd=i:=Option.some.inj hi;exact dg (i:=FF aa dd) T A0 TU zI rfl rfl (ee.get (k:=10) rfl)
 | 11,hi=>obtain rfl:FG aa dd=i:=Option.some.inj hi;exact dg (i:=FG aa dd) T A0 TV EE rfl rfl (ee.get (k:=11) rfl)
 | 12,hi=>obtain rfl:i12 aa dd=i:=Option.some.inj hi;exact dg (i:=i12 aa dd) T A0 TX s12 rfl rfl (ee.get (k:=12) rfl)
 | 13,hi=>obtain rfl:FH aa dd=i:=Option.some.inj hi;exact dg (i:=FH aa dd) T A0 TZ XI rfl rfl (ee.get (k:=13) rfl)
 | 14,hi=>obtain rfl:FJ aa dd=i:=Option.some.inj hi;exact dg (i:=FJ aa dd) T A0 T3 XJ rfl rfl (ee.get (k:=14) rfl)
 | 15,hi=>obtain rfl:FL aa dd=i:=Option.some.inj hi;exact dg (i:=FL aa dd) T A0 T4 XM rfl rfl (ee.get (k:=15) rfl)
 | 16,hi=>obtain rfl:FO aa dd=i:=Option.some.inj hi;exact dg (i:=FO aa dd) T A0 T5 FZ rfl rfl (ee.get (k:=16) rfl)
 | 17,hi=>obtain rfl:FP aa dd=i:=Option.some.inj hi;exact dg (i:=FP aa dd) T A0 T6 XN rfl rfl (ee.get (k:=17) rfl)
 | 18,hi=>obtain rfl:FQ aa dd=i:=Option.some.inj hi;exact dg (i:=FQ aa dd) T A0 T7 XO rfl rfl (ee.get (k:=18) rfl)
 | 19,hi=>obtain rfl:FT aa dd=i:=Option.some.inj hi;exact dg (i:=FT aa dd) T A0 T8 Ga rfl rfl (ee.get (k:=19) rfl)
 | 20,hi=>obtain rfl:FU aa dd=i:=Option.some.inj hi;exact dg (i:=FU aa dd) T A0 T9 XQ rfl rfl (ee.get (k:=20) rfl)
 | 21,hi=>obtain rfl:FY aa dd=i:=Option.some.inj hi;exact dg (i:=FY aa dd) T A0 Ua XR rfl rfl (ee.get (k:=21) rfl)
 | 22,hi=>obtain rfl:Bd aa dd=i:=Option.some.inj hi;exact dg (i:=Bd aa dd) T A0 Ub XS rfl rfl (ee.get (k:=22) rfl)
 | j+23,hi=>exact nomatch (show (none:Option FI)=some i from hi)
end Lw
namespace Lg
open Pv
open Lw (prog FE FD Fx Fy Fz FA yH yI yJ yK yL yN uQ uR uS uT uU uV uW uZ u0 u5 u6 u7)
open Ev (deep big rep cut bN)
theorem Rj (ns:List Int) (k:Int) (x:List Nat) (b:Nat) (h:x.length≤b):(chg ns k x).length≤2*b+2∧tot (chg ns k x)≤3*b+3:=by
 have h1:=mF ns k x (x.length+1)
 have h2:=rP ns k x (x.length+1)
 simp only [chg];omega
theorem nS (s:List Nat):Pv.cop .ne (.str s) (.str s)=some false:=by rw [iL];simp
theorem nI (s:Int):Pv.cop .ne (.int s) (.int s)=some false:=by rw [yl];simp
theorem nC (s:List Pt):Pv.cop .ne (aJ s) (aJ s)=some false:=by rw [o7,Ay];simp
theorem eC (s:List Pt):Pv.cop .eq (aJ s) (aJ s)=some true:=by rw [LW,Ay];simp
theorem wR (a b:Nat):Pv.bT .add (.int (a:Int)) (.int (b:Int))=some (.int ((a+b:Nat):Int)):=by rw [dZ];congr 2
theorem rS {a b:Nat}(h:b≤a):Pv.bT .sub (.int (a:Int)) (.int (b:Int))=some (.int ((a - b:Nat):Int)):=by rw [jy];congr 2;omega
theorem drawn {ns:List Int}(k:Int) (m:Nat):∃ p:Nat,cR ns k ((m:Int)+1)=(p:Int)∧p≤m:=by
 have h1:=jz ns k (many:=(m:Int)+1) (by omega)
 have h2:=jA ns k (many:=(m:Int)+1) (by omega)
 exact ⟨(cR ns k ((m:Int)+1)).toNat,by omega,by omega⟩
theorem kq {c o:List Pt}{t u:List Nat}(h:aP c t=true) (h2:aP o u=true):aP (av (c++o)) (t++u)=true∧aN (av (c++o)) (t++u)=aN c t++aN o u:=by
 have hb:(aA (au c)).length=t.length:=by rw [←d8,e8 h]
 refine ⟨?_,?_⟩
 ·rw [iE,eS,dI]
  rw [eS] at h h2
  exact oh h h2
 ·rw [eT,cK,di,kh,hb,←cK,←cK];simp
theorem iG (u:List Nat):aP [.keep u.length] u=true∧aN [.keep u.length] u=u:=by simp [aP,aN]
theorem kY {A:List Pt}{t:List Nat}{p e:Nat}(hp:p≤e) (he:e≤t.length) (h:aP A ((t.drop p).take (e - p))=true):aP (cG p A (t.length - e)) t=true∧aN (cG p A (t.length - e)) t=t.take p++aN A ((t.drop p).take (e - p))++t.drop e:=by
 have e1:t=(t.take p++(t.drop p).take (e - p))++t.drop e:=by
  have:t.drop e=(t.drop p).drop (e - p):=by rw [List.drop_drop];congr 1;omega
  rw [this,List.append_assoc,List.take_append_drop,List.take_append_drop]
 have k1:=iG (t.take p)
 rw [show (t.take p).length=p by simp;omega] at k1
 have k2:=iG (t.drop e)
 rw [show (t.drop e).length=t.length - e by simp] at k2
 have a1:=kq k1.1 h
 rw [iE,eT,k1.2] at a1
 have a2:=kq a1.1 k2.1
 rw [a1.2,k2.2,←e1] at a2
 exact a2
theorem yP (p m:Nat) (h:p≤m):cG p [] (m - p)=av [.keep m]:=by
 unfold cG
 refine kP ?_
 simp [au,Pt.au,List.replicate_append_replicate]
 congr 1;omega
theorem nu {s k:Nat}{A:List Pt}:tot (cG s A k)=s+tot A+k∧(cG s A k).length≤s+tot A+k:=by
 have h:tot (cG s A k)=s+tot A+k:=by unfold cG;rw [cJ,cO,cO];simp [tot,Pt.n]
 exact ⟨h,by rw [←h];exact cz (cP (b6 _))⟩
theorem rT {s k:Nat}{A:List Pt}:aM (cG s A k)=s+aM A+k:=by
 unfold cG;rw [iD,iF,iF];simp [aM,tot,cH,Pt.n]
theorem u9 (f:Nat→Nat):∀ l:List Nat,(l.map fun i=>((f i:Nat):Int)).sum=(((l.map f).sum:Nat):Int)
 | []=>rfl
 | x :: l=>by simp [u9 f l]
theorem O7 {f:V→Option (Option V)}{a b c x y z:V}(h1:f a=some (some x)) (h2:f b=some (some y)) (h3:f c=some (some z)):cL f [a,b,c]=some [x,y,z]:=by simp [cL,h1,h2,h3]
theorem yQ {Y:List Pt}{u:List Nat}(h:au Y=List.replicate u.length .k):aN Y u=u:=by
 rw [cK,h]
 have:=iG u
 rw [cK] at this
 simpa [au,Pt.au] using this.2
theorem mR {c A B:List Pt}{t:List Nat}{j:Nat}(hc:aP c t=true) (C:Cut c j A B) (hj:j≤t.length):aP (av ([.keep j]++B)) t=true∧aN (av ([.keep j]++B)) t=t.take j++aN B (t.drop j):=by
 have k1:=iG (t.take j)
 rw [show (t.take j).length=j by simp;omega] at k1
 have:=kq k1.1 (C.fit hc).2
 rw [k1.2,List.take_append_drop] at this
 exact this
theorem step_eq {c A B A' B' P Q Y X O:List Pt}{t:List Nat}{j r:Nat}(hc:aP c t=true) (hj:j<t.length) (C:Cut c j A B) (C':Cut c (j+1) A' B') (C1:Cut B 1 P Q) (hY:au Y=List.replicate j .k++au P) (hr:r=bY B')
  (hO:O=av (Y++[.keep r])) (hX:Tn (av ([.keep (j+1)]++B')) O X t):X=av ([.keep j]++B):=by
 have u:=(C.ca.right (C1.mL C.fB)).uniq C'.ca
 have f:=mR hc C (by omega)
 refine MN hX.MJ (fk _) hX.fit f.1 ?_
 rw [hX.MK,hO,bU,bU,bU,bR,bR,bR]
 have e1:au (Y++[.keep r])=List.replicate j .k++au P++List.replicate r .k:=by rw [di,hY];simp [au,Pt.au]
 have e2:au ([.keep (j+1)]++B')=List.replicate (j+1) .k++au B':=by simp [au,Pt.au]
 have e3:au ([.keep j]++B)=List.replicate j .k++au P++au B':=by
  rw [←u.2,List.append_assoc,(C1.mL C.fB).ap];simp [au,Pt.au]
 rw [e1,e2,e3]
 exact uO j 1 r (au P) (au B') (by rw [←d8];exact C1.bA) (by rw [hr,pX])
theorem last_eq {c A B X O:List Pt}{t:List Nat}{r:Nat}(hc:aP c t=true) (C:Cut c 0 A B) (hr:r=bY B) (hO:O=av (A++[.keep r])) (hX:Tn (av ([.keep 0]++B)) O X t):X=av c:=by
 refine MN hX.MJ (fk c) hX.fit (by rw [iE];exact hc) ?_
 rw [hX.MK,hO,bU,bU,bR,bR,bR (av c)]
 have e1:au (A++[.keep r])=List.replicate 0 .k++au A++List.replicate r .k:=by rw [di];simp [au,Pt.au]
 have e2:au ([.keep 0]++B)=List.replicate (0+0) .k++au B:=by simp [au,Pt.au]
 have e3:au (av c)=List.replicate 0 .k++au A++au B:=by rw [←C.at_];simp
 rw [e1,e2,e3]
 exact uO 0 0 r (au A) (au B) (by rw [←d8];exact C.bA) (by rw [hr,pX])
theorem rV (t:List Nat) {s m e:Nat}(h1:s≤m) (h2:m≤e):((t.drop s).take (e - s)).take (m - s)=(t.drop s).take (m - s)∧((t.drop s).take (e - s)).drop (m - s)=(t.drop m).take (e - m):=by
 refine ⟨by rw [List.take_take];congr 1;omega,?_⟩
 rw [List.drop_take,List.drop_drop]
 congr 1
 ·omega
 ·congr 1;omega
theorem wU (A:List Pt) (r:Nat):av (A++av [.keep r])=av (A++[.keep r]):=by
 refine kP ?_
 rw [di,di,uM]
 have:=mK r []
 simpa [au,Pt.au,dh] using this
theorem Ja {c A B:List Pt}{t:List Nat}(hc:aP c t=true) (C:Cut c t.length A B):B=[]:=by
 refine kj C.fB rfl ?_
 have b:=C.qJ
 rw [←e8 hc,d8] at b
 have h0:(aA (au B)).length=0:=by omega
 have hd:=C.hd
 generalize au B=z at h0 hd
 cases z with
 | nil=>rfl
 | cons x z=>cases x <;> simp [aA,fZ] at h0 hd
theorem wV {B:List Pt}{j:Nat}:tot (av ([.keep j]++B))=j+tot B∧(av ([.keep j]++B)).length≤j+tot B∧bY (av ([.keep j]++B))=j+bY B:=by
 have h:tot (av ([.keep j]++B))=j+tot B:=by rw [cJ,cO];simp [tot,Pt.n]
 exact ⟨h,by rw [←h];exact cz (cP (b6 _)),by rw [nX,IZ,sM];rfl⟩
theorem Rk {c A B:List Pt}{t:List Nat}(hc:aP c t=true) (C:Cut c 0 A B):((List.range t.length).map (jS (au (av c)))).sum+cst A=cst c:=by
 have b:t.length=(aA (au (av c))).length:=by rw [←d8,iD,e8 hc]
 have h:=uN (au (av c)) t.length (by omega)
 rw [((fF (au (av c)) 0 (Nat.zero_le _)).uniq C.ca).1,←jm,b,DU,←jm,kN] at h
 rw [b];exact h
theorem Eg {c A B P Q:List Pt}{i:Nat}(C:Cut c i A B) (D:Cut B 1 P Q):cA (au P)=jS (au (av c)) i:=by
 have h:=Bc C.ca (D.mL C.fB)
 unfold jS
 rw [h.1,h.2,iW];omega
theorem Eh {c As Bs Aw Bw Af Bf Am Bm Al Bl:List Pt}{t:List Nat}{p m e:Nat}(h1:p≤m) (h2:m≤e) (Cs:Cut c p As Bs) (Cw:Cut Bs (e - p) Aw Bw) (Cf:Cut Bs (m - p) Af Bf) (Cm:Cut c m Am Bm) (Cl:Cut Bm (e - m) Al Bl):aN Aw ((t.drop p).take (e - p))=aN Af ((t.drop p).take (m - p))++aN Al ((t.drop m).take (e - m)):=by
 have x1:=Cs.ca.right (Cw.mL Cs.fB)
 rw [show p+(e - p)=e by omega] at x1
 have x2:=Cs.ca.right (Cf.mL Cs.fB)
 rw [show p+(m - p)=m by omega] at x2
 have x3:=Cm.ca.right (Cl.mL Cm.fB)
 rw [show m+(e - m)=e by omega] at x3
 have e1:=(x1.uniq x3).1
 rw [← (x2.uniq Cm.ca).1,List.append_assoc] at e1
 have e2:=List.append_cancel_left e1
 rw [cK Aw,e2,kh,←d8,Cf.bA,(rV t h1 h2).1,(rV t h1 h2).2,←cK,←cK]
section
variable {w n:Nat}{ns:List Int}(hn:ns.length≤63)(hw:5000<w)
noncomputable def G9 (w n:Nat) (ss:Ev.Ss) (fr:Fr):Prop:=Wp (exs (run prog w (n+8)) w ss fr) fun g fr=>g=.ret (.bl true)∧outs 1 fr=[]
noncomputable def Ga:Ev.Ss:=.cons u5 (.cons u6 (.cons u7 .nil))
noncomputable def FZ:Ev.Ss:=.cons uW (.cons uZ (.cons u0 Ga))
noncomputable def zI:Ev.Ss:=.cons uQ (.cons uR (.cons uS (.cons uT (.cons uU (.cons uV FZ)))))
noncomputable def s6:Ev.Ss:=.cons yJ (.cons yK (.cons yL (.cons yN zI)))
noncomputable def s4:Ev.Ss:=.cons yH (.cons yI s6)
noncomputable def vF (l:List V) (k:Nat):Fr:=l.map (fun v=>some (.val v))++List.replicate k none
noncomputable def xF (ns:List Int) (t:List Nat) (c:List Pt) (W:V) (x y:Option Sl) (l:List V) (k:Nat):Fr:=some (.val (jb ns)) :: some (.val (.str t)) :: some (.val (aJ c)) :: some (.val (.int (t.length:Nat))) :: some (.val W) :: x :: y :: vF l k
theorem GH {c:List Pt}{t:List Nat}(h:aP c t=true) (b1:tot c≤900) (b2:t.length≤900) (b3:c.length≤900) (fr:Fr):cU (run prog w (n+8)) 7 [.inr (aJ c),.inr (.str t)] fr=.ok (.str (aN c t)) fr:=
 call2 (DG (F:=prog) (aD:=0) (uB:=6) (i:=7) (w:=w) (n:=n+5) rfl rfl rfl c t (by omega) (by omega) (by omega) h)
theorem oB {c:List Pt}(b1:tot c≤900) (b3:c.length≤900) (fr:Fr):cU (run prog w (n+8)) 3 [.inr (aJ c)] fr=.ok (.int (cst c)) fr:=
 cZ (Df (F:=prog) (aD:=0) (i:=3) (w:=w) (n:=n+6) rfl rfl c (by omega) (by omega))
theorem Jb {c:List Pt}(b1:tot c≤900) (b3:c.length≤900) (fr:Fr):cU (run prog w (n+8)) 1 [.inr (aJ c)] fr=.ok (.int (aM c)) fr:=
 cZ (jj (F:=prog) (aD:=0) (i:=1) (w:=w) (n:=n+6) rfl rfl c (by omega) (by omega))
theorem wW {c:List Pt}(b1:tot c≤900) (b3:c.length≤900) (fr:Fr):cU (run prog w (n+8)) 2 [.inr (aJ c)] fr=.ok (.int (bY c)) fr:=
 cZ (mG (F:=prog) (aD:=0) (i:=2) (w:=w) (n:=n+6) rfl rfl c (by omega) (by omega))
theorem vc {c:List Pt}(b1:tot c≤900) (b3:c.length≤900) (fr:Fr):cU (run prog w (n+8)) 4 [.inr (aJ c)] fr=.ok (aJ (av c)) fr:=
 cZ (gF (F:=prog) (aR:=5) (i:=4) (w:=w) (n:=n+6) rfl rfl c (by omega) (by omega))
theorem kZ {a b:List Pt}(h1:a.length+b.length≤900) (h2:tot a+tot b≤900) (fr:Fr):cU (run prog w (n+8)) 13 [.inr (aJ a),.inr (aJ b)] fr=.ok (aJ (av (a++b))) fr:=
 call2 (kU (F:=prog) (aR:=5) (aZ:=4) (i:=13) (w:=w) (n:=n+5) rfl rfl rfl a b (by omega) (by omega))
theorem jD (m:Nat) (h:m≤900) (fr:Fr):cU (run prog w (n+8)) 8 [.inr (.int m)] fr=.ok (aJ (av [.keep m])) fr:=
 cZ (jR (F:=prog) (aR:=5) (aZ:=4) (i:=8) (w:=w) (n:=n+5) rfl rfl rfl m (by omega))
include hw
theorem eK {c:List Pt}{p:Nat}(b1:tot c≤900) (b3:c.length≤900) (h:p≤aM c):∃ A B,Cut c p A B∧∀ fr:Fr,cU (run prog w (n+8)) 14 [.inr (aJ c),.inr (.int p)] fr=.ok (.tup [aJ A,aJ B]) fr:=by
 obtain ⟨A,B,r,C⟩:=nj (F:=prog) (aR:=5) (aZ:=4) (aD:=0) (bF:=12) (aW:=11) (bB:=1) (i:=14) (w:=w) (n:=n+5) rfl rfl rfl rfl rfl rfl rfl hw c p (by omega) (by omega) h
 exact ⟨A,B,C,fun fr=>call2 r⟩
theorem iH {c:List Pt}{s e:Nat}(b1:tot c≤900) (b3:c.length≤900) (he:e≤aM c) (hse:s≤e):∃ A B A2 B2,Cut c s A B∧Cut B (e - s) A2 B2∧∀ fr:Fr,cU (run prog w (n+8)) 15 [.inr (aJ c),.inr (.int s),.inr (.int e)] fr=.ok (aJ (cG s A2 (aM c - e))) fr:=by
 obtain ⟨A,B,A2,B2,C1,C2,r⟩:=DT (F:=prog) (aR:=5) (aZ:=4) (aD:=0) (bF:=12) (aW:=11) (bB:=1) (kT:=14) (gI:=13) (dm:=8) (ni:=16) (i:=15) (w:=w) (n:=n+3) rfl rfl rfl rfl rfl rfl rfl rfl rfl rfl rfl hw c s e b3 b1 he hse
 exact ⟨A,B,A2,B2,C1,C2,fun fr=>fO r⟩
theorem Ei {a b:List Pt}{t:List Nat}(h1:aP a t=true) (h2:aP b (aN a t)=true) (b1:tot a≤900) (b2:tot b≤900) (l1:a.length≤900) (l2:b.length≤900):∃ X,Tn a b X t∧∀ fr:Fr,cU (run prog w (n+8)) 9 [.inr (aJ a),.inr (aJ b)] fr=.ok (aJ X) fr:=by
 obtain ⟨X,r,T⟩:=DO (F:=prog) (aD:=0) (bF:=12) (aW:=11) (dF:=10) (aR:=5) (aZ:=4) (bB:=1) (cY:=2) (i:=9) (w:=w) (n:=n+5) rfl rfl rfl rfl rfl rfl rfl rfl rfl hw a b t h1 h2 (by omega) (by omega) (by omega) (by omega)
 exact ⟨X,T,fun fr=>call2 r⟩
theorem mS {c:List Pt}{p:Nat}(b1:tot c≤900) (b3:c.length≤900) (h:p≤aM c):∃ A B,Cut c p A B∧∀ fr:Fr,cU (run prog w (n+8)) 17 [.inr (aJ c),.inr (.int p),.inr (.str [97,104,101,97,100])] fr=.ok (.int (cV A)) fr:=by
 obtain ⟨A,B,C,r⟩:=qa (F:=prog) (aR:=5) (aZ:=4) (aD:=0) (bF:=12) (aW:=11) (bB:=1) (cY:=2) (kT:=14) (i:=17) (w:=w) (n:=n+4) rfl rfl rfl rfl rfl rfl rfl rfl rfl hw c p b3 b1 h
 exact ⟨A,B,C,fun fr=>fO r⟩
theorem Rl {t:List Nat}{c:List Pt}(hc:aP c t=true) (ht:t.length≤5) (tc:tot c≤18) (lc:c.length≤12) {p m e:Nat}(h1:p≤m) (h2:m≤e) (h3:e≤t.length) {x y:Option Sl}(hx:vo x) (hy:vo y) (W v10 v11 wX O8:V) :
  G9 w n Ga (xF ns t c W x y [.int p,.int m,.int e,v10,v11,wX,O8] 3):=by
 have bc:=e8 hc
 obtain ⟨A1,B1,C1,r1⟩:=mS (n:=n) hw (c:=c) (p:=p) (by omega) (by omega) (by omega)
 obtain ⟨A2,B2,C2,r2⟩:=mS (n:=n) hw (c:=c) (p:=m) (by omega) (by omega) (by omega)
 obtain ⟨A3,B3,C3,r3⟩:=mS (n:=n) hw (c:=c) (p:=e) (by omega) (by omega) (by omega)
 have st:dz .jE [.lst [.int (cV A1),.int (cV A2),.int (cV A3)]]=some (.lst [.int (cV A1),.int (cV A2),.int (cV A3)]):=by
  have e:dz .jE [.lst [.int (cV A1),.int (cV A2),.int (cV A3)]]=dX ((Ev.sortI [(cV A1:Int),(cV A2:Int),(cV A3:Int)]).map V.int):=rfl
  rw [e,QB (uP C1 C2 h1) (uP C2 C3 h2)];exact eW (bZ (by simp))
 have nl:Pv.cop .ne (.lst [.int (cV A1),.int (cV A2),.int (cV A3)]) (.lst [.int (cV A1),.int (cV A2),.int (cV A3)])=some false:=by
  rw [o7]
  show (cD (ez 19) _ _).map _=_
  simp [cD]
 obtain ⟨A,B,D,r4⟩:=eK (n:=n) hw (c:=c) (p:=0) (by omega) (by omega) (by omega)
 have b1:=D.eE
 have b2:=D.lA
 have b3:=D.lB
 have j:=kZ (w:=w) (n:=n) (a:=A) (b:=B) (by omega) (by omega)
 rw [D.join] at j
 have f:=vc (w:=w) (n:=n) (c:=c) (by omega) (by omega)
 obtain ⟨E1,E2,E3,E4,O1,O2,o⟩:=iH (n:=n) hw (c:=c) (s:=p) (e:=p) (by omega) (by omega) (by omega) (Nat.le_refl _)
 rw [Nat.sub_self] at O2
 rw [Vh O1.hd O2,←bc,yP p t.length (by omega)] at o
 have n0:=jD (w:=w) (n:=n) t.length (by omega)
 refine aj (bg (pD (l:=[.int (cV A1),.int (cV A2),.int (cV A3)]) (j7 (kI (bK (aB rfl) (bK (aB rfl) (bK (aB rfl) cF))) E8) rfl) rfl (O7
  (mE rfl (aV (aC rfl (aB rfl) (aC rfl (aB rfl) (aC rfl (aY rfl) aE))) (r1 _)))
  (mE rfl (aV (aC rfl (aB rfl) (aC rfl (aB rfl) (aC rfl (aY rfl) aE))) (r2 _)))
  (mE rfl (aV (aC rfl (aB rfl) (aC rfl (aB rfl) (aC rfl (aY rfl) aE))) (r3 _)))) (eW (bZ (by simp)))) rfl rfl ?_)
 refine aj (aQ (b:=false) (aG rfl (b8 (aB rfl) (jB (bK (aB rfl) cF) st) nl) rfl) (fun h=>absurd h (by decide)) fun _=>aF ?_)
 have sh:∀ (W2:V) (l:List V) (k:Nat),gf (xF ns t c W2 x y l k)=xF ns t c W2 x y l k:=fun W2 l k=>by
  show some _ :: some _ :: some _ :: some _ :: some _ :: x.map Sl.gk :: y.map Sl.gk :: (vF l k).map (Option.map Sl.gk)=_
  rw [fD hx,fD hy]
  have:(vF l k).map (Option.map Sl.gk)=vF l k:=by
   unfold vF;rw [List.map_append,List.map_map,List.map_replicate];rfl
  rw [this];rfl
 refine aj (bX (ah:=xF ns t c W x y [.int p,.int m,.int e,v10,v11,wX,O8,.lst [.int (cV A1),.int (cV A2),.int (cV A3)]] 2) ?_ ⟨rfl,rfl⟩)
 show ev _ _ _ (gf (xF ns t c W x y [.int p,.int m,.int e,v10,v11,wX,O8,.lst [.int (cV A1),.int (cV A2),.int (cV A3)]] 2))=_
 rw [sh]
 exact Qs (b8 (aV (aC rfl (aB rfl) (aC rfl (aB rfl) (aC rfl (aB rfl) aE))) (o _)) (aV (aC rfl (aB rfl) aE) (n0 _)) (eC _)) (b8 (aV (aC rfl (cE (aV (aC rfl (aB rfl) (aC rfl (aY rfl) aE)) (r4 _)) (aY rfl) rfl) (aC rfl (cE (aV (aC rfl (aB rfl) (aC rfl (aY rfl) aE)) (r4 _)) (aY rfl) rfl) aE)) (j _)) (aV (aC rfl (aB rfl) aE) (f _)) (eC _))
theorem Rm {t:List Nat}{c:List Pt}(hc:aP c t=true) (ht:t.length≤5) (tc:tot c≤18) (lc:c.length≤12) {p m e:Nat}(h1:p≤m) (h2:m≤e) (h3:e≤t.length) {x y:Option Sl}(hx:vo x) (hy:vo y) (W v10 v11 wX:V) :
  G9 w n FZ (xF ns t c W x y [.int p,.int m,.int e,v10,v11,wX] 4):=by
 have bc:=e8 hc
 obtain ⟨As,Bs,Cs,rs⟩:=eK (n:=n) hw (c:=c) (p:=p) (by omega) (by omega) (by omega)
 obtain ⟨Am,Bm,Cm,rm⟩:=eK (n:=n) hw (c:=c) (p:=m) (by omega) (by omega) (by omega)
 obtain ⟨Ae,Be,Ce,re⟩:=eK (n:=n) hw (c:=c) (p:=e) (by omega) (by omega) (by omega)
 have m1:=Cm.eE
 have m2:=Cm.lA
 have m3:=Cm.lB
 have m4:=Cm.qJ
 have m5:=Cm.bA
 have s1:=Cs.eE
 have s2:=Cs.lB
 have s3:=Cs.qJ
 obtain ⟨X1,Y1,C1,r1⟩:=eK (n:=n) hw (c:=Am) (p:=p) (by omega) (by omega) (by omega)
 obtain ⟨X2,Y2,C2,r2⟩:=eK (n:=n) hw (c:=Bm) (p:=e - m) (by omega) (by omega) (by omega)
 obtain ⟨X3,Y3,C3,r3⟩:=eK (n:=n) hw (c:=Bs) (p:=m - p) (by omega) (by omega) (by omega)
 have u1:=(Cm.ca.left (C1.mL Cm.fA)).uniq Cs.ca
 have q1:X1=As:=kj C1.fA Cs.fA u1.1
 have u2:=Cm.ca.right (C2.mL Cm.fB)
 rw [show m+(e - m)=e by omega] at u2
 have q2:Y2=Be:=kj C2.fB Ce.fB (u2.uniq Ce.ca).2
 have u3:=Cs.ca.right (C3.mL Cs.fB)
 rw [show p+(m - p)=m by omega] at u3
 have q3:X3=Y1:=by
  refine kj C3.fA C1.fB ?_
  have e1:=(u3.uniq Cm.ca).1
  rw [← (C1.mL Cm.fA).ap,u1.1] at e1
  exact List.append_cancel_left e1
 rw [q1] at r1
 rw [q2] at r2
 rw [q3] at r3
 have k:=Jb (w:=w) (n:=n) (c:=Bm) (by omega) (by omega)
 rw [show aM Bm=t.length - m by omega] at k
 refine aj (bg (aV (aC rfl (aB rfl) (aC rfl (aB rfl) aE)) (rm _)) rfl rfl ?_)
 refine aj (aQ (b:=false) (gu (aG rfl (b8 (cE (aV (aC rfl (cE (aB rfl) (aY rfl) rfl) (aC rfl (aB rfl) aE)) (r1 _)) (aY rfl) rfl) (cE (aV (aC rfl (aB rfl) (aC rfl (aB rfl) aE)) (rs _)) (aY rfl) rfl) (nC _)) rfl)
  (aG rfl (b8 (cE (aV (aC rfl (cE (aB rfl) (aY rfl) rfl) (aC rfl (bw (aB rfl) (aB rfl) (rS h2)) aE)) (r2 _)) (aY rfl) rfl) (cE (aV (aC rfl (aB rfl) (aC rfl (aB rfl) aE)) (re _)) (aY rfl) rfl) (nC _)) rfl)) (fun h=>absurd h (by decide)) fun _=>aF ?_)
 refine aj (aQ (b:=false) (gu (aG rfl (b8 (cE (aV (aC rfl (cE (aV (aC rfl (aB rfl) (aC rfl (aB rfl) aE)) (rs _)) (aY rfl) rfl) (aC rfl (bw (aB rfl) (aB rfl) (rS h1)) aE)) (r3 _)) (aY rfl) rfl) (cE (aV (aC rfl (cE (aB rfl) (aY rfl) rfl) (aC rfl (aB rfl) aE)) (r1 _)) (aY rfl) rfl) (nC _)) rfl)
  (aG rfl (b8 (aV (aC rfl (cE (aB rfl) (aY rfl) rfl) aE) (k _)) (bw (aB rfl) (aB rfl) (rS (by omega))) (nI _)) rfl)) (fun h=>absurd h (by decide)) fun _=>aF ?_)
 exact Rl hw hc ht tc lc h1 h2 h3 hx hy W v10 v11 wX (.tup [aJ Am,aJ Bm])
omit hw in
theorem O9 (t:List Nat) (p:Nat):fR (.str t) none (some (p:Int))=some (.str (t.take p)):=by rw [gQ,yw]
omit hw in
theorem Wx (t:List Nat) (p:Nat):fR (.str t) (some (p:Int)) none=some (.str (t.drop p)):=by rw [gQ,yx]
omit hw in
theorem rW {A:List Pt}{t:List Nat}{p e:Nat}(tA:tot A≤18) (ht:t.length≤5) (hp:p≤e) (he:e≤t.length) (h:aP A ((t.drop p).take (e - p))=true) (fr:Fr):cU (run prog w (n+8)) 7 [.inr (aJ (cG p A (t.length - e))),.inr (.str t)] fr=.ok (.str (t.take p++aN A ((t.drop p).take (e - p))++t.drop e)) fr:=by
 have o:=kY hp he h
 have b:=nu (s:=p) (k:=t.length - e) (A:=A)
 rw [←o.2]
 exact GH o.1 (by omega) (by omega) (by omega) fr
theorem Rn {t:List Nat}{c:List Pt}(hc:aP c t=true) (ht:t.length≤5) (tc:tot c≤18) (lc:c.length≤12) {p m e:Nat}(h1:p≤m) (h2:m≤e) (h3:e≤t.length) {x y:Option Sl}(hx:vo x) (hy:vo y) (W:V) :
  G9 w n zI (xF ns t c W x y [.int p,.int m,.int e] 7):=by
 have bc:=e8 hc
 obtain ⟨As,Bs,Aw,Bw,Cs,Cw,Uc⟩:=iH (n:=n) hw (c:=c) (s:=p) (e:=e) (by omega) (by omega) (by omega) (by omega)
 obtain ⟨YV,YW,Af,Bf,YH,Cf,rf⟩:=iH (n:=n) hw (c:=c) (s:=p) (e:=m) (by omega) (by omega) (by omega) (by omega)
 obtain ⟨Am,Bm,Al,Bl,Cm,Cl,rl⟩:=iH (n:=n) hw (c:=c) (s:=m) (e:=e) (by omega) (by omega) (by omega) (by omega)
 rw [←bc] at Uc rf rl
 obtain ⟨rfl,rfl⟩:=YH.uniq Cs
 have sd:=Eh (t:=t) h1 h2 Cs Cw Cf Cm Cl
 have fw:=(Cw.fit (Cs.fit hc).2).1
 have ff:=(Cf.fit (Cs.fit hc).2).1
 have fl:=(Cl.fit (Cm.fit hc).2).1
 have d1:=Cs.eE
 have d2:=Cw.eE
 have d3:=Cf.eE
 have d4:=Cm.eE
 have d5:=Cl.eE
 have Dw:=rW (w:=w) (n:=n) (p:=p) (e:=e) (A:=Aw) (by omega) ht (by omega) h3 fw
 have Dl:=rW (w:=w) (n:=n) (p:=m) (e:=e) (A:=Al) (by omega) ht h2 h3 fl
 have of:=kY (p:=p) (e:=m) h1 (by omega) ff
 have bf:=nu (s:=p) (k:=t.length - m) (A:=Af)
 have q:=rT (s:=p) (k:=t.length - m) (A:=Af)
 have q2:=Cf.bA
 obtain ⟨X,Y,CX,rX⟩:=eK (n:=n) hw (c:=cG p Af (t.length - m)) (p:=m) (by omega) (by omega) (by omega)
 have uX:=rR Cf.fA (by omega) CX
 have eX:=CX.done (t:=t)
 rw [of.2,yQ (u:=t.drop m) (by rw [uX.2];simp)] at eX
 have eX:=List.append_cancel_right eX
 have fX:=(CX.fit of.1).1
 have tX:=CX.eE
 have lX:=CX.lA
 generalize hz:aN Al ((t.drop m).take (e - m))=z at sd Dl
 have zl:z.length≤23:=by
  have q1:=nY Al ((t.drop m).take (e - m))
  have q2:=List.length_take_le (e - m) (t.drop m)
  rw [hz] at q1
  omega
 have dl:=nY Aw ((t.drop p).take (e - p))
 have YX:((t.drop p).take (e - p)).length≤5:=by simp;omega
 have lm:(t.take m++z++t.drop e).length=m+(z.length+(t.length - e)):=by simp;omega
 have n1:=jD (w:=w) (n:=n) (z.length+(t.length - e)) (by omega)
 have K:=iG (z++t.drop e)
 rw [show (z++t.drop e).length=z.length+(t.length - e) by simp] at K
 have kt:tot (av [.keep (z.length+(t.length - e))])=z.length+(t.length - e):=by rw [cJ];simp [tot,Pt.n]
 have kl:=cz (cP (b6 [.keep (z.length+(t.length - e))]))
 have j:=kZ (w:=w) (n:=n) (a:=X) (b:=av [.keep (z.length+(t.length - e))]) (by omega) (by omega)
 have F:=kq fX (show aP (av [.keep (z.length+(t.length - e))]) (z++t.drop e)=true by rw [iE];exact K.1)
 have kd:aN (av [.keep (z.length+(t.length - e))]) (z++t.drop e)=z++t.drop e:=by rw [eT];exact K.2
 rw [kd,eX,←List.append_assoc,←List.append_assoc,List.append_assoc (t.take p),←sd] at F
 have jt:tot (av (X++av [.keep (z.length+(t.length - e))]))≤900:=by rw [cJ,cO];omega
 have Dj:=GH (w:=w) (n:=n) F.1 jt (by rw [lm];omega) (Nat.le_trans (cz (cP (b6 _))) jt)
 rw [F.2] at Dj
 have ln:dz .len [.str (t.take m++z++t.drop e)]=some (.int ((m+(z.length+(t.length - e)):Nat):Int)):=by rw [←lm];exact len_str (by rw [lm];omega)
 have sb:=rS (a:=m+(z.length+(t.length - e))) (b:=m) (by omega)
 rw [Nat.add_sub_cancel_left] at sb
 generalize aN Aw ((t.drop p).take (e - p))=u at Dw Dj dl
 have st:fR (.str (t.take p++u++t.drop e)) none (some (p:Int))=some (.str (t.take p)):=by
  rw [O9,List.append_assoc,List.take_append_of_le_length (by simp;omega),List.take_take,Nat.min_self]
 have sf:eN .iJ (.str (t.take p++u++t.drop e)) [.str (t.drop e)]=some (.bl true):=by
  show some (V.bl ((t.drop e).isSuffixOf (t.take p++u++t.drop e)))=_
  rw [List.isSuffixOf_iff_suffix.mpr (List.suffix_append _ _)]
 refine aj (bg (aV (aC rfl (aB rfl) (aC rfl (aB rfl) (aC rfl (aB rfl) aE))) (Uc _)) rfl rfl ?_)
 refine aj (bg (aV (aC rfl (aB rfl) (aC rfl (aB rfl) (aC rfl (aB rfl) aE))) (rf _)) rfl rfl ?_)
 refine aj (bg (aV (aC rfl (aB rfl) (aC rfl (aB rfl) (aC rfl (aB rfl) aE))) (rl _)) rfl rfl ?_)
 refine aj (bg (aV (aC rfl (aB rfl) (aC rfl (aB rfl) aE)) (Dl _)) rfl rfl ?_)
 refine aj (aQ (b:=false) (aG rfl (b8 (aV (aC rfl (aB rfl) (aC rfl (aB rfl) aE)) (Dw _)) (aV (aC rfl (aV (aC rfl (cE (aV (aC rfl (aB rfl) (aC rfl (aB rfl) aE)) (rX _)) (aY rfl) rfl) (aC rfl (aV (aC rfl (bw (jB (bK (aB rfl) cF) ln) (aB rfl) sb) aE) (n1 _)) aE)) (j _)) (aC rfl (aB rfl) aE)) (Dj _)) (nS _)) rfl) (fun h=>absurd h (by decide)) fun _=>aF ?_)
 refine aj (aQ (b:=false) (gu (aG rfl (b8 (uo (aV (aC rfl (aB rfl) (aC rfl (aB rfl) aE)) (Dw _)) pG (mC (aB rfl)) st) (uo (aB rfl) pG (mC (aB rfl)) (O9 t p)) (nS _)) rfl)
  (yk (b:=true) (aG rfl (yj rfl (aV (aC rfl (aB rfl) (aC rfl (aB rfl) aE)) (Dw _)) (bK (uo (aB rfl) (mC (aB rfl)) pG (Wx t e)) cF) sf) rfl))) (fun h=>absurd h (by decide)) fun _=>aF ?_)
 exact Rm hw hc ht tc lc h1 h2 h3 hx hy _ _ _ _
theorem vd {W A:List Pt}{t u v:List Nat}{r:Nat}(hW:aP W t=true) (dW:aN W t=u++v) (hA:aP A u=true) (hr:v.length=r) (b1:tot W≤100) (b2:W.length≤100) (b3:tot A≤100) (b4:r≤100) :
  ∃ X,Tn W (av (A++[.keep r])) X t∧∀ fr:Fr,cU (run prog w (n+8)) 9 [.inr (aJ W),.inr (aJ (av (A++[.keep r])))] fr=.ok (aJ X) fr:=by
 have K:=iG v
 rw [hr] at K
 have F:=kq hA K.1
 rw [←dW] at F
 have ts:tot (av (A++[.keep r]))≤900:=by rw [cJ,cO];simp [tot,Pt.n] at b3 ⊢;omega
 exact Ei hw hW F.1 (by omega) ts (by omega) (Nat.le_trans (cz (cP (b6 _))) ts)
include hn in
theorem Wy {t:List Nat}{c A B:List Pt}(hc:aP c t=true) (ht:t.length≤5) (tc:tot c≤18) (lc:c.length≤12) (C:Cut c 0 A B) {x y:Option Sl}(hx:vo x) (hy:vo y) :
  G9 w n s6 (xF ns t c (aJ (av ([.keep 0]++B))) x y [] 10):=by
 have bc:=e8 hc
 obtain ⟨A',B',C',r0⟩:=eK (n:=n) hw (c:=c) (p:=0) (by omega) (by omega) (by omega)
 obtain ⟨rfl,rfl⟩:=C'.uniq C
 have d1:=C.eE
 have d2:=C.lA
 have wb:=wV (B:=B') (j:=0)
 have wf:=mR hc C (Nat.zero_le _)
 have fB:=(C.fit hc).2
 have al:=A7 B'
 have a1:=wW (w:=w) (n:=n) (c:=av ([.keep 0]++B')) (by omega) (by omega)
 rw [wb.2.2,Nat.zero_add] at a1
 have n1:=jD (w:=w) (n:=n) (bY B') (by omega)
 have kt:tot (av [.keep (bY B')])=bY B':=by rw [cJ];simp [tot,Pt.n]
 have kl:=cz (cP (b6 [.keep (bY B')]))
 have j:=kZ (w:=w) (n:=n) (a:=A') (b:=av [.keep (bY B')]) (by omega) (by omega)
 rw [wU] at j
 obtain ⟨X,T,rX⟩:=vd (n:=n) hw wf.1 wf.2 (C.fit hc).1 (om fB) (by omega) (by omega) (by omega) (by omega)
 rw [last_eq hc C rfl rfl T] at rX
 have f:=vc (w:=w) (n:=n) (c:=c) (by omega) (by omega)
 obtain ⟨p,ep,hp⟩:=drawn (ns:=ns) 60 t.length
 obtain ⟨k,ek,hk⟩:=drawn (ns:=ns) 61 (t.length - p)
 obtain ⟨l,el,hl⟩:=drawn (ns:=ns) 62 (t.length - (p+k))
 have c1:=fun (a:Int) (many:Nat) fr=>fO (fr:=fr) (fV (F:=prog) (c:=18) (dr:=19) (w:=w) (n:=n+6) rfl rfl hn a (many:=(many:Int)+1) (by omega))
 have Ud:=c1 60 t.length
 have Ue:=c1 61 (t.length - p)
 have Ug:=c1 62 (t.length - (p+k))
 rw [ep] at Ud
 rw [ek] at Ue
 rw [el] at Ug
 refine aj (aQ (b:=false) (aG rfl (b8 (aV (aC rfl (aB rfl) (aC rfl (aV (aC rfl (cE (aV (aC rfl (aB rfl) (aC rfl (aY rfl) aE)) (r0 _)) (aY rfl) rfl) (aC rfl (aV (aC rfl (aV (aC rfl (aB rfl) aE) (a1 _)) aE) (n1 _)) aE)) (j _)) aE)) (rX _)) (aV (aC rfl (aB rfl) aE) (f _)) (nC _)) rfl) (fun h=>absurd h (by decide)) fun _=>aF ?_)
 refine aj (bg (aV (aC rfl (aB rfl) (aC rfl (aY rfl) (aC rfl (bw (aB rfl) (aY rfl) dZ) aE))) (Ud _)) rfl rfl ?_)
 refine aj (bg (bw (aB rfl) (aV (aC rfl (aB rfl) (aC rfl (aY rfl) (aC rfl (bw (bw (aB rfl) (aB rfl) (rS hp)) (aY rfl) dZ) aE))) (Ue _)) (wR p k)) rfl rfl ?_)
 refine aj (bg (bw (aB rfl) (aV (aC rfl (aB rfl) (aC rfl (aY rfl) (aC rfl (bw (bw (aB rfl) (aB rfl) (rS (by omega))) (aY rfl) dZ) aE))) (Ug _)) (wR (p+k) l)) rfl rfl ?_)
 exact Rn hw hc ht tc lc (by omega) (by omega) (by omega) hx hy _
include hn in
theorem Wz {t:List Nat}{c:List Pt}(hc:aP c t=true) (ht:t.length≤5) (tc:tot c≤18) (lc:c.length≤12) :
  G9 w n s4 ([some (.val (jb ns)),some (.val (.str t)),some (.val (aJ c)),some (.val (.int (t.length:Nat)))]++List.replicate 13 none):=by
 have bc:=e8 hc
 have n0:=jD (w:=w) (n:=n) t.length (by omega)
 obtain ⟨A,B,C,_⟩:=eK (n:=n) hw (c:=c) (p:=t.length) (by omega) (by omega) (by omega)
 have eB:=Ja hc C
 subst eB
 refine aj (bg (aV (aC rfl (aB rfl) aE) (n0 _)) rfl rfl ?_)
 have rv:lD (.lst (range 0 t.length))=some (.lst (((List.range t.length).reverse).map fun (i:Nat)=>V.int (0+i))):=by
  rw [List.map_reverse]
  exact eW (bZ (by simp [range];omega))
 refine aj (pJ (j7 (Mu (pF (pI (bK (aB rfl) cF) (CP (by omega) rfl)) (eW (bZ (by simp [range];omega)))) rv) rfl) ?_)
 refine iA (e:=fun (i:Nat)=>V.int (0+i)) (fun _ l fr=>∃ k A B x y,l=(List.range k).reverse∧k≤t.length∧Cut c k A B∧vo x∧vo y∧fr=xF ns t c (aJ (av ([.keep k]++B))) x y [] 10) (fun _ j l fr ⟨k,A',B',x,y,hl,hk,C',hx,hy,hfr⟩=>?_) (fun _ fr ⟨k,A',B',x,y,hl,hk,C',hx,hy,hfr⟩=>?_) _ [] _ ⟨t.length,A,[],none,none,rfl,Nat.le_refl _,C,.none,.none,rfl⟩
 ·subst hfr
  cases k with
  | zero=>simp at hl
  | succ k=>
   rw [List.range_succ,List.reverse_append] at hl
   simp only [List.reverse_cons,List.reverse_nil,List.nil_append,List.cons_append,List.cons.injEq] at hl
   obtain ⟨rfl,rfl⟩:=hl
   obtain ⟨A0,B0,P,Q,C0,C1,ro⟩:=iH (n:=n) hw (c:=c) (s:=j) (e:=j+1) (by omega) (by omega) (by omega) (by omega)
   rw [Nat.add_sub_cancel_left] at C1
   rw [←bc] at ro
   have d1:=C0.eE
   have d2:=C1.eE
   have d3:=C'.eE
   have ab:=nu (s:=j) (k:=t.length - (j+1)) (A:=P)
   have af:=rT (s:=j) (k:=t.length - (j+1)) (A:=P)
   have bP:=C1.bA
   obtain ⟨Y,Z,CY,ry⟩:=eK (n:=n) hw (c:=cG j P (t.length - (j+1))) (p:=j+1) (by omega) (by omega) (by omega)
   have uY:=rR C1.fA (by omega) CY
   have d4:=CY.eE
   have d5:=CY.lA
   have fP:=(C1.fit (C0.fit hc).2).1
   have oP:=kY (p:=j) (e:=j+1) (A:=P) (by omega) hk (by rw [Nat.add_sub_cancel_left];exact fP)
   have wb:=wV (B:=B') (j:=j+1)
   have wf:=mR hc C' hk
   have al:=A7 B'
   have a1:=wW (w:=w) (n:=n) (c:=av ([.keep (j+1)]++B')) (by omega) (by omega)
   rw [wb.2.2] at a1
   have s1:=rS (a:=j+1+bY B') (b:=j) (by omega)
   have s2:=rS (a:=j+1+bY B' - j) (b:=1) (by omega)
   rw [show j+1+bY B' - j - 1=bY B' by omega] at s2
   have n1:=jD (w:=w) (n:=n) (bY B') (by omega)
   have kt:tot (av [.keep (bY B')])=bY B':=by rw [cJ];simp [tot,Pt.n]
   have kl:=cz (cP (b6 [.keep (bY B')]))
   have jn:=kZ (w:=w) (n:=n) (a:=Y) (b:=av [.keep (bY B')]) (by omega) (by omega)
   rw [wU] at jn
   obtain ⟨X,T,rX⟩:=vd (n:=n) hw wf.1 wf.2 (CY.fit oP.1).1 (om (C'.fit hc).2) (by omega) (by omega) (by omega) (by omega)
   rw [step_eq hc (by omega) C0 C' C1 uY.1 rfl rfl T] at rX
   have e0:(0:Int)+(j:Nat)=(j:Nat):=Int.zero_add _
   rw [e0]
   refine fC (ah:=xF ns t c (aJ (av ([.keep (j+1)]++B'))) (some (.val (.int (j:Nat)))) y [] 10) (bind1 rfl hx) ?_
   refine aj (bg (ay:=xF ns t c (aJ (av ([.keep (j+1)]++B'))) (some (.val (.int (j:Nat)))) (some (.val (aJ Y))) [] 10) (cE (aV (aC rfl (aV (aC rfl (aB rfl) (aC rfl (aB rfl) (aC rfl (bw (aB rfl) (aY rfl) (wR j 1)) aE))) (ro _)) (aC rfl (bw (aB rfl) (aY rfl) (wR j 1)) aE)) (ry _)) (aY rfl) rfl) rfl (iU rfl hy) ?_)
   refine aj (bg (aV (aC rfl (aB rfl) (aC rfl (aV (aC rfl (aB rfl) (aC rfl (aV (aC rfl (bw (bw (aV (aC rfl (aB rfl) aE) (a1 _)) (aB rfl) s1) (aY rfl) s2) aE) (n1 _)) aE)) (jn _)) aE)) (rX _)) rfl rfl (aF ?_))
   rw [gg]
   exact ⟨j,A0,B0,_,_,rfl,by omega,C0,.val,.val,rfl⟩
 ·subst hfr
  have:k=0:=by have:=congrArg List.length hl;simpa using this.symm
  subst this
  exact Wy hn hw hc ht tc lc C' hx hy
include hn in
theorem Pa:run prog w (n+9) 22 [.val (jb ns)]=some (.bl true,[]):=by
 have ht:(txt ns 0 5).length≤5:=Iz ns 0 (most:=5) (by decide)
 have c1:=fun fr=>fO (fr:=fr) (CO (F:=prog) (c:=18) (dr:=19) (t:=20) (w:=w) (n:=n+5) rfl rfl hn rfl 0 5 (by decide) (by decide))
 have c2:=fun fr=>fO (fr:=fr) (ym (F:=prog) (c:=18) (dr:=19) (t:=21) (w:=w) (n:=n+5) rfl rfl hn rfl 10 (txt ns 0 5) (by omega))
 have hc:=IJ ns 10 (txt ns 0 5)
 obtain ⟨lc,tc⟩:=Rj ns 10 (txt ns 0 5) 5 ht
 generalize txt ns 0 5=t at ht c1 c2 hc lc tc
 generalize chg ns 10 t=c at c2 hc lc tc
 have bc:=e8 hc
 have ln:dz .len [.str t]=some (.int (t.length:Nat)):=len_str (by omega)
 obtain ⟨A,B,C,r0⟩:=eK (n:=n) hw (c:=c) (p:=0) (by omega) (by omega) (by omega)
 have d1:=C.eE
 have d2:=C.lA
 have s1:=oB (w:=w) (n:=n) (c:=A) (by omega) (by omega)
 have s2:=oB (w:=w) (n:=n) (c:=c) (by omega) (by omega)
 have sm:dz .sum [.lst ((List.range t.length).map fun i=>V.int ((jS (au (av c)) i:Nat):Int))]=some (.int (((List.range t.length).map (jS (au (av c)))).sum:Nat)):=by
  rw [wz,o8 (fun i=>((jS (au (av c)) i:Nat):Int))]
  show some (V.int _)=_
  rw [u9]
 have ad:=wR ((List.range t.length).map (jS (au (av c)))).sum (cst A)
 rw [Rk hc C] at ad
 refine cI (fn:=FE) rfl rfl ?_
 refine aj (bg (aV (aC rfl (aB rfl) (aC rfl (aY rfl) (aC rfl (aY rfl) aE))) (c1 _)) rfl rfl ?_)
 refine aj (bg (aV (aC rfl (aB rfl) (aC rfl (aY rfl) (aC rfl (aB rfl) aE))) (c2 _)) rfl rfl ?_)
 refine aj (bg (jB (bK (aB rfl) cF) ln) rfl rfl ?_)
 refine aj (aQ (b:=false) (aG rfl (b8 (bw (jB (bK (pD (pI (bK (aB rfl) cF) (CP (by omega) rfl)) rfl (rN (fun (i:Nat)=>V.int (0+i)) (fun i=>V.int ((jS (au (av c)) i:Nat):Int)) (List.range t.length) fun i hi=>?_) (eW (bZ (by simp;omega)))) cF) sm) (aV (aC rfl (cE (aV (aC rfl (aB rfl) (aC rfl (aY rfl) aE)) (r0 _)) (aY rfl) rfl) aE) (s1 _)) ad) (aV (aC rfl (aB rfl) aE) (s2 _)) (nI _)) rfl) (fun h=>absurd h (by decide)) fun _=>aF ?_)
 ·have hi':=List.mem_range.mp hi
  obtain ⟨A0,B0,P,Q,C0,C1,ro⟩:=iH (n:=n) hw (c:=c) (s:=i) (e:=i+1) (by omega) (by omega) (by omega) (by omega)
  rw [Nat.add_sub_cancel_left] at C1
  have e1:=C0.eE
  have e2:=C1.eE
  have ab:=nu (s:=i) (k:=aM c - (i+1)) (A:=P)
  have k:=oB (w:=w) (n:=n) (c:=cG i P (aM c - (i+1))) (by omega) (by omega)
  rw [yG C1.fA,Eg C0 C1] at k
  have e0:(0:Int)+(i:Nat)=(i:Nat):=Int.zero_add _
  rw [e0]
  exact mE rfl (aV (aC rfl (aV (aC rfl (aB rfl) (aC rfl (aB rfl) (aC rfl (bw (aB rfl) (aY rfl) (wR i 1)) aE))) (ro _)) aE) (k _))
 ·exact Wz hn hw hc ht (by omega) (by omega)
end
theorem good:∀ ns:List Int,ns.length≤63→∃ h',Ev.run prog 100000 60 22 [.ref 0] [.bS (ns.map Ev.D.int)]=.ok (.bl true) h':=fun ns h=>HV (Pa (w:=100000) (n:=51) h (by decide))
end Lg
theorem Lw.good:∀ ns:List Int,ns.length≤63→∃ h',Ev.run Lw.prog 100000 60 22 [.ref 0] [.bS (ns.map Ev.D.int)]=.ok (.bl true) h':=Lg.good
namespace PySem.W.Fast
theorem tw18274383858859280841:True:=⟨⟩
theorem tw14160055158739831552:True:=⟨⟩
theorem tw13574466877073267103:True:=⟨⟩
theorem tw17919978563635221774:True:=⟨⟩
theorem tw14565761963478493204:True:=⟨⟩
theorem tw7700485788320739029:True:=⟨⟩
theorem tw13900590808486485607:True:=⟨⟩
theorem tw8422441837744186850:True:=⟨⟩
theorem tw15198292091780793461:True:=⟨⟩
theorem tw8990548687867821737:True:=⟨⟩
theorem tw8742861232257715018:True:=⟨⟩
theorem tw14549348559243818369:True:=⟨⟩
theorem tw15873606098881967214:True:=⟨⟩
theorem tw10790629096967784781:True:=⟨⟩
theorem tw7167658006734426252:True:=⟨⟩
theorem tw7798545297598326889:True:=⟨⟩
theorem tw10534607885401478383:True:=⟨⟩
theorem tw15926606220854513427:True:=⟨⟩
theorem tw14056004040733670498:True:=⟨⟩
theorem tw10880305787508393287:True:=⟨⟩
theorem tw5764171789833734063:True:=⟨⟩
theorem tw3069244178400642660:True:=⟨⟩
theorem tw9830204608724915229:True:=⟨⟩
theorem tw345742008230020082:True:=⟨⟩
theorem tw1282849434814877420:True:=⟨⟩
theorem tw10626492326328013535:True:=⟨⟩
theorem tw15850170976735824156:True:=⟨⟩
theorem tw12496147381213558128:True:=⟨⟩
theorem tw13164717554885138970:True:=⟨⟩
theorem tw6973852950600856610:True:=⟨⟩
theorem tw15196959522013776373:True:=⟨⟩
theorem tw7423324808888093967:True:=⟨⟩
theorem tw7316198452806408155:True:=⟨⟩
theorem tw11349976339988330928:True:=⟨⟩
theorem tw12687251257142760351:True:=⟨⟩
theorem tw15657960712477119693:True:=⟨⟩
theorem tw12159918899378735968:True:=⟨⟩
theorem tw12938363500850157532:True:=⟨⟩
theorem tw3657106834593863146:True:=⟨⟩
theorem tw640625173655635449:True:=⟨⟩
theorem tw10452123093138910087:True:=⟨⟩
theorem tw6234444693821455982:True:=⟨⟩
theorem tw7591514343816735353:True:=⟨⟩
theorem tw11164817938055110038:True:=⟨⟩
theorem tw15125220601016212808:True:=⟨⟩
theorem tw3574392611591097257:True:=⟨⟩
theorem tw8965503716345790229:True:=⟨⟩
theorem tw14961915690987772940:True:=⟨⟩
theorem tw3545729329261246765:True:=⟨⟩
theorem tw13647017301050541165:True:=⟨⟩
theorem tw15941369953782379033:True:=⟨⟩
theorem tw14017253886991018185:True:=⟨⟩
theorem tw12751533437633747609:True:=⟨⟩
theorem tw1071772405906090811:True:=⟨⟩
theorem tw14666582209822457902:True:=⟨⟩
theorem tw16952923638328389230:True:=⟨⟩
theorem tw4609553253631059728:True:=⟨⟩
theorem tw12811970634423854938:True:=⟨⟩
theorem tw705254592039258724:True:=⟨⟩
theorem tw10749714088435618264:True:=⟨⟩
theorem tw13533442107694019278:True:=⟨⟩
theorem tw6505421699720989194:True:=⟨⟩
theorem tw1167333296214262653:True:=⟨⟩
theorem tw10933941474486073297:True:=⟨⟩
theorem tw16957626229917765597:True:=⟨⟩
theorem tw9093651211885994998:True:=⟨⟩
theorem tw13969533421215019583:True:=⟨⟩
theorem tw10518195783433398432:True:=⟨⟩
theorem tw2943793694647589372:True:=⟨⟩
theorem tw18147951490063302111:True:=⟨⟩
theorem tw3932372459031909036:True:=⟨⟩
theorem tw13184003137850844041:True:=⟨⟩
theorem tw9763412997232468973:True:=⟨⟩
theorem tw4080284360812206676:True:=⟨⟩
theorem tw13072329692944313750:True:=⟨⟩
theorem tw15033630940196639642:True:=⟨⟩
theorem tw7966841685455394898:True:=⟨⟩
theorem tw6135563688501574179:True:=⟨⟩
theorem tw11231413302737123781:True:=⟨⟩
theorem tw1101369272860754090:True:=⟨⟩
theorem tw11073002276048066593:True:=⟨⟩
theorem tw11174228126369435335:True:=⟨⟩
theorem tw6103221922355536347:True:=⟨⟩
theorem tw10292566460992690406:True:=⟨⟩
theorem tw12816446214971385329:True:=⟨⟩
theorem tw3211747209350708376:True:=⟨⟩
theorem tw4302157767244945590:True:=⟨⟩
theorem tw3728840367895714854:True:=⟨⟩
theorem tw13346813724541372116:True:=⟨⟩
theorem tw1314049891927757228:True:=⟨⟩
theorem tw9391067007758494652:True:=⟨⟩
theorem tw10086158107727895093:True:=⟨⟩
theorem tw16787245433517669573:True:=⟨⟩
theorem tw8050850883894449813:True:=⟨⟩
theorem tw12497998955032716018:True:=⟨⟩
theorem tw4678104039064257625:True:=⟨⟩
theorem tw12032072568100307025:True:=⟨⟩
theorem tw8743599940065668994:True:=⟨⟩
theorem tw16899000478575270324:True:=⟨⟩
theorem tw18165659098035312776:True:=⟨⟩
theorem tw12594247588662059579:True:=⟨⟩
theorem tw12879113306082275047:True:=⟨⟩
theorem tw8426993937366908308:True:=⟨⟩
theorem tw4538075135352632515:True:=⟨⟩
theorem tw288230989879347866:True:=⟨⟩
theorem tw5772752393427354621:True:=⟨⟩
theorem tw16627274032064650375:True:=⟨⟩
theorem tw10960308429803830304:True:=⟨⟩
theorem tw286586782494888026:True:=⟨⟩
theorem tw15066496097361821305:True:=⟨⟩
theorem tw14314014558282988896:True:=⟨⟩
theorem tw10949900036016903091:True:=⟨⟩
theorem tw3845035049576724601:True:=⟨⟩
theorem tw17386462978513522353:True:=⟨⟩
theorem tw13185123137746340830:True:=⟨⟩
theorem tw10543524904765059549:True:=⟨⟩
theorem tw1960017507129070048:True:=⟨⟩
theorem tw16780147943314648657:True:=⟨⟩
theorem tw2285506370275351841:True:=⟨⟩
theorem tw5504390868642623745:True:=⟨⟩
theorem tw12796776627807069074:True:=⟨⟩
theorem tw2038288091546992479:True:=⟨⟩
theorem tw5526058820367371116:True:=⟨⟩
theorem tw15723804399694339324:True:=⟨⟩
theorem tw8547629308392998610:True:=⟨⟩
theorem tw9997344883660562411:True:=⟨⟩
theorem tw16150831136328899501:True:=⟨⟩
theorem tw6570878400602298119:True:=⟨⟩
theorem tw8789840202840975545:True:=⟨⟩
theorem tw5103128850442926095:True:=⟨⟩
theorem tw16519772157681528864:True:=⟨⟩
theorem tw16915341976388396720:True:=⟨⟩
theorem tw3725333554272257073:True:=⟨⟩
theorem tw14459361052661095638:True:=⟨⟩
theorem tw17790232200060230739:True:=⟨⟩
theorem tw17409943056540184381:True:=⟨⟩
theorem tw12707947627647172056:True:=⟨⟩
theorem tw12037758223071673343:True:=⟨⟩
theorem tw4445333099754741503:True:=⟨⟩
theorem tw8189634007403141582:True:=⟨⟩
theorem tw1984515526693068235:True:=⟨⟩
theorem tw2815653570662941631:True:=⟨⟩
theorem tw3916455086102660317:True:=⟨⟩
theorem tw1706078429225472938:True:=⟨⟩
theorem tw10520827439949485064:True:=⟨⟩
theorem tw10926775873099405446:True:=⟨⟩
theorem tw12422118665602113046:True:=⟨⟩
theorem tw1284573911172955914:True:=⟨⟩
theorem tw13886946962676240457:True:=⟨⟩
theorem tw650462736190435505:True:=⟨⟩
theorem tw16800686135376313285:True:=⟨⟩
theorem tw7646656737330799875:True:=⟨⟩
theorem tw15598457768606456995:True:=⟨⟩
theorem tw10491254734348908461:True:=⟨⟩
theorem tw3411302192541272256:True:=⟨⟩
theorem tw5715087327919829362:True:=⟨⟩
theorem tw853739431553881803:True:=⟨⟩
theorem tw4396402431320414372:True:=⟨⟩
theorem tw16057158480528126643:True:=⟨⟩
theorem tw14694228125332095015:True:=⟨⟩
theorem tw3781270359008592436:True:=⟨⟩
theorem tw13126593929288768116:True:=⟨⟩
theorem tw1076472125902765407:True:=⟨⟩
theorem tw10920257547598183766:True:=⟨⟩
theorem tw6176350537618829802:True:=⟨⟩
theorem tw5450670353839651521:True:=⟨⟩
theorem tw10135608531966607316:True:=⟨⟩
theorem tw5712586381479104944:True:=⟨⟩
theorem tw7948034937949937173:True:=⟨⟩
theorem tw14789664379914052155:True:=⟨⟩
theorem tw3906602832429462475:True:=⟨⟩
theorem tw16224519907834878468:True:=⟨⟩
theorem tw4944467891388815115:True:=⟨⟩
theorem tw4675538606952793818:True:=⟨⟩
theorem tw14663971652948934018:True:=⟨⟩
theorem tw9666661182380738716:True:=⟨⟩
theorem tw7306581783976498688:True:=⟨⟩
theorem tw2792298443231101093:True:=⟨⟩
theorem tw15529951008075078217:True:=⟨⟩
theorem tw18110284791726022530:True:=⟨⟩
theorem tw17290955185721207990:True:=⟨⟩
theorem tw15954600294635631815:True:=⟨⟩
theorem tw2534497839819230618:True:=⟨⟩
theorem tw1994271371409938961:True:=⟨⟩
theorem tw17150457912764515584:True:=⟨⟩
theorem tw12950837636308186076:True:=⟨⟩
theorem tw4189482680552284372:True:=⟨⟩
end PySem.W.Fast
open PySem PySem.W PyProof.Rows
set_option maxRecDepth 100000 in
set_option maxHeartbeats 0 in
theorem PySem.Challenge.cw_pastways_k42_whole_stretches_holds : PySem.Challenge.rw_pastways_k42_whole_stretches.Holds := by
 w_on;o_law;k_head;(case hw=>w_witness2)
 k_fill
 refine Sm.HE (F:=Lw.prog) (wh:=100000) (n:=60) (f:=22) (x:="_law_script") (l:=PySem.Challenge.rw_pastways_k42_whole_stretches) rfl rfl ⟨rfl,by decide,by decide⟩ (fun w h Y=>PySem.W.kIn_of Y) Lw.good ?F
 case F=>
  intro w mg fa h KX G hmg
  refine' Lw.all_mk KX G hmg ?a0 ?l0 ?c0 ?k0 ?a1 ?l1 ?c1 ?k1 ?a2 ?l2 ?c2 ?k2 ?a3 ?l3 ?c3 ?k3 ?a4 ?l4 ?c4 ?k4 ?a5 ?l5 ?c5 ?k5 ?a6 ?l6 ?c6 ?k6 ?a7 ?l7 ?c7 ?k7 ?a8 ?l8 ?c8 ?k8 ?a9 ?l9 ?c9 ?k9 ?Oq ?Ot ?Ou ?Gr ?Ov ?Ow ?Ox ?Gs ?Oz ?OA ?c12 ?Gu ?OB ?OC ?OD ?Gv ?OE ?OF ?OG ?Gw ?OH ?OI ?OJ ?Gx ?OL ?OM ?ON ?Gy ?OO ?OP ?OQ ?Gz ?OR ?OS ?OT ?GA ?OU ?OV ?OW ?GB ?OX ?OY ?OZ ?GC ?O0 ?O3 ?O4 ?GD ?GF ?O5 ?O6 ?GG ?z0 ?z1 ?z2 ?z3 ?z4 ?z5 ?z6 ?z7 ?q0
  (case a0=>k_is)
  (case l0=>k_is)
  (case c0=>k_is)
  (case k0=>k_is)
  (case a1=>k_is)
  (case l1=>k_is)
  (case c1=>k_is)
  (case k1=>k_is)
  (case a2=>k_is)
  (case l2=>k_is)
  (case c2=>k_is)
  (case k2=>k_is)
  (case a3=>k_is)
  (case l3=>k_is)
  (case c3=>k_is)
  (case k3=>k_is)
  (case a4=>k_is)
  (case l4=>k_is)
  (case c4=>k_is)
  (case k4=>k_is)
  (case a5=>k_is)
  (case l5=>k_is)
  (case c5=>k_is)
  (case k5=>k_is)
  (case a6=>k_is)
  (case l6=>k_is)
  (case c6=>k_is)
  (case k6=>k_is)
  (case a7=>k_is)
  (case l7=>k_is)
  (case c7=>k_is)
  (case k7=>k_is)
  (case a8=>k_is)
  (case l8=>k_is)
  (case c8=>k_is)
  (case k8=>k_is)
  (case a9=>k_is)
  (case l9=>k_is)
  (case c9=>k_is)
  (case k9=>k_is)
  (case Oq=>k_is)
  (case Ot=>k_is)
  (case Ou=>k_is)
  (case Gr=>k_is)
  (case Ov=>k_is)
  (case Ow=>k_is)
  (case Ox=>k_is)
  (case Gs=>k_is)
  (case Oz=>k_is)
  (case OA=>k_is)
  (case c12=>k_is)
  (case Gu=>k_is)
  (case OB=>k_is)
  (case OC=>k_is)
  (case OD=>k_is)
  (case Gv=>k_is)
  (case OE=>k_is)
  (case OF=>k_is)
  (case OG=>k_is)
  (case Gw=>k_is)
  (case OH=>k_is)
  (case OI=>k_is)
  (case OJ=>k_is)
  (case Gx=>k_is)
  (case OL=>k_is)
  (case OM=>k_is)
  (case ON=>k_is)
  (case Gy=>k_is)
  (case OO=>k_is)
  (case OP=>k_is)
  (case OQ=>k_is)
  (case Gz=>k_is)
  (case OR=>k_is)
  (case OS=>k_is)
  (case OT=>k_is)
  (case GA=>k_is)
  (case OU=>k_is)
  (case OV=>k_is)
  (case OW=>k_is)
  (case GB=>k_is)
  (case OX=>k_is)
  (case OY=>k_is)
  (case OZ=>k_is)
  (case GC=>k_is)
  (case O0=>k_is)
  (case O3=>k_is)
  (case O4=>k_is)
  (case GD=>k_is)
  (case GF=>k_is)
  (case O5=>k_is)
  (case O6=>k_is)
  (case GG=>k_is)
  (case z0=>k_is)
  (case z1=>k_is)
  (case z2=>k_is)
  (case z3=>k_is)
  (case z4=>k_is)
  (case z5=>k_is)
  (case z6=>k_is)
  (case z7=>k_is)
  (case q0=>k_is)

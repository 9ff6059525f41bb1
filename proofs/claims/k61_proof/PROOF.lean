import PyProof.Rows.All
import Wide.All
import OpenK.AllK
import Wide.FinOn
import Lean
import PyProof.EqAt
import PyProof.EqKinds
import PyProof.TupleCall
import PyProof.DictUpdate
import PyProof.NeKinds
import PyProof.StrLawsIn
import KE.KRevSl
import PyProof.ZipIter
import PyProof.ListRange
import PyProof.Rows.SortStr
import KE.KRevIter
import KE.KDictSum
import PyProof.EnumMake
import PyProof.EnumFor
import PySem.Challenge.RW_pastways_k61_whole_alike
set_option Elab.async false
set_option linter.all false
set_option maxRecDepth 100000
namespace L2
open PySem PySem.Spec PyProof.Rows
abbrev Key:=Sum Int Str
noncomputable def om:Key→Value→Bool
 | .inl k,v=>Value.isInt k v
 | .inr x,v=>Value.isStrOf x v
noncomputable def T7 (w:World):Key→Int
 | .inl k=>hashInt k
 | .inr x=>hashStr w x
theorem dw:∀ {k:Key}{v:Value},om k v=true→(∃ i t,k=Sum.inl i∧v=Value.int i t)∨(∃ x t,k=Sum.inr x∧v=Value.str x t)
 | .inl i,v,h=>by
  obtain ⟨t,e⟩:=Value.isInt_shape (k:=i) (v:=v) h
  exact .inl ⟨i,t,rfl,e⟩
 | .inr x,v,h=>by
  obtain ⟨t,e⟩:=Value.isStrOf_shape (x:=x) (v:=v) h
  exact .inr ⟨x,t,rfl,e⟩
theorem AF (i:Int) (t:Tok):om (.inl i) (.int i t)=true:=by simp [om,Value.isInt]
theorem AG (x:Str) (t:Tok):om (.inr x) (.str x t)=true:=by simp [om,Value.isStrOf]
theorem JH (a b:Int):decide ((Sum.inl a:Key)=Sum.inl b)=(a==b):=by
 by_cases e:a=b
 ·subst e;simp
 ·have h:¬ (Sum.inl a:Key)=Sum.inl b:=fun q=>e (Sum.inl.inj q)
  rw [decide_eq_false h]
  exact (beq_eq_false_iff_ne.mpr e).symm
theorem JJ (a b:Str):decide ((Sum.inr a:Key)=Sum.inr b)=decide (a=b):=by
 by_cases e:a=b
 ·subst e;simp
 ·have h:¬ (Sum.inr a:Key)=Sum.inr b:=fun q=>e (Sum.inr.inj q)
  rw [decide_eq_false h,decide_eq_false e]
theorem JK (a:Int) (b:Str):decide ((Sum.inl a:Key)=Sum.inr b)=false:=decide_eq_false (fun q=>nomatch q)
theorem JL (a:Str) (b:Int):decide ((Sum.inr a:Key)=Sum.inl b)=false:=decide_eq_false (fun q=>nomatch q)
noncomputable def cE (prog:Program) (w:World):PySem.KeyKind prog w Key where
 is:=om
 hash:=T7 w
 inj:=fun v a b ha hb=>by
  rcases dw ha with ⟨i,t,rfl,rfl⟩ | ⟨x,t,rfl,rfl⟩
  ·rcases dw hb with ⟨j,u,rfl,e⟩ | ⟨y,u,rfl,e⟩
   ·injection e with e1 _;rw [e1]
   ·exact nomatch e
  ·rcases dw hb with ⟨j,u,rfl,e⟩ | ⟨y,u,rfl,e⟩
   ·exact nomatch e
   ·injection e with e1 _;rw [e1]
 byValue:=fun k v h=>by
  rcases dw h with ⟨i,t,rfl,rfl⟩ | ⟨x,t,rfl,rfl⟩ <;> rfl
 pyHash:=fun hv h=>by
  rcases dw hv with ⟨i,t,rfl,rfl⟩ | ⟨x,t,rfl,rfl⟩
  ·exact wpAny_pyHash_int h
  ·exact wpAny_pyHash_str h
 eqBool:=fun hu hv h=>by
  rcases dw hu with ⟨i,t,rfl,rfl⟩ | ⟨x,t,rfl,rfl⟩
  ·rcases dw hv with ⟨j,u,rfl,rfl⟩ | ⟨y,u,rfl,rfl⟩
   ·rw [JH] at h;exact wpAny_eqBool_int h
   ·rw [JK] at h;exact SeqAt.EqAt.int_str i t y u _ _ _ _ h
  ·rcases dw hv with ⟨j,u,rfl,rfl⟩ | ⟨y,u,rfl,rfl⟩
   ·rw [JL] at h;exact SeqAt.EqAt.str_int x t j u _ _ _ _ h
   ·rw [JJ] at h;exact wpAny_eqBool_str h
 «strs»:=fun k x t v h=>by
  rcases dw h with ⟨i,u,rfl,e⟩ | ⟨y,u,rfl,e⟩
  ·exact nomatch e
  ·injection e with e1 _
   subst e1
   cases v <;> rfl
theorem wU (prog:Program) (w:World) (i:Int) (t:Tok):(cE prog w).is (.inl i) (.int i t)=true:=AF i t
theorem wV (prog:Program) (w:World) (x:Str) (t:Tok):(cE prog w).is (.inr x) (.str x t)=true:=AG x t
end L2
namespace L2
open PySem PySem.Spec PyProof.Rows
inductive V where
 | aP | bl (b:Bool) | int (i:Int) | str (x:Str) | AH (b:Array UInt8) | AI (b:UInt64) | ref (a:Addr) | ty (n:String)
 deriving DecidableEq
noncomputable def RelV:V→Value→Prop
 | .aP,u=>u=Value.none
 | .bl b,u=>u=Value.bool b
 | .int i,u=>∃ t,u=Value.int i t
 | .str x,u=>∃ t,u=Value.str x t
 | .AH b,u=>∃ t,u=Value.bytes b t
 | .AI b,u=>∃ t,u=Value.float b t
 | .ref a,u=>u=Value.ref a
 | .ty n,u=>u=Value.type n
abbrev Vals:List V→List Value→Prop:=Paired RelV
theorem Vals.length {xs:List V}{us:List Value}(r:Vals xs us):xs.length=us.length:=Paired.length r
theorem Vals.get:∀ {xs:List V}{us:List Value}{i:Nat}{x:V},Vals xs us→xs[i]?=some x→∃ u,us[i]?=some u∧RelV x u
 | _,_,_,_,.nil,e=>by simp at e
 | _,_,0,_,.cons r _,e=>by simp at e;subst e;exact ⟨_,rfl,r⟩
 | _,_,i+1,x,.cons _ t,e=>by
  obtain ⟨u,h1,h2⟩:=Vals.get (i:=i) (x:=x) t (by simpa using e)
  exact ⟨u,by simpa using h1,h2⟩
theorem Vals.append:∀ {xs ys:List V}{us ws:List Value},Vals xs us→Vals ys ws→Vals (xs++ys) (us++ws)
 | _,_,_,_,.nil,s=>s
 | _,_,_,_,.cons r t,s=>.cons r (Vals.append t s)
theorem Vals.take:∀ {xs:List V}{us:List Value}(n:Nat),Vals xs us→Vals (xs.take n) (us.take n)
 | _,_,0,_=>.nil
 | _,_,_+1,.nil=>.nil
 | _,_,n+1,.cons r t=>.cons r (Vals.take n t)
theorem Vals.drop:∀ {xs:List V}{us:List Value}(n:Nat),Vals xs us→Vals (xs.drop n) (us.drop n)
 | _,_,0,r=>r
 | _,_,_+1,.nil=>.nil
 | _,_,n+1,.cons _ t=>Vals.drop n t
noncomputable def jw:Option V→Option Value→Prop
 | some v,some u=>RelV v u
 | none,none=>True
 | _,_=>False
noncomputable def KV {κ:Type}:List (κ×V)→List (κ×Value)→Prop:=Paired fun (p:κ×V) (q:κ×Value)=>p.1=q.1∧RelV p.2 q.2
noncomputable def kV:Key→V
 | .inl i=>.int i
 | .inr x=>.str x
inductive HO where
 | lst (xs:List V)
 | tup (xs:List V)
 | dK (kvs:List (Key×V)) | dT (kvs:List (List Key×V))
 | set (S:Int→Bool) (n:Nat)
 | ins (C dx:Addr) (fs:List (Str×V))
 | own (x:Addr)
 | xd (fs:List (Str×V))
 | met (f x:Addr)
 | g8 (lo hi:Int)
 | bR (o:Obj) (u:HO)
 | uz (ps:Array Value)
 | ext (φ:Heap→Prop)
abbrev Hp:=Addr→Option HO
noncomputable def upd (H:Hp) (a:Addr) (o:HO):Hp:=fun b=>if b=a then some o else H b
theorem fR {H:Hp}{a:Addr}{o:HO}:upd H a o a=some o:=by unfold upd;rw [if_pos rfl]
theorem aT {H:Hp}{a b:Addr}{o:HO}(h:b≠a):upd H a o b=H b:=by unfold upd;rw [if_neg h]
theorem iD {H:Hp}{a b:Addr}{o u:HO}(h:H a=some o) (h':H b=some u) (d:o≠u):a≠b:=by
 intro e;subst e;rw [h] at h';exact d (Option.some.inj h')
theorem bF {H:Hp}{a b:Addr}{o:HO}(h:H a=some o) (h':H b=none):a≠b:=by
 intro e;subst e;rw [h] at h';cases h'
section
variable (P:Program)(w:World)
noncomputable def dF (H:Hp) (h:Heap) (a:Addr):HO→Prop
 | .lst xs=>xs.length≤sizeLine∧∃ (its:List Value) (n:Nat),Vals xs its∧h.get? a=some { cls:=.type "list",data:=.seq its.toArray n }
 | .tup xs=>xs.length≤sizeLine∧∃ its:List Value,Vals xs its∧IsTup h a its.toArray
 | .dK kvs=>kvs.length≤sizeLine∧(a==sysModules)=false∧∃ vs,KV kvs vs∧h.DictOf (cE P w) a vs
 | .dT kvs=>kvs.length≤sizeLine∧(a==sysModules)=false∧∃ xs:List (List Key×Addr×Value),
   Paired (fun (p:List Key×V) (q:List Key×Addr×Value)=>p.1=q.1∧H q.2.1=some (.tup (p.1.map kV))∧RelV p.2 q.2.2) kvs xs∧
   ∃ o es ep,h.get? a=some o∧o.ExactDict∧o.data=.dict es ep∧es.toList=xs.map (entryOfKey (tupleKind (cE P w)))∧(xs.map (·.1)).Nodup
 | .set S n=>h.SetOf (intKind P w) a S n
 | .ins C dx fs=>H dx=some (.own a)∧fs.length≤1000∧dx≠a∧h.get? a=some (PySem.W.instObj C dx)∧
   ∃ mA,h.Ns1 dx mA∧(∀ f,jw (fs.lookup f) (mA f))∧PySem.Within mA (fs.map (·.1))
 | .own _=>∃ o,h.get? a=some o
 | .xd fs=>∃ mA,h.Ns1 a mA∧∀ f,jw (fs.lookup f) (mA f)
 | .g8 lo hi=>∃ t u v,h.get? a=some { cls:=.type "range",data:=.fields #[.int lo t,.int hi u,.int 1 v]}
 | .bR o u=>h.get? a=some o∧dF H h a u
 | .uz ps=>h.get? a=some { cls:=.none,data:=.fields ps }
 | .met f x=>h.get? a=some (PySem.W.methodObj (.ref f) (.ref x))
 | .ext φ=>φ h∧(∃ o,h.get? a=some o)∧∀ h1 h2:Heap,φ h1→(∀ o,h1.get? a=some o→h2.get? a=some o)→φ h2
noncomputable def eS (H:Hp) (h:Heap):Prop:=∀ a o,H a=some o→dF P w H h a o
end
section
variable {P:Program}{w:World}{H H':Hp}{h h':Heap}{a:Addr}{o:HO}
theorem dF.lt (x:dF P w H h a o):a<h.objs.size:=by
 cases o with
 | lst xs=>obtain ⟨_,_,_,_,e⟩:=x;exact Heap.lt_size e
 | tup xs=>obtain ⟨_,_,_,p⟩:=x;exact p.lt
 | dK kvs=>obtain ⟨_,_,_,_,o,_,_,e,_⟩:=x;exact Heap.lt_size e
 | dT kvs=>obtain ⟨_,_,_,_,o,_,_,e,_⟩:=x;exact Heap.lt_size e
 | set S n=>obtain ⟨o,_,_,_,e,_⟩:=x;exact Heap.lt_size e
 | ins C dx fs=>obtain ⟨_,_,_,e,_⟩:=x;exact Heap.lt_size e
 | own y=>obtain ⟨_,e⟩:=x;exact Heap.lt_size e
 | xd fs=>obtain ⟨_,⟨_,_,_,e,_⟩,_⟩:=x;exact Heap.lt_size e
 | g8 lo hi=>obtain ⟨_,_,_,e⟩:=x;exact Heap.lt_size e
 | bR ob u=>obtain ⟨e,_⟩:=x;exact Heap.lt_size e
 | uz ps=>exact Heap.lt_size (show h.get? a=some _ from x)
 | met f y=>exact Heap.lt_size (show h.get? a=some _ from x)
 | ext φ=>obtain ⟨_,⟨_,e⟩,_⟩:=x;exact Heap.lt_size e
theorem Paired.CW {α β:Type}{F G:α→β→Prop}:∀ {l₁:List α}{l₂:List β},Paired F l₁ l₂→(∀ a b,F a b→G a b)→Paired G l₁ l₂
 | _,_,.nil,_=>.nil
 | _,_,.cons r t,f=>.cons (f _ _ r) (Paired.CW t f)
theorem dF.stay (x:dF P w H h a o) (k:∀ b u,(b=a∨H b=some (.own a))→h.get? b=some u→h'.get? b=some u)
  (ho:∀ b,H b=some (.own a)→H' b=some (.own a)) (ht:∀ b xs,H b=some (.tup xs)→H' b=some (.tup xs)):dF P w H' h' a o:=by
 induction o with
 | lst xs=>obtain ⟨z,its,n,r,e⟩:=x;exact ⟨z,its,n,r,k _ _ (.inl rfl) e⟩
 | tup xs=>obtain ⟨z,its,r,ob,e,c⟩:=x;exact ⟨z,its,r,ob,k _ _ (.inl rfl) e,c⟩
 | dK kvs=>obtain ⟨z,y,vs,r,ob,es,ep,e,c⟩:=x;exact ⟨z,y,vs,r,ob,es,ep,k _ _ (.inl rfl) e,c⟩
 | dT kvs=>
  obtain ⟨z,y,xs,r,ob,es,ep,e,c⟩:=x
  exact ⟨z,y,xs,Paired.CW r fun p q z=>⟨z.1,ht _ _ z.2.1,z.2.2⟩,ob,es,ep,k _ _ (.inl rfl) e,c⟩
 | set S n=>obtain ⟨ob,es,ep,t,e,c⟩:=x;exact ⟨ob,es,ep,t,k _ _ (.inl rfl) e,c⟩
 | ins C dx fs=>
  obtain ⟨d,z,ne,e,mA,⟨od,es,ep,e2,c⟩,r⟩:=x
  exact ⟨ho _ d,z,ne,k _ _ (.inl rfl) e,mA,⟨od,es,ep,k _ _ (.inr d) e2,c⟩,r⟩
 | own y=>obtain ⟨ob,e⟩:=x;exact ⟨ob,k _ _ (.inl rfl) e⟩
 | xd fs=>obtain ⟨mA,⟨od,es,ep,e,c⟩,r⟩:=x;exact ⟨mA,⟨od,es,ep,k _ _ (.inl rfl) e,c⟩,r⟩
 | g8 lo hi=>obtain ⟨t,u,v,e⟩:=x;exact ⟨t,u,v,k _ _ (.inl rfl) e⟩
 | bR ob u ih=>obtain ⟨e,q⟩:=x;exact ⟨k _ _ (.inl rfl) e,ih q⟩
 | uz ps=>
  have e:h.get? a=some { cls:=.none,data:=.fields ps }:=x
  show h'.get? a=some { cls:=.none,data:=.fields ps }
  exact k a _ (.inl rfl) e
 | met f y=>
  have e:h.get? a=some (PySem.W.methodObj (.ref f) (.ref y)):=x
  show h'.get? a=some (PySem.W.methodObj (.ref f) (.ref y))
  exact k a _ (.inl rfl) e
 | ext φ=>obtain ⟨p,⟨o,e⟩,st⟩:=x;exact ⟨st _ _ p fun o q=>k _ _ (.inl rfl) q,⟨o,k _ _ (.inl rfl) e⟩,st⟩
theorem eS.lt (x:eS P w H h) (e:H a=some o):a<h.objs.size:=(x a o e).lt
theorem eS.fresh (x:eS P w H h) (e:h.objs.size≤a):H a=none:=by
 cases q:H a with
 | none=>rfl
 | some u=>exact absurd (Nat.lt_of_lt_of_le (x.lt q) e) (Nat.lt_irrefl _)
theorem eS.kept (x:eS P w H h) (k:∀ b u,h.get? b=some u→h'.get? b=some u):eS P w H h':=fun a o e=>
 (x a o e).stay (fun b u _ q=>k b u q) (fun _ q=>q) fun _ _ q=>q
theorem eS.laid (x:eS P w H h) (k:∀ b u,h.get? b=some u→h'.get? b=some u) (hp:h.objs.size≤a) (new:dF P w (upd H a o) h' a o):eS P w (upd H a o) h':=fun b u e=>by
 have hn:=x.fresh hp
 by_cases hb:b=a
 ·subst hb;rw [fR] at e;cases e;exact new
 ·rw [aT hb] at e
  exact (x b u e).stay (fun c v _ q=>k c v q) (fun c q=>by rw [aT (bF q hn)];exact q) fun c xs q=>by rw [aT (bF q hn)];exact q
end
noncomputable def Rd (H:Hp) (a:Addr) (u:HO):Prop:=H a=some u∨∃ o,H a=some (.bR o u)
theorem Rd.ok {P:Program}{w:World}{H:Hp}{h:Heap}{a:Addr}{u:HO}(r:Rd H a u) (x:eS P w H h):dF P w H h a u:=by
 rcases r with r | ⟨o,r⟩
 ·exact x a u r
 ·obtain ⟨_,q⟩:=x a _ r
  exact q
noncomputable def AJ:Option HO→Prop
 | some (.lst _)=>True
 | some (.dK _)=>True
 | some (.dT _)=>True
 | some (.set _ _)=>True
 | some (.ins _ _ _)=>True
 | some (.ext _)=>True
 | _=>False
section
variable {P:Program}{w:World}{H:Hp}{h h':Heap}{x e:Addr}{o':HO}
theorem eS.write (ok:eS P w H h) (mu:AJ (H x)) (he:e=x∨H e=some (.own x)) (k:∀ b u,b≠e→h.get? b=some u→h'.get? b=some u) (xF:∃ u,h'.get? e=some u)
  (new:dF P w (upd H x o') h' x o'):eS P w (upd H x o') h':=fun b u q=>by
 have JM:∀ c y,H c=some (.own y)→c≠x:=fun c y r z=>by subst z;rw [r] at mu;exact mu
 have T8:∀ c xs,H c=some (.tup xs)→c≠x:=fun c xs r z=>by subst z;rw [r] at mu;exact mu
 by_cases hb:b=x
 ·subst hb;rw [fR] at q;cases q;exact new
 ·rw [aT hb] at q
  by_cases uA:b=e
  ·have q':H b=some (.own x):=by
    rcases he with z | z
    ·exact absurd (uA.trans z) hb
    ·rw [uA];exact z
   rw [q] at q';cases q'
   obtain ⟨v,hv⟩:=xF
   exact ⟨v,by rw [uA];exact hv⟩
  ·refine (ok b u q).stay (fun c v hc r=>k c v ?_ r) (fun c r=>by rw [aT (JM c b r)];exact r) fun c xs r=>by rw [aT (T8 c xs r)];exact r
   rcases hc with rfl | hc
   ·exact uA
   ·rintro rfl
    rcases he with z | z
    ·exact JM c b hc z
    ·rw [hc] at z;cases z;exact hb rfl
end
structure Un (fs ex:List Addr) (H H':Hp) (h h':Heap):Prop where
 keep:∀ b o,h.get? b=some o→H b=none→b∉fs→b∉ex→h'.get? b=some o
 slot:∀ b o,h.get? b=some o→H b=none→b∈fs→b∉ex→∃ sl,h'.get? b=some { o with slots:=sl }
 free:∀ b o,h.get? b=some o→H b=none→b∉ex→H' b=none
 there:∀ b o,h.get? b=some o→b∉ex→∃ o',h'.get? b=some o'
 tups:∀ b xs,H b=some (.tup xs)→H' b=some (.tup xs)
 lM:∀ b o u,H b=some (.bR o u)→H' b=some (.bR o u)
 mS:∀ b ps,H b=some (.uz ps)→∃ more,H' b=some (.uz (ps++more))
section
variable {fs fs' ex ex':List Addr}{H H1 H2:Hp}{h h1 h2 h':Heap}{a x e:Addr}{o:HO}
theorem Un.any (u:Un fs ex H H1 h h1) {b:Addr}{ob:Obj}(q:h.get? b=some ob) (n:H b=none) (hx:b∉ex):∃ sl,h1.get? b=some { ob with slots:=sl }:=by
 by_cases hb:b∈fs
 ·exact u.slot b ob q n hb hx
 ·exact ⟨ob.slots,u.keep b ob q n hb hx⟩
theorem Un.kept (k:∀ b u,h.get? b=some u→h'.get? b=some u):Un fs ex H H h h':=
 ⟨fun b ob q _ _ _=>k b ob q,fun b ob q _ _ _=>⟨ob.slots,k b ob q⟩,fun _ _ _ n _=>n,fun b ob q _=>⟨ob,k b ob q⟩,fun _ _ q=>q,fun _ _ _ q=>q,fun _ ps q=>⟨#[],by rw [q];simp⟩⟩
theorem Un.refl:Un fs ex H H h h:=Un.kept fun _ _ q=>q
theorem Un.laid (k:∀ b u,h.get? b=some u→h'.get? b=some u) (hp:h.objs.size≤a) (hn:H a=none):Un fs ex H (upd H a o) h h' where
 keep:=fun b u q _ _ _=>k b u q
 slot:=fun b u q _ _ _=>⟨u.slots,k b u q⟩
 free:=fun b u q n _=>by rw [aT (Nat.ne_of_lt (Nat.lt_of_lt_of_le (Heap.lt_size q) hp))];exact n
 there:=fun b u q _=>⟨u,k b u q⟩
 tups:=fun b xs q=>by rw [aT (bF q hn)];exact q
 lM:=fun b u xs q=>by rw [aT (bF q hn)];exact q
 mS:=fun b ps q=>⟨#[],by rw [aT (bF q hn),q];simp⟩
theorem Un.write (mu:AJ (H x)) (he:e=x∨H e=some (.own x)) (k:∀ b u,b≠e→h.get? b=some u→h'.get? b=some u) (xF:∃ u,h'.get? e=some u):Un fs ex H (upd H x o) h h':=by
 have hx:∀ b,H b=none→b≠x:=fun b n z=>by subst z;rw [n] at mu;exact mu
 have hb:∀ b,H b=none→b≠e:=fun b n z=>by
  subst z
  rcases he with r | r
  ·exact hx b n r
  ·rw [n] at r;cases r
 have hm:∀ b u,H b=some u→¬ AJ (some u)→b≠x:=fun b u q nm z=>by subst z;rw [q] at mu;exact nm mu
 refine ⟨fun b u q n _ _=>k b u (hb b n) q,fun b u q n _ _=>⟨u.slots,k b u (hb b n) q⟩,fun b u q n _=>by rw [aT (hx b n)];exact n,fun b u q _=>?_,
  fun b xs q=>by rw [aT (hm b _ q fun z=>z)];exact q,fun b u xs q=>by rw [aT (hm b _ q fun z=>z)];exact q,fun b ps q=>⟨#[],by rw [aT (hm b _ q fun z=>z),q];simp⟩⟩
 by_cases uA:b=e
 ·subst uA;exact xF
 ·exact ⟨u,k b u uA q⟩
end
noncomputable def Ft (h:Heap) (H:Hp):List Addr:=(List.range h.objs.size).filter fun a=>(H a).isSome
noncomputable def lN (h:Heap) (H:Hp):Heap:=PySem.W.hideAll h (Ft h H)
theorem AK (h:Heap) (H:Hp):(lN h H).objs.size=h.objs.size:=PySem.W.hideAll_size _ _
theorem CY {h:Heap}{H:Hp}{b:Addr}{o:Obj}(e:h.get? b=some o) (n:H b=none):(lN h H).get? b=some o:=
 PySem.W.hideAll_get _ e fun hm=>by
  have q:(H b).isSome=true:=(List.mem_filter.mp hm).2
  rw [n] at q;simp at q
theorem G7 {h:Heap}{H:Hp}{b:Addr}{o:Obj}(e:(lN h H).get? b=some o):h.get? b=some o∧H b=none:=by
 have e':h.get? b=some o:=PySem.W.of_hideAll (Ft h H) e
 refine ⟨e',?_⟩
 cases q:H b with
 | none=>rfl
 | some x=>
  have hm:b∈Ft h H:=List.mem_filter.mpr ⟨List.mem_range.mpr (Heap.lt_size e'),by simp [q]⟩
  have z:(lN h H).get? b=none:=PySem.W.hideAll_none (Ft h H) hm
  rw [z] at e;cases e
noncomputable def G8 (g h:Heap) (L:Addr):List (Addr×Obj):=(List.range h.objs.size).filterMap fun a=>if a=L∨(g.get? a).isSome=true then none else (h.get? a).map fun o=>(a,o)
noncomputable def rest (g h:Heap) (L d:Addr):List (Addr×Obj):=(G8 g h L).filter fun p=>decide (p.1≠d)
end L2
namespace L2
open PySem PySem.Spec PyProof.Rows
structure Mod (K:PySem.W.Frag) (mg:Str→Option Value) (base:Heap):Prop where
 Fv:K.In base
 glob:base.Ns mainGlobals mg
 blt:∃ mb,base.Ns builtinsNs mb∧∀ x:Str,x≠"__name__" →mb x=bootBuiltins x
 nolimit:base.NoLimit
structure Cx where
 prog:Program
 w:World
 K:PySem.W.Frag
 mg:Str→Option Value
 base:Heap
 A:Around
 N:List Str
 s₀:Shared
 H₀:Hp
 env:Env
 outer:List Env
 stack:List Env
 ex:List Addr
 fn:Str→Bool
 calm:Bool
 pn:List (Addr×Obj)
 xe:Value→Shared→Prop
noncomputable def frs (l:List Env):List Addr:=l.filterMap (·.frame)
noncomputable abbrev Cx.fs (X:Cx):List Addr:=frs X.outer
noncomputable def AL (sc:Scope) (x:Str):Prop:=sc.names.lookup x=some .local∨sc.names.lookup x=some .cell∨sc.names.lookup x=some .free
noncomputable def Loc (sc:Scope) (x:Str):Prop:=sc.names.lookup x=some .local∨sc.names.lookup x=some .cell
noncomputable def Look (env:Env) (h:Heap) (m:Str→Option Value) (x:Str) (u:Value):Prop:=
 (env.kindOf x=some .local∧m x=some u)∨((env.kindOf x=some .cell∨env.kindOf x=some .free)∧∃ c,env.cells.lookup x=some c∧h.IsCell c (some u))
structure Cx.Ok (X:Cx):Prop where
 mod:Mod X.K X.mg X.base
 kind:X.env.scope.kind=.function
 glob:X.env.globals=mainGlobals
 blt:X.env.builtins=builtinsNs
 above:X.s₀.heap.objs.size≤X.env.locals
 inj:∀ x y c,X.env.cells.lookup x=some c→X.env.cells.lookup y=some c→x=y
 has:∀ x,(X.env.kindOf x=some .cell∨X.env.kindOf x=some .free)→∃ c,X.env.cells.lookup x=some c
 xG:∀ x c,X.fn x=true→X.env.cells.lookup x=some c→X.s₀.heap.objs.size≤c
 hd:X.calm=true→X.A.handled=none
 frames:X.A.frames=some X.stack
 stk:X.stack=X.outer∨(X.stack=X.env :: X.outer∧X.env.frame=some X.env.locals)
 Fx:∀ b∈X.ex,b≠X.env.locals∧∀ x c,X.env.cells.lookup x=some c→c≠b
 bs:∀ b o,X.base.get? b=some o→X.s₀.heap.get? b=some o∧X.H₀ b=none
 sF:X.base.objs.size≤X.s₀.heap.objs.size
 rj:∀ b o,X.base.get? b=some o→b∉X.ex
 rm:∀ b∈X.ex,b∉X.fs
 jx:X.s₀.heap.FunFrames X.base X.outer
 uB:∀ b∈X.fs,X.H₀ b=none
structure Inv (X:Cx) (pins:List (Addr×Obj)) (σ:List (Option V)) (H:Hp) (s:Shared):Prop where
 ok:X.Ok
 os:s.os=X.s₀.os
 bare:AllBare s.gens
 base:Un X.fs X.ex X.H₀ H X.s₀.heap s.heap
 loc:∃ m,s.heap.Ns X.env.locals m∧∀ (i:Nat) (x:Str) (v:V),X.N[i]?=some x→σ[i]?=some (some v)→AL X.env.scope x→∃ u,RelV v u∧Look X.env s.heap m x u
 cell:∀ x c,X.env.cells.lookup x=some c→∃ v,s.heap.IsCell c v
 free:H X.env.locals=none
 jc:∀ x c,X.env.cells.lookup x=some c→H c=none
 pin:∀ p∈X.pn++pins,s.heap.get? p.1=some p.2∧H p.1=none∧p.1≠X.env.locals∧p.1∉X.fs∧∀ v,p.2.data≠.cell v
 hok:eS X.prog X.w H s.heap
 len:σ.length=X.N.length
section
variable {X:Cx}{pins:List (Addr×Obj)}{σ:List (Option V)}{H H':Hp}{s:Shared}{h':Heap}
theorem Cx.Ok.T9 (ok:X.Ok) {b:Addr}{o:Obj}(e:X.base.get? b=some o):b∉X.fs:=fun hb=>by
 have:=(ok.jx.mem hb).1
 rw [e] at this;cases this
theorem Inv.bs (I:Inv X pins σ H s):∀ b o,X.base.get? b=some o→s.heap.get? b=some o∧H b=none:=fun b o e=>
 ⟨I.base.keep b o (I.ok.bs b o e).1 (I.ok.bs b o e).2 (I.ok.T9 e) (I.ok.rj b o e),I.base.free b o (I.ok.bs b o e).1 (I.ok.bs b o e).2 (I.ok.rj b o e)⟩
theorem Inv.bk (I:Inv X pins σ H s):∀ b o,X.base.get? b=some o→s.heap.get? b=some o:=fun b o e=>(I.bs b o e).1
theorem Inv.mod (I:Inv X pins σ H s):Mod X.K X.mg X.base:=I.ok.mod
theorem Inv.sG (I:Inv X pins σ H s):X.K.In s.heap:=I.ok.mod.Fv.keeps I.bk
theorem Inv.lt (I:Inv X pins σ H s):X.env.locals<s.heap.objs.size:=let ⟨_,hn,_⟩:=I.loc;hn.lt
theorem Inv.sz (I:Inv X pins σ H s):X.s₀.heap.objs.size≤s.heap.objs.size:=Nat.le_trans I.ok.above (Nat.le_of_lt I.lt)
theorem Inv.Ua (I:Inv X pins σ H s) {a:Addr}(h:s.heap.objs.size≤a):a∉X.fs:=fun hb=>by
 obtain ⟨_,o,ho,_⟩:=I.ok.jx.mem hb
 exact absurd (Nat.lt_of_lt_of_le (Heap.lt_size ho) (Nat.le_trans I.sz h)) (Nat.lt_irrefl _)
theorem Inv.uC (I:Inv X pins σ H s):∀ x c,X.env.cells.lookup x=some c→c≠X.env.locals:=fun x c e z=>by
 obtain ⟨v,o,ho,hd⟩:=I.cell x c e
 obtain ⟨m,⟨o',es,ep,ho',hd',_⟩,_⟩:=I.loc
 rw [z,ho'] at ho;cases ho;rw [hd'] at hd;cases hd
theorem Inv.jx (I:Inv X pins σ H s):s.heap.FunFrames X.base X.outer:=by
 have all:∀ (l:List Env),(∀ b∈frs l,b∈X.fs)→X.s₀.heap.FunFrames X.base l→s.heap.FunFrames X.base l:=by
  intro l
  induction l with
  | nil=>intro _ _;trivial
  | cons env r ih=>
   intro hs hl
   obtain ⟨hk,⟨L,o,hf,hn,ho,hd⟩,hr⟩:=hl
   have hL:L∈X.fs:=hs L (by unfold frs;rw [List.filterMap_cons,hf];exact List.mem_cons_self)
   obtain ⟨sl,e⟩:=I.base.slot L o ho (I.ok.uB L hL) hL fun z=>I.ok.rm L z hL
   exact ⟨hk,⟨L,_,hf,hn,e,hd⟩,ih (fun b hb=>hs b (by unfold frs;rw [List.filterMap_cons,hf];exact List.mem_cons_of_mem _ hb)) hr⟩
 exact all X.outer (fun _ hb=>hb) I.ok.jx
theorem Inv.stack (I:Inv X pins σ H s):s.heap.FunFrames X.base X.stack:=by
 rcases I.ok.stk with e | ⟨e,hf⟩
 ·rw [e];exact I.jx
 ·rw [e]
  obtain ⟨m,hn,_⟩:=I.loc
  refine .cons (by rw [I.ok.kind];decide) hf hn ?_ I.jx
  exact Heap.get?_none_of_le (Nat.le_trans I.ok.sF I.ok.above)
theorem Inv.uD (I:Inv X pins σ H s):∀ b∈frs X.stack,b∈X.env.locals :: X.fs:=fun b hb=>by
 rcases I.ok.stk with e | ⟨e,hf⟩
 ·rw [e] at hb;exact List.mem_cons_of_mem _ hb
 ·rw [e] at hb
  unfold frs at hb
  rw [List.filterMap_cons,hf] at hb
  exact hb
theorem Inv.xH (I:Inv X pins σ H s):∀ b∈frs X.stack,H b=none:=fun b hb=>by
 rcases List.mem_cons.mp (I.uD b hb) with e | hb
 ·rw [e];exact I.free
 ·obtain ⟨_,o,ho,_⟩:=I.ok.jx.mem hb
  exact I.base.free b o ho (I.ok.uB b hb) fun z=>I.ok.rm b z hb
theorem Inv.step {g':Array GenState}{t':Nat}{d':Drawn}{ch:List Addr}(I:Inv X pins σ H s)
  (hch:∀ b∈ch,(b∈X.ex∨X.s₀.heap.objs.size≤b)∧b≠X.env.locals∧(∀ x c,X.env.cells.lookup x=some c→c≠b)∧∀ p∈X.pn++pins,p.1≠b)
  (keep:∀ b o,b≠X.env.locals→b∉X.fs→b∉ch→s.heap.get? b=some o→H b=none→h'.get? b=some o)
  (slot:∀ b o,b≠X.env.locals→b∈X.fs→b∉ch→s.heap.get? b=some o→H b=none→∃ sl,h'.get? b=some { o with slots:=sl }) (free:∀ b o,b∉ch→s.heap.get? b=some o→H b=none→H' b=none)
  (there:∀ b o,b∉ch→s.heap.get? b=some o→∃ o',h'.get? b=some o')
  (tups:∀ b xs,H b=some (.tup xs)→H' b=some (.tup xs)) (lM:∀ b o u,H b=some (.bR o u)→H' b=some (.bR o u)) (mS:∀ b ps,H b=some (.uz ps)→∃ more,H' b=some (.uz (ps++more)))
  (ns:∀ m,s.heap.Ns X.env.locals m→h'.Ns X.env.locals m) (hok:eS X.prog X.w H' h') (hg:AllBare g') :
  Inv X pins σ H' { s with heap:=h',gens:=g',drawn:=d',toks:=t' }:=by
 have Q6:∀ b o,X.s₀.heap.get? b=some o→b≠X.env.locals:=fun b o e=>Nat.ne_of_lt (Nat.lt_of_lt_of_le (Heap.lt_size e) I.ok.above)
 have Fy:∀ b o,X.s₀.heap.get? b=some o→b∉X.ex→b∉ch:=fun b o e hx hb=>by
  rcases (hch b hb).1 with z | z
  ·exact hx z
  ·exact absurd (Nat.lt_of_lt_of_le (Heap.lt_size e) z) (Nat.lt_irrefl _)
 have cellK:∀ x c,X.env.cells.lookup x=some c→∀ v,s.heap.IsCell c v→h'.IsCell c v:=fun x c e v ⟨o,ho,hd⟩=>by
  have AM:c∉ch:=fun z=>(hch c z).2.2.1 x c e rfl
  by_cases hc:c∈X.fs
  ·obtain ⟨sl,q⟩:=slot c o (I.uC x c e) hc AM ho (I.jc x c e)
   exact ⟨_,q,hd⟩
  ·exact ⟨o,keep c o (I.uC x c e) hc AM ho (I.jc x c e),hd⟩
 refine ⟨I.ok,I.os,hg,⟨fun b o e n hb hx=>?_,fun b o e n hb hx=>?_,fun b o e n hx=>?_,fun b o e hx=>?_,fun b xs e=>tups b xs (I.base.tups b xs e),fun b o xs e=>lM b o xs (I.base.lM b o xs e),fun b ps e=>?_⟩,?_,fun x c e=>?_,?_,fun x c e=>?_,fun p hp=>?_,hok,I.len⟩
 ·exact keep b o (Q6 b o e) hb (Fy b o e hx) (I.base.keep b o e n hb hx) (I.base.free b o e n hx)
 ·obtain ⟨sl,e1⟩:=I.base.slot b o e n hb hx
  obtain ⟨VQ,e2⟩:=slot b _ (Q6 b o e) hb (Fy b o e hx) e1 (I.base.free b o e n hx)
  exact ⟨VQ,e2⟩
 ·obtain ⟨o',e1⟩:=I.base.there b o e hx
  exact free b o' (Fy b o e hx) e1 (I.base.free b o e n hx)
 ·obtain ⟨o',e1⟩:=I.base.there b o e hx
  exact there b o' (Fy b o e hx) e1
 ·obtain ⟨m1,e1⟩:=I.base.mS b ps e
  obtain ⟨m2,e2⟩:=mS b _ e1
  exact ⟨m1++m2,by rw [e2,Array.append_assoc]⟩
 ·obtain ⟨m,hn,hl⟩:=I.loc
  refine ⟨m,ns m hn,fun i x v e1 e2 e3=>?_⟩
  obtain ⟨u,r,l⟩:=hl i x v e1 e2 e3
  refine ⟨u,r,?_⟩
  rcases l with l | ⟨k,c,e,z⟩
  ·exact .inl l
  ·exact .inr ⟨k,c,e,cellK x c e _ z⟩
 ·obtain ⟨v,z⟩:=I.cell x c e
  exact ⟨v,cellK x c e v z⟩
 ·obtain ⟨m,⟨o,_,_,ho,_⟩,_⟩:=I.loc
  exact free _ o (fun z=>(hch _ z).2.1 rfl) ho I.free
 ·obtain ⟨v,o,ho,hd⟩:=I.cell x c e
  exact free c o (fun z=>(hch c z).2.2.1 x c e rfl) ho (I.jc x c e)
 ·obtain ⟨e,n,ne,nf,d⟩:=I.pin p hp
  have AM:p.1∉ch:=fun z=>(hch p.1 z).2.2.2 p hp rfl
  exact ⟨keep p.1 p.2 ne nf AM e n,free p.1 p.2 AM e n,ne,nf,d⟩
theorem Inv.un {t':Nat}(I:Inv X pins σ H s) (u:Un X.fs [] H H' s.heap h') (hok:eS X.prog X.w H' h'):Inv X pins σ H' { s with heap:=h',toks:=t' }:=by
 obtain ⟨m,⟨o,es,ep,ho,r⟩,_⟩:=id I.loc
 obtain ⟨sl,hL⟩:=u.any ho I.free (by simp)
 exact I.step (g':=s.gens) (d':=s.drawn) (ch:=[]) (fun _ z=>nomatch z) (fun b o _ hb _ e n=>u.keep b o e n hb (by simp)) (fun b o _ hb _ e n=>u.slot b o e n hb (by simp)) (fun b o _ e n=>u.free b o e n (by simp)) (fun b o _ e=>u.there b o e (by simp)) u.tups u.lM u.mS (fun m' hm=>by
  obtain ⟨o',es',JN,ho',r'⟩:=hm
  rw [ho] at ho';cases ho'
  exact ⟨_,es',JN,hL,r'⟩) hok I.bare
theorem Inv.call {g':Array GenState}{t':Nat}{d':Drawn}{ch:List Addr}(I:Inv X pins σ H s) (u:Un (frs X.stack) ch H H' s.heap h') (hok:eS X.prog X.w H' h') (hg:AllBare g')
  (hch:∀ b∈ch,(b∈X.ex∨X.s₀.heap.objs.size≤b)∧b≠X.env.locals∧(∀ x c,X.env.cells.lookup x=some c→c≠b)∧∀ p∈X.pn++pins,p.1≠b) :
  Inv X pins σ H' { s with heap:=h',gens:=g',drawn:=d',toks:=t' }:=by
 obtain ⟨m,⟨o,es,ep,ho,r⟩,_⟩:=id I.loc
 obtain ⟨sl,hL⟩:=u.any ho I.free fun z=>(hch _ z).2.1 rfl
 exact I.step (ch:=ch) hch (fun b o hL hb hc e n=>u.keep b o e n (fun z=>(List.mem_cons.mp (I.uD b z)).elim hL hb) hc) (fun b o _ _ hc e n=>u.any e n hc) (fun b o hc e n=>u.free b o e n hc) (fun b o hc e=>u.there b o e hc) u.tups u.lM u.mS (fun m' hm=>by
  obtain ⟨o',es',JN,ho',r'⟩:=hm
  rw [ho] at ho';cases ho'
  exact ⟨_,es',JN,hL,r'⟩) hok hg
theorem Inv.turned {t':Nat}{it:Addr}(I:Inv X pins σ H s)(k:∀ b o,b≠it→s.heap.get? b=some o→h'.get? b=some o)(hn:H it=none)(hL:it≠X.env.locals)
  (h1:it∈X.ex∨X.s₀.heap.objs.size≤it) (h2:∀ x c,X.env.cells.lookup x=some c→c≠it) (h3:∀ p∈X.pn++pins,p.1≠it):Inv X pins σ H { s with heap:=h',toks:=t' }:=by
 have Q7:∀ b u,H b=some u→b≠it:=fun b u e z=>by rw [z,hn] at e;cases e
 refine I.step (g':=s.gens) (d':=s.drawn) (ch:=[it]) (fun b hb=>?_) (fun b o _ _ hc e _=>k b o (fun z=>hc (by simp [z])) e) (fun b o _ _ hc e _=>⟨o.slots,k b o (fun z=>hc (by simp [z])) e⟩) (fun _ _ _ _ n=>n)
  (fun b o hc e=>⟨o,k b o (fun z=>hc (by simp [z])) e⟩) (fun _ _ e=>e) (fun _ _ _ e=>e) (fun b ps e=>⟨#[],by rw [e];simp⟩) (fun m hm=>?_) (fun b u e=>?_) I.bare
 ·have e:b=it:=by simpa using hb
  subst e
  exact ⟨h1,hL,h2,h3⟩
 ·obtain ⟨o,es,ep,ho,r⟩:=hm
  exact ⟨o,es,ep,k _ o (Ne.symm hL) ho,r⟩
 ·refine (I.hok b u e).stay (fun c v hc q=>k c v ?_ q) (fun _ q=>q) fun _ _ q=>q
  rcases hc with z | z
  ·rw [z];exact Q7 b u e
  ·exact Q7 c _ z
theorem Inv.tok (I:Inv X pins σ H s) (t:Nat):Inv X pins σ H { s with toks:=t }:=I.un (h':=s.heap) (t':=t) Un.refl I.hok
theorem Inv.kept {t':Nat}(I:Inv X pins σ H s) (k:∀ b u,s.heap.get? b=some u→h'.get? b=some u):Inv X pins σ H { s with heap:=h',toks:=t' }:=I.un (Un.kept k) (I.hok.kept k)
theorem Inv.laid {a:Addr}{o:HO}{t':Nat}(I:Inv X pins σ H s) (k:∀ b u,s.heap.get? b=some u→h'.get? b=some u) (hp:s.heap.objs.size≤a) (new:dF X.prog X.w (upd H a o) h' a o) :
  Inv X pins σ (upd H a o) { s with heap:=h',toks:=t' }:=I.un (Un.laid k hp (I.hok.fresh hp)) (I.hok.laid k hp new)
theorem Inv.write {x e:Addr}{o:HO}{t':Nat}(I:Inv X pins σ H s) (mu:AJ (H x)) (he:e=x∨H e=some (.own x)) (k:∀ b u,b≠e→s.heap.get? b=some u→h'.get? b=some u) (xF:∃ u,h'.get? e=some u)
  (new:dF X.prog X.w (upd H x o) h' x o):Inv X pins σ (upd H x o) { s with heap:=h',toks:=t' }:=I.un (Un.write mu he k xF) (I.hok.write mu he k xF new)
theorem Inv.xJ {Fz:List (Addr×Obj)}(I:Inv X pins σ H s) (h:∀ p∈Fz,s.heap.get? p.1=some p.2∧H p.1=none∧p.1≠X.env.locals∧p.1∉X.fs∧∀ v,p.2.data≠.cell v):Inv X Fz σ H s:=
 ⟨I.ok,I.os,I.bare,I.base,I.loc,I.cell,I.free,I.jc,fun p hp=>(List.mem_append.mp hp).elim (fun z=>I.pin p (List.mem_append_left _ z)) (h p),I.hok,I.len⟩
theorem uE {N:List Str}(hN:N.Nodup) {i j:Nat}{x:Str}(a:N[i]?=some x) (b:N[j]?=some x):i=j:=by
 obtain ⟨h1,e1⟩:=List.getElem?_eq_some_iff.mp a
 obtain ⟨h2,e2⟩:=List.getElem?_eq_some_iff.mp b
 exact (List.getElem_inj hN).mp (e1.trans e2.symm)
theorem AN {M:Model}{A:Around}{E:Value→Shared→Prop}{i:Nat}{x:Str}{v:V}{u:Value}{Q:Unit→Shared→Prop}(I:Inv X pins σ H s) (hN:X.N.Nodup) (hi:X.N[i]?=some x) (hx:Loc X.env.scope x) (r:RelV v u)
  (h:∀ s',Inv X pins (σ.set i (some v)) H s'→(∃ a,Heap.SameBut a s.heap s'.heap∧(a=X.env.locals∨X.env.cells.lookup x=some a))→Q () s') (hf:X.fn x=true∨X.env.scope.names.lookup x=some .local:=by first | exact .inl rfl | exact .inr rfl | assumption):wpAny M A (storeName X.env x u) Q E s:=by
 obtain ⟨m,hn,hl⟩:=id I.loc
 have hcls:(X.env.scope.kind==.class || (X.env.scope.kind==.module&&X.env.locals != X.env.globals))=false:=by rw [I.ok.kind];rfl
 have JP:i<σ.length:=by rw [I.len];exact (List.getElem?_eq_some_iff.mp hi).1
 have uC:=I.uC
 have tracked:∀ {a:Addr} {h':Heap},(∃ o,s.heap.get? a=some o∧H a=none)→Heap.SameBut a s.heap h'→eS X.prog X.w H h':=fun {a h'} ha hs b ob e=>by
  obtain ⟨_,_,hfree⟩:=ha
  refine (I.hok b ob e).stay (fun c w' hc q=>(hs.2 c ?_).trans q) (fun _ q=>q) fun _ _ q=>q
  rintro rfl
  rcases hc with rfl | hc
  ·rw [hfree] at e;cases e
  ·rw [hfree] at hc;cases hc
 rcases hx with hk | hk
 ·refine wpAny_storeName_local hk hn (fun h' hn' hs=>?_) hcls
  obtain ⟨oL,_,_,AO,_⟩:=id hn
  refine h _ ⟨I.ok,I.os,I.bare,⟨fun b o e n hb hx=>?_,fun b o e n hb hx=>?_,I.base.free,fun b o e hx=>?_,I.base.tups,I.base.lM,I.base.mS⟩,⟨_,hn',fun j y v' e1 e2 e3=>?_⟩,fun y c e=>?_,I.free,I.jc,fun p hp=>?_,tracked ⟨oL,AO,I.free⟩ hs,by simpa using I.len⟩ ⟨_,hs,.inl rfl⟩
  ·exact (hs.2 b (Nat.ne_of_lt (Nat.lt_of_lt_of_le (Heap.lt_size e) I.ok.above))).trans (I.base.keep b o e n hb hx)
  ·obtain ⟨sl,e1⟩:=I.base.slot b o e n hb hx
   exact ⟨sl,(hs.2 b (Nat.ne_of_lt (Nat.lt_of_lt_of_le (Heap.lt_size e) I.ok.above))).trans e1⟩
  ·obtain ⟨o',e1⟩:=I.base.there b o e hx
   exact ⟨o',(hs.2 b (Nat.ne_of_lt (Nat.lt_of_lt_of_le (Heap.lt_size e) I.ok.above))).trans e1⟩
  ·by_cases hj:j=i
   ·subst hj
    rw [hi] at e1;cases e1
    rw [List.getElem?_set_self JP] at e2
    cases e2
    exact ⟨u,r,.inl ⟨hk,by simp⟩⟩
   ·rw [List.getElem?_set_ne (Ne.symm hj)] at e2
    obtain ⟨u',r',q⟩:=hl j y v' e1 e2 e3
    refine ⟨u',r',?_⟩
    rcases q with ⟨k,e⟩ | ⟨k,c,e,z⟩
    ·refine .inl ⟨k,?_⟩
     have:y≠x:=fun e=>hj (uE hN e1 (e▸hi))
     simp [this,e]
    ·exact .inr ⟨k,c,e,z.sameBut hs (uC y c e)⟩
  ·obtain ⟨w',z⟩:=I.cell y c e
   exact ⟨w',z.sameBut hs (uC y c e)⟩
  ·obtain ⟨e,n,ne,nf,d⟩:=I.pin p hp
   exact ⟨(hs.2 p.1 ne).trans e,n,ne,nf,d⟩
 ·have hfn:X.fn x=true:=by
   rcases hf with z | z
   ·exact z
   ·rw [z] at hk;cases hk
  obtain ⟨c,hc⟩:=I.ok.has x (.inl hk)
  obtain ⟨w',z⟩:=I.cell x c hc
  refine wpAny_storeName_cell I.ok.kind hk hc z (fun h' hc' hs=>?_)
  obtain ⟨oc,hoc,Ub⟩:=id z
  refine h { s with heap:=h' } ⟨I.ok,I.os,I.bare,⟨fun b o e n hb hx=>?_,fun b o e n hb hx=>?_,I.base.free,fun b o e hx=>?_,I.base.tups,I.base.lM,I.base.mS⟩,⟨m,hn.sameBut hs (Ne.symm (uC x c hc)),fun j y v' e1 e2 e3=>?_⟩,fun y c' e=>?_,I.free,I.jc,fun p hp=>?_,tracked ⟨oc,hoc,I.jc x c hc⟩ hs,by simpa using I.len⟩ ⟨c,hs,.inr hc⟩
  ·exact (hs.2 b (Nat.ne_of_lt (Nat.lt_of_lt_of_le (Heap.lt_size e) (I.ok.xG x c hfn hc)))).trans (I.base.keep b o e n hb hx)
  ·obtain ⟨sl,e1⟩:=I.base.slot b o e n hb hx
   exact ⟨sl,(hs.2 b (Nat.ne_of_lt (Nat.lt_of_lt_of_le (Heap.lt_size e) (I.ok.xG x c hfn hc)))).trans e1⟩
  ·obtain ⟨o',e1⟩:=I.base.there b o e hx
   exact ⟨o',(hs.2 b (Nat.ne_of_lt (Nat.lt_of_lt_of_le (Heap.lt_size e) (I.ok.xG x c hfn hc)))).trans e1⟩
  ·by_cases hj:j=i
   ·subst hj
    rw [hi] at e1;cases e1
    rw [List.getElem?_set_self JP] at e2
    cases e2
    exact ⟨u,r,.inr ⟨.inl hk,c,hc,hc'⟩⟩
   ·rw [List.getElem?_set_ne (Ne.symm hj)] at e2
    obtain ⟨u',r',q⟩:=hl j y v' e1 e2 e3
    refine ⟨u',r',?_⟩
    rcases q with q | ⟨k,c',e,z'⟩
    ·exact .inl q
    ·refine .inr ⟨k,c',e,z'.sameBut hs ?_⟩
     rintro rfl
     exact hj (uE hN e1 (I.ok.inj _ _ _ e hc▸hi))
  ·by_cases hcc:c'=c
   ·subst hcc;exact ⟨_,hc'⟩
   ·obtain ⟨w2,z2⟩:=I.cell y c' e
    exact ⟨w2,z2.sameBut hs hcc⟩
  ·obtain ⟨e,n,ne,nf,d⟩:=I.pin p hp
   refine ⟨(hs.2 p.1 ?_).trans e,n,ne,nf,d⟩
   intro q
   rw [q,hoc] at e
   have q':oc=p.2:=Option.some.inj e
   exact d w' (by rw [←q'];exact Ub)
theorem uF {M:Model}{A:Around}{E:Value→Shared→Prop}{i:Nat}{x:Str}{v:V}{u:Value}{Q:Unit→Shared→Prop}(I:Inv X pins σ H s) (hN:X.N.Nodup) (hi:X.N[i]?=some x) (hx:Loc X.env.scope x) (r:RelV v u)
  (h:∀ s',Inv X pins (σ.set i (some v)) H s'→Q () s') (hf:X.fn x=true∨X.env.scope.names.lookup x=some .local:=by first | exact .inl rfl | exact .inr rfl | assumption):wpAny M A (storeName X.env x u) Q E s:=
 AN I hN hi hx r (fun s' I' _=>h s' I') hf
theorem Inv.OC {s':Shared}{ch:List Addr}(I:Inv X pins σ H s) (ho:s'.os=s.os) (u:Un (frs X.stack) ch H H' s.heap s'.heap) (hok:eS X.prog X.w H' s'.heap) (hg:AllBare s'.gens)
  (hch:∀ b∈ch,(b∈X.ex∨X.s₀.heap.objs.size≤b)∧b≠X.env.locals∧(∀ x c,X.env.cells.lookup x=some c→c≠b)∧∀ p∈X.pn++pins,p.1≠b):Inv X pins σ H' s':=by
 obtain ⟨h',g',d',t',o'⟩:=s'
 have e:o'=s.os:=ho
 subst e
 exact I.call (g':=g') (t':=t') (d':=d') u hok hg hch
end
abbrev XK:=Value→Option Addr→Hp→Prop
abbrev St:=List (Option V)
abbrev VK:=V→Hp→Prop
abbrev TE:=St→Hp→VK→Prop
abbrev TT:=St→Hp→(Bool→Hp→Prop)→Prop
abbrev TA:=St→Hp→(List V→Hp→Prop)→Prop
structure Ends where
 nx:St→Hp→Prop
 rt:VK
 bk:St→Hp→Prop:=fun _ _=>False
 ct:St→Hp→Prop:=fun _ _=>False
abbrev TS:=Ends→St→Hp→Prop
noncomputable def EP (X:Cx) (pins:List (Addr×Obj)) (σ:St) (Q:VK) (u:Value) (s':Shared):Prop:=∃ v H',Inv X pins σ H' s'∧RelV v u∧Q v H'
noncomputable def TP (X:Cx) (pins:List (Addr×Obj)) (σ:St) (Q:Bool→Hp→Prop) (b:Bool) (s':Shared):Prop:=∃ H',Inv X pins σ H' s'∧Q b H'
noncomputable def AP (X:Cx) (pins:List (Addr×Obj)) (σ:St) (Q:List V→Hp→Prop) (us:List Value) (s':Shared):Prop:=∃ vs H',Inv X pins σ H' s'∧Vals vs us∧Q vs H'
noncomputable def SP (X:Cx) (pins:List (Addr×Obj)) (D:Ends) (f:Flow) (s':Shared):Prop:=
 match f with
 | .next=>∃ σ' H',Inv X pins σ' H' s'∧D.nx σ' H'
 | .brk=>∃ σ' H',Inv X pins σ' H' s'∧D.bk σ' H'
 | .cont=>∃ σ' H',Inv X pins σ' H' s'∧D.ct σ' H'
 | .ret u=>∃ v σ' H',Inv X pins σ' H' s'∧RelV v u∧D.rt v H'
noncomputable def PE (X:Cx) (e:Expr) (t:TE):Prop:=
 ∀ (pins:List (Addr×Obj)) (s:Shared) (σ:St) (H:Hp) (Q:VK),Inv X pins σ H s→t σ H Q→wpAny (model X.prog X.w) X.A (eval e X.env) (EP X pins σ Q) X.xe s
noncomputable def PT (X:Cx) (e:Expr) (t:TT):Prop:=
 ∀ (pins:List (Addr×Obj)) (s:Shared) (σ:St) (H:Hp) (Q:Bool→Hp→Prop),Inv X pins σ H s→t σ H Q→wpAny (model X.prog X.w) X.A (isTrue e X.env (eval e X.env)) (TP X pins σ Q) X.xe s
noncomputable def PW (X:Cx) (e:Expr) (t:TT):Prop:=
 ∀ (whole:Sem Value) (pins:List (Addr×Obj)) (s:Shared) (σ:St) (H:Hp) (Q:Bool→Hp→Prop),Inv X pins σ H s→t σ H Q→wpAny (model X.prog X.w) X.A (isTrue e X.env whole) (TP X pins σ Q) X.xe s
theorem PW.pt {X:Cx}{e:Expr}{t:TT}(h:PW X e t):PT X e t:=h _
noncomputable def PA (X:Cx) (es:List Expr) (t:TA):Prop:=
 ∀ (pos:Pos) (pins:List (Addr×Obj)) (s:Shared) (σ:St) (H:Hp) (Q:List V→Hp→Prop),Inv X pins σ H s→t σ H Q→wpAny (model X.prog X.w) X.A (spliced (backTo pos (starEach es X.env))) (AP X pins σ Q) X.xe s
noncomputable def PS (X:Cx) (st:Stmt) (t:TS):Prop:=
 ∀ (pins:List (Addr×Obj)) (s:Shared) (σ:St) (H:Hp) (D:Ends),Inv X pins σ H s→t D σ H→wpAny (model X.prog X.w) X.A (exec st X.env) (SP X pins D) X.xe s
noncomputable def iE (X:Cx) (st:List Stmt) (t:TS):Prop:=
 ∀ (pins:List (Addr×Obj)) (s:Shared) (σ:St) (H:Hp) (D:Ends),Inv X pins σ H s→t D σ H→wpAny (model X.prog X.w) X.A (execs st X.env) (SP X pins D) X.xe s
theorem bJ {α:Type}{t:Sem α}{Q Q':α→Shared→Prop}{M:Model}{A:Around}{E:Value→Shared→Prop}{s:Shared}(h:wpAny M A t Q E s) (hQ:∀ a s,Q a s→Q' a s):wpAny M A t Q' E s:=wpAny_mono h hQ fun _ _ x=>x
end L2
namespace L2
open PySem PySem.Spec PyProof.Rows
section
variable {X:Cx}
theorem bin {a b:Expr}{ta tb:TE}(ha:PE X a ta) (hb:PE X b tb) {pins:List (Addr×Obj)}{s:Shared}{σ:St}{H:Hp}{R:V→V→Hp→Prop}(I:Inv X pins σ H s) (h:ta σ H fun x H1=>tb σ H1 fun y H2=>R x y H2)
  {α:Type} {Q:α→Shared→Prop} {f:Value→Value→Sem α}
  (hf:∀ v u s2 x y H2,Inv X pins σ H2 s2→RelV x v→RelV y u→R x y H2→wpAny (model X.prog X.w) X.A (f v u) Q X.xe s2) :
  wpAny (model X.prog X.w) X.A (eval a X.env) (fun v s₁=>wpAny (model X.prog X.w) X.A (eval b X.env) (fun u s₂=>wpAny (model X.prog X.w) X.A (f v u) Q X.xe s₂) X.xe s₁) X.xe s:=by
 refine bJ (ha pins s σ H _ I h) fun v s1 ⟨x,H1,I1,r1,q1⟩=>?_
 refine bJ (hb pins s1 σ H1 _ I1 q1) fun u s2 ⟨y,H2,I2,r2,q2⟩=>?_
 exact hf v u s2 x y H2 I2 r1 r2 q2
noncomputable def JQ (i:Nat):TE:=fun σ H Q=>∃ v,σ[i]?=some (some v)∧Q v H
noncomputable def tC (v:V):TE:=fun _ H Q=>Q v H
theorem AQ {i:Nat}{x:Str}{pos:Pos}(hN:X.N[i]?=some x) (hv:AL X.env.scope x) (hd:(x==("__debug__" : Str))=false:=by decide) (hcd:(x==("__classdict__" : Str))=false:=by decide):PE X (.Name x pos) (JQ i):=by
 intro pins s σ H Q I h
 obtain ⟨v,e,h⟩:=h
 obtain ⟨m,hn,hl⟩:=I.loc
 obtain ⟨u,r,l⟩:=hl i x v hN e hv
 have fin:EP X pins σ Q u s:=⟨v,H,I,r,h⟩
 rcases l with ⟨hk,hm⟩ | ⟨hk,c,hc,hcell⟩
 ·exact wpAny_Name (wpAny_loadName_local I.ok.kind hk hn hm fin) hd
 ·rcases hk with hk | hk
  ·exact wpAny_Name (wpAny_loadName_cell I.ok.kind hk hc hcell fin) hd
  ·exact wpAny_Name (wpAny_loadName_free I.ok.kind hk hc hcell fin hcd) hd
theorem JR {i j pos}:PE X (.Constant (.int i) j pos) (tC (.int i)):=fun _ _ _ H _ I h=>wpAny_Constant_int ⟨.int i,H,I.tok _,⟨_,rfl⟩,h⟩
theorem OD {b j pos}:PE X (.Constant (.bool b) j pos) (tC (.bl b)):=fun _ _ _ H _ I h=>Constant_bool ⟨.bl b,H,I,rfl,h⟩
theorem JU {j pos}:PE X (.Constant .none j pos) (tC .aP):=fun _ _ _ H _ I h=>Constant_none ⟨.aP,H,I,rfl,h⟩
theorem JV {x j pos}:PE X (.Constant (.str x) j pos) (tC (.str x)):=fun _ _ _ H _ I h=>Calls.Constant_str ⟨.str x,H,I.tok _,⟨_,rfl⟩,h⟩
noncomputable def Gl (X:Cx) (x:Str):Prop:=X.env.kindOf x=some .globalImplicit
theorem xK {E:Value→Shared→Prop}{pins:List (Addr×Obj)}{s:Shared}{σ:St}{H:Hp}{x:Str}{u:Value}{pos:Pos}{Q:Value→Shared→Prop}(I:Inv X pins σ H s) (hg:Gl X x) (hm:X.mg x=some u) (h:Q u s)
  (hd:(x==("__debug__" : Str))=false:=by decide):wpAny (model X.prog X.w) X.A (eval (.Name x pos) X.env) Q E s:=
 Calls.Name_function_global I.ok.kind hg (Calls.loadGlobal_global (by rw [I.ok.glob];exact I.mod.glob.keeps I.bk) hm h) hd
theorem mT {E:Value→Shared→Prop}{pins:List (Addr×Obj)}{s:Shared}{σ:St}{H:Hp}{x:Str}{u:Value}{pos:Pos}{Q:Value→Shared→Prop}(I:Inv X pins σ H s) (hg:Gl X x) (hm:X.mg x=none) (hv:bootBuiltins x=some u) (h:Q u s)
  (hn:x≠"__name__" :=by decide) (hd:(x==("__debug__" : Str))=false:=by decide):wpAny (model X.prog X.w) X.A (eval (.Name x pos) X.env) Q E s:=by
 obtain ⟨mb,h1,h2⟩:=I.mod.blt
 exact Calls.Name_function_global I.ok.kind hg (Calls.loadGlobal_builtin (by rw [I.ok.glob];exact I.mod.glob.keeps I.bk) hm (by rw [I.ok.blt];exact h1.keeps I.bk) ((h2 x hn).trans hv) h) hd
theorem xN {x:Str}{v:V}{u:Value}{pos:Pos}(hg:Gl X x) (hm:X.mg x=some u) (r:RelV v u) (hd:(x==("__debug__" : Str))=false:=by decide):PE X (.Name x pos) (tC v):=
 fun _ _ _ H _ I h=>xK I hg hm ⟨v,H,I,r,h⟩ hd
variable {a b:Expr}{ta tb:TE}{pos:Pos}
variable {tA FA:TT}{rest:List Expr}
noncomputable def Uc (t u:TT):TT:=fun σ H Q=>t σ H fun c H1=>if c=true then u σ H1 Q else Q false H1
noncomputable def VR (t u:TT):TT:=fun σ H Q=>t σ H fun c H1=>if c=true then Q true H1 else u σ H1 Q
noncomputable def Ud (t:TT):TT:=fun σ H Q=>t σ H fun c H1=>Q (!c) H1
theorem G9 (ha:PT X a tA):PW X (.BoolOp .And [a] pos) tA:=by
 intro wh pins s σ H Q I h
 refine isTrue_and (bJ (ha pins s σ H Q I h) fun c s1 e=>?_)
 cases c with
 | true=>exact isTrue_and_nil e
 | false=>exact e
theorem JX (ha:PT X a tA):PW X (.BoolOp .Or [a] pos) tA:=by
 intro wh pins s σ H Q I h
 refine isTrue_or (bJ (ha pins s σ H Q I h) fun c s1 e=>?_)
 cases c with
 | false=>exact isTrue_or_nil e
 | true=>exact e
theorem JY (ha:PT X a tA) (hb:PW X (.BoolOp .And (b :: rest) pos) FA):PW X (.BoolOp .And (a :: b :: rest) pos) (Uc tA FA):=by
 intro wh pins s σ H Q I h
 refine isTrue_and (bJ (ha pins s σ H _ I h) fun c s1 ⟨H1,I1,q1⟩=>?_)
 cases c with
 | true=>exact hb wh pins s1 σ H1 Q I1 q1
 | false=>exact ⟨H1,I1,q1⟩
theorem OE (ha:PT X a tA) (hb:PW X (.BoolOp .Or (b :: rest) pos) FA):PW X (.BoolOp .Or (a :: b :: rest) pos) (VR tA FA):=by
 intro wh pins s σ H Q I h
 refine isTrue_or (bJ (ha pins s σ H _ I h) fun c s1 ⟨H1,I1,q1⟩=>?_)
 cases c with
 | true=>exact ⟨H1,I1,q1⟩
 | false=>exact hb wh pins s1 σ H1 Q I1 q1
theorem JZ (ha:PT X a tA):PT X (.UnaryOp .Not a pos) (Ud tA):=by
 intro pins s σ H Q I h
 exact isTrue_not (ha pins s σ H (fun c H1=>Q (!c) H1) I h)
noncomputable def OF (ta tb:TE):TE:=fun σ H Q=>ta σ H fun x H1=>∃ c,x=.bl c∧if c=true then tb σ H1 Q else Q (.bl false) H1
theorem J0 {op}{t:TE}(h:PE X a t):PE X (.BoolOp op [a] pos) t:=fun pins s σ H Q I hw=>BoolOp_one (h pins s σ H Q I hw)
theorem J1 (ha:PE X a ta) (hb:PE X (.BoolOp .And (b :: rest) pos) tb):PE X (.BoolOp .And (a :: b :: rest) pos) (OF ta tb):=by
 intro pins s σ H Q I h
 refine BoolOp_and (bJ (ha pins s σ H _ I h) fun v s1 ⟨x,H1,I1,r1,q1⟩=>?_)
 obtain ⟨c,rfl,q1⟩:=q1
 cases r1
 refine wpAny_truthy_bool ?_
 cases c with
 | true=>exact hb pins s1 σ H1 Q I1 q1
 | false=>exact ⟨.bl false,H1,I1,rfl,q1⟩
noncomputable def VS (t:TT) (ta tb:TE):TE:=fun σ H Q=>t σ H fun c H1=>if c=true then ta σ H1 Q else tb σ H1 Q
theorem CZ {c:Expr}(hc:PT X c tA) (ha:PE X a ta) (hb:PE X b tb):PE X (.IfExp c a b pos) (VS tA ta tb):=by
 intro pins s σ H Q I h
 refine wpAny_IfExp (bJ (hc pins s σ H _ I h) fun d s1 ⟨H1,I1,q1⟩=>?_)
 cases d with
 | true=>exact ha pins s1 σ H1 Q I1 q1
 | false=>exact hb pins s1 σ H1 Q I1 q1
end
end L2
namespace L2
open PySem PySem.Spec PyProof.Rows
noncomputable def fK (K:PySem.W.Frag) (H:Hp) (a:Addr) (xs:List V):Prop:=
 Rd H a (.lst xs)∨
  ∃ (o:Obj) (its:Array Value) (n:Nat),K.lookup a=some o∧o.cls=.type "list" ∧o.dict=none∧o.data=.seq its n∧its.size≤sizeLine∧Vals xs its.toList
noncomputable def dG (K:PySem.W.Frag) (H:Hp) (a:Addr) (xs:List V):Prop:=
 Rd H a (.tup xs)∨
  ∃ (o:Obj) (its:Array Value) (n:Nat),K.lookup a=some o∧o.cls=.type "tuple" ∧o.data=.seq its n∧its.size≤sizeLine∧Vals xs its.toList
noncomputable def Ue:Value→Option V
 | .none=>some .aP
 | .bool b=>some (.bl b)
 | .int i _=>some (.int i)
 | .str x _=>some (.str x)
 | .bytes b _=>some (.AH b)
 | .float b _=>some (.AI b)
 | .ref a=>some (.ref a)
 | .type n=>some (.ty n)
 | _=>none
theorem RelV.abs {x:V}{u:Value}(r:RelV x u):Ue u=some x:=by
 cases x with
 | aP=>cases r;rfl
 | bl _=>cases r;rfl
 | int _=>obtain ⟨t,rfl⟩:=r;rfl
 | str _=>obtain ⟨t,rfl⟩:=r;rfl
 | AH _=>obtain ⟨t,rfl⟩:=r;rfl
 | AI _=>obtain ⟨t,rfl⟩:=r;rfl
 | ref _=>cases r;rfl
 | ty _=>cases r;rfl
theorem RelV.inj {x y:V}{u:Value}(r:RelV x u) (q:RelV y u):x=y:=Option.some.inj (r.abs.symm.trans q.abs)
theorem Vals.inj:∀ {xs ys:List V}{us:List Value},Vals xs us→Vals ys us→xs=ys
 | _,_,_,.nil,.nil=>rfl
 | _,_,_,.cons r t,.cons r' t'=>by rw [r.inj r',Vals.inj t t']
section
variable {X:Cx}{pins:List (Addr×Obj)}{σ:St}{H:Hp}{s:Shared}{a:Addr}{xs ys:List V}
theorem fK.of {K:PySem.W.Frag}(h:H a=some (.lst xs)):fK K H a xs:=.inl (.inl h)
theorem dG.of {K:PySem.W.Frag}(h:H a=some (.tup xs)):dG K H a xs:=.inl (.inl h)
theorem Inv.list (I:Inv X pins σ H s) (h:fK X.K H a xs):∃ its:List Value,Vals xs its∧PlainL s.heap a its.toArray∧xs.length≤sizeLine:=by
 rcases h with h | ⟨o,its,n,hk,hc,hd,hs,hz,r⟩
 ·obtain ⟨z,its,n,r,e⟩:=h.ok I.hok
  exact ⟨its,r,⟨_,n,e,rfl,rfl,rfl⟩,z⟩
 ·refine ⟨its.toList,r,⟨o,n,I.sG a o hk,hc,hd,by simpa using hs⟩,?_⟩
  have e:=r.length
  simp only [Array.length_toList] at e
  omega
theorem Inv.tuple (I:Inv X pins σ H s) (h:dG X.K H a xs):∃ its:List Value,Vals xs its∧IsTup s.heap a its.toArray∧xs.length≤sizeLine:=by
 rcases h with h | ⟨o,its,n,hk,hc,hs,hz,r⟩
 ·obtain ⟨z,its,r,p⟩:=h.ok I.hok
  exact ⟨its,r,p,z⟩
 ·refine ⟨its.toList,r,⟨o,I.sG a o hk,hc,n,by simpa using hs⟩,?_⟩
  have e:=r.length
  simp only [Array.length_toList] at e
  omega
theorem Inv.C0 (I:Inv X pins σ H s) (h:fK X.K H a xs) (h':fK X.K H a ys):xs=ys:=by
 obtain ⟨its,r,⟨o,n,e,_,_,d⟩,_⟩:=I.list h
 obtain ⟨its',r',⟨o',n',e',_,_,d'⟩,_⟩:=I.list h'
 rw [e] at e';cases e'
 rw [d] at d'
 injection d' with d1 _
 have:its=its':=by simpa using congrArg Array.toList d1
 subst this
 exact r.inj r'
theorem Inv.mU (I:Inv X pins σ H s) (h:dG X.K H a xs) (h':dG X.K H a ys):xs=ys:=by
 obtain ⟨its,r,⟨o,e,_,n,d⟩,_⟩:=I.tuple h
 obtain ⟨its',r',⟨o',e',_,n',d'⟩,_⟩:=I.tuple h'
 rw [e] at e';cases e'
 rw [d] at d'
 injection d' with d1 _
 have:its=its':=by simpa using congrArg Array.toList d1
 subst this
 exact r.inj r'
end
abbrev Cx.kG (X:Cx) (E:Value→Shared→Prop):Cx:={ X with xe:=E }
abbrev Cx.sH (X:Cx):Cx:=X.kG fun _ _=>False
theorem Cx.Ok.kG {X:Cx}(ok:X.Ok) (E:Value→Shared→Prop):(X.kG E).Ok:=
 ⟨ok.mod,ok.kind,ok.glob,ok.blt,ok.above,ok.inj,ok.has,ok.xG,ok.hd,ok.frames,ok.stk,ok.Fx,ok.bs,ok.sF,ok.rj,ok.rm,ok.jx,ok.uB⟩
theorem Cx.Ok.jj {X:Cx}{E:Value→Shared→Prop}(ok:(X.kG E).Ok):X.Ok:=
 ⟨ok.mod,ok.kind,ok.glob,ok.blt,ok.above,ok.inj,ok.has,ok.xG,ok.hd,ok.frames,ok.stk,ok.Fx,ok.bs,ok.sF,ok.rj,ok.rm,ok.jx,ok.uB⟩
section
variable {X:Cx}{pins:List (Addr×Obj)}{σ:St}{H:Hp}{s:Shared}{E:Value→Shared→Prop}
theorem Inv.kG (I:Inv X pins σ H s) (E:Value→Shared→Prop):Inv (X.kG E) pins σ H s:=⟨I.ok.kG E,I.os,I.bare,I.base,I.loc,I.cell,I.free,I.jc,I.pin,I.hok,I.len⟩
theorem Inv.jj (I:Inv (X.kG E) pins σ H s):Inv X pins σ H s:=⟨I.ok.jj,I.os,I.bare,I.base,I.loc,I.cell,I.free,I.jc,I.pin,I.hok,I.len⟩
theorem SP.jj {D:Ends}{f:Flow}{s':Shared}(h:SP (X.kG E) pins D f s'):SP X pins D f s':=by
 cases f with
 | next=>obtain ⟨σ',H',I,q⟩:=h;exact ⟨σ',H',I.jj,q⟩
 | brk=>obtain ⟨σ',H',I,q⟩:=h;exact ⟨σ',H',I.jj,q⟩
 | cont=>obtain ⟨σ',H',I,q⟩:=h;exact ⟨σ',H',I.jj,q⟩
 | ret u=>obtain ⟨v,σ',H',I,r,q⟩:=h;exact ⟨v,σ',H',I.jj,r,q⟩
theorem iE.sH {st:List Stmt}{t:TS}(h:iE X.sH st t):iE X st t:=fun pins s σ H D I hw=>
 wpAny_mono (h pins s σ H D (I.kG _) hw) (fun _ _ q=>q.jj) fun _ _ z=>False.elim z
end
section
variable {X:Cx}{st:Stmt}{rest:List Stmt}{t u:TS}{e:Expr}{te:TE}{pos:Pos}
noncomputable def OG:TS:=fun D σ H=>D.nx σ H
noncomputable def Ug (t u:TS):TS:=fun D σ H=>t { D with nx:=u D } σ H
theorem Hf:iE X [] OG:=fun _ _ σ H _ I h=>wpAny_execs_nil ⟨σ,H,I,h⟩
theorem C1 (h1:PS X st t) (h2:iE X rest u):iE X (st :: rest) (Ug t u):=by
 intro pins s σ H D I h
 refine wpAny_execs_cons (bJ (h1 pins s σ H { D with nx:=u D } I h) fun f s1 q=>?_)
 cases f with
 | next=>
  obtain ⟨σ',H',I',q⟩:=q
  exact h2 pins s1 σ' H' D I' q
 | ret v=>exact q
 | brk=>exact q
 | cont=>exact q
theorem Inv.quiet {pins:List (Addr×Obj)}{σ:St}{H:Hp}{s:Shared}(I:Inv X pins σ H s):interactive X.env=false:=by simp [interactive,I.ok.kind]
noncomputable def OH (te:TE):TS:=fun D σ H=>te σ H fun _ H1=>D.nx σ H1
theorem xO (he:PE X e te) (hs:swapsWith e none pos.line X.env=pure false:=by rfl):PS X (.Expr e pos) (OH te):=by
 intro pins s σ H D I h
 exact wpAny_Expr_any (bJ (he pins s σ H _ I h) fun v s1 ⟨x,H1,I1,r1,q1⟩=>⟨σ,H1,I1,q1⟩) I.quiet hs
noncomputable def Uh (te:TE):TS:=fun D σ H=>te σ H D.rt
theorem J2 (he:PE X e te):PS X (.Return (some e) pos) (Uh te):=by
 intro pins s σ H D I h
 exact wpAny_Return_some (bJ (he pins s σ H _ I h) fun v s1 ⟨x,H1,I1,r1,q1⟩=>⟨x,σ,H1,I1,r1,q1⟩)
noncomputable def Ui (c:TT) (t u:TS):TS:=fun D σ H=>c σ H fun b H1=>if b=true then t D σ H1 else u D σ H1
theorem OI {c:Expr}{a b:List Stmt}{tc:TT}(hc:PT X c tc) (ha:iE X a t) (hb:iE X b u):PS X (.If c a b pos) (Ui tc t u):=by
 intro pins s σ H D I h
 refine wpAny_If (bJ (hc pins s σ H _ I h) fun d s1 ⟨H1,I1,q1⟩=>?_)
 cases d with
 | true=>exact ha pins s1 σ H1 D I1 q1
 | false=>exact hb pins s1 σ H1 D I1 q1
noncomputable def J3:TS:=fun _ _ _=>False
theorem C2:PS X st J3:=fun _ _ _ _ _ _ h=>h.elim
end
abbrev TG:=V→St→Hp→(St→Hp→Prop)→Prop
abbrev sI:=List V→St→Hp→(St→Hp→Prop)→Prop
noncomputable def PG (X:Cx) (target:Expr) (t:TG):Prop:=
 ∀ (pins:List (Addr×Obj)) (s:Shared) (σ:St) (H:Hp) (v:V) (u:Value) (Q:St→Hp→Prop),Inv X pins σ H s→RelV v u→t v σ H Q→
  wpAny (model X.prog X.w) X.A (assign target X.env u) (fun _ s'=>∃ σ' H',Inv X pins σ' H' s'∧Q σ' H') X.xe s
noncomputable def oW (X:Cx) (ts:List Expr) (t:sI):Prop:=
 ∀ (pins:List (Addr×Obj)) (s:Shared) (σ:St) (H:Hp) (vs:List V) (us:List Value) (Q:St→Hp→Prop),Inv X pins σ H s→Vals vs us→t vs σ H Q→
  wpAny (model X.prog X.w) X.A (assignInOrder ((assignEach ts X.env).map (·.2)) us) (fun _ s'=>∃ σ' H',Inv X pins σ' H' s'∧Q σ' H') X.xe s
section
variable {X:Cx}{pos:Pos}
noncomputable def FD (i:Nat):TG:=fun v σ H Q=>Q (σ.set i (some v)) H
theorem xP {i:Nat}{x:Str}(hN:X.N.Nodup) (hi:X.N[i]?=some x) (hx:Loc X.env.scope x) (hf:X.fn x=true∨X.env.scope.names.lookup x=some .local:=by first | exact .inl rfl | exact .inr rfl | assumption):PG X (.Name x pos) (FD i):=by
 intro pins s σ H v u Q I r h
 exact wpAny_assign_Name (uF I hN hi hx r (fun s' I'=>⟨_,H,I',h⟩) hf)
noncomputable def Uj:sI:=fun vs σ H Q=>vs=[]∧Q σ H
noncomputable def OJ (t:TG) (u:sI):sI:=fun vs σ H Q=>∃ v r,vs=v :: r∧t v σ H fun σ' H'=>u r σ' H' Q
theorem Hg:oW X [] Uj:=by
 intro pins s σ H vs us Q I r h
 obtain ⟨e,h⟩:=h
 subst e
 cases r
 exact assignInOrder_nil ⟨σ,H,I,h⟩
theorem C3 {e:Expr}{es:List Expr}{t:TG}{u:sI}(h1:PG X e t)(h2:oW X es u)
  (hs:(assignEach (e :: es) X.env).map (·.2)=assign e X.env :: (assignEach es X.env).map (·.2):=by rfl):oW X (e :: es) (OJ t u):=by
 intro pins s σ H vs us Q I r h
 obtain ⟨v,vr,e1,h⟩:=h
 subst e1
 cases r with
 | cons r rr=>
  rw [hs]
  refine assignInOrder_cons (bJ (h1 pins s σ H _ _ _ I r h) fun _ s1 ⟨σ1,H1,I1,q1⟩=>?_)
  exact h2 pins s1 σ1 H1 _ _ Q I1 rr q1
noncomputable def Uk (K:PySem.W.Frag) (n:Nat) (t:sI):TG:=fun v σ H Q=>∃ a xs,v=.ref a∧dG K H a xs∧xs.length=n∧t xs σ H Q
theorem J4 {es:List Expr}{k:Nat}{t:sI}{n:Nat}(hc:X.calm=true)(h:oW X es t)
  (hn:(assignEach es X.env).length=n:=by rfl) (hst:(assignEach es X.env).findIdx? (·.1)=none:=by rfl):PG X (.Tuple es k pos) (Uk X.K n t):=by
 intro pins s σ H v u Q I r hw
 obtain ⟨a,xs,e1,hq,hl,hw⟩:=hw
 subst e1
 cases r
 obtain ⟨its,rv,ht,hz⟩:=I.tuple hq
 refine assign_Tuple_tuple (I.ok.hd hc) ht (by simp [hn,←hl,rv.length]) hst fun h' hx=>?_
 have I1:Inv X pins σ H { s with heap:=h' }:=I.kept (t':=s.toks) fun b o e=>hx b o (Nat.ne_of_lt (Heap.lt_size e)) e
 exact h pins _ σ H xs _ Q I1 (by simpa using rv) hw
noncomputable def Ul (te:TE) (g:TG):TS:=fun D σ H=>te σ H fun x H1=>g x σ H1 D.nx
theorem J5 {i:Nat}{x:Str}{e:Expr}{te:TE}{pos':Pos}(hN:X.N.Nodup) (hi:X.N[i]?=some x) (hx:Loc X.env.scope x) (he:PE X e te) (hs:swapsWith e (some (.Name x pos')) pos.line X.env=pure false:=by rfl) (hf:X.fn x=true∨X.env.scope.names.lookup x=some .local:=by first | exact .inl rfl | exact .inr rfl | assumption) :
  PS X (.Assign [.Name x pos'] e pos) (Ul te (FD i)):=by
 intro pins s σ H D I h
 refine wpAny_Assign_Name (bJ (he pins s σ H _ I h) fun v s1 ⟨y,H1,I1,r1,q1⟩=>?_) hs
 exact uF I1 hN hi hx r1 (fun s2 I2=>⟨_,H1,I2,q1⟩) hf
end
section
variable {X:Cx}{pos:Pos}
noncomputable def J6 (c:TT) (tb:TS):TS:=fun D σ H=>∃ W:Nat→St→Hp→Prop,(∃ m,W m σ H)∧∀ m σ H,W m σ H→
 c σ H fun b H1=>if b=true then ∃ N:St→Hp→Prop,(∀ σ' H',N σ' H'→∃ m',m'<m∧W m' σ' H')∧tb { D with nx:=N,ct:=N,bk:=D.nx } σ H1 else D.nx σ H1
theorem C4 {c:Expr}{body:List Stmt}{tc:TT}{tb:TS}(hp:PassesOwn (model X.prog X.w) X.A X.env X.xe) (hc:PT X c tc) (hb:iE X body tb):PS X (.While c body [] pos) (J6 tc tb):=by
 intro pins s σ H D I h
 obtain ⟨W,⟨m0,w0⟩,turn⟩:=h
 refine wpAny_While (codeAny_whileLoop (fun n s'=>∃ σ' H',Inv X pins σ' H' s'∧W n σ' H') ?_ m0 ⟨σ,H,I,w0⟩)
 rintro n s1 ⟨σ1,H1,I1,w1⟩
 refine wpAny_passesOwn hp (bJ (hc pins s1 σ1 H1 _ I1 (turn n σ1 H1 w1)) fun b s2 ⟨H2,I2,q2⟩=>?_)
 cases b with
 | true=>
  obtain ⟨N,hN,q2⟩:=q2
  rw [if_pos rfl]
  refine wpAny_passesOwn hp (bJ (hb pins s2 σ1 H2 _ I2 q2) fun f s3 q3=>?_)
  cases f with
  | next=>
   obtain ⟨σ3,H3,I3,n3⟩:=q3
   obtain ⟨m',hm,w3⟩:=hN σ3 H3 n3
   exact ⟨m',hm,σ3,H3,I3,w3⟩
  | cont=>
   obtain ⟨σ3,H3,I3,n3⟩:=q3
   obtain ⟨m',hm,w3⟩:=hN σ3 H3 n3
   exact ⟨m',hm,σ3,H3,I3,w3⟩
  | brk=>exact q3
  | ret v=>exact q3
 | false=>
  rw [if_neg Bool.false_ne_true]
  exact wpAny_execs_nil ⟨σ1,H2,I2,q2⟩
end
structure It where
 go:Nat→Hp→Prop
 FE:Nat→Hp→V→Hp→Prop
 stop:Nat→Hp→Prop
noncomputable def iF (X:Cx) (pins:List (Addr×Obj)) (H:Hp) (b:Addr):Prop:=
 H b=none∧b≠X.env.locals∧b∉X.fs∧(b∈X.ex∨X.s₀.heap.objs.size≤b)∧(∀ x c,X.env.cells.lookup x=some c→c≠b)∧∀ p∈X.pn++pins,p.1≠b
theorem Inv.C5 {X:Cx}{pins:List (Addr×Obj)}{σ:St}{H H':Hp}{s:Shared}{b:Addr}(I:Inv X pins σ H s) (hb:s.heap.objs.size≤b) (hn:H' b=none):iF X pins H' b:=by
 refine ⟨hn,Nat.ne_of_gt (Nat.lt_of_lt_of_le I.lt hb),I.Ua hb,.inr (Nat.le_trans I.sz hb),fun x c e z=>?_,fun p hp z=>?_⟩
 ·obtain ⟨v,q⟩:=I.cell x c e
  exact absurd (Nat.lt_of_lt_of_le q.lt (by rw [z];exact hb)) (Nat.lt_irrefl _)
 ·exact absurd (Nat.lt_of_lt_of_le (Heap.lt_size (I.pin p hp).1) (by rw [z];exact hb)) (Nat.lt_irrefl _)
structure Turn (P:Program) (w:World) (K:PySem.W.Frag) (tg:Expr) (J:It) (fp:List Addr) (it:Addr) (tn:Nat→Heap→Prop):Prop where
 mem:it∈fp
 obj:∀ i h,tn i h→∀ b∈fp,∃ o,h.get? b=some o∧∀ v,o.data≠.cell v
 keep:∀ i h h',tn i h→(∀ b∈fp,∀ o,h.get? b=some o→h'.get? b=some o)→tn i h'
 item:∀ (X:Cx),X.prog=P→X.w=w→X.K=K→X.calm=true→∀ (i:Nat) (pins:List (Addr×Obj)) (s:Shared) (σ:St) (H:Hp) (E:Value→Shared→Prop),Inv X pins σ H s→(∀ b∈fp,iF X pins H b)→tn i s.heap→J.go i H→
  wpAny (model P w) X.A (pyNext (.ref it)) (fun r s1=>∃ u,r=some u∧
   wpAny (model P w) X.A (letOwnedTupleGo tg (.ref it) u) (fun _ s2=>∃ x H',Inv X pins σ H' s2∧RelV x u∧J.FE i H x H'∧tn (i+1) s2.heap∧∀ b∈fp,H' b=none) E s1) E s
 done:∀ (X:Cx),X.prog=P→X.w=w→X.K=K→X.calm=true→∀ (i:Nat) (pins:List (Addr×Obj)) (s:Shared) (σ:St) (H:Hp) (E:Value→Shared→Prop),Inv X pins σ H s→(∀ b∈fp,iF X pins H b)→tn i s.heap→J.stop i H→
  wpAny (model P w) X.A (pyNext (.ref it)) (fun r s1=>r=none∧Inv X pins σ H s1) E s
 self:∀ (A:Around) (i:Nat) (s:Shared) (Q:Value→Shared→Prop) (E:Value→Shared→Prop),tn i s.heap→Q (.ref it) s→wpAny (model P w) A (pyIter (.ref it)) Q E s
abbrev TI:=St→Hp→(It→Hp→Prop)→Prop
noncomputable def Q8 (X:Cx) (pins:List (Addr×Obj)) (σ:St) (tg:Expr) (R:It→Hp→Prop) (itv:Value) (s2:Shared):Prop:=
 ∃ (it:Addr) (fp:List Addr) (tn:Nat→Heap→Prop) (J:It) (H':Hp),itv=.ref it∧Inv X pins σ H' s2∧Turn X.prog X.w X.K tg J fp it tn∧tn 0 s2.heap∧(∀ b∈fp,iF X pins H' b)∧R J H'
noncomputable def PI (X:Cx) (tg iter:Expr) (wi:TI):Prop:=
 ∀ (pins:List (Addr×Obj)) (s:Shared) (σ:St) (H:Hp) (R:It→Hp→Prop),Inv X pins σ H s→wi σ H R→
  wpAny (model X.prog X.w) X.A (eval iter X.env) (fun v s1=>wpAny (model X.prog X.w) X.A (pyIter v) (Q8 X pins σ tg R) X.xe s1) X.xe s
theorem za {M:Model}{A:Around}{E:Value→Shared→Prop}{s:Shared}{tg:Expr}{it:Addr}{u:Value}{o:Obj}{n:String}{vs:Array Value}{Q:Unit→Shared→Prop}(ho:s.heap.get? it=some o)(hc:o.cls=.type n)(hd:o.data=.fields vs)
    (hn:["enumerate","zip","dict_itemiterator","dict_reverseitemiterator","odict_iterator","itertools.zip_longest","itertools.pairwise"].contains n=false) (hQ:Q () s):wpAny M A (letOwnedTupleGo tg (.ref it) u) Q E s:=by
  unfold letOwnedTupleGo
  cases tg <;> first
    | exact wpAny_pure hQ
    | (cases u <;> first
        | exact wpAny_pure hQ
        | (refine wpAny_bind (wpAny_load ho ?_)
           rw [hc,hd]
           show wpAny M A (if (["enumerate","zip","dict_itemiterator","dict_reverseitemiterator","odict_iterator","itertools.zip_longest","itertools.pairwise"].contains n&&vs[0]?==some (rawInt _))=true then _ else _) Q E s
           rw [if_neg (by intro h;rw [hn,Bool.false_and] at h;cases h)]
           exact wpAny_pure hQ))
noncomputable def Q9 (K:PySem.W.Frag) (a:Addr):It:=
 ⟨fun i H=>∃ xs x,fK K H a xs∧xs[i]?=some x,fun i H x H'=>H'=H∧∀ xs,fK K H a xs→xs[i]?=some x,fun i H=>∃ xs,fK K H a xs∧xs.length≤i⟩
noncomputable def Ra (K:PySem.W.Frag) (a:Addr):It:=
 ⟨fun i H=>∃ xs x,dG K H a xs∧xs[i]?=some x,fun i H x H'=>H'=H∧∀ xs,dG K H a xs→xs[i]?=some x,fun i H=>∃ xs,dG K H a xs∧xs.length≤i⟩
noncomputable def FF (lo:Int) (n:Nat):It:=⟨fun i _=>i<n,fun i H x H'=>H'=H∧x=.int (lo+i),fun i _=>n≤i⟩
theorem AR {P:Program}{w:World}{K:PySem.W.Frag}{tg:Expr}(a it:Addr):Turn P w K tg (Q9 K a) [it] it (fun i h=>h.IsListIter it a i) where
 mem:=by simp
 obj:=fun i h st b hb=>by
  have e:b=it:=by simpa using hb
  subst e
  obtain ⟨o,e,c,d⟩:=st
  exact ⟨o,e,fun v z=>by rw [d] at z;cases z⟩
 keep:=fun i h h' st k=>st.at fun o e=>k it (by simp) o e
 item:=by
  intro X hP hw hK hc i pins s σ H E I hf st hg
  subst hP hw hK
  obtain ⟨xs,x,hq,hx⟩:=hg
  obtain ⟨its,rv,p,hz⟩:=I.list hq
  obtain ⟨u,hu,ru⟩:=rv.get hx
  obtain ⟨f0,f1,f2,f3,f4,f5⟩:=hf it (by simp)
  refine wpAny_pyNext_list_item st p.isList (x:=u) (by simpa using hu) fun h' st' sb=>?_
  have I1:Inv X pins σ H { s with heap:=h' }:=I.turned (t':=s.toks) (fun b o hb e=>(sb.2 b hb).trans e) f0 f1 f3 f4 f5
  obtain ⟨o,e,c,d⟩:=id st'
  exact ⟨u,rfl,za (s:={ s with heap:=h' }) e c d (by decide) ⟨x,H,I1,ru,⟨rfl,fun ys hy=>by rw [I.C0 hy hq];exact hx⟩,st',fun b hb=>(hf b hb).1⟩⟩
 done:=by
  intro X hP hw hK hc i pins s σ H E I hf st hg
  subst hP hw hK
  obtain ⟨xs,hq,hx⟩:=hg
  obtain ⟨its,rv,p,hz⟩:=I.list hq
  obtain ⟨f0,f1,f2,f3,f4,f5⟩:=hf it (by simp)
  have hl:=rv.length
  exact wpAny_pyNext_list_end (I.ok.hd hc) st p.isList (by simp;omega) fun h' eb=>⟨rfl,I.turned (t':=s.toks) (fun b o hb e=>eb b o hb e) f0 f1 f3 f4 f5⟩
 self:=fun _ _ _ _ _ st h=>wpAny_pyIter_listiter st h
theorem zb {P:Program}{w:World}{K:PySem.W.Frag}{tg:Expr}(a it:Addr):Turn P w K tg (Ra K a) [it] it (fun i h=>h.IsTupleIter it a i) where
 mem:=by simp
 obj:=fun i h st b hb=>by
  have e:b=it:=by simpa using hb
  subst e
  obtain ⟨o,e,c,d⟩:=st
  exact ⟨o,e,fun v z=>by rw [d] at z;cases z⟩
 keep:=fun i h h' st k=>st.at fun o e=>k it (by simp) o e
 item:=by
  intro X hP hw hK hc i pins s σ H E I hf st hg
  subst hP hw hK
  obtain ⟨xs,x,hq,hx⟩:=hg
  obtain ⟨its,rv,p,hz⟩:=I.tuple hq
  obtain ⟨u,hu,ru⟩:=rv.get hx
  obtain ⟨f0,f1,f2,f3,f4,f5⟩:=hf it (by simp)
  refine wpAny_pyNext_tuple_item st (show s.heap.IsTuple a its.toArray from p) (x:=u) (by simpa using hu) fun h' st' sb=>?_
  have I1:Inv X pins σ H { s with heap:=h' }:=I.turned (t':=s.toks) (fun b o hb e=>(sb.2 b hb).trans e) f0 f1 f3 f4 f5
  obtain ⟨o,e,c,d⟩:=id st'
  exact ⟨u,rfl,za (s:={ s with heap:=h' }) e c d (by decide) ⟨x,H,I1,ru,⟨rfl,fun ys hy=>by rw [I.mU hy hq];exact hx⟩,st',fun b hb=>(hf b hb).1⟩⟩
 done:=by
  intro X hP hw hK hc i pins s σ H E I hf st hg
  subst hP hw hK
  obtain ⟨xs,hq,hx⟩:=hg
  obtain ⟨its,rv,p,hz⟩:=I.tuple hq
  obtain ⟨f0,f1,f2,f3,f4,f5⟩:=hf it (by simp)
  have hl:=rv.length
  exact wpAny_pyNext_tuple_end (I.ok.hd hc) st (show s.heap.IsTuple a its.toArray from p) (by simp;omega) fun h' eb=>⟨rfl,I.turned (t':=s.toks) (fun b o hb e=>eb b o hb e) f0 f1 f3 f4 f5⟩
 self:=fun _ _ _ _ _ st h=>wpAny_pyIter_tupleiter st h
theorem zc {P:Program}{w:World}{K:PySem.W.Frag}{tg:Expr}(it:Addr) (lo:Int) (n:Nat):Turn P w K tg (FF lo n) [it] it (fun i h=>IsRangeIter h it (lo+(i:Nat)*1) ((n:Int) - (i:Nat)) 1) where
 mem:=by simp
 obj:=fun i h st b hb=>by
  have e:b=it:=by simpa using hb
  subst e
  exact ⟨_,st,fun v z=>by
   have z':Data.fields _=Data.cell v:=z
   cases z'⟩
 keep:=fun i h h' st k=>k it (by simp) _ st
 item:=by
  intro X hP hw hK hc i pins s σ H E I hf st hg
  subst hP hw hK
  obtain ⟨f0,f1,f2,f3,f4,f5⟩:=hf it (by simp)
  have W:=Walks.range (prog:=X.prog) (w:=X.w) (I.ok.hd hc) it lo 1 n
  refine W.item i s _ _ hg st fun v h' tk hv st' kk=>?_
  obtain ⟨t,rfl⟩:=hv
  have I1:Inv X pins σ H { s with heap:=h',toks:=tk }:=I.turned (fun b o hb e=>kk b o (by simpa using hb) e) f0 f1 f3 f4 f5
  refine ⟨_,rfl,za (s:={ s with heap:=h',toks:=tk }) (n:="range_iterator") st' rfl rfl (by decide) ⟨.int (lo+i),H,I1,⟨t,?_⟩,⟨rfl,rfl⟩,st',fun b hb=>(hf b hb).1⟩⟩
  rw [Int.mul_one]
 done:=by
  intro X hP hw hK hc i pins s σ H E I hf st hg
  subst hP hw hK
  obtain ⟨f0,f1,f2,f3,f4,f5⟩:=hf it (by simp)
  exact wpAny_pyNext_range_end (I.ok.hd hc) st (by have:n≤i:=hg;omega) fun h' eb=>⟨rfl,I.turned (t':=s.toks) (fun b o hb e=>eb b o hb e) f0 f1 f3 f4 f5⟩
 self:=fun _ _ _ _ _ st h=>wpAny_pyIter_rangeiter st h
end L2
namespace L2
open PySem PySem.Spec PyProof.Rows
section
variable {X:Cx}{tg:Expr}
theorem C6 {pins:List (Addr×Obj)}{σ:St}{H:Hp}{s:Shared}{R:It→Hp→Prop}{E:Value→Shared→Prop}{lo hi:Int}{t u v:Tok}{tk:Nat}(I:Inv X pins σ H s) (h1:-(2 ^ 62)≤lo) (h2:lo<2 ^ 62) (h3:-(2 ^ 62)≤hi) (h4:hi<2 ^ 62)
  (q:R (FF lo (hi - lo).toNat) H):wpAny (model X.prog X.w) X.A (pyIter (.ref s.heap.objs.size)) (Q8 X pins σ tg R) E { s with heap:=s.heap.push { cls:=.type "range",data:=.fields #[.int lo t,.int hi u,.int 1 v]},toks:=tk }:=by
 refine wpAny_pyIter_range (IsRange.new ..) (small_one h1 h2 h3 h4) ?_
 have I1:Inv X pins σ H { s with heap:=s.heap.push { cls:=.type "range",data:=.fields #[.int lo t,.int hi u,.int 1 v]},toks:=tk }:=I.kept fun b o e=>Heap.get?_push_of_some _ e
 refine ⟨(s.heap.push { cls:=.type "range",data:=.fields #[.int lo t,.int hi u,.int 1 v]}).objs.size,[(s.heap.push { cls:=.type "range",data:=.fields #[.int lo t,.int hi u,.int 1 v]}).objs.size],_,_,H,rfl,
  I1.kept (t':=tk) fun b o e=>Heap.get?_push_of_some _ e,zc _ lo (hi - lo).toNat,?_,fun b hb=>?_,q⟩
 ·have e1:lo+((0:Nat):Int)*1=lo:=by simp
  have e2:(((hi - lo).toNat:Nat):Int) - ((0:Nat):Int)=Builtin.Range.rangeSize lo hi 1:=by rw [rangeSize_one];split <;> omega
  show IsRangeIter _ _ (lo+((0:Nat):Int)*1) ((((hi - lo).toNat:Nat):Int) - ((0:Nat):Int)) 1
  rw [e1,e2]
  exact Heap.get?_push_size _ rfl
 ·have e:b=(s.heap.push { cls:=.type "range",data:=.fields #[.int lo t,.int hi u,.int 1 v]}).objs.size:=by simpa using hb
  subst e
  exact I1.C5 (Nat.le_refl _) (I1.hok.fresh (Nat.le_refl _))
noncomputable def OL (ta:TA):TI:=fun σ H R=>ta σ H fun vs H1=>∃ j:Int,vs=[.int j]∧-(2 ^ 62)≤j∧j<2 ^ 62∧R (FF 0 j.toNat) H1
theorem AS {a:Expr}{ta:TA}{p pos:Pos}(hg:Gl X "range") (hm:X.mg "range" = none) (ha:PA X [a] ta) (hs:starEach [a] X.env=[(false,eval a X.env)]:=by rfl):PI X tg (.Call (.Name "range" p) [a] [] pos) (OL ta):=by
 intro pins s σ H R I h
 refine Call_ (mT I hg hm boot_range (PyProof.Rows.callWith_type1 (bJ (ha pos pins s σ H _ I h) fun us s1 ⟨vs,H1,I1,r1,q1⟩=>?_) hs rfl))
 obtain ⟨j,e,q1,q2,q⟩:=q1
 subst e
 cases r1 with
 | cons r rr=>
  cases rr
  obtain ⟨t,rfl⟩:=r
  exact call_range_1 (C6 I1 (by omega) (by omega) q1 q2 (by simpa using q))
noncomputable def Um (wi:TI) (g:TG) (tb:TS):TS:=fun D σ H=>wi σ H fun J H1=>∃ W:Nat→Nat→St→Hp→Prop,(∃ m,W 0 m σ H1)∧∀ i m σ H,W i m σ H→
 (J.stop i H∧D.nx σ H)∨(J.go i H∧∃ N:St→Hp→Prop,(∀ σ' H',N σ' H'→∃ m',m'<m∧W (i+1) m' σ' H')∧∀ x H',J.FE i H x H'→g x σ H' fun σ2 H2=>tb { D with nx:=N,ct:=N,bk:=D.nx } σ2 H2)
noncomputable def mV (fp:List Addr) (h:Heap):List (Addr×Obj):=fp.filterMap fun b=>(h.get? b).map fun o=>(b,o)
theorem jF {fp:List Addr}{h:Heap}{b:Addr}{o:Obj}(hb:b∈fp) (e:h.get? b=some o):(b,o)∈mV fp h:=List.mem_filterMap.mpr ⟨b,hb,by rw [e];rfl⟩
theorem AU {fp:List Addr}{h:Heap}{p:Addr×Obj}(hp:p∈mV fp h):p.1∈fp∧h.get? p.1=some p.2:=by
 obtain ⟨b,hb,e⟩:=List.mem_filterMap.mp hp
 cases q:h.get? b with
 | none=>rw [q] at e;cases e
 | some o=>
  rw [q] at e
  have e':(b,o)=p:=Option.some.inj e
  subst e'
  exact ⟨hb,q⟩
theorem Inv.pinned {pins:List (Addr×Obj)}{σ:St}{H:Hp}{s:Shared}{fp:List Addr}(I:Inv X pins σ H s) (hf:∀ b∈fp,iF X pins H b) (ho:∀ b∈fp,∃ o,s.heap.get? b=some o∧∀ v,o.data≠.cell v):Inv X (pins++mV fp s.heap) σ H s:=
 I.xJ fun p hp=>(List.mem_append.mp hp).elim (fun z=>I.pin p (List.mem_append_right _ z)) fun z=>by
  obtain ⟨hb,e⟩:=AU z
  obtain ⟨f0,f1,f2,_⟩:=hf p.1 hb
  obtain ⟨o,e',d⟩:=ho p.1 hb
  rw [e] at e';cases e'
  exact ⟨e,f0,f1,f2,d⟩
theorem Inv.lO {pins pl:List (Addr×Obj)}{σ:St}{H:Hp}{s:Shared}(I:Inv X (pins++pl) σ H s):Inv X pins σ H s:=I.xJ fun p hp=>I.pin p (List.mem_append_right _ (List.mem_append_left _ hp))
theorem J7 {iter:Expr}{body:List Stmt}{wi:TI}{g:TG}{tb:TS}{pos:Pos}(hp:PassesOwn (model X.prog X.w) X.A X.env X.xe) (hc:X.calm=true) (hi:PI X tg iter wi) (hg:PG X tg g) (hb:iE X body tb)
  (hs:∀ x,foldedSetIterable iter X.env x=pure x:=by intro _;rfl):PS X (.For tg iter body [] pos) (Um wi g tb):=by
 intro pins s σ H D I h
 refine wpAny_For (bJ (hi pins s σ H _ I h) fun v s1 h1=>bJ h1 fun itv s2 h2=>?_) hs
 obtain ⟨it,fp,tn,J,H2,e,I2,T,st2,f2,W,⟨m0,w0⟩,turn⟩:=h2
 subst e
 have lP:∀ {H':Hp},(∀ b∈fp,H' b=none)→∀ b∈fp,iF X pins H' b:=fun hn b hb=>⟨hn b hb,(f2 b hb).2⟩
 refine codeAny_forLoop_any (fun n s'=>∃ i σ' H',Inv X pins σ' H' s'∧tn i s'.heap∧(∀ b∈fp,H' b=none)∧W i n σ' H') ?_ m0 ⟨0,σ,H2,I2,st2,fun b hb=>(f2 b hb).1,w0⟩
 rintro n s3 ⟨i,σ3,H3,I3,st3,bG,w3⟩
 rcases turn i n σ3 H3 w3 with ⟨stop,qn⟩ | ⟨go,N,hN,step⟩
 ·refine wpAny_passesOwn hp (bJ (T.done X rfl rfl rfl hc i pins s3 σ3 H3 X.xe I3 (lP bG) st3 stop) fun r s4 ⟨hr,I4⟩=>?_)
  subst hr
  exact wpAny_execs_nil ⟨σ3,H3,I4,qn⟩
 ·refine wpAny_passesOwn hp (bJ (T.item X rfl rfl rfl hc i pins s3 σ3 H3 X.xe I3 (lP bG) st3 go) fun r s4 ⟨u,hr,h4⟩=>?_)
  subst hr
  refine wpAny_passesOwn hp (bJ h4 fun _ s5 ⟨x,H5,I5,r5,y5,xQ,mW⟩=>?_)
  have VT:=I5.pinned (lP mW) (T.obj _ _ xQ)
  refine wpAny_passesOwn hp (bJ (hg _ s5 σ3 H5 x u _ VT r5 (step x H5 y5)) fun _ s6 ⟨VU,H6,I6,q6⟩=>?_)
  refine wpAny_passesOwn hp (bJ (hb _ s6 VU H6 _ I6 q6) fun f s7 q7=>?_)
  have again:∀ {mX:St} {H7:Hp},Inv X (pins++mV fp s5.heap) mX H7 s7→N mX H7→∃ m,m<n∧∃ i σ' H',Inv X pins σ' H' s7∧tn i s7.heap∧(∀ b∈fp,H' b=none)∧W i m σ' H':=fun {mX H7} I7 n7=>by
   obtain ⟨m',hm,w7⟩:=hN mX H7 n7
   refine ⟨m',hm,i+1,mX,H7,I7.lO,T.keep _ _ _ xQ fun b hb o e=>(I7.pin (b,o) (List.mem_append_right _ (List.mem_append_right _ (jF hb e)))).1,fun b hb=>?_,w7⟩
   obtain ⟨o,e,d⟩:=T.obj _ _ xQ b hb
   exact (I7.pin (b,o) (List.mem_append_right _ (List.mem_append_right _ (jF hb e)))).2.1
  cases f with
  | next=>obtain ⟨mX,H7,I7,n7⟩:=q7;exact again I7 n7
  | cont=>obtain ⟨mX,H7,I7,n7⟩:=q7;exact again I7 n7
  | brk=>obtain ⟨mX,H7,I7,q7⟩:=q7;exact ⟨mX,H7,I7.lO,q7⟩
  | ret v=>obtain ⟨x7,mX,H7,I7,r7,q7⟩:=q7;exact ⟨x7,mX,H7,I7.lO,r7,q7⟩
end
end L2
namespace L2
open PySem PySem.Spec PyProof.Rows
abbrev R2:=V→V→Hp→VK→Prop
noncomputable def dB (X:Cx) (f:Value→Value→Sem Value) (r:R2):Prop:=
 ∀ (pins:List (Addr×Obj)) (s:Shared) (σ:St) (H:Hp) (x y:V) (v u:Value) (Q:VK),Inv X pins σ H s→RelV x v→RelV y u→r x y H Q→
  wpAny (model X.prog X.w) X.A (f v u) (EP X pins σ Q) X.xe s
noncomputable def J8 (X:Cx) (f:Value→Sem Value) (r:V→Hp→VK→Prop):Prop:=
 ∀ (pins:List (Addr×Obj)) (s:Shared) (σ:St) (H:Hp) (x:V) (v:Value) (Q:VK),Inv X pins σ H s→RelV x v→r x H Q→
  wpAny (model X.prog X.w) X.A (f v) (EP X pins σ Q) X.xe s
noncomputable def gD (X:Cx) (f:Value) (r:List V→Hp→VK→Prop):Prop:=
 ∀ (pins:List (Addr×Obj)) (s:Shared) (σ:St) (H:Hp) (xs:List V) (us:List Value) (Q:VK),Inv X pins σ H s→Vals xs us→r xs H Q→
  wpAny (model X.prog X.w) X.A (call f us) (EP X pins σ Q) X.xe s
noncomputable def Uo (X:Cx) (r:V→Hp→(Bool→Hp→Prop)→Prop):Prop:=
 ∀ (pins:List (Addr×Obj)) (s:Shared) (σ:St) (H:Hp) (x:V) (v:Value) (Q:Bool→Hp→Prop),Inv X pins σ H s→RelV x v→r x H Q→
  wpAny (model X.prog X.w) X.A (truthy v) (TP X pins σ Q) X.xe s
noncomputable def AV (r:R2) (ta tb:TE):TE:=fun σ H Q=>ta σ H fun x H1=>tb σ H1 fun y H2=>r x y H2 Q
noncomputable def VV (r:V→Hp→VK→Prop) (ta:TE):TE:=fun σ H Q=>ta σ H fun x H1=>r x H1 Q
noncomputable def rI (C:Int→Int→Prop) (g:Int→Int→V):R2:=fun x y H Q=>∃ i j,x=.int i∧y=.int j∧C i j∧Q (g i j) H
noncomputable def uG (g:Int→Int→V):R2:=fun x y H Q=>∃ i j,x=.int i∧y=.int j∧Q (g i j) H
noncomputable def rU (g:Int→V):V→Hp→VK→Prop:=fun x H Q=>∃ i,x=.int i∧Q (g i) H
section
variable {X:Cx}{a b c:Expr}{ta tb tc:TE}{pos:Pos}
theorem zd (ha:PE X a ta) (hb:PE X b tb) {pins:List (Addr×Obj)}{s:Shared}{σ:St}{H:Hp}{R:V→V→Hp→Prop}(I:Inv X pins σ H s)
  (h:ta σ H fun x H1=>tb σ H1 fun y H2=>R x y H2) {Q:Value→Shared→Prop} {f:Value→Value→Sem Value}
  (hf:∀ v u s2 x y H2,Inv X pins σ H2 s2→RelV x v→RelV y u→R x y H2→wpAny (model X.prog X.w) X.A (f v u) Q X.xe s2) :
  wpAny (model X.prog X.w) X.A (eval a X.env) (fun v s₁=>wpAny (model X.prog X.w) X.A (eval b X.env) (fun u s₂=>wpAny (model X.prog X.w) X.A (f v u) Q X.xe s₂) X.xe s₁) X.xe s:=by
 refine bJ (ha pins s σ H _ I h) fun v s1 ⟨x,H1,I1,r1,q1⟩=>?_
 refine bJ (hb pins s1 σ H1 _ I1 q1) fun u s2 ⟨y,H2,I2,r2,q2⟩=>?_
 exact hf v u s2 x y H2 I2 r1 r2 q2
theorem OM {op:Operator}{r:R2}(ho:dB X (binaryOp op) r) (ha:PE X a ta) (hb:PE X b tb):PE X (.BinOp a op b pos) (AV r ta tb):=by
 intro pins s σ H Q I h
 exact wpAny_BinOp (zd ha hb I h fun v u s2 x y H2 I2 rx ry q=>ho pins s2 σ H2 x y v u Q I2 rx ry q)
theorem ON {op:UnaryOp}{r:V→Hp→VK→Prop}(ho:J8 X (unaryOp op) r) (ha:PE X a ta):PE X (.UnaryOp op a pos) (VV r ta):=by
 intro pins s σ H Q I h
 exact UnaryOp_ (bJ (ha pins s σ H _ I h) fun v s1 ⟨x,H1,I1,r1,q1⟩=>ho pins s1 σ H1 x v Q I1 r1 q1)
theorem J9 {f:Value→Value→Sem Value}{C:Int→Int→Prop}{g:Int→Int→Int}
  (rule:∀ (i j:Int) (t u:Tok) (s:Shared) (Q:Value→Shared→Prop) (E:Value→Shared→Prop),C i j→Q (.int (g i j) s.toks) { s with toks:=s.toks+1 }→wpAny (model X.prog X.w) X.A (f (.int i t) (.int j u)) Q E s) :
  dB X f (rI C fun i j=>.int (g i j)):=by
 intro pins s σ H x y v u Q I rx ry h
 obtain ⟨i,j,rfl,rfl,hc,q⟩:=h
 obtain ⟨t,rfl⟩:=rx
 obtain ⟨t',rfl⟩:=ry
 exact rule i j t t' s _ _ hc ⟨.int (g i j),H,I.tok _,⟨_,rfl⟩,q⟩
theorem Ka {f:Value→Value→Sem Value}{g:Int→Int→Int}
  (rule:∀ (i j:Int) (t u:Tok) (s:Shared) (Q:Value→Shared→Prop) (E:Value→Shared→Prop),Q (.int (g i j) s.toks) { s with toks:=s.toks+1 }→wpAny (model X.prog X.w) X.A (f (.int i t) (.int j u)) Q E s) :
  dB X f (uG fun i j=>.int (g i j)):=by
 intro pins s σ H x y v u Q I rx ry h
 obtain ⟨i,j,rfl,rfl,q⟩:=h
 obtain ⟨t,rfl⟩:=rx
 obtain ⟨t',rfl⟩:=ry
 exact rule i j t t' s _ _ ⟨.int (g i j),H,I.tok _,⟨_,rfl⟩,q⟩
theorem Kc {f:Value→Value→Sem Value}{g:Int→Int→Bool}
  (rule:∀ (i j:Int) (t u:Tok) (s:Shared) (Q:Value→Shared→Prop) (E:Value→Shared→Prop),Q (.bool (g i j)) s→wpAny (model X.prog X.w) X.A (f (.int i t) (.int j u)) Q E s) :
  dB X f (uG fun i j=>.bl (g i j)):=by
 intro pins s σ H x y v u Q I rx ry h
 obtain ⟨i,j,rfl,rfl,q⟩:=h
 obtain ⟨t,rfl⟩:=rx
 obtain ⟨t',rfl⟩:=ry
 exact rule i j t t' s _ _ ⟨.bl (g i j),H,I,rfl,q⟩
noncomputable def Up (i j:Int):Prop:=0<j∧j<1073741824
noncomputable def C7 (i j:Int):Prop:=(-(2 ^ 64)<i∧i<2 ^ 64)∨(-(2 ^ 64)<j∧j<2 ^ 64)
theorem C7.ok {i j:Int}(h:C7 i j):IntMulOk i j:=by
 rcases h with ⟨h1,h2⟩ | ⟨h1,h2⟩
 ·exact .of_left (intBits_le_64 h1 h2)
 ·exact .of_right (intBits_le_64 h1 h2)
theorem Kd:dB X (binaryOp .Add) (uG fun i j=>.int (i+j)):=Ka fun _ _ _ _ _ _ _ q=>add_int q
theorem Ke:dB X (binaryOp .Sub) (uG fun i j=>.int (i - j)):=Ka fun _ _ _ _ _ _ _ q=>sub_int q
theorem Kf:dB X (binaryOp .Mult) (rI C7 fun i j=>.int (i*j)):=J9 fun _ _ _ _ _ _ _ hc q=>mul_int q hc.ok
theorem Hi:dB X (binaryOp .FloorDiv) (rI Up fun i j=>.int (i / j)):=J9 fun i j _ _ _ _ _ hc q=>by
 have h1:(0:Int)<j:=hc.1
 have h2:j<1073741824:=hc.2
 exact floordiv_int (by omega) (by rw [Int.fdiv_eq_ediv_of_nonneg i (by omega)];exact q) (.inl (PyProof.noPylong_small (by omega)))
theorem Kg:dB X (binaryOp .Mod) (rI (fun _ j=>0<j) fun i j=>.int (i % j)):=J9 fun i j _ _ _ _ _ hc q=>by
 have h1:(0:Int)<j:=hc
 exact mod_int' (by omega) (by rw [Int.fmod_eq_emod_of_nonneg i (by omega)];exact q)
theorem VW {f:Value→Sem Value}{g:Int→Int}
  (rule:∀ (i:Int) (t:Tok) (s:Shared) (Q:Value→Shared→Prop) (E:Value→Shared→Prop),Q (.int (g i) s.toks) { s with toks:=s.toks+1 }→wpAny (model X.prog X.w) X.A (f (.int i t)) Q E s) :
  J8 X f (rU fun i=>.int (g i)):=by
 intro pins s σ H x v Q I rx h
 obtain ⟨i,rfl,q⟩:=h
 obtain ⟨t,rfl⟩:=rx
 exact rule i t s _ _ ⟨.int (g i),H,I.tok _,⟨_,rfl⟩,q⟩
theorem Kh:J8 X (unaryOp .USub) (rU fun i=>.int (-i)):=VW fun _ _ _ _ _ q=>neg_int q
end
section
variable {X:Cx}{a b c:Expr}{ta tb tc:TE}{pos:Pos}
theorem AW {pins:List (Addr×Obj)}{σ:St}{H:Hp}{s:Shared}{Q:VK}{k k':Bool}(I:Inv X pins σ H s) (q:Q (.bl k) H) (e:k=k'):EP X pins σ Q (.bool k') s:=by
 subst e
 exact ⟨.bl k,H,I,rfl,q⟩
theorem OO:dB X (compareOp .Lt) (uG fun i j=>.bl (decide (i<j))):=Kc fun _ _ _ _ _ _ _ q=>lt_int q
theorem OP:dB X (compareOp .Gt) (uG fun i j=>.bl (decide (j<i))):=Kc fun _ _ _ _ _ _ _ q=>gt_int q
theorem Kl:dB X (compareOp .Is) (fun x y H Q=>y=.aP∧Q (.bl (decide (x=.aP))) H):=by
 intro pins s σ H x y v u Q I rx ry h
 obtain ⟨rfl,q⟩:=h
 cases ry
 refine is_none_gen (AW I q ?_)
 cases x <;> first
  | (cases rx;rfl)
  | (obtain ⟨t,rfl⟩:=rx;rfl)
theorem Hj:dB X (compareOp .IsNot) (fun x y H Q=>y=.aP∧Q (.bl (!decide (x=.aP))) H):=by
 intro pins s σ H x y v u Q I rx ry h
 obtain ⟨rfl,q⟩:=h
 cases ry
 refine isnot_none_gen (AW I q ?_)
 cases x <;> first
  | (cases rx;rfl)
  | (obtain ⟨t,rfl⟩:=rx;rfl)
theorem gK (b:Expr) {op:CmpOp}(h:op≠.In:=by decide) (h2:op≠.NotIn:=by decide):behindInMarks op b=false:=by
 have e1:(op==CmpOp.In)=false:=by cases op <;> first | rfl | exact absurd rfl h
 have e2:(op==CmpOp.NotIn)=false:=by cases op <;> first | rfl | exact absurd rfl h2
 cases b <;> simp [behindInMarks,e1,e2]
theorem Hl {op:CmpOp}{r:R2}(ho:dB X (compareOp op) r) (ha:PE X a ta) (hb:PE X b tb) (hm:behindInMarks op b=false):PE X (.Compare a [op] [b] pos) (AV r ta tb):=by
 intro pins s σ H Q I h
 exact wpAny_Compare1 (zd ha hb I h fun v u s2 x y H2 I2 rx ry q=>ho pins s2 σ H2 x y v u Q I2 rx ry q) hm
noncomputable def OQ (t:TE):TT:=fun σ H Q=>t σ H fun x H'=>∃ k,x=.bl k∧Q k H'
theorem Ho {op:CmpOp}{r:R2}(ho:dB X (compareOp op) r) (ha:PE X a ta) (hb:PE X b tb) (hm:behindInMarks op b=false):PT X (.Compare a [op] [b] pos) (OQ (AV r ta tb)):=by
 intro pins s σ H Q I h
 refine wpAny_isTrue_Compare1 (bJ (ha pins s σ H _ I h) fun v s1 ⟨x,H1,I1,r1,q1⟩=>bJ (hb pins s1 σ H1 _ I1 q1) fun u s2 ⟨y,H2,I2,r2,q2⟩=>
  bJ (ho pins s2 σ H2 x y v u _ I2 r1 r2 q2) fun c s3 ⟨z,H3,I3,r3,k,e,q3⟩=>?_) hm
 subst e
 cases r3
 exact wpAny_truthy_bool ⟨H3,I3,q3⟩
noncomputable def C8 (K:PySem.W.Frag) (x:V) (H:Hp) (k:Bool):Prop:=
 match x with
 | .aP=>k=false
 | .bl b=>k=b
 | .int i=>k=(i != 0)
 | .str y=>y.length≤sizeLine∧k=((y.length:Int) != 0)
 | .AH y=>y.size≤sizeLine∧k=((y.size:Int) != 0)
 | .ref p=>(∃ xs,fK K H p xs∧k = !xs.isEmpty)∨(∃ xs,dG K H p xs∧k = !xs.isEmpty)∨∃ kvs,H p=some (.dK kvs)∧k = !kvs.isEmpty
 | _=>False
theorem ze {κ:Type}{kvs:List (κ×V)}{vs:List (κ×Value)}(r:KV kvs vs):(!vs.isEmpty) = !kvs.isEmpty:=by
 cases r <;> rfl
theorem pY {xs:List V}{its:List Value}(r:Vals xs its):(!its.toArray.isEmpty) = !xs.isEmpty:=by
 cases r <;> simp
theorem kN:(sizeLine:Nat)<2 ^ 63:=by rw [sizeLine_eq];decide
theorem Km:Uo X (fun x H Q=>∃ k,C8 X.K x H k∧Q k H):=by
 intro pins s σ H x v Q I rx h
 obtain ⟨k,e,q⟩:=h
 have hl:=kN
 have hs:sizeLine=16777216:=sizeLine_eq
 cases x with
 | aP=>
  cases rx
  have e':k=false:=e
  subst e'
  exact truthy_none ⟨H,I,q⟩
 | bl b=>
  cases rx
  have e':k=b:=e
  subst e'
  exact wpAny_truthy_bool ⟨H,I,q⟩
 | int i=>
  obtain ⟨t,rfl⟩:=rx
  have e':k=(i != 0):=e
  subst e'
  exact PySem.P.truthy_int ⟨H,I,q⟩
 | str y=>
  obtain ⟨t,rfl⟩:=rx
  obtain ⟨hy,e'⟩:y.length≤sizeLine∧k=((y.length:Int) != 0):=e
  subst e'
  exact PySem.P.truthy_str (by omega) ⟨H,I.tok _,q⟩
 | AH y=>
  obtain ⟨t,rfl⟩:=rx
  obtain ⟨hy,e'⟩:y.size≤sizeLine∧k=((y.size:Int) != 0):=e
  subst e'
  exact PySem.W.truthy_bytes (by omega) ⟨H,I.tok _,q⟩
 | ref p=>
  cases rx
  have e':(∃ xs,fK X.K H p xs∧k = !xs.isEmpty)∨(∃ xs,dG X.K H p xs∧k = !xs.isEmpty)∨∃ kvs,H p=some (.dK kvs)∧k = !kvs.isEmpty:=e
  rcases e' with ⟨xs,hx,e'⟩ | ⟨xs,hx,e'⟩ | ⟨kvs,hx,e'⟩
  ·subst e'
   obtain ⟨its,r,pl,hz⟩:=I.list hx
   have hlen:=r.length
   exact wpAny_truthy_list pl.isList (by simp only [List.size_toArray];omega) ⟨H,I.tok _,by rw [pY r];exact q⟩
  ·subst e'
   obtain ⟨its,r,pl,hz⟩:=I.tuple hx
   have hlen:=r.length
   exact truthy_tuple pl (by simp only [List.size_toArray];omega) ⟨H,I.tok _,by rw [pY r];exact q⟩
  ·subst e'
   obtain ⟨hz,hS,vs,r,m⟩:kvs.length≤sizeLine∧(p==sysModules)=false∧∃ vs,KV kvs vs∧s.heap.DictOf (cE X.prog X.w) p vs:=I.hok p _ hx
   have hlen:kvs.length=vs.length:=Paired.length r
   exact wpAny_truthy_dict hS m (by omega) ⟨H,I.tok _,by rw [ze r];exact q⟩
 | _=>exact (show False from e).elim
theorem C9 (ha:PE X a ta) (he:∀ whole,isTrue a X.env whole=(do let v ←whole;standAt a.pos;holding [v] (truthy v))) :
  PT X a (fun σ H Q=>ta σ H fun x H'=>∃ k,C8 X.K x H' k∧Q k H'):=by
 intro pins s σ H Q I h
 exact isTrue_plain (bJ (ha pins s σ H _ I h) fun v s1 ⟨x,H1,I1,r1,q1⟩=>Km pins s1 σ H1 x v Q I1 r1 q1) (he _)
theorem zf:dB X (binaryOp .Add) (fun x y H Q=>∃ i j,x=.str i∧y=.str j∧i.length+j.length≤sizeLine∧Q (.str (i++j)) H):=by
 intro pins s σ H x y v u Q I rx ry h
 obtain ⟨i,j,rfl,rfl,hz,q⟩:=h
 obtain ⟨t,rfl⟩:=rx
 obtain ⟨t',rfl⟩:=ry
 exact add_str (fun t' tk=>⟨.str (i++j),H,I.tok _,⟨_,rfl⟩,q⟩) hz
theorem vals1 {x:V}{us:List Value}(r:Vals [x] us):∃ u,us=[u]∧RelV x u:=by
 cases r with
 | cons r1 r2=>cases r2;exact ⟨_,rfl,r1⟩
theorem vals2 {x y:V}{us:List Value}(r:Vals [x,y] us):∃ u w',us=[u,w']∧RelV x u∧RelV y w':=by
 cases r with
 | cons r1 r2=>
  cases r2 with
  | cons r3 r4=>cases r4;exact ⟨_,_,rfl,r1,r3⟩
theorem AX (hc:X.calm=true):gD X (.builtin "min") (fun xs H Q=>∃ i j,xs=[.int i,.int j]∧Q (.int (if j<i then j else i)) H):=by
 intro pins s σ H xs us Q I r h
 obtain ⟨i,j,rfl,q⟩:=h
 obtain ⟨u,w',rfl,⟨t,rfl⟩,⟨t',rfl⟩⟩:=vals2 r
 refine min_two_ints (I.ok.hd hc) fun h' tk k=>⟨_,H,I.kept k,?_,q⟩
 by_cases hj:j<i
 ·rw [if_pos hj,if_pos hj];exact ⟨_,rfl⟩
 ·rw [if_neg hj,if_neg hj];exact ⟨_,rfl⟩
end
end L2
namespace L2
open PySem PySem.Spec PyProof.Rows
structure Xp (h:Heap) (x dx C:Addr) (mA:Str→Option Value):Prop where
 obj:h.get? x=some (PySem.W.instObj C dx)
 ns:h.Ns1 dx mA
 ne:dx≠x
section
variable {prog:Program}{w:World}{A:Around}{E:Value→Shared→Prop}{s:Shared}{K:PySem.W.Frag}{x dx C f:Addr}{mA:Str→Option Value}{name:Str}{v:Value}
end
theorem jw.some_of {v:V}{o:Option Value}(r:jw (some v) o):∃ u,o=some u∧RelV v u:=by
 cases o with
 | none=>exact (show False from r).elim
 | some u=>exact ⟨u,rfl,r⟩
section
variable {P:Program}{w:World}{H H':Hp}{h h':Heap}{a C dx:Addr}{fs fs':List (Str×V)}
end
structure VX (K:PySem.W.Frag) (C:Addr):Prop where
 pg:PySem.W.plainGet K C Str.empty=true
 hd:PySem.W.hasDictIn K C=true
 po:PySem.W.plainOver K C=true
 sa:PySem.W.findIn K (.ref C) "__setattr__" = some (some (.builtin "object.__setattr__"))
structure Xr (K:PySem.W.Frag) (C:Addr) (f:Str) (v:V) (u:Value):Prop where
 at_:PySem.W.findIn K (.ref C) f=some (some u)
 rel:RelV v u
 get:PySem.W.specialIn K u "__get__" = some none
 cp:PySem.W.copiedNames.contains f=false
structure Meth (K:PySem.W.Frag) (C:Addr) (m:Str) (f:Addr):Prop where
 at_:PySem.W.findIn K (.ref C) m=some (some (.ref f))
 fn:PySem.W.isFn K (.ref f)=true
 kp:PySem.W.keepIn K (.ref f)=true
section
variable {X:Cx}{pins:List (Addr×Obj)}{σ:St}{H:Hp}{s:Shared}{a C dx:Addr}{fs:List (Str×V)}{f:Str}{v:V}{A:Around}{E:Value→Shared→Prop}
end
section
variable {X:Cx}{o e value:Expr}{f:Str}{pos pos' tpos:Pos}{ta tv:TE}
end
section
variable {X:Cx}{pins:List (Addr×Obj)}{σ:St}{H:Hp}{s:Shared}{A:Around}{E:Value→Shared→Prop}{Q:Value→Shared→Prop}{c:Value}{b:Bool}
inductive jT (K:PySem.W.Frag) (H:Hp):V→Value→Prop where
 | aP:jT K H .aP (.type "NoneType")
 | bl (x:Bool):jT K H (.bl x) (.type "bool")
 | int (i:Int):jT K H (.int i) (.type "int")
 | str (x:Str):jT K H (.str x) (.type "str")
 | AI (x:UInt64):jT K H (.AI x) (.type "float")
 | lst {a:Addr} {xs:List V} (e:H a=some (.lst xs)):jT K H (.ref a) (.type "list")
 | bR {a:Addr} {o:Obj} {xs:List V} (e:H a=some (.bR o (.lst xs))):jT K H (.ref a) (.type "list")
 | tup {a:Addr} {xs:List V} (e:H a=some (.tup xs)):jT K H (.ref a) (.type "tuple")
 | dK {a:Addr} {kvs:List (Key×V)} (e:H a=some (.dK kvs)):jT K H (.ref a) (.type "dict")
 | dT {a:Addr} {kvs:List (List Key×V)} (e:H a=some (.dT kvs)):jT K H (.ref a) (.type "dict")
 | ins {a C dx:Addr} {fs:List (Str×V)} (e:H a=some (.ins C dx fs)) (cl:VX K C) (ha:PySem.W.findIn K (.ref C) "__class__" = some (some (.builtin "object.__class__")))
   (hn:PySem.W.specialIn K (.builtin "object.__class__") "__get__" = some (some (.builtin "getset_descriptor.__get__"))) (htk:PySem.W.takesIn K (.builtin "object.__class__")=some true)
   (hm:PySem.W.mroIn K C (.type "object")=some true):jT K H (.ref a) (.ref C)
end
end L2
namespace L2
open PySem PySem.Spec PyProof.Rows
structure gg (k:Nat) (A:Around):Prop where
 hd:A.handled=none
 dp:A.depth+3*k+5<recursionLimit
 un:A.units+16*k+200<cLine
theorem gg.deeper {k:Nat}{A:Around}(r:gg (k+1) A) (env:Env):gg k (A.deeper env):=
 ⟨r.hd,by have:=r.dp;show A.depth+1+3*k+5<_;omega,by have:=r.un;show A.units+3+16*k+200<_;omega⟩
theorem gg.depth {k:Nat}{A:Around}(r:gg k A):A.depth<recursionLimit:=by have:=r.dp;omega
theorem gg.units {k:Nat}{A:Around}(r:gg k A):A.units+64<cLine:=by have:=r.un;omega
noncomputable def Uq:TA:=fun _ H Q=>Q [] H
noncomputable def OR (ta:TE) (tr:TA):TA:=fun σ H Q=>ta σ H fun x H1=>tr σ H1 fun xs H2=>Q (x :: xs) H2
section
variable {X:Cx}{e:Expr}{es:List Expr}{te:TE}{t:TA}{pos:Pos}
theorem uH:PA X [] Uq:=fun _ _ _ _ H Q I h=>Calls.spliced_nil ⟨[],H,I,.nil,h⟩
theorem rq (ha:PE X e te) (hr:PA X es t) (hs:starEach (e :: es) X.env=(false,eval e X.env) :: starEach es X.env:=by rfl):PA X (e :: es) (OR te t):=by
 intro pos pins s σ H Q I h
 rw [hs]
 show wpAny _ _ (spliced ((false,eval e X.env) :: backTo pos (starEach es X.env))) _ _ s
 refine Calls.spliced_cons (bJ (ha pins s σ H _ I h) fun u s1 ⟨x,H1,I1,r1,q1⟩=>?_)
 exact bJ (hr pos pins s1 σ H1 _ I1 q1) fun us s2 ⟨xs,H2,I2,r2,q2⟩=>⟨x :: xs,H2,I2,.cons r1 r2,q2⟩
noncomputable def Ur (t:TA):TE:=fun σ H Q=>t σ H fun xs H1=>xs.length≤sizeLine∧∀ p,H1 p=none→Q (.ref p) (upd H1 p (.tup xs))
noncomputable def Us (t:TA):TE:=fun σ H Q=>t σ H fun xs H1=>xs.length≤sizeLine∧∀ p,H1 p=none→Q (.ref p) (upd H1 p (.lst xs))
theorem Kn {x1}(h:PA X es t):PE X (.Tuple es x1 pos) (Ur t):=by
 intro pins s σ H Q I hq
 refine wpAny_Tuple_spliced (bJ (h pos pins s σ H _ I hq) fun us s1 ⟨xs,H1,I1,r,z,q⟩=>⟨by rw [←r.length];exact z,?_⟩)
 have hf:H1 s1.heap.objs.size=none:=I1.hok.fresh (Nat.le_refl _)
 refine ⟨.ref s1.heap.objs.size,upd H1 s1.heap.objs.size (.tup xs),I1.laid (t':=s1.toks) (fun b u e=>Heap.get?_push_of_some _ e) (Nat.le_refl _) ?_,rfl,q _ hf⟩
 exact ⟨z,us,r,⟨_,Heap.get?_push_size _ rfl,rfl,_,rfl⟩⟩
theorem Ko (h:PA X es t):PE X (.List es pos) (Us t):=by
 intro pins s σ H Q I hq
 refine wpAny_List_spliced (bJ (h pos pins s σ H _ I hq) fun us s1 ⟨xs,H1,I1,r,z,q⟩=>⟨by rw [←r.length];exact z,?_⟩)
 have hf:H1 s1.heap.objs.size=none:=I1.hok.fresh (Nat.le_refl _)
 refine ⟨.ref s1.heap.objs.size,upd H1 s1.heap.objs.size (.lst xs),I1.laid (t':=s1.toks) (fun b u e=>Heap.get?_push_of_some _ e) (Nat.le_refl _) ?_,rfl,q _ hf⟩
 exact ⟨z,us,0,r,Heap.get?_push_size _ rfl⟩
end
abbrev Sp:=List V→Hp→VK→XK→Prop
abbrev mJ:=List Env→Hp→Shared→XK→Value→Shared→Prop
structure zg (P:Program) (w:World) (K:PySem.W.Frag) (mg:Str→Option Value) (base:Heap) (A:Around) (outer:List Env) (s:Shared) (H:Hp):Prop where
 frames:A.frames=some outer
 mod:Mod K mg base
 bs:∀ b o,base.get? b=some o→s.heap.get? b=some o∧H b=none
 sF:base.objs.size≤s.heap.objs.size
 jx:s.heap.FunFrames base outer
 uB:∀ b∈frs outer,H b=none
 hok:eS P w H s.heap
 bare:AllBare s.gens
noncomputable def CE (outer:List Env) (P:Program) (w:World) (H:Hp) (s:Shared) (Q:VK) (u:Value) (s':Shared):Prop:=
 ∃ v H',s'.os=s.os∧AllBare s'.gens∧Un (frs outer) [] H H' s.heap s'.heap∧eS P w H' s'.heap∧RelV v u∧Q v H'
noncomputable def CR (CX:mJ) (outer:List Env) (P:Program) (w:World) (H:Hp) (s:Shared) (Q:VK) (E:XK) (r:Result) (s':Shared):Prop:=
 match r with
 | .ok (.ret u)=>CE outer P w H s Q u s'
 | .ok _=>False
 | .error e=>CX outer H s E e s'
structure iV (P:Program) (w:World) (K:PySem.W.Frag) (mg:Str→Option Value) (base:Heap) (CX:mJ) (k:Nat) (f:Addr) (fd:FuncData) (ps:List Str) (sp:Sp):Prop where
 len:∀ vs H Q E,sp vs H Q E→vs.length=ps.length
 run:∀ (A:Around) (outer:List Env) (s:Shared) (H:Hp) (args:Args) (us:List Value) (vs:List V) (Q:VK) (E:XK),gg k A→zg P w K mg base A outer s H→BindsTo s fd args (ps.zip us)→Vals vs us→sp vs H Q E→
  codeAny (model P w) A (.call (.ref f) args) (CR CX outer P w H s Q E) s
section
variable {X:Cx}{pins:List (Addr×Obj)}{σ:St}{H:Hp}{s s':Shared}
theorem Inv.Ut (I:Inv X pins σ H s):zg X.prog X.w X.K X.mg X.base X.A X.stack s H:=
 ⟨I.ok.frames,I.ok.mod,I.bs,Nat.le_trans I.ok.sF I.sz,I.stack,I.xH,I.hok,I.bare⟩
theorem Inv.after {Q:VK}{u:Value}(I:Inv X pins σ H s) (h:CE X.stack X.prog X.w H s Q u s'):EP X pins σ Q u s':=by
 obtain ⟨v,H',os,bare,un,hok,r,q⟩:=h
 obtain ⟨hh,g,d,t,os'⟩:=s'
 obtain rfl:os'=s.os:=os
 exact ⟨v,H',I.call (h':=hh) (g':=g) (d':=d) (t':=t) (ch:=[]) un hok bare (fun b z=>absurd z (by simp)),r,q⟩
end
noncomputable def OS (sp:Sp) (jU:List V) (E:XK) (t:TA):TE:=fun σ H Q=>t σ H fun vs H1=>sp (vs++jU) H1 Q E
noncomputable def Binds (K:PySem.W.Frag) (fd:FuncData) (ps:List Str) (ds:List Value):Prop:=
 ∀ (s:Shared) (us:List Value),K.In s.heap→(us++ds).length=ps.length→BindsTo s fd ⟨us,[]⟩ (ps.zip (us++ds))
theorem Binds.all {K:PySem.W.Frag}{fd:FuncData}{ps:List Str}(h:∀ us:List Value,us.length=ps.length→bindArgs fd ⟨us,[]⟩=pure (ps.zip us)):Binds K fd ps []:=fun s us _ hl=>by
 rw [List.append_nil] at hl ⊢
 exact .of_eq (h us hl)
noncomputable def Passes (CX:mJ) (X:Cx) (E:XK):Prop:=∀ (pins:List (Addr×Obj)) (σ:St) (H:Hp) (s:Shared) (e:Value) (s':Shared),Inv X pins σ H s→CX X.stack H s E e s'→X.xe e s'
section
variable {X:Cx}{CX:mJ}{k:Nat}{f C:Addr}{fd:FuncData}{ps:List Str}{sp:Sp}{jU:List V}{ds:List Value}{E:XK}{x m:Str}{p pos apos:Pos}{e o:Expr}{es:List Expr}{ta:TE}{t:TA}
theorem Kp {pins:List (Addr×Obj)}{σ:St}{H:Hp}{s:Shared}{Q:VK}{us:List Value}{vs:List V}(F:iV X.prog X.w X.K X.mg X.base CX k f fd ps sp) (hr:gg k X.A) (hb:Binds X.K fd ps ds) (hd:Vals jU ds) (hx:Passes CX X E)
  (I:Inv X pins σ H s) (r:Vals vs us) (h:sp (vs++jU) H Q E):wpAny (model X.prog X.w) X.A (call (.ref f) us) (EP X pins σ Q) X.xe s:=by
 have r2:Vals (vs++jU) (us++ds):=r.append hd
 have hl:(us++ds).length=ps.length:=by rw [←r2.length];exact F.len _ _ _ _ h
 refine wpAny_call (codeAny_mono (F.run X.A X.stack s H ⟨us,[]⟩ (us++ds) (vs++jU) Q E hr I.Ut (hb s us I.sG hl) r2 h) fun r s' hq=>?_)
 cases r with
 | error e=>exact hx pins σ H s e s' I hq
 | ok fl=>
  cases fl with
  | ret u=>exact I.after hq
  | next=>exact False.elim hq
  | brk=>exact False.elim hq
  | cont=>exact False.elim hq
theorem Hq (F:iV X.prog X.w X.K X.mg X.base CX k f fd ps sp) (hr:gg k X.A) (hg:Gl X x) (hm:X.mg x=some (.ref f)) (hk:PySem.W.keepIn X.K (.ref f)=true) (hb:Binds X.K fd ps ds) (hd:Vals jU ds) (hx:Passes CX X E)
  (ha:PA X (e :: es) t) (hdb:(x==("__debug__" : Str))=false:=by decide) (he:starEach (e :: es) X.env=(false,eval e X.env) :: starEach es X.env:=by rfl) (hpl:(backTo pos (starEach es X.env)).any (·.1)=false:=by rfl) :
  PE X (.Call (.Name x p) (e :: es) [] pos) (OS sp jU E t):=by
 intro pins s σ H Q I h
 refine wpAny_Call_Name_kw (xK I hg hm ?_ hdb)
 refine PySem.W.callWith_K (h₀:=X.base) I.ok.mod.Fv hk (bJ (ha pos pins s σ H _ I h) fun us s1 ⟨vs,H1,I1,r,q⟩=>⟨I1.sG,?_⟩) he hpl
 exact Kp F hr hb hd hx I1 r q
structure Mk (K:PySem.W.Frag) (C f:Addr):Prop where
 makes:PySem.W.makesIn K C=true
 init:PySem.W.findIn K (.ref C) "__init__" = some (some (.ref f))
 fn:PySem.W.isFn K (.ref f)=true
 kp:PySem.W.keepIn K (.ref C)=true
end
section
variable {X:Cx}{CX:mJ}{k:Nat}{f C:Addr}{fd:FuncData}{ps ks:List Str}{sp:Sp}{E:XK}{x m:Str}{p pos apos kpos:Pos}{e o:Expr}{es:List Expr}{kws:List Keyword}{te ta:TE}{t tk:TA}{nm:Option Str}
structure VY (K:PySem.W.Frag) (fd:FuncData) (ps ks:List Str) (g:List Value→List Value→List Value) (gV:List V→List V→List V):Prop where
 to:∀ (s:Shared) (us ws:List Value),K.In s.heap→(g us ws).length=ps.length→BindsTo s fd ⟨us,ks.zip ws⟩ (ps.zip (g us ws))
 rel:∀ {vs:List V} {us:List Value} {zs:List V} {ws:List Value},Vals vs us→Vals zs ws→Vals (gV vs zs) (g us ws)
variable {g:List Value→List Value→List Value}{gV:List V→List V→List V}
end
structure bq (N P:List Str) (sc:Scope):Prop where
 kind:sc.kind=.function
 co:sc.isCoroutine=false
 gen:sc.isGenerator=false
 nd:N.Nodup
 pre:N.take P.length=P
 par:∀ x∈P,sc.names.lookup x=some .local∨sc.names.lookup x=some .cell
 Kq:∀ y∈sc.names,y.2≠.free
theorem sJ {kindOf:Str→Option NameKind}{x:Str}:∀ {binds:List (Str×Value)}{m:Str→Option Value},(∀ v,(x,v)∉binds)→bindL kindOf binds m x=m x
 | [],_,_=>rfl
 | (n,v) :: r,m,h=>by
  unfold bindL
  rw [sJ fun w hw=>h w (List.mem_cons_of_mem _ hw)]
  split
  ·have:x≠n:=by rintro rfl;exact h v List.mem_cons_self
   simp [this]
  ·rfl
theorem sL {kindOf:Str→Option NameKind}{x:Str}:∀ {binds:List (Str×Value)}{m:Str→Option Value},(∀ v,(x,v)∉binds)→bindC kindOf binds m x=m x
 | [],_,_=>rfl
 | (n,v) :: r,m,h=>by
  unfold bindC
  rw [sL fun w hw=>h w (List.mem_cons_of_mem _ hw)]
  split
  ·rfl
  ·have:x≠n:=by rintro rfl;exact h v List.mem_cons_self
   simp [this]
theorem sM {kindOf:Str→Option NameKind}{x:Str}{v:Value}:∀ {P:List Str}{vs:List Value}{i:Nat}{m:Str→Option Value},P.Nodup→P[i]?=some x→vs[i]?=some v→kindOf x=some .local→
  bindL kindOf (P.zip vs) m x=some v
 | [],_,_,_,_,h,_,_=>by simp at h
 | _ :: _,[],_,_,_,_,h,_=>by simp at h
 | p :: P,w :: vs,0,m,nd,h1,h2,hk=>by
  simp at h1 h2;subst h1;subst h2
  show bindL kindOf ((p,w) :: P.zip vs) m p=_
  unfold bindL
  rw [sJ fun v hv=>(List.nodup_cons.mp nd).1 (List.of_mem_zip hv).1,if_pos hk]
  simp
 | p :: P,w :: vs,i+1,m,nd,h1,h2,hk=>by
  show bindL kindOf ((p,w) :: P.zip vs) m x=_
  unfold bindL
  exact sM (i:=i) (List.nodup_cons.mp nd).2 (by simpa using h1) (by simpa using h2) hk
theorem sN {kindOf:Str→Option NameKind}{x:Str}{v:Value}:∀ {P:List Str}{vs:List Value}{i:Nat}{m:Str→Option Value},P.Nodup→P[i]?=some x→vs[i]?=some v→kindOf x≠some .local→
  bindC kindOf (P.zip vs) m x=some v
 | [],_,_,_,_,h,_,_=>by simp at h
 | _ :: _,[],_,_,_,_,h,_=>by simp at h
 | p :: P,w :: vs,0,m,nd,h1,h2,hk=>by
  simp at h1 h2;subst h1;subst h2
  show bindC kindOf ((p,w) :: P.zip vs) m p=_
  unfold bindC
  rw [sL fun v hv=>(List.nodup_cons.mp nd).1 (List.of_mem_zip hv).1,if_neg hk]
  simp
 | p :: P,w :: vs,i+1,m,nd,h1,h2,hk=>by
  show bindC kindOf ((p,w) :: P.zip vs) m x=_
  unfold bindC
  exact sN (i:=i) (List.nodup_cons.mp nd).2 (by simpa using h1) (by simpa using h2) hk
noncomputable def start (N:List Str) (vs:List V):St:=vs.map some++List.replicate (N.length - vs.length) none
noncomputable def pJ (CX:mJ) (P:Program) (w:World) (K:PySem.W.Frag) (mg:Str→Option Value) (base:Heap) (N:List Str) (qual:Str) (scope:Scope) (f:Addr) (cd:Value) (A:Around) (outer:List Env) (s:Shared) (H:Hp) (E:XK):Cx where
 prog:=P
 w:=w
 K:=K
 mg:=mg
 base:=base
 A:=A.deeper (envOfC qual scope s.heap.objs.size f cd)
 N:=N
 s₀:=s
 H₀:=H
 env:=envOfC qual scope s.heap.objs.size f cd
 outer:=outer
 stack:=envOfC qual scope s.heap.objs.size f cd :: outer
 ex:=[]
 calm:=true
 fn:=fun _=>true
 pn:=[]
 xe:=fun e s'=>wpAny (model P w) (A.deeper (envOfC qual scope s.heap.objs.size f cd)) (leaving (envOfC qual scope s.heap.objs.size f cd) e) (fun _ s''=>CX outer H s E e s'') (fun e' s''=>CX outer H s E e' s'') s'
theorem uI {sc:Scope}{n:Nat}{x:Str}(h:sc.names.lookup x=some .cell):∃ c,(cellsFrom n sc.names []).lookup x=some c:=by
 have q:=PySem.W.cellsFrom_some sc.names n [] (.inl h)
 exact Option.isSome_iff_exists.mp q
theorem AY {CX:mJ}{P:Program}{w:World}{K:PySem.W.Frag}{mg:Str→Option Value}{base:Heap}{N ps:List Str}{qual:Str}{scope:Scope}{f:Addr}{cd:Value}{A:Around}{outer:List Env}{s s1:Shared}{H:Hp}{E:XK}{us:List Value}{vs:List V}
  (S:bq N ps scope) (hd:A.handled=none) (e0:zg P w K mg base A outer s H) (hl:vs.length=ps.length) (r:Vals vs us)
  (x:InCallC s s.heap.objs.size (bindL (envOfC qual scope s.heap.objs.size f cd).kindOf (ps.zip us) fun _=>none) (cellsFrom (s.heap.objs.size+1) scope.names []) (bindC (envOfC qual scope s.heap.objs.size f cd).kindOf (ps.zip us) fun _=>none) s1) :
  Inv (pJ CX P w K mg base N qual scope f cd A outer s H E) [] (start N vs) H s1:=by
 have hpl:ps.length≤N.length:=by have:=congrArg List.length S.pre;rw [List.length_take] at this;omega
 obtain ⟨h1,tk,rfl,hk⟩:=x.done
 have AZ:∀ b:Addr,b∉(pJ CX P w K mg base N qual scope f cd A outer s H E).ex:=fun b z=>absurd (show b∈([]:List Addr) from z) (by simp)
 refine ⟨⟨e0.mod,S.kind,rfl,rfl,Nat.le_refl _,fun y z c h1 h2=>?_,fun y hy=>?_,fun y c _ h=>?_,fun _=>hd,Around.frames_deeper e0.frames,.inr ⟨rfl,rfl⟩,fun b z=>absurd z (AZ b),e0.bs,e0.sF,fun b _ _=>AZ b,fun b z=>absurd z (AZ b),e0.jx,e0.uB⟩,
  rfl,e0.bare,Un.kept hk,⟨_,x.toInCall.ns,fun i y v h1 h2 h3=>?_⟩,fun y c h=>⟨_,x.cell y c h⟩,e0.hok.fresh (Nat.le_refl _),fun y c h=>?_,fun p hp=>absurd (show p∈([]:List (Addr×Obj)) from hp) (by simp),e0.hok.kept hk,?_⟩
 ·exact name_of_addr x.apart (PySem.mem_of_lookup h1) (PySem.mem_of_lookup h2)
 ·have hy:scope.names.lookup y=some .cell∨scope.names.lookup y=some .free:=hy
  rcases hy with hy | hy
  ·exact uI hy
  ·exact absurd rfl (S.Kq _ (PySem.mem_of_lookup hy))
 ·exact Nat.le_of_lt (x.above y c (PySem.mem_of_lookup h))
 ·have hi:i<vs.length:=by
   unfold start at h2
   by_cases hi:i<vs.length
   ·exact hi
   ·rw [List.getElem?_append_right (by simpa using hi)] at h2
    rw [List.getElem?_replicate] at h2
    split at h2 <;> cases h2
  have ha:vs[i]?=some v:=by
   unfold start at h2
   rw [List.getElem?_append_left (by simpa using hi),List.getElem?_map] at h2
   cases e:vs[i]? with
   | none=>rw [e] at h2;cases h2
   | some a=>rw [e] at h2;cases h2;rfl
  obtain ⟨u,hu,rv⟩:=r.get ha
  have hp:ps[i]?=some y:=by
   rw [←S.pre,List.getElem?_take_of_lt (by omega)];exact h1
  have Rb:ps.Nodup:=by rw [←S.pre];exact S.nd.sublist (List.take_sublist _ _)
  refine ⟨u,rv,?_⟩
  rcases S.par y (List.mem_of_getElem? hp) with k | k
  ·exact .inl ⟨k,sM Rb hp hu k⟩
  ·obtain ⟨c,e⟩:=uI (n:=s.heap.objs.size+1) k
   refine .inr ⟨.inl k,c,e,?_⟩
   have q:=x.cell y c e
   rw [sN Rb hp hu (by show scope.names.lookup y≠_;rw [k];decide)] at q
   exact q
 ·exact e0.hok.fresh (Nat.le_of_lt (x.above y c (PySem.mem_of_lookup h)))
 ·unfold start
  show _=N.length
  rw [List.length_append,List.length_map,List.length_replicate]
  omega
theorem OT {CX:mJ}{P:Program}{w:World}{K:PySem.W.Frag}{mg:Str→Option Value}{base:Heap}{k:Nat}{f:Addr}{name qual:Str}{params:Arguments}{body:List Stmt}{scope:Scope}{dV kV doc pm cdv ct oc:Value}{an od:Option Addr}
  {osl:Array (Option Value)} {N ps:List Str} {sp:Sp} (lk:K.lookup f=some ⟨oc,od,.func (PySem.W.fnOf name qual params body scope dV kV doc pm an cdv ct),osl⟩) (hcd:PySem.W.codeIn K cdv qual=true) (S:bq N ps scope)
  (len:∀ vs H Q E,sp vs H Q E→vs.length=ps.length)
  (hbody:∀ (A:Around) (outer:List Env) (s:Shared) (H:Hp) (vs:List V) (Q:VK) (E:XK),gg k (A.deeper (envOfC qual scope s.heap.objs.size f cdv))→sp vs H Q E→
   ∃ t,iE (pJ CX P w K mg base N qual scope f cdv A outer s H E) body t∧t { nx:=fun _ H'=>Q .aP H',rt:=Q } (start N vs) H) :
  iV P w K mg base CX (k+1) f (PySem.W.fnOf name qual params body scope dV kV doc pm an cdv ct) ps sp:=by
 refine ⟨len,fun A outer s H args us vs Q E hr e0 hb r kO=>?_⟩
 have hl:=len _ _ _ _ kO
 have KX:K.In s.heap:=e0.mod.Fv.keeps fun b o e=>(e0.bs b o e).1
 have lim:s.heap.NoLimit:=e0.mod.nolimit.keeps fun b o e=>(e0.bs b o e).1
 have hkind:∀ y∈ps.zip us,scope.names.lookup y.1=some .local∨(scope.names.lookup y.1=some .cell∧((cellsFrom (s.heap.objs.size+1) scope.names []).lookup y.1).isSome=true):=fun ⟨n,v⟩ hy=>by
  rcases S.par n (List.of_mem_zip hy).1 with q | q
  ·exact .inl q
  ·exact .inr ⟨q,PySem.W.cellsFrom_some _ _ _ (.inl q)⟩
 refine codeAny_call_function hr.depth (KX _ _ lk) rfl S.co S.gen rfl (PySem.W.codeRec_of KX hcd) (hb _ _ _ _ ?_)
 refine wpAny_newFunctionEnv_cells S.kind hkind fun env he s1 x=>?_
 subst he
 refine ⟨lim.keeps x.toInCall.keep,codeAny_func ?_⟩
 obtain ⟨t,ht,hq⟩:=hbody A outer s H vs Q E (hr.deeper _) kO
 have I:Inv (pJ CX P w K mg base N qual scope f cdv A outer s H E) [] (start N vs) H s1:=AY S hr.hd e0 hl r x
 refine wpAny_mono (ht [] s1 (start N vs) H _ I hq) (fun fl s' hs=>?_) fun e s' hs=>hs
 have fin:∀ {σ':St} {H':Hp} {v:V} {u:Value},Inv (pJ CX P w K mg base N qual scope f cdv A outer s H E) [] σ' H' s'→RelV v u→Q v H'→CE outer P w H s Q u s':=
  fun {σ' H' v u} J rv q=>⟨v,H',J.os,J.bare,J.base,J.hok,rv,q⟩
 cases fl with
 | ret u=>
  obtain ⟨v,σ',H',J,rv,q⟩:=hs
  exact fin J rv q
 | next=>
  obtain ⟨σ',H',J,q⟩:=hs
  exact fin (v:=V.aP) (u:=Value.none) J rfl q
 | brk=>
  obtain ⟨_,_,_,q⟩:=hs
  exact False.elim q
 | cont=>
  obtain ⟨_,_,_,q⟩:=hs
  exact False.elim q
end L2
namespace L2
open PySem PySem.Spec PyProof.Rows
section
variable {X:Cx}{x:Str}{p pos:Pos}{e:Expr}{es:List Expr}{t:TA}{id T:String}{r:List V→Hp→VK→Prop}
noncomputable def Kr (r:List V→Hp→VK→Prop) (t:TA):TE:=fun σ H Q=>t σ H fun vs H1=>r vs H1 Q
theorem Dc (hc:gD X (.builtin id) r) (hg:Gl X x) (hm:X.mg x=none) (hv:bootBuiltins x=some (.builtin id)) (ha:PA X (e :: es) t) (hn:x≠"__name__" :=by decide) (hdb:(x==("__debug__" : Str))=false:=by decide)
  (he:starEach (e :: es) X.env=(false,eval e X.env) :: starEach es X.env:=by rfl) (hpl:(backTo pos (starEach es X.env)).any (·.1)=false:=by rfl):PE X (.Call (.Name x p) (e :: es) [] pos) (Kr r t):=by
 intro pins s σ H Q I h
 refine wpAny_Call_Name_kw (mT I hg hm hv ?_ hn hdb)
 exact PyProof.Rows.callWith_builtin1 (bJ (ha pos pins s σ H _ I h) fun us s1 ⟨vs,H1,I1,r1,q1⟩=>hc pins s1 σ H1 vs us Q I1 r1 q1) he hpl
theorem A1 (hc:gD X (.type T) r) (hg:Gl X x) (hm:X.mg x=none) (hv:bootBuiltins x=some (.type T)) (ha:PA X (e :: es) t) (hn:x≠"__name__" :=by decide) (hdb:(x==("__debug__" : Str))=false:=by decide)
  (he:starEach (e :: es) X.env=(false,eval e X.env) :: starEach es X.env:=by rfl) (hpl:(backTo pos (starEach es X.env)).any (·.1)=false:=by rfl):PE X (.Call (.Name x p) (e :: es) [] pos) (Kr r t):=by
 intro pins s σ H Q I h
 refine wpAny_Call_Name_kw (mT I hg hm hv ?_ hn hdb)
 exact PyProof.Rows.callWith_type1 (bJ (ha pos pins s σ H _ I h) fun us s1 ⟨vs,H1,I1,r1,q1⟩=>hc pins s1 σ H1 vs us Q I1 r1 q1) he hpl
end
end L2
namespace HT
open PySem PyProof.Rows
section
open PySem.SeqAt
open PySem.AutoSeq1 (wpAny_loadPart')
open PySem.MeetsSeq PySem.MeetsSeq2 PySem.MeetsSeq3
end
section
variable {prog:Program}{w:World}{A:Around}{E:Value→Shared→Prop}{s:Shared}
theorem Hr {t b:Addr}{vs ws:List Value}{Q:Value→Shared→Prop}(ht:IsTup s.heap t vs.toArray) (hb:IsTup s.heap b ws.toArray) (hv:vs≠[])
  (h1:ws=[]→Q (.ref t) s) (h2:ws≠[]→Q (.ref s.heap.objs.size) { s with heap:=s.heap.push { cls:=.type "tuple",data:=.seq (vs++ws).toArray }})
  (hsz:vs.length+ws.length≤sizeLine):wpAny (model prog w) A (binaryOp .Add (.ref t) (.ref b)) Q E s:=by
 obtain ⟨⟨cls,dd,data,sl⟩,ho,hc,n,hd⟩:=id ht
 obtain ⟨⟨Uu,dd2,data2,sl2⟩,ho2,hc2,n2,hd2⟩:=id hb
 simp only at hc hd hc2 hd2
 subst hc hd hc2 hd2
 have e:vs.toArray++ws.toArray=(vs++ws).toArray:=by simp
 by_cases hw:ws=[]
 ·exact concat_meets ⟨_,ho,rfl⟩ ⟨_,ho2,rfl⟩ noFill_tuple_add seq_tuple_add PySem.F.slot_tuple_add PySem.F.entry_tuple_add (PySem.F.args_tuple_add_2 _ _)
   (tuple_addW1 t b vs.toArray ws.toArray n n2 dd dd2 sl sl2 (by simpa using hv) (by simp [hw])) ⟨ho,ho2,h1 hw⟩
 ·refine concat_meets ⟨_,ho,rfl⟩ ⟨_,ho2,rfl⟩ noFill_tuple_add seq_tuple_add PySem.F.slot_tuple_add PySem.F.entry_tuple_add (PySem.F.args_tuple_add_2 _ _)
   (tuple_addW2 t b vs.toArray ws.toArray n n2 dd dd2 sl sl2 (by simpa using hv) (by simpa using hw) (by rw [List.size_toArray,List.size_toArray];exact hsz)) ⟨ho,ho2,?_⟩
  rw [e]
  exact h2 hw
noncomputable def aS (n d:Nat):Option Int→Nat
 | none=>d
 | some v=>if v<0 then (v+(n:Int)).toNat else min v.toNat n
theorem uJ (n d:Nat) (hd:d≤n) (o:Option Int):aS n d o≤n:=by
 cases o with
 | none=>exact hd
 | some v=>
  show (if v<0 then (v+(n:Int)).toNat else min v.toNat n)≤n
  by_cases hv:v<0
  ·rw [if_pos hv];omega
  ·rw [if_neg hv];exact Nat.min_le_right _ _
theorem xR (v:Int) (n d:Nat):(if v<0 then max (v+(n:Int)) 0 else min v (n:Int))=((aS n d (some v):Nat):Int):=by
 show (if v<0 then max (v+(n:Int)) 0 else min v (n:Int))=(((if v<0 then (v+(n:Int)).toNat else min v.toNat n):Nat):Int)
 by_cases hv:v<0
 ·simp only [if_pos hv];omega
 ·simp only [if_neg hv];omega
theorem zh (lo hi:Option Int) (n:Nat):Builtin.Slice.sliceAdjust lo hi 1 (n:Int)=(((aS n 0 lo:Nat):Int),((aS n n hi:Nat):Int)):=by
 have h1:¬ ((1:Int)<0):=by omega
 unfold Builtin.Slice.sliceAdjust
 simp only [h1,if_false]
 refine Prod.ext ?_ ?_
 ·cases lo with
  | none=>rfl
  | some v=>exact xR v n 0
 ·cases hi with
  | none=>rfl
  | some v=>exact xR v n n
theorem zj (i j:Nat):Builtin.Slice.slicePlaces (i:Int) (j:Int) 1=j - i:=by
 unfold Builtin.Slice.slicePlaces
 have h1:(1:Int) > 0:=by omega
 simp only [h1,if_true,Int.ediv_one]
 split <;> omega
theorem pZ {v:Value}{o:Option Int}{Q:Option Int→Shared→Prop}(p:IsPart v o) (h:Q o s):wpAny (model prog w) A (Builtin.Slice.slicePartIndex v) Q E s:=by
 cases p with
 | none=>exact slicePart_none h
 | int i t=>exact slicePart_int h
theorem jV {sl:Addr}{vl vu:Value}{lo hi:Option Int}{n:Nat}{Q:Int×Int×Nat→Shared→Prop}(hs:s.heap.IsSliceOf sl vl vu .none)(pl:IsPart vl lo)(pu:IsPart vu hi)
  (h:Q (((aS n 0 lo:Nat):Int),1,aS n n hi - aS n 0 lo) s):wpAny (model prog w) A (Builtin.Slice.sliceApplied (.ref sl) (pure (n:Int))) Q E s:=by
 obtain ⟨os,hos,hcs,hds⟩:=id hs
 unfold Builtin.Slice.sliceApplied Builtin.Slice.sliceFields
 refine wpAny_bind (wpAny_bind (wpAny_field hos hds (x:=vl) rfl (wpAny_bind (wpAny_field hos hds (x:=vu) rfl (wpAny_bind (wpAny_field hos hds (x:=.none) rfl (wpAny_pure ?_)))))))
 refine wpAny_bind (slicePart_none ?_)
 show wpAny _ _ (if ((1:Int)==0)=true then _ else _) _ _ s
 rw [if_neg (by decide)]
 refine wpAny_bind (pZ pl (wpAny_bind (pZ pu (wpAny_bind (wpAny_pure ?_)))))
 show wpAny _ _ (match Builtin.Slice.sliceAdjust lo hi 1 (n:Int) with | (lo,hi)=>pure (lo,(1:Int),Builtin.Slice.slicePlaces lo hi 1)) _ _ s
 rw [zh lo hi n]
 show wpAny _ _ (pure (((aS n 0 lo:Nat):Int),(1:Int),Builtin.Slice.slicePlaces ((aS n 0 lo:Nat):Int) ((aS n n hi:Nat):Int) 1)) _ _ s
 rw [zj]
 exact wpAny_pure h
theorem De (xs:Array Value) (i k:Nat):((List.range k).filterMap fun (m:Nat)=>xs[((i:Int)+(m:Int)*1).toNat]?).toArray=((xs.toList.drop i).take k).toArray:=by
 have e:(fun (m:Nat)=>xs[((i:Int)+(m:Int)*1).toNat]?)=fun m=>xs[i+m]?:=by
  funext m
  have:((i:Int)+(m:Int)*1).toNat=i+m:=by omega
  rw [this]
 rw [e]
 have:=pick_run xs i k
 rw [List.filterMap_map] at this
 have e2:((fun x=>xs[x]?) ∘ fun x=>i+x)=fun m=>xs[i+m]?:=rfl
 rw [e2] at this
 rw [this]
theorem oU {t sl:Addr}{items:Array Value}{vl vu:Value}{lo hi:Option Int}{Q:Value→Shared→Prop}(ht:IsTup s.heap t items)(hs:s.heap.IsSliceOf sl vl vu .none)(pl:IsPart vl lo)(pu:IsPart vu hi)
  (hw:¬ (aS items.size 0 lo=0∧aS items.size items.size hi=items.size))
  (h:Q (.ref s.heap.objs.size) { s with heap:=s.heap.push { cls:=.type "tuple",data:=.seq ((items.toList.drop (aS items.size 0 lo)).take (aS items.size items.size hi - aS items.size 0 lo)).toArray }})
  (hsz:items.size≤sizeLine):wpAny (model prog w) A (getItem (.ref t) (.ref sl)) Q E s:=by
 have t7:sizeOk (.seq ((items.toList.drop (aS items.size 0 lo)).take (aS items.size items.size hi - aS items.size 0 lo)).toArray):=by
  show ((items.toList.drop (aS items.size 0 lo)).take (aS items.size items.size hi - aS items.size 0 lo)).toArray.size≤sizeLine
  rw [List.size_toArray,List.length_take,List.length_drop,Array.length_toList]
  omega
 have hj:aS items.size items.size hi≤items.size:=uJ _ _ (Nat.le_refl _) hi
 obtain ⟨os,hos,hcs,hds⟩:=id hs
 have Ks:s.TypeIs (.ref sl) "slice" :=⟨os,hos,hcs⟩
 unfold getItem
 try with_reducible refine wpAny_holding ?_
 first | refine wpAny_bind (wpAny_pure ?_) | skip
 refine wpAny_bind (wpAny_sequenceKey ht.typeIs (by decide) ?_)
 refine wpAny_bind (wpAny_callSpecial?_slot (name:=Str.ofString "__getitem__") ht.typeIs PyProof.Rows.slot_tuple_getitem
  (wpAny_call_entry PyProof.Rows.slot_tuple_getitem ht.typeIs entry_tuple_getitem ?_ (args_tuple_getitem _ _)))
 show wpAny _ _ (Builtin.Tuple.tupleItemsOf (.ref t) >>= _) _ _ s
 refine wpAny_bind (tupleItemsOf_ ht ?_)
 refine wpAny_bind (wpAny_typeOf Ks ?_)
 rw [if_pos (by decide)]
 refine wpAny_bind (jV hs pl pu ?_)
 have hno:¬ ((((aS items.size 0 lo:Nat):Int)==0&&(1:Int)==1&&(aS items.size items.size hi - aS items.size 0 lo)==items.size)=true):=by
  intro q
  rw [Bool.and_eq_true,Bool.and_eq_true] at q
  have q1:((aS items.size 0 lo:Nat):Int)=0:=eq_of_beq q.1.1
  have q2:aS items.size items.size hi - aS items.size 0 lo=items.size:=eq_of_beq q.2
  exact hw ⟨by omega,by omega⟩
 show wpAny _ _ (if (((aS items.size 0 lo:Nat):Int)==0&&(1:Int)==1&&(aS items.size items.size hi - aS items.size 0 lo)==items.size)=true then _ else _) _ _ s
 rw [if_neg hno,De]
 first
  | exact wpAny_bind (m:=Builtin.Tuple.tupleExact _) (wpAny_newObj_type (wpAny_pure ⟨_,rfl,wpAny_pure h⟩) t7)
  | exact wpAny_bind (m:=Builtin.Tuple.tupleExact _) (wpAny_newObj_type (wpAny_bind (wpAny_pure (wpAny_pure ⟨_,rfl,wpAny_pure h⟩))) t7)
  | exact wpAny_bind (wpAny_bind (m:=Builtin.Tuple.tupleExact _) (wpAny_newObj_type (wpAny_pure (wpAny_pure ⟨_,rfl,wpAny_pure h⟩)) t7))
  | exact wpAny_bind (wpAny_bind (m:=Builtin.Tuple.tupleExact _) (wpAny_newObj_type (wpAny_pure ⟨_,rfl,wpAny_pure h⟩) t7))
end
end HT
namespace L2
open PySem PySem.Spec PyProof.Rows
abbrev TO:=St→Hp→(Option Int→Hp→Prop)→Prop
noncomputable def PO (X:Cx) (e:Option Expr) (t:TO):Prop:=
 ∀ (pins:List (Addr×Obj)) (s:Shared) (σ:St) (H:Hp) (Q:Option Int→Hp→Prop),Inv X pins σ H s→t σ H Q→
  wpAny (model X.prog X.w) X.A (evalPart e X.env) (fun u s'=>∃ o H',Inv X pins σ H' s'∧IsPart u o∧Q o H') X.xe s
noncomputable def Hs:TO:=fun _ H Q=>Q none H
noncomputable def OU (t:TE):TO:=fun σ H Q=>t σ H fun x H1=>∃ i,x=.int i∧Q (some i) H1
section
variable {X:Cx}{e:Expr}{te:TE}{lo hi:Option Expr}{tl th:TO}{pos p2:Pos}
theorem Ht:PO X none Hs:=by
 intro pins s σ H Q I h
 rw [evalPart_none]
 exact wpAny_pure ⟨none,H,I,.none,h⟩
theorem Hu (h:PE X e te):PO X (some e) (OU te):=by
 intro pins s σ H Q I hw
 rw [evalPart_some]
 refine bJ (h pins s σ H _ I hw) fun u s1 ⟨x,H1,I1,r1,q1⟩=>?_
 obtain ⟨i,rfl,q⟩:=q1
 obtain ⟨t,rfl⟩:=r1
 exact ⟨some i,H1,I1,.int i t,q⟩
noncomputable def kP (X:Cx) (r:V→Option Int→Option Int→Hp→VK→Prop):Prop:=
 ∀ (pins:List (Addr×Obj)) (s:Shared) (σ:St) (H:Hp) (x:V) (v vl vu:Value) (lo hi:Option Int) (sl:Addr) (Q:VK),Inv X pins σ H s→RelV x v→s.heap.IsSliceOf sl vl vu .none→IsPart vl lo→IsPart vu hi→r x lo hi H Q→
  ∃ T id,typeLookup (.type T) "__getitem__" = pure (some (.builtin id))∧s.TypeIs v T∧wpAny (model X.prog X.w) X.A (getItem v (.ref sl)) (EP X pins σ Q) X.xe s
noncomputable def VZ (r:V→Option Int→Option Int→Hp→VK→Prop) (te:TE) (tl th:TO):TE:=fun σ H Q=>te σ H fun x H1=>tl σ H1 fun l H2=>th σ H2 fun u H3=>r x l u H3 Q
theorem Df {r:V→Option Int→Option Int→Hp→VK→Prop}(hr:kP X r) (he:PE X e te) (hl:PO X lo tl) (hu:PO X hi th):PE X (.Subscript e (.Slice lo hi none p2) pos) (VZ r te tl th):=by
 intro pins s σ H Q I h
 refine Subscript_ (bJ (he pins s σ H _ I h) fun v s1 ⟨x,H1,I1,r1,q1⟩=>?_)
 refine wpAny_Slice (bJ (hl pins s1 σ H1 _ I1 q1) fun vl s2 ⟨l,H2,I2,pl,q2⟩=>bJ (hu pins s2 σ H2 _ I2 q2) fun vu s3 ⟨u,H3,I3,pu,q3⟩=>?_)
 rw [evalPart_none]
 refine wpAny_pure ?_
 have I4:Inv X pins σ H3 { s3 with heap:=s3.heap.push { cls:=.type "slice",data:=.fields #[vl,vu,.none]}}:=I3.kept (t':=s3.toks) fun b ob q=>Heap.get?_push_of_some _ q
 obtain ⟨T,id,hT,ht,hg⟩:=hr pins { s3 with heap:=s3.heap.push { cls:=.type "slice",data:=.fields #[vl,vu,.none]}} σ H3 x v vl vu l u s3.heap.objs.size Q I4 r1 (Heap.IsSliceOf.new ..) pl pu q3
 show wpAny (model X.prog X.w) X.A (subscriptTail e (.Slice lo hi none p2) v (.ref s3.heap.objs.size)) (EP X pins σ Q) X.xe { s3 with heap:=s3.heap.push { cls:=.type "slice",data:=.fields #[vl,vu,.none]}}
 exact tail_any (ops:=[.ref s3.heap.objs.size,v]) ht hT hg (by with_unfolding_all rfl)
noncomputable def mY (xs:List V) (lo hi:Option Int):List V:=(xs.drop (HT.aS xs.length 0 lo)).take (HT.aS xs.length xs.length hi - HT.aS xs.length 0 lo)
theorem oX (xs:List V) (lo hi:Option Int):(mY xs lo hi).length≤xs.length:=by
 unfold mY
 rw [List.length_take,List.length_drop]
 omega
noncomputable def Uv (K:PySem.W.Frag):V→Option Int→Option Int→Hp→VK→Prop:=fun x lo hi H Q=>∃ a xs,x=.ref a∧dG K H a xs∧
 ¬ (HT.aS xs.length 0 lo=0∧HT.aS xs.length xs.length hi=xs.length)∧∀ p,H p=none→Q (.ref p) (upd H p (.tup (mY xs lo hi)))
theorem Ku:kP X (Uv X.K):=by
 intro pins s σ H x v vl vu lo hi sl Q I rx hs pl pu h
 obtain ⟨a,xs,rfl,hx,hw,q⟩:=h
 cases rx
 obtain ⟨its,r,ht,hz⟩:=I.tuple hx
 have hlen:its.toArray.size=xs.length:=by rw [List.size_toArray];exact r.length.symm
 refine ⟨"tuple",_,PyProof.Rows.slot_tuple_getitem.lookup,ht.typeIs,?_⟩
 refine HT.oU ht hs pl pu (by rw [hlen];exact hw) ?_ (by rw [hlen];exact hz)
 rw [hlen]
 refine ⟨.ref s.heap.objs.size,_,I.laid (t':=s.toks) (o:=.tup (mY xs lo hi)) (fun b ob q=>Heap.get?_push_of_some _ q) (Nat.le_refl _) ?_,rfl,q _ (I.hok.fresh (Nat.le_refl _))⟩
 exact ⟨Nat.le_trans (oX xs lo hi) hz,_,(r.drop (HT.aS xs.length 0 lo)).take (HT.aS xs.length xs.length hi - HT.aS xs.length 0 lo),IsTup.new _ _⟩
noncomputable def OV (K:PySem.W.Frag):R2:=fun x y H Q=>∃ a b xs ys,x=.ref a∧y=.ref b∧dG K H a xs∧dG K H b ys∧xs≠[]∧xs.length+ys.length≤sizeLine∧
 (ys=[]→Q (.ref a) H)∧(ys≠[]→∀ p,H p=none→Q (.ref p) (upd H p (.tup (xs++ys))))
theorem Vals.rA {xs:List V}{us:List Value}(r:Vals xs us):us=[]↔xs=[]:=by
 cases r with
 | nil=>simp
 | cons _ _=>simp
theorem Hv:dB X (binaryOp .Add) (OV X.K):=by
 intro pins s σ H x y v u Q I rx ry h
 obtain ⟨a,b,xs,ys,rfl,rfl,ha,hb,hx,hz,q1,q2⟩:=h
 cases rx
 cases ry
 obtain ⟨its,r1,p1,_⟩:=I.tuple ha
 obtain ⟨its2,r2,p2,_⟩:=I.tuple hb
 refine HT.Hr p1 p2 (fun z=>hx (r1.rA.mp z)) (fun z=>⟨.ref a,H,I,rfl,q1 (r2.rA.mp z)⟩) (fun z=>?_) (by rw [←r1.length,←r2.length];exact hz)
 refine ⟨.ref s.heap.objs.size,_,I.laid (t':=s.toks) (o:=.tup (xs++ys)) (fun b ob q=>Heap.get?_push_of_some _ q) (Nat.le_refl _) ?_,rfl,q2 (fun w=>z (r2.rA.mpr w)) _ (I.hok.fresh (Nat.le_refl _))⟩
 exact ⟨by rw [List.length_append];exact hz,_,r1.append r2,IsTup.new _ _⟩
end
end L2
namespace L2
open PySem PySem.Spec PyProof.Rows
noncomputable def dP (n:Nat) (i:Int):Option Nat:=if 0≤i then (if i<n then some i.toNat else none) else if -(n:Int)≤i then some (i+n).toNat else none
noncomputable def bP {α:Type}(xs:List α) (i:Int):Option α:=(dP xs.length i).bind fun j=>xs[j]?
theorem Hw {n:Nat}{i:Int}{j:Nat}(h:dP n i=some j):seqIndex? i n=some j∧j<n∧-(n:Int)≤i∧i<n:=by
 unfold dP at h
 by_cases h0:0≤i
 ·rw [if_pos h0] at h
  by_cases h1:i<n
  ·rw [if_pos h1] at h
   have e:i.toNat=j:=Option.some.inj h
   exact ⟨by rw [seqIndex_of h0 h1,e],by omega,by omega,h1⟩
  ·rw [if_neg h1] at h;cases h
 ·rw [if_neg h0] at h
  by_cases h1:-(n:Int)≤i
  ·rw [if_pos h1] at h
   have e:(i+n).toNat=j:=Option.some.inj h
   exact ⟨by rw [seqIndex_neg (by omega) h1,e],by omega,h1,by omega⟩
  ·rw [if_neg h1] at h;cases h
theorem rB {α:Type}{xs:List α}{i:Int}{v:α}(h:bP xs i=some v):∃ j,seqIndex? i xs.length=some j∧xs[j]?=some v∧j<xs.length∧-(xs.length:Int)≤i∧i<xs.length:=by
 unfold bP at h
 cases e:dP xs.length i with
 | none=>rw [e] at h;cases h
 | some j=>
  rw [e] at h
  obtain ⟨h1,h2,h3,h4⟩:=Hw e
  exact ⟨j,h1,h,h2,h3,h4⟩
theorem xS {α:Type}{xs:List α}{j:Nat}{v:α}(h:xs[j]?=some v):bP xs (j:Int)=some v:=by
 have hj:j<xs.length:=(List.getElem?_eq_some_iff.mp h).1
 have e:dP xs.length (j:Int)=some j:=by
  unfold dP
  rw [if_pos (by omega),if_pos (by omega)];simp
 unfold bP;rw [e];exact h
noncomputable def rC (b:Expr):Prop:=∀ o i,subscripted b false o i=operate [o,i] (getItem o i)
noncomputable def xT (X:Cx) (r:R2):Prop:=
 ∀ (value slice:Expr) (pins:List (Addr×Obj)) (s:Shared) (σ:St) (H:Hp) (x y:V) (v u:Value) (Q:VK),Inv X pins σ H s→RelV x v→RelV y u→r x y H Q→
  subscripted slice false v u=operate [v,u] (getItem v u)→wpAny (model X.prog X.w) X.A (subscriptTail value slice v u) (EP X pins σ Q) X.xe s
noncomputable def sO (X:Cx) (id:String) (r:V→List V→Hp→VK→Prop):Prop:=
 ∀ (pins:List (Addr×Obj)) (s:Shared) (σ:St) (H:Hp) (x:V) (xs:List V) (v:Value) (us:List Value) (Q:VK),Inv X pins σ H s→RelV x v→Vals xs us→r x xs H Q→
  wpAny (model X.prog X.w) X.A (call (.builtin id) (v :: us)) (EP X pins σ Q) X.xe s
section
variable {X:Cx}{a b:Expr}{ta tb:TE}{pos:Pos}
theorem OW {r:R2}(hr:xT X r) (ha:PE X a ta) (hb:PE X b tb) (hs:rC b):PE X (.Subscript a b pos) (AV r ta tb):=by
 intro pins s σ H Q I h
 exact Subscript_ (zd ha hb I h fun v u s2 x y H2 I2 rx ry q=>hr a b pins s2 σ H2 x y v u Q I2 rx ry q (hs _ _))
noncomputable def Uw (K:PySem.W.Frag):R2:=fun x y H Q=>∃ p xs i v,x=.ref p∧y=.int i∧fK K H p xs∧bP xs i=some v∧Q v H
noncomputable def Ux (K:PySem.W.Frag):R2:=fun x y H Q=>∃ p xs i v,x=.ref p∧y=.int i∧dG K H p xs∧bP xs i=some v∧Q v H
noncomputable def Uy:R2:=fun x y H Q=>∃ z i c,x=.str z∧y=.int i∧z.length≤sizeLine∧bP z.cps.toList i=some c∧Q (.str ⟨#[c]⟩) H
theorem Hx:xT X (Uw X.K):=by
 intro value slice pins s σ H x y v u Q I rx ry h hs
 obtain ⟨p,xs,i,z,rfl,rfl,hq,he,q⟩:=h
 cases rx
 obtain ⟨t,rfl⟩:=ry
 obtain ⟨its,r,pl,hz⟩:=I.list hq
 obtain ⟨j,h1,h2,h3,h4,h5⟩:=rB he
 obtain ⟨w,ew,rw'⟩:=r.get h2
 have hl:=r.length
 have hn:=kN
 have fin:EP X pins σ Q w s:=⟨z,H,I,rw',q⟩
 by_cases h0:0≤i
 ·have hj:i.toNat=j:=by
   rw [seqIndex_of h0 h5] at h1
   exact Option.some.inj h1
  exact item_listR pl.isList h0 (by omega) (by rw [hj];simpa using ew) fin hs
 ·have hj:(i+(its.toArray.size:Int)).toNat=j:=by
   rw [seqIndex_neg (by omega) h4] at h1
   rw [List.size_toArray,←hl]
   exact Option.some.inj h1
  exact subscriptTail_builtinR (x:=w) pl.isList.typeIs slot_list_getitem.lookup
   (wpAny_getItem_list_neg (Q:=fun r s'=>r=w∧EP X pins σ Q r s') pl.isList (by omega) (by rw [List.size_toArray] <;> omega) (by omega) (by rw [hj];simpa using ew) ⟨rfl,fin⟩) hs
theorem Kv:xT X (Ux X.K):=by
 intro value slice pins s σ H x y v u Q I rx ry h hs
 obtain ⟨p,xs,i,z,rfl,rfl,hq,he,q⟩:=h
 cases rx
 obtain ⟨t,rfl⟩:=ry
 obtain ⟨its,r,pl,hz⟩:=I.tuple hq
 obtain ⟨j,h1,h2,h3,h4,h5⟩:=rB he
 obtain ⟨w,ew,rw'⟩:=r.get h2
 have hl:=r.length
 have hn:=kN
 have fin:EP X pins σ Q w s:=⟨z,H,I,rw',q⟩
 exact subscriptTail_builtinR (x:=w) pl.typeIs slot_tuple_getitem.lookup
  (getItem_tuple (j:=j) (Q:=fun r s'=>r=w∧EP X pins σ Q r s') pl (by omega) (by omega) (by rw [List.size_toArray,←hl];exact h1) (by simpa using ew) ⟨rfl,fin⟩) hs
theorem Kw:xT X Uy:=by
 intro value slice pins s σ H x y v u Q I rx ry h hs
 obtain ⟨z,i,c,rfl,rfl,hz,he,q⟩:=h
 obtain ⟨t,rfl⟩:=rx
 obtain ⟨t',rfl⟩:=ry
 obtain ⟨j,h1,h2,h3,h4,h5⟩:=rB he
 have hl:z.cps.toList.length=z.length:=by simp [Str.length]
 rw [hl] at h1 h4 h5
 have hn:=kN
 exact tail_any (typeIs_str s z t) slot_str_getitem.lookup (getItem_str (c:=c) (by
  have e1:decide (i < -(2 ^ 63:Int))=false:=decide_eq_false (by omega)
  have e2:decide (i≥2 ^ 63)=false:=decide_eq_false (by omega)
  rw [e1,e2,Bool.or_false]) (by rw [h1];simpa using h2) ⟨.str ⟨#[c]⟩,H,I.tok _,⟨_,rfl⟩,q⟩) hs
theorem uK (lo hi:Option Int) (n:Nat):(sliceBounds lo hi none n).1=((HT.aS n 0 lo:Nat):Int)∧(sliceBounds lo hi none n).2.1=((HT.aS n n hi:Nat):Int)∧(sliceBounds lo hi none n).2.2=1:=by
 refine ⟨?_,?_,rfl⟩
 ·cases lo with
  | none=>simp [sliceBounds,HT.aS]
  | some i=>
   simp only [sliceBounds,HT.aS,Option.getD_none,show (1:Int) > 0 by decide,if_true]
   by_cases h:i<0
   ·simp only [h,if_true] <;> omega
   ·simp only [h,if_false] <;> omega
 ·cases hi with
  | none=>simp [sliceBounds,HT.aS]
  | some i=>
   simp only [sliceBounds,HT.aS,Option.getD_none,show (1:Int) > 0 by decide,if_true]
   by_cases h:i<0
   ·simp only [h,if_true] <;> omega
   ·simp only [h,if_false] <;> omega
theorem tX (its:List Value) (lo hi:Option Int):slicePick its.toArray lo hi none=((its.drop (HT.aS its.length 0 lo)).take (HT.aS its.length its.length hi - HT.aS its.length 0 lo)).toArray:=by
 obtain ⟨h1,h2,h3⟩:=uK lo hi its.toArray.size
 unfold slicePick
 rw [h1,h2,h3]
 simp only [sliceRange_one,pick_run,List.size_toArray] <;> rfl
noncomputable def Uz (K:PySem.W.Frag):V→Option Int→Option Int→Hp→VK→Prop:=fun x lo hi H Q=>∃ a xs,x=.ref a∧fK K H a xs∧∀ p,H p=none→Q (.ref p) (upd H p (.lst (mY xs lo hi)))
theorem Hy:kP X (Uz X.K):=by
 intro pins s σ H x v vl vu lo hi sl Q I rx hs pl pu h
 obtain ⟨a,xs,rfl,hx,q⟩:=h
 cases rx
 obtain ⟨its,r,ht,hz⟩:=I.list hx
 have hlen:=r.length
 refine ⟨"list",_,slot_list_getitem.lookup,ht.isList.typeIs,?_⟩
 refine wpAny_getItem_list_slice ht.isList hs pl pu .none (by simp) ?_ (by rw [List.size_toArray] <;> omega)
 rw [tX,←hlen]
 refine ⟨.ref s.heap.objs.size,_,I.laid (t':=s.toks) (o:=.lst (mY xs lo hi)) (fun b ob q=>Heap.get?_push_of_some _ q) (Nat.le_refl _) ?_,rfl,q _ (I.hok.fresh (Nat.le_refl _))⟩
 exact ⟨Nat.le_trans (oX xs lo hi) hz,_,0,(r.drop (HT.aS xs.length 0 lo)).take (HT.aS xs.length xs.length hi - HT.aS xs.length 0 lo),Heap.get?_push_size _ rfl⟩
noncomputable def t8:V→Bool
 | .aP=>true
 | .bl _=>true
 | .int _=>true
 | .str _=>true
 | _=>false
theorem mZ:gD X (.builtin "len") (fun xs H Q=>∃ p ys,xs=[.ref p]∧(fK X.K H p ys∨dG X.K H p ys)∧Q (.int ys.length) H):=by
 intro pins s σ H xs us Q I r h
 obtain ⟨p,ys,rfl,hq,q⟩:=h
 obtain ⟨u,rfl,rx⟩:=vals1 r
 cases rx
 have hn:=kN
 rcases hq with hq | hq
 ·obtain ⟨its,r',pl,hz⟩:=I.list hq
  have hlen:=r'.length
  exact Calls.call_len_list pl.isList (by simp only [List.size_toArray] <;> omega) ⟨.int ys.length,H,I.tok _,⟨s.toks+1,by rw [List.size_toArray,hlen]⟩,q⟩
 ·obtain ⟨its,r',pl,hz⟩:=I.tuple hq
  have hlen:=r'.length
  exact len_tuple pl (by simp only [List.size_toArray] <;> omega) ⟨.int ys.length,H,I.tok _,⟨s.toks+1,by rw [List.size_toArray,hlen]⟩,q⟩
theorem uL:gD X (.builtin "len") (fun xs H Q=>∃ z,xs=[.str z]∧z.length≤sizeLine∧Q (.int z.length) H):=by
 intro pins s σ H xs us Q I r h
 obtain ⟨z,rfl,hz,q⟩:=h
 obtain ⟨u,rfl,t,rfl⟩:=vals1 r
 have hn:=kN
 exact len_str (by omega) ⟨.int z.length,H,I.tok _,⟨_,rfl⟩,q⟩
theorem mK:gD X (.type "tuple") (fun xs H Q=>∃ p ys,xs=[.ref p]∧((fK X.K H p ys∧∀ l,H l=none→Q (.ref l) (upd H l (.tup ys)))∨(dG X.K H p ys∧Q (.ref p) H))):=by
 intro pins s σ H xs us Q I r h
 obtain ⟨p,ys,rfl,h⟩:=h
 obtain ⟨u,rfl,rx⟩:=vals1 r
 cases rx
 rcases h with ⟨hq,q⟩ | ⟨hq,q⟩
 ·obtain ⟨its,r',pl,hz⟩:=I.list hq
  have hlen:=r'.length
  refine call_tuple_list pl.isList (fun h' kp=>?_) (by simp only [List.size_toArray] <;> omega)
  have I1:Inv X pins σ H { s with heap:=h' }:=I.kept (t':=s.toks) kp
  have I2:Inv X pins σ (upd H h'.objs.size (.tup ys)) { s with heap:=h'.push { cls:=.type "tuple",data:=.seq its.toArray }}:=
   I1.laid (t':=s.toks) (fun b o e=>Heap.get?_push_of_some _ e) (Nat.le_refl _) (show dF X.prog X.w _ _ _ (.tup ys) from ⟨hz,its,r',IsTup.new _ _⟩)
  exact ⟨.ref h'.objs.size,_,I2,rfl,q _ (I1.hok.fresh (Nat.le_refl _))⟩
 ·obtain ⟨its,r',pl,hz⟩:=I.tuple hq
  exact call_tuple_same pl ⟨.ref p,H,I,rfl,q⟩
noncomputable def A2 (K:PySem.W.Frag) (T:String) (x:V) (H:Hp):Prop:=match x with
 | .str _=>T = "str"
 | .int _=>T = "int"
 | .ref p=>(T = "list" ∧∃ xs,fK K H p xs)∨(T = "tuple" ∧∃ o,K.lookup p=some o∧o.cls=.type "tuple" ∧o.dict=none)∨
   (T = "dict" ∧((∃ kvs,H p=some (.dK kvs))∨∃ kvs,H p=some (.dT kvs)))∨(T = "set" ∧∃ S n,H p=some (.set S n))
 | _=>False
theorem A3 {pins:List (Addr×Obj)}{σ:St}{H:Hp}{s:Shared}{T:String}{x:V}{v:Value}(I:Inv X pins σ H s) (r:RelV x v) (ty:A2 X.K T x H) :
  s.TypeIs v T∧∀ a,v=.ref a→∃ ob,s.heap.get? a=some ob∧ob.dict=none:=by
 cases x with
 | str z=>
  obtain ⟨t,rfl⟩:=r
  cases (show T = "str" from ty)
  exact ⟨typeIs_str s z t,fun _ e=>nomatch e⟩
 | int i=>
  obtain ⟨t,rfl⟩:=r
  cases (show T = "int" from ty)
  exact ⟨typeIs_int s i t,fun _ e=>nomatch e⟩
 | ref p=>
  cases r
  rcases ty with ⟨rfl,xs,hq⟩ | ⟨rfl,o,hk,hc,hd⟩ | ⟨rfl,hk⟩ | ⟨rfl,S,n,hk⟩
  ·obtain ⟨its,_,pl,_⟩:=I.list hq
   refine ⟨pl.isList.typeIs,fun a e=>?_⟩
   cases e
   obtain ⟨o,n,e,c,hd,_⟩:=pl
   exact ⟨o,e,hd⟩
  ·refine ⟨⟨o,I.sG p o hk,hc⟩,fun a e=>?_⟩
   cases e
   exact ⟨o,I.sG _ o hk,hd⟩
  ·have z:∃ o,s.heap.get? p=some o∧o.ExactDict:=by
    rcases hk with ⟨kvs,hk⟩ | ⟨kvs,hk⟩
    ·obtain ⟨_,_,_,_,o,_,_,e,ex,_⟩:=I.hok p _ hk
     exact ⟨o,e,ex⟩
    ·obtain ⟨_,_,_,_,o,_,_,e,ex,_⟩:=I.hok p _ hk
     exact ⟨o,e,ex⟩
   obtain ⟨o,e,ex⟩:=z
   refine ⟨⟨o,e,ex.1⟩,fun a e2=>?_⟩
   cases e2
   exact ⟨o,e,ex.2.1⟩
  ·obtain ⟨o,_,_,_,e,ex,_⟩:=I.hok p _ hk
   refine ⟨⟨o,e,ex.1⟩,fun a e2=>?_⟩
   cases e2
   exact ⟨o,e,ex.2.1⟩
 | _=>exact False.elim ty
noncomputable def UA (K:PySem.W.Frag) (T:String) (r:V→List V→Hp→VK→Prop) (to:TE):TE:=fun σ H Q=>to σ H fun x H1=>A2 K T x H1∧r x [] H1 Q
noncomputable def V0 (K:PySem.W.Frag) (T:String) (r:V→List V→Hp→VK→Prop) (to:TE) (t:TA):TE:=fun σ H Q=>to σ H fun x H1=>A2 K T x H1∧t σ H1 fun xs H2=>r x xs H2 Q
variable {o e:Expr}{es:List Expr}{to:TE}{t:TA}{name:Str}{apos cpos:Pos}{T id:String}{r:V→List V→Hp→VK→Prop}
theorem Ky (pa:PlainAttrs T) (slot:Slot T name id) (hty:typeOf (.builtin id)=pure (.type "method_descriptor")) (hm:sO X id r) (ho:PE X o to)
  (hbase:attributeBase o name X.env (eval o X.env)=eval o X.env:=by rfl) (hline:(apos.endLine==cpos.line)=true:=by rfl):PE X (.Call (.Attribute o name apos) [] [] cpos) (UA X.K T r to):=by
 intro pins s σ H Q I h
 refine wpAny_Call_method0_late hbase hline (bJ (ho pins s σ H _ I h) fun v s1 ⟨x,H1,I1,r1,ty,q1⟩=>?_)
 obtain ⟨h1,h2⟩:=A3 I1 r1 ty
 exact ⟨T,id,pa,slot,hty,h1,h2,Calls.callWith_builtin rfl (PySem.evalArgs_none (hm pins s1 σ H1 x [] v [] Q I1 r1 .nil q1))⟩
theorem OX (pa:PlainAttrs T) (slot:Slot T name id) (hty:typeOf (.builtin id)=pure (.type "method_descriptor")) (hm:sO X id r) (ho:PE X o to) (ha:PA X (e :: es) t)
  (hbase:attributeBase o name X.env (eval o X.env)=eval o X.env:=by rfl)
  (hfew:((backTo cpos (starEach (e :: es) X.env)).all (fun x=>!x.1)&&(backToKw cpos (keywordEach [] X.env)).all (fun x=>x.1.isSome)
   &&decide ((e :: es).length+([]:List Keyword).length+(if ([]:List Keyword).isEmpty then 0 else 1)<30))=true:=by rfl)
  (hline:(apos.endLine==cpos.line)=true:=by rfl) (hs:starEach (e :: es) X.env=(false,eval e X.env) :: starEach es X.env:=by rfl) (hplain:(backTo cpos (starEach es X.env)).any (·.1)=false:=by rfl) :
  PE X (.Call (.Attribute o name apos) (e :: es) [] cpos) (V0 X.K T r to t):=by
 intro pins s σ H Q I h
 refine wpAny_Call_method_late hbase hfew hline rfl (bJ (ho pins s σ H _ I h) fun v s1 ⟨x,H1,I1,r1,ty,q1⟩=>?_)
 obtain ⟨h1,h2⟩:=A3 I1 r1 ty
 refine ⟨T,id,pa,slot,hty,h1,h2,?_⟩
 have hA:=ha cpos pins s1 σ H1 _ I1 q1
 rw [hs] at hA ⊢
 refine Calls.callWith_builtin (by show (false || (backTo cpos (starEach es X.env)).any (·.1))=false;rw [hplain] <;> rfl) (Calls.evalArgs_plain ?_)
 exact bJ hA fun us s2 ⟨vs,H2,I2,r2,q2⟩=>hm pins s2 σ H2 x vs v us Q I2 r1 r2 q2
end
end L2
namespace L2
open PySem PySem.Spec PyProof.Rows
noncomputable def Kz (X:Cx) (id:String) (r:V→List V→Hp→VK→Prop):Prop:=
 ∀ (pins:List (Addr×Obj)) (s:Shared) (σ:St) (H:Hp) (x:V) (xs:List V) (v:Value) (us:List Value) (Q:VK),Inv X pins σ H s→RelV x v→Vals xs us→r x xs H Q→
  wpAny (model X.prog X.w) X.A (call (.builtin id) (v :: us)) (EP X pins σ Q) X.xe s
theorem Vals.one:∀ {x:V}{us:List Value},Vals [x] us→∃ u,us=[u]∧RelV x u
 | _,_,.cons r .nil=>⟨_,rfl,r⟩
theorem Vals.zero:∀ {us:List Value},Vals [] us→us=[]
 | _,.nil=>rfl
theorem Vals.dropLast {xs:List V}{us:List Value}(h:Vals xs us):Vals xs.dropLast us.dropLast:=by
 induction h with
 | nil=>exact .nil
 | cons r t ih=>
  cases t with
  | nil=>exact .nil
  | cons q t'=>exact .cons r ih
theorem Vals.reverse {xs:List V}{us:List Value}(h:Vals xs us):Vals xs.reverse us.reverse:=by
 induction h with
 | nil=>exact .nil
 | cons r t ih=>rw [List.reverse_cons,List.reverse_cons];exact Vals.append ih (.cons r .nil)
theorem Vals.rep {xs:List V}{us:List Value}(h:Vals xs us):∀ k:Nat,Vals (List.replicate k xs).flatten (List.replicate k us).flatten
 | 0=>.nil
 | k+1=>by
  rw [List.replicate_succ,List.replicate_succ,List.flatten_cons,List.flatten_cons]
  exact Vals.append h (Vals.rep h k)
theorem zk {α:Type}(l:List α):l.eraseIdx (l.length - 1)=l.dropLast:=by
 induction l with
 | nil=>rfl
 | cons a r ih=>
  cases r with
  | nil=>rfl
  | cons b r=>
   have e:(a :: b :: r).length - 1=((b :: r).length - 1)+1:=by
    have h1:(a :: b :: r).length=r.length+2:=rfl
    have h2:(b :: r).length=r.length+1:=rfl
    omega
   rw [e,List.eraseIdx_cons_succ,ih]
   all_goals rfl
theorem foldl_rep (its:List Value):∀ (k:Nat) (acc:List Value),
  List.foldl (fun x1 x2=>x1++x2) acc.toArray (List.replicate k its.toArray)=(acc++(List.replicate k its).flatten).toArray
 | 0,acc=>by simp
 | k+1,acc=>by
  have e:acc.toArray++its.toArray=(acc++its).toArray:=by simp
  have e2:(acc++its)++(List.replicate k its).flatten=acc++(List.replicate (k+1) its).flatten:=by
   rw [List.replicate_succ,List.flatten_cons,List.append_assoc]
  rw [←e2,←foldl_rep its k (acc++its),←e,List.replicate_succ,List.foldl_cons]
section
variable {X:Cx}{pins:List (Addr×Obj)}{σ:St}{H:Hp}{s:Shared}{l b:Addr}{xs ys zs:List V}
theorem Inv.Dg {its its':List Value}{n:Nat}{f:Array Value→Array Value}{t':Nat}(I:Inv X pins σ H s) (hH:H l=some (.lst xs))
  (e:s.heap.get? l=some { cls:=.type "list",data:=.seq its.toArray n }) (hf:f its.toArray=its'.toArray) (hv:Vals ys its') (hz:ys.length≤sizeLine) :
  Inv X pins σ (upd H l (.lst ys)) { s with heap:=s.heap.update l (Obj.mapSeq f),toks:=t' }:=by
 have q:=PySem.IsL.update e f
 rw [hf] at q
 refine I.write (x:=l) (e:=l) (by rw [hH];exact trivial) (.inl rfl) (fun b' u hb hu=>(Heap.get?_update_other s.heap (Obj.mapSeq f) (Ne.symm hb)).trans hu) ⟨_,q⟩ ?_
 exact ⟨hz,its',_,hv,q⟩
theorem Inv.Dh {its:List Value}{t':Nat}(I:Inv X pins σ H s) (hv:Vals ys its) (hz:ys.length≤sizeLine) :
  Inv X pins σ (upd H s.heap.objs.size (.lst ys)) { s with heap:=s.heap.push { cls:=.type "list",data:=.seq its.toArray },toks:=t' }:=
 I.laid (fun _ _ q=>Heap.get?_push_of_some _ q) (Nat.le_refl _) ⟨hz,its,0,hv,Heap.get?_push_size _ rfl⟩
theorem Inv.fresh (I:Inv X pins σ H s):H s.heap.objs.size=none:=I.hok.fresh (Nat.le_refl _)
theorem Inv.pK (I:Inv X pins σ H s) (hH:H l=some (.lst xs)):xs.length≤sizeLine∧∃ (its:List Value) (n:Nat),Vals xs its∧xs.length=its.length∧s.heap.get? l=some { cls:=.type "list",data:=.seq its.toArray n }:=by
 obtain ⟨z,its,n,r,e⟩:=I.hok l _ hH
 exact ⟨z,its,n,r,r.length,e⟩
theorem uM {n:Nat}(h:n≤sizeLine):Builtin.List.listTooLong n=false:=by
 unfold Builtin.List.listTooLong
 exact decide_eq_false (by omega)
end
section
variable {X:Cx}
noncomputable def Hz:V→List V→Hp→VK→Prop:=fun x vs H Q=>∃ l xs y,x=.ref l∧vs=[y]∧H l=some (.lst xs)∧xs.length<sizeLine∧Q .aP (upd H l (.lst (xs++[y])))
theorem sP:Kz X "list.append" Hz:=by
 intro pins s σ H x vs v us Q I rx rv h
 obtain ⟨l,xs,y,rfl,rfl,hH,hz,q⟩:=h
 cases rx
 obtain ⟨u,rfl,ru⟩:=rv.one
 obtain ⟨z,its,n,r,hl,e⟩:=I.pK hH
 refine call_meets F.slot_list_append ⟨_,e,rfl⟩ F.entry_list_append (F.args_list_append_2 _ _) (PySem.list_append l its.toArray n u (by rw [List.size_toArray];omega)) ⟨e,?_⟩
 refine ⟨.aP,_,I.Dg (its':=its++[u]) hH e (by simp) (r.append (.cons ru .nil)) ?_,rfl,q⟩
 rw [List.length_append,List.length_singleton]
 omega
noncomputable def HA:V→List V→Hp→VK→Prop:=fun x vs H Q=>∃ l b xs zs,x=.ref l∧vs=[.ref b]∧H l=some (.lst xs)∧H b=some (.lst zs)∧xs.length+zs.length≤sizeLine∧Q .aP (upd H l (.lst (xs++zs)))
theorem A4:Kz X "list.extend" HA:=by
 intro pins s σ H x vs v us Q I rx rv h
 obtain ⟨l,b,xs,zs,rfl,rfl,hH,hB,hz,q⟩:=h
 cases rx
 obtain ⟨u,rfl,ru⟩:=rv.one
 cases ru
 obtain ⟨z,its,n,r,hl,e⟩:=I.pK hH
 obtain ⟨z2,its2,n2,r2,hl2,e2⟩:=I.pK hB
 have hsz:its.toArray.size+its2.toArray.size≤sizeLine:=by rw [List.size_toArray,List.size_toArray];omega
 have zl:¬ (!its.toArray.isEmpty&&Builtin.List.listTooLong (its.toArray.size+its2.toArray.size))=true:=by
  rw [uM hsz,Bool.and_false]
  exact Bool.false_ne_true
 refine call_meets F.slot_list_extend ⟨_,e,rfl⟩ F.entry_list_extend (F.args_list_extend_2 _ _)
  (AutoSeq1.list_extend_list_list_0 l its.toArray n b its2.toArray n2 zl (by rw [List.size_toArray];omega) (by omega)) ⟨e,e2,?_⟩
 refine ⟨.aP,_,I.Dg (its':=its++its2) hH e (by simp) (r.append r2) ?_,rfl,q⟩
 rw [List.length_append]
 omega
noncomputable def UB:V→List V→Hp→VK→Prop:=fun x vs H Q=>∃ l xs y,x=.ref l∧vs=[]∧H l=some (.lst xs)∧xs[xs.length - 1]?=some y∧Q y (upd H l (.lst xs.dropLast))
theorem KA:Kz X "list.pop" UB:=by
 intro pins s σ H x vs v us Q I rx rv h
 obtain ⟨l,xs,y,rfl,rfl,hH,hy,q⟩:=h
 cases rx
 have V1:=rv.zero
 subst V1
 obtain ⟨z,its,n,r,hl,e⟩:=I.pK hH
 obtain ⟨u,hu,ru⟩:=r.get hy
 have hy':its.toArray[its.toArray.size - 1]?=some u:=by
  show its.toArray[its.length - 1]?=some u
  rw [←Array.getElem?_toList,←hl]
  exact hu
 refine call_meets F.slot_list_pop ⟨_,e,rfl⟩ F.entry_list_pop (F.args_list_pop_1 _) (MeetsSeq.list_pop_last l its.toArray n u hy' (by rw [List.size_toArray];omega)) ⟨e,?_⟩
 refine ⟨y,_,I.Dg (its':=its.dropLast) hH e ?_ r.dropLast ?_,ru,q⟩
 ·show its.toArray.eraseIdxIfInBounds (its.toArray.size - 1)=its.dropLast.toArray
  rw [List.size_toArray,List.eraseIdxIfInBounds_toArray,zk]
 ·rw [List.length_dropLast]
  omega
noncomputable def UC:R2:=fun x y H Q=>∃ l b xs zs,x=.ref l∧y=.ref b∧H l=some (.lst xs)∧H b=some (.lst zs)∧xs.length+zs.length≤sizeLine∧∀ p,H p=none→Q (.ref p) (upd H p (.lst (xs++zs)))
theorem KC:dB X (binaryOp .Add) UC:=by
 intro pins s σ H x y v u Q I rx ry h
 obtain ⟨l,b,xs,zs,rfl,rfl,hH,hB,hz,q⟩:=h
 cases rx
 cases ry
 obtain ⟨z,its,n,r,hl,e⟩:=I.pK hH
 obtain ⟨z2,its2,n2,r2,hl2,e2⟩:=I.pK hB
 refine PySem.P.add_list e e2 ?_ (by rw [List.size_toArray,List.size_toArray];omega)
 have ea:its.toArray++its2.toArray=(its++its2).toArray:=by simp
 rw [ea]
 exact ⟨.ref _,_,I.Dh (t':=s.toks) (r.append r2) (by rw [List.length_append];omega),rfl,q _ I.fresh⟩
noncomputable def UD:R2:=fun x y H Q=>∃ l k xs,x=.ref l∧y=.int k∧H l=some (.lst xs)∧-(2 ^ 63)≤k∧k<2 ^ 63∧xs.length*k.toNat≤sizeLine∧
 ∀ p,H p=none→Q (.ref p) (upd H p (.lst (List.replicate k.toNat xs).flatten))
theorem len_rep {α:Type}(xs:List α) (k:Nat):(List.replicate k xs).flatten.length=k*xs.length:=by
 induction k with
 | zero=>simp
 | succ k ih=>rw [List.replicate_succ,List.flatten_cons,List.length_append,ih,Nat.succ_mul,Nat.add_comm]
theorem KD:dB X (binaryOp .Mult) UD:=by
 intro pins s σ H x y v u Q I rx ry h
 obtain ⟨l,k,xs,rfl,rfl,hH,h1,h2,hz,q⟩:=h
 cases rx
 obtain ⟨t,rfl⟩:=ry
 obtain ⟨z,its,n,r,hl,e⟩:=I.pK hH
 have hlen:its.toArray.size*k.toNat≤sizeLine:=by rw [List.size_toArray,←hl];exact hz
 have hcap:¬ its.toArray.size*k.toNat > (2 ^ 63 - 1) / 8:=by
  have:(sizeLine:Nat)≤(2 ^ 63 - 1) / 8:=by decide
  omega
 have hfit:¬ (!Builtin.List.listFitsIndex k)=true:=by
  rw [fitsIndex_both h1 h2]
  exact Bool.false_ne_true
 have zl:¬ Builtin.List.listTooLong (its.toArray.size*k.toNat)=true:=by
  rw [uM hlen]
  exact Bool.false_ne_true
 have hnew:List.foldl (fun x1 x2=>x1++x2) #[] (List.replicate (if its.toArray.isEmpty=true then 0 else k.toNat) its.toArray)=(List.replicate k.toNat its).flatten.toArray:=by
  have f0:∀ m:Nat,List.foldl (fun x1 x2=>x1++x2) #[] (List.replicate m its.toArray)=(List.replicate m its).flatten.toArray:=fun m=>by
   have:=foldl_rep its m []
   rw [List.nil_append] at this
   exact this
  rw [f0]
  cases its with
  | nil=>simp
  | cons a r'=>rw [if_neg (by simp)]
 refine wpAny_binaryOp_repeat_ref (T:="list") (U:="int") (by decide) ⟨_,e,rfl⟩ (fun s'=>typeIs_int s' k t) noFill_list_mul F.fills_int_mul F.slot_int_rmul repeat_list F.slot_int_index.lookup
  (call_meets F.slot_int_rmul (typeIs_int s k t) F.entry_int_rmul (F.args_int_rmul_2 _ _) (int___rmul___int_list k t l its.toArray n)
   ⟨e,rfl,⟨_,e,rfl⟩,call_meets F.slot_list_mul ⟨_,e,rfl⟩ F.entry_list_mul (F.args_list_mul_2 _ _) (AutoListH.list___mul___list_int_3 l its.toArray n k t hfit hcap zl) ⟨e,?_⟩⟩)
 rw [hnew]
 exact ⟨.ref _,_,I.Dh (t':=s.toks) (r.rep k.toNat) (by rw [len_rep,Nat.mul_comm];exact hz),rfl,q _ I.fresh⟩
end
section
variable {prog:Program}{w:World}{A:Around}{E:Value→Shared→Prop}{s:Shared}
end
section
variable {X:Cx}
end
end L2
namespace Rc
open PySem PySem.W PySem.Calls PyProof.Rows
theorem qa {P:Params}{h:Heap}:∀ (ns:List Int) (vs:List Value),WellAll P h vs (ns.map WData.int)→IntsAre vs ns:=by
 intro ns
 induction ns with
 | nil=>
  intro vs w
  rw [List.map_nil] at w
  cases w
  exact .nil
 | cons n ns ih=>
  intro vs w
  rw [List.map_cons] at w
  cases w with
  | cons a b=>
   cases a
   exact .cons _ _ (ih _ b)
theorem A5 {l:OpenLaw}{n:Nat}(hn:l.most=some n){P:Params}{h:Heap}{args:List WData}{vals:List Value}
  (hpre:l.row.toRowW.claim.pre args=true) (hwl:WellAll P h vals args) :
  ∃ a vs ns,vals=[Value.ref a]∧args=[WData.list (ns.map WData.int)]∧h.get? a=some { cls:=.type "list",data:=.seq vs.toArray }∧IntsAre vs ns∧ns.length≤n:=by
 have hsh:WShape.hasAll [] args [.list .int]=true:=(pre_splitW hpre).1
 have hc:l.pre.holds [] { args:=args }=true:=(pre_splitW hpre).2
 obtain ⟨d,r,rfl,h1,h2⟩:=hasAllW_cons hsh
 obtain rfl:=hasAllW_nil h2
 obtain ⟨xs,rfl,h3⟩:=hasW_list h1
 obtain ⟨ns,rfl⟩:=items_int h3
 have hlen:ns.length≤n:=by
  unfold OpenLaw.pre at hc
  have h4:(WTm.not (.lt (.lit (.int (n:Int))) (.len (.arg 0)))).holds [] { args:=[.list (ns.map .int)]}=true:=by
   have h4:=(holds_andW hc).1
   rw [hn] at h4
   exact h4
  have h5:=condW_of h4 (w_not (w_lt w_lit (w_len_list (w_arg rfl))))
  rw [List.length_map] at h5
  refine Nat.le_of_not_lt fun q=>?_
  have q':(n:Int)<((ns.length:Nat):Int):=by omega
  first
   | (rw [decide_eq_true q'] at h5;exact absurd h5 (by decide))
   | (simp at h5;omega)
 cases hwl with
 | cons w1 w2=>
  cases w2
  cases w1 with
  | list ho hall=>exact ⟨_,_,ns,rfl,rfl,ho,qa ns _ hall,hlen⟩
theorem A6 (l:OpenLaw) (args:List WData):l.row.toRowW.claim.post args (.bool true) args=true:=
 postW_of (r:=l.row.toRowW) (X:=(true==true))
  (show WShape.has [] (.bool true) .bool=true by first | rfl | decide | simp [WShape.has,WShape.arms,WShape.armsAll])
  (show (WTm.eq .res (.lit (.bool true))).value [] { args:=args,res:=some (.bool true),after:=args }=some (.bool (true==true)) from w_eq_bool (w_res rfl) w_lit) rfl
theorem wW {l:OpenLaw}{n:Nat}{q:Program}{loose:List Str}{XP:(Str→Option Value)→Heap→Prop}{YP:World→Heap→Prop}{d:DefRec}
  (hn:l.most=some n) (hdf:d.params.defaults=[])
  (call:∀ (w:World) (s₀ s₁:Shared) (mg mb:Str→Option Value) (fa:Addr) (o:Obj) (pm cd doc:Value) (a:Addr) (vs:List Value) (ns:List Int),
   Ground q loose [] XP w s₀ mg mb s₁.heap→YP w s₁.heap→
   s₁.heap.get? fa=some o→o.data=.func (docDef d.name d.params d.body d.scope pm cd doc)→s₁.heap.CodeRec cd d.name→mg d.name=some (.ref fa)→
   s₁.heap.get? a=some { cls:=.type "list",data:=.seq vs.toArray }→IntsAre vs ns→ns.length≤n→s₁.gens = #[]→
   codeAny (model l.prog w) callerA (.call (.ref fa) ⟨[.ref a],[]⟩) (fun r s'=>r=.ok (.ret (.bool true))∧OldK s₁.heap s'.heap∧s'.os=s₁.os∧AllBare s'.gens) s₁) :
  WalkO q loose XP YP l.row.toRowW d [] (fun f vs=>PySem.call f vs):=by
 intro w s₀ s₁ mg mb G Y fa o pm cd doc dV kV ho hd hcd hD hmg hg args vals as hpre hlay hrd hwl hlo
 obtain rfl:dV=.none:=Dflts.none hD hdf
 obtain rfl:kV=.none:=Dflts.noKw hD
 obtain ⟨a,vs,ns,rfl,rfl,hobj,hints,hlen⟩:=A5 hn hpre hwl
 refine enter_call (codeAny_mono (call w s₀ s₁ mg mb fa o pm cd doc a vs ns G Y ho (fd_plain hd) hcd hmg hobj hints hlen hg) fun r s' hq=>?_)
 obtain ⟨rfl,h2,h3,h4⟩:=hq
 exact ⟨.inl ⟨.bool true,.bool true,[],rfl,fun _=>rfl,.bool true,A6 l _,fun _=>⟨List.Pairwise.nil,fun _ hm=>(nomatch hm)⟩⟩,h2,h3,h4⟩
section
variable {prog:Program}{w:World}{A:Around}{E:Value→Shared→Prop}{s:Shared}{K:Frag}
end
end Rc
namespace L2
open PySem PySem.Spec PyProof.Rows
theorem sQ:∀ {vs:List Value}{ns:List Int},IntsAre vs ns→Vals (ns.map V.int) vs
 | _,_,.nil=>.nil
 | _,_,.cons n t h=>.cons ⟨t,rfl⟩ (sQ h)
noncomputable def rD (H:Hp):Prop:=∀ b,H b=none∨∃ o xs,H b=some (.bR o (.lst xs))
theorem Di {P:Program}{w:World}{K:PySem.W.Frag}{mg mb:Str→Option Value}{CX:mJ}{k:Nat}{fa a:Addr}{fd:FuncData}{x:Str}{sp:Sp}{s₁:Shared}{vs:List Value}{ns:List Int}
  (KX:K.In s₁.heap) (hns:s₁.heap.Ns mainGlobals mg) (hb:s₁.heap.Ns builtinsNs mb) (KG:∀ x:Str,x≠"__name__" →mb x=bootBuiltins x) (hlim:s₁.heap.NoLimit) (hg:s₁.gens = #[])
  (ha:s₁.heap.get? a=some { cls:=.type "list",data:=.seq vs.toArray }) (hi:IntsAre vs ns) (hl:ns.length≤sizeLine) (hr:gg k callerA)
  (F:∀ base:Heap,K.In base→base.Ns mainGlobals mg→iV P w K mg base CX k fa fd [x] sp) (hbind:∀ (s:Shared) (u:Value),BindsTo s fd ⟨[u],[]⟩ [(x,u)])
  (kO:∀ H:Hp,rD H→fK K H a (ns.map V.int)→sp [.ref a] H (fun v _=>v=.bl true) fun _ _ _=>False)
  (A7:∀ H e s',CX [] H s₁ (fun _ _ _=>False) e s'→False) :
  codeAny (model P w) callerA (.call (.ref fa) ⟨[.ref a],[]⟩) (fun r s'=>r=.ok (.ret (.bool true))∧OldK s₁.heap s'.heap∧s'.os=s₁.os∧AllBare s'.gens) s₁:=by
 have rv:=sQ hi
 have UE:=hi.length
 have core:∀ H:Hp,rD H→fK K H a (ns.map V.int)→eS P w H s₁.heap→(∀ b,H b≠none→b=a)→(H a≠none→K.lookup a=none)→
   codeAny (model P w) callerA (.call (.ref fa) ⟨[.ref a],[]⟩) (fun r s'=>r=.ok (.ret (.bool true))∧OldK s₁.heap s'.heap∧s'.os=s₁.os∧AllBare s'.gens) s₁:=by
  intro H hO hS hok hA hK
  have xU:∀ {b:Addr} {o:Obj},s₁.heap.get? b=some o→H b=none→(lN s₁.heap H).get? b=some o:=fun e n=>CY e n
  have AZ:∀ {b:Addr} {o:Obj} {es:Array DictEntry} {ep:Nat},s₁.heap.get? b=some o→o.data=.dict es ep→H b=none:=fun {b o es ep} e d=>by
   cases q:H b with
   | none=>rfl
   | some u=>
    have e':b=a:=hA b (by rw [q];simp)
    subst e'
    rw [ha] at e;cases e
    have d':Data.seq vs.toArray _=Data.dict es ep:=d
    cases d'
  have FG:∀ {b:Addr} {m:Str→Option Value},s₁.heap.Ns b m→(lN s₁.heap H).Ns b m:=fun {b m} ⟨o,es,ep,e,d,r⟩=>⟨o,es,ep,xU e (AZ e d),d,r⟩
  have Rf:K.In (lN s₁.heap H):=fun b o e=>xU (KX b o e) (by
   cases q:H b with
   | none=>rfl
   | some u=>
    have e':b=a:=hA b (by rw [q];simp)
    subst e'
    rw [hK (by rw [q];simp)] at e;cases e)
  have hM:Mod K mg (lN s₁.heap H):=⟨Rf,FG hns,⟨mb,FG hb,KG⟩,let ⟨mc,h1,h2⟩:=hlim;⟨mc,FG h1,h2⟩⟩
  have e0:zg P w K mg (lN s₁.heap H) callerA [] s₁ H:=⟨rfl,hM,fun b o e=>G7 e,Nat.le_of_eq (AK _ _),trivial,fun b hb=>absurd (show b∈([]:List Addr) from hb) (by simp),hok,.of_eq hg⟩
  refine codeAny_mono ((F _ Rf (FG hns)).run callerA [] s₁ H ⟨[.ref a],[]⟩ [.ref a] [.ref a] _ _ hr e0 (hbind s₁ (.ref a)) (.cons rfl .nil) (kO H hO hS)) fun r s' h=>?_
  cases r with
  | error e=>exact (A7 H e s' h).elim
  | ok fl=>
   cases fl with
   | next=>exact False.elim h
   | brk=>exact False.elim h
   | cont=>exact False.elim h
   | ret u=>
    obtain ⟨v,H',os,bare,un,UG,r',q⟩:=h
    have q':v=.bl true:=q
    subst q'
    obtain rfl:u=Value.bool true:=r'
    refine ⟨rfl,OldK.of_keep fun b o e=>?_,os,bare⟩
    cases q:H b with
    | none=>exact un.keep b o e q (by intro z;exact absurd (show b∈([]:List Addr) from z) (by simp)) (by simp)
    | some u=>
     rcases hO b with z | ⟨ob,xs,z⟩
     ·rw [q] at z;cases z
     ·have z2:=un.lM b ob _ z
      obtain ⟨e1,_⟩:=hok b _ z
      obtain ⟨e2,_⟩:=UG b _ z2
      rw [e] at e1;cases e1
      exact e2
 cases hk:K.lookup a with
 | some o=>
  have e:=KX a o hk
  rw [ha] at e
  cases e
  refine core (fun _=>none) (fun _=>.inl rfl) (.inr ⟨_,vs.toArray,_,hk,rfl,rfl,rfl,by rw [List.size_toArray,UE];exact hl,by simpa using rv⟩) (fun b u z=>by have z':(none:Option HO)=some u:=z;cases z') (fun b z=>absurd rfl z) fun z=>absurd rfl z
 | none=>
  refine core (fun b=>if b=a then some (.bR { cls:=.type "list",data:=.seq vs.toArray } (.lst (ns.map V.int))) else none) (fun b=>?_) (.inl (.inr ⟨{ cls:=.type "list",data:=.seq vs.toArray },if_pos rfl⟩)) (fun b u z=>?_) (fun b z=>?_) fun _=>hk
  ·by_cases hb:b=a
   ·exact .inr ⟨_,_,if_pos hb⟩
   ·exact .inl (if_neg hb)
  ·by_cases hb:b=a
   ·have z':=(if_pos hb).symm.trans z
    cases z'
    subst hb
    exact ⟨ha,by rw [List.length_map];exact hl,vs,_,rv,ha⟩
   ·have z':=(if_neg hb).symm.trans z
    cases z'
  ·by_cases hb:b=a
   ·exact hb
   ·exact absurd (if_neg hb) z
end L2
namespace L2
open PySem PySem.Spec PyProof.Rows
theorem HB {l:PySem.W.OpenLaw}{n k:Nat}{q:Program}{loose:List Str}{XP:(Str→Option Value)→Heap→Prop}{YP:World→Heap→Prop}{d:DefRec}{K:Params→PySem.W.Frag}{CX:World→mJ}{sp:World→Sp}{x:Str}
  (hn:l.most=some n) (hn2:n≤sizeLine) (hdf:d.params.defaults=[]) (hr:gg k callerA)
  (hY:∀ (w:World) (h:Heap),YP w h→(K w.params).In h)
  (F:∀ (w:World) (mg:Str→Option Value) (fa:Addr) (h:Heap),(K w.params).In h→h.Ns mainGlobals mg→mg d.name=some (.ref fa)→
   ∃ fd:FuncData,(∀ (s:Shared) (u:Value),BindsTo s fd ⟨[u],[]⟩ [(x,u)])∧
    ∀ base:Heap,(K w.params).In base→base.Ns mainGlobals mg→iV l.prog w (K w.params) mg base (CX w) k fa fd [x] (sp w))
  (kO:∀ (w:World) (H:Hp) (a:Addr) (ns:List Int),ns.length≤n→rD H→fK (K w.params) H a (ns.map V.int)→sp w [.ref a] H (fun v _=>v=.bl true) fun _ _ _=>False)
  (A7:∀ (w:World) (H:Hp) (s:Shared) (e:Value) (s':Shared),CX w [] H s (fun _ _ _=>False) e s'→False) :
  PySem.W.WalkO q loose XP YP l.row.toRowW d [] (fun f vs=>PySem.call f vs):=by
 refine Rc.wW hn hdf fun w s₀ s₁ mg mb fa o pm cd doc a vs ns G Y ho hd hcd hmg hobj hints hlen hg=>?_
 have KX:=hY w _ Y
 obtain ⟨fd,hb,hF⟩:=F w mg fa _ KX G.T.g hmg
 exact Di KX G.T.g G.T.b G.T.builtins G.T.nolimit hg hobj hints (Nat.le_trans hlen hn2) hr hF hb (fun H hO hS=>kO w H a ns hlen hO hS) fun H e s'=>A7 w H s₁ e s'
theorem Dj {l:PySem.W.OpenLaw}{n k:Nat}{q:Program}{loose:List Str}{XP:(Str→Option Value)→Heap→Prop}{YP:World→Heap→Prop}{d:DefRec}{K:Params→PySem.W.Frag}{CX:mJ}{sp:PySem.W.Frag→Sp}{x:Str}
  (hn:l.most=some n) (hn2:n≤sizeLine) (hdf:d.params.defaults=[]) (hr:gg k callerA)
  (hY:∀ (w:World) (h:Heap),YP w h→(K w.params).In h)
  (F:∀ (w:World) (mg:Str→Option Value) (fa:Addr) (h:Heap),(K w.params).In h→h.Ns mainGlobals mg→mg d.name=some (.ref fa)→
   ∃ fd:FuncData,(∀ (s:Shared) (u:Value),BindsTo s fd ⟨[u],[]⟩ [(x,u)])∧
    ∀ base:Heap,(K w.params).In base→base.Ns mainGlobals mg→iV l.prog w (K w.params) mg base CX k fa fd [x] (sp (K w.params)))
  (kO:∀ (K:PySem.W.Frag) (H:Hp) (a:Addr) (ns:List Int),ns.length≤n→rD H→fK K H a (ns.map V.int)→sp K [.ref a] H (fun v _=>v=.bl true) fun _ _ _=>False)
  (A7:∀ (H:Hp) (s:Shared) (e:Value) (s':Shared),CX [] H s (fun _ _ _=>False) e s'→False) :
  PySem.W.WalkO q loose XP YP l.row.toRowW d [] (fun f vs=>PySem.call f vs):=
 HB (K:=K) (CX:=fun _=>CX) (sp:=fun w=>sp (K w.params)) hn hn2 hdf hr hY F (fun w H a ns h1 h2 h3=>kO (K w.params) H a ns h1 h2 h3) fun _ H s e s'=>A7 H s e s'
end L2
namespace L2
open PySem PySem.Spec PyProof.Rows
noncomputable def oq (s:Stmt):Arguments:=match s with
 | .FunctionDef _ a _ _ _ _ _ _ _ _=>a
 | _=>{ posonlyargs:=[],args:=[],vararg:=none,kwonlyargs:=[],kw_defaults:=[],kwarg:=none,defaults:=[]}
noncomputable def g9 (s:Stmt):List Stmt:=match s with
 | .FunctionDef _ _ b _ _ _ _ _ _ _=>b
 | _=>[]
noncomputable def aN (s:Stmt):Scope:=match s with
 | .FunctionDef _ _ _ _ _ _ sc _ _ _=>sc
 | _=>{ kind:=.function,names:=[],isGenerator:=false,isCoroutine:=false }
abbrev m5:mJ:=fun _ _ _ _ _ _=>False
abbrev E0:XK:=fun _ _ _=>False
theorem OY {X:Cx}:Passes m5 X E0:=fun _ _ _ _ _ _ _ h=>h.elim
structure sR (K:PySem.W.Frag) (x qual:Str) (st:Stmt) (f:Addr) (fd:FuncData):Prop where
 ex:∃ (oc:Value) (od:Option Addr) (kV doc pm:Value) (an:Option Addr) (cdv ct:Value) (osl:Array (Option Value)),
  fd=PySem.W.fnOf x qual (oq st) (g9 st) (aN st) .none kV doc pm an cdv ct∧K.lookup f=some ⟨oc,od,.func fd,osl⟩∧PySem.W.codeIn K cdv qual=true
 kp:PySem.W.keepIn K (.ref f)=true
section
variable {P:Program}{w:World}{K:PySem.W.Frag}{mg:Str→Option Value}{base:Heap}
theorem sR.ok {x qual:Str}{st:Stmt}{f:Addr}{fd:FuncData}{N ps:List Str}{k:Nat}{sp:Sp}(F:sR K x qual st f fd) (S:bq N ps (aN st)) (len:∀ vs H Q E,sp vs H Q E→vs.length=ps.length)
  (hbody:∀ (cdv:Value) (A:Around) (outer:List Env) (s:Shared) (H:Hp) (vs:List V) (Q:VK) (E:XK),gg k (A.deeper (envOfC qual (aN st) s.heap.objs.size f cdv))→sp vs H Q E→
   ∃ t,iE (pJ m5 P w K mg base N qual (aN st) f cdv A outer s H E).sH (g9 st) t∧t { nx:=fun _ H'=>Q .aP H',rt:=Q } (start N vs) H):iV P w K mg base m5 (k+1) f fd ps sp:=by
 obtain ⟨oc,od,kV,doc,pm,an,cdv,ct,osl,rfl,lk,hcd⟩:=F.ex
 refine OT lk hcd S len fun A outer s H vs Q E hr kO=>?_
 obtain ⟨t,h,q⟩:=hbody cdv A outer s H vs Q E hr kO
 exact ⟨t,h.sH,q⟩
theorem sR.binds {x qual:Str}{st:Stmt}{f:Addr}{fd:FuncData}{ps:List Str}(F:sR K x qual st f fd)
  (h:∀ (kV doc pm:Value) (an:Option Addr) (cdv ct:Value) (us:List Value),us.length=ps.length→bindArgs (PySem.W.fnOf x qual (oq st) (g9 st) (aN st) .none kV doc pm an cdv ct) ⟨us,[]⟩=pure (ps.zip us)):Binds K fd ps []:=by
 obtain ⟨oc,od,kV,doc,pm,an,cdv,ct,osl,rfl,lk,hcd⟩:=F.ex
 exact .all (h kV doc pm an cdv ct)
theorem bX {x qual:Str}{st:Stmt}{f:Addr}{oc:Value}{od an:Option Addr}{osl:Array (Option Value)}{kV doc pm cdv ct:Value}(l:K.lookup f=some ⟨oc,od,.func (PySem.W.fnOf x qual (oq st) (g9 st) (aN st) .none kV doc pm an cdv ct),osl⟩)
  (c:PySem.W.codeIn K cdv qual=true) (k:PySem.W.keepIn K (.ref f)=true):sR K x qual st f (PySem.W.fnOf x qual (oq st) (g9 st) (aN st) .none kV doc pm an cdv ct):=⟨⟨oc,od,kV,doc,pm,an,cdv,ct,osl,rfl,l,c⟩,k⟩
end
theorem zm {A:Around}{k:Nat}(hr:gg k A):A.units+1<cLine:=Nat.lt_of_le_of_lt (Nat.add_le_add_left (by decide:1≤64) _) hr.units
section
variable {X:Cx}
theorem pv (i:Nat) {x:Str}{pos:Pos}(hN:X.N[i]?=some x:=by rfl) (hv:AL X.env.scope x:=by first | exact Or.inl rfl | exact Or.inr (Or.inl rfl) | exact Or.inr (Or.inr rfl)) (hd:(x==("__debug__" : Str))=false:=by decide)
  (hcd:(x==("__classdict__" : Str))=false:=by decide):PE X (.Name x pos) (JQ i):=AQ hN hv hd hcd
end
end L2
set_option maxRecDepth 100000
namespace L2
open PySem PySem.Spec PyProof.Rows
section
variable {κ:Type} [DecidableEq κ]
noncomputable def iW (kvs:List (κ×V)) (k:κ):Option V:=(kvs.find? fun kv=>decide (kv.1=k)).map (·.2)
noncomputable def putK (kvs:List (κ×V)) (k:κ) (v:V):List (κ×V):=
 if (kvs.any fun kv=>decide (kv.1=k))=true then kvs.map (fun kv=>if kv.1=k then (kv.1,v) else kv) else kvs++[(k,v)]
theorem pL {p:κ×V}{r:List (κ×V)}{k:κ}(e:p.1=k):iW (p :: r) k=some p.2:=by simp [iW,List.find?_cons,e]
theorem pM {p:κ×V}{r:List (κ×V)}{k:κ}(e:¬ p.1=k):iW (p :: r) k=iW r k:=by simp [iW,List.find?_cons,e]
theorem uN (k:κ):∀ kvs:List (κ×V),(kvs.any fun kv=>decide (kv.1=k))=(iW kvs k).isSome
 | []=>rfl
 | p :: r=>by
  rw [List.any_cons]
  by_cases e:p.1=k
  ·simp only [pL e,decide_eq_true e,Bool.true_or,Option.isSome_some]
  ·rw [pM e,decide_eq_false e,Bool.false_or];exact uN k r
theorem kH (kvs:List (κ×V)) (k:κ) (v:V):(putK kvs k v).length≤kvs.length+1:=by
 unfold putK
 split
 ·rw [List.length_map];omega
 ·rw [List.length_append,List.length_cons,List.length_nil];omega
theorem jw.A8 {o:Option V}{u:Option Value}(r:jw o u):o.isSome=u.isSome:=by
 cases o with
 | none=>cases u with
  | none=>rfl
  | some _=>exact (show False from r).elim
 | some _=>cases u with
  | none=>exact (show False from r).elim
  | some _=>rfl
theorem jw.getD {o:Option V}{u:Option Value}{d:V}{d':Value}(r:jw o u) (rd:RelV d d'):RelV (o.getD d) (u.getD d'):=by
 cases o with
 | none=>cases u with
  | none=>exact rd
  | some _=>exact (show False from r).elim
 | some _=>cases u with
  | none=>exact (show False from r).elim
  | some _=>exact r
theorem KV.val {kvs:List (κ×V)}{vs:List (κ×Value)}(r:KV kvs vs) (k:κ):jw (iW kvs k) (valueAt vs k):=by
 unfold KV at r
 induction r with
 | nil=>exact True.intro
 | @cons p q ps qs h t ih=>
  obtain ⟨h1,h2⟩:=h
  by_cases e:p.1=k
  ·have e':q.1=k:=h1.symm.trans e
   have b:valueAt (q :: qs) k=some q.2:=by simp [valueAt,List.find?_cons,e']
   rw [pL e,b];exact h2
  ·have e':¬ q.1=k:=fun z=>e (h1.trans z)
   have b:valueAt (q :: qs) k=valueAt qs k:=by simp [valueAt,List.find?_cons,e']
   rw [pM e,b];exact ih
theorem KV.any {kvs:List (κ×V)}{vs:List (κ×Value)}(r:KV kvs vs) (k:κ):(kvs.any fun kv=>decide (kv.1=k))=vs.any fun kv=>decide (kv.1=k):=by
 unfold KV at r
 induction r with
 | nil=>rfl
 | cons h t ih=>rw [List.any_cons,List.any_cons,ih,h.1]
theorem KV.repl {kvs:List (κ×V)}{vs:List (κ×Value)}(r:KV kvs vs) (k:κ) {y:V}{u:Value}(ry:RelV y u) :
  KV (kvs.map fun kv=>if kv.1=k then (kv.1,y) else kv) (vs.map fun kv=>if kv.1=k then (kv.1,u) else kv):=by
 unfold KV at r ⊢
 induction r with
 | nil=>exact .nil
 | @cons p q ps qs h t ih=>
  rw [List.map_cons,List.map_cons]
  refine .cons ?_ ih
  obtain ⟨h1,h2⟩:=h
  by_cases e:p.1=k
  ·rw [if_pos e,if_pos (h1.symm.trans e)];exact ⟨h1,ry⟩
  ·rw [if_neg e,if_neg (fun z=>e (h1.trans z))];exact ⟨h1,h2⟩
theorem KV.put {kvs:List (κ×V)}{vs:List (κ×Value)}(r:KV kvs vs) (k:κ) {y:V}{u:Value}(ry:RelV y u):KV (putK kvs k y) (stored vs k u):=by
 unfold putK stored
 rw [r.any k]
 by_cases e:(vs.any fun kv=>decide (kv.1=k))=true
 ·rw [if_pos e,if_pos e];exact r.repl k ry
 ·rw [if_neg e,if_neg e];exact Paired.snoc r ⟨rfl,ry⟩
theorem KV.length {kvs:List (κ×V)}{vs:List (κ×Value)}(r:KV kvs vs):kvs.length=vs.length:=Paired.length r
end
theorem t9 {P:Program}{w:World}{k:Key}{u:Value}(r:RelV (kV k) u):(cE P w).is k u=true:=by
 cases k with
 | inl i=>obtain ⟨t,e⟩:=(show ∃ t,u=Value.int i t from r);subst e;exact wU P w i t
 | inr x=>obtain ⟨t,e⟩:=(show ∃ t,u=Value.str x t from r);subst e;exact wV P w x t
theorem sS {P:Program}{w:World}:∀ {ks:List Key}{us:List Value},Vals (ks.map kV) us→ItemsAre (cE P w) ks us
 | [],_,r=>by rw [List.map_nil] at r;cases r;exact .nil
 | k :: ks,_,r=>by
  rw [List.map_cons] at r
  cases r with
  | cons h t=>exact .cons (t9 h) (sS t)
abbrev KT (H:Hp):List (List Key×V)→List (List Key×Addr×Value)→Prop:=Paired fun p q=>p.1=q.1∧H q.2.1=some (.tup (p.1.map kV))∧RelV p.2 q.2.2
theorem KT.val {H:Hp}{kvs:List (List Key×V)}{xs:List (List Key×Addr×Value)}(r:KT H kvs xs) (k:List Key):jw (iW kvs k) ((atKey xs k).map (·.2)):=by
 induction r with
 | nil=>exact True.intro
 | @cons p q ps qs h t ih=>
  obtain ⟨h1,_,h2⟩:=h
  by_cases e:p.1=k
  ·have e':q.1=k:=h1.symm.trans e
   have b:atKey (q :: qs) k=some q.2:=by simp [atKey,List.find?_cons,e']
   rw [pL e,b];exact h2
  ·have e':¬ q.1=k:=fun z=>e (h1.trans z)
   have b:atKey (q :: qs) k=atKey qs k:=by simp [atKey,List.find?_cons,e']
   rw [pM e,b];exact ih
theorem KT.repl {H:Hp}{kvs:List (List Key×V)}{xs:List (List Key×Addr×Value)}(r:KT H kvs xs) (k:List Key) {y:V}{u:Value}(ry:RelV y u) :
  KT H (kvs.map fun kv=>if kv.1=k then (kv.1,y) else kv) (xs.map (putAt k u)):=by
 induction r with
 | nil=>exact .nil
 | @cons p q ps qs h t ih=>
  rw [List.map_cons,List.map_cons]
  refine .cons ?_ ih
  obtain ⟨h1,h2,h3⟩:=h
  unfold putAt
  by_cases e:p.1=k
  ·rw [if_pos e,if_pos (h1.symm.trans e)];exact ⟨h1,h2,ry⟩
  ·rw [if_neg e,if_neg (fun z=>e (h1.trans z))];exact ⟨h1,h2,h3⟩
theorem KT.put {H:Hp}{kvs:List (List Key×V)}{xs:List (List Key×Addr×Value)}(r:KT H kvs xs) (k:List Key) {b:Addr}{y:V}{u:Value}(hb:H b=some (.tup (k.map kV))) (ry:RelV y u) :
  KT H (putK kvs k y) (storedH xs k b u):=by
 have e:(kvs.any fun kv=>decide (kv.1=k))=(atKey xs k).isSome:=by
  rw [uN,(r.val k).A8,Option.isSome_map]
 unfold putK storedH
 rw [e]
 by_cases q:(atKey xs k).isSome=true
 ·rw [if_pos q,if_pos q];exact r.repl k ry
 ·rw [if_neg q,if_neg q];exact Paired.snoc r ⟨rfl,hb,ry⟩
theorem KT.keeps {H H':Hp}{kvs:List (List Key×V)}{xs:List (List Key×Addr×Value)}(r:KT H kvs xs) (ht:∀ b ys,H b=some (.tup ys)→H' b=some (.tup ys)):KT H' kvs xs:=
 Paired.CW r fun _ _ z=>⟨z.1,ht _ _ z.2.1,z.2.2⟩
section
variable {P:Program}{w:World}{H:Hp}{h:Heap}{a:Addr}
theorem FH {u:HO}(ok:eS P w H h) (e:Rd H a u):dF P w H h a u:=e.ok ok
theorem qb {kvs:List (Key×V)}(ok:eS P w H h) (e:Rd H a (.dK kvs)):kvs.length≤sizeLine∧(a==sysModules)=false∧∃ vs,KV kvs vs∧h.DictOf (cE P w) a vs:=
 show dF P w H h a (.dK kvs) from FH ok e
theorem ua {kvs:List (Key×V)}(ok:eS P w H h) (e:H a=some (.dK kvs)):kvs.length≤sizeLine∧(a==sysModules)=false∧∃ vs,KV kvs vs∧h.DictOf (cE P w) a vs:=qb ok (.inl e)
theorem qc {ks:List Key}(ok:eS P w H h) (e:H a=some (.tup (ks.map kV))):(tupleKind (cE P w)).is h ks a:=by
 obtain ⟨_,its,r,o,h1,h2,n,h3⟩:=(show dF P w H h a (.tup (ks.map kV)) from ok a _ e)
 exact ⟨o,its.toArray,n,h1,h2,h3,by simpa using sS r⟩
theorem qd {kvs:List (List Key×V)}(ok:eS P w H h) (e:Rd H a (.dT kvs)):kvs.length≤sizeLine∧(a==sysModules)=false∧
  ∃ xs,KT H kvs xs∧h.DictOfH (tupleKind (cE P w)) a xs:=by
 obtain ⟨z,y,xs,r,o,es,ep,h1,h2,h3,h4,h5⟩:=(show dF P w H h a (.dT kvs) from FH ok e)
 refine ⟨z,y,xs,r,o,es,ep,h1,h2,h3,h4,fun x hx=>?_,h5⟩
 have all:∀ {l:List (List Key×V)} {m:List (List Key×Addr×Value)},KT H l m→∀ x∈m,(tupleKind (cE P w)).is h x.1 x.2.1:=by
  intro l m q
  induction q with
  | nil=>intro x hx;exact nomatch hx
  | @cons p q ps qs hq t ih=>
   intro x hx
   rcases List.mem_cons.mp hx with e | hx
   ·subst e
    exact qc ok (by rw [←hq.1];exact hq.2.1)
   ·exact ih x hx
 exact all r x hx
theorem OZ {kvs:List (List Key×V)}(ok:eS P w H h) (e:H a=some (.dT kvs)):kvs.length≤sizeLine∧(a==sysModules)=false∧
  ∃ xs,KT H kvs xs∧h.DictOfH (tupleKind (cE P w)) a xs:=qd ok (.inl e)
end
noncomputable def lQ (H:Hp) (a:Addr) (y:V) (r:Option V):Prop:=
 (∃ kvs k,Rd H a (.dK kvs)∧y=kV k∧r=iW kvs k)∨∃ kvs k b,Rd H a (.dT kvs)∧y=.ref b∧H b=some (.tup (k.map kV))∧r=iW kvs k
noncomputable def uO (H:Hp) (a:Addr) (y v:V) (H':Hp):Prop:=
 (∃ kvs k,H a=some (.dK kvs)∧y=kV k∧kvs.length<sizeLine∧H'=upd H a (.dK (putK kvs k v)))∨
 ∃ kvs k b,H a=some (.dT kvs)∧y=.ref b∧H b=some (.tup (k.map kV))∧kvs.length<sizeLine∧H'=upd H a (.dT (putK kvs k v))
theorem lQ.k {H:Hp}{a:Addr}{kvs:List (Key×V)}{k:Key}(e:H a=some (.dK kvs)):lQ H a (kV k) (iW kvs k):=.inl ⟨kvs,k,.inl e,rfl,rfl⟩
theorem uO.k {H:Hp}{a:Addr}{kvs:List (Key×V)}{k:Key}{v:V}(e:H a=some (.dK kvs)) (hl:kvs.length<sizeLine):uO H a (kV k) v (upd H a (.dK (putK kvs k v))):=.inl ⟨kvs,k,e,rfl,hl,rfl⟩
section
variable {X:Cx}{pins:List (Addr×Obj)}{σ:St}{H:Hp}{s:Shared}{a:Addr}{y v:V}{u r:Value}{o:Option V}{A:Around}{E:Value→Shared→Prop}
theorem Inv.big (I:Inv X pins σ H s):sysModules<s.heap.objs.size:=by
 have h:mainGlobals<s.heap.objs.size:=(I.mod.glob.keeps I.bk).lt
 exact Nat.lt_trans (by decide) h
theorem A9 {Q:Value→Shared→Prop}(hu:A.units+1<cLine) (I:Inv X pins σ H s) (g:lQ H a y (some v)) (ry:RelV y u) (h:∀ w' s',Inv X pins σ H s'→RelV v w'→Q w' s') :
  wpAny (model X.prog X.w) A (getItem (.ref a) u) Q E s:=by
 rcases g with ⟨kvs,k,e,ey,l⟩ | ⟨kvs,k,b,e,ey,eb,l⟩
 ·subst ey
  obtain ⟨z,hd,vs,rel,dd⟩:=qb I.hok e
  obtain ⟨w',hw,rw'⟩:=jw.some_of (v:=v) (o:=valueAt vs k) (by rw [l];exact rel.val k)
  exact wpAny_getItem_of (t9 ry) dd.mapOf hw (h w' _ (I.tok _) rw')
 ·subst ey
  cases (show u=Value.ref b from ry)
  obtain ⟨z,hd,xs,rel,dd⟩:=qd I.hok e
  obtain ⟨w',hw,rw'⟩:=jw.some_of (v:=v) (o:=(atKey xs k).map (·.2)) (by rw [l];exact rel.val k)
  obtain ⟨p,hp,hp2⟩:=Option.map_eq_some_iff.mp hw
  refine wpAny_getItem_heap (tupleKind_room_in1 hu) (qc I.hok eb) dd hp ?_
  rw [hp2]
  exact h w' _ (I.tok _) rw'
theorem rE {h':Heap}{t':Nat}{ob:HO}(I:Inv X pins σ H s) (mu:AJ (H a)) (hs:Heap.SameBut a s.heap h') (he:∃ q,h'.get? a=some q) (new:dF X.prog X.w (upd H a ob) h' a ob) :
  Inv X pins σ (upd H a ob) { s with heap:=h',toks:=t' }:=
 I.write (x:=a) (e:=a) mu (.inl rfl) (fun b q hb z=>(hs.2 b hb).trans z) he new
theorem Ba {P:Program}{w:World}{H':Hp}{h':Heap}{kvs:List (Key×V)}{vs:List (Key×Value)}(z:kvs.length≤sizeLine) (hd:(a==sysModules)=false) (rel:KV kvs vs) (dd:h'.DictOf (cE P w) a vs) :
  dF P w H' h' a (.dK kvs):=⟨z,hd,vs,rel,dd⟩
theorem Bb {H':Hp}{Q:Unit→Shared→Prop}(hu:A.units+1<cLine) (I:Inv X pins σ H s) (g:uO H a y v H') (ry:RelV y u) (rv:RelV v r) (h:∀ s',Inv X pins σ H' s'→Q () s') :
  wpAny (model X.prog X.w) A (setItem (.ref a) u r) Q E s:=by
 rcases g with ⟨kvs,k,e,ey,l,eH⟩ | ⟨kvs,k,b,e,ey,eb,l,eH⟩
 ·subst ey eH
  obtain ⟨z,hd,vs,rel,dd⟩:=ua I.hok e
  have hz:vs.length≤sizeLine:=by rw [←rel.length];exact z
  have hl:(putK kvs k v).length≤sizeLine:=by have:=kH kvs k v;omega
  refine wpAny_setItem_pairs (hsz:=hz) (t9 ry) dd fun h' uP hs=>h _ ?_
  have he:∃ q,h'.get? a=some q:=let ⟨q,_,_,hq,_⟩:=uP;⟨q,hq⟩
  exact rE I (by rw [e];exact True.intro) hs he (Ba hl hd (rel.put k rv) uP)
 ·subst ey eH
  cases (show u=Value.ref b from ry)
  obtain ⟨z,hd,xs,rel,dd⟩:=OZ I.hok e
  have hz:xs.length≤sizeLine:=by rw [←Paired.length rel];exact z
  have hl:(putK kvs k v).length≤sizeLine:=by have:=kH kvs k v;omega
  refine wpAny_setItem_heap (hsz:=hz) (tupleKind_room_in1 hu) (qc I.hok eb) dd fun h' uP hs=>h _ ?_
  obtain ⟨q,es,ep,hq,h2,h3,h4,_,h5⟩:=uP
  refine rE I (by rw [e];exact True.intro) hs ⟨q,hq⟩ ⟨hl,hd,_,(rel.put k eb rv).keeps fun c ys ec=>?_,q,es,ep,hq,h2,h3,h4,h5⟩
  rw [aT (iD ec e (fun z=>nomatch z))]
  exact ec
end
section
variable {X:Cx}{pins:List (Addr×Obj)}{σ:St}{H:Hp}{s:Shared}{a:Addr}{kvs:List (Key×V)}{k:Key}{u:Value}{A:Around}{E:Value→Shared→Prop}
end
noncomputable def Dk (i:Expr):Prop:=∀ ov iv,subscripted i false ov iv=operate [ov,iv] (getItem ov iv)
theorem HC {prog:Program}{w:World}{A:Around}{E:Value→Shared→Prop}{s:Shared}{env:Env}{value slice:Expr}{pos:Pos}{T id:String}{Q:Value→Shared→Prop}
  (hl:typeLookup (.type T) "__getitem__" = pure (some (.builtin id))) (hs:Dk slice)
  (h:wpAny (model prog w) A (eval value env) (fun o s₁=>wpAny (model prog w) A (eval slice env) (fun i s₂=>s₂.TypeIs o T∧wpAny (model prog w) A (getItem o i) Q E s₂) E s₁) E s) :
  wpAny (model prog w) A (eval (.Subscript value slice pos) env) Q E s:=by
 refine Subscript_ (wpAny_mono h (fun o s₁ h₁=>wpAny_mono h₁ (fun i s₂ h₂=>?_) fun _ _ x=>x) fun _ _ x=>x)
 obtain ⟨hT,h₂⟩:=h₂
 unfold subscriptTail
 refine wpAny_bind ?_
 rw [getitemInPython_of_ne hT.not_modules]
 refine wpAny_bind (wpAny_specialOf hT hl ?_)
 have fin:wpAny (model prog w) A (subscripted slice false o i) (fun r s₃=>wpAny (model prog w) A (letTemporaryGo value o r >>= fun _=>pure r) Q E s₃) E s₂:=by
  rw [hs o i]
  exact wpAny_operating (wpAny_mono h₂ (fun r s₃ h₃=>wpAny_bind (wpAny_letTemporaryGo (wpAny_pure h₃))) fun _ _ x=>x)
 first
  | exact wpAny_pure (wpAny_bind fin)
  | exact wpAny_bind (wpAny_pure (wpAny_bind fin))
  | exact wpAny_bind fin
theorem wX {X:Cx}{pins:List (Addr×Obj)}{σ:St}{H:Hp}{s:Shared}{a:Addr}{y:V}{o:Option V}(I:Inv X pins σ H s) (g:lQ H a y o):s.TypeIs (.ref a) "dict" :=by
 rcases g with ⟨kvs,k,e,_,_⟩ | ⟨kvs,k,b,e,_,_,_⟩
 ·obtain ⟨_,_,vs,_,dd⟩:=qb I.hok e
  exact dd.typeIs
 ·obtain ⟨_,_,xs,_,dd⟩:=qd I.hok e
  exact dd.typeIs
noncomputable def O0 (td ty:TE):TE:=fun σ H Q=>td σ H fun x H1=>ty σ H1 fun y H2=>∃ a v,x=.ref a∧lQ H2 a y (some v)∧Q v H2
noncomputable def O1 (td ty tv:TE):TS:=fun D σ H=>tv σ H fun v H1=>td σ H1 fun x H2=>ty σ H2 fun y H3=>∃ a H4,x=.ref a∧uO H3 a y v H4∧D.nx σ H4
section
variable {X:Cx}{o i e value:Expr}{pos pos' tpos:Pos}{td ty tv:TE}
theorem HD (hu:X.A.units+1<cLine) (ho:PE X o td) (hi:PE X i ty) (hs:Dk i):PE X (.Subscript o i pos) (O0 td ty):=by
 intro pins s σ H Q I h
 refine HC PySem.F.slot_dict_getitem.lookup hs (bJ (ho pins s σ H _ I h) fun u s1 ⟨x,H1,I1,rx,q1⟩=>bJ (hi pins s1 σ H1 _ I1 q1) fun iv s2 ⟨y,H2,I2,ry,a,v,ex,g,q2⟩=>?_)
 subst ex
 obtain rfl:u=Value.ref a:=rx
 exact ⟨wX I2 g,A9 hu I2 g ry fun w' s3 I3 rw'=>⟨v,H2,I3,rw',q2⟩⟩
theorem HE (hu:X.A.units+1<cLine) (ho:PE X o td) (hi:PE X i ty) (hv:PE X value tv) (hs:swapsWith value (some (.Subscript o i pos')) pos.line X.env=pure false) :
  PS X (.Assign [.Subscript o i pos'] value pos) (O1 td ty tv):=by
 intro pins s σ H D I h
 refine wpAny_Assign_Subscript (bJ (hv pins s σ H _ I h) fun r s1 ⟨v,H1,I1,rv,q1⟩=>bJ (ho pins s1 σ H1 _ I1 q1) fun u s2 ⟨x,H2,I2,rx,q2⟩=>bJ (hi pins s2 σ H2 _ I2 q2) fun iv s3 ⟨y,H3,I3,ry,a,H4,ex,g,q3⟩=>?_) hs
 subst ex
 obtain rfl:u=Value.ref a:=rx
 exact Bb hu I3 g ry rv fun s4 I4=>⟨σ,H4,I4,q3⟩
end
theorem Dl {P:Program}{w:World}{H:Hp}(h:Heap) (hb:sysModules<h.objs.size):dF P w H (h.push { cls:=.type "dict",data:=.dict #[]}) h.objs.size (.dK []):=
 ⟨Nat.zero_le _,beq_eq_false_iff_ne.mpr (Ne.symm (Nat.ne_of_lt hb)),[],.nil,Heap.DictOf.new h⟩
noncomputable def KH:TE:=fun _ H Q=>∀ p,H p=none→Q (.ref p) (upd H p (.dK []))
section
variable {X:Cx}{pos:Pos}
theorem Dm:PE X (.Dict [] [] pos) KH:=fun pins s σ H Q I h=>
 wpAny_Dict_empty ⟨.ref s.heap.objs.size,_,I.laid (a:=s.heap.objs.size) (o:=.dK []) (t':=s.toks) (fun _ _ q=>Heap.get?_push_of_some _ q) (Nat.le_refl _) (Dl s.heap I.big),rfl,h _ (I.hok.fresh (Nat.le_refl _))⟩
end
noncomputable def jW (kvs more:List (Key×V)):List (Key×V):=more.foldl (fun acc kv=>putK acc kv.1 kv.2) kvs
theorem KV.merge:∀ {more:List (Key×V)}{rs:List (Key×Value)}{kvs:List (Key×V)}{vs:List (Key×Value)},KV more rs→KV kvs vs→KV (jW kvs more) (merged vs rs):=by
 intro more rs kvs vs r
 unfold KV at r
 induction r generalizing kvs vs with
 | nil=>intro q;exact q
 | @cons p q ps qs h t ih=>
  intro r0
  have e:KV (putK kvs p.1 p.2) (stored vs q.1 q.2):=by
   have:=r0.put p.1 h.2
   rw [←h.1];exact this
  exact ih e
theorem mL:∀ (more kvs:List (Key×V)),(jW kvs more).length≤kvs.length+more.length
 | [],kvs=>by show kvs.length≤kvs.length+0;omega
 | p :: r,kvs=>by
  have h1:=mL r (putK kvs p.1 p.2)
  have h2:=kH kvs p.1 p.2
  show (jW (putK kvs p.1 p.2) r).length≤_
  rw [List.length_cons];omega
structure M1 (X:Cx) (o:Expr) (m:Str) (apos:Pos) (e:Expr) (cpos:Pos):Prop where
 base:attributeBase o m X.env (eval o X.env)=eval o X.env
 few:((backTo cpos (starEach [e] X.env)).all (fun x=>!x.1)&&(backToKw cpos (keywordEach [] X.env)).all (fun x=>x.1.isSome)
  &&decide (([e]:List Expr).length+([]:List Keyword).length+(if ([]:List Keyword).isEmpty then 0 else 1)<30))=true
 line:(apos.endLine==cpos.line)=true
 trees:backTo cpos (starEach [e] X.env)=[(false,eval e X.env)]
structure M2 (X:Cx) (o:Expr) (m:Str) (apos:Pos) (e f:Expr) (cpos:Pos):Prop where
 base:attributeBase o m X.env (eval o X.env)=eval o X.env
 few:((backTo cpos (starEach [e,f] X.env)).all (fun x=>!x.1)&&(backToKw cpos (keywordEach [] X.env)).all (fun x=>x.1.isSome)
  &&decide (([e,f]:List Expr).length+([]:List Keyword).length+(if ([]:List Keyword).isEmpty then 0 else 1)<30))=true
 line:(apos.endLine==cpos.line)=true
 trees:backTo cpos (starEach [e,f] X.env)=[(false,eval e X.env),(false,eval f X.env)]
noncomputable def KJ (H:Hp) (a:Addr):Prop:=(∃ kvs,Rd H a (.dK kvs))∨∃ kvs,Rd H a (.dT kvs)
theorem Bc {X:Cx}{pins:List (Addr×Obj)}{σ:St}{H:Hp}{s:Shared}{a:Addr}(I:Inv X pins σ H s) (d:KJ H a) :
  s.TypeIs (.ref a) "dict" ∧(∀ b,Value.ref a=.ref b→∃ ob,s.heap.get? b=some ob∧ob.dict=none)∧(a==sysModules)=false:=by
 rcases d with ⟨kvs,e⟩ | ⟨kvs,e⟩
 ·obtain ⟨_,hd,vs,_,dd⟩:=qb I.hok e
  refine ⟨dd.typeIs,fun b q=>?_,hd⟩
  cases q
  obtain ⟨ob,_,_,h1,h2,_⟩:=dd
  exact ⟨ob,h1,h2.2.1⟩
 ·obtain ⟨_,hd,xs,_,dd⟩:=qd I.hok e
  refine ⟨dd.typeIs,fun b q=>?_,hd⟩
  cases q
  obtain ⟨ob,_,_,h1,h2,_⟩:=dd
  exact ⟨ob,h1,h2.2.1⟩
section
variable {X:Cx}{pins:List (Addr×Obj)}{σ:St}{H:Hp}{s:Shared}{a:Addr}{y d:V}{u r:Value}{o:Option V}{A:Around}{E:Value→Shared→Prop}
theorem KL {Q:Value→Shared→Prop}(hu:A.units+1<cLine) (I:Inv X pins σ H s) (g:lQ H a y o) (ry:RelV y u) (rd:RelV d r) (h:∀ w' s',Inv X pins σ H s'→RelV (o.getD d) w'→Q w' s') :
  wpAny (model X.prog X.w) A (call (.builtin "dict.get") [.ref a,u,r]) Q E s:=by
 rcases g with ⟨kvs,k,e,ey,l⟩ | ⟨kvs,k,b,e,ey,eb,l⟩
 ·subst ey
  obtain ⟨z,hd,vs,rel,dd⟩:=qb I.hok e
  refine call_meetsIn PySem.F.slot_dict_get dd.typeIs PySem.F.entry_dict_get (PySem.F.args_dict_get_3 _ _ _) (meets_dict_get_default (cE X.prog X.w) a (t9 ry) hd r) ⟨_,dd.mapOf,h _ _ (I.tok _) ?_⟩
  rw [l]
  exact (rel.val k).getD rd
 ·subst ey
  cases (show u=Value.ref b from ry)
  obtain ⟨z,hd,xs,rel,dd⟩:=qd I.hok e
  refine call_meetsIn PySem.F.slot_dict_get dd.typeIs PySem.F.entry_dict_get (PySem.F.args_dict_get_3 _ _ _) (meetsH_dict_get_default (tupleKind (cE X.prog X.w)) a b hd r) ⟨tupleKind_room_in1 hu,k,xs,qc I.hok eb,dd,h _ _ (I.tok _) ?_⟩
  rw [l]
  exact (rel.val k).getD rd
end
noncomputable def KN (td ty tx:TE):TE:=fun σ H Q=>td σ H fun x H1=>∃ a,x=.ref a∧KJ H1 a∧ty σ H1 fun y H2=>tx σ H2 fun z H3=>∃ o,lQ H3 a y o∧Q (o.getD z) H3
section
variable {X:Cx}{o e f:Expr}{apos cpos:Pos}{td ty tx:TE}
theorem Dn (hu:X.A.units+1<cLine) (ho:PE X o td) (he:PE X e ty) (hf:PE X f tx) (m:M2 X o "get" apos e f cpos):PE X (.Call (.Attribute o "get" apos) [e,f] [] cpos) (KN td ty tx):=by
 intro pins s σ H Q I h
 refine wpAny_Call_method m.base m.few m.line PySem.F.plainAttrs_dict PySem.F.slot_dict_get PySem.F.type_dict_get (bJ (ho pins s σ H _ I h) fun u s1 ⟨x,H1,I1,rx,a,ex,d,q1⟩=>?_)
 subst ex
 obtain rfl:u=Value.ref a:=rx
 obtain ⟨t1,t2,_⟩:=Bc I1 d
 refine ⟨t1,t2,?_⟩
 rw [m.trees]
 refine Calls.callWith_builtin rfl (Calls.evalArgs_plain (Calls.spliced_cons (bJ (he pins s1 σ H1 _ I1 q1) fun iv s2 ⟨y,H2,I2,ry,q2⟩=>
  Calls.spliced_cons (bJ (hf pins s2 σ H2 _ I2 q2) fun fv s3 ⟨z,H3,I3,rz,ov,g,q3⟩=>Calls.spliced_nil ?_))))
 exact KL hu I3 g ry rz fun w' s4 I4 rw'=>⟨_,H3,I4,rw',q3⟩
end
end L2
namespace Ev
inductive D where
 | aP | bl (b:Bool) | int (i:Int) | str (s:List Nat) | tup (ds:List D) | ref (n:Nat)
inductive O where
 | lst (ds:List D) | bR (ds:List D)
 | dct (kvs:List (Int×List Nat))
abbrev Hh:=List O
abbrev Fr:=List (Option D)
inductive R (α:Type) where
 | ok (a:α) (h:Hh)
 | bad
noncomputable def R.bind {α β:Type}(r:R α) (f:α→Hh→R β):R β:=
 match r with
 | .ok a h=>f a h
 | .bad=>.bad
@[simp] theorem ak {α β:Type} (a:α) (h:Hh) (f:α→Hh→R β):(R.ok a h).bind f=f a h:=rfl
@[simp] theorem Dp {α β:Type} (f:α→Hh→R β):(R.bad:R α).bind f=.bad:=rfl
theorem ah {α β:Type}{r:R α}{f:α→Hh→R β}{b:β}{h:Hh}(e:r.bind f=.ok b h):∃ a h1,r=.ok a h1∧f a h1=.ok b h:=by
 cases r with
 | ok a h1=>exact ⟨a,h1,rfl,e⟩
 | bad=>cases e
noncomputable def R.of {α:Type}(o:Option α) (h:Hh):R α:=match o with
 | some a=>.ok a h
 | none=>.bad
@[simp] theorem dH {α:Type} (a:α) (h:Hh):R.of (some a) h=.ok a h:=rfl
@[simp] theorem of_none {α:Type} (h:Hh):R.of (none:Option α) h=.bad:=rfl
theorem aJ {α:Type}{o:Option α}{h h':Hh}{a:α}(e:R.of o h=.ok a h'):o=some a∧h'=h:=by
 cases o with
 | none=>cases e
 | some b=>cases e;exact ⟨rfl,rfl⟩
inductive bU where
 | add | sub | mul | fdiv | mod
inductive bQ where
 | eq | ne | lt | gt
 | mP | m6
inductive TY where
 | int | bool | str | tuple | list
inductive BI where
 | len | sum | min
 | all
 | zo
 | kg
inductive ME where
 | join | append | extend | pop
inductive T where
 | one (i:Nat) | many (l:List Nat)
mutual
inductive E where
 | c (d:D) | v (i:Nat) | tup (es:Es) | lst (es:Es)
 | bin (o:bU) (a b:E) | cmp (o:bQ) (a b:E)
 | nt (a:E) | neg (a:E) | an (a b:E) | orr (a b:E) | jD (t a b:E)
 | ix (a b:E) | sl (a:E) (lo hi:Eo)
 | cl (f:Nat) (es:Es) | bi (b:BI) (es:Es) | me (m:ME) (o:E) (es:Es)
 | comp (elt:E) (t:T) (it:It) (cond:Eo)
 | ig (it:It)
 | jy (kvs:List (D×D)) (a:E) | iT (a:E)
 | gW | kh (a k:E) | ki (a k x:E)
inductive Es where
 | nil | cons (e:E) (es:Es)
inductive Eo where
 | no | yes (e:E)
inductive It where
 | seq (e:E) | g8 (es:Es)
 | enum (a:E) | rev (a:E)
end
mutual
inductive S where
 | set (i:Nat) (e:E) | zp (l:List Nat) (e:E)
 | dput (o i e:E)
 | pN (o e:E) | jz (i x y f:Nat)
 | exp (e:E) | ret (e:E) | iff (t:E) (a b:Ss) | for (t:T) (it:It) (b:Ss) | m7 (t:E) (b:Ss)
 | fL
inductive Ss where
 | nil | cons (s:S) (ss:Ss)
end
inductive Fl where
 | nx | bk | ct | ret (d:D)
noncomputable def big:Nat:=16777216
noncomputable def cJ (f:D→D→Option Bool):List D→List D→Option Bool
 | [],[]=>some true
 | x :: xs,y :: ys=>do
  let b ←f x y
  let c ←cJ f xs ys
  pure (b&&c)
 | _,_=>some false
noncomputable def bh (h:Hh) (n:Nat):Option (List D):=match h[n]? with
 | some (.lst ds)=>some ds
 | some (.bR ds)=>some ds
 | _=>none
noncomputable def b2i (b:Bool):Int:=if b then 1 else 0
noncomputable def jX (h:Hh) (f:D→D→Option Bool) (a b:Nat):Option Bool:=if a=b then (bh h a).map fun _=>true else match h[a]?,h[b]? with
 | some (.lst x),some (.lst y)=>cJ f x y
 | some (.bR x),some (.lst y)=>cJ f x y
 | some (.lst x),some (.bR y)=>cJ f x y
 | _,_=>none
noncomputable def gG (h:Hh):Nat→D→D→Option Bool
 | 0,_,_=>none
 | _+1,.aP,.aP=>some true
 | _+1,.bl a,.bl b=>some (a==b)
 | _+1,.int a,.int b=>some (a==b)
 | _+1,.bl a,.int b=>some (b2i a==b)
 | _+1,.int a,.bl b=>some (a==b2i b)
 | _+1,.str a,.str b=>some (a==b)
 | n+1,.tup a,.tup b=>cJ (gG h n) a b
 | n+1,.ref a,.ref b=>jX h (gG h n) a b
 | _+1,.ref a,_=>(bh h a).map fun _=>false
 | _+1,_,.ref a=>(bh h a).map fun _=>false
 | _+1,_,_=>some false
noncomputable def deep:Nat:=20
noncomputable def truthy (h:Hh):D→Option Bool
 | .aP=>some false
 | .bl b=>some b
 | .int i=>some (i != 0)
 | .str s=>some (!s.isEmpty)
 | .tup ds=>some (!ds.isEmpty)
 | .ref n=>match h[n]? with
  | some (.dct kvs)=>some (!kvs.isEmpty)
  | _=>(bh h n).map fun ds=>!ds.isEmpty
noncomputable def alloc (ds:List D) (h:Hh):R D:=if ds.length≤big then .ok (.ref h.length) (h++[.lst ds]) else .bad
noncomputable def rep {α:Type}(k:Nat) (l:List α):List α:=(List.replicate k l).flatten
noncomputable def cC (i j:Int):Bool:=(decide (-(2 ^ 64)<i)&&decide (i<2 ^ 64)) || (decide (-(2 ^ 64)<j)&&decide (j<2 ^ 64))
noncomputable def bZ:bU→D→D→Hh→R D
 | .add,.int i,.int j,h=>.ok (.int (i+j)) h
 | .add,.str a,.str b,h=>if a.length+b.length≤big then .ok (.str (a++b)) h else .bad
 | .add,.tup a,.tup b,h=>if a.length+b.length≤big then .ok (.tup (a++b)) h else .bad
 | .add,.ref a,.ref b,h=>match h[a]?,h[b]? with
  | some (.lst x),some (.lst y)=>alloc (x++y) h
  | _,_=>.bad
 | .sub,.int i,.int j,h=>.ok (.int (i - j)) h
 | .mul,.int i,.int j,h=>if cC i j then .ok (.int (i*j)) h else .bad
 | .mul,.str a,.int k,h=>if 0≤k∧k≤1000∧a.length≤1000 then .ok (.str (rep k.toNat a)) h else .bad
 | .mul,.tup a,.int k,h=>if 0≤k∧k≤1000∧a.length≤1000 then .ok (.tup (rep k.toNat a)) h else .bad
 | .mul,.ref a,.int k,h=>match h[a]? with
  | some (.lst x)=>if 0≤k∧k≤1000∧x.length≤1000 then alloc (rep k.toNat x) h else .bad
  | _=>.bad
 | .fdiv,.int i,.int j,h=>if 0<j∧j<1073741824 then .ok (.int (i / j)) h else .bad
 | .mod,.int i,.int j,h=>if 0<j then .ok (.int (i % j)) h else .bad
 | _,_,_,_=>.bad
noncomputable def cop (o:bQ) (x y:D) (h:Hh):Option Bool:=match o,x,y with
 | .eq,x,y=>gG h deep x y
 | .ne,x,y=>(gG h deep x y).map (!·)
 | .lt,.int i,.int j=>some (decide (i<j))
 | .gt,.int i,.int j=>some (decide (j<i))
 | .mP,x,.aP=>some (match x with | .aP=>true | _=>false)
 | .m6,x,.aP=>some (match x with | .aP=>false | _=>true)
 | _,_,_=>none
noncomputable def dP (n:Nat) (i:Int):Option Nat:=if 0≤i then (if i<n then some i.toNat else none) else if -(n:Int)≤i then some (i+n).toNat else none
noncomputable def bP {α:Type}(xs:List α) (i:Int):Option α:=(dP xs.length i).bind fun j=>xs[j]?
noncomputable def eg (x y:D) (h:Hh):Option D:=match x,y with
 | .tup ds,.int i=>bP ds i
 | .str s,.int i=>(bP s i).map fun c=>.str [c]
 | .ref n,.int i=>(bh h n).bind fun ds=>bP ds i
 | _,_=>none
noncomputable def aS (n d:Nat):Option Int→Nat
 | none=>d
 | some v=>if v<0 then (v+n).toNat else min v.toNat n
noncomputable def cut {α:Type}(xs:List α) (lo hi:Option Int):List α:=(xs.drop (aS xs.length 0 lo)).take (aS xs.length xs.length hi - aS xs.length 0 lo)
noncomputable def iG (x:D) (lo hi:Option Int) (h:Hh):R D:=match x with
 | .tup ds=>.ok (.tup (cut ds lo hi)) h
 | .str s=>.ok (.str (cut s lo hi)) h
 | .ref n=>match bh h n with
  | some ds=>alloc (cut ds lo hi) h
  | none=>.bad
 | _=>.bad
noncomputable def boolsOf:List D→Option (List Bool)
 | []=>some []
 | .bl b :: ds=>(boolsOf ds).map fun r=>b :: r
 | _=>none
noncomputable def intsOf:List D→Option (List Int)
 | []=>some []
 | .int i :: ds=>(intsOf ds).map fun r=>i :: r
 | _=>none
noncomputable def strsOf:List D→Option (List (List Nat))
 | []=>some []
 | .str s :: ds=>(strsOf ds).map fun r=>s :: r
 | _=>none
noncomputable def cR (sep:List Nat):List (List Nat)→List Nat
 | []=>[]
 | [s]=>s
 | s :: t :: r=>s++sep++cR sep (t :: r)
noncomputable def lexLe:List Nat→List Nat→Bool
 | [],_=>true
 | _ :: _,[]=>false
 | x :: xs,y :: ys=>if x=y then lexLe xs ys else decide (x<y)
noncomputable def KO (x:List Nat):List (List Nat)→List (List Nat)
 | []=>[x]
 | y :: ys=>if lexLe x y then x :: y :: ys else y :: KO x ys
noncomputable def eF:List (List Nat)→List (List Nat)
 | []=>[]
 | x :: xs=>KO x (eF xs)
noncomputable def cg (kvs:List (Int×List Nat)) (k:Int):Option (List Nat):=(kvs.find? fun p=>decide (p.1=k)).map (·.2)
noncomputable def cW (kvs:List (Int×List Nat)) (k:Int) (s:List Nat):List (Int×List Nat):=if (kvs.any fun p=>decide (p.1=k))=true then kvs.map (fun p=>if p.1=k then (p.1,s) else p) else kvs++[(k,s)]
noncomputable def eT (h:Hh):D→Option (List (Int×List Nat))
 | .ref n=>match h[n]? with
  | some (.dct kvs)=>some kvs
  | _=>none
 | _=>none
noncomputable def uQ (x y:D) (h:Hh):Option D:=match eT h x,y with
 | some kvs,.int k=>(cg kvs k).map .str
 | _,_=>none
noncomputable def uR (x y z:D) (h h0:Hh):Option D:=match eT h0 x,eT h x,y with
 | some _,some kvs,.int k=>some (match cg kvs k with | some s=>.str s | none=>z)
 | _,_,_=>none
noncomputable def uc (x y z:D) (h:Hh):Option Hh:=match x,y,z with
 | .ref n,.int k,.str s=>match h[n]? with
  | some (.dct kvs)=>if kvs.length<big then some (h.set n (.dct (cW kvs k s))) else none
  | _=>none
 | _,_,_=>none
noncomputable def cY (k m:List (Int×List Nat)):List (Int×List Nat):=m.foldl (fun a p=>cW a p.1 p.2) k
noncomputable def ue (x y:D) (h h0:Hh):Option Hh:=match x,y with
 | .ref n,.ref m=>match eT h0 (.ref n),h[n]?,h[m]? with
  | some _,some (.dct k),some (.dct j)=>if n≠m∧k.length+j.length≤big then some (h.set n (.dct (cY k j))) else none
  | _,_,_=>none
 | _,_=>none
noncomputable def insI (x:Int):List Int→List Int
 | []=>[x]
 | y :: ys=>if x≤y then x :: y :: ys else y :: insI x ys
noncomputable def sortI:List Int→List Int
 | []=>[]
 | x :: xs=>insI x (sortI xs)
noncomputable def cS (b:BI) (xs:List D) (h:Hh):R D:=match b,xs with
 | .len,[.str s]=>if s.length≤big then .ok (.int s.length) h else .bad
 | .len,[.tup ds]=>.ok (.int ds.length) h
 | .len,[.ref n]=>R.of ((bh h n).map fun ds=>.int ds.length) h
 | .all,[.ref n]=>R.of (((bh h n).bind boolsOf).map fun bs=>.bl (bs.all id)) h
 | .sum,[.ref n]=>R.of (((bh h n).bind intsOf).map fun is=>.int is.sum) h
 | .min,[.int i,.int j]=>.ok (.int (if j<i then j else i)) h
 | .zo,[.ref n]=>match (bh h n).bind intsOf with
  | some ss=>if ss.length<64 then alloc ((sortI ss).map .int) h else .bad
  | none=>.bad
 | .kg,[x]=>match eT h x with
  | some kvs=>if kvs.length<64 then alloc ((sortI (kvs.map (·.1))).map .int) h else .bad
  | none=>.bad
 | _,_=>.bad
noncomputable def fM (m:ME) (o:D) (xs:List D) (h:Hh):R D:=match m,o,xs with
 | .join,.str sep,[.ref n]=>match (bh h n).bind strsOf with
  | some ss=>if (ss.map (·.length)).sum+ss.length*sep.length≤big then .ok (.str (cR sep ss)) h else .bad
  | none=>.bad
 | .append,.ref n,[x]=>match h[n]? with
  | some (.lst ds)=>if ds.length<big then .ok .aP (h.set n (.lst (ds++[x]))) else .bad
  | _=>.bad
 | .extend,.ref n,[.ref m]=>match h[n]?,h[m]? with
  | some (.lst ds),some (.lst es)=>if ds.length+es.length≤big then .ok .aP (h.set n (.lst (ds++es))) else .bad
  | _,_=>.bad
 | .pop,.ref n,[]=>match h[n]? with
  | some (.lst ds)=>match ds[ds.length - 1]? with
   | some x=>.ok x (h.set n (.lst ds.dropLast))
   | none=>.bad
  | _=>.bad
 | _,_,_=>.bad
noncomputable def xV (m:ME) (x:D) (h:Hh):Bool:=match m,x with
 | .join,.str _=>true
 | .join,_=>false
 | _,.ref n=>(bh h n).isSome
 | _,_=>false
noncomputable def fk (x:D):List (D×D)→Option D
 | []=>none
 | (k,v) :: r=>match gG [] 1 k x with
  | some true=>some v
  | some false=>fk x r
  | none=>none
abbrev Src:=List D×List (Nat×List D)
noncomputable def fS (h:Hh):D→Option Src
 | .tup ds=>some (ds,[])
 | .str s=>some (s.map fun c=>.str [c],[])
 | .ref n=>(bh h n).map fun ds=>(ds,[(n,ds)])
 | _=>none
noncomputable def range (lo:Int) (n:Nat):List D:=(List.range n).map fun (i:Nat)=>.int (lo+i)
noncomputable def fT:List D→Option Src
 | [.int j]=>if -(2 ^ 62)≤j∧j<2 ^ 62 then some (range 0 j.toNat,[]) else none
 | [.int i,.int j]=>if -(2 ^ 62)≤i∧i<2 ^ 62∧-(2 ^ 62)≤j∧j<2 ^ 62 then some (range i (j - i).toNat,[]) else none
 | _=>none
noncomputable def gT:Int→List D→List D
 | _,[]=>[]
 | k,x :: xs=>.tup [.int k,x] :: gT (k+1) xs
noncomputable def zq (a b:List D):Bool:=@decide (a=b) (Classical.propDecidable _)
theorem sU (a b:List D):zq a b=true↔a=b:=@decide_eq_true_iff _ (Classical.propDecidable _)
@[simp] theorem zu (a:List D):zq a a=true:=(sU a a).mpr rfl
noncomputable def stays (h:Hh):List (Nat×List D)→Bool
 | []=>true
 | (n,ds) :: r=>(match bh h n with | some es=>zq es ds | none=>false)&&stays h r
noncomputable def cQ:List Nat→List D→Fr→Option Fr
 | [],[],fr=>some fr
 | i :: is,d :: ds,fr=>cQ is ds (fr.set i (some d))
 | _,_,_=>none
noncomputable def bz:T→D→Fr→Option Fr
 | .one i,d,fr=>some (fr.set i (some d))
 | .many l,.tup ds,fr=>cQ l ds fr
 | _,_,_=>none
noncomputable def slots:T→List Nat
 | .one i=>[i]
 | .many l=>l
noncomputable def undef (t:T) (fr:Fr):Bool:=(slots t).all fun i=>(fr[i]?.join).isNone
noncomputable def Dq:D→Option (List D)
 | .tup ds=>some ds
 | _=>none
noncomputable def rF:D→Hh→R D
 | .tup ds,h=>.ok (.tup ds) h
 | .ref n,h=>match bh h n with
  | some ds=>if ds.length≤big then .ok (.tup ds) h else .bad
  | none=>.bad
 | _,_=>.bad
noncomputable def Dr (h:Hh):D→Option Src
 | .ref n=>(bh h n).map fun ds=>(ds,[(n,ds)])
 | _=>none
noncomputable def cO (f:D→Hh→R (Option D)) (ck:List (Nat×List D)):List D→Hh→R (List D)
 | [],h=>if stays h ck then .ok [] h else .bad
 | d :: ds,h=>if stays h ck then (f d h).bind fun o h1=>(cO f ck ds h1).bind fun r h2=>.ok (o.toList++r) h2 else .bad
noncomputable def forL (f:D→Fr→Hh→R (Fl×Fr)) (ck:List (Nat×List D)):List D→Fr→Hh→R (Fl×Fr)
 | [],fr,h=>if stays h ck then .ok (.nx,fr) h else .bad
 | d :: ds,fr,h=>if stays h ck then (f d fr h).bind fun p h1=>match p.1 with
   | .nx=>forL f ck ds p.2 h1
   | .ct=>forL f ck ds p.2 h1
   | .bk=>.ok (.nx,p.2) h1
   | .ret x=>.ok (.ret x,p.2) h1
  else .bad
noncomputable def ek (t:Fr→Hh→R Bool) (f:Fr→Hh→R (Fl×Fr)):Nat→Fr→Hh→R (Fl×Fr)
 | 0,_,_=>.bad
 | n+1,fr,h=>(t fr h).bind fun b h1=>if b then (f fr h1).bind fun p h2=>match p.1 with
   | .nx=>ek t f n p.2 h2
   | .ct=>ek t f n p.2 h2
   | .bk=>.ok (.nx,p.2) h2
   | .ret x=>.ok (.ret x,p.2) h2
  else .ok (.nx,fr) h1
abbrev aR:=Nat→List D→Hh→R D
noncomputable def intOf:D→Option Int
 | .int i=>some i
 | _=>none
mutual
noncomputable def ev (P:aR):E→Fr→Hh→R D
 | .c d,_,h=>.ok d h
 | .v i,fr,h=>R.of (fr[i]?.join) h
 | .tup es,fr,h=>(cj P es fr h).bind fun ds h1=>if ds.length≤big then .ok (.tup ds) h1 else .bad
 | .lst es,fr,h=>(cj P es fr h).bind fun ds h1=>alloc ds h1
 | .bin o a b,fr,h=>(ev P a fr h).bind fun x h1=>(ev P b fr h1).bind fun y h2=>bZ o x y h2
 | .cmp o a b,fr,h=>(ev P a fr h).bind fun x h1=>(ev P b fr h1).bind fun y h2=>R.of ((cop o x y h2).map .bl) h2
 | .nt a,fr,h=>(ev P a fr h).bind fun x h1=>match x with
   | .bl b=>.ok (.bl (!b)) h1
   | _=>.bad
 | .neg a,fr,h=>(ev P a fr h).bind fun x h1=>match x with
   | .int i=>.ok (.int (-i)) h1
   | _=>.bad
 | .an a b,fr,h=>(ev P a fr h).bind fun x h1=>match x with
   | .bl true=>ev P b fr h1
   | .bl false=>.ok (.bl false) h1
   | _=>.bad
 | .orr a b,fr,h=>(ev P a fr h).bind fun x h1=>match x with
   | .bl true=>.ok (.bl true) h1
   | .bl false=>ev P b fr h1
   | _=>.bad
 | .jD t a b,fr,h=>(aL P t fr h).bind fun k h1=>if k then ev P a fr h1 else ev P b fr h1
 | .ix a b,fr,h=>(ev P a fr h).bind fun x h1=>(ev P b fr h1).bind fun y h2=>R.of (eg x y h2) h2
 | .sl a lo hi,fr,h=>(ev P a fr h).bind fun x h1=>(gi P lo fr h1).bind fun l h2=>(gi P hi fr h2).bind fun u h3=>iG x l u h3
 | .cl f es,fr,h=>(cj P es fr h).bind fun ds h1=>P f ds h1
 | .bi b es,fr,h=>(cj P es fr h).bind fun ds h1=>cS b ds h1
 | .me m o es,fr,h=>(ev P o fr h).bind fun x h1=>if xV m x h1 then (cj P es fr h1).bind fun ds h2=>fM m x ds h2 else .bad
 | .comp elt t it cond,fr,h=>(cF P it fr h).bind fun s h1=>if undef t fr then
   (cO (fun d h2=>match bz t d fr with
    | none=>.bad
    | some ao=>(iH P cond ao h2).bind fun k h3=>if k then (ev P elt ao h3).bind fun x h4=>.ok (some x) h4 else .ok none h3) s.2 s.1 h1).bind fun ds h2=>alloc ds h2 else .bad
 | .ig it,fr,h=>(cF P it fr h).bind fun s h1=>alloc s.1 h1
 | .jy kvs a,fr,h=>(ev P a fr h).bind fun x h1=>R.of (fk x kvs) h1
 | .gW,_,h=>.ok (.ref h.length) (h++[.dct []])
 | .kh a k,fr,h=>(ev P a fr h).bind fun x h1=>(ev P k fr h1).bind fun y h2=>R.of (uQ x y h2) h2
 | .ki a k z,fr,h=>(ev P a fr h).bind fun x h1=>(ev P k fr h1).bind fun y h2=>(ev P z fr h2).bind fun w h3=>R.of (uR x y w h3 h1) h3
 | .iT a,fr,h=>(ev P a fr h).bind fun x h1=>rF x h1
noncomputable def cj (P:aR):Es→Fr→Hh→R (List D)
 | .nil,_,h=>.ok [] h
 | .cons e es,fr,h=>(ev P e fr h).bind fun d h1=>(cj P es fr h1).bind fun ds h2=>.ok (d :: ds) h2
noncomputable def gi (P:aR):Eo→Fr→Hh→R (Option Int)
 | .no,_,h=>.ok none h
 | .yes e,fr,h=>(ev P e fr h).bind fun d h1=>R.of ((intOf d).map some) h1
noncomputable def iH (P:aR):Eo→Fr→Hh→R Bool
 | .no,_,h=>.ok true h
 | .yes e,fr,h=>aL P e fr h
noncomputable def aL (P:aR):E→Fr→Hh→R Bool
 | .an a b,fr,h=>(aL P a fr h).bind fun k h1=>if k then aL P b fr h1 else .ok false h1
 | .orr a b,fr,h=>(aL P a fr h).bind fun k h1=>if k then .ok true h1 else aL P b fr h1
 | .nt a,fr,h=>(aL P a fr h).bind fun k h1=>.ok (!k) h1
 | e,fr,h=>(ev P e fr h).bind fun x h1=>R.of (truthy h1 x) h1
noncomputable def cF (P:aR):It→Fr→Hh→R Src
 | .seq e,fr,h=>(ev P e fr h).bind fun x h1=>R.of (fS h1 x) h1
 | .g8 es,fr,h=>(cj P es fr h).bind fun ds h1=>R.of (fT ds) h1
 | .enum a,fr,h=>(ev P a fr h).bind fun x h1=>R.of ((Dr h1 x).map fun s=>(gT 0 s.1,s.2)) h1
 | .rev a,fr,h=>(ev P a fr h).bind fun x h1=>R.of ((Dq x).map fun ds=>(ds.reverse,[])) h1
end
noncomputable def uS (P:aR) (o e:E) (fr:Fr) (h:Hh):R (Fl×Fr):=(ev P o fr h).bind fun x h1=>(ev P e fr h1).bind fun y h2=>match ue x y h2 h1 with
 | some h3=>.ok (.nx,fr) h3
 | none=>.bad
mutual
noncomputable def ex (P:aR) (w:Nat):S→Fr→Hh→R (Fl×Fr)
 | .set i e,fr,h=>(ev P e fr h).bind fun x h1=>.ok (.nx,fr.set i (some x)) h1
 | .zp l e,fr,h=>(ev P e fr h).bind fun x h1=>match bz (.many l) x fr with
   | some ao=>.ok (.nx,ao) h1
   | none=>.bad
 | .dput o i e,fr,h=>(ev P e fr h).bind fun x h1=>(ev P o fr h1).bind fun y h2=>(ev P i fr h2).bind fun z h3=>match uc y z x h3 with
   | some h4=>.ok (.nx,fr) h4
   | none=>.bad
 | .pN o e,fr,h=>uS P o e fr h
 | .jz i x y f,fr,h=>(cF P (.seq (.v y)) (fr.set i (some (.ref h.length))) (h++[.dct []])).bind fun s h1=>forL (fun d ao h2=>match bz (.one x) d ao with
   | some bG=>uS P (.v i) (.cl f (.cons (.v x) .nil)) bG h2
   | none=>.bad) s.2 s.1 (fr.set i (some (.ref h.length))) h1
 | .exp e,fr,h=>(ev P e fr h).bind fun _ h1=>.ok (.nx,fr) h1
 | .ret e,fr,h=>(ev P e fr h).bind fun x h1=>.ok (.ret x,fr) h1
 | .iff t a b,fr,h=>(aL P t fr h).bind fun k h1=>if k then exs P w a fr h1 else exs P w b fr h1
 | .for t it b,fr,h=>(cF P it fr h).bind fun s h1=>forL (fun d ao h2=>match bz t d ao with
   | some bG=>exs P w b bG h2
   | none=>.bad) s.2 s.1 fr h1
 | .m7 t b,fr,h=>ek (fun ao h2=>aL P t ao h2) (fun ao h2=>exs P w b ao h2) w fr h
 | .fL,_,_=>.bad
noncomputable def exs (P:aR) (w:Nat):Ss→Fr→Hh→R (Fl×Fr)
 | .nil,fr,h=>.ok (.nx,fr) h
 | .cons s ss,fr,h=>(ex P w s fr h).bind fun p h1=>match p.1 with
   | .nx=>exs P w ss p.2 h1
   | _=>.ok p h1
end
structure Fn where
 np:Nat
 ns:Nat
 body:Ss
noncomputable def eK (fn:Fn) (ds:List D):Fr:=ds.map some++List.replicate (fn.ns - fn.np) none
noncomputable def endOf (r:R (Fl×Fr)):R D:=r.bind fun p h=>match p.1 with
 | .ret d=>.ok d h
 | .nx=>.ok .aP h
 | _=>.bad
noncomputable def run (F:List Fn) (w:Nat):Nat→aR
 | 0,_,_,_=>.bad
 | n+1,f,ds,h=>match F[f]? with
  | some fn=>if ds.length=fn.np then endOf (exs (run F w n) w fn.body (eK fn ds) h) else .bad
  | none=>.bad
end Ev
set_option maxRecDepth 100000
namespace Sm
open PySem PySem.Spec PyProof.Rows L2
noncomputable def aU (l:List Nat):Str:=⟨l.toArray⟩
theorem cU (l:List Nat):(aU l).length=l.length:=by simp [aU,Str.length]
theorem rG {a b:List Nat}(h:aU a=aU b):a=b:=by
 have h1:a.toArray=b.toArray:=congrArg Str.cps h
 simpa using congrArg Array.toList h1
theorem jk:Ev.big=sizeLine:=by rw [sizeLine_eq];rfl
section
variable (K:PySem.W.Frag)
mutual
noncomputable def RV (H:Hp) (r:List Addr):Ev.D→V→Prop
 | .aP,v=>v=.aP
 | .bl b,v=>v=.bl b
 | .int i,v=>v=.int i
 | .str s,v=>v=.str (aU s)∧s.length≤sizeLine
 | .ref n,v=>∃ a,v=.ref a∧r[n]?=some a
 | .tup ds,v=>∃ a vs,v=.ref a∧dG K H a vs∧aI H r ds vs
noncomputable def aI (H:Hp) (r:List Addr):List Ev.D→List V→Prop
 | [],vs=>vs=[]
 | d :: ds,vs=>∃ v w,vs=v :: w∧RV H r d v∧aI H r ds w
end
noncomputable def zv (H:Hp) (a:Addr) (vs:List V):Prop:=(∃ o,H a=some (.bR o (.lst vs)))∨
 ∃ (o:Obj) (its:Array Value) (n:Nat),K.lookup a=some o∧o.cls=.type "list" ∧o.dict=none∧o.data=.seq its n∧its.size≤sizeLine∧Vals vs its.toList
noncomputable def dM (kvs:List (Int×List Nat)):List (Key×V):=kvs.map fun p=>(Sum.inl p.1,V.str (aU p.2))
noncomputable def RO (H:Hp) (r:List Addr):Ev.O→Addr→Prop
 | .lst ds,a=>∃ vs,H a=some (.lst vs)∧aI K H r ds vs
 | .bR ds,a=>∃ vs,zv K H a vs∧aI K H r ds vs
 | .dct kvs,a=>H a=some (.dK (dM kvs))∧∀ p∈kvs,p.2.length≤sizeLine
structure HR (H:Hp) (r:List Addr) (h:Ev.Hh):Prop where
 len:r.length=h.length
 ob:∀ (n:Nat) o,h[n]?=some o→∃ a,r[n]?=some a∧RO K H r o a
 inj:∀ (n m:Nat) a x y,r[n]?=some a→r[m]?=some a→h[n]?=some (.lst x)→h[m]?=some (.lst y)→n=m
 kj:∀ (n m:Nat) a x y,r[n]?=some a→r[m]?=some a→h[n]?=some (.dct x)→h[m]?=some (.dct y)→n=m
structure Fm (r r':List Addr) (H H':Hp):Prop where
 pre:∀ (n:Nat) a,r[n]?=some a→r'[n]?=some a
 new:∀ a∈r',a∈r∨H a=none
 keep:∀ a o,H a=some o→a∉r→H' a=some o
 tups:∀ a vs,dG K H a vs→dG K H' a vs
end
section
variable {K:PySem.W.Frag}{H H1 H2:Hp}{r r1 r2:List Addr}{h:Ev.Hh}
theorem Fm.refl:Fm K r r H H:=⟨fun _ _ e=>e,fun _ e=>.inl e,fun _ _ e _=>e,fun _ _ e=>e⟩
theorem Fm.trans (a:Fm K r r1 H H1) (b:Fm K r1 r2 H1 H2):Fm K r r2 H H2 where
 pre:=fun n x e=>b.pre n x (a.pre n x e)
 new:=fun x e=>by
  rcases b.new x e with q | q
  ·exact a.new x q
  ·by_cases z:x∈r
   ·exact .inl z
   ·refine .inr ?_
    cases w:H x with
    | none=>rfl
    | some o=>rw [a.keep x o w z] at q;cases q
 keep:=fun x o e n=>by
  refine b.keep x o (a.keep x o e n) fun z=>?_
  rcases a.new x z with q | q
  ·exact n q
  ·rw [e] at q;cases q
 tups:=fun x vs e=>b.tups x vs (a.tups x vs e)
mutual
theorem RV.grow (f:∀ (n:Nat) a,r[n]?=some a→r1[n]?=some a) (g:∀ a vs,dG K H a vs→dG K H1 a vs):∀ {d:Ev.D}{v:V},RV K H r d v→RV K H1 r1 d v
 | .aP,_,e=>e
 | .bl _,_,e=>e
 | .int _,_,e=>e
 | .str _,_,e=>e
 | .ref n,_,⟨a,e,z⟩=>⟨a,e,f n a z⟩
 | .tup ds,_,⟨a,vs,e,z,q⟩=>⟨a,vs,e,g a vs z,aI.grow f g q⟩
theorem aI.grow (f:∀ (n:Nat) a,r[n]?=some a→r1[n]?=some a) (g:∀ a vs,dG K H a vs→dG K H1 a vs):∀ {ds:List Ev.D}{vs:List V},aI K H r ds vs→aI K H1 r1 ds vs
 | [],_,e=>e
 | _ :: _,_,⟨v,w,e,z,q⟩=>⟨v,w,e,RV.grow f g z,aI.grow f g q⟩
end
theorem RV.mono (f:Fm K r r1 H H1) {d:Ev.D}{v:V}(q:RV K H r d v):RV K H1 r1 d v:=q.grow f.pre f.tups
theorem aI.mono (f:Fm K r r1 H H1) {ds:List Ev.D}{vs:List V}(q:aI K H r ds vs):aI K H1 r1 ds vs:=q.grow f.pre f.tups
theorem aI.nil:aI K H r [] []:=by simp [aI]
theorem aI.cons {d:Ev.D}{v:V}{ds:List Ev.D}{vs:List V}(a:RV K H r d v) (b:aI K H r ds vs):aI K H r (d :: ds) (v :: vs):=by
 simp only [aI];exact ⟨v,vs,rfl,a,b⟩
theorem aI.length:∀ {ds:List Ev.D}{vs:List V},aI K H r ds vs→vs.length=ds.length
 | [],_,e=>by simp only [aI] at e;subst e;rfl
 | _ :: _,_,e=>by
  simp only [aI] at e
  obtain ⟨v,w,rfl,_,q⟩:=e
  simp [aI.length q]
theorem aI.get:∀ {ds:List Ev.D}{vs:List V}{i:Nat}{d:Ev.D},aI K H r ds vs→ds[i]?=some d→∃ v,vs[i]?=some v∧RV K H r d v
 | [],_,_,_,_,e=>by simp at e
 | _ :: _,_,0,_,h,e=>by
  simp only [aI] at h
  obtain ⟨v,w,rfl,z,q⟩:=h
  simp at e;subst e
  exact ⟨v,by simp,z⟩
 | _ :: _,_,i+1,_,h,e=>by
  simp only [aI] at h
  obtain ⟨v,w,rfl,z,q⟩:=h
  obtain ⟨u,a,b⟩:=aI.get (i:=i) q (by simpa using e)
  exact ⟨u,by simpa using a,b⟩
theorem aI.append:∀ {ds es:List Ev.D}{vs ws:List V},aI K H r ds vs→aI K H r es ws→aI K H r (ds++es) (vs++ws)
 | [],_,_,_,a,b=>by simp only [aI] at a;subst a;simpa using b
 | _ :: _,_,_,_,a,b=>by
  simp only [aI] at a
  obtain ⟨v,w,rfl,z,q⟩:=a
  simp only [List.cons_append]
  exact .cons z (aI.append q b)
theorem aI.take:∀ {ds:List Ev.D}{vs:List V}(n:Nat),aI K H r ds vs→aI K H r (ds.take n) (vs.take n)
 | _,_,0,_=>by simp [aI]
 | [],_,_+1,a=>by simp only [aI] at a;subst a;simp [aI]
 | _ :: _,_,n+1,a=>by
  simp only [aI] at a
  obtain ⟨v,w,rfl,z,q⟩:=a
  simp only [List.take_succ_cons]
  exact .cons z (aI.take n q)
theorem aI.drop:∀ {ds:List Ev.D}{vs:List V}(n:Nat),aI K H r ds vs→aI K H r (ds.drop n) (vs.drop n)
 | _,_,0,a=>by simpa using a
 | [],_,_+1,a=>by simp only [aI] at a;subst a;simp [aI]
 | _ :: _,_,n+1,a=>by
  simp only [aI] at a
  obtain ⟨v,w,rfl,z,q⟩:=a
  simp only [List.drop_succ_cons]
  exact aI.drop n q
theorem aI.reverse:∀ {ds:List Ev.D}{vs:List V},aI K H r ds vs→aI K H r ds.reverse vs.reverse
 | [],_,a=>by simp only [aI] at a;subst a;simp [aI]
 | _ :: _,_,a=>by
  simp only [aI] at a
  obtain ⟨v,w,rfl,z,q⟩:=a
  simp only [List.reverse_cons]
  exact (aI.reverse q).append (.cons z .nil)
theorem aI.rep {ds:List Ev.D}{vs:List V}(a:aI K H r ds vs):∀ k:Nat,aI K H r (Ev.rep k ds) (Ev.rep k vs)
 | 0=>by simp [Ev.rep,aI]
 | k+1=>by
  have h:=aI.rep a k
  simp only [Ev.rep,List.replicate_succ,List.flatten_cons] at h ⊢
  exact a.append h
theorem Fm.laid {p:Addr}{o:HO}(hp:H p=none):Fm K r (r++[p]) H (upd H p o) where
 pre:=fun n a e=>by rw [List.getElem?_append_left (List.getElem?_eq_some_iff.mp e).1];exact e
 new:=fun a e=>by
  rcases List.mem_append.mp e with q | q
  ·exact .inl q
  ·rw [List.mem_singleton] at q;subst q;exact .inr hp
 keep:=fun a ob e _=>by rw [aT (bF e hp)];exact e
 tups:=fun a vs e=>by
  rcases e with (e | ⟨ob,e⟩) | e
  ·exact .inl (.inl (by rw [aT (bF e hp)];exact e))
  ·exact .inl (.inr ⟨ob,by rw [aT (bF e hp)];exact e⟩)
  ·exact .inr e
theorem Fm.tup {p:Addr}{o:HO}(hp:H p=none):Fm K r r H (upd H p o) where
 pre:=fun n a e=>e
 new:=fun a e=>.inl e
 keep:=fun a ob e _=>by rw [aT (bF e hp)];exact e
 tups:=(Fm.laid (r:=r) hp).tups
theorem RO.mono {o:Ev.O}{a:Addr}(f:Fm K r r1 H H1) (q:RO K H r o a) (hl:∀ ds vs,o=.lst ds→H a=some (.lst vs)→H1 a=some (.lst vs)) (hf:∀ ob vs,H a=some (.bR ob vs)→H1 a=some (.bR ob vs))
  (hd:∀ kvs vs,o=.dct kvs→H a=some (.dK vs)→H1 a=some (.dK vs))
  : RO K H1 r1 o a:=by
 cases o with
 | lst ds=>
  obtain ⟨vs,e,z⟩:=q
  exact ⟨vs,hl ds vs rfl e,z.mono f⟩
 | bR ds=>
  obtain ⟨vs,e,z⟩:=q
  refine ⟨vs,?_,z.mono f⟩
  rcases e with ⟨ob,e⟩ | e
  ·exact .inl ⟨ob,hf _ _ e⟩
  ·exact .inr e
 | dct kvs=>exact ⟨hd kvs _ rfl q.1,q.2⟩
theorem HR.tup {p:Addr}{o:HO}(hr:HR K H r h) (hp:H p=none):HR K (upd H p o) r h where
 len:=hr.len
 ob:=fun n ob e=>by
  obtain ⟨a,e1,q⟩:=hr.ob n ob e
  exact ⟨a,e1,q.mono (Fm.tup hp) (fun _ vs _ z=>by rw [aT (bF z hp)];exact z) (fun _ _ z=>by rw [aT (bF z hp)];exact z)
   (fun _ _ _ z=>by rw [aT (bF z hp)];exact z)
   ⟩
 inj:=hr.inj
 kj:=hr.kj
theorem HR.KP {p:Addr}{ds:List Ev.D}(hr:HR K H r h):∀ (n m:Nat) a x y,(r++[p])[n]?=some a→(r++[p])[m]?=some a→(h++[Ev.O.lst ds])[n]?=some (.dct x)→(h++[Ev.O.lst ds])[m]?=some (.dct y)→n=m:=fun n m a x y e1 e2 e3 e4=>by
 have out:∀ (k:Nat) z,(h++[Ev.O.lst ds])[k]?=some (.dct z)→(r++[p])[k]?=some a→r[k]?=some a∧h[k]?=some (.dct z):=fun k z q1 q2=>by
  by_cases hk:k<h.length
  ·rw [List.getElem?_append_left hk] at q1
   rw [List.getElem?_append_left (by rw [hr.len];exact hk)] at q2
   exact ⟨q2,q1⟩
  ·have e5:=(List.getElem?_eq_some_iff.mp q1).1
   simp only [List.length_append,List.length_singleton] at e5
   have e6:k=h.length:=by omega
   subst e6
   simp at q1
 exact hr.kj n m a x y (out n x e3 e1).1 (out m y e4 e2).1 (out n x e3 e1).2 (out m y e4 e2).2
theorem HR.lst {p:Addr}{ds:List Ev.D}{vs:List V}(hr:HR K H r h) (hp:H p=none) (q:aI K H r ds vs):HR K (upd H p (.lst vs)) (r++[p]) (h++[.lst ds]) where
 len:=by simp [hr.len]
 ob:=fun n ob e=>by
  by_cases hn:n<h.length
  ·rw [List.getElem?_append_left hn] at e
   obtain ⟨a,e1,z⟩:=hr.ob n ob e
   exact ⟨a,(Fm.laid (K:=K) (o:=.lst vs) hp).pre n a e1,z.mono (Fm.laid hp) (fun _ vs _ z=>by rw [aT (bF z hp)];exact z) (fun _ _ z=>by rw [aT (bF z hp)];exact z)
    (fun _ _ _ z=>by rw [aT (bF z hp)];exact z)
    ⟩
  ·have e2:=(List.getElem?_eq_some_iff.mp e).1
   simp only [List.length_append,List.length_singleton] at e2
   have e3:n=h.length:=by omega
   subst e3
   simp at e
   subst e
   exact ⟨p,by rw [←hr.len];simp,vs,fR,q.mono (Fm.laid hp)⟩
 inj:=fun n m a x y e1 e2 e3 e4=>by
  have out:∀ (k:Nat) z,(h++[Ev.O.lst ds])[k]?=some (.lst z)→(r++[p])[k]?=some a→(k<h.length∧r[k]?=some a∧h[k]?=some (.lst z)∧a≠p)∨(k=h.length∧a=p):=fun k z q1 q2=>by
   by_cases hk:k<h.length
   ·rw [List.getElem?_append_left hk] at q1
    rw [List.getElem?_append_left (by rw [hr.len];exact hk)] at q2
    obtain ⟨b,e5,vs',e6,_⟩:=hr.ob k _ q1
    rw [q2] at e5;cases e5
    exact .inl ⟨hk,q2,q1,bF e6 hp⟩
   ·have e5:=(List.getElem?_eq_some_iff.mp q1).1
    simp only [List.length_append,List.length_singleton] at e5
    have e6:k=r.length:=by rw [hr.len];omega
    subst e6
    simp at q2
    exact .inr ⟨hr.len,q2.symm⟩
  rcases out n x e3 e1 with ⟨h1,h2,h3,h4⟩ | ⟨h1,h2⟩
  ·rcases out m y e4 e2 with ⟨k1,k2,k3,k4⟩ | ⟨k1,k2⟩
   ·exact hr.inj n m a x y h2 k2 h3 k3
   ·exact absurd k2 h4
  ·rcases out m y e4 e2 with ⟨k1,k2,k3,k4⟩ | ⟨k1,k2⟩
   ·exact absurd h2 k4
   ·rw [h1,k1]
 kj:=hr.KP
theorem HR.dct {n:Nat}{kvs:List (Int×List Nat)}(hr:HR K H r h) (e:h[n]?=some (.dct kvs)):∃ a,r[n]?=some a∧H a=some (.dK (dM kvs))∧∀ p∈kvs,p.2.length≤sizeLine:=by
 obtain ⟨a,e1,e2,e3⟩:=hr.ob n _ e
 exact ⟨a,e1,e2,e3⟩
theorem HR.read {n:Nat}{ds:List Ev.D}(hr:HR K H r h) (e:Ev.bh h n=some ds):∃ a vs,r[n]?=some a∧fK K H a vs∧aI K H r ds vs:=by
 unfold Ev.bh at e
 split at e
 ·rename_i z
  cases e
  obtain ⟨a,e1,vs,e2,e3⟩:=hr.ob n _ z
  exact ⟨a,vs,e1,.inl (.inl e2),e3⟩
 ·rename_i z
  cases e
  obtain ⟨a,e1,vs,e2,e3⟩:=hr.ob n _ z
  refine ⟨a,vs,e1,?_,e3⟩
  rcases e2 with ⟨ob,e2⟩ | e2
  ·exact .inl (.inr ⟨ob,e2⟩)
  ·exact .inr e2
 ·cases e
theorem Fm.write {a:Addr}{vs ws:List V}(ha:H a=some (.lst vs)) (hm:a∈r):Fm K r r H (upd H a (.lst ws)) where
 pre:=fun n b e=>e
 new:=fun b e=>.inl e
 keep:=fun b ob e n=>by rw [aT (fun z=>n (by rw [z];exact hm))];exact e
 tups:=fun b us e=>by
  rcases e with (e | ⟨ob,e⟩) | e
  ·exact .inl (.inl (by rw [aT (iD e ha (by intro z;cases z))];exact e))
  ·exact .inl (.inr ⟨ob,by rw [aT (iD e ha (by intro z;cases z))];exact e⟩)
  ·exact .inr e
theorem HR.write {n:Nat}{a:Addr}{ds es:List Ev.D}{vs ws:List V}(hr:HR K H r h) (hn:h[n]?=some (.lst ds)) (uT:r[n]?=some a) (ha:H a=some (.lst vs)) (q:aI K H r es ws) :
  HR K (upd H a (.lst ws)) r (h.set n (.lst es)) where
 len:=by simp [hr.len]
 ob:=fun m ob e=>by
  have f:=Fm.write (K:=K) (ws:=ws) ha (List.mem_of_getElem? uT)
  by_cases hm:m=n
  ·subst hm
   rw [List.getElem?_set_self (List.getElem?_eq_some_iff.mp hn).1] at e
   cases e
   exact ⟨a,uT,ws,fR,q.mono f⟩
  ·rw [List.getElem?_set_ne (fun z=>hm z.symm)] at e
   obtain ⟨b,e1,z⟩:=hr.ob m ob e
   refine ⟨b,e1,z.mono f (fun V2 us z3 z2=>?_) (fun V3 us z2=>by rw [aT (iD z2 ha (by intro z;cases z))];exact z2)
    (fun _ us _ z2=>by rw [aT (iD z2 ha (by intro z;cases z))];exact z2)
    ⟩
   by_cases hb:b=a
   ·subst hb
    subst z3
    exact absurd (hr.inj m n b V2 ds e1 uT e hn) hm
   ·rw [aT hb];exact z2
 inj:=fun k m b x y e1 e2 e3 e4=>by
  have back:∀ (j:Nat) z,(h.set n (Ev.O.lst es))[j]?=some (.lst z)→∃ z',h[j]?=some (.lst z'):=fun j z w=>by
   by_cases hj:j=n
   ·subst hj;exact ⟨ds,hn⟩
   ·rw [List.getElem?_set_ne (fun z=>hj z.symm)] at w;exact ⟨z,w⟩
  obtain ⟨x',e5⟩:=back k x e3
  obtain ⟨y',e6⟩:=back m y e4
  exact hr.inj k m b x' y' e1 e2 e5 e6
 kj:=fun k m b x y e1 e2 e3 e4=>by
  have back:∀ (j:Nat) z,(h.set n (Ev.O.lst es))[j]?=some (.dct z)→h[j]?=some (.dct z):=fun j z w=>by
   by_cases hj:j=n
   ·subst hj
    rw [List.getElem?_set_self (List.getElem?_eq_some_iff.mp hn).1] at w
    cases w
   ·rw [List.getElem?_set_ne (fun z=>hj z.symm)] at w;exact w
  exact hr.kj k m b x y e1 e2 (back k x e3) (back m y e4)
theorem iI {p:Addr}{vs ws:List V}(hp:H p=some (.lst vs)):∀ a us,dG K H a us→dG K (upd H p (.lst ws)) a us:=fun b us e=>by
 rcases e with (e | ⟨ob,e⟩) | e
 ·exact .inl (.inl (by rw [aT (iD e hp (by intro z;cases z))];exact e))
 ·exact .inl (.inr ⟨ob,by rw [aT (iD e hp (by intro z;cases z))];exact e⟩)
 ·exact .inr e
theorem HR.other {p:Addr}{vs ws:List V}(hr:HR K H r h) (hp:H p=some (.lst vs)) (hn:p∉r):HR K (upd H p (.lst ws)) r h where
 len:=hr.len
 ob:=fun n ob e=>by
  obtain ⟨a,e1,q⟩:=hr.ob n ob e
  have ha:a≠p:=fun z=>hn (by rw [←z];exact List.mem_of_getElem? e1)
  refine ⟨a,e1,?_⟩
  cases ob with
  | lst ds=>
   obtain ⟨us,e2,e3⟩:=q
   exact ⟨us,by rw [aT ha];exact e2,e3.grow (fun _ _ z=>z) (iI hp)⟩
  | bR ds=>
   obtain ⟨us,e2,e3⟩:=q
   refine ⟨us,?_,e3.grow (fun _ _ z=>z) (iI hp)⟩
   rcases e2 with ⟨o,e2⟩ | e2
   ·exact .inl ⟨o,by rw [aT ha];exact e2⟩
   ·exact .inr e2
  | dct kvs=>exact ⟨by rw [aT ha];exact q.1,q.2⟩
 inj:=hr.inj
 kj:=hr.kj
theorem Fm.other {p:Addr}{vs ws:List V}(f:Fm K r r1 H H1) (h0:H p=none) (hp:H1 p=some (.lst vs)):Fm K r r1 H (upd H1 p (.lst ws)) where
 pre:=f.pre
 new:=f.new
 keep:=fun a o e n=>by rw [aT (bF e h0)];exact f.keep a o e n
 tups:=fun a us e=>iI hp a us (f.tups a us e)
theorem Fm.zw {p:Addr}{o:HO}(f:Fm K r r1 H H1) (hp:H p=some o) (hn:p∉r):p∉r1∧H1 p=some o:=by
 refine ⟨fun z=>?_,f.keep p o hp hn⟩
 rcases f.new p z with q | q
 ·exact hn q
 ·rw [hp] at q;cases q
theorem HR.known {p:Addr}{ds:List Ev.D}{vs:List V}(hr:HR K H r h) (hp:H p=some (.lst vs)) (hn:p∉r) (q:aI K H r ds vs):HR K H (r++[p]) (h++[.lst ds]):=by
 have pre:∀ (n:Nat) a,r[n]?=some a→(r++[p])[n]?=some a:=fun n a e=>by rw [List.getElem?_append_left (List.getElem?_eq_some_iff.mp e).1];exact e
 refine ⟨by simp [hr.len],fun n ob e=>?_,fun n m a x y e1 e2 e3 e4=>?_
  ,hr.KP
  ⟩
 ·by_cases hk:n<h.length
  ·rw [List.getElem?_append_left hk] at e
   obtain ⟨a,e1,z⟩:=hr.ob n ob e
   refine ⟨a,pre n a e1,?_⟩
   cases ob with
   | lst ds=>obtain ⟨us,e2,e3⟩:=z;exact ⟨us,e2,e3.grow pre fun _ _ z=>z⟩
   | bR ds=>obtain ⟨us,e2,e3⟩:=z;exact ⟨us,e2,e3.grow pre fun _ _ z=>z⟩
   | dct kvs=>exact z
  ·have e2:=(List.getElem?_eq_some_iff.mp e).1
   simp only [List.length_append,List.length_singleton] at e2
   have e3:n=h.length:=by omega
   subst e3
   simp at e
   subst e
   exact ⟨p,by rw [←hr.len];simp,vs,hp,q.grow pre fun _ _ z=>z⟩
 ·have out:∀ (k:Nat) z,(h++[Ev.O.lst ds])[k]?=some (.lst z)→(r++[p])[k]?=some a→(k<h.length∧r[k]?=some a∧h[k]?=some (.lst z)∧a≠p)∨(k=h.length∧a=p):=fun k z q1 q2=>by
   by_cases hk:k<h.length
   ·rw [List.getElem?_append_left hk] at q1
    rw [List.getElem?_append_left (by rw [hr.len];exact hk)] at q2
    exact .inl ⟨hk,q2,q1,fun z=>hn (by rw [←z];exact List.mem_of_getElem? q2)⟩
   ·have e5:=(List.getElem?_eq_some_iff.mp q1).1
    simp only [List.length_append,List.length_singleton] at e5
    have e6:k=r.length:=by rw [hr.len];omega
    subst e6
    simp at q2
    exact .inr ⟨hr.len,q2.symm⟩
  rcases out n x e3 e1 with ⟨h1,h2,h3,h4⟩ | ⟨h1,h2⟩
  ·rcases out m y e4 e2 with ⟨k1,k2,k3,k4⟩ | ⟨k1,k2⟩
   ·exact hr.inj n m a x y h2 k2 h3 k3
   ·exact absurd k2 h4
  ·rcases out m y e4 e2 with ⟨k1,k2,k3,k4⟩ | ⟨k1,k2⟩
   ·exact absurd h2 k4
   ·rw [h1,k1]
theorem Fm.known {p:Addr}(f:Fm K r r1 H H1) (h0:H p=none):Fm K r (r1++[p]) H H1 where
 pre:=fun n a e=>by
  have e':=f.pre n a e
  rw [List.getElem?_append_left (List.getElem?_eq_some_iff.mp e').1];exact e'
 new:=fun a e=>by
  rcases List.mem_append.mp e with q | q
  ·exact f.new a q
  ·rw [List.mem_singleton] at q;subst q;exact .inr h0
 keep:=f.keep
 tups:=f.tups
end
end Sm
set_option maxRecDepth 100000
namespace Sm
open PySem PySem.Spec PyProof.Rows L2
open Ev (D O Hh Fr R aR E Es Eo It T S Ss Fl Src bU bQ TY BI ME)
section
variable (K:PySem.W.Frag)
noncomputable def Res (r:List Addr) (H:Hp) (h':Hh) (d:D) (Q:VK):Prop:=∀ v H' r',RV K H' r' d v→HR K H' r' h'→Fm K r r' H H'→Q v H'
structure SR (m:List Nat) (H:Hp) (r:List Addr) (fr:Fr) (s:L2.St):Prop where
 len:s.length=m.length
 sl:∀ (j i:Nat) d,m[j]?=some i→fr[i]?=some (some d)→∃ v,s[j]?=some (some v)∧RV K H r d v
inductive tJ (m:List Nat) (P:aR) (e:E) (s:L2.St) (H:Hp) (Q:VK):Prop
 | mk (r:List Addr) (fr:Fr) (h:Hh) (d:D) (h':Hh) (c0:SR K m H r fr s) (c1:HR K H r h) (c2:Ev.ev P e fr h=.ok d h') (c3:Res K r H h' d Q):tJ m P e s H Q
inductive KQ (m:List Nat) (P:aR) (e:E) (s:L2.St) (H:Hp) (Q:Bool→Hp→Prop):Prop
 | mk (r:List Addr) (fr:Fr) (h:Hh) (k:Bool) (h':Hh) (c0:SR K m H r fr s) (c1:HR K H r h) (c2:Ev.aL P e fr h=.ok k h') (c3:∀ H' r',HR K H' r' h'→Fm K r r' H H'→Q k H'):KQ m P e s H Q
inductive KR (m:List Nat) (P:aR) (es:Es) (s:L2.St) (H:Hp) (Q:List V→Hp→Prop):Prop
 | mk (r:List Addr) (fr:Fr) (h:Hh) (ds:List D) (h':Hh) (c0:SR K m H r fr s) (c1:HR K H r h) (c2:Ev.cj P es fr h=.ok ds h') (c3:∀ vs H' r',aI K H' r' ds vs→HR K H' r' h'→Fm K r r' H H'→Q vs H'):KR m P es s H Q
inductive Rg (m:List Nat) (P:aR) (e:Eo) (s:L2.St) (H:Hp) (Q:Option Int→Hp→Prop):Prop
 | mk (r:List Addr) (fr:Fr) (h:Hh) (o:Option Int) (h':Hh) (c0:SR K m H r fr s) (c1:HR K H r h) (c2:Ev.gi P e fr h=.ok o h') (c3:∀ H' r',HR K H' r' h'→Fm K r r' H H'→Q o H'):Rg m P e s H Q
inductive iJ (f:D→D→Hh→R D) (x:V) (y:V) (H:Hp) (Q:VK):Prop
 | mk (r:List Addr) (h:Hh) (a:D) (b:D) (d:D) (h':Hh) (c0:HR K H r h) (c1:RV K H r a x) (c2:RV K H r b y) (c3:f a b h=.ok d h') (c4:Res K r H h' d Q):iJ f x y H Q
inductive V4 (f:D→Hh→R D) (x:V) (H:Hp) (Q:VK):Prop
 | mk (r:List Addr) (h:Hh) (a:D) (d:D) (h':Hh) (c0:HR K H r h) (c1:RV K H r a x) (c2:f a h=.ok d h') (c3:Res K r H h' d Q):V4 f x H Q
inductive sV (f:List D→Hh→R D) (xs:List V) (H:Hp) (Q:VK):Prop
 | mk (r:List Addr) (h:Hh) (as:List D) (d:D) (h':Hh) (c0:HR K H r h) (c1:aI K H r as xs) (c2:f as h=.ok d h') (c3:Res K r H h' d Q):sV f xs H Q
inductive uU (f:D→List D→Hh→R D) (x:V) (xs:List V) (H:Hp) (Q:VK):Prop
 | mk (r:List Addr) (h:Hh) (a:D) (as:List D) (d:D) (h':Hh) (c0:HR K H r h) (c1:RV K H r a x) (c2:aI K H r as xs) (c3:f a as h=.ok d h') (c4:Res K r H h' d Q):uU f x xs H Q
inductive KS  (x:V) (lo:Option Int) (hi:Option Int) (H:Hp) (Q:VK):Prop
 | mk (r:List Addr) (h:Hh) (a:D) (d:D) (h':Hh) (c0:HR K H r h) (c1:RV K H r a x) (c2:Ev.iG a lo hi h=.ok d h') (c3:Res K r H h' d Q):KS x lo hi H Q
end
section
variable {K:PySem.W.Frag}{m:List Nat}{H H':Hp}{r r':List Addr}{fr:Fr}{s:L2.St}{h h':Hh}{d:D}{Q:VK}
theorem SR.mono (a:SR K m H r fr s) (f:Fm K r r' H H'):SR K m H' r' fr s:=⟨a.len,fun j i d e1 e2=>by
 obtain ⟨v,q,z⟩:=a.sl j i d e1 e2
 exact ⟨v,q,z.mono f⟩⟩
theorem Res.here {v:V}(q:Res K r H h d Q) (a:RV K H r d v) (b:HR K H r h):Q v H:=q v H r a b .refl
theorem Res.later (q:Res K r H h' d Q) (f:Fm K r r' H H'):Res K r' H' h' d Q:=fun v H2 r2 a b g=>q v H2 r2 a b (f.trans g)
theorem Res.lst {ds:List D}{vs:List V}(q:Res K r H h' d Q) (e:Ev.alloc ds h=.ok d h') (a:aI K H r ds vs) (b:HR K H r h):vs.length≤sizeLine∧∀ p,H p=none→Q (.ref p) (upd H p (.lst vs)):=by
 unfold Ev.alloc at e
 split at e
 ·rename_i z
  cases e
  refine ⟨by rw [a.length,←jk];exact z,fun p hp=>?_⟩
  exact q _ _ (r++[p]) ⟨p,rfl,by rw [←b.len];simp⟩ (b.lst hp a) (.laid hp)
 ·cases e
theorem Res.tup {ds:List D}{vs:List V}(q:Res K r H h (.tup ds) Q) (a:aI K H r ds vs) (b:HR K H r h) {p:Addr}(hp:H p=none):Q (.ref p) (upd H p (.tup vs)):=
 q _ _ r ⟨p,vs,rfl,.of fR,a.mono (.tup hp)⟩ (b.tup hp) (.tup hp)
end
theorem PE.of {X:Cx}{e:Expr}{t t':TE}(h:PE X e t) (w:∀ s H Q,t' s H Q→t s H Q):PE X e t':=fun pins s σ H Q I q=>h pins s σ H Q I (w _ _ _ q)
theorem PT.of {X:Cx}{e:Expr}{t t':TT}(h:PT X e t) (w:∀ s H Q,t' s H Q→t s H Q):PT X e t':=fun pins s σ H Q I q=>h pins s σ H Q I (w _ _ _ q)
theorem PW.of {X:Cx}{e:Expr}{t t':TT}(h:PW X e t) (w:∀ s H Q,t' s H Q→t s H Q):PW X e t':=fun wh pins s σ H Q I q=>h wh pins s σ H Q I (w _ _ _ q)
theorem PA.of {X:Cx}{es:List Expr}{t t':TA}(h:PA X es t) (w:∀ s H Q,t' s H Q→t s H Q):PA X es t':=fun pos pins s σ H Q I q=>h pos pins s σ H Q I (w _ _ _ q)
theorem PO.of {X:Cx}{e:Option Expr}{t t':TO}(h:PO X e t) (w:∀ s H Q,t' s H Q→t s H Q):PO X e t':=fun pins s σ H Q I q=>h pins s σ H Q I (w _ _ _ q)
structure FI where
 name:Str
 addr:Addr
 fd:FuncData
 ps:List Str
noncomputable def oY (K:PySem.W.Frag) (F:List Ev.Fn) (w n f:Nat):Sp:=fun vs H Q _=>∃ r h ds d h',aI K H r ds vs∧HR K H r h∧Ev.run F w n f ds h=.ok d h'∧Res K r H h' d Q
noncomputable def xW (K:PySem.W.Frag) (d:D) (v:V):Prop:=∀ H r,RV K H r d v
theorem xW.rv {K:PySem.W.Frag}{H:Hp}{r:List Addr}{d:D}{v:V}(h:xW K d v):RV K H r d v:=h H r
structure Tb where
 F:List Ev.Fn
 w:Nat
 fi:List FI
 bl:List Str
 cs:List (Str×D)
 dk:List (Str×List (D×D))
noncomputable def tabOf:List (D×D)→List (PyData×PyData)
 | (.str k,.str v) :: r=>(.str (aU k),.str (aU v)) :: tabOf r
 | _=>[]
structure Good (G:Tb) (n:Nat) (sc:Scope) (N:List Str) (df:Bool) (X:Cx):Prop where
 nm:X.N=N
 sc:X.env.scope=sc
 calm:X.calm=true
 own:df=true→∀ x,X.fn x=true
 room:gg n X.A
 xe:X.xe=fun _ _=>False
 fn:∀ (f:Nat) i,G.fi[f]?=some i→X.mg i.name=some (.ref i.addr)∧PySem.W.keepIn X.K (.ref i.addr)=true∧Binds X.K i.fd i.ps []∧iV X.prog X.w X.K X.mg X.base m5 n i.addr i.fd i.ps (oY X.K G.F G.w n f)
 bl:∀ x∈G.bl,X.mg x=none
 cs:∀ x d,(x,d)∈G.cs→∃ v u,X.mg x=some u∧RelV v u∧xW X.K d v
 dk:∀ x kvs,(x,kvs)∈G.dk→∃ a,X.mg x=some (.ref a)∧∀ h:Heap,X.K.In h→StrTab X.prog X.w h a (tabOf kvs)
section
variable (G:Tb)(n:Nat)(sc:Scope)(N:List Str)(df:Bool)(m:List Nat)
noncomputable def JE (e:E) (x:Expr):Prop:=∀ X,Good G n sc N df X→PE X x (tJ X.K m (Ev.run G.F G.w n) e)
noncomputable def JT (e:E) (x:Expr):Prop:=∀ X,Good G n sc N df X→PT X x (KQ X.K m (Ev.run G.F G.w n) e)
noncomputable def JW (e:E) (x:Expr):Prop:=∀ X,Good G n sc N df X→PW X x (KQ X.K m (Ev.run G.F G.w n) e)
noncomputable def JA (es:Es) (xs:List Expr):Prop:=∀ X,Good G n sc N df X→PA X xs (KR X.K m (Ev.run G.F G.w n) es)
noncomputable def JO (e:Eo) (x:Option Expr):Prop:=∀ X,Good G n sc N df X→PO X x (Rg X.K m (Ev.run G.F G.w n) e)
end
section
variable {G:Tb}{n:Nat}{sc:Scope}{N:List Str}{df:Bool}{m:List Nat}{a b c:E}{xa xb xc:Expr}{pos:Pos}
theorem Good.vis {X:Cx}(g:Good G n sc N df X) {x:Str}(h:sc.names.lookup x=some .local∨sc.names.lookup x=some .cell∨sc.names.lookup x=some .free):AL X.env.scope x:=by
 rw [g.sc];exact h
theorem Good.gl {X:Cx}(g:Good G n sc N df X) {x:Str}(h:sc.names.lookup x=some .globalImplicit):Gl X x:=by
 unfold Gl Env.kindOf;rw [g.sc];exact h
theorem UH (j i:Nat) {x:Str}(hj:m[j]?=some i:=by rfl) (hN:N[j]?=some x:=by rfl)
  (hv:sc.names.lookup x=some .local∨sc.names.lookup x=some .cell∨sc.names.lookup x=some .free:=by first | exact Or.inl rfl | exact Or.inr (Or.inl rfl) | exact Or.inr (Or.inr rfl))
  (hd:(x==("__debug__" : Str))=false:=by decide) (hcd:(x==("__classdict__" : Str))=false:=by decide):JE G n sc N df m (.v i) (.Name x pos):=by
 intro X g
 refine PE.of (AQ (i:=j) (by rw [g.nm];exact hN) (g.vis hv) hd hcd) fun s H Q q=>?_
 obtain ⟨r,fr,h,d,h',sr,hr,e,q⟩:=q
 simp only [Ev.ev] at e
 obtain ⟨e2,e3⟩:=Ev.aJ e
 subst e3
 obtain ⟨v,q1,q2⟩:=sr.sl j i d hj (by
  cases z:fr[i]? with
  | none=>rw [z] at e2;cases e2
  | some o=>
   rw [z] at e2
   have e':o=some d:=e2
   rw [e'])
 exact ⟨v,q1,q.here q2 hr⟩
theorem qe {K:PySem.W.Frag}{P:aR}{d:D}{v:V}(hc:xW K d v):∀ s H Q,tJ K m P (.c d) s H Q→tC v s H Q:=fun s H Q q=>by
 obtain ⟨r,fr,h,d',h',sr,hr,e,q⟩:=q
 simp only [Ev.ev] at e
 cases e
 exact q.here hc.rv hr
theorem KU {i:Int}{j}:JE G n sc N df m (.c (.int i)) (.Constant (.int i) j pos):=fun X g=>PE.of JR (qe fun _ _=>rfl)
theorem O2 {k:Bool}{j}:JE G n sc N df m (.c (.bl k)) (.Constant (.bool k) j pos):=fun X g=>PE.of OD (qe fun _ _=>rfl)
theorem KW {j}:JE G n sc N df m (.c .aP) (.Constant .none j pos):=fun X g=>PE.of JU (qe fun _ _=>rfl)
theorem KY {l:List Nat}{x:Str}{j}(hx:x=aU l:=by decide +kernel) (hl:l.length≤sizeLine:=by decide):JE G n sc N df m (.c (.str l)) (.Constant (.str x) j pos):=
 fun X g=>PE.of JV (qe fun _ _=>by subst hx;exact ⟨rfl,hl⟩)
theorem HF {x:Str}{d:D}(hm:(x,d)∈G.cs) (hg:sc.names.lookup x=some .globalImplicit:=by rfl) (hd:(x==("__debug__" : Str))=false:=by decide):JE G n sc N df m (.c d) (.Name x pos):=fun X g=>by
 obtain ⟨v,u,h1,h2,h3⟩:=g.cs x d hm
 exact PE.of (xN (g.gl hg) h1 h2 hd) (qe h3)
theorem KZ:JA G n sc N df m .nil []:=fun X g=>PA.of uH fun s H Q q=>by
 obtain ⟨r,fr,h,ds,h',sr,hr,e,q⟩:=q
 simp only [Ev.cj] at e
 cases e
 exact q [] H r .nil hr .refl
theorem HG {es:Es}{xs:List Expr}(ha:JE G n sc N df m a xa) (hs:JA G n sc N df m es xs) (hst:∀ env:Env,starEach (xa :: xs) env=(false,eval xa env) :: starEach xs env:=by intro _;rfl):JA G n sc N df m (.cons a es) (xa :: xs):=
 fun X g=>PA.of (rq (ha X g) (hs X g) (hst _)) fun s H Q q=>by
  obtain ⟨r,fr,h,ds,h',sr,hr,e,q⟩:=q
  simp only [Ev.cj] at e
  obtain ⟨d,h1,e1,e⟩:=Ev.ah e
  obtain ⟨ds',h2,e2,e⟩:=Ev.ah e
  cases e
  refine ⟨r,fr,h,d,h1,sr,hr,e1,fun v H1 r1 v1 hr1 f1=>?_⟩
  refine ⟨r1,fr,h1,ds',_,sr.mono f1,hr1,e2,fun vs H2 r2 v2 hr2 f2=>?_⟩
  exact q _ H2 r2 (.cons (v1.mono f2) v2) hr2 (f1.trans f2)
theorem K0 {es:Es}{xs:List Expr}{k}(hs:JA G n sc N df m es xs):JE G n sc N df m (.tup es) (.Tuple xs k pos):=fun X g=>PE.of (Kn (hs X g)) fun s H Q q=>by
 obtain ⟨r,fr,h,d,h',sr,hr,e,q⟩:=q
 simp only [Ev.ev] at e
 obtain ⟨ds,h1,e1,e⟩:=Ev.ah e
 split at e
 ·rename_i z
  cases e
  refine ⟨r,fr,h,ds,_,sr,hr,e1,fun vs H1 r1 v1 hr1 f1=>⟨by rw [v1.length,←jk];exact z,fun p hp=>?_⟩⟩
  exact (q.later f1).tup v1 hr1 hp
 ·cases e
theorem K3 {es:Es}{xs:List Expr}(hs:JA G n sc N df m es xs):JE G n sc N df m (.lst es) (.List xs pos):=fun X g=>PE.of (Ko (hs X g)) fun s H Q q=>by
 obtain ⟨r,fr,h,d,h',sr,hr,e,q⟩:=q
 simp only [Ev.ev] at e
 obtain ⟨ds,h1,e1,e⟩:=Ev.ah e
 refine ⟨r,fr,h,ds,h1,sr,hr,e1,fun vs H1 r1 v1 hr1 f1=>?_⟩
 exact (q.later f1).lst e v1 hr1
theorem qf {K:PySem.W.Frag}{P:aR}{f:D→D→Hh→R D}{e':E}(he:∀ fr h,Ev.ev P e' fr h=(Ev.ev P a fr h).bind fun x h1=>(Ev.ev P b fr h1).bind fun y h2=>f x y h2) :
  ∀ s H Q,tJ K m P e' s H Q→AV (iJ K f) (tJ K m P a) (tJ K m P b) s H Q:=fun s H Q q=>by
 obtain ⟨r,fr,h,d,h',sr,hr,e,q⟩:=q
 rw [he] at e
 obtain ⟨x,h1,e1,e⟩:=Ev.ah e
 obtain ⟨y,h2,e2,e⟩:=Ev.ah e
 refine ⟨r,fr,h,x,h1,sr,hr,e1,fun v H1 r1 v1 hr1 f1=>?_⟩
 refine ⟨r1,fr,h1,y,h2,sr.mono f1,hr1,e2,fun u H2 r2 v2 hr2 f2=>?_⟩
 exact ⟨r2,h2,x,y,d,h',hr2,v1.mono f2,v2,e,q.later (f1.trans f2)⟩
theorem m8 {o:bU}{op:Operator}(ho:∀ X,Good G n sc N df X→dB X (binaryOp op) (iJ X.K (Ev.bZ o))) (ha:JE G n sc N df m a xa) (hb:JE G n sc N df m b xb):JE G n sc N df m (.bin o a b) (.BinOp xa op xb pos):=
 fun X g=>PE.of (OM (ho X g) (ha X g) (hb X g)) (qf fun fr h=>by simp only [Ev.ev])
noncomputable def gX (o:bQ):D→D→Hh→R D:=fun x y h=>R.of ((Ev.cop o x y h).map .bl) h
theorem qg {o:bQ}{op:CmpOp}(ho:∀ X,Good G n sc N df X→dB X (compareOp op) (iJ X.K (gX o))) (ha:JE G n sc N df m a xa) (hb:JE G n sc N df m b xb) (hm:behindInMarks op xb=false):JE G n sc N df m (.cmp o a b) (.Compare xa [op] [xb] pos):=
 fun X g=>PE.of (Hl (ho X g) (ha X g) (hb X g) hm) (qf fun fr h=>by simp only [Ev.ev,gX])
theorem jO {o:bQ}{x y d:D}{h h':Hh}(e:gX o x y h=.ok d h'):∃ k,Ev.cop o x y h=some k∧d=.bl k∧h'=h:=by
 unfold gX at e
 obtain ⟨e1,rfl⟩:=Ev.aJ e
 cases z:Ev.cop o x y h' with
 | none=>rw [z] at e1;cases e1
 | some k=>rw [z] at e1;cases e1;exact ⟨k,rfl,rfl,rfl⟩
theorem kQ {o:bQ}{op:CmpOp}(ho:∀ X,Good G n sc N df X→dB X (compareOp op) (iJ X.K (gX o))) (ha:JE G n sc N df m a xa) (hb:JE G n sc N df m b xb) (hm:behindInMarks op xb=false):JT G n sc N df m (.cmp o a b) (.Compare xa [op] [xb] pos):=
 fun X g=>PT.of (Ho (ho X g) (ha X g) (hb X g) hm) fun s H Q q=>by
  obtain ⟨r,fr,h,k,h',sr,hr,e,q⟩:=q
  simp only [Ev.aL] at e
  obtain ⟨d,h1,e1,e⟩:=Ev.ah e
  have e0:=e1
  simp only [Ev.ev] at e0
  obtain ⟨x,h2,_,e0⟩:=Ev.ah e0
  obtain ⟨y,h3,_,e0⟩:=Ev.ah e0
  obtain ⟨k',e2,e3,e4⟩:=jO (o:=o) (show gX o x y h3=_ from e0)
  subst e3
  simp only [Ev.truthy] at e
  cases e
  refine qf (e':=.cmp o a b) (f:=gX o) (fun fr h=>by simp only [Ev.ev,gX]) s H _ ⟨r,fr,h,.bl k,_,sr,hr,e1,fun v H1 r1 v1 hr1 f1=>?_⟩
  exact ⟨k,v1,q H1 r1 hr1 f1⟩
end
end Sm
set_option maxRecDepth 100000
namespace Sm
open PySem PySem.Spec PyProof.Rows L2
open Ev (D O Hh Fr R aR E Es Eo It T S Ss Fl Src bU bQ TY BI ME)
section
variable {G:Tb}{n:Nat}{sc:Scope}{N:List Str}{df:Bool}{m:List Nat}{a b c:E}{xa xb xc:Expr}{pos:Pos}
theorem K4 (ha:JE G n sc N df m a xa):JE G n sc N df m (.neg a) (.UnaryOp .USub xa pos):=fun X g=>PE.of (ON Kh (ha X g)) fun s H Q q=>by
 obtain ⟨r,fr,h,d,h',sr,hr,e,q⟩:=q
 simp only [Ev.ev] at e
 obtain ⟨x,h1,e1,e⟩:=Ev.ah e
 split at e
 ·cases e
  exact ⟨r,fr,h,_,_,sr,hr,e1,fun v H1 r1 v1 hr1 f1=>⟨_,v1,(q.later f1).here rfl hr1⟩⟩
 ·cases e
theorem K5 {op}(ha:JE G n sc N df m a xa):JE G n sc N df m a (.BoolOp op [xa] pos):=fun X g=>J0 (ha X g)
theorem O3 {rest:List Expr}(ha:JE G n sc N df m a xa) (hb:JE G n sc N df m b (.BoolOp .And (xb :: rest) pos)):JE G n sc N df m (.an a b) (.BoolOp .And (xa :: xb :: rest) pos):=fun X g=>PE.of (J1 (ha X g) (hb X g)) fun s H Q q=>by
 obtain ⟨r,fr,h,d,h',sr,hr,e,q⟩:=q
 simp only [Ev.ev] at e
 obtain ⟨x,h1,e1,e⟩:=Ev.ah e
 refine ⟨r,fr,h,x,h1,sr,hr,e1,fun v H1 r1 v1 hr1 f1=>?_⟩
 split at e
 ·exact ⟨true,v1,r1,fr,h1,d,h',sr.mono f1,hr1,e,q.later f1⟩
 ·cases e
  exact ⟨false,v1,(q.later f1).here rfl hr1⟩
 ·cases e
theorem K6 (ha:JT G n sc N df m a xa) (hb:JE G n sc N df m b xb) (hc:JE G n sc N df m c xc):JE G n sc N df m (.jD a b c) (.IfExp xa xb xc pos):=fun X g=>PE.of (CZ (ha X g) (hb X g) (hc X g)) fun s H Q q=>by
 obtain ⟨r,fr,h,d,h',sr,hr,e,q⟩:=q
 simp only [Ev.ev] at e
 obtain ⟨k,h1,e1,e⟩:=Ev.ah e
 refine ⟨r,fr,h,k,h1,sr,hr,e1,fun H1 r1 hr1 f1=>?_⟩
 cases k with
 | true=>exact ⟨r1,fr,h1,d,h',sr.mono f1,hr1,e,q.later f1⟩
 | false=>exact ⟨r1,fr,h1,d,h',sr.mono f1,hr1,e,q.later f1⟩
theorem K7 (h:JW G n sc N df m a xa):JT G n sc N df m a xa:=fun X g=>(h X g).pt
theorem K8 (ha:JT G n sc N df m a xa):JW G n sc N df m a (.BoolOp .And [xa] pos):=fun X g=>G9 (ha X g)
theorem HH (ha:JT G n sc N df m a xa):JW G n sc N df m a (.BoolOp .Or [xa] pos):=fun X g=>JX (ha X g)
theorem FJ {rest:List Expr}(ha:JT G n sc N df m a xa) (hb:JW G n sc N df m b (.BoolOp .And (xb :: rest) pos)):JW G n sc N df m (.an a b) (.BoolOp .And (xa :: xb :: rest) pos):=fun X g=>PW.of (JY (ha X g) (hb X g)) fun s H Q q=>by
 obtain ⟨r,fr,h,k,h',sr,hr,e,q⟩:=q
 simp only [Ev.aL] at e
 obtain ⟨k1,h1,e1,e⟩:=Ev.ah e
 refine ⟨r,fr,h,k1,h1,sr,hr,e1,fun H1 r1 hr1 f1=>?_⟩
 cases k1 with
 | true=>exact ⟨r1,fr,h1,k,h',sr.mono f1,hr1,e,fun H2 r2 hr2 f2=>q H2 r2 hr2 (f1.trans f2)⟩
 | false=>
  have e':R.ok false h1=R.ok k h':=e
  cases e'
  exact q H1 r1 hr1 f1
theorem Bd {rest:List Expr}(ha:JT G n sc N df m a xa) (hb:JW G n sc N df m b (.BoolOp .Or (xb :: rest) pos)):JW G n sc N df m (.orr a b) (.BoolOp .Or (xa :: xb :: rest) pos):=fun X g=>PW.of (OE (ha X g) (hb X g)) fun s H Q q=>by
 obtain ⟨r,fr,h,k,h',sr,hr,e,q⟩:=q
 simp only [Ev.aL] at e
 obtain ⟨k1,h1,e1,e⟩:=Ev.ah e
 refine ⟨r,fr,h,k1,h1,sr,hr,e1,fun H1 r1 hr1 f1=>?_⟩
 cases k1 with
 | false=>exact ⟨r1,fr,h1,k,h',sr.mono f1,hr1,e,fun H2 r2 hr2 f2=>q H2 r2 hr2 (f1.trans f2)⟩
 | true=>
  have e':R.ok true h1=R.ok k h':=e
  cases e'
  exact q H1 r1 hr1 f1
theorem O4 (ha:JT G n sc N df m a xa):JT G n sc N df m (.nt a) (.UnaryOp .Not xa pos):=fun X g=>PT.of (JZ (ha X g)) fun s H Q q=>by
 obtain ⟨r,fr,h,k,h',sr,hr,e,q⟩:=q
 simp only [Ev.aL] at e
 obtain ⟨k1,h1,e1,e⟩:=Ev.ah e
 cases e
 exact ⟨r,fr,h,k1,_,sr,hr,e1,fun H1 r1 hr1 f1=>q H1 r1 hr1 f1⟩
theorem K9 {K:PySem.W.Frag}{H:Hp}{r:List Addr}{h:Hh}{d:D}{v:V}{k:Bool}(hr:HR K H r h) (v1:RV K H r d v) (e:Ev.truthy h d=some k):C8 K v H k:=by
 cases d with
 | aP=>simp only [RV] at v1;subst v1;cases e;rfl
 | bl x=>simp only [RV] at v1;subst v1;cases e;rfl
 | int x=>simp only [RV] at v1;subst v1;cases e;rfl
 | str x=>
  simp only [RV] at v1
  obtain ⟨rfl,z⟩:=v1
  cases e
  refine ⟨by rw [cU];exact z,?_⟩
  rw [cU]
  cases x with
  | nil=>rfl
  | cons c l=>simp;omega
 | tup ds=>
  simp only [RV] at v1
  obtain ⟨p,vs,rfl,z,q⟩:=v1
  cases e
  refine .inr (.inl ⟨vs,z,?_⟩)
  have hl:=q.length
  cases ds <;> cases vs <;> simp_all
 | ref i=>
  simp only [RV] at v1
  obtain ⟨p,rfl,z⟩:=v1
  by_cases Rh:∃ kvs,h[i]?=some (.dct kvs)
  ·obtain ⟨kvs,e1⟩:=Rh
   simp only [Ev.truthy,e1] at e
   obtain ⟨p',z1,z2,_⟩:=hr.dct e1
   rw [z] at z1;cases z1
   refine .inr (.inr ⟨_,z2,?_⟩)
   cases e
   cases kvs <;> rfl
  have et:Ev.truthy h (.ref i)=(Ev.bh h i).map fun ds=>!ds.isEmpty:=by
   simp only [Ev.truthy]
   split
   ·rename_i kvs z;exact (Rh ⟨kvs,z⟩).elim
   ·rfl
  rw [et] at e
  simp only [Option.map_eq_some_iff] at e
  obtain ⟨ds,e1,rfl⟩:=e
  obtain ⟨p',vs,e2,q1,q2⟩:=hr.read e1
  rw [z] at e2;cases e2
  refine .inl ⟨vs,q1,?_⟩
  have hl:=q2.length
  cases ds <;> cases vs <;> simp_all
theorem La (ha:JE G n sc N df m a xa) (he:∀ (P:aR) fr h,Ev.aL P a fr h=(Ev.ev P a fr h).bind fun x h1=>R.of (Ev.truthy h1 x) h1:=by intros;simp only [Ev.aL])
  (hx:∀ (env:Env) whole,isTrue xa env whole=(do let v ←whole;standAt xa.pos;holding [v] (truthy v)):=by intro _ _;rfl):JT G n sc N df m a xa:=fun X g=>PT.of (C9 (ha X g) (hx _)) fun s H Q q=>by
 obtain ⟨r,fr,h,k,h',sr,hr,e,q⟩:=q
 rw [he] at e
 obtain ⟨d,h1,e1,e⟩:=Ev.ah e
 obtain ⟨e,rfl⟩:=Ev.aJ e
 refine ⟨r,fr,h,d,_,sr,hr,e1,fun v H1 r1 v1 hr1 f1=>⟨k,K9 hr1 v1 e,q H1 r1 hr1 f1⟩⟩
noncomputable def Lb:D→D→Hh→R D:=fun x y h=>R.of (Ev.eg x y h) h
theorem O5 (ho:∀ X,Good G n sc N df X→xT X (iJ X.K Lb)) (ha:JE G n sc N df m a xa) (hb:JE G n sc N df m b xb) (hs:rC xb:=by intro _ _;rfl):JE G n sc N df m (.ix a b) (.Subscript xa xb pos):=
 fun X g=>PE.of (OW (ho X g) (ha X g) (hb X g) hs) (qf fun fr h=>by simp only [Ev.ev,Lb])
theorem O6:JO G n sc N df m .no none:=fun X g=>PO.of Ht fun s H Q q=>by
 obtain ⟨r,fr,h,o,h',sr,hr,e,q⟩:=q
 simp only [Ev.gi] at e
 cases e
 exact q H r hr .refl
theorem Lc (ha:JE G n sc N df m a xa):JO G n sc N df m (.yes a) (some xa):=fun X g=>PO.of (Hu (ha X g)) fun s H Q q=>by
 obtain ⟨r,fr,h,o,h',sr,hr,e,q⟩:=q
 simp only [Ev.gi] at e
 obtain ⟨d,h1,e1,e⟩:=Ev.ah e
 obtain ⟨e,rfl⟩:=Ev.aJ e
 cases d with
 | int i=>
  cases e
  exact ⟨r,fr,h,.int i,_,sr,hr,e1,fun v H1 r1 v1 hr1 f1=>⟨i,v1,q H1 r1 hr1 f1⟩⟩
 | _=>cases e
theorem O7 {lo hi:Eo}{xl xh:Option Expr}{p2}(ho:∀ X,Good G n sc N df X→kP X (KS X.K)) (ha:JE G n sc N df m a xa) (hl:JO G n sc N df m lo xl) (hu:JO G n sc N df m hi xh):JE G n sc N df m (.sl a lo hi) (.Subscript xa (.Slice xl xh none p2) pos):=
 fun X g=>PE.of (Df (ho X g) (ha X g) (hl X g) (hu X g)) fun s H Q q=>by
  obtain ⟨r,fr,h,d,h',sr,hr,e,q⟩:=q
  simp only [Ev.ev] at e
  obtain ⟨x,h1,e1,e⟩:=Ev.ah e
  obtain ⟨l,h2,e2,e⟩:=Ev.ah e
  obtain ⟨u,h3,e3,e⟩:=Ev.ah e
  refine ⟨r,fr,h,x,h1,sr,hr,e1,fun v H1 r1 v1 hr1 f1=>?_⟩
  refine ⟨r1,fr,h1,l,h2,sr.mono f1,hr1,e2,fun H2 r2 hr2 f2=>?_⟩
  refine ⟨r2,fr,h2,u,h3,(sr.mono f1).mono f2,hr2,e3,fun H3 r3 jE f3=>?_⟩
  exact ⟨r3,h3,x,d,h',jE,(v1.mono f2).mono f3,e,q.later ((f1.trans f2).trans f3)⟩
theorem HJ {K:PySem.W.Frag}{P:aR}{es:Es}{f:List D→Hh→R D}{e':E}(he:∀ fr h,Ev.ev P e' fr h=(Ev.cj P es fr h).bind f) :
  ∀ s H Q,tJ K m P e' s H Q→Kr (sV K f) (KR K m P es) s H Q:=fun s H Q q=>by
 obtain ⟨r,fr,h,d,h',sr,hr,e,q⟩:=q
 rw [he] at e
 obtain ⟨ds,h1,e1,e⟩:=Ev.ah e
 exact ⟨r,fr,h,ds,h1,sr,hr,e1,fun vs H1 r1 v1 hr1 f1=>⟨r1,h1,ds,d,h',hr1,v1,e,q.later f1⟩⟩
theorem qh {k:BI}{es:Es}{x:Str}{id:String}{e0:Expr}{xs:List Expr}{p:Pos}(hc:∀ X,Good G n sc N df X→gD X (.builtin id) (sV X.K (Ev.cS k))) (hs:JA G n sc N df m es (e0 :: xs)) (hb:x∈G.bl:=by decide +kernel)
  (hg:sc.names.lookup x=some .globalImplicit:=by rfl) (hv:bootBuiltins x=some (.builtin id)) (hn:x≠"__name__" :=by decide) (hd:(x==("__debug__" : Str))=false:=by decide)
  (hst:∀ env:Env,starEach (e0 :: xs) env=(false,eval e0 env) :: starEach xs env:=by intro _;rfl) (hpl:∀ env:Env,(backTo pos (starEach xs env)).any (·.1)=false:=by intro _;rfl) :
  JE G n sc N df m (.bi k es) (.Call (.Name x p) (e0 :: xs) [] pos):=
 fun X g=>PE.of (Dc (hc X g) (g.gl hg) (g.bl x hb) hv (hs X g) hn hd (hst _) (hpl _)) (HJ fun fr h=>by simp only [Ev.ev])
theorem O8 {f:Nat}{i:FI}{es:Es}{e0:Expr}{xs:List Expr}{p:Pos}(hf:G.fi[f]?=some i) (hs:JA G n sc N df m es (e0 :: xs))
  (hg:sc.names.lookup i.name=some .globalImplicit:=by rfl) (hd:(i.name==("__debug__" : Str))=false:=by decide)
  (hst:∀ env:Env,starEach (e0 :: xs) env=(false,eval e0 env) :: starEach xs env:=by intro _;rfl) (hpl:∀ env:Env,(backTo pos (starEach xs env)).any (·.1)=false:=by intro _;rfl) :
  JE G n sc N df m (.cl f es) (.Call (.Name i.name p) (e0 :: xs) [] pos):=fun X g=>by
 obtain ⟨h1,h2,h3,h4⟩:=g.fn f i hf
 refine PE.of (Hq h4 g.room (g.gl hg) h1 h2 h3 .nil OY (hs X g) hd (hst _) (hpl _)) fun s H Q q=>?_
 obtain ⟨r,fr,h,d,h',sr,hr,e,q⟩:=q
 simp only [Ev.ev] at e
 obtain ⟨ds,h5,e1,e⟩:=Ev.ah e
 refine ⟨r,fr,h,ds,h5,sr,hr,e1,fun vs H1 r1 v1 hr1 f1=>?_⟩
 exact ⟨r1,h5,ds,d,h',by rw [List.append_nil];exact v1,hr1,e,q.later f1⟩
noncomputable def Ds:ME→String
 | .join=>"str"
 | _=>"list"
theorem Be {K:PySem.W.Frag}{H:Hp}{r:List Addr}{h:Hh}{k:ME}{d:D}{v:V}{ty:String}(hr:HR K H r h) (v1:RV K H r d v) (e:Ev.xV k d h=true) (ht:ty=Ds k):A2 K ty v H:=by
 subst ht
 have lst:∀ i,d=.ref i→(Ev.bh h i).isSome=true→A2 K "list" v H:=fun i ed es=>by
  subst ed
  obtain ⟨ds,e1⟩:=Option.isSome_iff_exists.mp es
  obtain ⟨p,vs,e2,q1,q2⟩:=hr.read e1
  simp only [RV] at v1
  obtain ⟨p',rfl,e3⟩:=v1
  rw [e2] at e3;cases e3
  exact .inl ⟨rfl,vs,q1⟩
 cases k with
 | join=>
  cases d with
  | str l=>simp only [RV] at v1;obtain ⟨rfl,_⟩:=v1;rfl
  | _=>cases e
 | append=>cases d with | ref i=>exact lst i rfl e | _=>cases e
 | extend=>cases d with | ref i=>exact lst i rfl e | _=>cases e
 | pop=>cases d with | ref i=>exact lst i rfl e | _=>cases e
theorem zx {k:ME}{es:Es}{e0:Expr}{xs:List Expr}{name:Str}{apos:Pos}{ty id:String}(pa:PlainAttrs ty) (slot:Slot ty name id) (hty:typeOf (.builtin id)=pure (.type "method_descriptor"))
  (hm:∀ X,Good G n sc N df X→sO X id (uU X.K (Ev.fM k))) (ht:ty=Ds k) (ha:JE G n sc N df m a xa) (hs:JA G n sc N df m es (e0 :: xs))
  (hbase:∀ env:Env,attributeBase xa name env (eval xa env)=eval xa env:=by intro _;rfl)
  (hfew:∀ env:Env,((backTo pos (starEach (e0 :: xs) env)).all (fun x=>!x.1)&&(backToKw pos (keywordEach [] env)).all (fun x=>x.1.isSome)
   &&decide ((e0 :: xs).length+([]:List Keyword).length+(if ([]:List Keyword).isEmpty then 0 else 1)<30))=true:=by intro _;rfl)
  (hline:(apos.endLine==pos.line)=true:=by rfl) (hst:∀ env:Env,starEach (e0 :: xs) env=(false,eval e0 env) :: starEach xs env:=by intro _;rfl) (hpl:∀ env:Env,(backTo pos (starEach xs env)).any (·.1)=false:=by intro _;rfl) :
  JE G n sc N df m (.me k a es) (.Call (.Attribute xa name apos) (e0 :: xs) [] pos):=fun X g=>
 PE.of (OX pa slot hty (hm X g) (ha X g) (hs X g) (hbase _) (hfew _) hline (hst _) (hpl _)) fun s H Q q=>by
  obtain ⟨r,fr,h,d,h',sr,hr,e,q⟩:=q
  simp only [Ev.ev] at e
  obtain ⟨x,h1,e1,e⟩:=Ev.ah e
  split at e
  ·rename_i hk
   obtain ⟨ds,h2,e2,e⟩:=Ev.ah e
   refine ⟨r,fr,h,x,h1,sr,hr,e1,fun v H1 r1 v1 hr1 f1=>⟨Be hr1 v1 hk ht,?_⟩⟩
   refine ⟨r1,fr,h1,ds,h2,sr.mono f1,hr1,e2,fun vs H2 r2 v2 hr2 f2=>?_⟩
   exact ⟨r2,h2,x,ds,d,h',hr2,v1.mono f2,v2,e,q.later (f1.trans f2)⟩
  ·cases e
theorem Le {k:ME}{name:Str}{apos:Pos}{ty id:String}(pa:PlainAttrs ty) (slot:Slot ty name id) (hty:typeOf (.builtin id)=pure (.type "method_descriptor"))
  (hm:∀ X,Good G n sc N df X→sO X id (uU X.K (Ev.fM k))) (ht:ty=Ds k) (ha:JE G n sc N df m a xa)
  (hbase:∀ env:Env,attributeBase xa name env (eval xa env)=eval xa env:=by intro _;rfl) (hline:(apos.endLine==pos.line)=true:=by rfl) :
  JE G n sc N df m (.me k a .nil) (.Call (.Attribute xa name apos) [] [] pos):=fun X g=>
 PE.of (Ky pa slot hty (hm X g) (ha X g) (hbase _) hline) fun s H Q q=>by
  obtain ⟨r,fr,h,d,h',sr,hr,e,q⟩:=q
  simp only [Ev.ev] at e
  obtain ⟨x,h1,e1,e⟩:=Ev.ah e
  split at e
  ·rename_i hk
   simp only [Ev.cj,Ev.ak] at e
   refine ⟨r,fr,h,x,h1,sr,hr,e1,fun v H1 r1 v1 hr1 f1=>⟨Be hr1 v1 hk ht,?_⟩⟩
   exact ⟨r1,h1,x,[],d,h',hr1,v1,.nil,e,q.later f1⟩
  ·cases e
end
end Sm
set_option maxRecDepth 100000
namespace Sm
open PySem PySem.Spec PyProof.Rows L2
open Ev (D O Hh Fr R aR E Es Eo T S Ss Fl Src bU bQ TY BI ME)
noncomputable def rH (K:PySem.W.Frag) (r0:List Addr) (H0:Hp) (s:Src) (J:L2.It):Prop:=∀ (i:Nat) H1 r1 h1,HR K H1 r1 h1→Fm K r0 r1 H0 H1→Ev.stays h1 s.2=true→
 (∀ d,s.1[i]?=some d→J.go i H1∧∀ x H2,J.FE i H1 x H2→∃ r2,RV K H2 r2 d x∧HR K H2 r2 h1∧Fm K r1 r2 H1 H2)∧(s.1.length≤i→J.stop i H1)
inductive Ri (K:PySem.W.Frag) (m:List Nat) (P:aR) (it:Ev.It) (s:L2.St) (H:Hp) (Rr:L2.It→Hp→Prop):Prop
 | mk (r:List Addr) (fr:Fr) (h:Hh) (src:Src) (h':Hh) (c0:SR K m H r fr s) (c1:HR K H r h) (c2:Ev.cF P it fr h=.ok src h') (c3:∀ J H' r',HR K H' r' h'→Fm K r r' H H'→rH K r' H' src J→Rr J H'):Ri K m P it s H Rr
noncomputable def JI (G:Tb) (n:Nat) (sc:Scope) (N:List Str) (df:Bool) (m:List Nat) (it:Ev.It) (tg x:Expr):Prop:=∀ X,Good G n sc N df X→PI X tg x (Ri X.K m (Ev.run G.F G.w n) it)
noncomputable def FL (z:Str):L2.It:=⟨fun i _=>i<z.length,fun i H x H'=>H'=H∧∃ c,z.cps[i]?=some c∧x=.str ⟨#[c]⟩,fun i _=>z.length≤i⟩
theorem Lf {M:Model}{A:Around}{E:Value→Shared→Prop}{s:Shared}{tg:Expr}{it:Value}{x:Str}{t:Tok}{Q:Unit→Shared→Prop}(hQ:Q () s):wpAny M A (letOwnedTupleGo tg it (.str x t)) Q E s:=by
 unfold letOwnedTupleGo
 cases tg <;> first
  | exact wpAny_pure hQ
  | (cases it <;> exact wpAny_pure hQ)
theorem uV {P:Program}{w:World}{K:PySem.W.Frag}{tg:Expr}(z:Str) (t:Tok) (it:Addr) (ty:String) (hty:ty = "str_ascii_iterator" ∨ty = "str_iterator") :
  Turn P w K tg (FL z) [it] it (fun i h=>h.IsStrIter it ty z t i) where
 mem:=by simp
 obj:=fun i h st b hb=>by
  have e:b=it:=by simpa using hb
  subst e
  obtain ⟨o,e,c,d⟩:=st
  exact ⟨o,e,fun v z=>by rw [d] at z;cases z⟩
 keep:=fun i h h' st k=>by
  obtain ⟨o,e,c,d⟩:=st
  exact ⟨o,k it (by simp) o e,c,d⟩
 item:=by
  intro X hP hw hK hc i pins s σ H E I hf st hg
  subst hP hw hK
  obtain ⟨f0,f1,f2,f3,f4,f5⟩:=hf it (by simp)
  have W:Walks X.prog X.w X.A it [it] [it] z.cps.size (SignAt z) (fun i h=>h.IsStrIter it ty z t i):=by
   rcases hty with e | e
   ·subst e;exact Walks.strAscii (I.ok.hd hc) it z t
   ·subst e;exact Walks.strWide (I.ok.hd hc) it z t
  refine W.item i s _ _ hg st fun v h' tk hv st' kk=>?_
  obtain ⟨c,u,hc',rfl⟩:=hv
  have I1:Inv X pins σ H { s with heap:=h',toks:=tk }:=I.turned (fun b o hb e=>kk b o (by simpa using hb) e) f0 f1 f3 f4 f5
  exact ⟨_,rfl,Lf ⟨.str ⟨#[c]⟩,H,I1,⟨u,rfl⟩,⟨rfl,c,hc',rfl⟩,st',fun b hb=>(hf b hb).1⟩⟩
 done:=by
  intro X hP hw hK hc i pins s σ H E I hf st hg
  subst hP hw hK
  obtain ⟨f0,f1,f2,f3,f4,f5⟩:=hf it (by simp)
  rcases hty with e | e
  ·subst e
   exact wpAny_pyNext_ascii_end (I.ok.hd hc) st (by simpa [Str.length,FL] using hg) fun h' eb=>⟨rfl,I.turned (t':=s.toks) (fun b o hb e=>eb b o hb e) f0 f1 f3 f4 f5⟩
  ·subst e
   exact wpAny_pyNext_wide_end (I.ok.hd hc) st (by simpa [Str.length,FL] using hg) fun h' eb=>⟨rfl,I.turned (t':=s.toks) (fun b o hb e=>eb b o hb e) f0 f1 f3 f4 f5⟩
 self:=fun _ _ _ _ _ st h=>by
  rcases hty with e | e
  ·subst e;exact wpAny_pyIter_striter_ascii st h
  ·subst e;exact wpAny_pyIter_striter_wide st h
noncomputable def FO (K:PySem.W.Frag) (x:V) (H:Hp) (Rr:L2.It→Hp→Prop):Prop:=
 (∃ a xs,x=.ref a∧fK K H a xs∧Rr (Q9 K a) H)∨(∃ a xs,x=.ref a∧dG K H a xs∧Rr (Ra K a) H)∨∃ z,x=.str z∧Rr (FL z) H
theorem Lh {X:Cx}{tg l:Expr}{tl:TE}{wi:TI}(hl:PE X l tl) (hw:∀ s H Rr,wi s H Rr→tl s H fun x H1=>FO X.K x H1 Rr):PI X tg l wi:=by
 intro pins s σ H Rr I h
 refine bJ (hl pins s σ H _ I (hw _ _ _ h)) fun v s1 ⟨x,H1,I1,r1,q1⟩=>?_
 have fp:∀ (o:Obj) b,b∈[s1.heap.objs.size]→iF X pins H1 b:=fun o b hb=>by
  have e:b=s1.heap.objs.size:=by simpa using hb
  subst e
  exact I1.C5 (Nat.le_refl _) (I1.hok.fresh (Nat.le_refl _))
 rcases q1 with ⟨a,xs,rfl,hq,q⟩ | ⟨a,xs,rfl,hq,q⟩ | ⟨z,rfl,q⟩
 ·cases r1
  obtain ⟨its,rv,p,hz⟩:=I1.list hq
  refine wpAny_pyIter_list p.isList ?_
  exact ⟨s1.heap.objs.size,[s1.heap.objs.size],_,_,H1,rfl,I1.kept (t':=s1.toks) fun b o e=>Heap.get?_push_of_some _ e,AR a _,⟨_,Heap.get?_push_size _ rfl,rfl,rfl⟩,fp default,q⟩
 ·cases r1
  obtain ⟨its,rv,p,hz⟩:=I1.tuple hq
  refine wpAny_pyIter_tuple (show s1.heap.IsTuple a its.toArray from p) ?_
  exact ⟨s1.heap.objs.size,[s1.heap.objs.size],_,_,H1,rfl,I1.kept (t':=s1.toks) fun b o e=>Heap.get?_push_of_some _ e,zb a _,⟨_,Heap.get?_push_size _ rfl,rfl,rfl⟩,fp default,q⟩
 ·obtain ⟨t,rfl⟩:=r1
  cases ha:z.cps.all (· < 128)
  ·refine wpAny_pyIter_wide ha ?_
   exact ⟨s1.heap.objs.size,[s1.heap.objs.size],_,_,H1,rfl,I1.kept (t':=s1.toks) fun b o e=>Heap.get?_push_of_some _ e,uV z t _ _ (.inr rfl),⟨_,Heap.get?_push_size _ rfl,rfl,rfl⟩,fp default,q⟩
  ·refine wpAny_pyIter_ascii ha ?_
   exact ⟨s1.heap.objs.size,[s1.heap.objs.size],_,_,H1,rfl,I1.kept (t':=s1.toks) fun b o e=>Heap.get?_push_of_some _ e,uV z t _ _ (.inl rfl),⟨_,Heap.get?_push_size _ rfl,rfl,rfl⟩,fp default,q⟩
theorem Bf {h:Hh}{n:Nat}{ds:List D}(e:Ev.stays h [(n,ds)]=true):Ev.bh h n=some ds:=by
 simp only [Ev.stays,Bool.and_true] at e
 split at e
 ·rename_i es q
  rw [q,(Ev.sU _ _).mp e]
 ·cases e
theorem HK {K:PySem.W.Frag}{H:Hp}{r:List Addr}{h:Hh}{d:D}{v:V}{src:Src}{Rr:L2.It→Hp→Prop}(hr:HR K H r h) (v1:RV K H r d v) (e:Ev.fS h d=some src) (q:∀ J,rH K r H src J→Rr J H):FO K v H Rr:=by
 cases d with
 | tup ds=>
  simp only [RV] at v1
  obtain ⟨a,vs,rfl,z,w⟩:=v1
  cases e
  refine .inr (.inl ⟨a,vs,rfl,z,q _ fun i H1 r1 h1 hr1 f1 st=>⟨fun d' e'=>?_,fun hl=>?_⟩⟩)
  ·obtain ⟨u,e1,e2⟩:=w.get e'
   refine ⟨⟨vs,u,f1.tups _ _ z,e1⟩,fun x H2 y=>?_⟩
   obtain ⟨rfl,y⟩:=y
   have:=y vs (f1.tups _ _ z)
   rw [e1] at this;cases this
   exact ⟨r1,e2.mono f1,hr1,.refl⟩
  ·exact ⟨vs,f1.tups _ _ z,by rw [w.length];exact hl⟩
 | str l=>
  simp only [RV] at v1
  obtain ⟨rfl,z⟩:=v1
  cases e
  refine .inr (.inr ⟨_,rfl,q _ fun i H1 r1 h1 hr1 f1 st=>⟨fun d' e'=>?_,fun hl=>?_⟩⟩)
  ·rw [List.getElem?_map] at e'
   cases e2:l[i]? with
   | none=>rw [e2] at e';cases e'
   | some c=>
    rw [e2] at e'
    cases e'
    refine ⟨by show i<(aU l).length;rw [cU];exact (List.getElem?_eq_some_iff.mp e2).1,fun x H2 y=>?_⟩
    obtain ⟨rfl,c',y1,rfl⟩:=y
    have e3:(aU l).cps[i]?=some c:=by simp [aU,e2]
    rw [e3] at y1;cases y1
    exact ⟨r1,⟨rfl,by show 1≤sizeLine;decide⟩,hr1,.refl⟩
  ·show (aU l).length≤i
   rw [cU];simpa using hl
 | ref k=>
  simp only [RV] at v1
  obtain ⟨a,rfl,z⟩:=v1
  simp only [Ev.fS,Option.map_eq_some_iff] at e
  obtain ⟨ds,e1,rfl⟩:=e
  obtain ⟨a',vs,e2,e3,e4⟩:=hr.read e1
  rw [z] at e2;cases e2
  refine .inl ⟨a,vs,rfl,e3,q _ fun i H1 r1 h1 hr1 f1 st=>?_⟩
  obtain ⟨a',us,e5,e6,e7⟩:=hr1.read (Bf st)
  rw [f1.pre _ _ z] at e5;cases e5
  refine ⟨fun d' e'=>?_,fun hl=>⟨us,e6,by rw [e7.length];exact hl⟩⟩
  obtain ⟨u,g1,g2⟩:=e7.get e'
  refine ⟨⟨us,u,e6,g1⟩,fun x H2 y=>?_⟩
  obtain ⟨rfl,y⟩:=y
  have:=y us e6
  rw [g1] at this;cases this
  exact ⟨r1,g2,hr1,.refl⟩
 | _=>cases e
section
variable {G:Tb}{n:Nat}{sc:Scope}{N:List Str}{df:Bool}{m:List Nat}{a b c:E}{xa xb xc tg:Expr}{pos:Pos}
theorem Li (ha:JE G n sc N df m a xa):JI G n sc N df m (.seq a) tg xa:=fun X g=>Lh (ha X g) fun s H Rr q=>by
 obtain ⟨r,fr,h,src,h',sr,hr,e,q⟩:=q
 simp only [Ev.cF] at e
 obtain ⟨d,h1,e1,e⟩:=Ev.ah e
 obtain ⟨e,rfl⟩:=Ev.aJ e
 refine ⟨r,fr,h,d,_,sr,hr,e1,fun v H1 r1 v1 hr1 f1=>?_⟩
 exact HK hr1 v1 e fun J hJ=>q J H1 r1 hr1 f1 hJ
theorem PI.of {X:Cx}{tg l:Expr}{t t':TI}(h:PI X tg l t) (w:∀ s H Q,t' s H Q→t s H Q):PI X tg l t':=fun pins s σ H Q I q=>h pins s σ H Q I (w _ _ _ q)
theorem Lj {K:PySem.W.Frag}{r:List Addr}{H:Hp}(lo:Int) (k:Nat):rH K r H (Ev.range lo k,[]) (FF lo k):=fun i H1 r1 h1 hr1 f1 st=>by
 refine ⟨fun d e=>?_,fun hl=>?_⟩
 ·simp only [Ev.range,List.getElem?_map] at e
  cases e2:(List.range k)[i]? with
  | none=>rw [e2] at e;cases e
  | some j=>
   rw [e2] at e
   cases e
   have hi:i<k:=by simpa using (List.getElem?_eq_some_iff.mp e2).1
   have hj:j=i:=by
    rw [List.getElem?_range hi] at e2
    exact (Option.some.inj e2).symm
   subst hj
   refine ⟨hi,fun x H2 y=>?_⟩
   obtain ⟨rfl,rfl⟩:=y
   exact ⟨r1,rfl,hr1,.refl⟩
 ·have:(Ev.range lo k).length=k:=by simp [Ev.range]
  show k≤i
  have hl':(Ev.range lo k).length≤i:=hl
  omega
theorem HL {e1:E}{p:Pos}(hs:JA G n sc N df m (.cons e1 .nil) [xa]) (hg:sc.names.lookup ("range" : Str)=some .globalImplicit:=by rfl) (hb:("range" : Str)∈G.bl:=by decide +kernel)
  (hst:∀ env:Env,starEach [xa] env=[(false,eval xa env)]:=by intro _;rfl):JI G n sc N df m (.g8 (.cons e1 .nil)) tg (.Call (.Name "range" p) [xa] [] pos):=fun X g=>
 PI.of (AS (g.gl hg) (g.bl _ hb) (hs X g) (hst _)) fun s H Rr q=>by
  obtain ⟨r,fr,h,src,h',sr,hr,e,q⟩:=q
  simp only [Ev.cF] at e
  obtain ⟨ds,h1,e1,e⟩:=Ev.ah e
  obtain ⟨e,rfl⟩:=Ev.aJ e
  refine ⟨r,fr,h,ds,_,sr,hr,e1,fun vs H1 r1 v1 hr1 f1=>?_⟩
  unfold Ev.fT at e
  split at e
  ·rename_i j
   split at e
   ·rename_i hj
    cases e
    simp only [aI,RV] at v1
    obtain ⟨v,w,rfl,rfl,rfl⟩:=v1
    exact ⟨_,rfl,hj.1,hj.2,q _ H1 r1 hr1 f1 (Lj 0 _)⟩
   ·cases e
  ·exfalso
   simp only [Ev.cj] at e1
   obtain ⟨d,_,_,e1⟩:=Ev.ah e1
   simp only [Ev.ak] at e1
   cases e1
  ·cases e
inductive gJ (K:PySem.W.Frag) (m:List Nat) (t:T) (v:V) (s:L2.St) (H:Hp) (Q:L2.St→Hp→Prop):Prop
 | mk (r:List Addr) (fr:Fr) (h:Hh) (d:D) (aj:Fr) (c0:SR K m H r fr s) (c1:HR K H r h) (c2:RV K H r d v) (c3:Ev.bz t d fr=some aj) (c4:∀ s',SR K m H r aj s'→Q s' H):gJ K m t v s H Q
noncomputable def JG (G:Tb) (n:Nat) (sc:Scope) (N:List Str) (df:Bool) (m:List Nat) (t:T) (x:Expr):Prop:=∀ X,Good G n sc N df X→PG X x (gJ X.K m t)
theorem PG.of {X:Cx}{e:Expr}{t t':TG}(h:PG X e t) (w:∀ v s H Q,t' v s H Q→t v s H Q):PG X e t':=fun pins s σ H v u Q I r q=>h pins s σ H v u Q I r (w _ _ _ _ q)
theorem SR.set {K:PySem.W.Frag}{m:List Nat}{H:Hp}{r:List Addr}{fr:Fr}{s:L2.St}(sr:SR K m H r fr s) (hm:m.Nodup) {j i:Nat}(hj:m[j]?=some i) {d:D}{v:V}(v1:RV K H r d v):SR K m H r (fr.set i (some d)) (s.set j (some v)):=by
 refine ⟨by simp [sr.len],fun j' i' d' e1 e2=>?_⟩
 by_cases hi:i'=i
 ·subst hi
  have:j'=j:=Bg hm e1 hj
  subst this
  have hlt:i'<fr.length:=by
   have:=(List.getElem?_eq_some_iff.mp e2).1
   simpa using this
  rw [List.getElem?_set_self hlt] at e2
  cases e2
  refine ⟨v,List.getElem?_set_self ?_,v1⟩
  rw [sr.len]
  exact (List.getElem?_eq_some_iff.mp hj).1
 ·rw [List.getElem?_set_ne (fun z=>hi z.symm)] at e2
  obtain ⟨u,q1,q2⟩:=sr.sl j' i' d' e1 e2
  refine ⟨u,?_,q2⟩
  rw [List.getElem?_set_ne]
  ·exact q1
  ·intro z
   subst z
   rw [hj] at e1;cases e1
   exact hi rfl
where
 Bg {l:List Nat} (hl:l.Nodup) {i j:Nat} {x:Nat} (a:l[i]?=some x) (b:l[j]?=some x):i=j:=by
  have ha:=(List.getElem?_eq_some_iff.mp a)
  have hb:=(List.getElem?_eq_some_iff.mp b)
  obtain ⟨h1,e1⟩:=ha
  obtain ⟨h2,e2⟩:=hb
  exact (List.getElem_inj hl).mp (e1.trans e2.symm)
theorem Good.loc {X:Cx}(g:Good G n sc N df X) {x:Str}(h:sc.names.lookup x=some .local∨(df=true∧sc.names.lookup x=some .cell)):Loc X.env.scope x∧(X.fn x=true∨X.env.scope.names.lookup x=some .local):=by
 rw [show Loc X.env.scope x↔Loc sc x by rw [g.sc],g.sc]
 rcases h with h | ⟨h1,h⟩
 ·exact ⟨.inl h,.inr h⟩
 ·exact ⟨.inr h,.inl (g.own h1 x)⟩
theorem Lk (j i:Nat) {x:Str}(hm:m.Nodup) (hN:N.Nodup) (hj:m[j]?=some i:=by rfl) (Bh:N[j]?=some x:=by rfl)
  (hl:sc.names.lookup x=some .local∨(df=true∧sc.names.lookup x=some .cell):=by first | exact Or.inl rfl | exact Or.inr ⟨rfl,rfl⟩):JG G n sc N df m (.one i) (.Name x pos):=fun X g=>by
 obtain ⟨h1,h2⟩:=g.loc hl
 refine PG.of (xP (i:=j) (by rw [g.nm];exact hN) (by rw [g.nm];exact Bh) h1 h2) fun v s H Q q=>?_
 obtain ⟨r,fr,h,d,aj,sr,hr,v1,e,q⟩:=q
 cases e
 exact q _ (sr.set hm hj v1)
inductive Rj (K:PySem.W.Frag) (m:List Nat) (l:List Nat) (vs:List V) (s:L2.St) (H:Hp) (Q:L2.St→Hp→Prop):Prop
 | mk (r:List Addr) (fr:Fr) (h:Hh) (ds:List D) (aj:Fr) (c0:SR K m H r fr s) (c1:HR K H r h) (c2:aI K H r ds vs) (c3:Ev.cQ l ds fr=some aj) (c4:∀ s',SR K m H r aj s'→Q s' H):Rj K m l vs s H Q
noncomputable def sW (G:Tb) (n:Nat) (sc:Scope) (N:List Str) (df:Bool) (m:List Nat) (l:List Nat) (xs:List Expr):Prop:=∀ X,Good G n sc N df X→oW X xs (Rj X.K m l)
theorem oW.of {X:Cx}{e:List Expr}{t t':sI}(h:oW X e t) (w:∀ v s H Q,t' v s H Q→t v s H Q):oW X e t':=fun pins s σ H v u Q I r q=>h pins s σ H v u Q I r (w _ _ _ _ q)
theorem HM:sW G n sc N df m [] []:=fun X g=>oW.of Hg fun vs s H Q q=>by
 obtain ⟨r,fr,h,ds,aj,sr,hr,v1,e,q⟩:=q
 cases ds with
 | nil=>simp only [aI] at v1;subst v1;cases e;exact ⟨rfl,q _ sr⟩
 | cons _ _=>cases e
theorem Dt (j i:Nat) {x:Str}{l:List Nat}{xs:List Expr}(hm:m.Nodup) (hN:N.Nodup) (hs:sW G n sc N df m l xs) (hj:m[j]?=some i:=by rfl) (Bh:N[j]?=some x:=by rfl)
  (hl:sc.names.lookup x=some .local∨(df=true∧sc.names.lookup x=some .cell):=by first | exact Or.inl rfl | exact Or.inr ⟨rfl,rfl⟩)
  (hst:∀ env:Env,(assignEach (.Name x pos :: xs) env).map (·.2)=assign (.Name x pos) env :: (assignEach xs env).map (·.2):=by intro _;rfl):sW G n sc N df m (i :: l) (.Name x pos :: xs):=fun X g=>by
 obtain ⟨h1,h2⟩:=g.loc hl
 refine oW.of (C3 (xP (i:=j) (by rw [g.nm];exact hN) (by rw [g.nm];exact Bh) h1 h2) (hs X g) (hst _)) fun vs s H Q q=>?_
 obtain ⟨r,fr,h,ds,aj,sr,hr,v1,e,q⟩:=q
 cases ds with
 | nil=>cases e
 | cons d ds=>
  simp only [aI] at v1
  obtain ⟨v,w,rfl,v2,v3⟩:=v1
  exact ⟨v,w,rfl,r,_,h,ds,aj,sr.set hm hj v2,hr,v3,e,q⟩
theorem HN {l:List Nat}{xs:List Expr}{k:Nat}(hs:sW G n sc N df m l xs) (hn:∀ env:Env,(assignEach xs env).length=l.length:=by intro _;rfl) (hst:∀ env:Env,(assignEach xs env).findIdx? (·.1)=none:=by intro _;rfl) :
  JG G n sc N df m (.many l) (.Tuple xs k pos):=fun X g=>PG.of (J4 (n:=l.length) g.calm (hs X g) (hn _) (hst _)) fun v s H Q q=>by
 obtain ⟨r,fr,h,d,aj,sr,hr,v1,e,q⟩:=q
 cases d with
 | tup ds=>
  simp only [RV] at v1
  obtain ⟨p,vs,rfl,z,w⟩:=v1
  have hlen:∀ (l:List Nat) (ds:List D) fr aj,Ev.cQ l ds fr=some aj→ds.length=l.length:=by
   intro l
   induction l with
   | nil=>intro ds fr aj e;cases ds with | nil=>rfl | cons _ _=>cases e
   | cons i l ih=>intro ds fr aj e;cases ds with | nil=>cases e | cons d ds=>simp [ih ds _ _ e]
  exact ⟨p,vs,rfl,z,by rw [w.length];exact hlen _ _ _ _ e,r,fr,h,ds,aj,sr,hr,w,e,q⟩
 | _=>cases e
end
end Sm
set_option maxRecDepth 100000
namespace Sm
open PySem PySem.Spec PyProof.Rows L2
open Ev (D O Hh Fr R aR E Es Eo T S Ss Fl Src bU bQ TY BI ME)
noncomputable def Fin (K:PySem.W.Frag) (m:List Nat) (r:List Addr) (H:Hp) (h':Hh) (fl:Fl) (aj:Fr) (Q:Ends):Prop:=match fl with
 | .nx=>∀ s' H' r',SR K m H' r' aj s'→HR K H' r' h'→Fm K r r' H H'→Q.nx s' H'
 | .bk=>∀ s' H' r',SR K m H' r' aj s'→HR K H' r' h'→Fm K r r' H H'→Q.bk s' H'
 | .ct=>∀ s' H' r',SR K m H' r' aj s'→HR K H' r' h'→Fm K r r' H H'→Q.ct s' H'
 | .ret d=>Res K r H h' d Q.rt
theorem Fin.later {K:PySem.W.Frag}{m:List Nat}{r r':List Addr}{H H':Hp}{h':Hh}{fl:Fl}{aj:Fr}{Q:Ends}(q:Fin K m r H h' fl aj Q) (f:Fm K r r' H H'):Fin K m r' H' h' fl aj Q:=by
 cases fl with
 | nx=>exact fun s2 H2 r2 a b g=>q s2 H2 r2 a b (f.trans g)
 | bk=>exact fun s2 H2 r2 a b g=>q s2 H2 r2 a b (f.trans g)
 | ct=>exact fun s2 H2 r2 a b g=>q s2 H2 r2 a b (f.trans g)
 | ret d=>exact Res.later q f
inductive Rk (K:PySem.W.Frag) (m:List Nat) (P:aR) (w:Nat) (st:S) (Q:Ends) (s:L2.St) (H:Hp):Prop
 | mk (r:List Addr) (fr:Fr) (h:Hh) (fl:Fl) (aj:Fr) (h':Hh) (c0:SR K m H r fr s) (c1:HR K H r h) (c2:Ev.ex P w st fr h=.ok (fl,aj) h') (c3:Fin K m r H h' fl aj Q):Rk K m P w st Q s H
inductive Du (K:PySem.W.Frag) (m:List Nat) (P:aR) (w:Nat) (ss:Ss) (Q:Ends) (s:L2.St) (H:Hp):Prop
 | mk (r:List Addr) (fr:Fr) (h:Hh) (fl:Fl) (aj:Fr) (h':Hh) (c0:SR K m H r fr s) (c1:HR K H r h) (c2:Ev.exs P w ss fr h=.ok (fl,aj) h') (c3:Fin K m r H h' fl aj Q):Du K m P w ss Q s H
theorem PS.of {X:Cx}{st:Stmt}{t t':TS}(h:PS X st t) (w:∀ Q s H,t' Q s H→t Q s H):PS X st t':=fun pins s σ H Q I q=>h pins s σ H Q I (w _ _ _ q)
theorem iE.of {X:Cx}{st:List Stmt}{t t':TS}(h:iE X st t) (w:∀ Q s H,t' Q s H→t Q s H):iE X st t':=fun pins s σ H Q I q=>h pins s σ H Q I (w _ _ _ q)
section
variable (G:Tb)(n:Nat)(sc:Scope)(N:List Str)(df:Bool)(m:List Nat)
noncomputable def JS (st:S) (x:Stmt):Prop:=∀ X,Good G n sc N df X→PS X x (Rk X.K m (Ev.run G.F G.w n) G.w st)
noncomputable def jY (ss:Ss) (xs:List Stmt):Prop:=∀ X,Good G n sc N df X→iE X xs (Du X.K m (Ev.run G.F G.w n) G.w ss)
end
section
variable {G:Tb}{n:Nat}{sc:Scope}{N:List Str}{df:Bool}{m:List Nat}{a b c:E}{xa xb xc tg:Expr}{pos:Pos}
theorem HQ:jY G n sc N df m .nil []:=fun X g=>iE.of Hf fun Q s H q=>by
 obtain ⟨r,fr,h,fl,aj,h',sr,hr,e,q⟩:=q
 simp only [Ev.exs] at e
 cases e
 exact q s H r sr hr .refl
theorem Dv {st:S}{ss:Ss}{x:Stmt}{xs:List Stmt}(h1:JS G n sc N df m st x) (h2:jY G n sc N df m ss xs):jY G n sc N df m (.cons st ss) (x :: xs):=fun X g=>iE.of (C1 (h1 X g) (h2 X g)) fun Q s H q=>by
 obtain ⟨r,fr,h,fl,aj,h',sr,hr,e,q⟩:=q
 simp only [Ev.exs] at e
 obtain ⟨⟨ir,af⟩,h1,e1,e⟩:=Ev.ah e
 refine ⟨r,fr,h,ir,af,h1,sr,hr,e1,?_⟩
 cases ir with
 | nx=>exact fun s1 H1 r1 Bj hr1 f1=>⟨r1,af,h1,fl,aj,h',Bj,hr1,e,q.later f1⟩
 | bk=>cases e;exact q
 | ct=>cases e;exact q
 | ret d=>cases e;exact q
theorem Ll (j i:Nat) {x:Str}{pos':Pos}(hm:m.Nodup) (hN:N.Nodup) (ha:JE G n sc N df m a xa) (hs:∀ env:Env,swapsWith xa (some (.Name x pos')) pos.line env=pure false:=by intro _;rfl) (hj:m[j]?=some i:=by rfl) (Bh:N[j]?=some x:=by rfl)
  (hl:sc.names.lookup x=some .local∨(df=true∧sc.names.lookup x=some .cell):=by first | exact Or.inl rfl | exact Or.inr ⟨rfl,rfl⟩):JS G n sc N df m (.set i a) (.Assign [.Name x pos'] xa pos):=fun X g=>by
 obtain ⟨h1,h2⟩:=g.loc hl
 refine PS.of (J5 (i:=j) (by rw [g.nm];exact hN) (by rw [g.nm];exact Bh) h1 (ha X g) (hs _) h2) fun Q s H q=>?_
 obtain ⟨r,fr,h,fl,aj,h',sr,hr,e,q⟩:=q
 simp only [Ev.ex] at e
 obtain ⟨d,h1,e1,e⟩:=Ev.ah e
 cases e
 exact ⟨r,fr,h,d,_,sr,hr,e1,fun v H1 r1 v1 hr1 f1=>q _ H1 r1 ((sr.mono f1).set hm hj v1) hr1 f1⟩
theorem Lm (ha:JE G n sc N df m a xa) (hs:∀ env:Env,swapsWith xa none pos.line env=pure false:=by intro _;rfl):JS G n sc N df m (.exp a) (.Expr xa pos):=fun X g=>PS.of (xO (ha X g) (hs _)) fun Q s H q=>by
 obtain ⟨r,fr,h,fl,aj,h',sr,hr,e,q⟩:=q
 simp only [Ev.ex] at e
 obtain ⟨d,h1,e1,e⟩:=Ev.ah e
 cases e
 exact ⟨r,fr,h,d,_,sr,hr,e1,fun v H1 r1 v1 hr1 f1=>q s H1 r1 (sr.mono f1) hr1 f1⟩
theorem Ln (ha:JE G n sc N df m a xa):JS G n sc N df m (.ret a) (.Return (some xa) pos):=fun X g=>PS.of (J2 (ha X g)) fun Q s H q=>by
 obtain ⟨r,fr,h,fl,aj,h',sr,hr,e,q⟩:=q
 simp only [Ev.ex] at e
 obtain ⟨d,h1,e1,e⟩:=Ev.ah e
 cases e
 exact ⟨r,fr,h,d,_,sr,hr,e1,q⟩
theorem Lo {ta tb:Ss}{ya yb:List Stmt}(hc:JT G n sc N df m a xa) (h1:jY G n sc N df m ta ya) (h2:jY G n sc N df m tb yb):JS G n sc N df m (.iff a ta tb) (.If xa ya yb pos):=fun X g=>PS.of (OI (hc X g) (h1 X g) (h2 X g)) fun Q s H q=>by
 obtain ⟨r,fr,h,fl,aj,h',sr,hr,e,q⟩:=q
 simp only [Ev.ex] at e
 obtain ⟨k,h3,e1,e⟩:=Ev.ah e
 refine ⟨r,fr,h,k,h3,sr,hr,e1,fun H1 r1 hr1 f1=>?_⟩
 cases k with
 | true=>exact ⟨r1,fr,h3,fl,aj,h',sr.mono f1,hr1,e,q.later f1⟩
 | false=>exact ⟨r1,fr,h3,fl,aj,h',sr.mono f1,hr1,e,q.later f1⟩
theorem Good.pass {X:Cx}(g:Good G n sc N df X):PassesOwn (model X.prog X.w) X.A X.env X.xe:=by
 rw [g.xe];exact PassesOwn.never
noncomputable def FN (K:PySem.W.Frag) (m:List Nat) (ir:Fl) (gM:Fr) (h4:Hh) (r1:List Addr) (H1:Hp) (s5:L2.St) (H5:Hp):Prop:=(ir=.nx∨ir=.ct)∧∃ r5,SR K m H5 r5 gM s5∧HR K H5 r5 h4∧Fm K r1 r5 H1 H5
section
variable {K:PySem.W.Frag}{r r1 r2:List Addr}{H H1 H2:Hp}{h4 h':Hh}{fl ir:Fl}{gM aj:Fr}{Q:Ends}
noncomputable def zy (L:R (Fl×Fr)) (p:Fl×Fr) (h1:Hh):R (Fl×Fr):=match p.1 with
 | .nx=>L
 | .ct=>L
 | .bk=>.ok (.nx,p.2) h1
 | .ret x=>.ok (.ret x,p.2) h1
theorem xX {L:R (Fl×Fr)}(e:zy L (ir,gM) h4=.ok (fl,aj) h') (z:ir=.nx∨ir=.ct):L=.ok (fl,aj) h':=by rcases z with rfl | rfl <;> exact e
theorem uW {L:R (Fl×Fr)}(e:zy L (ir,gM) h4=.ok (fl,aj) h') (q:Fin K m r H h' fl aj Q) (f:Fm K r r1 H H1) (f2:Fm K r1 r2 H1 H2):Fin K m r2 H2 h4 ir gM { Q with nx:=FN K m ir gM h4 r1 H1,ct:=FN K m ir gM h4 r1 H1,bk:=Q.nx }:=by
 cases ir with
 | nx=>exact fun s6 H6 r6 Bk Bm f6=>⟨.inl rfl,r6,Bk,Bm,f2.trans f6⟩
 | ct=>exact fun s6 H6 r6 Bk Bm f6=>⟨.inr rfl,r6,Bk,Bm,f2.trans f6⟩
 | bk=>
  cases e
  exact fun s6 H6 r6 Bk Bm f6=>q s6 H6 r6 Bk Bm ((f.trans f2).trans f6)
 | ret d=>
  cases e
  exact Res.later q (f.trans f2)
noncomputable def uX (P:aR) (w:Nat) (t:T) (tb:Ss):D→Fr→Hh→R (Fl×Fr):=fun d ao h2=>match Ev.bz t d ao with
 | some bG=>Ev.exs P w tb bG h2
 | none=>.bad
theorem uY (P:aR) (w:Nat) (t:T) (it:Ev.It) (tb:Ss) (fr:Fr) (h:Hh):Ev.ex P w (.for t it tb) fr h=(Ev.cF P it fr h).bind fun s h1=>Ev.forL (uX P w t tb) s.2 s.1 fr h1:=by simp only [Ev.ex];rfl
theorem sX (f:D→Fr→Hh→R (Fl×Fr)) (ck:List (Nat×List D)) (d:D) (ds:List D) (fr:Fr) (h:Hh):Ev.forL f ck (d :: ds) fr h=if Ev.stays h ck then (f d fr h).bind fun p h1=>zy (Ev.forL f ck ds p.2 h1) p h1 else .bad:=rfl
noncomputable def FW (K:PySem.W.Frag) (m:List Nat) (f:D→Fr→Hh→R (Fl×Fr)) (src:Src) (r1:List Addr) (H1:Hp) (o:Fl×Fr) (h':Hh) (i k:Nat) (s3:L2.St) (H3:Hp):Prop:=
 k=src.1.length - i∧i≤src.1.length∧∃ r3 bG h3,SR K m H3 r3 bG s3∧HR K H3 r3 h3∧Fm K r1 r3 H1 H3∧Ev.forL f src.2 (src.1.drop i) bG h3=.ok o h'
theorem Dw {P:aR}{w:Nat}{t:T}{tb:Ss}{src:Src}{J:L2.It}{i k:Nat}{s3:L2.St}{H3:Hp}(hJ:rH K r1 H1 src J) (q:Fin K m r H h' fl aj Q) (f1:Fm K r r1 H H1) (hW:FW K m (uX P w t tb) src r1 H1 (fl,aj) h' i k s3 H3) :
  (J.stop i H3∧Q.nx s3 H3)∨(J.go i H3∧∃ N:L2.St→Hp→Prop,(∀ σ' H',N σ' H'→∃ m',m'<k∧FW K m (uX P w t tb) src r1 H1 (fl,aj) h' (i+1) m' σ' H')∧∀ x H',J.FE i H3 x H'→gJ K m t x s3 H' fun σ2 H2=>Du K m P w tb { Q with nx:=N,ct:=N,bk:=Q.nx } σ2 H2):=by
 obtain ⟨rfl,hle,r3,bG,h3,xY,jE,f3,e3⟩:=hW
 rcases Nat.lt_or_ge i src.1.length with hlt | hge
 ·rw [List.drop_eq_getElem_cons hlt,sX] at e3
  split at e3
  ·rename_i hst
   obtain ⟨g1,g2⟩:=(hJ i H3 r3 h3 jE f3 hst).1 src.1[i] (List.getElem?_eq_getElem hlt)
   obtain ⟨⟨ir,gM⟩,h4,e4,e3⟩:=Ev.ah e3
   unfold uX at e4
   split at e4
   ·rename_i mW e5
    exact .inr ⟨g1,FN K m ir gM h4 r1 H1,fun s5 H5 ⟨hfl,r5,Bo,sY,f5⟩=>⟨_,Nat.sub_lt_sub_left hlt (Nat.lt_succ_self i),rfl,hlt,r5,gM,h4,Bo,sY,f5,xX e3 hfl⟩,fun x H4 y=>
     let ⟨r4,v4,Rl,f4⟩:=g2 x H4 y
     ⟨r4,bG,h3,_,mW,xY.mono f4,Rl,v4,e5,fun s5 Bo=>⟨r4,mW,h3,ir,gM,h4,Bo,Rl,e4,uW e3 q f1 (f3.trans f4)⟩⟩⟩
   ·cases e4
  ·cases e3
 ·have hi:i=src.1.length:=Nat.le_antisymm hle hge
  subst hi
  rw [List.drop_length] at e3
  unfold Ev.forL at e3
  split at e3
  ·rename_i hst
   cases e3
   exact .inl ⟨(hJ _ H3 r3 _ jE f3 hst).2 (Nat.le_refl _),q s3 H3 r3 xY jE (f1.trans f3)⟩
  ·cases e3
end
theorem Bp (t:Fr→Hh→R Bool) (f:Fr→Hh→R (Fl×Fr)) (n:Nat) (fr:Fr) (h:Hh):Ev.ek t f (n+1) fr h=(t fr h).bind fun b h1=>if b then (f fr h1).bind fun p h2=>zy (Ev.ek t f n p.2 h2) p h2 else .ok (.nx,fr) h1:=rfl
noncomputable def WW (K:PySem.W.Frag) (m:List Nat) (P:aR) (w:Nat) (a:E) (tb:Ss) (r:List Addr) (H:Hp) (o:Fl×Fr) (h':Hh) (k:Nat) (s1:L2.St) (H1:Hp):Prop:=
 ∃ r1 af h1,SR K m H1 r1 af s1∧HR K H1 r1 h1∧Fm K r r1 H H1∧Ev.ek (fun ao h2=>Ev.aL P a ao h2) (fun ao h2=>Ev.exs P w tb ao h2) k af h1=.ok o h'
theorem Lp {tb:Ss}{yb:List Stmt}(hc:JT G n sc N df m a xa) (h1:jY G n sc N df m tb yb):JS G n sc N df m (.m7 a tb) (.While xa yb [] pos):=fun X g=>PS.of (C4 g.pass (hc X g) (h1 X g)) fun Q s H q=>by
 obtain ⟨r,fr,h,fl,aj,h',sr,hr,e,q⟩:=q
 simp only [Ev.ex] at e
 refine ⟨WW X.K m (Ev.run G.F G.w n) G.w a tb r H (fl,aj) h',⟨_,r,fr,h,sr,hr,.refl,e⟩,fun k s1 H1 hW=>?_⟩
 obtain ⟨r1,af,h1,Bj,hr1,f1,e1⟩:=hW
 cases k with
 | zero=>cases e1
 | succ k=>
  rw [Bp] at e1
  obtain ⟨bb,h2,e2,e1⟩:=Ev.ah e1
  refine ⟨r1,af,h1,bb,h2,Bj,hr1,e2,fun H2 r2 hr2 f2=>?_⟩
  cases bb with
  | false=>
   cases e1
   exact q s1 H2 r2 (Bj.mono f2) hr2 (f1.trans f2)
  | true=>
   rw [if_pos rfl] at e1
   obtain ⟨⟨ir,ao⟩,h3,e3,e1⟩:=Ev.ah e1
   exact ⟨FN X.K m ir ao h3 r H,fun s3 H3 ⟨hfl,r3,xY,jE,f3⟩=>⟨k,Nat.lt_succ_self k,r3,ao,h3,xY,jE,f3,xX e1 hfl⟩,r2,af,h2,ir,ao,h3,Bj.mono f2,hr2,e3,uW e1 q .refl (f1.trans f2)⟩
theorem Lq {t:T}{it:Ev.It}{tb:Ss}{yb:List Stmt}(hi:JI G n sc N df m it tg xa) (hg:JG G n sc N df m t tg) (h1:jY G n sc N df m tb yb) (hs:∀ (env:Env) x,foldedSetIterable xa env x=pure x:=by intro _ _;rfl) :
  JS G n sc N df m (.for t it tb) (.For tg xa yb [] pos):=fun X g=>PS.of (J7 g.pass g.calm (hi X g) (hg X g) (h1 X g) (hs _)) fun Q s H q=>by
 obtain ⟨r,fr,h,fl,aj,h',sr,hr,e,q⟩:=q
 rw [uY] at e
 obtain ⟨src,h2,e1,e⟩:=Ev.ah e
 exact ⟨r,fr,h,src,h2,sr,hr,e1,fun J H1 r1 hr1 f1 hJ=>⟨FW X.K m (uX (Ev.run G.F G.w n) G.w t tb) src r1 H1 (fl,aj) h',⟨src.1.length,rfl,Nat.zero_le _,r1,fr,h2,sr.mono f1,hr1,.refl,by rw [List.drop_zero];exact e⟩,fun i k s3 H3 hW=>Dw hJ q f1 hW⟩⟩
end
theorem getElem?_range' {k j i:Nat}(h:(List.range k)[j]?=some i):i=j:=by
 obtain ⟨h1,h2⟩:=List.getElem?_eq_some_iff.mp h
 simpa using h2.symm
theorem Dy {K:PySem.W.Frag}{H:Hp}{r:List Addr}{ds:List D}{vs:List V}{N:List Str}{fn:Ev.Fn}(v1:aI K H r ds vs) (hN:vs.length≤N.length):SR K (List.range N.length) H r (Ev.eK fn ds) (L2.start N vs):=by
 refine ⟨by unfold L2.start;simp;omega,fun j i d e1 e2=>?_⟩
 have e3:=getElem?_range' e1
 subst e3
 unfold Ev.eK at e2
 by_cases hj:i<ds.length
 ·rw [List.getElem?_append_left (by simpa using hj),List.getElem?_map] at e2
  cases e4:ds[i]? with
  | none=>rw [e4] at e2;cases e2
  | some d'=>
   rw [e4] at e2
   cases e2
   obtain ⟨v,q1,q2⟩:=v1.get e4
   refine ⟨v,?_,q2⟩
   unfold L2.start
   rw [List.getElem?_append_left (by have:=v1.length;simpa using (by omega:i<vs.length)),List.getElem?_map,q1]
   rfl
 ·rw [List.getElem?_append_right (by simpa using Nat.not_lt.mp hj),List.getElem?_replicate] at e2
  split at e2 <;> cases e2
section
variable {P:Program}{w:World}{K:PySem.W.Frag}{mg:Str→Option Value}{base:Heap}{G:Tb}
noncomputable def uf (P:Program) (w:World) (K:PySem.W.Frag) (mg:Str→Option Value) (base:Heap) (G:Tb) (n:Nat):Prop:=∀ (f:Nat) i,G.fi[f]?=some i→iV P w K mg base m5 n i.addr i.fd i.ps (oY K G.F G.w n f)
structure Top (P:Program) (w:World) (K:PySem.W.Frag) (mg:Str→Option Value) (G:Tb):Prop where
 fn:∀ (f:Nat) i,G.fi[f]?=some i→mg i.name=some (.ref i.addr)∧PySem.W.keepIn K (.ref i.addr)=true∧Binds K i.fd i.ps []
 bl:∀ x∈G.bl,mg x=none
 cs:∀ x d,(x,d)∈G.cs→∃ v u,mg x=some u∧RelV v u∧xW K d v
 dk:∀ x kvs,(x,kvs)∈G.dk→∃ a,mg x=some (.ref a)∧∀ h:Heap,K.In h→StrTab P w h a (tabOf kvs)
theorem HS {f:Addr}{fd:FuncData}{ps:List Str}{k:Nat}:iV P w K mg base m5 0 f fd ps (oY K G.F G.w 0 k):=by
 have no:∀ vs H Q E,¬ oY K G.F G.w 0 k vs H Q E:=fun vs H Q E h=>by
  obtain ⟨r,h,ds,d,h',_,_,e,_⟩:=h
  cases e
 exact ⟨fun vs H Q E h=>absurd h (no vs H Q E),fun A outer s H args us vs Q E _ _ _ _ h=>absurd h (no vs H Q E)⟩
theorem cD {x qual:Str}{st:Stmt}{i:FI}{N:List Str}{n f:Nat}{fn:Ev.Fn}(T:Top P w K mg G) (A0:uf P w K mg base G n) (F:sR K x qual st i.addr i.fd) (S:bq N i.ps (aN st)) (hf:G.F[f]?=some fn) (hp:i.ps.length=fn.np)
  (hb:jY G n (aN st) N true (List.range N.length) fn.body (g9 st)):iV P w K mg base m5 (n+1) i.addr i.fd i.ps (oY K G.F G.w (n+1) f):=by
 have hlen:∀ vs H Q E,oY K G.F G.w (n+1) f vs H Q E→vs.length=i.ps.length:=fun vs H Q E h=>by
  obtain ⟨r,h,ds,d,h',v1,_,e,_⟩:=h
  simp only [Ev.run,hf] at e
  split at e
  ·rename_i z
   rw [v1.length,z,hp]
  ·cases e
 refine F.ok S hlen fun cdv A outer s H vs Q E hr kO=>?_
 have hl:=hlen vs H Q E kO
 have hN:vs.length≤N.length:=by
  have:=congrArg List.length S.pre
  rw [List.length_take] at this
  omega
 have g:Good G n (aN st) N true (pJ m5 P w K mg base N qual (aN st) i.addr cdv A outer s H E).sH:=
  ⟨rfl,rfl,rfl,fun _ _=>rfl,hr,rfl,fun f i hi=>⟨(T.fn f i hi).1,(T.fn f i hi).2.1,(T.fn f i hi).2.2,A0 f i hi⟩,T.bl,T.cs,T.dk⟩
 refine ⟨_,hb _ g,?_⟩
 obtain ⟨r,h,ds,d,h',v1,hr1,e,q⟩:=kO
 simp only [Ev.run,hf] at e
 split at e
 ·unfold Ev.endOf at e
  obtain ⟨⟨fl,aj⟩,h2,e1,e⟩:=Ev.ah e
  refine ⟨r,Ev.eK fn ds,h,fl,aj,h2,Dy v1 hN,hr1,e1,?_⟩
  cases fl with
  | nx=>
   cases e
   exact fun s' H' r' _ hr' f'=>q _ H' r' rfl hr' f'
  | ret d'=>
   cases e
   exact q
  | bk=>cases e
  | ct=>cases e
 ·cases e
end
end Sm
set_option maxRecDepth 100000
namespace Sm
open PySem PySem.Spec PyProof.Rows L2 PySem.SeqAt
open Ev (D O Hh Fr R aR E Es Eo T S Ss Fl Src bU bQ TY BI ME)
theorem Dz (kvs:List (Int×List Nat)) (k:Int):((dM kvs).find? fun kv=>decide (kv.1=(Sum.inl k:Key)))=(kvs.find? fun p=>decide (p.1=k)).map fun p=>(Sum.inl p.1,V.str (aU p.2)):=by
 induction kvs with
 | nil=>rfl
 | cons p kvs ih=>
  simp only [dM,List.map_cons,List.find?_cons] at ih ⊢
  by_cases h:p.1=k
  ·simp [h]
  ·rw [decide_eq_false (by simpa using h),decide_eq_false h];exact ih
theorem xZ (kvs:List (Int×List Nat)) (k:Int):iW (dM kvs) (Sum.inl k:Key)=(Ev.cg kvs k).map fun s=>V.str (aU s):=by
 unfold iW Ev.cg
 rw [Dz,Option.map_map,Option.map_map];rfl
theorem x8 (kvs:List (Int×List Nat)) (k:Int) (s:List Nat):putK (dM kvs) (Sum.inl k:Key) (V.str (aU s))=dM (Ev.cW kvs k s):=by
 have ha:((dM kvs).any fun kv=>decide (kv.1=(Sum.inl k:Key)))=(kvs.any fun p=>decide (p.1=k)):=by
  unfold dM;rw [List.any_map];congr 1;funext p;simp
 unfold putK Ev.cW
 rw [ha]
 split
 ·unfold dM
  rw [List.map_map,List.map_map]
  refine List.map_congr_left fun p _=>?_
  by_cases h:p.1=k <;> simp [h]
 ·unfold dM;rw [List.map_append];rfl
theorem x9 {kvs:List (Int×List Nat)}{k:Int}{s:List Nat}(h:Ev.cg kvs k=some s):∃ p∈kvs,p.2=s:=by
 unfold Ev.cg at h
 obtain ⟨p,e,rfl⟩:=Option.map_eq_some_iff.mp h
 exact ⟨p,List.mem_of_find?_eq_some e,rfl⟩
theorem yc {kvs:List (Int×List Nat)}{k:Int}{s:List Nat}{p:Int×List Nat}(h:p∈Ev.cW kvs k s):p∈kvs∨p.2=s:=by
 unfold Ev.cW at h
 split at h
 ·obtain ⟨q,hq,rfl⟩:=List.mem_map.mp h
  split
  ·exact .inr rfl
  ·exact .inl hq
 ·rcases List.mem_append.mp h with h | h
  ·exact .inl h
  ·rw [List.mem_singleton] at h;subst h;exact .inr rfl
section
variable {K:PySem.W.Frag}{H:Hp}{r:List Addr}{h:Hh}
theorem HR.gW {p:Addr}(hr:HR K H r h) (hp:H p=none):HR K (upd H p (.dK [])) (r++[p]) (h++[.dct []]) where
 len:=by simp [hr.len]
 ob:=fun n ob e=>by
  by_cases hn:n<h.length
  ·rw [List.getElem?_append_left hn] at e
   obtain ⟨a,e1,z⟩:=hr.ob n ob e
   exact ⟨a,(Fm.laid (K:=K) (o:=.dK []) hp).pre n a e1,z.mono (Fm.laid hp) (fun _ vs _ z=>by rw [aT (bF z hp)];exact z) (fun _ _ z=>by rw [aT (bF z hp)];exact z) (fun _ _ _ z=>by rw [aT (bF z hp)];exact z)⟩
  ·have e2:=(List.getElem?_eq_some_iff.mp e).1
   simp only [List.length_append,List.length_singleton] at e2
   have e3:n=h.length:=by omega
   subst e3
   simp at e
   subst e
   exact ⟨p,by rw [←hr.len];simp,fR,fun q hq=>by cases hq⟩
 inj:=fun n m a x y e1 e2 e3 e4=>by
  have out:∀ (k:Nat) z,(h++[O.dct []])[k]?=some (.lst z)→(r++[p])[k]?=some a→r[k]?=some a∧h[k]?=some (.lst z):=fun k z q1 q2=>by
   by_cases hk:k<h.length
   ·rw [List.getElem?_append_left hk] at q1
    rw [List.getElem?_append_left (by rw [hr.len];exact hk)] at q2
    exact ⟨q2,q1⟩
   ·have e5:=(List.getElem?_eq_some_iff.mp q1).1
    simp only [List.length_append,List.length_singleton] at e5
    have e6:k=h.length:=by omega
    subst e6
    simp at q1
  exact hr.inj n m a x y (out n x e3 e1).1 (out m y e4 e2).1 (out n x e3 e1).2 (out m y e4 e2).2
 kj:=fun n m a x y e1 e2 e3 e4=>by
  have out:∀ (k:Nat) z,(h++[O.dct []])[k]?=some (.dct z)→(r++[p])[k]?=some a→(r[k]?=some a∧h[k]?=some (.dct z)∧a≠p)∨(k=h.length∧a=p):=fun k z q1 q2=>by
   by_cases hk:k<h.length
   ·rw [List.getElem?_append_left hk] at q1
    rw [List.getElem?_append_left (by rw [hr.len];exact hk)] at q2
    obtain ⟨b,e5,e6,_⟩:=hr.dct q1
    rw [q2] at e5;cases e5
    exact .inl ⟨q2,q1,bF e6 hp⟩
   ·have e5:=(List.getElem?_eq_some_iff.mp q1).1
    simp only [List.length_append,List.length_singleton] at e5
    have e6:k=r.length:=by rw [hr.len];omega
    subst e6
    simp at q2
    exact .inr ⟨hr.len,q2.symm⟩
  rcases out n x e3 e1 with ⟨h2,h3,h4⟩ | ⟨h1,h2⟩
  ·rcases out m y e4 e2 with ⟨k2,k3,k4⟩ | ⟨k1,k2⟩
   ·exact hr.kj n m a x y h2 k2 h3 k3
   ·exact absurd k2 h4
  ·rcases out m y e4 e2 with ⟨k2,k3,k4⟩ | ⟨k1,k2⟩
   ·exact absurd h2 k4
   ·rw [h1,k1]
theorem Fm.dput {a:Addr}{vs ws:List (Key×V)}(ha:H a=some (.dK vs)) (hm:a∈r):Fm K r r H (upd H a (.dK ws)) where
 pre:=fun n b e=>e
 new:=fun b e=>.inl e
 keep:=fun b ob e n=>by rw [aT (fun z=>n (by rw [z];exact hm))];exact e
 tups:=fun b us e=>by
  rcases e with (e | ⟨ob,e⟩) | e
  ·exact .inl (.inl (by rw [aT (iD e ha (by intro z;cases z))];exact e))
  ·exact .inl (.inr ⟨ob,by rw [aT (iD e ha (by intro z;cases z))];exact e⟩)
  ·exact .inr e
theorem HR.dput {n:Nat}{a:Addr}{ds es:List (Int×List Nat)}(hr:HR K H r h) (hn:h[n]?=some (.dct ds)) (uT:r[n]?=some a) (ha:H a=some (.dK (dM ds))) (q:∀ p∈es,p.2.length≤sizeLine) :
  HR K (upd H a (.dK (dM es))) r (h.set n (.dct es)) where
 len:=by simp [hr.len]
 ob:=fun m ob e=>by
  have f:=Fm.dput (K:=K) (ws:=dM es) ha (List.mem_of_getElem? uT)
  by_cases hm:m=n
  ·subst hm
   rw [List.getElem?_set_self (List.getElem?_eq_some_iff.mp hn).1] at e
   cases e
   exact ⟨a,uT,fR,q⟩
  ·rw [List.getElem?_set_ne (fun z=>hm z.symm)] at e
   obtain ⟨b,e1,z⟩:=hr.ob m ob e
   refine ⟨b,e1,z.mono f (fun _ us _ z2=>by rw [aT (iD z2 ha (by intro z;cases z))];exact z2) (fun V3 us z2=>by rw [aT (iD z2 ha (by intro z;cases z))];exact z2) (fun kvs us z3 z2=>?_)⟩
   by_cases hb:b=a
   ·subst hb
    subst z3
    exact absurd (hr.kj m n b kvs ds e1 uT e hn) hm
   ·rw [aT hb];exact z2
 inj:=fun k m b x y e1 e2 e3 e4=>by
  have back:∀ (j:Nat) z,(h.set n (O.dct es))[j]?=some (.lst z)→h[j]?=some (.lst z):=fun j z w=>by
   by_cases hj:j=n
   ·subst hj
    rw [List.getElem?_set_self (List.getElem?_eq_some_iff.mp hn).1] at w
    cases w
   ·rw [List.getElem?_set_ne (fun z=>hj z.symm)] at w;exact w
  exact hr.inj k m b x y e1 e2 (back k x e3) (back m y e4)
 kj:=fun k m b x y e1 e2 e3 e4=>by
  have back:∀ (j:Nat) z,(h.set n (O.dct es))[j]?=some (.dct z)→∃ z',h[j]?=some (.dct z'):=fun j z w=>by
   by_cases hj:j=n
   ·subst hj;exact ⟨ds,hn⟩
   ·rw [List.getElem?_set_ne (fun z=>hj z.symm)] at w;exact ⟨z,w⟩
  obtain ⟨x',e5⟩:=back k x e3
  obtain ⟨y',e6⟩:=back m y e4
  exact hr.kj k m b x' y' e1 e2 e5 e6
end
theorem lR {h:Hh}{x:D}{kvs:List (Int×List Nat)}(e:Ev.eT h x=some kvs):∃ n,x=.ref n∧h[n]?=some (.dct kvs):=by
 cases x with
 | ref n=>
  simp only [Ev.eT] at e
  split at e
  ·rename_i k z;cases e;exact ⟨n,rfl,z⟩
  ·cases e
 | _=>cases e
theorem HU {h:Hh}{x y d:D}(e:Ev.uQ x y h=some d):∃ n kvs k s,x=.ref n∧h[n]?=some (.dct kvs)∧y=.int k∧Ev.cg kvs k=some s∧d=.str s:=by
 unfold Ev.uQ at e
 cases hx:Ev.eT h x with
 | none=>rw [hx] at e;cases e
 | some kvs=>
  rw [hx] at e
  obtain ⟨n,rfl,z⟩:=lR hx
  cases y with
  | int k=>
   obtain ⟨w,ew,rfl⟩:=Option.map_eq_some_iff.mp e
   exact ⟨n,kvs,k,w,rfl,z,rfl,ew,rfl⟩
  | _=>cases e
theorem HV {h h0:Hh}{x y z d:D}(e:Ev.uR x y z h h0=some d):∃ n FP kvs k,x=.ref n∧h0[n]?=some (.dct FP)∧h[n]?=some (.dct kvs)∧y=.int k∧d=(match Ev.cg kvs k with | some s=>.str s | none=>z):=by
 unfold Ev.uR at e
 cases hx:Ev.eT h0 x with
 | none=>rw [hx] at e;cases e
 | some FP=>
  rw [hx] at e
  obtain ⟨n,rfl,w⟩:=lR hx
  cases hy:Ev.eT h (.ref n) with
  | none=>rw [hy] at e;cases e
  | some kvs=>
   rw [hy] at e
   obtain ⟨n',en,w'⟩:=lR hy
   cases en
   cases y with
   | int k=>cases e;exact ⟨n,FP,kvs,k,rfl,w,w',rfl,rfl⟩
   | _=>cases e
theorem DA {h h':Hh}{x y z:D}(e:Ev.uc x y z h=some h'):∃ n kvs k s,x=.ref n∧y=.int k∧z=.str s∧h[n]?=some (.dct kvs)∧kvs.length<Ev.big∧h'=h.set n (.dct (Ev.cW kvs k s)):=by
 unfold Ev.uc at e
 cases x with
 | ref n=>
  cases y with
  | int k=>
   cases z with
   | str s=>
    simp only at e
    cases hn:h[n]? with
    | none=>rw [hn] at e;cases e
    | some o=>
     rw [hn] at e
     cases o with
     | dct kvs=>
      simp only at e
      by_cases hl:kvs.length<Ev.big
      ·rw [if_pos hl] at e;cases e;exact ⟨n,kvs,k,s,rfl,rfl,rfl,hn,hl,rfl⟩
      ·rw [if_neg hl] at e;cases e
     | _=>cases e
   | _=>cases e
  | _=>cases e
 | _=>cases e
section
variable {G:Tb}{n:Nat}{sc:Scope}{N:List Str}{df:Bool}{m:List Nat}{a b c:E}{xa xb xc:Expr}{pos:Pos}
theorem HW:JE G n sc N df m .gW (.Dict [] [] pos):=fun X g=>PE.of Dm fun s H Q q=>by
 obtain ⟨r,fr,h,d,h',sr,hr,e,q⟩:=q
 simp only [Ev.ev] at e
 cases e
 intro p hp
 exact q _ _ (r++[p]) ⟨p,rfl,by rw [←hr.len];simp⟩ (hr.gW hp) (Fm.laid hp)
theorem Lr (ha:JE G n sc N df m a xa) (hb:JE G n sc N df m b xb) (hs:Dk xb:=by intro _ _;rfl):JE G n sc N df m (.kh a b) (.Subscript xa xb pos):=fun X g=>PE.of (HD (zm g.room) (ha X g) (hb X g) hs) fun s H Q q=>by
 obtain ⟨r,fr,h,d,h',sr,hr,e,q⟩:=q
 simp only [Ev.ev] at e
 obtain ⟨x,h1,e1,e⟩:=Ev.ah e
 obtain ⟨y,h2,e2,e⟩:=Ev.ah e
 obtain ⟨e,rfl⟩:=Ev.aJ e
 refine ⟨r,fr,h,x,h1,sr,hr,e1,fun v H1 r1 v1 hr1 f1=>?_⟩
 refine ⟨r1,fr,h1,y,_,sr.mono f1,hr1,e2,fun u H2 r2 v2 hr2 f2=>?_⟩
 obtain ⟨i,kvs,k,w,rfl,z,rfl,ew,rfl⟩:=HU e
 obtain ⟨p,z1,z2,z3⟩:=hr2.dct z
 obtain ⟨p',rfl,z4⟩:=v1.mono f2
 rw [z1] at z4;cases z4
 cases v2
 obtain ⟨q0,Bq,rfl⟩:=x9 ew
 refine ⟨p,.str (aU q0.2),rfl,?_,q _ H2 r2 ⟨rfl,z3 q0 Bq⟩ hr2 (f1.trans f2)⟩
 have:=lQ.k (k:=Sum.inl k) z2
 rw [xZ,ew] at this
 exact this
theorem Ls {apos:Pos}(ha:JE G n sc N df m a xa) (hb:JE G n sc N df m b xb) (hc:JE G n sc N df m c xc) (hM:∀ X:Cx,M2 X xa "get" apos xb xc pos:=by intro X;exact ⟨rfl,rfl,rfl,rfl⟩):JE G n sc N df m (.ki a b c) (.Call (.Attribute xa "get" apos) [xb,xc] [] pos):=fun X g=>PE.of (Dn (zm g.room) (ha X g) (hb X g) (hc X g) (hM X)) fun s H Q q=>by
 obtain ⟨r,fr,h,d,h',sr,hr,e,q⟩:=q
 simp only [Ev.ev] at e
 obtain ⟨x,h1,e1,e⟩:=Ev.ah e
 obtain ⟨y,h2,e2,e⟩:=Ev.ah e
 obtain ⟨z,h3,e3,e⟩:=Ev.ah e
 obtain ⟨e,rfl⟩:=Ev.aJ e
 obtain ⟨i,FP,kvs,k,rfl,y0,y1,rfl,rfl⟩:=HV e
 refine ⟨r,fr,h,.ref i,h1,sr,hr,e1,fun v H1 r1 v1 hr1 f1=>?_⟩
 obtain ⟨p0,w1,w2,w3⟩:=hr1.dct y0
 obtain ⟨p,rfl,z4⟩:=id v1
 rw [w1] at z4;cases z4
 refine ⟨p0,rfl,.inl ⟨_,.inl w2⟩,r1,fr,h1,.int k,h2,sr.mono f1,hr1,e2,fun u H2 r2 v2 hr2 f2=>?_⟩
 refine ⟨r2,fr,h2,z,_,(sr.mono f1).mono f2,hr2,e3,fun t H3 r3 v3 jE f3=>?_⟩
 obtain ⟨p1,x1,x2,x3⟩:=jE.dct y1
 have x4:=f3.pre _ _ (f2.pre _ _ w1)
 rw [x1] at x4;cases x4
 cases v2
 have g:=lQ.k (k:=Sum.inl k) x2
 rw [xZ] at g
 refine ⟨_,g,?_⟩
 cases ev:Ev.cg kvs k with
 | none=>rw [ev] at q;exact q _ H3 r3 v3 jE ((f1.trans f2).trans f3)
 | some s2=>
  rw [ev] at q
  obtain ⟨q0,Bq,rfl⟩:=x9 ev
  exact q _ H3 r3 ⟨rfl,x3 q0 Bq⟩ jE ((f1.trans f2).trans f3)
theorem HX {tp:Pos}(ho:JE G n sc N df m a xa)(hi:JE G n sc N df m b xb)(hv:JE G n sc N df m c xc)
  (hs:∀ env:Env,swapsWith xc (some (.Subscript xa xb tp)) pos.line env=pure false:=by intro _;rfl):JS G n sc N df m (.dput a b c) (.Assign [.Subscript xa xb tp] xc pos):=fun X g=>PS.of (HE (zm g.room) (ho X g) (hi X g) (hv X g) (hs _)) fun Q s H q=>by
 obtain ⟨r,fr,h,fl,aj,h',sr,hr,e,q⟩:=q
 simp only [Ev.ex] at e
 obtain ⟨x,h2,e1,e⟩:=Ev.ah e
 obtain ⟨y,h3,e2,e⟩:=Ev.ah e
 obtain ⟨z,h4,e3,e⟩:=Ev.ah e
 refine ⟨r,fr,h,x,h2,sr,hr,e1,fun v H1 r1 v1 hr1 f1=>?_⟩
 refine ⟨r1,fr,h2,y,h3,sr.mono f1,hr1,e2,fun u H2 r2 v2 hr2 f2=>?_⟩
 refine ⟨r2,fr,h3,z,h4,(sr.mono f1).mono f2,hr2,e3,fun t H3 r3 v3 jE f3=>?_⟩
 split at e
 ·rename_i h5 e5
  cases e
  obtain ⟨i,kvs,k,w,rfl,rfl,rfl,z5,hl,rfl⟩:=DA e5
  obtain ⟨p1,x1,x2,x3⟩:=jE.dct z5
  obtain ⟨p,rfl,x4⟩:=v2.mono f3
  rw [x1] at x4;cases x4
  cases v3
  obtain ⟨rfl,lw⟩:=(v1.mono f2).mono f3
  have lk:(dM kvs).length<sizeLine:=by unfold dM;rw [List.length_map];exact hl
  have g:=uO.k (k:=Sum.inl k) (v:=V.str (aU w)) x2 lk
  rw [x8] at g
  refine ⟨p1,_,rfl,g,?_⟩
  have fp:=Fm.dput (K:=X.K) (ws:=dM (Ev.cW kvs k w)) x2 (List.mem_of_getElem? x1)
  exact q _ _ r3 ((((sr.mono f1).mono f2).mono f3).mono fp) (jE.dput z5 x1 x2 fun p hp=>(yc hp).elim (x3 p) fun z=>by rw [z];exact lw) (((f1.trans f2).trans f3).trans fp)
 ·cases e
end
end Sm
set_option maxRecDepth 100000
namespace L2
open PySem PySem.Spec PyProof.Rows
theorem O9 {X:Cx}{pins:List (Addr×Obj)}{σ:St}{H:Hp}{s:Shared}{A:Around}{E:Value→Shared→Prop}{a b:Addr}{kvs more:List (Key×V)}{Q:Value→Shared→Prop}(I:Inv X pins σ H s) (ea:H a=some (.dK kvs)) (eb:H b=some (.dK more)) (ne:a≠b) (hz:kvs.length+more.length≤sizeLine)
  (h:∀ s',Inv X pins σ (upd H a (.dK (jW kvs more))) s'→Q .none s'):wpAny (model X.prog X.w) A (call (.builtin "dict.update") [.ref a,.ref b]) Q E s:=by
 obtain ⟨z,hd,vs,rel,dd⟩:=ua I.hok ea
 obtain ⟨z2,hd2,yd,Lu,dd2⟩:=ua I.hok eb
 refine call_meetsIn PySem.F.slot_dict_update dd.typeIs PySem.F.entry_dict_update (PySem.F.args_dict_update_2 _ _) (meets_dict_update (cE X.prog X.w) a b ne hd2) ⟨vs,yd,dd,dd2,by rw [←rel.length,←Lu.length];exact hz,fun h' uP _ hs=>h _ ?_⟩
 have he:∃ q,h'.get? a=some q:=let ⟨q,_,_,hq,_⟩:=uP;⟨q,hq⟩
 exact rE (t':=s.toks) I (by rw [ea];exact True.intro) hs he (Ba (Nat.le_trans (mL _ _) hz) hd (Lu.merge rel) uP)
noncomputable def Pb (td ty:TE):TE:=fun σ H Q=>td σ H fun x H1=>∃ a,x=.ref a∧KJ H1 a∧ty σ H1 fun y H2=>∃ b kvs more,y=.ref b∧a≠b∧H2 a=some (.dK kvs)∧H2 b=some (.dK more)∧kvs.length+more.length≤sizeLine∧Q .aP (upd H2 a (.dK (jW kvs more)))
theorem HY {X:Cx}{o e:Expr}{apos cpos:Pos}{td ty:TE}(ho:PE X o td) (he:PE X e ty) (m:M1 X o "update" apos e cpos):PE X (.Call (.Attribute o "update" apos) [e] [] cpos) (Pb td ty):=by
 intro pins s σ H Q I h
 refine wpAny_Call_method m.base m.few m.line PySem.F.plainAttrs_dict PySem.F.slot_dict_update PySem.F.type_dict_update (bJ (ho pins s σ H _ I h) fun u s1 ⟨x,H1,I1,rx,a,ex,d,q1⟩=>?_)
 subst ex
 obtain rfl:u=Value.ref a:=rx
 obtain ⟨t1,t2,_⟩:=Bc I1 d
 refine ⟨t1,t2,?_⟩
 rw [m.trees]
 refine Calls.callWith_builtin rfl (Calls.evalArgs_plain (Calls.spliced_cons (bJ (he pins s1 σ H1 _ I1 q1) fun iv s2 ⟨y,H2,I2,ry,b,kvs,more,ey,ne,ea,eb,hz,q2⟩=>Calls.spliced_nil ?_)))
 subst ey
 obtain rfl:iv=Value.ref b:=ry
 exact O9 I2 ea eb ne hz fun s3 I3=>⟨.aP,_,I3,rfl,q2⟩
end L2
namespace Sm
open PySem PySem.Spec PyProof.Rows L2 PySem.SeqAt
open Ev (D O Hh Fr R aR E Es Eo T S Ss Fl Src bU bQ TY BI ME)
theorem sZ:∀ (m k:List (Int×List Nat)),jW (dM k) (dM m)=dM (Ev.cY k m)
 | [],k=>rfl
 | p :: m,k=>by
  show jW (putK (dM k) (Sum.inl p.1) (V.str (aU p.2))) (dM m)=_
  rw [x8];exact sZ m _
theorem tw:∀ {m k:List (Int×List Nat)}{p:Int×List Nat},p∈Ev.cY k m→p∈k∨∃ q∈m,q.2=p.2
 | [],k,p,h=>.inl h
 | q :: m,k,p,h=>by
  have h:p∈Ev.cY (Ev.cW k q.1 q.2) m:=h
  rcases tw h with h | ⟨q',h1,h2⟩
  ·rcases yc h with h | h
   ·exact .inl h
   ·exact .inr ⟨q,.head _,h.symm⟩
  ·exact .inr ⟨q',.tail _ h1,h2⟩
theorem DB {h h' h0:Hh}{x y:D}(e:Ev.ue x y h h0=some h'):∃ n m k0 k j,x=.ref n∧y=.ref m∧h0[n]?=some (.dct k0)∧h[n]?=some (.dct k)∧h[m]?=some (.dct j)∧n≠m∧k.length+j.length≤Ev.big∧h'=h.set n (.dct (Ev.cY k j)):=by
 unfold Ev.ue at e
 split at e
 ·rename_i n m
  split at e
  ·rename_i k0 k j e0 e1 e2
   split at e
   ·rename_i hc
    cases e
    refine ⟨n,m,k0,k,j,rfl,rfl,?_,e1,e2,hc.1,hc.2,rfl⟩
    simp only [Ev.eT] at e0
    split at e0
    ·rename_i z;cases e0;exact z
    ·cases e0
   ·cases e
  ·cases e
 ·cases e
section
variable {G:Tb}{n:Nat}{sc:Scope}{N:List Str}{df:Bool}{m:List Nat}{a b c:E}{xa xb xc:Expr}{pos:Pos}
theorem HZ {apos p2:Pos}(ha:JE G n sc N df m a xa) (hb:JE G n sc N df m b xb) (hM:∀ X:Cx,M1 X xa "update" apos xb p2:=by intro X;exact ⟨rfl,rfl,rfl,rfl⟩)
  (hs:∀ env:Env,swapsWith (.Call (.Attribute xa "update" apos) [xb] [] p2) none pos.line env=pure false:=by intro _;rfl):JS G n sc N df m (.pN a b) (.Expr (.Call (.Attribute xa "update" apos) [xb] [] p2) pos):=fun X g=>PS.of (xO (HY (ha X g) (hb X g) (hM X)) (hs _)) fun Q s H q=>by
 obtain ⟨r,fr,h,fl,aj,h',sr,hr,e,q⟩:=q
 simp only [Ev.ex,Ev.uS] at e
 obtain ⟨x,h1,e1,e⟩:=Ev.ah e
 obtain ⟨y,h2,e2,e⟩:=Ev.ah e
 split at e
 ·rename_i h3 e3
  cases e
  obtain ⟨i,j,k0,k,l,rfl,rfl,y0,y1,y2,ne,hl,rfl⟩:=DB e3
  refine ⟨r,fr,h,.ref i,h1,sr,hr,e1,fun v H1 r1 v1 hr1 f1=>?_⟩
  obtain ⟨p0,w1,w2,w3⟩:=hr1.dct y0
  obtain ⟨p,rfl,z4⟩:=id v1
  rw [w1] at z4;cases z4
  refine ⟨p0,rfl,.inl ⟨_,.inl w2⟩,r1,fr,h1,.ref j,h2,sr.mono f1,hr1,e2,fun u H2 r2 v2 hr2 f2=>?_⟩
  obtain ⟨p1,x1,x2,x3⟩:=hr2.dct y1
  have x4:=f2.pre _ _ w1
  rw [x1] at x4;cases x4
  obtain ⟨p3,x5,x6,x7⟩:=hr2.dct y2
  obtain ⟨p4,rfl,z5⟩:=id v2
  rw [x5] at z5;cases z5
  have V5:p0≠p3:=fun z=>ne (by subst z;exact hr2.kj i j p0 k l x1 x5 y1 y2)
  refine ⟨p3,_,_,rfl,V5,x2,x6,?_,?_⟩
  ·unfold dM;rw [List.length_map,List.length_map,←jk];exact hl
  rw [sZ]
  have fp:=Fm.dput (K:=X.K) (ws:=dM (Ev.cY k l)) x2 (List.mem_of_getElem? x1)
  exact q _ _ r2 (((sr.mono f1).mono f2).mono fp) (hr2.dput y1 x1 x2 fun p hp=>(tw hp).elim (x3 p) fun ⟨q,hq,z⟩=>by rw [←z];exact x7 q hq) ((f1.trans f2).trans fp)
 ·cases e
theorem DC {P:aR}{w i x y f:Nat}{ss:Ss}{fr:Fr}{h:Hh}:Ev.exs P w (.cons (.jz i x y f) ss) fr h=Ev.exs P w (.cons (.set i .gW) (.cons (.for (.one x) (.seq (.v y)) (.cons (.pN (.v i) (.cl f (.cons (.v x) .nil))) .nil)) ss)) fr h:=by
 conv=>lhs;rw [Ev.exs,Ev.ex]
 conv=>rhs;rw [Ev.exs,Ev.ex,Ev.ev]
 simp only [Ev.ak]
 rw [Ev.exs,Ev.ex]
 congr 2
 funext s h1
 congr 1
 funext d ao h2
 cases Ev.bz (.one x) d ao with
 | none=>rfl
 | some bG=>
  simp only [Ev.exs,Ev.ex]
  cases Ev.uS P (.v i) (.cl f (.cons (.v x) .nil)) bG h2 with
  | bad=>rfl
  | ok p h3=>
   obtain ⟨g,q⟩:=p
   cases g <;> rfl
theorem DE {i x y f:Nat}{ss:Ss}{s1 s2:Stmt}{xs:List Stmt}(h:jY G n sc N df m (.cons (.set i .gW) (.cons (.for (.one x) (.seq (.v y)) (.cons (.pN (.v i) (.cl f (.cons (.v x) .nil))) .nil)) ss)) (s1 :: s2 :: xs)):jY G n sc N df m (.cons (.jz i x y f) ss) (s1 :: s2 :: xs):=fun X g=>iE.of (h X g) fun Q s H q=>by
 obtain ⟨r,fr,h,fl,aj,h',sr,hr,e,q⟩:=q
 rw [DC] at e
 exact ⟨r,fr,h,fl,aj,h',sr,hr,e,q⟩
end
end Sm
set_option maxRecDepth 100000
namespace Sm
open PySem PySem.Spec PyProof.Rows L2
open Ev (D O Hh Fr R aR E Es Eo T S Ss Fl Src bU bQ TY BI ME)
theorem rJ (env:Env):∀ (names:List (Str×NameKind)) (acc:List (Str×Addr)),(∀ x,(x,NameKind.free)∈names→∃ c,env.cells.lookup x=some c)→(∀ x c,acc.lookup x=some c→env.cells.lookup x=some c)→
  ∃ cl,(forIn names acc (fun (x:Str×NameKind) cs=>if (x.2==NameKind.free)=true then (do let c ←cellOf env x.1;pure (ForInStep.yield ((x.1,c) :: cs))) else pure (ForInStep.yield cs)):Sem (List (Str×Addr)))=pure cl∧
   (∀ x c,cl.lookup x=some c→env.cells.lookup x=some c)∧(∀ x,(x,NameKind.free)∈names→(cl.lookup x).isSome=true)∧(∀ x,(acc.lookup x).isSome=true→(cl.lookup x).isSome=true)
 | [],acc,_,h2=>⟨acc,rfl,h2,(fun x h=>by simp at h),fun _ h=>h⟩
 | (y,k) :: r,acc,h1,h2=>by
  by_cases hk:k=.free
  ·subst hk
   obtain ⟨c,hc⟩:=h1 y (List.mem_cons_self ..)
   have h2':∀ x c',((y,c) :: acc).lookup x=some c'→env.cells.lookup x=some c':=fun x c' e=>by
    rw [List.lookup_cons] at e
    split at e
    ·rename_i hx
     have hx':x=y:=by simpa using hx
     cases e;rw [hx'];exact hc
    ·exact h2 x c' e
   obtain ⟨cl,e1,e2,e3,e4⟩:=rJ env r ((y,c) :: acc) (fun x hx=>h1 x (List.mem_cons_of_mem _ hx)) h2'
   refine ⟨cl,?_,e2,fun x hx=>?_,fun x hx=>e4 x ?_⟩
   ·rw [List.forIn_cons]
    simp only [beq_self_eq_true,if_true]
    unfold cellOf
    rw [hc]
    exact e1
   ·rcases List.mem_cons.mp hx with z | z
    ·cases z
     exact e4 y (by simp [List.lookup_cons])
    ·exact e3 x z
   ·rw [List.lookup_cons]
    split
    ·rfl
    ·exact hx
  ·have hk':(k==NameKind.free)=false:=by simpa using hk
   obtain ⟨cl,e1,e2,e3,e4⟩:=rJ env r acc (fun x hx=>h1 x (List.mem_cons_of_mem _ hx)) h2
   refine ⟨cl,?_,e2,fun x hx=>?_,e4⟩
   ·rw [List.forIn_cons]
    simp only [hk',Bool.false_eq_true,if_false]
    exact e1
   ·rcases List.mem_cons.mp hx with z | z
    ·cases z;exact absurd rfl hk
    ·exact e3 x z
theorem Ia {scope:Scope}{env:Env}(h:∀ x,(x,NameKind.free)∈scope.names→∃ c,env.cells.lookup x=some c) :
  ∃ cl,closureFor scope env=pure cl∧(∀ x c,cl.lookup x=some c→env.cells.lookup x=some c)∧∀ x,(x,NameKind.free)∈scope.names→∃ c,cl.lookup x=some c:=by
 obtain ⟨cl,e1,e2,e3,_⟩:=rJ env scope.names [] h (fun x c e=>by simp at e)
 refine ⟨cl,?_,e2,fun x hx=>Option.isSome_iff_exists.mp (e3 x hx)⟩
 unfold closureFor
 show (forIn scope.names [] _ >>= fun cs=>pure cs:Sem (List (Str×Addr)))=pure cl
 have e:(forIn scope.names [] (fun (x:Str×NameKind) cs=>if (x.2==NameKind.free)=true then (do let c ←cellOf env x.1;pure (ForInStep.yield ((x.1,c) :: cs))) else pure (ForInStep.yield cs)):Sem (List (Str×Addr)))=pure cl:=e1
 exact congrArg (fun t:Sem (List (Str×Addr))=>t >>= fun cs=>pure cs) e
noncomputable def iK (sc scope:Scope):Scope:={ scope with names:=scope.names.map fun (n,k)=>if (k==.free&&sc.kind==.function&&sc.names.lookup n==some .cell) then (n,.cell) else (n,k)}
theorem rK {env:Env}{sc scope:Scope}(h:env.scope=sc):relabel scope env=iK sc scope:=by
 subst h;rfl
theorem tB {sc:Scope}:∀ {names:List (Str×NameKind)}{x:Str},(∀ y∈names,y.2≠.cell)→
  ((names.map fun (n,k)=>if (k==NameKind.free&&sc.kind==.function&&sc.names.lookup n==some .cell) then (n,NameKind.cell) else (n,k)).lookup x=some .cell∨
   (names.map fun (n,k)=>if (k==NameKind.free&&sc.kind==.function&&sc.names.lookup n==some .cell) then (n,NameKind.cell) else (n,k)).lookup x=some .free)→(x,NameKind.free)∈names
 | [],_,_,h=>by rcases h with h | h <;> simp at h
 | (n,k) :: r,x,hc,h=>by
  have ih:=@tB sc r x fun y hy=>hc y (List.mem_cons_of_mem _ hy)
  simp only [List.map_cons] at h
  have nk:∀ (k':NameKind),(if (k==NameKind.free&&sc.kind==.function&&sc.names.lookup n==some .cell) then (n,NameKind.cell) else (n,k))=(n,k')→k'=.cell∨k'=.free→k=.free:=fun k' e hk'=>by
   split at e
   ·rename_i z
    simp only [Bool.and_eq_true,beq_iff_eq] at z
    exact z.1.1
   ·cases e
    rcases hk' with z | z
    ·exact absurd z (hc (n,_) (List.mem_cons_self ..))
    ·exact z
  generalize hg:(if (k==NameKind.free&&sc.kind==.function&&sc.names.lookup n==some .cell) then (n,NameKind.cell) else (n,k))=p at h nk
  have hp:p.1=n:=by rw [←hg];split <;> rfl
  obtain ⟨p1,p2⟩:=p
  simp only at hp
  subst hp
  simp only [List.lookup_cons] at h
  cases hx:(x==p1) with
  | true=>
   have hx':x=p1:=by simpa using hx
   rw [hx] at h
   have:=nk p2 rfl (by rcases h with h | h <;> simp at h <;> simp [h])
   subst this
   rw [hx']
   exact List.mem_cons_self ..
  | false=>
   rw [hx] at h
   exact List.mem_cons_of_mem _ (ih h)
section
variable {prog:Program}{w:World}{A:Around}{R':Result→Shared→Prop}{s:Shared}
abbrev fL:Value→Shared→Prop:=fun _ _=>False
noncomputable def ye (ifs:List Expr) (env:Env):Sem Bool:=forIn ifs true fun c r=>if r=true then do let ok ←isTrue c env (eval c env);pure (ForInStep.yield ok) else pure (ForInStep.yield r)
theorem uZ {elt target iter:Expr}{ifs:List Expr}{scope:Scope}{pos:Pos}{it acc:Value}{env:Env}(I:Nat→Shared→Prop)
  (turn:∀ n s,I n s→wpAny (model prog w) A (pyNext it) (fun r s₁=>match r with
   | none=>R' (.ok .next) s₁
   | some v=>wpAny (model prog w) A (letOwnedTupleGo target it v) (fun _ s₂=>wpAny (model prog w) A (assign target env v) (fun _ s₃=>
     wpAny (model prog w) A (ye ifs env) (fun ok s₄=>
      if ok=true then wpAny (model prog w) A (eval elt env) (fun x s₅=>
       wpAny (model prog w) A (call (.builtin "list.append") [acc,x]) (fun _ s₆=>∃ m,m<n∧I m s₆) fL s₅) fL s₄
      else ∃ m,m<n∧I m s₄) fL s₃) fL s₂) fL s₁) fL s)
  (n:Nat) (h:I n s):codeAny (model prog w) A (.compLoop (.ListComp elt [⟨target,iter,ifs,0⟩] scope pos) 0 it acc env) R' s:=by
 refine codeAny_loop rfl I (fun n s hI=>?_) n h
 show wpAny _ A ((compTurn (.ListComp elt [⟨target,iter,ifs,0⟩] scope pos) 0 it acc env).onRaise (fun x=>do noteFrame x env;theTreesLotGoes x)) _ _ s
 refine wpAny_noted ?_
 rw [compTurn_list]
 refine wpAny_bind (wpAny_standAt (wpAny_bind (wpAny_mono (turn n s hI) (fun r s₁ h₁=>?_) fun _ _ h'=>h'.elim)))
 cases r with
 | none=>exact wpAny_pure h₁
 | some v=>
  refine wpAny_bind (wpAny_mono h₁ (fun _ s₂ h₂=>?_) fun _ _ h'=>h'.elim)
  refine wpAny_bind (wpAny_mono h₂ (fun _ s₃ h₃=>wpAny_bind (wpAny_mono h₃ (fun ok s₄ h₄=>?_) fun _ _ h'=>h'.elim)) fun _ _ h'=>h'.elim)
  cases ok with
  | false=>exact wpAny_pure ⟨rfl,h₄⟩
  | true=>
   exact wpAny_bind (wpAny_bind (wpAny_mono h₄ (fun x s₅ h₅=>wpAny_bind (wpAny_mono h₅ (fun _ s₆ h₆=>wpAny_pure (wpAny_pure ⟨rfl,h₆⟩)) fun _ _ h'=>h'.elim)) fun _ _ h'=>h'.elim))
end
inductive Rm (K:PySem.W.Frag) (m:List Nat) (P:aR) (e:Eo) (s:L2.St) (H:Hp) (Q:Bool→Hp→Prop):Prop
 | mk (r:List Addr) (fr:Fr) (h:Hh) (k:Bool) (h':Hh) (c0:SR K m H r fr s) (c1:HR K H r h) (c2:Ev.iH P e fr h=.ok k h') (c3:∀ H' r',HR K H' r' h'→Fm K r r' H H'→Q k H'):Rm K m P e s H Q
noncomputable def JC (G:Tb) (n:Nat) (sc:Scope) (N:List Str) (df:Bool) (m:List Nat) (e:Eo) (ifs:List Expr):Prop:=∀ X,Good G n sc N df X→∀ (pins:List (Addr×Obj)) (s:Shared) (σ:L2.St) (H:Hp) (Q:Bool→Hp→Prop),Inv X pins σ H s→
 Rm X.K m (Ev.run G.F G.w n) e σ H Q→wpAny (model X.prog X.w) X.A (ye ifs X.env) (TP X pins σ Q) X.xe s
section
variable {G:Tb}{n:Nat}{sc:Scope}{N:List Str}{df:Bool}{m:List Nat}{a b c:E}{xa xb xc tg:Expr}{pos:Pos}
theorem Pc:JC G n sc N df m .no []:=fun X g pins s σ H Q I q=>by
 obtain ⟨r,fr,h,k,h',sr,hr,e,q⟩:=q
 simp only [Ev.iH] at e
 cases e
 exact wpAny_pure ⟨H,I,q H r hr .refl⟩
theorem Lv (hc:JT G n sc N df m a xa):JC G n sc N df m (.yes a) [xa]:=fun X g pins s σ H Q I q=>by
 obtain ⟨r,fr,h,k,h',sr,hr,e,q⟩:=q
 simp only [Ev.iH] at e
 exact wpAny_tests_one (hc X g pins s σ H Q I ⟨r,fr,h,k,h',sr,hr,e,q⟩)
end
noncomputable def qi (X:Cx) (N':List Str) (scope:Scope) (cl:List (Str×Addr)) (C:Addr) (s3:Shared) (H3:Hp) (fp:List Addr):Cx:=
 { X with N:=N',s₀:=s3,H₀:=H3,env:=compEnvC scope cl C X.env,outer:=X.stack,stack:=X.stack,ex:=fp,fn:=fun _=>false,pn:=[],xe:=fun _ _=>False }
noncomputable def namesOk (sc:Scope) (N:List Str) (m:List Nat) (scope:Scope) (t:T) (N':List Str) (m':List Nat):Prop:=m'.length=N'.length∧
 ∀ (j:Nat) x i,N'[j]?=some x→m'[j]?=some i→i∈Ev.slots t∨((x,NameKind.free)∈scope.names∧∃ jo:Nat,N[jo]?=some x∧m[jo]?=some i)
noncomputable def u0 (sc:Scope) (N:List Str) (m:List Nat) (scope:Scope) (t:T) (N':List Str) (m':List Nat):Bool:=m'.length==N'.length&&
 (List.range N'.length).all fun j=>match N'[j]?,m'[j]? with
  | some x,some i=>(Ev.slots t).contains i || (scope.names.contains (x,NameKind.free)&&(List.range N.length).any fun jo=>N[jo]?==some x&&m[jo]?==some i)
  | _,_=>true
theorem namesOk.of {sc:Scope}{N:List Str}{m:List Nat}{scope:Scope}{t:T}{N':List Str}{m':List Nat}(h:u0 sc N m scope t N' m'=true):namesOk sc N m scope t N' m':=by
 unfold u0 at h
 rw [Bool.and_eq_true] at h
 refine ⟨by simpa using h.1,fun j x i e1 e2=>?_⟩
 have hj:j<N'.length:=(List.getElem?_eq_some_iff.mp e1).1
 have q:=List.all_eq_true.mp h.2 j (List.mem_range.mpr hj)
 rw [e1,e2] at q
 simp only [Bool.or_eq_true,Bool.and_eq_true,List.any_eq_true] at q
 rcases q with q | ⟨q1,jo,_,q2⟩
 ·exact .inl (by simpa using q)
 ·exact .inr ⟨by simpa using q1,jo,by simpa using q2.1,by simpa using q2.2⟩
theorem wY {t:T}{d:D}{fr ao:Fr}(e:Ev.bz t d fr=some ao) {i:Nat}(hi:i∉Ev.slots t):ao[i]?=fr[i]?:=by
 have go:∀ (l:List Nat) (ds:List D) (fr ao:Fr),Ev.cQ l ds fr=some ao→i∉l→ao[i]?=fr[i]?:=by
  intro l
  induction l with
  | nil=>
   intro ds fr ao e _
   cases ds with
   | nil=>cases e;rfl
   | cons _ _=>cases e
  | cons j l ih=>
   intro ds fr ao e hj
   cases ds with
   | nil=>cases e
   | cons d ds=>
    rw [ih ds _ _ e fun z=>hj (List.mem_cons_of_mem _ z),List.getElem?_set_ne]
    intro z
    exact hj (by rw [z];exact List.mem_cons_self ..)
 cases t with
 | one j=>
  cases e
  rw [List.getElem?_set_ne]
  intro z
  exact hi (by simp [Ev.slots,z])
 | many l=>
  cases d with
  | tup ds=>exact go l ds fr ao e hi
  | _=>cases e
theorem SR.unbind {K:PySem.W.Frag}{m:List Nat}{H:Hp}{r:List Addr}{t:T}{d:D}{fr ao:Fr}{s:L2.St}(sr:SR K m H r ao s) (e:Ev.bz t d fr=some ao) (hu:Ev.undef t fr=true):SR K m H r fr s:=by
 refine ⟨sr.len,fun j i d' e1 e2=>sr.sl j i d' e1 ?_⟩
 rw [wY e]
 ·exact e2
 ·intro hi
  have q:=List.all_eq_true.mp hu i hi
  rw [e2] at q
  cases q
end Sm
set_option maxRecDepth 100000
namespace Sm
open PySem PySem.Spec PyProof.Rows L2
open Ev (D O Hh Fr R aR E Es Eo T S Ss Fl Src bU bQ TY BI ME)
structure m9 (sc scope:Scope):Prop where
 kind:scope.kind=.function
 Br:∀ y∈scope.names,y.2≠.cell
 free:∀ x,(x,NameKind.free)∈scope.names→(sc.names.lookup x=some .cell∨sc.names.lookup x=some .free)∧scope.names.lookup x=some .free
 loc:∀ y∈scope.names,y.2=.local→scope.names.lookup y.1=some .local
noncomputable def Lx (sc scope:Scope):Bool:=scope.kind==.function&&scope.names.all fun y=>y.2 != .cell&&(y.2 != .free || ((sc.names.lookup y.1==some .cell || sc.names.lookup y.1==some .free)&&scope.names.lookup y.1==some .free))&&(y.2 != .local || scope.names.lookup y.1==some .local)
theorem m9.of {sc scope:Scope}(h:Lx sc scope=true):m9 sc scope:=by
 unfold Lx at h
 rw [Bool.and_eq_true] at h
 have q:∀ y∈scope.names,y.2≠.cell∧(y.2=.free→(sc.names.lookup y.1=some .cell∨sc.names.lookup y.1=some .free)∧scope.names.lookup y.1=some .free)∧(y.2=.local→scope.names.lookup y.1=some .local):=fun y hy=>by
  have z:=List.all_eq_true.mp h.2 y hy
  simp only [Bool.and_eq_true,Bool.or_eq_true,bne_iff_ne,beq_iff_eq,ne_eq] at z
  refine ⟨z.1.1,fun e=>?_,fun e=>?_⟩
  ·rcases z.1.2 with w | w
   ·exact absurd e w
   ·exact w
  ·rcases z.2 with w | w
   ·exact absurd e w
   ·exact w
 exact ⟨by simpa using h.1,fun y hy=>(q y hy).1,fun x hx=>(q _ hx).2.1 rfl,fun y hy=>(q y hy).2.2⟩
theorem tD {sc:Scope}:∀ {names:List (Str×NameKind)}{x:Str},names.lookup x=some .free→
  ((names.map fun (n,k)=>if (k==NameKind.free&&sc.kind==.function&&sc.names.lookup n==some .cell) then (n,NameKind.cell) else (n,k)).lookup x=some .cell∨
   (names.map fun (n,k)=>if (k==NameKind.free&&sc.kind==.function&&sc.names.lookup n==some .cell) then (n,NameKind.cell) else (n,k)).lookup x=some .free)
 | [],_,h=>by simp at h
 | (n,k) :: r,x,h=>by
  have ih:=@tD sc r x
  simp only [List.map_cons]
  simp only [List.lookup_cons] at h
  by_cases hc:(k==NameKind.free&&sc.kind==.function&&sc.names.lookup n==some .cell)=true
  ·rw [if_pos hc]
   simp only [List.lookup_cons]
   cases hx:(x==n) with
   | true=>exact .inl rfl
   | false=>rw [hx] at h;exact ih h
  ·rw [if_neg hc]
   simp only [List.lookup_cons]
   cases hx:(x==n) with
   | true=>rw [hx] at h;exact .inr h
   | false=>rw [hx] at h;exact ih h
section
variable {G:Tb}{n:Nat}{sc scope:Scope}{N N':List Str}{df:Bool}{m m':List Nat}{elt:E}{t:T}{it:Ev.It}{cond:Eo}{xe xi tg:Expr}{ifs:List Expr}{pos:Pos}{X:Cx}
theorem Good.comp (g:Good G n sc N df X) {cl:List (Str×Addr)}{C:Addr}{s3:Shared}{H3:Hp}{fp:List Addr}:Good G n (iK sc scope) N' false (qi X N' scope cl C s3 H3 fp):=
 ⟨rfl,rK g.sc,g.calm,(fun h=>by cases h),g.room,rfl,g.fn,g.bl,g.cs,g.dk⟩
theorem Ib {pins:List (Addr×Obj)}{σ:L2.St}{H3:Hp}{s3:Shared}(g:Good G n sc N df X) (I:Inv X pins σ H3 s3) (hs:m9 sc scope) {cl:List (Str×Addr)}(jA:∀ x c,cl.lookup x=some c→X.env.cells.lookup x=some c)
  (nc:∀ x,(x,NameKind.free)∈scope.names→∃ c,cl.lookup x=some c) {fp:List Addr} (hfp:∀ b∈fp,iF X pins H3 b) (hfl:∀ b∈fp,b<s3.heap.objs.size):(qi X N' scope cl s3.heap.objs.size s3 H3 fp).Ok where
 mod:=I.ok.mod
 kind:=hs.kind
 glob:=I.ok.glob
 blt:=I.ok.blt
 above:=Nat.le_refl _
 inj:=fun x y c h1 h2=>I.ok.inj x y c (jA x c h1) (jA y c h2)
 has:=fun x h=>by
  have h':(iK sc scope).names.lookup x=some .cell∨(iK sc scope).names.lookup x=some .free:=by
   rw [←rK (scope:=scope) g.sc];exact h
  exact nc x (tB hs.Br h')
 xG:=fun x c h=>by cases h
 hd:=I.ok.hd
 frames:=I.ok.frames
 stk:=.inl rfl
 Fx:=fun b hb=>⟨Nat.ne_of_lt (hfl b hb),fun x c e=>(hfp b hb).2.2.2.2.1 x c (jA x c e)⟩
 bs:=I.bs
 sF:=Nat.le_trans I.ok.sF I.sz
 rj:=fun b o e hb=>by
  rcases (hfp b hb).2.2.2.1 with z | z
  ·exact I.ok.rj b o e z
  ·have:=Heap.lt_size (I.ok.bs b o e).1
   exact absurd (Nat.lt_of_lt_of_le this z) (Nat.lt_irrefl _)
 rm:=fun b hb z=>by
  rcases List.mem_cons.mp (I.uD b z) with q | q
  ·exact (hfp b hb).2.1 q
  ·exact (hfp b hb).2.2.1 q
 jx:=I.stack
 uB:=I.xH
open Classical in
noncomputable def sig (scope:Scope) (N N':List Str) (m':List Nat) (K:PySem.W.Frag) (H:Hp) (r:List Addr) (fr:Fr) (σ:L2.St):L2.St:=
 (List.range N'.length).map fun j=>if h:∃ v,∃ x i,N'[j]?=some x∧m'[j]?=some i∧(x,NameKind.free)∈scope.names∧(∃ jo:Nat,N[jo]?=some x∧σ[jo]?=some (some v))∧∀ d,fr[i]?=some (some d)→RV K H r d v then some h.choose else none
theorem Ly {K:PySem.W.Frag}{H:Hp}{r:List Addr}{fr:Fr}{σ:L2.St}{j:Nat}{v:V}(h:(sig scope N N' m' K H r fr σ)[j]?=some (some v)) :
  ∃ x i,N'[j]?=some x∧m'[j]?=some i∧(x,NameKind.free)∈scope.names∧(∃ jo:Nat,N[jo]?=some x∧σ[jo]?=some (some v))∧∀ d,fr[i]?=some (some d)→RV K H r d v:=by
 unfold sig at h
 rw [List.getElem?_map] at h
 cases e:(List.range N'.length)[j]? with
 | none=>rw [e] at h;cases h
 | some j'=>
  have:=getElem?_range' e
  subst this
  rw [e] at h
  simp only [Option.map_some,Option.some.injEq] at h
  split at h
  ·rename_i hh
   cases h
   exact hh.choose_spec
  ·cases h
theorem Lz {K:PySem.W.Frag}{H:Hp}{r:List Addr}{fr:Fr}{σ:L2.St}(sr:SR K m H r fr σ) (hn:namesOk sc N m scope t N' m') (hu:Ev.undef t fr=true):SR K m' H r fr (sig scope N N' m' K H r fr σ):=by
 refine ⟨by unfold sig;simp [hn.1],fun j i d e1 e2=>?_⟩
 have hj:j<N'.length:=by rw [←hn.1];exact (List.getElem?_eq_some_iff.mp e1).1
 have hx:N'[j]?=some N'[j]:=List.getElem?_eq_getElem hj
 rcases hn.2 j _ i hx e1 with hi | ⟨h1,jo,h2,h3⟩
 ·exfalso
  have q:=List.all_eq_true.mp hu i hi
  rw [e2] at q
  cases q
 ·obtain ⟨v,h4,h5⟩:=sr.sl jo i d h3 e2
  have ex:∃ v,∃ x i,N'[j]?=some x∧m'[j]?=some i∧(x,NameKind.free)∈scope.names∧(∃ jo:Nat,N[jo]?=some x∧σ[jo]?=some (some v))∧∀ d,fr[i]?=some (some d)→RV K H r d v:=
   ⟨v,N'[j],i,hx,e1,h1,⟨jo,h2,h4⟩,fun d' e'=>by rw [e2] at e';cases e';exact h5⟩
  refine ⟨ex.choose,?_,?_⟩
  ·unfold sig
   rw [List.getElem?_map,List.getElem?_range hj]
   simp only [Option.map_some]
   rw [dif_pos ex]
  ·obtain ⟨x',i',q1,q2,q3,q4,q5⟩:=ex.choose_spec
   rw [e1] at q2;cases q2
   exact q5 d e2
theorem DF {pins:List (Addr×Obj)}{σ:L2.St}{H3:Hp}{s3:Shared}(g:Good G n sc N df X) (I:Inv X pins σ H3 s3) (hs:m9 sc scope) {cl:List (Str×Addr)}(jA:∀ x c,cl.lookup x=some c→X.env.cells.lookup x=some c)
  (nc:∀ x,(x,NameKind.free)∈scope.names→∃ c,cl.lookup x=some c) {fp:List Addr} (hfp:∀ b∈fp,iF X pins H3 b) (hfl:∀ b∈fp,b<s3.heap.objs.size) {h1:Heap} {tk:Nat} {mm:Str→Option Value}
  (hns:h1.Ns s3.heap.objs.size mm) (hk:∀ b o,s3.heap.get? b=some o→h1.get? b=some o) {r:List Addr} {fr:Fr} :
  Inv (qi X N' scope cl s3.heap.objs.size s3 H3 fp) [] (sig scope N N' m' X.K H3 r fr σ) H3 { s3 with heap:=h1,toks:=tk }:=by
 refine ⟨Ib g I hs jA nc hfp hfl,rfl,I.bare,Un.kept hk,⟨mm,hns,fun j x v e1 e2 e3=>?_⟩,fun x c e=>?_,I.hok.fresh (Nat.le_refl _),fun x c e=>I.jc x c (jA x c e),(fun p hp=>by simp [qi] at hp),I.hok.kept hk,(by unfold sig;simp [qi])⟩
 ·obtain ⟨x',i,q1,q2,q3,⟨jo,q4,q5⟩,_⟩:=Ly e2
  have LA:N'[j]?=some x:=e1
  rw [LA] at q1;cases q1
  obtain ⟨f1,f2⟩:=hs.free x q3
  obtain ⟨mO,Xu,V6⟩:=I.loc
  obtain ⟨u,ru,lk⟩:=V6 jo x v (by rw [g.nm];exact q4) q5 (by rw [g.sc];rcases f1 with z | z <;> simp [AL,z])
  refine ⟨u,ru,?_⟩
  have hkd:X.env.kindOf x=some .cell∨X.env.kindOf x=some .free:=by unfold Env.kindOf;rw [g.sc];exact f1
  rcases lk with ⟨z,_⟩ | ⟨_,c,hc,hcell⟩
  ·rcases hkd with w | w <;> (rw [z] at w;cases w)
  ·obtain ⟨c',hc'⟩:=nc x q3
   have:c'=c:=by
    have:=jA x c' hc'
    rw [hc] at this;cases this;rfl
   subst this
   refine .inr ⟨?_,c',hc',?_⟩
   ·show (relabel scope X.env).names.lookup x=some .cell∨(relabel scope X.env).names.lookup x=some .free
    rw [rK (scope:=scope) g.sc]
    exact tD f2
   ·obtain ⟨o,ho,hd⟩:=hcell
    exact ⟨o,hk _ _ ho,hd⟩
 ·obtain ⟨v,o,ho,hd⟩:=I.cell x c (jA x c e)
  exact ⟨v,o,hk _ _ ho,hd⟩
end
end Sm
set_option maxRecDepth 100000
namespace Sm
open PySem PySem.Spec PyProof.Rows L2
open Ev (D O Hh Fr R aR E Es Eo T S Ss Fl Src bU bQ TY BI ME)
section
variable {G:Tb}{n:Nat}{sc scope:Scope}{N N':List Str}{df:Bool}{m m':List Nat}{elt:E}{t:T}{it:Ev.It}{cond:Eo}{xe xi tg:Expr}{ifs:List Expr}{pos:Pos}{X:Cx}
noncomputable def zz (P:aR) (elt:E) (t:T) (cond:Eo) (fr:Fr):D→Hh→R (Option D):=fun d h2=>match Ev.bz t d fr with
 | none=>.bad
 | some ao=>(Ev.iH P cond ao h2).bind fun k h3=>if k then (Ev.ev P elt ao h3).bind fun x h4=>.ok (some x) h4 else .ok none h3
theorem rL (P:aR) (elt:E) (t:T) (it:Ev.It) (cond:Eo) (fr:Fr) (h:Hh):Ev.ev P (.comp elt t it cond) fr h=(Ev.cF P it fr h).bind fun s h1=>if Ev.undef t fr then
  (Ev.cO (zz P elt t cond fr) s.2 s.1 h1).bind fun ds h2=>Ev.alloc ds h2 else .bad:=by
 simp only [Ev.ev]
 rfl
noncomputable def CI (Y:Cx) (m':List Nat) (f:D→Hh→R (Option D)) (fr:Fr) (src:Src) (fp:List Addr) (tn:Nat→Heap→Prop) (r2:List Addr) (H2:Hp) (Dd:Addr) (ds:List D) (h2:Hh) (k:Nat) (s:Shared):Prop:=
 ∃ i oZ Hc rc hc dn vs rest,Inv Y [] oZ Hc s∧tn i s.heap∧(∀ b∈fp,Hc b=none)∧k=src.1.length - i∧i≤src.1.length∧
  SR Y.K m' Hc rc fr oZ∧HR Y.K Hc rc hc∧Fm Y.K r2 rc H2 Hc∧Hc Dd=some (.lst vs)∧Dd∉rc∧aI Y.K Hc rc dn vs∧Ev.cO f src.2 (src.1.drop i) hc=.ok rest h2∧dn++rest=ds
section
variable {Y:Cx}{sc':Scope}{J:L2.It}{fp:List Addr}{ita:Addr}{tn:Nat→Heap→Prop}{fr:Fr}{src:Src}{r2:List Addr}{H2:Hp}{Dd:Addr}{ds:List D}{h2:Hh}
theorem zA (gC:Good G n sc' N' false Y) {α:Type}{tt:Sem α}{Q:α→Shared→Prop}{s:Shared}(hw:wpAny (model Y.prog Y.w) Y.A tt Q Y.xe s):wpAny (model Y.prog Y.w) Y.A tt Q fL s:=by rw [gC.xe] at hw;exact hw
theorem yf {i:Nat}{mQ:L2.St}{H9:Hp}{r9:List Addr}{h9:Hh}{dn:List D}{vs:List V}{rest':List D}{s9:Shared}{p:List (Addr×Obj)}{f:D→Hh→R (Option D)}(hlt:i<src.1.length) (I9:Inv Y ([]++p) mQ H9 s9) (bk:tn (i+1) s9.heap∧∀ b∈fp,H9 b=none) (q:SR Y.K m' H9 r9 fr mQ) (tE:HR Y.K H9 r9 h9) (fm:Fm Y.K r2 r9 H2 H9) (zB:H9 Dd=some (.lst vs)) (zC:Dd∉r9) (rv:aI Y.K H9 r9 dn vs) (e7:Ev.cO f src.2 (src.1.drop (i+1)) h9=.ok rest' h2) (ed:dn++rest'=ds) :
  ∃ k,k<src.1.length - i∧CI Y m' f fr src fp tn r2 H2 Dd ds h2 k s9:=
 ⟨src.1.length - (i+1),Nat.sub_lt_sub_left hlt (Nat.lt_succ_self i),i+1,mQ,H9,r9,h9,dn,vs,rest',I9.lO,bk.1,bk.2,rfl,hlt,q,tE,fm,zB,zC,rv,e7,ed⟩
theorem LB {i:Nat}{mQ:L2.St}{H9:Hp}{r9:List Addr}{h9:Hh}{dn:List D}{vs:List V}{xd:D}{v10:V}{FQ:Value}{rest':List D}{s9:Shared}{p:List (Addr×Obj)}{f:D→Hh→R (Option D)}(hlt:i<src.1.length) (mR:H2 Dd=none) (hsz:ds.length≤sizeLine) (gC:Good G n sc' N' false Y) (I9:Inv Y ([]++p) mQ H9 s9) (DG:RelV v10 FQ) (bk:∀ {σ':L2.St}{H':Hp}{s':Shared},Inv Y ([]++p) σ' H' s'→tn (i+1) s'.heap∧∀ b∈fp,H' b=none) (q:SR Y.K m' H9 r9 fr mQ) (tE:HR Y.K H9 r9 h9) (fm:Fm Y.K r2 r9 H2 H9) (o5:H9 Dd=some (.lst vs)) (u7:Dd∉r9) (rv:aI Y.K H9 r9 dn vs) (DH:RV Y.K H9 r9 xd v10) (e7:Ev.cO f src.2 (src.1.drop (i+1)) h9=.ok rest' h2) (ed:dn++xd :: rest'=ds) :
  wpAny (model Y.prog Y.w) Y.A (call (.builtin "list.append") [.ref Dd,FQ]) (fun _ FT=>∃ k,k<src.1.length - i∧CI Y m' f fr src fp tn r2 H2 Dd ds h2 k FT) fL s9:=by
 have hlen:vs.length<sizeLine:=by
  have h1:=rv.length
  have h2:=congrArg List.length ed
  simp at h2
  omega
 refine bJ (zA gC (sP _ s9 mQ H9 (.ref Dd) [v10] (.ref Dd) [FQ] (fun _ Rn=>Rn=upd H9 Dd (.lst (vs++[v10]))) I9 rfl (.cons DG .nil) ⟨Dd,vs,v10,rfl,rfl,o5,hlen,rfl⟩)) fun _ FT ⟨_,Rn,Rq,_,UI⟩=>?_
 subst UI
 refine yf (dn:=dn++[xd]) (vs:=vs++[v10]) hlt Rq (bk Rq) ?_ (tE.other o5 u7) (fm.other mR o5) fR u7 ?_ e7 ?_
 ·exact ⟨q.len,fun j i' d' a1 a2=>by
   obtain ⟨w,b1,b2⟩:=q.sl j i' d' a1 a2
   exact ⟨w,b1,b2.grow (fun _ _ z=>z) (iI o5)⟩⟩
 ·exact (rv.append (.cons DH .nil)).grow (fun _ _ z=>z) (iI o5)
 ·rw [←ed];simp
theorem Bs (gC:Good G n sc' N' false Y) (hg:JG G n sc' N' false m' t tg) (hc:JC G n sc' N' false m' cond ifs) (he:JE G n sc' N' false m' elt xe) (Tn:Turn Y.prog Y.w Y.K tg J fp ita tn) (lP:∀ {Hc:Hp},(∀ b∈fp,Hc b=none)→∀ b∈fp,iF Y [] Hc b)
  (hu:Ev.undef t fr=true) (hJ:rH Y.K r2 H2 src J) (mR:H2 Dd=none) (hsz:ds.length≤sizeLine) {R':Result→Shared→Prop}
  (UJ:∀ s6 oZ Hc rc vs,Inv Y [] oZ Hc s6→HR Y.K Hc rc h2→Fm Y.K r2 rc H2 Hc→Hc Dd=some (.lst vs)→Dd∉rc→aI Y.K Hc rc ds vs→R' (.ok .next) s6) {k:Nat} {s:Shared}
  (h:CI Y m' (zz (Ev.run G.F G.w n) elt t cond fr) fr src fp tn r2 H2 Dd ds h2 k s):codeAny (model Y.prog Y.w) Y.A (.compLoop (.ListComp xe [⟨tg,xi,ifs,0⟩] scope pos) 0 (.ref ita) (.ref Dd) Y.env) R' s:=by
 refine uZ (CI Y m' (zz (Ev.run G.F G.w n) elt t cond fr) fr src fp tn r2 H2 Dd ds h2) ?_ k h
 rintro k s5 ⟨i,oZ,Hc,rc,hc',dn,vs,rest,I5,xQ,mW,rfl,hle,Bo,sY,u9,o5,u7,Bt,e5,FU⟩
 rcases Nat.lt_or_ge i src.1.length with hlt | hge
 ·rw [List.drop_eq_getElem_cons hlt] at e5
  simp only [Ev.cO] at e5
  split at e5
  ·rename_i hst
   obtain ⟨hgo,_⟩:=hJ i Hc rc hc' sY u9 hst
   obtain ⟨g1,g2⟩:=hgo src.1[i] (List.getElem?_eq_getElem hlt)
   obtain ⟨o,h6,e6,e5⟩:=Ev.ah e5
   obtain ⟨rest',h7,e7,e5⟩:=Ev.ah e5
   cases e5
   refine bJ (Tn.item Y rfl rfl rfl gC.calm i [] s5 oZ Hc fL I5 (lP mW) xQ g1) fun rr s6 ⟨u,V7,h8⟩=>?_
   subst V7
   refine bJ h8 fun _ s7 ⟨x,H7,I7,rx,y7,LC,Rt⟩=>?_
   obtain ⟨r7,v7,Ru,yg⟩:=g2 x H7 y7
   obtain ⟨UK,UL⟩:=yg.zw o5 u7
   unfold zz at e6
   split at e6
   ·cases e6
   ·rename_i ao eb
    obtain ⟨kk,h9,e9,e6⟩:=Ev.ah e6
    have V8:=I7.pinned (lP Rt) (Tn.obj _ _ LC)
    refine bJ (zA gC (hg _ gC _ s7 oZ H7 x u (fun mQ H8=>H8=H7∧SR Y.K m' H7 r7 ao mQ) V8 rx ⟨r7,fr,hc',_,ao,Bo.mono yg,Ru,v7,eb,fun s' q=>⟨rfl,q⟩⟩)) fun _ s8 ⟨mQ,H8,I8,V9,FY⟩=>?_
    subst V9
    refine bJ (zA gC (hc _ gC _ s8 mQ _ (fun b H9=>b=kk∧∃ r9,HR Y.K H9 r9 h9∧Fm Y.K r7 r9 _ H9) I8 ⟨r7,ao,hc',kk,h9,FY,Ru,e9,fun H9 r9 tE f9=>⟨rfl,r9,tE,f9⟩⟩)) fun bb s9 ⟨H9,I9,KG,r9,tE,tF⟩=>?_
    subst KG
    obtain ⟨zC,zB⟩:=tF.zw UL UK
    have back:∀ {σ':L2.St} {H':Hp} {s':Shared},Inv Y ([]++mV fp s7.heap) σ' H' s'→tn (i+1) s'.heap∧∀ b∈fp,H' b=none:=fun {σ' H' s'} I'=>
     ⟨Tn.keep _ _ _ LC fun b hb o e=>(I'.pin (b,o) (List.mem_append_right _ (List.mem_append_right _ (jF hb e)))).1,fun b hb=>
      let ⟨o,e,_⟩:=Tn.obj _ _ LC b hb
      (I'.pin (b,o) (List.mem_append_right _ (List.mem_append_right _ (jF hb e)))).2.1⟩
    cases bb with
    | false=>
     simp only [Bool.false_eq_true,if_false] at e6 ⊢
     cases e6
     exact yf hlt I9 (back I9) ((FY.mono tF).unbind eb hu) tE ((u9.trans yg).trans tF) zB zC ((Bt.mono yg).mono tF) e7 FU
    | true=>
     simp only [if_true] at e6 ⊢
     obtain ⟨xd,Xv,Wa,e6⟩:=Ev.ah e6
     cases e6
     refine bJ (zA gC (he _ gC _ s9 mQ H9 (fun v Bu=>∃ yh,RV Y.K Bu yh xd v∧HR Y.K Bu yh _∧Fm Y.K r9 yh H9 Bu) I9 ⟨r9,ao,h9,xd,_,FY.mono tF,tE,Wa,fun v Bu yh v10 DI FZ=>⟨yh,v10,DI,FZ⟩⟩)) fun FQ Rw ⟨v10,Bu,Wb,DG,yh,DH,DI,zD⟩=>?_
     obtain ⟨Pd,Pe⟩:=zD.zw zB zC
     exact LB hlt mR hsz gC Wb DG back (((FY.mono tF).mono zD).unbind eb hu) DI (((u9.trans yg).trans tF).trans zD) Pe Pd (((Bt.mono yg).mono tF).mono zD) DH e7 FU
  ·cases e5
 ·have hi':i=src.1.length:=Nat.le_antisymm hle hge
  subst hi'
  rw [List.drop_length] at e5
  simp only [Ev.cO] at e5
  split at e5
  ·rename_i hst
   cases e5
   refine bJ (Tn.done Y rfl rfl rfl gC.calm _ [] s5 oZ Hc fL I5 (lP mW) xQ ((hJ _ Hc rc _ sY u9 hst).2 (Nat.le_refl _))) fun rr s6 ⟨hrr,I6⟩=>?_
   subst hrr
   rw [List.append_nil] at FU
   subst FU
   exact UJ s6 oZ Hc rc vs I6 sY u9 o5 u7 Bt
  ·cases e5
end
theorem Bv (g:Good G n sc N df X) (hi:JI G n sc N df m it tg xi) (hg:JG G n (iK sc scope) N' false m' t tg) (hc:JC G n (iK sc scope) N' false m' cond ifs) (he:JE G n (iK sc scope) N' false m' elt xe)
  (hn:namesOk sc N m scope t N' m') (hs:m9 sc scope) {cl:List (Str×Addr)} (jA:∀ x c,cl.lookup x=some c→X.env.cells.lookup x=some c) (nc:∀ x,(x,NameKind.free)∈scope.names→∃ c,cl.lookup x=some c)
  {pins:List (Addr×Obj)} {σ:L2.St} {H:Hp} {s:Shared} (I:Inv X pins σ H s) {r:List Addr} {fr:Fr} {h:Hh} {d:D} {h':Hh} (sr:SR X.K m H r fr σ) (hr:HR X.K H r h)
  (e:Ev.ev (Ev.run G.F G.w n) (.comp elt t it cond) fr h=.ok d h') (post:Value→Addr→Result→Shared→Prop)
  (hpost:∀ Dd C s' H' r',Inv X pins σ H' s'→(∃ mm,s'.heap.Ns C mm)→iF X pins H' C→RV X.K H' r' d (.ref Dd)→HR X.K H' r' h'→Fm X.K r r' H H'→post (.ref Dd) C (.ok .next) s') {E:Value→Shared→Prop} (hE:X.xe=fun _ _=>False) :
  wpAny (model X.prog X.w) X.A (eval xi X.env) (fun x s₁=>wpAny (model X.prog X.w) X.A (pyIter x) (fun itv s₂=>wpAny (model X.prog X.w) X.A (newList []) (fun acc s₃=>
   wpAny (model X.prog X.w) X.A (newFunctionEnv scope X.env.globals cl [] X.env.qual none .none (some X.env)) (fun cenv s₄=>
    codeAny (model X.prog X.w) X.A (.compStart (.ListComp xe [⟨tg,xi,ifs,0⟩] scope pos) 0 itv acc { cenv with scope:=relabel scope X.env }) (post acc cenv.locals) s₄) E s₃) E s₂) E s₁) E s:=by
 rw [rL] at e
 obtain ⟨src,h1,e1,e⟩:=Ev.ah e
 split at e
 ·rename_i hu
  obtain ⟨ds,h2,e2,e⟩:=Ev.ah e
  have sH:∀ {α:Type} {tt:Sem α} {Q:α→Shared→Prop} {s:Shared},wpAny (model X.prog X.w) X.A tt Q X.xe s→wpAny (model X.prog X.w) X.A tt Q E s:=fun {α tt Q s} hw=>wpAny_mono hw (fun _ _ q=>q) fun _ _ q=>by rw [hE] at q;exact q.elim
  refine bJ (sH (hi X g pins s σ H (fun J H2=>∃ r2,HR X.K H2 r2 h1∧Fm X.K r r2 H H2∧rH X.K r2 H2 src J) I ⟨r,fr,h,src,h1,sr,hr,e1,fun J H2 r2 hr2 f2 hJ=>⟨r2,hr2,f2,hJ⟩⟩)) fun v s1 q1=>?_
  refine bJ (sH q1) fun itv s2 q2=>?_
  obtain ⟨ita,fp,tn,J,H2,rfl,I2,Tn,st2,f2,r2,hr2,Ga,hJ⟩:=q2
  refine wpAny_newObj_type ?_
  generalize Gb:s2.heap.objs.size=Dd
  have mR:H2 Dd=none:=by rw [←Gb];exact I2.fresh
  have I3:Inv X pins σ (upd H2 Dd (.lst [])) { s2 with heap:=s2.heap.push { cls:=.type "list",data:=.seq ([]:List Value).toArray }}:=by
   have:=I2.Dh (ys:=[]) (its:=[]) (t':=s2.toks) .nil (Nat.zero_le _)
   rw [Gb] at this
   exact this
  have LD:∀ b∈fp,b<s2.heap.objs.size:=fun b hb=>by
   obtain ⟨o,e,_⟩:=Tn.obj 0 _ st2 b hb
   exact Heap.lt_size e
  generalize LF:({ s2 with heap:=s2.heap.push { cls:=.type "list",data:=.seq ([]:List Value).toArray }}:Shared)=s3 at I3
  have UM:s3.heap.objs.size=s2.heap.objs.size+1:=by rw [←LF];exact Heap.size_push ..
  have k3:∀ b o,s2.heap.get? b=some o→s3.heap.get? b=some o:=fun b o e=>by rw [←LF];exact Heap.get?_push_of_some _ e
  have LG:∀ b∈fp,b<s3.heap.objs.size:=fun b hb=>Nat.lt_of_lt_of_le (LD b hb) (by rw [UM];exact Nat.le_succ _)
  have rM:∀ b∈fp,iF X pins (upd H2 Dd (.lst [])) b:=fun b hb=>⟨by rw [aT (fun z=>absurd (LD b hb) (by rw [z,Gb];exact Nat.lt_irrefl _))];exact (f2 b hb).1,(f2 b hb).2⟩
  refine wpAny_newFunctionEnv (hs.Br) (fun y hy=>by simp at hy) (fun LH UN UO=>?_) hs.kind
  have k4:∀ b o,s3.heap.get? b=some o→LH.get? b=some o:=fun b o e=>UO.extBut b o (Nat.ne_of_lt (Heap.lt_size e)) (Heap.get?_push_of_some _ e)
  have gC:Good G n (iK sc scope) N' false (qi X N' scope cl s3.heap.objs.size s3 (upd H2 Dd (.lst [])) fp):=g.comp
  have I4:Inv (qi X N' scope cl s3.heap.objs.size s3 (upd H2 Dd (.lst [])) fp) [] (sig scope N N' m' X.K (upd H2 Dd (.lst [])) r2 fr σ) (upd H2 Dd (.lst [])) { s3 with heap:=LH,toks:=s3.toks+0 }:=
   DF g I3 hs jA nc rM LG UN k4
  have xY:SR X.K m' (upd H2 Dd (.lst [])) r2 fr (sig scope N N' m' X.K (upd H2 Dd (.lst [])) r2 fr σ):=Lz (((sr.mono Ga).mono (Fm.tup mR))) hn hu
  have jE:HR X.K (upd H2 Dd (.lst [])) r2 h1:=hr2.tup mR
  have Rx:Dd∉r2:=fun hm=>by
   obtain ⟨k,hk⟩:=List.getElem?_of_mem hm
   have hlt:k<h1.length:=by rw [←hr2.len];exact (List.getElem?_eq_some_iff.mp hk).1
   obtain ⟨a,e3,e4⟩:=hr2.ob k _ (List.getElem?_eq_getElem hlt)
   rw [hk] at e3;cases e3
   cases eo:h1[k] with
   | lst dd=>rw [eo] at e4;obtain ⟨us,e5,_⟩:=e4;rw [mR] at e5;cases e5
   | bR dd=>
    rw [eo] at e4
    obtain ⟨us,e5,_⟩:=e4
    rcases e5 with ⟨ob,e5⟩ | ⟨ob,_,_,e5,_⟩
    ·rw [mR] at e5;cases e5
    ·have:=Heap.lt_size (I2.sG _ _ e5)
     rw [Gb] at this
     exact absurd this (Nat.lt_irrefl _)
   | dct kvs=>rw [eo] at e4;have e5:=e4.1;rw [mR] at e5;cases e5
  have Wc:H Dd=none:=by
   cases z:H Dd with
   | none=>rfl
   | some o=>
    have hnr:Dd∉r:=fun hm=>by
     obtain ⟨k,hk⟩:=List.getElem?_of_mem hm
     exact Rx (List.mem_of_getElem? (Ga.pre _ _ hk))
    have:=Ga.keep _ _ z hnr
    rw [mR] at this;cases this
  have lP:∀ {Hc:Hp},(∀ b∈fp,Hc b=none)→∀ b∈fp,iF (qi X N' scope cl s3.heap.objs.size s3 (upd H2 Dd (.lst [])) fp) [] Hc b:=fun {Hc} hz b hb=>by
   refine ⟨hz b hb,Nat.ne_of_lt (LG b hb),(I4.ok).rm b hb,.inl hb,fun x c e=>((I4.ok).Fx b hb).2 x c e,fun p hp=>?_⟩
   simp [qi] at hp
  have hsz:ds.length≤sizeLine:=by
   unfold Ev.alloc at e
   split at e
   ·rename_i z;rw [←jk];exact z
   ·cases e
  have fin:codeAny (model X.prog X.w) X.A (.compLoop (.ListComp xe [⟨tg,xi,ifs,0⟩] scope pos) 0 (.ref ita) (.ref Dd) (compEnvC scope cl s3.heap.objs.size X.env)) (post (.ref Dd) s3.heap.objs.size) { s3 with heap:=LH,toks:=s3.toks+0 }:=by
   refine Bs gC hg hc he Tn lP hu hJ mR hsz (fun s6 oZ Hc rc vs I6 sY u9 o5 u7 Bt=>?_) ⟨0,_,_,r2,h1,[],[],ds,I4,Tn.keep _ _ _ st2 fun b hb o eo=>k4 b o (k3 b o eo),fun b hb=>(rM b hb).1,rfl,Nat.zero_le _,xY,jE,Fm.tup mR,fR,Rx,.nil,by rw [List.drop_zero];exact e2,rfl⟩
   unfold Ev.alloc at e
   split at e
   ·cases e
    obtain ⟨Wd,UP,_⟩:=I6.loc
    refine hpost Dd _ s6 Hc (rc++[Dd]) ?_ ⟨Wd,UP⟩ ?_ ⟨Dd,rfl,?_⟩ (sY.known o5 u7 Bt) ((Ga.trans u9).known ?_)
    ·exact I3.OC (ch:=fp) (I6.os) I6.base I6.hok I6.bare fun b hb=>⟨(rM b hb).2.2.2.1,(rM b hb).2.1,(rM b hb).2.2.2.2.1,(rM b hb).2.2.2.2.2⟩
    ·exact I3.C5 (Nat.le_refl _) I6.free
    ·rw [←sY.len];simp
    ·exact Wc
   ·cases e
  subst LF
  exact codeAny_compStart_list fin (Tn.self _ 0 _ _ _ (Tn.keep _ _ _ st2 fun b hb o eo=>k4 b o (k3 b o eo)) fin)
 ·cases e
end
end Sm
set_option maxRecDepth 100000
namespace Sm
open PySem PySem.Spec PyProof.Rows L2
open Ev (D O Hh Fr R aR E Es Eo T S Ss Fl Src bU bQ TY BI ME)
section
variable {G:Tb}{n:Nat}{sc scope:Scope}{N N':List Str}{df:Bool}{m m':List Nat}{elt:E}{t:T}{it:Ev.It}{cond:Eo}{xe xi tg:Expr}{ifs:List Expr}{pos:Pos}
theorem Good.cells {X:Cx}{pins:List (Addr×Obj)}{σ:L2.St}{H:Hp}{s:Shared}(g:Good G n sc N df X) (I:Inv X pins σ H s) (hs:m9 sc scope) :
  ∃ cl,closureFor scope X.env=pure cl∧(∀ x c,cl.lookup x=some c→X.env.cells.lookup x=some c)∧∀ x,(x,NameKind.free)∈scope.names→∃ c,cl.lookup x=some c:=
 Ia fun x hx=>I.ok.has x (by unfold Env.kindOf;rw [g.sc];exact (hs.free x hx).1)
theorem LI {X:Cx}{pins:List (Addr×Obj)}{σ:L2.St}{H:Hp}{s:Shared}(I:Inv X pins σ H s) {C:Addr}(fp:iF X pins H C) {h':Heap}(hs:Heap.SameBut C s.heap h'):Inv X pins σ H { s with heap:=h' }:=
 I.turned (t':=s.toks) (fun b o hb e=>hs.extBut b o hb e) fp.1 fp.2.1 fp.2.2.2.1 fp.2.2.2.2.1 fp.2.2.2.2.2
theorem Ic (hi:JI G n sc N df m it tg xi) (hg:JG G n (iK sc scope) N' false m' t tg) (hc:JC G n (iK sc scope) N' false m' cond ifs) (he:JE G n (iK sc scope) N' false m' elt xe)
  (hn:namesOk sc N m scope t N' m') (hs:m9 sc scope) (hf:∀ (env:Env) x,foldedSetIterable xi env x=pure x:=by intro _ _;rfl):JE G n sc N df m (.comp elt t it cond) (.ListComp xe [⟨tg,xi,ifs,0⟩] scope pos):=fun X g pins s σ H Q I q=>by
 obtain ⟨r,fr,h,d,h',sr,hr,e,q⟩:=q
 obtain ⟨cl,hcl,jA,nc⟩:=g.cells I hs
 rw [eval_ListComp]
 refine wpAny_comprehension_free (use:=none) (Q:=EP X pins σ Q) rfl (hf _) hcl hs.kind hs.loc ?_
 refine Bv g hi hg hc he hn hs jA nc I sr hr e (fun acc C=>compPost (model X.prog X.w) X.A X.xe none (EP X pins σ Q) acc C) (fun Dd C s' H' r' I' hC fp rv hr' We=>?_) g.xe
 obtain ⟨mm,hC⟩:=hC
 exact ⟨mm,hC,fun h'' Wf=>⟨.ref Dd,H',LI I' fp Wf,rfl,q _ H' r' rv hr' We⟩⟩
end
end Sm
set_option maxRecDepth 100000
namespace Sm
open PySem PySem.Spec PyProof.Rows L2 PySem.SeqAt
open Ev (D O Hh Fr R aR E Es Eo T S Ss Fl Src bU bQ TY BI ME)
structure vc (A:Around) (s:Shared) (u w:Value) (k:Bool):Prop where
 eq:EqAt A s u w k
 rc:RcAt A s u w k
 ne:RcNeAt A s u w (!k)
theorem rN {f:D→D→Option Bool}:∀ {x y:List D},x.length≠y.length→∀ {k},Ev.cJ f x y=some k→k=false
 | [],[],h,_,_=>absurd rfl h
 | [],_ :: _,_,_,e=>by cases e;rfl
 | _ :: _,[],_,_,e=>by cases e;rfl
 | a :: x,b :: y,h,k,e=>by
  simp only [Ev.cJ,Option.bind_eq_bind,Option.bind_eq_some_iff] at e
  obtain ⟨p,_,q,e2,e3⟩:=e
  have:=rN (x:=x) (y:=y) (by simpa using h) e2
  subst this
  cases e3
  simp
theorem yi {f:D→D→Option Bool}:∀ {x y:List D}{k},Ev.cJ f x y=some k→x.length=y.length→∃ e:Nat→Bool,(∀ (j:Nat) a b,x[j]?=some a→y[j]?=some b→f a b=some (e j))∧(List.range x.length).all e=k
 | [],[],_,h,_=>⟨fun _=>true,(fun j a b h1=>by simp at h1),by cases h;simp⟩
 | [],_ :: _,_,_,h=>by simp at h
 | _ :: _,[],_,_,h=>by simp at h
 | a :: x,b :: y,k,h,hl=>by
  simp only [Ev.cJ,Option.bind_eq_bind,Option.bind_eq_some_iff] at h
  obtain ⟨p,e1,q,e2,e3⟩:=h
  cases e3
  obtain ⟨e,h1,h2⟩:=yi e2 (by simpa using hl)
  refine ⟨fun j=>match j with | 0=>p | j+1=>e j,fun j a' b' g1 g2=>?_,?_⟩
  ·cases j with
   | zero=>simp at g1 g2;subst g1 g2;exact e1
   | succ j=>exact h1 j a' b' (by simpa using g1) (by simpa using g2)
  ·rw [List.length_cons,List.range_succ_eq_map,List.all_cons,List.all_map,←h2]
   rfl
theorem yj {f:D→D→Option Bool}:∀ {x y:List D}{k},Ev.cJ f x y=some k→∃ e:Nat→Bool,∀ (j:Nat) a b,x[j]?=some a→y[j]?=some b→f a b=some (e j)
 | [],_,_,_=>⟨fun _=>true,fun j a b h1=>by simp at h1⟩
 | _ :: _,[],_,_=>⟨fun _=>true,fun j a b _ h1=>by simp at h1⟩
 | a :: x,b :: y,k,h=>by
  simp only [Ev.cJ,Option.bind_eq_bind,Option.bind_eq_some_iff] at h
  obtain ⟨p,e1,q,e2,e3⟩:=h
  obtain ⟨e,h1⟩:=yj e2
  refine ⟨fun j=>match j with | 0=>p | j+1=>e j,fun j a' b' g1 g2=>?_⟩
  cases j with
  | zero=>simp at g1 g2;subst g1 g2;exact e1
  | succ j=>exact h1 j a' b' (by simpa using g1) (by simpa using g2)
section
variable {X:Cx}{pins:List (Addr×Obj)}{σ:L2.St}{H:Hp}{s:Shared}{r:List Addr}{h:Hh}
theorem oz (I:Inv X pins σ H s) {a b:Addr}{vs ws:List V}(h1:zv X.K H a vs) (h2:H b=some (.lst ws)):a≠b:=by
 rintro rfl
 rcases h1 with ⟨o,h1⟩ | ⟨o,_,_,h1,_⟩
 ·rw [h2] at h1;cases h1
 ·have:=(I.bs a o (I.ok.mod.Fv a o h1)).2
  rw [h2] at this;cases this
theorem tG {x y:List D}{vs ws:List V}{us zs:List Value}{f:D→D→Option Bool}{A:Around}{k:Bool}(v1:aI X.K H r x vs)(v2:aI X.K H r y ws)(p1:Vals vs us)(p2:Vals ws zs)
  (ih:∀ a b va vb u w k,RV X.K H r a va→RV X.K H r b vb→RelV va u→RelV vb w→f a b=some k→vc A s u w k) (hl:x.length=y.length) (e:Ev.cJ f x y=some k) :
  ∃ e':Nat→Bool,(∀ j (h1:j<us.toArray.size) (h2:j<zs.toArray.size),EqAt A s us.toArray[j] zs.toArray[j] (e' j))∧(List.range us.toArray.size).all e'=k∧us.length=zs.length:=by
 obtain ⟨e',h1,h2⟩:=yi e hl
 have l1:=v1.length
 have l2:=v2.length
 have l3:=p1.length
 have l4:=p2.length
 refine ⟨e',fun j g1 g2=>?_,?_,by omega⟩
 ·have Wg:j<us.length:=by simpa using g1
  have Wh:j<zs.length:=by simpa using g2
  have ha:x[j]?=some x[j]:=List.getElem?_eq_getElem (by omega)
  have hb:y[j]?=some y[j]:=List.getElem?_eq_getElem (by omega)
  obtain ⟨va,a1,a2⟩:=v1.get ha
  obtain ⟨vb,b1,b2⟩:=v2.get hb
  obtain ⟨u,a3,a4⟩:=p1.get a1
  obtain ⟨w,b3,b4⟩:=p2.get b1
  have eu:us.toArray[j]=u:=by
   have:=(List.getElem?_eq_some_iff.mp a3).2
   simpa using this
  have ew:zs.toArray[j]=w:=by
   have:=(List.getElem?_eq_some_iff.mp b3).2
   simpa using this
  rw [eu,ew]
  exact (ih _ _ _ _ _ _ _ a2 b2 a4 b4 (h1 j _ _ ha hb)).eq
 ·rw [←h2]
  have:us.toArray.size=x.length:=by simp;omega
  rw [this]
noncomputable def cy (K:PySem.W.Frag) (H:Hp) (r:List Addr):D→V→Prop
 | .aP,v=>v=.aP
 | .bl b,v=>v=.bl b
 | .int i,v=>v=.int i
 | .str l,v=>v=.str (aU l)
 | .ref n,v=>∃ a,v=.ref a∧r[n]?=some a
 | .tup ds,v=>∃ a vs,v=.ref a∧dG K H a vs∧aI K H r ds vs
theorem RV.shape {d:D}{v:V}(h:RV X.K H r d v):cy X.K H r d v:=by
 cases d <;> simp only [RV] at h <;> simp only [cy] <;> first | exact h | exact h.1
theorem Ie {a b:List Nat}:(aU a==aU b)=(a==b):=by
 by_cases e:a=b
 ·subst e;simp
 ·have e1:(aU a==aU b)=false:=beq_eq_false_iff_ne.mpr fun z=>e (rG z)
  have e2:(a==b)=false:=beq_eq_false_iff_ne.mpr e
  rw [e1,e2]
theorem pO {n:Nat}{A:Around}{x y:List D}{a b:Addr}{vs ws:List V}{k:Bool}(I:Inv X pins σ H s)(hu:A.units<cLine)(q1:fK X.K H a vs)(q2:fK X.K H b ws)(v1:aI X.K H r x vs)(v2:aI X.K H r y ws)(hab:a≠b)
  (ih:∀ a b va vb u w k,RV X.K H r a va→RV X.K H r b vb→RelV va u→RelV vb w→Ev.gG h n a b=some k→vc A.in1 s u w k) (e:Ev.cJ (Ev.gG h n) x y=some k):vc A s (.ref a) (.ref b) k:=by
 obtain ⟨us,p1,o6,_⟩:=I.list q1
 obtain ⟨zs,p2,o7,_⟩:=I.list q2
 by_cases hl:x.length=y.length
 ·obtain ⟨e',h1,h2,h3⟩:=tG v1 v2 p1 p2 ih hl e
  have hs:us.toArray.size=zs.toArray.size:=by simpa using h3
  have rc:=RcAt.lists o6.isList o7.isList hs hu h1
  have ne:=RcNeAt.lists o6.isList o7.isList hs hu h1
  rw [h2] at rc ne
  exact ⟨.of_refs hab rc,rc,ne⟩
 ·have hk:=rN hl e
  subst hk
  have hs:(us.toArray.size != zs.toArray.size)=true:=by
   have l1:=v1.length
   have l2:=v2.length
   have l3:=p1.length
   have l4:=p2.length
   simp only [List.size_toArray,bne_iff_ne,ne_eq]
   omega
  exact ⟨.of_refs hab (.lists_lengths o6.isList o7.isList hs hu),.lists_lengths o6.isList o7.isList hs hu,.lists_lengths o6.isList o7.isList hs hu⟩
theorem Bw (I:Inv X pins σ H s) (hr:HR X.K H r h) {n:Nat}{a:Addr}{ds:List D}(e:Ev.bh h n=some ds) (ha:r[n]?=some a):∃ us:List Value,PlainL s.heap a us.toArray:=by
 obtain ⟨a',vs,e1,e2,e3⟩:=hr.read e
 rw [ha] at e1;cases e1
 obtain ⟨us,_,pl,_⟩:=I.list e2
 exact ⟨us,pl⟩
theorem Bx (I:Inv X pins σ H s) (hr:HR X.K H r h):∀ (n:Nat) (a b:D) (v:V) (k:Bool),RV X.K H r a v→RV X.K H r b v→Ev.gG h n a b=some k→k=true:=by
 intro n
 induction n with
 | zero=>intro a b v k _ _ e;cases e
 | succ n ih=>
  have items:∀ (x y:List D) (vs:List V) (k:Bool),aI X.K H r x vs→aI X.K H r y vs→Ev.cJ (Ev.gG h n) x y=some k→k=true:=by
   intro x
   induction x with
   | nil=>
    intro y vs k h1 h2 e
    simp only [aI] at h1
    subst h1
    cases y with
    | nil=>cases e;rfl
    | cons _ _=>simp only [aI] at h2;obtain ⟨_,_,h2,_⟩:=h2;cases h2
   | cons d x Wj=>
    intro y vs k h1 h2 e
    simp only [aI] at h1
    obtain ⟨v,w,rfl,h3,h4⟩:=h1
    cases y with
    | nil=>simp only [aI] at h2;cases h2
    | cons d' y=>
     simp only [aI] at h2
     obtain ⟨v',w',e2,h5,h6⟩:=h2
     cases e2
     simp only [Ev.cJ,Option.bind_eq_bind,Option.bind_eq_some_iff] at e
     obtain ⟨p,e1,q,e2,e3⟩:=e
     cases e3
     rw [ih d d' v p h3 h5 e1,Wj y w q h4 h6 e2]
     rfl
  have lt:∀ (a:Addr) (vs:List V) (i:Nat) (ds:List D),dG X.K H a vs→r[i]?=some a→Ev.bh h i=some ds→False:=fun a vs i ds h1 h2 h3=>by
   obtain ⟨us,pl⟩:=Bw I hr h3 h2
   obtain ⟨zs,_,pt,_⟩:=I.tuple h1
   exact ne_of_list_tuple pl.isList pt rfl
  intro a b v k h1 h2 e
  have s1:=h1.shape
  have s2:=h2.shape
  clear h1 h2
  cases a with
  | aP=>simp only [cy] at s1;cases b with
   | aP=>cases e;rfl
   | ref m=>obtain ⟨p,z,_⟩:=s2;rw [s1] at z;cases z
   | tup y=>obtain ⟨p,_,z,_⟩:=s2;rw [s1] at z;cases z
   | _=>simp only [cy] at s2;rw [s1] at s2;cases s2
  | bl x=>simp only [cy] at s1;cases b with
   | bl y=>simp only [cy] at s2;rw [s1] at s2;cases s2;cases e;simp
   | ref m=>obtain ⟨p,z,_⟩:=s2;rw [s1] at z;cases z
   | tup y=>obtain ⟨p,_,z,_⟩:=s2;rw [s1] at z;cases z
   | _=>simp only [cy] at s2;rw [s1] at s2;cases s2
  | int x=>simp only [cy] at s1;cases b with
   | int y=>simp only [cy] at s2;rw [s1] at s2;cases s2;cases e;simp
   | ref m=>obtain ⟨p,z,_⟩:=s2;rw [s1] at z;cases z
   | tup y=>obtain ⟨p,_,z,_⟩:=s2;rw [s1] at z;cases z
   | _=>simp only [cy] at s2;rw [s1] at s2;cases s2
  | str x=>simp only [cy] at s1;cases b with
   | str y=>
    simp only [cy] at s2
    rw [s1] at s2
    have:x=y:=rG (by injection s2)
    subst this
    cases e;simp
   | ref m=>obtain ⟨p,z,_⟩:=s2;rw [s1] at z;cases z
   | tup y=>obtain ⟨p,_,z,_⟩:=s2;rw [s1] at z;cases z
   | _=>simp only [cy] at s2;rw [s1] at s2;cases s2
  | tup x=>
   obtain ⟨p,vs,rfl,z,w⟩:=s1
   cases b with
   | tup y=>
    obtain ⟨p',vs',z',z2,w2⟩:=s2
    cases z'
    rw [I.mU z2 z] at w2
    exact items x y vs k w w2 e
   | ref m=>
    obtain ⟨p',z',z2⟩:=s2
    cases z'
    obtain ⟨ds,e1,_⟩:=Option.map_eq_some_iff.mp e
    exact (lt _ _ _ _ z z2 e1).elim
   | _=>cases s2
  | ref i=>
   obtain ⟨p,rfl,z⟩:=s1
   cases b with
   | ref m=>
    obtain ⟨p',z',z2⟩:=s2
    cases z'
    replace e:Ev.jX h (Ev.gG h n) i m=some k:=e
    unfold Ev.jX at e
    split at e
    ·simp only [Option.map_eq_some_iff] at e
     obtain ⟨_,_,e⟩:=e
     exact e.symm
    ·rename_i hne
     split at e
     ·rename_i x y g1 g2
      exact absurd (hr.inj _ _ _ _ _ z z2 g1 g2) hne
     ·rename_i x y g1 g2
      obtain ⟨p1,q1,Gd,q2,_⟩:=hr.ob _ _ g1
      obtain ⟨p2,q3,yd,q4,_⟩:=hr.ob _ _ g2
      rw [z] at q1;cases q1
      rw [z2] at q3;cases q3
      exact absurd rfl (oz I q2 q4)
     ·rename_i x y g1 g2
      obtain ⟨p1,q1,Gd,q2,_⟩:=hr.ob _ _ g1
      obtain ⟨p2,q3,yd,q4,_⟩:=hr.ob _ _ g2
      rw [z] at q1;cases q1
      rw [z2] at q3;cases q3
      exact absurd rfl (oz I q4 q2)
     ·cases e
   | tup y=>
    obtain ⟨p',vs',z',z2,w2⟩:=s2
    cases z'
    obtain ⟨ds,e1,_⟩:=Option.map_eq_some_iff.mp e
    exact (lt _ _ _ _ z2 z e1).elim
   | _=>cases s2
theorem Ig {n:Nat}{A:Around}{x y:List D}{a b:Addr}{vs ws:List V}{k:Bool}(I:Inv X pins σ H s)(hr:HR X.K H r h)(hu:A.units<cLine)(q1:dG X.K H a vs)(q2:dG X.K H b ws)(v1:aI X.K H r x vs)(v2:aI X.K H r y ws)
  (ih:∀ a b va vb u w k,RV X.K H r a va→RV X.K H r b vb→RelV va u→RelV vb w→Ev.gG h n a b=some k→vc A.in1 s u w k) (e:Ev.cJ (Ev.gG h n) x y=some k):vc A s (.ref a) (.ref b) k:=by
 obtain ⟨us,p1,o6,_⟩:=I.tuple q1
 obtain ⟨zs,p2,o7,_⟩:=I.tuple q2
 have l1:=v1.length
 have l2:=v2.length
 have l3:=p1.length
 have l4:=p2.length
 have both:RcAt A s (.ref a) (.ref b) k∧RcNeAt A s (.ref a) (.ref b) (!k):=by
  by_cases hl:x.length=y.length
  ·obtain ⟨e',h1,h2,h3⟩:=tG v1 v2 p1 p2 ih hl e
   have rc:=RcAt.tuples o6 o7 hu h1
   have ne:=RcNeAt.tuples o6 o7 hu h1
   have hs:us.toArray.size=zs.toArray.size:=by simpa using h3
   have hb:((List.range (min us.toArray.size zs.toArray.size)).all e'&&us.toArray.size==zs.toArray.size)=k:=by
    rw [←hs,Nat.min_self,h2];simp
   rw [hb] at rc ne
   exact ⟨rc,ne⟩
  ·have hk:=rN hl e
   subst hk
   have hcl:∃ e':Nat→Bool,∀ j (h1:j<us.toArray.size) (h2:j<zs.toArray.size),EqAt A.in1 s us.toArray[j] zs.toArray[j] (e' j):=by
    obtain ⟨e',h1⟩:=yj e
    refine ⟨e',fun j g1 g2=>?_⟩
    have Wg:j<us.length:=by simpa using g1
    have Wh:j<zs.length:=by simpa using g2
    have ha:x[j]?=some x[j]:=List.getElem?_eq_getElem (by omega)
    have hb:y[j]?=some y[j]:=List.getElem?_eq_getElem (by omega)
    obtain ⟨va,a1,a2⟩:=v1.get ha
    obtain ⟨vb,b1,b2⟩:=v2.get hb
    obtain ⟨u,a3,a4⟩:=p1.get a1
    obtain ⟨w,b3,b4⟩:=p2.get b1
    have eu:us.toArray[j]=u:=by
     have:=(List.getElem?_eq_some_iff.mp a3).2
     simpa using this
    have ew:zs.toArray[j]=w:=by
     have:=(List.getElem?_eq_some_iff.mp b3).2
     simpa using this
    rw [eu,ew]
    exact (ih _ _ _ _ _ _ _ a2 b2 a4 b4 (h1 j _ _ ha hb)).eq
   obtain ⟨e',h1⟩:=hcl
   have rc:=RcAt.tuples o6 o7 hu h1
   have ne:=RcNeAt.tuples o6 o7 hu h1
   have hs:(us.toArray.size==zs.toArray.size)=false:=by
    simp only [List.size_toArray,beq_eq_false_iff_ne,ne_eq];omega
   rw [hs,Bool.and_false] at rc ne
   exact ⟨rc,ne⟩
 by_cases hab:a=b
 ·subst hab
  rw [I.mU q2 q1] at v2
  have hk:k=true:=Bx I hr (n+1) (.tup x) (.tup y) (.ref a) k ⟨a,vs,rfl,q1,v1⟩ ⟨a,vs,rfl,q1,v2⟩ e
  subst hk
  exact ⟨.same _,both.1,both.2⟩
 ·exact ⟨.of_refs hab both.1,both.1,both.2⟩
end
end Sm
set_option maxRecDepth 100000
namespace Sm
open PySem PySem.Spec PyProof.Rows L2 PySem.SeqAt
open Ev (D O Hh Fr R aR E Es Eo T S Ss Fl Src bU bQ TY BI ME)
section
variable {X:Cx}{pins:List (Addr×Obj)}{σ:L2.St}{H:Hp}{s:Shared}{r:List Addr}{h:Hh}
theorem Ge (I:Inv X pins σ H s) (hr:HR X.K H r h):∀ (n:Nat) (A:Around) (a b:D) (va vb:V) (u w:Value) (k:Bool),A.units+n<cLine→RV X.K H r a va→RV X.K H r b vb→RelV va u→RelV vb w→Ev.gG h n a b=some k→vc A s u w k:=by
 intro n
 induction n with
 | zero=>intro A a b va vb u w k _ _ _ _ _ e;cases e
 | succ n ih=>
  intro A a b va vb u w k hu h1 h2 r1 r2 e
  have bW:A.units<cLine:=by omega
  have ih':∀ a b va vb u w k,RV X.K H r a va→RV X.K H r b vb→RelV va u→RelV vb w→Ev.gG h n a b=some k→vc A.in1 s u w k:=fun a b va vb u w k=>ih A.in1 a b va vb u w k (by show A.units+1+n<cLine;omega)
  have s1:=h1.shape
  have s2:=h2.shape
  have lst:∀ {i:Nat} {v:V} {u:Value} {ds:List D},cy X.K H r (.ref i) v→RelV v u→Ev.bh h i=some ds→∃ p us,u=.ref p∧PlainL s.heap p (List.toArray us):=fun {i v u ds} hv ru el=>by
   obtain ⟨p,rfl,z⟩:=hv
   cases ru
   obtain ⟨us,pl⟩:=Bw I hr el z
   exact ⟨p,us,rfl,pl⟩
  have tup:∀ {ds:List D} {v:V} {u:Value},cy X.K H r (.tup ds) v→RelV v u→∃ p us,u=.ref p∧s.heap.IsTuple p (List.toArray us):=fun {ds v u} hv ru=>by
   obtain ⟨p,vs,rfl,z,_⟩:=hv
   cases ru
   obtain ⟨us,_,pt,_⟩:=I.tuple z
   exact ⟨p,us,rfl,pt⟩
  cases a with
  | aP=>
   simp only [cy] at s1;subst s1;cases r1
   cases b with
   | aP=>simp only [cy] at s2;subst s2;cases r2;cases e;exact ⟨.same _,.none_none,.none_none⟩
   | bl y=>simp only [cy] at s2;subst s2;cases r2;cases e;exact ⟨.none_bool _,.none_bool _,.none_bool _⟩
   | int y=>simp only [cy] at s2;subst s2;obtain ⟨t,rfl⟩:=r2;cases e;exact ⟨.none_int _ _,.none_int _ _,.none_int _ _⟩
   | str y=>simp only [cy] at s2;subst s2;obtain ⟨t,rfl⟩:=r2;cases e;exact ⟨.none_str _ _,.none_str _ _,.none_str _ _⟩
   | tup y=>obtain ⟨p,us,rfl,pt⟩:=tup s2 r2;cases e;exact ⟨.none_tuple pt bW,.none_tuple pt bW,.none_tuple pt bW⟩
   | ref m=>
    obtain ⟨ds,e1,rfl⟩:=Option.map_eq_some_iff.mp e
    obtain ⟨p,us,rfl,pl⟩:=lst s2 r2 e1
    exact ⟨.none_list pl.isList bW,.none_list pl.isList bW,.none_list pl.isList bW⟩
  | bl x=>
   simp only [cy] at s1;subst s1;cases r1
   cases b with
   | aP=>simp only [cy] at s2;subst s2;cases r2;cases e;exact ⟨.bool_none _,.bool_none _,.bool_none _⟩
   | bl y=>simp only [cy] at s2;subst s2;cases r2;cases e;exact ⟨.bool_bool _ _,.bool_bool _ _,.bool_bool _ _⟩
   | int y=>simp only [cy] at s2;subst s2;obtain ⟨t,rfl⟩:=r2;cases e;exact ⟨.bool_int _ _ _,.bool_int _ _ _,.bool_int _ _ _⟩
   | str y=>simp only [cy] at s2;subst s2;obtain ⟨t,rfl⟩:=r2;cases e;exact ⟨.bool_str _ _ _,.bool_str _ _ _,.bool_str _ _ _⟩
   | tup y=>obtain ⟨p,us,rfl,pt⟩:=tup s2 r2;cases e;exact ⟨.bool_tuple _ pt bW,.bool_tuple _ pt bW,.bool_tuple _ pt bW⟩
   | ref m=>
    obtain ⟨ds,e1,rfl⟩:=Option.map_eq_some_iff.mp e
    obtain ⟨p,us,rfl,pl⟩:=lst s2 r2 e1
    exact ⟨.bool_list _ pl.isList bW,.bool_list _ pl.isList bW,.bool_list _ pl.isList bW⟩
  | int x=>
   simp only [cy] at s1;subst s1;obtain ⟨t0,rfl⟩:=r1
   cases b with
   | aP=>simp only [cy] at s2;subst s2;cases r2;cases e;exact ⟨.int_none _ _,.int_none _ _,.int_none _ _⟩
   | bl y=>simp only [cy] at s2;subst s2;cases r2;cases e;exact ⟨.int_bool _ _ _,.int_bool _ _ _,.int_bool _ _ _⟩
   | int y=>simp only [cy] at s2;subst s2;obtain ⟨t,rfl⟩:=r2;cases e;exact ⟨.int_int _ _ _ _,.int_int _ _ _ _,.int_int _ _ _ _⟩
   | str y=>simp only [cy] at s2;subst s2;obtain ⟨t,rfl⟩:=r2;cases e;exact ⟨.int_str _ _ _ _,.int_str _ _ _ _,.int_str _ _ _ _⟩
   | tup y=>obtain ⟨p,us,rfl,pt⟩:=tup s2 r2;cases e;exact ⟨.int_tuple _ _ pt bW,.int_tuple _ _ pt bW,.int_tuple _ _ pt bW⟩
   | ref m=>
    obtain ⟨ds,e1,rfl⟩:=Option.map_eq_some_iff.mp e
    obtain ⟨p,us,rfl,pl⟩:=lst s2 r2 e1
    exact ⟨.int_list _ _ pl.isList bW,.int_list _ _ pl.isList bW,.int_list _ _ pl.isList bW⟩
  | str x=>
   simp only [cy] at s1;subst s1;obtain ⟨t0,rfl⟩:=r1
   cases b with
   | aP=>simp only [cy] at s2;subst s2;cases r2;cases e;exact ⟨.str_none _ _,.str_none _ _,.str_none _ _⟩
   | bl y=>simp only [cy] at s2;subst s2;cases r2;cases e;exact ⟨.str_bool _ _ _,.str_bool _ _ _,.str_bool _ _ _⟩
   | int y=>simp only [cy] at s2;subst s2;obtain ⟨t,rfl⟩:=r2;cases e;exact ⟨.str_int _ _ _ _,.str_int _ _ _ _,.str_int _ _ _ _⟩
   | str y=>
    simp only [cy] at s2;subst s2;obtain ⟨t,rfl⟩:=r2
    cases e
    rw [←Ie]
    exact ⟨.str_str _ _ _ _,.str_str _ _ _ _,.str_str _ _ _ _⟩
   | tup y=>obtain ⟨p,us,rfl,pt⟩:=tup s2 r2;cases e;exact ⟨.str_tuple _ _ pt bW,.str_tuple _ _ pt bW,.str_tuple _ _ pt bW⟩
   | ref m=>
    obtain ⟨ds,e1,rfl⟩:=Option.map_eq_some_iff.mp e
    obtain ⟨p,us,rfl,pl⟩:=lst s2 r2 e1
    exact ⟨.str_list _ _ pl.isList bW,.str_list _ _ pl.isList bW,.str_list _ _ pl.isList bW⟩
  | tup x=>
   cases b with
   | tup y=>
    obtain ⟨p,vs,rfl,z,w1⟩:=s1
    obtain ⟨p',vs',rfl,z',w2⟩:=s2
    cases r1;cases r2
    exact Ig I hr bW z z' w1 w2 ih' e
   | aP=>obtain ⟨p,us,rfl,pt⟩:=tup s1 r1;simp only [cy] at s2;subst s2;cases r2;cases e;exact ⟨.tuple_none pt bW,.tuple_none pt bW,.tuple_none pt bW⟩
   | bl y=>obtain ⟨p,us,rfl,pt⟩:=tup s1 r1;simp only [cy] at s2;subst s2;cases r2;cases e;exact ⟨.tuple_bool _ pt bW,.tuple_bool _ pt bW,.tuple_bool _ pt bW⟩
   | int y=>obtain ⟨p,us,rfl,pt⟩:=tup s1 r1;simp only [cy] at s2;subst s2;obtain ⟨t,rfl⟩:=r2;cases e;exact ⟨.tuple_int _ _ pt bW,.tuple_int _ _ pt bW,.tuple_int _ _ pt bW⟩
   | str y=>obtain ⟨p,us,rfl,pt⟩:=tup s1 r1;simp only [cy] at s2;subst s2;obtain ⟨t,rfl⟩:=r2;cases e;exact ⟨.tuple_str _ _ pt bW,.tuple_str _ _ pt bW,.tuple_str _ _ pt bW⟩
   | ref m=>
    obtain ⟨p,us,rfl,pt⟩:=tup s1 r1
    obtain ⟨ds,e1,rfl⟩:=Option.map_eq_some_iff.mp e
    obtain ⟨p',us',rfl,pl⟩:=lst s2 r2 e1
    exact ⟨.tuple_list pt pl.isList bW,.tuple_list pt pl.isList bW,.tuple_list pt pl.isList bW⟩
  | ref i=>
   cases b with
   | ref m=>
    replace e:Ev.jX h (Ev.gG h n) i m=some k:=e
    unfold Ev.jX at e
    split at e
    ·rename_i Wk
     subst Wk
     simp only [Option.map_eq_some_iff] at e
     obtain ⟨ds,e1,rfl⟩:=e
     obtain ⟨p,us,rfl,pl⟩:=lst s1 r1 e1
     obtain ⟨p0,rfl,z⟩:=s1
     obtain ⟨p1,rfl,z'⟩:=s2
     rw [z] at z';cases z'
     cases r1;cases r2
     have q:(List.range (List.toArray us).size).all (fun _=>true)=true:=by simp
     have rc:=RcAt.lists (A:=A) (e:=fun _=>true) pl.isList pl.isList rfl bW fun j _ _=>EqAt.same _
     have ne:=RcNeAt.lists (A:=A) (e:=fun _=>true) pl.isList pl.isList rfl bW fun j _ _=>EqAt.same _
     rw [q] at rc ne
     exact ⟨.same _,rc,ne⟩
    ·rename_i hne
     obtain ⟨p0,rfl,z⟩:=s1
     obtain ⟨p1,rfl,z'⟩:=s2
     cases r1;cases r2
     split at e
     ·rename_i x y g1 g2
      obtain ⟨q0,q1,Gd,q2,q3⟩:=hr.ob _ _ g1
      obtain ⟨q4,q5,yd,q6,q7⟩:=hr.ob _ _ g2
      rw [z] at q1;cases q1
      rw [z'] at q5;cases q5
      exact pO I bW (.of q2) (.of q6) q3 q7 (fun w=>hne (hr.inj _ _ _ _ _ z (by rw [w];exact z') g1 g2)) ih' e
     ·rename_i x y g1 g2
      obtain ⟨q0,q1,Gd,q2,q3⟩:=hr.ob _ _ g1
      obtain ⟨q4,q5,yd,q6,q7⟩:=hr.ob _ _ g2
      rw [z] at q1;cases q1
      rw [z'] at q5;cases q5
      exact pO I bW (Gf q2) (.of q6) q3 q7 (oz I q2 q6) ih' e
     ·rename_i x y g1 g2
      obtain ⟨q0,q1,Gd,q2,q3⟩:=hr.ob _ _ g1
      obtain ⟨q4,q5,yd,q6,q7⟩:=hr.ob _ _ g2
      rw [z] at q1;cases q1
      rw [z'] at q5;cases q5
      exact pO I bW (.of q2) (Gf q6) q3 q7 (oz I q6 q2).symm ih' e
     ·cases e
   | aP=>obtain ⟨ds,e1,rfl⟩:=Option.map_eq_some_iff.mp e;obtain ⟨p,us,rfl,pl⟩:=lst s1 r1 e1;simp only [cy] at s2;subst s2;cases r2;exact ⟨.list_none pl.isList bW,.list_none pl.isList bW,.list_none pl.isList bW⟩
   | bl y=>obtain ⟨ds,e1,rfl⟩:=Option.map_eq_some_iff.mp e;obtain ⟨p,us,rfl,pl⟩:=lst s1 r1 e1;simp only [cy] at s2;subst s2;cases r2;exact ⟨.list_bool _ pl.isList bW,.list_bool _ pl.isList bW,.list_bool _ pl.isList bW⟩
   | int y=>obtain ⟨ds,e1,rfl⟩:=Option.map_eq_some_iff.mp e;obtain ⟨p,us,rfl,pl⟩:=lst s1 r1 e1;simp only [cy] at s2;subst s2;obtain ⟨t,rfl⟩:=r2;exact ⟨.list_int _ _ pl.isList bW,.list_int _ _ pl.isList bW,.list_int _ _ pl.isList bW⟩
   | str y=>obtain ⟨ds,e1,rfl⟩:=Option.map_eq_some_iff.mp e;obtain ⟨p,us,rfl,pl⟩:=lst s1 r1 e1;simp only [cy] at s2;subst s2;obtain ⟨t,rfl⟩:=r2;exact ⟨.list_str _ _ pl.isList bW,.list_str _ _ pl.isList bW,.list_str _ _ pl.isList bW⟩
   | tup y=>
    obtain ⟨ds,e1,rfl⟩:=Option.map_eq_some_iff.mp e
    obtain ⟨p,us,rfl,pl⟩:=lst s1 r1 e1
    obtain ⟨p',us',rfl,pt⟩:=tup s2 r2
    exact ⟨.list_tuple pl.isList pt bW,.list_tuple pl.isList pt bW,.list_tuple pl.isList pt bW⟩
where
 Gf {K:PySem.W.Frag} {H:Hp} {a:Addr} {vs:List V} (q:zv K H a vs):fK K H a vs:=by
  rcases q with ⟨ob,e2⟩ | e2
  ·exact .inl (.inr ⟨ob,e2⟩)
  ·exact .inr e2
end
theorem Good.units {G:Tb}{n:Nat}{sc:Scope}{N:List Str}{df:Bool}{X:Cx}(g:Good G n sc N df X):X.A.units+1+Ev.deep<cLine:=by
 have:=g.room.un
 have:Ev.deep=20:=rfl
 omega
section
variable {G:Tb}{n:Nat}{sc:Scope}{N:List Str}{df:Bool}{X:Cx}
theorem yk {pins:List (Addr×Obj)}{σ:L2.St}{H:Hp}{s:Shared}{Q:VK}{r:List Addr}{h:Hh}{k:Bool}(I:Inv X pins σ H s) (hr:HR X.K H r h) (q:Res X.K r H h (.bl k) Q):EP X pins σ Q (.bool k) s:=
 ⟨.bl k,H,I,rfl,q.here rfl hr⟩
theorem Gg (g:Good G n sc N df X):dB X (compareOp .Eq) (iJ X.K (gX .eq)):=by
 intro pins s σ H x y v u Q I rx ry q
 obtain ⟨r,h,a,b,d,h',hr,v1,v2,e,q⟩:=q
 obtain ⟨k,e1,rfl,rfl⟩:=jO e
 have:=g.units
 exact (Ge I hr Ev.deep X.A a b x y v u k (by omega) v1 v2 rx ry e1).rc _ _ _ _ (yk I hr q)
theorem Pf (g:Good G n sc N df X):dB X (compareOp .NotEq) (iJ X.K (gX .ne)):=by
 intro pins s σ H x y v u Q I rx ry q
 obtain ⟨r,h,a,b,d,h',hr,v1,v2,e,q⟩:=q
 obtain ⟨k,e1,rfl,rfl⟩:=jO e
 have:=g.units
 delta Ev.cop at e1;dsimp only at e1;simp only [Option.map_eq_some_iff] at e1
 obtain ⟨k',e2,rfl⟩:=e1
 exact (Ge I hr Ev.deep X.A a b x y v u k' (by omega) v1 v2 rx ry e2).ne _ _ _ _ (yk I hr q)
theorem By {op:CmpOp}{o:bQ}{p:Int→Int→Bool}(ho:dB X (compareOp op) (uG fun i j=>.bl (p i j))) (hc:∀ a b h k,Ev.cop o a b h=some k→∃ i j,a=.int i∧b=.int j∧k=p i j):dB X (compareOp op) (iJ X.K (gX o)):=by
 intro pins s σ H x y v u Q I rx ry q
 obtain ⟨r,h,a,b,d,h',hr,v1,v2,e,q⟩:=q
 obtain ⟨k,e1,rfl,rfl⟩:=jO e
 obtain ⟨i,j,rfl,rfl,rfl⟩:=hc _ _ _ _ e1
 exact ho pins s σ H x y v u Q I rx ry ⟨i,j,v1,v2,q.here rfl hr⟩
theorem Pg:dB X (compareOp .Lt) (iJ X.K (gX .lt)):=By OO fun a b h k e=>by
 cases a <;> cases b <;> (delta Ev.cop at e;dsimp only at e) <;> first | (cases e;exact ⟨_,_,rfl,rfl,rfl⟩) | cases e
theorem Gh:dB X (compareOp .Gt) (iJ X.K (gX .gt)):=By OP fun a b h k e=>by
 cases a <;> cases b <;> (delta Ev.cop at e;dsimp only at e) <;> first | (cases e;exact ⟨_,_,rfl,rfl,rfl⟩) | cases e
theorem BA:dB X (compareOp .Is) (iJ X.K (gX .mP)):=by
 intro pins s σ H x y v u Q I rx ry q
 obtain ⟨r,h,a,b,d,h',hr,v1,v2,e,q⟩:=q
 obtain ⟨k,e1,rfl,rfl⟩:=jO e
 cases b with
 | aP=>
  refine Kl pins s σ H x y v u Q I rx ry ⟨v2,?_⟩
  have:=v1.shape
  cases a with
  | aP=>simp only [cy] at this;subst this;cases e1;exact q.here rfl hr
  | bl _=>simp only [cy] at this;subst this;cases e1;exact q.here rfl hr
  | int _=>simp only [cy] at this;subst this;cases e1;exact q.here rfl hr
  | str _=>simp only [cy] at this;subst this;cases e1;exact q.here rfl hr
  | ref _=>obtain ⟨p,rfl,_⟩:=this;cases e1;exact q.here rfl hr
  | tup _=>obtain ⟨p,_,rfl,_⟩:=this;cases e1;exact q.here rfl hr
 | _=>cases a <;> cases e1
theorem yl:dB X (compareOp .IsNot) (iJ X.K (gX .m6)):=by
 intro pins s σ H x y v u Q I rx ry q
 obtain ⟨r,h,a,b,d,h',hr,v1,v2,e,q⟩:=q
 obtain ⟨k,e1,rfl,rfl⟩:=jO e
 cases b with
 | aP=>
  refine Hj pins s σ H x y v u Q I rx ry ⟨v2,?_⟩
  have:=v1.shape
  cases a with
  | aP=>simp only [cy] at this;subst this;cases e1;exact q.here rfl hr
  | bl _=>simp only [cy] at this;subst this;cases e1;exact q.here rfl hr
  | int _=>simp only [cy] at this;subst this;cases e1;exact q.here rfl hr
  | str _=>simp only [cy] at this;subst this;cases e1;exact q.here rfl hr
  | ref _=>obtain ⟨p,rfl,_⟩:=this;cases e1;exact q.here rfl hr
  | tup _=>obtain ⟨p,_,rfl,_⟩:=this;cases e1;exact q.here rfl hr
 | _=>cases a <;> cases e1
end
end Sm
set_option maxRecDepth 100000
namespace Sm
open PySem PySem.Spec PyProof.Rows L2 PySem.SeqAt
open Ev (D O Hh Fr R aR E Es Eo T S Ss Fl Src bU bQ TY BI ME)
section
variable {X:Cx}{pins:List (Addr×Obj)}{σ:L2.St}{H:Hp}{s:Shared}{r:List Addr}{h:Hh}
end
section
variable {G:Tb}{n:Nat}{sc:Scope}{N:List Str}{df:Bool}{X:Cx}
theorem rO (a b:List Nat):aU a++aU b=aU (a++b):=by
 show Str.append (aU a) (aU b)=_
 simp [Str.append,aU]
theorem Ih {pins:List (Addr×Obj)}{σ:L2.St}{H:Hp}{s:Shared}{Q:Value→Shared→Prop}{E:Value→Shared→Prop}(I:Inv X pins σ H s) {a b:Addr}{ys:List V}(h1:dG X.K H a []) (h2:dG X.K H b ys) (q:Q (.ref b) s):wpAny (model X.prog X.w) X.A (binaryOp .Add (.ref a) (.ref b)) Q E s:=by
 obtain ⟨us,p1,Wl,_⟩:=I.tuple h1
 obtain ⟨zs,p2,Wm,_⟩:=I.tuple h2
 cases p1
 obtain ⟨⟨cls,dd,data,sl⟩,ho,hc,n,hd⟩:=id Wl
 obtain ⟨⟨Uu,dd2,data2,sl2⟩,ho2,hc2,n2,hd2⟩:=id Wm
 simp only at hc hd hc2 hd2
 subst hc hd hc2 hd2
 exact concat_meets ⟨_,ho,rfl⟩ ⟨_,ho2,rfl⟩ noFill_tuple_add seq_tuple_add PySem.F.slot_tuple_add PySem.F.entry_tuple_add (PySem.F.args_tuple_add_2 _ _)
  (tuple_addW0 a b _ _ n n2 dd dd2 sl sl2 (by simp)) ⟨ho,ho2,q⟩
theorem LJ:dB X (binaryOp .Add) (iJ X.K (Ev.bZ .add)):=by
 intro pins s σ H x y v u Q I rx ry q
 obtain ⟨r,h,a,b,d,h',hr,v1,v2,e,q⟩:=q
 have s1:=v1.shape
 have s2:=v2.shape
 cases a with
 | int i=>cases b with
  | int j=>cases e;exact Kd pins s σ H x y v u Q I rx ry ⟨i,j,s1,s2,q.here rfl hr⟩
  | _=>cases e
 | str i=>cases b with
  | str j=>
   delta Ev.bZ at e;dsimp only at e
   split at e
   ·rename_i hz
    cases e
    rw [jk] at hz
    refine zf pins s σ H x y v u Q I rx ry ⟨aU i,aU j,s1,s2,by rw [cU,cU];exact hz,?_⟩
    rw [rO]
    exact q.here ⟨rfl,by rw [List.length_append];exact hz⟩ hr
   ·cases e
  | _=>cases e
 | tup i=>cases b with
  | tup j=>
   delta Ev.bZ at e;dsimp only at e
   split at e
   ·rename_i hz
    cases e
    rw [jk] at hz
    obtain ⟨pa,vs,rfl,z1,w1⟩:=s1
    obtain ⟨pb,ws,rfl,z2,w2⟩:=s2
    have l1:=w1.length
    have l2:=w2.length
    cases vs with
    | nil=>
     cases rx;cases ry
     refine Ih I z1 z2 ⟨.ref pb,H,I,rfl,q.here ?_ hr⟩
     have:i=[]:=by cases i with | nil=>rfl | cons _ _=>simp at l1
     subst this
     exact ⟨pb,ws,rfl,z2,by simpa using w2⟩
    | cons v0 vs=>
     refine Hv pins s σ H _ _ v u Q I rx ry ⟨pa,pb,v0 :: vs,ws,rfl,rfl,z1,z2,by simp,by rw [l1,l2];exact hz,fun hw=>?_,fun hw p hp=>?_⟩
     ·subst hw
      have:j=[]:=by cases j with | nil=>rfl | cons _ _=>simp at l2
      subst this
      exact q.here ⟨pa,v0 :: vs,rfl,z1,by simpa using w1⟩ hr
     ·exact q.tup (w1.append w2) hr hp
   ·cases e
  | _=>cases e
 | ref i=>cases b with
  | ref j=>
   delta Ev.bZ at e;dsimp only at e
   split at e
   ·rename_i ds es e1 e2
    obtain ⟨pa,rfl,z1⟩:=s1
    obtain ⟨pb,rfl,z2⟩:=s2
    cases rx;cases ry
    obtain ⟨p1,g1,vs,g2,g3⟩:=hr.ob _ _ e1
    obtain ⟨p2,k1,ws,k2,k3⟩:=hr.ob _ _ e2
    rw [z1] at g1;cases g1
    rw [z2] at k1;cases k1
    obtain ⟨hz,q2⟩:=q.lst e (g3.append k3) hr
    exact KC pins s σ H (.ref pa) (.ref pb) _ _ Q I rfl rfl ⟨_,_,vs,ws,rfl,rfl,g2,k2,by rw [List.length_append] at hz;exact hz,q2⟩
   ·cases e
  | _=>cases e
 | _=>cases b <;> cases e
theorem LK:dB X (binaryOp .Sub) (iJ X.K (Ev.bZ .sub)):=by
 intro pins s σ H x y v u Q I rx ry q
 obtain ⟨r,h,a,b,d,h',hr,v1,v2,e,q⟩:=q
 cases a with
 | int i=>cases b with
  | int j=>cases e;exact Ke pins s σ H x y v u Q I rx ry ⟨i,j,v1,v2,q.here rfl hr⟩
  | _=>cases e
 | _=>cases b <;> cases e
theorem Ii:dB X (binaryOp .FloorDiv) (iJ X.K (Ev.bZ .fdiv)):=by
 intro pins s σ H x y v u Q I rx ry q
 obtain ⟨r,h,a,b,d,h',hr,v1,v2,e,q⟩:=q
 cases a with
 | int i=>cases b with
  | int j=>
   delta Ev.bZ at e;dsimp only at e
   split at e
   ·rename_i hz;cases e;exact Hi pins s σ H x y v u Q I rx ry ⟨i,j,v1,v2,hz,q.here rfl hr⟩
   ·cases e
  | _=>cases e
 | _=>cases b <;> cases e
theorem LL:dB X (binaryOp .Mod) (iJ X.K (Ev.bZ .mod)):=by
 intro pins s σ H x y v u Q I rx ry q
 obtain ⟨r,h,a,b,d,h',hr,v1,v2,e,q⟩:=q
 cases a with
 | int i=>cases b with
  | int j=>
   delta Ev.bZ at e;dsimp only at e
   split at e
   ·rename_i hz;cases e;exact Kg pins s σ H x y v u Q I rx ry ⟨i,j,v1,v2,hz,q.here rfl hr⟩
   ·cases e
  | _=>cases e
 | _=>cases b <;> cases e
end
end Sm
set_option maxRecDepth 100000
namespace Sm
open PySem PySem.Spec PyProof.Rows L2 PySem.SeqAt
open Ev (D O Hh Fr R aR E Es Eo T S Ss Fl Src bU bQ TY BI ME)
section
variable {X:Cx}
theorem LM (n:Nat) (i:Int):Ev.dP n i=L2.dP n i:=rfl
theorem LN {α:Type}(xs:List α) (i:Int):Ev.bP xs i=L2.bP xs i:=rfl
theorem aI.bP {K:PySem.W.Frag}{H:Hp}{r:List Addr}{ds:List D}{vs:List V}{i:Int}{d:D}(w:aI K H r ds vs) (e:Ev.bP ds i=some d):∃ v,L2.bP vs i=some v∧RV K H r d v:=by
 unfold Ev.bP at e
 obtain ⟨j,e1,e2⟩:=Option.bind_eq_some_iff.mp e
 obtain ⟨v,e3,e4⟩:=w.get e2
 exact ⟨v,by unfold L2.bP;rw [w.length,←LM,e1];exact e3,e4⟩
theorem Ph:xT X (iJ X.K Lb):=by
 intro value slice pins s σ H x y v u Q I rx ry q hs
 obtain ⟨r,h,a,b,d,h',hr,v1,v2,e,q⟩:=q
 obtain ⟨e,rfl⟩:=Ev.aJ e
 cases b with
 | int i=>
  have s2:=v2.shape
  cases a with
  | tup ds=>
   obtain ⟨p,vs,rfl,z,w⟩:=v1.shape
   obtain ⟨v',g1,g2⟩:=w.bP e
   exact Kv value slice pins s σ H _ y v u Q I rx ry ⟨p,vs,i,v',rfl,s2,z,g1,q.here g2 hr⟩ hs
  | str l=>
   simp only [RV] at v1
   obtain ⟨rfl,hl⟩:=v1
   simp only [Ev.eg,Option.map_eq_some_iff] at e
   obtain ⟨c,e1,rfl⟩:=e
   exact Kw value slice pins s σ H _ y v u Q I rx ry ⟨aU l,i,c,rfl,s2,by rw [cU];exact hl,by simpa [aU,LN] using e1,q.here ⟨rfl,by show 1≤sizeLine;decide⟩ hr⟩ hs
  | ref m=>
   simp only [Ev.eg,Option.bind_eq_some_iff] at e
   obtain ⟨ds,e1,e2⟩:=e
   obtain ⟨p,rfl,z⟩:=v1.shape
   obtain ⟨p',vs,z',q1,w⟩:=hr.read e1
   rw [z] at z';cases z'
   obtain ⟨v',g1,g2⟩:=w.bP e2
   exact Hx value slice pins s σ H _ y v u Q I rx ry ⟨p,vs,i,v',rfl,s2,q1,g1,q.here g2 hr⟩ hs
  | _=>cases e
 | _=>cases a <;> cases e
theorem aI.cut {K:PySem.W.Frag}{H:Hp}{r:List Addr}{ds:List D}{vs:List V}(w:aI K H r ds vs) (lo hi:Option Int):aI K H r (Ev.cut ds lo hi) (mY vs lo hi):=by
 unfold Ev.cut mY
 rw [w.length]
 exact (w.drop _).take _
theorem tH {α:Type}(xs:List α) (lo hi:Option Int) (h:Ev.aS xs.length 0 lo=0∧Ev.aS xs.length xs.length hi=xs.length):Ev.cut xs lo hi=xs:=by
 unfold Ev.cut
 rw [h.1,h.2]
 simp
theorem Ij {α:Type}(xs:List α) (lo hi:Option Int):(Ev.cut xs lo hi).length≤xs.length:=by
 unfold Ev.cut
 rw [List.length_take,List.length_drop]
 omega
theorem tY {prog:Program}{w:World}{A:Around}{E:Value→Shared→Prop}{s:Shared}{t sl:Addr}{items:Array Value}{vl vu:Value}{lo hi:Option Int}{Q:Value→Shared→Prop}(ht:IsTup s.heap t items)(hs:s.heap.IsSliceOf sl vl vu .none)(pl:IsPart vl lo)(pu:IsPart vu hi)
  (hw:HT.aS items.size 0 lo=0∧HT.aS items.size items.size hi=items.size) (h:Q (.ref t) s):wpAny (model prog w) A (getItem (.ref t) (.ref sl)) Q E s:=by
 obtain ⟨os,hos,hcs,hds⟩:=id hs
 have Ks:s.TypeIs (.ref sl) "slice" :=⟨os,hos,hcs⟩
 unfold getItem
 try with_reducible refine wpAny_holding ?_
 first | refine wpAny_bind (wpAny_pure ?_) | skip
 refine wpAny_bind (wpAny_sequenceKey ht.typeIs (by decide) ?_)
 refine wpAny_bind (wpAny_callSpecial?_slot (name:=Str.ofString "__getitem__") ht.typeIs PyProof.Rows.slot_tuple_getitem
  (wpAny_call_entry PyProof.Rows.slot_tuple_getitem ht.typeIs entry_tuple_getitem ?_ (args_tuple_getitem _ _)))
 show wpAny _ _ (Builtin.Tuple.tupleItemsOf (.ref t) >>= _) _ _ s
 refine wpAny_bind (tupleItemsOf_ ht ?_)
 refine wpAny_bind (wpAny_typeOf Ks ?_)
 rw [if_pos (by decide)]
 refine wpAny_bind (HT.jV hs pl pu ?_)
 have hyes:(((HT.aS items.size 0 lo:Nat):Int)==0&&(1:Int)==1&&(HT.aS items.size items.size hi - HT.aS items.size 0 lo)==items.size)=true:=by
  rw [hw.1,hw.2];simp
 show wpAny _ _ (if (((HT.aS items.size 0 lo:Nat):Int)==0&&(1:Int)==1&&(HT.aS items.size items.size hi - HT.aS items.size 0 lo)==items.size)=true then _ else _) _ _ s
 rw [if_pos hyes]
 refine wpAny_bind (m:=Builtin.Tuple.tupleIsExact (.ref t)) (wpAny_bind (wpAny_typeOf ht.typeIs (wpAny_pure ?_)))
 show wpAny _ _ (if ((Value.type "tuple" ==Value.type "tuple")=true) then _ else _) _ _ s
 rw [if_pos (by decide)]
 exact wpAny_bind (wpAny_rule (wpAny_bind (wpAny_pure (wpAny_pure ⟨_,rfl,wpAny_pure h⟩))))
theorem BB (lo hi:Option Int) (n:Nat):Builtin.Str.strSliceIndices lo hi 1 n=(List.range (Ev.aS n n hi - Ev.aS n 0 lo)).map (fun k=>Ev.aS n 0 lo+k):=by
 have LO:∀ o:Option Int,((match o with | none=>(0:Int) | some i=>max 0 (min (if i<0 then i+(n:Int) else i) (n:Int))))=((Ev.aS n 0 o:Nat):Int):=fun o=>by
  cases o with
  | none=>rfl
  | some i=>simp only [Ev.aS];split <;> omega
 have LP:∀ o:Option Int,((match o with | none=>(n:Int) | some i=>max 0 (min (if i<0 then i+(n:Int) else i) (n:Int))))=((Ev.aS n n o:Nat):Int):=fun o=>by
  cases o with
  | none=>rfl
  | some i=>simp only [Ev.aS];split <;> omega
 have e:Builtin.Str.strSliceIndices lo hi 1 n=sliceRange (match lo with | none=>(0:Int) | some i=>max 0 (min (if i<0 then i+(n:Int) else i) (n:Int))) (match hi with | none=>(n:Int) | some i=>max 0 (min (if i<0 then i+(n:Int) else i) (n:Int))) 1:=by
  unfold Builtin.Str.strSliceIndices
  cases lo <;> cases hi <;> simp
 rw [e,LO,LP,sliceRange_one]
theorem LQ (l:List Nat) (lo hi:Option Int):((Builtin.Str.strSliceIndices lo hi 1 (aU l).length).filterMap ((aU l).cps[·]?)).toArray=(Ev.cut l lo hi).toArray:=by
 rw [cU,BB,pick_run]
 simp [aU,Ev.cut]
theorem LR:kP X (KS X.K):=by
 intro pins s σ H x v vl vu lo hi sl Q I rx hs pl pu q
 obtain ⟨r,h,a,d,h',hr,v1,e,q⟩:=q
 cases a with
 | tup ds=>
  cases e
  obtain ⟨p,vs,rfl,z,w⟩:=v1.shape
  by_cases hw:HT.aS vs.length 0 lo=0∧HT.aS vs.length vs.length hi=vs.length
  ·cases rx
   obtain ⟨us,pv,pt,hz⟩:=I.tuple z
   have hl:=pv.length
   have Wn:Ev.aS ds.length 0 lo=0∧Ev.aS ds.length ds.length hi=ds.length:=by rw [←w.length];exact hw
   refine ⟨"tuple",_,PyProof.Rows.slot_tuple_getitem.lookup,pt.typeIs,?_⟩
   refine tY pt hs pl pu (by rw [List.size_toArray,←hl];exact hw) ⟨.ref p,H,I,rfl,q.here ?_ hr⟩
   rw [tH ds lo hi Wn]
   exact ⟨p,vs,rfl,z,w⟩
  ·exact Ku pins s σ H _ v vl vu lo hi sl Q I rx hs pl pu ⟨p,vs,rfl,z,hw,fun p' hp=>q.tup (w.cut lo hi) hr hp⟩
 | str l=>
  simp only [RV] at v1
  obtain ⟨rfl,hl⟩:=v1
  obtain ⟨t,rfl⟩:=rx
  cases e
  refine ⟨"str",_,PySem.F.slot_str_getitem.lookup,typeIs_str s _ t,?_⟩
  have part:∀ {v:Value} {o:Option Int},IsPart v o→∃ p:Option (Int×Tok),v=partValue p∧p.map (·.1)=o:=fun {v o} hp=>by
   cases hp with
   | none=>exact ⟨none,rfl,rfl⟩
   | int i t=>exact ⟨some (i,t),rfl,rfl⟩
  obtain ⟨l1,e1,e2⟩:=part pl
  obtain ⟨u1,e3,e4⟩:=part pu
  subst e1 e3
  obtain ⟨os,hos,hcs,hds⟩:=hs
  refine wpAny_getItem_str_slice (l:=l1) (u:=u1) (st:=none) ⟨os,hos,hcs,hds⟩ rfl ?_
  have Gi:((slicePicked (aU l) l1 u1 none).filterMap ((aU l).cps[·]?)).toArray=(Ev.cut l lo hi).toArray:=by
   show ((Builtin.Str.strSliceIndices (l1.map (·.1)) (u1.map (·.1)) 1 (aU l).length).filterMap ((aU l).cps[·]?)).toArray=_
   rw [e2,e4]
   exact LQ l lo hi
  have hcl:=Ij l lo hi
  unfold sliceMade
  refine post_val_or_made (fun _=>?_) fun t' k=>?_
  ·rw [Gi]
   show (Ev.cut l lo hi).toArray.size≤sizeLine
   simp only [List.size_toArray]
   omega
  ·have hres:(if (((none:Option (Int×Tok)).map (·.1)).getD 1==1&&(slicePicked (aU l) l1 u1 none).length==(aU l).length)=true then aU l else (⟨((slicePicked (aU l) l1 u1 none).filterMap ((aU l).cps[·]?)).toArray⟩:Str))=aU (Ev.cut l lo hi):=by
    split
    ·rename_i hc
     rw [Bool.and_eq_true] at hc
     have hlen:(slicePicked (aU l) l1 u1 none).length=(aU l).length:=eq_of_beq hc.2
     have hlen2:(slicePicked (aU l) l1 u1 none).length=Ev.aS l.length l.length hi - Ev.aS l.length 0 lo:=by
      show (Builtin.Str.strSliceIndices (l1.map (·.1)) (u1.map (·.1)) 1 (aU l).length).length=_
      rw [e2,e4,BB,cU]
      simp
     rw [cU] at hlen
     have hb:Ev.aS l.length l.length hi≤l.length:=HT.uJ _ _ (Nat.le_refl _) hi
     have ha:Ev.aS l.length 0 lo≤l.length:=HT.uJ _ _ (Nat.zero_le _) lo
     rw [tH l lo hi ⟨by omega,by omega⟩]
    ·rw [Gi];rfl
   rw [hres]
   exact ⟨.str (aU (Ev.cut l lo hi)),H,I.tok _,⟨_,rfl⟩,q.here ⟨rfl,by omega⟩ hr⟩
 | ref m=>
  simp only [Ev.iG] at e
  split at e
  ·rename_i ds e1
   obtain ⟨p,rfl,z⟩:=v1.shape
   obtain ⟨p',vs,z',q1,w⟩:=hr.read e1
   rw [z] at z';cases z'
   obtain ⟨hz,q2⟩:=q.lst e (w.cut lo hi) hr
   exact Hy pins s σ H _ v vl vu lo hi sl Q I rx hs pl pu ⟨p,vs,rfl,q1,q2⟩
  ·cases e
 | _=>cases e
theorem vd:∀ (k:Nat) (l:List Nat) (acc:List Nat),(List.replicate k l.toArray).foldl (·++·) acc.toArray=(acc++Ev.rep k l).toArray
 | 0,l,acc=>by simp [Ev.rep]
 | k+1,l,acc=>by
  rw [List.replicate_succ,List.foldl_cons]
  have:acc.toArray++l.toArray=(acc++l).toArray:=by simp
  rw [this,vd k l (acc++l)]
  simp [Ev.rep,List.replicate_succ]
theorem oA {α:Type}(k:Nat) (l:List α):(Ev.rep k l).length=k*l.length:=by
 unfold Ev.rep
 exact len_rep l k
theorem Ik {l:List Nat}{k:Int}(h:0≤k):Txt.mul (aU l) k=aU (Ev.rep k.toNat l):=by
 unfold Txt.mul
 by_cases h1:k<1
 ·have:k=0:=by omega
  subst this
  rw [if_pos (by decide)]
  rfl
 ·rw [if_neg h1]
  split
  ·rename_i hc
   rw [Bool.or_eq_true] at hc
   rcases hc with hc | hc
   ·have:k=1:=by simpa using hc
    subst this
    simp [Ev.rep]
   ·rw [cU] at hc
    have:l=[]:=by cases l with | nil=>rfl | cons _ _=>simp at hc
    subst this
    simp [Ev.rep,aU]
  ·show (⟨(List.replicate k.toNat (aU l).cps).foldl (·++·) #[]⟩:Str)=_
   have:=vd k.toNat l []
   simp only [List.nil_append] at this
   exact congrArg Str.mk this
theorem ko {a b:Nat}(h1:a≤1000) (h2:b≤1000):a*b≤sizeLine:=Nat.le_trans (Nat.mul_le_mul h1 h2) (by decide)
theorem Il {pins:List (Addr×Obj)}{σ:L2.St}{H:Hp}{s:Shared}{Q:VK}(I:Inv X pins σ H s) {l:List Nat}{k:Int}{t u:Tok}(hk:0≤k∧k≤1000∧l.length≤1000) (q:Q (.str (aU (Ev.rep k.toNat l))) H) :
  wpAny (model X.prog X.w) X.A (binaryOp .Mult (.str (aU l) t) (.int k u)) (EP X pins σ Q) X.xe s:=by
 have hok:MulOk (aU l) k:=mulOk_of 1000 1000 (by rw [cU];exact hk.2.2) (by exact hk.2.1) (by omega) (by decide) (by decide)
 refine SB.mul hok fun t' k'=>?_
 rw [Ik hk.1]
 exact ⟨.str _,H,I.tok _,⟨_,rfl⟩,q⟩
theorem pP:fillsNumberSlot (.type "tuple") "mul" = pure false:=
 PySem.fillsNumberSlot_seq (id:="tuple.__mul__") (r:=some (.builtin "tuple.__rmul__")) PySem.F.slot_tuple_mul.lookup (by decide +kernel) PySem.F.slot_tuple_rmul.lookup (by decide +kernel)
theorem ve:seqRepeat? (.type "tuple")=pure (some (.builtin "tuple.__mul__")):=by
 unfold seqRepeat?
 rw [PySem.seqSlot_of (T:="tuple") (name:="__mul__") (id:="tuple.__mul__") PySem.F.slot_tuple_mul.lookup (by decide +kernel),PySem.seqSlot_of (T:="tuple") (name:="__rmul__") (id:="tuple.__rmul__") PySem.F.slot_tuple_rmul.lookup (by decide +kernel)]
 rfl
theorem zE (a:Int) (t:Tok) (l:Addr) (items:Array Value) (n:Nat) (dd:Option Addr) (sl:Array (Option Value)) :
  Meets (Builtin.«int.__rmul__» ⟨[.int a t,.ref l],[]⟩) (fun _ R s=>s.heap.get? l=some { cls:=.type "tuple",dict:=dd,data:=.seq items n,slots:=sl }∧R (.ok (.ret Value.notImplemented)) s):=
 .of_wp fun prog w A R s h=>by obtain ⟨hp,g,d,tk,os⟩:=s;obtain ⟨hl,h⟩:=h;wp_walk;exact ⟨_,rfl,h⟩
theorem zF (l:Addr) (items:Array Value) (n:Nat) (dd:Option Addr) (sl:Array (Option Value)) (k:Int) (u:Tok) (h1:¬ (decide (k < -2 ^ 63) || decide (k≥2 ^ 63))=true) (h3:(items.isEmpty || k==1)=true) :
  Meets (Builtin.«tuple.__mul__» ⟨[.ref l,.int k u],[]⟩) (fun _ R s=>s.heap.get? l=some { cls:=.type "tuple",dict:=dd,data:=.seq items n,slots:=sl }∧R (.ok (.ret (.ref l))) s):=
 .of_wp fun prog w A R s h=>by obtain ⟨hp,g,d,tk,os⟩:=s;obtain ⟨hl,h⟩:=h;have f1:=AutoSeq1.idx_int;wp_walk using AutoSeq1.wpAny_loadPart' hl;rw [if_neg h1];wp_walk using AutoSeq1.wpAny_loadPart' hl;exact ⟨_,rfl,h⟩
theorem zG (l:Addr) (items:Array Value) (n:Nat) (dd:Option Addr) (sl:Array (Option Value)) (k:Int) (u:Tok) (h1:¬ (decide (k < -2 ^ 63) || decide (k≥2 ^ 63))=true) (h3:¬ (items.isEmpty || k==1)=true) (h4:(decide (k≤0) || items.isEmpty)=true) :
  Meets (Builtin.«tuple.__mul__» ⟨[.ref l,.int k u],[]⟩) (fun _ R s=>s.heap.get? l=some { cls:=.type "tuple",dict:=dd,data:=.seq items n,slots:=sl }∧R (.ok (.ret (Value.ref s.heap.objs.size))) { s with heap:=s.heap.push { cls:=Value.type "tuple",data:=Data.seq #[]},toks:=s.toks }):=
 .of_wp fun prog w A R s h=>by obtain ⟨hp,g,d,tk,os⟩:=s;obtain ⟨hl,h⟩:=h;have f1:=AutoSeq1.idx_int;wp_walk using AutoSeq1.wpAny_loadPart' hl;rw [if_neg h1];wp_walk using AutoSeq1.wpAny_loadPart' hl;exact ⟨_,rfl,h⟩
theorem zH (l:Addr) (items:Array Value) (n:Nat) (dd:Option Addr) (sl:Array (Option Value)) (k:Int) (u:Tok) (h1:¬ (decide (k < -2 ^ 63) || decide (k≥2 ^ 63))=true) (h3:¬ (items.isEmpty || k==1)=true) (h4:¬ (decide (k≤0) || items.isEmpty)=true)
  (h5:¬ (items.size*k > (2 ^ 63 - 1) / 8)) (h6:¬ Builtin.Tuple.tupleTooMany (items.size*k)=true) (hsz:(List.foldl (fun x1 x2=>x1++x2) #[] (List.replicate k.toNat items)).size≤sizeLine) :
  Meets (Builtin.«tuple.__mul__» ⟨[.ref l,.int k u],[]⟩) (fun _ R s=>s.heap.get? l=some { cls:=.type "tuple",dict:=dd,data:=.seq items n,slots:=sl }∧R (.ok (.ret (Value.ref s.heap.objs.size))) { s with heap:=s.heap.push { cls:=Value.type "tuple",data:=Data.seq (List.foldl (fun x1 x2=>x1++x2) #[] (List.replicate k.toNat items))},toks:=s.toks }):=
 .of_wp fun prog w A R s h=>by obtain ⟨hp,g,d,tk,os⟩:=s;obtain ⟨hl,h⟩:=h;have f1:=AutoSeq1.idx_int;wp_walk using AutoSeq1.wpAny_loadPart' hl;rw [if_neg h1];wp_walk using AutoSeq1.wpAny_loadPart' hl;rw [if_neg h5];wp_walk using AutoSeq1.wpAny_loadPart' hl;exact ⟨_,rfl,h⟩
theorem tK:∀ (k:Nat) (l acc:List Value),(List.replicate k l.toArray).foldl (·++·) acc.toArray=(acc++Ev.rep k l).toArray
 | 0,l,acc=>by simp [Ev.rep]
 | k+1,l,acc=>by
  rw [List.replicate_succ,List.foldl_cons]
  have:acc.toArray++l.toArray=(acc++l).toArray:=by simp
  rw [this,tK k l (acc++l)]
  simp [Ev.rep,List.replicate_succ]
theorem Im {pins:List (Addr×Obj)}{σ:L2.St}{H:Hp}{s:Shared}{Q:VK}(I:Inv X pins σ H s) {p:Addr}{vs:List V}{k:Int}{u:Tok}(hk:0≤k∧k≤1000∧vs.length≤1000) (hp:dG X.K H p vs)
  (q1:Ev.rep k.toNat vs=vs→Q (.ref p) H) (q2:∀ p',H p'=none→Q (.ref p') (upd H p' (.tup (Ev.rep k.toNat vs)))) :
  wpAny (model X.prog X.w) X.A (binaryOp .Mult (.ref p) (.int k u)) (EP X pins σ Q) X.xe s:=by
 obtain ⟨us,pv,pt,hz⟩:=I.tuple hp
 obtain ⟨⟨cls,dd,data,sl⟩,ho,hc,n,hd⟩:=id pt
 simp only at hc hd
 subst hc hd
 have hl:=pv.length
 have h1:¬ (decide (k < -2 ^ 63) || decide (k≥2 ^ 63))=true:=by simp;omega
 refine wpAny_binaryOp_repeat_ref (T:="tuple") (U:="int") (by decide) ⟨_,ho,rfl⟩ (fun s'=>typeIs_int s' k u) pP PySem.F.fills_int_mul PySem.F.slot_int_rmul ve PySem.F.slot_int_index.lookup
  (call_meets PySem.F.slot_int_rmul (typeIs_int s k u) PySem.F.entry_int_rmul (PySem.F.args_int_rmul_2 _ _) (zE k u p us.toArray n dd sl) ⟨ho,rfl,⟨_,ho,rfl⟩,?_⟩)
 have hrep:∀ m:Nat,(Ev.rep m us).length=m*us.length:=fun m=>oA m us
 by_cases h3:(us.toArray.isEmpty || k==1)=true
 ·refine call_meets PySem.F.slot_tuple_mul ⟨_,ho,rfl⟩ PySem.F.entry_tuple_mul (PySem.F.args_tuple_mul_2 _ _) (zF p us.toArray n dd sl k u h1 h3) ⟨ho,?_⟩
  refine ⟨.ref p,H,I,rfl,q1 ?_⟩
  rw [Bool.or_eq_true] at h3
  rcases h3 with h3 | h3
  ·have:us=[]:=by simpa using h3
   subst this
   cases pv
   simp [Ev.rep]
  ·have:k=1:=by simpa using h3
   subst this
   simp [Ev.rep]
 ·have laid:∀ m:Nat,m=k.toNat→EP X pins σ Q (.ref s.heap.objs.size) { s with heap:=s.heap.push { cls:=.type "tuple",data:=.seq (Ev.rep m us).toArray }}:=fun m hm=>by
   subst hm
   refine ⟨.ref s.heap.objs.size,_,I.laid (t':=s.toks) (o:=.tup (Ev.rep k.toNat vs)) (fun b ob q=>Heap.get?_push_of_some _ q) (Nat.le_refl _) ?_,rfl,q2 _ (I.hok.fresh (Nat.le_refl _))⟩
   exact ⟨by rw [oA];exact ko (by omega) hk.2.2,_,pv.rep k.toNat,IsTup.new _ _⟩
  by_cases h4:(decide (k≤0) || us.toArray.isEmpty)=true
  ·refine call_meets PySem.F.slot_tuple_mul ⟨_,ho,rfl⟩ PySem.F.entry_tuple_mul (PySem.F.args_tuple_mul_2 _ _) (zG p us.toArray n dd sl k u h1 h3 h4) ⟨ho,?_⟩
   have hk0:k=0:=by
    rw [Bool.or_eq_true] at h4 h3
    rcases h4 with h4 | h4
    ·have:k≤0:=of_decide_eq_true h4
     omega
    ·exact absurd (.inl h4) h3
   have:=laid 0 (by rw [hk0];rfl)
   exact this
  ·have hm:us.toArray.size*k.toNat≤1000000:=by
    rw [List.size_toArray]
    exact Nat.mul_le_mul (by omega:us.length≤1000) (by omega:k.toNat≤1000)
   have hm':(us.toArray.size:Int)*k≤1000000:=by
    have e:(us.toArray.size:Int)*k=((us.toArray.size*k.toNat:Nat):Int):=by
     rw [Int.natCast_mul,Int.toNat_of_nonneg hk.1]
    rw [e];omega
   have hf:List.foldl (fun x1 x2=>x1++x2) #[] (List.replicate k.toNat us.toArray)=(Ev.rep k.toNat us).toArray:=by
    have:=tK k.toNat us []
    simpa using this
   refine call_meets PySem.F.slot_tuple_mul ⟨_,ho,rfl⟩ PySem.F.entry_tuple_mul (PySem.F.args_tuple_mul_2 _ _) (zH p us.toArray n dd sl k u h1 h3 h4 (by omega) ?_ ?_) ⟨ho,?_⟩
   ·unfold Builtin.Tuple.tupleTooMany
    simp only [decide_eq_true_eq]
    have:(sizeLine:Int)=16777216:=by rw [sizeLine_eq];rfl
    omega
   ·rw [hf]
    simp only [List.size_toArray]
    rw [oA]
    exact ko (by omega) (by omega)
   ·rw [hf]
    exact laid _ rfl
theorem LS:dB X (binaryOp .Mult) (iJ X.K (Ev.bZ .mul)):=by
 intro pins s σ H x y v u Q I rx ry q
 obtain ⟨r,h,a,b,d,h',hr,v1,v2,e,q⟩:=q
 cases b with
 | int k=>
  have s2:=v2.shape
  simp only [cy] at s2
  subst s2
  cases a with
  | int i=>
   delta Ev.bZ at e;dsimp only at e
   split at e
   ·rename_i hz
    cases e
    refine Kf pins s σ H x _ v u Q I rx ry ⟨i,k,v1,rfl,?_,q.here rfl hr⟩
    unfold Ev.cC at hz
    simp only [Bool.or_eq_true,Bool.and_eq_true,decide_eq_true_eq] at hz
    exact hz
   ·cases e
  | str l=>
   delta Ev.bZ at e;dsimp only at e
   split at e
   ·rename_i hz
    cases e
    simp only [RV] at v1
    obtain ⟨rfl,hl⟩:=v1
    obtain ⟨t,rfl⟩:=rx
    obtain ⟨t',rfl⟩:=ry
    exact Il I hz (q.here ⟨rfl,by rw [oA];exact ko (by omega) hz.2.2⟩ hr)
   ·cases e
  | tup ds=>
   delta Ev.bZ at e;dsimp only at e
   split at e
   ·rename_i hz
    cases e
    obtain ⟨p,vs,rfl,z,w⟩:=v1.shape
    cases rx
    obtain ⟨t',rfl⟩:=ry
    refine Im I ⟨hz.1,hz.2.1,by rw [w.length];exact hz.2.2⟩ z (fun Wo=>q.here ⟨p,vs,rfl,z,?_⟩ hr) fun p' hp=>q.tup (w.rep k.toNat) hr hp
    have:=w.rep k.toNat
    rw [Wo] at this
    exact this
   ·cases e
  | ref i=>
   delta Ev.bZ at e;dsimp only at e
   split at e
   ·rename_i ds e1
    split at e
    ·rename_i hz
     obtain ⟨p,rfl,z⟩:=v1.shape
     obtain ⟨p',g1,vs,g2,g3⟩:=hr.ob _ _ e1
     rw [z] at g1;cases g1
     obtain ⟨hz2,q2⟩:=q.lst e (g3.rep k.toNat) hr
     exact KD pins s σ H (.ref p) _ v u Q I rx ry ⟨p,k,vs,rfl,rfl,g2,by omega,by omega,ko (by rw [g3.length];exact hz.2.2) (by omega),q2⟩
    ·cases e
   ·cases e
  | _=>cases e
 | _=>cases a <;> cases e
end
end Sm
set_option maxRecDepth 100000
namespace Sm
open PySem PySem.Spec PyProof.Rows L2 PySem.SeqAt
open Ev (D O Hh Fr R aR E Es Eo T S Ss Fl Src bU bQ TY BI ME)
section
variable {X:Cx}
theorem vf {K:PySem.W.Frag}{H:Hp}{r:List Addr}:∀ {ds:List D}{bs:List Bool}{vs:List V}{us:List Value},Ev.boolsOf ds=some bs→aI K H r ds vs→Vals vs us→us=bs.map Value.bool
 | [],bs,vs,us,e,w,p=>by
  cases e
  simp only [aI] at w;subst w;cases p;rfl
 | d :: ds,bs,vs,us,e,w,p=>by
  cases d with
  | bl b=>
   simp only [Ev.boolsOf,Option.map_eq_some_iff] at e
   obtain ⟨bs',e1,rfl⟩:=e
   simp only [aI,RV] at w
   obtain ⟨v,w',rfl,rfl,w2⟩:=w
   cases p with
   | cons p1 p2=>
    cases p1
    rw [vf e1 w2 p2]
    rfl
  | _=>cases e
theorem ym {K:PySem.W.Frag}{H:Hp}{r:List Addr}:∀ {ds:List D}{is:List Int}{vs:List V}{us:List Value},Ev.intsOf ds=some is→aI K H r ds vs→Vals vs us→IntsAre us is
 | [],bs,vs,us,e,w,p=>by
  cases e
  simp only [aI] at w;subst w;cases p;exact .nil
 | d :: ds,bs,vs,us,e,w,p=>by
  cases d with
  | int b=>
   simp only [Ev.intsOf,Option.map_eq_some_iff] at e
   obtain ⟨bs',e1,rfl⟩:=e
   simp only [aI,RV] at w
   obtain ⟨v,w',rfl,rfl,w2⟩:=w
   cases p with
   | cons p1 p2=>
    obtain ⟨t,rfl⟩:=p1
    exact .cons _ _ (ym e1 w2 p2)
  | _=>cases e
theorem yo {K:PySem.W.Frag}{H:Hp}{r:List Addr}:∀ {ds:List D}{ss:List (List Nat)}{vs:List V}{us:List Value},Ev.strsOf ds=some ss→aI K H r ds vs→Vals vs us→StrsAre us (ss.map aU)∧∀ l∈ss,l.length≤sizeLine
 | [],bs,vs,us,e,w,p=>by
  cases e
  simp only [aI] at w;subst w;cases p;exact ⟨.nil,fun l h=>nomatch h⟩
 | d :: ds,bs,vs,us,e,w,p=>by
  cases d with
  | str b=>
   simp only [Ev.strsOf,Option.map_eq_some_iff] at e
   obtain ⟨bs',e1,rfl⟩:=e
   simp only [aI,RV] at w
   obtain ⟨v,w',rfl,⟨rfl,hb⟩,w2⟩:=w
   cases p with
   | cons p1 p2=>
    obtain ⟨t,rfl⟩:=p1
    obtain ⟨g1,g2⟩:=yo e1 w2 p2
    refine ⟨.cons _ _ g1,fun l hl=>?_⟩
    rcases List.mem_cons.mp hl with z | z
    ·subst z;exact hb
    ·exact g2 l z
  | _=>cases e
theorem tL {A:Around}{pins:List (Addr×Obj)}{σ:L2.St}{H:Hp}{s:Shared}(I:Inv X pins σ H s) {p:Addr}{us:List Value}(pl:PlainL s.heap p us.toArray) {Q:Value→Shared→Prop}{E:Value→Shared→Prop}
  (h:∀ s₂:Shared,s₂={ s with heap:=s.heap.push { cls:=.type "list_iterator",data:=.fields #[.ref p,.int 0 0]}}→(s₂.heap.IsListIter s.heap.objs.size p 0∧s₂.heap.IsList p us.toArray)→p≠s.heap.objs.size→(∀ b∈[s.heap.objs.size,p],b<s₂.heap.objs.size)→Q (.ref s.heap.objs.size) s₂) :
  wpAny (model X.prog X.w) A (pyIter (.ref p)) Q E s:=by
 have hlt:p<s.heap.objs.size:=by obtain ⟨_,e,_⟩:=pl.isList;exact Heap.lt_size e
 refine wpAny_pyIter_list pl.isList (h _ rfl ⟨⟨_,Heap.get?_push_size _ rfl,rfl,rfl⟩,pl.isList.push _⟩ (Nat.ne_of_lt hlt) fun b hb=>?_)
 show b<(s.heap.push _).objs.size
 rw [Heap.size_push]
 rcases List.mem_cons.mp hb with z | z
 ·rw [z];exact Nat.lt_succ_self _
 ·rw [List.mem_singleton.mp z];exact Nat.lt_succ_of_lt hlt
theorem all_range {bs:List Bool}:(List.range bs.length).all (fun i=>bs[i]?.getD true)=bs.all id:=by
 rw [Bool.eq_iff_iff,List.all_eq_true,List.all_eq_true]
 constructor
 ·intro h b hb
  obtain ⟨i,hi,rfl⟩:=List.getElem_of_mem hb
  simpa [hi] using h i (List.mem_range.mpr hi)
 ·intro h i hi
  have hi':=List.mem_range.mp hi
  simpa [hi'] using h bs[i] (by simp)
theorem any_range {bs:List Bool}:(List.range bs.length).any (fun i=>bs[i]?.getD true)=bs.any id:=by
 rw [Bool.eq_iff_iff,List.any_eq_true,List.any_eq_true]
 constructor
 ·rintro ⟨i,hi,h⟩
  have hi':=List.mem_range.mp hi
  exact ⟨bs[i],by simp,by simpa [hi'] using h⟩
 ·rintro ⟨b,hb,h⟩
  obtain ⟨i,hi,rfl⟩:=List.getElem_of_mem hb
  exact ⟨i,List.mem_range.mpr hi,by simpa [hi] using h⟩
theorem tM {s s₂:Shared}{I p:Addr}{h':Heap}(e:s₂.heap=s.heap.push { cls:=.type "list_iterator",data:=.fields #[.ref p,.int 0 0]}) (hI:I=s.heap.objs.size) (hk:∀ b o,b∉[I]→s₂.heap.get? b=some o→h'.get? b=some o) :
  ∀ b o,s.heap.get? b=some o→h'.get? b=some o:=fun b o q=>hk b o (by simp;rw [hI];exact Nat.ne_of_lt (Heap.lt_size q)) (by rw [e];exact Heap.get?_push_of_some _ q)
variable {G:Tb}{n:Nat}{sc:Scope}{N:List Str}{df:Bool}
theorem DJ (g:Good G n sc N df X) {pins:List (Addr×Obj)}{σ:L2.St}{H:Hp}{s:Shared}(I:Inv X pins σ H s) {p:Addr}{bs:List Bool}(pl:PlainL s.heap p (bs.map Value.bool).toArray) {Q:VK} :
  (Q (.bl (bs.all id)) H→wpAny (model X.prog X.w) X.A (call (.builtin "all") [.ref p]) (EP X pins σ Q) X.xe s)∧(Q (.bl (bs.any id)) H→wpAny (model X.prog X.w) X.A (call (.builtin "any") [.ref p]) (EP X pins σ Q) X.xe s):=by
 have hh:=I.ok.hd g.calm
 have tr:TruthOf X.prog X.w X.A.in1 (fun i v=>(bs.map Value.bool).toArray[i]?=some v) (fun i=>bs[i]?.getD true):=fun i v s' Q' E' hP hQ=>by
  simp only [List.getElem?_toArray,List.getElem?_map,Option.map_eq_some_iff] at hP
  obtain ⟨b,hb,rfl⟩:=hP
  have Ry:Q' (bs[i]?.getD true) s':=hQ
  rw [hb] at Ry
  exact wpAny_truthy_bool Ry
 have hsz:(bs.map Value.bool).toArray.size=bs.length:=by simp
 constructor
 ·intro q
  refine call_all_walk (tL I pl fun s₂ e st hne hfp=>?_)
  subst e
  refine ⟨_,_,_,_,_,_,_,rfl,Walks.list (A:=X.A.in1) hh _ p hne (bs.map Value.bool).toArray,st,tr,fun h' tk hk=>?_⟩
  rw [hsz,all_range]
  exact ⟨.bl _,H,I.kept (tM rfl rfl hk),rfl,q⟩
 ·intro q
  refine call_any_walk (tL I pl fun s₂ e st hne hfp=>?_)
  subst e
  refine ⟨_,_,_,_,_,_,_,rfl,Walks.list (A:=X.A.in1) hh _ p hne (bs.map Value.bool).toArray,st,tr,fun h' tk hk=>?_⟩
  rw [hsz,any_range]
  exact ⟨.bl _,H,I.kept (tM rfl rfl hk),rfl,q⟩
theorem LU (g:Good G n sc N df X):gD X (.builtin "all") (sV X.K (Ev.cS .all)):=by
 intro pins s σ H xs us Q I r q
 obtain ⟨rr,h,as,d,h',hr,v1,e,q⟩:=q
 match as,e with
 | [.ref m],e=>
  obtain ⟨e,rfl⟩:=Ev.aJ e
  simp only [Option.map_eq_some_iff,Option.bind_eq_some_iff] at e
  obtain ⟨bs,⟨ds,e1,e2⟩,rfl⟩:=e
  simp only [aI,RV] at v1
  obtain ⟨v,w,rfl,⟨p,rfl,z⟩,rfl⟩:=v1
  obtain ⟨u,rfl,ru⟩:=vals1 r
  cases ru
  obtain ⟨p',vs,z',q1,w⟩:=hr.read e1
  rw [z] at z';cases z'
  obtain ⟨zs,pv,pl,_⟩:=I.list q1
  have:=vf e2 w pv
  subst this
  exact (DJ g I pl).1 (q.here rfl hr)
theorem LV (g:Good G n sc N df X):gD X (.builtin "sum") (sV X.K (Ev.cS .sum)):=by
 intro pins s σ H xs us Q I r q
 obtain ⟨rr,h,as,d,h',hr,v1,e,q⟩:=q
 match as,e with
 | [.ref m],e=>
  obtain ⟨e,rfl⟩:=Ev.aJ e
  simp only [Option.map_eq_some_iff,Option.bind_eq_some_iff] at e
  obtain ⟨is,⟨ds,e1,e2⟩,rfl⟩:=e
  simp only [aI,RV] at v1
  obtain ⟨v,w,rfl,⟨p,rfl,z⟩,rfl⟩:=v1
  obtain ⟨u,rfl,ru⟩:=vals1 r
  cases ru
  obtain ⟨p',vs,z',q1,w⟩:=hr.read e1
  rw [z] at z';cases z'
  obtain ⟨zs,pv,pl,_⟩:=I.list q1
  have hi:=ym e2 w pv
  obtain ⟨ys,hys⟩:=(hi.allInts).items
  have hl:s.heap.IsList p (intItems ys):=by rw [←hys];exact pl.isList
  refine sum_intListG (I.ok.hd g.calm) hl fun h'' tk t' hk=>?_
  have hsum:preSum (numAt ys) ys.size=is.sum:=by
   have h1:numsOf zs.toArray.toList=is:=by rw [show zs.toArray.toList=zs from rfl];exact hi.numsOf
   rw [hys,nums_intItems] at h1
   rw [preSum_eq,List.take_of_length_le (by simp),h1]
  rw [hsum]
  exact ⟨.int is.sum,H,I.kept hk,⟨_,rfl⟩,q.here rfl hr⟩
theorem LW:gD X (.builtin "len") (sV X.K (Ev.cS .len)):=by
 intro pins s σ H xs us Q I r q
 obtain ⟨rr,h,as,d,h',hr,v1,e,q⟩:=q
 match as,e with
 | [.str l],e=>
  delta Ev.cS at e;dsimp only at e
  split at e
  ·cases e
   simp only [aI,RV] at v1
   obtain ⟨v,w,rfl,⟨rfl,hl⟩,rfl⟩:=v1
   refine uL pins s σ H _ us Q I r ⟨_,rfl,by rw [cU];exact hl,?_⟩
   rw [cU]
   exact q.here rfl hr
  ·cases e
 | [.tup ds],e=>
  cases e
  simp only [aI,RV] at v1
  obtain ⟨v,w,rfl,⟨p,vs,rfl,z,w'⟩,rfl⟩:=v1
  refine mZ pins s σ H _ us Q I r ⟨p,vs,rfl,.inr z,?_⟩
  rw [w'.length]
  exact q.here rfl hr
 | [.ref m],e=>
  obtain ⟨e,rfl⟩:=Ev.aJ e
  simp only [Option.map_eq_some_iff] at e
  obtain ⟨ds,e1,rfl⟩:=e
  simp only [aI,RV] at v1
  obtain ⟨v,w,rfl,⟨p,rfl,z⟩,rfl⟩:=v1
  obtain ⟨p',vs,z',q1,w⟩:=hr.read e1
  rw [z] at z';cases z'
  refine mZ pins s σ H _ us Q I r ⟨p,vs,rfl,.inl q1,?_⟩
  rw [w.length]
  exact q.here rfl hr
theorem LX (g:Good G n sc N df X):gD X (.builtin "min") (sV X.K (Ev.cS .min)):=by
 intro pins s σ H xs us Q I r q
 obtain ⟨rr,h,as,d,h',hr,v1,e,q⟩:=q
 match as,e with
 | [.int i,.int j],e=>
  cases e
  simp only [aI,RV] at v1
  obtain ⟨v,w,rfl,rfl,v',w',rfl,rfl,rfl⟩:=v1
  exact AX g.calm pins s σ H _ us Q I r ⟨i,j,rfl,q.here rfl hr⟩
theorem BC:sO X "list.append" (uU X.K (Ev.fM .append)):=by
 intro pins s σ H x xs v us Q I rx rs q
 obtain ⟨r,h,a,as,d,h',hr,v1,v2,e,q⟩:=q
 cases a with
 | ref m=>
  match as,e with
  | [b],e=>
   delta Ev.fM at e;dsimp only at e
   split at e
   ·rename_i ds e1
    split at e
    ·rename_i hz
     cases e
     rw [jk] at hz
     obtain ⟨p,rfl,z⟩:=v1.shape
     simp only [aI] at v2
     obtain ⟨y,w,rfl,v3,rfl⟩:=v2
     obtain ⟨p',g1,vs,g2,g3⟩:=hr.ob _ _ e1
     rw [z] at g1;cases g1
     refine sP pins s σ H _ _ v us Q I rx rs ⟨p,vs,y,rfl,rfl,g2,by rw [g3.length];exact hz,?_⟩
     have f:=Fm.write (K:=X.K) (ws:=vs++[y]) g2 (List.mem_of_getElem? z)
     exact q _ _ r rfl (hr.write e1 z g2 (g3.append (.cons v3 .nil))) f
    ·cases e
   ·cases e
  | [],e=>cases e
  | _ :: _ :: _,e=>cases e
 | _=>cases e
theorem BD:sO X "list.extend" (uU X.K (Ev.fM .extend)):=by
 intro pins s σ H x xs v us Q I rx rs q
 obtain ⟨r,h,a,as,d,h',hr,v1,v2,e,q⟩:=q
 cases a with
 | ref m=>
  match as,e with
  | [.ref k],e=>
   delta Ev.fM at e;dsimp only at e
   split at e
   ·rename_i ds es e1 e2
    split at e
    ·rename_i hz
     cases e
     rw [jk] at hz
     obtain ⟨p,rfl,z⟩:=v1.shape
     simp only [aI,RV] at v2
     obtain ⟨y,w,rfl,⟨p2,rfl,z2⟩,rfl⟩:=v2
     obtain ⟨p',g1,vs,g2,g3⟩:=hr.ob _ _ e1
     rw [z] at g1;cases g1
     obtain ⟨p'',k1,ws,k2,k3⟩:=hr.ob _ _ e2
     rw [z2] at k1;cases k1
     refine A4 pins s σ H _ _ v us Q I rx rs ⟨p,p2,vs,ws,rfl,rfl,g2,k2,by rw [g3.length,k3.length];exact hz,?_⟩
     have f:=Fm.write (K:=X.K) (ws:=vs++ws) g2 (List.mem_of_getElem? z)
     exact q _ _ r rfl (hr.write e1 z g2 (g3.append k3)) f
    ·cases e
   ·cases e
 | _=>cases e
theorem LY:sO X "list.pop" (uU X.K (Ev.fM .pop)):=by
 intro pins s σ H x xs v us Q I rx rs q
 obtain ⟨r,h,a,as,d,h',hr,v1,v2,e,q⟩:=q
 cases a with
 | ref m=>
  match as,e with
  | [],e=>
   delta Ev.fM at e;dsimp only at e
   split at e
   ·rename_i ds e1
    split at e
    ·rename_i y e2
     cases e
     obtain ⟨p,rfl,z⟩:=v1.shape
     simp only [aI] at v2
     subst v2
     obtain ⟨p',g1,vs,g2,g3⟩:=hr.ob _ _ e1
     rw [z] at g1;cases g1
     obtain ⟨vy,g4,g5⟩:=g3.get e2
     refine KA pins s σ H _ _ v us Q I rx rs ⟨p,vs,vy,rfl,rfl,g2,by rw [g3.length];exact g4,?_⟩
     have f:=Fm.write (K:=X.K) (ws:=vs.dropLast) g2 (List.mem_of_getElem? z)
     have hd:aI X.K H r ds.dropLast vs.dropLast:=by
      rw [List.dropLast_eq_take,List.dropLast_eq_take,g3.length]
      exact g3.take _
     exact q _ _ r (g5.mono f) (hr.write e1 z g2 hd) f
    ·cases e
   ·cases e
  | _ :: _,e=>cases e
 | _=>cases e
theorem pQ (sep:List Nat):∀ ss:List (List Nat),Str.join (aU sep) (ss.map aU)=aU (Ev.cR sep ss)
 | []=>rfl
 | [s]=>rfl
 | s :: t :: r=>by
  have ih:=pQ sep (t :: r)
  show aU s++aU sep++Str.join (aU sep) ((t :: r).map aU)=_
  rw [ih,rO,rO]
  rfl
theorem join_eq (sep:List Nat) (ss:List (List Nat)):Txt.join (aU sep) (ss.map aU)=aU (Ev.cR sep ss):=by
 rw [←pQ]
 exact PySem.StrLaws.glued_eq_join _ _
theorem Io:sO X "str.join" (uU X.K (Ev.fM .join)):=by
 intro pins s σ H x xs v us Q I rx rs q
 obtain ⟨r,h,a,as,d,h',hr,v1,v2,e,q⟩:=q
 cases a with
 | str sep=>
  match as,e with
  | [.ref k],e=>
   delta Ev.fM at e;dsimp only at e
   split at e
   ·rename_i ss e1
    split at e
    ·rename_i hz
     cases e
     simp only [Option.bind_eq_some_iff] at e1
     obtain ⟨ds,e1,e2⟩:=e1
     simp only [RV] at v1
     obtain ⟨rfl,hl⟩:=v1
     obtain ⟨t,rfl⟩:=rx
     simp only [aI,RV] at v2
     obtain ⟨y,w,rfl,⟨p2,rfl,z2⟩,rfl⟩:=v2
     obtain ⟨u,rfl,ru⟩:=vals1 rs
     cases ru
     obtain ⟨p',vs,z',q1,w⟩:=hr.read e1
     rw [z2] at z';cases z'
     obtain ⟨zs,pv,pl,_⟩:=I.list q1
     obtain ⟨g1,g2⟩:=yo e2 w pv
     have hlen:((ss.map aU).map (·.length)).sum+(ss.map aU).length*(aU sep).length≤16777216:=by
      rw [List.map_map,List.length_map,cU]
      have:(fun x:Str=>x.length) ∘ aU=fun l:List Nat=>l.length:=funext fun l=>cU l
      rw [this]
      exact hz
     refine join_list pl.isList g1 hlen fun t' k'=>?_
     rw [join_eq]
     refine ⟨.str _,H,I.tok _,⟨_,rfl⟩,q.here ⟨rfl,?_⟩ hr⟩
     have hj:=PySem.StrLaws.join_length_le (aU sep) (ss.map aU)
     rw [pQ,cU] at hj
     have:sizeLine=16777216:=sizeLine_eq
     omega
    ·cases e
   ·cases e
 | _=>cases e
end
end Sm
set_option maxRecDepth 100000
namespace Sm
open PySem PySem.Spec PyProof.Rows L2 PySem.SeqAt
open Ev (D O Hh Fr R aR E Es Eo T S Ss Fl Src bU bQ TY BI ME)
section
variable {X:Cx}{G:Tb}{n:Nat}{sc:Scope}{N:List Str}{df:Bool}{m:List Nat}{a b c:E}{xa xb xc tg:Expr}{pos:Pos}
end
end Sm
set_option maxRecDepth 100000
namespace Sm
open PySem PySem.Spec PyProof.Rows L2 PySem.SeqAt
open Ev (D O Hh Fr R aR E Es Eo T S Ss Fl Src bU bQ TY BI ME)
section
variable {X:Cx}{G:Tb}{n:Nat}{sc:Scope}{N:List Str}{df:Bool}{m:List Nat}{a b c:E}{xa xb xc tg:Expr}{pos:Pos}
theorem Vals.reverse {vs:List V}{us:List Value}(w:Vals vs us):Vals vs.reverse us.reverse:=by
 induction w with
 | nil=>exact .nil
 | cons a _ ih=>rw [List.reverse_cons,List.reverse_cons];exact ih.append (.cons a .nil)
end
end Sm
set_option maxRecDepth 100000
namespace Sm
open PySem PySem.Spec PyProof.Rows L2 PySem.SeqAt
open Ev (D O Hh Fr R aR E Es Eo T S Ss Fl Src bU bQ TY BI ME)
section
variable {G:Tb}{n:Nat}{sc:Scope}{N:List Str}{df:Bool}{m:List Nat}{a b c:E}{xa xb xc tg:Expr}{pos:Pos}
theorem DK (g:Good G n sc N df X):gD X (.type "tuple") (fun xs H Q=>∃ r h d x d' h',HR X.K H r h∧RV X.K H r d x∧xs=[x]∧Ev.rF d h=.ok d' h'∧Res X.K r H h' d' Q):=by
 intro pins s σ H xs us Q I rv q
 obtain ⟨r,h,d,x,d',h',hr,v1,rfl,e,q⟩:=q
 cases d with
 | tup ds=>
  cases e
  have v2:=v1
  obtain ⟨p,vs,rfl,z,w⟩:=v1.shape
  exact mK pins s σ H _ us Q I rv ⟨p,vs,rfl,.inr ⟨z,q.here v2 hr⟩⟩
 | ref i=>
  simp only [Ev.rF] at e
  split at e
  ·rename_i ds e1
   split at e
   ·cases e
    obtain ⟨p,rfl,z⟩:=v1.shape
    obtain ⟨p',vs,z',q1,w⟩:=hr.read e1
    rw [z] at z';cases z'
    exact mK pins s σ H _ us Q I rv ⟨p,vs,rfl,.inl ⟨q1,fun l hl=>q.tup w hr hl⟩⟩
   ·cases e
  ·cases e
 | _=>cases e
theorem LZ {p:Pos}(ha:JE G n sc N df m a xa) (h1:("tuple" : Str)∈G.bl:=by decide +kernel) (L0:sc.names.lookup ("tuple" : Str)=some .globalImplicit:=by rfl)
  (hst:∀ env:Env,starEach [xa] env=[(false,eval xa env)]:=by intro _;rfl):JE G n sc N df m (.iT a) (.Call (.Name "tuple" p) [xa] [] pos):=fun X g=>by
 refine PE.of (A1 (DK g) (g.gl L0) (g.bl _ h1) (by decide +kernel) (rq (ha X g) uH (hst _)) (by decide) (by decide) (hst _) rfl) fun s H Q q=>?_
 obtain ⟨r,fr,h,d,h',sr,hr,e,q⟩:=q
 simp only [Ev.ev] at e
 obtain ⟨x,h3,e1,e⟩:=Ev.ah e
 refine ⟨r,fr,h,x,_,sr,hr,e1,fun v H1 r1 v1 hr1 f1=>?_⟩
 exact ⟨r1,h3,x,v,d,h',hr1,v1,rfl,e,q.later f1⟩
theorem L1 {st:Stmt}:JS G n sc N df m .fL st:=fun X g=>PS.of C2 fun Q s H q=>by
 obtain ⟨r,fr,h,fl,aj,h',sr,hr,e,q⟩:=q
 simp only [Ev.ex] at e
 cases e
end
section
variable {prog:Program}{w:World}{A:Around}{E:Value→Shared→Prop}{s:Shared}
end
end Sm
set_option maxRecDepth 100000
namespace Sm
open PySem PySem.Spec PyProof.Rows L2 PySem.SeqAt
open Ev (D O Hh Fr R aR E Es Eo T S Ss Fl Src bU bQ TY BI ME)
section
variable {G:Tb}{n:Nat}{sc:Scope}{N:List Str}{df:Bool}{m:List Nat}{a b c:E}{xa xb xc:Expr}{pos:Pos}
end
end Sm
set_option maxRecDepth 100000
namespace Sm
open PySem PySem.Spec PyProof.Rows L2 PySem.SeqAt
open Ev (D O Hh Fr R aR E Es Eo T S Ss Fl Src bU bQ TY BI ME)
noncomputable def rP:List (D×D)→Bool
 | []=>true
 | (.str k,.str v) :: r=>decide (v.length≤1000)&&rP r
 | _=>false
theorem vg {s:List Nat}{r:D}:∀ {kvs:List (D×D)},rP kvs=true→Ev.fk (.str s) kvs=some r→∃ t,r=.str t∧t.length≤1000∧PySem.Spec.lookup (.str (aU s)) (tabOf kvs)=some (.str (aU t))
 | [],_,e=>by simp [Ev.fk] at e
 | (k,v) :: l,ha,e=>by
  cases k <;> cases v <;> simp only [rP,Bool.false_eq_true,Bool.and_eq_true,decide_eq_true_eq] at ha
  rename_i k v
  simp only [Ev.fk] at e
  rw [show Ev.gG [] 1 (.str k) (.str s)=some (k==s) from rfl] at e
  simp only [tabOf,PySem.Spec.lookup]
  by_cases h:k=s
  ·subst h
   simp at e
   subst e
   refine ⟨v,rfl,ha.1,?_⟩
   have:PySem.Spec.same (.str (aU k)) (.str (aU k))=true:=by rw [PyProof.V.same_str];simp
   rw [this];rfl
  ·have hb:(k==s)=false:=by simpa using h
   rw [hb] at e
   simp only at e
   obtain ⟨t,h1,h2,h3⟩:=vg ha.2 e
   refine ⟨t,h1,h2,?_⟩
   have:PySem.Spec.same (.str (aU k)) (.str (aU s))=false:=by
    rw [PyProof.V.same_str]
    simp
    exact fun z=>h (rG z)
   rw [this]
   exact h3
theorem vh {y r:D}:∀ {kvs:List (D×D)},rP kvs=true→Ev.fk y kvs=some r→∃ s,y=.str s
 | [],_,e=>by simp [Ev.fk] at e
 | (k,v) :: l,ha,e=>by
  cases k <;> cases v <;> simp only [rP,Bool.false_eq_true,Bool.and_eq_true,decide_eq_true_eq] at ha
  cases y with
  | str s=>exact ⟨s,rfl⟩
  | ref a=>cases e
  | _=>first | exact vh ha.2 e | cases e
section
variable {G:Tb}{n:Nat}{sc:Scope}{N:List Str}{df:Bool}{m:List Nat}{a b c:E}{xa xb xc:Expr}{pos:Pos}
theorem Ip {x:Str}{kvs:List (D×D)}{p:Pos}(hm:(x,kvs)∈G.dk) (ha:JE G n sc N df m a xa) (hk:rP kvs=true:=by decide) (hg:sc.names.lookup x=some .globalImplicit:=by rfl) (hd:(x==("__debug__" : Str))=false:=by decide) (hs:rC xa:=by intro _ _;rfl) :
  JE G n sc N df m (.jy kvs a) (.Subscript (.Name x p) xa pos):=fun X g=>by
 intro pins s σ H Q I q
 obtain ⟨r,fr,h,d,h',sr,hr,e,q⟩:=q
 simp only [Ev.ev] at e
 replace e:=Ev.ah e;obtain ⟨y,h1,e1,e⟩:=e
 replace e:=Ev.aJ e;obtain ⟨e,y0⟩:=e;subst y0
 obtain ⟨ad,hmg,htab⟩:=g.dk x kvs hm
 refine Subscript_ (zd (xN (v:=.ref ad) (g.gl hg) hmg rfl hd) (ha X g) I (R:=fun x' y' H2=>x'=.ref ad∧∃ r1,RV X.K H2 r1 y y'∧HR X.K H2 r1 h'∧Fm X.K r r1 H H2) ?_ fun v u s2 x' y' H2 I2 rx ry z=>?_)
 ·refine ⟨r,fr,h,y,h',sr,hr,e1,fun v H1 r1 v1 hr1 f1=>⟨rfl,r1,v1,hr1,f1⟩⟩
 ·obtain ⟨rfl,r1,v1,hr1,f1⟩:=z
  obtain rfl:v=Value.ref ad:=rx
  have hy:∃ sx,y=.str sx:=vh hk e
  obtain ⟨sx,rfl⟩:=hy
  obtain ⟨t,rfl,ht,hl⟩:=vg hk e
  simp only [RV] at v1
  obtain ⟨rfl,_⟩:=v1
  obtain ⟨tk,rfl⟩:=ry
  refine item_strTab (htab s2.heap I2.sG) hl (fun v hv=>?_) (hs _ _)
  obtain ⟨t2,rfl⟩:=PyProof.V.Flat.str_inv hv
  exact ⟨.str (aU t),H2,I2.tok _,⟨t2,rfl⟩,q _ H2 r1 ⟨rfl,Nat.le_trans ht (by rw [sizeLine_eq];decide)⟩ hr1 f1⟩
end
end Sm
set_option maxRecDepth 100000
namespace Sm
open PySem PySem.Spec PyProof.Rows L2 PySem.SeqAt
open Ev (D O Hh Fr R aR E Es Eo T S Ss Fl Src bU bQ TY BI ME)
section
variable {X:Cx}{G:Tb}{n:Nat}{sc:Scope}{N:List Str}{df:Bool}{m:List Nat}{a b c:E}{xa xb xc xd tg:Expr}{pos:Pos}
end
end Sm
set_option maxRecDepth 100000
namespace Rv
open PySem PyProof.Rows
theorem nh:Manifest.owners.lookup (String.ofList ['d','e','s','r','e','v','e','r'].reverse)=some Manifest.sig_reversed:=by kernel_rfl
theorem slot_next:Slot "reversed" "__next__" "reversed.__next__" :=
 .of (owner:="reversed") (n:="__next__") (by rw [typeLookup_type,builtinLookup_eq_fast];kernel_rfl) (by decide +kernel) (by decide +kernel) (by decide +kernel)
  (by first | exact .inl (by decide +kernel) | exact .inr (by decide +kernel)) (by rw [isSubtype_type];kernel_rfl)
theorem entry_next:entryFor table "reversed.__next__" = some Builtin.«reversed.__next__»:=entryFor_of_tree (by kernel_rfl)
theorem args_next (a:Value):argsOk "reversed.__next__" ⟨[a],[]⟩:=by
 unfold argsOk;rw [signature?_of (id:="reversed.__next__") (n:=['_','_','t','x','e','n','_','_']) (o:=['d','e','s','r','e','v','e','r']) (by kernel_rfl) nh];kernel_rfl
theorem tN:Slot "reversed" "__iter__" "reversed.__iter__" :=
 .of (owner:="reversed") (n:="__iter__") (by rw [typeLookup_type,builtinLookup_eq_fast];kernel_rfl) (by decide +kernel) (by decide +kernel) (by decide +kernel)
  (by first | exact .inl (by decide +kernel) | exact .inr (by decide +kernel)) (by rw [isSubtype_type];kernel_rfl)
theorem BE (a:Value):argsOk "reversed.__iter__" ⟨[a],[]⟩:=by
 unfold argsOk;rw [signature?_of (id:="reversed.__iter__") (n:=['_','_','r','e','t','i','_','_']) (o:=['d','e','s','r','e','v','e','r']) (by kernel_rfl) nh];kernel_rfl
theorem zI:entryFor table "reversed.__iter__" = some Builtin.«dict_keyiterator.__iter__»:=
 entryFor_alias (id':="dict_keyiterator.__iter__") (by kernel_rfl) (by first | rfl | decide +kernel | (unfold String.splitOn;simp +decide [String.splitOnAux])) (by decide +kernel) (by kernel_rfl)
theorem ni:Slot "reversed" "__length_hint__" "reversed.__length_hint__" :=
 .of (owner:="reversed") (n:="__length_hint__") (by rw [typeLookup_type,builtinLookup_eq_fast];kernel_rfl) (by decide +kernel) (by decide +kernel) (by decide +kernel)
  (by first | exact .inl (by decide +kernel) | exact .inr (by decide +kernel)) (by rw [isSubtype_type];kernel_rfl)
theorem zJ:entryFor table "reversed.__length_hint__" = some Builtin.«reversed.__length_hint__»:=entryFor_of_tree (by kernel_rfl)
theorem BF (a:Value):argsOk "reversed.__length_hint__" ⟨[a],[]⟩:=by
 unfold argsOk;rw [signature?_of (id:="reversed.__length_hint__") (n:=['_','_','t','n','i','h','_','h','t','g','n','e','l','_','_']) (o:=['d','e','s','r','e','v','e','r']) (by kernel_rfl) nh];kernel_rfl
theorem L3:typeLookup (.type "reversed") "__len__" = pure none:=by rw [typeLookup_type,builtinLookup_eq_fast];kernel_rfl
theorem L4:typeLookup (.type "tuple") "__reversed__" = pure none:=by rw [typeLookup_type,builtinLookup_eq_fast];kernel_rfl
section
variable {prog:Program}{w:World}{A:Around}{E:Value→Shared→Prop}{s:Shared}
theorem BG:Slot "reversed" "__init__" "object.__init__" :=
 .of (owner:="object") (n:="__init__") (by rw [typeLookup_type,builtinLookup_eq_fast];kernel_rfl) (by decide +kernel) (by decide +kernel) (by decide +kernel)
  (by first | exact .inl (by decide +kernel) | exact .inr (by decide +kernel)) (by rw [isSubtype_type];kernel_rfl)
theorem called:TypeCalled "reversed" "reversed.__new__" "object.__init__" :=
 ⟨by decide +kernel,by decide +kernel,⟨_,_,F.mro_reversed⟩,F.made_reversed,by decide +kernel,F.sub_reversed_self,BG⟩
noncomputable def gH (h:Heap) (a t:Addr) (i:Int):Prop:=∃ o,h.get? a=some o∧o.cls=.type "reversed" ∧o.data=.fields #[.ref t,rawInt i]
theorem gH.typeIs {a l:Addr}{i:Int}(x:gH s.heap a l i):s.TypeIs (.ref a) "reversed" :=let ⟨o,ho,hc,_⟩:=x;⟨o,ho,hc⟩
theorem gH.at {h h':Heap}{a l:Addr}{i:Int}(x:gH h a l i) (e:∀ o,h.get? a=some o→h'.get? a=some o):gH h' a l i:=let ⟨o,ho,r⟩:=x;⟨o,e _ ho,r⟩
noncomputable def oB (l:Addr) (i:Int):Obj:={ cls:=.type "reversed",data:=.fields #[.ref l,rawInt i]}
theorem oE {h h':Heap}{t:Addr}{items:Array Value}(x:IsTup h t items) (e:∀ o,h.get? t=some o→h'.get? t=some o):IsTup h' t items:=let ⟨o,ho,r⟩:=x;⟨o,e _ ho,r⟩
theorem DL {t:Addr}{items:Array Value}{Q₁:Value→Shared→Prop}(ht:IsTup s.heap t items) (hfit:(items.size:Int)<2 ^ 63)
  (h:Q₁ (.ref s.heap.objs.size) { s with heap:=s.heap.push (oB t ((items.size:Int) - 1)),toks:=s.toks+1+1 }) :
  codeAny (model prog w) A (.call (.builtin "reversed.__new__") ⟨[.type "reversed",.ref t],[]⟩) (wants Q₁ E) s:=by
 refine codeAny_of_tree ?_
 show wpAny _ A.in1 (do checkBuiltinCall "reversed.__new__" ⟨[.type "reversed",.ref t],[]⟩;again (.builtin "reversed.__new__" ⟨[.type "reversed",.ref t],[]⟩)) _ _ s
 refine wpAny_bind (wpAny_of_eq (F.newCall_reversed_1 _) (wpAny_pure ⟨plainId_quiet F.plain_reversed_new _,codeAny_builtin F.entry_reversed_new ?_⟩))
 rw [Around.under_plainId F.plain_reversed_new _]
 unfold Builtin.«reversed.__new__»
 refine wpAny_bind (wpAny_of_eq (newClass_reversed _) ?_)
 try dsimp only
 refine wpAny_bind (wpAny_of_eq (a:=()) (by first | rfl | kernel_rfl) ?_)
 refine wpAny_bind (wpAny_of_eq (a:=()) (by first | rfl | kernel_rfl) ?_)
 try dsimp only
 refine wpAny_bind (wpAny_specialOf ht.typeIs L4 ?_)
 try dsimp only
 refine wpAny_bind ?_
 wp_delta
 refine wpAny_bind (wpAny_isInstance (T:="tuple") (b:=false) ht.typeIs (by rw [isSubtype_type];kernel_rfl) ?_)
 refine wpAny_ite_split (fun hab=>absurd hab (by decide)) (fun _=>?_)
 refine wpAny_bind (wpAny_specialOf ht.typeIs slot_tuple_getitem.lookup ?_)
 try dsimp only
 refine wpAny_ite_split (fun _=>?_) (fun hab=>absurd (by decide) hab)
 refine wpAny_pure ?_
 refine wpAny_ite_split (fun hab=>absurd hab (by decide)) (fun _=>?_)
 refine wpAny_bind (len_tuple ht hfit ?_)
 refine wpAny_bind (m:=asInt? _) (wpAny_pure ?_)
 try dsimp only
 refine wpAny_bind (m:=Builtin.SmallTypes.newRecord _ _) ?_
 unfold Builtin.SmallTypes.newRecord
 refine wpAny_newObj_type ?_ (by size_fits)
 exact wpAny_pure h
theorem DM {t:Addr}{items:Array Value}{Q:Value→Shared→Prop}(ht:IsTup s.heap t items) (hfit:(items.size:Int)<2 ^ 63)
  (h:Q (.ref s.heap.objs.size) { s with heap:=s.heap.push (oB t ((items.size:Int) - 1)),toks:=s.toks+1+1 }):wpAny (model prog w) A (call (.type "reversed") [.ref t]) Q E s:=by
 refine callType_codes (Q₁:=fun obj s₁=>obj=.ref s.heap.objs.size∧s₁={ s with heap:=s.heap.push (oB t ((items.size:Int) - 1)),toks:=s.toks+1+1 }) called (F.typeCall_reversed_1 _) F.entry_object_init (DL ht hfit ⟨rfl,rfl⟩) ?_
 rintro obj s₁ ⟨rfl,rfl⟩
 have hT:({ s with heap:=s.heap.push (oB t ((items.size:Int) - 1)),toks:=s.toks+1+1 }:Shared).TypeIs (.ref s.heap.objs.size) "reversed" :=⟨_,Heap.get?_push_size _ rfl,rfl⟩
 refine ⟨hT,F.args_object_init_2 _ _,?_⟩
 exact object_init_meets (self:=Value.ref s.heap.objs.size) (rest:=[Value.ref t]) called.init.lookup called.made (by decide) prog w A.in1 _ _ ⟨hT,rfl,h⟩
theorem next_item {it t:Addr}{i:Nat}{items:Array Value}{x:Value}{Q:Option Value→Shared→Prop}(hit:gH s.heap it t (i:Int)) (ht:IsTup s.heap t items) (hx:items[i]?=some x) (hfit:(items.size:Int)<2 ^ 62)
  (hQ:∀ h' tk,gH h' it t ((i:Int) - 1)→Heap.SameBut it s.heap h'→Q (some x) { s with heap:=h',toks:=tk }):wpAny (model prog w) A (pyNext (.ref it)) Q E s:=by
 obtain ⟨o,ho,hc,hd⟩:=id hit
 have hi:i<items.size:=(Array.getElem?_eq_some_iff.mp hx).1
 unfold pyNext
 refine wpAny_bind (wpAny_attempt (wpAny_callSpecial?_slot (name:=Str.ofString "__next__") hit.typeIs slot_next
  (wpAny_call_entry slot_next hit.typeIs entry_next ?_ (args_next _))))
 unfold Builtin.«reversed.__next__»
 refine wpAny_bind (wpAny_of_eq (a:=(Value.ref it,[])) rfl ?_)
 try dsimp only
 refine wpAny_bind (wpAny_field ho hd (x:=.ref t) rfl ?_)
 refine wpAny_bind (wpAny_field ho hd (x:=rawInt (i:Int)) rfl ?_)
 show wpAny _ _ (if (i:Int)<0 then _ else _) _ _ s
 rw [if_neg (by omega)]
 try dsimp only
 refine wpAny_bind (wpAny_specialOf ht.typeIs slot_tuple_getitem.lookup ?_)
 try dsimp only
 refine wpAny_ite_split (fun hab=>absurd hab (by decide)) (fun _=>?_)
 refine wpAny_bind (wpAny_mkInt ?_)
 refine wpAny_bind (wpAny_attempt (getItem_tuple (j:=i) ht (by omega) (by omega) (by unfold seqIndex?;simp;omega) hx ?_))
 try dsimp only
 refine wpAny_bind (wpAny_field ho hd (x:=rawInt (i:Int)) rfl ?_)
 show wpAny _ _ (setField (.ref it) 1 (rawInt ((i:Int) - 1)) >>= _) _ _ _
 refine wpAny_bind (wpAny_setField ho hd (by simp) ?_)
 refine wpAny_pure ⟨x,rfl,wpAny_pure (hQ _ _ ?_ (Heap.SameBut.update ..))⟩
 exact ⟨_,Heap.get?_update_self _ ho (Obj.isFreed_of_fields (Obj.data_mapFields hd _)),(Obj.cls_mapFields ..).trans hc,by
  rw [Obj.data_mapFields hd];simp⟩
theorem next_end {it t:Addr}{Q:Option Value→Shared→Prop}(hh:A.handled=none) (hit:gH s.heap it t (-1))
  (hQ:∀ h',Heap.ExtBut it s.heap h'→Q none { s with heap:=h' }):wpAny (model prog w) A (pyNext (.ref it)) Q E s:=by
 obtain ⟨o,ho,hc,hd⟩:=id hit
 unfold pyNext
 refine wpAny_bind (wpAny_attempt (wpAny_callSpecial?_slot (name:=Str.ofString "__next__") hit.typeIs slot_next
  (wpAny_call_entry slot_next hit.typeIs entry_next ?_ (args_next _))))
 unfold Builtin.«reversed.__next__»
 refine wpAny_bind (wpAny_of_eq (a:=(Value.ref it,[])) rfl ?_)
 try dsimp only
 refine wpAny_bind (wpAny_field ho hd (x:=.ref t) rfl ?_)
 refine wpAny_bind (wpAny_field ho hd (x:=rawInt (-1)) rfl ?_)
 show wpAny _ _ (if (-1:Int)<0 then _ else _) _ _ s
 rw [if_pos (by decide)]
 refine wpAny_bind (wpAny_rule ?_)
 refine wpAny_bind ?_
 wp_delta
 refine wpAny_bind (wpAny_setField ho hd (by simp) ?_)
 have ho2:=Heap.get?_update_self (Obj.mapFields fun x=>x.setIfInBounds 1 (rawInt (-1))) ho (Obj.isFreed_of_fields (Obj.data_mapFields hd _))
 refine wpAny_setField ho2 (Obj.data_mapFields hd _) (by simp) ?_
 refine wpAny_bind ?_
 unfold Builtin.SmallTypes.stopIteration
 first
 | show wpAny _ _ (newExc (.type "StopIteration") [] >>= _) _ _ _
 | (refine wpAny_bind ?_;show wpAny _ _ (newExc (.type "StopIteration") [] >>= _) _ _ _)
 refine wpAny_bind ?_
 simp only [newExc,newTuple]
 refine wpAny_bind (wpAny_newObj_type ?_ (by size_fits))
 refine wpAny_bind (m:=firstArgMember _ _) (wpAny_of_eq (a:=Value.none) (by first | rfl | (simp only [firstArgMember];rfl)) ?_)
 refine wpAny_newObj_type ?_ (by size_fits)
 simp only [raiseNew]
 refine wpAny_bind (wpAny_handled ?_)
 first | rw [show A.in1.handled=none from hh] | rw [hh]
 refine wpAny_bind (wpAny_pure (wpAny_throw ?_))
 refine wpAny_bind (wpAny_isInstance (T:="StopIteration") (b:=true) ⟨_,Heap.get?_push_size _ rfl,rfl⟩ isSubtype_stop ?_)
 exact wpAny_pure (hQ _ ((((Heap.SameBut.update ..).extBut.trans (Heap.SameBut.update ..).extBut).push _).push _))
theorem vj {it t:Addr}{i:Int}{Q:Value→Shared→Prop}(hit:gH s.heap it t i) (h:Q (.ref it) s):wpAny (model prog w) A (pyIter (.ref it)) Q E s:=by
 refine wpAny_pyIter_slot hit.typeIs tN (wpAny_call_entry tN hit.typeIs zI ?_ (BE _))
 show wpAny _ _ (ret (.ref it)) _ _ s
 exact wpAny_pure ⟨_,rfl,"reversed",_,hit.typeIs,slot_next.lookup,h⟩
theorem DN {it t:Addr}{items:Array Value}{Q:Bool→Shared→Prop}(hit:gH s.heap it t ((items.size:Int) - 1)) (ht:IsTup s.heap t items) (hfit:items.size≤sizeLine)
  (h:∀ tk,Q ((items.size:Int) != 0) { s with toks:=tk }):wpAny (model prog w) A (Builtin.List.listLengthHint (.ref it)) Q E s:=by
 obtain ⟨o,ho,hc,hd⟩:=id hit
 unfold Builtin.List.listLengthHint
 refine wpAny_bind (wpAny_specialOf hit.typeIs L3 ?_)
 refine wpAny_ite_split (fun hab=>absurd hab (by decide +kernel)) (fun _=>?_)
 refine wpAny_ite_split (fun hab=>absurd hab (by decide)) (fun _=>?_)
 refine wpAny_bind (wpAny_specialOf hit.typeIs ni.lookup ?_)
 generalize hid:("reversed.__length_hint__" : String)=Wq
 dsimp only
 rw [show splitId Wq=some ("reversed","__length_hint__") from by subst hid;decide +kernel]
 subst hid
 dsimp only
 refine wpAny_bind (wpAny_isInstance (T:="reversed") (b:=true) hit.typeIs (by rw [isSubtype_type];kernel_rfl) ?_)
 refine wpAny_ite_split (fun hab=>absurd hab (by decide)) (fun _=>?_)
 refine wpAny_ite_split (fun hab=>absurd hab (by decide +kernel)) (fun _=>?_)
 refine wpAny_bind (wpAny_rule ?_)
 refine wpAny_bind (wpAny_of_eq (ni.bind _) ?_)
 refine wpAny_bind (wpAny_attempt (wpAny_call_entry ni hit.typeIs zJ ?_ (BF _)))
 unfold Builtin.«reversed.__length_hint__»
 refine wpAny_bind (wpAny_of_eq (a:=Value.ref it) rfl ?_)
 refine wpAny_bind (wpAny_field ho hd (x:=.ref t) rfl ?_)
 refine wpAny_ite_split (fun hab=>absurd hab Bool.false_ne_true) (fun _=>?_)
 have hf2:(items.size:Int)<2 ^ 63:=by rw [sizeLine_eq] at hfit;omega
 refine wpAny_bind (len_tuple ht hf2 ?_)
 refine wpAny_bind (m:=asInt? _) (wpAny_pure ?_)
 refine wpAny_bind (wpAny_field ho hd (x:=rawInt ((items.size:Int) - 1)) rfl ?_)
 show wpAny _ _ (if (items.size:Int)<(items.size:Int) - 1+1 then _ else _) _ _ _
 rw [if_neg (by omega)]
 have e1:(items.size:Int) - 1+1=(items.size:Int):=by omega
 rw [e1]
 unfold retInt
 refine wpAny_bind (wpAny_mkInt (wpAny_pure ⟨_,rfl,?_⟩))
 generalize s.toks+1+1=tk
 show wpAny _ _ (asInt? (Value.int (items.size:Int) tk) >>= _) _ _ _
 refine wpAny_bind ?_
 refine wpAny_pure (a:=some (items.size:Int)) ?_
 have Wr:Builtin.List.listFitsIndex (items.size:Int)=true:=by unfold Builtin.List.listFitsIndex;rw [decide_eq_true (by omega),decide_eq_true (by omega)];rfl
 show wpAny _ _ (if (!Builtin.List.listFitsIndex (items.size:Int))=true then _ else _) _ _ _
 rw [if_neg (by rw [Wr];decide)]
 show wpAny _ _ (if (items.size:Int)<0 then _ else _) _ _ _
 rw [if_neg (by omega)]
 have Ws:Builtin.List.listTooLong ((items.size:Int).toNat)=false:=by unfold Builtin.List.listTooLong;rw [Int.toNat_natCast];exact decide_eq_false (by omega)
 show wpAny _ _ (if Builtin.List.listTooLong ((items.size:Int).toNat)=true then _ else _) _ _ _
 rw [if_neg (by rw [Ws];decide)]
 exact wpAny_pure (h _)
theorem _root_.PySem.Walks.L5 (hh:A.handled=none) (I t:Addr) (hne:t≠I) (items:Array Value) (hfit:(items.size:Int)<2 ^ 62) :
  Walks prog w A I [I,t] [I] items.size (fun i v=>items[items.size - 1 - i]?=some v) (fun i h=>i≤items.size∧gH h I t ((items.size:Int) - 1 - (i:Int))∧IsTup h t items) where
 sub:=fun b hb=>by simp at hb;simp [hb]
 frame:=fun _ _ _ x hk=>⟨x.1,x.2.1.at fun o e=>hk I (by simp) o e,oE x.2.2 fun o e=>hk t (by simp) o e⟩
 item:=fun i s Q E hi x hQ=>by
  have e:(items.size:Int) - 1 - (i:Int)=((items.size - 1 - i:Nat):Int):=by omega
  have hit:=x.2.1
  rw [e] at hit
  have hx:items[items.size - 1 - i]?=some (items[items.size - 1 - i]'(by omega)):=Array.getElem?_eq_getElem (by omega)
  refine next_item hit x.2.2 hx hfit fun h' tk L6 hs'=>?_
  have e2:((items.size - 1 - i:Nat):Int) - 1=(items.size:Int) - 1 - ((i+1:Nat):Int):=by omega
  rw [e2] at L6
  exact hQ _ h' tk hx ⟨hi,L6,oE x.2.2 fun o eo=>(hs'.2 t hne).trans eo⟩ fun b o hb eo=>hs'.extBut b o (fun h=>hb (by simp [h])) eo
 done:=fun s Q E x hQ=>by
  have e:(items.size:Int) - 1 - (items.size:Int) = -1:=by omega
  have hit:=x.2.1
  rw [e] at hit
  exact next_end hh hit fun h' he'=>hQ h' s.toks fun b o hb eo=>he' b o (fun h=>hb (by simp [h])) eo
 self:=fun _ _ _ _ x hQ=>vj x.2.1 hQ
theorem zK {R:Result→Shared→Prop}{I t:Addr}{items:Array Value}(hh:A.handled=none) (hit:gH s.heap I t ((items.size:Int) - 1)) (ht:IsTup s.heap t items) (hne:t≠I) (hlen:items.size≤sizeLine)
  (S:Addr) (hSI:S≠I) (hSt:S≠t) (res:Value) (c₀:Nat) (hS:s.heap.get? S=some { cls:=.type "list",data:=.seq #[] c₀ })
  (hR:∀ h' tk acc' c',(∀ b o,b≠S→b≠I→s.heap.get? b=some o→h'.get? b=some o)→h'.get? S=some { cls:=.type "list",dict:=none,data:=.seq acc' c',slots:=#[]}→
   ItemsOf (fun i v=>items[items.size - 1 - i]?=some v) acc' items.size→R (.ok (.ret res)) { s with heap:=h',toks:=tk }) :
  wpAny (model prog w) A.in1 (Builtin.List.listExtendWith (.ref S) (.ref I) res)
   (fun fin s'=>match fin with | .done f=>R (.ok f) s' | .again c'=>c'.quiet=true∧codeAny (model prog w) A c' R s') (fun e s'=>R (.error e) s') s:=by
 have hf:(items.size:Int)<2 ^ 62:=by rw [sizeLine_eq] at hlen;omega
 have hSf:S∉[I,t]:=fun hm=>by rcases List.mem_cons.mp hm with e | e;exact hSI e;exact hSt (List.mem_singleton.mp e)
 have W:=(Walks.L5 (prog:=prog) (w:=w) (A:=A.in1) hh I t hne items hf).toS
 have key:∀ (h:Heap) (c₁ tk:Nat),gH h I t ((items.size:Int) - 1 - ((0:Nat):Int))→IsTup h t items→(∀ b o,b≠S→s.heap.get? b=some o→h.get? b=some o)→
   h.get? S=some { cls:=.type "list",data:=.seq #[] c₁ }→codeAny (model prog w) A (.builtin "list.extend.loop" ⟨[.ref S,.ref I,res],[]⟩) R { s with heap:=h,toks:=tk }:=by
  intro h c₁ tk hit ht hk Pj
  refine codeAny_extend_loopS W hlen S hSf res items.size 0 _ #[] c₁ rfl (Nat.zero_le _) ⟨Nat.zero_le _,hit,ht⟩ Pj (ItemsOf.nil _) fun s' acc' c' hm hS' hacc=>?_
  rw [Moved.eq_with hm]
  refine hR s'.heap s'.toks acc' c' (fun b o hb hb2 e=>hm.heap b o (fun hmem=>?_) (hk b o hb e)) hS' hacc
  rcases List.mem_cons.mp hmem with e' | hmem
  ·exact hb e'
  ·exact hb2 (List.mem_singleton.mp hmem)
 unfold Builtin.List.listExtendWith
 refine wpAny_bind (wpAny_typeOf (T:="reversed") hit.typeIs ?_)
 have h1:Builtin.List.listSameRef (.ref S) (.ref I)=false:=by simp [Builtin.List.listSameRef,hSI]
 have h2:(Value.type "reversed" ==Value.type "list")=false:=by decide
 have h3:(Value.type "reversed" ==Value.type "tuple")=false:=by decide
 simp only [h1,h2,h3,Bool.or_false,Bool.false_eq_true,if_false]
 refine wpAny_bind (vj hit ?_)
 refine wpAny_bind (wpAny_holding (DN hit ht hlen fun tk=>?_))
 have L7:gH s.heap I t ((items.size:Int) - 1 - ((0:Nat):Int)):=by simpa using hit
 refine wpAny_ite_split (fun _=>?_) (fun _=>wpAny_pure ⟨plainId_quiet F.plain_extend_loop _,key _ c₀ _ L7 ht (fun b o _ e=>e) hS⟩)
 refine wpAny_bind (wpAny_rule ?_)
 refine wpAny_bind ?_
 show wpAny _ _ (updateSeq S (·.push .none) >>= fun _=>updateSeq S (·.pop)) _ _ _
 refine wpAny_bind (wpAny_updateSeq hS rfl ?_)
 have ug:=Heap.get?_update_self (Obj.mapSeq (·.push Value.none)) hS rfl
 refine wpAny_updateSeq (hz:=by seq_fits) ug rfl ?_
 have Pk:=Heap.get?_update_self (Obj.mapSeq (·.pop)) ug rfl
 have ot:∀ b o,b≠S→s.heap.get? b=some o→((s.heap.update S (Obj.mapSeq (·.push Value.none))).update S (Obj.mapSeq (·.pop))).get? b=some o:=fun b o hb e=>(Heap.get?_update_other _ _ (Ne.symm hb)).trans ((Heap.get?_update_other _ _ (Ne.symm hb)).trans e)
 exact wpAny_pure ⟨plainId_quiet F.plain_extend_loop _,key _ _ _ (L7.at fun o e=>ot _ _ (Ne.symm hSI) e) (oE ht fun o e=>ot _ _ (Ne.symm hSt) e) ot Pk⟩
theorem DO {R:Result→Shared→Prop}{I t:Addr}{items:Array Value}(hh:A.handled=none) (hit:gH s.heap I t ((items.size:Int) - 1)) (ht:IsTup s.heap t items) (hne:t≠I) (hlen:items.size≤sizeLine)
  (S:Addr) (hSI:S≠I) (hSt:S≠t) (hS:s.heap.get? S=some { cls:=.type "list",data:=.seq #[]})
  (hR:∀ h' tk acc' c',(∀ b o,b≠S→b≠I→s.heap.get? b=some o→h'.get? b=some o)→h'.get? S=some { cls:=.type "list",dict:=none,data:=.seq acc' c',slots:=#[]}→
   ItemsOf (fun i v=>items[items.size - 1 - i]?=some v) acc' items.size→R (.ok (.ret .none)) { s with heap:=h',toks:=tk }) :
  wpAny (model prog w) A.in1 (Builtin.«list.__init__» ⟨[.ref S,.ref I],[]⟩)
   (fun fin s'=>match fin with | .done f=>R (.ok f) s' | .again c'=>c'.quiet=true∧codeAny (model prog w) A c' R s') (fun e s'=>R (.error e) s') s:=by
 show wpAny _ _ (do let old ←Builtin.List.listItems (.ref S);Builtin.List.listUpdate (.ref S) (fun _=>#[]);letGo old.toList.reverse;Builtin.List.listExtendWith (.ref S) (.ref I) .none) _ _ s
 refine wpAny_bind ?_
 unfold Builtin.List.listItems
 refine wpAny_bind (wpAny_seqItems hS rfl (wpAny_pure ?_))
 show wpAny _ _ (updateSeq S (fun _=>#[]) >>= fun _=>letGo (#[]:Array Value).toList.reverse >>= fun _=>Builtin.List.listExtendWith (.ref S) (.ref I) .none) _ _ s
 refine wpAny_bind (wpAny_updateSeq hS rfl ?_)
 have ug:=Heap.get?_update_self (Obj.mapSeq (fun _=>(#[]:Array Value))) hS rfl
 have L8:∀ b o,b≠S→s.heap.get? b=some o→(s.heap.update S (Obj.mapSeq (fun _=>(#[]:Array Value)))).get? b=some o:=
  fun b o hb e=>(Heap.get?_update_other _ _ (Ne.symm hb)).trans e
 refine wpAny_bind (wpAny_letGo ?_)
 refine zK hh (hit.at fun o e=>L8 _ _ (Ne.symm hSI) e) (oE ht fun o e=>L8 _ _ (Ne.symm hSt) e) hne hlen S hSI hSt .none _ ug fun h' tk acc' c' hk hS' hacc=>?_
 exact hR h' tk acc' c' (fun b o hb hb2 e=>hk b o hb hb2 (L8 b o hb e)) hS' hacc
theorem tZ {Q:Value→Shared→Prop}{I t:Addr}{items:Array Value}(hh:A.handled=none) (hit:gH s.heap I t ((items.size:Int) - 1)) (ht:IsTup s.heap t items) (hne:t≠I) (hlen:items.size≤sizeLine)
  (hQ:∀ h' tk acc' c',(∀ b o,b≠I→s.heap.get? b=some o→h'.get? b=some o)→
   h'.get? s.heap.objs.size=some { cls:=.type "list",dict:=none,data:=.seq acc' c',slots:=#[]}→ItemsOf (fun i v=>items[items.size - 1 - i]?=some v) acc' items.size→Q (.ref s.heap.objs.size) { s with heap:=h',toks:=tk }) :
  wpAny (model prog w) A (call (.type "list") [.ref I]) Q E s:=by
 refine callType_codes (Q₁:=fun obj s₁=>obj=.ref s.heap.objs.size∧s₁={ s with heap:=s.heap.push { cls:=.type "list",data:=.seq #[]}}) F.called_list (F.typeCall_list_1 _) F.entry_list_init
  (code_list_new _ ⟨rfl,rfl⟩) fun obj s₁ h₁=>?_
 obtain ⟨rfl,rfl⟩:=h₁
 have hS:(s.heap.push { cls:=.type "list",data:=.seq #[]}).get? s.heap.objs.size=some { cls:=.type "list",data:=.seq #[]}:=Heap.get?_push_size _ rfl
 have hI:I<s.heap.objs.size:=by obtain ⟨o,ho,_⟩:=hit;exact Heap.lt_size ho
 have hT:t<s.heap.objs.size:=by obtain ⟨o,ho,_⟩:=ht;exact Heap.lt_size ho
 refine ⟨⟨_,hS,rfl⟩,F.args_list_init_2 _ _,DO (A:=A.in1) hh (hit.at fun o e=>Heap.get?_push_of_some _ e) (oE ht fun o e=>Heap.get?_push_of_some _ e) hne hlen _ (Nat.ne_of_gt hI) (Nat.ne_of_gt hT) hS fun h' tk acc' c' hk hS' hacc=>?_⟩
 exact ⟨rfl,hQ h' tk acc' c' (fun b o hb e=>hk b o (Nat.ne_of_lt (Heap.lt_size e)) hb (Heap.get?_push_of_some _ e)) hS' hacc⟩
end
end Rv
namespace Sm
open PySem PySem.Spec PyProof.Rows L2 PySem.SeqAt
open Ev (D O Hh Fr R aR E Es Eo T S Ss Fl Src bU bQ TY BI ME)
section
variable {X:Cx}{G:Tb}{n:Nat}{sc:Scope}{N:List Str}{df:Bool}{m:List Nat}{a b c:E}{xa xb xc tg:Expr}{pos:Pos}
theorem DP {vs:List V}{us:List Value}(r:Vals vs us) {acc:Array Value}(h:ItemsOf (fun i v=>us.toArray[us.toArray.size - 1 - i]?=some v) acc us.toArray.size):Vals vs.reverse acc.toList:=by
 obtain ⟨h1,h2⟩:=h
 have e:acc.toList=us.reverse:=by
  apply List.ext_getElem?
  intro i
  by_cases hi:i<us.length
  ·have ha:i<acc.size:=by rw [h1];simpa using hi
   have:=h2 i _ (Array.getElem?_eq_getElem ha)
   rw [List.getElem?_reverse hi]
   simp only [List.size_toArray,List.getElem?_toArray] at this
   rw [this]
   simp [ha]
  ·have hs:acc.size=us.length:=by rw [h1];simp
   rw [List.getElem?_eq_none (by rw [Array.length_toList];omega),List.getElem?_eq_none (by rw [List.length_reverse];omega)]
 rw [e];exact Vals.reverse r
theorem Iq {p p2 pos2:Pos}(ha:JE G n sc N df m a xa) (h1:("list" : Str)∈G.bl:=by decide +kernel) (L0:sc.names.lookup ("list" : Str)=some .globalImplicit:=by rfl)
  (hg:sc.names.lookup ("reversed" : Str)=some .globalImplicit:=by rfl) (hb:("reversed" : Str)∈G.bl:=by decide +kernel)
  (hst:∀ env:Env,starEach [xa] env=[(false,eval xa env)]:=by intro _;rfl)
  (Ma:∀ env:Env,starEach [Expr.Call (.Name "reversed" p2) [xa] [] pos2] env=[(false,eval (Expr.Call (.Name "reversed" p2) [xa] [] pos2) env)]:=by intro _;rfl) :
  JE G n sc N df m (.ig (.rev a)) (.Call (.Name "list" p) [.Call (.Name "reversed" p2) [xa] [] pos2] [] pos):=fun X g=>by
 intro pins s σ H Q I q
 obtain ⟨r,fr,h,d,h',sr,hr,e,q⟩:=q
 rw [Ev.ev,Ev.cF] at e
 replace e:=Ev.ah e;obtain ⟨src,h3,e1,e⟩:=e
 replace e1:=Ev.ah e1;obtain ⟨x,h4,e2,e1⟩:=e1
 replace e1:=Ev.aJ e1;obtain ⟨e1,y0⟩:=e1;subst y0
 refine wpAny_Call_Name_kw (mT I (g.gl L0) (g.bl _ h1) (show bootBuiltins ("list" : Str)=some (.type "list") by decide +kernel) ?_ (by decide) (by decide))
 refine PyProof.Rows.callWith_type1 ?_ (Ma _) rfl
 rw [Ma]
 show wpAny _ _ (spliced ((false,eval (Expr.Call (.Name "reversed" p2) [xa] [] pos2) X.env) :: backTo pos [])) _ _ s
 refine Calls.spliced_cons ?_
 have Wt:PA X [xa] _:=rq (ha X g) uH (by rw [hst];rfl)
 refine Call_ (mT I (g.gl hg) (g.bl _ hb) (show bootBuiltins ("reversed" : Str)=some (.type "reversed") by decide +kernel) (PyProof.Rows.callWith_type1 (bJ (Wt pos2 pins s σ H (fun vs H1=>∃ r1 u,vs=[u]∧RV X.K H1 r1 x u∧HR X.K H1 r1 h3∧Fm X.K r r1 H H1) I ⟨r,fr,h,x,h3,sr,hr,e2,fun u H1 r1 v1 hr1 f1=>⟨r1,u,rfl,v1,hr1,f1⟩⟩) fun us s1 z=>?_) (hst _) rfl))
 obtain ⟨vs,H1,I1,rv,r1,u,rfl,v1,hr1,f1⟩:=z
 cases x <;> simp only [Ev.Dq,Option.map,reduceCtorEq] at e1
 rename_i ds
 cases e1
 obtain ⟨t,ws,rfl,z,w⟩:=v1.shape
 cases rv with
 | cons ra rb=>
 cases rb
 cases ra
 obtain ⟨its,pv,pt,hz⟩:=I1.tuple z
 have hlen:its.toArray.size≤sizeLine:=by rw [List.size_toArray,←pv.length];exact hz
 have hf:(its.toArray.size:Int)<2 ^ 63:=by rw [sizeLine_eq] at hlen;omega
 refine Rv.DM pt hf ?_
 refine Calls.spliced_nil ?_
 have I2:Inv X pins σ H1 { s1 with heap:=s1.heap.push (Rv.oB t ((its.toArray.size:Int) - 1)),toks:=s1.toks+1+1 }:=I1.kept fun b o e=>Heap.get?_push_of_some _ e
 have hne:t≠s1.heap.objs.size:=by obtain ⟨o,ho,_⟩:=pt;exact Nat.ne_of_lt (Heap.lt_size ho)
 refine Rv.tZ (I1.ok.hd g.calm) ⟨_,Heap.get?_push_size _ rfl,rfl,rfl⟩ (Rv.oE pt fun o e=>Heap.get?_push_of_some _ e) hne hlen fun h' tk acc' c' hk hS' hacc=>?_
 obtain ⟨hz2,q2⟩:=(q.later f1).lst e w.reverse hr1
 have hp:s1.heap.objs.size≤(s1.heap.push (Rv.oB t ((its.toArray.size:Int) - 1))).objs.size:=by rw [size_push'];exact Nat.le_succ _
 refine ⟨.ref _,_,I1.laid (t':=tk) (o:=.lst ws.reverse) (fun b u e=>hk b u (Nat.ne_of_lt (Heap.lt_size e)) (Heap.get?_push_of_some _ e)) hp ?_,rfl,q2 _ (I1.hok.fresh hp)⟩
 exact ⟨by simpa using hz,acc'.toList,c',DP pv hacc,by simpa using hS'⟩
end
end Sm
set_option maxRecDepth 100000
set_option maxRecDepth 100000
namespace Sm
open PySem PySem.Spec PyProof.Rows L2 PySem.SeqAt
open Ev (D O Hh Fr R aR E Es Eo T S Ss Fl Src bU bQ TY BI ME)
theorem insI_perm (x:Int):∀ l,(Ev.insI x l).Perm (x :: l)
 | []=>.refl _
 | y :: l=>by
  unfold Ev.insI
  split
  ·exact .refl _
  ·exact ((insI_perm x l).cons y).trans (.swap x y l)
theorem sortI_perm:∀ l,(Ev.sortI l).Perm l
 | []=>.refl _
 | x :: l=>(insI_perm x _).trans ((sortI_perm l).cons x)
theorem o8 (x:Int):∀ {l},l.Pairwise (·≤·)→(Ev.insI x l).Pairwise (·≤·)
 | [],_=>List.pairwise_singleton _ _
 | y :: l,h=>by
  unfold Ev.insI
  obtain ⟨h1,h2⟩:=List.pairwise_cons.mp h
  split
  ·rename_i hx
   exact List.pairwise_cons.mpr ⟨fun z hz=>by
    rcases List.mem_cons.mp hz with rfl | hz
    ·exact hx
    ·exact Int.le_trans hx (h1 z hz),h⟩
  ·rename_i hx
   refine List.pairwise_cons.mpr ⟨fun z hz=>?_,o8 x h2⟩
   rcases List.mem_cons.mp ((insI_perm x l).mem_iff.mp hz) with rfl | hz
   ·omega
   ·exact h1 z hz
theorem nj:∀ l,(Ev.sortI l).Pairwise (·≤·)
 | []=>.nil
 | x :: l=>o8 x (nj l)
theorem zL {l m:List Int}(h:m.Perm l) (s:m.Pairwise (·≤·)):m=Ev.sortI l:=
 (h.trans (sortI_perm l).symm).eq_of_pairwise (fun a b _ _ h1 h2=>Int.le_antisymm h1 h2) s (nj l)
theorem yp:∀ {us:List Value}{is:List Int},IntsAre us is→Vals (is.map V.int) us
 | _,_,.nil=>.nil
 | _,_,.cons _ _ h=>.cons ⟨_,rfl⟩ (yp h)
theorem aI.Mb {K:PySem.W.Frag}{H:Hp}{r:List Addr}:∀ {ss:List Int},aI K H r (ss.map D.int) (ss.map V.int)
 | []=>.nil
 | l :: ss=>.cons rfl aI.Mb
end Sm
set_option maxRecDepth 100000
namespace Sm
open PySem PySem.Spec PyProof.Rows L2 PySem.SeqAt
open Ev (D O Hh Fr R aR E Es Eo T S Ss Fl Src bU bQ TY BI ME)
theorem vm {kvs:List (Key×Value)}{ns:List Int}(hk:kvs.map (·.1)=ns.map Sum.inl) {P:Program}{w:World}:∀ {vs:List Value},vs.length=kvs.length→(∀ (j:Nat) v,vs[j]?=some v→∃ k x,kvs[j]?=some (k,x)∧(cE P w).is k v=true)→IntsAre vs ns:=by
 induction kvs generalizing ns with
 | nil=>
  intro vs hl _
  have:ns=[]:=by cases ns with | nil=>rfl | cons n ns=>simp at hk
  subst this
  rw [List.eq_nil_of_length_eq_zero hl];exact .nil
 | cons p kvs ih=>
  intro vs hl hv
  cases ns with
  | nil=>simp at hk
  | cons n ns=>
   simp only [List.map_cons,List.cons.injEq] at hk
   cases vs with
   | nil=>simp at hl
   | cons v vs=>
    obtain ⟨k,x,e1,e2⟩:=hv 0 v rfl
    simp at e1
    subst e1
    have hkn:k=Sum.inl n:=hk.1
    subst hkn
    have e3:Value.isInt n v=true:=e2
    obtain ⟨t,rfl⟩:∃ t,v=.int n t:=by
     cases v <;> simp [Value.isInt] at e3
     exact ⟨_,by rw [e3]⟩
    refine .cons n t (ih hk.2 (by simpa using hl) fun j u hu=>?_)
    obtain ⟨k',x',e4,e5⟩:=hv (j+1) u (by simpa using hu)
    exact ⟨k',x',by simpa using e4,e5⟩
theorem wZ {prog:Program}{w:World}{A:Around}{E:Value→Shared→Prop}{s:Shared}{d:Addr}{kvs:List (Key×Value)}{ns:List Int}{Q:Value→Shared→Prop}(hd:s.heap.DictOf (cE prog w) d kvs) (lo:(d==sysModules)=false) (hh:A.handled=none) (hk:kvs.map (·.1)=ns.map Sum.inl) (h64:kvs.length<64)
  (h:∀ (h1 h2:Heap) (tk:Nat) (out:Array Value) (ns':List Int) (e:Nat),(∀ b o,s.heap.get? b=some o→h1.get? b=some o)→(∀ b o,h1.get? b=some o→h2.get? b=some o)→h2.get? h1.objs.size=some (seqObj "list" out e)→IntsAre out.toList ns'→ns'.Perm ns→ns'.Pairwise (·≤·)→Q (.ref h1.objs.size) { s with heap:=h2,toks:=tk }) :
  wpAny (model prog w) A (call (.builtin "sorted") [.ref d]) Q E s:=by
 obtain ⟨ep,hat⟩:=hd.dictAt
 have hsz:kvs.length≤sizeLine:=Nat.le_trans (Nat.le_of_lt h64) (by decide)
 refine Calls.call_function_entry kind_sorted plain_sorted entry_sorted (args_sorted1 _) ?_
 unfold Builtin.«sorted»
 refine wpAny_bind (m:=checkCount "sorted" 1 1 _) (wpAny_pure ?_)
 refine wpAny_bind (PySem.W.kdu_collect (A:=A.in1) (PySem.W.kdl_dict (knd:=cE prog w) (kvs:=kvs) (ep:=ep) lo) hh hat hsz fun h' tk acc hk' hacc=>?_)
 have hl:acc.toList.length=kvs.length:=by rw [Array.length_toList];exact hacc.1
 refine wpAny_bind (wpAny_newList ?_ (by rw [hl];exact hsz))
 have hI:IntsAre acc.toList ns:=vm hk hl fun j v e=>hacc.2 j v (by rw [←Array.getElem?_toList];exact e)
 have AO:(h'.push (seqObj "list" acc.toList.toArray 0)).get? h'.objs.size=some (seqObj "list" acc.toList.toArray 0):=Heap.get?_push_size _ rfl
 refine wpAny_bind (wpAny_holding (wpAny_call_entry slot_list_sort ⟨_,AO,rfl⟩ entry_list_sort (list_sort_tree AO hI (by rw [hl];exact h64) fun out ns' a1 a2 a3=>⟨_,rfl,?_⟩) (args_list_sort _)))
 obtain ⟨e,he⟩:=sortedHeap_at (out:=out) AO
 exact wpAny_pure ⟨_,rfl,h h' _ tk out ns' e hk' (fun b o e2=>by
  have lt:=Heap.lt_size e2
  rw [sortedHeap_old (Nat.ne_of_lt lt) (by rw [size_push'];exact Nat.lt_succ_of_lt lt),Heap.get?_push_ne _ _ _ (Nat.ne_of_lt lt)];exact e2) he a1 a2 a3⟩
theorem yq:∀ {kvs:List (Int×List Nat)}{vs:List (Key×Value)},KV (dM kvs) vs→vs.map (·.1)=(kvs.map (·.1)).map Sum.inl∧vs.length=kvs.length
 | [],vs,h=>by cases h;exact ⟨rfl,rfl⟩
 | p :: kvs,vs,h=>by
  cases h with
  | cons h1 h2=>
   obtain ⟨e1,e2⟩:=yq h2
   exact ⟨by simp only [List.map_cons,e1,←h1.1],by simp [e2]⟩
theorem DQ {X:Cx}(hc:X.calm=true):gD X (.builtin "sorted") (sV X.K (Ev.cS .kg)):=by
 intro pins s σ H xs us Q I r q
 obtain ⟨rr,h,as,d,h',hr,v1,e,q⟩:=q
 match as,e with
 | [x],e=>
  delta Ev.cS at e;dsimp only at e
  cases hx:Ev.eT h x with
  | none=>rw [hx] at e;cases e
  | some kvs=>
   rw [hx] at e
   dsimp only at e
   by_cases h64:kvs.length<64
   ·rw [if_pos h64] at e
    obtain ⟨n,rfl,z⟩:=lR hx
    obtain ⟨p,z1,z2,z3⟩:=hr.dct z
    simp only [aI,RV] at v1
    obtain ⟨v,w,rfl,⟨p',rfl,z4⟩,rfl⟩:=v1
    rw [z1] at z4;cases z4
    obtain ⟨u,rfl,ru⟩:=vals1 r
    cases ru
    obtain ⟨_,lo,vs,kv,hd⟩:=ua I.hok z2
    obtain ⟨k1,k2⟩:=yq kv
    refine wZ hd lo (I.ok.hd hc) k1 (by rw [k2];exact h64) fun h1 h2 tk out ns' e2 c1 c2 c3 a1 a2 a3=>?_
    have hq:=zL a2 a3
    subst hq
    obtain ⟨hz2,q2⟩:=q.lst e aI.Mb hr
    have I1:Inv X pins σ H { s with heap:=h1,toks:=tk }:=I.kept c1
    refine ⟨.ref h1.objs.size,_,I1.laid (t':=tk) (o:=.lst ((Ev.sortI (kvs.map (·.1))).map V.int)) c2 (Nat.le_refl _) ?_,rfl,q2 _ (I1.hok.fresh (Nat.le_refl _))⟩
    exact ⟨hz2,out.toList,e2,yp a1,by simpa [seqObj] using c3⟩
   ·rw [if_neg h64] at e;cases e
end Sm
set_option maxRecDepth 100000
namespace Sm
open PySem PySem.Spec PyProof.Rows L2 PySem.SeqAt
open Ev (D O Hh Fr R aR E Es Eo T S Ss Fl Src bU bQ TY BI ME)
section
variable {G:Tb}{n:Nat}{sc:Scope}{N:List Str}{df:Bool}{m:List Nat}{a b c:E}{xa xb xc:Expr}{pos:Pos}
end
end Sm
set_option maxRecDepth 100000
namespace Sm
open PySem PySem.Spec PyProof.Rows L2 PySem.SeqAt
open Ev (D O Hh Fr R aR E Es Eo T S Ss Fl Src bU bQ TY BI ME)
theorem aI.ofInts {K:PySem.W.Frag}{H:Hp}{r:List Addr}:∀ ns:List Int,aI K H r (ns.map D.int) (ns.map V.int)
 | []=>.nil
 | _ :: l=>.cons rfl (aI.ofInts l)
theorem Mc {K:PySem.W.Frag}{H:Hp}{a:Addr}{vs:List V}(hO:rD H) (hS:fK K H a vs):zv K H a vs:=by
 rcases hS with h | h
 ·rcases h with h | ⟨o,h⟩
  ·rcases hO a with q | ⟨o,xs,q⟩
   ·rw [q] at h;cases h
   ·rw [q] at h;cases h
  ·exact .inl ⟨o,h⟩
 ·exact .inr h
theorem Pn {K:PySem.W.Frag}{F:List Ev.Fn}{w n f:Nat}{H:Hp}{a:Addr}{ns:List Int}(hO:rD H) (hS:fK K H a (ns.map V.int)) {h':Hh}(e:Ev.run F w n f [.ref 0] [.bR (ns.map D.int)]=.ok (.bl true) h') :
  oY K F w n f [.ref a] H (fun v _=>v=.bl true) fun _ _ _=>False:=by
 refine ⟨[a],[.bR (ns.map D.int)],[.ref 0],.bl true,h',.cons (show RV K H [a] (.ref 0) (.ref a) from ⟨a,rfl,rfl⟩) .nil,⟨rfl,fun k o hk=>?_,fun k l b x y _ _ hk _=>?_
  ,fun k l b x y _ _ hk _=>by cases k with | zero=>simp at hk | succ k=>simp at hk
  ⟩,e,fun v H' r' v1 _ _=>v1⟩
 ·cases k with
  | zero=>
   simp at hk
   subst hk
   exact ⟨a,rfl,_,Mc hO hS,aI.ofInts ns⟩
  | succ k=>simp at hk
 ·cases k with
  | zero=>simp at hk
  | succ k=>simp at hk
theorem Ir {F:List Ev.Fn}{wh n f:Nat}{l:PySem.W.OpenLaw}{q:Program}{loose:List Str}{XP:(Str→Option Value)→Heap→Prop}{YP:World→Heap→Prop}{d:DefRec}{K:Params→PySem.W.Frag}{x:Str}(hn:l.most=some 63) (hdf:d.params.defaults=[]) (hr:gg n callerA)
  (hY:∀ (w:World) (h:Heap),YP w h→(K w.params).In h) (good:∀ ns:List Int,ns.length≤63→∃ h',Ev.run F wh n f [.ref 0] [.bR (ns.map D.int)]=.ok (.bl true) h')
  (Fo:∀ (w:World) (mg:Str→Option Value) (fa:Addr) (h:Heap),(K w.params).In h→h.Ns mainGlobals mg→mg d.name=some (.ref fa)→
   ∃ fd:FuncData,(∀ (s:Shared) (u:Value),BindsTo s fd ⟨[u],[]⟩ [(x,u)])∧∀ base:Heap,(K w.params).In base→base.Ns mainGlobals mg→iV l.prog w (K w.params) mg base m5 n fa fd [x] (oY (K w.params) F wh n f)) :
  PySem.W.WalkO q loose XP YP l.row.toRowW d [] (fun f vs=>PySem.call f vs):=
 L2.Dj (n:=63) (k:=n) (x:=x) (CX:=m5) (sp:=fun K=>oY K F wh n f) hn (by decide) hdf hr hY Fo (fun K H a ns hl hO hS=>by
  obtain ⟨h',e⟩:=good ns hl
  exact Pn hO hS e) fun _ _ _ _ z=>z
theorem BH {P:Program}{w:World}{K:PySem.W.Frag}{mg:Str→Option Value}{base:Heap}{G:Tb}(T:Top P w K mg G)
  (st:∀ n,uf P w K mg base G n→uf P w K mg base G (n+1)):∀ n,uf P w K mg base G n
 | 0=>fun f i _=>HS
 | n+1=>st n (BH T st n)
structure At (K:PySem.W.Frag) (x:Str) (st:Stmt) (i:FI):Prop where
 name:i.name=x
 ns:PySem.W.nsIn K mainGlobals x=some (some (.ref i.addr))
 fu:sR K x x st i.addr i.fd
 bd:Binds K i.fd i.ps []
end Sm
set_option maxRecDepth 100000
namespace Sm
open PySem PySem.Spec PyProof.Rows L2
open Ev (D O Hh Fr R aR E Es Eo It T S Ss Fl Src bU bQ TY BI ME)
section
variable {G:Tb}{n:Nat}{sc:Scope}{N:List Str}{df:Bool}{m:List Nat}{a b c:E}{xa xb xc:Expr}{pos:Pos}
noncomputable def hasB (N:List Str) (m:List Nat) (x:Str) (i:Nat):Bool:=(List.range N.length).any fun j=>m[j]?==some i&&N[j]?==some x
theorem hasB.of {x:Str}{i:Nat}(h:hasB N m x i=true):∃ j:Nat,m[j]?=some i∧N[j]?=some x:=by
 obtain ⟨j,_,q⟩:=List.any_eq_true.mp h
 rw [Bool.and_eq_true] at q
 exact ⟨j,by simpa using q.1,by simpa using q.2⟩
noncomputable def vB (sc:Scope) (N:List Str) (m:List Nat) (x:Str) (i:Nat):Bool:=hasB N m x i&&(sc.names.lookup x==some .local || sc.names.lookup x==some .cell || sc.names.lookup x==some .free)&&!(x==("__debug__" : Str))&&!(x==("__classdict__" : Str))
theorem jv {x:Str}{i:Nat}(h:vB sc N m x i=true):JE G n sc N df m (.v i) (.Name x pos):=by
 unfold vB at h
 simp only [Bool.and_eq_true,Bool.not_eq_true',Bool.or_eq_true] at h
 obtain ⟨⟨⟨h1,h2⟩,h3⟩,h4⟩:=h
 obtain ⟨j,e1,e2⟩:=hasB.of h1
 exact UH j i e1 e2 (by rcases h2 with (h2 | h2) | h2;exact .inl (by simpa using h2);exact .inr (.inl (by simpa using h2));exact .inr (.inr (by simpa using h2))) h3 h4
noncomputable def gB (sc:Scope) (N:List Str) (df:Bool) (m:List Nat) (x:Str) (i:Nat):Bool:=hasB N m x i&&(sc.names.lookup x==some .local || (df&&sc.names.lookup x==some .cell))&&decide m.Nodup&&decide N.Nodup
theorem gB.of {x:Str}{i:Nat}(h:gB sc N df m x i=true):∃ j:Nat,m[j]?=some i∧N[j]?=some x∧(sc.names.lookup x=some .local∨(df=true∧sc.names.lookup x=some .cell))∧m.Nodup∧N.Nodup:=by
 unfold gB at h
 simp only [Bool.and_eq_true,Bool.or_eq_true] at h
 obtain ⟨⟨⟨h1,h2⟩,h3⟩,h4⟩:=h
 obtain ⟨j,e1,e2⟩:=hasB.of h1
 exact ⟨j,e1,e2,by rcases h2 with h2 | ⟨h2,h5⟩;exact .inl (by simpa using h2);exact .inr ⟨h2,by simpa using h5⟩,of_decide_eq_true h3,of_decide_eq_true h4⟩
theorem Wu {x:Str}{i:Nat}(h:gB sc N df m x i=true):JG G n sc N df m (.one i) (.Name x pos):=by
 obtain ⟨j,e1,e2,e3,e4,e5⟩:=gB.of h
 exact Lk j i e4 e5 e1 e2 e3
theorem Wv {x:Str}{i:Nat}{l:List Nat}{xs:List Expr}(h:gB sc N df m x i=true) (hs:sW G n sc N df m l xs):sW G n sc N df m (i :: l) (.Name x pos :: xs):=by
 obtain ⟨j,e1,e2,e3,e4,e5⟩:=gB.of h
 exact Dt j i e4 e5 hs e1 e2 e3
theorem UQ {i:Nat}{x:Str}{pos':Pos}(h:gB sc N df m x i=true) (ha:JE G n sc N df m a xa) (hs:∀ env:Env,swapsWith xa (some (.Name x pos')) pos.line env=pure false:=by intro _;rfl):JS G n sc N df m (.set i a) (.Assign [.Name x pos'] xa pos):=by
 obtain ⟨j,e1,e2,e3,e4,e5⟩:=gB.of h
 exact Ll j i e4 e5 ha hs e1 e2 e3
noncomputable def Rz (sc:Scope) (x:Str):Bool:=sc.names.lookup x==some .globalImplicit&&!(x==("__debug__" : Str))
theorem Ww {f:Nat}{i:FI}{es:Es}{x:Str}{e0:Expr}{xs:List Expr}{p:Pos}(h:Rz sc x=true) (hf:G.fi[f]?=some i) (hx:i.name=x) (hs:JA G n sc N df m es (e0 :: xs))
  (hst:∀ env:Env,starEach (e0 :: xs) env=(false,eval e0 env) :: starEach xs env:=by intro _;rfl) (hpl:∀ env:Env,(backTo pos (starEach xs env)).any (·.1)=false:=by intro _;rfl) :
  JE G n sc N df m (.cl f es) (.Call (.Name x p) (e0 :: xs) [] pos):=by
 subst hx
 unfold Rz at h
 simp only [Bool.and_eq_true,Bool.not_eq_true'] at h
 exact O8 hf hs (by simpa using h.1) h.2 hst hpl
noncomputable def Wx:Expr→List Str
 | .Name x _=>[x]
 | .Tuple xs _ _=>xs.filterMap fun y=>match y with | .Name x _=>some x | _=>none
 | _=>[]
noncomputable def RA (N:List Str) (m:List Nat) (scope:Scope):List (Str×Nat):=(N.zip m).filter fun p=>scope.names.contains (p.1,NameKind.free)
noncomputable def cN (N:List Str) (m:List Nat) (scope:Scope) (tg:Expr):List Str:=Wx tg++(RA N m scope).map (·.1)
noncomputable def cM (N:List Str) (m:List Nat) (scope:Scope) (t:T):List Nat:=Ev.slots t++(RA N m scope).map (·.2)
theorem Po {elt:E}{t:T}{it:Ev.It}{cond:Eo}{tg xi xe:Expr}{ifs:List Expr}{scope:Scope}(hn:u0 sc N m scope t (cN N m scope tg) (cM N m scope t)=true) (hs:Lx sc scope=true)
  (hi:JI G n sc N df m it tg xi) (hg:JG G n (iK sc scope) (cN N m scope tg) false (cM N m scope t) t tg) (hc:JC G n (iK sc scope) (cN N m scope tg) false (cM N m scope t) cond ifs)
  (he:JE G n (iK sc scope) (cN N m scope tg) false (cM N m scope t) elt xe) (hf:∀ (env:Env) x,foldedSetIterable xi env x=pure x:=by intro _ _;rfl):JE G n sc N df m (.comp elt t it cond) (.ListComp xe [⟨tg,xi,ifs,0⟩] scope pos):=
 Ic hi hg hc he (namesOk.of hn) (m9.of hs) hf
theorem UR {rest:List Expr}(ha:JT G n sc N df m a xa) (hb:JW G n sc N df m b (.BoolOp .And (xb :: rest) pos)):JT G n sc N df m (.an a b) (.BoolOp .And (xa :: xb :: rest) pos):=K7 (FJ ha hb)
theorem US {rest:List Expr}(ha:JT G n sc N df m a xa) (hb:JW G n sc N df m b (.BoolOp .Or (xb :: rest) pos)):JT G n sc N df m (.orr a b) (.BoolOp .Or (xa :: xb :: rest) pos):=K7 (Bd ha hb)
noncomputable def allB (G:Tb) (n:Nat):List (Ss×Stmt×List Str)→Prop
 | []=>True
 | p :: r=>jY G n (aN p.2.1) p.2.2 true (List.range p.2.2.length) p.1 (g9 p.2.1)∧allB G n r
theorem allB.get:∀ {l:List (Ss×Stmt×List Str)}{k:Nat}{p:Ss×Stmt×List Str},allB G n l→l[k]?=some p→jY G n (aN p.2.1) p.2.2 true (List.range p.2.2.length) p.1 (g9 p.2.1)
 | [],_,_,_,e=>nomatch e
 | _ :: _,0,_,h,e=>by cases e;exact h.1
 | _ :: r,k+1,p,h,e=>allB.get (l:=r) (k:=k) h.2 (by simpa using e)
end
end Sm
namespace Pv
open Ev (D bU bQ TY BI ME T E Es Eo It S Ss Fn big deep b2i rep cC dP bP aS cut cR eF slots)
theorem nd {α:Type _}{a b:α}(h:a=b):a=b:=h
inductive V where
 | aP | bl (b:Bool) | int (i:Int) | str (s:List Nat) | tup (l:List V) | lst (l:List V) | bR (l:List V)
 | dct (kvs:List (Int×List Nat))
inductive Sl where
 | val (v:V) | own (l:List V) | bor (l:List V) | ro (l:List V)
abbrev Fr:=List (Option Sl)
inductive R (α:Type) where
 | ok (a:α) (fr:Fr)
 | bad
noncomputable def R.bind {α β:Type}(r:R α) (f:α→Fr→R β):R β:=
 match r with
 | .ok a h=>f a h
 | .bad=>.bad
@[simp] theorem ak {α β:Type} (a:α) (h:Fr) (f:α→Fr→R β):(R.ok a h).bind f=f a h:=nd rfl
@[simp] theorem Dp {α β:Type} (f:α→Fr→R β):(R.bad:R α).bind f=.bad:=nd rfl
theorem ah {α β:Type}{r:R α}{f:α→Fr→R β}{b:β}{h:Fr}(e:r.bind f=.ok b h):∃ a h1,r=.ok a h1∧f a h1=.ok b h:=by
 cases r with
 | ok a h1=>exact ⟨a,h1,rfl,e⟩
 | bad=>cases e
noncomputable def R.of {α:Type}(o:Option α) (h:Fr):R α:=match o with
 | some a=>.ok a h
 | none=>.bad
@[simp] theorem dH {α:Type} (a:α) (h:Fr):R.of (some a) h=.ok a h:=nd rfl
@[simp] theorem of_none {α:Type} (h:Fr):R.of (none:Option α) h=.bad:=nd rfl
theorem aJ {α:Type}{o:Option α}{h h':Fr}{a:α}(e:R.of o h=.ok a h'):o=some a∧h'=h:=by
 cases o with
 | none=>cases e
 | some b=>cases e;exact ⟨rfl,rfl⟩
inductive Fl where
 | nx | bk | ct | ret (v:V)
mutual
noncomputable def ofD:D→Option V
 | .aP=>some .aP
 | .bl b=>some (.bl b)
 | .int i=>some (.int i)
 | .str s=>some (.str s)
 | .tup ds=>(vn ds).map .tup
 | .ref _=>none
noncomputable def vn:List D→Option (List V)
 | []=>some []
 | d :: ds=>(ofD d).bind fun v=>(vn ds).map fun vs=>v :: vs
end
noncomputable def cJ (f:V→V→Option Bool):List V→List V→Option Bool
 | [],[]=>some true
 | x :: xs,y :: ys=>(f x y).bind fun b=>(cJ f xs ys).bind fun c=>some (b&&c)
 | _,_=>some false
noncomputable def dm:Nat→V→V→Option Bool
 | 0,_,_=>none
 | _+1,.aP,.aP=>some true
 | _+1,.bl a,.bl b=>some (a==b)
 | _+1,.int a,.int b=>some (a==b)
 | _+1,.bl a,.int b=>some (b2i a==b)
 | _+1,.int a,.bl b=>some (a==b2i b)
 | _+1,.str a,.str b=>some (a==b)
 | n+1,.tup a,.tup b=>cJ (dm n) a b
 | n+1,.lst a,.lst b=>cJ (dm n) a b
 | n+1,.bR a,.lst b=>cJ (dm n) a b
 | n+1,.lst a,.bR b=>cJ (dm n) a b
 | _+1,.bR _,.bR _=>none
 | _+1,.dct _,_=>none
 | _+1,_,.dct _=>none
 | _+1,_,_=>some false
noncomputable def truthy:V→Bool
 | .aP=>false
 | .bl b=>b
 | .int i=>i != 0
 | .str s=>!s.isEmpty
 | .tup ds=>!ds.isEmpty
 | .lst ds=>!ds.isEmpty
 | .bR ds=>!ds.isEmpty
 | .dct kvs=>!kvs.isEmpty
noncomputable def er (l:List V):Option V:=if l.length≤big then some (.lst l) else none
noncomputable def jZ (l:List V):Option V:=if l.length≤big then some (.tup l) else none
noncomputable def bZ:bU→V→V→Option V
 | .add,.int i,.int j=>some (.int (i+j))
 | .add,.str a,.str b=>if a.length+b.length≤big then some (.str (a++b)) else none
 | .add,.tup a,.tup b=>if a.length+b.length≤big then some (.tup (a++b)) else none
 | .add,.lst a,.lst b=>er (a++b)
 | .sub,.int i,.int j=>some (.int (i - j))
 | .mul,.int i,.int j=>if cC i j then some (.int (i*j)) else none
 | .mul,.str a,.int k=>if 0≤k∧k≤1000∧a.length≤1000 then some (.str (rep k.toNat a)) else none
 | .mul,.tup a,.int k=>if 0≤k∧k≤1000∧a.length≤1000 then some (.tup (rep k.toNat a)) else none
 | .mul,.lst a,.int k=>if 0≤k∧k≤1000∧a.length≤1000 then er (rep k.toNat a) else none
 | .fdiv,.int i,.int j=>if 0<j∧j<1073741824 then some (.int (i / j)) else none
 | .mod,.int i,.int j=>if 0<j then some (.int (i % j)) else none
 | _,_,_=>none
noncomputable def cop (o:bQ) (x y:V):Option Bool:=match o,x,y with
 | .eq,x,y=>dm deep x y
 | .ne,x,y=>(dm deep x y).map (!·)
 | .lt,.int i,.int j=>some (decide (i<j))
 | .gt,.int i,.int j=>some (decide (j<i))
 | .mP,x,.aP=>some (match x with | .aP=>true | _=>false)
 | .m6,x,.aP=>some (match x with | .aP=>false | _=>true)
 | _,_,_=>none
noncomputable def pR:V→V→Option V
 | .dct kvs,.int k=>(Ev.cg kvs k).map .str
 | _,_=>none
noncomputable def nq:V→V→V→Option V
 | .dct kvs,.int k,z=>some (match Ev.cg kvs k with | some s=>.str s | none=>z)
 | _,_,_=>none
noncomputable def eg (x y:V):Option V:=match x,y with
 | .tup ds,.int i=>bP ds i
 | .str s,.int i=>(bP s i).map fun c=>.str [c]
 | .lst ds,.int i=>bP ds i
 | .bR ds,.int i=>bP ds i
 | _,_=>none
noncomputable def iG (x:V) (lo hi:Option Int):Option V:=match x with
 | .tup ds=>some (.tup (cut ds lo hi))
 | .str s=>some (.str (cut s lo hi))
 | .lst ds=>er (cut ds lo hi)
 | .bR ds=>er (cut ds lo hi)
 | _=>none
noncomputable def toT:V→Option V
 | .tup l=>some (.tup l)
 | .lst l=>jZ l
 | .bR l=>jZ l
 | _=>none
noncomputable def boolsOf:List V→Option (List Bool)
 | []=>some []
 | .bl b :: ds=>(boolsOf ds).map fun r=>b :: r
 | _=>none
noncomputable def intsOf:List V→Option (List Int)
 | []=>some []
 | .int i :: ds=>(intsOf ds).map fun r=>i :: r
 | _=>none
noncomputable def strsOf:List V→Option (List (List Nat))
 | []=>some []
 | .str s :: ds=>(strsOf ds).map fun r=>s :: r
 | _=>none
noncomputable def o9:V→Option (List V)
 | .lst l=>some l
 | .bR l=>some l
 | _=>none
noncomputable def Me:V→Option (List (Int×List Nat))
 | .dct kvs=>some kvs
 | _=>none
noncomputable def cS (b:BI) (xs:List V):Option V:=match b,xs with
 | .len,[.str s]=>if s.length≤big then some (.int s.length) else none
 | .len,[.tup ds]=>some (.int ds.length)
 | .len,[x]=>(o9 x).map fun ds=>.int ds.length
 | .all,[x]=>((o9 x).bind boolsOf).map fun bs=>.bl (bs.all id)
 | .sum,[x]=>((o9 x).bind intsOf).map fun is=>.int is.sum
 | .min,[.int i,.int j]=>some (.int (if j<i then j else i))
 | .zo,[x]=>((o9 x).bind intsOf).bind fun ss=>if ss.length<64 then er ((Ev.sortI ss).map .int) else none
 | .kg,[x]=>(Me x).bind fun kvs=>if kvs.length<64 then er ((Ev.sortI (kvs.map (·.1))).map .int) else none
 | _,_=>none
noncomputable def fM (m:ME) (o:V) (xs:List V):Option V:=match m,o,xs with
 | .join,.str sep,[x]=>((o9 x).bind strsOf).bind fun ss=>if (ss.map (·.length)).sum+ss.length*sep.length≤big then some (.str (cR sep ss)) else none
 | _,_,_=>none
noncomputable def kq (m:ME) (l:List V) (xs:List V):Option (V×List V):=match m,xs with
 | .append,[x]=>if l.length<big then some (.aP,l++[x]) else none
 | .extend,[.lst es]=>if l.length+es.length≤big then some (.aP,l++es) else none
 | .pop,[]=>match l[l.length - 1]? with
  | some x=>some (x,l.dropLast)
  | none=>none
 | _,_=>none
noncomputable def BJ:ME→Bool
 | .extend=>true
 | _=>false
noncomputable def jd:ME→Bool
 | .append=>true
 | .extend=>true
 | .pop=>true
 | _=>false
noncomputable def t8:V→Bool
 | .aP=>true
 | .bl _=>true
 | .int _=>true
 | .str _=>true
 | _=>false
noncomputable def zM (x:V):List (D×D)→Option V
 | []=>none
 | (k,v) :: r=>match (ofD k).bind fun k'=>dm 1 k' x with
  | some true=>ofD v
  | some false=>zM x r
  | none=>none
noncomputable def fk (x:V) (kvs:List (D×D)):Option V:=if t8 x then zM x kvs else none
noncomputable def fS:V→Option (List V)
 | .tup ds=>some ds
 | .str s=>some (s.map fun c=>.str [c])
 | .lst ds=>some ds
 | .bR ds=>some ds
 | _=>none
noncomputable def zN:V→Option (List V)
 | .tup ds=>some ds
 | _=>none
noncomputable def range (lo:Int) (n:Nat):List V:=(List.range n).map fun (i:Nat)=>.int (lo+i)
noncomputable def fT:List V→Option (List V)
 | [.int j]=>if -(2 ^ 62)≤j∧j<2 ^ 62 then some (range 0 j.toNat) else none
 | [.int i,.int j]=>if -(2 ^ 62)≤i∧i<2 ^ 62∧-(2 ^ 62)≤j∧j<2 ^ 62 then some (range i (j - i).toNat) else none
 | _=>none
noncomputable def gT:Int→List V→List V
 | _,[]=>[]
 | k,x :: xs=>.tup [.int k,x] :: gT (k+1) xs
noncomputable def put (fr:Fr) (i:Nat) (s:Sl):Option Fr:=match fr[i]? with
 | some (some (.bor _))=>none
 | some (some (.ro _))=>none
 | _=>some (fr.set i (some s))
noncomputable def cQ:List Nat→List V→Fr→Option Fr
 | [],[],fr=>some fr
 | i :: is,d :: ds,fr=>(put fr i (.val d)).bind (cQ is ds)
 | _,_,_=>none
noncomputable def bz:T→V→Fr→Option Fr
 | .one i,d,fr=>put fr i (.val d)
 | .many l,.tup ds,fr=>cQ l ds fr
 | _,_,_=>none
noncomputable def undef (t:T) (fr:Fr):Bool:=(slots t).all fun i=>(fr[i]?.join).isNone
noncomputable def Sl.read:Sl→Sl
 | .own l=>.ro l
 | .bor l=>.ro l
 | s=>s
noncomputable def tO (fr:Fr):Fr:=fr.map (Option.map Sl.read)
noncomputable def Sl.dU:Sl→Sl
 | .own l=>.val (.lst l)
 | s=>s
noncomputable def gE (fr:Fr):Fr:=fr.map (Option.map Sl.dU)
noncomputable def Sl.walk:Sl→Sl
 | .own l=>.val (.lst l)
 | .bor l=>.ro l
 | s=>s
noncomputable def lS (is:List Nat) (fr:Fr):Fr:=is.foldl (fun fr i=>match fr[i]? with
 | some (some s)=>fr.set i (some s.walk)
 | _=>fr) fr
noncomputable def Sl.out:Sl→Option (List V)
 | .bor l=>some l
 | .ro l=>some l
 | _=>none
noncomputable def Sl.lend:Sl→Option Sl
 | .own l=>some (.bor l)
 | .bor l=>some (.bor l)
 | .ro l=>some (.ro l)
 | .val _=>none
noncomputable def lent (fr:Fr) (i:Nat):Option Sl:=match fr[i]? with
 | some (some s)=>s.lend
 | _=>none
noncomputable def Sl.with:Sl→List V→Sl
 | .own _,l=>.own l
 | .bor _,l=>.bor l
 | s,_=>s
noncomputable def back:List Nat→List (List V)→Fr→Option Fr
 | [],[],fr=>some fr
 | i :: is,l :: ls,fr=>match fr[i]? with
  | some (some s)=>back is ls (fr.set i (some (s.with l)))
  | _=>none
 | _,_,_=>none
noncomputable def cO (f:V→Option (Option V)):List V→Option (List V)
 | []=>some []
 | d :: ds=>(f d).bind fun o=>(cO f ds).bind fun r=>some (o.toList++r)
noncomputable def forL (f:V→Fr→R Fl):List V→Fr→R Fl
 | [],fr=>.ok .nx fr
 | d :: ds,fr=>(f d fr).bind fun p af=>match p with
   | .nx=>forL f ds af
   | .ct=>forL f ds af
   | .bk=>.ok .nx af
   | .ret x=>.ok (.ret x) af
noncomputable def ek (t:Fr→R Bool) (f:Fr→R Fl):Nat→Fr→R Fl
 | 0,_=>.bad
 | n+1,fr=>(t fr).bind fun b af=>if b then (f af).bind fun p ao=>match p with
   | .nx=>ek t f n ao
   | .ct=>ek t f n ao
   | .bk=>.ok .nx ao
   | .ret x=>.ok (.ret x) ao
  else .ok .nx af
noncomputable def jU:Es→List Nat
 | .nil=>[]
 | .cons (.v i) es=>i :: jU es
 | .cons _ es=>jU es
noncomputable def RB (m:ME):E→List Nat
 | .v i=>if jd m then [i] else []
 | _=>[]
mutual
noncomputable def bK:E→List Nat
 | .c _=>[] | .v _=>[] | .tup es=>gn es | .lst es=>gn es
 | .bin _ a b=>bK a++bK b | .cmp _ a b=>bK a++bK b
 | .nt a=>bK a | .neg a=>bK a | .an a b=>bK a++bK b | .orr a b=>bK a++bK b | .jD t a b=>bK t++(bK a++bK b)
 | .ix a b=>bK a++bK b | .sl a lo hi=>bK a++(kI lo++kI hi)
 | .cl _ es=>gn es++jU es | .bi _ es=>gn es | .me m o es=>bK o++(gn es++RB m o)
 | .comp _ _ it _=>DR it
 | .ig it=>DR it
 | .jy _ a=>bK a
 | .gW=>[] | .kh a k=>bK a++bK k | .ki a k x=>bK a++(bK k++bK x)
 | .iT a=>bK a
noncomputable def gn:Es→List Nat
 | .nil=>[]
 | .cons e es=>bK e++gn es
noncomputable def kI:Eo→List Nat
 | .no=>[]
 | .yes e=>bK e
noncomputable def DR:It→List Nat
 | .seq e=>bK e | .g8 es=>gn es
 | .enum a=>bK a | .rev a=>bK a
end
noncomputable def kf (a:E) (l:List Nat):Bool:=match a with
 | .v i=>!l.contains i
 | _=>l.isEmpty
noncomputable def itv:It→List Nat
 | .seq (.v i)=>[i]
 | .enum (.v i)=>[i]
 | .rev (.v i)=>[i]
 | _=>[]
abbrev aR:=Nat→List Sl→Option (V×List (List V))
noncomputable def intOf:V→Option Int
 | .int i=>some i
 | _=>none
noncomputable def lT (k:Bool) (fr:Fr) (i:Nat):Option V:=match fr[i]? with
 | some (some (.val v))=>some v
 | some (some (.own l))=>if k then some (.lst l) else none
 | some (some (.bor l))=>if k then some (.lst l) else none
 | some (some (.ro l))=>if k then some (.lst l) else none
 | _=>none
noncomputable def vp (k:Bool) (fr:Fr) (i:Nat):Option V:=match fr[i]? with
 | some (some (.ro l))=>some (.lst l)
 | _=>lT k fr i
noncomputable def src (k:Bool) (fr:Fr) (e:E) (r:R V):R V:=match e with
 | .v i=>R.of (vp k fr i) fr
 | _=>r
noncomputable def j0 (fr:Fr):E→Option Nat
 | .v i=>if (lent fr i).isSome then some i else none
 | _=>none
noncomputable def args (fr:Fr):List (Nat ⊕ V)→Option (List Sl)
 | []=>some []
 | .inl i :: r=>(lent fr i).bind fun s=>(args fr r).map fun l=>s :: l
 | .inr v :: r=>(args fr r).map fun l=>.val v :: l
noncomputable def bV:List (Nat ⊕ V)→List Nat
 | []=>[]
 | .inl i :: r=>i :: bV r
 | .inr _ :: r=>bV r
noncomputable def dI (P:aR) (f:Nat) (as:List (Nat ⊕ V)) (fr:Fr):R V:=
 if (bV as).Nodup then match args fr as with
  | some sl=>match P f sl with
   | some (v,outs)=>R.of ((back (bV as) outs fr).map fun af=>(v,af)) fr |>.bind fun p _=>.ok p.1 p.2
   | none=>.bad
  | none=>.bad
 else .bad
mutual
noncomputable def ev (P:aR):Bool→E→Fr→R V
 | _,.c d,fr=>R.of (ofD d) fr
 | k,.v i,fr=>R.of (lT k fr i) fr
 | _,.tup es,fr=>(cj P false es fr).bind fun ds af=>R.of (jZ ds) af
 | _,.lst es,fr=>(cj P false es fr).bind fun ds af=>R.of (er ds) af
 | _,.bin o a b,fr=>(ev P (kf a (bK b)) a fr).bind fun x af=>(ev P true b af).bind fun y ao=>R.of (bZ o x y) ao
 | _,.cmp o a b,fr=>(ev P (kf a (bK b)) a fr).bind fun x af=>(ev P true b af).bind fun y ao=>R.of ((cop o x y).map .bl) ao
 | _,.gW,_=>.bad
 | _,.kh a b,fr=>(ev P (kf a (bK b)) a fr).bind fun x af=>(ev P true b af).bind fun y ao=>R.of (pR x y) ao
 | _,.ki a b c,fr=>(ev P (kf a (bK b++bK c)) a fr).bind fun x af=>(ev P (kf b (bK c)) b af).bind fun y ao=>(ev P false c ao).bind fun z bG=>R.of (nq x y z) bG
 | _,.nt a,fr=>(ev P true a fr).bind fun x af=>match x with
   | .bl b=>.ok (.bl (!b)) af
   | _=>.bad
 | _,.neg a,fr=>(ev P true a fr).bind fun x af=>match x with
   | .int i=>.ok (.int (-i)) af
   | _=>.bad
 | k,.an a b,fr=>(ev P true a fr).bind fun x af=>match x with
   | .bl true=>ev P k b af
   | .bl false=>.ok (.bl false) af
   | _=>.bad
 | k,.orr a b,fr=>(ev P true a fr).bind fun x af=>match x with
   | .bl true=>.ok (.bl true) af
   | .bl false=>ev P k b af
   | _=>.bad
 | k,.jD t a b,fr=>(aL P t fr).bind fun c af=>if c then ev P k a af else ev P k b af
 | _,.ix a b,fr=>(ev P (kf a (bK b)) a fr).bind fun x af=>(ev P true b af).bind fun y ao=>R.of (eg x y) ao
 | _,.sl a lo hi,fr=>(ev P (kf a (kI lo++kI hi)) a fr).bind fun x af=>(gi P lo af).bind fun l ao=>(gi P hi ao).bind fun u bG=>R.of (iG x l u) bG
 | _,.cl f es,fr=>(gj P es fr).bind fun as af=>dI P f as af
 | _,.bi b es,fr=>(cj P true es fr).bind fun ds af=>R.of (cS b ds) af
 | _,.me m o es,fr=>if jd m then match j0 fr o with
   | some i=>(cj P (BJ m) es fr).bind fun ds af=>match af[i]? with
    | some (some (.own l))=>match kq m l ds with
     | some (v,l')=>.ok v (af.set i (some (.own l')))
     | none=>.bad
    | some (some (.bor l))=>match kq m l ds with
     | some (v,l')=>.ok v (af.set i (some (.bor l')))
     | none=>.bad
    | _=>.bad
   | none=>.bad
  else (ev P (kf o (gn es)) o fr).bind fun x af=>(cj P true es af).bind fun ds ao=>R.of (fM m x ds) ao
 | _,.comp elt t it cond,fr=>(cF P true it fr).bind fun s af=>if undef t af then
   R.of ((cO (fun d=>match bz t d (tO af) with
    | none=>none
    | some ao=>match iH P cond ao with
     | .ok c _=>if c then (match ev P false elt ao with | .ok x _=>some (some x) | .bad=>none) else some none
     | .bad=>none) s).bind er) af else .bad
 | _,.ig it,fr=>(cF P true it fr).bind fun s af=>R.of (er s) af
 | _,.jy kvs a,fr=>(ev P true a fr).bind fun x af=>R.of (fk x kvs) af
 | _,.iT a,fr=>(ev P true a fr).bind fun x af=>R.of (toT x) af
termination_by _ e=>(sizeOf e,0)
noncomputable def cj (P:aR):Bool→Es→Fr→R (List V)
 | _,.nil,fr=>.ok [] fr
 | k,.cons e es,fr=>(ev P (k&&kf e (gn es)) e fr).bind fun d af=>(cj P k es af).bind fun ds ao=>.ok (d :: ds) ao
termination_by _ e=>(sizeOf e,0)
noncomputable def gj (P:aR):Es→Fr→R (List (Nat ⊕ V))
 | .nil,fr=>.ok [] fr
 | .cons e es,fr=>match j0 fr e with
   | some i=>(gj P es fr).bind fun r af=>.ok (.inl i :: r) af
   | none=>(ev P false e fr).bind fun d af=>(gj P es af).bind fun r ao=>.ok (.inr d :: r) ao
termination_by e=>(sizeOf e,0)
noncomputable def gi (P:aR):Eo→Fr→R (Option Int)
 | .no,fr=>.ok none fr
 | .yes e,fr=>(ev P true e fr).bind fun d af=>R.of ((intOf d).map some) af
termination_by e=>(sizeOf e,0)
noncomputable def iH (P:aR):Eo→Fr→R Bool
 | .no,fr=>.ok true fr
 | .yes e,fr=>aL P e fr
termination_by e=>(sizeOf e,0)
noncomputable def aL (P:aR):E→Fr→R Bool
 | .an a b,fr=>(aL P a fr).bind fun k af=>if k then aL P b af else .ok false af
 | .orr a b,fr=>(aL P a fr).bind fun k af=>if k then .ok true af else aL P b af
 | .nt a,fr=>(aL P a fr).bind fun k af=>.ok (!k) af
 | e,fr=>(ev P true e fr).bind fun x af=>.ok (truthy x) af
termination_by e=>(sizeOf e,1)
noncomputable def cF (P:aR):Bool→It→Fr→R (List V)
 | k,.seq e,fr=>(src k fr e (ev P k e fr)).bind fun x af=>R.of (fS x) af
 | _,.g8 es,fr=>(cj P true es fr).bind fun ds af=>R.of (fT ds) af
 | k,.enum a,fr=>(src k fr a (ev P k a fr)).bind fun x af=>R.of ((o9 x).map fun s=>gT 0 s) af
 | _,.rev a,fr=>(ev P true a fr).bind fun x af=>R.of ((zN x).map fun s=>s.reverse) af
termination_by _ e=>(sizeOf e,0)
end
noncomputable def isNew:E→Bool
 | .lst _=>true
 | .ig _=>true
 | _=>false
noncomputable def lU (P:aR) (f:Nat):List V→List (Int×List Nat)→Option (List (Int×List Nat))
 | [],k=>some k
 | v :: vs,k=>match P f [.val v] with
  | some (.dct m,[])=>if k.length+m.length≤100000 then lU P f vs (Ev.cY k m) else none
  | _=>none
noncomputable def kr (fr:Fr) (x:Nat) (vs:List V):Option Fr:=match vs.getLast? with
 | some v=>put fr x (.val v)
 | none=>some fr
mutual
noncomputable def ex (P:aR) (w:Nat):S→Fr→R Fl
 | .set i e,fr=>(ev P false e fr).bind fun x af=>if isNew e then (match x with
   | .lst l=>(R.of (put af i (.own l)) af).bind fun ao _=>.ok .nx ao
   | _=>.bad)
  else (R.of (put af i (.val x)) af).bind fun ao _=>.ok .nx ao
 | .zp l e,fr=>(ev P false e fr).bind fun x af=>(R.of (bz (.many l) x af) af).bind fun ao _=>.ok .nx ao
 | .dput _ _ _,_=>.bad
 | .pN _ _,_=>.bad
 | .jz i x y f,fr=>if i≠y∧x≠i∧i<fr.length∧x<fr.length then (cF P false (.seq (.v y)) (lS [y] fr)).bind fun vs af=>(R.of (lU P f vs []) af).bind fun k ao=>(R.of (put ao i (.val (.dct k))) ao).bind fun bG _=>(R.of (kr bG x vs) bG).bind fun gM _=>.ok .nx gM else .bad
 | .exp e,fr=>(ev P true e fr).bind fun _ af=>.ok .nx af
 | .ret e,fr=>(ev P false e (gE fr)).bind fun x af=>.ok (.ret x) af
 | .iff t a b,fr=>(aL P t fr).bind fun k af=>if k then exs P w a af else exs P w b af
 | .for t it b,fr=>(cF P false it (lS (itv it) fr)).bind fun s af=>forL (fun d ao=>match bz t d ao with
   | some bG=>exs P w b bG
   | none=>.bad) s af
 | .m7 t b,fr=>ek (fun ao=>aL P t ao) (fun ao=>exs P w b ao) w fr
 | .fL,_=>.bad
noncomputable def exs (P:aR) (w:Nat):Ss→Fr→R Fl
 | .nil,fr=>.ok .nx fr
 | .cons s ss,fr=>(ex P w s fr).bind fun p af=>match p with
   | .nx=>exs P w ss af
   | p=>.ok p af
end
noncomputable def eK (fn:Fn) (ds:List Sl):Fr:=ds.map some++List.replicate (fn.ns - fn.np) none
noncomputable def outs (np:Nat) (fr:Fr):List (List V):=(fr.take np).filterMap fun o=>o.bind Sl.out
noncomputable def Gj:Ss:=.cons (.dput (.v 1) (.v 2) (.v 4)) (.cons (.set 2 (.bin .add (.v 2) (.c (.int 1)))) .nil)
noncomputable def vq:Ss:=.cons (.iff (.cmp .eq (.ix (.v 3) (.c (.int 0))) (.c (.str [100,114,111,112]))) (.cons (.for (.one 4) (.seq (.ix (.v 3) (.c (.int 1)))) Gj) .nil) (.cons (.iff (.cmp .eq (.ix (.v 3) (.c (.int 0))) (.c (.str [107,101,101,112]))) (.cons (.set 2 (.bin .add (.v 2) (.ix (.v 3) (.c (.int 1))))) .nil) .nil) .nil)) .nil
noncomputable def eL:Fn:=⟨1,5,.cons (.set 1 .gW) (.cons (.set 2 (.c (.int 0))) (.cons (.for (.one 3) (.seq (.v 0)) vq) (.cons (.ret (.v 1)) .nil)))⟩
noncomputable def gI:List (Int×List Nat)→Int→List Nat→List (Int×List Nat)
 | k,_,[]=>k
 | k,p,c :: s=>gI (Ev.cW k p [c]) (p+1) s
noncomputable def bf:List V→Int→List (Int×List Nat)→Option (List (Int×List Nat))
 | [],_,k=>some k
 | .tup [.str w,.str s] :: r,p,k=>if w=[100,114,111,112] then (if k.length+s.length≤100000 then bf r (p+s.length) (gI k p s) else none) else if w=[107,101,101,112] then none else bf r p k
 | .tup [.str w,.int i] :: r,p,k=>if w=[107,101,101,112] then bf r (p+i) k else none
 | _ :: _,_,_=>none
open Classical in
noncomputable def tP (fn:Fn) (ds:List Sl):Option (V×List (List V)):=if fn=eL then match ds with
  | [.val (.tup l)]=>(bf l 0 []).map fun k=>(.dct k,[])
  | _=>none
 else none
noncomputable def run (F:List Fn) (w:Nat):Nat→aR
 | 0,_,_=>none
 | n+1,f,ds=>match F[f]? with
  | some fn=>if ds.length=fn.np then match exs (run F w n) w fn.body (eK fn ds) with
    | .ok (.ret v) fr=>some (v,outs fn.np fr)
    | .ok .nx fr=>some (.aP,outs fn.np fr)
    | _=>tP fn ds
   else none
  | none=>none
end Pv
namespace Pv
open Ev (D O Hh bU bQ TY BI ME T E Es Eo It S Ss Fn big deep b2i rep cC dP bP aS cut cR eF slots bh)
section
variable (h:Hh)(S:Nat→Prop)
mutual
noncomputable def Rep:V→D→Prop
 | .aP,d=>d=.aP
 | .bl b,d=>d=.bl b
 | .int i,d=>d=.int i
 | .str s,d=>d=.str s
 | .tup l,d=>∃ ds,d=.tup ds∧aq l ds
 | .lst l,d=>∃ n ds,d=.ref n∧S n∧h[n]?=some (.lst ds)∧aq l ds
 | .bR l,d=>∃ n ds,d=.ref n∧S n∧h[n]?=some (.bR ds)∧aq l ds
 | .dct kvs,d=>∃ n,d=.ref n∧S n∧h[n]?=some (.dct kvs)
noncomputable def aq:List V→List D→Prop
 | [],ds=>ds=[]
 | v :: vs,ds=>∃ d es,ds=d :: es∧Rep v d∧aq vs es
end
noncomputable def bu:V→D→Prop
 | .lst l,d=>∃ n ds,d=.ref n∧h[n]?=some (.lst ds)∧aq h S l ds
 | v,d=>Rep h S v d
noncomputable def gk:List V→List D→Prop
 | [],ds=>ds=[]
 | v :: vs,ds=>∃ d es,ds=d :: es∧bu h S v d∧gk vs es
end
abbrev U:Nat→Prop:=fun _=>True
section
variable {h h':Hh}{S S':Nat→Prop}
mutual
theorem Rep.mono (f:∀ m,S m→h'[m]?=h[m]?) (g:∀ m,S m→S' m):∀ {v:V}{d:D},Rep h S v d→Rep h' S' v d
 | .aP,_,q=>q
 | .bl _,_,q=>q
 | .int _,_,q=>q
 | .str _,_,q=>q
 | .tup l,_,⟨ds,a,b⟩=>⟨ds,a,aq.mono f g b⟩
 | .lst l,_,⟨n,ds,a,b,c,e⟩=>⟨n,ds,a,g n b,by rw [f n b];exact c,aq.mono f g e⟩
 | .bR l,_,⟨n,ds,a,b,c,e⟩=>⟨n,ds,a,g n b,by rw [f n b];exact c,aq.mono f g e⟩
 | .dct kvs,_,⟨n,a,b,c⟩=>⟨n,a,g n b,by rw [f n b];exact c⟩
theorem aq.mono (f:∀ m,S m→h'[m]?=h[m]?) (g:∀ m,S m→S' m):∀ {v:List V}{d:List D},aq h S v d→aq h' S' v d
 | [],_,q=>q
 | _ :: _,_,⟨d,es,a,b,c⟩=>⟨d,es,a,Rep.mono f g b,aq.mono f g c⟩
end
theorem aq.nil:aq h S [] []:=by simp [aq]
theorem aq.cons {v:V}{d:D}{vs:List V}{ds:List D}(a:Rep h S v d) (b:aq h S vs ds):aq h S (v :: vs) (d :: ds):=by simp only [aq];exact ⟨d,ds,rfl,a,b⟩
theorem Rep.top {v:V}{d:D}(q:Rep h S v d):bu h S v d:=by
 cases v <;> first | exact q | (obtain ⟨n,ds,a,b,c,e⟩:=q;exact ⟨n,ds,a,c,e⟩)
theorem bu.u {v:V}{d:D}(q:bu h S v d):Rep h U v d:=by
 cases v with
 | lst l=>obtain ⟨n,ds,a,b,c⟩:=q;exact ⟨n,ds,a,trivial,b,c.mono (fun _ _=>rfl) fun _ _=>trivial⟩
 | _=>exact Rep.mono (S:=S) (fun _ _=>rfl) (fun _ _=>trivial) q
theorem aq.u {v:List V}{d:List D}(q:aq h S v d):aq h U v d:=q.mono (fun _ _=>rfl) fun _ _=>trivial
theorem bu.mono {v:V}{d:D}(f:∀ m,m<h.length→h'[m]?=h[m]?) (k:∀ m,S m→m<h.length) (g:∀ m,S m→S' m) (q:bu h S v d):bu h' S' v d:=by
 cases v with
 | lst l=>
  obtain ⟨n,ds,a,b,c⟩:=q
  exact ⟨n,ds,a,by rw [f n (List.getElem?_eq_some_iff.mp b).1];exact b,c.mono (fun m z=>f m (k m z)) g⟩
 | _=>exact Rep.mono (fun m z=>f m (k m z)) g q
theorem aq.length:∀ {v:List V}{d:List D},aq h S v d→v.length=d.length
 | [],_,q=>by simp only [aq] at q;subst q;rfl
 | _ :: _,_,q=>by simp only [aq] at q;obtain ⟨d,es,rfl,_,c⟩:=q;simp [c.length]
theorem aq.get:∀ {v:List V}{d:List D}{i:Nat}{x:V},aq h S v d→v[i]?=some x→∃ y,d[i]?=some y∧Rep h S x y
 | [],_,_,_,_,e=>by simp at e
 | _ :: _,_,0,_,q,e=>by
  simp only [aq] at q
  obtain ⟨d,es,rfl,b,_⟩:=q
  simp at e;subst e
  exact ⟨d,by simp,b⟩
 | _ :: _,_,i+1,_,q,e=>by
  simp only [aq] at q
  obtain ⟨d,es,rfl,_,c⟩:=q
  obtain ⟨y,a,b⟩:=c.get (i:=i) (by simpa using e)
  exact ⟨y,by simpa using a,b⟩
theorem aq.append:∀ {v w:List V}{d e:List D},aq h S v d→aq h S w e→aq h S (v++w) (d++e)
 | [],_,_,_,a,b=>by simp only [aq] at a;subst a;simpa using b
 | _ :: _,_,_,_,a,b=>by
  simp only [aq] at a
  obtain ⟨d,es,rfl,x,y⟩:=a
  exact .cons x (y.append b)
theorem aq.take:∀ {v:List V}{d:List D}(n:Nat),aq h S v d→aq h S (v.take n) (d.take n)
 | _,_,0,_=>by simp [aq]
 | [],_,_+1,a=>by simp only [aq] at a;subst a;simp [aq]
 | _ :: _,_,n+1,a=>by
  simp only [aq] at a
  obtain ⟨d,es,rfl,x,y⟩:=a
  simp only [List.take_succ_cons]
  exact .cons x (y.take n)
theorem aq.drop:∀ {v:List V}{d:List D}(n:Nat),aq h S v d→aq h S (v.drop n) (d.drop n)
 | _,_,0,a=>by simpa using a
 | [],_,_+1,a=>by simp only [aq] at a;subst a;simp [aq]
 | _ :: _,_,n+1,a=>by
  simp only [aq] at a
  obtain ⟨d,es,rfl,x,y⟩:=a
  simp only [List.drop_succ_cons]
  exact y.drop n
theorem aq.dropLast:∀ {v:List V}{d:List D},aq h S v d→aq h S v.dropLast d.dropLast:=fun {v d} a=>by
 rw [List.dropLast_eq_take,List.dropLast_eq_take,a.length];exact a.take _
theorem aq.reverse:∀ {v:List V}{d:List D},aq h S v d→aq h S v.reverse d.reverse
 | [],_,a=>by simp only [aq] at a;subst a;simp [aq]
 | _ :: _,_,a=>by
  simp only [aq] at a
  obtain ⟨d,es,rfl,x,y⟩:=a
  simp only [List.reverse_cons]
  exact y.reverse.append (.cons x .nil)
theorem aq.rep {v:List V}{d:List D}(a:aq h S v d):∀ k:Nat,aq h S (Ev.rep k v) (Ev.rep k d)
 | 0=>by simp [Ev.rep,aq]
 | k+1=>by
  have z:=aq.rep a k
  simp only [Ev.rep,List.replicate_succ,List.flatten_cons] at z ⊢
  exact a.append z
theorem aq.cut {v:List V}{d:List D}(a:aq h S v d) (lo hi:Option Int):aq h S (Ev.cut v lo hi) (Ev.cut d lo hi):=by
 unfold Ev.cut
 rw [a.length]
 exact (a.drop _).take _
theorem aq.map {α:Type}{f:α→V}{g:α→D}(q:∀ a,Rep h S (f a) (g a)):∀ l:List α,aq h S (l.map f) (l.map g)
 | []=>.nil
 | _ :: l=>.cons (q _) (aq.map q l)
mutual
theorem Rep.uniq:∀ {v w:V}{d:D},Rep h U v d→Rep h U w d→v=w
 | .aP,w,_,a,b=>by simp only [Rep] at a;subst a;cases w <;> simp [Rep] at b <;> rfl
 | .bl _,w,_,a,b=>by simp only [Rep] at a;subst a;cases w <;> simp [Rep] at b <;> rw [b]
 | .int _,w,_,a,b=>by simp only [Rep] at a;subst a;cases w <;> simp [Rep] at b <;> rw [b]
 | .str _,w,_,a,b=>by simp only [Rep] at a;subst a;cases w <;> simp [Rep] at b <;> rw [b]
 | .tup l,w,_,a,b=>by
  simp only [Rep] at a;obtain ⟨ds,rfl,a⟩:=a
  cases w <;> simp [Rep] at b
  rw [aq.uniq a b]
 | .lst l,w,_,a,b=>by
  simp only [Rep] at a;obtain ⟨n,ds,rfl,_,a1,a⟩:=a
  cases w <;> simp [Rep] at b
  ·obtain ⟨ds',b1,b⟩:=b
   rw [a1] at b1;cases b1
   rw [aq.uniq a b]
  ·obtain ⟨ds',b1,b⟩:=b
   rw [a1] at b1;cases b1
  ·rw [a1] at b;cases b
 | .bR l,w,_,a,b=>by
  simp only [Rep] at a;obtain ⟨n,ds,rfl,_,a1,a⟩:=a
  cases w <;> simp [Rep] at b
  ·obtain ⟨ds',b1,b⟩:=b
   rw [a1] at b1;cases b1
  ·obtain ⟨ds',b1,b⟩:=b
   rw [a1] at b1;cases b1
   rw [aq.uniq a b]
  ·rw [a1] at b;cases b
 | .dct kvs,w,_,a,b=>by
  simp only [Rep] at a;obtain ⟨n,rfl,_,a1⟩:=a
  cases w <;> simp [Rep] at b
  ·obtain ⟨ds',b1,b⟩:=b
   rw [a1] at b1;cases b1
  ·obtain ⟨ds',b1,b⟩:=b
   rw [a1] at b1;cases b1
  ·rw [a1] at b;cases b;rfl
theorem aq.uniq:∀ {v w:List V}{d:List D},aq h U v d→aq h U w d→v=w
 | [],w,_,a,b=>by simp only [aq] at a;subst a;cases w <;> simp [aq] at b;rfl
 | x :: xs,w,_,a,b=>by
  simp only [aq] at a;obtain ⟨d,es,rfl,a1,a2⟩:=a
  cases w <;> simp only [aq] at b
  ·cases b
  obtain ⟨d',es',e,b1,b2⟩:=b
  cases e
  rw [Rep.uniq a1 b1,aq.uniq a2 b2]
end
theorem vt {n:Nat}(f:∀ v b,dm n v v=some b→b=true):∀ l b,cJ (dm n) l l=some b→b=true
 | [],b,e=>by simp [cJ] at e;exact e
 | x :: xs,b,e=>by
  simp only [cJ,Option.bind_eq_some_iff] at e
  obtain ⟨c,e1,c2,e2,e⟩:=e
  rw [f x c e1,vt f xs c2 e2] at e
  simpa using e.symm
theorem vv:∀ n v b,dm n v v=some b→b=true
 | 0,_,_,e=>by cases e
 | n+1,v,b,e=>by
  cases v <;> first | exact vt (vv n) _ _ e | (cases e <;> first | rfl | exact beq_self_eq_true _)
theorem vz {n:Nat}(f:∀ {v w:V}{d e:D}{b},dm n v w=some b→Rep h U v d→Rep h U w e→Ev.gG h n d e=some b):∀ {l m:List V}{ds es:List D}{b},cJ (dm n) l m=some b→aq h U l ds→aq h U m es→Ev.cJ (Ev.gG h n) ds es=some b
 | [],[],_,_,b,e,p,q=>by simp only [aq] at p q;subst p q;simpa [cJ,Ev.cJ] using e
 | [],_ :: _,_,_,b,e,p,q=>by simp only [aq] at p q;subst p;obtain ⟨_,_,rfl,_⟩:=q;simpa [cJ,Ev.cJ] using e
 | _ :: _,[],_,_,b,e,p,q=>by simp only [aq] at p q;subst q;obtain ⟨_,_,rfl,_⟩:=p;simpa [cJ,Ev.cJ] using e
 | x :: xs,y :: ys,_,_,b,e,p,q=>by
  simp only [aq] at p q
  obtain ⟨d,ds,rfl,p1,p2⟩:=p
  obtain ⟨d',ds',rfl,q1,q2⟩:=q
  simp only [cJ,Option.bind_eq_some_iff] at e
  obtain ⟨c,e1,c2,e2,e⟩:=e
  simp [Ev.cJ,f e1 p1 q1,vz f e2 p2 q2]
  simpa using e
theorem iX {n:Nat}{ds:List D}(q:h[n]?=some (.lst ds)):bh h n=some ds:=by simp [bh,q]
theorem jB {n:Nat}{ds:List D}(q:h[n]?=some (.bR ds)):bh h n=some ds:=by simp [bh,q]
theorem kR:∀ (n:Nat) {v w:V}{d e:D}{b},dm n v w=some b→Rep h U v d→Rep h U w e→Ev.gG h n d e=some b
  | 0,_,_,_,_,_,e,_,_=>by cases e
  | n+1,v,w,d,e,b,x,p,q=>by
    by_cases hr:∃ m,d=.ref m∧e=.ref m
    · obtain ⟨m,rfl,rfl⟩:=hr
      have hvw:=p.uniq q
      subst hvw
      have hb:=vv _ _ _ x
      subst hb
      cases v <;> simp [Rep] at p
      · obtain ⟨ds,p1,p2⟩:=p;show Ev.jX _ _ _ _=_;rw [Ev.jX,if_pos rfl,iX p1];rfl
      · obtain ⟨ds,p1,p2⟩:=p;show Ev.jX _ _ _ _=_;rw [Ev.jX,if_pos rfl,jB p1];rfl
      · cases x
    · cases v <;> cases w <;> simp only [Rep] at p q <;>
      first
      | (subst p;subst q;exact x)
      | (obtain ⟨ds,rfl,p⟩:=p;subst q;exact x)
      | (obtain ⟨ds,rfl,q⟩:=q;subst p;exact x)
      | (obtain ⟨ds,rfl,p⟩:=p;obtain ⟨es,rfl,q⟩:=q;exact vz (fun a b c=>kR n a b c) x p q)
      | (cases x;done)
      | (obtain ⟨m,ds,rfl,_,p1,p⟩:=p;obtain ⟨k,es,rfl,_,q1,q⟩:=q
         have hne:m≠k:=fun z=>hr ⟨m,rfl,by rw [z]⟩
         show Ev.jX _ _ _ _=_
         rw [Ev.jX,if_neg hne,p1,q1];exact vz (fun a b c=>kR n a b c) x p q)
      | (cases x;obtain ⟨m,ds,rfl,_,p1,p⟩:=p;subst q;exact congrArg (Option.map fun _=>false) (iX p1))
      | (cases x;obtain ⟨m,ds,rfl,_,p1,p⟩:=p;subst q;exact congrArg (Option.map fun _=>false) (jB p1))
      | (cases x;obtain ⟨m,ds,rfl,_,p1,p⟩:=p;obtain ⟨es,rfl,q⟩:=q;exact congrArg (Option.map fun _=>false) (iX p1))
      | (cases x;obtain ⟨m,ds,rfl,_,p1,p⟩:=p;obtain ⟨es,rfl,q⟩:=q;exact congrArg (Option.map fun _=>false) (jB p1))
      | (cases x;obtain ⟨m,ds,rfl,_,q1,q⟩:=q;subst p;exact congrArg (Option.map fun _=>false) (iX q1))
      | (cases x;obtain ⟨m,ds,rfl,_,q1,q⟩:=q;subst p;exact congrArg (Option.map fun _=>false) (jB q1))
      | (cases x;obtain ⟨m,ds,rfl,_,q1,q⟩:=q;obtain ⟨es,rfl,p⟩:=p;exact congrArg (Option.map fun _=>false) (iX q1))
      | (cases x;obtain ⟨m,ds,rfl,_,q1,q⟩:=q;obtain ⟨es,rfl,p⟩:=p;exact congrArg (Option.map fun _=>false) (jB q1))
end
end Pv
namespace Pv
open Ev (D O Hh bU bQ TY BI ME T E Es Eo It S Ss Fn big deep b2i rep cC dP bP aS cut cR eF slots bh)
structure Al (h:Hh) (S:Nat→Prop) (h':Hh) (S':Nat→Prop):Prop where
 len:h.length≤h'.length
 keep:∀ m,m<h.length→h'[m]?=h[m]?
 sub:∀ m,S m→S' m
 new:∀ m,S' m→S m∨(h.length≤m∧m<h'.length)
section
variable {h h':Hh}{S S':Nat→Prop}
theorem Al.refl:Al h S h S:=⟨Nat.le_refl _,fun _ _=>rfl,fun _ q=>q,fun _ q=>.inl q⟩
theorem Al.snoc (o:O):Al h S (h++[o]) (fun m=>S m∨m=h.length) where
 len:=by simp
 keep:=fun m q=>by rw [List.getElem?_append_left q]
 sub:=fun _ q=>.inl q
 new:=fun m q=>by
  rcases q with q | q
  ·exact .inl q
  ·subst q;exact .inr ⟨Nat.le_refl _,by simp⟩
theorem iL {l:List V}{v:V}{ds:List D}(w:∀ m,S m→m<h.length) (e:er l=some v) (q:aq h S l ds):∃ r h' S',Ev.alloc ds h=.ok r h'∧Rep h' S' v r∧Al h S h' S':=by
 unfold er at e
 split at e
 ·rename_i z
  cases e
  refine ⟨.ref h.length,h++[.lst ds],fun m=>S m∨m=h.length,by unfold Ev.alloc;rw [if_pos (by rw [←q.length];exact z)],?_,Al.snoc _⟩
  simp only [Rep]
  refine ⟨h.length,ds,rfl,.inr rfl,by simp,q.mono (fun m z=>?_) fun _ z=>.inl z⟩
  rw [List.getElem?_append_left (w m z)]
 ·cases e
theorem kT {v:V}{l:List V}{d:D}(e:o9 v=some l) (q:bu h S v d):∃ n ds,d=.ref n∧bh h n=some ds∧aq h S l ds:=by
 cases v <;> simp [o9] at e
 ·subst e;simp only [bu] at q;obtain ⟨n,ds,rfl,a,b⟩:=q;exact ⟨n,ds,rfl,iX a,b⟩
 ·subst e;simp only [bu,Rep] at q;obtain ⟨n,ds,rfl,_,a,b⟩:=q;exact ⟨n,ds,rfl,jB a,b⟩
mutual
theorem nu:∀ {d:D}{v:V},ofD d=some v→Rep h S v d
 | .aP,_,e=>by simp [ofD] at e;subst e;simp [Rep]
 | .bl _,_,e=>by simp [ofD] at e;subst e;simp [Rep]
 | .int _,_,e=>by simp [ofD] at e;subst e;simp [Rep]
 | .str _,_,e=>by simp [ofD] at e;subst e;simp [Rep]
 | .ref _,_,e=>by simp [ofD] at e
 | .tup ds,_,e=>by
  simp [ofD] at e
  obtain ⟨vs,e,rfl⟩:=e
  exact ⟨ds,rfl,yr e⟩
theorem yr:∀ {d:List D}{v:List V},vn d=some v→aq h S v d
 | [],_,e=>by simp [vn] at e;subst e;exact .nil
 | d :: ds,_,e=>by
  simp only [vn,Option.bind_eq_some_iff,Option.map_eq_some_iff] at e
  obtain ⟨v,e1,vs,e2,rfl⟩:=e
  exact .cons (nu e1) (yr e2)
end
theorem aq.emp {l:List V}{ds:List D}(q:aq h S l ds):ds.isEmpty=l.isEmpty:=by
 have:=q.length
 cases l <;> cases ds <;> simp at this ⊢
theorem Mf {v:V}{d:D}{kvs:List (Int×List Nat)}(z:Me v=some kvs) (p:bu h S v d):∃ n,d=.ref n∧h[n]?=some (.dct kvs):=by
 cases v <;> simp only [Me,reduceCtorEq,Option.some.injEq] at z
 subst z
 simp only [bu,Rep] at p
 obtain ⟨n,rfl,_,a⟩:=p
 exact ⟨n,rfl,a⟩
theorem BK {v:V}{d:D}(q:bu h S v d):Ev.truthy h d=some (truthy v):=by
 cases v <;> simp only [bu,Rep] at q
 ·subst q;rfl
 ·subst q;rfl
 ·subst q;rfl
 ·subst q;rfl
 ·obtain ⟨ds,rfl,q⟩:=q;simp only [Ev.truthy,truthy,q.emp]
 ·obtain ⟨n,ds,rfl,a,q⟩:=q;simp only [Ev.truthy,truthy,iX a,Option.map,q.emp];rw [a]
 ·obtain ⟨n,ds,rfl,_,a,q⟩:=q;simp only [Ev.truthy,truthy,jB a,Option.map,q.emp];rw [a]
 ·obtain ⟨n,rfl,_,a⟩:=q;simp only [Ev.truthy,truthy];rw [a]
theorem nn {α:Type}{v:α}{p:Prop}(z:none=some v):p:=Option.noConfusion rfl (heq_of_eq z)
theorem Mg {o:bU}{x y v:V}{d e:D}(w:∀ m,S m→m<h.length) (z:bZ o x y=some v) (p:bu h S x d) (q:bu h S y e):∃ r h' S',Ev.bZ o d e h=.ok r h'∧Rep h' S' v r∧Al h S h' S':=by
 cases o <;> cases x <;> first | exact nn z | (cases y <;> first | exact nn z | skip)
 all_goals (delta bZ at z;dsimp only at z;simp only [bu,Rep] at p q)
 ·subst p q;cases z;exact ⟨_,_,S,rfl,rfl,.refl⟩
 ·subst p q;split at z
  ·rename_i k;cases z;exact ⟨_,_,S,by delta Ev.bZ;dsimp only;rw [if_pos k],rfl,.refl⟩
  ·cases z
 ·obtain ⟨ds,rfl,p⟩:=p;obtain ⟨es,rfl,q⟩:=q;split at z
  ·rename_i k;cases z;exact ⟨_,_,S,by delta Ev.bZ;dsimp only;rw [if_pos (by rw [←p.length,←q.length];exact k)],⟨_,rfl,p.append q⟩,.refl⟩
  ·cases z
 ·obtain ⟨n,ds,rfl,a,p⟩:=p;obtain ⟨m,es,rfl,b,q⟩:=q
  delta Ev.bZ;dsimp only;simp only [a,b]
  exact iL w z (p.append q)
 ·subst p q;cases z;exact ⟨_,_,S,rfl,rfl,.refl⟩
 ·subst p q;split at z
  ·rename_i k;cases z;exact ⟨_,_,S,by delta Ev.bZ;dsimp only;rw [if_pos k],rfl,.refl⟩
  ·cases z
 ·subst p q;split at z
  ·rename_i k;cases z;exact ⟨_,_,S,by delta Ev.bZ;dsimp only;rw [if_pos k],rfl,.refl⟩
  ·cases z
 ·obtain ⟨ds,rfl,p⟩:=p;subst q;split at z
  ·rename_i k;cases z;exact ⟨_,_,S,by delta Ev.bZ;dsimp only;rw [if_pos (by rw [←p.length];exact k)],⟨_,rfl,p.rep _⟩,.refl⟩
  ·cases z
 ·obtain ⟨n,ds,rfl,a,p⟩:=p;subst q;split at z
  ·rename_i k
   delta Ev.bZ;dsimp only;simp only [a]
   rw [if_pos (by rw [←p.length];exact k)]
   exact iL w z (p.rep _)
  ·cases z
 ·subst p q;split at z
  ·rename_i k;cases z;exact ⟨_,_,S,by delta Ev.bZ;dsimp only;rw [if_pos k],rfl,.refl⟩
  ·cases z
 ·subst p q;split at z
  ·rename_i k;cases z;exact ⟨_,_,S,by delta Ev.bZ;dsimp only;rw [if_pos k],rfl,.refl⟩
  ·cases z
theorem Mh {o:bQ}{x y:V}{d e:D}{b:Bool}(z:cop o x y=some b) (p:Rep h U x d) (q:Rep h U y e):Ev.cop o d e h=some b:=by
 cases o
 case eq=>delta cop at z;dsimp only at z;delta Ev.cop;dsimp only;exact kR deep z p q
 case ne=>
  delta cop at z;dsimp only at z;simp only [Option.map_eq_some_iff] at z;obtain ⟨c,z,rfl⟩:=z
  delta Ev.cop;dsimp only;simp only [kR deep z p q];rfl
 case mP=>
  cases y <;> (delta cop at z;dsimp only at z) <;> (try simp only [reduceCtorEq] at z)
  simp only [Rep] at q;subst q
  cases x <;> simp only [Rep] at p <;> (try obtain ⟨_,rfl,_⟩:=p) <;> (try obtain ⟨_,_,rfl,_⟩:=p) <;> (try subst p) <;> (delta Ev.cop;dsimp only;simpa using z)
 case m6=>
  cases y <;> (delta cop at z;dsimp only at z) <;> (try simp only [reduceCtorEq] at z)
  simp only [Rep] at q;subst q
  cases x <;> simp only [Rep] at p <;> (try obtain ⟨_,rfl,_⟩:=p) <;> (try obtain ⟨_,_,rfl,_⟩:=p) <;> (try subst p) <;> (delta Ev.cop;dsimp only;simpa using z)
 all_goals (
  cases x <;> first | exact nn z | (cases y <;> first | exact nn z | skip)
  simp only [Rep] at p q;subst p q;exact z)
theorem zO {l:List V}{ds:List D}{i:Int}{v:V}(e:bP l i=some v) (q:aq h S l ds):∃ d,bP ds i=some d∧Rep h S v d:=by
 unfold bP at e ⊢
 rw [q.length] at e
 cases z:dP ds.length i with
 | none=>rw [z] at e;cases e
 | some j=>rw [z] at e;exact q.get e
theorem Mi {x y v:V}{d e:D}(z:eg x y=some v) (p:bu h S x d) (q:bu h S y e):∃ r,Ev.eg d e h=some r∧Rep h S v r:=by
 cases x <;> cases y <;> simp only [eg,reduceCtorEq] at z <;> simp only [bu,Rep] at p q
 ·subst p q
  simp only [Option.map_eq_some_iff] at z
  obtain ⟨c,z,rfl⟩:=z
  exact ⟨.str [c],by simp [Ev.eg,z],rfl⟩
 ·obtain ⟨ds,rfl,p⟩:=p;subst q;simpa [Ev.eg] using zO z p
 ·obtain ⟨n,ds,rfl,a,p⟩:=p;subst q;simpa [Ev.eg,iX a] using zO z p
 ·obtain ⟨n,ds,rfl,_,a,p⟩:=p;subst q;simpa [Ev.eg,jB a] using zO z p
theorem Mj {x v:V}{d:D}{lo hi:Option Int}(w:∀ m,S m→m<h.length) (z:iG x lo hi=some v) (p:bu h S x d):∃ r h' S',Ev.iG d lo hi h=.ok r h'∧Rep h' S' v r∧Al h S h' S':=by
 cases x <;> simp only [iG,reduceCtorEq] at z <;> simp only [bu,Rep] at p
 ·subst p;cases z;exact ⟨_,_,S,rfl,rfl,.refl⟩
 ·obtain ⟨ds,rfl,p⟩:=p;cases z;exact ⟨_,_,S,rfl,⟨_,rfl,p.cut _ _⟩,.refl⟩
 ·obtain ⟨n,ds,rfl,a,p⟩:=p;simp only [Ev.iG,iX a];exact iL w z (p.cut _ _)
 ·obtain ⟨n,ds,rfl,_,a,p⟩:=p;simp only [Ev.iG,jB a];exact iL w z (p.cut _ _)
theorem Ml {x v:V}{d:D}(z:toT x=some v) (p:bu h S x d):∃ r,Ev.rF d h=.ok r h∧Rep h S v r:=by
 cases x <;> simp only [toT,reduceCtorEq] at z <;> simp only [bu,Rep] at p
 ·obtain ⟨ds,rfl,p⟩:=p;cases z;exact ⟨_,rfl,⟨_,rfl,p⟩⟩
 ·obtain ⟨n,ds,rfl,a,p⟩:=p
  unfold jZ at z
  split at z
  ·rename_i k;cases z
   refine ⟨.tup ds,?_,⟨_,rfl,p⟩⟩
   simp only [Ev.rF,iX a];rw [if_pos (by rw [←p.length];exact k)]
  ·cases z
 ·obtain ⟨n,ds,rfl,_,a,p⟩:=p
  unfold jZ at z
  split at z
  ·rename_i k;cases z
   refine ⟨.tup ds,?_,⟨_,rfl,p⟩⟩
   simp only [Ev.rF,jB a];rw [if_pos (by rw [←p.length];exact k)]
  ·cases z
theorem Iu {x:V}{l:List V}{d:D}(z:o9 x=some l) (p:bu h S x d):∃ s,Ev.Dr h d=some s∧aq h S l s.1∧(∀ q∈s.2,d=.ref q.1∧bh h q.1=some q.2):=by
 obtain ⟨n,ds,rfl,a,q⟩:=kT z p
 exact ⟨(ds,[(n,ds)]),by simp [Ev.Dr,a],q,by simp [a]⟩
theorem vA:∀ {l:List V}{ds:List D}{bs},boolsOf l=some bs→aq h S l ds→Ev.boolsOf ds=some bs
 | [],_,_,e,q=>by simp only [aq] at q;subst q;exact e
 | x :: xs,_,bs,e,q=>by
  cases x <;> simp only [boolsOf,reduceCtorEq,Option.map_eq_some_iff] at e
  obtain ⟨r,e,rfl⟩:=e
  simp only [aq,Rep] at q
  obtain ⟨_,ds,rfl,rfl,q⟩:=q
  simp [Ev.boolsOf,vA e q]
theorem rQ:∀ {l:List V}{ds:List D}{bs},intsOf l=some bs→aq h S l ds→Ev.intsOf ds=some bs
 | [],_,_,e,q=>by simp only [aq] at q;subst q;exact e
 | x :: xs,_,bs,e,q=>by
  cases x <;> simp only [intsOf,reduceCtorEq,Option.map_eq_some_iff] at e
  obtain ⟨r,e,rfl⟩:=e
  simp only [aq,Rep] at q
  obtain ⟨_,ds,rfl,rfl,q⟩:=q
  simp [Ev.intsOf,rQ e q]
theorem yt:∀ {l:List V}{ds:List D}{bs},strsOf l=some bs→aq h S l ds→Ev.strsOf ds=some bs
 | [],_,_,e,q=>by simp only [aq] at q;subst q;exact e
 | x :: xs,_,bs,e,q=>by
  cases x <;> simp only [strsOf,reduceCtorEq,Option.map_eq_some_iff] at e
  obtain ⟨r,e,rfl⟩:=e
  simp only [aq,Rep] at q
  obtain ⟨_,ds,rfl,rfl,q⟩:=q
  simp [Ev.strsOf,yt e q]
theorem gk.one {v:V}{ds:List D}(q:gk h S [v] ds):∃ d,ds=[d]∧bu h S v d:=by
 simp only [gk] at q
 obtain ⟨d,es,rfl,a,rfl⟩:=q
 exact ⟨d,rfl,a⟩
theorem Mm {b:BI}{xs:List V}{v:V}{ds:List D}(w:∀ m,S m→m<h.length) (z:cS b xs=some v) (p:gk h S xs ds):∃ r h' S',Ev.cS b ds h=.ok r h'∧Rep h' S' v r∧Al h S h' S':=by
 delta cS at z
 rcases xs with _ | ⟨x,_ | ⟨y,_ | ⟨u,xs⟩⟩⟩
 ·cases b <;> exact nn z
 ·obtain ⟨d,rfl,p1⟩:=p.one
  cases b
  case len=>
   cases x
   case str s=>
    dsimp only at z;simp only [bu,Rep] at p1;subst p1
    split at z
    ·rename_i k;cases z;exact ⟨_,_,S,by delta Ev.cS;dsimp only;rw [if_pos k],rfl,.refl⟩
    ·cases z
   case tup l=>
    dsimp only at z;simp only [bu,Rep] at p1;obtain ⟨es,rfl,p2⟩:=p1
    cases z;exact ⟨_,_,S,rfl,by simp [Rep,p2.length],.refl⟩
   all_goals
    dsimp only at z
    simp only [Option.map_eq_some_iff] at z;obtain ⟨l,z,rfl⟩:=z
    obtain ⟨n,es,rfl,a,q⟩:=kT z p1
    exact ⟨.int es.length,h,S,by delta Ev.cS;dsimp only;simp [a],by simp [Rep,q.length],.refl⟩
  case all=>
   dsimp only at z
   simp only [Option.map_eq_some_iff,Option.bind_eq_some_iff] at z;obtain ⟨bs,⟨l,z,z2⟩,rfl⟩:=z
   obtain ⟨n,es,rfl,a,q⟩:=kT z p1
   exact ⟨_,_,S,by delta Ev.cS;dsimp only;simp only [a,Option.bind,vA z2 q];rfl,rfl,.refl⟩
  case sum=>
   dsimp only at z
   simp only [Option.map_eq_some_iff,Option.bind_eq_some_iff] at z;obtain ⟨bs,⟨l,z,z2⟩,rfl⟩:=z
   obtain ⟨n,es,rfl,a,q⟩:=kT z p1
   exact ⟨_,_,S,by delta Ev.cS;dsimp only;simp only [a,Option.bind,rQ z2 q];rfl,rfl,.refl⟩
  case min=>cases x <;> exact nn z
  case zo=>
   dsimp only at z
   simp only [Option.bind_eq_some_iff] at z;obtain ⟨ss,⟨l,z,z2⟩,z3⟩:=z
   obtain ⟨n,es,rfl,a,q⟩:=kT z p1
   split at z3
   ·rename_i hl
    delta Ev.cS;dsimp only;simp only [a,Option.bind,rQ z2 q]
    rw [if_pos hl]
    exact iL w z3 (aq.map (f:=V.int) (g:=D.int) (fun s=>by simp [Rep]) _)
   ·cases z3
  case kg=>
   dsimp only at z
   obtain ⟨kvs,z1,z⟩:=Option.bind_eq_some_iff.mp z
   obtain ⟨n,rfl,a⟩:=Mf z1 p1
   by_cases hl:kvs.length<64
   ·rw [if_pos hl] at z
    delta Ev.cS;dsimp only;simp only [Ev.eT,a]
    rw [if_pos hl]
    exact iL w z (aq.map (f:=V.int) (g:=D.int) (fun s=>by simp [Rep]) _)
   ·rw [if_neg hl] at z;cases z
 ·cases b
  case min=>
   cases x
   case int i=>
    cases y
    case int j=>
     dsimp only at z
     simp only [gk,bu,Rep] at p;obtain ⟨_,_,rfl,rfl,_,_,rfl,rfl,rfl⟩:=p
     cases z;exact ⟨_,_,S,rfl,rfl,.refl⟩
    all_goals exact nn z
   all_goals exact nn z
  case len=>cases x <;> exact nn z
  all_goals exact nn z
 ·cases b
  case min=>cases x <;> (try cases y) <;> exact nn z
  case len=>cases x <;> exact nn z
  all_goals exact nn z
theorem Mn {m:ME}{o:V}{xs:List V}{v:V}{d:D}{ds:List D}(z:fM m o xs=some v) (hm:jd m=false) (po:bu h S o d) (p:gk h S xs ds):Ev.xV m d h=true∧∃ r,Ev.fM m d ds h=.ok r h∧Rep h S v r:=by
 unfold fM at z
 split at z
 ·obtain ⟨d,rfl,p1⟩:=p.one;simp only [bu,Rep] at po;subst po
  simp only [Option.bind_eq_some_iff] at z;obtain ⟨ss,⟨l,z,z2⟩,z3⟩:=z
  obtain ⟨n,es,rfl,a,q⟩:=kT z p1
  split at z3
  ·rename_i k;cases z3
   refine ⟨rfl,_,?_,rfl⟩
   delta Ev.fM;dsimp only;simp only [a,Option.bind,yt z2 q]
   rw [if_pos k]
  ·cases z3
 ·cases z
theorem Iv {x:V}{d:D}(f:t8 x=true) (p:Rep h U x d):Rep [] U x d:=by
 cases x <;> simp only [t8,Bool.false_eq_true] at f <;> exact p
theorem DS {x:V}{d:D}(p:Rep h U x d):∀ {kvs:List (D×D)}{v:V},fk x kvs=some v→∃ r,Ev.fk d kvs=some r∧Rep h S v r:=by
 intro kvs v z
 unfold fk at z
 split at z
 ·rename_i f
  have p':=Iv f p
  induction kvs with
  | nil=>cases z
  | cons kv r ih=>
   obtain ⟨k,u⟩:=kv
   simp only [zM] at z
   simp only [Ev.fk]
   split at z
   ·rename_i y
    simp only [Option.bind_eq_some_iff] at y
    obtain ⟨k',y1,y2⟩:=y
    rw [kR 1 y2 (nu y1) p']
    exact ⟨u,rfl,nu z⟩
   ·rename_i y
    simp only [Option.bind_eq_some_iff] at y
    obtain ⟨k',y1,y2⟩:=y
    rw [kR 1 y2 (nu y1) p']
    exact ih z
   ·cases z
 ·cases z
theorem DT {x:V}{l:List V}{d:D}(z:fS x=some l) (p:bu h S x d):∃ s,Ev.fS h d=some s∧aq h S l s.1∧(∀ q∈s.2,d=.ref q.1∧bh h q.1=some q.2):=by
 cases x <;> simp only [fS,reduceCtorEq] at z <;> simp only [bu,Rep] at p
 ·subst p;cases z;exact ⟨_,rfl,aq.map (f:=fun c=>V.str [c]) (g:=fun c=>D.str [c]) (fun _=>by simp [Rep]) _,by simp⟩
 ·obtain ⟨ds,rfl,p⟩:=p;cases z;exact ⟨_,rfl,p,by simp⟩
 ·obtain ⟨n,ds,rfl,a,p⟩:=p;cases z;exact ⟨(ds,[(n,ds)]),by simp [Ev.fS,iX a],p,by simp [iX a]⟩
 ·obtain ⟨n,ds,rfl,_,a,p⟩:=p;cases z;exact ⟨(ds,[(n,ds)]),by simp [Ev.fS,jB a],p,by simp [jB a]⟩
theorem vC (lo:Int) (n:Nat):aq h S (range lo n) (Ev.range lo n):=aq.map (f:=fun (i:Nat)=>V.int (lo+i)) (g:=fun (i:Nat)=>D.int (lo+i)) (fun _=>by simp [Rep]) _
theorem Mp {xs l:List V}{ds:List D}(z:fT xs=some l) (p:gk h S xs ds):∃ s,Ev.fT ds=some (s,[])∧aq h S l s:=by
 unfold fT at z
 split at z
 ·obtain ⟨d,rfl,p1⟩:=p.one;simp only [bu,Rep] at p1;subst p1
  split at z
  ·rename_i k;cases z;exact ⟨_,by simp only [Ev.fT];rw [if_pos k],vC _ _⟩
  ·cases z
 ·simp only [gk,bu,Rep] at p;obtain ⟨_,_,rfl,rfl,_,_,rfl,rfl,rfl⟩:=p
  split at z
  ·rename_i k;cases z;exact ⟨_,by simp only [Ev.fT];rw [if_pos k],vC _ _⟩
  ·cases z
 ·cases z
theorem yu:∀ {a:List V}{ds:List D}(k:Int),aq h S a ds→aq h S (gT k a) (Ev.gT k ds)
 | [],_,_,p=>by simp only [aq] at p;subst p;simp [gT,Ev.gT,aq]
 | x :: xs,_,k,p=>by
  simp only [aq] at p
  obtain ⟨d,ds,rfl,p1,p2⟩:=p
  simp only [gT,Ev.gT]
  exact .cons ⟨_,rfl,.cons rfl (.cons p1 .nil)⟩ (yu _ p2)
end
end Pv
namespace Pv
open Ev (D O Hh bU bQ TY BI ME T E Es Eo It S Ss Fn big deep b2i rep cC dP bP aS cut cR eF slots bh)
noncomputable def kP (M B:Nat→Prop) (h:Hh) (S:Nat→Prop):Option Sl→Option D→Prop
 | none,p=>p=none
 | some (.val v),p=>∃ d,p=some d∧Rep h S v d
 | some (.own l),p=>∃ m ds,p=some (.ref m)∧(M m∧¬ B m)∧h[m]?=some (.lst ds)∧aq h S l ds
 | some (.bor l),p=>∃ m ds,p=some (.ref m)∧(M m∧B m)∧h[m]?=some (.lst ds)∧aq h S l ds
 | some (.ro l),p=>∃ m ds,p=some (.ref m)∧¬ M m∧h[m]?=some (.lst ds)∧aq h S l ds
noncomputable def iu:Option Sl→Bool
 | some (.own _)=>true
 | some (.bor _)=>true
 | _=>false
noncomputable def yv:Option Sl→Bool
 | some (.bor _)=>true
 | some (.ro _)=>true
 | _=>false
noncomputable def locked (fr:Fr) (i:Nat):Bool:=match fr[i]? with
 | some o=>yv o
 | none=>false
structure bB (M B:Nat→Prop) (h:Hh) (S:Nat→Prop) (fr:Fr) (aj:Ev.Fr):Prop where
 wS:∀ m,S m→m<h.length∧¬ M m∧¬ B m
 wM:∀ m,M m→m<h.length
 wB:∀ m,B m→m<h.length
 len:fr.length=aj.length
 sl:∀ (i:Nat) o p,fr[i]?=some o→aj[i]?=some p→kP M B h S o p
 inj:∀ (i j:Nat) o o' m,fr[i]?=some o→fr[j]?=some o'→iu o=true→iu o'=true→aj[i]?=some (some (.ref m))→aj[j]?=some (some (.ref m))→i=j
structure Tk (X:Nat→Prop) (h:Hh) (S:Nat→Prop) (h':Hh) (S':Nat→Prop):Prop where
 len:h.length≤h'.length
 keep:∀ m,m<h.length→¬ X m→h'[m]?=h[m]?
 sub:∀ m,S m→S' m
 new:∀ m,S' m→S m∨(h.length≤m∧m<h'.length)
noncomputable def Xs (M:Nat→Prop) (aj:Ev.Fr) (l:List Nat):Nat→Prop:=fun m=>M m∧∃ i∈l,aj[i]?=some (some (.ref m))
structure Out (M B:Nat→Prop) (c:List Nat) (h:Hh) (S:Nat→Prop) (fr:Fr) (aj:Ev.Fr) (h':Hh) (S':Nat→Prop) (af:Fr):Prop where
 f:bB M B h' S' af aj
 tr:Tk (Xs M aj c) h S h' S'
 lk:∀ i,locked af i=locked fr i
section
variable {M B M':Nat→Prop}{h h' h1 h2:Hh}{S S' S1 S2:Nat→Prop}{fr af ao:Fr}{aj:Ev.Fr}{c c1 c2:List Nat}{v:V}{d:D}{X X1 X2:Nat→Prop}
theorem bB.get (f:bB M B h S fr aj) {i:Nat}{o:Option Sl}(e:fr[i]?=some o):∃ p,aj[i]?=some p∧kP M B h S o p:=by
 have h1:=(List.getElem?_eq_some_iff.mp e).1
 rw [f.len] at h1
 exact ⟨aj[i],List.getElem?_eq_getElem h1,f.sl i o _ e (List.getElem?_eq_getElem h1)⟩
theorem bB.w (f:bB M B h S fr aj):∀ m,S m→m<h.length:=fun m q=>(f.wS m q).1
theorem Al.tr (a:Al h S h' S'):Tk X h S h' S':=⟨a.len,fun m q _=>a.keep m q,a.sub,a.new⟩
theorem Tk.al (t:Tk X h S h' S') (z:∀ m,¬ X m):Al h S h' S':=⟨t.len,fun m q=>t.keep m q (z m),t.sub,t.new⟩
theorem Tk.weak (t:Tk X h S h' S') (q:∀ m,X m→X1 m):Tk X1 h S h' S':=⟨t.len,fun m k z=>t.keep m k fun y=>z (q m y),t.sub,t.new⟩
theorem Tk.trans (a:Tk X1 h S h1 S1) (b:Tk X2 h1 S1 h2 S2):Tk (fun m=>X1 m∨X2 m) h S h2 S2 where
 len:=Nat.le_trans a.len b.len
 keep:=fun m q z=>by rw [b.keep m (Nat.lt_of_lt_of_le q a.len) (fun y=>z (.inr y)),a.keep m q (fun y=>z (.inl y))]
 sub:=fun m q=>b.sub m (a.sub m q)
 new:=fun m q=>by
  rcases b.new m q with q | ⟨q1,q2⟩
  ·rcases a.new m q with q | ⟨q1,q2⟩
   ·exact .inl q
   ·exact .inr ⟨q1,Nat.lt_of_lt_of_le q2 b.len⟩
  ·exact .inr ⟨Nat.le_trans a.len q1,q2⟩
theorem Al.trans (a:Al h S h1 S1) (b:Al h1 S1 h2 S2):Al h S h2 S2:=((a.tr (X:=fun _=>False)).trans (b.tr (X:=fun _=>False))).al fun m z=>by simp at z
theorem Tk.refl:Tk X h S h S:=⟨Nat.le_refl _,fun _ _ _=>rfl,fun _ q=>q,fun _ q=>.inl q⟩
theorem Xs.app {l1 l2:List Nat}{m:Nat}:Xs M aj (l1++l2) m↔Xs M aj l1 m∨Xs M aj l2 m:=by
 unfold Xs
 constructor
 ·rintro ⟨a,i,hi,e⟩
  rcases List.mem_append.mp hi with hi | hi
  ·exact .inl ⟨a,i,hi,e⟩
  ·exact .inr ⟨a,i,hi,e⟩
 ·rintro (⟨a,i,hi,e⟩ | ⟨a,i,hi,e⟩)
  ·exact ⟨a,i,List.mem_append.mpr (.inl hi),e⟩
  ·exact ⟨a,i,List.mem_append.mpr (.inr hi),e⟩
theorem Xs.nil {m:Nat}:¬ Xs M aj [] m:=by rintro ⟨_,i,hi,_⟩;simp at hi
theorem Xs.mono {l1 l2:List Nat}(q:∀ i∈l1,i∈l2) {m:Nat}:Xs M aj l1 m→Xs M aj l2 m:=fun ⟨a,i,hi,e⟩=>⟨a,i,q i hi,e⟩
theorem Rep.tr (q:Rep h S v d) (f:bB M B h S fr aj) (t:Tk (Xs M aj c) h S h' S'):Rep h' S' v d:=q.mono (fun m z=>t.keep m (f.wS m z).1 (fun y=>(f.wS m z).2.1 y.1)) t.sub
theorem aq.tr {l:List V}{ds:List D}(q:aq h S l ds) (f:bB M B h S fr aj) (t:Tk (Xs M aj c) h S h' S'):aq h' S' l ds:=q.mono (fun m z=>t.keep m (f.wS m z).1 (fun y=>(f.wS m z).2.1 y.1)) t.sub
theorem bu.tr (q:bu h S v d) (f:bB M B h S fr aj) (t:Tk X h S h' S') (z:∀ m,¬ X m):bu h' S' v d:=q.mono (fun m k=>t.keep m k (z m)) f.w t.sub
theorem kP.al {o:Option Sl}{p:Option D}(q:kP M B h S o p) (w:∀ m,S m→m<h.length) (a:Al h S h' S'):kP M B h' S' o p:=by
 have k:∀ m,S m→h'[m]?=h[m]?:=fun m z=>a.keep m (w m z)
 have g:∀ (m:Nat) (ds:List D),h[m]?=some (O.lst ds)→h'[m]?=some (O.lst ds):=fun m ds z=>by rw [a.keep m (List.getElem?_eq_some_iff.mp z).1];exact z
 rcases o with _ | s
 ·exact q
 ·cases s with
  | val v=>obtain ⟨d,e,q⟩:=q;exact ⟨d,e,q.mono k a.sub⟩
  | own l=>obtain ⟨m,ds,e,z,y,q⟩:=q;exact ⟨m,ds,e,z,g m ds y,q.mono k a.sub⟩
  | bor l=>obtain ⟨m,ds,e,z,y,q⟩:=q;exact ⟨m,ds,e,z,g m ds y,q.mono k a.sub⟩
  | ro l=>obtain ⟨m,ds,e,z,y,q⟩:=q;exact ⟨m,ds,e,z,g m ds y,q.mono k a.sub⟩
theorem bB.al (f:bB M B h S fr aj) (a:Al h S h' S'):bB M B h' S' fr aj where
 wS:=fun m q=>by
  rcases a.new m q with q | ⟨q1,q2⟩
  ·exact ⟨Nat.lt_of_lt_of_le (f.wS m q).1 a.len,(f.wS m q).2⟩
  ·exact ⟨q2,fun z=>by have:=f.wM m z;omega,fun z=>by have:=f.wB m z;omega⟩
 wM:=fun m q=>Nat.lt_of_lt_of_le (f.wM m q) a.len
 wB:=fun m q=>Nat.lt_of_lt_of_le (f.wB m q) a.len
 len:=f.len
 sl:=fun i o p e1 e2=>(f.sl i o p e1 e2).al f.w a
 inj:=f.inj
theorem Out.refl (f:bB M B h S fr aj):Out M B c h S fr aj h S fr:=⟨f,.refl,fun _=>rfl⟩
theorem Out.trans (a:Out M B c1 h S fr aj h1 S1 af) (b:Out M B c2 h1 S1 af aj h2 S2 ao):Out M B (c1++c2) h S fr aj h2 S2 ao:=⟨b.f,(a.tr.trans b.tr).weak fun m z=>Xs.app.mpr z,fun i=>(b.lk i).trans (a.lk i)⟩
theorem Out.al (a:Out M B c h S fr aj h1 S1 af) (b:Al h1 S1 h2 S2):Out M B c h S fr aj h2 S2 af:=⟨a.f.al b,(a.tr.trans (b.tr (X:=fun _=>False))).weak (fun m z=>by rcases z with z | z;exact z;exact z.elim),a.lk⟩
theorem Out.weak (a:Out M B c h S fr aj h1 S1 af) (q:∀ i∈c,i∈c1):Out M B c1 h S fr aj h1 S1 af:=⟨a.f,a.tr.weak fun m z=>Xs.mono q z,a.lk⟩
noncomputable def gp (k:Bool) (h:Hh) (S:Nat→Prop) (v:V) (d:D):Prop:=if k=true then bu h S v d else Rep h S v d
theorem gp.of {k:Bool}(q:Rep h S v d):gp k h S v d:=by unfold gp;split;exact q.top;exact q
theorem gp.t {k:Bool}(q:gp k h S v d):bu h S v d:=by unfold gp at q;split at q;exact q;exact q.top
theorem gp.n (q:gp false h S v d):Rep h S v d:=by simpa [gp] using q
theorem bB.slot (f:bB M B h S fr aj) {i m:Nat}(e:aj[i]?=some (some (.ref m))) (hm:M m):∃ o,fr[i]?=some o∧iu o=true:=by
 have hl:i<fr.length:=by rw [f.len];exact (List.getElem?_eq_some_iff.mp e).1
 refine ⟨fr[i],List.getElem?_eq_getElem hl,?_⟩
 have s:=f.sl i _ _ (List.getElem?_eq_getElem hl) e
 revert s
 generalize fr[i]=o
 intro s
 rcases o with _ | s'
 ·cases s
 ·cases s' with
  | own l=>rfl
  | bor l=>rfl
  | ro l=>obtain ⟨m',ds,e,y,_⟩:=s;cases e;exact absurd hm y
  | val v=>
   obtain ⟨d,e,q⟩:=s
   cases e
   exfalso
   cases v <;> simp only [Rep,reduceCtorEq] at q
   ·obtain ⟨_,e,_⟩:=q;cases e
   ·obtain ⟨n,ds,e,sn,_⟩:=q;cases e;exact (f.wS _ sn).2.1 hm
   ·obtain ⟨n,ds,e,sn,_⟩:=q;cases e;exact (f.wS _ sn).2.1 hm
   ·obtain ⟨n,e,sn,_⟩:=q;cases e;exact (f.wS _ sn).2.1 hm
theorem gp.tr {k:Bool}{a:E}(q:gp k h S v d) (f:bB M B h S fr aj) (t:Tk (Xs M aj c) h S h' S') (hk:k=true→kf a c=true) (ha:∀ i,a=.v i→aj[i]?.join=some d):gp k h' S' v d:=by
 unfold gp at q ⊢
 split at q
 ·rename_i e
  rw [if_pos e]
  have hk:=hk e
  have gen:c=[]→bu h' S' v d:=fun z=>q.tr f t fun m y=>by subst z;exact Xs.nil y
  by_cases hv:∃ i,a=.v i
  ·obtain ⟨i0,rfl⟩:=hv
   simp only [kf,Bool.not_eq_true',List.contains_eq_mem,decide_eq_false_iff_not] at hk
   cases v
   case lst l=>
    simp only [bu] at q ⊢
    obtain ⟨n,ds,rfl,b1,b2⟩:=q
    refine ⟨n,ds,rfl,?_,b2.tr f t⟩
    rw [t.keep n (List.getElem?_eq_some_iff.mp b1).1 ?_]
    ·exact b1
    ·rintro ⟨mn,j,hj,ej⟩
     have e2:aj[i0]?=some (some (D.ref n)):=by
      have:=ha i0 rfl
      cases z:aj[i0]? with
      | none=>rw [z] at this;cases this
      | some p=>rw [z] at this;simp at this;rw [this]
     obtain ⟨o1,y1,y2⟩:=f.slot e2 mn
     obtain ⟨o2,y3,y4⟩:=f.slot ej mn
     have:=f.inj i0 j o1 o2 n y1 y3 y2 y4 e2 ej
     subst this
     exact hk hj
   all_goals exact Rep.tr (show Rep h S _ d from q) f t
  ·have:kf a c=c.isEmpty:=by
    cases a <;> first | rfl | exact absurd ⟨_,rfl⟩ hv
   rw [this,List.isEmpty_iff] at hk
   exact gen hk
 ·rename_i e
  rw [if_neg e]
  exact q.tr f t
theorem Iw {k:Bool}{i:Nat}(e:lT k fr i=some v) (f:bB M B h S fr aj):∃ d,aj[i]?.join=some d∧gp k h S v d:=by
  unfold lT at e
  split at e
  · rename_i z
    obtain ⟨p,e1,q⟩:=f.get z
    obtain ⟨d,rfl,q⟩:=q
    cases e
    exact ⟨d,by rw [e1];rfl,.of q⟩
  all_goals first
    | (rename_i z
       obtain ⟨p,e1,q⟩:=f.get z
       obtain ⟨m,ds,rfl,_,y,q⟩:=q
       split at e
       · rename_i hk
         cases e
         exact ⟨.ref m,by rw [e1];rfl,by unfold gp;rw [if_pos hk];exact ⟨m,ds,rfl,y,q⟩⟩
       · cases e)
    | cases e
theorem jP {i:Nat}{s:Sl}(e:lent fr i=some s) (f:bB M B h S fr aj):∃ m ds l o,fr[i]?=some o∧aj[i]?=some (some (.ref m))∧h[m]?=some (.lst ds)∧aq h S l ds∧((s=.bor l∧M m∧iu o=true)∨(s=.ro l∧¬ M m∧o=some (.ro l))):=by
 unfold lent at e
 split at e
 ·rename_i s' z
  obtain ⟨p,e1,q⟩:=f.get z
  cases s' with
  | val v=>simp [Sl.lend] at e
  | own l=>
   simp [Sl.lend] at e;subst e
   obtain ⟨m,ds,rfl,y,y1,q⟩:=q
   exact ⟨m,ds,l,_,z,e1,y1,q,.inl ⟨rfl,y.1,rfl⟩⟩
  | bor l=>
   simp [Sl.lend] at e;subst e
   obtain ⟨m,ds,rfl,y,y1,q⟩:=q
   exact ⟨m,ds,l,_,z,e1,y1,q,.inl ⟨rfl,y.1,rfl⟩⟩
  | ro l=>
   simp [Sl.lend] at e;subst e
   obtain ⟨m,ds,rfl,y,y1,q⟩:=q
   exact ⟨m,ds,l,_,z,e1,y1,q,.inr ⟨rfl,y,rfl⟩⟩
 ·cases e
noncomputable def vD (h:Hh) (S:Nat→Prop) (aj:Ev.Fr):List (Nat ⊕ V)→List D→Prop
 | [],ds=>ds=[]
 | .inl i :: r,ds=>∃ d es,ds=d :: es∧aj[i]?=some (some d)∧vD h S aj r es
 | .inr v :: r,ds=>∃ d es,ds=d :: es∧Rep h S v d∧vD h S aj r es
noncomputable def nv (h:Hh) (S:Nat→Prop):List Sl→List D→List (List V)→Prop
 | [],_,os=>os=[]
 | .val _ :: sl,ds,os=>∃ d es,ds=d :: es∧nv h S sl es os
 | .own _ :: _,_,_=>False
 | _ :: sl,ds,os=>∃ d es l r m cs,ds=d :: es∧os=l :: r∧d=.ref m∧h[m]?=some (.lst cs)∧aq h S l cs∧nv h S sl es r
noncomputable def qj (P:aR) (P':Ev.aR):Prop:=∀ f sl v os,P f sl=some (v,os)→∀ (h:Hh) (S B:Nat→Prop) (ds:List D),bB B B h S (sl.map some) (ds.map some)→
 ∃ d h' S',P' f ds h=.ok d h'∧Rep h' S' v d∧Tk B h S h' S'∧nv h' S' sl ds os
theorem args_get (f:bB M B h S fr aj):∀ {as:List (Nat ⊕ V)}{sl:List Sl}{ds:List D},args fr as=some sl→vD h S aj as ds→sl.length=ds.length∧∀ (a:Nat) s d,sl[a]?=some s→ds[a]?=some d→
  (∃ i,as[a]?=some (.inl i)∧lent fr i=some s∧aj[i]?=some (some d))∨(∃ v,s=.val v∧Rep h S v d)
 | [],sl,ds,e,q=>by
  simp [args] at e;simp only [vD] at q;subst e q;simp
 | .inl i :: r,sl,ds,e,q=>by
  simp only [args,Option.bind_eq_some_iff,Option.map_eq_some_iff] at e
  obtain ⟨s,e1,l,e2,rfl⟩:=e
  obtain ⟨d,es,rfl,q1,q⟩:=q
  obtain ⟨h1,h2⟩:=args_get f e2 q
  refine ⟨by simp [h1],fun a s' d' z1 z2=>?_⟩
  cases a with
  | zero=>simp at z1 z2;subst z1 z2;exact .inl ⟨i,by simp,e1,q1⟩
  | succ a=>exact (h2 a s' d' (by simpa using z1) (by simpa using z2)).imp (fun ⟨i,k,z⟩=>⟨i,by simpa using k,z⟩) id
 | .inr v :: r,sl,ds,e,q=>by
  simp only [args,Option.map_eq_some_iff] at e
  obtain ⟨l,e2,rfl⟩:=e
  obtain ⟨d,es,rfl,q1,q⟩:=q
  obtain ⟨h1,h2⟩:=args_get f e2 q
  refine ⟨by simp [h1],fun a s' d' z1 z2=>?_⟩
  cases a with
  | zero=>simp at z1 z2;subst z1 z2;exact .inr ⟨v,rfl,q1⟩
  | succ a=>exact (h2 a s' d' (by simpa using z1) (by simpa using z2)).imp (fun ⟨i,k,z⟩=>⟨i,by simpa using k,z⟩) id
theorem iw:∀ {as:List (Nat ⊕ V)}{a i:Nat},as[a]?=some (.inl i)→i∈bV as
 | [],_,_,e=>by simp at e
 | .inl j :: r,0,i,e=>by simp at e;subst e;simp [bV]
 | .inr j :: r,0,i,e=>by simp at e
 | .inl j :: r,a+1,i,e=>by have:=iw (as:=r) (a:=a) (i:=i) (by simpa using e);simp [bV,this]
 | .inr j :: r,a+1,i,e=>by have:=iw (as:=r) (a:=a) (i:=i) (by simpa using e);simp [bV,this]
theorem ny:∀ {as:List (Nat ⊕ V)}{a b i:Nat},(bV as).Nodup→as[a]?=some (.inl i)→as[b]?=some (.inl i)→a=b
 | [],_,_,_,_,e,_=>by simp at e
 | x :: r,0,0,_,_,_,_=>rfl
 | .inr j :: r,0,b+1,i,n,e,_=>by simp at e
 | .inl j :: r,0,b+1,i,n,e,e2=>by
  simp at e;subst e
  simp only [bV,List.nodup_cons] at n
  exact absurd (iw (as:=r) (a:=b) (by simpa using e2)) n.1
 | .inr j :: r,a+1,0,i,n,_,e=>by simp at e
 | .inl j :: r,a+1,0,i,n,e2,e=>by
  simp at e;subst e
  simp only [bV,List.nodup_cons] at n
  exact absurd (iw (as:=r) (a:=a) (by simpa using e2)) n.1
 | .inl j :: r,a+1,b+1,i,n,e1,e2=>by
  simp only [bV,List.nodup_cons] at n
  have:=ny (as:=r) (a:=a) (b:=b) (i:=i) n.2 (by simpa using e1) (by simpa using e2)
  omega
 | .inr j :: r,a+1,b+1,i,n,e1,e2=>by
  simp only [bV] at n
  have:=ny (as:=r) (a:=a) (b:=b) (i:=i) n (by simpa using e1) (by simpa using e2)
  omega
theorem DU {s:Sl}{l:List V}:iu (some (s.with l))=iu (some s):=by cases s <;> rfl
theorem yw {s:Sl}{l:List V}:yv (some (s.with l))=yv (some s):=by cases s <;> rfl
theorem vE:∀ {is:List Nat}{ls:List (List V)}{fr af:Fr},back is ls fr=some af→is.Nodup→af.length=fr.length∧(∀ i,i∉is→af[i]?=fr[i]?)∧∀ i∈is,∃ (k:Nat) (s:Sl) (l:List V),is[k]?=some i∧ls[k]?=some l∧fr[i]?=some (some s)∧af[i]?=some (some (s.with l))
 | [],[],fr,af,e,_=>by simp [back] at e;subst e;simp
 | [],_ :: _,_,_,e,_=>by simp [back] at e
 | _ :: _,[],_,_,e,_=>by simp [back] at e
 | i :: is,l :: ls,fr,af,e,n=>by
  simp only [back] at e
  simp only [List.nodup_cons] at n
  split at e
  ·rename_i s z
   obtain ⟨h1,h2,h3⟩:=vE e n.2
   refine ⟨by simpa using h1,fun j hj=>?_,fun j hj=>?_⟩
   ·simp at hj
    rw [h2 j hj.2,List.getElem?_set_ne (fun q=>hj.1 q.symm)]
   ·rcases List.mem_cons.mp hj with rfl | hj
    ·exact ⟨0,s,l,by simp,by simp,z,by rw [h2 j n.1,List.getElem?_set_self (List.getElem?_eq_some_iff.mp z).1]⟩
    ·obtain ⟨k,s',l',a,b,c,d⟩:=h3 j hj
     have hne:i≠j:=fun q=>n.1 (q▸hj)
     rw [List.getElem?_set_ne hne] at c
     exact ⟨k+1,s',l',by simpa using a,by simpa using b,c,d⟩
  ·cases e
theorem nE (f:bB M B h S fr aj):∀ {as:List (Nat ⊕ V)}{sl:List Sl}{ds:List D}{os:List (List V)},args fr as=some sl→vD h S aj as ds→nv h' S' sl ds os→
  ∀ (k i:Nat) l,(bV as)[k]?=some i→os[k]?=some l→∃ m cs,aj[i]?=some (some (.ref m))∧h'[m]?=some (.lst cs)∧aq h' S' l cs
 | [],sl,ds,os,e,q,o=>by simp [bV]
 | .inl i :: r,sl,ds,os,e,q,o=>by
  simp only [args,Option.bind_eq_some_iff,Option.map_eq_some_iff] at e
  obtain ⟨s,e1,l,e2,rfl⟩:=e
  obtain ⟨d,es,rfl,q1,q⟩:=q
  obtain ⟨m,cs,l0,o0,_,z2,z3,z4,z5⟩:=jP e1 f
  have key:∃ l1 r1 cs,os=l1 :: r1∧h'[m]?=some (.lst cs)∧aq h' S' l1 cs∧nv h' S' l es r1:=by
   rw [q1] at z2;cases z2
   rcases z5 with ⟨rfl,_⟩ | ⟨rfl,_⟩
   ·obtain ⟨d',es',l1,r1,m1,BL,a1,a2,a3,a4,a5,a6⟩:=o
    cases a1;cases a3
    exact ⟨l1,r1,BL,a2,a4,a5,a6⟩
   ·obtain ⟨d',es',l1,r1,m1,BL,a1,a2,a3,a4,a5,a6⟩:=o
    cases a1;cases a3
    exact ⟨l1,r1,BL,a2,a4,a5,a6⟩
  obtain ⟨l1,r1,BL,rfl,a4,a5,a6⟩:=key
  intro k j l' y1 y2
  cases k with
  | zero=>simp [bV] at y1 y2;subst y1 y2;exact ⟨m,BL,z2,a4,a5⟩
  | succ k=>exact nE f e2 q a6 k j l' (by simpa [bV] using y1) (by simpa using y2)
 | .inr v :: r,sl,ds,os,e,q,o=>by
  simp only [args,Option.map_eq_some_iff] at e
  obtain ⟨l,e2,rfl⟩:=e
  obtain ⟨d,es,rfl,q1,q⟩:=q
  obtain ⟨d',es',a1,a2⟩:=o
  cases a1
  intro k j l' y1 y2
  exact nE f e2 q a2 k j l' (by simpa [bV] using y1) y2
theorem lV:∀ {as:List (Nat ⊕ V)}{sl:List Sl}{i:Nat},args fr as=some sl→i∈bV as→∃ s,lent fr i=some s
 | [],_,_,_,q=>by simp [bV] at q
 | .inl j :: r,_,i,z,q=>by
  simp only [args,Option.bind_eq_some_iff,Option.map_eq_some_iff] at z
  obtain ⟨s,e1,l,e2,rfl⟩:=z
  simp [bV] at q
  rcases q with rfl | q
  ·exact ⟨s,e1⟩
  ·exact lV e2 q
 | .inr u :: r,_,i,z,q=>by
  simp only [args,Option.map_eq_some_iff] at z
  obtain ⟨l,e2,rfl⟩:=z
  exact lV e2 (by simpa [bV] using q)
theorem DV {P:aR}{P':Ev.aR}(HP:qj P P') {g:Nat}{as:List (Nat ⊕ V)}{ds:List D}(e:dI P g as fr=.ok v af) (f:bB M B h S fr aj) (q:vD h S aj as ds) :
  ∃ d h' S',P' g ds h=.ok d h'∧Rep h' S' v d∧Out M B (bV as) h S fr aj h' S' af:=by
 unfold dI at e
 split at e
 case isFalse=>cases e
 rename_i nd
 cases z:args fr as with
 | none=>rw [z] at e;cases e
 | some sl=>
 rw [z] at e
 simp only at e
 cases z2:P g sl with
 | none=>rw [z2] at e;cases e
 | some vo=>
 obtain ⟨v',os⟩:=vo
 rw [z2] at e
 simp only at e
 cases z3:back (bV as) os fr with
 | none=>rw [z3] at e;cases e
 | some ao=>
 rw [z3] at e
 simp at e
 obtain ⟨rfl,rfl⟩:=e
 obtain ⟨hl,hg⟩:=args_get f z q
 let B0:Nat→Prop:=fun m=>∃ i o,i∈bV as∧fr[i]?=some o∧iu o=true∧aj[i]?=some (some (.ref m))
 have qk:∀ m,B0 m→M m:=fun m ⟨i,o,_,a,b,c⟩=>by
  have s:=f.sl i o _ a c
  rcases o with _ | s'
  ·cases b
  ·cases s' with
   | val v=>cases b
   | ro l=>cases b
   | own l=>obtain ⟨m',ds',e,y,_⟩:=s;cases e;exact y.1
   | bor l=>obtain ⟨m',ds',e,y,_⟩:=s;cases e;exact y.1
 have F0:bB B0 B0 h S (sl.map some) (ds.map some):=by
  refine ⟨fun m y=>⟨(f.wS m y).1,fun z=>(f.wS m y).2.1 (qk m z),fun z=>(f.wS m y).2.1 (qk m z)⟩,fun m y=>f.wM m (qk m y),fun m y=>f.wM m (qk m y),by simp [hl],fun a o p y1 y2=>?_,fun a b o o' m y1 y2 y3 y4 y5 y6=>?_⟩
  ·simp at y1 y2
   obtain ⟨s,y1,rfl⟩:=y1
   obtain ⟨d,y2,rfl⟩:=y2
   rcases hg a s d y1 y2 with ⟨i,k1,k2,k3⟩ | ⟨u,rfl,k⟩
   ·obtain ⟨m,cs,l0,o0,w1,w2,w3,w4,w5⟩:=jP k2 f
    rw [k3] at w2;cases w2
    rcases w5 with ⟨rfl,w6,w7⟩ | ⟨rfl,w6,w7⟩
    ·exact ⟨m,cs,rfl,⟨⟨i,o0,iw k1,w1,w7,k3⟩,⟨i,o0,iw k1,w1,w7,k3⟩⟩,w3,w4⟩
    ·exact ⟨m,cs,rfl,fun z=>w6 (qk m z),w3,w4⟩
   ·exact ⟨d,rfl,k⟩
  ·simp at y1 y2 y5 y6
   obtain ⟨s,y1,rfl⟩:=y1
   obtain ⟨s',y2,rfl⟩:=y2
   rcases hg a s _ y1 y5 with ⟨i,k1,k2,k3⟩ | ⟨u,rfl,k⟩
   ·rcases hg b s' _ y2 y6 with ⟨j,k4,k5,k6⟩ | ⟨u,rfl,k⟩
    ·obtain ⟨m1,_,l1,o1,w1,w2,_,_,w5⟩:=jP k2 f
     obtain ⟨m2,_,l2,o2,x1,x2,_,_,x5⟩:=jP k5 f
     have i1:iu o1=true:=by rcases w5 with ⟨_,_,w7⟩ | ⟨rfl,_,_⟩;exact w7;cases y3
     have i2:iu o2=true:=by rcases x5 with ⟨_,_,w7⟩ | ⟨rfl,_,_⟩;exact w7;cases y4
     have:=f.inj i j o1 o2 m w1 x1 i1 i2 k3 k6
     subst this
     exact ny nd k1 k4
    ·cases y4
   ·cases y3
 obtain ⟨d,h',S',c1,c2,c3,c4⟩:=HP g sl v' os z2 h S B0 ds F0
 obtain ⟨b1,b2,b3⟩:=vE z3 nd
 have hL:=nE f z q c4
 have ql:∀ m,S m→h'[m]?=h[m]?:=fun m y=>c3.keep m (f.wS m y).1 (fun z=>(f.wS m y).2.1 (qk m z))
 refine ⟨d,h',S',c1,c2,⟨?_,?_,?_⟩⟩
 ·refine ⟨fun m y=>?_,fun m y=>Nat.lt_of_lt_of_le (f.wM m y) c3.len,fun m y=>Nat.lt_of_lt_of_le (f.wB m y) c3.len,by rw [b1,f.len],fun i o p y1 y2=>?_,fun i j o o' m y1 y2 y3 y4 y5 y6=>?_⟩
  ·rcases c3.new m y with y | ⟨y1,y2⟩
   ·exact ⟨Nat.lt_of_lt_of_le (f.wS m y).1 c3.len,(f.wS m y).2⟩
   ·exact ⟨y2,fun z=>by have:=f.wM m z;omega,fun z=>by have:=f.wB m z;omega⟩
  ·by_cases hi:i∈bV as
   ·obtain ⟨k,s,l,w1,w2,w3,w4⟩:=b3 i hi
    rw [w4] at y1;cases y1
    obtain ⟨m,cs,x1,x2,x3⟩:=hL k i l w1 w2
    rw [x1] at y2;cases y2
    have old:=f.sl i _ _ w3 x1
    cases s with
    | val u=>
     exfalso
     have:∃ s,lent fr i=some s:=lV z hi
     obtain ⟨s,hs⟩:=this
     simp [lent,w3,Sl.lend] at hs
    | own u=>obtain ⟨m',ds',e,y,_⟩:=old;cases e;exact ⟨m,cs,rfl,y,x2,x3⟩
    | bor u=>obtain ⟨m',ds',e,y,_⟩:=old;cases e;exact ⟨m,cs,rfl,y,x2,x3⟩
    | ro u=>
     obtain ⟨m',ds',e,y,y1,y2⟩:=old;cases e
     refine ⟨m,ds',rfl,y,?_,y2.mono ql c3.sub⟩
     rw [c3.keep m (List.getElem?_eq_some_iff.mp y1).1 (fun z=>y (qk m z))];exact y1
   ·rw [b2 i hi] at y1
    have old:=f.sl i o p y1 y2
    rcases o with _ | s
    ·exact old
    ·cases s with
     | val u=>obtain ⟨d,e,q⟩:=old;exact ⟨d,e,q.mono ql c3.sub⟩
     | own u=>
      obtain ⟨m,ds',rfl,w1,w2,w3⟩:=old
      refine ⟨m,ds',rfl,w1,?_,w3.mono ql c3.sub⟩
      rw [c3.keep m (f.wM m w1.1) (fun ⟨j,o2,x1,x2,x3,x4⟩=>hi (f.inj i j _ o2 m y1 x2 rfl x3 y2 x4▸x1))];exact w2
     | bor u=>
      obtain ⟨m,ds',rfl,w1,w2,w3⟩:=old
      refine ⟨m,ds',rfl,w1,?_,w3.mono ql c3.sub⟩
      rw [c3.keep m (f.wM m w1.1) (fun ⟨j,o2,x1,x2,x3,x4⟩=>hi (f.inj i j _ o2 m y1 x2 rfl x3 y2 x4▸x1))];exact w2
     | ro u=>
      obtain ⟨m,ds',rfl,w1,w2,w3⟩:=old
      refine ⟨m,ds',rfl,w1,?_,w3.mono ql c3.sub⟩
      rw [c3.keep m (List.getElem?_eq_some_iff.mp w2).1 (fun z=>w1 (qk m z))];exact w2
  ·have kind:∀ (i:Nat) o,ao[i]?=some o→iu o=true→∃ o0,fr[i]?=some o0∧iu o0=true:=fun i o w1 w2=>by
    by_cases hi:i∈bV as
    ·obtain ⟨k,s,l,x1,x2,x3,x4⟩:=b3 i hi
     rw [x4] at w1;cases w1
     exact ⟨_,x3,by rw [DU] at w2;exact w2⟩
    ·rw [b2 i hi] at w1;exact ⟨o,w1,w2⟩
   obtain ⟨oi,k1,k2⟩:=kind i o y1 y3
   obtain ⟨oj,k3,k4⟩:=kind j o' y2 y4
   exact f.inj i j oi oj m k1 k3 k2 k4 y5 y6
 ·exact c3.weak fun m z=>⟨qk m z,by obtain ⟨i,o,a1,a2,a3,a4⟩:=z;exact ⟨i,a1,a4⟩⟩
 ·intro i
  unfold locked
  by_cases hi:i∈bV as
  ·obtain ⟨k,s,l,x1,x2,x3,x4⟩:=b3 i hi
   rw [x3,x4];exact yw
  ·rw [b2 i hi]
end
end Pv
namespace Pv
open Ev (D O Hh)
theorem vF (k:List (Int×List Nat)) (p:Int) (s:List Nat):(Ev.cW k p s).length≤k.length+1:=by
 unfold Ev.cW;split <;> simp
theorem Gk {P:Ev.aR}{w:Nat}{d0 d3:D}{n:Nat}:∀ (s:List Nat) (k:List (Int×List Nat)) (p:Int) (o:Option D) (h:Hh),h[n]?=some (.dct k)→k.length+s.length≤100000→
  ∃ o',Ev.forL (fun d ao h2=>match Ev.bz (.one 4) d ao with | some bG=>Ev.exs P w Gj bG h2 | none=>.bad) [] (s.map fun c=>.str [c]) [some d0,some (.ref n),some (.int p),some d3,o] h=.ok (.nx,[some d0,some (.ref n),some (.int (p+s.length)),some d3,o']) (h.set n (.dct (gI k p s)))
 | [],k,p,o,h,hn,_=>⟨o,by
  simp only [List.map_nil,Ev.forL,gI]
  have:h.set n (.dct k)=h:=by
   obtain ⟨hl,e⟩:=List.getElem?_eq_some_iff.mp hn
   rw [←e];exact List.set_getElem_self hl
  rw [this];simp [Ev.stays]⟩
 | c :: s,k,p,o,h,hn,hk=>by
  have hl:=(List.getElem?_eq_some_iff.mp hn).1
  have h1:=vF k p [c]
  simp only [List.length_cons] at hk
  obtain ⟨o',ih⟩:=Gk (P:=P) (w:=w) (d0:=d0) (d3:=d3) (n:=n) s (Ev.cW k p [c]) (p+1) (some (.str [c])) (h.set n (.dct (Ev.cW k p [c]))) (by rw [List.getElem?_set_self hl]) (by omega)
  refine ⟨o',?_⟩
  have kb:k.length<Ev.big:=Nat.lt_of_le_of_lt (show k.length≤100000 by omega) (by decide)
  have st:Ev.exs P w Gj [some d0,some (.ref n),some (.int p),some d3,some (.str [c])] h=.ok (.nx,[some d0,some (.ref n),some (.int (p+1)),some d3,some (.str [c])]) (h.set n (.dct (Ev.cW k p [c]))):=by
   simp [Gj,Ev.exs,Ev.ex,Ev.ev,Ev.R.bind,Ev.R.of,Ev.uc,hn,kb,Ev.bZ]
  simp only [List.map_cons,Ev.forL,Ev.bz,List.set]
  rw [st]
  simp only [Ev.ak]
  simp only [Ev.bz] at ih
  rw [ih,List.set_set]
  have e2:p+1+(s.length:Int)=p+((s.length+1:Nat):Int):=by omega
  simp [Ev.stays,gI,e2]
theorem Mq {v:V}{l:List V}{p:Int}{k k':List (Int×List Nat)}(e:bf (v :: l) p k=some k'):(∃ s,v=.tup [.str [100,114,111,112],.str s]∧k.length+s.length≤100000∧bf l (p+s.length) (gI k p s)=some k')∨
  (∃ i,v=.tup [.str [107,101,101,112],.int i]∧bf l (p+i) k=some k')∨∃ w s,v=.tup [.str w,.str s]∧w≠[100,114,111,112]∧w≠[107,101,101,112]∧bf l p k=some k':=by
 match v,e with
 | .tup [.str w,.str s],e=>
  rw [bf] at e
  by_cases h1:w=[100,114,111,112]
  ·rw [if_pos h1] at e
   by_cases h2:k.length+s.length≤100000
   ·rw [if_pos h2] at e;exact .inl ⟨s,by rw [h1],h2,e⟩
   ·rw [if_neg h2] at e;cases e
  ·rw [if_neg h1] at e
   by_cases h2:w=[107,101,101,112]
   ·rw [if_pos h2] at e;cases e
   ·rw [if_neg h2] at e;exact .inr (.inr ⟨w,s,rfl,h1,h2,e⟩)
 | .tup [.str w,.int i],e=>
  rw [bf] at e
  by_cases h2:w=[107,101,101,112]
  ·rw [if_pos h2] at e;exact .inr (.inl ⟨i,by rw [h2],e⟩)
  ·rw [if_neg h2] at e;cases e
 | .tup [],e=>simp [bf] at e
 | .tup [_],e=>simp [bf] at e
 | .tup (_ :: _ :: _ :: _),e=>simp [bf] at e
 | .aP,e=>simp [bf] at e
 | .bl _,e=>simp [bf] at e
 | .int _,e=>simp [bf] at e
 | .str _,e=>simp [bf] at e
 | .lst _,e=>simp [bf] at e
 | .bR _,e=>simp [bf] at e
 | .dct _,e=>simp [bf] at e
 | .tup [.aP,_],e=>simp [bf] at e
 | .tup [.bl _,_],e=>simp [bf] at e
 | .tup [.int _,_],e=>simp [bf] at e
 | .tup [.tup _,_],e=>simp [bf] at e
 | .tup [.lst _,_],e=>simp [bf] at e
 | .tup [.bR _,_],e=>simp [bf] at e
 | .tup [.dct _,_],e=>simp [bf] at e
 | .tup [.str _,.aP],e=>simp [bf] at e
 | .tup [.str _,.bl _],e=>simp [bf] at e
 | .tup [.str _,.tup _],e=>simp [bf] at e
 | .tup [.str _,.lst _],e=>simp [bf] at e
 | .tup [.str _,.bR _],e=>simp [bf] at e
 | .tup [.str _,.dct _],e=>simp [bf] at e
theorem Gm {P:Ev.aR}{w:Nat}{d0:D}{n:Nat}{h0:Hh}{S:Nat→Prop}:∀ (l:List V) (ds:List D) (k k':List (Int×List Nat)) (p:Int) (o3 o4:Option D) (h:Hh),aq h0 S l ds→h[n]?=some (.dct k)→bf l p k=some k'→
  ∃ p' BN BO,Ev.forL (fun d ao h2=>match Ev.bz (.one 3) d ao with | some bG=>Ev.exs P w vq bG h2 | none=>.bad) [] ds [some d0,some (.ref n),some (.int p),o3,o4] h=.ok (.nx,[some d0,some (.ref n),some (.int p'),BN,BO]) (h.set n (.dct k'))
 | [],ds,k,k',p,o3,o4,h,q,hn,e=>by
  simp only [aq] at q
  subst q
  simp only [bf] at e
  cases e
  refine ⟨p,o3,o4,?_⟩
  have:h.set n (.dct k)=h:=by
   obtain ⟨hl,e⟩:=List.getElem?_eq_some_iff.mp hn
   rw [←e];exact List.set_getElem_self hl
  rw [this];simp [Ev.forL,Ev.stays]
 | v :: l,ds,k,k',p,o3,o4,h,q,hn,e=>by
  have hl:=(List.getElem?_eq_some_iff.mp hn).1
  simp only [aq] at q
  obtain ⟨d,es,rfl,q1,q2⟩:=q
  have go:∀ (k1:List (Int×List Nat)) (p1:Int) (o':Option D),Ev.exs P w vq [some d0,some (.ref n),some (.int p),some d,o4] h=.ok (.nx,[some d0,some (.ref n),some (.int p1),some d,o']) (h.set n (.dct k1))→bf l p1 k1=some k'→∃ p' BN BO,Ev.forL (fun d ao h2=>match Ev.bz (.one 3) d ao with | some bG=>Ev.exs P w vq bG h2 | none=>.bad) [] (d :: es) [some d0,some (.ref n),some (.int p),o3,o4] h=.ok (.nx,[some d0,some (.ref n),some (.int p'),BN,BO]) (h.set n (.dct k')):=fun k1 p1 o' st e1=>by
   obtain ⟨p',BN,BO,ih⟩:=Gm (P:=P) (w:=w) (d0:=d0) (n:=n) l es k1 k' p1 (some d) o' (h.set n (.dct k1)) q2 (by rw [List.getElem?_set_self hl]) e1
   refine ⟨p',BN,BO,?_⟩
   simp only [Ev.forL,Ev.bz,List.set]
   rw [st]
   simp only [Ev.ak]
   simp only [Ev.bz] at ih
   rw [ih,List.set_set]
   simp [Ev.stays]
  have hs:h.set n (.dct k)=h:=by
   obtain ⟨hl,e⟩:=List.getElem?_eq_some_iff.mp hn
   rw [←e];exact List.set_getElem_self hl
  rcases Mq e with ⟨s,rfl,hk,e1⟩ | ⟨i,rfl,e1⟩ | ⟨w0,s,rfl,h1,h2,e1⟩
  ·simp only [Rep,aq] at q1
   obtain ⟨_,rfl,d1,_,rfl,rfl,d2,_,rfl,rfl,rfl⟩:=q1
   obtain ⟨o',hin⟩:=Gk (P:=P) (w:=w) (d0:=d0) (d3:=.tup [.str [100,114,111,112],.str s]) (n:=n) s k p o4 h hn hk
   refine go _ _ o' ?_ e1
   simp only [Ev.bz] at hin
   simp [vq,Ev.exs,Ev.ex,Ev.aL,Ev.ev,Ev.R.bind,Ev.R.of,Ev.eg,Ev.bP,Ev.dP,Ev.cop,Ev.gG,Ev.deep,Ev.truthy,Ev.cF,Ev.fS,Ev.bz,hin]
  ·simp only [Rep,aq] at q1
   obtain ⟨_,rfl,d1,_,rfl,rfl,d2,_,rfl,rfl,rfl⟩:=q1
   refine go k (p+i) o4 ?_ e1
   rw [hs]
   simp [vq,Ev.exs,Ev.ex,Ev.aL,Ev.ev,Ev.R.bind,Ev.R.of,Ev.eg,Ev.bP,Ev.dP,Ev.cop,Ev.gG,Ev.deep,Ev.truthy,Ev.bZ]
  ·simp only [Rep,aq] at q1
   obtain ⟨_,rfl,d1,_,rfl,rfl,d2,_,rfl,rfl,rfl⟩:=q1
   refine go k p o4 ?_ e1
   rw [hs]
   simp [vq,Ev.exs,Ev.ex,Ev.aL,Ev.ev,Ev.R.bind,Ev.R.of,Ev.eg,Ev.bP,Ev.dP,Ev.cop,Ev.gG,Ev.deep,Ev.truthy,Ev.bZ,h1,h2]
theorem Mr {F:List Ev.Fn}{w n f:Nat}{l:List V}{k:List (Int×List Nat)}{d:D}{h:Hh}{S:Nat→Prop}(hf:F[f]?=some eL) (q:Rep h S (.tup l) d) (e:bf l 0 []=some k):Ev.run F w (n+1) f [d] h=.ok (.ref h.length) (h++[.dct k]):=by
 simp only [Rep] at q
 obtain ⟨dl,rfl,q⟩:=q
 obtain ⟨p',o3,o4,g⟩:=Gm (P:=Ev.run F w n) (w:=w) (d0:=.tup dl) (n:=h.length) l dl [] k 0 none none (h++[.dct []]) q (by simp) e
 have hs:(h++[O.dct []]).set h.length (.dct k)=h++[.dct k]:=by simp
 rw [hs] at g
 simp only [Ev.bz] at g
 simp only [Ev.run,hf]
 show Ev.endOf (Ev.exs (Ev.run F w n) w eL.body [some (.tup dl),none,none,none,none] h)=_
 simp [eL,Ev.exs,Ev.ex,Ev.ev,Ev.R.bind,Ev.R.of,Ev.cF,Ev.fS,Ev.bz,g,Ev.endOf]
theorem Ms {fn:Ev.Fn}{sl:List Sl}{v:V}{os:List (List V)}(e:tP fn sl=some (v,os)):fn=eL∧∃ l k,sl=[.val (.tup l)]∧bf l 0 []=some k∧v=.dct k∧os=[]:=by
 unfold tP at e
 split at e
 ·rename_i h
  refine ⟨h,?_⟩
  split at e
  ·rename_i l
   obtain ⟨k,e1,e2⟩:=Option.map_eq_some_iff.mp e
   cases e2
   exact ⟨l,k,rfl,e1,rfl,rfl⟩
  ·cases e
 ·cases e
end Pv
namespace Pv
open Ev (D O Hh bU bQ TY BI ME T E Es Eo It S Ss Fn big deep b2i rep cC dP bP aS cut cR eF slots bh)
section
variable {M B M':Nat→Prop}{h h' h1 h2:Hh}{S S' S1 S2:Nat→Prop}{fr af ao:Fr}{aj:Ev.Fr}{c c1 c2:List Nat}{v:V}{d:D}
theorem kU {n m:Nat}{o:O}(q:n≠m):(h.set n o)[m]?=h[m]?:=List.getElem?_set_ne q
theorem bB.mM (f:bB M B h S fr aj) {i n:Nat}{o:Option Sl}(e:fr[i]?=some o) (hM:iu o=true) (e':aj[i]?=some (some (.ref n))):M n:=by
 have s:=f.sl i o _ e e'
 rcases o with _ | s'
 ·cases hM
 ·cases s' with
  | val v=>cases hM
  | ro l=>cases hM
  | own l=>obtain ⟨m',ds',e,y,_⟩:=s;cases e;exact y.1
  | bor l=>obtain ⟨m',ds',e,y,_⟩:=s;cases e;exact y.1
theorem bB.write (f:bB M B h S fr aj) {i n:Nat}{s:Sl}{l':List V}{ds':List D}(e:fr[i]?=some (some s)) (hM:iu (some s)=true) (e':aj[i]?=some (some (.ref n))) (q:aq h S l' ds') :
  bB M B (h.set n (.lst ds')) S (fr.set i (some (s.with l'))) aj:=by
 have mn:=f.mM e hM e'
 have kp:∀ m,S m→(h.set n (.lst ds'))[m]?=h[m]?:=fun m z=>kU fun y=>(f.wS m z).2.1 (y▸mn)
 have il:=(List.getElem?_eq_some_iff.mp e).1
 refine ⟨fun m y=>by simpa using f.wS m y,fun m y=>by simpa using f.wM m y,fun m y=>by simpa using f.wB m y,by simp [f.len],fun j o p y1 y2=>?_,fun j k o o' m y1 y2 y3 y4 y5 y6=>?_⟩
 ·by_cases hj:i=j
  ·subst hj
   rw [List.getElem?_set_self il] at y1
   cases y1
   rw [e'] at y2;cases y2
   have old:=f.sl i _ _ e e'
   have hn:(h.set n (.lst ds'))[n]?=some (.lst ds'):=List.getElem?_set_self (f.wM n mn)
   cases s with
   | val v=>cases hM
   | ro l=>cases hM
   | own l=>obtain ⟨m',_,e,y,_⟩:=old;cases e;exact ⟨n,ds',rfl,y,hn,q.mono kp fun _ z=>z⟩
   | bor l=>obtain ⟨m',_,e,y,_⟩:=old;cases e;exact ⟨n,ds',rfl,y,hn,q.mono kp fun _ z=>z⟩
  ·rw [List.getElem?_set_ne hj] at y1
   have old:=f.sl j o p y1 y2
   rcases o with _ | s'
   ·exact old
   ·cases s' with
    | val u=>obtain ⟨d,e,q⟩:=old;exact ⟨d,e,q.mono kp fun _ z=>z⟩
    | own u=>
     obtain ⟨m,es,rfl,w1,w2,w3⟩:=old
     refine ⟨m,es,rfl,w1,?_,w3.mono kp fun _ z=>z⟩
     rw [kU fun (z:n=m)=>hj (f.inj i j _ _ n e y1 hM rfl e' (by rw [z];exact y2))];exact w2
    | bor u=>
     obtain ⟨m,es,rfl,w1,w2,w3⟩:=old
     refine ⟨m,es,rfl,w1,?_,w3.mono kp fun _ z=>z⟩
     rw [kU fun (z:n=m)=>hj (f.inj i j _ _ n e y1 hM rfl e' (by rw [z];exact y2))];exact w2
    | ro u=>
     obtain ⟨m,es,rfl,w1,w2,w3⟩:=old
     refine ⟨m,es,rfl,w1,?_,w3.mono kp fun _ z=>z⟩
     rw [kU fun (z:n=m)=>w1 (z▸mn)];exact w2
 ·have kind:∀ (j:Nat) o,(fr.set i (some (s.with l')))[j]?=some o→iu o=true→∃ o0,fr[j]?=some o0∧iu o0=true:=fun j o w1 w2=>by
   by_cases hj:i=j
   ·subst hj;exact ⟨_,e,hM⟩
   ·rw [List.getElem?_set_ne hj] at w1;exact ⟨o,w1,w2⟩
  obtain ⟨oi,k1,k2⟩:=kind j o y1 y3
  obtain ⟨oj,k3,k4⟩:=kind k o' y2 y4
  exact f.inj j k oi oj m k1 k3 k2 k4 y5 y6
theorem Mt {m:ME}{l l':List V}{xs:List V}{n:Nat}{ds es:List D}(z:kq m l xs=some (v,l')) (e:h[n]?=some (.lst ds)) (q:aq h S l ds) (p:gk h S xs es) (p':BJ m=false→aq h S xs es) (hS:∀ k,S k→k≠n) :
  ∃ r ds',Ev.fM m (.ref n) es h=.ok r (h.set n (.lst ds'))∧Rep h S v r∧aq h S l' ds':=by
 unfold kq at z
 split at z
 ·have p':=p' rfl
  split at z
  ·rename_i k
   cases z
   simp only [aq] at p'
   obtain ⟨d,_,rfl,p1,rfl⟩:=p'
   refine ⟨_,_,?_,rfl,q.append (.cons p1 .nil)⟩
   delta Ev.fM;dsimp only;simp only [e]
   rw [if_pos (by rw [←q.length];exact k)]
  ·cases z
 ·split at z
  ·rename_i k
   cases z
   obtain ⟨d,rfl,p1⟩:=p.one
   simp only [bu] at p1
   obtain ⟨n2,cs,rfl,e2,p1⟩:=p1
   refine ⟨_,_,?_,rfl,q.append p1⟩
   delta Ev.fM;dsimp only;simp only [e,e2]
   rw [if_pos (by rw [←q.length,←p1.length];exact k)]
  ·cases z
 ·simp only [gk] at p
  subst p
  split at z
  ·rename_i x y
   cases z
   obtain ⟨d,k1,k2⟩:=q.get y
   refine ⟨d,_,?_,k2,q.dropLast⟩
   delta Ev.fM;dsimp only;simp only [e]
   rw [←q.length,k1]
  ·cases z
 ·cases z
theorem bB.set (f:bB M B h S fr aj) {i:Nat}(e:put fr i (.val v)=some af) (q:Rep h S v d):bB M B h S af (aj.set i (some d))∧(∀ j,locked af j=locked fr j)∧∀ j,locked fr j=true→(aj.set i (some d))[j]?=aj[j]?:=by
 have hx:af=fr.set i (some (.val v))∧locked fr i=false:=by
  unfold put at e
  unfold locked
  split at e
  ·cases e
  ·cases e
  ·rename_i k1 k2
   cases e
   refine ⟨rfl,?_⟩
   cases z:fr[i]? with
   | none=>rfl
   | some o=>
    rcases o with _ | s
    ·rfl
    ·cases s with
     | bor l=>exact absurd z (k1 l)
     | ro l=>exact absurd z (k2 l)
     | _=>rfl
 obtain ⟨rfl,hk⟩:=hx
 have lk:∀ j,locked (fr.set i (some (.val v))) j=locked fr j:=fun j=>by
  by_cases hj:i=j
  ·subst hj
   rw [hk]
   unfold locked
   by_cases hl:i<fr.length
   ·rw [List.getElem?_set_self hl];rfl
   ·rw [List.getElem?_eq_none (by simpa using hl)]
  ·unfold locked;rw [List.getElem?_set_ne hj]
 refine ⟨⟨f.wS,f.wM,f.wB,by simp [f.len],fun j o p y1 y2=>?_,fun j k o o' m y1 y2 y3 y4 y5 y6=>?_⟩,lk,fun j hj=>?_⟩
 ·by_cases hj:i=j
  ·subst hj
   have hl:i<fr.length:=by have:=(List.getElem?_eq_some_iff.mp y1).1;simpa using this
   rw [List.getElem?_set_self hl] at y1
   rw [List.getElem?_set_self (by rw [←f.len];exact hl)] at y2
   cases y1;cases y2
   exact ⟨d,rfl,q⟩
  ·rw [List.getElem?_set_ne hj] at y1 y2
   exact f.sl j o p y1 y2
 ·have hn:∀ (j:Nat) o,(fr.set i (some (.val v)))[j]?=some o→iu o=true→i≠j:=fun j o w1 w2 w3=>by
   subst w3
   have hl:i<fr.length:=by have:=(List.getElem?_eq_some_iff.mp w1).1;simpa using this
   rw [List.getElem?_set_self hl] at w1
   cases w1;cases w2
  have n1:=hn j o y1 y3
  have n2:=hn k o' y2 y4
  rw [List.getElem?_set_ne n1] at y1 y5
  rw [List.getElem?_set_ne n2] at y2 y6
  exact f.inj j k o o' m y1 y2 y3 y4 y5 y6
 ·have:i≠j:=fun z=>by subst z;rw [hk] at hj;cases hj
  rw [List.getElem?_set_ne this]
theorem bB.cQ:∀ {is:List Nat}{vs:List V}{ds:List D}{fr af:Fr}{aj:Ev.Fr},bB M B h S fr aj→cQ is vs fr=some af→aq h S vs ds→∃ bT,Ev.cQ is ds aj=some bT∧bB M B h S af bT∧(∀ j,locked af j=locked fr j)∧∀ j,locked fr j=true→bT[j]?=aj[j]?
 | [],[],ds,fr,af,aj,f,e,q=>by
  simp [Pv.cQ] at e;simp only [aq] at q;subst e q
  exact ⟨aj,rfl,f,fun _=>rfl,fun _ _=>rfl⟩
 | [],_ :: _,_,_,_,_,_,e,_=>by simp [Pv.cQ] at e
 | _ :: _,[],_,_,_,_,_,e,_=>by simp [Pv.cQ] at e
 | i :: is,v :: vs,ds,fr,af,aj,f,e,q=>by
  simp only [Pv.cQ,Option.bind_eq_some_iff] at e
  obtain ⟨ao,e1,e2⟩:=e
  simp only [aq] at q
  obtain ⟨d,es,rfl,q1,q2⟩:=q
  obtain ⟨f2,l2,r2⟩:=f.set e1 q1
  obtain ⟨bT,a,f3,l3,r3⟩:=f2.cQ e2 q2
  exact ⟨bT,a,f3,fun j=>(l3 j).trans (l2 j),fun j hj=>(r3 j (by rw [l2 j];exact hj)).trans (r2 j hj)⟩
theorem bB.bz (f:bB M B h S fr aj) {t:T}(e:bz t v fr=some af) (q:Rep h S v d):∃ bT,Ev.bz t d aj=some bT∧bB M B h S af bT∧(∀ j,locked af j=locked fr j)∧∀ j,locked fr j=true→bT[j]?=aj[j]?:=by
 cases t with
 | one i=>exact ⟨_,rfl,f.set e q⟩
 | many l=>
  cases v <;> simp only [Pv.bz,reduceCtorEq] at e
  simp only [Rep] at q
  obtain ⟨ds,rfl,q⟩:=q
  exact f.cQ e q
theorem bB.undef (f:bB M B h S fr aj) {t:T}(e:undef t fr=true):Ev.undef t aj=true:=by
 unfold Pv.undef at e
 unfold Ev.undef
 rw [List.all_eq_true] at e ⊢
 intro i hi
 have:=e i hi
 cases z:fr[i]? with
 | none=>
  have:aj[i]?=none:=by
   rw [List.getElem?_eq_none_iff] at z ⊢
   rw [←f.len];exact z
  rw [this];rfl
 | some o=>
  obtain ⟨p,e1,q⟩:=f.get z
  rw [z] at this
  rcases o with _ | s
  ·simp only [kP] at q;subst q;rw [e1];rfl
  ·simp at this
theorem yx {i:Nat}{o:Option Sl}(e:(tO fr)[i]?=some o):∃ o0,fr[i]?=some o0∧o=o0.map Sl.read:=by
 unfold tO at e
 rw [List.getElem?_map] at e
 cases z:fr[i]? with
 | none=>rw [z] at e;cases e
 | some o0=>rw [z] at e;cases e;exact ⟨o0,rfl,rfl⟩
theorem bB.ro (f:bB M B h S fr aj):bB (fun _=>False) B h S (tO fr) aj:=by
 refine ⟨fun m y=>⟨(f.wS m y).1,id,(f.wS m y).2.2⟩,fun m y=>y.elim,f.wB,by simp [tO,f.len],fun i o p y1 y2=>?_,fun i j o o' m y1 y2 y3 y4 y5 y6=>?_⟩
 ·obtain ⟨o0,z,rfl⟩:=yx y1
  have q:=f.sl i o0 p z y2
  rcases o0 with _ | s
  ·exact q
  ·cases s with
   | val v=>exact q
   | own l=>obtain ⟨m,ds,a,b,c,d⟩:=q;exact ⟨m,ds,a,id,c,d⟩
   | bor l=>obtain ⟨m,ds,a,b,c,d⟩:=q;exact ⟨m,ds,a,id,c,d⟩
   | ro l=>obtain ⟨m,ds,a,b,c,d⟩:=q;exact ⟨m,ds,a,id,c,d⟩
 ·obtain ⟨o0,z,rfl⟩:=yx y1
  rcases o0 with _ | s
  ·cases y3
  ·cases s <;> cases y3
theorem gY:∀ {ck:List (Nat×List D)},(∀ q∈ck,bh h q.1=some q.2)→Ev.stays h ck=true
 | [],_=>rfl
 | (n,ds) :: r,q=>by
  simp only [Ev.stays,Bool.and_eq_true]
  refine ⟨?_,gY fun x hx=>q x (List.mem_cons_of_mem _ hx)⟩
  rw [q (n,ds) (List.mem_cons_self ..)]
  exact Ev.zu _
theorem j3 {n:Nat}{ds:List D}(q:bh h n=some ds) (k:h'[n]?=h[n]?):bh h' n=some ds:=by
 unfold bh at q ⊢;rw [k];exact q
theorem nF {n:Nat}{ds:List D}(q:bh h n=some ds):n<h.length:=by
 unfold bh at q
 cases z:h[n]? with
 | none=>rw [z] at q;cases q
 | some o=>exact (List.getElem?_eq_some_iff.mp z).1
noncomputable def DW (h:Hh) (S:Nat→Prop):Option V→Option D→Prop
 | none,o=>o=none
 | some v,o=>∃ d,o=some d∧Rep h S v d
theorem yy {f:V→Option (Option V)}{f':D→Hh→Ev.R (Option D)}{ck:List (Nat×List D)}{h0:Hh}{S0:Nat→Prop}(w0:∀ m,S0 m→m<h0.length) (st:∀ q∈ck,bh h0 q.1=some q.2)
  (turn:∀ v o d h S,Al h0 S0 h S→f v=some o→Rep h S v d→∃ o' h' S',f' d h=.ok o' h'∧DW h' S' o o'∧Al h S h' S') :
  ∀ {vs:List V} {ds:List D} {rs:List V} {h:Hh} {S:Nat→Prop},Al h0 S0 h S→cO f vs=some rs→aq h S vs ds→∃ rs' h' S',Ev.cO f' ck ds h=.ok rs' h'∧aq h' S' rs rs'∧Al h S h' S'
 | [],ds,rs,h,S,a,e,q=>by
  simp [cO] at e;simp only [aq] at q;subst e q
  refine ⟨[],h,S,?_,.nil,.refl⟩
  simp only [Ev.cO]
  rw [if_pos (gY fun x hx=>j3 (st x hx) (a.keep _ (nF (st x hx))))]
 | v :: vs,ds,rs,h,S,a,e,q=>by
  simp only [cO,Option.bind_eq_some_iff] at e
  obtain ⟨o,e1,r,e2,e3⟩:=e
  cases e3
  simp only [aq] at q
  obtain ⟨d,es,rfl,q1,q2⟩:=q
  have w:∀ m,S m→m<h.length:=fun m z=>by
   rcases a.new m z with z | z
   ·exact Nat.lt_of_lt_of_le (w0 m z) a.len
   ·exact z.2
  obtain ⟨o',h1,S1,t1,t2,t3⟩:=turn v o d h S a e1 q1
  obtain ⟨rs',h2,S2,u1,u2,u3⟩:=yy w0 st turn (a.trans t3) e2 (q2.mono (fun m z=>t3.keep m (w m z)) t3.sub)
  have w1:∀ m,S1 m→m<h1.length:=fun m z=>by
   rcases t3.new m z with z | z
   ·exact Nat.lt_of_lt_of_le (w m z) t3.len
   ·exact z.2
  refine ⟨o'.toList++rs',h2,S2,?_,?_,t3.trans u3⟩
  ·simp only [Ev.cO]
   rw [if_pos (gY fun x hx=>j3 (st x hx) (a.keep _ (nF (st x hx)))),t1,Ev.ak,u1,Ev.ak]
  ·cases o with
   | none=>simp only [DW] at t2;subst t2;simpa using u2
   | some v'=>
    simp only [DW] at t2
    obtain ⟨d',rfl,t2⟩:=t2
    exact .cons (t2.mono (fun m z=>u3.keep m (w1 m z)) u3.sub) u2
end
noncomputable def jG (k:Bool) (h:Hh) (S:Nat→Prop) (v:List V) (d:List D):Prop:=if k=true then gk h S v d else aq h S v d
inductive Mu (P':Ev.aR) (e:E) (k:Bool) (v:V) (M B:Nat→Prop) (h:Hh) (S:Nat→Prop) (fr:Fr) (aj:Ev.Fr) (af:Fr):Prop
 | mk (d:D) (h':Hh) (S':Nat→Prop) (c0:Ev.ev P' e aj h=.ok d h') (c1:gp k h' S' v d) (c2:Out M B (bK e) h S fr aj h' S' af):Mu P' e k v M B h S fr aj af
inductive Mv (P':Ev.aR) (e:E) (b:Bool) (M B:Nat→Prop) (h:Hh) (S:Nat→Prop) (fr:Fr) (aj:Ev.Fr) (af:Fr):Prop
 | mk (h':Hh) (S':Nat→Prop) (c0:Ev.aL P' e aj h=.ok b h') (c1:Out M B (bK e) h S fr aj h' S' af):Mv P' e b M B h S fr aj af
inductive Mw (P':Ev.aR) (e:Es) (k:Bool) (v:List V) (M B:Nat→Prop) (h:Hh) (S:Nat→Prop) (fr:Fr) (aj:Ev.Fr) (af:Fr):Prop
 | mk (d:List D) (h':Hh) (S':Nat→Prop) (c0:Ev.cj P' e aj h=.ok d h') (c1:jG k h' S' v d) (c2:Out M B (gn e) h S fr aj h' S' af):Mw P' e k v M B h S fr aj af
inductive Mx (P':Ev.aR) (e:Es) (v:List (Nat ⊕ V)) (M B:Nat→Prop) (h:Hh) (S:Nat→Prop) (fr:Fr) (aj:Ev.Fr) (af:Fr):Prop
 | mk (d:List D) (h':Hh) (S':Nat→Prop) (c0:Ev.cj P' e aj h=.ok d h') (c1:vD h' S' aj v d) (c2:Out M B (gn e) h S fr aj h' S' af):Mx P' e v M B h S fr aj af
inductive My (P':Ev.aR) (e:Eo) (v:Option Int) (M B:Nat→Prop) (h:Hh) (S:Nat→Prop) (fr:Fr) (aj:Ev.Fr) (af:Fr):Prop
 | mk (h':Hh) (S':Nat→Prop) (c0:Ev.gi P' e aj h=.ok v h') (c1:Out M B (kI e) h S fr aj h' S' af):My P' e v M B h S fr aj af
inductive Mz (P':Ev.aR) (e:Eo) (v:Bool) (M B:Nat→Prop) (h:Hh) (S:Nat→Prop) (fr:Fr) (aj:Ev.Fr) (af:Fr):Prop
 | mk (h':Hh) (S':Nat→Prop) (c0:Ev.iH P' e aj h=.ok v h') (c1:Out M B (kI e) h S fr aj h' S' af):Mz P' e v M B h S fr aj af
inductive MA (P':Ev.aR) (e:It) (k:Bool) (v:List V) (M B:Nat→Prop) (h:Hh) (S:Nat→Prop) (fr:Fr) (aj:Ev.Fr) (af:Fr):Prop
 | mk (s:Ev.Src) (h':Hh) (S':Nat→Prop) (c0:Ev.cF P' e aj h=.ok s h') (c1:aq h' S' v s.1) (c2:∀ q∈s.2,bh h' q.1=some q.2∧(k=false→¬ M q.1)) (c3:Out M B (DR e) h S fr aj h' S' af):MA P' e k v M B h S fr aj af
section
variable (P:aR)(P':Ev.aR)
noncomputable def bx (e:E):Prop:=∀ {k:Bool} {fr:Fr} {v:V} {af:Fr} {M B:Nat→Prop} {h:Hh} {S:Nat→Prop} {aj:Ev.Fr},ev P k e fr=.ok v af→bB M B h S fr aj→Mu P' e k v M B h S fr aj af
noncomputable def gU (e:E):Prop:=∀ {fr:Fr} {b:Bool} {af:Fr} {M B:Nat→Prop} {h:Hh} {S:Nat→Prop} {aj:Ev.Fr},aL P e fr=.ok b af→bB M B h S fr aj→Mv P' e b M B h S fr aj af
noncomputable def jH (e:Es):Prop:=∀ {k:Bool} {fr:Fr} {v:List V} {af:Fr} {M B:Nat→Prop} {h:Hh} {S:Nat→Prop} {aj:Ev.Fr},cj P k e fr=.ok v af→bB M B h S fr aj→Mw P' e k v M B h S fr aj af
noncomputable def qm (e:Es):Prop:=∀ {fr:Fr} {v:List (Nat ⊕ V)} {af:Fr} {M B:Nat→Prop} {h:Hh} {S:Nat→Prop} {aj:Ev.Fr},gj P e fr=.ok v af→bB M B h S fr aj→Mx P' e v M B h S fr aj af
noncomputable def qo (e:Eo):Prop:=∀ {fr:Fr} {v:Option Int} {af:Fr} {M B:Nat→Prop} {h:Hh} {S:Nat→Prop} {aj:Ev.Fr},gi P e fr=.ok v af→bB M B h S fr aj→My P' e v M B h S fr aj af
noncomputable def uh (e:Eo):Prop:=∀ {fr:Fr} {v:Bool} {af:Fr} {M B:Nat→Prop} {h:Hh} {S:Nat→Prop} {aj:Ev.Fr},iH P e fr=.ok v af→bB M B h S fr aj→Mz P' e v M B h S fr aj af
noncomputable def lW (e:It):Prop:=∀ {k:Bool} {fr:Fr} {v:List V} {af:Fr} {M B:Nat→Prop} {h:Hh} {S:Nat→Prop} {aj:Ev.Fr},cF P k e fr=.ok v af→bB M B h S fr aj→MA P' e k v M B h S fr aj af
end
section
variable {P:aR}{P':Ev.aR}{a b e tt:E}{es:Es}{lo hi:Eo}{it:It}
theorem MB {d:D}:bx P P' (.c d):=fun z f=>by
 simp only [ev] at z
 replace z:=aJ z;obtain ⟨z,y0⟩:=z;subst y0
 exact ⟨d,_,_,by simp only [Ev.ev],.of (nu z),.refl f⟩
theorem MC {i:Nat}:bx P P' (.v i):=fun z f=>by
 simp only [ev] at z
 replace z:=aJ z;obtain ⟨z,y0⟩:=z;subst y0
 obtain ⟨d,e1,q⟩:=Iw z f
 exact ⟨d,_,_,by simp only [Ev.ev,e1,Ev.dH],q,.refl f⟩
theorem jG.n {h:Hh}{S:Nat→Prop}{v:List V}{d:List D}(q:jG false h S v d):aq h S v d:=by simpa [jG] using q
theorem aq.tl {h:Hh}{S:Nat→Prop}:∀ {v:List V}{d:List D},aq h S v d→gk h S v d
 | [],_,q=>q
 | _ :: _,_,⟨d,es,a,b,q⟩=>⟨d,es,a,b.top,q.tl⟩
theorem jG.t {k:Bool}{h:Hh}{S:Nat→Prop}{v:List V}{d:List D}(q:jG k h S v d):gk h S v d:=by
 unfold jG at q
 split at q
 ·exact q
 ·exact q.tl
theorem BP (is:jH P P' es):bx P P' (.tup es):=fun z f=>by
 simp only [ev] at z
 obtain ⟨ds,ao,z1,z2⟩:=ah z
 replace z2:=aJ z2;obtain ⟨z2,y0⟩:=z2;subst y0
 obtain ⟨ds',h',S',e1,q,o⟩:=is z1 f
 unfold jZ at z2
 split at z2
 ·rename_i hk
  cases z2
  refine ⟨.tup ds',h',S',?_,.of ⟨ds',rfl,q.n⟩,o⟩
  simp only [Ev.ev,e1,Ev.ak]
  rw [if_pos (by rw [←q.n.length];exact hk)]
 ·cases z2
theorem BQ (is:jH P P' es):bx P P' (.lst es):=fun z f=>by
 simp only [ev] at z
 obtain ⟨ds,ao,z1,z2⟩:=ah z
 replace z2:=aJ z2;obtain ⟨z2,y0⟩:=z2;subst y0
 obtain ⟨ds',h',S',e1,q,o⟩:=is z1 f
 obtain ⟨r,h2,S2,a1,a2,a3⟩:=iL o.f.w z2 q.n
 exact ⟨r,h2,S2,by simp only [Ev.ev,e1,Ev.ak,a1],.of a2,o.al a3⟩
theorem oF {a:E}{aj:Ev.Fr}{h h1:Hh}{d:D}(e:Ev.ev P' a aj h=.ok d h1):∀ i,a=.v i→aj[i]?.join=some d:=fun i hi=>by
 subst hi
 simp only [Ev.ev] at e
 exact (Ev.aJ e).1
theorem two (ia:bx P P' a)(ib:bx P P' b){α:Type}{X:V→V→Fr→R α}{u:α}{fr bR:Fr}{M B:Nat→Prop}{h:Hh}{S:Nat→Prop}{aj:Ev.Fr}
  (z:((ev P (kf a (bK b)) a fr).bind fun x af=>(ev P true b af).bind fun y ao=>X x y ao)=.ok u bR) (f:bB M B h S fr aj) :
  ∃ x y d e h2 S2 ao,(∀ {β:Type} (g:D→D→Hh→Ev.R β),((Ev.ev P' a aj h).bind fun x h1=>(Ev.ev P' b aj h1).bind fun y h2=>g x y h2)=g d e h2)∧X x y ao=.ok u bR∧bu h2 S2 x d∧bu h2 S2 y e∧Out M B (bK a++bK b) h S fr aj h2 S2 ao:=by
 replace z:=ah z;obtain ⟨x,af,z1,z⟩:=z
 replace z:=ah z;obtain ⟨y,ao,z2,z⟩:=z
 obtain ⟨d,h1,S1,e1,q1,o1⟩:=ia z1 f
 obtain ⟨e,h2,S2,e2,q2,o2⟩:=ib z2 o1.f
 exact ⟨x,y,d,e,h2,S2,ao,fun g=>by rw [e1,Ev.ak,e2,Ev.ak],z,(q1.tr o1.f o2.tr id (oF e1)).t,q2.t,o1.trans o2⟩
theorem BR {o:bU}(ia:bx P P' a) (ib:bx P P' b):bx P P' (.bin o a b):=fun z f=>by
 simp only [ev] at z
 replace z:=two ia ib z f;obtain ⟨x,y,d,e,h2,S2,ao,k,z,q1,q2,ou⟩:=z
 replace z:=aJ z;obtain ⟨z,y0⟩:=z;subst y0
 obtain ⟨r,h3,S3,a1,a2,a3⟩:=Mg ou.f.w z q1 q2
 exact ⟨r,h3,S3,by simp only [Ev.ev];rw [k];exact a1,.of a2,ou.al a3⟩
theorem BU {o:bQ}(ia:bx P P' a) (ib:bx P P' b):bx P P' (.cmp o a b):=fun z f=>by
 simp only [ev] at z
 replace z:=two ia ib z f;obtain ⟨x,y,d,e,h2,S2,ao,k,z,q1,q2,ou⟩:=z
 replace z:=aJ z;obtain ⟨z,y0⟩:=z;subst y0
 simp only [Option.map_eq_some_iff] at z
 obtain ⟨b,z,rfl⟩:=z
 exact ⟨.bl b,h2,S2,by simp only [Ev.ev];rw [k,Mh z q1.u q2.u];rfl,.of rfl,ou⟩
theorem Gn (ia:bx P P' a) (ib:bx P P' b):bx P P' (.ix a b):=fun z f=>by
 simp only [ev] at z
 replace z:=two ia ib z f;obtain ⟨x,y,d,e,h2,S2,ao,k,z,q1,q2,ou⟩:=z
 replace z:=aJ z;obtain ⟨z,y0⟩:=z;subst y0
 obtain ⟨r,a1,a2⟩:=Mi z q1 q2
 exact ⟨r,h2,S2,by simp only [Ev.ev];rw [k,a1];rfl,.of a2,ou⟩
theorem Iz {x y v:V}{d e:D}{h:Hh}{S:Nat→Prop}(z:pR x y=some v) (p:bu h S x d) (q:bu h S y e):∃ r,Ev.uQ d e h=some r∧Rep h S v r:=by
 unfold pR at z
 split at z
 ·simp only [bu,Rep] at p q
  obtain ⟨n,rfl,_,p⟩:=p
  subst q
  obtain ⟨s,e1,rfl⟩:=Option.map_eq_some_iff.mp z
  exact ⟨.str s,by simp [Ev.uQ,Ev.eT,p,e1],rfl⟩
 ·cases z
theorem BV (ia:bx P P' a) (ib:bx P P' b):bx P P' (.kh a b):=fun z f=>by
 simp only [ev] at z
 replace z:=two ia ib z f;obtain ⟨x,y,d,e,h2,S2,ao,k,z,q1,q2,ou⟩:=z
 replace z:=aJ z;obtain ⟨z,y0⟩:=z;subst y0
 obtain ⟨r,a1,a2⟩:=Iz z q1 q2
 exact ⟨r,h2,S2,by simp only [Ev.ev];rw [k,a1];rfl,.of a2,ou⟩
theorem BW {c:E}(ia:bx P P' a) (ib:bx P P' b) (ic:bx P P' c):bx P P' (.ki a b c):=fun z f=>by
 simp only [ev] at z
 replace z:=ah z;obtain ⟨x,af,z1,z⟩:=z
 replace z:=ah z;obtain ⟨y,ao,z2,z⟩:=z
 replace z:=ah z;obtain ⟨u,bG,z3,z⟩:=z
 replace z:=aJ z;obtain ⟨z,y0⟩:=z;subst y0
 obtain ⟨d,h1,S1,e1,q1,o1⟩:=ia z1 f
 obtain ⟨e,h2,S2,e2,q2,o2⟩:=ib z2 o1.f
 obtain ⟨g,h3,S3,e3,q3,o3⟩:=ic z3 o2.f
 have p0:=q1.t
 have p1:=(q1.tr o1.f (o2.trans o3).tr id (oF e1)).t
 have p2:=(q2.tr o2.f o3.tr id (oF e2)).t
 have p3:Rep h3 S3 u g:=q3
 unfold nq at z
 split at z
 ·cases z
  simp only [bu,Rep] at p0 p1 p2
  obtain ⟨n,rfl,_,p0⟩:=p0
  obtain ⟨n',en,_,p1⟩:=p1
  cases en
  subst p2
  rename_i kvs k _ _
  cases hv:Ev.cg kvs k with
  | none=>exact ⟨g,h3,S3,by simp only [Ev.ev,e1,Ev.ak,e2,e3];simp [Ev.uR,Ev.eT,p0,p1,hv,Ev.dH],.of p3,o1.trans (o2.trans o3)⟩
  | some s=>exact ⟨.str s,h3,S3,by simp only [Ev.ev,e1,Ev.ak,e2,e3];simp [Ev.uR,Ev.eT,p0,p1,hv,Ev.dH],.of rfl,o1.trans (o2.trans o3)⟩
 ·cases z
theorem Pp (ia:bx P P' a):bx P P' (.nt a):=fun z f=>by
 simp only [ev] at z
 replace z:=ah z;obtain ⟨x,af,z1,z⟩:=z
 obtain ⟨d,h1,S1,e1,q1,o1⟩:=ia z1 f
 cases x <;> simp only [reduceCtorEq] at z
 cases z
 have q:=q1.t
 simp only [bu,Rep] at q
 subst q
 exact ⟨_,h1,S1,by simp only [Ev.ev,e1,Ev.ak],.of rfl,o1⟩
theorem BX (ia:bx P P' a):bx P P' (.neg a):=fun z f=>by
 simp only [ev] at z
 replace z:=ah z;obtain ⟨x,af,z1,z⟩:=z
 obtain ⟨d,h1,S1,e1,q1,o1⟩:=ia z1 f
 cases x <;> simp only [reduceCtorEq] at z
 cases z
 have q:=q1.t
 simp only [bu,Rep] at q
 subst q
 exact ⟨_,h1,S1,by simp only [Ev.ev,e1,Ev.ak],.of rfl,o1⟩
theorem Pq (ia:bx P P' a) (ib:bx P P' b):bx P P' (.an a b):=fun z f=>by
 simp only [ev] at z
 replace z:=ah z;obtain ⟨x,af,z1,z⟩:=z
 obtain ⟨d,h1,S1,e1,q1,o1⟩:=ia z1 f
 cases x <;> try (cases z;done)
 rename_i k
 have q:=q1.t
 simp only [bu,Rep] at q
 subst q
 cases k with
 | true=>
  try simp only at z
  obtain ⟨d,h2,S2,e2,q2,o2⟩:=ib z o1.f
  exact ⟨d,h2,S2,by simp only [Ev.ev,e1,Ev.ak,e2],q2,o1.trans o2⟩
 | false=>
  try simp only at z
  cases z
  exact ⟨_,h1,S1,by simp only [Ev.ev,e1,Ev.ak],.of rfl,o1.weak (by simp only [bK];intro i hi;simp [hi])⟩
theorem MD (ia:bx P P' a) (ib:bx P P' b):bx P P' (.orr a b):=fun z f=>by
 simp only [ev] at z
 replace z:=ah z;obtain ⟨x,af,z1,z⟩:=z
 obtain ⟨d,h1,S1,e1,q1,o1⟩:=ia z1 f
 cases x <;> try (cases z;done)
 rename_i k
 have q:=q1.t
 simp only [bu,Rep] at q
 subst q
 cases k with
 | false=>
  try simp only at z
  obtain ⟨d,h2,S2,e2,q2,o2⟩:=ib z o1.f
  exact ⟨d,h2,S2,by simp only [Ev.ev,e1,Ev.ak,e2],q2,o1.trans o2⟩
 | true=>
  try simp only at z
  cases z
  exact ⟨_,h1,S1,by simp only [Ev.ev,e1,Ev.ak],.of rfl,o1.weak (by simp only [bK];intro i hi;simp [hi])⟩
theorem BY (it:gU P P' tt) (ia:bx P P' a) (ib:bx P P' b):bx P P' (.jD tt a b):=fun z f=>by
 simp only [ev] at z
 replace z:=ah z;obtain ⟨k,af,z1,z⟩:=z
 obtain ⟨h1,S1,e1,o1⟩:=it z1 f
 cases k with
 | true=>
  simp only [if_true] at z
  obtain ⟨d,h2,S2,e2,q2,o2⟩:=ia z o1.f
  exact ⟨d,h2,S2,by simp only [Ev.ev,e1,Ev.ak,if_true,e2],q2,(o1.trans o2).weak (by simp only [bK];intro i hi;simp at hi ⊢;rcases hi with hi | hi <;> simp [hi])⟩
 | false=>
  simp only [Bool.false_eq_true,if_false] at z
  obtain ⟨d,h2,S2,e2,q2,o2⟩:=ib z o1.f
  exact ⟨d,h2,S2,by simp only [Ev.ev,e1,Ev.ak];rw [if_neg (by decide)];exact e2,q2,(o1.trans o2).weak (by simp only [bK];intro i hi;simp at hi ⊢;rcases hi with hi | hi <;> simp [hi])⟩
theorem Gp (ia:bx P P' a) (il:qo P P' lo) (ih:qo P P' hi):bx P P' (.sl a lo hi):=fun z f=>by
 simp only [ev] at z
 replace z:=ah z;obtain ⟨x,af,z1,z⟩:=z
 replace z:=ah z;obtain ⟨l,ao,z2,z⟩:=z
 replace z:=ah z;obtain ⟨u,bG,z3,z⟩:=z
 replace z:=aJ z;obtain ⟨z,y0⟩:=z;subst y0
 obtain ⟨d,h1,S1,e1,q1,o1⟩:=ia z1 f
 obtain ⟨h2,S2,e2,o2⟩:=il z2 o1.f
 obtain ⟨h3,S3,e3,o3⟩:=ih z3 o2.f
 have q:=(q1.tr o1.f (o2.trans o3).tr id (oF e1)).t
 obtain ⟨r,h4,S4,a1,a2,a3⟩:=Mj o3.f.w z q
 exact ⟨r,h4,S4,by simp only [Ev.ev,e1,Ev.ak,e2,e3,a1],.of a2,(o1.trans (o2.trans o3)).al a3⟩
theorem nG:∀ {es:Es}{fr af:Fr}{as:List (Nat ⊕ V)},gj P es fr=.ok as af→∀ i∈bV as,i∈jU es
 | .nil,_,_,_,z=>by simp only [gj] at z;cases z;simp [bV]
 | .cons e es,fr,af,as,z=>by
  simp only [gj] at z
  cases y:j0 fr e with
  | some i=>
   rw [y] at z
   simp only at z
   replace z:=ah z;obtain ⟨xs,bG,z2,z⟩:=z
   cases z
   have hy:e=.v i:=by
    cases e <;> simp only [j0,reduceCtorEq] at y
    split at y
    ·cases y;rfl
    ·cases y
   subst hy
   intro j hj
   simp only [bV,List.mem_cons] at hj
   simp only [jU,List.mem_cons]
   exact hj.imp id fun hj=>nG z2 j hj
  | none=>
   rw [y] at z
   simp only at z
   replace z:=ah z;obtain ⟨x,ao,z1,z⟩:=z
   replace z:=ah z;obtain ⟨xs,bG,z2,z⟩:=z
   cases z
   intro j hj
   simp only [bV] at hj
   have:=nG z2 j hj
   cases e <;> simp only [jU] <;> first | exact this | exact List.mem_cons_of_mem _ this
theorem Gq (HP:qj P P') {g:Nat}(is:qm P P' es):bx P P' (.cl g es):=fun z f=>by
 simp only [ev] at z
 replace z:=ah z;obtain ⟨as,af,z1,z⟩:=z
 obtain ⟨ds,h1,S1,e1,q1,o1⟩:=is z1 f
 obtain ⟨d,h2,S2,e2,q2,o2⟩:=DV HP z o1.f q1
 exact ⟨d,h2,S2,by simp only [Ev.ev,e1,Ev.ak,e2],.of q2,(o1.trans o2).weak (by
  simp only [bK]
  intro i hi
  rcases List.mem_append.mp hi with hi | hi
  ·exact List.mem_append.mpr (.inl hi)
  ·exact List.mem_append.mpr (.inr (nG z1 i hi)))⟩
theorem Gr {g:BI}(is:jH P P' es):bx P P' (.bi g es):=fun z f=>by
 simp only [ev] at z
 replace z:=ah z;obtain ⟨as,af,z1,z⟩:=z
 replace z:=aJ z;obtain ⟨z,y0⟩:=z;subst y0
 obtain ⟨ds,h1,S1,e1,q1,o1⟩:=is z1 f
 obtain ⟨r,h4,S4,a1,a2,a3⟩:=Mm o1.f.w z q1.t
 exact ⟨r,h4,S4,by simp only [Ev.ev,e1,Ev.ak,a1],.of a2,o1.al a3⟩
theorem yz {kvs:List (D×D)}(ia:bx P P' a):bx P P' (.jy kvs a):=fun z f=>by
 simp only [ev] at z
 replace z:=ah z;obtain ⟨x,af,z1,z⟩:=z
 replace z:=aJ z;obtain ⟨z,y0⟩:=z;subst y0
 obtain ⟨d,h1,S1,e1,q1,o1⟩:=ia z1 f
 obtain ⟨r,a1,a2⟩:=DS (S:=S1) q1.t.u z
 exact ⟨r,h1,S1,by simp only [Ev.ev,e1,Ev.ak,a1,Ev.dH],.of a2,o1⟩
theorem BZ (ia:bx P P' a):bx P P' (.iT a):=fun z f=>by
 simp only [ev] at z
 replace z:=ah z;obtain ⟨x,af,z1,z⟩:=z
 replace z:=aJ z;obtain ⟨z,y0⟩:=z;subst y0
 obtain ⟨d,h1,S1,e1,q1,o1⟩:=ia z1 f
 obtain ⟨r,a1,a2⟩:=Ml z q1.t
 exact ⟨r,h1,S1,by simp only [Ev.ev,e1,Ev.ak,a1],.of a2,o1⟩
theorem Gs {m:ME}{o:E}(io:bx P P' o) (is:jH P P' es):bx P P' (.me m o es):=fun {k fr v af M B h S aj} z f=>by
 simp only [ev] at z
 by_cases hm:jd m=true
 ·rw [if_pos hm] at z
  cases y:j0 fr o with
  | none=>rw [y] at z;cases z
  | some i=>
  rw [y] at z
  try simp only at z
  replace z:=ah z;obtain ⟨as,ao,z1,z⟩:=z
  have hy:o=.v i∧∃ s,lent fr i=some s:=by
   cases o <;> simp only [j0,reduceCtorEq] at y
   rename_i j
   split at y
   ·rename_i hs
    cases y
    exact ⟨rfl,Option.isSome_iff_exists.mp hs⟩
   ·cases y
  obtain ⟨rfl,s,hs⟩:=hy
  obtain ⟨n,cs,_,_,_,w2,w3,_,_⟩:=jP hs f
  obtain ⟨ds,h1,S1,e1,q1,o1⟩:=is z1 f
  have hr:Ev.xV m (.ref n) h=true:=by cases m <;> simp [jd] at hm <;> simp [Ev.xV,iX w3]
  have hap:BJ m=false→aq h1 S1 as ds:=fun hh=>by rw [hh] at q1;exact q1.n
  have fin:∀ s l l',ao[i]?=some (some s)→iu (some s)=true→(∃ m' cs',aj[i]?=some (some (.ref m'))∧h1[m']?=some (.lst cs')∧aq h1 S1 l cs')→kq m l as=some (v,l')→af=ao.set i (some (s.with l'))→
    Mu P' (.me m (.v i) es) k v M B h S fr aj af:=by
   intro s l l' k1 k2 ⟨m',cs',k3,k4,k5⟩ k6 k7
   rw [w2] at k3;cases k3
   have mn:=o1.f.mM k1 k2 w2
   obtain ⟨r,ds',a1,a2,a3⟩:=Mt k6 k4 k5 q1.t hap fun k z y=>(o1.f.wS k z).2.1 (y▸mn)
   have fw:=o1.f.write (l':=l') k1 k2 w2 a3
   subst k7
   refine ⟨r,_,S1,?_,.of (a2.mono (fun m z=>kU fun y=>(o1.f.wS m z).2.1 (y▸mn)) fun _ z=>z),fw,?_,fun j=>?_⟩
   ·simp only [Ev.ev,w2,Option.join,Ev.dH,Ev.ak,hr,if_true,e1]
    simp only [Option.bind,id,Ev.dH,Ev.ak,hr,if_true,e1]
    exact a1
   ·refine ⟨by simpa using o1.tr.len,fun m y1 y2=>?_,o1.tr.sub,fun m y=>by simpa using o1.tr.new m y⟩
    have y3:¬ Xs M aj (gn es) m:=fun z=>y2 (Xs.mono (by simp only [bK];intro i hi;simp [hi]) z)
    have y4:m≠n:=fun z=>y2 ⟨z▸mn,i,by simp [bK,RB,hm],by rw [z];exact w2⟩
    rw [kU (fun (z:n=m)=>y4 z.symm)]
    exact o1.tr.keep m y1 y3
   ·rw [←o1.lk j]
    unfold locked
    by_cases hj:i=j
    ·subst hj
     rw [List.getElem?_set_self (List.getElem?_eq_some_iff.mp k1).1,k1]
     exact yw
    ·rw [List.getElem?_set_ne hj]
  split at z
  ·rename_i l k1
   have old:=o1.f.get k1
   obtain ⟨p,k2,m',cs',rfl,_,k4,k5⟩:=old
   split at z
   ·rename_i v' l' k6
    cases z
    exact fin _ l l' k1 rfl ⟨m',cs',k2,k4,k5⟩ k6 rfl
   ·cases z
  ·rename_i l k1
   have old:=o1.f.get k1
   obtain ⟨p,k2,m',cs',rfl,_,k4,k5⟩:=old
   split at z
   ·rename_i v' l' k6
    cases z
    exact fin _ l l' k1 rfl ⟨m',cs',k2,k4,k5⟩ k6 rfl
   ·cases z
  ·cases z
 ·rw [if_neg hm] at z
  replace z:=ah z;obtain ⟨x,ao,z1,z⟩:=z
  replace z:=ah z;obtain ⟨as,bG,z2,z⟩:=z
  replace z:=aJ z;obtain ⟨z,y0⟩:=z;subst y0
  obtain ⟨d,h1,S1,e1,q1,o1⟩:=io z1 f
  obtain ⟨ds,h2,S2,e2,q2,o2⟩:=is z2 o1.f
  have hm':jd m=false:=by simpa using hm
  have Gu:=(q1.tr o1.f o2.tr id (oF e1)).t
  obtain ⟨a1,r,a2,a3⟩:=Mn z hm' Gu q2.t
  have hr:Ev.xV m d h1=true:=by
   unfold fM at z
   split at z
   ·have:=q1.t;simp only [bu,Rep] at this;subst this;rfl
   ·cases z
  exact ⟨r,h2,S2,by simp only [Ev.ev,e1,Ev.ak,hr,if_true,e2,a2],.of a3,(o1.trans o2).weak (by simp only [bK];intro i hi;simp at hi ⊢;rcases hi with hi | hi <;> simp [hi])⟩
theorem vG {elt:E}{t:T}{cond:Eo}(ii:lW P P' it) (ic:uh P P' cond) (ie:bx P P' elt):bx P P' (.comp elt t it cond):=fun z f=>by
 simp only [ev] at z
 replace z:=ah z;obtain ⟨vs,ao,z1,z⟩:=z
 split at z
 case isFalse=>cases z
 rename_i hu
 replace z:=aJ z;obtain ⟨z,y0⟩:=z;subst y0
 simp only [Option.bind_eq_some_iff] at z
 obtain ⟨rs,z2,z3⟩:=z
 obtain ⟨s,h1,S1,e1,q1,q2,o1⟩:=ii z1 f
 have Wy:=o1.f.ro
 obtain ⟨rs',h2,S2,c1,c2,c3⟩:=yy (f':=fun d h2=>match Ev.bz t d _ with
    | none=>.bad
    | some ao=>(Ev.iH P' cond ao h2).bind fun k h3=>if k then (Ev.ev P' elt ao h3).bind fun x h4=>.ok (some x) h4 else .ok none h3) (ck:=s.2) o1.f.w (fun q hq=>(q2 q hq).1) (fun v o d h S al y q=>by
  split at y
  ·cases y
  ·rename_i bG y1
   obtain ⟨jC,b1,b2,_,_⟩:=(Wy.al al).bz y1 q
   rw [b1]
   split at y
   ·rename_i c gM y2
    obtain ⟨h3,S3,c1,oc⟩:=ic y2 b2
    have MF:Al h S h3 S3:=oc.tr.al fun m z=>z.1
    split at y
    ·rename_i hc
     subst hc
     split at y
     ·rename_i x mW y3
      cases y
      obtain ⟨d',h4,S4,d1,d2,od⟩:=ie y3 (b2.al MF)
      refine ⟨some d',h4,S4,?_,⟨d',rfl,d2.n⟩,MF.trans (od.tr.al fun m z=>z.1)⟩
      simp only [c1,Ev.ak,if_true,d1]
     ·cases y
    ·rename_i hc
     cases y
     refine ⟨none,h3,S3,?_,rfl,MF⟩
     simp only [c1,Ev.ak]
     rw [if_neg hc]
   ·cases y) Al.refl z2 q1
 obtain ⟨r,h4,S4,a1,a2,a3⟩:=iL (o1.f.al c3).w z3 c2
 refine ⟨r,h4,S4,?_,.of a2,(o1.al c3).al a3⟩
 simp only [Ev.ev,e1,Ev.ak]
 rw [if_pos (o1.f.undef hu)]
 refine Eq.trans (congrArg (fun q:Ev.R (List D)=>q.bind fun ds h2=>Ev.alloc ds h2) c1) ?_
 simp only [Ev.ak,a1]
theorem B3 (ii:lW P P' it):bx P P' (.ig it):=fun z f=>by
 simp only [ev] at z
 replace z:=ah z;obtain ⟨vs,ao,z1,z⟩:=z
 replace z:=aJ z;obtain ⟨z,y0⟩:=z;subst y0
 obtain ⟨s,h1,S1,e1,q1,q2,o1⟩:=ii z1 f
 obtain ⟨r,h4,S4,a1,a2,a3⟩:=iL o1.f.w z q1
 exact ⟨r,h4,S4,by simp only [Ev.ev,e1,Ev.ak,a1],.of a2,o1.al a3⟩
theorem MG:jH P P' .nil:=fun {k fr v af M B h S aj} z f=>by
 simp only [cj] at z
 cases z
 refine ⟨[],_,_,by simp only [Ev.cj],?_,.refl f⟩
 unfold jG;split <;> rfl
theorem IA (ie:bx P P' e) (is:jH P P' es):jH P P' (.cons e es):=fun {k fr v af M B h S aj} z f=>by
 simp only [cj] at z
 replace z:=ah z;obtain ⟨x,ao,z1,z⟩:=z
 replace z:=ah z;obtain ⟨xs,bG,z2,z⟩:=z
 cases z
 obtain ⟨d,h1,S1,e1,q1,o1⟩:=ie z1 f
 obtain ⟨ds,h2,S2,e2,q2,o2⟩:=is z2 o1.f
 have Gu:=q1.tr (a:=e) o1.f o2.tr (by intro z;simp at z;exact z.2) (oF e1)
 refine ⟨d :: ds,h2,S2,by simp only [Ev.cj,e1,Ev.ak,e2],?_,o1.trans o2⟩
 unfold jG at q2 ⊢
 cases k with
 | true=>simp only [if_true] at q2 ⊢;exact ⟨d,ds,rfl,Gu.t,q2⟩
 | false=>
  simp only [Bool.false_eq_true,if_false] at q2 ⊢
  exact .cons (by simpa [gp] using Gu) q2
theorem IB:qm P P' .nil:=fun z f=>by
 simp only [gj] at z
 cases z
 exact ⟨[],_,_,by simp only [Ev.cj],rfl,.refl f⟩
theorem DX (ie:bx P P' e) (is:qm P P' es):qm P P' (.cons e es):=fun {fr v af M B h S aj} z f=>by
 simp only [gj] at z
 cases y:j0 fr e with
 | some i=>
  rw [y] at z
  try simp only at z
  replace z:=ah z;obtain ⟨xs,bG,z2,z⟩:=z
  cases z
  have hy:e=.v i∧∃ s,lent fr i=some s:=by
   cases e <;> simp only [j0,reduceCtorEq] at y
   rename_i j
   split at y
   ·rename_i hs
    cases y
    exact ⟨rfl,Option.isSome_iff_exists.mp hs⟩
   ·cases y
  obtain ⟨rfl,s,hs⟩:=hy
  obtain ⟨n,cs,_,_,_,w2,w3,_,_⟩:=jP hs f
  obtain ⟨ds,h2,S2,e2,q2,o2⟩:=is z2 f
  refine ⟨.ref n :: ds,h2,S2,?_,⟨_,_,rfl,w2,q2⟩,o2.weak (by simp only [gn,bK];intro i hi;simpa using hi)⟩
  simp only [Ev.cj,Ev.ev,w2,Option.join,Option.bind,id,Ev.dH,Ev.ak,e2]
 | none=>
  rw [y] at z
  try simp only at z
  replace z:=ah z;obtain ⟨x,ao,z1,z⟩:=z
  replace z:=ah z;obtain ⟨xs,bG,z2,z⟩:=z
  cases z
  obtain ⟨d,h1,S1,e1,q1,o1⟩:=ie z1 f
  obtain ⟨ds,h2,S2,e2,q2,o2⟩:=is z2 o1.f
  exact ⟨d :: ds,h2,S2,by simp only [Ev.cj,e1,Ev.ak,e2],⟨_,_,rfl,q1.n.tr o1.f o2.tr,q2⟩,o1.trans o2⟩
theorem Pr:qo P P' .no:=fun z f=>by
 simp only [gi] at z;cases z
 exact ⟨_,_,by simp only [Ev.gi],.refl f⟩
theorem MH (ie:bx P P' e):qo P P' (.yes e):=fun z f=>by
 simp only [gi] at z
 replace z:=ah z;obtain ⟨x,ao,z1,z⟩:=z
 replace z:=aJ z;obtain ⟨z,y0⟩:=z;subst y0
 obtain ⟨d,h1,S1,e1,q1,o1⟩:=ie z1 f
 cases x <;> simp [intOf] at z
 subst z
 have q:=q1.t
 simp only [bu,Rep] at q
 subst q
 exact ⟨h1,S1,by simp only [Ev.gi,e1,Ev.ak];rfl,o1⟩
theorem MI:uh P P' .no:=fun z f=>by
 simp only [iH] at z;cases z
 exact ⟨_,_,by simp only [Ev.iH],.refl f⟩
theorem IC (ie:gU P P' e):uh P P' (.yes e):=fun z f=>by
 simp only [iH] at z
 obtain ⟨h1,S1,e1,o1⟩:=ie z f
 exact ⟨h1,S1,by simp only [Ev.iH,e1],o1⟩
theorem UT (ia:gU P P' a) (ib:gU P P' b):gU P P' (.an a b):=fun z f=>by
 simp only [aL] at z
 replace z:=ah z;obtain ⟨k,af,z1,z⟩:=z
 obtain ⟨h1,S1,e1,o1⟩:=ia z1 f
 cases k with
 | true=>
  simp only [if_true] at z
  obtain ⟨h2,S2,e2,o2⟩:=ib z o1.f
  exact ⟨h2,S2,by simp only [Ev.aL,e1,Ev.ak,if_true,e2],o1.trans o2⟩
 | false=>
  simp only [Bool.false_eq_true,if_false] at z
  cases z
  exact ⟨h1,S1,by simp only [Ev.aL,e1,Ev.ak];rfl,o1.weak (by simp only [bK];intro i hi;simp [hi])⟩
theorem Pu (ia:gU P P' a) (ib:gU P P' b):gU P P' (.orr a b):=fun z f=>by
 simp only [aL] at z
 replace z:=ah z;obtain ⟨k,af,z1,z⟩:=z
 obtain ⟨h1,S1,e1,o1⟩:=ia z1 f
 cases k with
 | false=>
  simp only [Bool.false_eq_true,if_false] at z
  obtain ⟨h2,S2,e2,o2⟩:=ib z o1.f
  exact ⟨h2,S2,by simp only [Ev.aL,e1,Ev.ak];rw [if_neg (by decide)];exact e2,o1.trans o2⟩
 | true=>
  simp only [if_true] at z
  cases z
  exact ⟨h1,S1,by simp only [Ev.aL,e1,Ev.ak];rfl,o1.weak (by simp only [bK];intro i hi;simp [hi])⟩
theorem UU (ia:gU P P' a):gU P P' (.nt a):=fun z f=>by
 simp only [aL] at z
 replace z:=ah z;obtain ⟨k,af,z1,z⟩:=z
 obtain ⟨h1,S1,e1,o1⟩:=ia z1 f
 cases z
 exact ⟨h1,S1,by simp only [Ev.aL,e1,Ev.ak],o1⟩
theorem dJ (ie:bx P P' e) (h1:∀ fr,aL P e fr=(ev P true e fr).bind fun x af=>.ok (truthy x) af) (h2:∀ fr h,Ev.aL P' e fr h=(Ev.ev P' e fr h).bind fun x h1=>Ev.R.of (Ev.truthy h1 x) h1):gU P P' e:=fun z f=>by
 rw [h1] at z
 replace z:=ah z;obtain ⟨x,af,z1,z⟩:=z
 cases z
 obtain ⟨d,h1,S1,e1,q1,o1⟩:=ie z1 f
 exact ⟨h1,S1,by rw [h2,e1,Ev.ak,BK q1.t];rfl,o1⟩
theorem B4 (ie:bx P P' e) {k:Bool}{fr:Fr}{v:V}{af:Fr}{M B:Nat→Prop}{h:Hh}{S:Nat→Prop}{aj:Ev.Fr}(z:src k fr e (ev P k e fr)=.ok v af) (f:bB M B h S fr aj) :
  ∃ d h' S',Ev.ev P' e aj h=.ok d h'∧bu h' S' v d∧(k=false→∀ n,d=.ref n→¬ M n)∧Out M B (bK e) h S fr aj h' S' af:=by
 have gen:ev P k e fr=.ok v af→∃ d h' S',Ev.ev P' e aj h=.ok d h'∧bu h' S' v d∧(k=false→∀ n,d=.ref n→¬ M n)∧Out M B (bK e) h S fr aj h' S' af:=fun z=>by
  obtain ⟨d,h1,S1,e1,q1,o1⟩:=ie z f
  refine ⟨d,h1,S1,e1,q1.t,fun hk n hd=>?_,o1⟩
  subst hk
  have q:=q1.n
  cases v <;> simp only [Rep] at q
  ·cases q.symm.trans hd
  ·cases q.symm.trans hd
  ·cases q.symm.trans hd
  ·cases q.symm.trans hd
  ·obtain ⟨_,q,_⟩:=q;cases q.symm.trans hd
  ·obtain ⟨m,ds,q,sm,_⟩:=q;cases q.symm.trans hd;exact (o1.f.wS _ sm).2.1
  ·obtain ⟨m,ds,q,sm,_⟩:=q;cases q.symm.trans hd;exact (o1.f.wS _ sm).2.1
  ·obtain ⟨m,q,sm,_⟩:=q;cases q.symm.trans hd;exact (o1.f.wS _ sm).2.1
 cases e
 case v i=>
  simp only [src] at z
  replace z:=aJ z;obtain ⟨z,y0⟩:=z;subst y0
  unfold vp at z
  split at z
  ·rename_i l y
   cases z
   obtain ⟨p,e1,m,ds,rfl,y1,y2,y3⟩:=f.get y
   exact ⟨.ref m,h,S,by simp only [Ev.ev,e1,Option.join,Option.bind,id,Ev.dH],⟨m,ds,rfl,y2,y3⟩,fun _ n hn=>by cases hn;exact y1,.refl f⟩
  ·exact gen (by simp only [ev,z,dH])
 all_goals exact gen z
theorem MJ (ie:bx P P' e):lW P P' (.seq e):=fun z f=>by
 simp only [cF] at z
 replace z:=ah z;obtain ⟨x,af,z1,z⟩:=z
 replace z:=aJ z;obtain ⟨z,y0⟩:=z;subst y0
 obtain ⟨d,h1,S1,e1,q1,q2,o1⟩:=B4 ie z1 f
 obtain ⟨s,a1,a2,a3⟩:=DT z q1
 exact ⟨s,h1,S1,by simp only [Ev.cF,e1,Ev.ak,a1,Ev.dH],a2,fun q hq=>⟨(a3 q hq).2,fun hk=>q2 hk _ (a3 q hq).1⟩,o1⟩
theorem ID (is:jH P P' es):lW P P' (.g8 es):=fun z f=>by
 simp only [cF] at z
 replace z:=ah z;obtain ⟨x,af,z1,z⟩:=z
 replace z:=aJ z;obtain ⟨z,y0⟩:=z;subst y0
 obtain ⟨d,h1,S1,e1,q1,o1⟩:=is z1 f
 obtain ⟨s,a1,a2⟩:=Mp z q1.t
 exact ⟨(s,[]),h1,S1,by simp only [Ev.cF,e1,Ev.ak,a1,Ev.dH],a2,fun q hq=>by simp at hq,o1⟩
theorem DY (ie:bx P P' e):lW P P' (.enum e):=fun z f=>by
 simp only [cF] at z
 replace z:=ah z;obtain ⟨x,af,z1,z⟩:=z
 replace z:=aJ z;obtain ⟨z,y0⟩:=z;subst y0
 obtain ⟨d,h1,S1,e1,q1,q2,o1⟩:=B4 ie z1 f
 simp only [Option.map_eq_some_iff] at z
 obtain ⟨l,z,rfl⟩:=z
 obtain ⟨s,a1,a2,a3⟩:=Iu z q1
 exact ⟨(Ev.gT 0 s.1,s.2),h1,S1,by simp only [Ev.cF,e1,Ev.ak,a1,Option.map,Ev.dH],yu 0 a2,fun q hq=>⟨(a3 q hq).2,fun hk=>q2 hk _ (a3 q hq).1⟩,o1⟩
theorem IE (ie:bx P P' e):lW P P' (.rev e):=fun z f=>by
 simp only [cF] at z
 replace z:=ah z;obtain ⟨x,af,z1,z⟩:=z
 replace z:=aJ z;obtain ⟨z,y0⟩:=z;subst y0
 obtain ⟨d,h1,S1,e1,q1,o1⟩:=ie z1 f
 simp only [Option.map_eq_some_iff] at z
 obtain ⟨l,z,rfl⟩:=z
 cases x <;> simp only [zN,reduceCtorEq] at z
 cases z
 have k1:=q1.t
 simp only [bu,Rep] at k1
 obtain ⟨ds,y1,k2⟩:=k1
 subst y1
 exact ⟨(ds.reverse,[]),h1,S1,by simp only [Ev.cF,e1,Ev.ak,Ev.Dq,Option.map,Ev.dH],k2.reverse,fun q hq=>by simp at hq,o1⟩
end
section
variable {P:aR}{P':Ev.aR}(HP:qj P P')
include HP
mutual
theorem aY:∀ e:E,bx P P' e
 | .c _=>MB
 | .v _=>MC
 | .tup es=>BP (gq es)
 | .lst es=>BQ (gq es)
 | .bin _ a b=>BR (aY a) (aY b)
 | .cmp _ a b=>BU (aY a) (aY b)
 | .nt a=>Pp (aY a)
 | .neg a=>BX (aY a)
 | .an a b=>Pq (aY a) (aY b)
 | .orr a b=>MD (aY a) (aY b)
 | .jD t a b=>BY (gO t) (aY a) (aY b)
 | .ix a b=>Gn (aY a) (aY b)
 | .sl a lo hi=>Gp (aY a) (qp lo) (qp hi)
 | .gW=>fun z _=>by simp only [ev] at z;cases z
 | .kh a b=>BV (aY a) (aY b)
 | .ki a b c=>BW (aY a) (aY b) (aY c)
 | .cl _ es=>Gq HP (vH es)
 | .bi _ es=>Gr (gq es)
 | .me _ o es=>Gs (aY o) (gq es)
 | .comp elt _ it cond=>vG (j4 it) (B5 cond) (aY elt)
 | .ig it=>B3 (j4 it)
 | .jy _ a=>yz (aY a)
 | .iT a=>BZ (aY a)
theorem gO:∀ e:E,gU P P' e
 | .an a b=>UT (gO a) (gO b)
 | .orr a b=>Pu (gO a) (gO b)
 | .nt a=>UU (gO a)
 | .c x=>dJ MB (fun _=>by simp only [aL]) (fun _ _=>by simp only [Ev.aL])
 | .v x=>dJ MC (fun _=>by simp only [aL]) (fun _ _=>by simp only [Ev.aL])
 | .tup es=>dJ (BP (gq es)) (fun _=>by simp only [aL]) (fun _ _=>by simp only [Ev.aL])
 | .lst es=>dJ (BQ (gq es)) (fun _=>by simp only [aL]) (fun _ _=>by simp only [Ev.aL])
 | .bin _ a b=>dJ (BR (aY a) (aY b)) (fun _=>by simp only [aL]) (fun _ _=>by simp only [Ev.aL])
 | .cmp _ a b=>dJ (BU (aY a) (aY b)) (fun _=>by simp only [aL]) (fun _ _=>by simp only [Ev.aL])
 | .neg a=>dJ (BX (aY a)) (fun _=>by simp only [aL]) (fun _ _=>by simp only [Ev.aL])
 | .jD t a b=>dJ (BY (gO t) (aY a) (aY b)) (fun _=>by simp only [aL]) (fun _ _=>by simp only [Ev.aL])
 | .ix a b=>dJ (Gn (aY a) (aY b)) (fun _=>by simp only [aL]) (fun _ _=>by simp only [Ev.aL])
 | .sl a lo hi=>dJ (Gp (aY a) (qp lo) (qp hi)) (fun _=>by simp only [aL]) (fun _ _=>by simp only [Ev.aL])
 | .gW=>dJ (fun z _=>by simp only [ev] at z;cases z) (fun _=>by simp only [aL]) (fun _ _=>by simp only [Ev.aL])
 | .kh a b=>dJ (BV (aY a) (aY b)) (fun _=>by simp only [aL]) (fun _ _=>by simp only [Ev.aL])
 | .ki a b c=>dJ (BW (aY a) (aY b) (aY c)) (fun _=>by simp only [aL]) (fun _ _=>by simp only [Ev.aL])
 | .cl _ es=>dJ (Gq HP (vH es)) (fun _=>by simp only [aL]) (fun _ _=>by simp only [Ev.aL])
 | .bi _ es=>dJ (Gr (gq es)) (fun _=>by simp only [aL]) (fun _ _=>by simp only [Ev.aL])
 | .me _ o es=>dJ (Gs (aY o) (gq es)) (fun _=>by simp only [aL]) (fun _ _=>by simp only [Ev.aL])
 | .comp elt _ it cond=>dJ (vG (j4 it) (B5 cond) (aY elt)) (fun _=>by simp only [aL]) (fun _ _=>by simp only [Ev.aL])
 | .ig it=>dJ (B3 (j4 it)) (fun _=>by simp only [aL]) (fun _ _=>by simp only [Ev.aL])
 | .jy _ a=>dJ (yz (aY a)) (fun _=>by simp only [aL]) (fun _ _=>by simp only [Ev.aL])
 | .iT a=>dJ (BZ (aY a)) (fun _=>by simp only [aL]) (fun _ _=>by simp only [Ev.aL])
theorem gq:∀ e:Es,jH P P' e
 | .nil=>MG
 | .cons e es=>IA (aY e) (gq es)
theorem vH:∀ e:Es,qm P P' e
 | .nil=>IB
 | .cons e es=>DX (aY e) (vH es)
theorem qp:∀ e:Eo,qo P P' e
 | .no=>Pr
 | .yes e=>MH (aY e)
theorem B5:∀ e:Eo,uh P P' e
 | .no=>MI
 | .yes e=>IC (gO e)
theorem j4:∀ e:It,lW P P' e
 | .seq e=>MJ (aY e)
 | .g8 es=>ID (gq es)
 | .enum a=>DY (aY a)
 | .rev a=>IE (aY a)
end
end
end Pv
namespace Pv
open Ev (D O Hh bU bQ TY BI ME T E Es Eo It S Ss Fn big deep b2i rep cC dP bP aS cut cR eF slots bh)
structure Tr (M B:Nat→Prop) (h:Hh) (S:Nat→Prop) (M':Nat→Prop) (h':Hh) (S':Nat→Prop):Prop where
 len:h.length≤h'.length
 keep:∀ m,m<h.length→¬ M m→h'[m]?=h[m]?
 sub:∀ m,S m→S' m
 new:∀ m,S' m→S m∨(h.length≤m∧m<h'.length)∨(M m∧¬ B m)
 rR:∀ m,M' m→M m∨h.length≤m
structure dW (M B:Nat→Prop) (h:Hh) (S:Nat→Prop) (fr:Fr) (aj:Ev.Fr) (M':Nat→Prop) (h':Hh) (S':Nat→Prop) (af:Fr) (bT:Ev.Fr):Prop where
 f:bB M' B h' S' af bT
 tr:Tr M B h S M' h' S'
 lk:∀ i,locked af i=locked fr i
 rf:∀ i,locked fr i=true→bT[i]?=aj[i]?
noncomputable def iy (h:Hh) (S:Nat→Prop):Fl→Ev.Fl→Prop
 | .nx,g=>g=.nx
 | .bk,g=>g=.bk
 | .ct,g=>g=.ct
 | .ret v,g=>∃ d,g=.ret d∧Rep h S v d
section
variable {M B M' M1 M2:Nat→Prop}{h h' h1 h2:Hh}{S S' S1 S2:Nat→Prop}{fr af ao:Fr}{aj bT lX:Ev.Fr}{c c1 c2:List Nat}{v:V}{d:D}
theorem dW.refl (f:bB M B h S fr aj):dW M B h S fr aj M h S fr aj:=⟨f,⟨Nat.le_refl _,fun _ _ _=>rfl,fun _ q=>q,fun _ q=>.inl q,fun _ q=>.inl q⟩,fun _=>rfl,fun _ _=>rfl⟩
theorem Out.s (o:Out M B c h S fr aj h1 S1 af):dW M B h S fr aj M h1 S1 af aj:=⟨o.f,⟨o.tr.len,fun m y1 y2=>o.tr.keep m y1 (fun z=>y2 z.1),o.tr.sub,fun m q=>(o.tr.new m q).imp id .inl,fun _ q=>.inl q⟩,o.lk,fun _ _=>rfl⟩
theorem dW.trans (f0:bB M B h S fr aj) (a:dW M B h S fr aj M1 h1 S1 af bT) (b:dW M1 B h1 S1 af bT M2 h2 S2 ao lX):dW M B h S fr aj M2 h2 S2 ao lX where
 f:=b.f
 tr:=⟨Nat.le_trans a.tr.len b.tr.len,fun m y1 y2=>by
   rw [b.tr.keep m (Nat.lt_of_lt_of_le y1 a.tr.len) (fun z=>by
    rcases a.tr.rR m z with z | z
    ·exact y2 z
    ·omega),a.tr.keep m y1 y2],fun m q=>b.tr.sub m (a.tr.sub m q),fun m q=>by
   rcases b.tr.new m q with q | q | q
   ·rcases a.tr.new m q with q | q | q
    ·exact .inl q
    ·exact .inr (.inl ⟨q.1,Nat.lt_of_lt_of_le q.2 b.tr.len⟩)
    ·exact .inr (.inr q)
   ·exact .inr (.inl ⟨Nat.le_trans a.tr.len q.1,q.2⟩)
   ·rcases a.tr.rR m q.1 with z | z
    ·exact .inr (.inr ⟨z,q.2⟩)
    ·exact .inr (.inl ⟨z,Nat.lt_of_lt_of_le (a.f.wM m q.1) b.tr.len⟩),fun m q=>by
   rcases b.tr.rR m q with q | q
   ·exact a.tr.rR m q
   ·exact .inr (Nat.le_trans a.tr.len q)⟩
 lk:=fun i=>(b.lk i).trans (a.lk i)
 rf:=fun i q=>(b.rf i (by rw [a.lk i];exact q)).trans (a.rf i q)
theorem bB.kind (f:bB M B h S fr aj) (g:Option Sl→Option Sl→Prop) (hl:af.length=fr.length) (hg:∀ (i:Nat) o,af[i]?=some o→∃ o0,fr[i]?=some o0∧(o=o0∨(∃ l,o0=some (.own l)∧o=some (.val (.lst l)))∨(∃ l,o0=some (.bor l)∧o=some (.ro l)))) :
  ∃ M' S',dW M B h S fr aj M' h S' af aj:=by
 let X:Nat→Prop:=fun m=>∃ (i:Nat) (l:List V),fr[i]?=some (some (Sl.own l))∧af[i]?=some (some (Sl.val (V.lst l)))∧aj[i]?=some (some (D.ref m))
 let Y:Nat→Prop:=fun m=>∃ (i:Nat) (l:List V),fr[i]?=some (some (Sl.bor l))∧af[i]?=some (some (Sl.ro l))∧aj[i]?=some (some (D.ref m))
 have xM:∀ m,X m→M m∧¬ B m:=fun m ⟨i,l,a,_,b⟩=>by
  obtain ⟨m',ds,e,q,_⟩:=f.sl i _ _ a b;cases e;exact q
 have yM:∀ m,Y m→M m∧B m:=fun m ⟨i,l,a,_,b⟩=>by
  obtain ⟨m',ds,e,q,_⟩:=f.sl i _ _ a b;cases e;exact q
 have mono:∀ {l:List V} {ds:List D},aq h S l ds→aq h (fun m=>S m∨X m) l ds:=fun q=>q.mono (fun _ _=>rfl) fun _ z=>.inl z
 refine ⟨fun m=>M m∧¬ X m∧¬ Y m,fun m=>S m∨X m,⟨⟨fun m q=>?_,fun m q=>f.wM m q.1,f.wB,by rw [hl,f.len],fun i o p e1 e2=>?_,fun i j o o' m y1 y2 y3 y4 y5 y6=>?_⟩,⟨Nat.le_refl _,fun _ _ _=>rfl,fun _ q=>.inl q,fun m q=>?_,fun m q=>.inl q.1⟩,fun i=>?_,fun _ _=>rfl⟩⟩
 ·rcases q with q | q
  ·exact ⟨(f.wS m q).1,fun z=>(f.wS m q).2.1 z.1,(f.wS m q).2.2⟩
  ·exact ⟨f.wM m (xM m q).1,fun z=>z.2.1 q,(xM m q).2⟩
 ·obtain ⟨o0,e0,k⟩:=hg i o e1
  have old:=f.sl i o0 p e0 e2
  rcases k with rfl | ⟨l,rfl,rfl⟩ | ⟨l,rfl,rfl⟩
  ·rcases o with _ | s
   ·exact old
   ·cases s with
    | val v=>obtain ⟨d,e,q⟩:=old;exact ⟨d,e,q.mono (fun _ _=>rfl) fun _ z=>.inl z⟩
    | own l=>
     obtain ⟨m,ds,rfl,z,y,q⟩:=old
     refine ⟨m,ds,rfl,⟨⟨z.1,fun ⟨j,l',a1,a2,a3⟩=>?_,fun ⟨j,l',a1,a2,a3⟩=>?_⟩,z.2⟩,y,mono q⟩
     ·have:=f.inj i j _ _ m e0 a1 rfl rfl e2 a3;subst this;rw [e1] at a2;cases a2
     ·have:=f.inj i j _ _ m e0 a1 rfl rfl e2 a3;subst this;rw [e1] at a2;cases a2
    | bor l=>
     obtain ⟨m,ds,rfl,z,y,q⟩:=old
     refine ⟨m,ds,rfl,⟨⟨z.1,fun ⟨j,l',a1,a2,a3⟩=>?_,fun ⟨j,l',a1,a2,a3⟩=>?_⟩,z.2⟩,y,mono q⟩
     ·have:=f.inj i j _ _ m e0 a1 rfl rfl e2 a3;subst this;rw [e1] at a2;cases a2
     ·have:=f.inj i j _ _ m e0 a1 rfl rfl e2 a3;subst this;rw [e1] at a2;cases a2
    | ro l=>obtain ⟨m,ds,rfl,z,y,q⟩:=old;exact ⟨m,ds,rfl,fun w=>z w.1,y,mono q⟩
  ·obtain ⟨m,ds,rfl,z,y,q⟩:=old
   exact ⟨.ref m,rfl,m,ds,rfl,.inr ⟨i,l,e0,e1,e2⟩,y,mono q⟩
  ·obtain ⟨m,ds,rfl,z,y,q⟩:=old
   exact ⟨m,ds,rfl,fun w=>w.2.2 ⟨i,l,e0,e1,e2⟩,y,mono q⟩
 ·have kd:∀ (i:Nat) o,af[i]?=some o→iu o=true→∃ o0,fr[i]?=some o0∧iu o0=true:=fun i o w1 w2=>by
   obtain ⟨o0,e0,k⟩:=hg i o w1
   rcases k with rfl | ⟨l,rfl,rfl⟩ | ⟨l,rfl,rfl⟩
   ·exact ⟨o,e0,w2⟩
   ·cases w2
   ·cases w2
  obtain ⟨oi,k1,k2⟩:=kd i o y1 y3
  obtain ⟨oj,k3,k4⟩:=kd j o' y2 y4
  exact f.inj i j oi oj m k1 k3 k2 k4 y5 y6
 ·rcases q with q | q
  ·exact .inl q
  ·exact .inr (.inr (xM m q))
 ·unfold locked
  cases z:af[i]? with
  | none=>
   have:fr[i]?=none:=by rw [List.getElem?_eq_none_iff] at z ⊢;omega
   rw [this]
  | some o=>
   obtain ⟨o0,e0,k⟩:=hg i o z
   rw [e0]
   rcases k with rfl | ⟨l,rfl,rfl⟩ | ⟨l,rfl,rfl⟩ <;> rfl
theorem bB.dU (f:bB M B h S fr aj):∃ M' S',dW M B h S fr aj M' h S' (gE fr) aj:=by
 refine f.kind (fun _ _=>True) (by simp [gE]) fun i o e=>?_
 unfold gE at e
 rw [List.getElem?_map] at e
 cases z:fr[i]? with
 | none=>rw [z] at e;cases e
 | some o0=>
  rw [z] at e;cases e
  refine ⟨o0,rfl,?_⟩
  rcases o0 with _ | s
  ·exact .inl rfl
  ·cases s with
   | own l=>exact .inr (.inl ⟨l,rfl,rfl⟩)
   | _=>exact .inl rfl
theorem bB.walk:∀ (is:List Nat) {M:Nat→Prop}{S:Nat→Prop}{fr:Fr},bB M B h S fr aj→∃ M' S',dW M B h S fr aj M' h S' (lS is fr) aj
 | [],_,_,_,f=>⟨_,_,.refl f⟩
 | i :: is,M,S,fr,f=>by
  have one:∃ M1 S1,dW M B h S fr aj M1 h S1 (match fr[i]? with | some (some s)=>fr.set i (some s.walk) | _=>fr) aj:=by
   split
   ·rename_i s z
    have hl:=(List.getElem?_eq_some_iff.mp z).1
    refine f.kind (fun _ _=>True) (by simp) fun j o e=>?_
    by_cases hj:i=j
    ·subst hj
     rw [List.getElem?_set_self hl] at e
     cases e
     refine ⟨_,z,?_⟩
     cases s with
     | own l=>exact .inr (.inl ⟨l,rfl,rfl⟩)
     | bor l=>exact .inr (.inr ⟨l,rfl,rfl⟩)
     | _=>exact .inl rfl
    ·rw [List.getElem?_set_ne hj] at e
     exact ⟨o,e,.inl rfl⟩
   ·exact ⟨M,S,.refl f⟩
  obtain ⟨M1,S1,o1⟩:=one
  obtain ⟨M2,S2,o2⟩:=bB.walk is o1.f
  exact ⟨M2,S2,o1.trans f o2⟩
theorem bB.own (f:bB M B h S fr aj) {i:Nat}{l:List V}{ds:List D}(e:put fr i (.own l)=some af) (q:aq h S l ds):dW M B h S fr aj (fun m=>M m∨m=h.length) (h++[.lst ds]) S af (aj.set i (some (.ref h.length))):=by
 have hx:af=fr.set i (some (.own l))∧locked fr i=false:=by
  unfold put at e
  unfold locked
  split at e
  ·cases e
  ·cases e
  ·rename_i k1 k2
   cases e
   refine ⟨rfl,?_⟩
   cases z:fr[i]? with
   | none=>rfl
   | some o=>
    rcases o with _ | s
    ·rfl
    ·cases s with
     | bor l=>exact absurd z (k1 l)
     | ro l=>exact absurd z (k2 l)
     | _=>rfl
 obtain ⟨rfl,hk⟩:=hx
 have kp:∀ m,m<h.length→(h++[O.lst ds])[m]?=h[m]?:=fun m z=>by rw [List.getElem?_append_left z]
 have kS:∀ m,S m→(h++[O.lst ds])[m]?=h[m]?:=fun m z=>kp m (f.w m z)
 refine ⟨⟨fun m y=>⟨by have:=(f.wS m y).1;simp;omega,fun z=>?_,(f.wS m y).2.2⟩,fun m y=>?_,fun m y=>by have:=f.wB m y;simp;omega,by simp [f.len],fun j o p y1 y2=>?_,fun j k o o' m y1 y2 y3 y4 y5 y6=>?_⟩,⟨by simp,fun m y _=>kp m y,fun _ z=>z,fun _ z=>.inl z,fun m z=>z.imp id (fun z=>by omega)⟩,fun j=>?_,fun j hj=>?_⟩
 ·rcases z with z | z
  ·exact (f.wS m y).2.1 z
  ·have:=(f.wS m y).1;omega
 ·rcases y with y | y
  ·have:=f.wM m y;simp;omega
  ·subst y;simp
 ·by_cases hj:i=j
  ·subst hj
   have hl:i<fr.length:=by have:=(List.getElem?_eq_some_iff.mp y1).1;simpa using this
   rw [List.getElem?_set_self hl] at y1
   rw [List.getElem?_set_self (by rw [←f.len];exact hl)] at y2
   cases y1;cases y2
   exact ⟨h.length,ds,rfl,⟨.inr rfl,fun z=>by have:=f.wB _ z;omega⟩,by simp,q.mono kS fun _ z=>z⟩
  ·rw [List.getElem?_set_ne hj] at y1 y2
   have old:=f.sl j o p y1 y2
   rcases o with _ | s
   ·exact old
   ·cases s with
    | val v=>obtain ⟨d,e,q⟩:=old;exact ⟨d,e,q.mono kS fun _ z=>z⟩
    | own l=>obtain ⟨m,es,rfl,z,y,q⟩:=old;exact ⟨m,es,rfl,⟨.inl z.1,z.2⟩,by rw [kp m (f.wM m z.1)];exact y,q.mono kS fun _ z=>z⟩
    | bor l=>obtain ⟨m,es,rfl,z,y,q⟩:=old;exact ⟨m,es,rfl,⟨.inl z.1,z.2⟩,by rw [kp m (f.wM m z.1)];exact y,q.mono kS fun _ z=>z⟩
    | ro l=>
     obtain ⟨m,es,rfl,z,y,q⟩:=old
     have hm:=(List.getElem?_eq_some_iff.mp y).1
     exact ⟨m,es,rfl,fun w=>by rcases w with w | w;exact z w;omega,by rw [kp m hm];exact y,q.mono kS fun _ z=>z⟩
 ·have low:∀ (j:Nat) o,i≠j→fr[j]?=some o→iu o=true→aj[j]?=some (some (.ref m))→m<h.length:=fun j o _ w1 w2 w3=>f.wM m (f.mM w1 w2 w3)
  have new:∀ (j:Nat),j<fr.length→i=j→(aj.set i (some (.ref h.length)))[j]?=some (some (.ref m))→m=h.length:=fun j hl hj w=>by
   subst hj
   rw [List.getElem?_set_self (by rw [←f.len];exact hl)] at w
   cases w;rfl
  have lj:j<fr.length:=by have:=(List.getElem?_eq_some_iff.mp y1).1;simpa using this
  have lk:k<fr.length:=by have:=(List.getElem?_eq_some_iff.mp y2).1;simpa using this
  by_cases hj:i=j
  ·by_cases hk2:i=k
   ·rw [←hj,←hk2]
   ·have a:=new j lj hj y5
    rw [List.getElem?_set_ne hk2] at y2 y6
    have b:=low k o' hk2 y2 y4 y6
    omega
  ·by_cases hk2:i=k
   ·have a:=new k lk hk2 y6
    rw [List.getElem?_set_ne hj] at y1 y5
    have b:=low j o hj y1 y3 y5
    omega
   ·rw [List.getElem?_set_ne hj] at y1 y5
    rw [List.getElem?_set_ne hk2] at y2 y6
    exact f.inj j k o o' m y1 y2 y3 y4 y5 y6
 ·by_cases hj:i=j
  ·subst hj
   rw [hk]
   unfold locked
   by_cases hl:i<fr.length
   ·rw [List.getElem?_set_self hl];rfl
   ·rw [List.getElem?_eq_none (by simpa using hl)]
  ·unfold locked;rw [List.getElem?_set_ne hj]
 ·have:i≠j:=fun z=>by subst z;rw [hk] at hj;cases hj
  rw [List.getElem?_set_ne this]
end
inductive RC (P':Ev.aR) (w:Nat) (s:S) (g:Fl) (M B:Nat→Prop) (h:Hh) (S:Nat→Prop) (fr:Fr) (aj:Ev.Fr) (af:Fr):Prop
 | mk (g':Ev.Fl) (bT:Ev.Fr) (M':Nat→Prop) (h':Hh) (S':Nat→Prop) (c0:Ev.ex P' w s aj h=.ok (g',bT) h') (c1:iy h' S' g g') (c2:dW M B h S fr aj M' h' S' af bT):RC P' w s g M B h S fr aj af
inductive MK (P':Ev.aR) (w:Nat) (s:Ss) (g:Fl) (M B:Nat→Prop) (h:Hh) (S:Nat→Prop) (fr:Fr) (aj:Ev.Fr) (af:Fr):Prop
 | mk (g':Ev.Fl) (bT:Ev.Fr) (M':Nat→Prop) (h':Hh) (S':Nat→Prop) (c0:Ev.exs P' w s aj h=.ok (g',bT) h') (c1:iy h' S' g g') (c2:dW M B h S fr aj M' h' S' af bT):MK P' w s g M B h S fr aj af
section
variable (P:aR)(P':Ev.aR)(w:Nat)
noncomputable def nH (s:S):Prop:=∀ {fr:Fr} {g:Fl} {af:Fr} {M B:Nat→Prop} {h:Hh} {S:Nat→Prop} {aj:Ev.Fr},ex P w s fr=.ok g af→bB M B h S fr aj→RC P' w s g M B h S fr aj af
noncomputable def qq (s:Ss):Prop:=∀ {fr:Fr} {g:Fl} {af:Fr} {M B:Nat→Prop} {h:Hh} {S:Nat→Prop} {aj:Ev.Fr},exs P w s fr=.ok g af→bB M B h S fr aj→MK P' w s g M B h S fr aj af
end
section
variable {P:aR}{P':Ev.aR}{w:Nat}(HP:qj P P')
include HP
theorem Gv {i x f n0:Nat}{ck:List (Nat×List D)}(hxi:x≠i):∀ (vs:List V) (ds:List D) (k K:List (Int×List Nat)) (h:Hh) (S:Nat→Prop) (fr:Ev.Fr),lU P f vs k=some K→aq h S vs ds→(∀ m,S m→m<h.length∧m≠n0)→h[n0]?=some (.dct k)→fr[i]?=some (some (.ref n0))→(ds≠[]→x<fr.length)→(∀ q∈ck,bh h q.1=some q.2)→
  ∃ (h':Hh) (S':Nat→Prop),Ev.forL (fun d ao h2=>match Ev.bz (.one x) d ao with | some bG=>Ev.uS P' (.v i) (.cl f (.cons (.v x) .nil)) bG h2 | none=>.bad) ck ds fr h=.ok (.nx,(ds.getLast?.map fun d=>fr.set x (some d)).getD fr) h'∧h'[n0]?=some (.dct K)∧h.length≤h'.length∧(∀ m,m<h.length→m≠n0→h'[m]?=h[m]?)∧(∀ m,S m→S' m)∧(∀ m,S' m→S m∨(h.length≤m∧m<h'.length))
 | [],ds,k,K,h,S,fr,e,q,w,hn,hi,hx,st=>by
  simp only [lU] at e;cases e
  simp only [aq] at q;subst q
  refine ⟨h,S,?_,hn,Nat.le_refl _,fun _ _ _=>rfl,fun _ z=>z,fun _ z=>.inl z⟩
  simp only [Ev.forL]
  rw [if_pos (gY st)];rfl
 | v :: vs,ds,k,K,h,S,fr,e,q,w,hn,hi,hx,st=>by
  simp only [lU] at e
  split at e
  case h_2=>cases e
  rename_i m e1
  split at e
  case isFalse=>cases e
  rename_i hk
  simp only [aq] at q
  obtain ⟨d,es,rfl,q1,q2⟩:=q
  have Wz:=(List.getElem?_eq_some_iff.mp hn).1
  have eK:bB (fun _=>False) (fun _=>False) h S ([Sl.val v].map some) ([d].map some):=⟨fun m z=>⟨(w m z).1,fun z=>z,fun z=>z⟩,fun m z=>z.elim,fun m z=>z.elim,rfl,fun j o p a b=>by
   cases j with
   | zero=>simp at a b;subst a b;exact ⟨d,rfl,q1⟩
   | succ j=>simp at a,fun j1 j2 o o' m a b c _ _ _=>by
   cases j1 with
   | zero=>simp at a;subst a;cases c
   | succ j=>simp at a⟩
  obtain ⟨d',h1,S1,p1,p2,p3,p4⟩:=HP f [.val v] _ _ e1 h S (fun _=>False) [d] eK
  simp only [Rep] at p2
  obtain ⟨j,rfl,sj,hj⟩:=p2
  have k1:∀ m,m<h.length→h1[m]?=h[m]?:=fun m z=>p3.keep m z fun z=>z
  have w1:∀ m,S1 m→m<h1.length∧m≠n0:=fun m z=>by
   rcases p3.new m z with z | z
   ·exact ⟨Nat.lt_of_lt_of_le (w m z).1 p3.len,(w m z).2⟩
   ·exact ⟨z.2,fun y=>by subst y;omega⟩
  have jn:n0≠j:=fun z=>(w1 j sj).2 z.symm
  have hn1:h1[n0]?=some (.dct k):=by rw [k1 n0 Wz];exact hn
  have UW:=(List.getElem?_eq_some_iff.mp hn1).1
  have km:∀ m',m'≠n0→(h1.set n0 (.dct (Ev.cY k m)))[m']?=h1[m']?:=fun m' z=>List.getElem?_set_ne fun y=>z y.symm
  have WA:∀ q∈ck,q.1≠n0:=fun q hq z=>by
   have:=st q hq
   rw [z] at this
   simp [bh,hn] at this
  obtain ⟨h2,S2,g1,g2,g3,g4,g5,g6⟩:=Gv hxi vs es (Ev.cY k m) K (h1.set n0 (.dct (Ev.cY k m))) S1 (fr.set x (some d)) e (q2.mono (fun m' z=>by rw [km m' (w m' z).2,k1 m' (w m' z).1]) p3.sub) (fun m' z=>⟨by rw [List.length_set];exact (w1 m' z).1,(w1 m' z).2⟩) (List.getElem?_set_self UW) (by rw [List.getElem?_set_ne hxi];exact hi) (fun _=>by rw [List.length_set];exact hx (by simp))
   (fun q hq=>j3 (st q hq) (by rw [km _ (WA q hq),k1 _ (nF (st q hq))]))
  rw [List.length_set] at g3 g4 g6
  refine ⟨h2,S2,?_,g2,Nat.le_trans p3.len g3,fun m' z1 z2=>by rw [g4 m' (Nat.lt_of_lt_of_le z1 p3.len) z2,km m' z2,k1 m' z1],fun m' z=>g5 m' (p3.sub m' z),fun m' z=>?_⟩
  ·have big:k.length+m.length≤Ev.big:=Nat.le_trans hk (by decide)
   have hxx:(fr.set x (some d))[x]?=some (some d):=List.getElem?_set_self (hx (by simp))
   have WB:(fr.set x (some d))[i]?=some (some (.ref n0)):=by rw [List.getElem?_set_ne hxi];exact hi
   have du:Ev.uS P' (.v i) (.cl f (.cons (.v x) .nil)) (fr.set x (some d)) h=.ok (.nx,fr.set x (some d)) (h1.set n0 (.dct (Ev.cY k m))):=by
    simp [Ev.uS,Ev.ev,Ev.cj,WB,hxx,Ev.R.bind,Ev.R.of,p1,Ev.ue,Ev.eT,hn,hn1,hj,jn,big]
   simp only [Ev.forL]
   rw [if_pos (gY st)]
   simp only [Ev.bz]
   rw [du]
   simp only [Ev.ak]
   simp only [Ev.bz] at g1
   rw [g1]
   cases es with
   | nil=>rfl
   | cons d2 es=>
    have:(d :: d2 :: es).getLast?=(d2 :: es).getLast?:=by simp [List.getLast?_cons_cons]
    rw [this]
    cases z:(d2 :: es).getLast? with
    | none=>simp at z
    | some d3=>simp [List.set_set]
  ·rcases g6 m' z with z | z
   ·rcases p3.new m' z with z | z
    ·exact .inl z
    ·exact .inr ⟨z.1,Nat.lt_of_lt_of_le z.2 g3⟩
   ·exact .inr ⟨Nat.le_trans p3.len z.1,z.2⟩
omit HP in
theorem vI {h:Hh}{S:Nat→Prop}:∀ {vs:List V}{ds:List D},aq h S vs ds→(vs.getLast?=none∧ds.getLast?=none)∨∃ v d,vs.getLast?=some v∧ds.getLast?=some d∧Rep h S v d
 | [],ds,q=>by simp only [aq] at q;subst q;exact .inl ⟨rfl,rfl⟩
 | v :: vs,ds,q=>by
  simp only [aq] at q
  obtain ⟨d,es,rfl,q1,q2⟩:=q
  refine .inr ?_
  rcases vI q2 with ⟨a,b⟩ | ⟨v',d',a,b,c⟩
  ·have a':=List.getLast?_eq_none_iff.mp a
   have b':=List.getLast?_eq_none_iff.mp b
   subst a' b'
   exact ⟨v,d,rfl,rfl,q1⟩
  ·refine ⟨v',d',?_,?_,c⟩
   ·cases vs with | nil=>cases a | cons x xs=>rw [List.getLast?_cons_cons];exact a
   ·cases es with | nil=>cases b | cons x xs=>rw [List.getLast?_cons_cons];exact b
omit HP in
theorem bB.WC {M B:Nat→Prop}{h h':Hh}{S S':Nat→Prop}{fr:Fr}{aj:Ev.Fr}{n0:Nat}{k:List (Int×List Nat)}(f:bB M B h S fr aj) (hn:h[n0]?=some (.dct k)) (nS:∀ m,S m→m≠n0) (nM:¬ M n0) (nB:¬ B n0) (len:h.length≤h'.length) (keep:∀ m,m<h.length→m≠n0→h'[m]?=h[m]?) (sub:∀ m,S m→S' m) (new:∀ m,S' m→S m∨(h.length≤m∧m<h'.length)∨m=n0):bB M B h' S' fr aj where
 wS:=fun m q=>by
  rcases new m q with q | ⟨q1,q2⟩ | rfl
  ·exact ⟨Nat.lt_of_lt_of_le (f.wS m q).1 len,(f.wS m q).2⟩
  ·exact ⟨q2,fun z=>by have:=f.wM m z;omega,fun z=>by have:=f.wB m z;omega⟩
  ·exact ⟨Nat.lt_of_lt_of_le (List.getElem?_eq_some_iff.mp hn).1 len,nM,nB⟩
 wM:=fun m q=>Nat.lt_of_lt_of_le (f.wM m q) len
 wB:=fun m q=>Nat.lt_of_lt_of_le (f.wB m q) len
 len:=f.len
 sl:=fun i o p e1 e2=>by
  have q:=f.sl i o p e1 e2
  have k:∀ m,S m→h'[m]?=h[m]?:=fun m z=>keep m (f.w m z) (nS m z)
  have g:∀ (m:Nat) (ds:List D),h[m]?=some (O.lst ds)→h'[m]?=some (O.lst ds):=fun m ds z=>by
   rw [keep m (List.getElem?_eq_some_iff.mp z).1 (fun y=>by rw [y,hn] at z;cases z)];exact z
  rcases o with _ | s
  ·exact q
  ·cases s with
   | val v=>obtain ⟨d,e,q⟩:=q;exact ⟨d,e,q.mono k sub⟩
   | own l=>obtain ⟨m,ds,e,z,y,q⟩:=q;exact ⟨m,ds,e,z,g m ds y,q.mono k sub⟩
   | bor l=>obtain ⟨m,ds,e,z,y,q⟩:=q;exact ⟨m,ds,e,z,g m ds y,q.mono k sub⟩
   | ro l=>obtain ⟨m,ds,e,z,y,q⟩:=q;exact ⟨m,ds,e,z,g m ds y,q.mono k sub⟩
 inj:=f.inj
theorem IF {i x y f:Nat}:nH P P' w (.jz i x y f):=fun {fr g af M B h S aj} z f0=>by
 simp only [ex] at z
 split at z
 case isFalse=>cases z
 rename_i hc
 obtain ⟨WD,hxi,il,xl⟩:=hc
 rw [f0.len] at il xl
 replace z:=ah z;obtain ⟨vs,ao,z1,z⟩:=z
 replace z:=ah z;obtain ⟨K,bG,z2,z⟩:=z
 replace z2:=aJ z2;obtain ⟨z2,y0⟩:=z2;subst y0
 replace z:=ah z;obtain ⟨gM,mW,z3,z⟩:=z
 replace z3:=aJ z3;obtain ⟨z3,y0⟩:=z3;subst y0
 replace z:=ah z;obtain ⟨Xw,Rt,z4,z⟩:=z
 replace z4:=aJ z4;obtain ⟨z4,y0⟩:=z4;subst y0
 cases z
 have hl1:(h++[O.dct []]).length=h.length+1:=by simp
 have f1:bB M B (h++[.dct []]) S fr aj:=f0.al ⟨by rw [hl1];omega,fun m z=>List.getElem?_append_left z,fun _ z=>z,fun _ z=>.inl z⟩
 obtain ⟨M1,S1,o1⟩:=f1.walk [y]
 obtain ⟨s,h2,S2,e1,q1,q2,o2⟩:=j4 HP (.seq (.v y)) z1 o1.f
 have qt:=e1
 simp only [Ev.cF,Ev.ev] at qt
 replace qt:=Ev.ah qt;obtain ⟨dx,RD,e2,qt⟩:=qt
 replace e2:=Ev.aJ e2;obtain ⟨e2,y0⟩:=e2;subst y0
 replace qt:=Ev.aJ qt;obtain ⟨qt,y0⟩:=qt;subst y0
 have e3:Ev.cF P' (.seq (.v y)) (aj.set i (some (.ref h.length))) (h++[.dct []])=.ok s (h++[.dct []]):=by
  rw [←e1]
  simp only [Ev.cF,Ev.ev,List.getElem?_set_ne WD]
 have hn:(h++[O.dct []])[h.length]?=some (.dct []):=by simp
 have WE:¬ M1 h.length:=fun z=>by
  rcases o1.tr.rR _ z with z | z
  ·have:=f0.wM _ z;omega
  ·rw [hl1] at z;omega
 have nB:¬ B h.length:=fun z=>by have:=f0.wB _ z;omega
 have RE:∀ m,S2 m→S m∨(M m∧¬ B m):=fun m z=>by
  rcases o2.tr.new m z with z | z
  ·rcases o1.tr.new m z with z | z | z
   ·exact .inl z
   ·omega
   ·exact .inr z
  ·omega
 have ML:∀ m,S2 m→m≠h.length:=fun m z y=>by
  rcases RE m z with z | z
  ·have:=(f0.wS m z).1;omega
  ·have:=f0.wM m z.1;omega
 obtain ⟨h',S',g1,g2,g3,g4,g5,g6⟩:=Gv HP (i:=i) (x:=x) (f:=f) (n0:=h.length) (ck:=s.2) hxi vs s.1 [] K (h++[.dct []]) S2 (aj.set i (some (.ref h.length))) z2 q1 (fun m z=>⟨(o2.f.wS m z).1,ML m z⟩) hn (List.getElem?_set_self il) (fun _=>by rw [List.length_set];exact xl) (fun q hq=>(q2 q hq).1)
 have f2:=o2.f.WC (S':=fun m=>S' m∨m=h.length) hn ML WE nB g3 g4 (fun m z=>.inl (g5 m z)) (fun m z=>by
  rcases z with z | z
  ·exact (g6 m z).imp id .inl
  ·exact .inr (.inr z))
 obtain ⟨f3,l3,r3⟩:=f2.set z3 (d:=.ref h.length) (show Rep h' _ (.dct K) _ from ⟨_,rfl,.inr rfl,g2⟩)
 have q3:∀ {v:V} {d:D},Rep (h++[.dct []]) S2 v d→Rep h' (fun m=>S' m∨m=h.length) v d:=fun q=>q.mono (fun m z=>g4 m (o2.f.wS m z).1 (ML m z)) fun m z=>.inl (g5 m z)
 have fin:∀ {bR:Fr} {nJ:Ev.Fr},bB M1 B h' (fun m=>S' m∨m=h.length) bR nJ→(∀ j,locked bR j=locked mW j)→(∀ j,locked mW j=true→nJ[j]?=aj[j]?)→dW M B h S fr aj M1 h' (fun m=>S' m∨m=h.length) bR nJ:=fun {bR nJ} fz lz rz=>⟨fz,⟨by rw [hl1] at g3;omega,fun m y1 y2=>by
   rw [g4 m (by rw [hl1];omega) (by omega)];exact List.getElem?_append_left y1,fun m z=>.inl (g5 m (o2.tr.sub m (o1.tr.sub m z))),fun m z=>by
   rcases z with z | z
   ·rcases g6 m z with z | z
    ·rcases RE m z with z | z
     ·exact .inl z
     ·exact .inr (.inr z)
    ·rw [hl1] at z;exact .inr (.inl ⟨by omega,z.2⟩)
   ·rw [hl1] at g3;exact .inr (.inl ⟨by omega,by omega⟩),fun m z=>by
   rcases o1.tr.rR m z with z | z
   ·exact .inl z
   ·rw [hl1] at z;exact .inr (by omega)⟩,fun j=>(lz j).trans ((o2.lk j).trans (o1.lk j)),fun j z=>rz j (by rw [o2.lk j,o1.lk j];exact z)⟩
 have RG:∀ nJ,(s.1.getLast?.map fun d=>(aj.set i (some (.ref h.length))).set x (some d)).getD (aj.set i (some (.ref h.length)))=nJ→Ev.ex P' w (.jz i x y f) aj h=.ok (.nx,nJ) h':=fun nJ z=>by
  rw [←z]
  simp only [Ev.ex,e3,Ev.ak]
  exact g1
 rcases vI q1 with ⟨a,b⟩ | ⟨v,d,a,b,c⟩
 ·unfold kr at z4
  rw [a] at z4
  cases z4
  exact ⟨.nx,_,_,_,_,RG _ (by rw [b];rfl),rfl,fin f3 l3 r3⟩
 ·unfold kr at z4
  rw [a] at z4
  obtain ⟨f4,l4,r4⟩:=f3.set z4 (q3 c)
  exact ⟨.nx,_,_,_,_,RG _ (by rw [b];rfl),rfl,fin f4 (fun j=>(l4 j).trans (l3 j)) (fun j z=>(r4 j (by rw [l3 j];exact z)).trans (r3 j z))⟩
theorem IG {i:Nat}{e:E}:nH P P' w (.set i e):=fun {fr g af M B h S aj} z f=>by
 simp only [ex] at z
 replace z:=ah z;obtain ⟨x,ao,z1,z⟩:=z
 by_cases hn:isNew e=true
 ·rw [if_pos hn] at z
  have key:∃ l ds h1 S1,x=.lst l∧aq h1 S1 l ds∧Ev.ev P' e aj h=.ok (.ref h1.length) (h1++[.lst ds])∧Out M B (bK e) h S fr aj h1 S1 ao:=by
   cases e <;> simp only [isNew,Bool.false_eq_true] at hn
   case lst es=>
    simp only [ev] at z1
    replace z1:=ah z1;obtain ⟨l,bG,z2,z1⟩:=z1
    replace z1:=aJ z1;obtain ⟨z1,y0⟩:=z1;subst y0
    unfold er at z1
    split at z1
    case isFalse=>cases z1
    rename_i hk
    cases z1
    obtain ⟨ds,h1,S1,e1,q1,o1⟩:=gq HP es z2 f
    refine ⟨l,ds,h1,S1,rfl,q1.n,?_,o1⟩
    simp only [Ev.ev,e1,Ev.ak,Ev.alloc]
    rw [if_pos (by rw [←q1.n.length];exact hk)]
   case ig it=>
    simp only [ev] at z1
    replace z1:=ah z1;obtain ⟨l,bG,z2,z1⟩:=z1
    replace z1:=aJ z1;obtain ⟨z1,y0⟩:=z1;subst y0
    unfold er at z1
    split at z1
    case isFalse=>cases z1
    rename_i hk
    cases z1
    obtain ⟨s,h1,S1,e1,q1,q2,o1⟩:=j4 HP it z2 f
    refine ⟨l,s.1,h1,S1,rfl,q1,?_,o1⟩
    simp only [Ev.ev,e1,Ev.ak,Ev.alloc]
    rw [if_pos (by rw [←q1.length];exact hk)]
  obtain ⟨l,ds,h1,S1,rfl,q1,e1,o1⟩:=key
  simp only at z
  replace z:=ah z;obtain ⟨bG,gM,z2,z⟩:=z
  replace z2:=aJ z2;obtain ⟨z2,y0⟩:=z2;subst y0
  cases z
  have o2:=o1.f.own z2 q1
  exact ⟨.nx,_,_,_,_,by simp only [Ev.ex,e1,Ev.ak],rfl,o1.s.trans f o2⟩
 ·rw [if_neg hn] at z
  replace z:=ah z;obtain ⟨bG,gM,z2,z⟩:=z
  replace z2:=aJ z2;obtain ⟨z2,y0⟩:=z2;subst y0
  cases z
  obtain ⟨d,h1,S1,e1,q1,o1⟩:=aY HP e z1 f
  obtain ⟨f2,l2,r2⟩:=o1.f.set z2 q1.n
  refine ⟨.nx,_,_,_,_,by simp only [Ev.ex,e1,Ev.ak],rfl,o1.s.trans f ⟨f2,(dW.refl f2).tr,l2,r2⟩⟩
theorem II {l:List Nat}{e:E}:nH P P' w (.zp l e):=fun {fr g af M B h S aj} z f=>by
 simp only [ex] at z
 replace z:=ah z;obtain ⟨x,ao,z1,z⟩:=z
 replace z:=ah z;obtain ⟨bG,gM,z2,z⟩:=z
 replace z2:=aJ z2;obtain ⟨z2,y0⟩:=z2;subst y0
 cases z
 obtain ⟨d,h1,S1,e1,q1,o1⟩:=aY HP e z1 f
 obtain ⟨jC,b1,f2,l2,r2⟩:=o1.f.bz z2 q1.n
 exact ⟨.nx,_,_,_,_,by simp only [Ev.ex,e1,Ev.ak,b1],rfl,o1.s.trans f ⟨f2,(dW.refl f2).tr,l2,r2⟩⟩
theorem MM {e:E}:nH P P' w (.exp e):=fun {fr g af M B h S aj} z f=>by
 simp only [ex] at z
 replace z:=ah z;obtain ⟨x,ao,z1,z⟩:=z
 cases z
 obtain ⟨d,h1,S1,e1,q1,o1⟩:=aY HP e z1 f
 exact ⟨.nx,_,_,_,_,by simp only [Ev.ex,e1,Ev.ak],rfl,o1.s⟩
theorem MN {e:E}:nH P P' w (.ret e):=fun {fr g af M B h S aj} z f=>by
 simp only [ex] at z
 replace z:=ah z;obtain ⟨x,ao,z1,z⟩:=z
 cases z
 obtain ⟨M1,S1,o1⟩:=f.dU
 obtain ⟨d,h2,S2,e1,q1,o2⟩:=aY HP e z1 o1.f
 exact ⟨.ret d,_,_,_,_,by simp only [Ev.ex,e1,Ev.ak],⟨d,rfl,q1.n⟩,o1.trans f o2.s⟩
omit HP in
theorem rS {F:V→Fr→R Fl}{F':D→Ev.Fr→Hh→Ev.R (Ev.Fl×Ev.Fr)}{ck:List (Nat×List D)}{B:Nat→Prop}{M0:Nat→Prop}{h0:Hh}{S0:Nat→Prop}{eK:Fr}{DZ:Ev.Fr}(f0:bB M0 B h0 S0 eK DZ) (st:∀ q∈ck,bh h0 q.1=some q.2∧¬ M0 q.1)
  (turn:∀ v d fr g af M h S aj,F v fr=.ok g af→bB M B h S fr aj→Rep h S v d→∃ g' bT M' h' S',F' d aj h=.ok (g',bT) h'∧iy h' S' g g'∧dW M B h S fr aj M' h' S' af bT) :
  ∀ {vs:List V} {ds:List D} {fr:Fr} {g:Fl} {af:Fr} {M:Nat→Prop} {h:Hh} {S:Nat→Prop} {aj:Ev.Fr},forL F vs fr=.ok g af→dW M0 B h0 S0 eK DZ M h S fr aj→aq h S vs ds→
  ∃ g' bT M' h' S',Ev.forL F' ck ds aj h=.ok (g',bT) h'∧iy h' S' g g'∧dW M0 B h0 S0 eK DZ M' h' S' af bT
 | [],ds,fr,g,af,M,h,S,aj,e,o,q=>by
  simp only [forL] at e;simp only [aq] at q;subst q
  cases e
  refine ⟨.nx,aj,M,h,S,?_,rfl,o⟩
  simp only [Ev.forL]
  rw [if_pos (gY fun x hx=>j3 (st x hx).1 (o.tr.keep _ (nF (st x hx).1) (st x hx).2))]
 | v :: vs,ds,fr,g,af,M,h,S,aj,e,o,q=>by
  simp only [forL] at e
  replace e:=ah e;obtain ⟨p,ao,e1,e⟩:=e
  simp only [aq] at q
  obtain ⟨d,es,rfl,q1,q2⟩:=q
  obtain ⟨g',lX,M2,h2,S2,t1,t2,t3⟩:=turn v d fr p ao M h S aj e1 o.f q1
  have o2:=o.trans f0 t3
  have Gw:Ev.stays h ck=true:=gY fun x hx=>j3 (st x hx).1 (o.tr.keep _ (nF (st x hx).1) (st x hx).2)
  have RH:aq h2 S2 vs es:=q2.mono (fun m z=>t3.tr.keep m (o.f.wS m z).1 (o.f.wS m z).2.1) t3.tr.sub
  cases p with
  | nx=>
   simp only [iy] at t2;subst t2
   simp only at e
   obtain ⟨qu,jC,M3,h3,S3,u1,u2,u3⟩:=rS f0 st turn e o2 RH
   refine ⟨qu,jC,M3,h3,S3,?_,u2,u3⟩
   simp only [Ev.forL]
   rw [if_pos Gw,t1,Ev.ak]
   exact u1
  | ct=>
   simp only [iy] at t2;subst t2
   simp only at e
   obtain ⟨qu,jC,M3,h3,S3,u1,u2,u3⟩:=rS f0 st turn e o2 RH
   refine ⟨qu,jC,M3,h3,S3,?_,u2,u3⟩
   simp only [Ev.forL]
   rw [if_pos Gw,t1,Ev.ak]
   exact u1
  | bk=>
   simp only [iy] at t2;subst t2
   simp only at e
   cases e
   refine ⟨.nx,lX,M2,h2,S2,?_,rfl,o2⟩
   simp only [Ev.forL]
   rw [if_pos Gw,t1,Ev.ak]
  | ret x=>
   simp only [iy] at t2
   obtain ⟨d2,rfl,t2⟩:=t2
   simp only at e
   cases e
   refine ⟨.ret d2,lX,M2,h2,S2,?_,⟨d2,rfl,t2⟩,o2⟩
   simp only [Ev.forL]
   rw [if_pos Gw,t1,Ev.ak]
theorem MO {t:T}{it:It}{b:Ss}(ib:qq P P' w b):nH P P' w (.for t it b):=fun {fr g af M B h S aj} z f=>by
 simp only [ex] at z
 replace z:=ah z;obtain ⟨vs,ao,z1,z⟩:=z
 obtain ⟨M1,S1,o1⟩:=f.walk (itv it)
 obtain ⟨s,h2,S2,e1,q1,q2,o2⟩:=j4 HP it z1 o1.f
 have o3:=o1.trans f o2.s
 obtain ⟨g',bT,M',h',S',u1,u2,u3⟩:=rS (F':=fun d ao h2=>match Ev.bz t d ao with
   | some bG=>Ev.exs P' w b bG h2
   | none=>.bad) (ck:=s.2) o2.f (fun q hq=>⟨(q2 q hq).1,(q2 q hq).2 rfl⟩) (fun v d fr g af M h S aj y f q=>by
  split at y
  ·rename_i bG y1
   obtain ⟨jC,b1,b2,b3,b4⟩:=f.bz y1 q
   rw [b1]
   obtain ⟨g',bT,M',h',S',c1,c2,c3⟩:=ib y b2
   exact ⟨g',bT,M',h',S',c1,c2,(⟨b2,(dW.refl b2).tr,b3,b4⟩:dW M _ h S fr aj M h S bG jC).trans f c3⟩
  ·cases y) z (dW.refl o2.f) q1
 refine ⟨g',bT,M',h',S',?_,u2,o3.trans f u3⟩
 simp only [Ev.ex,e1,Ev.ak]
 exact u1
theorem vJ {t:E}{b:Ss}(ib:qq P P' w b):∀ (n:Nat) {fr:Fr}{g:Fl}{af:Fr}{M B:Nat→Prop}{h:Hh}{S:Nat→Prop}{aj:Ev.Fr},ek (fun ao=>aL P t ao) (fun ao=>exs P w b ao) n fr=.ok g af→bB M B h S fr aj→
  ∃ g' bT M' h' S',Ev.ek (fun ao h2=>Ev.aL P' t ao h2) (fun ao h2=>Ev.exs P' w b ao h2) n aj h=.ok (g',bT) h'∧iy h' S' g g'∧dW M B h S fr aj M' h' S' af bT
 | 0,_,_,_,_,_,_,_,_,z,_=>by simp only [ek] at z;cases z
 | n+1,fr,g,af,M,B,h,S,aj,z,f=>by
  simp only [ek] at z
  replace z:=ah z;obtain ⟨k,ao,z1,z⟩:=z
  obtain ⟨h1,S1,e1,o1⟩:=gO HP t z1 f
  cases k with
  | false=>
   simp only [Bool.false_eq_true,if_false] at z
   cases z
   refine ⟨.nx,aj,M,h1,S1,?_,rfl,o1.s⟩
   simp only [Ev.ek,e1,Ev.ak]
   rw [if_neg (by decide)]
  | true=>
   simp only [if_true] at z
   replace z:=ah z;obtain ⟨p,bG,z2,z⟩:=z
   obtain ⟨g',jC,M2,h2,S2,t1,t2,t3⟩:=ib z2 o1.f
   have o2:=o1.s.trans f t3
   cases p with
   | nx=>
    simp only [iy] at t2;subst t2
    simp only at z
    obtain ⟨qu,D0,M3,h3,S3,u1,u2,u3⟩:=vJ ib n z t3.f
    refine ⟨qu,D0,M3,h3,S3,?_,u2,o2.trans f u3⟩
    simp only [Ev.ek,e1,Ev.ak,if_true,t1]
    exact u1
   | ct=>
    simp only [iy] at t2;subst t2
    simp only at z
    obtain ⟨qu,D0,M3,h3,S3,u1,u2,u3⟩:=vJ ib n z t3.f
    refine ⟨qu,D0,M3,h3,S3,?_,u2,o2.trans f u3⟩
    simp only [Ev.ek,e1,Ev.ak,if_true,t1]
    exact u1
   | bk=>
    simp only [iy] at t2;subst t2
    simp only at z
    cases z
    refine ⟨.nx,jC,M2,h2,S2,?_,rfl,o2⟩
    simp only [Ev.ek,e1,Ev.ak,if_true,t1]
   | ret x=>
    simp only [iy] at t2
    obtain ⟨d2,rfl,t2⟩:=t2
    simp only at z
    cases z
    refine ⟨.ret d2,jC,M2,h2,S2,?_,⟨d2,rfl,t2⟩,o2⟩
    simp only [Ev.ek,e1,Ev.ak,if_true,t1]
theorem MP {t:E}{a b:Ss}(ia:qq P P' w a) (ib:qq P P' w b):nH P P' w (.iff t a b):=fun {fr g af M B h S aj} z f=>by
 simp only [ex] at z
 replace z:=ah z;obtain ⟨k,ao,z1,z⟩:=z
 obtain ⟨h1,S1,e1,o1⟩:=gO HP t z1 f
 cases k with
 | true=>
  simp only [if_true] at z
  obtain ⟨g',bT,M',h',S',c1,c2,c3⟩:=ia z o1.f
  exact ⟨g',bT,M',h',S',by simp only [Ev.ex,e1,Ev.ak,if_true,c1],c2,o1.s.trans f c3⟩
 | false=>
  simp only [Bool.false_eq_true,if_false] at z
  obtain ⟨g',bT,M',h',S',c1,c2,c3⟩:=ib z o1.f
  exact ⟨g',bT,M',h',S',by simp only [Ev.ex,e1,Ev.ak];rw [if_neg (by decide)];exact c1,c2,o1.s.trans f c3⟩
mutual
theorem Px:∀ s:S,nH P P' w s
 | .set _ _=>IG HP
 | .zp _ _=>II HP
 | .dput _ _ _=>fun z _=>by simp only [ex] at z;cases z
 | .pN _ _=>fun z _=>by simp only [ex] at z;cases z
 | .jz _ _ _ _=>IF HP
 | .exp _=>MM HP
 | .ret _=>MN HP
 | .iff _ a b=>MP HP (kW a) (kW b)
 | .for _ _ b=>MO HP (kW b)
 | .m7 _ b=>fun z f=>by
  simp only [ex] at z
  obtain ⟨g',bT,M',h',S',c1,c2,c3⟩:=vJ HP (kW b) w z f
  exact ⟨g',bT,M',h',S',by simp only [Ev.ex];exact c1,c2,c3⟩
 | .fL=>fun z _=>by simp only [ex] at z;cases z
theorem kW:∀ s:Ss,qq P P' w s
 | .nil=>fun z f=>by simp only [exs] at z;cases z;exact ⟨.nx,_,_,_,_,by simp only [Ev.exs],rfl,.refl f⟩
 | .cons s ss=>fun z f=>by
  simp only [exs] at z
  replace z:=ah z;obtain ⟨p,ao,z1,z⟩:=z
  obtain ⟨g',lX,M2,h2,S2,t1,t2,t3⟩:=Px s z1 f
  cases p with
  | nx=>
   simp only [iy] at t2;subst t2
   simp only at z
   obtain ⟨qu,jC,M3,h3,S3,u1,u2,u3⟩:=kW ss z t3.f
   exact ⟨qu,jC,M3,h3,S3,by simp only [Ev.exs,t1,Ev.ak,u1],u2,t3.trans f u3⟩
  | ct=>
   simp only [iy] at t2;subst t2
   simp only at z
   cases z
   exact ⟨.ct,lX,M2,h2,S2,by simp only [Ev.exs,t1,Ev.ak],rfl,t3⟩
  | bk=>
   simp only [iy] at t2;subst t2
   simp only at z
   cases z
   exact ⟨.bk,lX,M2,h2,S2,by simp only [Ev.exs,t1,Ev.ak],rfl,t3⟩
  | ret x=>
   simp only [iy] at t2
   obtain ⟨d2,rfl,t2⟩:=t2
   simp only at z
   cases z
   exact ⟨.ret d2,lX,M2,h2,S2,by simp only [Ev.exs,t1,Ev.ak],⟨d2,rfl,t2⟩,t3⟩
end
end
theorem rT {h:Hh}{S:Nat→Prop}{B:Nat→Prop}{h0:Hh}{S0:Nat→Prop}:∀ {sl:List Sl}{ds:List D}{cs:Fr},sl.length=ds.length→
  (∀ (a:Nat) s d,sl[a]?=some s→ds[a]?=some d→kP B B h0 S0 (some s) (some d)∧locked cs a=yv (some s)∧(yv (some s)=true→∃ m es l s',d=.ref m∧h[m]?=some (.lst es)∧aq h S l es∧cs[a]?=some (some s')∧s'.out=some l))→nv h S sl ds ((cs.take sl.length).filterMap fun o=>o.bind Sl.out)
 | [],ds,cs,_,_=>by simp [nv]
 | s :: sl,[],cs,hl,_=>by simp at hl
 | s :: sl,d :: ds,[],hl,q=>by
  have ih:=rT (h:=h) (S:=S) (sl:=sl) (ds:=ds) (cs:=[]) (by simpa using hl) fun a s' d' e1 e2=>by
   obtain ⟨w1,w2,w3⟩:=q (a+1) s' d' (by simpa using e1) (by simpa using e2)
   exact ⟨w1,by simpa [locked] using w2,fun z=>by obtain ⟨_,_,_,_,_,_,_,y,_⟩:=w3 z;simp at y⟩
  obtain ⟨w1,w2,w3⟩:=q 0 s d (by simp) (by simp)
  cases s with
  | val v=>simp at ih ⊢;exact ⟨d,ds,rfl,ih⟩
  | own l=>exact absurd w1 (by rintro ⟨m,es,e,q,_⟩;exact q.2 q.1)
  | bor l=>obtain ⟨_,_,_,_,_,_,_,y,_⟩:=w3 rfl;simp at y
  | ro l=>obtain ⟨_,_,_,_,_,_,_,y,_⟩:=w3 rfl;simp at y
 | s :: sl,d :: ds,o :: cs,hl,q=>by
  have ih:=rT (h:=h) (S:=S) (sl:=sl) (ds:=ds) (cs:=cs) (by simpa using hl) fun a s' d' e1 e2=>by
   obtain ⟨w1,w2,w3⟩:=q (a+1) s' d' (by simpa using e1) (by simpa using e2)
   exact ⟨w1,by simpa [locked] using w2,fun z=>by simpa using w3 z⟩
  obtain ⟨w1,w2,w3⟩:=q 0 s d (by simp) (by simp)
  cases s with
  | val v=>
   have:o.bind Sl.out=none:=by
    simp [locked] at w2
    rcases o with _ | s
    ·rfl
    ·cases s <;> first | rfl | cases w2
   simp only [List.length_cons,List.take_succ_cons,List.filterMap_cons,this]
   exact ⟨d,ds,rfl,ih⟩
  | own l=>exact absurd w1 (by rintro ⟨m,es,e,q,_⟩;exact q.2 q.1)
  | bor l=>
   obtain ⟨m,es,l',s',a1,a2,a3,a4,a5⟩:=w3 rfl
   simp at a4;subst a4
   simp only [List.length_cons,List.take_succ_cons,List.filterMap_cons,Option.bind,a5]
   exact ⟨d,ds,l',_,m,es,rfl,rfl,a1,a2,a3,ih⟩
  | ro l=>
   obtain ⟨m,es,l',s',a1,a2,a3,a4,a5⟩:=w3 rfl
   simp at a4;subst a4
   simp only [List.length_cons,List.take_succ_cons,List.filterMap_cons,Option.bind,a5]
   exact ⟨d,ds,l',_,m,es,rfl,rfl,a1,a2,a3,ih⟩
theorem B6 (F:List Fn) (w:Nat):∀ n,qj (run F w n) (Ev.run F w n)
 | 0=>fun f sl v os e=>by simp [run] at e
 | n+1=>fun f sl v os e h S B ds F0=>by
  have HP:=B6 F w n
  simp only [run] at e
  cases z:F[f]? with
  | none=>rw [z] at e;cases e
  | some fn=>
  rw [z] at e
  simp only at e
  split at e
  case isFalse=>cases e
  rename_i hl
  have hlen:sl.length=ds.length:=by have:=F0.len;simpa using this
  have f1:bB B B h S (eK fn sl) (Ev.eK fn ds):=by
   unfold eK Ev.eK
   have sp:∀ (i:Nat) o,(sl.map some++List.replicate (fn.ns - fn.np) none)[i]?=some o→(sl.map some)[i]?=some o∨(sl.length≤i∧o=none):=fun i o y=>by
    by_cases hi:i<sl.length
    ·rw [List.getElem?_append_left (by simpa using hi)] at y;exact .inl y
    ·rw [List.getElem?_append_right (by simpa using hi)] at y
     have:=List.mem_of_getElem? y
     exact .inr ⟨by omega,(List.mem_replicate.mp this).2⟩
   have lo:∀ (i:Nat) p,i<sl.length→(ds.map some++List.replicate (fn.ns - fn.np) none)[i]?=some p→(ds.map some)[i]?=some p:=fun i p hi y=>by
    rw [List.getElem?_append_left (by simpa [←hlen] using hi)] at y;exact y
   refine ⟨F0.wS,F0.wM,F0.wB,by simp [hlen],fun i o p y1 y2=>?_,fun i j o o' m y1 y2 y3 y4 y5 y6=>?_⟩
   ·rcases sp i o y1 with y1 | ⟨hi,rfl⟩
    ·have hi:i<sl.length:=by have:=(List.getElem?_eq_some_iff.mp y1).1;simpa using this
     exact F0.sl i o p y1 (lo i p hi y2)
    ·rw [List.getElem?_append_right (by simpa [←hlen] using hi)] at y2
     have:=List.mem_of_getElem? y2
     exact (List.mem_replicate.mp this).2
   ·rcases sp i o y1 with y1 | ⟨hi,rfl⟩
    ·rcases sp j o' y2 with y2 | ⟨hj,rfl⟩
     ·have hi:i<sl.length:=by have:=(List.getElem?_eq_some_iff.mp y1).1;simpa using this
      have hj:j<sl.length:=by have:=(List.getElem?_eq_some_iff.mp y2).1;simpa using this
      exact F0.inj i j o o' m y1 y2 y3 y4 (lo i _ hi y5) (lo j _ hj y6)
     ·cases y4
    ·cases y3
  have fin:∀ {g:Fl} {af:Fr},exs (run F w n) w fn.body (eK fn sl)=.ok g af→∃ g' bT M' h' S',Ev.exs (Ev.run F w n) w fn.body (Ev.eK fn ds) h=.ok (g',bT) h'∧iy h' S' g g'∧Tk B h S h' S'∧nv h' S' sl ds (outs fn.np af):=fun {g af} y=>by
   obtain ⟨g',bT,M',h',S',c1,c2,c3⟩:=kW HP fn.body y f1
   refine ⟨g',bT,M',h',S',c1,c2,⟨c3.tr.len,fun m y1 y2=>c3.tr.keep m y1 y2,c3.tr.sub,fun m q=>?_⟩,?_⟩
   ·rcases c3.tr.new m q with q | q | q
    ·exact .inl q
    ·exact .inr q
    ·exact absurd q.1 q.2
   ·unfold outs
    rw [←hl]
    refine rT (B:=B) (h0:=h) (S0:=S) hlen fun a s d e1 e2=>?_
    have ha:a<sl.length:=(List.getElem?_eq_some_iff.mp e1).1
    have h0:(eK fn sl)[a]?=some (some s):=by unfold eK;rw [List.getElem?_append_left (by simpa using ha)];simp [e1]
    have hlk:locked af a=yv (some s):=by rw [c3.lk a];unfold locked;rw [h0]
    refine ⟨F0.sl a _ _ (by simp [e1]) (by simp [e2]),hlk,fun hk=>?_⟩
    have hr:=c3.rf a (by unfold locked;rw [h0];exact hk)
    have hd:(Ev.eK fn ds)[a]?=some (some d):=by unfold Ev.eK;rw [List.getElem?_append_left (by simpa [←hlen] using ha)];simp [e2]
    rw [hd] at hr
    cases y2:af[a]? with
    | none=>unfold locked at hlk;rw [y2] at hlk;rw [←hlk] at hk;cases hk
    | some o=>
     have sr:=c3.f.sl a _ _ y2 hr
     unfold locked at hlk
     rw [y2,hk] at hlk
     rcases o with _ | s'
     ·cases hlk
     ·cases s' with
      | val v=>cases hlk
      | own l=>cases hlk
      | bor l=>obtain ⟨m,es,e,_,k1,k2⟩:=sr;cases e;exact ⟨m,es,l,_,rfl,k1,k2,rfl,rfl⟩
      | ro l=>obtain ⟨m,es,e,_,k1,k2⟩:=sr;cases e;exact ⟨m,es,l,_,rfl,k1,k2,rfl,rfl⟩
  simp only [Ev.run,z]
  have hl':ds.length=fn.np:=by omega
  rw [if_pos hl']
  split at e
  ·rename_i v' af y
   cases e
   obtain ⟨g',bT,M',h',S',c1,c2,c3,c4⟩:=fin y
   simp only [iy] at c2
   obtain ⟨d,rfl,c2⟩:=c2
   exact ⟨d,h',S',by simp only [Ev.endOf,c1,Ev.ak],c2,c3,c4⟩
  ·rename_i af y
   cases e
   obtain ⟨g',bT,M',h',S',c1,c2,c3,c4⟩:=fin y
   simp only [iy] at c2
   subst c2
   exact ⟨.aP,h',S',by simp only [Ev.endOf,c1,Ev.ak],rfl,c3,c4⟩
  ·obtain ⟨rfl,l,k,rfl,e1,rfl,rfl⟩:=Ms e
   obtain ⟨d,rfl⟩:∃ d,ds=[d]:=by cases ds with | nil=>simp at hlen | cons d ds=>cases ds with | nil=>exact ⟨d,rfl⟩ | cons _ _=>simp at hlen
   obtain ⟨d',ed,q⟩:=F0.sl 0 _ _ rfl rfl
   cases ed
   have r:=Mr (w:=w) (n:=n) z q e1
   simp only [Ev.run,z] at r
   rw [if_pos hl'] at r
   refine ⟨_,_,fun m=>S m∨m=h.length,r,⟨h.length,rfl,.inr rfl,by simp⟩,⟨by simp,fun m y1 _=>by rw [List.getElem?_append_left y1],fun m q=>.inl q,fun m q=>?_⟩,?_⟩
   ·rcases q with q | rfl
    ·exact .inl q
    ·exact .inr ⟨Nat.le_refl _,by simp⟩
   ·exact ⟨d,[],rfl,rfl⟩
end Pv
namespace Pv
open Ev (D O Hh Fn)
theorem IJ {F:List Fn}{w n f:Nat}{ns:List Int}(e:run F w n f [.val (.bR (ns.map V.int))]=some (.bl true,[])):∃ h',Ev.run F w n f [.ref 0] [.bR (ns.map D.int)]=.ok (.bl true) h':=by
 have F0:bB (fun _=>False) (fun _=>False) [O.bR (ns.map D.int)] (fun m=>m=0) ([Sl.val (.bR (ns.map V.int))].map some) ([D.ref 0].map some):=by
  refine ⟨fun m q=>⟨by subst q;simp,id,id⟩,fun m q=>q.elim,fun m q=>q.elim,rfl,fun i o p y1 y2=>?_,fun i j o o' m y1 y2 y3 y4 y5 y6=>?_⟩
  ·cases i with
   | zero=>
    simp at y1 y2;subst y1 y2
    refine ⟨.ref 0,rfl,?_⟩
    simp only [Rep]
    exact ⟨0,_,rfl,rfl,rfl,aq.map (f:=V.int) (g:=D.int) (fun _=>by simp [Rep]) ns⟩
   | succ i=>simp at y1
  ·cases i with
   | zero=>simp at y1;subst y1;cases y3
   | succ i=>simp at y1
 obtain ⟨d,h',S',a,b,_,_⟩:=B6 F w n f _ _ _ e _ _ _ _ F0
 simp only [Rep] at b
 subst b
 exact ⟨h',a⟩
end Pv
namespace Pv
open Ev (D bU bQ TY BI ME T E Es Eo It S Ss Fn big deep b2i rep cC dP bP aS cut cR eF slots)
theorem cz {n:Nat}(h:n≤100000):n≤big:=Nat.le_trans h (by decide)
section
variable {i j:Int}{a b:List Nat}{x y:List V}{d e:V}{m n:Nat}{k l:Bool}
theorem eU (h:x.length≤big):er x=some (.lst x):=by simp [er,h]
theorem jl (h:x.length≤big):jZ x=some (.tup x):=by simp [jZ,h]
@[simp] theorem lY:er []=some (.lst []):=eU (cz (by simp))
@[simp] theorem Py:jZ []=some (.tup []):=jl (cz (by simp))
@[simp] theorem Gx {a}:er [a]=some (.lst [a]):=eU (cz (by simp))
@[simp] theorem zP {a}:jZ [a]=some (.tup [a]):=jl (cz (by simp))
@[simp] theorem zQ {a b}:er [a,b]=some (.lst [a,b]):=eU (cz (by simp))
@[simp] theorem zR {a b}:jZ [a,b]=some (.tup [a,b]):=jl (cz (by simp))
@[simp] theorem Pz {a b c}:jZ [a,b,c]=some (.tup [a,b,c]):=jl (cz (by simp))
@[simp] theorem ez:bZ .add (.int i) (.int j)=some (.int (i+j)):=nd rfl
theorem vK (h:a.length+b.length≤100000):bZ .add (.str a) (.str b)=some (.str (a++b)):=by delta bZ;dsimp only;simp [cz h]
theorem D3 (h:x.length+y.length≤100000):bZ .add (.tup x) (.tup y)=some (.tup (x++y)):=by delta bZ;dsimp only;simp [cz h]
theorem D4 (h:x.length+y.length≤100000):bZ .add (.lst x) (.lst y)=some (.lst (x++y)):=by delta bZ;dsimp only;simp [eU (cz (show (x++y).length≤100000 by simpa using h))]
@[simp] theorem D5:bZ .sub (.int i) (.int j)=some (.int (i - j)):=nd rfl
@[simp] theorem pT:bZ .mul (.int i) (.int j)=if cC i j then some (.int (i*j)) else none:=nd rfl
theorem D6 (h0:0≤j) (h1:j≤1000) (h2:a.length≤1000):bZ .mul (.str a) (.int j)=some (.str (rep j.toNat a)):=by delta bZ;dsimp only;simp [h0,h1,h2]
@[simp] theorem D7:bZ .fdiv (.int i) (.int j)=if 0<j∧j<1073741824 then some (.int (i / j)) else none:=nd rfl
@[simp] theorem IK:bZ .mod (.int i) (.int j)=if 0<j then some (.int (i % j)) else none:=nd rfl
@[simp] theorem nK:cop .ne d e=(dm deep d e).map (!·):=nd rfl
@[simp] theorem MQ:dm (n+1) (.int i) (.int j)=some (decide (i=j)):=by show some (i==j)=_;by_cases h:i=j <;> simp [h]
@[simp] theorem MR:dm (n+1) (.str a) (.str b)=some (decide (a=b)):=by show some (a==b)=_;by_cases h:a=b <;> simp [h]
@[simp] theorem MS:dm (n+1) (.bl k) (.bl l)=some (decide (k=l)):=by cases k <;> cases l <;> rfl
@[simp] theorem WG:dm (n+1) (.str a) (.int i)=some false:=nd rfl
@[simp] theorem WH:dm (n+1) (.int i) (.str a)=some false:=nd rfl
@[simp] theorem WI:dm (n+1) (.tup x) (.tup y)=cJ (dm n) x y:=nd rfl
@[simp] theorem yC:dm deep (.int i) (.int j)=some (decide (i=j)):=MQ
@[simp] theorem rW:dm deep (.str a) (.str b)=some (decide (a=b)):=MR
@[simp] theorem IL:dm deep (.bl k) (.bl l)=some (decide (k=l)):=MS
@[simp] theorem IM:dm deep (.tup x) (.tup y)=cJ (dm (18+1)) x y:=nd rfl
@[simp] theorem IP:dm deep (.lst x) (.lst y)=cJ (dm (18+1)) x y:=nd rfl
@[simp] theorem IQ {f:V→V→Option Bool}:cJ f [] []=some true:=nd rfl
@[simp] theorem WJ {f:V→V→Option Bool}:cJ f [] (d :: x)=some false:=nd rfl
@[simp] theorem WK {f:V→V→Option Bool}:cJ f (d :: x) []=some false:=nd rfl
@[simp] theorem UX {f:V→V→Option Bool}:cJ f (d :: x) (e :: y)=(f d e).bind fun b=>(cJ f x y).bind fun c=>some (b&&c):=nd rfl
theorem yD {α:Type} [DecidableEq α] {f:V→V→Option Bool}{g:α→V}(h:∀ a b,f (g a) (g b)=some (decide (a=b))):∀ l m:List α,cJ f (l.map g) (m.map g)=some (decide (l=m))
 | [],[]=>by simp
 | [],_ :: _=>by simp
 | _ :: _,[]=>by simp
 | a :: l,b :: m=>by simp [h,yD h l m]
@[simp] theorem rX:eg (.str a) (.int i)=(bP a i).map fun c=>.str [c]:=nd rfl
@[simp] theorem oG:eg (.lst x) (.int i)=bP x i:=nd rfl
@[simp] theorem jQ {lo hi:Option Int}:iG (.str a) lo hi=some (.str (cut a lo hi)):=nd rfl
theorem len_str (h:a.length≤100000):cS .len [.str a]=some (.int a.length):=by delta cS;dsimp only;simp [cz h]
@[simp] theorem oH:cS .len [.lst x]=some (.int x.length):=nd rfl
@[simp] theorem yE:cS .len [.bR x]=some (.int x.length):=nd rfl
@[simp] theorem yF:cS .all [.lst x]=(boolsOf x).map fun bs=>.bl (bs.all id):=nd rfl
@[simp] theorem IS:cS .sum [.lst x]=(intsOf x).map fun is=>.int is.sum:=nd rfl
@[simp] theorem B7:cS .min [.int i,.int j]=some (.int (if j<i then j else i)):=nd rfl
@[simp] theorem rY:toT (.lst x)=jZ x:=nd rfl
theorem MT (h0:0≤j) (h1:j≤100000):fT [.int j]=some (range 0 j.toNat):=by
 simp only [fT];rw [if_pos ⟨by omega,by omega⟩]
theorem zS {α:Type}(g:α→Int) (l:List α):intsOf (l.map fun x=>.int (g x))=some (l.map g):=by induction l <;> simp [intsOf, *]
theorem qv {α:Type}(g:α→List Nat) (l:List α):strsOf (l.map fun x=>.str (g x))=some (l.map g):=by induction l <;> simp [strsOf, *]
theorem tQ:∀ l:List (List Nat),cR [] l=l.flatten
 | []=>rfl
 | [s]=>by simp [cR]
 | s :: t :: r=>by simp [cR,tQ (t :: r)]
@[simp] theorem WL:truthy (.bl k)=k:=nd rfl
@[simp] theorem VO:truthy (.lst x) = !x.isEmpty:=nd rfl
theorem zT {l:List (List Nat)}(h:l.flatten.length≤100000):fM .join (.str []) [.lst (l.map V.str)]=some (.str l.flatten):=by
 have hs:=qv (fun x=>x) l
 have:(l.map (·.length)).sum≤big:=cz (by rw [←List.length_flatten];exact h)
 simp only [List.map_id'] at hs
 have hs':strsOf (l.map V.str)=some l:=by simpa using qv (fun x=>x) l
 delta fM;dsimp only;simp [o9,hs',tQ,this]
end
theorem iz {α:Type}{f:V→Option (Option V)}(e:α→V) (g:α→V) (l:List α) (h:∀ a∈l,f (e a)=some (some (g a))):cO f (l.map e)=some (l.map g):=by
 induction l with
 | nil=>rfl
 | cons a l ih=>simp only [List.map_cons,cO,h a (by simp),ih fun u hu=>h u (by simp [hu]),Option.bind];rfl
theorem j5 {α:Type}{f:V→Option (Option V)}(e:α→V) (p:α→Bool) (g:α→V) (l:List α) (h:∀ a∈l,f (e a)=some (if p a then some (g a) else none)):cO f (l.map e)=some ((l.filter p).map g):=by
 induction l with
 | nil=>rfl
 | cons a l ih=>
  simp only [List.map_cons,cO,h a (by simp),ih fun u hu=>h u (by simp [hu]),Option.bind]
  cases z:p a <;> simp [z]
noncomputable def Wp {α:Type}(r:R α) (Q:α→Fr→Prop):Prop:=∃ a h,r=.ok a h∧Q a h
section
variable {α β:Type}{Q Q':α→Fr→Prop}
@[simp] theorem qw (a:α) (h:Fr):Wp (.ok a h) Q=Q a h:=propext ⟨fun ⟨_,_,e,q⟩=>by cases e;exact q,fun q=>⟨_,_,rfl,q⟩⟩
@[simp] theorem WM:Wp (.bad:R α) Q=False:=propext ⟨fun q=>(by obtain ⟨_,_,e,_⟩:=q;cases e),False.elim⟩
@[simp] theorem wp_bind (r:R β) (f:β→Fr→R α):Wp (r.bind f) Q=Wp r fun a h=>Wp (f a h) Q:=by cases r <;> simp
theorem Wp.mono {r:R α}(h:Wp r Q) (f:∀ a h,Q a h→Q' a h):Wp r Q':=by
 obtain ⟨a,h',e,q⟩:=h
 exact ⟨a,h',e,f a h' q⟩
end
noncomputable def fl (I Q:Fr→Prop) (X:V→Fr→Prop):Fl→Fr→Prop
 | .nx,fr=>I fr
 | .ct,fr=>I fr
 | .bk,fr=>Q fr
 | .ret v,fr=>X v fr
section
variable {I J:Fr→Prop}{X:V→Fr→Prop}{fr:Fr}{v:V}
@[simp] theorem gm:fl I J X .nx fr=I fr:=nd rfl
end
theorem gb {α:Type}{e:α→V}{f:V→Fr→R Fl}{Q:Fl→Fr→Prop}(I:List α→List α→Fr→Prop) (turn:∀ p a l fr,I p (a :: l) fr→Wp (f (e a) fr) (fl (I (p++[a]) l) (Q .nx) fun v=>Q (.ret v))) (fin:∀ p fr,I p [] fr→Q .nx fr):∀ (l p:List α) (fr:Fr),I p l fr→Wp (forL f (l.map e) fr) Q
 | [],p,fr,i=>by simp only [List.map_nil,forL,qw];exact fin p fr i
 | a :: l,p,fr,i=>by
  simp only [List.map_cons,forL,wp_bind]
  refine (turn p a l fr i).mono fun g h2 q=>?_
  cases g with
  | nx=>exact gb I turn fin l _ h2 q
  | ct=>exact gb I turn fin l _ h2 q
  | bk=>exact (qw _ _).mpr q
  | ret x=>exact (qw _ _).mpr q
theorem yG {f:V→Fr→R Fl}{Q:Fl→Fr→Prop}{lo:Int}{N:Nat}(I:Nat→Fr→Prop) (turn:∀ (k:Nat) fr,k<N→I k fr→Wp (f (.int (lo+(k:Nat))) fr) (fl (I (k+1)) (Q .nx) fun v=>Q (.ret v))) (fin:∀ fr,I N fr→Q .nx fr) {fr:Fr}(i:I 0 fr):Wp (forL f (range lo N) fr) Q:=by
 have h:=gb (e:=fun (k:Nat)=>V.int (lo+k)) (f:=f) (Q:=Q) (fun p l fr=>∃ k,k≤N∧p=List.range k∧p++l=List.range N∧I k fr)
  (fun p a l fr ⟨k,hk,hp,hl,q⟩=>by
   subst hp
   have hlen:=congrArg List.length hl
   simp at hlen
   have ha:a=k:=by
    have:=congrArg (·[k]?) hl
    simp [List.getElem?_append_right] at this
    rw [List.getElem?_range (by omega)] at this
    simpa using this
   subst ha
   refine (turn a fr (by omega) q).mono fun g h2 z=>?_
   cases g with
   | nx=>exact ⟨a+1,by omega,by simp [List.range_succ],by simpa using hl,z⟩
   | ct=>exact ⟨a+1,by omega,by simp [List.range_succ],by simpa using hl,z⟩
   | bk=>exact z
   | ret x=>exact z)
  (fun p fr ⟨k,hk,hp,hl,q⟩=>by
   subst hp
   have hlen:=congrArg List.length hl
   simp at hlen
   subst hlen
   exact fin fr q) (List.range N) [] fr ⟨0,Nat.zero_le _,rfl,by simp,i⟩
 exact h
theorem qx {t:Fr→R Bool}{f:Fr→R Fl}{Q:Fl→Fr→Prop}(I:Nat→Fr→Prop) (turn:∀ k fr,I k fr→Wp (t fr) fun b af=>if b then Wp (f af) (fl (fun ao=>∃ j,j<k∧I j ao) (Q .nx) fun v=>Q (.ret v)) else Q .nx af):∀ (n k:Nat) (fr:Fr),k<n→I k fr→Wp (ek t f n fr) Q
 | 0,k,fr,hk,_=>by omega
 | n+1,k,fr,hk,i=>by
  simp only [ek,wp_bind]
  refine (turn k fr i).mono fun b af q=>?_
  cases b with
  | false=>simpa using q
  | true=>
   simp only [if_true,wp_bind] at q ⊢
   refine q.mono fun g ao z=>?_
   cases g with
   | nx=>obtain ⟨j,hj,z⟩:=z;exact qx I turn n j ao (by omega) z
   | ct=>obtain ⟨j,hj,z⟩:=z;exact qx I turn n j ao (by omega) z
   | bk=>exact (qw _ _).mpr z
   | ret x=>exact (qw _ _).mpr z
noncomputable def fin (fn:Fn) (ds:List Sl):R Fl→Option (V×List (List V))
 | .ok (.ret v) fr=>some (v,outs fn.np fr)
 | .ok .nx fr=>some (.aP,outs fn.np fr)
 | _=>tP fn ds
@[simp] theorem IT {fn:Fn} {ds:List Sl} {v:V} {fr:Fr}:fin fn ds (.ok (.ret v) fr)=some (v,outs fn.np fr):=nd rfl
theorem run_eq {F:List Fn}{w n f:Nat}{ds:List Sl}{fn:Fn}(hf:F[f]?=some fn) (hl:ds.length=fn.np):run F w (n+1) f ds=fin fn ds (exs (run F w n) w fn.body (eK fn ds)):=by
 simp only [run,hf,hl,if_true]
 cases exs (run F w n) w fn.body (eK fn ds) with
 | bad=>rfl
 | ok g fr=>cases g <;> rfl
theorem b7 {F:List Fn}{w n f:Nat}{ds:List Sl}{fn:Fn}{v:V}{os:List (List V)}(hf:F[f]?=some fn) (hl:ds.length=fn.np) (q:Wp (exs (run F w n) w fn.body (eK fn ds)) fun g fr=>g=.ret v∧outs fn.np fr=os):run F w (n+1) f ds=some (v,os):=by
 rw [run_eq hf hl]
 obtain ⟨g,fr,e,rfl,rfl⟩:=q
 rw [e];rfl
section
variable {P:aR}{w:Nat}{fr:Fr}{k:Bool}{a b c:E}{es:Es}{ss sa sb:Ss}{st:S}{lo hi:Eo}{it:It}
@[simp] theorem UY {d:D}:ev P k (.c d) fr=R.of (ofD d) fr:=by rw [ev]
@[simp] theorem UZ {i:Nat}:ev P k (.v i) fr=R.of (lT k fr i) fr:=by rw [ev]
@[simp] theorem MU:ev P k (.tup es) fr=(cj P false es fr).bind fun ds af=>R.of (jZ ds) af:=by rw [ev]
@[simp] theorem MV:ev P k (.lst es) fr=(cj P false es fr).bind fun ds af=>R.of (er ds) af:=by rw [ev]
@[simp] theorem MW {o:bU}:ev P k (.bin o a b) fr=(ev P (kf a (bK b)) a fr).bind fun x af=>(ev P true b af).bind fun y ao=>R.of (bZ o x y) ao:=by rw [ev]
@[simp] theorem MX {o:bQ}:ev P k (.cmp o a b) fr=(ev P (kf a (bK b)) a fr).bind fun x af=>(ev P true b af).bind fun y ao=>R.of ((cop o x y).map .bl) ao:=by rw [ev]
noncomputable def WN:V→Fr→R V:=fun x h1=>match x with
 | .bl b=>.ok (.bl (!b)) h1
 | _=>.bad
@[simp] theorem PB:ev P k (.nt a) fr=(ev P true a fr).bind WN:=by rw [ev];rfl
noncomputable def U0:V→Fr→R V:=fun x h1=>match x with
 | .int i=>.ok (.int (-i)) h1
 | _=>.bad
@[simp] theorem MY:ev P k (.neg a) fr=(ev P true a fr).bind U0:=by rw [ev];rfl
noncomputable def RI (r:Fr→R V):V→Fr→R V:=fun x h1=>match x with
 | .bl true=>r h1
 | .bl false=>.ok (.bl false) h1
 | _=>.bad
@[simp] theorem B8 {k:Bool} {r:Fr→R V}:RI r (.bl k) fr=if k then r fr else .ok (.bl false) fr:=by cases k <;> rfl
@[simp] theorem Gy:ev P k (.an a b) fr=(ev P true a fr).bind (RI fun h1=>ev P k b h1):=by rw [ev];rfl
@[simp] theorem MZ:ev P k (.jD a b c) fr=(aL P a fr).bind fun t af=>if t then ev P k b af else ev P k c af:=by rw [ev]
theorem M4:ev P k (.kh a b) fr=(ev P (kf a (bK b)) a fr).bind fun x af=>(ev P true b af).bind fun y ao=>R.of (pR x y) ao:=by rw [ev]
theorem M5:ev P k (.ki a b c) fr=(ev P (kf a (bK b++bK c)) a fr).bind fun x af=>(ev P (kf b (bK c)) b af).bind fun y ao=>(ev P false c ao).bind fun z bG=>R.of (nq x y z) bG:=by rw [ev]
@[simp] theorem PC:ev P k (.ix a b) fr=(ev P (kf a (bK b)) a fr).bind fun x af=>(ev P true b af).bind fun y ao=>R.of (eg x y) ao:=by rw [ev]
@[simp] theorem PD:ev P k (.sl a lo hi) fr=(ev P (kf a (kI lo++kI hi)) a fr).bind fun x af=>(gi P lo af).bind fun l ao=>(gi P hi ao).bind fun u bG=>R.of (iG x l u) bG:=by rw [ev]
@[simp] theorem PF {f:Nat}:ev P k (.cl f es) fr=(gj P es fr).bind fun as af=>dI P f as af:=by rw [ev]
@[simp] theorem PJ {g:BI}:ev P k (.bi g es) fr=(cj P true es fr).bind fun ds af=>R.of (cS g ds) af:=by rw [ev]
noncomputable def D8 (m:ME) (i:Nat):List V→Fr→R V:=fun ds af=>match af[i]? with
 | some (some (.own l))=>match kq m l ds with
  | some (v,l')=>.ok v (af.set i (some (.own l')))
  | none=>.bad
 | some (some (.bor l))=>match kq m l ds with
  | some (v,l')=>.ok v (af.set i (some (.bor l')))
  | none=>.bad
 | _=>.bad
theorem M6 {m:ME}{i:Nat}(hm:jd m=true):ev P k (.me m (.v i) es) fr=if (lent fr i).isSome then (cj P (BJ m) es fr).bind (D8 m i) else .bad:=by
 rw [ev,if_pos hm]
 unfold j0
 cases z:(lent fr i).isSome <;> simp [z] <;> rfl
theorem M7 {m:ME}(hm:jd m=false):ev P k (.me m a es) fr=(ev P (kf a (gn es)) a fr).bind fun x af=>(cj P true es af).bind fun ds ao=>R.of (fM m x ds) ao:=by rw [ev,hm];rfl
noncomputable def lZ (P:aR) (elt:E) (t:T) (cond:Eo) (fr:Fr):V→Option (Option V):=fun d=>match bz t d (tO fr) with
 | none=>none
 | some ao=>match iH P cond ao with
  | .ok c _=>if c then (match ev P false elt ao with | .ok x _=>some (some x) | .bad=>none) else some none
  | .bad=>none
@[simp] theorem rL {elt:E} {t:T} {cond:Eo}:ev P k (.comp elt t it cond) fr=(cF P true it fr).bind fun s af=>if undef t af then R.of ((cO (lZ P elt t cond af) s).bind er) af else .bad:=by rw [ev];rfl
@[simp] theorem M8:ev P k (.ig it) fr=(cF P true it fr).bind fun s af=>R.of (er s) af:=by rw [ev]
@[simp] theorem IU {kvs:List (D×D)}:ev P k (.jy kvs a) fr=(ev P true a fr).bind fun x af=>R.of (fk x kvs) af:=by rw [ev]
@[simp] theorem M9:ev P k (.iT a) fr=(ev P true a fr).bind fun x af=>R.of (toT x) af:=by rw [ev]
@[simp] theorem IV:cj P k .nil fr=.ok [] fr:=by rw [cj]
@[simp] theorem D9:cj P k (.cons a es) fr=(ev P (k&&kf a (gn es)) a fr).bind fun d af=>(cj P k es af).bind fun ds ao=>.ok (d :: ds) ao:=by rw [cj]
@[simp] theorem IW:gj P .nil fr=.ok [] fr:=by rw [gj]
noncomputable def zU (P:aR) (a:E) (es:Es) (fr:Fr):Option Nat→R (List (Nat ⊕ V))
 | some i=>(gj P es fr).bind fun r af=>.ok (.inl i :: r) af
 | none=>(ev P false a fr).bind fun d af=>(gj P es af).bind fun r ao=>.ok (.inr d :: r) ao
@[simp] theorem zV {i:Nat}:zU P a es fr (some i)=(gj P es fr).bind fun r af=>.ok (.inl i :: r) af:=nd rfl
@[simp] theorem zW:zU P a es fr none=(ev P false a fr).bind fun d af=>(gj P es af).bind fun r ao=>.ok (.inr d :: r) ao:=nd rfl
@[simp] theorem vL:gj P (.cons a es) fr=zU P a es fr (j0 fr a):=by rw [gj];cases j0 fr a <;> rfl
@[simp] theorem Na:gi P .no fr=.ok none fr:=by rw [gi]
@[simp] theorem IX:gi P (.yes a) fr=(ev P true a fr).bind fun d af=>R.of ((intOf d).map some) af:=by rw [gi]
@[simp] theorem Nb:iH P .no fr=.ok true fr:=by rw [iH]
@[simp] theorem IY:iH P (.yes a) fr=aL P a fr:=by rw [iH]
@[simp] theorem B9:aL P (.an a b) fr=(aL P a fr).bind fun k af=>if k then aL P b af else .ok false af:=by rw [aL]
@[simp] theorem yH:aL P (.orr a b) fr=(aL P a fr).bind fun k af=>if k then .ok true af else aL P b af:=by rw [aL]
@[simp] theorem Nc:aL P (.nt a) fr=(aL P a fr).bind fun k af=>.ok (!k) af:=by rw [aL]
noncomputable def Nd:V→Fr→R Bool:=fun x af=>.ok (truthy x) af
@[simp] theorem IZ {x:V}:Nd x fr=.ok (truthy x) fr:=nd rfl
@[simp] theorem I0:cF P k (.seq a) fr=(src k fr a (ev P k a fr)).bind fun x af=>R.of (fS x) af:=by rw [cF]
@[simp] theorem Ja:cF P k (.g8 es) fr=(cj P true es fr).bind fun ds af=>R.of (fT ds) af:=by rw [cF]
@[simp] theorem Jb:cF P k (.rev a) fr=(ev P true a fr).bind fun x af=>R.of ((zN x).map fun s=>s.reverse) af:=by rw [cF]
noncomputable def Nf (i:Nat) (af:Fr):V→R Fl
 | .lst l=>(R.of (put af i (.own l)) af).bind fun ao _=>.ok .nx ao
 | _=>.bad
@[simp] theorem Ea {i:Nat} {l:List V}:Nf i fr (.lst l)=(R.of (put fr i (.own l)) fr).bind fun ao _=>.ok .nx ao:=nd rfl
@[simp] theorem Ca {i:Nat}:ex P w (.set i a) fr=(ev P false a fr).bind fun x af=>if isNew a then Nf i af x else (R.of (put af i (.val x)) af).bind fun ao _=>.ok .nx ao:=by
 rw [ex];rfl
@[simp] theorem Ng:ex P w (.exp a) fr=(ev P true a fr).bind fun _ af=>.ok .nx af:=by rw [ex]
@[simp] theorem Nh:ex P w (.ret a) fr=(ev P false a (gE fr)).bind fun x af=>.ok (.ret x) af:=by rw [ex]
@[simp] theorem Ni:ex P w (.iff a sa sb) fr=(aL P a fr).bind fun k af=>if k then exs P w sa af else exs P w sb af:=by rw [ex]
noncomputable def turnF (P:aR) (w:Nat) (t:T) (b:Ss):V→Fr→R Fl:=fun d ao=>match bz t d ao with
 | some bG=>exs P w b bG
 | none=>.bad
@[simp] theorem uY {t:T}:ex P w (.for t it ss) fr=(cF P false it (lS (itv it) fr)).bind fun s af=>forL (turnF P w t ss) s af:=by rw [ex];rfl
theorem Jc {i x y f:Nat}:ex P w (.jz i x y f) fr=if i≠y∧x≠i∧i<fr.length∧x<fr.length then (cF P false (.seq (.v y)) (lS [y] fr)).bind fun vs af=>(R.of (lU P f vs []) af).bind fun k ao=>(R.of (put ao i (.val (.dct k))) ao).bind fun bG _=>(R.of (kr bG x vs) bG).bind fun gM _=>.ok .nx gM else .bad:=by rw [ex]
@[simp] theorem Nj:ex P w (.m7 a ss) fr=ek (fun ao=>aL P a ao) (fun ao=>exs P w ss ao) w fr:=by rw [ex]
@[simp] theorem Jd:exs P w .nil fr=.ok .nx fr:=by rw [exs]
noncomputable def PK (P:aR) (w:Nat) (ss:Ss):Fl→Fr→R Fl:=fun p h1=>match p with
 | .nx=>exs P w ss h1
 | p=>.ok p h1
@[simp] theorem Eb:exs P w (.cons st ss) fr=(ex P w st fr).bind (PK P w ss):=by rw [exs];rfl
end
theorem nL {P:aR}{f:Nat}{vs:List V}{fr:Fr}{v:V}(h:P f (vs.map .val)=some (v,[])):dI P f (vs.map .inr) fr=.ok v fr:=by
 have h1:∀ vs:List V,bV (vs.map .inr)=[]:=fun vs=>by induction vs <;> simp [bV, *]
 have h2:∀ vs:List V,args fr (vs.map .inr)=some (vs.map .val):=fun vs=>by induction vs <;> simp [args, *]
 simp [dI,h1,h2,h,back]
section
variable {P:aR}{f:Nat}{fr:Fr}{a b c d v:V}
theorem bY (h:P f [.val a]=some (v,[])):dI P f [.inr a] fr=.ok v fr:=nL (vs:=[a]) h
theorem call2 (h:P f [.val a,.val b]=some (v,[])):dI P f [.inr a,.inr b] fr=.ok v fr:=nL (vs:=[a,b]) h
theorem fy (h:P f [.val a,.val b,.val c]=some (v,[])):dI P f [.inr a,.inr b,.inr c] fr=.ok v fr:=nL (vs:=[a,b,c]) h
end
end Pv
namespace Pv
open Ev (D bU bQ TY BI ME T E Es Eo It S Ss Fn big deep b2i rep cC dP bP aS cut cR eF slots)
section
variable {fr:Fr}{i j:Nat}{k:Bool}{s:Sl}{v u:V}{l:List V}{o:Option Sl}
noncomputable def Xx (k:Bool):Option (Option Sl)→Option V
 | some (some (.val v))=>some v
 | some (some (.own l))=>if k then some (.lst l) else none
 | some (some (.bor l))=>if k then some (.lst l) else none
 | some (some (.ro l))=>if k then some (.lst l) else none
 | _=>none
@[simp] theorem PL {r:R V}:src k fr (.v i) r=R.of (vp k fr i) fr:=nd rfl
noncomputable def Nk:Option (Option Sl)→Option Sl
 | some (some s)=>s.lend
 | _=>none
@[simp] theorem yI:lent fr i=Nk fr[i]?:=by unfold lent Nk;split <;> simp_all
@[simp] theorem VP:Nk (some (some (.own l)))=some (.bor l):=nd rfl
noncomputable def Nl (fr:Fr) (i:Nat) (s:Sl):Option (Option Sl)→Option Fr
 | some (some (.bor _))=>none
 | some (some (.ro _))=>none
 | _=>some (fr.set i (some s))
@[simp] theorem Nn:put fr i s=Nl fr i s fr[i]?:=by unfold put Nl;split <;> simp_all
@[simp] theorem zX {l:List Nat} {x:List V}:bz (.many l) (.tup x) fr=cQ l x fr:=nd rfl
@[simp] theorem zY:cQ [] [] fr=some fr:=nd rfl
@[simp] theorem w9 {l:List Nat} {x:List V}:cQ (i :: l) (v :: x) fr=(put fr i (.val v)).bind (cQ l x):=nd rfl
noncomputable def gP (m:ME) (i:Nat) (ds:List V) (fr:Fr):Option (Option Sl)→R V
 | some (some (.own l))=>match kq m l ds with
  | some (v,l')=>.ok v (fr.set i (some (.own l')))
  | none=>.bad
 | some (some (.bor l))=>match kq m l ds with
  | some (v,l')=>.ok v (fr.set i (some (.bor l')))
  | none=>.bad
 | _=>.bad
@[simp] theorem Je {m:ME} {ds:List V}:D8 m i ds fr=gP m i ds fr fr[i]?:=by unfold D8 gP;split <;> simp_all <;> rfl
theorem jR {d:V}(h:l.length<100000):gP .append i [d] fr (some (some (.own l)))=.ok .aP (fr.set i (some (.own (l++[d])))):=by
 simp [gP,kq,Nat.lt_of_lt_of_le h (show 100000≤big by decide)]
theorem Jf {d:V}(h:l.length<100000):gP .append i [d] fr (some (some (.bor l)))=.ok .aP (fr.set i (some (.bor (l++[d])))):=by
 simp [gP,kq,Nat.lt_of_lt_of_le h (show 100000≤big by decide)]
theorem yJ {d:List V}(h:l.length+d.length≤100000):gP .extend i [.lst d] fr (some (some (.own l)))=.ok .aP (fr.set i (some (.own (l++d)))):=by
 simp [gP,kq,cz h]
theorem oJ:gP .pop i [] fr (some (some (.own (l++[v]))))=.ok v (fr.set i (some (.own l))):=by
 simp [gP,kq]
theorem Jg:gP .pop i [] fr (some (some (.bor (l++[v]))))=.ok v (fr.set i (some (.bor l))):=by
 simp [gP,kq]
end
noncomputable def vo (o:Option Sl):Prop:=o=none∨∃ y,o=some (.val y)
theorem vo.none:vo none:=.inl rfl
theorem vo.val {v:V}:vo (some (.val v)):=.inr ⟨v,rfl⟩
theorem Np {fr:Fr}{i:Nat}{s:Sl}{b:Option Sl}(h:vo b):Nl fr i s (some b)=some (fr.set i (some s)):=by rcases h with rfl | ⟨y,rfl⟩ <;> rfl
theorem cP {b:Option Sl}(h:vo b):b.map Sl.dU=b:=by rcases h with rfl | ⟨y,rfl⟩ <;> rfl
noncomputable def PM (f:V→Fr→R Fl) (ds:List V):Fl→Fr→R Fl:=fun p af=>match p with
 | .nx=>forL f ds af
 | .ct=>forL f ds af
 | .bk=>.ok .nx af
 | .ret x=>.ok (.ret x) af
section
variable {f:V→Fr→R Fl}{ds:List V}{d x:V}{fr:Fr}
@[simp] theorem sX:forL f (d :: ds) fr=(f d fr).bind (PM f ds):=nd rfl
end
section
variable {a b c:E}{es:Es}{lo hi:Eo}{it:It}{l:List Nat}
end
theorem kX {α:Type}{l:List α}{i:Int}(h0:0≤i):bP l i=l[i.toNat]?:=by
 unfold bP dP
 rw [if_pos h0]
 split
 ·rfl
 ·rw [List.getElem?_eq_none (by omega)];rfl
@[simp] theorem xS {α:Type} {l:List α} {n:Nat}:bP l (n:Int)=l[n]?:=by rw [kX (by omega)];simp
theorem Nq {α:Type}{l:List α}:bP l (-1:Int)=l.getLast?:=by
 unfold bP dP
 cases l with
 | nil=>rfl
 | cons a l=>
  have h1:¬ (0:Int)≤-1:=by omega
  have h2:-(((a :: l).length:Nat):Int)≤-1:=by simp;omega
  rw [if_neg h1,if_pos h2,List.getLast?_eq_getElem?]
  simp only [Option.bind]
  congr 1
  simp;omega
noncomputable def um:Fn:=⟨2,2,(.cons (.iff (.cmp .eq (.v 0) (.lst .nil)) (.cons (.ret (.bin .mul (.c (.int 7)) (.v 1))) .nil) .nil) (.cons (.ret (.bin .add (.ix (.v 0) (.bin .mod (.v 1) (.bi .len (.cons (.v 0) .nil)))) (.bin .mul (.c (.int 6553)) (.bin .fdiv (.v 1) (.bi .len (.cons (.v 0) .nil)))))) .nil))⟩
noncomputable def vM (c:Nat):Fn:=⟨3,4,(.cons (.set 3 (.bin .mod (.bin .add (.bin .mul (.bin .mod (.cl c (.cons (.v 0) (.cons (.v 1) .nil))) (.c (.int 2147483563))) (.c (.int 69069))) (.bin .mul (.c (.int 104723)) (.bin .add (.v 1) (.c (.int 1))))) (.c (.int 2147483563)))) (.cons (.set 3 (.bin .mod (.bin .add (.bin .mul (.v 3) (.v 3)) (.bin .fdiv (.v 3) (.c (.int 3)))) (.c (.int 2147483399)))) (.cons (.ret (.bin .mod (.bin .fdiv (.bin .mod (.bin .add (.bin .mul (.v 3) (.v 3)) (.bin .fdiv (.v 3) (.c (.int 7)))) (.c (.int 2147483647))) (.c (.int 11))) (.v 2))) .nil)))⟩
noncomputable def uo (ns:List Int) (k:Int):Int:=if ns=[] then 7*k else (ns[(k % ns.length).toNat]?.getD 0)+6553*(k / ns.length)
noncomputable def cT (ns:List Int) (k many:Int):Int:=
 let c:=(uo ns k % 2147483563*69069+104723*(k+1)) % 2147483563
 let c:=(c*c+c / 3) % 2147483399
 (c*c+c / 7) % 2147483647 / 11 % many
theorem kY (ns:List Int) (k:Int) {many:Int}(h:0<many):0≤cT ns k many:=Int.emod_nonneg _ (by omega)
theorem kZ (ns:List Int) (k:Int) {many:Int}(h:0<many):cT ns k many<many:=Int.emod_lt_of_pos _ h
noncomputable def j6 (ns:List Int):V:=.bR (ns.map V.int)
theorem Jh (ns:List Int):cJ (dm (18+1)) (ns.map V.int) []=some (decide (ns=[])):=by cases ns <;> simp
end Pv
namespace Pv
open Ev (D bU bQ TY BI ME T E Es Eo It S Ss Fn big deep b2i rep cC dP bP aS cut cR eF slots)
section
variable {P:aR}{w:Nat}{fr af ao bG gM:Fr}{k b:Bool}{a e c:E}{es:Es}{ss sa sb:Ss}{st:S}{lo hi:Eo}{it:It}{v x y z:V}{vs:List V}{i:Nat}{l:List V}{Q:Fl→Fr→Prop}
theorem br {d:D}(h:ofD d=some v):ev P k (.c d) fr=.ok v fr:=by rw [UY,h];rfl
theorem av (h:lT k fr i=some v):ev P k (.v i) fr=.ok v fr:=by rw [UZ,h];rfl
theorem qy (h:cj P false es fr=.ok vs af) (h2:jZ vs=some v):ev P k (.tup es) fr=.ok v af:=by rw [MU,h,ak,h2];rfl
theorem oK (h:cj P false es fr=.ok vs af) (h2:er vs=some v):ev P k (.lst es) fr=.ok v af:=by rw [MV,h,ak,h2];rfl
theorem b9 {o:bU}(h:ev P (kf a (bK e)) a fr=.ok x af) (h2:ev P true e af=.ok y ao) (h3:bZ o x y=some v):ev P k (.bin o a e) fr=.ok v ao:=by rw [MW,h,ak,h2,ak,h3];rfl
theorem bS {o:bQ}(h:ev P (kf a (bK e)) a fr=.ok x af) (h2:ev P true e af=.ok y ao) (h3:cop o x y=some b):ev P k (.cmp o a e) fr=.ok (.bl b) ao:=by rw [MX,h,ak,h2,ak,h3];rfl
theorem U1 (h:ev P true a fr=.ok (.bl b) af):ev P k (.nt a) fr=.ok (.bl (!b)) af:=by rw [PB,h];rfl
theorem mh {j:Int}(h:ev P true a fr=.ok (.int j) af):ev P k (.neg a) fr=.ok (.int (-j)) af:=by rw [MY,h];rfl
theorem Nr (h:ev P true a fr=.ok (.bl b) af) (h2:b=true→ev P k e af=.ok v ao) (h3:b=false→.bl false=v∧af=ao):ev P k (.an a e) fr=.ok v ao:=by
 rw [Gy,h,ak,B8]
 cases b with
 | true=>exact h2 rfl
 | false=>obtain ⟨rfl,rfl⟩:=h3 rfl;rfl
theorem uq (h:ev P true a fr=.ok (.bl true) af) (h2:ev P k e af=.ok v ao):ev P k (.an a e) fr=.ok v ao:=by rw [Gy,h,ak,B8];exact h2
theorem qz (h:aL P a fr=.ok b af) (h2:b=true→ev P k e af=.ok v ao) (h3:b=false→ev P k c af=.ok v ao):ev P k (.jD a e c) fr=.ok v ao:=by
 rw [MZ,h,ak]
 cases b with
 | true=>exact h2 rfl
 | false=>exact h3 rfl
theorem dN (h:ev P (kf a (bK e)) a fr=.ok x af) (h2:ev P true e af=.ok y ao) (h3:eg x y=some v):ev P k (.ix a e) fr=.ok v ao:=by rw [PC,h,ak,h2,ak,h3];rfl
theorem Gz (h:ev P (kf a (bK e)) a fr=.ok x af) (h2:ev P true e af=.ok y ao) (h3:pR x y=some v):ev P k (.kh a e) fr=.ok v ao:=by rw [M4,h,ak,h2,ak,h3];rfl
theorem GA {z:V}(h:ev P (kf a (bK e++bK c)) a fr=.ok x af) (h2:ev P (kf e (bK c)) e af=.ok y ao) (h3:ev P false c ao=.ok z bG) (h4:nq x y z=some v):ev P k (.ki a e c) fr=.ok v bG:=by rw [M5,h,ak,h2,ak,h3,ak,h4];rfl
theorem U3 {p q:Option Int}(h:ev P (kf a (kI lo++kI hi)) a fr=.ok x af) (h2:gi P lo af=.ok p ao) (h3:gi P hi ao=.ok q bG) (h4:iG x p q=some v):ev P k (.sl a lo hi) fr=.ok v bG:=by rw [PD,h,ak,h2,ak,h3,ak,h4];rfl
theorem aO {f:Nat}{as:List (Nat ⊕ V)}(h:gj P es fr=.ok as af) (h2:dI P f as af=.ok v ao):ev P k (.cl f es) fr=.ok v ao:=by rw [PF,h,ak];exact h2
theorem gr {g:BI}(h:cj P true es fr=.ok vs af) (h2:cS g vs=some v):ev P k (.bi g es) fr=.ok v af:=by rw [PJ,h,ak,h2];rfl
theorem ku {m:ME}(hm:jd m=true) (hl:(lent fr i).isSome=true) (h:cj P (BJ m) es fr=.ok vs af) (h2:gP m i vs af af[i]?=.ok v ao):ev P k (.me m (.v i) es) fr=.ok v ao:=by
 rw [M6 hm,if_pos hl,h,ak,Je];exact h2
theorem zZ {m:ME}(hm:jd m=false) (h:ev P (kf a (gn es)) a fr=.ok x af) (h2:cj P true es af=.ok vs ao) (h3:fM m x vs=some v):ev P k (.me m a es) fr=.ok v ao:=by rw [M7 hm,h,ak,h2,ak,h3];rfl
theorem iM {t:T}{cond:Eo}(h:cF P true it fr=.ok vs af) (hu:undef t af=true) (h2:cO (lZ P a t cond af) vs=some l) (h3:er l=some v):ev P k (.comp a t it cond) fr=.ok v af:=by
 rw [rL,h,ak,if_pos hu,h2]
 show R.of (er l) af=_
 rw [h3];rfl
theorem qA (h:cF P true it fr=.ok vs af) (h2:er vs=some v):ev P k (.ig it) fr=.ok v af:=by rw [M8,h,ak,h2];rfl
theorem Cb {kvs:List (D×D)}(h:ev P true a fr=.ok x af) (h2:fk x kvs=some v):ev P k (.jy kvs a) fr=.ok v af:=by rw [IU,h,ak,h2];rfl
theorem qB (h:ev P true a fr=.ok x af) (h2:toT x=some v):ev P k (.iT a) fr=.ok v af:=by rw [M9,h,ak,h2];rfl
theorem bw:cj P k .nil fr=.ok [] fr:=IV
theorem bg (h:ev P (k&&kf a (gn es)) a fr=.ok v af) (h2:cj P k es af=.ok vs ao):cj P k (.cons a es) fr=.ok (v :: vs) ao:=by rw [D9,h,ak,h2];rfl
theorem aB:gj P .nil fr=.ok [] fr:=IW
theorem az {as:List (Nat ⊕ V)}(hi:j0 fr a=none) (h:ev P false a fr=.ok v af) (h2:gj P es af=.ok as ao):gj P (.cons a es) fr=.ok (.inr v :: as) ao:=by rw [vL,hi,zW,h,ak,h2];rfl
theorem j7 {as:List (Nat ⊕ V)}(hi:j0 fr a=some i) (h2:gj P es fr=.ok as ao):gj P (.cons a es) fr=.ok (.inl i :: as) ao:=by rw [vL,hi,zV,h2];rfl
theorem PN:gi P .no fr=.ok none fr:=Na
theorem Nt {j:Int}(h:ev P true a fr=.ok (.int j) af):gi P (.yes a) fr=.ok (some j) af:=by rw [IX,h];rfl
theorem iN (h:aL P a fr=.ok false af):aL P (.an a e) fr=.ok false af:=by rw [B9,h];rfl
theorem dQ {b2:Bool}(h:aL P a fr=.ok true af) (h2:aL P e af=.ok b2 ao):aL P (.an a e) fr=.ok b2 ao:=by rw [B9,h];exact h2
theorem qC (h:aL P a fr=.ok true af):aL P (.orr a e) fr=.ok true af:=by rw [yH,h];rfl
theorem fY {b2:Bool}(h:aL P a fr=.ok false af) (h2:aL P e af=.ok b2 ao):aL P (.orr a e) fr=.ok b2 ao:=by rw [yH,h];exact h2
theorem jI (h:aL P a fr=.ok b af):aL P (.nt a) fr=.ok (!b) af:=by rw [Nc,h];rfl
noncomputable def plainT:E→Bool
 | .an _ _=>false
 | .orr _ _=>false
 | .nt _=>false
 | _=>true
theorem aD (hp:plainT a=true) (h:ev P true a fr=.ok x af) (h2:truthy x=b):aL P a fr=.ok b af:=by
 have:aL P a fr=(ev P true a fr).bind Nd:=by
  cases a <;> first | (cases hp;done) | (rw [aL];rfl;all_goals (intros;contradiction))
 rw [this,h,ak,IZ,h2]
theorem eB (h:src k fr a (ev P k a fr)=.ok x af) (h2:fS x=some vs):cF P k (.seq a) fr=.ok vs af:=by rw [I0,h,ak,h2];rfl
theorem fD (h:vp k fr i=some v) {r:R V}:src k fr (.v i) r=.ok v fr:=by rw [PL,h];rfl
theorem qD (h:cj P true es fr=.ok vs af) (h2:fT vs=some l):cF P k (.g8 es) fr=.ok l af:=by rw [Ja,h,ak,h2];rfl
theorem qE (h:ev P true a fr=.ok x af) (h2:zN x=some vs):cF P k (.rev a) fr=.ok vs.reverse af:=by rw [Jb,h,ak,h2];rfl
theorem bI (h:ev P false a fr=.ok v af) (hn:isNew a=false) (hp:put af i (.val v)=some ao) (q:Q .nx ao):Wp (ex P w (.set i a) fr) Q:=by
 rw [Ca,h,ak,hn,hp];exact ⟨_,_,rfl,q⟩
theorem gQ (h:ev P false a fr=.ok (.lst l) af) (hn:isNew a=true) (hp:put af i (.own l)=some ao) (q:Q .nx ao):Wp (ex P w (.set i a) fr) Q:=by
 rw [Ca,h,ak,hn,if_pos rfl,Ea,hp];exact ⟨_,_,rfl,q⟩
theorem fC (h:ev P true a fr=.ok v af) (q:Q .nx af):Wp (ex P w (.exp a) fr) Q:=by rw [Ng,h];exact ⟨_,_,rfl,q⟩
theorem bM (h:ev P false a (gE fr)=.ok v af) (q:Q (.ret v) af):Wp (ex P w (.ret a) fr) Q:=by rw [Nh,h];exact ⟨_,_,rfl,q⟩
theorem aM (h:aL P a fr=.ok b af) (h2:b=true→Wp (exs P w sa af) Q) (h3:b=false→Wp (exs P w sb af) Q):Wp (ex P w (.iff a sa sb) fr) Q:=by
 rw [Ni,h,ak]
 cases b with
 | true=>exact h2 rfl
 | false=>exact h3 rfl
theorem aC (q:Q .nx fr):Wp (exs P w .nil fr) Q:=by rw [Jd];exact ⟨_,_,rfl,q⟩
noncomputable def nx (P:aR) (w:Nat) (ss:Ss) (Q:Fl→Fr→Prop):Fl→Fr→Prop
 | .nx,fr=>Wp (exs P w ss fr) Q
 | g,fr=>Q g fr
theorem ai (q:Wp (ex P w st fr) (nx P w ss Q)):Wp (exs P w (.cons st ss) fr) Q:=by
 rw [Eb,wp_bind]
 refine q.mono fun g af z=>?_
 cases g with
 | nx=>exact z
 | bk=>exact ⟨_,_,rfl,z⟩
 | ct=>exact ⟨_,_,rfl,z⟩
 | ret v=>exact ⟨_,_,rfl,z⟩
theorem jJ {t:T}(h:cF P false it (lS (itv it) fr)=.ok vs af) (q:Wp (forL (turnF P w t ss) vs af) Q):Wp (ex P w (.for t it ss) fr) Q:=by rw [uY,h,ak];exact q
theorem Nu {i' x' y' f:Nat}{K:List (Int×List Nat)}(hc:i'≠y'∧x'≠i'∧i'<fr.length∧x'<fr.length) (h:cF P false (.seq (.v y')) (lS [y'] fr)=.ok vs af) (hk:lU P f vs []=some K) (h2:put af i' (.val (.dct K))=some ao) (h3:kr ao x' vs=some bG) (q:Q .nx bG):Wp (ex P w (.jz i' x' y' f) fr) Q:=by
 rw [Jc,if_pos hc,h,ak,hk]
 show Wp ((R.of (put af i' (.val (.dct K))) af).bind _) Q
 rw [h2]
 show Wp ((R.of (kr ao x' vs) ao).bind _) Q
 rw [h3]
 exact ⟨_,_,rfl,q⟩
theorem GB (q:Wp (ek (fun ao=>aL P a ao) (fun ao=>exs P w ss ao) w fr) Q):Wp (ex P w (.m7 a ss) fr) Q:=by rw [Nj];exact q
theorem dR {t:T}{d:V}(hb:bz t d fr=some af) (q:Wp (exs P w ss af) Q):Wp (turnF P w t ss d fr) Q:=by unfold turnF;rw [hb];exact q
theorem lg {t:T}{d:V}(hb:bz t d (tO fr)=some af) (h:ev P false a af=.ok v ao):lZ P a t .no fr d=some (some v):=by
 unfold lZ;rw [hb];dsimp only;rw [Nb];dsimp only;rw [h];rfl
theorem rZ {t:T}{d:V}(hb:bz t d (tO fr)=some af) (h:aL P c af=.ok b ao) (h2:b=true→ev P false a af=.ok v bG):lZ P a t (.yes c) fr d=some (if b then some v else none):=by
 unfold lZ;rw [hb];dsimp only;rw [IY,h];dsimp only
 cases b with
 | true=>rw [h2 rfl];rfl
 | false=>rfl
theorem mj {p q:List Nat}:cop .eq (.str p) (.str q)=some (decide (p=q)):=rW
theorem je {p q:List Nat}:cop .ne (.str p) (.str q)=some (!decide (p=q)):=by rw [nK,rW];rfl
theorem z9 {p q:Int}:cop .eq (.int p) (.int q)=some (decide (p=q)):=yC
theorem ur {p q:Int}:cop .ne (.int p) (.int q)=some (!decide (p=q)):=by rw [nK,yC];rfl
theorem U4 {p q:Int}:cop .lt (.int p) (.int q)=some (decide (p<q)):=rfl
theorem Ec {p q:Int}:cop .gt (.int p) (.int q)=some (decide (q<p)):=rfl
theorem kB {p q:Int}(h:cC p q=true):bZ .mul (.int p) (.int q)=some (.int (p*q)):=by rw [pT,if_pos h]
theorem oM {p q:Int}(h:0<q):bZ .mod (.int p) (.int q)=some (.int (p % q)):=by rw [IK,if_pos h]
theorem uu {p q:Int}(h:0<q) (h2:q<1073741824):bZ .fdiv (.int p) (.int q)=some (.int (p / q)):=by rw [D7,if_pos ⟨h,h2⟩]
end
theorem fE {fr:Fr}{i:Nat}{s:Sl}{o:Option Sl}(e:fr[i]?=some o) (h:vo o):put fr i s=some (fr.set i (some s)):=by rw [Nn,e,Np h]
theorem oN {fr:Fr}{i j:Nat}{u v:V}{a b:Option Sl}(ea:fr[i]?=some a) (ha:vo a) (eb:(fr.set i (some (.val u)))[j]?=some b) (hb:vo b):bz (.many [i,j]) (.tup [u,v]) fr=some ((fr.set i (some (.val u))).set j (some (.val v))):=by
 simp only [zX,w9,zY,fE ea ha,Option.bind,fE eb hb]
theorem bind1 {fr:Fr}{i:Nat}{v:V}{a:Option Sl}(ea:fr[i]?=some a) (ha:vo a):bz (.one i) v fr=some (fr.set i (some (.val v))):=fE ea ha
end Pv
local macro_rules | `(tactic| array_get_dec)=>`(tactic| first
 | exact Pv.bw | exact Pv.aB | exact Pv.PN
 | (apply Pv.av;rfl) | (apply Pv.br;rfl) | apply Pv.b9 | apply Pv.bS | apply Pv.qy | apply Pv.oK | apply Pv.dN | apply Pv.U3 | apply Pv.aO | apply Pv.gr
 | apply Pv.U1 | apply Pv.mh | apply Pv.qB | apply Pv.qA  | (apply Pv.ku rfl rfl) | (apply Pv.zZ rfl) | apply Pv.Cb
 | apply Pv.bg | (apply Pv.az rfl) | (apply Pv.j7 rfl) | apply Pv.Nt | apply Pv.jI | apply Pv.aD rfl
 | exact Pv.Py | exact Pv.zP | exact Pv.zR | exact Pv.Pz | exact Pv.lY | exact Pv.Gx | exact Pv.zQ
 | (with_reducible assumption) | exact Pv.ez | exact Pv.D5 | exact Pv.mj | exact Pv.je | exact Pv.z9 | exact Pv.ur | exact Pv.U4  | exact Pv.Ec
 | (show Pv.truthy _=_;rfl) | (show Pv.eg _ _=some _;rfl) | (show Pv.toT _=some _;rfl) | (show Pv.fk _ _=some _;rfl) | (show Pv.fS _=some _;rfl) | assumption)
namespace Pv
open Ev (D bU bQ TY BI ME T E Es Eo It S Ss Fn big deep b2i rep cC dP bP aS cut cR eF slots)
theorem Nv (a b:Int):cC (a % 2147483563) b=true:=by have h1:=Int.emod_nonneg a (b:=2147483563) (by decide);have h2:=Int.emod_lt_of_pos a (b:=2147483563) (by decide);simp [cC];omega
theorem U5 (a b:Int):cC (a % 2147483399) b=true:=by have h1:=Int.emod_nonneg a (b:=2147483399) (by decide);have h2:=Int.emod_lt_of_pos a (b:=2147483399) (by decide);simp [cC];omega
theorem Nx {l:List V}{j:Int}{v:V}(h:bP l j=some v):eg (.bR l) (.int j)=some v:=h
theorem Ny {l m:List V}:cop .eq (.bR l) (.lst m)=cJ (dm (18+1)) l m:=rfl
theorem Ed {F:List Fn}{w n c:Nat}(hc:F[c]?=some um) {ns:List Int}(hn:ns.length≤63) (k:Int):run F w (n+1) c [.val (j6 ns),.val (.int k)]=some (.int (uo ns k),[]):=by
 refine b7 hc rfl (ai (aM (b:=decide (ns=[])) (aD rfl (bS (av rfl) (oK bw lY) (Ny.trans (Jh ns))) rfl) (fun h=>?_) fun h=>aC ?_))
 ·have h0:=of_decide_eq_true h
  exact ai (bM (b9 (br rfl) (av rfl) (kB rfl)) ⟨by rw [uo,if_pos h0],rfl⟩)
 ·have h0:=of_decide_eq_false h
  have hlen:0<ns.length:=List.length_pos_iff.mpr h0
  have RJ:(0:Int)<(ns.map V.int).length:=by rw [List.length_map];exact Int.natCast_pos.mpr hlen
  have h30:((ns.map V.int).length:Int)<1073741824:=by rw [List.length_map];omega
  have hm0:=Int.emod_nonneg k (b:=(ns.length:Int)) (by omega)
  have hlt:(k % (ns.length:Int)).toNat<ns.length:=by have:=Int.emod_lt_of_pos k (b:=(ns.length:Int)) (by omega);omega
  have hx:bP (ns.map V.int) (k % ((ns.map V.int).length:Int))=some (.int (ns[(k % (ns.length:Int)).toNat]?.getD 0)):=by
   rw [List.length_map,kX hm0,List.getElem?_map,List.getElem?_eq_getElem hlt];rfl
  refine ai (bM (b9 (dN (av rfl) (b9 (av rfl) (gr (bg (av rfl) bw) yE) (oM RJ)) (Nx hx)) (b9 (br rfl) (b9 (av rfl) (gr (bg (av rfl) bw) yE) (uu RJ h30)) (kB rfl)) ez) ⟨?_,rfl⟩)
  rw [uo,if_neg h0,List.length_map]
theorem gu {F:List Fn}{w n c dr:Nat}(hc:F[c]?=some um) (hd:F[dr]?=some (vM c)) {ns:List Int}(hn:ns.length≤63) (k:Int) {many:Int}(hm:0<many):run F w (n+2) dr [.val (j6 ns),.val (.int k),.val (.int many)]=some (.int (cT ns k many),[]):=by
 refine b7 hd rfl (ai (bI (b9 (b9 (b9 (b9 (aO (az rfl (av rfl) (az rfl (av rfl) aB)) (call2 (Ed hc hn k))) (br rfl) (oM (by decide))) (br rfl) (kB (Nv _ _))) (b9 (br rfl) (b9 (av rfl) (br rfl) ez) (kB rfl)) ez) (br rfl) (oM (by decide))) rfl rfl ?_))
 refine ai (bI (b9 (b9 (b9 (av rfl) (av rfl) (kB (Nv _ _))) (b9 (av rfl) (br rfl) (uu (by decide) (by decide))) ez) (br rfl) (oM (by decide))) rfl rfl ?_)
 exact ai (bM (b9 (b9 (b9 (b9 (b9 (av rfl) (av rfl) (kB (U5 _ _))) (b9 (av rfl) (br rfl) (uu (by decide) (by decide))) ez) (br rfl) (oM (by decide))) (br rfl) (uu (by decide) (by decide))) (av rfl) (oM hm)) ⟨rfl,rfl⟩)
noncomputable def fText (dr:Nat):Fn:=⟨3,4,(.cons (.ret (.me .join (.c (.str [])) (.cons (.comp (.ix (.c (.str [97,98,99,32])) (.cl dr (.cons (.v 0) (.cons (.bin .add (.bin .add (.v 1) (.c (.int 1))) (.v 3)) (.cons (.c (.int 4)) .nil))))) (.one 3) (.g8 (.cons (.cl dr (.cons (.v 0) (.cons (.v 1) (.cons (.bin .add (.v 2) (.c (.int 1))) .nil)))) .nil)) .no) .nil))) .nil)⟩
noncomputable def GC (dr:Nat):S:=.iff (.cmp .eq (.cl dr (.cons (.v 0) (.cons (.bin .add (.v 1) (.bin .mul (.c (.int 4)) (.v 4))) (.cons (.c (.int 4)) .nil)))) (.c (.int 0))) (.cons (.set 5 (.bin .mul (.ix (.c (.str [97,98,122])) (.cl dr (.cons (.v 0) (.cons (.bin .add (.bin .add (.v 1) (.bin .mul (.c (.int 4)) (.v 4))) (.c (.int 1))) (.cons (.c (.int 3)) .nil))))) (.bin .add (.c (.int 1)) (.cl dr (.cons (.v 0) (.cons (.bin .add (.bin .add (.v 1) (.bin .mul (.c (.int 4)) (.v 4))) (.c (.int 2))) (.cons (.c (.int 2)) .nil))))))) (.cons (.set 3 (.bin .add (.v 3) (.tup (.cons (.tup (.cons (.c (.str [112,117,116])) (.cons (.v 5) .nil))) .nil)))) .nil)) .nil
noncomputable def GD (dr:Nat):S:=.iff (.cmp .lt (.v 4) (.bi .len (.cons (.v 2) .nil))) (.cons (.set 6 (.cmp .gt (.cl dr (.cons (.v 0) (.cons (.bin .add (.bin .add (.v 1) (.bin .mul (.c (.int 4)) (.v 4))) (.c (.int 3))) (.cons (.c (.int 3)) .nil)))) (.c (.int 0)))) (.cons (.set 3 (.bin .add (.v 3) (.tup (.cons (.jD (.v 6) (.tup (.cons (.c (.str [107,101,101,112])) (.cons (.c (.int 1)) .nil))) (.tup (.cons (.c (.str [100,114,111,112])) (.cons (.ix (.v 2) (.v 4)) .nil)))) .nil)))) .nil)) .nil
noncomputable def Ji (dr:Nat):Fn:=⟨3,7,(.cons (.set 3 (.tup .nil)) (.cons (.for (.one 4) (.g8 (.cons (.bin .add (.bi .len (.cons (.v 2) .nil)) (.c (.int 1))) .nil)) (.cons (GC dr) (.cons (GD dr) .nil))) (.cons (.ret (.v 3)) .nil)))⟩
inductive Pt where
 | keep (n:Nat) | put (s:List Nat) | drop (s:List Nat)
deriving DecidableEq
noncomputable def dX:List Nat:=[107,101,101,112]
noncomputable def mq:List Nat:=[112,117,116]
noncomputable def jK:List Nat:=[100,114,111,112]
noncomputable def Pt.v:Pt→V
 | .keep n=>.tup [.str dX,.int n]
 | .put s=>.tup [.str mq,.str s]
 | .drop s=>.tup [.str jK,.str s]
noncomputable def ay (c:List Pt):V:=.tup (c.map Pt.v)
theorem Nz (n:Nat) (a b:Pt):dm (n+2) a.v b.v=some (decide (a=b)):=by
 cases a <;> cases b <;> simp [Pt.v,dX,mq,jK]
 all_goals omega
theorem Cc (a b:List Pt):dm deep (ay a) (ay b)=some (decide (a=b)):=by
 simp only [ay,IM]
 exact yD (fun a b=>Nz 17 a b) a b
noncomputable def txt (ns:List Int) (at_ most:Int):List Nat:=(List.range (cT ns at_ (most+1)).toNat).map fun (k:Nat)=>[97,98,99,32].getD (cT ns (at_+1+k) 4).toNat 0
theorem Jj (ns:List Int) (at_:Int) {most:Int}(h:0≤most):(txt ns at_ most).length≤most.toNat:=by
 unfold txt
 have h1:=kZ ns at_ (many:=most+1) (by omega)
 have h2:=kY ns at_ (many:=most+1) (by omega)
 simp;omega
theorem getD_at {α:Type}{l:List α}{i:Int}(h0:0≤i) (h1:i<l.length) (d:α):bP l i=some (l.getD i.toNat d):=by
 have:i.toNat<l.length:=by omega
 rw [kX h0];simp [List.getD,List.getElem?_eq_getElem this]
theorem pe {α β:Type}(l:List α) (f:α→β):(l.map fun x=>[f x]).flatten=l.map f:=by induction l <;> simp [*]
theorem Cd (lo:Int) (n:Nat):range lo n=(List.range n).map fun (i:Nat)=>V.int (lo+i):=rfl
section
variable {F:List Fn}{w n c dr t:Nat}(hc:F[c]?=some um) (hd:F[dr]?=some (vM c)) {ns:List Int}(hn:ns.length≤63)
include hc hd hn
theorem Ef (ht:F[t]?=some (fText dr)) (k most:Int) (hm:0≤most) (hm2:most≤1000):run F w (n+3) t [.val (j6 ns),.val (.int k),.val (.int most)]=some (.str (txt ns k most),[]):=by
 have b0:=kY ns k (many:=most+1) (by omega)
 have b1:=kZ ns k (many:=most+1) (by omega)
 have d0:=fun fr=>fy (fr:=fr) (gu (w:=w) (n:=n) hc hd hn k (many:=most+1) (by omega))
 have PU:cO (lZ (run F w (n+2)) (.ix (.c (.str [97,98,99,32])) (.cl dr (.cons (.v 0) (.cons (.bin .add (.bin .add (.v 1) (.c (.int 1))) (.v 3)) (.cons (.c (.int 4)) .nil))))) (.one 3) .no [some (.val (j6 ns)),some (.val (.int k)),some (.val (.int most)),none]) (range 0 (cT ns k (most+1)).toNat)=some (((List.range (cT ns k (most+1)).toNat).map fun (j:Nat)=>[[97,98,99,32].getD (cT ns (k+1+j) 4).toNat 0]).map V.str):=by
  rw [Cd,List.map_map]
  refine iz _ _ _ fun j _=>?_
  have d1:=fun fr=>fy (fr:=fr) (gu (w:=w) (n:=n) hc hd hn (k+1+j) (many:=4) (by decide))
  have ix:eg (.str [97,98,99,32]) (.int (cT ns (k+1+j) 4))=some (.str [[97,98,99,32].getD (cT ns (k+1+j) 4).toNat 0]):=by
   rw [rX,getD_at (l:=[97,98,99,32]) (kY ns (k+1+j) (many:=4) (by decide)) (kZ ns (k+1+j) (many:=4) (by decide)) 0];rfl
  rw [show (0:Int)+(j:Int)=j from Int.zero_add _]
  exact lg rfl (by (repeat (first | array_get_dec | exact d1 _)))
 have hj:=zT (l:=(List.range (cT ns k (most+1)).toNat).map fun (j:Nat)=>[[97,98,99,32].getD (cT ns (k+1+j) 4).toNat 0]) (by rw [pe];simp;omega)
 rw [pe] at hj
 have WO:er (((List.range (cT ns k (most+1)).toNat).map fun (j:Nat)=>[[97,98,99,32].getD (cT ns (k+1+j) 4).toNat 0]).map V.str)=some (.lst _):=eU (cz (by simp;omega))
 have rg:=MT b0 (show cT ns k (most+1)≤100000 by omega)
 refine b7 ht rfl (ai (bM (zZ rfl (br rfl) (bg (iM (qD (by (repeat (first | array_get_dec | exact d0 _))) rg) rfl PU WO) bw) hj) ⟨rfl,rfl⟩))
end
noncomputable def jL (ns:List Int) (at_:Int) (s:List Nat) (k:Nat):List Pt:=
 (if cT ns (at_+4*k) 4=0 then [.put (rep (1+cT ns (at_+4*k+2) 2).toNat [[97,98,122].getD (cT ns (at_+4*k+1) 3).toNat 0])] else [])++
 (match s[k]? with
 | some c=>[if 0<cT ns (at_+4*k+3) 3 then .keep 1 else .drop [c]]
 | none=>[])
noncomputable def fU (ns:List Int) (at_:Int) (s:List Nat) (k:Nat):List Pt:=(List.range k).flatMap (jL ns at_ s)
noncomputable def chg (ns:List Int) (at_:Int) (s:List Nat):List Pt:=fU ns at_ s (s.length+1)
theorem Ce (ns:List Int) (at_:Int) (s:List Nat) (k:Nat):(jL ns at_ s k).length≤2:=by
 unfold jL
 split <;> split <;> simp
theorem jM (ns:List Int) (at_:Int) (s:List Nat) (k:Nat):fU ns at_ s (k+1)=fU ns at_ s k++jL ns at_ s k:=by simp [fU,List.range_succ]
theorem nN (ns:List Int) (at_:Int) (s:List Nat):∀ k,(fU ns at_ s k).length≤2*k
 | 0=>by simp [fU]
 | k+1=>by
  have h1:=Ce ns at_ s k
  have h2:=nN ns at_ s k
  rw [jM,List.length_append]
  omega
theorem NB (i:Int):cC 4 i=true:=by simp [cC]
theorem Aa {a b:List Pt}(h:a.length+b.length≤100000):bZ .add (ay a) (ay b)=some (ay (a++b)):=by
 simp only [ay];rw [D3 (by simpa using h)];simp
theorem Eg {j:Int}{n:Nat}(h:n≤100000) (e:j=n):fT [.int j]=some (range 0 n):=by
 subst e
 rw [MT (by omega) (by omega)]
 rfl
theorem Jk {a:List Pt}{s:List Nat}(h:a.length<100000):bZ .add (ay a) (.tup [.tup [.str [112,117,116],.str s]])=some (ay (a++[.put s])):=Aa (a:=a) (b:=[.put s]) (by simp;omega)
theorem Eh {a:List Pt}{s:List Nat}(h:a.length<100000):bZ .add (ay a) (.tup [.tup [.str [100,114,111,112],.str s]])=some (ay (a++[.drop s])):=Aa (a:=a) (b:=[.drop s]) (by simp;omega)
theorem Ei {a:List Pt}(h:a.length<100000):bZ .add (ay a) (.tup [.tup [.str [107,101,101,112],.int 1]])=some (ay (a++[.keep 1])):=Aa (a:=a) (b:=[.keep 1]) (by simp;omega)
section
variable {F:List Fn}{w n c dr t:Nat}(hc:F[c]?=some um) (hd:F[dr]?=some (vM c)) {ns:List Int}(hn:ns.length≤63)
include hc hd hn
theorem Ej (k:Int) (x:V) (fd:List Pt) (j:Nat) (u v:Option Sl) (hu:vo u) (hfd:fd.length≤10000) :
  Wp (ex (run F w (n+2)) w (GC dr) [some (.val (j6 ns)),some (.val (.int k)),some (.val x),some (.val (ay fd)),some (.val (.int j)),u,v]) fun g fr=>g=.nx∧∃ b,vo b∧fr=[some (.val (j6 ns)),some (.val (.int k)),some (.val x),some (.val (ay (fd++if cT ns (k+4*j) 4=0 then [.put (rep (1+cT ns (k+4*j+2) 2).toNat [[97,98,122].getD (cT ns (k+4*j+1) 3).toNat 0])] else []))),some (.val (.int j)),b,v]:=by
 have d1:=fun fr=>fy (fr:=fr) (gu (w:=w) (n:=n) hc hd hn (k+4*j) (many:=4) (by decide))
 have m4:bZ .mul (.int 4) (.int j)=some (.int (4*j)):=by rw [pT,NB];rfl
 refine aM (by (repeat (first | array_get_dec | exact d1 _))) (fun h=>?_) fun h=>?_
 ·have h0:=of_decide_eq_true h
  have d2:=fun fr=>fy (fr:=fr) (gu (w:=w) (n:=n) hc hd hn (k+4*j+1) (many:=3) (by decide))
  have d3:=fun fr=>fy (fr:=fr) (gu (w:=w) (n:=n) hc hd hn (k+4*j+2) (many:=2) (by decide))
  have c2:=kY ns (k+4*j+2) (many:=2) (by decide)
  have c3:=kZ ns (k+4*j+2) (many:=2) (by decide)
  have ix:eg (.str [97,98,122]) (.int (cT ns (k+4*j+1) 3))=some (.str [[97,98,122].getD (cT ns (k+4*j+1) 3).toNat 0]):=by
   rw [rX,getD_at (l:=[97,98,122]) (kY ns (k+4*j+1) (many:=3) (by decide)) (kZ ns (k+4*j+1) (many:=3) (by decide)) 0];rfl
  have ml:=D6 (j:=1+cT ns (k+4*j+2) 2) (a:=[[97,98,122].getD (cT ns (k+4*j+1) 3).toNat 0]) (by omega) (by omega) (by simp)
  have ad:=Jk (a:=fd) (s:=rep (1+cT ns (k+4*j+2) 2).toNat [[97,98,122].getD (cT ns (k+4*j+1) 3).toNat 0]) (by omega)
  refine ai (bI (by (repeat (first | array_get_dec | exact d2 _ | exact d3 _))) rfl (fE rfl hu) ?_)
  refine ai (bI (by repeat array_get_dec) rfl rfl (aC ?_))
  rw [if_pos h0];exact ⟨rfl,_,.val,rfl⟩
 ·have h0:=of_decide_eq_false h
  rw [if_neg h0,List.append_nil]
  exact aC ⟨rfl,u,hu,rfl⟩
theorem Ek (k:Int) (x:List Nat) (hx:x.length≤1000) (fd:List Pt) (j:Nat) (u v:Option Sl) (hv:vo v) (hfd:fd.length≤10000) :
  Wp (ex (run F w (n+2)) w (GD dr) [some (.val (j6 ns)),some (.val (.int k)),some (.val (.str x)),some (.val (ay fd)),some (.val (.int j)),u,v]) fun g fr=>g=.nx∧∃ b,vo b∧fr=[some (.val (j6 ns)),some (.val (.int k)),some (.val (.str x)),some (.val (ay (fd++match x[j]? with
     | some c=>[if 0<cT ns (k+4*j+3) 3 then .keep 1 else .drop [c]]
     | none=>[]))),some (.val (.int j)),u,b]:=by
 have ln:cS .len [.str x]=some (.int (x.length:Nat)):=len_str (by omega)
 refine aM (by repeat array_get_dec) (fun h=>?_) fun h=>?_
 ·have hlt:j<x.length:=by have:=of_decide_eq_true h;omega
  have d1:=fun fr=>fy (fr:=fr) (gu (w:=w) (n:=n) hc hd hn (k+4*j+3) (many:=3) (by decide))
  have m4:bZ .mul (.int 4) (.int j)=some (.int (4*j)):=by rw [pT,NB];rfl
  have hg:x[j]?=some x[j]:=List.getElem?_eq_getElem hlt
  have ix:eg (.str x) (.int j)=some (.str [x[j]]):=by rw [rX,xS,hg];rfl
  rw [hg]
  refine ai (bI (by (repeat (first | array_get_dec | exact d1 _))) rfl (fE rfl hv) ?_)
  by_cases hk:0<cT ns (k+4*j+3) 3
  ·have ad:=Ei (a:=fd) (by omega)
   have ht:truthy (.bl (decide (0<cT ns (k+4*j+3) 3)))=true:=decide_eq_true hk
   refine ai (bI (b9 (av rfl) (qy (bg (qz (b:=true) (aD rfl (av rfl) ht) (fun _=>by repeat array_get_dec) fun h=>absurd h (by decide)) bw) zP) ad) rfl rfl (aC ?_))
   refine ⟨rfl,some (.val (.bl (decide (0<cT ns (k+4*j+3) 3)))),.val,?_⟩
   simp only [if_pos hk];rfl
  ·have ad:=Eh (a:=fd) (s:=[x[j]]) (by omega)
   have ht:truthy (.bl (decide (0<cT ns (k+4*j+3) 3)))=false:=decide_eq_false hk
   refine ai (bI (b9 (av rfl) (qy (bg (qz (b:=false) (aD rfl (av rfl) ht) (fun h=>absurd h (by decide)) fun _=>by repeat array_get_dec) bw) zP) ad) rfl rfl (aC ?_))
   refine ⟨rfl,some (.val (.bl (decide (0<cT ns (k+4*j+3) 3)))),.val,?_⟩
   simp only [if_neg hk];rfl
 ·have hlt:¬ j<x.length:=by have:=of_decide_eq_false h;omega
  rw [List.getElem?_eq_none (by omega),List.append_nil]
  exact aC ⟨rfl,v,hv,rfl⟩
theorem qF (ht:F[t]?=some (Ji dr)) (k:Int) (x:List Nat) (hx:x.length≤1000):run F w (n+3) t [.val (j6 ns),.val (.int k),.val (.str x)]=some (ay (chg ns k x),[]):=by
 refine b7 ht rfl ?_
 have ln:cS .len [.str x]=some (.int (x.length:Nat)):=len_str (by omega)
 have rg:fT [.int ((x.length:Nat)+1)]=some (range 0 (x.length+1)):=Eg (by omega) (by omega)
 refine ai (bI (by repeat array_get_dec) rfl rfl ?_)
 refine ai (jJ (qD (bg (b9 (gr (bg (av rfl) bw) ln) (br rfl) ez) bw) rg) ?_)
 refine yG (fun j fr=>∃ a b c,vo a∧vo b∧vo c∧fr=[some (.val (j6 ns)),some (.val (.int k)),some (.val (.str x)),some (.val (ay (fU ns k x j))),a,b,c]) (fun j fr hj ⟨a,b,c',ha,hb,hc',hfr⟩=>?_) (fun fr ⟨a,b,c',ha,hb,hc',hfr⟩=>?_) ⟨none,none,none,.none,.none,.none,rfl⟩
 ·subst hfr
  have hz:=nN ns k x j
  rw [show (0:Int)+(j:Int)=j from Int.zero_add _]
  refine dR (bind1 rfl ha) (ai ?_)
  refine (Ej hc hd hn k (.str x) (fU ns k x j) j b c' hb (by omega)).mono fun g fr ⟨q1,b2,hb2,q3⟩=>?_
  subst q1 q3
  refine ai ?_
  refine (Ek hc hd hn k x hx _ j b2 c' hc' (by split <;> simp <;> omega)).mono fun g fr ⟨q1,b3,WQ,q3⟩=>?_
  subst q1 q3
  refine aC ?_
  rw [gm]
  refine ⟨some (.val (.int j)),b2,b3,.val,hb2,WQ,?_⟩
  rw [jM,jL,List.append_assoc]
 ·subst hfr
  refine ai (bM (v:=ay (chg ns k x)) (af:=[some (.val (j6 ns)),some (.val (.int k)),some (.val (.str x)),some (.val (ay (fU ns k x (x.length+1)))),a,b,c']) ?_ ⟨rfl,rfl⟩)
  have sh:gE [some (.val (j6 ns)),some (.val (.int k)),some (.val (.str x)),some (.val (ay (fU ns k x (x.length+1)))),a,b,c']=[some (.val (j6 ns)),some (.val (.int k)),some (.val (.str x)),some (.val (ay (fU ns k x (x.length+1)))),a,b,c']:=by
   show _ :: _ :: _ :: _ :: a.map Sl.dU :: b.map Sl.dU :: [c'.map Sl.dU]=_
   rw [cP ha,cP hb,cP hc'];rfl
  rw [sh];exact av rfl
end
end Pv
namespace Pv
open Ev (D bU bQ TY BI ME T E Es Eo It S Ss Fn big deep b2i rep cC dP bP aS cut cR eF slots)
noncomputable def El:S:=.iff (.cmp .eq (.ix (.v 0) (.c (.int 0))) (.c (.str [107,101,101,112]))) (.cons (.ret (.ix (.v 0) (.c (.int 1)))) .nil) .nil
noncomputable def Em:S:=.ret (.bi .len (.cons (.ix (.v 0) (.c (.int 1))) .nil))
noncomputable def di:Fn:=⟨1,1,(.cons El (.cons Em .nil))⟩
noncomputable def Ab (bO:Nat):S:=.ret (.bi .sum (.cons (.comp (.cl bO (.cons (.v 1) .nil)) (.one 1) (.seq (.v 0)) (.yes (.cmp .ne (.ix (.v 1) (.c (.int 0))) (.c (.str [112,117,116]))))) .nil))
noncomputable def eY (bO:Nat):Fn:=⟨1,2,(.cons (Ab bO) .nil)⟩
noncomputable def Cf (bO:Nat):S:=.ret (.bi .sum (.cons (.comp (.cl bO (.cons (.v 1) .nil)) (.one 1) (.seq (.v 0)) (.yes (.cmp .ne (.ix (.v 1) (.c (.int 0))) (.c (.str [100,114,111,112]))))) .nil))
noncomputable def oO (bO:Nat):Fn:=⟨1,2,(.cons (Cf bO) .nil)⟩
noncomputable def En:S:=.set 1 (.lst .nil)
noncomputable def Ep:S:=.set 2 (.c (.int 0))
noncomputable def Er:S:=.set 3 (.c (.str []))
noncomputable def Et:S:=.set 4 (.c (.str []))
noncomputable def Eu (fN:Nat):Ss:=(.cons (.iff (.cmp .eq (.v 5) (.c (.str [100,114,111,112]))) (.cons (.set 3 (.bin .add (.v 3) (.v 6))) .nil) (.cons (.iff (.cmp .eq (.v 5) (.c (.str [112,117,116]))) (.cons (.set 4 (.bin .add (.v 4) (.v 6))) .nil) (.cons (.iff (.cmp .gt (.v 6) (.c (.int 0))) (.cons (.iff (.orr (.cmp .ne (.v 3) (.c (.str []))) (.cmp .ne (.v 4) (.c (.str [])))) (.cons (.exp (.me .extend (.v 1) (.cons (.cl fN (.cons (.v 2) (.cons (.v 3) (.cons (.v 4) .nil)))) .nil))) (.cons (.set 2 (.c (.int 0))) (.cons (.set 3 (.c (.str []))) (.cons (.set 4 (.c (.str []))) .nil)))) .nil) (.cons (.set 2 (.bin .add (.v 2) (.v 6))) .nil)) .nil) .nil)) .nil)) .nil)
noncomputable def Ew (fN:Nat):S:=.for (.many [5,6]) (.seq (.v 0)) (Eu fN)
noncomputable def Ex (fN:Nat):S:=.exp (.me .extend (.v 1) (.cons (.cl fN (.cons (.v 2) (.cons (.v 3) (.cons (.v 4) .nil)))) .nil))
noncomputable def Ey:S:=.ret (.iT (.v 1))
noncomputable def jm (fN:Nat):Fn:=⟨1,7,(.cons En (.cons Ep (.cons Er (.cons Et (.cons (Ew fN) (.cons (Ex fN) (.cons Ey .nil)))))))⟩
noncomputable def xg:S:=.set 3 (.lst .nil)
noncomputable def xj:S:=.iff (.cmp .gt (.v 0) (.c (.int 0))) (.cons (.exp (.me .append (.v 3) (.cons (.tup (.cons (.c (.str [107,101,101,112])) (.cons (.v 0) .nil))) .nil))) .nil) .nil
noncomputable def pq:S:=.iff (.cmp .ne (.v 1) (.c (.str []))) (.cons (.exp (.me .append (.v 3) (.cons (.tup (.cons (.c (.str [100,114,111,112])) (.cons (.v 1) .nil))) .nil))) .nil) .nil
noncomputable def kJ:S:=.iff (.cmp .ne (.v 2) (.c (.str []))) (.cons (.exp (.me .append (.v 3) (.cons (.tup (.cons (.c (.str [112,117,116])) (.cons (.v 2) .nil))) .nil))) .nil) .nil
noncomputable def jf:S:=.ret (.v 3)
noncomputable def eV:Fn:=⟨3,4,(.cons xg (.cons xj (.cons pq (.cons kJ (.cons jf .nil)))))⟩
noncomputable def Pt.n:Pt→Nat
 | .keep n=>n
 | .put s=>s.length
 | .drop s=>s.length
noncomputable def tot (c:List Pt):Nat:=(c.map Pt.n).sum
theorem dY (a b:List Pt):tot (a++b)=tot a+tot b:=by simp [tot]
theorem aW (p:Pt) (c:List Pt):tot (p :: c)=p.n+tot c:=by simp [tot]
noncomputable def eW:Pt→Bool
 | .put _=>true
 | _=>false
noncomputable def dS:Pt→Bool
 | .drop _=>true
 | _=>false
noncomputable def cZ:Pt→Bool
 | .keep _=>true
 | _=>false
noncomputable def aZ (c:List Pt):Nat:=tot (c.filter fun p=>!eW p)
noncomputable def iA (c:List Pt):Nat:=tot (c.filter fun p=>!dS p)
noncomputable def cst (c:List Pt):Nat:=tot (c.filter fun p=>!cZ p)
section
variable {F:List Fn}{w n aE i:Nat}
theorem gv (hs:F[i]?=some di) (p:Pt) (hp:p.n≤100000):run F w (n+1) i [.val p.v]=some (.int p.n,[]):=by
 cases p with
 | keep k=>exact b7 hs rfl (ai (aM (b:=true) (aD rfl (bS (dN (av rfl) (br rfl) rfl) (br rfl) mj) rfl) (fun _=>ai (bM (dN (av rfl) (br rfl) rfl) ⟨rfl,rfl⟩)) nofun))
 | put s=>exact b7 hs rfl (ai (aM (b:=false) (aD rfl (bS (dN (av rfl) (br rfl) rfl) (br rfl) mj) rfl) nofun (fun _=>aC (ai (bM (gr (bg (dN (av rfl) (br rfl) rfl) bw) (len_str hp)) ⟨rfl,rfl⟩)))))
 | drop s=>exact b7 hs rfl (ai (aM (b:=false) (aD rfl (bS (dN (av rfl) (br rfl) rfl) (br rfl) mj) rfl) nofun (fun _=>aC (ai (bM (gr (bg (dN (av rfl) (br rfl) rfl) bw) (len_str hp)) ⟨rfl,rfl⟩)))))
theorem U6 {c:List Pt}{p:Pt}(h:p∈c):p.n≤tot c:=by
 induction c with
 | nil=>simp at h
 | cons q c ih=>
  rw [aW]
  rcases List.mem_cons.mp h with rfl | h
  ·omega
  ·have:=ih h;omega
theorem PV (c:List Pt):(c.map fun p=>(p.n:Int)).sum=(tot c:Int):=by
 induction c with
 | nil=>rfl
 | cons p c ih=>simp only [List.map_cons,List.sum_cons,ih,aW];omega
theorem yK {word:List Nat}{pr:Pt→Bool}(hs:F[aE]?=some di) (hb:F[i]?=some ⟨1,2,.cons (.ret (.bi .sum (.cons (.comp (.cl aE (.cons (.v 1) .nil)) (.one 1) (.seq (.v 0)) (.yes (.cmp .ne (.ix (.v 1) (.c (.int 0))) (.c (.str word))))) .nil))) .nil⟩)
  (hw:∀ p:Pt,∃ x u,p.v=.tup [.str x,u]∧(!decide (x=word))=pr p) (c:List Pt) (h1:c.length≤10000) (h2:tot c≤100000):run F w (n+2) i [.val (ay c)]=some (.int (tot (c.filter pr)),[]):=by
 refine b7 hb rfl (ai (bM (gr (bg (iM (eB (fD rfl) rfl) rfl (j5 (e:=Pt.v) (p:=pr) (g:=fun p=>.int p.n) c fun p hp=>?_) (eU (cz ?_))) bw) ?_) ⟨rfl,rfl⟩))
 ·obtain ⟨x,u,hx,WR⟩:=hw p
  have hcall:=fun fr=>bY (fr:=fr) (gv (w:=w) (n:=n) hs p (Nat.le_trans (U6 hp) h2))
  rw [hx] at hcall
  rw [hx,←WR]
  exact rZ rfl (aD rfl (bS (dN (av rfl) (br rfl) rfl) (br rfl) je) rfl) fun _=>aO (az rfl (av rfl) aB) (hcall _)
 ·rw [List.length_map];exact Nat.le_trans (List.length_filter_le _ _) (Nat.le_trans h1 (by decide))
 ·rw [IS,zS (fun p:Pt=>(p.n:Int))]
  show some (V.int _)=_
  rw [PV]
theorem iO (hs:F[aE]?=some di) (hb:F[i]?=some (eY aE)) (c:List Pt) (h1:c.length≤10000) (h2:tot c≤100000):run F w (n+2) i [.val (ay c)]=some (.int (aZ c),[]):=
 yK (pr:=fun p=>!eW p) hs hb (fun p=>by cases p <;> exact ⟨_,_,rfl,rfl⟩) c h1 h2
theorem Cg (hs:F[aE]?=some di) (hb:F[i]?=some (oO aE)) (c:List Pt) (h1:c.length≤10000) (h2:tot c≤100000):run F w (n+2) i [.val (ay c)]=some (.int (iA c),[]):=
 yK (pr:=fun p=>!dS p) hs hb (fun p=>by cases p <;> exact ⟨_,_,rfl,rfl⟩) c h1 h2
end
noncomputable def b8 (k:Nat) (g w:List Nat):List Pt:=(if 0<k then [.keep k] else [])++(if g=[] then [] else [.drop g])++(if w=[] then [] else [.put w])
theorem kK (k:Nat) (g w:List Nat):(b8 k g w).length≤3:=by unfold b8;split <;> split <;> split <;> simp
theorem pC {F:List Fn}{w n i:Nat}(hs:F[i]?=some eV) (k:Nat) (g x:List Nat):run F w (n+1) i [.val (.int k),.val (.str g),.val (.str x)]=some (.lst ((b8 k g x).map Pt.v),[]):=by
 refine b7 hs rfl ?_
 refine ai (gQ (l:=[]) (by repeat array_get_dec) rfl rfl ?_)
 have ap:∀ (l:List V) (d:V) (fr:Fr) (i:Nat),l.length≤3→fr[i]?=some (some (.own l))→gP .append i [d] fr fr[i]?=.ok .aP (fr.set i (some (.own (l++[d])))):=fun l d fr i h e=>by rw [e];exact jR (by omega)
 have fin:∀ l:List V,Wp (exs (run F w n) w (.cons jf .nil) [some (.val (.int k)),some (.val (.str g)),some (.val (.str x)),some (.own l)]) fun g fr=>g=.ret (.lst l)∧outs 3 fr=[]:=fun l=>ai (bM (by repeat array_get_dec) ⟨rfl,rfl⟩)
 have s3:∀ l:List V,l.length≤2→Wp (exs (run F w n) w (.cons kJ (.cons jf .nil)) [some (.val (.int k)),some (.val (.str g)),some (.val (.str x)),some (.own l)]) fun g fr=>g=.ret (.lst (l++(if x=[] then [] else [Pt.put x]).map Pt.v))∧outs 3 fr=[]:=fun l hl=>by
  refine ai (aM (by repeat array_get_dec) (fun h=>?_) fun h=>?_)
  ·have hx:x≠[]:=by simpa using h
   refine ai (fC (by (repeat array_get_dec);exact ap _ _ _ _ (by omega) rfl) (aC ?_))
   rw [if_neg hx];exact fin _
  ·have hx:x=[]:=by simpa using h
   refine aC ?_
   rw [if_pos hx,List.map_nil,List.append_nil];exact fin _
 have s2:∀ l:List V,l.length≤1→Wp (exs (run F w n) w (.cons pq (.cons kJ (.cons jf .nil))) [some (.val (.int k)),some (.val (.str g)),some (.val (.str x)),some (.own l)]) fun y fr=>y=.ret (.lst (l++((if g=[] then [] else [Pt.drop g])++(if x=[] then [] else [Pt.put x])).map Pt.v))∧outs 3 fr=[]:=fun l hl=>by
  refine ai (aM (by repeat array_get_dec) (fun h=>?_) fun h=>?_)
  ·have hx:g≠[]:=by simpa using h
   refine ai (fC (by (repeat array_get_dec);exact ap _ _ _ _ (by omega) rfl) (aC ?_))
   rw [if_neg hx,List.map_append,←List.append_assoc];exact s3 _ (by simp;omega)
  ·have hx:g=[]:=by simpa using h
   refine aC ?_
   rw [if_pos hx,List.nil_append];exact s3 _ (by omega)
 refine ai (aM (by repeat array_get_dec) (fun h=>?_) fun h=>?_)
 ·have hx:0<k:=by have:=of_decide_eq_true h;omega
  refine ai (fC (by (repeat array_get_dec);exact ap _ _ _ _ (by decide) rfl) (aC ?_))
  unfold b8
  rw [if_pos hx,List.append_assoc];exact s2 _ (Nat.le_refl 1)
 ·have hx:¬ 0<k:=by have:=of_decide_eq_false h;omega
  refine aC ?_
  unfold b8
  rw [if_neg hx];exact s2 _ (by decide)
abbrev FS:=List Pt×Nat×List Nat×List Nat
noncomputable def bN (st:FS):Pt→FS
 | .drop s=>(st.1,st.2.1,st.2.2.1++s,st.2.2.2)
 | .put s=>(st.1,st.2.1,st.2.2.1,st.2.2.2++s)
 | .keep k=>if 0<k then (if st.2.2.1=[]∧st.2.2.2=[] then (st.1,st.2.1+k,[],[]) else (st.1++b8 st.2.1 st.2.2.1 st.2.2.2,k,[],[])) else st
noncomputable def fF:FS:=([],0,[],[])
noncomputable def dc (st:FS):List Pt:=st.1++b8 st.2.1 st.2.2.1 st.2.2.2
noncomputable def au (c:List Pt):List Pt:=dc (c.foldl bN fF)
theorem Jl (p:List Pt) (a:Pt):(p++[a]).foldl bN fF=bN (p.foldl bN fF) a:=by simp
theorem vN (c:List Pt):∀ st:FS,(c.foldl bN st).1.length≤st.1.length+3*c.length∧(c.foldl bN st).2.2.1.length≤st.2.2.1.length+tot c∧(c.foldl bN st).2.2.2.length≤st.2.2.2.length+tot c:=by
 induction c with
 | nil=>intro st;simp [tot]
 | cons p c ih=>
  intro st
  have h:=ih (bN st p)
  have h2:(bN st p).1.length≤st.1.length+3∧(bN st p).2.2.1.length≤st.2.2.1.length+p.n∧(bN st p).2.2.2.length≤st.2.2.2.length+p.n:=by
   have:=kK st.2.1 st.2.2.1 st.2.2.2
   cases p with
   | drop s=>simp [bN,Pt.n]
   | put s=>simp [bN,Pt.n]
   | keep k=>
    simp only [bN]
    split
    ·split
     ·simp
     ·simp;omega
    ·simp
  simp only [List.foldl_cons,List.length_cons,aW]
  omega
theorem eZ {F:List Fn}{w n aV i:Nat}(hs:F[aV]?=some eV) (hf:F[i]?=some (jm aV)) (c:List Pt) (h1:c.length≤10000) (h2:tot c≤10000):run F w (n+2) i [.val (ay c)]=some (ay (au c),[]):=by
 refine b7 hf rfl ?_
 refine ai (gQ (l:=[]) (by repeat array_get_dec) rfl rfl ?_)
 refine ai (bI (by repeat array_get_dec) rfl rfl ?_)
 refine ai (bI (by repeat array_get_dec) rfl rfl ?_)
 refine ai (bI (by repeat array_get_dec) rfl rfl ?_)
 refine ai (jJ (vs:=c.map Pt.v) (eB (fD rfl) rfl) ?_)
 have ext:∀ (st:FS) (fr:Fr),st.1.length≤30010→gP .extend 1 [.lst ((b8 st.2.1 st.2.2.1 st.2.2.2).map Pt.v)] fr (some (some (.own (st.1.map Pt.v))))=.ok .aP (fr.set 1 (some (.own ((dc st).map Pt.v)))):=fun st fr h=>by
  have:=kK st.2.1 st.2.2.1 st.2.2.2
  unfold dc
  rw [List.map_append];exact yJ (by simp;omega)
 refine gb (e:=Pt.v) (fun p l fr=>p++l=c∧∃ a b,vo a∧vo b∧fr=[some (.val (ay c)),some (.own ((p.foldl bN fF).1.map Pt.v)),some (.val (.int (p.foldl bN fF).2.1)),some (.val (.str (p.foldl bN fF).2.2.1)),some (.val (.str (p.foldl bN fF).2.2.2)),a,b]) (fun p x l fr ⟨hpl,a,b,ha,hb,hfr⟩=>?_) (fun p fr ⟨hpl,a,b,ha,hb,hfr⟩=>?_) c [] _ ⟨rfl,none,none,.none,.none,rfl⟩
 ·subst hfr
  obtain ⟨b1,b2,b3⟩:=vN p fF
  have hlen:p.length+l.length+1=c.length:=by rw [←hpl];simp;omega
  have vO:tot p+x.n+tot l=tot c:=by rw [←hpl,dY,aW];omega
  rw [Jl]
  have iY:(p++[x])++l=c:=by simpa using hpl
  generalize p.foldl bN fF=st at *
  simp [fF] at b1 b2 b3
  have rs:=fun fr=>fy (fr:=fr) (pC (w:=w) (n:=n) hs st.2.1 st.2.2.1 st.2.2.2)
  have ex:=fun fr=>ext st fr (by omega)
  cases x with
  | drop s=>
   have hs:s.length≤tot c:=by simp only [Pt.n] at vO;omega
   have ad:=vK (a:=st.2.2.1) (b:=s) (by omega)
   refine dR (oN rfl ha rfl hb) (ai (aM (by repeat array_get_dec) (fun _=>?_) fun h=>absurd h (by decide)))
   refine ai (bI (by repeat array_get_dec) rfl rfl (aC (aC ?_)))
   rw [gm];exact ⟨iY,_,_,.val,.val,rfl⟩
  | put s=>
   have hs:s.length≤tot c:=by simp only [Pt.n] at vO;omega
   have ad:=vK (a:=st.2.2.2) (b:=s) (by omega)
   refine dR (oN rfl ha rfl hb) (ai (aM (by repeat array_get_dec) (fun h=>absurd h (by decide)) fun _=>?_))
   refine ai (aM (by repeat array_get_dec) (fun _=>?_) fun h=>absurd h (by decide))
   refine ai (bI (by repeat array_get_dec) rfl rfl (aC (aC (aC ?_))))
   rw [gm];exact ⟨iY,_,_,.val,.val,rfl⟩
  | keep k=>
   refine dR (oN rfl ha rfl hb) (ai (aM (by repeat array_get_dec) (fun h=>absurd h (by decide)) fun _=>?_))
   refine ai (aM (by repeat array_get_dec) (fun h=>absurd h (by decide)) fun _=>?_)
   refine ai (aM (by repeat array_get_dec) (fun h=>?_) fun h=>?_)
   ·have hk:0<k:=by have:=of_decide_eq_true h;omega
    by_cases hg:st.2.2.1=[]∧st.2.2.2=[]
    ·have n1:cop .ne (.str st.2.2.1) (.str [])=some false:=by rw [je,hg.1];rfl
     have n2:cop .ne (.str st.2.2.2) (.str [])=some false:=by rw [je,hg.2];rfl
     refine ai (aM (b:=false) (fY (aD rfl (by repeat array_get_dec) rfl) (aD rfl (by repeat array_get_dec) rfl)) (fun h=>absurd h (by decide)) fun _=>aC ?_)
     refine ai (bI (by repeat array_get_dec) rfl rfl (aC (aC (aC (aC ?_)))))
     rw [gm]
     refine ⟨iY,some (.val (.str dX)),some (.val (.int k)),.val,.val,?_⟩
     simp only [bN,if_pos hk,if_pos hg]
     rw [hg.1,hg.2];rfl
    ·have tt:aL (run F w (n+1)) (.orr (.cmp .ne (.v 3) (.c (.str []))) (.cmp .ne (.v 4) (.c (.str [])))) [some (.val (ay c)),some (.own (st.1.map Pt.v)),some (.val (.int st.2.1)),some (.val (.str st.2.2.1)),some (.val (.str st.2.2.2)),some (.val (.str dX)),some (.val (.int k))]=.ok true [some (.val (ay c)),some (.own (st.1.map Pt.v)),some (.val (.int st.2.1)),some (.val (.str st.2.2.1)),some (.val (.str st.2.2.2)),some (.val (.str dX)),some (.val (.int k))]:=by
      by_cases h3:st.2.2.1=[]
      ·have h4:¬ st.2.2.2=[]:=fun z=>hg ⟨h3,z⟩
       have n1:cop .ne (.str st.2.2.1) (.str [])=some false:=by rw [je,h3];rfl
       have n2:cop .ne (.str st.2.2.2) (.str [])=some true:=by rw [je,decide_eq_false h4];rfl
       exact fY (aD rfl (by repeat array_get_dec) rfl) (aD rfl (by repeat array_get_dec) rfl)
      ·have n1:cop .ne (.str st.2.2.1) (.str [])=some true:=by rw [je,decide_eq_false h3];rfl
       exact qC (aD rfl (by repeat array_get_dec) rfl)
     refine ai (aM tt (fun _=>?_) fun h=>absurd h (by decide))
     refine ai (fC (by (repeat (first | array_get_dec | exact rs _ | exact ex _))) ?_)
     refine ai (bI (by repeat array_get_dec) rfl rfl ?_)
     refine ai (bI (by repeat array_get_dec) rfl rfl ?_)
     refine ai (bI (by repeat array_get_dec) rfl rfl (aC ?_))
     refine ai (bI (by repeat array_get_dec) rfl rfl (aC (aC (aC (aC ?_)))))
     rw [gm]
     refine ⟨iY,some (.val (.str dX)),some (.val (.int k)),.val,.val,?_⟩
     simp only [bN,if_pos hk,if_neg hg]
     rw [Int.zero_add];rfl
   ·have hk:¬ 0<k:=by have:=of_decide_eq_false h;omega
    refine aC (aC (aC (aC ?_)))
    rw [gm]
    refine ⟨iY,some (.val (.str dX)),some (.val (.int k)),.val,.val,?_⟩
    simp only [bN,if_neg hk];rfl
 ·subst hfr
  simp at hpl
  subst hpl
  obtain ⟨b1,b2,b3⟩:=vN p fF
  have e:au p=dc (p.foldl bN fF):=rfl
  rw [e]
  generalize p.foldl bN fF=st at *
  simp [fF] at b1 b2 b3
  have sl:=kK st.2.1 st.2.2.1 st.2.2.2
  have rs:=fun fr=>fy (fr:=fr) (pC (w:=w) (n:=n) hs st.2.1 st.2.2.1 st.2.2.2)
  have ex:=fun fr=>ext st fr (by omega)
  have mk:toT (.lst ((dc st).map Pt.v))=some (ay (dc st)):=by rw [rY];exact jl (cz (by simp [dc];omega))
  refine ai (fC (by (repeat (first | array_get_dec | exact rs _ | exact ex _))) ?_)
  exact ai (bM (qB (av rfl) mk) ⟨rfl,rfl⟩)
end Pv
namespace Pv
open Ev (D bU bQ TY BI ME T E Es Eo It S Ss Fn big deep b2i rep cC dP bP aS cut cR eF slots)
section
variable {o:Option Sl}{l:List V}{fr:Fr}{i:Nat}{s:Sl}
end
inductive Tq where
 | at (i:Nat) | sg (c:Nat)
deriving DecidableEq
noncomputable def Pt.asks:Pt→List (List Nat)
 | .keep n=>List.replicate n []
 | .drop s=>s.map fun c=>[c]
 | .put _=>[]
noncomputable def asks (c:List Pt):List (List Nat):=c.flatMap Pt.asks
noncomputable def Pt.told (k:Nat):Pt→List Tq
 | .keep n=>(List.range n).map fun j=>.at (k+j)
 | .drop _=>[]
 | .put s=>s.map .sg
noncomputable def told (k:Nat):List Pt→List Tq
 | []=>[]
 | p :: c=>p.told k++told (k+p.asks.length) c
theorem e8 (a b:List Pt):asks (a++b)=asks a++asks b:=by simp [asks]
theorem gZ (a b:List Pt):∀ k,told k (a++b)=told k a++told (k+(asks a).length) b:=by
 induction a with
 | nil=>intro k;simp [told,asks]
 | cons p a ih=>
  intro k
  simp only [List.cons_append,told,ih,List.append_assoc]
  congr 3
  simp [asks];omega
noncomputable def jN (c:List Pt):List (List Nat)×List Tq:=(asks c,told 0 c)
noncomputable def Pt.word:Pt→List Nat
 | .keep _=>dX
 | .put _=>mq
 | .drop _=>jK
noncomputable def qG (a b:List Nat):Bool:=!(decide (a=b) || (decide (a=mq)&&decide (b=jK)))
noncomputable def kL:List (List Nat)→Bool
 | a :: b :: r=>qG a b&&kL (b :: r)
 | _=>true
noncomputable def NC (p:Pt):Bool:=p.n != 0
noncomputable def ly (c:List Pt):Bool:=kL (c.map Pt.word)&&c.all NC
theorem fG (k:Nat) (g x:List Nat):asks (b8 k g x)=List.replicate k []++g.map fun c=>[c]:=by
  unfold b8
  by_cases hk:0<k <;> by_cases hg:g=[] <;> by_cases hx:x=[] <;> simp [hk,hg,hx,asks,Pt.asks]
  all_goals (have:k=0:=by omega
             subst this;simp)
theorem iP (k:Nat) (g x:List Nat) (j:Nat):told j (b8 k g x)=(List.range k).map (fun i=>Tq.at (j+i))++x.map Tq.sg:=by
  unfold b8
  by_cases hk:0<k <;> by_cases hg:g=[] <;> by_cases hx:x=[] <;> simp [hk,hg,hx,told,Pt.told,Pt.asks]
  all_goals (have:k=0:=by omega
             subst this;simp)
theorem Ac (st:FS) (p:Pt):asks (dc (bN st p))=asks (dc st++[p])∧∀ j,told j (dc (bN st p))=told j (dc st++[p]):=by
 obtain ⟨ps,k,g,x⟩:=st
 have e1:∀ a:List Pt,asks (a++[p])=asks a++p.asks:=fun a=>by simp [asks]
 have e2:∀ (a:List Pt) j,told j (a++[p])=told j a++p.told (j+(asks a).length):=fun a j=>by simp [gZ,told]
 rw [e1]
 cases p with
 | drop s=>
  refine ⟨by simp [bN,dc,e8,fG,Pt.asks],fun j=>?_⟩
  rw [e2]
  simp [bN,dc,gZ,iP,Pt.told]
 | put s=>
  refine ⟨by simp [bN,dc,e8,fG,Pt.asks],fun j=>?_⟩
  rw [e2]
  simp [bN,dc,gZ,iP,Pt.told]
 | keep m=>
  simp only [bN]
  split
  ·split
   ·rename_i h
    obtain ⟨rfl,rfl⟩:=h
    refine ⟨by simp [dc,e8,fG,Pt.asks],fun j=>?_⟩
    rw [e2]
    simp [dc,e8,gZ,iP,fG,Pt.told,List.range_add,Nat.add_assoc]
   ·refine ⟨by simp [dc,e8,fG,Pt.asks],fun j=>?_⟩
    rw [e2]
    simp [dc,e8,gZ,iP,fG,Pt.told,Nat.add_assoc]
  ·rename_i h
   have:m=0:=by omega
   subst this
   refine ⟨by simp [Pt.asks],fun j=>?_⟩
   rw [e2]
   simp [Pt.told]
theorem qH (c:List Pt):∀ st:FS,asks (dc (c.foldl bN st))=asks (dc st++c)∧∀ j,told j (dc (c.foldl bN st))=told j (dc st++c):=by
 induction c with
 | nil=>intro st;simp
 | cons p c ih=>
  intro st
  obtain ⟨h1,h2⟩:=ih (bN st p)
  obtain ⟨h3,h4⟩:=Ac st p
  simp only [List.foldl_cons]
  have e:dc st++p :: c=(dc st++[p])++c:=by simp
  refine ⟨?_,fun j=>?_⟩
  ·rw [h1,e,e8,e8 _ c,h3]
  ·rw [h2 j,e,gZ,gZ _ c,h4 j,h3]
theorem cV (c:List Pt):asks (au c)=asks c:=by
 have:=(qH c fF).1
 simpa [au,fF,dc,b8] using this
theorem eX (c:List Pt) (j:Nat):told j (au c)=told j c:=by
 have:=(qH c fF).2 j
 simpa [au,fF,dc,b8] using this
theorem mw (c:List Pt):jN (au c)=jN c:=by simp [jN,cV,eX]
noncomputable def kps (c:List Pt):Nat:=tot (c.filter cZ)
theorem gw (c:List Pt):(asks c).length=aZ c:=by
 induction c with
 | nil=>rfl
 | cons p c ih=>cases p <;> simp [asks,aZ,tot,eW,Pt.asks,Pt.n] at ih ⊢ <;> omega
theorem vP (c:List Pt):∀ j,(told j c).length=iA c:=by
 induction c with
 | nil=>intro j;rfl
 | cons p c ih=>intro j;cases p <;> simp [told,iA,tot,dS,Pt.told,Pt.n,ih] at ih ⊢
theorem kC (n:Nat) (c:List Pt):aZ (.keep n :: c)=n+aZ c:=by simp [aZ,tot,eW,Pt.n]
theorem mz (s:List Nat) (c:List Pt):aZ (.drop s :: c)=s.length+aZ c:=by simp [aZ,tot,eW,Pt.n]
theorem kD (s:List Nat) (c:List Pt):aZ (.put s :: c)=aZ c:=by simp [aZ,tot,eW,Pt.n]
theorem Ad (n:Nat) (c:List Pt):iA (.keep n :: c)=n+iA c:=by simp [iA,tot,dS,Pt.n]
theorem Ae (s:List Nat) (c:List Pt):iA (.drop s :: c)=iA c:=by simp [iA,tot,dS,Pt.n]
theorem Af (s:List Nat) (c:List Pt):iA (.put s :: c)=s.length+iA c:=by simp [iA,tot,dS,Pt.n]
theorem GF (n:Nat) (c:List Pt):cst (.keep n :: c)=cst c:=by simp [cst,tot,cZ,Pt.n]
theorem GG (s:List Nat) (c:List Pt):cst (.drop s :: c)=s.length+cst c:=by simp [cst,tot,cZ,Pt.n]
theorem GH (s:List Nat) (c:List Pt):cst (.put s :: c)=s.length+cst c:=by simp [cst,tot,cZ,Pt.n]
theorem GI (n:Nat) (c:List Pt):kps (.keep n :: c)=n+kps c:=by simp [kps,tot,List.filter_cons,cZ,Pt.n]
theorem GJ (s:List Nat) (c:List Pt):kps (.drop s :: c)=kps c:=by simp [kps,tot,cZ,Pt.n]
theorem GK (s:List Nat) (c:List Pt):kps (.put s :: c)=kps c:=by simp [kps,tot,cZ,Pt.n]
noncomputable def isAt:Tq→Bool
 | .at _=>true
 | _=>false
theorem Ci (c:List Pt):∀ j,((told j c).filter isAt).length=kps c:=by
 induction c with
 | nil=>intro j;rfl
 | cons p c ih=>
  intro j
  have e1:∀ (m:Nat) (f:Nat→Nat),(((List.range m).map fun i=>Tq.at (f i)).filter isAt).length=m:=fun m f=>by
   rw [List.filter_eq_self.mpr]
   ·simp
   ·intro a ha;obtain ⟨i,_,rfl⟩:=List.mem_map.mp ha;rfl
  have e2:∀ s:List Nat,((s.map Tq.sg).filter isAt).length=0:=fun s=>by
   rw [List.filter_eq_nil_iff.mpr]
   ·rfl
   ·intro a ha;obtain ⟨i,_,rfl⟩:=List.mem_map.mp ha;simp [isAt]
  cases p with
  | keep m=>simp only [told,Pt.told,List.filter_append,List.length_append,e1,ih,kps,tot,cZ,List.filter_cons,if_true,List.map_cons,List.sum_cons,Pt.n]
  | put s=>simp only [told,Pt.told,List.filter_append,List.length_append,e2,ih,kps,cZ,List.filter_cons];simp
  | drop s=>simp only [told,Pt.told,List.filter_append,List.length_append,ih,kps,cZ,List.filter_cons];simp
theorem Cj (c:List Pt):(cst c:Int)=aZ c - kps c+iA c - kps c:=by
 induction c with
 | nil=>rfl
 | cons p c ih=>cases p <;> simp only [GF,GG,GH,kC,mz,kD,Ad,Ae,Af,GI,GJ,GK] <;> omega
theorem Ck (c:List Pt):tot c+kps c=aZ c+iA c:=by
 induction c with
 | nil=>rfl
 | cons p c ih=>cases p <;> simp only [aW,Pt.n,kC,mz,kD,Ad,Ae,Af,GI,GJ,GK] <;> omega
theorem vQ (c:List Pt):aZ (au c)=aZ c:=by rw [←gw,←gw,cV]
theorem vR (c:List Pt):iA (au c)=iA c:=by rw [←vP _ 0,←vP _ 0,eX]
theorem vS (c:List Pt):kps (au c)=kps c:=by rw [←Ci _ 0,←Ci _ 0,eX]
theorem pU (c:List Pt):cst (au c)=cst c:=by
 have h1:=Cj (au c)
 have h2:=Cj c
 rw [vQ,vR,vS] at h1
 omega
theorem fV (c:List Pt):tot (au c)=tot c:=by
 have h1:=Ck (au c)
 have h2:=Ck c
 rw [vQ,vR,vS] at h1
 omega
theorem yL:∀ (a:List (List Nat)) (b:List (List Nat)),kL (a++b)=true↔kL a=true∧kL b=true∧∀ x∈a.getLast?,∀ y∈b.head?,qG x y=true
 | [],b=>by simp [kL]
 | [x],[]=>by simp [kL]
 | [x],y :: b=>by simp [kL,and_comm]
 | x :: y :: a,b=>by
  have:=yL (y :: a) b
  simp only [List.cons_append] at this ⊢
  simp only [kL,Bool.and_eq_true,this,List.getLast?_cons_cons]
  constructor
  ·rintro ⟨h1,h2,h3,h4⟩;exact ⟨⟨h1,h2⟩,h3,h4⟩
  ·rintro ⟨⟨h1,h2⟩,h3,h4⟩;exact ⟨h1,h2,h3,h4⟩
theorem xm (k:Nat) (g x:List Nat):ly (b8 k g x)=true:=by
 unfold b8
 by_cases hk:0<k <;> by_cases hg:g=[] <;> by_cases hx:x=[] <;> simp [hk,hg,hx,ly,NC,kL,qG,Pt.word,Pt.n,dX,mq,jK]
 all_goals omega
noncomputable def vU (st:FS):Prop:=ly st.1=true∧(st.1≠[]→0<st.2.1)∧∀ p∈st.1.getLast?,p.word≠dX
theorem Jm {a b:List Pt}(ha:ly a=true) (hb:ly b=true) (h:∀ p∈a.getLast?,∀ q∈b.head?,qG p.word q.word=true):ly (a++b)=true:=by
 simp only [ly,Bool.and_eq_true] at ha hb ⊢
 refine ⟨?_,by rw [List.all_append,ha.2,hb.2];rfl⟩
 rw [List.map_append,yL]
 refine ⟨ha.1,hb.1,fun x hx y hy=>?_⟩
 simp at hx hy
 obtain ⟨p,hp,rfl⟩:=hx
 obtain ⟨q,hq,rfl⟩:=hy
 exact h p hp q hq
theorem vV {k:Nat}{g x:List Nat}(hk:0<k):(b8 k g x).head?=some (.keep k):=by simp [b8,hk]
theorem Jo {w:List Nat}(h:w≠dX) (hw:w=mq∨w=jK):qG w dX=true:=by
 rcases hw with rfl | rfl <;> decide
theorem Jp (p:Pt):p.word=dX∨p.word=mq∨p.word=jK:=by cases p <;> simp [Pt.word]
theorem vW {st:FS}(h:vU st):ly (dc st)=true:=by
 refine Jm h.1 (xm _ _ _) fun p hp q hq=>?_
 have hne:st.1≠[]:=by intro z;rw [z] at hp;simp at hp
 rw [vV (h.2.1 hne)] at hq
 simp at hq;subst hq
 have hw:=h.2.2 p hp
 exact Jo hw ((Jp p).resolve_left hw)
theorem vX {k:Nat}{g x:List Nat}(h:¬ (g=[]∧x=[])):∀ p∈(b8 k g x).getLast?,p.word≠dX:=by
 unfold b8
 by_cases hx:x=[]
 ·have hg:g≠[]:=fun z=>h ⟨z,hx⟩
  intro p hp
  simp [hg,hx] at hp
  subst hp
  simp [Pt.word,jK,dX]
 ·intro p hp
  simp [hx] at hp
  subst hp
  simp [Pt.word,mq,dX]
theorem Cm {st:FS}(h:vU st) (p:Pt):vU (bN st p):=by
 cases p with
 | drop s=>exact h
 | put s=>exact h
 | keep k=>
  simp only [bN]
  split
  ·rename_i hk
   split
   ·exact ⟨h.1,fun z=>by simp;omega,h.2.2⟩
   ·rename_i RK
    refine ⟨vW h,fun _=>hk,fun p hp=>?_⟩
    rw [List.getLast?_append] at hp
    cases z:(b8 st.2.1 st.2.2.1 st.2.2.2).getLast? with
    | none=>
     exfalso
     rw [List.getLast?_eq_none_iff] at z
     unfold b8 at z
     by_cases hx:st.2.2.2=[] <;> by_cases hg:st.2.2.1=[] <;> simp [hx,hg] at z RK
    | some q=>
     rw [z] at hp
     simp at hp
     subst hp
     exact vX RK q z
  ·exact h
theorem eE (c:List Pt):ly (au c)=true:=by
 have:∀ (c:List Pt) (st:FS),vU st→vU (c.foldl bN st):=fun c=>by
  induction c with
  | nil=>exact fun st h=>h
  | cons p c ih=>exact fun st h=>ih _ (Cm h p)
 exact vW (this c fF ⟨rfl,fun z=>absurd rfl z,fun p hp=>by simp [fF] at hp⟩)
end Pv
namespace Pv
open Ev (D bU bQ TY BI ME T E Es Eo It S Ss Fn big deep b2i rep cC dP bP aS cut cR eF slots)
abbrev Bl:=List Nat×List Nat
abbrev BS:=List Bl×Bl
noncomputable def eG (st:BS):Pt→BS
 | .drop s=>(st.1,(st.2.1++s,st.2.2))
 | .put s=>(st.1,(st.2.1,st.2.2++s))
 | .keep 0=>st
 | .keep (n+1)=>(st.1++st.2 :: List.replicate n ([],[]),([],[]))
noncomputable def pD:BS:=([],([],[]))
noncomputable def blocks (c:List Pt):BS:=c.foldl eG pD
noncomputable def lD (st:List Pt×Nat) (b:Bl):List Pt×Nat:=if b.1=[]∧b.2=[] then (st.1,st.2+1) else (st.1++b8 st.2 b.1 b.2,1)
noncomputable def pk (bs:List Bl):List Pt×Nat:=bs.foldl lD ([],0)
theorem Ez (n:Nat):∀ st:List Pt×Nat,(List.replicate n (([],[]):Bl)).foldl lD st=(st.1,st.2+n):=by
 induction n with
 | zero=>intro st;simp
 | succ n ih=>intro st;simp [List.replicate_succ,lD,ih];omega
noncomputable def yN (st:BS):FS:=((pk st.1).1,(pk st.1).2,st.2.1,st.2.2)
theorem EA (st:BS) (p:Pt):bN (yN st) p=yN (eG st p):=by
 obtain ⟨bs,g,x⟩:=st
 cases p with
 | drop s=>rfl
 | put s=>rfl
 | keep n=>
  cases n with
  | zero=>rfl
  | succ n=>
   have e:pk (bs++(g,x) :: List.replicate n ([],[]))=((lD (pk bs) (g,x)).1,(lD (pk bs) (g,x)).2+n):=by
    simp only [pk,List.foldl_append,List.foldl_cons,Ez]
   simp only [yN,eG,e,bN,Nat.succ_pos,if_true,lD]
   by_cases h:g=[]∧x=[]
   ·simp [h];omega
   ·simp [h];omega
theorem EB (c:List Pt):∀ st:BS,c.foldl bN (yN st)=yN (c.foldl eG st):=by
 induction c with
 | nil=>intro st;rfl
 | cons p c ih=>intro st;simp only [List.foldl_cons,EA,ih]
theorem jg (c:List Pt):au c=dc (yN (blocks c)):=by
 unfold au blocks
 rw [←EB];rfl
noncomputable def Cn (st:List (List Nat)×List Nat):List Nat→List (List Nat)×List Nat
 | []=>(st.1++[st.2],[])
 | c :: _=>(st.1,st.2++[c])
noncomputable def spT (st:List (List Nat)×List Nat):Tq→List (List Nat)×List Nat
 | .at _=>(st.1++[st.2],[])
 | .sg c=>(st.1,st.2++[c])
theorem Co (s:List Nat):∀ st,(s.map fun c=>[c]).foldl Cn st=(st.1,st.2++s):=by
 induction s with
 | nil=>intro st;simp
 | cons c s ih=>intro st;simp [Cn,ih]
theorem EC (n:Nat):∀ st,(List.replicate n []).foldl Cn st=if n=0 then st else (st.1++st.2 :: List.replicate (n - 1) [],[]):=by
 induction n with
 | zero=>intro st;rfl
 | succ n ih=>
  intro st
  simp only [List.replicate_succ,List.foldl_cons,Cn,ih]
  cases n with
  | zero=>simp
  | succ n=>simp [List.replicate_succ]
theorem Cp (s:List Nat):∀ st,(s.map Tq.sg).foldl spT st=(st.1,st.2++s):=by
 induction s with
 | nil=>intro st;simp
 | cons c s ih=>intro st;simp [spT,ih]
theorem ED (n:Nat):∀ (k:Nat) st,((List.range n).map fun j=>Tq.at (k+j)).foldl spT st=if n=0 then st else (st.1++st.2 :: List.replicate (n - 1) [],[]):=by
 induction n with
 | zero=>intro k st;rfl
 | succ n ih=>
  intro k st
  rw [List.range_succ,List.map_append,List.foldl_append,ih]
  cases n with
  | zero=>simp [spT]
  | succ n=>
   simp [spT]
   rw [←List.replicate_succ',List.replicate_succ]
theorem qI (c:List Pt):∀ st:BS,(asks c).foldl Cn (st.1.map Prod.fst,st.2.1)=((c.foldl eG st).1.map Prod.fst,(c.foldl eG st).2.1):=by
 induction c with
 | nil=>intro st;rfl
 | cons p c ih=>
  intro st
  have e:asks (p :: c)=p.asks++asks c:=by simp [asks]
  rw [e,List.foldl_append,List.foldl_cons,←ih]
  congr 1
  cases p with
  | drop s=>simp [Pt.asks,Co,eG]
  | put s=>simp [Pt.asks,eG]
  | keep n=>
   simp only [Pt.asks,EC]
   cases n with
   | zero=>rfl
   | succ n=>simp [eG]
theorem qJ (c:List Pt):∀ (k:Nat) (st:BS),(told k c).foldl spT (st.1.map Prod.snd,st.2.2)=((c.foldl eG st).1.map Prod.snd,(c.foldl eG st).2.2):=by
 induction c with
 | nil=>intro k st;rfl
 | cons p c ih=>
  intro k st
  rw [told,List.foldl_append,List.foldl_cons,←ih (k+p.asks.length)]
  congr 1
  cases p with
  | put s=>simp [Pt.told,Cp,eG]
  | drop s=>simp [Pt.told,eG]
  | keep n=>
   simp only [Pt.told,ED]
   cases n with
   | zero=>rfl
   | succ n=>simp [eG]
theorem yO {α β:Type}:∀ {a b:List (α×β)},a.map Prod.fst=b.map Prod.fst→a.map Prod.snd=b.map Prod.snd→a=b
 | [],[],_,_=>rfl
 | [],_ :: _,h,_=>by simp at h
 | _ :: _,[],h,_=>by simp at h
 | (x,y) :: a,(x',y') :: b,h1,h2=>by
  simp at h1 h2
  rw [h1.1,h2.1,yO h1.2 h2.2]
theorem nO {a b:List Pt}(h:jN a=jN b):blocks a=blocks b:=by
 have hA:asks a=asks b:=congrArg Prod.fst h
 have hT:told 0 a=told 0 b:=congrArg Prod.snd h
 have a1:=qI a pD
 have b1:=qI b pD
 have a2:=qJ a 0 pD
 have b2:=qJ b 0 pD
 rw [hA,b1] at a1
 rw [hT,b2] at a2
 have e1:=congrArg Prod.fst a1
 have e2:=congrArg Prod.snd a1
 have e3:=congrArg Prod.fst a2
 have e4:=congrArg Prod.snd a2
 unfold blocks
 exact Prod.ext (yO e1.symm e3.symm) (Prod.ext e2.symm e4.symm)
theorem mC (a b:List Pt):au a=au b↔jN a=jN b:=by
 constructor
 ·intro h
  rw [←mw a,←mw b,h]
 ·intro h
  rw [jg,jg,nO h]
theorem jq (a:List Pt):au (au a)=au a:=(mC _ _).mpr (mw a)
noncomputable def Pt.sw:Pt→Pt
 | .keep n=>.keep n
 | .put s=>.drop s
 | .drop s=>.put s
noncomputable def sw (c:List Pt):List Pt:=c.map Pt.sw
theorem tR (c:List Pt):∀ st:BS,(sw c).foldl eG (st.1.map Prod.swap,st.2.swap)=((c.foldl eG st).1.map Prod.swap,(c.foldl eG st).2.swap):=by
 induction c with
 | nil=>intro st;rfl
 | cons p c ih=>
  intro st
  simp only [sw,List.map_cons,List.foldl_cons] at ih ⊢
  rw [←ih]
  congr 1
  cases p with
  | put s=>rfl
  | drop s=>rfl
  | keep n=>cases n <;> simp [Pt.sw,eG]
theorem yP {a b:List Pt}(h:au a=au b):au (sw a)=au (sw b):=by
 have hb:=nO ((mC a b).mp h)
 rw [jg,jg]
 have a1:=tR a pD
 have b1:=tR b pD
 have e:blocks (sw a)=blocks (sw b):=by
  unfold blocks at hb ⊢
  have z:((pD.1.map Prod.swap,pD.2.swap):BS)=pD:=rfl
  rw [z] at a1 b1
  rw [a1,b1,hb]
 rw [e]
noncomputable def iQ (c:List Pt):List Pt:=au (sw c)
theorem tS (c:List Pt):iQ (au c)=iQ c:=yP (jq c)
theorem ND (c:List Pt):aZ (sw c)=iA c:=by
 induction c with
 | nil=>rfl
 | cons p c ih=>cases p <;> simp only [sw,List.map_cons,Pt.sw,kC,mz,kD,Ad,Ae,Af] at ih ⊢ <;> omega
noncomputable def aG:List Pt→List Nat→Bool
 | [],t=>t.isEmpty
 | .keep n :: c,t=>decide (n≤t.length)&&aG c (t.drop n)
 | .drop s :: c,t=>s.isPrefixOf t&&aG c (t.drop s.length)
 | .put _ :: c,t=>aG c t
noncomputable def aK:List Pt→List Nat→List Nat
 | [],_=>[]
 | .keep n :: c,t=>t.take n++aK c (t.drop n)
 | .drop s :: c,t=>aK c (t.drop s.length)
 | .put s :: c,t=>s++aK c t
noncomputable def aH:List (List Nat)→List Nat→Bool
 | [],[]=>true
 | x :: a,c :: t=>(decide (x=[]) || decide (x=[c]))&&aH a t
 | _,_=>false
theorem Cq (n:Nat) (a:List (List Nat)):∀ t,aH (List.replicate n []++a) t=(decide (n≤t.length)&&aH a (t.drop n)):=by
 induction n with
 | zero=>intro t;simp
 | succ n ih=>
  intro t
  cases t with
  | nil=>simp [List.replicate_succ,aH]
  | cons c t=>simp [List.replicate_succ,aH,ih]
theorem Cr (s:List Nat) (a:List (List Nat)):∀ t,aH ((s.map fun c=>[c])++a) t=(s.isPrefixOf t&&aH a (t.drop s.length)):=by
 induction s with
 | nil=>intro t;simp
 | cons c s ih=>
  intro t
  cases t with
  | nil=>simp [aH]
  | cons d t=>
   simp only [List.map_cons,List.cons_append,aH,ih,List.isPrefixOf,List.length_cons,List.drop_succ_cons]
   by_cases h:c=d <;> simp [h]
theorem cK (c:List Pt):∀ t,aG c t=aH (asks c) t:=by
 induction c with
 | nil=>intro t;cases t <;> rfl
 | cons p c ih=>
  intro t
  have e:asks (p :: c)=p.asks++asks c:=by simp [asks]
  rw [e]
  cases p with
  | keep n=>simp [aG,Pt.asks,Cq,ih]
  | drop s=>simp [aG,Pt.asks,Cr,ih]
  | put s=>simp [aG,Pt.asks,ih]
theorem gx (c:List Pt) (t:List Nat):aG (au c) t=aG c t:=by rw [cK,cK,cV]
noncomputable def pick (t:List Nat):Tq→List Nat
 | .at i=>(t[i]?).toList
 | .sg c=>[c]
theorem vY (c:List Pt):∀ (t:List Nat) (k:Nat),aK c (t.drop k)=(told k c).flatMap (pick t):=by
 induction c with
 | nil=>intro t k;rfl
 | cons p c ih=>
  intro t k
  rw [told,List.flatMap_append,←ih]
  cases p with
  | put s=>
   simp only [aK,Pt.told,Pt.asks,List.length_nil,Nat.add_zero]
   congr 1
   induction s with
   | nil=>rfl
   | cons c s ih=>simp [pick] at ih ⊢;exact ih
  | drop s=>simp [aK,Pt.told,Pt.asks,Nat.add_comm]
  | keep n=>
   simp only [aK,Pt.told,Pt.asks,List.length_replicate,List.drop_drop]
   congr 1
   induction n generalizing k with
   | zero=>simp
   | succ n ihn=>
    rw [List.range_succ,List.map_append,List.flatMap_append,←ihn]
    rw [List.take_add_one]
    simp [pick]
theorem cG (c:List Pt) (t:List Nat):aK (au c) t=aK c t:=by
 have h1:=vY (au c) t 0
 have h2:=vY c t 0
 rw [eX,←h2] at h1
 simpa using h1
theorem vZ (c:List Pt):∀ t,aG c t=true→aG (sw c) (aK c t)=true∧aK (sw c) (aK c t)=t:=by
 induction c with
 | nil=>intro t h;simp [aG] at h;subst h;simp [sw,aG,aK]
 | cons p c ih=>
  intro t h
  cases p with
  | keep n=>
   simp only [aG,Bool.and_eq_true,decide_eq_true_eq] at h
   obtain ⟨h1,h2⟩:=ih _ h.2
   have hl:(t.take n).length=n:=by simp;omega
   simp only [sw,List.map_cons,Pt.sw,aK,aG] at h1 h2 ⊢
   have e1:(t.take n++aK c (t.drop n)).drop n=aK c (t.drop n):=by rw [List.drop_append_of_le_length (by omega),List.drop_eq_nil_of_le (by omega)];rfl
   have e2:(t.take n++aK c (t.drop n)).take n=t.take n:=by rw [List.take_append_of_le_length (by omega),List.take_take,Nat.min_self]
   rw [e1,e2,h1,h2]
   simp
   omega
  | drop s=>
   simp only [aG,Bool.and_eq_true] at h
   obtain ⟨h1,h2⟩:=ih _ h.2
   simp only [sw,List.map_cons,Pt.sw,aK,aG] at h1 h2 ⊢
   rw [h2]
   refine ⟨h1,?_⟩
   obtain ⟨r,rfl⟩:=List.isPrefixOf_iff_prefix.mp h.1
   simp
  | put s=>
   simp only [aG] at h
   obtain ⟨h1,h2⟩:=ih _ h
   simp only [sw,List.map_cons,Pt.sw,aK,aG] at h1 h2 ⊢
   simp [h1,h2]
end Pv
namespace Pv
open Ev (D bU bQ TY BI ME T E Es Eo It S Ss Fn big deep b2i rep cC dP bP aS cut cR eF slots)
noncomputable def EE:S:=.set 2 (.c (.int 0))
noncomputable def EF (bO:Nat):Ss:=(.cons (.iff (.an (.cmp .eq (.ix (.v 3) (.c (.int 0))) (.c (.str [100,114,111,112]))) (.cmp .ne (.sl (.v 1) (.yes (.v 2)) (.yes (.bin .add (.v 2) (.cl bO (.cons (.v 3) .nil))))) (.ix (.v 3) (.c (.int 1))))) (.cons (.ret (.c (.bl false))) .nil) .nil) (.cons (.iff (.cmp .ne (.ix (.v 3) (.c (.int 0))) (.c (.str [112,117,116]))) (.cons (.set 2 (.bin .add (.v 2) (.cl bO (.cons (.v 3) .nil)))) .nil) .nil) .nil))
noncomputable def EG (bO:Nat):S:=.for (.one 3) (.seq (.v 0)) (EF bO)
noncomputable def EH:S:=.ret (.cmp .eq (.v 2) (.bi .len (.cons (.v 1) .nil)))
noncomputable def lE (bO:Nat):Fn:=⟨2,4,(.cons EE (.cons (EG bO) (.cons EH .nil)))⟩
noncomputable def EI (gy:Nat):S:=.iff (.nt (.cl gy (.cons (.v 0) (.cons (.v 1) .nil)))) (.cons (.fL) .nil) .nil
noncomputable def EJ:S:=.set 2 (.lst .nil)
noncomputable def EK:S:=.set 3 (.c (.int 0))
noncomputable def EL:Ss:=(.cons (.iff (.cmp .eq (.v 4) (.c (.str [112,117,116]))) (.cons (.exp (.me .append (.v 2) (.cons (.v 5) .nil))) .nil) (.cons (.iff (.cmp .eq (.v 4) (.c (.str [100,114,111,112]))) (.cons (.set 3 (.bin .add (.v 3) (.bi .len (.cons (.v 5) .nil)))) .nil) (.cons (.exp (.me .append (.v 2) (.cons (.sl (.v 1) (.yes (.v 3)) (.yes (.bin .add (.v 3) (.v 5)))) .nil))) (.cons (.set 3 (.bin .add (.v 3) (.v 5))) .nil))) .nil)) .nil)
noncomputable def EM:S:=.for (.many [4,5]) (.seq (.v 0)) EL
noncomputable def EN:S:=.ret (.me .join (.c (.str [])) (.cons (.v 2) .nil))
noncomputable def qK (gy:Nat):Fn:=⟨2,6,(.cons (EI gy) (.cons EJ (.cons EK (.cons EM (.cons EN .nil)))))⟩
noncomputable def Ag (bE:Nat):S:=.ret (.cl bE (.cons (.iT (.comp (.tup (.cons (.jy [(.str [107,101,101,112],.str [107,101,101,112]),(.str [112,117,116],.str [100,114,111,112]),(.str [100,114,111,112],.str [112,117,116])] (.v 1)) (.cons (.v 2) .nil))) (.many [1,2]) (.seq (.v 0)) .no)) .nil))
noncomputable def EO (bE:Nat):Fn:=⟨1,3,(.cons (Ag bE) .nil)⟩
noncomputable def xo (bE:Nat):S:=.ret (.cl bE (.cons (.tup (.cons (.tup (.cons (.c (.str [107,101,101,112])) (.cons (.v 0) .nil))) .nil)) .nil))
noncomputable def nQ (bE:Nat):Fn:=⟨1,1,(.cons (xo bE) .nil)⟩
theorem Cs {α:Type}(l:List α) (p k:Nat):cut l (some (p:Int)) (some ((p:Int)+k))=(l.drop p).take k:=by
 have h1:¬ (p:Int)<0:=by omega
 have h2:¬ (p:Int)+k<0:=by omega
 have h3:((p:Int)+k).toNat=p+k:=by omega
 simp only [cut,aS,h1,h2,if_false,h3,Int.toNat_natCast]
 by_cases hp:p≤l.length
 ·rw [Nat.min_eq_left hp]
  by_cases hk:p+k≤l.length
  ·rw [Nat.min_eq_left hk];congr 1;omega
  ·rw [Nat.min_eq_right (by omega),List.take_of_length_le (by simp),List.take_of_length_le (by simp;omega)]
 ·have e1:min p l.length=l.length:=by omega
  rw [e1,List.drop_eq_nil_of_le (Nat.le_refl _),List.drop_eq_nil_of_le (by omega)]
  simp
theorem pre_take {s t:List Nat}:s.isPrefixOf t=decide (t.take s.length=s):=by
 cases h:s.isPrefixOf t with
 | true=>
  obtain ⟨r,rfl⟩:=List.isPrefixOf_iff_prefix.mp h
  simp
 | false=>
  symm
  rw [decide_eq_false_iff_not]
  intro e
  have:s.isPrefixOf t=true:=List.isPrefixOf_iff_prefix.mpr (by have z:=List.take_prefix s.length t;rw [e] at z;exact z)
  rw [h] at this;cases this
theorem yQ (a b:List Pt):aZ (a++b)=aZ a+aZ b:=by simp [aZ,tot]
theorem iB {c:List Pt}:∀ {t:List Nat},aG c t=true→t.length=aZ c:=by
 induction c with
 | nil=>intro t h;simp [aG] at h;subst h;rfl
 | cons p c ih=>
  intro t h
  cases p with
  | keep n=>simp only [aG,Bool.and_eq_true,decide_eq_true_eq] at h;have:=ih h.2;rw [kC];simp at this;omega
  | drop s=>
   simp only [aG,Bool.and_eq_true] at h
   have h2:=ih h.2
   obtain ⟨r,rfl⟩:=List.isPrefixOf_iff_prefix.mp h.1
   rw [mz];simp at h2 ⊢;omega
  | put s=>rw [kD];exact ih h
theorem ER (c:List Pt):∀ t,(aK c t).length≤t.length+tot c:=by
 induction c with
 | nil=>intro t;simp [aK]
 | cons p c ih=>
  intro t
  rw [aW]
  cases p with
  | keep n=>have:=ih (t.drop n);simp [aK,Pt.n] at this ⊢;omega
  | drop s=>have:=ih (t.drop s.length);simp [aK,Pt.n] at this ⊢;omega
  | put s=>have:=ih t;simp [aK,Pt.n] at this ⊢;omega
section
variable {F:List Fn}{w n aE dg bH aV i:Nat}
theorem ES (c:List Pt) (t:List Nat) (q:Nat) (p:Pt) (l:List Pt) (h:aG c t=(decide (q≤t.length)&&aG (p :: l) (t.drop q))) :
  (dS p=true→(∃ s,p=.drop s∧(if (t.drop q).take s.length=s then aG c t=(decide (q+s.length≤t.length)&&aG l (t.drop (q+s.length))) else aG c t=false)))∧
  (dS p=false→aG c t=(decide (q+aZ [p]≤t.length)&&aG l (t.drop (q+aZ [p])))):=by
 cases p with
 | drop s=>
  refine ⟨fun _=>⟨s,rfl,?_⟩,fun z=>by simp [dS] at z⟩
  simp only [aG,pre_take,List.drop_drop] at h
  split
  ·rename_i hs
   rw [h]
   simp only [hs,decide_true,Bool.true_and]
   have hl:=congrArg List.length hs
   simp at hl
   by_cases hq:q≤t.length
   ·by_cases hq2:q+s.length≤t.length
    ·simp [hq,hq2]
    ·omega
   ·have:¬ q+s.length≤t.length:=by omega
    simp [hq,this]
  ·rename_i hs
   rw [h];simp [hs]
 | keep k=>
  refine ⟨fun z=>by simp [dS] at z,fun _=>?_⟩
  have e:aZ [.keep k]=k:=by rw [kC];rfl
  rw [h,e]
  simp only [aG,List.drop_drop,List.length_drop]
  by_cases hq:q≤t.length
  ·by_cases hq2:q+k≤t.length
   ·have:k≤t.length - q:=by omega
    simp [hq,hq2,this]
   ·have:¬ k≤t.length - q:=by omega
    simp [hq2,this]
  ·have:¬ q+k≤t.length:=by omega
   simp [hq,this]
 | put s=>
  refine ⟨fun z=>by simp [dS] at z,fun _=>?_⟩
  have e:aZ [.put s]=0:=by rw [kD];rfl
  rw [h,e]
  simp [aG]
theorem mD (hs:F[aE]?=some di) (hf:F[i]?=some (lE aE)) (c:List Pt) (t:List Nat) (h1:tot c≤10000) (h2:t.length≤10000):run F w (n+2) i [.val (ay c),.val (.str t)]=some (.bl (aG c t),[]):=by
 refine b7 hf rfl ?_
 refine ai (bI (by repeat array_get_dec) rfl rfl ?_)
 refine ai (jJ (vs:=c.map Pt.v) (eB (fD rfl) rfl) ?_)
 refine gb (e:=Pt.v) (fun p l fr=>p++l=c∧aG c t=(decide (aZ p≤t.length)&&aG l (t.drop (aZ p)))∧∃ a,vo a∧fr=[some (.val (ay c)),some (.val (.str t)),some (.val (.int (aZ p))),a]) (fun p x l fr ⟨hpl,hfit,a,ha,hfr⟩=>?_) (fun p fr ⟨hpl,hfit,a,ha,hfr⟩=>?_) c [] _ ⟨rfl,by simp [aZ,tot],none,.none,rfl⟩
 ·subst hfr
  have vO:tot p+x.n+tot l=tot c:=by rw [←hpl,dY,aW];omega
  have sz:=fun fr=>bY (fr:=fr) (gv (w:=w) (n:=n) hs x (by omega))
  obtain ⟨k1,k2⟩:=ES c t (aZ p) x l hfit
  have iY:(p++[x])++l=c:=by simpa using hpl
  have eb:aZ (p++[x])=aZ p+aZ [x]:=yQ p [x]
  have ei:((aZ (p++[x]):Nat):Int)=(aZ p:Int)+(aZ [x]:Nat):=by rw [eb];simp
  cases x with
  | drop s=>
   obtain ⟨s',e,k1⟩:=k1 rfl
   cases e
   have e2:aZ [.drop s]=s.length:=by rw [mz];rfl
   rw [e2] at eb ei
   have cu:iG (.str t) (some (aZ p:Int)) (some ((aZ p:Int)+((Pt.drop s).n:Nat)))=some (.str ((t.drop (aZ p)).take s.length)):=by rw [jQ];exact congrArg (fun z=>some (V.str z)) (Cs t (aZ p) s.length)
   by_cases hx:(t.drop (aZ p)).take s.length=s
   ·rw [if_pos hx] at k1
    have ne:cop .ne (.str ((t.drop (aZ p)).take s.length)) (.str s)=some false:=by rw [je,decide_eq_true hx];rfl
    refine dR (bind1 rfl ha) (ai (aM (b:=false) (dQ (b2:=false) (aD rfl (by repeat array_get_dec) rfl) (aD rfl (by (repeat (first | array_get_dec | exact sz _))) rfl)) (fun h=>absurd h (by decide)) fun _=>aC ?_))
    refine ai (aM (by repeat array_get_dec) (fun _=>?_) fun h=>absurd h (by decide))
    refine ai (bI (by (repeat (first | array_get_dec | exact sz _))) rfl rfl (aC (aC ?_)))
    rw [gm]
    exact ⟨iY,by rw [eb];exact k1,some (.val (Pt.drop s).v),.val,by rw [ei];rfl⟩
   ·rw [if_neg hx] at k1
    have ne:cop .ne (.str ((t.drop (aZ p)).take s.length)) (.str s)=some true:=by rw [je,decide_eq_false hx];rfl
    refine dR (bind1 rfl ha) (ai (aM (b:=true) (dQ (b2:=true) (aD rfl (by repeat array_get_dec) rfl) (aD rfl (by (repeat (first | array_get_dec | exact sz _))) rfl)) (fun _=>?_) fun h=>absurd h (by decide)))
    refine ai (bM (by repeat array_get_dec) ?_)
    show nx _ _ _ _ _ _
    rw [k1];exact ⟨rfl,rfl⟩
  | keep k=>
   have k2:=k2 rfl
   have e2:aZ [.keep k]=k:=by rw [kC];rfl
   rw [e2] at k2 eb ei
   refine dR (bind1 rfl ha) (ai (aM (b:=false) (iN (aD rfl (by repeat array_get_dec) rfl)) (fun h=>absurd h (by decide)) fun _=>aC ?_))
   refine ai (aM (by repeat array_get_dec) (fun _=>?_) fun h=>absurd h (by decide))
   refine ai (bI (by (repeat (first | array_get_dec | exact sz _))) rfl rfl (aC (aC ?_)))
   rw [gm]
   exact ⟨iY,by rw [eb];exact k2,some (.val (Pt.keep k).v),.val,by rw [ei];rfl⟩
  | put s=>
   have k2:=k2 rfl
   have e2:aZ [.put s]=0:=by rw [kD];rfl
   rw [e2] at k2 eb
   refine dR (bind1 rfl ha) (ai (aM (b:=false) (iN (aD rfl (by repeat array_get_dec) rfl)) (fun h=>absurd h (by decide)) fun _=>aC ?_))
   refine ai (aM (by repeat array_get_dec) (fun h=>absurd h (by decide)) fun _=>aC (aC ?_))
   rw [gm]
   exact ⟨iY,by rw [eb];exact k2,some (.val (Pt.put s).v),.val,by rw [eb];rfl⟩
 ·subst hfr
  simp at hpl
  subst hpl
  have e:decide ((aZ p:Int)=(t.length:Nat))=aG p t:=by
   rw [hfit]
   simp only [aG]
   by_cases hq:aZ p=t.length
   ·have:(aZ p:Int)=t.length:=by omega
    simp [this,hq]
   ·have:¬ (aZ p:Int)=t.length:=by omega
    simp [this]
    intro h
    omega
  have ln:cS .len [.str t]=some (.int (t.length:Nat)):=len_str (by omega)
  have eq:cop .eq (.int (aZ p)) (.int (t.length:Nat))=some (aG p t):=by rw [z9,e]
  have sh:gE [some (.val (ay p)),some (.val (.str t)),some (.val (.int (aZ p))),a]=[some (.val (ay p)),some (.val (.str t)),some (.val (.int (aZ p))),a]:=by
   show _ :: _ :: _ :: [a.map Sl.dU]=_
   rw [cP ha];rfl
  refine ai (bM (v:=.bl (aG p t)) (af:=[some (.val (ay p)),some (.val (.str t)),some (.val (.int (aZ p))),a]) ?_ ⟨rfl,rfl⟩)
  rw [sh]
  repeat array_get_dec
theorem ET (hs:F[aE]?=some di) (hf:F[dg]?=some (lE aE)) (hd:F[i]?=some (qK dg)) (c:List Pt) (t:List Nat) (h1:tot c≤10000) (h2:t.length≤10000) (h3:c.length≤10000) (h:aG c t=true):run F w (n+3) i [.val (ay c),.val (.str t)]=some (.str (aK c t),[]):=by
 refine b7 hd rfl ?_
 have ft:=fun fr=>call2 (fr:=fr) (mD (w:=w) (n:=n) hs hf c t h1 h2)
 rw [h] at ft
 refine ai (aM (b:=false) (jI (aD (b:=true) rfl (by (repeat (first | array_get_dec | exact ft _))) rfl)) (fun h=>absurd h (by decide)) fun _=>aC ?_)
 refine ai (gQ (l:=[]) (by repeat array_get_dec) rfl rfl ?_)
 refine ai (bI (by repeat array_get_dec) rfl rfl ?_)
 refine ai (jJ (vs:=c.map Pt.v) (eB (fD rfl) rfl) ?_)
 refine gb (e:=Pt.v) (fun p l fr=>p++l=c∧∃ ps a b,vo a∧vo b∧ps.length≤p.length∧ps.flatten++aK l (t.drop (aZ p))=aK c t∧fr=[some (.val (ay c)),some (.val (.str t)),some (.own (ps.map V.str)),some (.val (.int (aZ p))),a,b]) (fun p x l fr ⟨hpl,ps,a,b,ha,hb,hl,hd,hfr⟩=>?_) (fun p fr ⟨hpl,ps,a,b,ha,hb,hl,hd,hfr⟩=>?_) c [] _ ⟨rfl,[],none,none,.none,.none,by simp,by simp [aZ,tot],rfl⟩
 ·subst hfr
  have iY:(p++[x])++l=c:=by simpa using hpl
  have eb:aZ (p++[x])=aZ p+aZ [x]:=yQ p [x]
  have ei:((aZ (p++[x]):Nat):Int)=(aZ p:Int)+(aZ [x]:Nat):=by rw [eb];simp
  have vO:tot p+x.n+tot l=tot c:=by rw [←hpl,dY,aW];omega
  have hlen:p.length+l.length+1=c.length:=by rw [←hpl];simp;omega
  have ap:∀ (fr:Fr) (z:List Nat),gP .append 2 [.str z] fr (some (some (.own (ps.map V.str))))=.ok .aP (fr.set 2 (some (.own ((ps++[z]).map V.str)))):=fun fr z=>by
   rw [List.map_append];exact jR (by simp;omega)
  cases x with
  | put s=>
   have e2:aZ [.put s]=0:=by rw [kD];rfl
   rw [e2] at eb
   refine dR (oN rfl ha rfl hb) (ai (aM (by repeat array_get_dec) (fun _=>?_) fun h=>absurd h (by decide)))
   refine ai (fC (by (repeat (first | array_get_dec | exact ap _ _))) (aC (aC ?_)))
   rw [gm]
   exact ⟨iY,ps++[s],some (.val (.str mq)),some (.val (.str s)),.val,.val,by simp;omega,by rw [eb];simpa [aK] using hd,by rw [eb];rfl⟩
  | drop s=>
   have e2:aZ [.drop s]=s.length:=by rw [mz];rfl
   rw [e2] at eb ei
   have Xy:s.length≤tot c:=by simp only [Pt.n] at vO;omega
   have ln:cS .len [.str s]=some (.int (s.length:Nat)):=len_str (by omega)
   refine dR (oN rfl ha rfl hb) (ai (aM (by repeat array_get_dec) (fun h=>absurd h (by decide)) fun _=>?_))
   refine ai (aM (by repeat array_get_dec) (fun _=>?_) fun h=>absurd h (by decide))
   refine ai (bI (by repeat array_get_dec) rfl rfl (aC (aC (aC ?_))))
   rw [gm]
   exact ⟨iY,ps,some (.val (.str jK)),some (.val (.str s)),.val,.val,by simp;omega,by rw [eb];simpa [aK] using hd,by rw [ei];rfl⟩
  | keep k=>
   have e2:aZ [.keep k]=k:=by rw [kC];rfl
   rw [e2] at eb ei
   have cu:iG (.str t) (some (aZ p:Int)) (some ((aZ p:Int)+(k:Nat)))=some (.str ((t.drop (aZ p)).take k)):=by rw [jQ,Cs]
   refine dR (oN rfl ha rfl hb) (ai (aM (by repeat array_get_dec) (fun h=>absurd h (by decide)) fun _=>?_))
   refine ai (aM (by repeat array_get_dec) (fun h=>absurd h (by decide)) fun _=>?_)
   refine ai (fC (by (repeat (first | array_get_dec | exact ap _ _))) ?_)
   refine ai (bI (by repeat array_get_dec) rfl rfl (aC (aC (aC ?_))))
   rw [gm]
   exact ⟨iY,ps++[(t.drop (aZ p)).take k],some (.val (.str dX)),some (.val (.int k)),.val,.val,by simp;omega,by rw [eb];simpa [aK] using hd,by rw [ei];rfl⟩
 ·subst hfr
  simp at hpl
  subst hpl
  have hd':ps.flatten=aK p t:=by simpa [aK] using hd
  have dl:=ER p t
  have hj:=zT (l:=ps) (by rw [hd'];omega)
  rw [hd'] at hj
  have sh:gE [some (.val (ay p)),some (.val (.str t)),some (.own (ps.map V.str)),some (.val (.int (aZ p))),a,b]=[some (.val (ay p)),some (.val (.str t)),some (.val (.lst (ps.map V.str))),some (.val (.int (aZ p))),a,b]:=by
   show _ :: _ :: _ :: _ :: a.map Sl.dU :: [b.map Sl.dU]=_
   rw [cP ha,cP hb];rfl
  refine ai (bM (v:=.str (aK p t)) (af:=[some (.val (ay p)),some (.val (.str t)),some (.val (.lst (ps.map V.str))),some (.val (.int (aZ p))),a,b]) ?_ ⟨rfl,rfl⟩)
  rw [sh]
  repeat array_get_dec
theorem Ct (c:List Pt):tot (sw c)=tot c:=by
 induction c with
 | nil=>rfl
 | cons p c ih=>simp only [sw,List.map_cons,aW] at ih ⊢;rw [ih];cases p <;> rfl
theorem mE (hst:F[aV]?=some eV) (hf:F[bH]?=some (jm aV)) (hu:F[i]?=some (EO bH)) (c:List Pt) (h1:c.length≤10000) (h2:tot c≤10000):run F w (n+3) i [.val (ay c)]=some (ay (iQ c),[]):=by
 have hl:(c.map fun p=>p.sw.v).length≤big:=by rw [List.length_map];exact Nat.le_trans h1 (by decide)
 have cf:=fun fr=>bY (fr:=fr) (eZ (w:=w) (n:=n) hst hf (sw c) (by rw [sw,List.length_map];exact h1) (by rw [Ct];exact h2))
 rw [show ay (sw c)=.tup (c.map fun p=>p.sw.v) by simp only [ay,sw,List.map_map];rfl] at cf
 exact b7 hu rfl (ai (bM (aO (az rfl (qB (iM (eB (fD rfl) rfl) rfl (iz _ (fun p=>p.sw.v) c fun p _=>by
  cases p <;> exact lg rfl (qy (bg (Cb (av rfl) rfl) (bg (av rfl) bw)) zR)) (eU hl)) (jl hl)) aB) (cf _)) ⟨rfl,rfl⟩))
end
end Pv
namespace Pv
open Ev (rep)
theorem Cu (ns:List Int) (at_:Int) (s:List Nat) (k:Nat):tot (jL ns at_ s k)≤3:=by
 have h1:=kZ ns (at_+4*k+2) (many:=2) (by decide)
 have h2:=kY ns (at_+4*k+2) (many:=2) (by decide)
 unfold jL
 rw [dY]
 have a:tot (if cT ns (at_+4*k) 4=0 then [Pt.put (rep (1+cT ns (at_+4*k+2) 2).toNat [[97,98,122].getD (cT ns (at_+4*k+1) 3).toNat 0])] else [])≤2:=by
  split
  ·simp [tot,Pt.n,rep];omega
  ·simp [tot]
 cases s[k]? with
 | none=>simp [tot] at a ⊢;omega
 | some c=>
  have b:tot [if 0<cT ns (at_+4*k+3) 3 then Pt.keep 1 else Pt.drop [c]]≤1:=by split <;> simp [tot,Pt.n]
  simp only at b ⊢
  omega
theorem tT (ns:List Int) (at_:Int) (s:List Nat):∀ k,tot (fU ns at_ s k)≤3*k
 | 0=>by simp [fU,tot]
 | k+1=>by
  have h1:=Cu ns at_ s k
  have h2:=tT ns at_ s k
  rw [jM,dY]
  omega
theorem pV:∀ {a:List (List Nat)}{t:List Nat},aH a t=true→a.length=t.length
 | [],[],_=>rfl
 | x :: a,c :: t,h=>by simp [aH] at h;simp [pV h.2]
 | [],_ :: _,h=>by simp [aH] at h
 | _ :: _,[],h=>by simp [aH] at h
theorem wc:∀ {a b:List (List Nat)}{t u:List Nat},aH a t=true→aH b u=true→aH (a++b) (t++u)=true
 | [],_,[],_,_,hb=>hb
 | x :: a,b,c :: t,u,ha,hb=>by
  simp only [aH,Bool.and_eq_true] at ha
  simp only [List.cons_append,aH,Bool.and_eq_true]
  exact ⟨ha.1,wc ha.2 hb⟩
 | [],_,_ :: _,_,ha,_=>by simp [aH] at ha
 | _ :: _,_,[],_,ha,_=>by simp [aH] at ha
theorem Jq (ns:List Int) (at_:Int) (s:List Nat) (k:Nat):aH (asks (jL ns at_ s k)) (s[k]?).toList=true:=by
 unfold jL
 rw [e8]
 have a:asks (if cT ns (at_+4*k) 4=0 then [Pt.put (rep (1+cT ns (at_+4*k+2) 2).toNat [[97,98,122].getD (cT ns (at_+4*k+1) 3).toNat 0])] else [])=[]:=by
  split <;> simp [asks,Pt.asks]
 rw [a]
 cases s[k]? with
 | none=>simp [asks,aH]
 | some c=>simp only;split <;> simp [asks,Pt.asks,aH]
theorem Cv (ns:List Int) (at_:Int) (s:List Nat):∀ k,aH (asks (fU ns at_ s k)) (s.take k)=true
 | 0=>by simp [fU,asks,aH]
 | k+1=>by
  rw [jM,e8,List.take_add_one]
  exact wc (Cv ns at_ s k) (Jq ns at_ s k)
theorem yR (ns:List Int) (at_:Int) (s:List Nat):aG (chg ns at_ s) s=true:=by
 have:=Cv ns at_ s (s.length+1)
 rw [List.take_of_length_le (by omega)] at this
 rw [cK];exact this
end Pv
namespace Pv
inductive At where
 | k | d (c:Nat) | p (c:Nat)
noncomputable def Pt.aF:Pt→List At
 | .keep n=>List.replicate n .k
 | .drop s=>s.map .d
 | .put s=>s.map .p
noncomputable def aF (c:List Pt):List At:=c.flatMap Pt.aF
theorem gc (a b:List Pt):aF (a++b)=aF a++aF b:=by simp [aF]
theorem bL (p:Pt) (c:List Pt):aF (p :: c)=p.aF++aF c:=by simp [aF]
theorem we (p:Pt):p.aF.length=p.n:=by cases p <;> simp [Pt.aF,Pt.n]
theorem gF (c:List Pt):(aF c).length=tot c:=by
 induction c with
 | nil=>rfl
 | cons p c ih=>rw [bL,List.length_append,we,ih,aW]
noncomputable def tA:Nat→List At→List Tq
 | _,[]=>[]
 | i,.k :: a=>.at i :: tA (i+1) a
 | i,.d _ :: a=>tA (i+1) a
 | i,.p c :: a=>.sg c :: tA i a
noncomputable def aA:List At→List (List Nat)
 | []=>[]
 | .k :: a=>[] :: aA a
 | .d c :: a=>[c] :: aA a
 | .p _ :: a=>aA a
noncomputable def dA:List At→List Nat→List Nat
 | [],_=>[]
 | .k :: a,t=>t.take 1++dA a (t.drop 1)
 | .d _ :: a,t=>dA a (t.drop 1)
 | .p c :: a,t=>c :: dA a t
noncomputable def pF:At→At
 | .k=>.k
 | .d c=>.p c
 | .p c=>.d c
noncomputable def cA:List At→Nat
 | []=>0
 | .k :: a=>cA a
 | _ :: a=>cA a+1
theorem qL:∀ a b:List At,aA (a++b)=aA a++aA b
 | [],_=>rfl
 | .k :: a,b=>by simp [aA,qL a b]
 | .d c :: a,b=>by simp [aA,qL a b]
 | .p c :: a,b=>by simp [aA,qL a b]
theorem qM:∀ (a b:List At) (i:Nat),tA i (a++b)=tA i a++tA (i+(aA a).length) b
 | [],_,_=>rfl
 | .k :: a,b,i=>by simp [tA,aA,qM a b,Nat.add_assoc,Nat.add_comm 1]
 | .d c :: a,b,i=>by simp [tA,aA,qM a b,Nat.add_assoc,Nat.add_comm 1]
 | .p c :: a,b,i=>by simp [tA,aA,qM a b]
theorem qN:∀ a b:List At,cA (a++b)=cA a+cA b
 | [],b=>by simp [cA]
 | .k :: a,b=>by simp [cA,qN a b]
 | .d c :: a,b=>by simp [cA,qN a b];omega
 | .p c :: a,b=>by simp [cA,qN a b];omega
theorem GL (p:Pt):aA p.aF=p.asks:=by
 cases p with
 | keep n=>simp only [Pt.aF,Pt.asks];induction n <;> simp_all [List.replicate_succ,aA]
 | drop s=>simp only [Pt.aF,Pt.asks];induction s <;> simp_all [aA]
 | put s=>simp only [Pt.aF,Pt.asks];induction s <;> simp_all [aA]
theorem PX (p:Pt):∀ i,tA i p.aF=p.told i:=by
 cases p with
 | keep n=>
  simp only [Pt.aF,Pt.told]
  induction n with
  | zero=>intro i;rfl
  | succ n ih=>intro i;simp only [List.replicate_succ,tA,ih,List.range_succ_eq_map,List.map_cons,List.map_map];simp [Function.comp_def,Nat.add_assoc,Nat.add_comm 1]
 | drop s=>intro i;simp only [Pt.aF,Pt.told];induction s generalizing i <;> simp_all [tA]
 | put s=>intro i;simp only [Pt.aF,Pt.told];induction s generalizing i <;> simp_all [tA]
theorem PY (p:Pt):cA p.aF=cst [p]:=by
 cases p with
 | keep n=>simp only [Pt.aF];rw [GF];induction n <;> simp_all [List.replicate_succ,cA,cst,tot]
 | drop s=>simp only [Pt.aF];rw [GG];induction s <;> simp_all [cA,cst,tot]
 | put s=>simp only [Pt.aF];rw [GH];induction s <;> simp_all [cA,cst,tot]
theorem cH (c:List Pt):asks c=aA (aF c):=by
 induction c with
 | nil=>rfl
 | cons p c ih=>rw [bL,qL,GL,←ih];simp [asks]
theorem fc (c:List Pt):∀ i,told i c=tA i (aF c):=by
 induction c with
 | nil=>intro i;rfl
 | cons p c ih=>intro i;rw [bL,qM,PX,GL,←ih,told]
theorem r8 (c:List Pt):cst c=cA (aF c):=by
 induction c with
 | nil=>rfl
 | cons p c ih=>
  rw [bL,qN,PY,←ih]
  simp [cst,tot]
  cases p <;> simp [List.filter_cons,cZ]
theorem wg (c:List Pt):aF (sw c)=(aF c).map pF:=by
 induction c with
 | nil=>rfl
 | cons p c ih=>
  have:aF (sw (p :: c))=p.sw.aF++aF (sw c):=by simp [aF,sw]
  rw [this,ih,bL,List.map_append]
  congr 1
  cases p <;> simp [Pt.sw,Pt.aF,pF,Function.comp_def]
theorem fh:∀ (c:List Pt) (t:List Nat),aK c t=dA (aF c) t:=by
 have k:∀ (n:Nat) (a:List At) (t:List Nat),dA (List.replicate n .k++a) t=t.take n++dA a (t.drop n):=fun n=>by
  induction n with
  | zero=>intro a t;simp
  | succ n ih=>
   intro a t
   simp only [List.replicate_succ,List.cons_append,dA,ih,List.drop_drop]
   cases t with
   | nil=>simp
   | cons c t=>simp [Nat.add_comm 1]
 have d:∀ (s:List Nat) (a:List At) (t:List Nat),dA (s.map .d++a) t=dA a (t.drop s.length):=fun s=>by
  induction s with
  | nil=>intro a t;simp
  | cons c s ih=>intro a t;simp [dA,ih,Nat.add_comm 1]
 have p:∀ (s:List Nat) (a:List At) (t:List Nat),dA (s.map .p++a) t=s++dA a t:=fun s=>by
  induction s with
  | nil=>intro a t;simp
  | cons c s ih=>intro a t;simp [dA,ih]
 intro c
 induction c with
 | nil=>intro t;rfl
 | cons q c ih=>
  intro t
  rw [bL]
  cases q with
  | keep n=>simp only [Pt.aF,k,aK,ih]
  | drop s=>simp only [Pt.aF,d,aK,ih]
  | put s=>simp only [Pt.aF,p,aK,ih]
noncomputable def Cw:List At→Bool
 | .d _ :: _=>false
 | _=>true
inductive Th:List At→List At→List At→Prop
 | nil:Th [] [] []
 | d {a b r c}:Th a b r→Th (.d c :: a) b (.d c :: r)
 | p {a b r c}:Cw a=true→Th a b r→Th a (.p c :: b) (.p c :: r)
 | kk {a b r}:Th a b r→Th (.k :: a) (.k :: b) (.k :: r)
 | kd {a b r c}:Th a b r→Th (.k :: a) (.d c :: b) (.d c :: r)
 | pk {a b r c}:Th a b r→Th (.p c :: a) (.k :: b) (.p c :: r)
 | pd {a b r c}:Th a b r→Th (.p c :: a) (.d c :: b) r
noncomputable def sub (L:List Tq):Tq→Tq
 | .at j=>L.getD j (.sg 0)
 | .sg c=>.sg c
theorem qO {L M:List Tq}{q:Tq}{j:Nat}(h:L.length=j):sub (L++q :: M) (.at j)=q:=by
 subst h;simp [sub]
theorem Th.told {a b r:List At}(h:Th a b r):∀ (i j:Nat) (L:List Tq),L.length=j→tA i r=(tA j b).map (sub (L++tA i a)):=by
 induction h with
 | nil=>intro i j L hL;rfl
 | d h ih=>intro i j L hL;exact ih (i+1) j L hL
 | p _ h ih=>intro i j L hL;simp only [tA,List.map_cons];rw [ih i j L hL];rfl
 | kk h ih=>
  intro i j L hL
  simp only [tA,List.map_cons]
  rw [ih (i+1) (j+1) (L++[.at i]) (by simp [hL]),qO hL];simp
 | kd h ih=>
  intro i j L hL
  simp only [tA]
  rw [ih (i+1) (j+1) (L++[.at i]) (by simp [hL])];simp
 | @pk _ _ _ c h ih=>
  intro i j L hL
  simp only [tA,List.map_cons]
  rw [ih i (j+1) (L++[.sg c]) (by simp [hL]),qO hL];simp
 | @pd _ _ _ c h ih=>
  intro i j L hL
  simp only [tA]
  rw [ih i (j+1) (L++[.sg c]) (by simp [hL])];simp
theorem Th.back {a b r:List At}(h:Th a b r):∀ (i j:Nat) (L:List Tq),L.length=j→tA i (r.map pF)=(tA j (a.map pF)).map (sub (L++tA i (b.map pF))):=by
 induction h with
 | nil=>intro i j L hL;rfl
 | d h ih=>intro i j L hL;simp only [List.map_cons,pF,tA];rw [ih i j L hL];rfl
 | p _ h ih=>intro i j L hL;exact ih (i+1) j L hL
 | kk h ih=>
  intro i j L hL
  simp only [List.map_cons,pF,tA]
  rw [ih (i+1) (j+1) (L++[.at i]) (by simp [hL]),qO hL];simp
 | @kd _ _ _ c h ih=>
  intro i j L hL
  simp only [List.map_cons,pF,tA]
  rw [ih i (j+1) (L++[.sg c]) (by simp [hL]),qO hL];simp
 | pk h ih=>
  intro i j L hL
  simp only [List.map_cons,pF,tA]
  rw [ih (i+1) (j+1) (L++[.at i]) (by simp [hL])];simp
 | @pd _ _ _ c h ih=>
  intro i j L hL
  simp only [List.map_cons,pF,tA]
  rw [ih i (j+1) (L++[.sg c]) (by simp [hL])];simp
theorem Th.fit {a b r:List At}(h:Th a b r):∀ t,aH (aA a) t=true→aH (aA b) (dA a t)=true→aH (aA r) t=true:=by
 induction h with
 | nil=>intro t h1 _;exact h1
 | d h ih=>
  intro t h1 h2
  cases t with
  | nil=>simp [aA,aH] at h1
  | cons x t=>simp only [aA,aH,Bool.and_eq_true] at h1 ⊢;exact ⟨h1.1,ih t h1.2 h2⟩
 | p _ h ih=>intro t h1 h2;exact ih t h1 h2
 | kk h ih=>
  intro t h1 h2
  cases t with
  | nil=>simp [aA,aH] at h1
  | cons x t=>simp only [aA,aH,Bool.and_eq_true,dA,List.take_succ_cons,List.take_zero,List.drop_succ_cons,List.drop_zero,List.singleton_append] at h1 h2 ⊢;exact ⟨h1.1,ih t h1.2 h2.2⟩
 | kd h ih=>
  intro t h1 h2
  cases t with
  | nil=>simp [aA,aH] at h1
  | cons x t=>simp only [aA,aH,Bool.and_eq_true,dA,List.take_succ_cons,List.take_zero,List.drop_succ_cons,List.drop_zero,List.singleton_append] at h1 h2 ⊢;exact ⟨h2.1,ih t h1.2 h2.2⟩
 | pk h ih=>intro t h1 h2;simp only [aA,dA,aH,Bool.and_eq_true] at h1 h2 ⊢;exact ih t h1 h2.2
 | pd h ih=>intro t h1 h2;simp only [aA,dA,aH,Bool.and_eq_true] at h1 h2 ⊢;exact ih t h1 h2.2
theorem Th.all:∀ (n:Nat) (a b:List At) (t:List Nat),a.length+b.length≤n→aH (aA a) t=true→aH (aA b) (dA a t)=true→∃ r,Th a b r:=by
 intro n
 induction n with
 | zero=>
  intro a b t hn _ _
  obtain rfl:a=[]:=List.length_eq_zero_iff.mp (by omega)
  obtain rfl:b=[]:=List.length_eq_zero_iff.mp (by omega)
  exact ⟨[],.nil⟩
 | succ n ih=>
  intro a b t hn h1 h2
  cases a with
  | nil=>
   cases b with
   | nil=>exact ⟨[],.nil⟩
   | cons y b=>
    cases y with
    | p c=>obtain ⟨r,h⟩:=ih [] b t (by simp at hn ⊢;omega) h1 h2;exact ⟨_,.p rfl h⟩
    | k=>simp [aA,dA,aH] at h2
    | d c=>simp [aA,dA,aH] at h2
  | cons x a=>
   by_cases hd:Cw (x :: a)=true
   ·cases b with
    | nil=>
     cases x with
     | d c=>cases hd
     | k=>cases t <;> simp [aA,dA,aH] at h1 h2
     | p c=>simp [aA,dA,aH] at h2
    | cons y b=>
     cases y with
     | p c=>obtain ⟨r,h⟩:=ih (x :: a) b t (by simp at hn ⊢;omega) h1 h2;exact ⟨_,.p hd h⟩
     | k=>
      cases x with
      | d c=>cases hd
      | k=>
       cases t with
       | nil=>simp [aA,aH] at h1
       | cons z t=>
        simp [aA,aH,dA] at h1 h2
        obtain ⟨r,h⟩:=ih a b t (by simp at hn ⊢;omega) h1 h2;exact ⟨_,.kk h⟩
      | p c=>
       simp [aA,aH,dA] at h1 h2
       obtain ⟨r,h⟩:=ih a b t (by simp at hn ⊢;omega) h1 h2;exact ⟨_,.pk h⟩
     | d c'=>
      cases x with
      | d c=>cases hd
      | k=>
       cases t with
       | nil=>simp [aA,aH] at h1
       | cons z t=>
        simp [aA,aH,dA] at h1 h2
        obtain ⟨r,h⟩:=ih a b t (by simp at hn ⊢;omega) h1 h2.2;exact ⟨_,.kd h⟩
      | p c=>
       simp [aA,aH,dA] at h1 h2
       obtain ⟨rfl,h2⟩:=h2
       obtain ⟨r,h⟩:=ih a b t (by simp at hn ⊢;omega) h1 h2;exact ⟨_,.pd h⟩
   ·cases x with
    | k=>exact absurd rfl hd
    | p c=>exact absurd rfl hd
    | d c=>
     cases t with
     | nil=>simp [aA,aH] at h1
     | cons z t=>
      simp [aA,aH] at h1
      obtain ⟨r,h⟩:=ih a b t (by simp at hn ⊢;omega) h1.2 h2;exact ⟨_,.d h⟩
theorem Th.done {a b r:List At}(h:Th a b r):∀ t,aH (aA a) t=true→dA r t=dA b (dA a t):=by
 induction h with
 | nil=>intro t _;rfl
 | d h ih=>
  intro t h1
  cases t with
  | nil=>simp [aA,aH] at h1
  | cons x t=>simp only [aA,aH,Bool.and_eq_true] at h1;simp only [dA];exact ih t h1.2
 | p _ h ih=>intro t h1;simp only [dA];rw [ih t h1]
 | kk h ih=>
  intro t h1
  cases t with
  | nil=>simp [aA,aH] at h1
  | cons x t=>simp only [aA,aH,Bool.and_eq_true] at h1;simp [dA,ih t h1.2]
 | kd h ih=>
  intro t h1
  cases t with
  | nil=>simp [aA,aH] at h1
  | cons x t=>simp only [aA,aH,Bool.and_eq_true] at h1;simp [dA,ih t h1.2]
 | pk h ih=>intro t h1;simp [dA,ih t h1]
 | pd h ih=>intro t h1;simp [dA,ih t h1]
theorem Th.cost {a b r:List At}(h:Th a b r):cA r≤cA a+cA b:=by induction h <;> simp [cA] <;> omega
theorem Th.len {a b r:List At}(h:Th a b r):r.length≤a.length+b.length:=by induction h <;> simp <;> omega
theorem Th.ds {b r:List At}:∀ {s:List Nat}{a:List At},Th (s.map .d++a) b r→∃ r',r=s.map .d++r'∧Th a b r'
 | [],a,h=>⟨r,rfl,h⟩
 | c :: s,a,h=>by
  cases h with
  | d h=>obtain ⟨r',rfl,h'⟩:=Th.ds h;exact ⟨r',rfl,h'⟩
  | p hn h=>cases hn
theorem Th.ps {a r:List At}(hn:Cw a=true):∀ {s:List Nat}{b:List At},Th a (s.map .p++b) r→∃ r',r=s.map .p++r'∧Th a b r'
 | [],b,h=>⟨r,rfl,h⟩
 | c :: s,b,h=>by
  cases h with
  | d h=>cases hn
  | p _ h=>obtain ⟨r',rfl,h'⟩:=Th.ps hn h;exact ⟨r',rfl,h'⟩
theorem Th.GN {a b r:List At}:∀ {n:Nat},Th (List.replicate n .k++a) (List.replicate n .k++b) r→∃ r',r=List.replicate n .k++r'∧Th a b r':=fun {n}=>by
 induction n generalizing r with
 | zero=>intro h;exact ⟨r,rfl,h⟩
 | succ n ih=>intro h;cases h with | kk h=>obtain ⟨r',rfl,h'⟩:=ih h;exact ⟨r',rfl,h'⟩
theorem Th.GO {a b r:List At}:∀ {s:List Nat},Th (List.replicate s.length .k++a) (s.map .d++b) r→∃ r',r=s.map .d++r'∧Th a b r':=fun {s}=>by
 induction s generalizing r with
 | nil=>intro h;exact ⟨r,rfl,h⟩
 | cons c s ih=>intro h;cases h with | kd h=>obtain ⟨r',rfl,h'⟩:=ih h;exact ⟨r',rfl,h'⟩
theorem Th.WS {a b r:List At}:∀ {s:List Nat},Th (s.map .p++a) (List.replicate s.length .k++b) r→∃ r',r=s.map .p++r'∧Th a b r':=fun {s}=>by
 induction s generalizing r with
 | nil=>intro h;exact ⟨r,rfl,h⟩
 | cons c s ih=>intro h;cases h with | pk h=>obtain ⟨r',rfl,h'⟩:=ih h;exact ⟨r',rfl,h'⟩
theorem Th.RL {a b r:List At}:∀ {s s':List Nat},s.length=s'.length→Th (s.map .p++a) (s'.map .d++b) r→s=s'∧Th a b r
 | [],[],_,h=>⟨rfl,h⟩
 | [],_ :: _,hl,_=>by simp at hl
 | _ :: _,[],hl,_=>by simp at hl
 | c :: s,c' :: s',hl,h=>by cases h with | pd h=>obtain ⟨rfl,h'⟩:=Th.RL (by simpa using hl) h;exact ⟨rfl,h'⟩
theorem jr:∀ (a:List At) (i q:Nat),Tq.at q∈tA i a↔∃ j,q=i+j∧(aA a)[j]?=some []
 | [],i,q=>by simp [tA,aA]
 | .k :: a,i,q=>by
  simp only [tA,List.mem_cons,jr a,aA]
  constructor
  ·rintro (h | ⟨j,rfl,h⟩)
   ·cases h;exact ⟨0,rfl,by simp⟩
   ·exact ⟨j+1,by omega,by simpa using h⟩
  ·rintro ⟨j,rfl,h⟩
   cases j with
   | zero=>exact .inl rfl
   | succ j=>exact .inr ⟨j,by omega,by simpa using h⟩
 | .d c :: a,i,q=>by
  simp only [tA,jr a,aA]
  constructor
  ·rintro ⟨j,rfl,h⟩;exact ⟨j+1,by omega,by simpa using h⟩
  ·rintro ⟨j,rfl,h⟩
   cases j with
   | zero=>simp at h
   | succ j=>exact ⟨j,by omega,by simpa using h⟩
 | .p c :: a,i,q=>by simp [tA,jr a,aA]
theorem se:∀ {a:List (List Nat)}{t:List Nat},aH a t=true→∀ (j:Nat) x,a[j]?=some x→x=[]∨∃ c,t[j]?=some c∧x=[c]
 | y :: a,c :: t,h,j,x,e=>by
  simp only [aH,Bool.and_eq_true,Bool.or_eq_true,decide_eq_true_eq] at h
  cases j with
  | zero=>simp at e;subst e;exact h.1.imp id fun z=>⟨c,by simp,z⟩
  | succ j=>simpa using se h.2 j x (by simpa using e)
 | [],[],_,j,x,e=>by simp at e
 | [],_ :: _,h,_,_,_=>by simp [aH] at h
 | _ :: _,[],h,_,_,_=>by simp [aH] at h
theorem Cy {a:List At}{A:List (List Nat)}{t:List Nat}(ha:aH (aA a) t=true) (hb:aH A t=true) (h:∀ q:Nat,Tq.at q∈tA 0 a↔A[q]?=some []):aA a=A:=by
 have la:=pV ha
 have lb:=pV hb
 apply List.ext_getElem?
 intro j
 by_cases hj:j<t.length
 ·obtain ⟨x,hx⟩:∃ x,(aA a)[j]?=some x:=⟨_,List.getElem?_eq_getElem (by omega)⟩
  obtain ⟨y,hy⟩:∃ y,A[j]?=some y:=⟨_,List.getElem?_eq_getElem (by omega)⟩
  have k1:=jr a 0 j
  rw [h j,hy] at k1
  have hxy:x=[]↔y=[]:=by
   constructor
   ·rintro rfl
    have:=k1.mpr ⟨j,by omega,hx⟩
    cases this;rfl
   ·rintro rfl
    obtain ⟨i,hi,e⟩:=k1.mp rfl
    obtain rfl:i=j:=by omega
    rw [e] at hx;cases hx;rfl
  rw [hx,hy]
  rcases se ha j x hx with RM | ⟨c,hc,RD⟩
  ·rw [RM,hxy.mp RM]
  ·rcases se hb j y hy with RN | ⟨c',hc',hy1⟩
   ·rw [RN,hxy.mpr RN]
   ·rw [hc] at hc';cases hc';rw [RD,hy1]
 ·rw [List.getElem?_eq_none (by omega),List.getElem?_eq_none (by omega)]
theorem Cz {a b:List At}{t:List Nat}(ha:aH (aA a) t=true) (hb:aH (aA b) t=true) (h:tA 0 a=tA 0 b):aA a=aA b:=
 Cy ha hb fun q=>by
  rw [h,jr b 0 q]
  constructor
  ·rintro ⟨j,hj,e⟩;obtain rfl:q=j:=by omega
   exact e
  ·intro e;exact ⟨q,by omega,e⟩
theorem CB {a b:List Pt}{t:List Nat}(ha:aG a t=true) (hb:aG b t=true) (h:told 0 a=told 0 b):au a=au b:=by
 rw [mC]
 rw [cK] at ha hb
 have h':=h
 rw [cH] at ha hb
 rw [fc,fc] at h'
 have:=Cz ha hb h'
 simp only [jN,h,cH,this]
theorem EU {c:List Pt}{t:List Nat}(h:aG c t=true):(aK c t).length=iA c:=by
 rw [iB (vZ c t h).1,ND]
end Pv
namespace Pv
open Ev (D bU bQ TY BI ME T E Es Eo It S Ss Fn big deep b2i rep cC dP bP aS cut cR eF slots)
noncomputable def EV (sq:Nat) (cL:Nat):S:=.iff (.cmp .ne (.cl sq (.cons (.v 0) .nil)) (.cl cL (.cons (.v 1) .nil))) (.cons (.fL) .nil) .nil
noncomputable def EW (bE:Nat):S:=.set 2 (.ig (.rev (.cl bE (.cons (.v 0) .nil))))
noncomputable def EX (bE:Nat):S:=.set 3 (.ig (.rev (.cl bE (.cons (.v 1) .nil))))
noncomputable def EY:S:=.set 4 (.lst .nil)
noncomputable def wj (bO:Nat) (qP:Nat) (dZ:Nat):Ss:=(.cons (.iff (.an (.v 2) (.cmp .eq (.ix (.ix (.v 2) (.neg (.c (.int 1)))) (.c (.int 0))) (.c (.str [100,114,111,112])))) (.cons (.exp (.me .append (.v 4) (.cons (.me .pop (.v 2) .nil) .nil))) .nil) (.cons (.iff (.an (.v 3) (.cmp .eq (.ix (.ix (.v 3) (.neg (.c (.int 1)))) (.c (.int 0))) (.c (.str [112,117,116])))) (.cons (.exp (.me .append (.v 4) (.cons (.me .pop (.v 3) .nil) .nil))) .nil) (.cons (.set 5 (.bi .min (.cons (.cl bO (.cons (.ix (.v 2) (.neg (.c (.int 1)))) .nil)) (.cons (.cl bO (.cons (.ix (.v 3) (.neg (.c (.int 1)))) .nil)) .nil)))) (.cons (.exp (.me .extend (.v 4) (.cons (.cl qP (.cons (.cl dZ (.cons (.v 2) (.cons (.v 5) .nil))) (.cons (.cl dZ (.cons (.v 3) (.cons (.v 5) .nil))) .nil))) .nil))) .nil))) .nil)) .nil)
noncomputable def EZ (bO:Nat) (qP:Nat) (dZ:Nat):S:=.m7 (.orr (.v 2) (.v 3)) (wj bO qP dZ)
noncomputable def E1 (bE:Nat):S:=.ret (.cl bE (.cons (.iT (.v 4)) .nil))
noncomputable def lG (sq:Nat) (cL:Nat) (bE:Nat) (bO:Nat) (qP:Nat) (dZ:Nat):Fn:=⟨2,6,(.cons (EV sq cL) (.cons (EW bE) (.cons (EX bE) (.cons EY (.cons (EZ bO qP dZ) (.cons (E1 bE) .nil))))))⟩
noncomputable def Jr:S:=.iff (.cmp .eq (.ix (.v 1) (.c (.int 0))) (.c (.str [107,101,101,112]))) (.cons (.ret (.lst (.cons (.v 0) .nil))) .nil) .nil
noncomputable def Js:S:=.iff (.cmp .eq (.ix (.v 0) (.c (.int 0))) (.c (.str [107,101,101,112]))) (.cons (.ret (.lst (.cons (.v 1) .nil))) .nil) .nil
noncomputable def Jt:S:=.iff (.cmp .ne (.ix (.v 0) (.c (.int 1))) (.ix (.v 1) (.c (.int 1)))) (.cons (.fL) .nil) .nil
noncomputable def Ju:S:=.ret (.lst .nil)
noncomputable def uv:Fn:=⟨2,2,(.cons Jr (.cons Js (.cons Jt (.cons Ju .nil))))⟩
noncomputable def CC (pW:Nat):S:=.set 2 (.cl pW (.cons (.me .pop (.v 0) .nil) (.cons (.v 1) .nil)))
noncomputable def CD (bO:Nat):S:=.iff (.cmp .gt (.cl bO (.cons (.ix (.v 2) (.c (.int 1))) .nil)) (.c (.int 0))) (.cons (.exp (.me .append (.v 0) (.cons (.ix (.v 2) (.c (.int 1))) .nil))) .nil) .nil
noncomputable def CF:S:=.ret (.ix (.v 2) (.c (.int 0)))
noncomputable def lH (pW:Nat) (bO:Nat):Fn:=⟨2,3,(.cons (CC pW) (.cons (CD bO) (.cons CF .nil)))⟩
noncomputable def Ah:S:=.set 2 (.ix (.v 0) (.c (.int 0)))
noncomputable def Ai:S:=.iff (.cmp .eq (.v 2) (.c (.str [107,101,101,112]))) (.cons (.ret (.tup (.cons (.tup (.cons (.v 2) (.cons (.v 1) .nil))) (.cons (.tup (.cons (.v 2) (.cons (.bin .sub (.ix (.v 0) (.c (.int 1))) (.v 1)) .nil))) .nil)))) .nil) .nil
noncomputable def Aj:S:=.ret (.tup (.cons (.tup (.cons (.v 2) (.cons (.sl (.ix (.v 0) (.c (.int 1))) .no (.yes (.v 1))) .nil))) (.cons (.tup (.cons (.v 2) (.cons (.sl (.ix (.v 0) (.c (.int 1))) (.yes (.v 1)) .no) .nil))) .nil)))
noncomputable def iZ:Fn:=⟨2,3,(.cons Ah (.cons Ai (.cons Aj .nil)))⟩
noncomputable def Pt.tk (m:Nat):Pt→Pt
 | .keep _=>.keep m
 | .put s=>.put (s.take m)
 | .drop s=>.drop (s.take m)
noncomputable def Pt.dp (m:Nat):Pt→Pt
 | .keep k=>.keep (k - m)
 | .put s=>.put (s.drop m)
 | .drop s=>.drop (s.drop m)
theorem GP {α:Type}(l:List α) (m:Nat):cut l none (some (m:Int))=l.take m:=by
 have h1:¬ (m:Int)<0:=by omega
 simp only [cut,aS,h1,if_false,Int.toNat_natCast,List.drop_zero,Nat.sub_zero]
 by_cases h:m≤l.length
 ·rw [Nat.min_eq_left h]
 ·rw [Nat.min_eq_right (by omega),List.take_of_length_le (Nat.le_refl _),List.take_of_length_le (by omega)]
theorem GQ {α:Type}(l:List α) (m:Nat):cut l (some (m:Int)) none=l.drop m:=by
 have h1:¬ (m:Int)<0:=by omega
 simp only [cut,aS,h1,if_false,Int.toNat_natCast]
 by_cases h:m≤l.length
 ·rw [Nat.min_eq_left h,List.take_of_length_le (by simp)]
 ·rw [Nat.min_eq_right (by omega),List.drop_eq_nil_of_le (Nat.le_refl _),List.drop_eq_nil_of_le (by omega)];simp
section
variable {F:List Fn}{w n cI aE dz bD bH aV ee aX gz qQ i:Nat}
theorem Ak (hf:F[i]?=some iZ) (p:Pt) (m:Nat) (h:m≤p.n):run F w (n+1) i [.val p.v,.val (.int m)]=some (.tup [(p.tk m).v,(p.dp m).v],[]):=by
 refine b7 hf rfl ?_
 cases p with
 | keep k=>
  refine ai (bI (by repeat array_get_dec) rfl rfl ?_)
  refine ai (aM (by repeat array_get_dec) (fun _=>?_) fun h=>absurd h (by decide))
  refine ai (bM (by repeat array_get_dec) ⟨?_,rfl⟩)
  have:(k:Int) - m=((k - m:Nat):Int):=by simp only [Pt.n] at h;omega
  exact congrArg (fun z=>Fl.ret (V.tup [V.tup [V.str dX,V.int m],V.tup [V.str dX,V.int z]])) this
 | put s=>
  have c1:iG (.str s) none (some (m:Int))=some (.str (s.take m)):=by rw [jQ,GP]
  have c2:iG (.str s) (some (m:Int)) none=some (.str (s.drop m)):=by rw [jQ,GQ]
  refine ai (bI (by repeat array_get_dec) rfl rfl ?_)
  refine ai (aM (by repeat array_get_dec) (fun h=>absurd h (by decide)) fun _=>aC ?_)
  exact ai (bM (by repeat array_get_dec) ⟨rfl,rfl⟩)
 | drop s=>
  have c1:iG (.str s) none (some (m:Int))=some (.str (s.take m)):=by rw [jQ,GP]
  have c2:iG (.str s) (some (m:Int)) none=some (.str (s.drop m)):=by rw [jQ,GQ]
  refine ai (bI (by repeat array_get_dec) rfl rfl ?_)
  refine ai (aM (by repeat array_get_dec) (fun h=>absurd h (by decide)) fun _=>aC ?_)
  exact ai (bM (by repeat array_get_dec) ⟨rfl,rfl⟩)
theorem su (m:Nat) (p:Pt):(p.dp m).n=p.n - m:=by cases p <;> simp [Pt.dp,Pt.n]
theorem kE (hs:F[aE]?=some di) (hp:F[cI]?=some iZ) (hf:F[i]?=some (lH cI aE)) (L:List V) (p:Pt) (m:Nat) (h:m≤p.n) (hn:p.n≤100000) (hL:L.length≤10000) :
  run F w (n+2) i [.bor (L++[p.v]),.val (.int m)]=some ((p.tk m).v,[L++if 0<p.n - m then [(p.dp m).v] else []]):=by
 refine b7 hf rfl ?_
 have c1:=fun fr=>call2 (fr:=fr) (Ak (F:=F) (w:=w) (n:=n) hp p m h)
 have c2:=fun fr=>bY (fr:=fr) (gv (F:=F) (w:=w) (n:=n) hs (p.dp m) (by rw [su];omega))
 have po:∀ fr:Fr,gP .pop 0 [] fr (some (some (.bor (L++[p.v]))))=.ok p.v (fr.set 0 (some (.bor L))):=fun fr=>Jg
 have ap:∀ fr:Fr,gP .append 0 [(p.dp m).v] fr (some (some (.bor L)))=.ok .aP (fr.set 0 (some (.bor (L++[(p.dp m).v])))):=fun fr=>Jf (by omega)
 refine ai (bI (by (repeat (first | array_get_dec | exact po _ | exact c1 _))) rfl rfl ?_)
 refine ai (aM (by (repeat (first | array_get_dec | exact c2 _))) (fun h=>?_) fun h=>?_)
 ·have h':=of_decide_eq_true h
  rw [su] at h'
  rw [if_pos (by omega)]
  refine ai (fC (by (repeat (first | array_get_dec | exact ap _))) (aC ?_))
  exact ai (bM (by repeat array_get_dec) ⟨rfl,rfl⟩)
 ·have h':=of_decide_eq_false h
  rw [su] at h'
  rw [if_neg (by omega),List.append_nil]
  exact aC (ai (bM (by repeat array_get_dec) ⟨rfl,rfl⟩))
noncomputable def mF:Pt→Pt→Option (List Pt)
 | l,.keep _=>some [l]
 | .keep _,g=>some [g]
 | .put s,.drop s'=>if s=s' then some [] else none
 | _,_=>none
theorem Jv (hf:F[i]?=some uv) (p q:Pt) (r:List Pt) (h:mF p q=some r):run F w (n+1) i [.val p.v,.val q.v]=some (.lst (r.map Pt.v),[]):=by
 refine b7 hf rfl ?_
 cases q with
 | keep k=>
  simp only [mF,Option.some.injEq] at h
  subst h
  refine ai (aM (by repeat array_get_dec) (fun _=>?_) fun h=>absurd h (by decide))
  exact ai (bM (by repeat array_get_dec) ⟨rfl,rfl⟩)
 | put s=>
  cases p <;> simp [mF] at h
  subst h
  refine ai (aM (by repeat array_get_dec) (fun h=>absurd h (by decide)) fun _=>aC ?_)
  refine ai (aM (by repeat array_get_dec) (fun _=>?_) fun h=>absurd h (by decide))
  exact ai (bM (by repeat array_get_dec) ⟨rfl,rfl⟩)
 | drop s'=>
  cases p with
  | keep k=>
   simp only [mF,Option.some.injEq] at h
   subst h
   refine ai (aM (by repeat array_get_dec) (fun h=>absurd h (by decide)) fun _=>aC ?_)
   refine ai (aM (by repeat array_get_dec) (fun _=>?_) fun h=>absurd h (by decide))
   exact ai (bM (by repeat array_get_dec) ⟨rfl,rfl⟩)
  | drop s=>simp [mF] at h
  | put s=>
   simp only [mF] at h
   split at h
   ·rename_i hs
    subst hs
    cases h
    refine ai (aM (by repeat array_get_dec) (fun h=>absurd h (by decide)) fun _=>aC ?_)
    refine ai (aM (by repeat array_get_dec) (fun h=>absurd h (by decide)) fun _=>aC ?_)
    refine ai (aM (by repeat array_get_dec) (fun h=>?_) fun _=>aC ?_)
    ·simp at h
    ·exact ai (bM (by repeat array_get_dec) ⟨rfl,rfl⟩)
   ·cases h
theorem ef {l:List V}{v:V}:eg (.lst (l++[v])) (.int (-1))=some v:=by rw [oG,Nq];simp
theorem jh {l:List V}{v:V}:truthy (.lst (l++[v]))=true:=by simp
theorem qR {P:aR}{f i:Nat}{fr:Fr}{b v:V}{l l':List V}(e:fr[i]?=some (some (.own l))) (h:P f [.bor l,.val b]=some (v,[l'])):dI P f [.inl i,.inr b] fr=.ok v (fr.set i (some (.own l'))):=by
 have e1:lent fr i=some (.bor l):=by rw [yI,e];rfl
 simp [dI,bV,args,e1,h,back,e,Sl.with]
theorem fH {c:List Pt}(h:ly c=true):∀ p∈c,0<p.n:=fun p hp=>by
 simp only [ly,Bool.and_eq_true,List.all_eq_true] at h
 have:=h.2 p hp
 simp only [NC,bne_iff_ne,ne_eq] at this
 omega
theorem eO:∀ {c:List Pt},(∀ p∈c,0<p.n)→c.length≤tot c
 | [],_=>by simp [tot]
 | p :: c,h=>by
  have h1:=h p (by simp)
  have h2:=eO (c:=c) fun q hq=>h q (by simp [hq])
  rw [aW,List.length_cons];omega
theorem qS {p:Pt}{m:Nat}(h:m≤p.n):(p.tk m).aF++(p.dp m).aF=p.aF∧(p.tk m).n=m:=by
 cases p with
 | keep k=>simp only [Pt.n] at h;simp [Pt.tk,Pt.dp,Pt.aF,Pt.n,h]
 | put s=>simp only [Pt.n] at h;simp [Pt.tk,Pt.dp,Pt.aF,Pt.n,h,←List.map_append]
 | drop s=>simp only [Pt.n] at h;simp [Pt.tk,Pt.dp,Pt.aF,Pt.n,h,←List.map_append]
noncomputable def iU (m:Nat) (p:Pt):List Pt:=if 0<p.n - m then [p.dp m] else []
theorem oQ {p:Pt}{m:Nat}(h:m≤p.n):p.aF=(p.tk m).aF++aF (iU m p):=by
 rw [← (qS h).1]
 congr 1
 unfold iU
 split
 ·simp [aF]
 ·rename_i hz
  have:(p.dp m).aF.length=0:=by rw [we,su];omega
  rw [List.length_eq_zero_iff.mp this];rfl
theorem oR (m:Nat) (p:Pt):∀ q∈iU m p,0<q.n:=fun q hq=>by
 unfold iU at hq
 split at hq
 ·simp at hq;subst hq;rw [su];omega
 ·simp at hq
theorem yS (m:Nat) (p:Pt) (A:List Pt):((iU m p++A).map Pt.v).reverse=(A.map Pt.v).reverse++if 0<p.n - m then [(p.dp m).v] else []:=by
 unfold iU;split <;> simp
theorem iC (m:Nat) (p:Pt):tot (iU m p)=p.n - m:=by
 unfold iU;split
 ·simp [tot,su]
 ·simp [tot];omega
theorem oS {m:Nat}{p:Pt}:dS (p.tk m)=dS p∧eW (p.tk m)=eW p:=by cases p <;> exact ⟨rfl,rfl⟩
theorem NF {A B r:List At}(p q:Pt) (hp:dS p=false) (hq:eW q=false) (hn:p.n=q.n) (h:Th (p.aF++A) (q.aF++B) r):∃ m r',mF p q=some m∧m.length≤1∧r=aF m++r'∧Th A B r':=by
 cases p with
 | drop s=>cases hp
 | keep k=>
  cases q with
  | put s=>cases hq
  | keep k'=>simp only [Pt.n] at hn;subst hn;obtain ⟨r',rfl,h'⟩:=Th.GN h;exact ⟨[.keep k],r',rfl,by simp,by simp [aF,Pt.aF],h'⟩
  | drop s=>simp only [Pt.n] at hn;subst hn;obtain ⟨r',rfl,h'⟩:=Th.GO h;exact ⟨[.drop s],r',rfl,by simp,by simp [aF,Pt.aF],h'⟩
 | put s=>
  cases q with
  | put s'=>cases hq
  | keep k'=>simp only [Pt.n] at hn;subst hn;obtain ⟨r',rfl,h'⟩:=Th.WS h;exact ⟨[.put s],r',rfl,by simp,by simp [aF,Pt.aF],h'⟩
  | drop s'=>simp only [Pt.n] at hn;obtain ⟨rfl,h'⟩:=Th.RL hn h;exact ⟨[],r,by simp [mF],by simp,by simp [aF],h'⟩
structure Tn (one other c:List Pt) (t:List Nat):Prop where
 WT:au c=c
 fit:aG c t=true
 dn:aK c t=aK other (aK one t)
 WU:told 0 c=(told 0 other).map (sub (told 0 one))
 WV:told 0 (sw c)=(told 0 (sw one)).map (sub (told 0 (sw other)))
 cs:cst c≤cst one+cst other
 tt:tot c≤tot one+tot other
 ln:c.length≤tot c
 th:∃ ps,c=au ps∧Th (aF (au one)) (aF (au other)) (aF ps)
theorem PZ {one other ps:List Pt}{t:List Nat}(h1:aG one t=true) (h2:aG other (aK one t)=true) (h:Th (aF (au one)) (aF (au other)) (aF ps)):Tn one other (au ps) t:=by
 have f1:aH (aA (aF (au one))) t=true:=by rw [←cH,cV,←cK];exact h1
 have f2:aH (aA (aF (au other))) (dA (aF (au one)) t)=true:=by rw [←cH,cV,←fh,cG,←cK];exact h2
 have b:=h.back 0 0 [] rfl
 rw [←wg,←wg,←wg,←fc,←fc,←fc] at b
 have sf:∀ c i,told i (sw (au c))=told i (sw c):=fun c i=>by
  have:=congrArg (told i) (yP (jq c));rwa [eX,eX] at this
 refine ⟨jq _,?_,?_,?_,?_,?_,?_,eO (fH (eE _)),ps,rfl,h⟩
 ·rw [gx,cK,cH];exact h.fit t f1 f2
 ·rw [cG,fh,h.done t f1,←fh,cG,←fh,cG]
 ·have:=h.told 0 0 [] rfl
  rw [←fc,←fc,←fc,eX,eX] at this
  rw [eX];exact this
 ·rw [sf,←sf one,←sf other];exact b
 ·have:=h.cost
  rw [←r8,←r8,←r8,pU,pU] at this
  rw [pU];exact this
 ·have:=h.len
  rw [gF,gF,gF,fV,fV] at this
  rw [fV];exact this
section
variable (hs:F[aE]?=some di) (hp:F[cI]?=some iZ) (ht:F[bD]?=some (lH cI aE)) (hm:F[dz]?=some uv) {one other:List Pt}{r:List At}{N:Nat}(hN:N≤5000)
noncomputable def gh (one other A B C:List Pt) (a:Option Sl):Fr:=[some (.val (ay one)),some (.val (ay other)),some (.own (A.map Pt.v).reverse),some (.own (B.map Pt.v).reverse),some (.own (C.map Pt.v)),a]
noncomputable def RP (one other:List Pt) (r:List At) (N k:Nat) (fr:Fr):Prop:=∃ A B C r' a,Th (aF A) (aF B) r'∧aF C++r'=r∧(∀ p∈A,0<p.n)∧(∀ p∈B,0<p.n)∧C.length+k≤N∧k=tot A+tot B∧vo a∧fr=gh one other A B C a
include hs hp ht hm hN
noncomputable def CG (aE dz bD:Nat):Ss:=(.cons (.set 5 (.bi .min (.cons (.cl aE (.cons (.ix (.v 2) (.neg (.c (.int 1)))) .nil)) (.cons (.cl aE (.cons (.ix (.v 3) (.neg (.c (.int 1)))) .nil)) .nil)))) (.cons (.exp (.me .extend (.v 4) (.cons (.cl dz (.cons (.cl bD (.cons (.v 2) (.cons (.v 5) .nil))) (.cons (.cl bD (.cons (.v 3) (.cons (.v 5) .nil))) .nil))) .nil))) .nil))
noncomputable def wk (aE dz bD:Nat):Ss:=.cons (.iff (.an (.v 3) (.cmp .eq (.ix (.ix (.v 3) (.neg (.c (.int 1)))) (.c (.int 0))) (.c (.str [112,117,116])))) (.cons (.exp (.me .append (.v 4) (.cons (.me .pop (.v 3) .nil) .nil))) .nil) (CG aE dz bD)) .nil
noncomputable def wm (one other:List Pt) (r:List At) (N t:Nat) (g:Fl) (fr:Fr):Prop:=g=.nx∧∃ j,j<t∧RP one other r N j fr
omit hs hp ht hm hN in
theorem CH {C:List Pt}(lC:C.length≤5000) (d:Pt) (fr:Fr):gP .append 4 [d.v] fr (some (some (.own (C.map Pt.v))))=.ok .aP (fr.set 4 (some (.own ((C++[d]).map Pt.v)))):=by
 rw [List.map_append];exact jR (by simp;omega)
omit hs hp ht hm in
theorem wo (A B C:List Pt) (s:List Nat) (r':List At) (a:Option Sl) (h:Th (aF A) (aF (.put s :: B)) r') (hn:Cw (aF A)=true) (hC:aF C++r'=r) (hA:∀ p∈A,0<p.n) (hB:∀ p∈(.put s :: B),0<p.n) (hk:C.length+(tot A+tot (.put s :: B))≤N) (ha:vo a) :
  Wp (exs (run F w (n+2)) w (wk aE dz bD) (gh one other A (.put s :: B) C a)) (wm one other r N (tot A+tot (.put s :: B))):=by
 have lC:C.length≤5000:=by omega
 rw [bL] at h
 obtain ⟨r2,e2,h2⟩:=Th.ps hn h
 have hs1:=hB (.put s) (by simp)
 unfold gh
 rw [List.map_cons,List.reverse_cons]
 refine ai (aM (dQ (aD rfl (av rfl) jh) (by (repeat (first | array_get_dec | exact ef)))) (fun _=>?_) fun h=>absurd h (by decide))
 refine ai (fC (by (repeat (first | array_get_dec | exact oJ | exact CH lC _ _))) (aC (aC ?_)))
 refine ⟨rfl,tot A+tot B,by rw [aW];omega,A,B,C++[.put s],r2,a,h2,?_,hA,fun x hx=>hB x (by simp [hx]),?_,rfl,ha,rfl⟩
 ·rw [←hC,e2,gc];simp [aF,Pt.aF]
 ·rw [aW] at hk;simp;omega
omit hN in
theorem NG (A B C mm:List Pt) (p q:Pt) (m:Nat) (a:Option Sl) (mn:cS .min [.int p.n,.int q.n]=some (.int m)) (hm1:m≤p.n) (hm2:m≤q.n) (lp:p.n≤5000) (lq:q.n≤5000) (lA:A.length≤5000) (lB:B.length≤5000) (lC:C.length+mm.length≤10000) (e1:mF (p.tk m) (q.tk m)=some mm) (ha:vo a) (Q:Fl→Fr→Prop)
  (hQ:Q .nx (gh one other (iU m p++A) (iU m q++B) (C++mm) (some (.val (.int m))))):Wp (exs (run F w (n+2)) w (CG aE dz bD) (gh one other (p :: A) (q :: B) C a)) Q:=by
 have z1:=fun fr=>bY (fr:=fr) (gv (F:=F) (w:=w) (n:=n+1) hs p (Nat.le_trans lp (by decide)))
 have z2:=fun fr=>bY (fr:=fr) (gv (F:=F) (w:=w) (n:=n+1) hs q (Nat.le_trans lq (by decide)))
 have t1:=kE (F:=F) (w:=w) (n:=n) hs hp ht (A.map Pt.v).reverse p m hm1 (by omega) (by simp;omega)
 have t2:=kE (F:=F) (w:=w) (n:=n) hs hp ht (B.map Pt.v).reverse q m hm2 (by omega) (by simp;omega)
 rw [←yS] at t1 t2
 have cm:=fun fr=>call2 (fr:=fr) (Jv (F:=F) (w:=w) (n:=n+1) hm _ _ mm e1)
 have ex:∀ fr:Fr,gP .extend 4 [.lst (mm.map Pt.v)] fr (some (some (.own (C.map Pt.v))))=.ok .aP (fr.set 4 (some (.own ((C++mm).map Pt.v)))):=fun fr=>by
  rw [List.map_append];exact yJ (by simp;omega)
 unfold gh at hQ ⊢
 rw [List.map_cons,List.reverse_cons,List.map_cons,List.reverse_cons]
 refine ai (bI (by (repeat (first | array_get_dec | exact ef | exact z1 _ | exact z2 _))) rfl (fE rfl ha) ?_)
 exact ai (fC (by (repeat (first | array_get_dec | exact qR rfl t1 | exact qR rfl t2 | exact cm _ | exact ex _))) (aC hQ))
theorem E2 (A B C:List Pt) (p q:Pt) (r':List At) (a:Option Sl) (hd:dS p=false) (hq:eW q=false) (h:Th (aF (p :: A)) (aF (q :: B)) r') (hC:aF C++r'=r) (hA:∀ x∈p :: A,0<x.n) (hB:∀ x∈q :: B,0<x.n) (hk:C.length+(tot (p :: A)+tot (q :: B))≤N) (ha:vo a) :
  Wp (exs (run F w (n+2)) w (wk aE dz bD) (gh one other (p :: A) (q :: B) C a)) (wm one other r N (tot (p :: A)+tot (q :: B))):=by
 have hp0:=hA p (by simp)
 have Bq:=hB q (by simp)
 obtain ⟨m,hm1,hm2,WX⟩:∃ m:Nat,m≤p.n∧m≤q.n∧(m=p.n∨m=q.n):=⟨min p.n q.n,by omega,by omega,by omega⟩
 have mn:cS .min [.int p.n,.int q.n]=some (.int m):=by
  rw [B7]
  split
  ·congr 2;omega
  ·congr 2;omega
 rw [aW,aW] at hk
 have lA:=eO (c:=A) fun x hx=>hA x (by simp [hx])
 have lB:=eO (c:=B) fun x hx=>hB x (by simp [hx])
 have h3:Th ((p.tk m).aF++aF (iU m p++A)) ((q.tk m).aF++aF (iU m q++B)) r':=by
  rw [gc,gc,←List.append_assoc,←List.append_assoc,←oQ hm1,←oQ hm2,←bL,←bL];exact h
 obtain ⟨mm,r2,e1,e2,e3,h4⟩:=NF (p.tk m) (q.tk m) (by rw [oS.1];exact hd) (by rw [oS.2];exact hq) (by rw [(qS hm1).2,(qS hm2).2]) h3
 have fin:wm one other r N (tot (p :: A)+tot (q :: B)) .nx (gh one other (iU m p++A) (iU m q++B) (C++mm) (some (.val (.int m)))):=by
  refine ⟨rfl,_,?_,_,_,_,r2,_,h4,?_,?_,?_,?_,rfl,.val,rfl⟩
  ·rw [dY,dY,iC,iC,aW,aW];omega
  ·rw [gc,List.append_assoc,←e3];exact hC
  ·intro x hx
   rcases List.mem_append.mp hx with hx | hx
   ·exact oR m p x hx
   ·exact hA x (List.mem_cons_of_mem _ hx)
  ·intro x hx
   rcases List.mem_append.mp hx with hx | hx
   ·exact oR m q x hx
   ·exact hB x (List.mem_cons_of_mem _ hx)
  ·rw [dY,dY,iC,iC,List.length_append];omega
 have st:=NG (one:=one) (other:=other) (w:=w) (n:=n) hs hp ht hm A B C mm p q m a mn hm1 hm2 (by omega) (by omega) (by omega) (by omega) (by omega) e1 ha _ (show nx (run F w (n+2)) w .nil (wm one other r N (tot (p :: A)+tot (q :: B))) .nx _ from aC fin)
 unfold gh at st ⊢
 rw [List.map_cons,List.reverse_cons,List.map_cons,List.reverse_cons] at st ⊢
 cases q with
 | put s=>cases hq
 | keep k=>exact ai (aM (dQ (aD rfl (av rfl) jh) (by (repeat (first | array_get_dec | exact ef)))) (fun h=>absurd h (by decide)) fun _=>st)
 | drop s=>exact ai (aM (dQ (aD rfl (av rfl) jh) (by (repeat (first | array_get_dec | exact ef)))) (fun h=>absurd h (by decide)) fun _=>st)
omit hs hp ht hm hN in
theorem RQ {b r:List At}{x:At}(h:Th [] (x :: b) r):∃ c,x=.p c:=by cases h with | p=>exact ⟨_,rfl⟩
omit hs hp ht hm hN in
theorem RS {a r:List At}{x:At}(h:Th (x :: a) [] r):∃ c,x=.d c:=by cases h with | d=>exact ⟨_,rfl⟩
theorem CJ (A B C:List Pt) (r':List At) (a:Option Sl) (hne:A≠[]∨B≠[]) (h:Th (aF A) (aF B) r') (hC:aF C++r'=r) (hA:∀ p∈A,0<p.n) (hB:∀ p∈B,0<p.n) (hk:C.length+(tot A+tot B)≤N) (ha:vo a) :
  Wp (exs (run F w (n+2)) w (wj aE dz bD) (gh one other A B C a)) (wm one other r N (tot A+tot B)):=by
 cases A with
 | nil=>
  cases B with
  | nil=>exact absurd hne (by simp)
  | cons q B'=>
   refine ai (aM (iN (aD rfl (av rfl) rfl)) (fun h=>absurd h (by decide)) fun _=>?_)
   have hq:=hB q (by simp)
   cases q with
   | put s=>exact (wo hN [] B' C s r' a h rfl hC hA hB hk ha).mono fun g fr ⟨hg,hx⟩=>by subst hg;exact aC ⟨rfl,hx⟩
   | keep k=>
    rw [bL] at h
    cases k with
    | zero=>exact absurd hq (Nat.lt_irrefl 0)
    | succ k=>obtain ⟨c,e⟩:=RQ (x:=.k) h;cases e
   | drop s=>
    rw [bL] at h
    cases s with
    | nil=>exact absurd hq (Nat.lt_irrefl 0)
    | cons c s=>obtain ⟨c,e⟩:=RQ (x:=.d c) h;cases e
 | cons p A'=>
  have hp0:=hA p (by simp)
  cases hd:dS p with
  | true=>
   cases p with
   | keep k=>cases hd
   | put s=>cases hd
   | drop s=>
    have lC:C.length≤5000:=by omega
    rw [bL] at h
    obtain ⟨r2,e2,h2⟩:=Th.ds h
    unfold gh
    rw [List.map_cons,List.reverse_cons]
    refine ai (aM (dQ (aD rfl (av rfl) jh) (by (repeat (first | array_get_dec | exact ef)))) (fun _=>?_) fun h=>absurd h (by decide))
    refine ai (fC (by (repeat (first | array_get_dec | exact oJ | exact CH lC _ _))) (aC (aC ?_)))
    refine ⟨rfl,tot A'+tot B,by rw [aW];omega,A',B,C++[.drop s],r2,a,h2,?_,fun x hx=>hA x (by simp [hx]),hB,?_,rfl,ha,rfl⟩
    ·rw [←hC,e2,gc];simp [aF,Pt.aF]
    ·rw [aW] at hk;simp;omega
  | false=>
   have st:Wp (exs (run F w (n+2)) w (wk aE dz bD) (gh one other (p :: A') B C a)) (wm one other r N (tot (p :: A')+tot B)):=by
    cases B with
    | nil=>
     exfalso
     rw [bL] at h
     cases p with
     | drop s=>cases hd
     | keep k=>cases k with | zero=>exact absurd hp0 (Nat.lt_irrefl 0) | succ k=>obtain ⟨c,e⟩:=RS (x:=.k) h;cases e
     | put s=>cases s with | nil=>exact absurd hp0 (Nat.lt_irrefl 0) | cons c s=>obtain ⟨c,e⟩:=RS (x:=.p c) h;cases e
    | cons q B'=>
     cases hq:eW q with
     | true=>
      have hnd:Cw (aF (p :: A'))=true:=by
       rw [bL]
       cases p with
       | drop s=>cases hd
       | keep k=>cases k <;> first | exact absurd hp0 (Nat.lt_irrefl 0) | rfl
       | put s=>cases s <;> first | exact absurd hp0 (Nat.lt_irrefl 0) | rfl
      cases q with
      | keep k=>cases hq
      | drop s=>cases hq
      | put s=>exact wo hN (p :: A') B' C s r' a h hnd hC hA hB hk ha
     | false=>exact E2 hs hp ht hm hN A' B' C p q r' a hd hq h hC hA hB hk ha
   replace st:=st.mono (Q':=nx (run F w (n+2)) w .nil (wm one other r N (tot (p :: A')+tot B))) fun g fr ⟨hg,hx⟩=>by subst hg;exact aC ⟨rfl,hx⟩
   unfold gh at st ⊢
   rw [List.map_cons,List.reverse_cons] at st ⊢
   cases p with
   | drop s=>cases hd
   | keep k=>exact ai (aM (dQ (aD rfl (av rfl) jh) (by (repeat (first | array_get_dec | exact ef)))) (fun h=>absurd h (by decide)) fun _=>st)
   | put s=>exact ai (aM (dQ (aD rfl (av rfl) jh) (by (repeat (first | array_get_dec | exact ef)))) (fun h=>absurd h (by decide)) fun _=>st)
omit hN in
theorem E3 (hst:F[aV]?=some eV) (hf:F[bH]?=some (jm aV)) (hb:F[aX]?=some (eY aE)) (ha:F[ee]?=some (oO aE)) (CK:F[i]?=some (lG ee aX bH aE dz bD)) (hw:5000<w)
  (one other:List Pt) (t:List Nat) (h1:aG one t=true) (h2:aG other (aK one t)=true) (b1:tot one≤2000) (b2:tot other≤2000) (l1:one.length≤2000) (l2:other.length≤2000) :
  ∃ c,run F w (n+3) i [.val (ay one),.val (ay other)]=some (ay c,[])∧Tn one other c t:=by
 have f1:aH (aA (aF (au one))) t=true:=by rw [←cH,cV,←cK];exact h1
 have f2:aH (aA (aF (au other))) (dA (aF (au one)) t)=true:=by rw [←cH,cV,←fh,cG,←cK];exact h2
 obtain ⟨r,hr⟩:=Th.all _ _ _ t (Nat.le_refl _) f1 f2
 have e1:iA one=aZ other:=by rw [←EU h1,iB h2]
 have ne:cop .ne (.int (iA one)) (.int (aZ other))=some false:=by rw [ur,e1];simp
 have c1:=fun fr=>bY (fr:=fr) (Cg (F:=F) (w:=w) (n:=n) hs ha one (by omega) (by omega))
 have c2:=fun fr=>bY (fr:=fr) (iO (F:=F) (w:=w) (n:=n) hs hb other (by omega) (by omega))
 have c3:=fun fr=>bY (fr:=fr) (eZ (F:=F) (w:=w) (n:=n) hst hf one (by omega) (by omega))
 have c4:=fun fr=>bY (fr:=fr) (eZ (F:=F) (w:=w) (n:=n) hst hf other (by omega) (by omega))
 have t1:=fV one
 have t2:=fV other
 have g1:=eO (fH (eE one))
 have g2:=eO (fH (eE other))
 have m1:er ((au one).map Pt.v).reverse=some (.lst ((au one).map Pt.v).reverse):=eU (cz (by simp;omega))
 have m2:er ((au other).map Pt.v).reverse=some (.lst ((au other).map Pt.v).reverse):=eU (cz (by simp;omega))
 have key:Wp (exs (run F w (n+2)) w (lG ee aX bH aE dz bD).body (eK (lG ee aX bH aE dz bD) [.val (ay one),.val (ay other)])) fun g fr=>∃ ps,aF ps=r∧g=.ret (ay (au ps))∧outs 2 fr=[]:=by
  refine ai (aM (by (repeat (first | array_get_dec | exact c1 _ | exact c2 _))) (fun h=>absurd h (by decide)) fun _=>aC ?_)
  refine ai (gQ (l:=((au one).map Pt.v).reverse) (qA (qE (aO (az rfl (av rfl) aB) (c3 _)) rfl) m1) rfl rfl ?_)
  refine ai (gQ (l:=((au other).map Pt.v).reverse) (qA (qE (aO (az rfl (av rfl) aB) (c4 _)) rfl) m2) rfl rfl ?_)
  refine ai (gQ (l:=[]) (by repeat array_get_dec) rfl rfl ?_)
  refine ai (GB (qx (RP one other r (tot one+tot other)) (fun k fr hI=>?_) w (tot one+tot other) _ (by omega) ⟨au one,au other,[],r,none,hr,rfl,fH (eE one),fH (eE other),by simp,by omega,.none,rfl⟩))
  obtain ⟨A,B,C,r',a,hT,hC,hA,hB,hk,hkk,CL,rfl⟩:=hI
  by_cases hne:A≠[]∨B≠[]
  ·have ht1:aL (run F w (n+2)) (.orr (.v 2) (.v 3)) (gh one other A B C a)=.ok true (gh one other A B C a):=by
    cases A with
    | cons p A=>unfold gh;rw [List.map_cons,List.reverse_cons];exact qC (aD rfl (av rfl) jh)
    | nil=>
     cases B with
     | nil=>simp at hne
     | cons q B=>unfold gh;rw [List.map_cons,List.reverse_cons];exact fY (aD rfl (av rfl) rfl) (aD rfl (av rfl) jh)
   refine ⟨true,_,ht1,?_⟩
   dsimp only
   rw [if_pos rfl]
   refine (CJ hs hp ht hm (N:=tot one+tot other) (by omega) A B C r' a hne hT hC hA hB (by omega) CL).mono fun g fr ⟨hg,hx⟩=>?_
   subst hg hkk
   exact hx
  ·obtain ⟨rfl,rfl⟩:A=[]∧B=[]:=by simpa using hne
   refine ⟨false,_,fY (aD rfl (av rfl) rfl) (aD rfl (av rfl) rfl),?_⟩
   dsimp only
   rw [if_neg (by decide)]
   cases hT
   rw [List.append_nil] at hC
   subst hC
   have lC:=hr.len
   rw [gF,gF,gF] at lC
   have mt:toT (.lst (C.map Pt.v))=some (ay C):=by rw [rY];exact jl (cz (by simp;omega))
   have c5:=fun fr=>bY (fr:=fr) (eZ (F:=F) (w:=w) (n:=n) hst hf C (by omega) (by omega))
   have sh:gE (gh one other [] [] C a)=[some (.val (ay one)),some (.val (ay other)),some (.val (.lst [])),some (.val (.lst [])),some (.val (.lst (C.map Pt.v))),a]:=by
    show _ :: _ :: _ :: _ :: _ :: [a.map Sl.dU]=_
    rw [cP CL];rfl
   refine ai (bM (v:=ay (au C)) (af:=[some (.val (ay one)),some (.val (ay other)),some (.val (.lst [])),some (.val (.lst [])),some (.val (.lst (C.map Pt.v))),a]) ?_ ⟨C,rfl,rfl,rfl⟩)
   rw [sh]
   exact aO (az rfl (qB (av rfl) mt) aB) (c5 _)
 obtain ⟨g,fr,e,ps,hps,rfl,ho⟩:=key
 refine ⟨au ps,?_,PZ h1 h2 (hps▸hr)⟩
 rw [run_eq CK rfl,e]
 simp only [IT]
 rw [show outs (lG ee aX bH aE dz bD).np fr=[] from ho]
end
end
end Pv
namespace Pv
open Ev (D bU bQ TY BI ME T E Es Eo It S Ss Fn big deep b2i rep cC dP bP aS cut cR eF slots)
section
variable {F:List Fn}{w n cI aE dz bD bH aV ee aX gz qQ i:Nat}
noncomputable def Ch:List Nat→List (List Pt)→Prop
 | _,[]=>True
 | t,c :: rs=>aG c t=true∧Ch (aK c t) rs
noncomputable def qT (t:List Nat) (rs:List (List Pt)):List Nat:=rs.foldl (fun s c=>aK c s) t
noncomputable def yT (T:List Tq) (rs:List (List Pt)):List Tq:=rs.foldl (fun T c=>(told 0 c).map (sub T)) T
noncomputable def E4 (rs:List (List Pt)):Nat:=(rs.map tot).sum
theorem wu {c:List Pt}{t:List Nat}(h:aG c t=true):aG (iQ c) (aK c t)=true∧aK (iQ c) (aK c t)=t:=by
 have:=vZ c t h
 simp only [iQ];rw [gx,cG];exact this
structure An (c:List Pt) (t:List Nat) (rs:List (List Pt)):Prop where
 WT:au c=c
 fit:aG c t=true
 dn:aK c t=qT t rs
 WU:told 0 c=yT (told 0 [.keep t.length]) rs
 WV:told 0 (sw c)=yT (told 0 [.keep (qT t rs).length]) (rs.map iQ).reverse
 tt:tot c≤t.length+E4 rs
 ln:c.length≤tot c
section
variable (hs:F[aE]?=some di) (hp:F[cI]?=some iZ) (ht:F[bD]?=some (lH cI aE)) (hm:F[dz]?=some uv)
 (hst:F[aV]?=some eV) (hf:F[bH]?=some (jm aV)) (hb:F[aX]?=some (eY aE)) (ha:F[ee]?=some (oO aE)) (CK:F[qQ]?=some (lG ee aX bH aE dz bD)) (hno:F[gz]?=some (nQ bH)) (hw:5000<w)
include hs hp ht hm hst hf hb ha CK hno hw
end
end
end Pv
namespace Pv
section
variable {t:List Nat}{p q rs:List (List Pt)}{s e w x y c:List Pt}
end
open Ev (D bU bQ TY BI ME T E Es Eo It S Ss Fn big deep b2i rep cC dP bP aS cut cR eF slots)
inductive Hd (L:List V):Sl→List (List V)→Prop
 | val:Hd L (.val (.lst L)) []
 | bor:Hd L (.bor L) [L]
section
variable {F:List Fn}{w n cI aE dz bD bH aV ee aX gz qQ i:Nat}
section
variable (hs:F[aE]?=some di) (hp:F[cI]?=some iZ) (ht:F[bD]?=some (lH cI aE)) (hm:F[dz]?=some uv)
 (hst:F[aV]?=some eV) (hf:F[bH]?=some (jm aV)) (hb:F[aX]?=some (eY aE)) (ha:F[ee]?=some (oO aE)) (CK:F[qQ]?=some (lG ee aX bH aE dz bD)) (hno:F[gz]?=some (nQ bH)) (hw:5000<w)
include hs hp ht hm hst hf hb ha CK hno hw
end
end
end Pv
namespace Pv
open Ev (deep big rep cut bP)
noncomputable def Xq:At→Bool
 | .p _=>false
 | _=>true
theorem E5 {a b:List Pt}(h:aF a=aF b):au a=au b:=(mC a b).mpr (by simp only [jN,cH,fc,h])
noncomputable def lI:List At→Bool
 | .p _ :: _=>false
 | _=>true
structure Cut (c:List Pt) (p:Nat) (A B:List Pt):Prop where
 at_:aF A++aF B=aF (au c)
 bA:aZ A=p
 hd:lI (aF B)=true
 pA:∀ q∈A,0<q.n
 pB:∀ q∈B,0<q.n
 fA:ly A=true
 fB:ly B=true
section
variable {c A B:List Pt}{p:Nat}{t:List Nat}
end
end Pv
namespace Pv
open Ev (D bU bQ TY BI ME T E Es Eo It S Ss Fn big deep rep cut bP)
noncomputable def Am (bE:Nat):S:=.ret (.cl bE (.cons (.bin .add (.v 0) (.v 1)) .nil))
noncomputable def E6 (bE:Nat):Fn:=⟨2,2,(.cons (Am bE) .nil)⟩
noncomputable def CM (mG:Nat) (kF:Nat):S:=.ret (.cl mG (.cons (.cl mG (.cons (.cl kF (.cons (.v 0) .nil)) (.cons (.v 1) .nil))) (.cons (.cl kF (.cons (.v 2) .nil)) .nil)))
noncomputable def Jw (mG:Nat) (kF:Nat):Fn:=⟨3,3,(.cons (CM mG kF) .nil)⟩
section
variable {F:List Fn}{w n aE aV bH aX cI bD gz wz P0 Jx i:Nat}
section
variable (hst:F[aV]?=some eV) (hf:F[bH]?=some (jm aV)) (hj:F[wz]?=some (E6 bH)) (hn:F[gz]?=some (nQ bH)) (ha:F[Jx]?=some (Jw wz gz))
include hst hf hj hn ha
end
end
end Pv
namespace Pv
open Ev (D bU bQ TY BI ME T E Es Eo It S Ss Fn big deep rep cut bP)
structure CA (a:List At) (p:Nat) (x y:List At):Prop where
 ap:x++y=a
 ln:(aA x).length=p
 hd:lI y=true
section
variable {F:List Fn}{w n aE aV bH aX ee cI bD P0 i:Nat}
end
end Pv
namespace Pv
open Ev (D bU bQ TY BI ME T E Es Eo It S Ss Fn big deep rep cut bP)
abbrev Row:=List Nat×List Pt
noncomputable def CN (rs:List Row):List (List Pt):=rs.map Prod.snd
noncomputable def who (st:List V) (o:List Nat):Tq→V
 | .at i=>st.getD i .aP
 | .sg _=>.str o
noncomputable def WY (st:List V) (r:Row):List V:=(told 0 r.2).map (who st r.1)
noncomputable def ows (st:List V) (rs:List Row):List V:=rs.foldl WY st
open Classical in
noncomputable def bJ (t:List Nat) (a c:List Pt):List Pt:=if h:∃ X,Tn a c X t then h.choose else []
noncomputable def WZ (K:List Row):Prop:=∀ A a b B,K=A++a :: b :: B→a.1≠b.1
structure Nm (t:List Nat) (rs K:List Row):Prop where
 ch:Ch t (CN K)
 tx:qT t (CN K)=qT t (CN rs)
 ow:∀ st:List V,st.length=t.length→ows st K=ows st rs
 fm:∀ q∈K,au q.2=q.2∧0<cst q.2
 ad:WZ K
 ln:K.length≤rs.length
 sb:∀ q∈K,∃ r∈rs,r.1=q.1
 tt:E4 (CN K)≤E4 (CN rs)
section
variable {t:List Nat}{rs K:List Row}{o:List Nat}{c:List Pt}
end
end Pv
namespace Pv
open Ev (D bU bQ TY BI ME T E Es Eo It S Ss Fn big deep rep cut bP)
inductive Pa (f:Bool):List At→List At→List At→Prop
 | nil:Pa f [] [] []
 | p1 {a b r:List At} {c:Nat}:(f=true∨lI b=true)→Pa f a b r→Pa f (.p c :: a) b (.p c :: r)
 | p2 {a b r:List At} {c:Nat}:(f=false∨lI a=true)→Pa f a b r→Pa f a (.p c :: b) (.k :: r)
 | kk {a b r:List At}:Pa f a b r→Pa f (.k :: a) (.k :: b) (.k :: r)
 | dk {a b r:List At} {c:Nat}:Pa f a b r→Pa f (.d c :: a) (.k :: b) (.d c :: r)
 | kd {a b r:List At} {c:Nat}:Pa f a b r→Pa f (.k :: a) (.d c :: b) r
 | dd {a b r:List At} {c e:Nat}:Pa f a b r→Pa f (.d c :: a) (.d e :: b) r
theorem uw {f:Bool}{a b:List At}{c d:Nat}(h:f=true∨lI (.p d :: b)=true) (h2:f=false∨lI (.p c :: a)=true):False:=by
 rcases h with rfl | h
 ·rcases h2 with h2 | h2
  ·cases h2
  ·simp [lI] at h2
 ·simp [lI] at h
theorem Pa.uniq {f:Bool}{a b r:List At}(h:Pa f a b r):∀ {r'},Pa f a b r'→r=r':=by
 induction h with
 | nil=>intro r' h';cases h';rfl
 | p1 hc h ih=>
  intro r' h'
  cases h' with
  | p1 _ h'=>rw [ih h']
  | p2 hc' h'=>exact (uw hc hc').elim
 | p2 hc h ih=>
  intro r' h'
  cases h' with
  | p1 hc' h'=>exact (uw hc' hc).elim
  | p2 _ h'=>rw [ih h']
 | kk h ih=>intro r' h';cases h' with | kk h'=>rw [ih h']
 | dk h ih=>intro r' h';cases h' with | dk h'=>rw [ih h']
 | kd h ih=>intro r' h';cases h' with | kd h'=>rw [ih h']
 | dd h ih=>intro r' h';cases h' with | dd h'=>rw [ih h']
theorem Pa.all (f:Bool):∀ (n:Nat) (a b:List At) (t:List Nat),a.length+b.length≤n→aH (aA a) t=true→aH (aA b) t=true→∃ r,Pa f a b r
 | 0,a,b,t,hn,_,_=>by
  obtain rfl:a=[]:=List.length_eq_zero_iff.mp (by omega)
  obtain rfl:b=[]:=List.length_eq_zero_iff.mp (by omega)
  exact ⟨[],.nil⟩
 | n+1,.p c :: a,b,t,hn,h1,h2=>by
  by_cases hc:f=true∨lI b=true
  ·obtain ⟨r,h⟩:=Pa.all f n a b t (by simp at hn;omega) h1 h2
   exact ⟨_,.p1 hc h⟩
  ·cases b with
   | nil=>exact (hc (.inr rfl)).elim
   | cons y b=>
    cases y with
    | k=>exact (hc (.inr rfl)).elim
    | d e=>exact (hc (.inr rfl)).elim
    | p e=>
     obtain ⟨r,h⟩:=Pa.all f n (.p c :: a) b t (by simp at hn ⊢;omega) h1 h2
     exact ⟨_,.p2 (.inl (by cases f <;> simp at hc ⊢)) h⟩
 | n+1,[],.p c :: b,t,hn,h1,h2=>by
  obtain ⟨r,h⟩:=Pa.all f n [] b t (by simp at hn ⊢;omega) h1 h2
  exact ⟨_,.p2 (.inr rfl) h⟩
 | n+1,.k :: a,.p c :: b,t,hn,h1,h2=>by
  obtain ⟨r,h⟩:=Pa.all f n (.k :: a) b t (by simp at hn ⊢;omega) h1 h2
  exact ⟨_,.p2 (.inr rfl) h⟩
 | n+1,.d e :: a,.p c :: b,t,hn,h1,h2=>by
  obtain ⟨r,h⟩:=Pa.all f n (.d e :: a) b t (by simp at hn ⊢;omega) h1 h2
  exact ⟨_,.p2 (.inr rfl) h⟩
 | n+1,[],[],t,_,_,_=>⟨[],.nil⟩
 | n+1,[],.k :: b,t,_,h1,h2=>by cases t <;> simp [aA,aH] at h1 h2
 | n+1,[],.d e :: b,t,_,h1,h2=>by cases t <;> simp [aA,aH] at h1 h2
 | n+1,.k :: a,[],t,_,h1,h2=>by cases t <;> simp [aA,aH] at h1 h2
 | n+1,.d e :: a,[],t,_,h1,h2=>by cases t <;> simp [aA,aH] at h1 h2
 | n+1,.k :: a,.k :: b,t,hn,h1,h2=>by
  cases t with
  | nil=>simp [aA,aH] at h1
  | cons x t=>
   simp only [aA,aH,Bool.and_eq_true] at h1 h2
   obtain ⟨r,h⟩:=Pa.all f n a b t (by simp at hn;omega) h1.2 h2.2
   exact ⟨_,.kk h⟩
 | n+1,.d e :: a,.k :: b,t,hn,h1,h2=>by
  cases t with
  | nil=>simp [aA,aH] at h1
  | cons x t=>
   simp only [aA,aH,Bool.and_eq_true] at h1 h2
   obtain ⟨r,h⟩:=Pa.all f n a b t (by simp at hn;omega) h1.2 h2.2
   exact ⟨_,.dk h⟩
 | n+1,.k :: a,.d c :: b,t,hn,h1,h2=>by
  cases t with
  | nil=>simp [aA,aH] at h1
  | cons x t=>
   simp only [aA,aH,Bool.and_eq_true] at h1 h2
   obtain ⟨r,h⟩:=Pa.all f n a b t (by simp at hn;omega) h1.2 h2.2
   exact ⟨_,.kd h⟩
 | n+1,.d e :: a,.d c :: b,t,hn,h1,h2=>by
  cases t with
  | nil=>simp [aA,aH] at h1
  | cons x t=>
   simp only [aA,aH,Bool.and_eq_true] at h1 h2
   obtain ⟨r,h⟩:=Pa.all f n a b t (by simp at hn;omega) h1.2 h2.2
   exact ⟨_,.dd h⟩
structure Jn (f:Bool) (a b l m:List At) (W:Nat→List Tq):Prop where
 bk:Pa (!f) b a m
 t1:∀ (i:Nat) (U:List Tq),(tA U.length m).map (sub (U++tA i a))=W i
 t2:∀ (i:Nat) (U:List Tq),(tA U.length l).map (sub (U++tA i b))=W i
 ft:∀ t:List Nat,aH (aA a) t=true→aH (aA b) t=true→aH (aA m) (dA a t)=true∧aH (aA l) (dA b t)=true∧dA m (dA a t)=dA l (dA b t)
theorem Pa.RT {f:Bool}:∀ (s:List Nat) {a b r:List At},(f=true∨lI b=true)→Pa f (s.map .p++a) b r→∃ r',r=s.map .p++r'∧Pa f a b r'
 | [],a,b,r,_,h=>⟨r,rfl,h⟩
 | c :: s,a,b,r,hc,h=>by
  rw [List.map_cons,List.cons_append] at h
  cases h with
  | p1 _ h=>
   obtain ⟨r',rfl,h'⟩:=Pa.RT s hc h
   exact ⟨r',rfl,h'⟩
  | p2 hc' h=>exact (uw hc hc').elim
theorem Pa.RU {f:Bool}:∀ (s:List Nat) {a b r:List At},(f=false∨lI a=true)→Pa f a (s.map .p++b) r→∃ r',r=List.replicate s.length .k++r'∧Pa f a b r'
 | [],a,b,r,_,h=>⟨r,rfl,h⟩
 | c :: s,a,b,r,hc,h=>by
  rw [List.map_cons,List.cons_append] at h
  cases h with
  | p1 hc' h=>exact (uw hc' hc).elim
  | p2 _ h=>
   obtain ⟨r',rfl,h'⟩:=Pa.RU s hc h
   exact ⟨r',by simp [List.replicate_succ],h'⟩
theorem Pa.GN {f:Bool}:∀ (n:Nat) {a b r:List At},Pa f (List.replicate n .k++a) (List.replicate n .k++b) r→∃ r',r=List.replicate n .k++r'∧Pa f a b r'
 | 0,a,b,r,h=>⟨r,rfl,h⟩
 | n+1,a,b,r,h=>by
  rw [List.replicate_succ,List.cons_append,List.cons_append] at h
  cases h with
  | kk h=>obtain ⟨r',rfl,h'⟩:=Pa.GN n h;exact ⟨r',by simp [List.replicate_succ],h'⟩
theorem Pa.RW {f:Bool}:∀ (s:List Nat) {a b r:List At},Pa f (s.map .d++a) (List.replicate s.length .k++b) r→∃ r',r=s.map .d++r'∧Pa f a b r'
 | [],a,b,r,h=>⟨r,rfl,h⟩
 | c :: s,a,b,r,h=>by
  rw [List.map_cons,List.cons_append,List.length_cons,List.replicate_succ,List.cons_append] at h
  cases h with
  | dk h=>obtain ⟨r',rfl,h'⟩:=Pa.RW s h;exact ⟨r',rfl,h'⟩
theorem Pa.GO {f:Bool}:∀ (s:List Nat) {a b r:List At},Pa f (List.replicate s.length .k++a) (s.map .d++b) r→Pa f a b r
 | [],a,b,r,h=>h
 | c :: s,a,b,r,h=>by
  rw [List.map_cons,List.cons_append,List.length_cons,List.replicate_succ,List.cons_append] at h
  cases h with
  | kd h=>exact Pa.GO s h
theorem Pa.RX {f:Bool}:∀ (s u:List Nat) {a b r:List At},s.length=u.length→Pa f (s.map .d++a) (u.map .d++b) r→Pa f a b r
 | [],[],a,b,r,_,h=>h
 | [],_ :: _,_,_,_,hl,_=>by simp at hl
 | _ :: _,[],_,_,_,hl,_=>by simp at hl
 | c :: s,e :: u,a,b,r,hl,h=>by
  rw [List.map_cons,List.cons_append,List.map_cons,List.cons_append] at h
  cases h with
  | dd h=>exact Pa.RX s u (by simpa using hl) h
theorem Pa.two {f:Bool}{A B r:List At}(p q:Pt) (hp:eW p=false) (hq:eW q=false) (hn:p.n=q.n) (h:Pa f (p.aF++A) (q.aF++B) r):∃ r',r=aF (if cZ q then [p] else [])++r'∧Pa f A B r':=by
 cases p with
 | put s=>cases hp
 | keep k=>
  cases q with
  | put s=>cases hq
  | keep k'=>simp only [Pt.n] at hn;subst hn;obtain ⟨r',rfl,h'⟩:=Pa.GN k h;exact ⟨r',by simp [cZ,aF,Pt.aF],h'⟩
  | drop s=>simp only [Pt.n] at hn;subst hn;exact ⟨r,by simp [cZ,aF],Pa.GO s h⟩
 | drop s=>
  cases q with
  | put s=>cases hq
  | keep k'=>simp only [Pt.n] at hn;subst hn;obtain ⟨r',rfl,h'⟩:=Pa.RW s h;exact ⟨r',by simp [cZ,aF,Pt.aF],h'⟩
  | drop u=>simp only [Pt.n] at hn;exact ⟨r,by simp [cZ,aF],Pa.RX s u hn h⟩
noncomputable def lJ:List Pt→Bool
 | .put _ :: _=>true
 | _=>false
theorem CO {A:List Pt}(h:∀ p∈A,0<p.n):lI (aF A) = !lJ A:=by
 cases A with
 | nil=>rfl
 | cons p A=>
  have hp:=h p (.head _)
  rw [bL]
  cases p with
  | keep k=>cases k with | zero=>simp [Pt.n] at hp | succ k=>rfl
  | drop s=>cases s with | nil=>simp [Pt.n] at hp | cons c s=>rfl
  | put s=>cases s with | nil=>simp [Pt.n] at hp | cons c s=>rfl
theorem NH {f:Bool}{q:Pt}{B:List Pt}{r:List At}(hq:eW q=false) (h0:0<q.n) (h:Pa f (aF []) (aF (q :: B)) r):False:=by
 rw [bL] at h
 cases q with
 | put s=>cases hq
 | keep k=>cases k with | zero=>simp [Pt.n] at h0 | succ k=>cases h
 | drop s=>cases s with | nil=>simp [Pt.n] at h0 | cons c s=>cases h
theorem NI {f:Bool}{q:Pt}{B:List Pt}{r:List At}(hq:eW q=false) (h0:0<q.n) (h:Pa f (aF (q :: B)) (aF []) r):False:=by
 rw [bL] at h
 cases q with
 | put s=>cases hq
 | keep k=>cases k with | zero=>simp [Pt.n] at h0 | succ k=>cases h
 | drop s=>cases s with | nil=>simp [Pt.n] at h0 | cons c s=>cases h
noncomputable def E7 (mH:Nat):S:=.iff (.cl mH (.cons (.v 0) (.cons (.v 1) .nil))) (.cons (.fL) .nil) .nil
noncomputable def E8 (bE:Nat):S:=.set 3 (.ig (.rev (.cl bE (.cons (.v 0) .nil))))
noncomputable def E9 (bE:Nat):S:=.set 4 (.ig (.rev (.cl bE (.cons (.v 1) .nil))))
noncomputable def Fb:S:=.set 5 (.lst .nil)
noncomputable def wA (fj:Nat) (bO:Nat) (dZ:Nat):Ss:=(.cons (.iff (.an (.cl fj (.cons (.v 3) .nil)) (.orr (.v 2) (.nt (.cl fj (.cons (.v 4) .nil))))) (.cons (.exp (.me .append (.v 5) (.cons (.me .pop (.v 3) .nil) .nil))) .nil) (.cons (.iff (.cl fj (.cons (.v 4) .nil)) (.cons (.exp (.me .append (.v 5) (.cons (.tup (.cons (.c (.str [107,101,101,112])) (.cons (.cl bO (.cons (.me .pop (.v 4) .nil) .nil)) .nil))) .nil))) .nil) (.cons (.set 6 (.bi .min (.cons (.cl bO (.cons (.ix (.v 3) (.neg (.c (.int 1)))) .nil)) (.cons (.cl bO (.cons (.ix (.v 4) (.neg (.c (.int 1)))) .nil)) .nil)))) (.cons (.set 7 (.cl dZ (.cons (.v 3) (.cons (.v 6) .nil)))) (.cons (.iff (.cmp .eq (.ix (.cl dZ (.cons (.v 4) (.cons (.v 6) .nil))) (.c (.int 0))) (.c (.str [107,101,101,112]))) (.cons (.exp (.me .append (.v 5) (.cons (.v 7) .nil))) .nil) .nil) .nil)))) .nil)) .nil)
noncomputable def Fc (fj:Nat) (bO:Nat) (dZ:Nat):S:=.m7 (.orr (.v 3) (.v 4)) (wA fj bO dZ)
noncomputable def Fd (bE:Nat):S:=.ret (.cl bE (.cons (.iT (.v 5)) .nil))
noncomputable def wC (mH:Nat) (bE:Nat) (fj:Nat) (bO:Nat) (dZ:Nat):Fn:=⟨3,8,(.cons (E7 mH) (.cons (E8 bE) (.cons (E9 bE) (.cons Fb (.cons (Fc fj bO dZ) (.cons (Fd bE) .nil))))))⟩
noncomputable def t6:S:=.ret (.an (.cmp .gt (.bi .len (.cons (.v 0) .nil)) (.c (.int 0))) (.cmp .eq (.ix (.ix (.v 0) (.neg (.c (.int 1)))) (.c (.int 0))) (.c (.str [112,117,116]))))
noncomputable def pG:Fn:=⟨1,1,(.cons t6 .nil)⟩
section
variable {F:List Fn}{w n aE aV bH cI bD fZ lK i:Nat}
theorem wD (h:F[i]?=some pG) (A:List Pt):run F w (n+1) i [.bor (A.map Pt.v).reverse]=some (.bl (lJ A),[(A.map Pt.v).reverse]):=by
 refine b7 h rfl ?_
 cases A with
 | nil=>exact ai (bM (Nr (b:=false) (bS (gr (bg (av rfl) bw) oH) (br rfl) Ec) (fun h=>absurd h (by decide)) fun _=>⟨rfl,rfl⟩) ⟨rfl,rfl⟩)
 | cons p A=>
  rw [List.map_cons,List.reverse_cons]
  have gt:cop .gt (.int (((A.map Pt.v).reverse++[p.v]).length:Nat)) (.int 0)=some true:=by rw [Ec];exact congrArg some (decide_eq_true (by simp))
  cases p with
  | keep k=>exact ai (bM (uq (bS (gr (bg (av rfl) bw) oH) (br rfl) gt) (bS (dN (dN (av rfl) (mh (br rfl)) ef) (br rfl) rfl) (br rfl) mj)) ⟨rfl,rfl⟩)
  | drop s=>exact ai (bM (uq (bS (gr (bg (av rfl) bw) oH) (br rfl) gt) (bS (dN (dN (av rfl) (mh (br rfl)) ef) (br rfl) rfl) (br rfl) mj)) ⟨rfl,rfl⟩)
  | put s=>exact ai (bM (uq (bS (gr (bg (av rfl) bw) oH) (br rfl) gt) (bS (dN (dN (av rfl) (mh (br rfl)) ef) (br rfl) rfl) (br rfl) mj)) ⟨rfl,rfl⟩)
theorem GR {P:aR}{g j:Nat}{fr:Fr}{v:V}{l l':List V}(e:fr[j]?=some (some (.own l))) (h:P g [.bor l]=some (v,[l'])):dI P g [.inl j] fr=.ok v (fr.set j (some (.own l'))):=by
 have e1:lent fr j=some (.bor l):=by rw [yI,e];rfl
 simp [dI,bV,args,e1,h,back,e,Sl.with]
noncomputable def fW (one other:List Pt) (f:Bool) (A B C:List Pt) (a b:Option Sl):Fr:=[some (.val (ay one)),some (.val (ay other)),some (.val (.bl f)),some (.own (A.map Pt.v).reverse),some (.own (B.map Pt.v).reverse),some (.own (C.map Pt.v)),a,b]
noncomputable def RY (one other:List Pt) (f:Bool) (r:List At) (N k:Nat) (fr:Fr):Prop:=∃ A B C r' a b,Pa f (aF A) (aF B) r'∧aF C++r'=r∧(∀ p∈A,0<p.n)∧(∀ p∈B,0<p.n)∧C.length+k≤N∧k=tot A+tot B∧vo a∧vo b∧fr=fW one other f A B C a b
noncomputable def RZ (one other:List Pt) (f:Bool) (r:List At) (N t:Nat) (g:Fl) (fr:Fr):Prop:=g=.nx∧∃ j,j<t∧RY one other f r N j fr
theorem NJ {C:List Pt}(lC:C.length≤5000) (d:Pt) (fr:Fr):gP .append 5 [d.v] fr (some (some (.own (C.map Pt.v))))=.ok .aP (fr.set 5 (some (.own ((C++[d]).map Pt.v)))):=by
 rw [List.map_append];exact jR (by simp;omega)
variable (hs:F[aE]?=some di) (hp:F[cI]?=some iZ) (ht:F[bD]?=some (lH cI aE)) (CP:F[fZ]?=some pG) {one other:List Pt}{f:Bool}{r:List At}{N:Nat}
include hs hp ht CP
theorem CQ (hN:N≤5000) (A B C:List Pt) (r':List At) (a b:Option Sl) (hne:A≠[]∨B≠[]) (h:Pa f (aF A) (aF B) r') (hC:aF C++r'=r) (hA:∀ p∈A,0<p.n) (hB:∀ p∈B,0<p.n) (hk:C.length+(tot A+tot B)≤N) (ha:vo a) (hb:vo b) :
  Wp (exs (run F w (n+2)) w (wA fZ aE bD) (fW one other f A B C a b)) (RZ one other f r N (tot A+tot B)):=by
 have lC:C.length≤5000:=by omega
 have pA:∀ B C a b,dI (run F w (n+2)) fZ [.inl 3] (fW one other f A B C a b)=.ok (.bl (lJ A)) (fW one other f A B C a b):=fun B C a b=>GR (l:=(A.map Pt.v).reverse) rfl (wD (w:=w) (n:=n+1) CP A)
 have pB:∀ A C a b,dI (run F w (n+2)) fZ [.inl 4] (fW one other f A B C a b)=.ok (.bl (lJ B)) (fW one other f A B C a b):=fun A C a b=>GR (l:=(B.map Pt.v).reverse) rfl (wD (w:=w) (n:=n+1) CP B)
 have nA:=CO hA
 have nB:=CO hB
 by_cases c1:lJ A=true∧(f=true∨lJ B=false)
 ·obtain ⟨cA,cB⟩:=c1
  have t1:aL (run F w (n+2)) (.an (.cl fZ (.cons (.v 3) .nil)) (.orr (.v 2) (.nt (.cl fZ (.cons (.v 4) .nil))))) (fW one other f A B C a b)=.ok true (fW one other f A B C a b):=by
   refine dQ (aD rfl (aO (j7 rfl aB) (pA B C a b)) cA) ?_
   by_cases hf:f=true
   ·exact qC (aD rfl (av rfl) hf)
   ·exact fY (aD rfl (av rfl) (by simpa using hf)) (jI (b:=false) (aD rfl (aO (j7 rfl aB) (pB A C a b)) (cB.resolve_left hf)))
  refine ai (aM t1 (fun _=>?_) fun h=>absurd h (by decide))
  cases A with
  | nil=>cases cA
  | cons p A'=>
   cases p with
   | keep k=>cases cA
   | drop s=>cases cA
   | put s=>
    rw [bL] at h
    obtain ⟨r2,e2,h2⟩:=Pa.RT s (by rw [nB];rcases cB with z | z <;> simp [z]) h
    have hs1:=hA (.put s) (.head _)
    unfold fW
    rw [List.map_cons,List.reverse_cons]
    refine ai (fC (ku rfl rfl (bg (ku rfl rfl bw oJ) bw) (NJ lC (.put s) _)) (aC (aC ?_)))
    refine ⟨rfl,tot A'+tot B,by rw [aW];omega,A',B,C++[.put s],r2,a,b,h2,?_,fun x hx=>hA x (.tail _ hx),hB,?_,rfl,ha,hb,rfl⟩
    ·rw [←hC,e2,gc];simp [aF,Pt.aF]
    ·rw [aW] at hk;simp;omega
 ·have t1:aL (run F w (n+2)) (.an (.cl fZ (.cons (.v 3) .nil)) (.orr (.v 2) (.nt (.cl fZ (.cons (.v 4) .nil))))) (fW one other f A B C a b)=.ok false (fW one other f A B C a b):=by
   by_cases cA:lJ A=true
   ·have cf:f=false:=by cases f with | false=>rfl | true=>exact (c1 ⟨cA,.inl rfl⟩).elim
    have cB:lJ B=true:=by cases e:lJ B with | true=>rfl | false=>exact (c1 ⟨cA,.inr e⟩).elim
    exact dQ (aD rfl (aO (j7 rfl aB) (pA B C a b)) cA) (fY (aD rfl (av rfl) cf) (jI (b:=true) (aD rfl (aO (j7 rfl aB) (pB A C a b)) cB)))
   ·exact iN (aD rfl (aO (j7 rfl aB) (pA B C a b)) (by simpa using cA))
  refine ai (aM t1 (fun h=>absurd h (by decide)) fun _=>?_)
  by_cases cB:lJ B=true
  ·refine ai (aM (b:=true) (aD rfl (aO (j7 rfl aB) (pB A C a b)) cB) (fun _=>?_) fun h=>absurd h (by decide))
   cases B with
   | nil=>cases cB
   | cons q B'=>
    cases q with
    | keep k=>cases cB
    | drop s=>cases cB
    | put s=>
     rw [bL] at h
     have P1:f=false∨lI (aF A)=true:=by
      rw [nA]
      cases e:lJ A with
      | false=>exact .inr rfl
      | true=>exact .inl (by cases f with | false=>rfl | true=>exact (c1 ⟨e,.inl rfl⟩).elim)
     obtain ⟨r2,e2,h2⟩:=Pa.RU s P1 h
     have hs1:=hB (.put s) (.head _)
     have sl:s.length≤5000:=by rw [aW] at hk;simp [Pt.n] at hk;omega
     have z:=fun fr=>bY (fr:=fr) (gv (F:=F) (w:=w) (n:=n+1) hs (.put s) (by simp [Pt.n];omega))
     unfold fW
     rw [List.map_cons,List.reverse_cons]
     refine ai (fC (ku rfl rfl (bg (qy (bg (br rfl) (bg (aO (az rfl (ku rfl rfl bw oJ) aB) (z _)) bw)) zR) bw) (NJ lC (.keep s.length) _)) (aC (aC (aC ?_))))
     refine ⟨rfl,tot A+tot B',by rw [aW];omega,A,B',C++[.keep s.length],r2,a,b,h2,?_,hA,fun x hx=>hB x (.tail _ hx),?_,rfl,ha,hb,rfl⟩
     ·rw [←hC,e2,gc];simp [aF,Pt.aF]
     ·rw [aW] at hk;simp [Pt.n] at hk hs1 ⊢;omega
  ·have cA:lJ A=false:=by
    cases e:lJ A with
    | false=>rfl
    | true=>exact (c1 ⟨e,.inr (by simpa using cB)⟩).elim
   refine ai (aM (b:=false) (aD rfl (aO (j7 rfl aB) (pB A C a b)) (by simpa using cB)) (fun h=>absurd h (by decide)) fun _=>?_)
   cases A with
   | nil=>
    cases B with
    | nil=>exact absurd hne (by simp)
    | cons q B'=>exact (NH (by cases q <;> first | rfl | exact absurd rfl cB) (hB q (.head _)) h).elim
   | cons p A'=>
    have hpp:eW p=false:=by cases p <;> first | rfl | cases cA
    cases B with
    | nil=>exact (NI hpp (hA p (.head _)) h).elim
    | cons q B'=>
     have R0:eW q=false:=by cases q <;> first | rfl | exact absurd rfl cB
     have hp0:=hA p (.head _)
     have Bq:=hB q (.head _)
     obtain ⟨m,hm1,hm2,WX⟩:∃ m:Nat,m≤p.n∧m≤q.n∧(m=p.n∨m=q.n):=⟨min p.n q.n,by omega,by omega,by omega⟩
     have mn:cS .min [.int p.n,.int q.n]=some (.int m):=by
      rw [B7]
      split
      ·congr 2;omega
      ·congr 2;omega
     rw [aW,aW] at hk
     have lA:=eO (c:=A') fun x hx=>hA x (.tail _ hx)
     have lB:=eO (c:=B') fun x hx=>hB x (.tail _ hx)
     have h3:Pa f ((p.tk m).aF++aF (iU m p++A')) ((q.tk m).aF++aF (iU m q++B')) r':=by
      rw [gc,gc,←List.append_assoc,←List.append_assoc,←oQ hm1,←oQ hm2,←bL,←bL];exact h
     obtain ⟨r2,e2,h4⟩:=Pa.two (p.tk m) (q.tk m) (by rw [oS.2];exact hpp) (by rw [oS.2];exact R0) (by rw [(qS hm1).2,(qS hm2).2]) h3
     have z1:=fun fr=>bY (fr:=fr) (gv (F:=F) (w:=w) (n:=n+1) hs p (by omega))
     have z2:=fun fr=>bY (fr:=fr) (gv (F:=F) (w:=w) (n:=n+1) hs q (by omega))
     have k1:=kE (F:=F) (w:=w) (n:=n) hs hp ht (A'.map Pt.v).reverse p m hm1 (by omega) (by simp;omega)
     have k2:=kE (F:=F) (w:=w) (n:=n) hs hp ht (B'.map Pt.v).reverse q m hm2 (by omega) (by simp;omega)
     rw [←yS] at k1 k2
     have fin:∀ C' b',vo b'→aF C'++r2=r→C'.length≤C.length+1→RZ one other f r N (tot (p :: A')+tot (q :: B')) .nx (fW one other f (iU m p++A') (iU m q++B') C' (some (.val (.int m))) b'):=fun C' b' vb e3 e4=>by
      refine ⟨rfl,_,?_,_,_,_,r2,_,_,h4,e3,?_,?_,?_,rfl,.val,vb,rfl⟩
      ·rw [dY,dY,iC,iC,aW,aW];omega
      ·intro x hx
       rcases List.mem_append.mp hx with hx | hx
       ·exact oR m p x hx
       ·exact hA x (.tail _ hx)
      ·intro x hx
       rcases List.mem_append.mp hx with hx | hx
       ·exact oR m q x hx
       ·exact hB x (.tail _ hx)
      ·rw [dY,dY,iC,iC];omega
     unfold fW
     rw [List.map_cons,List.reverse_cons,List.map_cons,List.reverse_cons]
     refine ai (bI (gr (bg (aO (az rfl (dN (av rfl) (mh (br rfl)) ef) aB) (z1 _)) (bg (aO (az rfl (dN (av rfl) (mh (br rfl)) ef) aB) (z2 _)) bw)) mn) rfl (fE rfl ha) ?_)
     refine ai (bI (aO (j7 rfl (az rfl (av rfl) aB)) (qR rfl k1)) rfl (fE rfl hb) ?_)
     cases q with
     | put s=>cases R0
     | keep k=>
      have NK:r'=(p.tk m).aF++r2:=by rw [e2];simp [cZ,Pt.tk,aF]
      refine ai (aM (b:=true) (aD rfl (bS (dN (aO (j7 rfl (az rfl (av rfl) aB)) (qR rfl k2)) (br rfl) rfl) (br rfl) mj) rfl) (fun _=>?_) fun h=>absurd h (by decide))
      refine ai (fC (ku rfl rfl (bg (av rfl) bw) (NJ lC (p.tk m) _)) (aC (aC (aC (aC ?_)))))
      exact fin (C++[p.tk m]) _ .val (by rw [←hC,NK,gc];simp [aF]) (by simp)
     | drop s=>
      have NK:r'=r2:=by rw [e2];simp [cZ,Pt.tk,aF]
      refine ai (aM (b:=false) (aD rfl (bS (dN (aO (j7 rfl (az rfl (av rfl) aB)) (qR rfl k2)) (br rfl) rfl) (br rfl) mj) rfl) (fun h=>absurd h (by decide)) fun _=>aC (aC (aC ?_)))
      exact aC (fin C _ .val (by rw [←hC,NK]) (by omega))
omit hs hp ht CP in
theorem Pa.len {f:Bool}{a b r:List At}(h:Pa f a b r):r.length≤a.length+b.length:=by
 induction h with
 | nil=>exact Nat.le_refl _
 | p1 _ _ ih=>simp;omega
 | p2 _ _ ih=>simp;omega
 | kk _ ih=>simp;omega
 | dk _ ih=>simp;omega
 | kd _ ih=>simp;omega
 | dd _ ih=>simp;omega
theorem Fe (hst:F[aV]?=some eV) (hf:F[bH]?=some (jm aV)) (hd:F[i]?=some (wC lK bH fZ aE bD)) (hw:5000<w) (one other:List Pt) (f:Bool) (t:List Nat) (h1:aG one t=true) (h2:aG other t=true) (b1:tot one≤2000) (b2:tot other≤2000) (l1:one.length≤2000) (l2:other.length≤2000)
  (hcl:run F w (n+2) lK [.val (ay one),.val (ay other)]=some (.lst [],[])) :
  ∃ ps,Pa f (aF (au one)) (aF (au other)) (aF ps)∧run F w (n+3) i [.val (ay one),.val (ay other),.val (.bl f)]=some (ay (au ps),[]):=by
 have f1:aH (aA (aF (au one))) t=true:=by rw [←cH,cV,←cK];exact h1
 have f2:aH (aA (aF (au other))) t=true:=by rw [←cH,cV,←cK];exact h2
 obtain ⟨r,hr⟩:=Pa.all f _ _ _ t (Nat.le_refl _) f1 f2
 have c0:=fun fr=>call2 (fr:=fr) hcl
 have c3:=fun fr=>bY (fr:=fr) (eZ (F:=F) (w:=w) (n:=n) hst hf one (by omega) (by omega))
 have c4:=fun fr=>bY (fr:=fr) (eZ (F:=F) (w:=w) (n:=n) hst hf other (by omega) (by omega))
 have t1:=fV one
 have t2:=fV other
 have g1:=eO (fH (eE one))
 have g2:=eO (fH (eE other))
 have m1:er ((au one).map Pt.v).reverse=some (.lst ((au one).map Pt.v).reverse):=eU (cz (by simp;omega))
 have m2:er ((au other).map Pt.v).reverse=some (.lst ((au other).map Pt.v).reverse):=eU (cz (by simp;omega))
 have key:Wp (exs (run F w (n+2)) w (wC lK bH fZ aE bD).body (eK (wC lK bH fZ aE bD) [.val (ay one),.val (ay other),.val (.bl f)])) fun g fr=>∃ ps,aF ps=r∧g=.ret (ay (au ps))∧outs 3 fr=[]:=by
  refine ai (aM (b:=false) (aD rfl (aO (az rfl (av rfl) (az rfl (av rfl) aB)) (c0 _)) rfl) (fun h=>absurd h (by decide)) fun _=>aC ?_)
  refine ai (gQ (l:=((au one).map Pt.v).reverse) (qA (qE (aO (az rfl (av rfl) aB) (c3 _)) rfl) m1) rfl rfl ?_)
  refine ai (gQ (l:=((au other).map Pt.v).reverse) (qA (qE (aO (az rfl (av rfl) aB) (c4 _)) rfl) m2) rfl rfl ?_)
  refine ai (gQ (l:=[]) (oK bw lY) rfl rfl ?_)
  refine ai (GB (qx (RY one other f r (tot one+tot other)) (fun k fr hI=>?_) w (tot one+tot other) _ (by omega) ⟨au one,au other,[],r,none,none,hr,rfl,fH (eE one),fH (eE other),by simp,by omega,.none,.none,rfl⟩))
  obtain ⟨A,B,C,r',a,b,hT,hC,hA,hB,hk,hkk,CL,R1,rfl⟩:=hI
  by_cases hne:A≠[]∨B≠[]
  ·have ht1:aL (run F w (n+2)) (.orr (.v 3) (.v 4)) (fW one other f A B C a b)=.ok true (fW one other f A B C a b):=by
    cases A with
    | cons p A=>unfold fW;rw [List.map_cons,List.reverse_cons];exact qC (aD rfl (av rfl) jh)
    | nil=>
     cases B with
     | nil=>simp at hne
     | cons q B=>unfold fW;rw [List.map_cons,List.reverse_cons];exact fY (aD rfl (av rfl) rfl) (aD rfl (av rfl) jh)
   refine ⟨true,_,ht1,?_⟩
   dsimp only
   rw [if_pos rfl]
   refine (CQ hs hp ht CP (N:=tot one+tot other) (by omega) A B C r' a b hne hT hC hA hB (by omega) CL R1).mono fun g fr ⟨hg,hx⟩=>?_
   subst hg hkk
   exact hx
  ·obtain ⟨rfl,rfl⟩:A=[]∧B=[]:=by simpa using hne
   refine ⟨false,_,fY (aD rfl (av rfl) rfl) (aD rfl (av rfl) rfl),?_⟩
   dsimp only
   rw [if_neg (by decide)]
   cases hT
   rw [List.append_nil] at hC
   subst hC
   have lC:=hr.len
   rw [gF,gF,gF] at lC
   have mt:toT (.lst (C.map Pt.v))=some (ay C):=by rw [rY];exact jl (cz (by simp;omega))
   have c5:=fun fr=>bY (fr:=fr) (eZ (F:=F) (w:=w) (n:=n) hst hf C (by omega) (by omega))
   have sh:gE (fW one other f [] [] C a b)=[some (.val (ay one)),some (.val (ay other)),some (.val (.bl f)),some (.val (.lst [])),some (.val (.lst [])),some (.val (.lst (C.map Pt.v))),a,b]:=by
    show _ :: _ :: _ :: _ :: _ :: _ :: [a.map Sl.dU,b.map Sl.dU]=_
    rw [cP CL,cP R1];rfl
   refine ai (bM (v:=ay (au C)) (af:=[some (.val (ay one)),some (.val (ay other)),some (.val (.bl f)),some (.val (.lst [])),some (.val (.lst [])),some (.val (.lst (C.map Pt.v))),a,b]) ?_ ⟨C,rfl,rfl,rfl⟩)
   rw [sh]
   exact aO (az rfl (qB (av rfl) mt) aB) (c5 _)
 obtain ⟨g,fr,e,ps,hps,hg,ho⟩:=key
 exact ⟨ps,hps▸hr,b7 hd rfl ⟨g,fr,e,hg,ho⟩⟩
end
noncomputable def pS:List At→List Nat
 | []=>[]
 | .p c :: a=>c :: pS a
 | _ :: a=>pS a
theorem qU:∀ a b:List At,pS (a++b)=pS a++pS b
 | [],_=>rfl
 | .k :: a,b=>qU a b
 | .d _ :: a,b=>qU a b
 | .p c :: a,b=>congrArg (c :: ·) (qU a b)
theorem P4 (n:Nat):pS (List.replicate n .k)=[]:=by
 induction n with
 | zero=>rfl
 | succ n ih=>exact ih
end Pv
namespace Pv
open Ev (D bU bQ TY BI ME T E Es Eo It S Ss Fn big deep rep cut bP)
theorem yU (k:List (Int×List Nat)) (p q:Int) (s:List Nat):Ev.cg (Ev.cW k p s) q=if q=p then some s else Ev.cg k q:=by
 unfold Ev.cW
 split
 ·rename_i h
  unfold Ev.cg
  induction k with
  | nil=>simp at h
  | cons x k ih=>
   simp only [List.map_cons,List.find?_cons]
   by_cases hx:x.1=p
   ·rw [if_pos hx]
    by_cases hq:q=p
    ·simp [hx,hq]
    ·have:¬ (x.1=q):=fun z=>hq (by rw [←z,hx])
     simp only [decide_eq_false this,if_neg hq]
     clear ih h
     induction k with
     | nil=>rfl
     | cons y k ih=>
      simp only [List.map_cons,List.find?_cons]
      by_cases hy:y.1=p
      ·rw [if_pos hy]
       have:¬ (y.1=q):=fun z=>hq (by rw [←z,hy])
       simp only [decide_eq_false this];exact ih
      ·rw [if_neg hy]
       by_cases hz:y.1=q
       ·simp [hz]
       ·simp only [decide_eq_false hz];exact ih
   ·rw [if_neg hx]
    by_cases hq:x.1=q
    ·have:¬ q=p:=fun z=>hx (by rw [hq,z])
     simp [hq,this]
    ·simp only [decide_eq_false hq]
     exact ih (by simpa [hx] using h)
 ·rename_i h
  unfold Ev.cg
  rw [List.find?_append]
  by_cases hq:q=p
  ·subst hq
   have:k.find? (fun x=>decide (x.1=q))=none:=by
    rw [List.find?_eq_none]
    intro x hx hz
    exact h (List.any_eq_true.mpr ⟨x,hx,hz⟩)
   rw [this];simp
  ·have:¬ p=q:=fun z=>hq z.symm
   simp [hq,this]
noncomputable def KI (t:List Nat) (k:List (Int×List Nat)):Prop:=∀ p s,Ev.cg k p=some s→∃ (i c:Nat),p=i∧t[i]?=some c∧s=[c]
theorem KI.put {t:List Nat}{k:List (Int×List Nat)}(h:KI t k) {i c:Nat}(hc:t[i]?=some c):KI t (Ev.cW k i [c]):=fun p s e=>by
 rw [yU] at e
 split at e
 ·rename_i hp;cases e;exact ⟨i,c,hp,hc,rfl⟩
 ·exact h p s e
theorem KI.wF {t:List Nat}:∀ (s:List Nat) {k:List (Int×List Nat)}(i:Nat),KI t k→(t.drop i).take s.length=s→KI t (gI k i s)
 | [],k,i,h,_=>h
 | c :: s,k,i,h,e=>by
  have hl:i<t.length:=by
   refine Nat.lt_of_not_le fun z=>?_
   rw [List.drop_eq_nil_of_le z] at e;simp at e
  rw [List.drop_eq_getElem_cons hl,List.length_cons,List.take_succ_cons,List.cons.injEq] at e
  have:=KI.wF s (i+1) (h.put (i:=i) (c:=c) (by rw [List.getElem?_eq_getElem hl,e.1])) e.2
  exact this
theorem wG:∀ (s:List Nat) (k:List (Int×List Nat)) (p:Int),(gI k p s).length≤k.length+s.length
 | [],k,p=>by simp [gI]
 | c :: s,k,p=>by
  have h1:=wG s (Ev.cW k p [c]) (p+1)
  have h2:(Ev.cW k p [c]).length≤k.length+1:=by unfold Ev.cW;split <;> simp
  rw [gI,List.length_cons];omega
noncomputable def nD:List Pt→Nat
 | []=>0
 | .drop s :: c=>s.length+nD c
 | _ :: c=>nD c
theorem jt:∀ c:List Pt,nD c≤tot c
 | []=>Nat.zero_le _
 | .drop s :: c=>by have:=jt c;rw [aW];simp only [nD,Pt.n];omega
 | .put s :: c=>by have:=jt c;rw [aW];simp only [nD,Pt.n];omega
 | .keep n :: c=>by have:=jt c;rw [aW];simp only [nD,Pt.n];omega
theorem qV:∀ (c:List Pt) (t:List Nat) (i:Nat) (k:List (Int×List Nat)),aG c (t.drop i)=true→KI t k→k.length+nD c≤1000→∃ k',bf (c.map Pt.v) i k=some k'∧KI t k'∧k'.length≤k.length+nD c
 | [],t,i,k,_,h,_=>⟨k,rfl,h,by omega⟩
 | .keep m :: c,t,i,k,hf,h,hb=>by
  have hf':aG c (t.drop (i+m))=true:=by simp only [aG,Bool.and_eq_true] at hf;have:=hf.2;rwa [List.drop_drop] at this
  obtain ⟨k',e1,e2,e3⟩:=qV c t (i+m) k hf' h hb
  refine ⟨k',?_,e2,e3⟩
  show bf (.tup [.str [107,101,101,112],.int m] :: c.map Pt.v) i k=_
  rw [bf,if_pos rfl,←e1];congr 1
 | .put s :: c,t,i,k,hf,h,hb=>by
  obtain ⟨k',e1,e2,e3⟩:=qV c t i k hf h hb
  refine ⟨k',?_,e2,e3⟩
  show bf (.tup [.str [112,117,116],.str s] :: c.map Pt.v) i k=_
  rw [bf,if_neg (by decide),if_neg (by decide)];exact e1
 | .drop s :: c,t,i,k,hf,h,hb=>by
  simp only [aG,Bool.and_eq_true,decide_eq_true_eq] at hf
  simp only [nD] at hb
  have hl:=wG s k i
  obtain ⟨k',e1,e2,e3⟩:=qV c t (i+s.length) (gI k i s) (by have:=hf.2;rwa [List.drop_drop] at this) (h.wF s i (List.prefix_iff_eq_take.mp (List.isPrefixOf_iff_prefix.mp hf.1)).symm) (by omega)
  refine ⟨k',?_,e2,by simp only [nD];omega⟩
  show bf (.tup [.str [100,114,111,112],.str s] :: c.map Pt.v) i k=_
  rw [bf,if_pos rfl,if_pos (by omega),←e1];congr 1
section
variable {F:List Fn}{w n i:Nat}
theorem qW (hd:F[i]?=some eL) (c:List Pt) (t:List Nat) (hf:aG c t=true) (b:nD c≤1000):∃ k,run F w (n+1) i [.val (ay c)]=some (.dct k,[])∧KI t k∧k.length≤nD c:=by
 obtain ⟨k,e1,e2,e3⟩:=qV c t 0 [] hf (fun p s e=>by cases e) (by simpa using b)
 refine ⟨k,?_,e2,by simpa using e3⟩
 have bad:exs (run F w n) w eL.body (eK eL [.val (ay c)])=.bad:=by
  show exs _ _ (.cons (.set 1 .gW) _) _=_
  rw [exs,ex,ev];rfl
 rw [run_eq hd rfl,bad]
 have fb:fin eL [.val (ay c)] .bad=tP eL [.val (ay c)]:=by simp only [fin]
 rw [fb]
 unfold tP
 rw [if_pos rfl]
 show (bf (c.map Pt.v) 0 []).map _=_
 have LA:bf (c.map Pt.v) 0 []=some k:=e1
 rw [LA];rfl
theorem Ff {l:List Int}{x:Int}(h:x∈Ev.sortI l):x∈l:=by
 have ins:∀ (a:Int) (m:List Int),x∈Ev.insI a m→x=a∨x∈m:=fun a m=>by
  induction m with
  | nil=>intro h;simp [Ev.insI] at h;exact .inl h
  | cons b m ih=>
   intro h
   unfold Ev.insI at h
   split at h
   ·rcases List.mem_cons.mp h with h | h
    ·exact .inl h
    ·exact .inr h
   ·rcases List.mem_cons.mp h with h | h
    ·exact .inr (by rw [h];simp)
    ·rcases ih h with h | h
     ·exact .inl h
     ·exact .inr (.tail _ h)
 induction l with
 | nil=>simp [Ev.sortI] at h
 | cons a l ih=>
  rcases ins a _ h with h | h
  ·rw [h];simp
  ·exact .tail _ (ih h)
theorem Fi (l:List Int):(Ev.sortI l).length=l.length:=by
 have ins:∀ (a:Int) (m:List Int),(Ev.insI a m).length=m.length+1:=fun a m=>by
  induction m with
  | nil=>rfl
  | cons b m ih=>unfold Ev.insI;split <;> simp [ih]
 induction l with
 | nil=>rfl
 | cons a l ih=>rw [Ev.sortI,ins,ih];rfl
theorem Jy {k:List (Int×List Nat)}{p:Int}(h:p∈k.map (·.1)):∃ s,Ev.cg k p=some s:=by
 obtain ⟨x,hx,rfl⟩:=List.mem_map.mp h
 unfold Ev.cg
 cases e:k.find? (fun y=>decide (y.1=x.1)) with
 | none=>rw [List.find?_eq_none] at e;exact absurd (decide_eq_true rfl) (e x hx)
 | some y=>exact ⟨y.2,rfl⟩
noncomputable def wH (cL:Nat):S:=.iff (.cmp .ne (.cl cL (.cons (.v 0) .nil)) (.cl cL (.cons (.v 1) .nil))) (.cons (.fL) .nil) .nil
noncomputable def wI (bC:Nat):S:=.set 2 (.cl bC (.cons (.v 0) .nil))
noncomputable def wJ (bC:Nat):S:=.set 3 (.cl bC (.cons (.v 1) .nil))
noncomputable def wK:S:=.ret (.comp (.v 4) (.one 4) (.seq (.bi .kg (.cons (.v 2) .nil))) (.yes (.cmp .ne (.ki (.v 3) (.v 4) (.kh (.v 2) (.v 4))) (.kh (.v 2) (.v 4)))))
noncomputable def qX (cL:Nat) (bC:Nat):Fn:=⟨2,5,(.cons (wH cL) (.cons (wI bC) (.cons (wJ bC) (.cons wK .nil))))⟩
theorem Ao {aE aX fX:Nat}(hs:F[aE]?=some di) (hb:F[aX]?=some (eY aE)) (hd:F[fX]?=some eL) (hc:F[i]?=some (qX aX fX)) (one other:List Pt) (t:List Nat) (h1:aG one t=true) (h2:aG other t=true) (d1:nD one≤60) (d2:nD other≤60) (b1:tot one≤2000) (b2:tot other≤2000) (l1:one.length≤900) (l2:other.length≤900) :
  run F w (n+3) i [.val (ay one),.val (ay other)]=some (.lst [],[]):=by
 obtain ⟨k1,r1,K1,n1⟩:=qW (F:=F) (w:=w) (n:=n+1) hd one t h1 (by omega)
 obtain ⟨k2,r2,K2,n2⟩:=qW (F:=F) (w:=w) (n:=n+1) hd other t h2 (by omega)
 have r1:=fun fr=>bY (fr:=fr) r1
 have r2:=fun fr=>bY (fr:=fr) r2
 have c1:=fun fr=>bY (fr:=fr) (iO (F:=F) (w:=w) (n:=n) hs hb one (by omega) (by omega))
 have c2:=fun fr=>bY (fr:=fr) (iO (F:=F) (w:=w) (n:=n) hs hb other (by omega) (by omega))
 have e1:=iB h1
 have e2:=iB h2
 have ne:cop .ne (.int (aZ one)) (.int (aZ other))=some false:=by rw [ur,←e1,←e2];simp
 have so:cS .kg [.dct k1]=some (.lst ((Ev.sortI (k1.map (·.1))).map V.int)):=by
  delta cS;dsimp only
  show (if k1.length<64 then er _ else none)=_
  rw [if_pos (by omega)]
  exact eU (cz (by rw [List.length_map,Fi,List.length_map];omega))
 refine b7 hc rfl ?_
 refine ai (aM (b:=false) (aD rfl (bS (aO (az rfl (av rfl) aB) (c1 _)) (aO (az rfl (av rfl) aB) (c2 _)) ne) rfl) (fun h=>absurd h (by decide)) fun _=>aC ?_)
 refine ai (bI (aO (az rfl (av rfl) aB) (r1 _)) rfl rfl ?_)
 refine ai (bI (aO (az rfl (av rfl) aB) (r2 _)) rfl rfl ?_)
 refine ai (bM (iM (l:=[]) (eB (gr (bg (av rfl) bw) so) rfl) rfl ?_ lY) ⟨rfl,rfl⟩)
 have none_:∀ {f:V→Option (Option V)} (l:List Int),(∀ p∈l,f (.int p)=some none)→cO f (l.map V.int)=some []:=fun {f} l h=>by
  have:=j5 (f:=f) V.int (fun _=>false) (fun _=>V.aP) l fun a ha=>by rw [h a ha];rfl
  rw [this];simp
 refine none_ _ fun p hp=>?_
 obtain ⟨s,hv⟩:=Jy (Ff hp)
 obtain ⟨j,c,rfl,hc1,rfl⟩:=K1 p s hv
 have g1:pR (.dct k1) (.int j)=some (.str [c]):=by simp [pR,hv]
 have g2:nq (.dct k2) (.int j) (.str [c])=some (.str [c]):=by
  cases e:Ev.cg k2 j with
  | none=>simp [nq,e]
  | some s2=>
   obtain ⟨j2,c',hj,hc2,rfl⟩:=K2 _ _ e
   have:j2=j:=by omega
   subst this
   rw [hc1] at hc2;cases hc2
   simp [nq,e]
 exact rZ (b:=false) (v:=.aP) (bG:=[]) rfl (aD rfl (bS (GA (av rfl) (av rfl) (Gz (av rfl) (av rfl) g1) g2) (Gz (av rfl) (av rfl) g1) (by rw [je];simp)) rfl) fun h=>absurd h (by decide)
theorem wL {aE aX fX:Nat}(hs:F[aE]?=some di) (hb:F[aX]?=some (eY aE)) (hd:F[fX]?=some eL) (hc:F[i]?=some (qX aX fX)) (one other:List Pt) (t:List Nat) (h1:aG one t=true) (h2:aG other t=true) (b1:tot one≤60) (b2:tot other≤60) (l1:one.length≤900) (l2:other.length≤900) :
  run F w (n+3) i [.val (ay one),.val (ay other)]=some (.lst [],[]):=
 Ao hs hb hd hc one other t h1 h2 (Nat.le_trans (jt _) b1) (Nat.le_trans (jt _) b2) (Nat.le_trans b1 (by decide)) (Nat.le_trans b2 (by decide)) l1 l2
end
theorem NL:∀ s:List Nat,pS (s.map .p)=s
 | []=>rfl
 | c :: s=>congrArg (c :: ·) (NL s)
theorem NN:∀ s:List Nat,pS (s.map .d)=[]
 | []=>rfl
 | _ :: s=>NN s
end Pv
namespace Pv
noncomputable def R3:At→Pt
 | .k=>.keep 1
 | .d c=>.drop [c]
 | .p c=>.put [c]
theorem qY:∀ r:List At,aF (r.map R3)=r
 | []=>rfl
 | .k :: r=>by rw [List.map_cons,bL,qY r];rfl
 | .d c :: r=>by rw [List.map_cons,bL,qY r];rfl
 | .p c :: r=>by rw [List.map_cons,bL,qY r];rfl
open Classical in
noncomputable def R4 (f:Bool) (a b:List At):List At:=if h:∃ r,Pa f a b r then h.choose else []
noncomputable def ld (f:Bool) (one other:List Pt):List Pt:=au ((R4 f (aF (au one)) (aF (au other))).map R3)
theorem P5 {f:Bool}{one other ps:List Pt}(h:Pa f (aF (au one)) (aF (au other)) (aF ps)):ld f one other=au ps:=by
 unfold ld
 refine E5 ?_
 have h2:∃ r,Pa f (aF (au one)) (aF (au other)) r:=⟨_,h⟩
 rw [qY,R4,dif_pos h2]
 exact h2.choose_spec.uniq h
theorem U7 {f:Bool}{one other one' other':List Pt}(h:au one=au one') (h2:au other=au other'):ld f one other=ld f one' other':=by unfold ld;rw [h,h2]
noncomputable def nP (c:List Pt):Nat:=(pS (aF c)).length
theorem sy (p:Pt) (c:List Pt):nP (p :: c)=(pS p.aF).length+nP c:=by unfold nP;rw [bL,qU,List.length_append]
theorem ju:∀ c:List Pt,tot c=aZ c+nP c
 | []=>rfl
 | .keep n :: c=>by rw [aW,kC,sy,ju c,Pt.aF,P4];simp [Pt.n];omega
 | .drop s :: c=>by rw [aW,mz,sy,ju c,Pt.aF,NN];simp [Pt.n];omega
 | .put s :: c=>by rw [aW,kD,sy,ju c,Pt.aF,NL];simp [Pt.n];omega
structure Ld (f:Bool) (one other l:List Pt) (t:List Nat):Prop where
 ft:aG l (aK other t)=true
 fm:au l=l
 np:nP l=nP one
 nd:nD l≤nD one
noncomputable def yV (rs:List (List Pt)):Nat:=(rs.map nP).sum
noncomputable def Fw (rs:List (List Pt)):Prop:=∀ c∈rs,au c=c∧nD c≤60
structure Rp (c:List Pt) (os:List (List Pt)) (t:List Nat) (c':List Pt) (L:List (List Pt)):Prop where
 ft:aG c' (qT t os)=true
 ch:Ch (aK c t) L
 tx:qT (aK c t) L=aK c' (qT t os)
 tl:∀ T,yT T (c :: L)=yT T (os++[c'])
 ln:L.length=os.length
 pt:yV L=yV os
 fw:Fw os→Fw L
 np:nP c'=nP c
 nd:nD c'≤nD c
 fm:au c=c→au c'=c'
structure Rs (as os:List (List Pt)) (t:List Nat) (M Y:List (List Pt)):Prop where
 c1:Ch (qT t os) M
 c2:Ch (qT t as) Y
 tl:∀ T,yT T (as++Y)=yT T (os++M)
 l1:M.length=as.length
 l2:Y.length=os.length
 p1:yV M=yV as
 p2:yV Y=yV os
 f1:(∀ c∈as,nD c≤60)→Fw M
 f2:Fw os→Fw Y
end Pv
namespace Pv
open Ev (D bU bQ TY BI ME T E Es Eo It S Ss Fn big deep rep cut bP)
noncomputable def KE (t:List Nat) (k:List (Int×List Nat)):Prop:=∀ e∈k,∃ (i c:Nat),e.1=i∧t[i]?=some c∧e.2=[c]
theorem Fj {k:List (Int×List Nat)}{p:Int}{s:List Nat}{e:Int×List Nat}(h:e∈Ev.cW k p s):e∈k∨(e.1=p∧e.2=s):=by
 unfold Ev.cW at h
 split at h
 ·obtain ⟨q,hq,rfl⟩:=List.mem_map.mp h
  split
  ·rename_i z;exact .inr ⟨z,rfl⟩
  ·exact .inl hq
 ·rcases List.mem_append.mp h with h | h
  ·exact .inl h
  ·rw [List.mem_singleton] at h;subst h;exact .inr ⟨rfl,rfl⟩
theorem KE.put {t:List Nat}{k:List (Int×List Nat)}(h:KE t k) {i c:Nat}(hc:t[i]?=some c):KE t (Ev.cW k i [c]):=fun e he=>by
 rcases Fj he with he | ⟨h1,h2⟩
 ·exact h e he
 ·exact ⟨i,c,h1,hc,h2⟩
theorem KE.wF {t:List Nat}:∀ (s:List Nat) {k:List (Int×List Nat)}(i:Nat),KE t k→(t.drop i).take s.length=s→KE t (gI k i s)
 | [],k,i,h,_=>h
 | c :: s,k,i,h,e=>by
  have hl:i<t.length:=by
   refine Nat.lt_of_not_le fun z=>?_
   rw [List.drop_eq_nil_of_le z] at e;simp at e
  rw [List.drop_eq_getElem_cons hl,List.length_cons,List.take_succ_cons,List.cons.injEq] at e
  exact KE.wF s (i+1) (h.put (i:=i) (c:=c) (by rw [List.getElem?_eq_getElem hl,e.1])) e.2
theorem KE.merge {t:List Nat}:∀ {m k:List (Int×List Nat)},KE t k→KE t m→KE t (Ev.cY k m)
 | [],_,h,_=>h
 | e :: m,k,h,g=>by
  obtain ⟨i,c,h1,h2,h3⟩:=g e (.head _)
  show KE t (Ev.cY (Ev.cW k e.1 e.2) m)
  rw [h1,h3]
  exact KE.merge (h.put h2) fun x hx=>g x (.tail _ hx)
theorem KE.val {t:List Nat}{k:List (Int×List Nat)}(h:KE t k) {p:Int}{s:List Nat}(e:Ev.cg k p=some s):∃ (i c:Nat),p=i∧t[i]?=some c∧s=[c]:=by
 unfold Ev.cg at e
 obtain ⟨q,e1,rfl⟩:=Option.map_eq_some_iff.mp e
 obtain ⟨i,c,h1,h2,h3⟩:=h q (List.mem_of_find?_eq_some e1)
 have:=List.find?_some e1
 exact ⟨i,c,by rw [←h1];exact (of_decide_eq_true this).symm,h2,h3⟩
noncomputable def fJ (k:List (Int×List Nat)) (p:Int):Prop:=(Ev.cg k p).isSome=true
theorem yW {k:List (Int×List Nat)}{p q:Int}{s:List Nat}:fJ (Ev.cW k p s) q↔q=p∨fJ k q:=by
 unfold fJ
 rw [yU]
 by_cases h:q=p <;> simp [h]
theorem pX:∀ (s:List Nat) (k:List (Int×List Nat)) (i:Nat) (q:Int),(fJ k q∨∃ j:Nat,j<s.length∧q=((i+j:Nat):Int))→fJ (gI k i s) q
 | [],k,i,q,h=>by
  rcases h with h | ⟨j,hj,_⟩
  ·exact h
  ·simp at hj
 | c :: s,k,i,q,h=>by
  show fJ (gI (Ev.cW k i [c]) ((i:Int)+1) s) q
  have e:(i:Int)+1=((i+1:Nat):Int):=by omega
  rw [e]
  refine pX s _ (i+1) q ?_
  rw [yW]
  rcases h with h | ⟨j,hj,h⟩
  ·exact .inl (.inr h)
  ·cases j with
   | zero=>exact .inl (.inl (by rw [h];omega))
   | succ j=>exact .inr ⟨j,by simpa using hj,by rw [h];omega⟩
theorem nR:∀ {m k:List (Int×List Nat)}{q:Int},fJ k q∨fJ m q→fJ (Ev.cY k m) q
 | [],k,q,h=>h.elim id fun h=>by simp [fJ,Ev.cg] at h
 | e :: m,k,q,h=>by
  show fJ (Ev.cY (Ev.cW k e.1 e.2) m) q
  refine nR ?_
  rw [yW]
  rcases h with h | h
  ·exact .inl (.inr h)
  ·by_cases hq:q=e.1
   ·exact .inl (.inl hq)
   ·refine .inr ?_
    unfold fJ Ev.cg at h ⊢
    rw [List.find?_cons,decide_eq_false (fun z=>hq z.symm)] at h
    exact h
theorem ux:∀ (c:List Pt) (t:List Nat) (i:Nat) (k k':List (Int×List Nat)),aG c (t.drop i)=true→KE t k→bf (c.map Pt.v) i k=some k'→KE t k'
 | [],t,i,k,k',_,h,e=>by cases e;exact h
 | .keep m :: c,t,i,k,k',hf,h,e=>by
  have hf':aG c (t.drop (i+m))=true:=by simp only [aG,Bool.and_eq_true] at hf;have:=hf.2;rwa [List.drop_drop] at this
  have e:bf (.tup [.str [107,101,101,112],.int m] :: c.map Pt.v) i k=some k':=e
  rw [bf,if_pos rfl] at e
  exact ux c t (i+m) k k' hf' h e
 | .put s :: c,t,i,k,k',hf,h,e=>by
  have e:bf (.tup [.str [112,117,116],.str s] :: c.map Pt.v) i k=some k':=e
  rw [bf,if_neg (by decide),if_neg (by decide)] at e
  exact ux c t i k k' hf h e
 | .drop s :: c,t,i,k,k',hf,h,e=>by
  simp only [aG,Bool.and_eq_true,decide_eq_true_eq] at hf
  have e:bf (.tup [.str [100,114,111,112],.str s] :: c.map Pt.v) i k=some k':=e
  rw [bf,if_pos rfl] at e
  split at e
  ·exact ux c t (i+s.length) (gI k i s) k' (by have:=hf.2;rwa [List.drop_drop] at this) (h.wF s i (List.prefix_iff_eq_take.mp (List.isPrefixOf_iff_prefix.mp hf.1)).symm) e
  ·cases e
theorem qZ:∀ (c:List Pt) (i:Nat) (k k':List (Int×List Nat)),bf (c.map Pt.v) i k=some k'→∀ q:Int,(fJ k q∨∃ p x,(asks c)[p]?=some [x]∧q=((i+p:Nat):Int))→fJ k' q
 | [],i,k,k',e,q,h=>by
  cases e
  rcases h with h | ⟨p,x,h,_⟩
  ·exact h
  ·simp [asks] at h
 | .keep m :: c,i,k,k',e,q,h=>by
  have e:bf (.tup [.str [107,101,101,112],.int m] :: c.map Pt.v) i k=some k':=e
  rw [bf,if_pos rfl] at e
  refine qZ c (i+m) k k' e q (h.imp id fun ⟨p,x,h1,h2⟩=>?_)
  have h1:(List.replicate m []++asks c)[p]?=some [x]:=h1
  by_cases hp:p<m
  ·rw [List.getElem?_append_left (by simpa using hp)] at h1;simp [hp] at h1
  ·rw [List.getElem?_append_right (by simp;omega),List.length_replicate] at h1
   exact ⟨p - m,x,h1,by rw [h2];omega⟩
 | .put s :: c,i,k,k',e,q,h=>by
  have e:bf (.tup [.str [112,117,116],.str s] :: c.map Pt.v) i k=some k':=e
  rw [bf,if_neg (by decide),if_neg (by decide)] at e
  exact qZ c i k k' e q h
 | .drop s :: c,i,k,k',e,q,h=>by
  have e:bf (.tup [.str [100,114,111,112],.str s] :: c.map Pt.v) i k=some k':=e
  rw [bf,if_pos rfl] at e
  split at e
  ·refine qZ c (i+s.length) (gI k i s) k' e q ?_
   rcases h with h | ⟨p,x,h1,h2⟩
   ·exact .inl (pX s k i q (.inl h))
   ·have h1:(s.map (fun c=>[c])++asks c)[p]?=some [x]:=h1
    by_cases hp:p<s.length
    ·exact .inl (pX s k i q (.inr ⟨p,hp,h2⟩))
    ·rw [List.getElem?_append_right (by simp;omega),List.length_map] at h1
     exact .inr ⟨p - s.length,x,h1,by rw [h2];omega⟩
  ·cases e
theorem yX (c:List Pt) {t:List Nat}(hf:aG c t=true) (b:nD c≤1000):∃ k,bf (c.map Pt.v) 0 []=some k∧k.length≤nD c∧(∀ u,aG c u=true→KE u k)∧∀ p x,(asks c)[p]?=some [x]→fJ k (p:Nat):=by
 obtain ⟨k,e1,_,e3⟩:=qV c t 0 [] hf (fun p s e=>by cases e) (by simpa using b)
 refine ⟨k,e1,by simpa using e3,fun u hu=>ux c u 0 [] k hu (fun e he=>by cases he) e1,fun p x h=>qZ c 0 [] k e1 _ (.inr ⟨p,x,h,by simp⟩)⟩
noncomputable def aQ (s:Nat) (a:List (List Nat)):List Nat:=a.map fun y=>y.headD s
theorem gA:∀ {c:List Pt}{y:List Nat},y∈asks c→y=[]∨∃ x,y=[x]
 | [],y,h=>by simp [asks] at h
 | p :: c,y,h=>by
  have h:y∈p.asks++asks c:=h
  rcases List.mem_append.mp h with h | h
  ·cases p with
   | keep n=>exact .inl (List.eq_of_mem_replicate h)
   | put s=>simp [Pt.asks] at h
   | drop s=>obtain ⟨x,_,rfl⟩:=List.mem_map.mp h;exact .inr ⟨x,rfl⟩
  ·exact gA h
theorem ja:∀ {a:List (List Nat)}{t:List Nat},aH a t=true↔a.length=t.length∧∀ (p:Nat) y x,a[p]?=some y→t[p]?=some x→y=[]∨y=[x]
 | [],[]=>by simp [aH]
 | [],_ :: _=>by simp [aH]
 | _ :: _,[]=>by simp [aH]
 | y :: a,x :: t=>by
  simp only [aH,Bool.and_eq_true,Bool.or_eq_true,decide_eq_true_eq,List.length_cons,Nat.add_right_cancel_iff,ja (a:=a) (t:=t)]
  constructor
  ·rintro ⟨h1,h2,h3⟩
   refine ⟨h2,fun p z w e1 e2=>?_⟩
   cases p with
   | zero=>simp at e1 e2;subst e1 e2;exact h1
   | succ p=>exact h3 p z w (by simpa using e1) (by simpa using e2)
  ·rintro ⟨h1,h2⟩
   exact ⟨h2 0 y x rfl rfl,h1,fun p z w e1 e2=>h2 (p+1) z w (by simpa using e1) (by simpa using e2)⟩
theorem j8 (s:Nat) (a:List (List Nat)):(aQ s a).length=a.length:=by simp [aQ]
theorem jb {s:Nat}{a:List (List Nat)}{p:Nat}{y:List Nat}(h:a[p]?=some y):(aQ s a)[p]?=some (y.headD s):=by simp [aQ,h]
theorem dO (s:Nat) (c:List Pt):aG c (aQ s (asks c))=true:=by
 rw [cK,ja]
 refine ⟨(j8 s _).symm,fun p y x h1 h2=>?_⟩
 rw [jb h1] at h2
 cases h2
 rcases gA (List.mem_of_getElem? h1) with rfl | ⟨z,rfl⟩
 ·exact .inl rfl
 ·exact .inr rfl
noncomputable def vl (x:List Nat):Tq→Nat
 | .at p=>x.getD p 0
 | .sg c=>c
noncomputable def nT (g:Nat→Bool):Tq→Option Nat
 | .at p=>if g p then some p else none
 | .sg _=>none
noncomputable def kp (g:Nat→Bool):Nat→List (List Nat)→List Nat
 | _,[]=>[]
 | i,y :: a=>if decide (y=[])&&g i then i :: kp g (i+1) a else kp g (i+1) a
theorem q8 (g:Nat→Bool):∀ (a:List At) (i:Nat),(tA i a).filterMap (nT g)=kp g i (aA a)
 | [],i=>rfl
 | .k :: a,i=>by
  simp only [tA,aA,kp,List.filterMap_cons,nT]
  cases g i <;> simp [q8 g a (i+1)]
 | .d c :: a,i=>by
  simp only [tA,aA,kp]
  simp [q8 g a (i+1)]
 | .p c :: a,i=>by
  simp only [tA,aA,List.filterMap_cons,nT]
  exact q8 g a i
theorem nU (c:List Pt) (g:Nat→Bool):(told 0 c).filterMap (nT g)=kp g 0 (asks c):=by rw [fc,q8,cH]
theorem wN {g:Nat→Bool}:∀ {a:List (List Nat)}{i p:Nat},p∈kp g i a→∃ j,p=i+j∧a[j]?=some []
 | [],i,p,h=>by simp [kp] at h
 | y :: a,i,p,h=>by
  simp only [kp] at h
  split at h
  ·rename_i hy
   rcases List.mem_cons.mp h with rfl | h
   ·simp at hy;exact ⟨0,rfl,by simp [hy.1]⟩
   ·obtain ⟨j,h1,h2⟩:=wN h;exact ⟨j+1,by omega,by simpa using h2⟩
  ·obtain ⟨j,h1,h2⟩:=wN h;exact ⟨j+1,by omega,by simpa using h2⟩
theorem GS {g:Nat→Bool}:∀ {a b:List (List Nat)}{i:Nat},a.length=b.length→(∀ p,g (i+p)=true→(a[p]?=some []↔b[p]?=some []))→kp g i a=kp g i b
 | [],[],_,_,_=>rfl
 | [],_ :: _,_,h,_=>by simp at h
 | _ :: _,[],_,h,_=>by simp at h
 | y :: a,z :: b,i,h,q=>by
  have ih:=GS (g:=g) (a:=a) (b:=b) (i:=i+1) (by simpa using h) fun p hp=>by
   have:=q (p+1) (by rw [←hp];congr 1;omega)
   simpa using this
  have h0:=q 0
  simp only [kp,ih]
  cases hg:g i with
  | false=>simp
  | true=>
   have:=h0 (by simpa using hg)
   simp at this
   simp [this]
theorem sA {c:List Pt}{p:Nat}(h:Tq.at p∈told 0 c):(asks c)[p]?=some []:=by
 have h1:p∈(told 0 c).filterMap (nT fun _=>true):=List.mem_filterMap.mpr ⟨_,h,by simp [nT]⟩
 rw [nU] at h1
 obtain ⟨j,h2,h3⟩:=wN h1
 rw [h2];simpa using h3
theorem jS {c:List Pt}{x:List Nat}(h:aG c x=true):aK c x=(told 0 c).map (vl x):=by
 have e:=vY c x 0
 rw [List.drop_zero] at e
 rw [e]
 have hl:(asks c).length=x.length:=by rw [gw,iB h]
 have:∀ L:List Tq,(∀ q∈L,∀ p,q=.at p→p<x.length)→L.flatMap (pick x)=L.map (vl x):=fun L=>by
  induction L with
  | nil=>intro _;rfl
  | cons q L ih=>
   intro hq
   rw [List.flatMap_cons,List.map_cons,ih fun z hz=>hq z (.tail _ hz)]
   cases q with
   | sg c=>rfl
   | «at» p=>
    have:=hq _ (.head _) p rfl
    simp [pick,vl,List.getElem?_eq_getElem this,List.getD]
 refine this _ fun q hq p e=>?_
 subst e
 have:=(List.getElem?_eq_some_iff.mp (sA hq)).1
 omega
inductive Pw (a:List (List Nat)):List Tq→List Tq→Prop
 | nil:Pw a [] []
 | at {p L M}:Pw a L M→Pw a (.at p :: L) (.at p :: M)
 | sg {y L M}:Pw a L M→Pw a (.sg y :: L) (.sg y :: M)
 | as {y p L M}:a[p]?=some [y]→Pw a L M→Pw a (.sg y :: L) (.at p :: M)
theorem sC {a:List (List Nat)}{p s:Nat}{y:List Nat}(h:a[p]?=some y):vl (aQ s a) (.at p)=y.headD s:=by simp [vl,List.getD,jb h]
theorem GU {a:List (List Nat)}(h1:∀ y∈a,y=[]∨∃ x,y=[x]):∀ {L M:List Tq},L.map (vl (aQ 97 a))=M.map (vl (aQ 97 a))→L.map (vl (aQ 98 a))=M.map (vl (aQ 98 a))→(∀ p,Tq.at p∈L→a[p]?=some [])→(∀ p,Tq.at p∈M→p<a.length)→
  L.filterMap (nT fun p=>decide (a[p]?=some []))=M.filterMap (nT fun p=>decide (a[p]?=some []))→Pw a L M
 | [],[],_,_,_,_,_=>.nil
 | [],_ :: _,e,_,_,_,_=>by simp at e
 | _ :: _,[],e,_,_,_,_=>by simp at e
 | q :: L,q' :: M,e1,e2,c1,c2,f=>by
  rw [List.map_cons,List.map_cons,List.cons.injEq] at e1 e2
  have rest:=fun f=>GU h1 e1.2 e2.2 (fun p hp=>c1 p (.tail _ hp)) (fun p hp=>c2 p (.tail _ hp)) f
  cases q with
  | «at» p=>
   have hp:=c1 p (.head _)
   have a1:=e1.1
   have a2:=e2.1
   rw [sC hp] at a1 a2
   simp only [List.headD_nil] at a1 a2
   cases q' with
   | sg y=>simp only [vl] at a1 a2;omega
   | «at» p'=>
    have hl:=c2 p' (.head _)
    have pH:=List.getElem?_eq_getElem hl
    rw [sC pH] at a1 a2
    rcases h1 _ (List.getElem_mem hl) with z | ⟨x,z⟩
    ·rw [z] at pH
     simp only [List.filterMap_cons,nT,hp,pH,decide_true,if_true,List.cons.injEq] at f
     obtain ⟨rfl,f⟩:=f
     exact .at (rest f)
    ·rw [z] at a1 a2;simp at a1 a2;omega
  | sg y=>
   cases q' with
   | sg y'=>
    have a1:=e1.1
    simp only [vl] at a1
    subst a1
    simp only [List.filterMap_cons,nT] at f
    exact .sg (rest f)
   | «at» p'=>
    have a1:=e1.1
    have a2:=e2.1
    have hl:=c2 p' (.head _)
    have pH:=List.getElem?_eq_getElem hl
    rw [sC pH] at a1 a2
    simp only [vl] at a1 a2
    rcases h1 _ (List.getElem_mem hl) with z | ⟨x,z⟩
    ·rw [z] at a1 a2;simp at a1 a2;omega
    ·rw [z] at a1 pH
     simp at a1
     subst a1
     have ng:¬ (a[p']?=some []):=by rw [pH];simp
     simp only [List.filterMap_cons,nT,ng,decide_false] at f
     exact .as pH (rest (by simpa using f))
structure Wi (c d:List Pt):Prop where
 fa:aG d (aQ 97 (asks c))=true
 fb:aG d (aQ 98 (asks c))=true
 da:aK c (aQ 97 (asks c))=aK d (aQ 97 (asks c))
 db:aK c (aQ 98 (asks c))=aK d (aQ 98 (asks c))
theorem Wi.sub {c d:List Pt}(h:Wi c d):(asks d).length=(asks c).length∧∀ (p:Nat) y,(asks d)[p]?=some [y]→(asks c)[p]?=some [y]:=by
 have f1:=h.fa
 have f2:=h.fb
 rw [cK,ja] at f1 f2
 have hl:(asks d).length=(asks c).length:=by rw [f1.1,j8]
 refine ⟨hl,fun p y e=>?_⟩
 have hp:p<(asks c).length:=by rw [←hl];exact (List.getElem?_eq_some_iff.mp e).1
 have e2:=List.getElem?_eq_getElem hp
 rcases gA (List.getElem_mem hp) with z | ⟨x,z⟩
 ·rw [z] at e2
  have a1:=f1.2 p _ _ e (jb e2)
  have a2:=f2.2 p _ _ e (jb e2)
  simp at a1 a2;omega
 ·rw [z] at e2
  have a1:=f1.2 p _ _ e (jb e2)
  simp at a1;subst a1;exact e2
theorem Wi.pw {c d:List Pt}(h:Wi c d):Pw (asks c) (told 0 c) (told 0 d):=by
 obtain ⟨hl,hs⟩:=h.sub
 have e1:=h.da
 have e2:=h.db
 rw [jS (dO 97 c),jS h.fa] at e1
 rw [jS (dO 98 c),jS h.fb] at e2
 refine GU (fun y hy=>gA hy) e1 e2 (fun p hp=>sA hp) (fun p hp=>by rw [←hl];exact (List.getElem?_eq_some_iff.mp (sA hp)).1) ?_
 rw [nU,nU]
 refine GS hl.symm fun p hg=>?_
 have hc:=of_decide_eq_true hg
 rw [Nat.zero_add] at hc
 refine ⟨fun _=>?_,fun _=>hc⟩
 have hp:p<(asks d).length:=by rw [hl];exact (List.getElem?_eq_some_iff.mp hc).1
 have e:=List.getElem?_eq_getElem hp
 rcases gA (List.getElem_mem hp) with z | ⟨x,z⟩
 ·rw [z] at e;exact e
 ·rw [z] at e;rw [hs p x e] at hc;simp at hc
theorem Pw.vals {a:List (List Nat)}{x:List Nat}(hx:∀ (p:Nat) y,a[p]?=some [y]→x[p]?=some y) {L M:List Tq}(h:Pw a L M):L.map (vl x)=M.map (vl x):=by
 induction h with
 | nil=>rfl
 | «at» _ ih=>rw [List.map_cons,List.map_cons,ih]
 | sg _ ih=>rw [List.map_cons,List.map_cons,ih]
 | «as» e _ ih=>rw [List.map_cons,List.map_cons,ih];simp [vl,List.getD,hx _ _ e]
theorem wO {c:List Pt}{x:List Nat}(h:aG c x=true) {p y:Nat}(e:(asks c)[p]?=some [y]):x[p]?=some y:=by
 rw [cK,ja] at h
 have hp:p<x.length:=by rw [←h.1];exact (List.getElem?_eq_some_iff.mp e).1
 have e2:=List.getElem?_eq_getElem hp
 have:=h.2 p _ _ e e2
 simp at this
 rw [e2,←this]
theorem Wi.all {c d:List Pt}(h:Wi c d) {x:List Nat}(hx:aG c x=true):aG d x=true∧aK d x=aK c x:=by
 obtain ⟨hl,hs⟩:=h.sub
 have hd:aG d x=true:=by
  rw [cK,ja]
  refine ⟨by rw [hl,gw,iB hx],fun p y z e1 e2=>?_⟩
  rcases gA (List.mem_of_getElem? e1) with rfl | ⟨w,rfl⟩
  ·exact .inl rfl
  ·have:=wO hx (hs p w e1)
   rw [this] at e2;cases e2;exact .inr rfl
 refine ⟨hd,?_⟩
 rw [jS hd,jS hx]
 exact (h.pw.vals fun p y e=>wO hx e).symm
theorem uy {c d:List Pt}(h:∀ x,aG c x=true→aG d x=true∧aK d x=aK c x):Wi c d:=
 ⟨(h _ (dO 97 c)).1,(h _ (dO 98 c)).1,(h _ (dO 97 c)).2.symm,(h _ (dO 98 c)).2.symm⟩
theorem Wi.trans {c d e:List Pt}(h:Wi c d) (g:Wi d e):Wi c e:=uy fun x hx=>by
 obtain ⟨h1,h2⟩:=h.all hx
 obtain ⟨g1,g2⟩:=g.all h1
 exact ⟨g1,g2.trans h2⟩
theorem Wi.refl (c:List Pt):Wi c c:=uy fun _ h=>⟨h,rfl⟩
theorem Pw.anti {a b:List (List Nat)}{L M:List Tq}(h:Pw a L M) (g:Pw b M L):L=M:=by
 induction h with
 | nil=>rfl
 | «at» _ ih=>cases g with | «at» g=>rw [ih g]
 | sg _ ih=>cases g with | sg g=>rw [ih g]
 | «as» _ _ _=>cases g
theorem Wi.anti {c d:List Pt}(h:Wi c d) (g:Wi d c):au c=au d:=CB (dO 97 c) h.fa (h.pw.anti g.pw)
theorem sD {c d:List Pt}(h:au c=au d):Wi c d:=uy fun x hx=>by
 rw [←gx,←cG d,←h,gx,cG];exact ⟨hx,rfl⟩
theorem Th.P6 {a b r:List At}(h:Th a b r):∀ t,aH (aA r) t=true→aH (aA a) t=true∧aH (aA b) (dA a t)=true:=by
 induction h with
 | nil=>intro t h;cases t <;> simp [aA,aH,dA] at h ⊢
 | d h ih=>
  intro t h1
  cases t with
  | nil=>simp [aA,aH] at h1
  | cons x t=>
   simp only [aA,aH,Bool.and_eq_true] at h1 ⊢
   obtain ⟨i1,i2⟩:=ih t h1.2
   exact ⟨⟨h1.1,i1⟩,by simpa [dA] using i2⟩
 | p _ h ih=>intro t h1;exact ih t h1
 | kk h ih=>
  intro t h1
  cases t with
  | nil=>simp [aA,aH] at h1
  | cons x t=>
   simp only [aA,aH,Bool.and_eq_true] at h1
   obtain ⟨i1,i2⟩:=ih t h1.2
   exact ⟨by simp [aA,aH,i1],by simp [aA,aH,dA,i2]⟩
 | kd h ih=>
  intro t h1
  cases t with
  | nil=>simp [aA,aH] at h1
  | cons x t=>
   simp only [aA,aH,Bool.and_eq_true] at h1
   obtain ⟨i1,i2⟩:=ih t h1.2
   have hx:=h1.1
   simp at hx
   exact ⟨by simp [aA,aH,i1],by simp [aA,aH,dA,i2,hx]⟩
 | pk h ih=>intro t h1;obtain ⟨i1,i2⟩:=ih t h1;exact ⟨i1,by simp [aA,aH,dA,i2]⟩
 | pd h ih=>intro t h1;obtain ⟨i1,i2⟩:=ih t h1;exact ⟨i1,by simp [aA,aH,dA,i2]⟩
theorem wQ {one other c:List Pt}{t:List Nat}(T:Tn one other c t) {x:List Nat}(h:aG c x=true):aG one x=true∧aG other (aK one x)=true∧aK c x=aK other (aK one x):=by
 obtain ⟨ps,rfl,th⟩:=T.th
 rw [gx,cK,cH] at h
 obtain ⟨h1,h2⟩:=th.P6 x h
 have h3:=th.done x h1
 rw [←fh,←fh,←fh,cG,cG] at h3
 rw [←cH,cV,←cK] at h1
 rw [←fh,cG,←cH,cV,←cK] at h2
 exact ⟨h1,h2,by rw [cG];exact h3⟩
theorem NO {one other c:List Pt}{t:List Nat}(T:Tn one other c t) {x:List Nat}(h1:aG one x=true) (h2:aG other (aK one x)=true):aG c x=true:=by
 obtain ⟨ps,rfl,th⟩:=T.th
 rw [gx,cK,cH]
 refine th.fit x ?_ ?_
 ·rw [←cH,cV,←cK];exact h1
 ·rw [←cH,cV,←fh,cG,←cK];exact h2
theorem tU {c s:List Pt}{t:List Nat}(T:Tn c (iQ c) s t) {x:List Nat}:aG s x=aG c x∧(aG c x=true→aK s x=x):=by
 have key:aG c x=true→aG s x=true∧aK s x=x:=fun h=>by
  obtain ⟨u1,u2⟩:=wu h
  have h2:=NO T h u1
  exact ⟨h2,by rw [(wQ T h2).2.2];exact u2⟩
 refine ⟨?_,fun h=>(key h).2⟩
 cases e:aG c x with
 | true=>exact (key e).1
 | false=>
  cases e2:aG s x with
  | false=>rfl
  | true=>rw [(wQ T e2).1] at e;cases e
end Pv
namespace Pv
open Ev (D bU bQ TY BI ME T E Es Eo It S Ss Fn big deep rep cut bP)
noncomputable def CS (bE:Nat):S:=.ret (.cmp .eq (.cl bE (.cons (.v 0) .nil)) (.cl bE (.cons (.v 1) .nil)))
noncomputable def Jz (bE:Nat):Fn:=⟨2,2,(.cons (CS bE) .nil)⟩
noncomputable def xq (gy:Nat) (wR:Nat):S:=.ret (.jD (.cl gy (.cons (.v 0) (.cons (.v 1) .nil))) (.cl wR (.cons (.v 0) (.cons (.v 1) .nil))) (.c (.aP)))
noncomputable def nV (gy:Nat) (wR:Nat):Fn:=⟨2,2,(.cons (xq gy wR) .nil)⟩
noncomputable def Aq:S:=.ret (.me .join (.c (.str [])) (.cons (.comp (.ki (.v 1) (.v 3) (.v 2)) (.one 3) (.g8 (.cons (.v 0) .nil)) .no) .nil))
noncomputable def j9:Fn:=⟨3,4,(.cons Aq .nil)⟩
noncomputable def xr (bC:Nat):S:=.set 1 (.cl bC (.cons (.v 0) .nil))
noncomputable def xu (g7:Nat) (cL:Nat):S:=.ret (.comp (.cl g7 (.cons (.cl cL (.cons (.v 0) .nil)) (.cons (.v 1) (.cons (.v 2) .nil)))) (.one 2) (.seq (.c (.tup [.str [97],.str [98]]))) .no)
noncomputable def nW (bC:Nat) (g7:Nat) (cL:Nat):Fn:=⟨1,3,(.cons (xr bC) (.cons (xu g7 cL) .nil))⟩
noncomputable def Ar (fO:Nat) (dD:Nat):S:=.ret (.bi .all (.cons (.comp (.cmp .eq (.cl dD (.cons (.v 0) (.cons (.v 2) .nil))) (.cl dD (.cons (.v 1) (.cons (.v 2) .nil)))) (.one 2) (.seq (.cl fO (.cons (.v 0) .nil))) .no) .nil))
noncomputable def Fp (fO:Nat) (dD:Nat):Fn:=⟨2,3,(.cons (Ar fO dD) .nil)⟩
noncomputable def xw (dD:Nat):Ss:=(.cons (.iff (.cmp .ne (.cl dD (.cons (.v 0) (.cons (.v 2) .nil))) (.cl dD (.cons (.v 1) (.cons (.v 2) .nil)))) (.cons (.ret (.v 2)) .nil) .nil) .nil)
noncomputable def xx (fO:Nat) (dD:Nat):S:=.for (.one 2) (.seq (.bin .add (.cl fO (.cons (.v 0) .nil)) (.cl fO (.cons (.v 1) .nil)))) (xw dD)
noncomputable def xy:S:=.ret (.c (.aP))
noncomputable def nX (fO:Nat) (dD:Nat):Fn:=⟨2,3,(.cons (xx fO dD) (.cons xy .nil))⟩
noncomputable def xA (bC:Nat):S:=.jz 1 2 0 bC
noncomputable def xB (g7:Nat) (cL:Nat):S:=.set 3 (.cl g7 (.cons (.cl cL (.cons (.ix (.v 0) (.c (.int 0))) .nil)) (.cons (.v 1) (.cons (.ix (.c (.tup [.str [97],.str [98]])) (.c (.int 0))) .nil))))
noncomputable def xC (gy:Nat):S:=.iff (.bi .all (.cons (.comp (.cl gy (.cons (.v 4) (.cons (.v 3) .nil))) (.one 4) (.seq (.v 0)) .no) .nil)) (.cons (.ret (.v 3)) .nil) .nil
noncomputable def xD:S:=.ret (.c (.aP))
noncomputable def CT (bC:Nat) (g7:Nat) (cL:Nat) (gy:Nat):Fn:=⟨1,5,(.cons (xA bC) (.cons (xB g7 cL) (.cons (xC gy) (.cons xD .nil))))⟩
section
variable {F:List Fn}{w n aE aX fX dj dg iR fP fQ bH aV i:Nat}
theorem CU (hst:F[aV]?=some eV) (hf:F[bH]?=some (jm aV)) (h:F[i]?=some (Jz bH)) (c d:List Pt) (b1:tot c≤2000) (b2:tot d≤2000) (l1:c.length≤2000) (l2:d.length≤2000):run F w (n+3) i [.val (ay c),.val (ay d)]=some (.bl (decide (au c=au d)),[]):=by
 have c1:=fun fr=>bY (fr:=fr) (eZ (F:=F) (w:=w) (n:=n) hst hf c (by omega) (by omega))
 have c2:=fun fr=>bY (fr:=fr) (eZ (F:=F) (w:=w) (n:=n) hst hf d (by omega) (by omega))
 exact b7 h rfl (ai (bM (bS (aO (az rfl (av rfl) aB) (c1 _)) (aO (az rfl (av rfl) aB) (c2 _)) (Cc _ _)) ⟨rfl,rfl⟩))
noncomputable def ou (c:List Pt) (x:List Nat):Option (List Nat):=if aG c x=true then some (aK c x) else none
noncomputable def oV:Option (List Nat)→V
 | some s=>.str s
 | none=>.aP
theorem As (a b:Option (List Nat)):Pv.cop .eq (oV a) (oV b)=some (decide (a=b)):=by
 show dm deep _ _=_
 cases a with
 | none=>cases b <;> rfl
 | some a=>
  cases b with
  | none=>rfl
  | some b=>show dm deep (.str a) (.str b)=_;rw [rW];simp
theorem gR (hs:F[aE]?=some di) (hf:F[dg]?=some (lE aE)) (hd:F[iR]?=some (qK dg)) (h:F[i]?=some (nV dg iR)) (c:List Pt) (x:List Nat) (b1:tot c≤2000) (l1:c.length≤2000) (b2:x.length≤2000):run F w (n+4) i [.val (ay c),.val (.str x)]=some (oV (ou c x),[]):=by
 have c1:=fun fr=>call2 (fr:=fr) (mD (F:=F) (w:=w) (n:=n+1) hs hf c x (by omega) (by omega))
 have c2:=fun (h:aG c x=true) fr=>call2 (fr:=fr) (ET (F:=F) (w:=w) (n:=n) hs hf hd c x (by omega) (by omega) (by omega) h)
 refine b7 h rfl (ai (bM (af:=[some (.val (ay c)),some (.val (.str x))]) (qz (b:=aG c x) (aD rfl (aO (az rfl (av rfl) (az rfl (av rfl) aB)) (c1 _)) rfl) (fun z=>?_) fun z=>?_) ⟨rfl,rfl⟩))
 ·unfold ou
  rw [if_pos z]
  exact aO (az rfl (av rfl) (az rfl (av rfl) aB)) (c2 z _)
 ·unfold ou
  rw [if_neg (by rw [z];decide)]
  exact br rfl
noncomputable def nY (k:List (Int×List Nat)) (s:Nat) (m:Nat):List Nat:=((List.range m).map fun (p:Nat)=>(Ev.cg k (p:Int)).getD [s]).flatten
theorem q9 (h:F[i]?=some j9) (k:List (Int×List Nat)) (s m:Nat) (hm:m≤1000) (hl:(nY k s m).length≤1000):run F w (n+1) i [.val (.int (m:Nat)),.val (.dct k),.val (.str [s])]=some (.str (nY k s m),[]):=by
 have jn:=zT (l:=(List.range m).map fun (p:Nat)=>(Ev.cg k (p:Int)).getD [s]) (Nat.le_trans hl (by decide))
 rw [List.map_map] at jn
 refine b7 h rfl (ai (bM (zZ rfl (br rfl) (bg (iM (qD (bg (av rfl) bw) (Eg (by omega) rfl)) rfl (iz (fun (p:Nat)=>V.int (0+(p:Nat))) (fun p=>V.str ((Ev.cg k (p:Int)).getD [s])) (List.range m) fun p _=>lg rfl (GA (av rfl) (av rfl) (av rfl) ?_)) (eU (cz (by simp;omega)))) bw) jn) ⟨rfl,rfl⟩))
 simp only [nq,Int.zero_add]
 cases Ev.cg k (p:Int) <;> rfl
theorem NP {k:List (Int×List Nat)}{s:Nat}{a:List (List Nat)}(h:∀ (p:Nat) y,a[p]?=some y→(Ev.cg k (p:Int)).getD [s]=[y.headD s]):nY k s a.length=aQ s a:=by
 have e:((List.range a.length).map fun (p:Nat)=>(Ev.cg k (p:Int)).getD [s])=a.map fun y=>[y.headD s]:=by
  apply List.ext_getElem?
  intro p
  by_cases hp:p<a.length
  ·have e:=List.getElem?_eq_getElem hp
   simp only [List.getElem?_map,e,Option.map]
   rw [List.getElem?_range hp]
   simp [h p _ e]
  ·rw [List.getElem?_eq_none (by simp;omega),List.getElem?_eq_none (by simp;omega)]
 unfold nY aQ
 rw [e]
 clear h e
 induction a with
 | nil=>rfl
 | cons y a ih=>rw [List.map_cons,List.map_cons,List.flatten_cons,ih];rfl
theorem yY (hd:F[i]?=some eL) {c:List Pt}{k:List (Int×List Nat)}(e:bf (c.map Pt.v) 0 []=some k):run F w (n+1) i [.val (ay c)]=some (.dct k,[]):=by
 have bad:exs (run F w n) w eL.body (eK eL [.val (ay c)])=.bad:=by
  show exs _ _ (.cons (.set 1 .gW) _) _=_
  rw [exs,ex,ev];rfl
 rw [run_eq hd rfl,bad]
 have fb:fin eL [.val (ay c)] .bad=tP eL [.val (ay c)]:=by simp only [fin]
 rw [fb]
 unfold tP
 rw [if_pos rfl]
 show (bf (c.map Pt.v) 0 []).map _=_
 rw [e];rfl
theorem kM (hs:F[aE]?=some di) (hb:F[aX]?=some (eY aE)) (hd:F[fX]?=some eL) (hfl:F[dj]?=some j9) (h:F[i]?=some (nW fX dj aX)) (c:List Pt) (b1:tot c≤900) (l1:c.length≤900) :
  run F w (n+3) i [.val (ay c)]=some (.lst [.str (aQ 97 (asks c)),.str (aQ 98 (asks c))],[]):=by
 have nd:=jt c
 obtain ⟨k,e1,_,e3,e4⟩:=yX c (dO 97 c) (by omega)
 have r1:=fun fr=>bY (fr:=fr) (yY (F:=F) (w:=w) (n:=n+1) hd e1)
 have r2:=fun fr=>bY (fr:=fr) (iO (F:=F) (w:=w) (n:=n) hs hb c (by omega) (by omega))
 have la:=gw c
 have ba:aZ c≤tot c:=by have:=ju c;omega
 have fq:∀ s,nY k s (aZ c)=aQ s (asks c):=fun s=>by
  rw [←la]
  refine NP fun p y e=>?_
  rcases gA (List.mem_of_getElem? e) with rfl | ⟨x,rfl⟩
  ·cases ev:Ev.cg k (p:Int) with
   | none=>rfl
   | some u=>
    obtain ⟨i1,c1,h1,h2,h3⟩:=(e3 _ (dO 97 c)).val ev
    obtain ⟨i2,c2,g1,g2,g3⟩:=(e3 _ (dO 98 c)).val ev
    have z1:i1=p:=by omega
    have z2:i2=p:=by omega
    subst z1 z2
    rw [jb e] at h2 g2
    cases h2;cases g2
    rw [h3] at g3;simp at g3
  ·have hh:=e4 p x e
   unfold fJ at hh
   cases ev:Ev.cg k (p:Int) with
   | none=>rw [ev] at hh;cases hh
   | some u=>
    obtain ⟨i1,c1,h1,h2,h3⟩:=(e3 _ (dO 97 c)).val ev
    have z1:i1=p:=by omega
    subst z1
    rw [jb e] at h2
    cases h2
    rw [h3];rfl
 have r3:∀ s fr,dI (run F w (n+2)) dj [.inr (.int (aZ c:Nat)),.inr (.dct k),.inr (.str [s])] fr=.ok (.str (aQ s (asks c))) fr:=fun s fr=>by
  rw [←fq];exact fy (fr:=fr) (q9 (F:=F) (w:=w) (n:=n+1) hfl k s (aZ c) (by omega) (by rw [fq,j8];omega))
 refine b7 h rfl ?_
 refine ai (bI (aO (az rfl (av rfl) aB) (r1 _)) rfl rfl ?_)
 refine ai (bM (iM (eB (br rfl) rfl) rfl (iz (fun s:Nat=>V.str [s]) (fun s=>V.str (aQ s (asks c))) [97,98] fun s _=>lg rfl (aO (az rfl (aO (az rfl (av rfl) aB) (r2 _)) (az rfl (av rfl) (az rfl (av rfl) aB))) (r3 s _))) zQ) ⟨rfl,rfl⟩)
theorem NQ {c:List Pt}{x:List Nat}(h:aG c x=true):ou c x=some (aK c x):=if_pos h
theorem Au {c d:List Pt}:Wi c d↔ou c (aQ 97 (asks c))=ou d (aQ 97 (asks c))∧ou c (aQ 98 (asks c))=ou d (aQ 98 (asks c)):=by
 have key:∀ s,ou c (aQ s (asks c))=ou d (aQ s (asks c))↔aG d (aQ s (asks c))=true∧aK c (aQ s (asks c))=aK d (aQ s (asks c)):=fun s=>by
  rw [NQ (dO s c)]
  unfold ou
  split
  ·rename_i h;simp [h]
  ·rename_i h;simp [h]
 rw [key,key]
 exact ⟨fun h=>⟨⟨h.fa,h.da⟩,h.fb,h.db⟩,fun h=>⟨h.1.1,h.2.1,h.1.2,h.2.2⟩⟩
open Classical in
noncomputable def nZ (c d:List Pt):Bool:=decide (Wi c d)
theorem gf {c d:List Pt}:nZ c d=true↔Wi c d:=by unfold nZ;simp
theorem Av (hs:F[aE]?=some di) (hb:F[aX]?=some (eY aE)) (hd:F[fX]?=some eL) (hfl:F[dj]?=some j9) (hf:F[dg]?=some (lE aE)) (hdn:F[iR]?=some (qK dg)) (ho:F[fP]?=some (nV dg iR)) (GV:F[fQ]?=some (nW fX dj aX)) (h:F[i]?=some (Fp fQ fP))
  (c d:List Pt) (b1:tot c≤900) (b2:tot d≤900) (l1:c.length≤900) (l2:d.length≤900):run F w (n+5) i [.val (ay c),.val (ay d)]=some (.bl (nZ c d),[]):=by
 have r1:=fun fr=>bY (fr:=fr) (kM (F:=F) (w:=w) (n:=n+1) hs hb hd hfl GV c b1 l1)
 have ba:aZ c≤tot c:=by have:=ju c;omega
 have ln:∀ s,(aQ s (asks c)).length≤2000:=fun s=>by rw [j8,gw];omega
 have r2:=fun s fr=>call2 (fr:=fr) (gR (F:=F) (w:=w) (n:=n) hs hf hdn ho c (aQ s (asks c)) (by omega) (by omega) (ln s))
 have r3:=fun s fr=>call2 (fr:=fr) (gR (F:=F) (w:=w) (n:=n) hs hf hdn ho d (aQ s (asks c)) (by omega) (by omega) (ln s))
 have al:cS .all [.lst ([97,98].map fun s=>V.bl (decide (ou c (aQ s (asks c))=ou d (aQ s (asks c)))))]=some (.bl (nZ c d)):=by
  rw [yF]
  show some (V.bl (decide _&&(decide _&&true)))=_
  refine congrArg (fun b=>some (V.bl b)) ?_
  rw [Bool.eq_iff_iff,gf,Au];simp
 exact b7 h rfl (ai (bM (gr (bg (iM (eB (aO (az rfl (av rfl) aB) (r1 _)) rfl) rfl (iz (fun s:Nat=>V.str (aQ s (asks c))) (fun s=>V.bl (decide (ou c (aQ s (asks c))=ou d (aQ s (asks c))))) [97,98] fun s _=>lg rfl (bS (aO (az rfl (av rfl) (az rfl (av rfl) aB)) (r2 s _)) (aO (az rfl (av rfl) (az rfl (av rfl) aB)) (r3 s _)) (As _ _))) zQ) bw) al) ⟨rfl,rfl⟩))
inductive PR (c d:List Pt):V→Prop
 | no:au c=au d→PR c d .aP
 | yes {x:List Nat}:au c≠au d→ou c x≠ou d x→x.length≤tot c+tot d→PR c d (.str x)
theorem xE (hs:F[aE]?=some di) (hb:F[aX]?=some (eY aE)) (hd:F[fX]?=some eL) (hfl:F[dj]?=some j9) (hf:F[dg]?=some (lE aE)) (hdn:F[iR]?=some (qK dg)) (ho:F[fP]?=some (nV dg iR)) (GV:F[fQ]?=some (nW fX dj aX)) (h:F[i]?=some (nX fQ fP))
  (c d:List Pt) (b1:tot c≤900) (b2:tot d≤900) (l1:c.length≤900) (l2:d.length≤900):∃ v,run F w (n+5) i [.val (ay c),.val (ay d)]=some (v,[])∧PR c d v:=by
 have r1:=fun fr=>bY (fr:=fr) (kM (F:=F) (w:=w) (n:=n+1) hs hb hd hfl GV c b1 l1)
 have r2:=fun fr=>bY (fr:=fr) (kM (F:=F) (w:=w) (n:=n+1) hs hb hd hfl GV d b2 l2)
 have ba:aZ c≤tot c:=by have:=ju c;omega
 have bd:aZ d≤tot d:=by have:=ju d;omega
 have ln:∀ x∈[aQ 97 (asks c),aQ 98 (asks c),aQ 97 (asks d),aQ 98 (asks d)],x.length≤tot c+tot d:=fun x hx=>by
  simp only [List.mem_cons,List.mem_nil_iff,or_false] at hx
  rcases hx with rfl | rfl | rfl | rfl <;> rw [j8,gw] <;> omega
 have ad:bZ .add (.lst [.str (aQ 97 (asks c)),.str (aQ 98 (asks c))]) (.lst [.str (aQ 97 (asks d)),.str (aQ 98 (asks d))])=some (.lst ([aQ 97 (asks c),aQ 98 (asks c),aQ 97 (asks d),aQ 98 (asks d)].map V.str)):=D4 (by simp)
 have key:Wp (exs (run F w (n+4)) w (nX fQ fP).body (eK (nX fQ fP) [.val (ay c),.val (ay d)])) fun g fr=>∃ v,PR c d v∧g=.ret v∧outs 2 fr=[]:=by
  refine ai (jJ (vs:=[aQ 97 (asks c),aQ 98 (asks c),aQ 97 (asks d),aQ 98 (asks d)].map V.str) (af:=[some (.val (ay c)),some (.val (ay d)),none]) (eB (b9 (aO (az rfl (av rfl) aB) (r1 _)) (aO (az rfl (av rfl) aB) (r2 _)) ad) rfl) ?_)
  refine gb (e:=V.str) (fun p l fr=>p++l=[aQ 97 (asks c),aQ 98 (asks c),aQ 97 (asks d),aQ 98 (asks d)]∧(∀ x∈p,ou c x=ou d x)∧∃ a,vo a∧fr=[some (.val (ay c)),some (.val (ay d)),a]) (fun p x l fr ⟨hp,ha,a,va,hfr⟩=>?_) (fun p fr ⟨hp,ha,a,va,hfr⟩=>?_) _ [] _ ⟨rfl,(fun x hx=>by cases hx),none,.none,rfl⟩
  ·subst hfr
   have hx:x∈[aQ 97 (asks c),aQ 98 (asks c),aQ 97 (asks d),aQ 98 (asks d)]:=by rw [←hp];simp
   have lx:=ln x hx
   have o1:=fun fr=>call2 (fr:=fr) (gR (F:=F) (w:=w) (n:=n) hs hf hdn ho c x (by omega) (by omega) (by omega))
   have o2:=fun fr=>call2 (fr:=fr) (gR (F:=F) (w:=w) (n:=n) hs hf hdn ho d x (by omega) (by omega) (by omega))
   have ne:cop .ne (oV (ou c x)) (oV (ou d x))=some (!decide (ou c x=ou d x)):=by
    have:=As (ou c x) (ou d x)
    rw [nK,show dm deep (oV (ou c x)) (oV (ou d x))=_ from this];rfl
   refine dR (bind1 rfl va) ?_
   by_cases hq:ou c x=ou d x
   ·refine ai (aM (b:=false) (aD rfl (bS (aO (az rfl (av rfl) (az rfl (av rfl) aB)) (o1 _)) (aO (az rfl (av rfl) (az rfl (av rfl) aB)) (o2 _)) ne) (by rw [decide_eq_true hq];rfl)) (fun h=>absurd h (by decide)) fun _=>aC (aC ?_))
    rw [gm]
    refine ⟨by rw [←hp,List.append_assoc];rfl,fun y hy=>?_,_,.val,rfl⟩
    rcases List.mem_append.mp hy with hy | hy
    ·exact ha y hy
    ·rw [List.mem_singleton] at hy;subst hy;exact hq
   ·refine ai (aM (b:=true) (aD rfl (bS (aO (az rfl (av rfl) (az rfl (av rfl) aB)) (o1 _)) (aO (az rfl (av rfl) (az rfl (av rfl) aB)) (o2 _)) ne) (by rw [decide_eq_false hq];rfl)) (fun _=>?_) fun h=>absurd h (by decide))
    refine ai (bM (av rfl) ?_)
    refine ⟨.str x,.yes (fun z=>hq ?_) hq lx,rfl,rfl⟩
    unfold ou
    rw [←gx c,←gx d,←cG c,←cG d,z]
  ·subst hfr
   rw [List.append_nil] at hp
   subst hp
   refine ai (bM (br rfl) ⟨.aP,.no ?_,rfl,rfl⟩)
   exact (Au.mpr ⟨ha _ (by simp),ha _ (by simp)⟩).anti (Au.mpr ⟨(ha _ (by simp)).symm,(ha _ (by simp)).symm⟩)
 obtain ⟨g,fr,e,v,hv,hg,ho⟩:=key
 exact ⟨v,b7 h rfl ⟨g,fr,e,hg,ho⟩,hv⟩
theorem GW {t:List Nat}(hd:F[i]?=some eL):∀ (rows:List (List Pt)) (k:List (Int×List Nat)),(∀ c∈rows,aG c t=true∧nD c≤1000)→KE t k→k.length+(rows.map nD).sum≤10000→∃ K,lU (run F w (n+1)) i (rows.map ay) k=some K∧KE t K∧(∀ q,fJ k q→fJ K q)∧∀ c∈rows,∀ p x,(asks c)[p]?=some [x]→fJ K (p:Nat)
 | [],k,_,h,_=>⟨k,rfl,h,fun _ h=>h,fun c hc=>by cases hc⟩
 | c :: rows,k,hr,h,hb=>by
  obtain ⟨h1,h2⟩:=hr c (.head _)
  obtain ⟨m,e1,e2,e3,e4⟩:=yX c h1 h2
  rw [List.map_cons,List.sum_cons] at hb
  have ml:(Ev.cY k m).length≤k.length+m.length:=by
   have:∀ (m k:List (Int×List Nat)),(Ev.cY k m).length≤k.length+m.length:=fun m=>by
    induction m with
    | nil=>intro k;exact Nat.le_refl _
    | cons p m ih=>intro k;have:=ih (Ev.cW k p.1 p.2);have:=vF k p.1 p.2;show (Ev.cY (Ev.cW k p.1 p.2) m).length≤_;rw [List.length_cons];omega
   exact this m k
  obtain ⟨K,g1,g2,g3,g4⟩:=GW hd rows (Ev.cY k m) (fun x hx=>hr x (.tail _ hx)) (h.merge (e3 t h1)) (by omega)
  refine ⟨K,?_,g2,fun q hq=>g3 q (nR (.inl hq)),fun x hx p y e=>?_⟩
  ·rw [List.map_cons,lU,yY hd e1]
   show (if k.length+m.length≤100000 then _ else none)=_
   rw [if_pos (by omega)]
   exact g1
  ·rcases List.mem_cons.mp hx with rfl | hx
   ·exact g3 _ (nR (.inr (e4 p y e)))
   ·exact g4 x hx p y e
theorem pI {s0:Sl}{os:List (List V)}(hs:F[aE]?=some di) (hb:F[aX]?=some (eY aE)) (hd:F[fX]?=some eL) (hfl:F[dj]?=some j9) (hf:F[dg]?=some (lE aE)) (h:F[i]?=some (CT fX dj aX dg)) (t:List Nat) (c0:List Pt) (rows:List (List Pt)) (hr:∀ c∈c0 :: rows,aG c t=true∧tot c≤900∧c.length≤900) (hl:rows.length≤10) (hS:Hd ((c0 :: rows).map ay) s0 os) :
  ∃ u,run F w (n+3) i [s0]=some (.str u,os)∧u.length=t.length∧∀ c∈c0 :: rows,aG c u=true:=by
 have nb:∀ l:List (List Pt),(∀ c∈l,tot c≤900)→(l.map nD).sum≤l.length*900:=fun l=>by
  induction l with
  | nil=>intro _;simp
  | cons c l ih=>
   intro q
   have:=ih fun x hx=>q x (.tail _ hx)
   have:=q c (.head _)
   have:=jt c
   rw [List.map_cons,List.sum_cons,List.length_cons,Nat.add_mul];omega
 have nb:=nb (c0 :: rows) fun c hc=>(hr c hc).2.1
 rw [List.length_cons] at nb
 obtain ⟨K,k1,k2,_,k4⟩:=GW (w:=w) (n:=n+1) (t:=t) hd (c0 :: rows) [] (fun c hc=>⟨(hr c hc).1,by have:=(hr c hc).2.1;have:=jt c;omega⟩) (fun e he=>by cases he) (by
  have:(rows.length+1)*900≤11*900:=Nat.mul_le_mul_right _ (by omega)
  simp only [List.length_nil];omega)
 obtain ⟨h1,h2,h3⟩:=hr c0 (.head _)
 have et:=iB h1
 have ba:aZ c0≤tot c0:=by have:=ju c0;omega
 have vk:∀ p:Nat,Ev.cg K (p:Int)=none∨∃ c,t[p]?=some c∧Ev.cg K (p:Int)=some [c]:=fun p=>by
  cases ev:Ev.cg K (p:Int) with
  | none=>exact .inl rfl
  | some u=>
   obtain ⟨j,c,g1,g2,g3⟩:=k2.val ev
   have:j=p:=by omega
   subst this
   exact .inr ⟨c,g2,by rw [g3]⟩
 have fu:nY K 97 t.length=(List.range t.length).map fun (p:Nat)=>((Ev.cg K (p:Int)).getD [97]).headD 0:=by
  unfold nY
  generalize t.length=m
  have:∀ l:List Nat,(l.map fun (p:Nat)=>(Ev.cg K (p:Int)).getD [97]).flatten=l.map fun (p:Nat)=>((Ev.cg K (p:Int)).getD [97]).headD 0:=fun l=>by
   induction l with
   | nil=>rfl
   | cons p l ih=>
    rw [List.map_cons,List.map_cons,List.flatten_cons,ih]
    rcases vk p with z | ⟨c,_,z⟩ <;> rw [z] <;> rfl
  exact this _
 have lu:(nY K 97 t.length).length=t.length:=by rw [fu];simp
 have ff:∀ c∈c0 :: rows,aG c (nY K 97 t.length)=true:=fun c hc=>by
  have hc1:=(hr c hc).1
  rw [cK,ja]
  refine ⟨by rw [lu,gw,iB hc1],fun p y x e1 e2=>?_⟩
  rcases gA (List.mem_of_getElem? e1) with rfl | ⟨z,rfl⟩
  ·exact .inl rfl
  ·refine .inr ?_
   have hh:=k4 c hc p z e1
   have ha:=wO hc1 e1
   rcases vk p with q | ⟨c',q1,q2⟩
   ·unfold fJ at hh;rw [q] at hh;cases hh
   ·rw [ha] at q1;cases q1
    have hp:p<t.length:=(List.getElem?_eq_some_iff.mp ha).1
    rw [fu,List.getElem?_map,List.getElem?_range hp] at e2
    simp [q2] at e2
    rw [e2]
 refine ⟨nY K 97 t.length,?_,lu,ff⟩
 have rb:=fun fr=>bY (fr:=fr) (iO (F:=F) (w:=w) (n:=n) hs hb c0 (by omega) (by omega))
 rw [←et] at rb
 have rf:=fun fr=>fy (fr:=fr) (q9 (F:=F) (w:=w) (n:=n+1) hfl K 97 t.length (by omega) (by omega))
 generalize nY K 97 t.length=u at lu ff rf
 have ri:=fun c (hc:c∈c0 :: rows) fr=>call2 (fr:=fr) (mD (F:=F) (w:=w) (n:=n) hs hf c u (by have:=(hr c hc).2.1;omega) (by omega))
 have al:cS .all [.lst ((c0 :: rows).map fun c=>V.bl (aG c u))]=some (.bl true):=by
  rw [yF]
  have:∀ l:List (List Pt),(∀ c∈l,aG c u=true)→(boolsOf (l.map fun c=>V.bl (aG c u))).map (fun bs=>V.bl (bs.all id))=some (.bl true):=fun l=>by
   induction l with
   | nil=>intro _;rfl
   | cons c l ih=>
    intro q
    have:=ih fun x hx=>q x (.tail _ hx)
    rw [List.map_cons,q c (.head _)]
    cases e:boolsOf (l.map fun c=>V.bl (aG c u)) with
    | none=>rw [e] at this;cases this
    | some bs=>
     rw [e] at this
     simp only [boolsOf,e,Option.map] at this ⊢
     simpa using this
  exact this _ ff
 have g1:∀ k a b c d,vp k [some s0.walk,a,b,c,d] 0=some (.lst ((c0 :: rows).map ay)):=fun k _ _ _ _=>by cases hS <;> rfl
 have g2:∀ a b c d,lT true [some s0.walk,a,b,c,d] 0=some (.lst ((c0 :: rows).map ay)):=fun _ _ _ _=>by cases hS <;> rfl
 have g3:s0.walk.dU=s0.walk:=by cases hS <;> rfl
 have g4:∀ a b c d,outs 1 [some s0.walk,a,b,c,d]=os:=fun _ _ _ _=>by cases hS <;> rfl
 have yZ:eg (.lst ((c0 :: rows).map ay)) (.int 0)=some (ay c0):=by rw [oG,kX (by decide)];rfl
 obtain ⟨cl,hcl⟩:∃ v,((c0 :: rows).map ay).getLast?=some v:=⟨_,List.getLast?_eq_some_getLast (by simp)⟩
 have lp:kr [some s0.walk,some (.val (.dct K)),none,none,none] 2 ((c0 :: rows).map ay)=some [some s0.walk,some (.val (.dct K)),some (.val cl),none,none]:=by unfold kr;rw [hcl];rfl
 refine b7 h rfl ?_
 refine ai (Nu (af:=[some s0.walk,none,none,none,none]) (ao:=[some s0.walk,some (.val (.dct K)),none,none,none]) ⟨by decide,by decide,by show 1<5;decide,by show 2<5;decide⟩ (eB (fD (g1 _ _ _ _ _)) rfl) k1 rfl lp ?_)
 refine ai (bI (af:=[some s0.walk,some (.val (.dct K)),some (.val cl),none,none]) (aO (az rfl (aO (az rfl (dN (av (g2 _ _ _ _)) (br rfl) yZ) aB) (rb _)) (az rfl (av rfl) (az rfl (dN (br rfl) (br rfl) rfl) aB))) (rf _)) rfl rfl ?_)
 refine ai (aM (b:=true) (af:=[some s0.walk,some (.val (.dct K)),some (.val cl),some (.val (.str u)),none]) (aD rfl (gr (bg (iM (eB (fD (g1 _ _ _ _ _)) rfl) rfl (iz ay (fun c=>V.bl (aG c u)) (c0 :: rows) fun c hc=>lg rfl (aO (az rfl (av rfl) (az rfl (av rfl) aB)) (ri c hc _))) (eU (cz (by simp;omega)))) bw) al) rfl) (fun _=>?_) fun h=>absurd h (by decide))
 have sh:gE [some s0.walk,some (.val (.dct K)),some (.val cl),some (.val (.str u)),none]=[some s0.walk,some (.val (.dct K)),some (.val cl),some (.val (.str u)),none]:=by
  show some s0.walk.dU :: _=_
  rw [g3];rfl
 refine ai (bM (af:=[some s0.walk,some (.val (.dct K)),some (.val cl),some (.val (.str u)),none]) ?_ ⟨rfl,g4 _ _ _ _⟩)
 rw [sh]
 exact av rfl
end
end Pv
set_option maxRecDepth 100000
namespace Lw
@[reducible] noncomputable def U8:Ev.S:=.iff (.cmp .eq (.ix (.v 0) (.c (.int 0))) (.c (.str [107,101,101,112]))) (.cons (.ret (.ix (.v 0) (.c (.int 1)))) .nil) .nil
@[reducible] noncomputable def U9:Ev.S:=.ret (.bi .len (.cons (.ix (.v 0) (.c (.int 1))) .nil))
@[reducible] noncomputable def f0:Ev.Fn:=⟨1,1,(.cons U8 (.cons U9 .nil))⟩
@[reducible] noncomputable def Va:Ev.S:=.ret (.bi .sum (.cons (.comp (.cl 0 (.cons (.v 1) .nil)) (.one 1) (.seq (.v 0)) (.yes (.cmp .ne (.ix (.v 1) (.c (.int 0))) (.c (.str [112,117,116]))))) .nil))
@[reducible] noncomputable def f1:Ev.Fn:=⟨1,2,(.cons Va .nil)⟩
@[reducible] noncomputable def Vb:Ev.S:=.ret (.bi .sum (.cons (.comp (.cl 0 (.cons (.v 1) .nil)) (.one 1) (.seq (.v 0)) (.yes (.cmp .ne (.ix (.v 1) (.c (.int 0))) (.c (.str [100,114,111,112]))))) .nil))
@[reducible] noncomputable def f2:Ev.Fn:=⟨1,2,(.cons Vb .nil)⟩
@[reducible] noncomputable def Vc:Ev.S:=.set 1 (.lst .nil)
@[reducible] noncomputable def Vd:Ev.S:=.set 2 (.c (.int 0))
@[reducible] noncomputable def Ve:Ev.S:=.set 3 (.c (.str []))
@[reducible] noncomputable def Vf:Ev.S:=.set 4 (.c (.str []))
@[reducible] noncomputable def Vg:Ev.Ss:=(.cons (.iff (.cmp .eq (.v 5) (.c (.str [100,114,111,112]))) (.cons (.set 3 (.bin .add (.v 3) (.v 6))) .nil) (.cons (.iff (.cmp .eq (.v 5) (.c (.str [112,117,116]))) (.cons (.set 4 (.bin .add (.v 4) (.v 6))) .nil) (.cons (.iff (.cmp .gt (.v 6) (.c (.int 0))) (.cons (.iff (.orr (.cmp .ne (.v 3) (.c (.str []))) (.cmp .ne (.v 4) (.c (.str [])))) (.cons (.exp (.me .extend (.v 1) (.cons (.cl 4 (.cons (.v 2) (.cons (.v 3) (.cons (.v 4) .nil)))) .nil))) (.cons (.set 2 (.c (.int 0))) (.cons (.set 3 (.c (.str []))) (.cons (.set 4 (.c (.str []))) .nil)))) .nil) (.cons (.set 2 (.bin .add (.v 2) (.v 6))) .nil)) .nil) .nil)) .nil)) .nil)
@[reducible] noncomputable def Vh:Ev.S:=.for (.many [5,6]) (.seq (.v 0)) Vg
@[reducible] noncomputable def Vi:Ev.S:=.exp (.me .extend (.v 1) (.cons (.cl 4 (.cons (.v 2) (.cons (.v 3) (.cons (.v 4) .nil)))) .nil))
@[reducible] noncomputable def Vj:Ev.S:=.ret (.iT (.v 1))
@[reducible] noncomputable def f3:Ev.Fn:=⟨1,7,(.cons Vc (.cons Vd (.cons Ve (.cons Vf (.cons Vh (.cons Vi (.cons Vj .nil)))))))⟩
@[reducible] noncomputable def Vk:Ev.S:=.set 3 (.lst .nil)
@[reducible] noncomputable def Vl:Ev.S:=.iff (.cmp .gt (.v 0) (.c (.int 0))) (.cons (.exp (.me .append (.v 3) (.cons (.tup (.cons (.c (.str [107,101,101,112])) (.cons (.v 0) .nil))) .nil))) .nil) .nil
@[reducible] noncomputable def Vm:Ev.S:=.iff (.cmp .ne (.v 1) (.c (.str []))) (.cons (.exp (.me .append (.v 3) (.cons (.tup (.cons (.c (.str [100,114,111,112])) (.cons (.v 1) .nil))) .nil))) .nil) .nil
@[reducible] noncomputable def Vn:Ev.S:=.iff (.cmp .ne (.v 2) (.c (.str []))) (.cons (.exp (.me .append (.v 3) (.cons (.tup (.cons (.c (.str [112,117,116])) (.cons (.v 2) .nil))) .nil))) .nil) .nil
@[reducible] noncomputable def Vo:Ev.S:=.ret (.v 3)
@[reducible] noncomputable def f4:Ev.Fn:=⟨3,4,(.cons Vk (.cons Vl (.cons Vm (.cons Vn (.cons Vo .nil)))))⟩
@[reducible] noncomputable def Vp:Ev.S:=.set 2 (.c (.int 0))
@[reducible] noncomputable def Vq:Ev.Ss:=(.cons (.iff (.an (.cmp .eq (.ix (.v 3) (.c (.int 0))) (.c (.str [100,114,111,112]))) (.cmp .ne (.sl (.v 1) (.yes (.v 2)) (.yes (.bin .add (.v 2) (.cl 0 (.cons (.v 3) .nil))))) (.ix (.v 3) (.c (.int 1))))) (.cons (.ret (.c (.bl false))) .nil) .nil) (.cons (.iff (.cmp .ne (.ix (.v 3) (.c (.int 0))) (.c (.str [112,117,116]))) (.cons (.set 2 (.bin .add (.v 2) (.cl 0 (.cons (.v 3) .nil)))) .nil) .nil) .nil))
@[reducible] noncomputable def Vr:Ev.S:=.for (.one 3) (.seq (.v 0)) Vq
@[reducible] noncomputable def Vs:Ev.S:=.ret (.cmp .eq (.v 2) (.bi .len (.cons (.v 1) .nil)))
@[reducible] noncomputable def f5:Ev.Fn:=⟨2,4,(.cons Vp (.cons Vr (.cons Vs .nil)))⟩
@[reducible] noncomputable def Vt:Ev.S:=.iff (.nt (.cl 5 (.cons (.v 0) (.cons (.v 1) .nil)))) (.cons (.fL) .nil) .nil
@[reducible] noncomputable def Vu:Ev.S:=.set 2 (.lst .nil)
@[reducible] noncomputable def Vv:Ev.S:=.set 3 (.c (.int 0))
@[reducible] noncomputable def Vw:Ev.Ss:=(.cons (.iff (.cmp .eq (.v 4) (.c (.str [112,117,116]))) (.cons (.exp (.me .append (.v 2) (.cons (.v 5) .nil))) .nil) (.cons (.iff (.cmp .eq (.v 4) (.c (.str [100,114,111,112]))) (.cons (.set 3 (.bin .add (.v 3) (.bi .len (.cons (.v 5) .nil)))) .nil) (.cons (.exp (.me .append (.v 2) (.cons (.sl (.v 1) (.yes (.v 3)) (.yes (.bin .add (.v 3) (.v 5)))) .nil))) (.cons (.set 3 (.bin .add (.v 3) (.v 5))) .nil))) .nil)) .nil)
@[reducible] noncomputable def Vx:Ev.S:=.for (.many [4,5]) (.seq (.v 0)) Vw
@[reducible] noncomputable def Vy:Ev.S:=.ret (.me .join (.c (.str [])) (.cons (.v 2) .nil))
@[reducible] noncomputable def f6:Ev.Fn:=⟨2,6,(.cons Vt (.cons Vu (.cons Vv (.cons Vx (.cons Vy .nil)))))⟩
@[reducible] noncomputable def Vz:Ev.S:=.ret (.cl 3 (.cons (.iT (.comp (.tup (.cons (.jy [(.str [107,101,101,112],.str [107,101,101,112]),(.str [112,117,116],.str [100,114,111,112]),(.str [100,114,111,112],.str [112,117,116])] (.v 1)) (.cons (.v 2) .nil))) (.many [1,2]) (.seq (.v 0)) .no)) .nil))
@[reducible] noncomputable def f7:Ev.Fn:=⟨1,3,(.cons Vz .nil)⟩
@[reducible] noncomputable def VA:Ev.S:=.iff (.cmp .ne (.cl 2 (.cons (.v 0) .nil)) (.cl 1 (.cons (.v 1) .nil))) (.cons (.fL) .nil) .nil
@[reducible] noncomputable def VB:Ev.S:=.set 2 (.ig (.rev (.cl 3 (.cons (.v 0) .nil))))
@[reducible] noncomputable def VC:Ev.S:=.set 3 (.ig (.rev (.cl 3 (.cons (.v 1) .nil))))
@[reducible] noncomputable def VD:Ev.S:=.set 4 (.lst .nil)
@[reducible] noncomputable def VE:Ev.Ss:=(.cons (.iff (.an (.v 2) (.cmp .eq (.ix (.ix (.v 2) (.neg (.c (.int 1)))) (.c (.int 0))) (.c (.str [100,114,111,112])))) (.cons (.exp (.me .append (.v 4) (.cons (.me .pop (.v 2) .nil) .nil))) .nil) (.cons (.iff (.an (.v 3) (.cmp .eq (.ix (.ix (.v 3) (.neg (.c (.int 1)))) (.c (.int 0))) (.c (.str [112,117,116])))) (.cons (.exp (.me .append (.v 4) (.cons (.me .pop (.v 3) .nil) .nil))) .nil) (.cons (.set 5 (.bi .min (.cons (.cl 0 (.cons (.ix (.v 2) (.neg (.c (.int 1)))) .nil)) (.cons (.cl 0 (.cons (.ix (.v 3) (.neg (.c (.int 1)))) .nil)) .nil)))) (.cons (.exp (.me .extend (.v 4) (.cons (.cl 9 (.cons (.cl 10 (.cons (.v 2) (.cons (.v 5) .nil))) (.cons (.cl 10 (.cons (.v 3) (.cons (.v 5) .nil))) .nil))) .nil))) .nil))) .nil)) .nil)
@[reducible] noncomputable def VF:Ev.S:=.m7 (.orr (.v 2) (.v 3)) VE
@[reducible] noncomputable def VG:Ev.S:=.ret (.cl 3 (.cons (.iT (.v 4)) .nil))
@[reducible] noncomputable def f8:Ev.Fn:=⟨2,6,(.cons VA (.cons VB (.cons VC (.cons VD (.cons VF (.cons VG .nil))))))⟩
@[reducible] noncomputable def VH:Ev.S:=.iff (.cmp .eq (.ix (.v 1) (.c (.int 0))) (.c (.str [107,101,101,112]))) (.cons (.ret (.lst (.cons (.v 0) .nil))) .nil) .nil
@[reducible] noncomputable def VI:Ev.S:=.iff (.cmp .eq (.ix (.v 0) (.c (.int 0))) (.c (.str [107,101,101,112]))) (.cons (.ret (.lst (.cons (.v 1) .nil))) .nil) .nil
@[reducible] noncomputable def VJ:Ev.S:=.iff (.cmp .ne (.ix (.v 0) (.c (.int 1))) (.ix (.v 1) (.c (.int 1)))) (.cons (.fL) .nil) .nil
@[reducible] noncomputable def VL:Ev.S:=.ret (.lst .nil)
@[reducible] noncomputable def f9:Ev.Fn:=⟨2,2,(.cons VH (.cons VI (.cons VJ (.cons VL .nil))))⟩
@[reducible] noncomputable def P7:Ev.S:=.set 2 (.cl 11 (.cons (.me .pop (.v 0) .nil) (.cons (.v 1) .nil)))
@[reducible] noncomputable def P8:Ev.S:=.iff (.cmp .gt (.cl 0 (.cons (.ix (.v 2) (.c (.int 1))) .nil)) (.c (.int 0))) (.cons (.exp (.me .append (.v 0) (.cons (.ix (.v 2) (.c (.int 1))) .nil))) .nil) .nil
@[reducible] noncomputable def P9:Ev.S:=.ret (.ix (.v 2) (.c (.int 0)))
@[reducible] noncomputable def FZ:Ev.Fn:=⟨2,3,(.cons P7 (.cons P8 (.cons P9 .nil)))⟩
@[reducible] noncomputable def Qa:Ev.S:=.set 2 (.ix (.v 0) (.c (.int 0)))
@[reducible] noncomputable def Qc:Ev.S:=.iff (.cmp .eq (.v 2) (.c (.str [107,101,101,112]))) (.cons (.ret (.tup (.cons (.tup (.cons (.v 2) (.cons (.v 1) .nil))) (.cons (.tup (.cons (.v 2) (.cons (.bin .sub (.ix (.v 0) (.c (.int 1))) (.v 1)) .nil))) .nil)))) .nil) .nil
@[reducible] noncomputable def Qd:Ev.S:=.ret (.tup (.cons (.tup (.cons (.v 2) (.cons (.sl (.ix (.v 0) (.c (.int 1))) .no (.yes (.v 1))) .nil))) (.cons (.tup (.cons (.v 2) (.cons (.sl (.ix (.v 0) (.c (.int 1))) (.yes (.v 1)) .no) .nil))) .nil)))
@[reducible] noncomputable def R5:Ev.Fn:=⟨2,3,(.cons Qa (.cons Qc (.cons Qd .nil)))⟩
@[reducible] noncomputable def Qe:Ev.S:=.iff (.cl 14 (.cons (.v 0) (.cons (.v 1) .nil))) (.cons (.fL) .nil) .nil
@[reducible] noncomputable def Qf:Ev.S:=.set 3 (.ig (.rev (.cl 3 (.cons (.v 0) .nil))))
@[reducible] noncomputable def Qg:Ev.S:=.set 4 (.ig (.rev (.cl 3 (.cons (.v 1) .nil))))
@[reducible] noncomputable def Qh:Ev.S:=.set 5 (.lst .nil)
@[reducible] noncomputable def Qi:Ev.Ss:=(.cons (.iff (.an (.cl 13 (.cons (.v 3) .nil)) (.orr (.v 2) (.nt (.cl 13 (.cons (.v 4) .nil))))) (.cons (.exp (.me .append (.v 5) (.cons (.me .pop (.v 3) .nil) .nil))) .nil) (.cons (.iff (.cl 13 (.cons (.v 4) .nil)) (.cons (.exp (.me .append (.v 5) (.cons (.tup (.cons (.c (.str [107,101,101,112])) (.cons (.cl 0 (.cons (.me .pop (.v 4) .nil) .nil)) .nil))) .nil))) .nil) (.cons (.set 6 (.bi .min (.cons (.cl 0 (.cons (.ix (.v 3) (.neg (.c (.int 1)))) .nil)) (.cons (.cl 0 (.cons (.ix (.v 4) (.neg (.c (.int 1)))) .nil)) .nil)))) (.cons (.set 7 (.cl 10 (.cons (.v 3) (.cons (.v 6) .nil)))) (.cons (.iff (.cmp .eq (.ix (.cl 10 (.cons (.v 4) (.cons (.v 6) .nil))) (.c (.int 0))) (.c (.str [107,101,101,112]))) (.cons (.exp (.me .append (.v 5) (.cons (.v 7) .nil))) .nil) .nil) .nil)))) .nil)) .nil)
@[reducible] noncomputable def Qj:Ev.S:=.m7 (.orr (.v 3) (.v 4)) Qi
@[reducible] noncomputable def Qk:Ev.S:=.ret (.cl 3 (.cons (.iT (.v 5)) .nil))
@[reducible] noncomputable def R6:Ev.Fn:=⟨3,8,(.cons Qe (.cons Qf (.cons Qg (.cons Qh (.cons Qj (.cons Qk .nil))))))⟩
@[reducible] noncomputable def Ql:Ev.S:=.ret (.an (.cmp .gt (.bi .len (.cons (.v 0) .nil)) (.c (.int 0))) (.cmp .eq (.ix (.ix (.v 0) (.neg (.c (.int 1)))) (.c (.int 0))) (.c (.str [112,117,116]))))
@[reducible] noncomputable def R7:Ev.Fn:=⟨1,1,(.cons Ql .nil)⟩
@[reducible] noncomputable def Qm:Ev.S:=.iff (.cmp .ne (.cl 1 (.cons (.v 0) .nil)) (.cl 1 (.cons (.v 1) .nil))) (.cons (.fL) .nil) .nil
@[reducible] noncomputable def Qn:Ev.S:=.set 2 (.cl 15 (.cons (.v 0) .nil))
@[reducible] noncomputable def Qo:Ev.S:=.set 3 (.cl 15 (.cons (.v 1) .nil))
@[reducible] noncomputable def Qp:Ev.S:=.ret (.comp (.v 4) (.one 4) (.seq (.bi .kg (.cons (.v 2) .nil))) (.yes (.cmp .ne (.ki (.v 3) (.v 4) (.kh (.v 2) (.v 4))) (.kh (.v 2) (.v 4)))))
@[reducible] noncomputable def R8:Ev.Fn:=⟨2,5,(.cons Qm (.cons Qn (.cons Qo (.cons Qp .nil))))⟩
@[reducible] noncomputable def Qq:Ev.S:=.set 1 (.gW)
@[reducible] noncomputable def Qs:Ev.S:=.set 2 (.c (.int 0))
@[reducible] noncomputable def Qt:Ev.Ss:=(.cons (.dput (.v 1) (.v 2) (.v 4)) (.cons (.set 2 (.bin .add (.v 2) (.c (.int 1)))) .nil))
@[reducible] noncomputable def Qu:Ev.Ss:=(.cons (.iff (.cmp .eq (.ix (.v 3) (.c (.int 0))) (.c (.str [100,114,111,112]))) (.cons (.for (.one 4) (.seq (.ix (.v 3) (.c (.int 1)))) Qt) .nil) (.cons (.iff (.cmp .eq (.ix (.v 3) (.c (.int 0))) (.c (.str [107,101,101,112]))) (.cons (.set 2 (.bin .add (.v 2) (.ix (.v 3) (.c (.int 1))))) .nil) .nil) .nil)) .nil)
@[reducible] noncomputable def Qv:Ev.S:=.for (.one 3) (.seq (.v 0)) Qu
@[reducible] noncomputable def Qw:Ev.S:=.ret (.v 1)
@[reducible] noncomputable def R9:Ev.Fn:=⟨1,5,(.cons Qq (.cons Qs (.cons Qv (.cons Qw .nil))))⟩
@[reducible] noncomputable def Qx:Ev.S:=.ret (.cmp .eq (.cl 3 (.cons (.v 0) .nil)) (.cl 3 (.cons (.v 1) .nil)))
@[reducible] noncomputable def Sa:Ev.Fn:=⟨2,2,(.cons Qx .nil)⟩
@[reducible] noncomputable def Qy:Ev.Ss:=(.cons (.iff (.cmp .ne (.cl 22 (.cons (.v 0) (.cons (.v 2) .nil))) (.cl 22 (.cons (.v 1) (.cons (.v 2) .nil)))) (.cons (.ret (.v 2)) .nil) .nil) .nil)
@[reducible] noncomputable def Qz:Ev.S:=.for (.one 2) (.seq (.bin .add (.cl 20 (.cons (.v 0) .nil)) (.cl 20 (.cons (.v 1) .nil)))) Qy
@[reducible] noncomputable def QA:Ev.S:=.ret (.c (.aP))
@[reducible] noncomputable def Sb:Ev.Fn:=⟨2,3,(.cons Qz (.cons QA .nil))⟩
@[reducible] noncomputable def QB:Ev.S:=.ret (.bi .all (.cons (.comp (.cmp .eq (.cl 22 (.cons (.v 0) (.cons (.v 2) .nil))) (.cl 22 (.cons (.v 1) (.cons (.v 2) .nil)))) (.one 2) (.seq (.cl 20 (.cons (.v 0) .nil))) .no) .nil))
@[reducible] noncomputable def Sd:Ev.Fn:=⟨2,3,(.cons QB .nil)⟩
@[reducible] noncomputable def QC:Ev.S:=.jz 1 2 0 15
@[reducible] noncomputable def QD:Ev.S:=.set 3 (.cl 21 (.cons (.cl 1 (.cons (.ix (.v 0) (.c (.int 0))) .nil)) (.cons (.v 1) (.cons (.ix (.c (.tup [.str [97],.str [98]])) (.c (.int 0))) .nil))))
@[reducible] noncomputable def QE:Ev.S:=.iff (.bi .all (.cons (.comp (.cl 5 (.cons (.v 4) (.cons (.v 3) .nil))) (.one 4) (.seq (.v 0)) .no) .nil)) (.cons (.ret (.v 3)) .nil) .nil
@[reducible] noncomputable def QF:Ev.S:=.ret (.c (.aP))
@[reducible] noncomputable def Se:Ev.Fn:=⟨1,5,(.cons QC (.cons QD (.cons QE (.cons QF .nil))))⟩
@[reducible] noncomputable def QG:Ev.S:=.set 1 (.cl 15 (.cons (.v 0) .nil))
@[reducible] noncomputable def QH:Ev.S:=.ret (.comp (.cl 21 (.cons (.cl 1 (.cons (.v 0) .nil)) (.cons (.v 1) (.cons (.v 2) .nil)))) (.one 2) (.seq (.c (.tup [.str [97],.str [98]]))) .no)
@[reducible] noncomputable def Sf:Ev.Fn:=⟨1,3,(.cons QG (.cons QH .nil))⟩
@[reducible] noncomputable def QI:Ev.S:=.ret (.me .join (.c (.str [])) (.cons (.comp (.ki (.v 1) (.v 3) (.v 2)) (.one 3) (.g8 (.cons (.v 0) .nil)) .no) .nil))
@[reducible] noncomputable def Sg:Ev.Fn:=⟨3,4,(.cons QI .nil)⟩
@[reducible] noncomputable def QJ:Ev.S:=.ret (.jD (.cl 5 (.cons (.v 0) (.cons (.v 1) .nil))) (.cl 6 (.cons (.v 0) (.cons (.v 1) .nil))) (.c (.aP)))
@[reducible] noncomputable def Sh:Ev.Fn:=⟨2,2,(.cons QJ .nil)⟩
@[reducible] noncomputable def QK:Ev.S:=.iff (.cmp .eq (.v 0) (.lst .nil)) (.cons (.ret (.bin .mul (.c (.int 7)) (.v 1))) .nil) .nil
@[reducible] noncomputable def QL:Ev.S:=.ret (.bin .add (.ix (.v 0) (.bin .mod (.v 1) (.bi .len (.cons (.v 0) .nil)))) (.bin .mul (.c (.int 6553)) (.bin .fdiv (.v 1) (.bi .len (.cons (.v 0) .nil)))))
@[reducible] noncomputable def Si:Ev.Fn:=⟨2,2,(.cons QK (.cons QL .nil))⟩
@[reducible] noncomputable def QM:Ev.S:=.set 3 (.bin .mod (.bin .add (.bin .mul (.bin .mod (.cl 23 (.cons (.v 0) (.cons (.v 1) .nil))) (.c (.int 2147483563))) (.c (.int 69069))) (.bin .mul (.c (.int 104723)) (.bin .add (.v 1) (.c (.int 1))))) (.c (.int 2147483563)))
@[reducible] noncomputable def QN:Ev.S:=.set 3 (.bin .mod (.bin .add (.bin .mul (.v 3) (.v 3)) (.bin .fdiv (.v 3) (.c (.int 3)))) (.c (.int 2147483399)))
@[reducible] noncomputable def QO:Ev.S:=.ret (.bin .mod (.bin .fdiv (.bin .mod (.bin .add (.bin .mul (.v 3) (.v 3)) (.bin .fdiv (.v 3) (.c (.int 7)))) (.c (.int 2147483647))) (.c (.int 11))) (.v 2))
@[reducible] noncomputable def Sj:Ev.Fn:=⟨3,4,(.cons QM (.cons QN (.cons QO .nil)))⟩
@[reducible] noncomputable def QS:Ev.S:=.ret (.me .join (.c (.str [])) (.cons (.comp (.ix (.c (.str [97,98,99,32])) (.cl 24 (.cons (.v 0) (.cons (.bin .add (.bin .add (.v 1) (.c (.int 1))) (.v 3)) (.cons (.c (.int 4)) .nil))))) (.one 3) (.g8 (.cons (.cl 24 (.cons (.v 0) (.cons (.v 1) (.cons (.bin .add (.v 2) (.c (.int 1))) .nil)))) .nil)) .no) .nil))
@[reducible] noncomputable def Sk:Ev.Fn:=⟨3,4,(.cons QS .nil)⟩
@[reducible] noncomputable def QT:Ev.S:=.set 3 (.tup .nil)
@[reducible] noncomputable def QU:Ev.Ss:=(.cons (.iff (.cmp .eq (.cl 24 (.cons (.v 0) (.cons (.bin .add (.v 1) (.bin .mul (.c (.int 4)) (.v 4))) (.cons (.c (.int 4)) .nil)))) (.c (.int 0))) (.cons (.set 5 (.bin .mul (.ix (.c (.str [97,98,122])) (.cl 24 (.cons (.v 0) (.cons (.bin .add (.bin .add (.v 1) (.bin .mul (.c (.int 4)) (.v 4))) (.c (.int 1))) (.cons (.c (.int 3)) .nil))))) (.bin .add (.c (.int 1)) (.cl 24 (.cons (.v 0) (.cons (.bin .add (.bin .add (.v 1) (.bin .mul (.c (.int 4)) (.v 4))) (.c (.int 2))) (.cons (.c (.int 2)) .nil))))))) (.cons (.set 3 (.bin .add (.v 3) (.tup (.cons (.tup (.cons (.c (.str [112,117,116])) (.cons (.v 5) .nil))) .nil)))) .nil)) .nil) (.cons (.iff (.cmp .lt (.v 4) (.bi .len (.cons (.v 2) .nil))) (.cons (.set 6 (.cmp .gt (.cl 24 (.cons (.v 0) (.cons (.bin .add (.bin .add (.v 1) (.bin .mul (.c (.int 4)) (.v 4))) (.c (.int 3))) (.cons (.c (.int 3)) .nil)))) (.c (.int 0)))) (.cons (.set 3 (.bin .add (.v 3) (.tup (.cons (.jD (.v 6) (.tup (.cons (.c (.str [107,101,101,112])) (.cons (.c (.int 1)) .nil))) (.tup (.cons (.c (.str [100,114,111,112])) (.cons (.ix (.v 2) (.v 4)) .nil)))) .nil)))) .nil)) .nil) .nil))
@[reducible] noncomputable def QV:Ev.S:=.for (.one 4) (.g8 (.cons (.bin .add (.bi .len (.cons (.v 2) .nil)) (.c (.int 1))) .nil)) QU
@[reducible] noncomputable def QW:Ev.S:=.ret (.v 3)
@[reducible] noncomputable def Sn:Ev.Fn:=⟨3,7,(.cons QT (.cons QV (.cons QW .nil)))⟩
@[reducible] noncomputable def QX:Ev.S:=.ret (.jD (.cl 5 (.cons (.v 0) (.cons (.v 1) .nil))) (.cl 6 (.cons (.v 0) (.cons (.v 1) .nil))) (.c (.aP)))
@[reducible] noncomputable def NR:Ev.Fn:=⟨2,2,(.cons QX .nil)⟩
@[reducible] noncomputable def GX:Ev.S:=.set 1 (.cl 25 (.cons (.v 0) (.cons (.c (.int 0)) (.cons (.c (.int 4)) .nil))))
@[reducible] noncomputable def GY:Ev.S:=.set 2 (.lst .nil)
@[reducible] noncomputable def Aw:Ev.Ss:=(.cons (.set 4 (.cl 26 (.cons (.v 0) (.cons (.bin .add (.c (.int 10)) (.bin .mul (.c (.int 30)) (.v 3))) (.cons (.v 1) .nil))))) (.cons (.set 5 (.cl 26 (.cons (.v 0) (.cons (.bin .add (.c (.int 200)) (.bin .mul (.c (.int 30)) (.v 3))) (.cons (.v 1) .nil))))) (.cons (.set 6 (.cl 8 (.cons (.v 5) (.cons (.cl 7 (.cons (.v 5) .nil)) .nil)))) (.cons (.exp (.me .append (.v 2) (.cons (.jD (.cmp .eq (.cl 24 (.cons (.v 0) (.cons (.bin .add (.c (.int 5)) (.v 3)) (.cons (.c (.int 2)) .nil)))) (.c (.int 0))) (.cl 8 (.cons (.v 6) (.cons (.v 4) .nil))) (.v 4)) .nil))) (.cons (.iff (.orr (.nt (.cl 18 (.cons (.ix (.v 2) (.neg (.c (.int 1)))) (.cons (.v 4) .nil)))) (.orr (.nt (.cl 16 (.cons (.v 4) (.cons (.cl 3 (.cons (.v 4) .nil)) .nil)))) (.nt (.cl 18 (.cons (.v 4) (.cons (.v 4) .nil)))))) (.cons (.ret (.c (.bl false))) .nil) .nil) (.cons (.iff (.cmp .ne (.cl 18 (.cons (.v 4) (.cons (.cl 8 (.cons (.v 6) (.cons (.v 4) .nil))) .nil))) (.cl 16 (.cons (.v 4) (.cons (.cl 8 (.cons (.v 6) (.cons (.v 4) .nil))) .nil)))) (.cons (.ret (.c (.bl false))) .nil) .nil) .nil))))))
@[reducible] noncomputable def GZ:Ev.S:=.for (.one 3) (.g8 (.cons (.c (.int 3)) .nil)) Aw
@[reducible] noncomputable def Ax:Ev.Ss:=(.cons (.iff (.an (.cl 18 (.cons (.v 7) (.cons (.v 8) .nil))) (.an (.cl 18 (.cons (.v 8) (.cons (.v 11) .nil))) (.nt (.cl 18 (.cons (.v 7) (.cons (.v 11) .nil)))))) (.cons (.ret (.c (.bl false))) .nil) .nil) (.cons (.iff (.an (.v 10) (.an (.cmp .mP (.v 9) (.c (.aP))) (.cmp .ne (.cl 16 (.cons (.v 8) (.cons (.v 11) .nil))) (.cl 16 (.cons (.v 7) (.cons (.v 11) .nil)))))) (.cons (.ret (.c (.bl false))) .nil) .nil) .nil))
@[reducible] noncomputable def Ay:Ev.Ss:=(.cons (.set 9 (.cl 17 (.cons (.v 7) (.cons (.v 8) .nil)))) (.cons (.set 10 (.cl 16 (.cons (.v 7) (.cons (.v 8) .nil)))) (.cons (.iff (.orr (.cmp .ne (.v 10) (.cl 16 (.cons (.v 8) (.cons (.v 7) .nil)))) (.cmp .ne (.v 10) (.cmp .mP (.v 9) (.c (.aP))))) (.cons (.ret (.c (.bl false))) .nil) .nil) (.cons (.iff (.cmp .ne (.v 10) (.an (.cl 18 (.cons (.v 7) (.cons (.v 8) .nil))) (.cl 18 (.cons (.v 8) (.cons (.v 7) .nil))))) (.cons (.ret (.c (.bl false))) .nil) .nil) (.cons (.iff (.an (.cmp .m6 (.v 9) (.c (.aP))) (.cmp .eq (.cl 27 (.cons (.v 7) (.cons (.v 9) .nil))) (.cl 27 (.cons (.v 8) (.cons (.v 9) .nil))))) (.cons (.ret (.c (.bl false))) .nil) .nil) (.cons (.iff (.an (.v 10) (.cmp .ne (.cl 7 (.cons (.v 7) .nil)) (.cl 7 (.cons (.v 8) .nil)))) (.cons (.ret (.c (.bl false))) .nil) .nil) (.cons (.iff (.an (.v 10) (.cmp .ne (.cl 12 (.cons (.v 7) (.cons (.ix (.v 2) (.c (.int 0))) (.cons (.c (.bl true)) .nil)))) (.cl 12 (.cons (.v 8) (.cons (.ix (.v 2) (.c (.int 0))) (.cons (.c (.bl true)) .nil)))))) (.cons (.ret (.c (.bl false))) .nil) .nil) (.cons (.for (.one 11) (.seq (.v 2)) Ax) .nil))))))))
@[reducible] noncomputable def G0:Ev.Ss:=(.cons (.for (.one 8) (.seq (.v 2)) Ay) .nil)
@[reducible] noncomputable def Az:Ev.S:=.for (.one 7) (.seq (.v 2)) G0
@[reducible] noncomputable def AA:Ev.S:=.set 12 (.cl 19 (.cons (.v 2) .nil))
@[reducible] noncomputable def AB:Ev.S:=.iff (.orr (.cmp .mP (.v 12) (.c (.aP))) (.cmp .ne (.bi .len (.cons (.v 12) .nil)) (.bi .len (.cons (.v 1) .nil)))) (.cons (.ret (.c (.bl false))) .nil) .nil
@[reducible] noncomputable def AD:Ev.S:=.ret (.an (.cmp .eq (.comp (.v 13) (.one 13) (.seq (.v 2)) (.yes (.nt (.cl 5 (.cons (.v 13) (.cons (.v 12) .nil)))))) (.lst .nil)) (.cmp .m6 (.cl 19 (.cons (.lst (.cons (.ix (.v 2) (.c (.int 0))) .nil)) .nil)) (.c (.aP))))
@[reducible] noncomputable def G1:Ev.Fn:=⟨1,14,(.cons GX (.cons GY (.cons GZ (.cons Az (.cons AA (.cons AB (.cons AD .nil)))))))⟩
noncomputable def prog:List Ev.Fn:=[f0,f1,f2,f3,f4,f5,f6,f7,f8,f9,FZ,R5,R6,R7,R8,R9,Sa,Sb,Sd,Se,Sf,Sg,Sh,Si,Sj,Sk,Sn,NR,G1]
end Lw
set_option maxRecDepth 100000
namespace Lw
open PySem PySem.Spec PyProof.Rows L2 Sm
open Ev (D O Hh Fr R aR E Es Eo T S Ss Fl Src bU bQ TY BI ME)
noncomputable def top (i:Nat):Stmt:=PySem.Challenge.pw_pastways_k61_whole_alike.main.body.getD i (.Pass ⟨0,0,0,0⟩)
abbrev i0 (a:Nat→Addr) (d:Nat→FuncData):FI:=⟨"size",a 0,d 0,["part"]⟩
abbrev i1 (a:Nat→Addr) (d:Nat→FuncData):FI:=⟨"before",a 1,d 1,["change"]⟩
abbrev i2 (a:Nat→Addr) (d:Nat→FuncData):FI:=⟨"after",a 2,d 2,["change"]⟩
abbrev i3 (a:Nat→Addr) (d:Nat→FuncData):FI:=⟨"form",a 3,d 3,["change"]⟩
abbrev i4 (a:Nat→Addr) (d:Nat→FuncData):FI:=⟨"stretch",a 4,d 4,["kept","gone","new"]⟩
abbrev i5 (a:Nat→Addr) (d:Nat→FuncData):FI:=⟨"fits",a 5,d 5,["change","text"]⟩
abbrev i6 (a:Nat→Addr) (d:Nat→FuncData):FI:=⟨"done",a 6,d 6,["change","text"]⟩
abbrev i7 (a:Nat→Addr) (d:Nat→FuncData):FI:=⟨"undone",a 7,d 7,["change"]⟩
abbrev i8 (a:Nat→Addr) (d:Nat→FuncData):FI:=⟨"then",a 8,d 8,["one","other"]⟩
abbrev i9 (a:Nat→Addr) (d:Nat→FuncData):FI:=⟨"met",a 9,d 9,["left","gone_through"]⟩
abbrev NS (a:Nat→Addr) (d:Nat→FuncData):FI:=⟨"taken",a 10,d 10,["parts","many"]⟩
abbrev NT (a:Nat→Addr) (d:Nat→FuncData):FI:=⟨"parted",a 11,d 11,["part","many"]⟩
abbrev i12 (a:Nat→Addr) (d:Nat→FuncData):FI:=⟨"past",a 12,d 12,["one","other","is_first"]⟩
abbrev NU (a:Nat→Addr) (d:Nat→FuncData):FI:=⟨"puts_next",a 13,d 13,["parts"]⟩
abbrev NV (a:Nat→Addr) (d:Nat→FuncData):FI:=⟨"clashing",a 14,d 14,["one","other"]⟩
abbrev NW (a:Nat→Addr) (d:Nat→FuncData):FI:=⟨"dropped_signs",a 15,d 15,["change"]⟩
abbrev NX (a:Nat→Addr) (d:Nat→FuncData):FI:=⟨"alike",a 16,d 16,["one","other"]⟩
abbrev NY (a:Nat→Addr) (d:Nat→FuncData):FI:=⟨"parting",a 17,d 17,["one","other"]⟩
abbrev NZ (a:Nat→Addr) (d:Nat→FuncData):FI:=⟨"within",a 18,d 18,["one","other"]⟩
abbrev N1 (a:Nat→Addr) (d:Nat→FuncData):FI:=⟨"all_fit",a 19,d 19,["changes"]⟩
abbrev N2 (a:Nat→Addr) (d:Nat→FuncData):FI:=⟨"fitting",a 20,d 20,["change"]⟩
abbrev N3 (a:Nat→Addr) (d:Nat→FuncData):FI:=⟨"filled",a 21,d 21,["many","signs","sign"]⟩
abbrev N4 (a:Nat→Addr) (d:Nat→FuncData):FI:=⟨"outcome",a 22,d 22,["change","text"]⟩
abbrev N5 (a:Nat→Addr) (d:Nat→FuncData):FI:=⟨"_law_cell",a 23,d 23,["_law_script","_law_k"]⟩
abbrev N6 (a:Nat→Addr) (d:Nat→FuncData):FI:=⟨"_law_drawn",a 24,d 24,["_law_script","_law_k","_law_many"]⟩
abbrev N7 (a:Nat→Addr) (d:Nat→FuncData):FI:=⟨"_law_text",a 25,d 25,["_law_script","_law_at","_law_most"]⟩
abbrev N8 (a:Nat→Addr) (d:Nat→FuncData):FI:=⟨"_law_change",a 26,d 26,["_law_script","_law_at","_law_text_here"]⟩
abbrev N9 (a:Nat→Addr) (d:Nat→FuncData):FI:=⟨"_law_makes",a 27,d 27,["_law_change_here","_law_text_here"]⟩
abbrev G2 (a:Nat→Addr) (d:Nat→FuncData):FI:=⟨"law",a 28,d 28,["_law_script"]⟩
noncomputable def oh:List Str:=["all","len","list","min","range","reversed","sorted","sum","tuple"]
theorem QY:("all" : Str)∈oh:=by decide +kernel
theorem QZ:("len" : Str)∈oh:=by decide +kernel
theorem Oa:("list" : Str)∈oh:=by decide +kernel
theorem Q0:("min" : Str)∈oh:=by decide +kernel
theorem JB:("range" : Str)∈oh:=by decide +kernel
theorem AE:("reversed" : Str)∈oh:=by decide +kernel
theorem Fq:("sorted" : Str)∈oh:=by decide +kernel
theorem Q2:("sum" : Str)∈oh:=by decide +kernel
theorem JD:("tuple" : Str)∈oh:=by decide +kernel
noncomputable def tb (a:Nat→Addr) (d:Nat→FuncData):Tb:=⟨prog,100000,[i0 a d,i1 a d,i2 a d,i3 a d,i4 a d,i5 a d,i6 a d,i7 a d,i8 a d,i9 a d,NS a d,NT a d,i12 a d,NU a d,NV a d,NW a d,NX a d,NY a d,NZ a d,N1 a d,N2 a d,N3 a d,N4 a d,N5 a d,N6 a d,N7 a d,N8 a d,N9 a d,G2 a d],oh,[("__name__",.str [108,97,119,95,112,97,115,116,119,97,121,115,95,107,54,49,95,119,104,111,108,101,95,97,108,105,107,101]),("FILLS",.tup [.str [97],.str [98]])],[("TURNED",[(.str [107,101,101,112],.str [107,101,101,112]),(.str [112,117,116],.str [100,114,111,112]),(.str [100,114,111,112],.str [112,117,116])])]⟩
section
variable {a:Nat→Addr}{d:Nat→FuncData}{n:Nat}
abbrev n0:List Str:=["part"]
theorem s0:bq n0 ["part"] (aN (top 1)):=⟨rfl,rfl,rfl,by decide +kernel,rfl,by decide +kernel,by decide +kernel⟩
abbrev n1:List Str:=["change"]
theorem s1:bq n1 ["change"] (aN (top 2)):=⟨rfl,rfl,rfl,by decide +kernel,rfl,by decide +kernel,by decide +kernel⟩
abbrev n2:List Str:=["change"]
theorem s2:bq n2 ["change"] (aN (top 3)):=⟨rfl,rfl,rfl,by decide +kernel,rfl,by decide +kernel,by decide +kernel⟩
abbrev n3:List Str:=["change","parts","kept","gone","new","word","what"]
theorem s3:bq n3 ["change"] (aN (top 4)):=⟨rfl,rfl,rfl,by decide +kernel,rfl,by decide +kernel,by decide +kernel⟩
abbrev n4:List Str:=["kept","gone","new","parts"]
theorem s4:bq n4 ["kept","gone","new"] (aN (top 5)):=⟨rfl,rfl,rfl,by decide +kernel,rfl,by decide +kernel,by decide +kernel⟩
abbrev n5:List Str:=["change","text","place","part"]
theorem s5:bq n5 ["change","text"] (aN (top 12)):=⟨rfl,rfl,rfl,by decide +kernel,rfl,by decide +kernel,by decide +kernel⟩
abbrev n6:List Str:=["change","text","pieces","place","word","what"]
theorem s6:bq n6 ["change","text"] (aN (top 13)):=⟨rfl,rfl,rfl,by decide +kernel,rfl,by decide +kernel,by decide +kernel⟩
abbrev n7:List Str:=["change"]
theorem s7:bq n7 ["change"] (aN (top 14)):=⟨rfl,rfl,rfl,by decide +kernel,rfl,by decide +kernel,by decide +kernel⟩
abbrev n8:List Str:=["one","other","ones","others","parts","many"]
theorem s8:bq n8 ["one","other"] (aN (top 15)):=⟨rfl,rfl,rfl,by decide +kernel,rfl,by decide +kernel,by decide +kernel⟩
abbrev n9:List Str:=["left","gone_through"]
theorem s9:bq n9 ["left","gone_through"] (aN (top 16)):=⟨rfl,rfl,rfl,by decide +kernel,rfl,by decide +kernel,by decide +kernel⟩
abbrev So:List Str:=["parts","many","halves"]
theorem Rw:bq So ["parts","many"] (aN (top 17)):=⟨rfl,rfl,rfl,by decide +kernel,rfl,by decide +kernel,by decide +kernel⟩
abbrev Sq:List Str:=["part","many","word"]
theorem FT:bq Sq ["part","many"] (aN (top 18)):=⟨rfl,rfl,rfl,by decide +kernel,rfl,by decide +kernel,by decide +kernel⟩
abbrev Su:List Str:=["one","other","is_first","ones","others","parts","many","part"]
theorem s12:bq Su ["one","other","is_first"] (aN (top 20)):=⟨rfl,rfl,rfl,by decide +kernel,rfl,by decide +kernel,by decide +kernel⟩
abbrev Sv:List Str:=["parts"]
theorem W0:bq Sv ["parts"] (aN (top 21)):=⟨rfl,rfl,rfl,by decide +kernel,rfl,by decide +kernel,by decide +kernel⟩
abbrev Sw:List Str:=["one","other","signs","unlike"]
theorem W2:bq Sw ["one","other"] (aN (top 22)):=⟨rfl,rfl,rfl,by decide +kernel,rfl,by decide +kernel,by decide +kernel⟩
abbrev Sx:List Str:=["change","signs","place","part","sign"]
theorem W3:bq Sx ["change"] (aN (top 23)):=⟨rfl,rfl,rfl,by decide +kernel,rfl,by decide +kernel,by decide +kernel⟩
abbrev Sy:List Str:=["one","other"]
theorem W4:bq Sy ["one","other"] (aN (top 26)):=⟨rfl,rfl,rfl,by decide +kernel,rfl,by decide +kernel,by decide +kernel⟩
abbrev Sz:List Str:=["one","other","text"]
theorem W5:bq Sz ["one","other"] (aN (top 27)):=⟨rfl,rfl,rfl,by decide +kernel,rfl,by decide +kernel,by decide +kernel⟩
abbrev SA:List Str:=["one","other"]
theorem W6:bq SA ["one","other"] (aN (top 28)):=⟨rfl,rfl,rfl,by decide +kernel,rfl,by decide +kernel,by decide +kernel⟩
abbrev SD:List Str:=["changes","signs","change","text"]
theorem W7:bq SD ["changes"] (aN (top 29)):=⟨rfl,rfl,rfl,by decide +kernel,rfl,by decide +kernel,by decide +kernel⟩
abbrev SE:List Str:=["change","signs"]
theorem W8:bq SE ["change"] (aN (top 30)):=⟨rfl,rfl,rfl,by decide +kernel,rfl,by decide +kernel,by decide +kernel⟩
abbrev SG:List Str:=["many","signs","sign"]
theorem W9:bq SG ["many","signs","sign"] (aN (top 31)):=⟨rfl,rfl,rfl,by decide +kernel,rfl,by decide +kernel,by decide +kernel⟩
abbrev SH:List Str:=["change","text"]
theorem Xa:bq SH ["change","text"] (aN (top 32)):=⟨rfl,rfl,rfl,by decide +kernel,rfl,by decide +kernel,by decide +kernel⟩
abbrev SI:List Str:=["_law_script","_law_k"]
theorem Xb:bq SI ["_law_script","_law_k"] (aN (top 34)):=⟨rfl,rfl,rfl,by decide +kernel,rfl,by decide +kernel,by decide +kernel⟩
abbrev SJ:List Str:=["_law_script","_law_k","_law_many","_law_cell_here"]
theorem Xc:bq SJ ["_law_script","_law_k","_law_many"] (aN (top 35)):=⟨rfl,rfl,rfl,by decide +kernel,rfl,by decide +kernel,by decide +kernel⟩
abbrev SK:List Str:=["_law_script","_law_at","_law_most"]
theorem Xd:bq SK ["_law_script","_law_at","_law_most"] (aN (top 36)):=⟨rfl,rfl,rfl,by decide +kernel,rfl,by decide +kernel,by decide +kernel⟩
abbrev SM:List Str:=["_law_script","_law_at","_law_text_here","_law_found","_law_k","_law_new","_law_is_kept"]
theorem Xe:bq SM ["_law_script","_law_at","_law_text_here"] (aN (top 37)):=⟨rfl,rfl,rfl,by decide +kernel,rfl,by decide +kernel,by decide +kernel⟩
abbrev SN:List Str:=["_law_change_here","_law_text_here"]
theorem Xf:bq SN ["_law_change_here","_law_text_here"] (aN (top 38)):=⟨rfl,rfl,rfl,by decide +kernel,rfl,by decide +kernel,by decide +kernel⟩
abbrev SO:List Str:=["_law_script","_law_text_here","_law_rows","_law_k","_law_change_here","_law_narrow","_law_still","_law_one","_law_other","_law_told","_law_same","_law_third","_law_both"]
theorem Xg:bq SO ["_law_script"] (aN (top 39)):=⟨rfl,rfl,rfl,by decide +kernel,rfl,by decide +kernel,by decide +kernel⟩
set_option maxHeartbeats 0 in
theorem dh:allB (tb a d) n [(f0.body,top 1,n0),(f1.body,top 2,n1),(f2.body,top 3,n2),(f3.body,top 4,n3),(f4.body,top 5,n4),(f5.body,top 12,n5),(f6.body,top 13,n6),(f7.body,top 14,n7),(f8.body,top 15,n8),(f9.body,top 16,n9),(FZ.body,top 17,So),(R5.body,top 18,Sq),(R6.body,top 20,Su),(R7.body,top 21,Sv),(R8.body,top 22,Sw),(R9.body,top 23,Sx),(Sa.body,top 26,Sy),(Sb.body,top 27,Sz),(Sd.body,top 28,SA),(Se.body,top 29,SD),(Sf.body,top 30,SE),(Sg.body,top 31,SG),(Sh.body,top 32,SH),(Si.body,top 34,SI),(Sj.body,top 35,SJ),(Sk.body,top 36,SK),(Sn.body,top 37,SM),(NR.body,top 38,SN),(G1.body,top 39,SO)]:=by
 refine ⟨?_,?_,?_,?_,?_,?_,?_,?_,?_,?_,?_,?_,?_,?_,?_,?_,?_,?_,?_,?_,?_,?_,?_,?_,?_,?_,?_,?_,?_,trivial⟩
 all_goals dsimp only
 all_goals repeat (first
  | ((with_reducible show JE _ _ _ _ _ _ _ (.BoolOp _ [_] _));refine K5 ?_)
  | ((with_reducible show JE _ _ _ _ _ _ (.c _) (.Name _ _));refine HF (x:="FILLS") (.tail _ (.head _)))
  | ((with_reducible show jY _ _ _ _ _ _ (.cons (.jz _ _ _ _) _) _);refine DE ?_)
  | ((with_reducible show JE _ _ _ _ _ _ (.v _) _);exact jv (by decide +kernel))
  | ((with_reducible show JA _ _ _ _ _ _ (.cons _ _) _);refine HG ?_ ?_)
  | ((with_reducible show jY _ _ _ _ _ _ (.cons _ _) _);refine Dv ?_ ?_)
  | ((with_reducible show JA _ _ _ _ _ _ .nil _);refine KZ)
  | ((with_reducible show jY _ _ _ _ _ _ .nil _);refine HQ)
  | ((with_reducible show JE _ _ _ _ _ _ (.cl _ _) _);refine Ww (by decide +kernel) rfl rfl ?_)
  | ((with_reducible show JE _ _ _ _ _ _ (.c (.int _)) _);refine KU)
  | ((with_reducible show JS _ _ _ _ _ _ (.ret _) _);refine Ln ?_)
  | ((with_reducible show JE _ _ _ _ _ _ (.ix _ _) _);refine O5 (fun X g=>Ph) ?_ ?_)
  | ((with_reducible show JS _ _ _ _ _ _ (.iff _ _ _) _);refine Lo ?_ ?_ ?_)
  | ((with_reducible show JE _ _ _ _ _ _ (.c (.str _)) _);refine KY)
  | ((with_reducible show JE _ _ _ _ _ _ (.bin .add _ _) _);refine m8 (fun X g=>LJ) ?_ ?_)
  | ((with_reducible show JT _ _ _ _ _ _ (.cmp .ne _ _) _);refine kQ (fun X g=>Pf g) ?_ ?_ (gK _))
  | ((with_reducible show JG _ _ _ _ _ _ (.one _) _);exact Wu (by decide +kernel))
  | ((with_reducible show JT _ _ _ _ _ _ (.cmp .eq _ _) _);refine kQ (fun X g=>Gg g) ?_ ?_ (gK _))
  | ((with_reducible show JI _ _ _ _ _ _ (.seq _) _ _);refine Li ?_)
  | ((with_reducible show JE _ _ _ _ _ _ (.tup _) _);refine K0 ?_)
  | ((with_reducible show JS _ _ _ _ _ _ (.exp _) _);refine Lm ?_)
  | ((with_reducible show JE _ _ _ _ _ _ (.c (.bl _)) _);refine O2)
  | ((with_reducible show JE _ _ _ _ _ _ (.bin .mul _ _) _);refine m8 (fun X g=>LS) ?_ ?_)
  | ((with_reducible show JE _ _ _ _ _ _ (.lst _) _);refine K3 ?_)
  | ((with_reducible show JS _ _ _ _ _ _ (.for _ _ _) _);refine Lq ?_ ?_ ?_)
  | ((with_reducible show JE _ _ _ _ _ _ (.me .append _ (.cons _ _)) _);refine zx PySem.F.plainAttrs_list PySem.F.slot_list_append PySem.F.type_list_append (fun X g=>BC) rfl ?_ ?_)
  | ((with_reducible show JT _ _ _ _ _ _ (.an _ _) _);refine UR ?_ ?_)
  | ((with_reducible show JW _ _ _ _ _ _ (.an _ _) (.BoolOp _ (_ :: _ :: _) _));refine FJ ?_ ?_)
  | ((with_reducible show JE _ _ _ _ _ _ (.bi .len _) _);refine qh (x:="len") (id:="len") (fun X g=>LW) ?_ (hb:=QZ) (hv:=by decide +kernel))
  | ((with_reducible show JE _ _ _ _ _ _ (.comp _ _ _ _) _);refine Po (by decide +kernel) (by decide +kernel) ?_ ?_ ?_ ?_)
  | ((with_reducible show JW _ _ _ _ _ _ _ (.BoolOp .And [_] _));refine K8 ?_)
  | ((with_reducible show JE _ _ _ _ _ _ (.c .aP) _);refine KW)
  | ((with_reducible show JT _ _ _ _ _ _ (.orr _ _) _);refine US ?_ ?_)
  | ((with_reducible show JW _ _ _ _ _ _ (.orr _ _) (.BoolOp _ (_ :: _ :: _) _));refine Bd ?_ ?_)
  | ((with_reducible show JE _ _ _ _ _ _ (.neg _) _);refine K4 ?_)
  | ((with_reducible show JW _ _ _ _ _ _ _ (.BoolOp .Or [_] _));refine HH ?_)
  | ((with_reducible show JT _ _ _ _ _ _ (.nt _) _);refine O4 ?_)
  | ((with_reducible show sW _ _ _ _ _ _ (_ :: _) _);refine Wv (by decide +kernel) ?_)
  | ((with_reducible show JO _ _ _ _ _ _ (.yes _) _);refine Lc ?_)
  | ((with_reducible show JC _ _ _ _ _ _ .no _);refine Pc)
  | ((with_reducible show JE _ _ _ _ _ _ (.bin .mod _ _) _);refine m8 (fun X g=>LL) ?_ ?_)
  | ((with_reducible show JE _ _ _ _ _ _ (.cmp .eq _ _) _);refine qg (fun X g=>Gg g) ?_ ?_ (gK _))
  | ((with_reducible show JS _ _ _ _ _ _ .fL _);refine L1)
  | ((with_reducible show JE _ _ _ _ _ _ (.me .pop _ .nil) _);refine Le PySem.F.plainAttrs_list PySem.F.slot_list_pop PySem.F.type_list_pop (fun X g=>LY) rfl ?_)
  | ((with_reducible show JC _ _ _ _ _ _ (.yes _) _);refine Lv ?_)
  | ((with_reducible show JE _ _ _ _ _ _ (.iT _) _);refine LZ ?_ (h1:=JD))
  | ((with_reducible show JE _ _ _ _ _ _ (.sl _ _ _) _);refine O7 (fun X g=>LR) ?_ ?_ ?_)
  | ((with_reducible show JE _ _ _ _ _ _ (.ig (.rev _)) _);refine Iq ?_ (h1:=Oa) (hb:=AE))
  | ((with_reducible show JI _ _ _ _ _ _ (.g8 (.cons _ .nil)) _ _);refine HL ?_ (hb:=JB))
  | ((with_reducible show JE _ _ _ _ _ _ (.jD _ _ _) _);refine K6 ?_ ?_ ?_)
  | ((with_reducible show JE _ _ _ _ _ _ (.bin .fdiv _ _) _);refine m8 (fun X g=>Ii) ?_ ?_)
  | ((with_reducible show JG _ _ _ _ _ _ (.many _) _);refine HN ?_)
  | ((with_reducible show sW _ _ _ _ _ _ [] _);refine HM)
  | ((with_reducible show JT _ _ _ _ _ _ (.cmp .gt _ _) _);refine kQ (fun X g=>Gh) ?_ ?_ (gK _))
  | ((with_reducible show JE _ _ _ _ _ _ (.me .extend _ (.cons _ _)) _);refine zx PySem.F.plainAttrs_list PySem.F.slot_list_extend PySem.F.type_list_extend (fun X g=>BD) rfl ?_ ?_)
  | ((with_reducible show JE _ _ _ _ _ _ (.me .join _ (.cons _ _)) _);refine zx PySem.F.plainAttrs_str PySem.F.slot_str_join PySem.F.type_str_join (fun X g=>Io) rfl ?_ ?_)
  | ((with_reducible show JE _ _ _ _ _ _ (.an _ _) (.BoolOp _ (_ :: _ :: _) _));refine O3 ?_ ?_)
  | ((with_reducible show JE _ _ _ _ _ _ (.bi .sum _) _);refine qh (x:="sum") (id:="sum") (fun X g=>LV g) ?_ (hb:=Q2) (hv:=by decide +kernel))
  | ((with_reducible show JS _ _ _ _ _ _ (.m7 _ _) _);refine Lp ?_ ?_)
  | ((with_reducible show JE _ _ _ _ _ _ (.bi .min _) _);refine qh (x:="min") (id:="min") (fun X g=>LX g) ?_ (hb:=Q0) (hv:=by decide +kernel))
  | ((with_reducible show JO _ _ _ _ _ _ .no _);refine O6)
  | ((with_reducible show JE _ _ _ _ _ _ (.cmp .gt _ _) _);refine qg (fun X g=>Gh) ?_ ?_ (gK _))
  | ((with_reducible show JE _ _ _ _ _ _ (.ki _ _ _) _);refine Ls ?_ ?_ ?_)
  | ((with_reducible show JE _ _ _ _ _ _ (.kh _ _) _);refine Lr ?_ ?_)
  | ((with_reducible show JE _ _ _ _ _ _ .gW _);exact HW)
  | ((with_reducible show JE _ _ _ _ _ _ (.bi .all _) _);refine qh (x:="all") (id:="all") (fun X g=>LU g) ?_ (hb:=QY) (hv:=by decide +kernel))
  | ((with_reducible show JT _ _ _ _ _ _ (.cmp .mP _ _) _);refine kQ (fun X g=>BA) ?_ ?_ (gK _))
  | ((with_reducible show JE _ _ _ _ _ _ (.jy _ _) _);refine Ip (x:="TURNED") (.head _) ?_)
  | ((with_reducible show JE _ _ _ _ _ _ (.bin .sub _ _) _);refine m8 (fun X g=>LK) ?_ ?_)
  | ((with_reducible show JE _ _ _ _ _ _ (.bi .kg _) _);refine qh (x:="sorted") (id:="sorted") (fun X g=>DQ g.calm) ?_ (hb:=Fq) (hv:=by decide +kernel))
  | ((with_reducible show JS _ _ _ _ _ _ (.dput _ _ _) _);refine HX ?_ ?_ ?_)
  | ((with_reducible show JS _ _ _ _ _ _ (.pN _ _) _);refine HZ ?_ ?_)
  | ((with_reducible show JT _ _ _ _ _ _ (.cmp .lt _ _) _);refine kQ (fun X g=>Pg) ?_ ?_ (gK _))
  | ((with_reducible show JE _ _ _ _ _ _ (.cmp .mP _ _) _);refine qg (fun X g=>BA) ?_ ?_ (gK _))
  | ((with_reducible show JT _ _ _ _ _ _ (.cmp .m6 _ _) _);refine kQ (fun X g=>yl) ?_ ?_ (gK _))
  | ((with_reducible show JE _ _ _ _ _ _ (.cmp .m6 _ _) _);refine qg (fun X g=>yl) ?_ ?_ (gK _))
  | ((with_reducible show JS _ _ _ _ _ _ (.set _ _) _);refine UQ (by decide +kernel) ?_)
  | ((with_reducible show JT _ _ _ _ _ _ _ _);refine La ?_))
end
end Lw
set_option maxRecDepth 100000
namespace Lw
open PySem PySem.Spec PyProof.Rows L2 Sm
open Ev (D O Hh Fr R aR E Es Eo T S Ss Fl Src bU bQ TY BI ME)
theorem kc {α:Type _}{l:List α}(h:l.length=1):∃ a,l=[a]:=by
 rcases l with _ | ⟨a,_ | ⟨b,l⟩⟩ <;> simp at h ⊢
theorem iS {α:Type _}{l:List α}(h:l.length=2):∃ a b,l=[a,b]:=by
 rcases l with _ | ⟨a,l⟩
 ·simp at h
 ·obtain ⟨b,rfl⟩:=kc (l:=l) (by simpa using h);exact ⟨a,b,rfl⟩
theorem sE {α:Type _}{l:List α}(h:l.length=3):∃ a b c,l=[a,b,c]:=by
 rcases l with _ | ⟨a,l⟩
 ·simp at h
 ·obtain ⟨b,c,rfl⟩:=iS (l:=l) (by simpa using h);exact ⟨a,b,c,rfl⟩
structure Fg (K:PySem.W.Frag) (x:Str) (i:Nat) (p:Addr) (d:FuncData):Prop where
 a:PySem.W.nsIn K mainGlobals x=some (some (.ref p))
 f:sR K x x (top i) p d
theorem Fg.t {K:PySem.W.Frag}{h:Heap}{mg:Str→Option Value}{x:Str}{i:Nat}{p:Addr}{d:FuncData}{ps:List Str}(F:Fg K x i p d) (X:K.In h) (G:h.Ns mainGlobals mg) (b:Binds K d ps []):mg x=some (.ref p)∧PySem.W.keepIn K (.ref p)=true∧Binds K d ps []:=⟨PySem.W.mg_of X G F.a,F.f.kp,b⟩
theorem all_mk {l:PySem.W.OpenLaw}{w:World}{K:PySem.W.Frag}{h:Heap}{mg:Str→Option Value}{fa p0 p1 p2 p3 p4 p5 p6 p7 p8 p9 SQ SS SV SW SX SY S5 S6 S7 S8 S9 Tc Td Te Tf Tg Ti Tj Ob:Addr}{d0 d1 d2 d3 d4 d5 d6 d7 d8 d9 To Tp Tt Tu Tv Tw Tz TF TH TJ TL TM TN TQ TR TU TV TX Oc:FuncData}(X:K.In h) (G:h.Ns mainGlobals mg) (Xh:mg "law" = some (.ref fa))
  (F0:Fg K "size" 1 p0 d0)
  (F1:Fg K "before" 2 p1 d1)
  (F2:Fg K "after" 3 p2 d2)
  (F3:Fg K "form" 4 p3 d3)
  (F4:Fg K "stretch" 5 p4 d4)
  (F5:Fg K "fits" 12 p5 d5)
  (F6:Fg K "done" 13 p6 d6)
  (F7:Fg K "undone" 14 p7 d7)
  (F8:Fg K "then" 15 p8 d8)
  (F9:Fg K "met" 16 p9 d9)
  (Od:Fg K "taken" 17 SQ To)
  (Oe:Fg K "parted" 18 SS Tp)
  (Of:Fg K "past" 20 SV Tt)
  (Og:Fg K "puts_next" 21 SW Tu)
  (Oh:Fg K "clashing" 22 SX Tv)
  (Oi:Fg K "dropped_signs" 23 SY Tw)
  (Oj:Fg K "alike" 26 S5 Tz)
  (Ol:Fg K "parting" 27 S6 TF)
  (Om:Fg K "within" 28 S7 TH)
  (Oo:Fg K "all_fit" 29 S8 TJ)
  (Oq:Fg K "fitting" 30 S9 TL)
  (Ot:Fg K "filled" 31 Tc TM)
  (Ou:Fg K "outcome" 32 Td TN)
  (Ov:Fg K "_law_cell" 34 Te TQ)
  (Ow:Fg K "_law_drawn" 35 Tf TR)
  (Ox:Fg K "_law_text" 36 Tg TU)
  (Oz:Fg K "_law_change" 37 Ti TV)
  (OA:Fg K "_law_makes" 38 Tj TX)
  (CV:Fg K "law" 39 Ob Oc)
  (z0:PySem.W.nsIn K mainGlobals "all" = some none)
  (z1:PySem.W.nsIn K mainGlobals "len" = some none)
  (z2:PySem.W.nsIn K mainGlobals "list" = some none)
  (z3:PySem.W.nsIn K mainGlobals "min" = some none)
  (z4:PySem.W.nsIn K mainGlobals "range" = some none)
  (z5:PySem.W.nsIn K mainGlobals "reversed" = some none)
  (z6:PySem.W.nsIn K mainGlobals "sorted" = some none)
  (z7:PySem.W.nsIn K mainGlobals "sum" = some none)
  (z8:PySem.W.nsIn K mainGlobals "tuple" = some none)
  {t0:Tok} (q0:PySem.W.nsIn K mainGlobals "__name__" = some (some (.str "law_pastways_k61_whole_alike" t0)))
  {VM VN:Tok} {G3:Addr} {Xi:Option Addr} {Xj:Nat} {Xk:Array (Option Value)} (q1:PySem.W.nsIn K mainGlobals "FILLS" = some (some (.ref G3))) (TZ:K.lookup G3=some ⟨.type "tuple",Xi,.seq #[.str "a" VM,.str "b" VN] Xj,Xk⟩)
  {G4:Addr} (T3:PySem.W.nsIn K mainGlobals "TURNED" = some (some (.ref G4))) (T4:PyProof.Rows.KTD.tabLook PyProof.Rows.KTD.flatLooks (fun b=>K.lookup b) G4 [(aU [107,101,101,112],PyData.str (aU [107,101,101,112])),(aU [112,117,116],PyData.str (aU [100,114,111,112])),(aU [100,114,111,112],PyData.str (aU [112,117,116]))]=true) (T5:PyProof.Rows.KTD.hashesOf (fun b=>K.lookup b) G4=([(aU [107,101,101,112],PyData.str (aU [107,101,101,112])),(aU [112,117,116],PyData.str (aU [100,114,111,112])),(aU [100,114,111,112],PyData.str (aU [112,117,116]))]:List (Str×PyData)).map fun p=>(PySem.strKind l.prog w).hash p.1)
  : ∃ fd:FuncData,(∀ (s:Shared) (v:Value),BindsTo s fd ⟨[v],[]⟩ [("_law_script",v)])∧∀ base:Heap,K.In base→base.Ns mainGlobals mg→iV l.prog w K mg base m5 60 fa fd ["_law_script"] (oY K prog 100000 60 28):=by
 have e:=Xh.symm.trans (PySem.W.mg_of X G CV.a)
 have e2:Ob=fa:=by injection e with e;injection e with e;exact e.symm
 subst e2
 let aa:Nat→Addr:=fun k=>[p0,p1,p2,p3,p4,p5,p6,p7,p8,p9,SQ,SS,SV,SW,SX,SY,S5,S6,S7,S8,S9,Tc,Td,Te,Tf,Tg,Ti,Tj,Ob].getD k p0
 let dd:Nat→FuncData:=fun k=>[d0,d1,d2,d3,d4,d5,d6,d7,d8,d9,To,Tp,Tt,Tu,Tv,Tw,Tz,TF,TH,TJ,TL,TM,TN,TQ,TR,TU,TV,TX,Oc].getD k d0
 have T:Top l.prog w K mg (tb aa dd):=by
  refine ⟨fun f i hi=>(show ∀ i∈(tb aa dd).fi,mg i.name=some (.ref i.addr)∧PySem.W.keepIn K (.ref i.addr)=true∧Binds K i.fd i.ps [] from ?_) i (List.mem_of_getElem? hi),?_,?_,?_⟩
  ·refine List.forall_mem_cons.mpr ⟨F0.t X G (F0.f.binds fun _ _ _ _ _ _ us hl=>by obtain ⟨_,rfl⟩:=kc hl;rfl),?_⟩
   refine List.forall_mem_cons.mpr ⟨F1.t X G (F1.f.binds fun _ _ _ _ _ _ us hl=>by obtain ⟨_,rfl⟩:=kc hl;rfl),?_⟩
   refine List.forall_mem_cons.mpr ⟨F2.t X G (F2.f.binds fun _ _ _ _ _ _ us hl=>by obtain ⟨_,rfl⟩:=kc hl;rfl),?_⟩
   refine List.forall_mem_cons.mpr ⟨F3.t X G (F3.f.binds fun _ _ _ _ _ _ us hl=>by obtain ⟨_,rfl⟩:=kc hl;rfl),?_⟩
   refine List.forall_mem_cons.mpr ⟨F4.t X G (F4.f.binds fun _ _ _ _ _ _ us hl=>by obtain ⟨_,_,_,rfl⟩:=sE hl;rfl),?_⟩
   refine List.forall_mem_cons.mpr ⟨F5.t X G (F5.f.binds fun _ _ _ _ _ _ us hl=>by obtain ⟨_,_,rfl⟩:=iS hl;rfl),?_⟩
   refine List.forall_mem_cons.mpr ⟨F6.t X G (F6.f.binds fun _ _ _ _ _ _ us hl=>by obtain ⟨_,_,rfl⟩:=iS hl;rfl),?_⟩
   refine List.forall_mem_cons.mpr ⟨F7.t X G (F7.f.binds fun _ _ _ _ _ _ us hl=>by obtain ⟨_,rfl⟩:=kc hl;rfl),?_⟩
   refine List.forall_mem_cons.mpr ⟨F8.t X G (F8.f.binds fun _ _ _ _ _ _ us hl=>by obtain ⟨_,_,rfl⟩:=iS hl;rfl),?_⟩
   refine List.forall_mem_cons.mpr ⟨F9.t X G (F9.f.binds fun _ _ _ _ _ _ us hl=>by obtain ⟨_,_,rfl⟩:=iS hl;rfl),?_⟩
   refine List.forall_mem_cons.mpr ⟨Od.t X G (Od.f.binds fun _ _ _ _ _ _ us hl=>by obtain ⟨_,_,rfl⟩:=iS hl;rfl),?_⟩
   refine List.forall_mem_cons.mpr ⟨Oe.t X G (Oe.f.binds fun _ _ _ _ _ _ us hl=>by obtain ⟨_,_,rfl⟩:=iS hl;rfl),?_⟩
   refine List.forall_mem_cons.mpr ⟨Of.t X G (Of.f.binds fun _ _ _ _ _ _ us hl=>by obtain ⟨_,_,_,rfl⟩:=sE hl;rfl),?_⟩
   refine List.forall_mem_cons.mpr ⟨Og.t X G (Og.f.binds fun _ _ _ _ _ _ us hl=>by obtain ⟨_,rfl⟩:=kc hl;rfl),?_⟩
   refine List.forall_mem_cons.mpr ⟨Oh.t X G (Oh.f.binds fun _ _ _ _ _ _ us hl=>by obtain ⟨_,_,rfl⟩:=iS hl;rfl),?_⟩
   refine List.forall_mem_cons.mpr ⟨Oi.t X G (Oi.f.binds fun _ _ _ _ _ _ us hl=>by obtain ⟨_,rfl⟩:=kc hl;rfl),?_⟩
   refine List.forall_mem_cons.mpr ⟨Oj.t X G (Oj.f.binds fun _ _ _ _ _ _ us hl=>by obtain ⟨_,_,rfl⟩:=iS hl;rfl),?_⟩
   refine List.forall_mem_cons.mpr ⟨Ol.t X G (Ol.f.binds fun _ _ _ _ _ _ us hl=>by obtain ⟨_,_,rfl⟩:=iS hl;rfl),?_⟩
   refine List.forall_mem_cons.mpr ⟨Om.t X G (Om.f.binds fun _ _ _ _ _ _ us hl=>by obtain ⟨_,_,rfl⟩:=iS hl;rfl),?_⟩
   refine List.forall_mem_cons.mpr ⟨Oo.t X G (Oo.f.binds fun _ _ _ _ _ _ us hl=>by obtain ⟨_,rfl⟩:=kc hl;rfl),?_⟩
   refine List.forall_mem_cons.mpr ⟨Oq.t X G (Oq.f.binds fun _ _ _ _ _ _ us hl=>by obtain ⟨_,rfl⟩:=kc hl;rfl),?_⟩
   refine List.forall_mem_cons.mpr ⟨Ot.t X G (Ot.f.binds fun _ _ _ _ _ _ us hl=>by obtain ⟨_,_,_,rfl⟩:=sE hl;rfl),?_⟩
   refine List.forall_mem_cons.mpr ⟨Ou.t X G (Ou.f.binds fun _ _ _ _ _ _ us hl=>by obtain ⟨_,_,rfl⟩:=iS hl;rfl),?_⟩
   refine List.forall_mem_cons.mpr ⟨Ov.t X G (Ov.f.binds fun _ _ _ _ _ _ us hl=>by obtain ⟨_,_,rfl⟩:=iS hl;rfl),?_⟩
   refine List.forall_mem_cons.mpr ⟨Ow.t X G (Ow.f.binds fun _ _ _ _ _ _ us hl=>by obtain ⟨_,_,_,rfl⟩:=sE hl;rfl),?_⟩
   refine List.forall_mem_cons.mpr ⟨Ox.t X G (Ox.f.binds fun _ _ _ _ _ _ us hl=>by obtain ⟨_,_,_,rfl⟩:=sE hl;rfl),?_⟩
   refine List.forall_mem_cons.mpr ⟨Oz.t X G (Oz.f.binds fun _ _ _ _ _ _ us hl=>by obtain ⟨_,_,_,rfl⟩:=sE hl;rfl),?_⟩
   refine List.forall_mem_cons.mpr ⟨OA.t X G (OA.f.binds fun _ _ _ _ _ _ us hl=>by obtain ⟨_,_,rfl⟩:=iS hl;rfl),?_⟩
   refine List.forall_mem_cons.mpr ⟨CV.t X G (CV.f.binds fun _ _ _ _ _ _ us hl=>by obtain ⟨_,rfl⟩:=kc hl;rfl),?_⟩
   exact fun _ h=>nomatch h
  ·exact (show ∀ x∈oh,mg x=none from List.forall_mem_cons.mpr ⟨PySem.W.mg_none_of X G z0,List.forall_mem_cons.mpr ⟨PySem.W.mg_none_of X G z1,List.forall_mem_cons.mpr ⟨PySem.W.mg_none_of X G z2,List.forall_mem_cons.mpr ⟨PySem.W.mg_none_of X G z3,List.forall_mem_cons.mpr ⟨PySem.W.mg_none_of X G z4,List.forall_mem_cons.mpr ⟨PySem.W.mg_none_of X G z5,List.forall_mem_cons.mpr ⟨PySem.W.mg_none_of X G z6,List.forall_mem_cons.mpr ⟨PySem.W.mg_none_of X G z7,List.forall_mem_cons.mpr ⟨PySem.W.mg_none_of X G z8,fun _ h=>nomatch h⟩⟩⟩⟩⟩⟩⟩⟩⟩)
  ·exact fun x d hx=>(show ∀ y∈(tb aa dd).cs,∃ v u,mg y.1=some u∧RelV v u∧xW K y.2 v from List.forall_mem_cons.mpr ⟨⟨.str "law_pastways_k61_whole_alike",_,PySem.W.mg_of X G q0,⟨_,rfl⟩,fun _ _=>⟨by decide +kernel,by decide⟩⟩,List.forall_mem_cons.mpr ⟨⟨.ref G3,_,PySem.W.mg_of X G q1,rfl,fun _ _=>⟨G3,[V.str "a",V.str "b"],rfl,.inr ⟨_,_,_,TZ,rfl,rfl,by show 2≤sizeLine;decide,.cons ⟨_,rfl⟩ (.cons ⟨_,rfl⟩ .nil)⟩,⟨_,_,rfl,⟨by decide +kernel,by decide⟩,⟨_,_,rfl,⟨by decide +kernel,by decide⟩,rfl⟩⟩⟩⟩,fun _ h=>nomatch h⟩⟩) (x,d) hx
  ·exact fun x d hx=>(show ∀ y∈(tb aa dd).dk,∃ a,mg y.1=some (.ref a)∧∀ h:Heap,K.In h→StrTab l.prog w h a (tabOf y.2) from List.forall_mem_cons.mpr ⟨⟨G4,PySem.W.mg_of X G T3,fun h hK=>PySem.W.kt_tab_in l.prog w hK T4 (by decide +kernel) T5⟩,fun _ h=>nomatch h⟩) (x,d) hx
 refine ⟨Oc,fun s v=>?_,fun base _ _=>?_⟩
 ·obtain ⟨oc,od,kV,doc,pm,an,cdv,ct,osl,e,_⟩:=CV.f.ex;rw [e];exact .of_eq rfl
 refine BH (P:=l.prog) (w:=w) (base:=base) T (fun n A0 f i hi=>?_) 60 28 (G2 aa dd) rfl
 match f,hi with
 | 0,hi=>obtain rfl:i0 aa dd=i:=Option.some.inj hi;exact cD (i:=i0 aa dd) T A0 F0.f s0 rfl rfl (dh.get (k:=0) rfl)
 | 1,hi=>obtain rfl:i1 aa dd=i:=Option.some.inj hi;exact cD (i:=i1 aa dd) T A0 F1.f s1 rfl rfl (dh.get (k:=1) rfl)
 | 2,hi=>obtain rfl:i2 aa dd=i:=Option.some.inj hi;exact cD (i:=i2 aa dd) T A0 F2.f s2 rfl rfl (dh.get (k:=2) rfl)
 | 3,hi=>obtain rfl:i3 aa dd=i:=Option.some.inj hi;exact cD (i:=i3 aa dd) T A0 F3.f s3 rfl rfl (dh.get (k:=3) rfl)
 | 4,hi=>obtain rfl:i4 aa dd=i:=Option.some.inj hi;exact cD (i:=i4 aa dd) T A0 F4.f s4 rfl rfl (dh.get (k:=4) rfl)
 | 5,hi=>obtain rfl:i5 aa dd=i:=Option.some.inj hi;exact cD (i:=i5 aa dd) T A0 F5.f s5 rfl rfl (dh.get (k:=5) rfl)
 | 6,hi=>obtain rfl:i6 aa dd=i:=Option.some.inj hi;exact cD (i:=i6 aa dd) T A0 F6.f s6 rfl rfl (dh.get (k:=6) rfl)
 | 7,hi=>obtain rfl:i7 aa dd=i:=Option.some.inj hi;exact cD (i:=i7 aa dd) T A0 F7.f s7 rfl rfl (dh.get (k:=7) rfl)
 | 8,hi=>obtain rfl:i8 aa dd=i:=Option.some.inj hi;exact cD (i:=i8 aa dd) T A0 F8.f s8 rfl rfl (dh.get (k:=8) rfl)
 | 9,hi=>obtain rfl:i9 aa dd=i:=Option.some.inj hi;exact cD (i:=i9 aa dd) T A0 F9.f s9 rfl rfl (dh.get (k:=9) rfl)
 | 10,hi=>obtain rfl:NS aa dd=i:=Option.some.inj hi;exact cD (i:=NS aa dd) T A0 Od.f Rw rfl rfl (dh.get (k:=10) rfl)
 | 11,hi=>obtain rfl:NT aa dd=i:=Option.some.inj hi;exact cD (i:=NT aa dd) T A0 Oe.f FT rfl rfl (dh.get (k:=11) rfl)
 | 12,hi=>obtain rfl:i12 aa dd=i:=Option.some.inj hi;exact cD (i:=i12 aa dd) T A0 Of.f s12 rfl rfl (dh.get (k:=12) rfl)
 | 13,hi=>obtain rfl:NU aa dd=i:=Option.some.inj hi;exact cD (i:=NU aa dd) T A0 Og.f W0 rfl rfl (dh.get (k:=13) rfl)
 | 14,hi=>obtain rfl:NV aa dd=i:=Option.some.inj hi;exact cD (i:=NV aa dd) T A0 Oh.f W2 rfl rfl (dh.get (k:=14) rfl)
 | 15,hi=>obtain rfl:NW aa dd=i:=Option.some.inj hi;exact cD (i:=NW aa dd) T A0 Oi.f W3 rfl rfl (dh.get (k:=15) rfl)
 | 16,hi=>obtain rfl:NX aa dd=i:=Option.some.inj hi;exact cD (i:=NX aa dd) T A0 Oj.f W4 rfl rfl (dh.get (k:=16) rfl)
 | 17,hi=>obtain rfl:NY aa dd=i:=Option.some.inj hi;exact cD (i:=NY aa dd) T A0 Ol.f W5 rfl rfl (dh.get (k:=17) rfl)
 | 18,hi=>obtain rfl:NZ aa dd=i:=Option.some.inj hi;exact cD (i:=NZ aa dd) T A0 Om.f W6 rfl rfl (dh.get (k:=18) rfl)
 | 19,hi=>obtain rfl:N1 aa dd=i:=Option.some.inj hi;exact cD (i:=N1 aa dd) T A0 Oo.f W7 rfl rfl (dh.get (k:=19) rfl)
 | 20,hi=>obtain rfl:N2 aa dd=i:=Option.some.inj hi;exact cD (i:=N2 aa dd) T A0 Oq.f W8 rfl rfl (dh.get (k:=20) rfl)
 | 21,hi=>obtain rfl:N3 aa dd=i:=Option.some.inj hi;exact cD (i:=N3 aa dd) T A0 Ot.f W9 rfl rfl (dh.get (k:=21) rfl)
 | 22,hi=>obtain rfl:N4 aa dd=i:=Option.some.inj hi;exact cD (i:=N4 aa dd) T A0 Ou.f Xa rfl rfl (dh.get (k:=22) rfl)
 | 23,hi=>obtain rfl:N5 aa dd=i:=Option.some.inj hi;exact cD (i:=N5 aa dd) T A0 Ov.f Xb rfl rfl (dh.get (k:=23) rfl)
 | 24,hi=>obtain rfl:N6 aa dd=i:=Option.some.inj hi;exact cD (i:=N6 aa dd) T A0 Ow.f Xc rfl rfl (dh.get (k:=24) rfl)
 | 25,hi=>obtain rfl:N7 aa dd=i:=Option.some.inj hi;exact cD (i:=N7 aa dd) T A0 Ox.f Xd rfl rfl (dh.get (k:=25) rfl)
 | 26,hi=>obtain rfl:N8 aa dd=i:=Option.some.inj hi;exact cD (i:=N8 aa dd) T A0 Oz.f Xe rfl rfl (dh.get (k:=26) rfl)
 | 27,hi=>obtain rfl:N9 aa dd=i:=Option.some.inj hi;exact cD (i:=N9 aa dd) T A0 OA.f Xf rfl rfl (dh.get (k:=27) rfl)
 | 28,hi=>obtain rfl:G2 aa dd=i:=Option.some.inj hi;exact cD (i:=G2 aa dd) T A0 CV.f Xg rfl rfl (dh.get (k:=28) rfl)
 | j+29,hi=>exact nomatch (show (none:Option FI)=some i from hi)
end Lw
namespace Lg
open Pv
open Lw (prog NR G1 Aw Ax Ay G0 GX GY GZ Az AA AB AD)
open Ev (deep big rep cut bP)
theorem G5 (ns:List Int) (k:Int) (x:List Nat) (b:Nat) (h:x.length≤b):(chg ns k x).length≤2*b+2∧tot (chg ns k x)≤3*b+3:=by
 have h1:=nN ns k x (x.length+1)
 have h2:=tT ns k x (x.length+1)
 simp only [chg];omega
theorem nC (c:List Pt):Pv.cop .ne (ay c) (ay c)=some false:=by rw [nK,Cc];simp
theorem nI (i:Int):Pv.cop .ne (.int i) (.int i)=some false:=by rw [ur];simp
theorem nB (b:Bool):Pv.cop .ne (.bl b) (.bl b)=some false:=by rw [nK,IL];simp
theorem eN:Pv.cop .eq (.lst []) (.lst [])=some true:=by show dm deep _ _=_;rw [IP,IQ]
theorem G6 (i:Int):Ev.cC 30 i=true:=by simp [Ev.cC]
noncomputable def rV (rs:List (List Pt)):V:=.lst (rs.map ay)
structure Ro (c:List Pt) (t:List Nat):Prop where
 ft:aG c t=true
 tt:tot c≤45
 ln:c.length≤45
section
variable {w n:Nat}{ns:List Int}
theorem T6 (hw:5000<w) {one other:List Pt}{t:List Nat}(h1:Ro one t) (h2:Ro other t) (f:Bool):run prog w (n+4) 12 [.val (ay one),.val (ay other),.val (.bl f)]=some (ay (ld f one other),[]):=by
 have z1:=h1.tt
 have z2:=h2.tt
 have z3:=h1.ln
 have z4:=h2.ln
 have hc:=wL (F:=prog) (w:=w) (n:=n) (i:=14) (aE:=0) (aX:=1) (fX:=15) rfl rfl rfl rfl one other t h1.ft h2.ft (by omega) (by omega) (by omega) (by omega)
 obtain ⟨ps,p,r⟩:=Fe (F:=prog) (w:=w) (n:=n+1) (i:=12) (aE:=0) (cI:=11) (bD:=10) (fZ:=13) (aV:=4) (bH:=3) (lK:=14) rfl rfl rfl rfl rfl rfl rfl hw one other f t h1.ft h2.ft (by omega) (by omega) (by omega) (by omega) hc
 rw [P5 p];exact r
theorem bJ (hw:5000<w) {one other:List Pt}{t:List Nat}(h1:aG one t=true) (h2:aG other (aK one t)=true) (b1:tot one≤60) (b2:tot other≤60) (l1:one.length≤60) (l2:other.length≤60):∃ c,run prog w (n+3) 8 [.val (ay one),.val (ay other)]=some (ay c,[])∧Tn one other c t:=
 E3 (F:=prog) (w:=w) (n:=n) (i:=8) (aE:=0) (cI:=11) (bD:=10) (dz:=9) (aV:=4) (bH:=3) (aX:=1) (ee:=2) rfl rfl rfl rfl rfl rfl rfl rfl rfl hw one other t h1 h2 (by omega) (by omega) (by omega) (by omega)
theorem tV (c d:List Pt) (b1:tot c≤60) (b2:tot d≤60) (l1:c.length≤60) (l2:d.length≤60) (fr:Fr):dI (run prog w (n+5)) 18 [.inr (ay c),.inr (ay d)] fr=.ok (.bl (nZ c d)) fr:=
 call2 (fr:=fr) (Av (F:=prog) (w:=w) (n:=n) (i:=18) (aE:=0) (aX:=1) (fX:=15) (dj:=21) (dg:=5) (iR:=6) (fP:=22) (fQ:=20) rfl rfl rfl rfl rfl rfl rfl rfl rfl c d (by omega) (by omega) (by omega) (by omega))
theorem y9 (c d:List Pt) (b1:tot c≤60) (b2:tot d≤60) (l1:c.length≤60) (l2:d.length≤60) (fr:Fr):dI (run prog w (n+5)) 16 [.inr (ay c),.inr (ay d)] fr=.ok (.bl (decide (au c=au d))) fr:=
 call2 (fr:=fr) (CU (F:=prog) (w:=w) (n:=n+2) (i:=16) (bH:=3) (aV:=4) rfl rfl rfl c d (by omega) (by omega) (by omega) (by omega))
theorem JF {d s c r:List Pt}{t:List Nat}(S:Tn d (iQ d) s t) (R:Tn s c r t):Wi r c:=uy fun x hx=>by
 obtain ⟨h1,h2,h3⟩:=wQ R hx
 have h4:=tU (x:=x) S
 rw [h4.1] at h1
 have h5:=h4.2 h1
 rw [h5] at h2 h3
 exact ⟨h2,h3.symm⟩
theorem f_len {c:List Pt}(h:au c=c):c.length≤tot c:=by rw [←h];exact eO (fH (eE _))
noncomputable def lF (ns:List Int) (t:List Nat) (s:Sl) (l:List (Option Sl)):Fr:=some (.val (j6 ns)) :: some (.val (.str t)) :: some s :: l
section
variable (hn:ns.length≤63)
include hn
theorem Q3 (hw:5000<w) {t:List Nat}(ht:t.length≤4) {rows:List (List Pt)}(hl:rows.length≤10) (k:Nat) {a3 a4 a5 a6:Option Sl}(v3:vo a3) (v4:vo a4) (v5:vo a5) (v6:vo a6) :
  Wp (turnF (run prog w (n+5)) w (.one 3) Aw (.int (0+(k:Nat))) (lF ns t (.own (rows.map ay)) [a3,a4,a5,a6,none,none,none,none,none,none,none])) fun g fr=>g=.nx∧∃ r a3 a4 a5 a6,Ro r t∧vo a3∧vo a4∧vo a5∧vo a6∧fr=lF ns t (.own ((rows++[r]).map ay)) [a3,a4,a5,a6,none,none,none,none,none,none,none]:=by
 have b1:=G5 ns (10+30*(0+(k:Nat))) t 4 ht
 have b2:=G5 ns (200+30*(0+(k:Nat))) t 4 ht
 have f1:=yR ns (10+30*(0+(k:Nat))) t
 have f2:=yR ns (200+30*(0+(k:Nat))) t
 have c1:=fun fr=>fy (fr:=fr) (qF (F:=prog) (c:=23) (dr:=24) (t:=26) (w:=w) (n:=n+2) rfl rfl hn rfl (10+30*(0+(k:Nat))) t (by omega))
 have c2:=fun fr=>fy (fr:=fr) (qF (F:=prog) (c:=23) (dr:=24) (t:=26) (w:=w) (n:=n+2) rfl rfl hn rfl (200+30*(0+(k:Nat))) t (by omega))
 generalize chg ns (10+30*(0+(k:Nat))) t=c at b1 f1 c1
 generalize chg ns (200+30*(0+(k:Nat))) t=d at b2 f2 c2
 have ud:=fun fr=>bY (fr:=fr) (mE (F:=prog) (aV:=4) (bH:=3) (i:=7) (w:=w) (n:=n+2) rfl rfl rfl d (by omega) (by omega))
 obtain ⟨u1,u2⟩:=wu f2
 have tu:tot (iQ d)=tot d:=by simp only [iQ];rw [fV,Ct]
 have lu:(iQ d).length≤tot (iQ d):=by simp only [iQ];exact eO (fH (eE _))
 obtain ⟨s,r3,S⟩:=bJ (w:=w) (n:=n+2) hw f2 u1 (by omega) (by omega) (by omega) (by omega)
 have s1:=S.tt
 have s2:=S.ln
 have sd:aK s t=t:=(tU (x:=t) S).2 f2
 obtain ⟨r,r4,R⟩:=bJ (w:=w) (n:=n+2) hw S.fit (other:=c) (by rw [sd];exact f1) (by omega) (by omega) (by omega) (by omega)
 have t1:=R.tt
 have t2:=R.ln
 have r3:=fun fr=>call2 (fr:=fr) r3
 have r4:=fun fr=>call2 (fr:=fr) r4
 have hR:Ro r t:=⟨R.fit,by omega,by omega⟩
 have hC:Ro c t:=⟨f1,by omega,by omega⟩
 have W:=JF S R
 have dr:=fun fr=>fy (fr:=fr) (gu (F:=prog) (c:=23) (dr:=24) (w:=w) (n:=n+3) rfl rfl hn (5+(0+(k:Nat))) (many:=2) (by omega))
 have fo:=fun fr=>bY (fr:=fr) (eZ (F:=prog) (aV:=4) (i:=3) (w:=w) (n:=n+3) rfl rfl c (by omega) (by omega))
 have tf:=fV c
 have lf:=f_len (jq c)
 have a1:=fun fr=>y9 (w:=w) (n:=n) c (au c) (by omega) (by omega) (by omega) (by omega) fr
 rw [jq,decide_eq_true rfl] at a1
 have w1:=fun fr=>tV (w:=w) (n:=n) c c (by omega) (by omega) (by omega) (by omega) fr
 rw [gf.mpr (Wi.refl c)] at w1
 have w2:=fun fr=>tV (w:=w) (n:=n) c r (by omega) (by omega) (by omega) (by omega) fr
 have a2:=fun fr=>y9 (w:=w) (n:=n) c r (by omega) (by omega) (by omega) (by omega) fr
 have eq2:nZ c r=decide (au c=au r):=by
  rw [Bool.eq_iff_iff,gf,decide_eq_true_iff]
  exact ⟨fun h=>h.anti W,fun h=>sD h⟩
 rw [eq2] at w2
 refine dR (bind1 rfl v3) ?_
 refine ai (bI (aO (az rfl (av rfl) (az rfl (b9 (br rfl) (b9 (br rfl) (av rfl) (kB (G6 _))) ez) (az rfl (av rfl) aB))) (c1 _)) rfl (fE rfl v4) ?_)
 refine ai (bI (aO (az rfl (av rfl) (az rfl (b9 (br rfl) (b9 (br rfl) (av rfl) (kB (G6 _))) ez) (az rfl (av rfl) aB))) (c2 _)) rfl (fE rfl v5) ?_)
 refine ai (bI (aO (az rfl (av rfl) (az rfl (aO (az rfl (av rfl) aB) (ud _)) aB)) (r3 _)) rfl (fE rfl v6) ?_)
 have go:∀ q,Ro q t→Wi q c→Wp (exs (run prog w (n+5)) w (.cons (.iff (.orr (.nt (.cl 18 (.cons (.ix (.v 2) (.neg (.c (.int 1)))) (.cons (.v 4) .nil)))) (.orr (.nt (.cl 16 (.cons (.v 4) (.cons (.cl 3 (.cons (.v 4) .nil)) .nil)))) (.nt (.cl 18 (.cons (.v 4) (.cons (.v 4) .nil)))))) (.cons (.ret (.c (.bl false))) .nil) .nil) (.cons (.iff (.cmp .ne (.cl 18 (.cons (.v 4) (.cons (.cl 8 (.cons (.v 6) (.cons (.v 4) .nil))) .nil))) (.cl 16 (.cons (.v 4) (.cons (.cl 8 (.cons (.v 6) (.cons (.v 4) .nil))) .nil)))) (.cons (.ret (.c (.bl false))) .nil) .nil) .nil)) (lF ns t (.own (rows.map ay++[ay q])) [some (.val (.int (0+(k:Nat)))),some (.val (ay c)),some (.val (ay d)),some (.val (ay s)),none,none,none,none,none,none,none])) fun g fr=>g=.nx∧∃ r a3 a4 a5 a6,Ro r t∧vo a3∧vo a4∧vo a5∧vo a6∧fr=lF ns t (.own ((rows++[r]).map ay)) [a3,a4,a5,a6,none,none,none,none,none,none,none]:=fun q hq hW=>by
  have q1:=hq.tt
  have q2:=hq.ln
  have w3:=fun fr=>tV (w:=w) (n:=n) q c (by omega) (by omega) (by omega) (by omega) fr
  rw [gf.mpr hW] at w3
  refine ai (aM (b:=false) (fY (jI (b:=true) (aD rfl (aO (az rfl (dN (av rfl) (mh (br rfl)) ef) (az rfl (av rfl) aB)) (w3 _)) rfl)) (fY (jI (b:=true) (aD rfl (aO (az rfl (av rfl) (az rfl (aO (az rfl (av rfl) aB) (fo _)) aB)) (a1 _)) rfl)) (jI (b:=true) (aD rfl (aO (az rfl (av rfl) (az rfl (av rfl) aB)) (w1 _)) rfl)))) (fun h=>absurd h (by decide)) fun _=>aC ?_)
  refine ai (aM (b:=false) (aD rfl (bS (aO (az rfl (av rfl) (az rfl (aO (az rfl (av rfl) (az rfl (av rfl) aB)) (r4 _)) aB)) (w2 _)) (aO (az rfl (av rfl) (az rfl (aO (az rfl (av rfl) (az rfl (av rfl) aB)) (r4 _)) aB)) (a2 _)) (nB _)) rfl) (fun h=>absurd h (by decide)) fun _=>aC (aC ?_))
  exact ⟨rfl,q,_,_,_,_,hq,.val,.val,.val,.val,by rw [List.map_append];rfl⟩
 by_cases hd:cT ns (5+(0+(k:Nat))) 2=0
 ·refine ai (fC (ku rfl rfl (bg (qz (b:=true) (aD rfl (bS (aO (az rfl (av rfl) (az rfl (b9 (br rfl) (av rfl) ez) (az rfl (br rfl) aB))) (dr _)) (br rfl) z9) (decide_eq_true hd)) (fun _=>aO (az rfl (av rfl) (az rfl (av rfl) aB)) (r4 _)) fun h=>absurd h (by decide)) bw) (jR (by simp;omega))) ?_)
  exact go r hR W
 ·refine ai (fC (ku rfl rfl (bg (qz (b:=false) (aD rfl (bS (aO (az rfl (av rfl) (az rfl (b9 (br rfl) (av rfl) ez) (az rfl (br rfl) aB))) (dr _)) (br rfl) z9) (decide_eq_false hd)) (fun h=>absurd h (by decide)) fun _=>av rfl) bw) (jR (by simp;omega))) ?_)
  exact go c hC (Wi.refl c)
end
theorem tW (c:List Pt) (x:List Nat) (b1:tot c≤60) (l1:c.length≤60) (b2:x.length≤500) (fr:Fr):dI (run prog w (n+5)) 27 [.inr (ay c),.inr (.str x)] fr=.ok (oV (ou c x)) fr:=
 call2 (fr:=fr) (gR (F:=prog) (w:=w) (n:=n+1) (i:=27) (aE:=0) (dg:=5) (iR:=6) rfl rfl rfl rfl c x (by omega) (by omega) (by omega))
theorem Xl {c d:List Pt}:decide (au d=au c)=decide (au c=au d):=by
 by_cases h:au c=au d
 ·rw [decide_eq_true h,decide_eq_true h.symm]
 ·rw [decide_eq_false h,decide_eq_false fun z=>h z.symm]
theorem Q4 {t:List Nat}{rows:List (List Pt)}{one other ji:List Pt}(h1:Ro one t) (h2:Ro other t) (h3:Ro ji t) {v:V}(hv:PR one other v) {a3 a4 a5 a6 cX:Option Sl}(v11:vo cX) :
  Wp (turnF (run prog w (n+5)) w (.one 11) Ax (ay ji) (lF ns t (.val (rV rows)) [a3,a4,a5,a6,some (.val (ay one)),some (.val (ay other)),some (.val v),some (.val (.bl (decide (au one=au other)))),cX,none,none])) fun g fr=>g=.nx∧∃ cX,vo cX∧fr=lF ns t (.val (rV rows)) [a3,a4,a5,a6,some (.val (ay one)),some (.val (ay other)),some (.val v),some (.val (.bl (decide (au one=au other)))),cX,none,none]:=by
 have z1:=h1.tt
 have z2:=h1.ln
 have z3:=h2.tt
 have z4:=h2.ln
 have z5:=h3.tt
 have z6:=h3.ln
 have w1:=fun fr=>tV (w:=w) (n:=n) one other (by omega) (by omega) (by omega) (by omega) fr
 have w2:=fun fr=>tV (w:=w) (n:=n) other ji (by omega) (by omega) (by omega) (by omega) fr
 have w3:=fun fr=>tV (w:=w) (n:=n) one ji (by omega) (by omega) (by omega) (by omega) fr
 have a1:=fun fr=>y9 (w:=w) (n:=n) other ji (by omega) (by omega) (by omega) (by omega) fr
 have a2:=fun fr=>y9 (w:=w) (n:=n) one ji (by omega) (by omega) (by omega) (by omega) fr
 refine dR (bind1 rfl v11) ?_
 refine ai (aM (b:=false) (af:=lF ns t (.val (rV rows)) [a3,a4,a5,a6,some (.val (ay one)),some (.val (ay other)),some (.val v),some (.val (.bl (decide (au one=au other)))),some (.val (ay ji)),none,none]) ?_ (fun h=>absurd h (by decide)) fun _=>aC ?_)
 ·cases e1:nZ one other with
  | false=>exact iN (aD rfl (aO (az rfl (av rfl) (az rfl (av rfl) aB)) (w1 _)) e1)
  | true=>
   refine dQ (aD rfl (aO (az rfl (av rfl) (az rfl (av rfl) aB)) (w1 _)) e1) ?_
   cases e2:nZ other ji with
   | false=>exact iN (aD rfl (aO (az rfl (av rfl) (az rfl (av rfl) aB)) (w2 _)) e2)
   | true=>
    have e3:nZ one ji=true:=gf.mpr ((gf.mp e1).trans (gf.mp e2))
    exact dQ (aD rfl (aO (az rfl (av rfl) (az rfl (av rfl) aB)) (w2 _)) e2) (jI (b:=true) (aD rfl (aO (az rfl (av rfl) (az rfl (av rfl) aB)) (w3 _)) e3))
 refine ai (aM (b:=false) (af:=lF ns t (.val (rV rows)) [a3,a4,a5,a6,some (.val (ay one)),some (.val (ay other)),some (.val v),some (.val (.bl (decide (au one=au other)))),some (.val (ay ji)),none,none]) ?_ (fun h=>absurd h (by decide)) fun _=>aC (aC ⟨rfl,_,.val,rfl⟩))
 cases hv with
 | yes hne _ _=>exact iN (aD rfl (av rfl) (decide_eq_false hne))
 | no he=>
  refine dQ (aD rfl (av rfl) (decide_eq_true he)) (dQ (aD rfl (bS (av rfl) (br rfl) rfl) rfl) ?_)
  rw [he] at a2
  exact aD rfl (bS (aO (az rfl (av rfl) (az rfl (av rfl) aB)) (a1 _)) (aO (az rfl (av rfl) (az rfl (av rfl) aB)) (a2 _)) (nB _)) rfl
theorem Q5 (hw:5000<w) {t:List Nat}(ht:t.length≤4) {r0:List Pt}{rs:List (List Pt)}(hr:∀ c∈r0 :: rs,Ro c t) {one other:List Pt}(h1:Ro one t) (h2:Ro other t) {a3 a4 a5 a6 a8 a9 gS cX:Option Sl}(v8:vo a8) (v9:vo a9) (v10:vo gS) (v11:vo cX) :
  Wp (turnF (run prog w (n+5)) w (.one 8) Ay (ay other) (lF ns t (.val (rV (r0 :: rs))) [a3,a4,a5,a6,some (.val (ay one)),a8,a9,gS,cX,none,none])) fun g fr=>g=.nx∧∃ a8 a9 gS cX,vo a8∧vo a9∧vo gS∧vo cX∧fr=lF ns t (.val (rV (r0 :: rs))) [a3,a4,a5,a6,some (.val (ay one)),a8,a9,gS,cX,none,none]:=by
 have z1:=h1.tt
 have z2:=h1.ln
 have z3:=h2.tt
 have z4:=h2.ln
 have h0:=hr r0 (.head _)
 obtain ⟨v,rp,hv⟩:=xE (F:=prog) (w:=w) (n:=n) (i:=17) (aE:=0) (aX:=1) (fX:=15) (dj:=21) (dg:=5) (iR:=6) (fP:=22) (fQ:=20) rfl rfl rfl rfl rfl rfl rfl rfl rfl one other (by omega) (by omega) (by omega) (by omega)
 have rp:=fun fr=>call2 (fr:=fr) rp
 have a1:=fun fr=>y9 (w:=w) (n:=n) one other (by omega) (by omega) (by omega) (by omega) fr
 have a2:=fun fr=>y9 (w:=w) (n:=n) other one (by omega) (by omega) (by omega) (by omega) fr
 rw [Xl] at a2
 have w1:=fun fr=>tV (w:=w) (n:=n) one other (by omega) (by omega) (by omega) (by omega) fr
 have w2:=fun fr=>tV (w:=w) (n:=n) other one (by omega) (by omega) (by omega) (by omega) fr
 have u1:=fun fr=>bY (fr:=fr) (mE (F:=prog) (aV:=4) (bH:=3) (i:=7) (w:=w) (n:=n+2) rfl rfl rfl one (by omega) (by omega))
 have u2:=fun fr=>bY (fr:=fr) (mE (F:=prog) (aV:=4) (bH:=3) (i:=7) (w:=w) (n:=n+2) rfl rfl rfl other (by omega) (by omega))
 have p1:=fun fr=>fy (fr:=fr) (T6 (w:=w) (n:=n+1) hw h1 h0 true)
 have p2:=fun fr=>fy (fr:=fr) (T6 (w:=w) (n:=n+1) hw h2 h0 true)
 have yZ:eg (rV (r0 :: rs)) (.int 0)=some (ay r0):=by show eg (.lst _) _=_;rw [oG,kX (by decide)];rfl
 have mP:Pv.cop .mP v .aP=some (decide (au one=au other)):=by
  cases hv with
  | no he=>rw [decide_eq_true he];rfl
  | yes hne _ _=>rw [decide_eq_false hne];rfl
 have Xm:∀ fr:Fr,lT false fr 7=some (ay one)→lT false fr 8=some (ay other)→j0 fr (.v 7)=none→j0 fr (.v 8)=none→ev (run prog w (n+5)) true (.an (.cl 18 (.cons (.v 7) (.cons (.v 8) .nil))) (.cl 18 (.cons (.v 8) (.cons (.v 7) .nil)))) fr=.ok (.bl (decide (au one=au other))) fr:=fun fr g1 g2 i1 i2=>by
  refine Nr (b:=nZ one other) (aO (az i1 (av g1) (az i2 (av g2) aB)) (w1 _)) (fun e=>?_) fun e=>⟨?_,rfl⟩
  ·have:nZ other one=decide (au one=au other):=by
    rw [Bool.eq_iff_iff,gf,decide_eq_true_iff]
    exact ⟨fun h=>(gf.mp e).anti h,fun h=>sD h.symm⟩
   rw [←this]
   exact aO (az i2 (av g2) (az i1 (av g1) aB)) (w2 _)
  ·have:¬ au one=au other:=fun h=>by rw [gf.mpr (sD h)] at e;cases e
   rw [decide_eq_false this]
 refine dR (bind1 rfl v8) ?_
 refine ai (bI (aO (az rfl (av rfl) (az rfl (av rfl) aB)) (rp _)) rfl (fE rfl v9) ?_)
 refine ai (bI (aO (az rfl (av rfl) (az rfl (av rfl) aB)) (a1 _)) rfl (fE rfl v10) ?_)
 refine ai (aM (b:=false) (fY (aD rfl (bS (av rfl) (aO (az rfl (av rfl) (az rfl (av rfl) aB)) (a2 _)) (nB _)) rfl) (aD rfl (bS (av rfl) (bS (av rfl) (br rfl) mP) (nB _)) rfl)) (fun h=>absurd h (by decide)) fun _=>aC ?_)
 refine ai (aM (b:=false) (aD rfl (bS (av rfl) (Xm _ rfl rfl rfl rfl) (nB _)) rfl) (fun h=>absurd h (by decide)) fun _=>aC ?_)
 refine ai (aM (b:=false) (af:=lF ns t (.val (rV (r0 :: rs))) [a3,a4,a5,a6,some (.val (ay one)),some (.val (ay other)),some (.val v),some (.val (.bl (decide (au one=au other)))),cX,none,none]) ?_ (fun h=>absurd h (by decide)) fun _=>aC ?_)
 ·cases hv with
  | no he=>exact iN (aD rfl (bS (av rfl) (br rfl) rfl) rfl)
  | @yes x hne hd hx=>
   have m1:=fun fr=>tW (w:=w) (n:=n) one x (by omega) (by omega) (by omega) fr
   have m2:=fun fr=>tW (w:=w) (n:=n) other x (by omega) (by omega) (by omega) fr
   exact dQ (aD rfl (bS (av rfl) (br rfl) rfl) rfl) (aD rfl (bS (aO (az rfl (av rfl) (az rfl (av rfl) aB)) (m1 _)) (aO (az rfl (av rfl) (az rfl (av rfl) aB)) (m2 _)) (As _ _)) (decide_eq_false hd))
 have same:∀ {X Y:V} {e1 e2:Ev.E},(au one=au other→Pv.cop .ne X Y=some false)→ev (run prog w (n+5)) (kf e1 (bK e2)) e1 (lF ns t (.val (rV (r0 :: rs))) [a3,a4,a5,a6,some (.val (ay one)),some (.val (ay other)),some (.val v),some (.val (.bl (decide (au one=au other)))),cX,none,none])=.ok X (lF ns t (.val (rV (r0 :: rs))) [a3,a4,a5,a6,some (.val (ay one)),some (.val (ay other)),some (.val v),some (.val (.bl (decide (au one=au other)))),cX,none,none])→ev (run prog w (n+5)) true e2 (lF ns t (.val (rV (r0 :: rs))) [a3,a4,a5,a6,some (.val (ay one)),some (.val (ay other)),some (.val v),some (.val (.bl (decide (au one=au other)))),cX,none,none])=.ok Y (lF ns t (.val (rV (r0 :: rs))) [a3,a4,a5,a6,some (.val (ay one)),some (.val (ay other)),some (.val v),some (.val (.bl (decide (au one=au other)))),cX,none,none])→aL (run prog w (n+5)) (.an (.v 10) (.cmp .ne e1 e2)) (lF ns t (.val (rV (r0 :: rs))) [a3,a4,a5,a6,some (.val (ay one)),some (.val (ay other)),some (.val v),some (.val (.bl (decide (au one=au other)))),cX,none,none])=.ok false (lF ns t (.val (rV (r0 :: rs))) [a3,a4,a5,a6,some (.val (ay one)),some (.val (ay other)),some (.val v),some (.val (.bl (decide (au one=au other)))),cX,none,none]):=fun {X Y e1 e2} hc x1 x2=>by
  by_cases he:au one=au other
  ·exact dQ (aD rfl (av rfl) (decide_eq_true he)) (aD rfl (bS x1 x2 (hc he)) rfl)
  ·exact iN (aD rfl (av rfl) (decide_eq_false he))
 refine ai (aM (b:=false) (same (fun he=>by rw [←tS one,he,tS];exact nC _) (aO (az rfl (av rfl) aB) (u1 _)) (aO (az rfl (av rfl) aB) (u2 _))) (fun h=>absurd h (by decide)) fun _=>aC ?_)
 refine ai (aM (b:=false) (same (fun he=>by rw [U7 he rfl];exact nC _) (aO (az rfl (av rfl) (az rfl (dN (av rfl) (br rfl) yZ) (az rfl (br rfl) aB))) (p1 _)) (aO (az rfl (av rfl) (az rfl (dN (av rfl) (br rfl) yZ) (az rfl (br rfl) aB))) (p2 _))) (fun h=>absurd h (by decide)) fun _=>aC ?_)
 refine ai (jJ (vs:=(r0 :: rs).map ay) (eB (fD rfl) rfl) ?_)
 refine gb (e:=ay) (fun p l fr=>p++l=r0 :: rs∧∃ cX,vo cX∧fr=lF ns t (.val (rV (r0 :: rs))) [a3,a4,a5,a6,some (.val (ay one)),some (.val (ay other)),some (.val v),some (.val (.bl (decide (au one=au other)))),cX,none,none]) (fun p x l fr ⟨hp,cX,v11,hfr⟩=>?_) (fun p fr ⟨hp,cX,v11,hfr⟩=>?_) _ [] _ ⟨rfl,cX,v11,rfl⟩
 ·subst hfr
  have hx:x∈r0 :: rs:=by rw [←hp];simp
  refine (Q4 (w:=w) (n:=n) (ns:=ns) h1 h2 (hr x hx) hv v11).mono fun g fr ⟨hg,Xn,Xo,e⟩=>?_
  subst hg
  exact ⟨by rw [←hp,List.append_assoc];rfl,Xn,Xo,e⟩
 ·subst hfr
  exact aC ⟨rfl,_,_,_,_,.val,.val,.val,v11,rfl⟩
theorem mid (hw:5000<w) {t:List Nat}(ht:t.length≤4) {r0:List Pt}{rs:List (List Pt)}(hr:∀ c∈r0 :: rs,Ro c t) (hl:rs.length≤10) {a3 a4 a5 a6:Option Sl}(v3:vo a3) (v4:vo a4) (v5:vo a5) (v6:vo a6) :
  Wp (exs (run prog w (n+5)) w (.cons Az (.cons AA (.cons AB (.cons AD .nil)))) (lF ns t (.own ((r0 :: rs).map ay)) [a3,a4,a5,a6,none,none,none,none,none,none,none])) fun g fr=>g=.ret (.bl true)∧outs 1 fr=[]:=by
 refine ai (jJ (vs:=(r0 :: rs).map ay) (af:=lF ns t (.val (rV (r0 :: rs))) [a3,a4,a5,a6,none,none,none,none,none,none,none]) (eB (fD rfl) rfl) ?_)
 refine gb (e:=ay) (fun p l fr=>p++l=r0 :: rs∧∃ a7 a8 a9 gS cX,vo a7∧vo a8∧vo a9∧vo gS∧vo cX∧fr=lF ns t (.val (rV (r0 :: rs))) [a3,a4,a5,a6,a7,a8,a9,gS,cX,none,none]) (fun p one l fr ⟨hp,a7,a8,a9,gS,cX,v7,v8,v9,v10,v11,hfr⟩=>?_) (fun p fr ⟨hp,a7,a8,a9,gS,cX,v7,v8,v9,v10,v11,hfr⟩=>?_) _ [] _ ⟨rfl,none,none,none,none,none,.none,.none,.none,.none,.none,rfl⟩
 ·subst hfr
  have h1:one∈r0 :: rs:=by rw [←hp];simp
  have pH:(p++[one])++l=r0 :: rs:=by rw [←hp,List.append_assoc];rfl
  refine dR (bind1 rfl v7) ?_
  refine ai (jJ (vs:=(r0 :: rs).map ay) (eB (fD rfl) rfl) ?_)
  refine gb (e:=ay) (fun q m fr=>q++m=r0 :: rs∧∃ a8 a9 gS cX,vo a8∧vo a9∧vo gS∧vo cX∧fr=lF ns t (.val (rV (r0 :: rs))) [a3,a4,a5,a6,some (.val (ay one)),a8,a9,gS,cX,none,none]) (fun q other m fr ⟨hq,a8,a9,gS,cX,v8,v9,v10,v11,hfr⟩=>?_) (fun q fr ⟨hq,a8,a9,gS,cX,v8,v9,v10,v11,hfr⟩=>?_) _ [] _ ⟨rfl,a8,a9,gS,cX,v8,v9,v10,v11,rfl⟩
  ·subst hfr
   have h2:other∈r0 :: rs:=by rw [←hq];simp
   refine (Q5 (w:=w) (n:=n) (ns:=ns) hw ht hr (hr one h1) (hr other h2) v8 v9 v10 v11).mono fun g fr ⟨hg,e⟩=>?_
   subst hg
   exact ⟨by rw [←hq,List.append_assoc];rfl,e⟩
  ·subst hfr
   refine aC ?_
   rw [gm]
   exact ⟨pH,_,_,_,_,_,.val,v8,v9,v10,v11,rfl⟩
 ·subst hfr
  have bd:∀ c∈r0 :: rs,aG c t=true∧tot c≤900∧c.length≤900:=fun c hc=>⟨(hr c hc).ft,by have:=(hr c hc).tt;omega,by have:=(hr c hc).ln;omega⟩
  obtain ⟨u,r1,lu,fu⟩:=pI (F:=prog) (w:=w) (n:=n+2) (i:=19) (aE:=0) (aX:=1) (fX:=15) (dj:=21) (dg:=5) rfl rfl rfl rfl rfl rfl t r0 rs bd hl .val
  obtain ⟨u2,r2,_,_⟩:=pI (F:=prog) (w:=w) (n:=n+2) (i:=19) (aE:=0) (aX:=1) (fX:=15) (dj:=21) (dg:=5) rfl rfl rfl rfl rfl rfl t r0 [] (fun c hc=>bd c (by rw [List.mem_singleton] at hc;subst hc;exact .head _)) (by simp) .val
  have r1:=fun fr=>bY (fr:=fr) r1
  have r2:=fun fr=>bY (fr:=fr) r2
  have ff:=fun c (hc:c∈r0 :: rs) fr=>call2 (fr:=fr) (mD (F:=prog) (aE:=0) (i:=5) (w:=w) (n:=n+3) rfl rfl c u (by have:=(hr c hc).tt;omega) (by omega))
  have l1:cS .len [.str u]=some (.int (t.length:Nat)):=by rw [len_str (by omega),lu]
  have l2:cS .len [.str t]=some (.int (t.length:Nat)):=len_str (by omega)
  have yZ:eg (rV (r0 :: rs)) (.int 0)=some (ay r0):=by show eg (.lst _) _=_;rw [oG,kX (by decide)];rfl
  refine ai (bI (aO (az rfl (av rfl) aB) (r1 _)) rfl rfl ?_)
  refine ai (aM (b:=false) (fY (aD rfl (bS (av rfl) (br rfl) rfl) rfl) (aD rfl (bS (gr (bg (av rfl) bw) l1) (gr (bg (av rfl) bw) l2) (nI _)) rfl)) (fun h=>absurd h (by decide)) fun _=>aC ?_)
  have sh:gE (lF ns t (.val (rV (r0 :: rs))) [a3,a4,a5,a6,a7,a8,a9,gS,cX,some (.val (.str u)),none])=lF ns t (.val (rV (r0 :: rs))) [a3,a4,a5,a6,a7,a8,a9,gS,cX,some (.val (.str u)),none]:=by
   show _ :: _ :: _ :: [a3.map Sl.dU,a4.map Sl.dU,a5.map Sl.dU,a6.map Sl.dU,a7.map Sl.dU,a8.map Sl.dU,a9.map Sl.dU,gS.map Sl.dU,cX.map Sl.dU,_,_]=_
   rw [cP v3,cP v4,cP v5,cP v6,cP v7,cP v8,cP v9,cP v10,cP v11];rfl
  have none_:∀ {f:V→Option (Option V)} (l:List (List Pt)),(∀ a∈l,f (ay a)=some none)→cO f (l.map ay)=some []:=fun {f} l h=>by
   have:=j5 (f:=f) ay (fun _=>false) (fun _=>V.aP) l fun a ha=>by rw [h a ha];rfl
   rw [this];simp
  refine ai (bM (v:=.bl true) (af:=lF ns t (.val (rV (r0 :: rs))) [a3,a4,a5,a6,a7,a8,a9,gS,cX,some (.val (.str u)),none]) ?_ ⟨rfl,rfl⟩)
  refine (congrArg (ev _ _ _) sh).trans ?_
  exact uq (bS (iM (eB (fD rfl) rfl) rfl (none_ _ fun c hc=>rZ (b:=false) (v:=.aP) (bG:=[]) rfl (jI (b:=true) (aD rfl (aO (az rfl (av rfl) (az rfl (av rfl) aB)) (ff c hc _)) (fu c hc))) fun h=>absurd h (by decide)) lY) (oK bw lY) eN) (bS (aO (az rfl (oK (bg (dN (av rfl) (br rfl) yZ) bw) Gx) aB) (r2 _)) (br rfl) rfl)
section
variable (hn:ns.length≤63)
include hn
theorem OB (hw:5000<w):run prog w (n+6) 28 [.val (j6 ns)]=some (.bl true,[]):=by
 have ht:(txt ns 0 4).length≤4:=Jj ns 0 (most:=4) (by decide)
 have c1:=fun fr=>fy (fr:=fr) (Ef (F:=prog) (c:=23) (dr:=24) (t:=25) (w:=w) (n:=n+2) rfl rfl hn rfl 0 4 (by decide) (by decide))
 generalize txt ns 0 4=t at ht c1
 refine b7 (fn:=G1) rfl rfl ?_
 refine ai (bI (aO (az rfl (av rfl) (az rfl (br rfl) (az rfl (br rfl) aB))) (c1 _)) rfl rfl ?_)
 refine ai (gQ (l:=[]) (oK bw lY) rfl rfl ?_)
 refine ai (jJ (vs:=range 0 3) (af:=lF ns t (.own []) [none,none,none,none,none,none,none,none,none,none,none]) (qD (bg (br rfl) bw) (Eg (by omega) rfl)) ?_)
 refine yG (lo:=0) (N:=3) (fun k fr=>∃ rows a3 a4 a5 a6,rows.length=k∧(∀ c∈rows,Ro c t)∧vo a3∧vo a4∧vo a5∧vo a6∧fr=lF ns t (.own (rows.map ay)) [a3,a4,a5,a6,none,none,none,none,none,none,none]) (fun k fr hk ⟨rows,a3,a4,a5,a6,hl,hr,v3,v4,v5,v6,hfr⟩=>?_) (fun fr ⟨rows,a3,a4,a5,a6,hl,hr,v3,v4,v5,v6,hfr⟩=>?_) ⟨[],none,none,none,none,rfl,(fun c hc=>by cases hc),.none,.none,.none,.none,rfl⟩
 ·subst hfr
  refine (Q3 (w:=w) (n:=n) hn hw ht (by omega) k v3 v4 v5 v6).mono fun g fr ⟨hg,r,b3,b4,b5,b6,q,u3,u4,u5,u6,e⟩=>?_
  subst hg
  refine ⟨rows++[r],b3,b4,b5,b6,by simp [hl],fun c hc=>?_,u3,u4,u5,u6,e⟩
  rcases List.mem_append.mp hc with hc | hc
  ·exact hr c hc
  ·rw [List.mem_singleton] at hc;subst hc;exact q
 ·subst hfr
  cases rows with
  | nil=>simp at hl
  | cons r0 rs=>exact mid hw ht hr (by simp at hl;omega) v3 v4 v5 v6
end
end
theorem good:∀ ns:List Int,ns.length≤63→∃ h',Ev.run prog 100000 60 28 [.ref 0] [.bR (ns.map Ev.D.int)]=.ok (.bl true) h':=fun ns h=>IJ (OB (w:=100000) (n:=54) h (by decide))
end Lg
theorem Lw.good:∀ ns:List Int,ns.length≤63→∃ h',Ev.run Lw.prog 100000 60 28 [.ref 0] [.bR (ns.map Ev.D.int)]=.ok (.bl true) h':=Lg.good
namespace PySem.W.Fast
theorem tw2101460542688986733:True:=⟨⟩
theorem tw1703338753431619772:True:=⟨⟩
theorem tw17338404547308696754:True:=⟨⟩
theorem tw5544877344970950312:True:=⟨⟩
theorem tw9158117195285772421:True:=⟨⟩
theorem tw10568983426743388425:True:=⟨⟩
theorem tw6148236001853345466:True:=⟨⟩
theorem tw15080789823258292821:True:=⟨⟩
theorem tw3928225537770379422:True:=⟨⟩
theorem tw16523830241172322587:True:=⟨⟩
theorem tw1518027933893474428:True:=⟨⟩
theorem tw5775423385383179551:True:=⟨⟩
theorem tw16280975815085493562:True:=⟨⟩
theorem tw12433603116606938176:True:=⟨⟩
theorem tw4190298908394856474:True:=⟨⟩
theorem tw16205207367470971797:True:=⟨⟩
theorem tw5318701141111422383:True:=⟨⟩
theorem tw14487736144786603692:True:=⟨⟩
theorem tw1882481151086703237:True:=⟨⟩
theorem tw5864579556732536554:True:=⟨⟩
theorem tw9635372769684770458:True:=⟨⟩
theorem tw5508840539964409469:True:=⟨⟩
theorem tw15441156204772665887:True:=⟨⟩
theorem tw15041261001430144777:True:=⟨⟩
theorem tw1802812482490542611:True:=⟨⟩
theorem tw14883440943686019956:True:=⟨⟩
theorem tw17646686339176391207:True:=⟨⟩
theorem tw11265401039349721462:True:=⟨⟩
theorem tw5922661314439817278:True:=⟨⟩
theorem tw13647401141638516028:True:=⟨⟩
theorem tw4647767214284951435:True:=⟨⟩
theorem tw11271635839654049968:True:=⟨⟩
theorem tw14978317676599002493:True:=⟨⟩
theorem tw8984091626139791135:True:=⟨⟩
theorem tw15472418536669554006:True:=⟨⟩
theorem tw12342100113343653297:True:=⟨⟩
theorem tw3101105994756640090:True:=⟨⟩
theorem tw2449227203937170497:True:=⟨⟩
theorem tw10409435175063873119:True:=⟨⟩
theorem tw8274726467689653826:True:=⟨⟩
theorem tw11722648706196451805:True:=⟨⟩
theorem tw3313697836673863412:True:=⟨⟩
theorem tw17134637856043684824:True:=⟨⟩
theorem tw11210006011904756765:True:=⟨⟩
theorem tw13467932159381737130:True:=⟨⟩
theorem tw8246374428749456940:True:=⟨⟩
theorem tw12745146936341305075:True:=⟨⟩
theorem tw18208805707393448293:True:=⟨⟩
theorem tw1520109290016262464:True:=⟨⟩
theorem tw7098985056680606627:True:=⟨⟩
theorem tw10906302806882728466:True:=⟨⟩
theorem tw10943533962772284189:True:=⟨⟩
theorem tw10797259381411157587:True:=⟨⟩
theorem tw16924068987800664059:True:=⟨⟩
theorem tw14893985670395651894:True:=⟨⟩
theorem tw3768080273184992698:True:=⟨⟩
theorem tw1325943192104940324:True:=⟨⟩
theorem tw3453053890679209269:True:=⟨⟩
theorem tw12472459885396180083:True:=⟨⟩
theorem tw1635509017592318284:True:=⟨⟩
theorem tw14275131422209234705:True:=⟨⟩
theorem tw13474763975179536100:True:=⟨⟩
theorem tw15029550701219039549:True:=⟨⟩
theorem tw9280844073972607206:True:=⟨⟩
theorem tw15385067086190323513:True:=⟨⟩
theorem tw761787774141461816:True:=⟨⟩
theorem tw12795527166869488007:True:=⟨⟩
theorem tw7683771184270275184:True:=⟨⟩
theorem tw9449129420956296726:True:=⟨⟩
theorem tw10689405632069411490:True:=⟨⟩
theorem tw18427012758668001973:True:=⟨⟩
theorem tw895264253870429725:True:=⟨⟩
theorem tw1873102771267961543:True:=⟨⟩
theorem tw4294228090561156283:True:=⟨⟩
theorem tw637392272197169891:True:=⟨⟩
theorem tw6826837677042354848:True:=⟨⟩
theorem tw13523527654583859142:True:=⟨⟩
theorem tw10003147295498375687:True:=⟨⟩
theorem tw1676638901297498217:True:=⟨⟩
theorem tw1997293945467820258:True:=⟨⟩
theorem tw8150488530871155312:True:=⟨⟩
theorem tw14387640449785083647:True:=⟨⟩
theorem tw18108544053836103673:True:=⟨⟩
theorem tw9106633302086198416:True:=⟨⟩
theorem tw8109704140716364198:True:=⟨⟩
theorem tw8581352488895149929:True:=⟨⟩
theorem tw15517224097945516116:True:=⟨⟩
theorem tw1759137539944767548:True:=⟨⟩
theorem tw2274709670401152225:True:=⟨⟩
theorem tw2172065372048449488:True:=⟨⟩
theorem tw1327530370356959403:True:=⟨⟩
theorem tw7540578520952367951:True:=⟨⟩
theorem tw14838335262671132078:True:=⟨⟩
theorem tw14794186059307697130:True:=⟨⟩
theorem tw4878023137659365755:True:=⟨⟩
theorem tw10024579181585580188:True:=⟨⟩
theorem tw12996253099424302510:True:=⟨⟩
theorem tw1646923942321446357:True:=⟨⟩
theorem tw310181961447082972:True:=⟨⟩
theorem tw886901161829397115:True:=⟨⟩
theorem tw9017599476246717837:True:=⟨⟩
theorem tw8656159422681845972:True:=⟨⟩
theorem tw12406724137792054646:True:=⟨⟩
theorem tw16423410222303295406:True:=⟨⟩
theorem tw2813211341446597914:True:=⟨⟩
theorem tw15657912901505951316:True:=⟨⟩
theorem tw15904995432057073536:True:=⟨⟩
theorem tw14431935283946487005:True:=⟨⟩
theorem tw6473536549725200109:True:=⟨⟩
theorem tw16627351325351795569:True:=⟨⟩
theorem tw6083459277246083936:True:=⟨⟩
theorem tw1621892495265256832:True:=⟨⟩
theorem tw10242866464643211116:True:=⟨⟩
theorem tw434617386033458905:True:=⟨⟩
theorem tw12505866658065587587:True:=⟨⟩
theorem tw2706386630726325810:True:=⟨⟩
theorem tw10644483672833218840:True:=⟨⟩
theorem tw6259412127938464539:True:=⟨⟩
theorem tw10302303403888990275:True:=⟨⟩
theorem tw17182964382559527253:True:=⟨⟩
theorem tw9771306177769805471:True:=⟨⟩
theorem tw3264227120218111165:True:=⟨⟩
theorem tw457788832789106534:True:=⟨⟩
theorem tw14469643394392246496:True:=⟨⟩
theorem tw13408421682555291933:True:=⟨⟩
theorem tw14887260435396881133:True:=⟨⟩
theorem tw11050855948135927252:True:=⟨⟩
theorem tw2297540368144855747:True:=⟨⟩
theorem tw3090347818698197817:True:=⟨⟩
theorem tw12517784945510611443:True:=⟨⟩
theorem tw17232740795526218650:True:=⟨⟩
theorem tw8688151694367703828:True:=⟨⟩
theorem tw4551606346887313202:True:=⟨⟩
theorem tw15101711048825509594:True:=⟨⟩
theorem tw10358962451439127054:True:=⟨⟩
theorem tw15216311243739128588:True:=⟨⟩
theorem tw898799574962802757:True:=⟨⟩
theorem tw13410354948489291145:True:=⟨⟩
theorem tw7712868472548455049:True:=⟨⟩
theorem tw18433967290785824088:True:=⟨⟩
theorem tw8885165436241592621:True:=⟨⟩
theorem tw8699250135649981495:True:=⟨⟩
theorem tw9472397108114243357:True:=⟨⟩
theorem tw1730110647794221135:True:=⟨⟩
theorem tw12339586349338097684:True:=⟨⟩
theorem tw11490897065685894625:True:=⟨⟩
theorem tw3443576664708105622:True:=⟨⟩
theorem tw17032076989271993410:True:=⟨⟩
theorem tw4425588980613020404:True:=⟨⟩
theorem tw17379396768549839337:True:=⟨⟩
theorem tw13808864529877920170:True:=⟨⟩
theorem tw11096664207222707033:True:=⟨⟩
theorem tw6121747914025821510:True:=⟨⟩
theorem tw5224132792643747466:True:=⟨⟩
theorem tw5585073345430487335:True:=⟨⟩
theorem tw5636327587725612470:True:=⟨⟩
theorem tw3760313365743348425:True:=⟨⟩
theorem tw6599679969068953913:True:=⟨⟩
theorem tw17659983133120624799:True:=⟨⟩
theorem tw18350191150468312868:True:=⟨⟩
theorem tw16526961006945778754:True:=⟨⟩
theorem tw1807095419488353473:True:=⟨⟩
theorem tw5118154920069110347:True:=⟨⟩
theorem tw5851403247800378865:True:=⟨⟩
theorem tw18321339300519952224:True:=⟨⟩
theorem tw3459516908991103718:True:=⟨⟩
theorem tw13540227421118008047:True:=⟨⟩
theorem tw2348302550861823116:True:=⟨⟩
theorem tw10739953977977458353:True:=⟨⟩
theorem tw6500571443020996459:True:=⟨⟩
theorem tw8716560596741379700:True:=⟨⟩
theorem tw9776892983485794183:True:=⟨⟩
theorem tw16083124716134770892:True:=⟨⟩
theorem tw2440980910472451314:True:=⟨⟩
theorem tw14027114388877063382:True:=⟨⟩
theorem tw13529610515766433824:True:=⟨⟩
theorem tw15944070371329501459:True:=⟨⟩
theorem tw7507074946281750080:True:=⟨⟩
theorem tw10652484765892518272:True:=⟨⟩
theorem tw9128601964523170474:True:=⟨⟩
theorem tw7951417756105706932:True:=⟨⟩
theorem tw18015920146519921102:True:=⟨⟩
theorem tw3699125196866372281:True:=⟨⟩
theorem tw2032714058647497083:True:=⟨⟩
theorem tw13475755971544238663:True:=⟨⟩
theorem tw16415508072455412671:True:=⟨⟩
theorem tw17967488286974200428:True:=⟨⟩
theorem tw15422325780681942405:True:=⟨⟩
theorem tw2045001379697102094:True:=⟨⟩
theorem tw12627890427277617803:True:=⟨⟩
theorem tw7149762132803620611:True:=⟨⟩
theorem tw594310367054193649:True:=⟨⟩
theorem tw146271827685139674:True:=⟨⟩
theorem tw11830114837138665444:True:=⟨⟩
theorem tw13782417889074895815:True:=⟨⟩
theorem tw4593902937807303367:True:=⟨⟩
theorem tw11620615250016321421:True:=⟨⟩
theorem tw13063268765901513942:True:=⟨⟩
theorem tw10518484982632171818:True:=⟨⟩
theorem tw3711814133408411723:True:=⟨⟩
theorem tw13220622524192559578:True:=⟨⟩
theorem tw6665693838199618700:True:=⟨⟩
theorem tw2293659466342436283:True:=⟨⟩
theorem tw9146962261530390932:True:=⟨⟩
theorem tw11369474137963304641:True:=⟨⟩
theorem tw13509701838892766731:True:=⟨⟩
theorem tw13641841016210757316:True:=⟨⟩
theorem tw9291715060326749246:True:=⟨⟩
theorem tw3346080274314721041:True:=⟨⟩
theorem tw13219824482960089233:True:=⟨⟩
theorem tw13589642714550181003:True:=⟨⟩
theorem tw15417076983703910292:True:=⟨⟩
theorem tw13088759198925299025:True:=⟨⟩
theorem tw6609079496525956451:True:=⟨⟩
theorem tw17575501157690514495:True:=⟨⟩
theorem tw426742163795300757:True:=⟨⟩
theorem tw14687499975367256295:True:=⟨⟩
theorem tw2432627764016579031:True:=⟨⟩
end PySem.W.Fast
open PySem PySem.W PyProof.Rows
set_option maxRecDepth 100000 in
set_option maxHeartbeats 0 in
theorem PySem.Challenge.cw_pastways_k61_whole_alike_holds : PySem.Challenge.rw_pastways_k61_whole_alike.Holds := by
 w_on;o_law;k_head;(case hw=>w_witness2)
 k_fill
 refine Sm.Ir (F:=Lw.prog) (wh:=100000) (n:=60) (f:=28) (x:="_law_script") (l:=PySem.Challenge.rw_pastways_k61_whole_alike) rfl rfl ⟨rfl,by decide,by decide⟩ (fun w h Y=>PySem.W.kIn_of Y) Lw.good ?F
 case F=>
  intro w mg fa h KX G hmg
  refine' Lw.all_mk KX G hmg ⟨?a0,L2.bX ?l0 ?c0 ?k0⟩ ⟨?a1,L2.bX ?l1 ?c1 ?k1⟩ ⟨?a2,L2.bX ?l2 ?c2 ?k2⟩ ⟨?a3,L2.bX ?l3 ?c3 ?k3⟩ ⟨?a4,L2.bX ?l4 ?c4 ?k4⟩ ⟨?a5,L2.bX ?l5 ?c5 ?k5⟩ ⟨?a6,L2.bX ?l6 ?c6 ?k6⟩ ⟨?a7,L2.bX ?l7 ?c7 ?k7⟩ ⟨?a8,L2.bX ?l8 ?c8 ?k8⟩ ⟨?a9,L2.bX ?l9 ?c9 ?k9⟩ ⟨?gS,L2.bX ?Xz ?XA ?XC⟩ ⟨?cX,L2.bX ?XD ?XE ?XF⟩ ⟨?XG,L2.bX ?XH ?c12 ?XI⟩ ⟨?XJ,L2.bX ?XM ?XN ?XO⟩ ⟨?XQ,L2.bX ?XR ?XS ?XT⟩ ⟨?XU,L2.bX ?XW ?XX ?XY⟩ ⟨?XZ,L2.bX ?X0 ?X3 ?X4⟩ ⟨?X5,L2.bX ?X6 ?X7 ?X8⟩ ⟨?Yb,L2.bX ?Yc ?Yd ?Ye⟩ ⟨?Yg,L2.bX ?Yh ?Yi ?Yj⟩ ⟨?Yk,L2.bX ?Yl ?Ym ?Yn⟩ ⟨?Yo,L2.bX ?Yp ?Yq ?Yr⟩ ⟨?Ys,L2.bX ?Yt ?Yu ?Yv⟩ ⟨?Yw,L2.bX ?Yx ?Yy ?Yz⟩ ⟨?YA,L2.bX ?YB ?YC ?YD⟩ ⟨?YE,L2.bX ?YF ?YG ?YH⟩ ⟨?YI,L2.bX ?YJ ?YK ?YL⟩ ⟨?YM,L2.bX ?YN ?YO ?YQ⟩ ⟨?YR,L2.bX ?YS ?YT ?YU⟩ ?z0 ?z1 ?z2 ?z3 ?z4 ?z5 ?z6 ?z7 ?z8 ?q0 ?q1 ?TZ ?T3 ?T4 ?T5
  all_goals try first | k_is | rfl | decide +kernel | (with_unfolding_all rfl)

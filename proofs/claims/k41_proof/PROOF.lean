import PyProof.Rows.All
import Wide.All
import OpenK.AllK
import Wide.FinOn
import Lean
import PyProof.EqAt
import PyProof.EqKinds
import PyProof.TupleCall
import PyProof.NeKinds
import PyProof.StrLawsIn
import KE.KRevSl
import PyProof.ZipIter
import PyProof.ListRange
import PyProof.Rows.SortStr
import KE.KRevIter
import PyProof.EnumMake
import PyProof.EnumFor
import PySem.Challenge.RW_pastways_k41_whole_parts
set_option Elab.async false
set_option linter.all false
set_option maxRecDepth 100000
namespace L2
open PySem PySem.Spec PyProof.Rows
abbrev Key:=Sum Int Str
noncomputable def EV:Key→Value→Bool
 | .inl k,v=>Value.isInt k v
 | .inr x,v=>Value.isStrOf x v
noncomputable def WM (w:World):Key→Int
 | .inl k=>hashInt k
 | .inr x=>hashStr w x
theorem dF:∀ {k:Key}{v:Value},EV k v=true→(∃ i t,k=Sum.inl i∧v=Value.int i t)∨(∃ x t,k=Sum.inr x∧v=Value.str x t)
 | .inl i,v,h=>by
  obtain ⟨t,e⟩:=Value.isInt_shape (k:=i) (v:=v) h
  exact .inl ⟨i,t,rfl,e⟩
 | .inr x,v,h=>by
  obtain ⟨t,e⟩:=Value.isStrOf_shape (x:=x) (v:=v) h
  exact .inr ⟨x,t,rfl,e⟩
theorem Kd (a b:Int):decide ((Sum.inl a:Key)=Sum.inl b)=(a==b):=by
 by_cases e:a=b
 ·subst e;simp
 ·have h:¬ (Sum.inl a:Key)=Sum.inl b:=fun q=>e (Sum.inl.inj q)
  rw [decide_eq_false h]
  exact (beq_eq_false_iff_ne.mpr e).symm
theorem Ke (a b:Str):decide ((Sum.inr a:Key)=Sum.inr b)=decide (a=b):=by
 by_cases e:a=b
 ·subst e;simp
 ·have h:¬ (Sum.inr a:Key)=Sum.inr b:=fun q=>e (Sum.inr.inj q)
  rw [decide_eq_false h,decide_eq_false e]
theorem Kf (a:Int) (b:Str):decide ((Sum.inl a:Key)=Sum.inr b)=false:=decide_eq_false (fun q=>nomatch q)
theorem Kg (a:Str) (b:Int):decide ((Sum.inr a:Key)=Sum.inl b)=false:=decide_eq_false (fun q=>nomatch q)
noncomputable def qg (prog:Program) (w:World):PySem.KeyKind prog w Key where
 is:=EV
 hash:=WM w
 inj:=fun v a b ha hb=>by
  rcases dF ha with ⟨i,t,rfl,rfl⟩ | ⟨x,t,rfl,rfl⟩
  ·rcases dF hb with ⟨j,u,rfl,e⟩ | ⟨y,u,rfl,e⟩
   ·injection e with e1 _;rw [e1]
   ·exact nomatch e
  ·rcases dF hb with ⟨j,u,rfl,e⟩ | ⟨y,u,rfl,e⟩
   ·exact nomatch e
   ·injection e with e1 _;rw [e1]
 byValue:=fun k v h=>by
  rcases dF h with ⟨i,t,rfl,rfl⟩ | ⟨x,t,rfl,rfl⟩ <;> rfl
 pyHash:=fun hv h=>by
  rcases dF hv with ⟨i,t,rfl,rfl⟩ | ⟨x,t,rfl,rfl⟩
  ·exact wpAny_pyHash_int h
  ·exact wpAny_pyHash_str h
 eqBool:=fun hu hv h=>by
  rcases dF hu with ⟨i,t,rfl,rfl⟩ | ⟨x,t,rfl,rfl⟩
  ·rcases dF hv with ⟨j,u,rfl,rfl⟩ | ⟨y,u,rfl,rfl⟩
   ·rw [Kd] at h;exact wpAny_eqBool_int h
   ·rw [Kf] at h;exact SeqAt.EqAt.int_str i t y u _ _ _ _ h
  ·rcases dF hv with ⟨j,u,rfl,rfl⟩ | ⟨y,u,rfl,rfl⟩
   ·rw [Kg] at h;exact SeqAt.EqAt.str_int x t j u _ _ _ _ h
   ·rw [Ke] at h;exact wpAny_eqBool_str h
 «strs»:=fun k x t v h=>by
  rcases dF h with ⟨i,u,rfl,e⟩ | ⟨y,u,rfl,e⟩
  ·exact nomatch e
  ·injection e with e1 _
   subst e1
   cases v <;> rfl
end L2
namespace L2
open PySem PySem.Spec PyProof.Rows
inductive V where
 | bB | bl (b:Bool) | int (i:Int) | str (x:Str) | zP (b:Array UInt8) | wF (b:UInt64) | ref (a:Addr) | ty (n:String)
 deriving DecidableEq
noncomputable def RelV:V→Value→Prop
 | .bB,u=>u=Value.none
 | .bl b,u=>u=Value.bool b
 | .int i,u=>∃ t,u=Value.int i t
 | .str x,u=>∃ t,u=Value.str x t
 | .zP b,u=>∃ t,u=Value.bytes b t
 | .wF b,u=>∃ t,u=Value.float b t
 | .ref a,u=>u=Value.ref a
 | .ty n,u=>u=Value.type n
abbrev Vals:List V→List Value→Prop:=Paired RelV
theorem Vals.length {xs:List V}{us:List Value}(r:Vals xs us):xs.length=us.length:=Paired.length r
theorem Vals.get:∀ {xs:List V}{us:List Value}{i:Nat}{x:V},Vals xs us→xs[i]?=some x→∃ u,us[i]?=some u∧RelV x u
 | _,_,_,_,.nil,e=>by simp at e
 | _,_,0,_,.cons r _,e=>by simp at e;subst e;exact ⟨_,rfl,r⟩
 | _,_,i+1,x,.cons _ t,e=>by
  obtain ⟨u,h1,h2⟩:=Vals.get (i:=i) (x:=x) t (by simpa using e)
  exact ⟨u,by simpa using h1,h2⟩
theorem Vals.append:∀ {xs ys:List V}{us ws:List Value},Vals xs us→Vals ys ws→Vals (xs++ys) (us++ws)
 | _,_,_,_,.nil,s=>s
 | _,_,_,_,.cons r t,s=>.cons r (Vals.append t s)
theorem Vals.take:∀ {xs:List V}{us:List Value}(n:Nat),Vals xs us→Vals (xs.take n) (us.take n)
 | _,_,0,_=>.nil
 | _,_,_+1,.nil=>.nil
 | _,_,n+1,.cons r t=>.cons r (Vals.take n t)
theorem Vals.drop:∀ {xs:List V}{us:List Value}(n:Nat),Vals xs us→Vals (xs.drop n) (us.drop n)
 | _,_,0,r=>r
 | _,_,_+1,.nil=>.nil
 | _,_,n+1,.cons _ t=>Vals.drop n t
noncomputable def Ck:Option V→Option Value→Prop
 | some v,some u=>RelV v u
 | none,none=>True
 | _,_=>False
noncomputable def KV {κ:Type}:List (κ×V)→List (κ×Value)→Prop:=Paired fun (p:κ×V) (q:κ×Value)=>p.1=q.1∧RelV p.2 q.2
noncomputable def kV:Key→V
 | .inl i=>.int i
 | .inr x=>.str x
inductive HO where
 | lst (xs:List V)
 | tup (xs:List V)
 | dK (kvs:List (Key×V)) | dT (kvs:List (List Key×V))
 | set (S:Int→Bool) (n:Nat)
 | ins (C dx:Addr) (fs:List (Str×V))
 | own (x:Addr)
 | xd (fs:List (Str×V))
 | met (f x:Addr)
 | jb (lo hi:Int)
 | bR (o:Obj) (u:HO)
 | sX (ps:Array Value)
 | ext (φ:Heap→Prop)
abbrev Hp:=Addr→Option HO
noncomputable def upd (H:Hp) (a:Addr) (o:HO):Hp:=fun b=>if b=a then some o else H b
theorem fV {H:Hp}{a:Addr}{o:HO}:upd H a o a=some o:=by unfold upd;rw [if_pos rfl]
theorem bE {H:Hp}{a b:Addr}{o:HO}(h:b≠a):upd H a o b=H b:=by unfold upd;rw [if_neg h]
theorem oU {H:Hp}{a b:Addr}{o u:HO}(h:H a=some o) (h':H b=some u) (d:o≠u):a≠b:=by
 intro e;subst e;rw [h] at h';exact d (Option.some.inj h')
theorem cD {H:Hp}{a b:Addr}{o:HO}(h:H a=some o) (h':H b=none):a≠b:=by
 intro e;subst e;rw [h] at h';cases h'
section
variable (P:Program)(w:World)
noncomputable def dH (H:Hp) (h:Heap) (a:Addr):HO→Prop
 | .lst xs=>xs.length≤sizeLine∧∃ (its:List Value) (n:Nat),Vals xs its∧h.get? a=some { cls:=.type "list",data:=.seq its.toArray n }
 | .tup xs=>xs.length≤sizeLine∧∃ its:List Value,Vals xs its∧IsTup h a its.toArray
 | .dK kvs=>kvs.length≤sizeLine∧(a==sysModules)=false∧∃ vs,KV kvs vs∧h.DictOf (qg P w) a vs
 | .dT kvs=>kvs.length≤sizeLine∧(a==sysModules)=false∧∃ xs:List (List Key×Addr×Value),
   Paired (fun (p:List Key×V) (q:List Key×Addr×Value)=>p.1=q.1∧H q.2.1=some (.tup (p.1.map kV))∧RelV p.2 q.2.2) kvs xs∧
   ∃ o es ep,h.get? a=some o∧o.ExactDict∧o.data=.dict es ep∧es.toList=xs.map (entryOfKey (tupleKind (qg P w)))∧(xs.map (·.1)).Nodup
 | .set S n=>h.SetOf (intKind P w) a S n
 | .ins C dx fs=>H dx=some (.own a)∧fs.length≤1000∧dx≠a∧h.get? a=some (PySem.W.instObj C dx)∧
   ∃ mA,h.Ns1 dx mA∧(∀ f,Ck (fs.lookup f) (mA f))∧PySem.Within mA (fs.map (·.1))
 | .own _=>∃ o,h.get? a=some o
 | .xd fs=>∃ mA,h.Ns1 a mA∧∀ f,Ck (fs.lookup f) (mA f)
 | .jb lo hi=>∃ t u v,h.get? a=some { cls:=.type "range",data:=.fields #[.int lo t,.int hi u,.int 1 v]}
 | .bR o u=>h.get? a=some o∧dH H h a u
 | .sX ps=>h.get? a=some { cls:=.none,data:=.fields ps }
 | .met f x=>h.get? a=some (PySem.W.methodObj (.ref f) (.ref x))
 | .ext φ=>φ h∧(∃ o,h.get? a=some o)∧∀ h1 h2:Heap,φ h1→(∀ o,h1.get? a=some o→h2.get? a=some o)→φ h2
noncomputable def fO (H:Hp) (h:Heap):Prop:=∀ a o,H a=some o→dH P w H h a o
end
section
variable {P:Program}{w:World}{H H':Hp}{h h':Heap}{a:Addr}{o:HO}
theorem dH.lt (x:dH P w H h a o):a<h.objs.size:=by
 cases o with
 | lst xs=>obtain ⟨_,_,_,_,e⟩:=x;exact Heap.lt_size e
 | tup xs=>obtain ⟨_,_,_,p⟩:=x;exact p.lt
 | dK kvs=>obtain ⟨_,_,_,_,o,_,_,e,_⟩:=x;exact Heap.lt_size e
 | dT kvs=>obtain ⟨_,_,_,_,o,_,_,e,_⟩:=x;exact Heap.lt_size e
 | set S n=>obtain ⟨o,_,_,_,e,_⟩:=x;exact Heap.lt_size e
 | ins C dx fs=>obtain ⟨_,_,_,e,_⟩:=x;exact Heap.lt_size e
 | own y=>obtain ⟨_,e⟩:=x;exact Heap.lt_size e
 | xd fs=>obtain ⟨_,⟨_,_,_,e,_⟩,_⟩:=x;exact Heap.lt_size e
 | jb lo hi=>obtain ⟨_,_,_,e⟩:=x;exact Heap.lt_size e
 | bR ob u=>obtain ⟨e,_⟩:=x;exact Heap.lt_size e
 | sX ps=>exact Heap.lt_size (show h.get? a=some _ from x)
 | met f y=>exact Heap.lt_size (show h.get? a=some _ from x)
 | ext φ=>obtain ⟨_,⟨_,e⟩,_⟩:=x;exact Heap.lt_size e
theorem Paired.Kh {α β:Type}{F G:α→β→Prop}:∀ {l₁:List α}{l₂:List β},Paired F l₁ l₂→(∀ a b,F a b→G a b)→Paired G l₁ l₂
 | _,_,.nil,_=>.nil
 | _,_,.cons r t,f=>.cons (f _ _ r) (Paired.Kh t f)
theorem dH.stay (x:dH P w H h a o) (k:∀ b u,(b=a∨H b=some (.own a))→h.get? b=some u→h'.get? b=some u)
  (ho:∀ b,H b=some (.own a)→H' b=some (.own a)) (ht:∀ b xs,H b=some (.tup xs)→H' b=some (.tup xs)):dH P w H' h' a o:=by
 induction o with
 | lst xs=>obtain ⟨z,its,n,r,e⟩:=x;exact ⟨z,its,n,r,k _ _ (.inl rfl) e⟩
 | tup xs=>obtain ⟨z,its,r,ob,e,c⟩:=x;exact ⟨z,its,r,ob,k _ _ (.inl rfl) e,c⟩
 | dK kvs=>obtain ⟨z,y,vs,r,ob,es,ep,e,c⟩:=x;exact ⟨z,y,vs,r,ob,es,ep,k _ _ (.inl rfl) e,c⟩
 | dT kvs=>
  obtain ⟨z,y,xs,r,ob,es,ep,e,c⟩:=x
  exact ⟨z,y,xs,Paired.Kh r fun p q z=>⟨z.1,ht _ _ z.2.1,z.2.2⟩,ob,es,ep,k _ _ (.inl rfl) e,c⟩
 | set S n=>obtain ⟨ob,es,ep,t,e,c⟩:=x;exact ⟨ob,es,ep,t,k _ _ (.inl rfl) e,c⟩
 | ins C dx fs=>
  obtain ⟨d,z,ne,e,mA,⟨od,es,ep,e2,c⟩,r⟩:=x
  exact ⟨ho _ d,z,ne,k _ _ (.inl rfl) e,mA,⟨od,es,ep,k _ _ (.inr d) e2,c⟩,r⟩
 | own y=>obtain ⟨ob,e⟩:=x;exact ⟨ob,k _ _ (.inl rfl) e⟩
 | xd fs=>obtain ⟨mA,⟨od,es,ep,e,c⟩,r⟩:=x;exact ⟨mA,⟨od,es,ep,k _ _ (.inl rfl) e,c⟩,r⟩
 | jb lo hi=>obtain ⟨t,u,v,e⟩:=x;exact ⟨t,u,v,k _ _ (.inl rfl) e⟩
 | bR ob u ih=>obtain ⟨e,q⟩:=x;exact ⟨k _ _ (.inl rfl) e,ih q⟩
 | sX ps=>
  have e:h.get? a=some { cls:=.none,data:=.fields ps }:=x
  show h'.get? a=some { cls:=.none,data:=.fields ps }
  exact k a _ (.inl rfl) e
 | met f y=>
  have e:h.get? a=some (PySem.W.methodObj (.ref f) (.ref y)):=x
  show h'.get? a=some (PySem.W.methodObj (.ref f) (.ref y))
  exact k a _ (.inl rfl) e
 | ext φ=>obtain ⟨p,⟨o,e⟩,st⟩:=x;exact ⟨st _ _ p fun o q=>k _ _ (.inl rfl) q,⟨o,k _ _ (.inl rfl) e⟩,st⟩
theorem fO.lt (x:fO P w H h) (e:H a=some o):a<h.objs.size:=(x a o e).lt
theorem fO.fresh (x:fO P w H h) (e:h.objs.size≤a):H a=none:=by
 cases q:H a with
 | none=>rfl
 | some u=>exact absurd (Nat.lt_of_lt_of_le (x.lt q) e) (Nat.lt_irrefl _)
theorem fO.kept (x:fO P w H h) (k:∀ b u,h.get? b=some u→h'.get? b=some u):fO P w H h':=fun a o e=>
 (x a o e).stay (fun b u _ q=>k b u q) (fun _ q=>q) fun _ _ q=>q
theorem fO.laid (x:fO P w H h) (k:∀ b u,h.get? b=some u→h'.get? b=some u) (hp:h.objs.size≤a) (new:dH P w (upd H a o) h' a o):fO P w (upd H a o) h':=fun b u e=>by
 have hn:=x.fresh hp
 by_cases hb:b=a
 ·subst hb;rw [fV] at e;cases e;exact new
 ·rw [bE hb] at e
  exact (x b u e).stay (fun c v _ q=>k c v q) (fun c q=>by rw [bE (cD q hn)];exact q) fun c xs q=>by rw [bE (cD q hn)];exact q
end
noncomputable def Rd (H:Hp) (a:Addr) (u:HO):Prop:=H a=some u∨∃ o,H a=some (.bR o u)
theorem Rd.ok {P:Program}{w:World}{H:Hp}{h:Heap}{a:Addr}{u:HO}(r:Rd H a u) (x:fO P w H h):dH P w H h a u:=by
 rcases r with r | ⟨o,r⟩
 ·exact x a u r
 ·obtain ⟨_,q⟩:=x a _ r
  exact q
noncomputable def EW:Option HO→Prop
 | some (.lst _)=>True
 | some (.dK _)=>True
 | some (.dT _)=>True
 | some (.set _ _)=>True
 | some (.ins _ _ _)=>True
 | some (.ext _)=>True
 | _=>False
section
variable {P:Program}{w:World}{H:Hp}{h h':Heap}{x e:Addr}{o':HO}
theorem fO.write (ok:fO P w H h) (mu:EW (H x)) (he:e=x∨H e=some (.own x)) (k:∀ b u,b≠e→h.get? b=some u→h'.get? b=some u) (wG:∃ u,h'.get? e=some u)
  (new:dH P w (upd H x o') h' x o'):fO P w (upd H x o') h':=fun b u q=>by
 have Kl:∀ c y,H c=some (.own y)→c≠x:=fun c y r z=>by subst z;rw [r] at mu;exact mu
 have WN:∀ c xs,H c=some (.tup xs)→c≠x:=fun c xs r z=>by subst z;rw [r] at mu;exact mu
 by_cases hb:b=x
 ·subst hb;rw [fV] at q;cases q;exact new
 ·rw [bE hb] at q
  by_cases sY:b=e
  ·have q':H b=some (.own x):=by
    rcases he with z | z
    ·exact absurd (sY.trans z) hb
    ·rw [sY];exact z
   rw [q] at q';cases q'
   obtain ⟨v,hv⟩:=wG
   exact ⟨v,by rw [sY];exact hv⟩
  ·refine (ok b u q).stay (fun c v hc r=>k c v ?_ r) (fun c r=>by rw [bE (Kl c b r)];exact r) fun c xs r=>by rw [bE (WN c xs r)];exact r
   rcases hc with rfl | hc
   ·exact sY
   ·rintro rfl
    rcases he with z | z
    ·exact Kl c b hc z
    ·rw [hc] at z;cases z;exact hb rfl
end
structure Un (fs ex:List Addr) (H H':Hp) (h h':Heap):Prop where
 keep:∀ b o,h.get? b=some o→H b=none→b∉fs→b∉ex→h'.get? b=some o
 slot:∀ b o,h.get? b=some o→H b=none→b∈fs→b∉ex→∃ sl,h'.get? b=some { o with slots:=sl }
 free:∀ b o,h.get? b=some o→H b=none→b∉ex→H' b=none
 there:∀ b o,h.get? b=some o→b∉ex→∃ o',h'.get? b=some o'
 tups:∀ b xs,H b=some (.tup xs)→H' b=some (.tup xs)
 kN:∀ b o u,H b=some (.bR o u)→H' b=some (.bR o u)
 lS:∀ b ps,H b=some (.sX ps)→∃ more,H' b=some (.sX (ps++more))
section
variable {fs fs' ex ex':List Addr}{H H1 H2:Hp}{h h1 h2 h':Heap}{a x e:Addr}{o:HO}
theorem Un.any (u:Un fs ex H H1 h h1) {b:Addr}{ob:Obj}(q:h.get? b=some ob) (n:H b=none) (hx:b∉ex):∃ sl,h1.get? b=some { ob with slots:=sl }:=by
 by_cases hb:b∈fs
 ·exact u.slot b ob q n hb hx
 ·exact ⟨ob.slots,u.keep b ob q n hb hx⟩
theorem Un.kept (k:∀ b u,h.get? b=some u→h'.get? b=some u):Un fs ex H H h h':=
 ⟨fun b ob q _ _ _=>k b ob q,fun b ob q _ _ _=>⟨ob.slots,k b ob q⟩,fun _ _ _ n _=>n,fun b ob q _=>⟨ob,k b ob q⟩,fun _ _ q=>q,fun _ _ _ q=>q,fun _ ps q=>⟨#[],by rw [q];simp⟩⟩
theorem Un.refl:Un fs ex H H h h:=Un.kept fun _ _ q=>q
theorem Un.laid (k:∀ b u,h.get? b=some u→h'.get? b=some u) (hp:h.objs.size≤a) (hn:H a=none):Un fs ex H (upd H a o) h h' where
 keep:=fun b u q _ _ _=>k b u q
 slot:=fun b u q _ _ _=>⟨u.slots,k b u q⟩
 free:=fun b u q n _=>by rw [bE (Nat.ne_of_lt (Nat.lt_of_lt_of_le (Heap.lt_size q) hp))];exact n
 there:=fun b u q _=>⟨u,k b u q⟩
 tups:=fun b xs q=>by rw [bE (cD q hn)];exact q
 kN:=fun b u xs q=>by rw [bE (cD q hn)];exact q
 lS:=fun b ps q=>⟨#[],by rw [bE (cD q hn),q];simp⟩
theorem Un.write (mu:EW (H x)) (he:e=x∨H e=some (.own x)) (k:∀ b u,b≠e→h.get? b=some u→h'.get? b=some u) (wG:∃ u,h'.get? e=some u):Un fs ex H (upd H x o) h h':=by
 have hx:∀ b,H b=none→b≠x:=fun b n z=>by subst z;rw [n] at mu;exact mu
 have hb:∀ b,H b=none→b≠e:=fun b n z=>by
  subst z
  rcases he with r | r
  ·exact hx b n r
  ·rw [n] at r;cases r
 have hm:∀ b u,H b=some u→¬ EW (some u)→b≠x:=fun b u q nm z=>by subst z;rw [q] at mu;exact nm mu
 refine ⟨fun b u q n _ _=>k b u (hb b n) q,fun b u q n _ _=>⟨u.slots,k b u (hb b n) q⟩,fun b u q n _=>by rw [bE (hx b n)];exact n,fun b u q _=>?_,
  fun b xs q=>by rw [bE (hm b _ q fun z=>z)];exact q,fun b u xs q=>by rw [bE (hm b _ q fun z=>z)];exact q,fun b ps q=>⟨#[],by rw [bE (hm b _ q fun z=>z),q];simp⟩⟩
 by_cases sY:b=e
 ·subst sY;exact wG
 ·exact ⟨u,k b u sY q⟩
end
noncomputable def EX (h:Heap) (H:Hp):List Addr:=(List.range h.objs.size).filter fun a=>(H a).isSome
noncomputable def kO (h:Heap) (H:Hp):Heap:=PySem.W.hideAll h (EX h H)
theorem zQ (h:Heap) (H:Hp):(kO h H).objs.size=h.objs.size:=PySem.W.hideAll_size _ _
theorem Cm {h:Heap}{H:Hp}{b:Addr}{o:Obj}(e:h.get? b=some o) (n:H b=none):(kO h H).get? b=some o:=
 PySem.W.hideAll_get _ e fun hm=>by
  have q:(H b).isSome=true:=(List.mem_filter.mp hm).2
  rw [n] at q;simp at q
theorem HD {h:Heap}{H:Hp}{b:Addr}{o:Obj}(e:(kO h H).get? b=some o):h.get? b=some o∧H b=none:=by
 have e':h.get? b=some o:=PySem.W.of_hideAll (EX h H) e
 refine ⟨e',?_⟩
 cases q:H b with
 | none=>rfl
 | some x=>
  have hm:b∈EX h H:=List.mem_filter.mpr ⟨List.mem_range.mpr (Heap.lt_size e'),by simp [q]⟩
  have z:(kO h H).get? b=none:=PySem.W.hideAll_none (EX h H) hm
  rw [z] at e;cases e
noncomputable def HE (g h:Heap) (L:Addr):List (Addr×Obj):=(List.range h.objs.size).filterMap fun a=>if a=L∨(g.get? a).isSome=true then none else (h.get? a).map fun o=>(a,o)
noncomputable def rest (g h:Heap) (L d:Addr):List (Addr×Obj):=(HE g h L).filter fun p=>decide (p.1≠d)
end L2
namespace L2
open PySem PySem.Spec PyProof.Rows
structure Mod (K:PySem.W.Frag) (mg:Str→Option Value) (base:Heap):Prop where
 EY:K.In base
 glob:base.Ns mainGlobals mg
 blt:∃ mb,base.Ns builtinsNs mb∧∀ x:Str,x≠"__name__" →mb x=bootBuiltins x
 nolimit:base.NoLimit
structure Cx where
 prog:Program
 w:World
 K:PySem.W.Frag
 mg:Str→Option Value
 base:Heap
 A:Around
 N:List Str
 s₀:Shared
 H₀:Hp
 env:Env
 outer:List Env
 stack:List Env
 ex:List Addr
 fn:Str→Bool
 calm:Bool
 pn:List (Addr×Obj)
 xe:Value→Shared→Prop
noncomputable def frs (l:List Env):List Addr:=l.filterMap (·.frame)
noncomputable abbrev Cx.fs (X:Cx):List Addr:=frs X.outer
noncomputable def zR (sc:Scope) (x:Str):Prop:=sc.names.lookup x=some .local∨sc.names.lookup x=some .cell∨sc.names.lookup x=some .free
noncomputable def Loc (sc:Scope) (x:Str):Prop:=sc.names.lookup x=some .local∨sc.names.lookup x=some .cell
noncomputable def Look (env:Env) (h:Heap) (m:Str→Option Value) (x:Str) (u:Value):Prop:=
 (env.kindOf x=some .local∧m x=some u)∨((env.kindOf x=some .cell∨env.kindOf x=some .free)∧∃ c,env.cells.lookup x=some c∧h.IsCell c (some u))
structure Cx.Ok (X:Cx):Prop where
 mod:Mod X.K X.mg X.base
 kind:X.env.scope.kind=.function
 glob:X.env.globals=mainGlobals
 blt:X.env.builtins=builtinsNs
 above:X.s₀.heap.objs.size≤X.env.locals
 inj:∀ x y c,X.env.cells.lookup x=some c→X.env.cells.lookup y=some c→x=y
 has:∀ x,(X.env.kindOf x=some .cell∨X.env.kindOf x=some .free)→∃ c,X.env.cells.lookup x=some c
 wH:∀ x c,X.fn x=true→X.env.cells.lookup x=some c→X.s₀.heap.objs.size≤c
 hd:X.calm=true→X.A.handled=none
 frames:X.A.frames=some X.stack
 stk:X.stack=X.outer∨(X.stack=X.env :: X.outer∧X.env.frame=some X.env.locals)
 EZ:∀ b∈X.ex,b≠X.env.locals∧∀ x c,X.env.cells.lookup x=some c→c≠b
 bs:∀ b o,X.base.get? b=some o→X.s₀.heap.get? b=some o∧X.H₀ b=none
 q9:X.base.objs.size≤X.s₀.heap.objs.size
 qh:∀ b o,X.base.get? b=some o→b∉X.ex
 qi:∀ b∈X.ex,b∉X.fs
 jg:X.s₀.heap.FunFrames X.base X.outer
 sZ:∀ b∈X.fs,X.H₀ b=none
structure Inv (X:Cx) (pins:List (Addr×Obj)) (σ:List (Option V)) (H:Hp) (s:Shared):Prop where
 ok:X.Ok
 os:s.os=X.s₀.os
 bare:AllBare s.gens
 base:Un X.fs X.ex X.H₀ H X.s₀.heap s.heap
 loc:∃ m,s.heap.Ns X.env.locals m∧∀ (i:Nat) (x:Str) (v:V),X.N[i]?=some x→σ[i]?=some (some v)→zR X.env.scope x→∃ u,RelV v u∧Look X.env s.heap m x u
 cell:∀ x c,X.env.cells.lookup x=some c→∃ v,s.heap.IsCell c v
 free:H X.env.locals=none
 iU:∀ x c,X.env.cells.lookup x=some c→H c=none
 pin:∀ p∈X.pn++pins,s.heap.get? p.1=some p.2∧H p.1=none∧p.1≠X.env.locals∧p.1∉X.fs∧∀ v,p.2.data≠.cell v
 hok:fO X.prog X.w H s.heap
 len:σ.length=X.N.length
section
variable {X:Cx}{pins:List (Addr×Obj)}{σ:List (Option V)}{H H':Hp}{s:Shared}{h':Heap}
theorem Cx.Ok.WO (ok:X.Ok) {b:Addr}{o:Obj}(e:X.base.get? b=some o):b∉X.fs:=fun hb=>by
 have:=(ok.jg.mem hb).1
 rw [e] at this;cases this
theorem Inv.bs (I:Inv X pins σ H s):∀ b o,X.base.get? b=some o→s.heap.get? b=some o∧H b=none:=fun b o e=>
 ⟨I.base.keep b o (I.ok.bs b o e).1 (I.ok.bs b o e).2 (I.ok.WO e) (I.ok.qh b o e),I.base.free b o (I.ok.bs b o e).1 (I.ok.bs b o e).2 (I.ok.qh b o e)⟩
theorem Inv.bk (I:Inv X pins σ H s):∀ b o,X.base.get? b=some o→s.heap.get? b=some o:=fun b o e=>(I.bs b o e).1
theorem Inv.mod (I:Inv X pins σ H s):Mod X.K X.mg X.base:=I.ok.mod
theorem Inv.gE (I:Inv X pins σ H s):X.K.In s.heap:=I.ok.mod.EY.keeps I.bk
theorem Inv.lt (I:Inv X pins σ H s):X.env.locals<s.heap.objs.size:=let ⟨_,hn,_⟩:=I.loc;hn.lt
theorem Inv.sz (I:Inv X pins σ H s):X.s₀.heap.objs.size≤s.heap.objs.size:=Nat.le_trans I.ok.above (Nat.le_of_lt I.lt)
theorem Inv.WQ (I:Inv X pins σ H s) {a:Addr}(h:s.heap.objs.size≤a):a∉X.fs:=fun hb=>by
 obtain ⟨_,o,ho,_⟩:=I.ok.jg.mem hb
 exact absurd (Nat.lt_of_lt_of_le (Heap.lt_size ho) (Nat.le_trans I.sz h)) (Nat.lt_irrefl _)
theorem Inv.tu (I:Inv X pins σ H s):∀ x c,X.env.cells.lookup x=some c→c≠X.env.locals:=fun x c e z=>by
 obtain ⟨v,o,ho,hd⟩:=I.cell x c e
 obtain ⟨m,⟨o',es,ep,ho',hd',_⟩,_⟩:=I.loc
 rw [z,ho'] at ho;cases ho;rw [hd'] at hd;cases hd
theorem Inv.jg (I:Inv X pins σ H s):s.heap.FunFrames X.base X.outer:=by
 have all:∀ (l:List Env),(∀ b∈frs l,b∈X.fs)→X.s₀.heap.FunFrames X.base l→s.heap.FunFrames X.base l:=by
  intro l
  induction l with
  | nil=>intro _ _;trivial
  | cons env r ih=>
   intro hs hl
   obtain ⟨hk,⟨L,o,hf,hn,ho,hd⟩,hr⟩:=hl
   have hL:L∈X.fs:=hs L (by unfold frs;rw [List.filterMap_cons,hf];exact List.mem_cons_self)
   obtain ⟨sl,e⟩:=I.base.slot L o ho (I.ok.sZ L hL) hL fun z=>I.ok.qi L z hL
   exact ⟨hk,⟨L,_,hf,hn,e,hd⟩,ih (fun b hb=>hs b (by unfold frs;rw [List.filterMap_cons,hf];exact List.mem_cons_of_mem _ hb)) hr⟩
 exact all X.outer (fun _ hb=>hb) I.ok.jg
theorem Inv.stack (I:Inv X pins σ H s):s.heap.FunFrames X.base X.stack:=by
 rcases I.ok.stk with e | ⟨e,hf⟩
 ·rw [e];exact I.jg
 ·rw [e]
  obtain ⟨m,hn,_⟩:=I.loc
  refine .cons (by rw [I.ok.kind];decide) hf hn ?_ I.jg
  exact Heap.get?_none_of_le (Nat.le_trans I.ok.q9 I.ok.above)
theorem Inv.tw (I:Inv X pins σ H s):∀ b∈frs X.stack,b∈X.env.locals :: X.fs:=fun b hb=>by
 rcases I.ok.stk with e | ⟨e,hf⟩
 ·rw [e] at hb;exact List.mem_cons_of_mem _ hb
 ·rw [e] at hb
  unfold frs at hb
  rw [List.filterMap_cons,hf] at hb
  exact hb
theorem Inv.wI (I:Inv X pins σ H s):∀ b∈frs X.stack,H b=none:=fun b hb=>by
 rcases List.mem_cons.mp (I.tw b hb) with e | hb
 ·rw [e];exact I.free
 ·obtain ⟨_,o,ho,_⟩:=I.ok.jg.mem hb
  exact I.base.free b o ho (I.ok.sZ b hb) fun z=>I.ok.qi b z hb
theorem Inv.step {g':Array GenState}{t':Nat}{d':Drawn}{ch:List Addr}(I:Inv X pins σ H s)
  (hch:∀ b∈ch,(b∈X.ex∨X.s₀.heap.objs.size≤b)∧b≠X.env.locals∧(∀ x c,X.env.cells.lookup x=some c→c≠b)∧∀ p∈X.pn++pins,p.1≠b)
  (keep:∀ b o,b≠X.env.locals→b∉X.fs→b∉ch→s.heap.get? b=some o→H b=none→h'.get? b=some o)
  (slot:∀ b o,b≠X.env.locals→b∈X.fs→b∉ch→s.heap.get? b=some o→H b=none→∃ sl,h'.get? b=some { o with slots:=sl }) (free:∀ b o,b∉ch→s.heap.get? b=some o→H b=none→H' b=none)
  (there:∀ b o,b∉ch→s.heap.get? b=some o→∃ o',h'.get? b=some o')
  (tups:∀ b xs,H b=some (.tup xs)→H' b=some (.tup xs)) (kN:∀ b o u,H b=some (.bR o u)→H' b=some (.bR o u)) (lS:∀ b ps,H b=some (.sX ps)→∃ more,H' b=some (.sX (ps++more)))
  (ns:∀ m,s.heap.Ns X.env.locals m→h'.Ns X.env.locals m) (hok:fO X.prog X.w H' h') (hg:AllBare g') :
  Inv X pins σ H' { s with heap:=h',gens:=g',drawn:=d',toks:=t' }:=by
 have Uz:∀ b o,X.s₀.heap.get? b=some o→b≠X.env.locals:=fun b o e=>Nat.ne_of_lt (Nat.lt_of_lt_of_le (Heap.lt_size e) I.ok.above)
 have E1:∀ b o,X.s₀.heap.get? b=some o→b∉X.ex→b∉ch:=fun b o e hx hb=>by
  rcases (hch b hb).1 with z | z
  ·exact hx z
  ·exact absurd (Nat.lt_of_lt_of_le (Heap.lt_size e) z) (Nat.lt_irrefl _)
 have cellK:∀ x c,X.env.cells.lookup x=some c→∀ v,s.heap.IsCell c v→h'.IsCell c v:=fun x c e v ⟨o,ho,hd⟩=>by
  have zS:c∉ch:=fun z=>(hch c z).2.2.1 x c e rfl
  by_cases hc:c∈X.fs
  ·obtain ⟨sl,q⟩:=slot c o (I.tu x c e) hc zS ho (I.iU x c e)
   exact ⟨_,q,hd⟩
  ·exact ⟨o,keep c o (I.tu x c e) hc zS ho (I.iU x c e),hd⟩
 refine ⟨I.ok,I.os,hg,⟨fun b o e n hb hx=>?_,fun b o e n hb hx=>?_,fun b o e n hx=>?_,fun b o e hx=>?_,fun b xs e=>tups b xs (I.base.tups b xs e),fun b o xs e=>kN b o xs (I.base.kN b o xs e),fun b ps e=>?_⟩,?_,fun x c e=>?_,?_,fun x c e=>?_,fun p hp=>?_,hok,I.len⟩
 ·exact keep b o (Uz b o e) hb (E1 b o e hx) (I.base.keep b o e n hb hx) (I.base.free b o e n hx)
 ·obtain ⟨sl,e1⟩:=I.base.slot b o e n hb hx
  obtain ⟨ZA,e2⟩:=slot b _ (Uz b o e) hb (E1 b o e hx) e1 (I.base.free b o e n hx)
  exact ⟨ZA,e2⟩
 ·obtain ⟨o',e1⟩:=I.base.there b o e hx
  exact free b o' (E1 b o e hx) e1 (I.base.free b o e n hx)
 ·obtain ⟨o',e1⟩:=I.base.there b o e hx
  exact there b o' (E1 b o e hx) e1
 ·obtain ⟨m1,e1⟩:=I.base.lS b ps e
  obtain ⟨m2,e2⟩:=lS b _ e1
  exact ⟨m1++m2,by rw [e2,Array.append_assoc]⟩
 ·obtain ⟨m,hn,hl⟩:=I.loc
  refine ⟨m,ns m hn,fun i x v e1 e2 e3=>?_⟩
  obtain ⟨u,r,l⟩:=hl i x v e1 e2 e3
  refine ⟨u,r,?_⟩
  rcases l with l | ⟨k,c,e,z⟩
  ·exact .inl l
  ·exact .inr ⟨k,c,e,cellK x c e _ z⟩
 ·obtain ⟨v,z⟩:=I.cell x c e
  exact ⟨v,cellK x c e v z⟩
 ·obtain ⟨m,⟨o,_,_,ho,_⟩,_⟩:=I.loc
  exact free _ o (fun z=>(hch _ z).2.1 rfl) ho I.free
 ·obtain ⟨v,o,ho,hd⟩:=I.cell x c e
  exact free c o (fun z=>(hch c z).2.2.1 x c e rfl) ho (I.iU x c e)
 ·obtain ⟨e,n,ne,nf,d⟩:=I.pin p hp
  have zS:p.1∉ch:=fun z=>(hch p.1 z).2.2.2 p hp rfl
  exact ⟨keep p.1 p.2 ne nf zS e n,free p.1 p.2 zS e n,ne,nf,d⟩
theorem Inv.un {t':Nat}(I:Inv X pins σ H s) (u:Un X.fs [] H H' s.heap h') (hok:fO X.prog X.w H' h'):Inv X pins σ H' { s with heap:=h',toks:=t' }:=by
 obtain ⟨m,⟨o,es,ep,ho,r⟩,_⟩:=id I.loc
 obtain ⟨sl,hL⟩:=u.any ho I.free (by simp)
 exact I.step (g':=s.gens) (d':=s.drawn) (ch:=[]) (fun _ z=>nomatch z) (fun b o _ hb _ e n=>u.keep b o e n hb (by simp)) (fun b o _ hb _ e n=>u.slot b o e n hb (by simp)) (fun b o _ e n=>u.free b o e n (by simp)) (fun b o _ e=>u.there b o e (by simp)) u.tups u.kN u.lS (fun m' hm=>by
  obtain ⟨o',es',Km,ho',r'⟩:=hm
  rw [ho] at ho';cases ho'
  exact ⟨_,es',Km,hL,r'⟩) hok I.bare
theorem Inv.call {g':Array GenState}{t':Nat}{d':Drawn}{ch:List Addr}(I:Inv X pins σ H s) (u:Un (frs X.stack) ch H H' s.heap h') (hok:fO X.prog X.w H' h') (hg:AllBare g')
  (hch:∀ b∈ch,(b∈X.ex∨X.s₀.heap.objs.size≤b)∧b≠X.env.locals∧(∀ x c,X.env.cells.lookup x=some c→c≠b)∧∀ p∈X.pn++pins,p.1≠b) :
  Inv X pins σ H' { s with heap:=h',gens:=g',drawn:=d',toks:=t' }:=by
 obtain ⟨m,⟨o,es,ep,ho,r⟩,_⟩:=id I.loc
 obtain ⟨sl,hL⟩:=u.any ho I.free fun z=>(hch _ z).2.1 rfl
 exact I.step (ch:=ch) hch (fun b o hL hb hc e n=>u.keep b o e n (fun z=>(List.mem_cons.mp (I.tw b z)).elim hL hb) hc) (fun b o _ _ hc e n=>u.any e n hc) (fun b o hc e n=>u.free b o e n hc) (fun b o hc e=>u.there b o e hc) u.tups u.kN u.lS (fun m' hm=>by
  obtain ⟨o',es',Km,ho',r'⟩:=hm
  rw [ho] at ho';cases ho'
  exact ⟨_,es',Km,hL,r'⟩) hok hg
theorem Inv.turned {t':Nat}{it:Addr}(I:Inv X pins σ H s)(k:∀ b o,b≠it→s.heap.get? b=some o→h'.get? b=some o)(hn:H it=none)(hL:it≠X.env.locals)
  (h1:it∈X.ex∨X.s₀.heap.objs.size≤it) (h2:∀ x c,X.env.cells.lookup x=some c→c≠it) (h3:∀ p∈X.pn++pins,p.1≠it):Inv X pins σ H { s with heap:=h',toks:=t' }:=by
 have zU:∀ b u,H b=some u→b≠it:=fun b u e z=>by rw [z,hn] at e;cases e
 refine I.step (g':=s.gens) (d':=s.drawn) (ch:=[it]) (fun b hb=>?_) (fun b o _ _ hc e _=>k b o (fun z=>hc (by simp [z])) e) (fun b o _ _ hc e _=>⟨o.slots,k b o (fun z=>hc (by simp [z])) e⟩) (fun _ _ _ _ n=>n)
  (fun b o hc e=>⟨o,k b o (fun z=>hc (by simp [z])) e⟩) (fun _ _ e=>e) (fun _ _ _ e=>e) (fun b ps e=>⟨#[],by rw [e];simp⟩) (fun m hm=>?_) (fun b u e=>?_) I.bare
 ·have e:b=it:=by simpa using hb
  subst e
  exact ⟨h1,hL,h2,h3⟩
 ·obtain ⟨o,es,ep,ho,r⟩:=hm
  exact ⟨o,es,ep,k _ o (Ne.symm hL) ho,r⟩
 ·refine (I.hok b u e).stay (fun c v hc q=>k c v ?_ q) (fun _ q=>q) fun _ _ q=>q
  rcases hc with z | z
  ·rw [z];exact zU b u e
  ·exact zU c _ z
theorem Inv.tok (I:Inv X pins σ H s) (t:Nat):Inv X pins σ H { s with toks:=t }:=I.un (h':=s.heap) (t':=t) Un.refl I.hok
theorem Inv.kept {t':Nat}(I:Inv X pins σ H s) (k:∀ b u,s.heap.get? b=some u→h'.get? b=some u):Inv X pins σ H { s with heap:=h',toks:=t' }:=I.un (Un.kept k) (I.hok.kept k)
theorem Inv.laid {a:Addr}{o:HO}{t':Nat}(I:Inv X pins σ H s) (k:∀ b u,s.heap.get? b=some u→h'.get? b=some u) (hp:s.heap.objs.size≤a) (new:dH X.prog X.w (upd H a o) h' a o) :
  Inv X pins σ (upd H a o) { s with heap:=h',toks:=t' }:=I.un (Un.laid k hp (I.hok.fresh hp)) (I.hok.laid k hp new)
theorem Inv.write {x e:Addr}{o:HO}{t':Nat}(I:Inv X pins σ H s) (mu:EW (H x)) (he:e=x∨H e=some (.own x)) (k:∀ b u,b≠e→s.heap.get? b=some u→h'.get? b=some u) (wG:∃ u,h'.get? e=some u)
  (new:dH X.prog X.w (upd H x o) h' x o):Inv X pins σ (upd H x o) { s with heap:=h',toks:=t' }:=I.un (Un.write mu he k wG) (I.hok.write mu he k wG new)
theorem Inv.wJ {E2:List (Addr×Obj)}(I:Inv X pins σ H s) (h:∀ p∈E2,s.heap.get? p.1=some p.2∧H p.1=none∧p.1≠X.env.locals∧p.1∉X.fs∧∀ v,p.2.data≠.cell v):Inv X E2 σ H s:=
 ⟨I.ok,I.os,I.bare,I.base,I.loc,I.cell,I.free,I.iU,fun p hp=>(List.mem_append.mp hp).elim (fun z=>I.pin p (List.mem_append_left _ z)) (h p),I.hok,I.len⟩
theorem tB {N:List Str}(hN:N.Nodup) {i j:Nat}{x:Str}(a:N[i]?=some x) (b:N[j]?=some x):i=j:=by
 obtain ⟨h1,e1⟩:=List.getElem?_eq_some_iff.mp a
 obtain ⟨h2,e2⟩:=List.getElem?_eq_some_iff.mp b
 exact (List.getElem_inj hN).mp (e1.trans e2.symm)
theorem ri {M:Model}{A:Around}{E:Value→Shared→Prop}{i:Nat}{x:Str}{v:V}{u:Value}{Q:Unit→Shared→Prop}(I:Inv X pins σ H s) (hN:X.N.Nodup) (hi:X.N[i]?=some x) (hx:Loc X.env.scope x) (r:RelV v u)
  (h:∀ s',Inv X pins (σ.set i (some v)) H s'→(∃ a,Heap.SameBut a s.heap s'.heap∧(a=X.env.locals∨X.env.cells.lookup x=some a))→Q () s') (hf:X.fn x=true∨X.env.scope.names.lookup x=some .local:=by first | exact .inl rfl | exact .inr rfl | assumption):wpAny M A (storeName X.env x u) Q E s:=by
 obtain ⟨m,hn,hl⟩:=id I.loc
 have hcls:(X.env.scope.kind==.class || (X.env.scope.kind==.module&&X.env.locals != X.env.globals))=false:=by rw [I.ok.kind];rfl
 have Kn:i<σ.length:=by rw [I.len];exact (List.getElem?_eq_some_iff.mp hi).1
 have tu:=I.tu
 have tracked:∀ {a:Addr} {h':Heap},(∃ o,s.heap.get? a=some o∧H a=none)→Heap.SameBut a s.heap h'→fO X.prog X.w H h':=fun {a h'} ha hs b ob e=>by
  obtain ⟨_,_,hfree⟩:=ha
  refine (I.hok b ob e).stay (fun c w' hc q=>(hs.2 c ?_).trans q) (fun _ q=>q) fun _ _ q=>q
  rintro rfl
  rcases hc with rfl | hc
  ·rw [hfree] at e;cases e
  ·rw [hfree] at hc;cases hc
 rcases hx with hk | hk
 ·refine wpAny_storeName_local hk hn (fun h' hn' hs=>?_) hcls
  obtain ⟨oL,_,_,ZC,_⟩:=id hn
  refine h _ ⟨I.ok,I.os,I.bare,⟨fun b o e n hb hx=>?_,fun b o e n hb hx=>?_,I.base.free,fun b o e hx=>?_,I.base.tups,I.base.kN,I.base.lS⟩,⟨_,hn',fun j y v' e1 e2 e3=>?_⟩,fun y c e=>?_,I.free,I.iU,fun p hp=>?_,tracked ⟨oL,ZC,I.free⟩ hs,by simpa using I.len⟩ ⟨_,hs,.inl rfl⟩
  ·exact (hs.2 b (Nat.ne_of_lt (Nat.lt_of_lt_of_le (Heap.lt_size e) I.ok.above))).trans (I.base.keep b o e n hb hx)
  ·obtain ⟨sl,e1⟩:=I.base.slot b o e n hb hx
   exact ⟨sl,(hs.2 b (Nat.ne_of_lt (Nat.lt_of_lt_of_le (Heap.lt_size e) I.ok.above))).trans e1⟩
  ·obtain ⟨o',e1⟩:=I.base.there b o e hx
   exact ⟨o',(hs.2 b (Nat.ne_of_lt (Nat.lt_of_lt_of_le (Heap.lt_size e) I.ok.above))).trans e1⟩
  ·by_cases hj:j=i
   ·subst hj
    rw [hi] at e1;cases e1
    rw [List.getElem?_set_self Kn] at e2
    cases e2
    exact ⟨u,r,.inl ⟨hk,by simp⟩⟩
   ·rw [List.getElem?_set_ne (Ne.symm hj)] at e2
    obtain ⟨u',r',q⟩:=hl j y v' e1 e2 e3
    refine ⟨u',r',?_⟩
    rcases q with ⟨k,e⟩ | ⟨k,c,e,z⟩
    ·refine .inl ⟨k,?_⟩
     have:y≠x:=fun e=>hj (tB hN e1 (e▸hi))
     simp [this,e]
    ·exact .inr ⟨k,c,e,z.sameBut hs (tu y c e)⟩
  ·obtain ⟨w',z⟩:=I.cell y c e
   exact ⟨w',z.sameBut hs (tu y c e)⟩
  ·obtain ⟨e,n,ne,nf,d⟩:=I.pin p hp
   exact ⟨(hs.2 p.1 ne).trans e,n,ne,nf,d⟩
 ·have hfn:X.fn x=true:=by
   rcases hf with z | z
   ·exact z
   ·rw [z] at hk;cases hk
  obtain ⟨c,hc⟩:=I.ok.has x (.inl hk)
  obtain ⟨w',z⟩:=I.cell x c hc
  refine wpAny_storeName_cell I.ok.kind hk hc z (fun h' hc' hs=>?_)
  obtain ⟨oc,hoc,WR⟩:=id z
  refine h { s with heap:=h' } ⟨I.ok,I.os,I.bare,⟨fun b o e n hb hx=>?_,fun b o e n hb hx=>?_,I.base.free,fun b o e hx=>?_,I.base.tups,I.base.kN,I.base.lS⟩,⟨m,hn.sameBut hs (Ne.symm (tu x c hc)),fun j y v' e1 e2 e3=>?_⟩,fun y c' e=>?_,I.free,I.iU,fun p hp=>?_,tracked ⟨oc,hoc,I.iU x c hc⟩ hs,by simpa using I.len⟩ ⟨c,hs,.inr hc⟩
  ·exact (hs.2 b (Nat.ne_of_lt (Nat.lt_of_lt_of_le (Heap.lt_size e) (I.ok.wH x c hfn hc)))).trans (I.base.keep b o e n hb hx)
  ·obtain ⟨sl,e1⟩:=I.base.slot b o e n hb hx
   exact ⟨sl,(hs.2 b (Nat.ne_of_lt (Nat.lt_of_lt_of_le (Heap.lt_size e) (I.ok.wH x c hfn hc)))).trans e1⟩
  ·obtain ⟨o',e1⟩:=I.base.there b o e hx
   exact ⟨o',(hs.2 b (Nat.ne_of_lt (Nat.lt_of_lt_of_le (Heap.lt_size e) (I.ok.wH x c hfn hc)))).trans e1⟩
  ·by_cases hj:j=i
   ·subst hj
    rw [hi] at e1;cases e1
    rw [List.getElem?_set_self Kn] at e2
    cases e2
    exact ⟨u,r,.inr ⟨.inl hk,c,hc,hc'⟩⟩
   ·rw [List.getElem?_set_ne (Ne.symm hj)] at e2
    obtain ⟨u',r',q⟩:=hl j y v' e1 e2 e3
    refine ⟨u',r',?_⟩
    rcases q with q | ⟨k,c',e,z'⟩
    ·exact .inl q
    ·refine .inr ⟨k,c',e,z'.sameBut hs ?_⟩
     rintro rfl
     exact hj (tB hN e1 (I.ok.inj _ _ _ e hc▸hi))
  ·by_cases hcc:c'=c
   ·subst hcc;exact ⟨_,hc'⟩
   ·obtain ⟨w2,z2⟩:=I.cell y c' e
    exact ⟨w2,z2.sameBut hs hcc⟩
  ·obtain ⟨e,n,ne,nf,d⟩:=I.pin p hp
   refine ⟨(hs.2 p.1 ?_).trans e,n,ne,nf,d⟩
   intro q
   rw [q,hoc] at e
   have q':oc=p.2:=Option.some.inj e
   exact d w' (by rw [←q'];exact WR)
theorem tD {M:Model}{A:Around}{E:Value→Shared→Prop}{i:Nat}{x:Str}{v:V}{u:Value}{Q:Unit→Shared→Prop}(I:Inv X pins σ H s) (hN:X.N.Nodup) (hi:X.N[i]?=some x) (hx:Loc X.env.scope x) (r:RelV v u)
  (h:∀ s',Inv X pins (σ.set i (some v)) H s'→Q () s') (hf:X.fn x=true∨X.env.scope.names.lookup x=some .local:=by first | exact .inl rfl | exact .inr rfl | assumption):wpAny M A (storeName X.env x u) Q E s:=
 ri I hN hi hx r (fun s' I' _=>h s' I') hf
theorem Inv.Rj {s':Shared}{ch:List Addr}(I:Inv X pins σ H s) (ho:s'.os=s.os) (u:Un (frs X.stack) ch H H' s.heap s'.heap) (hok:fO X.prog X.w H' s'.heap) (hg:AllBare s'.gens)
  (hch:∀ b∈ch,(b∈X.ex∨X.s₀.heap.objs.size≤b)∧b≠X.env.locals∧(∀ x c,X.env.cells.lookup x=some c→c≠b)∧∀ p∈X.pn++pins,p.1≠b):Inv X pins σ H' s':=by
 obtain ⟨h',g',d',t',o'⟩:=s'
 have e:o'=s.os:=ho
 subst e
 exact I.call (g':=g') (t':=t') (d':=d') u hok hg hch
end
abbrev XK:=Value→Option Addr→Hp→Prop
abbrev St:=List (Option V)
abbrev VK:=V→Hp→Prop
abbrev TE:=St→Hp→VK→Prop
abbrev TT:=St→Hp→(Bool→Hp→Prop)→Prop
abbrev TA:=St→Hp→(List V→Hp→Prop)→Prop
structure Ends where
 nx:St→Hp→Prop
 rt:VK
 bk:St→Hp→Prop:=fun _ _=>False
 ct:St→Hp→Prop:=fun _ _=>False
abbrev TS:=Ends→St→Hp→Prop
noncomputable def EP (X:Cx) (pins:List (Addr×Obj)) (σ:St) (Q:VK) (u:Value) (s':Shared):Prop:=∃ v H',Inv X pins σ H' s'∧RelV v u∧Q v H'
noncomputable def TP (X:Cx) (pins:List (Addr×Obj)) (σ:St) (Q:Bool→Hp→Prop) (b:Bool) (s':Shared):Prop:=∃ H',Inv X pins σ H' s'∧Q b H'
noncomputable def AP (X:Cx) (pins:List (Addr×Obj)) (σ:St) (Q:List V→Hp→Prop) (us:List Value) (s':Shared):Prop:=∃ vs H',Inv X pins σ H' s'∧Vals vs us∧Q vs H'
noncomputable def SP (X:Cx) (pins:List (Addr×Obj)) (D:Ends) (f:Flow) (s':Shared):Prop:=
 match f with
 | .next=>∃ σ' H',Inv X pins σ' H' s'∧D.nx σ' H'
 | .brk=>∃ σ' H',Inv X pins σ' H' s'∧D.bk σ' H'
 | .cont=>∃ σ' H',Inv X pins σ' H' s'∧D.ct σ' H'
 | .ret u=>∃ v σ' H',Inv X pins σ' H' s'∧RelV v u∧D.rt v H'
noncomputable def PE (X:Cx) (e:Expr) (t:TE):Prop:=
 ∀ (pins:List (Addr×Obj)) (s:Shared) (σ:St) (H:Hp) (Q:VK),Inv X pins σ H s→t σ H Q→wpAny (model X.prog X.w) X.A (eval e X.env) (EP X pins σ Q) X.xe s
noncomputable def PT (X:Cx) (e:Expr) (t:TT):Prop:=
 ∀ (pins:List (Addr×Obj)) (s:Shared) (σ:St) (H:Hp) (Q:Bool→Hp→Prop),Inv X pins σ H s→t σ H Q→wpAny (model X.prog X.w) X.A (isTrue e X.env (eval e X.env)) (TP X pins σ Q) X.xe s
noncomputable def PW (X:Cx) (e:Expr) (t:TT):Prop:=
 ∀ (whole:Sem Value) (pins:List (Addr×Obj)) (s:Shared) (σ:St) (H:Hp) (Q:Bool→Hp→Prop),Inv X pins σ H s→t σ H Q→wpAny (model X.prog X.w) X.A (isTrue e X.env whole) (TP X pins σ Q) X.xe s
theorem PW.pt {X:Cx}{e:Expr}{t:TT}(h:PW X e t):PT X e t:=h _
noncomputable def PA (X:Cx) (es:List Expr) (t:TA):Prop:=
 ∀ (pos:Pos) (pins:List (Addr×Obj)) (s:Shared) (σ:St) (H:Hp) (Q:List V→Hp→Prop),Inv X pins σ H s→t σ H Q→wpAny (model X.prog X.w) X.A (spliced (backTo pos (starEach es X.env))) (AP X pins σ Q) X.xe s
noncomputable def PS (X:Cx) (st:Stmt) (t:TS):Prop:=
 ∀ (pins:List (Addr×Obj)) (s:Shared) (σ:St) (H:Hp) (D:Ends),Inv X pins σ H s→t D σ H→wpAny (model X.prog X.w) X.A (exec st X.env) (SP X pins D) X.xe s
noncomputable def iK (X:Cx) (st:List Stmt) (t:TS):Prop:=
 ∀ (pins:List (Addr×Obj)) (s:Shared) (σ:St) (H:Hp) (D:Ends),Inv X pins σ H s→t D σ H→wpAny (model X.prog X.w) X.A (execs st X.env) (SP X pins D) X.xe s
theorem bS {α:Type}{t:Sem α}{Q Q':α→Shared→Prop}{M:Model}{A:Around}{E:Value→Shared→Prop}{s:Shared}(h:wpAny M A t Q E s) (hQ:∀ a s,Q a s→Q' a s):wpAny M A t Q' E s:=wpAny_mono h hQ fun _ _ x=>x
end L2
namespace L2
open PySem PySem.Spec PyProof.Rows
section
variable {X:Cx}
theorem bin {a b:Expr}{ta tb:TE}(ha:PE X a ta) (hb:PE X b tb) {pins:List (Addr×Obj)}{s:Shared}{σ:St}{H:Hp}{R:V→V→Hp→Prop}(I:Inv X pins σ H s) (h:ta σ H fun x H1=>tb σ H1 fun y H2=>R x y H2)
  {α:Type} {Q:α→Shared→Prop} {f:Value→Value→Sem α}
  (hf:∀ v u s2 x y H2,Inv X pins σ H2 s2→RelV x v→RelV y u→R x y H2→wpAny (model X.prog X.w) X.A (f v u) Q X.xe s2) :
  wpAny (model X.prog X.w) X.A (eval a X.env) (fun v s₁=>wpAny (model X.prog X.w) X.A (eval b X.env) (fun u s₂=>wpAny (model X.prog X.w) X.A (f v u) Q X.xe s₂) X.xe s₁) X.xe s:=by
 refine bS (ha pins s σ H _ I h) fun v s1 ⟨x,H1,I1,r1,q1⟩=>?_
 refine bS (hb pins s1 σ H1 _ I1 q1) fun u s2 ⟨y,H2,I2,r2,q2⟩=>?_
 exact hf v u s2 x y H2 I2 r1 r2 q2
noncomputable def Ko (i:Nat):TE:=fun σ H Q=>∃ v,σ[i]?=some (some v)∧Q v H
noncomputable def tC (v:V):TE:=fun _ H Q=>Q v H
theorem zV {i:Nat}{x:Str}{pos:Pos}(hN:X.N[i]?=some x) (hv:zR X.env.scope x) (hd:(x==("__debug__" : Str))=false:=by decide) (hcd:(x==("__classdict__" : Str))=false:=by decide):PE X (.Name x pos) (Ko i):=by
 intro pins s σ H Q I h
 obtain ⟨v,e,h⟩:=h
 obtain ⟨m,hn,hl⟩:=I.loc
 obtain ⟨u,r,l⟩:=hl i x v hN e hv
 have fin:EP X pins σ Q u s:=⟨v,H,I,r,h⟩
 rcases l with ⟨hk,hm⟩ | ⟨hk,c,hc,hcell⟩
 ·exact wpAny_Name (wpAny_loadName_local I.ok.kind hk hn hm fin) hd
 ·rcases hk with hk | hk
  ·exact wpAny_Name (wpAny_loadName_cell I.ok.kind hk hc hcell fin) hd
  ·exact wpAny_Name (wpAny_loadName_free I.ok.kind hk hc hcell fin hcd) hd
theorem Kp {i j pos}:PE X (.Constant (.int i) j pos) (tC (.int i)):=fun _ _ _ H _ I h=>wpAny_Constant_int ⟨.int i,H,I.tok _,⟨_,rfl⟩,h⟩
theorem Rk {b j pos}:PE X (.Constant (.bool b) j pos) (tC (.bl b)):=fun _ _ _ H _ I h=>Constant_bool ⟨.bl b,H,I,rfl,h⟩
theorem Kq {x j pos}:PE X (.Constant (.str x) j pos) (tC (.str x)):=fun _ _ _ H _ I h=>Calls.Constant_str ⟨.str x,H,I.tok _,⟨_,rfl⟩,h⟩
noncomputable def Gl (X:Cx) (x:Str):Prop:=X.env.kindOf x=some .globalImplicit
theorem wK {E:Value→Shared→Prop}{pins:List (Addr×Obj)}{s:Shared}{σ:St}{H:Hp}{x:Str}{u:Value}{pos:Pos}{Q:Value→Shared→Prop}(I:Inv X pins σ H s) (hg:Gl X x) (hm:X.mg x=some u) (h:Q u s)
  (hd:(x==("__debug__" : Str))=false:=by decide):wpAny (model X.prog X.w) X.A (eval (.Name x pos) X.env) Q E s:=
 Calls.Name_function_global I.ok.kind hg (Calls.loadGlobal_global (by rw [I.ok.glob];exact I.mod.glob.keeps I.bk) hm h) hd
theorem iu {E:Value→Shared→Prop}{pins:List (Addr×Obj)}{s:Shared}{σ:St}{H:Hp}{x:Str}{u:Value}{pos:Pos}{Q:Value→Shared→Prop}(I:Inv X pins σ H s) (hg:Gl X x) (hm:X.mg x=none) (hv:bootBuiltins x=some u) (h:Q u s)
  (hn:x≠"__name__" :=by decide) (hd:(x==("__debug__" : Str))=false:=by decide):wpAny (model X.prog X.w) X.A (eval (.Name x pos) X.env) Q E s:=by
 obtain ⟨mb,h1,h2⟩:=I.mod.blt
 exact Calls.Name_function_global I.ok.kind hg (Calls.loadGlobal_builtin (by rw [I.ok.glob];exact I.mod.glob.keeps I.bk) hm (by rw [I.ok.blt];exact h1.keeps I.bk) ((h2 x hn).trans hv) h) hd
theorem HF {x:Str}{v:V}{u:Value}{pos:Pos}(hg:Gl X x) (hm:X.mg x=some u) (r:RelV v u) (hd:(x==("__debug__" : Str))=false:=by decide):PE X (.Name x pos) (tC v):=
 fun _ _ _ H _ I h=>wK I hg hm ⟨v,H,I,r,h⟩ hd
theorem HG {x:Str}{v:V}{u:Value}{pos:Pos}(hg:Gl X x) (hm:X.mg x=none) (hv:bootBuiltins x=some u) (r:RelV v u) (hn:x≠"__name__" :=by decide) (hd:(x==("__debug__" : Str))=false:=by decide):PE X (.Name x pos) (tC v):=
 fun _ _ _ H _ I h=>iu I hg hm hv ⟨v,H,I,r,h⟩ hn hd
variable {a b:Expr}{ta tb:TE}{pos:Pos}
variable {tA E3:TT}{rest:List Expr}
noncomputable def WS (t u:TT):TT:=fun σ H Q=>t σ H fun c H1=>if c=true then u σ H1 Q else Q false H1
noncomputable def ZD (t u:TT):TT:=fun σ H Q=>t σ H fun c H1=>if c=true then Q true H1 else u σ H1 Q
noncomputable def WT (t:TT):TT:=fun σ H Q=>t σ H fun c H1=>Q (!c) H1
theorem HH (ha:PT X a tA):PW X (.BoolOp .And [a] pos) tA:=by
 intro wh pins s σ H Q I h
 refine isTrue_and (bS (ha pins s σ H Q I h) fun c s1 e=>?_)
 cases c with
 | true=>exact isTrue_and_nil e
 | false=>exact e
theorem Kr (ha:PT X a tA):PW X (.BoolOp .Or [a] pos) tA:=by
 intro wh pins s σ H Q I h
 refine isTrue_or (bS (ha pins s σ H Q I h) fun c s1 e=>?_)
 cases c with
 | false=>exact isTrue_or_nil e
 | true=>exact e
theorem Ks (ha:PT X a tA) (hb:PW X (.BoolOp .And (b :: rest) pos) E3):PW X (.BoolOp .And (a :: b :: rest) pos) (WS tA E3):=by
 intro wh pins s σ H Q I h
 refine isTrue_and (bS (ha pins s σ H _ I h) fun c s1 ⟨H1,I1,q1⟩=>?_)
 cases c with
 | true=>exact hb wh pins s1 σ H1 Q I1 q1
 | false=>exact ⟨H1,I1,q1⟩
theorem Rl (ha:PT X a tA) (hb:PW X (.BoolOp .Or (b :: rest) pos) E3):PW X (.BoolOp .Or (a :: b :: rest) pos) (ZD tA E3):=by
 intro wh pins s σ H Q I h
 refine isTrue_or (bS (ha pins s σ H _ I h) fun c s1 ⟨H1,I1,q1⟩=>?_)
 cases c with
 | true=>exact ⟨H1,I1,q1⟩
 | false=>exact hb wh pins s1 σ H1 Q I1 q1
theorem Ku (ha:PT X a tA):PT X (.UnaryOp .Not a pos) (WT tA):=by
 intro pins s σ H Q I h
 exact isTrue_not (ha pins s σ H (fun c H1=>Q (!c) H1) I h)
noncomputable def Rm (ta tb:TE):TE:=fun σ H Q=>ta σ H fun x H1=>∃ c,x=.bl c∧if c=true then tb σ H1 Q else Q (.bl false) H1
theorem Kv {op}{t:TE}(h:PE X a t):PE X (.BoolOp op [a] pos) t:=fun pins s σ H Q I hw=>BoolOp_one (h pins s σ H Q I hw)
theorem Kw (ha:PE X a ta) (hb:PE X (.BoolOp .And (b :: rest) pos) tb):PE X (.BoolOp .And (a :: b :: rest) pos) (Rm ta tb):=by
 intro pins s σ H Q I h
 refine BoolOp_and (bS (ha pins s σ H _ I h) fun v s1 ⟨x,H1,I1,r1,q1⟩=>?_)
 obtain ⟨c,rfl,q1⟩:=q1
 cases r1
 refine wpAny_truthy_bool ?_
 cases c with
 | true=>exact hb pins s1 σ H1 Q I1 q1
 | false=>exact ⟨.bl false,H1,I1,rfl,q1⟩
noncomputable def ZE (t:TT) (ta tb:TE):TE:=fun σ H Q=>t σ H fun c H1=>if c=true then ta σ H1 Q else tb σ H1 Q
theorem Cn {c:Expr}(hc:PT X c tA) (ha:PE X a ta) (hb:PE X b tb):PE X (.IfExp c a b pos) (ZE tA ta tb):=by
 intro pins s σ H Q I h
 refine wpAny_IfExp (bS (hc pins s σ H _ I h) fun d s1 ⟨H1,I1,q1⟩=>?_)
 cases d with
 | true=>exact ha pins s1 σ H1 Q I1 q1
 | false=>exact hb pins s1 σ H1 Q I1 q1
end
end L2
namespace L2
open PySem PySem.Spec PyProof.Rows
noncomputable def dZ (K:PySem.W.Frag) (H:Hp) (a:Addr) (xs:List V):Prop:=
 Rd H a (.lst xs)∨
  ∃ (o:Obj) (its:Array Value) (n:Nat),K.lookup a=some o∧o.cls=.type "list" ∧o.dict=none∧o.data=.seq its n∧its.size≤sizeLine∧Vals xs its.toList
noncomputable def dI (K:PySem.W.Frag) (H:Hp) (a:Addr) (xs:List V):Prop:=
 Rd H a (.tup xs)∨
  ∃ (o:Obj) (its:Array Value) (n:Nat),K.lookup a=some o∧o.cls=.type "tuple" ∧o.data=.seq its n∧its.size≤sizeLine∧Vals xs its.toList
noncomputable def WU:Value→Option V
 | .none=>some .bB
 | .bool b=>some (.bl b)
 | .int i _=>some (.int i)
 | .str x _=>some (.str x)
 | .bytes b _=>some (.zP b)
 | .float b _=>some (.wF b)
 | .ref a=>some (.ref a)
 | .type n=>some (.ty n)
 | _=>none
theorem RelV.abs {x:V}{u:Value}(r:RelV x u):WU u=some x:=by
 cases x with
 | bB=>cases r;rfl
 | bl _=>cases r;rfl
 | int _=>obtain ⟨t,rfl⟩:=r;rfl
 | str _=>obtain ⟨t,rfl⟩:=r;rfl
 | zP _=>obtain ⟨t,rfl⟩:=r;rfl
 | wF _=>obtain ⟨t,rfl⟩:=r;rfl
 | ref _=>cases r;rfl
 | ty _=>cases r;rfl
theorem RelV.inj {x y:V}{u:Value}(r:RelV x u) (q:RelV y u):x=y:=Option.some.inj (r.abs.symm.trans q.abs)
theorem Vals.inj:∀ {xs ys:List V}{us:List Value},Vals xs us→Vals ys us→xs=ys
 | _,_,_,.nil,.nil=>rfl
 | _,_,_,.cons r t,.cons r' t'=>by rw [r.inj r',Vals.inj t t']
section
variable {X:Cx}{pins:List (Addr×Obj)}{σ:St}{H:Hp}{s:Shared}{a:Addr}{xs ys:List V}
theorem dZ.of {K:PySem.W.Frag}(h:H a=some (.lst xs)):dZ K H a xs:=.inl (.inl h)
theorem dI.of {K:PySem.W.Frag}(h:H a=some (.tup xs)):dI K H a xs:=.inl (.inl h)
theorem Inv.list (I:Inv X pins σ H s) (h:dZ X.K H a xs):∃ its:List Value,Vals xs its∧PlainL s.heap a its.toArray∧xs.length≤sizeLine:=by
 rcases h with h | ⟨o,its,n,hk,hc,hd,hs,hz,r⟩
 ·obtain ⟨z,its,n,r,e⟩:=h.ok I.hok
  exact ⟨its,r,⟨_,n,e,rfl,rfl,rfl⟩,z⟩
 ·refine ⟨its.toList,r,⟨o,n,I.gE a o hk,hc,hd,by simpa using hs⟩,?_⟩
  have e:=r.length
  simp only [Array.length_toList] at e
  omega
theorem Inv.tuple (I:Inv X pins σ H s) (h:dI X.K H a xs):∃ its:List Value,Vals xs its∧IsTup s.heap a its.toArray∧xs.length≤sizeLine:=by
 rcases h with h | ⟨o,its,n,hk,hc,hs,hz,r⟩
 ·obtain ⟨z,its,r,p⟩:=h.ok I.hok
  exact ⟨its,r,p,z⟩
 ·refine ⟨its.toList,r,⟨o,I.gE a o hk,hc,n,by simpa using hs⟩,?_⟩
  have e:=r.length
  simp only [Array.length_toList] at e
  omega
theorem Inv.nX (I:Inv X pins σ H s) (h:dZ X.K H a xs) (h':dZ X.K H a ys):xs=ys:=by
 obtain ⟨its,r,⟨o,n,e,_,_,d⟩,_⟩:=I.list h
 obtain ⟨its',r',⟨o',n',e',_,_,d'⟩,_⟩:=I.list h'
 rw [e] at e';cases e'
 rw [d] at d'
 injection d' with d1 _
 have:its=its':=by simpa using congrArg Array.toList d1
 subst this
 exact r.inj r'
theorem Inv.lT (I:Inv X pins σ H s) (h:dI X.K H a xs) (h':dI X.K H a ys):xs=ys:=by
 obtain ⟨its,r,⟨o,e,_,n,d⟩,_⟩:=I.tuple h
 obtain ⟨its',r',⟨o',e',_,n',d'⟩,_⟩:=I.tuple h'
 rw [e] at e';cases e'
 rw [d] at d'
 injection d' with d1 _
 have:its=its':=by simpa using congrArg Array.toList d1
 subst this
 exact r.inj r'
end
abbrev Cx.j6 (X:Cx) (E:Value→Shared→Prop):Cx:={ X with xe:=E }
abbrev Cx.rj (X:Cx):Cx:=X.j6 fun _ _=>False
theorem Cx.Ok.j6 {X:Cx}(ok:X.Ok) (E:Value→Shared→Prop):(X.j6 E).Ok:=
 ⟨ok.mod,ok.kind,ok.glob,ok.blt,ok.above,ok.inj,ok.has,ok.wH,ok.hd,ok.frames,ok.stk,ok.EZ,ok.bs,ok.q9,ok.qh,ok.qi,ok.jg,ok.sZ⟩
theorem Cx.Ok.jc {X:Cx}{E:Value→Shared→Prop}(ok:(X.j6 E).Ok):X.Ok:=
 ⟨ok.mod,ok.kind,ok.glob,ok.blt,ok.above,ok.inj,ok.has,ok.wH,ok.hd,ok.frames,ok.stk,ok.EZ,ok.bs,ok.q9,ok.qh,ok.qi,ok.jg,ok.sZ⟩
section
variable {X:Cx}{pins:List (Addr×Obj)}{σ:St}{H:Hp}{s:Shared}{E:Value→Shared→Prop}
theorem Inv.j6 (I:Inv X pins σ H s) (E:Value→Shared→Prop):Inv (X.j6 E) pins σ H s:=⟨I.ok.j6 E,I.os,I.bare,I.base,I.loc,I.cell,I.free,I.iU,I.pin,I.hok,I.len⟩
theorem Inv.jc (I:Inv (X.j6 E) pins σ H s):Inv X pins σ H s:=⟨I.ok.jc,I.os,I.bare,I.base,I.loc,I.cell,I.free,I.iU,I.pin,I.hok,I.len⟩
theorem SP.jc {D:Ends}{f:Flow}{s':Shared}(h:SP (X.j6 E) pins D f s'):SP X pins D f s':=by
 cases f with
 | next=>obtain ⟨σ',H',I,q⟩:=h;exact ⟨σ',H',I.jc,q⟩
 | brk=>obtain ⟨σ',H',I,q⟩:=h;exact ⟨σ',H',I.jc,q⟩
 | cont=>obtain ⟨σ',H',I,q⟩:=h;exact ⟨σ',H',I.jc,q⟩
 | ret u=>obtain ⟨v,σ',H',I,r,q⟩:=h;exact ⟨v,σ',H',I.jc,r,q⟩
theorem iK.rj {st:List Stmt}{t:TS}(h:iK X.rj st t):iK X st t:=fun pins s σ H D I hw=>
 wpAny_mono (h pins s σ H D (I.j6 _) hw) (fun _ _ q=>q.jc) fun _ _ z=>False.elim z
end
section
variable {X:Cx}{st:Stmt}{rest:List Stmt}{t u:TS}{e:Expr}{te:TE}{pos:Pos}
noncomputable def Rn:TS:=fun D σ H=>D.nx σ H
noncomputable def WV (t u:TS):TS:=fun D σ H=>t { D with nx:=u D } σ H
theorem HJ:iK X [] Rn:=fun _ _ σ H _ I h=>wpAny_execs_nil ⟨σ,H,I,h⟩
theorem Co (h1:PS X st t) (h2:iK X rest u):iK X (st :: rest) (WV t u):=by
 intro pins s σ H D I h
 refine wpAny_execs_cons (bS (h1 pins s σ H { D with nx:=u D } I h) fun f s1 q=>?_)
 cases f with
 | next=>
  obtain ⟨σ',H',I',q⟩:=q
  exact h2 pins s1 σ' H' D I' q
 | ret v=>exact q
 | brk=>exact q
 | cont=>exact q
noncomputable def Ro:TS:=fun D σ H=>D.ct σ H
theorem vP:PS X (.Continue pos) Ro:=fun _ _ σ H _ I h=>wpAny_Continue ⟨σ,H,I,h⟩
theorem Inv.quiet {pins:List (Addr×Obj)}{σ:St}{H:Hp}{s:Shared}(I:Inv X pins σ H s):interactive X.env=false:=by simp [interactive,I.ok.kind]
noncomputable def Rp (te:TE):TS:=fun D σ H=>te σ H fun _ H1=>D.nx σ H1
theorem HK (he:PE X e te) (hs:swapsWith e none pos.line X.env=pure false:=by rfl):PS X (.Expr e pos) (Rp te):=by
 intro pins s σ H D I h
 exact wpAny_Expr_any (bS (he pins s σ H _ I h) fun v s1 ⟨x,H1,I1,r1,q1⟩=>⟨σ,H1,I1,q1⟩) I.quiet hs
noncomputable def WX (te:TE):TS:=fun D σ H=>te σ H D.rt
theorem Ky (he:PE X e te):PS X (.Return (some e) pos) (WX te):=by
 intro pins s σ H D I h
 exact wpAny_Return_some (bS (he pins s σ H _ I h) fun v s1 ⟨x,H1,I1,r1,q1⟩=>⟨x,σ,H1,I1,r1,q1⟩)
noncomputable def WY (c:TT) (t u:TS):TS:=fun D σ H=>c σ H fun b H1=>if b=true then t D σ H1 else u D σ H1
theorem Rq {c:Expr}{a b:List Stmt}{tc:TT}(hc:PT X c tc) (ha:iK X a t) (hb:iK X b u):PS X (.If c a b pos) (WY tc t u):=by
 intro pins s σ H D I h
 refine wpAny_If (bS (hc pins s σ H _ I h) fun d s1 ⟨H1,I1,q1⟩=>?_)
 cases d with
 | true=>exact ha pins s1 σ H1 D I1 q1
 | false=>exact hb pins s1 σ H1 D I1 q1
noncomputable def Kz:TS:=fun _ _ _=>False
theorem Cp:PS X st Kz:=fun _ _ _ _ _ _ h=>h.elim
end
abbrev TG:=V→St→Hp→(St→Hp→Prop)→Prop
abbrev rm:=List V→St→Hp→(St→Hp→Prop)→Prop
noncomputable def PG (X:Cx) (target:Expr) (t:TG):Prop:=
 ∀ (pins:List (Addr×Obj)) (s:Shared) (σ:St) (H:Hp) (v:V) (u:Value) (Q:St→Hp→Prop),Inv X pins σ H s→RelV v u→t v σ H Q→
  wpAny (model X.prog X.w) X.A (assign target X.env u) (fun _ s'=>∃ σ' H',Inv X pins σ' H' s'∧Q σ' H') X.xe s
noncomputable def nG (X:Cx) (ts:List Expr) (t:rm):Prop:=
 ∀ (pins:List (Addr×Obj)) (s:Shared) (σ:St) (H:Hp) (vs:List V) (us:List Value) (Q:St→Hp→Prop),Inv X pins σ H s→Vals vs us→t vs σ H Q→
  wpAny (model X.prog X.w) X.A (assignInOrder ((assignEach ts X.env).map (·.2)) us) (fun _ s'=>∃ σ' H',Inv X pins σ' H' s'∧Q σ' H') X.xe s
section
variable {X:Cx}{pos:Pos}
noncomputable def E4 (i:Nat):TG:=fun v σ H Q=>Q (σ.set i (some v)) H
theorem wL {i:Nat}{x:Str}(hN:X.N.Nodup) (hi:X.N[i]?=some x) (hx:Loc X.env.scope x) (hf:X.fn x=true∨X.env.scope.names.lookup x=some .local:=by first | exact .inl rfl | exact .inr rfl | assumption):PG X (.Name x pos) (E4 i):=by
 intro pins s σ H v u Q I r h
 exact wpAny_assign_Name (tD I hN hi hx r (fun s' I'=>⟨_,H,I',h⟩) hf)
noncomputable def WZ:rm:=fun vs σ H Q=>vs=[]∧Q σ H
noncomputable def Rt (t:TG) (u:rm):rm:=fun vs σ H Q=>∃ v r,vs=v :: r∧t v σ H fun σ' H'=>u r σ' H' Q
theorem HL:nG X [] WZ:=by
 intro pins s σ H vs us Q I r h
 obtain ⟨e,h⟩:=h
 subst e
 cases r
 exact assignInOrder_nil ⟨σ,H,I,h⟩
theorem Cq {e:Expr}{es:List Expr}{t:TG}{u:rm}(h1:PG X e t)(h2:nG X es u)
  (hs:(assignEach (e :: es) X.env).map (·.2)=assign e X.env :: (assignEach es X.env).map (·.2):=by rfl):nG X (e :: es) (Rt t u):=by
 intro pins s σ H vs us Q I r h
 obtain ⟨v,vr,e1,h⟩:=h
 subst e1
 cases r with
 | cons r rr=>
  rw [hs]
  refine assignInOrder_cons (bS (h1 pins s σ H _ _ _ I r h) fun _ s1 ⟨σ1,H1,I1,q1⟩=>?_)
  exact h2 pins s1 σ1 H1 _ _ Q I1 rr q1
noncomputable def W0 (K:PySem.W.Frag) (n:Nat) (t:rm):TG:=fun v σ H Q=>∃ a xs,v=.ref a∧dI K H a xs∧xs.length=n∧t xs σ H Q
theorem KA {es:List Expr}{k:Nat}{t:rm}{n:Nat}(hc:X.calm=true)(h:nG X es t)
  (hn:(assignEach es X.env).length=n:=by rfl) (hst:(assignEach es X.env).findIdx? (·.1)=none:=by rfl):PG X (.Tuple es k pos) (W0 X.K n t):=by
 intro pins s σ H v u Q I r hw
 obtain ⟨a,xs,e1,hq,hl,hw⟩:=hw
 subst e1
 cases r
 obtain ⟨its,rv,ht,hz⟩:=I.tuple hq
 refine assign_Tuple_tuple (I.ok.hd hc) ht (by simp [hn,←hl,rv.length]) hst fun h' hx=>?_
 have I1:Inv X pins σ H { s with heap:=h' }:=I.kept (t':=s.toks) fun b o e=>hx b o (Nat.ne_of_lt (Heap.lt_size e)) e
 exact h pins _ σ H xs _ Q I1 (by simpa using rv) hw
noncomputable def KC (te:TE) (g:TG):TS:=fun D σ H=>te σ H fun x H1=>g x σ H1 D.nx
theorem KD {tg e:Expr}{te:TE}{g:TG}(he:PE X e te) (hg:PG X tg g) (hs:swapsWithSole [tg] e pos.line X.env=pure false:=by rfl) (hw:swappedStores [tg] e X.env=pure none:=by rfl)
  (h1:(assignEach [tg] X.env).map (·.2)=[assign tg X.env]:=by rfl):PS X (.Assign [tg] e pos) (KC te g):=by
 intro pins s σ H D I h
 refine wpAny_Assign_stores (bS (he pins s σ H _ I h) fun v s1 ⟨x,H1,I1,r1,q1⟩=>?_) hs hw
 rw [h1]
 exact bS (hg pins s1 σ H1 x v _ I1 r1 q1) fun _ s2 q=>q
theorem zW {i:Nat}{x:Str}{e:Expr}{te:TE}{pos':Pos}(hN:X.N.Nodup) (hi:X.N[i]?=some x) (hx:Loc X.env.scope x) (he:PE X e te) (hs:swapsWith e (some (.Name x pos')) pos.line X.env=pure false:=by rfl) (hf:X.fn x=true∨X.env.scope.names.lookup x=some .local:=by first | exact .inl rfl | exact .inr rfl | assumption) :
  PS X (.Assign [.Name x pos'] e pos) (KC te (E4 i)):=by
 intro pins s σ H D I h
 refine wpAny_Assign_Name (bS (he pins s σ H _ I h) fun v s1 ⟨y,H1,I1,r1,q1⟩=>?_) hs
 exact tD I1 hN hi hx r1 (fun s2 I2=>⟨_,H1,I2,q1⟩) hf
end
section
variable {X:Cx}{pos:Pos}
noncomputable def KG (c:TT) (tb:TS):TS:=fun D σ H=>∃ W:Nat→St→Hp→Prop,(∃ m,W m σ H)∧∀ m σ H,W m σ H→
 c σ H fun b H1=>if b=true then ∃ N:St→Hp→Prop,(∀ σ' H',N σ' H'→∃ m',m'<m∧W m' σ' H')∧tb { D with nx:=N,ct:=N,bk:=D.nx } σ H1 else D.nx σ H1
theorem Cr {c:Expr}{body:List Stmt}{tc:TT}{tb:TS}(hp:PassesOwn (model X.prog X.w) X.A X.env X.xe) (hc:PT X c tc) (hb:iK X body tb):PS X (.While c body [] pos) (KG tc tb):=by
 intro pins s σ H D I h
 obtain ⟨W,⟨m0,w0⟩,turn⟩:=h
 refine wpAny_While (codeAny_whileLoop (fun n s'=>∃ σ' H',Inv X pins σ' H' s'∧W n σ' H') ?_ m0 ⟨σ,H,I,w0⟩)
 rintro n s1 ⟨σ1,H1,I1,w1⟩
 refine wpAny_passesOwn hp (bS (hc pins s1 σ1 H1 _ I1 (turn n σ1 H1 w1)) fun b s2 ⟨H2,I2,q2⟩=>?_)
 cases b with
 | true=>
  obtain ⟨N,hN,q2⟩:=q2
  rw [if_pos rfl]
  refine wpAny_passesOwn hp (bS (hb pins s2 σ1 H2 _ I2 q2) fun f s3 q3=>?_)
  cases f with
  | next=>
   obtain ⟨σ3,H3,I3,n3⟩:=q3
   obtain ⟨m',hm,w3⟩:=hN σ3 H3 n3
   exact ⟨m',hm,σ3,H3,I3,w3⟩
  | cont=>
   obtain ⟨σ3,H3,I3,n3⟩:=q3
   obtain ⟨m',hm,w3⟩:=hN σ3 H3 n3
   exact ⟨m',hm,σ3,H3,I3,w3⟩
  | brk=>exact q3
  | ret v=>exact q3
 | false=>
  rw [if_neg Bool.false_ne_true]
  exact wpAny_execs_nil ⟨σ1,H2,I2,q2⟩
end
structure It where
 go:Nat→Hp→Prop
 E5:Nat→Hp→V→Hp→Prop
 stop:Nat→Hp→Prop
noncomputable def gx (X:Cx) (pins:List (Addr×Obj)) (H:Hp) (b:Addr):Prop:=
 H b=none∧b≠X.env.locals∧b∉X.fs∧(b∈X.ex∨X.s₀.heap.objs.size≤b)∧(∀ x c,X.env.cells.lookup x=some c→c≠b)∧∀ p∈X.pn++pins,p.1≠b
theorem Inv.yj {X:Cx}{pins:List (Addr×Obj)}{σ:St}{H H':Hp}{s:Shared}{b:Addr}(I:Inv X pins σ H s) (hb:s.heap.objs.size≤b) (hn:H' b=none):gx X pins H' b:=by
 refine ⟨hn,Nat.ne_of_gt (Nat.lt_of_lt_of_le I.lt hb),I.WQ hb,.inr (Nat.le_trans I.sz hb),fun x c e z=>?_,fun p hp z=>?_⟩
 ·obtain ⟨v,q⟩:=I.cell x c e
  exact absurd (Nat.lt_of_lt_of_le q.lt (by rw [z];exact hb)) (Nat.lt_irrefl _)
 ·exact absurd (Nat.lt_of_lt_of_le (Heap.lt_size (I.pin p hp).1) (by rw [z];exact hb)) (Nat.lt_irrefl _)
structure Turn (P:Program) (w:World) (K:PySem.W.Frag) (tg:Expr) (J:It) (fp:List Addr) (it:Addr) (tn:Nat→Heap→Prop):Prop where
 mem:it∈fp
 obj:∀ i h,tn i h→∀ b∈fp,∃ o,h.get? b=some o∧∀ v,o.data≠.cell v
 keep:∀ i h h',tn i h→(∀ b∈fp,∀ o,h.get? b=some o→h'.get? b=some o)→tn i h'
 item:∀ (X:Cx),X.prog=P→X.w=w→X.K=K→X.calm=true→∀ (i:Nat) (pins:List (Addr×Obj)) (s:Shared) (σ:St) (H:Hp) (E:Value→Shared→Prop),Inv X pins σ H s→(∀ b∈fp,gx X pins H b)→tn i s.heap→J.go i H→
  wpAny (model P w) X.A (pyNext (.ref it)) (fun r s1=>∃ u,r=some u∧
   wpAny (model P w) X.A (letOwnedTupleGo tg (.ref it) u) (fun _ s2=>∃ x H',Inv X pins σ H' s2∧RelV x u∧J.E5 i H x H'∧tn (i+1) s2.heap∧∀ b∈fp,H' b=none) E s1) E s
 done:∀ (X:Cx),X.prog=P→X.w=w→X.K=K→X.calm=true→∀ (i:Nat) (pins:List (Addr×Obj)) (s:Shared) (σ:St) (H:Hp) (E:Value→Shared→Prop),Inv X pins σ H s→(∀ b∈fp,gx X pins H b)→tn i s.heap→J.stop i H→
  wpAny (model P w) X.A (pyNext (.ref it)) (fun r s1=>r=none∧Inv X pins σ H s1) E s
 self:∀ (A:Around) (i:Nat) (s:Shared) (Q:Value→Shared→Prop) (E:Value→Shared→Prop),tn i s.heap→Q (.ref it) s→wpAny (model P w) A (pyIter (.ref it)) Q E s
abbrev TI:=St→Hp→(It→Hp→Prop)→Prop
noncomputable def UA (X:Cx) (pins:List (Addr×Obj)) (σ:St) (tg:Expr) (R:It→Hp→Prop) (itv:Value) (s2:Shared):Prop:=
 ∃ (it:Addr) (fp:List Addr) (tn:Nat→Heap→Prop) (J:It) (H':Hp),itv=.ref it∧Inv X pins σ H' s2∧Turn X.prog X.w X.K tg J fp it tn∧tn 0 s2.heap∧(∀ b∈fp,gx X pins H' b)∧R J H'
noncomputable def PI (X:Cx) (tg iter:Expr) (wi:TI):Prop:=
 ∀ (pins:List (Addr×Obj)) (s:Shared) (σ:St) (H:Hp) (R:It→Hp→Prop),Inv X pins σ H s→wi σ H R→
  wpAny (model X.prog X.w) X.A (eval iter X.env) (fun v s1=>wpAny (model X.prog X.w) X.A (pyIter v) (UA X pins σ tg R) X.xe s1) X.xe s
theorem yk {M:Model}{A:Around}{E:Value→Shared→Prop}{s:Shared}{tg:Expr}{it:Addr}{u:Value}{o:Obj}{n:String}{vs:Array Value}{Q:Unit→Shared→Prop}(ho:s.heap.get? it=some o)(hc:o.cls=.type n)(hd:o.data=.fields vs)
    (hn:["enumerate","zip","dict_itemiterator","dict_reverseitemiterator","odict_iterator","itertools.zip_longest","itertools.pairwise"].contains n=false) (hQ:Q () s):wpAny M A (letOwnedTupleGo tg (.ref it) u) Q E s:=by
  unfold letOwnedTupleGo
  cases tg <;> first
    | exact wpAny_pure hQ
    | (cases u <;> first
        | exact wpAny_pure hQ
        | (refine wpAny_bind (wpAny_load ho ?_)
           rw [hc,hd]
           show wpAny M A (if (["enumerate","zip","dict_itemiterator","dict_reverseitemiterator","odict_iterator","itertools.zip_longest","itertools.pairwise"].contains n&&vs[0]?==some (rawInt _))=true then _ else _) Q E s
           rw [if_neg (by intro h;rw [hn,Bool.false_and] at h;cases h)]
           exact wpAny_pure hQ))
noncomputable def UB (K:PySem.W.Frag) (a:Addr):It:=
 ⟨fun i H=>∃ xs x,dZ K H a xs∧xs[i]?=some x,fun i H x H'=>H'=H∧∀ xs,dZ K H a xs→xs[i]?=some x,fun i H=>∃ xs,dZ K H a xs∧xs.length≤i⟩
noncomputable def UC (K:PySem.W.Frag) (a:Addr):It:=
 ⟨fun i H=>∃ xs x,dI K H a xs∧xs[i]?=some x,fun i H x H'=>H'=H∧∀ xs,dI K H a xs→xs[i]?=some x,fun i H=>∃ xs,dI K H a xs∧xs.length≤i⟩
noncomputable def E6 (lo:Int) (n:Nat):It:=⟨fun i _=>i<n,fun i H x H'=>H'=H∧x=.int (lo+i),fun i _=>n≤i⟩
theorem zX {P:Program}{w:World}{K:PySem.W.Frag}{tg:Expr}(a it:Addr):Turn P w K tg (UB K a) [it] it (fun i h=>h.IsListIter it a i) where
 mem:=by simp
 obj:=fun i h st b hb=>by
  have e:b=it:=by simpa using hb
  subst e
  obtain ⟨o,e,c,d⟩:=st
  exact ⟨o,e,fun v z=>by rw [d] at z;cases z⟩
 keep:=fun i h h' st k=>st.at fun o e=>k it (by simp) o e
 item:=by
  intro X hP hw hK hc i pins s σ H E I hf st hg
  subst hP hw hK
  obtain ⟨xs,x,hq,hx⟩:=hg
  obtain ⟨its,rv,p,hz⟩:=I.list hq
  obtain ⟨u,hu,ru⟩:=rv.get hx
  obtain ⟨f0,f1,f2,f3,f4,f5⟩:=hf it (by simp)
  refine wpAny_pyNext_list_item st p.isList (x:=u) (by simpa using hu) fun h' st' sb=>?_
  have I1:Inv X pins σ H { s with heap:=h' }:=I.turned (t':=s.toks) (fun b o hb e=>(sb.2 b hb).trans e) f0 f1 f3 f4 f5
  obtain ⟨o,e,c,d⟩:=id st'
  exact ⟨u,rfl,yk (s:={ s with heap:=h' }) e c d (by decide) ⟨x,H,I1,ru,⟨rfl,fun ys hy=>by rw [I.nX hy hq];exact hx⟩,st',fun b hb=>(hf b hb).1⟩⟩
 done:=by
  intro X hP hw hK hc i pins s σ H E I hf st hg
  subst hP hw hK
  obtain ⟨xs,hq,hx⟩:=hg
  obtain ⟨its,rv,p,hz⟩:=I.list hq
  obtain ⟨f0,f1,f2,f3,f4,f5⟩:=hf it (by simp)
  have hl:=rv.length
  exact wpAny_pyNext_list_end (I.ok.hd hc) st p.isList (by simp;omega) fun h' eb=>⟨rfl,I.turned (t':=s.toks) (fun b o hb e=>eb b o hb e) f0 f1 f3 f4 f5⟩
 self:=fun _ _ _ _ _ st h=>wpAny_pyIter_listiter st h
theorem yl {P:Program}{w:World}{K:PySem.W.Frag}{tg:Expr}(a it:Addr):Turn P w K tg (UC K a) [it] it (fun i h=>h.IsTupleIter it a i) where
 mem:=by simp
 obj:=fun i h st b hb=>by
  have e:b=it:=by simpa using hb
  subst e
  obtain ⟨o,e,c,d⟩:=st
  exact ⟨o,e,fun v z=>by rw [d] at z;cases z⟩
 keep:=fun i h h' st k=>st.at fun o e=>k it (by simp) o e
 item:=by
  intro X hP hw hK hc i pins s σ H E I hf st hg
  subst hP hw hK
  obtain ⟨xs,x,hq,hx⟩:=hg
  obtain ⟨its,rv,p,hz⟩:=I.tuple hq
  obtain ⟨u,hu,ru⟩:=rv.get hx
  obtain ⟨f0,f1,f2,f3,f4,f5⟩:=hf it (by simp)
  refine wpAny_pyNext_tuple_item st (show s.heap.IsTuple a its.toArray from p) (x:=u) (by simpa using hu) fun h' st' sb=>?_
  have I1:Inv X pins σ H { s with heap:=h' }:=I.turned (t':=s.toks) (fun b o hb e=>(sb.2 b hb).trans e) f0 f1 f3 f4 f5
  obtain ⟨o,e,c,d⟩:=id st'
  exact ⟨u,rfl,yk (s:={ s with heap:=h' }) e c d (by decide) ⟨x,H,I1,ru,⟨rfl,fun ys hy=>by rw [I.lT hy hq];exact hx⟩,st',fun b hb=>(hf b hb).1⟩⟩
 done:=by
  intro X hP hw hK hc i pins s σ H E I hf st hg
  subst hP hw hK
  obtain ⟨xs,hq,hx⟩:=hg
  obtain ⟨its,rv,p,hz⟩:=I.tuple hq
  obtain ⟨f0,f1,f2,f3,f4,f5⟩:=hf it (by simp)
  have hl:=rv.length
  exact wpAny_pyNext_tuple_end (I.ok.hd hc) st (show s.heap.IsTuple a its.toArray from p) (by simp;omega) fun h' eb=>⟨rfl,I.turned (t':=s.toks) (fun b o hb e=>eb b o hb e) f0 f1 f3 f4 f5⟩
 self:=fun _ _ _ _ _ st h=>wpAny_pyIter_tupleiter st h
theorem ym {P:Program}{w:World}{K:PySem.W.Frag}{tg:Expr}(it:Addr) (lo:Int) (n:Nat):Turn P w K tg (E6 lo n) [it] it (fun i h=>IsRangeIter h it (lo+(i:Nat)*1) ((n:Int) - (i:Nat)) 1) where
 mem:=by simp
 obj:=fun i h st b hb=>by
  have e:b=it:=by simpa using hb
  subst e
  exact ⟨_,st,fun v z=>by
   have z':Data.fields _=Data.cell v:=z
   cases z'⟩
 keep:=fun i h h' st k=>k it (by simp) _ st
 item:=by
  intro X hP hw hK hc i pins s σ H E I hf st hg
  subst hP hw hK
  obtain ⟨f0,f1,f2,f3,f4,f5⟩:=hf it (by simp)
  have W:=Walks.range (prog:=X.prog) (w:=X.w) (I.ok.hd hc) it lo 1 n
  refine W.item i s _ _ hg st fun v h' tk hv st' kk=>?_
  obtain ⟨t,rfl⟩:=hv
  have I1:Inv X pins σ H { s with heap:=h',toks:=tk }:=I.turned (fun b o hb e=>kk b o (by simpa using hb) e) f0 f1 f3 f4 f5
  refine ⟨_,rfl,yk (s:={ s with heap:=h',toks:=tk }) (n:="range_iterator") st' rfl rfl (by decide) ⟨.int (lo+i),H,I1,⟨t,?_⟩,⟨rfl,rfl⟩,st',fun b hb=>(hf b hb).1⟩⟩
  rw [Int.mul_one]
 done:=by
  intro X hP hw hK hc i pins s σ H E I hf st hg
  subst hP hw hK
  obtain ⟨f0,f1,f2,f3,f4,f5⟩:=hf it (by simp)
  exact wpAny_pyNext_range_end (I.ok.hd hc) st (by have:n≤i:=hg;omega) fun h' eb=>⟨rfl,I.turned (t':=s.toks) (fun b o hb e=>eb b o hb e) f0 f1 f3 f4 f5⟩
 self:=fun _ _ _ _ _ st h=>wpAny_pyIter_rangeiter st h
end L2
namespace L2
open PySem PySem.Spec PyProof.Rows
section
variable {X:Cx}{tg:Expr}
theorem Cs {pins:List (Addr×Obj)}{σ:St}{H:Hp}{s:Shared}{R:It→Hp→Prop}{E:Value→Shared→Prop}{lo hi:Int}{t u v:Tok}{tk:Nat}(I:Inv X pins σ H s) (h1:-(2 ^ 62)≤lo) (h2:lo<2 ^ 62) (h3:-(2 ^ 62)≤hi) (h4:hi<2 ^ 62)
  (q:R (E6 lo (hi - lo).toNat) H):wpAny (model X.prog X.w) X.A (pyIter (.ref s.heap.objs.size)) (UA X pins σ tg R) E { s with heap:=s.heap.push { cls:=.type "range",data:=.fields #[.int lo t,.int hi u,.int 1 v]},toks:=tk }:=by
 refine wpAny_pyIter_range (IsRange.new ..) (small_one h1 h2 h3 h4) ?_
 have I1:Inv X pins σ H { s with heap:=s.heap.push { cls:=.type "range",data:=.fields #[.int lo t,.int hi u,.int 1 v]},toks:=tk }:=I.kept fun b o e=>Heap.get?_push_of_some _ e
 refine ⟨(s.heap.push { cls:=.type "range",data:=.fields #[.int lo t,.int hi u,.int 1 v]}).objs.size,[(s.heap.push { cls:=.type "range",data:=.fields #[.int lo t,.int hi u,.int 1 v]}).objs.size],_,_,H,rfl,
  I1.kept (t':=tk) fun b o e=>Heap.get?_push_of_some _ e,ym _ lo (hi - lo).toNat,?_,fun b hb=>?_,q⟩
 ·have e1:lo+((0:Nat):Int)*1=lo:=by simp
  have e2:(((hi - lo).toNat:Nat):Int) - ((0:Nat):Int)=Builtin.Range.rangeSize lo hi 1:=by rw [rangeSize_one];split <;> omega
  show IsRangeIter _ _ (lo+((0:Nat):Int)*1) ((((hi - lo).toNat:Nat):Int) - ((0:Nat):Int)) 1
  rw [e1,e2]
  exact Heap.get?_push_size _ rfl
 ·have e:b=(s.heap.push { cls:=.type "range",data:=.fields #[.int lo t,.int hi u,.int 1 v]}).objs.size:=by simpa using hb
  subst e
  exact I1.yj (Nat.le_refl _) (I1.hok.fresh (Nat.le_refl _))
noncomputable def Ru (ta:TA):TI:=fun σ H R=>ta σ H fun vs H1=>∃ j:Int,vs=[.int j]∧-(2 ^ 62)≤j∧j<2 ^ 62∧R (E6 0 j.toNat) H1
theorem zY {a:Expr}{ta:TA}{p pos:Pos}(hg:Gl X "range") (hm:X.mg "range" = none) (ha:PA X [a] ta) (hs:starEach [a] X.env=[(false,eval a X.env)]:=by rfl):PI X tg (.Call (.Name "range" p) [a] [] pos) (Ru ta):=by
 intro pins s σ H R I h
 refine Call_ (iu I hg hm boot_range (PyProof.Rows.callWith_type1 (bS (ha pos pins s σ H _ I h) fun us s1 ⟨vs,H1,I1,r1,q1⟩=>?_) hs rfl))
 obtain ⟨j,e,q1,q2,q⟩:=q1
 subst e
 cases r1 with
 | cons r rr=>
  cases rr
  obtain ⟨t,rfl⟩:=r
  exact call_range_1 (Cs I1 (by omega) (by omega) q1 q2 (by simpa using q))
noncomputable def W2 (wi:TI) (g:TG) (tb:TS):TS:=fun D σ H=>wi σ H fun J H1=>∃ W:Nat→Nat→St→Hp→Prop,(∃ m,W 0 m σ H1)∧∀ i m σ H,W i m σ H→
 (J.stop i H∧D.nx σ H)∨(J.go i H∧∃ N:St→Hp→Prop,(∀ σ' H',N σ' H'→∃ m',m'<m∧W (i+1) m' σ' H')∧∀ x H',J.E5 i H x H'→g x σ H' fun σ2 H2=>tb { D with nx:=N,ct:=N,bk:=D.nx } σ2 H2)
noncomputable def lU (fp:List Addr) (h:Heap):List (Addr×Obj):=fp.filterMap fun b=>(h.get? b).map fun o=>(b,o)
theorem jn {fp:List Addr}{h:Heap}{b:Addr}{o:Obj}(hb:b∈fp) (e:h.get? b=some o):(b,o)∈lU fp h:=List.mem_filterMap.mpr ⟨b,hb,by rw [e];rfl⟩
theorem zZ {fp:List Addr}{h:Heap}{p:Addr×Obj}(hp:p∈lU fp h):p.1∈fp∧h.get? p.1=some p.2:=by
 obtain ⟨b,hb,e⟩:=List.mem_filterMap.mp hp
 cases q:h.get? b with
 | none=>rw [q] at e;cases e
 | some o=>
  rw [q] at e
  have e':(b,o)=p:=Option.some.inj e
  subst e'
  exact ⟨hb,q⟩
theorem Inv.pinned {pins:List (Addr×Obj)}{σ:St}{H:Hp}{s:Shared}{fp:List Addr}(I:Inv X pins σ H s) (hf:∀ b∈fp,gx X pins H b) (ho:∀ b∈fp,∃ o,s.heap.get? b=some o∧∀ v,o.data≠.cell v):Inv X (pins++lU fp s.heap) σ H s:=
 I.wJ fun p hp=>(List.mem_append.mp hp).elim (fun z=>I.pin p (List.mem_append_right _ z)) fun z=>by
  obtain ⟨hb,e⟩:=zZ z
  obtain ⟨f0,f1,f2,_⟩:=hf p.1 hb
  obtain ⟨o,e',d⟩:=ho p.1 hb
  rw [e] at e';cases e'
  exact ⟨e,f0,f1,f2,d⟩
theorem Inv.kP {pins pl:List (Addr×Obj)}{σ:St}{H:Hp}{s:Shared}(I:Inv X (pins++pl) σ H s):Inv X pins σ H s:=I.wJ fun p hp=>I.pin p (List.mem_append_right _ (List.mem_append_left _ hp))
theorem KH {iter:Expr}{body:List Stmt}{wi:TI}{g:TG}{tb:TS}{pos:Pos}(hp:PassesOwn (model X.prog X.w) X.A X.env X.xe) (hc:X.calm=true) (hi:PI X tg iter wi) (hg:PG X tg g) (hb:iK X body tb)
  (hs:∀ x,foldedSetIterable iter X.env x=pure x:=by intro _;rfl):PS X (.For tg iter body [] pos) (W2 wi g tb):=by
 intro pins s σ H D I h
 refine wpAny_For (bS (hi pins s σ H _ I h) fun v s1 h1=>bS h1 fun itv s2 h2=>?_) hs
 obtain ⟨it,fp,tn,J,H2,e,I2,T,st2,f2,W,⟨m0,w0⟩,turn⟩:=h2
 subst e
 have kQ:∀ {H':Hp},(∀ b∈fp,H' b=none)→∀ b∈fp,gx X pins H' b:=fun hn b hb=>⟨hn b hb,(f2 b hb).2⟩
 refine codeAny_forLoop_any (fun n s'=>∃ i σ' H',Inv X pins σ' H' s'∧tn i s'.heap∧(∀ b∈fp,H' b=none)∧W i n σ' H') ?_ m0 ⟨0,σ,H2,I2,st2,fun b hb=>(f2 b hb).1,w0⟩
 rintro n s3 ⟨i,σ3,H3,I3,st3,cL,w3⟩
 rcases turn i n σ3 H3 w3 with ⟨stop,qn⟩ | ⟨go,N,hN,step⟩
 ·refine wpAny_passesOwn hp (bS (T.done X rfl rfl rfl hc i pins s3 σ3 H3 X.xe I3 (kQ cL) st3 stop) fun r s4 ⟨hr,I4⟩=>?_)
  subst hr
  exact wpAny_execs_nil ⟨σ3,H3,I4,qn⟩
 ·refine wpAny_passesOwn hp (bS (T.item X rfl rfl rfl hc i pins s3 σ3 H3 X.xe I3 (kQ cL) st3 go) fun r s4 ⟨u,hr,h4⟩=>?_)
  subst hr
  refine wpAny_passesOwn hp (bS h4 fun _ s5 ⟨x,H5,I5,r5,y5,wN,rq⟩=>?_)
  have ZF:=I5.pinned (kQ rq) (T.obj _ _ wN)
  refine wpAny_passesOwn hp (bS (hg _ s5 σ3 H5 x u _ ZF r5 (step x H5 y5)) fun _ s6 ⟨ZG,H6,I6,q6⟩=>?_)
  refine wpAny_passesOwn hp (bS (hb _ s6 ZG H6 _ I6 q6) fun f s7 q7=>?_)
  have again:∀ {lV:St} {H7:Hp},Inv X (pins++lU fp s5.heap) lV H7 s7→N lV H7→∃ m,m<n∧∃ i σ' H',Inv X pins σ' H' s7∧tn i s7.heap∧(∀ b∈fp,H' b=none)∧W i m σ' H':=fun {lV H7} I7 n7=>by
   obtain ⟨m',hm,w7⟩:=hN lV H7 n7
   refine ⟨m',hm,i+1,lV,H7,I7.kP,T.keep _ _ _ wN fun b hb o e=>(I7.pin (b,o) (List.mem_append_right _ (List.mem_append_right _ (jn hb e)))).1,fun b hb=>?_,w7⟩
   obtain ⟨o,e,d⟩:=T.obj _ _ wN b hb
   exact (I7.pin (b,o) (List.mem_append_right _ (List.mem_append_right _ (jn hb e)))).2.1
  cases f with
  | next=>obtain ⟨lV,H7,I7,n7⟩:=q7;exact again I7 n7
  | cont=>obtain ⟨lV,H7,I7,n7⟩:=q7;exact again I7 n7
  | brk=>obtain ⟨lV,H7,I7,q7⟩:=q7;exact ⟨lV,H7,I7.kP,q7⟩
  | ret v=>obtain ⟨x7,lV,H7,I7,r7,q7⟩:=q7;exact ⟨x7,lV,H7,I7.kP,r7,q7⟩
end
end L2
namespace L2
open PySem PySem.Spec PyProof.Rows
abbrev R2:=V→V→Hp→VK→Prop
noncomputable def d7 (X:Cx) (f:Value→Value→Sem Value) (r:R2):Prop:=
 ∀ (pins:List (Addr×Obj)) (s:Shared) (σ:St) (H:Hp) (x y:V) (v u:Value) (Q:VK),Inv X pins σ H s→RelV x v→RelV y u→r x y H Q→
  wpAny (model X.prog X.w) X.A (f v u) (EP X pins σ Q) X.xe s
noncomputable def KI (X:Cx) (f:Value→Sem Value) (r:V→Hp→VK→Prop):Prop:=
 ∀ (pins:List (Addr×Obj)) (s:Shared) (σ:St) (H:Hp) (x:V) (v:Value) (Q:VK),Inv X pins σ H s→RelV x v→r x H Q→
  wpAny (model X.prog X.w) X.A (f v) (EP X pins σ Q) X.xe s
noncomputable def gI (X:Cx) (f:Value) (r:List V→Hp→VK→Prop):Prop:=
 ∀ (pins:List (Addr×Obj)) (s:Shared) (σ:St) (H:Hp) (xs:List V) (us:List Value) (Q:VK),Inv X pins σ H s→Vals xs us→r xs H Q→
  wpAny (model X.prog X.w) X.A (call f us) (EP X pins σ Q) X.xe s
noncomputable def W3 (X:Cx) (r:V→Hp→(Bool→Hp→Prop)→Prop):Prop:=
 ∀ (pins:List (Addr×Obj)) (s:Shared) (σ:St) (H:Hp) (x:V) (v:Value) (Q:Bool→Hp→Prop),Inv X pins σ H s→RelV x v→r x H Q→
  wpAny (model X.prog X.w) X.A (truthy v) (TP X pins σ Q) X.xe s
noncomputable def z9 (r:R2) (ta tb:TE):TE:=fun σ H Q=>ta σ H fun x H1=>tb σ H1 fun y H2=>r x y H2 Q
noncomputable def ZH (r:V→Hp→VK→Prop) (ta:TE):TE:=fun σ H Q=>ta σ H fun x H1=>r x H1 Q
noncomputable def rI (C:Int→Int→Prop) (g:Int→Int→V):R2:=fun x y H Q=>∃ i j,x=.int i∧y=.int j∧C i j∧Q (g i j) H
noncomputable def tE (g:Int→Int→V):R2:=fun x y H Q=>∃ i j,x=.int i∧y=.int j∧Q (g i j) H
noncomputable def rU (g:Int→V):V→Hp→VK→Prop:=fun x H Q=>∃ i,x=.int i∧Q (g i) H
section
variable {X:Cx}{a b c:Expr}{ta tb tc:TE}{pos:Pos}
theorem yo (ha:PE X a ta) (hb:PE X b tb) {pins:List (Addr×Obj)}{s:Shared}{σ:St}{H:Hp}{R:V→V→Hp→Prop}(I:Inv X pins σ H s)
  (h:ta σ H fun x H1=>tb σ H1 fun y H2=>R x y H2) {Q:Value→Shared→Prop} {f:Value→Value→Sem Value}
  (hf:∀ v u s2 x y H2,Inv X pins σ H2 s2→RelV x v→RelV y u→R x y H2→wpAny (model X.prog X.w) X.A (f v u) Q X.xe s2) :
  wpAny (model X.prog X.w) X.A (eval a X.env) (fun v s₁=>wpAny (model X.prog X.w) X.A (eval b X.env) (fun u s₂=>wpAny (model X.prog X.w) X.A (f v u) Q X.xe s₂) X.xe s₁) X.xe s:=by
 refine bS (ha pins s σ H _ I h) fun v s1 ⟨x,H1,I1,r1,q1⟩=>?_
 refine bS (hb pins s1 σ H1 _ I1 q1) fun u s2 ⟨y,H2,I2,r2,q2⟩=>?_
 exact hf v u s2 x y H2 I2 r1 r2 q2
theorem Rw {op:Operator}{r:R2}(ho:d7 X (binaryOp op) r) (ha:PE X a ta) (hb:PE X b tb):PE X (.BinOp a op b pos) (z9 r ta tb):=by
 intro pins s σ H Q I h
 exact wpAny_BinOp (yo ha hb I h fun v u s2 x y H2 I2 rx ry q=>ho pins s2 σ H2 x y v u Q I2 rx ry q)
theorem Rx {op:UnaryOp}{r:V→Hp→VK→Prop}(ho:KI X (unaryOp op) r) (ha:PE X a ta):PE X (.UnaryOp op a pos) (ZH r ta):=by
 intro pins s σ H Q I h
 exact UnaryOp_ (bS (ha pins s σ H _ I h) fun v s1 ⟨x,H1,I1,r1,q1⟩=>ho pins s1 σ H1 x v Q I1 r1 q1)
theorem KJ {f:Value→Value→Sem Value}{C:Int→Int→Prop}{g:Int→Int→Int}
  (rule:∀ (i j:Int) (t u:Tok) (s:Shared) (Q:Value→Shared→Prop) (E:Value→Shared→Prop),C i j→Q (.int (g i j) s.toks) { s with toks:=s.toks+1 }→wpAny (model X.prog X.w) X.A (f (.int i t) (.int j u)) Q E s) :
  d7 X f (rI C fun i j=>.int (g i j)):=by
 intro pins s σ H x y v u Q I rx ry h
 obtain ⟨i,j,rfl,rfl,hc,q⟩:=h
 obtain ⟨t,rfl⟩:=rx
 obtain ⟨t',rfl⟩:=ry
 exact rule i j t t' s _ _ hc ⟨.int (g i j),H,I.tok _,⟨_,rfl⟩,q⟩
theorem KL {f:Value→Value→Sem Value}{g:Int→Int→Int}
  (rule:∀ (i j:Int) (t u:Tok) (s:Shared) (Q:Value→Shared→Prop) (E:Value→Shared→Prop),Q (.int (g i j) s.toks) { s with toks:=s.toks+1 }→wpAny (model X.prog X.w) X.A (f (.int i t) (.int j u)) Q E s) :
  d7 X f (tE fun i j=>.int (g i j)):=by
 intro pins s σ H x y v u Q I rx ry h
 obtain ⟨i,j,rfl,rfl,q⟩:=h
 obtain ⟨t,rfl⟩:=rx
 obtain ⟨t',rfl⟩:=ry
 exact rule i j t t' s _ _ ⟨.int (g i j),H,I.tok _,⟨_,rfl⟩,q⟩
theorem KN {f:Value→Value→Sem Value}{g:Int→Int→Bool}
  (rule:∀ (i j:Int) (t u:Tok) (s:Shared) (Q:Value→Shared→Prop) (E:Value→Shared→Prop),Q (.bool (g i j)) s→wpAny (model X.prog X.w) X.A (f (.int i t) (.int j u)) Q E s) :
  d7 X f (tE fun i j=>.bl (g i j)):=by
 intro pins s σ H x y v u Q I rx ry h
 obtain ⟨i,j,rfl,rfl,q⟩:=h
 obtain ⟨t,rfl⟩:=rx
 obtain ⟨t',rfl⟩:=ry
 exact rule i j t t' s _ _ ⟨.bl (g i j),H,I,rfl,q⟩
noncomputable def W4 (i j:Int):Prop:=0<j∧j<1073741824
noncomputable def Ct (i j:Int):Prop:=(-(2 ^ 64)<i∧i<2 ^ 64)∨(-(2 ^ 64)<j∧j<2 ^ 64)
theorem Ct.ok {i j:Int}(h:Ct i j):IntMulOk i j:=by
 rcases h with ⟨h1,h2⟩ | ⟨h1,h2⟩
 ·exact .of_left (intBits_le_64 h1 h2)
 ·exact .of_right (intBits_le_64 h1 h2)
theorem KO:d7 X (binaryOp .Add) (tE fun i j=>.int (i+j)):=KL fun _ _ _ _ _ _ _ q=>add_int q
theorem KP:d7 X (binaryOp .Sub) (tE fun i j=>.int (i - j)):=KL fun _ _ _ _ _ _ _ q=>sub_int q
theorem KQ:d7 X (binaryOp .Mult) (rI Ct fun i j=>.int (i*j)):=KJ fun _ _ _ _ _ _ _ hc q=>mul_int q hc.ok
theorem HM:d7 X (binaryOp .FloorDiv) (rI W4 fun i j=>.int (i / j)):=KJ fun i j _ _ _ _ _ hc q=>by
 have h1:(0:Int)<j:=hc.1
 have h2:j<1073741824:=hc.2
 exact floordiv_int (by omega) (by rw [Int.fdiv_eq_ediv_of_nonneg i (by omega)];exact q) (.inl (PyProof.noPylong_small (by omega)))
theorem KR:d7 X (binaryOp .Mod) (rI (fun _ j=>0<j) fun i j=>.int (i % j)):=KJ fun i j _ _ _ _ _ hc q=>by
 have h1:(0:Int)<j:=hc
 exact mod_int' (by omega) (by rw [Int.fmod_eq_emod_of_nonneg i (by omega)];exact q)
theorem ZI {f:Value→Sem Value}{g:Int→Int}
  (rule:∀ (i:Int) (t:Tok) (s:Shared) (Q:Value→Shared→Prop) (E:Value→Shared→Prop),Q (.int (g i) s.toks) { s with toks:=s.toks+1 }→wpAny (model X.prog X.w) X.A (f (.int i t)) Q E s) :
  KI X f (rU fun i=>.int (g i)):=by
 intro pins s σ H x v Q I rx h
 obtain ⟨i,rfl,q⟩:=h
 obtain ⟨t,rfl⟩:=rx
 exact rule i t s _ _ ⟨.int (g i),H,I.tok _,⟨_,rfl⟩,q⟩
theorem KS:KI X (unaryOp .USub) (rU fun i=>.int (-i)):=ZI fun _ _ _ _ _ q=>neg_int q
end
section
variable {X:Cx}{a b c:Expr}{ta tb tc:TE}{pos:Pos}
theorem Ry:d7 X (compareOp .Lt) (tE fun i j=>.bl (decide (i<j))):=KN fun _ _ _ _ _ _ _ q=>lt_int q
theorem Rz:d7 X (compareOp .Gt) (tE fun i j=>.bl (decide (j<i))):=KN fun _ _ _ _ _ _ _ q=>gt_int q
theorem ki (b:Expr) {op:CmpOp}(h:op≠.In:=by decide) (h2:op≠.NotIn:=by decide):behindInMarks op b=false:=by
 have e1:(op==CmpOp.In)=false:=by cases op <;> first | rfl | exact absurd rfl h
 have e2:(op==CmpOp.NotIn)=false:=by cases op <;> first | rfl | exact absurd rfl h2
 cases b <;> simp [behindInMarks,e1,e2]
theorem HN {op:CmpOp}{r:R2}(ho:d7 X (compareOp op) r) (ha:PE X a ta) (hb:PE X b tb) (hm:behindInMarks op b=false):PE X (.Compare a [op] [b] pos) (z9 r ta tb):=by
 intro pins s σ H Q I h
 exact wpAny_Compare1 (yo ha hb I h fun v u s2 x y H2 I2 rx ry q=>ho pins s2 σ H2 x y v u Q I2 rx ry q) hm
noncomputable def RA (t:TE):TT:=fun σ H Q=>t σ H fun x H'=>∃ k,x=.bl k∧Q k H'
theorem HQ {op:CmpOp}{r:R2}(ho:d7 X (compareOp op) r) (ha:PE X a ta) (hb:PE X b tb) (hm:behindInMarks op b=false):PT X (.Compare a [op] [b] pos) (RA (z9 r ta tb)):=by
 intro pins s σ H Q I h
 refine wpAny_isTrue_Compare1 (bS (ha pins s σ H _ I h) fun v s1 ⟨x,H1,I1,r1,q1⟩=>bS (hb pins s1 σ H1 _ I1 q1) fun u s2 ⟨y,H2,I2,r2,q2⟩=>
  bS (ho pins s2 σ H2 x y v u _ I2 r1 r2 q2) fun c s3 ⟨z,H3,I3,r3,k,e,q3⟩=>?_) hm
 subst e
 cases r3
 exact wpAny_truthy_bool ⟨H3,I3,q3⟩
noncomputable def Cu (K:PySem.W.Frag) (x:V) (H:Hp) (k:Bool):Prop:=
 match x with
 | .bB=>k=false
 | .bl b=>k=b
 | .int i=>k=(i != 0)
 | .str y=>y.length≤sizeLine∧k=((y.length:Int) != 0)
 | .zP y=>y.size≤sizeLine∧k=((y.size:Int) != 0)
 | .ref p=>(∃ xs,dZ K H p xs∧k = !xs.isEmpty)∨(∃ xs,dI K H p xs∧k = !xs.isEmpty)∨∃ kvs,H p=some (.dK kvs)∧k = !kvs.isEmpty
 | _=>False
theorem yp {κ:Type}{kvs:List (κ×V)}{vs:List (κ×Value)}(r:KV kvs vs):(!vs.isEmpty) = !kvs.isEmpty:=by
 cases r <;> rfl
theorem oV {xs:List V}{its:List Value}(r:Vals xs its):(!its.toArray.isEmpty) = !xs.isEmpty:=by
 cases r <;> simp
theorem kj:(sizeLine:Nat)<2 ^ 63:=by rw [sizeLine_eq];decide
theorem KU:W3 X (fun x H Q=>∃ k,Cu X.K x H k∧Q k H):=by
 intro pins s σ H x v Q I rx h
 obtain ⟨k,e,q⟩:=h
 have hl:=kj
 have hs:sizeLine=16777216:=sizeLine_eq
 cases x with
 | bB=>
  cases rx
  have e':k=false:=e
  subst e'
  exact truthy_none ⟨H,I,q⟩
 | bl b=>
  cases rx
  have e':k=b:=e
  subst e'
  exact wpAny_truthy_bool ⟨H,I,q⟩
 | int i=>
  obtain ⟨t,rfl⟩:=rx
  have e':k=(i != 0):=e
  subst e'
  exact PySem.P.truthy_int ⟨H,I,q⟩
 | str y=>
  obtain ⟨t,rfl⟩:=rx
  obtain ⟨hy,e'⟩:y.length≤sizeLine∧k=((y.length:Int) != 0):=e
  subst e'
  exact PySem.P.truthy_str (by omega) ⟨H,I.tok _,q⟩
 | zP y=>
  obtain ⟨t,rfl⟩:=rx
  obtain ⟨hy,e'⟩:y.size≤sizeLine∧k=((y.size:Int) != 0):=e
  subst e'
  exact PySem.W.truthy_bytes (by omega) ⟨H,I.tok _,q⟩
 | ref p=>
  cases rx
  have e':(∃ xs,dZ X.K H p xs∧k = !xs.isEmpty)∨(∃ xs,dI X.K H p xs∧k = !xs.isEmpty)∨∃ kvs,H p=some (.dK kvs)∧k = !kvs.isEmpty:=e
  rcases e' with ⟨xs,hx,e'⟩ | ⟨xs,hx,e'⟩ | ⟨kvs,hx,e'⟩
  ·subst e'
   obtain ⟨its,r,pl,hz⟩:=I.list hx
   have hlen:=r.length
   exact wpAny_truthy_list pl.isList (by simp only [List.size_toArray];omega) ⟨H,I.tok _,by rw [oV r];exact q⟩
  ·subst e'
   obtain ⟨its,r,pl,hz⟩:=I.tuple hx
   have hlen:=r.length
   exact truthy_tuple pl (by simp only [List.size_toArray];omega) ⟨H,I.tok _,by rw [oV r];exact q⟩
  ·subst e'
   obtain ⟨hz,hS,vs,r,m⟩:kvs.length≤sizeLine∧(p==sysModules)=false∧∃ vs,KV kvs vs∧s.heap.DictOf (qg X.prog X.w) p vs:=I.hok p _ hx
   have hlen:kvs.length=vs.length:=Paired.length r
   exact wpAny_truthy_dict hS m (by omega) ⟨H,I.tok _,by rw [yp r];exact q⟩
 | _=>exact (show False from e).elim
theorem Cv (ha:PE X a ta) (he:∀ whole,isTrue a X.env whole=(do let v ←whole;standAt a.pos;holding [v] (truthy v))) :
  PT X a (fun σ H Q=>ta σ H fun x H'=>∃ k,Cu X.K x H' k∧Q k H'):=by
 intro pins s σ H Q I h
 exact isTrue_plain (bS (ha pins s σ H _ I h) fun v s1 ⟨x,H1,I1,r1,q1⟩=>KU pins s1 σ H1 x v Q I1 r1 q1) (he _)
theorem yq:d7 X (binaryOp .Add) (fun x y H Q=>∃ i j,x=.str i∧y=.str j∧i.length+j.length≤sizeLine∧Q (.str (i++j)) H):=by
 intro pins s σ H x y v u Q I rx ry h
 obtain ⟨i,j,rfl,rfl,hz,q⟩:=h
 obtain ⟨t,rfl⟩:=rx
 obtain ⟨t',rfl⟩:=ry
 exact add_str (fun t' tk=>⟨.str (i++j),H,I.tok _,⟨_,rfl⟩,q⟩) hz
theorem vals1 {x:V}{us:List Value}(r:Vals [x] us):∃ u,us=[u]∧RelV x u:=by
 cases r with
 | cons r1 r2=>cases r2;exact ⟨_,rfl,r1⟩
theorem vals2 {x y:V}{us:List Value}(r:Vals [x,y] us):∃ u w',us=[u,w']∧RelV x u∧RelV y w':=by
 cases r with
 | cons r1 r2=>
  cases r2 with
  | cons r3 r4=>cases r4;exact ⟨_,_,rfl,r1,r3⟩
theorem Aa (hc:X.calm=true):gI X (.builtin "min") (fun xs H Q=>∃ i j,xs=[.int i,.int j]∧Q (.int (if j<i then j else i)) H):=by
 intro pins s σ H xs us Q I r h
 obtain ⟨i,j,rfl,q⟩:=h
 obtain ⟨u,w',rfl,⟨t,rfl⟩,⟨t',rfl⟩⟩:=vals2 r
 refine min_two_ints (I.ok.hd hc) fun h' tk k=>⟨_,H,I.kept k,?_,q⟩
 by_cases hj:j<i
 ·rw [if_pos hj,if_pos hj];exact ⟨_,rfl⟩
 ·rw [if_neg hj,if_neg hj];exact ⟨_,rfl⟩
end
end L2
namespace L2
open PySem PySem.Spec PyProof.Rows
structure Cw (h:Heap) (x dx C:Addr) (mA:Str→Option Value):Prop where
 obj:h.get? x=some (PySem.W.instObj C dx)
 ns:h.Ns1 dx mA
 ne:dx≠x
theorem Ab {h:Heap}{dx:Addr}{mA:Str→Option Value}(n:h.Ns1 dx mA):∃ od,h.get? dx=some od∧∀ name,PySem.W.lookIn name od=some (mA name):=by
 obtain ⟨o,es,ep,ho,hd,hk,_,hm⟩:=n
 refine ⟨o,ho,fun name=>?_⟩
 have e:=hm name
 unfold nsFind findBy at e
 rw [←Array.find?_toList] at e
 unfold PySem.W.lookIn
 rw [hd]
 dsimp only
 split
 ·rename_i y q
  rw [q] at e
  exact congrArg some e
 ·rename_i q
  rw [q] at e
  have a:es.toList.any (·.refKey)=false:=by
   rw [List.any_eq_false]
   intro y hy
   obtain ⟨z,t,hkey⟩:=hk y (Array.mem_toList_iff.mp hy)
   simp [DictEntry.refKey,hkey]
  have a':¬ es.toList.any (·.refKey)=true:=by rw [a];exact Bool.false_ne_true
  rw [if_neg a']
  exact congrArg some e
theorem Cw.look {h:Heap}{x dx C:Addr}{mA:Str→Option Value}(I:Cw h x dx C mA):∃ od,PySem.W.InstAt h x (PySem.W.instObj C dx) C (some od)∧∀ name,PySem.W.lookIn name od=some (mA name):=
 let ⟨od,ho,hl⟩:=Ab I.ns
 ⟨od,⟨I.obj,rfl,rfl,ho⟩,hl⟩
section
variable {prog:Program}{w:World}{A:Around}{E:Value→Shared→Prop}{s:Shared}{K:PySem.W.Frag}{x dx C f:Addr}{mA:Str→Option Value}{name:Str}{v:Value}
end
section
variable {P:Program}{w:World}{H H':Hp}{h h':Heap}{a C dx:Addr}{fs fs':List (Str×V)}
theorem HS (hok:fO P w H h) (e:H a=some (.ins C dx fs)):∃ mA,Cw h a dx C mA∧(∀ f,Ck (fs.lookup f) (mA f))∧PySem.Within mA (fs.map (·.1))∧fs.length≤1000∧H dx=some (.own a):=by
 obtain ⟨d,z,ne,ob,mA,n,r,q⟩:=(show dH P w H h a (.ins C dx fs) from hok a _ e)
 exact ⟨mA,⟨ob,n,ne⟩,r,q,z,d⟩
end
structure KW (K:PySem.W.Frag) (C:Addr):Prop where
 pg:PySem.W.plainGet K C Str.empty=true
 hd:PySem.W.hasDictIn K C=true
 po:PySem.W.plainOver K C=true
 sa:PySem.W.findIn K (.ref C) "__setattr__" = some (some (.builtin "object.__setattr__"))
theorem KW.get {K:PySem.W.Frag}{C:Addr}(c:KW K C) (f:Str):PySem.W.plainGet K C f=true:=c.pg
structure Con (K:PySem.W.Frag) (C:Addr) (f:Str) (v:V) (u:Value):Prop where
 at_:PySem.W.findIn K (.ref C) f=some (some u)
 rel:RelV v u
 get:PySem.W.specialIn K u "__get__" = some none
 cp:PySem.W.copiedNames.contains f=false
structure Meth (K:PySem.W.Frag) (C:Addr) (m:Str) (f:Addr):Prop where
 at_:PySem.W.findIn K (.ref C) m=some (some (.ref f))
 fn:PySem.W.isFn K (.ref f)=true
 kp:PySem.W.keepIn K (.ref f)=true
section
variable {X:Cx}{pins:List (Addr×Obj)}{σ:St}{H:Hp}{s:Shared}{a C dx:Addr}{fs:List (Str×V)}{f:Str}{v:V}{A:Around}{E:Value→Shared→Prop}
end
section
variable {X:Cx}{o e value:Expr}{f:Str}{pos pos' tpos:Pos}{ta tv:TE}
end
section
variable {X:Cx}{pins:List (Addr×Obj)}{σ:St}{H:Hp}{s:Shared}{A:Around}{E:Value→Shared→Prop}{Q:Value→Shared→Prop}{c:Value}{b:Bool}
inductive jh (K:PySem.W.Frag) (H:Hp):V→Value→Prop where
 | bB:jh K H .bB (.type "NoneType")
 | bl (x:Bool):jh K H (.bl x) (.type "bool")
 | int (i:Int):jh K H (.int i) (.type "int")
 | str (x:Str):jh K H (.str x) (.type "str")
 | wF (x:UInt64):jh K H (.wF x) (.type "float")
 | lst {a:Addr} {xs:List V} (e:H a=some (.lst xs)):jh K H (.ref a) (.type "list")
 | bR {a:Addr} {o:Obj} {xs:List V} (e:H a=some (.bR o (.lst xs))):jh K H (.ref a) (.type "list")
 | tup {a:Addr} {xs:List V} (e:H a=some (.tup xs)):jh K H (.ref a) (.type "tuple")
 | dK {a:Addr} {kvs:List (Key×V)} (e:H a=some (.dK kvs)):jh K H (.ref a) (.type "dict")
 | dT {a:Addr} {kvs:List (List Key×V)} (e:H a=some (.dT kvs)):jh K H (.ref a) (.type "dict")
 | ins {a C dx:Addr} {fs:List (Str×V)} (e:H a=some (.ins C dx fs)) (cl:KW K C) (ha:PySem.W.findIn K (.ref C) "__class__" = some (some (.builtin "object.__class__")))
   (hn:PySem.W.specialIn K (.builtin "object.__class__") "__get__" = some (some (.builtin "getset_descriptor.__get__"))) (htk:PySem.W.takesIn K (.builtin "object.__class__")=some true)
   (hm:PySem.W.mroIn K C (.type "object")=some true):jh K H (.ref a) (.ref C)
theorem jT {x:V}{u t:Value}(I:Inv X pins σ H s) (rx:RelV x u) (ty:jh X.K H x t) (e:PySem.W.kitOne X.K t c=some b) (h:∀ tk,Q (.bool b) { s with toks:=tk }) :
  wpAny (model X.prog X.w) A (call (.builtin "isinstance") [u,c]) Q E s:=by
 cases ty with
 | bB=>cases (show u=Value.none from rx);exact PySem.W.kia_one PySem.W.kitx_none I.gE True.intro e (fun z=>nomatch z) h
 | bl y=>cases (show u=Value.bool y from rx);exact PySem.W.kia_one PySem.W.kitx_bool I.gE True.intro e (fun z=>nomatch z) h
 | int i=>obtain ⟨t,q⟩:=(show ∃ t,u=Value.int i t from rx);cases q;exact PySem.W.kia_one PySem.W.kitx_int I.gE True.intro e (fun z=>nomatch z) h
 | str y=>obtain ⟨t,q⟩:=(show ∃ t,u=Value.str y t from rx);cases q;exact PySem.W.kia_one PySem.W.kitx_str I.gE True.intro e (fun z=>nomatch z) h
 | wF y=>obtain ⟨t,q⟩:=(show ∃ t,u=Value.float y t from rx);cases q;exact PySem.W.kia_one PySem.W.kitx_float I.gE True.intro e (fun z=>nomatch z) h
 | @lst a xs ea=>
  cases (show u=Value.ref a from rx)
  obtain ⟨_,_,n,_,h1⟩:=(show dH X.prog X.w H s.heap a (.lst xs) from I.hok a _ ea)
  exact PySem.W.kia_one PySem.W.kitx_list I.gE ⟨_,h1,rfl⟩ e (fun z=>nomatch z) h
 | @bR a ob xs ea=>
  cases (show u=Value.ref a from rx)
  obtain ⟨_,_,_,n,_,h1⟩:=(show dH X.prog X.w H s.heap a (.bR ob (.lst xs)) from I.hok a _ ea)
  exact PySem.W.kia_one PySem.W.kitx_list I.gE ⟨_,h1,rfl⟩ e (fun z=>nomatch z) h
 | @tup a xs ea=>
  cases (show u=Value.ref a from rx)
  obtain ⟨_,_,_,p⟩:=(show dH X.prog X.w H s.heap a (.tup xs) from I.hok a _ ea)
  obtain ⟨o,h1,h2,_⟩:=p
  exact PySem.W.kia_one PySem.W.kitx_tuple I.gE ⟨o,h1,h2⟩ e (fun z=>nomatch z) h
 | @dK a kvs ea=>
  cases (show u=Value.ref a from rx)
  obtain ⟨_,_,vs,_,p⟩:=(show dH X.prog X.w H s.heap a (.dK kvs) from I.hok a _ ea)
  obtain ⟨o,es,ep,h1,h2,_⟩:=p
  exact PySem.W.kia_one PySem.W.kitx_dict I.gE ⟨o,h1,h2.1⟩ e (fun z=>nomatch z) h
 | @dT a kvs ea=>
  cases (show u=Value.ref a from rx)
  obtain ⟨_,_,xs,_,o,es,ep,h1,h2,_⟩:=(show dH X.prog X.w H s.heap a (.dT kvs) from I.hok a _ ea)
  exact PySem.W.kia_one PySem.W.kitx_dict I.gE ⟨o,h1,h2.1⟩ e (fun z=>nomatch z) h
 | @ins a C dx fs ea cl ha hn htk hm=>
  cases (show u=Value.ref a from rx)
  obtain ⟨mA,O,_⟩:=HS I.hok ea
  obtain ⟨od,J,_⟩:=O.look
  exact PySem.W.kia_one (PySem.W.kitx_own (cl.get _) cl.hd ha hn htk hm) I.gE J e (fun z=>nomatch z) h
end
end L2
namespace L2
open PySem PySem.Spec PyProof.Rows
structure gP (k:Nat) (A:Around):Prop where
 hd:A.handled=none
 dp:A.depth+3*k+5<recursionLimit
 un:A.units+16*k+200<cLine
theorem gP.deeper {k:Nat}{A:Around}(r:gP (k+1) A) (env:Env):gP k (A.deeper env):=
 ⟨r.hd,by have:=r.dp;show A.depth+1+3*k+5<_;omega,by have:=r.un;show A.units+3+16*k+200<_;omega⟩
theorem gP.depth {k:Nat}{A:Around}(r:gP k A):A.depth<recursionLimit:=by have:=r.dp;omega
noncomputable def W5:TA:=fun _ H Q=>Q [] H
noncomputable def RB (ta:TE) (tr:TA):TA:=fun σ H Q=>ta σ H fun x H1=>tr σ H1 fun xs H2=>Q (x :: xs) H2
section
variable {X:Cx}{e:Expr}{es:List Expr}{te:TE}{t:TA}{pos:Pos}
theorem ko:PA X [] W5:=fun _ _ _ _ H Q I h=>Calls.spliced_nil ⟨[],H,I,.nil,h⟩
theorem gT (ha:PE X e te) (hr:PA X es t) (hs:starEach (e :: es) X.env=(false,eval e X.env) :: starEach es X.env:=by rfl):PA X (e :: es) (RB te t):=by
 intro pos pins s σ H Q I h
 rw [hs]
 show wpAny _ _ (spliced ((false,eval e X.env) :: backTo pos (starEach es X.env))) _ _ s
 refine Calls.spliced_cons (bS (ha pins s σ H _ I h) fun u s1 ⟨x,H1,I1,r1,q1⟩=>?_)
 exact bS (hr pos pins s1 σ H1 _ I1 q1) fun us s2 ⟨xs,H2,I2,r2,q2⟩=>⟨x :: xs,H2,I2,.cons r1 r2,q2⟩
noncomputable def W6 (t:TA):TE:=fun σ H Q=>t σ H fun xs H1=>xs.length≤sizeLine∧∀ p,H1 p=none→Q (.ref p) (upd H1 p (.tup xs))
noncomputable def W7 (t:TA):TE:=fun σ H Q=>t σ H fun xs H1=>xs.length≤sizeLine∧∀ p,H1 p=none→Q (.ref p) (upd H1 p (.lst xs))
theorem KY {x1}(h:PA X es t):PE X (.Tuple es x1 pos) (W6 t):=by
 intro pins s σ H Q I hq
 refine wpAny_Tuple_spliced (bS (h pos pins s σ H _ I hq) fun us s1 ⟨xs,H1,I1,r,z,q⟩=>⟨by rw [←r.length];exact z,?_⟩)
 have hf:H1 s1.heap.objs.size=none:=I1.hok.fresh (Nat.le_refl _)
 refine ⟨.ref s1.heap.objs.size,upd H1 s1.heap.objs.size (.tup xs),I1.laid (t':=s1.toks) (fun b u e=>Heap.get?_push_of_some _ e) (Nat.le_refl _) ?_,rfl,q _ hf⟩
 exact ⟨z,us,r,⟨_,Heap.get?_push_size _ rfl,rfl,_,rfl⟩⟩
theorem KZ (h:PA X es t):PE X (.List es pos) (W7 t):=by
 intro pins s σ H Q I hq
 refine wpAny_List_spliced (bS (h pos pins s σ H _ I hq) fun us s1 ⟨xs,H1,I1,r,z,q⟩=>⟨by rw [←r.length];exact z,?_⟩)
 have hf:H1 s1.heap.objs.size=none:=I1.hok.fresh (Nat.le_refl _)
 refine ⟨.ref s1.heap.objs.size,upd H1 s1.heap.objs.size (.lst xs),I1.laid (t':=s1.toks) (fun b u e=>Heap.get?_push_of_some _ e) (Nat.le_refl _) ?_,rfl,q _ hf⟩
 exact ⟨z,us,0,r,Heap.get?_push_size _ rfl⟩
end
abbrev Sp:=List V→Hp→VK→XK→Prop
abbrev lI:=List Env→Hp→Shared→XK→Value→Shared→Prop
structure yr (P:Program) (w:World) (K:PySem.W.Frag) (mg:Str→Option Value) (base:Heap) (A:Around) (outer:List Env) (s:Shared) (H:Hp):Prop where
 frames:A.frames=some outer
 mod:Mod K mg base
 bs:∀ b o,base.get? b=some o→s.heap.get? b=some o∧H b=none
 q9:base.objs.size≤s.heap.objs.size
 jg:s.heap.FunFrames base outer
 sZ:∀ b∈frs outer,H b=none
 hok:fO P w H s.heap
 bare:AllBare s.gens
noncomputable def CE (outer:List Env) (P:Program) (w:World) (H:Hp) (s:Shared) (Q:VK) (u:Value) (s':Shared):Prop:=
 ∃ v H',s'.os=s.os∧AllBare s'.gens∧Un (frs outer) [] H H' s.heap s'.heap∧fO P w H' s'.heap∧RelV v u∧Q v H'
noncomputable def CR (CX:lI) (outer:List Env) (P:Program) (w:World) (H:Hp) (s:Shared) (Q:VK) (E:XK) (r:Result) (s':Shared):Prop:=
 match r with
 | .ok (.ret u)=>CE outer P w H s Q u s'
 | .ok _=>False
 | .error e=>CX outer H s E e s'
structure iO (P:Program) (w:World) (K:PySem.W.Frag) (mg:Str→Option Value) (base:Heap) (CX:lI) (k:Nat) (f:Addr) (fd:FuncData) (ps:List Str) (sp:Sp):Prop where
 len:∀ vs H Q E,sp vs H Q E→vs.length=ps.length
 run:∀ (A:Around) (outer:List Env) (s:Shared) (H:Hp) (args:Args) (us:List Value) (vs:List V) (Q:VK) (E:XK),gP k A→yr P w K mg base A outer s H→BindsTo s fd args (ps.zip us)→Vals vs us→sp vs H Q E→
  codeAny (model P w) A (.call (.ref f) args) (CR CX outer P w H s Q E) s
section
variable {X:Cx}{pins:List (Addr×Obj)}{σ:St}{H:Hp}{s s':Shared}
theorem Inv.W8 (I:Inv X pins σ H s):yr X.prog X.w X.K X.mg X.base X.A X.stack s H:=
 ⟨I.ok.frames,I.ok.mod,I.bs,Nat.le_trans I.ok.q9 I.sz,I.stack,I.wI,I.hok,I.bare⟩
theorem Inv.after {Q:VK}{u:Value}(I:Inv X pins σ H s) (h:CE X.stack X.prog X.w H s Q u s'):EP X pins σ Q u s':=by
 obtain ⟨v,H',os,bare,un,hok,r,q⟩:=h
 obtain ⟨hh,g,d,t,os'⟩:=s'
 obtain rfl:os'=s.os:=os
 exact ⟨v,H',I.call (h':=hh) (g':=g) (d':=d) (t':=t) (ch:=[]) un hok bare (fun b z=>absurd z (by simp)),r,q⟩
end
noncomputable def RC (sp:Sp) (jD:List V) (E:XK) (t:TA):TE:=fun σ H Q=>t σ H fun vs H1=>sp (vs++jD) H1 Q E
noncomputable def Binds (K:PySem.W.Frag) (fd:FuncData) (ps:List Str) (ds:List Value):Prop:=
 ∀ (s:Shared) (us:List Value),K.In s.heap→(us++ds).length=ps.length→BindsTo s fd ⟨us,[]⟩ (ps.zip (us++ds))
theorem Binds.all {K:PySem.W.Frag}{fd:FuncData}{ps:List Str}(h:∀ us:List Value,us.length=ps.length→bindArgs fd ⟨us,[]⟩=pure (ps.zip us)):Binds K fd ps []:=fun s us _ hl=>by
 rw [List.append_nil] at hl ⊢
 exact .of_eq (h us hl)
noncomputable def Passes (CX:lI) (X:Cx) (E:XK):Prop:=∀ (pins:List (Addr×Obj)) (σ:St) (H:Hp) (s:Shared) (e:Value) (s':Shared),Inv X pins σ H s→CX X.stack H s E e s'→X.xe e s'
section
variable {X:Cx}{CX:lI}{k:Nat}{f C:Addr}{fd:FuncData}{ps:List Str}{sp:Sp}{jD:List V}{ds:List Value}{E:XK}{x m:Str}{p pos apos:Pos}{e o:Expr}{es:List Expr}{ta:TE}{t:TA}
theorem K0 {pins:List (Addr×Obj)}{σ:St}{H:Hp}{s:Shared}{Q:VK}{us:List Value}{vs:List V}(F:iO X.prog X.w X.K X.mg X.base CX k f fd ps sp) (hr:gP k X.A) (hb:Binds X.K fd ps ds) (hd:Vals jD ds) (hx:Passes CX X E)
  (I:Inv X pins σ H s) (r:Vals vs us) (h:sp (vs++jD) H Q E):wpAny (model X.prog X.w) X.A (call (.ref f) us) (EP X pins σ Q) X.xe s:=by
 have r2:Vals (vs++jD) (us++ds):=r.append hd
 have hl:(us++ds).length=ps.length:=by rw [←r2.length];exact F.len _ _ _ _ h
 refine wpAny_call (codeAny_mono (F.run X.A X.stack s H ⟨us,[]⟩ (us++ds) (vs++jD) Q E hr I.W8 (hb s us I.gE hl) r2 h) fun r s' hq=>?_)
 cases r with
 | error e=>exact hx pins σ H s e s' I hq
 | ok fl=>
  cases fl with
  | ret u=>exact I.after hq
  | next=>exact False.elim hq
  | brk=>exact False.elim hq
  | cont=>exact False.elim hq
theorem HU (F:iO X.prog X.w X.K X.mg X.base CX k f fd ps sp) (hr:gP k X.A) (hg:Gl X x) (hm:X.mg x=some (.ref f)) (hk:PySem.W.keepIn X.K (.ref f)=true) (hb:Binds X.K fd ps ds) (hd:Vals jD ds) (hx:Passes CX X E)
  (ha:PA X (e :: es) t) (hdb:(x==("__debug__" : Str))=false:=by decide) (he:starEach (e :: es) X.env=(false,eval e X.env) :: starEach es X.env:=by rfl) (hpl:(backTo pos (starEach es X.env)).any (·.1)=false:=by rfl) :
  PE X (.Call (.Name x p) (e :: es) [] pos) (RC sp jD E t):=by
 intro pins s σ H Q I h
 refine wpAny_Call_Name_kw (wK I hg hm ?_ hdb)
 refine PySem.W.callWith_K (h₀:=X.base) I.ok.mod.EY hk (bS (ha pos pins s σ H _ I h) fun us s1 ⟨vs,H1,I1,r,q⟩=>⟨I1.gE,?_⟩) he hpl
 exact K0 F hr hb hd hx I1 r q
structure Mk (K:PySem.W.Frag) (C f:Addr):Prop where
 makes:PySem.W.makesIn K C=true
 init:PySem.W.findIn K (.ref C) "__init__" = some (some (.ref f))
 fn:PySem.W.isFn K (.ref f)=true
 kp:PySem.W.keepIn K (.ref C)=true
end
section
variable {X:Cx}{CX:lI}{k:Nat}{f C:Addr}{fd:FuncData}{ps ks:List Str}{sp:Sp}{E:XK}{x m:Str}{p pos apos kpos:Pos}{e o:Expr}{es:List Expr}{kws:List Keyword}{te ta:TE}{t tk:TA}{nm:Option Str}
structure ZJ (K:PySem.W.Frag) (fd:FuncData) (ps ks:List Str) (g:List Value→List Value→List Value) (gV:List V→List V→List V):Prop where
 to:∀ (s:Shared) (us ws:List Value),K.In s.heap→(g us ws).length=ps.length→BindsTo s fd ⟨us,ks.zip ws⟩ (ps.zip (g us ws))
 rel:∀ {vs:List V} {us:List Value} {zs:List V} {ws:List Value},Vals vs us→Vals zs ws→Vals (gV vs zs) (g us ws)
variable {g:List Value→List Value→List Value}{gV:List V→List V→List V}
end
structure bu (N P:List Str) (sc:Scope):Prop where
 kind:sc.kind=.function
 co:sc.isCoroutine=false
 gen:sc.isGenerator=false
 nd:N.Nodup
 pre:N.take P.length=P
 par:∀ x∈P,sc.names.lookup x=some .local∨sc.names.lookup x=some .cell
 K1:∀ y∈sc.names,y.2≠.free
theorem rz {kindOf:Str→Option NameKind}{x:Str}:∀ {binds:List (Str×Value)}{m:Str→Option Value},(∀ v,(x,v)∉binds)→bindL kindOf binds m x=m x
 | [],_,_=>rfl
 | (n,v) :: r,m,h=>by
  unfold bindL
  rw [rz fun w hw=>h w (List.mem_cons_of_mem _ hw)]
  split
  ·have:x≠n:=by rintro rfl;exact h v List.mem_cons_self
   simp [this]
  ·rfl
theorem rA {kindOf:Str→Option NameKind}{x:Str}:∀ {binds:List (Str×Value)}{m:Str→Option Value},(∀ v,(x,v)∉binds)→bindC kindOf binds m x=m x
 | [],_,_=>rfl
 | (n,v) :: r,m,h=>by
  unfold bindC
  rw [rA fun w hw=>h w (List.mem_cons_of_mem _ hw)]
  split
  ·rfl
  ·have:x≠n:=by rintro rfl;exact h v List.mem_cons_self
   simp [this]
theorem rB {kindOf:Str→Option NameKind}{x:Str}{v:Value}:∀ {P:List Str}{vs:List Value}{i:Nat}{m:Str→Option Value},P.Nodup→P[i]?=some x→vs[i]?=some v→kindOf x=some .local→
  bindL kindOf (P.zip vs) m x=some v
 | [],_,_,_,_,h,_,_=>by simp at h
 | _ :: _,[],_,_,_,_,h,_=>by simp at h
 | p :: P,w :: vs,0,m,nd,h1,h2,hk=>by
  simp at h1 h2;subst h1;subst h2
  show bindL kindOf ((p,w) :: P.zip vs) m p=_
  unfold bindL
  rw [rz fun v hv=>(List.nodup_cons.mp nd).1 (List.of_mem_zip hv).1,if_pos hk]
  simp
 | p :: P,w :: vs,i+1,m,nd,h1,h2,hk=>by
  show bindL kindOf ((p,w) :: P.zip vs) m x=_
  unfold bindL
  exact rB (i:=i) (List.nodup_cons.mp nd).2 (by simpa using h1) (by simpa using h2) hk
theorem rC {kindOf:Str→Option NameKind}{x:Str}{v:Value}:∀ {P:List Str}{vs:List Value}{i:Nat}{m:Str→Option Value},P.Nodup→P[i]?=some x→vs[i]?=some v→kindOf x≠some .local→
  bindC kindOf (P.zip vs) m x=some v
 | [],_,_,_,_,h,_,_=>by simp at h
 | _ :: _,[],_,_,_,_,h,_=>by simp at h
 | p :: P,w :: vs,0,m,nd,h1,h2,hk=>by
  simp at h1 h2;subst h1;subst h2
  show bindC kindOf ((p,w) :: P.zip vs) m p=_
  unfold bindC
  rw [rA fun v hv=>(List.nodup_cons.mp nd).1 (List.of_mem_zip hv).1,if_neg hk]
  simp
 | p :: P,w :: vs,i+1,m,nd,h1,h2,hk=>by
  show bindC kindOf ((p,w) :: P.zip vs) m x=_
  unfold bindC
  exact rC (i:=i) (List.nodup_cons.mp nd).2 (by simpa using h1) (by simpa using h2) hk
noncomputable def start (N:List Str) (vs:List V):St:=vs.map some++List.replicate (N.length - vs.length) none
noncomputable def nY (CX:lI) (P:Program) (w:World) (K:PySem.W.Frag) (mg:Str→Option Value) (base:Heap) (N:List Str) (qual:Str) (scope:Scope) (f:Addr) (cd:Value) (A:Around) (outer:List Env) (s:Shared) (H:Hp) (E:XK):Cx where
 prog:=P
 w:=w
 K:=K
 mg:=mg
 base:=base
 A:=A.deeper (envOfC qual scope s.heap.objs.size f cd)
 N:=N
 s₀:=s
 H₀:=H
 env:=envOfC qual scope s.heap.objs.size f cd
 outer:=outer
 stack:=envOfC qual scope s.heap.objs.size f cd :: outer
 ex:=[]
 calm:=true
 fn:=fun _=>true
 pn:=[]
 xe:=fun e s'=>wpAny (model P w) (A.deeper (envOfC qual scope s.heap.objs.size f cd)) (leaving (envOfC qual scope s.heap.objs.size f cd) e) (fun _ s''=>CX outer H s E e s'') (fun e' s''=>CX outer H s E e' s'') s'
theorem tF {sc:Scope}{n:Nat}{x:Str}(h:sc.names.lookup x=some .cell):∃ c,(cellsFrom n sc.names []).lookup x=some c:=by
 have q:=PySem.W.cellsFrom_some sc.names n [] (.inl h)
 exact Option.isSome_iff_exists.mp q
theorem Ac {CX:lI}{P:Program}{w:World}{K:PySem.W.Frag}{mg:Str→Option Value}{base:Heap}{N ps:List Str}{qual:Str}{scope:Scope}{f:Addr}{cd:Value}{A:Around}{outer:List Env}{s s1:Shared}{H:Hp}{E:XK}{us:List Value}{vs:List V}
  (S:bu N ps scope) (hd:A.handled=none) (e0:yr P w K mg base A outer s H) (hl:vs.length=ps.length) (r:Vals vs us)
  (x:InCallC s s.heap.objs.size (bindL (envOfC qual scope s.heap.objs.size f cd).kindOf (ps.zip us) fun _=>none) (cellsFrom (s.heap.objs.size+1) scope.names []) (bindC (envOfC qual scope s.heap.objs.size f cd).kindOf (ps.zip us) fun _=>none) s1) :
  Inv (nY CX P w K mg base N qual scope f cd A outer s H E) [] (start N vs) H s1:=by
 have hpl:ps.length≤N.length:=by have:=congrArg List.length S.pre;rw [List.length_take] at this;omega
 obtain ⟨h1,tk,rfl,hk⟩:=x.done
 have Ad:∀ b:Addr,b∉(nY CX P w K mg base N qual scope f cd A outer s H E).ex:=fun b z=>absurd (show b∈([]:List Addr) from z) (by simp)
 refine ⟨⟨e0.mod,S.kind,rfl,rfl,Nat.le_refl _,fun y z c h1 h2=>?_,fun y hy=>?_,fun y c _ h=>?_,fun _=>hd,Around.frames_deeper e0.frames,.inr ⟨rfl,rfl⟩,fun b z=>absurd z (Ad b),e0.bs,e0.q9,fun b _ _=>Ad b,fun b z=>absurd z (Ad b),e0.jg,e0.sZ⟩,
  rfl,e0.bare,Un.kept hk,⟨_,x.toInCall.ns,fun i y v h1 h2 h3=>?_⟩,fun y c h=>⟨_,x.cell y c h⟩,e0.hok.fresh (Nat.le_refl _),fun y c h=>?_,fun p hp=>absurd (show p∈([]:List (Addr×Obj)) from hp) (by simp),e0.hok.kept hk,?_⟩
 ·exact name_of_addr x.apart (PySem.mem_of_lookup h1) (PySem.mem_of_lookup h2)
 ·have hy:scope.names.lookup y=some .cell∨scope.names.lookup y=some .free:=hy
  rcases hy with hy | hy
  ·exact tF hy
  ·exact absurd rfl (S.K1 _ (PySem.mem_of_lookup hy))
 ·exact Nat.le_of_lt (x.above y c (PySem.mem_of_lookup h))
 ·have hi:i<vs.length:=by
   unfold start at h2
   by_cases hi:i<vs.length
   ·exact hi
   ·rw [List.getElem?_append_right (by simpa using hi)] at h2
    rw [List.getElem?_replicate] at h2
    split at h2 <;> cases h2
  have ha:vs[i]?=some v:=by
   unfold start at h2
   rw [List.getElem?_append_left (by simpa using hi),List.getElem?_map] at h2
   cases e:vs[i]? with
   | none=>rw [e] at h2;cases h2
   | some a=>rw [e] at h2;cases h2;rfl
  obtain ⟨u,hu,rv⟩:=r.get ha
  have hp:ps[i]?=some y:=by
   rw [←S.pre,List.getElem?_take_of_lt (by omega)];exact h1
  have UD:ps.Nodup:=by rw [←S.pre];exact S.nd.sublist (List.take_sublist _ _)
  refine ⟨u,rv,?_⟩
  rcases S.par y (List.mem_of_getElem? hp) with k | k
  ·exact .inl ⟨k,rB UD hp hu k⟩
  ·obtain ⟨c,e⟩:=tF (n:=s.heap.objs.size+1) k
   refine .inr ⟨.inl k,c,e,?_⟩
   have q:=x.cell y c e
   rw [rC UD hp hu (by show scope.names.lookup y≠_;rw [k];decide)] at q
   exact q
 ·exact e0.hok.fresh (Nat.le_of_lt (x.above y c (PySem.mem_of_lookup h)))
 ·unfold start
  show _=N.length
  rw [List.length_append,List.length_map,List.length_replicate]
  omega
theorem RD {CX:lI}{P:Program}{w:World}{K:PySem.W.Frag}{mg:Str→Option Value}{base:Heap}{k:Nat}{f:Addr}{name qual:Str}{params:Arguments}{body:List Stmt}{scope:Scope}{dV kV doc pm cdv ct oc:Value}{an od:Option Addr}
  {osl:Array (Option Value)} {N ps:List Str} {sp:Sp} (lk:K.lookup f=some ⟨oc,od,.func (PySem.W.fnOf name qual params body scope dV kV doc pm an cdv ct),osl⟩) (hcd:PySem.W.codeIn K cdv qual=true) (S:bu N ps scope)
  (len:∀ vs H Q E,sp vs H Q E→vs.length=ps.length)
  (hbody:∀ (A:Around) (outer:List Env) (s:Shared) (H:Hp) (vs:List V) (Q:VK) (E:XK),gP k (A.deeper (envOfC qual scope s.heap.objs.size f cdv))→sp vs H Q E→
   ∃ t,iK (nY CX P w K mg base N qual scope f cdv A outer s H E) body t∧t { nx:=fun _ H'=>Q .bB H',rt:=Q } (start N vs) H) :
  iO P w K mg base CX (k+1) f (PySem.W.fnOf name qual params body scope dV kV doc pm an cdv ct) ps sp:=by
 refine ⟨len,fun A outer s H args us vs Q E hr e0 hb r kq=>?_⟩
 have hl:=len _ _ _ _ kq
 have KX:K.In s.heap:=e0.mod.EY.keeps fun b o e=>(e0.bs b o e).1
 have lim:s.heap.NoLimit:=e0.mod.nolimit.keeps fun b o e=>(e0.bs b o e).1
 have hkind:∀ y∈ps.zip us,scope.names.lookup y.1=some .local∨(scope.names.lookup y.1=some .cell∧((cellsFrom (s.heap.objs.size+1) scope.names []).lookup y.1).isSome=true):=fun ⟨n,v⟩ hy=>by
  rcases S.par n (List.of_mem_zip hy).1 with q | q
  ·exact .inl q
  ·exact .inr ⟨q,PySem.W.cellsFrom_some _ _ _ (.inl q)⟩
 refine codeAny_call_function hr.depth (KX _ _ lk) rfl S.co S.gen rfl (PySem.W.codeRec_of KX hcd) (hb _ _ _ _ ?_)
 refine wpAny_newFunctionEnv_cells S.kind hkind fun env he s1 x=>?_
 subst he
 refine ⟨lim.keeps x.toInCall.keep,codeAny_func ?_⟩
 obtain ⟨t,ht,hq⟩:=hbody A outer s H vs Q E (hr.deeper _) kq
 have I:Inv (nY CX P w K mg base N qual scope f cdv A outer s H E) [] (start N vs) H s1:=Ac S hr.hd e0 hl r x
 refine wpAny_mono (ht [] s1 (start N vs) H _ I hq) (fun fl s' hs=>?_) fun e s' hs=>hs
 have fin:∀ {σ':St} {H':Hp} {v:V} {u:Value},Inv (nY CX P w K mg base N qual scope f cdv A outer s H E) [] σ' H' s'→RelV v u→Q v H'→CE outer P w H s Q u s':=
  fun {σ' H' v u} J rv q=>⟨v,H',J.os,J.bare,J.base,J.hok,rv,q⟩
 cases fl with
 | ret u=>
  obtain ⟨v,σ',H',J,rv,q⟩:=hs
  exact fin J rv q
 | next=>
  obtain ⟨σ',H',J,q⟩:=hs
  exact fin (v:=V.bB) (u:=Value.none) J rfl q
 | brk=>
  obtain ⟨_,_,_,q⟩:=hs
  exact False.elim q
 | cont=>
  obtain ⟨_,_,_,q⟩:=hs
  exact False.elim q
end L2
namespace L2
open PySem PySem.Spec PyProof.Rows
section
variable {X:Cx}{x:Str}{p pos:Pos}{e:Expr}{es:List Expr}{t:TA}{id T:String}{r:List V→Hp→VK→Prop}
noncomputable def K2 (r:List V→Hp→VK→Prop) (t:TA):TE:=fun σ H Q=>t σ H fun vs H1=>r vs H1 Q
theorem tG (hc:gI X (.builtin id) r) (hg:Gl X x) (hm:X.mg x=none) (hv:bootBuiltins x=some (.builtin id)) (ha:PA X (e :: es) t) (hn:x≠"__name__" :=by decide) (hdb:(x==("__debug__" : Str))=false:=by decide)
  (he:starEach (e :: es) X.env=(false,eval e X.env) :: starEach es X.env:=by rfl) (hpl:(backTo pos (starEach es X.env)).any (·.1)=false:=by rfl):PE X (.Call (.Name x p) (e :: es) [] pos) (K2 r t):=by
 intro pins s σ H Q I h
 refine wpAny_Call_Name_kw (iu I hg hm hv ?_ hn hdb)
 exact PyProof.Rows.callWith_builtin1 (bS (ha pos pins s σ H _ I h) fun us s1 ⟨vs,H1,I1,r1,q1⟩=>hc pins s1 σ H1 vs us Q I1 r1 q1) he hpl
theorem Ae (hc:gI X (.type T) r) (hg:Gl X x) (hm:X.mg x=none) (hv:bootBuiltins x=some (.type T)) (ha:PA X (e :: es) t) (hn:x≠"__name__" :=by decide) (hdb:(x==("__debug__" : Str))=false:=by decide)
  (he:starEach (e :: es) X.env=(false,eval e X.env) :: starEach es X.env:=by rfl) (hpl:(backTo pos (starEach es X.env)).any (·.1)=false:=by rfl):PE X (.Call (.Name x p) (e :: es) [] pos) (K2 r t):=by
 intro pins s σ H Q I h
 refine wpAny_Call_Name_kw (iu I hg hm hv ?_ hn hdb)
 exact PyProof.Rows.callWith_type1 (bS (ha pos pins s σ H _ I h) fun us s1 ⟨vs,H1,I1,r1,q1⟩=>hc pins s1 σ H1 vs us Q I1 r1 q1) he hpl
end
end L2
namespace HT
open PySem PyProof.Rows
section
open PySem.SeqAt
open PySem.AutoSeq1 (wpAny_loadPart')
open PySem.MeetsSeq PySem.MeetsSeq2 PySem.MeetsSeq3
end
section
variable {prog:Program}{w:World}{A:Around}{E:Value→Shared→Prop}{s:Shared}
theorem HV {t b:Addr}{vs ws:List Value}{Q:Value→Shared→Prop}(ht:IsTup s.heap t vs.toArray) (hb:IsTup s.heap b ws.toArray) (hv:vs≠[])
  (h1:ws=[]→Q (.ref t) s) (h2:ws≠[]→Q (.ref s.heap.objs.size) { s with heap:=s.heap.push { cls:=.type "tuple",data:=.seq (vs++ws).toArray }})
  (hsz:vs.length+ws.length≤sizeLine):wpAny (model prog w) A (binaryOp .Add (.ref t) (.ref b)) Q E s:=by
 obtain ⟨⟨cls,dd,data,sl⟩,ho,hc,n,hd⟩:=id ht
 obtain ⟨⟨W9,dd2,data2,sl2⟩,ho2,hc2,n2,hd2⟩:=id hb
 simp only at hc hd hc2 hd2
 subst hc hd hc2 hd2
 have e:vs.toArray++ws.toArray=(vs++ws).toArray:=by simp
 by_cases hw:ws=[]
 ·exact concat_meets ⟨_,ho,rfl⟩ ⟨_,ho2,rfl⟩ noFill_tuple_add seq_tuple_add PySem.F.slot_tuple_add PySem.F.entry_tuple_add (PySem.F.args_tuple_add_2 _ _)
   (tuple_addW1 t b vs.toArray ws.toArray n n2 dd dd2 sl sl2 (by simpa using hv) (by simp [hw])) ⟨ho,ho2,h1 hw⟩
 ·refine concat_meets ⟨_,ho,rfl⟩ ⟨_,ho2,rfl⟩ noFill_tuple_add seq_tuple_add PySem.F.slot_tuple_add PySem.F.entry_tuple_add (PySem.F.args_tuple_add_2 _ _)
   (tuple_addW2 t b vs.toArray ws.toArray n n2 dd dd2 sl sl2 (by simpa using hv) (by simpa using hw) (by rw [List.size_toArray,List.size_toArray];exact hsz)) ⟨ho,ho2,?_⟩
  rw [e]
  exact h2 hw
noncomputable def aU (n d:Nat):Option Int→Nat
 | none=>d
 | some v=>if v<0 then (v+(n:Int)).toNat else min v.toNat n
theorem tH (n d:Nat) (hd:d≤n) (o:Option Int):aU n d o≤n:=by
 cases o with
 | none=>exact hd
 | some v=>
  show (if v<0 then (v+(n:Int)).toNat else min v.toNat n)≤n
  by_cases hv:v<0
  ·rw [if_pos hv];omega
  ·rw [if_neg hv];exact Nat.min_le_right _ _
theorem wO (v:Int) (n d:Nat):(if v<0 then max (v+(n:Int)) 0 else min v (n:Int))=((aU n d (some v):Nat):Int):=by
 show (if v<0 then max (v+(n:Int)) 0 else min v (n:Int))=(((if v<0 then (v+(n:Int)).toNat else min v.toNat n):Nat):Int)
 by_cases hv:v<0
 ·simp only [if_pos hv];omega
 ·simp only [if_neg hv];omega
theorem yu (lo hi:Option Int) (n:Nat):Builtin.Slice.sliceAdjust lo hi 1 (n:Int)=(((aU n 0 lo:Nat):Int),((aU n n hi:Nat):Int)):=by
 have h1:¬ ((1:Int)<0):=by omega
 unfold Builtin.Slice.sliceAdjust
 simp only [h1,if_false]
 refine Prod.ext ?_ ?_
 ·cases lo with
  | none=>rfl
  | some v=>exact wO v n 0
 ·cases hi with
  | none=>rfl
  | some v=>exact wO v n n
theorem yv (i j:Nat):Builtin.Slice.slicePlaces (i:Int) (j:Int) 1=j - i:=by
 unfold Builtin.Slice.slicePlaces
 have h1:(1:Int) > 0:=by omega
 simp only [h1,if_true,Int.ediv_one]
 split <;> omega
theorem oW {v:Value}{o:Option Int}{Q:Option Int→Shared→Prop}(p:IsPart v o) (h:Q o s):wpAny (model prog w) A (Builtin.Slice.slicePartIndex v) Q E s:=by
 cases p with
 | none=>exact slicePart_none h
 | int i t=>exact slicePart_int h
theorem jE {sl:Addr}{vl vu:Value}{lo hi:Option Int}{n:Nat}{Q:Int×Int×Nat→Shared→Prop}(hs:s.heap.IsSliceOf sl vl vu .none)(pl:IsPart vl lo)(pu:IsPart vu hi)
  (h:Q (((aU n 0 lo:Nat):Int),1,aU n n hi - aU n 0 lo) s):wpAny (model prog w) A (Builtin.Slice.sliceApplied (.ref sl) (pure (n:Int))) Q E s:=by
 obtain ⟨os,hos,hcs,hds⟩:=id hs
 unfold Builtin.Slice.sliceApplied Builtin.Slice.sliceFields
 refine wpAny_bind (wpAny_bind (wpAny_field hos hds (x:=vl) rfl (wpAny_bind (wpAny_field hos hds (x:=vu) rfl (wpAny_bind (wpAny_field hos hds (x:=.none) rfl (wpAny_pure ?_)))))))
 refine wpAny_bind (slicePart_none ?_)
 show wpAny _ _ (if ((1:Int)==0)=true then _ else _) _ _ s
 rw [if_neg (by decide)]
 refine wpAny_bind (oW pl (wpAny_bind (oW pu (wpAny_bind (wpAny_pure ?_)))))
 show wpAny _ _ (match Builtin.Slice.sliceAdjust lo hi 1 (n:Int) with | (lo,hi)=>pure (lo,(1:Int),Builtin.Slice.slicePlaces lo hi 1)) _ _ s
 rw [yu lo hi n]
 show wpAny _ _ (pure (((aU n 0 lo:Nat):Int),(1:Int),Builtin.Slice.slicePlaces ((aU n 0 lo:Nat):Int) ((aU n n hi:Nat):Int) 1)) _ _ s
 rw [yv]
 exact wpAny_pure h
theorem Cy (xs:Array Value) (i k:Nat):((List.range k).filterMap fun (m:Nat)=>xs[((i:Int)+(m:Int)*1).toNat]?).toArray=((xs.toList.drop i).take k).toArray:=by
 have e:(fun (m:Nat)=>xs[((i:Int)+(m:Int)*1).toNat]?)=fun m=>xs[i+m]?:=by
  funext m
  have:((i:Int)+(m:Int)*1).toNat=i+m:=by omega
  rw [this]
 rw [e]
 have:=pick_run xs i k
 rw [List.filterMap_map] at this
 have e2:((fun x=>xs[x]?) ∘ fun x=>i+x)=fun m=>xs[i+m]?:=rfl
 rw [e2] at this
 rw [this]
theorem nF {t sl:Addr}{items:Array Value}{vl vu:Value}{lo hi:Option Int}{Q:Value→Shared→Prop}(ht:IsTup s.heap t items)(hs:s.heap.IsSliceOf sl vl vu .none)(pl:IsPart vl lo)(pu:IsPart vu hi)
  (hw:¬ (aU items.size 0 lo=0∧aU items.size items.size hi=items.size))
  (h:Q (.ref s.heap.objs.size) { s with heap:=s.heap.push { cls:=.type "tuple",data:=.seq ((items.toList.drop (aU items.size 0 lo)).take (aU items.size items.size hi - aU items.size 0 lo)).toArray }})
  (hsz:items.size≤sizeLine):wpAny (model prog w) A (getItem (.ref t) (.ref sl)) Q E s:=by
 have sD:sizeOk (.seq ((items.toList.drop (aU items.size 0 lo)).take (aU items.size items.size hi - aU items.size 0 lo)).toArray):=by
  show ((items.toList.drop (aU items.size 0 lo)).take (aU items.size items.size hi - aU items.size 0 lo)).toArray.size≤sizeLine
  rw [List.size_toArray,List.length_take,List.length_drop,Array.length_toList]
  omega
 have hj:aU items.size items.size hi≤items.size:=tH _ _ (Nat.le_refl _) hi
 obtain ⟨os,hos,hcs,hds⟩:=id hs
 have K3:s.TypeIs (.ref sl) "slice" :=⟨os,hos,hcs⟩
 unfold getItem
 try with_reducible refine wpAny_holding ?_
 first | refine wpAny_bind (wpAny_pure ?_) | skip
 refine wpAny_bind (wpAny_sequenceKey ht.typeIs (by decide) ?_)
 refine wpAny_bind (wpAny_callSpecial?_slot (name:=Str.ofString "__getitem__") ht.typeIs PyProof.Rows.slot_tuple_getitem
  (wpAny_call_entry PyProof.Rows.slot_tuple_getitem ht.typeIs entry_tuple_getitem ?_ (args_tuple_getitem _ _)))
 show wpAny _ _ (Builtin.Tuple.tupleItemsOf (.ref t) >>= _) _ _ s
 refine wpAny_bind (tupleItemsOf_ ht ?_)
 refine wpAny_bind (wpAny_typeOf K3 ?_)
 rw [if_pos (by decide)]
 refine wpAny_bind (jE hs pl pu ?_)
 have hno:¬ ((((aU items.size 0 lo:Nat):Int)==0&&(1:Int)==1&&(aU items.size items.size hi - aU items.size 0 lo)==items.size)=true):=by
  intro q
  rw [Bool.and_eq_true,Bool.and_eq_true] at q
  have q1:((aU items.size 0 lo:Nat):Int)=0:=eq_of_beq q.1.1
  have q2:aU items.size items.size hi - aU items.size 0 lo=items.size:=eq_of_beq q.2
  exact hw ⟨by omega,by omega⟩
 show wpAny _ _ (if (((aU items.size 0 lo:Nat):Int)==0&&(1:Int)==1&&(aU items.size items.size hi - aU items.size 0 lo)==items.size)=true then _ else _) _ _ s
 rw [if_neg hno,Cy]
 first
  | exact wpAny_bind (m:=Builtin.Tuple.tupleExact _) (wpAny_newObj_type (wpAny_pure ⟨_,rfl,wpAny_pure h⟩) sD)
  | exact wpAny_bind (m:=Builtin.Tuple.tupleExact _) (wpAny_newObj_type (wpAny_bind (wpAny_pure (wpAny_pure ⟨_,rfl,wpAny_pure h⟩))) sD)
  | exact wpAny_bind (wpAny_bind (m:=Builtin.Tuple.tupleExact _) (wpAny_newObj_type (wpAny_pure (wpAny_pure ⟨_,rfl,wpAny_pure h⟩)) sD))
  | exact wpAny_bind (wpAny_bind (m:=Builtin.Tuple.tupleExact _) (wpAny_newObj_type (wpAny_pure ⟨_,rfl,wpAny_pure h⟩) sD))
end
end HT
namespace L2
open PySem PySem.Spec PyProof.Rows
abbrev TO:=St→Hp→(Option Int→Hp→Prop)→Prop
noncomputable def PO (X:Cx) (e:Option Expr) (t:TO):Prop:=
 ∀ (pins:List (Addr×Obj)) (s:Shared) (σ:St) (H:Hp) (Q:Option Int→Hp→Prop),Inv X pins σ H s→t σ H Q→
  wpAny (model X.prog X.w) X.A (evalPart e X.env) (fun u s'=>∃ o H',Inv X pins σ H' s'∧IsPart u o∧Q o H') X.xe s
noncomputable def HW:TO:=fun _ H Q=>Q none H
noncomputable def RE (t:TE):TO:=fun σ H Q=>t σ H fun x H1=>∃ i,x=.int i∧Q (some i) H1
section
variable {X:Cx}{e:Expr}{te:TE}{lo hi:Option Expr}{tl th:TO}{pos p2:Pos}
theorem HX:PO X none HW:=by
 intro pins s σ H Q I h
 rw [evalPart_none]
 exact wpAny_pure ⟨none,H,I,.none,h⟩
theorem HY (h:PE X e te):PO X (some e) (RE te):=by
 intro pins s σ H Q I hw
 rw [evalPart_some]
 refine bS (h pins s σ H _ I hw) fun u s1 ⟨x,H1,I1,r1,q1⟩=>?_
 obtain ⟨i,rfl,q⟩:=q1
 obtain ⟨t,rfl⟩:=r1
 exact ⟨some i,H1,I1,.int i t,q⟩
noncomputable def kr (X:Cx) (r:V→Option Int→Option Int→Hp→VK→Prop):Prop:=
 ∀ (pins:List (Addr×Obj)) (s:Shared) (σ:St) (H:Hp) (x:V) (v vl vu:Value) (lo hi:Option Int) (sl:Addr) (Q:VK),Inv X pins σ H s→RelV x v→s.heap.IsSliceOf sl vl vu .none→IsPart vl lo→IsPart vu hi→r x lo hi H Q→
  ∃ T id,typeLookup (.type T) "__getitem__" = pure (some (.builtin id))∧s.TypeIs v T∧wpAny (model X.prog X.w) X.A (getItem v (.ref sl)) (EP X pins σ Q) X.xe s
noncomputable def ZK (r:V→Option Int→Option Int→Hp→VK→Prop) (te:TE) (tl th:TO):TE:=fun σ H Q=>te σ H fun x H1=>tl σ H1 fun l H2=>th σ H2 fun u H3=>r x l u H3 Q
theorem Cz {r:V→Option Int→Option Int→Hp→VK→Prop}(hr:kr X r) (he:PE X e te) (hl:PO X lo tl) (hu:PO X hi th):PE X (.Subscript e (.Slice lo hi none p2) pos) (ZK r te tl th):=by
 intro pins s σ H Q I h
 refine Subscript_ (bS (he pins s σ H _ I h) fun v s1 ⟨x,H1,I1,r1,q1⟩=>?_)
 refine wpAny_Slice (bS (hl pins s1 σ H1 _ I1 q1) fun vl s2 ⟨l,H2,I2,pl,q2⟩=>bS (hu pins s2 σ H2 _ I2 q2) fun vu s3 ⟨u,H3,I3,pu,q3⟩=>?_)
 rw [evalPart_none]
 refine wpAny_pure ?_
 have I4:Inv X pins σ H3 { s3 with heap:=s3.heap.push { cls:=.type "slice",data:=.fields #[vl,vu,.none]}}:=I3.kept (t':=s3.toks) fun b ob q=>Heap.get?_push_of_some _ q
 obtain ⟨T,id,hT,ht,hg⟩:=hr pins { s3 with heap:=s3.heap.push { cls:=.type "slice",data:=.fields #[vl,vu,.none]}} σ H3 x v vl vu l u s3.heap.objs.size Q I4 r1 (Heap.IsSliceOf.new ..) pl pu q3
 show wpAny (model X.prog X.w) X.A (subscriptTail e (.Slice lo hi none p2) v (.ref s3.heap.objs.size)) (EP X pins σ Q) X.xe { s3 with heap:=s3.heap.push { cls:=.type "slice",data:=.fields #[vl,vu,.none]}}
 exact tail_any (ops:=[.ref s3.heap.objs.size,v]) ht hT hg (by with_unfolding_all rfl)
noncomputable def lW (xs:List V) (lo hi:Option Int):List V:=(xs.drop (HT.aU xs.length 0 lo)).take (HT.aU xs.length xs.length hi - HT.aU xs.length 0 lo)
theorem nH (xs:List V) (lo hi:Option Int):(lW xs lo hi).length≤xs.length:=by
 unfold lW
 rw [List.length_take,List.length_drop]
 omega
noncomputable def Xa (K:PySem.W.Frag):V→Option Int→Option Int→Hp→VK→Prop:=fun x lo hi H Q=>∃ a xs,x=.ref a∧dI K H a xs∧
 ¬ (HT.aU xs.length 0 lo=0∧HT.aU xs.length xs.length hi=xs.length)∧∀ p,H p=none→Q (.ref p) (upd H p (.tup (lW xs lo hi)))
theorem K4:kr X (Xa X.K):=by
 intro pins s σ H x v vl vu lo hi sl Q I rx hs pl pu h
 obtain ⟨a,xs,rfl,hx,hw,q⟩:=h
 cases rx
 obtain ⟨its,r,ht,hz⟩:=I.tuple hx
 have hlen:its.toArray.size=xs.length:=by rw [List.size_toArray];exact r.length.symm
 refine ⟨"tuple",_,PyProof.Rows.slot_tuple_getitem.lookup,ht.typeIs,?_⟩
 refine HT.nF ht hs pl pu (by rw [hlen];exact hw) ?_ (by rw [hlen];exact hz)
 rw [hlen]
 refine ⟨.ref s.heap.objs.size,_,I.laid (t':=s.toks) (o:=.tup (lW xs lo hi)) (fun b ob q=>Heap.get?_push_of_some _ q) (Nat.le_refl _) ?_,rfl,q _ (I.hok.fresh (Nat.le_refl _))⟩
 exact ⟨Nat.le_trans (nH xs lo hi) hz,_,(r.drop (HT.aU xs.length 0 lo)).take (HT.aU xs.length xs.length hi - HT.aU xs.length 0 lo),IsTup.new _ _⟩
noncomputable def RG (K:PySem.W.Frag):R2:=fun x y H Q=>∃ a b xs ys,x=.ref a∧y=.ref b∧dI K H a xs∧dI K H b ys∧xs≠[]∧xs.length+ys.length≤sizeLine∧
 (ys=[]→Q (.ref a) H)∧(ys≠[]→∀ p,H p=none→Q (.ref p) (upd H p (.tup (xs++ys))))
theorem Vals.qj {xs:List V}{us:List Value}(r:Vals xs us):us=[]↔xs=[]:=by
 cases r with
 | nil=>simp
 | cons _ _=>simp
theorem HZ:d7 X (binaryOp .Add) (RG X.K):=by
 intro pins s σ H x y v u Q I rx ry h
 obtain ⟨a,b,xs,ys,rfl,rfl,ha,hb,hx,hz,q1,q2⟩:=h
 cases rx
 cases ry
 obtain ⟨its,r1,p1,_⟩:=I.tuple ha
 obtain ⟨its2,r2,p2,_⟩:=I.tuple hb
 refine HT.HV p1 p2 (fun z=>hx (r1.qj.mp z)) (fun z=>⟨.ref a,H,I,rfl,q1 (r2.qj.mp z)⟩) (fun z=>?_) (by rw [←r1.length,←r2.length];exact hz)
 refine ⟨.ref s.heap.objs.size,_,I.laid (t':=s.toks) (o:=.tup (xs++ys)) (fun b ob q=>Heap.get?_push_of_some _ q) (Nat.le_refl _) ?_,rfl,q2 (fun w=>z (r2.qj.mpr w)) _ (I.hok.fresh (Nat.le_refl _))⟩
 exact ⟨by rw [List.length_append];exact hz,_,r1.append r2,IsTup.new _ _⟩
end
end L2
namespace L2
open PySem PySem.Spec PyProof.Rows
noncomputable def eG (n:Nat) (i:Int):Option Nat:=if 0≤i then (if i<n then some i.toNat else none) else if -(n:Int)≤i then some (i+n).toNat else none
noncomputable def b5 {α:Type}(xs:List α) (i:Int):Option α:=(eG xs.length i).bind fun j=>xs[j]?
theorem Ia {n:Nat}{i:Int}{j:Nat}(h:eG n i=some j):seqIndex? i n=some j∧j<n∧-(n:Int)≤i∧i<n:=by
 unfold eG at h
 by_cases h0:0≤i
 ·rw [if_pos h0] at h
  by_cases h1:i<n
  ·rw [if_pos h1] at h
   have e:i.toNat=j:=Option.some.inj h
   exact ⟨by rw [seqIndex_of h0 h1,e],by omega,by omega,h1⟩
  ·rw [if_neg h1] at h;cases h
 ·rw [if_neg h0] at h
  by_cases h1:-(n:Int)≤i
  ·rw [if_pos h1] at h
   have e:(i+n).toNat=j:=Option.some.inj h
   exact ⟨by rw [seqIndex_neg (by omega) h1,e],by omega,h1,by omega⟩
  ·rw [if_neg h1] at h;cases h
theorem qk {α:Type}{xs:List α}{i:Int}{v:α}(h:b5 xs i=some v):∃ j,seqIndex? i xs.length=some j∧xs[j]?=some v∧j<xs.length∧-(xs.length:Int)≤i∧i<xs.length:=by
 unfold b5 at h
 cases e:eG xs.length i with
 | none=>rw [e] at h;cases h
 | some j=>
  rw [e] at h
  obtain ⟨h1,h2,h3,h4⟩:=Ia e
  exact ⟨j,h1,h,h2,h3,h4⟩
theorem wQ {α:Type}{xs:List α}{j:Nat}{v:α}(h:xs[j]?=some v):b5 xs (j:Int)=some v:=by
 have hj:j<xs.length:=(List.getElem?_eq_some_iff.mp h).1
 have e:eG xs.length (j:Int)=some j:=by
  unfold eG
  rw [if_pos (by omega),if_pos (by omega)];simp
 unfold b5;rw [e];exact h
noncomputable def ql (b:Expr):Prop:=∀ o i,subscripted b false o i=operate [o,i] (getItem o i)
noncomputable def wR (X:Cx) (r:R2):Prop:=
 ∀ (value slice:Expr) (pins:List (Addr×Obj)) (s:Shared) (σ:St) (H:Hp) (x y:V) (v u:Value) (Q:VK),Inv X pins σ H s→RelV x v→RelV y u→r x y H Q→
  subscripted slice false v u=operate [v,u] (getItem v u)→wpAny (model X.prog X.w) X.A (subscriptTail value slice v u) (EP X pins σ Q) X.xe s
noncomputable def rD (X:Cx) (id:String) (r:V→List V→Hp→VK→Prop):Prop:=
 ∀ (pins:List (Addr×Obj)) (s:Shared) (σ:St) (H:Hp) (x:V) (xs:List V) (v:Value) (us:List Value) (Q:VK),Inv X pins σ H s→RelV x v→Vals xs us→r x xs H Q→
  wpAny (model X.prog X.w) X.A (call (.builtin id) (v :: us)) (EP X pins σ Q) X.xe s
section
variable {X:Cx}{a b:Expr}{ta tb:TE}{pos:Pos}
theorem RH {r:R2}(hr:wR X r) (ha:PE X a ta) (hb:PE X b tb) (hs:ql b):PE X (.Subscript a b pos) (z9 r ta tb):=by
 intro pins s σ H Q I h
 exact Subscript_ (yo ha hb I h fun v u s2 x y H2 I2 rx ry q=>hr a b pins s2 σ H2 x y v u Q I2 rx ry q (hs _ _))
noncomputable def Xb (K:PySem.W.Frag):R2:=fun x y H Q=>∃ p xs i v,x=.ref p∧y=.int i∧dZ K H p xs∧b5 xs i=some v∧Q v H
noncomputable def Xc (K:PySem.W.Frag):R2:=fun x y H Q=>∃ p xs i v,x=.ref p∧y=.int i∧dI K H p xs∧b5 xs i=some v∧Q v H
noncomputable def Xd:R2:=fun x y H Q=>∃ z i c,x=.str z∧y=.int i∧z.length≤sizeLine∧b5 z.cps.toList i=some c∧Q (.str ⟨#[c]⟩) H
theorem Ib:wR X (Xb X.K):=by
 intro value slice pins s σ H x y v u Q I rx ry h hs
 obtain ⟨p,xs,i,z,rfl,rfl,hq,he,q⟩:=h
 cases rx
 obtain ⟨t,rfl⟩:=ry
 obtain ⟨its,r,pl,hz⟩:=I.list hq
 obtain ⟨j,h1,h2,h3,h4,h5⟩:=qk he
 obtain ⟨w,ew,rw'⟩:=r.get h2
 have hl:=r.length
 have hn:=kj
 have fin:EP X pins σ Q w s:=⟨z,H,I,rw',q⟩
 by_cases h0:0≤i
 ·have hj:i.toNat=j:=by
   rw [seqIndex_of h0 h5] at h1
   exact Option.some.inj h1
  exact item_listR pl.isList h0 (by omega) (by rw [hj];simpa using ew) fin hs
 ·have hj:(i+(its.toArray.size:Int)).toNat=j:=by
   rw [seqIndex_neg (by omega) h4] at h1
   rw [List.size_toArray,←hl]
   exact Option.some.inj h1
  exact subscriptTail_builtinR (x:=w) pl.isList.typeIs slot_list_getitem.lookup
   (wpAny_getItem_list_neg (Q:=fun r s'=>r=w∧EP X pins σ Q r s') pl.isList (by omega) (by rw [List.size_toArray] <;> omega) (by omega) (by rw [hj];simpa using ew) ⟨rfl,fin⟩) hs
theorem K5:wR X (Xc X.K):=by
 intro value slice pins s σ H x y v u Q I rx ry h hs
 obtain ⟨p,xs,i,z,rfl,rfl,hq,he,q⟩:=h
 cases rx
 obtain ⟨t,rfl⟩:=ry
 obtain ⟨its,r,pl,hz⟩:=I.tuple hq
 obtain ⟨j,h1,h2,h3,h4,h5⟩:=qk he
 obtain ⟨w,ew,rw'⟩:=r.get h2
 have hl:=r.length
 have hn:=kj
 have fin:EP X pins σ Q w s:=⟨z,H,I,rw',q⟩
 exact subscriptTail_builtinR (x:=w) pl.typeIs slot_tuple_getitem.lookup
  (getItem_tuple (j:=j) (Q:=fun r s'=>r=w∧EP X pins σ Q r s') pl (by omega) (by omega) (by rw [List.size_toArray,←hl];exact h1) (by simpa using ew) ⟨rfl,fin⟩) hs
theorem K6:wR X Xd:=by
 intro value slice pins s σ H x y v u Q I rx ry h hs
 obtain ⟨z,i,c,rfl,rfl,hz,he,q⟩:=h
 obtain ⟨t,rfl⟩:=rx
 obtain ⟨t',rfl⟩:=ry
 obtain ⟨j,h1,h2,h3,h4,h5⟩:=qk he
 have hl:z.cps.toList.length=z.length:=by simp [Str.length]
 rw [hl] at h1 h4 h5
 have hn:=kj
 exact tail_any (typeIs_str s z t) slot_str_getitem.lookup (getItem_str (c:=c) (by
  have e1:decide (i < -(2 ^ 63:Int))=false:=decide_eq_false (by omega)
  have e2:decide (i≥2 ^ 63)=false:=decide_eq_false (by omega)
  rw [e1,e2,Bool.or_false]) (by rw [h1];simpa using h2) ⟨.str ⟨#[c]⟩,H,I.tok _,⟨_,rfl⟩,q⟩) hs
theorem tK (lo hi:Option Int) (n:Nat):(sliceBounds lo hi none n).1=((HT.aU n 0 lo:Nat):Int)∧(sliceBounds lo hi none n).2.1=((HT.aU n n hi:Nat):Int)∧(sliceBounds lo hi none n).2.2=1:=by
 refine ⟨?_,?_,rfl⟩
 ·cases lo with
  | none=>simp [sliceBounds,HT.aU]
  | some i=>
   simp only [sliceBounds,HT.aU,Option.getD_none,show (1:Int) > 0 by decide,if_true]
   by_cases h:i<0
   ·simp only [h,if_true] <;> omega
   ·simp only [h,if_false] <;> omega
 ·cases hi with
  | none=>simp [sliceBounds,HT.aU]
  | some i=>
   simp only [sliceBounds,HT.aU,Option.getD_none,show (1:Int) > 0 by decide,if_true]
   by_cases h:i<0
   ·simp only [h,if_true] <;> omega
   ·simp only [h,if_false] <;> omega
theorem sy (its:List Value) (lo hi:Option Int):slicePick its.toArray lo hi none=((its.drop (HT.aU its.length 0 lo)).take (HT.aU its.length its.length hi - HT.aU its.length 0 lo)).toArray:=by
 obtain ⟨h1,h2,h3⟩:=tK lo hi its.toArray.size
 unfold slicePick
 rw [h1,h2,h3]
 simp only [sliceRange_one,pick_run,List.size_toArray] <;> rfl
noncomputable def Xe (K:PySem.W.Frag):V→Option Int→Option Int→Hp→VK→Prop:=fun x lo hi H Q=>∃ a xs,x=.ref a∧dZ K H a xs∧∀ p,H p=none→Q (.ref p) (upd H p (.lst (lW xs lo hi)))
theorem Ic:kr X (Xe X.K):=by
 intro pins s σ H x v vl vu lo hi sl Q I rx hs pl pu h
 obtain ⟨a,xs,rfl,hx,q⟩:=h
 cases rx
 obtain ⟨its,r,ht,hz⟩:=I.list hx
 have hlen:=r.length
 refine ⟨"list",_,slot_list_getitem.lookup,ht.isList.typeIs,?_⟩
 refine wpAny_getItem_list_slice ht.isList hs pl pu .none (by simp) ?_ (by rw [List.size_toArray] <;> omega)
 rw [sy,←hlen]
 refine ⟨.ref s.heap.objs.size,_,I.laid (t':=s.toks) (o:=.lst (lW xs lo hi)) (fun b ob q=>Heap.get?_push_of_some _ q) (Nat.le_refl _) ?_,rfl,q _ (I.hok.fresh (Nat.le_refl _))⟩
 exact ⟨Nat.le_trans (nH xs lo hi) hz,_,0,(r.drop (HT.aU xs.length 0 lo)).take (HT.aU xs.length xs.length hi - HT.aU xs.length 0 lo),Heap.get?_push_size _ rfl⟩
noncomputable def sE:V→Bool
 | .bB=>true
 | .bl _=>true
 | .int _=>true
 | .str _=>true
 | _=>false
theorem lX:gI X (.builtin "len") (fun xs H Q=>∃ p ys,xs=[.ref p]∧(dZ X.K H p ys∨dI X.K H p ys)∧Q (.int ys.length) H):=by
 intro pins s σ H xs us Q I r h
 obtain ⟨p,ys,rfl,hq,q⟩:=h
 obtain ⟨u,rfl,rx⟩:=vals1 r
 cases rx
 have hn:=kj
 rcases hq with hq | hq
 ·obtain ⟨its,r',pl,hz⟩:=I.list hq
  have hlen:=r'.length
  exact Calls.call_len_list pl.isList (by simp only [List.size_toArray] <;> omega) ⟨.int ys.length,H,I.tok _,⟨s.toks+1,by rw [List.size_toArray,hlen]⟩,q⟩
 ·obtain ⟨its,r',pl,hz⟩:=I.tuple hq
  have hlen:=r'.length
  exact len_tuple pl (by simp only [List.size_toArray] <;> omega) ⟨.int ys.length,H,I.tok _,⟨s.toks+1,by rw [List.size_toArray,hlen]⟩,q⟩
theorem tL:gI X (.builtin "len") (fun xs H Q=>∃ z,xs=[.str z]∧z.length≤sizeLine∧Q (.int z.length) H):=by
 intro pins s σ H xs us Q I r h
 obtain ⟨z,rfl,hz,q⟩:=h
 obtain ⟨u,rfl,t,rfl⟩:=vals1 r
 have hn:=kj
 exact len_str (by omega) ⟨.int z.length,H,I.tok _,⟨_,rfl⟩,q⟩
theorem lJ:gI X (.type "tuple") (fun xs H Q=>∃ p ys,xs=[.ref p]∧((dZ X.K H p ys∧∀ l,H l=none→Q (.ref l) (upd H l (.tup ys)))∨(dI X.K H p ys∧Q (.ref p) H))):=by
 intro pins s σ H xs us Q I r h
 obtain ⟨p,ys,rfl,h⟩:=h
 obtain ⟨u,rfl,rx⟩:=vals1 r
 cases rx
 rcases h with ⟨hq,q⟩ | ⟨hq,q⟩
 ·obtain ⟨its,r',pl,hz⟩:=I.list hq
  have hlen:=r'.length
  refine call_tuple_list pl.isList (fun h' kp=>?_) (by simp only [List.size_toArray] <;> omega)
  have I1:Inv X pins σ H { s with heap:=h' }:=I.kept (t':=s.toks) kp
  have I2:Inv X pins σ (upd H h'.objs.size (.tup ys)) { s with heap:=h'.push { cls:=.type "tuple",data:=.seq its.toArray }}:=
   I1.laid (t':=s.toks) (fun b o e=>Heap.get?_push_of_some _ e) (Nat.le_refl _) (show dH X.prog X.w _ _ _ (.tup ys) from ⟨hz,its,r',IsTup.new _ _⟩)
  exact ⟨.ref h'.objs.size,_,I2,rfl,q _ (I1.hok.fresh (Nat.le_refl _))⟩
 ·obtain ⟨its,r',pl,hz⟩:=I.tuple hq
  exact call_tuple_same pl ⟨.ref p,H,I,rfl,q⟩
noncomputable def Af (K:PySem.W.Frag) (T:String) (x:V) (H:Hp):Prop:=match x with
 | .str _=>T = "str"
 | .int _=>T = "int"
 | .ref p=>(T = "list" ∧∃ xs,dZ K H p xs)∨(T = "tuple" ∧∃ o,K.lookup p=some o∧o.cls=.type "tuple" ∧o.dict=none)∨
   (T = "dict" ∧((∃ kvs,H p=some (.dK kvs))∨∃ kvs,H p=some (.dT kvs)))∨(T = "set" ∧∃ S n,H p=some (.set S n))
 | _=>False
theorem Ag {pins:List (Addr×Obj)}{σ:St}{H:Hp}{s:Shared}{T:String}{x:V}{v:Value}(I:Inv X pins σ H s) (r:RelV x v) (ty:Af X.K T x H) :
  s.TypeIs v T∧∀ a,v=.ref a→∃ ob,s.heap.get? a=some ob∧ob.dict=none:=by
 cases x with
 | str z=>
  obtain ⟨t,rfl⟩:=r
  cases (show T = "str" from ty)
  exact ⟨typeIs_str s z t,fun _ e=>nomatch e⟩
 | int i=>
  obtain ⟨t,rfl⟩:=r
  cases (show T = "int" from ty)
  exact ⟨typeIs_int s i t,fun _ e=>nomatch e⟩
 | ref p=>
  cases r
  rcases ty with ⟨rfl,xs,hq⟩ | ⟨rfl,o,hk,hc,hd⟩ | ⟨rfl,hk⟩ | ⟨rfl,S,n,hk⟩
  ·obtain ⟨its,_,pl,_⟩:=I.list hq
   refine ⟨pl.isList.typeIs,fun a e=>?_⟩
   cases e
   obtain ⟨o,n,e,c,hd,_⟩:=pl
   exact ⟨o,e,hd⟩
  ·refine ⟨⟨o,I.gE p o hk,hc⟩,fun a e=>?_⟩
   cases e
   exact ⟨o,I.gE _ o hk,hd⟩
  ·have z:∃ o,s.heap.get? p=some o∧o.ExactDict:=by
    rcases hk with ⟨kvs,hk⟩ | ⟨kvs,hk⟩
    ·obtain ⟨_,_,_,_,o,_,_,e,ex,_⟩:=I.hok p _ hk
     exact ⟨o,e,ex⟩
    ·obtain ⟨_,_,_,_,o,_,_,e,ex,_⟩:=I.hok p _ hk
     exact ⟨o,e,ex⟩
   obtain ⟨o,e,ex⟩:=z
   refine ⟨⟨o,e,ex.1⟩,fun a e2=>?_⟩
   cases e2
   exact ⟨o,e,ex.2.1⟩
  ·obtain ⟨o,_,_,_,e,ex,_⟩:=I.hok p _ hk
   refine ⟨⟨o,e,ex.1⟩,fun a e2=>?_⟩
   cases e2
   exact ⟨o,e,ex.2.1⟩
 | _=>exact False.elim ty
noncomputable def Xf (K:PySem.W.Frag) (T:String) (r:V→List V→Hp→VK→Prop) (to:TE):TE:=fun σ H Q=>to σ H fun x H1=>Af K T x H1∧r x [] H1 Q
noncomputable def ZL (K:PySem.W.Frag) (T:String) (r:V→List V→Hp→VK→Prop) (to:TE) (t:TA):TE:=fun σ H Q=>to σ H fun x H1=>Af K T x H1∧t σ H1 fun xs H2=>r x xs H2 Q
variable {o e:Expr}{es:List Expr}{to:TE}{t:TA}{name:Str}{apos cpos:Pos}{T id:String}{r:V→List V→Hp→VK→Prop}
theorem K7 (pa:PlainAttrs T) (slot:Slot T name id) (hty:typeOf (.builtin id)=pure (.type "method_descriptor")) (hm:rD X id r) (ho:PE X o to)
  (hbase:attributeBase o name X.env (eval o X.env)=eval o X.env:=by rfl) (hline:(apos.endLine==cpos.line)=true:=by rfl):PE X (.Call (.Attribute o name apos) [] [] cpos) (Xf X.K T r to):=by
 intro pins s σ H Q I h
 refine wpAny_Call_method0_late hbase hline (bS (ho pins s σ H _ I h) fun v s1 ⟨x,H1,I1,r1,ty,q1⟩=>?_)
 obtain ⟨h1,h2⟩:=Ag I1 r1 ty
 exact ⟨T,id,pa,slot,hty,h1,h2,Calls.callWith_builtin rfl (PySem.evalArgs_none (hm pins s1 σ H1 x [] v [] Q I1 r1 .nil q1))⟩
theorem RI (pa:PlainAttrs T) (slot:Slot T name id) (hty:typeOf (.builtin id)=pure (.type "method_descriptor")) (hm:rD X id r) (ho:PE X o to) (ha:PA X (e :: es) t)
  (hbase:attributeBase o name X.env (eval o X.env)=eval o X.env:=by rfl)
  (hfew:((backTo cpos (starEach (e :: es) X.env)).all (fun x=>!x.1)&&(backToKw cpos (keywordEach [] X.env)).all (fun x=>x.1.isSome)
   &&decide ((e :: es).length+([]:List Keyword).length+(if ([]:List Keyword).isEmpty then 0 else 1)<30))=true:=by rfl)
  (hline:(apos.endLine==cpos.line)=true:=by rfl) (hs:starEach (e :: es) X.env=(false,eval e X.env) :: starEach es X.env:=by rfl) (hplain:(backTo cpos (starEach es X.env)).any (·.1)=false:=by rfl) :
  PE X (.Call (.Attribute o name apos) (e :: es) [] cpos) (ZL X.K T r to t):=by
 intro pins s σ H Q I h
 refine wpAny_Call_method_late hbase hfew hline rfl (bS (ho pins s σ H _ I h) fun v s1 ⟨x,H1,I1,r1,ty,q1⟩=>?_)
 obtain ⟨h1,h2⟩:=Ag I1 r1 ty
 refine ⟨T,id,pa,slot,hty,h1,h2,?_⟩
 have hA:=ha cpos pins s1 σ H1 _ I1 q1
 rw [hs] at hA ⊢
 refine Calls.callWith_builtin (by show (false || (backTo cpos (starEach es X.env)).any (·.1))=false;rw [hplain] <;> rfl) (Calls.evalArgs_plain ?_)
 exact bS hA fun us s2 ⟨vs,H2,I2,r2,q2⟩=>hm pins s2 σ H2 x vs v us Q I2 r1 r2 q2
end
end L2
namespace L2
open PySem PySem.Spec PyProof.Rows
noncomputable def K8 (X:Cx) (id:String) (r:V→List V→Hp→VK→Prop):Prop:=
 ∀ (pins:List (Addr×Obj)) (s:Shared) (σ:St) (H:Hp) (x:V) (xs:List V) (v:Value) (us:List Value) (Q:VK),Inv X pins σ H s→RelV x v→Vals xs us→r x xs H Q→
  wpAny (model X.prog X.w) X.A (call (.builtin id) (v :: us)) (EP X pins σ Q) X.xe s
theorem Vals.one:∀ {x:V}{us:List Value},Vals [x] us→∃ u,us=[u]∧RelV x u
 | _,_,.cons r .nil=>⟨_,rfl,r⟩
theorem Vals.zero:∀ {us:List Value},Vals [] us→us=[]
 | _,.nil=>rfl
theorem Vals.dropLast {xs:List V}{us:List Value}(h:Vals xs us):Vals xs.dropLast us.dropLast:=by
 induction h with
 | nil=>exact .nil
 | cons r t ih=>
  cases t with
  | nil=>exact .nil
  | cons q t'=>exact .cons r ih
theorem Vals.reverse {xs:List V}{us:List Value}(h:Vals xs us):Vals xs.reverse us.reverse:=by
 induction h with
 | nil=>exact .nil
 | cons r t ih=>rw [List.reverse_cons,List.reverse_cons];exact Vals.append ih (.cons r .nil)
theorem Vals.rep {xs:List V}{us:List Value}(h:Vals xs us):∀ k:Nat,Vals (List.replicate k xs).flatten (List.replicate k us).flatten
 | 0=>.nil
 | k+1=>by
  rw [List.replicate_succ,List.replicate_succ,List.flatten_cons,List.flatten_cons]
  exact Vals.append h (Vals.rep h k)
theorem yw {α:Type}(l:List α):l.eraseIdx (l.length - 1)=l.dropLast:=by
 induction l with
 | nil=>rfl
 | cons a r ih=>
  cases r with
  | nil=>rfl
  | cons b r=>
   have e:(a :: b :: r).length - 1=((b :: r).length - 1)+1:=by
    have h1:(a :: b :: r).length=r.length+2:=rfl
    have h2:(b :: r).length=r.length+1:=rfl
    omega
   rw [e,List.eraseIdx_cons_succ,ih]
   all_goals rfl
theorem foldl_rep (its:List Value):∀ (k:Nat) (acc:List Value),
  List.foldl (fun x1 x2=>x1++x2) acc.toArray (List.replicate k its.toArray)=(acc++(List.replicate k its).flatten).toArray
 | 0,acc=>by simp
 | k+1,acc=>by
  have e:acc.toArray++its.toArray=(acc++its).toArray:=by simp
  have e2:(acc++its)++(List.replicate k its).flatten=acc++(List.replicate (k+1) its).flatten:=by
   rw [List.replicate_succ,List.flatten_cons,List.append_assoc]
  rw [←e2,←foldl_rep its k (acc++its),←e,List.replicate_succ,List.foldl_cons]
section
variable {X:Cx}{pins:List (Addr×Obj)}{σ:St}{H:Hp}{s:Shared}{l b:Addr}{xs ys zs:List V}
theorem Inv.CA {its its':List Value}{n:Nat}{f:Array Value→Array Value}{t':Nat}(I:Inv X pins σ H s) (hH:H l=some (.lst xs))
  (e:s.heap.get? l=some { cls:=.type "list",data:=.seq its.toArray n }) (hf:f its.toArray=its'.toArray) (hv:Vals ys its') (hz:ys.length≤sizeLine) :
  Inv X pins σ (upd H l (.lst ys)) { s with heap:=s.heap.update l (Obj.mapSeq f),toks:=t' }:=by
 have q:=PySem.IsL.update e f
 rw [hf] at q
 refine I.write (x:=l) (e:=l) (by rw [hH];exact trivial) (.inl rfl) (fun b' u hb hu=>(Heap.get?_update_other s.heap (Obj.mapSeq f) (Ne.symm hb)).trans hu) ⟨_,q⟩ ?_
 exact ⟨hz,its',_,hv,q⟩
theorem Inv.CB {its:List Value}{t':Nat}(I:Inv X pins σ H s) (hv:Vals ys its) (hz:ys.length≤sizeLine) :
  Inv X pins σ (upd H s.heap.objs.size (.lst ys)) { s with heap:=s.heap.push { cls:=.type "list",data:=.seq its.toArray },toks:=t' }:=
 I.laid (fun _ _ q=>Heap.get?_push_of_some _ q) (Nat.le_refl _) ⟨hz,its,0,hv,Heap.get?_push_size _ rfl⟩
theorem Inv.fresh (I:Inv X pins σ H s):H s.heap.objs.size=none:=I.hok.fresh (Nat.le_refl _)
theorem Inv.nZ (I:Inv X pins σ H s) (hH:H l=some (.lst xs)):xs.length≤sizeLine∧∃ (its:List Value) (n:Nat),Vals xs its∧xs.length=its.length∧s.heap.get? l=some { cls:=.type "list",data:=.seq its.toArray n }:=by
 obtain ⟨z,its,n,r,e⟩:=I.hok l _ hH
 exact ⟨z,its,n,r,r.length,e⟩
theorem tM {n:Nat}(h:n≤sizeLine):Builtin.List.listTooLong n=false:=by
 unfold Builtin.List.listTooLong
 exact decide_eq_false (by omega)
end
section
variable {X:Cx}
noncomputable def Ie:V→List V→Hp→VK→Prop:=fun x vs H Q=>∃ l xs y,x=.ref l∧vs=[y]∧H l=some (.lst xs)∧xs.length<sizeLine∧Q .bB (upd H l (.lst (xs++[y])))
theorem rE:K8 X "list.append" Ie:=by
 intro pins s σ H x vs v us Q I rx rv h
 obtain ⟨l,xs,y,rfl,rfl,hH,hz,q⟩:=h
 cases rx
 obtain ⟨u,rfl,ru⟩:=rv.one
 obtain ⟨z,its,n,r,hl,e⟩:=I.nZ hH
 refine call_meets F.slot_list_append ⟨_,e,rfl⟩ F.entry_list_append (F.args_list_append_2 _ _) (PySem.list_append l its.toArray n u (by rw [List.size_toArray];omega)) ⟨e,?_⟩
 refine ⟨.bB,_,I.CA (its':=its++[u]) hH e (by simp) (r.append (.cons ru .nil)) ?_,rfl,q⟩
 rw [List.length_append,List.length_singleton]
 omega
noncomputable def Ig:V→List V→Hp→VK→Prop:=fun x vs H Q=>∃ l b xs zs,x=.ref l∧vs=[.ref b]∧H l=some (.lst xs)∧H b=some (.lst zs)∧xs.length+zs.length≤sizeLine∧Q .bB (upd H l (.lst (xs++zs)))
theorem Ah:K8 X "list.extend" Ig:=by
 intro pins s σ H x vs v us Q I rx rv h
 obtain ⟨l,b,xs,zs,rfl,rfl,hH,hB,hz,q⟩:=h
 cases rx
 obtain ⟨u,rfl,ru⟩:=rv.one
 cases ru
 obtain ⟨z,its,n,r,hl,e⟩:=I.nZ hH
 obtain ⟨z2,its2,n2,r2,hl2,e2⟩:=I.nZ hB
 have hsz:its.toArray.size+its2.toArray.size≤sizeLine:=by rw [List.size_toArray,List.size_toArray];omega
 have yx:¬ (!its.toArray.isEmpty&&Builtin.List.listTooLong (its.toArray.size+its2.toArray.size))=true:=by
  rw [tM hsz,Bool.and_false]
  exact Bool.false_ne_true
 refine call_meets F.slot_list_extend ⟨_,e,rfl⟩ F.entry_list_extend (F.args_list_extend_2 _ _)
  (AutoSeq1.list_extend_list_list_0 l its.toArray n b its2.toArray n2 yx (by rw [List.size_toArray];omega) (by omega)) ⟨e,e2,?_⟩
 refine ⟨.bB,_,I.CA (its':=its++its2) hH e (by simp) (r.append r2) ?_,rfl,q⟩
 rw [List.length_append]
 omega
noncomputable def Xg:V→List V→Hp→VK→Prop:=fun x vs H Q=>∃ l xs y,x=.ref l∧vs=[]∧H l=some (.lst xs)∧xs[xs.length - 1]?=some y∧Q y (upd H l (.lst xs.dropLast))
theorem K9:K8 X "list.pop" Xg:=by
 intro pins s σ H x vs v us Q I rx rv h
 obtain ⟨l,xs,y,rfl,rfl,hH,hy,q⟩:=h
 cases rx
 have ZM:=rv.zero
 subst ZM
 obtain ⟨z,its,n,r,hl,e⟩:=I.nZ hH
 obtain ⟨u,hu,ru⟩:=r.get hy
 have hy':its.toArray[its.toArray.size - 1]?=some u:=by
  show its.toArray[its.length - 1]?=some u
  rw [←Array.getElem?_toList,←hl]
  exact hu
 refine call_meets F.slot_list_pop ⟨_,e,rfl⟩ F.entry_list_pop (F.args_list_pop_1 _) (MeetsSeq.list_pop_last l its.toArray n u hy' (by rw [List.size_toArray];omega)) ⟨e,?_⟩
 refine ⟨y,_,I.CA (its':=its.dropLast) hH e ?_ r.dropLast ?_,ru,q⟩
 ·show its.toArray.eraseIdxIfInBounds (its.toArray.size - 1)=its.dropLast.toArray
  rw [List.size_toArray,List.eraseIdxIfInBounds_toArray,yw]
 ·rw [List.length_dropLast]
  omega
noncomputable def Xh:R2:=fun x y H Q=>∃ l b xs zs,x=.ref l∧y=.ref b∧H l=some (.lst xs)∧H b=some (.lst zs)∧xs.length+zs.length≤sizeLine∧∀ p,H p=none→Q (.ref p) (upd H p (.lst (xs++zs)))
theorem La:d7 X (binaryOp .Add) Xh:=by
 intro pins s σ H x y v u Q I rx ry h
 obtain ⟨l,b,xs,zs,rfl,rfl,hH,hB,hz,q⟩:=h
 cases rx
 cases ry
 obtain ⟨z,its,n,r,hl,e⟩:=I.nZ hH
 obtain ⟨z2,its2,n2,r2,hl2,e2⟩:=I.nZ hB
 refine PySem.P.add_list e e2 ?_ (by rw [List.size_toArray,List.size_toArray];omega)
 have ea:its.toArray++its2.toArray=(its++its2).toArray:=by simp
 rw [ea]
 exact ⟨.ref _,_,I.CB (t':=s.toks) (r.append r2) (by rw [List.length_append];omega),rfl,q _ I.fresh⟩
noncomputable def Xi:R2:=fun x y H Q=>∃ l k xs,x=.ref l∧y=.int k∧H l=some (.lst xs)∧-(2 ^ 63)≤k∧k<2 ^ 63∧xs.length*k.toNat≤sizeLine∧
 ∀ p,H p=none→Q (.ref p) (upd H p (.lst (List.replicate k.toNat xs).flatten))
theorem len_rep {α:Type}(xs:List α) (k:Nat):(List.replicate k xs).flatten.length=k*xs.length:=by
 induction k with
 | zero=>simp
 | succ k ih=>rw [List.replicate_succ,List.flatten_cons,List.length_append,ih,Nat.succ_mul,Nat.add_comm]
theorem Lb:d7 X (binaryOp .Mult) Xi:=by
 intro pins s σ H x y v u Q I rx ry h
 obtain ⟨l,k,xs,rfl,rfl,hH,h1,h2,hz,q⟩:=h
 cases rx
 obtain ⟨t,rfl⟩:=ry
 obtain ⟨z,its,n,r,hl,e⟩:=I.nZ hH
 have hlen:its.toArray.size*k.toNat≤sizeLine:=by rw [List.size_toArray,←hl];exact hz
 have hcap:¬ its.toArray.size*k.toNat > (2 ^ 63 - 1) / 8:=by
  have:(sizeLine:Nat)≤(2 ^ 63 - 1) / 8:=by decide
  omega
 have hfit:¬ (!Builtin.List.listFitsIndex k)=true:=by
  rw [fitsIndex_both h1 h2]
  exact Bool.false_ne_true
 have yx:¬ Builtin.List.listTooLong (its.toArray.size*k.toNat)=true:=by
  rw [tM hlen]
  exact Bool.false_ne_true
 have hnew:List.foldl (fun x1 x2=>x1++x2) #[] (List.replicate (if its.toArray.isEmpty=true then 0 else k.toNat) its.toArray)=(List.replicate k.toNat its).flatten.toArray:=by
  have f0:∀ m:Nat,List.foldl (fun x1 x2=>x1++x2) #[] (List.replicate m its.toArray)=(List.replicate m its).flatten.toArray:=fun m=>by
   have:=foldl_rep its m []
   rw [List.nil_append] at this
   exact this
  rw [f0]
  cases its with
  | nil=>simp
  | cons a r'=>rw [if_neg (by simp)]
 refine wpAny_binaryOp_repeat_ref (T:="list") (U:="int") (by decide) ⟨_,e,rfl⟩ (fun s'=>typeIs_int s' k t) noFill_list_mul F.fills_int_mul F.slot_int_rmul repeat_list F.slot_int_index.lookup
  (call_meets F.slot_int_rmul (typeIs_int s k t) F.entry_int_rmul (F.args_int_rmul_2 _ _) (int___rmul___int_list k t l its.toArray n)
   ⟨e,rfl,⟨_,e,rfl⟩,call_meets F.slot_list_mul ⟨_,e,rfl⟩ F.entry_list_mul (F.args_list_mul_2 _ _) (AutoListH.list___mul___list_int_3 l its.toArray n k t hfit hcap yx) ⟨e,?_⟩⟩)
 rw [hnew]
 exact ⟨.ref _,_,I.CB (t':=s.toks) (r.rep k.toNat) (by rw [len_rep,Nat.mul_comm];exact hz),rfl,q _ I.fresh⟩
end
section
variable {prog:Program}{w:World}{A:Around}{E:Value→Shared→Prop}{s:Shared}
end
section
variable {X:Cx}
end
end L2
namespace UE
open PySem PySem.W PySem.Calls PyProof.Rows
theorem oX {P:Params}{h:Heap}:∀ (ns:List Int) (vs:List Value),WellAll P h vs (ns.map WData.int)→IntsAre vs ns:=by
 intro ns
 induction ns with
 | nil=>
  intro vs w
  rw [List.map_nil] at w
  cases w
  exact .nil
 | cons n ns ih=>
  intro vs w
  rw [List.map_cons] at w
  cases w with
  | cons a b=>
   cases a
   exact .cons _ _ (ih _ b)
theorem Ai {l:OpenLaw}{n:Nat}(hn:l.most=some n){P:Params}{h:Heap}{args:List WData}{vals:List Value}
  (hpre:l.row.toRowW.claim.pre args=true) (hwl:WellAll P h vals args) :
  ∃ a vs ns,vals=[Value.ref a]∧args=[WData.list (ns.map WData.int)]∧h.get? a=some { cls:=.type "list",data:=.seq vs.toArray }∧IntsAre vs ns∧ns.length≤n:=by
 have hsh:WShape.hasAll [] args [.list .int]=true:=(pre_splitW hpre).1
 have hc:l.pre.holds [] { args:=args }=true:=(pre_splitW hpre).2
 obtain ⟨d,r,rfl,h1,h2⟩:=hasAllW_cons hsh
 obtain rfl:=hasAllW_nil h2
 obtain ⟨xs,rfl,h3⟩:=hasW_list h1
 obtain ⟨ns,rfl⟩:=items_int h3
 have hlen:ns.length≤n:=by
  unfold OpenLaw.pre at hc
  have h4:(WTm.not (.lt (.lit (.int (n:Int))) (.len (.arg 0)))).holds [] { args:=[.list (ns.map .int)]}=true:=by
   have h4:=(holds_andW hc).1
   rw [hn] at h4
   exact h4
  have h5:=condW_of h4 (w_not (w_lt w_lit (w_len_list (w_arg rfl))))
  rw [List.length_map] at h5
  refine Nat.le_of_not_lt fun q=>?_
  have q':(n:Int)<((ns.length:Nat):Int):=by omega
  first
   | (rw [decide_eq_true q'] at h5;exact absurd h5 (by decide))
   | (simp at h5;omega)
 cases hwl with
 | cons w1 w2=>
  cases w2
  cases w1 with
  | list ho hall=>exact ⟨_,_,ns,rfl,rfl,ho,oX ns _ hall,hlen⟩
theorem Aj (l:OpenLaw) (args:List WData):l.row.toRowW.claim.post args (.bool true) args=true:=
 postW_of (r:=l.row.toRowW) (X:=(true==true))
  (show WShape.has [] (.bool true) .bool=true by first | rfl | decide | simp [WShape.has,WShape.arms,WShape.armsAll])
  (show (WTm.eq .res (.lit (.bool true))).value [] { args:=args,res:=some (.bool true),after:=args }=some (.bool (true==true)) from w_eq_bool (w_res rfl) w_lit) rfl
theorem vQ {l:OpenLaw}{n:Nat}{q:Program}{loose:List Str}{XP:(Str→Option Value)→Heap→Prop}{YP:World→Heap→Prop}{d:DefRec}
  (hn:l.most=some n) (hdf:d.params.defaults=[])
  (call:∀ (w:World) (s₀ s₁:Shared) (mg mb:Str→Option Value) (fa:Addr) (o:Obj) (pm cd doc:Value) (a:Addr) (vs:List Value) (ns:List Int),
   Ground q loose [] XP w s₀ mg mb s₁.heap→YP w s₁.heap→
   s₁.heap.get? fa=some o→o.data=.func (docDef d.name d.params d.body d.scope pm cd doc)→s₁.heap.CodeRec cd d.name→mg d.name=some (.ref fa)→
   s₁.heap.get? a=some { cls:=.type "list",data:=.seq vs.toArray }→IntsAre vs ns→ns.length≤n→s₁.gens = #[]→
   codeAny (model l.prog w) callerA (.call (.ref fa) ⟨[.ref a],[]⟩) (fun r s'=>r=.ok (.ret (.bool true))∧OldK s₁.heap s'.heap∧s'.os=s₁.os∧AllBare s'.gens) s₁) :
  WalkO q loose XP YP l.row.toRowW d [] (fun f vs=>PySem.call f vs):=by
 intro w s₀ s₁ mg mb G Y fa o pm cd doc dV kV ho hd hcd hD hmg hg args vals as hpre hlay hrd hwl hlo
 obtain rfl:dV=.none:=Dflts.none hD hdf
 obtain rfl:kV=.none:=Dflts.noKw hD
 obtain ⟨a,vs,ns,rfl,rfl,hobj,hints,hlen⟩:=Ai hn hpre hwl
 refine enter_call (codeAny_mono (call w s₀ s₁ mg mb fa o pm cd doc a vs ns G Y ho (fd_plain hd) hcd hmg hobj hints hlen hg) fun r s' hq=>?_)
 obtain ⟨rfl,h2,h3,h4⟩:=hq
 exact ⟨.inl ⟨.bool true,.bool true,[],rfl,fun _=>rfl,.bool true,Aj l _,fun _=>⟨List.Pairwise.nil,fun _ hm=>(nomatch hm)⟩⟩,h2,h3,h4⟩
section
variable {prog:Program}{w:World}{A:Around}{E:Value→Shared→Prop}{s:Shared}{K:Frag}
end
end UE
namespace L2
open PySem PySem.Spec PyProof.Rows
theorem rF:∀ {vs:List Value}{ns:List Int},IntsAre vs ns→Vals (ns.map V.int) vs
 | _,_,.nil=>.nil
 | _,_,.cons n t h=>.cons ⟨t,rfl⟩ (rF h)
noncomputable def qm (H:Hp):Prop:=∀ b,H b=none∨∃ o xs,H b=some (.bR o (.lst xs))
theorem CC {P:Program}{w:World}{K:PySem.W.Frag}{mg mb:Str→Option Value}{CX:lI}{k:Nat}{fa a:Addr}{fd:FuncData}{x:Str}{sp:Sp}{s₁:Shared}{vs:List Value}{ns:List Int}
  (KX:K.In s₁.heap) (hns:s₁.heap.Ns mainGlobals mg) (hb:s₁.heap.Ns builtinsNs mb) (Lc:∀ x:Str,x≠"__name__" →mb x=bootBuiltins x) (hlim:s₁.heap.NoLimit) (hg:s₁.gens = #[])
  (ha:s₁.heap.get? a=some { cls:=.type "list",data:=.seq vs.toArray }) (hi:IntsAre vs ns) (hl:ns.length≤sizeLine) (hr:gP k callerA)
  (F:∀ base:Heap,K.In base→base.Ns mainGlobals mg→iO P w K mg base CX k fa fd [x] sp) (hbind:∀ (s:Shared) (u:Value),BindsTo s fd ⟨[u],[]⟩ [(x,u)])
  (kq:∀ H:Hp,qm H→dZ K H a (ns.map V.int)→sp [.ref a] H (fun v _=>v=.bl true) fun _ _ _=>False)
  (Ak:∀ H e s',CX [] H s₁ (fun _ _ _=>False) e s'→False) :
  codeAny (model P w) callerA (.call (.ref fa) ⟨[.ref a],[]⟩) (fun r s'=>r=.ok (.ret (.bool true))∧OldK s₁.heap s'.heap∧s'.os=s₁.os∧AllBare s'.gens) s₁:=by
 have rv:=rF hi
 have Xj:=hi.length
 have core:∀ H:Hp,qm H→dZ K H a (ns.map V.int)→fO P w H s₁.heap→(∀ b,H b≠none→b=a)→(H a≠none→K.lookup a=none)→
   codeAny (model P w) callerA (.call (.ref fa) ⟨[.ref a],[]⟩) (fun r s'=>r=.ok (.ret (.bool true))∧OldK s₁.heap s'.heap∧s'.os=s₁.os∧AllBare s'.gens) s₁:=by
  intro H hO hS hok hA hK
  have wU:∀ {b:Addr} {o:Obj},s₁.heap.get? b=some o→H b=none→(kO s₁.heap H).get? b=some o:=fun e n=>Cm e n
  have Ad:∀ {b:Addr} {o:Obj} {es:Array DictEntry} {ep:Nat},s₁.heap.get? b=some o→o.data=.dict es ep→H b=none:=fun {b o es ep} e d=>by
   cases q:H b with
   | none=>rfl
   | some u=>
    have e':b=a:=hA b (by rw [q];simp)
    subst e'
    rw [ha] at e;cases e
    have d':Data.seq vs.toArray _=Data.dict es ep:=d
    cases d'
  have E7:∀ {b:Addr} {m:Str→Option Value},s₁.heap.Ns b m→(kO s₁.heap H).Ns b m:=fun {b m} ⟨o,es,ep,e,d,r⟩=>⟨o,es,ep,wU e (Ad e d),d,r⟩
  have UG:K.In (kO s₁.heap H):=fun b o e=>wU (KX b o e) (by
   cases q:H b with
   | none=>rfl
   | some u=>
    have e':b=a:=hA b (by rw [q];simp)
    subst e'
    rw [hK (by rw [q];simp)] at e;cases e)
  have hM:Mod K mg (kO s₁.heap H):=⟨UG,E7 hns,⟨mb,E7 hb,Lc⟩,let ⟨mc,h1,h2⟩:=hlim;⟨mc,E7 h1,h2⟩⟩
  have e0:yr P w K mg (kO s₁.heap H) callerA [] s₁ H:=⟨rfl,hM,fun b o e=>HD e,Nat.le_of_eq (zQ _ _),trivial,fun b hb=>absurd (show b∈([]:List Addr) from hb) (by simp),hok,.of_eq hg⟩
  refine codeAny_mono ((F _ UG (E7 hns)).run callerA [] s₁ H ⟨[.ref a],[]⟩ [.ref a] [.ref a] _ _ hr e0 (hbind s₁ (.ref a)) (.cons rfl .nil) (kq H hO hS)) fun r s' h=>?_
  cases r with
  | error e=>exact (Ak H e s' h).elim
  | ok fl=>
   cases fl with
   | next=>exact False.elim h
   | brk=>exact False.elim h
   | cont=>exact False.elim h
   | ret u=>
    obtain ⟨v,H',os,bare,un,Xk,r',q⟩:=h
    have q':v=.bl true:=q
    subst q'
    obtain rfl:u=Value.bool true:=r'
    refine ⟨rfl,OldK.of_keep fun b o e=>?_,os,bare⟩
    cases q:H b with
    | none=>exact un.keep b o e q (by intro z;exact absurd (show b∈([]:List Addr) from z) (by simp)) (by simp)
    | some u=>
     rcases hO b with z | ⟨ob,xs,z⟩
     ·rw [q] at z;cases z
     ·have z2:=un.kN b ob _ z
      obtain ⟨e1,_⟩:=hok b _ z
      obtain ⟨e2,_⟩:=Xk b _ z2
      rw [e] at e1;cases e1
      exact e2
 cases hk:K.lookup a with
 | some o=>
  have e:=KX a o hk
  rw [ha] at e
  cases e
  refine core (fun _=>none) (fun _=>.inl rfl) (.inr ⟨_,vs.toArray,_,hk,rfl,rfl,rfl,by rw [List.size_toArray,Xj];exact hl,by simpa using rv⟩) (fun b u z=>by have z':(none:Option HO)=some u:=z;cases z') (fun b z=>absurd rfl z) fun z=>absurd rfl z
 | none=>
  refine core (fun b=>if b=a then some (.bR { cls:=.type "list",data:=.seq vs.toArray } (.lst (ns.map V.int))) else none) (fun b=>?_) (.inl (.inr ⟨{ cls:=.type "list",data:=.seq vs.toArray },if_pos rfl⟩)) (fun b u z=>?_) (fun b z=>?_) fun _=>hk
  ·by_cases hb:b=a
   ·exact .inr ⟨_,_,if_pos hb⟩
   ·exact .inl (if_neg hb)
  ·by_cases hb:b=a
   ·have z':=(if_pos hb).symm.trans z
    cases z'
    subst hb
    exact ⟨ha,by rw [List.length_map];exact hl,vs,_,rv,ha⟩
   ·have z':=(if_neg hb).symm.trans z
    cases z'
  ·by_cases hb:b=a
   ·exact hb
   ·exact absurd (if_neg hb) z
end L2
namespace L2
open PySem PySem.Spec PyProof.Rows
theorem Ih {l:PySem.W.OpenLaw}{n k:Nat}{q:Program}{loose:List Str}{XP:(Str→Option Value)→Heap→Prop}{YP:World→Heap→Prop}{d:DefRec}{K:Params→PySem.W.Frag}{CX:World→lI}{sp:World→Sp}{x:Str}
  (hn:l.most=some n) (hn2:n≤sizeLine) (hdf:d.params.defaults=[]) (hr:gP k callerA)
  (hY:∀ (w:World) (h:Heap),YP w h→(K w.params).In h)
  (F:∀ (w:World) (mg:Str→Option Value) (fa:Addr) (h:Heap),(K w.params).In h→h.Ns mainGlobals mg→mg d.name=some (.ref fa)→
   ∃ fd:FuncData,(∀ (s:Shared) (u:Value),BindsTo s fd ⟨[u],[]⟩ [(x,u)])∧
    ∀ base:Heap,(K w.params).In base→base.Ns mainGlobals mg→iO l.prog w (K w.params) mg base (CX w) k fa fd [x] (sp w))
  (kq:∀ (w:World) (H:Hp) (a:Addr) (ns:List Int),ns.length≤n→qm H→dZ (K w.params) H a (ns.map V.int)→sp w [.ref a] H (fun v _=>v=.bl true) fun _ _ _=>False)
  (Ak:∀ (w:World) (H:Hp) (s:Shared) (e:Value) (s':Shared),CX w [] H s (fun _ _ _=>False) e s'→False) :
  PySem.W.WalkO q loose XP YP l.row.toRowW d [] (fun f vs=>PySem.call f vs):=by
 refine UE.vQ hn hdf fun w s₀ s₁ mg mb fa o pm cd doc a vs ns G Y ho hd hcd hmg hobj hints hlen hg=>?_
 have KX:=hY w _ Y
 obtain ⟨fd,hb,hF⟩:=F w mg fa _ KX G.T.g hmg
 exact CC KX G.T.g G.T.b G.T.builtins G.T.nolimit hg hobj hints (Nat.le_trans hlen hn2) hr hF hb (fun H hO hS=>kq w H a ns hlen hO hS) fun H e s'=>Ak w H s₁ e s'
theorem CD {l:PySem.W.OpenLaw}{n k:Nat}{q:Program}{loose:List Str}{XP:(Str→Option Value)→Heap→Prop}{YP:World→Heap→Prop}{d:DefRec}{K:Params→PySem.W.Frag}{CX:lI}{sp:PySem.W.Frag→Sp}{x:Str}
  (hn:l.most=some n) (hn2:n≤sizeLine) (hdf:d.params.defaults=[]) (hr:gP k callerA)
  (hY:∀ (w:World) (h:Heap),YP w h→(K w.params).In h)
  (F:∀ (w:World) (mg:Str→Option Value) (fa:Addr) (h:Heap),(K w.params).In h→h.Ns mainGlobals mg→mg d.name=some (.ref fa)→
   ∃ fd:FuncData,(∀ (s:Shared) (u:Value),BindsTo s fd ⟨[u],[]⟩ [(x,u)])∧
    ∀ base:Heap,(K w.params).In base→base.Ns mainGlobals mg→iO l.prog w (K w.params) mg base CX k fa fd [x] (sp (K w.params)))
  (kq:∀ (K:PySem.W.Frag) (H:Hp) (a:Addr) (ns:List Int),ns.length≤n→qm H→dZ K H a (ns.map V.int)→sp K [.ref a] H (fun v _=>v=.bl true) fun _ _ _=>False)
  (Ak:∀ (H:Hp) (s:Shared) (e:Value) (s':Shared),CX [] H s (fun _ _ _=>False) e s'→False) :
  PySem.W.WalkO q loose XP YP l.row.toRowW d [] (fun f vs=>PySem.call f vs):=
 Ih (K:=K) (CX:=fun _=>CX) (sp:=fun w=>sp (K w.params)) hn hn2 hdf hr hY F (fun w H a ns h1 h2 h3=>kq (K w.params) H a ns h1 h2 h3) fun _ H s e s'=>Ak H s e s'
end L2
namespace L2
open PySem PySem.Spec PyProof.Rows
noncomputable def aK (s:Stmt):Arguments:=match s with
 | .FunctionDef _ a _ _ _ _ _ _ _ _=>a
 | _=>{ posonlyargs:=[],args:=[],vararg:=none,kwonlyargs:=[],kw_defaults:=[],kwarg:=none,defaults:=[]}
noncomputable def aF (s:Stmt):List Stmt:=match s with
 | .FunctionDef _ _ b _ _ _ _ _ _ _=>b
 | _=>[]
noncomputable def aq (s:Stmt):Scope:=match s with
 | .FunctionDef _ _ _ _ _ _ sc _ _ _=>sc
 | _=>{ kind:=.function,names:=[],isGenerator:=false,isCoroutine:=false }
abbrev lY:lI:=fun _ _ _ _ _ _=>False
abbrev E0:XK:=fun _ _ _=>False
theorem RJ {X:Cx}:Passes lY X E0:=fun _ _ _ _ _ _ _ h=>h.elim
structure tN (K:PySem.W.Frag) (x qual:Str) (st:Stmt) (f:Addr) (fd:FuncData):Prop where
 ex:∃ (oc:Value) (od:Option Addr) (kV doc pm:Value) (an:Option Addr) (cdv ct:Value) (osl:Array (Option Value)),
  fd=PySem.W.fnOf x qual (aK st) (aF st) (aq st) .none kV doc pm an cdv ct∧K.lookup f=some ⟨oc,od,.func fd,osl⟩∧PySem.W.codeIn K cdv qual=true
 kp:PySem.W.keepIn K (.ref f)=true
section
variable {P:Program}{w:World}{K:PySem.W.Frag}{mg:Str→Option Value}{base:Heap}
theorem tN.ok {x qual:Str}{st:Stmt}{f:Addr}{fd:FuncData}{N ps:List Str}{k:Nat}{sp:Sp}(F:tN K x qual st f fd) (S:bu N ps (aq st)) (len:∀ vs H Q E,sp vs H Q E→vs.length=ps.length)
  (hbody:∀ (cdv:Value) (A:Around) (outer:List Env) (s:Shared) (H:Hp) (vs:List V) (Q:VK) (E:XK),gP k (A.deeper (envOfC qual (aq st) s.heap.objs.size f cdv))→sp vs H Q E→
   ∃ t,iK (nY lY P w K mg base N qual (aq st) f cdv A outer s H E).rj (aF st) t∧t { nx:=fun _ H'=>Q .bB H',rt:=Q } (start N vs) H):iO P w K mg base lY (k+1) f fd ps sp:=by
 obtain ⟨oc,od,kV,doc,pm,an,cdv,ct,osl,rfl,lk,hcd⟩:=F.ex
 refine RD lk hcd S len fun A outer s H vs Q E hr kq=>?_
 obtain ⟨t,h,q⟩:=hbody cdv A outer s H vs Q E hr kq
 exact ⟨t,h.rj,q⟩
theorem tN.binds {x qual:Str}{st:Stmt}{f:Addr}{fd:FuncData}{ps:List Str}(F:tN K x qual st f fd)
  (h:∀ (kV doc pm:Value) (an:Option Addr) (cdv ct:Value) (us:List Value),us.length=ps.length→bindArgs (PySem.W.fnOf x qual (aK st) (aF st) (aq st) .none kV doc pm an cdv ct) ⟨us,[]⟩=pure (ps.zip us)):Binds K fd ps []:=by
 obtain ⟨oc,od,kV,doc,pm,an,cdv,ct,osl,rfl,lk,hcd⟩:=F.ex
 exact .all (h kV doc pm an cdv ct)
theorem b6 {x qual:Str}{st:Stmt}{f:Addr}{oc:Value}{od an:Option Addr}{osl:Array (Option Value)}{kV doc pm cdv ct:Value}(l:K.lookup f=some ⟨oc,od,.func (PySem.W.fnOf x qual (aK st) (aF st) (aq st) .none kV doc pm an cdv ct),osl⟩)
  (c:PySem.W.codeIn K cdv qual=true) (k:PySem.W.keepIn K (.ref f)=true):tN K x qual st f (PySem.W.fnOf x qual (aK st) (aF st) (aq st) .none kV doc pm an cdv ct):=⟨⟨oc,od,kV,doc,pm,an,cdv,ct,osl,rfl,l,c⟩,k⟩
end
section
variable {X:Cx}
theorem pv (i:Nat) {x:Str}{pos:Pos}(hN:X.N[i]?=some x:=by rfl) (hv:zR X.env.scope x:=by first | exact Or.inl rfl | exact Or.inr (Or.inl rfl) | exact Or.inr (Or.inr rfl)) (hd:(x==("__debug__" : Str))=false:=by decide)
  (hcd:(x==("__classdict__" : Str))=false:=by decide):PE X (.Name x pos) (Ko i):=zV hN hv hd hcd
end
end L2
namespace Ev
inductive D where
 | bB | bl (b:Bool) | int (i:Int) | str (s:List Nat) | tup (ds:List D) | ref (n:Nat)
inductive O where
 | lst (ds:List D) | bR (ds:List D)
abbrev Hh:=List O
abbrev Fr:=List (Option D)
inductive R (α:Type) where
 | ok (a:α) (h:Hh)
 | bad
noncomputable def R.bind {α β:Type}(r:R α) (f:α→Hh→R β):R β:=
 match r with
 | .ok a h=>f a h
 | .bad=>.bad
@[simp] theorem au {α β:Type} (a:α) (h:Hh) (f:α→Hh→R β):(R.ok a h).bind f=f a h:=rfl
@[simp] theorem CF {α β:Type} (f:α→Hh→R β):(R.bad:R α).bind f=.bad:=rfl
theorem aj {α β:Type}{r:R α}{f:α→Hh→R β}{b:β}{h:Hh}(e:r.bind f=.ok b h):∃ a h1,r=.ok a h1∧f a h1=.ok b h:=by
 cases r with
 | ok a h1=>exact ⟨a,h1,rfl,e⟩
 | bad=>cases e
noncomputable def R.of {α:Type}(o:Option α) (h:Hh):R α:=match o with
 | some a=>.ok a h
 | none=>.bad
@[simp] theorem d8 {α:Type} (a:α) (h:Hh):R.of (some a) h=.ok a h:=rfl
@[simp] theorem of_none {α:Type} (h:Hh):R.of (none:Option α) h=.bad:=rfl
theorem aS {α:Type}{o:Option α}{h h':Hh}{a:α}(e:R.of o h=.ok a h'):o=some a∧h'=h:=by
 cases o with
 | none=>cases e
 | some b=>cases e;exact ⟨rfl,rfl⟩
inductive cz where
 | add | sub | mul | fdiv | mod
inductive b7 where
 | eq | ne | lt | gt
 | isin | kR
inductive TY where
 | int | bool | str | tuple | list
inductive BI where
 | len | sum | min
inductive ME where
 | join | append | extend | pop
inductive T where
 | one (i:Nat) | many (l:List Nat)
mutual
inductive E where
 | c (d:D) | v (i:Nat) | tup (es:Es) | lst (es:Es)
 | bin (o:cz) (a b:E) | cmp (o:b7) (a b:E)
 | nt (a:E) | neg (a:E) | an (a b:E) | orr (a b:E) | lK (t a b:E)
 | ix (a b:E) | sl (a:E) (lo hi:Eo)
 | lM (a:E)
 | cl (f:Nat) (es:Es) | bi (b:BI) (es:Es) | me (m:ME) (o:E) (es:Es)
 | lN (a:E) (ts:List TY)
 | comp (elt:E) (t:T) (it:It) (cond:Eo)
 | iL (it:It)
 | ji (kvs:List (D×D)) (a:E) | gv (a:E)
inductive Es where
 | nil | cons (e:E) (es:Es)
inductive Eo where
 | no | yes (e:E)
inductive It where
 | seq (e:E) | jb (es:Es)
 | zip (a b:E)
 | enum (a:E) | rev (a:E)
end
mutual
inductive S where
 | set (i:Nat) (e:E) | kT (l:List Nat) (e:E)
 | exp (e:E) | ret (e:E) | iff (t:E) (a b:Ss) | for (t:T) (it:It) (b:Ss) | lZ (t:E) (b:Ss)
 | pass | brk | cnt
 | fP
inductive Ss where
 | nil | cons (s:S) (ss:Ss)
end
inductive Fl where
 | nx | bk | ct | ret (d:D)
noncomputable def big:Nat:=16777216
noncomputable def cJ (f:D→D→Option Bool):List D→List D→Option Bool
 | [],[]=>some true
 | x :: xs,y :: ys=>do
  let b ←f x y
  let c ←cJ f xs ys
  pure (b&&c)
 | _,_=>some false
noncomputable def bg (h:Hh) (n:Nat):Option (List D):=match h[n]? with
 | some (.lst ds)=>some ds
 | some (.bR ds)=>some ds
 | none=>none
noncomputable def b2i (b:Bool):Int:=if b then 1 else 0
noncomputable def jF (h:Hh) (f:D→D→Option Bool) (a b:Nat):Option Bool:=if a=b then (bg h a).map fun _=>true else match h[a]?,h[b]? with
 | some (.lst x),some (.lst y)=>cJ f x y
 | some (.bR x),some (.lst y)=>cJ f x y
 | some (.lst x),some (.bR y)=>cJ f x y
 | _,_=>none
noncomputable def gF (h:Hh):Nat→D→D→Option Bool
 | 0,_,_=>none
 | _+1,.bB,_=>none
 | _+1,.bl _,_=>none
 | _+1,_,.bB=>none
 | _+1,_,.bl _=>none
 | _+1,.int a,.int b=>some (a==b)
 | _+1,.str a,.str b=>some (a==b)
 | n+1,.tup a,.tup b=>cJ (gF h n) a b
 | n+1,.ref a,.ref b=>jF h (gF h n) a b
 | _+1,.ref a,_=>(bg h a).map fun _=>false
 | _+1,_,.ref a=>(bg h a).map fun _=>false
 | _+1,_,_=>some false
noncomputable def deep:Nat:=20
noncomputable def truthy (h:Hh):D→Option Bool
 | .bB=>some false
 | .bl b=>some b
 | .int i=>some (i != 0)
 | .str s=>some (!s.isEmpty)
 | .tup ds=>some (!ds.isEmpty)
 | .ref n=>(bg h n).map fun ds=>!ds.isEmpty
noncomputable def alloc (ds:List D) (h:Hh):R D:=if ds.length≤big then .ok (.ref h.length) (h++[.lst ds]) else .bad
noncomputable def rep {α:Type}(k:Nat) (l:List α):List α:=(List.replicate k l).flatten
noncomputable def cH (i j:Int):Bool:=(decide (-(2 ^ 64)<i)&&decide (i<2 ^ 64)) || (decide (-(2 ^ 64)<j)&&decide (j<2 ^ 64))
noncomputable def bJ:cz→D→D→Hh→R D
 | .add,.int i,.int j,h=>.ok (.int (i+j)) h
 | .add,.str a,.str b,h=>if a.length+b.length≤big then .ok (.str (a++b)) h else .bad
 | .add,.tup a,.tup b,h=>if a.length+b.length≤big then .ok (.tup (a++b)) h else .bad
 | .add,.ref a,.ref b,h=>match h[a]?,h[b]? with
  | some (.lst x),some (.lst y)=>alloc (x++y) h
  | _,_=>.bad
 | .sub,.int i,.int j,h=>.ok (.int (i - j)) h
 | .mul,.int i,.int j,h=>if cH i j then .ok (.int (i*j)) h else .bad
 | .mul,.str a,.int k,h=>if 0≤k∧k≤1000∧a.length≤1000 then .ok (.str (rep k.toNat a)) h else .bad
 | .mul,.tup a,.int k,h=>if 0≤k∧k≤1000∧a.length≤1000 then .ok (.tup (rep k.toNat a)) h else .bad
 | .mul,.ref a,.int k,h=>match h[a]? with
  | some (.lst x)=>if 0≤k∧k≤1000∧x.length≤1000 then alloc (rep k.toNat x) h else .bad
  | _=>.bad
 | .fdiv,.int i,.int j,h=>if 0<j∧j<1073741824 then .ok (.int (i / j)) h else .bad
 | .mod,.int i,.int j,h=>if 0<j then .ok (.int (i % j)) h else .bad
 | _,_,_,_=>.bad
noncomputable def mem (h:Hh) (x:D):List D→Option Bool
 | []=>some false
 | y :: ys=>do
  let b ←gF h deep y x
  let c ←mem h x ys
  pure (b || c)
noncomputable def isin (x y:D) (h:Hh):Option Bool:=match y with
 | .str s=>match x with
  | .str [c]=>some (s.contains c)
  | _=>none
 | .tup ds=>mem h x ds
 | .ref n=>(bg h n).bind fun ds=>mem h x ds
 | _=>none
noncomputable def cop (o:b7) (x y:D) (h:Hh):Option Bool:=match o,x,y with
 | .eq,x,y=>gF h deep x y
 | .ne,x,y=>(gF h deep x y).map (!·)
 | .lt,.int i,.int j=>some (decide (i<j))
 | .gt,.int i,.int j=>some (decide (j<i))
 | .isin,x,y=>isin x y h
 | .kR,x,y=>(isin x y h).map (!·)
 | _,_,_=>none
noncomputable def eG (n:Nat) (i:Int):Option Nat:=if 0≤i then (if i<n then some i.toNat else none) else if -(n:Int)≤i then some (i+n).toNat else none
noncomputable def b5 {α:Type}(xs:List α) (i:Int):Option α:=(eG xs.length i).bind fun j=>xs[j]?
noncomputable def fW (x y:D) (h:Hh):Option D:=match x,y with
 | .tup ds,.int i=>b5 ds i
 | .str s,.int i=>(b5 s i).map fun c=>.str [c]
 | .ref n,.int i=>(bg h n).bind fun ds=>b5 ds i
 | _,_=>none
noncomputable def aU (n d:Nat):Option Int→Nat
 | none=>d
 | some v=>if v<0 then (v+n).toNat else min v.toNat n
noncomputable def cut {α:Type}(xs:List α) (lo hi:Option Int):List α:=(xs.drop (aU xs.length 0 lo)).take (aU xs.length xs.length hi - aU xs.length 0 lo)
noncomputable def gw (x:D) (lo hi:Option Int) (h:Hh):R D:=match x with
 | .tup ds=>.ok (.tup (cut ds lo hi)) h
 | .str s=>.ok (.str (cut s lo hi)) h
 | .ref n=>match bg h n with
  | some ds=>alloc (cut ds lo hi) h
  | none=>.bad
 | _=>.bad
noncomputable def dw (h:Hh):D→TY→Bool
 | .bl _,.bool=>true
 | .bl _,.int=>true
 | .int _,.int=>true
 | .str _,.str=>true
 | .tup _,.tuple=>true
 | .ref n,.list=>(bg h n).isSome
 | _,_=>false
noncomputable def boolsOf:List D→Option (List Bool)
 | []=>some []
 | .bl b :: ds=>(boolsOf ds).map fun r=>b :: r
 | _=>none
noncomputable def intsOf:List D→Option (List Int)
 | []=>some []
 | .int i :: ds=>(intsOf ds).map fun r=>i :: r
 | _=>none
noncomputable def strsOf:List D→Option (List (List Nat))
 | []=>some []
 | .str s :: ds=>(strsOf ds).map fun r=>s :: r
 | _=>none
noncomputable def cU (sep:List Nat):List (List Nat)→List Nat
 | []=>[]
 | [s]=>s
 | s :: t :: r=>s++sep++cU sep (t :: r)
noncomputable def lexLe:List Nat→List Nat→Bool
 | [],_=>true
 | _ :: _,[]=>false
 | x :: xs,y :: ys=>if x=y then lexLe xs ys else decide (x<y)
noncomputable def Ld (x:List Nat):List (List Nat)→List (List Nat)
 | []=>[x]
 | y :: ys=>if lexLe x y then x :: y :: ys else y :: Ld x ys
noncomputable def eB:List (List Nat)→List (List Nat)
 | []=>[]
 | x :: xs=>Ld x (eB xs)
noncomputable def dJ (b:BI) (xs:List D) (h:Hh):R D:=match b,xs with
 | .len,[.str s]=>if s.length≤big then .ok (.int s.length) h else .bad
 | .len,[.tup ds]=>.ok (.int ds.length) h
 | .len,[.ref n]=>R.of ((bg h n).map fun ds=>.int ds.length) h
 | .sum,[.ref n]=>R.of (((bg h n).bind intsOf).map fun is=>.int is.sum) h
 | .min,[.int i,.int j]=>.ok (.int (if j<i then j else i)) h
 | _,_=>.bad
noncomputable def fq (m:ME) (o:D) (xs:List D) (h:Hh):R D:=match m,o,xs with
 | .join,.str sep,[.ref n]=>match (bg h n).bind strsOf with
  | some ss=>if (ss.map (·.length)).sum+ss.length*sep.length≤big then .ok (.str (cU sep ss)) h else .bad
  | none=>.bad
 | .append,.ref n,[x]=>match h[n]? with
  | some (.lst ds)=>if ds.length<big then .ok .bB (h.set n (.lst (ds++[x]))) else .bad
  | _=>.bad
 | .extend,.ref n,[.ref m]=>match h[n]?,h[m]? with
  | some (.lst ds),some (.lst es)=>if ds.length+es.length≤big then .ok .bB (h.set n (.lst (ds++es))) else .bad
  | _,_=>.bad
 | .pop,.ref n,[]=>match h[n]? with
  | some (.lst ds)=>match ds[ds.length - 1]? with
   | some x=>.ok x (h.set n (.lst ds.dropLast))
   | none=>.bad
  | _=>.bad
 | _,_,_=>.bad
noncomputable def wV (m:ME) (x:D) (h:Hh):Bool:=match m,x with
 | .join,.str _=>true
 | .join,_=>false
 | _,.ref n=>(bg h n).isSome
 | _,_=>false
noncomputable def eU (x:D):List (D×D)→Option D
 | []=>none
 | (k,v) :: r=>match gF [] 1 k x with
  | some true=>some v
  | some false=>eU x r
  | none=>none
abbrev Src:=List D×List (Nat×List D)
noncomputable def gq (h:Hh):D→Option Src
 | .tup ds=>some (ds,[])
 | .str s=>some (s.map fun c=>.str [c],[])
 | .ref n=>(bg h n).map fun ds=>(ds,[(n,ds)])
 | _=>none
noncomputable def range (lo:Int) (n:Nat):List D:=(List.range n).map fun (i:Nat)=>.int (lo+i)
noncomputable def fF:List D→Option Src
 | [.int j]=>if -(2 ^ 62)≤j∧j<2 ^ 62 then some (range 0 j.toNat,[]) else none
 | [.int i,.int j]=>if -(2 ^ 62)≤i∧i<2 ^ 62∧-(2 ^ 62)≤j∧j<2 ^ 62 then some (range i (j - i).toNat,[]) else none
 | _=>none
noncomputable def eW (a b:List D):List D:=List.zipWith (fun x y=>.tup [x,y]) a b
noncomputable def gK:Int→List D→List D
 | _,[]=>[]
 | k,x :: xs=>.tup [.int k,x] :: gK (k+1) xs
noncomputable def yy (a b:List D):Bool:=@decide (a=b) (Classical.propDecidable _)
theorem rG (a b:List D):yy a b=true↔a=b:=@decide_eq_true_iff _ (Classical.propDecidable _)
@[simp] theorem yz (a:List D):yy a a=true:=(rG a a).mpr rfl
noncomputable def stays (h:Hh):List (Nat×List D)→Bool
 | []=>true
 | (n,ds) :: r=>(match bg h n with | some es=>yy es ds | none=>false)&&stays h r
noncomputable def cR:List Nat→List D→Fr→Option Fr
 | [],[],fr=>some fr
 | i :: is,d :: ds,fr=>cR is ds (fr.set i (some d))
 | _,_,_=>none
noncomputable def cy:T→D→Fr→Option Fr
 | .one i,d,fr=>some (fr.set i (some d))
 | .many l,.tup ds,fr=>cR l ds fr
 | _,_,_=>none
noncomputable def slots:T→List Nat
 | .one i=>[i]
 | .many l=>l
noncomputable def undef (t:T) (fr:Fr):Bool:=(slots t).all fun i=>(fr[i]?.join).isNone
noncomputable def CG:D→Option (List D)
 | .tup ds=>some ds
 | _=>none
noncomputable def qo:D→Hh→R D
 | .tup ds,h=>.ok (.tup ds) h
 | .ref n,h=>match bg h n with
  | some ds=>if ds.length≤big then .ok (.tup ds) h else .bad
  | none=>.bad
 | _,_=>.bad
noncomputable def yC:D→Hh→R D
 | .ref n,h=>match bg h n with
  | some ds=>if ds.length≤big then .ok (.tup ds.reverse) h else .bad
  | none=>.bad
 | _,_=>.bad
noncomputable def oh (h:Hh):D→Option Src
 | .ref n=>(bg h n).map fun ds=>(ds,[(n,ds)])
 | _=>none
noncomputable def cV (f:D→Hh→R (Option D)) (ck:List (Nat×List D)):List D→Hh→R (List D)
 | [],h=>if stays h ck then .ok [] h else .bad
 | d :: ds,h=>if stays h ck then (f d h).bind fun o h1=>(cV f ck ds h1).bind fun r h2=>.ok (o.toList++r) h2 else .bad
noncomputable def forL (f:D→Fr→Hh→R (Fl×Fr)) (ck:List (Nat×List D)):List D→Fr→Hh→R (Fl×Fr)
 | [],fr,h=>if stays h ck then .ok (.nx,fr) h else .bad
 | d :: ds,fr,h=>if stays h ck then (f d fr h).bind fun p h1=>match p.1 with
   | .nx=>forL f ck ds p.2 h1
   | .ct=>forL f ck ds p.2 h1
   | .bk=>.ok (.nx,p.2) h1
   | .ret x=>.ok (.ret x,p.2) h1
  else .bad
noncomputable def ef (t:Fr→Hh→R Bool) (f:Fr→Hh→R (Fl×Fr)):Nat→Fr→Hh→R (Fl×Fr)
 | 0,_,_=>.bad
 | n+1,fr,h=>(t fr h).bind fun b h1=>if b then (f fr h1).bind fun p h2=>match p.1 with
   | .nx=>ef t f n p.2 h2
   | .ct=>ef t f n p.2 h2
   | .bk=>.ok (.nx,p.2) h2
   | .ret x=>.ok (.ret x,p.2) h2
  else .ok (.nx,fr) h1
abbrev aW:=Nat→List D→Hh→R D
noncomputable def intOf:D→Option Int
 | .int i=>some i
 | _=>none
mutual
noncomputable def ev (P:aW):E→Fr→Hh→R D
 | .c d,_,h=>.ok d h
 | .v i,fr,h=>R.of (fr[i]?.join) h
 | .tup es,fr,h=>(cF P es fr h).bind fun ds h1=>if ds.length≤big then .ok (.tup ds) h1 else .bad
 | .lst es,fr,h=>(cF P es fr h).bind fun ds h1=>alloc ds h1
 | .bin o a b,fr,h=>(ev P a fr h).bind fun x h1=>(ev P b fr h1).bind fun y h2=>bJ o x y h2
 | .cmp o a b,fr,h=>(ev P a fr h).bind fun x h1=>(ev P b fr h1).bind fun y h2=>R.of ((cop o x y h2).map .bl) h2
 | .nt a,fr,h=>(ev P a fr h).bind fun x h1=>match x with
   | .bl b=>.ok (.bl (!b)) h1
   | _=>.bad
 | .neg a,fr,h=>(ev P a fr h).bind fun x h1=>match x with
   | .int i=>.ok (.int (-i)) h1
   | _=>.bad
 | .an a b,fr,h=>(ev P a fr h).bind fun x h1=>match x with
   | .bl true=>ev P b fr h1
   | .bl false=>.ok (.bl false) h1
   | _=>.bad
 | .orr a b,fr,h=>(ev P a fr h).bind fun x h1=>match x with
   | .bl true=>.ok (.bl true) h1
   | .bl false=>ev P b fr h1
   | _=>.bad
 | .lK t a b,fr,h=>(aN P t fr h).bind fun k h1=>if k then ev P a fr h1 else ev P b fr h1
 | .ix a b,fr,h=>(ev P a fr h).bind fun x h1=>(ev P b fr h1).bind fun y h2=>R.of (fW x y h2) h2
 | .sl a lo hi,fr,h=>(ev P a fr h).bind fun x h1=>(fQ P lo fr h1).bind fun l h2=>(fQ P hi fr h2).bind fun u h3=>gw x l u h3
 | .lM a,fr,h=>(ev P a fr h).bind fun x h1=>yC x h1
 | .cl f es,fr,h=>(cF P es fr h).bind fun ds h1=>P f ds h1
 | .bi b es,fr,h=>(cF P es fr h).bind fun ds h1=>dJ b ds h1
 | .me m o es,fr,h=>(ev P o fr h).bind fun x h1=>if wV m x h1 then (cF P es fr h1).bind fun ds h2=>fq m x ds h2 else .bad
 | .lN a ts,fr,h=>(ev P a fr h).bind fun x h1=>.ok (.bl (ts.any (dw h1 x))) h1
 | .comp elt t it cond,fr,h=>(cO P it fr h).bind fun s h1=>if undef t fr then
   (cV (fun d h2=>match cy t d fr with
    | none=>.bad
    | some av=>(iw P cond av h2).bind fun k h3=>if k then (ev P elt av h3).bind fun x h4=>.ok (some x) h4 else .ok none h3) s.2 s.1 h1).bind fun ds h2=>alloc ds h2 else .bad
 | .iL it,fr,h=>(cO P it fr h).bind fun s h1=>alloc s.1 h1
 | .ji kvs a,fr,h=>(ev P a fr h).bind fun x h1=>R.of (eU x kvs) h1
 | .gv a,fr,h=>(ev P a fr h).bind fun x h1=>qo x h1
noncomputable def cF (P:aW):Es→Fr→Hh→R (List D)
 | .nil,_,h=>.ok [] h
 | .cons e es,fr,h=>(ev P e fr h).bind fun d h1=>(cF P es fr h1).bind fun ds h2=>.ok (d :: ds) h2
noncomputable def fQ (P:aW):Eo→Fr→Hh→R (Option Int)
 | .no,_,h=>.ok none h
 | .yes e,fr,h=>(ev P e fr h).bind fun d h1=>R.of ((intOf d).map some) h1
noncomputable def iw (P:aW):Eo→Fr→Hh→R Bool
 | .no,_,h=>.ok true h
 | .yes e,fr,h=>aN P e fr h
noncomputable def aN (P:aW):E→Fr→Hh→R Bool
 | .an a b,fr,h=>(aN P a fr h).bind fun k h1=>if k then aN P b fr h1 else .ok false h1
 | .orr a b,fr,h=>(aN P a fr h).bind fun k h1=>if k then .ok true h1 else aN P b fr h1
 | .nt a,fr,h=>(aN P a fr h).bind fun k h1=>.ok (!k) h1
 | e,fr,h=>(ev P e fr h).bind fun x h1=>R.of (truthy h1 x) h1
noncomputable def cO (P:aW):It→Fr→Hh→R Src
 | .seq e,fr,h=>(ev P e fr h).bind fun x h1=>R.of (gq h1 x) h1
 | .jb es,fr,h=>(cF P es fr h).bind fun ds h1=>R.of (fF ds) h1
 | .zip a b,fr,h=>(ev P a fr h).bind fun x h1=>(ev P b fr h1).bind fun y h2=>R.of ((oh h2 x).bind fun s=>(oh h2 y).map fun t=>(eW s.1 t.1,s.2++t.2)) h2
 | .enum a,fr,h=>(ev P a fr h).bind fun x h1=>R.of ((oh h1 x).map fun s=>(gK 0 s.1,s.2)) h1
 | .rev a,fr,h=>(ev P a fr h).bind fun x h1=>R.of ((CG x).map fun ds=>(ds.reverse,[])) h1
end
mutual
noncomputable def ex (P:aW) (w:Nat):S→Fr→Hh→R (Fl×Fr)
 | .set i e,fr,h=>(ev P e fr h).bind fun x h1=>.ok (.nx,fr.set i (some x)) h1
 | .kT l e,fr,h=>(ev P e fr h).bind fun x h1=>match cy (.many l) x fr with
   | some av=>.ok (.nx,av) h1
   | none=>.bad
 | .exp e,fr,h=>(ev P e fr h).bind fun _ h1=>.ok (.nx,fr) h1
 | .ret e,fr,h=>(ev P e fr h).bind fun x h1=>.ok (.ret x,fr) h1
 | .iff t a b,fr,h=>(aN P t fr h).bind fun k h1=>if k then exs P w a fr h1 else exs P w b fr h1
 | .for t it b,fr,h=>(cO P it fr h).bind fun s h1=>forL (fun d av h2=>match cy t d av with
   | some cL=>exs P w b cL h2
   | none=>.bad) s.2 s.1 fr h1
 | .lZ t b,fr,h=>ef (fun av h2=>aN P t av h2) (fun av h2=>exs P w b av h2) w fr h
 | .pass,fr,h=>.ok (.nx,fr) h
 | .brk,fr,h=>.ok (.bk,fr) h
 | .cnt,fr,h=>.ok (.ct,fr) h
 | .fP,_,_=>.bad
noncomputable def exs (P:aW) (w:Nat):Ss→Fr→Hh→R (Fl×Fr)
 | .nil,fr,h=>.ok (.nx,fr) h
 | .cons s ss,fr,h=>(ex P w s fr h).bind fun p h1=>match p.1 with
   | .nx=>exs P w ss p.2 h1
   | _=>.ok p h1
end
structure Fn where
 np:Nat
 ns:Nat
 body:Ss
noncomputable def fy (fn:Fn) (ds:List D):Fr:=ds.map some++List.replicate (fn.ns - fn.np) none
noncomputable def endOf (r:R (Fl×Fr)):R D:=r.bind fun p h=>match p.1 with
 | .ret d=>.ok d h
 | .nx=>.ok .bB h
 | _=>.bad
noncomputable def run (F:List Fn) (w:Nat):Nat→aW
 | 0,_,_,_=>.bad
 | n+1,f,ds,h=>match F[f]? with
  | some fn=>if ds.length=fn.np then endOf (exs (run F w n) w fn.body (fy fn ds) h) else .bad
  | none=>.bad
end Ev
set_option maxRecDepth 100000
namespace Sm
open PySem PySem.Spec PyProof.Rows L2
noncomputable def aX (l:List Nat):Str:=⟨l.toArray⟩
theorem cX (l:List Nat):(aX l).length=l.length:=by simp [aX,Str.length]
theorem qp {a b:List Nat}(h:aX a=aX b):a=b:=by
 have h1:a.toArray=b.toArray:=congrArg Str.cps h
 simpa using congrArg Array.toList h1
theorem jG:Ev.big=sizeLine:=by rw [sizeLine_eq];rfl
section
variable (K:PySem.W.Frag)
mutual
noncomputable def RV (H:Hp) (r:List Addr):Ev.D→V→Prop
 | .bB,v=>v=.bB
 | .bl b,v=>v=.bl b
 | .int i,v=>v=.int i
 | .str s,v=>v=.str (aX s)∧s.length≤sizeLine
 | .ref n,v=>∃ a,v=.ref a∧r[n]?=some a
 | .tup ds,v=>∃ a vs,v=.ref a∧dI K H a vs∧aO H r ds vs
noncomputable def aO (H:Hp) (r:List Addr):List Ev.D→List V→Prop
 | [],vs=>vs=[]
 | d :: ds,vs=>∃ v w,vs=v :: w∧RV H r d v∧aO H r ds w
end
noncomputable def yD (H:Hp) (a:Addr) (vs:List V):Prop:=(∃ o,H a=some (.bR o (.lst vs)))∨
 ∃ (o:Obj) (its:Array Value) (n:Nat),K.lookup a=some o∧o.cls=.type "list" ∧o.dict=none∧o.data=.seq its n∧its.size≤sizeLine∧Vals vs its.toList
noncomputable def RO (H:Hp) (r:List Addr):Ev.O→Addr→Prop
 | .lst ds,a=>∃ vs,H a=some (.lst vs)∧aO K H r ds vs
 | .bR ds,a=>∃ vs,yD K H a vs∧aO K H r ds vs
structure HR (H:Hp) (r:List Addr) (h:Ev.Hh):Prop where
 len:r.length=h.length
 ob:∀ (n:Nat) o,h[n]?=some o→∃ a,r[n]?=some a∧RO K H r o a
 inj:∀ (n m:Nat) a x y,r[n]?=some a→r[m]?=some a→h[n]?=some (.lst x)→h[m]?=some (.lst y)→n=m
structure Fm (r r':List Addr) (H H':Hp):Prop where
 pre:∀ (n:Nat) a,r[n]?=some a→r'[n]?=some a
 new:∀ a∈r',a∈r∨H a=none
 keep:∀ a o,H a=some o→a∉r→H' a=some o
 tups:∀ a vs,dI K H a vs→dI K H' a vs
end
section
variable {K:PySem.W.Frag}{H H1 H2:Hp}{r r1 r2:List Addr}{h:Ev.Hh}
theorem Fm.refl:Fm K r r H H:=⟨fun _ _ e=>e,fun _ e=>.inl e,fun _ _ e _=>e,fun _ _ e=>e⟩
theorem Fm.trans (a:Fm K r r1 H H1) (b:Fm K r1 r2 H1 H2):Fm K r r2 H H2 where
 pre:=fun n x e=>b.pre n x (a.pre n x e)
 new:=fun x e=>by
  rcases b.new x e with q | q
  ·exact a.new x q
  ·by_cases z:x∈r
   ·exact .inl z
   ·refine .inr ?_
    cases w:H x with
    | none=>rfl
    | some o=>rw [a.keep x o w z] at q;cases q
 keep:=fun x o e n=>by
  refine b.keep x o (a.keep x o e n) fun z=>?_
  rcases a.new x z with q | q
  ·exact n q
  ·rw [e] at q;cases q
 tups:=fun x vs e=>b.tups x vs (a.tups x vs e)
mutual
theorem RV.grow (f:∀ (n:Nat) a,r[n]?=some a→r1[n]?=some a) (g:∀ a vs,dI K H a vs→dI K H1 a vs):∀ {d:Ev.D}{v:V},RV K H r d v→RV K H1 r1 d v
 | .bB,_,e=>e
 | .bl _,_,e=>e
 | .int _,_,e=>e
 | .str _,_,e=>e
 | .ref n,_,⟨a,e,z⟩=>⟨a,e,f n a z⟩
 | .tup ds,_,⟨a,vs,e,z,q⟩=>⟨a,vs,e,g a vs z,aO.grow f g q⟩
theorem aO.grow (f:∀ (n:Nat) a,r[n]?=some a→r1[n]?=some a) (g:∀ a vs,dI K H a vs→dI K H1 a vs):∀ {ds:List Ev.D}{vs:List V},aO K H r ds vs→aO K H1 r1 ds vs
 | [],_,e=>e
 | _ :: _,_,⟨v,w,e,z,q⟩=>⟨v,w,e,RV.grow f g z,aO.grow f g q⟩
end
theorem RV.mono (f:Fm K r r1 H H1) {d:Ev.D}{v:V}(q:RV K H r d v):RV K H1 r1 d v:=q.grow f.pre f.tups
theorem aO.mono (f:Fm K r r1 H H1) {ds:List Ev.D}{vs:List V}(q:aO K H r ds vs):aO K H1 r1 ds vs:=q.grow f.pre f.tups
theorem aO.nil:aO K H r [] []:=by simp [aO]
theorem aO.cons {d:Ev.D}{v:V}{ds:List Ev.D}{vs:List V}(a:RV K H r d v) (b:aO K H r ds vs):aO K H r (d :: ds) (v :: vs):=by
 simp only [aO];exact ⟨v,vs,rfl,a,b⟩
theorem aO.length:∀ {ds:List Ev.D}{vs:List V},aO K H r ds vs→vs.length=ds.length
 | [],_,e=>by simp only [aO] at e;subst e;rfl
 | _ :: _,_,e=>by
  simp only [aO] at e
  obtain ⟨v,w,rfl,_,q⟩:=e
  simp [aO.length q]
theorem aO.get:∀ {ds:List Ev.D}{vs:List V}{i:Nat}{d:Ev.D},aO K H r ds vs→ds[i]?=some d→∃ v,vs[i]?=some v∧RV K H r d v
 | [],_,_,_,_,e=>by simp at e
 | _ :: _,_,0,_,h,e=>by
  simp only [aO] at h
  obtain ⟨v,w,rfl,z,q⟩:=h
  simp at e;subst e
  exact ⟨v,by simp,z⟩
 | _ :: _,_,i+1,_,h,e=>by
  simp only [aO] at h
  obtain ⟨v,w,rfl,z,q⟩:=h
  obtain ⟨u,a,b⟩:=aO.get (i:=i) q (by simpa using e)
  exact ⟨u,by simpa using a,b⟩
theorem aO.append:∀ {ds es:List Ev.D}{vs ws:List V},aO K H r ds vs→aO K H r es ws→aO K H r (ds++es) (vs++ws)
 | [],_,_,_,a,b=>by simp only [aO] at a;subst a;simpa using b
 | _ :: _,_,_,_,a,b=>by
  simp only [aO] at a
  obtain ⟨v,w,rfl,z,q⟩:=a
  simp only [List.cons_append]
  exact .cons z (aO.append q b)
theorem aO.take:∀ {ds:List Ev.D}{vs:List V}(n:Nat),aO K H r ds vs→aO K H r (ds.take n) (vs.take n)
 | _,_,0,_=>by simp [aO]
 | [],_,_+1,a=>by simp only [aO] at a;subst a;simp [aO]
 | _ :: _,_,n+1,a=>by
  simp only [aO] at a
  obtain ⟨v,w,rfl,z,q⟩:=a
  simp only [List.take_succ_cons]
  exact .cons z (aO.take n q)
theorem aO.drop:∀ {ds:List Ev.D}{vs:List V}(n:Nat),aO K H r ds vs→aO K H r (ds.drop n) (vs.drop n)
 | _,_,0,a=>by simpa using a
 | [],_,_+1,a=>by simp only [aO] at a;subst a;simp [aO]
 | _ :: _,_,n+1,a=>by
  simp only [aO] at a
  obtain ⟨v,w,rfl,z,q⟩:=a
  simp only [List.drop_succ_cons]
  exact aO.drop n q
theorem aO.reverse:∀ {ds:List Ev.D}{vs:List V},aO K H r ds vs→aO K H r ds.reverse vs.reverse
 | [],_,a=>by simp only [aO] at a;subst a;simp [aO]
 | _ :: _,_,a=>by
  simp only [aO] at a
  obtain ⟨v,w,rfl,z,q⟩:=a
  simp only [List.reverse_cons]
  exact (aO.reverse q).append (.cons z .nil)
theorem aO.rep {ds:List Ev.D}{vs:List V}(a:aO K H r ds vs):∀ k:Nat,aO K H r (Ev.rep k ds) (Ev.rep k vs)
 | 0=>by simp [Ev.rep,aO]
 | k+1=>by
  have h:=aO.rep a k
  simp only [Ev.rep,List.replicate_succ,List.flatten_cons] at h ⊢
  exact a.append h
theorem Fm.laid {p:Addr}{o:HO}(hp:H p=none):Fm K r (r++[p]) H (upd H p o) where
 pre:=fun n a e=>by rw [List.getElem?_append_left (List.getElem?_eq_some_iff.mp e).1];exact e
 new:=fun a e=>by
  rcases List.mem_append.mp e with q | q
  ·exact .inl q
  ·rw [List.mem_singleton] at q;subst q;exact .inr hp
 keep:=fun a ob e _=>by rw [bE (cD e hp)];exact e
 tups:=fun a vs e=>by
  rcases e with (e | ⟨ob,e⟩) | e
  ·exact .inl (.inl (by rw [bE (cD e hp)];exact e))
  ·exact .inl (.inr ⟨ob,by rw [bE (cD e hp)];exact e⟩)
  ·exact .inr e
theorem Fm.tup {p:Addr}{o:HO}(hp:H p=none):Fm K r r H (upd H p o) where
 pre:=fun n a e=>e
 new:=fun a e=>.inl e
 keep:=fun a ob e _=>by rw [bE (cD e hp)];exact e
 tups:=(Fm.laid (r:=r) hp).tups
theorem RO.mono {o:Ev.O}{a:Addr}(f:Fm K r r1 H H1) (q:RO K H r o a) (hl:∀ ds vs,o=.lst ds→H a=some (.lst vs)→H1 a=some (.lst vs)) (hf:∀ ob vs,H a=some (.bR ob vs)→H1 a=some (.bR ob vs)):RO K H1 r1 o a:=by
 cases o with
 | lst ds=>
  obtain ⟨vs,e,z⟩:=q
  exact ⟨vs,hl ds vs rfl e,z.mono f⟩
 | bR ds=>
  obtain ⟨vs,e,z⟩:=q
  refine ⟨vs,?_,z.mono f⟩
  rcases e with ⟨ob,e⟩ | e
  ·exact .inl ⟨ob,hf _ _ e⟩
  ·exact .inr e
theorem HR.tup {p:Addr}{o:HO}(hr:HR K H r h) (hp:H p=none):HR K (upd H p o) r h where
 len:=hr.len
 ob:=fun n ob e=>by
  obtain ⟨a,e1,q⟩:=hr.ob n ob e
  exact ⟨a,e1,q.mono (Fm.tup hp) (fun _ vs _ z=>by rw [bE (cD z hp)];exact z) fun _ _ z=>by rw [bE (cD z hp)];exact z⟩
 inj:=hr.inj
theorem HR.lst {p:Addr}{ds:List Ev.D}{vs:List V}(hr:HR K H r h) (hp:H p=none) (q:aO K H r ds vs):HR K (upd H p (.lst vs)) (r++[p]) (h++[.lst ds]) where
 len:=by simp [hr.len]
 ob:=fun n ob e=>by
  by_cases hn:n<h.length
  ·rw [List.getElem?_append_left hn] at e
   obtain ⟨a,e1,z⟩:=hr.ob n ob e
   exact ⟨a,(Fm.laid (K:=K) (o:=.lst vs) hp).pre n a e1,z.mono (Fm.laid hp) (fun _ vs _ z=>by rw [bE (cD z hp)];exact z) fun _ _ z=>by rw [bE (cD z hp)];exact z⟩
  ·have e2:=(List.getElem?_eq_some_iff.mp e).1
   simp only [List.length_append,List.length_singleton] at e2
   have e3:n=h.length:=by omega
   subst e3
   simp at e
   subst e
   exact ⟨p,by rw [←hr.len];simp,vs,fV,q.mono (Fm.laid hp)⟩
 inj:=fun n m a x y e1 e2 e3 e4=>by
  have out:∀ (k:Nat) z,(h++[Ev.O.lst ds])[k]?=some (.lst z)→(r++[p])[k]?=some a→(k<h.length∧r[k]?=some a∧h[k]?=some (.lst z)∧a≠p)∨(k=h.length∧a=p):=fun k z q1 q2=>by
   by_cases hk:k<h.length
   ·rw [List.getElem?_append_left hk] at q1
    rw [List.getElem?_append_left (by rw [hr.len];exact hk)] at q2
    obtain ⟨b,e5,vs',e6,_⟩:=hr.ob k _ q1
    rw [q2] at e5;cases e5
    exact .inl ⟨hk,q2,q1,cD e6 hp⟩
   ·have e5:=(List.getElem?_eq_some_iff.mp q1).1
    simp only [List.length_append,List.length_singleton] at e5
    have e6:k=r.length:=by rw [hr.len];omega
    subst e6
    simp at q2
    exact .inr ⟨hr.len,q2.symm⟩
  rcases out n x e3 e1 with ⟨h1,h2,h3,h4⟩ | ⟨h1,h2⟩
  ·rcases out m y e4 e2 with ⟨k1,k2,k3,k4⟩ | ⟨k1,k2⟩
   ·exact hr.inj n m a x y h2 k2 h3 k3
   ·exact absurd k2 h4
  ·rcases out m y e4 e2 with ⟨k1,k2,k3,k4⟩ | ⟨k1,k2⟩
   ·exact absurd h2 k4
   ·rw [h1,k1]
theorem HR.read {n:Nat}{ds:List Ev.D}(hr:HR K H r h) (e:Ev.bg h n=some ds):∃ a vs,r[n]?=some a∧dZ K H a vs∧aO K H r ds vs:=by
 unfold Ev.bg at e
 split at e
 ·rename_i z
  cases e
  obtain ⟨a,e1,vs,e2,e3⟩:=hr.ob n _ z
  exact ⟨a,vs,e1,.inl (.inl e2),e3⟩
 ·rename_i z
  cases e
  obtain ⟨a,e1,vs,e2,e3⟩:=hr.ob n _ z
  refine ⟨a,vs,e1,?_,e3⟩
  rcases e2 with ⟨ob,e2⟩ | e2
  ·exact .inl (.inr ⟨ob,e2⟩)
  ·exact .inr e2
 ·cases e
theorem Fm.write {a:Addr}{vs ws:List V}(ha:H a=some (.lst vs)) (hm:a∈r):Fm K r r H (upd H a (.lst ws)) where
 pre:=fun n b e=>e
 new:=fun b e=>.inl e
 keep:=fun b ob e n=>by rw [bE (fun z=>n (by rw [z];exact hm))];exact e
 tups:=fun b us e=>by
  rcases e with (e | ⟨ob,e⟩) | e
  ·exact .inl (.inl (by rw [bE (oU e ha (by intro z;cases z))];exact e))
  ·exact .inl (.inr ⟨ob,by rw [bE (oU e ha (by intro z;cases z))];exact e⟩)
  ·exact .inr e
theorem HR.write {n:Nat}{a:Addr}{ds es:List Ev.D}{vs ws:List V}(hr:HR K H r h) (hn:h[n]?=some (.lst ds)) (Le:r[n]?=some a) (ha:H a=some (.lst vs)) (q:aO K H r es ws) :
  HR K (upd H a (.lst ws)) r (h.set n (.lst es)) where
 len:=by simp [hr.len]
 ob:=fun m ob e=>by
  have f:=Fm.write (K:=K) (ws:=ws) ha (List.mem_of_getElem? Le)
  by_cases hm:m=n
  ·subst hm
   rw [List.getElem?_set_self (List.getElem?_eq_some_iff.mp hn).1] at e
   cases e
   exact ⟨a,Le,ws,fV,q.mono f⟩
  ·rw [List.getElem?_set_ne (fun z=>hm z.symm)] at e
   obtain ⟨b,e1,z⟩:=hr.ob m ob e
   refine ⟨b,e1,z.mono f (fun ZN us z3 z2=>?_) fun ob' us z2=>by rw [bE (oU z2 ha (by intro z;cases z))];exact z2⟩
   by_cases hb:b=a
   ·subst hb
    subst z3
    exact absurd (hr.inj m n b ZN ds e1 Le e hn) hm
   ·rw [bE hb];exact z2
 inj:=fun k m b x y e1 e2 e3 e4=>by
  have back:∀ (j:Nat) z,(h.set n (Ev.O.lst es))[j]?=some (.lst z)→∃ z',h[j]?=some (.lst z'):=fun j z w=>by
   by_cases hj:j=n
   ·subst hj;exact ⟨ds,hn⟩
   ·rw [List.getElem?_set_ne (fun z=>hj z.symm)] at w;exact ⟨z,w⟩
  obtain ⟨x',e5⟩:=back k x e3
  obtain ⟨y',e6⟩:=back m y e4
  exact hr.inj k m b x' y' e1 e2 e5 e6
theorem iy {p:Addr}{vs ws:List V}(hp:H p=some (.lst vs)):∀ a us,dI K H a us→dI K (upd H p (.lst ws)) a us:=fun b us e=>by
 rcases e with (e | ⟨ob,e⟩) | e
 ·exact .inl (.inl (by rw [bE (oU e hp (by intro z;cases z))];exact e))
 ·exact .inl (.inr ⟨ob,by rw [bE (oU e hp (by intro z;cases z))];exact e⟩)
 ·exact .inr e
theorem HR.other {p:Addr}{vs ws:List V}(hr:HR K H r h) (hp:H p=some (.lst vs)) (hn:p∉r):HR K (upd H p (.lst ws)) r h where
 len:=hr.len
 ob:=fun n ob e=>by
  obtain ⟨a,e1,q⟩:=hr.ob n ob e
  have ha:a≠p:=fun z=>hn (by rw [←z];exact List.mem_of_getElem? e1)
  refine ⟨a,e1,?_⟩
  cases ob with
  | lst ds=>
   obtain ⟨us,e2,e3⟩:=q
   exact ⟨us,by rw [bE ha];exact e2,e3.grow (fun _ _ z=>z) (iy hp)⟩
  | bR ds=>
   obtain ⟨us,e2,e3⟩:=q
   refine ⟨us,?_,e3.grow (fun _ _ z=>z) (iy hp)⟩
   rcases e2 with ⟨o,e2⟩ | e2
   ·exact .inl ⟨o,by rw [bE ha];exact e2⟩
   ·exact .inr e2
 inj:=hr.inj
theorem Fm.other {p:Addr}{vs ws:List V}(f:Fm K r r1 H H1) (h0:H p=none) (hp:H1 p=some (.lst vs)):Fm K r r1 H (upd H1 p (.lst ws)) where
 pre:=f.pre
 new:=f.new
 keep:=fun a o e n=>by rw [bE (cD e h0)];exact f.keep a o e n
 tups:=fun a us e=>iy hp a us (f.tups a us e)
theorem Fm.kR {p:Addr}{o:HO}(f:Fm K r r1 H H1) (hp:H p=some o) (hn:p∉r):p∉r1∧H1 p=some o:=by
 refine ⟨fun z=>?_,f.keep p o hp hn⟩
 rcases f.new p z with q | q
 ·exact hn q
 ·rw [hp] at q;cases q
theorem HR.known {p:Addr}{ds:List Ev.D}{vs:List V}(hr:HR K H r h) (hp:H p=some (.lst vs)) (hn:p∉r) (q:aO K H r ds vs):HR K H (r++[p]) (h++[.lst ds]):=by
 have pre:∀ (n:Nat) a,r[n]?=some a→(r++[p])[n]?=some a:=fun n a e=>by rw [List.getElem?_append_left (List.getElem?_eq_some_iff.mp e).1];exact e
 refine ⟨by simp [hr.len],fun n ob e=>?_,fun n m a x y e1 e2 e3 e4=>?_⟩
 ·by_cases hk:n<h.length
  ·rw [List.getElem?_append_left hk] at e
   obtain ⟨a,e1,z⟩:=hr.ob n ob e
   refine ⟨a,pre n a e1,?_⟩
   cases ob with
   | lst ds=>obtain ⟨us,e2,e3⟩:=z;exact ⟨us,e2,e3.grow pre fun _ _ z=>z⟩
   | bR ds=>obtain ⟨us,e2,e3⟩:=z;exact ⟨us,e2,e3.grow pre fun _ _ z=>z⟩
  ·have e2:=(List.getElem?_eq_some_iff.mp e).1
   simp only [List.length_append,List.length_singleton] at e2
   have e3:n=h.length:=by omega
   subst e3
   simp at e
   subst e
   exact ⟨p,by rw [←hr.len];simp,vs,hp,q.grow pre fun _ _ z=>z⟩
 ·have out:∀ (k:Nat) z,(h++[Ev.O.lst ds])[k]?=some (.lst z)→(r++[p])[k]?=some a→(k<h.length∧r[k]?=some a∧h[k]?=some (.lst z)∧a≠p)∨(k=h.length∧a=p):=fun k z q1 q2=>by
   by_cases hk:k<h.length
   ·rw [List.getElem?_append_left hk] at q1
    rw [List.getElem?_append_left (by rw [hr.len];exact hk)] at q2
    exact .inl ⟨hk,q2,q1,fun z=>hn (by rw [←z];exact List.mem_of_getElem? q2)⟩
   ·have e5:=(List.getElem?_eq_some_iff.mp q1).1
    simp only [List.length_append,List.length_singleton] at e5
    have e6:k=r.length:=by rw [hr.len];omega
    subst e6
    simp at q2
    exact .inr ⟨hr.len,q2.symm⟩
  rcases out n x e3 e1 with ⟨h1,h2,h3,h4⟩ | ⟨h1,h2⟩
  ·rcases out m y e4 e2 with ⟨k1,k2,k3,k4⟩ | ⟨k1,k2⟩
   ·exact hr.inj n m a x y h2 k2 h3 k3
   ·exact absurd k2 h4
  ·rcases out m y e4 e2 with ⟨k1,k2,k3,k4⟩ | ⟨k1,k2⟩
   ·exact absurd h2 k4
   ·rw [h1,k1]
theorem Fm.known {p:Addr}(f:Fm K r r1 H H1) (h0:H p=none):Fm K r (r1++[p]) H H1 where
 pre:=fun n a e=>by
  have e':=f.pre n a e
  rw [List.getElem?_append_left (List.getElem?_eq_some_iff.mp e').1];exact e'
 new:=fun a e=>by
  rcases List.mem_append.mp e with q | q
  ·exact f.new a q
  ·rw [List.mem_singleton] at q;subst q;exact .inr h0
 keep:=f.keep
 tups:=f.tups
end
end Sm
set_option maxRecDepth 100000
namespace Sm
open PySem PySem.Spec PyProof.Rows L2
open Ev (D O Hh Fr R aW E Es Eo It T S Ss Fl Src cz b7 TY BI ME)
section
variable (K:PySem.W.Frag)
noncomputable def Res (r:List Addr) (H:Hp) (h':Hh) (d:D) (Q:VK):Prop:=∀ v H' r',RV K H' r' d v→HR K H' r' h'→Fm K r r' H H'→Q v H'
structure SR (m:List Nat) (H:Hp) (r:List Addr) (fr:Fr) (s:L2.St):Prop where
 len:s.length=m.length
 sl:∀ (j i:Nat) d,m[j]?=some i→fr[i]?=some (some d)→∃ v,s[j]?=some (some v)∧RV K H r d v
inductive tJ (m:List Nat) (P:aW) (e:E) (s:L2.St) (H:Hp) (Q:VK):Prop
 | mk (r:List Addr) (fr:Fr) (h:Hh) (d:D) (h':Hh) (c0:SR K m H r fr s) (c1:HR K H r h) (c2:Ev.ev P e fr h=.ok d h') (c3:Res K r H h' d Q):tJ m P e s H Q
inductive Lf (m:List Nat) (P:aW) (e:E) (s:L2.St) (H:Hp) (Q:Bool→Hp→Prop):Prop
 | mk (r:List Addr) (fr:Fr) (h:Hh) (k:Bool) (h':Hh) (c0:SR K m H r fr s) (c1:HR K H r h) (c2:Ev.aN P e fr h=.ok k h') (c3:∀ H' r',HR K H' r' h'→Fm K r r' H H'→Q k H'):Lf m P e s H Q
inductive Lh (m:List Nat) (P:aW) (es:Es) (s:L2.St) (H:Hp) (Q:List V→Hp→Prop):Prop
 | mk (r:List Addr) (fr:Fr) (h:Hh) (ds:List D) (h':Hh) (c0:SR K m H r fr s) (c1:HR K H r h) (c2:Ev.cF P es fr h=.ok ds h') (c3:∀ vs H' r',aO K H' r' ds vs→HR K H' r' h'→Fm K r r' H H'→Q vs H'):Lh m P es s H Q
inductive UH (m:List Nat) (P:aW) (e:Eo) (s:L2.St) (H:Hp) (Q:Option Int→Hp→Prop):Prop
 | mk (r:List Addr) (fr:Fr) (h:Hh) (o:Option Int) (h':Hh) (c0:SR K m H r fr s) (c1:HR K H r h) (c2:Ev.fQ P e fr h=.ok o h') (c3:∀ H' r',HR K H' r' h'→Fm K r r' H H'→Q o H'):UH m P e s H Q
inductive iM (f:D→D→Hh→R D) (x:V) (y:V) (H:Hp) (Q:VK):Prop
 | mk (r:List Addr) (h:Hh) (a:D) (b:D) (d:D) (h':Hh) (c0:HR K H r h) (c1:RV K H r a x) (c2:RV K H r b y) (c3:f a b h=.ok d h') (c4:Res K r H h' d Q):iM f x y H Q
inductive ZO (f:D→Hh→R D) (x:V) (H:Hp) (Q:VK):Prop
 | mk (r:List Addr) (h:Hh) (a:D) (d:D) (h':Hh) (c0:HR K H r h) (c1:RV K H r a x) (c2:f a h=.ok d h') (c3:Res K r H h' d Q):ZO f x H Q
inductive wW (f:List D→Hh→R D) (xs:List V) (H:Hp) (Q:VK):Prop
 | mk (r:List Addr) (h:Hh) (as:List D) (d:D) (h':Hh) (c0:HR K H r h) (c1:aO K H r as xs) (c2:f as h=.ok d h') (c3:Res K r H h' d Q):wW f xs H Q
inductive tO (f:D→List D→Hh→R D) (x:V) (xs:List V) (H:Hp) (Q:VK):Prop
 | mk (r:List Addr) (h:Hh) (a:D) (as:List D) (d:D) (h':Hh) (c0:HR K H r h) (c1:RV K H r a x) (c2:aO K H r as xs) (c3:f a as h=.ok d h') (c4:Res K r H h' d Q):tO f x xs H Q
inductive Li  (x:V) (lo:Option Int) (hi:Option Int) (H:Hp) (Q:VK):Prop
 | mk (r:List Addr) (h:Hh) (a:D) (d:D) (h':Hh) (c0:HR K H r h) (c1:RV K H r a x) (c2:Ev.gw a lo hi h=.ok d h') (c3:Res K r H h' d Q):Li x lo hi H Q
end
section
variable {K:PySem.W.Frag}{m:List Nat}{H H':Hp}{r r':List Addr}{fr:Fr}{s:L2.St}{h h':Hh}{d:D}{Q:VK}
theorem SR.mono (a:SR K m H r fr s) (f:Fm K r r' H H'):SR K m H' r' fr s:=⟨a.len,fun j i d e1 e2=>by
 obtain ⟨v,q,z⟩:=a.sl j i d e1 e2
 exact ⟨v,q,z.mono f⟩⟩
theorem Res.here {v:V}(q:Res K r H h d Q) (a:RV K H r d v) (b:HR K H r h):Q v H:=q v H r a b .refl
theorem Res.later (q:Res K r H h' d Q) (f:Fm K r r' H H'):Res K r' H' h' d Q:=fun v H2 r2 a b g=>q v H2 r2 a b (f.trans g)
theorem Res.lst {ds:List D}{vs:List V}(q:Res K r H h' d Q) (e:Ev.alloc ds h=.ok d h') (a:aO K H r ds vs) (b:HR K H r h):vs.length≤sizeLine∧∀ p,H p=none→Q (.ref p) (upd H p (.lst vs)):=by
 unfold Ev.alloc at e
 split at e
 ·rename_i z
  cases e
  refine ⟨by rw [a.length,←jG];exact z,fun p hp=>?_⟩
  exact q _ _ (r++[p]) ⟨p,rfl,by rw [←b.len];simp⟩ (b.lst hp a) (.laid hp)
 ·cases e
theorem Res.tup {ds:List D}{vs:List V}(q:Res K r H h (.tup ds) Q) (a:aO K H r ds vs) (b:HR K H r h) {p:Addr}(hp:H p=none):Q (.ref p) (upd H p (.tup vs)):=
 q _ _ r ⟨p,vs,rfl,.of fV,a.mono (.tup hp)⟩ (b.tup hp) (.tup hp)
end
theorem PE.of {X:Cx}{e:Expr}{t t':TE}(h:PE X e t) (w:∀ s H Q,t' s H Q→t s H Q):PE X e t':=fun pins s σ H Q I q=>h pins s σ H Q I (w _ _ _ q)
theorem PT.of {X:Cx}{e:Expr}{t t':TT}(h:PT X e t) (w:∀ s H Q,t' s H Q→t s H Q):PT X e t':=fun pins s σ H Q I q=>h pins s σ H Q I (w _ _ _ q)
theorem PW.of {X:Cx}{e:Expr}{t t':TT}(h:PW X e t) (w:∀ s H Q,t' s H Q→t s H Q):PW X e t':=fun wh pins s σ H Q I q=>h wh pins s σ H Q I (w _ _ _ q)
theorem PA.of {X:Cx}{es:List Expr}{t t':TA}(h:PA X es t) (w:∀ s H Q,t' s H Q→t s H Q):PA X es t':=fun pos pins s σ H Q I q=>h pos pins s σ H Q I (w _ _ _ q)
theorem PO.of {X:Cx}{e:Option Expr}{t t':TO}(h:PO X e t) (w:∀ s H Q,t' s H Q→t s H Q):PO X e t':=fun pins s σ H Q I q=>h pins s σ H Q I (w _ _ _ q)
structure FI where
 name:Str
 addr:Addr
 fd:FuncData
 ps:List Str
noncomputable def nJ (K:PySem.W.Frag) (F:List Ev.Fn) (w n f:Nat):Sp:=fun vs H Q _=>∃ r h ds d h',aO K H r ds vs∧HR K H r h∧Ev.run F w n f ds h=.ok d h'∧Res K r H h' d Q
noncomputable def tP:D→V→Prop
 | .bB,v=>v=.bB
 | .bl b,v=>v=.bl b
 | .int i,v=>v=.int i
 | .str s,v=>v=.str (aX s)∧s.length≤sizeLine
 | _,_=>False
theorem tP.rv {K:PySem.W.Frag}{H:Hp}{r:List Addr}{d:D}{v:V}(h:tP d v):RV K H r d v:=by
 cases d <;> simp only [tP] at h <;> simp only [RV] <;> first | exact h | exact h.elim
structure Tb where
 F:List Ev.Fn
 w:Nat
 fi:List FI
 bl:List Str
 cs:List (Str×D)
 dk:List (Str×List (D×D))
noncomputable def tabOf:List (D×D)→List (PyData×PyData)
 | (.str k,.str v) :: r=>(.str (aX k),.str (aX v)) :: tabOf r
 | _=>[]
structure Good (G:Tb) (n:Nat) (sc:Scope) (N:List Str) (df:Bool) (X:Cx):Prop where
 nm:X.N=N
 sc:X.env.scope=sc
 calm:X.calm=true
 own:df=true→∀ x,X.fn x=true
 room:gP n X.A
 xe:X.xe=fun _ _=>False
 fn:∀ (f:Nat) i,G.fi[f]?=some i→X.mg i.name=some (.ref i.addr)∧PySem.W.keepIn X.K (.ref i.addr)=true∧Binds X.K i.fd i.ps []∧iO X.prog X.w X.K X.mg X.base lY n i.addr i.fd i.ps (nJ X.K G.F G.w n f)
 bl:∀ x∈G.bl,X.mg x=none
 cs:∀ x d,(x,d)∈G.cs→∃ v u,X.mg x=some u∧RelV v u∧tP d v
 dk:∀ x kvs,(x,kvs)∈G.dk→∃ a,X.mg x=some (.ref a)∧∀ h:Heap,X.K.In h→StrTab X.prog X.w h a (tabOf kvs)
section
variable (G:Tb)(n:Nat)(sc:Scope)(N:List Str)(df:Bool)(m:List Nat)
noncomputable def JE (e:E) (x:Expr):Prop:=∀ X,Good G n sc N df X→PE X x (tJ X.K m (Ev.run G.F G.w n) e)
noncomputable def JT (e:E) (x:Expr):Prop:=∀ X,Good G n sc N df X→PT X x (Lf X.K m (Ev.run G.F G.w n) e)
noncomputable def JW (e:E) (x:Expr):Prop:=∀ X,Good G n sc N df X→PW X x (Lf X.K m (Ev.run G.F G.w n) e)
noncomputable def JA (es:Es) (xs:List Expr):Prop:=∀ X,Good G n sc N df X→PA X xs (Lh X.K m (Ev.run G.F G.w n) es)
noncomputable def JO (e:Eo) (x:Option Expr):Prop:=∀ X,Good G n sc N df X→PO X x (UH X.K m (Ev.run G.F G.w n) e)
end
section
variable {G:Tb}{n:Nat}{sc:Scope}{N:List Str}{df:Bool}{m:List Nat}{a b c:E}{xa xb xc:Expr}{pos:Pos}
theorem Good.vis {X:Cx}(g:Good G n sc N df X) {x:Str}(h:sc.names.lookup x=some .local∨sc.names.lookup x=some .cell∨sc.names.lookup x=some .free):zR X.env.scope x:=by
 rw [g.sc];exact h
theorem Good.gl {X:Cx}(g:Good G n sc N df X) {x:Str}(h:sc.names.lookup x=some .globalImplicit):Gl X x:=by
 unfold Gl Env.kindOf;rw [g.sc];exact h
theorem Xl (j i:Nat) {x:Str}(hj:m[j]?=some i:=by rfl) (hN:N[j]?=some x:=by rfl)
  (hv:sc.names.lookup x=some .local∨sc.names.lookup x=some .cell∨sc.names.lookup x=some .free:=by first | exact Or.inl rfl | exact Or.inr (Or.inl rfl) | exact Or.inr (Or.inr rfl))
  (hd:(x==("__debug__" : Str))=false:=by decide) (hcd:(x==("__classdict__" : Str))=false:=by decide):JE G n sc N df m (.v i) (.Name x pos):=by
 intro X g
 refine PE.of (zV (i:=j) (by rw [g.nm];exact hN) (g.vis hv) hd hcd) fun s H Q q=>?_
 obtain ⟨r,fr,h,d,h',sr,hr,e,q⟩:=q
 simp only [Ev.ev] at e
 obtain ⟨e2,e3⟩:=Ev.aS e
 subst e3
 obtain ⟨v,q1,q2⟩:=sr.sl j i d hj (by
  cases z:fr[i]? with
  | none=>rw [z] at e2;cases e2
  | some o=>
   rw [z] at e2
   have e':o=some d:=e2
   rw [e'])
 exact ⟨v,q1,q.here q2 hr⟩
theorem yE {K:PySem.W.Frag}{P:aW}{d:D}{v:V}(hc:tP d v):∀ s H Q,tJ K m P (.c d) s H Q→tC v s H Q:=fun s H Q q=>by
 obtain ⟨r,fr,h,d',h',sr,hr,e,q⟩:=q
 simp only [Ev.ev] at e
 cases e
 exact q.here hc.rv hr
theorem Lj {i:Int}{j}:JE G n sc N df m (.c (.int i)) (.Constant (.int i) j pos):=fun X g=>PE.of Kp (yE rfl)
theorem RK {k:Bool}{j}:JE G n sc N df m (.c (.bl k)) (.Constant (.bool k) j pos):=fun X g=>PE.of Rk (yE rfl)
theorem Lk {l:List Nat}{x:Str}{j}(hx:x=aX l:=by decide +kernel) (hl:l.length≤sizeLine:=by decide):JE G n sc N df m (.c (.str l)) (.Constant (.str x) j pos):=
 fun X g=>PE.of Kq (yE (by subst hx;exact ⟨rfl,hl⟩))
theorem Ll:JA G n sc N df m .nil []:=fun X g=>PA.of ko fun s H Q q=>by
 obtain ⟨r,fr,h,ds,h',sr,hr,e,q⟩:=q
 simp only [Ev.cF] at e
 cases e
 exact q [] H r .nil hr .refl
theorem Ii {es:Es}{xs:List Expr}(ha:JE G n sc N df m a xa) (hs:JA G n sc N df m es xs) (hst:∀ env:Env,starEach (xa :: xs) env=(false,eval xa env) :: starEach xs env:=by intro _;rfl):JA G n sc N df m (.cons a es) (xa :: xs):=
 fun X g=>PA.of (gT (ha X g) (hs X g) (hst _)) fun s H Q q=>by
  obtain ⟨r,fr,h,ds,h',sr,hr,e,q⟩:=q
  simp only [Ev.cF] at e
  obtain ⟨d,h1,e1,e⟩:=Ev.aj e
  obtain ⟨ds',h2,e2,e⟩:=Ev.aj e
  cases e
  refine ⟨r,fr,h,d,h1,sr,hr,e1,fun v H1 r1 v1 hr1 f1=>?_⟩
  refine ⟨r1,fr,h1,ds',_,sr.mono f1,hr1,e2,fun vs H2 r2 v2 hr2 f2=>?_⟩
  exact q _ H2 r2 (.cons (v1.mono f2) v2) hr2 (f1.trans f2)
theorem Lm {es:Es}{xs:List Expr}{k}(hs:JA G n sc N df m es xs):JE G n sc N df m (.tup es) (.Tuple xs k pos):=fun X g=>PE.of (KY (hs X g)) fun s H Q q=>by
 obtain ⟨r,fr,h,d,h',sr,hr,e,q⟩:=q
 simp only [Ev.ev] at e
 obtain ⟨ds,h1,e1,e⟩:=Ev.aj e
 split at e
 ·rename_i z
  cases e
  refine ⟨r,fr,h,ds,_,sr,hr,e1,fun vs H1 r1 v1 hr1 f1=>⟨by rw [v1.length,←jG];exact z,fun p hp=>?_⟩⟩
  exact (q.later f1).tup v1 hr1 hp
 ·cases e
theorem Ln {es:Es}{xs:List Expr}(hs:JA G n sc N df m es xs):JE G n sc N df m (.lst es) (.List xs pos):=fun X g=>PE.of (KZ (hs X g)) fun s H Q q=>by
 obtain ⟨r,fr,h,d,h',sr,hr,e,q⟩:=q
 simp only [Ev.ev] at e
 obtain ⟨ds,h1,e1,e⟩:=Ev.aj e
 refine ⟨r,fr,h,ds,h1,sr,hr,e1,fun vs H1 r1 v1 hr1 f1=>?_⟩
 exact (q.later f1).lst e v1 hr1
theorem oY {K:PySem.W.Frag}{P:aW}{f:D→D→Hh→R D}{e':E}(he:∀ fr h,Ev.ev P e' fr h=(Ev.ev P a fr h).bind fun x h1=>(Ev.ev P b fr h1).bind fun y h2=>f x y h2) :
  ∀ s H Q,tJ K m P e' s H Q→z9 (iM K f) (tJ K m P a) (tJ K m P b) s H Q:=fun s H Q q=>by
 obtain ⟨r,fr,h,d,h',sr,hr,e,q⟩:=q
 rw [he] at e
 obtain ⟨x,h1,e1,e⟩:=Ev.aj e
 obtain ⟨y,h2,e2,e⟩:=Ev.aj e
 refine ⟨r,fr,h,x,h1,sr,hr,e1,fun v H1 r1 v1 hr1 f1=>?_⟩
 refine ⟨r1,fr,h1,y,h2,sr.mono f1,hr1,e2,fun u H2 r2 v2 hr2 f2=>?_⟩
 exact ⟨r2,h2,x,y,d,h',hr2,v1.mono f2,v2,e,q.later (f1.trans f2)⟩
theorem mh {o:cz}{op:Operator}(ho:∀ X,Good G n sc N df X→d7 X (binaryOp op) (iM X.K (Ev.bJ o))) (ha:JE G n sc N df m a xa) (hb:JE G n sc N df m b xb):JE G n sc N df m (.bin o a b) (.BinOp xa op xb pos):=
 fun X g=>PE.of (Rw (ho X g) (ha X g) (hb X g)) (oY fun fr h=>by simp only [Ev.ev])
noncomputable def iz (o:b7):D→D→Hh→R D:=fun x y h=>R.of ((Ev.cop o x y h).map .bl) h
theorem Am {o:b7}{op:CmpOp}(ho:∀ X,Good G n sc N df X→d7 X (compareOp op) (iM X.K (iz o))) (ha:JE G n sc N df m a xa) (hb:JE G n sc N df m b xb) (hm:behindInMarks op xb=false):JE G n sc N df m (.cmp o a b) (.Compare xa [op] [xb] pos):=
 fun X g=>PE.of (HN (ho X g) (ha X g) (hb X g) hm) (oY fun fr h=>by simp only [Ev.ev,iz])
theorem ku {o:b7}{x y d:D}{h h':Hh}(e:iz o x y h=.ok d h'):∃ k,Ev.cop o x y h=some k∧d=.bl k∧h'=h:=by
 unfold iz at e
 obtain ⟨e1,rfl⟩:=Ev.aS e
 cases z:Ev.cop o x y h' with
 | none=>rw [z] at e1;cases e1
 | some k=>rw [z] at e1;cases e1;exact ⟨k,rfl,rfl,rfl⟩
theorem mj {o:b7}{op:CmpOp}(ho:∀ X,Good G n sc N df X→d7 X (compareOp op) (iM X.K (iz o))) (ha:JE G n sc N df m a xa) (hb:JE G n sc N df m b xb) (hm:behindInMarks op xb=false):JT G n sc N df m (.cmp o a b) (.Compare xa [op] [xb] pos):=
 fun X g=>PT.of (HQ (ho X g) (ha X g) (hb X g) hm) fun s H Q q=>by
  obtain ⟨r,fr,h,k,h',sr,hr,e,q⟩:=q
  simp only [Ev.aN] at e
  obtain ⟨d,h1,e1,e⟩:=Ev.aj e
  have e0:=e1
  simp only [Ev.ev] at e0
  obtain ⟨x,h2,_,e0⟩:=Ev.aj e0
  obtain ⟨y,h3,_,e0⟩:=Ev.aj e0
  obtain ⟨k',e2,e3,e4⟩:=ku (o:=o) (show iz o x y h3=_ from e0)
  subst e3
  simp only [Ev.truthy] at e
  cases e
  refine oY (e':=.cmp o a b) (f:=iz o) (fun fr h=>by simp only [Ev.ev,iz]) s H _ ⟨r,fr,h,.bl k,_,sr,hr,e1,fun v H1 r1 v1 hr1 f1=>?_⟩
  exact ⟨k,v1,q H1 r1 hr1 f1⟩
end
end Sm
set_option maxRecDepth 100000
namespace Sm
open PySem PySem.Spec PyProof.Rows L2
open Ev (D O Hh Fr R aW E Es Eo It T S Ss Fl Src cz b7 TY BI ME)
section
variable {G:Tb}{n:Nat}{sc:Scope}{N:List Str}{df:Bool}{m:List Nat}{a b c:E}{xa xb xc:Expr}{pos:Pos}
theorem Lo (ha:JE G n sc N df m a xa):JE G n sc N df m (.neg a) (.UnaryOp .USub xa pos):=fun X g=>PE.of (Rx KS (ha X g)) fun s H Q q=>by
 obtain ⟨r,fr,h,d,h',sr,hr,e,q⟩:=q
 simp only [Ev.ev] at e
 obtain ⟨x,h1,e1,e⟩:=Ev.aj e
 split at e
 ·cases e
  exact ⟨r,fr,h,_,_,sr,hr,e1,fun v H1 r1 v1 hr1 f1=>⟨_,v1,(q.later f1).here rfl hr1⟩⟩
 ·cases e
theorem Lp {op}(ha:JE G n sc N df m a xa):JE G n sc N df m a (.BoolOp op [xa] pos):=fun X g=>Kv (ha X g)
theorem RL {rest:List Expr}(ha:JE G n sc N df m a xa) (hb:JE G n sc N df m b (.BoolOp .And (xb :: rest) pos)):JE G n sc N df m (.an a b) (.BoolOp .And (xa :: xb :: rest) pos):=fun X g=>PE.of (Kw (ha X g) (hb X g)) fun s H Q q=>by
 obtain ⟨r,fr,h,d,h',sr,hr,e,q⟩:=q
 simp only [Ev.ev] at e
 obtain ⟨x,h1,e1,e⟩:=Ev.aj e
 refine ⟨r,fr,h,x,h1,sr,hr,e1,fun v H1 r1 v1 hr1 f1=>?_⟩
 split at e
 ·exact ⟨true,v1,r1,fr,h1,d,h',sr.mono f1,hr1,e,q.later f1⟩
 ·cases e
  exact ⟨false,v1,(q.later f1).here rfl hr1⟩
 ·cases e
theorem Lq (ha:JT G n sc N df m a xa) (hb:JE G n sc N df m b xb) (hc:JE G n sc N df m c xc):JE G n sc N df m (.lK a b c) (.IfExp xa xb xc pos):=fun X g=>PE.of (Cn (ha X g) (hb X g) (hc X g)) fun s H Q q=>by
 obtain ⟨r,fr,h,d,h',sr,hr,e,q⟩:=q
 simp only [Ev.ev] at e
 obtain ⟨k,h1,e1,e⟩:=Ev.aj e
 refine ⟨r,fr,h,k,h1,sr,hr,e1,fun H1 r1 hr1 f1=>?_⟩
 cases k with
 | true=>exact ⟨r1,fr,h1,d,h',sr.mono f1,hr1,e,q.later f1⟩
 | false=>exact ⟨r1,fr,h1,d,h',sr.mono f1,hr1,e,q.later f1⟩
theorem Lr (h:JW G n sc N df m a xa):JT G n sc N df m a xa:=fun X g=>(h X g).pt
theorem Ls (ha:JT G n sc N df m a xa):JW G n sc N df m a (.BoolOp .And [xa] pos):=fun X g=>HH (ha X g)
theorem Ij (ha:JT G n sc N df m a xa):JW G n sc N df m a (.BoolOp .Or [xa] pos):=fun X g=>Kr (ha X g)
theorem E8 {rest:List Expr}(ha:JT G n sc N df m a xa) (hb:JW G n sc N df m b (.BoolOp .And (xb :: rest) pos)):JW G n sc N df m (.an a b) (.BoolOp .And (xa :: xb :: rest) pos):=fun X g=>PW.of (Ks (ha X g) (hb X g)) fun s H Q q=>by
 obtain ⟨r,fr,h,k,h',sr,hr,e,q⟩:=q
 simp only [Ev.aN] at e
 obtain ⟨k1,h1,e1,e⟩:=Ev.aj e
 refine ⟨r,fr,h,k1,h1,sr,hr,e1,fun H1 r1 hr1 f1=>?_⟩
 cases k1 with
 | true=>exact ⟨r1,fr,h1,k,h',sr.mono f1,hr1,e,fun H2 r2 hr2 f2=>q H2 r2 hr2 (f1.trans f2)⟩
 | false=>
  have e':R.ok false h1=R.ok k h':=e
  cases e'
  exact q H1 r1 hr1 f1
theorem Ao {rest:List Expr}(ha:JT G n sc N df m a xa) (hb:JW G n sc N df m b (.BoolOp .Or (xb :: rest) pos)):JW G n sc N df m (.orr a b) (.BoolOp .Or (xa :: xb :: rest) pos):=fun X g=>PW.of (Rl (ha X g) (hb X g)) fun s H Q q=>by
 obtain ⟨r,fr,h,k,h',sr,hr,e,q⟩:=q
 simp only [Ev.aN] at e
 obtain ⟨k1,h1,e1,e⟩:=Ev.aj e
 refine ⟨r,fr,h,k1,h1,sr,hr,e1,fun H1 r1 hr1 f1=>?_⟩
 cases k1 with
 | false=>exact ⟨r1,fr,h1,k,h',sr.mono f1,hr1,e,fun H2 r2 hr2 f2=>q H2 r2 hr2 (f1.trans f2)⟩
 | true=>
  have e':R.ok true h1=R.ok k h':=e
  cases e'
  exact q H1 r1 hr1 f1
theorem RM (ha:JT G n sc N df m a xa):JT G n sc N df m (.nt a) (.UnaryOp .Not xa pos):=fun X g=>PT.of (Ku (ha X g)) fun s H Q q=>by
 obtain ⟨r,fr,h,k,h',sr,hr,e,q⟩:=q
 simp only [Ev.aN] at e
 obtain ⟨k1,h1,e1,e⟩:=Ev.aj e
 cases e
 exact ⟨r,fr,h,k1,_,sr,hr,e1,fun H1 r1 hr1 f1=>q H1 r1 hr1 f1⟩
theorem Lu {K:PySem.W.Frag}{H:Hp}{r:List Addr}{h:Hh}{d:D}{v:V}{k:Bool}(hr:HR K H r h) (v1:RV K H r d v) (e:Ev.truthy h d=some k):Cu K v H k:=by
 cases d with
 | bB=>simp only [RV] at v1;subst v1;cases e;rfl
 | bl x=>simp only [RV] at v1;subst v1;cases e;rfl
 | int x=>simp only [RV] at v1;subst v1;cases e;rfl
 | str x=>
  simp only [RV] at v1
  obtain ⟨rfl,z⟩:=v1
  cases e
  refine ⟨by rw [cX];exact z,?_⟩
  rw [cX]
  cases x with
  | nil=>rfl
  | cons c l=>simp;omega
 | tup ds=>
  simp only [RV] at v1
  obtain ⟨p,vs,rfl,z,q⟩:=v1
  cases e
  refine .inr (.inl ⟨vs,z,?_⟩)
  have hl:=q.length
  cases ds <;> cases vs <;> simp_all
 | ref i=>
  simp only [RV] at v1
  obtain ⟨p,rfl,z⟩:=v1
  simp only [Ev.truthy,Option.map_eq_some_iff] at e
  obtain ⟨ds,e1,rfl⟩:=e
  obtain ⟨p',vs,e2,q1,q2⟩:=hr.read e1
  rw [z] at e2;cases e2
  refine .inl ⟨vs,q1,?_⟩
  have hl:=q2.length
  cases ds <;> cases vs <;> simp_all
theorem Lv (ha:JE G n sc N df m a xa) (he:∀ (P:aW) fr h,Ev.aN P a fr h=(Ev.ev P a fr h).bind fun x h1=>R.of (Ev.truthy h1 x) h1:=by intros;simp only [Ev.aN])
  (hx:∀ (env:Env) whole,isTrue xa env whole=(do let v ←whole;standAt xa.pos;holding [v] (truthy v)):=by intro _ _;rfl):JT G n sc N df m a xa:=fun X g=>PT.of (Cv (ha X g) (hx _)) fun s H Q q=>by
 obtain ⟨r,fr,h,k,h',sr,hr,e,q⟩:=q
 rw [he] at e
 obtain ⟨d,h1,e1,e⟩:=Ev.aj e
 obtain ⟨e,rfl⟩:=Ev.aS e
 refine ⟨r,fr,h,d,_,sr,hr,e1,fun v H1 r1 v1 hr1 f1=>⟨k,Lu hr1 v1 e,q H1 r1 hr1 f1⟩⟩
noncomputable def Lx:D→D→Hh→R D:=fun x y h=>R.of (Ev.fW x y h) h
theorem RN (ho:∀ X,Good G n sc N df X→wR X (iM X.K Lx)) (ha:JE G n sc N df m a xa) (hb:JE G n sc N df m b xb) (hs:ql xb:=by intro _ _;rfl):JE G n sc N df m (.ix a b) (.Subscript xa xb pos):=
 fun X g=>PE.of (RH (ho X g) (ha X g) (hb X g) hs) (oY fun fr h=>by simp only [Ev.ev,Lx])
theorem RP:JO G n sc N df m .no none:=fun X g=>PO.of HX fun s H Q q=>by
 obtain ⟨r,fr,h,o,h',sr,hr,e,q⟩:=q
 simp only [Ev.fQ] at e
 cases e
 exact q H r hr .refl
theorem Ly (ha:JE G n sc N df m a xa):JO G n sc N df m (.yes a) (some xa):=fun X g=>PO.of (HY (ha X g)) fun s H Q q=>by
 obtain ⟨r,fr,h,o,h',sr,hr,e,q⟩:=q
 simp only [Ev.fQ] at e
 obtain ⟨d,h1,e1,e⟩:=Ev.aj e
 obtain ⟨e,rfl⟩:=Ev.aS e
 cases d with
 | int i=>
  cases e
  exact ⟨r,fr,h,.int i,_,sr,hr,e1,fun v H1 r1 v1 hr1 f1=>⟨i,v1,q H1 r1 hr1 f1⟩⟩
 | _=>cases e
theorem RQ {lo hi:Eo}{xl xh:Option Expr}{p2}(ho:∀ X,Good G n sc N df X→kr X (Li X.K)) (ha:JE G n sc N df m a xa) (hl:JO G n sc N df m lo xl) (hu:JO G n sc N df m hi xh):JE G n sc N df m (.sl a lo hi) (.Subscript xa (.Slice xl xh none p2) pos):=
 fun X g=>PE.of (Cz (ho X g) (ha X g) (hl X g) (hu X g)) fun s H Q q=>by
  obtain ⟨r,fr,h,d,h',sr,hr,e,q⟩:=q
  simp only [Ev.ev] at e
  obtain ⟨x,h1,e1,e⟩:=Ev.aj e
  obtain ⟨l,h2,e2,e⟩:=Ev.aj e
  obtain ⟨u,h3,e3,e⟩:=Ev.aj e
  refine ⟨r,fr,h,x,h1,sr,hr,e1,fun v H1 r1 v1 hr1 f1=>?_⟩
  refine ⟨r1,fr,h1,l,h2,sr.mono f1,hr1,e2,fun H2 r2 hr2 f2=>?_⟩
  refine ⟨r2,fr,h2,u,h3,(sr.mono f1).mono f2,hr2,e3,fun H3 r3 oZ f3=>?_⟩
  exact ⟨r3,h3,x,d,h',oZ,(v1.mono f2).mono f3,e,q.later ((f1.trans f2).trans f3)⟩
theorem Ik {K:PySem.W.Frag}{P:aW}{es:Es}{f:List D→Hh→R D}{e':E}(he:∀ fr h,Ev.ev P e' fr h=(Ev.cF P es fr h).bind f) :
  ∀ s H Q,tJ K m P e' s H Q→K2 (wW K f) (Lh K m P es) s H Q:=fun s H Q q=>by
 obtain ⟨r,fr,h,d,h',sr,hr,e,q⟩:=q
 rw [he] at e
 obtain ⟨ds,h1,e1,e⟩:=Ev.aj e
 exact ⟨r,fr,h,ds,h1,sr,hr,e1,fun vs H1 r1 v1 hr1 f1=>⟨r1,h1,ds,d,h',hr1,v1,e,q.later f1⟩⟩
theorem yF {k:BI}{es:Es}{x:Str}{id:String}{e0:Expr}{xs:List Expr}{p:Pos}(hc:∀ X,Good G n sc N df X→gI X (.builtin id) (wW X.K (Ev.dJ k))) (hs:JA G n sc N df m es (e0 :: xs)) (hb:x∈G.bl:=by decide +kernel)
  (hg:sc.names.lookup x=some .globalImplicit:=by rfl) (hv:bootBuiltins x=some (.builtin id)) (hn:x≠"__name__" :=by decide) (hd:(x==("__debug__" : Str))=false:=by decide)
  (hst:∀ env:Env,starEach (e0 :: xs) env=(false,eval e0 env) :: starEach xs env:=by intro _;rfl) (hpl:∀ env:Env,(backTo pos (starEach xs env)).any (·.1)=false:=by intro _;rfl) :
  JE G n sc N df m (.bi k es) (.Call (.Name x p) (e0 :: xs) [] pos):=
 fun X g=>PE.of (tG (hc X g) (g.gl hg) (g.bl x hb) hv (hs X g) hn hd (hst _) (hpl _)) (Ik fun fr h=>by simp only [Ev.ev])
theorem RS {f:Nat}{i:FI}{es:Es}{e0:Expr}{xs:List Expr}{p:Pos}(hf:G.fi[f]?=some i) (hs:JA G n sc N df m es (e0 :: xs))
  (hg:sc.names.lookup i.name=some .globalImplicit:=by rfl) (hd:(i.name==("__debug__" : Str))=false:=by decide)
  (hst:∀ env:Env,starEach (e0 :: xs) env=(false,eval e0 env) :: starEach xs env:=by intro _;rfl) (hpl:∀ env:Env,(backTo pos (starEach xs env)).any (·.1)=false:=by intro _;rfl) :
  JE G n sc N df m (.cl f es) (.Call (.Name i.name p) (e0 :: xs) [] pos):=fun X g=>by
 obtain ⟨h1,h2,h3,h4⟩:=g.fn f i hf
 refine PE.of (HU h4 g.room (g.gl hg) h1 h2 h3 .nil RJ (hs X g) hd (hst _) (hpl _)) fun s H Q q=>?_
 obtain ⟨r,fr,h,d,h',sr,hr,e,q⟩:=q
 simp only [Ev.ev] at e
 obtain ⟨ds,h5,e1,e⟩:=Ev.aj e
 refine ⟨r,fr,h,ds,h5,sr,hr,e1,fun vs H1 r1 v1 hr1 f1=>?_⟩
 exact ⟨r1,h5,ds,d,h',by rw [List.append_nil];exact v1,hr1,e,q.later f1⟩
noncomputable def CH:ME→String
 | .join=>"str"
 | _=>"list"
theorem Aq {K:PySem.W.Frag}{H:Hp}{r:List Addr}{h:Hh}{k:ME}{d:D}{v:V}{ty:String}(hr:HR K H r h) (v1:RV K H r d v) (e:Ev.wV k d h=true) (ht:ty=CH k):Af K ty v H:=by
 subst ht
 have lst:∀ i,d=.ref i→(Ev.bg h i).isSome=true→Af K "list" v H:=fun i ed es=>by
  subst ed
  obtain ⟨ds,e1⟩:=Option.isSome_iff_exists.mp es
  obtain ⟨p,vs,e2,q1,q2⟩:=hr.read e1
  simp only [RV] at v1
  obtain ⟨p',rfl,e3⟩:=v1
  rw [e2] at e3;cases e3
  exact .inl ⟨rfl,vs,q1⟩
 cases k with
 | join=>
  cases d with
  | str l=>simp only [RV] at v1;obtain ⟨rfl,_⟩:=v1;rfl
  | _=>cases e
 | append=>cases d with | ref i=>exact lst i rfl e | _=>cases e
 | extend=>cases d with | ref i=>exact lst i rfl e | _=>cases e
 | pop=>cases d with | ref i=>exact lst i rfl e | _=>cases e
theorem yG {k:ME}{es:Es}{e0:Expr}{xs:List Expr}{name:Str}{apos:Pos}{ty id:String}(pa:PlainAttrs ty) (slot:Slot ty name id) (hty:typeOf (.builtin id)=pure (.type "method_descriptor"))
  (hm:∀ X,Good G n sc N df X→rD X id (tO X.K (Ev.fq k))) (ht:ty=CH k) (ha:JE G n sc N df m a xa) (hs:JA G n sc N df m es (e0 :: xs))
  (hbase:∀ env:Env,attributeBase xa name env (eval xa env)=eval xa env:=by intro _;rfl)
  (hfew:∀ env:Env,((backTo pos (starEach (e0 :: xs) env)).all (fun x=>!x.1)&&(backToKw pos (keywordEach [] env)).all (fun x=>x.1.isSome)
   &&decide ((e0 :: xs).length+([]:List Keyword).length+(if ([]:List Keyword).isEmpty then 0 else 1)<30))=true:=by intro _;rfl)
  (hline:(apos.endLine==pos.line)=true:=by rfl) (hst:∀ env:Env,starEach (e0 :: xs) env=(false,eval e0 env) :: starEach xs env:=by intro _;rfl) (hpl:∀ env:Env,(backTo pos (starEach xs env)).any (·.1)=false:=by intro _;rfl) :
  JE G n sc N df m (.me k a es) (.Call (.Attribute xa name apos) (e0 :: xs) [] pos):=fun X g=>
 PE.of (RI pa slot hty (hm X g) (ha X g) (hs X g) (hbase _) (hfew _) hline (hst _) (hpl _)) fun s H Q q=>by
  obtain ⟨r,fr,h,d,h',sr,hr,e,q⟩:=q
  simp only [Ev.ev] at e
  obtain ⟨x,h1,e1,e⟩:=Ev.aj e
  split at e
  ·rename_i hk
   obtain ⟨ds,h2,e2,e⟩:=Ev.aj e
   refine ⟨r,fr,h,x,h1,sr,hr,e1,fun v H1 r1 v1 hr1 f1=>⟨Aq hr1 v1 hk ht,?_⟩⟩
   refine ⟨r1,fr,h1,ds,h2,sr.mono f1,hr1,e2,fun vs H2 r2 v2 hr2 f2=>?_⟩
   exact ⟨r2,h2,x,ds,d,h',hr2,v1.mono f2,v2,e,q.later (f1.trans f2)⟩
  ·cases e
theorem Lz {k:ME}{name:Str}{apos:Pos}{ty id:String}(pa:PlainAttrs ty) (slot:Slot ty name id) (hty:typeOf (.builtin id)=pure (.type "method_descriptor"))
  (hm:∀ X,Good G n sc N df X→rD X id (tO X.K (Ev.fq k))) (ht:ty=CH k) (ha:JE G n sc N df m a xa)
  (hbase:∀ env:Env,attributeBase xa name env (eval xa env)=eval xa env:=by intro _;rfl) (hline:(apos.endLine==pos.line)=true:=by rfl) :
  JE G n sc N df m (.me k a .nil) (.Call (.Attribute xa name apos) [] [] pos):=fun X g=>
 PE.of (K7 pa slot hty (hm X g) (ha X g) (hbase _) hline) fun s H Q q=>by
  obtain ⟨r,fr,h,d,h',sr,hr,e,q⟩:=q
  simp only [Ev.ev] at e
  obtain ⟨x,h1,e1,e⟩:=Ev.aj e
  split at e
  ·rename_i hk
   simp only [Ev.cF,Ev.au] at e
   refine ⟨r,fr,h,x,h1,sr,hr,e1,fun v H1 r1 v1 hr1 f1=>⟨Aq hr1 v1 hk ht,?_⟩⟩
   exact ⟨r1,h1,x,[],d,h',hr1,v1,.nil,e,q.later f1⟩
  ·cases e
end
end Sm
set_option maxRecDepth 100000
namespace Sm
open PySem PySem.Spec PyProof.Rows L2
open Ev (D O Hh Fr R aW E Es Eo T S Ss Fl Src cz b7 TY BI ME)
noncomputable def om (K:PySem.W.Frag) (r0:List Addr) (H0:Hp) (s:Src) (J:L2.It):Prop:=∀ (i:Nat) H1 r1 h1,HR K H1 r1 h1→Fm K r0 r1 H0 H1→Ev.stays h1 s.2=true→
 (∀ d,s.1[i]?=some d→J.go i H1∧∀ x H2,J.E5 i H1 x H2→∃ r2,RV K H2 r2 d x∧HR K H2 r2 h1∧Fm K r1 r2 H1 H2)∧(s.1.length≤i→J.stop i H1)
inductive UI (K:PySem.W.Frag) (m:List Nat) (P:aW) (it:Ev.It) (s:L2.St) (H:Hp) (Rr:L2.It→Hp→Prop):Prop
 | mk (r:List Addr) (fr:Fr) (h:Hh) (src:Src) (h':Hh) (c0:SR K m H r fr s) (c1:HR K H r h) (c2:Ev.cO P it fr h=.ok src h') (c3:∀ J H' r',HR K H' r' h'→Fm K r r' H H'→om K r' H' src J→Rr J H'):UI K m P it s H Rr
noncomputable def JI (G:Tb) (n:Nat) (sc:Scope) (N:List Str) (df:Bool) (m:List Nat) (it:Ev.It) (tg x:Expr):Prop:=∀ X,Good G n sc N df X→PI X tg x (UI X.K m (Ev.run G.F G.w n) it)
noncomputable def E9 (z:Str):L2.It:=⟨fun i _=>i<z.length,fun i H x H'=>H'=H∧∃ c,z.cps[i]?=some c∧x=.str ⟨#[c]⟩,fun i _=>z.length≤i⟩
theorem LA {M:Model}{A:Around}{E:Value→Shared→Prop}{s:Shared}{tg:Expr}{it:Value}{x:Str}{t:Tok}{Q:Unit→Shared→Prop}(hQ:Q () s):wpAny M A (letOwnedTupleGo tg it (.str x t)) Q E s:=by
 unfold letOwnedTupleGo
 cases tg <;> first
  | exact wpAny_pure hQ
  | (cases it <;> exact wpAny_pure hQ)
theorem tQ {P:Program}{w:World}{K:PySem.W.Frag}{tg:Expr}(z:Str) (t:Tok) (it:Addr) (ty:String) (hty:ty = "str_ascii_iterator" ∨ty = "str_iterator") :
  Turn P w K tg (E9 z) [it] it (fun i h=>h.IsStrIter it ty z t i) where
 mem:=by simp
 obj:=fun i h st b hb=>by
  have e:b=it:=by simpa using hb
  subst e
  obtain ⟨o,e,c,d⟩:=st
  exact ⟨o,e,fun v z=>by rw [d] at z;cases z⟩
 keep:=fun i h h' st k=>by
  obtain ⟨o,e,c,d⟩:=st
  exact ⟨o,k it (by simp) o e,c,d⟩
 item:=by
  intro X hP hw hK hc i pins s σ H E I hf st hg
  subst hP hw hK
  obtain ⟨f0,f1,f2,f3,f4,f5⟩:=hf it (by simp)
  have W:Walks X.prog X.w X.A it [it] [it] z.cps.size (SignAt z) (fun i h=>h.IsStrIter it ty z t i):=by
   rcases hty with e | e
   ·subst e;exact Walks.strAscii (I.ok.hd hc) it z t
   ·subst e;exact Walks.strWide (I.ok.hd hc) it z t
  refine W.item i s _ _ hg st fun v h' tk hv st' kk=>?_
  obtain ⟨c,u,hc',rfl⟩:=hv
  have I1:Inv X pins σ H { s with heap:=h',toks:=tk }:=I.turned (fun b o hb e=>kk b o (by simpa using hb) e) f0 f1 f3 f4 f5
  exact ⟨_,rfl,LA ⟨.str ⟨#[c]⟩,H,I1,⟨u,rfl⟩,⟨rfl,c,hc',rfl⟩,st',fun b hb=>(hf b hb).1⟩⟩
 done:=by
  intro X hP hw hK hc i pins s σ H E I hf st hg
  subst hP hw hK
  obtain ⟨f0,f1,f2,f3,f4,f5⟩:=hf it (by simp)
  rcases hty with e | e
  ·subst e
   exact wpAny_pyNext_ascii_end (I.ok.hd hc) st (by simpa [Str.length,E9] using hg) fun h' eb=>⟨rfl,I.turned (t':=s.toks) (fun b o hb e=>eb b o hb e) f0 f1 f3 f4 f5⟩
  ·subst e
   exact wpAny_pyNext_wide_end (I.ok.hd hc) st (by simpa [Str.length,E9] using hg) fun h' eb=>⟨rfl,I.turned (t':=s.toks) (fun b o hb e=>eb b o hb e) f0 f1 f3 f4 f5⟩
 self:=fun _ _ _ _ _ st h=>by
  rcases hty with e | e
  ·subst e;exact wpAny_pyIter_striter_ascii st h
  ·subst e;exact wpAny_pyIter_striter_wide st h
noncomputable def Fb (K:PySem.W.Frag) (x:V) (H:Hp) (Rr:L2.It→Hp→Prop):Prop:=
 (∃ a xs,x=.ref a∧dZ K H a xs∧Rr (UB K a) H)∨(∃ a xs,x=.ref a∧dI K H a xs∧Rr (UC K a) H)∨∃ z,x=.str z∧Rr (E9 z) H
theorem LB {X:Cx}{tg l:Expr}{tl:TE}{wi:TI}(hl:PE X l tl) (hw:∀ s H Rr,wi s H Rr→tl s H fun x H1=>Fb X.K x H1 Rr):PI X tg l wi:=by
 intro pins s σ H Rr I h
 refine bS (hl pins s σ H _ I (hw _ _ _ h)) fun v s1 ⟨x,H1,I1,r1,q1⟩=>?_
 have fp:∀ (o:Obj) b,b∈[s1.heap.objs.size]→gx X pins H1 b:=fun o b hb=>by
  have e:b=s1.heap.objs.size:=by simpa using hb
  subst e
  exact I1.yj (Nat.le_refl _) (I1.hok.fresh (Nat.le_refl _))
 rcases q1 with ⟨a,xs,rfl,hq,q⟩ | ⟨a,xs,rfl,hq,q⟩ | ⟨z,rfl,q⟩
 ·cases r1
  obtain ⟨its,rv,p,hz⟩:=I1.list hq
  refine wpAny_pyIter_list p.isList ?_
  exact ⟨s1.heap.objs.size,[s1.heap.objs.size],_,_,H1,rfl,I1.kept (t':=s1.toks) fun b o e=>Heap.get?_push_of_some _ e,zX a _,⟨_,Heap.get?_push_size _ rfl,rfl,rfl⟩,fp default,q⟩
 ·cases r1
  obtain ⟨its,rv,p,hz⟩:=I1.tuple hq
  refine wpAny_pyIter_tuple (show s1.heap.IsTuple a its.toArray from p) ?_
  exact ⟨s1.heap.objs.size,[s1.heap.objs.size],_,_,H1,rfl,I1.kept (t':=s1.toks) fun b o e=>Heap.get?_push_of_some _ e,yl a _,⟨_,Heap.get?_push_size _ rfl,rfl,rfl⟩,fp default,q⟩
 ·obtain ⟨t,rfl⟩:=r1
  cases ha:z.cps.all (· < 128)
  ·refine wpAny_pyIter_wide ha ?_
   exact ⟨s1.heap.objs.size,[s1.heap.objs.size],_,_,H1,rfl,I1.kept (t':=s1.toks) fun b o e=>Heap.get?_push_of_some _ e,tQ z t _ _ (.inr rfl),⟨_,Heap.get?_push_size _ rfl,rfl,rfl⟩,fp default,q⟩
  ·refine wpAny_pyIter_ascii ha ?_
   exact ⟨s1.heap.objs.size,[s1.heap.objs.size],_,_,H1,rfl,I1.kept (t':=s1.toks) fun b o e=>Heap.get?_push_of_some _ e,tQ z t _ _ (.inl rfl),⟨_,Heap.get?_push_size _ rfl,rfl,rfl⟩,fp default,q⟩
theorem mq {h:Hh}{n:Nat}{ds:List D}(e:Ev.stays h [(n,ds)]=true):Ev.bg h n=some ds:=by
 simp only [Ev.stays,Bool.and_true] at e
 split at e
 ·rename_i es q
  rw [q,(Ev.rG _ _).mp e]
 ·cases e
theorem Il {K:PySem.W.Frag}{H:Hp}{r:List Addr}{h:Hh}{d:D}{v:V}{src:Src}{Rr:L2.It→Hp→Prop}(hr:HR K H r h) (v1:RV K H r d v) (e:Ev.gq h d=some src) (q:∀ J,om K r H src J→Rr J H):Fb K v H Rr:=by
 cases d with
 | tup ds=>
  simp only [RV] at v1
  obtain ⟨a,vs,rfl,z,w⟩:=v1
  cases e
  refine .inr (.inl ⟨a,vs,rfl,z,q _ fun i H1 r1 h1 hr1 f1 st=>⟨fun d' e'=>?_,fun hl=>?_⟩⟩)
  ·obtain ⟨u,e1,e2⟩:=w.get e'
   refine ⟨⟨vs,u,f1.tups _ _ z,e1⟩,fun x H2 y=>?_⟩
   obtain ⟨rfl,y⟩:=y
   have:=y vs (f1.tups _ _ z)
   rw [e1] at this;cases this
   exact ⟨r1,e2.mono f1,hr1,.refl⟩
  ·exact ⟨vs,f1.tups _ _ z,by rw [w.length];exact hl⟩
 | str l=>
  simp only [RV] at v1
  obtain ⟨rfl,z⟩:=v1
  cases e
  refine .inr (.inr ⟨_,rfl,q _ fun i H1 r1 h1 hr1 f1 st=>⟨fun d' e'=>?_,fun hl=>?_⟩⟩)
  ·rw [List.getElem?_map] at e'
   cases e2:l[i]? with
   | none=>rw [e2] at e';cases e'
   | some c=>
    rw [e2] at e'
    cases e'
    refine ⟨by show i<(aX l).length;rw [cX];exact (List.getElem?_eq_some_iff.mp e2).1,fun x H2 y=>?_⟩
    obtain ⟨rfl,c',y1,rfl⟩:=y
    have e3:(aX l).cps[i]?=some c:=by simp [aX,e2]
    rw [e3] at y1;cases y1
    exact ⟨r1,⟨rfl,by show 1≤sizeLine;decide⟩,hr1,.refl⟩
  ·show (aX l).length≤i
   rw [cX];simpa using hl
 | ref k=>
  simp only [RV] at v1
  obtain ⟨a,rfl,z⟩:=v1
  simp only [Ev.gq,Option.map_eq_some_iff] at e
  obtain ⟨ds,e1,rfl⟩:=e
  obtain ⟨a',vs,e2,e3,e4⟩:=hr.read e1
  rw [z] at e2;cases e2
  refine .inl ⟨a,vs,rfl,e3,q _ fun i H1 r1 h1 hr1 f1 st=>?_⟩
  obtain ⟨a',us,e5,e6,e7⟩:=hr1.read (mq st)
  rw [f1.pre _ _ z] at e5;cases e5
  refine ⟨fun d' e'=>?_,fun hl=>⟨us,e6,by rw [e7.length];exact hl⟩⟩
  obtain ⟨u,g1,g2⟩:=e7.get e'
  refine ⟨⟨us,u,e6,g1⟩,fun x H2 y=>?_⟩
  obtain ⟨rfl,y⟩:=y
  have:=y us e6
  rw [g1] at this;cases this
  exact ⟨r1,g2,hr1,.refl⟩
 | _=>cases e
section
variable {G:Tb}{n:Nat}{sc:Scope}{N:List Str}{df:Bool}{m:List Nat}{a b c:E}{xa xb xc tg:Expr}{pos:Pos}
theorem LC (ha:JE G n sc N df m a xa):JI G n sc N df m (.seq a) tg xa:=fun X g=>LB (ha X g) fun s H Rr q=>by
 obtain ⟨r,fr,h,src,h',sr,hr,e,q⟩:=q
 simp only [Ev.cO] at e
 obtain ⟨d,h1,e1,e⟩:=Ev.aj e
 obtain ⟨e,rfl⟩:=Ev.aS e
 refine ⟨r,fr,h,d,_,sr,hr,e1,fun v H1 r1 v1 hr1 f1=>?_⟩
 exact Il hr1 v1 e fun J hJ=>q J H1 r1 hr1 f1 hJ
theorem PI.of {X:Cx}{tg l:Expr}{t t':TI}(h:PI X tg l t) (w:∀ s H Q,t' s H Q→t s H Q):PI X tg l t':=fun pins s σ H Q I q=>h pins s σ H Q I (w _ _ _ q)
theorem LD {K:PySem.W.Frag}{r:List Addr}{H:Hp}(lo:Int) (k:Nat):om K r H (Ev.range lo k,[]) (E6 lo k):=fun i H1 r1 h1 hr1 f1 st=>by
 refine ⟨fun d e=>?_,fun hl=>?_⟩
 ·simp only [Ev.range,List.getElem?_map] at e
  cases e2:(List.range k)[i]? with
  | none=>rw [e2] at e;cases e
  | some j=>
   rw [e2] at e
   cases e
   have hi:i<k:=by simpa using (List.getElem?_eq_some_iff.mp e2).1
   have hj:j=i:=by
    rw [List.getElem?_range hi] at e2
    exact (Option.some.inj e2).symm
   subst hj
   refine ⟨hi,fun x H2 y=>?_⟩
   obtain ⟨rfl,rfl⟩:=y
   exact ⟨r1,rfl,hr1,.refl⟩
 ·have:(Ev.range lo k).length=k:=by simp [Ev.range]
  show k≤i
  have hl':(Ev.range lo k).length≤i:=hl
  omega
theorem Im {e1:E}{p:Pos}(hs:JA G n sc N df m (.cons e1 .nil) [xa]) (hg:sc.names.lookup ("range" : Str)=some .globalImplicit:=by rfl) (hb:("range" : Str)∈G.bl:=by decide +kernel)
  (hst:∀ env:Env,starEach [xa] env=[(false,eval xa env)]:=by intro _;rfl):JI G n sc N df m (.jb (.cons e1 .nil)) tg (.Call (.Name "range" p) [xa] [] pos):=fun X g=>
 PI.of (zY (g.gl hg) (g.bl _ hb) (hs X g) (hst _)) fun s H Rr q=>by
  obtain ⟨r,fr,h,src,h',sr,hr,e,q⟩:=q
  simp only [Ev.cO] at e
  obtain ⟨ds,h1,e1,e⟩:=Ev.aj e
  obtain ⟨e,rfl⟩:=Ev.aS e
  refine ⟨r,fr,h,ds,_,sr,hr,e1,fun vs H1 r1 v1 hr1 f1=>?_⟩
  unfold Ev.fF at e
  split at e
  ·rename_i j
   split at e
   ·rename_i hj
    cases e
    simp only [aO,RV] at v1
    obtain ⟨v,w,rfl,rfl,rfl⟩:=v1
    exact ⟨_,rfl,hj.1,hj.2,q _ H1 r1 hr1 f1 (LD 0 _)⟩
   ·cases e
  ·exfalso
   simp only [Ev.cF] at e1
   obtain ⟨d,_,_,e1⟩:=Ev.aj e1
   simp only [Ev.au] at e1
   cases e1
  ·cases e
inductive gJ (K:PySem.W.Frag) (m:List Nat) (t:T) (v:V) (s:L2.St) (H:Hp) (Q:L2.St→Hp→Prop):Prop
 | mk (r:List Addr) (fr:Fr) (h:Hh) (d:D) (ak:Fr) (c0:SR K m H r fr s) (c1:HR K H r h) (c2:RV K H r d v) (c3:Ev.cy t d fr=some ak) (c4:∀ s',SR K m H r ak s'→Q s' H):gJ K m t v s H Q
noncomputable def JG (G:Tb) (n:Nat) (sc:Scope) (N:List Str) (df:Bool) (m:List Nat) (t:T) (x:Expr):Prop:=∀ X,Good G n sc N df X→PG X x (gJ X.K m t)
theorem PG.of {X:Cx}{e:Expr}{t t':TG}(h:PG X e t) (w:∀ v s H Q,t' v s H Q→t v s H Q):PG X e t':=fun pins s σ H v u Q I r q=>h pins s σ H v u Q I r (w _ _ _ _ q)
theorem SR.set {K:PySem.W.Frag}{m:List Nat}{H:Hp}{r:List Addr}{fr:Fr}{s:L2.St}(sr:SR K m H r fr s) (hm:m.Nodup) {j i:Nat}(hj:m[j]?=some i) {d:D}{v:V}(v1:RV K H r d v):SR K m H r (fr.set i (some d)) (s.set j (some v)):=by
 refine ⟨by simp [sr.len],fun j' i' d' e1 e2=>?_⟩
 by_cases hi:i'=i
 ·subst hi
  have:j'=j:=Ar hm e1 hj
  subst this
  have hlt:i'<fr.length:=by
   have:=(List.getElem?_eq_some_iff.mp e2).1
   simpa using this
  rw [List.getElem?_set_self hlt] at e2
  cases e2
  refine ⟨v,List.getElem?_set_self ?_,v1⟩
  rw [sr.len]
  exact (List.getElem?_eq_some_iff.mp hj).1
 ·rw [List.getElem?_set_ne (fun z=>hi z.symm)] at e2
  obtain ⟨u,q1,q2⟩:=sr.sl j' i' d' e1 e2
  refine ⟨u,?_,q2⟩
  rw [List.getElem?_set_ne]
  ·exact q1
  ·intro z
   subst z
   rw [hj] at e1;cases e1
   exact hi rfl
where
 Ar {l:List Nat} (hl:l.Nodup) {i j:Nat} {x:Nat} (a:l[i]?=some x) (b:l[j]?=some x):i=j:=by
  have ha:=(List.getElem?_eq_some_iff.mp a)
  have hb:=(List.getElem?_eq_some_iff.mp b)
  obtain ⟨h1,e1⟩:=ha
  obtain ⟨h2,e2⟩:=hb
  exact (List.getElem_inj hl).mp (e1.trans e2.symm)
theorem Good.loc {X:Cx}(g:Good G n sc N df X) {x:Str}(h:sc.names.lookup x=some .local∨(df=true∧sc.names.lookup x=some .cell)):Loc X.env.scope x∧(X.fn x=true∨X.env.scope.names.lookup x=some .local):=by
 rw [show Loc X.env.scope x↔Loc sc x by rw [g.sc],g.sc]
 rcases h with h | ⟨h1,h⟩
 ·exact ⟨.inl h,.inr h⟩
 ·exact ⟨.inr h,.inl (g.own h1 x)⟩
theorem LF (j i:Nat) {x:Str}(hm:m.Nodup) (hN:N.Nodup) (hj:m[j]?=some i:=by rfl) (rH:N[j]?=some x:=by rfl)
  (hl:sc.names.lookup x=some .local∨(df=true∧sc.names.lookup x=some .cell):=by first | exact Or.inl rfl | exact Or.inr ⟨rfl,rfl⟩):JG G n sc N df m (.one i) (.Name x pos):=fun X g=>by
 obtain ⟨h1,h2⟩:=g.loc hl
 refine PG.of (wL (i:=j) (by rw [g.nm];exact hN) (by rw [g.nm];exact rH) h1 h2) fun v s H Q q=>?_
 obtain ⟨r,fr,h,d,ak,sr,hr,v1,e,q⟩:=q
 cases e
 exact q _ (sr.set hm hj v1)
inductive UJ (K:PySem.W.Frag) (m:List Nat) (l:List Nat) (vs:List V) (s:L2.St) (H:Hp) (Q:L2.St→Hp→Prop):Prop
 | mk (r:List Addr) (fr:Fr) (h:Hh) (ds:List D) (ak:Fr) (c0:SR K m H r fr s) (c1:HR K H r h) (c2:aO K H r ds vs) (c3:Ev.cR l ds fr=some ak) (c4:∀ s',SR K m H r ak s'→Q s' H):UJ K m l vs s H Q
noncomputable def rJ (G:Tb) (n:Nat) (sc:Scope) (N:List Str) (df:Bool) (m:List Nat) (l:List Nat) (xs:List Expr):Prop:=∀ X,Good G n sc N df X→nG X xs (UJ X.K m l)
theorem nG.of {X:Cx}{e:List Expr}{t t':rm}(h:nG X e t) (w:∀ v s H Q,t' v s H Q→t v s H Q):nG X e t':=fun pins s σ H v u Q I r q=>h pins s σ H v u Q I r (w _ _ _ _ q)
theorem Io:rJ G n sc N df m [] []:=fun X g=>nG.of HL fun vs s H Q q=>by
 obtain ⟨r,fr,h,ds,ak,sr,hr,v1,e,q⟩:=q
 cases ds with
 | nil=>simp only [aO] at v1;subst v1;cases e;exact ⟨rfl,q _ sr⟩
 | cons _ _=>cases e
theorem CJ (j i:Nat) {x:Str}{l:List Nat}{xs:List Expr}(hm:m.Nodup) (hN:N.Nodup) (hs:rJ G n sc N df m l xs) (hj:m[j]?=some i:=by rfl) (rH:N[j]?=some x:=by rfl)
  (hl:sc.names.lookup x=some .local∨(df=true∧sc.names.lookup x=some .cell):=by first | exact Or.inl rfl | exact Or.inr ⟨rfl,rfl⟩)
  (hst:∀ env:Env,(assignEach (.Name x pos :: xs) env).map (·.2)=assign (.Name x pos) env :: (assignEach xs env).map (·.2):=by intro _;rfl):rJ G n sc N df m (i :: l) (.Name x pos :: xs):=fun X g=>by
 obtain ⟨h1,h2⟩:=g.loc hl
 refine nG.of (Cq (wL (i:=j) (by rw [g.nm];exact hN) (by rw [g.nm];exact rH) h1 h2) (hs X g) (hst _)) fun vs s H Q q=>?_
 obtain ⟨r,fr,h,ds,ak,sr,hr,v1,e,q⟩:=q
 cases ds with
 | nil=>cases e
 | cons d ds=>
  simp only [aO] at v1
  obtain ⟨v,w,rfl,v2,v3⟩:=v1
  exact ⟨v,w,rfl,r,_,h,ds,ak,sr.set hm hj v2,hr,v3,e,q⟩
theorem Ip {l:List Nat}{xs:List Expr}{k:Nat}(hs:rJ G n sc N df m l xs) (hn:∀ env:Env,(assignEach xs env).length=l.length:=by intro _;rfl) (hst:∀ env:Env,(assignEach xs env).findIdx? (·.1)=none:=by intro _;rfl) :
  JG G n sc N df m (.many l) (.Tuple xs k pos):=fun X g=>PG.of (KA (n:=l.length) g.calm (hs X g) (hn _) (hst _)) fun v s H Q q=>by
 obtain ⟨r,fr,h,d,ak,sr,hr,v1,e,q⟩:=q
 cases d with
 | tup ds=>
  simp only [RV] at v1
  obtain ⟨p,vs,rfl,z,w⟩:=v1
  have hlen:∀ (l:List Nat) (ds:List D) fr ak,Ev.cR l ds fr=some ak→ds.length=l.length:=by
   intro l
   induction l with
   | nil=>intro ds fr ak e;cases ds with | nil=>rfl | cons _ _=>cases e
   | cons i l ih=>intro ds fr ak e;cases ds with | nil=>cases e | cons d ds=>simp [ih ds _ _ e]
  exact ⟨p,vs,rfl,z,by rw [w.length];exact hlen _ _ _ _ e,r,fr,h,ds,ak,sr,hr,w,e,q⟩
 | _=>cases e
end
end Sm
set_option maxRecDepth 100000
namespace Sm
open PySem PySem.Spec PyProof.Rows L2
open Ev (D O Hh Fr R aW E Es Eo T S Ss Fl Src cz b7 TY BI ME)
noncomputable def Fin (K:PySem.W.Frag) (m:List Nat) (r:List Addr) (H:Hp) (h':Hh) (fl:Fl) (ak:Fr) (Q:Ends):Prop:=match fl with
 | .nx=>∀ s' H' r',SR K m H' r' ak s'→HR K H' r' h'→Fm K r r' H H'→Q.nx s' H'
 | .bk=>∀ s' H' r',SR K m H' r' ak s'→HR K H' r' h'→Fm K r r' H H'→Q.bk s' H'
 | .ct=>∀ s' H' r',SR K m H' r' ak s'→HR K H' r' h'→Fm K r r' H H'→Q.ct s' H'
 | .ret d=>Res K r H h' d Q.rt
theorem Fin.later {K:PySem.W.Frag}{m:List Nat}{r r':List Addr}{H H':Hp}{h':Hh}{fl:Fl}{ak:Fr}{Q:Ends}(q:Fin K m r H h' fl ak Q) (f:Fm K r r' H H'):Fin K m r' H' h' fl ak Q:=by
 cases fl with
 | nx=>exact fun s2 H2 r2 a b g=>q s2 H2 r2 a b (f.trans g)
 | bk=>exact fun s2 H2 r2 a b g=>q s2 H2 r2 a b (f.trans g)
 | ct=>exact fun s2 H2 r2 a b g=>q s2 H2 r2 a b (f.trans g)
 | ret d=>exact Res.later q f
inductive UK (K:PySem.W.Frag) (m:List Nat) (P:aW) (w:Nat) (st:S) (Q:Ends) (s:L2.St) (H:Hp):Prop
 | mk (r:List Addr) (fr:Fr) (h:Hh) (fl:Fl) (ak:Fr) (h':Hh) (c0:SR K m H r fr s) (c1:HR K H r h) (c2:Ev.ex P w st fr h=.ok (fl,ak) h') (c3:Fin K m r H h' fl ak Q):UK K m P w st Q s H
inductive CK (K:PySem.W.Frag) (m:List Nat) (P:aW) (w:Nat) (ss:Ss) (Q:Ends) (s:L2.St) (H:Hp):Prop
 | mk (r:List Addr) (fr:Fr) (h:Hh) (fl:Fl) (ak:Fr) (h':Hh) (c0:SR K m H r fr s) (c1:HR K H r h) (c2:Ev.exs P w ss fr h=.ok (fl,ak) h') (c3:Fin K m r H h' fl ak Q):CK K m P w ss Q s H
theorem PS.of {X:Cx}{st:Stmt}{t t':TS}(h:PS X st t) (w:∀ Q s H,t' Q s H→t Q s H):PS X st t':=fun pins s σ H Q I q=>h pins s σ H Q I (w _ _ _ q)
theorem iK.of {X:Cx}{st:List Stmt}{t t':TS}(h:iK X st t) (w:∀ Q s H,t' Q s H→t Q s H):iK X st t':=fun pins s σ H Q I q=>h pins s σ H Q I (w _ _ _ q)
section
variable (G:Tb)(n:Nat)(sc:Scope)(N:List Str)(df:Bool)(m:List Nat)
noncomputable def JS (st:S) (x:Stmt):Prop:=∀ X,Good G n sc N df X→PS X x (UK X.K m (Ev.run G.F G.w n) G.w st)
noncomputable def lO (ss:Ss) (xs:List Stmt):Prop:=∀ X,Good G n sc N df X→iK X xs (CK X.K m (Ev.run G.F G.w n) G.w ss)
end
section
variable {G:Tb}{n:Nat}{sc:Scope}{N:List Str}{df:Bool}{m:List Nat}{a b c:E}{xa xb xc tg:Expr}{pos:Pos}
theorem Iq:lO G n sc N df m .nil []:=fun X g=>iK.of HJ fun Q s H q=>by
 obtain ⟨r,fr,h,fl,ak,h',sr,hr,e,q⟩:=q
 simp only [Ev.exs] at e
 cases e
 exact q s H r sr hr .refl
theorem CL {st:S}{ss:Ss}{x:Stmt}{xs:List Stmt}(h1:JS G n sc N df m st x) (h2:lO G n sc N df m ss xs):lO G n sc N df m (.cons st ss) (x :: xs):=fun X g=>iK.of (Co (h1 X g) (h2 X g)) fun Q s H q=>by
 obtain ⟨r,fr,h,fl,ak,h',sr,hr,e,q⟩:=q
 simp only [Ev.exs] at e
 obtain ⟨⟨gU,ah⟩,h1,e1,e⟩:=Ev.aj e
 refine ⟨r,fr,h,gU,ah,h1,sr,hr,e1,?_⟩
 cases gU with
 | nx=>exact fun s1 H1 r1 As hr1 f1=>⟨r1,ah,h1,fl,ak,h',As,hr1,e,q.later f1⟩
 | bk=>cases e;exact q
 | ct=>cases e;exact q
 | ret d=>cases e;exact q
theorem LG (j i:Nat) {x:Str}{pos':Pos}(hm:m.Nodup) (hN:N.Nodup) (ha:JE G n sc N df m a xa) (hs:∀ env:Env,swapsWith xa (some (.Name x pos')) pos.line env=pure false:=by intro _;rfl) (hj:m[j]?=some i:=by rfl) (rH:N[j]?=some x:=by rfl)
  (hl:sc.names.lookup x=some .local∨(df=true∧sc.names.lookup x=some .cell):=by first | exact Or.inl rfl | exact Or.inr ⟨rfl,rfl⟩):JS G n sc N df m (.set i a) (.Assign [.Name x pos'] xa pos):=fun X g=>by
 obtain ⟨h1,h2⟩:=g.loc hl
 refine PS.of (zW (i:=j) (by rw [g.nm];exact hN) (by rw [g.nm];exact rH) h1 (ha X g) (hs _) h2) fun Q s H q=>?_
 obtain ⟨r,fr,h,fl,ak,h',sr,hr,e,q⟩:=q
 simp only [Ev.ex] at e
 obtain ⟨d,h1,e1,e⟩:=Ev.aj e
 cases e
 exact ⟨r,fr,h,d,_,sr,hr,e1,fun v H1 r1 v1 hr1 f1=>q _ H1 r1 ((sr.mono f1).set hm hj v1) hr1 f1⟩
theorem Ir {l:List Nat}(ha:JE G n sc N df m a xa) (hg:JG G n sc N df m (.many l) tg) (hs:∀ env:Env,swapsWithSole [tg] xa pos.line env=pure false:=by intro _;rfl) (hw:∀ env:Env,swappedStores [tg] xa env=pure none:=by intro _;rfl)
  (h1:∀ env:Env,(assignEach [tg] env).map (·.2)=[assign tg env]:=by intro _;rfl):JS G n sc N df m (.kT l a) (.Assign [tg] xa pos):=fun X g=>PS.of (KD (ha X g) (hg X g) (hs _) (hw _) (h1 _)) fun Q s H q=>by
 obtain ⟨r,fr,h,fl,ak,h',sr,hr,e,q⟩:=q
 simp only [Ev.ex] at e
 obtain ⟨d,h2,e1,e⟩:=Ev.aj e
 split at e
 ·rename_i av e2
  cases e
  exact ⟨r,fr,h,d,_,sr,hr,e1,fun v H1 r1 v1 hr1 f1=>⟨r1,fr,_,d,_,sr.mono f1,hr1,v1,e2,fun s' ZP=>q s' H1 r1 ZP hr1 f1⟩⟩
 ·cases e
theorem LH (ha:JE G n sc N df m a xa) (hs:∀ env:Env,swapsWith xa none pos.line env=pure false:=by intro _;rfl):JS G n sc N df m (.exp a) (.Expr xa pos):=fun X g=>PS.of (HK (ha X g) (hs _)) fun Q s H q=>by
 obtain ⟨r,fr,h,fl,ak,h',sr,hr,e,q⟩:=q
 simp only [Ev.ex] at e
 obtain ⟨d,h1,e1,e⟩:=Ev.aj e
 cases e
 exact ⟨r,fr,h,d,_,sr,hr,e1,fun v H1 r1 v1 hr1 f1=>q s H1 r1 (sr.mono f1) hr1 f1⟩
theorem LI (ha:JE G n sc N df m a xa):JS G n sc N df m (.ret a) (.Return (some xa) pos):=fun X g=>PS.of (Ky (ha X g)) fun Q s H q=>by
 obtain ⟨r,fr,h,fl,ak,h',sr,hr,e,q⟩:=q
 simp only [Ev.ex] at e
 obtain ⟨d,h1,e1,e⟩:=Ev.aj e
 cases e
 exact ⟨r,fr,h,d,_,sr,hr,e1,q⟩
theorem LJ:JS G n sc N df m .cnt (.Continue pos):=fun X g=>PS.of vP fun Q s H q=>by
 obtain ⟨r,fr,h,fl,ak,h',sr,hr,e,q⟩:=q
 simp only [Ev.ex] at e
 cases e
 exact q s H r sr hr .refl
theorem LK {ta tb:Ss}{ya yb:List Stmt}(hc:JT G n sc N df m a xa) (h1:lO G n sc N df m ta ya) (h2:lO G n sc N df m tb yb):JS G n sc N df m (.iff a ta tb) (.If xa ya yb pos):=fun X g=>PS.of (Rq (hc X g) (h1 X g) (h2 X g)) fun Q s H q=>by
 obtain ⟨r,fr,h,fl,ak,h',sr,hr,e,q⟩:=q
 simp only [Ev.ex] at e
 obtain ⟨k,h3,e1,e⟩:=Ev.aj e
 refine ⟨r,fr,h,k,h3,sr,hr,e1,fun H1 r1 hr1 f1=>?_⟩
 cases k with
 | true=>exact ⟨r1,fr,h3,fl,ak,h',sr.mono f1,hr1,e,q.later f1⟩
 | false=>exact ⟨r1,fr,h3,fl,ak,h',sr.mono f1,hr1,e,q.later f1⟩
theorem Good.pass {X:Cx}(g:Good G n sc N df X):PassesOwn (model X.prog X.w) X.A X.env X.xe:=by
 rw [g.xe];exact PassesOwn.never
noncomputable def FN (K:PySem.W.Frag) (m:List Nat) (gU:Fl) (jm:Fr) (h4:Hh) (r1:List Addr) (H1:Hp) (s5:L2.St) (H5:Hp):Prop:=(gU=.nx∨gU=.ct)∧∃ r5,SR K m H5 r5 jm s5∧HR K H5 r5 h4∧Fm K r1 r5 H1 H5
section
variable {K:PySem.W.Frag}{r r1 r2:List Addr}{H H1 H2:Hp}{h4 h':Hh}{fl gU:Fl}{jm ak:Fr}{Q:Ends}
noncomputable def yH (L:R (Fl×Fr)) (p:Fl×Fr) (h1:Hh):R (Fl×Fr):=match p.1 with
 | .nx=>L
 | .ct=>L
 | .bk=>.ok (.nx,p.2) h1
 | .ret x=>.ok (.ret x,p.2) h1
theorem wX {L:R (Fl×Fr)}(e:yH L (gU,jm) h4=.ok (fl,ak) h') (z:gU=.nx∨gU=.ct):L=.ok (fl,ak) h':=by rcases z with rfl | rfl <;> exact e
theorem tR {L:R (Fl×Fr)}(e:yH L (gU,jm) h4=.ok (fl,ak) h') (q:Fin K m r H h' fl ak Q) (f:Fm K r r1 H H1) (f2:Fm K r1 r2 H1 H2):Fin K m r2 H2 h4 gU jm { Q with nx:=FN K m gU jm h4 r1 H1,ct:=FN K m gU jm h4 r1 H1,bk:=Q.nx }:=by
 cases gU with
 | nx=>exact fun s6 H6 r6 Au Av f6=>⟨.inl rfl,r6,Au,Av,f2.trans f6⟩
 | ct=>exact fun s6 H6 r6 Au Av f6=>⟨.inr rfl,r6,Au,Av,f2.trans f6⟩
 | bk=>
  cases e
  exact fun s6 H6 r6 Au Av f6=>q s6 H6 r6 Au Av ((f.trans f2).trans f6)
 | ret d=>
  cases e
  exact Res.later q (f.trans f2)
noncomputable def tS (P:aW) (w:Nat) (t:T) (tb:Ss):D→Fr→Hh→R (Fl×Fr):=fun d av h2=>match Ev.cy t d av with
 | some cL=>Ev.exs P w tb cL h2
 | none=>.bad
theorem tT (P:aW) (w:Nat) (t:T) (it:Ev.It) (tb:Ss) (fr:Fr) (h:Hh):Ev.ex P w (.for t it tb) fr h=(Ev.cO P it fr h).bind fun s h1=>Ev.forL (tS P w t tb) s.2 s.1 fr h1:=by simp only [Ev.ex];rfl
theorem rK (f:D→Fr→Hh→R (Fl×Fr)) (ck:List (Nat×List D)) (d:D) (ds:List D) (fr:Fr) (h:Hh):Ev.forL f ck (d :: ds) fr h=if Ev.stays h ck then (f d fr h).bind fun p h1=>yH (Ev.forL f ck ds p.2 h1) p h1 else .bad:=rfl
noncomputable def FW (K:PySem.W.Frag) (m:List Nat) (f:D→Fr→Hh→R (Fl×Fr)) (src:Src) (r1:List Addr) (H1:Hp) (o:Fl×Fr) (h':Hh) (i k:Nat) (s3:L2.St) (H3:Hp):Prop:=
 k=src.1.length - i∧i≤src.1.length∧∃ r3 cL h3,SR K m H3 r3 cL s3∧HR K H3 r3 h3∧Fm K r1 r3 H1 H3∧Ev.forL f src.2 (src.1.drop i) cL h3=.ok o h'
theorem CM {P:aW}{w:Nat}{t:T}{tb:Ss}{src:Src}{J:L2.It}{i k:Nat}{s3:L2.St}{H3:Hp}(hJ:om K r1 H1 src J) (q:Fin K m r H h' fl ak Q) (f1:Fm K r r1 H H1) (hW:FW K m (tS P w t tb) src r1 H1 (fl,ak) h' i k s3 H3) :
  (J.stop i H3∧Q.nx s3 H3)∨(J.go i H3∧∃ N:L2.St→Hp→Prop,(∀ σ' H',N σ' H'→∃ m',m'<k∧FW K m (tS P w t tb) src r1 H1 (fl,ak) h' (i+1) m' σ' H')∧∀ x H',J.E5 i H3 x H'→gJ K m t x s3 H' fun σ2 H2=>CK K m P w tb { Q with nx:=N,ct:=N,bk:=Q.nx } σ2 H2):=by
 obtain ⟨rfl,hle,r3,cL,h3,wY,oZ,f3,e3⟩:=hW
 rcases Nat.lt_or_ge i src.1.length with hlt | hge
 ·rw [List.drop_eq_getElem_cons hlt,rK] at e3
  split at e3
  ·rename_i hst
   obtain ⟨g1,g2⟩:=(hJ i H3 r3 h3 oZ f3 hst).1 src.1[i] (List.getElem?_eq_getElem hlt)
   obtain ⟨⟨gU,jm⟩,h4,e4,e3⟩:=Ev.aj e3
   unfold tS at e4
   split at e4
   ·rename_i rq e5
    exact .inr ⟨g1,FN K m gU jm h4 r1 H1,fun s5 H5 ⟨hfl,r5,Aw,rL,f5⟩=>⟨_,Nat.sub_lt_sub_left hlt (Nat.lt_succ_self i),rfl,hlt,r5,jm,h4,Aw,rL,f5,wX e3 hfl⟩,fun x H4 y=>
     let ⟨r4,v4,UL,f4⟩:=g2 x H4 y
     ⟨r4,cL,h3,_,rq,wY.mono f4,UL,v4,e5,fun s5 Aw=>⟨r4,rq,h3,gU,jm,h4,Aw,UL,e4,tR e3 q f1 (f3.trans f4)⟩⟩⟩
   ·cases e4
  ·cases e3
 ·have hi:i=src.1.length:=Nat.le_antisymm hle hge
  subst hi
  rw [List.drop_length] at e3
  unfold Ev.forL at e3
  split at e3
  ·rename_i hst
   cases e3
   exact .inl ⟨(hJ _ H3 r3 _ oZ f3 hst).2 (Nat.le_refl _),q s3 H3 r3 wY oZ (f1.trans f3)⟩
  ·cases e3
end
theorem Ax (t:Fr→Hh→R Bool) (f:Fr→Hh→R (Fl×Fr)) (n:Nat) (fr:Fr) (h:Hh):Ev.ef t f (n+1) fr h=(t fr h).bind fun b h1=>if b then (f fr h1).bind fun p h2=>yH (Ev.ef t f n p.2 h2) p h2 else .ok (.nx,fr) h1:=rfl
noncomputable def WW (K:PySem.W.Frag) (m:List Nat) (P:aW) (w:Nat) (a:E) (tb:Ss) (r:List Addr) (H:Hp) (o:Fl×Fr) (h':Hh) (k:Nat) (s1:L2.St) (H1:Hp):Prop:=
 ∃ r1 ah h1,SR K m H1 r1 ah s1∧HR K H1 r1 h1∧Fm K r r1 H H1∧Ev.ef (fun av h2=>Ev.aN P a av h2) (fun av h2=>Ev.exs P w tb av h2) k ah h1=.ok o h'
theorem LL {tb:Ss}{yb:List Stmt}(hc:JT G n sc N df m a xa) (h1:lO G n sc N df m tb yb):JS G n sc N df m (.lZ a tb) (.While xa yb [] pos):=fun X g=>PS.of (Cr g.pass (hc X g) (h1 X g)) fun Q s H q=>by
 obtain ⟨r,fr,h,fl,ak,h',sr,hr,e,q⟩:=q
 simp only [Ev.ex] at e
 refine ⟨WW X.K m (Ev.run G.F G.w n) G.w a tb r H (fl,ak) h',⟨_,r,fr,h,sr,hr,.refl,e⟩,fun k s1 H1 hW=>?_⟩
 obtain ⟨r1,ah,h1,As,hr1,f1,e1⟩:=hW
 cases k with
 | zero=>cases e1
 | succ k=>
  rw [Ax] at e1
  obtain ⟨bb,h2,e2,e1⟩:=Ev.aj e1
  refine ⟨r1,ah,h1,bb,h2,As,hr1,e2,fun H2 r2 hr2 f2=>?_⟩
  cases bb with
  | false=>
   cases e1
   exact q s1 H2 r2 (As.mono f2) hr2 (f1.trans f2)
  | true=>
   rw [if_pos rfl] at e1
   obtain ⟨⟨gU,av⟩,h3,e3,e1⟩:=Ev.aj e1
   exact ⟨FN X.K m gU av h3 r H,fun s3 H3 ⟨hfl,r3,wY,oZ,f3⟩=>⟨k,Nat.lt_succ_self k,r3,av,h3,wY,oZ,f3,wX e1 hfl⟩,r2,ah,h2,gU,av,h3,As.mono f2,hr2,e3,tR e1 q .refl (f1.trans f2)⟩
theorem LM {t:T}{it:Ev.It}{tb:Ss}{yb:List Stmt}(hi:JI G n sc N df m it tg xa) (hg:JG G n sc N df m t tg) (h1:lO G n sc N df m tb yb) (hs:∀ (env:Env) x,foldedSetIterable xa env x=pure x:=by intro _ _;rfl) :
  JS G n sc N df m (.for t it tb) (.For tg xa yb [] pos):=fun X g=>PS.of (KH g.pass g.calm (hi X g) (hg X g) (h1 X g) (hs _)) fun Q s H q=>by
 obtain ⟨r,fr,h,fl,ak,h',sr,hr,e,q⟩:=q
 rw [tT] at e
 obtain ⟨src,h2,e1,e⟩:=Ev.aj e
 exact ⟨r,fr,h,src,h2,sr,hr,e1,fun J H1 r1 hr1 f1 hJ=>⟨FW X.K m (tS (Ev.run G.F G.w n) G.w t tb) src r1 H1 (fl,ak) h',⟨src.1.length,rfl,Nat.zero_le _,r1,fr,h2,sr.mono f1,hr1,.refl,by rw [List.drop_zero];exact e⟩,fun i k s3 H3 hW=>CM hJ q f1 hW⟩⟩
end
theorem getElem?_range' {k j i:Nat}(h:(List.range k)[j]?=some i):i=j:=by
 obtain ⟨h1,h2⟩:=List.getElem?_eq_some_iff.mp h
 simpa using h2.symm
theorem CN {K:PySem.W.Frag}{H:Hp}{r:List Addr}{ds:List D}{vs:List V}{N:List Str}{fn:Ev.Fn}(v1:aO K H r ds vs) (hN:vs.length≤N.length):SR K (List.range N.length) H r (Ev.fy fn ds) (L2.start N vs):=by
 refine ⟨by unfold L2.start;simp;omega,fun j i d e1 e2=>?_⟩
 have e3:=getElem?_range' e1
 subst e3
 unfold Ev.fy at e2
 by_cases hj:i<ds.length
 ·rw [List.getElem?_append_left (by simpa using hj),List.getElem?_map] at e2
  cases e4:ds[i]? with
  | none=>rw [e4] at e2;cases e2
  | some d'=>
   rw [e4] at e2
   cases e2
   obtain ⟨v,q1,q2⟩:=v1.get e4
   refine ⟨v,?_,q2⟩
   unfold L2.start
   rw [List.getElem?_append_left (by have:=v1.length;simpa using (by omega:i<vs.length)),List.getElem?_map,q1]
   rfl
 ·rw [List.getElem?_append_right (by simpa using Nat.not_lt.mp hj),List.getElem?_replicate] at e2
  split at e2 <;> cases e2
section
variable {P:Program}{w:World}{K:PySem.W.Frag}{mg:Str→Option Value}{base:Heap}{G:Tb}
noncomputable def sF (P:Program) (w:World) (K:PySem.W.Frag) (mg:Str→Option Value) (base:Heap) (G:Tb) (n:Nat):Prop:=∀ (f:Nat) i,G.fi[f]?=some i→iO P w K mg base lY n i.addr i.fd i.ps (nJ K G.F G.w n f)
structure Top (P:Program) (w:World) (K:PySem.W.Frag) (mg:Str→Option Value) (G:Tb):Prop where
 fn:∀ (f:Nat) i,G.fi[f]?=some i→mg i.name=some (.ref i.addr)∧PySem.W.keepIn K (.ref i.addr)=true∧Binds K i.fd i.ps []
 bl:∀ x∈G.bl,mg x=none
 cs:∀ x d,(x,d)∈G.cs→∃ v u,mg x=some u∧RelV v u∧tP d v
 dk:∀ x kvs,(x,kvs)∈G.dk→∃ a,mg x=some (.ref a)∧∀ h:Heap,K.In h→StrTab P w h a (tabOf kvs)
theorem Iu {f:Addr}{fd:FuncData}{ps:List Str}{k:Nat}:iO P w K mg base lY 0 f fd ps (nJ K G.F G.w 0 k):=by
 have no:∀ vs H Q E,¬ nJ K G.F G.w 0 k vs H Q E:=fun vs H Q E h=>by
  obtain ⟨r,h,ds,d,h',_,_,e,_⟩:=h
  cases e
 exact ⟨fun vs H Q E h=>absurd h (no vs H Q E),fun A outer s H args us vs Q E _ _ _ _ h=>absurd h (no vs H Q E)⟩
theorem cI {x qual:Str}{st:Stmt}{i:FI}{N:List Str}{n f:Nat}{fn:Ev.Fn}(T:Top P w K mg G) (A0:sF P w K mg base G n) (F:tN K x qual st i.addr i.fd) (S:bu N i.ps (aq st)) (hf:G.F[f]?=some fn) (hp:i.ps.length=fn.np)
  (hb:lO G n (aq st) N true (List.range N.length) fn.body (aF st)):iO P w K mg base lY (n+1) i.addr i.fd i.ps (nJ K G.F G.w (n+1) f):=by
 have hlen:∀ vs H Q E,nJ K G.F G.w (n+1) f vs H Q E→vs.length=i.ps.length:=fun vs H Q E h=>by
  obtain ⟨r,h,ds,d,h',v1,_,e,_⟩:=h
  simp only [Ev.run,hf] at e
  split at e
  ·rename_i z
   rw [v1.length,z,hp]
  ·cases e
 refine F.ok S hlen fun cdv A outer s H vs Q E hr kq=>?_
 have hl:=hlen vs H Q E kq
 have hN:vs.length≤N.length:=by
  have:=congrArg List.length S.pre
  rw [List.length_take] at this
  omega
 have g:Good G n (aq st) N true (nY lY P w K mg base N qual (aq st) i.addr cdv A outer s H E).rj:=
  ⟨rfl,rfl,rfl,fun _ _=>rfl,hr,rfl,fun f i hi=>⟨(T.fn f i hi).1,(T.fn f i hi).2.1,(T.fn f i hi).2.2,A0 f i hi⟩,T.bl,T.cs,T.dk⟩
 refine ⟨_,hb _ g,?_⟩
 obtain ⟨r,h,ds,d,h',v1,hr1,e,q⟩:=kq
 simp only [Ev.run,hf] at e
 split at e
 ·unfold Ev.endOf at e
  obtain ⟨⟨fl,ak⟩,h2,e1,e⟩:=Ev.aj e
  refine ⟨r,Ev.fy fn ds,h,fl,ak,h2,CN v1 hN,hr1,e1,?_⟩
  cases fl with
  | nx=>
   cases e
   exact fun s' H' r' _ hr' f'=>q _ H' r' rfl hr' f'
  | ret d'=>
   cases e
   exact q
  | bk=>cases e
  | ct=>cases e
 ·cases e
end
end Sm
set_option maxRecDepth 100000
namespace Sm
open PySem PySem.Spec PyProof.Rows L2
open Ev (D O Hh Fr R aW E Es Eo T S Ss Fl Src cz b7 TY BI ME)
theorem qq (env:Env):∀ (names:List (Str×NameKind)) (acc:List (Str×Addr)),(∀ x,(x,NameKind.free)∈names→∃ c,env.cells.lookup x=some c)→(∀ x c,acc.lookup x=some c→env.cells.lookup x=some c)→
  ∃ cl,(forIn names acc (fun (x:Str×NameKind) cs=>if (x.2==NameKind.free)=true then (do let c ←cellOf env x.1;pure (ForInStep.yield ((x.1,c) :: cs))) else pure (ForInStep.yield cs)):Sem (List (Str×Addr)))=pure cl∧
   (∀ x c,cl.lookup x=some c→env.cells.lookup x=some c)∧(∀ x,(x,NameKind.free)∈names→(cl.lookup x).isSome=true)∧(∀ x,(acc.lookup x).isSome=true→(cl.lookup x).isSome=true)
 | [],acc,_,h2=>⟨acc,rfl,h2,(fun x h=>by simp at h),fun _ h=>h⟩
 | (y,k) :: r,acc,h1,h2=>by
  by_cases hk:k=.free
  ·subst hk
   obtain ⟨c,hc⟩:=h1 y (List.mem_cons_self ..)
   have h2':∀ x c',((y,c) :: acc).lookup x=some c'→env.cells.lookup x=some c':=fun x c' e=>by
    rw [List.lookup_cons] at e
    split at e
    ·rename_i hx
     have hx':x=y:=by simpa using hx
     cases e;rw [hx'];exact hc
    ·exact h2 x c' e
   obtain ⟨cl,e1,e2,e3,e4⟩:=qq env r ((y,c) :: acc) (fun x hx=>h1 x (List.mem_cons_of_mem _ hx)) h2'
   refine ⟨cl,?_,e2,fun x hx=>?_,fun x hx=>e4 x ?_⟩
   ·rw [List.forIn_cons]
    simp only [beq_self_eq_true,if_true]
    unfold cellOf
    rw [hc]
    exact e1
   ·rcases List.mem_cons.mp hx with z | z
    ·cases z
     exact e4 y (by simp [List.lookup_cons])
    ·exact e3 x z
   ·rw [List.lookup_cons]
    split
    ·rfl
    ·exact hx
  ·have hk':(k==NameKind.free)=false:=by simpa using hk
   obtain ⟨cl,e1,e2,e3,e4⟩:=qq env r acc (fun x hx=>h1 x (List.mem_cons_of_mem _ hx)) h2
   refine ⟨cl,?_,e2,fun x hx=>?_,e4⟩
   ·rw [List.forIn_cons]
    simp only [hk',Bool.false_eq_true,if_false]
    exact e1
   ·rcases List.mem_cons.mp hx with z | z
    ·cases z;exact absurd rfl hk
    ·exact e3 x z
theorem Iv {scope:Scope}{env:Env}(h:∀ x,(x,NameKind.free)∈scope.names→∃ c,env.cells.lookup x=some c) :
  ∃ cl,closureFor scope env=pure cl∧(∀ x c,cl.lookup x=some c→env.cells.lookup x=some c)∧∀ x,(x,NameKind.free)∈scope.names→∃ c,cl.lookup x=some c:=by
 obtain ⟨cl,e1,e2,e3,_⟩:=qq env scope.names [] h (fun x c e=>by simp at e)
 refine ⟨cl,?_,e2,fun x hx=>Option.isSome_iff_exists.mp (e3 x hx)⟩
 unfold closureFor
 show (forIn scope.names [] _ >>= fun cs=>pure cs:Sem (List (Str×Addr)))=pure cl
 have e:(forIn scope.names [] (fun (x:Str×NameKind) cs=>if (x.2==NameKind.free)=true then (do let c ←cellOf env x.1;pure (ForInStep.yield ((x.1,c) :: cs))) else pure (ForInStep.yield cs)):Sem (List (Str×Addr)))=pure cl:=e1
 exact congrArg (fun t:Sem (List (Str×Addr))=>t >>= fun cs=>pure cs) e
noncomputable def eX (sc scope:Scope):Scope:={ scope with names:=scope.names.map fun (n,k)=>if (k==.free&&sc.kind==.function&&sc.names.lookup n==some .cell) then (n,.cell) else (n,k)}
theorem qs {env:Env}{sc scope:Scope}(h:env.scope=sc):relabel scope env=eX sc scope:=by
 subst h;rfl
theorem rM {sc:Scope}:∀ {names:List (Str×NameKind)}{x:Str},(∀ y∈names,y.2≠.cell)→
  ((names.map fun (n,k)=>if (k==NameKind.free&&sc.kind==.function&&sc.names.lookup n==some .cell) then (n,NameKind.cell) else (n,k)).lookup x=some .cell∨
   (names.map fun (n,k)=>if (k==NameKind.free&&sc.kind==.function&&sc.names.lookup n==some .cell) then (n,NameKind.cell) else (n,k)).lookup x=some .free)→(x,NameKind.free)∈names
 | [],_,_,h=>by rcases h with h | h <;> simp at h
 | (n,k) :: r,x,hc,h=>by
  have ih:=@rM sc r x fun y hy=>hc y (List.mem_cons_of_mem _ hy)
  simp only [List.map_cons] at h
  have nk:∀ (k':NameKind),(if (k==NameKind.free&&sc.kind==.function&&sc.names.lookup n==some .cell) then (n,NameKind.cell) else (n,k))=(n,k')→k'=.cell∨k'=.free→k=.free:=fun k' e hk'=>by
   split at e
   ·rename_i z
    simp only [Bool.and_eq_true,beq_iff_eq] at z
    exact z.1.1
   ·cases e
    rcases hk' with z | z
    ·exact absurd z (hc (n,_) (List.mem_cons_self ..))
    ·exact z
  generalize hg:(if (k==NameKind.free&&sc.kind==.function&&sc.names.lookup n==some .cell) then (n,NameKind.cell) else (n,k))=p at h nk
  have hp:p.1=n:=by rw [←hg];split <;> rfl
  obtain ⟨p1,p2⟩:=p
  simp only at hp
  subst hp
  simp only [List.lookup_cons] at h
  cases hx:(x==p1) with
  | true=>
   have hx':x=p1:=by simpa using hx
   rw [hx] at h
   have:=nk p2 rfl (by rcases h with h | h <;> simp at h <;> simp [h])
   subst this
   rw [hx']
   exact List.mem_cons_self ..
  | false=>
   rw [hx] at h
   exact List.mem_cons_of_mem _ (ih h)
section
variable {prog:Program}{w:World}{A:Around}{R':Result→Shared→Prop}{s:Shared}
abbrev fP:Value→Shared→Prop:=fun _ _=>False
noncomputable def wZ (ifs:List Expr) (env:Env):Sem Bool:=forIn ifs true fun c r=>if r=true then do let ok ←isTrue c env (eval c env);pure (ForInStep.yield ok) else pure (ForInStep.yield r)
theorem tU {elt target iter:Expr}{ifs:List Expr}{scope:Scope}{pos:Pos}{it acc:Value}{env:Env}(I:Nat→Shared→Prop)
  (turn:∀ n s,I n s→wpAny (model prog w) A (pyNext it) (fun r s₁=>match r with
   | none=>R' (.ok .next) s₁
   | some v=>wpAny (model prog w) A (letOwnedTupleGo target it v) (fun _ s₂=>wpAny (model prog w) A (assign target env v) (fun _ s₃=>
     wpAny (model prog w) A (wZ ifs env) (fun ok s₄=>
      if ok=true then wpAny (model prog w) A (eval elt env) (fun x s₅=>
       wpAny (model prog w) A (call (.builtin "list.append") [acc,x]) (fun _ s₆=>∃ m,m<n∧I m s₆) fP s₅) fP s₄
      else ∃ m,m<n∧I m s₄) fP s₃) fP s₂) fP s₁) fP s)
  (n:Nat) (h:I n s):codeAny (model prog w) A (.compLoop (.ListComp elt [⟨target,iter,ifs,0⟩] scope pos) 0 it acc env) R' s:=by
 refine codeAny_loop rfl I (fun n s hI=>?_) n h
 show wpAny _ A ((compTurn (.ListComp elt [⟨target,iter,ifs,0⟩] scope pos) 0 it acc env).onRaise (fun x=>do noteFrame x env;theTreesLotGoes x)) _ _ s
 refine wpAny_noted ?_
 rw [compTurn_list]
 refine wpAny_bind (wpAny_standAt (wpAny_bind (wpAny_mono (turn n s hI) (fun r s₁ h₁=>?_) fun _ _ h'=>h'.elim)))
 cases r with
 | none=>exact wpAny_pure h₁
 | some v=>
  refine wpAny_bind (wpAny_mono h₁ (fun _ s₂ h₂=>?_) fun _ _ h'=>h'.elim)
  refine wpAny_bind (wpAny_mono h₂ (fun _ s₃ h₃=>wpAny_bind (wpAny_mono h₃ (fun ok s₄ h₄=>?_) fun _ _ h'=>h'.elim)) fun _ _ h'=>h'.elim)
  cases ok with
  | false=>exact wpAny_pure ⟨rfl,h₄⟩
  | true=>
   exact wpAny_bind (wpAny_bind (wpAny_mono h₄ (fun x s₅ h₅=>wpAny_bind (wpAny_mono h₅ (fun _ s₆ h₆=>wpAny_pure (wpAny_pure ⟨rfl,h₆⟩)) fun _ _ h'=>h'.elim)) fun _ _ h'=>h'.elim))
end
inductive UM (K:PySem.W.Frag) (m:List Nat) (P:aW) (e:Eo) (s:L2.St) (H:Hp) (Q:Bool→Hp→Prop):Prop
 | mk (r:List Addr) (fr:Fr) (h:Hh) (k:Bool) (h':Hh) (c0:SR K m H r fr s) (c1:HR K H r h) (c2:Ev.iw P e fr h=.ok k h') (c3:∀ H' r',HR K H' r' h'→Fm K r r' H H'→Q k H'):UM K m P e s H Q
noncomputable def JC (G:Tb) (n:Nat) (sc:Scope) (N:List Str) (df:Bool) (m:List Nat) (e:Eo) (ifs:List Expr):Prop:=∀ X,Good G n sc N df X→∀ (pins:List (Addr×Obj)) (s:Shared) (σ:L2.St) (H:Hp) (Q:Bool→Hp→Prop),Inv X pins σ H s→
 UM X.K m (Ev.run G.F G.w n) e σ H Q→wpAny (model X.prog X.w) X.A (wZ ifs X.env) (TP X pins σ Q) X.xe s
section
variable {G:Tb}{n:Nat}{sc:Scope}{N:List Str}{df:Bool}{m:List Nat}{a b c:E}{xa xb xc tg:Expr}{pos:Pos}
theorem RT:JC G n sc N df m .no []:=fun X g pins s σ H Q I q=>by
 obtain ⟨r,fr,h,k,h',sr,hr,e,q⟩:=q
 simp only [Ev.iw] at e
 cases e
 exact wpAny_pure ⟨H,I,q H r hr .refl⟩
theorem LN (hc:JT G n sc N df m a xa):JC G n sc N df m (.yes a) [xa]:=fun X g pins s σ H Q I q=>by
 obtain ⟨r,fr,h,k,h',sr,hr,e,q⟩:=q
 simp only [Ev.iw] at e
 exact wpAny_tests_one (hc X g pins s σ H Q I ⟨r,fr,h,k,h',sr,hr,e,q⟩)
end
noncomputable def o4 (X:Cx) (N':List Str) (scope:Scope) (cl:List (Str×Addr)) (C:Addr) (s3:Shared) (H3:Hp) (fp:List Addr):Cx:=
 { X with N:=N',s₀:=s3,H₀:=H3,env:=compEnvC scope cl C X.env,outer:=X.stack,stack:=X.stack,ex:=fp,fn:=fun _=>false,pn:=[],xe:=fun _ _=>False }
noncomputable def namesOk (sc:Scope) (N:List Str) (m:List Nat) (scope:Scope) (t:T) (N':List Str) (m':List Nat):Prop:=m'.length=N'.length∧
 ∀ (j:Nat) x i,N'[j]?=some x→m'[j]?=some i→i∈Ev.slots t∨((x,NameKind.free)∈scope.names∧∃ jo:Nat,N[jo]?=some x∧m[jo]?=some i)
noncomputable def o5 (sc:Scope) (N:List Str) (m:List Nat) (scope:Scope) (t:T) (N':List Str) (m':List Nat):Bool:=m'.length==N'.length&&
 (List.range N'.length).all fun j=>match N'[j]?,m'[j]? with
  | some x,some i=>(Ev.slots t).contains i || (scope.names.contains (x,NameKind.free)&&(List.range N.length).any fun jo=>N[jo]?==some x&&m[jo]?==some i)
  | _,_=>true
theorem namesOk.of {sc:Scope}{N:List Str}{m:List Nat}{scope:Scope}{t:T}{N':List Str}{m':List Nat}(h:o5 sc N m scope t N' m'=true):namesOk sc N m scope t N' m':=by
 unfold o5 at h
 rw [Bool.and_eq_true] at h
 refine ⟨by simpa using h.1,fun j x i e1 e2=>?_⟩
 have hj:j<N'.length:=(List.getElem?_eq_some_iff.mp e1).1
 have q:=List.all_eq_true.mp h.2 j (List.mem_range.mpr hj)
 rw [e1,e2] at q
 simp only [Bool.or_eq_true,Bool.and_eq_true,List.any_eq_true] at q
 rcases q with q | ⟨q1,jo,_,q2⟩
 ·exact .inl (by simpa using q)
 ·exact .inr ⟨by simpa using q1,jo,by simpa using q2.1,by simpa using q2.2⟩
theorem vR {t:T}{d:D}{fr av:Fr}(e:Ev.cy t d fr=some av) {i:Nat}(hi:i∉Ev.slots t):av[i]?=fr[i]?:=by
 have go:∀ (l:List Nat) (ds:List D) (fr av:Fr),Ev.cR l ds fr=some av→i∉l→av[i]?=fr[i]?:=by
  intro l
  induction l with
  | nil=>
   intro ds fr av e _
   cases ds with
   | nil=>cases e;rfl
   | cons _ _=>cases e
  | cons j l ih=>
   intro ds fr av e hj
   cases ds with
   | nil=>cases e
   | cons d ds=>
    rw [ih ds _ _ e fun z=>hj (List.mem_cons_of_mem _ z),List.getElem?_set_ne]
    intro z
    exact hj (by rw [z];exact List.mem_cons_self ..)
 cases t with
 | one j=>
  cases e
  rw [List.getElem?_set_ne]
  intro z
  exact hi (by simp [Ev.slots,z])
 | many l=>
  cases d with
  | tup ds=>exact go l ds fr av e hi
  | _=>cases e
theorem SR.unbind {K:PySem.W.Frag}{m:List Nat}{H:Hp}{r:List Addr}{t:T}{d:D}{fr av:Fr}{s:L2.St}(sr:SR K m H r av s) (e:Ev.cy t d fr=some av) (hu:Ev.undef t fr=true):SR K m H r fr s:=by
 refine ⟨sr.len,fun j i d' e1 e2=>sr.sl j i d' e1 ?_⟩
 rw [vR e]
 ·exact e2
 ·intro hi
  have q:=List.all_eq_true.mp hu i hi
  rw [e2] at q
  cases q
end Sm
set_option maxRecDepth 100000
namespace Sm
open PySem PySem.Spec PyProof.Rows L2
open Ev (D O Hh Fr R aW E Es Eo T S Ss Fl Src cz b7 TY BI ME)
structure j7 (sc scope:Scope):Prop where
 kind:scope.kind=.function
 Ay:∀ y∈scope.names,y.2≠.cell
 free:∀ x,(x,NameKind.free)∈scope.names→(sc.names.lookup x=some .cell∨sc.names.lookup x=some .free)∧scope.names.lookup x=some .free
 loc:∀ y∈scope.names,y.2=.local→scope.names.lookup y.1=some .local
noncomputable def Fc (sc scope:Scope):Bool:=scope.kind==.function&&scope.names.all fun y=>y.2 != .cell&&(y.2 != .free || ((sc.names.lookup y.1==some .cell || sc.names.lookup y.1==some .free)&&scope.names.lookup y.1==some .free))&&(y.2 != .local || scope.names.lookup y.1==some .local)
theorem j7.of {sc scope:Scope}(h:Fc sc scope=true):j7 sc scope:=by
 unfold Fc at h
 rw [Bool.and_eq_true] at h
 have q:∀ y∈scope.names,y.2≠.cell∧(y.2=.free→(sc.names.lookup y.1=some .cell∨sc.names.lookup y.1=some .free)∧scope.names.lookup y.1=some .free)∧(y.2=.local→scope.names.lookup y.1=some .local):=fun y hy=>by
  have z:=List.all_eq_true.mp h.2 y hy
  simp only [Bool.and_eq_true,Bool.or_eq_true,bne_iff_ne,beq_iff_eq,ne_eq] at z
  refine ⟨z.1.1,fun e=>?_,fun e=>?_⟩
  ·rcases z.1.2 with w | w
   ·exact absurd e w
   ·exact w
  ·rcases z.2 with w | w
   ·exact absurd e w
   ·exact w
 exact ⟨by simpa using h.1,fun y hy=>(q y hy).1,fun x hx=>(q _ hx).2.1 rfl,fun y hy=>(q y hy).2.2⟩
theorem rN {sc:Scope}:∀ {names:List (Str×NameKind)}{x:Str},names.lookup x=some .free→
  ((names.map fun (n,k)=>if (k==NameKind.free&&sc.kind==.function&&sc.names.lookup n==some .cell) then (n,NameKind.cell) else (n,k)).lookup x=some .cell∨
   (names.map fun (n,k)=>if (k==NameKind.free&&sc.kind==.function&&sc.names.lookup n==some .cell) then (n,NameKind.cell) else (n,k)).lookup x=some .free)
 | [],_,h=>by simp at h
 | (n,k) :: r,x,h=>by
  have ih:=@rN sc r x
  simp only [List.map_cons]
  simp only [List.lookup_cons] at h
  by_cases hc:(k==NameKind.free&&sc.kind==.function&&sc.names.lookup n==some .cell)=true
  ·rw [if_pos hc]
   simp only [List.lookup_cons]
   cases hx:(x==n) with
   | true=>exact .inl rfl
   | false=>rw [hx] at h;exact ih h
  ·rw [if_neg hc]
   simp only [List.lookup_cons]
   cases hx:(x==n) with
   | true=>rw [hx] at h;exact .inr h
   | false=>rw [hx] at h;exact ih h
section
variable {G:Tb}{n:Nat}{sc scope:Scope}{N N':List Str}{df:Bool}{m m':List Nat}{elt:E}{t:T}{it:Ev.It}{cond:Eo}{xe xi tg:Expr}{ifs:List Expr}{pos:Pos}{X:Cx}
theorem Good.comp (g:Good G n sc N df X) {cl:List (Str×Addr)}{C:Addr}{s3:Shared}{H3:Hp}{fp:List Addr}:Good G n (eX sc scope) N' false (o4 X N' scope cl C s3 H3 fp):=
 ⟨rfl,qs g.sc,g.calm,(fun h=>by cases h),g.room,rfl,g.fn,g.bl,g.cs,g.dk⟩
theorem Iw {pins:List (Addr×Obj)}{σ:L2.St}{H3:Hp}{s3:Shared}(g:Good G n sc N df X) (I:Inv X pins σ H3 s3) (hs:j7 sc scope) {cl:List (Str×Addr)}(iA:∀ x c,cl.lookup x=some c→X.env.cells.lookup x=some c)
  (j8:∀ x,(x,NameKind.free)∈scope.names→∃ c,cl.lookup x=some c) {fp:List Addr} (hfp:∀ b∈fp,gx X pins H3 b) (hfl:∀ b∈fp,b<s3.heap.objs.size):(o4 X N' scope cl s3.heap.objs.size s3 H3 fp).Ok where
 mod:=I.ok.mod
 kind:=hs.kind
 glob:=I.ok.glob
 blt:=I.ok.blt
 above:=Nat.le_refl _
 inj:=fun x y c h1 h2=>I.ok.inj x y c (iA x c h1) (iA y c h2)
 has:=fun x h=>by
  have h':(eX sc scope).names.lookup x=some .cell∨(eX sc scope).names.lookup x=some .free:=by
   rw [←qs (scope:=scope) g.sc];exact h
  exact j8 x (rM hs.Ay h')
 wH:=fun x c h=>by cases h
 hd:=I.ok.hd
 frames:=I.ok.frames
 stk:=.inl rfl
 EZ:=fun b hb=>⟨Nat.ne_of_lt (hfl b hb),fun x c e=>(hfp b hb).2.2.2.2.1 x c (iA x c e)⟩
 bs:=I.bs
 q9:=Nat.le_trans I.ok.q9 I.sz
 qh:=fun b o e hb=>by
  rcases (hfp b hb).2.2.2.1 with z | z
  ·exact I.ok.qh b o e z
  ·have:=Heap.lt_size (I.ok.bs b o e).1
   exact absurd (Nat.lt_of_lt_of_le this z) (Nat.lt_irrefl _)
 qi:=fun b hb z=>by
  rcases List.mem_cons.mp (I.tw b z) with q | q
  ·exact (hfp b hb).2.1 q
  ·exact (hfp b hb).2.2.1 q
 jg:=I.stack
 sZ:=I.wI
open Classical in
noncomputable def sig (scope:Scope) (N N':List Str) (m':List Nat) (K:PySem.W.Frag) (H:Hp) (r:List Addr) (fr:Fr) (σ:L2.St):L2.St:=
 (List.range N'.length).map fun j=>if h:∃ v,∃ x i,N'[j]?=some x∧m'[j]?=some i∧(x,NameKind.free)∈scope.names∧(∃ jo:Nat,N[jo]?=some x∧σ[jo]?=some (some v))∧∀ d,fr[i]?=some (some d)→RV K H r d v then some h.choose else none
theorem LO {K:PySem.W.Frag}{H:Hp}{r:List Addr}{fr:Fr}{σ:L2.St}{j:Nat}{v:V}(h:(sig scope N N' m' K H r fr σ)[j]?=some (some v)) :
  ∃ x i,N'[j]?=some x∧m'[j]?=some i∧(x,NameKind.free)∈scope.names∧(∃ jo:Nat,N[jo]?=some x∧σ[jo]?=some (some v))∧∀ d,fr[i]?=some (some d)→RV K H r d v:=by
 unfold sig at h
 rw [List.getElem?_map] at h
 cases e:(List.range N'.length)[j]? with
 | none=>rw [e] at h;cases h
 | some j'=>
  have:=getElem?_range' e
  subst this
  rw [e] at h
  simp only [Option.map_some,Option.some.injEq] at h
  split at h
  ·rename_i hh
   cases h
   exact hh.choose_spec
  ·cases h
theorem LP {K:PySem.W.Frag}{H:Hp}{r:List Addr}{fr:Fr}{σ:L2.St}(sr:SR K m H r fr σ) (hn:namesOk sc N m scope t N' m') (hu:Ev.undef t fr=true):SR K m' H r fr (sig scope N N' m' K H r fr σ):=by
 refine ⟨by unfold sig;simp [hn.1],fun j i d e1 e2=>?_⟩
 have hj:j<N'.length:=by rw [←hn.1];exact (List.getElem?_eq_some_iff.mp e1).1
 have hx:N'[j]?=some N'[j]:=List.getElem?_eq_getElem hj
 rcases hn.2 j _ i hx e1 with hi | ⟨h1,jo,h2,h3⟩
 ·exfalso
  have q:=List.all_eq_true.mp hu i hi
  rw [e2] at q
  cases q
 ·obtain ⟨v,h4,h5⟩:=sr.sl jo i d h3 e2
  have ex:∃ v,∃ x i,N'[j]?=some x∧m'[j]?=some i∧(x,NameKind.free)∈scope.names∧(∃ jo:Nat,N[jo]?=some x∧σ[jo]?=some (some v))∧∀ d,fr[i]?=some (some d)→RV K H r d v:=
   ⟨v,N'[j],i,hx,e1,h1,⟨jo,h2,h4⟩,fun d' e'=>by rw [e2] at e';cases e';exact h5⟩
  refine ⟨ex.choose,?_,?_⟩
  ·unfold sig
   rw [List.getElem?_map,List.getElem?_range hj]
   simp only [Option.map_some]
   rw [dif_pos ex]
  ·obtain ⟨x',i',q1,q2,q3,q4,q5⟩:=ex.choose_spec
   rw [e1] at q2;cases q2
   exact q5 d e2
theorem CO {pins:List (Addr×Obj)}{σ:L2.St}{H3:Hp}{s3:Shared}(g:Good G n sc N df X) (I:Inv X pins σ H3 s3) (hs:j7 sc scope) {cl:List (Str×Addr)}(iA:∀ x c,cl.lookup x=some c→X.env.cells.lookup x=some c)
  (j8:∀ x,(x,NameKind.free)∈scope.names→∃ c,cl.lookup x=some c) {fp:List Addr} (hfp:∀ b∈fp,gx X pins H3 b) (hfl:∀ b∈fp,b<s3.heap.objs.size) {h1:Heap} {tk:Nat} {mm:Str→Option Value}
  (hns:h1.Ns s3.heap.objs.size mm) (hk:∀ b o,s3.heap.get? b=some o→h1.get? b=some o) {r:List Addr} {fr:Fr} :
  Inv (o4 X N' scope cl s3.heap.objs.size s3 H3 fp) [] (sig scope N N' m' X.K H3 r fr σ) H3 { s3 with heap:=h1,toks:=tk }:=by
 refine ⟨Iw g I hs iA j8 hfp hfl,rfl,I.bare,Un.kept hk,⟨mm,hns,fun j x v e1 e2 e3=>?_⟩,fun x c e=>?_,I.hok.fresh (Nat.le_refl _),fun x c e=>I.iU x c (iA x c e),(fun p hp=>by simp [o4] at hp),I.hok.kept hk,(by unfold sig;simp [o4])⟩
 ·obtain ⟨x',i,q1,q2,q3,⟨jo,q4,q5⟩,_⟩:=LO e2
  have ZQ:N'[j]?=some x:=e1
  rw [ZQ] at q1;cases q1
  obtain ⟨f1,f2⟩:=hs.free x q3
  obtain ⟨mO,hnO,ZR⟩:=I.loc
  obtain ⟨u,ru,lk⟩:=ZR jo x v (by rw [g.nm];exact q4) q5 (by rw [g.sc];rcases f1 with z | z <;> simp [zR,z])
  refine ⟨u,ru,?_⟩
  have hkd:X.env.kindOf x=some .cell∨X.env.kindOf x=some .free:=by unfold Env.kindOf;rw [g.sc];exact f1
  rcases lk with ⟨z,_⟩ | ⟨_,c,hc,hcell⟩
  ·rcases hkd with w | w <;> (rw [z] at w;cases w)
  ·obtain ⟨c',hc'⟩:=j8 x q3
   have:c'=c:=by
    have:=iA x c' hc'
    rw [hc] at this;cases this;rfl
   subst this
   refine .inr ⟨?_,c',hc',?_⟩
   ·show (relabel scope X.env).names.lookup x=some .cell∨(relabel scope X.env).names.lookup x=some .free
    rw [qs (scope:=scope) g.sc]
    exact rN f2
   ·obtain ⟨o,ho,hd⟩:=hcell
    exact ⟨o,hk _ _ ho,hd⟩
 ·obtain ⟨v,o,ho,hd⟩:=I.cell x c (iA x c e)
  exact ⟨v,o,hk _ _ ho,hd⟩
end
end Sm
set_option maxRecDepth 100000
namespace Sm
open PySem PySem.Spec PyProof.Rows L2
open Ev (D O Hh Fr R aW E Es Eo T S Ss Fl Src cz b7 TY BI ME)
section
variable {G:Tb}{n:Nat}{sc scope:Scope}{N N':List Str}{df:Bool}{m m':List Nat}{elt:E}{t:T}{it:Ev.It}{cond:Eo}{xe xi tg:Expr}{ifs:List Expr}{pos:Pos}{X:Cx}
noncomputable def yI (P:aW) (elt:E) (t:T) (cond:Eo) (fr:Fr):D→Hh→R (Option D):=fun d h2=>match Ev.cy t d fr with
 | none=>.bad
 | some av=>(Ev.iw P cond av h2).bind fun k h3=>if k then (Ev.ev P elt av h3).bind fun x h4=>.ok (some x) h4 else .ok none h3
theorem qt (P:aW) (elt:E) (t:T) (it:Ev.It) (cond:Eo) (fr:Fr) (h:Hh):Ev.ev P (.comp elt t it cond) fr h=(Ev.cO P it fr h).bind fun s h1=>if Ev.undef t fr then
  (Ev.cV (yI P elt t cond fr) s.2 s.1 h1).bind fun ds h2=>Ev.alloc ds h2 else .bad:=by
 simp only [Ev.ev]
 rfl
noncomputable def CI (Y:Cx) (m':List Nat) (f:D→Hh→R (Option D)) (fr:Fr) (src:Src) (fp:List Addr) (tn:Nat→Heap→Prop) (r2:List Addr) (H2:Hp) (Dd:Addr) (ds:List D) (h2:Hh) (k:Nat) (s:Shared):Prop:=
 ∃ i nK Hc rc hc dn vs rest,Inv Y [] nK Hc s∧tn i s.heap∧(∀ b∈fp,Hc b=none)∧k=src.1.length - i∧i≤src.1.length∧
  SR Y.K m' Hc rc fr nK∧HR Y.K Hc rc hc∧Fm Y.K r2 rc H2 Hc∧Hc Dd=some (.lst vs)∧Dd∉rc∧aO Y.K Hc rc dn vs∧Ev.cV f src.2 (src.1.drop i) hc=.ok rest h2∧dn++rest=ds
section
variable {Y:Cx}{sc':Scope}{J:L2.It}{fp:List Addr}{ita:Addr}{tn:Nat→Heap→Prop}{fr:Fr}{src:Src}{r2:List Addr}{H2:Hp}{Dd:Addr}{ds:List D}{h2:Hh}
theorem yJ (gC:Good G n sc' N' false Y) {α:Type}{tt:Sem α}{Q:α→Shared→Prop}{s:Shared}(hw:wpAny (model Y.prog Y.w) Y.A tt Q Y.xe s):wpAny (model Y.prog Y.w) Y.A tt Q fP s:=by rw [gC.xe] at hw;exact hw
theorem w9 {i:Nat}{lP:L2.St}{H9:Hp}{r9:List Addr}{h9:Hh}{dn:List D}{vs:List V}{rest':List D}{s9:Shared}{p:List (Addr×Obj)}{f:D→Hh→R (Option D)}(hlt:i<src.1.length) (I9:Inv Y ([]++p) lP H9 s9) (bk:tn (i+1) s9.heap∧∀ b∈fp,H9 b=none) (q:SR Y.K m' H9 r9 fr lP) (rO:HR Y.K H9 r9 h9) (fm:Fm Y.K r2 r9 H2 H9) (yK:H9 Dd=some (.lst vs)) (yL:Dd∉r9) (rv:aO Y.K H9 r9 dn vs) (e7:Ev.cV f src.2 (src.1.drop (i+1)) h9=.ok rest' h2) (ed:dn++rest'=ds) :
  ∃ k,k<src.1.length - i∧CI Y m' f fr src fp tn r2 H2 Dd ds h2 k s9:=
 ⟨src.1.length - (i+1),Nat.sub_lt_sub_left hlt (Nat.lt_succ_self i),i+1,lP,H9,r9,h9,dn,vs,rest',I9.kP,bk.1,bk.2,rfl,hlt,q,rO,fm,yK,yL,rv,e7,ed⟩
theorem LQ {i:Nat}{lP:L2.St}{H9:Hp}{r9:List Addr}{h9:Hh}{dn:List D}{vs:List V}{xd:D}{v10:V}{Fd:Value}{rest':List D}{s9:Shared}{p:List (Addr×Obj)}{f:D→Hh→R (Option D)}(hlt:i<src.1.length) (mw:H2 Dd=none) (hsz:ds.length≤sizeLine) (gC:Good G n sc' N' false Y) (I9:Inv Y ([]++p) lP H9 s9) (CP:RelV v10 Fd) (bk:∀ {σ':L2.St}{H':Hp}{s':Shared},Inv Y ([]++p) σ' H' s'→tn (i+1) s'.heap∧∀ b∈fp,H' b=none) (q:SR Y.K m' H9 r9 fr lP) (rO:HR Y.K H9 r9 h9) (fm:Fm Y.K r2 r9 H2 H9) (nL:H9 Dd=some (.lst vs)) (tV:Dd∉r9) (rv:aO Y.K H9 r9 dn vs) (CQ:RV Y.K H9 r9 xd v10) (e7:Ev.cV f src.2 (src.1.drop (i+1)) h9=.ok rest' h2) (ed:dn++xd :: rest'=ds) :
  wpAny (model Y.prog Y.w) Y.A (call (.builtin "list.append") [.ref Dd,Fd]) (fun _ Fe=>∃ k,k<src.1.length - i∧CI Y m' f fr src fp tn r2 H2 Dd ds h2 k Fe) fP s9:=by
 have hlen:vs.length<sizeLine:=by
  have h1:=rv.length
  have h2:=congrArg List.length ed
  simp at h2
  omega
 refine bS (yJ gC (rE _ s9 lP H9 (.ref Dd) [v10] (.ref Dd) [Fd] (fun _ UN=>UN=upd H9 Dd (.lst (vs++[v10]))) I9 rfl (.cons CP .nil) ⟨Dd,vs,v10,rfl,rfl,nL,hlen,rfl⟩)) fun _ Fe ⟨_,UN,UO,_,Xm⟩=>?_
 subst Xm
 refine w9 (dn:=dn++[xd]) (vs:=vs++[v10]) hlt UO (bk UO) ?_ (rO.other nL tV) (fm.other mw nL) fV tV ?_ e7 ?_
 ·exact ⟨q.len,fun j i' d' a1 a2=>by
   obtain ⟨w,b1,b2⟩:=q.sl j i' d' a1 a2
   exact ⟨w,b1,b2.grow (fun _ _ z=>z) (iy nL)⟩⟩
 ·exact (rv.append (.cons CQ .nil)).grow (fun _ _ z=>z) (iy nL)
 ·rw [←ed];simp
theorem Az (gC:Good G n sc' N' false Y) (hg:JG G n sc' N' false m' t tg) (hc:JC G n sc' N' false m' cond ifs) (he:JE G n sc' N' false m' elt xe) (Tn:Turn Y.prog Y.w Y.K tg J fp ita tn) (kQ:∀ {Hc:Hp},(∀ b∈fp,Hc b=none)→∀ b∈fp,gx Y [] Hc b)
  (hu:Ev.undef t fr=true) (hJ:om Y.K r2 H2 src J) (mw:H2 Dd=none) (hsz:ds.length≤sizeLine) {R':Result→Shared→Prop}
  (Xn:∀ s6 nK Hc rc vs,Inv Y [] nK Hc s6→HR Y.K Hc rc h2→Fm Y.K r2 rc H2 Hc→Hc Dd=some (.lst vs)→Dd∉rc→aO Y.K Hc rc ds vs→R' (.ok .next) s6) {k:Nat} {s:Shared}
  (h:CI Y m' (yI (Ev.run G.F G.w n) elt t cond fr) fr src fp tn r2 H2 Dd ds h2 k s):codeAny (model Y.prog Y.w) Y.A (.compLoop (.ListComp xe [⟨tg,xi,ifs,0⟩] scope pos) 0 (.ref ita) (.ref Dd) Y.env) R' s:=by
 refine tU (CI Y m' (yI (Ev.run G.F G.w n) elt t cond fr) fr src fp tn r2 H2 Dd ds h2) ?_ k h
 rintro k s5 ⟨i,nK,Hc,rc,hc',dn,vs,rest,I5,wN,rq,rfl,hle,Aw,rL,tW,nL,tV,AA,e5,Ff⟩
 rcases Nat.lt_or_ge i src.1.length with hlt | hge
 ·rw [List.drop_eq_getElem_cons hlt] at e5
  simp only [Ev.cV] at e5
  split at e5
  ·rename_i hst
   obtain ⟨hgo,_⟩:=hJ i Hc rc hc' rL tW hst
   obtain ⟨g1,g2⟩:=hgo src.1[i] (List.getElem?_eq_getElem hlt)
   obtain ⟨o,h6,e6,e5⟩:=Ev.aj e5
   obtain ⟨rest',h7,e7,e5⟩:=Ev.aj e5
   cases e5
   refine bS (Tn.item Y rfl rfl rfl gC.calm i [] s5 nK Hc fP I5 (kQ rq) wN g1) fun rr s6 ⟨u,ZS,h8⟩=>?_
   subst ZS
   refine bS h8 fun _ s7 ⟨x,H7,I7,rx,y7,LR,ZT⟩=>?_
   obtain ⟨r7,v7,UP,xg⟩:=g2 x H7 y7
   obtain ⟨Xo,Xp⟩:=xg.kR nL tV
   unfold yI at e6
   split at e6
   ·cases e6
   ·rename_i av eb
    obtain ⟨kk,h9,e9,e6⟩:=Ev.aj e6
    have ZU:=I7.pinned (kQ ZT) (Tn.obj _ _ LR)
    refine bS (yJ gC (hg _ gC _ s7 nK H7 x u (fun lP H8=>H8=H7∧SR Y.K m' H7 r7 av lP) ZU rx ⟨r7,fr,hc',_,av,Aw.mono xg,UP,v7,eb,fun s' q=>⟨rfl,q⟩⟩)) fun _ s8 ⟨lP,H8,I8,ZV,Fg⟩=>?_
    subst ZV
    refine bS (yJ gC (hc _ gC _ s8 lP _ (fun b H9=>b=kk∧∃ r9,HR Y.K H9 r9 h9∧Fm Y.K r7 r9 _ H9) I8 ⟨r7,av,hc',kk,h9,Fg,UP,e9,fun H9 r9 rO f9=>⟨rfl,r9,rO,f9⟩⟩)) fun bb s9 ⟨H9,I9,Lc,r9,rO,rP⟩=>?_
    subst Lc
    obtain ⟨yL,yK⟩:=rP.kR Xp Xo
    have back:∀ {σ':L2.St} {H':Hp} {s':Shared},Inv Y ([]++lU fp s7.heap) σ' H' s'→tn (i+1) s'.heap∧∀ b∈fp,H' b=none:=fun {σ' H' s'} I'=>
     ⟨Tn.keep _ _ _ LR fun b hb o e=>(I'.pin (b,o) (List.mem_append_right _ (List.mem_append_right _ (jn hb e)))).1,fun b hb=>
      let ⟨o,e,_⟩:=Tn.obj _ _ LR b hb
      (I'.pin (b,o) (List.mem_append_right _ (List.mem_append_right _ (jn hb e)))).2.1⟩
    cases bb with
    | false=>
     simp only [Bool.false_eq_true,if_false] at e6 ⊢
     cases e6
     exact w9 hlt I9 (back I9) ((Fg.mono rP).unbind eb hu) rO ((tW.trans xg).trans rP) yK yL ((AA.mono xg).mono rP) e7 Ff
    | true=>
     simp only [if_true] at e6 ⊢
     obtain ⟨xd,h10,ZW,e6⟩:=Ev.aj e6
     cases e6
     refine bS (yJ gC (he _ gC _ s9 lP H9 (fun v AB=>∃ xj,RV Y.K AB xj xd v∧HR Y.K AB xj _∧Fm Y.K r9 xj H9 AB) I9 ⟨r9,av,h9,xd,_,Fg.mono rP,rO,ZW,fun v AB xj v10 CS Fi=>⟨xj,v10,CS,Fi⟩⟩)) fun Fd AD ⟨v10,AB,ZX,CP,xj,CQ,CS,yN⟩=>?_
     obtain ⟨RU,RY⟩:=yN.kR yK yL
     exact LQ hlt mw hsz gC ZX CP back (((Fg.mono rP).mono yN).unbind eb hu) CS (((tW.trans xg).trans rP).trans yN) RY RU (((AA.mono xg).mono rP).mono yN) CQ e7 Ff
  ·cases e5
 ·have hi':i=src.1.length:=Nat.le_antisymm hle hge
  subst hi'
  rw [List.drop_length] at e5
  simp only [Ev.cV] at e5
  split at e5
  ·rename_i hst
   cases e5
   refine bS (Tn.done Y rfl rfl rfl gC.calm _ [] s5 nK Hc fP I5 (kQ rq) wN ((hJ _ Hc rc _ rL tW hst).2 (Nat.le_refl _))) fun rr s6 ⟨hrr,I6⟩=>?_
   subst hrr
   rw [List.append_nil] at Ff
   subst Ff
   exact Xn s6 nK Hc rc vs I6 rL tW nL tV AA
  ·cases e5
end
theorem rQ (g:Good G n sc N df X) (hi:JI G n sc N df m it tg xi) (hg:JG G n (eX sc scope) N' false m' t tg) (hc:JC G n (eX sc scope) N' false m' cond ifs) (he:JE G n (eX sc scope) N' false m' elt xe)
  (hn:namesOk sc N m scope t N' m') (hs:j7 sc scope) {cl:List (Str×Addr)} (iA:∀ x c,cl.lookup x=some c→X.env.cells.lookup x=some c) (j8:∀ x,(x,NameKind.free)∈scope.names→∃ c,cl.lookup x=some c)
  {pins:List (Addr×Obj)} {σ:L2.St} {H:Hp} {s:Shared} (I:Inv X pins σ H s) {r:List Addr} {fr:Fr} {h:Hh} {d:D} {h':Hh} (sr:SR X.K m H r fr σ) (hr:HR X.K H r h)
  (e:Ev.ev (Ev.run G.F G.w n) (.comp elt t it cond) fr h=.ok d h') (post:Value→Addr→Result→Shared→Prop)
  (hpost:∀ Dd C s' H' r',Inv X pins σ H' s'→(∃ mm,s'.heap.Ns C mm)→gx X pins H' C→RV X.K H' r' d (.ref Dd)→HR X.K H' r' h'→Fm X.K r r' H H'→post (.ref Dd) C (.ok .next) s') {E:Value→Shared→Prop} (hE:X.xe=fun _ _=>False) :
  wpAny (model X.prog X.w) X.A (eval xi X.env) (fun x s₁=>wpAny (model X.prog X.w) X.A (pyIter x) (fun itv s₂=>wpAny (model X.prog X.w) X.A (newList []) (fun acc s₃=>
   wpAny (model X.prog X.w) X.A (newFunctionEnv scope X.env.globals cl [] X.env.qual none .none (some X.env)) (fun cenv s₄=>
    codeAny (model X.prog X.w) X.A (.compStart (.ListComp xe [⟨tg,xi,ifs,0⟩] scope pos) 0 itv acc { cenv with scope:=relabel scope X.env }) (post acc cenv.locals) s₄) E s₃) E s₂) E s₁) E s:=by
 rw [qt] at e
 obtain ⟨src,h1,e1,e⟩:=Ev.aj e
 split at e
 ·rename_i hu
  obtain ⟨ds,h2,e2,e⟩:=Ev.aj e
  have rj:∀ {α:Type} {tt:Sem α} {Q:α→Shared→Prop} {s:Shared},wpAny (model X.prog X.w) X.A tt Q X.xe s→wpAny (model X.prog X.w) X.A tt Q E s:=fun {α tt Q s} hw=>wpAny_mono hw (fun _ _ q=>q) fun _ _ q=>by rw [hE] at q;exact q.elim
  refine bS (rj (hi X g pins s σ H (fun J H2=>∃ r2,HR X.K H2 r2 h1∧Fm X.K r r2 H H2∧om X.K r2 H2 src J) I ⟨r,fr,h,src,h1,sr,hr,e1,fun J H2 r2 hr2 f2 hJ=>⟨r2,hr2,f2,hJ⟩⟩)) fun v s1 q1=>?_
  refine bS (rj q1) fun itv s2 q2=>?_
  obtain ⟨ita,fp,tn,J,H2,rfl,I2,Tn,st2,f2,r2,hr2,Fj,hJ⟩:=q2
  refine wpAny_newObj_type ?_
  generalize Fp:s2.heap.objs.size=Dd
  have mw:H2 Dd=none:=by rw [←Fp];exact I2.fresh
  have I3:Inv X pins σ (upd H2 Dd (.lst [])) { s2 with heap:=s2.heap.push { cls:=.type "list",data:=.seq ([]:List Value).toArray }}:=by
   have:=I2.CB (ys:=[]) (its:=[]) (t':=s2.toks) .nil (Nat.zero_le _)
   rw [Fp] at this
   exact this
  have LS:∀ b∈fp,b<s2.heap.objs.size:=fun b hb=>by
   obtain ⟨o,e,_⟩:=Tn.obj 0 _ st2 b hb
   exact Heap.lt_size e
  generalize LU:({ s2 with heap:=s2.heap.push { cls:=.type "list",data:=.seq ([]:List Value).toArray }}:Shared)=s3 at I3
  have Xq:s3.heap.objs.size=s2.heap.objs.size+1:=by rw [←LU];exact Heap.size_push ..
  have k3:∀ b o,s2.heap.get? b=some o→s3.heap.get? b=some o:=fun b o e=>by rw [←LU];exact Heap.get?_push_of_some _ e
  have LV:∀ b∈fp,b<s3.heap.objs.size:=fun b hb=>Nat.lt_of_lt_of_le (LS b hb) (by rw [Xq];exact Nat.le_succ _)
  have qu:∀ b∈fp,gx X pins (upd H2 Dd (.lst [])) b:=fun b hb=>⟨by rw [bE (fun z=>absurd (LS b hb) (by rw [z,Fp];exact Nat.lt_irrefl _))];exact (f2 b hb).1,(f2 b hb).2⟩
  refine wpAny_newFunctionEnv (hs.Ay) (fun y hy=>by simp at hy) (fun LW Xr Xu=>?_) hs.kind
  have k4:∀ b o,s3.heap.get? b=some o→LW.get? b=some o:=fun b o e=>Xu.extBut b o (Nat.ne_of_lt (Heap.lt_size e)) (Heap.get?_push_of_some _ e)
  have gC:Good G n (eX sc scope) N' false (o4 X N' scope cl s3.heap.objs.size s3 (upd H2 Dd (.lst [])) fp):=g.comp
  have I4:Inv (o4 X N' scope cl s3.heap.objs.size s3 (upd H2 Dd (.lst [])) fp) [] (sig scope N N' m' X.K (upd H2 Dd (.lst [])) r2 fr σ) (upd H2 Dd (.lst [])) { s3 with heap:=LW,toks:=s3.toks+0 }:=
   CO g I3 hs iA j8 qu LV Xr k4
  have wY:SR X.K m' (upd H2 Dd (.lst [])) r2 fr (sig scope N N' m' X.K (upd H2 Dd (.lst [])) r2 fr σ):=LP (((sr.mono Fj).mono (Fm.tup mw))) hn hu
  have oZ:HR X.K (upd H2 Dd (.lst [])) r2 h1:=hr2.tup mw
  have UQ:Dd∉r2:=fun hm=>by
   obtain ⟨k,hk⟩:=List.getElem?_of_mem hm
   have hlt:k<h1.length:=by rw [←hr2.len];exact (List.getElem?_eq_some_iff.mp hk).1
   obtain ⟨a,e3,e4⟩:=hr2.ob k _ (List.getElem?_eq_getElem hlt)
   rw [hk] at e3;cases e3
   cases eo:h1[k] with
   | lst dd=>rw [eo] at e4;obtain ⟨us,e5,_⟩:=e4;rw [mw] at e5;cases e5
   | bR dd=>
    rw [eo] at e4
    obtain ⟨us,e5,_⟩:=e4
    rcases e5 with ⟨ob,e5⟩ | ⟨ob,_,_,e5,_⟩
    ·rw [mw] at e5;cases e5
    ·have:=Heap.lt_size (I2.gE _ _ e5)
     rw [Fp] at this
     exact absurd this (Nat.lt_irrefl _)
  have ZY:H Dd=none:=by
   cases z:H Dd with
   | none=>rfl
   | some o=>
    have hnr:Dd∉r:=fun hm=>by
     obtain ⟨k,hk⟩:=List.getElem?_of_mem hm
     exact UQ (List.mem_of_getElem? (Fj.pre _ _ hk))
    have:=Fj.keep _ _ z hnr
    rw [mw] at this;cases this
  have kQ:∀ {Hc:Hp},(∀ b∈fp,Hc b=none)→∀ b∈fp,gx (o4 X N' scope cl s3.heap.objs.size s3 (upd H2 Dd (.lst [])) fp) [] Hc b:=fun {Hc} hz b hb=>by
   refine ⟨hz b hb,Nat.ne_of_lt (LV b hb),(I4.ok).qi b hb,.inl hb,fun x c e=>((I4.ok).EZ b hb).2 x c e,fun p hp=>?_⟩
   simp [o4] at hp
  have hsz:ds.length≤sizeLine:=by
   unfold Ev.alloc at e
   split at e
   ·rename_i z;rw [←jG];exact z
   ·cases e
  have fin:codeAny (model X.prog X.w) X.A (.compLoop (.ListComp xe [⟨tg,xi,ifs,0⟩] scope pos) 0 (.ref ita) (.ref Dd) (compEnvC scope cl s3.heap.objs.size X.env)) (post (.ref Dd) s3.heap.objs.size) { s3 with heap:=LW,toks:=s3.toks+0 }:=by
   refine Az gC hg hc he Tn kQ hu hJ mw hsz (fun s6 nK Hc rc vs I6 rL tW nL tV AA=>?_) ⟨0,_,_,r2,h1,[],[],ds,I4,Tn.keep _ _ _ st2 fun b hb o eo=>k4 b o (k3 b o eo),fun b hb=>(qu b hb).1,rfl,Nat.zero_le _,wY,oZ,Fm.tup mw,fV,UQ,.nil,by rw [List.drop_zero];exact e2,rfl⟩
   unfold Ev.alloc at e
   split at e
   ·cases e
    obtain ⟨ZZ,Xv,_⟩:=I6.loc
    refine hpost Dd _ s6 Hc (rc++[Dd]) ?_ ⟨ZZ,Xv⟩ ?_ ⟨Dd,rfl,?_⟩ (rL.known nL tV AA) ((Fj.trans tW).known ?_)
    ·exact I3.Rj (ch:=fp) (I6.os) I6.base I6.hok I6.bare fun b hb=>⟨(qu b hb).2.2.2.1,(qu b hb).2.1,(qu b hb).2.2.2.2.1,(qu b hb).2.2.2.2.2⟩
    ·exact I3.yj (Nat.le_refl _) I6.free
    ·rw [←rL.len];simp
    ·exact ZY
   ·cases e
  subst LU
  exact codeAny_compStart_list fin (Tn.self _ 0 _ _ _ (Tn.keep _ _ _ st2 fun b hb o eo=>k4 b o (k3 b o eo)) fin)
 ·cases e
end
end Sm
set_option maxRecDepth 100000
namespace Sm
open PySem PySem.Spec PyProof.Rows L2
open Ev (D O Hh Fr R aW E Es Eo T S Ss Fl Src cz b7 TY BI ME)
section
variable {G:Tb}{n:Nat}{sc scope:Scope}{N N':List Str}{df:Bool}{m m':List Nat}{elt:E}{t:T}{it:Ev.It}{cond:Eo}{xe xi tg:Expr}{ifs:List Expr}{pos:Pos}
theorem Good.cells {X:Cx}{pins:List (Addr×Obj)}{σ:L2.St}{H:Hp}{s:Shared}(g:Good G n sc N df X) (I:Inv X pins σ H s) (hs:j7 sc scope) :
  ∃ cl,closureFor scope X.env=pure cl∧(∀ x c,cl.lookup x=some c→X.env.cells.lookup x=some c)∧∀ x,(x,NameKind.free)∈scope.names→∃ c,cl.lookup x=some c:=
 Iv fun x hx=>I.ok.has x (by unfold Env.kindOf;rw [g.sc];exact (hs.free x hx).1)
theorem AE {X:Cx}{pins:List (Addr×Obj)}{σ:L2.St}{H:Hp}{s:Shared}(I:Inv X pins σ H s) {C:Addr}(fp:gx X pins H C) {h':Heap}(hs:Heap.SameBut C s.heap h'):Inv X pins σ H { s with heap:=h' }:=
 I.turned (t':=s.toks) (fun b o hb e=>hs.extBut b o hb e) fp.1 fp.2.1 fp.2.2.2.1 fp.2.2.2.2.1 fp.2.2.2.2.2
theorem xm (hi:JI G n sc N df m it tg xi) (hg:JG G n (eX sc scope) N' false m' t tg) (hc:JC G n (eX sc scope) N' false m' cond ifs) (he:JE G n (eX sc scope) N' false m' elt xe)
  (hn:namesOk sc N m scope t N' m') (hs:j7 sc scope) (hf:∀ (env:Env) x,foldedSetIterable xi env x=pure x:=by intro _ _;rfl):JE G n sc N df m (.comp elt t it cond) (.ListComp xe [⟨tg,xi,ifs,0⟩] scope pos):=fun X g pins s σ H Q I q=>by
 obtain ⟨r,fr,h,d,h',sr,hr,e,q⟩:=q
 obtain ⟨cl,hcl,iA,j8⟩:=g.cells I hs
 rw [eval_ListComp]
 refine wpAny_comprehension_free (use:=none) (Q:=EP X pins σ Q) rfl (hf _) hcl hs.kind hs.loc ?_
 refine rQ g hi hg hc he hn hs iA j8 I sr hr e (fun acc C=>compPost (model X.prog X.w) X.A X.xe none (EP X pins σ Q) acc C) (fun Dd C s' H' r' I' hC fp rv hr' Fq=>?_) g.xe
 obtain ⟨mm,hC⟩:=hC
 exact ⟨mm,hC,fun h'' AF=>⟨.ref Dd,H',AE I' fp AF,rfl,q _ H' r' rv hr' Fq⟩⟩
theorem Iz (j i:Nat) {x:Str}{pos' cpos:Pos}(hm:m.Nodup) (hN:N.Nodup) (hi:JI G n sc N df m it tg xi) (hg:JG G n (eX sc scope) N' false m' t tg) (hc:JC G n (eX sc scope) N' false m' cond ifs) (he:JE G n (eX sc scope) N' false m' elt xe)
  (hn:namesOk sc N m scope t N' m') (hs:j7 sc scope) (hj:m[j]?=some i:=by rfl) (rH:N[j]?=some x:=by rfl)
  (hl:sc.names.lookup x=some .local∨(df=true∧sc.names.lookup x=some .cell):=by first | exact Or.inl rfl | exact Or.inr ⟨rfl,rfl⟩) (hf:∀ (env:Env) x,foldedSetIterable xi env x=pure x:=by intro _ _;rfl) :
  JS G n sc N df m (.set i (.comp elt t it cond)) (.Assign [.Name x pos'] (.ListComp xe [⟨tg,xi,ifs,0⟩] scope cpos) pos):=fun X g=>by
 obtain ⟨h1,h2⟩:=g.loc hl
 have hsw:swapsWith (.ListComp xe [⟨tg,xi,ifs,0⟩] scope cpos) (some (.Name x pos')) pos.line X.env=pure (X.env.blockKind==.function&&X.env.kindOf x==some .local&&pos'.line==(Expr.ListComp xe [⟨tg,xi,ifs,0⟩] scope cpos).pos.line&&!(scope.names.any fun (n,k)=>n==x&&(k==.local || k==.cell))):=rfl
 generalize hb:(X.env.blockKind==.function&&X.env.kindOf x==some .local&&pos'.line==(Expr.ListComp xe [⟨tg,xi,ifs,0⟩] scope cpos).pos.line&&!(scope.names.any fun (n,k)=>n==x&&(k==.local || k==.cell)))=b at hsw
 cases b with
 | false=>
  refine PS.of (zW (i:=j) (by rw [g.nm];exact hN) (by rw [g.nm];exact rH) h1 (xm hi hg hc he hn hs hf X g) hsw h2) fun Q s H q=>?_
  obtain ⟨r,fr,h,fl,ak,h',sr,hr,e,q⟩:=q
  simp only [Ev.ex] at e
  obtain ⟨d,h1,e1,e⟩:=Ev.aj e
  cases e
  exact ⟨r,fr,h,d,_,sr,hr,e1,fun v H1 r1 v1 hr1 f1=>q _ H1 r1 ((sr.mono f1).set hm hj v1) hr1 f1⟩
 | true=>
  have hkl:X.env.kindOf x=some .local:=by
   simp only [Bool.and_eq_true,beq_iff_eq] at hb
   exact hb.1.1.2
  intro pins s σ H Q I q
  obtain ⟨r,fr,h,fl,ak,h',sr,hr,e,q⟩:=q
  simp only [Ev.ex] at e
  obtain ⟨d,h3,e1,e⟩:=Ev.aj e
  cases e
  obtain ⟨cl,hcl,iA,j8⟩:=g.cells I hs
  rw [exec_Assign_Name_used _ _ _ _ hsw]
  refine wpAny_bind (wpAny_standAt (wpAny_bind ?_))
  show wpAny _ X.A (do let _ ←comprehension (.ListComp xe [⟨tg,xi,ifs,0⟩] scope cpos) scope X.env _ (newList []) false (eval xi X.env) (some (assign (.Name x pos') X.env))) _ _ s
  refine wpAny_bind (wpAny_mono (wpAny_comprehension_free (use:=some (assign (.Name x pos') X.env)) (Q:=fun _ s'=>SP X pins Q .next s') rfl (hf _) hcl hs.kind hs.loc ?_) (fun _ s' hq=>wpAny_pure (wpAny_pure hq)) fun _ _ e=>e)
  refine rQ g hi hg hc he hn hs iA j8 I sr hr e1 (fun acc C=>compPost (model X.prog X.w) X.A X.xe (some (assign (.Name x pos') X.env)) (fun _ s'=>SP X pins Q .next s') acc C) (fun Dd C s' H' r' I' hC fp rv hr' Fq=>?_) g.xe
  obtain ⟨mm,hC⟩:=hC
  show wpAny _ X.A (assign (.Name x pos') X.env (.ref Dd)) _ _ s'
  refine wpAny_assign_Name (ri (v:=.ref Dd) I' (by rw [g.nm];exact hN) (i:=j) (by rw [g.nm];exact rH) h1 rfl (fun s'' Z0 AF=>?_) h2)
  obtain ⟨a,AF,ha⟩:=AF
  have Z1:C≠a:=by
   rcases ha with z | z
   ·rw [z];exact fp.2.1
   ·exact fun w=>fp.2.2.2.2.1 x a z w.symm
  refine ⟨mm,hC.sameBut AF Z1,fun h'' Xw=>?_⟩
  exact ⟨_,H',AE Z0 ⟨fp.1,fp.2⟩ Xw,q _ H' r' ((sr.mono Fq).set hm hj rv) hr' Fq⟩
end
end Sm
set_option maxRecDepth 100000
namespace Sm
open PySem PySem.Spec PyProof.Rows L2 PySem.SeqAt
open Ev (D O Hh Fr R aW E Es Eo T S Ss Fl Src cz b7 TY BI ME)
structure tX (A:Around) (s:Shared) (u w:Value) (k:Bool):Prop where
 eq:EqAt A s u w k
 rc:RcAt A s u w k
 ne:RcNeAt A s u w (!k)
theorem qv {f:D→D→Option Bool}:∀ {x y:List D},x.length≠y.length→∀ {k},Ev.cJ f x y=some k→k=false
 | [],[],h,_,_=>absurd rfl h
 | [],_ :: _,_,_,e=>by cases e;rfl
 | _ :: _,[],_,_,e=>by cases e;rfl
 | a :: x,b :: y,h,k,e=>by
  simp only [Ev.cJ,Option.bind_eq_bind,Option.bind_eq_some_iff] at e
  obtain ⟨p,_,q,e2,e3⟩:=e
  have:=qv (x:=x) (y:=y) (by simpa using h) e2
  subst this
  cases e3
  simp
theorem xo {f:D→D→Option Bool}:∀ {x y:List D}{k},Ev.cJ f x y=some k→x.length=y.length→∃ e:Nat→Bool,(∀ (j:Nat) a b,x[j]?=some a→y[j]?=some b→f a b=some (e j))∧(List.range x.length).all e=k
 | [],[],_,h,_=>⟨fun _=>true,(fun j a b h1=>by simp at h1),by cases h;simp⟩
 | [],_ :: _,_,_,h=>by simp at h
 | _ :: _,[],_,_,h=>by simp at h
 | a :: x,b :: y,k,h,hl=>by
  simp only [Ev.cJ,Option.bind_eq_bind,Option.bind_eq_some_iff] at h
  obtain ⟨p,e1,q,e2,e3⟩:=h
  cases e3
  obtain ⟨e,h1,h2⟩:=xo e2 (by simpa using hl)
  refine ⟨fun j=>match j with | 0=>p | j+1=>e j,fun j a' b' g1 g2=>?_,?_⟩
  ·cases j with
   | zero=>simp at g1 g2;subst g1 g2;exact e1
   | succ j=>exact h1 j a' b' (by simpa using g1) (by simpa using g2)
  ·rw [List.length_cons,List.range_succ_eq_map,List.all_cons,List.all_map,←h2]
   rfl
theorem xq {f:D→D→Option Bool}:∀ {x y:List D}{k},Ev.cJ f x y=some k→∃ e:Nat→Bool,∀ (j:Nat) a b,x[j]?=some a→y[j]?=some b→f a b=some (e j)
 | [],_,_,_=>⟨fun _=>true,fun j a b h1=>by simp at h1⟩
 | _ :: _,[],_,_=>⟨fun _=>true,fun j a b _ h1=>by simp at h1⟩
 | a :: x,b :: y,k,h=>by
  simp only [Ev.cJ,Option.bind_eq_bind,Option.bind_eq_some_iff] at h
  obtain ⟨p,e1,q,e2,e3⟩:=h
  obtain ⟨e,h1⟩:=xq e2
  refine ⟨fun j=>match j with | 0=>p | j+1=>e j,fun j a' b' g1 g2=>?_⟩
  cases j with
  | zero=>simp at g1 g2;subst g1 g2;exact e1
  | succ j=>exact h1 j a' b' (by simpa using g1) (by simpa using g2)
section
variable {X:Cx}{pins:List (Addr×Obj)}{σ:L2.St}{H:Hp}{s:Shared}{r:List Addr}{h:Hh}
theorem m6 (I:Inv X pins σ H s) {a b:Addr}{vs ws:List V}(h1:yD X.K H a vs) (h2:H b=some (.lst ws)):a≠b:=by
 rintro rfl
 rcases h1 with ⟨o,h1⟩ | ⟨o,_,_,h1,_⟩
 ·rw [h2] at h1;cases h1
 ·have:=(I.bs a o (I.ok.mod.EY a o h1)).2
  rw [h2] at this;cases this
theorem rR {x y:List D}{vs ws:List V}{us zs:List Value}{f:D→D→Option Bool}{A:Around}{k:Bool}(v1:aO X.K H r x vs)(v2:aO X.K H r y ws)(p1:Vals vs us)(p2:Vals ws zs)
  (ih:∀ a b va vb u w k,RV X.K H r a va→RV X.K H r b vb→RelV va u→RelV vb w→f a b=some k→tX A s u w k) (hl:x.length=y.length) (e:Ev.cJ f x y=some k) :
  ∃ e':Nat→Bool,(∀ j (h1:j<us.toArray.size) (h2:j<zs.toArray.size),EqAt A s us.toArray[j] zs.toArray[j] (e' j))∧(List.range us.toArray.size).all e'=k∧us.length=zs.length:=by
 obtain ⟨e',h1,h2⟩:=xo e hl
 have l1:=v1.length
 have l2:=v2.length
 have l3:=p1.length
 have l4:=p2.length
 refine ⟨e',fun j g1 g2=>?_,?_,by omega⟩
 ·have Z2:j<us.length:=by simpa using g1
  have Z3:j<zs.length:=by simpa using g2
  have ha:x[j]?=some x[j]:=List.getElem?_eq_getElem (by omega)
  have hb:y[j]?=some y[j]:=List.getElem?_eq_getElem (by omega)
  obtain ⟨va,a1,a2⟩:=v1.get ha
  obtain ⟨vb,b1,b2⟩:=v2.get hb
  obtain ⟨u,a3,a4⟩:=p1.get a1
  obtain ⟨w,b3,b4⟩:=p2.get b1
  have eu:us.toArray[j]=u:=by
   have:=(List.getElem?_eq_some_iff.mp a3).2
   simpa using this
  have ew:zs.toArray[j]=w:=by
   have:=(List.getElem?_eq_some_iff.mp b3).2
   simpa using this
  rw [eu,ew]
  exact (ih _ _ _ _ _ _ _ a2 b2 a4 b4 (h1 j _ _ ha hb)).eq
 ·rw [←h2]
  have:us.toArray.size=x.length:=by simp;omega
  rw [this]
noncomputable def fz (K:PySem.W.Frag) (H:Hp) (r:List Addr):D→V→Prop
 | .bB,v=>v=.bB
 | .bl b,v=>v=.bl b
 | .int i,v=>v=.int i
 | .str l,v=>v=.str (aX l)
 | .ref n,v=>∃ a,v=.ref a∧r[n]?=some a
 | .tup ds,v=>∃ a vs,v=.ref a∧dI K H a vs∧aO K H r ds vs
theorem RV.shape {d:D}{v:V}(h:RV X.K H r d v):fz X.K H r d v:=by
 cases d <;> simp only [RV] at h <;> simp only [fz] <;> first | exact h | exact h.1
theorem IA {a b:List Nat}:(aX a==aX b)=(a==b):=by
 by_cases e:a=b
 ·subst e;simp
 ·have e1:(aX a==aX b)=false:=beq_eq_false_iff_ne.mpr fun z=>e (qp z)
  have e2:(a==b)=false:=beq_eq_false_iff_ne.mpr e
  rw [e1,e2]
theorem oq {n:Nat}{A:Around}{x y:List D}{a b:Addr}{vs ws:List V}{k:Bool}(I:Inv X pins σ H s)(hu:A.units<cLine)(q1:dZ X.K H a vs)(q2:dZ X.K H b ws)(v1:aO X.K H r x vs)(v2:aO X.K H r y ws)(hab:a≠b)
  (ih:∀ a b va vb u w k,RV X.K H r a va→RV X.K H r b vb→RelV va u→RelV vb w→Ev.gF h n a b=some k→tX A.in1 s u w k) (e:Ev.cJ (Ev.gF h n) x y=some k):tX A s (.ref a) (.ref b) k:=by
 obtain ⟨us,p1,nM,_⟩:=I.list q1
 obtain ⟨zs,p2,nN,_⟩:=I.list q2
 by_cases hl:x.length=y.length
 ·obtain ⟨e',h1,h2,h3⟩:=rR v1 v2 p1 p2 ih hl e
  have hs:us.toArray.size=zs.toArray.size:=by simpa using h3
  have rc:=RcAt.lists nM.isList nN.isList hs hu h1
  have ne:=RcNeAt.lists nM.isList nN.isList hs hu h1
  rw [h2] at rc ne
  exact ⟨.of_refs hab rc,rc,ne⟩
 ·have hk:=qv hl e
  subst hk
  have hs:(us.toArray.size != zs.toArray.size)=true:=by
   have l1:=v1.length
   have l2:=v2.length
   have l3:=p1.length
   have l4:=p2.length
   simp only [List.size_toArray,bne_iff_ne,ne_eq]
   omega
  exact ⟨.of_refs hab (.lists_lengths nM.isList nN.isList hs hu),.lists_lengths nM.isList nN.isList hs hu,.lists_lengths nM.isList nN.isList hs hu⟩
theorem tY (I:Inv X pins σ H s) (hr:HR X.K H r h) {n:Nat}{a:Addr}{ds:List D}(e:Ev.bg h n=some ds) (ha:r[n]?=some a):∃ us:List Value,PlainL s.heap a us.toArray:=by
 obtain ⟨a',vs,e1,e2,e3⟩:=hr.read e
 rw [ha] at e1;cases e1
 obtain ⟨us,_,pl,_⟩:=I.list e2
 exact ⟨us,pl⟩
theorem AG (I:Inv X pins σ H s) (hr:HR X.K H r h):∀ (n:Nat) (a b:D) (v:V) (k:Bool),RV X.K H r a v→RV X.K H r b v→Ev.gF h n a b=some k→k=true:=by
 intro n
 induction n with
 | zero=>intro a b v k _ _ e;cases e
 | succ n ih=>
  have items:∀ (x y:List D) (vs:List V) (k:Bool),aO X.K H r x vs→aO X.K H r y vs→Ev.cJ (Ev.gF h n) x y=some k→k=true:=by
   intro x
   induction x with
   | nil=>
    intro y vs k h1 h2 e
    simp only [aO] at h1
    subst h1
    cases y with
    | nil=>cases e;rfl
    | cons _ _=>simp only [aO] at h2;obtain ⟨_,_,h2,_⟩:=h2;cases h2
   | cons d x Z4=>
    intro y vs k h1 h2 e
    simp only [aO] at h1
    obtain ⟨v,w,rfl,h3,h4⟩:=h1
    cases y with
    | nil=>simp only [aO] at h2;cases h2
    | cons d' y=>
     simp only [aO] at h2
     obtain ⟨v',w',e2,h5,h6⟩:=h2
     cases e2
     simp only [Ev.cJ,Option.bind_eq_bind,Option.bind_eq_some_iff] at e
     obtain ⟨p,e1,q,e2,e3⟩:=e
     cases e3
     rw [ih d d' v p h3 h5 e1,Z4 y w q h4 h6 e2]
     rfl
  have lt:∀ (a:Addr) (vs:List V) (i:Nat) (ds:List D),dI X.K H a vs→r[i]?=some a→Ev.bg h i=some ds→False:=fun a vs i ds h1 h2 h3=>by
   obtain ⟨us,pl⟩:=tY I hr h3 h2
   obtain ⟨zs,_,pt,_⟩:=I.tuple h1
   exact ne_of_list_tuple pl.isList pt rfl
  intro a b v k h1 h2 e
  have s1:=h1.shape
  have s2:=h2.shape
  clear h1 h2
  cases a with
  | bB=>cases e
  | bl _=>cases e
  | int x=>simp only [fz] at s1;cases b with
   | int y=>simp only [fz] at s2;rw [s1] at s2;cases s2;cases e;simp
   | ref m=>obtain ⟨p,z,_⟩:=s2;rw [s1] at z;cases z
   | tup y=>obtain ⟨p,_,z,_⟩:=s2;rw [s1] at z;cases z
   | _=>simp only [fz] at s2;rw [s1] at s2;cases s2
  | str x=>simp only [fz] at s1;cases b with
   | str y=>
    simp only [fz] at s2
    rw [s1] at s2
    have:x=y:=qp (by injection s2)
    subst this
    cases e;simp
   | ref m=>obtain ⟨p,z,_⟩:=s2;rw [s1] at z;cases z
   | tup y=>obtain ⟨p,_,z,_⟩:=s2;rw [s1] at z;cases z
   | _=>simp only [fz] at s2;rw [s1] at s2;cases s2
  | tup x=>
   obtain ⟨p,vs,rfl,z,w⟩:=s1
   cases b with
   | tup y=>
    obtain ⟨p',vs',z',z2,w2⟩:=s2
    cases z'
    rw [I.lT z2 z] at w2
    exact items x y vs k w w2 e
   | ref m=>
    obtain ⟨p',z',z2⟩:=s2
    cases z'
    obtain ⟨ds,e1,_⟩:=Option.map_eq_some_iff.mp e
    exact (lt _ _ _ _ z z2 e1).elim
   | _=>cases s2
  | ref i=>
   obtain ⟨p,rfl,z⟩:=s1
   cases b with
   | ref m=>
    obtain ⟨p',z',z2⟩:=s2
    cases z'
    replace e:Ev.jF h (Ev.gF h n) i m=some k:=e
    unfold Ev.jF at e
    split at e
    ·simp only [Option.map_eq_some_iff] at e
     obtain ⟨_,_,e⟩:=e
     exact e.symm
    ·rename_i hne
     split at e
     ·rename_i x y g1 g2
      exact absurd (hr.inj _ _ _ _ _ z z2 g1 g2) hne
     ·rename_i x y g1 g2
      obtain ⟨p1,q1,Ft,q2,_⟩:=hr.ob _ _ g1
      obtain ⟨p2,q3,Fv,q4,_⟩:=hr.ob _ _ g2
      rw [z] at q1;cases q1
      rw [z2] at q3;cases q3
      exact absurd rfl (m6 I q2 q4)
     ·rename_i x y g1 g2
      obtain ⟨p1,q1,Ft,q2,_⟩:=hr.ob _ _ g1
      obtain ⟨p2,q3,Fv,q4,_⟩:=hr.ob _ _ g2
      rw [z] at q1;cases q1
      rw [z2] at q3;cases q3
      exact absurd rfl (m6 I q4 q2)
     ·cases e
   | tup y=>
    obtain ⟨p',vs',z',z2,w2⟩:=s2
    cases z'
    obtain ⟨ds,e1,_⟩:=Option.map_eq_some_iff.mp e
    exact (lt _ _ _ _ z2 z e1).elim
   | _=>cases s2
theorem IB {n:Nat}{A:Around}{x y:List D}{a b:Addr}{vs ws:List V}{k:Bool}(I:Inv X pins σ H s)(hr:HR X.K H r h)(hu:A.units<cLine)(q1:dI X.K H a vs)(q2:dI X.K H b ws)(v1:aO X.K H r x vs)(v2:aO X.K H r y ws)
  (ih:∀ a b va vb u w k,RV X.K H r a va→RV X.K H r b vb→RelV va u→RelV vb w→Ev.gF h n a b=some k→tX A.in1 s u w k) (e:Ev.cJ (Ev.gF h n) x y=some k):tX A s (.ref a) (.ref b) k:=by
 obtain ⟨us,p1,nM,_⟩:=I.tuple q1
 obtain ⟨zs,p2,nN,_⟩:=I.tuple q2
 have l1:=v1.length
 have l2:=v2.length
 have l3:=p1.length
 have l4:=p2.length
 have both:RcAt A s (.ref a) (.ref b) k∧RcNeAt A s (.ref a) (.ref b) (!k):=by
  by_cases hl:x.length=y.length
  ·obtain ⟨e',h1,h2,h3⟩:=rR v1 v2 p1 p2 ih hl e
   have rc:=RcAt.tuples nM nN hu h1
   have ne:=RcNeAt.tuples nM nN hu h1
   have hs:us.toArray.size=zs.toArray.size:=by simpa using h3
   have hb:((List.range (min us.toArray.size zs.toArray.size)).all e'&&us.toArray.size==zs.toArray.size)=k:=by
    rw [←hs,Nat.min_self,h2];simp
   rw [hb] at rc ne
   exact ⟨rc,ne⟩
  ·have hk:=qv hl e
   subst hk
   have hcl:∃ e':Nat→Bool,∀ j (h1:j<us.toArray.size) (h2:j<zs.toArray.size),EqAt A.in1 s us.toArray[j] zs.toArray[j] (e' j):=by
    obtain ⟨e',h1⟩:=xq e
    refine ⟨e',fun j g1 g2=>?_⟩
    have Z2:j<us.length:=by simpa using g1
    have Z3:j<zs.length:=by simpa using g2
    have ha:x[j]?=some x[j]:=List.getElem?_eq_getElem (by omega)
    have hb:y[j]?=some y[j]:=List.getElem?_eq_getElem (by omega)
    obtain ⟨va,a1,a2⟩:=v1.get ha
    obtain ⟨vb,b1,b2⟩:=v2.get hb
    obtain ⟨u,a3,a4⟩:=p1.get a1
    obtain ⟨w,b3,b4⟩:=p2.get b1
    have eu:us.toArray[j]=u:=by
     have:=(List.getElem?_eq_some_iff.mp a3).2
     simpa using this
    have ew:zs.toArray[j]=w:=by
     have:=(List.getElem?_eq_some_iff.mp b3).2
     simpa using this
    rw [eu,ew]
    exact (ih _ _ _ _ _ _ _ a2 b2 a4 b4 (h1 j _ _ ha hb)).eq
   obtain ⟨e',h1⟩:=hcl
   have rc:=RcAt.tuples nM nN hu h1
   have ne:=RcNeAt.tuples nM nN hu h1
   have hs:(us.toArray.size==zs.toArray.size)=false:=by
    simp only [List.size_toArray,beq_eq_false_iff_ne,ne_eq];omega
   rw [hs,Bool.and_false] at rc ne
   exact ⟨rc,ne⟩
 by_cases hab:a=b
 ·subst hab
  rw [I.lT q2 q1] at v2
  have hk:k=true:=AG I hr (n+1) (.tup x) (.tup y) (.ref a) k ⟨a,vs,rfl,q1,v1⟩ ⟨a,vs,rfl,q1,v2⟩ e
  subst hk
  exact ⟨.same _,both.1,both.2⟩
 ·exact ⟨.of_refs hab both.1,both.1,both.2⟩
end
end Sm
set_option maxRecDepth 100000
namespace Sm
open PySem PySem.Spec PyProof.Rows L2 PySem.SeqAt
open Ev (D O Hh Fr R aW E Es Eo T S Ss Fl Src cz b7 TY BI ME)
section
variable {X:Cx}{pins:List (Addr×Obj)}{σ:L2.St}{H:Hp}{s:Shared}{r:List Addr}{h:Hh}
theorem yO (I:Inv X pins σ H s) (hr:HR X.K H r h):∀ (n:Nat) (A:Around) (a b:D) (va vb:V) (u w:Value) (k:Bool),A.units+n<cLine→RV X.K H r a va→RV X.K H r b vb→RelV va u→RelV vb w→Ev.gF h n a b=some k→tX A s u w k:=by
 intro n
 induction n with
 | zero=>intro A a b va vb u w k _ _ _ _ _ e;cases e
 | succ n ih=>
  intro A a b va vb u w k hu h1 h2 r1 r2 e
  have dD:A.units<cLine:=by omega
  have ih':∀ a b va vb u w k,RV X.K H r a va→RV X.K H r b vb→RelV va u→RelV vb w→Ev.gF h n a b=some k→tX A.in1 s u w k:=fun a b va vb u w k=>ih A.in1 a b va vb u w k (by show A.units+1+n<cLine;omega)
  have s1:=h1.shape
  have s2:=h2.shape
  have lst:∀ {i:Nat} {v:V} {u:Value} {ds:List D},fz X.K H r (.ref i) v→RelV v u→Ev.bg h i=some ds→∃ p us,u=.ref p∧PlainL s.heap p (List.toArray us):=fun {i v u ds} hv ru el=>by
   obtain ⟨p,rfl,z⟩:=hv
   cases ru
   obtain ⟨us,pl⟩:=tY I hr el z
   exact ⟨p,us,rfl,pl⟩
  have tup:∀ {ds:List D} {v:V} {u:Value},fz X.K H r (.tup ds) v→RelV v u→∃ p us,u=.ref p∧s.heap.IsTuple p (List.toArray us):=fun {ds v u} hv ru=>by
   obtain ⟨p,vs,rfl,z,_⟩:=hv
   cases ru
   obtain ⟨us,_,pt,_⟩:=I.tuple z
   exact ⟨p,us,rfl,pt⟩
  cases a with
  | bB=>cases e
  | bl _=>cases e
  | int x=>
   simp only [fz] at s1;subst s1;obtain ⟨t0,rfl⟩:=r1
   cases b with
   | bB=>cases e
   | bl _=>cases e
   | int y=>simp only [fz] at s2;subst s2;obtain ⟨t,rfl⟩:=r2;cases e;exact ⟨.int_int _ _ _ _,.int_int _ _ _ _,.int_int _ _ _ _⟩
   | str y=>simp only [fz] at s2;subst s2;obtain ⟨t,rfl⟩:=r2;cases e;exact ⟨.int_str _ _ _ _,.int_str _ _ _ _,.int_str _ _ _ _⟩
   | tup y=>obtain ⟨p,us,rfl,pt⟩:=tup s2 r2;cases e;exact ⟨.int_tuple _ _ pt dD,.int_tuple _ _ pt dD,.int_tuple _ _ pt dD⟩
   | ref m=>
    obtain ⟨ds,e1,rfl⟩:=Option.map_eq_some_iff.mp e
    obtain ⟨p,us,rfl,pl⟩:=lst s2 r2 e1
    exact ⟨.int_list _ _ pl.isList dD,.int_list _ _ pl.isList dD,.int_list _ _ pl.isList dD⟩
  | str x=>
   simp only [fz] at s1;subst s1;obtain ⟨t0,rfl⟩:=r1
   cases b with
   | bB=>cases e
   | bl _=>cases e
   | int y=>simp only [fz] at s2;subst s2;obtain ⟨t,rfl⟩:=r2;cases e;exact ⟨.str_int _ _ _ _,.str_int _ _ _ _,.str_int _ _ _ _⟩
   | str y=>
    simp only [fz] at s2;subst s2;obtain ⟨t,rfl⟩:=r2
    cases e
    rw [←IA]
    exact ⟨.str_str _ _ _ _,.str_str _ _ _ _,.str_str _ _ _ _⟩
   | tup y=>obtain ⟨p,us,rfl,pt⟩:=tup s2 r2;cases e;exact ⟨.str_tuple _ _ pt dD,.str_tuple _ _ pt dD,.str_tuple _ _ pt dD⟩
   | ref m=>
    obtain ⟨ds,e1,rfl⟩:=Option.map_eq_some_iff.mp e
    obtain ⟨p,us,rfl,pl⟩:=lst s2 r2 e1
    exact ⟨.str_list _ _ pl.isList dD,.str_list _ _ pl.isList dD,.str_list _ _ pl.isList dD⟩
  | tup x=>
   cases b with
   | tup y=>
    obtain ⟨p,vs,rfl,z,w1⟩:=s1
    obtain ⟨p',vs',rfl,z',w2⟩:=s2
    cases r1;cases r2
    exact IB I hr dD z z' w1 w2 ih' e
   | bB=>cases e
   | bl _=>cases e
   | int y=>obtain ⟨p,us,rfl,pt⟩:=tup s1 r1;simp only [fz] at s2;subst s2;obtain ⟨t,rfl⟩:=r2;cases e;exact ⟨.tuple_int _ _ pt dD,.tuple_int _ _ pt dD,.tuple_int _ _ pt dD⟩
   | str y=>obtain ⟨p,us,rfl,pt⟩:=tup s1 r1;simp only [fz] at s2;subst s2;obtain ⟨t,rfl⟩:=r2;cases e;exact ⟨.tuple_str _ _ pt dD,.tuple_str _ _ pt dD,.tuple_str _ _ pt dD⟩
   | ref m=>
    obtain ⟨p,us,rfl,pt⟩:=tup s1 r1
    obtain ⟨ds,e1,rfl⟩:=Option.map_eq_some_iff.mp e
    obtain ⟨p',us',rfl,pl⟩:=lst s2 r2 e1
    exact ⟨.tuple_list pt pl.isList dD,.tuple_list pt pl.isList dD,.tuple_list pt pl.isList dD⟩
  | ref i=>
   cases b with
   | ref m=>
    replace e:Ev.jF h (Ev.gF h n) i m=some k:=e
    unfold Ev.jF at e
    split at e
    ·rename_i Z5
     subst Z5
     simp only [Option.map_eq_some_iff] at e
     obtain ⟨ds,e1,rfl⟩:=e
     obtain ⟨p,us,rfl,pl⟩:=lst s1 r1 e1
     obtain ⟨p0,rfl,z⟩:=s1
     obtain ⟨p1,rfl,z'⟩:=s2
     rw [z] at z';cases z'
     cases r1;cases r2
     have q:(List.range (List.toArray us).size).all (fun _=>true)=true:=by simp
     have rc:=RcAt.lists (A:=A) (e:=fun _=>true) pl.isList pl.isList rfl dD fun j _ _=>EqAt.same _
     have ne:=RcNeAt.lists (A:=A) (e:=fun _=>true) pl.isList pl.isList rfl dD fun j _ _=>EqAt.same _
     rw [q] at rc ne
     exact ⟨.same _,rc,ne⟩
    ·rename_i hne
     obtain ⟨p0,rfl,z⟩:=s1
     obtain ⟨p1,rfl,z'⟩:=s2
     cases r1;cases r2
     split at e
     ·rename_i x y g1 g2
      obtain ⟨q0,q1,Ft,q2,q3⟩:=hr.ob _ _ g1
      obtain ⟨q4,q5,Fv,q6,q7⟩:=hr.ob _ _ g2
      rw [z] at q1;cases q1
      rw [z'] at q5;cases q5
      exact oq I dD (.of q2) (.of q6) q3 q7 (fun w=>hne (hr.inj _ _ _ _ _ z (by rw [w];exact z') g1 g2)) ih' e
     ·rename_i x y g1 g2
      obtain ⟨q0,q1,Ft,q2,q3⟩:=hr.ob _ _ g1
      obtain ⟨q4,q5,Fv,q6,q7⟩:=hr.ob _ _ g2
      rw [z] at q1;cases q1
      rw [z'] at q5;cases q5
      exact oq I dD (Fw q2) (.of q6) q3 q7 (m6 I q2 q6) ih' e
     ·rename_i x y g1 g2
      obtain ⟨q0,q1,Ft,q2,q3⟩:=hr.ob _ _ g1
      obtain ⟨q4,q5,Fv,q6,q7⟩:=hr.ob _ _ g2
      rw [z] at q1;cases q1
      rw [z'] at q5;cases q5
      exact oq I dD (.of q2) (Fw q6) q3 q7 (m6 I q6 q2).symm ih' e
     ·cases e
   | bB=>cases e
   | bl _=>cases e
   | int y=>obtain ⟨ds,e1,rfl⟩:=Option.map_eq_some_iff.mp e;obtain ⟨p,us,rfl,pl⟩:=lst s1 r1 e1;simp only [fz] at s2;subst s2;obtain ⟨t,rfl⟩:=r2;exact ⟨.list_int _ _ pl.isList dD,.list_int _ _ pl.isList dD,.list_int _ _ pl.isList dD⟩
   | str y=>obtain ⟨ds,e1,rfl⟩:=Option.map_eq_some_iff.mp e;obtain ⟨p,us,rfl,pl⟩:=lst s1 r1 e1;simp only [fz] at s2;subst s2;obtain ⟨t,rfl⟩:=r2;exact ⟨.list_str _ _ pl.isList dD,.list_str _ _ pl.isList dD,.list_str _ _ pl.isList dD⟩
   | tup y=>
    obtain ⟨ds,e1,rfl⟩:=Option.map_eq_some_iff.mp e
    obtain ⟨p,us,rfl,pl⟩:=lst s1 r1 e1
    obtain ⟨p',us',rfl,pt⟩:=tup s2 r2
    exact ⟨.list_tuple pl.isList pt dD,.list_tuple pl.isList pt dD,.list_tuple pl.isList pt dD⟩
where
 Fw {K:PySem.W.Frag} {H:Hp} {a:Addr} {vs:List V} (q:yD K H a vs):dZ K H a vs:=by
  rcases q with ⟨ob,e2⟩ | e2
  ·exact .inl (.inr ⟨ob,e2⟩)
  ·exact .inr e2
end
theorem Good.units {G:Tb}{n:Nat}{sc:Scope}{N:List Str}{df:Bool}{X:Cx}(g:Good G n sc N df X):X.A.units+1+Ev.deep<cLine:=by
 have:=g.room.un
 have:Ev.deep=20:=rfl
 omega
section
variable {G:Tb}{n:Nat}{sc:Scope}{N:List Str}{df:Bool}{X:Cx}
theorem qw {pins:List (Addr×Obj)}{σ:L2.St}{H:Hp}{s:Shared}{Q:VK}{r:List Addr}{h:Hh}{k:Bool}(I:Inv X pins σ H s) (hr:HR X.K H r h) (q:Res X.K r H h (.bl k) Q):EP X pins σ Q (.bool k) s:=
 ⟨.bl k,H,I,rfl,q.here rfl hr⟩
theorem Fx (g:Good G n sc N df X):d7 X (compareOp .Eq) (iM X.K (iz .eq)):=by
 intro pins s σ H x y v u Q I rx ry q
 obtain ⟨r,h,a,b,d,h',hr,v1,v2,e,q⟩:=q
 obtain ⟨k,e1,rfl,rfl⟩:=ku e
 have:=g.units
 exact (yO I hr Ev.deep X.A a b x y v u k (by omega) v1 v2 rx ry e1).rc _ _ _ _ (qw I hr q)
theorem RZ (g:Good G n sc N df X):d7 X (compareOp .NotEq) (iM X.K (iz .ne)):=by
 intro pins s σ H x y v u Q I rx ry q
 obtain ⟨r,h,a,b,d,h',hr,v1,v2,e,q⟩:=q
 obtain ⟨k,e1,rfl,rfl⟩:=ku e
 have:=g.units
 delta Ev.cop at e1;dsimp only at e1;simp only [Option.map_eq_some_iff] at e1
 obtain ⟨k',e2,rfl⟩:=e1
 exact (yO I hr Ev.deep X.A a b x y v u k' (by omega) v1 v2 rx ry e2).ne _ _ _ _ (qw I hr q)
theorem AH {op:CmpOp}{o:b7}{p:Int→Int→Bool}(ho:d7 X (compareOp op) (tE fun i j=>.bl (p i j))) (hc:∀ a b h k,Ev.cop o a b h=some k→∃ i j,a=.int i∧b=.int j∧k=p i j):d7 X (compareOp op) (iM X.K (iz o)):=by
 intro pins s σ H x y v u Q I rx ry q
 obtain ⟨r,h,a,b,d,h',hr,v1,v2,e,q⟩:=q
 obtain ⟨k,e1,rfl,rfl⟩:=ku e
 obtain ⟨i,j,rfl,rfl,rfl⟩:=hc _ _ _ _ e1
 exact ho pins s σ H x y v u Q I rx ry ⟨i,j,v1,v2,q.here rfl hr⟩
theorem R0:d7 X (compareOp .Lt) (iM X.K (iz .lt)):=AH Ry fun a b h k e=>by
 cases a <;> cases b <;> (delta Ev.cop at e;dsimp only at e) <;> first | (cases e;exact ⟨_,_,rfl,rfl,rfl⟩) | cases e
theorem Fy:d7 X (compareOp .Gt) (iM X.K (iz .gt)):=AH Rz fun a b h k e=>by
 cases a <;> cases b <;> (delta Ev.cop at e;dsimp only at e) <;> first | (cases e;exact ⟨_,_,rfl,rfl,rfl⟩) | cases e
end
end Sm
set_option maxRecDepth 100000
namespace Sm
open PySem PySem.Spec PyProof.Rows L2 PySem.SeqAt
open Ev (D O Hh Fr R aW E Es Eo T S Ss Fl Src cz b7 TY BI ME)
theorem xr {h:Hh}{x:D}:∀ {ys:List D}{k:Bool},Ev.mem h x ys=some k→∃ e:Nat→Bool,(∀ (j:Nat) y,ys[j]?=some y→Ev.gF h Ev.deep y x=some (e j))∧(List.range ys.length).any e=k
 | [],_,e=>⟨fun _=>true,(fun j y h=>by simp at h),by cases e;simp⟩
 | y :: ys,k,e=>by
  simp only [Ev.mem,Option.bind_eq_bind,Option.bind_eq_some_iff] at e
  obtain ⟨p,e1,q,e2,e3⟩:=e
  cases e3
  obtain ⟨e,h1,h2⟩:=xr e2
  refine ⟨fun j=>match j with | 0=>p | j+1=>e j,fun j y' g=>?_,?_⟩
  ·cases j with
   | zero=>simp at g;subst g;exact e1
   | succ j=>exact h1 j y' (by simpa using g)
  ·rw [List.length_cons,List.range_succ_eq_map,List.any_cons,List.any_map,←h2]
   rfl
section
variable {X:Cx}{pins:List (Addr×Obj)}{σ:L2.St}{H:Hp}{s:Shared}{r:List Addr}{h:Hh}
open Classical in
theorem xu (I:Inv X pins σ H s) (hr:HR X.K H r h) {A:Around}(hu:A.units+1+Ev.deep<cLine) {x:D}{vx:V}{ux:Value}(v1:RV X.K H r x vx) (rx:RelV vx ux) {ys:List D}{vs:List V}{us:List Value}(v2:aO X.K H r ys vs) (p2:Vals vs us) {k:Bool}(e:Ev.mem h x ys=some k) :
  ∃ f:Value→Bool,(∀ y,y∈us.toArray→EqAt A.in1 s y ux (f y))∧us.toArray.any f=k:=by
 obtain ⟨e',h1,h2⟩:=xr e
 have l1:=v2.length
 have l2:=p2.length
 have at':∀ (j:Nat) (hj:j<us.length),EqAt A.in1 s us[j] ux (e' j):=fun j hj=>by
  have ha:ys[j]?=some ys[j]:=List.getElem?_eq_getElem (by omega)
  obtain ⟨va,a1,a2⟩:=v2.get ha
  obtain ⟨u,a3,a4⟩:=p2.get a1
  have eu:us[j]=u:=(List.getElem?_eq_some_iff.mp a3).2
  rw [eu]
  exact (yO I hr Ev.deep A.in1 _ _ _ _ _ _ _ (by show A.units+1+Ev.deep<cLine;exact hu) a2 v1 a4 rx (h1 j _ ha)).eq
 refine ⟨fun y=>decide (∃ j,∃ hj:j<us.length,us[j]=y∧e' j=true),fun y hy=>?_,?_⟩
 ·by_cases hx:∃ j,∃ hj:j<us.length,us[j]=y∧e' j=true
  ·obtain ⟨j,hj,rfl,ej⟩:=hx
   have q:=at' j hj
   rw [ej] at q
   have:decide (∃ j',∃ hj':j'<us.length,us[j']=us[j]∧e' j'=true)=true:=decide_eq_true ⟨j,hj,rfl,ej⟩
   show EqAt A.in1 s us[j] ux (decide (∃ j',∃ hj':j'<us.length,us[j']=us[j]∧e' j'=true))
   rw [this]
   exact q
  ·show EqAt A.in1 s y ux (decide (∃ j',∃ hj':j'<us.length,us[j']=y∧e' j'=true))
   rw [decide_eq_false hx]
   have hy':y∈us:=by simpa using hy
   obtain ⟨j,hj,rfl⟩:=List.getElem_of_mem hy'
   have q:=at' j hj
   have:e' j=false:=by
    cases z:e' j with
    | false=>rfl
    | true=>exact absurd ⟨j,hj,rfl,z⟩ hx
   rw [this] at q
   exact q
 ·rw [←h2,Bool.eq_iff_iff,Array.any_eq_true',List.any_eq_true]
  constructor
  ·rintro ⟨y,hy,hd⟩
   obtain ⟨j,hj,_,ej⟩:=of_decide_eq_true hd
   exact ⟨j,List.mem_range.mpr (by omega),ej⟩
  ·rintro ⟨j,hj,ej⟩
   have hj':j<us.length:=by have:=List.mem_range.mp hj;omega
   exact ⟨us[j],by simp,decide_eq_true ⟨j,hj',rfl,ej⟩⟩
end
section
variable {G:Tb}{n:Nat}{sc:Scope}{N:List Str}{df:Bool}{X:Cx}
theorem in_of (g:Good G n sc N df X) {pins:List (Addr×Obj)}{σ:L2.St}{H:Hp}{s:Shared}{r:List Addr}{h:Hh}(I:Inv X pins σ H s) (hr:HR X.K H r h) {a b:D}{x y:V}{v u:Value}{k:Bool}(v1:RV X.K H r a x) (v2:RV X.K H r b y) (rx:RelV x v) (ry:RelV y u) (e:Ev.isin a b h=some k) :
  (∀ Q:Value→Shared→Prop,∀ E:Value→Shared→Prop,Q (.bool k) s→wpAny (model X.prog X.w) X.A (compareOp .In v u) Q E s)∧(∀ Q:Value→Shared→Prop,∀ E:Value→Shared→Prop,Q (.bool (!k)) s→wpAny (model X.prog X.w) X.A (compareOp .NotIn v u) Q E s):=by
 have hu:=g.units
 cases b with
 | str l=>
  cases a with
  | str c=>
   have s1:=v1.shape
   have s2:=v2.shape
   simp only [fz] at s1 s2
   subst s1 s2
   obtain ⟨t,rfl⟩:=rx
   obtain ⟨t',rfl⟩:=ry
   match c,e with
   | [c],e=>
    cases e
    have q:(!(Builtin.Str.occurrences (aX l) (aX [c]) 0 (aX l).length 1).isEmpty)=l.contains c:=by
     have:=PySem.StrLaws.found_one (aX l) c
     rw [show (aX [c])=⟨#[c]⟩ from rfl,this,Bool.eq_iff_iff]
     have e1:l.contains c=true↔c∈l:=by simp
     rw [e1]
     exact ⟨fun z=>by simpa [aX] using of_decide_eq_true z,fun z=>decide_eq_true (by simpa [aX] using z)⟩
    refine ⟨fun Q E hq=>in_str (by rw [q];exact hq),fun Q E hq=>notIn_str (by rw [q];exact hq)⟩
   | [],e=>cases e
   | _ :: _ :: _,e=>cases e
  | _=>cases e
 | tup ys=>
  obtain ⟨p,vs,rfl,z,w⟩:=v2.shape
  cases ry
  obtain ⟨us,pv,pt,_⟩:=I.tuple z
  obtain ⟨f,f1,f2⟩:=xu I hr hu v1 rx w pv e
  refine ⟨fun Q E hq=>in_tupleAt f pt f1 (by rw [f2];exact hq),fun Q E hq=>notIn_tupleAt f pt f1 (by rw [f2];exact hq)⟩
 | ref i=>
  simp only [Ev.isin,Option.bind_eq_some_iff] at e
  obtain ⟨ds,e1,e2⟩:=e
  obtain ⟨p,rfl,z⟩:=v2.shape
  cases ry
  obtain ⟨p',vs,z',q1,w⟩:=hr.read e1
  rw [z] at z';cases z'
  obtain ⟨us,pv,pl,_⟩:=I.list q1
  obtain ⟨f,f1,f2⟩:=xu I hr hu v1 rx w pv e2
  refine ⟨fun Q E hq=>in_listAt f pl.isList f1 (by rw [f2];exact hq),fun Q E hq=>notIn_listAt f pl.isList f1 (by rw [f2];exact hq)⟩
 | _=>cases e
theorem R1 (g:Good G n sc N df X):d7 X (compareOp .In) (iM X.K (iz .isin)):=by
 intro pins s σ H x y v u Q I rx ry q
 obtain ⟨r,h,a,b,d,h',hr,v1,v2,e,q⟩:=q
 obtain ⟨k,e1,rfl,rfl⟩:=ku e
 exact (in_of g I hr v1 v2 rx ry (show Ev.isin a b h'=some k by cases a <;> cases b <;> exact e1)).1 _ _ (qw I hr q)
theorem qx (a b:List Nat):aX a++aX b=aX (a++b):=by
 show Str.append (aX a) (aX b)=_
 simp [Str.append,aX]
theorem IC {pins:List (Addr×Obj)}{σ:L2.St}{H:Hp}{s:Shared}{Q:Value→Shared→Prop}{E:Value→Shared→Prop}(I:Inv X pins σ H s) {a b:Addr}{ys:List V}(h1:dI X.K H a []) (h2:dI X.K H b ys) (q:Q (.ref b) s):wpAny (model X.prog X.w) X.A (binaryOp .Add (.ref a) (.ref b)) Q E s:=by
 obtain ⟨us,p1,Z6,_⟩:=I.tuple h1
 obtain ⟨zs,p2,Z7,_⟩:=I.tuple h2
 cases p1
 obtain ⟨⟨cls,dd,data,sl⟩,ho,hc,n,hd⟩:=id Z6
 obtain ⟨⟨W9,dd2,data2,sl2⟩,ho2,hc2,n2,hd2⟩:=id Z7
 simp only at hc hd hc2 hd2
 subst hc hd hc2 hd2
 exact concat_meets ⟨_,ho,rfl⟩ ⟨_,ho2,rfl⟩ noFill_tuple_add seq_tuple_add PySem.F.slot_tuple_add PySem.F.entry_tuple_add (PySem.F.args_tuple_add_2 _ _)
  (tuple_addW0 a b _ _ n n2 dd dd2 sl sl2 (by simp)) ⟨ho,ho2,q⟩
theorem LX:d7 X (binaryOp .Add) (iM X.K (Ev.bJ .add)):=by
 intro pins s σ H x y v u Q I rx ry q
 obtain ⟨r,h,a,b,d,h',hr,v1,v2,e,q⟩:=q
 have s1:=v1.shape
 have s2:=v2.shape
 cases a with
 | int i=>cases b with
  | int j=>cases e;exact KO pins s σ H x y v u Q I rx ry ⟨i,j,s1,s2,q.here rfl hr⟩
  | _=>cases e
 | str i=>cases b with
  | str j=>
   delta Ev.bJ at e;dsimp only at e
   split at e
   ·rename_i hz
    cases e
    rw [jG] at hz
    refine yq pins s σ H x y v u Q I rx ry ⟨aX i,aX j,s1,s2,by rw [cX,cX];exact hz,?_⟩
    rw [qx]
    exact q.here ⟨rfl,by rw [List.length_append];exact hz⟩ hr
   ·cases e
  | _=>cases e
 | tup i=>cases b with
  | tup j=>
   delta Ev.bJ at e;dsimp only at e
   split at e
   ·rename_i hz
    cases e
    rw [jG] at hz
    obtain ⟨pa,vs,rfl,z1,w1⟩:=s1
    obtain ⟨pb,ws,rfl,z2,w2⟩:=s2
    have l1:=w1.length
    have l2:=w2.length
    cases vs with
    | nil=>
     cases rx;cases ry
     refine IC I z1 z2 ⟨.ref pb,H,I,rfl,q.here ?_ hr⟩
     have:i=[]:=by cases i with | nil=>rfl | cons _ _=>simp at l1
     subst this
     exact ⟨pb,ws,rfl,z2,by simpa using w2⟩
    | cons v0 vs=>
     refine HZ pins s σ H _ _ v u Q I rx ry ⟨pa,pb,v0 :: vs,ws,rfl,rfl,z1,z2,by simp,by rw [l1,l2];exact hz,fun hw=>?_,fun hw p hp=>?_⟩
     ·subst hw
      have:j=[]:=by cases j with | nil=>rfl | cons _ _=>simp at l2
      subst this
      exact q.here ⟨pa,v0 :: vs,rfl,z1,by simpa using w1⟩ hr
     ·exact q.tup (w1.append w2) hr hp
   ·cases e
  | _=>cases e
 | ref i=>cases b with
  | ref j=>
   delta Ev.bJ at e;dsimp only at e
   split at e
   ·rename_i ds es e1 e2
    obtain ⟨pa,rfl,z1⟩:=s1
    obtain ⟨pb,rfl,z2⟩:=s2
    cases rx;cases ry
    obtain ⟨p1,g1,vs,g2,g3⟩:=hr.ob _ _ e1
    obtain ⟨p2,k1,ws,k2,k3⟩:=hr.ob _ _ e2
    rw [z1] at g1;cases g1
    rw [z2] at k1;cases k1
    obtain ⟨hz,q2⟩:=q.lst e (g3.append k3) hr
    exact La pins s σ H (.ref pa) (.ref pb) _ _ Q I rfl rfl ⟨_,_,vs,ws,rfl,rfl,g2,k2,by rw [List.length_append] at hz;exact hz,q2⟩
   ·cases e
  | _=>cases e
 | _=>cases b <;> cases e
theorem LY:d7 X (binaryOp .Sub) (iM X.K (Ev.bJ .sub)):=by
 intro pins s σ H x y v u Q I rx ry q
 obtain ⟨r,h,a,b,d,h',hr,v1,v2,e,q⟩:=q
 cases a with
 | int i=>cases b with
  | int j=>cases e;exact KP pins s σ H x y v u Q I rx ry ⟨i,j,v1,v2,q.here rfl hr⟩
  | _=>cases e
 | _=>cases b <;> cases e
theorem ID:d7 X (binaryOp .FloorDiv) (iM X.K (Ev.bJ .fdiv)):=by
 intro pins s σ H x y v u Q I rx ry q
 obtain ⟨r,h,a,b,d,h',hr,v1,v2,e,q⟩:=q
 cases a with
 | int i=>cases b with
  | int j=>
   delta Ev.bJ at e;dsimp only at e
   split at e
   ·rename_i hz;cases e;exact HM pins s σ H x y v u Q I rx ry ⟨i,j,v1,v2,hz,q.here rfl hr⟩
   ·cases e
  | _=>cases e
 | _=>cases b <;> cases e
theorem LZ:d7 X (binaryOp .Mod) (iM X.K (Ev.bJ .mod)):=by
 intro pins s σ H x y v u Q I rx ry q
 obtain ⟨r,h,a,b,d,h',hr,v1,v2,e,q⟩:=q
 cases a with
 | int i=>cases b with
  | int j=>
   delta Ev.bJ at e;dsimp only at e
   split at e
   ·rename_i hz;cases e;exact KR pins s σ H x y v u Q I rx ry ⟨i,j,v1,v2,hz,q.here rfl hr⟩
   ·cases e
  | _=>cases e
 | _=>cases b <;> cases e
end
end Sm
set_option maxRecDepth 100000
namespace Sm
open PySem PySem.Spec PyProof.Rows L2 PySem.SeqAt
open Ev (D O Hh Fr R aW E Es Eo T S Ss Fl Src cz b7 TY BI ME)
section
variable {X:Cx}
theorem L0 (n:Nat) (i:Int):Ev.eG n i=L2.eG n i:=rfl
theorem L1 {α:Type}(xs:List α) (i:Int):Ev.b5 xs i=L2.b5 xs i:=rfl
theorem aO.b5 {K:PySem.W.Frag}{H:Hp}{r:List Addr}{ds:List D}{vs:List V}{i:Int}{d:D}(w:aO K H r ds vs) (e:Ev.b5 ds i=some d):∃ v,L2.b5 vs i=some v∧RV K H r d v:=by
 unfold Ev.b5 at e
 obtain ⟨j,e1,e2⟩:=Option.bind_eq_some_iff.mp e
 obtain ⟨v,e3,e4⟩:=w.get e2
 exact ⟨v,by unfold L2.b5;rw [w.length,←L0,e1];exact e3,e4⟩
theorem R3:wR X (iM X.K Lx):=by
 intro value slice pins s σ H x y v u Q I rx ry q hs
 obtain ⟨r,h,a,b,d,h',hr,v1,v2,e,q⟩:=q
 obtain ⟨e,rfl⟩:=Ev.aS e
 cases b with
 | int i=>
  have s2:=v2.shape
  cases a with
  | tup ds=>
   obtain ⟨p,vs,rfl,z,w⟩:=v1.shape
   obtain ⟨v',g1,g2⟩:=w.b5 e
   exact K5 value slice pins s σ H _ y v u Q I rx ry ⟨p,vs,i,v',rfl,s2,z,g1,q.here g2 hr⟩ hs
  | str l=>
   simp only [RV] at v1
   obtain ⟨rfl,hl⟩:=v1
   simp only [Ev.fW,Option.map_eq_some_iff] at e
   obtain ⟨c,e1,rfl⟩:=e
   exact K6 value slice pins s σ H _ y v u Q I rx ry ⟨aX l,i,c,rfl,s2,by rw [cX];exact hl,by simpa [aX,L1] using e1,q.here ⟨rfl,by show 1≤sizeLine;decide⟩ hr⟩ hs
  | ref m=>
   simp only [Ev.fW,Option.bind_eq_some_iff] at e
   obtain ⟨ds,e1,e2⟩:=e
   obtain ⟨p,rfl,z⟩:=v1.shape
   obtain ⟨p',vs,z',q1,w⟩:=hr.read e1
   rw [z] at z';cases z'
   obtain ⟨v',g1,g2⟩:=w.b5 e2
   exact Ib value slice pins s σ H _ y v u Q I rx ry ⟨p,vs,i,v',rfl,s2,q1,g1,q.here g2 hr⟩ hs
  | _=>cases e
 | _=>cases a <;> cases e
theorem aO.cut {K:PySem.W.Frag}{H:Hp}{r:List Addr}{ds:List D}{vs:List V}(w:aO K H r ds vs) (lo hi:Option Int):aO K H r (Ev.cut ds lo hi) (lW vs lo hi):=by
 unfold Ev.cut lW
 rw [w.length]
 exact (w.drop _).take _
theorem rS {α:Type}(xs:List α) (lo hi:Option Int) (h:Ev.aU xs.length 0 lo=0∧Ev.aU xs.length xs.length hi=xs.length):Ev.cut xs lo hi=xs:=by
 unfold Ev.cut
 rw [h.1,h.2]
 simp
theorem IE {α:Type}(xs:List α) (lo hi:Option Int):(Ev.cut xs lo hi).length≤xs.length:=by
 unfold Ev.cut
 rw [List.length_take,List.length_drop]
 omega
theorem sA {prog:Program}{w:World}{A:Around}{E:Value→Shared→Prop}{s:Shared}{t sl:Addr}{items:Array Value}{vl vu:Value}{lo hi:Option Int}{Q:Value→Shared→Prop}(ht:IsTup s.heap t items)(hs:s.heap.IsSliceOf sl vl vu .none)(pl:IsPart vl lo)(pu:IsPart vu hi)
  (hw:HT.aU items.size 0 lo=0∧HT.aU items.size items.size hi=items.size) (h:Q (.ref t) s):wpAny (model prog w) A (getItem (.ref t) (.ref sl)) Q E s:=by
 obtain ⟨os,hos,hcs,hds⟩:=id hs
 have K3:s.TypeIs (.ref sl) "slice" :=⟨os,hos,hcs⟩
 unfold getItem
 try with_reducible refine wpAny_holding ?_
 first | refine wpAny_bind (wpAny_pure ?_) | skip
 refine wpAny_bind (wpAny_sequenceKey ht.typeIs (by decide) ?_)
 refine wpAny_bind (wpAny_callSpecial?_slot (name:=Str.ofString "__getitem__") ht.typeIs PyProof.Rows.slot_tuple_getitem
  (wpAny_call_entry PyProof.Rows.slot_tuple_getitem ht.typeIs entry_tuple_getitem ?_ (args_tuple_getitem _ _)))
 show wpAny _ _ (Builtin.Tuple.tupleItemsOf (.ref t) >>= _) _ _ s
 refine wpAny_bind (tupleItemsOf_ ht ?_)
 refine wpAny_bind (wpAny_typeOf K3 ?_)
 rw [if_pos (by decide)]
 refine wpAny_bind (HT.jE hs pl pu ?_)
 have hyes:(((HT.aU items.size 0 lo:Nat):Int)==0&&(1:Int)==1&&(HT.aU items.size items.size hi - HT.aU items.size 0 lo)==items.size)=true:=by
  rw [hw.1,hw.2];simp
 show wpAny _ _ (if (((HT.aU items.size 0 lo:Nat):Int)==0&&(1:Int)==1&&(HT.aU items.size items.size hi - HT.aU items.size 0 lo)==items.size)=true then _ else _) _ _ s
 rw [if_pos hyes]
 refine wpAny_bind (m:=Builtin.Tuple.tupleIsExact (.ref t)) (wpAny_bind (wpAny_typeOf ht.typeIs (wpAny_pure ?_)))
 show wpAny _ _ (if ((Value.type "tuple" ==Value.type "tuple")=true) then _ else _) _ _ s
 rw [if_pos (by decide)]
 exact wpAny_bind (wpAny_rule (wpAny_bind (wpAny_pure (wpAny_pure ⟨_,rfl,wpAny_pure h⟩))))
theorem AI (lo hi:Option Int) (n:Nat):Builtin.Str.strSliceIndices lo hi 1 n=(List.range (Ev.aU n n hi - Ev.aU n 0 lo)).map (fun k=>Ev.aU n 0 lo+k):=by
 have L3:∀ o:Option Int,((match o with | none=>(0:Int) | some i=>max 0 (min (if i<0 then i+(n:Int) else i) (n:Int))))=((Ev.aU n 0 o:Nat):Int):=fun o=>by
  cases o with
  | none=>rfl
  | some i=>simp only [Ev.aU];split <;> omega
 have L4:∀ o:Option Int,((match o with | none=>(n:Int) | some i=>max 0 (min (if i<0 then i+(n:Int) else i) (n:Int))))=((Ev.aU n n o:Nat):Int):=fun o=>by
  cases o with
  | none=>rfl
  | some i=>simp only [Ev.aU];split <;> omega
 have e:Builtin.Str.strSliceIndices lo hi 1 n=sliceRange (match lo with | none=>(0:Int) | some i=>max 0 (min (if i<0 then i+(n:Int) else i) (n:Int))) (match hi with | none=>(n:Int) | some i=>max 0 (min (if i<0 then i+(n:Int) else i) (n:Int))) 1:=by
  unfold Builtin.Str.strSliceIndices
  cases lo <;> cases hi <;> simp
 rw [e,L3,L4,sliceRange_one]
theorem L5 (l:List Nat) (lo hi:Option Int):((Builtin.Str.strSliceIndices lo hi 1 (aX l).length).filterMap ((aX l).cps[·]?)).toArray=(Ev.cut l lo hi).toArray:=by
 rw [cX,AI,pick_run]
 simp [aX,Ev.cut]
theorem L6:kr X (Li X.K):=by
 intro pins s σ H x v vl vu lo hi sl Q I rx hs pl pu q
 obtain ⟨r,h,a,d,h',hr,v1,e,q⟩:=q
 cases a with
 | tup ds=>
  cases e
  obtain ⟨p,vs,rfl,z,w⟩:=v1.shape
  by_cases hw:HT.aU vs.length 0 lo=0∧HT.aU vs.length vs.length hi=vs.length
  ·cases rx
   obtain ⟨us,pv,pt,hz⟩:=I.tuple z
   have hl:=pv.length
   have Z8:Ev.aU ds.length 0 lo=0∧Ev.aU ds.length ds.length hi=ds.length:=by rw [←w.length];exact hw
   refine ⟨"tuple",_,PyProof.Rows.slot_tuple_getitem.lookup,pt.typeIs,?_⟩
   refine sA pt hs pl pu (by rw [List.size_toArray,←hl];exact hw) ⟨.ref p,H,I,rfl,q.here ?_ hr⟩
   rw [rS ds lo hi Z8]
   exact ⟨p,vs,rfl,z,w⟩
  ·exact K4 pins s σ H _ v vl vu lo hi sl Q I rx hs pl pu ⟨p,vs,rfl,z,hw,fun p' hp=>q.tup (w.cut lo hi) hr hp⟩
 | str l=>
  simp only [RV] at v1
  obtain ⟨rfl,hl⟩:=v1
  obtain ⟨t,rfl⟩:=rx
  cases e
  refine ⟨"str",_,PySem.F.slot_str_getitem.lookup,typeIs_str s _ t,?_⟩
  have part:∀ {v:Value} {o:Option Int},IsPart v o→∃ p:Option (Int×Tok),v=partValue p∧p.map (·.1)=o:=fun {v o} hp=>by
   cases hp with
   | none=>exact ⟨none,rfl,rfl⟩
   | int i t=>exact ⟨some (i,t),rfl,rfl⟩
  obtain ⟨l1,e1,e2⟩:=part pl
  obtain ⟨u1,e3,e4⟩:=part pu
  subst e1 e3
  obtain ⟨os,hos,hcs,hds⟩:=hs
  refine wpAny_getItem_str_slice (l:=l1) (u:=u1) (st:=none) ⟨os,hos,hcs,hds⟩ rfl ?_
  have Fz:((slicePicked (aX l) l1 u1 none).filterMap ((aX l).cps[·]?)).toArray=(Ev.cut l lo hi).toArray:=by
   show ((Builtin.Str.strSliceIndices (l1.map (·.1)) (u1.map (·.1)) 1 (aX l).length).filterMap ((aX l).cps[·]?)).toArray=_
   rw [e2,e4]
   exact L5 l lo hi
  have hcl:=IE l lo hi
  unfold sliceMade
  refine post_val_or_made (fun _=>?_) fun t' k=>?_
  ·rw [Fz]
   show (Ev.cut l lo hi).toArray.size≤sizeLine
   simp only [List.size_toArray]
   omega
  ·have hres:(if (((none:Option (Int×Tok)).map (·.1)).getD 1==1&&(slicePicked (aX l) l1 u1 none).length==(aX l).length)=true then aX l else (⟨((slicePicked (aX l) l1 u1 none).filterMap ((aX l).cps[·]?)).toArray⟩:Str))=aX (Ev.cut l lo hi):=by
    split
    ·rename_i hc
     rw [Bool.and_eq_true] at hc
     have hlen:(slicePicked (aX l) l1 u1 none).length=(aX l).length:=eq_of_beq hc.2
     have hlen2:(slicePicked (aX l) l1 u1 none).length=Ev.aU l.length l.length hi - Ev.aU l.length 0 lo:=by
      show (Builtin.Str.strSliceIndices (l1.map (·.1)) (u1.map (·.1)) 1 (aX l).length).length=_
      rw [e2,e4,AI,cX]
      simp
     rw [cX] at hlen
     have hb:Ev.aU l.length l.length hi≤l.length:=HT.tH _ _ (Nat.le_refl _) hi
     have ha:Ev.aU l.length 0 lo≤l.length:=HT.tH _ _ (Nat.zero_le _) lo
     rw [rS l lo hi ⟨by omega,by omega⟩]
    ·rw [Fz];rfl
   rw [hres]
   exact ⟨.str (aX (Ev.cut l lo hi)),H,I.tok _,⟨_,rfl⟩,q.here ⟨rfl,by omega⟩ hr⟩
 | ref m=>
  simp only [Ev.gw] at e
  split at e
  ·rename_i ds e1
   obtain ⟨p,rfl,z⟩:=v1.shape
   obtain ⟨p',vs,z',q1,w⟩:=hr.read e1
   rw [z] at z';cases z'
   obtain ⟨hz,q2⟩:=q.lst e (w.cut lo hi) hr
   exact Ic pins s σ H _ v vl vu lo hi sl Q I rx hs pl pu ⟨p,vs,rfl,q1,q2⟩
  ·cases e
 | _=>cases e
theorem tZ:∀ (k:Nat) (l:List Nat) (acc:List Nat),(List.replicate k l.toArray).foldl (·++·) acc.toArray=(acc++Ev.rep k l).toArray
 | 0,l,acc=>by simp [Ev.rep]
 | k+1,l,acc=>by
  rw [List.replicate_succ,List.foldl_cons]
  have:acc.toArray++l.toArray=(acc++l).toArray:=by simp
  rw [this,tZ k l (acc++l)]
  simp [Ev.rep,List.replicate_succ]
theorem m7 {α:Type}(k:Nat) (l:List α):(Ev.rep k l).length=k*l.length:=by
 unfold Ev.rep
 exact len_rep l k
theorem IF {l:List Nat}{k:Int}(h:0≤k):Txt.mul (aX l) k=aX (Ev.rep k.toNat l):=by
 unfold Txt.mul
 by_cases h1:k<1
 ·have:k=0:=by omega
  subst this
  rw [if_pos (by decide)]
  rfl
 ·rw [if_neg h1]
  split
  ·rename_i hc
   rw [Bool.or_eq_true] at hc
   rcases hc with hc | hc
   ·have:k=1:=by simpa using hc
    subst this
    simp [Ev.rep]
   ·rw [cX] at hc
    have:l=[]:=by cases l with | nil=>rfl | cons _ _=>simp at hc
    subst this
    simp [Ev.rep,aX]
  ·show (⟨(List.replicate k.toNat (aX l).cps).foldl (·++·) #[]⟩:Str)=_
   have:=tZ k.toNat l []
   simp only [List.nil_append] at this
   exact congrArg Str.mk this
theorem jU {a b:Nat}(h1:a≤1000) (h2:b≤1000):a*b≤sizeLine:=Nat.le_trans (Nat.mul_le_mul h1 h2) (by decide)
theorem IG {pins:List (Addr×Obj)}{σ:L2.St}{H:Hp}{s:Shared}{Q:VK}(I:Inv X pins σ H s) {l:List Nat}{k:Int}{t u:Tok}(hk:0≤k∧k≤1000∧l.length≤1000) (q:Q (.str (aX (Ev.rep k.toNat l))) H) :
  wpAny (model X.prog X.w) X.A (binaryOp .Mult (.str (aX l) t) (.int k u)) (EP X pins σ Q) X.xe s:=by
 have hok:MulOk (aX l) k:=mulOk_of 1000 1000 (by rw [cX];exact hk.2.2) (by exact hk.2.1) (by omega) (by decide) (by decide)
 refine SB.mul hok fun t' k'=>?_
 rw [IF hk.1]
 exact ⟨.str _,H,I.tok _,⟨_,rfl⟩,q⟩
theorem ow:fillsNumberSlot (.type "tuple") "mul" = pure false:=
 PySem.fillsNumberSlot_seq (id:="tuple.__mul__") (r:=some (.builtin "tuple.__rmul__")) PySem.F.slot_tuple_mul.lookup (by decide +kernel) PySem.F.slot_tuple_rmul.lookup (by decide +kernel)
theorem t6:seqRepeat? (.type "tuple")=pure (some (.builtin "tuple.__mul__")):=by
 unfold seqRepeat?
 rw [PySem.seqSlot_of (T:="tuple") (name:="__mul__") (id:="tuple.__mul__") PySem.F.slot_tuple_mul.lookup (by decide +kernel),PySem.seqSlot_of (T:="tuple") (name:="__rmul__") (id:="tuple.__rmul__") PySem.F.slot_tuple_rmul.lookup (by decide +kernel)]
 rfl
theorem yP (a:Int) (t:Tok) (l:Addr) (items:Array Value) (n:Nat) (dd:Option Addr) (sl:Array (Option Value)) :
  Meets (Builtin.«int.__rmul__» ⟨[.int a t,.ref l],[]⟩) (fun _ R s=>s.heap.get? l=some { cls:=.type "tuple",dict:=dd,data:=.seq items n,slots:=sl }∧R (.ok (.ret Value.notImplemented)) s):=
 .of_wp fun prog w A R s h=>by obtain ⟨hp,g,d,tk,os⟩:=s;obtain ⟨hl,h⟩:=h;wp_walk;exact ⟨_,rfl,h⟩
theorem yQ (l:Addr) (items:Array Value) (n:Nat) (dd:Option Addr) (sl:Array (Option Value)) (k:Int) (u:Tok) (h1:¬ (decide (k < -2 ^ 63) || decide (k≥2 ^ 63))=true) (h3:(items.isEmpty || k==1)=true) :
  Meets (Builtin.«tuple.__mul__» ⟨[.ref l,.int k u],[]⟩) (fun _ R s=>s.heap.get? l=some { cls:=.type "tuple",dict:=dd,data:=.seq items n,slots:=sl }∧R (.ok (.ret (.ref l))) s):=
 .of_wp fun prog w A R s h=>by obtain ⟨hp,g,d,tk,os⟩:=s;obtain ⟨hl,h⟩:=h;have f1:=AutoSeq1.idx_int;wp_walk using AutoSeq1.wpAny_loadPart' hl;rw [if_neg h1];wp_walk using AutoSeq1.wpAny_loadPart' hl;exact ⟨_,rfl,h⟩
theorem yR (l:Addr) (items:Array Value) (n:Nat) (dd:Option Addr) (sl:Array (Option Value)) (k:Int) (u:Tok) (h1:¬ (decide (k < -2 ^ 63) || decide (k≥2 ^ 63))=true) (h3:¬ (items.isEmpty || k==1)=true) (h4:(decide (k≤0) || items.isEmpty)=true) :
  Meets (Builtin.«tuple.__mul__» ⟨[.ref l,.int k u],[]⟩) (fun _ R s=>s.heap.get? l=some { cls:=.type "tuple",dict:=dd,data:=.seq items n,slots:=sl }∧R (.ok (.ret (Value.ref s.heap.objs.size))) { s with heap:=s.heap.push { cls:=Value.type "tuple",data:=Data.seq #[]},toks:=s.toks }):=
 .of_wp fun prog w A R s h=>by obtain ⟨hp,g,d,tk,os⟩:=s;obtain ⟨hl,h⟩:=h;have f1:=AutoSeq1.idx_int;wp_walk using AutoSeq1.wpAny_loadPart' hl;rw [if_neg h1];wp_walk using AutoSeq1.wpAny_loadPart' hl;exact ⟨_,rfl,h⟩
theorem yS (l:Addr) (items:Array Value) (n:Nat) (dd:Option Addr) (sl:Array (Option Value)) (k:Int) (u:Tok) (h1:¬ (decide (k < -2 ^ 63) || decide (k≥2 ^ 63))=true) (h3:¬ (items.isEmpty || k==1)=true) (h4:¬ (decide (k≤0) || items.isEmpty)=true)
  (h5:¬ (items.size*k > (2 ^ 63 - 1) / 8)) (h6:¬ Builtin.Tuple.tupleTooMany (items.size*k)=true) (hsz:(List.foldl (fun x1 x2=>x1++x2) #[] (List.replicate k.toNat items)).size≤sizeLine) :
  Meets (Builtin.«tuple.__mul__» ⟨[.ref l,.int k u],[]⟩) (fun _ R s=>s.heap.get? l=some { cls:=.type "tuple",dict:=dd,data:=.seq items n,slots:=sl }∧R (.ok (.ret (Value.ref s.heap.objs.size))) { s with heap:=s.heap.push { cls:=Value.type "tuple",data:=Data.seq (List.foldl (fun x1 x2=>x1++x2) #[] (List.replicate k.toNat items))},toks:=s.toks }):=
 .of_wp fun prog w A R s h=>by obtain ⟨hp,g,d,tk,os⟩:=s;obtain ⟨hl,h⟩:=h;have f1:=AutoSeq1.idx_int;wp_walk using AutoSeq1.wpAny_loadPart' hl;rw [if_neg h1];wp_walk using AutoSeq1.wpAny_loadPart' hl;rw [if_neg h5];wp_walk using AutoSeq1.wpAny_loadPart' hl;exact ⟨_,rfl,h⟩
theorem rT:∀ (k:Nat) (l acc:List Value),(List.replicate k l.toArray).foldl (·++·) acc.toArray=(acc++Ev.rep k l).toArray
 | 0,l,acc=>by simp [Ev.rep]
 | k+1,l,acc=>by
  rw [List.replicate_succ,List.foldl_cons]
  have:acc.toArray++l.toArray=(acc++l).toArray:=by simp
  rw [this,rT k l (acc++l)]
  simp [Ev.rep,List.replicate_succ]
theorem II {pins:List (Addr×Obj)}{σ:L2.St}{H:Hp}{s:Shared}{Q:VK}(I:Inv X pins σ H s) {p:Addr}{vs:List V}{k:Int}{u:Tok}(hk:0≤k∧k≤1000∧vs.length≤1000) (hp:dI X.K H p vs)
  (q1:Ev.rep k.toNat vs=vs→Q (.ref p) H) (q2:∀ p',H p'=none→Q (.ref p') (upd H p' (.tup (Ev.rep k.toNat vs)))) :
  wpAny (model X.prog X.w) X.A (binaryOp .Mult (.ref p) (.int k u)) (EP X pins σ Q) X.xe s:=by
 obtain ⟨us,pv,pt,hz⟩:=I.tuple hp
 obtain ⟨⟨cls,dd,data,sl⟩,ho,hc,n,hd⟩:=id pt
 simp only at hc hd
 subst hc hd
 have hl:=pv.length
 have h1:¬ (decide (k < -2 ^ 63) || decide (k≥2 ^ 63))=true:=by simp;omega
 refine wpAny_binaryOp_repeat_ref (T:="tuple") (U:="int") (by decide) ⟨_,ho,rfl⟩ (fun s'=>typeIs_int s' k u) ow PySem.F.fills_int_mul PySem.F.slot_int_rmul t6 PySem.F.slot_int_index.lookup
  (call_meets PySem.F.slot_int_rmul (typeIs_int s k u) PySem.F.entry_int_rmul (PySem.F.args_int_rmul_2 _ _) (yP k u p us.toArray n dd sl) ⟨ho,rfl,⟨_,ho,rfl⟩,?_⟩)
 have hrep:∀ m:Nat,(Ev.rep m us).length=m*us.length:=fun m=>m7 m us
 by_cases h3:(us.toArray.isEmpty || k==1)=true
 ·refine call_meets PySem.F.slot_tuple_mul ⟨_,ho,rfl⟩ PySem.F.entry_tuple_mul (PySem.F.args_tuple_mul_2 _ _) (yQ p us.toArray n dd sl k u h1 h3) ⟨ho,?_⟩
  refine ⟨.ref p,H,I,rfl,q1 ?_⟩
  rw [Bool.or_eq_true] at h3
  rcases h3 with h3 | h3
  ·have:us=[]:=by simpa using h3
   subst this
   cases pv
   simp [Ev.rep]
  ·have:k=1:=by simpa using h3
   subst this
   simp [Ev.rep]
 ·have laid:∀ m:Nat,m=k.toNat→EP X pins σ Q (.ref s.heap.objs.size) { s with heap:=s.heap.push { cls:=.type "tuple",data:=.seq (Ev.rep m us).toArray }}:=fun m hm=>by
   subst hm
   refine ⟨.ref s.heap.objs.size,_,I.laid (t':=s.toks) (o:=.tup (Ev.rep k.toNat vs)) (fun b ob q=>Heap.get?_push_of_some _ q) (Nat.le_refl _) ?_,rfl,q2 _ (I.hok.fresh (Nat.le_refl _))⟩
   exact ⟨by rw [m7];exact jU (by omega) hk.2.2,_,pv.rep k.toNat,IsTup.new _ _⟩
  by_cases h4:(decide (k≤0) || us.toArray.isEmpty)=true
  ·refine call_meets PySem.F.slot_tuple_mul ⟨_,ho,rfl⟩ PySem.F.entry_tuple_mul (PySem.F.args_tuple_mul_2 _ _) (yR p us.toArray n dd sl k u h1 h3 h4) ⟨ho,?_⟩
   have hk0:k=0:=by
    rw [Bool.or_eq_true] at h4 h3
    rcases h4 with h4 | h4
    ·have:k≤0:=of_decide_eq_true h4
     omega
    ·exact absurd (.inl h4) h3
   have:=laid 0 (by rw [hk0];rfl)
   exact this
  ·have hm:us.toArray.size*k.toNat≤1000000:=by
    rw [List.size_toArray]
    exact Nat.mul_le_mul (by omega:us.length≤1000) (by omega:k.toNat≤1000)
   have hm':(us.toArray.size:Int)*k≤1000000:=by
    have e:(us.toArray.size:Int)*k=((us.toArray.size*k.toNat:Nat):Int):=by
     rw [Int.natCast_mul,Int.toNat_of_nonneg hk.1]
    rw [e];omega
   have hf:List.foldl (fun x1 x2=>x1++x2) #[] (List.replicate k.toNat us.toArray)=(Ev.rep k.toNat us).toArray:=by
    have:=rT k.toNat us []
    simpa using this
   refine call_meets PySem.F.slot_tuple_mul ⟨_,ho,rfl⟩ PySem.F.entry_tuple_mul (PySem.F.args_tuple_mul_2 _ _) (yS p us.toArray n dd sl k u h1 h3 h4 (by omega) ?_ ?_) ⟨ho,?_⟩
   ·unfold Builtin.Tuple.tupleTooMany
    simp only [decide_eq_true_eq]
    have:(sizeLine:Int)=16777216:=by rw [sizeLine_eq];rfl
    omega
   ·rw [hf]
    simp only [List.size_toArray]
    rw [m7]
    exact jU (by omega) (by omega)
   ·rw [hf]
    exact laid _ rfl
theorem L7:d7 X (binaryOp .Mult) (iM X.K (Ev.bJ .mul)):=by
 intro pins s σ H x y v u Q I rx ry q
 obtain ⟨r,h,a,b,d,h',hr,v1,v2,e,q⟩:=q
 cases b with
 | int k=>
  have s2:=v2.shape
  simp only [fz] at s2
  subst s2
  cases a with
  | int i=>
   delta Ev.bJ at e;dsimp only at e
   split at e
   ·rename_i hz
    cases e
    refine KQ pins s σ H x _ v u Q I rx ry ⟨i,k,v1,rfl,?_,q.here rfl hr⟩
    unfold Ev.cH at hz
    simp only [Bool.or_eq_true,Bool.and_eq_true,decide_eq_true_eq] at hz
    exact hz
   ·cases e
  | str l=>
   delta Ev.bJ at e;dsimp only at e
   split at e
   ·rename_i hz
    cases e
    simp only [RV] at v1
    obtain ⟨rfl,hl⟩:=v1
    obtain ⟨t,rfl⟩:=rx
    obtain ⟨t',rfl⟩:=ry
    exact IG I hz (q.here ⟨rfl,by rw [m7];exact jU (by omega) hz.2.2⟩ hr)
   ·cases e
  | tup ds=>
   delta Ev.bJ at e;dsimp only at e
   split at e
   ·rename_i hz
    cases e
    obtain ⟨p,vs,rfl,z,w⟩:=v1.shape
    cases rx
    obtain ⟨t',rfl⟩:=ry
    refine II I ⟨hz.1,hz.2.1,by rw [w.length];exact hz.2.2⟩ z (fun Z9=>q.here ⟨p,vs,rfl,z,?_⟩ hr) fun p' hp=>q.tup (w.rep k.toNat) hr hp
    have:=w.rep k.toNat
    rw [Z9] at this
    exact this
   ·cases e
  | ref i=>
   delta Ev.bJ at e;dsimp only at e
   split at e
   ·rename_i ds e1
    split at e
    ·rename_i hz
     obtain ⟨p,rfl,z⟩:=v1.shape
     obtain ⟨p',g1,vs,g2,g3⟩:=hr.ob _ _ e1
     rw [z] at g1;cases g1
     obtain ⟨hz2,q2⟩:=q.lst e (g3.rep k.toNat) hr
     exact Lb pins s σ H (.ref p) _ v u Q I rx ry ⟨p,k,vs,rfl,rfl,g2,by omega,by omega,jU (by rw [g3.length];exact hz.2.2) (by omega),q2⟩
    ·cases e
   ·cases e
  | _=>cases e
 | _=>cases a <;> cases e
end
end Sm
set_option maxRecDepth 100000
namespace Sm
open PySem PySem.Spec PyProof.Rows L2 PySem.SeqAt
open Ev (D O Hh Fr R aW E Es Eo T S Ss Fl Src cz b7 TY BI ME)
section
variable {X:Cx}
theorem xw {K:PySem.W.Frag}{H:Hp}{r:List Addr}:∀ {ds:List D}{is:List Int}{vs:List V}{us:List Value},Ev.intsOf ds=some is→aO K H r ds vs→Vals vs us→IntsAre us is
 | [],bs,vs,us,e,w,p=>by
  cases e
  simp only [aO] at w;subst w;cases p;exact .nil
 | d :: ds,bs,vs,us,e,w,p=>by
  cases d with
  | int b=>
   simp only [Ev.intsOf,Option.map_eq_some_iff] at e
   obtain ⟨bs',e1,rfl⟩:=e
   simp only [aO,RV] at w
   obtain ⟨v,w',rfl,rfl,w2⟩:=w
   cases p with
   | cons p1 p2=>
    obtain ⟨t,rfl⟩:=p1
    exact .cons _ _ (xw e1 w2 p2)
  | _=>cases e
theorem xx {K:PySem.W.Frag}{H:Hp}{r:List Addr}:∀ {ds:List D}{ss:List (List Nat)}{vs:List V}{us:List Value},Ev.strsOf ds=some ss→aO K H r ds vs→Vals vs us→StrsAre us (ss.map aX)∧∀ l∈ss,l.length≤sizeLine
 | [],bs,vs,us,e,w,p=>by
  cases e
  simp only [aO] at w;subst w;cases p;exact ⟨.nil,fun l h=>nomatch h⟩
 | d :: ds,bs,vs,us,e,w,p=>by
  cases d with
  | str b=>
   simp only [Ev.strsOf,Option.map_eq_some_iff] at e
   obtain ⟨bs',e1,rfl⟩:=e
   simp only [aO,RV] at w
   obtain ⟨v,w',rfl,⟨rfl,hb⟩,w2⟩:=w
   cases p with
   | cons p1 p2=>
    obtain ⟨t,rfl⟩:=p1
    obtain ⟨g1,g2⟩:=xx e1 w2 p2
    refine ⟨.cons _ _ g1,fun l hl=>?_⟩
    rcases List.mem_cons.mp hl with z | z
    ·subst z;exact hb
    ·exact g2 l z
  | _=>cases e
variable {G:Tb}{n:Nat}{sc:Scope}{N:List Str}{df:Bool}
theorem L8 (g:Good G n sc N df X):gI X (.builtin "sum") (wW X.K (Ev.dJ .sum)):=by
 intro pins s σ H xs us Q I r q
 obtain ⟨rr,h,as,d,h',hr,v1,e,q⟩:=q
 match as,e with
 | [.ref m],e=>
  obtain ⟨e,rfl⟩:=Ev.aS e
  simp only [Option.map_eq_some_iff,Option.bind_eq_some_iff] at e
  obtain ⟨is,⟨ds,e1,e2⟩,rfl⟩:=e
  simp only [aO,RV] at v1
  obtain ⟨v,w,rfl,⟨p,rfl,z⟩,rfl⟩:=v1
  obtain ⟨u,rfl,ru⟩:=vals1 r
  cases ru
  obtain ⟨p',vs,z',q1,w⟩:=hr.read e1
  rw [z] at z';cases z'
  obtain ⟨zs,pv,pl,_⟩:=I.list q1
  have hi:=xw e2 w pv
  obtain ⟨ys,hys⟩:=(hi.allInts).items
  have hl:s.heap.IsList p (intItems ys):=by rw [←hys];exact pl.isList
  refine sum_intListG (I.ok.hd g.calm) hl fun h'' tk t' hk=>?_
  have hsum:preSum (numAt ys) ys.size=is.sum:=by
   have h1:numsOf zs.toArray.toList=is:=by rw [show zs.toArray.toList=zs from rfl];exact hi.numsOf
   rw [hys,nums_intItems] at h1
   rw [preSum_eq,List.take_of_length_le (by simp),h1]
  rw [hsum]
  exact ⟨.int is.sum,H,I.kept hk,⟨_,rfl⟩,q.here rfl hr⟩
theorem Ma:gI X (.builtin "len") (wW X.K (Ev.dJ .len)):=by
 intro pins s σ H xs us Q I r q
 obtain ⟨rr,h,as,d,h',hr,v1,e,q⟩:=q
 match as,e with
 | [.str l],e=>
  delta Ev.dJ at e;dsimp only at e
  split at e
  ·cases e
   simp only [aO,RV] at v1
   obtain ⟨v,w,rfl,⟨rfl,hl⟩,rfl⟩:=v1
   refine tL pins s σ H _ us Q I r ⟨_,rfl,by rw [cX];exact hl,?_⟩
   rw [cX]
   exact q.here rfl hr
  ·cases e
 | [.tup ds],e=>
  cases e
  simp only [aO,RV] at v1
  obtain ⟨v,w,rfl,⟨p,vs,rfl,z,w'⟩,rfl⟩:=v1
  refine lX pins s σ H _ us Q I r ⟨p,vs,rfl,.inr z,?_⟩
  rw [w'.length]
  exact q.here rfl hr
 | [.ref m],e=>
  obtain ⟨e,rfl⟩:=Ev.aS e
  simp only [Option.map_eq_some_iff] at e
  obtain ⟨ds,e1,rfl⟩:=e
  simp only [aO,RV] at v1
  obtain ⟨v,w,rfl,⟨p,rfl,z⟩,rfl⟩:=v1
  obtain ⟨p',vs,z',q1,w⟩:=hr.read e1
  rw [z] at z';cases z'
  refine lX pins s σ H _ us Q I r ⟨p,vs,rfl,.inl q1,?_⟩
  rw [w.length]
  exact q.here rfl hr
theorem Mb (g:Good G n sc N df X):gI X (.builtin "min") (wW X.K (Ev.dJ .min)):=by
 intro pins s σ H xs us Q I r q
 obtain ⟨rr,h,as,d,h',hr,v1,e,q⟩:=q
 match as,e with
 | [.int i,.int j],e=>
  cases e
  simp only [aO,RV] at v1
  obtain ⟨v,w,rfl,rfl,v',w',rfl,rfl,rfl⟩:=v1
  exact Aa g.calm pins s σ H _ us Q I r ⟨i,j,rfl,q.here rfl hr⟩
theorem AJ:rD X "list.append" (tO X.K (Ev.fq .append)):=by
 intro pins s σ H x xs v us Q I rx rs q
 obtain ⟨r,h,a,as,d,h',hr,v1,v2,e,q⟩:=q
 cases a with
 | ref m=>
  match as,e with
  | [b],e=>
   delta Ev.fq at e;dsimp only at e
   split at e
   ·rename_i ds e1
    split at e
    ·rename_i hz
     cases e
     rw [jG] at hz
     obtain ⟨p,rfl,z⟩:=v1.shape
     simp only [aO] at v2
     obtain ⟨y,w,rfl,v3,rfl⟩:=v2
     obtain ⟨p',g1,vs,g2,g3⟩:=hr.ob _ _ e1
     rw [z] at g1;cases g1
     refine rE pins s σ H _ _ v us Q I rx rs ⟨p,vs,y,rfl,rfl,g2,by rw [g3.length];exact hz,?_⟩
     have f:=Fm.write (K:=X.K) (ws:=vs++[y]) g2 (List.mem_of_getElem? z)
     exact q _ _ r rfl (hr.write e1 z g2 (g3.append (.cons v3 .nil))) f
    ·cases e
   ·cases e
  | [],e=>cases e
  | _ :: _ :: _,e=>cases e
 | _=>cases e
theorem AK:rD X "list.extend" (tO X.K (Ev.fq .extend)):=by
 intro pins s σ H x xs v us Q I rx rs q
 obtain ⟨r,h,a,as,d,h',hr,v1,v2,e,q⟩:=q
 cases a with
 | ref m=>
  match as,e with
  | [.ref k],e=>
   delta Ev.fq at e;dsimp only at e
   split at e
   ·rename_i ds es e1 e2
    split at e
    ·rename_i hz
     cases e
     rw [jG] at hz
     obtain ⟨p,rfl,z⟩:=v1.shape
     simp only [aO,RV] at v2
     obtain ⟨y,w,rfl,⟨p2,rfl,z2⟩,rfl⟩:=v2
     obtain ⟨p',g1,vs,g2,g3⟩:=hr.ob _ _ e1
     rw [z] at g1;cases g1
     obtain ⟨p'',k1,ws,k2,k3⟩:=hr.ob _ _ e2
     rw [z2] at k1;cases k1
     refine Ah pins s σ H _ _ v us Q I rx rs ⟨p,p2,vs,ws,rfl,rfl,g2,k2,by rw [g3.length,k3.length];exact hz,?_⟩
     have f:=Fm.write (K:=X.K) (ws:=vs++ws) g2 (List.mem_of_getElem? z)
     exact q _ _ r rfl (hr.write e1 z g2 (g3.append k3)) f
    ·cases e
   ·cases e
 | _=>cases e
theorem Mc:rD X "list.pop" (tO X.K (Ev.fq .pop)):=by
 intro pins s σ H x xs v us Q I rx rs q
 obtain ⟨r,h,a,as,d,h',hr,v1,v2,e,q⟩:=q
 cases a with
 | ref m=>
  match as,e with
  | [],e=>
   delta Ev.fq at e;dsimp only at e
   split at e
   ·rename_i ds e1
    split at e
    ·rename_i y e2
     cases e
     obtain ⟨p,rfl,z⟩:=v1.shape
     simp only [aO] at v2
     subst v2
     obtain ⟨p',g1,vs,g2,g3⟩:=hr.ob _ _ e1
     rw [z] at g1;cases g1
     obtain ⟨vy,g4,g5⟩:=g3.get e2
     refine K9 pins s σ H _ _ v us Q I rx rs ⟨p,vs,vy,rfl,rfl,g2,by rw [g3.length];exact g4,?_⟩
     have f:=Fm.write (K:=X.K) (ws:=vs.dropLast) g2 (List.mem_of_getElem? z)
     have hd:aO X.K H r ds.dropLast vs.dropLast:=by
      rw [List.dropLast_eq_take,List.dropLast_eq_take,g3.length]
      exact g3.take _
     exact q _ _ r (g5.mono f) (hr.write e1 z g2 hd) f
    ·cases e
   ·cases e
  | _ :: _,e=>cases e
 | _=>cases e
theorem oz (sep:List Nat):∀ ss:List (List Nat),Str.join (aX sep) (ss.map aX)=aX (Ev.cU sep ss)
 | []=>rfl
 | [s]=>rfl
 | s :: t :: r=>by
  have ih:=oz sep (t :: r)
  show aX s++aX sep++Str.join (aX sep) ((t :: r).map aX)=_
  rw [ih,qx,qx]
  rfl
theorem join_eq (sep:List Nat) (ss:List (List Nat)):Txt.join (aX sep) (ss.map aX)=aX (Ev.cU sep ss):=by
 rw [←oz]
 exact PySem.StrLaws.glued_eq_join _ _
theorem IJ:rD X "str.join" (tO X.K (Ev.fq .join)):=by
 intro pins s σ H x xs v us Q I rx rs q
 obtain ⟨r,h,a,as,d,h',hr,v1,v2,e,q⟩:=q
 cases a with
 | str sep=>
  match as,e with
  | [.ref k],e=>
   delta Ev.fq at e;dsimp only at e
   split at e
   ·rename_i ss e1
    split at e
    ·rename_i hz
     cases e
     simp only [Option.bind_eq_some_iff] at e1
     obtain ⟨ds,e1,e2⟩:=e1
     simp only [RV] at v1
     obtain ⟨rfl,hl⟩:=v1
     obtain ⟨t,rfl⟩:=rx
     simp only [aO,RV] at v2
     obtain ⟨y,w,rfl,⟨p2,rfl,z2⟩,rfl⟩:=v2
     obtain ⟨u,rfl,ru⟩:=vals1 rs
     cases ru
     obtain ⟨p',vs,z',q1,w⟩:=hr.read e1
     rw [z2] at z';cases z'
     obtain ⟨zs,pv,pl,_⟩:=I.list q1
     obtain ⟨g1,g2⟩:=xx e2 w pv
     have hlen:((ss.map aX).map (·.length)).sum+(ss.map aX).length*(aX sep).length≤16777216:=by
      rw [List.map_map,List.length_map,cX]
      have:(fun x:Str=>x.length) ∘ aX=fun l:List Nat=>l.length:=funext fun l=>cX l
      rw [this]
      exact hz
     refine join_list pl.isList g1 hlen fun t' k'=>?_
     rw [join_eq]
     refine ⟨.str _,H,I.tok _,⟨_,rfl⟩,q.here ⟨rfl,?_⟩ hr⟩
     have hj:=PySem.StrLaws.join_length_le (aX sep) (ss.map aX)
     rw [oz,cX] at hj
     have:sizeLine=16777216:=sizeLine_eq
     omega
    ·cases e
   ·cases e
 | _=>cases e
end
end Sm
set_option maxRecDepth 100000
namespace Sm
open PySem PySem.Spec PyProof.Rows L2 PySem.SeqAt
open Ev (D O Hh Fr R aW E Es Eo T S Ss Fl Src cz b7 TY BI ME)
section
variable {X:Cx}{G:Tb}{n:Nat}{sc:Scope}{N:List Str}{df:Bool}{m:List Nat}{a b c:E}{xa xb xc tg:Expr}{pos:Pos}
noncomputable def nO:TY→String
 | .int=>"int" | .bool=>"bool" | .str=>"str" | .tuple=>"tuple" | .list=>"list"
theorem Xx (K:PySem.W.Frag) (t:TY):PySem.W.kitOne K (.type "NoneType") (.type (nO t))=some false∧PySem.W.kitOne K (.type "bool") (.type (nO t))=some (Ev.dw [] (.bl true) t)∧PySem.W.kitOne K (.type "int") (.type (nO t))=some (Ev.dw [] (.int 0) t)∧
  PySem.W.kitOne K (.type "str") (.type (nO t))=some (Ev.dw [] (.str []) t)∧PySem.W.kitOne K (.type "tuple") (.type (nO t))=some (Ev.dw [] (.tup []) t)∧PySem.W.kitOne K (.type "list") (.type (nO t))=some (match t with | .list=>true | _=>false):=by
 cases t <;> refine ⟨?_,?_,?_,?_,?_,?_⟩ <;> kernel_rfl
theorem IK {pins:List (Addr×Obj)}{σ:L2.St}{H:Hp}{s:Shared}{r:List Addr}{h:Hh}(I:Inv X pins σ H s) (hr:HR X.K H r h) {d:D}{x:V}{u:Value}(v1:RV X.K H r d x) (rx:RelV x u) (hd:∀ i,d=.ref i→(Ev.bg h i).isSome=true) (t:TY) {Q:Value→Shared→Prop}{E:Value→Shared→Prop}(q:∀ tk,Q (.bool (Ev.dw h d t)) { s with toks:=tk }) :
  wpAny (model X.prog X.w) X.A (call (.builtin "isinstance") [u,.type (nO t)]) Q E s:=by
 obtain ⟨k0,k1,k2,k3,k4,k5⟩:=Xx X.K t
 have s1:=v1.shape
 cases d with
 | bB=>simp only [fz] at s1;subst s1;exact jT I rx .bB k0 (by simpa [Ev.dw] using q)
 | bl b=>simp only [fz] at s1;subst s1;exact jT I rx (.bl _) k1 (by cases t <;> simpa [Ev.dw] using q)
 | int b=>simp only [fz] at s1;subst s1;exact jT I rx (.int _) k2 (by cases t <;> simpa [Ev.dw] using q)
 | str b=>simp only [fz] at s1;subst s1;exact jT I rx (.str _) k3 (by cases t <;> simpa [Ev.dw] using q)
 | tup ds=>
  obtain ⟨p,vs,rfl,z,w⟩:=s1
  cases rx
  obtain ⟨us,_,pt,_⟩:=I.tuple z
  obtain ⟨o,h1,h2,_⟩:=pt
  exact PySem.W.kia_one PySem.W.kitx_tuple I.gE ⟨o,h1,h2⟩ k4 (fun z=>nomatch z) (by cases t <;> simpa [Ev.dw] using q)
 | ref i=>
  obtain ⟨p,rfl,z⟩:=s1
  cases rx
  obtain ⟨ds,e1⟩:=Option.isSome_iff_exists.mp (hd i rfl)
  obtain ⟨us,pl⟩:=tY I hr e1 z
  obtain ⟨o,h1,h2,_⟩:=pl.isList
  exact PySem.W.kia_one PySem.W.kitx_list I.gE ⟨o,h1,h2⟩ k5 (fun z=>nomatch z) (by cases t <;> simpa [Ev.dw,e1] using q)
theorem Me {t:TY}{T:Str}{p q:Pos}(ha:JE G n sc N df m a xa) (hT:bootBuiltins T=some (.type (nO t))) (h1:("isinstance" : Str)∈G.bl:=by decide +kernel) (h2:T∈G.bl:=by decide +kernel)
  (t7:sc.names.lookup ("isinstance" : Str)=some .globalImplicit:=by rfl) (hg2:sc.names.lookup T=some .globalImplicit:=by rfl) (hn:T≠"__name__" :=by decide) (hd:(T==("__debug__" : Str))=false:=by decide)
  (hst:∀ env:Env,starEach [xa,.Name T q] env=(false,eval xa env) :: starEach [.Name T q] env:=by intro _;rfl):JE G n sc N df m (.lN a [t]) (.Call (.Name "isinstance" p) [xa,.Name T q] [] pos):=fun X g=>by
 have hty:PE X (.Name T q) (tC (.ty (nO t))):=HG (g.gl hg2) (g.bl T h2) hT rfl hn hd
 have hc:gI X (.builtin "isinstance") (fun xs H Q=>∃ r h d x,HR X.K H r h∧RV X.K H r d x∧xs=[x,.ty (nO t)]∧(∀ i,d=.ref i→(Ev.bg h i).isSome=true)∧Q (.bl (Ev.dw h d t)) H):=by
  intro pins s σ H xs us Q I rv q
  obtain ⟨r,h,d,x,hr,v1,rfl,hd,q⟩:=q
  obtain ⟨u,w,rfl,r1,r2⟩:=vals2 rv
  cases r2
  exact IK I hr v1 r1 hd t fun tk=>⟨.bl _,H,I.tok _,rfl,q⟩
 refine PE.of (tG hc (g.gl t7) (g.bl _ h1) (by decide +kernel) (gT (ha X g) (gT hty ko) (hst _)) (by decide) (by decide) (hst _) rfl) fun s H Q q=>?_
 obtain ⟨r,fr,h,d,h',sr,hr,e,q⟩:=q
 simp only [Ev.ev] at e
 obtain ⟨x,h3,e1,e⟩:=Ev.aj e
 cases e
 refine ⟨r,fr,h,x,_,sr,hr,e1,fun v H1 r1 v1 hr1 f1=>?_⟩
 refine ⟨r1,_,x,v,hr1,v1,rfl,fun i hi=>?_,?_⟩
 ·subst hi
  simp only [RV] at v1
  obtain ⟨p,_,z⟩:=v1
  have hlt:i<h'.length:=by rw [←hr1.len];exact (List.getElem?_eq_some_iff.mp z).1
  unfold Ev.bg
  rw [List.getElem?_eq_getElem hlt]
  cases h'[i] <;> rfl
 ·have:=(q.later f1).here (v:=.bl (Ev.dw h' x t)) (by simp [RV]) hr1
  exact this
end
end Sm
set_option maxRecDepth 100000
namespace Sm
open PySem PySem.Spec PyProof.Rows L2 PySem.SeqAt
open Ev (D O Hh Fr R aW E Es Eo T S Ss Fl Src cz b7 TY BI ME)
section
variable {X:Cx}{G:Tb}{n:Nat}{sc:Scope}{N:List Str}{df:Bool}{m:List Nat}{a b c:E}{xa xb xc tg:Expr}{pos:Pos}
theorem Vals.reverse {vs:List V}{us:List Value}(w:Vals vs us):Vals vs.reverse us.reverse:=by
 induction w with
 | nil=>exact .nil
 | cons a _ ih=>rw [List.reverse_cons,List.reverse_cons];exact ih.append (.cons a .nil)
end
end Sm
set_option maxRecDepth 100000
namespace Sm
open PySem PySem.Spec PyProof.Rows L2 PySem.SeqAt
open Ev (D O Hh Fr R aW E Es Eo T S Ss Fl Src cz b7 TY BI ME)
section
variable {G:Tb}{n:Nat}{sc:Scope}{N:List Str}{df:Bool}{m:List Nat}{a b c:E}{xa xb xc tg:Expr}{pos:Pos}
theorem CT (g:Good G n sc N df X):gI X (.type "tuple") (fun xs H Q=>∃ r h d x d' h',HR X.K H r h∧RV X.K H r d x∧xs=[x]∧Ev.qo d h=.ok d' h'∧Res X.K r H h' d' Q):=by
 intro pins s σ H xs us Q I rv q
 obtain ⟨r,h,d,x,d',h',hr,v1,rfl,e,q⟩:=q
 cases d with
 | tup ds=>
  cases e
  have v2:=v1
  obtain ⟨p,vs,rfl,z,w⟩:=v1.shape
  exact lJ pins s σ H _ us Q I rv ⟨p,vs,rfl,.inr ⟨z,q.here v2 hr⟩⟩
 | ref i=>
  simp only [Ev.qo] at e
  split at e
  ·rename_i ds e1
   split at e
   ·cases e
    obtain ⟨p,rfl,z⟩:=v1.shape
    obtain ⟨p',vs,z',q1,w⟩:=hr.read e1
    rw [z] at z';cases z'
    exact lJ pins s σ H _ us Q I rv ⟨p,vs,rfl,.inl ⟨q1,fun l hl=>q.tup w hr hl⟩⟩
   ·cases e
  ·cases e
 | _=>cases e
theorem Mf {p:Pos}(ha:JE G n sc N df m a xa) (h1:("tuple" : Str)∈G.bl:=by decide +kernel) (t7:sc.names.lookup ("tuple" : Str)=some .globalImplicit:=by rfl)
  (hst:∀ env:Env,starEach [xa] env=[(false,eval xa env)]:=by intro _;rfl):JE G n sc N df m (.gv a) (.Call (.Name "tuple" p) [xa] [] pos):=fun X g=>by
 refine PE.of (Ae (CT g) (g.gl t7) (g.bl _ h1) (by decide +kernel) (gT (ha X g) ko (hst _)) (by decide) (by decide) (hst _) rfl) fun s H Q q=>?_
 obtain ⟨r,fr,h,d,h',sr,hr,e,q⟩:=q
 simp only [Ev.ev] at e
 obtain ⟨x,h3,e1,e⟩:=Ev.aj e
 refine ⟨r,fr,h,x,_,sr,hr,e1,fun v H1 r1 v1 hr1 f1=>?_⟩
 exact ⟨r1,h3,x,v,d,h',hr1,v1,rfl,e,q.later f1⟩
theorem Mg {st:Stmt}:JS G n sc N df m .fP st:=fun X g=>PS.of Cp fun Q s H q=>by
 obtain ⟨r,fr,h,fl,ak,h',sr,hr,e,q⟩:=q
 simp only [Ev.ex] at e
 cases e
end
theorem xy {X:Cx}{pins:List (Addr×Obj)}{σ:L2.St}{H:Hp}{s:Shared}{h':Heap}{t':Nat}{ch:List Addr}(I:Inv X pins σ H s) (k:∀ b o,b∉ch→s.heap.get? b=some o→h'.get? b=some o) (hf:∀ b∈ch,gx X pins H b):Inv X pins σ H { s with heap:=h',toks:=t' }:=by
 have zU:∀ b u,H b=some u→b∉ch:=fun b u e z=>by rw [(hf b z).1] at e;cases e
 refine I.step (g':=s.gens) (d':=s.drawn) (ch:=ch) (fun b hb=>?_) (fun b o _ _ hc e _=>k b o hc e) (fun b o _ _ hc e _=>⟨o.slots,k b o hc e⟩) (fun _ _ _ _ n=>n)
  (fun b o hc e=>⟨o,k b o hc e⟩) (fun _ _ e=>e) (fun _ _ _ e=>e) (fun b ps e=>⟨#[],by rw [e];simp⟩) (fun m hm=>?_) (fun b u e=>?_) I.bare
 ·obtain ⟨f0,f1,f2,f3,f4,f5⟩:=hf b hb
  exact ⟨f3,f1,f4,f5⟩
 ·obtain ⟨o,es,ep,ho,r⟩:=hm
  exact ⟨o,es,ep,k _ o (fun z=>(hf _ z).2.1 rfl) ho,r⟩
 ·refine (I.hok b u e).stay (fun c v hc q=>k c v ?_ q) (fun _ q=>q) fun _ _ q=>q
  rcases hc with z | z
  ·rw [z];exact zU b u e
  ·exact zU c _ z
noncomputable def UR (K:PySem.W.Frag) (a b:Addr):L2.It:=
  ⟨fun i H=>∃ xs ys x y,dZ K H a xs∧dZ K H b ys∧xs[i]?=some x∧ys[i]?=some y,
   fun i H x H'=>∃ p u v,H p=none∧x=.ref p∧H'=upd H p (.tup [u,v])∧(∀ xs,dZ K H a xs→xs[i]?=some u)∧∀ ys,dZ K H b ys→ys[i]?=some v,
   fun i H=>∃ xs ys,dZ K H a xs∧dZ K H b ys∧(xs.length≤i∨ys.length≤i)⟩
theorem CU {P:Program}{w:World}{K:PySem.W.Frag}{elts:List Expr}{x1}{pos:Pos}{l1 l2 z TI TO i1 i2:Addr}(D:ZipApart z TI TO i1 i2 l1 l2) :
  Turn P w K (.Tuple elts x1 pos) (UR K l1 l2) [z,TI,TO,i1,i2] z (fun i h=>IsZip h z TI TO .none∧IsPair h TI (.ref i1) (.ref i2)∧(∃ a b,IsPair h TO a b)∧h.IsListIter i1 l1 i∧h.IsListIter i2 l2 i) where
 mem:=by simp
 obj:=fun i h st b hb=>by
  obtain ⟨s1,s2,⟨u,v,s3⟩,s4,s5⟩:=st
  simp only [List.mem_cons,List.mem_nil_iff,or_false] at hb
  rcases hb with rfl | rfl | rfl | rfl | rfl
  ·exact ⟨_,s1,fun v z=>by have z':Data.fields _=Data.cell v:=z;cases z'⟩
  ·exact ⟨_,s2,fun v z=>by have z':Data.seq _ _=Data.cell v:=z;cases z'⟩
  ·exact ⟨_,s3,fun v z=>by have z':Data.seq _ _=Data.cell v:=z;cases z'⟩
  ·obtain ⟨o,e,c,d⟩:=s4;exact ⟨o,e,fun v z=>by rw [d] at z;cases z⟩
  ·obtain ⟨o,e,c,d⟩:=s5;exact ⟨o,e,fun v z=>by rw [d] at z;cases z⟩
 keep:=fun i h h' st k=>by
  obtain ⟨s1,s2,⟨u,v,s3⟩,s4,s5⟩:=st
  exact ⟨k z (by simp) _ s1,k TI (by simp) _ s2,⟨u,v,k TO (by simp) _ s3⟩,s4.at fun o e=>k i1 (by simp) o e,s5.at fun o e=>k i2 (by simp) o e⟩
 item:=by
  intro X hP hw hK hc i pins s σ H E I hf st hg
  subst hP hw hK
  obtain ⟨s1,s2,⟨u0,v0,s3⟩,s4,s5⟩:=st
  obtain ⟨xs,ys,x,y,hx,hy,ex,ey⟩:=hg
  obtain ⟨xt,rx,px,_⟩:=I.list hx
  obtain ⟨yt,ry,py,_⟩:=I.list hy
  obtain ⟨u,hu,ru⟩:=rx.get ex
  obtain ⟨v,hv,rv⟩:=ry.get ey
  refine wpAny_pyNext_zip_item D s1 s2 s3 s4 s5 px.isList py.isList (x:=u) (y:=v) (by simpa using hu) (by simpa using hv) fun h' a1 a2 a3 a4 a5 a6 hk=>?_
  refine ⟨_,rfl,wpAny_letOwnedTupleGo_zip (s:={ s with heap:=h' }) a1 fun h'' b1 b2=>?_⟩
  have lt:∀ {c o},s.heap.get? c=some o→c≠s.heap.objs.size:=fun e=>Nat.ne_of_lt (Heap.lt_size e)
  have hT:H s.heap.objs.size=none:=I.hok.fresh (Nat.le_refl _)
  have zT:s.heap.objs.size≠z:=Ne.symm (lt s1)
  have I0:Inv X pins σ (upd H s.heap.objs.size (.tup [x,y])) { s with heap:=s.heap.push { cls:=.type "tuple",data:=.seq #[u,v]},toks:=s.toks }:=
   I.laid (fun b o e=>Heap.get?_push_of_some _ e) (Nat.le_refl _) ⟨by show 2≤sizeLine;decide,[u,v],.cons ru (.cons rv .nil),⟨_,Heap.get?_push_size _ rfl,rfl,_,rfl⟩⟩
  have ne:∀ b∈[z,TI,TO,i1,i2],b≠s.heap.objs.size:=fun b hb=>by
   simp only [List.mem_cons,List.mem_nil_iff,or_false] at hb
   rcases hb with rfl | rfl | rfl | rfl | rfl
   ·exact lt s1
   ·exact lt s2
   ·exact lt s3
   ·obtain ⟨o,e,_⟩:=s4;exact lt e
   ·obtain ⟨o,e,_⟩:=s5;exact lt e
  have fp:∀ b∈[z,TI,TO,i1,i2],gx X pins (upd H s.heap.objs.size (.tup [x,y])) b:=fun b hb=>⟨by rw [bE (ne b hb)];exact (hf b hb).1,(hf b hb).2⟩
  have I1:Inv X pins σ (upd H s.heap.objs.size (.tup [x,y])) { s with heap:=h'',toks:=s.toks }:=by
   refine xy (s:={ s with heap:=s.heap.push { cls:=.type "tuple",data:=.seq #[u,v]},toks:=s.toks }) (ch:=[z,TI,TO,i1,i2]) I0 (fun b o hb e=>?_) fp
   simp only [List.mem_cons,List.mem_nil_iff,or_false,not_or] at hb
   refine b2.extBut _ _ hb.1 ?_
   by_cases hT:b=s.heap.objs.size
   ·subst hT
    have e':(s.heap.push { cls:=.type "tuple",data:=.seq #[u,v]}).get? s.heap.objs.size=some o:=e
    rw [Heap.get?_push_size _ rfl] at e'
    cases e'
    exact a5
   ·refine hk b o hb.1 hb.2.2.1 hb.2.2.2.1 hb.2.2.2.2 ?_
    have e':(s.heap.push { cls:=.type "tuple",data:=.seq #[u,v]}).get? b=some o:=e
    rw [Heap.get?_push_ne _ _ _ hT] at e';exact e'
  refine ⟨.ref s.heap.objs.size,_,I1,rfl,⟨s.heap.objs.size,x,y,hT,rfl,rfl,fun xs' h=>by rw [I.nX h hx];exact ex,fun ys' h=>by rw [I.nX h hy];exact ey⟩,?_,fun b hb=>(fp b hb).1⟩
  exact ⟨b1,b2.extBut _ _ D.TIz (hk _ _ D.TIz D.TITO D.TIi1 D.TIi2 s2),⟨_,_,b2.extBut _ _ D.TOz a2⟩,a3.extBut b2.extBut D.i1z,a4.extBut b2.extBut D.i2z⟩
 done:=by
  intro X hP hw hK hc i pins s σ H E I hf st hg
  subst hP hw hK
  obtain ⟨s1,s2,⟨u0,v0,s3⟩,s4,s5⟩:=st
  obtain ⟨xs,ys,hx,hy,hl⟩:=hg
  obtain ⟨xt,rx,px,_⟩:=I.list hx
  obtain ⟨yt,ry,py,_⟩:=I.list hy
  have hl1:=rx.length
  have hl2:=ry.length
  refine wpAny_pyNext_zip_end (I.ok.hd hc) D s1 s2 s3 s4 s5 px.isList py.isList (hl.imp (fun z=>by simp;omega) fun z=>by simp;omega) fun h' hk=>⟨rfl,?_⟩
  refine xy (ch:=[z,TI,TO,i1,i2]) (t':=s.toks) I (fun b o hb e=>?_) hf
  simp only [List.mem_cons,List.mem_nil_iff,or_false,not_or] at hb
  exact hk b o hb.1 hb.2.2.1 hb.2.2.2.1 hb.2.2.2.2 e
 self:=fun _ _ _ _ _ st h=>wpAny_pyIter_zip st.1 h
end Sm
set_option maxRecDepth 100000
namespace Sm
open PySem PySem.Spec PyProof.Rows L2 PySem.SeqAt
open Ev (D O Hh Fr R aW E Es Eo T S Ss Fl Src cz b7 TY BI ME)
theorem AL {h:Hh}{a b:List (Nat×List D)}(e:Ev.stays h (a++b)=true):Ev.stays h a=true∧Ev.stays h b=true:=by
 induction a with
 | nil=>exact ⟨rfl,e⟩
 | cons p a ih=>
  obtain ⟨n,ds⟩:=p
  simp only [List.cons_append,Ev.stays,Bool.and_eq_true] at e ⊢
  exact ⟨⟨e.1,(ih e.2).1⟩,(ih e.2).2⟩
theorem zip_get {a b:List D}{i:Nat}{d:D}(e:(Ev.eW a b)[i]?=some d):∃ x y,a[i]?=some x∧b[i]?=some y∧d=.tup [x,y]:=by
 unfold Ev.eW at e
 rw [List.getElem?_zipWith] at e
 split at e
 ·rename_i x y h1 h2;cases e;exact ⟨x,y,h1,h2,rfl⟩
 ·cases e
theorem Mh {K:PySem.W.Frag}{r:List Addr}{H:Hp}{h:Hh}{n1 n2:Nat}{a1 a2:Addr}{ds es:List D}(z1:r[n1]?=some a1) (z2:r[n2]?=some a2):om K r H (Ev.eW ds es,[(n1,ds)]++[(n2,es)]) (UR K a1 a2):=fun i H1 r1 h1 hr1 f1 st=>by
 obtain ⟨st1,st2⟩:=AL st
 obtain ⟨b1,vs,e1,e2,e3⟩:=hr1.read (mq st1)
 rw [f1.pre _ _ z1] at e1;cases e1
 obtain ⟨b2,ws,g1,g2,g3⟩:=hr1.read (mq st2)
 rw [f1.pre _ _ z2] at g1;cases g1
 refine ⟨fun d e=>?_,fun hl=>?_⟩
 ·obtain ⟨x,y,k1,k2,rfl⟩:=zip_get e
  obtain ⟨u,p1,p2⟩:=e3.get k1
  obtain ⟨v,q1,q2⟩:=g3.get k2
  refine ⟨⟨vs,ws,u,v,e2,g2,p1,q1⟩,fun X H2 y=>?_⟩
  obtain ⟨p,u',v',hp,rfl,rfl,hu,hv⟩:=y
  have US:=hu vs e2
  rw [p1] at US;cases US
  have hv':=hv ws g2
  rw [q1] at hv';cases hv'
  exact ⟨r1,⟨p,[u,v],rfl,.of fV,.cons (p2.mono (.tup hp)) (.cons (q2.mono (.tup hp)) .nil)⟩,hr1.tup hp,.tup hp⟩
 ·refine ⟨vs,ws,e2,g2,?_⟩
  have:=e3.length
  have:=g3.length
  have hl':(Ev.eW ds es).length≤i:=hl
  simp only [Ev.eW,List.length_zipWith] at hl'
  omega
section
variable {G:Tb}{n:Nat}{sc:Scope}{N:List Str}{df:Bool}{m:List Nat}{a b c:E}{xa xb xc:Expr}{pos:Pos}
theorem Mi {elts:List Expr}{x1}{tpos p:Pos}(ha:JE G n sc N df m a xa) (hb:JE G n sc N df m b xb) (hg:sc.names.lookup ("zip" : Str)=some .globalImplicit:=by rfl) (UT:("zip" : Str)∈G.bl:=by decide +kernel)
  (hst:∀ env:Env,starEach [xa,xb] env=[(false,eval xa env),(false,eval xb env)]:=by intro _;rfl) (yT:∀ env:Env,starEach [xb] env=[(false,eval xb env)]:=by intro _;rfl) :
  JI G n sc N df m (.zip a b) (.Tuple elts x1 tpos) (.Call (.Name "zip" p) [xa,xb] [] pos):=fun X g=>by
 intro pins s σ H Rr I q
 obtain ⟨r,fr,h,src,h',sr,hr,e,q⟩:=q
 simp only [Ev.cO] at e
 replace e:=Ev.aj e;obtain ⟨x,h1,e1,e⟩:=e
 replace e:=Ev.aj e;obtain ⟨y,h2,e2,e⟩:=e
 replace e:=Ev.aS e;obtain ⟨e,y0⟩:=e;subst y0
 have AM:PA X [xa,xb] _:=gT (ha X g) (gT (hb X g) ko (yT _)) (by rw [hst,yT])
 refine Call_ (iu I (g.gl hg) (g.bl _ UT) (show bootBuiltins ("zip" : Str)=some (.type "zip") by decide +kernel) (PyProof.Rows.callWith_type1 (bS (AM pos pins s σ H (fun vs H1=>∃ r1 u v,vs=[u,v]∧RV X.K H1 r1 x u∧RV X.K H1 r1 y v∧HR X.K H1 r1 h'∧Fm X.K r r1 H H1) I ?_) fun us s1 z=>?_) (by rw [hst,yT]) (by rw [yT];rfl)))
 ·refine ⟨r,fr,h,x,h1,sr,hr,e1,fun u H1 r1 v1 hr1 f1=>?_⟩
  refine ⟨r1,fr,h1,y,h',sr.mono f1,hr1,e2,fun v H2 r2 v2 hr2 f2=>?_⟩
  exact ⟨r2,u,v,rfl,v1.mono f2,v2,hr2,f1.trans f2⟩
 ·obtain ⟨vs,H1,I1,rv,r1,u,v,rfl,v1,v2,hr1,f1⟩:=z
  simp only [Option.bind_eq_some_iff,Option.map_eq_some_iff] at e
  obtain ⟨s1',k1,s2',k2,rfl⟩:=e
  cases x <;> simp only [Ev.oh,reduceCtorEq,Option.map_eq_some_iff] at k1
  rename_i n1
  obtain ⟨ds,k1,rfl⟩:=k1
  cases y <;> simp only [Ev.oh,reduceCtorEq,Option.map_eq_some_iff] at k2
  rename_i n2
  obtain ⟨es,k2,rfl⟩:=k2
  obtain ⟨a1,rfl,z1⟩:=v1.shape
  obtain ⟨a2,rfl,z2⟩:=v2.shape
  obtain ⟨b1,xs,w1,w2,w3⟩:=hr1.read k1
  rw [z1] at w1;cases w1
  obtain ⟨b2,ys,w4,w5,w6⟩:=hr1.read k2
  rw [z2] at w4;cases w4
  cases rv with
  | cons ra rb=>
  cases rb with
  | cons rb rc=>
  cases rc
  cases ra
  cases rb
  obtain ⟨xt,_,px,_⟩:=I1.list w2
  obtain ⟨yt,_,py,_⟩:=I1.list w5
  refine call_zip_2 px.isList py.isList fun hp c1 c2 c3 c4 c5 c6 c7=>?_
  have I2:Inv X pins σ H1 { s1 with heap:=hp,toks:=s1.toks }:=I1.kept c7
  have l1:a1<s1.heap.objs.size:=by obtain ⟨o,e,_⟩:=px.isList;exact Heap.lt_size e
  have l2:a2<s1.heap.objs.size:=by obtain ⟨o,e,_⟩:=py.isList;exact Heap.lt_size e
  refine wpAny_pyIter_zip c1 ⟨_,[s1.heap.objs.size+4,s1.heap.objs.size+2,s1.heap.objs.size+3,s1.heap.objs.size,s1.heap.objs.size+1],_,_,H1,rfl,I2,CU ?_,⟨c1,c2,⟨_,_,c3⟩,c4,c5⟩,fun b hb=>?_,q _ H1 r1 hr1 f1 (Mh (h:=h') z1 z2)⟩
  ·constructor <;> (intro z;have z2:@Eq Nat _ _:=z;have l1n:@LT.lt Nat _ a1 s1.heap.objs.size:=l1;have l2n:@LT.lt Nat _ a2 s1.heap.objs.size:=l2;omega)
  ·have hb':s1.heap.objs.size≤b:=by
    simp only [List.mem_cons,List.mem_nil_iff,or_false] at hb
    rcases hb with rfl | rfl | rfl | rfl | rfl
    ·exact Nat.le_add_right _ _
    ·exact Nat.le_add_right _ _
    ·exact Nat.le_add_right _ _
    ·exact Nat.le_refl _
    ·exact Nat.le_add_right _ _
   exact I1.yj hb' (I1.hok.fresh hb')
end
end Sm
set_option maxRecDepth 100000
namespace Sm
open PySem PySem.Spec PyProof.Rows L2 PySem.SeqAt
open Ev (D O Hh Fr R aW E Es Eo T S Ss Fl Src cz b7 TY BI ME)
noncomputable def qy:List (D×D)→Bool
 | []=>true
 | (.str k,.str v) :: r=>decide (v.length≤1000)&&qy r
 | _=>false
theorem t8 {s:List Nat}{r:D}:∀ {kvs:List (D×D)},qy kvs=true→Ev.eU (.str s) kvs=some r→∃ t,r=.str t∧t.length≤1000∧PySem.Spec.lookup (.str (aX s)) (tabOf kvs)=some (.str (aX t))
 | [],_,e=>by simp [Ev.eU] at e
 | (k,v) :: l,ha,e=>by
  cases k <;> cases v <;> simp only [qy,Bool.false_eq_true,Bool.and_eq_true,decide_eq_true_eq] at ha
  rename_i k v
  simp only [Ev.eU] at e
  rw [show Ev.gF [] 1 (.str k) (.str s)=some (k==s) from rfl] at e
  simp only [tabOf,PySem.Spec.lookup]
  by_cases h:k=s
  ·subst h
   simp at e
   subst e
   refine ⟨v,rfl,ha.1,?_⟩
   have:PySem.Spec.same (.str (aX k)) (.str (aX k))=true:=by rw [PyProof.V.same_str];simp
   rw [this];rfl
  ·have hb:(k==s)=false:=by simpa using h
   rw [hb] at e
   simp only at e
   obtain ⟨t,h1,h2,h3⟩:=t8 ha.2 e
   refine ⟨t,h1,h2,?_⟩
   have:PySem.Spec.same (.str (aX k)) (.str (aX s))=false:=by
    rw [PyProof.V.same_str]
    simp
    exact fun z=>h (qp z)
   rw [this]
   exact h3
theorem t9 {y r:D}:∀ {kvs:List (D×D)},qy kvs=true→Ev.eU y kvs=some r→∃ s,y=.str s
 | [],_,e=>by simp [Ev.eU] at e
 | (k,v) :: l,ha,e=>by
  cases k <;> cases v <;> simp only [qy,Bool.false_eq_true,Bool.and_eq_true,decide_eq_true_eq] at ha
  cases y with
  | str s=>exact ⟨s,rfl⟩
  | ref a=>cases e
  | _=>first | exact t9 ha.2 e | cases e
section
variable {G:Tb}{n:Nat}{sc:Scope}{N:List Str}{df:Bool}{m:List Nat}{a b c:E}{xa xb xc:Expr}{pos:Pos}
theorem IL {x:Str}{kvs:List (D×D)}{p:Pos}(hm:(x,kvs)∈G.dk) (ha:JE G n sc N df m a xa) (hk:qy kvs=true:=by decide) (hg:sc.names.lookup x=some .globalImplicit:=by rfl) (hd:(x==("__debug__" : Str))=false:=by decide) (hs:ql xa:=by intro _ _;rfl) :
  JE G n sc N df m (.ji kvs a) (.Subscript (.Name x p) xa pos):=fun X g=>by
 intro pins s σ H Q I q
 obtain ⟨r,fr,h,d,h',sr,hr,e,q⟩:=q
 simp only [Ev.ev] at e
 replace e:=Ev.aj e;obtain ⟨y,h1,e1,e⟩:=e
 replace e:=Ev.aS e;obtain ⟨e,y0⟩:=e;subst y0
 obtain ⟨ad,hmg,htab⟩:=g.dk x kvs hm
 refine Subscript_ (yo (HF (v:=.ref ad) (g.gl hg) hmg rfl hd) (ha X g) I (R:=fun x' y' H2=>x'=.ref ad∧∃ r1,RV X.K H2 r1 y y'∧HR X.K H2 r1 h'∧Fm X.K r r1 H H2) ?_ fun v u s2 x' y' H2 I2 rx ry z=>?_)
 ·refine ⟨r,fr,h,y,h',sr,hr,e1,fun v H1 r1 v1 hr1 f1=>⟨rfl,r1,v1,hr1,f1⟩⟩
 ·obtain ⟨rfl,r1,v1,hr1,f1⟩:=z
  obtain rfl:v=Value.ref ad:=rx
  have hy:∃ sx,y=.str sx:=t9 hk e
  obtain ⟨sx,rfl⟩:=hy
  obtain ⟨t,rfl,ht,hl⟩:=t8 hk e
  simp only [RV] at v1
  obtain ⟨rfl,_⟩:=v1
  obtain ⟨tk,rfl⟩:=ry
  refine item_strTab (htab s2.heap I2.gE) hl (fun v hv=>?_) (hs _ _)
  obtain ⟨t2,rfl⟩:=PyProof.V.Flat.str_inv hv
  exact ⟨.str (aX t),H2,I2.tok _,⟨t2,rfl⟩,q _ H2 r1 ⟨rfl,Nat.le_trans ht (by rw [sizeLine_eq];decide)⟩ hr1 f1⟩
end
end Sm
set_option maxRecDepth 100000
namespace Sm
open PySem PySem.Spec PyProof.Rows L2 PySem.SeqAt
open Ev (D O Hh Fr R aW E Es Eo T S Ss Fl Src cz b7 TY BI ME)
section
variable {X:Cx}{G:Tb}{n:Nat}{sc:Scope}{N:List Str}{df:Bool}{m:List Nat}{a b c:E}{xa xb xc xd tg:Expr}{pos:Pos}
end
end Sm
set_option maxRecDepth 100000
namespace Rv
open PySem PyProof.Rows
theorem mz:Manifest.owners.lookup (String.ofList ['d','e','s','r','e','v','e','r'].reverse)=some Manifest.sig_reversed:=by kernel_rfl
theorem slot_next:Slot "reversed" "__next__" "reversed.__next__" :=
 .of (owner:="reversed") (n:="__next__") (by rw [typeLookup_type,builtinLookup_eq_fast];kernel_rfl) (by decide +kernel) (by decide +kernel) (by decide +kernel)
  (by first | exact .inl (by decide +kernel) | exact .inr (by decide +kernel)) (by rw [isSubtype_type];kernel_rfl)
theorem entry_next:entryFor table "reversed.__next__" = some Builtin.«reversed.__next__»:=entryFor_of_tree (by kernel_rfl)
theorem args_next (a:Value):argsOk "reversed.__next__" ⟨[a],[]⟩:=by
 unfold argsOk;rw [signature?_of (id:="reversed.__next__") (n:=['_','_','t','x','e','n','_','_']) (o:=['d','e','s','r','e','v','e','r']) (by kernel_rfl) mz];kernel_rfl
theorem rV:Slot "reversed" "__iter__" "reversed.__iter__" :=
 .of (owner:="reversed") (n:="__iter__") (by rw [typeLookup_type,builtinLookup_eq_fast];kernel_rfl) (by decide +kernel) (by decide +kernel) (by decide +kernel)
  (by first | exact .inl (by decide +kernel) | exact .inr (by decide +kernel)) (by rw [isSubtype_type];kernel_rfl)
theorem AN (a:Value):argsOk "reversed.__iter__" ⟨[a],[]⟩:=by
 unfold argsOk;rw [signature?_of (id:="reversed.__iter__") (n:=['_','_','r','e','t','i','_','_']) (o:=['d','e','s','r','e','v','e','r']) (by kernel_rfl) mz];kernel_rfl
theorem yU:entryFor table "reversed.__iter__" = some Builtin.«dict_keyiterator.__iter__»:=
 entryFor_alias (id':="dict_keyiterator.__iter__") (by kernel_rfl) (by first | rfl | decide +kernel | (unfold String.splitOn;simp +decide [String.splitOnAux])) (by decide +kernel) (by kernel_rfl)
theorem mC:Slot "reversed" "__length_hint__" "reversed.__length_hint__" :=
 .of (owner:="reversed") (n:="__length_hint__") (by rw [typeLookup_type,builtinLookup_eq_fast];kernel_rfl) (by decide +kernel) (by decide +kernel) (by decide +kernel)
  (by first | exact .inl (by decide +kernel) | exact .inr (by decide +kernel)) (by rw [isSubtype_type];kernel_rfl)
theorem yV:entryFor table "reversed.__length_hint__" = some Builtin.«reversed.__length_hint__»:=entryFor_of_tree (by kernel_rfl)
theorem AO (a:Value):argsOk "reversed.__length_hint__" ⟨[a],[]⟩:=by
 unfold argsOk;rw [signature?_of (id:="reversed.__length_hint__") (n:=['_','_','t','n','i','h','_','h','t','g','n','e','l','_','_']) (o:=['d','e','s','r','e','v','e','r']) (by kernel_rfl) mz];kernel_rfl
theorem Mj:typeLookup (.type "reversed") "__len__" = pure none:=by rw [typeLookup_type,builtinLookup_eq_fast];kernel_rfl
theorem Ml:typeLookup (.type "tuple") "__reversed__" = pure none:=by rw [typeLookup_type,builtinLookup_eq_fast];kernel_rfl
section
variable {prog:Program}{w:World}{A:Around}{E:Value→Shared→Prop}{s:Shared}
theorem AQ:Slot "reversed" "__init__" "object.__init__" :=
 .of (owner:="object") (n:="__init__") (by rw [typeLookup_type,builtinLookup_eq_fast];kernel_rfl) (by decide +kernel) (by decide +kernel) (by decide +kernel)
  (by first | exact .inl (by decide +kernel) | exact .inr (by decide +kernel)) (by rw [isSubtype_type];kernel_rfl)
theorem called:TypeCalled "reversed" "reversed.__new__" "object.__init__" :=
 ⟨by decide +kernel,by decide +kernel,⟨_,_,F.mro_reversed⟩,F.made_reversed,by decide +kernel,F.sub_reversed_self,AQ⟩
noncomputable def gy (h:Heap) (a t:Addr) (i:Int):Prop:=∃ o,h.get? a=some o∧o.cls=.type "reversed" ∧o.data=.fields #[.ref t,rawInt i]
theorem gy.typeIs {a l:Addr}{i:Int}(x:gy s.heap a l i):s.TypeIs (.ref a) "reversed" :=let ⟨o,ho,hc,_⟩:=x;⟨o,ho,hc⟩
theorem gy.at {h h':Heap}{a l:Addr}{i:Int}(x:gy h a l i) (e:∀ o,h.get? a=some o→h'.get? a=some o):gy h' a l i:=let ⟨o,ho,r⟩:=x;⟨o,e _ ho,r⟩
noncomputable def m8 (l:Addr) (i:Int):Obj:={ cls:=.type "reversed",data:=.fields #[.ref l,rawInt i]}
theorem m9 {h h':Heap}{t:Addr}{items:Array Value}(x:IsTup h t items) (e:∀ o,h.get? t=some o→h'.get? t=some o):IsTup h' t items:=let ⟨o,ho,r⟩:=x;⟨o,e _ ho,r⟩
theorem CV {t:Addr}{items:Array Value}{Q₁:Value→Shared→Prop}(ht:IsTup s.heap t items) (hfit:(items.size:Int)<2 ^ 63)
  (h:Q₁ (.ref s.heap.objs.size) { s with heap:=s.heap.push (m8 t ((items.size:Int) - 1)),toks:=s.toks+1+1 }) :
  codeAny (model prog w) A (.call (.builtin "reversed.__new__") ⟨[.type "reversed",.ref t],[]⟩) (wants Q₁ E) s:=by
 refine codeAny_of_tree ?_
 show wpAny _ A.in1 (do checkBuiltinCall "reversed.__new__" ⟨[.type "reversed",.ref t],[]⟩;again (.builtin "reversed.__new__" ⟨[.type "reversed",.ref t],[]⟩)) _ _ s
 refine wpAny_bind (wpAny_of_eq (F.newCall_reversed_1 _) (wpAny_pure ⟨plainId_quiet F.plain_reversed_new _,codeAny_builtin F.entry_reversed_new ?_⟩))
 rw [Around.under_plainId F.plain_reversed_new _]
 unfold Builtin.«reversed.__new__»
 refine wpAny_bind (wpAny_of_eq (newClass_reversed _) ?_)
 try dsimp only
 refine wpAny_bind (wpAny_of_eq (a:=()) (by first | rfl | kernel_rfl) ?_)
 refine wpAny_bind (wpAny_of_eq (a:=()) (by first | rfl | kernel_rfl) ?_)
 try dsimp only
 refine wpAny_bind (wpAny_specialOf ht.typeIs Ml ?_)
 try dsimp only
 refine wpAny_bind ?_
 wp_delta
 refine wpAny_bind (wpAny_isInstance (T:="tuple") (b:=false) ht.typeIs (by rw [isSubtype_type];kernel_rfl) ?_)
 refine wpAny_ite_split (fun hab=>absurd hab (by decide)) (fun _=>?_)
 refine wpAny_bind (wpAny_specialOf ht.typeIs slot_tuple_getitem.lookup ?_)
 try dsimp only
 refine wpAny_ite_split (fun _=>?_) (fun hab=>absurd (by decide) hab)
 refine wpAny_pure ?_
 refine wpAny_ite_split (fun hab=>absurd hab (by decide)) (fun _=>?_)
 refine wpAny_bind (len_tuple ht hfit ?_)
 refine wpAny_bind (m:=asInt? _) (wpAny_pure ?_)
 try dsimp only
 refine wpAny_bind (m:=Builtin.SmallTypes.newRecord _ _) ?_
 unfold Builtin.SmallTypes.newRecord
 refine wpAny_newObj_type ?_ (by size_fits)
 exact wpAny_pure h
theorem CW {t:Addr}{items:Array Value}{Q:Value→Shared→Prop}(ht:IsTup s.heap t items) (hfit:(items.size:Int)<2 ^ 63)
  (h:Q (.ref s.heap.objs.size) { s with heap:=s.heap.push (m8 t ((items.size:Int) - 1)),toks:=s.toks+1+1 }):wpAny (model prog w) A (call (.type "reversed") [.ref t]) Q E s:=by
 refine callType_codes (Q₁:=fun obj s₁=>obj=.ref s.heap.objs.size∧s₁={ s with heap:=s.heap.push (m8 t ((items.size:Int) - 1)),toks:=s.toks+1+1 }) called (F.typeCall_reversed_1 _) F.entry_object_init (CV ht hfit ⟨rfl,rfl⟩) ?_
 rintro obj s₁ ⟨rfl,rfl⟩
 have hT:({ s with heap:=s.heap.push (m8 t ((items.size:Int) - 1)),toks:=s.toks+1+1 }:Shared).TypeIs (.ref s.heap.objs.size) "reversed" :=⟨_,Heap.get?_push_size _ rfl,rfl⟩
 refine ⟨hT,F.args_object_init_2 _ _,?_⟩
 exact object_init_meets (self:=Value.ref s.heap.objs.size) (rest:=[Value.ref t]) called.init.lookup called.made (by decide) prog w A.in1 _ _ ⟨hT,rfl,h⟩
theorem next_item {it t:Addr}{i:Nat}{items:Array Value}{x:Value}{Q:Option Value→Shared→Prop}(hit:gy s.heap it t (i:Int)) (ht:IsTup s.heap t items) (hx:items[i]?=some x) (hfit:(items.size:Int)<2 ^ 62)
  (hQ:∀ h' tk,gy h' it t ((i:Int) - 1)→Heap.SameBut it s.heap h'→Q (some x) { s with heap:=h',toks:=tk }):wpAny (model prog w) A (pyNext (.ref it)) Q E s:=by
 obtain ⟨o,ho,hc,hd⟩:=id hit
 have hi:i<items.size:=(Array.getElem?_eq_some_iff.mp hx).1
 unfold pyNext
 refine wpAny_bind (wpAny_attempt (wpAny_callSpecial?_slot (name:=Str.ofString "__next__") hit.typeIs slot_next
  (wpAny_call_entry slot_next hit.typeIs entry_next ?_ (args_next _))))
 unfold Builtin.«reversed.__next__»
 refine wpAny_bind (wpAny_of_eq (a:=(Value.ref it,[])) rfl ?_)
 try dsimp only
 refine wpAny_bind (wpAny_field ho hd (x:=.ref t) rfl ?_)
 refine wpAny_bind (wpAny_field ho hd (x:=rawInt (i:Int)) rfl ?_)
 show wpAny _ _ (if (i:Int)<0 then _ else _) _ _ s
 rw [if_neg (by omega)]
 try dsimp only
 refine wpAny_bind (wpAny_specialOf ht.typeIs slot_tuple_getitem.lookup ?_)
 try dsimp only
 refine wpAny_ite_split (fun hab=>absurd hab (by decide)) (fun _=>?_)
 refine wpAny_bind (wpAny_mkInt ?_)
 refine wpAny_bind (wpAny_attempt (getItem_tuple (j:=i) ht (by omega) (by omega) (by unfold seqIndex?;simp;omega) hx ?_))
 try dsimp only
 refine wpAny_bind (wpAny_field ho hd (x:=rawInt (i:Int)) rfl ?_)
 show wpAny _ _ (setField (.ref it) 1 (rawInt ((i:Int) - 1)) >>= _) _ _ _
 refine wpAny_bind (wpAny_setField ho hd (by simp) ?_)
 refine wpAny_pure ⟨x,rfl,wpAny_pure (hQ _ _ ?_ (Heap.SameBut.update ..))⟩
 exact ⟨_,Heap.get?_update_self _ ho (Obj.isFreed_of_fields (Obj.data_mapFields hd _)),(Obj.cls_mapFields ..).trans hc,by
  rw [Obj.data_mapFields hd];simp⟩
theorem next_end {it t:Addr}{Q:Option Value→Shared→Prop}(hh:A.handled=none) (hit:gy s.heap it t (-1))
  (hQ:∀ h',Heap.ExtBut it s.heap h'→Q none { s with heap:=h' }):wpAny (model prog w) A (pyNext (.ref it)) Q E s:=by
 obtain ⟨o,ho,hc,hd⟩:=id hit
 unfold pyNext
 refine wpAny_bind (wpAny_attempt (wpAny_callSpecial?_slot (name:=Str.ofString "__next__") hit.typeIs slot_next
  (wpAny_call_entry slot_next hit.typeIs entry_next ?_ (args_next _))))
 unfold Builtin.«reversed.__next__»
 refine wpAny_bind (wpAny_of_eq (a:=(Value.ref it,[])) rfl ?_)
 try dsimp only
 refine wpAny_bind (wpAny_field ho hd (x:=.ref t) rfl ?_)
 refine wpAny_bind (wpAny_field ho hd (x:=rawInt (-1)) rfl ?_)
 show wpAny _ _ (if (-1:Int)<0 then _ else _) _ _ s
 rw [if_pos (by decide)]
 refine wpAny_bind (wpAny_rule ?_)
 refine wpAny_bind ?_
 wp_delta
 refine wpAny_bind (wpAny_setField ho hd (by simp) ?_)
 have ho2:=Heap.get?_update_self (Obj.mapFields fun x=>x.setIfInBounds 1 (rawInt (-1))) ho (Obj.isFreed_of_fields (Obj.data_mapFields hd _))
 refine wpAny_setField ho2 (Obj.data_mapFields hd _) (by simp) ?_
 refine wpAny_bind ?_
 unfold Builtin.SmallTypes.stopIteration
 first
 | show wpAny _ _ (newExc (.type "StopIteration") [] >>= _) _ _ _
 | (refine wpAny_bind ?_;show wpAny _ _ (newExc (.type "StopIteration") [] >>= _) _ _ _)
 refine wpAny_bind ?_
 simp only [newExc,newTuple]
 refine wpAny_bind (wpAny_newObj_type ?_ (by size_fits))
 refine wpAny_bind (m:=firstArgMember _ _) (wpAny_of_eq (a:=Value.none) (by first | rfl | (simp only [firstArgMember];rfl)) ?_)
 refine wpAny_newObj_type ?_ (by size_fits)
 simp only [raiseNew]
 refine wpAny_bind (wpAny_handled ?_)
 first | rw [show A.in1.handled=none from hh] | rw [hh]
 refine wpAny_bind (wpAny_pure (wpAny_throw ?_))
 refine wpAny_bind (wpAny_isInstance (T:="StopIteration") (b:=true) ⟨_,Heap.get?_push_size _ rfl,rfl⟩ isSubtype_stop ?_)
 exact wpAny_pure (hQ _ ((((Heap.SameBut.update ..).extBut.trans (Heap.SameBut.update ..).extBut).push _).push _))
theorem ua {it t:Addr}{i:Int}{Q:Value→Shared→Prop}(hit:gy s.heap it t i) (h:Q (.ref it) s):wpAny (model prog w) A (pyIter (.ref it)) Q E s:=by
 refine wpAny_pyIter_slot hit.typeIs rV (wpAny_call_entry rV hit.typeIs yU ?_ (AN _))
 show wpAny _ _ (ret (.ref it)) _ _ s
 exact wpAny_pure ⟨_,rfl,"reversed",_,hit.typeIs,slot_next.lookup,h⟩
theorem CY {it t:Addr}{items:Array Value}{Q:Bool→Shared→Prop}(hit:gy s.heap it t ((items.size:Int) - 1)) (ht:IsTup s.heap t items) (hfit:items.size≤sizeLine)
  (h:∀ tk,Q ((items.size:Int) != 0) { s with toks:=tk }):wpAny (model prog w) A (Builtin.List.listLengthHint (.ref it)) Q E s:=by
 obtain ⟨o,ho,hc,hd⟩:=id hit
 unfold Builtin.List.listLengthHint
 refine wpAny_bind (wpAny_specialOf hit.typeIs Mj ?_)
 refine wpAny_ite_split (fun hab=>absurd hab (by decide +kernel)) (fun _=>?_)
 refine wpAny_ite_split (fun hab=>absurd hab (by decide)) (fun _=>?_)
 refine wpAny_bind (wpAny_specialOf hit.typeIs mC.lookup ?_)
 generalize hid:("reversed.__length_hint__" : String)=Mm
 dsimp only
 rw [show splitId Mm=some ("reversed","__length_hint__") from by subst hid;decide +kernel]
 subst hid
 dsimp only
 refine wpAny_bind (wpAny_isInstance (T:="reversed") (b:=true) hit.typeIs (by rw [isSubtype_type];kernel_rfl) ?_)
 refine wpAny_ite_split (fun hab=>absurd hab (by decide)) (fun _=>?_)
 refine wpAny_ite_split (fun hab=>absurd hab (by decide +kernel)) (fun _=>?_)
 refine wpAny_bind (wpAny_rule ?_)
 refine wpAny_bind (wpAny_of_eq (mC.bind _) ?_)
 refine wpAny_bind (wpAny_attempt (wpAny_call_entry mC hit.typeIs yV ?_ (AO _)))
 unfold Builtin.«reversed.__length_hint__»
 refine wpAny_bind (wpAny_of_eq (a:=Value.ref it) rfl ?_)
 refine wpAny_bind (wpAny_field ho hd (x:=.ref t) rfl ?_)
 refine wpAny_ite_split (fun hab=>absurd hab Bool.false_ne_true) (fun _=>?_)
 have hf2:(items.size:Int)<2 ^ 63:=by rw [sizeLine_eq] at hfit;omega
 refine wpAny_bind (len_tuple ht hf2 ?_)
 refine wpAny_bind (m:=asInt? _) (wpAny_pure ?_)
 refine wpAny_bind (wpAny_field ho hd (x:=rawInt ((items.size:Int) - 1)) rfl ?_)
 show wpAny _ _ (if (items.size:Int)<(items.size:Int) - 1+1 then _ else _) _ _ _
 rw [if_neg (by omega)]
 have e1:(items.size:Int) - 1+1=(items.size:Int):=by omega
 rw [e1]
 unfold retInt
 refine wpAny_bind (wpAny_mkInt (wpAny_pure ⟨_,rfl,?_⟩))
 generalize s.toks+1+1=tk
 show wpAny _ _ (asInt? (Value.int (items.size:Int) tk) >>= _) _ _ _
 refine wpAny_bind ?_
 refine wpAny_pure (a:=some (items.size:Int)) ?_
 have hfi:Builtin.List.listFitsIndex (items.size:Int)=true:=by unfold Builtin.List.listFitsIndex;rw [decide_eq_true (by omega),decide_eq_true (by omega)];rfl
 show wpAny _ _ (if (!Builtin.List.listFitsIndex (items.size:Int))=true then _ else _) _ _ _
 rw [if_neg (by rw [hfi];decide)]
 show wpAny _ _ (if (items.size:Int)<0 then _ else _) _ _ _
 rw [if_neg (by omega)]
 have htl:Builtin.List.listTooLong ((items.size:Int).toNat)=false:=by unfold Builtin.List.listTooLong;rw [Int.toNat_natCast];exact decide_eq_false (by omega)
 show wpAny _ _ (if Builtin.List.listTooLong ((items.size:Int).toNat)=true then _ else _) _ _ _
 rw [if_neg (by rw [htl];decide)]
 exact wpAny_pure (h _)
theorem _root_.PySem.Walks.Mn (hh:A.handled=none) (I t:Addr) (hne:t≠I) (items:Array Value) (hfit:(items.size:Int)<2 ^ 62) :
  Walks prog w A I [I,t] [I] items.size (fun i v=>items[items.size - 1 - i]?=some v) (fun i h=>i≤items.size∧gy h I t ((items.size:Int) - 1 - (i:Int))∧IsTup h t items) where
 sub:=fun b hb=>by simp at hb;simp [hb]
 frame:=fun _ _ _ x hk=>⟨x.1,x.2.1.at fun o e=>hk I (by simp) o e,m9 x.2.2 fun o e=>hk t (by simp) o e⟩
 item:=fun i s Q E hi x hQ=>by
  have e:(items.size:Int) - 1 - (i:Int)=((items.size - 1 - i:Nat):Int):=by omega
  have hit:=x.2.1
  rw [e] at hit
  have hx:items[items.size - 1 - i]?=some (items[items.size - 1 - i]'(by omega)):=Array.getElem?_eq_getElem (by omega)
  refine next_item hit x.2.2 hx hfit fun h' tk Mp hs'=>?_
  have e2:((items.size - 1 - i:Nat):Int) - 1=(items.size:Int) - 1 - ((i+1:Nat):Int):=by omega
  rw [e2] at Mp
  exact hQ _ h' tk hx ⟨hi,Mp,m9 x.2.2 fun o eo=>(hs'.2 t hne).trans eo⟩ fun b o hb eo=>hs'.extBut b o (fun h=>hb (by simp [h])) eo
 done:=fun s Q E x hQ=>by
  have e:(items.size:Int) - 1 - (items.size:Int) = -1:=by omega
  have hit:=x.2.1
  rw [e] at hit
  exact next_end hh hit fun h' he'=>hQ h' s.toks fun b o hb eo=>he' b o (fun h=>hb (by simp [h])) eo
 self:=fun _ _ _ _ x hQ=>ua x.2.1 hQ
theorem yW {R:Result→Shared→Prop}{I t:Addr}{items:Array Value}(hh:A.handled=none) (hit:gy s.heap I t ((items.size:Int) - 1)) (ht:IsTup s.heap t items) (hne:t≠I) (hlen:items.size≤sizeLine)
  (S:Addr) (hSI:S≠I) (hSt:S≠t) (res:Value) (c₀:Nat) (hS:s.heap.get? S=some { cls:=.type "list",data:=.seq #[] c₀ })
  (hR:∀ h' tk acc' c',(∀ b o,b≠S→b≠I→s.heap.get? b=some o→h'.get? b=some o)→h'.get? S=some { cls:=.type "list",dict:=none,data:=.seq acc' c',slots:=#[]}→
   ItemsOf (fun i v=>items[items.size - 1 - i]?=some v) acc' items.size→R (.ok (.ret res)) { s with heap:=h',toks:=tk }) :
  wpAny (model prog w) A.in1 (Builtin.List.listExtendWith (.ref S) (.ref I) res)
   (fun fin s'=>match fin with | .done f=>R (.ok f) s' | .again c'=>c'.quiet=true∧codeAny (model prog w) A c' R s') (fun e s'=>R (.error e) s') s:=by
 have hf:(items.size:Int)<2 ^ 62:=by rw [sizeLine_eq] at hlen;omega
 have hSf:S∉[I,t]:=fun hm=>by rcases List.mem_cons.mp hm with e | e;exact hSI e;exact hSt (List.mem_singleton.mp e)
 have W:=(Walks.Mn (prog:=prog) (w:=w) (A:=A.in1) hh I t hne items hf).toS
 have key:∀ (h:Heap) (c₁ tk:Nat),gy h I t ((items.size:Int) - 1 - ((0:Nat):Int))→IsTup h t items→(∀ b o,b≠S→s.heap.get? b=some o→h.get? b=some o)→
   h.get? S=some { cls:=.type "list",data:=.seq #[] c₁ }→codeAny (model prog w) A (.builtin "list.extend.loop" ⟨[.ref S,.ref I,res],[]⟩) R { s with heap:=h,toks:=tk }:=by
  intro h c₁ tk hit ht hk yX
  refine codeAny_extend_loopS W hlen S hSf res items.size 0 _ #[] c₁ rfl (Nat.zero_le _) ⟨Nat.zero_le _,hit,ht⟩ yX (ItemsOf.nil _) fun s' acc' c' hm hS' hacc=>?_
  rw [Moved.eq_with hm]
  refine hR s'.heap s'.toks acc' c' (fun b o hb hb2 e=>hm.heap b o (fun hmem=>?_) (hk b o hb e)) hS' hacc
  rcases List.mem_cons.mp hmem with e' | hmem
  ·exact hb e'
  ·exact hb2 (List.mem_singleton.mp hmem)
 unfold Builtin.List.listExtendWith
 refine wpAny_bind (wpAny_typeOf (T:="reversed") hit.typeIs ?_)
 have h1:Builtin.List.listSameRef (.ref S) (.ref I)=false:=by simp [Builtin.List.listSameRef,hSI]
 have h2:(Value.type "reversed" ==Value.type "list")=false:=by decide
 have h3:(Value.type "reversed" ==Value.type "tuple")=false:=by decide
 simp only [h1,h2,h3,Bool.or_false,Bool.false_eq_true,if_false]
 refine wpAny_bind (ua hit ?_)
 refine wpAny_bind (wpAny_holding (CY hit ht hlen fun tk=>?_))
 have Mq:gy s.heap I t ((items.size:Int) - 1 - ((0:Nat):Int)):=by simpa using hit
 refine wpAny_ite_split (fun _=>?_) (fun _=>wpAny_pure ⟨plainId_quiet F.plain_extend_loop _,key _ c₀ _ Mq ht (fun b o _ e=>e) hS⟩)
 refine wpAny_bind (wpAny_rule ?_)
 refine wpAny_bind ?_
 show wpAny _ _ (updateSeq S (·.push .none) >>= fun _=>updateSeq S (·.pop)) _ _ _
 refine wpAny_bind (wpAny_updateSeq hS rfl ?_)
 have sG:=Heap.get?_update_self (Obj.mapSeq (·.push Value.none)) hS rfl
 refine wpAny_updateSeq (hz:=by seq_fits) sG rfl ?_
 have R4:=Heap.get?_update_self (Obj.mapSeq (·.pop)) sG rfl
 have ot:∀ b o,b≠S→s.heap.get? b=some o→((s.heap.update S (Obj.mapSeq (·.push Value.none))).update S (Obj.mapSeq (·.pop))).get? b=some o:=fun b o hb e=>(Heap.get?_update_other _ _ (Ne.symm hb)).trans ((Heap.get?_update_other _ _ (Ne.symm hb)).trans e)
 exact wpAny_pure ⟨plainId_quiet F.plain_extend_loop _,key _ _ _ (Mq.at fun o e=>ot _ _ (Ne.symm hSI) e) (m9 ht fun o e=>ot _ _ (Ne.symm hSt) e) ot R4⟩
theorem CZ {R:Result→Shared→Prop}{I t:Addr}{items:Array Value}(hh:A.handled=none) (hit:gy s.heap I t ((items.size:Int) - 1)) (ht:IsTup s.heap t items) (hne:t≠I) (hlen:items.size≤sizeLine)
  (S:Addr) (hSI:S≠I) (hSt:S≠t) (hS:s.heap.get? S=some { cls:=.type "list",data:=.seq #[]})
  (hR:∀ h' tk acc' c',(∀ b o,b≠S→b≠I→s.heap.get? b=some o→h'.get? b=some o)→h'.get? S=some { cls:=.type "list",dict:=none,data:=.seq acc' c',slots:=#[]}→
   ItemsOf (fun i v=>items[items.size - 1 - i]?=some v) acc' items.size→R (.ok (.ret .none)) { s with heap:=h',toks:=tk }) :
  wpAny (model prog w) A.in1 (Builtin.«list.__init__» ⟨[.ref S,.ref I],[]⟩)
   (fun fin s'=>match fin with | .done f=>R (.ok f) s' | .again c'=>c'.quiet=true∧codeAny (model prog w) A c' R s') (fun e s'=>R (.error e) s') s:=by
 show wpAny _ _ (do let old ←Builtin.List.listItems (.ref S);Builtin.List.listUpdate (.ref S) (fun _=>#[]);letGo old.toList.reverse;Builtin.List.listExtendWith (.ref S) (.ref I) .none) _ _ s
 refine wpAny_bind ?_
 unfold Builtin.List.listItems
 refine wpAny_bind (wpAny_seqItems hS rfl (wpAny_pure ?_))
 show wpAny _ _ (updateSeq S (fun _=>#[]) >>= fun _=>letGo (#[]:Array Value).toList.reverse >>= fun _=>Builtin.List.listExtendWith (.ref S) (.ref I) .none) _ _ s
 refine wpAny_bind (wpAny_updateSeq hS rfl ?_)
 have sG:=Heap.get?_update_self (Obj.mapSeq (fun _=>(#[]:Array Value))) hS rfl
 have Mr:∀ b o,b≠S→s.heap.get? b=some o→(s.heap.update S (Obj.mapSeq (fun _=>(#[]:Array Value)))).get? b=some o:=
  fun b o hb e=>(Heap.get?_update_other _ _ (Ne.symm hb)).trans e
 refine wpAny_bind (wpAny_letGo ?_)
 refine yW hh (hit.at fun o e=>Mr _ _ (Ne.symm hSI) e) (m9 ht fun o e=>Mr _ _ (Ne.symm hSt) e) hne hlen S hSI hSt .none _ sG fun h' tk acc' c' hk hS' hacc=>?_
 exact hR h' tk acc' c' (fun b o hb hb2 e=>hk b o hb hb2 (Mr b o hb e)) hS' hacc
theorem sC {Q:Value→Shared→Prop}{I t:Addr}{items:Array Value}(hh:A.handled=none) (hit:gy s.heap I t ((items.size:Int) - 1)) (ht:IsTup s.heap t items) (hne:t≠I) (hlen:items.size≤sizeLine)
  (hQ:∀ h' tk acc' c',(∀ b o,b≠I→s.heap.get? b=some o→h'.get? b=some o)→
   h'.get? s.heap.objs.size=some { cls:=.type "list",dict:=none,data:=.seq acc' c',slots:=#[]}→ItemsOf (fun i v=>items[items.size - 1 - i]?=some v) acc' items.size→Q (.ref s.heap.objs.size) { s with heap:=h',toks:=tk }) :
  wpAny (model prog w) A (call (.type "list") [.ref I]) Q E s:=by
 refine callType_codes (Q₁:=fun obj s₁=>obj=.ref s.heap.objs.size∧s₁={ s with heap:=s.heap.push { cls:=.type "list",data:=.seq #[]}}) F.called_list (F.typeCall_list_1 _) F.entry_list_init
  (code_list_new _ ⟨rfl,rfl⟩) fun obj s₁ h₁=>?_
 obtain ⟨rfl,rfl⟩:=h₁
 have hS:(s.heap.push { cls:=.type "list",data:=.seq #[]}).get? s.heap.objs.size=some { cls:=.type "list",data:=.seq #[]}:=Heap.get?_push_size _ rfl
 have hI:I<s.heap.objs.size:=by obtain ⟨o,ho,_⟩:=hit;exact Heap.lt_size ho
 have hT:t<s.heap.objs.size:=by obtain ⟨o,ho,_⟩:=ht;exact Heap.lt_size ho
 refine ⟨⟨_,hS,rfl⟩,F.args_list_init_2 _ _,CZ (A:=A.in1) hh (hit.at fun o e=>Heap.get?_push_of_some _ e) (m9 ht fun o e=>Heap.get?_push_of_some _ e) hne hlen _ (Nat.ne_of_gt hI) (Nat.ne_of_gt hT) hS fun h' tk acc' c' hk hS' hacc=>?_⟩
 exact ⟨rfl,hQ h' tk acc' c' (fun b o hb e=>hk b o (Nat.ne_of_lt (Heap.lt_size e)) hb (Heap.get?_push_of_some _ e)) hS' hacc⟩
end
end Rv
namespace Sm
open PySem PySem.Spec PyProof.Rows L2 PySem.SeqAt
open Ev (D O Hh Fr R aW E Es Eo T S Ss Fl Src cz b7 TY BI ME)
section
variable {X:Cx}{G:Tb}{n:Nat}{sc:Scope}{N:List Str}{df:Bool}{m:List Nat}{a b c:E}{xa xb xc tg:Expr}{pos:Pos}
theorem uc {vs:List V}{us:List Value}(r:Vals vs us) {acc:Array Value}(h:ItemsOf (fun i v=>us.toArray[us.toArray.size - 1 - i]?=some v) acc us.toArray.size):Vals vs.reverse acc.toList:=by
 obtain ⟨h1,h2⟩:=h
 have e:acc.toList=us.reverse:=by
  apply List.ext_getElem?
  intro i
  by_cases hi:i<us.length
  ·have ha:i<acc.size:=by rw [h1];simpa using hi
   have:=h2 i _ (Array.getElem?_eq_getElem ha)
   rw [List.getElem?_reverse hi]
   simp only [List.size_toArray,List.getElem?_toArray] at this
   rw [this]
   simp [ha]
  ·have hs:acc.size=us.length:=by rw [h1];simp
   rw [List.getElem?_eq_none (by rw [Array.length_toList];omega),List.getElem?_eq_none (by rw [List.length_reverse];omega)]
 rw [e];exact Vals.reverse r
theorem IM {p p2 pos2:Pos}(ha:JE G n sc N df m a xa) (h1:("list" : Str)∈G.bl:=by decide +kernel) (t7:sc.names.lookup ("list" : Str)=some .globalImplicit:=by rfl)
  (hg:sc.names.lookup ("reversed" : Str)=some .globalImplicit:=by rfl) (hb:("reversed" : Str)∈G.bl:=by decide +kernel)
  (hst:∀ env:Env,starEach [xa] env=[(false,eval xa env)]:=by intro _;rfl)
  (ud:∀ env:Env,starEach [Expr.Call (.Name "reversed" p2) [xa] [] pos2] env=[(false,eval (Expr.Call (.Name "reversed" p2) [xa] [] pos2) env)]:=by intro _;rfl) :
  JE G n sc N df m (.iL (.rev a)) (.Call (.Name "list" p) [.Call (.Name "reversed" p2) [xa] [] pos2] [] pos):=fun X g=>by
 intro pins s σ H Q I q
 obtain ⟨r,fr,h,d,h',sr,hr,e,q⟩:=q
 rw [Ev.ev,Ev.cO] at e
 replace e:=Ev.aj e;obtain ⟨src,h3,e1,e⟩:=e
 replace e1:=Ev.aj e1;obtain ⟨x,h4,e2,e1⟩:=e1
 replace e1:=Ev.aS e1;obtain ⟨e1,y0⟩:=e1;subst y0
 refine wpAny_Call_Name_kw (iu I (g.gl t7) (g.bl _ h1) (show bootBuiltins ("list" : Str)=some (.type "list") by decide +kernel) ?_ (by decide) (by decide))
 refine PyProof.Rows.callWith_type1 ?_ (ud _) rfl
 rw [ud]
 show wpAny _ _ (spliced ((false,eval (Expr.Call (.Name "reversed" p2) [xa] [] pos2) X.env) :: backTo pos [])) _ _ s
 refine Calls.spliced_cons ?_
 have AM:PA X [xa] _:=gT (ha X g) ko (by rw [hst];rfl)
 refine Call_ (iu I (g.gl hg) (g.bl _ hb) (show bootBuiltins ("reversed" : Str)=some (.type "reversed") by decide +kernel) (PyProof.Rows.callWith_type1 (bS (AM pos2 pins s σ H (fun vs H1=>∃ r1 u,vs=[u]∧RV X.K H1 r1 x u∧HR X.K H1 r1 h3∧Fm X.K r r1 H H1) I ⟨r,fr,h,x,h3,sr,hr,e2,fun u H1 r1 v1 hr1 f1=>⟨r1,u,rfl,v1,hr1,f1⟩⟩) fun us s1 z=>?_) (hst _) rfl))
 obtain ⟨vs,H1,I1,rv,r1,u,rfl,v1,hr1,f1⟩:=z
 cases x <;> simp only [Ev.CG,Option.map,reduceCtorEq] at e1
 rename_i ds
 cases e1
 obtain ⟨t,ws,rfl,z,w⟩:=v1.shape
 cases rv with
 | cons ra rb=>
 cases rb
 cases ra
 obtain ⟨its,pv,pt,hz⟩:=I1.tuple z
 have hlen:its.toArray.size≤sizeLine:=by rw [List.size_toArray,←pv.length];exact hz
 have hf:(its.toArray.size:Int)<2 ^ 63:=by rw [sizeLine_eq] at hlen;omega
 refine Rv.CW pt hf ?_
 refine Calls.spliced_nil ?_
 have I2:Inv X pins σ H1 { s1 with heap:=s1.heap.push (Rv.m8 t ((its.toArray.size:Int) - 1)),toks:=s1.toks+1+1 }:=I1.kept fun b o e=>Heap.get?_push_of_some _ e
 have hne:t≠s1.heap.objs.size:=by obtain ⟨o,ho,_⟩:=pt;exact Nat.ne_of_lt (Heap.lt_size ho)
 refine Rv.sC (I1.ok.hd g.calm) ⟨_,Heap.get?_push_size _ rfl,rfl,rfl⟩ (Rv.m9 pt fun o e=>Heap.get?_push_of_some _ e) hne hlen fun h' tk acc' c' hk hS' hacc=>?_
 obtain ⟨hz2,q2⟩:=(q.later f1).lst e w.reverse hr1
 have hp:s1.heap.objs.size≤(s1.heap.push (Rv.m8 t ((its.toArray.size:Int) - 1))).objs.size:=by rw [size_push'];exact Nat.le_succ _
 refine ⟨.ref _,_,I1.laid (t':=tk) (o:=.lst ws.reverse) (fun b u e=>hk b u (Nat.ne_of_lt (Heap.lt_size e)) (Heap.get?_push_of_some _ e)) hp ?_,rfl,q2 _ (I1.hok.fresh hp)⟩
 exact ⟨by simpa using hz,acc'.toList,c',uc pv hacc,by simpa using hS'⟩
end
end Sm
set_option maxRecDepth 100000
namespace Rv
open PySem PySem.Spec PyProof.Rows
section
variable {prog:Program}{w:World}{A:Around}{E:Value→Shared→Prop}{s:Shared}
theorem AR:typeLookup (.type "list_reverseiterator") "__len__" = pure none:=by rw [typeLookup_type,builtinLookup_eq_fast];kernel_rfl
theorem C0:typeLookup (.type "list_reverseiterator") "__length_hint__" = pure (some (.builtin "list_reverseiterator.__length_hint__")):=by rw [typeLookup_type,builtinLookup_eq_fast];kernel_rfl
theorem vS {Q:List Value→Shared→Prop}{I:Addr}{fp wr:List Addr}{G:Array GenState→Array GenState→Prop}{n:Nat}{P:Nat→Value→Prop}{St:Nat→Shared→Prop}
  (W:WalksS prog w A.in1 I fp wr G n P St) (hT:∀ i s,St i s→s.TypeIs (.ref I) "list_reverseiterator") (hst:St 0 s) (hfp:∀ b∈fp,b<s.heap.objs.size) (hI:I∈fp)
  (hQ:∀ s' acc,Moved wr G s s'→ItemsOf P acc n→Q acc.toList s') (hn:n≤sizeLine):wpAny (model prog w) A (collect (.ref I)) Q E s:=by
 have hSf:s.heap.objs.size∉fp:=fun hm=>Nat.lt_irrefl _ (hfp _ hm)
 have hSI:s.heap.objs.size≠I:=fun e=>hSf (e▸hI)
 unfold collect
 refine wpAny_bind (wpAny_runValue (codeAny_builtin F.entry_proto_collect ?_))
 rw [Around.under_plainId F.plain_proto_collect _]
 show wpAny _ A.in1 (newList [] >>= fun l=>again (.builtin "list.__iadd__" ⟨[l,.ref I],[]⟩)) _ _ s
 refine wpAny_bind (wpAny_newObj_type ?_)
 refine wpAny_pure ⟨plainId_quiet F.plain_list_iadd _,codeAny_builtin F.entry_list_iadd ?_⟩
 rw [Around.under_plainId F.plain_list_iadd _]
 have kB:=W.frame 0 s (s.heap.push { cls:=.type "list",data:=.seq ([]:List Value).toArray }) s.toks hst (Nat.le_refl _) fun b _ o e=>Heap.get?_push_of_some _ e
 have yX:(s.heap.push { cls:=.type "list",data:=.seq ([]:List Value).toArray }).get? s.heap.objs.size=some { cls:=.type "list",data:=.seq ([]:List Value).toArray }:=Heap.get?_push_size _ rfl
 have h1:Builtin.List.listSameRef (.ref s.heap.objs.size) (.ref I)=false:=by simp [Builtin.List.listSameRef,hSI]
 show wpAny _ A.in1 (Builtin.List.listExtendWith (.ref s.heap.objs.size) (.ref I) (.ref s.heap.objs.size)) _ _ _
 unfold Builtin.List.listExtendWith
 refine wpAny_bind (wpAny_typeOf (hT 0 _ kB) ?_)
 rw [if_neg (by rw [h1];decide)]
 refine wpAny_bind (W.self 0 _ _ _ kB ?_)
 refine wpAny_bind (wpAny_holding ?_)
 unfold Builtin.List.listLengthHint
 refine wpAny_bind (wpAny_specialOf (hT 0 _ kB) AR ?_)
 show wpAny _ A.in1 (specialOf (Value.ref I) (Str.ofString "__length_hint__") >>= _) _ _ _
 refine wpAny_bind (wpAny_specialOf (hT 0 _ kB) C0 ?_)
 generalize hid:("list_reverseiterator.__length_hint__" : String)=Mm
 wp_delta
 rw [show splitId Mm=some ("list_reverseiterator","__length_hint__") from by subst hid;decide +kernel]
 subst hid
 refine wpAny_bind (wpAny_isInstance (b:=true) (hT 0 _ kB) (by rw [isSubtype_type];kernel_rfl) ?_)
 refine wpAny_pure ?_
 rw [if_neg (by decide)]
 refine wpAny_pure ⟨plainId_quiet F.plain_extend_loop _,codeAny_extend_loopS W hn _ hSf _ n 0 _ _ _ rfl (Nat.zero_le _) kB yX (ItemsOf.nil P) fun s' acc' c' hm hS' hacc=>?_⟩
 show wpAny _ A (load s.heap.objs.size >>= _) _ _ s'
 refine wpAny_bind (wpAny_load hS' ?_)
 exact wpAny_pure (hQ s' acc' (Moved.drop_new (o:={ cls:=.type "list",data:=.seq ([]:List Value).toArray }) (tk:=s.toks) hm (Nat.le_refl _)) hacc)
theorem qz {Q₁:Value→Shared→Prop}{I:Addr}{fp wr:List Addr}{G:Array GenState→Array GenState→Prop}{n:Nat}{P:Nat→Value→Prop}{St:Nat→Shared→Prop}
  (W:WalksS prog w A.in1.in1 I fp wr G n P St) (hT:∀ i s,St i s→s.TypeIs (.ref I) "list_reverseiterator") (hst:St 0 s) (hfp:∀ b∈fp,b<s.heap.objs.size) (hI:I∈fp)
  (h:∀ s' acc,Moved wr G s s'→ItemsOf P acc n→Q₁ (.ref s'.heap.objs.size) { s' with heap:=s'.heap.push { cls:=.type "tuple",data:=.seq acc }}) (hsz:n≤sizeLine) :
  codeAny (model prog w) A (.call (.builtin "tuple.__new__") ⟨[.type "tuple",.ref I],[]⟩) (wants Q₁ E) s:=by
 refine codeAny_of_tree ?_
 show wpAny _ A.in1 (do checkBuiltinCall "tuple.__new__" ⟨[.type "tuple",.ref I],[]⟩;again (.builtin "tuple.__new__" ⟨[.type "tuple",.ref I],[]⟩)) _ _ s
 refine wpAny_bind (wpAny_of_eq (F.newCall_tuple_1 _) (wpAny_pure ⟨plainId_quiet F.plain_tuple_new _,codeAny_builtin F.entry_tuple_new ?_⟩))
 rw [Around.under_plainId F.plain_tuple_new _]
 have hsub:=sub_tuple_self
 have aal:=init_tuple_lookup
 have hmh:=madeHere_tuple
 have hTI:=hT 0 s hst
 wp_walk using wpAny_typeOf hTI,vS (hn:=hsz) W hT hst hfp hI
 intro s' acc hm hacc
 show wpAny _ _ (Builtin.Tuple.tupleExact acc.toList.toArray >>= fun v=>ret v) _ _ _
 unfold Builtin.Tuple.tupleExact
 refine wpAny_bind (wpAny_newObj_type ?_ (by show acc.toList.toArray.size≤sizeLine;simp only [Array.toArray_toList];rw [hacc.1];exact hsz))
 refine wpAny_pure ?_
 have e:acc.toList.toArray=acc:=by simp
 rw [e]
 exact h s' acc hm hacc
theorem qA {Q:Value→Shared→Prop}{I:Addr}{fp wr:List Addr}{G:Array GenState→Array GenState→Prop}{n:Nat}{P:Nat→Value→Prop}{St:Nat→Shared→Prop}
  (W:WalksS prog w A.in1.in1.in1 I fp wr G n P St) (hT:∀ i s,St i s→s.TypeIs (.ref I) "list_reverseiterator") (hst:St 0 s) (hfp:∀ b∈fp,b<s.heap.objs.size) (hI:I∈fp)
  (hQ:∀ s' acc,Moved wr G s s'→ItemsOf P acc n→Q (.ref s'.heap.objs.size) { s' with heap:=s'.heap.push { cls:=.type "tuple",data:=.seq acc }}) (hsz:n≤sizeLine) :
  wpAny (model prog w) A (call (.type "tuple") [.ref I]) Q E s:=by
 refine callType_codes (Q₁:=fun obj s₁=>s₁.TypeIs obj "tuple" ∧Q obj s₁) F.called_tuple (F.typeCall_tuple_1 _) F.entry_object_init
  (qz (hsz:=hsz) W hT hst hfp hI fun s' acc hm hacc=>⟨⟨_,Heap.get?_push_size _ rfl,rfl⟩,hQ s' acc hm hacc⟩) fun obj s₁ h₁=>?_
 exact ⟨h₁.1,F.args_object_init_2 obj _,object_init_meets F.called_tuple.init.lookup F.called_tuple.made (by decide) prog w A.in1 _ s₁ ⟨h₁.1,rfl,h₁.2⟩⟩
theorem qB {Q:Value→Shared→Prop}{I l:Addr}{items:Array Value}(hh:A.handled=none) (hit:s.heap.IsRevIter I l ((items.size:Int) - 1)) (hl:s.heap.IsList l items) (hne:l≠I) (hlen:items.size≤sizeLine)
  (hQ:∀ (h':Heap) (tk:Nat) (acc:Array Value),(∀ b o,b≠I→s.heap.get? b=some o→h'.get? b=some o)→ItemsOf (fun i v=>items[items.size - 1 - i]?=some v) acc items.size→
   Q (.ref h'.objs.size) { s with heap:=h'.push { cls:=.type "tuple",data:=.seq acc },toks:=tk }):wpAny (model prog w) A (call (.type "tuple") [.ref I]) Q E s:=by
 have W:=(Walks.listRev (prog:=prog) (w:=w) (A:=A.in1.in1.in1) hh I l hne items).toS
 refine qA W (fun i s x=>x.2.1.typeIs) ⟨Nat.zero_le _,by simpa using hit,hl⟩ (fun b hb=>?_) (by simp) (fun s' acc hm hacc=>?_) hlen
 ·rcases List.mem_cons.mp hb with rfl | hb
  ·obtain ⟨o,ho,_⟩:=hit;exact Heap.lt_size ho
  ·rw [List.mem_singleton.mp hb];obtain ⟨o,ho,_⟩:=hl;exact Heap.lt_size ho
 ·rw [Moved.eq_with hm]
  exact hQ s'.heap s'.toks acc (fun b o hb e=>hm.heap b o (fun hmem=>hb (List.mem_singleton.mp hmem)) e) hacc
end
end Rv
namespace Sm
open PySem PySem.Spec PyProof.Rows L2 PySem.SeqAt
open Ev (D O Hh Fr R aW E Es Eo T S Ss Fl Src cz b7 TY BI ME)
section
variable {X:Cx}{G:Tb}{n:Nat}{sc:Scope}{N:List Str}{df:Bool}{m:List Nat}{a b c:E}{xa xb xc tg:Expr}{pos:Pos}
theorem Ms {p p2 pos2:Pos}(ha:JE G n sc N df m a xa) (h1:("tuple" : Str)∈G.bl:=by decide +kernel) (t7:sc.names.lookup ("tuple" : Str)=some .globalImplicit:=by rfl)
  (hg:sc.names.lookup ("reversed" : Str)=some .globalImplicit:=by rfl) (hb:("reversed" : Str)∈G.bl:=by decide +kernel)
  (hst:∀ env:Env,starEach [xa] env=[(false,eval xa env)]:=by intro _;rfl)
  (ud:∀ env:Env,starEach [Expr.Call (.Name "reversed" p2) [xa] [] pos2] env=[(false,eval (Expr.Call (.Name "reversed" p2) [xa] [] pos2) env)]:=by intro _;rfl) :
  JE G n sc N df m (.lM a) (.Call (.Name "tuple" p) [.Call (.Name "reversed" p2) [xa] [] pos2] [] pos):=fun X g=>by
 intro pins s σ H Q I q
 obtain ⟨r,fr,h,d,h',sr,hr,e,q⟩:=q
 rw [Ev.ev] at e
 replace e:=Ev.aj e;obtain ⟨x,h3,e2,e⟩:=e
 refine wpAny_Call_Name_kw (iu I (g.gl t7) (g.bl _ h1) (show bootBuiltins ("tuple" : Str)=some (.type "tuple") by decide +kernel) ?_ (by decide) (by decide))
 refine PyProof.Rows.callWith_type1 ?_ (ud _) rfl
 rw [ud]
 show wpAny _ _ (spliced ((false,eval (Expr.Call (.Name "reversed" p2) [xa] [] pos2) X.env) :: backTo pos [])) _ _ s
 refine Calls.spliced_cons ?_
 have AM:PA X [xa] _:=gT (ha X g) ko (by rw [hst];rfl)
 refine Call_ (iu I (g.gl hg) (g.bl _ hb) (show bootBuiltins ("reversed" : Str)=some (.type "reversed") by decide +kernel) (PyProof.Rows.callWith_type1 (bS (AM pos2 pins s σ H (fun vs H1=>∃ r1 u,vs=[u]∧RV X.K H1 r1 x u∧HR X.K H1 r1 h3∧Fm X.K r r1 H H1) I ⟨r,fr,h,x,h3,sr,hr,e2,fun u H1 r1 v1 hr1 f1=>⟨r1,u,rfl,v1,hr1,f1⟩⟩) fun us s1 z=>?_) (hst _) rfl))
 obtain ⟨vs,H1,I1,rv,r1,u,rfl,v1,hr1,f1⟩:=z
 cases x <;> simp only [Ev.yC,reduceCtorEq] at e
 rename_i i
 split at e
 ·rename_i ds e1
  split at e
  ·cases e
   obtain ⟨t,rfl,z⟩:=v1.shape
   obtain ⟨t',ws,z',q1,w⟩:=hr1.read e1
   rw [z] at z';cases z'
   cases rv with
   | cons ra rb=>
   cases rb
   cases ra
   obtain ⟨its,pv,pl,hz⟩:=I1.list q1
   have hlen:its.toArray.size≤sizeLine:=by rw [List.size_toArray,←pv.length];exact hz
   refine call_reversed_list pl.isList ?_
   refine Calls.spliced_nil ?_
   have I2:Inv X pins σ H1 { s1 with heap:=s1.heap.push (revObj t ((its.toArray.size:Int) - 1))}:=I1.kept fun b o e=>Heap.get?_push_of_some _ e
   have hne:t≠s1.heap.objs.size:=by obtain ⟨o,ho,_⟩:=pl.isList;exact Nat.ne_of_lt (Heap.lt_size ho)
   refine Rv.qB (I1.ok.hd g.calm) ⟨_,Heap.get?_push_size _ rfl,rfl,rfl⟩ (pl.isList.at fun o e=>Heap.get?_push_of_some _ e) hne hlen fun h4 tk acc hk hacc=>?_
   have I3:Inv X pins σ H1 { s1 with heap:=h4 }:=I1.kept fun b o e=>hk b o (Nat.ne_of_lt (Heap.lt_size e)) (Heap.get?_push_of_some _ e)
   have I4:Inv X pins σ (upd H1 h4.objs.size (.tup ws.reverse)) { s1 with heap:=h4.push { cls:=.type "tuple",data:=.seq acc },toks:=tk }:=
    I3.laid (t':=tk) (fun b o e=>Heap.get?_push_of_some _ e) (Nat.le_refl _) (show dH X.prog X.w _ _ _ (.tup ws.reverse) from ⟨by simpa using hz,acc.toList,uc pv hacc,by simpa using IsTup.new h4 acc⟩)
   exact ⟨.ref h4.objs.size,_,I4,rfl,(q.later f1).tup w.reverse hr1 (I3.hok.fresh (Nat.le_refl _))⟩
  ·cases e
 ·cases e
end
end Sm
set_option maxRecDepth 100000
namespace Sm
open PySem PySem.Spec PyProof.Rows L2 PySem.SeqAt
open Ev (D O Hh Fr R aW E Es Eo T S Ss Fl Src cz b7 TY BI ME)
end Sm
set_option maxRecDepth 100000
namespace Sm
open PySem PySem.Spec PyProof.Rows L2 PySem.SeqAt
open Ev (D O Hh Fr R aW E Es Eo T S Ss Fl Src cz b7 TY BI ME)
section
variable {G:Tb}{n:Nat}{sc:Scope}{N:List Str}{df:Bool}{m:List Nat}{a b c:E}{xa xb xc:Expr}{pos:Pos}
end
end Sm
set_option maxRecDepth 100000
namespace Sm
open PySem PySem.Spec PyProof.Rows L2 PySem.SeqAt
open Ev (D O Hh Fr R aW E Es Eo T S Ss Fl Src cz b7 TY BI ME)
theorem aO.ofInts {K:PySem.W.Frag}{H:Hp}{r:List Addr}:∀ ns:List Int,aO K H r (ns.map D.int) (ns.map V.int)
 | []=>.nil
 | _ :: l=>.cons rfl (aO.ofInts l)
theorem Mt {K:PySem.W.Frag}{H:Hp}{a:Addr}{vs:List V}(hO:qm H) (hS:dZ K H a vs):yD K H a vs:=by
 rcases hS with h | h
 ·rcases h with h | ⟨o,h⟩
  ·rcases hO a with q | ⟨o,xs,q⟩
   ·rw [q] at h;cases h
   ·rw [q] at h;cases h
  ·exact .inl ⟨o,h⟩
 ·exact .inr h
theorem R5 {K:PySem.W.Frag}{F:List Ev.Fn}{w n f:Nat}{H:Hp}{a:Addr}{ns:List Int}(hO:qm H) (hS:dZ K H a (ns.map V.int)) {h':Hh}(e:Ev.run F w n f [.ref 0] [.bR (ns.map D.int)]=.ok (.bl true) h') :
  nJ K F w n f [.ref a] H (fun v _=>v=.bl true) fun _ _ _=>False:=by
 refine ⟨[a],[.bR (ns.map D.int)],[.ref 0],.bl true,h',.cons (show RV K H [a] (.ref 0) (.ref a) from ⟨a,rfl,rfl⟩) .nil,⟨rfl,fun k o hk=>?_,fun k l b x y _ _ hk _=>?_⟩,e,fun v H' r' v1 _ _=>v1⟩
 ·cases k with
  | zero=>
   simp at hk
   subst hk
   exact ⟨a,rfl,_,Mt hO hS,aO.ofInts ns⟩
  | succ k=>simp at hk
 ·cases k with
  | zero=>simp at hk
  | succ k=>simp at hk
theorem IP {F:List Ev.Fn}{wh n f:Nat}{l:PySem.W.OpenLaw}{q:Program}{loose:List Str}{XP:(Str→Option Value)→Heap→Prop}{YP:World→Heap→Prop}{d:DefRec}{K:Params→PySem.W.Frag}{x:Str}(hn:l.most=some 63) (hdf:d.params.defaults=[]) (hr:gP n callerA)
  (hY:∀ (w:World) (h:Heap),YP w h→(K w.params).In h) (good:∀ ns:List Int,ns.length≤63→∃ h',Ev.run F wh n f [.ref 0] [.bR (ns.map D.int)]=.ok (.bl true) h')
  (Fo:∀ (w:World) (mg:Str→Option Value) (fa:Addr) (h:Heap),(K w.params).In h→h.Ns mainGlobals mg→mg d.name=some (.ref fa)→
   ∃ fd:FuncData,(∀ (s:Shared) (u:Value),BindsTo s fd ⟨[u],[]⟩ [(x,u)])∧∀ base:Heap,(K w.params).In base→base.Ns mainGlobals mg→iO l.prog w (K w.params) mg base lY n fa fd [x] (nJ (K w.params) F wh n f)) :
  PySem.W.WalkO q loose XP YP l.row.toRowW d [] (fun f vs=>PySem.call f vs):=
 L2.CD (n:=63) (k:=n) (x:=x) (CX:=lY) (sp:=fun K=>nJ K F wh n f) hn (by decide) hdf hr hY Fo (fun K H a ns hl hO hS=>by
  obtain ⟨h',e⟩:=good ns hl
  exact R5 hO hS e) fun _ _ _ _ z=>z
theorem AS {P:Program}{w:World}{K:PySem.W.Frag}{mg:Str→Option Value}{base:Heap}{G:Tb}(T:Top P w K mg G)
  (st:∀ n,sF P w K mg base G n→sF P w K mg base G (n+1)):∀ n,sF P w K mg base G n
 | 0=>fun f i _=>Iu
 | n+1=>st n (AS T st n)
structure At (K:PySem.W.Frag) (x:Str) (st:Stmt) (i:FI):Prop where
 name:i.name=x
 ns:PySem.W.nsIn K mainGlobals x=some (some (.ref i.addr))
 fu:tN K x x st i.addr i.fd
 bd:Binds K i.fd i.ps []
end Sm
set_option maxRecDepth 100000
namespace Sm
open PySem PySem.Spec PyProof.Rows L2
open Ev (D O Hh Fr R aW E Es Eo It T S Ss Fl Src cz b7 TY BI ME)
section
variable {G:Tb}{n:Nat}{sc:Scope}{N:List Str}{df:Bool}{m:List Nat}{a b c:E}{xa xb xc:Expr}{pos:Pos}
noncomputable def hasB (N:List Str) (m:List Nat) (x:Str) (i:Nat):Bool:=(List.range N.length).any fun j=>m[j]?==some i&&N[j]?==some x
theorem hasB.of {x:Str}{i:Nat}(h:hasB N m x i=true):∃ j:Nat,m[j]?=some i∧N[j]?=some x:=by
 obtain ⟨j,_,q⟩:=List.any_eq_true.mp h
 rw [Bool.and_eq_true] at q
 exact ⟨j,by simpa using q.1,by simpa using q.2⟩
noncomputable def vB (sc:Scope) (N:List Str) (m:List Nat) (x:Str) (i:Nat):Bool:=hasB N m x i&&(sc.names.lookup x==some .local || sc.names.lookup x==some .cell || sc.names.lookup x==some .free)&&!(x==("__debug__" : Str))&&!(x==("__classdict__" : Str))
theorem jv {x:Str}{i:Nat}(h:vB sc N m x i=true):JE G n sc N df m (.v i) (.Name x pos):=by
 unfold vB at h
 simp only [Bool.and_eq_true,Bool.not_eq_true',Bool.or_eq_true] at h
 obtain ⟨⟨⟨h1,h2⟩,h3⟩,h4⟩:=h
 obtain ⟨j,e1,e2⟩:=hasB.of h1
 exact Xl j i e1 e2 (by rcases h2 with (h2 | h2) | h2;exact .inl (by simpa using h2);exact .inr (.inl (by simpa using h2));exact .inr (.inr (by simpa using h2))) h3 h4
noncomputable def gB (sc:Scope) (N:List Str) (df:Bool) (m:List Nat) (x:Str) (i:Nat):Bool:=hasB N m x i&&(sc.names.lookup x==some .local || (df&&sc.names.lookup x==some .cell))&&decide m.Nodup&&decide N.Nodup
theorem gB.of {x:Str}{i:Nat}(h:gB sc N df m x i=true):∃ j:Nat,m[j]?=some i∧N[j]?=some x∧(sc.names.lookup x=some .local∨(df=true∧sc.names.lookup x=some .cell))∧m.Nodup∧N.Nodup:=by
 unfold gB at h
 simp only [Bool.and_eq_true,Bool.or_eq_true] at h
 obtain ⟨⟨⟨h1,h2⟩,h3⟩,h4⟩:=h
 obtain ⟨j,e1,e2⟩:=hasB.of h1
 exact ⟨j,e1,e2,by rcases h2 with h2 | ⟨h2,h5⟩;exact .inl (by simpa using h2);exact .inr ⟨h2,by simpa using h5⟩,of_decide_eq_true h3,of_decide_eq_true h4⟩
theorem jg1 {x:Str}{i:Nat}(h:gB sc N df m x i=true):JG G n sc N df m (.one i) (.Name x pos):=by
 obtain ⟨j,e1,e2,e3,e4,e5⟩:=gB.of h
 exact LF j i e4 e5 e1 e2 e3
theorem jgc {x:Str}{i:Nat}{l:List Nat}{xs:List Expr}(h:gB sc N df m x i=true) (hs:rJ G n sc N df m l xs):rJ G n sc N df m (i :: l) (.Name x pos :: xs):=by
 obtain ⟨j,e1,e2,e3,e4,e5⟩:=gB.of h
 exact CJ j i e4 e5 hs e1 e2 e3
theorem Xy {i:Nat}{x:Str}{pos':Pos}(h:gB sc N df m x i=true) (ha:JE G n sc N df m a xa) (hs:∀ env:Env,swapsWith xa (some (.Name x pos')) pos.line env=pure false:=by intro _;rfl):JS G n sc N df m (.set i a) (.Assign [.Name x pos'] xa pos):=by
 obtain ⟨j,e1,e2,e3,e4,e5⟩:=gB.of h
 exact LG j i e4 e5 ha hs e1 e2 e3
noncomputable def UU (sc:Scope) (x:Str):Bool:=sc.names.lookup x==some .globalImplicit&&!(x==("__debug__" : Str))
theorem jcl {f:Nat}{i:FI}{es:Es}{x:Str}{e0:Expr}{xs:List Expr}{p:Pos}(h:UU sc x=true) (hf:G.fi[f]?=some i) (hx:i.name=x) (hs:JA G n sc N df m es (e0 :: xs))
  (hst:∀ env:Env,starEach (e0 :: xs) env=(false,eval e0 env) :: starEach xs env:=by intro _;rfl) (hpl:∀ env:Env,(backTo pos (starEach xs env)).any (·.1)=false:=by intro _;rfl) :
  JE G n sc N df m (.cl f es) (.Call (.Name x p) (e0 :: xs) [] pos):=by
 subst hx
 unfold UU at h
 simp only [Bool.and_eq_true,Bool.not_eq_true'] at h
 exact RS hf hs (by simpa using h.1) h.2 hst hpl
noncomputable def tgN:Expr→List Str
 | .Name x _=>[x]
 | .Tuple xs _ _=>xs.filterMap fun y=>match y with | .Name x _=>some x | _=>none
 | _=>[]
noncomputable def UW (N:List Str) (m:List Nat) (scope:Scope):List (Str×Nat):=(N.zip m).filter fun p=>scope.names.contains (p.1,NameKind.free)
noncomputable def cN (N:List Str) (m:List Nat) (scope:Scope) (tg:Expr):List Str:=tgN tg++(UW N m scope).map (·.1)
noncomputable def cM (N:List Str) (m:List Nat) (scope:Scope) (t:T):List Nat:=Ev.slots t++(UW N m scope).map (·.2)
theorem R6 {elt:E}{t:T}{it:Ev.It}{cond:Eo}{tg xi xe:Expr}{ifs:List Expr}{scope:Scope}(hn:o5 sc N m scope t (cN N m scope tg) (cM N m scope t)=true) (hs:Fc sc scope=true)
  (hi:JI G n sc N df m it tg xi) (hg:JG G n (eX sc scope) (cN N m scope tg) false (cM N m scope t) t tg) (hc:JC G n (eX sc scope) (cN N m scope tg) false (cM N m scope t) cond ifs)
  (he:JE G n (eX sc scope) (cN N m scope tg) false (cM N m scope t) elt xe) (hf:∀ (env:Env) x,foldedSetIterable xi env x=pure x:=by intro _ _;rfl):JE G n sc N df m (.comp elt t it cond) (.ListComp xe [⟨tg,xi,ifs,0⟩] scope pos):=
 xm hi hg hc he (namesOk.of hn) (j7.of hs) hf
theorem R7 {i:Nat}{x:Str}{pos' cpos:Pos}{elt:E}{t:T}{it:Ev.It}{cond:Eo}{tg xi xe:Expr}{ifs:List Expr}{scope:Scope}(h:gB sc N df m x i=true) (hn:o5 sc N m scope t (cN N m scope tg) (cM N m scope t)=true) (hs:Fc sc scope=true)
  (hi:JI G n sc N df m it tg xi) (hg:JG G n (eX sc scope) (cN N m scope tg) false (cM N m scope t) t tg) (hc:JC G n (eX sc scope) (cN N m scope tg) false (cM N m scope t) cond ifs)
  (he:JE G n (eX sc scope) (cN N m scope tg) false (cM N m scope t) elt xe) (hf:∀ (env:Env) x,foldedSetIterable xi env x=pure x:=by intro _ _;rfl) :
  JS G n sc N df m (.set i (.comp elt t it cond)) (.Assign [.Name x pos'] (.ListComp xe [⟨tg,xi,ifs,0⟩] scope cpos) pos):=by
 obtain ⟨j,e1,e2,e3,e4,e5⟩:=gB.of h
 exact Iz j i e4 e5 hi hg hc he (namesOk.of hn) (j7.of hs) e1 e2 e3 hf
theorem Xz {rest:List Expr}(ha:JT G n sc N df m a xa) (hb:JW G n sc N df m b (.BoolOp .And (xb :: rest) pos)):JT G n sc N df m (.an a b) (.BoolOp .And (xa :: xb :: rest) pos):=Lr (E8 ha hb)
theorem XA {rest:List Expr}(ha:JT G n sc N df m a xa) (hb:JW G n sc N df m b (.BoolOp .Or (xb :: rest) pos)):JT G n sc N df m (.orr a b) (.BoolOp .Or (xa :: xb :: rest) pos):=Lr (Ao ha hb)
noncomputable def allB (G:Tb) (n:Nat):List (Ss×Stmt×List Str)→Prop
 | []=>True
 | p :: r=>lO G n (aq p.2.1) p.2.2 true (List.range p.2.2.length) p.1 (aF p.2.1)∧allB G n r
theorem allB.get:∀ {l:List (Ss×Stmt×List Str)}{k:Nat}{p:Ss×Stmt×List Str},allB G n l→l[k]?=some p→lO G n (aq p.2.1) p.2.2 true (List.range p.2.2.length) p.1 (aF p.2.1)
 | [],_,_,_,e=>nomatch e
 | _ :: _,0,_,h,e=>by cases e;exact h.1
 | _ :: r,k+1,p,h,e=>allB.get (l:=r) (k:=k) h.2 (by simpa using e)
end
end Sm
namespace Pv
open Ev (D cz b7 TY BI ME T E Es Eo It S Ss Fn big deep b2i rep cH eG b5 aU cut cU eB slots)
theorem nd {α:Type _}{a b:α}(h:a=b):a=b:=h
inductive V where
 | bB | bl (b:Bool) | int (i:Int) | str (s:List Nat) | tup (l:List V) | lst (l:List V) | bR (l:List V)
inductive Sl where
 | val (v:V) | own (l:List V) | bor (l:List V) | ro (l:List V)
abbrev Fr:=List (Option Sl)
inductive R (α:Type) where
 | ok (a:α) (fr:Fr)
 | bad
noncomputable def R.bind {α β:Type}(r:R α) (f:α→Fr→R β):R β:=
 match r with
 | .ok a h=>f a h
 | .bad=>.bad
@[simp] theorem au {α β:Type} (a:α) (h:Fr) (f:α→Fr→R β):(R.ok a h).bind f=f a h:=nd rfl
@[simp] theorem CF {α β:Type} (f:α→Fr→R β):(R.bad:R α).bind f=.bad:=nd rfl
theorem aj {α β:Type}{r:R α}{f:α→Fr→R β}{b:β}{h:Fr}(e:r.bind f=.ok b h):∃ a h1,r=.ok a h1∧f a h1=.ok b h:=by
 cases r with
 | ok a h1=>exact ⟨a,h1,rfl,e⟩
 | bad=>cases e
noncomputable def R.of {α:Type}(o:Option α) (h:Fr):R α:=match o with
 | some a=>.ok a h
 | none=>.bad
@[simp] theorem d8 {α:Type} (a:α) (h:Fr):R.of (some a) h=.ok a h:=nd rfl
@[simp] theorem of_none {α:Type} (h:Fr):R.of (none:Option α) h=.bad:=nd rfl
theorem aS {α:Type}{o:Option α}{h h':Fr}{a:α}(e:R.of o h=.ok a h'):o=some a∧h'=h:=by
 cases o with
 | none=>cases e
 | some b=>cases e;exact ⟨rfl,rfl⟩
inductive Fl where
 | nx | bk | ct | ret (v:V)
mutual
noncomputable def ofD:D→Option V
 | .bB=>some .bB
 | .bl b=>some (.bl b)
 | .int i=>some (.int i)
 | .str s=>some (.str s)
 | .tup ds=>(ue ds).map .tup
 | .ref _=>none
noncomputable def ue:List D→Option (List V)
 | []=>some []
 | d :: ds=>(ofD d).bind fun v=>(ue ds).map fun vs=>v :: vs
end
noncomputable def cJ (f:V→V→Option Bool):List V→List V→Option Bool
 | [],[]=>some true
 | x :: xs,y :: ys=>(f x y).bind fun b=>(cJ f xs ys).bind fun c=>some (b&&c)
 | _,_=>some false
noncomputable def dG:Nat→V→V→Option Bool
 | 0,_,_=>none
 | _+1,.bB,_=>none
 | _+1,.bl _,_=>none
 | _+1,_,.bB=>none
 | _+1,_,.bl _=>none
 | _+1,.int a,.int b=>some (a==b)
 | _+1,.str a,.str b=>some (a==b)
 | n+1,.tup a,.tup b=>cJ (dG n) a b
 | n+1,.lst a,.lst b=>cJ (dG n) a b
 | n+1,.bR a,.lst b=>cJ (dG n) a b
 | n+1,.lst a,.bR b=>cJ (dG n) a b
 | _+1,.bR _,.bR _=>none
 | _+1,_,_=>some false
noncomputable def truthy:V→Bool
 | .bB=>false
 | .bl b=>b
 | .int i=>i != 0
 | .str s=>!s.isEmpty
 | .tup ds=>!ds.isEmpty
 | .lst ds=>!ds.isEmpty
 | .bR ds=>!ds.isEmpty
noncomputable def eT (l:List V):Option V:=if l.length≤big then some (.lst l) else none
noncomputable def iB (l:List V):Option V:=if l.length≤big then some (.tup l) else none
noncomputable def bJ:cz→V→V→Option V
 | .add,.int i,.int j=>some (.int (i+j))
 | .add,.str a,.str b=>if a.length+b.length≤big then some (.str (a++b)) else none
 | .add,.tup a,.tup b=>if a.length+b.length≤big then some (.tup (a++b)) else none
 | .add,.lst a,.lst b=>eT (a++b)
 | .sub,.int i,.int j=>some (.int (i - j))
 | .mul,.int i,.int j=>if cH i j then some (.int (i*j)) else none
 | .mul,.str a,.int k=>if 0≤k∧k≤1000∧a.length≤1000 then some (.str (rep k.toNat a)) else none
 | .mul,.tup a,.int k=>if 0≤k∧k≤1000∧a.length≤1000 then some (.tup (rep k.toNat a)) else none
 | .mul,.lst a,.int k=>if 0≤k∧k≤1000∧a.length≤1000 then eT (rep k.toNat a) else none
 | .fdiv,.int i,.int j=>if 0<j∧j<1073741824 then some (.int (i / j)) else none
 | .mod,.int i,.int j=>if 0<j then some (.int (i % j)) else none
 | _,_,_=>none
noncomputable def mem (x:V):List V→Option Bool
 | []=>some false
 | y :: ys=>(dG deep y x).bind fun b=>(mem x ys).bind fun c=>some (b || c)
noncomputable def isin (x y:V):Option Bool:=match y with
 | .str s=>match x with
  | .str [c]=>some (s.contains c)
  | _=>none
 | .tup ds=>mem x ds
 | .lst ds=>mem x ds
 | .bR ds=>mem x ds
 | _=>none
noncomputable def cop (o:b7) (x y:V):Option Bool:=match o,x,y with
 | .eq,x,y=>dG deep x y
 | .ne,x,y=>(dG deep x y).map (!·)
 | .lt,.int i,.int j=>some (decide (i<j))
 | .gt,.int i,.int j=>some (decide (j<i))
 | .isin,x,y=>isin x y
 | .kR,x,y=>(isin x y).map (!·)
 | _,_,_=>none
noncomputable def fW (x y:V):Option V:=match x,y with
 | .tup ds,.int i=>b5 ds i
 | .str s,.int i=>(b5 s i).map fun c=>.str [c]
 | .lst ds,.int i=>b5 ds i
 | .bR ds,.int i=>b5 ds i
 | _,_=>none
noncomputable def gw (x:V) (lo hi:Option Int):Option V:=match x with
 | .tup ds=>some (.tup (cut ds lo hi))
 | .str s=>some (.str (cut s lo hi))
 | .lst ds=>eT (cut ds lo hi)
 | .bR ds=>eT (cut ds lo hi)
 | _=>none
noncomputable def toT:V→Option V
 | .tup l=>some (.tup l)
 | .lst l=>iB l
 | .bR l=>iB l
 | _=>none
noncomputable def qC:V→Option V
 | .lst l=>iB l.reverse
 | _=>none
noncomputable def dw:V→TY→Bool
 | .bl _,.bool=>true
 | .bl _,.int=>true
 | .int _,.int=>true
 | .str _,.str=>true
 | .tup _,.tuple=>true
 | .lst _,.list=>true
 | .bR _,.list=>true
 | _,_=>false
noncomputable def boolsOf:List V→Option (List Bool)
 | []=>some []
 | .bl b :: ds=>(boolsOf ds).map fun r=>b :: r
 | _=>none
noncomputable def intsOf:List V→Option (List Int)
 | []=>some []
 | .int i :: ds=>(intsOf ds).map fun r=>i :: r
 | _=>none
noncomputable def strsOf:List V→Option (List (List Nat))
 | []=>some []
 | .str s :: ds=>(strsOf ds).map fun r=>s :: r
 | _=>none
noncomputable def jV:V→Option (List V)
 | .lst l=>some l
 | .bR l=>some l
 | _=>none
noncomputable def dJ (b:BI) (xs:List V):Option V:=match b,xs with
 | .len,[.str s]=>if s.length≤big then some (.int s.length) else none
 | .len,[.tup ds]=>some (.int ds.length)
 | .len,[x]=>(jV x).map fun ds=>.int ds.length
 | .sum,[x]=>((jV x).bind intsOf).map fun is=>.int is.sum
 | .min,[.int i,.int j]=>some (.int (if j<i then j else i))
 | _,_=>none
noncomputable def fq (m:ME) (o:V) (xs:List V):Option V:=match m,o,xs with
 | .join,.str sep,[x]=>((jV x).bind strsOf).bind fun ss=>if (ss.map (·.length)).sum+ss.length*sep.length≤big then some (.str (cU sep ss)) else none
 | _,_,_=>none
noncomputable def jW (m:ME) (l:List V) (xs:List V):Option (V×List V):=match m,xs with
 | .append,[x]=>if l.length<big then some (.bB,l++[x]) else none
 | .extend,[.lst es]=>if l.length+es.length≤big then some (.bB,l++es) else none
 | .pop,[]=>match l[l.length - 1]? with
  | some x=>some (x,l.dropLast)
  | none=>none
 | _,_=>none
noncomputable def AU:ME→Bool
 | .extend=>true
 | _=>false
noncomputable def iV:ME→Bool
 | .append=>true
 | .extend=>true
 | .pop=>true
 | _=>false
noncomputable def sE:V→Bool
 | .bB=>true
 | .bl _=>true
 | .int _=>true
 | .str _=>true
 | _=>false
noncomputable def yY (x:V):List (D×D)→Option V
 | []=>none
 | (k,v) :: r=>match (ofD k).bind fun k'=>dG 1 k' x with
  | some true=>ofD v
  | some false=>yY x r
  | none=>none
noncomputable def eU (x:V) (kvs:List (D×D)):Option V:=if sE x then yY x kvs else none
noncomputable def gq:V→Option (List V)
 | .tup ds=>some ds
 | .str s=>some (s.map fun c=>.str [c])
 | .lst ds=>some ds
 | .bR ds=>some ds
 | _=>none
noncomputable def yZ:V→Option (List V)
 | .tup ds=>some ds
 | _=>none
noncomputable def range (lo:Int) (n:Nat):List V:=(List.range n).map fun (i:Nat)=>.int (lo+i)
noncomputable def fF:List V→Option (List V)
 | [.int j]=>if -(2 ^ 62)≤j∧j<2 ^ 62 then some (range 0 j.toNat) else none
 | [.int i,.int j]=>if -(2 ^ 62)≤i∧i<2 ^ 62∧-(2 ^ 62)≤j∧j<2 ^ 62 then some (range i (j - i).toNat) else none
 | _=>none
noncomputable def eW (a b:List V):List V:=List.zipWith (fun x y=>.tup [x,y]) a b
noncomputable def gK:Int→List V→List V
 | _,[]=>[]
 | k,x :: xs=>.tup [.int k,x] :: gK (k+1) xs
noncomputable def put (fr:Fr) (i:Nat) (s:Sl):Option Fr:=match fr[i]? with
 | some (some (.bor _))=>none
 | some (some (.ro _))=>none
 | _=>some (fr.set i (some s))
noncomputable def cR:List Nat→List V→Fr→Option Fr
 | [],[],fr=>some fr
 | i :: is,d :: ds,fr=>(put fr i (.val d)).bind (cR is ds)
 | _,_,_=>none
noncomputable def cy:T→V→Fr→Option Fr
 | .one i,d,fr=>put fr i (.val d)
 | .many l,.tup ds,fr=>cR l ds fr
 | _,_,_=>none
noncomputable def undef (t:T) (fr:Fr):Bool:=(slots t).all fun i=>(fr[i]?.join).isNone
noncomputable def Sl.read:Sl→Sl
 | .own l=>.ro l
 | .bor l=>.ro l
 | s=>s
noncomputable def nP (fr:Fr):Fr:=fr.map (Option.map Sl.read)
noncomputable def Sl.fX:Sl→Sl
 | .own l=>.val (.lst l)
 | s=>s
noncomputable def fR (fr:Fr):Fr:=fr.map (Option.map Sl.fX)
noncomputable def Sl.walk:Sl→Sl
 | .own l=>.val (.lst l)
 | .bor l=>.ro l
 | s=>s
noncomputable def sH (is:List Nat) (fr:Fr):Fr:=is.foldl (fun fr i=>match fr[i]? with
 | some (some s)=>fr.set i (some s.walk)
 | _=>fr) fr
noncomputable def Sl.out:Sl→Option (List V)
 | .bor l=>some l
 | .ro l=>some l
 | _=>none
noncomputable def Sl.lend:Sl→Option Sl
 | .own l=>some (.bor l)
 | .bor l=>some (.bor l)
 | .ro l=>some (.ro l)
 | .val _=>none
noncomputable def lent (fr:Fr) (i:Nat):Option Sl:=match fr[i]? with
 | some (some s)=>s.lend
 | _=>none
noncomputable def Sl.with:Sl→List V→Sl
 | .own _,l=>.own l
 | .bor _,l=>.bor l
 | s,_=>s
noncomputable def back:List Nat→List (List V)→Fr→Option Fr
 | [],[],fr=>some fr
 | i :: is,l :: ls,fr=>match fr[i]? with
  | some (some s)=>back is ls (fr.set i (some (s.with l)))
  | _=>none
 | _,_,_=>none
noncomputable def cV (f:V→Option (Option V)):List V→Option (List V)
 | []=>some []
 | d :: ds=>(f d).bind fun o=>(cV f ds).bind fun r=>some (o.toList++r)
noncomputable def forL (f:V→Fr→R Fl):List V→Fr→R Fl
 | [],fr=>.ok .nx fr
 | d :: ds,fr=>(f d fr).bind fun p ah=>match p with
   | .nx=>forL f ds ah
   | .ct=>forL f ds ah
   | .bk=>.ok .nx ah
   | .ret x=>.ok (.ret x) ah
noncomputable def ef (t:Fr→R Bool) (f:Fr→R Fl):Nat→Fr→R Fl
 | 0,_=>.bad
 | n+1,fr=>(t fr).bind fun b ah=>if b then (f ah).bind fun p av=>match p with
   | .nx=>ef t f n av
   | .ct=>ef t f n av
   | .bk=>.ok .nx av
   | .ret x=>.ok (.ret x) av
  else .ok .nx ah
noncomputable def jD:Es→List Nat
 | .nil=>[]
 | .cons (.v i) es=>i :: jD es
 | .cons _ es=>jD es
noncomputable def UX (m:ME):E→List Nat
 | .v i=>if iV m then [i] else []
 | _=>[]
mutual
noncomputable def bK:E→List Nat
 | .c _=>[] | .v _=>[] | .tup es=>fY es | .lst es=>fY es
 | .bin _ a b=>bK a++bK b | .cmp _ a b=>bK a++bK b
 | .nt a=>bK a | .neg a=>bK a | .an a b=>bK a++bK b | .orr a b=>bK a++bK b | .lK t a b=>bK t++(bK a++bK b)
 | .ix a b=>bK a++bK b | .sl a lo hi=>bK a++(j9 lo++j9 hi)
 | .lM a=>bK a
 | .cl _ es=>fY es++jD es | .bi _ es=>fY es | .me m o es=>bK o++(fY es++UX m o)
 | .lN a _=>bK a
 | .comp _ _ it _=>C4 it
 | .iL it=>C4 it
 | .ji _ a=>bK a
 | .gv a=>bK a
noncomputable def fY:Es→List Nat
 | .nil=>[]
 | .cons e es=>bK e++fY es
noncomputable def j9:Eo→List Nat
 | .no=>[]
 | .yes e=>bK e
noncomputable def C4:It→List Nat
 | .seq e=>bK e | .jb es=>fY es
 | .zip a b=>bK a++bK b
 | .enum a=>bK a | .rev a=>bK a
end
noncomputable def kf (a:E) (l:List Nat):Bool:=match a with
 | .v i=>!l.contains i
 | _=>l.isEmpty
noncomputable def itv:It→List Nat
 | .seq (.v i)=>[i]
 | .enum (.v i)=>[i]
 | .rev (.v i)=>[i]
 | .zip (.v i) (.v j)=>[i,j]
 | .zip (.v i) _=>[i]
 | .zip _ (.v j)=>[j]
 | _=>[]
abbrev aW:=Nat→List Sl→Option (V×List (List V))
noncomputable def intOf:V→Option Int
 | .int i=>some i
 | _=>none
noncomputable def qD (k:Bool) (fr:Fr) (i:Nat):Option V:=match fr[i]? with
 | some (some (.val v))=>some v
 | some (some (.own l))=>if k then some (.lst l) else none
 | some (some (.bor l))=>if k then some (.lst l) else none
 | some (some (.ro l))=>if k then some (.lst l) else none
 | _=>none
noncomputable def y9 (k:Bool) (fr:Fr) (i:Nat):Option V:=match fr[i]? with
 | some (some (.ro l))=>some (.lst l)
 | _=>qD k fr i
noncomputable def src (k:Bool) (fr:Fr) (e:E) (r:R V):R V:=match e with
 | .v i=>R.of (y9 k fr i) fr
 | _=>r
noncomputable def kC (fr:Fr):E→Option Nat
 | .v i=>if (lent fr i).isSome then some i else none
 | _=>none
noncomputable def args (fr:Fr):List (Nat ⊕ V)→Option (List Sl)
 | []=>some []
 | .inl i :: r=>(lent fr i).bind fun s=>(args fr r).map fun l=>s :: l
 | .inr v :: r=>(args fr r).map fun l=>.val v :: l
noncomputable def bU:List (Nat ⊕ V)→List Nat
 | []=>[]
 | .inl i :: r=>i :: bU r
 | .inr _ :: r=>bU r
noncomputable def dW (P:aW) (f:Nat) (as:List (Nat ⊕ V)) (fr:Fr):R V:=
 if (bU as).Nodup then match args fr as with
  | some sl=>match P f sl with
   | some (v,outs)=>R.of ((back (bU as) outs fr).map fun ah=>(v,ah)) fr |>.bind fun p _=>.ok p.1 p.2
   | none=>.bad
  | none=>.bad
 else .bad
mutual
noncomputable def ev (P:aW):Bool→E→Fr→R V
 | _,.c d,fr=>R.of (ofD d) fr
 | k,.v i,fr=>R.of (qD k fr i) fr
 | _,.tup es,fr=>(cF P false es fr).bind fun ds ah=>R.of (iB ds) ah
 | _,.lst es,fr=>(cF P false es fr).bind fun ds ah=>R.of (eT ds) ah
 | _,.bin o a b,fr=>(ev P (kf a (bK b)) a fr).bind fun x ah=>(ev P true b ah).bind fun y av=>R.of (bJ o x y) av
 | _,.cmp o a b,fr=>(ev P (kf a (bK b)) a fr).bind fun x ah=>(ev P true b ah).bind fun y av=>R.of ((cop o x y).map .bl) av
 | _,.nt a,fr=>(ev P true a fr).bind fun x ah=>match x with
   | .bl b=>.ok (.bl (!b)) ah
   | _=>.bad
 | _,.neg a,fr=>(ev P true a fr).bind fun x ah=>match x with
   | .int i=>.ok (.int (-i)) ah
   | _=>.bad
 | k,.an a b,fr=>(ev P true a fr).bind fun x ah=>match x with
   | .bl true=>ev P k b ah
   | .bl false=>.ok (.bl false) ah
   | _=>.bad
 | k,.orr a b,fr=>(ev P true a fr).bind fun x ah=>match x with
   | .bl true=>.ok (.bl true) ah
   | .bl false=>ev P k b ah
   | _=>.bad
 | k,.lK t a b,fr=>(aN P t fr).bind fun c ah=>if c then ev P k a ah else ev P k b ah
 | _,.ix a b,fr=>(ev P (kf a (bK b)) a fr).bind fun x ah=>(ev P true b ah).bind fun y av=>R.of (fW x y) av
 | _,.sl a lo hi,fr=>(ev P (kf a (j9 lo++j9 hi)) a fr).bind fun x ah=>(fQ P lo ah).bind fun l av=>(fQ P hi av).bind fun u cL=>R.of (gw x l u) cL
 | _,.lM a,fr=>(ev P true a fr).bind fun x ah=>R.of (qC x) ah
 | _,.cl f es,fr=>(fS P es fr).bind fun as ah=>dW P f as ah
 | _,.bi b es,fr=>(cF P true es fr).bind fun ds ah=>R.of (dJ b ds) ah
 | _,.me m o es,fr=>if iV m then match kC fr o with
   | some i=>(cF P (AU m) es fr).bind fun ds ah=>match ah[i]? with
    | some (some (.own l))=>match jW m l ds with
     | some (v,l')=>.ok v (ah.set i (some (.own l')))
     | none=>.bad
    | some (some (.bor l))=>match jW m l ds with
     | some (v,l')=>.ok v (ah.set i (some (.bor l')))
     | none=>.bad
    | _=>.bad
   | none=>.bad
  else (ev P (kf o (fY es)) o fr).bind fun x ah=>(cF P true es ah).bind fun ds av=>R.of (fq m x ds) av
 | _,.lN a ts,fr=>(ev P true a fr).bind fun x ah=>.ok (.bl (ts.any (dw x))) ah
 | _,.comp elt t it cond,fr=>(cO P true it fr).bind fun s ah=>if undef t ah then
   R.of ((cV (fun d=>match cy t d (nP ah) with
    | none=>none
    | some av=>match iw P cond av with
     | .ok c _=>if c then (match ev P false elt av with | .ok x _=>some (some x) | .bad=>none) else some none
     | .bad=>none) s).bind eT) ah else .bad
 | _,.iL it,fr=>(cO P true it fr).bind fun s ah=>R.of (eT s) ah
 | _,.ji kvs a,fr=>(ev P true a fr).bind fun x ah=>R.of (eU x kvs) ah
 | _,.gv a,fr=>(ev P true a fr).bind fun x ah=>R.of (toT x) ah
termination_by _ e=>(sizeOf e,0)
noncomputable def cF (P:aW):Bool→Es→Fr→R (List V)
 | _,.nil,fr=>.ok [] fr
 | k,.cons e es,fr=>(ev P (k&&kf e (fY es)) e fr).bind fun d ah=>(cF P k es ah).bind fun ds av=>.ok (d :: ds) av
termination_by _ e=>(sizeOf e,0)
noncomputable def fS (P:aW):Es→Fr→R (List (Nat ⊕ V))
 | .nil,fr=>.ok [] fr
 | .cons e es,fr=>match kC fr e with
   | some i=>(fS P es fr).bind fun r ah=>.ok (.inl i :: r) ah
   | none=>(ev P false e fr).bind fun d ah=>(fS P es ah).bind fun r av=>.ok (.inr d :: r) av
termination_by e=>(sizeOf e,0)
noncomputable def fQ (P:aW):Eo→Fr→R (Option Int)
 | .no,fr=>.ok none fr
 | .yes e,fr=>(ev P true e fr).bind fun d ah=>R.of ((intOf d).map some) ah
termination_by e=>(sizeOf e,0)
noncomputable def iw (P:aW):Eo→Fr→R Bool
 | .no,fr=>.ok true fr
 | .yes e,fr=>aN P e fr
termination_by e=>(sizeOf e,0)
noncomputable def aN (P:aW):E→Fr→R Bool
 | .an a b,fr=>(aN P a fr).bind fun k ah=>if k then aN P b ah else .ok false ah
 | .orr a b,fr=>(aN P a fr).bind fun k ah=>if k then .ok true ah else aN P b ah
 | .nt a,fr=>(aN P a fr).bind fun k ah=>.ok (!k) ah
 | e,fr=>(ev P true e fr).bind fun x ah=>.ok (truthy x) ah
termination_by e=>(sizeOf e,1)
noncomputable def cO (P:aW):Bool→It→Fr→R (List V)
 | k,.seq e,fr=>(src k fr e (ev P k e fr)).bind fun x ah=>R.of (gq x) ah
 | _,.jb es,fr=>(cF P true es fr).bind fun ds ah=>R.of (fF ds) ah
 | k,.zip a b,fr=>(src (k&&kf a (bK b)) fr a (ev P (k&&kf a (bK b)) a fr)).bind fun x ah=>(src k ah b (ev P k b ah)).bind fun y av=>R.of ((jV x).bind fun s=>(jV y).map fun t=>eW s t) av
 | k,.enum a,fr=>(src k fr a (ev P k a fr)).bind fun x ah=>R.of ((jV x).map fun s=>gK 0 s) ah
 | _,.rev a,fr=>(ev P true a fr).bind fun x ah=>R.of ((yZ x).map fun s=>s.reverse) ah
termination_by _ e=>(sizeOf e,0)
end
noncomputable def isNew:E→Bool
 | .lst _=>true
 | .iL _=>true
 | _=>false
mutual
noncomputable def ex (P:aW) (w:Nat):S→Fr→R Fl
 | .set i e,fr=>(ev P false e fr).bind fun x ah=>if isNew e then (match x with
   | .lst l=>(R.of (put ah i (.own l)) ah).bind fun av _=>.ok .nx av
   | _=>.bad)
  else (R.of (put ah i (.val x)) ah).bind fun av _=>.ok .nx av
 | .kT l e,fr=>(ev P false e fr).bind fun x ah=>(R.of (cy (.many l) x ah) ah).bind fun av _=>.ok .nx av
 | .exp e,fr=>(ev P true e fr).bind fun _ ah=>.ok .nx ah
 | .ret e,fr=>(ev P false e (fR fr)).bind fun x ah=>.ok (.ret x) ah
 | .iff t a b,fr=>(aN P t fr).bind fun k ah=>if k then exs P w a ah else exs P w b ah
 | .for t it b,fr=>(cO P false it (sH (itv it) fr)).bind fun s ah=>forL (fun d av=>match cy t d av with
   | some cL=>exs P w b cL
   | none=>.bad) s ah
 | .lZ t b,fr=>ef (fun av=>aN P t av) (fun av=>exs P w b av) w fr
 | .pass,fr=>.ok .nx fr
 | .brk,fr=>.ok .bk fr
 | .cnt,fr=>.ok .ct fr
 | .fP,_=>.bad
noncomputable def exs (P:aW) (w:Nat):Ss→Fr→R Fl
 | .nil,fr=>.ok .nx fr
 | .cons s ss,fr=>(ex P w s fr).bind fun p ah=>match p with
   | .nx=>exs P w ss ah
   | p=>.ok p ah
end
noncomputable def fy (fn:Fn) (ds:List Sl):Fr:=ds.map some++List.replicate (fn.ns - fn.np) none
noncomputable def outs (np:Nat) (fr:Fr):List (List V):=(fr.take np).filterMap fun o=>o.bind Sl.out
noncomputable def run (F:List Fn) (w:Nat):Nat→aW
 | 0,_,_=>none
 | n+1,f,ds=>match F[f]? with
  | some fn=>if ds.length=fn.np then match exs (run F w n) w fn.body (fy fn ds) with
    | .ok (.ret v) fr=>some (v,outs fn.np fr)
    | .ok .nx fr=>some (.bB,outs fn.np fr)
    | _=>none
   else none
  | none=>none
end Pv
namespace Pv
open Ev (D O Hh cz b7 TY BI ME T E Es Eo It S Ss Fn big deep b2i rep cH eG b5 aU cut cU eB slots bg)
section
variable (h:Hh)(S:Nat→Prop)
mutual
noncomputable def Rep:V→D→Prop
 | .bB,d=>d=.bB
 | .bl b,d=>d=.bl b
 | .int i,d=>d=.int i
 | .str s,d=>d=.str s
 | .tup l,d=>∃ ds,d=.tup ds∧ay l ds
 | .lst l,d=>∃ n ds,d=.ref n∧S n∧h[n]?=some (.lst ds)∧ay l ds
 | .bR l,d=>∃ n ds,d=.ref n∧S n∧h[n]?=some (.bR ds)∧ay l ds
noncomputable def ay:List V→List D→Prop
 | [],ds=>ds=[]
 | v :: vs,ds=>∃ d es,ds=d :: es∧Rep v d∧ay vs es
end
noncomputable def bh:V→D→Prop
 | .lst l,d=>∃ n ds,d=.ref n∧h[n]?=some (.lst ds)∧ay h S l ds
 | v,d=>Rep h S v d
noncomputable def fT:List V→List D→Prop
 | [],ds=>ds=[]
 | v :: vs,ds=>∃ d es,ds=d :: es∧bh h S v d∧fT vs es
end
abbrev U:Nat→Prop:=fun _=>True
section
variable {h h':Hh}{S S':Nat→Prop}
mutual
theorem Rep.mono (f:∀ m,S m→h'[m]?=h[m]?) (g:∀ m,S m→S' m):∀ {v:V}{d:D},Rep h S v d→Rep h' S' v d
 | .bB,_,q=>q
 | .bl _,_,q=>q
 | .int _,_,q=>q
 | .str _,_,q=>q
 | .tup l,_,⟨ds,a,b⟩=>⟨ds,a,ay.mono f g b⟩
 | .lst l,_,⟨n,ds,a,b,c,e⟩=>⟨n,ds,a,g n b,by rw [f n b];exact c,ay.mono f g e⟩
 | .bR l,_,⟨n,ds,a,b,c,e⟩=>⟨n,ds,a,g n b,by rw [f n b];exact c,ay.mono f g e⟩
theorem ay.mono (f:∀ m,S m→h'[m]?=h[m]?) (g:∀ m,S m→S' m):∀ {v:List V}{d:List D},ay h S v d→ay h' S' v d
 | [],_,q=>q
 | _ :: _,_,⟨d,es,a,b,c⟩=>⟨d,es,a,Rep.mono f g b,ay.mono f g c⟩
end
theorem ay.nil:ay h S [] []:=by simp [ay]
theorem ay.cons {v:V}{d:D}{vs:List V}{ds:List D}(a:Rep h S v d) (b:ay h S vs ds):ay h S (v :: vs) (d :: ds):=by simp only [ay];exact ⟨d,ds,rfl,a,b⟩
theorem Rep.top {v:V}{d:D}(q:Rep h S v d):bh h S v d:=by
 cases v <;> first | exact q | (obtain ⟨n,ds,a,b,c,e⟩:=q;exact ⟨n,ds,a,c,e⟩)
theorem bh.u {v:V}{d:D}(q:bh h S v d):Rep h U v d:=by
 cases v with
 | lst l=>obtain ⟨n,ds,a,b,c⟩:=q;exact ⟨n,ds,a,trivial,b,c.mono (fun _ _=>rfl) fun _ _=>trivial⟩
 | _=>exact Rep.mono (S:=S) (fun _ _=>rfl) (fun _ _=>trivial) q
theorem ay.u {v:List V}{d:List D}(q:ay h S v d):ay h U v d:=q.mono (fun _ _=>rfl) fun _ _=>trivial
theorem bh.mono {v:V}{d:D}(f:∀ m,m<h.length→h'[m]?=h[m]?) (k:∀ m,S m→m<h.length) (g:∀ m,S m→S' m) (q:bh h S v d):bh h' S' v d:=by
 cases v with
 | lst l=>
  obtain ⟨n,ds,a,b,c⟩:=q
  exact ⟨n,ds,a,by rw [f n (List.getElem?_eq_some_iff.mp b).1];exact b,c.mono (fun m z=>f m (k m z)) g⟩
 | _=>exact Rep.mono (fun m z=>f m (k m z)) g q
theorem ay.length:∀ {v:List V}{d:List D},ay h S v d→v.length=d.length
 | [],_,q=>by simp only [ay] at q;subst q;rfl
 | _ :: _,_,q=>by simp only [ay] at q;obtain ⟨d,es,rfl,_,c⟩:=q;simp [c.length]
theorem ay.get:∀ {v:List V}{d:List D}{i:Nat}{x:V},ay h S v d→v[i]?=some x→∃ y,d[i]?=some y∧Rep h S x y
 | [],_,_,_,_,e=>by simp at e
 | _ :: _,_,0,_,q,e=>by
  simp only [ay] at q
  obtain ⟨d,es,rfl,b,_⟩:=q
  simp at e;subst e
  exact ⟨d,by simp,b⟩
 | _ :: _,_,i+1,_,q,e=>by
  simp only [ay] at q
  obtain ⟨d,es,rfl,_,c⟩:=q
  obtain ⟨y,a,b⟩:=c.get (i:=i) (by simpa using e)
  exact ⟨y,by simpa using a,b⟩
theorem ay.append:∀ {v w:List V}{d e:List D},ay h S v d→ay h S w e→ay h S (v++w) (d++e)
 | [],_,_,_,a,b=>by simp only [ay] at a;subst a;simpa using b
 | _ :: _,_,_,_,a,b=>by
  simp only [ay] at a
  obtain ⟨d,es,rfl,x,y⟩:=a
  exact .cons x (y.append b)
theorem ay.take:∀ {v:List V}{d:List D}(n:Nat),ay h S v d→ay h S (v.take n) (d.take n)
 | _,_,0,_=>by simp [ay]
 | [],_,_+1,a=>by simp only [ay] at a;subst a;simp [ay]
 | _ :: _,_,n+1,a=>by
  simp only [ay] at a
  obtain ⟨d,es,rfl,x,y⟩:=a
  simp only [List.take_succ_cons]
  exact .cons x (y.take n)
theorem ay.drop:∀ {v:List V}{d:List D}(n:Nat),ay h S v d→ay h S (v.drop n) (d.drop n)
 | _,_,0,a=>by simpa using a
 | [],_,_+1,a=>by simp only [ay] at a;subst a;simp [ay]
 | _ :: _,_,n+1,a=>by
  simp only [ay] at a
  obtain ⟨d,es,rfl,x,y⟩:=a
  simp only [List.drop_succ_cons]
  exact y.drop n
theorem ay.dropLast:∀ {v:List V}{d:List D},ay h S v d→ay h S v.dropLast d.dropLast:=fun {v d} a=>by
 rw [List.dropLast_eq_take,List.dropLast_eq_take,a.length];exact a.take _
theorem ay.reverse:∀ {v:List V}{d:List D},ay h S v d→ay h S v.reverse d.reverse
 | [],_,a=>by simp only [ay] at a;subst a;simp [ay]
 | _ :: _,_,a=>by
  simp only [ay] at a
  obtain ⟨d,es,rfl,x,y⟩:=a
  simp only [List.reverse_cons]
  exact y.reverse.append (.cons x .nil)
theorem ay.rep {v:List V}{d:List D}(a:ay h S v d):∀ k:Nat,ay h S (Ev.rep k v) (Ev.rep k d)
 | 0=>by simp [Ev.rep,ay]
 | k+1=>by
  have z:=ay.rep a k
  simp only [Ev.rep,List.replicate_succ,List.flatten_cons] at z ⊢
  exact a.append z
theorem ay.cut {v:List V}{d:List D}(a:ay h S v d) (lo hi:Option Int):ay h S (Ev.cut v lo hi) (Ev.cut d lo hi):=by
 unfold Ev.cut
 rw [a.length]
 exact (a.drop _).take _
theorem ay.map {α:Type}{f:α→V}{g:α→D}(q:∀ a,Rep h S (f a) (g a)):∀ l:List α,ay h S (l.map f) (l.map g)
 | []=>.nil
 | _ :: l=>.cons (q _) (ay.map q l)
mutual
theorem Rep.uniq:∀ {v w:V}{d:D},Rep h U v d→Rep h U w d→v=w
 | .bB,w,_,a,b=>by simp only [Rep] at a;subst a;cases w <;> simp [Rep] at b <;> rfl
 | .bl _,w,_,a,b=>by simp only [Rep] at a;subst a;cases w <;> simp [Rep] at b <;> rw [b]
 | .int _,w,_,a,b=>by simp only [Rep] at a;subst a;cases w <;> simp [Rep] at b <;> rw [b]
 | .str _,w,_,a,b=>by simp only [Rep] at a;subst a;cases w <;> simp [Rep] at b <;> rw [b]
 | .tup l,w,_,a,b=>by
  simp only [Rep] at a;obtain ⟨ds,rfl,a⟩:=a
  cases w <;> simp [Rep] at b
  rw [ay.uniq a b]
 | .lst l,w,_,a,b=>by
  simp only [Rep] at a;obtain ⟨n,ds,rfl,_,a1,a⟩:=a
  cases w <;> simp [Rep] at b
  ·obtain ⟨ds',b1,b⟩:=b
   rw [a1] at b1;cases b1
   rw [ay.uniq a b]
  ·obtain ⟨ds',b1,b⟩:=b
   rw [a1] at b1;cases b1
 | .bR l,w,_,a,b=>by
  simp only [Rep] at a;obtain ⟨n,ds,rfl,_,a1,a⟩:=a
  cases w <;> simp [Rep] at b
  ·obtain ⟨ds',b1,b⟩:=b
   rw [a1] at b1;cases b1
  ·obtain ⟨ds',b1,b⟩:=b
   rw [a1] at b1;cases b1
   rw [ay.uniq a b]
theorem ay.uniq:∀ {v w:List V}{d:List D},ay h U v d→ay h U w d→v=w
 | [],w,_,a,b=>by simp only [ay] at a;subst a;cases w <;> simp [ay] at b;rfl
 | x :: xs,w,_,a,b=>by
  simp only [ay] at a;obtain ⟨d,es,rfl,a1,a2⟩:=a
  cases w <;> simp only [ay] at b
  ·cases b
  obtain ⟨d',es',e,b1,b2⟩:=b
  cases e
  rw [Rep.uniq a1 b1,ay.uniq a2 b2]
end
theorem uf {n:Nat}(f:∀ v b,dG n v v=some b→b=true):∀ l b,cJ (dG n) l l=some b→b=true
 | [],b,e=>by simp [cJ] at e;exact e
 | x :: xs,b,e=>by
  simp only [cJ,Option.bind_eq_some_iff] at e
  obtain ⟨c,e1,c2,e2,e⟩:=e
  rw [f x c e1,uf f xs c2 e2] at e
  simpa using e.symm
theorem ug:∀ n v b,dG n v v=some b→b=true
 | 0,_,_,e=>by cases e
 | n+1,v,b,e=>by
  cases v <;> first | exact uf (ug n) _ _ e | (cases e <;> first | rfl | exact beq_self_eq_true _)
theorem uh {n:Nat}(f:∀ {v w:V}{d e:D}{b},dG n v w=some b→Rep h U v d→Rep h U w e→Ev.gF h n d e=some b):∀ {l m:List V}{ds es:List D}{b},cJ (dG n) l m=some b→ay h U l ds→ay h U m es→Ev.cJ (Ev.gF h n) ds es=some b
 | [],[],_,_,b,e,p,q=>by simp only [ay] at p q;subst p q;simpa [cJ,Ev.cJ] using e
 | [],_ :: _,_,_,b,e,p,q=>by simp only [ay] at p q;subst p;obtain ⟨_,_,rfl,_⟩:=q;simpa [cJ,Ev.cJ] using e
 | _ :: _,[],_,_,b,e,p,q=>by simp only [ay] at p q;subst q;obtain ⟨_,_,rfl,_⟩:=p;simpa [cJ,Ev.cJ] using e
 | x :: xs,y :: ys,_,_,b,e,p,q=>by
  simp only [ay] at p q
  obtain ⟨d,ds,rfl,p1,p2⟩:=p
  obtain ⟨d',ds',rfl,q1,q2⟩:=q
  simp only [cJ,Option.bind_eq_some_iff] at e
  obtain ⟨c,e1,c2,e2,e⟩:=e
  simp [Ev.cJ,f e1 p1 q1,uh f e2 p2 q2]
  simpa using e
theorem gz {n:Nat}{ds:List D}(q:h[n]?=some (.lst ds)):bg h n=some ds:=by simp [bg,q]
theorem iC {n:Nat}{ds:List D}(q:h[n]?=some (.bR ds)):bg h n=some ds:=by simp [bg,q]
theorem jH:∀ (n:Nat) {v w:V}{d e:D}{b},dG n v w=some b→Rep h U v d→Rep h U w e→Ev.gF h n d e=some b
  | 0,_,_,_,_,_,e,_,_=>by cases e
  | n+1,v,w,d,e,b,x,p,q=>by
    by_cases hr:∃ m,d=.ref m∧e=.ref m
    · obtain ⟨m,rfl,rfl⟩:=hr
      have hvw:=p.uniq q
      subst hvw
      have hb:=ug _ _ _ x
      subst hb
      cases v <;> simp [Rep] at p
      · obtain ⟨ds,p1,p2⟩:=p;show Ev.jF _ _ _ _=_;rw [Ev.jF,if_pos rfl,gz p1];rfl
      · obtain ⟨ds,p1,p2⟩:=p;show Ev.jF _ _ _ _=_;rw [Ev.jF,if_pos rfl,iC p1];rfl
    · cases v <;> cases w <;> simp only [Rep] at p q <;>
      first
      | (subst p;subst q;exact x)
      | (obtain ⟨ds,rfl,p⟩:=p;subst q;exact x)
      | (obtain ⟨ds,rfl,q⟩:=q;subst p;exact x)
      | (obtain ⟨ds,rfl,p⟩:=p;obtain ⟨es,rfl,q⟩:=q;exact uh (fun a b c=>jH n a b c) x p q)
      | (cases x;done)
      | (obtain ⟨m,ds,rfl,_,p1,p⟩:=p;obtain ⟨k,es,rfl,_,q1,q⟩:=q
         have hne:m≠k:=fun z=>hr ⟨m,rfl,by rw [z]⟩
         show Ev.jF _ _ _ _=_
         rw [Ev.jF,if_neg hne,p1,q1];exact uh (fun a b c=>jH n a b c) x p q)
      | (cases x;obtain ⟨m,ds,rfl,_,p1,p⟩:=p;subst q;exact congrArg (Option.map fun _=>false) (gz p1))
      | (cases x;obtain ⟨m,ds,rfl,_,p1,p⟩:=p;subst q;exact congrArg (Option.map fun _=>false) (iC p1))
      | (cases x;obtain ⟨m,ds,rfl,_,p1,p⟩:=p;obtain ⟨es,rfl,q⟩:=q;exact congrArg (Option.map fun _=>false) (gz p1))
      | (cases x;obtain ⟨m,ds,rfl,_,p1,p⟩:=p;obtain ⟨es,rfl,q⟩:=q;exact congrArg (Option.map fun _=>false) (iC p1))
      | (cases x;obtain ⟨m,ds,rfl,_,q1,q⟩:=q;subst p;exact congrArg (Option.map fun _=>false) (gz q1))
      | (cases x;obtain ⟨m,ds,rfl,_,q1,q⟩:=q;subst p;exact congrArg (Option.map fun _=>false) (iC q1))
      | (cases x;obtain ⟨m,ds,rfl,_,q1,q⟩:=q;obtain ⟨es,rfl,p⟩:=p;exact congrArg (Option.map fun _=>false) (gz q1))
      | (cases x;obtain ⟨m,ds,rfl,_,q1,q⟩:=q;obtain ⟨es,rfl,p⟩:=p;exact congrArg (Option.map fun _=>false) (iC q1))
end
end Pv
namespace Pv
open Ev (D O Hh cz b7 TY BI ME T E Es Eo It S Ss Fn big deep b2i rep cH eG b5 aU cut cU eB slots bg)
structure Al (h:Hh) (S:Nat→Prop) (h':Hh) (S':Nat→Prop):Prop where
 len:h.length≤h'.length
 keep:∀ m,m<h.length→h'[m]?=h[m]?
 sub:∀ m,S m→S' m
 new:∀ m,S' m→S m∨(h.length≤m∧m<h'.length)
section
variable {h h':Hh}{S S':Nat→Prop}
theorem Al.refl:Al h S h S:=⟨Nat.le_refl _,fun _ _=>rfl,fun _ q=>q,fun _ q=>.inl q⟩
theorem Al.snoc (o:O):Al h S (h++[o]) (fun m=>S m∨m=h.length) where
 len:=by simp
 keep:=fun m q=>by rw [List.getElem?_append_left q]
 sub:=fun _ q=>.inl q
 new:=fun m q=>by
  rcases q with q | q
  ·exact .inl q
  ·subst q;exact .inr ⟨Nat.le_refl _,by simp⟩
theorem jI {l:List V}{v:V}{ds:List D}(w:∀ m,S m→m<h.length) (e:eT l=some v) (q:ay h S l ds):∃ r h' S',Ev.alloc ds h=.ok r h'∧Rep h' S' v r∧Al h S h' S':=by
 unfold eT at e
 split at e
 ·rename_i z
  cases e
  refine ⟨.ref h.length,h++[.lst ds],fun m=>S m∨m=h.length,by unfold Ev.alloc;rw [if_pos (by rw [←q.length];exact z)],?_,Al.snoc _⟩
  simp only [Rep]
  refine ⟨h.length,ds,rfl,.inr rfl,by simp,q.mono (fun m z=>?_) fun _ z=>.inl z⟩
  rw [List.getElem?_append_left (w m z)]
 ·cases e
theorem o6 {v:V}{l:List V}{d:D}(e:jV v=some l) (q:bh h S v d):∃ n ds,d=.ref n∧bg h n=some ds∧ay h S l ds:=by
 cases v <;> simp [jV] at e
 ·subst e;simp only [bh] at q;obtain ⟨n,ds,rfl,a,b⟩:=q;exact ⟨n,ds,rfl,gz a,b⟩
 ·subst e;simp only [bh,Rep] at q;obtain ⟨n,ds,rfl,_,a,b⟩:=q;exact ⟨n,ds,rfl,iC a,b⟩
mutual
theorem mD:∀ {d:D}{v:V},ofD d=some v→Rep h S v d
 | .bB,_,e=>by simp [ofD] at e;subst e;simp [Rep]
 | .bl _,_,e=>by simp [ofD] at e;subst e;simp [Rep]
 | .int _,_,e=>by simp [ofD] at e;subst e;simp [Rep]
 | .str _,_,e=>by simp [ofD] at e;subst e;simp [Rep]
 | .ref _,_,e=>by simp [ofD] at e
 | .tup ds,_,e=>by
  simp [ofD] at e
  obtain ⟨vs,e,rfl⟩:=e
  exact ⟨ds,rfl,xA e⟩
theorem xA:∀ {d:List D}{v:List V},ue d=some v→ay h S v d
 | [],_,e=>by simp [ue] at e;subst e;exact .nil
 | d :: ds,_,e=>by
  simp only [ue,Option.bind_eq_some_iff,Option.map_eq_some_iff] at e
  obtain ⟨v,e1,vs,e2,rfl⟩:=e
  exact .cons (mD e1) (xA e2)
end
theorem ay.emp {l:List V}{ds:List D}(q:ay h S l ds):ds.isEmpty=l.isEmpty:=by
 have:=q.length
 cases l <;> cases ds <;> simp at this ⊢
theorem AV {v:V}{d:D}(q:bh h S v d):Ev.truthy h d=some (truthy v):=by
 cases v <;> simp only [bh,Rep] at q
 ·subst q;rfl
 ·subst q;rfl
 ·subst q;rfl
 ·subst q;rfl
 ·obtain ⟨ds,rfl,q⟩:=q;simp only [Ev.truthy,truthy,q.emp]
 ·obtain ⟨n,ds,rfl,a,q⟩:=q;simp only [Ev.truthy,truthy,gz a,Option.map,q.emp]
 ·obtain ⟨n,ds,rfl,_,a,q⟩:=q;simp only [Ev.truthy,truthy,iC a,Option.map,q.emp]
theorem nn {α:Type}{v:α}{p:Prop}(z:none=some v):p:=Option.noConfusion rfl (heq_of_eq z)
theorem Mu {o:cz}{x y v:V}{d e:D}(w:∀ m,S m→m<h.length) (z:bJ o x y=some v) (p:bh h S x d) (q:bh h S y e):∃ r h' S',Ev.bJ o d e h=.ok r h'∧Rep h' S' v r∧Al h S h' S':=by
 cases o <;> cases x <;> first | exact nn z | (cases y <;> first | exact nn z | skip)
 all_goals (delta bJ at z;dsimp only at z;simp only [bh,Rep] at p q)
 ·subst p q;cases z;exact ⟨_,_,S,rfl,rfl,.refl⟩
 ·subst p q;split at z
  ·rename_i k;cases z;exact ⟨_,_,S,by delta Ev.bJ;dsimp only;rw [if_pos k],rfl,.refl⟩
  ·cases z
 ·obtain ⟨ds,rfl,p⟩:=p;obtain ⟨es,rfl,q⟩:=q;split at z
  ·rename_i k;cases z;exact ⟨_,_,S,by delta Ev.bJ;dsimp only;rw [if_pos (by rw [←p.length,←q.length];exact k)],⟨_,rfl,p.append q⟩,.refl⟩
  ·cases z
 ·obtain ⟨n,ds,rfl,a,p⟩:=p;obtain ⟨m,es,rfl,b,q⟩:=q
  delta Ev.bJ;dsimp only;simp only [a,b]
  exact jI w z (p.append q)
 ·subst p q;cases z;exact ⟨_,_,S,rfl,rfl,.refl⟩
 ·subst p q;split at z
  ·rename_i k;cases z;exact ⟨_,_,S,by delta Ev.bJ;dsimp only;rw [if_pos k],rfl,.refl⟩
  ·cases z
 ·subst p q;split at z
  ·rename_i k;cases z;exact ⟨_,_,S,by delta Ev.bJ;dsimp only;rw [if_pos k],rfl,.refl⟩
  ·cases z
 ·obtain ⟨ds,rfl,p⟩:=p;subst q;split at z
  ·rename_i k;cases z;exact ⟨_,_,S,by delta Ev.bJ;dsimp only;rw [if_pos (by rw [←p.length];exact k)],⟨_,rfl,p.rep _⟩,.refl⟩
  ·cases z
 ·obtain ⟨n,ds,rfl,a,p⟩:=p;subst q;split at z
  ·rename_i k
   delta Ev.bJ;dsimp only;simp only [a]
   rw [if_pos (by rw [←p.length];exact k)]
   exact jI w z (p.rep _)
  ·cases z
 ·subst p q;split at z
  ·rename_i k;cases z;exact ⟨_,_,S,by delta Ev.bJ;dsimp only;rw [if_pos k],rfl,.refl⟩
  ·cases z
 ·subst p q;split at z
  ·rename_i k;cases z;exact ⟨_,_,S,by delta Ev.bJ;dsimp only;rw [if_pos k],rfl,.refl⟩
  ·cases z
theorem o7 {x:V}{d:D}(p:Rep h U x d):∀ {l:List V}{ds:List D}{b},mem x l=some b→ay h U l ds→Ev.mem h d ds=some b
 | [],_,b,e,q=>by simp only [ay] at q;subst q;simpa [mem,Ev.mem] using e
 | y :: ys,_,b,e,q=>by
  simp only [ay] at q
  obtain ⟨d',ds,rfl,q1,q2⟩:=q
  simp only [mem,Option.bind_eq_some_iff] at e
  obtain ⟨c,e1,c2,e2,e⟩:=e
  simp [Ev.mem,jH deep e1 q1 p,o7 p e2 q2]
  simpa using e
theorem xB {x y:V}{d e:D}{b:Bool}(z:isin x y=some b) (p:Rep h U x d) (q:Rep h U y e):Ev.isin d e h=some b:=by
 cases y <;> simp only [isin,reduceCtorEq] at z <;> simp only [Rep] at q
 ·subst q
  split at z
  ·simp only [Rep] at p;subst p;simpa [Ev.isin] using z
  ·cases z
 ·obtain ⟨ds,rfl,q⟩:=q;simpa [Ev.isin] using o7 p z q
 ·obtain ⟨n,ds,rfl,_,a,q⟩:=q;simpa [Ev.isin,gz a] using o7 p z q
 ·obtain ⟨n,ds,rfl,_,a,q⟩:=q;simpa [Ev.isin,iC a] using o7 p z q
theorem Mv {o:b7}{x y:V}{d e:D}{b:Bool}(z:cop o x y=some b) (p:Rep h U x d) (q:Rep h U y e):Ev.cop o d e h=some b:=by
 cases o
 case eq=>delta cop at z;dsimp only at z;delta Ev.cop;dsimp only;exact jH deep z p q
 case ne=>
  delta cop at z;dsimp only at z;simp only [Option.map_eq_some_iff] at z;obtain ⟨c,z,rfl⟩:=z
  delta Ev.cop;dsimp only;simp only [jH deep z p q];rfl
 case isin=>delta cop at z;dsimp only at z;delta Ev.cop;dsimp only;exact xB z p q
 case kR=>
  delta cop at z;dsimp only at z;simp only [Option.map_eq_some_iff] at z;obtain ⟨c,z,rfl⟩:=z
  delta Ev.cop;dsimp only;simp only [xB z p q];rfl
 all_goals (
  cases x <;> first | exact nn z | (cases y <;> first | exact nn z | skip)
  simp only [Rep] at p q;subst p q;exact z)
theorem za {l:List V}{ds:List D}{i:Int}{v:V}(e:b5 l i=some v) (q:ay h S l ds):∃ d,b5 ds i=some d∧Rep h S v d:=by
 unfold b5 at e ⊢
 rw [q.length] at e
 cases z:eG ds.length i with
 | none=>rw [z] at e;cases e
 | some j=>rw [z] at e;exact q.get e
theorem Mw {x y v:V}{d e:D}(z:fW x y=some v) (p:bh h S x d) (q:bh h S y e):∃ r,Ev.fW d e h=some r∧Rep h S v r:=by
 cases x <;> cases y <;> simp only [fW,reduceCtorEq] at z <;> simp only [bh,Rep] at p q
 ·subst p q
  simp only [Option.map_eq_some_iff] at z
  obtain ⟨c,z,rfl⟩:=z
  exact ⟨.str [c],by simp [Ev.fW,z],rfl⟩
 ·obtain ⟨ds,rfl,p⟩:=p;subst q;simpa [Ev.fW] using za z p
 ·obtain ⟨n,ds,rfl,a,p⟩:=p;subst q;simpa [Ev.fW,gz a] using za z p
 ·obtain ⟨n,ds,rfl,_,a,p⟩:=p;subst q;simpa [Ev.fW,iC a] using za z p
theorem Mx {x v:V}{d:D}{lo hi:Option Int}(w:∀ m,S m→m<h.length) (z:gw x lo hi=some v) (p:bh h S x d):∃ r h' S',Ev.gw d lo hi h=.ok r h'∧Rep h' S' v r∧Al h S h' S':=by
 cases x <;> simp only [gw,reduceCtorEq] at z <;> simp only [bh,Rep] at p
 ·subst p;cases z;exact ⟨_,_,S,rfl,rfl,.refl⟩
 ·obtain ⟨ds,rfl,p⟩:=p;cases z;exact ⟨_,_,S,rfl,⟨_,rfl,p.cut _ _⟩,.refl⟩
 ·obtain ⟨n,ds,rfl,a,p⟩:=p;simp only [Ev.gw,gz a];exact jI w z (p.cut _ _)
 ·obtain ⟨n,ds,rfl,_,a,p⟩:=p;simp only [Ev.gw,iC a];exact jI w z (p.cut _ _)
theorem IQ {x v:V}{d:D}(z:qC x=some v) (p:bh h S x d):∃ r,Ev.yC d h=.ok r h∧Rep h S v r:=by
 cases x <;> simp only [qC,reduceCtorEq] at z <;> simp only [bh,Rep] at p
 obtain ⟨n,ds,rfl,a,p⟩:=p
 unfold iB at z
 split at z
 ·rename_i k;cases z
  refine ⟨.tup ds.reverse,?_,⟨_,rfl,p.reverse⟩⟩
  rw [List.length_reverse] at k
  simp only [Ev.yC,gz a];rw [if_pos (by rw [←p.length];exact k)]
 ·cases z
theorem My {x v:V}{d:D}(z:toT x=some v) (p:bh h S x d):∃ r,Ev.qo d h=.ok r h∧Rep h S v r:=by
 cases x <;> simp only [toT,reduceCtorEq] at z <;> simp only [bh,Rep] at p
 ·obtain ⟨ds,rfl,p⟩:=p;cases z;exact ⟨_,rfl,⟨_,rfl,p⟩⟩
 ·obtain ⟨n,ds,rfl,a,p⟩:=p
  unfold iB at z
  split at z
  ·rename_i k;cases z
   refine ⟨.tup ds,?_,⟨_,rfl,p⟩⟩
   simp only [Ev.qo,gz a];rw [if_pos (by rw [←p.length];exact k)]
  ·cases z
 ·obtain ⟨n,ds,rfl,_,a,p⟩:=p
  unfold iB at z
  split at z
  ·rename_i k;cases z
   refine ⟨.tup ds,?_,⟨_,rfl,p⟩⟩
   simp only [Ev.qo,iC a];rw [if_pos (by rw [←p.length];exact k)]
  ·cases z
theorem qE {x:V}{l:List V}{d:D}(z:jV x=some l) (p:bh h S x d):∃ s,Ev.oh h d=some s∧ay h S l s.1∧(∀ q∈s.2,d=.ref q.1∧bg h q.1=some q.2):=by
 obtain ⟨n,ds,rfl,a,q⟩:=o6 z p
 exact ⟨(ds,[(n,ds)]),by simp [Ev.oh,a],q,by simp [a]⟩
theorem IS {x:V}{d:D}(p:bh h S x d) (t:TY):Ev.dw h d t=dw x t:=by
 cases x <;> simp only [bh,Rep] at p
 ·subst p;cases t <;> rfl
 ·subst p;cases t <;> rfl
 ·subst p;cases t <;> rfl
 ·subst p;cases t <;> rfl
 ·obtain ⟨_,rfl,_⟩:=p;cases t <;> rfl
 ·obtain ⟨n,ds,rfl,a,p⟩:=p;cases t <;> simp [Ev.dw,dw,gz a]
 ·obtain ⟨n,ds,rfl,_,a,p⟩:=p;cases t <;> simp [Ev.dw,dw,iC a]
theorem C5:∀ {l:List V}{ds:List D}{bs},boolsOf l=some bs→ay h S l ds→Ev.boolsOf ds=some bs
 | [],_,_,e,q=>by simp only [ay] at q;subst q;exact e
 | x :: xs,_,bs,e,q=>by
  cases x <;> simp only [boolsOf,reduceCtorEq,Option.map_eq_some_iff] at e
  obtain ⟨r,e,rfl⟩:=e
  simp only [ay,Rep] at q
  obtain ⟨_,ds,rfl,rfl,q⟩:=q
  simp [Ev.boolsOf,C5 e q]
theorem xC:∀ {l:List V}{ds:List D}{bs},intsOf l=some bs→ay h S l ds→Ev.intsOf ds=some bs
 | [],_,_,e,q=>by simp only [ay] at q;subst q;exact e
 | x :: xs,_,bs,e,q=>by
  cases x <;> simp only [intsOf,reduceCtorEq,Option.map_eq_some_iff] at e
  obtain ⟨r,e,rfl⟩:=e
  simp only [ay,Rep] at q
  obtain ⟨_,ds,rfl,rfl,q⟩:=q
  simp [Ev.intsOf,xC e q]
theorem xD:∀ {l:List V}{ds:List D}{bs},strsOf l=some bs→ay h S l ds→Ev.strsOf ds=some bs
 | [],_,_,e,q=>by simp only [ay] at q;subst q;exact e
 | x :: xs,_,bs,e,q=>by
  cases x <;> simp only [strsOf,reduceCtorEq,Option.map_eq_some_iff] at e
  obtain ⟨r,e,rfl⟩:=e
  simp only [ay,Rep] at q
  obtain ⟨_,ds,rfl,rfl,q⟩:=q
  simp [Ev.strsOf,xD e q]
theorem fT.one {v:V}{ds:List D}(q:fT h S [v] ds):∃ d,ds=[d]∧bh h S v d:=by
 simp only [fT] at q
 obtain ⟨d,es,rfl,a,rfl⟩:=q
 exact ⟨d,rfl,a⟩
theorem Mz {b:BI}{xs:List V}{v:V}{ds:List D}(w:∀ m,S m→m<h.length) (z:dJ b xs=some v) (p:fT h S xs ds):∃ r h' S',Ev.dJ b ds h=.ok r h'∧Rep h' S' v r∧Al h S h' S':=by
 delta dJ at z
 rcases xs with _ | ⟨x,_ | ⟨y,_ | ⟨u,xs⟩⟩⟩
 ·cases b <;> exact nn z
 ·obtain ⟨d,rfl,p1⟩:=p.one
  cases b
  case len=>
   cases x
   case str s=>
    dsimp only at z;simp only [bh,Rep] at p1;subst p1
    split at z
    ·rename_i k;cases z;exact ⟨_,_,S,by delta Ev.dJ;dsimp only;rw [if_pos k],rfl,.refl⟩
    ·cases z
   case tup l=>
    dsimp only at z;simp only [bh,Rep] at p1;obtain ⟨es,rfl,p2⟩:=p1
    cases z;exact ⟨_,_,S,rfl,by simp [Rep,p2.length],.refl⟩
   all_goals
    dsimp only at z
    simp only [Option.map_eq_some_iff] at z;obtain ⟨l,z,rfl⟩:=z
    obtain ⟨n,es,rfl,a,q⟩:=o6 z p1
    exact ⟨.int es.length,h,S,by delta Ev.dJ;dsimp only;simp [a],by simp [Rep,q.length],.refl⟩
  case sum=>
   dsimp only at z
   simp only [Option.map_eq_some_iff,Option.bind_eq_some_iff] at z;obtain ⟨bs,⟨l,z,z2⟩,rfl⟩:=z
   obtain ⟨n,es,rfl,a,q⟩:=o6 z p1
   exact ⟨_,_,S,by delta Ev.dJ;dsimp only;simp only [a,Option.bind,xC z2 q];rfl,rfl,.refl⟩
  case min=>cases x <;> exact nn z
 ·cases b
  case min=>
   cases x
   case int i=>
    cases y
    case int j=>
     dsimp only at z
     simp only [fT,bh,Rep] at p;obtain ⟨_,_,rfl,rfl,_,_,rfl,rfl,rfl⟩:=p
     cases z;exact ⟨_,_,S,rfl,rfl,.refl⟩
    all_goals exact nn z
   all_goals exact nn z
  case len=>cases x <;> exact nn z
  all_goals exact nn z
 ·cases b
  case min=>cases x <;> (try cases y) <;> exact nn z
  case len=>cases x <;> exact nn z
  all_goals exact nn z
theorem MA {m:ME}{o:V}{xs:List V}{v:V}{d:D}{ds:List D}(z:fq m o xs=some v) (hm:iV m=false) (po:bh h S o d) (p:fT h S xs ds):Ev.wV m d h=true∧∃ r,Ev.fq m d ds h=.ok r h∧Rep h S v r:=by
 unfold fq at z
 split at z
 ·obtain ⟨d,rfl,p1⟩:=p.one;simp only [bh,Rep] at po;subst po
  simp only [Option.bind_eq_some_iff] at z;obtain ⟨ss,⟨l,z,z2⟩,z3⟩:=z
  obtain ⟨n,es,rfl,a,q⟩:=o6 z p1
  split at z3
  ·rename_i k;cases z3
   refine ⟨rfl,_,?_,rfl⟩
   delta Ev.fq;dsimp only;simp only [a,Option.bind,xD z2 q]
   rw [if_pos k]
  ·cases z3
 ·cases z
theorem IT {x:V}{d:D}(f:sE x=true) (p:Rep h U x d):Rep [] U x d:=by
 cases x <;> simp only [sE,Bool.false_eq_true] at f <;> exact p
theorem C6 {x:V}{d:D}(p:Rep h U x d):∀ {kvs:List (D×D)}{v:V},eU x kvs=some v→∃ r,Ev.eU d kvs=some r∧Rep h S v r:=by
 intro kvs v z
 unfold eU at z
 split at z
 ·rename_i f
  have p':=IT f p
  induction kvs with
  | nil=>cases z
  | cons kv r ih=>
   obtain ⟨k,u⟩:=kv
   simp only [yY] at z
   simp only [Ev.eU]
   split at z
   ·rename_i y
    simp only [Option.bind_eq_some_iff] at y
    obtain ⟨k',y1,y2⟩:=y
    rw [jH 1 y2 (mD y1) p']
    exact ⟨u,rfl,mD z⟩
   ·rename_i y
    simp only [Option.bind_eq_some_iff] at y
    obtain ⟨k',y1,y2⟩:=y
    rw [jH 1 y2 (mD y1) p']
    exact ih z
   ·cases z
 ·cases z
theorem C7 {x:V}{l:List V}{d:D}(z:gq x=some l) (p:bh h S x d):∃ s,Ev.gq h d=some s∧ay h S l s.1∧(∀ q∈s.2,d=.ref q.1∧bg h q.1=some q.2):=by
 cases x <;> simp only [gq,reduceCtorEq] at z <;> simp only [bh,Rep] at p
 ·subst p;cases z;exact ⟨_,rfl,ay.map (f:=fun c=>V.str [c]) (g:=fun c=>D.str [c]) (fun _=>by simp [Rep]) _,by simp⟩
 ·obtain ⟨ds,rfl,p⟩:=p;cases z;exact ⟨_,rfl,p,by simp⟩
 ·obtain ⟨n,ds,rfl,a,p⟩:=p;cases z;exact ⟨(ds,[(n,ds)]),by simp [Ev.gq,gz a],p,by simp [gz a]⟩
 ·obtain ⟨n,ds,rfl,_,a,p⟩:=p;cases z;exact ⟨(ds,[(n,ds)]),by simp [Ev.gq,iC a],p,by simp [iC a]⟩
theorem um (lo:Int) (n:Nat):ay h S (range lo n) (Ev.range lo n):=ay.map (f:=fun (i:Nat)=>V.int (lo+i)) (g:=fun (i:Nat)=>D.int (lo+i)) (fun _=>by simp [Rep]) _
theorem MB {xs l:List V}{ds:List D}(z:fF xs=some l) (p:fT h S xs ds):∃ s,Ev.fF ds=some (s,[])∧ay h S l s:=by
 unfold fF at z
 split at z
 ·obtain ⟨d,rfl,p1⟩:=p.one;simp only [bh,Rep] at p1;subst p1
  split at z
  ·rename_i k;cases z;exact ⟨_,by simp only [Ev.fF];rw [if_pos k],um _ _⟩
  ·cases z
 ·simp only [fT,bh,Rep] at p;obtain ⟨_,_,rfl,rfl,_,_,rfl,rfl,rfl⟩:=p
  split at z
  ·rename_i k;cases z;exact ⟨_,by simp only [Ev.fF];rw [if_pos k],um _ _⟩
  ·cases z
 ·cases z
theorem AX:∀ {a b:List V}{ds es:List D},ay h S a ds→ay h S b es→ay h S (eW a b) (Ev.eW ds es)
 | [],_,_,_,p,q=>by simp only [ay] at p;subst p;simp [eW,Ev.eW,ay]
 | _ :: _,[],_,_,p,q=>by simp only [ay] at q;subst q;simp [eW,Ev.eW,ay]
 | x :: xs,y :: ys,_,_,p,q=>by
  simp only [ay] at p q
  obtain ⟨d,ds,rfl,p1,p2⟩:=p
  obtain ⟨e,es,rfl,q1,q2⟩:=q
  have:=AX p2 q2
  simp only [eW,Ev.eW,List.zipWith_cons_cons] at this ⊢
  exact .cons ⟨_,rfl,.cons p1 (.cons q1 .nil)⟩ this
theorem xE:∀ {a:List V}{ds:List D}(k:Int),ay h S a ds→ay h S (gK k a) (Ev.gK k ds)
 | [],_,_,p=>by simp only [ay] at p;subst p;simp [gK,Ev.gK,ay]
 | x :: xs,_,k,p=>by
  simp only [ay] at p
  obtain ⟨d,ds,rfl,p1,p2⟩:=p
  simp only [gK,Ev.gK]
  exact .cons ⟨_,rfl,.cons rfl (.cons p1 .nil)⟩ (xE _ p2)
end
end Pv
namespace Pv
open Ev (D O Hh cz b7 TY BI ME T E Es Eo It S Ss Fn big deep b2i rep cH eG b5 aU cut cU eB slots bg)
noncomputable def kr (M B:Nat→Prop) (h:Hh) (S:Nat→Prop):Option Sl→Option D→Prop
 | none,p=>p=none
 | some (.val v),p=>∃ d,p=some d∧Rep h S v d
 | some (.own l),p=>∃ m ds,p=some (.ref m)∧(M m∧¬ B m)∧h[m]?=some (.lst ds)∧ay h S l ds
 | some (.bor l),p=>∃ m ds,p=some (.ref m)∧(M m∧B m)∧h[m]?=some (.lst ds)∧ay h S l ds
 | some (.ro l),p=>∃ m ds,p=some (.ref m)∧¬ M m∧h[m]?=some (.lst ds)∧ay h S l ds
noncomputable def gW:Option Sl→Bool
 | some (.own _)=>true
 | some (.bor _)=>true
 | _=>false
noncomputable def xF:Option Sl→Bool
 | some (.bor _)=>true
 | some (.ro _)=>true
 | _=>false
noncomputable def locked (fr:Fr) (i:Nat):Bool:=match fr[i]? with
 | some o=>xF o
 | none=>false
structure bF (M B:Nat→Prop) (h:Hh) (S:Nat→Prop) (fr:Fr) (ak:Ev.Fr):Prop where
 wS:∀ m,S m→m<h.length∧¬ M m∧¬ B m
 wM:∀ m,M m→m<h.length
 wB:∀ m,B m→m<h.length
 len:fr.length=ak.length
 sl:∀ (i:Nat) o p,fr[i]?=some o→ak[i]?=some p→kr M B h S o p
 inj:∀ (i j:Nat) o o' m,fr[i]?=some o→fr[j]?=some o'→gW o=true→gW o'=true→ak[i]?=some (some (.ref m))→ak[j]?=some (some (.ref m))→i=j
structure Tk (X:Nat→Prop) (h:Hh) (S:Nat→Prop) (h':Hh) (S':Nat→Prop):Prop where
 len:h.length≤h'.length
 keep:∀ m,m<h.length→¬ X m→h'[m]?=h[m]?
 sub:∀ m,S m→S' m
 new:∀ m,S' m→S m∨(h.length≤m∧m<h'.length)
noncomputable def Xs (M:Nat→Prop) (ak:Ev.Fr) (l:List Nat):Nat→Prop:=fun m=>M m∧∃ i∈l,ak[i]?=some (some (.ref m))
structure Out (M B:Nat→Prop) (c:List Nat) (h:Hh) (S:Nat→Prop) (fr:Fr) (ak:Ev.Fr) (h':Hh) (S':Nat→Prop) (ah:Fr):Prop where
 f:bF M B h' S' ah ak
 tr:Tk (Xs M ak c) h S h' S'
 lk:∀ i,locked ah i=locked fr i
section
variable {M B M':Nat→Prop}{h h' h1 h2:Hh}{S S' S1 S2:Nat→Prop}{fr ah av:Fr}{ak:Ev.Fr}{c c1 c2:List Nat}{v:V}{d:D}{X X1 X2:Nat→Prop}
theorem bF.get (f:bF M B h S fr ak) {i:Nat}{o:Option Sl}(e:fr[i]?=some o):∃ p,ak[i]?=some p∧kr M B h S o p:=by
 have h1:=(List.getElem?_eq_some_iff.mp e).1
 rw [f.len] at h1
 exact ⟨ak[i],List.getElem?_eq_getElem h1,f.sl i o _ e (List.getElem?_eq_getElem h1)⟩
theorem bF.w (f:bF M B h S fr ak):∀ m,S m→m<h.length:=fun m q=>(f.wS m q).1
theorem Al.tr (a:Al h S h' S'):Tk X h S h' S':=⟨a.len,fun m q _=>a.keep m q,a.sub,a.new⟩
theorem Tk.al (t:Tk X h S h' S') (z:∀ m,¬ X m):Al h S h' S':=⟨t.len,fun m q=>t.keep m q (z m),t.sub,t.new⟩
theorem Tk.weak (t:Tk X h S h' S') (q:∀ m,X m→X1 m):Tk X1 h S h' S':=⟨t.len,fun m k z=>t.keep m k fun y=>z (q m y),t.sub,t.new⟩
theorem Tk.trans (a:Tk X1 h S h1 S1) (b:Tk X2 h1 S1 h2 S2):Tk (fun m=>X1 m∨X2 m) h S h2 S2 where
 len:=Nat.le_trans a.len b.len
 keep:=fun m q z=>by rw [b.keep m (Nat.lt_of_lt_of_le q a.len) (fun y=>z (.inr y)),a.keep m q (fun y=>z (.inl y))]
 sub:=fun m q=>b.sub m (a.sub m q)
 new:=fun m q=>by
  rcases b.new m q with q | ⟨q1,q2⟩
  ·rcases a.new m q with q | ⟨q1,q2⟩
   ·exact .inl q
   ·exact .inr ⟨q1,Nat.lt_of_lt_of_le q2 b.len⟩
  ·exact .inr ⟨Nat.le_trans a.len q1,q2⟩
theorem Al.trans (a:Al h S h1 S1) (b:Al h1 S1 h2 S2):Al h S h2 S2:=((a.tr (X:=fun _=>False)).trans (b.tr (X:=fun _=>False))).al fun m z=>by simp at z
theorem Tk.refl:Tk X h S h S:=⟨Nat.le_refl _,fun _ _ _=>rfl,fun _ q=>q,fun _ q=>.inl q⟩
theorem Xs.app {l1 l2:List Nat}{m:Nat}:Xs M ak (l1++l2) m↔Xs M ak l1 m∨Xs M ak l2 m:=by
 unfold Xs
 constructor
 ·rintro ⟨a,i,hi,e⟩
  rcases List.mem_append.mp hi with hi | hi
  ·exact .inl ⟨a,i,hi,e⟩
  ·exact .inr ⟨a,i,hi,e⟩
 ·rintro (⟨a,i,hi,e⟩ | ⟨a,i,hi,e⟩)
  ·exact ⟨a,i,List.mem_append.mpr (.inl hi),e⟩
  ·exact ⟨a,i,List.mem_append.mpr (.inr hi),e⟩
theorem Xs.nil {m:Nat}:¬ Xs M ak [] m:=by rintro ⟨_,i,hi,_⟩;simp at hi
theorem Xs.mono {l1 l2:List Nat}(q:∀ i∈l1,i∈l2) {m:Nat}:Xs M ak l1 m→Xs M ak l2 m:=fun ⟨a,i,hi,e⟩=>⟨a,i,q i hi,e⟩
theorem Rep.tr (q:Rep h S v d) (f:bF M B h S fr ak) (t:Tk (Xs M ak c) h S h' S'):Rep h' S' v d:=q.mono (fun m z=>t.keep m (f.wS m z).1 (fun y=>(f.wS m z).2.1 y.1)) t.sub
theorem ay.tr {l:List V}{ds:List D}(q:ay h S l ds) (f:bF M B h S fr ak) (t:Tk (Xs M ak c) h S h' S'):ay h' S' l ds:=q.mono (fun m z=>t.keep m (f.wS m z).1 (fun y=>(f.wS m z).2.1 y.1)) t.sub
theorem bh.tr (q:bh h S v d) (f:bF M B h S fr ak) (t:Tk X h S h' S') (z:∀ m,¬ X m):bh h' S' v d:=q.mono (fun m k=>t.keep m k (z m)) f.w t.sub
theorem kr.al {o:Option Sl}{p:Option D}(q:kr M B h S o p) (w:∀ m,S m→m<h.length) (a:Al h S h' S'):kr M B h' S' o p:=by
 have k:∀ m,S m→h'[m]?=h[m]?:=fun m z=>a.keep m (w m z)
 have g:∀ (m:Nat) (ds:List D),h[m]?=some (O.lst ds)→h'[m]?=some (O.lst ds):=fun m ds z=>by rw [a.keep m (List.getElem?_eq_some_iff.mp z).1];exact z
 rcases o with _ | s
 ·exact q
 ·cases s with
  | val v=>obtain ⟨d,e,q⟩:=q;exact ⟨d,e,q.mono k a.sub⟩
  | own l=>obtain ⟨m,ds,e,z,y,q⟩:=q;exact ⟨m,ds,e,z,g m ds y,q.mono k a.sub⟩
  | bor l=>obtain ⟨m,ds,e,z,y,q⟩:=q;exact ⟨m,ds,e,z,g m ds y,q.mono k a.sub⟩
  | ro l=>obtain ⟨m,ds,e,z,y,q⟩:=q;exact ⟨m,ds,e,z,g m ds y,q.mono k a.sub⟩
theorem bF.al (f:bF M B h S fr ak) (a:Al h S h' S'):bF M B h' S' fr ak where
 wS:=fun m q=>by
  rcases a.new m q with q | ⟨q1,q2⟩
  ·exact ⟨Nat.lt_of_lt_of_le (f.wS m q).1 a.len,(f.wS m q).2⟩
  ·exact ⟨q2,fun z=>by have:=f.wM m z;omega,fun z=>by have:=f.wB m z;omega⟩
 wM:=fun m q=>Nat.lt_of_lt_of_le (f.wM m q) a.len
 wB:=fun m q=>Nat.lt_of_lt_of_le (f.wB m q) a.len
 len:=f.len
 sl:=fun i o p e1 e2=>(f.sl i o p e1 e2).al f.w a
 inj:=f.inj
theorem Out.refl (f:bF M B h S fr ak):Out M B c h S fr ak h S fr:=⟨f,.refl,fun _=>rfl⟩
theorem Out.trans (a:Out M B c1 h S fr ak h1 S1 ah) (b:Out M B c2 h1 S1 ah ak h2 S2 av):Out M B (c1++c2) h S fr ak h2 S2 av:=⟨b.f,(a.tr.trans b.tr).weak fun m z=>Xs.app.mpr z,fun i=>(b.lk i).trans (a.lk i)⟩
theorem Out.al (a:Out M B c h S fr ak h1 S1 ah) (b:Al h1 S1 h2 S2):Out M B c h S fr ak h2 S2 ah:=⟨a.f.al b,(a.tr.trans (b.tr (X:=fun _=>False))).weak (fun m z=>by rcases z with z | z;exact z;exact z.elim),a.lk⟩
theorem Out.weak (a:Out M B c h S fr ak h1 S1 ah) (q:∀ i∈c,i∈c1):Out M B c1 h S fr ak h1 S1 ah:=⟨a.f,a.tr.weak fun m z=>Xs.mono q z,a.lk⟩
noncomputable def fG (k:Bool) (h:Hh) (S:Nat→Prop) (v:V) (d:D):Prop:=if k=true then bh h S v d else Rep h S v d
theorem fG.of {k:Bool}(q:Rep h S v d):fG k h S v d:=by unfold fG;split;exact q.top;exact q
theorem fG.t {k:Bool}(q:fG k h S v d):bh h S v d:=by unfold fG at q;split at q;exact q;exact q.top
theorem fG.n (q:fG false h S v d):Rep h S v d:=by simpa [fG] using q
theorem bF.slot (f:bF M B h S fr ak) {i m:Nat}(e:ak[i]?=some (some (.ref m))) (hm:M m):∃ o,fr[i]?=some o∧gW o=true:=by
 have hl:i<fr.length:=by rw [f.len];exact (List.getElem?_eq_some_iff.mp e).1
 refine ⟨fr[i],List.getElem?_eq_getElem hl,?_⟩
 have s:=f.sl i _ _ (List.getElem?_eq_getElem hl) e
 revert s
 generalize fr[i]=o
 intro s
 rcases o with _ | s'
 ·cases s
 ·cases s' with
  | own l=>rfl
  | bor l=>rfl
  | ro l=>obtain ⟨m',ds,e,y,_⟩:=s;cases e;exact absurd hm y
  | val v=>
   obtain ⟨d,e,q⟩:=s
   cases e
   exfalso
   cases v <;> simp only [Rep,reduceCtorEq] at q
   ·obtain ⟨_,e,_⟩:=q;cases e
   ·obtain ⟨n,ds,e,sn,_⟩:=q;cases e;exact (f.wS _ sn).2.1 hm
   ·obtain ⟨n,ds,e,sn,_⟩:=q;cases e;exact (f.wS _ sn).2.1 hm
theorem fG.tr {k:Bool}{a:E}(q:fG k h S v d) (f:bF M B h S fr ak) (t:Tk (Xs M ak c) h S h' S') (hk:k=true→kf a c=true) (ha:∀ i,a=.v i→ak[i]?.join=some d):fG k h' S' v d:=by
 unfold fG at q ⊢
 split at q
 ·rename_i e
  rw [if_pos e]
  have hk:=hk e
  have gen:c=[]→bh h' S' v d:=fun z=>q.tr f t fun m y=>by subst z;exact Xs.nil y
  by_cases hv:∃ i,a=.v i
  ·obtain ⟨i0,rfl⟩:=hv
   simp only [kf,Bool.not_eq_true',List.contains_eq_mem,decide_eq_false_iff_not] at hk
   cases v
   case lst l=>
    simp only [bh] at q ⊢
    obtain ⟨n,ds,rfl,b1,b2⟩:=q
    refine ⟨n,ds,rfl,?_,b2.tr f t⟩
    rw [t.keep n (List.getElem?_eq_some_iff.mp b1).1 ?_]
    ·exact b1
    ·rintro ⟨mn,j,hj,ej⟩
     have e2:ak[i0]?=some (some (D.ref n)):=by
      have:=ha i0 rfl
      cases z:ak[i0]? with
      | none=>rw [z] at this;cases this
      | some p=>rw [z] at this;simp at this;rw [this]
     obtain ⟨o1,y1,y2⟩:=f.slot e2 mn
     obtain ⟨o2,y3,y4⟩:=f.slot ej mn
     have:=f.inj i0 j o1 o2 n y1 y3 y2 y4 e2 ej
     subst this
     exact hk hj
   all_goals exact Rep.tr (show Rep h S _ d from q) f t
  ·have:kf a c=c.isEmpty:=by
    cases a <;> first | rfl | exact absurd ⟨_,rfl⟩ hv
   rw [this,List.isEmpty_iff] at hk
   exact gen hk
 ·rename_i e
  rw [if_neg e]
  exact q.tr f t
theorem IU {k:Bool}{i:Nat}(e:qD k fr i=some v) (f:bF M B h S fr ak):∃ d,ak[i]?.join=some d∧fG k h S v d:=by
  unfold qD at e
  split at e
  · rename_i z
    obtain ⟨p,e1,q⟩:=f.get z
    obtain ⟨d,rfl,q⟩:=q
    cases e
    exact ⟨d,by rw [e1];rfl,.of q⟩
  all_goals first
    | (rename_i z
       obtain ⟨p,e1,q⟩:=f.get z
       obtain ⟨m,ds,rfl,_,y,q⟩:=q
       split at e
       · rename_i hk
         cases e
         exact ⟨.ref m,by rw [e1];rfl,by unfold fG;rw [if_pos hk];exact ⟨m,ds,rfl,y,q⟩⟩
       · cases e)
    | cases e
theorem jA {i:Nat}{s:Sl}(e:lent fr i=some s) (f:bF M B h S fr ak):∃ m ds l o,fr[i]?=some o∧ak[i]?=some (some (.ref m))∧h[m]?=some (.lst ds)∧ay h S l ds∧((s=.bor l∧M m∧gW o=true)∨(s=.ro l∧¬ M m∧o=some (.ro l))):=by
 unfold lent at e
 split at e
 ·rename_i s' z
  obtain ⟨p,e1,q⟩:=f.get z
  cases s' with
  | val v=>simp [Sl.lend] at e
  | own l=>
   simp [Sl.lend] at e;subst e
   obtain ⟨m,ds,rfl,y,y1,q⟩:=q
   exact ⟨m,ds,l,_,z,e1,y1,q,.inl ⟨rfl,y.1,rfl⟩⟩
  | bor l=>
   simp [Sl.lend] at e;subst e
   obtain ⟨m,ds,rfl,y,y1,q⟩:=q
   exact ⟨m,ds,l,_,z,e1,y1,q,.inl ⟨rfl,y.1,rfl⟩⟩
  | ro l=>
   simp [Sl.lend] at e;subst e
   obtain ⟨m,ds,rfl,y,y1,q⟩:=q
   exact ⟨m,ds,l,_,z,e1,y1,q,.inr ⟨rfl,y,rfl⟩⟩
 ·cases e
noncomputable def uo (h:Hh) (S:Nat→Prop) (ak:Ev.Fr):List (Nat ⊕ V)→List D→Prop
 | [],ds=>ds=[]
 | .inl i :: r,ds=>∃ d es,ds=d :: es∧ak[i]?=some (some d)∧uo h S ak r es
 | .inr v :: r,ds=>∃ d es,ds=d :: es∧Rep h S v d∧uo h S ak r es
noncomputable def mE (h:Hh) (S:Nat→Prop):List Sl→List D→List (List V)→Prop
 | [],_,os=>os=[]
 | .val _ :: sl,ds,os=>∃ d es,ds=d :: es∧mE h S sl es os
 | .own _ :: _,_,_=>False
 | _ :: sl,ds,os=>∃ d es l r m cs,ds=d :: es∧os=l :: r∧d=.ref m∧h[m]?=some (.lst cs)∧ay h S l cs∧mE h S sl es r
noncomputable def o8 (P:aW) (P':Ev.aW):Prop:=∀ f sl v os,P f sl=some (v,os)→∀ (h:Hh) (S B:Nat→Prop) (ds:List D),bF B B h S (sl.map some) (ds.map some)→
 ∃ d h' S',P' f ds h=.ok d h'∧Rep h' S' v d∧Tk B h S h' S'∧mE h' S' sl ds os
theorem args_get (f:bF M B h S fr ak):∀ {as:List (Nat ⊕ V)}{sl:List Sl}{ds:List D},args fr as=some sl→uo h S ak as ds→sl.length=ds.length∧∀ (a:Nat) s d,sl[a]?=some s→ds[a]?=some d→
  (∃ i,as[a]?=some (.inl i)∧lent fr i=some s∧ak[i]?=some (some d))∨(∃ v,s=.val v∧Rep h S v d)
 | [],sl,ds,e,q=>by
  simp [args] at e;simp only [uo] at q;subst e q;simp
 | .inl i :: r,sl,ds,e,q=>by
  simp only [args,Option.bind_eq_some_iff,Option.map_eq_some_iff] at e
  obtain ⟨s,e1,l,e2,rfl⟩:=e
  obtain ⟨d,es,rfl,q1,q⟩:=q
  obtain ⟨h1,h2⟩:=args_get f e2 q
  refine ⟨by simp [h1],fun a s' d' z1 z2=>?_⟩
  cases a with
  | zero=>simp at z1 z2;subst z1 z2;exact .inl ⟨i,by simp,e1,q1⟩
  | succ a=>exact (h2 a s' d' (by simpa using z1) (by simpa using z2)).imp (fun ⟨i,k,z⟩=>⟨i,by simpa using k,z⟩) id
 | .inr v :: r,sl,ds,e,q=>by
  simp only [args,Option.map_eq_some_iff] at e
  obtain ⟨l,e2,rfl⟩:=e
  obtain ⟨d,es,rfl,q1,q⟩:=q
  obtain ⟨h1,h2⟩:=args_get f e2 q
  refine ⟨by simp [h1],fun a s' d' z1 z2=>?_⟩
  cases a with
  | zero=>simp at z1 z2;subst z1 z2;exact .inr ⟨v,rfl,q1⟩
  | succ a=>exact (h2 a s' d' (by simpa using z1) (by simpa using z2)).imp (fun ⟨i,k,z⟩=>⟨i,by simpa using k,z⟩) id
theorem gX:∀ {as:List (Nat ⊕ V)}{a i:Nat},as[a]?=some (.inl i)→i∈bU as
 | [],_,_,e=>by simp at e
 | .inl j :: r,0,i,e=>by simp at e;subst e;simp [bU]
 | .inr j :: r,0,i,e=>by simp at e
 | .inl j :: r,a+1,i,e=>by have:=gX (as:=r) (a:=a) (i:=i) (by simpa using e);simp [bU,this]
 | .inr j :: r,a+1,i,e=>by have:=gX (as:=r) (a:=a) (i:=i) (by simpa using e);simp [bU,this]
theorem mF:∀ {as:List (Nat ⊕ V)}{a b i:Nat},(bU as).Nodup→as[a]?=some (.inl i)→as[b]?=some (.inl i)→a=b
 | [],_,_,_,_,e,_=>by simp at e
 | x :: r,0,0,_,_,_,_=>rfl
 | .inr j :: r,0,b+1,i,n,e,_=>by simp at e
 | .inl j :: r,0,b+1,i,n,e,e2=>by
  simp at e;subst e
  simp only [bU,List.nodup_cons] at n
  exact absurd (gX (as:=r) (a:=b) (by simpa using e2)) n.1
 | .inr j :: r,a+1,0,i,n,_,e=>by simp at e
 | .inl j :: r,a+1,0,i,n,e2,e=>by
  simp at e;subst e
  simp only [bU,List.nodup_cons] at n
  exact absurd (gX (as:=r) (a:=a) (by simpa using e2)) n.1
 | .inl j :: r,a+1,b+1,i,n,e1,e2=>by
  simp only [bU,List.nodup_cons] at n
  have:=mF (as:=r) (a:=a) (b:=b) (i:=i) n.2 (by simpa using e1) (by simpa using e2)
  omega
 | .inr j :: r,a+1,b+1,i,n,e1,e2=>by
  simp only [bU] at n
  have:=mF (as:=r) (a:=a) (b:=b) (i:=i) n (by simpa using e1) (by simpa using e2)
  omega
theorem C8 {s:Sl}{l:List V}:gW (some (s.with l))=gW (some s):=by cases s <;> rfl
theorem xG {s:Sl}{l:List V}:xF (some (s.with l))=xF (some s):=by cases s <;> rfl
theorem uq:∀ {is:List Nat}{ls:List (List V)}{fr ah:Fr},back is ls fr=some ah→is.Nodup→ah.length=fr.length∧(∀ i,i∉is→ah[i]?=fr[i]?)∧∀ i∈is,∃ (k:Nat) (s:Sl) (l:List V),is[k]?=some i∧ls[k]?=some l∧fr[i]?=some (some s)∧ah[i]?=some (some (s.with l))
 | [],[],fr,ah,e,_=>by simp [back] at e;subst e;simp
 | [],_ :: _,_,_,e,_=>by simp [back] at e
 | _ :: _,[],_,_,e,_=>by simp [back] at e
 | i :: is,l :: ls,fr,ah,e,n=>by
  simp only [back] at e
  simp only [List.nodup_cons] at n
  split at e
  ·rename_i s z
   obtain ⟨h1,h2,h3⟩:=uq e n.2
   refine ⟨by simpa using h1,fun j hj=>?_,fun j hj=>?_⟩
   ·simp at hj
    rw [h2 j hj.2,List.getElem?_set_ne (fun q=>hj.1 q.symm)]
   ·rcases List.mem_cons.mp hj with rfl | hj
    ·exact ⟨0,s,l,by simp,by simp,z,by rw [h2 j n.1,List.getElem?_set_self (List.getElem?_eq_some_iff.mp z).1]⟩
    ·obtain ⟨k,s',l',a,b,c,d⟩:=h3 j hj
     have hne:i≠j:=fun q=>n.1 (q▸hj)
     rw [List.getElem?_set_ne hne] at c
     exact ⟨k+1,s',l',by simpa using a,by simpa using b,c,d⟩
  ·cases e
theorem mG (f:bF M B h S fr ak):∀ {as:List (Nat ⊕ V)}{sl:List Sl}{ds:List D}{os:List (List V)},args fr as=some sl→uo h S ak as ds→mE h' S' sl ds os→
  ∀ (k i:Nat) l,(bU as)[k]?=some i→os[k]?=some l→∃ m cs,ak[i]?=some (some (.ref m))∧h'[m]?=some (.lst cs)∧ay h' S' l cs
 | [],sl,ds,os,e,q,o=>by simp [bU]
 | .inl i :: r,sl,ds,os,e,q,o=>by
  simp only [args,Option.bind_eq_some_iff,Option.map_eq_some_iff] at e
  obtain ⟨s,e1,l,e2,rfl⟩:=e
  obtain ⟨d,es,rfl,q1,q⟩:=q
  obtain ⟨m,cs,l0,o0,_,z2,z3,z4,z5⟩:=jA e1 f
  have key:∃ l1 r1 cs,os=l1 :: r1∧h'[m]?=some (.lst cs)∧ay h' S' l1 cs∧mE h' S' l es r1:=by
   rw [q1] at z2;cases z2
   rcases z5 with ⟨rfl,_⟩ | ⟨rfl,_⟩
   ·obtain ⟨d',es',l1,r1,m1,AY,a1,a2,a3,a4,a5,a6⟩:=o
    cases a1;cases a3
    exact ⟨l1,r1,AY,a2,a4,a5,a6⟩
   ·obtain ⟨d',es',l1,r1,m1,AY,a1,a2,a3,a4,a5,a6⟩:=o
    cases a1;cases a3
    exact ⟨l1,r1,AY,a2,a4,a5,a6⟩
  obtain ⟨l1,r1,AY,rfl,a4,a5,a6⟩:=key
  intro k j l' y1 y2
  cases k with
  | zero=>simp [bU] at y1 y2;subst y1 y2;exact ⟨m,AY,z2,a4,a5⟩
  | succ k=>exact mG f e2 q a6 k j l' (by simpa [bU] using y1) (by simpa using y2)
 | .inr v :: r,sl,ds,os,e,q,o=>by
  simp only [args,Option.map_eq_some_iff] at e
  obtain ⟨l,e2,rfl⟩:=e
  obtain ⟨d,es,rfl,q1,q⟩:=q
  obtain ⟨d',es',a1,a2⟩:=o
  cases a1
  intro k j l' y1 y2
  exact mG f e2 q a2 k j l' (by simpa [bU] using y1) y2
theorem kU:∀ {as:List (Nat ⊕ V)}{sl:List Sl}{i:Nat},args fr as=some sl→i∈bU as→∃ s,lent fr i=some s
 | [],_,_,_,q=>by simp [bU] at q
 | .inl j :: r,_,i,z,q=>by
  simp only [args,Option.bind_eq_some_iff,Option.map_eq_some_iff] at z
  obtain ⟨s,e1,l,e2,rfl⟩:=z
  simp [bU] at q
  rcases q with rfl | q
  ·exact ⟨s,e1⟩
  ·exact kU e2 q
 | .inr u :: r,_,i,z,q=>by
  simp only [args,Option.map_eq_some_iff] at z
  obtain ⟨l,e2,rfl⟩:=z
  exact kU e2 (by simpa [bU] using q)
theorem C9 {P:aW}{P':Ev.aW}(HP:o8 P P') {g:Nat}{as:List (Nat ⊕ V)}{ds:List D}(e:dW P g as fr=.ok v ah) (f:bF M B h S fr ak) (q:uo h S ak as ds) :
  ∃ d h' S',P' g ds h=.ok d h'∧Rep h' S' v d∧Out M B (bU as) h S fr ak h' S' ah:=by
 unfold dW at e
 split at e
 case isFalse=>cases e
 rename_i nd
 cases z:args fr as with
 | none=>rw [z] at e;cases e
 | some sl=>
 rw [z] at e
 simp only at e
 cases z2:P g sl with
 | none=>rw [z2] at e;cases e
 | some vo=>
 obtain ⟨v',os⟩:=vo
 rw [z2] at e
 simp only at e
 cases z3:back (bU as) os fr with
 | none=>rw [z3] at e;cases e
 | some av=>
 rw [z3] at e
 simp at e
 obtain ⟨rfl,rfl⟩:=e
 obtain ⟨hl,hg⟩:=args_get f z q
 let B0:Nat→Prop:=fun m=>∃ i o,i∈bU as∧fr[i]?=some o∧gW o=true∧ak[i]?=some (some (.ref m))
 have o9:∀ m,B0 m→M m:=fun m ⟨i,o,_,a,b,c⟩=>by
  have s:=f.sl i o _ a c
  rcases o with _ | s'
  ·cases b
  ·cases s' with
   | val v=>cases b
   | ro l=>cases b
   | own l=>obtain ⟨m',ds',e,y,_⟩:=s;cases e;exact y.1
   | bor l=>obtain ⟨m',ds',e,y,_⟩:=s;cases e;exact y.1
 have F0:bF B0 B0 h S (sl.map some) (ds.map some):=by
  refine ⟨fun m y=>⟨(f.wS m y).1,fun z=>(f.wS m y).2.1 (o9 m z),fun z=>(f.wS m y).2.1 (o9 m z)⟩,fun m y=>f.wM m (o9 m y),fun m y=>f.wM m (o9 m y),by simp [hl],fun a o p y1 y2=>?_,fun a b o o' m y1 y2 y3 y4 y5 y6=>?_⟩
  ·simp at y1 y2
   obtain ⟨s,y1,rfl⟩:=y1
   obtain ⟨d,y2,rfl⟩:=y2
   rcases hg a s d y1 y2 with ⟨i,k1,k2,k3⟩ | ⟨u,rfl,k⟩
   ·obtain ⟨m,cs,l0,o0,w1,w2,w3,w4,w5⟩:=jA k2 f
    rw [k3] at w2;cases w2
    rcases w5 with ⟨rfl,w6,w7⟩ | ⟨rfl,w6,w7⟩
    ·exact ⟨m,cs,rfl,⟨⟨i,o0,gX k1,w1,w7,k3⟩,⟨i,o0,gX k1,w1,w7,k3⟩⟩,w3,w4⟩
    ·exact ⟨m,cs,rfl,fun z=>w6 (o9 m z),w3,w4⟩
   ·exact ⟨d,rfl,k⟩
  ·simp at y1 y2 y5 y6
   obtain ⟨s,y1,rfl⟩:=y1
   obtain ⟨s',y2,rfl⟩:=y2
   rcases hg a s _ y1 y5 with ⟨i,k1,k2,k3⟩ | ⟨u,rfl,k⟩
   ·rcases hg b s' _ y2 y6 with ⟨j,k4,k5,k6⟩ | ⟨u,rfl,k⟩
    ·obtain ⟨m1,_,l1,o1,w1,w2,_,_,w5⟩:=jA k2 f
     obtain ⟨m2,_,l2,o2,x1,x2,_,_,x5⟩:=jA k5 f
     have i1:gW o1=true:=by rcases w5 with ⟨_,_,w7⟩ | ⟨rfl,_,_⟩;exact w7;cases y3
     have i2:gW o2=true:=by rcases x5 with ⟨_,_,w7⟩ | ⟨rfl,_,_⟩;exact w7;cases y4
     have:=f.inj i j o1 o2 m w1 x1 i1 i2 k3 k6
     subst this
     exact mF nd k1 k4
    ·cases y4
   ·cases y3
 obtain ⟨d,h',S',c1,c2,c3,c4⟩:=HP g sl v' os z2 h S B0 ds F0
 obtain ⟨b1,b2,b3⟩:=uq z3 nd
 have hL:=mG f z q c4
 have pe:∀ m,S m→h'[m]?=h[m]?:=fun m y=>c3.keep m (f.wS m y).1 (fun z=>(f.wS m y).2.1 (o9 m z))
 refine ⟨d,h',S',c1,c2,⟨?_,?_,?_⟩⟩
 ·refine ⟨fun m y=>?_,fun m y=>Nat.lt_of_lt_of_le (f.wM m y) c3.len,fun m y=>Nat.lt_of_lt_of_le (f.wB m y) c3.len,by rw [b1,f.len],fun i o p y1 y2=>?_,fun i j o o' m y1 y2 y3 y4 y5 y6=>?_⟩
  ·rcases c3.new m y with y | ⟨y1,y2⟩
   ·exact ⟨Nat.lt_of_lt_of_le (f.wS m y).1 c3.len,(f.wS m y).2⟩
   ·exact ⟨y2,fun z=>by have:=f.wM m z;omega,fun z=>by have:=f.wB m z;omega⟩
  ·by_cases hi:i∈bU as
   ·obtain ⟨k,s,l,w1,w2,w3,w4⟩:=b3 i hi
    rw [w4] at y1;cases y1
    obtain ⟨m,cs,x1,x2,x3⟩:=hL k i l w1 w2
    rw [x1] at y2;cases y2
    have old:=f.sl i _ _ w3 x1
    cases s with
    | val u=>
     exfalso
     have:∃ s,lent fr i=some s:=kU z hi
     obtain ⟨s,hs⟩:=this
     simp [lent,w3,Sl.lend] at hs
    | own u=>obtain ⟨m',ds',e,y,_⟩:=old;cases e;exact ⟨m,cs,rfl,y,x2,x3⟩
    | bor u=>obtain ⟨m',ds',e,y,_⟩:=old;cases e;exact ⟨m,cs,rfl,y,x2,x3⟩
    | ro u=>
     obtain ⟨m',ds',e,y,y1,y2⟩:=old;cases e
     refine ⟨m,ds',rfl,y,?_,y2.mono pe c3.sub⟩
     rw [c3.keep m (List.getElem?_eq_some_iff.mp y1).1 (fun z=>y (o9 m z))];exact y1
   ·rw [b2 i hi] at y1
    have old:=f.sl i o p y1 y2
    rcases o with _ | s
    ·exact old
    ·cases s with
     | val u=>obtain ⟨d,e,q⟩:=old;exact ⟨d,e,q.mono pe c3.sub⟩
     | own u=>
      obtain ⟨m,ds',rfl,w1,w2,w3⟩:=old
      refine ⟨m,ds',rfl,w1,?_,w3.mono pe c3.sub⟩
      rw [c3.keep m (f.wM m w1.1) (fun ⟨j,o2,x1,x2,x3,x4⟩=>hi (f.inj i j _ o2 m y1 x2 rfl x3 y2 x4▸x1))];exact w2
     | bor u=>
      obtain ⟨m,ds',rfl,w1,w2,w3⟩:=old
      refine ⟨m,ds',rfl,w1,?_,w3.mono pe c3.sub⟩
      rw [c3.keep m (f.wM m w1.1) (fun ⟨j,o2,x1,x2,x3,x4⟩=>hi (f.inj i j _ o2 m y1 x2 rfl x3 y2 x4▸x1))];exact w2
     | ro u=>
      obtain ⟨m,ds',rfl,w1,w2,w3⟩:=old
      refine ⟨m,ds',rfl,w1,?_,w3.mono pe c3.sub⟩
      rw [c3.keep m (List.getElem?_eq_some_iff.mp w2).1 (fun z=>w1 (o9 m z))];exact w2
  ·have kind:∀ (i:Nat) o,av[i]?=some o→gW o=true→∃ o0,fr[i]?=some o0∧gW o0=true:=fun i o w1 w2=>by
    by_cases hi:i∈bU as
    ·obtain ⟨k,s,l,x1,x2,x3,x4⟩:=b3 i hi
     rw [x4] at w1;cases w1
     exact ⟨_,x3,by rw [C8] at w2;exact w2⟩
    ·rw [b2 i hi] at w1;exact ⟨o,w1,w2⟩
   obtain ⟨oi,k1,k2⟩:=kind i o y1 y3
   obtain ⟨oj,k3,k4⟩:=kind j o' y2 y4
   exact f.inj i j oi oj m k1 k3 k2 k4 y5 y6
 ·exact c3.weak fun m z=>⟨o9 m z,by obtain ⟨i,o,a1,a2,a3,a4⟩:=z;exact ⟨i,a1,a4⟩⟩
 ·intro i
  unfold locked
  by_cases hi:i∈bU as
  ·obtain ⟨k,s,l,x1,x2,x3,x4⟩:=b3 i hi
   rw [x3,x4];exact xG
  ·rw [b2 i hi]
end
end Pv
namespace Pv
open Ev (D O Hh cz b7 TY BI ME T E Es Eo It S Ss Fn big deep b2i rep cH eG b5 aU cut cU eB slots bg)
section
variable {M B M':Nat→Prop}{h h' h1 h2:Hh}{S S' S1 S2:Nat→Prop}{fr ah av:Fr}{ak:Ev.Fr}{c c1 c2:List Nat}{v:V}{d:D}
theorem kD {n m:Nat}{o:O}(q:n≠m):(h.set n o)[m]?=h[m]?:=List.getElem?_set_ne q
theorem bF.mM (f:bF M B h S fr ak) {i n:Nat}{o:Option Sl}(e:fr[i]?=some o) (hM:gW o=true) (e':ak[i]?=some (some (.ref n))):M n:=by
 have s:=f.sl i o _ e e'
 rcases o with _ | s'
 ·cases hM
 ·cases s' with
  | val v=>cases hM
  | ro l=>cases hM
  | own l=>obtain ⟨m',ds',e,y,_⟩:=s;cases e;exact y.1
  | bor l=>obtain ⟨m',ds',e,y,_⟩:=s;cases e;exact y.1
theorem bF.write (f:bF M B h S fr ak) {i n:Nat}{s:Sl}{l':List V}{ds':List D}(e:fr[i]?=some (some s)) (hM:gW (some s)=true) (e':ak[i]?=some (some (.ref n))) (q:ay h S l' ds') :
  bF M B (h.set n (.lst ds')) S (fr.set i (some (s.with l'))) ak:=by
 have mn:=f.mM e hM e'
 have kp:∀ m,S m→(h.set n (.lst ds'))[m]?=h[m]?:=fun m z=>kD fun y=>(f.wS m z).2.1 (y▸mn)
 have il:=(List.getElem?_eq_some_iff.mp e).1
 refine ⟨fun m y=>by simpa using f.wS m y,fun m y=>by simpa using f.wM m y,fun m y=>by simpa using f.wB m y,by simp [f.len],fun j o p y1 y2=>?_,fun j k o o' m y1 y2 y3 y4 y5 y6=>?_⟩
 ·by_cases hj:i=j
  ·subst hj
   rw [List.getElem?_set_self il] at y1
   cases y1
   rw [e'] at y2;cases y2
   have old:=f.sl i _ _ e e'
   have hn:(h.set n (.lst ds'))[n]?=some (.lst ds'):=List.getElem?_set_self (f.wM n mn)
   cases s with
   | val v=>cases hM
   | ro l=>cases hM
   | own l=>obtain ⟨m',_,e,y,_⟩:=old;cases e;exact ⟨n,ds',rfl,y,hn,q.mono kp fun _ z=>z⟩
   | bor l=>obtain ⟨m',_,e,y,_⟩:=old;cases e;exact ⟨n,ds',rfl,y,hn,q.mono kp fun _ z=>z⟩
  ·rw [List.getElem?_set_ne hj] at y1
   have old:=f.sl j o p y1 y2
   rcases o with _ | s'
   ·exact old
   ·cases s' with
    | val u=>obtain ⟨d,e,q⟩:=old;exact ⟨d,e,q.mono kp fun _ z=>z⟩
    | own u=>
     obtain ⟨m,es,rfl,w1,w2,w3⟩:=old
     refine ⟨m,es,rfl,w1,?_,w3.mono kp fun _ z=>z⟩
     rw [kD fun (z:n=m)=>hj (f.inj i j _ _ n e y1 hM rfl e' (by rw [z];exact y2))];exact w2
    | bor u=>
     obtain ⟨m,es,rfl,w1,w2,w3⟩:=old
     refine ⟨m,es,rfl,w1,?_,w3.mono kp fun _ z=>z⟩
     rw [kD fun (z:n=m)=>hj (f.inj i j _ _ n e y1 hM rfl e' (by rw [z];exact y2))];exact w2
    | ro u=>
     obtain ⟨m,es,rfl,w1,w2,w3⟩:=old
     refine ⟨m,es,rfl,w1,?_,w3.mono kp fun _ z=>z⟩
     rw [kD fun (z:n=m)=>w1 (z▸mn)];exact w2
 ·have kind:∀ (j:Nat) o,(fr.set i (some (s.with l')))[j]?=some o→gW o=true→∃ o0,fr[j]?=some o0∧gW o0=true:=fun j o w1 w2=>by
   by_cases hj:i=j
   ·subst hj;exact ⟨_,e,hM⟩
   ·rw [List.getElem?_set_ne hj] at w1;exact ⟨o,w1,w2⟩
  obtain ⟨oi,k1,k2⟩:=kind j o y1 y3
  obtain ⟨oj,k3,k4⟩:=kind k o' y2 y4
  exact f.inj j k oi oj m k1 k3 k2 k4 y5 y6
theorem MC {m:ME}{l l':List V}{xs:List V}{n:Nat}{ds es:List D}(z:jW m l xs=some (v,l')) (e:h[n]?=some (.lst ds)) (q:ay h S l ds) (p:fT h S xs es) (p':AU m=false→ay h S xs es) (hS:∀ k,S k→k≠n) :
  ∃ r ds',Ev.fq m (.ref n) es h=.ok r (h.set n (.lst ds'))∧Rep h S v r∧ay h S l' ds':=by
 unfold jW at z
 split at z
 ·have p':=p' rfl
  split at z
  ·rename_i k
   cases z
   simp only [ay] at p'
   obtain ⟨d,_,rfl,p1,rfl⟩:=p'
   refine ⟨_,_,?_,rfl,q.append (.cons p1 .nil)⟩
   delta Ev.fq;dsimp only;simp only [e]
   rw [if_pos (by rw [←q.length];exact k)]
  ·cases z
 ·split at z
  ·rename_i k
   cases z
   obtain ⟨d,rfl,p1⟩:=p.one
   simp only [bh] at p1
   obtain ⟨n2,cs,rfl,e2,p1⟩:=p1
   refine ⟨_,_,?_,rfl,q.append p1⟩
   delta Ev.fq;dsimp only;simp only [e,e2]
   rw [if_pos (by rw [←q.length,←p1.length];exact k)]
  ·cases z
 ·simp only [fT] at p
  subst p
  split at z
  ·rename_i x y
   cases z
   obtain ⟨d,k1,k2⟩:=q.get y
   refine ⟨d,_,?_,k2,q.dropLast⟩
   delta Ev.fq;dsimp only;simp only [e]
   rw [←q.length,k1]
  ·cases z
 ·cases z
theorem bF.set (f:bF M B h S fr ak) {i:Nat}(e:put fr i (.val v)=some ah) (q:Rep h S v d):bF M B h S ah (ak.set i (some d))∧(∀ j,locked ah j=locked fr j)∧∀ j,locked fr j=true→(ak.set i (some d))[j]?=ak[j]?:=by
 have hx:ah=fr.set i (some (.val v))∧locked fr i=false:=by
  unfold put at e
  unfold locked
  split at e
  ·cases e
  ·cases e
  ·rename_i k1 k2
   cases e
   refine ⟨rfl,?_⟩
   cases z:fr[i]? with
   | none=>rfl
   | some o=>
    rcases o with _ | s
    ·rfl
    ·cases s with
     | bor l=>exact absurd z (k1 l)
     | ro l=>exact absurd z (k2 l)
     | _=>rfl
 obtain ⟨rfl,hk⟩:=hx
 have lk:∀ j,locked (fr.set i (some (.val v))) j=locked fr j:=fun j=>by
  by_cases hj:i=j
  ·subst hj
   rw [hk]
   unfold locked
   by_cases hl:i<fr.length
   ·rw [List.getElem?_set_self hl];rfl
   ·rw [List.getElem?_eq_none (by simpa using hl)]
  ·unfold locked;rw [List.getElem?_set_ne hj]
 refine ⟨⟨f.wS,f.wM,f.wB,by simp [f.len],fun j o p y1 y2=>?_,fun j k o o' m y1 y2 y3 y4 y5 y6=>?_⟩,lk,fun j hj=>?_⟩
 ·by_cases hj:i=j
  ·subst hj
   have hl:i<fr.length:=by have:=(List.getElem?_eq_some_iff.mp y1).1;simpa using this
   rw [List.getElem?_set_self hl] at y1
   rw [List.getElem?_set_self (by rw [←f.len];exact hl)] at y2
   cases y1;cases y2
   exact ⟨d,rfl,q⟩
  ·rw [List.getElem?_set_ne hj] at y1 y2
   exact f.sl j o p y1 y2
 ·have hn:∀ (j:Nat) o,(fr.set i (some (.val v)))[j]?=some o→gW o=true→i≠j:=fun j o w1 w2 w3=>by
   subst w3
   have hl:i<fr.length:=by have:=(List.getElem?_eq_some_iff.mp w1).1;simpa using this
   rw [List.getElem?_set_self hl] at w1
   cases w1;cases w2
  have n1:=hn j o y1 y3
  have n2:=hn k o' y2 y4
  rw [List.getElem?_set_ne n1] at y1 y5
  rw [List.getElem?_set_ne n2] at y2 y6
  exact f.inj j k o o' m y1 y2 y3 y4 y5 y6
 ·have:i≠j:=fun z=>by subst z;rw [hk] at hj;cases hj
  rw [List.getElem?_set_ne this]
theorem bF.cR:∀ {is:List Nat}{vs:List V}{ds:List D}{fr ah:Fr}{ak:Ev.Fr},bF M B h S fr ak→cR is vs fr=some ah→ay h S vs ds→∃ bN,Ev.cR is ds ak=some bN∧bF M B h S ah bN∧(∀ j,locked ah j=locked fr j)∧∀ j,locked fr j=true→bN[j]?=ak[j]?
 | [],[],ds,fr,ah,ak,f,e,q=>by
  simp [Pv.cR] at e;simp only [ay] at q;subst e q
  exact ⟨ak,rfl,f,fun _=>rfl,fun _ _=>rfl⟩
 | [],_ :: _,_,_,_,_,_,e,_=>by simp [Pv.cR] at e
 | _ :: _,[],_,_,_,_,_,e,_=>by simp [Pv.cR] at e
 | i :: is,v :: vs,ds,fr,ah,ak,f,e,q=>by
  simp only [Pv.cR,Option.bind_eq_some_iff] at e
  obtain ⟨av,e1,e2⟩:=e
  simp only [ay] at q
  obtain ⟨d,es,rfl,q1,q2⟩:=q
  obtain ⟨f2,l2,r2⟩:=f.set e1 q1
  obtain ⟨bN,a,f3,l3,r3⟩:=f2.cR e2 q2
  exact ⟨bN,a,f3,fun j=>(l3 j).trans (l2 j),fun j hj=>(r3 j (by rw [l2 j];exact hj)).trans (r2 j hj)⟩
theorem bF.cy (f:bF M B h S fr ak) {t:T}(e:cy t v fr=some ah) (q:Rep h S v d):∃ bN,Ev.cy t d ak=some bN∧bF M B h S ah bN∧(∀ j,locked ah j=locked fr j)∧∀ j,locked fr j=true→bN[j]?=ak[j]?:=by
 cases t with
 | one i=>exact ⟨_,rfl,f.set e q⟩
 | many l=>
  cases v <;> simp only [Pv.cy,reduceCtorEq] at e
  simp only [Rep] at q
  obtain ⟨ds,rfl,q⟩:=q
  exact f.cR e q
theorem bF.undef (f:bF M B h S fr ak) {t:T}(e:undef t fr=true):Ev.undef t ak=true:=by
 unfold Pv.undef at e
 unfold Ev.undef
 rw [List.all_eq_true] at e ⊢
 intro i hi
 have:=e i hi
 cases z:fr[i]? with
 | none=>
  have:ak[i]?=none:=by
   rw [List.getElem?_eq_none_iff] at z ⊢
   rw [←f.len];exact z
  rw [this];rfl
 | some o=>
  obtain ⟨p,e1,q⟩:=f.get z
  rw [z] at this
  rcases o with _ | s
  ·simp only [kr] at q;subst q;rw [e1];rfl
  ·simp at this
theorem xH {i:Nat}{o:Option Sl}(e:(nP fr)[i]?=some o):∃ o0,fr[i]?=some o0∧o=o0.map Sl.read:=by
 unfold nP at e
 rw [List.getElem?_map] at e
 cases z:fr[i]? with
 | none=>rw [z] at e;cases e
 | some o0=>rw [z] at e;cases e;exact ⟨o0,rfl,rfl⟩
theorem bF.ro (f:bF M B h S fr ak):bF (fun _=>False) B h S (nP fr) ak:=by
 refine ⟨fun m y=>⟨(f.wS m y).1,id,(f.wS m y).2.2⟩,fun m y=>y.elim,f.wB,by simp [nP,f.len],fun i o p y1 y2=>?_,fun i j o o' m y1 y2 y3 y4 y5 y6=>?_⟩
 ·obtain ⟨o0,z,rfl⟩:=xH y1
  have q:=f.sl i o0 p z y2
  rcases o0 with _ | s
  ·exact q
  ·cases s with
   | val v=>exact q
   | own l=>obtain ⟨m,ds,a,b,c,d⟩:=q;exact ⟨m,ds,a,id,c,d⟩
   | bor l=>obtain ⟨m,ds,a,b,c,d⟩:=q;exact ⟨m,ds,a,id,c,d⟩
   | ro l=>obtain ⟨m,ds,a,b,c,d⟩:=q;exact ⟨m,ds,a,id,c,d⟩
 ·obtain ⟨o0,z,rfl⟩:=xH y1
  rcases o0 with _ | s
  ·cases y3
  ·cases s <;> cases y3
theorem jJ:∀ {ck:List (Nat×List D)},(∀ q∈ck,bg h q.1=some q.2)→Ev.stays h ck=true
 | [],_=>rfl
 | (n,ds) :: r,q=>by
  simp only [Ev.stays,Bool.and_eq_true]
  refine ⟨?_,jJ fun x hx=>q x (List.mem_cons_of_mem _ hx)⟩
  rw [q (n,ds) (List.mem_cons_self ..)]
  exact Ev.yz _
theorem kW {n:Nat}{ds:List D}(q:bg h n=some ds) (k:h'[n]?=h[n]?):bg h' n=some ds:=by
 unfold bg at q ⊢;rw [k];exact q
theorem pq {n:Nat}{ds:List D}(q:bg h n=some ds):n<h.length:=by
 unfold bg at q
 cases z:h[n]? with
 | none=>rw [z] at q;cases q
 | some o=>exact (List.getElem?_eq_some_iff.mp z).1
noncomputable def Dc (h:Hh) (S:Nat→Prop):Option V→Option D→Prop
 | none,o=>o=none
 | some v,o=>∃ d,o=some d∧Rep h S v d
theorem xJ {f:V→Option (Option V)}{f':D→Hh→Ev.R (Option D)}{ck:List (Nat×List D)}{h0:Hh}{S0:Nat→Prop}(w0:∀ m,S0 m→m<h0.length) (st:∀ q∈ck,bg h0 q.1=some q.2)
  (turn:∀ v o d h S,Al h0 S0 h S→f v=some o→Rep h S v d→∃ o' h' S',f' d h=.ok o' h'∧Dc h' S' o o'∧Al h S h' S') :
  ∀ {vs:List V} {ds:List D} {rs:List V} {h:Hh} {S:Nat→Prop},Al h0 S0 h S→cV f vs=some rs→ay h S vs ds→∃ rs' h' S',Ev.cV f' ck ds h=.ok rs' h'∧ay h' S' rs rs'∧Al h S h' S'
 | [],ds,rs,h,S,a,e,q=>by
  simp [cV] at e;simp only [ay] at q;subst e q
  refine ⟨[],h,S,?_,.nil,.refl⟩
  simp only [Ev.cV]
  rw [if_pos (jJ fun x hx=>kW (st x hx) (a.keep _ (pq (st x hx))))]
 | v :: vs,ds,rs,h,S,a,e,q=>by
  simp only [cV,Option.bind_eq_some_iff] at e
  obtain ⟨o,e1,r,e2,e3⟩:=e
  cases e3
  simp only [ay] at q
  obtain ⟨d,es,rfl,q1,q2⟩:=q
  have w:∀ m,S m→m<h.length:=fun m z=>by
   rcases a.new m z with z | z
   ·exact Nat.lt_of_lt_of_le (w0 m z) a.len
   ·exact z.2
  obtain ⟨o',h1,S1,t1,t2,t3⟩:=turn v o d h S a e1 q1
  obtain ⟨rs',h2,S2,u1,u2,u3⟩:=xJ w0 st turn (a.trans t3) e2 (q2.mono (fun m z=>t3.keep m (w m z)) t3.sub)
  have w1:∀ m,S1 m→m<h1.length:=fun m z=>by
   rcases t3.new m z with z | z
   ·exact Nat.lt_of_lt_of_le (w m z) t3.len
   ·exact z.2
  refine ⟨o'.toList++rs',h2,S2,?_,?_,t3.trans u3⟩
  ·simp only [Ev.cV]
   rw [if_pos (jJ fun x hx=>kW (st x hx) (a.keep _ (pq (st x hx)))),t1,Ev.au,u1,Ev.au]
  ·cases o with
   | none=>simp only [Dc] at t2;subst t2;simpa using u2
   | some v'=>
    simp only [Dc] at t2
    obtain ⟨d',rfl,t2⟩:=t2
    exact .cons (t2.mono (fun m z=>u3.keep m (w1 m z)) u3.sub) u2
end
noncomputable def jq (k:Bool) (h:Hh) (S:Nat→Prop) (v:List V) (d:List D):Prop:=if k=true then fT h S v d else ay h S v d
inductive MD (P':Ev.aW) (e:E) (k:Bool) (v:V) (M B:Nat→Prop) (h:Hh) (S:Nat→Prop) (fr:Fr) (ak:Ev.Fr) (ah:Fr):Prop
 | mk (d:D) (h':Hh) (S':Nat→Prop) (c0:Ev.ev P' e ak h=.ok d h') (c1:fG k h' S' v d) (c2:Out M B (bK e) h S fr ak h' S' ah):MD P' e k v M B h S fr ak ah
inductive MF (P':Ev.aW) (e:E) (b:Bool) (M B:Nat→Prop) (h:Hh) (S:Nat→Prop) (fr:Fr) (ak:Ev.Fr) (ah:Fr):Prop
 | mk (h':Hh) (S':Nat→Prop) (c0:Ev.aN P' e ak h=.ok b h') (c1:Out M B (bK e) h S fr ak h' S' ah):MF P' e b M B h S fr ak ah
inductive MG (P':Ev.aW) (e:Es) (k:Bool) (v:List V) (M B:Nat→Prop) (h:Hh) (S:Nat→Prop) (fr:Fr) (ak:Ev.Fr) (ah:Fr):Prop
 | mk (d:List D) (h':Hh) (S':Nat→Prop) (c0:Ev.cF P' e ak h=.ok d h') (c1:jq k h' S' v d) (c2:Out M B (fY e) h S fr ak h' S' ah):MG P' e k v M B h S fr ak ah
inductive MH (P':Ev.aW) (e:Es) (v:List (Nat ⊕ V)) (M B:Nat→Prop) (h:Hh) (S:Nat→Prop) (fr:Fr) (ak:Ev.Fr) (ah:Fr):Prop
 | mk (d:List D) (h':Hh) (S':Nat→Prop) (c0:Ev.cF P' e ak h=.ok d h') (c1:uo h' S' ak v d) (c2:Out M B (fY e) h S fr ak h' S' ah):MH P' e v M B h S fr ak ah
inductive MI (P':Ev.aW) (e:Eo) (v:Option Int) (M B:Nat→Prop) (h:Hh) (S:Nat→Prop) (fr:Fr) (ak:Ev.Fr) (ah:Fr):Prop
 | mk (h':Hh) (S':Nat→Prop) (c0:Ev.fQ P' e ak h=.ok v h') (c1:Out M B (j9 e) h S fr ak h' S' ah):MI P' e v M B h S fr ak ah
inductive MJ (P':Ev.aW) (e:Eo) (v:Bool) (M B:Nat→Prop) (h:Hh) (S:Nat→Prop) (fr:Fr) (ak:Ev.Fr) (ah:Fr):Prop
 | mk (h':Hh) (S':Nat→Prop) (c0:Ev.iw P' e ak h=.ok v h') (c1:Out M B (j9 e) h S fr ak h' S' ah):MJ P' e v M B h S fr ak ah
inductive MK (P':Ev.aW) (e:It) (k:Bool) (v:List V) (M B:Nat→Prop) (h:Hh) (S:Nat→Prop) (fr:Fr) (ak:Ev.Fr) (ah:Fr):Prop
 | mk (s:Ev.Src) (h':Hh) (S':Nat→Prop) (c0:Ev.cO P' e ak h=.ok s h') (c1:ay h' S' v s.1) (c2:∀ q∈s.2,bg h' q.1=some q.2∧(k=false→¬ M q.1)) (c3:Out M B (C4 e) h S fr ak h' S' ah):MK P' e k v M B h S fr ak ah
section
variable (P:aW)(P':Ev.aW)
noncomputable def bw (e:E):Prop:=∀ {k:Bool} {fr:Fr} {v:V} {ah:Fr} {M B:Nat→Prop} {h:Hh} {S:Nat→Prop} {ak:Ev.Fr},ev P k e fr=.ok v ah→bF M B h S fr ak→MD P' e k v M B h S fr ak ah
noncomputable def gM (e:E):Prop:=∀ {fr:Fr} {b:Bool} {ah:Fr} {M B:Nat→Prop} {h:Hh} {S:Nat→Prop} {ak:Ev.Fr},aN P e fr=.ok b ah→bF M B h S fr ak→MF P' e b M B h S fr ak ah
noncomputable def jr (e:Es):Prop:=∀ {k:Bool} {fr:Fr} {v:List V} {ah:Fr} {M B:Nat→Prop} {h:Hh} {S:Nat→Prop} {ak:Ev.Fr},cF P k e fr=.ok v ah→bF M B h S fr ak→MG P' e k v M B h S fr ak ah
noncomputable def pD (e:Es):Prop:=∀ {fr:Fr} {v:List (Nat ⊕ V)} {ah:Fr} {M B:Nat→Prop} {h:Hh} {S:Nat→Prop} {ak:Ev.Fr},fS P e fr=.ok v ah→bF M B h S fr ak→MH P' e v M B h S fr ak ah
noncomputable def pF (e:Eo):Prop:=∀ {fr:Fr} {v:Option Int} {ah:Fr} {M B:Nat→Prop} {h:Hh} {S:Nat→Prop} {ak:Ev.Fr},fQ P e fr=.ok v ah→bF M B h S fr ak→MI P' e v M B h S fr ak ah
noncomputable def sI (e:Eo):Prop:=∀ {fr:Fr} {v:Bool} {ah:Fr} {M B:Nat→Prop} {h:Hh} {S:Nat→Prop} {ak:Ev.Fr},iw P e fr=.ok v ah→bF M B h S fr ak→MJ P' e v M B h S fr ak ah
noncomputable def jX (e:It):Prop:=∀ {k:Bool} {fr:Fr} {v:List V} {ah:Fr} {M B:Nat→Prop} {h:Hh} {S:Nat→Prop} {ak:Ev.Fr},cO P k e fr=.ok v ah→bF M B h S fr ak→MK P' e k v M B h S fr ak ah
end
section
variable {P:aW}{P':Ev.aW}{a b e tt:E}{es:Es}{lo hi:Eo}{it:It}
theorem ML {d:D}:bw P P' (.c d):=fun z f=>by
 simp only [ev] at z
 replace z:=aS z;obtain ⟨z,y0⟩:=z;subst y0
 exact ⟨d,_,_,by simp only [Ev.ev],.of (mD z),.refl f⟩
theorem MM {i:Nat}:bw P P' (.v i):=fun z f=>by
 simp only [ev] at z
 replace z:=aS z;obtain ⟨z,y0⟩:=z;subst y0
 obtain ⟨d,e1,q⟩:=IU z f
 exact ⟨d,_,_,by simp only [Ev.ev,e1,Ev.d8],q,.refl f⟩
theorem jq.n {h:Hh}{S:Nat→Prop}{v:List V}{d:List D}(q:jq false h S v d):ay h S v d:=by simpa [jq] using q
theorem ay.tl {h:Hh}{S:Nat→Prop}:∀ {v:List V}{d:List D},ay h S v d→fT h S v d
 | [],_,q=>q
 | _ :: _,_,⟨d,es,a,b,q⟩=>⟨d,es,a,b.top,q.tl⟩
theorem jq.t {k:Bool}{h:Hh}{S:Nat→Prop}{v:List V}{d:List D}(q:jq k h S v d):fT h S v d:=by
 unfold jq at q
 split at q
 ·exact q
 ·exact q.tl
theorem AZ (is:jr P P' es):bw P P' (.tup es):=fun z f=>by
 simp only [ev] at z
 obtain ⟨ds,av,z1,z2⟩:=aj z
 replace z2:=aS z2;obtain ⟨z2,y0⟩:=z2;subst y0
 obtain ⟨ds',h',S',e1,q,o⟩:=is z1 f
 unfold iB at z2
 split at z2
 ·rename_i hk
  cases z2
  refine ⟨.tup ds',h',S',?_,.of ⟨ds',rfl,q.n⟩,o⟩
  simp only [Ev.ev,e1,Ev.au]
  rw [if_pos (by rw [←q.n.length];exact hk)]
 ·cases z2
theorem A1 (is:jr P P' es):bw P P' (.lst es):=fun z f=>by
 simp only [ev] at z
 obtain ⟨ds,av,z1,z2⟩:=aj z
 replace z2:=aS z2;obtain ⟨z2,y0⟩:=z2;subst y0
 obtain ⟨ds',h',S',e1,q,o⟩:=is z1 f
 obtain ⟨r,h2,S2,a1,a2,a3⟩:=jI o.f.w z2 q.n
 exact ⟨r,h2,S2,by simp only [Ev.ev,e1,Ev.au,a1],.of a2,o.al a3⟩
theorem pG {a:E}{ak:Ev.Fr}{h h1:Hh}{d:D}(e:Ev.ev P' a ak h=.ok d h1):∀ i,a=.v i→ak[i]?.join=some d:=fun i hi=>by
 subst hi
 simp only [Ev.ev] at e
 exact (Ev.aS e).1
theorem two (ia:bw P P' a)(ib:bw P P' b){α:Type}{X:V→V→Fr→R α}{u:α}{fr bR:Fr}{M B:Nat→Prop}{h:Hh}{S:Nat→Prop}{ak:Ev.Fr}
  (z:((ev P (kf a (bK b)) a fr).bind fun x ah=>(ev P true b ah).bind fun y av=>X x y av)=.ok u bR) (f:bF M B h S fr ak) :
  ∃ x y d e h2 S2 av,(∀ {β:Type} (g:D→D→Hh→Ev.R β),((Ev.ev P' a ak h).bind fun x h1=>(Ev.ev P' b ak h1).bind fun y h2=>g x y h2)=g d e h2)∧X x y av=.ok u bR∧bh h2 S2 x d∧bh h2 S2 y e∧Out M B (bK a++bK b) h S fr ak h2 S2 av:=by
 replace z:=aj z;obtain ⟨x,ah,z1,z⟩:=z
 replace z:=aj z;obtain ⟨y,av,z2,z⟩:=z
 obtain ⟨d,h1,S1,e1,q1,o1⟩:=ia z1 f
 obtain ⟨e,h2,S2,e2,q2,o2⟩:=ib z2 o1.f
 exact ⟨x,y,d,e,h2,S2,av,fun g=>by rw [e1,Ev.au,e2,Ev.au],z,(q1.tr o1.f o2.tr id (pG e1)).t,q2.t,o1.trans o2⟩
theorem A4 {o:cz}(ia:bw P P' a) (ib:bw P P' b):bw P P' (.bin o a b):=fun z f=>by
 simp only [ev] at z
 replace z:=two ia ib z f;obtain ⟨x,y,d,e,h2,S2,av,k,z,q1,q2,ou⟩:=z
 replace z:=aS z;obtain ⟨z,y0⟩:=z;subst y0
 obtain ⟨r,h3,S3,a1,a2,a3⟩:=Mu ou.f.w z q1 q2
 exact ⟨r,h3,S3,by simp only [Ev.ev];rw [k];exact a1,.of a2,ou.al a3⟩
theorem A5 {o:b7}(ia:bw P P' a) (ib:bw P P' b):bw P P' (.cmp o a b):=fun z f=>by
 simp only [ev] at z
 replace z:=two ia ib z f;obtain ⟨x,y,d,e,h2,S2,av,k,z,q1,q2,ou⟩:=z
 replace z:=aS z;obtain ⟨z,y0⟩:=z;subst y0
 simp only [Option.map_eq_some_iff] at z
 obtain ⟨b,z,rfl⟩:=z
 exact ⟨.bl b,h2,S2,by simp only [Ev.ev];rw [k,Mv z q1.u q2.u];rfl,.of rfl,ou⟩
theorem FA (ia:bw P P' a) (ib:bw P P' b):bw P P' (.ix a b):=fun z f=>by
 simp only [ev] at z
 replace z:=two ia ib z f;obtain ⟨x,y,d,e,h2,S2,av,k,z,q1,q2,ou⟩:=z
 replace z:=aS z;obtain ⟨z,y0⟩:=z;subst y0
 obtain ⟨r,a1,a2⟩:=Mw z q1 q2
 exact ⟨r,h2,S2,by simp only [Ev.ev];rw [k,a1];rfl,.of a2,ou⟩
theorem R8 (ia:bw P P' a):bw P P' (.nt a):=fun z f=>by
 simp only [ev] at z
 replace z:=aj z;obtain ⟨x,ah,z1,z⟩:=z
 obtain ⟨d,h1,S1,e1,q1,o1⟩:=ia z1 f
 cases x <;> simp only [reduceCtorEq] at z
 cases z
 have q:=q1.t
 simp only [bh,Rep] at q
 subst q
 exact ⟨_,h1,S1,by simp only [Ev.ev,e1,Ev.au],.of rfl,o1⟩
theorem A6 (ia:bw P P' a):bw P P' (.neg a):=fun z f=>by
 simp only [ev] at z
 replace z:=aj z;obtain ⟨x,ah,z1,z⟩:=z
 obtain ⟨d,h1,S1,e1,q1,o1⟩:=ia z1 f
 cases x <;> simp only [reduceCtorEq] at z
 cases z
 have q:=q1.t
 simp only [bh,Rep] at q
 subst q
 exact ⟨_,h1,S1,by simp only [Ev.ev,e1,Ev.au],.of rfl,o1⟩
theorem R9 (ia:bw P P' a) (ib:bw P P' b):bw P P' (.an a b):=fun z f=>by
 simp only [ev] at z
 replace z:=aj z;obtain ⟨x,ah,z1,z⟩:=z
 obtain ⟨d,h1,S1,e1,q1,o1⟩:=ia z1 f
 cases x <;> try (cases z;done)
 rename_i k
 have q:=q1.t
 simp only [bh,Rep] at q
 subst q
 cases k with
 | true=>
  try simp only at z
  obtain ⟨d,h2,S2,e2,q2,o2⟩:=ib z o1.f
  exact ⟨d,h2,S2,by simp only [Ev.ev,e1,Ev.au,e2],q2,o1.trans o2⟩
 | false=>
  try simp only at z
  cases z
  exact ⟨_,h1,S1,by simp only [Ev.ev,e1,Ev.au],.of rfl,o1.weak (by simp only [bK];intro i hi;simp [hi])⟩
theorem MN (ia:bw P P' a) (ib:bw P P' b):bw P P' (.orr a b):=fun z f=>by
 simp only [ev] at z
 replace z:=aj z;obtain ⟨x,ah,z1,z⟩:=z
 obtain ⟨d,h1,S1,e1,q1,o1⟩:=ia z1 f
 cases x <;> try (cases z;done)
 rename_i k
 have q:=q1.t
 simp only [bh,Rep] at q
 subst q
 cases k with
 | false=>
  try simp only at z
  obtain ⟨d,h2,S2,e2,q2,o2⟩:=ib z o1.f
  exact ⟨d,h2,S2,by simp only [Ev.ev,e1,Ev.au,e2],q2,o1.trans o2⟩
 | true=>
  try simp only at z
  cases z
  exact ⟨_,h1,S1,by simp only [Ev.ev,e1,Ev.au],.of rfl,o1.weak (by simp only [bK];intro i hi;simp [hi])⟩
theorem A7 (it:gM P P' tt) (ia:bw P P' a) (ib:bw P P' b):bw P P' (.lK tt a b):=fun z f=>by
 simp only [ev] at z
 replace z:=aj z;obtain ⟨k,ah,z1,z⟩:=z
 obtain ⟨h1,S1,e1,o1⟩:=it z1 f
 cases k with
 | true=>
  simp only [if_true] at z
  obtain ⟨d,h2,S2,e2,q2,o2⟩:=ia z o1.f
  exact ⟨d,h2,S2,by simp only [Ev.ev,e1,Ev.au,if_true,e2],q2,(o1.trans o2).weak (by simp only [bK];intro i hi;simp at hi ⊢;rcases hi with hi | hi <;> simp [hi])⟩
 | false=>
  simp only [Bool.false_eq_true,if_false] at z
  obtain ⟨d,h2,S2,e2,q2,o2⟩:=ib z o1.f
  exact ⟨d,h2,S2,by simp only [Ev.ev,e1,Ev.au];rw [if_neg (by decide)];exact e2,q2,(o1.trans o2).weak (by simp only [bK];intro i hi;simp at hi ⊢;rcases hi with hi | hi <;> simp [hi])⟩
theorem FD (ia:bw P P' a) (il:pF P P' lo) (ih:pF P P' hi):bw P P' (.sl a lo hi):=fun z f=>by
 simp only [ev] at z
 replace z:=aj z;obtain ⟨x,ah,z1,z⟩:=z
 replace z:=aj z;obtain ⟨l,av,z2,z⟩:=z
 replace z:=aj z;obtain ⟨u,cL,z3,z⟩:=z
 replace z:=aS z;obtain ⟨z,y0⟩:=z;subst y0
 obtain ⟨d,h1,S1,e1,q1,o1⟩:=ia z1 f
 obtain ⟨h2,S2,e2,o2⟩:=il z2 o1.f
 obtain ⟨h3,S3,e3,o3⟩:=ih z3 o2.f
 have q:=(q1.tr o1.f (o2.trans o3).tr id (pG e1)).t
 obtain ⟨r,h4,S4,a1,a2,a3⟩:=Mx o3.f.w z q
 exact ⟨r,h4,S4,by simp only [Ev.ev,e1,Ev.au,e2,e3,a1],.of a2,(o1.trans (o2.trans o3)).al a3⟩
theorem mH:∀ {es:Es}{fr ah:Fr}{as:List (Nat ⊕ V)},fS P es fr=.ok as ah→∀ i∈bU as,i∈jD es
 | .nil,_,_,_,z=>by simp only [fS] at z;cases z;simp [bU]
 | .cons e es,fr,ah,as,z=>by
  simp only [fS] at z
  cases y:kC fr e with
  | some i=>
   rw [y] at z
   simp only at z
   replace z:=aj z;obtain ⟨xs,cL,z2,z⟩:=z
   cases z
   have hy:e=.v i:=by
    cases e <;> simp only [kC,reduceCtorEq] at y
    split at y
    ·cases y;rfl
    ·cases y
   subst hy
   intro j hj
   simp only [bU,List.mem_cons] at hj
   simp only [jD,List.mem_cons]
   exact hj.imp id fun hj=>mH z2 j hj
  | none=>
   rw [y] at z
   simp only at z
   replace z:=aj z;obtain ⟨x,av,z1,z⟩:=z
   replace z:=aj z;obtain ⟨xs,cL,z2,z⟩:=z
   cases z
   intro j hj
   simp only [bU] at hj
   have:=mH z2 j hj
   cases e <;> simp only [jD] <;> first | exact this | exact List.mem_cons_of_mem _ this
theorem FE (HP:o8 P P') {g:Nat}(is:pD P P' es):bw P P' (.cl g es):=fun z f=>by
 simp only [ev] at z
 replace z:=aj z;obtain ⟨as,ah,z1,z⟩:=z
 obtain ⟨ds,h1,S1,e1,q1,o1⟩:=is z1 f
 obtain ⟨d,h2,S2,e2,q2,o2⟩:=C9 HP z o1.f q1
 exact ⟨d,h2,S2,by simp only [Ev.ev,e1,Ev.au,e2],.of q2,(o1.trans o2).weak (by
  simp only [bK]
  intro i hi
  rcases List.mem_append.mp hi with hi | hi
  ·exact List.mem_append.mpr (.inl hi)
  ·exact List.mem_append.mpr (.inr (mH z1 i hi)))⟩
theorem FF {g:BI}(is:jr P P' es):bw P P' (.bi g es):=fun z f=>by
 simp only [ev] at z
 replace z:=aj z;obtain ⟨as,ah,z1,z⟩:=z
 replace z:=aS z;obtain ⟨z,y0⟩:=z;subst y0
 obtain ⟨ds,h1,S1,e1,q1,o1⟩:=is z1 f
 obtain ⟨r,h4,S4,a1,a2,a3⟩:=Mz o1.f.w z q1.t
 exact ⟨r,h4,S4,by simp only [Ev.ev,e1,Ev.au,a1],.of a2,o1.al a3⟩
theorem A8 {ts:List TY}(ia:bw P P' a):bw P P' (.lN a ts):=fun z f=>by
 simp only [ev] at z
 replace z:=aj z;obtain ⟨x,ah,z1,z⟩:=z
 cases z
 obtain ⟨d,h1,S1,e1,q1,o1⟩:=ia z1 f
 have:Ev.dw h1 d=dw x:=funext fun t=>IS q1.t t
 refine ⟨.bl (ts.any (Ev.dw h1 d)),h1,S1,by simp only [Ev.ev,e1,Ev.au],.of ?_,o1⟩
 rw [this];rfl
theorem xK {kvs:List (D×D)}(ia:bw P P' a):bw P P' (.ji kvs a):=fun z f=>by
 simp only [ev] at z
 replace z:=aj z;obtain ⟨x,ah,z1,z⟩:=z
 replace z:=aS z;obtain ⟨z,y0⟩:=z;subst y0
 obtain ⟨d,h1,S1,e1,q1,o1⟩:=ia z1 f
 obtain ⟨r,a1,a2⟩:=C6 (S:=S1) q1.t.u z
 exact ⟨r,h1,S1,by simp only [Ev.ev,e1,Ev.au,a1,Ev.d8],.of a2,o1⟩
theorem A9 (ia:bw P P' a):bw P P' (.lM a):=fun z f=>by
 simp only [ev] at z
 replace z:=aj z;obtain ⟨x,ah,z1,z⟩:=z
 replace z:=aS z;obtain ⟨z,y0⟩:=z;subst y0
 obtain ⟨d,h1,S1,e1,q1,o1⟩:=ia z1 f
 obtain ⟨r,a1,a2⟩:=IQ z q1.t
 exact ⟨r,h1,S1,by simp only [Ev.ev,e1,Ev.au,a1],.of a2,o1⟩
theorem Ba (ia:bw P P' a):bw P P' (.gv a):=fun z f=>by
 simp only [ev] at z
 replace z:=aj z;obtain ⟨x,ah,z1,z⟩:=z
 replace z:=aS z;obtain ⟨z,y0⟩:=z;subst y0
 obtain ⟨d,h1,S1,e1,q1,o1⟩:=ia z1 f
 obtain ⟨r,a1,a2⟩:=My z q1.t
 exact ⟨r,h1,S1,by simp only [Ev.ev,e1,Ev.au,a1],.of a2,o1⟩
theorem FG {m:ME}{o:E}(io:bw P P' o) (is:jr P P' es):bw P P' (.me m o es):=fun {k fr v ah M B h S ak} z f=>by
 simp only [ev] at z
 by_cases hm:iV m=true
 ·rw [if_pos hm] at z
  cases y:kC fr o with
  | none=>rw [y] at z;cases z
  | some i=>
  rw [y] at z
  try simp only at z
  replace z:=aj z;obtain ⟨as,av,z1,z⟩:=z
  have hy:o=.v i∧∃ s,lent fr i=some s:=by
   cases o <;> simp only [kC,reduceCtorEq] at y
   rename_i j
   split at y
   ·rename_i hs
    cases y
    exact ⟨rfl,Option.isSome_iff_exists.mp hs⟩
   ·cases y
  obtain ⟨rfl,s,hs⟩:=hy
  obtain ⟨n,cs,_,_,_,w2,w3,_,_⟩:=jA hs f
  obtain ⟨ds,h1,S1,e1,q1,o1⟩:=is z1 f
  have hr:Ev.wV m (.ref n) h=true:=by cases m <;> simp [iV] at hm <;> simp [Ev.wV,gz w3]
  have hap:AU m=false→ay h1 S1 as ds:=fun hh=>by rw [hh] at q1;exact q1.n
  have fin:∀ s l l',av[i]?=some (some s)→gW (some s)=true→(∃ m' cs',ak[i]?=some (some (.ref m'))∧h1[m']?=some (.lst cs')∧ay h1 S1 l cs')→jW m l as=some (v,l')→ah=av.set i (some (s.with l'))→
    MD P' (.me m (.v i) es) k v M B h S fr ak ah:=by
   intro s l l' k1 k2 ⟨m',cs',k3,k4,k5⟩ k6 k7
   rw [w2] at k3;cases k3
   have mn:=o1.f.mM k1 k2 w2
   obtain ⟨r,ds',a1,a2,a3⟩:=MC k6 k4 k5 q1.t hap fun k z y=>(o1.f.wS k z).2.1 (y▸mn)
   have fw:=o1.f.write (l':=l') k1 k2 w2 a3
   subst k7
   refine ⟨r,_,S1,?_,.of (a2.mono (fun m z=>kD fun y=>(o1.f.wS m z).2.1 (y▸mn)) fun _ z=>z),fw,?_,fun j=>?_⟩
   ·simp only [Ev.ev,w2,Option.join,Ev.d8,Ev.au,hr,if_true,e1]
    simp only [Option.bind,id,Ev.d8,Ev.au,hr,if_true,e1]
    exact a1
   ·refine ⟨by simpa using o1.tr.len,fun m y1 y2=>?_,o1.tr.sub,fun m y=>by simpa using o1.tr.new m y⟩
    have y3:¬ Xs M ak (fY es) m:=fun z=>y2 (Xs.mono (by simp only [bK];intro i hi;simp [hi]) z)
    have y4:m≠n:=fun z=>y2 ⟨z▸mn,i,by simp [bK,UX,hm],by rw [z];exact w2⟩
    rw [kD (fun (z:n=m)=>y4 z.symm)]
    exact o1.tr.keep m y1 y3
   ·rw [←o1.lk j]
    unfold locked
    by_cases hj:i=j
    ·subst hj
     rw [List.getElem?_set_self (List.getElem?_eq_some_iff.mp k1).1,k1]
     exact xG
    ·rw [List.getElem?_set_ne hj]
  split at z
  ·rename_i l k1
   have old:=o1.f.get k1
   obtain ⟨p,k2,m',cs',rfl,_,k4,k5⟩:=old
   split at z
   ·rename_i v' l' k6
    cases z
    exact fin _ l l' k1 rfl ⟨m',cs',k2,k4,k5⟩ k6 rfl
   ·cases z
  ·rename_i l k1
   have old:=o1.f.get k1
   obtain ⟨p,k2,m',cs',rfl,_,k4,k5⟩:=old
   split at z
   ·rename_i v' l' k6
    cases z
    exact fin _ l l' k1 rfl ⟨m',cs',k2,k4,k5⟩ k6 rfl
   ·cases z
  ·cases z
 ·rw [if_neg hm] at z
  replace z:=aj z;obtain ⟨x,av,z1,z⟩:=z
  replace z:=aj z;obtain ⟨as,cL,z2,z⟩:=z
  replace z:=aS z;obtain ⟨z,y0⟩:=z;subst y0
  obtain ⟨d,h1,S1,e1,q1,o1⟩:=io z1 f
  obtain ⟨ds,h2,S2,e2,q2,o2⟩:=is z2 o1.f
  have hm':iV m=false:=by simpa using hm
  have xN:=(q1.tr o1.f o2.tr id (pG e1)).t
  obtain ⟨a1,r,a2,a3⟩:=MA z hm' xN q2.t
  have hr:Ev.wV m d h1=true:=by
   unfold fq at z
   split at z
   ·have:=q1.t;simp only [bh,Rep] at this;subst this;rfl
   ·cases z
  exact ⟨r,h2,S2,by simp only [Ev.ev,e1,Ev.au,hr,if_true,e2,a2],.of a3,(o1.trans o2).weak (by simp only [bK];intro i hi;simp at hi ⊢;rcases hi with hi | hi <;> simp [hi])⟩
theorem ur {elt:E}{t:T}{cond:Eo}(ii:jX P P' it) (ic:sI P P' cond) (ie:bw P P' elt):bw P P' (.comp elt t it cond):=fun z f=>by
 simp only [ev] at z
 replace z:=aj z;obtain ⟨vs,av,z1,z⟩:=z
 split at z
 case isFalse=>cases z
 rename_i hu
 replace z:=aS z;obtain ⟨z,y0⟩:=z;subst y0
 simp only [Option.bind_eq_some_iff] at z
 obtain ⟨rs,z2,z3⟩:=z
 obtain ⟨s,h1,S1,e1,q1,q2,o1⟩:=ii z1 f
 have fro:=o1.f.ro
 obtain ⟨rs',h2,S2,c1,c2,c3⟩:=xJ (f':=fun d h2=>match Ev.cy t d _ with
    | none=>.bad
    | some av=>(Ev.iw P' cond av h2).bind fun k h3=>if k then (Ev.ev P' elt av h3).bind fun x h4=>.ok (some x) h4 else .ok none h3) (ck:=s.2) o1.f.w (fun q hq=>(q2 q hq).1) (fun v o d h S al y q=>by
  split at y
  ·cases y
  ·rename_i cL y1
   obtain ⟨jj,b1,b2,_,_⟩:=(fro.al al).cy y1 q
   rw [b1]
   split at y
   ·rename_i c jm y2
    obtain ⟨h3,S3,c1,oc⟩:=ic y2 b2
    have MO:Al h S h3 S3:=oc.tr.al fun m z=>z.1
    split at y
    ·rename_i hc
     subst hc
     split at y
     ·rename_i x rq y3
      cases y
      obtain ⟨d',h4,S4,d1,d2,od⟩:=ie y3 (b2.al MO)
      refine ⟨some d',h4,S4,?_,⟨d',rfl,d2.n⟩,MO.trans (od.tr.al fun m z=>z.1)⟩
      simp only [c1,Ev.au,if_true,d1]
     ·cases y
    ·rename_i hc
     cases y
     refine ⟨none,h3,S3,?_,rfl,MO⟩
     simp only [c1,Ev.au]
     rw [if_neg hc]
   ·cases y) Al.refl z2 q1
 obtain ⟨r,h4,S4,a1,a2,a3⟩:=jI (o1.f.al c3).w z3 c2
 refine ⟨r,h4,S4,?_,.of a2,(o1.al c3).al a3⟩
 simp only [Ev.ev,e1,Ev.au]
 rw [if_pos (o1.f.undef hu)]
 refine Eq.trans (congrArg (fun q:Ev.R (List D)=>q.bind fun ds h2=>Ev.alloc ds h2) c1) ?_
 simp only [Ev.au,a1]
theorem Bb (ii:jX P P' it):bw P P' (.iL it):=fun z f=>by
 simp only [ev] at z
 replace z:=aj z;obtain ⟨vs,av,z1,z⟩:=z
 replace z:=aS z;obtain ⟨z,y0⟩:=z;subst y0
 obtain ⟨s,h1,S1,e1,q1,q2,o1⟩:=ii z1 f
 obtain ⟨r,h4,S4,a1,a2,a3⟩:=jI o1.f.w z q1
 exact ⟨r,h4,S4,by simp only [Ev.ev,e1,Ev.au,a1],.of a2,o1.al a3⟩
theorem MP:jr P P' .nil:=fun {k fr v ah M B h S ak} z f=>by
 simp only [cF] at z
 cases z
 refine ⟨[],_,_,by simp only [Ev.cF],?_,.refl f⟩
 unfold jq;split <;> rfl
theorem IV (ie:bw P P' e) (is:jr P P' es):jr P P' (.cons e es):=fun {k fr v ah M B h S ak} z f=>by
 simp only [cF] at z
 replace z:=aj z;obtain ⟨x,av,z1,z⟩:=z
 replace z:=aj z;obtain ⟨xs,cL,z2,z⟩:=z
 cases z
 obtain ⟨d,h1,S1,e1,q1,o1⟩:=ie z1 f
 obtain ⟨ds,h2,S2,e2,q2,o2⟩:=is z2 o1.f
 have xN:=q1.tr (a:=e) o1.f o2.tr (by intro z;simp at z;exact z.2) (pG e1)
 refine ⟨d :: ds,h2,S2,by simp only [Ev.cF,e1,Ev.au,e2],?_,o1.trans o2⟩
 unfold jq at q2 ⊢
 cases k with
 | true=>simp only [if_true] at q2 ⊢;exact ⟨d,ds,rfl,xN.t,q2⟩
 | false=>
  simp only [Bool.false_eq_true,if_false] at q2 ⊢
  exact .cons (by simpa [fG] using xN) q2
theorem IW:pD P P' .nil:=fun z f=>by
 simp only [fS] at z
 cases z
 exact ⟨[],_,_,by simp only [Ev.cF],rfl,.refl f⟩
theorem De (ie:bw P P' e) (is:pD P P' es):pD P P' (.cons e es):=fun {fr v ah M B h S ak} z f=>by
 simp only [fS] at z
 cases y:kC fr e with
 | some i=>
  rw [y] at z
  try simp only at z
  replace z:=aj z;obtain ⟨xs,cL,z2,z⟩:=z
  cases z
  have hy:e=.v i∧∃ s,lent fr i=some s:=by
   cases e <;> simp only [kC,reduceCtorEq] at y
   rename_i j
   split at y
   ·rename_i hs
    cases y
    exact ⟨rfl,Option.isSome_iff_exists.mp hs⟩
   ·cases y
  obtain ⟨rfl,s,hs⟩:=hy
  obtain ⟨n,cs,_,_,_,w2,w3,_,_⟩:=jA hs f
  obtain ⟨ds,h2,S2,e2,q2,o2⟩:=is z2 f
  refine ⟨.ref n :: ds,h2,S2,?_,⟨_,_,rfl,w2,q2⟩,o2.weak (by simp only [fY,bK];intro i hi;simpa using hi)⟩
  simp only [Ev.cF,Ev.ev,w2,Option.join,Option.bind,id,Ev.d8,Ev.au,e2]
 | none=>
  rw [y] at z
  try simp only at z
  replace z:=aj z;obtain ⟨x,av,z1,z⟩:=z
  replace z:=aj z;obtain ⟨xs,cL,z2,z⟩:=z
  cases z
  obtain ⟨d,h1,S1,e1,q1,o1⟩:=ie z1 f
  obtain ⟨ds,h2,S2,e2,q2,o2⟩:=is z2 o1.f
  exact ⟨d :: ds,h2,S2,by simp only [Ev.cF,e1,Ev.au,e2],⟨_,_,rfl,q1.n.tr o1.f o2.tr,q2⟩,o1.trans o2⟩
theorem Sa:pF P P' .no:=fun z f=>by
 simp only [fQ] at z;cases z
 exact ⟨_,_,by simp only [Ev.fQ],.refl f⟩
theorem MQ (ie:bw P P' e):pF P P' (.yes e):=fun z f=>by
 simp only [fQ] at z
 replace z:=aj z;obtain ⟨x,av,z1,z⟩:=z
 replace z:=aS z;obtain ⟨z,y0⟩:=z;subst y0
 obtain ⟨d,h1,S1,e1,q1,o1⟩:=ie z1 f
 cases x <;> simp [intOf] at z
 subst z
 have q:=q1.t
 simp only [bh,Rep] at q
 subst q
 exact ⟨h1,S1,by simp only [Ev.fQ,e1,Ev.au];rfl,o1⟩
theorem MR:sI P P' .no:=fun z f=>by
 simp only [iw] at z;cases z
 exact ⟨_,_,by simp only [Ev.iw],.refl f⟩
theorem IX (ie:gM P P' e):sI P P' (.yes e):=fun z f=>by
 simp only [iw] at z
 obtain ⟨h1,S1,e1,o1⟩:=ie z f
 exact ⟨h1,S1,by simp only [Ev.iw,e1],o1⟩
theorem XC (ia:gM P P' a) (ib:gM P P' b):gM P P' (.an a b):=fun z f=>by
 simp only [aN] at z
 replace z:=aj z;obtain ⟨k,ah,z1,z⟩:=z
 obtain ⟨h1,S1,e1,o1⟩:=ia z1 f
 cases k with
 | true=>
  simp only [if_true] at z
  obtain ⟨h2,S2,e2,o2⟩:=ib z o1.f
  exact ⟨h2,S2,by simp only [Ev.aN,e1,Ev.au,if_true,e2],o1.trans o2⟩
 | false=>
  simp only [Bool.false_eq_true,if_false] at z
  cases z
  exact ⟨h1,S1,by simp only [Ev.aN,e1,Ev.au];rfl,o1.weak (by simp only [bK];intro i hi;simp [hi])⟩
theorem Sb (ia:gM P P' a) (ib:gM P P' b):gM P P' (.orr a b):=fun z f=>by
 simp only [aN] at z
 replace z:=aj z;obtain ⟨k,ah,z1,z⟩:=z
 obtain ⟨h1,S1,e1,o1⟩:=ia z1 f
 cases k with
 | false=>
  simp only [Bool.false_eq_true,if_false] at z
  obtain ⟨h2,S2,e2,o2⟩:=ib z o1.f
  exact ⟨h2,S2,by simp only [Ev.aN,e1,Ev.au];rw [if_neg (by decide)];exact e2,o1.trans o2⟩
 | true=>
  simp only [if_true] at z
  cases z
  exact ⟨h1,S1,by simp only [Ev.aN,e1,Ev.au];rfl,o1.weak (by simp only [bK];intro i hi;simp [hi])⟩
theorem XD (ia:gM P P' a):gM P P' (.nt a):=fun z f=>by
 simp only [aN] at z
 replace z:=aj z;obtain ⟨k,ah,z1,z⟩:=z
 obtain ⟨h1,S1,e1,o1⟩:=ia z1 f
 cases z
 exact ⟨h1,S1,by simp only [Ev.aN,e1,Ev.au],o1⟩
theorem dX (ie:bw P P' e) (h1:∀ fr,aN P e fr=(ev P true e fr).bind fun x ah=>.ok (truthy x) ah) (h2:∀ fr h,Ev.aN P' e fr h=(Ev.ev P' e fr h).bind fun x h1=>Ev.R.of (Ev.truthy h1 x) h1):gM P P' e:=fun z f=>by
 rw [h1] at z
 replace z:=aj z;obtain ⟨x,ah,z1,z⟩:=z
 cases z
 obtain ⟨d,h1,S1,e1,q1,o1⟩:=ie z1 f
 exact ⟨h1,S1,by rw [h2,e1,Ev.au,AV q1.t];rfl,o1⟩
theorem pH (ie:bw P P' e) {k:Bool}{fr:Fr}{v:V}{ah:Fr}{M B:Nat→Prop}{h:Hh}{S:Nat→Prop}{ak:Ev.Fr}(z:src k fr e (ev P k e fr)=.ok v ah) (f:bF M B h S fr ak) :
  ∃ d h' S',Ev.ev P' e ak h=.ok d h'∧bh h' S' v d∧(k=false→∀ n,d=.ref n→¬ M n)∧Out M B (bK e) h S fr ak h' S' ah:=by
 have gen:ev P k e fr=.ok v ah→∃ d h' S',Ev.ev P' e ak h=.ok d h'∧bh h' S' v d∧(k=false→∀ n,d=.ref n→¬ M n)∧Out M B (bK e) h S fr ak h' S' ah:=fun z=>by
  obtain ⟨d,h1,S1,e1,q1,o1⟩:=ie z f
  refine ⟨d,h1,S1,e1,q1.t,fun hk n hd=>?_,o1⟩
  subst hk
  have q:=q1.n
  cases v <;> simp only [Rep] at q
  ·cases q.symm.trans hd
  ·cases q.symm.trans hd
  ·cases q.symm.trans hd
  ·cases q.symm.trans hd
  ·obtain ⟨_,q,_⟩:=q;cases q.symm.trans hd
  ·obtain ⟨m,ds,q,sm,_⟩:=q;cases q.symm.trans hd;exact (o1.f.wS _ sm).2.1
  ·obtain ⟨m,ds,q,sm,_⟩:=q;cases q.symm.trans hd;exact (o1.f.wS _ sm).2.1
 cases e
 case v i=>
  simp only [src] at z
  replace z:=aS z;obtain ⟨z,y0⟩:=z;subst y0
  unfold y9 at z
  split at z
  ·rename_i l y
   cases z
   obtain ⟨p,e1,m,ds,rfl,y1,y2,y3⟩:=f.get y
   exact ⟨.ref m,h,S,by simp only [Ev.ev,e1,Option.join,Option.bind,id,Ev.d8],⟨m,ds,rfl,y2,y3⟩,fun _ n hn=>by cases hn;exact y1,.refl f⟩
  ·exact gen (by simp only [ev,z,d8])
 all_goals exact gen z
theorem MS (ie:bw P P' e):jX P P' (.seq e):=fun z f=>by
 simp only [cO] at z
 replace z:=aj z;obtain ⟨x,ah,z1,z⟩:=z
 replace z:=aS z;obtain ⟨z,y0⟩:=z;subst y0
 obtain ⟨d,h1,S1,e1,q1,q2,o1⟩:=pH ie z1 f
 obtain ⟨s,a1,a2,a3⟩:=C7 z q1
 exact ⟨s,h1,S1,by simp only [Ev.cO,e1,Ev.au,a1,Ev.d8],a2,fun q hq=>⟨(a3 q hq).2,fun hk=>q2 hk _ (a3 q hq).1⟩,o1⟩
theorem IY (is:jr P P' es):jX P P' (.jb es):=fun z f=>by
 simp only [cO] at z
 replace z:=aj z;obtain ⟨x,ah,z1,z⟩:=z
 replace z:=aS z;obtain ⟨z,y0⟩:=z;subst y0
 obtain ⟨d,h1,S1,e1,q1,o1⟩:=is z1 f
 obtain ⟨s,a1,a2⟩:=MB z q1.t
 exact ⟨(s,[]),h1,S1,by simp only [Ev.cO,e1,Ev.au,a1,Ev.d8],a2,fun q hq=>by simp at hq,o1⟩
theorem Df (ie:bw P P' e):jX P P' (.enum e):=fun z f=>by
 simp only [cO] at z
 replace z:=aj z;obtain ⟨x,ah,z1,z⟩:=z
 replace z:=aS z;obtain ⟨z,y0⟩:=z;subst y0
 obtain ⟨d,h1,S1,e1,q1,q2,o1⟩:=pH ie z1 f
 simp only [Option.map_eq_some_iff] at z
 obtain ⟨l,z,rfl⟩:=z
 obtain ⟨s,a1,a2,a3⟩:=qE z q1
 exact ⟨(Ev.gK 0 s.1,s.2),h1,S1,by simp only [Ev.cO,e1,Ev.au,a1,Option.map,Ev.d8],xE 0 a2,fun q hq=>⟨(a3 q hq).2,fun hk=>q2 hk _ (a3 q hq).1⟩,o1⟩
theorem IZ (ie:bw P P' e):jX P P' (.rev e):=fun z f=>by
 simp only [cO] at z
 replace z:=aj z;obtain ⟨x,ah,z1,z⟩:=z
 replace z:=aS z;obtain ⟨z,y0⟩:=z;subst y0
 obtain ⟨d,h1,S1,e1,q1,o1⟩:=ie z1 f
 simp only [Option.map_eq_some_iff] at z
 obtain ⟨l,z,rfl⟩:=z
 cases x <;> simp only [yZ,reduceCtorEq] at z
 cases z
 have k1:=q1.t
 simp only [bh,Rep] at k1
 obtain ⟨ds,y1,k2⟩:=k1
 subst y1
 exact ⟨(ds.reverse,[]),h1,S1,by simp only [Ev.cO,e1,Ev.au,Ev.CG,Option.map,Ev.d8],k2.reverse,fun q hq=>by simp at hq,o1⟩
theorem Ja (ia:bw P P' a) (ib:bw P P' b):jX P P' (.zip a b):=fun {k fr v ah M B h S ak} z f=>by
 simp only [cO] at z
 replace z:=aj z;obtain ⟨x,av,z1,z⟩:=z
 replace z:=aj z;obtain ⟨y,cL,z2,z⟩:=z
 replace z:=aS z;obtain ⟨z,y0⟩:=z;subst y0
 obtain ⟨d,h1,S1,e1,q1,r1,o1⟩:=pH ia z1 f
 obtain ⟨e,h2,S2,e2,q2,r2,o2⟩:=pH ib z2 o1.f
 simp only [Option.map_eq_some_iff,Option.bind_eq_some_iff] at z
 obtain ⟨l,z3,m,z4,rfl⟩:=z
 have xN:bh h2 S2 x d:=by
  by_cases hk:(k&&kf a (bK b))=true
  ·exact (fG.tr (k:=true) (a:=a) (by unfold fG;rw [if_pos rfl];exact q1) o1.f o2.tr (fun _=>by simp at hk;exact hk.2) (pG e1)).t
  ·have r1:=r1 (by simpa using hk)
   cases x
   case lst l=>
    simp only [bh] at q1 ⊢
    obtain ⟨n,ds,rfl,a1,a2⟩:=q1
    exact ⟨n,ds,rfl,by rw [o2.tr.keep n (List.getElem?_eq_some_iff.mp a1).1 (fun z=>r1 n rfl z.1)];exact a1,a2.tr o1.f o2.tr⟩
   all_goals exact Rep.tr (show Rep h1 S1 _ d from q1) o1.f o2.tr
 obtain ⟨s,a1,a2,a3⟩:=qE z3 xN
 obtain ⟨t,b1,b2,b3⟩:=qE z4 q2
 refine ⟨(Ev.eW s.1 t.1,s.2++t.2),h2,S2,by simp only [Ev.cO,e1,Ev.au,e2,a1,b1,Option.bind,Option.map,Ev.d8],AX a2 b2,fun q hq=>?_,o1.trans o2⟩
 rcases List.mem_append.mp hq with hq | hq
 ·exact ⟨(a3 q hq).2,fun hk=>r1 (by simp [hk]) _ (a3 q hq).1⟩
 ·exact ⟨(b3 q hq).2,fun hk=>r2 hk _ (b3 q hq).1⟩
end
section
variable {P:aW}{P':Ev.aW}(HP:o8 P P')
include HP
mutual
theorem bf:∀ e:E,bw P P' e
 | .c _=>ML
 | .v _=>MM
 | .tup es=>AZ (fZ es)
 | .lst es=>A1 (fZ es)
 | .bin _ a b=>A4 (bf a) (bf b)
 | .cmp _ a b=>A5 (bf a) (bf b)
 | .nt a=>R8 (bf a)
 | .neg a=>A6 (bf a)
 | .an a b=>R9 (bf a) (bf b)
 | .orr a b=>MN (bf a) (bf b)
 | .lK t a b=>A7 (gG t) (bf a) (bf b)
 | .ix a b=>FA (bf a) (bf b)
 | .sl a lo hi=>FD (bf a) (pI lo) (pI hi)
 | .lM a=>A9 (bf a)
 | .cl _ es=>FE HP (uu es)
 | .bi _ es=>FF (fZ es)
 | .me _ o es=>FG (bf o) (fZ es)
 | .lN a _=>A8 (bf a)
 | .comp elt _ it cond=>ur (kE it) (Bc cond) (bf elt)
 | .iL it=>Bb (kE it)
 | .ji _ a=>xK (bf a)
 | .gv a=>Ba (bf a)
theorem gG:∀ e:E,gM P P' e
 | .an a b=>XC (gG a) (gG b)
 | .orr a b=>Sb (gG a) (gG b)
 | .nt a=>XD (gG a)
 | .c x=>dX ML (fun _=>by simp only [aN]) (fun _ _=>by simp only [Ev.aN])
 | .v x=>dX MM (fun _=>by simp only [aN]) (fun _ _=>by simp only [Ev.aN])
 | .tup es=>dX (AZ (fZ es)) (fun _=>by simp only [aN]) (fun _ _=>by simp only [Ev.aN])
 | .lst es=>dX (A1 (fZ es)) (fun _=>by simp only [aN]) (fun _ _=>by simp only [Ev.aN])
 | .bin _ a b=>dX (A4 (bf a) (bf b)) (fun _=>by simp only [aN]) (fun _ _=>by simp only [Ev.aN])
 | .cmp _ a b=>dX (A5 (bf a) (bf b)) (fun _=>by simp only [aN]) (fun _ _=>by simp only [Ev.aN])
 | .neg a=>dX (A6 (bf a)) (fun _=>by simp only [aN]) (fun _ _=>by simp only [Ev.aN])
 | .lK t a b=>dX (A7 (gG t) (bf a) (bf b)) (fun _=>by simp only [aN]) (fun _ _=>by simp only [Ev.aN])
 | .ix a b=>dX (FA (bf a) (bf b)) (fun _=>by simp only [aN]) (fun _ _=>by simp only [Ev.aN])
 | .sl a lo hi=>dX (FD (bf a) (pI lo) (pI hi)) (fun _=>by simp only [aN]) (fun _ _=>by simp only [Ev.aN])
 | .lM a=>dX (A9 (bf a)) (fun _=>by simp only [aN]) (fun _ _=>by simp only [Ev.aN])
 | .cl _ es=>dX (FE HP (uu es)) (fun _=>by simp only [aN]) (fun _ _=>by simp only [Ev.aN])
 | .bi _ es=>dX (FF (fZ es)) (fun _=>by simp only [aN]) (fun _ _=>by simp only [Ev.aN])
 | .me _ o es=>dX (FG (bf o) (fZ es)) (fun _=>by simp only [aN]) (fun _ _=>by simp only [Ev.aN])
 | .lN a _=>dX (A8 (bf a)) (fun _=>by simp only [aN]) (fun _ _=>by simp only [Ev.aN])
 | .comp elt _ it cond=>dX (ur (kE it) (Bc cond) (bf elt)) (fun _=>by simp only [aN]) (fun _ _=>by simp only [Ev.aN])
 | .iL it=>dX (Bb (kE it)) (fun _=>by simp only [aN]) (fun _ _=>by simp only [Ev.aN])
 | .ji _ a=>dX (xK (bf a)) (fun _=>by simp only [aN]) (fun _ _=>by simp only [Ev.aN])
 | .gv a=>dX (Ba (bf a)) (fun _=>by simp only [aN]) (fun _ _=>by simp only [Ev.aN])
theorem fZ:∀ e:Es,jr P P' e
 | .nil=>MP
 | .cons e es=>IV (bf e) (fZ es)
theorem uu:∀ e:Es,pD P P' e
 | .nil=>IW
 | .cons e es=>De (bf e) (uu es)
theorem pI:∀ e:Eo,pF P P' e
 | .no=>Sa
 | .yes e=>MQ (bf e)
theorem Bc:∀ e:Eo,sI P P' e
 | .no=>MR
 | .yes e=>IX (gG e)
theorem kE:∀ e:It,jX P P' e
 | .seq e=>MS (bf e)
 | .jb es=>IY (fZ es)
 | .zip a b=>Ja (bf a) (bf b)
 | .enum a=>Df (bf a)
 | .rev a=>IZ (bf a)
end
end
end Pv
namespace Pv
open Ev (D O Hh cz b7 TY BI ME T E Es Eo It S Ss Fn big deep b2i rep cH eG b5 aU cut cU eB slots bg)
structure Tr (M B:Nat→Prop) (h:Hh) (S:Nat→Prop) (M':Nat→Prop) (h':Hh) (S':Nat→Prop):Prop where
 len:h.length≤h'.length
 keep:∀ m,m<h.length→¬ M m→h'[m]?=h[m]?
 sub:∀ m,S m→S' m
 new:∀ m,S' m→S m∨(h.length≤m∧m<h'.length)∨(M m∧¬ B m)
 zb:∀ m,M' m→M m∨h.length≤m
structure eg (M B:Nat→Prop) (h:Hh) (S:Nat→Prop) (fr:Fr) (ak:Ev.Fr) (M':Nat→Prop) (h':Hh) (S':Nat→Prop) (ah:Fr) (bN:Ev.Fr):Prop where
 f:bF M' B h' S' ah bN
 tr:Tr M B h S M' h' S'
 lk:∀ i,locked ah i=locked fr i
 rf:∀ i,locked fr i=true→bN[i]?=ak[i]?
noncomputable def gY (h:Hh) (S:Nat→Prop):Fl→Ev.Fl→Prop
 | .nx,g=>g=.nx
 | .bk,g=>g=.bk
 | .ct,g=>g=.ct
 | .ret v,g=>∃ d,g=.ret d∧Rep h S v d
section
variable {M B M' M1 M2:Nat→Prop}{h h' h1 h2:Hh}{S S' S1 S2:Nat→Prop}{fr ah av:Fr}{ak bN kX:Ev.Fr}{c c1 c2:List Nat}{v:V}{d:D}
theorem eg.refl (f:bF M B h S fr ak):eg M B h S fr ak M h S fr ak:=⟨f,⟨Nat.le_refl _,fun _ _ _=>rfl,fun _ q=>q,fun _ q=>.inl q,fun _ q=>.inl q⟩,fun _=>rfl,fun _ _=>rfl⟩
theorem Out.s (o:Out M B c h S fr ak h1 S1 ah):eg M B h S fr ak M h1 S1 ah ak:=⟨o.f,⟨o.tr.len,fun m y1 y2=>o.tr.keep m y1 (fun z=>y2 z.1),o.tr.sub,fun m q=>(o.tr.new m q).imp id .inl,fun _ q=>.inl q⟩,o.lk,fun _ _=>rfl⟩
theorem eg.trans (f0:bF M B h S fr ak) (a:eg M B h S fr ak M1 h1 S1 ah bN) (b:eg M1 B h1 S1 ah bN M2 h2 S2 av kX):eg M B h S fr ak M2 h2 S2 av kX where
 f:=b.f
 tr:=⟨Nat.le_trans a.tr.len b.tr.len,fun m y1 y2=>by
   rw [b.tr.keep m (Nat.lt_of_lt_of_le y1 a.tr.len) (fun z=>by
    rcases a.tr.zb m z with z | z
    ·exact y2 z
    ·omega),a.tr.keep m y1 y2],fun m q=>b.tr.sub m (a.tr.sub m q),fun m q=>by
   rcases b.tr.new m q with q | q | q
   ·rcases a.tr.new m q with q | q | q
    ·exact .inl q
    ·exact .inr (.inl ⟨q.1,Nat.lt_of_lt_of_le q.2 b.tr.len⟩)
    ·exact .inr (.inr q)
   ·exact .inr (.inl ⟨Nat.le_trans a.tr.len q.1,q.2⟩)
   ·rcases a.tr.zb m q.1 with z | z
    ·exact .inr (.inr ⟨z,q.2⟩)
    ·exact .inr (.inl ⟨z,Nat.lt_of_lt_of_le (a.f.wM m q.1) b.tr.len⟩),fun m q=>by
   rcases b.tr.zb m q with q | q
   ·exact a.tr.zb m q
   ·exact .inr (Nat.le_trans a.tr.len q)⟩
 lk:=fun i=>(b.lk i).trans (a.lk i)
 rf:=fun i q=>(b.rf i (by rw [a.lk i];exact q)).trans (a.rf i q)
theorem bF.kind (f:bF M B h S fr ak) (g:Option Sl→Option Sl→Prop) (hl:ah.length=fr.length) (hg:∀ (i:Nat) o,ah[i]?=some o→∃ o0,fr[i]?=some o0∧(o=o0∨(∃ l,o0=some (.own l)∧o=some (.val (.lst l)))∨(∃ l,o0=some (.bor l)∧o=some (.ro l)))) :
  ∃ M' S',eg M B h S fr ak M' h S' ah ak:=by
 let X:Nat→Prop:=fun m=>∃ (i:Nat) (l:List V),fr[i]?=some (some (Sl.own l))∧ah[i]?=some (some (Sl.val (V.lst l)))∧ak[i]?=some (some (D.ref m))
 let Y:Nat→Prop:=fun m=>∃ (i:Nat) (l:List V),fr[i]?=some (some (Sl.bor l))∧ah[i]?=some (some (Sl.ro l))∧ak[i]?=some (some (D.ref m))
 have xM:∀ m,X m→M m∧¬ B m:=fun m ⟨i,l,a,_,b⟩=>by
  obtain ⟨m',ds,e,q,_⟩:=f.sl i _ _ a b;cases e;exact q
 have yM:∀ m,Y m→M m∧B m:=fun m ⟨i,l,a,_,b⟩=>by
  obtain ⟨m',ds,e,q,_⟩:=f.sl i _ _ a b;cases e;exact q
 have mono:∀ {l:List V} {ds:List D},ay h S l ds→ay h (fun m=>S m∨X m) l ds:=fun q=>q.mono (fun _ _=>rfl) fun _ z=>.inl z
 refine ⟨fun m=>M m∧¬ X m∧¬ Y m,fun m=>S m∨X m,⟨⟨fun m q=>?_,fun m q=>f.wM m q.1,f.wB,by rw [hl,f.len],fun i o p e1 e2=>?_,fun i j o o' m y1 y2 y3 y4 y5 y6=>?_⟩,⟨Nat.le_refl _,fun _ _ _=>rfl,fun _ q=>.inl q,fun m q=>?_,fun m q=>.inl q.1⟩,fun i=>?_,fun _ _=>rfl⟩⟩
 ·rcases q with q | q
  ·exact ⟨(f.wS m q).1,fun z=>(f.wS m q).2.1 z.1,(f.wS m q).2.2⟩
  ·exact ⟨f.wM m (xM m q).1,fun z=>z.2.1 q,(xM m q).2⟩
 ·obtain ⟨o0,e0,k⟩:=hg i o e1
  have old:=f.sl i o0 p e0 e2
  rcases k with rfl | ⟨l,rfl,rfl⟩ | ⟨l,rfl,rfl⟩
  ·rcases o with _ | s
   ·exact old
   ·cases s with
    | val v=>obtain ⟨d,e,q⟩:=old;exact ⟨d,e,q.mono (fun _ _=>rfl) fun _ z=>.inl z⟩
    | own l=>
     obtain ⟨m,ds,rfl,z,y,q⟩:=old
     refine ⟨m,ds,rfl,⟨⟨z.1,fun ⟨j,l',a1,a2,a3⟩=>?_,fun ⟨j,l',a1,a2,a3⟩=>?_⟩,z.2⟩,y,mono q⟩
     ·have:=f.inj i j _ _ m e0 a1 rfl rfl e2 a3;subst this;rw [e1] at a2;cases a2
     ·have:=f.inj i j _ _ m e0 a1 rfl rfl e2 a3;subst this;rw [e1] at a2;cases a2
    | bor l=>
     obtain ⟨m,ds,rfl,z,y,q⟩:=old
     refine ⟨m,ds,rfl,⟨⟨z.1,fun ⟨j,l',a1,a2,a3⟩=>?_,fun ⟨j,l',a1,a2,a3⟩=>?_⟩,z.2⟩,y,mono q⟩
     ·have:=f.inj i j _ _ m e0 a1 rfl rfl e2 a3;subst this;rw [e1] at a2;cases a2
     ·have:=f.inj i j _ _ m e0 a1 rfl rfl e2 a3;subst this;rw [e1] at a2;cases a2
    | ro l=>obtain ⟨m,ds,rfl,z,y,q⟩:=old;exact ⟨m,ds,rfl,fun w=>z w.1,y,mono q⟩
  ·obtain ⟨m,ds,rfl,z,y,q⟩:=old
   exact ⟨.ref m,rfl,m,ds,rfl,.inr ⟨i,l,e0,e1,e2⟩,y,mono q⟩
  ·obtain ⟨m,ds,rfl,z,y,q⟩:=old
   exact ⟨m,ds,rfl,fun w=>w.2.2 ⟨i,l,e0,e1,e2⟩,y,mono q⟩
 ·have kd:∀ (i:Nat) o,ah[i]?=some o→gW o=true→∃ o0,fr[i]?=some o0∧gW o0=true:=fun i o w1 w2=>by
   obtain ⟨o0,e0,k⟩:=hg i o w1
   rcases k with rfl | ⟨l,rfl,rfl⟩ | ⟨l,rfl,rfl⟩
   ·exact ⟨o,e0,w2⟩
   ·cases w2
   ·cases w2
  obtain ⟨oi,k1,k2⟩:=kd i o y1 y3
  obtain ⟨oj,k3,k4⟩:=kd j o' y2 y4
  exact f.inj i j oi oj m k1 k3 k2 k4 y5 y6
 ·rcases q with q | q
  ·exact .inl q
  ·exact .inr (.inr (xM m q))
 ·unfold locked
  cases z:ah[i]? with
  | none=>
   have:fr[i]?=none:=by rw [List.getElem?_eq_none_iff] at z ⊢;omega
   rw [this]
  | some o=>
   obtain ⟨o0,e0,k⟩:=hg i o z
   rw [e0]
   rcases k with rfl | ⟨l,rfl,rfl⟩ | ⟨l,rfl,rfl⟩ <;> rfl
theorem bF.fX (f:bF M B h S fr ak):∃ M' S',eg M B h S fr ak M' h S' (fR fr) ak:=by
 refine f.kind (fun _ _=>True) (by simp [fR]) fun i o e=>?_
 unfold fR at e
 rw [List.getElem?_map] at e
 cases z:fr[i]? with
 | none=>rw [z] at e;cases e
 | some o0=>
  rw [z] at e;cases e
  refine ⟨o0,rfl,?_⟩
  rcases o0 with _ | s
  ·exact .inl rfl
  ·cases s with
   | own l=>exact .inr (.inl ⟨l,rfl,rfl⟩)
   | _=>exact .inl rfl
theorem bF.walk:∀ (is:List Nat) {M:Nat→Prop}{S:Nat→Prop}{fr:Fr},bF M B h S fr ak→∃ M' S',eg M B h S fr ak M' h S' (sH is fr) ak
 | [],_,_,_,f=>⟨_,_,.refl f⟩
 | i :: is,M,S,fr,f=>by
  have one:∃ M1 S1,eg M B h S fr ak M1 h S1 (match fr[i]? with | some (some s)=>fr.set i (some s.walk) | _=>fr) ak:=by
   split
   ·rename_i s z
    have hl:=(List.getElem?_eq_some_iff.mp z).1
    refine f.kind (fun _ _=>True) (by simp) fun j o e=>?_
    by_cases hj:i=j
    ·subst hj
     rw [List.getElem?_set_self hl] at e
     cases e
     refine ⟨_,z,?_⟩
     cases s with
     | own l=>exact .inr (.inl ⟨l,rfl,rfl⟩)
     | bor l=>exact .inr (.inr ⟨l,rfl,rfl⟩)
     | _=>exact .inl rfl
    ·rw [List.getElem?_set_ne hj] at e
     exact ⟨o,e,.inl rfl⟩
   ·exact ⟨M,S,.refl f⟩
  obtain ⟨M1,S1,o1⟩:=one
  obtain ⟨M2,S2,o2⟩:=bF.walk is o1.f
  exact ⟨M2,S2,o1.trans f o2⟩
theorem bF.own (f:bF M B h S fr ak) {i:Nat}{l:List V}{ds:List D}(e:put fr i (.own l)=some ah) (q:ay h S l ds):eg M B h S fr ak (fun m=>M m∨m=h.length) (h++[.lst ds]) S ah (ak.set i (some (.ref h.length))):=by
 have hx:ah=fr.set i (some (.own l))∧locked fr i=false:=by
  unfold put at e
  unfold locked
  split at e
  ·cases e
  ·cases e
  ·rename_i k1 k2
   cases e
   refine ⟨rfl,?_⟩
   cases z:fr[i]? with
   | none=>rfl
   | some o=>
    rcases o with _ | s
    ·rfl
    ·cases s with
     | bor l=>exact absurd z (k1 l)
     | ro l=>exact absurd z (k2 l)
     | _=>rfl
 obtain ⟨rfl,hk⟩:=hx
 have kp:∀ m,m<h.length→(h++[O.lst ds])[m]?=h[m]?:=fun m z=>by rw [List.getElem?_append_left z]
 have kS:∀ m,S m→(h++[O.lst ds])[m]?=h[m]?:=fun m z=>kp m (f.w m z)
 refine ⟨⟨fun m y=>⟨by have:=(f.wS m y).1;simp;omega,fun z=>?_,(f.wS m y).2.2⟩,fun m y=>?_,fun m y=>by have:=f.wB m y;simp;omega,by simp [f.len],fun j o p y1 y2=>?_,fun j k o o' m y1 y2 y3 y4 y5 y6=>?_⟩,⟨by simp,fun m y _=>kp m y,fun _ z=>z,fun _ z=>.inl z,fun m z=>z.imp id (fun z=>by omega)⟩,fun j=>?_,fun j hj=>?_⟩
 ·rcases z with z | z
  ·exact (f.wS m y).2.1 z
  ·have:=(f.wS m y).1;omega
 ·rcases y with y | y
  ·have:=f.wM m y;simp;omega
  ·subst y;simp
 ·by_cases hj:i=j
  ·subst hj
   have hl:i<fr.length:=by have:=(List.getElem?_eq_some_iff.mp y1).1;simpa using this
   rw [List.getElem?_set_self hl] at y1
   rw [List.getElem?_set_self (by rw [←f.len];exact hl)] at y2
   cases y1;cases y2
   exact ⟨h.length,ds,rfl,⟨.inr rfl,fun z=>by have:=f.wB _ z;omega⟩,by simp,q.mono kS fun _ z=>z⟩
  ·rw [List.getElem?_set_ne hj] at y1 y2
   have old:=f.sl j o p y1 y2
   rcases o with _ | s
   ·exact old
   ·cases s with
    | val v=>obtain ⟨d,e,q⟩:=old;exact ⟨d,e,q.mono kS fun _ z=>z⟩
    | own l=>obtain ⟨m,es,rfl,z,y,q⟩:=old;exact ⟨m,es,rfl,⟨.inl z.1,z.2⟩,by rw [kp m (f.wM m z.1)];exact y,q.mono kS fun _ z=>z⟩
    | bor l=>obtain ⟨m,es,rfl,z,y,q⟩:=old;exact ⟨m,es,rfl,⟨.inl z.1,z.2⟩,by rw [kp m (f.wM m z.1)];exact y,q.mono kS fun _ z=>z⟩
    | ro l=>
     obtain ⟨m,es,rfl,z,y,q⟩:=old
     have hm:=(List.getElem?_eq_some_iff.mp y).1
     exact ⟨m,es,rfl,fun w=>by rcases w with w | w;exact z w;omega,by rw [kp m hm];exact y,q.mono kS fun _ z=>z⟩
 ·have low:∀ (j:Nat) o,i≠j→fr[j]?=some o→gW o=true→ak[j]?=some (some (.ref m))→m<h.length:=fun j o _ w1 w2 w3=>f.wM m (f.mM w1 w2 w3)
  have new:∀ (j:Nat),j<fr.length→i=j→(ak.set i (some (.ref h.length)))[j]?=some (some (.ref m))→m=h.length:=fun j hl hj w=>by
   subst hj
   rw [List.getElem?_set_self (by rw [←f.len];exact hl)] at w
   cases w;rfl
  have lj:j<fr.length:=by have:=(List.getElem?_eq_some_iff.mp y1).1;simpa using this
  have lk:k<fr.length:=by have:=(List.getElem?_eq_some_iff.mp y2).1;simpa using this
  by_cases hj:i=j
  ·by_cases hk2:i=k
   ·rw [←hj,←hk2]
   ·have a:=new j lj hj y5
    rw [List.getElem?_set_ne hk2] at y2 y6
    have b:=low k o' hk2 y2 y4 y6
    omega
  ·by_cases hk2:i=k
   ·have a:=new k lk hk2 y6
    rw [List.getElem?_set_ne hj] at y1 y5
    have b:=low j o hj y1 y3 y5
    omega
   ·rw [List.getElem?_set_ne hj] at y1 y5
    rw [List.getElem?_set_ne hk2] at y2 y6
    exact f.inj j k o o' m y1 y2 y3 y4 y5 y6
 ·by_cases hj:i=j
  ·subst hj
   rw [hk]
   unfold locked
   by_cases hl:i<fr.length
   ·rw [List.getElem?_set_self hl];rfl
   ·rw [List.getElem?_eq_none (by simpa using hl)]
  ·unfold locked;rw [List.getElem?_set_ne hj]
 ·have:i≠j:=fun z=>by subst z;rw [hk] at hj;cases hj
  rw [List.getElem?_set_ne this]
end
inductive UY (P':Ev.aW) (w:Nat) (s:S) (g:Fl) (M B:Nat→Prop) (h:Hh) (S:Nat→Prop) (fr:Fr) (ak:Ev.Fr) (ah:Fr):Prop
 | mk (g':Ev.Fl) (bN:Ev.Fr) (M':Nat→Prop) (h':Hh) (S':Nat→Prop) (c0:Ev.ex P' w s ak h=.ok (g',bN) h') (c1:gY h' S' g g') (c2:eg M B h S fr ak M' h' S' ah bN):UY P' w s g M B h S fr ak ah
inductive MT (P':Ev.aW) (w:Nat) (s:Ss) (g:Fl) (M B:Nat→Prop) (h:Hh) (S:Nat→Prop) (fr:Fr) (ak:Ev.Fr) (ah:Fr):Prop
 | mk (g':Ev.Fl) (bN:Ev.Fr) (M':Nat→Prop) (h':Hh) (S':Nat→Prop) (c0:Ev.exs P' w s ak h=.ok (g',bN) h') (c1:gY h' S' g g') (c2:eg M B h S fr ak M' h' S' ah bN):MT P' w s g M B h S fr ak ah
section
variable (P:aW)(P':Ev.aW)(w:Nat)
noncomputable def oA (s:S):Prop:=∀ {fr:Fr} {g:Fl} {ah:Fr} {M B:Nat→Prop} {h:Hh} {S:Nat→Prop} {ak:Ev.Fr},ex P w s fr=.ok g ah→bF M B h S fr ak→UY P' w s g M B h S fr ak ah
noncomputable def pJ (s:Ss):Prop:=∀ {fr:Fr} {g:Fl} {ah:Fr} {M B:Nat→Prop} {h:Hh} {S:Nat→Prop} {ak:Ev.Fr},exs P w s fr=.ok g ah→bF M B h S fr ak→MT P' w s g M B h S fr ak ah
end
section
variable {P:aW}{P':Ev.aW}{w:Nat}(HP:o8 P P')
include HP
theorem Jb {i:Nat}{e:E}:oA P P' w (.set i e):=fun {fr g ah M B h S ak} z f=>by
 simp only [ex] at z
 replace z:=aj z;obtain ⟨x,av,z1,z⟩:=z
 by_cases hn:isNew e=true
 ·rw [if_pos hn] at z
  have key:∃ l ds h1 S1,x=.lst l∧ay h1 S1 l ds∧Ev.ev P' e ak h=.ok (.ref h1.length) (h1++[.lst ds])∧Out M B (bK e) h S fr ak h1 S1 av:=by
   cases e <;> simp only [isNew,Bool.false_eq_true] at hn
   case lst es=>
    simp only [ev] at z1
    replace z1:=aj z1;obtain ⟨l,cL,z2,z1⟩:=z1
    replace z1:=aS z1;obtain ⟨z1,y0⟩:=z1;subst y0
    unfold eT at z1
    split at z1
    case isFalse=>cases z1
    rename_i hk
    cases z1
    obtain ⟨ds,h1,S1,e1,q1,o1⟩:=fZ HP es z2 f
    refine ⟨l,ds,h1,S1,rfl,q1.n,?_,o1⟩
    simp only [Ev.ev,e1,Ev.au,Ev.alloc]
    rw [if_pos (by rw [←q1.n.length];exact hk)]
   case iL it=>
    simp only [ev] at z1
    replace z1:=aj z1;obtain ⟨l,cL,z2,z1⟩:=z1
    replace z1:=aS z1;obtain ⟨z1,y0⟩:=z1;subst y0
    unfold eT at z1
    split at z1
    case isFalse=>cases z1
    rename_i hk
    cases z1
    obtain ⟨s,h1,S1,e1,q1,q2,o1⟩:=kE HP it z2 f
    refine ⟨l,s.1,h1,S1,rfl,q1,?_,o1⟩
    simp only [Ev.ev,e1,Ev.au,Ev.alloc]
    rw [if_pos (by rw [←q1.length];exact hk)]
  obtain ⟨l,ds,h1,S1,rfl,q1,e1,o1⟩:=key
  simp only at z
  replace z:=aj z;obtain ⟨cL,jm,z2,z⟩:=z
  replace z2:=aS z2;obtain ⟨z2,y0⟩:=z2;subst y0
  cases z
  have o2:=o1.f.own z2 q1
  exact ⟨.nx,_,_,_,_,by simp only [Ev.ex,e1,Ev.au],rfl,o1.s.trans f o2⟩
 ·rw [if_neg hn] at z
  replace z:=aj z;obtain ⟨cL,jm,z2,z⟩:=z
  replace z2:=aS z2;obtain ⟨z2,y0⟩:=z2;subst y0
  cases z
  obtain ⟨d,h1,S1,e1,q1,o1⟩:=bf HP e z1 f
  obtain ⟨f2,l2,r2⟩:=o1.f.set z2 q1.n
  refine ⟨.nx,_,_,_,_,by simp only [Ev.ex,e1,Ev.au],rfl,o1.s.trans f ⟨f2,(eg.refl f2).tr,l2,r2⟩⟩
theorem Jc {l:List Nat}{e:E}:oA P P' w (.kT l e):=fun {fr g ah M B h S ak} z f=>by
 simp only [ex] at z
 replace z:=aj z;obtain ⟨x,av,z1,z⟩:=z
 replace z:=aj z;obtain ⟨cL,jm,z2,z⟩:=z
 replace z2:=aS z2;obtain ⟨z2,y0⟩:=z2;subst y0
 cases z
 obtain ⟨d,h1,S1,e1,q1,o1⟩:=bf HP e z1 f
 obtain ⟨jj,b1,f2,l2,r2⟩:=o1.f.cy z2 q1.n
 exact ⟨.nx,_,_,_,_,by simp only [Ev.ex,e1,Ev.au,b1],rfl,o1.s.trans f ⟨f2,(eg.refl f2).tr,l2,r2⟩⟩
theorem MU {e:E}:oA P P' w (.exp e):=fun {fr g ah M B h S ak} z f=>by
 simp only [ex] at z
 replace z:=aj z;obtain ⟨x,av,z1,z⟩:=z
 cases z
 obtain ⟨d,h1,S1,e1,q1,o1⟩:=bf HP e z1 f
 exact ⟨.nx,_,_,_,_,by simp only [Ev.ex,e1,Ev.au],rfl,o1.s⟩
theorem MV {e:E}:oA P P' w (.ret e):=fun {fr g ah M B h S ak} z f=>by
 simp only [ex] at z
 replace z:=aj z;obtain ⟨x,av,z1,z⟩:=z
 cases z
 obtain ⟨M1,S1,o1⟩:=f.fX
 obtain ⟨d,h2,S2,e1,q1,o2⟩:=bf HP e z1 o1.f
 exact ⟨.ret d,_,_,_,_,by simp only [Ev.ex,e1,Ev.au],⟨d,rfl,q1.n⟩,o1.trans f o2.s⟩
omit HP in
theorem qF {F:V→Fr→R Fl}{F':D→Ev.Fr→Hh→Ev.R (Ev.Fl×Ev.Fr)}{ck:List (Nat×List D)}{B:Nat→Prop}{M0:Nat→Prop}{h0:Hh}{S0:Nat→Prop}{fy:Fr}{Dg:Ev.Fr}(f0:bF M0 B h0 S0 fy Dg) (st:∀ q∈ck,bg h0 q.1=some q.2∧¬ M0 q.1)
  (turn:∀ v d fr g ah M h S ak,F v fr=.ok g ah→bF M B h S fr ak→Rep h S v d→∃ g' bN M' h' S',F' d ak h=.ok (g',bN) h'∧gY h' S' g g'∧eg M B h S fr ak M' h' S' ah bN) :
  ∀ {vs:List V} {ds:List D} {fr:Fr} {g:Fl} {ah:Fr} {M:Nat→Prop} {h:Hh} {S:Nat→Prop} {ak:Ev.Fr},forL F vs fr=.ok g ah→eg M0 B h0 S0 fy Dg M h S fr ak→ay h S vs ds→
  ∃ g' bN M' h' S',Ev.forL F' ck ds ak h=.ok (g',bN) h'∧gY h' S' g g'∧eg M0 B h0 S0 fy Dg M' h' S' ah bN
 | [],ds,fr,g,ah,M,h,S,ak,e,o,q=>by
  simp only [forL] at e;simp only [ay] at q;subst q
  cases e
  refine ⟨.nx,ak,M,h,S,?_,rfl,o⟩
  simp only [Ev.forL]
  rw [if_pos (jJ fun x hx=>kW (st x hx).1 (o.tr.keep _ (pq (st x hx).1) (st x hx).2))]
 | v :: vs,ds,fr,g,ah,M,h,S,ak,e,o,q=>by
  simp only [forL] at e
  replace e:=aj e;obtain ⟨p,av,e1,e⟩:=e
  simp only [ay] at q
  obtain ⟨d,es,rfl,q1,q2⟩:=q
  obtain ⟨g',kX,M2,h2,S2,t1,t2,t3⟩:=turn v d fr p av M h S ak e1 o.f q1
  have o2:=o.trans f0 t3
  have FH:Ev.stays h ck=true:=jJ fun x hx=>kW (st x hx).1 (o.tr.keep _ (pq (st x hx).1) (st x hx).2)
  have UZ:ay h2 S2 vs es:=q2.mono (fun m z=>t3.tr.keep m (o.f.wS m z).1 (o.f.wS m z).2.1) t3.tr.sub
  cases p with
  | nx=>
   simp only [gY] at t2;subst t2
   simp only at e
   obtain ⟨pK,jj,M3,h3,S3,u1,u2,u3⟩:=qF f0 st turn e o2 UZ
   refine ⟨pK,jj,M3,h3,S3,?_,u2,u3⟩
   simp only [Ev.forL]
   rw [if_pos FH,t1,Ev.au]
   exact u1
  | ct=>
   simp only [gY] at t2;subst t2
   simp only at e
   obtain ⟨pK,jj,M3,h3,S3,u1,u2,u3⟩:=qF f0 st turn e o2 UZ
   refine ⟨pK,jj,M3,h3,S3,?_,u2,u3⟩
   simp only [Ev.forL]
   rw [if_pos FH,t1,Ev.au]
   exact u1
  | bk=>
   simp only [gY] at t2;subst t2
   simp only at e
   cases e
   refine ⟨.nx,kX,M2,h2,S2,?_,rfl,o2⟩
   simp only [Ev.forL]
   rw [if_pos FH,t1,Ev.au]
  | ret x=>
   simp only [gY] at t2
   obtain ⟨d2,rfl,t2⟩:=t2
   simp only at e
   cases e
   refine ⟨.ret d2,kX,M2,h2,S2,?_,⟨d2,rfl,t2⟩,o2⟩
   simp only [Ev.forL]
   rw [if_pos FH,t1,Ev.au]
theorem MW {t:T}{it:It}{b:Ss}(ib:pJ P P' w b):oA P P' w (.for t it b):=fun {fr g ah M B h S ak} z f=>by
 simp only [ex] at z
 replace z:=aj z;obtain ⟨vs,av,z1,z⟩:=z
 obtain ⟨M1,S1,o1⟩:=f.walk (itv it)
 obtain ⟨s,h2,S2,e1,q1,q2,o2⟩:=kE HP it z1 o1.f
 have o3:=o1.trans f o2.s
 obtain ⟨g',bN,M',h',S',u1,u2,u3⟩:=qF (F':=fun d av h2=>match Ev.cy t d av with
   | some cL=>Ev.exs P' w b cL h2
   | none=>.bad) (ck:=s.2) o2.f (fun q hq=>⟨(q2 q hq).1,(q2 q hq).2 rfl⟩) (fun v d fr g ah M h S ak y f q=>by
  split at y
  ·rename_i cL y1
   obtain ⟨jj,b1,b2,b3,b4⟩:=f.cy y1 q
   rw [b1]
   obtain ⟨g',bN,M',h',S',c1,c2,c3⟩:=ib y b2
   exact ⟨g',bN,M',h',S',c1,c2,(⟨b2,(eg.refl b2).tr,b3,b4⟩:eg M _ h S fr ak M h S cL jj).trans f c3⟩
  ·cases y) z (eg.refl o2.f) q1
 refine ⟨g',bN,M',h',S',?_,u2,o3.trans f u3⟩
 simp only [Ev.ex,e1,Ev.au]
 exact u1
theorem uv {t:E}{b:Ss}(ib:pJ P P' w b):∀ (n:Nat) {fr:Fr}{g:Fl}{ah:Fr}{M B:Nat→Prop}{h:Hh}{S:Nat→Prop}{ak:Ev.Fr},ef (fun av=>aN P t av) (fun av=>exs P w b av) n fr=.ok g ah→bF M B h S fr ak→
  ∃ g' bN M' h' S',Ev.ef (fun av h2=>Ev.aN P' t av h2) (fun av h2=>Ev.exs P' w b av h2) n ak h=.ok (g',bN) h'∧gY h' S' g g'∧eg M B h S fr ak M' h' S' ah bN
 | 0,_,_,_,_,_,_,_,_,z,_=>by simp only [ef] at z;cases z
 | n+1,fr,g,ah,M,B,h,S,ak,z,f=>by
  simp only [ef] at z
  replace z:=aj z;obtain ⟨k,av,z1,z⟩:=z
  obtain ⟨h1,S1,e1,o1⟩:=gG HP t z1 f
  cases k with
  | false=>
   simp only [Bool.false_eq_true,if_false] at z
   cases z
   refine ⟨.nx,ak,M,h1,S1,?_,rfl,o1.s⟩
   simp only [Ev.ef,e1,Ev.au]
   rw [if_neg (by decide)]
  | true=>
   simp only [if_true] at z
   replace z:=aj z;obtain ⟨p,cL,z2,z⟩:=z
   obtain ⟨g',jj,M2,h2,S2,t1,t2,t3⟩:=ib z2 o1.f
   have o2:=o1.s.trans f t3
   cases p with
   | nx=>
    simp only [gY] at t2;subst t2
    simp only at z
    obtain ⟨pK,Dh,M3,h3,S3,u1,u2,u3⟩:=uv ib n z t3.f
    refine ⟨pK,Dh,M3,h3,S3,?_,u2,o2.trans f u3⟩
    simp only [Ev.ef,e1,Ev.au,if_true,t1]
    exact u1
   | ct=>
    simp only [gY] at t2;subst t2
    simp only at z
    obtain ⟨pK,Dh,M3,h3,S3,u1,u2,u3⟩:=uv ib n z t3.f
    refine ⟨pK,Dh,M3,h3,S3,?_,u2,o2.trans f u3⟩
    simp only [Ev.ef,e1,Ev.au,if_true,t1]
    exact u1
   | bk=>
    simp only [gY] at t2;subst t2
    simp only at z
    cases z
    refine ⟨.nx,jj,M2,h2,S2,?_,rfl,o2⟩
    simp only [Ev.ef,e1,Ev.au,if_true,t1]
   | ret x=>
    simp only [gY] at t2
    obtain ⟨d2,rfl,t2⟩:=t2
    simp only at z
    cases z
    refine ⟨.ret d2,jj,M2,h2,S2,?_,⟨d2,rfl,t2⟩,o2⟩
    simp only [Ev.ef,e1,Ev.au,if_true,t1]
theorem MX {t:E}{a b:Ss}(ia:pJ P P' w a) (ib:pJ P P' w b):oA P P' w (.iff t a b):=fun {fr g ah M B h S ak} z f=>by
 simp only [ex] at z
 replace z:=aj z;obtain ⟨k,av,z1,z⟩:=z
 obtain ⟨h1,S1,e1,o1⟩:=gG HP t z1 f
 cases k with
 | true=>
  simp only [if_true] at z
  obtain ⟨g',bN,M',h',S',c1,c2,c3⟩:=ia z o1.f
  exact ⟨g',bN,M',h',S',by simp only [Ev.ex,e1,Ev.au,if_true,c1],c2,o1.s.trans f c3⟩
 | false=>
  simp only [Bool.false_eq_true,if_false] at z
  obtain ⟨g',bN,M',h',S',c1,c2,c3⟩:=ib z o1.f
  exact ⟨g',bN,M',h',S',by simp only [Ev.ex,e1,Ev.au];rw [if_neg (by decide)];exact c1,c2,o1.s.trans f c3⟩
mutual
theorem Sd:∀ s:S,oA P P' w s
 | .set _ _=>Jb HP
 | .kT _ _=>Jc HP
 | .exp _=>MU HP
 | .ret _=>MV HP
 | .iff _ a b=>MX HP (kF a) (kF b)
 | .for _ _ b=>MW HP (kF b)
 | .lZ _ b=>fun z f=>by
  simp only [ex] at z
  obtain ⟨g',bN,M',h',S',c1,c2,c3⟩:=uv HP (kF b) w z f
  exact ⟨g',bN,M',h',S',by simp only [Ev.ex];exact c1,c2,c3⟩
 | .pass=>fun z f=>by simp only [ex] at z;cases z;exact ⟨.nx,_,_,_,_,by simp only [Ev.ex],rfl,.refl f⟩
 | .brk=>fun z f=>by simp only [ex] at z;cases z;exact ⟨.bk,_,_,_,_,by simp only [Ev.ex],rfl,.refl f⟩
 | .fP=>fun z _=>by simp only [ex] at z;cases z
 | .cnt=>fun z f=>by simp only [ex] at z;cases z;exact ⟨.ct,_,_,_,_,by simp only [Ev.ex],rfl,.refl f⟩
theorem kF:∀ s:Ss,pJ P P' w s
 | .nil=>fun z f=>by simp only [exs] at z;cases z;exact ⟨.nx,_,_,_,_,by simp only [Ev.exs],rfl,.refl f⟩
 | .cons s ss=>fun z f=>by
  simp only [exs] at z
  replace z:=aj z;obtain ⟨p,av,z1,z⟩:=z
  obtain ⟨g',kX,M2,h2,S2,t1,t2,t3⟩:=Sd s z1 f
  cases p with
  | nx=>
   simp only [gY] at t2;subst t2
   simp only at z
   obtain ⟨pK,jj,M3,h3,S3,u1,u2,u3⟩:=kF ss z t3.f
   exact ⟨pK,jj,M3,h3,S3,by simp only [Ev.exs,t1,Ev.au,u1],u2,t3.trans f u3⟩
  | ct=>
   simp only [gY] at t2;subst t2
   simp only at z
   cases z
   exact ⟨.ct,kX,M2,h2,S2,by simp only [Ev.exs,t1,Ev.au],rfl,t3⟩
  | bk=>
   simp only [gY] at t2;subst t2
   simp only at z
   cases z
   exact ⟨.bk,kX,M2,h2,S2,by simp only [Ev.exs,t1,Ev.au],rfl,t3⟩
  | ret x=>
   simp only [gY] at t2
   obtain ⟨d2,rfl,t2⟩:=t2
   simp only at z
   cases z
   exact ⟨.ret d2,kX,M2,h2,S2,by simp only [Ev.exs,t1,Ev.au],⟨d2,rfl,t2⟩,t3⟩
end
end
theorem qG {h:Hh}{S:Nat→Prop}{B:Nat→Prop}{h0:Hh}{S0:Nat→Prop}:∀ {sl:List Sl}{ds:List D}{cs:Fr},sl.length=ds.length→
  (∀ (a:Nat) s d,sl[a]?=some s→ds[a]?=some d→kr B B h0 S0 (some s) (some d)∧locked cs a=xF (some s)∧(xF (some s)=true→∃ m es l s',d=.ref m∧h[m]?=some (.lst es)∧ay h S l es∧cs[a]?=some (some s')∧s'.out=some l))→mE h S sl ds ((cs.take sl.length).filterMap fun o=>o.bind Sl.out)
 | [],ds,cs,_,_=>by simp [mE]
 | s :: sl,[],cs,hl,_=>by simp at hl
 | s :: sl,d :: ds,[],hl,q=>by
  have ih:=qG (h:=h) (S:=S) (sl:=sl) (ds:=ds) (cs:=[]) (by simpa using hl) fun a s' d' e1 e2=>by
   obtain ⟨w1,w2,w3⟩:=q (a+1) s' d' (by simpa using e1) (by simpa using e2)
   exact ⟨w1,by simpa [locked] using w2,fun z=>by obtain ⟨_,_,_,_,_,_,_,y,_⟩:=w3 z;simp at y⟩
  obtain ⟨w1,w2,w3⟩:=q 0 s d (by simp) (by simp)
  cases s with
  | val v=>simp at ih ⊢;exact ⟨d,ds,rfl,ih⟩
  | own l=>exact absurd w1 (by rintro ⟨m,es,e,q,_⟩;exact q.2 q.1)
  | bor l=>obtain ⟨_,_,_,_,_,_,_,y,_⟩:=w3 rfl;simp at y
  | ro l=>obtain ⟨_,_,_,_,_,_,_,y,_⟩:=w3 rfl;simp at y
 | s :: sl,d :: ds,o :: cs,hl,q=>by
  have ih:=qG (h:=h) (S:=S) (sl:=sl) (ds:=ds) (cs:=cs) (by simpa using hl) fun a s' d' e1 e2=>by
   obtain ⟨w1,w2,w3⟩:=q (a+1) s' d' (by simpa using e1) (by simpa using e2)
   exact ⟨w1,by simpa [locked] using w2,fun z=>by simpa using w3 z⟩
  obtain ⟨w1,w2,w3⟩:=q 0 s d (by simp) (by simp)
  cases s with
  | val v=>
   have:o.bind Sl.out=none:=by
    simp [locked] at w2
    rcases o with _ | s
    ·rfl
    ·cases s <;> first | rfl | cases w2
   simp only [List.length_cons,List.take_succ_cons,List.filterMap_cons,this]
   exact ⟨d,ds,rfl,ih⟩
  | own l=>exact absurd w1 (by rintro ⟨m,es,e,q,_⟩;exact q.2 q.1)
  | bor l=>
   obtain ⟨m,es,l',s',a1,a2,a3,a4,a5⟩:=w3 rfl
   simp at a4;subst a4
   simp only [List.length_cons,List.take_succ_cons,List.filterMap_cons,Option.bind,a5]
   exact ⟨d,ds,l',_,m,es,rfl,rfl,a1,a2,a3,ih⟩
  | ro l=>
   obtain ⟨m,es,l',s',a1,a2,a3,a4,a5⟩:=w3 rfl
   simp at a4;subst a4
   simp only [List.length_cons,List.take_succ_cons,List.filterMap_cons,Option.bind,a5]
   exact ⟨d,ds,l',_,m,es,rfl,rfl,a1,a2,a3,ih⟩
theorem Bd (F:List Fn) (w:Nat):∀ n,o8 (run F w n) (Ev.run F w n)
 | 0=>fun f sl v os e=>by simp [run] at e
 | n+1=>fun f sl v os e h S B ds F0=>by
  have HP:=Bd F w n
  simp only [run] at e
  cases z:F[f]? with
  | none=>rw [z] at e;cases e
  | some fn=>
  rw [z] at e
  simp only at e
  split at e
  case isFalse=>cases e
  rename_i hl
  have hlen:sl.length=ds.length:=by have:=F0.len;simpa using this
  have f1:bF B B h S (fy fn sl) (Ev.fy fn ds):=by
   unfold fy Ev.fy
   have sp:∀ (i:Nat) o,(sl.map some++List.replicate (fn.ns - fn.np) none)[i]?=some o→(sl.map some)[i]?=some o∨(sl.length≤i∧o=none):=fun i o y=>by
    by_cases hi:i<sl.length
    ·rw [List.getElem?_append_left (by simpa using hi)] at y;exact .inl y
    ·rw [List.getElem?_append_right (by simpa using hi)] at y
     have:=List.mem_of_getElem? y
     exact .inr ⟨by omega,(List.mem_replicate.mp this).2⟩
   have lo:∀ (i:Nat) p,i<sl.length→(ds.map some++List.replicate (fn.ns - fn.np) none)[i]?=some p→(ds.map some)[i]?=some p:=fun i p hi y=>by
    rw [List.getElem?_append_left (by simpa [←hlen] using hi)] at y;exact y
   refine ⟨F0.wS,F0.wM,F0.wB,by simp [hlen],fun i o p y1 y2=>?_,fun i j o o' m y1 y2 y3 y4 y5 y6=>?_⟩
   ·rcases sp i o y1 with y1 | ⟨hi,rfl⟩
    ·have hi:i<sl.length:=by have:=(List.getElem?_eq_some_iff.mp y1).1;simpa using this
     exact F0.sl i o p y1 (lo i p hi y2)
    ·rw [List.getElem?_append_right (by simpa [←hlen] using hi)] at y2
     have:=List.mem_of_getElem? y2
     exact (List.mem_replicate.mp this).2
   ·rcases sp i o y1 with y1 | ⟨hi,rfl⟩
    ·rcases sp j o' y2 with y2 | ⟨hj,rfl⟩
     ·have hi:i<sl.length:=by have:=(List.getElem?_eq_some_iff.mp y1).1;simpa using this
      have hj:j<sl.length:=by have:=(List.getElem?_eq_some_iff.mp y2).1;simpa using this
      exact F0.inj i j o o' m y1 y2 y3 y4 (lo i _ hi y5) (lo j _ hj y6)
     ·cases y4
    ·cases y3
  have fin:∀ {g:Fl} {ah:Fr},exs (run F w n) w fn.body (fy fn sl)=.ok g ah→∃ g' bN M' h' S',Ev.exs (Ev.run F w n) w fn.body (Ev.fy fn ds) h=.ok (g',bN) h'∧gY h' S' g g'∧Tk B h S h' S'∧mE h' S' sl ds (outs fn.np ah):=fun {g ah} y=>by
   obtain ⟨g',bN,M',h',S',c1,c2,c3⟩:=kF HP fn.body y f1
   refine ⟨g',bN,M',h',S',c1,c2,⟨c3.tr.len,fun m y1 y2=>c3.tr.keep m y1 y2,c3.tr.sub,fun m q=>?_⟩,?_⟩
   ·rcases c3.tr.new m q with q | q | q
    ·exact .inl q
    ·exact .inr q
    ·exact absurd q.1 q.2
   ·unfold outs
    rw [←hl]
    refine qG (B:=B) (h0:=h) (S0:=S) hlen fun a s d e1 e2=>?_
    have ha:a<sl.length:=(List.getElem?_eq_some_iff.mp e1).1
    have h0:(fy fn sl)[a]?=some (some s):=by unfold fy;rw [List.getElem?_append_left (by simpa using ha)];simp [e1]
    have hlk:locked ah a=xF (some s):=by rw [c3.lk a];unfold locked;rw [h0]
    refine ⟨F0.sl a _ _ (by simp [e1]) (by simp [e2]),hlk,fun hk=>?_⟩
    have hr:=c3.rf a (by unfold locked;rw [h0];exact hk)
    have hd:(Ev.fy fn ds)[a]?=some (some d):=by unfold Ev.fy;rw [List.getElem?_append_left (by simpa [←hlen] using ha)];simp [e2]
    rw [hd] at hr
    cases y2:ah[a]? with
    | none=>unfold locked at hlk;rw [y2] at hlk;rw [←hlk] at hk;cases hk
    | some o=>
     have sr:=c3.f.sl a _ _ y2 hr
     unfold locked at hlk
     rw [y2,hk] at hlk
     rcases o with _ | s'
     ·cases hlk
     ·cases s' with
      | val v=>cases hlk
      | own l=>cases hlk
      | bor l=>obtain ⟨m,es,e,_,k1,k2⟩:=sr;cases e;exact ⟨m,es,l,_,rfl,k1,k2,rfl,rfl⟩
      | ro l=>obtain ⟨m,es,e,_,k1,k2⟩:=sr;cases e;exact ⟨m,es,l,_,rfl,k1,k2,rfl,rfl⟩
  simp only [Ev.run,z]
  have hl':ds.length=fn.np:=by omega
  rw [if_pos hl']
  split at e
  ·rename_i v' ah y
   cases e
   obtain ⟨g',bN,M',h',S',c1,c2,c3,c4⟩:=fin y
   simp only [gY] at c2
   obtain ⟨d,rfl,c2⟩:=c2
   exact ⟨d,h',S',by simp only [Ev.endOf,c1,Ev.au],c2,c3,c4⟩
  ·rename_i ah y
   cases e
   obtain ⟨g',bN,M',h',S',c1,c2,c3,c4⟩:=fin y
   simp only [gY] at c2
   subst c2
   exact ⟨.bB,h',S',by simp only [Ev.endOf,c1,Ev.au],rfl,c3,c4⟩
  ·cases e
end Pv
namespace Pv
open Ev (D O Hh Fn)
theorem Jd {F:List Fn}{w n f:Nat}{ns:List Int}(e:run F w n f [.val (.bR (ns.map V.int))]=some (.bl true,[])):∃ h',Ev.run F w n f [.ref 0] [.bR (ns.map D.int)]=.ok (.bl true) h':=by
 have F0:bF (fun _=>False) (fun _=>False) [O.bR (ns.map D.int)] (fun m=>m=0) ([Sl.val (.bR (ns.map V.int))].map some) ([D.ref 0].map some):=by
  refine ⟨fun m q=>⟨by subst q;simp,id,id⟩,fun m q=>q.elim,fun m q=>q.elim,rfl,fun i o p y1 y2=>?_,fun i j o o' m y1 y2 y3 y4 y5 y6=>?_⟩
  ·cases i with
   | zero=>
    simp at y1 y2;subst y1 y2
    refine ⟨.ref 0,rfl,?_⟩
    simp only [Rep]
    exact ⟨0,_,rfl,rfl,rfl,ay.map (f:=V.int) (g:=D.int) (fun _=>by simp [Rep]) ns⟩
   | succ i=>simp at y1
  ·cases i with
   | zero=>simp at y1;subst y1;cases y3
   | succ i=>simp at y1
 obtain ⟨d,h',S',a,b,_,_⟩:=Bd F w n f _ _ _ e _ _ _ _ F0
 simp only [Rep] at b
 subst b
 exact ⟨h',a⟩
end Pv
namespace Pv
open Ev (D cz b7 TY BI ME T E Es Eo It S Ss Fn big deep b2i rep cH eG b5 aU cut cU eB slots)
theorem cS {n:Nat}(h:n≤100000):n≤big:=Nat.le_trans h (by decide)
section
variable {i j:Int}{a b:List Nat}{x y:List V}{d e:V}{m n:Nat}{k l:Bool}
theorem eY (h:x.length≤big):eT x=some (.lst x):=by simp [eT,h]
theorem gb (h:x.length≤big):iB x=some (.tup x):=by simp [iB,h]
@[simp] theorem kY:eT []=some (.lst []):=eY (cS (by simp))
@[simp] theorem Se:iB []=some (.tup []):=gb (cS (by simp))
@[simp] theorem Sf {a}:eT [a]=some (.lst [a]):=eY (cS (by simp))
@[simp] theorem sJ {a}:iB [a]=some (.tup [a]):=gb (cS (by simp))
@[simp] theorem Sg {a b}:eT [a,b]=some (.lst [a,b]):=eY (cS (by simp))
@[simp] theorem pL {a b}:iB [a,b]=some (.tup [a,b]):=gb (cS (by simp))
@[simp] theorem Sh {a b c}:iB [a,b,c]=some (.tup [a,b,c]):=gb (cS (by simp))
@[simp] theorem dN:bJ .add (.int i) (.int j)=some (.int (i+j)):=nd rfl
theorem gQ (h:a.length+b.length≤100000):bJ .add (.str a) (.str b)=some (.str (a++b)):=by delta bJ;dsimp only;simp [cS h]
theorem Di (h:x.length+y.length≤100000):bJ .add (.tup x) (.tup y)=some (.tup (x++y)):=by delta bJ;dsimp only;simp [cS h]
@[simp] theorem gc:bJ .sub (.int i) (.int j)=some (.int (i - j)):=nd rfl
@[simp] theorem oB:bJ .mul (.int i) (.int j)=if cH i j then some (.int (i*j)) else none:=nd rfl
theorem Dj (h0:0≤j) (h1:j≤1000) (h2:a.length≤1000):bJ .mul (.str a) (.int j)=some (.str (rep j.toNat a)):=by delta bJ;dsimp only;simp [h0,h1,h2]
@[simp] theorem Dk:bJ .fdiv (.int i) (.int j)=if 0<j∧j<1073741824 then some (.int (i / j)) else none:=nd rfl
@[simp] theorem Je:bJ .mod (.int i) (.int j)=if 0<j then some (.int (i % j)) else none:=nd rfl
@[simp] theorem MY:cop .eq d e=dG deep d e:=nd rfl
@[simp] theorem uw:cop .ne d e=(dG deep d e).map (!·):=nd rfl
@[simp] theorem aaa:cop .isin d e=isin d e:=nd rfl
@[simp] theorem XE:isin d (.tup x)=mem d x:=nd rfl
@[simp] theorem Zu:mem d []=some false:=nd rfl
@[simp] theorem mem_cons:mem d (e :: x)=(dG deep e d).bind fun b=>(mem d x).bind fun c=>some (b || c):=nd rfl
@[simp] theorem MZ:dG (n+1) (.int i) (.int j)=some (decide (i=j)):=by show some (i==j)=_;by_cases h:i=j <;> simp [h]
@[simp] theorem M4:dG (n+1) (.str a) (.str b)=some (decide (a=b)):=by show some (a==b)=_;by_cases h:a=b <;> simp [h]
@[simp] theorem aab:dG (n+1) (.str a) (.int i)=some false:=nd rfl
@[simp] theorem aac:dG (n+1) (.int i) (.str a)=some false:=nd rfl
@[simp] theorem aad:dG (n+1) (.tup x) (.tup y)=cJ (dG n) x y:=nd rfl
@[simp] theorem xO:dG deep (.int i) (.int j)=some (decide (i=j)):=MZ
@[simp] theorem xP:dG deep (.str a) (.str b)=some (decide (a=b)):=M4
@[simp] theorem Zv:dG deep (.str a) (.int i)=some false:=nd rfl
@[simp] theorem Zw:dG deep (.int i) (.str a)=some false:=nd rfl
@[simp] theorem Jf:dG deep (.tup x) (.tup y)=cJ (dG (18+1)) x y:=nd rfl
@[simp] theorem Jg:dG deep (.lst x) (.lst y)=cJ (dG (18+1)) x y:=nd rfl
@[simp] theorem Zx {f:V→V→Option Bool}:cJ f [] []=some true:=nd rfl
@[simp] theorem aae {f:V→V→Option Bool}:cJ f [] (d :: x)=some false:=nd rfl
@[simp] theorem aaf {f:V→V→Option Bool}:cJ f (d :: x) []=some false:=nd rfl
@[simp] theorem XF {f:V→V→Option Bool}:cJ f (d :: x) (e :: y)=(f d e).bind fun b=>(cJ f x y).bind fun c=>some (b&&c):=nd rfl
theorem xQ {α:Type} [DecidableEq α] {f:V→V→Option Bool}{g:α→V}(h:∀ a b,f (g a) (g b)=some (decide (a=b))):∀ l m:List α,cJ f (l.map g) (m.map g)=some (decide (l=m))
 | [],[]=>by simp
 | [],_ :: _=>by simp
 | _ :: _,[]=>by simp
 | a :: l,b :: m=>by simp [h,xQ h l m]
@[simp] theorem qH:fW (.str a) (.int i)=(b5 a i).map fun c=>.str [c]:=nd rfl
@[simp] theorem Jh:fW (.lst x) (.int i)=b5 x i:=nd rfl
@[simp] theorem gr {lo hi:Option Int}:gw (.str a) lo hi=some (.str (cut a lo hi)):=nd rfl
theorem len_str (h:a.length≤100000):dJ .len [.str a]=some (.int a.length):=by delta dJ;dsimp only;simp [cS h]
@[simp] theorem Ji:dJ .len [.lst x]=some (.int x.length):=nd rfl
@[simp] theorem xR:dJ .len [.bR x]=some (.int x.length):=nd rfl
@[simp] theorem Jj:dJ .sum [.lst x]=(intsOf x).map fun is=>.int is.sum:=nd rfl
@[simp] theorem Be:dJ .min [.int i,.int j]=some (.int (if j<i then j else i)):=nd rfl
@[simp] theorem xS:toT (.lst x)=iB x:=nd rfl
theorem M5 (h0:0≤j) (h1:j≤100000):fF [.int j]=some (range 0 j.toNat):=by
 simp only [fF];rw [if_pos ⟨by omega,by omega⟩]
theorem zc {α:Type}(g:α→Int) (l:List α):intsOf (l.map fun x=>.int (g x))=some (l.map g):=by induction l <;> simp [intsOf, *]
theorem pM {α:Type}(g:α→List Nat) (l:List α):strsOf (l.map fun x=>.str (g x))=some (l.map g):=by induction l <;> simp [strsOf, *]
theorem rY:∀ l:List (List Nat),cU [] l=l.flatten
 | []=>rfl
 | [s]=>by simp [cU]
 | s :: t :: r=>by simp [cU,rY (t :: r)]
@[simp] theorem aag:truthy (.bl k)=k:=nd rfl
@[simp] theorem Zy:truthy (.lst x) = !x.isEmpty:=nd rfl
theorem FJ {l:List (List Nat)}(h:l.flatten.length≤100000):fq .join (.str []) [.lst (l.map V.str)]=some (.str l.flatten):=by
 have hs:=pM (fun x=>x) l
 have:(l.map (·.length)).sum≤big:=cS (by rw [←List.length_flatten];exact h)
 simp only [List.map_id'] at hs
 have hs':strsOf (l.map V.str)=some l:=by simpa using pM (fun x=>x) l
 delta fq;dsimp only;simp [jV,hs',rY,this]
end
theorem mJ {α:Type}{f:V→Option (Option V)}(e:α→V) (g:α→V) (l:List α) (h:∀ a∈l,f (e a)=some (some (g a))):cV f (l.map e)=some (l.map g):=by
 induction l with
 | nil=>rfl
 | cons a l ih=>simp only [List.map_cons,cV,h a (by simp),ih fun u hu=>h u (by simp [hu]),Option.bind];rfl
theorem gf {α:Type}{f:V→Option (Option V)}(e:α→V) (p:α→Bool) (g:α→V) (l:List α) (h:∀ a∈l,f (e a)=some (if p a then some (g a) else none)):cV f (l.map e)=some ((l.filter p).map g):=by
 induction l with
 | nil=>rfl
 | cons a l ih=>
  simp only [List.map_cons,cV,h a (by simp),ih fun u hu=>h u (by simp [hu]),Option.bind]
  cases z:p a <;> simp [z]
noncomputable def Wp {α:Type}(r:R α) (Q:α→Fr→Prop):Prop:=∃ a h,r=.ok a h∧Q a h
section
variable {α β:Type}{Q Q':α→Fr→Prop}
@[simp] theorem jY (a:α) (h:Fr):Wp (.ok a h) Q=Q a h:=propext ⟨fun ⟨_,_,e,q⟩=>by cases e;exact q,fun q=>⟨_,_,rfl,q⟩⟩
@[simp] theorem aah:Wp (.bad:R α) Q=False:=propext ⟨fun q=>(by obtain ⟨_,_,e,_⟩:=q;cases e),False.elim⟩
@[simp] theorem wp_bind (r:R β) (f:β→Fr→R α):Wp (r.bind f) Q=Wp r fun a h=>Wp (f a h) Q:=by cases r <;> simp
theorem Wp.mono {r:R α}(h:Wp r Q) (f:∀ a h,Q a h→Q' a h):Wp r Q':=by
 obtain ⟨a,h',e,q⟩:=h
 exact ⟨a,h',e,f a h' q⟩
end
noncomputable def fl (I Q:Fr→Prop) (X:V→Fr→Prop):Fl→Fr→Prop
 | .nx,fr=>I fr
 | .ct,fr=>I fr
 | .bk,fr=>Q fr
 | .ret v,fr=>X v fr
section
variable {I J:Fr→Prop}{X:V→Fr→Prop}{fr:Fr}{v:V}
@[simp] theorem eV:fl I J X .nx fr=I fr:=nd rfl
end
theorem uy {f:V→Fr→R Fl}{Q:Fl→Fr→Prop}(I:List V→Fr→Prop) (turn:∀ d l fr,I (d :: l) fr→Wp (f d fr) (fl (I l) (Q .nx) fun v=>Q (.ret v))) (fin:∀ fr,I [] fr→Q .nx fr):∀ (ds:List V) (fr:Fr),I ds fr→Wp (forL f ds fr) Q
 | [],fr,i=>by simp only [forL,jY];exact fin fr i
 | d :: ds,fr,i=>by
  simp only [forL,wp_bind]
  refine (turn d ds fr i).mono fun p h2 q=>?_
  cases p with
  | nx=>exact uy I turn fin ds h2 q
  | ct=>exact uy I turn fin ds h2 q
  | bk=>exact (jY _ _).mpr q
  | ret x=>exact (jY _ _).mpr q
theorem gZ {α:Type}{e:α→V}{f:V→Fr→R Fl}{Q:Fl→Fr→Prop}(I:List α→List α→Fr→Prop) (turn:∀ p a l fr,I p (a :: l) fr→Wp (f (e a) fr) (fl (I (p++[a]) l) (Q .nx) fun v=>Q (.ret v))) (fin:∀ p fr,I p [] fr→Q .nx fr):∀ (l p:List α) (fr:Fr),I p l fr→Wp (forL f (l.map e) fr) Q
 | [],p,fr,i=>by simp only [List.map_nil,forL,jY];exact fin p fr i
 | a :: l,p,fr,i=>by
  simp only [List.map_cons,forL,wp_bind]
  refine (turn p a l fr i).mono fun g h2 q=>?_
  cases g with
  | nx=>exact gZ I turn fin l _ h2 q
  | ct=>exact gZ I turn fin l _ h2 q
  | bk=>exact (jY _ _).mpr q
  | ret x=>exact (jY _ _).mpr q
theorem Jk {f:V→Fr→R Fl}{Q:Fl→Fr→Prop}{lo:Int}{N:Nat}(I:Nat→Fr→Prop) (turn:∀ (k:Nat) fr,k<N→I k fr→Wp (f (.int (lo+(k:Nat))) fr) (fl (I (k+1)) (Q .nx) fun v=>Q (.ret v))) (fin:∀ fr,I N fr→Q .nx fr) {fr:Fr}(i:I 0 fr):Wp (forL f (range lo N) fr) Q:=by
 have h:=gZ (e:=fun (k:Nat)=>V.int (lo+k)) (f:=f) (Q:=Q) (fun p l fr=>∃ k,k≤N∧p=List.range k∧p++l=List.range N∧I k fr)
  (fun p a l fr ⟨k,hk,hp,hl,q⟩=>by
   subst hp
   have hlen:=congrArg List.length hl
   simp at hlen
   have ha:a=k:=by
    have:=congrArg (·[k]?) hl
    simp [List.getElem?_append_right] at this
    rw [List.getElem?_range (by omega)] at this
    simpa using this
   subst ha
   refine (turn a fr (by omega) q).mono fun g h2 z=>?_
   cases g with
   | nx=>exact ⟨a+1,by omega,by simp [List.range_succ],by simpa using hl,z⟩
   | ct=>exact ⟨a+1,by omega,by simp [List.range_succ],by simpa using hl,z⟩
   | bk=>exact z
   | ret x=>exact z)
  (fun p fr ⟨k,hk,hp,hl,q⟩=>by
   subst hp
   have hlen:=congrArg List.length hl
   simp at hlen
   subst hlen
   exact fin fr q) (List.range N) [] fr ⟨0,Nat.zero_le _,rfl,by simp,i⟩
 exact h
theorem pN {t:Fr→R Bool}{f:Fr→R Fl}{Q:Fl→Fr→Prop}(I:Nat→Fr→Prop) (turn:∀ k fr,I k fr→Wp (t fr) fun b ah=>if b then Wp (f ah) (fl (fun av=>∃ j,j<k∧I j av) (Q .nx) fun v=>Q (.ret v)) else Q .nx ah):∀ (n k:Nat) (fr:Fr),k<n→I k fr→Wp (ef t f n fr) Q
 | 0,k,fr,hk,_=>by omega
 | n+1,k,fr,hk,i=>by
  simp only [ef,wp_bind]
  refine (turn k fr i).mono fun b ah q=>?_
  cases b with
  | false=>simpa using q
  | true=>
   simp only [if_true,wp_bind] at q ⊢
   refine q.mono fun g av z=>?_
   cases g with
   | nx=>obtain ⟨j,hj,z⟩:=z;exact pN I turn n j av (by omega) z
   | ct=>obtain ⟨j,hj,z⟩:=z;exact pN I turn n j av (by omega) z
   | bk=>exact (jY _ _).mpr z
   | ret x=>exact (jY _ _).mpr z
noncomputable def fin (np:Nat):R Fl→Option (V×List (List V))
 | .ok (.ret v) fr=>some (v,outs np fr)
 | .ok .nx fr=>some (.bB,outs np fr)
 | _=>none
@[simp] theorem xT {np:Nat} {v:V} {fr:Fr}:fin np (.ok (.ret v) fr)=some (v,outs np fr):=nd rfl
theorem run_eq {F:List Fn}{w n f:Nat}{ds:List Sl}{fn:Fn}(hf:F[f]?=some fn) (hl:ds.length=fn.np):run F w (n+1) f ds=fin fn.np (exs (run F w n) w fn.body (fy fn ds)):=by
 simp only [run,hf,hl,if_true]
 cases exs (run F w n) w fn.body (fy fn ds) with
 | bad=>rfl
 | ok g fr=>cases g <;> rfl
theorem cB {F:List Fn}{w n f:Nat}{ds:List Sl}{fn:Fn}{v:V}{os:List (List V)}(hf:F[f]?=some fn) (hl:ds.length=fn.np) (q:Wp (exs (run F w n) w fn.body (fy fn ds)) fun g fr=>g=.ret v∧outs fn.np fr=os):run F w (n+1) f ds=some (v,os):=by
 rw [run_eq hf hl]
 obtain ⟨g,fr,e,rfl,rfl⟩:=q
 rw [e];rfl
section
variable {P:aW}{w:Nat}{fr:Fr}{k:Bool}{a b c:E}{es:Es}{ss sa sb:Ss}{st:S}{lo hi:Eo}{it:It}
@[simp] theorem XG {d:D}:ev P k (.c d) fr=R.of (ofD d) fr:=by rw [ev]
@[simp] theorem XH {i:Nat}:ev P k (.v i) fr=R.of (qD k fr i) fr:=by rw [ev]
@[simp] theorem M6:ev P k (.tup es) fr=(cF P false es fr).bind fun ds ah=>R.of (iB ds) ah:=by rw [ev]
@[simp] theorem M7:ev P k (.lst es) fr=(cF P false es fr).bind fun ds ah=>R.of (eT ds) ah:=by rw [ev]
@[simp] theorem M8 {o:cz}:ev P k (.bin o a b) fr=(ev P (kf a (bK b)) a fr).bind fun x ah=>(ev P true b ah).bind fun y av=>R.of (bJ o x y) av:=by rw [ev]
@[simp] theorem M9 {o:b7}:ev P k (.cmp o a b) fr=(ev P (kf a (bK b)) a fr).bind fun x ah=>(ev P true b ah).bind fun y av=>R.of ((cop o x y).map .bl) av:=by rw [ev]
noncomputable def ntD:V→Fr→R V:=fun x h1=>match x with
 | .bl b=>.ok (.bl (!b)) h1
 | _=>.bad
@[simp] theorem Si:ev P k (.nt a) fr=(ev P true a fr).bind ntD:=by rw [ev];rfl
noncomputable def XI:V→Fr→R V:=fun x h1=>match x with
 | .int i=>.ok (.int (-i)) h1
 | _=>.bad
@[simp] theorem Na:ev P k (.neg a) fr=(ev P true a fr).bind XI:=by rw [ev];rfl
noncomputable def U0 (r:Fr→R V):V→Fr→R V:=fun x h1=>match x with
 | .bl true=>r h1
 | .bl false=>.ok (.bl false) h1
 | _=>.bad
@[simp] theorem Nb {k:Bool} {r:Fr→R V}:U0 r (.bl k) fr=if k then r fr else .ok (.bl false) fr:=by cases k <;> rfl
@[simp] theorem Sj:ev P k (.an a b) fr=(ev P true a fr).bind (U0 fun h1=>ev P k b h1):=by rw [ev];rfl
@[simp] theorem Nc:ev P k (.lK a b c) fr=(aN P a fr).bind fun t ah=>if t then ev P k b ah else ev P k c ah:=by rw [ev]
@[simp] theorem Sk:ev P k (.ix a b) fr=(ev P (kf a (bK b)) a fr).bind fun x ah=>(ev P true b ah).bind fun y av=>R.of (fW x y) av:=by rw [ev]
@[simp] theorem Sn:ev P k (.sl a lo hi) fr=(ev P (kf a (j9 lo++j9 hi)) a fr).bind fun x ah=>(fQ P lo ah).bind fun l av=>(fQ P hi av).bind fun u cL=>R.of (gw x l u) cL:=by rw [ev]
theorem Nd:ev P k (.lM a) fr=(ev P true a fr).bind fun x ah=>R.of (qC x) ah:=by rw [ev]
@[simp] theorem So {f:Nat}:ev P k (.cl f es) fr=(fS P es fr).bind fun as ah=>dW P f as ah:=by rw [ev]
@[simp] theorem Sq {g:BI}:ev P k (.bi g es) fr=(cF P true es fr).bind fun ds ah=>R.of (dJ g ds) ah:=by rw [ev]
noncomputable def Dl (m:ME) (i:Nat):List V→Fr→R V:=fun ds ah=>match ah[i]? with
 | some (some (.own l))=>match jW m l ds with
  | some (v,l')=>.ok v (ah.set i (some (.own l')))
  | none=>.bad
 | some (some (.bor l))=>match jW m l ds with
  | some (v,l')=>.ok v (ah.set i (some (.bor l')))
  | none=>.bad
 | _=>.bad
theorem Nf {m:ME}{i:Nat}(hm:iV m=true):ev P k (.me m (.v i) es) fr=if (lent fr i).isSome then (cF P (AU m) es fr).bind (Dl m i) else .bad:=by
 rw [ev,if_pos hm]
 unfold kC
 cases z:(lent fr i).isSome <;> simp [z] <;> rfl
theorem Ng {m:ME}(hm:iV m=false):ev P k (.me m a es) fr=(ev P (kf a (fY es)) a fr).bind fun x ah=>(cF P true es ah).bind fun ds av=>R.of (fq m x ds) av:=by rw [ev,hm];rfl
@[simp] theorem Nh {ts:List TY}:ev P k (.lN a ts) fr=(ev P true a fr).bind fun x ah=>.ok (.bl (ts.any (dw x))) ah:=by rw [ev]
noncomputable def jt (P:aW) (elt:E) (t:T) (cond:Eo) (fr:Fr):V→Option (Option V):=fun d=>match cy t d (nP fr) with
 | none=>none
 | some av=>match iw P cond av with
  | .ok c _=>if c then (match ev P false elt av with | .ok x _=>some (some x) | .bad=>none) else some none
  | .bad=>none
@[simp] theorem qt {elt:E} {t:T} {cond:Eo}:ev P k (.comp elt t it cond) fr=(cO P true it fr).bind fun s ah=>if undef t ah then R.of ((cV (jt P elt t cond ah) s).bind eT) ah else .bad:=by rw [ev];rfl
@[simp] theorem Ni:ev P k (.iL it) fr=(cO P true it fr).bind fun s ah=>R.of (eT s) ah:=by rw [ev]
@[simp] theorem Jl {kvs:List (D×D)}:ev P k (.ji kvs a) fr=(ev P true a fr).bind fun x ah=>R.of (eU x kvs) ah:=by rw [ev]
@[simp] theorem Nj:ev P k (.gv a) fr=(ev P true a fr).bind fun x ah=>R.of (toT x) ah:=by rw [ev]
@[simp] theorem Jm:cF P k .nil fr=.ok [] fr:=by rw [cF]
@[simp] theorem Dm:cF P k (.cons a es) fr=(ev P (k&&kf a (fY es)) a fr).bind fun d ah=>(cF P k es ah).bind fun ds av=>.ok (d :: ds) av:=by rw [cF]
@[simp] theorem Jo:fS P .nil fr=.ok [] fr:=by rw [fS]
noncomputable def zd (P:aW) (a:E) (es:Es) (fr:Fr):Option Nat→R (List (Nat ⊕ V))
 | some i=>(fS P es fr).bind fun r ah=>.ok (.inl i :: r) ah
 | none=>(ev P false a fr).bind fun d ah=>(fS P es ah).bind fun r av=>.ok (.inr d :: r) av
@[simp] theorem ze {i:Nat}:zd P a es fr (some i)=(fS P es fr).bind fun r ah=>.ok (.inl i :: r) ah:=nd rfl
@[simp] theorem zf:zd P a es fr none=(ev P false a fr).bind fun d ah=>(fS P es ah).bind fun r av=>.ok (.inr d :: r) av:=nd rfl
@[simp] theorem uz:fS P (.cons a es) fr=zd P a es fr (kC fr a):=by rw [fS];cases kC fr a <;> rfl
@[simp] theorem Nk:fQ P .no fr=.ok none fr:=by rw [fQ]
@[simp] theorem Jp:fQ P (.yes a) fr=(ev P true a fr).bind fun d ah=>R.of ((intOf d).map some) ah:=by rw [fQ]
@[simp] theorem Nl:iw P .no fr=.ok true fr:=by rw [iw]
@[simp] theorem Jq:iw P (.yes a) fr=aN P a fr:=by rw [iw]
@[simp] theorem uC:aN P (.an a b) fr=(aN P a fr).bind fun k ah=>if k then aN P b ah else .ok false ah:=by rw [aN]
@[simp] theorem xU:aN P (.orr a b) fr=(aN P a fr).bind fun k ah=>if k then .ok true ah else aN P b ah:=by rw [aN]
@[simp] theorem Nm:aN P (.nt a) fr=(aN P a fr).bind fun k ah=>.ok (!k) ah:=by rw [aN]
noncomputable def Nn:V→Fr→R Bool:=fun x ah=>.ok (truthy x) ah
@[simp] theorem Jr {x:V}:Nn x fr=.ok (truthy x) fr:=nd rfl
@[simp] theorem Js:cO P k (.seq a) fr=(src k fr a (ev P k a fr)).bind fun x ah=>R.of (gq x) ah:=by rw [cO]
@[simp] theorem Jt:cO P k (.jb es) fr=(cF P true es fr).bind fun ds ah=>R.of (fF ds) ah:=by rw [cO]
@[simp] theorem Ju:cO P k (.zip a b) fr=(src (k&&kf a (bK b)) fr a (ev P (k&&kf a (bK b)) a fr)).bind fun x ah=>(src k ah b (ev P k b ah)).bind fun y av=>R.of ((jV x).bind fun s=>(jV y).map fun t=>eW s t) av:=by rw [cO]
@[simp] theorem Jv:cO P k (.rev a) fr=(ev P true a fr).bind fun x ah=>R.of ((yZ x).map fun s=>s.reverse) ah:=by rw [cO]
noncomputable def Np (i:Nat) (ah:Fr):V→R Fl
 | .lst l=>(R.of (put ah i (.own l)) ah).bind fun av _=>.ok .nx av
 | _=>.bad
@[simp] theorem Dn {i:Nat} {l:List V}:Np i fr (.lst l)=(R.of (put fr i (.own l)) fr).bind fun av _=>.ok .nx av:=nd rfl
@[simp] theorem Bf {i:Nat}:ex P w (.set i a) fr=(ev P false a fr).bind fun x ah=>if isNew a then Np i ah x else (R.of (put ah i (.val x)) ah).bind fun av _=>.ok .nx av:=by
 rw [ex];rfl
@[simp] theorem Jw {l:List Nat}:ex P w (.kT l a) fr=(ev P false a fr).bind fun x ah=>(R.of (cy (.many l) x ah) ah).bind fun av _=>.ok .nx av:=by rw [ex]
@[simp] theorem Nq:ex P w (.exp a) fr=(ev P true a fr).bind fun _ ah=>.ok .nx ah:=by rw [ex]
@[simp] theorem Nr:ex P w (.ret a) fr=(ev P false a (fR fr)).bind fun x ah=>.ok (.ret x) ah:=by rw [ex]
@[simp] theorem Nt:ex P w (.iff a sa sb) fr=(aN P a fr).bind fun k ah=>if k then exs P w sa ah else exs P w sb ah:=by rw [ex]
@[simp] theorem Nu:ex P w .cnt fr=.ok .ct fr:=by rw [ex]
noncomputable def turnF (P:aW) (w:Nat) (t:T) (b:Ss):V→Fr→R Fl:=fun d av=>match cy t d av with
 | some cL=>exs P w b cL
 | none=>.bad
@[simp] theorem tT {t:T}:ex P w (.for t it ss) fr=(cO P false it (sH (itv it) fr)).bind fun s ah=>forL (turnF P w t ss) s ah:=by rw [ex];rfl
@[simp] theorem Nv:ex P w (.lZ a ss) fr=ef (fun av=>aN P a av) (fun av=>exs P w ss av) w fr:=by rw [ex]
@[simp] theorem Jx:exs P w .nil fr=.ok .nx fr:=by rw [exs]
noncomputable def Su (P:aW) (w:Nat) (ss:Ss):Fl→Fr→R Fl:=fun p h1=>match p with
 | .nx=>exs P w ss h1
 | p=>.ok p h1
@[simp] theorem Dp:exs P w (.cons st ss) fr=(ex P w st fr).bind (Su P w ss):=by rw [exs];rfl
end
theorem mK {P:aW}{f:Nat}{vs:List V}{fr:Fr}{v:V}(h:P f (vs.map .val)=some (v,[])):dW P f (vs.map .inr) fr=.ok v fr:=by
 have h1:∀ vs:List V,bU (vs.map .inr)=[]:=fun vs=>by induction vs <;> simp [bU, *]
 have h2:∀ vs:List V,args fr (vs.map .inr)=some (vs.map .val):=fun vs=>by induction vs <;> simp [args, *]
 simp [dW,h1,h2,h,back]
section
variable {P:aW}{f:Nat}{fr:Fr}{a b c d v:V}
theorem bV (h:P f [.val a]=some (v,[])):dW P f [.inr a] fr=.ok v fr:=mK (vs:=[a]) h
theorem call2 (h:P f [.val a,.val b]=some (v,[])):dW P f [.inr a,.inr b] fr=.ok v fr:=mK (vs:=[a,b]) h
theorem eE (h:P f [.val a,.val b,.val c]=some (v,[])):dW P f [.inr a,.inr b,.inr c] fr=.ok v fr:=mK (vs:=[a,b,c]) h
end
end Pv
namespace Pv
open Ev (D cz b7 TY BI ME T E Es Eo It S Ss Fn big deep b2i rep cH eG b5 aU cut cU eB slots)
section
variable {fr:Fr}{i j:Nat}{k:Bool}{s:Sl}{v u:V}{l:List V}{o:Option Sl}
noncomputable def slV (k:Bool):Option (Option Sl)→Option V
 | some (some (.val v))=>some v
 | some (some (.own l))=>if k then some (.lst l) else none
 | some (some (.bor l))=>if k then some (.lst l) else none
 | some (some (.ro l))=>if k then some (.lst l) else none
 | _=>none
@[simp] theorem Sv {r:R V}:src k fr (.v i) r=R.of (y9 k fr i) fr:=nd rfl
noncomputable def Nx:Option (Option Sl)→Option Sl
 | some (some s)=>s.lend
 | _=>none
@[simp] theorem Jy:lent fr i=Nx fr[i]?:=by unfold lent Nx;split <;> simp_all
@[simp] theorem Zz:Nx (some (some (.own l)))=some (.bor l):=nd rfl
noncomputable def Ny (fr:Fr) (i:Nat) (s:Sl):Option (Option Sl)→Option Fr
 | some (some (.bor _))=>none
 | some (some (.ro _))=>none
 | _=>some (fr.set i (some s))
@[simp] theorem Nz:put fr i s=Ny fr i s fr[i]?:=by unfold put Ny;split <;> simp_all
@[simp] theorem zg {l:List Nat} {x:List V}:cy (.many l) (.tup x) fr=cR l x fr:=nd rfl
@[simp] theorem zh:cR [] [] fr=some fr:=nd rfl
@[simp] theorem vU {l:List Nat} {x:List V}:cR (i :: l) (v :: x) fr=(put fr i (.val v)).bind (cR l x):=nd rfl
noncomputable def fU (m:ME) (i:Nat) (ds:List V) (fr:Fr):Option (Option Sl)→R V
 | some (some (.own l))=>match jW m l ds with
  | some (v,l')=>.ok v (fr.set i (some (.own l')))
  | none=>.bad
 | some (some (.bor l))=>match jW m l ds with
  | some (v,l')=>.ok v (fr.set i (some (.bor l')))
  | none=>.bad
 | _=>.bad
@[simp] theorem Jz {m:ME} {ds:List V}:Dl m i ds fr=fU m i ds fr fr[i]?:=by unfold Dl fU;split <;> simp_all <;> rfl
theorem iP {d:V}(h:l.length<100000):fU .append i [d] fr (some (some (.own l)))=.ok .bB (fr.set i (some (.own (l++[d])))):=by
 simp [fU,jW,Nat.lt_of_lt_of_le h (show 100000≤big by decide)]
theorem JB {d:V}(h:l.length<100000):fU .append i [d] fr (some (some (.bor l)))=.ok .bB (fr.set i (some (.bor (l++[d])))):=by
 simp [fU,jW,Nat.lt_of_lt_of_le h (show 100000≤big by decide)]
theorem xV {d:List V}(h:l.length+d.length≤100000):fU .extend i [.lst d] fr (some (some (.own l)))=.ok .bB (fr.set i (some (.own (l++d)))):=by
 simp [fU,jW,cS h]
theorem qI:fU .pop i [] fr (some (some (.own (l++[v]))))=.ok v (fr.set i (some (.own l))):=by
 simp [fU,jW]
theorem JD:fU .pop i [] fr (some (some (.bor (l++[v]))))=.ok v (fr.set i (some (.bor l))):=by
 simp [fU,jW]
end
noncomputable def vo (o:Option Sl):Prop:=o=none∨∃ y,o=some (.val y)
theorem vo.none:vo none:=.inl rfl
theorem vo.val {v:V}:vo (some (.val v)):=.inr ⟨v,rfl⟩
theorem NB {fr:Fr}{i:Nat}{s:Sl}{b:Option Sl}(h:vo b):Ny fr i s (some b)=some (fr.set i (some s)):=by rcases h with rfl | ⟨y,rfl⟩ <;> rfl
theorem d9 {b:Option Sl}(h:vo b):b.map Sl.fX=b:=by rcases h with rfl | ⟨y,rfl⟩ <;> rfl
noncomputable def Sw (f:V→Fr→R Fl) (ds:List V):Fl→Fr→R Fl:=fun p ah=>match p with
 | .nx=>forL f ds ah
 | .ct=>forL f ds ah
 | .bk=>.ok .nx ah
 | .ret x=>.ok (.ret x) ah
section
variable {f:V→Fr→R Fl}{ds:List V}{d x:V}{fr:Fr}
@[simp] theorem rK:forL f (d :: ds) fr=(f d fr).bind (Sw f ds):=nd rfl
end
section
variable {a b c:E}{es:Es}{lo hi:Eo}{it:It}{l:List Nat}
end
theorem uD {α:Type}{l:List α}{i:Int}(h0:0≤i):b5 l i=l[i.toNat]?:=by
 unfold b5 eG
 rw [if_pos h0]
 split
 ·rfl
 ·rw [List.getElem?_eq_none (by omega)];rfl
@[simp] theorem wQ {α:Type} {l:List α} {n:Nat}:b5 l (n:Int)=l[n]?:=by rw [uD (by omega)];simp
theorem NC {α:Type}{l:List α}:b5 l (-1:Int)=l.getLast?:=by
 unfold b5 eG
 cases l with
 | nil=>rfl
 | cons a l=>
  have h1:¬ (0:Int)≤-1:=by omega
  have h2:-(((a :: l).length:Nat):Int)≤-1:=by simp;omega
  rw [if_neg h1,if_pos h2,List.getLast?_eq_getElem?]
  simp only [Option.bind]
  congr 1
  simp;omega
noncomputable def sL:Fn:=⟨2,2,(.cons (.iff (.cmp .eq (.v 0) (.lst .nil)) (.cons (.ret (.bin .mul (.c (.int 7)) (.v 1))) .nil) .nil) (.cons (.ret (.bin .add (.ix (.v 0) (.bin .mod (.v 1) (.bi .len (.cons (.v 0) .nil)))) (.bin .mul (.c (.int 6553)) (.bin .fdiv (.v 1) (.bi .len (.cons (.v 0) .nil)))))) .nil))⟩
noncomputable def uE (c:Nat):Fn:=⟨3,4,(.cons (.set 3 (.bin .mod (.bin .add (.bin .mul (.bin .mod (.cl c (.cons (.v 0) (.cons (.v 1) .nil))) (.c (.int 2147483563))) (.c (.int 69069))) (.bin .mul (.c (.int 104723)) (.bin .add (.v 1) (.c (.int 1))))) (.c (.int 2147483563)))) (.cons (.set 3 (.bin .mod (.bin .add (.bin .mul (.v 3) (.v 3)) (.bin .fdiv (.v 3) (.c (.int 3)))) (.c (.int 2147483399)))) (.cons (.ret (.bin .mod (.bin .fdiv (.bin .mod (.bin .add (.bin .mul (.v 3) (.v 3)) (.bin .fdiv (.v 3) (.c (.int 7)))) (.c (.int 2147483647))) (.c (.int 11))) (.v 2))) .nil)))⟩
noncomputable def sM (ns:List Int) (k:Int):Int:=if ns=[] then 7*k else (ns[(k % ns.length).toNat]?.getD 0)+6553*(k / ns.length)
noncomputable def cT (ns:List Int) (k many:Int):Int:=
 let c:=(sM ns k % 2147483563*69069+104723*(k+1)) % 2147483563
 let c:=(c*c+c / 3) % 2147483399
 (c*c+c / 7) % 2147483647 / 11 % many
theorem jK (ns:List Int) (k:Int) {many:Int}(h:0<many):0≤cT ns k many:=Int.emod_nonneg _ (by omega)
theorem jL (ns:List Int) (k:Int) {many:Int}(h:0<many):cT ns k many<many:=Int.emod_lt_of_pos _ h
noncomputable def g6 (ns:List Int):V:=.bR (ns.map V.int)
theorem JF (ns:List Int):cJ (dG (18+1)) (ns.map V.int) []=some (decide (ns=[])):=by cases ns <;> simp
end Pv
namespace Pv
open Ev (D cz b7 TY BI ME T E Es Eo It S Ss Fn big deep b2i rep cH eG b5 aU cut cU eB slots)
section
variable {P:aW}{w:Nat}{fr ah av cL jm:Fr}{k b:Bool}{a e c:E}{es:Es}{ss sa sb:Ss}{st:S}{lo hi:Eo}{it:It}{v x y z:V}{vs:List V}{i:Nat}{l:List V}{Q:Fl→Fr→Prop}
theorem bW {d:D}(h:ofD d=some v):ev P k (.c d) fr=.ok v fr:=by rw [XG,h];rfl
theorem aB (h:qD k fr i=some v):ev P k (.v i) fr=.ok v fr:=by rw [XH,h];rfl
theorem jZ (h:cF P false es fr=.ok vs ah) (h2:iB vs=some v):ev P k (.tup es) fr=.ok v ah:=by rw [M6,h,au,h2];rfl
theorem pO (h:cF P false es fr=.ok vs ah) (h2:eT vs=some v):ev P k (.lst es) fr=.ok v ah:=by rw [M7,h,au,h2];rfl
theorem bI {o:cz}(h:ev P (kf a (bK e)) a fr=.ok x ah) (h2:ev P true e ah=.ok y av) (h3:bJ o x y=some v):ev P k (.bin o a e) fr=.ok v av:=by rw [M8,h,au,h2,au,h3];rfl
theorem bO {o:b7}(h:ev P (kf a (bK e)) a fr=.ok x ah) (h2:ev P true e ah=.ok y av) (h3:cop o x y=some b):ev P k (.cmp o a e) fr=.ok (.bl b) av:=by rw [M9,h,au,h2,au,h3];rfl
theorem XJ (h:ev P true a fr=.ok (.bl b) ah):ev P k (.nt a) fr=.ok (.bl (!b)) ah:=by rw [Si,h];rfl
theorem Sx {j:Int}(h:ev P true a fr=.ok (.int j) ah):ev P k (.neg a) fr=.ok (.int (-j)) ah:=by rw [Na,h];rfl
theorem Sy (h:ev P true a fr=.ok (.bl true) ah) (h2:ev P k e ah=.ok v av):ev P k (.an a e) fr=.ok v av:=by rw [Sj,h,au,Nb];exact h2
theorem FL (h:aN P a fr=.ok b ah) (h2:b=true→ev P k e ah=.ok v av) (h3:b=false→ev P k c ah=.ok v av):ev P k (.lK a e c) fr=.ok v av:=by
 rw [Nc,h,au]
 cases b with
 | true=>exact h2 rfl
 | false=>exact h3 rfl
theorem gA (h:ev P (kf a (bK e)) a fr=.ok x ah) (h2:ev P true e ah=.ok y av) (h3:fW x y=some v):ev P k (.ix a e) fr=.ok v av:=by rw [Sk,h,au,h2,au,h3];rfl
theorem oE {p q:Option Int}(h:ev P (kf a (j9 lo++j9 hi)) a fr=.ok x ah) (h2:fQ P lo ah=.ok p av) (h3:fQ P hi av=.ok q cL) (h4:gw x p q=some v):ev P k (.sl a lo hi) fr=.ok v cL:=by rw [Sn,h,au,h2,au,h3,au,h4];rfl
theorem Sz (h:ev P true a fr=.ok x ah) (h2:qC x=some v):ev P k (.lM a) fr=.ok v ah:=by rw [Nd,h,au,h2];rfl
theorem aT {f:Nat}{as:List (Nat ⊕ V)}(h:fS P es fr=.ok as ah) (h2:dW P f as ah=.ok v av):ev P k (.cl f es) fr=.ok v av:=by rw [So,h,au];exact h2
theorem jk {g:BI}(h:cF P true es fr=.ok vs ah) (h2:dJ g vs=some v):ev P k (.bi g es) fr=.ok v ah:=by rw [Sq,h,au,h2];rfl
theorem SA {m:ME}(hm:iV m=true) (hl:(lent fr i).isSome=true) (h:cF P (AU m) es fr=.ok vs ah) (h2:fU m i vs ah ah[i]?=.ok v av):ev P k (.me m (.v i) es) fr=.ok v av:=by
 rw [Nf hm,if_pos hl,h,au,Jz];exact h2
theorem FO {m:ME}(hm:iV m=false) (h:ev P (kf a (fY es)) a fr=.ok x ah) (h2:cF P true es ah=.ok vs av) (h3:fq m x vs=some v):ev P k (.me m a es) fr=.ok v av:=by rw [Ng hm,h,au,h2,au,h3];rfl
theorem SD {ts:List TY}(h:ev P true a fr=.ok x ah) (h2:ts.any (dw x)=b):ev P k (.lN a ts) fr=.ok (.bl b) ah:=by rw [Nh,h,au,h2]
theorem jd {t:T}{cond:Eo}(h:cO P true it fr=.ok vs ah) (hu:undef t ah=true) (h2:cV (jt P a t cond ah) vs=some l) (h3:eT l=some v):ev P k (.comp a t it cond) fr=.ok v ah:=by
 rw [qt,h,au,if_pos hu,h2]
 show R.of (eT l) ah=_
 rw [h3];rfl
theorem sN (h:cO P true it fr=.ok vs ah) (h2:eT vs=some v):ev P k (.iL it) fr=.ok v ah:=by rw [Ni,h,au,h2];rfl
theorem Bg {kvs:List (D×D)}(h:ev P true a fr=.ok x ah) (h2:eU x kvs=some v):ev P k (.ji kvs a) fr=.ok v ah:=by rw [Jl,h,au,h2];rfl
theorem kZ (h:ev P true a fr=.ok x ah) (h2:toT x=some v):ev P k (.gv a) fr=.ok v ah:=by rw [Nj,h,au,h2];rfl
theorem cG:cF P k .nil fr=.ok [] fr:=Jm
theorem bT (h:ev P (k&&kf a (fY es)) a fr=.ok v ah) (h2:cF P k es ah=.ok vs av):cF P k (.cons a es) fr=.ok (v :: vs) av:=by rw [Dm,h,au,h2];rfl
theorem aG:fS P .nil fr=.ok [] fr:=Jo
theorem aI {as:List (Nat ⊕ V)}(hi:kC fr a=none) (h:ev P false a fr=.ok v ah) (h2:fS P es ah=.ok as av):fS P (.cons a es) fr=.ok (.inr v :: as) av:=by rw [uz,hi,zf,h,au,h2];rfl
theorem XM {as:List (Nat ⊕ V)}(hi:kC fr a=some i) (h2:fS P es fr=.ok as av):fS P (.cons a es) fr=.ok (.inl i :: as) av:=by rw [uz,hi,ze,h2];rfl
theorem nc:fQ P .no fr=.ok none fr:=Nk
theorem je {j:Int}(h:ev P true a fr=.ok (.int j) ah):fQ P (.yes a) fr=.ok (some j) ah:=by rw [Jp,h];rfl
theorem SE {b2:Bool}(h:aN P a fr=.ok b ah) (h2:b=true→aN P e ah=.ok b2 av) (h3:b=false→false=b2∧ah=av):aN P (.an a e) fr=.ok b2 av:=by
 rw [uC,h,au]
 cases b with
 | true=>exact h2 rfl
 | false=>obtain ⟨rfl,rfl⟩:=h3 rfl;rfl
theorem pP (h:aN P a fr=.ok false ah):aN P (.an a e) fr=.ok false ah:=by rw [uC,h];rfl
theorem gg {b2:Bool}(h:aN P a fr=.ok true ah) (h2:aN P e ah=.ok b2 av):aN P (.an a e) fr=.ok b2 av:=by rw [uC,h];exact h2
theorem pQ (h:aN P a fr=.ok true ah):aN P (.orr a e) fr=.ok true ah:=by rw [xU,h];rfl
theorem er {b2:Bool}(h:aN P a fr=.ok false ah) (h2:aN P e ah=.ok b2 av):aN P (.orr a e) fr=.ok b2 av:=by rw [xU,h];exact h2
theorem zj (h:aN P a fr=.ok b ah):aN P (.nt a) fr=.ok (!b) ah:=by rw [Nm,h];rfl
noncomputable def plainT:E→Bool
 | .an _ _=>false
 | .orr _ _=>false
 | .nt _=>false
 | _=>true
theorem aH (hp:plainT a=true) (h:ev P true a fr=.ok x ah) (h2:truthy x=b):aN P a fr=.ok b ah:=by
 have:aN P a fr=(ev P true a fr).bind Nn:=by
  cases a <;> first | (cases hp;done) | (rw [aN];rfl;all_goals (intros;contradiction))
 rw [this,h,au,Jr,h2]
theorem eK (h:src k fr a (ev P k a fr)=.ok x ah) (h2:gq x=some vs):cO P k (.seq a) fr=.ok vs ah:=by rw [Js,h,au,h2];rfl
theorem eZ (h:y9 k fr i=some v) {r:R V}:src k fr (.v i) r=.ok v fr:=by rw [Sv,h];rfl
theorem Bh (h:cF P true es fr=.ok vs ah) (h2:fF vs=some l):cO P k (.jb es) fr=.ok l ah:=by rw [Jt,h,au,h2];rfl
theorem uF (h:ev P true a fr=.ok x ah) (h2:yZ x=some vs):cO P k (.rev a) fr=.ok vs.reverse ah:=by rw [Jv,h,au,h2];rfl
theorem aY (h:ev P false a fr=.ok v ah) (hn:isNew a=false) (hp:put ah i (.val v)=some av) (q:Q .nx av):Wp (ex P w (.set i a) fr) Q:=by
 rw [Bf,h,au,hn,hp];exact ⟨_,_,rfl,q⟩
theorem iD (h:ev P false a fr=.ok (.lst l) ah) (hn:isNew a=true) (hp:put ah i (.own l)=some av) (q:Q .nx av):Wp (ex P w (.set i a) fr) Q:=by
 rw [Bf,h,au,hn,if_pos rfl,Dn,hp];exact ⟨_,_,rfl,q⟩
theorem ND {is:List Nat}(h:ev P false a fr=.ok v ah) (hp:cy (.many is) v ah=some av) (q:Q .nx av):Wp (ex P w (.kT is a) fr) Q:=by
 rw [Jw,h,au,hp];exact ⟨_,_,rfl,q⟩
theorem fH (h:ev P true a fr=.ok v ah) (q:Q .nx ah):Wp (ex P w (.exp a) fr) Q:=by rw [Nq,h];exact ⟨_,_,rfl,q⟩
theorem bP (h:ev P false a (fR fr)=.ok v ah) (q:Q (.ret v) ah):Wp (ex P w (.ret a) fr) Q:=by rw [Nr,h];exact ⟨_,_,rfl,q⟩
theorem aQ (h:aN P a fr=.ok b ah) (h2:b=true→Wp (exs P w sa ah) Q) (h3:b=false→Wp (exs P w sb ah) Q):Wp (ex P w (.iff a sa sb) fr) Q:=by
 rw [Nt,h,au]
 cases b with
 | true=>exact h2 rfl
 | false=>exact h3 rfl
theorem aD (q:Q .nx fr):Wp (exs P w .nil fr) Q:=by rw [Jx];exact ⟨_,_,rfl,q⟩
noncomputable def nx (P:aW) (w:Nat) (ss:Ss) (Q:Fl→Fr→Prop):Fl→Fr→Prop
 | .nx,fr=>Wp (exs P w ss fr) Q
 | g,fr=>Q g fr
theorem ai (q:Wp (ex P w st fr) (nx P w ss Q)):Wp (exs P w (.cons st ss) fr) Q:=by
 rw [Dp,wp_bind]
 refine q.mono fun g ah z=>?_
 cases g with
 | nx=>exact z
 | bk=>exact ⟨_,_,rfl,z⟩
 | ct=>exact ⟨_,_,rfl,z⟩
 | ret v=>exact ⟨_,_,rfl,z⟩
theorem ju {t:T}(h:cO P false it (sH (itv it) fr)=.ok vs ah) (q:Wp (forL (turnF P w t ss) vs ah) Q):Wp (ex P w (.for t it ss) fr) Q:=by rw [tT,h,au];exact q
theorem FP (q:Wp (ef (fun av=>aN P a av) (fun av=>exs P w ss av) w fr) Q):Wp (ex P w (.lZ a ss) fr) Q:=by rw [Nv];exact q
theorem dR {t:T}{d:V}(hb:cy t d fr=some ah) (q:Wp (exs P w ss ah) Q):Wp (turnF P w t ss d fr) Q:=by unfold turnF;rw [hb];exact q
theorem uG {t:T}{d:V}(hb:cy t d (nP fr)=some ah) (h:ev P false a ah=.ok v av):jt P a t .no fr d=some (some v):=by
 unfold jt;rw [hb];dsimp only;rw [Nl];dsimp only;rw [h];rfl
theorem kG {t:T}{d:V}(hb:cy t d (nP fr)=some ah) (h:aN P c ah=.ok b av) (h2:b=true→ev P false a ah=.ok v cL):jt P a t (.yes c) fr d=some (if b then some v else none):=by
 unfold jt;rw [hb];dsimp only;rw [Jq,h];dsimp only
 cases b with
 | true=>rw [h2 rfl];rfl
 | false=>rfl
theorem oF {p q:List Nat}:cop .eq (.str p) (.str q)=some (decide (p=q)):=xP
theorem gO {p q:List Nat}:cop .ne (.str p) (.str q)=some (!decide (p=q)):=by rw [uw,xP];rfl
theorem NF {p q:Int}:cop .eq (.int p) (.int q)=some (decide (p=q)):=xO
theorem zk {p q:Int}:cop .ne (.int p) (.int q)=some (!decide (p=q)):=by rw [uw,xO];rfl
theorem NG {p q:Int}:cop .lt (.int p) (.int q)=some (decide (p<q)):=rfl
theorem qJ {p q:Int}:cop .gt (.int p) (.int q)=some (decide (q<p)):=rfl
theorem ng {p q:Int}(h:cH p q=true):bJ .mul (.int p) (.int q)=some (.int (p*q)):=by rw [oB,if_pos h]
theorem nh {p q:Int}(h:0<q):bJ .mod (.int p) (.int q)=some (.int (p % q)):=by rw [Je,if_pos h]
theorem sO {p q:Int}(h:0<q) (h2:q<1073741824):bJ .fdiv (.int p) (.int q)=some (.int (p / q)):=by rw [Dk,if_pos ⟨h,h2⟩]
end
theorem jM {fr:Fr}{i:Nat}{s:Sl}{o:Option Sl}(e:fr[i]?=some o) (h:vo o):put fr i s=some (fr.set i (some s)):=by rw [Nz,e,NB h]
theorem lg {fr:Fr}{i j:Nat}{u v:V}{a b:Option Sl}(ea:fr[i]?=some a) (ha:vo a) (eb:(fr.set i (some (.val u)))[j]?=some b) (hb:vo b):cy (.many [i,j]) (.tup [u,v]) fr=some ((fr.set i (some (.val u))).set j (some (.val v))):=by
 simp only [zg,vU,zh,jM ea ha,Option.bind,jM eb hb]
theorem bind1 {fr:Fr}{i:Nat}{v:V}{a:Option Sl}(ea:fr[i]?=some a) (ha:vo a):cy (.one i) v fr=some (fr.set i (some (.val v))):=jM ea ha
end Pv
local macro_rules | `(tactic| array_get_dec)=>`(tactic| first
 | exact Pv.cG | exact Pv.aG | exact Pv.nc
 | (apply Pv.aB;rfl) | (apply Pv.bW;rfl) | apply Pv.bI | apply Pv.bO | apply Pv.jZ | apply Pv.pO | apply Pv.gA | apply Pv.oE | apply Pv.aT | apply Pv.jk
 | apply Pv.XJ | apply Pv.Sx | apply Pv.kZ | apply Pv.sN  | (apply Pv.SA rfl rfl) | (apply Pv.FO rfl) | apply Pv.Bg
 | apply Pv.bT | (apply Pv.aI rfl) | (apply Pv.XM rfl) | apply Pv.je | apply Pv.zj | apply Pv.aH rfl
 | exact Pv.Se | exact Pv.sJ | exact Pv.pL | exact Pv.Sh | exact Pv.kY | exact Pv.Sf | exact Pv.Sg
 | (with_reducible assumption) | exact Pv.dN | exact Pv.gc | exact Pv.oF | exact Pv.gO | exact Pv.NF | exact Pv.zk | exact Pv.NG  | exact Pv.qJ
 | (show Pv.truthy _=_;rfl) | (show Pv.fW _ _=some _;rfl) | (show Pv.toT _=some _;rfl) | (show Pv.eU _ _=some _;rfl) | (show Pv.gq _=some _;rfl) | assumption)
namespace Pv
open Ev (D cz b7 TY BI ME T E Es Eo It S Ss Fn big deep b2i rep cH eG b5 aU cut cU eB slots)
theorem NH (a b:Int):cH (a % 2147483563) b=true:=by have h1:=Int.emod_nonneg a (b:=2147483563) (by decide);have h2:=Int.emod_lt_of_pos a (b:=2147483563) (by decide);simp [cH];omega
theorem XN (a b:Int):cH (a % 2147483399) b=true:=by have h1:=Int.emod_nonneg a (b:=2147483399) (by decide);have h2:=Int.emod_lt_of_pos a (b:=2147483399) (by decide);simp [cH];omega
theorem NI {l:List V}{j:Int}{v:V}(h:b5 l j=some v):fW (.bR l) (.int j)=some v:=h
theorem NJ {l m:List V}:cop .eq (.bR l) (.lst m)=cJ (dG (18+1)) l m:=rfl
theorem Dq {F:List Fn}{w n c:Nat}(hc:F[c]?=some sL) {ns:List Int}(hn:ns.length≤63) (k:Int):run F w (n+1) c [.val (g6 ns),.val (.int k)]=some (.int (sM ns k),[]):=by
 refine cB hc rfl (ai (aQ (b:=decide (ns=[])) (aH rfl (bO (aB rfl) (pO cG kY) (NJ.trans (JF ns))) rfl) (fun h=>?_) fun h=>aD ?_))
 ·have h0:=of_decide_eq_true h
  exact ai (bP (bI (bW rfl) (aB rfl) (ng rfl)) ⟨by rw [sM,if_pos h0],rfl⟩)
 ·have h0:=of_decide_eq_false h
  have hlen:0<ns.length:=List.length_pos_iff.mpr h0
  have U1:(0:Int)<(ns.map V.int).length:=by rw [List.length_map];exact Int.natCast_pos.mpr hlen
  have h30:((ns.map V.int).length:Int)<1073741824:=by rw [List.length_map];omega
  have hm0:=Int.emod_nonneg k (b:=(ns.length:Int)) (by omega)
  have hlt:(k % (ns.length:Int)).toNat<ns.length:=by have:=Int.emod_lt_of_pos k (b:=(ns.length:Int)) (by omega);omega
  have hx:b5 (ns.map V.int) (k % ((ns.map V.int).length:Int))=some (.int (ns[(k % (ns.length:Int)).toNat]?.getD 0)):=by
   rw [List.length_map,uD hm0,List.getElem?_map,List.getElem?_eq_getElem hlt];rfl
  refine ai (bP (bI (gA (aB rfl) (bI (aB rfl) (jk (bT (aB rfl) cG) xR) (nh U1)) (NI hx)) (bI (bW rfl) (bI (aB rfl) (jk (bT (aB rfl) cG) xR) (sO U1 h30)) (ng rfl)) dN) ⟨?_,rfl⟩)
  rw [sM,if_neg h0,List.length_map]
theorem fC {F:List Fn}{w n c dr:Nat}(hc:F[c]?=some sL) (hd:F[dr]?=some (uE c)) {ns:List Int}(hn:ns.length≤63) (k:Int) {many:Int}(hm:0<many):run F w (n+2) dr [.val (g6 ns),.val (.int k),.val (.int many)]=some (.int (cT ns k many),[]):=by
 refine cB hd rfl (ai (aY (bI (bI (bI (bI (aT (aI rfl (aB rfl) (aI rfl (aB rfl) aG)) (call2 (Dq hc hn k))) (bW rfl) (nh (by decide))) (bW rfl) (ng (NH _ _))) (bI (bW rfl) (bI (aB rfl) (bW rfl) dN) (ng rfl)) dN) (bW rfl) (nh (by decide))) rfl rfl ?_))
 refine ai (aY (bI (bI (bI (aB rfl) (aB rfl) (ng (NH _ _))) (bI (aB rfl) (bW rfl) (sO (by decide) (by decide))) dN) (bW rfl) (nh (by decide))) rfl rfl ?_)
 exact ai (bP (bI (bI (bI (bI (bI (aB rfl) (aB rfl) (ng (XN _ _))) (bI (aB rfl) (bW rfl) (sO (by decide) (by decide))) dN) (bW rfl) (nh (by decide))) (bW rfl) (sO (by decide) (by decide))) (aB rfl) (nh hm)) ⟨rfl,rfl⟩)
noncomputable def fText (dr:Nat):Fn:=⟨3,4,(.cons (.ret (.me .join (.c (.str [])) (.cons (.comp (.ix (.c (.str [97,98,99,32])) (.cl dr (.cons (.v 0) (.cons (.bin .add (.bin .add (.v 1) (.c (.int 1))) (.v 3)) (.cons (.c (.int 4)) .nil))))) (.one 3) (.jb (.cons (.cl dr (.cons (.v 0) (.cons (.v 1) (.cons (.bin .add (.v 2) (.c (.int 1))) .nil)))) .nil)) .no) .nil))) .nil)⟩
noncomputable def FQ (dr:Nat):S:=.iff (.cmp .eq (.cl dr (.cons (.v 0) (.cons (.bin .add (.v 1) (.bin .mul (.c (.int 4)) (.v 4))) (.cons (.c (.int 4)) .nil)))) (.c (.int 0))) (.cons (.set 5 (.bin .mul (.ix (.c (.str [97,98,122])) (.cl dr (.cons (.v 0) (.cons (.bin .add (.bin .add (.v 1) (.bin .mul (.c (.int 4)) (.v 4))) (.c (.int 1))) (.cons (.c (.int 3)) .nil))))) (.bin .add (.c (.int 1)) (.cl dr (.cons (.v 0) (.cons (.bin .add (.bin .add (.v 1) (.bin .mul (.c (.int 4)) (.v 4))) (.c (.int 2))) (.cons (.c (.int 2)) .nil))))))) (.cons (.set 3 (.bin .add (.v 3) (.tup (.cons (.tup (.cons (.c (.str [112,117,116])) (.cons (.v 5) .nil))) .nil)))) .nil)) .nil
noncomputable def FT (dr:Nat):S:=.iff (.cmp .lt (.v 4) (.bi .len (.cons (.v 2) .nil))) (.cons (.set 6 (.cmp .gt (.cl dr (.cons (.v 0) (.cons (.bin .add (.bin .add (.v 1) (.bin .mul (.c (.int 4)) (.v 4))) (.c (.int 3))) (.cons (.c (.int 3)) .nil)))) (.c (.int 0)))) (.cons (.set 3 (.bin .add (.v 3) (.tup (.cons (.lK (.v 6) (.tup (.cons (.c (.str [107,101,101,112])) (.cons (.c (.int 1)) .nil))) (.tup (.cons (.c (.str [100,114,111,112])) (.cons (.ix (.v 2) (.v 4)) .nil)))) .nil)))) .nil)) .nil
noncomputable def JH (dr:Nat):Fn:=⟨3,7,(.cons (.set 3 (.tup .nil)) (.cons (.for (.one 4) (.jb (.cons (.bin .add (.bi .len (.cons (.v 2) .nil)) (.c (.int 1))) .nil)) (.cons (FQ dr) (.cons (FT dr) .nil))) (.cons (.ret (.v 3)) .nil)))⟩
inductive Pt where
 | keep (n:Nat) | put (s:List Nat) | drop (s:List Nat)
deriving DecidableEq
noncomputable def dY:List Nat:=[107,101,101,112]
noncomputable def jl:List Nat:=[112,117,116]
noncomputable def iW:List Nat:=[100,114,111,112]
noncomputable def Pt.v:Pt→V
 | .keep n=>.tup [.str dY,.int n]
 | .put s=>.tup [.str jl,.str s]
 | .drop s=>.tup [.str iW,.str s]
noncomputable def aC (c:List Pt):V:=.tup (c.map Pt.v)
theorem NK (n:Nat) (a b:Pt):dG (n+2) a.v b.v=some (decide (a=b)):=by
 cases a <;> cases b <;> simp [Pt.v,dY,jl,iW]
 all_goals omega
theorem Bj (a b:List Pt):dG deep (aC a) (aC b)=some (decide (a=b)):=by
 simp only [aC,Jf]
 exact xQ (fun a b=>NK 17 a b) a b
noncomputable def txt (ns:List Int) (at_ most:Int):List Nat:=(List.range (cT ns at_ (most+1)).toNat).map fun (k:Nat)=>[97,98,99,32].getD (cT ns (at_+1+k) 4).toNat 0
theorem xW (ns:List Int) (at_:Int) {most:Int}(h:0≤most):(txt ns at_ most).length≤most.toNat:=by
 unfold txt
 have h1:=jL ns at_ (many:=most+1) (by omega)
 have h2:=jK ns at_ (many:=most+1) (by omega)
 simp;omega
theorem getD_at {α:Type}{l:List α}{i:Int}(h0:0≤i) (h1:i<l.length) (d:α):b5 l i=some (l.getD i.toNat d):=by
 have:i.toNat<l.length:=by omega
 rw [uD h0];simp [List.getD,List.getElem?_eq_getElem this]
theorem nQ {α β:Type}(l:List α) (f:α→β):(l.map fun x=>[f x]).flatten=l.map f:=by induction l <;> simp [*]
theorem Bk (lo:Int) (n:Nat):range lo n=(List.range n).map fun (i:Nat)=>V.int (lo+i):=rfl
section
variable {F:List Fn}{w n c dr t:Nat}(hc:F[c]?=some sL) (hd:F[dr]?=some (uE c)) {ns:List Int}(hn:ns.length≤63)
include hc hd hn
theorem uH (ht:F[t]?=some (fText dr)) (k most:Int) (hm:0≤most) (hm2:most≤1000):run F w (n+3) t [.val (g6 ns),.val (.int k),.val (.int most)]=some (.str (txt ns k most),[]):=by
 have b0:=jK ns k (many:=most+1) (by omega)
 have b1:=jL ns k (many:=most+1) (by omega)
 have d0:=fun fr=>eE (fr:=fr) (fC (w:=w) (n:=n) hc hd hn k (many:=most+1) (by omega))
 have SG:cV (jt (run F w (n+2)) (.ix (.c (.str [97,98,99,32])) (.cl dr (.cons (.v 0) (.cons (.bin .add (.bin .add (.v 1) (.c (.int 1))) (.v 3)) (.cons (.c (.int 4)) .nil))))) (.one 3) .no [some (.val (g6 ns)),some (.val (.int k)),some (.val (.int most)),none]) (range 0 (cT ns k (most+1)).toNat)=some (((List.range (cT ns k (most+1)).toNat).map fun (j:Nat)=>[[97,98,99,32].getD (cT ns (k+1+j) 4).toNat 0]).map V.str):=by
  rw [Bk,List.map_map]
  refine mJ _ _ _ fun j _=>?_
  have d1:=fun fr=>eE (fr:=fr) (fC (w:=w) (n:=n) hc hd hn (k+1+j) (many:=4) (by decide))
  have ix:fW (.str [97,98,99,32]) (.int (cT ns (k+1+j) 4))=some (.str [[97,98,99,32].getD (cT ns (k+1+j) 4).toNat 0]):=by
   rw [qH,getD_at (l:=[97,98,99,32]) (jK ns (k+1+j) (many:=4) (by decide)) (jL ns (k+1+j) (many:=4) (by decide)) 0];rfl
  rw [show (0:Int)+(j:Int)=j from Int.zero_add _]
  exact uG rfl (by (repeat (first | array_get_dec | exact d1 _)))
 have hj:=FJ (l:=(List.range (cT ns k (most+1)).toNat).map fun (j:Nat)=>[[97,98,99,32].getD (cT ns (k+1+j) 4).toNat 0]) (by rw [nQ];simp;omega)
 rw [nQ] at hj
 have hmk:eT (((List.range (cT ns k (most+1)).toNat).map fun (j:Nat)=>[[97,98,99,32].getD (cT ns (k+1+j) 4).toNat 0]).map V.str)=some (.lst _):=eY (cS (by simp;omega))
 have rg:=M5 b0 (show cT ns k (most+1)≤100000 by omega)
 refine cB ht rfl (ai (bP (FO rfl (bW rfl) (bT (jd (Bh (by (repeat (first | array_get_dec | exact d0 _))) rg) rfl SG hmk) cG) hj) ⟨rfl,rfl⟩))
end
noncomputable def jw (ns:List Int) (at_:Int) (s:List Nat) (k:Nat):List Pt:=
 (if cT ns (at_+4*k) 4=0 then [.put (rep (1+cT ns (at_+4*k+2) 2).toNat [[97,98,122].getD (cT ns (at_+4*k+1) 3).toNat 0])] else [])++
 (match s[k]? with
 | some c=>[if 0<cT ns (at_+4*k+3) 3 then .keep 1 else .drop [c]]
 | none=>[])
noncomputable def fJ (ns:List Int) (at_:Int) (s:List Nat) (k:Nat):List Pt:=(List.range k).flatMap (jw ns at_ s)
noncomputable def chg (ns:List Int) (at_:Int) (s:List Nat):List Pt:=fJ ns at_ s (s.length+1)
theorem Bm (ns:List Int) (at_:Int) (s:List Nat) (k:Nat):(jw ns at_ s k).length≤2:=by
 unfold jw
 split <;> split <;> simp
theorem jx (ns:List Int) (at_:Int) (s:List Nat) (k:Nat):fJ ns at_ s (k+1)=fJ ns at_ s k++jw ns at_ s k:=by simp [fJ,List.range_succ]
theorem mL (ns:List Int) (at_:Int) (s:List Nat):∀ k,(fJ ns at_ s k).length≤2*k
 | 0=>by simp [fJ]
 | k+1=>by
  have h1:=Bm ns at_ s k
  have h2:=mL ns at_ s k
  rw [jx,List.length_append]
  omega
theorem NL (i:Int):cH 4 i=true:=by simp [cH]
theorem sP {a b:List Pt}(h:a.length+b.length≤100000):bJ .add (aC a) (aC b)=some (aC (a++b)):=by
 simp only [aC];rw [Di (by simpa using h)];simp
theorem XO {j:Int}{n:Nat}(h:n≤100000) (e:j=n):fF [.int j]=some (range 0 n):=by
 subst e
 rw [M5 (by omega) (by omega)]
 rfl
theorem JJ {a:List Pt}{s:List Nat}(h:a.length<100000):bJ .add (aC a) (.tup [.tup [.str [112,117,116],.str s]])=some (aC (a++[.put s])):=sP (a:=a) (b:=[.put s]) (by simp;omega)
theorem Ds {a:List Pt}{s:List Nat}(h:a.length<100000):bJ .add (aC a) (.tup [.tup [.str [100,114,111,112],.str s]])=some (aC (a++[.drop s])):=sP (a:=a) (b:=[.drop s]) (by simp;omega)
theorem Dt {a:List Pt}(h:a.length<100000):bJ .add (aC a) (.tup [.tup [.str [107,101,101,112],.int 1]])=some (aC (a++[.keep 1])):=sP (a:=a) (b:=[.keep 1]) (by simp;omega)
section
variable {F:List Fn}{w n c dr t:Nat}(hc:F[c]?=some sL) (hd:F[dr]?=some (uE c)) {ns:List Int}(hn:ns.length≤63)
include hc hd hn
theorem Du (k:Int) (x:V) (fd:List Pt) (j:Nat) (u v:Option Sl) (hu:vo u) (hfd:fd.length≤10000) :
  Wp (ex (run F w (n+2)) w (FQ dr) [some (.val (g6 ns)),some (.val (.int k)),some (.val x),some (.val (aC fd)),some (.val (.int j)),u,v]) fun g fr=>g=.nx∧∃ b,vo b∧fr=[some (.val (g6 ns)),some (.val (.int k)),some (.val x),some (.val (aC (fd++if cT ns (k+4*j) 4=0 then [.put (rep (1+cT ns (k+4*j+2) 2).toNat [[97,98,122].getD (cT ns (k+4*j+1) 3).toNat 0])] else []))),some (.val (.int j)),b,v]:=by
 have d1:=fun fr=>eE (fr:=fr) (fC (w:=w) (n:=n) hc hd hn (k+4*j) (many:=4) (by decide))
 have m4:bJ .mul (.int 4) (.int j)=some (.int (4*j)):=by rw [oB,NL];rfl
 refine aQ (by (repeat (first | array_get_dec | exact d1 _))) (fun h=>?_) fun h=>?_
 ·have h0:=of_decide_eq_true h
  have d2:=fun fr=>eE (fr:=fr) (fC (w:=w) (n:=n) hc hd hn (k+4*j+1) (many:=3) (by decide))
  have d3:=fun fr=>eE (fr:=fr) (fC (w:=w) (n:=n) hc hd hn (k+4*j+2) (many:=2) (by decide))
  have c2:=jK ns (k+4*j+2) (many:=2) (by decide)
  have c3:=jL ns (k+4*j+2) (many:=2) (by decide)
  have ix:fW (.str [97,98,122]) (.int (cT ns (k+4*j+1) 3))=some (.str [[97,98,122].getD (cT ns (k+4*j+1) 3).toNat 0]):=by
   rw [qH,getD_at (l:=[97,98,122]) (jK ns (k+4*j+1) (many:=3) (by decide)) (jL ns (k+4*j+1) (many:=3) (by decide)) 0];rfl
  have ml:=Dj (j:=1+cT ns (k+4*j+2) 2) (a:=[[97,98,122].getD (cT ns (k+4*j+1) 3).toNat 0]) (by omega) (by omega) (by simp)
  have ad:=JJ (a:=fd) (s:=rep (1+cT ns (k+4*j+2) 2).toNat [[97,98,122].getD (cT ns (k+4*j+1) 3).toNat 0]) (by omega)
  refine ai (aY (by (repeat (first | array_get_dec | exact d2 _ | exact d3 _))) rfl (jM rfl hu) ?_)
  refine ai (aY (by repeat array_get_dec) rfl rfl (aD ?_))
  rw [if_pos h0];exact ⟨rfl,_,.val,rfl⟩
 ·have h0:=of_decide_eq_false h
  rw [if_neg h0,List.append_nil]
  exact aD ⟨rfl,u,hu,rfl⟩
theorem Dv (k:Int) (x:List Nat) (hx:x.length≤1000) (fd:List Pt) (j:Nat) (u v:Option Sl) (hv:vo v) (hfd:fd.length≤10000) :
  Wp (ex (run F w (n+2)) w (FT dr) [some (.val (g6 ns)),some (.val (.int k)),some (.val (.str x)),some (.val (aC fd)),some (.val (.int j)),u,v]) fun g fr=>g=.nx∧∃ b,vo b∧fr=[some (.val (g6 ns)),some (.val (.int k)),some (.val (.str x)),some (.val (aC (fd++match x[j]? with
     | some c=>[if 0<cT ns (k+4*j+3) 3 then .keep 1 else .drop [c]]
     | none=>[]))),some (.val (.int j)),u,b]:=by
 have ln:dJ .len [.str x]=some (.int (x.length:Nat)):=len_str (by omega)
 refine aQ (by repeat array_get_dec) (fun h=>?_) fun h=>?_
 ·have hlt:j<x.length:=by have:=of_decide_eq_true h;omega
  have d1:=fun fr=>eE (fr:=fr) (fC (w:=w) (n:=n) hc hd hn (k+4*j+3) (many:=3) (by decide))
  have m4:bJ .mul (.int 4) (.int j)=some (.int (4*j)):=by rw [oB,NL];rfl
  have hg:x[j]?=some x[j]:=List.getElem?_eq_getElem hlt
  have ix:fW (.str x) (.int j)=some (.str [x[j]]):=by rw [qH,wQ,hg];rfl
  rw [hg]
  refine ai (aY (by (repeat (first | array_get_dec | exact d1 _))) rfl (jM rfl hv) ?_)
  by_cases hk:0<cT ns (k+4*j+3) 3
  ·have ad:=Dt (a:=fd) (by omega)
   have ht:truthy (.bl (decide (0<cT ns (k+4*j+3) 3)))=true:=decide_eq_true hk
   refine ai (aY (bI (aB rfl) (jZ (bT (FL (b:=true) (aH rfl (aB rfl) ht) (fun _=>by repeat array_get_dec) fun h=>absurd h (by decide)) cG) sJ) ad) rfl rfl (aD ?_))
   refine ⟨rfl,some (.val (.bl (decide (0<cT ns (k+4*j+3) 3)))),.val,?_⟩
   simp only [if_pos hk];rfl
  ·have ad:=Ds (a:=fd) (s:=[x[j]]) (by omega)
   have ht:truthy (.bl (decide (0<cT ns (k+4*j+3) 3)))=false:=decide_eq_false hk
   refine ai (aY (bI (aB rfl) (jZ (bT (FL (b:=false) (aH rfl (aB rfl) ht) (fun h=>absurd h (by decide)) fun _=>by repeat array_get_dec) cG) sJ) ad) rfl rfl (aD ?_))
   refine ⟨rfl,some (.val (.bl (decide (0<cT ns (k+4*j+3) 3)))),.val,?_⟩
   simp only [if_neg hk];rfl
 ·have hlt:¬ j<x.length:=by have:=of_decide_eq_false h;omega
  rw [List.getElem?_eq_none (by omega),List.append_nil]
  exact aD ⟨rfl,v,hv,rfl⟩
theorem pR (ht:F[t]?=some (JH dr)) (k:Int) (x:List Nat) (hx:x.length≤1000):run F w (n+3) t [.val (g6 ns),.val (.int k),.val (.str x)]=some (aC (chg ns k x),[]):=by
 refine cB ht rfl ?_
 have ln:dJ .len [.str x]=some (.int (x.length:Nat)):=len_str (by omega)
 have rg:fF [.int ((x.length:Nat)+1)]=some (range 0 (x.length+1)):=XO (by omega) (by omega)
 refine ai (aY (by repeat array_get_dec) rfl rfl ?_)
 refine ai (ju (Bh (bT (bI (jk (bT (aB rfl) cG) ln) (bW rfl) dN) cG) rg) ?_)
 refine Jk (fun j fr=>∃ a b c,vo a∧vo b∧vo c∧fr=[some (.val (g6 ns)),some (.val (.int k)),some (.val (.str x)),some (.val (aC (fJ ns k x j))),a,b,c]) (fun j fr hj ⟨a,b,c',ha,hb,hc',hfr⟩=>?_) (fun fr ⟨a,b,c',ha,hb,hc',hfr⟩=>?_) ⟨none,none,none,.none,.none,.none,rfl⟩
 ·subst hfr
  have hz:=mL ns k x j
  rw [show (0:Int)+(j:Int)=j from Int.zero_add _]
  refine dR (bind1 rfl ha) (ai ?_)
  refine (Du hc hd hn k (.str x) (fJ ns k x j) j b c' hb (by omega)).mono fun g fr ⟨q1,b2,hb2,q3⟩=>?_
  subst q1 q3
  refine ai ?_
  refine (Dv hc hd hn k x hx _ j b2 c' hc' (by split <;> simp <;> omega)).mono fun g fr ⟨q1,b3,hb3,q3⟩=>?_
  subst q1 q3
  refine aD ?_
  rw [eV]
  refine ⟨some (.val (.int j)),b2,b3,.val,hb2,hb3,?_⟩
  rw [jx,jw,List.append_assoc]
 ·subst hfr
  refine ai (bP (v:=aC (chg ns k x)) (ah:=[some (.val (g6 ns)),some (.val (.int k)),some (.val (.str x)),some (.val (aC (fJ ns k x (x.length+1)))),a,b,c']) ?_ ⟨rfl,rfl⟩)
  have sh:fR [some (.val (g6 ns)),some (.val (.int k)),some (.val (.str x)),some (.val (aC (fJ ns k x (x.length+1)))),a,b,c']=[some (.val (g6 ns)),some (.val (.int k)),some (.val (.str x)),some (.val (aC (fJ ns k x (x.length+1)))),a,b,c']:=by
   show _ :: _ :: _ :: _ :: a.map Sl.fX :: b.map Sl.fX :: [c'.map Sl.fX]=_
   rw [d9 ha,d9 hb,d9 hc'];rfl
  rw [sh];exact aB rfl
end
end Pv
namespace Pv
open Ev (D cz b7 TY BI ME T E Es Eo It S Ss Fn big deep b2i rep cH eG b5 aU cut cU eB slots)
noncomputable def Dw:S:=.iff (.cmp .eq (.ix (.v 0) (.c (.int 0))) (.c (.str [107,101,101,112]))) (.cons (.ret (.ix (.v 0) (.c (.int 1)))) .nil) .nil
noncomputable def Dy:S:=.ret (.bi .len (.cons (.ix (.v 0) (.c (.int 1))) .nil))
noncomputable def dS:Fn:=⟨1,1,(.cons Dw (.cons Dy .nil))⟩
noncomputable def zl (bC:Nat):S:=.ret (.bi .sum (.cons (.comp (.cl bC (.cons (.v 1) .nil)) (.one 1) (.seq (.v 0)) (.yes (.cmp .ne (.ix (.v 1) (.c (.int 0))) (.c (.str [112,117,116]))))) .nil))
noncomputable def gR (bC:Nat):Fn:=⟨1,2,(.cons (zl bC) .nil)⟩
noncomputable def Bo (bC:Nat):S:=.ret (.bi .sum (.cons (.comp (.cl bC (.cons (.v 1) .nil)) (.one 1) (.seq (.v 0)) (.yes (.cmp .ne (.ix (.v 1) (.c (.int 0))) (.c (.str [100,114,111,112]))))) .nil))
noncomputable def ni (bC:Nat):Fn:=⟨1,2,(.cons (Bo bC) .nil)⟩
noncomputable def Dz (bC:Nat):S:=.ret (.bi .sum (.cons (.comp (.cl bC (.cons (.v 1) .nil)) (.one 1) (.seq (.v 0)) (.yes (.cmp .ne (.ix (.v 1) (.c (.int 0))) (.c (.str [107,101,101,112]))))) .nil))
noncomputable def NN (bC:Nat):Fn:=⟨1,2,(.cons (Dz bC) .nil)⟩
noncomputable def DA:S:=.set 1 (.lst .nil)
noncomputable def DB:S:=.set 2 (.c (.int 0))
noncomputable def DC:S:=.set 3 (.c (.str []))
noncomputable def DE:S:=.set 4 (.c (.str []))
noncomputable def DF (fD:Nat):Ss:=(.cons (.iff (.cmp .eq (.v 5) (.c (.str [100,114,111,112]))) (.cons (.set 3 (.bin .add (.v 3) (.v 6))) .nil) (.cons (.iff (.cmp .eq (.v 5) (.c (.str [112,117,116]))) (.cons (.set 4 (.bin .add (.v 4) (.v 6))) .nil) (.cons (.iff (.cmp .gt (.v 6) (.c (.int 0))) (.cons (.iff (.orr (.cmp .ne (.v 3) (.c (.str []))) (.cmp .ne (.v 4) (.c (.str [])))) (.cons (.exp (.me .extend (.v 1) (.cons (.cl fD (.cons (.v 2) (.cons (.v 3) (.cons (.v 4) .nil)))) .nil))) (.cons (.set 2 (.c (.int 0))) (.cons (.set 3 (.c (.str []))) (.cons (.set 4 (.c (.str []))) .nil)))) .nil) (.cons (.set 2 (.bin .add (.v 2) (.v 6))) .nil)) .nil) .nil)) .nil)) .nil)
noncomputable def DG (fD:Nat):S:=.for (.many [5,6]) (.seq (.v 0)) (DF fD)
noncomputable def DH (fD:Nat):S:=.exp (.me .extend (.v 1) (.cons (.cl fD (.cons (.v 2) (.cons (.v 3) (.cons (.v 4) .nil)))) .nil))
noncomputable def DI:S:=.ret (.gv (.v 1))
noncomputable def fc (fD:Nat):Fn:=⟨1,7,(.cons DA (.cons DB (.cons DC (.cons DE (.cons (DG fD) (.cons (DH fD) (.cons DI .nil)))))))⟩
noncomputable def vV:S:=.set 3 (.lst .nil)
noncomputable def vW:S:=.iff (.cmp .gt (.v 0) (.c (.int 0))) (.cons (.exp (.me .append (.v 3) (.cons (.tup (.cons (.c (.str [107,101,101,112])) (.cons (.v 0) .nil))) .nil))) .nil) .nil
noncomputable def nR:S:=.iff (.cmp .ne (.v 1) (.c (.str []))) (.cons (.exp (.me .append (.v 3) (.cons (.tup (.cons (.c (.str [100,114,111,112])) (.cons (.v 1) .nil))) .nil))) .nil) .nil
noncomputable def kc:S:=.iff (.cmp .ne (.v 2) (.c (.str []))) (.cons (.exp (.me .append (.v 3) (.cons (.tup (.cons (.c (.str [112,117,116])) (.cons (.v 2) .nil))) .nil))) .nil) .nil
noncomputable def iX:S:=.ret (.v 3)
noncomputable def cP:Fn:=⟨3,4,(.cons vV (.cons vW (.cons nR (.cons kc (.cons iX .nil)))))⟩
noncomputable def vX:S:=.set 1 (.comp (.ix (.v 4) (.c (.int 0))) (.one 4) (.seq (.v 0)) .no)
noncomputable def vY:Ss:=(.cons (.iff (.orr (.cmp .eq (.v 2) (.v 3)) (.an (.cmp .eq (.v 2) (.c (.str [112,117,116]))) (.cmp .eq (.v 3) (.c (.str [100,114,111,112]))))) (.cons (.ret (.c (.bl false))) .nil) .nil) .nil)
noncomputable def vZ:S:=.for (.many [2,3]) (.zip (.v 1) (.sl (.v 1) (.yes (.c (.int 1))) .no)) vY
noncomputable def wc:S:=.ret (.an (.lN (.v 0) [.tuple]) (.cmp .eq (.comp (.v 5) (.one 5) (.seq (.v 0)) (.yes (.cmp .isin (.ix (.v 5) (.c (.int 1))) (.tup (.cons (.c (.str [])) (.cons (.c (.int 0)) .nil)))))) (.lst .nil)))
noncomputable def Bp:Fn:=⟨1,6,(.cons vX (.cons vZ (.cons wc .nil)))⟩
noncomputable def Pt.n:Pt→Nat
 | .keep n=>n
 | .put s=>s.length
 | .drop s=>s.length
noncomputable def tot (c:List Pt):Nat:=(c.map Pt.n).sum
theorem dc (a b:List Pt):tot (a++b)=tot a+tot b:=by simp [tot]
theorem br (p:Pt) (c:List Pt):tot (p :: c)=p.n+tot c:=by simp [tot]
noncomputable def bM:Pt→Bool
 | .put _=>true
 | _=>false
noncomputable def b8:Pt→Bool
 | .drop _=>true
 | _=>false
noncomputable def dU:Pt→Bool
 | .keep _=>true
 | _=>false
noncomputable def aE (c:List Pt):Nat:=tot (c.filter fun p=>!bM p)
noncomputable def cE (c:List Pt):Nat:=tot (c.filter fun p=>!b8 p)
noncomputable def cst (c:List Pt):Nat:=tot (c.filter fun p=>!dU p)
section
variable {F:List Fn}{w n aJ i:Nat}
theorem iQ (hs:F[i]?=some dS) (p:Pt) (hp:p.n≤100000):run F w (n+1) i [.val p.v]=some (.int p.n,[]):=by
 cases p with
 | keep k=>exact cB hs rfl (ai (aQ (b:=true) (aH rfl (bO (gA (aB rfl) (bW rfl) rfl) (bW rfl) oF) rfl) (fun _=>ai (bP (gA (aB rfl) (bW rfl) rfl) ⟨rfl,rfl⟩)) nofun))
 | put s=>exact cB hs rfl (ai (aQ (b:=false) (aH rfl (bO (gA (aB rfl) (bW rfl) rfl) (bW rfl) oF) rfl) nofun (fun _=>aD (ai (bP (jk (bT (gA (aB rfl) (bW rfl) rfl) cG) (len_str hp)) ⟨rfl,rfl⟩)))))
 | drop s=>exact cB hs rfl (ai (aQ (b:=false) (aH rfl (bO (gA (aB rfl) (bW rfl) rfl) (bW rfl) oF) rfl) nofun (fun _=>aD (ai (bP (jk (bT (gA (aB rfl) (bW rfl) rfl) cG) (len_str hp)) ⟨rfl,rfl⟩)))))
theorem XQ {c:List Pt}{p:Pt}(h:p∈c):p.n≤tot c:=by
 induction c with
 | nil=>simp at h
 | cons q c ih=>
  rw [br]
  rcases List.mem_cons.mp h with rfl | h
  ·omega
  ·have:=ih h;omega
theorem SH (c:List Pt):(c.map fun p=>(p.n:Int)).sum=(tot c:Int):=by
 induction c with
 | nil=>rfl
 | cons p c ih=>simp only [List.map_cons,List.sum_cons,ih,br];omega
theorem qK {word:List Nat}{pr:Pt→Bool}(hs:F[aJ]?=some dS) (hb:F[i]?=some ⟨1,2,.cons (.ret (.bi .sum (.cons (.comp (.cl aJ (.cons (.v 1) .nil)) (.one 1) (.seq (.v 0)) (.yes (.cmp .ne (.ix (.v 1) (.c (.int 0))) (.c (.str word))))) .nil))) .nil⟩)
  (hw:∀ p:Pt,∃ x u,p.v=.tup [.str x,u]∧(!decide (x=word))=pr p) (c:List Pt) (h1:c.length≤10000) (h2:tot c≤100000):run F w (n+2) i [.val (aC c)]=some (.int (tot (c.filter pr)),[]):=by
 refine cB hb rfl (ai (bP (jk (bT (jd (eK (eZ rfl) rfl) rfl (gf (e:=Pt.v) (p:=pr) (g:=fun p=>.int p.n) c fun p hp=>?_) (eY (cS ?_))) cG) ?_) ⟨rfl,rfl⟩))
 ·obtain ⟨x,u,hx,hpr⟩:=hw p
  have hcall:=fun fr=>bV (fr:=fr) (iQ (w:=w) (n:=n) hs p (Nat.le_trans (XQ hp) h2))
  rw [hx] at hcall
  rw [hx,←hpr]
  exact kG rfl (aH rfl (bO (gA (aB rfl) (bW rfl) rfl) (bW rfl) gO) rfl) fun _=>aT (aI rfl (aB rfl) aG) (hcall _)
 ·rw [List.length_map];exact Nat.le_trans (List.length_filter_le _ _) (Nat.le_trans h1 (by decide))
 ·rw [Jj,zc (fun p:Pt=>(p.n:Int))]
  show some (V.int _)=_
  rw [SH]
theorem iE (hs:F[aJ]?=some dS) (hb:F[i]?=some (gR aJ)) (c:List Pt) (h1:c.length≤10000) (h2:tot c≤100000):run F w (n+2) i [.val (aC c)]=some (.int (aE c),[]):=
 qK (pr:=fun p=>!bM p) hs hb (fun p=>by cases p <;> exact ⟨_,_,rfl,rfl⟩) c h1 h2
theorem rZ (hs:F[aJ]?=some dS) (hb:F[i]?=some (ni aJ)) (c:List Pt) (h1:c.length≤10000) (h2:tot c≤100000):run F w (n+2) i [.val (aC c)]=some (.int (cE c),[]):=
 qK (pr:=fun p=>!b8 p) hs hb (fun p=>by cases p <;> exact ⟨_,_,rfl,rfl⟩) c h1 h2
theorem DJ (hs:F[aJ]?=some dS) (hb:F[i]?=some (NN aJ)) (c:List Pt) (h1:c.length≤10000) (h2:tot c≤100000):run F w (n+2) i [.val (aC c)]=some (.int (cst c),[]):=
 qK (pr:=fun p=>!dU p) hs hb (fun p=>by cases p <;> exact ⟨_,_,rfl,rfl⟩) c h1 h2
end
noncomputable def bZ (k:Nat) (g w:List Nat):List Pt:=(if 0<k then [.keep k] else [])++(if g=[] then [] else [.drop g])++(if w=[] then [] else [.put w])
theorem kg (k:Nat) (g w:List Nat):(bZ k g w).length≤3:=by unfold bZ;split <;> split <;> split <;> simp
theorem nT {F:List Fn}{w n i:Nat}(hs:F[i]?=some cP) (k:Nat) (g x:List Nat):run F w (n+1) i [.val (.int k),.val (.str g),.val (.str x)]=some (.lst ((bZ k g x).map Pt.v),[]):=by
 refine cB hs rfl ?_
 refine ai (iD (l:=[]) (by repeat array_get_dec) rfl rfl ?_)
 have ap:∀ (l:List V) (d:V) (fr:Fr) (i:Nat),l.length≤3→fr[i]?=some (some (.own l))→fU .append i [d] fr fr[i]?=.ok .bB (fr.set i (some (.own (l++[d])))):=fun l d fr i h e=>by rw [e];exact iP (by omega)
 have fin:∀ l:List V,Wp (exs (run F w n) w (.cons iX .nil) [some (.val (.int k)),some (.val (.str g)),some (.val (.str x)),some (.own l)]) fun g fr=>g=.ret (.lst l)∧outs 3 fr=[]:=fun l=>ai (bP (by repeat array_get_dec) ⟨rfl,rfl⟩)
 have s3:∀ l:List V,l.length≤2→Wp (exs (run F w n) w (.cons kc (.cons iX .nil)) [some (.val (.int k)),some (.val (.str g)),some (.val (.str x)),some (.own l)]) fun g fr=>g=.ret (.lst (l++(if x=[] then [] else [Pt.put x]).map Pt.v))∧outs 3 fr=[]:=fun l hl=>by
  refine ai (aQ (by repeat array_get_dec) (fun h=>?_) fun h=>?_)
  ·have hx:x≠[]:=by simpa using h
   refine ai (fH (by (repeat array_get_dec);exact ap _ _ _ _ (by omega) rfl) (aD ?_))
   rw [if_neg hx];exact fin _
  ·have hx:x=[]:=by simpa using h
   refine aD ?_
   rw [if_pos hx,List.map_nil,List.append_nil];exact fin _
 have s2:∀ l:List V,l.length≤1→Wp (exs (run F w n) w (.cons nR (.cons kc (.cons iX .nil))) [some (.val (.int k)),some (.val (.str g)),some (.val (.str x)),some (.own l)]) fun y fr=>y=.ret (.lst (l++((if g=[] then [] else [Pt.drop g])++(if x=[] then [] else [Pt.put x])).map Pt.v))∧outs 3 fr=[]:=fun l hl=>by
  refine ai (aQ (by repeat array_get_dec) (fun h=>?_) fun h=>?_)
  ·have hx:g≠[]:=by simpa using h
   refine ai (fH (by (repeat array_get_dec);exact ap _ _ _ _ (by omega) rfl) (aD ?_))
   rw [if_neg hx,List.map_append,←List.append_assoc];exact s3 _ (by simp;omega)
  ·have hx:g=[]:=by simpa using h
   refine aD ?_
   rw [if_pos hx,List.nil_append];exact s3 _ (by omega)
 refine ai (aQ (by repeat array_get_dec) (fun h=>?_) fun h=>?_)
 ·have hx:0<k:=by have:=of_decide_eq_true h;omega
  refine ai (fH (by (repeat array_get_dec);exact ap _ _ _ _ (by decide) rfl) (aD ?_))
  unfold bZ
  rw [if_pos hx,List.append_assoc];exact s2 _ (Nat.le_refl 1)
 ·have hx:¬ 0<k:=by have:=of_decide_eq_false h;omega
  refine aD ?_
  unfold bZ
  rw [if_neg hx];exact s2 _ (by decide)
abbrev FS:=List Pt×Nat×List Nat×List Nat
noncomputable def bG (st:FS):Pt→FS
 | .drop s=>(st.1,st.2.1,st.2.2.1++s,st.2.2.2)
 | .put s=>(st.1,st.2.1,st.2.2.1,st.2.2.2++s)
 | .keep k=>if 0<k then (if st.2.2.1=[]∧st.2.2.2=[] then (st.1,st.2.1+k,[],[]) else (st.1++bZ st.2.1 st.2.2.1 st.2.2.2,k,[],[])) else st
noncomputable def eO:FS:=([],0,[],[])
noncomputable def cZ (st:FS):List Pt:=st.1++bZ st.2.1 st.2.2.1 st.2.2.2
noncomputable def ao (c:List Pt):List Pt:=cZ (c.foldl bG eO)
theorem JK (p:List Pt) (a:Pt):(p++[a]).foldl bG eO=bG (p.foldl bG eO) a:=by simp
theorem uI (c:List Pt):∀ st:FS,(c.foldl bG st).1.length≤st.1.length+3*c.length∧(c.foldl bG st).2.2.1.length≤st.2.2.1.length+tot c∧(c.foldl bG st).2.2.2.length≤st.2.2.2.length+tot c:=by
 induction c with
 | nil=>intro st;simp [tot]
 | cons p c ih=>
  intro st
  have h:=ih (bG st p)
  have h2:(bG st p).1.length≤st.1.length+3∧(bG st p).2.2.1.length≤st.2.2.1.length+p.n∧(bG st p).2.2.2.length≤st.2.2.2.length+p.n:=by
   have:=kg st.2.1 st.2.2.1 st.2.2.2
   cases p with
   | drop s=>simp [bG,Pt.n]
   | put s=>simp [bG,Pt.n]
   | keep k=>
    simp only [bG]
    split
    ·split
     ·simp
     ·simp;omega
    ·simp
  simp only [List.foldl_cons,List.length_cons,br]
  omega
theorem dO {F:List Fn}{w n aM i:Nat}(hs:F[aM]?=some cP) (hf:F[i]?=some (fc aM)) (c:List Pt) (h1:c.length≤10000) (h2:tot c≤10000):run F w (n+2) i [.val (aC c)]=some (aC (ao c),[]):=by
 refine cB hf rfl ?_
 refine ai (iD (l:=[]) (by repeat array_get_dec) rfl rfl ?_)
 refine ai (aY (by repeat array_get_dec) rfl rfl ?_)
 refine ai (aY (by repeat array_get_dec) rfl rfl ?_)
 refine ai (aY (by repeat array_get_dec) rfl rfl ?_)
 refine ai (ju (vs:=c.map Pt.v) (eK (eZ rfl) rfl) ?_)
 have ext:∀ (st:FS) (fr:Fr),st.1.length≤30010→fU .extend 1 [.lst ((bZ st.2.1 st.2.2.1 st.2.2.2).map Pt.v)] fr (some (some (.own (st.1.map Pt.v))))=.ok .bB (fr.set 1 (some (.own ((cZ st).map Pt.v)))):=fun st fr h=>by
  have:=kg st.2.1 st.2.2.1 st.2.2.2
  unfold cZ
  rw [List.map_append];exact xV (by simp;omega)
 refine gZ (e:=Pt.v) (fun p l fr=>p++l=c∧∃ a b,vo a∧vo b∧fr=[some (.val (aC c)),some (.own ((p.foldl bG eO).1.map Pt.v)),some (.val (.int (p.foldl bG eO).2.1)),some (.val (.str (p.foldl bG eO).2.2.1)),some (.val (.str (p.foldl bG eO).2.2.2)),a,b]) (fun p x l fr ⟨hpl,a,b,ha,hb,hfr⟩=>?_) (fun p fr ⟨hpl,a,b,ha,hb,hfr⟩=>?_) c [] _ ⟨rfl,none,none,.none,.none,rfl⟩
 ·subst hfr
  obtain ⟨b1,b2,b3⟩:=uI p eO
  have hlen:p.length+l.length+1=c.length:=by rw [←hpl];simp;omega
  have uJ:tot p+x.n+tot l=tot c:=by rw [←hpl,dc,br];omega
  rw [JK]
  have ff:(p++[x])++l=c:=by simpa using hpl
  generalize p.foldl bG eO=st at *
  simp [eO] at b1 b2 b3
  have rs:=fun fr=>eE (fr:=fr) (nT (w:=w) (n:=n) hs st.2.1 st.2.2.1 st.2.2.2)
  have ex:=fun fr=>ext st fr (by omega)
  cases x with
  | drop s=>
   have hs:s.length≤tot c:=by simp only [Pt.n] at uJ;omega
   have ad:=gQ (a:=st.2.2.1) (b:=s) (by omega)
   refine dR (lg rfl ha rfl hb) (ai (aQ (by repeat array_get_dec) (fun _=>?_) fun h=>absurd h (by decide)))
   refine ai (aY (by repeat array_get_dec) rfl rfl (aD (aD ?_)))
   rw [eV];exact ⟨ff,_,_,.val,.val,rfl⟩
  | put s=>
   have hs:s.length≤tot c:=by simp only [Pt.n] at uJ;omega
   have ad:=gQ (a:=st.2.2.2) (b:=s) (by omega)
   refine dR (lg rfl ha rfl hb) (ai (aQ (by repeat array_get_dec) (fun h=>absurd h (by decide)) fun _=>?_))
   refine ai (aQ (by repeat array_get_dec) (fun _=>?_) fun h=>absurd h (by decide))
   refine ai (aY (by repeat array_get_dec) rfl rfl (aD (aD (aD ?_))))
   rw [eV];exact ⟨ff,_,_,.val,.val,rfl⟩
  | keep k=>
   refine dR (lg rfl ha rfl hb) (ai (aQ (by repeat array_get_dec) (fun h=>absurd h (by decide)) fun _=>?_))
   refine ai (aQ (by repeat array_get_dec) (fun h=>absurd h (by decide)) fun _=>?_)
   refine ai (aQ (by repeat array_get_dec) (fun h=>?_) fun h=>?_)
   ·have hk:0<k:=by have:=of_decide_eq_true h;omega
    by_cases hg:st.2.2.1=[]∧st.2.2.2=[]
    ·have n1:cop .ne (.str st.2.2.1) (.str [])=some false:=by rw [gO,hg.1];rfl
     have n2:cop .ne (.str st.2.2.2) (.str [])=some false:=by rw [gO,hg.2];rfl
     refine ai (aQ (b:=false) (er (aH rfl (by repeat array_get_dec) rfl) (aH rfl (by repeat array_get_dec) rfl)) (fun h=>absurd h (by decide)) fun _=>aD ?_)
     refine ai (aY (by repeat array_get_dec) rfl rfl (aD (aD (aD (aD ?_)))))
     rw [eV]
     refine ⟨ff,some (.val (.str dY)),some (.val (.int k)),.val,.val,?_⟩
     simp only [bG,if_pos hk,if_pos hg]
     rw [hg.1,hg.2];rfl
    ·have tt:aN (run F w (n+1)) (.orr (.cmp .ne (.v 3) (.c (.str []))) (.cmp .ne (.v 4) (.c (.str [])))) [some (.val (aC c)),some (.own (st.1.map Pt.v)),some (.val (.int st.2.1)),some (.val (.str st.2.2.1)),some (.val (.str st.2.2.2)),some (.val (.str dY)),some (.val (.int k))]=.ok true [some (.val (aC c)),some (.own (st.1.map Pt.v)),some (.val (.int st.2.1)),some (.val (.str st.2.2.1)),some (.val (.str st.2.2.2)),some (.val (.str dY)),some (.val (.int k))]:=by
      by_cases h3:st.2.2.1=[]
      ·have h4:¬ st.2.2.2=[]:=fun z=>hg ⟨h3,z⟩
       have n1:cop .ne (.str st.2.2.1) (.str [])=some false:=by rw [gO,h3];rfl
       have n2:cop .ne (.str st.2.2.2) (.str [])=some true:=by rw [gO,decide_eq_false h4];rfl
       exact er (aH rfl (by repeat array_get_dec) rfl) (aH rfl (by repeat array_get_dec) rfl)
      ·have n1:cop .ne (.str st.2.2.1) (.str [])=some true:=by rw [gO,decide_eq_false h3];rfl
       exact pQ (aH rfl (by repeat array_get_dec) rfl)
     refine ai (aQ tt (fun _=>?_) fun h=>absurd h (by decide))
     refine ai (fH (by (repeat (first | array_get_dec | exact rs _ | exact ex _))) ?_)
     refine ai (aY (by repeat array_get_dec) rfl rfl ?_)
     refine ai (aY (by repeat array_get_dec) rfl rfl ?_)
     refine ai (aY (by repeat array_get_dec) rfl rfl (aD ?_))
     refine ai (aY (by repeat array_get_dec) rfl rfl (aD (aD (aD (aD ?_)))))
     rw [eV]
     refine ⟨ff,some (.val (.str dY)),some (.val (.int k)),.val,.val,?_⟩
     simp only [bG,if_pos hk,if_neg hg]
     rw [Int.zero_add];rfl
   ·have hk:¬ 0<k:=by have:=of_decide_eq_false h;omega
    refine aD (aD (aD (aD ?_)))
    rw [eV]
    refine ⟨ff,some (.val (.str dY)),some (.val (.int k)),.val,.val,?_⟩
    simp only [bG,if_neg hk];rfl
 ·subst hfr
  simp at hpl
  subst hpl
  obtain ⟨b1,b2,b3⟩:=uI p eO
  have e:ao p=cZ (p.foldl bG eO):=rfl
  rw [e]
  generalize p.foldl bG eO=st at *
  simp [eO] at b1 b2 b3
  have sl:=kg st.2.1 st.2.2.1 st.2.2.2
  have rs:=fun fr=>eE (fr:=fr) (nT (w:=w) (n:=n) hs st.2.1 st.2.2.1 st.2.2.2)
  have ex:=fun fr=>ext st fr (by omega)
  have mk:toT (.lst ((cZ st).map Pt.v))=some (aC (cZ st)):=by rw [xS];exact gb (cS (by simp [cZ];omega))
  refine ai (fH (by (repeat (first | array_get_dec | exact rs _ | exact ex _))) ?_)
  exact ai (bP (kZ (aB rfl) mk) ⟨rfl,rfl⟩)
end Pv
namespace Pv
open Ev (D cz b7 TY BI ME T E Es Eo It S Ss Fn big deep b2i rep cH eG b5 aU cut cU eB slots)
section
variable {o:Option Sl}{l:List V}{fr:Fr}{i:Nat}{s:Sl}
end
inductive Tq where
 | at (i:Nat) | sg (c:Nat)
deriving DecidableEq
noncomputable def Pt.asks:Pt→List (List Nat)
 | .keep n=>List.replicate n []
 | .drop s=>s.map fun c=>[c]
 | .put _=>[]
noncomputable def asks (c:List Pt):List (List Nat):=c.flatMap Pt.asks
noncomputable def Pt.told (k:Nat):Pt→List Tq
 | .keep n=>(List.range n).map fun j=>.at (k+j)
 | .drop _=>[]
 | .put s=>s.map .sg
noncomputable def told (k:Nat):List Pt→List Tq
 | []=>[]
 | p :: c=>p.told k++told (k+p.asks.length) c
theorem dP (a b:List Pt):asks (a++b)=asks a++asks b:=by simp [asks]
theorem gh (a b:List Pt):∀ k,told k (a++b)=told k a++told (k+(asks a).length) b:=by
 induction a with
 | nil=>intro k;simp [told,asks]
 | cons p a ih=>
  intro k
  simp only [List.cons_append,told,ih,List.append_assoc]
  congr 3
  simp [asks];omega
theorem DK (p:Pt):p.asks.length≤p.n:=by cases p <;> simp [Pt.asks,Pt.n]
theorem DL (k:Nat) (p:Pt):(p.told k).length≤p.n:=by cases p <;> simp [Pt.told,Pt.n]
theorem JL (c:List Pt):(asks c).length≤tot c:=by
 induction c with
 | nil=>simp [asks]
 | cons p c ih=>have:=DK p;simp only [asks,List.flatMap_cons,List.length_append,br] at *;omega
theorem JM (c:List Pt):∀ k,(told k c).length≤tot c:=by
 induction c with
 | nil=>intro k;simp [told]
 | cons p c ih=>intro k;have:=DL k p;have:=ih (k+p.asks.length);simp only [told,List.length_append,br];omega
noncomputable def iF (c:List Pt):List (List Nat)×List Tq:=(asks c,told 0 c)
noncomputable def Pt.word:Pt→List Nat
 | .keep _=>dY
 | .put _=>jl
 | .drop _=>iW
noncomputable def iY (a b:List Nat):Bool:=!(decide (a=b) || (decide (a=jl)&&decide (b=iW)))
noncomputable def iG:List (List Nat)→Bool
 | a :: b :: r=>iY a b&&iG (b :: r)
 | _=>true
noncomputable def FU (p:Pt):Bool:=p.n != 0
noncomputable def j0 (c:List Pt):Bool:=iG (c.map Pt.word)&&c.all FU
theorem SI {α:Type}(l:List α):cut l (some 1) none=l.tail:=by
 unfold cut aU
 cases l with
 | nil=>rfl
 | cons a l=>
  have:min (1:Int).toNat (a :: l).length=1:=by simp
  simp [this]
theorem fh (k:Nat) (g x:List Nat):asks (bZ k g x)=List.replicate k []++g.map fun c=>[c]:=by
  unfold bZ
  by_cases hk:0<k <;> by_cases hg:g=[] <;> by_cases hx:x=[] <;> simp [hk,hg,hx,asks,Pt.asks]
  all_goals (have:k=0:=by omega
             subst this;simp)
theorem iH (k:Nat) (g x:List Nat) (j:Nat):told j (bZ k g x)=(List.range k).map (fun i=>Tq.at (j+i))++x.map Tq.sg:=by
  unfold bZ
  by_cases hk:0<k <;> by_cases hg:g=[] <;> by_cases hx:x=[] <;> simp [hk,hg,hx,told,Pt.told,Pt.asks]
  all_goals (have:k=0:=by omega
             subst this;simp)
theorem zm (st:FS) (p:Pt):asks (cZ (bG st p))=asks (cZ st++[p])∧∀ j,told j (cZ (bG st p))=told j (cZ st++[p]):=by
 obtain ⟨ps,k,g,x⟩:=st
 have e1:∀ a:List Pt,asks (a++[p])=asks a++p.asks:=fun a=>by simp [asks]
 have e2:∀ (a:List Pt) j,told j (a++[p])=told j a++p.told (j+(asks a).length):=fun a j=>by simp [gh,told]
 rw [e1]
 cases p with
 | drop s=>
  refine ⟨by simp [bG,cZ,dP,fh,Pt.asks],fun j=>?_⟩
  rw [e2]
  simp [bG,cZ,gh,iH,Pt.told]
 | put s=>
  refine ⟨by simp [bG,cZ,dP,fh,Pt.asks],fun j=>?_⟩
  rw [e2]
  simp [bG,cZ,gh,iH,Pt.told]
 | keep m=>
  simp only [bG]
  split
  ·split
   ·rename_i h
    obtain ⟨rfl,rfl⟩:=h
    refine ⟨by simp [cZ,dP,fh,Pt.asks],fun j=>?_⟩
    rw [e2]
    simp [cZ,dP,gh,iH,fh,Pt.told,List.range_add,Nat.add_assoc]
   ·refine ⟨by simp [cZ,dP,fh,Pt.asks],fun j=>?_⟩
    rw [e2]
    simp [cZ,dP,gh,iH,fh,Pt.told,Nat.add_assoc]
  ·rename_i h
   have:m=0:=by omega
   subst this
   refine ⟨by simp [Pt.asks],fun j=>?_⟩
   rw [e2]
   simp [Pt.told]
theorem pS (c:List Pt):∀ st:FS,asks (cZ (c.foldl bG st))=asks (cZ st++c)∧∀ j,told j (cZ (c.foldl bG st))=told j (cZ st++c):=by
 induction c with
 | nil=>intro st;simp
 | cons p c ih=>
  intro st
  obtain ⟨h1,h2⟩:=ih (bG st p)
  obtain ⟨h3,h4⟩:=zm st p
  simp only [List.foldl_cons]
  have e:cZ st++p :: c=(cZ st++[p])++c:=by simp
  refine ⟨?_,fun j=>?_⟩
  ·rw [h1,e,dP,dP _ c,h3]
  ·rw [h2 j,e,gh,gh _ c,h4 j,h3]
theorem dg (c:List Pt):asks (ao c)=asks c:=by
 have:=(pS c eO).1
 simpa [ao,eO,cZ,bZ] using this
theorem bx (c:List Pt) (j:Nat):told j (ao c)=told j c:=by
 have:=(pS c eO).2 j
 simpa [ao,eO,cZ,bZ] using this
theorem lu (c:List Pt):iF (ao c)=iF c:=by simp [iF,dg,bx]
noncomputable def kps (c:List Pt):Nat:=tot (c.filter dU)
theorem fK (c:List Pt):(asks c).length=aE c:=by
 induction c with
 | nil=>rfl
 | cons p c ih=>cases p <;> simp [asks,aE,tot,bM,Pt.asks,Pt.n] at ih ⊢ <;> omega
theorem dQ (c:List Pt):∀ j,(told j c).length=cE c:=by
 induction c with
 | nil=>intro j;rfl
 | cons p c ih=>intro j;cases p <;> simp [told,cE,tot,b8,Pt.told,Pt.n,ih] at ih ⊢
theorem ly (n:Nat) (c:List Pt):aE (.keep n :: c)=n+aE c:=by simp [aE,tot,bM,Pt.n]
theorem nj (s:List Nat) (c:List Pt):aE (.drop s :: c)=s.length+aE c:=by simp [aE,tot,bM,Pt.n]
theorem j3 (s:List Nat) (c:List Pt):aE (.put s :: c)=aE c:=by simp [aE,tot,bM,Pt.n]
theorem zo (n:Nat) (c:List Pt):cE (.keep n :: c)=n+cE c:=by simp [cE,tot,b8,Pt.n]
theorem zp (s:List Nat) (c:List Pt):cE (.drop s :: c)=cE c:=by simp [cE,tot,b8,Pt.n]
theorem zq (s:List Nat) (c:List Pt):cE (.put s :: c)=s.length+cE c:=by simp [cE,tot,b8,Pt.n]
theorem FY (n:Nat) (c:List Pt):cst (.keep n :: c)=cst c:=by simp [cst,tot,dU,Pt.n]
theorem FZ (s:List Nat) (c:List Pt):cst (.drop s :: c)=s.length+cst c:=by simp [cst,tot,dU,Pt.n]
theorem Ga (s:List Nat) (c:List Pt):cst (.put s :: c)=s.length+cst c:=by simp [cst,tot,dU,Pt.n]
theorem Gb (n:Nat) (c:List Pt):kps (.keep n :: c)=n+kps c:=by simp [kps,tot,List.filter_cons,dU,Pt.n]
theorem Gd (s:List Nat) (c:List Pt):kps (.drop s :: c)=kps c:=by simp [kps,tot,dU,Pt.n]
theorem Ge (s:List Nat) (c:List Pt):kps (.put s :: c)=kps c:=by simp [kps,tot,dU,Pt.n]
noncomputable def isAt:Tq→Bool
 | .at _=>true
 | _=>false
theorem jN (c:List Pt):∀ j,((told j c).filter isAt).length=kps c:=by
 induction c with
 | nil=>intro j;rfl
 | cons p c ih=>
  intro j
  have e1:∀ (m:Nat) (f:Nat→Nat),(((List.range m).map fun i=>Tq.at (f i)).filter isAt).length=m:=fun m f=>by
   rw [List.filter_eq_self.mpr]
   ·simp
   ·intro a ha;obtain ⟨i,_,rfl⟩:=List.mem_map.mp ha;rfl
  have e2:∀ s:List Nat,((s.map Tq.sg).filter isAt).length=0:=fun s=>by
   rw [List.filter_eq_nil_iff.mpr]
   ·rfl
   ·intro a ha;obtain ⟨i,_,rfl⟩:=List.mem_map.mp ha;simp [isAt]
  cases p with
  | keep m=>simp only [told,Pt.told,List.filter_append,List.length_append,e1,ih,kps,tot,dU,List.filter_cons,if_true,List.map_cons,List.sum_cons,Pt.n]
  | put s=>simp only [told,Pt.told,List.filter_append,List.length_append,e2,ih,kps,dU,List.filter_cons];simp
  | drop s=>simp only [told,Pt.told,List.filter_append,List.length_append,ih,kps,dU,List.filter_cons];simp
theorem mP (c:List Pt):(cst c:Int)=aE c - kps c+cE c - kps c:=by
 induction c with
 | nil=>rfl
 | cons p c ih=>cases p <;> simp only [FY,FZ,Ga,ly,nj,j3,zo,zp,zq,Gb,Gd,Ge] <;> omega
theorem Bq (c:List Pt):tot c+kps c=aE c+cE c:=by
 induction c with
 | nil=>rfl
 | cons p c ih=>cases p <;> simp only [br,Pt.n,ly,nj,j3,zo,zp,zq,Gb,Gd,Ge] <;> omega
theorem iR (c:List Pt):aE (ao c)=aE c:=by rw [←fK,←fK,dg]
theorem oG (c:List Pt):cE (ao c)=cE c:=by rw [←dQ _ 0,←dQ _ 0,bx]
theorem jO (c:List Pt):kps (ao c)=kps c:=by rw [←jN _ 0,←jN _ 0,bx]
theorem gi (c:List Pt):cst (ao c)=cst c:=by
 have h1:=mP (ao c)
 have h2:=mP c
 rw [iR,oG,jO] at h1
 omega
theorem bQ (c:List Pt):tot (ao c)=tot c:=by
 have h1:=Bq (ao c)
 have h2:=Bq c
 rw [iR,oG,jO] at h1
 omega
theorem xX:∀ (a:List (List Nat)) (b:List (List Nat)),iG (a++b)=true↔iG a=true∧iG b=true∧∀ x∈a.getLast?,∀ y∈b.head?,iY x y=true
 | [],b=>by simp [iG]
 | [x],[]=>by simp [iG]
 | [x],y :: b=>by simp [iG,and_comm]
 | x :: y :: a,b=>by
  have:=xX (y :: a) b
  simp only [List.cons_append] at this ⊢
  simp only [iG,Bool.and_eq_true,this,List.getLast?_cons_cons]
  constructor
  ·rintro ⟨h1,h2,h3,h4⟩;exact ⟨⟨h1,h2⟩,h3,h4⟩
  ·rintro ⟨⟨h1,h2⟩,h3,h4⟩;exact ⟨h1,h2,h3,h4⟩
theorem we (k:Nat) (g x:List Nat):j0 (bZ k g x)=true:=by
 unfold bZ
 by_cases hk:0<k <;> by_cases hg:g=[] <;> by_cases hx:x=[] <;> simp [hk,hg,hx,j0,FU,iG,iY,Pt.word,Pt.n,dY,jl,iW]
 all_goals omega
noncomputable def uK (st:FS):Prop:=j0 st.1=true∧(st.1≠[]→0<st.2.1)∧∀ p∈st.1.getLast?,p.word≠dY
theorem JN {a b:List Pt}(ha:j0 a=true) (hb:j0 b=true) (h:∀ p∈a.getLast?,∀ q∈b.head?,iY p.word q.word=true):j0 (a++b)=true:=by
 simp only [j0,Bool.and_eq_true] at ha hb ⊢
 refine ⟨?_,by rw [List.all_append,ha.2,hb.2];rfl⟩
 rw [List.map_append,xX]
 refine ⟨ha.1,hb.1,fun x hx y hy=>?_⟩
 simp at hx hy
 obtain ⟨p,hp,rfl⟩:=hx
 obtain ⟨q,hq,rfl⟩:=hy
 exact h p hp q hq
theorem uL {k:Nat}{g x:List Nat}(hk:0<k):(bZ k g x).head?=some (.keep k):=by simp [bZ,hk]
theorem JP {w:List Nat}(h:w≠dY) (hw:w=jl∨w=iW):iY w dY=true:=by
 rcases hw with rfl | rfl <;> decide
theorem JQ (p:Pt):p.word=dY∨p.word=jl∨p.word=iW:=by cases p <;> simp [Pt.word]
theorem uM {st:FS}(h:uK st):j0 (cZ st)=true:=by
 refine JN h.1 (we _ _ _) fun p hp q hq=>?_
 have hne:st.1≠[]:=by intro z;rw [z] at hp;simp at hp
 rw [uL (h.2.1 hne)] at hq
 simp at hq;subst hq
 have hw:=h.2.2 p hp
 exact JP hw ((JQ p).resolve_left hw)
theorem uN {k:Nat}{g x:List Nat}(h:¬ (g=[]∧x=[])):∀ p∈(bZ k g x).getLast?,p.word≠dY:=by
 unfold bZ
 by_cases hx:x=[]
 ·have hg:g≠[]:=fun z=>h ⟨z,hx⟩
  intro p hp
  simp [hg,hx] at hp
  subst hp
  simp [Pt.word,iW,dY]
 ·intro p hp
  simp [hx] at hp
  subst hp
  simp [Pt.word,jl,dY]
theorem Br {st:FS}(h:uK st) (p:Pt):uK (bG st p):=by
 cases p with
 | drop s=>exact h
 | put s=>exact h
 | keep k=>
  simp only [bG]
  split
  ·rename_i hk
   split
   ·exact ⟨h.1,fun z=>by simp;omega,h.2.2⟩
   ·rename_i U3
    refine ⟨uM h,fun _=>hk,fun p hp=>?_⟩
    rw [List.getLast?_append] at hp
    cases z:(bZ st.2.1 st.2.2.1 st.2.2.2).getLast? with
    | none=>
     exfalso
     rw [List.getLast?_eq_none_iff] at z
     unfold bZ at z
     by_cases hx:st.2.2.2=[] <;> by_cases hg:st.2.2.1=[] <;> simp [hx,hg] at z U3
    | some q=>
     rw [z] at hp
     simp at hp
     subst hp
     exact uN U3 q z
  ·exact h
theorem cj (c:List Pt):j0 (ao c)=true:=by
 have:∀ (c:List Pt) (st:FS),uK st→uK (c.foldl bG st):=fun c=>by
  induction c with
  | nil=>exact fun st h=>h
  | cons p c ih=>exact fun st h=>ih _ (Br h p)
 exact uM (this c eO ⟨rfl,fun z=>absurd rfl z,fun p hp=>by simp [eO] at hp⟩)
end Pv
namespace Pv
open Ev (D cz b7 TY BI ME T E Es Eo It S Ss Fn big deep b2i rep cH eG b5 aU cut cU eB slots)
abbrev Bl:=List Nat×List Nat
abbrev BS:=List Bl×Bl
noncomputable def eF (st:BS):Pt→BS
 | .drop s=>(st.1,(st.2.1++s,st.2.2))
 | .put s=>(st.1,(st.2.1,st.2.2++s))
 | .keep 0=>st
 | .keep (n+1)=>(st.1++st.2 :: List.replicate n ([],[]),([],[]))
noncomputable def nU:BS:=([],([],[]))
noncomputable def blocks (c:List Pt):BS:=c.foldl eF nU
noncomputable def kH (st:List Pt×Nat) (b:Bl):List Pt×Nat:=if b.1=[]∧b.2=[] then (st.1,st.2+1) else (st.1++bZ st.2 b.1 b.2,1)
noncomputable def pk (bs:List Bl):List Pt×Nat:=bs.foldl kH ([],0)
theorem DM (n:Nat):∀ st:List Pt×Nat,(List.replicate n (([],[]):Bl)).foldl kH st=(st.1,st.2+n):=by
 induction n with
 | zero=>intro st;simp
 | succ n ih=>intro st;simp [List.replicate_succ,kH,ih];omega
noncomputable def xY (st:BS):FS:=((pk st.1).1,(pk st.1).2,st.2.1,st.2.2)
theorem DN (st:BS) (p:Pt):bG (xY st) p=xY (eF st p):=by
 obtain ⟨bs,g,x⟩:=st
 cases p with
 | drop s=>rfl
 | put s=>rfl
 | keep n=>
  cases n with
  | zero=>rfl
  | succ n=>
   have e:pk (bs++(g,x) :: List.replicate n ([],[]))=((kH (pk bs) (g,x)).1,(kH (pk bs) (g,x)).2+n):=by
    simp only [pk,List.foldl_append,List.foldl_cons,DM]
   simp only [xY,eF,e,bG,Nat.succ_pos,if_true,kH]
   by_cases h:g=[]∧x=[]
   ·simp [h];omega
   ·simp [h];omega
theorem DO (c:List Pt):∀ st:BS,c.foldl bG (xY st)=xY (c.foldl eF st):=by
 induction c with
 | nil=>intro st;rfl
 | cons p c ih=>intro st;simp only [List.foldl_cons,DN,ih]
theorem iZ (c:List Pt):ao c=cZ (xY (blocks c)):=by
 unfold ao blocks
 rw [←DO];rfl
noncomputable def Bs (st:List (List Nat)×List Nat):List Nat→List (List Nat)×List Nat
 | []=>(st.1++[st.2],[])
 | c :: _=>(st.1,st.2++[c])
noncomputable def spT (st:List (List Nat)×List Nat):Tq→List (List Nat)×List Nat
 | .at _=>(st.1++[st.2],[])
 | .sg c=>(st.1,st.2++[c])
theorem Bt (s:List Nat):∀ st,(s.map fun c=>[c]).foldl Bs st=(st.1,st.2++s):=by
 induction s with
 | nil=>intro st;simp
 | cons c s ih=>intro st;simp [Bs,ih]
theorem DP (n:Nat):∀ st,(List.replicate n []).foldl Bs st=if n=0 then st else (st.1++st.2 :: List.replicate (n - 1) [],[]):=by
 induction n with
 | zero=>intro st;rfl
 | succ n ih=>
  intro st
  simp only [List.replicate_succ,List.foldl_cons,Bs,ih]
  cases n with
  | zero=>simp
  | succ n=>simp [List.replicate_succ]
theorem Bu (s:List Nat):∀ st,(s.map Tq.sg).foldl spT st=(st.1,st.2++s):=by
 induction s with
 | nil=>intro st;simp
 | cons c s ih=>intro st;simp [spT,ih]
theorem DQ (n:Nat):∀ (k:Nat) st,((List.range n).map fun j=>Tq.at (k+j)).foldl spT st=if n=0 then st else (st.1++st.2 :: List.replicate (n - 1) [],[]):=by
 induction n with
 | zero=>intro k st;rfl
 | succ n ih=>
  intro k st
  rw [List.range_succ,List.map_append,List.foldl_append,ih]
  cases n with
  | zero=>simp [spT]
  | succ n=>
   simp [spT]
   rw [←List.replicate_succ',List.replicate_succ]
theorem pT (c:List Pt):∀ st:BS,(asks c).foldl Bs (st.1.map Prod.fst,st.2.1)=((c.foldl eF st).1.map Prod.fst,(c.foldl eF st).2.1):=by
 induction c with
 | nil=>intro st;rfl
 | cons p c ih=>
  intro st
  have e:asks (p :: c)=p.asks++asks c:=by simp [asks]
  rw [e,List.foldl_append,List.foldl_cons,←ih]
  congr 1
  cases p with
  | drop s=>simp [Pt.asks,Bt,eF]
  | put s=>simp [Pt.asks,eF]
  | keep n=>
   simp only [Pt.asks,DP]
   cases n with
   | zero=>rfl
   | succ n=>simp [eF]
theorem pU (c:List Pt):∀ (k:Nat) (st:BS),(told k c).foldl spT (st.1.map Prod.snd,st.2.2)=((c.foldl eF st).1.map Prod.snd,(c.foldl eF st).2.2):=by
 induction c with
 | nil=>intro k st;rfl
 | cons p c ih=>
  intro k st
  rw [told,List.foldl_append,List.foldl_cons,←ih (k+p.asks.length)]
  congr 1
  cases p with
  | put s=>simp [Pt.told,Bu,eF]
  | drop s=>simp [Pt.told,eF]
  | keep n=>
   simp only [Pt.told,DQ]
   cases n with
   | zero=>rfl
   | succ n=>simp [eF]
theorem xZ {α β:Type}:∀ {a b:List (α×β)},a.map Prod.fst=b.map Prod.fst→a.map Prod.snd=b.map Prod.snd→a=b
 | [],[],_,_=>rfl
 | [],_ :: _,h,_=>by simp at h
 | _ :: _,[],h,_=>by simp at h
 | (x,y) :: a,(x',y') :: b,h1,h2=>by
  simp at h1 h2
  rw [h1.1,h2.1,xZ h1.2 h2.2]
theorem mQ {a b:List Pt}(h:iF a=iF b):blocks a=blocks b:=by
 have hA:asks a=asks b:=congrArg Prod.fst h
 have hT:told 0 a=told 0 b:=congrArg Prod.snd h
 have a1:=pT a nU
 have b1:=pT b nU
 have a2:=pU a 0 nU
 have b2:=pU b 0 nU
 rw [hA,b1] at a1
 rw [hT,b2] at a2
 have e1:=congrArg Prod.fst a1
 have e2:=congrArg Prod.snd a1
 have e3:=congrArg Prod.fst a2
 have e4:=congrArg Prod.snd a2
 unfold blocks
 exact Prod.ext (xZ e1.symm e3.symm) (Prod.ext e2.symm e4.symm)
theorem gS (a b:List Pt):ao a=ao b↔iF a=iF b:=by
 constructor
 ·intro h
  rw [←lu a,←lu b,h]
 ·intro h
  rw [iZ,iZ,mQ h]
theorem cY (a:List Pt):ao (ao a)=ao a:=(gS _ _).mpr (lu a)
noncomputable def Pt.sw:Pt→Pt
 | .keep n=>.keep n
 | .put s=>.drop s
 | .drop s=>.put s
noncomputable def sw (c:List Pt):List Pt:=c.map Pt.sw
theorem r8 (c:List Pt):∀ st:BS,(sw c).foldl eF (st.1.map Prod.swap,st.2.swap)=((c.foldl eF st).1.map Prod.swap,(c.foldl eF st).2.swap):=by
 induction c with
 | nil=>intro st;rfl
 | cons p c ih=>
  intro st
  simp only [sw,List.map_cons,List.foldl_cons] at ih ⊢
  rw [←ih]
  congr 1
  cases p with
  | put s=>rfl
  | drop s=>rfl
  | keep n=>cases n <;> simp [Pt.sw,eF]
theorem qL {a b:List Pt}(h:ao a=ao b):ao (sw a)=ao (sw b):=by
 have hb:=mQ ((gS a b).mp h)
 rw [iZ,iZ]
 have a1:=r8 a nU
 have b1:=r8 b nU
 have e:blocks (sw a)=blocks (sw b):=by
  unfold blocks at hb ⊢
  have z:((nU.1.map Prod.swap,nU.2.swap):BS)=nU:=rfl
  rw [z] at a1 b1
  rw [a1,b1,hb]
 rw [e]
noncomputable def ez (c:List Pt):List Pt:=ao (sw c)
theorem Bv (c:List Pt):ez (ao c)=ez c:=qL (cY c)
theorem NO (c:List Pt):aE (sw c)=cE c:=by
 induction c with
 | nil=>rfl
 | cons p c ih=>cases p <;> simp only [sw,List.map_cons,Pt.sw,ly,nj,j3,zo,zp,zq] at ih ⊢ <;> omega
noncomputable def aP:List Pt→List Nat→Bool
 | [],t=>t.isEmpty
 | .keep n :: c,t=>decide (n≤t.length)&&aP c (t.drop n)
 | .drop s :: c,t=>s.isPrefixOf t&&aP c (t.drop s.length)
 | .put _ :: c,t=>aP c t
noncomputable def aL:List Pt→List Nat→List Nat
 | [],_=>[]
 | .keep n :: c,t=>t.take n++aL c (t.drop n)
 | .drop s :: c,t=>aL c (t.drop s.length)
 | .put s :: c,t=>s++aL c t
noncomputable def aR:List (List Nat)→List Nat→Bool
 | [],[]=>true
 | x :: a,c :: t=>(decide (x=[]) || decide (x=[c]))&&aR a t
 | _,_=>false
theorem Bw (n:Nat) (a:List (List Nat)):∀ t,aR (List.replicate n []++a) t=(decide (n≤t.length)&&aR a (t.drop n)):=by
 induction n with
 | zero=>intro t;simp
 | succ n ih=>
  intro t
  cases t with
  | nil=>simp [List.replicate_succ,aR]
  | cons c t=>simp [List.replicate_succ,aR,ih]
theorem Bx (s:List Nat) (a:List (List Nat)):∀ t,aR ((s.map fun c=>[c])++a) t=(s.isPrefixOf t&&aR a (t.drop s.length)):=by
 induction s with
 | nil=>intro t;simp
 | cons c s ih=>
  intro t
  cases t with
  | nil=>simp [aR]
  | cons d t=>
   simp only [List.map_cons,List.cons_append,aR,ih,List.isPrefixOf,List.length_cons,List.drop_succ_cons]
   by_cases h:c=d <;> simp [h]
theorem dm (c:List Pt):∀ t,aP c t=aR (asks c) t:=by
 induction c with
 | nil=>intro t;cases t <;> rfl
 | cons p c ih=>
  intro t
  have e:asks (p :: c)=p.asks++asks c:=by simp [asks]
  rw [e]
  cases p with
  | keep n=>simp [aP,Pt.asks,Bw,ih]
  | drop s=>simp [aP,Pt.asks,Bx,ih]
  | put s=>simp [aP,Pt.asks,ih]
theorem eS (c:List Pt) (t:List Nat):aP (ao c) t=aP c t:=by rw [dm,dm,dg]
noncomputable def pick (t:List Nat):Tq→List Nat
 | .at i=>(t[i]?).toList
 | .sg c=>[c]
theorem By (c:List Pt):∀ (t:List Nat) (k:Nat),aL c (t.drop k)=(told k c).flatMap (pick t):=by
 induction c with
 | nil=>intro t k;rfl
 | cons p c ih=>
  intro t k
  rw [told,List.flatMap_append,←ih]
  cases p with
  | put s=>
   simp only [aL,Pt.told,Pt.asks,List.length_nil,Nat.add_zero]
   congr 1
   induction s with
   | nil=>rfl
   | cons c s ih=>simp [pick] at ih ⊢;exact ih
  | drop s=>simp [aL,Pt.told,Pt.asks,Nat.add_comm]
  | keep n=>
   simp only [aL,Pt.told,Pt.asks,List.length_replicate,List.drop_drop]
   congr 1
   induction n generalizing k with
   | zero=>simp
   | succ n ihn=>
    rw [List.range_succ,List.map_append,List.flatMap_append,←ihn]
    rw [List.take_add_one]
    simp [pick]
theorem dh (c:List Pt) (t:List Nat):aL (ao c) t=aL c t:=by
 have h1:=By (ao c) t 0
 have h2:=By c t 0
 rw [bx,←h2] at h1
 simpa using h1
theorem uO (c:List Pt):∀ t,aP c t=true→aP (sw c) (aL c t)=true∧aL (sw c) (aL c t)=t:=by
 induction c with
 | nil=>intro t h;simp [aP] at h;subst h;simp [sw,aP,aL]
 | cons p c ih=>
  intro t h
  cases p with
  | keep n=>
   simp only [aP,Bool.and_eq_true,decide_eq_true_eq] at h
   obtain ⟨h1,h2⟩:=ih _ h.2
   have hl:(t.take n).length=n:=by simp;omega
   simp only [sw,List.map_cons,Pt.sw,aL,aP] at h1 h2 ⊢
   have e1:(t.take n++aL c (t.drop n)).drop n=aL c (t.drop n):=by rw [List.drop_append_of_le_length (by omega),List.drop_eq_nil_of_le (by omega)];rfl
   have e2:(t.take n++aL c (t.drop n)).take n=t.take n:=by rw [List.take_append_of_le_length (by omega),List.take_take,Nat.min_self]
   rw [e1,e2,h1,h2]
   simp
   omega
  | drop s=>
   simp only [aP,Bool.and_eq_true] at h
   obtain ⟨h1,h2⟩:=ih _ h.2
   simp only [sw,List.map_cons,Pt.sw,aL,aP] at h1 h2 ⊢
   rw [h2]
   refine ⟨h1,?_⟩
   obtain ⟨r,rfl⟩:=List.isPrefixOf_iff_prefix.mp h.1
   simp
  | put s=>
   simp only [aP] at h
   obtain ⟨h1,h2⟩:=ih _ h
   simp only [sw,List.map_cons,Pt.sw,aL,aP] at h1 h2 ⊢
   simp [h1,h2]
end Pv
namespace Pv
open Ev (D cz b7 TY BI ME T E Es Eo It S Ss Fn big deep b2i rep cH eG b5 aU cut cU eB slots)
noncomputable def DR:S:=.set 2 (.c (.int 0))
noncomputable def DS (bC:Nat):Ss:=(.cons (.iff (.an (.cmp .eq (.ix (.v 3) (.c (.int 0))) (.c (.str [100,114,111,112]))) (.cmp .ne (.sl (.v 1) (.yes (.v 2)) (.yes (.bin .add (.v 2) (.cl bC (.cons (.v 3) .nil))))) (.ix (.v 3) (.c (.int 1))))) (.cons (.ret (.c (.bl false))) .nil) .nil) (.cons (.iff (.cmp .ne (.ix (.v 3) (.c (.int 0))) (.c (.str [112,117,116]))) (.cons (.set 2 (.bin .add (.v 2) (.cl bC (.cons (.v 3) .nil)))) .nil) .nil) .nil))
noncomputable def DT (bC:Nat):S:=.for (.one 3) (.seq (.v 0)) (DS bC)
noncomputable def DU:S:=.ret (.cmp .eq (.v 2) (.bi .len (.cons (.v 1) .nil)))
noncomputable def BA (bC:Nat):Fn:=⟨2,4,(.cons DR (.cons (DT bC) (.cons DU .nil)))⟩
noncomputable def DV (uP:Nat):S:=.iff (.nt (.cl uP (.cons (.v 0) (.cons (.v 1) .nil)))) (.cons (.fP) .nil) .nil
noncomputable def DW:S:=.set 2 (.lst .nil)
noncomputable def DX:S:=.set 3 (.c (.int 0))
noncomputable def DY:Ss:=(.cons (.iff (.cmp .eq (.v 4) (.c (.str [112,117,116]))) (.cons (.exp (.me .append (.v 2) (.cons (.v 5) .nil))) .nil) (.cons (.iff (.cmp .eq (.v 4) (.c (.str [100,114,111,112]))) (.cons (.set 3 (.bin .add (.v 3) (.bi .len (.cons (.v 5) .nil)))) .nil) (.cons (.exp (.me .append (.v 2) (.cons (.sl (.v 1) (.yes (.v 3)) (.yes (.bin .add (.v 3) (.v 5)))) .nil))) (.cons (.set 3 (.bin .add (.v 3) (.v 5))) .nil))) .nil)) .nil)
noncomputable def DZ:S:=.for (.many [4,5]) (.seq (.v 0)) DY
noncomputable def D0:S:=.ret (.me .join (.c (.str [])) (.cons (.v 2) .nil))
noncomputable def NP (uP:Nat):Fn:=⟨2,6,(.cons (DV uP) (.cons DW (.cons DX (.cons DZ (.cons D0 .nil)))))⟩
noncomputable def zu (bq:Nat):S:=.ret (.cl bq (.cons (.gv (.comp (.tup (.cons (.ji [(.str [107,101,101,112],.str [107,101,101,112]),(.str [112,117,116],.str [100,114,111,112]),(.str [100,114,111,112],.str [112,117,116])] (.v 1)) (.cons (.v 2) .nil))) (.many [1,2]) (.seq (.v 0)) .no)) .nil))
noncomputable def D4 (bq:Nat):Fn:=⟨1,3,(.cons (zu bq) .nil)⟩
noncomputable def wg (bq:Nat):S:=.ret (.cl bq (.cons (.tup (.cons (.tup (.cons (.c (.str [107,101,101,112])) (.cons (.v 0) .nil))) .nil)) .nil))
noncomputable def g7 (bq:Nat):Fn:=⟨1,1,(.cons (wg bq) .nil)⟩
theorem uQ {α:Type}(l:List α) (p k:Nat):cut l (some (p:Int)) (some ((p:Int)+k))=(l.drop p).take k:=by
 have h1:¬ (p:Int)<0:=by omega
 have h2:¬ (p:Int)+k<0:=by omega
 have h3:((p:Int)+k).toNat=p+k:=by omega
 simp only [cut,aU,h1,h2,if_false,h3,Int.toNat_natCast]
 by_cases hp:p≤l.length
 ·rw [Nat.min_eq_left hp]
  by_cases hk:p+k≤l.length
  ·rw [Nat.min_eq_left hk];congr 1;omega
  ·rw [Nat.min_eq_right (by omega),List.take_of_length_le (by simp),List.take_of_length_le (by simp;omega)]
 ·have e1:min p l.length=l.length:=by omega
  rw [e1,List.drop_eq_nil_of_le (Nat.le_refl _),List.drop_eq_nil_of_le (by omega)]
  simp
theorem pre_take {s t:List Nat}:s.isPrefixOf t=decide (t.take s.length=s):=by
 cases h:s.isPrefixOf t with
 | true=>
  obtain ⟨r,rfl⟩:=List.isPrefixOf_iff_prefix.mp h
  simp
 | false=>
  symm
  rw [decide_eq_false_iff_not]
  intro e
  have:s.isPrefixOf t=true:=List.isPrefixOf_iff_prefix.mpr (by have z:=List.take_prefix s.length t;rw [e] at z;exact z)
  rw [h] at this;cases this
theorem fM (a b:List Pt):aE (a++b)=aE a+aE b:=by simp [aE,tot]
theorem uR (c:List Pt):aE c≤tot c:=by rw [←fK];exact JL c
theorem gu {c:List Pt}:∀ {t:List Nat},aP c t=true→t.length=aE c:=by
 induction c with
 | nil=>intro t h;simp [aP] at h;subst h;rfl
 | cons p c ih=>
  intro t h
  cases p with
  | keep n=>simp only [aP,Bool.and_eq_true,decide_eq_true_eq] at h;have:=ih h.2;rw [ly];simp at this;omega
  | drop s=>
   simp only [aP,Bool.and_eq_true] at h
   have h2:=ih h.2
   obtain ⟨r,rfl⟩:=List.isPrefixOf_iff_prefix.mp h.1
   rw [nj];simp at h2 ⊢;omega
  | put s=>rw [j3];exact ih h
theorem jP (c:List Pt):∀ t,(aL c t).length≤t.length+tot c:=by
 induction c with
 | nil=>intro t;simp [aL]
 | cons p c ih=>
  intro t
  rw [br]
  cases p with
  | keep n=>have:=ih (t.drop n);simp [aL,Pt.n] at this ⊢;omega
  | drop s=>have:=ih (t.drop s.length);simp [aL,Pt.n] at this ⊢;omega
  | put s=>have:=ih t;simp [aL,Pt.n] at this ⊢;omega
section
variable {F:List Fn}{w n aJ uS aV aM i:Nat}
theorem D5 (c:List Pt) (t:List Nat) (q:Nat) (p:Pt) (l:List Pt) (h:aP c t=(decide (q≤t.length)&&aP (p :: l) (t.drop q))) :
  (b8 p=true→(∃ s,p=.drop s∧(if (t.drop q).take s.length=s then aP c t=(decide (q+s.length≤t.length)&&aP l (t.drop (q+s.length))) else aP c t=false)))∧
  (b8 p=false→aP c t=(decide (q+aE [p]≤t.length)&&aP l (t.drop (q+aE [p])))):=by
 cases p with
 | drop s=>
  refine ⟨fun _=>⟨s,rfl,?_⟩,fun z=>by simp [b8] at z⟩
  simp only [aP,pre_take,List.drop_drop] at h
  split
  ·rename_i hs
   rw [h]
   simp only [hs,decide_true,Bool.true_and]
   have hl:=congrArg List.length hs
   simp at hl
   by_cases hq:q≤t.length
   ·by_cases hq2:q+s.length≤t.length
    ·simp [hq,hq2]
    ·omega
   ·have:¬ q+s.length≤t.length:=by omega
    simp [hq,this]
  ·rename_i hs
   rw [h];simp [hs]
 | keep k=>
  refine ⟨fun z=>by simp [b8] at z,fun _=>?_⟩
  have e:aE [.keep k]=k:=by rw [ly];rfl
  rw [h,e]
  simp only [aP,List.drop_drop,List.length_drop]
  by_cases hq:q≤t.length
  ·by_cases hq2:q+k≤t.length
   ·have:k≤t.length - q:=by omega
    simp [hq,hq2,this]
   ·have:¬ k≤t.length - q:=by omega
    simp [hq2,this]
  ·have:¬ q+k≤t.length:=by omega
   simp [hq,this]
 | put s=>
  refine ⟨fun z=>by simp [b8] at z,fun _=>?_⟩
  have e:aE [.put s]=0:=by rw [j3];rfl
  rw [h,e]
  simp [aP]
theorem D6 (hs:F[aJ]?=some dS) (hf:F[i]?=some (BA aJ)) (c:List Pt) (t:List Nat) (h1:tot c≤10000) (h2:t.length≤10000):run F w (n+2) i [.val (aC c),.val (.str t)]=some (.bl (aP c t),[]):=by
 refine cB hf rfl ?_
 refine ai (aY (by repeat array_get_dec) rfl rfl ?_)
 refine ai (ju (vs:=c.map Pt.v) (eK (eZ rfl) rfl) ?_)
 refine gZ (e:=Pt.v) (fun p l fr=>p++l=c∧aP c t=(decide (aE p≤t.length)&&aP l (t.drop (aE p)))∧∃ a,vo a∧fr=[some (.val (aC c)),some (.val (.str t)),some (.val (.int (aE p))),a]) (fun p x l fr ⟨hpl,hfit,a,ha,hfr⟩=>?_) (fun p fr ⟨hpl,hfit,a,ha,hfr⟩=>?_) c [] _ ⟨rfl,by simp [aE,tot],none,.none,rfl⟩
 ·subst hfr
  have uJ:tot p+x.n+tot l=tot c:=by rw [←hpl,dc,br];omega
  have sz:=fun fr=>bV (fr:=fr) (iQ (w:=w) (n:=n) hs x (by omega))
  obtain ⟨k1,k2⟩:=D5 c t (aE p) x l hfit
  have ff:(p++[x])++l=c:=by simpa using hpl
  have eb:aE (p++[x])=aE p+aE [x]:=fM p [x]
  have ei:((aE (p++[x]):Nat):Int)=(aE p:Int)+(aE [x]:Nat):=by rw [eb];simp
  cases x with
  | drop s=>
   obtain ⟨s',e,k1⟩:=k1 rfl
   cases e
   have e2:aE [.drop s]=s.length:=by rw [nj];rfl
   rw [e2] at eb ei
   have cu:gw (.str t) (some (aE p:Int)) (some ((aE p:Int)+((Pt.drop s).n:Nat)))=some (.str ((t.drop (aE p)).take s.length)):=by rw [gr];exact congrArg (fun z=>some (V.str z)) (uQ t (aE p) s.length)
   by_cases hx:(t.drop (aE p)).take s.length=s
   ·rw [if_pos hx] at k1
    have ne:cop .ne (.str ((t.drop (aE p)).take s.length)) (.str s)=some false:=by rw [gO,decide_eq_true hx];rfl
    refine dR (bind1 rfl ha) (ai (aQ (b:=false) (gg (b2:=false) (aH rfl (by repeat array_get_dec) rfl) (aH rfl (by (repeat (first | array_get_dec | exact sz _))) rfl)) (fun h=>absurd h (by decide)) fun _=>aD ?_))
    refine ai (aQ (by repeat array_get_dec) (fun _=>?_) fun h=>absurd h (by decide))
    refine ai (aY (by (repeat (first | array_get_dec | exact sz _))) rfl rfl (aD (aD ?_)))
    rw [eV]
    exact ⟨ff,by rw [eb];exact k1,some (.val (Pt.drop s).v),.val,by rw [ei];rfl⟩
   ·rw [if_neg hx] at k1
    have ne:cop .ne (.str ((t.drop (aE p)).take s.length)) (.str s)=some true:=by rw [gO,decide_eq_false hx];rfl
    refine dR (bind1 rfl ha) (ai (aQ (b:=true) (gg (b2:=true) (aH rfl (by repeat array_get_dec) rfl) (aH rfl (by (repeat (first | array_get_dec | exact sz _))) rfl)) (fun _=>?_) fun h=>absurd h (by decide)))
    refine ai (bP (by repeat array_get_dec) ?_)
    show nx _ _ _ _ _ _
    rw [k1];exact ⟨rfl,rfl⟩
  | keep k=>
   have k2:=k2 rfl
   have e2:aE [.keep k]=k:=by rw [ly];rfl
   rw [e2] at k2 eb ei
   refine dR (bind1 rfl ha) (ai (aQ (b:=false) (pP (aH rfl (by repeat array_get_dec) rfl)) (fun h=>absurd h (by decide)) fun _=>aD ?_))
   refine ai (aQ (by repeat array_get_dec) (fun _=>?_) fun h=>absurd h (by decide))
   refine ai (aY (by (repeat (first | array_get_dec | exact sz _))) rfl rfl (aD (aD ?_)))
   rw [eV]
   exact ⟨ff,by rw [eb];exact k2,some (.val (Pt.keep k).v),.val,by rw [ei];rfl⟩
  | put s=>
   have k2:=k2 rfl
   have e2:aE [.put s]=0:=by rw [j3];rfl
   rw [e2] at k2 eb
   refine dR (bind1 rfl ha) (ai (aQ (b:=false) (pP (aH rfl (by repeat array_get_dec) rfl)) (fun h=>absurd h (by decide)) fun _=>aD ?_))
   refine ai (aQ (by repeat array_get_dec) (fun h=>absurd h (by decide)) fun _=>aD (aD ?_))
   rw [eV]
   exact ⟨ff,by rw [eb];exact k2,some (.val (Pt.put s).v),.val,by rw [eb];rfl⟩
 ·subst hfr
  simp at hpl
  subst hpl
  have e:decide ((aE p:Int)=(t.length:Nat))=aP p t:=by
   rw [hfit]
   simp only [aP]
   by_cases hq:aE p=t.length
   ·have:(aE p:Int)=t.length:=by omega
    simp [this,hq]
   ·have:¬ (aE p:Int)=t.length:=by omega
    simp [this]
    intro h
    omega
  have ln:dJ .len [.str t]=some (.int (t.length:Nat)):=len_str (by omega)
  have eq:cop .eq (.int (aE p)) (.int (t.length:Nat))=some (aP p t):=by rw [NF,e]
  have sh:fR [some (.val (aC p)),some (.val (.str t)),some (.val (.int (aE p))),a]=[some (.val (aC p)),some (.val (.str t)),some (.val (.int (aE p))),a]:=by
   show _ :: _ :: _ :: [a.map Sl.fX]=_
   rw [d9 ha];rfl
  refine ai (bP (v:=.bl (aP p t)) (ah:=[some (.val (aC p)),some (.val (.str t)),some (.val (.int (aE p))),a]) ?_ ⟨rfl,rfl⟩)
  rw [sh]
  repeat array_get_dec
theorem D7 (hs:F[aJ]?=some dS) (hf:F[uS]?=some (BA aJ)) (hd:F[i]?=some (NP uS)) (c:List Pt) (t:List Nat) (h1:tot c≤10000) (h2:t.length≤10000) (h3:c.length≤10000) (h:aP c t=true):run F w (n+3) i [.val (aC c),.val (.str t)]=some (.str (aL c t),[]):=by
 refine cB hd rfl ?_
 have ft:=fun fr=>call2 (fr:=fr) (D6 (w:=w) (n:=n) hs hf c t h1 h2)
 rw [h] at ft
 refine ai (aQ (b:=false) (zj (aH (b:=true) rfl (by (repeat (first | array_get_dec | exact ft _))) rfl)) (fun h=>absurd h (by decide)) fun _=>aD ?_)
 refine ai (iD (l:=[]) (by repeat array_get_dec) rfl rfl ?_)
 refine ai (aY (by repeat array_get_dec) rfl rfl ?_)
 refine ai (ju (vs:=c.map Pt.v) (eK (eZ rfl) rfl) ?_)
 refine gZ (e:=Pt.v) (fun p l fr=>p++l=c∧∃ ps a b,vo a∧vo b∧ps.length≤p.length∧ps.flatten++aL l (t.drop (aE p))=aL c t∧fr=[some (.val (aC c)),some (.val (.str t)),some (.own (ps.map V.str)),some (.val (.int (aE p))),a,b]) (fun p x l fr ⟨hpl,ps,a,b,ha,hb,hl,hd,hfr⟩=>?_) (fun p fr ⟨hpl,ps,a,b,ha,hb,hl,hd,hfr⟩=>?_) c [] _ ⟨rfl,[],none,none,.none,.none,by simp,by simp [aE,tot],rfl⟩
 ·subst hfr
  have ff:(p++[x])++l=c:=by simpa using hpl
  have eb:aE (p++[x])=aE p+aE [x]:=fM p [x]
  have ei:((aE (p++[x]):Nat):Int)=(aE p:Int)+(aE [x]:Nat):=by rw [eb];simp
  have uJ:tot p+x.n+tot l=tot c:=by rw [←hpl,dc,br];omega
  have hlen:p.length+l.length+1=c.length:=by rw [←hpl];simp;omega
  have ap:∀ (fr:Fr) (z:List Nat),fU .append 2 [.str z] fr (some (some (.own (ps.map V.str))))=.ok .bB (fr.set 2 (some (.own ((ps++[z]).map V.str)))):=fun fr z=>by
   rw [List.map_append];exact iP (by simp;omega)
  cases x with
  | put s=>
   have e2:aE [.put s]=0:=by rw [j3];rfl
   rw [e2] at eb
   refine dR (lg rfl ha rfl hb) (ai (aQ (by repeat array_get_dec) (fun _=>?_) fun h=>absurd h (by decide)))
   refine ai (fH (by (repeat (first | array_get_dec | exact ap _ _))) (aD (aD ?_)))
   rw [eV]
   exact ⟨ff,ps++[s],some (.val (.str jl)),some (.val (.str s)),.val,.val,by simp;omega,by rw [eb];simpa [aL] using hd,by rw [eb];rfl⟩
  | drop s=>
   have e2:aE [.drop s]=s.length:=by rw [nj];rfl
   rw [e2] at eb ei
   have hsn:s.length≤tot c:=by simp only [Pt.n] at uJ;omega
   have ln:dJ .len [.str s]=some (.int (s.length:Nat)):=len_str (by omega)
   refine dR (lg rfl ha rfl hb) (ai (aQ (by repeat array_get_dec) (fun h=>absurd h (by decide)) fun _=>?_))
   refine ai (aQ (by repeat array_get_dec) (fun _=>?_) fun h=>absurd h (by decide))
   refine ai (aY (by repeat array_get_dec) rfl rfl (aD (aD (aD ?_))))
   rw [eV]
   exact ⟨ff,ps,some (.val (.str iW)),some (.val (.str s)),.val,.val,by simp;omega,by rw [eb];simpa [aL] using hd,by rw [ei];rfl⟩
  | keep k=>
   have e2:aE [.keep k]=k:=by rw [ly];rfl
   rw [e2] at eb ei
   have cu:gw (.str t) (some (aE p:Int)) (some ((aE p:Int)+(k:Nat)))=some (.str ((t.drop (aE p)).take k)):=by rw [gr,uQ]
   refine dR (lg rfl ha rfl hb) (ai (aQ (by repeat array_get_dec) (fun h=>absurd h (by decide)) fun _=>?_))
   refine ai (aQ (by repeat array_get_dec) (fun h=>absurd h (by decide)) fun _=>?_)
   refine ai (fH (by (repeat (first | array_get_dec | exact ap _ _))) ?_)
   refine ai (aY (by repeat array_get_dec) rfl rfl (aD (aD (aD ?_))))
   rw [eV]
   exact ⟨ff,ps++[(t.drop (aE p)).take k],some (.val (.str dY)),some (.val (.int k)),.val,.val,by simp;omega,by rw [eb];simpa [aL] using hd,by rw [ei];rfl⟩
 ·subst hfr
  simp at hpl
  subst hpl
  have hd':ps.flatten=aL p t:=by simpa [aL] using hd
  have dl:=jP p t
  have hj:=FJ (l:=ps) (by rw [hd'];omega)
  rw [hd'] at hj
  have sh:fR [some (.val (aC p)),some (.val (.str t)),some (.own (ps.map V.str)),some (.val (.int (aE p))),a,b]=[some (.val (aC p)),some (.val (.str t)),some (.val (.lst (ps.map V.str))),some (.val (.int (aE p))),a,b]:=by
   show _ :: _ :: _ :: _ :: a.map Sl.fX :: [b.map Sl.fX]=_
   rw [d9 ha,d9 hb];rfl
  refine ai (bP (v:=.str (aL p t)) (ah:=[some (.val (aC p)),some (.val (.str t)),some (.val (.lst (ps.map V.str))),some (.val (.int (aE p))),a,b]) ?_ ⟨rfl,rfl⟩)
  rw [sh]
  repeat array_get_dec
theorem BB (c:List Pt):tot (sw c)=tot c:=by
 induction c with
 | nil=>rfl
 | cons p c ih=>simp only [sw,List.map_cons,br] at ih ⊢;rw [ih];cases p <;> rfl
theorem zv (hst:F[aM]?=some cP) (hf:F[aV]?=some (fc aM)) (hu:F[i]?=some (D4 aV)) (c:List Pt) (h1:c.length≤10000) (h2:tot c≤10000):run F w (n+3) i [.val (aC c)]=some (aC (ez c),[]):=by
 have hl:(c.map fun p=>p.sw.v).length≤big:=by rw [List.length_map];exact Nat.le_trans h1 (by decide)
 have cf:=fun fr=>bV (fr:=fr) (dO (w:=w) (n:=n) hst hf (sw c) (by rw [sw,List.length_map];exact h1) (by rw [BB];exact h2))
 rw [show aC (sw c)=.tup (c.map fun p=>p.sw.v) by simp only [aC,sw,List.map_map];rfl] at cf
 exact cB hu rfl (ai (bP (aT (aI rfl (kZ (jd (eK (eZ rfl) rfl) rfl (mJ _ (fun p=>p.sw.v) c fun p _=>by
  cases p <;> exact uG rfl (jZ (bT (Bg (aB rfl) rfl) (bT (aB rfl) cG)) pL)) (eY hl)) (gb hl)) aG) (cf _)) ⟨rfl,rfl⟩))
theorem ja (hst:F[aM]?=some cP) (hf:F[aV]?=some (fc aM)) (hu:F[i]?=some (g7 aV)) (m:Nat) (h:m≤10000):run F w (n+3) i [.val (.int m)]=some (aC (ao [.keep m]),[]):=
 cB hu rfl (ai (bP (aT (aI rfl (jZ (bT (jZ (bT (bW rfl) (bT (aB rfl) cG)) pL) cG) sJ) aG) (bV (dO hst hf [.keep m] (Nat.succ_le_of_lt (Nat.zero_lt_succ _)) h))) ⟨rfl,rfl⟩))
end
end Pv
namespace Pv
open Ev (rep)
theorem BC (ns:List Int) (at_:Int) (s:List Nat) (k:Nat):tot (jw ns at_ s k)≤3:=by
 have h1:=jL ns (at_+4*k+2) (many:=2) (by decide)
 have h2:=jK ns (at_+4*k+2) (many:=2) (by decide)
 unfold jw
 rw [dc]
 have a:tot (if cT ns (at_+4*k) 4=0 then [Pt.put (rep (1+cT ns (at_+4*k+2) 2).toNat [[97,98,122].getD (cT ns (at_+4*k+1) 3).toNat 0])] else [])≤2:=by
  split
  ·simp [tot,Pt.n,rep];omega
  ·simp [tot]
 cases s[k]? with
 | none=>simp [tot] at a ⊢;omega
 | some c=>
  have b:tot [if 0<cT ns (at_+4*k+3) 3 then Pt.keep 1 else Pt.drop [c]]≤1:=by split <;> simp [tot,Pt.n]
  simp only at b ⊢
  omega
theorem sd (ns:List Int) (at_:Int) (s:List Nat):∀ k,tot (fJ ns at_ s k)≤3*k
 | 0=>by simp [fJ,tot]
 | k+1=>by
  have h1:=BC ns at_ s k
  have h2:=sd ns at_ s k
  rw [jx,dc]
  omega
theorem oH:∀ {a:List (List Nat)}{t:List Nat},aR a t=true→a.length=t.length
 | [],[],_=>rfl
 | x :: a,c :: t,h=>by simp [aR] at h;simp [oH h.2]
 | [],_ :: _,h=>by simp [aR] at h
 | _ :: _,[],h=>by simp [aR] at h
theorem oJ:∀ {a b:List (List Nat)}{t u:List Nat},aR a t=true→aR b u=true→aR (a++b) (t++u)=true
 | [],_,[],_,_,hb=>hb
 | x :: a,b,c :: t,u,ha,hb=>by
  simp only [aR,Bool.and_eq_true] at ha
  simp only [List.cons_append,aR,Bool.and_eq_true]
  exact ⟨ha.1,oJ ha.2 hb⟩
 | [],_,_ :: _,_,ha,_=>by simp [aR] at ha
 | _ :: _,_,[],_,ha,_=>by simp [aR] at ha
theorem JR (ns:List Int) (at_:Int) (s:List Nat) (k:Nat):aR (asks (jw ns at_ s k)) (s[k]?).toList=true:=by
 unfold jw
 rw [dP]
 have a:asks (if cT ns (at_+4*k) 4=0 then [Pt.put (rep (1+cT ns (at_+4*k+2) 2).toNat [[97,98,122].getD (cT ns (at_+4*k+1) 3).toNat 0])] else [])=[]:=by
  split <;> simp [asks,Pt.asks]
 rw [a]
 cases s[k]? with
 | none=>simp [asks,aR]
 | some c=>simp only;split <;> simp [asks,Pt.asks,aR]
theorem BD (ns:List Int) (at_:Int) (s:List Nat):∀ k,aR (asks (fJ ns at_ s k)) (s.take k)=true
 | 0=>by simp [fJ,asks,aR]
 | k+1=>by
  rw [jx,dP,List.take_add_one]
  exact oJ (BD ns at_ s k) (JR ns at_ s k)
theorem x6 (ns:List Int) (at_:Int) (s:List Nat):aP (chg ns at_ s) s=true:=by
 have:=BD ns at_ s (s.length+1)
 rw [List.take_of_length_le (by omega)] at this
 rw [dm];exact this
end Pv
namespace Pv
inductive At where
 | k | d (c:Nat) | p (c:Nat)
noncomputable def Pt.az:Pt→List At
 | .keep n=>List.replicate n .k
 | .drop s=>s.map .d
 | .put s=>s.map .p
noncomputable def az (c:List Pt):List At:=c.flatMap Pt.az
theorem fj (a b:List Pt):az (a++b)=az a++az b:=by simp [az]
theorem bL (p:Pt) (c:List Pt):az (p :: c)=p.az++az c:=by simp [az]
theorem uT (p:Pt):p.az.length=p.n:=by cases p <;> simp [Pt.az,Pt.n]
theorem dz (c:List Pt):(az c).length=tot c:=by
 induction c with
 | nil=>rfl
 | cons p c ih=>rw [bL,List.length_append,uT,ih,br]
noncomputable def tA:Nat→List At→List Tq
 | _,[]=>[]
 | i,.k :: a=>.at i :: tA (i+1) a
 | i,.d _ :: a=>tA (i+1) a
 | i,.p c :: a=>.sg c :: tA i a
noncomputable def aA:List At→List (List Nat)
 | []=>[]
 | .k :: a=>[] :: aA a
 | .d c :: a=>[c] :: aA a
 | .p _ :: a=>aA a
noncomputable def dA:List At→List Nat→List Nat
 | [],_=>[]
 | .k :: a,t=>t.take 1++dA a (t.drop 1)
 | .d _ :: a,t=>dA a (t.drop 1)
 | .p c :: a,t=>c :: dA a t
noncomputable def nV:At→At
 | .k=>.k
 | .d c=>.p c
 | .p c=>.d c
noncomputable def cA:List At→Nat
 | []=>0
 | .k :: a=>cA a
 | _ :: a=>cA a+1
theorem jQ:∀ a b:List At,aA (a++b)=aA a++aA b
 | [],_=>rfl
 | .k :: a,b=>by simp [aA,jQ a b]
 | .d c :: a,b=>by simp [aA,jQ a b]
 | .p c :: a,b=>by simp [aA,jQ a b]
theorem pV:∀ (a b:List At) (i:Nat),tA i (a++b)=tA i a++tA (i+(aA a).length) b
 | [],_,_=>rfl
 | .k :: a,b,i=>by simp [tA,aA,pV a b,Nat.add_assoc,Nat.add_comm 1]
 | .d c :: a,b,i=>by simp [tA,aA,pV a b,Nat.add_assoc,Nat.add_comm 1]
 | .p c :: a,b,i=>by simp [tA,aA,pV a b]
theorem mR:∀ a b:List At,cA (a++b)=cA a+cA b
 | [],b=>by simp [cA]
 | .k :: a,b=>by simp [cA,mR a b]
 | .d c :: a,b=>by simp [cA,mR a b];omega
 | .p c :: a,b=>by simp [cA,mR a b];omega
theorem sQ (p:Pt):aA p.az=p.asks:=by
 cases p with
 | keep n=>simp only [Pt.az,Pt.asks];induction n <;> simp_all [List.replicate_succ,aA]
 | drop s=>simp only [Pt.az,Pt.asks];induction s <;> simp_all [aA]
 | put s=>simp only [Pt.az,Pt.asks];induction s <;> simp_all [aA]
theorem SJ (p:Pt):∀ i,tA i p.az=p.told i:=by
 cases p with
 | keep n=>
  simp only [Pt.az,Pt.told]
  induction n with
  | zero=>intro i;rfl
  | succ n ih=>intro i;simp only [List.replicate_succ,tA,ih,List.range_succ_eq_map,List.map_cons,List.map_map];simp [Function.comp_def,Nat.add_assoc,Nat.add_comm 1]
 | drop s=>intro i;simp only [Pt.az,Pt.told];induction s generalizing i <;> simp_all [tA]
 | put s=>intro i;simp only [Pt.az,Pt.told];induction s generalizing i <;> simp_all [tA]
theorem SK (p:Pt):cA p.az=cst [p]:=by
 cases p with
 | keep n=>simp only [Pt.az];rw [FY];induction n <;> simp_all [List.replicate_succ,cA,cst,tot]
 | drop s=>simp only [Pt.az];rw [FZ];induction s <;> simp_all [cA,cst,tot]
 | put s=>simp only [Pt.az];rw [Ga];induction s <;> simp_all [cA,cst,tot]
theorem bX (c:List Pt):asks c=aA (az c):=by
 induction c with
 | nil=>rfl
 | cons p c ih=>rw [bL,jQ,sQ,←ih];simp [asks]
theorem bz (c:List Pt):∀ i,told i c=tA i (az c):=by
 induction c with
 | nil=>intro i;rfl
 | cons p c ih=>intro i;rw [bL,pV,SJ,sQ,←ih,told]
theorem g8 (c:List Pt):cst c=cA (az c):=by
 induction c with
 | nil=>rfl
 | cons p c ih=>
  rw [bL,mR,SK,←ih]
  simp [cst,tot]
  cases p <;> simp [List.filter_cons,dU]
theorem uU (c:List Pt):az (sw c)=(az c).map nV:=by
 induction c with
 | nil=>rfl
 | cons p c ih=>
  have:az (sw (p :: c))=p.sw.az++az (sw c):=by simp [az,sw]
  rw [this,ih,bL,List.map_append]
  congr 1
  cases p <;> simp [Pt.sw,Pt.az,nV,Function.comp_def]
theorem dB:∀ (c:List Pt) (t:List Nat),aL c t=dA (az c) t:=by
 have k:∀ (n:Nat) (a:List At) (t:List Nat),dA (List.replicate n .k++a) t=t.take n++dA a (t.drop n):=fun n=>by
  induction n with
  | zero=>intro a t;simp
  | succ n ih=>
   intro a t
   simp only [List.replicate_succ,List.cons_append,dA,ih,List.drop_drop]
   cases t with
   | nil=>simp
   | cons c t=>simp [Nat.add_comm 1]
 have d:∀ (s:List Nat) (a:List At) (t:List Nat),dA (s.map .d++a) t=dA a (t.drop s.length):=fun s=>by
  induction s with
  | nil=>intro a t;simp
  | cons c s ih=>intro a t;simp [dA,ih,Nat.add_comm 1]
 have p:∀ (s:List Nat) (a:List At) (t:List Nat),dA (s.map .p++a) t=s++dA a t:=fun s=>by
  induction s with
  | nil=>intro a t;simp
  | cons c s ih=>intro a t;simp [dA,ih]
 intro c
 induction c with
 | nil=>intro t;rfl
 | cons q c ih=>
  intro t
  rw [bL]
  cases q with
  | keep n=>simp only [Pt.az,k,aL,ih]
  | drop s=>simp only [Pt.az,d,aL,ih]
  | put s=>simp only [Pt.az,p,aL,ih]
noncomputable def BE:List At→Bool
 | .d _ :: _=>false
 | _=>true
inductive Th:List At→List At→List At→Prop
 | nil:Th [] [] []
 | d {a b r c}:Th a b r→Th (.d c :: a) b (.d c :: r)
 | p {a b r c}:BE a=true→Th a b r→Th a (.p c :: b) (.p c :: r)
 | kk {a b r}:Th a b r→Th (.k :: a) (.k :: b) (.k :: r)
 | kd {a b r c}:Th a b r→Th (.k :: a) (.d c :: b) (.d c :: r)
 | pk {a b r c}:Th a b r→Th (.p c :: a) (.k :: b) (.p c :: r)
 | pd {a b r c}:Th a b r→Th (.p c :: a) (.d c :: b) r
noncomputable def sub (L:List Tq):Tq→Tq
 | .at j=>L.getD j (.sg 0)
 | .sg c=>.sg c
theorem mS {L M:List Tq}{q:Tq}{j:Nat}(h:L.length=j):sub (L++q :: M) (.at j)=q:=by
 subst h;simp [sub]
theorem Th.told {a b r:List At}(h:Th a b r):∀ (i j:Nat) (L:List Tq),L.length=j→tA i r=(tA j b).map (sub (L++tA i a)):=by
 induction h with
 | nil=>intro i j L hL;rfl
 | d h ih=>intro i j L hL;exact ih (i+1) j L hL
 | p _ h ih=>intro i j L hL;simp only [tA,List.map_cons];rw [ih i j L hL];rfl
 | kk h ih=>
  intro i j L hL
  simp only [tA,List.map_cons]
  rw [ih (i+1) (j+1) (L++[.at i]) (by simp [hL]),mS hL];simp
 | kd h ih=>
  intro i j L hL
  simp only [tA]
  rw [ih (i+1) (j+1) (L++[.at i]) (by simp [hL])];simp
 | @pk _ _ _ c h ih=>
  intro i j L hL
  simp only [tA,List.map_cons]
  rw [ih i (j+1) (L++[.sg c]) (by simp [hL]),mS hL];simp
 | @pd _ _ _ c h ih=>
  intro i j L hL
  simp only [tA]
  rw [ih i (j+1) (L++[.sg c]) (by simp [hL])];simp
theorem Th.back {a b r:List At}(h:Th a b r):∀ (i j:Nat) (L:List Tq),L.length=j→tA i (r.map nV)=(tA j (a.map nV)).map (sub (L++tA i (b.map nV))):=by
 induction h with
 | nil=>intro i j L hL;rfl
 | d h ih=>intro i j L hL;simp only [List.map_cons,nV,tA];rw [ih i j L hL];rfl
 | p _ h ih=>intro i j L hL;exact ih (i+1) j L hL
 | kk h ih=>
  intro i j L hL
  simp only [List.map_cons,nV,tA]
  rw [ih (i+1) (j+1) (L++[.at i]) (by simp [hL]),mS hL];simp
 | @kd _ _ _ c h ih=>
  intro i j L hL
  simp only [List.map_cons,nV,tA]
  rw [ih i (j+1) (L++[.sg c]) (by simp [hL]),mS hL];simp
 | pk h ih=>
  intro i j L hL
  simp only [List.map_cons,nV,tA]
  rw [ih (i+1) (j+1) (L++[.at i]) (by simp [hL])];simp
 | @pd _ _ _ c h ih=>
  intro i j L hL
  simp only [List.map_cons,nV,tA]
  rw [ih i (j+1) (L++[.sg c]) (by simp [hL])];simp
theorem Th.fit {a b r:List At}(h:Th a b r):∀ t,aR (aA a) t=true→aR (aA b) (dA a t)=true→aR (aA r) t=true:=by
 induction h with
 | nil=>intro t h1 _;exact h1
 | d h ih=>
  intro t h1 h2
  cases t with
  | nil=>simp [aA,aR] at h1
  | cons x t=>simp only [aA,aR,Bool.and_eq_true] at h1 ⊢;exact ⟨h1.1,ih t h1.2 h2⟩
 | p _ h ih=>intro t h1 h2;exact ih t h1 h2
 | kk h ih=>
  intro t h1 h2
  cases t with
  | nil=>simp [aA,aR] at h1
  | cons x t=>simp only [aA,aR,Bool.and_eq_true,dA,List.take_succ_cons,List.take_zero,List.drop_succ_cons,List.drop_zero,List.singleton_append] at h1 h2 ⊢;exact ⟨h1.1,ih t h1.2 h2.2⟩
 | kd h ih=>
  intro t h1 h2
  cases t with
  | nil=>simp [aA,aR] at h1
  | cons x t=>simp only [aA,aR,Bool.and_eq_true,dA,List.take_succ_cons,List.take_zero,List.drop_succ_cons,List.drop_zero,List.singleton_append] at h1 h2 ⊢;exact ⟨h2.1,ih t h1.2 h2.2⟩
 | pk h ih=>intro t h1 h2;simp only [aA,dA,aR,Bool.and_eq_true] at h1 h2 ⊢;exact ih t h1 h2.2
 | pd h ih=>intro t h1 h2;simp only [aA,dA,aR,Bool.and_eq_true] at h1 h2 ⊢;exact ih t h1 h2.2
theorem Th.all:∀ (n:Nat) (a b:List At) (t:List Nat),a.length+b.length≤n→aR (aA a) t=true→aR (aA b) (dA a t)=true→∃ r,Th a b r:=by
 intro n
 induction n with
 | zero=>
  intro a b t hn _ _
  obtain rfl:a=[]:=List.length_eq_zero_iff.mp (by omega)
  obtain rfl:b=[]:=List.length_eq_zero_iff.mp (by omega)
  exact ⟨[],.nil⟩
 | succ n ih=>
  intro a b t hn h1 h2
  cases a with
  | nil=>
   cases b with
   | nil=>exact ⟨[],.nil⟩
   | cons y b=>
    cases y with
    | p c=>obtain ⟨r,h⟩:=ih [] b t (by simp at hn ⊢;omega) h1 h2;exact ⟨_,.p rfl h⟩
    | k=>simp [aA,dA,aR] at h2
    | d c=>simp [aA,dA,aR] at h2
  | cons x a=>
   by_cases hd:BE (x :: a)=true
   ·cases b with
    | nil=>
     cases x with
     | d c=>cases hd
     | k=>cases t <;> simp [aA,dA,aR] at h1 h2
     | p c=>simp [aA,dA,aR] at h2
    | cons y b=>
     cases y with
     | p c=>obtain ⟨r,h⟩:=ih (x :: a) b t (by simp at hn ⊢;omega) h1 h2;exact ⟨_,.p hd h⟩
     | k=>
      cases x with
      | d c=>cases hd
      | k=>
       cases t with
       | nil=>simp [aA,aR] at h1
       | cons z t=>
        simp [aA,aR,dA] at h1 h2
        obtain ⟨r,h⟩:=ih a b t (by simp at hn ⊢;omega) h1 h2;exact ⟨_,.kk h⟩
      | p c=>
       simp [aA,aR,dA] at h1 h2
       obtain ⟨r,h⟩:=ih a b t (by simp at hn ⊢;omega) h1 h2;exact ⟨_,.pk h⟩
     | d c'=>
      cases x with
      | d c=>cases hd
      | k=>
       cases t with
       | nil=>simp [aA,aR] at h1
       | cons z t=>
        simp [aA,aR,dA] at h1 h2
        obtain ⟨r,h⟩:=ih a b t (by simp at hn ⊢;omega) h1 h2.2;exact ⟨_,.kd h⟩
      | p c=>
       simp [aA,aR,dA] at h1 h2
       obtain ⟨rfl,h2⟩:=h2
       obtain ⟨r,h⟩:=ih a b t (by simp at hn ⊢;omega) h1 h2;exact ⟨_,.pd h⟩
   ·cases x with
    | k=>exact absurd rfl hd
    | p c=>exact absurd rfl hd
    | d c=>
     cases t with
     | nil=>simp [aA,aR] at h1
     | cons z t=>
      simp [aA,aR] at h1
      obtain ⟨r,h⟩:=ih a b t (by simp at hn ⊢;omega) h1.2 h2;exact ⟨_,.d h⟩
theorem Th.done {a b r:List At}(h:Th a b r):∀ t,aR (aA a) t=true→dA r t=dA b (dA a t):=by
 induction h with
 | nil=>intro t _;rfl
 | d h ih=>
  intro t h1
  cases t with
  | nil=>simp [aA,aR] at h1
  | cons x t=>simp only [aA,aR,Bool.and_eq_true] at h1;simp only [dA];exact ih t h1.2
 | p _ h ih=>intro t h1;simp only [dA];rw [ih t h1]
 | kk h ih=>
  intro t h1
  cases t with
  | nil=>simp [aA,aR] at h1
  | cons x t=>simp only [aA,aR,Bool.and_eq_true] at h1;simp [dA,ih t h1.2]
 | kd h ih=>
  intro t h1
  cases t with
  | nil=>simp [aA,aR] at h1
  | cons x t=>simp only [aA,aR,Bool.and_eq_true] at h1;simp [dA,ih t h1.2]
 | pk h ih=>intro t h1;simp [dA,ih t h1]
 | pd h ih=>intro t h1;simp [dA,ih t h1]
theorem Th.cost {a b r:List At}(h:Th a b r):cA r≤cA a+cA b:=by induction h <;> simp [cA] <;> omega
theorem Th.len {a b r:List At}(h:Th a b r):r.length≤a.length+b.length:=by induction h <;> simp <;> omega
theorem Th.ds {b r:List At}:∀ {s:List Nat}{a:List At},Th (s.map .d++a) b r→∃ r',r=s.map .d++r'∧Th a b r'
 | [],a,h=>⟨r,rfl,h⟩
 | c :: s,a,h=>by
  cases h with
  | d h=>obtain ⟨r',rfl,h'⟩:=Th.ds h;exact ⟨r',rfl,h'⟩
  | p hn h=>cases hn
theorem Th.ps {a r:List At}(hn:BE a=true):∀ {s:List Nat}{b:List At},Th a (s.map .p++b) r→∃ r',r=s.map .p++r'∧Th a b r'
 | [],b,h=>⟨r,rfl,h⟩
 | c :: s,b,h=>by
  cases h with
  | d h=>cases hn
  | p _ h=>obtain ⟨r',rfl,h'⟩:=Th.ps hn h;exact ⟨r',rfl,h'⟩
theorem Th.kks {a b r:List At}:∀ {n:Nat},Th (List.replicate n .k++a) (List.replicate n .k++b) r→∃ r',r=List.replicate n .k++r'∧Th a b r':=fun {n}=>by
 induction n generalizing r with
 | zero=>intro h;exact ⟨r,rfl,h⟩
 | succ n ih=>intro h;cases h with | kk h=>obtain ⟨r',rfl,h'⟩:=ih h;exact ⟨r',rfl,h'⟩
theorem Th.kds {a b r:List At}:∀ {s:List Nat},Th (List.replicate s.length .k++a) (s.map .d++b) r→∃ r',r=s.map .d++r'∧Th a b r':=fun {s}=>by
 induction s generalizing r with
 | nil=>intro h;exact ⟨r,rfl,h⟩
 | cons c s ih=>intro h;cases h with | kd h=>obtain ⟨r',rfl,h'⟩:=ih h;exact ⟨r',rfl,h'⟩
theorem Th.pks {a b r:List At}:∀ {s:List Nat},Th (s.map .p++a) (List.replicate s.length .k++b) r→∃ r',r=s.map .p++r'∧Th a b r':=fun {s}=>by
 induction s generalizing r with
 | nil=>intro h;exact ⟨r,rfl,h⟩
 | cons c s ih=>intro h;cases h with | pk h=>obtain ⟨r',rfl,h'⟩:=ih h;exact ⟨r',rfl,h'⟩
theorem Th.U4 {a b r:List At}:∀ {s s':List Nat},s.length=s'.length→Th (s.map .p++a) (s'.map .d++b) r→s=s'∧Th a b r
 | [],[],_,h=>⟨rfl,h⟩
 | [],_ :: _,hl,_=>by simp at hl
 | _ :: _,[],hl,_=>by simp at hl
 | c :: s,c' :: s',hl,h=>by cases h with | pd h=>obtain ⟨rfl,h'⟩:=Th.U4 (by simpa using hl) h;exact ⟨rfl,h'⟩
theorem g9:∀ (a:List At) (i q:Nat),Tq.at q∈tA i a↔∃ j,q=i+j∧(aA a)[j]?=some []
 | [],i,q=>by simp [tA,aA]
 | .k :: a,i,q=>by
  simp only [tA,List.mem_cons,g9 a,aA]
  constructor
  ·rintro (h | ⟨j,rfl,h⟩)
   ·cases h;exact ⟨0,rfl,by simp⟩
   ·exact ⟨j+1,by omega,by simpa using h⟩
  ·rintro ⟨j,rfl,h⟩
   cases j with
   | zero=>exact .inl rfl
   | succ j=>exact .inr ⟨j,by omega,by simpa using h⟩
 | .d c :: a,i,q=>by
  simp only [tA,g9 a,aA]
  constructor
  ·rintro ⟨j,rfl,h⟩;exact ⟨j+1,by omega,by simpa using h⟩
  ·rintro ⟨j,rfl,h⟩
   cases j with
   | zero=>simp at h
   | succ j=>exact ⟨j,by omega,by simpa using h⟩
 | .p c :: a,i,q=>by simp [tA,g9 a,aA]
theorem qM:∀ {a:List (List Nat)}{t:List Nat},aR a t=true→∀ (j:Nat) x,a[j]?=some x→x=[]∨∃ c,t[j]?=some c∧x=[c]
 | y :: a,c :: t,h,j,x,e=>by
  simp only [aR,Bool.and_eq_true,Bool.or_eq_true,decide_eq_true_eq] at h
  cases j with
  | zero=>simp at e;subst e;exact h.1.imp id fun z=>⟨c,by simp,z⟩
  | succ j=>simpa using qM h.2 j x (by simpa using e)
 | [],[],_,j,x,e=>by simp at e
 | [],_ :: _,h,_,_,_=>by simp [aR] at h
 | _ :: _,[],h,_,_,_=>by simp [aR] at h
theorem BF {a:List At}{A:List (List Nat)}{t:List Nat}(ha:aR (aA a) t=true) (hb:aR A t=true) (h:∀ q:Nat,Tq.at q∈tA 0 a↔A[q]?=some []):aA a=A:=by
 have la:=oH ha
 have lb:=oH hb
 apply List.ext_getElem?
 intro j
 by_cases hj:j<t.length
 ·obtain ⟨x,hx⟩:∃ x,(aA a)[j]?=some x:=⟨_,List.getElem?_eq_getElem (by omega)⟩
  obtain ⟨y,hy⟩:∃ y,A[j]?=some y:=⟨_,List.getElem?_eq_getElem (by omega)⟩
  have k1:=g9 a 0 j
  rw [h j,hy] at k1
  have hxy:x=[]↔y=[]:=by
   constructor
   ·rintro rfl
    have:=k1.mpr ⟨j,by omega,hx⟩
    cases this;rfl
   ·rintro rfl
    obtain ⟨i,hi,e⟩:=k1.mp rfl
    obtain rfl:i=j:=by omega
    rw [e] at hx;cases hx;rfl
  rw [hx,hy]
  rcases qM ha j x hx with U5 | ⟨c,hc,hx1⟩
  ·rw [U5,hxy.mp U5]
  ·rcases qM hb j y hy with U6 | ⟨c',hc',hy1⟩
   ·rw [U6,hxy.mpr U6]
   ·rw [hc] at hc';cases hc';rw [hx1,hy1]
 ·rw [List.getElem?_eq_none (by omega),List.getElem?_eq_none (by omega)]
theorem BG {a b:List At}{t:List Nat}(ha:aR (aA a) t=true) (hb:aR (aA b) t=true) (h:tA 0 a=tA 0 b):aA a=aA b:=
 BF ha hb fun q=>by
  rw [h,g9 b 0 q]
  constructor
  ·rintro ⟨j,hj,e⟩;obtain rfl:q=j:=by omega
   exact e
  ·intro e;exact ⟨q,by omega,e⟩
theorem BH {a b:List Pt}{t:List Nat}(ha:aP a t=true) (hb:aP b t=true) (h:told 0 a=told 0 b):ao a=ao b:=by
 rw [gS]
 rw [dm] at ha hb
 have h':=h
 rw [bX] at ha hb
 rw [bz,bz] at h'
 have:=BG ha hb h'
 simp only [iF,h,bX,this]
theorem sub_sub (L M:List Tq) (q:Tq):sub M (sub L q)=sub (L.map (sub M)) q:=by
 cases q with
 | sg c=>rfl
 | «at» j=>
  simp only [sub,List.getD_eq_getElem?_getD,List.getElem?_map]
  cases L[j]? <;> rfl
theorem D8 (L M T:List Tq):(T.map (sub L)).map (sub M)=T.map (sub (L.map (sub M))):=by
 rw [List.map_map];exact List.map_congr_left fun q _=>sub_sub L M q
theorem D9 {a:List At}{M:List Tq}(h:∀ j:Nat,(aA a)[j]?=some []→M[j]?=some (Tq.at j)):(tA 0 a).map (sub M)=tA 0 a:=by
 refine (List.map_congr_left fun q hq=>?_).trans (List.map_id _)
 cases q with
 | sg c=>rfl
 | «at» j=>
  obtain ⟨i,hi,e⟩:=(g9 a 0 j).mp hq
  obtain rfl:i=j:=by omega
  simp [sub,h i e]
theorem JU (L:List Tq):((List.range L.length).map Tq.at).map (sub L)=L:=by
 apply List.ext_getElem?
 intro i
 by_cases h:i<L.length
 ·simp [sub,h]
 ·rw [List.getElem?_eq_none (by simp;omega),List.getElem?_eq_none (by omega)]
theorem oK {c:List Pt}{t:List Nat}(h:aP c t=true):(aL c t).length=cE c:=by
 rw [gu (uO c t h).1,NO]
end Pv
namespace Pv
open Ev (D cz b7 TY BI ME T E Es Eo It S Ss Fn big deep b2i rep cH eG b5 aU cut cU eB slots)
noncomputable def Ea (qN:Nat) (cW:Nat):S:=.iff (.cmp .ne (.cl qN (.cons (.v 0) .nil)) (.cl cW (.cons (.v 1) .nil))) (.cons (.fP) .nil) .nil
noncomputable def Eb (bq:Nat):S:=.set 2 (.iL (.rev (.cl bq (.cons (.v 0) .nil))))
noncomputable def Ec (bq:Nat):S:=.set 3 (.iL (.rev (.cl bq (.cons (.v 1) .nil))))
noncomputable def Ed:S:=.set 4 (.lst .nil)
noncomputable def uV (bC:Nat) (pW:Nat) (eH:Nat):Ss:=(.cons (.iff (.an (.v 2) (.cmp .eq (.ix (.ix (.v 2) (.neg (.c (.int 1)))) (.c (.int 0))) (.c (.str [100,114,111,112])))) (.cons (.exp (.me .append (.v 4) (.cons (.me .pop (.v 2) .nil) .nil))) .nil) (.cons (.iff (.an (.v 3) (.cmp .eq (.ix (.ix (.v 3) (.neg (.c (.int 1)))) (.c (.int 0))) (.c (.str [112,117,116])))) (.cons (.exp (.me .append (.v 4) (.cons (.me .pop (.v 3) .nil) .nil))) .nil) (.cons (.set 5 (.bi .min (.cons (.cl bC (.cons (.ix (.v 2) (.neg (.c (.int 1)))) .nil)) (.cons (.cl bC (.cons (.ix (.v 3) (.neg (.c (.int 1)))) .nil)) .nil)))) (.cons (.exp (.me .extend (.v 4) (.cons (.cl pW (.cons (.cl eH (.cons (.v 2) (.cons (.v 5) .nil))) (.cons (.cl eH (.cons (.v 3) (.cons (.v 5) .nil))) .nil))) .nil))) .nil))) .nil)) .nil)
noncomputable def Ef (bC:Nat) (pW:Nat) (eH:Nat):S:=.lZ (.orr (.v 2) (.v 3)) (uV bC pW eH)
noncomputable def Eg (bq:Nat):S:=.ret (.cl bq (.cons (.gv (.v 4)) .nil))
noncomputable def kI (qN:Nat) (cW:Nat) (bq:Nat) (bC:Nat) (pW:Nat) (eH:Nat):Fn:=⟨2,6,(.cons (Ea qN cW) (.cons (Eb bq) (.cons (Ec bq) (.cons Ed (.cons (Ef bC pW eH) (.cons (Eg bq) .nil))))))⟩
noncomputable def uW (fE:Nat):S:=.set 2 (.cl fE (.cons (.v 0) .nil))
noncomputable def uX (mT:Nat):Ss:=(.cons (.set 2 (.cl mT (.cons (.v 2) (.cons (.v 3) .nil)))) .nil)
noncomputable def uY (mT:Nat):S:=.for (.one 3) (.seq (.v 1)) (uX mT)
noncomputable def uZ:S:=.ret (.v 2)
noncomputable def jy (fE:Nat) (mT:Nat):Fn:=⟨2,4,(.cons (uW fE) (.cons (uY mT) (.cons uZ .nil)))⟩
noncomputable def JV:S:=.iff (.cmp .eq (.ix (.v 1) (.c (.int 0))) (.c (.str [107,101,101,112]))) (.cons (.ret (.lst (.cons (.v 0) .nil))) .nil) .nil
noncomputable def JX:S:=.iff (.cmp .eq (.ix (.v 0) (.c (.int 0))) (.c (.str [107,101,101,112]))) (.cons (.ret (.lst (.cons (.v 1) .nil))) .nil) .nil
noncomputable def JY:S:=.iff (.cmp .ne (.ix (.v 0) (.c (.int 1))) (.ix (.v 1) (.c (.int 1)))) (.cons (.fP) .nil) .nil
noncomputable def JZ:S:=.ret (.lst .nil)
noncomputable def sR:Fn:=⟨2,2,(.cons JV (.cons JX (.cons JY (.cons JZ .nil))))⟩
noncomputable def BJ (oM:Nat):S:=.set 2 (.cl oM (.cons (.me .pop (.v 0) .nil) (.cons (.v 1) .nil)))
noncomputable def BK (bC:Nat):S:=.iff (.cmp .gt (.cl bC (.cons (.ix (.v 2) (.c (.int 1))) .nil)) (.c (.int 0))) (.cons (.exp (.me .append (.v 0) (.cons (.ix (.v 2) (.c (.int 1))) .nil))) .nil) .nil
noncomputable def BL:S:=.ret (.ix (.v 2) (.c (.int 0)))
noncomputable def iS (oM:Nat) (bC:Nat):Fn:=⟨2,3,(.cons (BJ oM) (.cons (BK bC) (.cons BL .nil)))⟩
noncomputable def zw:S:=.set 2 (.ix (.v 0) (.c (.int 0)))
noncomputable def zx:S:=.iff (.cmp .eq (.v 2) (.c (.str [107,101,101,112]))) (.cons (.ret (.tup (.cons (.tup (.cons (.v 2) (.cons (.v 1) .nil))) (.cons (.tup (.cons (.v 2) (.cons (.bin .sub (.ix (.v 0) (.c (.int 1))) (.v 1)) .nil))) .nil)))) .nil) .nil
noncomputable def zy:S:=.ret (.tup (.cons (.tup (.cons (.v 2) (.cons (.sl (.ix (.v 0) (.c (.int 1))) .no (.yes (.v 1))) .nil))) (.cons (.tup (.cons (.v 2) (.cons (.sl (.ix (.v 0) (.c (.int 1))) (.yes (.v 1)) .no) .nil))) .nil)))
noncomputable def gj:Fn:=⟨2,3,(.cons zw (.cons zx (.cons zy .nil)))⟩
noncomputable def Pt.tk (m:Nat):Pt→Pt
 | .keep _=>.keep m
 | .put s=>.put (s.take m)
 | .drop s=>.drop (s.take m)
noncomputable def Pt.dp (m:Nat):Pt→Pt
 | .keep k=>.keep (k - m)
 | .put s=>.put (s.drop m)
 | .drop s=>.drop (s.drop m)
theorem zz {α:Type}(l:List α) (m:Nat):cut l none (some (m:Int))=l.take m:=by
 have h1:¬ (m:Int)<0:=by omega
 simp only [cut,aU,h1,if_false,Int.toNat_natCast,List.drop_zero,Nat.sub_zero]
 by_cases h:m≤l.length
 ·rw [Nat.min_eq_left h]
 ·rw [Nat.min_eq_right (by omega),List.take_of_length_le (Nat.le_refl _),List.take_of_length_le (by omega)]
theorem zA {α:Type}(l:List α) (m:Nat):cut l (some (m:Int)) none=l.drop m:=by
 have h1:¬ (m:Int)<0:=by omega
 simp only [cut,aU,h1,if_false,Int.toNat_natCast]
 by_cases h:m≤l.length
 ·rw [Nat.min_eq_left h,List.take_of_length_le (by simp)]
 ·rw [Nat.min_eq_right (by omega),List.drop_eq_nil_of_le (Nat.le_refl _),List.drop_eq_nil_of_le (by omega)];simp
section
variable {F:List Fn}{w n bY aJ dj aZ aV aM ee bD cg iI i:Nat}
theorem zB (hf:F[i]?=some gj) (p:Pt) (m:Nat) (h:m≤p.n):run F w (n+1) i [.val p.v,.val (.int m)]=some (.tup [(p.tk m).v,(p.dp m).v],[]):=by
 refine cB hf rfl ?_
 cases p with
 | keep k=>
  refine ai (aY (by repeat array_get_dec) rfl rfl ?_)
  refine ai (aQ (by repeat array_get_dec) (fun _=>?_) fun h=>absurd h (by decide))
  refine ai (bP (by repeat array_get_dec) ⟨?_,rfl⟩)
  have:(k:Int) - m=((k - m:Nat):Int):=by simp only [Pt.n] at h;omega
  exact congrArg (fun z=>Fl.ret (V.tup [V.tup [V.str dY,V.int m],V.tup [V.str dY,V.int z]])) this
 | put s=>
  have c1:gw (.str s) none (some (m:Int))=some (.str (s.take m)):=by rw [gr,zz]
  have c2:gw (.str s) (some (m:Int)) none=some (.str (s.drop m)):=by rw [gr,zA]
  refine ai (aY (by repeat array_get_dec) rfl rfl ?_)
  refine ai (aQ (by repeat array_get_dec) (fun h=>absurd h (by decide)) fun _=>aD ?_)
  exact ai (bP (by repeat array_get_dec) ⟨rfl,rfl⟩)
 | drop s=>
  have c1:gw (.str s) none (some (m:Int))=some (.str (s.take m)):=by rw [gr,zz]
  have c2:gw (.str s) (some (m:Int)) none=some (.str (s.drop m)):=by rw [gr,zA]
  refine ai (aY (by repeat array_get_dec) rfl rfl ?_)
  refine ai (aQ (by repeat array_get_dec) (fun h=>absurd h (by decide)) fun _=>aD ?_)
  exact ai (bP (by repeat array_get_dec) ⟨rfl,rfl⟩)
theorem qO (m:Nat) (p:Pt):(p.dp m).n=p.n - m:=by cases p <;> simp [Pt.dp,Pt.n]
theorem mU (hs:F[aJ]?=some dS) (hp:F[bY]?=some gj) (hf:F[i]?=some (iS bY aJ)) (L:List V) (p:Pt) (m:Nat) (h:m≤p.n) (hn:p.n≤100000) (hL:L.length≤10000) :
  run F w (n+2) i [.bor (L++[p.v]),.val (.int m)]=some ((p.tk m).v,[L++if 0<p.n - m then [(p.dp m).v] else []]):=by
 refine cB hf rfl ?_
 have c1:=fun fr=>call2 (fr:=fr) (zB (F:=F) (w:=w) (n:=n) hp p m h)
 have c2:=fun fr=>bV (fr:=fr) (iQ (F:=F) (w:=w) (n:=n) hs (p.dp m) (by rw [qO];omega))
 have po:∀ fr:Fr,fU .pop 0 [] fr (some (some (.bor (L++[p.v]))))=.ok p.v (fr.set 0 (some (.bor L))):=fun fr=>JD
 have ap:∀ fr:Fr,fU .append 0 [(p.dp m).v] fr (some (some (.bor L)))=.ok .bB (fr.set 0 (some (.bor (L++[(p.dp m).v])))):=fun fr=>JB (by omega)
 refine ai (aY (by (repeat (first | array_get_dec | exact po _ | exact c1 _))) rfl rfl ?_)
 refine ai (aQ (by (repeat (first | array_get_dec | exact c2 _))) (fun h=>?_) fun h=>?_)
 ·have h':=of_decide_eq_true h
  rw [qO] at h'
  rw [if_pos (by omega)]
  refine ai (fH (by (repeat (first | array_get_dec | exact ap _))) (aD ?_))
  exact ai (bP (by repeat array_get_dec) ⟨rfl,rfl⟩)
 ·have h':=of_decide_eq_false h
  rw [qO] at h'
  rw [if_neg (by omega),List.append_nil]
  exact aD (ai (bP (by repeat array_get_dec) ⟨rfl,rfl⟩))
noncomputable def lz:Pt→Pt→Option (List Pt)
 | l,.keep _=>some [l]
 | .keep _,g=>some [g]
 | .put s,.drop s'=>if s=s' then some [] else none
 | _,_=>none
theorem J0 (hf:F[i]?=some sR) (p q:Pt) (r:List Pt) (h:lz p q=some r):run F w (n+1) i [.val p.v,.val q.v]=some (.lst (r.map Pt.v),[]):=by
 refine cB hf rfl ?_
 cases q with
 | keep k=>
  simp only [lz,Option.some.injEq] at h
  subst h
  refine ai (aQ (by repeat array_get_dec) (fun _=>?_) fun h=>absurd h (by decide))
  exact ai (bP (by repeat array_get_dec) ⟨rfl,rfl⟩)
 | put s=>
  cases p <;> simp [lz] at h
  subst h
  refine ai (aQ (by repeat array_get_dec) (fun h=>absurd h (by decide)) fun _=>aD ?_)
  refine ai (aQ (by repeat array_get_dec) (fun _=>?_) fun h=>absurd h (by decide))
  exact ai (bP (by repeat array_get_dec) ⟨rfl,rfl⟩)
 | drop s'=>
  cases p with
  | keep k=>
   simp only [lz,Option.some.injEq] at h
   subst h
   refine ai (aQ (by repeat array_get_dec) (fun h=>absurd h (by decide)) fun _=>aD ?_)
   refine ai (aQ (by repeat array_get_dec) (fun _=>?_) fun h=>absurd h (by decide))
   exact ai (bP (by repeat array_get_dec) ⟨rfl,rfl⟩)
  | drop s=>simp [lz] at h
  | put s=>
   simp only [lz] at h
   split at h
   ·rename_i hs
    subst hs
    cases h
    refine ai (aQ (by repeat array_get_dec) (fun h=>absurd h (by decide)) fun _=>aD ?_)
    refine ai (aQ (by repeat array_get_dec) (fun h=>absurd h (by decide)) fun _=>aD ?_)
    refine ai (aQ (by repeat array_get_dec) (fun h=>?_) fun _=>aD ?_)
    ·simp at h
    ·exact ai (bP (by repeat array_get_dec) ⟨rfl,rfl⟩)
   ·cases h
theorem dM {l:List V}{v:V}:fW (.lst (l++[v])) (.int (-1))=some v:=by rw [Jh,NC];simp
theorem jz {l:List V}{v:V}:truthy (.lst (l++[v]))=true:=by simp
theorem zC {P:aW}{f i:Nat}{fr:Fr}{b v:V}{l l':List V}(e:fr[i]?=some (some (.own l))) (h:P f [.bor l,.val b]=some (v,[l'])):dW P f [.inl i,.inr b] fr=.ok v (fr.set i (some (.own l'))):=by
 have e1:lent fr i=some (.bor l):=by rw [Jy,e];rfl
 simp [dW,bU,args,e1,h,back,e,Sl.with]
theorem cQ {c:List Pt}(h:j0 c=true):∀ p∈c,0<p.n:=fun p hp=>by
 simp only [j0,Bool.and_eq_true,List.all_eq_true] at h
 have:=h.2 p hp
 simp only [FU,bne_iff_ne,ne_eq] at this
 omega
theorem cC:∀ {c:List Pt},(∀ p∈c,0<p.n)→c.length≤tot c
 | [],_=>by simp [tot]
 | p :: c,h=>by
  have h1:=h p (by simp)
  have h2:=cC (c:=c) fun q hq=>h q (by simp [hq])
  rw [br,List.length_cons];omega
theorem sS {p:Pt}{m:Nat}(h:m≤p.n):(p.tk m).az++(p.dp m).az=p.az∧(p.tk m).n=m:=by
 cases p with
 | keep k=>simp only [Pt.n] at h;simp [Pt.tk,Pt.dp,Pt.az,Pt.n,h]
 | put s=>simp only [Pt.n] at h;simp [Pt.tk,Pt.dp,Pt.az,Pt.n,h,←List.map_append]
 | drop s=>simp only [Pt.n] at h;simp [Pt.tk,Pt.dp,Pt.az,Pt.n,h,←List.map_append]
noncomputable def iN (m:Nat) (p:Pt):List Pt:=if 0<p.n - m then [p.dp m] else []
theorem qP {p:Pt}{m:Nat}(h:m≤p.n):p.az=(p.tk m).az++az (iN m p):=by
 rw [← (sS h).1]
 congr 1
 unfold iN
 split
 ·simp [az]
 ·rename_i hz
  have:(p.dp m).az.length=0:=by rw [uT,qO];omega
  rw [List.length_eq_zero_iff.mp this];rfl
theorem qQ (m:Nat) (p:Pt):∀ q∈iN m p,0<q.n:=fun q hq=>by
 unfold iN at hq
 split at hq
 ·simp at hq;subst hq;rw [qO];omega
 ·simp at hq
theorem x8 (m:Nat) (p:Pt) (A:List Pt):((iN m p++A).map Pt.v).reverse=(A.map Pt.v).reverse++if 0<p.n - m then [(p.dp m).v] else []:=by
 unfold iN;split <;> simp
theorem kJ (m:Nat) (p:Pt):tot (iN m p)=p.n - m:=by
 unfold iN;split
 ·simp [tot,qO]
 ·simp [tot];omega
theorem x9 {m:Nat}{p:Pt}:b8 (p.tk m)=b8 p∧bM (p.tk m)=bM p:=by cases p <;> exact ⟨rfl,rfl⟩
theorem NQ {A B r:List At}(p q:Pt) (hp:b8 p=false) (hq:bM q=false) (hn:p.n=q.n) (h:Th (p.az++A) (q.az++B) r):∃ m r',lz p q=some m∧m.length≤1∧r=az m++r'∧Th A B r':=by
 cases p with
 | drop s=>cases hp
 | keep k=>
  cases q with
  | put s=>cases hq
  | keep k'=>simp only [Pt.n] at hn;subst hn;obtain ⟨r',rfl,h'⟩:=Th.kks h;exact ⟨[.keep k],r',rfl,by simp,by simp [az,Pt.az],h'⟩
  | drop s=>simp only [Pt.n] at hn;subst hn;obtain ⟨r',rfl,h'⟩:=Th.kds h;exact ⟨[.drop s],r',rfl,by simp,by simp [az,Pt.az],h'⟩
 | put s=>
  cases q with
  | put s'=>cases hq
  | keep k'=>simp only [Pt.n] at hn;subst hn;obtain ⟨r',rfl,h'⟩:=Th.pks h;exact ⟨[.put s],r',rfl,by simp,by simp [az,Pt.az],h'⟩
  | drop s'=>simp only [Pt.n] at hn;obtain ⟨rfl,h'⟩:=Th.U4 hn h;exact ⟨[],r,by simp [lz],by simp,by simp [az],h'⟩
structure Tn (one other c:List Pt) (t:List Nat):Prop where
 Gf:ao c=c
 fit:aP c t=true
 dn:aL c t=aL other (aL one t)
 BN:told 0 c=(told 0 other).map (sub (told 0 one))
 NR:told 0 (sw c)=(told 0 (sw one)).map (sub (told 0 (sw other)))
 cs:cst c≤cst one+cst other
 tt:tot c≤tot one+tot other
 ln:c.length≤tot c
theorem SM {one other ps:List Pt}{t:List Nat}(h1:aP one t=true) (h2:aP other (aL one t)=true) (h:Th (az (ao one)) (az (ao other)) (az ps)):Tn one other (ao ps) t:=by
 have f1:aR (aA (az (ao one))) t=true:=by rw [←bX,dg,←dm];exact h1
 have f2:aR (aA (az (ao other))) (dA (az (ao one)) t)=true:=by rw [←bX,dg,←dB,dh,←dm];exact h2
 have b:=h.back 0 0 [] rfl
 rw [←uU,←uU,←uU,←bz,←bz,←bz] at b
 have sf:∀ c i,told i (sw (ao c))=told i (sw c):=fun c i=>by
  have:=congrArg (told i) (qL (cY c));rwa [bx,bx] at this
 refine ⟨cY _,?_,?_,?_,?_,?_,?_,cC (cQ (cj _))⟩
 ·rw [eS,dm,bX];exact h.fit t f1 f2
 ·rw [dh,dB,h.done t f1,←dB,dh,←dB,dh]
 ·have:=h.told 0 0 [] rfl
  rw [←bz,←bz,←bz,bx,bx] at this
  rw [bx];exact this
 ·rw [sf,←sf one,←sf other];exact b
 ·have:=h.cost
  rw [←g8,←g8,←g8,gi,gi] at this
  rw [gi];exact this
 ·have:=h.len
  rw [dz,dz,dz,bQ,bQ] at this
  rw [bQ];exact this
section
variable (hs:F[aJ]?=some dS) (hp:F[bY]?=some gj) (ht:F[aZ]?=some (iS bY aJ)) (hm:F[dj]?=some sR) {one other:List Pt}{r:List At}{N:Nat}(hN:N≤5000)
noncomputable def fN (one other A B C:List Pt) (a:Option Sl):Fr:=[some (.val (aC one)),some (.val (aC other)),some (.own (A.map Pt.v).reverse),some (.own (B.map Pt.v).reverse),some (.own (C.map Pt.v)),a]
noncomputable def U7 (one other:List Pt) (r:List At) (N k:Nat) (fr:Fr):Prop:=∃ A B C r' a,Th (az A) (az B) r'∧az C++r'=r∧(∀ p∈A,0<p.n)∧(∀ p∈B,0<p.n)∧C.length+k≤N∧k=tot A+tot B∧vo a∧fr=fN one other A B C a
include hs hp ht hm hN
noncomputable def BO (aJ dj aZ:Nat):Ss:=(.cons (.set 5 (.bi .min (.cons (.cl aJ (.cons (.ix (.v 2) (.neg (.c (.int 1)))) .nil)) (.cons (.cl aJ (.cons (.ix (.v 3) (.neg (.c (.int 1)))) .nil)) .nil)))) (.cons (.exp (.me .extend (.v 4) (.cons (.cl dj (.cons (.cl aZ (.cons (.v 2) (.cons (.v 5) .nil))) (.cons (.cl aZ (.cons (.v 3) (.cons (.v 5) .nil))) .nil))) .nil))) .nil))
noncomputable def u5 (aJ dj aZ:Nat):Ss:=.cons (.iff (.an (.v 3) (.cmp .eq (.ix (.ix (.v 3) (.neg (.c (.int 1)))) (.c (.int 0))) (.c (.str [112,117,116])))) (.cons (.exp (.me .append (.v 4) (.cons (.me .pop (.v 3) .nil) .nil))) .nil) (BO aJ dj aZ)) .nil
noncomputable def u6 (one other:List Pt) (r:List At) (N t:Nat) (g:Fl) (fr:Fr):Prop:=g=.nx∧∃ j,j<t∧U7 one other r N j fr
omit hs hp ht hm hN in
theorem BP {C:List Pt}(lC:C.length≤5000) (d:Pt) (fr:Fr):fU .append 4 [d.v] fr (some (some (.own (C.map Pt.v))))=.ok .bB (fr.set 4 (some (.own ((C++[d]).map Pt.v)))):=by
 rw [List.map_append];exact iP (by simp;omega)
omit hs hp ht hm in
theorem u7 (A B C:List Pt) (s:List Nat) (r':List At) (a:Option Sl) (h:Th (az A) (az (.put s :: B)) r') (hn:BE (az A)=true) (hC:az C++r'=r) (hA:∀ p∈A,0<p.n) (hB:∀ p∈(.put s :: B),0<p.n) (hk:C.length+(tot A+tot (.put s :: B))≤N) (ha:vo a) :
  Wp (exs (run F w (n+2)) w (u5 aJ dj aZ) (fN one other A (.put s :: B) C a)) (u6 one other r N (tot A+tot (.put s :: B))):=by
 have lC:C.length≤5000:=by omega
 rw [bL] at h
 obtain ⟨r2,e2,h2⟩:=Th.ps hn h
 have hs1:=hB (.put s) (by simp)
 unfold fN
 rw [List.map_cons,List.reverse_cons]
 refine ai (aQ (gg (aH rfl (aB rfl) jz) (by (repeat (first | array_get_dec | exact dM)))) (fun _=>?_) fun h=>absurd h (by decide))
 refine ai (fH (by (repeat (first | array_get_dec | exact qI | exact BP lC _ _))) (aD (aD ?_)))
 refine ⟨rfl,tot A+tot B,by rw [br];omega,A,B,C++[.put s],r2,a,h2,?_,hA,fun x hx=>hB x (by simp [hx]),?_,rfl,ha,rfl⟩
 ·rw [←hC,e2,fj];simp [az,Pt.az]
 ·rw [br] at hk;simp;omega
omit hN in
theorem NS (A B C mm:List Pt) (p q:Pt) (m:Nat) (a:Option Sl) (mn:dJ .min [.int p.n,.int q.n]=some (.int m)) (hm1:m≤p.n) (hm2:m≤q.n) (lp:p.n≤5000) (lq:q.n≤5000) (lA:A.length≤5000) (lB:B.length≤5000) (lC:C.length+mm.length≤10000) (e1:lz (p.tk m) (q.tk m)=some mm) (ha:vo a) (Q:Fl→Fr→Prop)
  (hQ:Q .nx (fN one other (iN m p++A) (iN m q++B) (C++mm) (some (.val (.int m))))):Wp (exs (run F w (n+2)) w (BO aJ dj aZ) (fN one other (p :: A) (q :: B) C a)) Q:=by
 have z1:=fun fr=>bV (fr:=fr) (iQ (F:=F) (w:=w) (n:=n+1) hs p (Nat.le_trans lp (by decide)))
 have z2:=fun fr=>bV (fr:=fr) (iQ (F:=F) (w:=w) (n:=n+1) hs q (Nat.le_trans lq (by decide)))
 have t1:=mU (F:=F) (w:=w) (n:=n) hs hp ht (A.map Pt.v).reverse p m hm1 (by omega) (by simp;omega)
 have t2:=mU (F:=F) (w:=w) (n:=n) hs hp ht (B.map Pt.v).reverse q m hm2 (by omega) (by simp;omega)
 rw [←x8] at t1 t2
 have cm:=fun fr=>call2 (fr:=fr) (J0 (F:=F) (w:=w) (n:=n+1) hm _ _ mm e1)
 have ex:∀ fr:Fr,fU .extend 4 [.lst (mm.map Pt.v)] fr (some (some (.own (C.map Pt.v))))=.ok .bB (fr.set 4 (some (.own ((C++mm).map Pt.v)))):=fun fr=>by
  rw [List.map_append];exact xV (by simp;omega)
 unfold fN at hQ ⊢
 rw [List.map_cons,List.reverse_cons,List.map_cons,List.reverse_cons]
 refine ai (aY (by (repeat (first | array_get_dec | exact dM | exact z1 _ | exact z2 _))) rfl (jM rfl ha) ?_)
 exact ai (fH (by (repeat (first | array_get_dec | exact zC rfl t1 | exact zC rfl t2 | exact cm _ | exact ex _))) (aD hQ))
theorem Eh (A B C:List Pt) (p q:Pt) (r':List At) (a:Option Sl) (hd:b8 p=false) (hq:bM q=false) (h:Th (az (p :: A)) (az (q :: B)) r') (hC:az C++r'=r) (hA:∀ x∈p :: A,0<x.n) (hB:∀ x∈q :: B,0<x.n) (hk:C.length+(tot (p :: A)+tot (q :: B))≤N) (ha:vo a) :
  Wp (exs (run F w (n+2)) w (u5 aJ dj aZ) (fN one other (p :: A) (q :: B) C a)) (u6 one other r N (tot (p :: A)+tot (q :: B))):=by
 have hp0:=hA p (by simp)
 have hq0:=hB q (by simp)
 obtain ⟨m,hm1,hm2,hm3⟩:∃ m:Nat,m≤p.n∧m≤q.n∧(m=p.n∨m=q.n):=⟨min p.n q.n,by omega,by omega,by omega⟩
 have mn:dJ .min [.int p.n,.int q.n]=some (.int m):=by
  rw [Be]
  split
  ·congr 2;omega
  ·congr 2;omega
 rw [br,br] at hk
 have lA:=cC (c:=A) fun x hx=>hA x (by simp [hx])
 have lB:=cC (c:=B) fun x hx=>hB x (by simp [hx])
 have h3:Th ((p.tk m).az++az (iN m p++A)) ((q.tk m).az++az (iN m q++B)) r':=by
  rw [fj,fj,←List.append_assoc,←List.append_assoc,←qP hm1,←qP hm2,←bL,←bL];exact h
 obtain ⟨mm,r2,e1,e2,e3,h4⟩:=NQ (p.tk m) (q.tk m) (by rw [x9.1];exact hd) (by rw [x9.2];exact hq) (by rw [(sS hm1).2,(sS hm2).2]) h3
 have fin:u6 one other r N (tot (p :: A)+tot (q :: B)) .nx (fN one other (iN m p++A) (iN m q++B) (C++mm) (some (.val (.int m)))):=by
  refine ⟨rfl,_,?_,_,_,_,r2,_,h4,?_,?_,?_,?_,rfl,.val,rfl⟩
  ·rw [dc,dc,kJ,kJ,br,br];omega
  ·rw [fj,List.append_assoc,←e3];exact hC
  ·intro x hx
   rcases List.mem_append.mp hx with hx | hx
   ·exact qQ m p x hx
   ·exact hA x (List.mem_cons_of_mem _ hx)
  ·intro x hx
   rcases List.mem_append.mp hx with hx | hx
   ·exact qQ m q x hx
   ·exact hB x (List.mem_cons_of_mem _ hx)
  ·rw [dc,dc,kJ,kJ,List.length_append];omega
 have st:=NS (one:=one) (other:=other) (w:=w) (n:=n) hs hp ht hm A B C mm p q m a mn hm1 hm2 (by omega) (by omega) (by omega) (by omega) (by omega) e1 ha _ (show nx (run F w (n+2)) w .nil (u6 one other r N (tot (p :: A)+tot (q :: B))) .nx _ from aD fin)
 unfold fN at st ⊢
 rw [List.map_cons,List.reverse_cons,List.map_cons,List.reverse_cons] at st ⊢
 cases q with
 | put s=>cases hq
 | keep k=>exact ai (aQ (gg (aH rfl (aB rfl) jz) (by (repeat (first | array_get_dec | exact dM)))) (fun h=>absurd h (by decide)) fun _=>st)
 | drop s=>exact ai (aQ (gg (aH rfl (aB rfl) jz) (by (repeat (first | array_get_dec | exact dM)))) (fun h=>absurd h (by decide)) fun _=>st)
omit hs hp ht hm hN in
theorem U8 {b r:List At}{x:At}(h:Th [] (x :: b) r):∃ c,x=.p c:=by cases h with | p=>exact ⟨_,rfl⟩
omit hs hp ht hm hN in
theorem U9 {a r:List At}{x:At}(h:Th (x :: a) [] r):∃ c,x=.d c:=by cases h with | d=>exact ⟨_,rfl⟩
theorem BQ (A B C:List Pt) (r':List At) (a:Option Sl) (hne:A≠[]∨B≠[]) (h:Th (az A) (az B) r') (hC:az C++r'=r) (hA:∀ p∈A,0<p.n) (hB:∀ p∈B,0<p.n) (hk:C.length+(tot A+tot B)≤N) (ha:vo a) :
  Wp (exs (run F w (n+2)) w (uV aJ dj aZ) (fN one other A B C a)) (u6 one other r N (tot A+tot B)):=by
 cases A with
 | nil=>
  cases B with
  | nil=>exact absurd hne (by simp)
  | cons q B'=>
   refine ai (aQ (pP (aH rfl (aB rfl) rfl)) (fun h=>absurd h (by decide)) fun _=>?_)
   have hq:=hB q (by simp)
   cases q with
   | put s=>exact (u7 hN [] B' C s r' a h rfl hC hA hB hk ha).mono fun g fr ⟨hg,hx⟩=>by subst hg;exact aD ⟨rfl,hx⟩
   | keep k=>
    rw [bL] at h
    cases k with
    | zero=>exact absurd hq (Nat.lt_irrefl 0)
    | succ k=>obtain ⟨c,e⟩:=U8 (x:=.k) h;cases e
   | drop s=>
    rw [bL] at h
    cases s with
    | nil=>exact absurd hq (Nat.lt_irrefl 0)
    | cons c s=>obtain ⟨c,e⟩:=U8 (x:=.d c) h;cases e
 | cons p A'=>
  have hp0:=hA p (by simp)
  cases hd:b8 p with
  | true=>
   cases p with
   | keep k=>cases hd
   | put s=>cases hd
   | drop s=>
    have lC:C.length≤5000:=by omega
    rw [bL] at h
    obtain ⟨r2,e2,h2⟩:=Th.ds h
    unfold fN
    rw [List.map_cons,List.reverse_cons]
    refine ai (aQ (gg (aH rfl (aB rfl) jz) (by (repeat (first | array_get_dec | exact dM)))) (fun _=>?_) fun h=>absurd h (by decide))
    refine ai (fH (by (repeat (first | array_get_dec | exact qI | exact BP lC _ _))) (aD (aD ?_)))
    refine ⟨rfl,tot A'+tot B,by rw [br];omega,A',B,C++[.drop s],r2,a,h2,?_,fun x hx=>hA x (by simp [hx]),hB,?_,rfl,ha,rfl⟩
    ·rw [←hC,e2,fj];simp [az,Pt.az]
    ·rw [br] at hk;simp;omega
  | false=>
   have st:Wp (exs (run F w (n+2)) w (u5 aJ dj aZ) (fN one other (p :: A') B C a)) (u6 one other r N (tot (p :: A')+tot B)):=by
    cases B with
    | nil=>
     exfalso
     rw [bL] at h
     cases p with
     | drop s=>cases hd
     | keep k=>cases k with | zero=>exact absurd hp0 (Nat.lt_irrefl 0) | succ k=>obtain ⟨c,e⟩:=U9 (x:=.k) h;cases e
     | put s=>cases s with | nil=>exact absurd hp0 (Nat.lt_irrefl 0) | cons c s=>obtain ⟨c,e⟩:=U9 (x:=.p c) h;cases e
    | cons q B'=>
     cases hq:bM q with
     | true=>
      have hnd:BE (az (p :: A'))=true:=by
       rw [bL]
       cases p with
       | drop s=>cases hd
       | keep k=>cases k <;> first | exact absurd hp0 (Nat.lt_irrefl 0) | rfl
       | put s=>cases s <;> first | exact absurd hp0 (Nat.lt_irrefl 0) | rfl
      cases q with
      | keep k=>cases hq
      | drop s=>cases hq
      | put s=>exact u7 hN (p :: A') B' C s r' a h hnd hC hA hB hk ha
     | false=>exact Eh hs hp ht hm hN A' B' C p q r' a hd hq h hC hA hB hk ha
   replace st:=st.mono (Q':=nx (run F w (n+2)) w .nil (u6 one other r N (tot (p :: A')+tot B))) fun g fr ⟨hg,hx⟩=>by subst hg;exact aD ⟨rfl,hx⟩
   unfold fN at st ⊢
   rw [List.map_cons,List.reverse_cons] at st ⊢
   cases p with
   | drop s=>cases hd
   | keep k=>exact ai (aQ (gg (aH rfl (aB rfl) jz) (by (repeat (first | array_get_dec | exact dM)))) (fun h=>absurd h (by decide)) fun _=>st)
   | put s=>exact ai (aQ (gg (aH rfl (aB rfl) jz) (by (repeat (first | array_get_dec | exact dM)))) (fun h=>absurd h (by decide)) fun _=>st)
omit hs hp ht hm hN in
theorem BR (c:List Pt):cE c≤tot c:=by rw [←dQ c 0];exact JM c 0
omit hN in
theorem u9 (hst:F[aM]?=some cP) (hf:F[aV]?=some (fc aM)) (hb:F[bD]?=some (gR aJ)) (ha:F[ee]?=some (ni aJ)) (yc:F[i]?=some (kI ee bD aV aJ dj aZ)) (hw:5000<w)
  (one other:List Pt) (t:List Nat) (h1:aP one t=true) (h2:aP other (aL one t)=true) (b1:tot one≤2000) (b2:tot other≤2000) (l1:one.length≤2000) (l2:other.length≤2000) :
  ∃ c,run F w (n+3) i [.val (aC one),.val (aC other)]=some (aC c,[])∧Tn one other c t:=by
 have f1:aR (aA (az (ao one))) t=true:=by rw [←bX,dg,←dm];exact h1
 have f2:aR (aA (az (ao other))) (dA (az (ao one)) t)=true:=by rw [←bX,dg,←dB,dh,←dm];exact h2
 obtain ⟨r,hr⟩:=Th.all _ _ _ t (Nat.le_refl _) f1 f2
 have e1:cE one=aE other:=by rw [←oK h1,gu h2]
 have ne:cop .ne (.int (cE one)) (.int (aE other))=some false:=by rw [zk,e1];simp
 have c1:=fun fr=>bV (fr:=fr) (rZ (F:=F) (w:=w) (n:=n) hs ha one (by omega) (by omega))
 have c2:=fun fr=>bV (fr:=fr) (iE (F:=F) (w:=w) (n:=n) hs hb other (by omega) (by omega))
 have c3:=fun fr=>bV (fr:=fr) (dO (F:=F) (w:=w) (n:=n) hst hf one (by omega) (by omega))
 have c4:=fun fr=>bV (fr:=fr) (dO (F:=F) (w:=w) (n:=n) hst hf other (by omega) (by omega))
 have t1:=bQ one
 have t2:=bQ other
 have g1:=cC (cQ (cj one))
 have g2:=cC (cQ (cj other))
 have m1:eT ((ao one).map Pt.v).reverse=some (.lst ((ao one).map Pt.v).reverse):=eY (cS (by simp;omega))
 have m2:eT ((ao other).map Pt.v).reverse=some (.lst ((ao other).map Pt.v).reverse):=eY (cS (by simp;omega))
 have key:Wp (exs (run F w (n+2)) w (kI ee bD aV aJ dj aZ).body (fy (kI ee bD aV aJ dj aZ) [.val (aC one),.val (aC other)])) fun g fr=>∃ ps,az ps=r∧g=.ret (aC (ao ps))∧outs 2 fr=[]:=by
  refine ai (aQ (by (repeat (first | array_get_dec | exact c1 _ | exact c2 _))) (fun h=>absurd h (by decide)) fun _=>aD ?_)
  refine ai (iD (l:=((ao one).map Pt.v).reverse) (sN (uF (aT (aI rfl (aB rfl) aG) (c3 _)) rfl) m1) rfl rfl ?_)
  refine ai (iD (l:=((ao other).map Pt.v).reverse) (sN (uF (aT (aI rfl (aB rfl) aG) (c4 _)) rfl) m2) rfl rfl ?_)
  refine ai (iD (l:=[]) (by repeat array_get_dec) rfl rfl ?_)
  refine ai (FP (pN (U7 one other r (tot one+tot other)) (fun k fr hI=>?_) w (tot one+tot other) _ (by omega) ⟨ao one,ao other,[],r,none,hr,rfl,cQ (cj one),cQ (cj other),by simp,by omega,.none,rfl⟩))
  obtain ⟨A,B,C,r',a,hT,hC,hA,hB,hk,hkk,nW,rfl⟩:=hI
  by_cases hne:A≠[]∨B≠[]
  ·have ht1:aN (run F w (n+2)) (.orr (.v 2) (.v 3)) (fN one other A B C a)=.ok true (fN one other A B C a):=by
    cases A with
    | cons p A=>unfold fN;rw [List.map_cons,List.reverse_cons];exact pQ (aH rfl (aB rfl) jz)
    | nil=>
     cases B with
     | nil=>simp at hne
     | cons q B=>unfold fN;rw [List.map_cons,List.reverse_cons];exact er (aH rfl (aB rfl) rfl) (aH rfl (aB rfl) jz)
   refine ⟨true,_,ht1,?_⟩
   dsimp only
   rw [if_pos rfl]
   refine (BQ hs hp ht hm (N:=tot one+tot other) (by omega) A B C r' a hne hT hC hA hB (by omega) nW).mono fun g fr ⟨hg,hx⟩=>?_
   subst hg hkk
   exact hx
  ·obtain ⟨rfl,rfl⟩:A=[]∧B=[]:=by simpa using hne
   refine ⟨false,_,er (aH rfl (aB rfl) rfl) (aH rfl (aB rfl) rfl),?_⟩
   dsimp only
   rw [if_neg (by decide)]
   cases hT
   rw [List.append_nil] at hC
   subst hC
   have lC:=hr.len
   rw [dz,dz,dz] at lC
   have mt:toT (.lst (C.map Pt.v))=some (aC C):=by rw [xS];exact gb (cS (by simp;omega))
   have c5:=fun fr=>bV (fr:=fr) (dO (F:=F) (w:=w) (n:=n) hst hf C (by omega) (by omega))
   have sh:fR (fN one other [] [] C a)=[some (.val (aC one)),some (.val (aC other)),some (.val (.lst [])),some (.val (.lst [])),some (.val (.lst (C.map Pt.v))),a]:=by
    show _ :: _ :: _ :: _ :: _ :: [a.map Sl.fX]=_
    rw [d9 nW];rfl
   refine ai (bP (v:=aC (ao C)) (ah:=[some (.val (aC one)),some (.val (aC other)),some (.val (.lst [])),some (.val (.lst [])),some (.val (.lst (C.map Pt.v))),a]) ?_ ⟨C,rfl,rfl,rfl⟩)
   rw [sh]
   exact aT (aI rfl (kZ (aB rfl) mt) aG) (c5 _)
 obtain ⟨g,fr,e,ps,hps,rfl,ho⟩:=key
 refine ⟨ao ps,?_,SM h1 h2 (hps▸hr)⟩
 rw [run_eq yc rfl,e]
 simp only [xT]
 rw [show outs (kI ee bD aV aJ dj aZ).np fr=[] from ho]
end
end
end Pv
namespace Pv
open Ev (D cz b7 TY BI ME T E Es Eo It S Ss Fn big deep b2i rep cH eG b5 aU cut cU eB slots)
section
variable {F:List Fn}{w n bY aJ dj aZ aV aM ee bD cg iI i:Nat}
noncomputable def Ch:List Nat→List (List Pt)→Prop
 | _,[]=>True
 | t,c :: rs=>aP c t=true∧Ch (aL c t) rs
noncomputable def ig (t:List Nat) (rs:List (List Pt)):List Nat:=rs.foldl (fun s c=>aL c s) t
noncomputable def j4 (T:List Tq) (rs:List (List Pt)):List Tq:=rs.foldl (fun T c=>(told 0 c).map (sub T)) T
noncomputable def fL (rs:List (List Pt)):Nat:=(rs.map tot).sum
theorem Ei {c:List Pt}{t:List Nat}(h:aP c t=true):aP (ez c) (aL c t)=true∧aL (ez c) (aL c t)=t:=by
 have:=uO c t h
 simp only [ez];rw [eS,dh];exact this
theorem mV (c:List Pt):told 0 (ez c)=told 0 (sw c):=by simp only [ez];rw [bx]
theorem mW (n:Nat):told 0 [.keep n]=(List.range n).map Tq.at:=by simp [told,Pt.told]
theorem J1 (t:List Nat) (p q:List (List Pt)):ig t (p++q)=ig (ig t p) q:=by simp [ig]
theorem yd (T:List Tq):∀ (rs:List (List Pt)) (U:List Tq),(j4 U rs).map (sub T)=j4 (U.map (sub T)) rs
 | [],U=>rfl
 | c :: rs,U=>by
  show (j4 ((told 0 c).map (sub U)) rs).map (sub T)=j4 ((told 0 c).map (sub (U.map (sub T)))) rs
  rw [yd T rs,D8]
theorem BU {c:List Pt}{t:List Nat}(h:aP c t=true):(told 0 c).length=(aL c t).length:=by rw [dQ,oK h]
theorem NT {L:List Tq}{n:Nat}(h:L.length=n):(told 0 [.keep n]).map (sub L)=L:=by rw [mW,←h];exact JU L
theorem NU {a b:List Pt}{t:List Nat}(fa:ao a=a) (fb:ao b=b) (ha:aP a t=true) (hb:aP b t=true) (h:told 0 a=told 0 b):a=b:=by rw [←fa,←fb];exact BH ha hb h
theorem idL {c:List Pt}{t:List Nat}(h:aP c t=true):(told 0 c).map (sub (told 0 [.keep t.length]))=told 0 c:=by
 rw [bz c,mW]
 refine D9 fun j hj=>?_
 have:j<(aA (az c)).length:=(List.getElem?_eq_some_iff.mp hj).1
 rw [←bX,fK,←gu h] at this
 simp [this]
theorem Ej (c:List Pt) (i:Nat):told i (sw (ao c))=told i (sw c):=by
 have:=congrArg (told i) (qL (cY c));rwa [bx,bx] at this
theorem qR (n:Nat):told 0 (ez (ao [.keep n]))=told 0 [.keep n]:=by
 rw [mV,Ej];rfl
theorem BV {t:List Nat}{p:List (List Pt)}{x:List Pt}(h:aP x (ig t p)=true):(j4 (told 0 [.keep (ig t p).length]) (p.map ez).reverse).map (sub (told 0 (sw x)))=j4 (told 0 [.keep (ig t (p++[x])).length]) ((p++[x]).map ez).reverse:=by
 obtain ⟨u1,u2⟩:=Ei h
 have e1:ig t (p++[x])=aL x (ig t p):=by rw [J1];rfl
 rw [yd,List.map_append,List.reverse_append,e1]
 show _=j4 ((told 0 (ez x)).map (sub (told 0 [.keep (aL x (ig t p)).length]))) _
 rw [idL u1,←mV,NT (by rw [BU u1,u2])]
 rfl
structure An (c:List Pt) (t:List Nat) (rs:List (List Pt)):Prop where
 Gf:ao c=c
 fit:aP c t=true
 dn:aL c t=ig t rs
 BN:told 0 c=j4 (told 0 [.keep t.length]) rs
 NR:told 0 (sw c)=j4 (told 0 [.keep (ig t rs).length]) (rs.map ez).reverse
 tt:tot c≤t.length+fL rs
 ln:c.length≤tot c
theorem NV (t:List Nat):An (ao [.keep t.length]) t []:=by
 refine ⟨cY _,by rw [eS];simp [aP],by rw [dh];simp [aL,ig],by rw [bx];rfl,by rw [←mV,qR];rfl,by rw [bQ];simp [tot,Pt.n,fL],cC (cQ (cj _))⟩
section
variable (hs:F[aJ]?=some dS) (hp:F[bY]?=some gj) (ht:F[aZ]?=some (iS bY aJ)) (hm:F[dj]?=some sR)
 (hst:F[aM]?=some cP) (hf:F[aV]?=some (fc aM)) (hb:F[bD]?=some (gR aJ)) (ha:F[ee]?=some (ni aJ)) (yc:F[iI]?=some (kI ee bD aV aJ dj aZ)) (hno:F[cg]?=some (g7 aV)) (hw:5000<w)
include hs hp ht hm hst hf hb ha yc hno hw
theorem vc (hat:F[i]?=some (jy cg iI)) (t:List Nat) (rs:List (List Pt)) (hch:Ch t rs) (hB:t.length+fL rs≤2000) (hL:∀ c∈rs,c.length≤2000) :
  ∃ c,run F w (n+4) i [.val (.int t.length),.val (.lst (rs.map aC))]=some (aC c,[])∧An c t rs:=by
 have c1:=fun fr=>bV (fr:=fr) (ja (F:=F) (w:=w) (n:=n) hst hf hno t.length (by omega))
 have key:Wp (exs (run F w (n+3)) w (jy cg iI).body (fy (jy cg iI) [.val (.int t.length),.val (.lst (rs.map aC))])) fun g fr=>∃ c,An c t rs∧g=.ret (aC c)∧outs 2 fr=[]:=by
  refine ai (aY (by (repeat (first | array_get_dec | exact c1 _))) rfl rfl ?_)
  refine ai (ju (vs:=rs.map aC) (eK (eZ rfl) rfl) ?_)
  refine gZ (e:=aC) (fun p l fr=>p++l=rs∧Ch (ig t p) l∧∃ c a,An c t p∧vo a∧fr=[some (.val (.int t.length)),some (.val (.lst (rs.map aC))),some (.val (aC c)),a]) (fun p x l fr ⟨hpl,hc,c,a,hA,nW,hfr⟩=>?_) (fun p fr ⟨hpl,hc,c,a,hA,nW,hfr⟩=>?_) rs [] _ ⟨rfl,hch,_,none,NV t,.none,rfl⟩
  ·subst hfr
   have ff:(p++[x])++l=rs:=by simpa using hpl
   have hx:x∈rs:=by rw [←hpl];simp
   have hT:fL rs=fL p+tot x+fL l:=by rw [←hpl];simp [fL];omega
   have a1:=hA.tt
   have a2:=hA.ln
   obtain ⟨c',e',vd⟩:=u9 (F:=F) (w:=w) (n:=n) hs hp ht hm hst hf hb ha yc hw c x t hA.fit (by rw [hA.dn];exact hc.1) (by omega) (by omega) (by omega) (hL x hx)
   have c2:=fun fr=>call2 (fr:=fr) e'
   refine dR (bind1 rfl nW) (ai (aY (by (repeat (first | array_get_dec | exact c2 _))) rfl rfl (aD ?_)))
   rw [eV]
   refine ⟨ff,?_,c',_,⟨vd.Gf,vd.fit,?_,?_,?_,?_,vd.ln⟩,.val,rfl⟩
   ·have:=hc.2;simpa [ig] using this
   ·rw [vd.dn,hA.dn];simp [ig]
   ·rw [vd.BN,hA.BN];simp [j4]
   ·rw [vd.NR,hA.NR];exact BV hc.1
   ·have:=vd.tt;simp [fL] at a1 ⊢;omega
  ·subst hfr
   simp at hpl
   subst hpl
   have sh:fR [some (.val (.int t.length)),some (.val (.lst (p.map aC))),some (.val (aC c)),a]=[some (.val (.int t.length)),some (.val (.lst (p.map aC))),some (.val (aC c)),a]:=by
    show _ :: _ :: _ :: [a.map Sl.fX]=_
    rw [d9 nW];rfl
   refine ai (bP (v:=aC c) (ah:=[some (.val (.int t.length)),some (.val (.lst (p.map aC))),some (.val (aC c)),a]) ?_ ⟨c,hA,rfl,rfl⟩)
   rw [sh];exact aB rfl
 obtain ⟨g,fr,e,c,hA,rfl,ho⟩:=key
 refine ⟨c,?_,hA⟩
 rw [run_eq hat rfl,e]
 simp only [xT]
 rw [show outs (jy cg iI).np fr=[] from ho]
end
end
end Pv
namespace Pv
section
variable {t:List Nat}{p q rs:List (List Pt)}{s e w x y c:List Pt}
end
open Ev (D cz b7 TY BI ME T E Es Eo It S Ss Fn big deep b2i rep cH eG b5 aU cut cU eB slots)
inductive Hd (L:List V):Sl→List (List V)→Prop
 | val:Hd L (.val (.lst L)) []
 | bor:Hd L (.bor L) [L]
section
variable {F:List Fn}{w n bY aJ dj aZ aV aM ee bD cg iI i:Nat}
section
variable (hs:F[aJ]?=some dS) (hp:F[bY]?=some gj) (ht:F[aZ]?=some (iS bY aJ)) (hm:F[dj]?=some sR)
 (hst:F[aM]?=some cP) (hf:F[aV]?=some (fc aM)) (hb:F[bD]?=some (gR aJ)) (ha:F[ee]?=some (ni aJ)) (yc:F[iI]?=some (kI ee bD aV aJ dj aZ)) (hno:F[cg]?=some (g7 aV)) (hw:5000<w)
include hs hp ht hm hst hf hb ha yc hno hw
end
end
theorem NW {P:aW}{fr ah av:Fr}{k:Bool}{a b:E}{x y:V}{l m:List V}(h:src (k&&kf a (bK b)) fr a (ev P (k&&kf a (bK b)) a fr)=.ok x ah) (h2:src k ah b (ev P k b ah)=.ok y av) (hx:jV x=some l) (hy:jV y=some m):cO P k (.zip a b) fr=.ok (eW l m) av:=by rw [Ju,h,au,h2,au,hx,hy];rfl
theorem ve {F:List Fn}{w n i:Nat}(hs:F[i]?=some Bp) (c:List Pt) (h1:c.length≤1000) (hF:j0 c=true):run F w (n+1) i [.val (aC c)]=some (.bl true,[]):=by
 obtain ⟨hA,hN⟩:=Bool.and_eq_true_iff.mp hF
 have l1:(c.map fun p=>V.str p.word).length≤big:=by rw [List.length_map];exact Nat.le_trans h1 (by decide)
 refine cB hs rfl (ai (aY (jd (eK (eZ rfl) rfl) rfl (mJ _ (fun p=>.str p.word) c fun p _=>by cases p <;> exact uG rfl (gA (aB rfl) (bW rfl) rfl)) (eY l1)) rfl rfl ?_))
 refine ai (ju (NW (eZ rfl) (oE (aB rfl) (je (bW rfl)) nc (show eT (cut _ (some 1) none)=some _ by rw [SI];exact eY (by rw [List.length_tail];exact Nat.le_trans (Nat.sub_le _ _) l1))) rfl rfl) ?_)
 refine uy (fun l fr=>∃ ws a b,vo a∧vo b∧l=eW (ws.map V.str) (ws.map V.str).tail∧iG ws=true∧fr=[some (.val (aC c)),some (.val (.lst (c.map fun p=>.str p.word))),a,b,none,none]) (fun d l fr ⟨ws,a,b,ha,hb,hl,NX,hfr⟩=>?_) (fun fr ⟨ws,a,b,ha,hb,hl,NX,hfr⟩=>?_) _ _ ⟨c.map Pt.word,none,none,.none,.none,by rw [List.map_map];rfl,hA,rfl⟩
 ·subst hfr
  match ws,hl with
  | [],hl=>cases hl
  | [x],hl=>cases hl
  | x :: y :: r,hl=>
   cases hl
   obtain ⟨h2,h3⟩:=Bool.and_eq_true_iff.mp NX
   have h4:decide (x=y)=false∧(decide (x=jl)&&decide (y=iW))=false:=by
    simp only [iY,Bool.not_eq_true',Bool.or_eq_false_iff] at h2;exact h2
   refine dR (lg rfl ha rfl hb) (ai (aQ (b:=false) (ah:=[some (.val (aC c)),some (.val (.lst (c.map fun p=>.str p.word))),some (.val (.str x)),some (.val (.str y)),none,none]) (er (aH rfl (bO (aB rfl) (aB rfl) oF) h4.1) ?_) (fun h=>absurd h (by decide)) fun _=>aD (aD ?_)))
   ·refine SE (aH rfl (bO (aB rfl) (bW rfl) oF) rfl) (fun h=>aH rfl (bO (aB rfl) (bW rfl) oF) ?_) fun _=>⟨rfl,rfl⟩
    have:=h4.2
    rw [show decide (x=jl)=true from h] at this
    exact this
   ·rw [eV];exact ⟨y :: r,_,_,.val,.val,rfl,h3,rfl⟩
 ·subst hfr
  have sh:fR [some (.val (aC c)),some (.val (.lst (c.map fun p=>V.str p.word))),a,b,none,none]=[some (.val (aC c)),some (.val (.lst (c.map fun p=>V.str p.word))),a,b,none,none]:=by
   show _ :: _ :: a.map Sl.fX :: b.map Sl.fX :: _=_
   rw [d9 ha,d9 hb];rfl
  have hz:∀ p∈c,decide (p.n=0)=false:=fun p hp=>by
   have:=List.all_eq_true.mp hN p hp
   simpa [FU] using this
  have hf0:c.filter (fun p=>decide (p.n=0))=[]:=List.filter_eq_nil_iff.mpr fun p hp=>by rw [hz p hp];decide
  have hc2:cV (jt (run F w n) (.v 5) (.one 5) (.yes (.cmp .isin (.ix (.v 5) (.c (.int 1))) (.tup (.cons (.c (.str [])) (.cons (.c (.int 0)) .nil))))) [some (.val (aC c)),some (.val (.lst (c.map fun p=>V.str p.word))),a,b,none,none]) (c.map Pt.v)=some []:=by
   have:=gf (f:=jt (run F w n) (.v 5) (.one 5) (.yes (.cmp .isin (.ix (.v 5) (.c (.int 1))) (.tup (.cons (.c (.str [])) (.cons (.c (.int 0)) .nil))))) [some (.val (aC c)),some (.val (.lst (c.map fun p=>V.str p.word))),a,b,none,none]) (e:=Pt.v) (p:=fun p=>decide (p.n=0)) (g:=Pt.v) c fun p hp=>by
    have hp0:=of_decide_eq_false (hz p hp)
    have hi:∃ x u,p.v=.tup [x,u]∧cop .isin u (.tup [.str [],.int 0])=some false:=by
     cases p with
     | keep k=>
      have:¬ (0:Int)=(k:Int):=fun z=>hp0 (by show k=0;omega)
      exact ⟨_,_,rfl,by simp [this]⟩
     | put s=>
      have:¬ []=s:=fun z=>hp0 (by subst z;rfl)
      exact ⟨_,_,rfl,by simp [this]⟩
     | drop s=>
      have:¬ []=s:=fun z=>hp0 (by subst z;rfl)
      exact ⟨_,_,rfl,by simp [this]⟩
    obtain ⟨x,u,e,hi⟩:=hi
    rw [hz p hp,e]
    have bt:cy (.one 5) (.tup [x,u]) (nP [some (.val (aC c)),some (.val (.lst (c.map fun p=>V.str p.word))),a,b,none,none])=some [some (.val (aC c)),some (.val (.lst (c.map fun p=>V.str p.word))),a,b,none,some (.val (.tup [x,u]))]:=by
     have ro:nP [some (.val (aC c)),some (.val (.lst (c.map fun p=>V.str p.word))),a,b,none,none]=[some (.val (aC c)),some (.val (.lst (c.map fun p=>V.str p.word))),a,b,none,none]:=by
      rcases ha with rfl | ⟨_,rfl⟩ <;> rcases hb with rfl | ⟨_,rfl⟩ <;> rfl
     rw [ro];rfl
    exact kG (v:=.bB) (cL:=[]) (b:=false) bt (aH rfl (bO (gA (aB rfl) (bW rfl) rfl) (jZ (bT (bW rfl) (bT (bW rfl) cG)) pL) hi) rfl) nofun
   rw [hf0] at this;exact this
  refine ai (bP (ah:=[some (.val (aC c)),some (.val (.lst (c.map fun p=>V.str p.word))),a,b,none,none]) ?_ ⟨rfl,rfl⟩)
  rw [sh]
  exact Sy (SD (aB rfl) rfl) (bO (jd (eK (eZ rfl) rfl) rfl hc2 kY) (pO cG kY) Jg)
end Pv
namespace Pv
open Ev (deep big rep cut b5)
noncomputable def gD:At→Bool
 | .p _=>false
 | _=>true
noncomputable def gk:At→Bool
 | .d _=>false
 | _=>true
@[simp] theorem aai:gD .k=true:=nd rfl
@[simp] theorem aaj {c:Nat}:gD (.d c)=true:=nd rfl
@[simp] theorem aak {c:Nat}:gD (.p c)=false:=nd rfl
@[simp] theorem pX:gk .k=true:=nd rfl
@[simp] theorem BW {c:Nat}:gk (.d c)=false:=nd rfl
@[simp] theorem pY {c:Nat}:gk (.p c)=true:=nd rfl
@[simp] theorem nq {i:Nat}:isAt (.at i)=true:=nd rfl
@[simp] theorem nu {c:Nat}:isAt (.sg c)=false:=nd rfl
theorem lD {a b:List Pt}(h:az a=az b):ao a=ao b:=(gS a b).mpr (by simp only [iF,bX,bz,h])
theorem oN {a a' b b':List Pt}(h1:ao a=ao a') (h2:ao b=ao b'):ao (a++b)=ao (a'++b'):=by
 have e1:=(gS _ _).mp h1
 have e2:=(gS _ _).mp h2
 simp only [iF,Prod.mk.injEq] at e1 e2
 refine (gS _ _).mpr ?_
 have key:∀ k,told k b=told k b':=fun k=>by
  have q1:=(bx b k).symm
  rw [h2,bx] at q1
  exact q1
 simp only [iF,dP,gh,e1.1,e1.2,e2.1,key]
theorem pZ (f:Pt→Bool) (g:At→Bool) (h:∀ p:Pt,∀ x∈p.az,g x=f p) (c:List Pt):az (c.filter f)=(az c).filter g:=by
 induction c with
 | nil=>rfl
 | cons p c ih=>
  rw [bL,List.filter_append,List.filter_cons]
  cases e:f p with
  | true=>
   rw [if_pos rfl,bL,ih,List.filter_eq_self (l:=p.az) |>.mpr fun x hx=>by rw [h p x hx,e]]
  | false=>
   rw [if_neg (by simp),ih,List.filter_eq_nil_iff (l:=p.az) |>.mpr fun x hx=>by rw [h p x hx,e];simp];rfl
theorem kK (c:List Pt):az (c.filter fun p=>!bM p)=(az c).filter gD:=pZ _ _ (fun p x hx=>by
 cases p with
 | keep n=>rw [List.eq_of_mem_replicate hx];rfl
 | drop s=>obtain ⟨_,_,rfl⟩:=List.mem_map.mp hx;rfl
 | put s=>obtain ⟨_,_,rfl⟩:=List.mem_map.mp hx;rfl) c
theorem jR (c:List Pt):az (c.filter fun p=>!b8 p)=(az c).filter gk:=pZ _ _ (fun p x hx=>by
 cases p with
 | keep n=>rw [List.eq_of_mem_replicate hx];rfl
 | drop s=>obtain ⟨_,_,rfl⟩:=List.mem_map.mp hx;rfl
 | put s=>obtain ⟨_,_,rfl⟩:=List.mem_map.mp hx;rfl) c
theorem sU:∀ a:List At,aA (a.filter gD)=aA a
 | []=>rfl
 | .k :: a=>by simp [aA,sU a]
 | .d c :: a=>by simp [aA,sU a]
 | .p c :: a=>by simp [aA,sU a]
theorem qa:∀ (a:List At) (i:Nat),tA i (a.filter gD)=(tA i a).filter isAt
 | [],_=>rfl
 | .k :: a,i=>by simp [tA,qa a]
 | .d c :: a,i=>by simp [tA,qa a]
 | .p c :: a,i=>by simp [tA,qa a]
theorem jB:∀ (a:List At) (i j:Nat) (L:List Tq),L.length=j→(tA j (a.filter gk)).map (sub (L++(tA i a).filter isAt))=tA i a
 | [],_,_,_,_=>rfl
 | .k :: a,i,j,L,h=>by
  have:=jB a (i+1) (j+1) (L++[.at i]) (by simp [h])
  simp only [List.append_assoc,List.singleton_append] at this
  simp only [pX,pY,tA,nq,nu,List.filter_cons,if_true,List.map_cons,this,mS h]
 | .d c :: a,i,j,L,h=>by
  have:=jB a (i+1) j L h
  simpa [tA] using this
 | .p c :: a,i,j,L,h=>by
  have:=jB a i j L h
  simp only [pX,pY,tA,nq,nu,List.filter_cons,if_true,List.map_cons,this]
  simp [sub,this]
noncomputable def kA (a:List At):Nat:=((tA 0 a).filter isAt).length
theorem jf:∀ (a:List At) (i j:Nat),((tA i a).filter isAt).length=((tA j a).filter isAt).length
 | [],_,_=>rfl
 | .k :: a,i,j=>by simp [tA,jf a (i+1) (j+1)]
 | .d c :: a,i,j=>by simp only [tA];exact jf a (i+1) (j+1)
 | .p c :: a,i,j=>by simp [tA,jf a i j]
theorem sV:∀ (a:List At),aA (a.filter gk)=List.replicate (kA a) []
 | []=>rfl
 | .k :: a=>by
  have:=sV a
  simp only [kA,tA,nq,List.filter_cons,if_true,List.length_cons,pX,aA,List.replicate_succ,this]
  rw [jf a 0 1]
 | .d c :: a=>by
  have:=sV a
  simp only [kA,tA,BW,List.filter_cons,Bool.false_eq_true,if_false,this]
  rw [jf a 0 1]
 | .p c :: a=>by
  have:=sV a
  simp only [kA,tA,nu,List.filter_cons,Bool.false_eq_true,if_false,pY,if_true,aA,this]
theorem qS:∀ {a:List At},(∀ x∈a,gD x=true)→(∀ x∈a,gk x=true)→a=List.replicate a.length .k
 | [],_,_=>rfl
 | .k :: a,h1,h2=>by rw [List.length_cons,List.replicate_succ,←qS (fun x hx=>h1 x (.tail _ hx)) fun x hx=>h2 x (.tail _ hx)]
 | .d c :: a,_,h2=>absurd (h2 _ (.head _)) (by simp)
 | .p c :: a,h1,_=>absurd (h1 _ (.head _)) (by simp)
theorem nv:∀ (a:List At) (i:Nat),(∀ x∈a,gD x=true)↔∀ q∈tA i a,isAt q=true
 | [],_=>by simp [tA]
 | .k :: a,i=>by simp [tA,nv a (i+1)]
 | .d c :: a,i=>by simp [tA,nv a (i+1)]
 | .p c :: a,i=>by simp [tA]
theorem ny:∀ (a:List At),(∀ x∈a,gk x=true)↔∀ q∈aA a,q=[]
 | []=>by simp [aA]
 | .k :: a=>by simp [aA,ny a]
 | .d c :: a=>by simp [aA]
 | .p c :: a=>by simp [aA,ny a]
theorem vf {y:List Pt}(h:∀ x∈az y,gD x=true):∀ x∈az (ao y),gD x=true:=
 (nv _ 0).mpr (by rw [←bz,bx,bz];exact (nv _ 0).mp h)
theorem Ek {y:List Pt}(h:∀ x∈az y,gk x=true):∀ x∈az (ao y),gk x=true:=
 (ny _).mpr (by rw [←bX,dg,bX];exact (ny _).mp h)
theorem se {y:List Pt}(h1:∀ x∈az y,gD x=true) (h2:∀ x∈az y,gk x=true):ao y=ao [.keep (cE y)]:=by
 refine lD ?_
 rw [qS h1 h2]
 have e:cE y=(az y).length:=by
  rw [←dQ y 0,bz]
  have:∀ (n i:Nat),(tA i (List.replicate n .k)).length=n:=by
   intro n;induction n with
   | zero=>intro i;rfl
   | succ n ih=>intro i;simp [List.replicate_succ,tA,ih]
  rw [qS h1 h2,this];simp
 rw [e];simp [az,Pt.az]
noncomputable def bH (c:List Pt):List Pt:=ao (c.filter fun p=>!bM p)
noncomputable def cK (c:List Pt):List Pt:=ao ((ao c).filter fun p=>!b8 p)
theorem vg (c:List Pt):kps c=kA (az c):=by rw [←jN c 0,bz];rfl
theorem lE (c:List Pt) (i:Nat):told i (bH c)=(told i c).filter isAt:=by
 unfold bH;rw [bx,bz,kK,qa,←bz]
theorem qb (c:List Pt):asks (bH c)=asks c:=by unfold bH;rw [dg,bX,kK,sU,←bX]
theorem mX (c:List Pt):cE (bH c)=kps c:=by rw [←dQ _ 0,lE,jN]
theorem sj (c:List Pt):asks (cK c)=List.replicate (kps c) []:=by
 unfold cK;rw [dg,bX,jR,sV,←vg,jO]
theorem sq (c:List Pt) (i:Nat):told i (cK c)=tA i ((az (ao c)).filter gk):=by unfold cK;rw [bx,bz,jR]
theorem El (t:List Nat):aR (List.replicate t.length []) t=true:=by
 induction t with
 | nil=>rfl
 | cons c t ih=>simp [List.replicate_succ,aR,ih]
theorem su {c:List Pt}{t:List Nat}(h:aP c t=true):aP (bH c) t=true:=by rw [dm,qb,←dm];exact h
theorem Em {c:List Pt}{t:List Nat}(h:aP c t=true):aP (cK c) (aL (bH c) t)=true:=by
 rw [dm,sj,←mX,←oK (su h)];exact El _
theorem BX {c x:List Pt}{t:List Nat}(hx:Tn (bH c) (cK c) x t):told 0 x=told 0 c:=by
 rw [hx.BN,sq,lE]
 have:=jB (az (ao c)) 0 0 [] rfl
 rw [←bz,bx] at this
 simpa using this
theorem J2 {c x:List Pt}{t:List Nat}(h:aP c t=true) (hx:Tn (bH c) (cK c) x t):x=ao c:=
 NU hx.Gf (cY c) hx.fit (by rw [eS];exact h) (by rw [BX hx,bx])
theorem SN:∀ a:List At,kA (a.filter gk)=kA a:=by
 intro a
 induction a with
 | nil=>rfl
 | cons x a ih=>
  cases x with
  | k=>simp only [kA,pX,List.filter_cons,if_true,tA,nq,List.length_cons] at ih ⊢;rw [jf _ 1 0,ih,jf a 1 0]
  | d c=>simp only [kA,BW,List.filter_cons,Bool.false_eq_true,if_false,tA] at ih ⊢;rw [ih,jf a 1 0]
  | p c=>simp only [kA,pY,List.filter_cons,if_true,tA,nu,Bool.false_eq_true,if_false] at ih ⊢;exact ih
theorem vh (c:List Pt):kps (cK c)=kps c:=by
 unfold cK
 rw [jO,vg,jR,SN,←vg,jO]
theorem En (c:List Pt):cE (cK c)=cE c:=by
 have q:=jB (az (ao c)) 0 0 [] rfl
 have l1:=congrArg List.length q
 rw [List.length_map,←sq,←bz,bx,dQ,dQ] at l1
 exact l1
theorem BY (c:List Pt):cst (bH c)+cst (cK c)=cst c:=by
 have h1:=mP (bH c)
 have h2:=mP (cK c)
 have h3:=mP c
 have e1:aE (bH c)=aE c:=by rw [←fK,qb,fK]
 have e2:kps (bH c)=kps c:=by rw [←jN _ 0,lE,List.filter_filter,←jN c 0];simp
 have e3:aE (cK c)=kps c:=by rw [←fK,sj];simp
 rw [mX,e1,e2] at h1
 rw [e3,vh,En] at h2
 omega
theorem BZ {a:List At}{x:At}(h:x∈a.filter gD):gD x=true:=(List.mem_filter.mp h).2
theorem Ca {a:List At}{x:At}(h:x∈a.filter gk):gk x=true:=(List.mem_filter.mp h).2
theorem zD (c:List Pt):bH (cK c)=ao [.keep (cE (bH c))]:=by
 have n1:∀ x∈az ((cK c).filter fun p=>!bM p),gD x=true:=fun x hx=>by rw [kK] at hx;exact BZ hx
 have n2:∀ x∈az ((cK c).filter fun p=>!bM p),gk x=true:=fun x hx=>by
  rw [kK] at hx
  refine Ek (y:=(ao c).filter fun p=>!b8 p) (fun y hy=>?_) x (List.mem_filter.mp hx).1
  rw [jR] at hy;exact Ca hy
 have e:=se n1 n2
 have e2:cE ((cK c).filter fun p=>!bM p)=cE (bH c):=by
  rw [←dQ _ 0,bz,kK,qa,←bz,jN,vh,mX]
 show ao _=_
 rw [e,e2]
theorem zE (c:List Pt):cK (bH c)=ao [.keep (cE (bH c))]:=by
 have n2:∀ x∈az ((ao (bH c)).filter fun p=>!b8 p),gk x=true:=fun x hx=>by rw [jR] at hx;exact Ca hx
 have n0:∀ x∈az (bH c),gD x=true:=vf fun y hy=>by rw [kK] at hy;exact BZ hy
 have n1:∀ x∈az ((ao (bH c)).filter fun p=>!b8 p),gD x=true:=fun x hx=>by
  rw [jR] at hx
  exact vf n0 x (List.mem_filter.mp hx).1
 have e:=se n1 n2
 show ao _=_
 rw [e]
 congr 3
 have q:=jB (az (ao (bH c))) 0 0 [] rfl
 have l1:=congrArg List.length q
 rw [List.length_map,←jR,←bz,←bz,dQ,dQ,oG] at l1
 exact l1
theorem qc:∀ {x y:List (List Nat)}{t:List Nat},aR (x++y) t=true→aR x (t.take x.length)=true∧aR y (t.drop x.length)=true
 | [],_,_,h=>⟨rfl,h⟩
 | _ :: x,y,[],h=>by simp [aR] at h
 | z :: x,y,c :: t,h=>by
  simp only [List.cons_append,aR,Bool.and_eq_true] at h
  obtain ⟨h1,h2⟩:=qc h.2
  exact ⟨by simp only [List.length_cons,List.take_succ_cons,aR,Bool.and_eq_true];exact ⟨h.1,h1⟩,by simpa using h2⟩
theorem mY:∀ (a b:List At) (t:List Nat),dA (a++b) t=dA a (t.take (aA a).length)++dA b (t.drop (aA a).length)
 | [],b,t=>by simp [dA,aA]
 | .k :: a,b,t=>by
  simp only [List.cons_append,dA,aA,List.length_cons,mY a b]
  cases t with
  | nil=>simp
  | cons c t=>simp
 | .d c :: a,b,t=>by
  simp only [List.cons_append,dA,aA,List.length_cons,mY a b]
  cases t with
  | nil=>simp
  | cons c t=>simp
 | .p c :: a,b,t=>by simp only [List.cons_append,dA,aA,mY a b]
noncomputable def kL:List At→Bool
 | .p _ :: _=>false
 | _=>true
structure Cut (c:List Pt) (p:Nat) (A B:List Pt):Prop where
 at_:az A++az B=az (ao c)
 bA:aE A=p
 hd:kL (az B)=true
 pA:∀ q∈A,0<q.n
 pB:∀ q∈B,0<q.n
section
variable {c A B:List Pt}{p:Nat}{t:List Nat}
theorem gH (c:List Pt):aE c=(aA (az c)).length:=by rw [←bX,fK]
theorem Cut.fit (h:Cut c p A B) (hf:aP c t=true):aP A (t.take p)=true∧aP B (t.drop p)=true:=by
 rw [←eS,dm,bX,←h.at_,jQ] at hf
 obtain ⟨h1,h2⟩:=qc hf
 rw [←gH,h.bA] at h1 h2
 exact ⟨by rw [dm,bX];exact h1,by rw [dm,bX];exact h2⟩
theorem Cut.done (h:Cut c p A B):aL A (t.take p)++aL B (t.drop p)=aL c t:=by
 rw [←dh c,dB (ao c),←h.at_,mY,←gH,h.bA,←dB,←dB]
theorem Cut.join (h:Cut c p A B):ao (A++B)=ao c:=by
 rw [lD (show az (A++B)=az (ao c) by rw [fj];exact h.at_),cY]
theorem Cut.cost (h:Cut c p A B):cst A+cst B=cst c:=by rw [←gi c,g8 (ao c),←h.at_,mR,←g8,←g8]
theorem Cut.NY (h:Cut c p A B):p+aE B=aE c:=by rw [←iR c,gH (ao c),←h.at_,jQ,List.length_append,←gH,←gH,h.bA]
theorem Cut.fL (h:Cut c p A B):tot A+tot B=tot c:=by rw [←bQ c,←dz (ao c),←h.at_,List.length_append,dz,dz]
theorem Cut.lA (h:Cut c p A B):A.length≤tot A:=cC h.pA
theorem Cut.lB (h:Cut c p A B):B.length≤tot B:=cC h.pB
end
theorem XR {a b:List Nat}{l:List (List Nat)}(h:iG (a :: b :: l)=true):iY a b=true:=by
 simp only [iG,List.tail_cons,List.zip_cons_cons,List.all_cons,Bool.and_eq_true] at h;exact h.1
theorem J3 {B:List Pt}(h:kL (az B)=true):kL (az (ao B))=true:=by
 cases e:az (ao B) with
 | nil=>rfl
 | cons x r=>
  cases x with
  | k=>rfl
  | d y=>rfl
  | p x=>
   exfalso
   have ht:tA 0 (az B)=.sg x :: tA 0 r:=by rw [←bz,←bx,bz,e];rfl
   have ha:asks (ao B)=asks B:=dg B
   rw [bX B] at ha
   have hF:=cj B
   have hp:=cQ hF
   cases f:ao B with
   | nil=>rw [f] at e;cases e
   | cons p0 rest=>
    rw [f] at e hF hp ha
    cases p0 with
    | keep n=>
     have hn:=hp _ (.head _)
     cases n with
     | zero=>exact absurd hn (by simp [Pt.n])
     | succ n=>rw [bL] at e;simp [Pt.az,List.replicate_succ] at e
    | drop s=>
     have hn:=hp _ (.head _)
     cases s with
     | nil=>exact absurd hn (by simp [Pt.n])
     | cons y s=>rw [bL] at e;simp [Pt.az] at e
    | put s=>
     cases g:az B with
     | nil=>rw [g] at ht;cases ht
     | cons z r2=>
      rw [g] at ht h ha
      cases z with
      | k=>simp only [tA,List.cons.injEq,reduceCtorEq,false_and] at ht
      | p z=>simp [kL] at h
      | d z=>
       have a1:asks (Pt.put s :: rest)=asks rest:=by simp [asks,Pt.asks]
       rw [a1] at ha
       cases rest with
       | nil=>simp [asks,aA] at ha
       | cons q rest=>
        have hw:iG ((Pt.put s :: q :: rest).map Pt.word)=true:=by simp only [j0,Bool.and_eq_true] at hF;exact hF.1
        have ho:iY jl q.word=true:=by
         simp only [List.map_cons] at hw
         exact XR hw
        cases q with
        | put s2=>simp [iY,Pt.word] at ho
        | drop s2=>simp [iY,Pt.word] at ho
        | keep n=>
         have hn:=hp (.keep n) (.tail _ (.head _))
         cases n with
         | zero=>exact absurd hn (by simp [Pt.n])
         | succ n=>simp [asks,Pt.asks,List.replicate_succ,aA] at ha
theorem XS {B A2 B2:List Pt}(h:kL (az B)=true) (hc:Cut B 0 A2 B2):A2=[]:=by
 cases A2 with
 | nil=>rfl
 | cons q A2=>
  exfalso
  have h1:=J3 h
  rw [←hc.at_] at h1
  have h2:=hc.bA
  have h3:=hc.pA q (.head _)
  rw [gH] at h2
  rw [bL,jQ] at h2
  have h4:(aA q.az).length=0:=by rw [List.length_append] at h2;omega
  rw [bL] at h1
  cases q with
  | keep n=>rw [sQ] at h4;simp [Pt.asks] at h4;simp [Pt.n,h4] at h3
  | drop s=>rw [sQ] at h4;simp [Pt.asks] at h4;simp [Pt.n,h4] at h3
  | put s=>
   cases s with
   | nil=>simp [Pt.n] at h3
   | cons x s=>simp [Pt.az,kL] at h1
noncomputable def b9:List At→Nat→Nat→List (List Pt)
 | [],_,_=>[]
 | .k :: a,i,b=>b9 a (i+1) (b - 1)
 | .d x :: a,i,b=>ao [.keep i,.drop [x],.keep (b - 1)] :: b9 a i (b - 1)
 | .p x :: a,i,b=>ao [.keep i,.put [x],.keep b] :: b9 a (i+1) b
theorem jC:∀ (a:List At) (i b:Nat),(b9 a i b).length=cA a
 | [],_,_=>rfl
 | .k :: a,i,b=>by simp [b9,cA,jC a]
 | .d x :: a,i,b=>by simp [b9,cA,jC a]
 | .p x :: a,i,b=>by simp [b9,cA,jC a]
theorem kM:∀ (a:List At) (i b:Nat) (r:List Pt),r∈b9 a i b→j0 r=true∧cst r=1∧tot r≤i+a.length+b+1∧r.length≤tot r
 | [],_,_,r,h=>by cases h
 | .k :: a,i,b,r,h=>by
  obtain ⟨h1,h2,h3,h4⟩:=kM a (i+1) (b - 1) r h
  exact ⟨h1,h2,by simp;omega,h4⟩
 | .d x :: a,i,b,r,h=>by
  rcases List.mem_cons.mp h with rfl | h
  ·refine ⟨cj _,by rw [gi];simp [cst,tot,dU,Pt.n],by rw [bQ];simp [tot,Pt.n];omega,cC (cQ (cj _))⟩
  ·obtain ⟨h1,h2,h3,h4⟩:=kM a i (b - 1) r h
   exact ⟨h1,h2,by simp;omega,h4⟩
 | .p x :: a,i,b,r,h=>by
  rcases List.mem_cons.mp h with rfl | h
  ·refine ⟨cj _,by rw [gi];simp [cst,tot,dU,Pt.n],by rw [bQ];simp [tot,Pt.n];omega,cC (cQ (cj _))⟩
  ·obtain ⟨h1,h2,h3,h4⟩:=kM a (i+1) b r h
   exact ⟨h1,h2,by simp;omega,h4⟩
theorem J4:∀ (a a':List At) (i b:Nat),b9 (a++a') i b=b9 a i b++b9 a' (i+(tA 0 a).length) (b - (aA a).length):=by
 have tl:∀ (a:List At) (i j:Nat),(tA i a).length=(tA j a).length:=by
  intro a
  induction a with
  | nil=>intro _ _;rfl
  | cons x a ih=>intro i j;cases x <;> simp only [tA,List.length_cons] <;> first | rw [ih (i+1) (j+1)] | rw [ih i j]
 intro a
 induction a with
 | nil=>intro a' i b;simp [b9,tA,aA]
 | cons x a ih=>
  intro a' i b
  cases x with
  | k=>simp only [List.cons_append,b9,ih,tA,aA,List.length_cons,tl a 1 0];congr 2 <;> omega
  | d x=>simp only [List.cons_append,b9,ih,tA,aA,List.length_cons,tl a 1 0];congr 3;omega
  | p x=>simp only [List.cons_append,b9,ih,tA,aA,List.length_cons];congr 3;omega
theorem SO (u v:List Nat) (x:Nat):aP (ao [.keep u.length,.drop [x],.keep v.length]) (u++x :: v)=true∧aL (ao [.keep u.length,.drop [x],.keep v.length]) (u++x :: v)=u++v:=by
 rw [eS,dh];simp [aP,aL]
theorem SQ (u v:List Nat) (x:Nat):aP (ao [.keep u.length,.put [x],.keep v.length]) (u++v)=true∧aL (ao [.keep u.length,.put [x],.keep v.length]) (u++v)=u++x :: v:=by
 rw [eS,dh];simp [aP,aL]
theorem qd:∀ (a:List At) (u v:List Nat),aR (aA a) v=true→Ch (u++v) (b9 a u.length v.length)∧ig (u++v) (b9 a u.length v.length)=u++dA a v
 | [],u,v,h=>by
  have:v=[]:=by cases v with | nil=>rfl | cons c v=>simp [aA,aR] at h
  subst this;exact ⟨trivial,by simp [b9,ig,dA]⟩
 | .k :: a,u,[],h=>by simp [aA,aR] at h
 | .k :: a,u,c :: v,h=>by
  simp only [aA,aR,Bool.and_eq_true] at h
  have:=qd a (u++[c]) v h.2
  simp only [List.length_append,List.length_singleton,List.append_assoc,List.singleton_append] at this
  simpa [b9,dA] using this
 | .d x :: a,u,[],h=>by simp [aA,aR] at h
 | .d x :: a,u,c :: v,h=>by
  simp only [aA,aR,Bool.and_eq_true,List.cons_ne_nil,decide_false,Bool.false_or,decide_eq_true_eq,List.cons.injEq,and_true] at h
  obtain ⟨rfl,h2⟩:=h
  obtain ⟨q1,q2⟩:=qd a u v h2
  obtain ⟨o1,o2⟩:=SO u v x
  simp only [b9,List.length_cons,Nat.add_sub_cancel,dA,List.drop_succ_cons,List.drop_zero]
  refine ⟨⟨o1,by rw [o2];exact q1⟩,?_⟩
  show ig (aL _ _) _=_
  rw [o2];exact q2
 | .p x :: a,u,v,h=>by
  have:=qd a (u++[x]) v h
  simp only [List.length_append,List.length_singleton,List.append_assoc,List.singleton_append] at this
  obtain ⟨o1,o2⟩:=SQ u v x
  simp only [b9,dA]
  refine ⟨⟨o1,by rw [o2];exact this.1⟩,?_⟩
  show ig (aL _ _) _=_
  rw [o2];exact this.2
noncomputable def lQ:List At→List Tq→List Tq
 | [],_=>[]
 | .k :: a,q :: V=>q :: lQ a V
 | .d _ :: a,_ :: V=>lQ a V
 | .p x :: a,V=>.sg x :: lQ a V
 | _ :: _,[]=>[]
theorem nA (L:List Tq):∀ (n k:Nat),k+n≤L.length→((List.range n).map fun j=>Tq.at (k+j)).map (sub L)=(L.drop k).take n:=fun n k h=>by
 apply List.ext_getElem?
 intro i
 by_cases hi:i<n
 ·have:k+i<L.length:=by omega
  simp [hi,sub,List.getElem?_take,List.getElem?_drop,List.getElem?_eq_getElem this,List.getD]
 ·rw [List.getElem?_eq_none (by simp;omega),List.getElem?_eq_none (by simp;omega)]
theorem NZ (i b x:Nat):told 0 (ao [.keep i,.drop [x],.keep b])=((List.range i).map fun j=>Tq.at (0+j))++(List.range b).map fun j=>Tq.at (i+1+j):=by
 rw [bx];simp [told,Pt.told,Pt.asks]
theorem N1 (i b x:Nat):told 0 (ao [.keep i,.put [x],.keep b])=((List.range i).map fun j=>Tq.at (0+j))++Tq.sg x :: (List.range b).map fun j=>Tq.at (i+j):=by
 rw [bx];simp [told,Pt.told,Pt.asks]
theorem nB:∀ (a:List At) (U V:List Tq),V.length=(aA a).length→j4 (U++V) (b9 a U.length V.length)=U++lQ a V
 | [],U,V,h=>by
  have:V=[]:=List.eq_nil_of_length_eq_zero h
  subst this;simp [b9,j4,lQ]
 | .k :: a,U,[],h=>by simp [aA] at h
 | .k :: a,U,q :: V,h=>by
  have:=nB a (U++[q]) V (by simpa [aA] using h)
  simp only [List.length_append,List.length_singleton,List.append_assoc,List.singleton_append] at this
  simpa [b9,lQ] using this
 | .d x :: a,U,[],h=>by simp [aA] at h
 | .d x :: a,U,q :: V,h=>by
  have:=nB a U V (by simpa [aA] using h)
  simp only [b9,List.length_cons,Nat.add_sub_cancel,lQ]
  show j4 ((told 0 _).map (sub (U++q :: V))) _=_
  rw [NZ,List.map_append,nA _ _ _ (by simp),nA _ _ _ (by simp;omega)]
  have e1:((U++q :: V).drop 0).take U.length=U:=by simp
  have e2:((U++q :: V).drop (U.length+1)).take V.length=V:=by rw [←List.drop_drop];simp
  rw [e1,e2];exact this
 | .p x :: a,U,V,h=>by
  have:=nB a (U++[.sg x]) V (by simpa [aA] using h)
  simp only [List.length_append,List.length_singleton,List.append_assoc,List.singleton_append] at this
  simp only [b9,lQ]
  show j4 ((told 0 _).map (sub (U++V))) _=_
  rw [N1,List.map_append,List.map_cons,nA _ _ _ (by simp),nA _ _ _ (by simp)]
  have e1:((U++V).drop 0).take U.length=U:=by simp
  have e2:((U++V).drop U.length).take V.length=V:=by simp
  rw [e1,e2];exact this
theorem nD:∀ (a:List At) (k:Nat),lQ a ((List.range (aA a).length).map fun j=>Tq.at (k+j))=tA k a
 | [],_=>rfl
 | .k :: a,k=>by
  have:=nD a (k+1)
  simp only [aA,List.length_cons,List.range_succ_eq_map,List.map_cons,List.map_map,lQ,tA]
  simp only [Function.comp_def,Nat.add_zero,Nat.succ_eq_add_one]
  rw [←this];congr 3;funext j;congr 1;omega
 | .d x :: a,k=>by
  have:=nD a (k+1)
  simp only [aA,List.length_cons,List.range_succ_eq_map,List.map_cons,List.map_map,lQ,tA]
  simp only [Function.comp_def,Nat.succ_eq_add_one]
  rw [←this];congr 2;funext j;congr 1;omega
 | .p x :: a,k=>by
  have:=nD a k
  simp only [aA,lQ,tA,this]
theorem N2 {c W:List Pt}{t:List Nat}(h:aP c t=true) (hW:An W t (b9 (az (ao c)) 0 t.length)):W=ao c:=by
 have hb:t.length=(aA (az (ao c))).length:=by rw [←bX,fK,iR,gu h]
 refine NU hW.Gf (cY c) hW.fit (by rw [eS];exact h) ?_
 rw [hW.BN,mW]
 have q:=nB (az (ao c)) [] ((List.range t.length).map Tq.at) (by simpa using hb)
 simp only [List.nil_append,List.length_nil,List.length_map,List.length_range] at q
 rw [q,bz (ao c),←nD (az (ao c)) 0,←hb]
 simp
end Pv
namespace Pv
open Ev (D cz b7 TY BI ME T E Es Eo It S Ss Fn big deep rep cut b5)
noncomputable def vj (bq:Nat):S:=.ret (.cl bq (.cons (.gv (.comp (.v 1) (.one 1) (.seq (.v 0)) (.yes (.cmp .ne (.ix (.v 1) (.c (.int 0))) (.c (.str [112,117,116])))))) .nil))
noncomputable def zF (bq:Nat):Fn:=⟨1,2,(.cons (vj bq) .nil)⟩
noncomputable def wj (bq:Nat):S:=.ret (.cl bq (.cons (.gv (.comp (.v 1) (.one 1) (.seq (.cl bq (.cons (.v 0) .nil))) (.yes (.cmp .ne (.ix (.v 1) (.c (.int 0))) (.c (.str [100,114,111,112])))))) .nil))
noncomputable def Cb (bq:Nat):Fn:=⟨1,2,(.cons (wj bq) .nil)⟩
noncomputable def zG (bq:Nat):S:=.ret (.cl bq (.cons (.bin .add (.v 0) (.v 1)) .nil))
noncomputable def lF (bq:Nat):Fn:=⟨2,2,(.cons (zG bq) .nil)⟩
noncomputable def J5 (cW:Nat):S:=.iff (.orr (.cmp .lt (.v 1) (.c (.int 0))) (.cmp .gt (.v 1) (.cl cW (.cons (.v 0) .nil)))) (.cons (.fP) .nil) .nil
noncomputable def J6 (bq:Nat):S:=.set 2 (.iL (.rev (.cl bq (.cons (.v 0) .nil))))
noncomputable def J7:S:=.set 3 (.lst .nil)
noncomputable def J8:S:=.set 4 (.v 1)
noncomputable def qT (bC:Nat) (eH:Nat):Ss:=(.cons (.iff (.cmp .eq (.ix (.ix (.v 2) (.neg (.c (.int 1)))) (.c (.int 0))) (.c (.str [112,117,116]))) (.cons (.exp (.me .append (.v 3) (.cons (.me .pop (.v 2) .nil) .nil))) .nil) (.cons (.set 5 (.bi .min (.cons (.v 4) (.cons (.cl bC (.cons (.ix (.v 2) (.neg (.c (.int 1)))) .nil)) .nil)))) (.cons (.exp (.me .append (.v 3) (.cons (.cl eH (.cons (.v 2) (.cons (.v 5) .nil))) .nil))) (.cons (.set 4 (.bin .sub (.v 4) (.v 5))) .nil)))) .nil)
noncomputable def J9 (bC:Nat) (eH:Nat):S:=.lZ (.an (.v 2) (.orr (.cmp .gt (.v 4) (.c (.int 0))) (.cmp .eq (.ix (.ix (.v 2) (.neg (.c (.int 1)))) (.c (.int 0))) (.c (.str [112,117,116]))))) (qT bC eH)
noncomputable def ye:S:=.ret (.tup (.cons (.gv (.v 3)) (.cons (.lM (.v 2)) .nil)))
noncomputable def sW (cW:Nat) (bq:Nat) (bC:Nat) (eH:Nat):Fn:=⟨2,6,(.cons (J5 cW) (.cons (J6 bq) (.cons J7 (.cons J8 (.cons (J9 bC eH) (.cons ye .nil))))))⟩
noncomputable def Ep (nE:Nat):S:=.set 3 (.ix (.cl nE (.cons (.v 0) (.cons (.v 1) .nil))) (.c (.int 1)))
noncomputable def Er (fk:Nat) (nE:Nat) (cW:Nat):S:=.ret (.cl fk (.cons (.v 1) (.cons (.ix (.cl nE (.cons (.v 3) (.cons (.bin .sub (.v 2) (.v 1)) .nil))) (.c (.int 0))) (.cons (.bin .sub (.cl cW (.cons (.v 0) .nil)) (.v 2)) .nil))))
noncomputable def N3 (nE:Nat) (fk:Nat) (cW:Nat):Fn:=⟨3,4,(.cons (Ep nE) (.cons (Er fk nE cW) .nil))⟩
noncomputable def Cc (lG:Nat) (fE:Nat):S:=.ret (.cl lG (.cons (.cl lG (.cons (.cl fE (.cons (.v 0) .nil)) (.cons (.v 1) .nil))) (.cons (.cl fE (.cons (.v 2) .nil)) .nil)))
noncomputable def qU (lG:Nat) (fE:Nat):Fn:=⟨3,3,(.cons (Cc lG fE) .nil)⟩
noncomputable def wk:S:=.set 1 (.lst .nil)
noncomputable def wm:S:=.set 2 (.c (.int 0))
noncomputable def wo (cW:Nat):S:=.set 3 (.cl cW (.cons (.v 0) .nil))
noncomputable def kh (fk:Nat):Ss:=(.cons (.iff (.cmp .eq (.ix (.v 4) (.c (.int 0))) (.c (.str [100,114,111,112]))) (.cons (.set 3 (.bin .sub (.v 3) (.c (.int 1)))) .nil) .nil) (.cons (.exp (.me .append (.v 1) (.cons (.cl fk (.cons (.v 2) (.cons (.tup (.cons (.tup (.cons (.ix (.v 4) (.c (.int 0))) (.cons (.v 5) .nil))) .nil)) (.cons (.v 3) .nil)))) .nil))) (.cons (.iff (.cmp .eq (.ix (.v 4) (.c (.int 0))) (.c (.str [112,117,116]))) (.cons (.set 2 (.bin .add (.v 2) (.c (.int 1)))) .nil) .nil) .nil)))
noncomputable def wu (fk:Nat):Ss:=(.cons (.iff (.cmp .eq (.ix (.v 4) (.c (.int 0))) (.c (.str [107,101,101,112]))) (.cons (.set 2 (.bin .add (.v 2) (.ix (.v 4) (.c (.int 1))))) (.cons (.set 3 (.bin .sub (.v 3) (.ix (.v 4) (.c (.int 1))))) (.cons (.cnt) .nil))) .nil) (.cons (.for (.one 5) (.seq (.ix (.v 4) (.c (.int 1)))) (kh fk)) .nil))
noncomputable def wz (bq:Nat) (fk:Nat):S:=.for (.one 4) (.seq (.cl bq (.cons (.v 0) .nil))) (wu fk)
noncomputable def wA:S:=.ret (.v 1)
noncomputable def Cd (cW:Nat) (bq:Nat) (fk:Nat):Fn:=⟨1,6,(.cons wk (.cons wm (.cons (wo cW) (.cons (wz bq fk) (.cons wA .nil)))))⟩
section
variable {F:List Fn}{w n aJ aM aV bD bY aZ cg gm zH ir i:Nat}
theorem iJ (f:Pt→Bool) (c:List Pt):tot (c.filter f)≤tot c:=by
 induction c with
 | nil=>exact Nat.le_refl _
 | cons p c ih=>
  rw [List.filter_cons]
  split
  ·rw [br,br];omega
  ·rw [br];omega
theorem vm (hst:F[aM]?=some cP) (hf:F[aV]?=some (fc aM)) (hd:F[i]?=some (zF aV)) (c:List Pt) (h1:c.length≤10000) (h2:tot c≤10000):run F w (n+3) i [.val (aC c)]=some (aC (bH c),[]):=by
 have l1:(c.filter fun p=>!bM p).length≤10000:=Nat.le_trans (List.length_filter_le _ _) h1
 have hl:((c.filter fun p=>!bM p).map Pt.v).length≤big:=by rw [List.length_map];exact Nat.le_trans l1 (by decide)
 have cf:=fun fr=>bV (fr:=fr) (dO (w:=w) (n:=n) hst hf (c.filter fun p=>!bM p) l1 (Nat.le_trans (iJ _ _) h2))
 exact cB hd rfl (ai (bP (aT (aI rfl (kZ (jd (eK (eZ rfl) rfl) rfl (gf Pt.v (fun p=>!bM p) Pt.v c fun p _=>by
  cases p <;> exact kG rfl (aH rfl (bO (gA (aB rfl) (bW rfl) rfl) (bW rfl) gO) rfl) fun _=>aB rfl) (eY hl)) (gb hl)) aG) (cf _)) ⟨rfl,rfl⟩))
theorem wC (hst:F[aM]?=some cP) (hf:F[aV]?=some (fc aM)) (hd:F[i]?=some (Cb aV)) (c:List Pt) (h1:c.length≤10000) (h2:tot c≤10000):run F w (n+3) i [.val (aC c)]=some (aC (cK c),[]):=by
 have t1:=bQ c
 have l0:=cC (cQ (cj c))
 have l1:((ao c).filter fun p=>!b8 p).length≤10000:=Nat.le_trans (List.length_filter_le _ _) (by omega)
 have hl:(((ao c).filter fun p=>!b8 p).map Pt.v).length≤big:=by rw [List.length_map];exact Nat.le_trans l1 (by decide)
 have c0:=fun fr=>bV (fr:=fr) (dO (w:=w) (n:=n) hst hf c h1 h2)
 have cf:=fun fr=>bV (fr:=fr) (dO (w:=w) (n:=n) hst hf ((ao c).filter fun p=>!b8 p) l1 (Nat.le_trans (iJ _ _) (by omega)))
 exact cB hd rfl (ai (bP (aT (aI rfl (kZ (jd (eK (aT (aI rfl (aB rfl) aG) (c0 _)) rfl) rfl (gf Pt.v (fun p=>!b8 p) Pt.v (ao c) fun p _=>by
  cases p <;> exact kG rfl (aH rfl (bO (gA (aB rfl) (bW rfl) rfl) (bW rfl) gO) rfl) fun _=>aB rfl) (eY hl)) (gb hl)) aG) (cf _)) ⟨rfl,rfl⟩))
theorem lH (hst:F[aM]?=some cP) (hf:F[aV]?=some (fc aM)) (hd:F[i]?=some (lF aV)) (a b:List Pt) (h1:a.length+b.length≤10000) (h2:tot a+tot b≤10000):run F w (n+3) i [.val (aC a),.val (aC b)]=some (aC (ao (a++b)),[]):=by
 have cf:=fun fr=>bV (fr:=fr) (dO (w:=w) (n:=n) hst hf (a++b) (by simp;omega) (by rw [dc];omega))
 exact cB hd rfl (ai (bP (aT (aI rfl (bI (aB rfl) (aB rfl) (sP (by omega))) aG) (cf _)) ⟨rfl,rfl⟩))
noncomputable def eL (m:Nat) (c:List Pt) (k:Nat):List Pt:=ao ([.keep m]++c++[.keep k])
theorem Ce (m:Nat) (c:List Pt) (k:Nat):ao (ao (ao [.keep m]++c)++ao [.keep k])=eL m c k:=
 oN ((cY _).trans (oN (cY _) rfl)) (cY _)
theorem mZ (hst:F[aM]?=some cP) (hf:F[aV]?=some (fc aM)) (hj:F[gm]?=some (lF aV)) (hn:F[cg]?=some (g7 aV)) (hd:F[i]?=some (qU gm cg)) (m k:Nat) (c:List Pt) (h1:c.length≤3000) (h2:m+tot c+k≤3000) :
  run F w (n+4) i [.val (.int m),.val (aC c),.val (.int k)]=some (aC (eL m c k),[]):=by
 have b1:∀ j:Nat,tot (ao [Pt.keep j])=j:=fun j=>by rw [bQ];simp [tot,Pt.n]
 have b2:∀ j:Nat,(ao [Pt.keep j]).length≤3:=fun j=>by unfold ao cZ;simp [bG,eO];split <;> simp [bZ] <;> split <;> simp
 have n1:=fun fr=>bV (fr:=fr) (ja (F:=F) (w:=w) (n:=n) hst hf hn m (by omega))
 have n2:=fun fr=>bV (fr:=fr) (ja (F:=F) (w:=w) (n:=n) hst hf hn k (by omega))
 have g1:=b1 m
 have g2:=b1 k
 have g3:=b2 m
 have g4:=b2 k
 have j1:=fun fr=>call2 (fr:=fr) (lH (F:=F) (w:=w) (n:=n) hst hf hj (ao [.keep m]) c (by omega) (by omega))
 have t1:tot (ao (ao [.keep m]++c))=m+tot c:=by rw [bQ,dc,g1]
 have l1:=cC (cQ (cj (ao [.keep m]++c)))
 have j2:=fun fr=>call2 (fr:=fr) (lH (F:=F) (w:=w) (n:=n) hst hf hj (ao (ao [.keep m]++c)) (ao [.keep k]) (by omega) (by omega))
 rw [Ce] at j2
 exact cB hd rfl (ai (bP (aT (aI rfl (aT (aI rfl (aT (aI rfl (aB rfl) aG) (n1 _)) (aI rfl (aB rfl) aG)) (j1 _)) (aI rfl (aT (aI rfl (aB rfl) aG) (n2 _)) aG)) (j2 _)) ⟨rfl,rfl⟩))
noncomputable def gn (c:List Pt) (p:Nat) (R C:List Pt) (l:Nat) (a:Option Sl):Fr:=[some (.val (aC c)),some (.val (.int p)),some (.own (R.map Pt.v).reverse),some (.own (C.map Pt.v)),some (.val (.int l)),a]
noncomputable def Gg (c:List Pt) (p k:Nat) (fr:Fr):Prop:=∃ R C l a,az C++az R=az (ao c)∧aE C+l=p∧l≤aE R∧(∀ q∈R,0<q.n)∧(∀ q∈C,0<q.n)∧k=tot R∧vo a∧fr=gn c p R C l a
noncomputable def cuT:E:=.an (.v 2) (.orr (.cmp .gt (.v 4) (.c (.int 0))) (.cmp .eq (.ix (.ix (.v 2) (.neg (.c (.int 1)))) (.c (.int 0))) (.c (.str [112,117,116]))))
theorem N4 {q:Pt}{m:Nat}(h:m≤q.n) (hq:bM q=false):aE [q.tk m]=m:=by
 cases q with
 | put s=>cases hq
 | keep k=>simp [Pt.tk,aE,tot,bM,Pt.n]
 | drop s=>simp [Pt.tk,aE,tot,bM,Pt.n] at h ⊢;omega
theorem Ka {q:Pt}{m:Nat}(hq:bM q=false):aE (iN m q)=q.n - m:=by
 cases q with
 | put s=>cases hq
 | keep k=>unfold iN;split <;> simp [Pt.dp,aE,tot,bM,Pt.n] at * <;> omega
 | drop s=>unfold iN;split <;> simp [Pt.dp,aE,tot,bM,Pt.n] at * <;> omega
theorem Et {q:Pt}{R:List Pt}(hq:bM q=false):aE (q :: R)=q.n+aE R:=by cases q <;> simp_all [aE,tot,bM,Pt.n]
theorem N5 {q:Pt}{m:Nat}(h:m≤q.n) (h0:0<m):0<(q.tk m).n:=by rw [(sS h).2];exact h0
theorem N6 (hs:F[aJ]?=some dS) {c:List Pt}{p:Nat}(R C:List Pt) (s:List Nat) (l:Nat) (a:Option Sl) (hC:az C++az (.put s :: R)=az (ao c)) (hl:aE C+l=p) (hb:l≤aE (.put s :: R)) (hR:∀ q∈Pt.put s :: R,0<q.n) (pC:∀ q∈C,0<q.n) (lC:C.length≤5000) (ha:vo a) :
  Wp (exs (run F w (n+2)) w (qT aJ aZ) (gn c p (.put s :: R) C l a)) fun g fr=>g=.nx∧∃ j,j<tot (.put s :: R)∧Gg c p j fr:=by
 have ap:∀ fr:Fr,fU .append 3 [(Pt.put s).v] fr (some (some (.own (C.map Pt.v))))=.ok .bB (fr.set 3 (some (.own ((C++[Pt.put s]).map Pt.v)))):=fun fr=>by
  rw [List.map_append];exact iP (by simp;omega)
 unfold gn
 rw [List.map_cons,List.reverse_cons]
 refine ai (aQ (b:=true) (aH rfl (by (repeat (first | array_get_dec | exact dM))) rfl) (fun _=>?_) fun h=>absurd h (by decide))
 refine ai (fH (by (repeat (first | array_get_dec | exact qI | exact ap _))) (aD (aD ?_)))
 have h0:=hR _ (.head _)
 refine ⟨rfl,tot R,by rw [br];omega,R,C++[.put s],l,a,?_,?_,?_,fun q hq=>hR q (.tail _ hq),fun q hq=>?_,rfl,ha,rfl⟩
 ·rw [←hC,fj,bL];simp [az]
 ·rw [fM];simp [aE,tot,bM] at hl ⊢;exact hl
 ·rw [j3] at hb;exact hb
 ·rcases List.mem_append.mp hq with hq | hq
  ·exact pC q hq
  ·rw [List.mem_singleton.mp hq];exact h0
theorem N7 (hs:F[aJ]?=some dS) (hp:F[bY]?=some gj) (ht:F[aZ]?=some (iS bY aJ)) {c:List Pt}{p:Nat}(R C:List Pt) (q:Pt) (l:Nat) (a:Option Sl) (hq:bM q=false) (l0:0<l) (hC:az C++az (q :: R)=az (ao c)) (hl:aE C+l=p) (hb:l≤aE (q :: R))
  (hR:∀ x∈q :: R,0<x.n) (pC:∀ x∈C,0<x.n) (lC:C.length≤5000) (lR:tot (q :: R)≤5000) (ha:vo a) :
  Wp (exs (run F w (n+2)) w (qT aJ aZ) (gn c p (q :: R) C l a)) fun g fr=>g=.nx∧∃ j,j<tot (q :: R)∧Gg c p j fr:=by
 have q0:=hR q (.head _)
 rw [br] at lR
 have l2:=cC (c:=R) fun x hx=>hR x (.tail _ hx)
 obtain ⟨m,hm1,hm2,hm3⟩:∃ m:Nat,m≤l∧m≤q.n∧(m=l∨m=q.n):=⟨min l q.n,by omega,by omega,by omega⟩
 have m0:0<m:=by omega
 have mn:dJ .min [.int l,.int q.n]=some (.int m):=by
  rw [Be]
  split
  ·congr 2;omega
  ·congr 2;omega
 have z1:=fun fr=>bV (fr:=fr) (iQ (F:=F) (w:=w) (n:=n+1) hs q (by omega))
 have t1:=mU (F:=F) (w:=w) (n:=n) hs hp ht (R.map Pt.v).reverse q m hm2 (by omega) (by simp;omega)
 rw [←x8] at t1
 have ap:∀ fr:Fr,fU .append 3 [(q.tk m).v] fr (some (some (.own (C.map Pt.v))))=.ok .bB (fr.set 3 (some (.own ((C++[q.tk m]).map Pt.v)))):=fun fr=>by
  rw [List.map_append];exact iP (by simp;omega)
 have fin:(Fl.nx=Fl.nx∧∃ j,j<tot (q :: R)∧Gg c p j (gn c p (iN m q++R) (C++[q.tk m]) (l - m) (some (.val (.int m))))):=by
  refine ⟨rfl,_,?_,_,_,_,_,?_,?_,?_,?_,?_,rfl,.val,rfl⟩
  ·rw [dc,kJ,br];omega
  ·rw [←hC,fj,fj,bL q,qP hm2];simp [az]
  ·rw [fM,N4 hm2 hq];omega
  ·rw [fM,Ka hq];rw [Et hq] at hb;omega
  ·intro x hx
   rcases List.mem_append.mp hx with hx | hx
   ·exact qQ m q x hx
   ·exact hR x (.tail _ hx)
  ·intro x hx
   rcases List.mem_append.mp hx with hx | hx
   ·exact pC x hx
   ·rw [List.mem_singleton.mp hx];exact N5 hm2 m0
 have sb:bJ .sub (.int (l:Int)) (.int (m:Int))=some (.int ((l - m:Nat):Int)):=by rw [gc];congr 2;omega
 unfold gn at fin ⊢
 rw [List.map_cons,List.reverse_cons]
 have N8:aN (run F w (n+2)) (.cmp .eq (.ix (.ix (.v 2) (.neg (.c (.int 1)))) (.c (.int 0))) (.c (.str [112,117,116]))) [some (.val (aC c)),some (.val (.int p)),some (.own ((R.map Pt.v).reverse++[q.v])),some (.own (C.map Pt.v)),some (.val (.int l)),a]=.ok false [some (.val (aC c)),some (.val (.int p)),some (.own ((R.map Pt.v).reverse++[q.v])),some (.own (C.map Pt.v)),some (.val (.int l)),a]:=by
  cases q with
  | put s=>cases hq
  | keep k=>exact aH rfl (by (repeat (first | array_get_dec | exact dM))) rfl
  | drop s=>exact aH rfl (by (repeat (first | array_get_dec | exact dM))) rfl
 refine ai (aQ N8 (fun h=>absurd h (by decide)) fun _=>?_)
 refine ai (aY (by (repeat (first | exact mn | array_get_dec | exact dM | exact z1 _))) rfl (jM rfl ha) ?_)
 refine ai (fH (by (repeat (first | array_get_dec | exact zC rfl t1 | exact ap _))) ?_)
 exact ai (aY (by (repeat (first | exact sb | array_get_dec))) rfl rfl (aD (aD fin)))
theorem qV (hst:F[aM]?=some cP) (hf:F[aV]?=some (fc aM)) (hs:F[aJ]?=some dS) (hp:F[bY]?=some gj) (ht:F[aZ]?=some (iS bY aJ)) (hb:F[bD]?=some (gR aJ)) (hd:F[i]?=some (sW bD aV aJ aZ)) (hw:5000<w)
  (c:List Pt) (p:Nat) (h1:c.length≤5000) (h2:tot c≤4000) (h:p≤aE c):∃ A B,run F w (n+3) i [.val (aC c),.val (.int p)]=some (.tup [aC A,aC B],[])∧Cut c p A B:=by
 have c1:=fun fr=>bV (fr:=fr) (iE (F:=F) (w:=w) (n:=n) hs hb c (by omega) (by omega))
 have c2:=fun fr=>bV (fr:=fr) (dO (F:=F) (w:=w) (n:=n) hst hf c (by omega) (by omega))
 have t1:=bQ c
 have g1:=cC (cQ (cj c))
 have m1:eT ((ao c).map Pt.v).reverse=some (.lst ((ao c).map Pt.v).reverse):=eY (cS (by simp;omega))
 have n1:cop .lt (.int (p:Int)) (.int 0)=some false:=by rw [NG];simp
 have n2:cop .gt (.int (p:Int)) (.int (aE c))=some false:=by rw [qJ];simp;omega
 have key:Wp (exs (run F w (n+2)) w (sW bD aV aJ aZ).body (fy (sW bD aV aJ aZ) [.val (aC c),.val (.int p)])) fun g fr=>∃ A B,Cut c p A B∧g=.ret (.tup [aC A,aC B])∧outs 2 fr=[]:=by
  refine ai (aQ (b:=false) (er (aH rfl (bO (aB rfl) (bW rfl) n1) rfl) (aH rfl (bO (aB rfl) (aT (aI rfl (aB rfl) aG) (c1 _)) n2) rfl)) (fun h=>absurd h (by decide)) fun _=>aD ?_)
  refine ai (iD (l:=((ao c).map Pt.v).reverse) (sN (uF (aT (aI rfl (aB rfl) aG) (c2 _)) rfl) m1) rfl rfl ?_)
  refine ai (iD (l:=[]) (by repeat array_get_dec) rfl rfl ?_)
  refine ai (aY (aB rfl) rfl rfl ?_)
  refine ai (FP (pN (Gg c p) (fun k fr hI=>?_) w (tot (ao c)) _ (by omega) ⟨ao c,[],p,none,rfl,by simp [aE,tot],by rw [iR];exact h,cQ (cj c),(fun q hq=>by cases hq),rfl,.none,rfl⟩))
  obtain ⟨R,C,l,a,hC,hl,N9,hR,pC,hkk,nW,rfl⟩:=hI
  have ln:=congrArg List.length hC
  rw [List.length_append,dz,dz,dz] at ln
  have lC:=cC pC
  have lR:=cC hR
  have fin:l=0→kL (az R)=true→nx (run F w (n+2)) w (.cons ye .nil) (fun g fr=>∃ A B,Cut c p A B∧g=.ret (.tup [aC A,aC B])∧outs 2 fr=[]) .nx (gn c p R C l a):=fun e0 e1=>by
   have sh:fR (gn c p R C l a)=[some (.val (aC c)),some (.val (.int p)),some (.val (.lst (R.map Pt.v).reverse)),some (.val (.lst (C.map Pt.v))),some (.val (.int l)),a]:=by
    show _ :: _ :: _ :: _ :: _ :: [a.map Sl.fX]=_
    rw [d9 nW];rfl
   have m2:iB (C.map Pt.v)=some (aC C):=gb (cS (by simp;omega))
   have m3:qC (.lst (R.map Pt.v).reverse)=some (aC R):=by
    show iB (R.map Pt.v).reverse.reverse=_
    rw [List.reverse_reverse];exact gb (cS (by simp;omega))
   refine ai (bP (v:=.tup [aC C,aC R]) (ah:=[some (.val (aC c)),some (.val (.int p)),some (.val (.lst (R.map Pt.v).reverse)),some (.val (.lst (C.map Pt.v))),some (.val (.int l)),a]) ?_ ⟨C,R,⟨hC,by omega,e1,pC,hR⟩,rfl,rfl⟩)
   rw [sh]
   exact jZ (bT (kZ (aB rfl) m2) (bT (Sz (aB rfl) m3) cG)) pL
  cases R with
  | nil=>
   refine ⟨false,_,pP (aH rfl (aB rfl) rfl),?_⟩
   dsimp only
   rw [if_neg (by decide)]
   exact fin (by simp [aE,tot] at N9;omega) rfl
  | cons q R=>
   have Oa:aN (run F w (n+2)) (.v 2) (gn c p (q :: R) C l a)=.ok true (gn c p (q :: R) C l a):=by
    unfold gn;rw [List.map_cons,List.reverse_cons];exact aH rfl (aB rfl) jz
   by_cases hq:bM q=true
   ·cases q with
    | keep k=>cases hq
    | drop s=>cases hq
    | put s=>
     have ht1:aN (run F w (n+2)) cuT (gn c p (.put s :: R) C l a)=.ok true (gn c p (.put s :: R) C l a):=by
      refine gg Oa ?_
      by_cases h0:0<l
      ·exact pQ (aH rfl (bO (aB rfl) (bW rfl) (by rw [qJ];simp;exact h0)) rfl)
      ·refine er (aH rfl (bO (b:=false) (aB rfl) (bW rfl) (by rw [qJ];simp;omega)) rfl) ?_
       unfold gn;rw [List.map_cons,List.reverse_cons]
       exact aH rfl (by (repeat (first | array_get_dec | exact dM))) rfl
     refine ⟨true,_,ht1,?_⟩
     dsimp only
     rw [if_pos rfl]
     refine (N6 hs R C s l a hC hl N9 hR pC (by omega) nW).mono fun g fr ⟨hg,hx⟩=>?_
     subst hg hkk
     exact hx
   ·have hq':bM q=false:=by simpa using hq
    by_cases h0:0<l
    ·refine ⟨true,_,gg Oa (pQ (aH rfl (bO (aB rfl) (bW rfl) (by rw [qJ];simp;exact h0)) rfl)),?_⟩
     dsimp only
     rw [if_pos rfl]
     refine (N7 hs hp ht R C q l a hq' h0 hC hl N9 hR pC (by omega) (by omega) nW).mono fun g fr ⟨hg,hx⟩=>?_
     subst hg hkk
     exact hx
    ·have N8:aN (run F w (n+2)) (.cmp .eq (.ix (.ix (.v 2) (.neg (.c (.int 1)))) (.c (.int 0))) (.c (.str [112,117,116]))) (gn c p (q :: R) C l a)=.ok false (gn c p (q :: R) C l a):=by
      unfold gn;rw [List.map_cons,List.reverse_cons]
      cases q with
      | put s=>cases hq'
      | keep k=>exact aH rfl (by (repeat (first | array_get_dec | exact dM))) rfl
      | drop s=>exact aH rfl (by (repeat (first | array_get_dec | exact dM))) rfl
     refine ⟨false,_,gg Oa (er (aH rfl (bO (b:=false) (aB rfl) (bW rfl) (by rw [qJ];simp;omega)) rfl) N8),?_⟩
     dsimp only
     rw [if_neg (by decide)]
     refine fin (by omega) ?_
     have q0:=hR q (.head _)
     rw [bL]
     cases q with
     | put s=>cases hq'
     | keep k=>cases k with
      | zero=>exact absurd q0 (by simp [Pt.n])
      | succ k=>simp [Pt.az,List.replicate_succ,kL]
     | drop s=>cases s with
      | nil=>exact absurd q0 (by simp [Pt.n])
      | cons x s=>simp [Pt.az,kL]
 obtain ⟨g,fr,e,A,B,hc,hg,ho⟩:=key
 exact ⟨A,B,cB hd rfl ⟨g,fr,e,hg,ho⟩,hc⟩
theorem Eu (hst:F[aM]?=some cP) (hf:F[aV]?=some (fc aM)) (hs:F[aJ]?=some dS) (hp:F[bY]?=some gj) (ht:F[aZ]?=some (iS bY aJ)) (hb:F[bD]?=some (gR aJ)) (hc:F[zH]?=some (sW bD aV aJ aZ))
  (hj:F[gm]?=some (lF aV)) (hn:F[cg]?=some (g7 aV)) (ha:F[ir]?=some (qU gm cg)) (hd:F[i]?=some (N3 zH ir bD)) (hw:5000<w)
  (c:List Pt) (s e:Nat) (h1:c.length≤900) (h2:tot c≤900) (he:e≤aE c) (hse:s≤e) :
  ∃ A B A2 B2,Cut c s A B∧Cut B (e - s) A2 B2∧run F w (n+5) i [.val (aC c),.val (.int s),.val (.int e)]=some (aC (eL s A2 (aE c - e)),[]):=by
 obtain ⟨A,B,r1,C1⟩:=qV (F:=F) (w:=w) (n:=n+1) hst hf hs hp ht hb hc hw c s (by omega) (by omega) (by omega)
 have b1:=C1.fL
 have b2:=C1.lB
 have b3:=C1.NY
 obtain ⟨A2,B2,r2,C2⟩:=qV (F:=F) (w:=w) (n:=n+1) hst hf hs hp ht hb hc hw B (e - s) (by omega) (by omega) (by omega)
 have d1:=C2.fL
 have d2:=C2.lA
 have b4:=uR c
 have q1:=fun fr=>call2 (fr:=fr) r1
 have q2:=fun fr=>call2 (fr:=fr) r2
 have q3:=fun fr=>bV (fr:=fr) (iE (F:=F) (w:=w) (n:=n+2) hs hb c (by omega) (by omega))
 have q4:=fun fr=>eE (fr:=fr) (mZ (F:=F) (w:=w) (n:=n) hst hf hj hn ha s (aE c - e) A2 (by omega) (by omega))
 have s1:bJ .sub (.int (e:Int)) (.int (s:Int))=some (.int ((e - s:Nat):Int)):=by rw [gc];congr 2;omega
 have s2:bJ .sub (.int (aE c:Int)) (.int (e:Int))=some (.int ((aE c - e:Nat):Int)):=by rw [gc];congr 2;omega
 refine ⟨A,B,A2,B2,C1,C2,cB hd rfl ?_⟩
 refine ai (aY (gA (aT (aI rfl (aB rfl) (aI rfl (aB rfl) aG)) (q1 _)) (bW rfl) rfl) rfl rfl ?_)
 exact ai (bP (aT (aI rfl (aB rfl) (aI rfl (gA (aT (aI rfl (aB rfl) (aI rfl (bI (aB rfl) (aB rfl) s1) aG)) (q2 _)) (bW rfl) rfl) (aI rfl (bI (aT (aI rfl (aB rfl) aG) (q3 _)) (aB rfl) s2) aG))) (q4 _)) ⟨rfl,rfl⟩)
noncomputable def oO (c:List Pt) (L:List (List Pt)) (i b:Nat) (x y:Option Sl):Fr:=[some (.val (aC c)),some (.own (L.map aC)),some (.val (.int i)),some (.val (.int b)),x,y]
theorem XT (i b x:Nat):eL i [.drop [x]] b=ao [.keep i,.drop [x],.keep b]:=rfl
theorem XU (i b x:Nat):eL i [.put [x]] b=ao [.keep i,.put [x],.keep b]:=rfl
section
variable (hst:F[aM]?=some cP) (hf:F[aV]?=some (fc aM)) (hj:F[gm]?=some (lF aV)) (hn:F[cg]?=some (g7 aV)) (ha:F[ir]?=some (qU gm cg))
include hst hf hj hn ha
theorem yf (c:List Pt) (s:List Nat):∀ (r p:List Nat) (L:List (List Pt)) (k b:Nat) (y:Option Sl),p++r=s→vo y→L.length+r.length≤3000→r.length≤b→k+b≤2000→
  Wp (forL (turnF (run F w (n+4)) w (.one 5) (kh ir)) (r.map fun z=>V.str [z]) (oO c L k b (some (.val (Pt.drop s).v)) y)) fun g fr=>g=.nx∧∃ y',vo y'∧fr=oO c (L++b9 (r.map At.d) k b) k (b - r.length) (some (.val (Pt.drop s).v)) y'
 | [],p,L,k,b,y,hp,hy,hL,hb,hk=>by
  show Wp (R.ok Fl.nx _) _
  exact ⟨_,_,rfl,rfl,y,hy,by simp [b9]⟩
 | z :: r,p,L,k,b,y,hp,hy,hL,hb,hk=>by
  have hb':r.length+1≤b:=hb
  have hL':L.length+(r.length+1)≤3000:=hL
  have q:=fun fr=>eE (fr:=fr) (mZ (F:=F) (w:=w) (n:=n) hst hf hj hn ha k (b - 1) [.drop [z]] (by simp) (by simp [tot,Pt.n];omega))
  rw [XT] at q
  have sb:bJ .sub (.int (b:Int)) (.int 1)=some (.int ((b - 1:Nat):Int)):=by rw [gc];congr 2;omega
  have ll:s.length=p.length+(r.length+1):=by rw [←hp];simp
  have ap:∀ fr:Fr,fU .append 1 [aC (ao [.keep k,.drop [z],.keep (b - 1)])] fr (some (some (.own (L.map aC))))=.ok .bB (fr.set 1 (some (.own ((L++[ao [.keep k,.drop [z],.keep (b - 1)]]).map aC)))):=fun fr=>by
   rw [List.map_append];exact iP (by rw [List.length_map];omega)
  have ih:=yf c s r (p++[z]) (L++[ao [.keep k,.drop [z],.keep (b - 1)]]) k (b - 1) (some (.val (.str [z]))) (by simpa using hp) .val (by simp;omega) (by omega) (by omega)
  rw [List.map_cons,forL,wp_bind]
  refine dR (bind1 rfl hy) ?_
  refine ai (aQ (b:=true) (aH rfl (by repeat array_get_dec) rfl) (fun _=>ai (aY (by (repeat (first | exact sb | array_get_dec))) rfl rfl (aD ?_))) fun h=>absurd h (by decide))
  refine ai (fH (by (repeat (first | array_get_dec | exact q _ | exact ap _))) ?_)
  refine ai (aQ (b:=false) (aH rfl (by repeat array_get_dec) rfl) (fun h=>absurd h (by decide)) fun _=>aD (aD ?_))
  refine ih.mono fun g fr ⟨hg,y',hy',hfr⟩=>⟨hg,y',hy',?_⟩
  rw [hfr]
  simp only [b9,List.map_cons,List.append_assoc,List.singleton_append,List.length_cons]
  congr 1;omega
theorem Cf (c:List Pt) (s:List Nat):∀ (r p:List Nat) (L:List (List Pt)) (k b:Nat) (y:Option Sl),p++r=s→vo y→L.length+r.length≤3000→k+b+r.length≤2000→
  Wp (forL (turnF (run F w (n+4)) w (.one 5) (kh ir)) (r.map fun z=>V.str [z]) (oO c L k b (some (.val (Pt.put s).v)) y)) fun g fr=>g=.nx∧∃ y',vo y'∧fr=oO c (L++b9 (r.map At.p) k b) (k+r.length) b (some (.val (Pt.put s).v)) y'
 | [],p,L,k,b,y,hp,hy,hL,hk=>by
  show Wp (R.ok Fl.nx _) _
  exact ⟨_,_,rfl,rfl,y,hy,by simp [b9]⟩
 | z :: r,p,L,k,b,y,hp,hy,hL,hk=>by
  have hk':k+b+(r.length+1)≤2000:=hk
  have hL':L.length+(r.length+1)≤3000:=hL
  have q:=fun fr=>eE (fr:=fr) (mZ (F:=F) (w:=w) (n:=n) hst hf hj hn ha k b [.put [z]] (by simp) (by simp [tot,Pt.n];omega))
  rw [XU] at q
  have ad:bJ .add (.int (k:Int)) (.int 1)=some (.int ((k+1:Nat):Int)):=by rw [dN];rfl
  have ap:∀ fr:Fr,fU .append 1 [aC (ao [.keep k,.put [z],.keep b])] fr (some (some (.own (L.map aC))))=.ok .bB (fr.set 1 (some (.own ((L++[ao [.keep k,.put [z],.keep b]]).map aC)))):=fun fr=>by
   rw [List.map_append];exact iP (by rw [List.length_map];omega)
  have ih:=Cf c s r (p++[z]) (L++[ao [.keep k,.put [z],.keep b]]) (k+1) b (some (.val (.str [z]))) (by simpa using hp) .val (by simp;omega) (by omega)
  rw [List.map_cons,forL,wp_bind]
  refine dR (bind1 rfl hy) ?_
  refine ai (aQ (b:=false) (aH rfl (by repeat array_get_dec) rfl) (fun h=>absurd h (by decide)) fun _=>aD ?_)
  refine ai (fH (by (repeat (first | array_get_dec | exact q _ | exact ap _))) ?_)
  refine ai (aQ (b:=true) (aH rfl (by repeat array_get_dec) rfl) (fun _=>ai (aY (by (repeat (first | exact ad | array_get_dec))) rfl rfl (aD (aD ?_)))) fun h=>absurd h (by decide))
  refine ih.mono fun g fr ⟨hg,y',hy',hfr⟩=>⟨hg,y',hy',?_⟩
  rw [hfr]
  simp only [b9,List.map_cons,List.append_assoc,List.singleton_append,List.length_cons]
  congr 1;omega
omit hst hf hj hn ha in
theorem SS (i b:Nat):∀ k,b9 (List.replicate k .k) i b=[]:=fun k=>by
 induction k generalizing i b with
 | zero=>rfl
 | succ k ih=>simp only [List.replicate_succ,b9];exact ih _ _
omit hst hf hj hn ha in
theorem oQ (pre:List Pt) (q:Pt) (B:Nat):b9 (az (pre++[q])) 0 B=b9 (az pre) 0 B++b9 q.az (cE pre) (B - aE pre):=by
 rw [fj,J4,←bz,dQ,←gH,Nat.zero_add];simp [az]
omit hst hf hj hn ha in
theorem qX (a b:List Pt):cE (a++b)=cE a+cE b:=by simp [cE,tot]
theorem wD (hs:F[aJ]?=some dS) (hb:F[bD]?=some (gR aJ)) (hd:F[i]?=some (Cd bD aV ir)) (c:List Pt) (h1:c.length≤900) (h2:tot c≤900) :
  run F w (n+5) i [.val (aC c)]=some (.lst ((b9 (az (ao c)) 0 (aE c)).map aC),[]):=by
 have c1:=fun fr=>bV (fr:=fr) (iE (F:=F) (w:=w) (n:=n+2) hs hb c (by omega) (by omega))
 have c2:=fun fr=>bV (fr:=fr) (dO (F:=F) (w:=w) (n:=n+2) hst hf c (by omega) (by omega))
 have t1:=bQ c
 have b1:=iR c
 refine cB hd rfl ?_
 refine ai (iD (l:=[]) (by repeat array_get_dec) rfl rfl ?_)
 refine ai (aY (bW rfl) rfl rfl ?_)
 refine ai (aY (aT (aI rfl (aB rfl) aG) (c1 _)) rfl rfl ?_)
 refine ai (ju (vs:=(ao c).map Pt.v) (eK (aT (aI rfl (aB rfl) aG) (c2 _)) rfl) ?_)
 refine gZ (e:=Pt.v) (fun p l fr=>p++l=ao c∧∃ x y,vo x∧vo y∧fr=oO c (b9 (az p) 0 (aE c)) (cE p) (aE c - aE p) x y) (fun p q l fr ⟨hpl,x,y,hx,hy,hfr⟩=>?_) (fun p fr ⟨hpl,x,y,hx,hy,hfr⟩=>?_) (ao c) [] _ ⟨rfl,none,none,.none,.none,rfl⟩
 ·subst hfr
  have ff:(p++[q])++l=ao c:=by simpa using hpl
  have e1:aE p+(aE [q]+aE l)=aE c:=by rw [←b1,←ff,fM,fM];omega
  have e2:tot p+(q.n+tot l)=tot c:=by rw [←t1,←hpl,dc,br]
  have e3:=BR p
  have e4:=uR p
  have e5:(b9 (az p) 0 (aE c)).length≤tot p:=by
   rw [jC]
   have:∀ a:List At,cA a≤a.length:=fun a=>by induction a with | nil=>exact Nat.le_refl _ | cons x a ih=>cases x <;> simp [cA] <;> omega
   rw [←dz];exact this _
  have e6:=uR c
  refine dR (bind1 rfl hx) ?_
  cases q with
  | keep k=>
   have ad:bJ .add (.int (cE p:Int)) (.int (k:Int))=some (.int ((cE (p++[.keep k]):Nat):Int)):=by rw [dN,qX];simp [cE,tot,b8,Pt.n]
   have e7:aE (p++[.keep k])=aE p+k:=by rw [fM];simp [aE,tot,bM,Pt.n]
   have e8:aE [Pt.keep k]=k:=by simp [aE,tot,bM,Pt.n]
   have sb:bJ .sub (.int ((aE c - aE p:Nat):Int)) (.int (k:Int))=some (.int ((aE c - aE (p++[.keep k]):Nat):Int)):=by rw [gc,e7];congr 2;omega
   refine ai (aQ (b:=true) (aH rfl (by repeat array_get_dec) rfl) (fun _=>?_) fun h=>absurd h (by decide))
   refine ai (aY (by (repeat (first | exact ad | array_get_dec))) rfl rfl ?_)
   refine ai (aY (by (repeat (first | exact sb | array_get_dec))) rfl rfl ?_)
   refine ai ⟨_,_,Nu,?_⟩
   show (p++[Pt.keep k])++l=ao c∧∃ x y,vo x∧vo y∧_=oO c (b9 (az (p++[.keep k])) 0 (aE c)) (cE (p++[.keep k])) (aE c - aE (p++[.keep k])) x y
   refine ⟨ff,some (.val (Pt.keep k).v),y,.val,hy,?_⟩
   rw [oQ]
   simp only [Pt.az,SS,List.append_nil];rfl
  | drop s=>
   have e7:aE (p++[.drop s])=aE p+s.length:=by rw [fM];simp [aE,tot,bM,Pt.n]
   have e8:aE [Pt.drop s]=s.length:=by simp [aE,tot,bM,Pt.n]
   have e9:cE (p++[.drop s])=cE p:=by rw [qX];simp [cE,tot,b8]
   simp only [Pt.n] at e2
   refine ai (aQ (b:=false) (aH rfl (by repeat array_get_dec) rfl) (fun h=>absurd h (by decide)) fun _=>aD ?_)
   refine ai (ju (vs:=s.map fun z=>V.str [z]) (eK (by (repeat array_get_dec)) rfl) ?_)
   refine (yf (n:=n) (w:=w) hst hf hj hn ha c s s [] (b9 (az p) 0 (aE c)) (cE p) (aE c - aE p) y rfl hy (by omega) (by omega) (by omega)).mono fun g fr ⟨hg,y',hy',hfr⟩=>?_
   subst hg hfr
   refine aD ?_
   rw [eV]
   refine ⟨ff,some (.val (Pt.drop s).v),y',.val,hy',?_⟩
   rw [oQ,e7,e9];simp only [Pt.az];congr 1;omega
  | put s=>
   have e7:aE (p++[.put s])=aE p:=by rw [fM];simp [aE,tot,bM]
   have e9:cE (p++[.put s])=cE p+s.length:=by rw [qX];simp [cE,tot,b8,Pt.n]
   simp only [Pt.n] at e2
   refine ai (aQ (b:=false) (aH rfl (by repeat array_get_dec) rfl) (fun h=>absurd h (by decide)) fun _=>aD ?_)
   refine ai (ju (vs:=s.map fun z=>V.str [z]) (eK (by (repeat array_get_dec)) rfl) ?_)
   refine (Cf (n:=n) (w:=w) hst hf hj hn ha c s s [] (b9 (az p) 0 (aE c)) (cE p) (aE c - aE p) y rfl hy (by omega) (by omega)).mono fun g fr ⟨hg,y',hy',hfr⟩=>?_
   subst hg hfr
   refine aD ?_
   rw [eV]
   refine ⟨ff,some (.val (Pt.put s).v),y',.val,hy',?_⟩
   rw [oQ,e7,e9];rfl
 ·subst hfr
  simp only [List.append_nil] at hpl
  subst hpl
  have sh:fR (oO c (b9 (az (ao c)) 0 (aE c)) (cE (ao c)) (aE c - aE (ao c)) x y)=[some (.val (aC c)),some (.val (.lst ((b9 (az (ao c)) 0 (aE c)).map aC))),some (.val (.int (cE (ao c)))),some (.val (.int ((aE c - aE (ao c):Nat):Int))),x,y]:=by
   show _ :: _ :: _ :: _ :: x.map Sl.fX :: [y.map Sl.fX]=_
   rw [d9 hx,d9 hy];rfl
  refine ai (bP (v:=.lst ((b9 (az (ao c)) 0 (aE c)).map aC)) (ah:=[some (.val (aC c)),some (.val (.lst ((b9 (az (ao c)) 0 (aE c)).map aC))),some (.val (.int (cE (ao c)))),some (.val (.int ((aE c - aE (ao c):Nat):Int))),x,y]) ?_ ⟨rfl,rfl⟩)
  rw [sh];exact aB rfl
end
end
end Pv
set_option maxRecDepth 100000
namespace Lw
@[reducible] noncomputable def XW:Ev.S:=.iff (.cmp .eq (.ix (.v 0) (.c (.int 0))) (.c (.str [107,101,101,112]))) (.cons (.ret (.ix (.v 0) (.c (.int 1)))) .nil) .nil
@[reducible] noncomputable def XX:Ev.S:=.ret (.bi .len (.cons (.ix (.v 0) (.c (.int 1))) .nil))
@[reducible] noncomputable def f0:Ev.Fn:=⟨1,1,(.cons XW (.cons XX .nil))⟩
@[reducible] noncomputable def XY:Ev.S:=.ret (.bi .sum (.cons (.comp (.cl 0 (.cons (.v 1) .nil)) (.one 1) (.seq (.v 0)) (.yes (.cmp .ne (.ix (.v 1) (.c (.int 0))) (.c (.str [112,117,116]))))) .nil))
@[reducible] noncomputable def f1:Ev.Fn:=⟨1,2,(.cons XY .nil)⟩
@[reducible] noncomputable def XZ:Ev.S:=.ret (.bi .sum (.cons (.comp (.cl 0 (.cons (.v 1) .nil)) (.one 1) (.seq (.v 0)) (.yes (.cmp .ne (.ix (.v 1) (.c (.int 0))) (.c (.str [100,114,111,112]))))) .nil))
@[reducible] noncomputable def f2:Ev.Fn:=⟨1,2,(.cons XZ .nil)⟩
@[reducible] noncomputable def X0:Ev.S:=.ret (.bi .sum (.cons (.comp (.cl 0 (.cons (.v 1) .nil)) (.one 1) (.seq (.v 0)) (.yes (.cmp .ne (.ix (.v 1) (.c (.int 0))) (.c (.str [107,101,101,112]))))) .nil))
@[reducible] noncomputable def f3:Ev.Fn:=⟨1,2,(.cons X0 .nil)⟩
@[reducible] noncomputable def X3:Ev.S:=.set 1 (.lst .nil)
@[reducible] noncomputable def X4:Ev.S:=.set 2 (.c (.int 0))
@[reducible] noncomputable def X5:Ev.S:=.set 3 (.c (.str []))
@[reducible] noncomputable def X6:Ev.S:=.set 4 (.c (.str []))
@[reducible] noncomputable def X7:Ev.Ss:=(.cons (.iff (.cmp .eq (.v 5) (.c (.str [100,114,111,112]))) (.cons (.set 3 (.bin .add (.v 3) (.v 6))) .nil) (.cons (.iff (.cmp .eq (.v 5) (.c (.str [112,117,116]))) (.cons (.set 4 (.bin .add (.v 4) (.v 6))) .nil) (.cons (.iff (.cmp .gt (.v 6) (.c (.int 0))) (.cons (.iff (.orr (.cmp .ne (.v 3) (.c (.str []))) (.cmp .ne (.v 4) (.c (.str [])))) (.cons (.exp (.me .extend (.v 1) (.cons (.cl 5 (.cons (.v 2) (.cons (.v 3) (.cons (.v 4) .nil)))) .nil))) (.cons (.set 2 (.c (.int 0))) (.cons (.set 3 (.c (.str []))) (.cons (.set 4 (.c (.str []))) .nil)))) .nil) (.cons (.set 2 (.bin .add (.v 2) (.v 6))) .nil)) .nil) .nil)) .nil)) .nil)
@[reducible] noncomputable def X8:Ev.S:=.for (.many [5,6]) (.seq (.v 0)) X7
@[reducible] noncomputable def Yb:Ev.S:=.exp (.me .extend (.v 1) (.cons (.cl 5 (.cons (.v 2) (.cons (.v 3) (.cons (.v 4) .nil)))) .nil))
@[reducible] noncomputable def Yc:Ev.S:=.ret (.gv (.v 1))
@[reducible] noncomputable def f4:Ev.Fn:=⟨1,7,(.cons X3 (.cons X4 (.cons X5 (.cons X6 (.cons X8 (.cons Yb (.cons Yc .nil)))))))⟩
@[reducible] noncomputable def Yd:Ev.S:=.set 3 (.lst .nil)
@[reducible] noncomputable def Ye:Ev.S:=.iff (.cmp .gt (.v 0) (.c (.int 0))) (.cons (.exp (.me .append (.v 3) (.cons (.tup (.cons (.c (.str [107,101,101,112])) (.cons (.v 0) .nil))) .nil))) .nil) .nil
@[reducible] noncomputable def Yg:Ev.S:=.iff (.cmp .ne (.v 1) (.c (.str []))) (.cons (.exp (.me .append (.v 3) (.cons (.tup (.cons (.c (.str [100,114,111,112])) (.cons (.v 1) .nil))) .nil))) .nil) .nil
@[reducible] noncomputable def Yh:Ev.S:=.iff (.cmp .ne (.v 2) (.c (.str []))) (.cons (.exp (.me .append (.v 3) (.cons (.tup (.cons (.c (.str [112,117,116])) (.cons (.v 2) .nil))) .nil))) .nil) .nil
@[reducible] noncomputable def Yi:Ev.S:=.ret (.v 3)
@[reducible] noncomputable def f5:Ev.Fn:=⟨3,4,(.cons Yd (.cons Ye (.cons Yg (.cons Yh (.cons Yi .nil)))))⟩
@[reducible] noncomputable def Yj:Ev.S:=.set 2 (.c (.int 0))
@[reducible] noncomputable def Yk:Ev.Ss:=(.cons (.iff (.an (.cmp .eq (.ix (.v 3) (.c (.int 0))) (.c (.str [100,114,111,112]))) (.cmp .ne (.sl (.v 1) (.yes (.v 2)) (.yes (.bin .add (.v 2) (.cl 0 (.cons (.v 3) .nil))))) (.ix (.v 3) (.c (.int 1))))) (.cons (.ret (.c (.bl false))) .nil) .nil) (.cons (.iff (.cmp .ne (.ix (.v 3) (.c (.int 0))) (.c (.str [112,117,116]))) (.cons (.set 2 (.bin .add (.v 2) (.cl 0 (.cons (.v 3) .nil)))) .nil) .nil) .nil))
@[reducible] noncomputable def Yl:Ev.S:=.for (.one 3) (.seq (.v 0)) Yk
@[reducible] noncomputable def Ym:Ev.S:=.ret (.cmp .eq (.v 2) (.bi .len (.cons (.v 1) .nil)))
@[reducible] noncomputable def f6:Ev.Fn:=⟨2,4,(.cons Yj (.cons Yl (.cons Ym .nil)))⟩
@[reducible] noncomputable def Yn:Ev.S:=.iff (.nt (.cl 6 (.cons (.v 0) (.cons (.v 1) .nil)))) (.cons (.fP) .nil) .nil
@[reducible] noncomputable def Yo:Ev.S:=.set 2 (.lst .nil)
@[reducible] noncomputable def Yp:Ev.S:=.set 3 (.c (.int 0))
@[reducible] noncomputable def Yq:Ev.Ss:=(.cons (.iff (.cmp .eq (.v 4) (.c (.str [112,117,116]))) (.cons (.exp (.me .append (.v 2) (.cons (.v 5) .nil))) .nil) (.cons (.iff (.cmp .eq (.v 4) (.c (.str [100,114,111,112]))) (.cons (.set 3 (.bin .add (.v 3) (.bi .len (.cons (.v 5) .nil)))) .nil) (.cons (.exp (.me .append (.v 2) (.cons (.sl (.v 1) (.yes (.v 3)) (.yes (.bin .add (.v 3) (.v 5)))) .nil))) (.cons (.set 3 (.bin .add (.v 3) (.v 5))) .nil))) .nil)) .nil)
@[reducible] noncomputable def Yr:Ev.S:=.for (.many [4,5]) (.seq (.v 0)) Yq
@[reducible] noncomputable def Ys:Ev.S:=.ret (.me .join (.c (.str [])) (.cons (.v 2) .nil))
@[reducible] noncomputable def f7:Ev.Fn:=⟨2,6,(.cons Yn (.cons Yo (.cons Yp (.cons Yr (.cons Ys .nil)))))⟩
@[reducible] noncomputable def Yt:Ev.S:=.ret (.cl 4 (.cons (.gv (.comp (.tup (.cons (.ji [(.str [107,101,101,112],.str [107,101,101,112]),(.str [112,117,116],.str [100,114,111,112]),(.str [100,114,111,112],.str [112,117,116])] (.v 1)) (.cons (.v 2) .nil))) (.many [1,2]) (.seq (.v 0)) .no)) .nil))
@[reducible] noncomputable def f8:Ev.Fn:=⟨1,3,(.cons Yt .nil)⟩
@[reducible] noncomputable def Yu:Ev.S:=.ret (.cl 4 (.cons (.tup (.cons (.tup (.cons (.c (.str [107,101,101,112])) (.cons (.v 0) .nil))) .nil)) .nil))
@[reducible] noncomputable def f9:Ev.Fn:=⟨1,1,(.cons Yu .nil)⟩
@[reducible] noncomputable def SV:Ev.S:=.iff (.cmp .ne (.cl 2 (.cons (.v 0) .nil)) (.cl 1 (.cons (.v 1) .nil))) (.cons (.fP) .nil) .nil
@[reducible] noncomputable def SW:Ev.S:=.set 2 (.iL (.rev (.cl 4 (.cons (.v 0) .nil))))
@[reducible] noncomputable def SX:Ev.S:=.set 3 (.iL (.rev (.cl 4 (.cons (.v 1) .nil))))
@[reducible] noncomputable def SY:Ev.S:=.set 4 (.lst .nil)
@[reducible] noncomputable def S5:Ev.Ss:=(.cons (.iff (.an (.v 2) (.cmp .eq (.ix (.ix (.v 2) (.neg (.c (.int 1)))) (.c (.int 0))) (.c (.str [100,114,111,112])))) (.cons (.exp (.me .append (.v 4) (.cons (.me .pop (.v 2) .nil) .nil))) .nil) (.cons (.iff (.an (.v 3) (.cmp .eq (.ix (.ix (.v 3) (.neg (.c (.int 1)))) (.c (.int 0))) (.c (.str [112,117,116])))) (.cons (.exp (.me .append (.v 4) (.cons (.me .pop (.v 3) .nil) .nil))) .nil) (.cons (.set 5 (.bi .min (.cons (.cl 0 (.cons (.ix (.v 2) (.neg (.c (.int 1)))) .nil)) (.cons (.cl 0 (.cons (.ix (.v 3) (.neg (.c (.int 1)))) .nil)) .nil)))) (.cons (.exp (.me .extend (.v 4) (.cons (.cl 12 (.cons (.cl 13 (.cons (.v 2) (.cons (.v 5) .nil))) (.cons (.cl 13 (.cons (.v 3) (.cons (.v 5) .nil))) .nil))) .nil))) .nil))) .nil)) .nil)
@[reducible] noncomputable def S6:Ev.S:=.lZ (.orr (.v 2) (.v 3)) S5
@[reducible] noncomputable def S7:Ev.S:=.ret (.cl 4 (.cons (.gv (.v 4)) .nil))
@[reducible] noncomputable def Fi:Ev.Fn:=⟨2,6,(.cons SV (.cons SW (.cons SX (.cons SY (.cons S6 (.cons S7 .nil))))))⟩
@[reducible] noncomputable def S8:Ev.S:=.set 2 (.cl 9 (.cons (.v 0) .nil))
@[reducible] noncomputable def S9:Ev.Ss:=(.cons (.set 2 (.cl 10 (.cons (.v 2) (.cons (.v 3) .nil)))) .nil)
@[reducible] noncomputable def Tc:Ev.S:=.for (.one 3) (.seq (.v 1)) S9
@[reducible] noncomputable def Td:Ev.S:=.ret (.v 2)
@[reducible] noncomputable def Va:Ev.Fn:=⟨2,4,(.cons S8 (.cons Tc (.cons Td .nil)))⟩
@[reducible] noncomputable def Te:Ev.S:=.iff (.cmp .eq (.ix (.v 1) (.c (.int 0))) (.c (.str [107,101,101,112]))) (.cons (.ret (.lst (.cons (.v 0) .nil))) .nil) .nil
@[reducible] noncomputable def Tf:Ev.S:=.iff (.cmp .eq (.ix (.v 0) (.c (.int 0))) (.c (.str [107,101,101,112]))) (.cons (.ret (.lst (.cons (.v 1) .nil))) .nil) .nil
@[reducible] noncomputable def Tg:Ev.S:=.iff (.cmp .ne (.ix (.v 0) (.c (.int 1))) (.ix (.v 1) (.c (.int 1)))) (.cons (.fP) .nil) .nil
@[reducible] noncomputable def Ti:Ev.S:=.ret (.lst .nil)
@[reducible] noncomputable def Vb:Ev.Fn:=⟨2,2,(.cons Te (.cons Tf (.cons Tg (.cons Ti .nil))))⟩
@[reducible] noncomputable def Tj:Ev.S:=.set 2 (.cl 14 (.cons (.me .pop (.v 0) .nil) (.cons (.v 1) .nil)))
@[reducible] noncomputable def To:Ev.S:=.iff (.cmp .gt (.cl 0 (.cons (.ix (.v 2) (.c (.int 1))) .nil)) (.c (.int 0))) (.cons (.exp (.me .append (.v 0) (.cons (.ix (.v 2) (.c (.int 1))) .nil))) .nil) .nil
@[reducible] noncomputable def Tp:Ev.S:=.ret (.ix (.v 2) (.c (.int 0)))
@[reducible] noncomputable def Vc:Ev.Fn:=⟨2,3,(.cons Tj (.cons To (.cons Tp .nil)))⟩
@[reducible] noncomputable def Tt:Ev.S:=.set 2 (.ix (.v 0) (.c (.int 0)))
@[reducible] noncomputable def Tu:Ev.S:=.iff (.cmp .eq (.v 2) (.c (.str [107,101,101,112]))) (.cons (.ret (.tup (.cons (.tup (.cons (.v 2) (.cons (.v 1) .nil))) (.cons (.tup (.cons (.v 2) (.cons (.bin .sub (.ix (.v 0) (.c (.int 1))) (.v 1)) .nil))) .nil)))) .nil) .nil
@[reducible] noncomputable def Tv:Ev.S:=.ret (.tup (.cons (.tup (.cons (.v 2) (.cons (.sl (.ix (.v 0) (.c (.int 1))) .no (.yes (.v 1))) .nil))) (.cons (.tup (.cons (.v 2) (.cons (.sl (.ix (.v 0) (.c (.int 1))) (.yes (.v 1)) .no) .nil))) .nil)))
@[reducible] noncomputable def Vd:Ev.Fn:=⟨2,3,(.cons Tt (.cons Tu (.cons Tv .nil)))⟩
@[reducible] noncomputable def Tw:Ev.S:=.ret (.cl 4 (.cons (.gv (.comp (.v 1) (.one 1) (.seq (.v 0)) (.yes (.cmp .ne (.ix (.v 1) (.c (.int 0))) (.c (.str [112,117,116])))))) .nil))
@[reducible] noncomputable def Ve:Ev.Fn:=⟨1,2,(.cons Tw .nil)⟩
@[reducible] noncomputable def Tz:Ev.S:=.ret (.cl 4 (.cons (.gv (.comp (.v 1) (.one 1) (.seq (.cl 4 (.cons (.v 0) .nil))) (.yes (.cmp .ne (.ix (.v 1) (.c (.int 0))) (.c (.str [100,114,111,112])))))) .nil))
@[reducible] noncomputable def Vf:Ev.Fn:=⟨1,2,(.cons Tz .nil)⟩
@[reducible] noncomputable def TF:Ev.S:=.ret (.cl 4 (.cons (.bin .add (.v 0) (.v 1)) .nil))
@[reducible] noncomputable def Vg:Ev.Fn:=⟨2,2,(.cons TF .nil)⟩
@[reducible] noncomputable def TH:Ev.S:=.iff (.orr (.cmp .lt (.v 1) (.c (.int 0))) (.cmp .gt (.v 1) (.cl 1 (.cons (.v 0) .nil)))) (.cons (.fP) .nil) .nil
@[reducible] noncomputable def TJ:Ev.S:=.set 2 (.iL (.rev (.cl 4 (.cons (.v 0) .nil))))
@[reducible] noncomputable def TL:Ev.S:=.set 3 (.lst .nil)
@[reducible] noncomputable def TM:Ev.S:=.set 4 (.v 1)
@[reducible] noncomputable def TN:Ev.Ss:=(.cons (.iff (.cmp .eq (.ix (.ix (.v 2) (.neg (.c (.int 1)))) (.c (.int 0))) (.c (.str [112,117,116]))) (.cons (.exp (.me .append (.v 3) (.cons (.me .pop (.v 2) .nil) .nil))) .nil) (.cons (.set 5 (.bi .min (.cons (.v 4) (.cons (.cl 0 (.cons (.ix (.v 2) (.neg (.c (.int 1)))) .nil)) .nil)))) (.cons (.exp (.me .append (.v 3) (.cons (.cl 13 (.cons (.v 2) (.cons (.v 5) .nil))) .nil))) (.cons (.set 4 (.bin .sub (.v 4) (.v 5))) .nil)))) .nil)
@[reducible] noncomputable def TQ:Ev.S:=.lZ (.an (.v 2) (.orr (.cmp .gt (.v 4) (.c (.int 0))) (.cmp .eq (.ix (.ix (.v 2) (.neg (.c (.int 1)))) (.c (.int 0))) (.c (.str [112,117,116]))))) TN
@[reducible] noncomputable def TR:Ev.S:=.ret (.tup (.cons (.gv (.v 3)) (.cons (.lM (.v 2)) .nil)))
@[reducible] noncomputable def Vh:Ev.Fn:=⟨2,6,(.cons TH (.cons TJ (.cons TL (.cons TM (.cons TQ (.cons TR .nil))))))⟩
@[reducible] noncomputable def TU:Ev.S:=.set 3 (.ix (.cl 18 (.cons (.v 0) (.cons (.v 1) .nil))) (.c (.int 1)))
@[reducible] noncomputable def TV:Ev.S:=.ret (.cl 20 (.cons (.v 1) (.cons (.ix (.cl 18 (.cons (.v 3) (.cons (.bin .sub (.v 2) (.v 1)) .nil))) (.c (.int 0))) (.cons (.bin .sub (.cl 1 (.cons (.v 0) .nil)) (.v 2)) .nil))))
@[reducible] noncomputable def Vi:Ev.Fn:=⟨3,4,(.cons TU (.cons TV .nil))⟩
@[reducible] noncomputable def TZ:Ev.S:=.ret (.cl 17 (.cons (.cl 17 (.cons (.cl 9 (.cons (.v 0) .nil)) (.cons (.v 1) .nil))) (.cons (.cl 9 (.cons (.v 2) .nil)) .nil)))
@[reducible] noncomputable def Vj:Ev.Fn:=⟨3,3,(.cons TZ .nil)⟩
@[reducible] noncomputable def T3:Ev.S:=.set 1 (.lst .nil)
@[reducible] noncomputable def T4:Ev.S:=.set 2 (.c (.int 0))
@[reducible] noncomputable def T5:Ev.S:=.set 3 (.cl 1 (.cons (.v 0) .nil))
@[reducible] noncomputable def T6:Ev.Ss:=(.cons (.iff (.cmp .eq (.ix (.v 4) (.c (.int 0))) (.c (.str [100,114,111,112]))) (.cons (.set 3 (.bin .sub (.v 3) (.c (.int 1)))) .nil) .nil) (.cons (.exp (.me .append (.v 1) (.cons (.cl 20 (.cons (.v 2) (.cons (.tup (.cons (.tup (.cons (.ix (.v 4) (.c (.int 0))) (.cons (.v 5) .nil))) .nil)) (.cons (.v 3) .nil)))) .nil))) (.cons (.iff (.cmp .eq (.ix (.v 4) (.c (.int 0))) (.c (.str [112,117,116]))) (.cons (.set 2 (.bin .add (.v 2) (.c (.int 1)))) .nil) .nil) .nil)))
@[reducible] noncomputable def T7:Ev.Ss:=(.cons (.iff (.cmp .eq (.ix (.v 4) (.c (.int 0))) (.c (.str [107,101,101,112]))) (.cons (.set 2 (.bin .add (.v 2) (.ix (.v 4) (.c (.int 1))))) (.cons (.set 3 (.bin .sub (.v 3) (.ix (.v 4) (.c (.int 1))))) (.cons (.cnt) .nil))) .nil) (.cons (.for (.one 5) (.seq (.ix (.v 4) (.c (.int 1)))) T6) .nil))
@[reducible] noncomputable def T8:Ev.S:=.for (.one 4) (.seq (.cl 4 (.cons (.v 0) .nil))) T7
@[reducible] noncomputable def T9:Ev.S:=.ret (.v 1)
@[reducible] noncomputable def Vk:Ev.Fn:=⟨1,6,(.cons T3 (.cons T4 (.cons T5 (.cons T8 (.cons T9 .nil)))))⟩
@[reducible] noncomputable def Ua:Ev.S:=.iff (.cmp .eq (.v 0) (.lst .nil)) (.cons (.ret (.bin .mul (.c (.int 7)) (.v 1))) .nil) .nil
@[reducible] noncomputable def Ub:Ev.S:=.ret (.bin .add (.ix (.v 0) (.bin .mod (.v 1) (.bi .len (.cons (.v 0) .nil)))) (.bin .mul (.c (.int 6553)) (.bin .fdiv (.v 1) (.bi .len (.cons (.v 0) .nil)))))
@[reducible] noncomputable def Vl:Ev.Fn:=⟨2,2,(.cons Ua (.cons Ub .nil))⟩
@[reducible] noncomputable def Uc:Ev.S:=.set 3 (.bin .mod (.bin .add (.bin .mul (.bin .mod (.cl 22 (.cons (.v 0) (.cons (.v 1) .nil))) (.c (.int 2147483563))) (.c (.int 69069))) (.bin .mul (.c (.int 104723)) (.bin .add (.v 1) (.c (.int 1))))) (.c (.int 2147483563)))
@[reducible] noncomputable def Ud:Ev.S:=.set 3 (.bin .mod (.bin .add (.bin .mul (.v 3) (.v 3)) (.bin .fdiv (.v 3) (.c (.int 3)))) (.c (.int 2147483399)))
@[reducible] noncomputable def Ue:Ev.S:=.ret (.bin .mod (.bin .fdiv (.bin .mod (.bin .add (.bin .mul (.v 3) (.v 3)) (.bin .fdiv (.v 3) (.c (.int 7)))) (.c (.int 2147483647))) (.c (.int 11))) (.v 2))
@[reducible] noncomputable def Vm:Ev.Fn:=⟨3,4,(.cons Uc (.cons Ud (.cons Ue .nil)))⟩
@[reducible] noncomputable def Ug:Ev.S:=.ret (.me .join (.c (.str [])) (.cons (.comp (.ix (.c (.str [97,98,99,32])) (.cl 23 (.cons (.v 0) (.cons (.bin .add (.bin .add (.v 1) (.c (.int 1))) (.v 3)) (.cons (.c (.int 4)) .nil))))) (.one 3) (.jb (.cons (.cl 23 (.cons (.v 0) (.cons (.v 1) (.cons (.bin .add (.v 2) (.c (.int 1))) .nil)))) .nil)) .no) .nil))
@[reducible] noncomputable def Vn:Ev.Fn:=⟨3,4,(.cons Ug .nil)⟩
@[reducible] noncomputable def Uh:Ev.S:=.set 3 (.tup .nil)
@[reducible] noncomputable def Ui:Ev.Ss:=(.cons (.iff (.cmp .eq (.cl 23 (.cons (.v 0) (.cons (.bin .add (.v 1) (.bin .mul (.c (.int 4)) (.v 4))) (.cons (.c (.int 4)) .nil)))) (.c (.int 0))) (.cons (.set 5 (.bin .mul (.ix (.c (.str [97,98,122])) (.cl 23 (.cons (.v 0) (.cons (.bin .add (.bin .add (.v 1) (.bin .mul (.c (.int 4)) (.v 4))) (.c (.int 1))) (.cons (.c (.int 3)) .nil))))) (.bin .add (.c (.int 1)) (.cl 23 (.cons (.v 0) (.cons (.bin .add (.bin .add (.v 1) (.bin .mul (.c (.int 4)) (.v 4))) (.c (.int 2))) (.cons (.c (.int 2)) .nil))))))) (.cons (.set 3 (.bin .add (.v 3) (.tup (.cons (.tup (.cons (.c (.str [112,117,116])) (.cons (.v 5) .nil))) .nil)))) .nil)) .nil) (.cons (.iff (.cmp .lt (.v 4) (.bi .len (.cons (.v 2) .nil))) (.cons (.set 6 (.cmp .gt (.cl 23 (.cons (.v 0) (.cons (.bin .add (.bin .add (.v 1) (.bin .mul (.c (.int 4)) (.v 4))) (.c (.int 3))) (.cons (.c (.int 3)) .nil)))) (.c (.int 0)))) (.cons (.set 3 (.bin .add (.v 3) (.tup (.cons (.lK (.v 6) (.tup (.cons (.c (.str [107,101,101,112])) (.cons (.c (.int 1)) .nil))) (.tup (.cons (.c (.str [100,114,111,112])) (.cons (.ix (.v 2) (.v 4)) .nil)))) .nil)))) .nil)) .nil) .nil))
@[reducible] noncomputable def Uj:Ev.S:=.for (.one 4) (.jb (.cons (.bin .add (.bi .len (.cons (.v 2) .nil)) (.c (.int 1))) .nil)) Ui
@[reducible] noncomputable def Uk:Ev.S:=.ret (.v 3)
@[reducible] noncomputable def Vo:Ev.Fn:=⟨3,7,(.cons Uh (.cons Uj (.cons Uk .nil)))⟩
@[reducible] noncomputable def Ul:Ev.S:=.set 1 (.comp (.ix (.v 4) (.c (.int 0))) (.one 4) (.seq (.v 0)) .no)
@[reducible] noncomputable def Um:Ev.Ss:=(.cons (.iff (.orr (.cmp .eq (.v 2) (.v 3)) (.an (.cmp .eq (.v 2) (.c (.str [112,117,116]))) (.cmp .eq (.v 3) (.c (.str [100,114,111,112]))))) (.cons (.ret (.c (.bl false))) .nil) .nil) .nil)
@[reducible] noncomputable def Uo:Ev.S:=.for (.many [2,3]) (.zip (.v 1) (.sl (.v 1) (.yes (.c (.int 1))) .no)) Um
@[reducible] noncomputable def Up:Ev.S:=.ret (.an (.lN (.v 0) [.tuple]) (.cmp .eq (.comp (.v 5) (.one 5) (.seq (.v 0)) (.yes (.cmp .isin (.ix (.v 5) (.c (.int 1))) (.tup (.cons (.c (.str [])) (.cons (.c (.int 0)) .nil)))))) (.lst .nil)))
@[reducible] noncomputable def Vp:Ev.Fn:=⟨1,6,(.cons Ul (.cons Uo (.cons Up .nil)))⟩
@[reducible] noncomputable def Gh:Ev.S:=.set 1 (.cl 24 (.cons (.v 0) (.cons (.c (.int 0)) (.cons (.c (.int 5)) .nil))))
@[reducible] noncomputable def Gi:Ev.S:=.set 2 (.cl 25 (.cons (.v 0) (.cons (.c (.int 10)) (.cons (.v 1) .nil))))
@[reducible] noncomputable def Gj:Ev.S:=.set 3 (.cl 4 (.cons (.v 2) .nil))
@[reducible] noncomputable def Gk:Ev.S:=.iff (.orr (.cmp .ne (.cl 10 (.cons (.cl 15 (.cons (.v 2) .nil)) (.cons (.cl 16 (.cons (.v 2) .nil)) .nil))) (.v 3)) (.cmp .ne (.bin .add (.cl 3 (.cons (.cl 15 (.cons (.v 2) .nil)) .nil)) (.cl 3 (.cons (.cl 16 (.cons (.v 2) .nil)) .nil))) (.cl 3 (.cons (.v 2) .nil)))) (.cons (.ret (.c (.bl false))) .nil) .nil
@[reducible] noncomputable def Gm:Ev.S:=.set 4 (.cl 9 (.cons (.cl 2 (.cons (.cl 15 (.cons (.v 2) .nil)) .nil)) .nil))
@[reducible] noncomputable def Gn:Ev.S:=.iff (.orr (.cmp .ne (.cl 15 (.cons (.cl 16 (.cons (.v 2) .nil)) .nil)) (.v 4)) (.cmp .ne (.cl 16 (.cons (.cl 15 (.cons (.v 2) .nil)) .nil)) (.v 4))) (.cons (.ret (.c (.bl false))) .nil) .nil
@[reducible] noncomputable def zI:Ev.S:=.set 5 (.cl 23 (.cons (.v 0) (.cons (.c (.int 60)) (.cons (.bin .add (.bi .len (.cons (.v 1) .nil)) (.c (.int 1))) .nil))))
@[reducible] noncomputable def zJ:Ev.S:=.kT [6,7] (.cl 18 (.cons (.v 2) (.cons (.v 5) .nil)))
@[reducible] noncomputable def zK:Ev.S:=.iff (.orr (.cmp .ne (.cl 17 (.cons (.v 6) (.cons (.v 7) .nil))) (.v 3)) (.orr (.cmp .ne (.cl 1 (.cons (.v 6) .nil)) (.v 5)) (.cmp .ne (.bin .add (.cl 3 (.cons (.v 6) .nil)) (.cl 3 (.cons (.v 7) .nil))) (.cl 3 (.cons (.v 2) .nil))))) (.cons (.ret (.c (.bl false))) .nil) .nil
@[reducible] noncomputable def zL:Ev.S:=.iff (.cmp .ne (.bin .add (.cl 7 (.cons (.v 6) (.cons (.sl (.v 1) .no (.yes (.v 5))) .nil))) (.cl 7 (.cons (.v 7) (.cons (.sl (.v 1) (.yes (.v 5)) .no) .nil)))) (.cl 7 (.cons (.v 2) (.cons (.v 1) .nil)))) (.cons (.ret (.c (.bl false))) .nil) .nil
@[reducible] noncomputable def vn:Ev.S:=.set 8 (.cl 24 (.cons (.v 0) (.cons (.c (.int 70)) (.cons (.c (.int 4)) .nil))))
@[reducible] noncomputable def vp:Ev.S:=.set 9 (.cl 25 (.cons (.v 0) (.cons (.c (.int 80)) (.cons (.v 8) .nil))))
@[reducible] noncomputable def vq:Ev.S:=.set 10 (.cl 17 (.cons (.v 2) (.cons (.v 9) .nil)))
@[reducible] noncomputable def vt:Ev.S:=.iff (.cmp .ne (.cl 7 (.cons (.v 10) (.cons (.bin .add (.v 1) (.v 8)) .nil))) (.bin .add (.cl 7 (.cons (.v 2) (.cons (.v 1) .nil))) (.cl 7 (.cons (.v 9) (.cons (.v 8) .nil))))) (.cons (.ret (.c (.bl false))) .nil) .nil
@[reducible] noncomputable def vv:Ev.S:=.iff (.cmp .ne (.cl 8 (.cons (.v 10) .nil)) (.cl 17 (.cons (.cl 8 (.cons (.v 2) .nil)) (.cons (.cl 8 (.cons (.v 9) .nil)) .nil)))) (.cons (.ret (.c (.bl false))) .nil) .nil
@[reducible] noncomputable def vz:Ev.S:=.set 11 (.bin .add (.v 5) (.cl 23 (.cons (.v 0) (.cons (.c (.int 61)) (.cons (.bin .add (.bin .sub (.bi .len (.cons (.v 1) .nil)) (.v 5)) (.c (.int 1))) .nil)))))
@[reducible] noncomputable def vA:Ev.S:=.set 12 (.cl 19 (.cons (.v 2) (.cons (.v 5) (.cons (.v 11) .nil))))
@[reducible] noncomputable def vC:Ev.S:=.set 13 (.cl 7 (.cons (.v 12) (.cons (.v 1) .nil)))
@[reducible] noncomputable def vD:Ev.S:=.iff (.cmp .ne (.v 13) (.bin .add (.bin .add (.sl (.v 1) .no (.yes (.v 5))) (.cl 7 (.cons (.ix (.cl 18 (.cons (.v 7) (.cons (.bin .sub (.v 11) (.v 5)) .nil))) (.c (.int 0))) (.cons (.sl (.v 1) (.yes (.v 5)) (.yes (.v 11))) .nil)))) (.sl (.v 1) (.yes (.v 11)) .no))) (.cons (.ret (.c (.bl false))) .nil) .nil
@[reducible] noncomputable def vE:Ev.S:=.set 14 (.cl 21 (.cons (.v 2) .nil))
@[reducible] noncomputable def vG:Ev.S:=.iff (.orr (.cmp .ne (.bi .len (.cons (.v 14) .nil)) (.cl 3 (.cons (.v 2) .nil))) (.cmp .ne (.comp (.v 15) (.one 15) (.seq (.v 14)) (.yes (.orr (.cmp .ne (.cl 3 (.cons (.v 15) .nil)) (.c (.int 1))) (.nt (.cl 26 (.cons (.v 15) .nil)))))) (.lst .nil))) (.cons (.ret (.c (.bl false))) .nil) .nil
@[reducible] noncomputable def vH:Ev.S:=.iff (.orr (.cmp .ne (.cl 19 (.cons (.v 2) (.cons (.v 5) (.cons (.v 5) .nil)))) (.cl 9 (.cons (.bi .len (.cons (.v 1) .nil)) .nil))) (.cmp .ne (.cl 21 (.cons (.cl 9 (.cons (.c (.int 3)) .nil)) .nil)) (.lst .nil))) (.cons (.ret (.c (.bl false))) .nil) .nil
@[reducible] noncomputable def vI:Ev.S:=.ret (.cmp .eq (.cl 11 (.cons (.bi .len (.cons (.v 1) .nil)) (.cons (.v 14) .nil))) (.v 3))
@[reducible] noncomputable def Gp:Ev.Fn:=⟨1,16,(.cons Gh (.cons Gi (.cons Gj (.cons Gk (.cons Gm (.cons Gn (.cons zI (.cons zJ (.cons zK (.cons zL (.cons vn (.cons vp (.cons vq (.cons vt (.cons vv (.cons vz (.cons vA (.cons vC (.cons vD (.cons vE (.cons vG (.cons vH (.cons vI .nil)))))))))))))))))))))))⟩
noncomputable def prog:List Ev.Fn:=[f0,f1,f2,f3,f4,f5,f6,f7,f8,f9,Fi,Va,Vb,Vc,Vd,Ve,Vf,Vg,Vh,Vi,Vj,Vk,Vl,Vm,Vn,Vo,Vp,Gp]
end Lw
set_option maxRecDepth 100000
namespace Lw
open PySem PySem.Spec PyProof.Rows L2 Sm
open Ev (D O Hh Fr R aW E Es Eo T S Ss Fl Src cz b7 TY BI ME)
noncomputable def top (i:Nat):Stmt:=PySem.Challenge.pw_pastways_k41_whole_parts.main.body.getD i (.Pass ⟨0,0,0,0⟩)
abbrev i0 (a:Nat→Addr) (d:Nat→FuncData):FI:=⟨"size",a 0,d 0,["part"]⟩
abbrev i1 (a:Nat→Addr) (d:Nat→FuncData):FI:=⟨"before",a 1,d 1,["change"]⟩
abbrev i2 (a:Nat→Addr) (d:Nat→FuncData):FI:=⟨"after",a 2,d 2,["change"]⟩
abbrev i3 (a:Nat→Addr) (d:Nat→FuncData):FI:=⟨"cost",a 3,d 3,["change"]⟩
abbrev i4 (a:Nat→Addr) (d:Nat→FuncData):FI:=⟨"form",a 4,d 4,["change"]⟩
abbrev i5 (a:Nat→Addr) (d:Nat→FuncData):FI:=⟨"stretch",a 5,d 5,["kept","gone","new"]⟩
abbrev i6 (a:Nat→Addr) (d:Nat→FuncData):FI:=⟨"fits",a 6,d 6,["change","text"]⟩
abbrev i7 (a:Nat→Addr) (d:Nat→FuncData):FI:=⟨"done",a 7,d 7,["change","text"]⟩
abbrev i8 (a:Nat→Addr) (d:Nat→FuncData):FI:=⟨"undone",a 8,d 8,["change"]⟩
abbrev i9 (a:Nat→Addr) (d:Nat→FuncData):FI:=⟨"nothing",a 9,d 9,["many"]⟩
abbrev Gq (a:Nat→Addr) (d:Nat→FuncData):FI:=⟨"then",a 10,d 10,["one","other"]⟩
abbrev Gr (a:Nat→Addr) (d:Nat→FuncData):FI:=⟨"all_then",a 11,d 11,["many","rows"]⟩
abbrev i12 (a:Nat→Addr) (d:Nat→FuncData):FI:=⟨"met",a 12,d 12,["left","gone_through"]⟩
abbrev Gs (a:Nat→Addr) (d:Nat→FuncData):FI:=⟨"taken",a 13,d 13,["parts","many"]⟩
abbrev Gu (a:Nat→Addr) (d:Nat→FuncData):FI:=⟨"parted",a 14,d 14,["part","many"]⟩
abbrev Gv (a:Nat→Addr) (d:Nat→FuncData):FI:=⟨"drops_of",a 15,d 15,["change"]⟩
abbrev Gw (a:Nat→Addr) (d:Nat→FuncData):FI:=⟨"puts_of",a 16,d 16,["change"]⟩
abbrev Gx (a:Nat→Addr) (d:Nat→FuncData):FI:=⟨"joined",a 17,d 17,["one","other"]⟩
abbrev Gy (a:Nat→Addr) (d:Nat→FuncData):FI:=⟨"cut",a 18,d 18,["change","place"]⟩
abbrev Gz (a:Nat→Addr) (d:Nat→FuncData):FI:=⟨"only",a 19,d 19,["change","start","end"]⟩
abbrev GA (a:Nat→Addr) (d:Nat→FuncData):FI:=⟨"among",a 20,d 20,["many","change","more"]⟩
abbrev GB (a:Nat→Addr) (d:Nat→FuncData):FI:=⟨"singles",a 21,d 21,["change"]⟩
abbrev GC (a:Nat→Addr) (d:Nat→FuncData):FI:=⟨"_law_cell",a 22,d 22,["_law_script","_law_k"]⟩
abbrev GD (a:Nat→Addr) (d:Nat→FuncData):FI:=⟨"_law_drawn",a 23,d 23,["_law_script","_law_k","_law_many"]⟩
abbrev GF (a:Nat→Addr) (d:Nat→FuncData):FI:=⟨"_law_text",a 24,d 24,["_law_script","_law_at","_law_most"]⟩
abbrev GG (a:Nat→Addr) (d:Nat→FuncData):FI:=⟨"_law_change",a 25,d 25,["_law_script","_law_at","_law_text_here"]⟩
abbrev GH (a:Nat→Addr) (d:Nat→FuncData):FI:=⟨"_law_is_form",a 26,d 26,["_law_change_here"]⟩
abbrev Cg (a:Nat→Addr) (d:Nat→FuncData):FI:=⟨"law",a 27,d 27,["_law_script"]⟩
noncomputable def m5:List Str:=["isinstance","len","list","min","range","reversed","sum","tuple","zip"]
theorem vJ:("isinstance" : Str)∈m5:=by decide +kernel
theorem Uq:("len" : Str)∈m5:=by decide +kernel
theorem Ob:("list" : Str)∈m5:=by decide +kernel
theorem Ur:("min" : Str)∈m5:=by decide +kernel
theorem Kc:("range" : Str)∈m5:=by decide +kernel
theorem qe:("reversed" : Str)∈m5:=by decide +kernel
theorem Us:("sum" : Str)∈m5:=by decide +kernel
theorem qY:("tuple" : Str)∈m5:=by decide +kernel
theorem Ut:("zip" : Str)∈m5:=by decide +kernel
noncomputable def tb (a:Nat→Addr) (d:Nat→FuncData):Tb:=⟨prog,100000,[i0 a d,i1 a d,i2 a d,i3 a d,i4 a d,i5 a d,i6 a d,i7 a d,i8 a d,i9 a d,Gq a d,Gr a d,i12 a d,Gs a d,Gu a d,Gv a d,Gw a d,Gx a d,Gy a d,Gz a d,GA a d,GB a d,GC a d,GD a d,GF a d,GG a d,GH a d,Cg a d],m5,[("__name__",.str [108,97,119,95,112,97,115,116,119,97,121,115,95,107,52,49,95,119,104,111,108,101,95,112,97,114,116,115])],[("TURNED",[(.str [107,101,101,112],.str [107,101,101,112]),(.str [112,117,116],.str [100,114,111,112]),(.str [100,114,111,112],.str [112,117,116])])]⟩
section
variable {a:Nat→Addr}{d:Nat→FuncData}{n:Nat}
abbrev n0:List Str:=["part"]
theorem s0:bu n0 ["part"] (aq (top 1)):=⟨rfl,rfl,rfl,by decide +kernel,rfl,by decide +kernel,by decide +kernel⟩
abbrev n1:List Str:=["change"]
theorem s1:bu n1 ["change"] (aq (top 2)):=⟨rfl,rfl,rfl,by decide +kernel,rfl,by decide +kernel,by decide +kernel⟩
abbrev n2:List Str:=["change"]
theorem s2:bu n2 ["change"] (aq (top 3)):=⟨rfl,rfl,rfl,by decide +kernel,rfl,by decide +kernel,by decide +kernel⟩
abbrev n3:List Str:=["change"]
theorem s3:bu n3 ["change"] (aq (top 4)):=⟨rfl,rfl,rfl,by decide +kernel,rfl,by decide +kernel,by decide +kernel⟩
abbrev n4:List Str:=["change","parts","kept","gone","new","word","what"]
theorem s4:bu n4 ["change"] (aq (top 5)):=⟨rfl,rfl,rfl,by decide +kernel,rfl,by decide +kernel,by decide +kernel⟩
abbrev n5:List Str:=["kept","gone","new","parts"]
theorem s5:bu n5 ["kept","gone","new"] (aq (top 6)):=⟨rfl,rfl,rfl,by decide +kernel,rfl,by decide +kernel,by decide +kernel⟩
abbrev n6:List Str:=["change","text","place","part"]
theorem s6:bu n6 ["change","text"] (aq (top 13)):=⟨rfl,rfl,rfl,by decide +kernel,rfl,by decide +kernel,by decide +kernel⟩
abbrev n7:List Str:=["change","text","pieces","place","word","what"]
theorem s7:bu n7 ["change","text"] (aq (top 14)):=⟨rfl,rfl,rfl,by decide +kernel,rfl,by decide +kernel,by decide +kernel⟩
abbrev n8:List Str:=["change"]
theorem s8:bu n8 ["change"] (aq (top 15)):=⟨rfl,rfl,rfl,by decide +kernel,rfl,by decide +kernel,by decide +kernel⟩
abbrev n9:List Str:=["many"]
theorem s9:bu n9 ["many"] (aq (top 16)):=⟨rfl,rfl,rfl,by decide +kernel,rfl,by decide +kernel,by decide +kernel⟩
abbrev Vq:List Str:=["one","other","ones","others","parts","many"]
theorem AD:bu Vq ["one","other"] (aq (top 17)):=⟨rfl,rfl,rfl,by decide +kernel,rfl,by decide +kernel,by decide +kernel⟩
abbrev Vr:List Str:=["many","rows","whole","change"]
theorem Fe:bu Vr ["many","rows"] (aq (top 18)):=⟨rfl,rfl,rfl,by decide +kernel,rfl,by decide +kernel,by decide +kernel⟩
abbrev Vs:List Str:=["left","gone_through"]
theorem s12:bu Vs ["left","gone_through"] (aq (top 19)):=⟨rfl,rfl,rfl,by decide +kernel,rfl,by decide +kernel,by decide +kernel⟩
abbrev Vt:List Str:=["parts","many","halves"]
theorem s13:bu Vt ["parts","many"] (aq (top 20)):=⟨rfl,rfl,rfl,by decide +kernel,rfl,by decide +kernel,by decide +kernel⟩
abbrev Vu:List Str:=["part","many","word"]
theorem s14:bu Vu ["part","many"] (aq (top 21)):=⟨rfl,rfl,rfl,by decide +kernel,rfl,by decide +kernel,by decide +kernel⟩
abbrev Vv:List Str:=["change"]
theorem GI:bu Vv ["change"] (aq (top 23)):=⟨rfl,rfl,rfl,by decide +kernel,rfl,by decide +kernel,by decide +kernel⟩
abbrev Vw:List Str:=["change"]
theorem s16:bu Vw ["change"] (aq (top 24)):=⟨rfl,rfl,rfl,by decide +kernel,rfl,by decide +kernel,by decide +kernel⟩
abbrev Vx:List Str:=["one","other"]
theorem s17:bu Vx ["one","other"] (aq (top 25)):=⟨rfl,rfl,rfl,by decide +kernel,rfl,by decide +kernel,by decide +kernel⟩
abbrev Vy:List Str:=["change","place","parts","first","left","many"]
theorem s18:bu Vy ["change","place"] (aq (top 26)):=⟨rfl,rfl,rfl,by decide +kernel,rfl,by decide +kernel,by decide +kernel⟩
abbrev Vz:List Str:=["change","start","end","behind"]
theorem GJ:bu Vz ["change","start","end"] (aq (top 27)):=⟨rfl,rfl,rfl,by decide +kernel,rfl,by decide +kernel,by decide +kernel⟩
abbrev VA:List Str:=["many","change","more"]
theorem s20:bu VA ["many","change","more"] (aq (top 28)):=⟨rfl,rfl,rfl,by decide +kernel,rfl,by decide +kernel,by decide +kernel⟩
abbrev VB:List Str:=["change","rows","ahead","behind","part","sign"]
theorem GK:bu VB ["change"] (aq (top 29)):=⟨rfl,rfl,rfl,by decide +kernel,rfl,by decide +kernel,by decide +kernel⟩
abbrev VC:List Str:=["_law_script","_law_k"]
theorem GL:bu VC ["_law_script","_law_k"] (aq (top 31)):=⟨rfl,rfl,rfl,by decide +kernel,rfl,by decide +kernel,by decide +kernel⟩
abbrev VD:List Str:=["_law_script","_law_k","_law_many","_law_cell_here"]
theorem s23:bu VD ["_law_script","_law_k","_law_many"] (aq (top 32)):=⟨rfl,rfl,rfl,by decide +kernel,rfl,by decide +kernel,by decide +kernel⟩
abbrev VE:List Str:=["_law_script","_law_at","_law_most"]
theorem s24:bu VE ["_law_script","_law_at","_law_most"] (aq (top 33)):=⟨rfl,rfl,rfl,by decide +kernel,rfl,by decide +kernel,by decide +kernel⟩
abbrev VF:List Str:=["_law_script","_law_at","_law_text_here","_law_found","_law_k","_law_new","_law_is_kept"]
theorem s25:bu VF ["_law_script","_law_at","_law_text_here"] (aq (top 34)):=⟨rfl,rfl,rfl,by decide +kernel,rfl,by decide +kernel,by decide +kernel⟩
abbrev VG:List Str:=["_law_change_here","_law_words","_law_one","_law_other"]
theorem s26:bu VG ["_law_change_here"] (aq (top 36)):=⟨rfl,rfl,rfl,by decide +kernel,rfl,by decide +kernel,by decide +kernel⟩
abbrev VH:List Str:=["_law_script","_law_text_here","_law_change_here","_law_own","_law_kept","_law_place","_law_first","_law_last","_law_more","_law_other","_law_sides","_law_end","_law_some","_law_rest","_law_rows"]
theorem s27:bu VH ["_law_script"] (aq (top 37)):=⟨rfl,rfl,rfl,by decide +kernel,rfl,by decide +kernel,by decide +kernel⟩
set_option maxHeartbeats 0 in
theorem di:allB (tb a d) n [(f0.body,top 1,n0),(f1.body,top 2,n1),(f2.body,top 3,n2),(f3.body,top 4,n3),(f4.body,top 5,n4),(f5.body,top 6,n5),(f6.body,top 13,n6),(f7.body,top 14,n7),(f8.body,top 15,n8),(f9.body,top 16,n9),(Fi.body,top 17,Vq),(Va.body,top 18,Vr),(Vb.body,top 19,Vs),(Vc.body,top 20,Vt),(Vd.body,top 21,Vu),(Ve.body,top 23,Vv),(Vf.body,top 24,Vw),(Vg.body,top 25,Vx),(Vh.body,top 26,Vy),(Vi.body,top 27,Vz),(Vj.body,top 28,VA),(Vk.body,top 29,VB),(Vl.body,top 31,VC),(Vm.body,top 32,VD),(Vn.body,top 33,VE),(Vo.body,top 34,VF),(Vp.body,top 36,VG),(Gp.body,top 37,VH)]:=by
 refine ⟨?_,?_,?_,?_,?_,?_,?_,?_,?_,?_,?_,?_,?_,?_,?_,?_,?_,?_,?_,?_,?_,?_,?_,?_,?_,?_,?_,?_,trivial⟩
 all_goals dsimp only
 all_goals repeat (first
  | ((with_reducible show JE _ _ _ _ _ _ _ (.BoolOp _ [_] _));refine Lp ?_)
  | ((with_reducible show JE _ _ _ _ _ _ (.v _) _);exact jv (by decide +kernel))
  | ((with_reducible show JA _ _ _ _ _ _ (.cons _ _) _);refine Ii ?_ ?_)
  | ((with_reducible show JA _ _ _ _ _ _ .nil _);refine Ll)
  | ((with_reducible show lO _ _ _ _ _ _ (.cons _ _) _);refine CL ?_ ?_)
  | ((with_reducible show lO _ _ _ _ _ _ .nil _);refine Iq)
  | ((with_reducible show JE _ _ _ _ _ _ (.c (.int _)) _);refine Lj)
  | ((with_reducible show JE _ _ _ _ _ _ (.cl _ _) _);refine jcl (by decide +kernel) rfl rfl ?_)
  | ((with_reducible show JE _ _ _ _ _ _ (.ix _ _) _);refine RN (fun X g=>R3) ?_ ?_)
  | ((with_reducible show JE _ _ _ _ _ _ (.c (.str _)) _);refine Lk)
  | ((with_reducible show JS _ _ _ _ _ _ (.ret _) _);refine LI ?_)
  | ((with_reducible show JE _ _ _ _ _ _ (.bin .add _ _) _);refine mh (fun X g=>LX) ?_ ?_)
  | ((with_reducible show JS _ _ _ _ _ _ (.iff _ _ _) _);refine LK ?_ ?_ ?_)
  | ((with_reducible show JT _ _ _ _ _ _ (.cmp .ne _ _) _);refine mj (fun X g=>RZ g) ?_ ?_ (ki _))
  | ((with_reducible show JE _ _ _ _ _ _ (.tup _) _);refine Lm ?_)
  | ((with_reducible show JT _ _ _ _ _ _ (.cmp .eq _ _) _);refine mj (fun X g=>Fx g) ?_ ?_ (ki _))
  | ((with_reducible show JI _ _ _ _ _ _ (.seq _) _ _);refine LC ?_)
  | ((with_reducible show JG _ _ _ _ _ _ (.one _) _);exact jg1 (by decide +kernel))
  | ((with_reducible show JS _ _ _ _ _ _ (.exp _) _);refine LH ?_)
  | ((with_reducible show JE _ _ _ _ _ _ (.lst _) _);refine Ln ?_)
  | ((with_reducible show JO _ _ _ _ _ _ (.yes _) _);refine Ly ?_)
  | ((with_reducible show JE _ _ _ _ _ _ (.bi .len _) _);refine yF (x:="len") (id:="len") (fun X g=>Ma) ?_ (hb:=Uq) (hv:=by decide +kernel))
  | ((with_reducible show JT _ _ _ _ _ _ (.orr _ _) _);refine XA ?_ ?_)
  | ((with_reducible show JW _ _ _ _ _ _ (.orr _ _) (.BoolOp _ (_ :: _ :: _) _));refine Ao ?_ ?_)
  | ((with_reducible show JW _ _ _ _ _ _ _ (.BoolOp .Or [_] _));refine Ij ?_)
  | ((with_reducible show JE _ _ _ _ _ _ (.me .append _ (.cons _ _)) _);refine yG PySem.F.plainAttrs_list PySem.F.slot_list_append PySem.F.type_list_append (fun X g=>AJ) rfl ?_ ?_)
  | ((with_reducible show JE _ _ _ _ _ _ (.c (.bl _)) _);refine RK)
  | ((with_reducible show JE _ _ _ _ _ _ (.bin .mul _ _) _);refine mh (fun X g=>L7) ?_ ?_)
  | ((with_reducible show rJ _ _ _ _ _ _ (_ :: _) _);refine jgc (by decide +kernel) ?_)
  | ((with_reducible show JE _ _ _ _ _ _ (.sl _ _ _) _);refine RQ (fun X g=>L6) ?_ ?_ ?_)
  | ((with_reducible show JE _ _ _ _ _ _ (.comp _ _ _ _) _);refine R6 (by decide +kernel) (by decide +kernel) ?_ ?_ ?_ ?_)
  | ((with_reducible show JS _ _ _ _ _ _ (.for _ _ _) _);refine LM ?_ ?_ ?_)
  | ((with_reducible show JE _ _ _ _ _ _ (.bin .sub _ _) _);refine mh (fun X g=>LY) ?_ ?_)
  | ((with_reducible show JC _ _ _ _ _ _ (.yes _) _);refine LN ?_)
  | ((with_reducible show JE _ _ _ _ _ _ (.neg _) _);refine Lo ?_)
  | ((with_reducible show JO _ _ _ _ _ _ .no _);refine RP)
  | ((with_reducible show JE _ _ _ _ _ _ (.gv _) _);refine Mf ?_ (h1:=qY))
  | ((with_reducible show JE _ _ _ _ _ _ (.bin .mod _ _) _);refine mh (fun X g=>LZ) ?_ ?_)
  | ((with_reducible show JG _ _ _ _ _ _ (.many _) _);refine Ip ?_)
  | ((with_reducible show rJ _ _ _ _ _ _ [] _);refine Io)
  | ((with_reducible show JT _ _ _ _ _ _ (.cmp .gt _ _) _);refine mj (fun X g=>Fy) ?_ ?_ (ki _))
  | ((with_reducible show JT _ _ _ _ _ _ (.an _ _) _);refine Xz ?_ ?_)
  | ((with_reducible show JW _ _ _ _ _ _ (.an _ _) (.BoolOp _ (_ :: _ :: _) _));refine E8 ?_ ?_)
  | ((with_reducible show JW _ _ _ _ _ _ _ (.BoolOp .And [_] _));refine Ls ?_)
  | ((with_reducible show JS _ _ _ _ _ _ .fP _);refine Mg)
  | ((with_reducible show JE _ _ _ _ _ _ (.me .pop _ .nil) _);refine Lz PySem.F.plainAttrs_list PySem.F.slot_list_pop PySem.F.type_list_pop (fun X g=>Mc) rfl ?_)
  | ((with_reducible show JE _ _ _ _ _ _ (.bin .fdiv _ _) _);refine mh (fun X g=>ID) ?_ ?_)
  | ((with_reducible show JE _ _ _ _ _ _ (.bi .sum _) _);refine yF (x:="sum") (id:="sum") (fun X g=>L8 g) ?_ (hb:=Us) (hv:=by decide +kernel))
  | ((with_reducible show JE _ _ _ _ _ _ (.me .extend _ (.cons _ _)) _);refine yG PySem.F.plainAttrs_list PySem.F.slot_list_extend PySem.F.type_list_extend (fun X g=>AK) rfl ?_ ?_)
  | ((with_reducible show JE _ _ _ _ _ _ (.cmp .eq _ _) _);refine Am (fun X g=>Fx g) ?_ ?_ (ki _))
  | ((with_reducible show JC _ _ _ _ _ _ .no _);refine RT)
  | ((with_reducible show JE _ _ _ _ _ _ (.iL (.rev _)) _);refine IM ?_ (h1:=Ob) (hb:=qe))
  | ((with_reducible show JT _ _ _ _ _ _ (.nt _) _);refine RM ?_)
  | ((with_reducible show JE _ _ _ _ _ _ (.me .join _ (.cons _ _)) _);refine yG PySem.F.plainAttrs_str PySem.F.slot_str_join PySem.F.type_str_join (fun X g=>IJ) rfl ?_ ?_)
  | ((with_reducible show JS _ _ _ _ _ _ (.lZ _ _) _);refine LL ?_ ?_)
  | ((with_reducible show JE _ _ _ _ _ _ (.bi .min _) _);refine yF (x:="min") (id:="min") (fun X g=>Mb g) ?_ (hb:=Ur) (hv:=by decide +kernel))
  | ((with_reducible show JT _ _ _ _ _ _ (.cmp .lt _ _) _);refine mj (fun X g=>R0) ?_ ?_ (ki _))
  | ((with_reducible show JI _ _ _ _ _ _ (.jb (.cons _ .nil)) _ _);refine Im ?_ (hb:=Kc))
  | ((with_reducible show JE _ _ _ _ _ _ (.ji _ _) _);refine IL (x:="TURNED") (.head _) ?_)
  | ((with_reducible show JE _ _ _ _ _ _ (.lM _) _);refine Ms ?_ (h1:=qY) (hb:=qe))
  | ((with_reducible show JS _ _ _ _ _ _ .cnt _);refine LJ)
  | ((with_reducible show JE _ _ _ _ _ _ (.cmp .gt _ _) _);refine Am (fun X g=>Fy) ?_ ?_ (ki _))
  | ((with_reducible show JE _ _ _ _ _ _ (.lK _ _ _) _);refine Lq ?_ ?_ ?_)
  | ((with_reducible show JS _ _ _ _ _ _ (.set _ (.comp _ _ _ _)) _);refine R7 (by decide +kernel) (by decide +kernel) (by decide +kernel) ?_ ?_ ?_ ?_)
  | ((with_reducible show JI _ _ _ _ _ _ (.zip _ _) _ _);refine Mi ?_ ?_ (UT:=Ut))
  | ((with_reducible show JE _ _ _ _ _ _ (.an _ _) (.BoolOp _ (_ :: _ :: _) _));refine RL ?_ ?_)
  | ((with_reducible show JE _ _ _ _ _ _ (.lN _ [.tuple]) _);refine Me (t:=.tuple) (T:="tuple") ?_ (by decide +kernel) (h1:=vJ) (h2:=qY))
  | ((with_reducible show JT _ _ _ _ _ _ (.cmp .isin _ _) _);refine mj (fun X g=>R1 g) ?_ ?_ (by with_unfolding_all rfl))
  | ((with_reducible show JS _ _ _ _ _ _ (.kT _ _) _);refine Ir ?_ ?_)
  | ((with_reducible show JS _ _ _ _ _ _ (.set _ _) _);refine Xy (by decide +kernel) ?_)
  | ((with_reducible show JT _ _ _ _ _ _ _ _);refine Lv ?_))
end
end Lw
set_option maxRecDepth 100000
namespace Lw
open PySem PySem.Spec PyProof.Rows L2 Sm
open Ev (D O Hh Fr R aW E Es Eo T S Ss Fl Src cz b7 TY BI ME)
theorem iT {α:Type _}{l:List α}(h:l.length=1):∃ a,l=[a]:=by
 rcases l with _ | ⟨a,_ | ⟨b,l⟩⟩ <;> simp at h ⊢
theorem jS {α:Type _}{l:List α}(h:l.length=2):∃ a b,l=[a,b]:=by
 rcases l with _ | ⟨a,l⟩
 ·simp at h
 ·obtain ⟨b,rfl⟩:=iT (l:=l) (by simpa using h);exact ⟨a,b,rfl⟩
theorem qZ {α:Type _}{l:List α}(h:l.length=3):∃ a b c,l=[a,b,c]:=by
 rcases l with _ | ⟨a,l⟩
 ·simp at h
 ·obtain ⟨b,c,rfl⟩:=jS (l:=l) (by simpa using h);exact ⟨a,b,c,rfl⟩
theorem all_mk {l:PySem.W.OpenLaw}{w:World}{K:PySem.W.Frag}{h:Heap}{mg:Str→Option Value}{fa p0 p1 p2 p3 p4 p5 p6 p7 p8 p9 GN GO GP GQ GR GS GU GV GW GX GY GZ G0 G1 G2 G3 G4 Ci:Addr}(X:K.In h) (G:h.Ns mainGlobals mg) (hfa:mg "law" = some (.ref fa))
  {od0 Oc od1 VI od2 VJ od3 VL od4 VM od5 VN od6 VO od7 VP od8 VQ od9 VR Yv Od Yw Oe Yx Of Yy Og Yz Oh YA Oi YB Oj YC Ol YD Om YE Oo YF Oq YG Ot YH Ou YI Ov YJ Ow YK Ox YL Oz YM Ew:Option Addr} {sl0 sl1 sl2 sl3 sl4 sl5 sl6 sl7 sl8 sl9 YN YO YQ YR YS YT YU YV YW YX YY YZ Y0 Y3 Y4 Y5 Y6 Y7:Array (Option Value)} {oc0 OA OB OC G5 OD oc1 VS VT VU OE VV oc2 VW VX VY OF VZ oc3 V0 V1 V2 OG V3 oc4 V4 V5 V6 OH V7 oc5 V8 V9 Wa OI Wb oc6 Wc Wd We OJ Wf oc7 Wg Wh Wi OL Wj oc8 Wk Wl Wm OM Wn oc9 Wo Wq Wr ON Ws Y8 OO OP OQ Ex OR Y9 OS OT OU Ey OV Za OW OX OY Ez OZ Zb O0 O1 O2 EA O3 Zc O4 O5 O6 EB O7 Zd O8 O9 Pa EC Pb Ze Pc Pd Pe ED Pf Zf Pg Ph Pj EE Pk Zg Pn Po Pp EF Pq Zh Pu Pw Px EG Py Zi Pz PB PC EH PD Zj PF PJ PK EI PL Zk PM PN PR EJ PU Zl PV PX PY EK PZ Zm P0 P1 P4 EL P5 Zn P6 P7 P8 EM P9 Zo Qa Qc Qd EN Qe Zp EO ER ES zM ET:Value}
  (a0:PySem.W.nsIn K mainGlobals "size" = some (some (.ref p0))) (l0:K.lookup p0=some ⟨oc0,od0,.func (PySem.W.fnOf "size" "size" (aK (top 1)) (aF (top 1)) (aq (top 1)) .none OA OB OC Oc G5 OD),sl0⟩) (c0:PySem.W.codeIn K G5 "size" = true) (k0:PySem.W.keepIn K (.ref p0)=true)
  (a1:PySem.W.nsIn K mainGlobals "before" = some (some (.ref p1))) (l1:K.lookup p1=some ⟨oc1,od1,.func (PySem.W.fnOf "before" "before" (aK (top 2)) (aF (top 2)) (aq (top 2)) .none VS VT VU VI OE VV),sl1⟩) (c1:PySem.W.codeIn K OE "before" = true) (k1:PySem.W.keepIn K (.ref p1)=true)
  (a2:PySem.W.nsIn K mainGlobals "after" = some (some (.ref p2))) (l2:K.lookup p2=some ⟨oc2,od2,.func (PySem.W.fnOf "after" "after" (aK (top 3)) (aF (top 3)) (aq (top 3)) .none VW VX VY VJ OF VZ),sl2⟩) (c2:PySem.W.codeIn K OF "after" = true) (k2:PySem.W.keepIn K (.ref p2)=true)
  (a3:PySem.W.nsIn K mainGlobals "cost" = some (some (.ref p3))) (l3:K.lookup p3=some ⟨oc3,od3,.func (PySem.W.fnOf "cost" "cost" (aK (top 4)) (aF (top 4)) (aq (top 4)) .none V0 V1 V2 VL OG V3),sl3⟩) (c3:PySem.W.codeIn K OG "cost" = true) (k3:PySem.W.keepIn K (.ref p3)=true)
  (a4:PySem.W.nsIn K mainGlobals "form" = some (some (.ref p4))) (l4:K.lookup p4=some ⟨oc4,od4,.func (PySem.W.fnOf "form" "form" (aK (top 5)) (aF (top 5)) (aq (top 5)) .none V4 V5 V6 VM OH V7),sl4⟩) (c4:PySem.W.codeIn K OH "form" = true) (k4:PySem.W.keepIn K (.ref p4)=true)
  (a5:PySem.W.nsIn K mainGlobals "stretch" = some (some (.ref p5))) (l5:K.lookup p5=some ⟨oc5,od5,.func (PySem.W.fnOf "stretch" "stretch" (aK (top 6)) (aF (top 6)) (aq (top 6)) .none V8 V9 Wa VN OI Wb),sl5⟩) (c5:PySem.W.codeIn K OI "stretch" = true) (k5:PySem.W.keepIn K (.ref p5)=true)
  (a6:PySem.W.nsIn K mainGlobals "fits" = some (some (.ref p6))) (l6:K.lookup p6=some ⟨oc6,od6,.func (PySem.W.fnOf "fits" "fits" (aK (top 13)) (aF (top 13)) (aq (top 13)) .none Wc Wd We VO OJ Wf),sl6⟩) (c6:PySem.W.codeIn K OJ "fits" = true) (k6:PySem.W.keepIn K (.ref p6)=true)
  (a7:PySem.W.nsIn K mainGlobals "done" = some (some (.ref p7))) (l7:K.lookup p7=some ⟨oc7,od7,.func (PySem.W.fnOf "done" "done" (aK (top 14)) (aF (top 14)) (aq (top 14)) .none Wg Wh Wi VP OL Wj),sl7⟩) (c7:PySem.W.codeIn K OL "done" = true) (k7:PySem.W.keepIn K (.ref p7)=true)
  (a8:PySem.W.nsIn K mainGlobals "undone" = some (some (.ref p8))) (l8:K.lookup p8=some ⟨oc8,od8,.func (PySem.W.fnOf "undone" "undone" (aK (top 15)) (aF (top 15)) (aq (top 15)) .none Wk Wl Wm VQ OM Wn),sl8⟩) (c8:PySem.W.codeIn K OM "undone" = true) (k8:PySem.W.keepIn K (.ref p8)=true)
  (a9:PySem.W.nsIn K mainGlobals "nothing" = some (some (.ref p9))) (l9:K.lookup p9=some ⟨oc9,od9,.func (PySem.W.fnOf "nothing" "nothing" (aK (top 16)) (aF (top 16)) (aq (top 16)) .none Wo Wq Wr VR ON Ws),sl9⟩) (c9:PySem.W.codeIn K ON "nothing" = true) (k9:PySem.W.keepIn K (.ref p9)=true)
  (Qf:PySem.W.nsIn K mainGlobals "then" = some (some (.ref GN))) (Qg:K.lookup GN=some ⟨Y8,Yv,.func (PySem.W.fnOf "then" "then" (aK (top 17)) (aF (top 17)) (aq (top 17)) .none OO OP OQ Od Ex OR),YN⟩) (Qh:PySem.W.codeIn K Ex "then" = true) (G6:PySem.W.keepIn K (.ref GN)=true)
  (Qi:PySem.W.nsIn K mainGlobals "all_then" = some (some (.ref GO))) (Qj:K.lookup GO=some ⟨Y9,Yw,.func (PySem.W.fnOf "all_then" "all_then" (aK (top 18)) (aF (top 18)) (aq (top 18)) .none OS OT OU Oe Ey OV),YO⟩) (Qk:PySem.W.codeIn K Ey "all_then" = true) (G7:PySem.W.keepIn K (.ref GO)=true)
  (Ql:PySem.W.nsIn K mainGlobals "met" = some (some (.ref GP))) (Qm:K.lookup GP=some ⟨Za,Yx,.func (PySem.W.fnOf "met" "met" (aK (top 19)) (aF (top 19)) (aq (top 19)) .none OW OX OY Of Ez OZ),YQ⟩) (c12:PySem.W.codeIn K Ez "met" = true) (G8:PySem.W.keepIn K (.ref GP)=true)
  (Qn:PySem.W.nsIn K mainGlobals "taken" = some (some (.ref GQ))) (Qo:K.lookup GQ=some ⟨Zb,Yy,.func (PySem.W.fnOf "taken" "taken" (aK (top 20)) (aF (top 20)) (aq (top 20)) .none O0 O1 O2 Og EA O3),YR⟩) (Qp:PySem.W.codeIn K EA "taken" = true) (Hf:PySem.W.keepIn K (.ref GQ)=true)
  (Qq:PySem.W.nsIn K mainGlobals "parted" = some (some (.ref GR))) (Qs:K.lookup GR=some ⟨Zc,Yz,.func (PySem.W.fnOf "parted" "parted" (aK (top 21)) (aF (top 21)) (aq (top 21)) .none O4 O5 O6 Oh EB O7),YS⟩) (Qt:PySem.W.codeIn K EB "parted" = true) (Hg:PySem.W.keepIn K (.ref GR)=true)
  (Qu:PySem.W.nsIn K mainGlobals "drops_of" = some (some (.ref GS))) (Qv:K.lookup GS=some ⟨Zd,YA,.func (PySem.W.fnOf "drops_of" "drops_of" (aK (top 23)) (aF (top 23)) (aq (top 23)) .none O8 O9 Pa Oi EC Pb),YT⟩) (Qw:PySem.W.codeIn K EC "drops_of" = true) (Hi:PySem.W.keepIn K (.ref GS)=true)
  (Qx:PySem.W.nsIn K mainGlobals "puts_of" = some (some (.ref GU))) (Qy:K.lookup GU=some ⟨Ze,YB,.func (PySem.W.fnOf "puts_of" "puts_of" (aK (top 24)) (aF (top 24)) (aq (top 24)) .none Pc Pd Pe Oj ED Pf),YU⟩) (Qz:PySem.W.codeIn K ED "puts_of" = true) (Hj:PySem.W.keepIn K (.ref GU)=true)
  (QA:PySem.W.nsIn K mainGlobals "joined" = some (some (.ref GV))) (QB:K.lookup GV=some ⟨Zf,YC,.func (PySem.W.fnOf "joined" "joined" (aK (top 25)) (aF (top 25)) (aq (top 25)) .none Pg Ph Pj Ol EE Pk),YV⟩) (QC:PySem.W.codeIn K EE "joined" = true) (Hl:PySem.W.keepIn K (.ref GV)=true)
  (QD:PySem.W.nsIn K mainGlobals "cut" = some (some (.ref GW))) (QE:K.lookup GW=some ⟨Zg,YD,.func (PySem.W.fnOf "cut" "cut" (aK (top 26)) (aF (top 26)) (aq (top 26)) .none Pn Po Pp Om EF Pq),YW⟩) (QF:PySem.W.codeIn K EF "cut" = true) (Ho:PySem.W.keepIn K (.ref GW)=true)
  (QG:PySem.W.nsIn K mainGlobals "only" = some (some (.ref GX))) (QH:K.lookup GX=some ⟨Zh,YE,.func (PySem.W.fnOf "only" "only" (aK (top 27)) (aF (top 27)) (aq (top 27)) .none Pu Pw Px Oo EG Py),YX⟩) (QI:PySem.W.codeIn K EG "only" = true) (Hq:PySem.W.keepIn K (.ref GX)=true)
  (QJ:PySem.W.nsIn K mainGlobals "among" = some (some (.ref GY))) (QK:K.lookup GY=some ⟨Zi,YF,.func (PySem.W.fnOf "among" "among" (aK (top 28)) (aF (top 28)) (aq (top 28)) .none Pz PB PC Oq EH PD),YY⟩) (QL:PySem.W.codeIn K EH "among" = true) (Hr:PySem.W.keepIn K (.ref GY)=true)
  (QM:PySem.W.nsIn K mainGlobals "singles" = some (some (.ref GZ))) (QN:K.lookup GZ=some ⟨Zj,YG,.func (PySem.W.fnOf "singles" "singles" (aK (top 29)) (aF (top 29)) (aq (top 29)) .none PF PJ PK Ot EI PL),YZ⟩) (QO:PySem.W.codeIn K EI "singles" = true) (Hs:PySem.W.keepIn K (.ref GZ)=true)
  (QS:PySem.W.nsIn K mainGlobals "_law_cell" = some (some (.ref G0))) (QT:K.lookup G0=some ⟨Zk,YH,.func (PySem.W.fnOf "_law_cell" "_law_cell" (aK (top 31)) (aF (top 31)) (aq (top 31)) .none PM PN PR Ou EJ PU),Y0⟩) (QU:PySem.W.codeIn K EJ "_law_cell" = true) (Ht:PySem.W.keepIn K (.ref G0)=true)
  (QV:PySem.W.nsIn K mainGlobals "_law_drawn" = some (some (.ref G1))) (QW:K.lookup G1=some ⟨Zl,YI,.func (PySem.W.fnOf "_law_drawn" "_law_drawn" (aK (top 32)) (aF (top 32)) (aq (top 32)) .none PV PX PY Ov EK PZ),Y3⟩) (QX:PySem.W.codeIn K EK "_law_drawn" = true) (Hu:PySem.W.keepIn K (.ref G1)=true)
  (QY:PySem.W.nsIn K mainGlobals "_law_text" = some (some (.ref G2))) (QZ:K.lookup G2=some ⟨Zm,YJ,.func (PySem.W.fnOf "_law_text" "_law_text" (aK (top 33)) (aF (top 33)) (aq (top 33)) .none P0 P1 P4 Ow EL P5),Y4⟩) (Q0:PySem.W.codeIn K EL "_law_text" = true) (Hv:PySem.W.keepIn K (.ref G2)=true)
  (Q2:PySem.W.nsIn K mainGlobals "_law_change" = some (some (.ref G3))) (Q3:K.lookup G3=some ⟨Zn,YK,.func (PySem.W.fnOf "_law_change" "_law_change" (aK (top 34)) (aF (top 34)) (aq (top 34)) .none P6 P7 P8 Ox EM P9),Y5⟩) (Q4:PySem.W.codeIn K EM "_law_change" = true) (Hw:PySem.W.keepIn K (.ref G3)=true)
  (Q5:PySem.W.nsIn K mainGlobals "_law_is_form" = some (some (.ref G4))) (Q6:K.lookup G4=some ⟨Zo,YL,.func (PySem.W.fnOf "_law_is_form" "_law_is_form" (aK (top 36)) (aF (top 36)) (aq (top 36)) .none Qa Qc Qd Oz EN Qe),Y6⟩) (Q7:PySem.W.codeIn K EN "_law_is_form" = true) (Hx:PySem.W.keepIn K (.ref G4)=true)
  (Hy:PySem.W.nsIn K mainGlobals "law" = some (some (.ref Ci))) (Q8:K.lookup Ci=some ⟨Zp,YM,.func (PySem.W.fnOf "law" "law" (aK (top 37)) (aF (top 37)) (aq (top 37)) .none EO ER ES Ew zM ET),Y7⟩) (Q9:PySem.W.codeIn K zM "law" = true) (Hz:PySem.W.keepIn K (.ref Ci)=true)
  (z0:PySem.W.nsIn K mainGlobals "isinstance" = some none)
  (z1:PySem.W.nsIn K mainGlobals "len" = some none)
  (z2:PySem.W.nsIn K mainGlobals "list" = some none)
  (z3:PySem.W.nsIn K mainGlobals "min" = some none)
  (z4:PySem.W.nsIn K mainGlobals "range" = some none)
  (z5:PySem.W.nsIn K mainGlobals "reversed" = some none)
  (z6:PySem.W.nsIn K mainGlobals "sum" = some none)
  (z7:PySem.W.nsIn K mainGlobals "tuple" = some none)
  (z8:PySem.W.nsIn K mainGlobals "zip" = some none)
  {t0:Tok} (q0:PySem.W.nsIn K mainGlobals "__name__" = some (some (.str "law_pastways_k41_whole_parts" t0)))
  {HA:Addr} (Ra:PySem.W.nsIn K mainGlobals "TURNED" = some (some (.ref HA))) (Rb:PyProof.Rows.KTD.tabLook PyProof.Rows.KTD.flatLooks (fun b=>K.lookup b) HA [(aX [107,101,101,112],PyData.str (aX [107,101,101,112])),(aX [112,117,116],PyData.str (aX [100,114,111,112])),(aX [100,114,111,112],PyData.str (aX [112,117,116]))]=true) (Rc:PyProof.Rows.KTD.hashesOf (fun b=>K.lookup b) HA=([(aX [107,101,101,112],PyData.str (aX [107,101,101,112])),(aX [112,117,116],PyData.str (aX [100,114,111,112])),(aX [100,114,111,112],PyData.str (aX [112,117,116]))]:List (Str×PyData)).map fun p=>(PySem.strKind l.prog w).hash p.1)
  : ∃ fd:FuncData,(∀ (s:Shared) (v:Value),BindsTo s fd ⟨[v],[]⟩ [("_law_script",v)])∧∀ base:Heap,K.In base→base.Ns mainGlobals mg→iO l.prog w K mg base lY 60 fa fd ["_law_script"] (nJ K prog 100000 60 27):=by
 have e:=hfa.symm.trans (PySem.W.mg_of X G Hy)
 have e2:Ci=fa:=by injection e with e;injection e with e;exact e.symm
 subst e2
 have F0:=b6 (st:=top 1) l0 c0 k0
 have B0:=F0.binds (ps:=["part"]) fun _ _ _ _ _ _ us hl=>by obtain ⟨_,rfl⟩:=iT hl;rfl
 have F1:=b6 (st:=top 2) l1 c1 k1
 have B1:=F1.binds (ps:=["change"]) fun _ _ _ _ _ _ us hl=>by obtain ⟨_,rfl⟩:=iT hl;rfl
 have F2:=b6 (st:=top 3) l2 c2 k2
 have B2:=F2.binds (ps:=["change"]) fun _ _ _ _ _ _ us hl=>by obtain ⟨_,rfl⟩:=iT hl;rfl
 have F3:=b6 (st:=top 4) l3 c3 k3
 have B3:=F3.binds (ps:=["change"]) fun _ _ _ _ _ _ us hl=>by obtain ⟨_,rfl⟩:=iT hl;rfl
 have F4:=b6 (st:=top 5) l4 c4 k4
 have B4:=F4.binds (ps:=["change"]) fun _ _ _ _ _ _ us hl=>by obtain ⟨_,rfl⟩:=iT hl;rfl
 have F5:=b6 (st:=top 6) l5 c5 k5
 have B5:=F5.binds (ps:=["kept","gone","new"]) fun _ _ _ _ _ _ us hl=>by obtain ⟨_,_,_,rfl⟩:=qZ hl;rfl
 have F6:=b6 (st:=top 13) l6 c6 k6
 have B6:=F6.binds (ps:=["change","text"]) fun _ _ _ _ _ _ us hl=>by obtain ⟨_,_,rfl⟩:=jS hl;rfl
 have F7:=b6 (st:=top 14) l7 c7 k7
 have B7:=F7.binds (ps:=["change","text"]) fun _ _ _ _ _ _ us hl=>by obtain ⟨_,_,rfl⟩:=jS hl;rfl
 have F8:=b6 (st:=top 15) l8 c8 k8
 have B8:=F8.binds (ps:=["change"]) fun _ _ _ _ _ _ us hl=>by obtain ⟨_,rfl⟩:=iT hl;rfl
 have F9:=b6 (st:=top 16) l9 c9 k9
 have B9:=F9.binds (ps:=["many"]) fun _ _ _ _ _ _ us hl=>by obtain ⟨_,rfl⟩:=iT hl;rfl
 have Wt:=b6 (st:=top 17) Qg Qh G6
 have B10:=Wt.binds (ps:=["one","other"]) fun _ _ _ _ _ _ us hl=>by obtain ⟨_,_,rfl⟩:=jS hl;rfl
 have Wu:=b6 (st:=top 18) Qj Qk G7
 have B11:=Wu.binds (ps:=["many","rows"]) fun _ _ _ _ _ _ us hl=>by obtain ⟨_,_,rfl⟩:=jS hl;rfl
 have Wv:=b6 (st:=top 19) Qm c12 G8
 have B12:=Wv.binds (ps:=["left","gone_through"]) fun _ _ _ _ _ _ us hl=>by obtain ⟨_,_,rfl⟩:=jS hl;rfl
 have Ww:=b6 (st:=top 20) Qo Qp Hf
 have B13:=Ww.binds (ps:=["parts","many"]) fun _ _ _ _ _ _ us hl=>by obtain ⟨_,_,rfl⟩:=jS hl;rfl
 have Wx:=b6 (st:=top 21) Qs Qt Hg
 have B14:=Wx.binds (ps:=["part","many"]) fun _ _ _ _ _ _ us hl=>by obtain ⟨_,_,rfl⟩:=jS hl;rfl
 have Wy:=b6 (st:=top 23) Qv Qw Hi
 have B15:=Wy.binds (ps:=["change"]) fun _ _ _ _ _ _ us hl=>by obtain ⟨_,rfl⟩:=iT hl;rfl
 have Wz:=b6 (st:=top 24) Qy Qz Hj
 have B16:=Wz.binds (ps:=["change"]) fun _ _ _ _ _ _ us hl=>by obtain ⟨_,rfl⟩:=iT hl;rfl
 have WA:=b6 (st:=top 25) QB QC Hl
 have B17:=WA.binds (ps:=["one","other"]) fun _ _ _ _ _ _ us hl=>by obtain ⟨_,_,rfl⟩:=jS hl;rfl
 have WB:=b6 (st:=top 26) QE QF Ho
 have B18:=WB.binds (ps:=["change","place"]) fun _ _ _ _ _ _ us hl=>by obtain ⟨_,_,rfl⟩:=jS hl;rfl
 have WC:=b6 (st:=top 27) QH QI Hq
 have B19:=WC.binds (ps:=["change","start","end"]) fun _ _ _ _ _ _ us hl=>by obtain ⟨_,_,_,rfl⟩:=qZ hl;rfl
 have WD:=b6 (st:=top 28) QK QL Hr
 have B20:=WD.binds (ps:=["many","change","more"]) fun _ _ _ _ _ _ us hl=>by obtain ⟨_,_,_,rfl⟩:=qZ hl;rfl
 have WE:=b6 (st:=top 29) QN QO Hs
 have B21:=WE.binds (ps:=["change"]) fun _ _ _ _ _ _ us hl=>by obtain ⟨_,rfl⟩:=iT hl;rfl
 have WG:=b6 (st:=top 31) QT QU Ht
 have B22:=WG.binds (ps:=["_law_script","_law_k"]) fun _ _ _ _ _ _ us hl=>by obtain ⟨_,_,rfl⟩:=jS hl;rfl
 have WH:=b6 (st:=top 32) QW QX Hu
 have B23:=WH.binds (ps:=["_law_script","_law_k","_law_many"]) fun _ _ _ _ _ _ us hl=>by obtain ⟨_,_,_,rfl⟩:=qZ hl;rfl
 have WI:=b6 (st:=top 33) QZ Q0 Hv
 have B24:=WI.binds (ps:=["_law_script","_law_at","_law_most"]) fun _ _ _ _ _ _ us hl=>by obtain ⟨_,_,_,rfl⟩:=qZ hl;rfl
 have WJ:=b6 (st:=top 34) Q3 Q4 Hw
 have B25:=WJ.binds (ps:=["_law_script","_law_at","_law_text_here"]) fun _ _ _ _ _ _ us hl=>by obtain ⟨_,_,_,rfl⟩:=qZ hl;rfl
 have WK:=b6 (st:=top 36) Q6 Q7 Hx
 have B26:=WK.binds (ps:=["_law_change_here"]) fun _ _ _ _ _ _ us hl=>by obtain ⟨_,rfl⟩:=iT hl;rfl
 have WL:=b6 (st:=top 37) Q8 Q9 Hz
 have B27:=WL.binds (ps:=["_law_script"]) fun _ _ _ _ _ _ us hl=>by obtain ⟨_,rfl⟩:=iT hl;rfl
 let aa:Nat→Addr:=fun k=>[p0,p1,p2,p3,p4,p5,p6,p7,p8,p9,GN,GO,GP,GQ,GR,GS,GU,GV,GW,GX,GY,GZ,G0,G1,G2,G3,G4,Ci].getD k p0
 let dd:Nat→FuncData:=fun k=>[(PySem.W.fnOf "size" "size" (aK (top 1)) (aF (top 1)) (aq (top 1)) .none OA OB OC Oc G5 OD),(PySem.W.fnOf "before" "before" (aK (top 2)) (aF (top 2)) (aq (top 2)) .none VS VT VU VI OE VV),(PySem.W.fnOf "after" "after" (aK (top 3)) (aF (top 3)) (aq (top 3)) .none VW VX VY VJ OF VZ),(PySem.W.fnOf "cost" "cost" (aK (top 4)) (aF (top 4)) (aq (top 4)) .none V0 V1 V2 VL OG V3),(PySem.W.fnOf "form" "form" (aK (top 5)) (aF (top 5)) (aq (top 5)) .none V4 V5 V6 VM OH V7),(PySem.W.fnOf "stretch" "stretch" (aK (top 6)) (aF (top 6)) (aq (top 6)) .none V8 V9 Wa VN OI Wb),(PySem.W.fnOf "fits" "fits" (aK (top 13)) (aF (top 13)) (aq (top 13)) .none Wc Wd We VO OJ Wf),(PySem.W.fnOf "done" "done" (aK (top 14)) (aF (top 14)) (aq (top 14)) .none Wg Wh Wi VP OL Wj),(PySem.W.fnOf "undone" "undone" (aK (top 15)) (aF (top 15)) (aq (top 15)) .none Wk Wl Wm VQ OM Wn),(PySem.W.fnOf "nothing" "nothing" (aK (top 16)) (aF (top 16)) (aq (top 16)) .none Wo Wq Wr VR ON Ws),(PySem.W.fnOf "then" "then" (aK (top 17)) (aF (top 17)) (aq (top 17)) .none OO OP OQ Od Ex OR),(PySem.W.fnOf "all_then" "all_then" (aK (top 18)) (aF (top 18)) (aq (top 18)) .none OS OT OU Oe Ey OV),(PySem.W.fnOf "met" "met" (aK (top 19)) (aF (top 19)) (aq (top 19)) .none OW OX OY Of Ez OZ),(PySem.W.fnOf "taken" "taken" (aK (top 20)) (aF (top 20)) (aq (top 20)) .none O0 O1 O2 Og EA O3),(PySem.W.fnOf "parted" "parted" (aK (top 21)) (aF (top 21)) (aq (top 21)) .none O4 O5 O6 Oh EB O7),(PySem.W.fnOf "drops_of" "drops_of" (aK (top 23)) (aF (top 23)) (aq (top 23)) .none O8 O9 Pa Oi EC Pb),(PySem.W.fnOf "puts_of" "puts_of" (aK (top 24)) (aF (top 24)) (aq (top 24)) .none Pc Pd Pe Oj ED Pf),(PySem.W.fnOf "joined" "joined" (aK (top 25)) (aF (top 25)) (aq (top 25)) .none Pg Ph Pj Ol EE Pk),(PySem.W.fnOf "cut" "cut" (aK (top 26)) (aF (top 26)) (aq (top 26)) .none Pn Po Pp Om EF Pq),(PySem.W.fnOf "only" "only" (aK (top 27)) (aF (top 27)) (aq (top 27)) .none Pu Pw Px Oo EG Py),(PySem.W.fnOf "among" "among" (aK (top 28)) (aF (top 28)) (aq (top 28)) .none Pz PB PC Oq EH PD),(PySem.W.fnOf "singles" "singles" (aK (top 29)) (aF (top 29)) (aq (top 29)) .none PF PJ PK Ot EI PL),(PySem.W.fnOf "_law_cell" "_law_cell" (aK (top 31)) (aF (top 31)) (aq (top 31)) .none PM PN PR Ou EJ PU),(PySem.W.fnOf "_law_drawn" "_law_drawn" (aK (top 32)) (aF (top 32)) (aq (top 32)) .none PV PX PY Ov EK PZ),(PySem.W.fnOf "_law_text" "_law_text" (aK (top 33)) (aF (top 33)) (aq (top 33)) .none P0 P1 P4 Ow EL P5),(PySem.W.fnOf "_law_change" "_law_change" (aK (top 34)) (aF (top 34)) (aq (top 34)) .none P6 P7 P8 Ox EM P9),(PySem.W.fnOf "_law_is_form" "_law_is_form" (aK (top 36)) (aF (top 36)) (aq (top 36)) .none Qa Qc Qd Oz EN Qe),(PySem.W.fnOf "law" "law" (aK (top 37)) (aF (top 37)) (aq (top 37)) .none EO ER ES Ew zM ET)].getD k (PySem.W.fnOf "size" "size" (aK (top 1)) (aF (top 1)) (aq (top 1)) .none OA OB OC Oc G5 OD)
 have T:Top l.prog w K mg (tb aa dd):=by
  refine ⟨fun f i hi=>?_,?_,?_,?_⟩
  ·match f,hi with
   | 0,hi=>obtain rfl:i0 aa dd=i:=Option.some.inj hi;exact ⟨PySem.W.mg_of X G a0,k0,B0⟩
   | 1,hi=>obtain rfl:i1 aa dd=i:=Option.some.inj hi;exact ⟨PySem.W.mg_of X G a1,k1,B1⟩
   | 2,hi=>obtain rfl:i2 aa dd=i:=Option.some.inj hi;exact ⟨PySem.W.mg_of X G a2,k2,B2⟩
   | 3,hi=>obtain rfl:i3 aa dd=i:=Option.some.inj hi;exact ⟨PySem.W.mg_of X G a3,k3,B3⟩
   | 4,hi=>obtain rfl:i4 aa dd=i:=Option.some.inj hi;exact ⟨PySem.W.mg_of X G a4,k4,B4⟩
   | 5,hi=>obtain rfl:i5 aa dd=i:=Option.some.inj hi;exact ⟨PySem.W.mg_of X G a5,k5,B5⟩
   | 6,hi=>obtain rfl:i6 aa dd=i:=Option.some.inj hi;exact ⟨PySem.W.mg_of X G a6,k6,B6⟩
   | 7,hi=>obtain rfl:i7 aa dd=i:=Option.some.inj hi;exact ⟨PySem.W.mg_of X G a7,k7,B7⟩
   | 8,hi=>obtain rfl:i8 aa dd=i:=Option.some.inj hi;exact ⟨PySem.W.mg_of X G a8,k8,B8⟩
   | 9,hi=>obtain rfl:i9 aa dd=i:=Option.some.inj hi;exact ⟨PySem.W.mg_of X G a9,k9,B9⟩
   | 10,hi=>obtain rfl:Gq aa dd=i:=Option.some.inj hi;exact ⟨PySem.W.mg_of X G Qf,G6,B10⟩
   | 11,hi=>obtain rfl:Gr aa dd=i:=Option.some.inj hi;exact ⟨PySem.W.mg_of X G Qi,G7,B11⟩
   | 12,hi=>obtain rfl:i12 aa dd=i:=Option.some.inj hi;exact ⟨PySem.W.mg_of X G Ql,G8,B12⟩
   | 13,hi=>obtain rfl:Gs aa dd=i:=Option.some.inj hi;exact ⟨PySem.W.mg_of X G Qn,Hf,B13⟩
   | 14,hi=>obtain rfl:Gu aa dd=i:=Option.some.inj hi;exact ⟨PySem.W.mg_of X G Qq,Hg,B14⟩
   | 15,hi=>obtain rfl:Gv aa dd=i:=Option.some.inj hi;exact ⟨PySem.W.mg_of X G Qu,Hi,B15⟩
   | 16,hi=>obtain rfl:Gw aa dd=i:=Option.some.inj hi;exact ⟨PySem.W.mg_of X G Qx,Hj,B16⟩
   | 17,hi=>obtain rfl:Gx aa dd=i:=Option.some.inj hi;exact ⟨PySem.W.mg_of X G QA,Hl,B17⟩
   | 18,hi=>obtain rfl:Gy aa dd=i:=Option.some.inj hi;exact ⟨PySem.W.mg_of X G QD,Ho,B18⟩
   | 19,hi=>obtain rfl:Gz aa dd=i:=Option.some.inj hi;exact ⟨PySem.W.mg_of X G QG,Hq,B19⟩
   | 20,hi=>obtain rfl:GA aa dd=i:=Option.some.inj hi;exact ⟨PySem.W.mg_of X G QJ,Hr,B20⟩
   | 21,hi=>obtain rfl:GB aa dd=i:=Option.some.inj hi;exact ⟨PySem.W.mg_of X G QM,Hs,B21⟩
   | 22,hi=>obtain rfl:GC aa dd=i:=Option.some.inj hi;exact ⟨PySem.W.mg_of X G QS,Ht,B22⟩
   | 23,hi=>obtain rfl:GD aa dd=i:=Option.some.inj hi;exact ⟨PySem.W.mg_of X G QV,Hu,B23⟩
   | 24,hi=>obtain rfl:GF aa dd=i:=Option.some.inj hi;exact ⟨PySem.W.mg_of X G QY,Hv,B24⟩
   | 25,hi=>obtain rfl:GG aa dd=i:=Option.some.inj hi;exact ⟨PySem.W.mg_of X G Q2,Hw,B25⟩
   | 26,hi=>obtain rfl:GH aa dd=i:=Option.some.inj hi;exact ⟨PySem.W.mg_of X G Q5,Hx,B26⟩
   | 27,hi=>obtain rfl:Cg aa dd=i:=Option.some.inj hi;exact ⟨PySem.W.mg_of X G Hy,Hz,B27⟩
   | j+28,hi=>exact nomatch (show (none:Option FI)=some i from hi)
  ·exact (show ∀ x∈m5,mg x=none from List.forall_mem_cons.mpr ⟨PySem.W.mg_none_of X G z0,List.forall_mem_cons.mpr ⟨PySem.W.mg_none_of X G z1,List.forall_mem_cons.mpr ⟨PySem.W.mg_none_of X G z2,List.forall_mem_cons.mpr ⟨PySem.W.mg_none_of X G z3,List.forall_mem_cons.mpr ⟨PySem.W.mg_none_of X G z4,List.forall_mem_cons.mpr ⟨PySem.W.mg_none_of X G z5,List.forall_mem_cons.mpr ⟨PySem.W.mg_none_of X G z6,List.forall_mem_cons.mpr ⟨PySem.W.mg_none_of X G z7,List.forall_mem_cons.mpr ⟨PySem.W.mg_none_of X G z8,fun _ h=>nomatch h⟩⟩⟩⟩⟩⟩⟩⟩⟩)
  ·exact fun x d hx=>(show ∀ y∈(tb aa dd).cs,∃ v u,mg y.1=some u∧RelV v u∧tP y.2 v from List.forall_mem_cons.mpr ⟨⟨.str "law_pastways_k41_whole_parts",_,PySem.W.mg_of X G q0,⟨_,rfl⟩,⟨by decide +kernel,by decide⟩⟩,fun _ h=>nomatch h⟩) (x,d) hx
  ·exact fun x d hx=>(show ∀ y∈(tb aa dd).dk,∃ a,mg y.1=some (.ref a)∧∀ h:Heap,K.In h→StrTab l.prog w h a (tabOf y.2) from List.forall_mem_cons.mpr ⟨⟨HA,PySem.W.mg_of X G Ra,fun h hK=>PySem.W.kt_tab_in l.prog w hK Rb (by decide +kernel) Rc⟩,fun _ h=>nomatch h⟩) (x,d) hx
 refine ⟨PySem.W.fnOf "law" "law" (aK (top 37)) (aF (top 37)) (aq (top 37)) .none EO ER ES Ew zM ET,fun s v=>.of_eq rfl,fun base _ _=>?_⟩
 refine AS (P:=l.prog) (w:=w) (base:=base) T (fun n A0 f i hi=>?_) 60 27 (Cg aa dd) rfl
 match f,hi with
 | 0,hi=>obtain rfl:i0 aa dd=i:=Option.some.inj hi;exact cI (i:=i0 aa dd) T A0 F0 s0 rfl rfl (di.get (k:=0) rfl)
 | 1,hi=>obtain rfl:i1 aa dd=i:=Option.some.inj hi;exact cI (i:=i1 aa dd) T A0 F1 s1 rfl rfl (di.get (k:=1) rfl)
 | 2,hi=>obtain rfl:i2 aa dd=i:=Option.some.inj hi;exact cI (i:=i2 aa dd) T A0 F2 s2 rfl rfl (di.get (k:=2) rfl)
 | 3,hi=>obtain rfl:i3 aa dd=i:=Option.some.inj hi;exact cI (i:=i3 aa dd) T A0 F3 s3 rfl rfl (di.get (k:=3) rfl)
 | 4,hi=>obtain rfl:i4 aa dd=i:=Option.some.inj hi;exact cI (i:=i4 aa dd) T A0 F4 s4 rfl rfl (di.get (k:=4) rfl)
 | 5,hi=>obtain rfl:i5 aa dd=i:=Option.some.inj hi;exact cI (i:=i5 aa dd) T A0 F5 s5 rfl rfl (di.get (k:=5) rfl)
 | 6,hi=>obtain rfl:i6 aa dd=i:=Option.some.inj hi;exact cI (i:=i6 aa dd) T A0 F6 s6 rfl rfl (di.get (k:=6) rfl)
 | 7,hi=>obtain rfl:i7 aa dd=i:=Option.some.inj hi;exact cI (i:=i7 aa dd) T A0 F7 s7 rfl rfl (di.get (k:=7) rfl)
 | 8,hi=>obtain rfl:i8 aa dd=i:=Option.some.inj hi;exact cI (i:=i8 aa dd) T A0 F8 s8 rfl rfl (di.get (k:=8) rfl)
 | 9,hi=>obtain rfl:i9 aa dd=i:=Option.some.inj hi;exact cI (i:=i9 aa dd) T A0 F9 s9 rfl rfl (di.get (k:=9) rfl)
 | 10,hi=>obtain rfl:Gq aa dd=i:=Option.some.inj hi;exact cI (i:=Gq aa dd) T A0 Wt AD rfl rfl (di.get (k:=10) rfl)
 | 11,hi=>obtain rfl:Gr aa dd=i:=Option.some.inj hi;exact cI (i:=Gr aa dd) T A0 Wu Fe rfl rfl (di.get (k:=11) rfl)
 | 12,hi=>obtain rfl:i12 aa dd=i:=Option.some.inj hi;exact cI (i:=i12 aa dd) T A0 Wv s12 rfl rfl (di.get (k:=12) rfl)
 | 13,hi=>obtain rfl:Gs aa dd=i:=Option.some.inj hi;exact cI (i:=Gs aa dd) T A0 Ww s13 rfl rfl (di.get (k:=13) rfl)
 | 14,hi=>obtain rfl:Gu aa dd=i:=Option.some.inj hi;exact cI (i:=Gu aa dd) T A0 Wx s14 rfl rfl (di.get (k:=14) rfl)
 | 15,hi=>obtain rfl:Gv aa dd=i:=Option.some.inj hi;exact cI (i:=Gv aa dd) T A0 Wy GI rfl rfl (di.get (k:=15) rfl)
 | 16,hi=>obtain rfl:Gw aa dd=i:=Option.some.inj hi;exact cI (i:=Gw aa dd) T A0 Wz s16 rfl rfl (di.get (k:=16) rfl)
 | 17,hi=>obtain rfl:Gx aa dd=i:=Option.some.inj hi;exact cI (i:=Gx aa dd) T A0 WA s17 rfl rfl (di.get (k:=17) rfl)
 | 18,hi=>obtain rfl:Gy aa dd=i:=Option.some.inj hi;exact cI (i:=Gy aa dd) T A0 WB s18 rfl rfl (di.get (k:=18) rfl)
 | 19,hi=>obtain rfl:Gz aa dd=i:=Option.some.inj hi;exact cI (i:=Gz aa dd) T A0 WC GJ rfl rfl (di.get (k:=19) rfl)
 | 20,hi=>obtain rfl:GA aa dd=i:=Option.some.inj hi;exact cI (i:=GA aa dd) T A0 WD s20 rfl rfl (di.get (k:=20) rfl)
 | 21,hi=>obtain rfl:GB aa dd=i:=Option.some.inj hi;exact cI (i:=GB aa dd) T A0 WE GK rfl rfl (di.get (k:=21) rfl)
 | 22,hi=>obtain rfl:GC aa dd=i:=Option.some.inj hi;exact cI (i:=GC aa dd) T A0 WG GL rfl rfl (di.get (k:=22) rfl)
 | 23,hi=>obtain rfl:GD aa dd=i:=Option.some.inj hi;exact cI (i:=GD aa dd) T A0 WH s23 rfl rfl (di.get (k:=23) rfl)
 | 24,hi=>obtain rfl:GF aa dd=i:=Option.some.inj hi;exact cI (i:=GF aa dd) T A0 WI s24 rfl rfl (di.get (k:=24) rfl)
 | 25,hi=>obtain rfl:GG aa dd=i:=Option.some.inj hi;exact cI (i:=GG aa dd) T A0 WJ s25 rfl rfl (di.get (k:=25) rfl)
 | 26,hi=>obtain rfl:GH aa dd=i:=Option.some.inj hi;exact cI (i:=GH aa dd) T A0 WK s26 rfl rfl (di.get (k:=26) rfl)
 | 27,hi=>obtain rfl:Cg aa dd=i:=Option.some.inj hi;exact cI (i:=Cg aa dd) T A0 WL s27 rfl rfl (di.get (k:=27) rfl)
 | j+28,hi=>exact nomatch (show (none:Option FI)=some i from hi)
end Lw
namespace Lg
open Pv
open Lw (prog Gp Gh Gi Gj Gk Gm Gn zI zJ zK zL vn vp vq vt vv vz vA vC vD vE vG vH vI)
open Ev (deep big rep cut b5)
theorem HB (ns:List Int) (k:Int) (x:List Nat) (b:Nat) (h:x.length≤b):(chg ns k x).length≤2*b+2∧tot (chg ns k x)≤3*b+3:=by
 have h1:=mL ns k x (x.length+1)
 have h2:=sd ns k x (x.length+1)
 simp only [chg];omega
theorem Cj (c:List Pt):(ez c).length≤tot c∧tot (ez c)=tot c:=by
 have h1:tot (ez c)=tot c:=by simp only [ez];rw [bQ,BB]
 exact ⟨by have:=cC (cQ (cj (sw c)));simp only [ez] at h1 ⊢;omega,h1⟩
theorem nS (s:List Nat):Pv.cop .ne (.str s) (.str s)=some false:=by rw [gO];simp
theorem nI (s:Int):Pv.cop .ne (.int s) (.int s)=some false:=by rw [zk];simp
theorem nC (s:List Pt):Pv.cop .ne (aC s) (aC s)=some false:=by rw [uw,Bj];simp
theorem Rf (a b:Nat):Pv.bJ .add (.int (a:Int)) (.int (b:Int))=some (.int ((a+b:Nat):Int)):=by rw [dN];congr 2
theorem drawn {ns:List Int}(k:Int) (m:Nat):∃ p:Nat,cT ns k ((m:Int)+1)=(p:Int)∧p≤m:=by
 have h1:=jK ns k (many:=(m:Int)+1) (by omega)
 have h2:=jL ns k (many:=(m:Int)+1) (by omega)
 exact ⟨(cT ns k ((m:Int)+1)).toNat,by omega,by omega⟩
theorem q8 {c o:List Pt}{t u:List Nat}(h:aP c t=true) (h2:aP o u=true):aP (ao (c++o)) (t++u)=true∧aL (ao (c++o)) (t++u)=aL c t++aL o u:=by
 have hb:(aA (az c)).length=t.length:=by rw [←gH,gu h]
 refine ⟨?_,?_⟩
 ·rw [eS,dm,dP]
  rw [dm] at h h2
  exact oJ h h2
 ·rw [dh,dB,fj,mY,hb,←dB,←dB];simp
theorem EU (c o:List Pt):ez (ao (c++o))=ao (ez c++ez o):=by
 rw [Bv]
 show ao (sw (c++o))=_
 rw [show sw (c++o)=sw c++sw o by simp [sw]]
 exact oN (cY _).symm (cY _).symm
theorem vK (u:List Nat):aP [.keep u.length] u=true∧aL [.keep u.length] u=u:=by simp [aP,aL]
theorem zN {A:List Pt}{t:List Nat}{p e:Nat}(hp:p≤e) (he:e≤t.length) (h:aP A ((t.drop p).take (e - p))=true):aP (eL p A (t.length - e)) t=true∧aL (eL p A (t.length - e)) t=t.take p++aL A ((t.drop p).take (e - p))++t.drop e:=by
 have e1:t=(t.take p++(t.drop p).take (e - p))++t.drop e:=by
  have:t.drop e=(t.drop p).drop (e - p):=by rw [List.drop_drop];congr 1;omega
  rw [this,List.append_assoc,List.take_append_drop,List.take_append_drop]
 have k1:=vK (t.take p)
 rw [show (t.take p).length=p by simp;omega] at k1
 have k2:=vK (t.drop e)
 rw [show (t.drop e).length=t.length - e by simp] at k2
 have a1:=q8 k1.1 h
 rw [eS,dh,k1.2] at a1
 have a2:=q8 a1.1 k2.1
 rw [a1.2,k2.2,←e1] at a2
 exact a2
theorem yg:∀ {a a' b b':List At},a++b=a'++b'→(aA a).length=(aA a').length→kL b=true→kL b'=true→a=a'∧b=b'
 | [],[],_,_,h,_,_,_=>⟨rfl,h⟩
 | [],x :: a',b,b',h,hl,hb,_=>by
  cases x with
  | k=>simp [aA] at hl
  | d c=>simp [aA] at hl
  | p c=>rw [List.nil_append,List.cons_append] at h;rw [h] at hb;simp [kL] at hb
 | x :: a,[],b,b',h,hl,_,hb=>by
  cases x with
  | k=>simp [aA] at hl
  | d c=>simp [aA] at hl
  | p c=>rw [List.nil_append,List.cons_append] at h;rw [←h] at hb;simp [kL] at hb
 | x :: a,y :: a',b,b',h,hl,hb,hb'=>by
  simp only [List.cons_append,List.cons.injEq] at h
  obtain ⟨rfl,h⟩:=h
  have hl':(aA a).length=(aA a').length:=by cases x <;> simpa [aA] using hl
  obtain ⟨e1,e2⟩:=yg h hl' hb hb'
  exact ⟨by rw [e1],e2⟩
theorem vL {c c' A B A' B':List Pt}{p:Nat}(hc:ao c=ao c') (h:Cut c p A B) (h':Cut c' p A' B'):az A=az A'∧az B=az B':=
 yg (by rw [h.at_,h'.at_,hc]) (by rw [←gH,←gH,h.bA,h'.bA]) h.hd h'.hd
theorem yh (M:Nat):∀ (l:List (List Pt)),(∀ c∈l,tot c≤M)→fL l≤l.length*M
 | [],_=>by simp [fL]
 | c :: l,h=>by
  have h1:=yh M l fun d hd=>h d (.tail _ hd)
  have h2:=h c (.head _)
  simp only [fL,List.map_cons,List.sum_cons,List.length_cons] at h1 ⊢
  rw [Nat.succ_mul];omega
theorem zO (p m:Nat) (h:p≤m):eL p [] (m - p)=ao [.keep m]:=by
 unfold eL
 refine lD ?_
 simp [az,Pt.az,List.replicate_append_replicate]
 congr 1;omega
theorem Zq (c:List Pt):tot (bH c)≤tot c∧(bH c).length≤tot (bH c):=⟨by unfold bH;rw [bQ];exact iJ _ _,cC (cQ (cj _))⟩
theorem Zr (c:List Pt):tot (cK c)≤tot c∧(cK c).length≤tot (cK c):=⟨by unfold cK;rw [bQ];exact Nat.le_trans (iJ _ _) (by rw [bQ];exact Nat.le_refl _),cC (cQ (cj _))⟩
section
variable {w n:Nat}{ns:List Int}(hn:ns.length≤63)(hw:5000<w)
noncomputable def G9 (w n:Nat) (ss:Ev.Ss) (fr:Fr):Prop:=Wp (exs (run prog w (n+8)) w ss fr) fun g fr=>g=.ret (.bl true)∧outs 1 fr=[]
noncomputable def GL:Ev.Ss:=.cons vI .nil
noncomputable def GK:Ev.Ss:=.cons vH GL
noncomputable def GJ:Ev.Ss:=.cons vE (.cons vG GK)
noncomputable def GI:Ev.Ss:=.cons vz (.cons vA (.cons vC (.cons vD GJ)))
noncomputable def AD:Ev.Ss:=.cons vn (.cons vp (.cons vq (.cons vt (.cons vv GI))))
noncomputable def s6:Ev.Ss:=.cons zI (.cons zJ (.cons zK (.cons zL AD)))
theorem j5 {c:List Pt}{t:List Nat}(h:aP c t=true) (b1:tot c≤900) (b2:t.length≤900) (b3:c.length≤900) (fr:Fr):dW (run prog w (n+8)) 7 [.inr (aC c),.inr (.str t)] fr=.ok (.str (aL c t)) fr:=
 call2 (D7 (F:=prog) (aJ:=0) (uS:=6) (i:=7) (w:=w) (n:=n+5) rfl rfl rfl c t (by omega) (by omega) (by omega) h)
theorem gp {c:List Pt}(b1:tot c≤900) (b3:c.length≤900) (fr:Fr):dW (run prog w (n+8)) 3 [.inr (aC c)] fr=.ok (.int (cst c)) fr:=
 bV (DJ (F:=prog) (aJ:=0) (i:=3) (w:=w) (n:=n+6) rfl rfl c (by omega) (by omega))
theorem oR {a b:List Pt}(h1:a.length+b.length≤900) (h2:tot a+tot b≤900) (fr:Fr):dW (run prog w (n+8)) 17 [.inr (aC a),.inr (aC b)] fr=.ok (aC (ao (a++b))) fr:=
 call2 (lH (F:=prog) (aM:=5) (aV:=4) (i:=17) (w:=w) (n:=n+5) rfl rfl rfl a b (by omega) (by omega))
include hw
theorem yi {c:List Pt}{p:Nat}(b1:tot c≤900) (b3:c.length≤900) (h:p≤aE c):∃ A B,Cut c p A B∧∀ fr:Fr,dW (run prog w (n+8)) 18 [.inr (aC c),.inr (.int p)] fr=.ok (.tup [aC A,aC B]) fr:=by
 obtain ⟨A,B,r,C⟩:=qV (F:=prog) (aM:=5) (aV:=4) (aJ:=0) (bY:=14) (aZ:=13) (bD:=1) (i:=18) (w:=w) (n:=n+5) rfl rfl rfl rfl rfl rfl rfl hw c p (by omega) (by omega) h
 exact ⟨A,B,C,fun fr=>call2 r⟩
theorem vM {c:List Pt}{s e:Nat}(b1:tot c≤900) (b3:c.length≤900) (he:e≤aE c) (hse:s≤e):∃ A B A2 B2,Cut c s A B∧Cut B (e - s) A2 B2∧∀ fr:Fr,dW (run prog w (n+8)) 19 [.inr (aC c),.inr (.int s),.inr (.int e)] fr=.ok (aC (eL s A2 (aE c - e))) fr:=by
 obtain ⟨A,B,A2,B2,C1,C2,r⟩:=Eu (F:=prog) (aM:=5) (aV:=4) (aJ:=0) (bY:=14) (aZ:=13) (bD:=1) (zH:=18) (gm:=17) (cg:=9) (ir:=20) (i:=19) (w:=w) (n:=n+3) rfl rfl rfl rfl rfl rfl rfl rfl rfl rfl rfl hw c s e b3 b1 he hse
 exact ⟨A,B,A2,B2,C1,C2,fun fr=>eE r⟩
omit hw in
theorem qf {c:List Pt}(b1:tot c≤900) (b3:c.length≤900) (fr:Fr):dW (run prog w (n+8)) 21 [.inr (aC c)] fr=.ok (.lst ((b9 (az (ao c)) 0 (aE c)).map aC)) fr:=
 bV (wD (F:=prog) (aM:=5) (aV:=4) (aJ:=0) (bD:=1) (gm:=17) (cg:=9) (ir:=20) (i:=21) (w:=w) (n:=n+3) rfl rfl rfl rfl rfl rfl rfl rfl c b3 b1)
omit hw in
theorem oS (m:Nat) (h:m≤900) (fr:Fr):dW (run prog w (n+8)) 9 [.inr (.int m)] fr=.ok (aC (ao [.keep m])) fr:=
 bV (ja (F:=prog) (aM:=5) (aV:=4) (i:=9) (w:=w) (n:=n+5) rfl rfl rfl m (by omega))
noncomputable def vF (l:List V) (k:Nat):Fr:=l.map (fun v=>some (.val v))++List.replicate k none
noncomputable def HC (t:List Nat) (c:List Pt):V:=.lst ((b9 (az (ao c)) 0 t.length).map aC)
theorem Uu {t:List Nat}{c:List Pt}(hc:aP c t=true) (ht:t.length≤5) (tc:tot c≤18) (v4 v5 v6 v7 v8 v9 v10 v11 vN vO:V):G9 w n GL (vF [g6 ns,.str t,aC c,aC (ao c),v4,v5,v6,v7,v8,v9,v10,v11,vN,vO,HC t c] 1):=by
 obtain ⟨k1,k2⟩:=qd (az (ao c)) [] t (by rw [←bX,dg,←dm];exact hc)
 have la:(az (ao c)).length≤18:=by rw [dz,bQ];exact tc
 have lr:(b9 (az (ao c)) 0 t.length).length≤18:=by
  rw [jC,←g8,gi]
  have:=iJ (fun p=>!dU p) c
  unfold cst;omega
 have mb:∀ r∈b9 (az (ao c)) 0 t.length,tot r≤24∧r.length≤24:=fun r hr=>by
  obtain ⟨_,_,h3,h4⟩:=kM _ _ _ r hr
  omega
 have tb:=yh 24 _ fun r hr=>(mb r hr).1
 have tb2:(b9 (az (ao c)) 0 t.length).length*24≤18*24:=Nat.mul_le_mul_right _ lr
 obtain ⟨W,rW,AW⟩:=vc (F:=prog) (aJ:=0) (bY:=14) (aZ:=13) (dj:=12) (aM:=5) (aV:=4) (bD:=1) (ee:=2) (iI:=10) (cg:=9) (i:=11) (w:=w) (n:=n+4) rfl rfl rfl rfl rfl rfl rfl rfl rfl rfl hw rfl t (b9 (az (ao c)) 0 t.length) k1 (by omega) fun r hr=>by have:=mb r hr;omega
 have qW:=N2 hc AW
 rw [qW] at rW
 have RW:=fun fr=>call2 (fr:=fr) rW
 have ln:dJ .len [.str t]=some (.int (t.length:Nat)):=len_str (by omega)
 have eC:Pv.cop .eq (aC (ao c)) (aC (ao c))=some true:=by rw [MY,Bj];simp
 exact ai (bP (bO (aT (aI rfl (jk (bT (aB rfl) cG) ln) (aI rfl (aB rfl) aG)) (RW _)) (aB rfl) eC) ⟨rfl,rfl⟩)
theorem Uv {t:List Nat}{c:List Pt}(hc:aP c t=true) (ht:t.length≤5) (tc:tot c≤18) (lc:c.length≤12) {p:Nat}(hp:p≤t.length) (v4 v6 v7 v8 v9 v10 v11 vN vO:V):G9 w n GK (vF [g6 ns,.str t,aC c,aC (ao c),v4,.int p,v6,v7,v8,v9,v10,v11,vN,vO,HC t c] 1):=by
 have bc:=gu hc
 obtain ⟨A,B,A2,B2,C1,C2,r⟩:=vM (n:=n) hw (c:=c) (s:=p) (e:=p) (by omega) (by omega) (by omega) (Nat.le_refl _)
 rw [Nat.sub_self] at C2
 rw [XS C1.hd C2,←bc,zO p t.length hp] at r
 have ln:dJ .len [.str t]=some (.int (t.length:Nat)):=len_str (by omega)
 have f3:ao [Pt.keep 3]=[Pt.keep 3]:=rfl
 have r3:=fun fr=>oS (w:=w) (n:=n) 3 (by decide) fr
 have s3:=fun fr=>qf (w:=w) (n:=n) (c:=ao [.keep 3]) (by decide) (by decide) fr
 have e3:(b9 (az (ao (ao [Pt.keep 3]))) 0 (aE (ao [Pt.keep 3]))).map aC=[]:=rfl
 rw [e3] at s3
 have eN:Pv.cop .ne (.lst []) (.lst [])=some false:=rfl
 have h0:=oS (w:=w) (n:=n) t.length (by omega)
 exact ai (aQ (b:=false) (er (aH rfl (bO (aT (aI rfl (aB rfl) (aI rfl (aB rfl) (aI rfl (aB rfl) aG))) (r _)) (aT (aI rfl (jk (bT (aB rfl) cG) ln) aG) (h0 _)) (nC _)) rfl) (aH rfl (bO (aT (aI rfl (aT (aI rfl (bW rfl) aG) (r3 _)) aG) (s3 _)) (pO cG kY) eN) rfl)) (fun h=>absurd h (by decide)) fun _=>aD (Uu hw hc ht tc v4 (.int p) v6 v7 v8 v9 v10 v11 vN vO))
theorem Uw {t:List Nat}{c:List Pt}(hc:aP c t=true) (ht:t.length≤5) (tc:tot c≤18) (lc:c.length≤12) {p:Nat}(hp:p≤t.length) (v4 v6 v7 v8 v9 v10 v11 vN vO:V):G9 w n GJ (vF [g6 ns,.str t,aC c,aC (ao c),v4,.int p,v6,v7,v8,v9,v10,v11,vN,vO] 2):=by
 have bc:=gu hc
 have r1:=fun fr=>qf (w:=w) (n:=n) (c:=c) (by omega) (by omega) fr
 rw [←bc] at r1
 have la:(az (ao c)).length≤18:=by rw [dz,bQ];exact tc
 have ln:dJ .len [.lst ((b9 (az (ao c)) 0 t.length).map aC)]=some (.int (cst c:Nat)):=by rw [Ji,List.length_map,jC,←g8,gi]
 have k1:=gp (w:=w) (n:=n) (c:=c) (by omega) (by omega)
 have eN:Pv.cop .ne (.lst []) (.lst [])=some false:=rfl
 refine ai (aY (aT (aI rfl (aB rfl) aG) (r1 _)) rfl rfl ?_)
 refine ai (aQ (b:=false) (er (aH rfl (bO (jk (bT (aB rfl) cG) ln) (aT (aI rfl (aB rfl) aG) (k1 _)) (nI _)) rfl) (aH rfl (bO (jd (l:=[]) (eK (eZ rfl) rfl) rfl ((gf aC (fun _=>false) aC (b9 (az (ao c)) 0 t.length) fun r hr=>?_).trans (by simp)) kY) (pO cG kY) eN) rfl)) (fun h=>absurd h (by decide)) fun _=>aD (Uv hw hc ht tc lc hp v4 v6 v7 v8 v9 v10 v11 vN vO))
 obtain ⟨h1,h2,h3,h4⟩:=kM _ _ _ r hr
 have k2:=gp (w:=w) (n:=n) (c:=r) (by omega) (by omega)
 rw [h2] at k2
 have k3:=fun fr=>bV (fr:=fr) (ve (F:=prog) (i:=26) (w:=w) (n:=n+7) rfl r (by omega) h1)
 exact kG (b:=false) (v:=.bB) (cL:=[]) rfl (er (aH rfl (bO (aT (aI rfl (aB rfl) aG) (k2 _)) (bW rfl) (nI _)) rfl) (zj (b:=true) (aH rfl (aT (aI rfl (aB rfl) aG) (k3 _)) rfl))) fun h=>absurd h (by decide)
omit hw in
theorem Rg (t:List Nat) (p:Nat):gw (.str t) none (some (p:Int))=some (.str (t.take p)):=by rw [gr,zz]
omit hw in
theorem Rh (t:List Nat) (p:Nat):gw (.str t) (some (p:Int)) none=some (.str (t.drop p)):=by rw [gr,zA]
omit hw in
theorem Zs (t:List Nat) (p k:Nat):gw (.str t) (some (p:Int)) (some ((p+k:Nat):Int))=some (.str ((t.drop p).take k)):=by
 rw [gr];exact congrArg (fun z=>some (V.str z)) (uQ t p k)
include hn in
theorem Ux {t:List Nat}{c A B:List Pt}(hc:aP c t=true) (ht:t.length≤5) (tc:tot c≤18) (lc:c.length≤12) {p:Nat}(hp:p≤t.length) (C:Cut c p A B) (v4 v8 v9 v10:V):G9 w n GI (vF [g6 ns,.str t,aC c,aC (ao c),v4,.int p,aC A,aC B,v8,v9,v10] 5):=by
 have bc:=gu hc
 have b1:=C.fL
 have b2:=C.lB
 have b3:=C.NY
 obtain ⟨k,ek,hk⟩:=drawn (ns:=ns) 61 (t.length - p)
 have c1:=fun fr=>eE (fr:=fr) (fC (F:=prog) (c:=22) (dr:=23) (w:=w) (n:=n+6) rfl rfl hn 61 (many:=((t.length - p:Nat):Int)+1) (by omega))
 rw [ek] at c1
 have ln:dJ .len [.str t]=some (.int (t.length:Nat)):=len_str (by omega)
 have sb:Pv.bJ .sub (.int (t.length:Int)) (.int (p:Int))=some (.int ((t.length - p:Nat):Int)):=by rw [gc];congr 2;omega
 have sb2:Pv.bJ .sub (.int ((p+k:Nat):Int)) (.int (p:Int))=some (.int (k:Int)):=by rw [gc];congr 2;omega
 obtain ⟨A',B',A2,B2,C1,C2,r⟩:=vM (n:=n) hw (c:=c) (s:=p) (e:=p+k) (by omega) (by omega) (by omega) (by omega)
 rw [Nat.add_sub_cancel_left] at C2
 rw [←bc] at r
 obtain ⟨uA,uB⟩:=vL rfl C C1
 have fB:=(C1.fit hc).2
 have f2:=(C2.fit fB).1
 have e1:p+k - p=k:=by omega
 obtain ⟨o1,o2⟩:=zN (A:=A2) (t:=t) (p:=p) (e:=p+k) (by omega) (by omega) (by rw [e1];exact f2)
 rw [e1] at o2
 have d1:=C1.fL
 have d2:=C2.fL
 have t2:tot (eL p A2 (t.length - (p+k)))≤900:=by unfold eL;rw [bQ,dc,dc];simp [tot,Pt.n] at d1 d2 tc ⊢;omega
 have l2:(eL p A2 (t.length - (p+k))).length≤900:=by have:=cC (cQ (cj ([.keep p]++A2++[.keep (t.length - (p+k))])));unfold eL at t2 ⊢;omega
 have D1:=j5 (w:=w) (n:=n) o1 t2 (by omega) l2
 rw [o2] at D1
 obtain ⟨A3,B3,C3,r3⟩:=yi (n:=n) hw (c:=B) (p:=k) (by omega) (by omega) (by omega)
 have u3:=(vL (lD uB) C3 C2).1
 have f3:aP A3 ((t.drop p).take k)=true:=(C3.fit (C.fit hc).2).1
 have d3:=C3.fL
 have l3:=C3.lA
 have D3:=j5 (w:=w) (n:=n) f3 (by omega) (by simp;omega) (by omega)
 rw [show aL A3 ((t.drop p).take k)=aL A2 ((t.drop p).take k) by rw [dB,dB,u3]] at D3
 have dl:=jP A2 ((t.drop p).take k)
 have dl2:((t.drop p).take k).length≤5:=by simp;omega
 have a1:Pv.bJ .add (.str (t.take p)) (.str (aL A2 ((t.drop p).take k)))=some (.str (t.take p++aL A2 ((t.drop p).take k))):=gQ (by simp;omega)
 have a2:Pv.bJ .add (.str (t.take p++aL A2 ((t.drop p).take k))) (.str (t.drop (p+k)))=some (.str (t.take p++aL A2 ((t.drop p).take k)++t.drop (p+k))):=gQ (by simp;omega)
 refine ai (aY (bI (aB rfl) (aT (aI rfl (aB rfl) (aI rfl (bW rfl) (aI rfl (bI (bI (jk (bT (aB rfl) cG) ln) (aB rfl) sb) (bW rfl) dN) aG))) (c1 _)) (Rf p k)) rfl rfl ?_)
 refine ai (aY (aT (aI rfl (aB rfl) (aI rfl (aB rfl) (aI rfl (aB rfl) aG))) (r _)) rfl rfl ?_)
 refine ai (aY (aT (aI rfl (aB rfl) (aI rfl (aB rfl) aG)) (D1 _)) rfl rfl ?_)
 refine ai (aQ (b:=false) (aH rfl (bO (aB rfl) (bI (bI (oE (aB rfl) nc (je (aB rfl)) (Rg t p)) (aT (aI rfl (gA (aT (aI rfl (aB rfl) (aI rfl (bI (aB rfl) (aB rfl) sb2) aG)) (r3 _)) (bW rfl) rfl) (aI rfl (oE (aB rfl) (je (aB rfl)) (je (aB rfl)) (Zs t p k)) aG)) (D3 _)) a1) (oE (aB rfl) (je (aB rfl)) nc (Rh t (p+k))) a2) (nS _)) rfl) (fun h=>absurd h (by decide)) fun _=>aD ?_)
 exact Uw hw hc ht tc lc hp v4 (aC A) (aC B) v8 v9 v10 (.int ((p+k:Nat):Int)) _ _
include hn in
theorem Uy {t:List Nat}{c A B:List Pt}(hc:aP c t=true) (ht:t.length≤5) (tc:tot c≤18) (lc:c.length≤12) {p:Nat}(hp:p≤t.length) (C:Cut c p A B) (v4:V):G9 w n AD (vF [g6 ns,.str t,aC c,aC (ao c),v4,.int p,aC A,aC B] 8):=by
 have hu:(txt ns 70 4).length≤4:=xW ns 70 (most:=4) (by decide)
 have c1:=fun fr=>eE (fr:=fr) (uH (F:=prog) (c:=22) (dr:=23) (t:=24) (w:=w) (n:=n+5) rfl rfl hn rfl 70 4 (by decide) (by decide))
 have c2:=fun fr=>eE (fr:=fr) (pR (F:=prog) (c:=22) (dr:=23) (t:=25) (w:=w) (n:=n+5) rfl rfl hn rfl 80 (txt ns 70 4) (by omega))
 have ho:=x6 ns 80 (txt ns 70 4)
 obtain ⟨lo,to⟩:=HB ns 80 (txt ns 70 4) 4 hu
 generalize txt ns 70 4=u at hu c1 c2 ho lo to
 generalize chg ns 80 u=o at c2 ho lo to
 have j1:=oR (w:=w) (n:=n) (a:=c) (b:=o) (by omega) (by omega)
 obtain ⟨f1,f2⟩:=q8 hc ho
 have ts:tot (ao (c++o))≤900:=by rw [bQ,dc];omega
 have ls:(ao (c++o)).length≤900:=Nat.le_trans (cC (cQ (cj _))) ts
 have D1:=j5 (w:=w) (n:=n) f1 ts (by simp;omega) ls
 rw [f2] at D1
 have D2:=j5 (w:=w) (n:=n) hc (by omega) (by omega) (by omega)
 have D3:=j5 (w:=w) (n:=n) ho (by omega) (by omega) (by omega)
 have dl1:=jP c t
 have dl2:=jP o u
 have a1:Pv.bJ .add (.str t) (.str u)=some (.str (t++u)):=gQ (by omega)
 have a2:Pv.bJ .add (.str (aL c t)) (.str (aL o u))=some (.str (aL c t++aL o u)):=gQ (by omega)
 have U:=fun (x:List Pt) (b1:x.length≤900) (b2:tot x≤900) fr=>bV (fr:=fr) (zv (F:=prog) (aM:=5) (aV:=4) (i:=8) (w:=w) (n:=n+5) rfl rfl rfl x (by omega) (by omega))
 have u1:=U (ao (c++o)) ls ts
 rw [EU] at u1
 have u2:=U c (by omega) (by omega)
 have u3:=U o (by omega) (by omega)
 have b1:=Cj c
 have b2:=Cj o
 have j2:=oR (w:=w) (n:=n) (a:=ez c) (b:=ez o) (by omega) (by omega)
 refine ai (aY (aT (aI rfl (aB rfl) (aI rfl (bW rfl) (aI rfl (bW rfl) aG))) (c1 _)) rfl rfl ?_)
 refine ai (aY (aT (aI rfl (aB rfl) (aI rfl (bW rfl) (aI rfl (aB rfl) aG))) (c2 _)) rfl rfl ?_)
 refine ai (aY (aT (aI rfl (aB rfl) (aI rfl (aB rfl) aG)) (j1 _)) rfl rfl ?_)
 refine ai (aQ (b:=false) (aH rfl (bO (aT (aI rfl (aB rfl) (aI rfl (bI (aB rfl) (aB rfl) a1) aG)) (D1 _)) (bI (aT (aI rfl (aB rfl) (aI rfl (aB rfl) aG)) (D2 _)) (aT (aI rfl (aB rfl) (aI rfl (aB rfl) aG)) (D3 _)) a2) (nS _)) rfl) (fun h=>absurd h (by decide)) fun _=>aD ?_)
 refine ai (aQ (b:=false) (aH rfl (bO (aT (aI rfl (aB rfl) aG) (u1 _)) (aT (aI rfl (aT (aI rfl (aB rfl) aG) (u2 _)) (aI rfl (aT (aI rfl (aB rfl) aG) (u3 _)) aG)) (j2 _)) (nC _)) rfl) (fun h=>absurd h (by decide)) fun _=>aD ?_)
 exact Ux hn hw hc ht tc lc hp C v4 _ _ _
include hn in
theorem Zt {t:List Nat}{c:List Pt}(hc:aP c t=true) (ht:t.length≤5) (tc:tot c≤18) (lc:c.length≤12) (v4:V):G9 w n s6 (vF [g6 ns,.str t,aC c,aC (ao c),v4] 11):=by
 have bc:=gu hc
 obtain ⟨p,ep,hp⟩:=drawn (ns:=ns) 60 t.length
 have c1:=fun fr=>eE (fr:=fr) (fC (F:=prog) (c:=22) (dr:=23) (w:=w) (n:=n+6) rfl rfl hn 60 (many:=(t.length:Int)+1) (by omega))
 rw [ep] at c1
 have ln:dJ .len [.str t]=some (.int (t.length:Nat)):=len_str (by omega)
 obtain ⟨A,B,C,r⟩:=yi (n:=n) hw (c:=c) (p:=p) (by omega) (by omega) (by omega)
 have b1:=C.fL
 have b2:=C.lA
 have b3:=C.lB
 have j1:=oR (w:=w) (n:=n) (a:=A) (b:=B) (by omega) (by omega)
 rw [C.join] at j1
 have k1:=fun fr=>bV (fr:=fr) (iE (F:=prog) (aJ:=0) (i:=1) (w:=w) (n:=n+6) rfl rfl A (by omega) (by omega))
 rw [C.bA] at k1
 have s1:=gp (w:=w) (n:=n) (c:=A) (by omega) (by omega)
 have s2:=gp (w:=w) (n:=n) (c:=B) (by omega) (by omega)
 have s3:=gp (w:=w) (n:=n) (c:=c) (by omega) (by omega)
 have ad:=Rf (cst A) (cst B)
 rw [C.cost] at ad
 obtain ⟨fA,fB⟩:=C.fit hc
 have D1:=j5 (w:=w) (n:=n) fA (by omega) (by simp;omega) (by omega)
 have D2:=j5 (w:=w) (n:=n) fB (by omega) (by simp;omega) (by omega)
 have D3:=j5 (w:=w) (n:=n) hc (by omega) (by omega) (by omega)
 have e1:aL A (t.take p)++aL B (t.drop p)=aL c t:=C.done
 have dl:=jP c t
 have a1:Pv.bJ .add (.str (aL A (t.take p))) (.str (aL B (t.drop p)))=some (.str (aL c t)):=by
  rw [←e1];exact gQ (by rw [←List.length_append,e1];omega)
 refine ai (aY (aT (aI rfl (aB rfl) (aI rfl (bW rfl) (aI rfl (bI (jk (bT (aB rfl) cG) ln) (bW rfl) dN) aG))) (c1 _)) rfl rfl ?_)
 refine ai (ND (aT (aI rfl (aB rfl) (aI rfl (aB rfl) aG)) (r _)) rfl ?_)
 refine ai (aQ (b:=false) (er (aH rfl (bO (aT (aI rfl (aB rfl) (aI rfl (aB rfl) aG)) (j1 _)) (aB rfl) (nC _)) rfl) (er (aH rfl (bO (aT (aI rfl (aB rfl) aG) (k1 _)) (aB rfl) (nI _)) rfl) (aH rfl (bO (bI (aT (aI rfl (aB rfl) aG) (s1 _)) (aT (aI rfl (aB rfl) aG) (s2 _)) ad) (aT (aI rfl (aB rfl) aG) (s3 _)) (nI _)) rfl))) (fun h=>absurd h (by decide)) fun _=>aD ?_)
 refine ai (aQ (b:=false) (aH rfl (bO (bI (aT (aI rfl (aB rfl) (aI rfl (oE (aB rfl) nc (je (aB rfl)) (Rg t p)) aG)) (D1 _)) (aT (aI rfl (aB rfl) (aI rfl (oE (aB rfl) (je (aB rfl)) nc (Rh t p)) aG)) (D2 _)) a1) (aT (aI rfl (aB rfl) (aI rfl (aB rfl) aG)) (D3 _)) (nS _)) rfl) (fun h=>absurd h (by decide)) fun _=>aD ?_)
 exact Uy hn hw hc ht tc lc hp C v4
include hn in
theorem Ri:run prog w (n+9) 27 [.val (g6 ns)]=some (.bl true,[]):=by
 have ht:(txt ns 0 5).length≤5:=xW ns 0 (most:=5) (by decide)
 have c1:=fun fr=>eE (fr:=fr) (uH (F:=prog) (c:=22) (dr:=23) (t:=24) (w:=w) (n:=n+5) rfl rfl hn rfl 0 5 (by decide) (by decide))
 have c2:=fun fr=>eE (fr:=fr) (pR (F:=prog) (c:=22) (dr:=23) (t:=25) (w:=w) (n:=n+5) rfl rfl hn rfl 10 (txt ns 0 5) (by omega))
 have hc:=x6 ns 10 (txt ns 0 5)
 obtain ⟨lc,tc⟩:=HB ns 10 (txt ns 0 5) 5 ht
 generalize txt ns 0 5=t at ht c1 c2 hc lc tc
 generalize chg ns 10 t=c at c2 hc lc tc
 have c3:=fun fr=>bV (fr:=fr) (dO (F:=prog) (aM:=5) (i:=4) (w:=w) (n:=n+6) rfl rfl c (by omega) (by omega))
 have Dr:=fun (x:List Pt) (b1:x.length≤900) (b2:tot x≤900) fr=>bV (fr:=fr) (vm (F:=prog) (aM:=5) (aV:=4) (i:=15) (w:=w) (n:=n+5) rfl rfl rfl x (by omega) (by omega))
 have Pr:=fun (x:List Pt) (b1:x.length≤900) (b2:tot x≤900) fr=>bV (fr:=fr) (wC (F:=prog) (aM:=5) (aV:=4) (i:=16) (w:=w) (n:=n+5) rfl rfl rfl x (by omega) (by omega))
 have d1:=Zq c
 have p1:=Zr c
 have r1:=Dr c (by omega) (by omega)
 have r2:=Pr c (by omega) (by omega)
 have r3:=Dr (cK c) (by omega) (by omega)
 have r4:=Pr (bH c) (by omega) (by omega)
 rw [zD] at r3
 rw [zE] at r4
 obtain ⟨X,rX,TX⟩:=u9 (F:=prog) (aJ:=0) (bY:=14) (aZ:=13) (dj:=12) (aM:=5) (aV:=4) (bD:=1) (ee:=2) (i:=10) (w:=w) (n:=n+5) rfl rfl rfl rfl rfl rfl rfl rfl rfl hw (bH c) (cK c) t (su hc) (Em hc) (by omega) (by omega) (by omega) (by omega)
 rw [J2 hc TX] at rX
 have RX:=fun fr=>call2 (fr:=fr) rX
 have s1:=gp (w:=w) (n:=n) (c:=bH c) (by omega) (by omega)
 have s2:=gp (w:=w) (n:=n) (c:=cK c) (by omega) (by omega)
 have s3:=gp (w:=w) (n:=n) (c:=c) (by omega) (by omega)
 have ad:=Rf (cst (bH c)) (cst (cK c))
 rw [BY c] at ad
 have af:=BR (bH c)
 have k1:=fun fr=>bV (fr:=fr) (rZ (F:=prog) (aJ:=0) (i:=2) (w:=w) (n:=n+6) rfl rfl (bH c) (by omega) (by omega))
 have n1:=oS (w:=w) (n:=n) (cE (bH c)) (by omega)
 refine cB (fn:=Gp) rfl rfl ?_
 refine ai (aY (aT (aI rfl (aB rfl) (aI rfl (bW rfl) (aI rfl (bW rfl) aG))) (c1 _)) rfl rfl ?_)
 refine ai (aY (aT (aI rfl (aB rfl) (aI rfl (bW rfl) (aI rfl (aB rfl) aG))) (c2 _)) rfl rfl ?_)
 refine ai (aY (aT (aI rfl (aB rfl) aG) (c3 _)) rfl rfl ?_)
 refine ai (aQ (b:=false) (er (aH rfl (bO (aT (aI rfl (aT (aI rfl (aB rfl) aG) (r1 _)) (aI rfl (aT (aI rfl (aB rfl) aG) (r2 _)) aG)) (RX _)) (aB rfl) (nC _)) rfl) (aH rfl (bO (bI (aT (aI rfl (aT (aI rfl (aB rfl) aG) (r1 _)) aG) (s1 _)) (aT (aI rfl (aT (aI rfl (aB rfl) aG) (r2 _)) aG) (s2 _)) ad) (aT (aI rfl (aB rfl) aG) (s3 _)) (nI _)) rfl)) (fun h=>absurd h (by decide)) fun _=>aD ?_)
 refine ai (aY (aT (aI rfl (aT (aI rfl (aT (aI rfl (aB rfl) aG) (r1 _)) aG) (k1 _)) aG) (n1 _)) rfl rfl ?_)
 refine ai (aQ (b:=false) (er (aH rfl (bO (aT (aI rfl (aT (aI rfl (aB rfl) aG) (r2 _)) aG) (r3 _)) (aB rfl) (nC _)) rfl) (aH rfl (bO (aT (aI rfl (aT (aI rfl (aB rfl) aG) (r1 _)) aG) (r4 _)) (aB rfl) (nC _)) rfl)) (fun h=>absurd h (by decide)) fun _=>aD ?_)
 exact Zt hn hw hc ht (by omega) (by omega) _
end
theorem good:∀ ns:List Int,ns.length≤63→∃ h',Ev.run prog 100000 60 27 [.ref 0] [.bR (ns.map Ev.D.int)]=.ok (.bl true) h':=fun ns h=>Jd (Ri (w:=100000) (n:=51) h (by decide))
end Lg
theorem Lw.good:∀ ns:List Int,ns.length≤63→∃ h',Ev.run Lw.prog 100000 60 27 [.ref 0] [.bR (ns.map Ev.D.int)]=.ok (.bl true) h':=Lg.good
namespace PySem.W.Fast
theorem tw13722569559168789900:True:=⟨⟩
theorem tw18400409164929091173:True:=⟨⟩
theorem tw11334575383310344777:True:=⟨⟩
theorem tw14510047194195907020:True:=⟨⟩
theorem tw14342161244890994089:True:=⟨⟩
theorem tw2568820083448241144:True:=⟨⟩
theorem tw13298515030530227305:True:=⟨⟩
theorem tw6274707084900707322:True:=⟨⟩
theorem tw5614247222307438385:True:=⟨⟩
theorem tw13281553623183379338:True:=⟨⟩
theorem tw10126160453917289577:True:=⟨⟩
theorem tw10661651745519657669:True:=⟨⟩
theorem tw11554793135619668707:True:=⟨⟩
theorem tw11506953355270000426:True:=⟨⟩
theorem tw4345455198115806804:True:=⟨⟩
theorem tw6565738061153578391:True:=⟨⟩
theorem tw1897325390953338060:True:=⟨⟩
theorem tw1534138364478124813:True:=⟨⟩
theorem tw12893855634928579010:True:=⟨⟩
theorem tw15923909834617029390:True:=⟨⟩
theorem tw8708148152131640722:True:=⟨⟩
theorem tw12194118312019130705:True:=⟨⟩
theorem tw11670734526596404682:True:=⟨⟩
theorem tw12923314131428451276:True:=⟨⟩
theorem tw13175749517141749475:True:=⟨⟩
theorem tw8433577362157063335:True:=⟨⟩
theorem tw8942111106307874744:True:=⟨⟩
theorem tw11673530133319174039:True:=⟨⟩
theorem tw7239679034445898889:True:=⟨⟩
theorem tw5462599500807449170:True:=⟨⟩
theorem tw11010891237434964533:True:=⟨⟩
theorem tw13751033675608855954:True:=⟨⟩
theorem tw2048182011122501212:True:=⟨⟩
theorem tw66689408782577258:True:=⟨⟩
theorem tw18213157927933446903:True:=⟨⟩
theorem tw8921792317958456082:True:=⟨⟩
theorem tw16323301310623774861:True:=⟨⟩
theorem tw2889207426743809055:True:=⟨⟩
theorem tw8950918939349484433:True:=⟨⟩
theorem tw6257973523915639584:True:=⟨⟩
theorem tw18247243666255917132:True:=⟨⟩
theorem tw10979283194042802050:True:=⟨⟩
theorem tw3755918577026374789:True:=⟨⟩
theorem tw5001950995914182921:True:=⟨⟩
theorem tw6973625379363932237:True:=⟨⟩
theorem tw13269402289093897291:True:=⟨⟩
theorem tw17345001011010171586:True:=⟨⟩
theorem tw14029904750309331005:True:=⟨⟩
theorem tw10444222296431116687:True:=⟨⟩
theorem tw4993806359383612420:True:=⟨⟩
theorem tw685489185572046887:True:=⟨⟩
theorem tw10161317549207838094:True:=⟨⟩
theorem tw13587233678994118616:True:=⟨⟩
theorem tw18411769686291258988:True:=⟨⟩
theorem tw1837174886105424211:True:=⟨⟩
theorem tw6099134364056595729:True:=⟨⟩
theorem tw406835149400502054:True:=⟨⟩
theorem tw4562012354623841681:True:=⟨⟩
theorem tw15164114585980657657:True:=⟨⟩
theorem tw12226374015446033212:True:=⟨⟩
theorem tw8919846809218295615:True:=⟨⟩
theorem tw3282908984330600127:True:=⟨⟩
theorem tw4978490305225618109:True:=⟨⟩
theorem tw3037441066915252543:True:=⟨⟩
theorem tw11592013927949807657:True:=⟨⟩
theorem tw5792268760646492197:True:=⟨⟩
theorem tw1898191311310574956:True:=⟨⟩
theorem tw8785098989427838224:True:=⟨⟩
theorem tw10755516941159240394:True:=⟨⟩
theorem tw5407872182574555607:True:=⟨⟩
theorem tw16282376663229783057:True:=⟨⟩
theorem tw9611846354091132491:True:=⟨⟩
theorem tw2431663965594569667:True:=⟨⟩
theorem tw11047847551195417798:True:=⟨⟩
theorem tw5752174044395175090:True:=⟨⟩
theorem tw14439524585783471505:True:=⟨⟩
theorem tw8605430682964351261:True:=⟨⟩
theorem tw16360392733947560871:True:=⟨⟩
theorem tw15917260579795137457:True:=⟨⟩
theorem tw18280151449743135775:True:=⟨⟩
theorem tw3072823280043754864:True:=⟨⟩
theorem tw12600508573414098738:True:=⟨⟩
theorem tw3620159954942264947:True:=⟨⟩
theorem tw9963345286057610673:True:=⟨⟩
theorem tw3914153925330459613:True:=⟨⟩
theorem tw8575570808215200124:True:=⟨⟩
theorem tw13680838430293026837:True:=⟨⟩
theorem tw15205918799324671457:True:=⟨⟩
theorem tw12992733788252529650:True:=⟨⟩
theorem tw17362904925339765235:True:=⟨⟩
theorem tw4824020364200640724:True:=⟨⟩
theorem tw6928267732244821328:True:=⟨⟩
theorem tw15076271524116720668:True:=⟨⟩
theorem tw14405417178173874156:True:=⟨⟩
theorem tw15549008333015794976:True:=⟨⟩
theorem tw14524491785424370601:True:=⟨⟩
theorem tw11592822951703839021:True:=⟨⟩
theorem tw1608438658901457171:True:=⟨⟩
theorem tw9732020917338536007:True:=⟨⟩
theorem tw13878688357310613972:True:=⟨⟩
theorem tw10915675251422874046:True:=⟨⟩
theorem tw6188088825346171498:True:=⟨⟩
theorem tw13860130506657846249:True:=⟨⟩
theorem tw2920104166876461836:True:=⟨⟩
theorem tw17589295850442240060:True:=⟨⟩
theorem tw7412027987294762821:True:=⟨⟩
theorem tw13547803463454359600:True:=⟨⟩
theorem tw12045748640303409281:True:=⟨⟩
theorem tw10875464588739847450:True:=⟨⟩
theorem tw6239609764950760796:True:=⟨⟩
theorem tw1297405831779895430:True:=⟨⟩
theorem tw3377270942527446624:True:=⟨⟩
theorem tw6215589221500973110:True:=⟨⟩
theorem tw16465820340326868786:True:=⟨⟩
theorem tw8356345922228270517:True:=⟨⟩
theorem tw11903439850044369336:True:=⟨⟩
theorem tw10183646251154629546:True:=⟨⟩
theorem tw6456713466533148011:True:=⟨⟩
theorem tw13909824752871469347:True:=⟨⟩
theorem tw9626891094899541092:True:=⟨⟩
theorem tw7067249708565818872:True:=⟨⟩
theorem tw15926543166964853851:True:=⟨⟩
theorem tw15654905865460440154:True:=⟨⟩
theorem tw3085702508826122045:True:=⟨⟩
theorem tw1290800205192180689:True:=⟨⟩
theorem tw3055029676746538816:True:=⟨⟩
theorem tw8907803682069802766:True:=⟨⟩
theorem tw11999054173162612706:True:=⟨⟩
theorem tw12591133664068375186:True:=⟨⟩
theorem tw9781370513536743717:True:=⟨⟩
theorem tw12106535916725588337:True:=⟨⟩
theorem tw15739303542383633135:True:=⟨⟩
theorem tw1891140546868876154:True:=⟨⟩
theorem tw8553242131483179535:True:=⟨⟩
theorem tw10130217032636660784:True:=⟨⟩
theorem tw2264036055083954964:True:=⟨⟩
theorem tw9100491822289044299:True:=⟨⟩
theorem tw17832159692336658827:True:=⟨⟩
theorem tw11835834375978995097:True:=⟨⟩
theorem tw1447201456353791767:True:=⟨⟩
theorem tw6729589692126179272:True:=⟨⟩
theorem tw2101882153339047374:True:=⟨⟩
theorem tw13968722695426134203:True:=⟨⟩
theorem tw13856412125692060615:True:=⟨⟩
theorem tw12947196126363987511:True:=⟨⟩
theorem tw6232593871372011686:True:=⟨⟩
theorem tw10373192317430298103:True:=⟨⟩
theorem tw2045122976885157498:True:=⟨⟩
theorem tw1332102846997411349:True:=⟨⟩
theorem tw9160340934885294095:True:=⟨⟩
theorem tw17380488354308668320:True:=⟨⟩
theorem tw17926300059369044454:True:=⟨⟩
theorem tw15745520027456765094:True:=⟨⟩
theorem tw16462593246663965147:True:=⟨⟩
theorem tw14758806633807157302:True:=⟨⟩
theorem tw16087281425374288004:True:=⟨⟩
theorem tw9687394373591324474:True:=⟨⟩
theorem tw10798502559789469321:True:=⟨⟩
theorem tw9304650493705570916:True:=⟨⟩
theorem tw9891320482445788339:True:=⟨⟩
theorem tw4485165605055577799:True:=⟨⟩
theorem tw4057297204447957872:True:=⟨⟩
theorem tw10831590689123754002:True:=⟨⟩
theorem tw10583127949675379839:True:=⟨⟩
theorem tw2313741686878186470:True:=⟨⟩
theorem tw3516930568200249945:True:=⟨⟩
theorem tw14277646130356406119:True:=⟨⟩
theorem tw4515886711353972794:True:=⟨⟩
theorem tw9318908979337346433:True:=⟨⟩
theorem tw6649759841516079429:True:=⟨⟩
theorem tw11129992939165909399:True:=⟨⟩
theorem tw4725315499598577047:True:=⟨⟩
theorem tw1478696734365989706:True:=⟨⟩
theorem tw21153826790718371:True:=⟨⟩
theorem tw17290419335525557727:True:=⟨⟩
theorem tw10906361760903267973:True:=⟨⟩
theorem tw2988613344372259947:True:=⟨⟩
theorem tw16887175038867237971:True:=⟨⟩
theorem tw6671271768395673851:True:=⟨⟩
theorem tw5304252776762381660:True:=⟨⟩
theorem tw7350825875933686470:True:=⟨⟩
theorem tw337448525193864136:True:=⟨⟩
theorem tw4390679295401176710:True:=⟨⟩
theorem tw6554748817019588274:True:=⟨⟩
theorem tw6809429897937421452:True:=⟨⟩
theorem tw18231655297801955571:True:=⟨⟩
theorem tw5424890628340613942:True:=⟨⟩
theorem tw18400535952006197712:True:=⟨⟩
theorem tw3916883850659122194:True:=⟨⟩
theorem tw12385368572303068152:True:=⟨⟩
theorem tw12094683551107138065:True:=⟨⟩
theorem tw783491779715351794:True:=⟨⟩
theorem tw11752585094921945837:True:=⟨⟩
theorem tw15733970890467237723:True:=⟨⟩
theorem tw9421541714946266293:True:=⟨⟩
theorem tw5668876751257594691:True:=⟨⟩
theorem tw9920912425038594171:True:=⟨⟩
theorem tw7870230209047689828:True:=⟨⟩
theorem tw5374329209541535846:True:=⟨⟩
theorem tw4168246336188282467:True:=⟨⟩
theorem tw7204412722463696346:True:=⟨⟩
theorem tw16343967905707343218:True:=⟨⟩
theorem tw13649565280415586028:True:=⟨⟩
theorem tw15716888466185821196:True:=⟨⟩
theorem tw7351933060633041357:True:=⟨⟩
theorem tw12990464506720123518:True:=⟨⟩
theorem tw7650230854074328595:True:=⟨⟩
theorem tw16533527523189670107:True:=⟨⟩
theorem tw2003238998829311474:True:=⟨⟩
theorem tw17565471397895562821:True:=⟨⟩
theorem tw3582108677355087324:True:=⟨⟩
theorem tw750128387998181359:True:=⟨⟩
theorem tw11527724560067443239:True:=⟨⟩
theorem tw8609459749013994419:True:=⟨⟩
theorem tw6336316436008369251:True:=⟨⟩
theorem tw1998403722173443992:True:=⟨⟩
theorem tw1515788568336462611:True:=⟨⟩
theorem tw5431740581095401716:True:=⟨⟩
theorem tw13154813428350383808:True:=⟨⟩
end PySem.W.Fast
open PySem PySem.W PyProof.Rows
set_option maxRecDepth 100000 in
set_option maxHeartbeats 0 in
theorem PySem.Challenge.cw_pastways_k41_whole_parts_holds : PySem.Challenge.rw_pastways_k41_whole_parts.Holds := by
 w_on;o_law;k_head;(case hw=>w_witness2)
 k_fill
 refine Sm.IP (F:=Lw.prog) (wh:=100000) (n:=60) (f:=27) (x:="_law_script") (l:=PySem.Challenge.rw_pastways_k41_whole_parts) rfl rfl ⟨rfl,by decide,by decide⟩ (fun w h Y=>PySem.W.kIn_of Y) Lw.good ?F
 case F=>
  intro w mg fa h KX G hmg
  refine' Lw.all_mk KX G hmg ?a0 ?l0 ?c0 ?k0 ?a1 ?l1 ?c1 ?k1 ?a2 ?l2 ?c2 ?k2 ?a3 ?l3 ?c3 ?k3 ?a4 ?l4 ?c4 ?k4 ?a5 ?l5 ?c5 ?k5 ?a6 ?l6 ?c6 ?k6 ?a7 ?l7 ?c7 ?k7 ?a8 ?l8 ?c8 ?k8 ?a9 ?l9 ?c9 ?k9 ?Qf ?Qg ?Qh ?G6 ?Qi ?Qj ?Qk ?G7 ?Ql ?Qm ?c12 ?G8 ?Qn ?Qo ?Qp ?Hf ?Qq ?Qs ?Qt ?Hg ?Qu ?Qv ?Qw ?Hi ?Qx ?Qy ?Qz ?Hj ?QA ?QB ?QC ?Hl ?QD ?QE ?QF ?Ho ?QG ?QH ?QI ?Hq ?QJ ?QK ?QL ?Hr ?QM ?QN ?QO ?Hs ?QS ?QT ?QU ?Ht ?QV ?QW ?QX ?Hu ?QY ?QZ ?Q0 ?Hv ?Q2 ?Q3 ?Q4 ?Hw ?Q5 ?Q6 ?Q7 ?Hx ?Hy ?Q8 ?Q9 ?Hz ?z0 ?z1 ?z2 ?z3 ?z4 ?z5 ?z6 ?z7 ?z8 ?q0 ?Ra ?Rb ?Rc
  (case a0=>k_is)
  (case l0=>k_is)
  (case c0=>k_is)
  (case k0=>k_is)
  (case a1=>k_is)
  (case l1=>k_is)
  (case c1=>k_is)
  (case k1=>k_is)
  (case a2=>k_is)
  (case l2=>k_is)
  (case c2=>k_is)
  (case k2=>k_is)
  (case a3=>k_is)
  (case l3=>k_is)
  (case c3=>k_is)
  (case k3=>k_is)
  (case a4=>k_is)
  (case l4=>k_is)
  (case c4=>k_is)
  (case k4=>k_is)
  (case a5=>k_is)
  (case l5=>k_is)
  (case c5=>k_is)
  (case k5=>k_is)
  (case a6=>k_is)
  (case l6=>k_is)
  (case c6=>k_is)
  (case k6=>k_is)
  (case a7=>k_is)
  (case l7=>k_is)
  (case c7=>k_is)
  (case k7=>k_is)
  (case a8=>k_is)
  (case l8=>k_is)
  (case c8=>k_is)
  (case k8=>k_is)
  (case a9=>k_is)
  (case l9=>k_is)
  (case c9=>k_is)
  (case k9=>k_is)
  (case Qf=>k_is)
  (case Qg=>k_is)
  (case Qh=>k_is)
  (case G6=>k_is)
  (case Qi=>k_is)
  (case Qj=>k_is)
  (case Qk=>k_is)
  (case G7=>k_is)
  (case Ql=>k_is)
  (case Qm=>k_is)
  (case c12=>k_is)
  (case G8=>k_is)
  (case Qn=>k_is)
  (case Qo=>k_is)
  (case Qp=>k_is)
  (case Hf=>k_is)
  (case Qq=>k_is)
  (case Qs=>k_is)
  (case Qt=>k_is)
  (case Hg=>k_is)
  (case Qu=>k_is)
  (case Qv=>k_is)
  (case Qw=>k_is)
  (case Hi=>k_is)
  (case Qx=>k_is)
  (case Qy=>k_is)
  (case Qz=>k_is)
  (case Hj=>k_is)
  (case QA=>k_is)
  (case QB=>k_is)
  (case QC=>k_is)
  (case Hl=>k_is)
  (case QD=>k_is)
  (case QE=>k_is)
  (case QF=>k_is)
  (case Ho=>k_is)
  (case QG=>k_is)
  (case QH=>k_is)
  (case QI=>k_is)
  (case Hq=>k_is)
  (case QJ=>k_is)
  (case QK=>k_is)
  (case QL=>k_is)
  (case Hr=>k_is)
  (case QM=>k_is)
  (case QN=>k_is)
  (case QO=>k_is)
  (case Hs=>k_is)
  (case QS=>k_is)
  (case QT=>k_is)
  (case QU=>k_is)
  (case Ht=>k_is)
  (case QV=>k_is)
  (case QW=>k_is)
  (case QX=>k_is)
  (case Hu=>k_is)
  (case QY=>k_is)
  (case QZ=>k_is)
  (case Q0=>k_is)
  (case Hv=>k_is)
  (case Q2=>k_is)
  (case Q3=>k_is)
  (case Q4=>k_is)
  (case Hw=>k_is)
  (case Q5=>k_is)
  (case Q6=>k_is)
  (case Q7=>k_is)
  (case Hx=>k_is)
  (case Hy=>k_is)
  (case Q8=>k_is)
  (case Q9=>k_is)
  (case Hz=>k_is)
  (case z0=>k_is)
  (case z1=>k_is)
  (case z2=>k_is)
  (case z3=>k_is)
  (case z4=>k_is)
  (case z5=>k_is)
  (case z6=>k_is)
  (case z7=>k_is)
  (case z8=>k_is)
  (case q0=>k_is)
  (case Ra=>k_is)
  (case Rb=>first | k_is | rfl | decide +kernel | (with_unfolding_all rfl))
  (case Rc=>first | k_is | rfl | decide +kernel | (with_unfolding_all rfl))

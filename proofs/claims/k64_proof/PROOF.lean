import PyProof.Rows.All
import Wide.All
import OpenK.AllK
import Wide.FinOn
import Lean
import PyProof.EqAt
import PyProof.EqKinds
import PyProof.TupleCall
import PyProof.NeKinds
import PyProof.StrLawsIn
import KE.KRevSl
import PyProof.ZipIter
import PyProof.ListRange
import PyProof.Rows.SortStr
import KE.KRevIter
import PyProof.EnumMake
import PyProof.EnumFor
import PySem.Challenge.RW_pastways_k64_whole_squeezed
set_option Elab.async false
set_option linter.all false
set_option maxRecDepth 100000
namespace L2
open PySem PySem.Spec PyProof.Rows
abbrev Key:=Sum Int Str
noncomputable def CJ:Key→Value→Bool
 | .inl k,v=>Value.isInt k v
 | .inr x,v=>Value.isStrOf x v
noncomputable def SD (w:World):Key→Int
 | .inl k=>hashInt k
 | .inr x=>hashStr w x
theorem cW:∀ {k:Key}{v:Value},CJ k v=true→(∃ i t,k=Sum.inl i∧v=Value.int i t)∨(∃ x t,k=Sum.inr x∧v=Value.str x t)
 | .inl i,v,h=>by
  obtain ⟨t,e⟩:=Value.isInt_shape (k:=i) (v:=v) h
  exact .inl ⟨i,t,rfl,e⟩
 | .inr x,v,h=>by
  obtain ⟨t,e⟩:=Value.isStrOf_shape (x:=x) (v:=v) h
  exact .inr ⟨x,t,rfl,e⟩
theorem Hi (a b:Int):decide ((Sum.inl a:Key)=Sum.inl b)=(a==b):=by
 by_cases e:a=b
 ·subst e;simp
 ·have h:¬ (Sum.inl a:Key)=Sum.inl b:=fun q=>e (Sum.inl.inj q)
  rw [decide_eq_false h]
  exact (beq_eq_false_iff_ne.mpr e).symm
theorem Hj (a b:Str):decide ((Sum.inr a:Key)=Sum.inr b)=decide (a=b):=by
 by_cases e:a=b
 ·subst e;simp
 ·have h:¬ (Sum.inr a:Key)=Sum.inr b:=fun q=>e (Sum.inr.inj q)
  rw [decide_eq_false h,decide_eq_false e]
theorem Hl (a:Int) (b:Str):decide ((Sum.inl a:Key)=Sum.inr b)=false:=decide_eq_false (fun q=>nomatch q)
theorem Ho (a:Str) (b:Int):decide ((Sum.inr a:Key)=Sum.inl b)=false:=decide_eq_false (fun q=>nomatch q)
noncomputable def pq (prog:Program) (w:World):PySem.KeyKind prog w Key where
 is:=CJ
 hash:=SD w
 inj:=fun v a b ha hb=>by
  rcases cW ha with ⟨i,t,rfl,rfl⟩ | ⟨x,t,rfl,rfl⟩
  ·rcases cW hb with ⟨j,u,rfl,e⟩ | ⟨y,u,rfl,e⟩
   ·injection e with e1 _;rw [e1]
   ·exact nomatch e
  ·rcases cW hb with ⟨j,u,rfl,e⟩ | ⟨y,u,rfl,e⟩
   ·exact nomatch e
   ·injection e with e1 _;rw [e1]
 byValue:=fun k v h=>by
  rcases cW h with ⟨i,t,rfl,rfl⟩ | ⟨x,t,rfl,rfl⟩ <;> rfl
 pyHash:=fun hv h=>by
  rcases cW hv with ⟨i,t,rfl,rfl⟩ | ⟨x,t,rfl,rfl⟩
  ·exact wpAny_pyHash_int h
  ·exact wpAny_pyHash_str h
 eqBool:=fun hu hv h=>by
  rcases cW hu with ⟨i,t,rfl,rfl⟩ | ⟨x,t,rfl,rfl⟩
  ·rcases cW hv with ⟨j,u,rfl,rfl⟩ | ⟨y,u,rfl,rfl⟩
   ·rw [Hi] at h;exact wpAny_eqBool_int h
   ·rw [Hl] at h;exact SeqAt.EqAt.int_str i t y u _ _ _ _ h
  ·rcases cW hv with ⟨j,u,rfl,rfl⟩ | ⟨y,u,rfl,rfl⟩
   ·rw [Ho] at h;exact SeqAt.EqAt.str_int x t j u _ _ _ _ h
   ·rw [Hj] at h;exact wpAny_eqBool_str h
 «strs»:=fun k x t v h=>by
  rcases cW h with ⟨i,u,rfl,e⟩ | ⟨y,u,rfl,e⟩
  ·exact nomatch e
  ·injection e with e1 _
   subst e1
   cases v <;> rfl
end L2
namespace L2
open PySem PySem.Spec PyProof.Rows
inductive V where
 | aY | bl (b:Bool) | int (i:Int) | str (x:Str) | xN (b:Array UInt8) | xO (b:UInt64) | ref (a:Addr) | ty (n:String)
 deriving DecidableEq
noncomputable def RelV:V→Value→Prop
 | .aY,u=>u=Value.none
 | .bl b,u=>u=Value.bool b
 | .int i,u=>∃ t,u=Value.int i t
 | .str x,u=>∃ t,u=Value.str x t
 | .xN b,u=>∃ t,u=Value.bytes b t
 | .xO b,u=>∃ t,u=Value.float b t
 | .ref a,u=>u=Value.ref a
 | .ty n,u=>u=Value.type n
abbrev Vals:List V→List Value→Prop:=Paired RelV
theorem Vals.length {xs:List V}{us:List Value}(r:Vals xs us):xs.length=us.length:=Paired.length r
theorem Vals.get:∀ {xs:List V}{us:List Value}{i:Nat}{x:V},Vals xs us→xs[i]?=some x→∃ u,us[i]?=some u∧RelV x u
 | _,_,_,_,.nil,e=>by simp at e
 | _,_,0,_,.cons r _,e=>by simp at e;subst e;exact ⟨_,rfl,r⟩
 | _,_,i+1,x,.cons _ t,e=>by
  obtain ⟨u,h1,h2⟩:=Vals.get (i:=i) (x:=x) t (by simpa using e)
  exact ⟨u,by simpa using h1,h2⟩
theorem Vals.append:∀ {xs ys:List V}{us ws:List Value},Vals xs us→Vals ys ws→Vals (xs++ys) (us++ws)
 | _,_,_,_,.nil,s=>s
 | _,_,_,_,.cons r t,s=>.cons r (Vals.append t s)
theorem Vals.take:∀ {xs:List V}{us:List Value}(n:Nat),Vals xs us→Vals (xs.take n) (us.take n)
 | _,_,0,_=>.nil
 | _,_,_+1,.nil=>.nil
 | _,_,n+1,.cons r t=>.cons r (Vals.take n t)
theorem Vals.drop:∀ {xs:List V}{us:List Value}(n:Nat),Vals xs us→Vals (xs.drop n) (us.drop n)
 | _,_,0,r=>r
 | _,_,_+1,.nil=>.nil
 | _,_,n+1,.cons _ t=>Vals.drop n t
noncomputable def Hq:Option V→Option Value→Prop
 | some v,some u=>RelV v u
 | none,none=>True
 | _,_=>False
noncomputable def KV {κ:Type}:List (κ×V)→List (κ×Value)→Prop:=Paired fun (p:κ×V) (q:κ×Value)=>p.1=q.1∧RelV p.2 q.2
noncomputable def kV:Key→V
 | .inl i=>.int i
 | .inr x=>.str x
inductive HO where
 | lst (xs:List V)
 | tup (xs:List V)
 | dK (kvs:List (Key×V)) | dT (kvs:List (List Key×V))
 | set (S:Int→Bool) (n:Nat)
 | ins (C dx:Addr) (fs:List (Str×V))
 | own (x:Addr)
 | xd (fs:List (Str×V))
 | met (f x:Addr)
 | gR (lo hi:Int)
 | bS (o:Obj) (u:HO)
 | q9 (ps:Array Value)
 | ext (φ:Heap→Prop)
abbrev Hp:=Addr→Option HO
noncomputable def upd (H:Hp) (a:Addr) (o:HO):Hp:=fun b=>if b=a then some o else H b
theorem fq {H:Hp}{a:Addr}{o:HO}:upd H a o a=some o:=by unfold upd;rw [if_pos rfl]
theorem bx {H:Hp}{a b:Addr}{o:HO}(h:b≠a):upd H a o b=H b:=by unfold upd;rw [if_neg h]
theorem nP {H:Hp}{a b:Addr}{o u:HO}(h:H a=some o) (h':H b=some u) (d:o≠u):a≠b:=by
 intro e;subst e;rw [h] at h';exact d (Option.some.inj h')
theorem bY {H:Hp}{a b:Addr}{o:HO}(h:H a=some o) (h':H b=none):a≠b:=by
 intro e;subst e;rw [h] at h';cases h'
section
variable (P:Program)(w:World)
noncomputable def fM (H:Hp) (h:Heap) (a:Addr):HO→Prop
 | .lst xs=>xs.length≤sizeLine∧∃ (its:List Value) (n:Nat),Vals xs its∧h.get? a=some { cls:=.type "list",data:=.seq its.toArray n }
 | .tup xs=>xs.length≤sizeLine∧∃ its:List Value,Vals xs its∧IsTup h a its.toArray
 | .dK kvs=>kvs.length≤sizeLine∧(a==sysModules)=false∧∃ vs,KV kvs vs∧h.DictOf (pq P w) a vs
 | .dT kvs=>kvs.length≤sizeLine∧(a==sysModules)=false∧∃ xs:List (List Key×Addr×Value),
   Paired (fun (p:List Key×V) (q:List Key×Addr×Value)=>p.1=q.1∧H q.2.1=some (.tup (p.1.map kV))∧RelV p.2 q.2.2) kvs xs∧
   ∃ o es ep,h.get? a=some o∧o.ExactDict∧o.data=.dict es ep∧es.toList=xs.map (entryOfKey (tupleKind (pq P w)))∧(xs.map (·.1)).Nodup
 | .set S n=>h.SetOf (intKind P w) a S n
 | .ins C dx fs=>H dx=some (.own a)∧fs.length≤1000∧dx≠a∧h.get? a=some (PySem.W.instObj C dx)∧
   ∃ mA,h.Ns1 dx mA∧(∀ f,Hq (fs.lookup f) (mA f))∧PySem.Within mA (fs.map (·.1))
 | .own _=>∃ o,h.get? a=some o
 | .xd fs=>∃ mA,h.Ns1 a mA∧∀ f,Hq (fs.lookup f) (mA f)
 | .gR lo hi=>∃ t u v,h.get? a=some { cls:=.type "range",data:=.fields #[.int lo t,.int hi u,.int 1 v]}
 | .bS o u=>h.get? a=some o∧fM H h a u
 | .q9 ps=>h.get? a=some { cls:=.none,data:=.fields ps }
 | .met f x=>h.get? a=some (PySem.W.methodObj (.ref f) (.ref x))
 | .ext φ=>φ h∧(∃ o,h.get? a=some o)∧∀ h1 h2:Heap,φ h1→(∀ o,h1.get? a=some o→h2.get? a=some o)→φ h2
noncomputable def fy (H:Hp) (h:Heap):Prop:=∀ a o,H a=some o→fM P w H h a o
end
section
variable {P:Program}{w:World}{H H':Hp}{h h':Heap}{a:Addr}{o:HO}
theorem fM.lt (x:fM P w H h a o):a<h.objs.size:=by
 cases o with
 | lst xs=>obtain ⟨_,_,_,_,e⟩:=x;exact Heap.lt_size e
 | tup xs=>obtain ⟨_,_,_,p⟩:=x;exact p.lt
 | dK kvs=>obtain ⟨_,_,_,_,o,_,_,e,_⟩:=x;exact Heap.lt_size e
 | dT kvs=>obtain ⟨_,_,_,_,o,_,_,e,_⟩:=x;exact Heap.lt_size e
 | set S n=>obtain ⟨o,_,_,_,e,_⟩:=x;exact Heap.lt_size e
 | ins C dx fs=>obtain ⟨_,_,_,e,_⟩:=x;exact Heap.lt_size e
 | own y=>obtain ⟨_,e⟩:=x;exact Heap.lt_size e
 | xd fs=>obtain ⟨_,⟨_,_,_,e,_⟩,_⟩:=x;exact Heap.lt_size e
 | gR lo hi=>obtain ⟨_,_,_,e⟩:=x;exact Heap.lt_size e
 | bS ob u=>obtain ⟨e,_⟩:=x;exact Heap.lt_size e
 | q9 ps=>exact Heap.lt_size (show h.get? a=some _ from x)
 | met f y=>exact Heap.lt_size (show h.get? a=some _ from x)
 | ext φ=>obtain ⟨_,⟨_,e⟩,_⟩:=x;exact Heap.lt_size e
theorem Paired.Hr {α β:Type}{F G:α→β→Prop}:∀ {l₁:List α}{l₂:List β},Paired F l₁ l₂→(∀ a b,F a b→G a b)→Paired G l₁ l₂
 | _,_,.nil,_=>.nil
 | _,_,.cons r t,f=>.cons (f _ _ r) (Paired.Hr t f)
theorem fM.stay (x:fM P w H h a o) (k:∀ b u,(b=a∨H b=some (.own a))→h.get? b=some u→h'.get? b=some u)
  (ho:∀ b,H b=some (.own a)→H' b=some (.own a)) (ht:∀ b xs,H b=some (.tup xs)→H' b=some (.tup xs)):fM P w H' h' a o:=by
 induction o with
 | lst xs=>obtain ⟨z,its,n,r,e⟩:=x;exact ⟨z,its,n,r,k _ _ (.inl rfl) e⟩
 | tup xs=>obtain ⟨z,its,r,ob,e,c⟩:=x;exact ⟨z,its,r,ob,k _ _ (.inl rfl) e,c⟩
 | dK kvs=>obtain ⟨z,y,vs,r,ob,es,ep,e,c⟩:=x;exact ⟨z,y,vs,r,ob,es,ep,k _ _ (.inl rfl) e,c⟩
 | dT kvs=>
  obtain ⟨z,y,xs,r,ob,es,ep,e,c⟩:=x
  exact ⟨z,y,xs,Paired.Hr r fun p q z=>⟨z.1,ht _ _ z.2.1,z.2.2⟩,ob,es,ep,k _ _ (.inl rfl) e,c⟩
 | set S n=>obtain ⟨ob,es,ep,t,e,c⟩:=x;exact ⟨ob,es,ep,t,k _ _ (.inl rfl) e,c⟩
 | ins C dx fs=>
  obtain ⟨d,z,ne,e,mA,⟨od,es,ep,e2,c⟩,r⟩:=x
  exact ⟨ho _ d,z,ne,k _ _ (.inl rfl) e,mA,⟨od,es,ep,k _ _ (.inr d) e2,c⟩,r⟩
 | own y=>obtain ⟨ob,e⟩:=x;exact ⟨ob,k _ _ (.inl rfl) e⟩
 | xd fs=>obtain ⟨mA,⟨od,es,ep,e,c⟩,r⟩:=x;exact ⟨mA,⟨od,es,ep,k _ _ (.inl rfl) e,c⟩,r⟩
 | gR lo hi=>obtain ⟨t,u,v,e⟩:=x;exact ⟨t,u,v,k _ _ (.inl rfl) e⟩
 | bS ob u ih=>obtain ⟨e,q⟩:=x;exact ⟨k _ _ (.inl rfl) e,ih q⟩
 | q9 ps=>
  have e:h.get? a=some { cls:=.none,data:=.fields ps }:=x
  show h'.get? a=some { cls:=.none,data:=.fields ps }
  exact k a _ (.inl rfl) e
 | met f y=>
  have e:h.get? a=some (PySem.W.methodObj (.ref f) (.ref y)):=x
  show h'.get? a=some (PySem.W.methodObj (.ref f) (.ref y))
  exact k a _ (.inl rfl) e
 | ext φ=>obtain ⟨p,⟨o,e⟩,st⟩:=x;exact ⟨st _ _ p fun o q=>k _ _ (.inl rfl) q,⟨o,k _ _ (.inl rfl) e⟩,st⟩
theorem fy.lt (x:fy P w H h) (e:H a=some o):a<h.objs.size:=(x a o e).lt
theorem fy.fresh (x:fy P w H h) (e:h.objs.size≤a):H a=none:=by
 cases q:H a with
 | none=>rfl
 | some u=>exact absurd (Nat.lt_of_lt_of_le (x.lt q) e) (Nat.lt_irrefl _)
theorem fy.kept (x:fy P w H h) (k:∀ b u,h.get? b=some u→h'.get? b=some u):fy P w H h':=fun a o e=>
 (x a o e).stay (fun b u _ q=>k b u q) (fun _ q=>q) fun _ _ q=>q
theorem fy.laid (x:fy P w H h) (k:∀ b u,h.get? b=some u→h'.get? b=some u) (hp:h.objs.size≤a) (new:fM P w (upd H a o) h' a o):fy P w (upd H a o) h':=fun b u e=>by
 have hn:=x.fresh hp
 by_cases hb:b=a
 ·subst hb;rw [fq] at e;cases e;exact new
 ·rw [bx hb] at e
  exact (x b u e).stay (fun c v _ q=>k c v q) (fun c q=>by rw [bx (bY q hn)];exact q) fun c xs q=>by rw [bx (bY q hn)];exact q
end
noncomputable def Rd (H:Hp) (a:Addr) (u:HO):Prop:=H a=some u∨∃ o,H a=some (.bS o u)
theorem Rd.ok {P:Program}{w:World}{H:Hp}{h:Heap}{a:Addr}{u:HO}(r:Rd H a u) (x:fy P w H h):fM P w H h a u:=by
 rcases r with r | ⟨o,r⟩
 ·exact x a u r
 ·obtain ⟨_,q⟩:=x a _ r
  exact q
noncomputable def CK:Option HO→Prop
 | some (.lst _)=>True
 | some (.dK _)=>True
 | some (.dT _)=>True
 | some (.set _ _)=>True
 | some (.ins _ _ _)=>True
 | some (.ext _)=>True
 | _=>False
section
variable {P:Program}{w:World}{H:Hp}{h h':Heap}{x e:Addr}{o':HO}
theorem fy.write (ok:fy P w H h) (mu:CK (H x)) (he:e=x∨H e=some (.own x)) (k:∀ b u,b≠e→h.get? b=some u→h'.get? b=some u) (uc:∃ u,h'.get? e=some u)
  (new:fM P w (upd H x o') h' x o'):fy P w (upd H x o') h':=fun b u q=>by
 have Hs:∀ c y,H c=some (.own y)→c≠x:=fun c y r z=>by subst z;rw [r] at mu;exact mu
 have SE:∀ c xs,H c=some (.tup xs)→c≠x:=fun c xs r z=>by subst z;rw [r] at mu;exact mu
 by_cases hb:b=x
 ·subst hb;rw [fq] at q;cases q;exact new
 ·rw [bx hb] at q
  by_cases ri:b=e
  ·have q':H b=some (.own x):=by
    rcases he with z | z
    ·exact absurd (ri.trans z) hb
    ·rw [ri];exact z
   rw [q] at q';cases q'
   obtain ⟨v,hv⟩:=uc
   exact ⟨v,by rw [ri];exact hv⟩
  ·refine (ok b u q).stay (fun c v hc r=>k c v ?_ r) (fun c r=>by rw [bx (Hs c b r)];exact r) fun c xs r=>by rw [bx (SE c xs r)];exact r
   rcases hc with rfl | hc
   ·exact ri
   ·rintro rfl
    rcases he with z | z
    ·exact Hs c b hc z
    ·rw [hc] at z;cases z;exact hb rfl
end
structure Un (fs ex:List Addr) (H H':Hp) (h h':Heap):Prop where
 keep:∀ b o,h.get? b=some o→H b=none→b∉fs→b∉ex→h'.get? b=some o
 slot:∀ b o,h.get? b=some o→H b=none→b∈fs→b∉ex→∃ sl,h'.get? b=some { o with slots:=sl }
 free:∀ b o,h.get? b=some o→H b=none→b∉ex→H' b=none
 there:∀ b o,h.get? b=some o→b∉ex→∃ o',h'.get? b=some o'
 tups:∀ b xs,H b=some (.tup xs)→H' b=some (.tup xs)
 kc:∀ b o u,H b=some (.bS o u)→H' b=some (.bS o u)
 kO:∀ b ps,H b=some (.q9 ps)→∃ more,H' b=some (.q9 (ps++more))
section
variable {fs fs' ex ex':List Addr}{H H1 H2:Hp}{h h1 h2 h':Heap}{a x e:Addr}{o:HO}
theorem Un.any (u:Un fs ex H H1 h h1) {b:Addr}{ob:Obj}(q:h.get? b=some ob) (n:H b=none) (hx:b∉ex):∃ sl,h1.get? b=some { ob with slots:=sl }:=by
 by_cases hb:b∈fs
 ·exact u.slot b ob q n hb hx
 ·exact ⟨ob.slots,u.keep b ob q n hb hx⟩
theorem Un.kept (k:∀ b u,h.get? b=some u→h'.get? b=some u):Un fs ex H H h h':=
 ⟨fun b ob q _ _ _=>k b ob q,fun b ob q _ _ _=>⟨ob.slots,k b ob q⟩,fun _ _ _ n _=>n,fun b ob q _=>⟨ob,k b ob q⟩,fun _ _ q=>q,fun _ _ _ q=>q,fun _ ps q=>⟨#[],by rw [q];simp⟩⟩
theorem Un.refl:Un fs ex H H h h:=Un.kept fun _ _ q=>q
theorem Un.laid (k:∀ b u,h.get? b=some u→h'.get? b=some u) (hp:h.objs.size≤a) (hn:H a=none):Un fs ex H (upd H a o) h h' where
 keep:=fun b u q _ _ _=>k b u q
 slot:=fun b u q _ _ _=>⟨u.slots,k b u q⟩
 free:=fun b u q n _=>by rw [bx (Nat.ne_of_lt (Nat.lt_of_lt_of_le (Heap.lt_size q) hp))];exact n
 there:=fun b u q _=>⟨u,k b u q⟩
 tups:=fun b xs q=>by rw [bx (bY q hn)];exact q
 kc:=fun b u xs q=>by rw [bx (bY q hn)];exact q
 kO:=fun b ps q=>⟨#[],by rw [bx (bY q hn),q];simp⟩
theorem Un.write (mu:CK (H x)) (he:e=x∨H e=some (.own x)) (k:∀ b u,b≠e→h.get? b=some u→h'.get? b=some u) (uc:∃ u,h'.get? e=some u):Un fs ex H (upd H x o) h h':=by
 have hx:∀ b,H b=none→b≠x:=fun b n z=>by subst z;rw [n] at mu;exact mu
 have hb:∀ b,H b=none→b≠e:=fun b n z=>by
  subst z
  rcases he with r | r
  ·exact hx b n r
  ·rw [n] at r;cases r
 have hm:∀ b u,H b=some u→¬ CK (some u)→b≠x:=fun b u q nm z=>by subst z;rw [q] at mu;exact nm mu
 refine ⟨fun b u q n _ _=>k b u (hb b n) q,fun b u q n _ _=>⟨u.slots,k b u (hb b n) q⟩,fun b u q n _=>by rw [bx (hx b n)];exact n,fun b u q _=>?_,
  fun b xs q=>by rw [bx (hm b _ q fun z=>z)];exact q,fun b u xs q=>by rw [bx (hm b _ q fun z=>z)];exact q,fun b ps q=>⟨#[],by rw [bx (hm b _ q fun z=>z),q];simp⟩⟩
 by_cases ri:b=e
 ·subst ri;exact uc
 ·exact ⟨u,k b u ri q⟩
end
noncomputable def CL (h:Heap) (H:Hp):List Addr:=(List.range h.objs.size).filter fun a=>(H a).isSome
noncomputable def kg (h:Heap) (H:Hp):Heap:=PySem.W.hideAll h (CL h H)
theorem xP (h:Heap) (H:Hp):(kg h H).objs.size=h.objs.size:=PySem.W.hideAll_size _ _
theorem zZ {h:Heap}{H:Hp}{b:Addr}{o:Obj}(e:h.get? b=some o) (n:H b=none):(kg h H).get? b=some o:=
 PySem.W.hideAll_get _ e fun hm=>by
  have q:(H b).isSome=true:=(List.mem_filter.mp hm).2
  rw [n] at q;simp at q
theorem ES {h:Heap}{H:Hp}{b:Addr}{o:Obj}(e:(kg h H).get? b=some o):h.get? b=some o∧H b=none:=by
 have e':h.get? b=some o:=PySem.W.of_hideAll (CL h H) e
 refine ⟨e',?_⟩
 cases q:H b with
 | none=>rfl
 | some x=>
  have hm:b∈CL h H:=List.mem_filter.mpr ⟨List.mem_range.mpr (Heap.lt_size e'),by simp [q]⟩
  have z:(kg h H).get? b=none:=PySem.W.hideAll_none (CL h H) hm
  rw [z] at e;cases e
noncomputable def ET (g h:Heap) (L:Addr):List (Addr×Obj):=(List.range h.objs.size).filterMap fun a=>if a=L∨(g.get? a).isSome=true then none else (h.get? a).map fun o=>(a,o)
noncomputable def rest (g h:Heap) (L d:Addr):List (Addr×Obj):=(ET g h L).filter fun p=>decide (p.1≠d)
end L2
namespace L2
open PySem PySem.Spec PyProof.Rows
structure Mod (K:PySem.W.Frag) (mg:Str→Option Value) (base:Heap):Prop where
 CM:K.In base
 glob:base.Ns mainGlobals mg
 blt:∃ mb,base.Ns builtinsNs mb∧∀ x:Str,x≠"__name__" →mb x=bootBuiltins x
 nolimit:base.NoLimit
structure Cx where
 prog:Program
 w:World
 K:PySem.W.Frag
 mg:Str→Option Value
 base:Heap
 A:Around
 N:List Str
 s₀:Shared
 H₀:Hp
 env:Env
 outer:List Env
 stack:List Env
 ex:List Addr
 fn:Str→Bool
 calm:Bool
 pn:List (Addr×Obj)
 xe:Value→Shared→Prop
noncomputable def frs (l:List Env):List Addr:=l.filterMap (·.frame)
noncomputable abbrev Cx.fs (X:Cx):List Addr:=frs X.outer
noncomputable def xQ (sc:Scope) (x:Str):Prop:=sc.names.lookup x=some .local∨sc.names.lookup x=some .cell∨sc.names.lookup x=some .free
noncomputable def Loc (sc:Scope) (x:Str):Prop:=sc.names.lookup x=some .local∨sc.names.lookup x=some .cell
noncomputable def Look (env:Env) (h:Heap) (m:Str→Option Value) (x:Str) (u:Value):Prop:=
 (env.kindOf x=some .local∧m x=some u)∨((env.kindOf x=some .cell∨env.kindOf x=some .free)∧∃ c,env.cells.lookup x=some c∧h.IsCell c (some u))
structure Cx.Ok (X:Cx):Prop where
 mod:Mod X.K X.mg X.base
 kind:X.env.scope.kind=.function
 glob:X.env.globals=mainGlobals
 blt:X.env.builtins=builtinsNs
 above:X.s₀.heap.objs.size≤X.env.locals
 inj:∀ x y c,X.env.cells.lookup x=some c→X.env.cells.lookup y=some c→x=y
 has:∀ x,(X.env.kindOf x=some .cell∨X.env.kindOf x=some .free)→∃ c,X.env.cells.lookup x=some c
 ud:∀ x c,X.fn x=true→X.env.cells.lookup x=some c→X.s₀.heap.objs.size≤c
 hd:X.calm=true→X.A.handled=none
 frames:X.A.frames=some X.stack
 stk:X.stack=X.outer∨(X.stack=X.env :: X.outer∧X.env.frame=some X.env.locals)
 CN:∀ b∈X.ex,b≠X.env.locals∧∀ x c,X.env.cells.lookup x=some c→c≠b
 bs:∀ b o,X.base.get? b=some o→X.s₀.heap.get? b=some o∧X.H₀ b=none
 qd:X.base.objs.size≤X.s₀.heap.objs.size
 pC:∀ b o,X.base.get? b=some o→b∉X.ex
 pD:∀ b∈X.ex,b∉X.fs
 iE:X.s₀.heap.FunFrames X.base X.outer
 rj:∀ b∈X.fs,X.H₀ b=none
structure Inv (X:Cx) (pins:List (Addr×Obj)) (σ:List (Option V)) (H:Hp) (s:Shared):Prop where
 ok:X.Ok
 os:s.os=X.s₀.os
 bare:AllBare s.gens
 base:Un X.fs X.ex X.H₀ H X.s₀.heap s.heap
 loc:∃ m,s.heap.Ns X.env.locals m∧∀ (i:Nat) (x:Str) (v:V),X.N[i]?=some x→σ[i]?=some (some v)→xQ X.env.scope x→∃ u,RelV v u∧Look X.env s.heap m x u
 cell:∀ x c,X.env.cells.lookup x=some c→∃ v,s.heap.IsCell c v
 free:H X.env.locals=none
 ir:∀ x c,X.env.cells.lookup x=some c→H c=none
 pin:∀ p∈X.pn++pins,s.heap.get? p.1=some p.2∧H p.1=none∧p.1≠X.env.locals∧p.1∉X.fs∧∀ v,p.2.data≠.cell v
 hok:fy X.prog X.w H s.heap
 len:σ.length=X.N.length
section
variable {X:Cx}{pins:List (Addr×Obj)}{σ:List (Option V)}{H H':Hp}{s:Shared}{h':Heap}
theorem Cx.Ok.SG (ok:X.Ok) {b:Addr}{o:Obj}(e:X.base.get? b=some o):b∉X.fs:=fun hb=>by
 have:=(ok.iE.mem hb).1
 rw [e] at this;cases this
theorem Inv.bs (I:Inv X pins σ H s):∀ b o,X.base.get? b=some o→s.heap.get? b=some o∧H b=none:=fun b o e=>
 ⟨I.base.keep b o (I.ok.bs b o e).1 (I.ok.bs b o e).2 (I.ok.SG e) (I.ok.pC b o e),I.base.free b o (I.ok.bs b o e).1 (I.ok.bs b o e).2 (I.ok.pC b o e)⟩
theorem Inv.bk (I:Inv X pins σ H s):∀ b o,X.base.get? b=some o→s.heap.get? b=some o:=fun b o e=>(I.bs b o e).1
theorem Inv.mod (I:Inv X pins σ H s):Mod X.K X.mg X.base:=I.ok.mod
theorem Inv.rq (I:Inv X pins σ H s):X.K.In s.heap:=I.ok.mod.CM.keeps I.bk
theorem Inv.lt (I:Inv X pins σ H s):X.env.locals<s.heap.objs.size:=let ⟨_,hn,_⟩:=I.loc;hn.lt
theorem Inv.sz (I:Inv X pins σ H s):X.s₀.heap.objs.size≤s.heap.objs.size:=Nat.le_trans I.ok.above (Nat.le_of_lt I.lt)
theorem Inv.SH (I:Inv X pins σ H s) {a:Addr}(h:s.heap.objs.size≤a):a∉X.fs:=fun hb=>by
 obtain ⟨_,o,ho,_⟩:=I.ok.iE.mem hb
 exact absurd (Nat.lt_of_lt_of_le (Heap.lt_size ho) (Nat.le_trans I.sz h)) (Nat.lt_irrefl _)
theorem Inv.rz (I:Inv X pins σ H s):∀ x c,X.env.cells.lookup x=some c→c≠X.env.locals:=fun x c e z=>by
 obtain ⟨v,o,ho,hd⟩:=I.cell x c e
 obtain ⟨m,⟨o',es,ep,ho',hd',_⟩,_⟩:=I.loc
 rw [z,ho'] at ho;cases ho;rw [hd'] at hd;cases hd
theorem Inv.iE (I:Inv X pins σ H s):s.heap.FunFrames X.base X.outer:=by
 have all:∀ (l:List Env),(∀ b∈frs l,b∈X.fs)→X.s₀.heap.FunFrames X.base l→s.heap.FunFrames X.base l:=by
  intro l
  induction l with
  | nil=>intro _ _;trivial
  | cons env r ih=>
   intro hs hl
   obtain ⟨hk,⟨L,o,hf,hn,ho,hd⟩,hr⟩:=hl
   have hL:L∈X.fs:=hs L (by unfold frs;rw [List.filterMap_cons,hf];exact List.mem_cons_self)
   obtain ⟨sl,e⟩:=I.base.slot L o ho (I.ok.rj L hL) hL fun z=>I.ok.pD L z hL
   exact ⟨hk,⟨L,_,hf,hn,e,hd⟩,ih (fun b hb=>hs b (by unfold frs;rw [List.filterMap_cons,hf];exact List.mem_cons_of_mem _ hb)) hr⟩
 exact all X.outer (fun _ hb=>hb) I.ok.iE
theorem Inv.stack (I:Inv X pins σ H s):s.heap.FunFrames X.base X.stack:=by
 rcases I.ok.stk with e | ⟨e,hf⟩
 ·rw [e];exact I.iE
 ·rw [e]
  obtain ⟨m,hn,_⟩:=I.loc
  refine .cons (by rw [I.ok.kind];decide) hf hn ?_ I.iE
  exact Heap.get?_none_of_le (Nat.le_trans I.ok.qd I.ok.above)
theorem Inv.rA (I:Inv X pins σ H s):∀ b∈frs X.stack,b∈X.env.locals :: X.fs:=fun b hb=>by
 rcases I.ok.stk with e | ⟨e,hf⟩
 ·rw [e] at hb;exact List.mem_cons_of_mem _ hb
 ·rw [e] at hb
  unfold frs at hb
  rw [List.filterMap_cons,hf] at hb
  exact hb
theorem Inv.ue (I:Inv X pins σ H s):∀ b∈frs X.stack,H b=none:=fun b hb=>by
 rcases List.mem_cons.mp (I.rA b hb) with e | hb
 ·rw [e];exact I.free
 ·obtain ⟨_,o,ho,_⟩:=I.ok.iE.mem hb
  exact I.base.free b o ho (I.ok.rj b hb) fun z=>I.ok.pD b z hb
theorem Inv.step {g':Array GenState}{t':Nat}{d':Drawn}{ch:List Addr}(I:Inv X pins σ H s)
  (hch:∀ b∈ch,(b∈X.ex∨X.s₀.heap.objs.size≤b)∧b≠X.env.locals∧(∀ x c,X.env.cells.lookup x=some c→c≠b)∧∀ p∈X.pn++pins,p.1≠b)
  (keep:∀ b o,b≠X.env.locals→b∉X.fs→b∉ch→s.heap.get? b=some o→H b=none→h'.get? b=some o)
  (slot:∀ b o,b≠X.env.locals→b∈X.fs→b∉ch→s.heap.get? b=some o→H b=none→∃ sl,h'.get? b=some { o with slots:=sl }) (free:∀ b o,b∉ch→s.heap.get? b=some o→H b=none→H' b=none)
  (there:∀ b o,b∉ch→s.heap.get? b=some o→∃ o',h'.get? b=some o')
  (tups:∀ b xs,H b=some (.tup xs)→H' b=some (.tup xs)) (kc:∀ b o u,H b=some (.bS o u)→H' b=some (.bS o u)) (kO:∀ b ps,H b=some (.q9 ps)→∃ more,H' b=some (.q9 (ps++more)))
  (ns:∀ m,s.heap.Ns X.env.locals m→h'.Ns X.env.locals m) (hok:fy X.prog X.w H' h') (hg:AllBare g') :
  Inv X pins σ H' { s with heap:=h',gens:=g',drawn:=d',toks:=t' }:=by
 have Qe:∀ b o,X.s₀.heap.get? b=some o→b≠X.env.locals:=fun b o e=>Nat.ne_of_lt (Nat.lt_of_lt_of_le (Heap.lt_size e) I.ok.above)
 have CO:∀ b o,X.s₀.heap.get? b=some o→b∉X.ex→b∉ch:=fun b o e hx hb=>by
  rcases (hch b hb).1 with z | z
  ·exact hx z
  ·exact absurd (Nat.lt_of_lt_of_le (Heap.lt_size e) z) (Nat.lt_irrefl _)
 have cellK:∀ x c,X.env.cells.lookup x=some c→∀ v,s.heap.IsCell c v→h'.IsCell c v:=fun x c e v ⟨o,ho,hd⟩=>by
  have xR:c∉ch:=fun z=>(hch c z).2.2.1 x c e rfl
  by_cases hc:c∈X.fs
  ·obtain ⟨sl,q⟩:=slot c o (I.rz x c e) hc xR ho (I.ir x c e)
   exact ⟨_,q,hd⟩
  ·exact ⟨o,keep c o (I.rz x c e) hc xR ho (I.ir x c e),hd⟩
 refine ⟨I.ok,I.os,hg,⟨fun b o e n hb hx=>?_,fun b o e n hb hx=>?_,fun b o e n hx=>?_,fun b o e hx=>?_,fun b xs e=>tups b xs (I.base.tups b xs e),fun b o xs e=>kc b o xs (I.base.kc b o xs e),fun b ps e=>?_⟩,?_,fun x c e=>?_,?_,fun x c e=>?_,fun p hp=>?_,hok,I.len⟩
 ·exact keep b o (Qe b o e) hb (CO b o e hx) (I.base.keep b o e n hb hx) (I.base.free b o e n hx)
 ·obtain ⟨sl,e1⟩:=I.base.slot b o e n hb hx
  obtain ⟨VP,e2⟩:=slot b _ (Qe b o e) hb (CO b o e hx) e1 (I.base.free b o e n hx)
  exact ⟨VP,e2⟩
 ·obtain ⟨o',e1⟩:=I.base.there b o e hx
  exact free b o' (CO b o e hx) e1 (I.base.free b o e n hx)
 ·obtain ⟨o',e1⟩:=I.base.there b o e hx
  exact there b o' (CO b o e hx) e1
 ·obtain ⟨m1,e1⟩:=I.base.kO b ps e
  obtain ⟨m2,e2⟩:=kO b _ e1
  exact ⟨m1++m2,by rw [e2,Array.append_assoc]⟩
 ·obtain ⟨m,hn,hl⟩:=I.loc
  refine ⟨m,ns m hn,fun i x v e1 e2 e3=>?_⟩
  obtain ⟨u,r,l⟩:=hl i x v e1 e2 e3
  refine ⟨u,r,?_⟩
  rcases l with l | ⟨k,c,e,z⟩
  ·exact .inl l
  ·exact .inr ⟨k,c,e,cellK x c e _ z⟩
 ·obtain ⟨v,z⟩:=I.cell x c e
  exact ⟨v,cellK x c e v z⟩
 ·obtain ⟨m,⟨o,_,_,ho,_⟩,_⟩:=I.loc
  exact free _ o (fun z=>(hch _ z).2.1 rfl) ho I.free
 ·obtain ⟨v,o,ho,hd⟩:=I.cell x c e
  exact free c o (fun z=>(hch c z).2.2.1 x c e rfl) ho (I.ir x c e)
 ·obtain ⟨e,n,ne,nf,d⟩:=I.pin p hp
  have xR:p.1∉ch:=fun z=>(hch p.1 z).2.2.2 p hp rfl
  exact ⟨keep p.1 p.2 ne nf xR e n,free p.1 p.2 xR e n,ne,nf,d⟩
theorem Inv.un {t':Nat}(I:Inv X pins σ H s) (u:Un X.fs [] H H' s.heap h') (hok:fy X.prog X.w H' h'):Inv X pins σ H' { s with heap:=h',toks:=t' }:=by
 obtain ⟨m,⟨o,es,ep,ho,r⟩,_⟩:=id I.loc
 obtain ⟨sl,hL⟩:=u.any ho I.free (by simp)
 exact I.step (g':=s.gens) (d':=s.drawn) (ch:=[]) (fun _ z=>nomatch z) (fun b o _ hb _ e n=>u.keep b o e n hb (by simp)) (fun b o _ hb _ e n=>u.slot b o e n hb (by simp)) (fun b o _ e n=>u.free b o e n (by simp)) (fun b o _ e=>u.there b o e (by simp)) u.tups u.kc u.kO (fun m' hm=>by
  obtain ⟨o',es',Ht,ho',r'⟩:=hm
  rw [ho] at ho';cases ho'
  exact ⟨_,es',Ht,hL,r'⟩) hok I.bare
theorem Inv.call {g':Array GenState}{t':Nat}{d':Drawn}{ch:List Addr}(I:Inv X pins σ H s) (u:Un (frs X.stack) ch H H' s.heap h') (hok:fy X.prog X.w H' h') (hg:AllBare g')
  (hch:∀ b∈ch,(b∈X.ex∨X.s₀.heap.objs.size≤b)∧b≠X.env.locals∧(∀ x c,X.env.cells.lookup x=some c→c≠b)∧∀ p∈X.pn++pins,p.1≠b) :
  Inv X pins σ H' { s with heap:=h',gens:=g',drawn:=d',toks:=t' }:=by
 obtain ⟨m,⟨o,es,ep,ho,r⟩,_⟩:=id I.loc
 obtain ⟨sl,hL⟩:=u.any ho I.free fun z=>(hch _ z).2.1 rfl
 exact I.step (ch:=ch) hch (fun b o hL hb hc e n=>u.keep b o e n (fun z=>(List.mem_cons.mp (I.rA b z)).elim hL hb) hc) (fun b o _ _ hc e n=>u.any e n hc) (fun b o hc e n=>u.free b o e n hc) (fun b o hc e=>u.there b o e hc) u.tups u.kc u.kO (fun m' hm=>by
  obtain ⟨o',es',Ht,ho',r'⟩:=hm
  rw [ho] at ho';cases ho'
  exact ⟨_,es',Ht,hL,r'⟩) hok hg
theorem Inv.turned {t':Nat}{it:Addr}(I:Inv X pins σ H s)(k:∀ b o,b≠it→s.heap.get? b=some o→h'.get? b=some o)(hn:H it=none)(hL:it≠X.env.locals)
  (h1:it∈X.ex∨X.s₀.heap.objs.size≤it) (h2:∀ x c,X.env.cells.lookup x=some c→c≠it) (h3:∀ p∈X.pn++pins,p.1≠it):Inv X pins σ H { s with heap:=h',toks:=t' }:=by
 have xS:∀ b u,H b=some u→b≠it:=fun b u e z=>by rw [z,hn] at e;cases e
 refine I.step (g':=s.gens) (d':=s.drawn) (ch:=[it]) (fun b hb=>?_) (fun b o _ _ hc e _=>k b o (fun z=>hc (by simp [z])) e) (fun b o _ _ hc e _=>⟨o.slots,k b o (fun z=>hc (by simp [z])) e⟩) (fun _ _ _ _ n=>n)
  (fun b o hc e=>⟨o,k b o (fun z=>hc (by simp [z])) e⟩) (fun _ _ e=>e) (fun _ _ _ e=>e) (fun b ps e=>⟨#[],by rw [e];simp⟩) (fun m hm=>?_) (fun b u e=>?_) I.bare
 ·have e:b=it:=by simpa using hb
  subst e
  exact ⟨h1,hL,h2,h3⟩
 ·obtain ⟨o,es,ep,ho,r⟩:=hm
  exact ⟨o,es,ep,k _ o (Ne.symm hL) ho,r⟩
 ·refine (I.hok b u e).stay (fun c v hc q=>k c v ?_ q) (fun _ q=>q) fun _ _ q=>q
  rcases hc with z | z
  ·rw [z];exact xS b u e
  ·exact xS c _ z
theorem Inv.tok (I:Inv X pins σ H s) (t:Nat):Inv X pins σ H { s with toks:=t }:=I.un (h':=s.heap) (t':=t) Un.refl I.hok
theorem Inv.kept {t':Nat}(I:Inv X pins σ H s) (k:∀ b u,s.heap.get? b=some u→h'.get? b=some u):Inv X pins σ H { s with heap:=h',toks:=t' }:=I.un (Un.kept k) (I.hok.kept k)
theorem Inv.laid {a:Addr}{o:HO}{t':Nat}(I:Inv X pins σ H s) (k:∀ b u,s.heap.get? b=some u→h'.get? b=some u) (hp:s.heap.objs.size≤a) (new:fM X.prog X.w (upd H a o) h' a o) :
  Inv X pins σ (upd H a o) { s with heap:=h',toks:=t' }:=I.un (Un.laid k hp (I.hok.fresh hp)) (I.hok.laid k hp new)
theorem Inv.write {x e:Addr}{o:HO}{t':Nat}(I:Inv X pins σ H s) (mu:CK (H x)) (he:e=x∨H e=some (.own x)) (k:∀ b u,b≠e→s.heap.get? b=some u→h'.get? b=some u) (uc:∃ u,h'.get? e=some u)
  (new:fM X.prog X.w (upd H x o) h' x o):Inv X pins σ (upd H x o) { s with heap:=h',toks:=t' }:=I.un (Un.write mu he k uc) (I.hok.write mu he k uc new)
theorem Inv.uf {CP:List (Addr×Obj)}(I:Inv X pins σ H s) (h:∀ p∈CP,s.heap.get? p.1=some p.2∧H p.1=none∧p.1≠X.env.locals∧p.1∉X.fs∧∀ v,p.2.data≠.cell v):Inv X CP σ H s:=
 ⟨I.ok,I.os,I.bare,I.base,I.loc,I.cell,I.free,I.ir,fun p hp=>(List.mem_append.mp hp).elim (fun z=>I.pin p (List.mem_append_left _ z)) (h p),I.hok,I.len⟩
theorem rB {N:List Str}(hN:N.Nodup) {i j:Nat}{x:Str}(a:N[i]?=some x) (b:N[j]?=some x):i=j:=by
 obtain ⟨h1,e1⟩:=List.getElem?_eq_some_iff.mp a
 obtain ⟨h2,e2⟩:=List.getElem?_eq_some_iff.mp b
 exact (List.getElem_inj hN).mp (e1.trans e2.symm)
theorem qe {M:Model}{A:Around}{E:Value→Shared→Prop}{i:Nat}{x:Str}{v:V}{u:Value}{Q:Unit→Shared→Prop}(I:Inv X pins σ H s) (hN:X.N.Nodup) (hi:X.N[i]?=some x) (hx:Loc X.env.scope x) (r:RelV v u)
  (h:∀ s',Inv X pins (σ.set i (some v)) H s'→(∃ a,Heap.SameBut a s.heap s'.heap∧(a=X.env.locals∨X.env.cells.lookup x=some a))→Q () s') (hf:X.fn x=true∨X.env.scope.names.lookup x=some .local:=by first | exact .inl rfl | exact .inr rfl | assumption):wpAny M A (storeName X.env x u) Q E s:=by
 obtain ⟨m,hn,hl⟩:=id I.loc
 have hcls:(X.env.scope.kind==.class || (X.env.scope.kind==.module&&X.env.locals != X.env.globals))=false:=by rw [I.ok.kind];rfl
 have Hu:i<σ.length:=by rw [I.len];exact (List.getElem?_eq_some_iff.mp hi).1
 have rz:=I.rz
 have tracked:∀ {a:Addr} {h':Heap},(∃ o,s.heap.get? a=some o∧H a=none)→Heap.SameBut a s.heap h'→fy X.prog X.w H h':=fun {a h'} ha hs b ob e=>by
  obtain ⟨_,_,hfree⟩:=ha
  refine (I.hok b ob e).stay (fun c w' hc q=>(hs.2 c ?_).trans q) (fun _ q=>q) fun _ _ q=>q
  rintro rfl
  rcases hc with rfl | hc
  ·rw [hfree] at e;cases e
  ·rw [hfree] at hc;cases hc
 rcases hx with hk | hk
 ·refine wpAny_storeName_local hk hn (fun h' hn' hs=>?_) hcls
  obtain ⟨oL,_,_,VQ,_⟩:=id hn
  refine h _ ⟨I.ok,I.os,I.bare,⟨fun b o e n hb hx=>?_,fun b o e n hb hx=>?_,I.base.free,fun b o e hx=>?_,I.base.tups,I.base.kc,I.base.kO⟩,⟨_,hn',fun j y v' e1 e2 e3=>?_⟩,fun y c e=>?_,I.free,I.ir,fun p hp=>?_,tracked ⟨oL,VQ,I.free⟩ hs,by simpa using I.len⟩ ⟨_,hs,.inl rfl⟩
  ·exact (hs.2 b (Nat.ne_of_lt (Nat.lt_of_lt_of_le (Heap.lt_size e) I.ok.above))).trans (I.base.keep b o e n hb hx)
  ·obtain ⟨sl,e1⟩:=I.base.slot b o e n hb hx
   exact ⟨sl,(hs.2 b (Nat.ne_of_lt (Nat.lt_of_lt_of_le (Heap.lt_size e) I.ok.above))).trans e1⟩
  ·obtain ⟨o',e1⟩:=I.base.there b o e hx
   exact ⟨o',(hs.2 b (Nat.ne_of_lt (Nat.lt_of_lt_of_le (Heap.lt_size e) I.ok.above))).trans e1⟩
  ·by_cases hj:j=i
   ·subst hj
    rw [hi] at e1;cases e1
    rw [List.getElem?_set_self Hu] at e2
    cases e2
    exact ⟨u,r,.inl ⟨hk,by simp⟩⟩
   ·rw [List.getElem?_set_ne (Ne.symm hj)] at e2
    obtain ⟨u',r',q⟩:=hl j y v' e1 e2 e3
    refine ⟨u',r',?_⟩
    rcases q with ⟨k,e⟩ | ⟨k,c,e,z⟩
    ·refine .inl ⟨k,?_⟩
     have:y≠x:=fun e=>hj (rB hN e1 (e▸hi))
     simp [this,e]
    ·exact .inr ⟨k,c,e,z.sameBut hs (rz y c e)⟩
  ·obtain ⟨w',z⟩:=I.cell y c e
   exact ⟨w',z.sameBut hs (rz y c e)⟩
  ·obtain ⟨e,n,ne,nf,d⟩:=I.pin p hp
   exact ⟨(hs.2 p.1 ne).trans e,n,ne,nf,d⟩
 ·have hfn:X.fn x=true:=by
   rcases hf with z | z
   ·exact z
   ·rw [z] at hk;cases hk
  obtain ⟨c,hc⟩:=I.ok.has x (.inl hk)
  obtain ⟨w',z⟩:=I.cell x c hc
  refine wpAny_storeName_cell I.ok.kind hk hc z (fun h' hc' hs=>?_)
  obtain ⟨oc,hoc,SI⟩:=id z
  refine h { s with heap:=h' } ⟨I.ok,I.os,I.bare,⟨fun b o e n hb hx=>?_,fun b o e n hb hx=>?_,I.base.free,fun b o e hx=>?_,I.base.tups,I.base.kc,I.base.kO⟩,⟨m,hn.sameBut hs (Ne.symm (rz x c hc)),fun j y v' e1 e2 e3=>?_⟩,fun y c' e=>?_,I.free,I.ir,fun p hp=>?_,tracked ⟨oc,hoc,I.ir x c hc⟩ hs,by simpa using I.len⟩ ⟨c,hs,.inr hc⟩
  ·exact (hs.2 b (Nat.ne_of_lt (Nat.lt_of_lt_of_le (Heap.lt_size e) (I.ok.ud x c hfn hc)))).trans (I.base.keep b o e n hb hx)
  ·obtain ⟨sl,e1⟩:=I.base.slot b o e n hb hx
   exact ⟨sl,(hs.2 b (Nat.ne_of_lt (Nat.lt_of_lt_of_le (Heap.lt_size e) (I.ok.ud x c hfn hc)))).trans e1⟩
  ·obtain ⟨o',e1⟩:=I.base.there b o e hx
   exact ⟨o',(hs.2 b (Nat.ne_of_lt (Nat.lt_of_lt_of_le (Heap.lt_size e) (I.ok.ud x c hfn hc)))).trans e1⟩
  ·by_cases hj:j=i
   ·subst hj
    rw [hi] at e1;cases e1
    rw [List.getElem?_set_self Hu] at e2
    cases e2
    exact ⟨u,r,.inr ⟨.inl hk,c,hc,hc'⟩⟩
   ·rw [List.getElem?_set_ne (Ne.symm hj)] at e2
    obtain ⟨u',r',q⟩:=hl j y v' e1 e2 e3
    refine ⟨u',r',?_⟩
    rcases q with q | ⟨k,c',e,z'⟩
    ·exact .inl q
    ·refine .inr ⟨k,c',e,z'.sameBut hs ?_⟩
     rintro rfl
     exact hj (rB hN e1 (I.ok.inj _ _ _ e hc▸hi))
  ·by_cases hcc:c'=c
   ·subst hcc;exact ⟨_,hc'⟩
   ·obtain ⟨w2,z2⟩:=I.cell y c' e
    exact ⟨w2,z2.sameBut hs hcc⟩
  ·obtain ⟨e,n,ne,nf,d⟩:=I.pin p hp
   refine ⟨(hs.2 p.1 ?_).trans e,n,ne,nf,d⟩
   intro q
   rw [q,hoc] at e
   have q':oc=p.2:=Option.some.inj e
   exact d w' (by rw [←q'];exact SI)
theorem rC {M:Model}{A:Around}{E:Value→Shared→Prop}{i:Nat}{x:Str}{v:V}{u:Value}{Q:Unit→Shared→Prop}(I:Inv X pins σ H s) (hN:X.N.Nodup) (hi:X.N[i]?=some x) (hx:Loc X.env.scope x) (r:RelV v u)
  (h:∀ s',Inv X pins (σ.set i (some v)) H s'→Q () s') (hf:X.fn x=true∨X.env.scope.names.lookup x=some .local:=by first | exact .inl rfl | exact .inr rfl | assumption):wpAny M A (storeName X.env x u) Q E s:=
 qe I hN hi hx r (fun s' I' _=>h s' I') hf
theorem Inv.NW {s':Shared}{ch:List Addr}(I:Inv X pins σ H s) (ho:s'.os=s.os) (u:Un (frs X.stack) ch H H' s.heap s'.heap) (hok:fy X.prog X.w H' s'.heap) (hg:AllBare s'.gens)
  (hch:∀ b∈ch,(b∈X.ex∨X.s₀.heap.objs.size≤b)∧b≠X.env.locals∧(∀ x c,X.env.cells.lookup x=some c→c≠b)∧∀ p∈X.pn++pins,p.1≠b):Inv X pins σ H' s':=by
 obtain ⟨h',g',d',t',o'⟩:=s'
 have e:o'=s.os:=ho
 subst e
 exact I.call (g':=g') (t':=t') (d':=d') u hok hg hch
end
abbrev XK:=Value→Option Addr→Hp→Prop
abbrev St:=List (Option V)
abbrev VK:=V→Hp→Prop
abbrev TE:=St→Hp→VK→Prop
abbrev TT:=St→Hp→(Bool→Hp→Prop)→Prop
abbrev TA:=St→Hp→(List V→Hp→Prop)→Prop
structure Ends where
 nx:St→Hp→Prop
 rt:VK
 bk:St→Hp→Prop:=fun _ _=>False
 ct:St→Hp→Prop:=fun _ _=>False
abbrev TS:=Ends→St→Hp→Prop
noncomputable def EP (X:Cx) (pins:List (Addr×Obj)) (σ:St) (Q:VK) (u:Value) (s':Shared):Prop:=∃ v H',Inv X pins σ H' s'∧RelV v u∧Q v H'
noncomputable def TP (X:Cx) (pins:List (Addr×Obj)) (σ:St) (Q:Bool→Hp→Prop) (b:Bool) (s':Shared):Prop:=∃ H',Inv X pins σ H' s'∧Q b H'
noncomputable def AP (X:Cx) (pins:List (Addr×Obj)) (σ:St) (Q:List V→Hp→Prop) (us:List Value) (s':Shared):Prop:=∃ vs H',Inv X pins σ H' s'∧Vals vs us∧Q vs H'
noncomputable def SP (X:Cx) (pins:List (Addr×Obj)) (D:Ends) (f:Flow) (s':Shared):Prop:=
 match f with
 | .next=>∃ σ' H',Inv X pins σ' H' s'∧D.nx σ' H'
 | .brk=>∃ σ' H',Inv X pins σ' H' s'∧D.bk σ' H'
 | .cont=>∃ σ' H',Inv X pins σ' H' s'∧D.ct σ' H'
 | .ret u=>∃ v σ' H',Inv X pins σ' H' s'∧RelV v u∧D.rt v H'
noncomputable def PE (X:Cx) (e:Expr) (t:TE):Prop:=
 ∀ (pins:List (Addr×Obj)) (s:Shared) (σ:St) (H:Hp) (Q:VK),Inv X pins σ H s→t σ H Q→wpAny (model X.prog X.w) X.A (eval e X.env) (EP X pins σ Q) X.xe s
noncomputable def PT (X:Cx) (e:Expr) (t:TT):Prop:=
 ∀ (pins:List (Addr×Obj)) (s:Shared) (σ:St) (H:Hp) (Q:Bool→Hp→Prop),Inv X pins σ H s→t σ H Q→wpAny (model X.prog X.w) X.A (isTrue e X.env (eval e X.env)) (TP X pins σ Q) X.xe s
noncomputable def PW (X:Cx) (e:Expr) (t:TT):Prop:=
 ∀ (whole:Sem Value) (pins:List (Addr×Obj)) (s:Shared) (σ:St) (H:Hp) (Q:Bool→Hp→Prop),Inv X pins σ H s→t σ H Q→wpAny (model X.prog X.w) X.A (isTrue e X.env whole) (TP X pins σ Q) X.xe s
theorem PW.pt {X:Cx}{e:Expr}{t:TT}(h:PW X e t):PT X e t:=h _
noncomputable def PA (X:Cx) (es:List Expr) (t:TA):Prop:=
 ∀ (pos:Pos) (pins:List (Addr×Obj)) (s:Shared) (σ:St) (H:Hp) (Q:List V→Hp→Prop),Inv X pins σ H s→t σ H Q→wpAny (model X.prog X.w) X.A (spliced (backTo pos (starEach es X.env))) (AP X pins σ Q) X.xe s
noncomputable def PS (X:Cx) (st:Stmt) (t:TS):Prop:=
 ∀ (pins:List (Addr×Obj)) (s:Shared) (σ:St) (H:Hp) (D:Ends),Inv X pins σ H s→t D σ H→wpAny (model X.prog X.w) X.A (exec st X.env) (SP X pins D) X.xe s
noncomputable def gS (X:Cx) (st:List Stmt) (t:TS):Prop:=
 ∀ (pins:List (Addr×Obj)) (s:Shared) (σ:St) (H:Hp) (D:Ends),Inv X pins σ H s→t D σ H→wpAny (model X.prog X.w) X.A (execs st X.env) (SP X pins D) X.xe s
theorem bG {α:Type}{t:Sem α}{Q Q':α→Shared→Prop}{M:Model}{A:Around}{E:Value→Shared→Prop}{s:Shared}(h:wpAny M A t Q E s) (hQ:∀ a s,Q a s→Q' a s):wpAny M A t Q' E s:=wpAny_mono h hQ fun _ _ x=>x
end L2
namespace L2
open PySem PySem.Spec PyProof.Rows
section
variable {X:Cx}
theorem bin {a b:Expr}{ta tb:TE}(ha:PE X a ta) (hb:PE X b tb) {pins:List (Addr×Obj)}{s:Shared}{σ:St}{H:Hp}{R:V→V→Hp→Prop}(I:Inv X pins σ H s) (h:ta σ H fun x H1=>tb σ H1 fun y H2=>R x y H2)
  {α:Type} {Q:α→Shared→Prop} {f:Value→Value→Sem α}
  (hf:∀ v u s2 x y H2,Inv X pins σ H2 s2→RelV x v→RelV y u→R x y H2→wpAny (model X.prog X.w) X.A (f v u) Q X.xe s2) :
  wpAny (model X.prog X.w) X.A (eval a X.env) (fun v s₁=>wpAny (model X.prog X.w) X.A (eval b X.env) (fun u s₂=>wpAny (model X.prog X.w) X.A (f v u) Q X.xe s₂) X.xe s₁) X.xe s:=by
 refine bG (ha pins s σ H _ I h) fun v s1 ⟨x,H1,I1,r1,q1⟩=>?_
 refine bG (hb pins s1 σ H1 _ I1 q1) fun u s2 ⟨y,H2,I2,r2,q2⟩=>?_
 exact hf v u s2 x y H2 I2 r1 r2 q2
noncomputable def Hv (i:Nat):TE:=fun σ H Q=>∃ v,σ[i]?=some (some v)∧Q v H
noncomputable def tC (v:V):TE:=fun _ H Q=>Q v H
theorem xT {i:Nat}{x:Str}{pos:Pos}(hN:X.N[i]?=some x) (hv:xQ X.env.scope x) (hd:(x==("__debug__" : Str))=false:=by decide) (hcd:(x==("__classdict__" : Str))=false:=by decide):PE X (.Name x pos) (Hv i):=by
 intro pins s σ H Q I h
 obtain ⟨v,e,h⟩:=h
 obtain ⟨m,hn,hl⟩:=I.loc
 obtain ⟨u,r,l⟩:=hl i x v hN e hv
 have fin:EP X pins σ Q u s:=⟨v,H,I,r,h⟩
 rcases l with ⟨hk,hm⟩ | ⟨hk,c,hc,hcell⟩
 ·exact wpAny_Name (wpAny_loadName_local I.ok.kind hk hn hm fin) hd
 ·rcases hk with hk | hk
  ·exact wpAny_Name (wpAny_loadName_cell I.ok.kind hk hc hcell fin) hd
  ·exact wpAny_Name (wpAny_loadName_free I.ok.kind hk hc hcell fin hcd) hd
theorem Hw {i j pos}:PE X (.Constant (.int i) j pos) (tC (.int i)):=fun _ _ _ H _ I h=>wpAny_Constant_int ⟨.int i,H,I.tok _,⟨_,rfl⟩,h⟩
theorem NX {b j pos}:PE X (.Constant (.bool b) j pos) (tC (.bl b)):=fun _ _ _ H _ I h=>Constant_bool ⟨.bl b,H,I,rfl,h⟩
theorem Hx {j pos}:PE X (.Constant .none j pos) (tC .aY):=fun _ _ _ H _ I h=>Constant_none ⟨.aY,H,I,rfl,h⟩
theorem Hy {x j pos}:PE X (.Constant (.str x) j pos) (tC (.str x)):=fun _ _ _ H _ I h=>Calls.Constant_str ⟨.str x,H,I.tok _,⟨_,rfl⟩,h⟩
noncomputable def Gl (X:Cx) (x:Str):Prop:=X.env.kindOf x=some .globalImplicit
theorem EU {E:Value→Shared→Prop}{pins:List (Addr×Obj)}{s:Shared}{σ:St}{H:Hp}{x:Str}{u:Value}{pos:Pos}{Q:Value→Shared→Prop}(I:Inv X pins σ H s) (hg:Gl X x) (hm:X.mg x=some u) (h:Q u s)
  (hd:(x==("__debug__" : Str))=false:=by decide):wpAny (model X.prog X.w) X.A (eval (.Name x pos) X.env) Q E s:=
 Calls.Name_function_global I.ok.kind hg (Calls.loadGlobal_global (by rw [I.ok.glob];exact I.mod.glob.keeps I.bk) hm h) hd
theorem jR {E:Value→Shared→Prop}{pins:List (Addr×Obj)}{s:Shared}{σ:St}{H:Hp}{x:Str}{u:Value}{pos:Pos}{Q:Value→Shared→Prop}(I:Inv X pins σ H s) (hg:Gl X x) (hm:X.mg x=none) (hv:bootBuiltins x=some u) (h:Q u s)
  (hn:x≠"__name__" :=by decide) (hd:(x==("__debug__" : Str))=false:=by decide):wpAny (model X.prog X.w) X.A (eval (.Name x pos) X.env) Q E s:=by
 obtain ⟨mb,h1,h2⟩:=I.mod.blt
 exact Calls.Name_function_global I.ok.kind hg (Calls.loadGlobal_builtin (by rw [I.ok.glob];exact I.mod.glob.keeps I.bk) hm (by rw [I.ok.blt];exact h1.keeps I.bk) ((h2 x hn).trans hv) h) hd
variable {a b:Expr}{ta tb:TE}{pos:Pos}
variable {tA CQ:TT}{rest:List Expr}
noncomputable def SJ (t u:TT):TT:=fun σ H Q=>t σ H fun c H1=>if c=true then u σ H1 Q else Q false H1
noncomputable def VR (t u:TT):TT:=fun σ H Q=>t σ H fun c H1=>if c=true then Q true H1 else u σ H1 Q
noncomputable def SK (t:TT):TT:=fun σ H Q=>t σ H fun c H1=>Q (!c) H1
theorem EV (ha:PT X a tA):PW X (.BoolOp .And [a] pos) tA:=by
 intro wh pins s σ H Q I h
 refine isTrue_and (bG (ha pins s σ H Q I h) fun c s1 e=>?_)
 cases c with
 | true=>exact isTrue_and_nil e
 | false=>exact e
theorem Hz (ha:PT X a tA):PW X (.BoolOp .Or [a] pos) tA:=by
 intro wh pins s σ H Q I h
 refine isTrue_or (bG (ha pins s σ H Q I h) fun c s1 e=>?_)
 cases c with
 | false=>exact isTrue_or_nil e
 | true=>exact e
theorem HA (ha:PT X a tA) (hb:PW X (.BoolOp .And (b :: rest) pos) CQ):PW X (.BoolOp .And (a :: b :: rest) pos) (SJ tA CQ):=by
 intro wh pins s σ H Q I h
 refine isTrue_and (bG (ha pins s σ H _ I h) fun c s1 ⟨H1,I1,q1⟩=>?_)
 cases c with
 | true=>exact hb wh pins s1 σ H1 Q I1 q1
 | false=>exact ⟨H1,I1,q1⟩
theorem NY (ha:PT X a tA) (hb:PW X (.BoolOp .Or (b :: rest) pos) CQ):PW X (.BoolOp .Or (a :: b :: rest) pos) (VR tA CQ):=by
 intro wh pins s σ H Q I h
 refine isTrue_or (bG (ha pins s σ H _ I h) fun c s1 ⟨H1,I1,q1⟩=>?_)
 cases c with
 | true=>exact ⟨H1,I1,q1⟩
 | false=>exact hb wh pins s1 σ H1 Q I1 q1
theorem HB (ha:PT X a tA):PT X (.UnaryOp .Not a pos) (SK tA):=by
 intro pins s σ H Q I h
 exact isTrue_not (ha pins s σ H (fun c H1=>Q (!c) H1) I h)
noncomputable def NZ (ta tb:TE):TE:=fun σ H Q=>ta σ H fun x H1=>∃ c,x=.bl c∧if c=true then tb σ H1 Q else Q (.bl false) H1
theorem HC {op}{t:TE}(h:PE X a t):PE X (.BoolOp op [a] pos) t:=fun pins s σ H Q I hw=>BoolOp_one (h pins s σ H Q I hw)
theorem HD (ha:PE X a ta) (hb:PE X (.BoolOp .And (b :: rest) pos) tb):PE X (.BoolOp .And (a :: b :: rest) pos) (NZ ta tb):=by
 intro pins s σ H Q I h
 refine BoolOp_and (bG (ha pins s σ H _ I h) fun v s1 ⟨x,H1,I1,r1,q1⟩=>?_)
 obtain ⟨c,rfl,q1⟩:=q1
 cases r1
 refine wpAny_truthy_bool ?_
 cases c with
 | true=>exact hb pins s1 σ H1 Q I1 q1
 | false=>exact ⟨.bl false,H1,I1,rfl,q1⟩
noncomputable def VS (t:TT) (ta tb:TE):TE:=fun σ H Q=>t σ H fun c H1=>if c=true then ta σ H1 Q else tb σ H1 Q
theorem z8 {c:Expr}(hc:PT X c tA) (ha:PE X a ta) (hb:PE X b tb):PE X (.IfExp c a b pos) (VS tA ta tb):=by
 intro pins s σ H Q I h
 refine wpAny_IfExp (bG (hc pins s σ H _ I h) fun d s1 ⟨H1,I1,q1⟩=>?_)
 cases d with
 | true=>exact ha pins s1 σ H1 Q I1 q1
 | false=>exact hb pins s1 σ H1 Q I1 q1
end
end L2
namespace L2
open PySem PySem.Spec PyProof.Rows
noncomputable def dB (K:PySem.W.Frag) (H:Hp) (a:Addr) (xs:List V):Prop:=
 Rd H a (.lst xs)∨
  ∃ (o:Obj) (its:Array Value) (n:Nat),K.lookup a=some o∧o.cls=.type "list" ∧o.dict=none∧o.data=.seq its n∧its.size≤sizeLine∧Vals xs its.toList
noncomputable def dh (K:PySem.W.Frag) (H:Hp) (a:Addr) (xs:List V):Prop:=
 Rd H a (.tup xs)∨
  ∃ (o:Obj) (its:Array Value) (n:Nat),K.lookup a=some o∧o.cls=.type "tuple" ∧o.data=.seq its n∧its.size≤sizeLine∧Vals xs its.toList
noncomputable def SM:Value→Option V
 | .none=>some .aY
 | .bool b=>some (.bl b)
 | .int i _=>some (.int i)
 | .str x _=>some (.str x)
 | .bytes b _=>some (.xN b)
 | .float b _=>some (.xO b)
 | .ref a=>some (.ref a)
 | .type n=>some (.ty n)
 | _=>none
theorem RelV.abs {x:V}{u:Value}(r:RelV x u):SM u=some x:=by
 cases x with
 | aY=>cases r;rfl
 | bl _=>cases r;rfl
 | int _=>obtain ⟨t,rfl⟩:=r;rfl
 | str _=>obtain ⟨t,rfl⟩:=r;rfl
 | xN _=>obtain ⟨t,rfl⟩:=r;rfl
 | xO _=>obtain ⟨t,rfl⟩:=r;rfl
 | ref _=>cases r;rfl
 | ty _=>cases r;rfl
theorem RelV.inj {x y:V}{u:Value}(r:RelV x u) (q:RelV y u):x=y:=Option.some.inj (r.abs.symm.trans q.abs)
theorem Vals.inj:∀ {xs ys:List V}{us:List Value},Vals xs us→Vals ys us→xs=ys
 | _,_,_,.nil,.nil=>rfl
 | _,_,_,.cons r t,.cons r' t'=>by rw [r.inj r',Vals.inj t t']
section
variable {X:Cx}{pins:List (Addr×Obj)}{σ:St}{H:Hp}{s:Shared}{a:Addr}{xs ys:List V}
theorem dB.of {K:PySem.W.Frag}(h:H a=some (.lst xs)):dB K H a xs:=.inl (.inl h)
theorem dh.of {K:PySem.W.Frag}(h:H a=some (.tup xs)):dh K H a xs:=.inl (.inl h)
theorem Inv.list (I:Inv X pins σ H s) (h:dB X.K H a xs):∃ its:List Value,Vals xs its∧PlainL s.heap a its.toArray∧xs.length≤sizeLine:=by
 rcases h with h | ⟨o,its,n,hk,hc,hd,hs,hz,r⟩
 ·obtain ⟨z,its,n,r,e⟩:=h.ok I.hok
  exact ⟨its,r,⟨_,n,e,rfl,rfl,rfl⟩,z⟩
 ·refine ⟨its.toList,r,⟨o,n,I.rq a o hk,hc,hd,by simpa using hs⟩,?_⟩
  have e:=r.length
  simp only [Array.length_toList] at e
  omega
theorem Inv.tuple (I:Inv X pins σ H s) (h:dh X.K H a xs):∃ its:List Value,Vals xs its∧IsTup s.heap a its.toArray∧xs.length≤sizeLine:=by
 rcases h with h | ⟨o,its,n,hk,hc,hs,hz,r⟩
 ·obtain ⟨z,its,r,p⟩:=h.ok I.hok
  exact ⟨its,r,p,z⟩
 ·refine ⟨its.toList,r,⟨o,I.rq a o hk,hc,n,by simpa using hs⟩,?_⟩
  have e:=r.length
  simp only [Array.length_toList] at e
  omega
theorem Inv.m6 (I:Inv X pins σ H s) (h:dB X.K H a xs) (h':dB X.K H a ys):xs=ys:=by
 obtain ⟨its,r,⟨o,n,e,_,_,d⟩,_⟩:=I.list h
 obtain ⟨its',r',⟨o',n',e',_,_,d'⟩,_⟩:=I.list h'
 rw [e] at e';cases e'
 rw [d] at d'
 injection d' with d1 _
 have:its=its':=by simpa using congrArg Array.toList d1
 subst this
 exact r.inj r'
theorem Inv.kP (I:Inv X pins σ H s) (h:dh X.K H a xs) (h':dh X.K H a ys):xs=ys:=by
 obtain ⟨its,r,⟨o,e,_,n,d⟩,_⟩:=I.tuple h
 obtain ⟨its',r',⟨o',e',_,n',d'⟩,_⟩:=I.tuple h'
 rw [e] at e';cases e'
 rw [d] at d'
 injection d' with d1 _
 have:its=its':=by simpa using congrArg Array.toList d1
 subst this
 exact r.inj r'
end
abbrev Cx.jK (X:Cx) (E:Value→Shared→Prop):Cx:={ X with xe:=E }
abbrev Cx.qf (X:Cx):Cx:=X.jK fun _ _=>False
theorem Cx.Ok.jK {X:Cx}(ok:X.Ok) (E:Value→Shared→Prop):(X.jK E).Ok:=
 ⟨ok.mod,ok.kind,ok.glob,ok.blt,ok.above,ok.inj,ok.has,ok.ud,ok.hd,ok.frames,ok.stk,ok.CN,ok.bs,ok.qd,ok.pC,ok.pD,ok.iE,ok.rj⟩
theorem Cx.Ok.iA {X:Cx}{E:Value→Shared→Prop}(ok:(X.jK E).Ok):X.Ok:=
 ⟨ok.mod,ok.kind,ok.glob,ok.blt,ok.above,ok.inj,ok.has,ok.ud,ok.hd,ok.frames,ok.stk,ok.CN,ok.bs,ok.qd,ok.pC,ok.pD,ok.iE,ok.rj⟩
section
variable {X:Cx}{pins:List (Addr×Obj)}{σ:St}{H:Hp}{s:Shared}{E:Value→Shared→Prop}
theorem Inv.jK (I:Inv X pins σ H s) (E:Value→Shared→Prop):Inv (X.jK E) pins σ H s:=⟨I.ok.jK E,I.os,I.bare,I.base,I.loc,I.cell,I.free,I.ir,I.pin,I.hok,I.len⟩
theorem Inv.iA (I:Inv (X.jK E) pins σ H s):Inv X pins σ H s:=⟨I.ok.iA,I.os,I.bare,I.base,I.loc,I.cell,I.free,I.ir,I.pin,I.hok,I.len⟩
theorem SP.iA {D:Ends}{f:Flow}{s':Shared}(h:SP (X.jK E) pins D f s'):SP X pins D f s':=by
 cases f with
 | next=>obtain ⟨σ',H',I,q⟩:=h;exact ⟨σ',H',I.iA,q⟩
 | brk=>obtain ⟨σ',H',I,q⟩:=h;exact ⟨σ',H',I.iA,q⟩
 | cont=>obtain ⟨σ',H',I,q⟩:=h;exact ⟨σ',H',I.iA,q⟩
 | ret u=>obtain ⟨v,σ',H',I,r,q⟩:=h;exact ⟨v,σ',H',I.iA,r,q⟩
theorem gS.qf {st:List Stmt}{t:TS}(h:gS X.qf st t):gS X st t:=fun pins s σ H D I hw=>
 wpAny_mono (h pins s σ H D (I.jK _) hw) (fun _ _ q=>q.iA) fun _ _ z=>False.elim z
end
section
variable {X:Cx}{st:Stmt}{rest:List Stmt}{t u:TS}{e:Expr}{te:TE}{pos:Pos}
noncomputable def N4:TS:=fun D σ H=>D.nx σ H
noncomputable def SN (t u:TS):TS:=fun D σ H=>t { D with nx:=u D } σ H
theorem EW:gS X [] N4:=fun _ _ σ H _ I h=>wpAny_execs_nil ⟨σ,H,I,h⟩
theorem z9 (h1:PS X st t) (h2:gS X rest u):gS X (st :: rest) (SN t u):=by
 intro pins s σ H D I h
 refine wpAny_execs_cons (bG (h1 pins s σ H { D with nx:=u D } I h) fun f s1 q=>?_)
 cases f with
 | next=>
  obtain ⟨σ',H',I',q⟩:=q
  exact h2 pins s1 σ' H' D I' q
 | ret v=>exact q
 | brk=>exact q
 | cont=>exact q
noncomputable def N5:TS:=fun D σ H=>D.ct σ H
theorem tW:PS X (.Continue pos) N5:=fun _ _ σ H _ I h=>wpAny_Continue ⟨σ,H,I,h⟩
theorem Inv.quiet {pins:List (Addr×Obj)}{σ:St}{H:Hp}{s:Shared}(I:Inv X pins σ H s):interactive X.env=false:=by simp [interactive,I.ok.kind]
noncomputable def N6 (te:TE):TS:=fun D σ H=>te σ H fun _ H1=>D.nx σ H1
theorem EX (he:PE X e te) (hs:swapsWith e none pos.line X.env=pure false:=by rfl):PS X (.Expr e pos) (N6 te):=by
 intro pins s σ H D I h
 exact wpAny_Expr_any (bG (he pins s σ H _ I h) fun v s1 ⟨x,H1,I1,r1,q1⟩=>⟨σ,H1,I1,q1⟩) I.quiet hs
noncomputable def SO (te:TE):TS:=fun D σ H=>te σ H D.rt
theorem HE (he:PE X e te):PS X (.Return (some e) pos) (SO te):=by
 intro pins s σ H D I h
 exact wpAny_Return_some (bG (he pins s σ H _ I h) fun v s1 ⟨x,H1,I1,r1,q1⟩=>⟨x,σ,H1,I1,r1,q1⟩)
noncomputable def SQ (c:TT) (t u:TS):TS:=fun D σ H=>c σ H fun b H1=>if b=true then t D σ H1 else u D σ H1
theorem N7 {c:Expr}{a b:List Stmt}{tc:TT}(hc:PT X c tc) (ha:gS X a t) (hb:gS X b u):PS X (.If c a b pos) (SQ tc t u):=by
 intro pins s σ H D I h
 refine wpAny_If (bG (hc pins s σ H _ I h) fun d s1 ⟨H1,I1,q1⟩=>?_)
 cases d with
 | true=>exact ha pins s1 σ H1 D I1 q1
 | false=>exact hb pins s1 σ H1 D I1 q1
noncomputable def HF:TS:=fun _ _ _=>False
theorem Aa:PS X st HF:=fun _ _ _ _ _ _ h=>h.elim
end
abbrev TG:=V→St→Hp→(St→Hp→Prop)→Prop
abbrev qg:=List V→St→Hp→(St→Hp→Prop)→Prop
noncomputable def PG (X:Cx) (target:Expr) (t:TG):Prop:=
 ∀ (pins:List (Addr×Obj)) (s:Shared) (σ:St) (H:Hp) (v:V) (u:Value) (Q:St→Hp→Prop),Inv X pins σ H s→RelV v u→t v σ H Q→
  wpAny (model X.prog X.w) X.A (assign target X.env u) (fun _ s'=>∃ σ' H',Inv X pins σ' H' s'∧Q σ' H') X.xe s
noncomputable def mK (X:Cx) (ts:List Expr) (t:qg):Prop:=
 ∀ (pins:List (Addr×Obj)) (s:Shared) (σ:St) (H:Hp) (vs:List V) (us:List Value) (Q:St→Hp→Prop),Inv X pins σ H s→Vals vs us→t vs σ H Q→
  wpAny (model X.prog X.w) X.A (assignInOrder ((assignEach ts X.env).map (·.2)) us) (fun _ s'=>∃ σ' H',Inv X pins σ' H' s'∧Q σ' H') X.xe s
section
variable {X:Cx}{pos:Pos}
noncomputable def CS (i:Nat):TG:=fun v σ H Q=>Q (σ.set i (some v)) H
theorem ug {i:Nat}{x:Str}(hN:X.N.Nodup) (hi:X.N[i]?=some x) (hx:Loc X.env.scope x) (hf:X.fn x=true∨X.env.scope.names.lookup x=some .local:=by first | exact .inl rfl | exact .inr rfl | assumption):PG X (.Name x pos) (CS i):=by
 intro pins s σ H v u Q I r h
 exact wpAny_assign_Name (rC I hN hi hx r (fun s' I'=>⟨_,H,I',h⟩) hf)
noncomputable def SS:qg:=fun vs σ H Q=>vs=[]∧Q σ H
noncomputable def N8 (t:TG) (u:qg):qg:=fun vs σ H Q=>∃ v r,vs=v :: r∧t v σ H fun σ' H'=>u r σ' H' Q
theorem EY:mK X [] SS:=by
 intro pins s σ H vs us Q I r h
 obtain ⟨e,h⟩:=h
 subst e
 cases r
 exact assignInOrder_nil ⟨σ,H,I,h⟩
theorem Ab {e:Expr}{es:List Expr}{t:TG}{u:qg}(h1:PG X e t)(h2:mK X es u)
  (hs:(assignEach (e :: es) X.env).map (·.2)=assign e X.env :: (assignEach es X.env).map (·.2):=by rfl):mK X (e :: es) (N8 t u):=by
 intro pins s σ H vs us Q I r h
 obtain ⟨v,vr,e1,h⟩:=h
 subst e1
 cases r with
 | cons r rr=>
  rw [hs]
  refine assignInOrder_cons (bG (h1 pins s σ H _ _ _ I r h) fun _ s1 ⟨σ1,H1,I1,q1⟩=>?_)
  exact h2 pins s1 σ1 H1 _ _ Q I1 rr q1
noncomputable def SV (K:PySem.W.Frag) (n:Nat) (t:qg):TG:=fun v σ H Q=>∃ a xs,v=.ref a∧dh K H a xs∧xs.length=n∧t xs σ H Q
theorem HG {es:List Expr}{k:Nat}{t:qg}{n:Nat}(hc:X.calm=true)(h:mK X es t)
  (hn:(assignEach es X.env).length=n:=by rfl) (hst:(assignEach es X.env).findIdx? (·.1)=none:=by rfl):PG X (.Tuple es k pos) (SV X.K n t):=by
 intro pins s σ H v u Q I r hw
 obtain ⟨a,xs,e1,hq,hl,hw⟩:=hw
 subst e1
 cases r
 obtain ⟨its,rv,ht,hz⟩:=I.tuple hq
 refine assign_Tuple_tuple (I.ok.hd hc) ht (by simp [hn,←hl,rv.length]) hst fun h' hx=>?_
 have I1:Inv X pins σ H { s with heap:=h' }:=I.kept (t':=s.toks) fun b o e=>hx b o (Nat.ne_of_lt (Heap.lt_size e)) e
 exact h pins _ σ H xs _ Q I1 (by simpa using rv) hw
noncomputable def SW (te:TE) (g:TG):TS:=fun D σ H=>te σ H fun x H1=>g x σ H1 D.nx
theorem xU {i:Nat}{x:Str}{e:Expr}{te:TE}{pos':Pos}(hN:X.N.Nodup) (hi:X.N[i]?=some x) (hx:Loc X.env.scope x) (he:PE X e te) (hs:swapsWith e (some (.Name x pos')) pos.line X.env=pure false:=by rfl) (hf:X.fn x=true∨X.env.scope.names.lookup x=some .local:=by first | exact .inl rfl | exact .inr rfl | assumption) :
  PS X (.Assign [.Name x pos'] e pos) (SW te (CS i)):=by
 intro pins s σ H D I h
 refine wpAny_Assign_Name (bG (he pins s σ H _ I h) fun v s1 ⟨y,H1,I1,r1,q1⟩=>?_) hs
 exact rC I1 hN hi hx r1 (fun s2 I2=>⟨_,H1,I2,q1⟩) hf
end
section
variable {X:Cx}{pos:Pos}
noncomputable def HH (c:TT) (tb:TS):TS:=fun D σ H=>∃ W:Nat→St→Hp→Prop,(∃ m,W m σ H)∧∀ m σ H,W m σ H→
 c σ H fun b H1=>if b=true then ∃ N:St→Hp→Prop,(∀ σ' H',N σ' H'→∃ m',m'<m∧W m' σ' H')∧tb { D with nx:=N,ct:=N,bk:=D.nx } σ H1 else D.nx σ H1
theorem Ac {c:Expr}{body:List Stmt}{tc:TT}{tb:TS}(hp:PassesOwn (model X.prog X.w) X.A X.env X.xe) (hc:PT X c tc) (hb:gS X body tb):PS X (.While c body [] pos) (HH tc tb):=by
 intro pins s σ H D I h
 obtain ⟨W,⟨m0,w0⟩,turn⟩:=h
 refine wpAny_While (codeAny_whileLoop (fun n s'=>∃ σ' H',Inv X pins σ' H' s'∧W n σ' H') ?_ m0 ⟨σ,H,I,w0⟩)
 rintro n s1 ⟨σ1,H1,I1,w1⟩
 refine wpAny_passesOwn hp (bG (hc pins s1 σ1 H1 _ I1 (turn n σ1 H1 w1)) fun b s2 ⟨H2,I2,q2⟩=>?_)
 cases b with
 | true=>
  obtain ⟨N,hN,q2⟩:=q2
  rw [if_pos rfl]
  refine wpAny_passesOwn hp (bG (hb pins s2 σ1 H2 _ I2 q2) fun f s3 q3=>?_)
  cases f with
  | next=>
   obtain ⟨σ3,H3,I3,n3⟩:=q3
   obtain ⟨m',hm,w3⟩:=hN σ3 H3 n3
   exact ⟨m',hm,σ3,H3,I3,w3⟩
  | cont=>
   obtain ⟨σ3,H3,I3,n3⟩:=q3
   obtain ⟨m',hm,w3⟩:=hN σ3 H3 n3
   exact ⟨m',hm,σ3,H3,I3,w3⟩
  | brk=>exact q3
  | ret v=>exact q3
 | false=>
  rw [if_neg Bool.false_ne_true]
  exact wpAny_execs_nil ⟨σ1,H2,I2,q2⟩
end
structure It where
 go:Nat→Hp→Prop
 CT:Nat→Hp→V→Hp→Prop
 stop:Nat→Hp→Prop
noncomputable def fU (X:Cx) (pins:List (Addr×Obj)) (H:Hp) (b:Addr):Prop:=
 H b=none∧b≠X.env.locals∧b∉X.fs∧(b∈X.ex∨X.s₀.heap.objs.size≤b)∧(∀ x c,X.env.cells.lookup x=some c→c≠b)∧∀ p∈X.pn++pins,p.1≠b
theorem Inv.vA {X:Cx}{pins:List (Addr×Obj)}{σ:St}{H H':Hp}{s:Shared}{b:Addr}(I:Inv X pins σ H s) (hb:s.heap.objs.size≤b) (hn:H' b=none):fU X pins H' b:=by
 refine ⟨hn,Nat.ne_of_gt (Nat.lt_of_lt_of_le I.lt hb),I.SH hb,.inr (Nat.le_trans I.sz hb),fun x c e z=>?_,fun p hp z=>?_⟩
 ·obtain ⟨v,q⟩:=I.cell x c e
  exact absurd (Nat.lt_of_lt_of_le q.lt (by rw [z];exact hb)) (Nat.lt_irrefl _)
 ·exact absurd (Nat.lt_of_lt_of_le (Heap.lt_size (I.pin p hp).1) (by rw [z];exact hb)) (Nat.lt_irrefl _)
structure Turn (P:Program) (w:World) (K:PySem.W.Frag) (tg:Expr) (J:It) (fp:List Addr) (it:Addr) (tn:Nat→Heap→Prop):Prop where
 mem:it∈fp
 obj:∀ i h,tn i h→∀ b∈fp,∃ o,h.get? b=some o∧∀ v,o.data≠.cell v
 keep:∀ i h h',tn i h→(∀ b∈fp,∀ o,h.get? b=some o→h'.get? b=some o)→tn i h'
 item:∀ (X:Cx),X.prog=P→X.w=w→X.K=K→X.calm=true→∀ (i:Nat) (pins:List (Addr×Obj)) (s:Shared) (σ:St) (H:Hp) (E:Value→Shared→Prop),Inv X pins σ H s→(∀ b∈fp,fU X pins H b)→tn i s.heap→J.go i H→
  wpAny (model P w) X.A (pyNext (.ref it)) (fun r s1=>∃ u,r=some u∧
   wpAny (model P w) X.A (letOwnedTupleGo tg (.ref it) u) (fun _ s2=>∃ x H',Inv X pins σ H' s2∧RelV x u∧J.CT i H x H'∧tn (i+1) s2.heap∧∀ b∈fp,H' b=none) E s1) E s
 done:∀ (X:Cx),X.prog=P→X.w=w→X.K=K→X.calm=true→∀ (i:Nat) (pins:List (Addr×Obj)) (s:Shared) (σ:St) (H:Hp) (E:Value→Shared→Prop),Inv X pins σ H s→(∀ b∈fp,fU X pins H b)→tn i s.heap→J.stop i H→
  wpAny (model P w) X.A (pyNext (.ref it)) (fun r s1=>r=none∧Inv X pins σ H s1) E s
 self:∀ (A:Around) (i:Nat) (s:Shared) (Q:Value→Shared→Prop) (E:Value→Shared→Prop),tn i s.heap→Q (.ref it) s→wpAny (model P w) A (pyIter (.ref it)) Q E s
abbrev TI:=St→Hp→(It→Hp→Prop)→Prop
noncomputable def Qf (X:Cx) (pins:List (Addr×Obj)) (σ:St) (tg:Expr) (R:It→Hp→Prop) (itv:Value) (s2:Shared):Prop:=
 ∃ (it:Addr) (fp:List Addr) (tn:Nat→Heap→Prop) (J:It) (H':Hp),itv=.ref it∧Inv X pins σ H' s2∧Turn X.prog X.w X.K tg J fp it tn∧tn 0 s2.heap∧(∀ b∈fp,fU X pins H' b)∧R J H'
noncomputable def PI (X:Cx) (tg iter:Expr) (wi:TI):Prop:=
 ∀ (pins:List (Addr×Obj)) (s:Shared) (σ:St) (H:Hp) (R:It→Hp→Prop),Inv X pins σ H s→wi σ H R→
  wpAny (model X.prog X.w) X.A (eval iter X.env) (fun v s1=>wpAny (model X.prog X.w) X.A (pyIter v) (Qf X pins σ tg R) X.xe s1) X.xe s
theorem vC {M:Model}{A:Around}{E:Value→Shared→Prop}{s:Shared}{tg:Expr}{it:Addr}{u:Value}{o:Obj}{n:String}{vs:Array Value}{Q:Unit→Shared→Prop}(ho:s.heap.get? it=some o)(hc:o.cls=.type n)(hd:o.data=.fields vs)
    (hn:["enumerate","zip","dict_itemiterator","dict_reverseitemiterator","odict_iterator","itertools.zip_longest","itertools.pairwise"].contains n=false) (hQ:Q () s):wpAny M A (letOwnedTupleGo tg (.ref it) u) Q E s:=by
  unfold letOwnedTupleGo
  cases tg <;> first
    | exact wpAny_pure hQ
    | (cases u <;> first
        | exact wpAny_pure hQ
        | (refine wpAny_bind (wpAny_load ho ?_)
           rw [hc,hd]
           show wpAny M A (if (["enumerate","zip","dict_itemiterator","dict_reverseitemiterator","odict_iterator","itertools.zip_longest","itertools.pairwise"].contains n&&vs[0]?==some (rawInt _))=true then _ else _) Q E s
           rw [if_neg (by intro h;rw [hn,Bool.false_and] at h;cases h)]
           exact wpAny_pure hQ))
noncomputable def Qg (K:PySem.W.Frag) (a:Addr):It:=
 ⟨fun i H=>∃ xs x,dB K H a xs∧xs[i]?=some x,fun i H x H'=>H'=H∧∀ xs,dB K H a xs→xs[i]?=some x,fun i H=>∃ xs,dB K H a xs∧xs.length≤i⟩
noncomputable def Qh (K:PySem.W.Frag) (a:Addr):It:=
 ⟨fun i H=>∃ xs x,dh K H a xs∧xs[i]?=some x,fun i H x H'=>H'=H∧∀ xs,dh K H a xs→xs[i]?=some x,fun i H=>∃ xs,dh K H a xs∧xs.length≤i⟩
noncomputable def CU (lo:Int) (n:Nat):It:=⟨fun i _=>i<n,fun i H x H'=>H'=H∧x=.int (lo+i),fun i _=>n≤i⟩
theorem xV {P:Program}{w:World}{K:PySem.W.Frag}{tg:Expr}(a it:Addr):Turn P w K tg (Qg K a) [it] it (fun i h=>h.IsListIter it a i) where
 mem:=by simp
 obj:=fun i h st b hb=>by
  have e:b=it:=by simpa using hb
  subst e
  obtain ⟨o,e,c,d⟩:=st
  exact ⟨o,e,fun v z=>by rw [d] at z;cases z⟩
 keep:=fun i h h' st k=>st.at fun o e=>k it (by simp) o e
 item:=by
  intro X hP hw hK hc i pins s σ H E I hf st hg
  subst hP hw hK
  obtain ⟨xs,x,hq,hx⟩:=hg
  obtain ⟨its,rv,p,hz⟩:=I.list hq
  obtain ⟨u,hu,ru⟩:=rv.get hx
  obtain ⟨f0,f1,f2,f3,f4,f5⟩:=hf it (by simp)
  refine wpAny_pyNext_list_item st p.isList (x:=u) (by simpa using hu) fun h' st' sb=>?_
  have I1:Inv X pins σ H { s with heap:=h' }:=I.turned (t':=s.toks) (fun b o hb e=>(sb.2 b hb).trans e) f0 f1 f3 f4 f5
  obtain ⟨o,e,c,d⟩:=id st'
  exact ⟨u,rfl,vC (s:={ s with heap:=h' }) e c d (by decide) ⟨x,H,I1,ru,⟨rfl,fun ys hy=>by rw [I.m6 hy hq];exact hx⟩,st',fun b hb=>(hf b hb).1⟩⟩
 done:=by
  intro X hP hw hK hc i pins s σ H E I hf st hg
  subst hP hw hK
  obtain ⟨xs,hq,hx⟩:=hg
  obtain ⟨its,rv,p,hz⟩:=I.list hq
  obtain ⟨f0,f1,f2,f3,f4,f5⟩:=hf it (by simp)
  have hl:=rv.length
  exact wpAny_pyNext_list_end (I.ok.hd hc) st p.isList (by simp;omega) fun h' eb=>⟨rfl,I.turned (t':=s.toks) (fun b o hb e=>eb b o hb e) f0 f1 f3 f4 f5⟩
 self:=fun _ _ _ _ _ st h=>wpAny_pyIter_listiter st h
theorem vD {P:Program}{w:World}{K:PySem.W.Frag}{tg:Expr}(a it:Addr):Turn P w K tg (Qh K a) [it] it (fun i h=>h.IsTupleIter it a i) where
 mem:=by simp
 obj:=fun i h st b hb=>by
  have e:b=it:=by simpa using hb
  subst e
  obtain ⟨o,e,c,d⟩:=st
  exact ⟨o,e,fun v z=>by rw [d] at z;cases z⟩
 keep:=fun i h h' st k=>st.at fun o e=>k it (by simp) o e
 item:=by
  intro X hP hw hK hc i pins s σ H E I hf st hg
  subst hP hw hK
  obtain ⟨xs,x,hq,hx⟩:=hg
  obtain ⟨its,rv,p,hz⟩:=I.tuple hq
  obtain ⟨u,hu,ru⟩:=rv.get hx
  obtain ⟨f0,f1,f2,f3,f4,f5⟩:=hf it (by simp)
  refine wpAny_pyNext_tuple_item st (show s.heap.IsTuple a its.toArray from p) (x:=u) (by simpa using hu) fun h' st' sb=>?_
  have I1:Inv X pins σ H { s with heap:=h' }:=I.turned (t':=s.toks) (fun b o hb e=>(sb.2 b hb).trans e) f0 f1 f3 f4 f5
  obtain ⟨o,e,c,d⟩:=id st'
  exact ⟨u,rfl,vC (s:={ s with heap:=h' }) e c d (by decide) ⟨x,H,I1,ru,⟨rfl,fun ys hy=>by rw [I.kP hy hq];exact hx⟩,st',fun b hb=>(hf b hb).1⟩⟩
 done:=by
  intro X hP hw hK hc i pins s σ H E I hf st hg
  subst hP hw hK
  obtain ⟨xs,hq,hx⟩:=hg
  obtain ⟨its,rv,p,hz⟩:=I.tuple hq
  obtain ⟨f0,f1,f2,f3,f4,f5⟩:=hf it (by simp)
  have hl:=rv.length
  exact wpAny_pyNext_tuple_end (I.ok.hd hc) st (show s.heap.IsTuple a its.toArray from p) (by simp;omega) fun h' eb=>⟨rfl,I.turned (t':=s.toks) (fun b o hb e=>eb b o hb e) f0 f1 f3 f4 f5⟩
 self:=fun _ _ _ _ _ st h=>wpAny_pyIter_tupleiter st h
theorem vE {P:Program}{w:World}{K:PySem.W.Frag}{tg:Expr}(it:Addr) (lo:Int) (n:Nat):Turn P w K tg (CU lo n) [it] it (fun i h=>IsRangeIter h it (lo+(i:Nat)*1) ((n:Int) - (i:Nat)) 1) where
 mem:=by simp
 obj:=fun i h st b hb=>by
  have e:b=it:=by simpa using hb
  subst e
  exact ⟨_,st,fun v z=>by
   have z':Data.fields _=Data.cell v:=z
   cases z'⟩
 keep:=fun i h h' st k=>k it (by simp) _ st
 item:=by
  intro X hP hw hK hc i pins s σ H E I hf st hg
  subst hP hw hK
  obtain ⟨f0,f1,f2,f3,f4,f5⟩:=hf it (by simp)
  have W:=Walks.range (prog:=X.prog) (w:=X.w) (I.ok.hd hc) it lo 1 n
  refine W.item i s _ _ hg st fun v h' tk hv st' kk=>?_
  obtain ⟨t,rfl⟩:=hv
  have I1:Inv X pins σ H { s with heap:=h',toks:=tk }:=I.turned (fun b o hb e=>kk b o (by simpa using hb) e) f0 f1 f3 f4 f5
  refine ⟨_,rfl,vC (s:={ s with heap:=h',toks:=tk }) (n:="range_iterator") st' rfl rfl (by decide) ⟨.int (lo+i),H,I1,⟨t,?_⟩,⟨rfl,rfl⟩,st',fun b hb=>(hf b hb).1⟩⟩
  rw [Int.mul_one]
 done:=by
  intro X hP hw hK hc i pins s σ H E I hf st hg
  subst hP hw hK
  obtain ⟨f0,f1,f2,f3,f4,f5⟩:=hf it (by simp)
  exact wpAny_pyNext_range_end (I.ok.hd hc) st (by have:n≤i:=hg;omega) fun h' eb=>⟨rfl,I.turned (t':=s.toks) (fun b o hb e=>eb b o hb e) f0 f1 f3 f4 f5⟩
 self:=fun _ _ _ _ _ st h=>wpAny_pyIter_rangeiter st h
end L2
namespace L2
open PySem PySem.Spec PyProof.Rows
section
variable {X:Cx}{tg:Expr}
theorem Ad {pins:List (Addr×Obj)}{σ:St}{H:Hp}{s:Shared}{R:It→Hp→Prop}{E:Value→Shared→Prop}{lo hi:Int}{t u v:Tok}{tk:Nat}(I:Inv X pins σ H s) (h1:-(2 ^ 62)≤lo) (h2:lo<2 ^ 62) (h3:-(2 ^ 62)≤hi) (h4:hi<2 ^ 62)
  (q:R (CU lo (hi - lo).toNat) H):wpAny (model X.prog X.w) X.A (pyIter (.ref s.heap.objs.size)) (Qf X pins σ tg R) E { s with heap:=s.heap.push { cls:=.type "range",data:=.fields #[.int lo t,.int hi u,.int 1 v]},toks:=tk }:=by
 refine wpAny_pyIter_range (IsRange.new ..) (small_one h1 h2 h3 h4) ?_
 have I1:Inv X pins σ H { s with heap:=s.heap.push { cls:=.type "range",data:=.fields #[.int lo t,.int hi u,.int 1 v]},toks:=tk }:=I.kept fun b o e=>Heap.get?_push_of_some _ e
 refine ⟨(s.heap.push { cls:=.type "range",data:=.fields #[.int lo t,.int hi u,.int 1 v]}).objs.size,[(s.heap.push { cls:=.type "range",data:=.fields #[.int lo t,.int hi u,.int 1 v]}).objs.size],_,_,H,rfl,
  I1.kept (t':=tk) fun b o e=>Heap.get?_push_of_some _ e,vE _ lo (hi - lo).toNat,?_,fun b hb=>?_,q⟩
 ·have e1:lo+((0:Nat):Int)*1=lo:=by simp
  have e2:(((hi - lo).toNat:Nat):Int) - ((0:Nat):Int)=Builtin.Range.rangeSize lo hi 1:=by rw [rangeSize_one];split <;> omega
  show IsRangeIter _ _ (lo+((0:Nat):Int)*1) ((((hi - lo).toNat:Nat):Int) - ((0:Nat):Int)) 1
  rw [e1,e2]
  exact Heap.get?_push_size _ rfl
 ·have e:b=(s.heap.push { cls:=.type "range",data:=.fields #[.int lo t,.int hi u,.int 1 v]}).objs.size:=by simpa using hb
  subst e
  exact I1.vA (Nat.le_refl _) (I1.hok.fresh (Nat.le_refl _))
noncomputable def N9 (ta:TA):TI:=fun σ H R=>ta σ H fun vs H1=>∃ j:Int,vs=[.int j]∧-(2 ^ 62)≤j∧j<2 ^ 62∧R (CU 0 j.toNat) H1
theorem xW {a:Expr}{ta:TA}{p pos:Pos}(hg:Gl X "range") (hm:X.mg "range" = none) (ha:PA X [a] ta) (hs:starEach [a] X.env=[(false,eval a X.env)]:=by rfl):PI X tg (.Call (.Name "range" p) [a] [] pos) (N9 ta):=by
 intro pins s σ H R I h
 refine Call_ (jR I hg hm boot_range (PyProof.Rows.callWith_type1 (bG (ha pos pins s σ H _ I h) fun us s1 ⟨vs,H1,I1,r1,q1⟩=>?_) hs rfl))
 obtain ⟨j,e,q1,q2,q⟩:=q1
 subst e
 cases r1 with
 | cons r rr=>
  cases rr
  obtain ⟨t,rfl⟩:=r
  exact call_range_1 (Ad I1 (by omega) (by omega) q1 q2 (by simpa using q))
noncomputable def SX (wi:TI) (g:TG) (tb:TS):TS:=fun D σ H=>wi σ H fun J H1=>∃ W:Nat→Nat→St→Hp→Prop,(∃ m,W 0 m σ H1)∧∀ i m σ H,W i m σ H→
 (J.stop i H∧D.nx σ H)∨(J.go i H∧∃ N:St→Hp→Prop,(∀ σ' H',N σ' H'→∃ m',m'<m∧W (i+1) m' σ' H')∧∀ x H',J.CT i H x H'→g x σ H' fun σ2 H2=>tb { D with nx:=N,ct:=N,bk:=D.nx } σ2 H2)
noncomputable def kQ (fp:List Addr) (h:Heap):List (Addr×Obj):=fp.filterMap fun b=>(h.get? b).map fun o=>(b,o)
theorem iK {fp:List Addr}{h:Heap}{b:Addr}{o:Obj}(hb:b∈fp) (e:h.get? b=some o):(b,o)∈kQ fp h:=List.mem_filterMap.mpr ⟨b,hb,by rw [e];rfl⟩
theorem xX {fp:List Addr}{h:Heap}{p:Addr×Obj}(hp:p∈kQ fp h):p.1∈fp∧h.get? p.1=some p.2:=by
 obtain ⟨b,hb,e⟩:=List.mem_filterMap.mp hp
 cases q:h.get? b with
 | none=>rw [q] at e;cases e
 | some o=>
  rw [q] at e
  have e':(b,o)=p:=Option.some.inj e
  subst e'
  exact ⟨hb,q⟩
theorem Inv.pinned {pins:List (Addr×Obj)}{σ:St}{H:Hp}{s:Shared}{fp:List Addr}(I:Inv X pins σ H s) (hf:∀ b∈fp,fU X pins H b) (ho:∀ b∈fp,∃ o,s.heap.get? b=some o∧∀ v,o.data≠.cell v):Inv X (pins++kQ fp s.heap) σ H s:=
 I.uf fun p hp=>(List.mem_append.mp hp).elim (fun z=>I.pin p (List.mem_append_right _ z)) fun z=>by
  obtain ⟨hb,e⟩:=xX z
  obtain ⟨f0,f1,f2,_⟩:=hf p.1 hb
  obtain ⟨o,e',d⟩:=ho p.1 hb
  rw [e] at e';cases e'
  exact ⟨e,f0,f1,f2,d⟩
theorem Inv.kh {pins pl:List (Addr×Obj)}{σ:St}{H:Hp}{s:Shared}(I:Inv X (pins++pl) σ H s):Inv X pins σ H s:=I.uf fun p hp=>I.pin p (List.mem_append_right _ (List.mem_append_left _ hp))
theorem HJ {iter:Expr}{body:List Stmt}{wi:TI}{g:TG}{tb:TS}{pos:Pos}(hp:PassesOwn (model X.prog X.w) X.A X.env X.xe) (hc:X.calm=true) (hi:PI X tg iter wi) (hg:PG X tg g) (hb:gS X body tb)
  (hs:∀ x,foldedSetIterable iter X.env x=pure x:=by intro _;rfl):PS X (.For tg iter body [] pos) (SX wi g tb):=by
 intro pins s σ H D I h
 refine wpAny_For (bG (hi pins s σ H _ I h) fun v s1 h1=>bG h1 fun itv s2 h2=>?_) hs
 obtain ⟨it,fp,tn,J,H2,e,I2,T,st2,f2,W,⟨m0,w0⟩,turn⟩:=h2
 subst e
 have ki:∀ {H':Hp},(∀ b∈fp,H' b=none)→∀ b∈fp,fU X pins H' b:=fun hn b hb=>⟨hn b hb,(f2 b hb).2⟩
 refine codeAny_forLoop_any (fun n s'=>∃ i σ' H',Inv X pins σ' H' s'∧tn i s'.heap∧(∀ b∈fp,H' b=none)∧W i n σ' H') ?_ m0 ⟨0,σ,H2,I2,st2,fun b hb=>(f2 b hb).1,w0⟩
 rintro n s3 ⟨i,σ3,H3,I3,st3,cB,w3⟩
 rcases turn i n σ3 H3 w3 with ⟨stop,qn⟩ | ⟨go,N,hN,step⟩
 ·refine wpAny_passesOwn hp (bG (T.done X rfl rfl rfl hc i pins s3 σ3 H3 X.xe I3 (ki cB) st3 stop) fun r s4 ⟨hr,I4⟩=>?_)
  subst hr
  exact wpAny_execs_nil ⟨σ3,H3,I4,qn⟩
 ·refine wpAny_passesOwn hp (bG (T.item X rfl rfl rfl hc i pins s3 σ3 H3 X.xe I3 (ki cB) st3 go) fun r s4 ⟨u,hr,h4⟩=>?_)
  subst hr
  refine wpAny_passesOwn hp (bG h4 fun _ s5 ⟨x,H5,I5,r5,y5,uh,qh⟩=>?_)
  have VT:=I5.pinned (ki qh) (T.obj _ _ uh)
  refine wpAny_passesOwn hp (bG (hg _ s5 σ3 H5 x u _ VT r5 (step x H5 y5)) fun _ s6 ⟨VU,H6,I6,q6⟩=>?_)
  refine wpAny_passesOwn hp (bG (hb _ s6 VU H6 _ I6 q6) fun f s7 q7=>?_)
  have again:∀ {kR:St} {H7:Hp},Inv X (pins++kQ fp s5.heap) kR H7 s7→N kR H7→∃ m,m<n∧∃ i σ' H',Inv X pins σ' H' s7∧tn i s7.heap∧(∀ b∈fp,H' b=none)∧W i m σ' H':=fun {kR H7} I7 n7=>by
   obtain ⟨m',hm,w7⟩:=hN kR H7 n7
   refine ⟨m',hm,i+1,kR,H7,I7.kh,T.keep _ _ _ uh fun b hb o e=>(I7.pin (b,o) (List.mem_append_right _ (List.mem_append_right _ (iK hb e)))).1,fun b hb=>?_,w7⟩
   obtain ⟨o,e,d⟩:=T.obj _ _ uh b hb
   exact (I7.pin (b,o) (List.mem_append_right _ (List.mem_append_right _ (iK hb e)))).2.1
  cases f with
  | next=>obtain ⟨kR,H7,I7,n7⟩:=q7;exact again I7 n7
  | cont=>obtain ⟨kR,H7,I7,n7⟩:=q7;exact again I7 n7
  | brk=>obtain ⟨kR,H7,I7,q7⟩:=q7;exact ⟨kR,H7,I7.kh,q7⟩
  | ret v=>obtain ⟨x7,kR,H7,I7,r7,q7⟩:=q7;exact ⟨x7,kR,H7,I7.kh,r7,q7⟩
end
end L2
namespace L2
open PySem PySem.Spec PyProof.Rows
abbrev R2:=V→V→Hp→VK→Prop
noncomputable def dD (X:Cx) (f:Value→Value→Sem Value) (r:R2):Prop:=
 ∀ (pins:List (Addr×Obj)) (s:Shared) (σ:St) (H:Hp) (x y:V) (v u:Value) (Q:VK),Inv X pins σ H s→RelV x v→RelV y u→r x y H Q→
  wpAny (model X.prog X.w) X.A (f v u) (EP X pins σ Q) X.xe s
noncomputable def HK (X:Cx) (f:Value→Sem Value) (r:V→Hp→VK→Prop):Prop:=
 ∀ (pins:List (Addr×Obj)) (s:Shared) (σ:St) (H:Hp) (x:V) (v:Value) (Q:VK),Inv X pins σ H s→RelV x v→r x H Q→
  wpAny (model X.prog X.w) X.A (f v) (EP X pins σ Q) X.xe s
noncomputable def gD (X:Cx) (f:Value) (r:List V→Hp→VK→Prop):Prop:=
 ∀ (pins:List (Addr×Obj)) (s:Shared) (σ:St) (H:Hp) (xs:List V) (us:List Value) (Q:VK),Inv X pins σ H s→Vals xs us→r xs H Q→
  wpAny (model X.prog X.w) X.A (call f us) (EP X pins σ Q) X.xe s
noncomputable def SY (X:Cx) (r:V→Hp→(Bool→Hp→Prop)→Prop):Prop:=
 ∀ (pins:List (Addr×Obj)) (s:Shared) (σ:St) (H:Hp) (x:V) (v:Value) (Q:Bool→Hp→Prop),Inv X pins σ H s→RelV x v→r x H Q→
  wpAny (model X.prog X.w) X.A (truthy v) (TP X pins σ Q) X.xe s
noncomputable def xY (r:R2) (ta tb:TE):TE:=fun σ H Q=>ta σ H fun x H1=>tb σ H1 fun y H2=>r x y H2 Q
noncomputable def VV (r:V→Hp→VK→Prop) (ta:TE):TE:=fun σ H Q=>ta σ H fun x H1=>r x H1 Q
noncomputable def rI (C:Int→Int→Prop) (g:Int→Int→V):R2:=fun x y H Q=>∃ i j,x=.int i∧y=.int j∧C i j∧Q (g i j) H
noncomputable def rD (g:Int→Int→V):R2:=fun x y H Q=>∃ i j,x=.int i∧y=.int j∧Q (g i j) H
noncomputable def rU (g:Int→V):V→Hp→VK→Prop:=fun x H Q=>∃ i,x=.int i∧Q (g i) H
section
variable {X:Cx}{a b c:Expr}{ta tb tc:TE}{pos:Pos}
theorem Ae (ha:PE X a ta) (hb:PE X b tb) {pins:List (Addr×Obj)}{s:Shared}{σ:St}{H:Hp}{R:V→V→Hp→Prop}(I:Inv X pins σ H s)
  (h:ta σ H fun x H1=>tb σ H1 fun y H2=>R x y H2) {Q:Value→Shared→Prop} {f:Value→Value→Sem Value}
  (hf:∀ v u s2 x y H2,Inv X pins σ H2 s2→RelV x v→RelV y u→R x y H2→wpAny (model X.prog X.w) X.A (f v u) Q X.xe s2) :
  wpAny (model X.prog X.w) X.A (eval a X.env) (fun v s₁=>wpAny (model X.prog X.w) X.A (eval b X.env) (fun u s₂=>wpAny (model X.prog X.w) X.A (f v u) Q X.xe s₂) X.xe s₁) X.xe s:=by
 refine bG (ha pins s σ H _ I h) fun v s1 ⟨x,H1,I1,r1,q1⟩=>?_
 refine bG (hb pins s1 σ H1 _ I1 q1) fun u s2 ⟨y,H2,I2,r2,q2⟩=>?_
 exact hf v u s2 x y H2 I2 r1 r2 q2
theorem Oa {op:Operator}{r:R2}(ho:dD X (binaryOp op) r) (ha:PE X a ta) (hb:PE X b tb):PE X (.BinOp a op b pos) (xY r ta tb):=by
 intro pins s σ H Q I h
 exact wpAny_BinOp (Ae ha hb I h fun v u s2 x y H2 I2 rx ry q=>ho pins s2 σ H2 x y v u Q I2 rx ry q)
theorem Ob {op:UnaryOp}{r:V→Hp→VK→Prop}(ho:HK X (unaryOp op) r) (ha:PE X a ta):PE X (.UnaryOp op a pos) (VV r ta):=by
 intro pins s σ H Q I h
 exact UnaryOp_ (bG (ha pins s σ H _ I h) fun v s1 ⟨x,H1,I1,r1,q1⟩=>ho pins s1 σ H1 x v Q I1 r1 q1)
theorem HL {f:Value→Value→Sem Value}{C:Int→Int→Prop}{g:Int→Int→Int}
  (rule:∀ (i j:Int) (t u:Tok) (s:Shared) (Q:Value→Shared→Prop) (E:Value→Shared→Prop),C i j→Q (.int (g i j) s.toks) { s with toks:=s.toks+1 }→wpAny (model X.prog X.w) X.A (f (.int i t) (.int j u)) Q E s) :
  dD X f (rI C fun i j=>.int (g i j)):=by
 intro pins s σ H x y v u Q I rx ry h
 obtain ⟨i,j,rfl,rfl,hc,q⟩:=h
 obtain ⟨t,rfl⟩:=rx
 obtain ⟨t',rfl⟩:=ry
 exact rule i j t t' s _ _ hc ⟨.int (g i j),H,I.tok _,⟨_,rfl⟩,q⟩
theorem HM {f:Value→Value→Sem Value}{g:Int→Int→Int}
  (rule:∀ (i j:Int) (t u:Tok) (s:Shared) (Q:Value→Shared→Prop) (E:Value→Shared→Prop),Q (.int (g i j) s.toks) { s with toks:=s.toks+1 }→wpAny (model X.prog X.w) X.A (f (.int i t) (.int j u)) Q E s) :
  dD X f (rD fun i j=>.int (g i j)):=by
 intro pins s σ H x y v u Q I rx ry h
 obtain ⟨i,j,rfl,rfl,q⟩:=h
 obtain ⟨t,rfl⟩:=rx
 obtain ⟨t',rfl⟩:=ry
 exact rule i j t t' s _ _ ⟨.int (g i j),H,I.tok _,⟨_,rfl⟩,q⟩
theorem HN {f:Value→Value→Sem Value}{g:Int→Int→Bool}
  (rule:∀ (i j:Int) (t u:Tok) (s:Shared) (Q:Value→Shared→Prop) (E:Value→Shared→Prop),Q (.bool (g i j)) s→wpAny (model X.prog X.w) X.A (f (.int i t) (.int j u)) Q E s) :
  dD X f (rD fun i j=>.bl (g i j)):=by
 intro pins s σ H x y v u Q I rx ry h
 obtain ⟨i,j,rfl,rfl,q⟩:=h
 obtain ⟨t,rfl⟩:=rx
 obtain ⟨t',rfl⟩:=ry
 exact rule i j t t' s _ _ ⟨.bl (g i j),H,I,rfl,q⟩
noncomputable def S5 (i j:Int):Prop:=0<j∧j<1073741824
noncomputable def Af (i j:Int):Prop:=(-(2 ^ 64)<i∧i<2 ^ 64)∨(-(2 ^ 64)<j∧j<2 ^ 64)
theorem Af.ok {i j:Int}(h:Af i j):IntMulOk i j:=by
 rcases h with ⟨h1,h2⟩ | ⟨h1,h2⟩
 ·exact .of_left (intBits_le_64 h1 h2)
 ·exact .of_right (intBits_le_64 h1 h2)
theorem HQ:dD X (binaryOp .Add) (rD fun i j=>.int (i+j)):=HM fun _ _ _ _ _ _ _ q=>add_int q
theorem HS:dD X (binaryOp .Sub) (rD fun i j=>.int (i - j)):=HM fun _ _ _ _ _ _ _ q=>sub_int q
theorem HU:dD X (binaryOp .Mult) (rI Af fun i j=>.int (i*j)):=HL fun _ _ _ _ _ _ _ hc q=>mul_int q hc.ok
theorem EZ:dD X (binaryOp .FloorDiv) (rI S5 fun i j=>.int (i / j)):=HL fun i j _ _ _ _ _ hc q=>by
 have h1:(0:Int)<j:=hc.1
 have h2:j<1073741824:=hc.2
 exact floordiv_int (by omega) (by rw [Int.fdiv_eq_ediv_of_nonneg i (by omega)];exact q) (.inl (PyProof.noPylong_small (by omega)))
theorem HV:dD X (binaryOp .Mod) (rI (fun _ j=>0<j) fun i j=>.int (i % j)):=HL fun i j _ _ _ _ _ hc q=>by
 have h1:(0:Int)<j:=hc
 exact mod_int' (by omega) (by rw [Int.fmod_eq_emod_of_nonneg i (by omega)];exact q)
theorem VW {f:Value→Sem Value}{g:Int→Int}
  (rule:∀ (i:Int) (t:Tok) (s:Shared) (Q:Value→Shared→Prop) (E:Value→Shared→Prop),Q (.int (g i) s.toks) { s with toks:=s.toks+1 }→wpAny (model X.prog X.w) X.A (f (.int i t)) Q E s) :
  HK X f (rU fun i=>.int (g i)):=by
 intro pins s σ H x v Q I rx h
 obtain ⟨i,rfl,q⟩:=h
 obtain ⟨t,rfl⟩:=rx
 exact rule i t s _ _ ⟨.int (g i),H,I.tok _,⟨_,rfl⟩,q⟩
theorem HW:HK X (unaryOp .USub) (rU fun i=>.int (-i)):=VW fun _ _ _ _ _ q=>neg_int q
end
section
variable {X:Cx}{a b c:Expr}{ta tb tc:TE}{pos:Pos}
theorem Oc:dD X (compareOp .Lt) (rD fun i j=>.bl (decide (i<j))):=HN fun _ _ _ _ _ _ _ q=>lt_int q
theorem Od:dD X (compareOp .Gt) (rD fun i j=>.bl (decide (j<i))):=HN fun _ _ _ _ _ _ _ q=>gt_int q
theorem iX (b:Expr) {op:CmpOp}(h:op≠.In:=by decide) (h2:op≠.NotIn:=by decide):behindInMarks op b=false:=by
 have e1:(op==CmpOp.In)=false:=by cases op <;> first | rfl | exact absurd rfl h
 have e2:(op==CmpOp.NotIn)=false:=by cases op <;> first | rfl | exact absurd rfl h2
 cases b <;> simp [behindInMarks,e1,e2]
theorem E1 {op:CmpOp}{r:R2}(ho:dD X (compareOp op) r) (ha:PE X a ta) (hb:PE X b tb) (hm:behindInMarks op b=false):PE X (.Compare a [op] [b] pos) (xY r ta tb):=by
 intro pins s σ H Q I h
 exact wpAny_Compare1 (Ae ha hb I h fun v u s2 x y H2 I2 rx ry q=>ho pins s2 σ H2 x y v u Q I2 rx ry q) hm
noncomputable def Oe (t:TE):TT:=fun σ H Q=>t σ H fun x H'=>∃ k,x=.bl k∧Q k H'
theorem E2 {op:CmpOp}{r:R2}(ho:dD X (compareOp op) r) (ha:PE X a ta) (hb:PE X b tb) (hm:behindInMarks op b=false):PT X (.Compare a [op] [b] pos) (Oe (xY r ta tb)):=by
 intro pins s σ H Q I h
 refine wpAny_isTrue_Compare1 (bG (ha pins s σ H _ I h) fun v s1 ⟨x,H1,I1,r1,q1⟩=>bG (hb pins s1 σ H1 _ I1 q1) fun u s2 ⟨y,H2,I2,r2,q2⟩=>
  bG (ho pins s2 σ H2 x y v u _ I2 r1 r2 q2) fun c s3 ⟨z,H3,I3,r3,k,e,q3⟩=>?_) hm
 subst e
 cases r3
 exact wpAny_truthy_bool ⟨H3,I3,q3⟩
noncomputable def Ag (K:PySem.W.Frag) (x:V) (H:Hp) (k:Bool):Prop:=
 match x with
 | .aY=>k=false
 | .bl b=>k=b
 | .int i=>k=(i != 0)
 | .str y=>y.length≤sizeLine∧k=((y.length:Int) != 0)
 | .xN y=>y.size≤sizeLine∧k=((y.size:Int) != 0)
 | .ref p=>(∃ xs,dB K H p xs∧k = !xs.isEmpty)∨(∃ xs,dh K H p xs∧k = !xs.isEmpty)∨∃ kvs,H p=some (.dK kvs)∧k = !kvs.isEmpty
 | _=>False
theorem vF {κ:Type}{kvs:List (κ×V)}{vs:List (κ×Value)}(r:KV kvs vs):(!vs.isEmpty) = !kvs.isEmpty:=by
 cases r <;> rfl
theorem nQ {xs:List V}{its:List Value}(r:Vals xs its):(!its.toArray.isEmpty) = !xs.isEmpty:=by
 cases r <;> simp
theorem jS:(sizeLine:Nat)<2 ^ 63:=by rw [sizeLine_eq];decide
theorem HX:SY X (fun x H Q=>∃ k,Ag X.K x H k∧Q k H):=by
 intro pins s σ H x v Q I rx h
 obtain ⟨k,e,q⟩:=h
 have hl:=jS
 have hs:sizeLine=16777216:=sizeLine_eq
 cases x with
 | aY=>
  cases rx
  have e':k=false:=e
  subst e'
  exact truthy_none ⟨H,I,q⟩
 | bl b=>
  cases rx
  have e':k=b:=e
  subst e'
  exact wpAny_truthy_bool ⟨H,I,q⟩
 | int i=>
  obtain ⟨t,rfl⟩:=rx
  have e':k=(i != 0):=e
  subst e'
  exact PySem.P.truthy_int ⟨H,I,q⟩
 | str y=>
  obtain ⟨t,rfl⟩:=rx
  obtain ⟨hy,e'⟩:y.length≤sizeLine∧k=((y.length:Int) != 0):=e
  subst e'
  exact PySem.P.truthy_str (by omega) ⟨H,I.tok _,q⟩
 | xN y=>
  obtain ⟨t,rfl⟩:=rx
  obtain ⟨hy,e'⟩:y.size≤sizeLine∧k=((y.size:Int) != 0):=e
  subst e'
  exact PySem.W.truthy_bytes (by omega) ⟨H,I.tok _,q⟩
 | ref p=>
  cases rx
  have e':(∃ xs,dB X.K H p xs∧k = !xs.isEmpty)∨(∃ xs,dh X.K H p xs∧k = !xs.isEmpty)∨∃ kvs,H p=some (.dK kvs)∧k = !kvs.isEmpty:=e
  rcases e' with ⟨xs,hx,e'⟩ | ⟨xs,hx,e'⟩ | ⟨kvs,hx,e'⟩
  ·subst e'
   obtain ⟨its,r,pl,hz⟩:=I.list hx
   have hlen:=r.length
   exact wpAny_truthy_list pl.isList (by simp only [List.size_toArray];omega) ⟨H,I.tok _,by rw [nQ r];exact q⟩
  ·subst e'
   obtain ⟨its,r,pl,hz⟩:=I.tuple hx
   have hlen:=r.length
   exact truthy_tuple pl (by simp only [List.size_toArray];omega) ⟨H,I.tok _,by rw [nQ r];exact q⟩
  ·subst e'
   obtain ⟨hz,hS,vs,r,m⟩:kvs.length≤sizeLine∧(p==sysModules)=false∧∃ vs,KV kvs vs∧s.heap.DictOf (pq X.prog X.w) p vs:=I.hok p _ hx
   have hlen:kvs.length=vs.length:=Paired.length r
   exact wpAny_truthy_dict hS m (by omega) ⟨H,I.tok _,by rw [vF r];exact q⟩
 | _=>exact (show False from e).elim
theorem Ah (ha:PE X a ta) (he:∀ whole,isTrue a X.env whole=(do let v ←whole;standAt a.pos;holding [v] (truthy v))) :
  PT X a (fun σ H Q=>ta σ H fun x H'=>∃ k,Ag X.K x H' k∧Q k H'):=by
 intro pins s σ H Q I h
 exact isTrue_plain (bG (ha pins s σ H _ I h) fun v s1 ⟨x,H1,I1,r1,q1⟩=>HX pins s1 σ H1 x v Q I1 r1 q1) (he _)
theorem vG:dD X (binaryOp .Add) (fun x y H Q=>∃ i j,x=.str i∧y=.str j∧i.length+j.length≤sizeLine∧Q (.str (i++j)) H):=by
 intro pins s σ H x y v u Q I rx ry h
 obtain ⟨i,j,rfl,rfl,hz,q⟩:=h
 obtain ⟨t,rfl⟩:=rx
 obtain ⟨t',rfl⟩:=ry
 exact add_str (fun t' tk=>⟨.str (i++j),H,I.tok _,⟨_,rfl⟩,q⟩) hz
theorem vals1 {x:V}{us:List Value}(r:Vals [x] us):∃ u,us=[u]∧RelV x u:=by
 cases r with
 | cons r1 r2=>cases r2;exact ⟨_,rfl,r1⟩
theorem vals2 {x y:V}{us:List Value}(r:Vals [x,y] us):∃ u w',us=[u,w']∧RelV x u∧RelV y w':=by
 cases r with
 | cons r1 r2=>
  cases r2 with
  | cons r3 r4=>cases r4;exact ⟨_,_,rfl,r1,r3⟩
theorem xZ (hc:X.calm=true):gD X (.builtin "min") (fun xs H Q=>∃ i j,xs=[.int i,.int j]∧Q (.int (if j<i then j else i)) H):=by
 intro pins s σ H xs us Q I r h
 obtain ⟨i,j,rfl,q⟩:=h
 obtain ⟨u,w',rfl,⟨t,rfl⟩,⟨t',rfl⟩⟩:=vals2 r
 refine min_two_ints (I.ok.hd hc) fun h' tk k=>⟨_,H,I.kept k,?_,q⟩
 by_cases hj:j<i
 ·rw [if_pos hj,if_pos hj];exact ⟨_,rfl⟩
 ·rw [if_neg hj,if_neg hj];exact ⟨_,rfl⟩
end
end L2
namespace L2
open PySem PySem.Spec PyProof.Rows
structure XT (h:Heap) (x dx C:Addr) (mA:Str→Option Value):Prop where
 obj:h.get? x=some (PySem.W.instObj C dx)
 ns:h.Ns1 dx mA
 ne:dx≠x
section
variable {prog:Program}{w:World}{A:Around}{E:Value→Shared→Prop}{s:Shared}{K:PySem.W.Frag}{x dx C f:Addr}{mA:Str→Option Value}{name:Str}{v:Value}
end
section
variable {P:Program}{w:World}{H H':Hp}{h h':Heap}{a C dx:Addr}{fs fs':List (Str×V)}
end
structure VX (K:PySem.W.Frag) (C:Addr):Prop where
 pg:PySem.W.plainGet K C Str.empty=true
 hd:PySem.W.hasDictIn K C=true
 po:PySem.W.plainOver K C=true
 sa:PySem.W.findIn K (.ref C) "__setattr__" = some (some (.builtin "object.__setattr__"))
structure XU (K:PySem.W.Frag) (C:Addr) (f:Str) (v:V) (u:Value):Prop where
 at_:PySem.W.findIn K (.ref C) f=some (some u)
 rel:RelV v u
 get:PySem.W.specialIn K u "__get__" = some none
 cp:PySem.W.copiedNames.contains f=false
structure Meth (K:PySem.W.Frag) (C:Addr) (m:Str) (f:Addr):Prop where
 at_:PySem.W.findIn K (.ref C) m=some (some (.ref f))
 fn:PySem.W.isFn K (.ref f)=true
 kp:PySem.W.keepIn K (.ref f)=true
section
variable {X:Cx}{pins:List (Addr×Obj)}{σ:St}{H:Hp}{s:Shared}{a C dx:Addr}{fs:List (Str×V)}{f:Str}{v:V}{A:Around}{E:Value→Shared→Prop}
end
section
variable {X:Cx}{o e value:Expr}{f:Str}{pos pos' tpos:Pos}{ta tv:TE}
end
section
variable {X:Cx}{pins:List (Addr×Obj)}{σ:St}{H:Hp}{s:Shared}{A:Around}{E:Value→Shared→Prop}{Q:Value→Shared→Prop}{c:Value}{b:Bool}
inductive iY (K:PySem.W.Frag) (H:Hp):V→Value→Prop where
 | aY:iY K H .aY (.type "NoneType")
 | bl (x:Bool):iY K H (.bl x) (.type "bool")
 | int (i:Int):iY K H (.int i) (.type "int")
 | str (x:Str):iY K H (.str x) (.type "str")
 | xO (x:UInt64):iY K H (.xO x) (.type "float")
 | lst {a:Addr} {xs:List V} (e:H a=some (.lst xs)):iY K H (.ref a) (.type "list")
 | bS {a:Addr} {o:Obj} {xs:List V} (e:H a=some (.bS o (.lst xs))):iY K H (.ref a) (.type "list")
 | tup {a:Addr} {xs:List V} (e:H a=some (.tup xs)):iY K H (.ref a) (.type "tuple")
 | dK {a:Addr} {kvs:List (Key×V)} (e:H a=some (.dK kvs)):iY K H (.ref a) (.type "dict")
 | dT {a:Addr} {kvs:List (List Key×V)} (e:H a=some (.dT kvs)):iY K H (.ref a) (.type "dict")
 | ins {a C dx:Addr} {fs:List (Str×V)} (e:H a=some (.ins C dx fs)) (cl:VX K C) (ha:PySem.W.findIn K (.ref C) "__class__" = some (some (.builtin "object.__class__")))
   (hn:PySem.W.specialIn K (.builtin "object.__class__") "__get__" = some (some (.builtin "getset_descriptor.__get__"))) (htk:PySem.W.takesIn K (.builtin "object.__class__")=some true)
   (hm:PySem.W.mroIn K C (.type "object")=some true):iY K H (.ref a) (.ref C)
end
end L2
namespace L2
open PySem PySem.Spec PyProof.Rows
structure gm (k:Nat) (A:Around):Prop where
 hd:A.handled=none
 dp:A.depth+3*k+5<recursionLimit
 un:A.units+16*k+200<cLine
theorem gm.deeper {k:Nat}{A:Around}(r:gm (k+1) A) (env:Env):gm k (A.deeper env):=
 ⟨r.hd,by have:=r.dp;show A.depth+1+3*k+5<_;omega,by have:=r.un;show A.units+3+16*k+200<_;omega⟩
theorem gm.depth {k:Nat}{A:Around}(r:gm k A):A.depth<recursionLimit:=by have:=r.dp;omega
noncomputable def S6:TA:=fun _ H Q=>Q [] H
noncomputable def Of (ta:TE) (tr:TA):TA:=fun σ H Q=>ta σ H fun x H1=>tr σ H1 fun xs H2=>Q (x :: xs) H2
section
variable {X:Cx}{e:Expr}{es:List Expr}{te:TE}{t:TA}{pos:Pos}
theorem nT:PA X [] S6:=fun _ _ _ _ H Q I h=>Calls.spliced_nil ⟨[],H,I,.nil,h⟩
theorem jT (ha:PE X e te) (hr:PA X es t) (hs:starEach (e :: es) X.env=(false,eval e X.env) :: starEach es X.env:=by rfl):PA X (e :: es) (Of te t):=by
 intro pos pins s σ H Q I h
 rw [hs]
 show wpAny _ _ (spliced ((false,eval e X.env) :: backTo pos (starEach es X.env))) _ _ s
 refine Calls.spliced_cons (bG (ha pins s σ H _ I h) fun u s1 ⟨x,H1,I1,r1,q1⟩=>?_)
 exact bG (hr pos pins s1 σ H1 _ I1 q1) fun us s2 ⟨xs,H2,I2,r2,q2⟩=>⟨x :: xs,H2,I2,.cons r1 r2,q2⟩
noncomputable def S7 (t:TA):TE:=fun σ H Q=>t σ H fun xs H1=>xs.length≤sizeLine∧∀ p,H1 p=none→Q (.ref p) (upd H1 p (.tup xs))
noncomputable def S8 (t:TA):TE:=fun σ H Q=>t σ H fun xs H1=>xs.length≤sizeLine∧∀ p,H1 p=none→Q (.ref p) (upd H1 p (.lst xs))
theorem HY {x1}(h:PA X es t):PE X (.Tuple es x1 pos) (S7 t):=by
 intro pins s σ H Q I hq
 refine wpAny_Tuple_spliced (bG (h pos pins s σ H _ I hq) fun us s1 ⟨xs,H1,I1,r,z,q⟩=>⟨by rw [←r.length];exact z,?_⟩)
 have hf:H1 s1.heap.objs.size=none:=I1.hok.fresh (Nat.le_refl _)
 refine ⟨.ref s1.heap.objs.size,upd H1 s1.heap.objs.size (.tup xs),I1.laid (t':=s1.toks) (fun b u e=>Heap.get?_push_of_some _ e) (Nat.le_refl _) ?_,rfl,q _ hf⟩
 exact ⟨z,us,r,⟨_,Heap.get?_push_size _ rfl,rfl,_,rfl⟩⟩
theorem HZ (h:PA X es t):PE X (.List es pos) (S8 t):=by
 intro pins s σ H Q I hq
 refine wpAny_List_spliced (bG (h pos pins s σ H _ I hq) fun us s1 ⟨xs,H1,I1,r,z,q⟩=>⟨by rw [←r.length];exact z,?_⟩)
 have hf:H1 s1.heap.objs.size=none:=I1.hok.fresh (Nat.le_refl _)
 refine ⟨.ref s1.heap.objs.size,upd H1 s1.heap.objs.size (.lst xs),I1.laid (t':=s1.toks) (fun b u e=>Heap.get?_push_of_some _ e) (Nat.le_refl _) ?_,rfl,q _ hf⟩
 exact ⟨z,us,0,r,Heap.get?_push_size _ rfl⟩
end
abbrev Sp:=List V→Hp→VK→XK→Prop
abbrev kK:=List Env→Hp→Shared→XK→Value→Shared→Prop
structure vH (P:Program) (w:World) (K:PySem.W.Frag) (mg:Str→Option Value) (base:Heap) (A:Around) (outer:List Env) (s:Shared) (H:Hp):Prop where
 frames:A.frames=some outer
 mod:Mod K mg base
 bs:∀ b o,base.get? b=some o→s.heap.get? b=some o∧H b=none
 qd:base.objs.size≤s.heap.objs.size
 iE:s.heap.FunFrames base outer
 rj:∀ b∈frs outer,H b=none
 hok:fy P w H s.heap
 bare:AllBare s.gens
noncomputable def CE (outer:List Env) (P:Program) (w:World) (H:Hp) (s:Shared) (Q:VK) (u:Value) (s':Shared):Prop:=
 ∃ v H',s'.os=s.os∧AllBare s'.gens∧Un (frs outer) [] H H' s.heap s'.heap∧fy P w H' s'.heap∧RelV v u∧Q v H'
noncomputable def CR (CX:kK) (outer:List Env) (P:Program) (w:World) (H:Hp) (s:Shared) (Q:VK) (E:XK) (r:Result) (s':Shared):Prop:=
 match r with
 | .ok (.ret u)=>CE outer P w H s Q u s'
 | .ok _=>False
 | .error e=>CX outer H s E e s'
structure gX (P:Program) (w:World) (K:PySem.W.Frag) (mg:Str→Option Value) (base:Heap) (CX:kK) (k:Nat) (f:Addr) (fd:FuncData) (ps:List Str) (sp:Sp):Prop where
 len:∀ vs H Q E,sp vs H Q E→vs.length=ps.length
 run:∀ (A:Around) (outer:List Env) (s:Shared) (H:Hp) (args:Args) (us:List Value) (vs:List V) (Q:VK) (E:XK),gm k A→vH P w K mg base A outer s H→BindsTo s fd args (ps.zip us)→Vals vs us→sp vs H Q E→
  codeAny (model P w) A (.call (.ref f) args) (CR CX outer P w H s Q E) s
section
variable {X:Cx}{pins:List (Addr×Obj)}{σ:St}{H:Hp}{s s':Shared}
theorem Inv.S9 (I:Inv X pins σ H s):vH X.prog X.w X.K X.mg X.base X.A X.stack s H:=
 ⟨I.ok.frames,I.ok.mod,I.bs,Nat.le_trans I.ok.qd I.sz,I.stack,I.ue,I.hok,I.bare⟩
theorem Inv.after {Q:VK}{u:Value}(I:Inv X pins σ H s) (h:CE X.stack X.prog X.w H s Q u s'):EP X pins σ Q u s':=by
 obtain ⟨v,H',os,bare,un,hok,r,q⟩:=h
 obtain ⟨hh,g,d,t,os'⟩:=s'
 obtain rfl:os'=s.os:=os
 exact ⟨v,H',I.call (h':=hh) (g':=g) (d':=d) (t':=t) (ch:=[]) un hok bare (fun b z=>absurd z (by simp)),r,q⟩
end
noncomputable def Og (sp:Sp) (iZ:List V) (E:XK) (t:TA):TE:=fun σ H Q=>t σ H fun vs H1=>sp (vs++iZ) H1 Q E
noncomputable def Binds (K:PySem.W.Frag) (fd:FuncData) (ps:List Str) (ds:List Value):Prop:=
 ∀ (s:Shared) (us:List Value),K.In s.heap→(us++ds).length=ps.length→BindsTo s fd ⟨us,[]⟩ (ps.zip (us++ds))
theorem Binds.all {K:PySem.W.Frag}{fd:FuncData}{ps:List Str}(h:∀ us:List Value,us.length=ps.length→bindArgs fd ⟨us,[]⟩=pure (ps.zip us)):Binds K fd ps []:=fun s us _ hl=>by
 rw [List.append_nil] at hl ⊢
 exact .of_eq (h us hl)
noncomputable def Passes (CX:kK) (X:Cx) (E:XK):Prop:=∀ (pins:List (Addr×Obj)) (σ:St) (H:Hp) (s:Shared) (e:Value) (s':Shared),Inv X pins σ H s→CX X.stack H s E e s'→X.xe e s'
section
variable {X:Cx}{CX:kK}{k:Nat}{f C:Addr}{fd:FuncData}{ps:List Str}{sp:Sp}{iZ:List V}{ds:List Value}{E:XK}{x m:Str}{p pos apos:Pos}{e o:Expr}{es:List Expr}{ta:TE}{t:TA}
theorem Ia {pins:List (Addr×Obj)}{σ:St}{H:Hp}{s:Shared}{Q:VK}{us:List Value}{vs:List V}(F:gX X.prog X.w X.K X.mg X.base CX k f fd ps sp) (hr:gm k X.A) (hb:Binds X.K fd ps ds) (hd:Vals iZ ds) (hx:Passes CX X E)
  (I:Inv X pins σ H s) (r:Vals vs us) (h:sp (vs++iZ) H Q E):wpAny (model X.prog X.w) X.A (call (.ref f) us) (EP X pins σ Q) X.xe s:=by
 have r2:Vals (vs++iZ) (us++ds):=r.append hd
 have hl:(us++ds).length=ps.length:=by rw [←r2.length];exact F.len _ _ _ _ h
 refine wpAny_call (codeAny_mono (F.run X.A X.stack s H ⟨us,[]⟩ (us++ds) (vs++iZ) Q E hr I.S9 (hb s us I.rq hl) r2 h) fun r s' hq=>?_)
 cases r with
 | error e=>exact hx pins σ H s e s' I hq
 | ok fl=>
  cases fl with
  | ret u=>exact I.after hq
  | next=>exact False.elim hq
  | brk=>exact False.elim hq
  | cont=>exact False.elim hq
theorem E3 (F:gX X.prog X.w X.K X.mg X.base CX k f fd ps sp) (hr:gm k X.A) (hg:Gl X x) (hm:X.mg x=some (.ref f)) (hk:PySem.W.keepIn X.K (.ref f)=true) (hb:Binds X.K fd ps ds) (hd:Vals iZ ds) (hx:Passes CX X E)
  (ha:PA X (e :: es) t) (hdb:(x==("__debug__" : Str))=false:=by decide) (he:starEach (e :: es) X.env=(false,eval e X.env) :: starEach es X.env:=by rfl) (hpl:(backTo pos (starEach es X.env)).any (·.1)=false:=by rfl) :
  PE X (.Call (.Name x p) (e :: es) [] pos) (Og sp iZ E t):=by
 intro pins s σ H Q I h
 refine wpAny_Call_Name_kw (EU I hg hm ?_ hdb)
 refine PySem.W.callWith_K (h₀:=X.base) I.ok.mod.CM hk (bG (ha pos pins s σ H _ I h) fun us s1 ⟨vs,H1,I1,r,q⟩=>⟨I1.rq,?_⟩) he hpl
 exact Ia F hr hb hd hx I1 r q
structure Mk (K:PySem.W.Frag) (C f:Addr):Prop where
 makes:PySem.W.makesIn K C=true
 init:PySem.W.findIn K (.ref C) "__init__" = some (some (.ref f))
 fn:PySem.W.isFn K (.ref f)=true
 kp:PySem.W.keepIn K (.ref C)=true
end
section
variable {X:Cx}{CX:kK}{k:Nat}{f C:Addr}{fd:FuncData}{ps ks:List Str}{sp:Sp}{E:XK}{x m:Str}{p pos apos kpos:Pos}{e o:Expr}{es:List Expr}{kws:List Keyword}{te ta:TE}{t tk:TA}{nm:Option Str}
structure VY (K:PySem.W.Frag) (fd:FuncData) (ps ks:List Str) (g:List Value→List Value→List Value) (gV:List V→List V→List V):Prop where
 to:∀ (s:Shared) (us ws:List Value),K.In s.heap→(g us ws).length=ps.length→BindsTo s fd ⟨us,ks.zip ws⟩ (ps.zip (g us ws))
 rel:∀ {vs:List V} {us:List Value} {zs:List V} {ws:List Value},Vals vs us→Vals zs ws→Vals (gV vs zs) (g us ws)
variable {g:List Value→List Value→List Value}{gV:List V→List V→List V}
end
structure bz (N P:List Str) (sc:Scope):Prop where
 kind:sc.kind=.function
 co:sc.isCoroutine=false
 gen:sc.isGenerator=false
 nd:N.Nodup
 pre:N.take P.length=P
 par:∀ x∈P,sc.names.lookup x=some .local∨sc.names.lookup x=some .cell
 Ib:∀ y∈sc.names,y.2≠.free
theorem qi {kindOf:Str→Option NameKind}{x:Str}:∀ {binds:List (Str×Value)}{m:Str→Option Value},(∀ v,(x,v)∉binds)→bindL kindOf binds m x=m x
 | [],_,_=>rfl
 | (n,v) :: r,m,h=>by
  unfold bindL
  rw [qi fun w hw=>h w (List.mem_cons_of_mem _ hw)]
  split
  ·have:x≠n:=by rintro rfl;exact h v List.mem_cons_self
   simp [this]
  ·rfl
theorem qj {kindOf:Str→Option NameKind}{x:Str}:∀ {binds:List (Str×Value)}{m:Str→Option Value},(∀ v,(x,v)∉binds)→bindC kindOf binds m x=m x
 | [],_,_=>rfl
 | (n,v) :: r,m,h=>by
  unfold bindC
  rw [qj fun w hw=>h w (List.mem_cons_of_mem _ hw)]
  split
  ·rfl
  ·have:x≠n:=by rintro rfl;exact h v List.mem_cons_self
   simp [this]
theorem qk {kindOf:Str→Option NameKind}{x:Str}{v:Value}:∀ {P:List Str}{vs:List Value}{i:Nat}{m:Str→Option Value},P.Nodup→P[i]?=some x→vs[i]?=some v→kindOf x=some .local→
  bindL kindOf (P.zip vs) m x=some v
 | [],_,_,_,_,h,_,_=>by simp at h
 | _ :: _,[],_,_,_,_,h,_=>by simp at h
 | p :: P,w :: vs,0,m,nd,h1,h2,hk=>by
  simp at h1 h2;subst h1;subst h2
  show bindL kindOf ((p,w) :: P.zip vs) m p=_
  unfold bindL
  rw [qi fun v hv=>(List.nodup_cons.mp nd).1 (List.of_mem_zip hv).1,if_pos hk]
  simp
 | p :: P,w :: vs,i+1,m,nd,h1,h2,hk=>by
  show bindL kindOf ((p,w) :: P.zip vs) m x=_
  unfold bindL
  exact qk (i:=i) (List.nodup_cons.mp nd).2 (by simpa using h1) (by simpa using h2) hk
theorem ql {kindOf:Str→Option NameKind}{x:Str}{v:Value}:∀ {P:List Str}{vs:List Value}{i:Nat}{m:Str→Option Value},P.Nodup→P[i]?=some x→vs[i]?=some v→kindOf x≠some .local→
  bindC kindOf (P.zip vs) m x=some v
 | [],_,_,_,_,h,_,_=>by simp at h
 | _ :: _,[],_,_,_,_,h,_=>by simp at h
 | p :: P,w :: vs,0,m,nd,h1,h2,hk=>by
  simp at h1 h2;subst h1;subst h2
  show bindC kindOf ((p,w) :: P.zip vs) m p=_
  unfold bindC
  rw [qj fun v hv=>(List.nodup_cons.mp nd).1 (List.of_mem_zip hv).1,if_neg hk]
  simp
 | p :: P,w :: vs,i+1,m,nd,h1,h2,hk=>by
  show bindC kindOf ((p,w) :: P.zip vs) m x=_
  unfold bindC
  exact ql (i:=i) (List.nodup_cons.mp nd).2 (by simpa using h1) (by simpa using h2) hk
noncomputable def start (N:List Str) (vs:List V):St:=vs.map some++List.replicate (N.length - vs.length) none
noncomputable def m7 (CX:kK) (P:Program) (w:World) (K:PySem.W.Frag) (mg:Str→Option Value) (base:Heap) (N:List Str) (qual:Str) (scope:Scope) (f:Addr) (cd:Value) (A:Around) (outer:List Env) (s:Shared) (H:Hp) (E:XK):Cx where
 prog:=P
 w:=w
 K:=K
 mg:=mg
 base:=base
 A:=A.deeper (envOfC qual scope s.heap.objs.size f cd)
 N:=N
 s₀:=s
 H₀:=H
 env:=envOfC qual scope s.heap.objs.size f cd
 outer:=outer
 stack:=envOfC qual scope s.heap.objs.size f cd :: outer
 ex:=[]
 calm:=true
 fn:=fun _=>true
 pn:=[]
 xe:=fun e s'=>wpAny (model P w) (A.deeper (envOfC qual scope s.heap.objs.size f cd)) (leaving (envOfC qual scope s.heap.objs.size f cd) e) (fun _ s''=>CX outer H s E e s'') (fun e' s''=>CX outer H s E e' s'') s'
theorem rE {sc:Scope}{n:Nat}{x:Str}(h:sc.names.lookup x=some .cell):∃ c,(cellsFrom n sc.names []).lookup x=some c:=by
 have q:=PySem.W.cellsFrom_some sc.names n [] (.inl h)
 exact Option.isSome_iff_exists.mp q
theorem x6 {CX:kK}{P:Program}{w:World}{K:PySem.W.Frag}{mg:Str→Option Value}{base:Heap}{N ps:List Str}{qual:Str}{scope:Scope}{f:Addr}{cd:Value}{A:Around}{outer:List Env}{s s1:Shared}{H:Hp}{E:XK}{us:List Value}{vs:List V}
  (S:bz N ps scope) (hd:A.handled=none) (e0:vH P w K mg base A outer s H) (hl:vs.length=ps.length) (r:Vals vs us)
  (x:InCallC s s.heap.objs.size (bindL (envOfC qual scope s.heap.objs.size f cd).kindOf (ps.zip us) fun _=>none) (cellsFrom (s.heap.objs.size+1) scope.names []) (bindC (envOfC qual scope s.heap.objs.size f cd).kindOf (ps.zip us) fun _=>none) s1) :
  Inv (m7 CX P w K mg base N qual scope f cd A outer s H E) [] (start N vs) H s1:=by
 have hpl:ps.length≤N.length:=by have:=congrArg List.length S.pre;rw [List.length_take] at this;omega
 obtain ⟨h1,tk,rfl,hk⟩:=x.done
 have x8:∀ b:Addr,b∉(m7 CX P w K mg base N qual scope f cd A outer s H E).ex:=fun b z=>absurd (show b∈([]:List Addr) from z) (by simp)
 refine ⟨⟨e0.mod,S.kind,rfl,rfl,Nat.le_refl _,fun y z c h1 h2=>?_,fun y hy=>?_,fun y c _ h=>?_,fun _=>hd,Around.frames_deeper e0.frames,.inr ⟨rfl,rfl⟩,fun b z=>absurd z (x8 b),e0.bs,e0.qd,fun b _ _=>x8 b,fun b z=>absurd z (x8 b),e0.iE,e0.rj⟩,
  rfl,e0.bare,Un.kept hk,⟨_,x.toInCall.ns,fun i y v h1 h2 h3=>?_⟩,fun y c h=>⟨_,x.cell y c h⟩,e0.hok.fresh (Nat.le_refl _),fun y c h=>?_,fun p hp=>absurd (show p∈([]:List (Addr×Obj)) from hp) (by simp),e0.hok.kept hk,?_⟩
 ·exact name_of_addr x.apart (PySem.mem_of_lookup h1) (PySem.mem_of_lookup h2)
 ·have hy:scope.names.lookup y=some .cell∨scope.names.lookup y=some .free:=hy
  rcases hy with hy | hy
  ·exact rE hy
  ·exact absurd rfl (S.Ib _ (PySem.mem_of_lookup hy))
 ·exact Nat.le_of_lt (x.above y c (PySem.mem_of_lookup h))
 ·have hi:i<vs.length:=by
   unfold start at h2
   by_cases hi:i<vs.length
   ·exact hi
   ·rw [List.getElem?_append_right (by simpa using hi)] at h2
    rw [List.getElem?_replicate] at h2
    split at h2 <;> cases h2
  have ha:vs[i]?=some v:=by
   unfold start at h2
   rw [List.getElem?_append_left (by simpa using hi),List.getElem?_map] at h2
   cases e:vs[i]? with
   | none=>rw [e] at h2;cases h2
   | some a=>rw [e] at h2;cases h2;rfl
  obtain ⟨u,hu,rv⟩:=r.get ha
  have hp:ps[i]?=some y:=by
   rw [←S.pre,List.getElem?_take_of_lt (by omega)];exact h1
  have Qi:ps.Nodup:=by rw [←S.pre];exact S.nd.sublist (List.take_sublist _ _)
  refine ⟨u,rv,?_⟩
  rcases S.par y (List.mem_of_getElem? hp) with k | k
  ·exact .inl ⟨k,qk Qi hp hu k⟩
  ·obtain ⟨c,e⟩:=rE (n:=s.heap.objs.size+1) k
   refine .inr ⟨.inl k,c,e,?_⟩
   have q:=x.cell y c e
   rw [ql Qi hp hu (by show scope.names.lookup y≠_;rw [k];decide)] at q
   exact q
 ·exact e0.hok.fresh (Nat.le_of_lt (x.above y c (PySem.mem_of_lookup h)))
 ·unfold start
  show _=N.length
  rw [List.length_append,List.length_map,List.length_replicate]
  omega
theorem Oh {CX:kK}{P:Program}{w:World}{K:PySem.W.Frag}{mg:Str→Option Value}{base:Heap}{k:Nat}{f:Addr}{name qual:Str}{params:Arguments}{body:List Stmt}{scope:Scope}{dV kV doc pm cdv ct oc:Value}{an od:Option Addr}
  {osl:Array (Option Value)} {N ps:List Str} {sp:Sp} (lk:K.lookup f=some ⟨oc,od,.func (PySem.W.fnOf name qual params body scope dV kV doc pm an cdv ct),osl⟩) (hcd:PySem.W.codeIn K cdv qual=true) (S:bz N ps scope)
  (len:∀ vs H Q E,sp vs H Q E→vs.length=ps.length)
  (hbody:∀ (A:Around) (outer:List Env) (s:Shared) (H:Hp) (vs:List V) (Q:VK) (E:XK),gm k (A.deeper (envOfC qual scope s.heap.objs.size f cdv))→sp vs H Q E→
   ∃ t,gS (m7 CX P w K mg base N qual scope f cdv A outer s H E) body t∧t { nx:=fun _ H'=>Q .aY H',rt:=Q } (start N vs) H) :
  gX P w K mg base CX (k+1) f (PySem.W.fnOf name qual params body scope dV kV doc pm an cdv ct) ps sp:=by
 refine ⟨len,fun A outer s H args us vs Q E hr e0 hb r jU=>?_⟩
 have hl:=len _ _ _ _ jU
 have KX:K.In s.heap:=e0.mod.CM.keeps fun b o e=>(e0.bs b o e).1
 have lim:s.heap.NoLimit:=e0.mod.nolimit.keeps fun b o e=>(e0.bs b o e).1
 have hkind:∀ y∈ps.zip us,scope.names.lookup y.1=some .local∨(scope.names.lookup y.1=some .cell∧((cellsFrom (s.heap.objs.size+1) scope.names []).lookup y.1).isSome=true):=fun ⟨n,v⟩ hy=>by
  rcases S.par n (List.of_mem_zip hy).1 with q | q
  ·exact .inl q
  ·exact .inr ⟨q,PySem.W.cellsFrom_some _ _ _ (.inl q)⟩
 refine codeAny_call_function hr.depth (KX _ _ lk) rfl S.co S.gen rfl (PySem.W.codeRec_of KX hcd) (hb _ _ _ _ ?_)
 refine wpAny_newFunctionEnv_cells S.kind hkind fun env he s1 x=>?_
 subst he
 refine ⟨lim.keeps x.toInCall.keep,codeAny_func ?_⟩
 obtain ⟨t,ht,hq⟩:=hbody A outer s H vs Q E (hr.deeper _) jU
 have I:Inv (m7 CX P w K mg base N qual scope f cdv A outer s H E) [] (start N vs) H s1:=x6 S hr.hd e0 hl r x
 refine wpAny_mono (ht [] s1 (start N vs) H _ I hq) (fun fl s' hs=>?_) fun e s' hs=>hs
 have fin:∀ {σ':St} {H':Hp} {v:V} {u:Value},Inv (m7 CX P w K mg base N qual scope f cdv A outer s H E) [] σ' H' s'→RelV v u→Q v H'→CE outer P w H s Q u s':=
  fun {σ' H' v u} J rv q=>⟨v,H',J.os,J.bare,J.base,J.hok,rv,q⟩
 cases fl with
 | ret u=>
  obtain ⟨v,σ',H',J,rv,q⟩:=hs
  exact fin J rv q
 | next=>
  obtain ⟨σ',H',J,q⟩:=hs
  exact fin (v:=V.aY) (u:=Value.none) J rfl q
 | brk=>
  obtain ⟨_,_,_,q⟩:=hs
  exact False.elim q
 | cont=>
  obtain ⟨_,_,_,q⟩:=hs
  exact False.elim q
end L2
namespace L2
open PySem PySem.Spec PyProof.Rows
section
variable {X:Cx}{x:Str}{p pos:Pos}{e:Expr}{es:List Expr}{t:TA}{id T:String}{r:List V→Hp→VK→Prop}
noncomputable def Ic (r:List V→Hp→VK→Prop) (t:TA):TE:=fun σ H Q=>t σ H fun vs H1=>r vs H1 Q
theorem Ai (hc:gD X (.builtin id) r) (hg:Gl X x) (hm:X.mg x=none) (hv:bootBuiltins x=some (.builtin id)) (ha:PA X (e :: es) t) (hn:x≠"__name__" :=by decide) (hdb:(x==("__debug__" : Str))=false:=by decide)
  (he:starEach (e :: es) X.env=(false,eval e X.env) :: starEach es X.env:=by rfl) (hpl:(backTo pos (starEach es X.env)).any (·.1)=false:=by rfl):PE X (.Call (.Name x p) (e :: es) [] pos) (Ic r t):=by
 intro pins s σ H Q I h
 refine wpAny_Call_Name_kw (jR I hg hm hv ?_ hn hdb)
 exact PyProof.Rows.callWith_builtin1 (bG (ha pos pins s σ H _ I h) fun us s1 ⟨vs,H1,I1,r1,q1⟩=>hc pins s1 σ H1 vs us Q I1 r1 q1) he hpl
theorem x9 (hc:gD X (.type T) r) (hg:Gl X x) (hm:X.mg x=none) (hv:bootBuiltins x=some (.type T)) (ha:PA X (e :: es) t) (hn:x≠"__name__" :=by decide) (hdb:(x==("__debug__" : Str))=false:=by decide)
  (he:starEach (e :: es) X.env=(false,eval e X.env) :: starEach es X.env:=by rfl) (hpl:(backTo pos (starEach es X.env)).any (·.1)=false:=by rfl):PE X (.Call (.Name x p) (e :: es) [] pos) (Ic r t):=by
 intro pins s σ H Q I h
 refine wpAny_Call_Name_kw (jR I hg hm hv ?_ hn hdb)
 exact PyProof.Rows.callWith_type1 (bG (ha pos pins s σ H _ I h) fun us s1 ⟨vs,H1,I1,r1,q1⟩=>hc pins s1 σ H1 vs us Q I1 r1 q1) he hpl
end
end L2
namespace HT
open PySem PyProof.Rows
section
open PySem.SeqAt
open PySem.AutoSeq1 (wpAny_loadPart')
open PySem.MeetsSeq PySem.MeetsSeq2 PySem.MeetsSeq3
end
section
variable {prog:Program}{w:World}{A:Around}{E:Value→Shared→Prop}{s:Shared}
theorem E4 {t b:Addr}{vs ws:List Value}{Q:Value→Shared→Prop}(ht:IsTup s.heap t vs.toArray) (hb:IsTup s.heap b ws.toArray) (hv:vs≠[])
  (h1:ws=[]→Q (.ref t) s) (h2:ws≠[]→Q (.ref s.heap.objs.size) { s with heap:=s.heap.push { cls:=.type "tuple",data:=.seq (vs++ws).toArray }})
  (hsz:vs.length+ws.length≤sizeLine):wpAny (model prog w) A (binaryOp .Add (.ref t) (.ref b)) Q E s:=by
 obtain ⟨⟨cls,dd,data,sl⟩,ho,hc,n,hd⟩:=id ht
 obtain ⟨⟨Tc,dd2,data2,sl2⟩,ho2,hc2,n2,hd2⟩:=id hb
 simp only at hc hd hc2 hd2
 subst hc hd hc2 hd2
 have e:vs.toArray++ws.toArray=(vs++ws).toArray:=by simp
 by_cases hw:ws=[]
 ·exact concat_meets ⟨_,ho,rfl⟩ ⟨_,ho2,rfl⟩ noFill_tuple_add seq_tuple_add PySem.F.slot_tuple_add PySem.F.entry_tuple_add (PySem.F.args_tuple_add_2 _ _)
   (tuple_addW1 t b vs.toArray ws.toArray n n2 dd dd2 sl sl2 (by simpa using hv) (by simp [hw])) ⟨ho,ho2,h1 hw⟩
 ·refine concat_meets ⟨_,ho,rfl⟩ ⟨_,ho2,rfl⟩ noFill_tuple_add seq_tuple_add PySem.F.slot_tuple_add PySem.F.entry_tuple_add (PySem.F.args_tuple_add_2 _ _)
   (tuple_addW2 t b vs.toArray ws.toArray n n2 dd dd2 sl sl2 (by simpa using hv) (by simpa using hw) (by rw [List.size_toArray,List.size_toArray];exact hsz)) ⟨ho,ho2,?_⟩
  rw [e]
  exact h2 hw
noncomputable def aQ (n d:Nat):Option Int→Nat
 | none=>d
 | some v=>if v<0 then (v+(n:Int)).toNat else min v.toNat n
theorem rF (n d:Nat) (hd:d≤n) (o:Option Int):aQ n d o≤n:=by
 cases o with
 | none=>exact hd
 | some v=>
  show (if v<0 then (v+(n:Int)).toNat else min v.toNat n)≤n
  by_cases hv:v<0
  ·rw [if_pos hv];omega
  ·rw [if_neg hv];exact Nat.min_le_right _ _
theorem um (v:Int) (n d:Nat):(if v<0 then max (v+(n:Int)) 0 else min v (n:Int))=((aQ n d (some v):Nat):Int):=by
 show (if v<0 then max (v+(n:Int)) 0 else min v (n:Int))=(((if v<0 then (v+(n:Int)).toNat else min v.toNat n):Nat):Int)
 by_cases hv:v<0
 ·simp only [if_pos hv];omega
 ·simp only [if_neg hv];omega
theorem vI (lo hi:Option Int) (n:Nat):Builtin.Slice.sliceAdjust lo hi 1 (n:Int)=(((aQ n 0 lo:Nat):Int),((aQ n n hi:Nat):Int)):=by
 have h1:¬ ((1:Int)<0):=by omega
 unfold Builtin.Slice.sliceAdjust
 simp only [h1,if_false]
 refine Prod.ext ?_ ?_
 ·cases lo with
  | none=>rfl
  | some v=>exact um v n 0
 ·cases hi with
  | none=>rfl
  | some v=>exact um v n n
theorem vJ (i j:Nat):Builtin.Slice.slicePlaces (i:Int) (j:Int) 1=j - i:=by
 unfold Builtin.Slice.slicePlaces
 have h1:(1:Int) > 0:=by omega
 simp only [h1,if_true,Int.ediv_one]
 split <;> omega
theorem nU {v:Value}{o:Option Int}{Q:Option Int→Shared→Prop}(p:IsPart v o) (h:Q o s):wpAny (model prog w) A (Builtin.Slice.slicePartIndex v) Q E s:=by
 cases p with
 | none=>exact slicePart_none h
 | int i t=>exact slicePart_int h
theorem ja {sl:Addr}{vl vu:Value}{lo hi:Option Int}{n:Nat}{Q:Int×Int×Nat→Shared→Prop}(hs:s.heap.IsSliceOf sl vl vu .none)(pl:IsPart vl lo)(pu:IsPart vu hi)
  (h:Q (((aQ n 0 lo:Nat):Int),1,aQ n n hi - aQ n 0 lo) s):wpAny (model prog w) A (Builtin.Slice.sliceApplied (.ref sl) (pure (n:Int))) Q E s:=by
 obtain ⟨os,hos,hcs,hds⟩:=id hs
 unfold Builtin.Slice.sliceApplied Builtin.Slice.sliceFields
 refine wpAny_bind (wpAny_bind (wpAny_field hos hds (x:=vl) rfl (wpAny_bind (wpAny_field hos hds (x:=vu) rfl (wpAny_bind (wpAny_field hos hds (x:=.none) rfl (wpAny_pure ?_)))))))
 refine wpAny_bind (slicePart_none ?_)
 show wpAny _ _ (if ((1:Int)==0)=true then _ else _) _ _ s
 rw [if_neg (by decide)]
 refine wpAny_bind (nU pl (wpAny_bind (nU pu (wpAny_bind (wpAny_pure ?_)))))
 show wpAny _ _ (match Builtin.Slice.sliceAdjust lo hi 1 (n:Int) with | (lo,hi)=>pure (lo,(1:Int),Builtin.Slice.slicePlaces lo hi 1)) _ _ s
 rw [vI lo hi n]
 show wpAny _ _ (pure (((aQ n 0 lo:Nat):Int),(1:Int),Builtin.Slice.slicePlaces ((aQ n 0 lo:Nat):Int) ((aQ n n hi:Nat):Int) 1)) _ _ s
 rw [vJ]
 exact wpAny_pure h
theorem Aj (xs:Array Value) (i k:Nat):((List.range k).filterMap fun (m:Nat)=>xs[((i:Int)+(m:Int)*1).toNat]?).toArray=((xs.toList.drop i).take k).toArray:=by
 have e:(fun (m:Nat)=>xs[((i:Int)+(m:Int)*1).toNat]?)=fun m=>xs[i+m]?:=by
  funext m
  have:((i:Int)+(m:Int)*1).toNat=i+m:=by omega
  rw [this]
 rw [e]
 have:=pick_run xs i k
 rw [List.filterMap_map] at this
 have e2:((fun x=>xs[x]?) ∘ fun x=>i+x)=fun m=>xs[i+m]?:=rfl
 rw [e2] at this
 rw [this]
theorem mJ {t sl:Addr}{items:Array Value}{vl vu:Value}{lo hi:Option Int}{Q:Value→Shared→Prop}(ht:IsTup s.heap t items)(hs:s.heap.IsSliceOf sl vl vu .none)(pl:IsPart vl lo)(pu:IsPart vu hi)
  (hw:¬ (aQ items.size 0 lo=0∧aQ items.size items.size hi=items.size))
  (h:Q (.ref s.heap.objs.size) { s with heap:=s.heap.push { cls:=.type "tuple",data:=.seq ((items.toList.drop (aQ items.size 0 lo)).take (aQ items.size items.size hi - aQ items.size 0 lo)).toArray }})
  (hsz:items.size≤sizeLine):wpAny (model prog w) A (getItem (.ref t) (.ref sl)) Q E s:=by
 have qN:sizeOk (.seq ((items.toList.drop (aQ items.size 0 lo)).take (aQ items.size items.size hi - aQ items.size 0 lo)).toArray):=by
  show ((items.toList.drop (aQ items.size 0 lo)).take (aQ items.size items.size hi - aQ items.size 0 lo)).toArray.size≤sizeLine
  rw [List.size_toArray,List.length_take,List.length_drop,Array.length_toList]
  omega
 have hj:aQ items.size items.size hi≤items.size:=rF _ _ (Nat.le_refl _) hi
 obtain ⟨os,hos,hcs,hds⟩:=id hs
 have Ie:s.TypeIs (.ref sl) "slice" :=⟨os,hos,hcs⟩
 unfold getItem
 try with_reducible refine wpAny_holding ?_
 first | refine wpAny_bind (wpAny_pure ?_) | skip
 refine wpAny_bind (wpAny_sequenceKey ht.typeIs (by decide) ?_)
 refine wpAny_bind (wpAny_callSpecial?_slot (name:=Str.ofString "__getitem__") ht.typeIs PyProof.Rows.slot_tuple_getitem
  (wpAny_call_entry PyProof.Rows.slot_tuple_getitem ht.typeIs entry_tuple_getitem ?_ (args_tuple_getitem _ _)))
 show wpAny _ _ (Builtin.Tuple.tupleItemsOf (.ref t) >>= _) _ _ s
 refine wpAny_bind (tupleItemsOf_ ht ?_)
 refine wpAny_bind (wpAny_typeOf Ie ?_)
 rw [if_pos (by decide)]
 refine wpAny_bind (ja hs pl pu ?_)
 have hno:¬ ((((aQ items.size 0 lo:Nat):Int)==0&&(1:Int)==1&&(aQ items.size items.size hi - aQ items.size 0 lo)==items.size)=true):=by
  intro q
  rw [Bool.and_eq_true,Bool.and_eq_true] at q
  have q1:((aQ items.size 0 lo:Nat):Int)=0:=eq_of_beq q.1.1
  have q2:aQ items.size items.size hi - aQ items.size 0 lo=items.size:=eq_of_beq q.2
  exact hw ⟨by omega,by omega⟩
 show wpAny _ _ (if (((aQ items.size 0 lo:Nat):Int)==0&&(1:Int)==1&&(aQ items.size items.size hi - aQ items.size 0 lo)==items.size)=true then _ else _) _ _ s
 rw [if_neg hno,Aj]
 first
  | exact wpAny_bind (m:=Builtin.Tuple.tupleExact _) (wpAny_newObj_type (wpAny_pure ⟨_,rfl,wpAny_pure h⟩) qN)
  | exact wpAny_bind (m:=Builtin.Tuple.tupleExact _) (wpAny_newObj_type (wpAny_bind (wpAny_pure (wpAny_pure ⟨_,rfl,wpAny_pure h⟩))) qN)
  | exact wpAny_bind (wpAny_bind (m:=Builtin.Tuple.tupleExact _) (wpAny_newObj_type (wpAny_pure (wpAny_pure ⟨_,rfl,wpAny_pure h⟩)) qN))
  | exact wpAny_bind (wpAny_bind (m:=Builtin.Tuple.tupleExact _) (wpAny_newObj_type (wpAny_pure ⟨_,rfl,wpAny_pure h⟩) qN))
end
end HT
namespace L2
open PySem PySem.Spec PyProof.Rows
abbrev TO:=St→Hp→(Option Int→Hp→Prop)→Prop
noncomputable def PO (X:Cx) (e:Option Expr) (t:TO):Prop:=
 ∀ (pins:List (Addr×Obj)) (s:Shared) (σ:St) (H:Hp) (Q:Option Int→Hp→Prop),Inv X pins σ H s→t σ H Q→
  wpAny (model X.prog X.w) X.A (evalPart e X.env) (fun u s'=>∃ o H',Inv X pins σ H' s'∧IsPart u o∧Q o H') X.xe s
noncomputable def E5:TO:=fun _ H Q=>Q none H
noncomputable def Oi (t:TE):TO:=fun σ H Q=>t σ H fun x H1=>∃ i,x=.int i∧Q (some i) H1
section
variable {X:Cx}{e:Expr}{te:TE}{lo hi:Option Expr}{tl th:TO}{pos p2:Pos}
theorem E6:PO X none E5:=by
 intro pins s σ H Q I h
 rw [evalPart_none]
 exact wpAny_pure ⟨none,H,I,.none,h⟩
theorem E7 (h:PE X e te):PO X (some e) (Oi te):=by
 intro pins s σ H Q I hw
 rw [evalPart_some]
 refine bG (h pins s σ H _ I hw) fun u s1 ⟨x,H1,I1,r1,q1⟩=>?_
 obtain ⟨i,rfl,q⟩:=q1
 obtain ⟨t,rfl⟩:=r1
 exact ⟨some i,H1,I1,.int i t,q⟩
noncomputable def jV (X:Cx) (r:V→Option Int→Option Int→Hp→VK→Prop):Prop:=
 ∀ (pins:List (Addr×Obj)) (s:Shared) (σ:St) (H:Hp) (x:V) (v vl vu:Value) (lo hi:Option Int) (sl:Addr) (Q:VK),Inv X pins σ H s→RelV x v→s.heap.IsSliceOf sl vl vu .none→IsPart vl lo→IsPart vu hi→r x lo hi H Q→
  ∃ T id,typeLookup (.type T) "__getitem__" = pure (some (.builtin id))∧s.TypeIs v T∧wpAny (model X.prog X.w) X.A (getItem v (.ref sl)) (EP X pins σ Q) X.xe s
noncomputable def VZ (r:V→Option Int→Option Int→Hp→VK→Prop) (te:TE) (tl th:TO):TE:=fun σ H Q=>te σ H fun x H1=>tl σ H1 fun l H2=>th σ H2 fun u H3=>r x l u H3 Q
theorem Ak {r:V→Option Int→Option Int→Hp→VK→Prop}(hr:jV X r) (he:PE X e te) (hl:PO X lo tl) (hu:PO X hi th):PE X (.Subscript e (.Slice lo hi none p2) pos) (VZ r te tl th):=by
 intro pins s σ H Q I h
 refine Subscript_ (bG (he pins s σ H _ I h) fun v s1 ⟨x,H1,I1,r1,q1⟩=>?_)
 refine wpAny_Slice (bG (hl pins s1 σ H1 _ I1 q1) fun vl s2 ⟨l,H2,I2,pl,q2⟩=>bG (hu pins s2 σ H2 _ I2 q2) fun vu s3 ⟨u,H3,I3,pu,q3⟩=>?_)
 rw [evalPart_none]
 refine wpAny_pure ?_
 have I4:Inv X pins σ H3 { s3 with heap:=s3.heap.push { cls:=.type "slice",data:=.fields #[vl,vu,.none]}}:=I3.kept (t':=s3.toks) fun b ob q=>Heap.get?_push_of_some _ q
 obtain ⟨T,id,hT,ht,hg⟩:=hr pins { s3 with heap:=s3.heap.push { cls:=.type "slice",data:=.fields #[vl,vu,.none]}} σ H3 x v vl vu l u s3.heap.objs.size Q I4 r1 (Heap.IsSliceOf.new ..) pl pu q3
 show wpAny (model X.prog X.w) X.A (subscriptTail e (.Slice lo hi none p2) v (.ref s3.heap.objs.size)) (EP X pins σ Q) X.xe { s3 with heap:=s3.heap.push { cls:=.type "slice",data:=.fields #[vl,vu,.none]}}
 exact tail_any (ops:=[.ref s3.heap.objs.size,v]) ht hT hg (by with_unfolding_all rfl)
noncomputable def kT (xs:List V) (lo hi:Option Int):List V:=(xs.drop (HT.aQ xs.length 0 lo)).take (HT.aQ xs.length xs.length hi - HT.aQ xs.length 0 lo)
theorem mL (xs:List V) (lo hi:Option Int):(kT xs lo hi).length≤xs.length:=by
 unfold kT
 rw [List.length_take,List.length_drop]
 omega
noncomputable def Td (K:PySem.W.Frag):V→Option Int→Option Int→Hp→VK→Prop:=fun x lo hi H Q=>∃ a xs,x=.ref a∧dh K H a xs∧
 ¬ (HT.aQ xs.length 0 lo=0∧HT.aQ xs.length xs.length hi=xs.length)∧∀ p,H p=none→Q (.ref p) (upd H p (.tup (kT xs lo hi)))
theorem Ig:jV X (Td X.K):=by
 intro pins s σ H x v vl vu lo hi sl Q I rx hs pl pu h
 obtain ⟨a,xs,rfl,hx,hw,q⟩:=h
 cases rx
 obtain ⟨its,r,ht,hz⟩:=I.tuple hx
 have hlen:its.toArray.size=xs.length:=by rw [List.size_toArray];exact r.length.symm
 refine ⟨"tuple",_,PyProof.Rows.slot_tuple_getitem.lookup,ht.typeIs,?_⟩
 refine HT.mJ ht hs pl pu (by rw [hlen];exact hw) ?_ (by rw [hlen];exact hz)
 rw [hlen]
 refine ⟨.ref s.heap.objs.size,_,I.laid (t':=s.toks) (o:=.tup (kT xs lo hi)) (fun b ob q=>Heap.get?_push_of_some _ q) (Nat.le_refl _) ?_,rfl,q _ (I.hok.fresh (Nat.le_refl _))⟩
 exact ⟨Nat.le_trans (mL xs lo hi) hz,_,(r.drop (HT.aQ xs.length 0 lo)).take (HT.aQ xs.length xs.length hi - HT.aQ xs.length 0 lo),IsTup.new _ _⟩
noncomputable def Oj (K:PySem.W.Frag):R2:=fun x y H Q=>∃ a b xs ys,x=.ref a∧y=.ref b∧dh K H a xs∧dh K H b ys∧xs≠[]∧xs.length+ys.length≤sizeLine∧
 (ys=[]→Q (.ref a) H)∧(ys≠[]→∀ p,H p=none→Q (.ref p) (upd H p (.tup (xs++ys))))
theorem Vals.pF {xs:List V}{us:List Value}(r:Vals xs us):us=[]↔xs=[]:=by
 cases r with
 | nil=>simp
 | cons _ _=>simp
theorem E8:dD X (binaryOp .Add) (Oj X.K):=by
 intro pins s σ H x y v u Q I rx ry h
 obtain ⟨a,b,xs,ys,rfl,rfl,ha,hb,hx,hz,q1,q2⟩:=h
 cases rx
 cases ry
 obtain ⟨its,r1,p1,_⟩:=I.tuple ha
 obtain ⟨its2,r2,p2,_⟩:=I.tuple hb
 refine HT.E4 p1 p2 (fun z=>hx (r1.pF.mp z)) (fun z=>⟨.ref a,H,I,rfl,q1 (r2.pF.mp z)⟩) (fun z=>?_) (by rw [←r1.length,←r2.length];exact hz)
 refine ⟨.ref s.heap.objs.size,_,I.laid (t':=s.toks) (o:=.tup (xs++ys)) (fun b ob q=>Heap.get?_push_of_some _ q) (Nat.le_refl _) ?_,rfl,q2 (fun w=>z (r2.pF.mpr w)) _ (I.hok.fresh (Nat.le_refl _))⟩
 exact ⟨by rw [List.length_append];exact hz,_,r1.append r2,IsTup.new _ _⟩
end
end L2
namespace L2
open PySem PySem.Spec PyProof.Rows
noncomputable def dY (n:Nat) (i:Int):Option Nat:=if 0≤i then (if i<n then some i.toNat else none) else if -(n:Int)≤i then some (i+n).toNat else none
noncomputable def bK {α:Type}(xs:List α) (i:Int):Option α:=(dY xs.length i).bind fun j=>xs[j]?
theorem E9 {n:Nat}{i:Int}{j:Nat}(h:dY n i=some j):seqIndex? i n=some j∧j<n∧-(n:Int)≤i∧i<n:=by
 unfold dY at h
 by_cases h0:0≤i
 ·rw [if_pos h0] at h
  by_cases h1:i<n
  ·rw [if_pos h1] at h
   have e:i.toNat=j:=Option.some.inj h
   exact ⟨by rw [seqIndex_of h0 h1,e],by omega,by omega,h1⟩
  ·rw [if_neg h1] at h;cases h
 ·rw [if_neg h0] at h
  by_cases h1:-(n:Int)≤i
  ·rw [if_pos h1] at h
   have e:(i+n).toNat=j:=Option.some.inj h
   exact ⟨by rw [seqIndex_neg (by omega) h1,e],by omega,h1,by omega⟩
  ·rw [if_neg h1] at h;cases h
theorem pG {α:Type}{xs:List α}{i:Int}{v:α}(h:bK xs i=some v):∃ j,seqIndex? i xs.length=some j∧xs[j]?=some v∧j<xs.length∧-(xs.length:Int)≤i∧i<xs.length:=by
 unfold bK at h
 cases e:dY xs.length i with
 | none=>rw [e] at h;cases h
 | some j=>
  rw [e] at h
  obtain ⟨h1,h2,h3,h4⟩:=E9 e
  exact ⟨j,h1,h,h2,h3,h4⟩
theorem uo {α:Type}{xs:List α}{j:Nat}{v:α}(h:xs[j]?=some v):bK xs (j:Int)=some v:=by
 have hj:j<xs.length:=(List.getElem?_eq_some_iff.mp h).1
 have e:dY xs.length (j:Int)=some j:=by
  unfold dY
  rw [if_pos (by omega),if_pos (by omega)];simp
 unfold bK;rw [e];exact h
noncomputable def uq (b:Expr):Prop:=∀ o i,subscripted b false o i=operate [o,i] (getItem o i)
noncomputable def ur (X:Cx) (r:R2):Prop:=
 ∀ (value slice:Expr) (pins:List (Addr×Obj)) (s:Shared) (σ:St) (H:Hp) (x y:V) (v u:Value) (Q:VK),Inv X pins σ H s→RelV x v→RelV y u→r x y H Q→
  subscripted slice false v u=operate [v,u] (getItem v u)→wpAny (model X.prog X.w) X.A (subscriptTail value slice v u) (EP X pins σ Q) X.xe s
noncomputable def qm (X:Cx) (id:String) (r:V→List V→Hp→VK→Prop):Prop:=
 ∀ (pins:List (Addr×Obj)) (s:Shared) (σ:St) (H:Hp) (x:V) (xs:List V) (v:Value) (us:List Value) (Q:VK),Inv X pins σ H s→RelV x v→Vals xs us→r x xs H Q→
  wpAny (model X.prog X.w) X.A (call (.builtin id) (v :: us)) (EP X pins σ Q) X.xe s
section
variable {X:Cx}{a b:Expr}{ta tb:TE}{pos:Pos}
theorem Ol {r:R2}(hr:ur X r) (ha:PE X a ta) (hb:PE X b tb) (hs:uq b):PE X (.Subscript a b pos) (xY r ta tb):=by
 intro pins s σ H Q I h
 exact Subscript_ (Ae ha hb I h fun v u s2 x y H2 I2 rx ry q=>hr a b pins s2 σ H2 x y v u Q I2 rx ry q (hs _ _))
noncomputable def Te (K:PySem.W.Frag):R2:=fun x y H Q=>∃ p xs i v,x=.ref p∧y=.int i∧dB K H p xs∧bK xs i=some v∧Q v H
noncomputable def Tf (K:PySem.W.Frag):R2:=fun x y H Q=>∃ p xs i v,x=.ref p∧y=.int i∧dh K H p xs∧bK xs i=some v∧Q v H
noncomputable def Tg:R2:=fun x y H Q=>∃ z i c,x=.str z∧y=.int i∧z.length≤sizeLine∧bK z.cps.toList i=some c∧Q (.str ⟨#[c]⟩) H
theorem Fb:ur X (Te X.K):=by
 intro value slice pins s σ H x y v u Q I rx ry h hs
 obtain ⟨p,xs,i,z,rfl,rfl,hq,he,q⟩:=h
 cases rx
 obtain ⟨t,rfl⟩:=ry
 obtain ⟨its,r,pl,hz⟩:=I.list hq
 obtain ⟨j,h1,h2,h3,h4,h5⟩:=pG he
 obtain ⟨w,ew,rw'⟩:=r.get h2
 have hl:=r.length
 have hn:=jS
 have fin:EP X pins σ Q w s:=⟨z,H,I,rw',q⟩
 by_cases h0:0≤i
 ·have hj:i.toNat=j:=by
   rw [seqIndex_of h0 h5] at h1
   exact Option.some.inj h1
  exact item_listR pl.isList h0 (by omega) (by rw [hj];simpa using ew) fin hs
 ·have hj:(i+(its.toArray.size:Int)).toNat=j:=by
   rw [seqIndex_neg (by omega) h4] at h1
   rw [List.size_toArray,←hl]
   exact Option.some.inj h1
  exact subscriptTail_builtinR (x:=w) pl.isList.typeIs slot_list_getitem.lookup
   (wpAny_getItem_list_neg (Q:=fun r s'=>r=w∧EP X pins σ Q r s') pl.isList (by omega) (by rw [List.size_toArray] <;> omega) (by omega) (by rw [hj];simpa using ew) ⟨rfl,fin⟩) hs
theorem Ih:ur X (Tf X.K):=by
 intro value slice pins s σ H x y v u Q I rx ry h hs
 obtain ⟨p,xs,i,z,rfl,rfl,hq,he,q⟩:=h
 cases rx
 obtain ⟨t,rfl⟩:=ry
 obtain ⟨its,r,pl,hz⟩:=I.tuple hq
 obtain ⟨j,h1,h2,h3,h4,h5⟩:=pG he
 obtain ⟨w,ew,rw'⟩:=r.get h2
 have hl:=r.length
 have hn:=jS
 have fin:EP X pins σ Q w s:=⟨z,H,I,rw',q⟩
 exact subscriptTail_builtinR (x:=w) pl.typeIs slot_tuple_getitem.lookup
  (getItem_tuple (j:=j) (Q:=fun r s'=>r=w∧EP X pins σ Q r s') pl (by omega) (by omega) (by rw [List.size_toArray,←hl];exact h1) (by simpa using ew) ⟨rfl,fin⟩) hs
theorem Ii:ur X Tg:=by
 intro value slice pins s σ H x y v u Q I rx ry h hs
 obtain ⟨z,i,c,rfl,rfl,hz,he,q⟩:=h
 obtain ⟨t,rfl⟩:=rx
 obtain ⟨t',rfl⟩:=ry
 obtain ⟨j,h1,h2,h3,h4,h5⟩:=pG he
 have hl:z.cps.toList.length=z.length:=by simp [Str.length]
 rw [hl] at h1 h4 h5
 have hn:=jS
 exact tail_any (typeIs_str s z t) slot_str_getitem.lookup (getItem_str (c:=c) (by
  have e1:decide (i < -(2 ^ 63:Int))=false:=decide_eq_false (by omega)
  have e2:decide (i≥2 ^ 63)=false:=decide_eq_false (by omega)
  rw [e1,e2,Bool.or_false]) (by rw [h1];simpa using h2) ⟨.str ⟨#[c]⟩,H,I.tok _,⟨_,rfl⟩,q⟩) hs
theorem rG (lo hi:Option Int) (n:Nat):(sliceBounds lo hi none n).1=((HT.aQ n 0 lo:Nat):Int)∧(sliceBounds lo hi none n).2.1=((HT.aQ n n hi:Nat):Int)∧(sliceBounds lo hi none n).2.2=1:=by
 refine ⟨?_,?_,rfl⟩
 ·cases lo with
  | none=>simp [sliceBounds,HT.aQ]
  | some i=>
   simp only [sliceBounds,HT.aQ,Option.getD_none,show (1:Int) > 0 by decide,if_true]
   by_cases h:i<0
   ·simp only [h,if_true] <;> omega
   ·simp only [h,if_false] <;> omega
 ·cases hi with
  | none=>simp [sliceBounds,HT.aQ]
  | some i=>
   simp only [sliceBounds,HT.aQ,Option.getD_none,show (1:Int) > 0 by decide,if_true]
   by_cases h:i<0
   ·simp only [h,if_true] <;> omega
   ·simp only [h,if_false] <;> omega
theorem qK (its:List Value) (lo hi:Option Int):slicePick its.toArray lo hi none=((its.drop (HT.aQ its.length 0 lo)).take (HT.aQ its.length its.length hi - HT.aQ its.length 0 lo)).toArray:=by
 obtain ⟨h1,h2,h3⟩:=rG lo hi its.toArray.size
 unfold slicePick
 rw [h1,h2,h3]
 simp only [sliceRange_one,pick_run,List.size_toArray] <;> rfl
noncomputable def Ti (K:PySem.W.Frag):V→Option Int→Option Int→Hp→VK→Prop:=fun x lo hi H Q=>∃ a xs,x=.ref a∧dB K H a xs∧∀ p,H p=none→Q (.ref p) (upd H p (.lst (kT xs lo hi)))
theorem Fc:jV X (Ti X.K):=by
 intro pins s σ H x v vl vu lo hi sl Q I rx hs pl pu h
 obtain ⟨a,xs,rfl,hx,q⟩:=h
 cases rx
 obtain ⟨its,r,ht,hz⟩:=I.list hx
 have hlen:=r.length
 refine ⟨"list",_,slot_list_getitem.lookup,ht.isList.typeIs,?_⟩
 refine wpAny_getItem_list_slice ht.isList hs pl pu .none (by simp) ?_ (by rw [List.size_toArray] <;> omega)
 rw [qK,←hlen]
 refine ⟨.ref s.heap.objs.size,_,I.laid (t':=s.toks) (o:=.lst (kT xs lo hi)) (fun b ob q=>Heap.get?_push_of_some _ q) (Nat.le_refl _) ?_,rfl,q _ (I.hok.fresh (Nat.le_refl _))⟩
 exact ⟨Nat.le_trans (mL xs lo hi) hz,_,0,(r.drop (HT.aQ xs.length 0 lo)).take (HT.aQ xs.length xs.length hi - HT.aQ xs.length 0 lo),Heap.get?_push_size _ rfl⟩
noncomputable def qO:V→Bool
 | .aY=>true
 | .bl _=>true
 | .int _=>true
 | .str _=>true
 | _=>false
theorem kU:gD X (.builtin "len") (fun xs H Q=>∃ p ys,xs=[.ref p]∧(dB X.K H p ys∨dh X.K H p ys)∧Q (.int ys.length) H):=by
 intro pins s σ H xs us Q I r h
 obtain ⟨p,ys,rfl,hq,q⟩:=h
 obtain ⟨u,rfl,rx⟩:=vals1 r
 cases rx
 have hn:=jS
 rcases hq with hq | hq
 ·obtain ⟨its,r',pl,hz⟩:=I.list hq
  have hlen:=r'.length
  exact Calls.call_len_list pl.isList (by simp only [List.size_toArray] <;> omega) ⟨.int ys.length,H,I.tok _,⟨s.toks+1,by rw [List.size_toArray,hlen]⟩,q⟩
 ·obtain ⟨its,r',pl,hz⟩:=I.tuple hq
  have hlen:=r'.length
  exact len_tuple pl (by simp only [List.size_toArray] <;> omega) ⟨.int ys.length,H,I.tok _,⟨s.toks+1,by rw [List.size_toArray,hlen]⟩,q⟩
theorem rJ:gD X (.builtin "len") (fun xs H Q=>∃ z,xs=[.str z]∧z.length≤sizeLine∧Q (.int z.length) H):=by
 intro pins s σ H xs us Q I r h
 obtain ⟨z,rfl,hz,q⟩:=h
 obtain ⟨u,rfl,t,rfl⟩:=vals1 r
 have hn:=jS
 exact len_str (by omega) ⟨.int z.length,H,I.tok _,⟨_,rfl⟩,q⟩
theorem kL:gD X (.type "tuple") (fun xs H Q=>∃ p ys,xs=[.ref p]∧((dB X.K H p ys∧∀ l,H l=none→Q (.ref l) (upd H l (.tup ys)))∨(dh X.K H p ys∧Q (.ref p) H))):=by
 intro pins s σ H xs us Q I r h
 obtain ⟨p,ys,rfl,h⟩:=h
 obtain ⟨u,rfl,rx⟩:=vals1 r
 cases rx
 rcases h with ⟨hq,q⟩ | ⟨hq,q⟩
 ·obtain ⟨its,r',pl,hz⟩:=I.list hq
  have hlen:=r'.length
  refine call_tuple_list pl.isList (fun h' kp=>?_) (by simp only [List.size_toArray] <;> omega)
  have I1:Inv X pins σ H { s with heap:=h' }:=I.kept (t':=s.toks) kp
  have I2:Inv X pins σ (upd H h'.objs.size (.tup ys)) { s with heap:=h'.push { cls:=.type "tuple",data:=.seq its.toArray }}:=
   I1.laid (t':=s.toks) (fun b o e=>Heap.get?_push_of_some _ e) (Nat.le_refl _) (show fM X.prog X.w _ _ _ (.tup ys) from ⟨hz,its,r',IsTup.new _ _⟩)
  exact ⟨.ref h'.objs.size,_,I2,rfl,q _ (I1.hok.fresh (Nat.le_refl _))⟩
 ·obtain ⟨its,r',pl,hz⟩:=I.tuple hq
  exact call_tuple_same pl ⟨.ref p,H,I,rfl,q⟩
noncomputable def yc (K:PySem.W.Frag) (T:String) (x:V) (H:Hp):Prop:=match x with
 | .str _=>T = "str"
 | .int _=>T = "int"
 | .ref p=>(T = "list" ∧∃ xs,dB K H p xs)∨(T = "tuple" ∧∃ o,K.lookup p=some o∧o.cls=.type "tuple" ∧o.dict=none)∨
   (T = "dict" ∧((∃ kvs,H p=some (.dK kvs))∨∃ kvs,H p=some (.dT kvs)))∨(T = "set" ∧∃ S n,H p=some (.set S n))
 | _=>False
theorem yd {pins:List (Addr×Obj)}{σ:St}{H:Hp}{s:Shared}{T:String}{x:V}{v:Value}(I:Inv X pins σ H s) (r:RelV x v) (ty:yc X.K T x H) :
  s.TypeIs v T∧∀ a,v=.ref a→∃ ob,s.heap.get? a=some ob∧ob.dict=none:=by
 cases x with
 | str z=>
  obtain ⟨t,rfl⟩:=r
  cases (show T = "str" from ty)
  exact ⟨typeIs_str s z t,fun _ e=>nomatch e⟩
 | int i=>
  obtain ⟨t,rfl⟩:=r
  cases (show T = "int" from ty)
  exact ⟨typeIs_int s i t,fun _ e=>nomatch e⟩
 | ref p=>
  cases r
  rcases ty with ⟨rfl,xs,hq⟩ | ⟨rfl,o,hk,hc,hd⟩ | ⟨rfl,hk⟩ | ⟨rfl,S,n,hk⟩
  ·obtain ⟨its,_,pl,_⟩:=I.list hq
   refine ⟨pl.isList.typeIs,fun a e=>?_⟩
   cases e
   obtain ⟨o,n,e,c,hd,_⟩:=pl
   exact ⟨o,e,hd⟩
  ·refine ⟨⟨o,I.rq p o hk,hc⟩,fun a e=>?_⟩
   cases e
   exact ⟨o,I.rq _ o hk,hd⟩
  ·have z:∃ o,s.heap.get? p=some o∧o.ExactDict:=by
    rcases hk with ⟨kvs,hk⟩ | ⟨kvs,hk⟩
    ·obtain ⟨_,_,_,_,o,_,_,e,ex,_⟩:=I.hok p _ hk
     exact ⟨o,e,ex⟩
    ·obtain ⟨_,_,_,_,o,_,_,e,ex,_⟩:=I.hok p _ hk
     exact ⟨o,e,ex⟩
   obtain ⟨o,e,ex⟩:=z
   refine ⟨⟨o,e,ex.1⟩,fun a e2=>?_⟩
   cases e2
   exact ⟨o,e,ex.2.1⟩
  ·obtain ⟨o,_,_,_,e,ex,_⟩:=I.hok p _ hk
   refine ⟨⟨o,e,ex.1⟩,fun a e2=>?_⟩
   cases e2
   exact ⟨o,e,ex.2.1⟩
 | _=>exact False.elim ty
noncomputable def Tj (K:PySem.W.Frag) (T:String) (r:V→List V→Hp→VK→Prop) (to:TE):TE:=fun σ H Q=>to σ H fun x H1=>yc K T x H1∧r x [] H1 Q
noncomputable def V0 (K:PySem.W.Frag) (T:String) (r:V→List V→Hp→VK→Prop) (to:TE) (t:TA):TE:=fun σ H Q=>to σ H fun x H1=>yc K T x H1∧t σ H1 fun xs H2=>r x xs H2 Q
variable {o e:Expr}{es:List Expr}{to:TE}{t:TA}{name:Str}{apos cpos:Pos}{T id:String}{r:V→List V→Hp→VK→Prop}
theorem Ij (pa:PlainAttrs T) (slot:Slot T name id) (hty:typeOf (.builtin id)=pure (.type "method_descriptor")) (hm:qm X id r) (ho:PE X o to)
  (hbase:attributeBase o name X.env (eval o X.env)=eval o X.env:=by rfl) (hline:(apos.endLine==cpos.line)=true:=by rfl):PE X (.Call (.Attribute o name apos) [] [] cpos) (Tj X.K T r to):=by
 intro pins s σ H Q I h
 refine wpAny_Call_method0_late hbase hline (bG (ho pins s σ H _ I h) fun v s1 ⟨x,H1,I1,r1,ty,q1⟩=>?_)
 obtain ⟨h1,h2⟩:=yd I1 r1 ty
 exact ⟨T,id,pa,slot,hty,h1,h2,Calls.callWith_builtin rfl (PySem.evalArgs_none (hm pins s1 σ H1 x [] v [] Q I1 r1 .nil q1))⟩
theorem Om (pa:PlainAttrs T) (slot:Slot T name id) (hty:typeOf (.builtin id)=pure (.type "method_descriptor")) (hm:qm X id r) (ho:PE X o to) (ha:PA X (e :: es) t)
  (hbase:attributeBase o name X.env (eval o X.env)=eval o X.env:=by rfl)
  (hfew:((backTo cpos (starEach (e :: es) X.env)).all (fun x=>!x.1)&&(backToKw cpos (keywordEach [] X.env)).all (fun x=>x.1.isSome)
   &&decide ((e :: es).length+([]:List Keyword).length+(if ([]:List Keyword).isEmpty then 0 else 1)<30))=true:=by rfl)
  (hline:(apos.endLine==cpos.line)=true:=by rfl) (hs:starEach (e :: es) X.env=(false,eval e X.env) :: starEach es X.env:=by rfl) (hplain:(backTo cpos (starEach es X.env)).any (·.1)=false:=by rfl) :
  PE X (.Call (.Attribute o name apos) (e :: es) [] cpos) (V0 X.K T r to t):=by
 intro pins s σ H Q I h
 refine wpAny_Call_method_late hbase hfew hline rfl (bG (ho pins s σ H _ I h) fun v s1 ⟨x,H1,I1,r1,ty,q1⟩=>?_)
 obtain ⟨h1,h2⟩:=yd I1 r1 ty
 refine ⟨T,id,pa,slot,hty,h1,h2,?_⟩
 have hA:=ha cpos pins s1 σ H1 _ I1 q1
 rw [hs] at hA ⊢
 refine Calls.callWith_builtin (by show (false || (backTo cpos (starEach es X.env)).any (·.1))=false;rw [hplain] <;> rfl) (Calls.evalArgs_plain ?_)
 exact bG hA fun us s2 ⟨vs,H2,I2,r2,q2⟩=>hm pins s2 σ H2 x vs v us Q I2 r1 r2 q2
end
end L2
namespace L2
open PySem PySem.Spec PyProof.Rows
noncomputable def Ik (X:Cx) (id:String) (r:V→List V→Hp→VK→Prop):Prop:=
 ∀ (pins:List (Addr×Obj)) (s:Shared) (σ:St) (H:Hp) (x:V) (xs:List V) (v:Value) (us:List Value) (Q:VK),Inv X pins σ H s→RelV x v→Vals xs us→r x xs H Q→
  wpAny (model X.prog X.w) X.A (call (.builtin id) (v :: us)) (EP X pins σ Q) X.xe s
theorem Vals.one:∀ {x:V}{us:List Value},Vals [x] us→∃ u,us=[u]∧RelV x u
 | _,_,.cons r .nil=>⟨_,rfl,r⟩
theorem Vals.zero:∀ {us:List Value},Vals [] us→us=[]
 | _,.nil=>rfl
theorem Vals.dropLast {xs:List V}{us:List Value}(h:Vals xs us):Vals xs.dropLast us.dropLast:=by
 induction h with
 | nil=>exact .nil
 | cons r t ih=>
  cases t with
  | nil=>exact .nil
  | cons q t'=>exact .cons r ih
theorem Vals.reverse {xs:List V}{us:List Value}(h:Vals xs us):Vals xs.reverse us.reverse:=by
 induction h with
 | nil=>exact .nil
 | cons r t ih=>rw [List.reverse_cons,List.reverse_cons];exact Vals.append ih (.cons r .nil)
theorem Vals.rep {xs:List V}{us:List Value}(h:Vals xs us):∀ k:Nat,Vals (List.replicate k xs).flatten (List.replicate k us).flatten
 | 0=>.nil
 | k+1=>by
  rw [List.replicate_succ,List.replicate_succ,List.flatten_cons,List.flatten_cons]
  exact Vals.append h (Vals.rep h k)
theorem vK {α:Type}(l:List α):l.eraseIdx (l.length - 1)=l.dropLast:=by
 induction l with
 | nil=>rfl
 | cons a r ih=>
  cases r with
  | nil=>rfl
  | cons b r=>
   have e:(a :: b :: r).length - 1=((b :: r).length - 1)+1:=by
    have h1:(a :: b :: r).length=r.length+2:=rfl
    have h2:(b :: r).length=r.length+1:=rfl
    omega
   rw [e,List.eraseIdx_cons_succ,ih]
   all_goals rfl
theorem foldl_rep (its:List Value):∀ (k:Nat) (acc:List Value),
  List.foldl (fun x1 x2=>x1++x2) acc.toArray (List.replicate k its.toArray)=(acc++(List.replicate k its).flatten).toArray
 | 0,acc=>by simp
 | k+1,acc=>by
  have e:acc.toArray++its.toArray=(acc++its).toArray:=by simp
  have e2:(acc++its)++(List.replicate k its).flatten=acc++(List.replicate (k+1) its).flatten:=by
   rw [List.replicate_succ,List.flatten_cons,List.append_assoc]
  rw [←e2,←foldl_rep its k (acc++its),←e,List.replicate_succ,List.foldl_cons]
section
variable {X:Cx}{pins:List (Addr×Obj)}{σ:St}{H:Hp}{s:Shared}{l b:Addr}{xs ys zs:List V}
theorem Inv.Am {its its':List Value}{n:Nat}{f:Array Value→Array Value}{t':Nat}(I:Inv X pins σ H s) (hH:H l=some (.lst xs))
  (e:s.heap.get? l=some { cls:=.type "list",data:=.seq its.toArray n }) (hf:f its.toArray=its'.toArray) (hv:Vals ys its') (hz:ys.length≤sizeLine) :
  Inv X pins σ (upd H l (.lst ys)) { s with heap:=s.heap.update l (Obj.mapSeq f),toks:=t' }:=by
 have q:=PySem.IsL.update e f
 rw [hf] at q
 refine I.write (x:=l) (e:=l) (by rw [hH];exact trivial) (.inl rfl) (fun b' u hb hu=>(Heap.get?_update_other s.heap (Obj.mapSeq f) (Ne.symm hb)).trans hu) ⟨_,q⟩ ?_
 exact ⟨hz,its',_,hv,q⟩
theorem Inv.Ao {its:List Value}{t':Nat}(I:Inv X pins σ H s) (hv:Vals ys its) (hz:ys.length≤sizeLine) :
  Inv X pins σ (upd H s.heap.objs.size (.lst ys)) { s with heap:=s.heap.push { cls:=.type "list",data:=.seq its.toArray },toks:=t' }:=
 I.laid (fun _ _ q=>Heap.get?_push_of_some _ q) (Nat.le_refl _) ⟨hz,its,0,hv,Heap.get?_push_size _ rfl⟩
theorem Inv.fresh (I:Inv X pins σ H s):H s.heap.objs.size=none:=I.hok.fresh (Nat.le_refl _)
theorem Inv.m8 (I:Inv X pins σ H s) (hH:H l=some (.lst xs)):xs.length≤sizeLine∧∃ (its:List Value) (n:Nat),Vals xs its∧xs.length=its.length∧s.heap.get? l=some { cls:=.type "list",data:=.seq its.toArray n }:=by
 obtain ⟨z,its,n,r,e⟩:=I.hok l _ hH
 exact ⟨z,its,n,r,r.length,e⟩
theorem rK {n:Nat}(h:n≤sizeLine):Builtin.List.listTooLong n=false:=by
 unfold Builtin.List.listTooLong
 exact decide_eq_false (by omega)
end
section
variable {X:Cx}
noncomputable def Fd:V→List V→Hp→VK→Prop:=fun x vs H Q=>∃ l xs y,x=.ref l∧vs=[y]∧H l=some (.lst xs)∧xs.length<sizeLine∧Q .aY (upd H l (.lst (xs++[y])))
theorem qo:Ik X "list.append" Fd:=by
 intro pins s σ H x vs v us Q I rx rv h
 obtain ⟨l,xs,y,rfl,rfl,hH,hz,q⟩:=h
 cases rx
 obtain ⟨u,rfl,ru⟩:=rv.one
 obtain ⟨z,its,n,r,hl,e⟩:=I.m8 hH
 refine call_meets F.slot_list_append ⟨_,e,rfl⟩ F.entry_list_append (F.args_list_append_2 _ _) (PySem.list_append l its.toArray n u (by rw [List.size_toArray];omega)) ⟨e,?_⟩
 refine ⟨.aY,_,I.Am (its':=its++[u]) hH e (by simp) (r.append (.cons ru .nil)) ?_,rfl,q⟩
 rw [List.length_append,List.length_singleton]
 omega
noncomputable def Fe:V→List V→Hp→VK→Prop:=fun x vs H Q=>∃ l b xs zs,x=.ref l∧vs=[.ref b]∧H l=some (.lst xs)∧H b=some (.lst zs)∧xs.length+zs.length≤sizeLine∧Q .aY (upd H l (.lst (xs++zs)))
theorem ye:Ik X "list.extend" Fe:=by
 intro pins s σ H x vs v us Q I rx rv h
 obtain ⟨l,b,xs,zs,rfl,rfl,hH,hB,hz,q⟩:=h
 cases rx
 obtain ⟨u,rfl,ru⟩:=rv.one
 cases ru
 obtain ⟨z,its,n,r,hl,e⟩:=I.m8 hH
 obtain ⟨z2,its2,n2,r2,hl2,e2⟩:=I.m8 hB
 have hsz:its.toArray.size+its2.toArray.size≤sizeLine:=by rw [List.size_toArray,List.size_toArray];omega
 have vL:¬ (!its.toArray.isEmpty&&Builtin.List.listTooLong (its.toArray.size+its2.toArray.size))=true:=by
  rw [rK hsz,Bool.and_false]
  exact Bool.false_ne_true
 refine call_meets F.slot_list_extend ⟨_,e,rfl⟩ F.entry_list_extend (F.args_list_extend_2 _ _)
  (AutoSeq1.list_extend_list_list_0 l its.toArray n b its2.toArray n2 vL (by rw [List.size_toArray];omega) (by omega)) ⟨e,e2,?_⟩
 refine ⟨.aY,_,I.Am (its':=its++its2) hH e (by simp) (r.append r2) ?_,rfl,q⟩
 rw [List.length_append]
 omega
noncomputable def To:V→List V→Hp→VK→Prop:=fun x vs H Q=>∃ l xs y,x=.ref l∧vs=[]∧H l=some (.lst xs)∧xs[xs.length - 1]?=some y∧Q y (upd H l (.lst xs.dropLast))
theorem Il:Ik X "list.pop" To:=by
 intro pins s σ H x vs v us Q I rx rv h
 obtain ⟨l,xs,y,rfl,rfl,hH,hy,q⟩:=h
 cases rx
 have V1:=rv.zero
 subst V1
 obtain ⟨z,its,n,r,hl,e⟩:=I.m8 hH
 obtain ⟨u,hu,ru⟩:=r.get hy
 have hy':its.toArray[its.toArray.size - 1]?=some u:=by
  show its.toArray[its.length - 1]?=some u
  rw [←Array.getElem?_toList,←hl]
  exact hu
 refine call_meets F.slot_list_pop ⟨_,e,rfl⟩ F.entry_list_pop (F.args_list_pop_1 _) (MeetsSeq.list_pop_last l its.toArray n u hy' (by rw [List.size_toArray];omega)) ⟨e,?_⟩
 refine ⟨y,_,I.Am (its':=its.dropLast) hH e ?_ r.dropLast ?_,ru,q⟩
 ·show its.toArray.eraseIdxIfInBounds (its.toArray.size - 1)=its.dropLast.toArray
  rw [List.size_toArray,List.eraseIdxIfInBounds_toArray,vK]
 ·rw [List.length_dropLast]
  omega
noncomputable def Tp:R2:=fun x y H Q=>∃ l b xs zs,x=.ref l∧y=.ref b∧H l=some (.lst xs)∧H b=some (.lst zs)∧xs.length+zs.length≤sizeLine∧∀ p,H p=none→Q (.ref p) (upd H p (.lst (xs++zs)))
theorem Im:dD X (binaryOp .Add) Tp:=by
 intro pins s σ H x y v u Q I rx ry h
 obtain ⟨l,b,xs,zs,rfl,rfl,hH,hB,hz,q⟩:=h
 cases rx
 cases ry
 obtain ⟨z,its,n,r,hl,e⟩:=I.m8 hH
 obtain ⟨z2,its2,n2,r2,hl2,e2⟩:=I.m8 hB
 refine PySem.P.add_list e e2 ?_ (by rw [List.size_toArray,List.size_toArray];omega)
 have ea:its.toArray++its2.toArray=(its++its2).toArray:=by simp
 rw [ea]
 exact ⟨.ref _,_,I.Ao (t':=s.toks) (r.append r2) (by rw [List.length_append];omega),rfl,q _ I.fresh⟩
noncomputable def Tt:R2:=fun x y H Q=>∃ l k xs,x=.ref l∧y=.int k∧H l=some (.lst xs)∧-(2 ^ 63)≤k∧k<2 ^ 63∧xs.length*k.toNat≤sizeLine∧
 ∀ p,H p=none→Q (.ref p) (upd H p (.lst (List.replicate k.toNat xs).flatten))
theorem len_rep {α:Type}(xs:List α) (k:Nat):(List.replicate k xs).flatten.length=k*xs.length:=by
 induction k with
 | zero=>simp
 | succ k ih=>rw [List.replicate_succ,List.flatten_cons,List.length_append,ih,Nat.succ_mul,Nat.add_comm]
theorem Io:dD X (binaryOp .Mult) Tt:=by
 intro pins s σ H x y v u Q I rx ry h
 obtain ⟨l,k,xs,rfl,rfl,hH,h1,h2,hz,q⟩:=h
 cases rx
 obtain ⟨t,rfl⟩:=ry
 obtain ⟨z,its,n,r,hl,e⟩:=I.m8 hH
 have hlen:its.toArray.size*k.toNat≤sizeLine:=by rw [List.size_toArray,←hl];exact hz
 have hcap:¬ its.toArray.size*k.toNat > (2 ^ 63 - 1) / 8:=by
  have:(sizeLine:Nat)≤(2 ^ 63 - 1) / 8:=by decide
  omega
 have hfit:¬ (!Builtin.List.listFitsIndex k)=true:=by
  rw [fitsIndex_both h1 h2]
  exact Bool.false_ne_true
 have vL:¬ Builtin.List.listTooLong (its.toArray.size*k.toNat)=true:=by
  rw [rK hlen]
  exact Bool.false_ne_true
 have hnew:List.foldl (fun x1 x2=>x1++x2) #[] (List.replicate (if its.toArray.isEmpty=true then 0 else k.toNat) its.toArray)=(List.replicate k.toNat its).flatten.toArray:=by
  have f0:∀ m:Nat,List.foldl (fun x1 x2=>x1++x2) #[] (List.replicate m its.toArray)=(List.replicate m its).flatten.toArray:=fun m=>by
   have:=foldl_rep its m []
   rw [List.nil_append] at this
   exact this
  rw [f0]
  cases its with
  | nil=>simp
  | cons a r'=>rw [if_neg (by simp)]
 refine wpAny_binaryOp_repeat_ref (T:="list") (U:="int") (by decide) ⟨_,e,rfl⟩ (fun s'=>typeIs_int s' k t) noFill_list_mul F.fills_int_mul F.slot_int_rmul repeat_list F.slot_int_index.lookup
  (call_meets F.slot_int_rmul (typeIs_int s k t) F.entry_int_rmul (F.args_int_rmul_2 _ _) (int___rmul___int_list k t l its.toArray n)
   ⟨e,rfl,⟨_,e,rfl⟩,call_meets F.slot_list_mul ⟨_,e,rfl⟩ F.entry_list_mul (F.args_list_mul_2 _ _) (AutoListH.list___mul___list_int_3 l its.toArray n k t hfit hcap vL) ⟨e,?_⟩⟩)
 rw [hnew]
 exact ⟨.ref _,_,I.Ao (t':=s.toks) (r.rep k.toNat) (by rw [len_rep,Nat.mul_comm];exact hz),rfl,q _ I.fresh⟩
end
section
variable {prog:Program}{w:World}{A:Around}{E:Value→Shared→Prop}{s:Shared}
end
section
variable {X:Cx}
end
end L2
namespace Qj
open PySem PySem.W PySem.Calls PyProof.Rows
theorem nV {P:Params}{h:Heap}:∀ (ns:List Int) (vs:List Value),WellAll P h vs (ns.map WData.int)→IntsAre vs ns:=by
 intro ns
 induction ns with
 | nil=>
  intro vs w
  rw [List.map_nil] at w
  cases w
  exact .nil
 | cons n ns ih=>
  intro vs w
  rw [List.map_cons] at w
  cases w with
  | cons a b=>
   cases a
   exact .cons _ _ (ih _ b)
theorem yf {l:OpenLaw}{n:Nat}(hn:l.most=some n){P:Params}{h:Heap}{args:List WData}{vals:List Value}
  (hpre:l.row.toRowW.claim.pre args=true) (hwl:WellAll P h vals args) :
  ∃ a vs ns,vals=[Value.ref a]∧args=[WData.list (ns.map WData.int)]∧h.get? a=some { cls:=.type "list",data:=.seq vs.toArray }∧IntsAre vs ns∧ns.length≤n:=by
 have hsh:WShape.hasAll [] args [.list .int]=true:=(pre_splitW hpre).1
 have hc:l.pre.holds [] { args:=args }=true:=(pre_splitW hpre).2
 obtain ⟨d,r,rfl,h1,h2⟩:=hasAllW_cons hsh
 obtain rfl:=hasAllW_nil h2
 obtain ⟨xs,rfl,h3⟩:=hasW_list h1
 obtain ⟨ns,rfl⟩:=items_int h3
 have hlen:ns.length≤n:=by
  unfold OpenLaw.pre at hc
  have h4:(WTm.not (.lt (.lit (.int (n:Int))) (.len (.arg 0)))).holds [] { args:=[.list (ns.map .int)]}=true:=by
   have h4:=(holds_andW hc).1
   rw [hn] at h4
   exact h4
  have h5:=condW_of h4 (w_not (w_lt w_lit (w_len_list (w_arg rfl))))
  rw [List.length_map] at h5
  refine Nat.le_of_not_lt fun q=>?_
  have q':(n:Int)<((ns.length:Nat):Int):=by omega
  first
   | (rw [decide_eq_true q'] at h5;exact absurd h5 (by decide))
   | (simp at h5;omega)
 cases hwl with
 | cons w1 w2=>
  cases w2
  cases w1 with
  | list ho hall=>exact ⟨_,_,ns,rfl,rfl,ho,nV ns _ hall,hlen⟩
theorem yg (l:OpenLaw) (args:List WData):l.row.toRowW.claim.post args (.bool true) args=true:=
 postW_of (r:=l.row.toRowW) (X:=(true==true))
  (show WShape.has [] (.bool true) .bool=true by first | rfl | decide | simp [WShape.has,WShape.arms,WShape.armsAll])
  (show (WTm.eq .res (.lit (.bool true))).value [] { args:=args,res:=some (.bool true),after:=args }=some (.bool (true==true)) from w_eq_bool (w_res rfl) w_lit) rfl
theorem tY {l:OpenLaw}{n:Nat}{q:Program}{loose:List Str}{XP:(Str→Option Value)→Heap→Prop}{YP:World→Heap→Prop}{d:DefRec}
  (hn:l.most=some n) (hdf:d.params.defaults=[])
  (call:∀ (w:World) (s₀ s₁:Shared) (mg mb:Str→Option Value) (fa:Addr) (o:Obj) (pm cd doc:Value) (a:Addr) (vs:List Value) (ns:List Int),
   Ground q loose [] XP w s₀ mg mb s₁.heap→YP w s₁.heap→
   s₁.heap.get? fa=some o→o.data=.func (docDef d.name d.params d.body d.scope pm cd doc)→s₁.heap.CodeRec cd d.name→mg d.name=some (.ref fa)→
   s₁.heap.get? a=some { cls:=.type "list",data:=.seq vs.toArray }→IntsAre vs ns→ns.length≤n→s₁.gens = #[]→
   codeAny (model l.prog w) callerA (.call (.ref fa) ⟨[.ref a],[]⟩) (fun r s'=>r=.ok (.ret (.bool true))∧OldK s₁.heap s'.heap∧s'.os=s₁.os∧AllBare s'.gens) s₁) :
  WalkO q loose XP YP l.row.toRowW d [] (fun f vs=>PySem.call f vs):=by
 intro w s₀ s₁ mg mb G Y fa o pm cd doc dV kV ho hd hcd hD hmg hg args vals as hpre hlay hrd hwl hlo
 obtain rfl:dV=.none:=Dflts.none hD hdf
 obtain rfl:kV=.none:=Dflts.noKw hD
 obtain ⟨a,vs,ns,rfl,rfl,hobj,hints,hlen⟩:=yf hn hpre hwl
 refine enter_call (codeAny_mono (call w s₀ s₁ mg mb fa o pm cd doc a vs ns G Y ho (fd_plain hd) hcd hmg hobj hints hlen hg) fun r s' hq=>?_)
 obtain ⟨rfl,h2,h3,h4⟩:=hq
 exact ⟨.inl ⟨.bool true,.bool true,[],rfl,fun _=>rfl,.bool true,yg l _,fun _=>⟨List.Pairwise.nil,fun _ hm=>(nomatch hm)⟩⟩,h2,h3,h4⟩
section
variable {prog:Program}{w:World}{A:Around}{E:Value→Shared→Prop}{s:Shared}{K:Frag}
end
end Qj
namespace L2
open PySem PySem.Spec PyProof.Rows
theorem qp:∀ {vs:List Value}{ns:List Int},IntsAre vs ns→Vals (ns.map V.int) vs
 | _,_,.nil=>.nil
 | _,_,.cons n t h=>.cons ⟨t,rfl⟩ (qp h)
noncomputable def pH (H:Hp):Prop:=∀ b,H b=none∨∃ o xs,H b=some (.bS o (.lst xs))
theorem Aq {P:Program}{w:World}{K:PySem.W.Frag}{mg mb:Str→Option Value}{CX:kK}{k:Nat}{fa a:Addr}{fd:FuncData}{x:Str}{sp:Sp}{s₁:Shared}{vs:List Value}{ns:List Int}
  (KX:K.In s₁.heap) (hns:s₁.heap.Ns mainGlobals mg) (hb:s₁.heap.Ns builtinsNs mb) (Ip:∀ x:Str,x≠"__name__" →mb x=bootBuiltins x) (hlim:s₁.heap.NoLimit) (hg:s₁.gens = #[])
  (ha:s₁.heap.get? a=some { cls:=.type "list",data:=.seq vs.toArray }) (hi:IntsAre vs ns) (hl:ns.length≤sizeLine) (hr:gm k callerA)
  (F:∀ base:Heap,K.In base→base.Ns mainGlobals mg→gX P w K mg base CX k fa fd [x] sp) (hbind:∀ (s:Shared) (u:Value),BindsTo s fd ⟨[u],[]⟩ [(x,u)])
  (jU:∀ H:Hp,pH H→dB K H a (ns.map V.int)→sp [.ref a] H (fun v _=>v=.bl true) fun _ _ _=>False)
  (yh:∀ H e s',CX [] H s₁ (fun _ _ _=>False) e s'→False) :
  codeAny (model P w) callerA (.call (.ref fa) ⟨[.ref a],[]⟩) (fun r s'=>r=.ok (.ret (.bool true))∧OldK s₁.heap s'.heap∧s'.os=s₁.os∧AllBare s'.gens) s₁:=by
 have rv:=qp hi
 have Tu:=hi.length
 have core:∀ H:Hp,pH H→dB K H a (ns.map V.int)→fy P w H s₁.heap→(∀ b,H b≠none→b=a)→(H a≠none→K.lookup a=none)→
   codeAny (model P w) callerA (.call (.ref fa) ⟨[.ref a],[]⟩) (fun r s'=>r=.ok (.ret (.bool true))∧OldK s₁.heap s'.heap∧s'.os=s₁.os∧AllBare s'.gens) s₁:=by
  intro H hO hS hok hA hK
  have uu:∀ {b:Addr} {o:Obj},s₁.heap.get? b=some o→H b=none→(kg s₁.heap H).get? b=some o:=fun e n=>zZ e n
  have x8:∀ {b:Addr} {o:Obj} {es:Array DictEntry} {ep:Nat},s₁.heap.get? b=some o→o.data=.dict es ep→H b=none:=fun {b o es ep} e d=>by
   cases q:H b with
   | none=>rfl
   | some u=>
    have e':b=a:=hA b (by rw [q];simp)
    subst e'
    rw [ha] at e;cases e
    have d':Data.seq vs.toArray _=Data.dict es ep:=d
    cases d'
  have CV:∀ {b:Addr} {m:Str→Option Value},s₁.heap.Ns b m→(kg s₁.heap H).Ns b m:=fun {b m} ⟨o,es,ep,e,d,r⟩=>⟨o,es,ep,uu e (x8 e d),d,r⟩
  have Qk:K.In (kg s₁.heap H):=fun b o e=>uu (KX b o e) (by
   cases q:H b with
   | none=>rfl
   | some u=>
    have e':b=a:=hA b (by rw [q];simp)
    subst e'
    rw [hK (by rw [q];simp)] at e;cases e)
  have hM:Mod K mg (kg s₁.heap H):=⟨Qk,CV hns,⟨mb,CV hb,Ip⟩,let ⟨mc,h1,h2⟩:=hlim;⟨mc,CV h1,h2⟩⟩
  have e0:vH P w K mg (kg s₁.heap H) callerA [] s₁ H:=⟨rfl,hM,fun b o e=>ES e,Nat.le_of_eq (xP _ _),trivial,fun b hb=>absurd (show b∈([]:List Addr) from hb) (by simp),hok,.of_eq hg⟩
  refine codeAny_mono ((F _ Qk (CV hns)).run callerA [] s₁ H ⟨[.ref a],[]⟩ [.ref a] [.ref a] _ _ hr e0 (hbind s₁ (.ref a)) (.cons rfl .nil) (jU H hO hS)) fun r s' h=>?_
  cases r with
  | error e=>exact (yh H e s' h).elim
  | ok fl=>
   cases fl with
   | next=>exact False.elim h
   | brk=>exact False.elim h
   | cont=>exact False.elim h
   | ret u=>
    obtain ⟨v,H',os,bare,un,Tv,r',q⟩:=h
    have q':v=.bl true:=q
    subst q'
    obtain rfl:u=Value.bool true:=r'
    refine ⟨rfl,OldK.of_keep fun b o e=>?_,os,bare⟩
    cases q:H b with
    | none=>exact un.keep b o e q (by intro z;exact absurd (show b∈([]:List Addr) from z) (by simp)) (by simp)
    | some u=>
     rcases hO b with z | ⟨ob,xs,z⟩
     ·rw [q] at z;cases z
     ·have z2:=un.kc b ob _ z
      obtain ⟨e1,_⟩:=hok b _ z
      obtain ⟨e2,_⟩:=Tv b _ z2
      rw [e] at e1;cases e1
      exact e2
 cases hk:K.lookup a with
 | some o=>
  have e:=KX a o hk
  rw [ha] at e
  cases e
  refine core (fun _=>none) (fun _=>.inl rfl) (.inr ⟨_,vs.toArray,_,hk,rfl,rfl,rfl,by rw [List.size_toArray,Tu];exact hl,by simpa using rv⟩) (fun b u z=>by have z':(none:Option HO)=some u:=z;cases z') (fun b z=>absurd rfl z) fun z=>absurd rfl z
 | none=>
  refine core (fun b=>if b=a then some (.bS { cls:=.type "list",data:=.seq vs.toArray } (.lst (ns.map V.int))) else none) (fun b=>?_) (.inl (.inr ⟨{ cls:=.type "list",data:=.seq vs.toArray },if_pos rfl⟩)) (fun b u z=>?_) (fun b z=>?_) fun _=>hk
  ·by_cases hb:b=a
   ·exact .inr ⟨_,_,if_pos hb⟩
   ·exact .inl (if_neg hb)
  ·by_cases hb:b=a
   ·have z':=(if_pos hb).symm.trans z
    cases z'
    subst hb
    exact ⟨ha,by rw [List.length_map];exact hl,vs,_,rv,ha⟩
   ·have z':=(if_neg hb).symm.trans z
    cases z'
  ·by_cases hb:b=a
   ·exact hb
   ·exact absurd (if_neg hb) z
end L2
namespace L2
open PySem PySem.Spec PyProof.Rows
theorem Ff {l:PySem.W.OpenLaw}{n k:Nat}{q:Program}{loose:List Str}{XP:(Str→Option Value)→Heap→Prop}{YP:World→Heap→Prop}{d:DefRec}{K:Params→PySem.W.Frag}{CX:World→kK}{sp:World→Sp}{x:Str}
  (hn:l.most=some n) (hn2:n≤sizeLine) (hdf:d.params.defaults=[]) (hr:gm k callerA)
  (hY:∀ (w:World) (h:Heap),YP w h→(K w.params).In h)
  (F:∀ (w:World) (mg:Str→Option Value) (fa:Addr) (h:Heap),(K w.params).In h→h.Ns mainGlobals mg→mg d.name=some (.ref fa)→
   ∃ fd:FuncData,(∀ (s:Shared) (u:Value),BindsTo s fd ⟨[u],[]⟩ [(x,u)])∧
    ∀ base:Heap,(K w.params).In base→base.Ns mainGlobals mg→gX l.prog w (K w.params) mg base (CX w) k fa fd [x] (sp w))
  (jU:∀ (w:World) (H:Hp) (a:Addr) (ns:List Int),ns.length≤n→pH H→dB (K w.params) H a (ns.map V.int)→sp w [.ref a] H (fun v _=>v=.bl true) fun _ _ _=>False)
  (yh:∀ (w:World) (H:Hp) (s:Shared) (e:Value) (s':Shared),CX w [] H s (fun _ _ _=>False) e s'→False) :
  PySem.W.WalkO q loose XP YP l.row.toRowW d [] (fun f vs=>PySem.call f vs):=by
 refine Qj.tY hn hdf fun w s₀ s₁ mg mb fa o pm cd doc a vs ns G Y ho hd hcd hmg hobj hints hlen hg=>?_
 have KX:=hY w _ Y
 obtain ⟨fd,hb,hF⟩:=F w mg fa _ KX G.T.g hmg
 exact Aq KX G.T.g G.T.b G.T.builtins G.T.nolimit hg hobj hints (Nat.le_trans hlen hn2) hr hF hb (fun H hO hS=>jU w H a ns hlen hO hS) fun H e s'=>yh w H s₁ e s'
theorem Ar {l:PySem.W.OpenLaw}{n k:Nat}{q:Program}{loose:List Str}{XP:(Str→Option Value)→Heap→Prop}{YP:World→Heap→Prop}{d:DefRec}{K:Params→PySem.W.Frag}{CX:kK}{sp:PySem.W.Frag→Sp}{x:Str}
  (hn:l.most=some n) (hn2:n≤sizeLine) (hdf:d.params.defaults=[]) (hr:gm k callerA)
  (hY:∀ (w:World) (h:Heap),YP w h→(K w.params).In h)
  (F:∀ (w:World) (mg:Str→Option Value) (fa:Addr) (h:Heap),(K w.params).In h→h.Ns mainGlobals mg→mg d.name=some (.ref fa)→
   ∃ fd:FuncData,(∀ (s:Shared) (u:Value),BindsTo s fd ⟨[u],[]⟩ [(x,u)])∧
    ∀ base:Heap,(K w.params).In base→base.Ns mainGlobals mg→gX l.prog w (K w.params) mg base CX k fa fd [x] (sp (K w.params)))
  (jU:∀ (K:PySem.W.Frag) (H:Hp) (a:Addr) (ns:List Int),ns.length≤n→pH H→dB K H a (ns.map V.int)→sp K [.ref a] H (fun v _=>v=.bl true) fun _ _ _=>False)
  (yh:∀ (H:Hp) (s:Shared) (e:Value) (s':Shared),CX [] H s (fun _ _ _=>False) e s'→False) :
  PySem.W.WalkO q loose XP YP l.row.toRowW d [] (fun f vs=>PySem.call f vs):=
 Ff (K:=K) (CX:=fun _=>CX) (sp:=fun w=>sp (K w.params)) hn hn2 hdf hr hY F (fun w H a ns h1 h2 h3=>jU (K w.params) H a ns h1 h2 h3) fun _ H s e s'=>yh H s e s'
end L2
namespace L2
open PySem PySem.Spec PyProof.Rows
noncomputable def aE (s:Stmt):Arguments:=match s with
 | .FunctionDef _ a _ _ _ _ _ _ _ _=>a
 | _=>{ posonlyargs:=[],args:=[],vararg:=none,kwonlyargs:=[],kw_defaults:=[],kwarg:=none,defaults:=[]}
noncomputable def aB (s:Stmt):List Stmt:=match s with
 | .FunctionDef _ _ b _ _ _ _ _ _ _=>b
 | _=>[]
noncomputable def ao (s:Stmt):Scope:=match s with
 | .FunctionDef _ _ _ _ _ _ sc _ _ _=>sc
 | _=>{ kind:=.function,names:=[],isGenerator:=false,isCoroutine:=false }
abbrev kW:kK:=fun _ _ _ _ _ _=>False
abbrev E0:XK:=fun _ _ _=>False
theorem Oo {X:Cx}:Passes kW X E0:=fun _ _ _ _ _ _ _ h=>h.elim
structure rL (K:PySem.W.Frag) (x qual:Str) (st:Stmt) (f:Addr) (fd:FuncData):Prop where
 ex:∃ (oc:Value) (od:Option Addr) (kV doc pm:Value) (an:Option Addr) (cdv ct:Value) (osl:Array (Option Value)),
  fd=PySem.W.fnOf x qual (aE st) (aB st) (ao st) .none kV doc pm an cdv ct∧K.lookup f=some ⟨oc,od,.func fd,osl⟩∧PySem.W.codeIn K cdv qual=true
 kp:PySem.W.keepIn K (.ref f)=true
section
variable {P:Program}{w:World}{K:PySem.W.Frag}{mg:Str→Option Value}{base:Heap}
theorem rL.ok {x qual:Str}{st:Stmt}{f:Addr}{fd:FuncData}{N ps:List Str}{k:Nat}{sp:Sp}(F:rL K x qual st f fd) (S:bz N ps (ao st)) (len:∀ vs H Q E,sp vs H Q E→vs.length=ps.length)
  (hbody:∀ (cdv:Value) (A:Around) (outer:List Env) (s:Shared) (H:Hp) (vs:List V) (Q:VK) (E:XK),gm k (A.deeper (envOfC qual (ao st) s.heap.objs.size f cdv))→sp vs H Q E→
   ∃ t,gS (m7 kW P w K mg base N qual (ao st) f cdv A outer s H E).qf (aB st) t∧t { nx:=fun _ H'=>Q .aY H',rt:=Q } (start N vs) H):gX P w K mg base kW (k+1) f fd ps sp:=by
 obtain ⟨oc,od,kV,doc,pm,an,cdv,ct,osl,rfl,lk,hcd⟩:=F.ex
 refine Oh lk hcd S len fun A outer s H vs Q E hr jU=>?_
 obtain ⟨t,h,q⟩:=hbody cdv A outer s H vs Q E hr jU
 exact ⟨t,h.qf,q⟩
theorem rL.binds {x qual:Str}{st:Stmt}{f:Addr}{fd:FuncData}{ps:List Str}(F:rL K x qual st f fd)
  (h:∀ (kV doc pm:Value) (an:Option Addr) (cdv ct:Value) (us:List Value),us.length=ps.length→bindArgs (PySem.W.fnOf x qual (aE st) (aB st) (ao st) .none kV doc pm an cdv ct) ⟨us,[]⟩=pure (ps.zip us)):Binds K fd ps []:=by
 obtain ⟨oc,od,kV,doc,pm,an,cdv,ct,osl,rfl,lk,hcd⟩:=F.ex
 exact .all (h kV doc pm an cdv ct)
theorem bZ {x qual:Str}{st:Stmt}{f:Addr}{oc:Value}{od an:Option Addr}{osl:Array (Option Value)}{kV doc pm cdv ct:Value}(l:K.lookup f=some ⟨oc,od,.func (PySem.W.fnOf x qual (aE st) (aB st) (ao st) .none kV doc pm an cdv ct),osl⟩)
  (c:PySem.W.codeIn K cdv qual=true) (k:PySem.W.keepIn K (.ref f)=true):rL K x qual st f (PySem.W.fnOf x qual (aE st) (aB st) (ao st) .none kV doc pm an cdv ct):=⟨⟨oc,od,kV,doc,pm,an,cdv,ct,osl,rfl,l,c⟩,k⟩
end
section
variable {X:Cx}
theorem pv (i:Nat) {x:Str}{pos:Pos}(hN:X.N[i]?=some x:=by rfl) (hv:xQ X.env.scope x:=by first | exact Or.inl rfl | exact Or.inr (Or.inl rfl) | exact Or.inr (Or.inr rfl)) (hd:(x==("__debug__" : Str))=false:=by decide)
  (hcd:(x==("__classdict__" : Str))=false:=by decide):PE X (.Name x pos) (Hv i):=xT hN hv hd hcd
end
end L2
namespace Ev
inductive D where
 | aY | bl (b:Bool) | int (i:Int) | str (s:List Nat) | tup (ds:List D) | ref (n:Nat)
inductive O where
 | lst (ds:List D) | bS (ds:List D)
abbrev Hh:=List O
abbrev Fr:=List (Option D)
inductive R (α:Type) where
 | ok (a:α) (h:Hh)
 | bad
noncomputable def R.bind {α β:Type}(r:R α) (f:α→Hh→R β):R β:=
 match r with
 | .ok a h=>f a h
 | .bad=>.bad
@[simp] theorem ak {α β:Type} (a:α) (h:Hh) (f:α→Hh→R β):(R.ok a h).bind f=f a h:=rfl
@[simp] theorem As {α β:Type} (f:α→Hh→R β):(R.bad:R α).bind f=.bad:=rfl
theorem ai {α β:Type}{r:R α}{f:α→Hh→R β}{b:β}{h:Hh}(e:r.bind f=.ok b h):∃ a h1,r=.ok a h1∧f a h1=.ok b h:=by
 cases r with
 | ok a h1=>exact ⟨a,h1,rfl,e⟩
 | bad=>cases e
noncomputable def R.of {α:Type}(o:Option α) (h:Hh):R α:=match o with
 | some a=>.ok a h
 | none=>.bad
@[simp] theorem dG {α:Type} (a:α) (h:Hh):R.of (some a) h=.ok a h:=rfl
@[simp] theorem of_none {α:Type} (h:Hh):R.of (none:Option α) h=.bad:=rfl
theorem aM {α:Type}{o:Option α}{h h':Hh}{a:α}(e:R.of o h=.ok a h'):o=some a∧h'=h:=by
 cases o with
 | none=>cases e
 | some b=>cases e;exact ⟨rfl,rfl⟩
inductive bW where
 | add | sub | mul | fdiv | mod
inductive bQ where
 | eq | ne | lt | gt
 | isin | gg
inductive TY where
 | int | bool | str | tuple | list
inductive BI where
 | len | sum | min
inductive ME where
 | join | append | extend | pop
 | count | index
inductive T where
 | one (i:Nat) | many (l:List Nat)
mutual
inductive E where
 | c (d:D) | v (i:Nat) | tup (es:Es) | lst (es:Es)
 | bin (o:bW) (a b:E) | cmp (o:bQ) (a b:E)
 | nt (a:E) | neg (a:E) | an (a b:E) | orr (a b:E) | gT (t a b:E)
 | ix (a b:E) | sl (a:E) (lo hi:Eo)
 | cl (f:Nat) (es:Es) | bi (b:BI) (es:Es) | me (m:ME) (o:E) (es:Es)
 | comp (elt:E) (t:T) (it:It) (cond:Eo)
 | iH (it:It)
 | kX (kvs:List (D×D)) (a:E) | jq (a:E)
inductive Es where
 | nil | cons (e:E) (es:Es)
inductive Eo where
 | no | yes (e:E)
inductive It where
 | seq (e:E) | gR (es:Es)
 | zip (a b:E)
 | enum (a:E) | rev (a:E)
end
mutual
inductive S where
 | set (i:Nat) (e:E) | vM (l:List Nat) (e:E)
 | exp (e:E) | ret (e:E) | iff (t:E) (a b:Ss) | for (t:T) (it:It) (b:Ss) | nW (t:E) (b:Ss)
 | pass | brk | cnt
 | fR
inductive Ss where
 | nil | cons (s:S) (ss:Ss)
end
inductive Fl where
 | nx | bk | ct | ret (d:D)
noncomputable def big:Nat:=16777216
noncomputable def cg (f:D→D→Option Bool):List D→List D→Option Bool
 | [],[]=>some true
 | x :: xs,y :: ys=>do
  let b ←f x y
  let c ←cg f xs ys
  pure (b&&c)
 | _,_=>some false
noncomputable def bh (h:Hh) (n:Nat):Option (List D):=match h[n]? with
 | some (.lst ds)=>some ds
 | some (.bS ds)=>some ds
 | none=>none
noncomputable def b2i (b:Bool):Int:=if b then 1 else 0
noncomputable def jb (h:Hh) (f:D→D→Option Bool) (a b:Nat):Option Bool:=if a=b then (bh h a).map fun _=>true else match h[a]?,h[b]? with
 | some (.lst x),some (.lst y)=>cg f x y
 | some (.bS x),some (.lst y)=>cg f x y
 | some (.lst x),some (.bS y)=>cg f x y
 | _,_=>none
noncomputable def fS (h:Hh):Nat→D→D→Option Bool
 | 0,_,_=>none
 | _+1,.aY,.aY=>some true
 | _+1,.bl a,.bl b=>some (a==b)
 | _+1,.int a,.int b=>some (a==b)
 | _+1,.bl a,.int b=>some (b2i a==b)
 | _+1,.int a,.bl b=>some (a==b2i b)
 | _+1,.str a,.str b=>some (a==b)
 | n+1,.tup a,.tup b=>cg (fS h n) a b
 | n+1,.ref a,.ref b=>jb h (fS h n) a b
 | _+1,.ref a,_=>(bh h a).map fun _=>false
 | _+1,_,.ref a=>(bh h a).map fun _=>false
 | _+1,_,_=>some false
noncomputable def deep:Nat:=20
noncomputable def truthy (h:Hh):D→Option Bool
 | .aY=>some false
 | .bl b=>some b
 | .int i=>some (i != 0)
 | .str s=>some (!s.isEmpty)
 | .tup ds=>some (!ds.isEmpty)
 | .ref n=>(bh h n).map fun ds=>!ds.isEmpty
noncomputable def alloc (ds:List D) (h:Hh):R D:=if ds.length≤big then .ok (.ref h.length) (h++[.lst ds]) else .bad
noncomputable def rep {α:Type}(k:Nat) (l:List α):List α:=(List.replicate k l).flatten
noncomputable def b6 (i j:Int):Bool:=(decide (-(2 ^ 64)<i)&&decide (i<2 ^ 64)) || (decide (-(2 ^ 64)<j)&&decide (j<2 ^ 64))
noncomputable def bH:bW→D→D→Hh→R D
 | .add,.int i,.int j,h=>.ok (.int (i+j)) h
 | .add,.str a,.str b,h=>if a.length+b.length≤big then .ok (.str (a++b)) h else .bad
 | .add,.tup a,.tup b,h=>if a.length+b.length≤big then .ok (.tup (a++b)) h else .bad
 | .add,.ref a,.ref b,h=>match h[a]?,h[b]? with
  | some (.lst x),some (.lst y)=>alloc (x++y) h
  | _,_=>.bad
 | .sub,.int i,.int j,h=>.ok (.int (i - j)) h
 | .mul,.int i,.int j,h=>if b6 i j then .ok (.int (i*j)) h else .bad
 | .mul,.str a,.int k,h=>if 0≤k∧k≤1000∧a.length≤1000 then .ok (.str (rep k.toNat a)) h else .bad
 | .mul,.tup a,.int k,h=>if 0≤k∧k≤1000∧a.length≤1000 then .ok (.tup (rep k.toNat a)) h else .bad
 | .mul,.ref a,.int k,h=>match h[a]? with
  | some (.lst x)=>if 0≤k∧k≤1000∧x.length≤1000 then alloc (rep k.toNat x) h else .bad
  | _=>.bad
 | .fdiv,.int i,.int j,h=>if 0<j∧j<1073741824 then .ok (.int (i / j)) h else .bad
 | .mod,.int i,.int j,h=>if 0<j then .ok (.int (i % j)) h else .bad
 | _,_,_,_=>.bad
noncomputable def mem (h:Hh) (x:D):List D→Option Bool
 | []=>some false
 | y :: ys=>do
  let b ←fS h deep y x
  let c ←mem h x ys
  pure (b || c)
noncomputable def isin (x y:D) (h:Hh):Option Bool:=match y with
 | .str s=>match x with
  | .str [c]=>some (s.contains c)
  | _=>none
 | .tup ds=>mem h x ds
 | .ref n=>(bh h n).bind fun ds=>mem h x ds
 | _=>none
noncomputable def cop (o:bQ) (x y:D) (h:Hh):Option Bool:=match o,x,y with
 | .eq,x,y=>fS h deep x y
 | .ne,x,y=>(fS h deep x y).map (!·)
 | .lt,.int i,.int j=>some (decide (i<j))
 | .gt,.int i,.int j=>some (decide (j<i))
 | .isin,x,y=>isin x y h
 | .gg,x,y=>(isin x y h).map (!·)
 | _,_,_=>none
noncomputable def dY (n:Nat) (i:Int):Option Nat:=if 0≤i then (if i<n then some i.toNat else none) else if -(n:Int)≤i then some (i+n).toNat else none
noncomputable def bK {α:Type}(xs:List α) (i:Int):Option α:=(dY xs.length i).bind fun j=>xs[j]?
noncomputable def eZ (x y:D) (h:Hh):Option D:=match x,y with
 | .tup ds,.int i=>bK ds i
 | .str s,.int i=>(bK s i).map fun c=>.str [c]
 | .ref n,.int i=>(bh h n).bind fun ds=>bK ds i
 | _,_=>none
noncomputable def aQ (n d:Nat):Option Int→Nat
 | none=>d
 | some v=>if v<0 then (v+n).toNat else min v.toNat n
noncomputable def cut {α:Type}(xs:List α) (lo hi:Option Int):List α:=(xs.drop (aQ xs.length 0 lo)).take (aQ xs.length xs.length hi - aQ xs.length 0 lo)
noncomputable def eF (x:D) (lo hi:Option Int) (h:Hh):R D:=match x with
 | .tup ds=>.ok (.tup (cut ds lo hi)) h
 | .str s=>.ok (.str (cut s lo hi)) h
 | .ref n=>match bh h n with
  | some ds=>alloc (cut ds lo hi) h
  | none=>.bad
 | _=>.bad
noncomputable def boolsOf:List D→Option (List Bool)
 | []=>some []
 | .bl b :: ds=>(boolsOf ds).map fun r=>b :: r
 | _=>none
noncomputable def intsOf:List D→Option (List Int)
 | []=>some []
 | .int i :: ds=>(intsOf ds).map fun r=>i :: r
 | _=>none
noncomputable def strsOf:List D→Option (List (List Nat))
 | []=>some []
 | .str s :: ds=>(strsOf ds).map fun r=>s :: r
 | _=>none
noncomputable def cG (sep:List Nat):List (List Nat)→List Nat
 | []=>[]
 | [s]=>s
 | s :: t :: r=>s++sep++cG sep (t :: r)
noncomputable def lexLe:List Nat→List Nat→Bool
 | [],_=>true
 | _ :: _,[]=>false
 | x :: xs,y :: ys=>if x=y then lexLe xs ys else decide (x<y)
noncomputable def Iq (x:List Nat):List (List Nat)→List (List Nat)
 | []=>[x]
 | y :: ys=>if lexLe x y then x :: y :: ys else y :: Iq x ys
noncomputable def dW:List (List Nat)→List (List Nat)
 | []=>[]
 | x :: xs=>Iq x (dW xs)
noncomputable def cY (b:BI) (xs:List D) (h:Hh):R D:=match b,xs with
 | .len,[.str s]=>if s.length≤big then .ok (.int s.length) h else .bad
 | .len,[.tup ds]=>.ok (.int ds.length) h
 | .len,[.ref n]=>R.of ((bh h n).map fun ds=>.int ds.length) h
 | .sum,[.ref n]=>R.of (((bh h n).bind intsOf).map fun is=>.int is.sum) h
 | .min,[.int i,.int j]=>.ok (.int (if j<i then j else i)) h
 | _,_=>.bad
noncomputable def idx (h:Hh) (x:D):List D→Nat→Option Nat
 | [],_=>none
 | y :: ys,k=>match fS h deep y x with
  | some true=>some k
  | some false=>idx h x ys (k+1)
  | none=>none
noncomputable def cnt (h:Hh) (x:D):List D→Option Nat
 | []=>some 0
 | y :: ys=>do
  let b ←fS h deep y x
  let k ←cnt h x ys
  pure (if b then k+1 else k)
noncomputable def er (m:ME) (o:D) (xs:List D) (h:Hh):R D:=match m,o,xs with
 | .join,.str sep,[.ref n]=>match (bh h n).bind strsOf with
  | some ss=>if (ss.map (·.length)).sum+ss.length*sep.length≤big then .ok (.str (cG sep ss)) h else .bad
  | none=>.bad
 | .append,.ref n,[x]=>match h[n]? with
  | some (.lst ds)=>if ds.length<big then .ok .aY (h.set n (.lst (ds++[x]))) else .bad
  | _=>.bad
 | .extend,.ref n,[.ref m]=>match h[n]?,h[m]? with
  | some (.lst ds),some (.lst es)=>if ds.length+es.length≤big then .ok .aY (h.set n (.lst (ds++es))) else .bad
  | _,_=>.bad
 | .pop,.ref n,[]=>match h[n]? with
  | some (.lst ds)=>match ds[ds.length - 1]? with
   | some x=>.ok x (h.set n (.lst ds.dropLast))
   | none=>.bad
  | _=>.bad
 | .count,.ref n,[x]=>R.of (((bh h n).bind (cnt h x)).map fun (k:Nat)=>.int k) h
 | .index,.ref n,[x]=>R.of (((bh h n).bind fun ds=>idx h x ds 0).map fun (k:Nat)=>.int k) h
 | _,_,_=>.bad
noncomputable def mP (m:ME) (x:D) (h:Hh):Bool:=match m,x with
 | .join,.str _=>true
 | .join,_=>false
 | _,.ref n=>(bh h n).isSome
 | _,_=>false
noncomputable def gE (x:D):List (D×D)→Option D
 | []=>none
 | (k,v) :: r=>match fS [] 1 k x with
  | some true=>some v
  | some false=>gE x r
  | none=>none
abbrev Src:=List D×List (Nat×List D)
noncomputable def fN (h:Hh):D→Option Src
 | .tup ds=>some (ds,[])
 | .str s=>some (s.map fun c=>.str [c],[])
 | .ref n=>(bh h n).map fun ds=>(ds,[(n,ds)])
 | _=>none
noncomputable def range (lo:Int) (n:Nat):List D:=(List.range n).map fun (i:Nat)=>.int (lo+i)
noncomputable def eU:List D→Option Src
 | [.int j]=>if -(2 ^ 62)≤j∧j<2 ^ 62 then some (range 0 j.toNat,[]) else none
 | [.int i,.int j]=>if -(2 ^ 62)≤i∧i<2 ^ 62∧-(2 ^ 62)≤j∧j<2 ^ 62 then some (range i (j - i).toNat,[]) else none
 | _=>none
noncomputable def dM (a b:List D):List D:=List.zipWith (fun x y=>.tup [x,y]) a b
noncomputable def gh:Int→List D→List D
 | _,[]=>[]
 | k,x :: xs=>.tup [.int k,x] :: gh (k+1) xs
noncomputable def vN (a b:List D):Bool:=@decide (a=b) (Classical.propDecidable _)
theorem qq (a b:List D):vN a b=true↔a=b:=@decide_eq_true_iff _ (Classical.propDecidable _)
@[simp] theorem vO (a:List D):vN a a=true:=(qq a a).mpr rfl
noncomputable def stays (h:Hh):List (Nat×List D)→Bool
 | []=>true
 | (n,ds) :: r=>(match bh h n with | some es=>vN es ds | none=>false)&&stays h r
noncomputable def cF:List Nat→List D→Fr→Option Fr
 | [],[],fr=>some fr
 | i :: is,d :: ds,fr=>cF is ds (fr.set i (some d))
 | _,_,_=>none
noncomputable def b7:T→D→Fr→Option Fr
 | .one i,d,fr=>some (fr.set i (some d))
 | .many l,.tup ds,fr=>cF l ds fr
 | _,_,_=>none
noncomputable def slots:T→List Nat
 | .one i=>[i]
 | .many l=>l
noncomputable def undef (t:T) (fr:Fr):Bool:=(slots t).all fun i=>(fr[i]?.join).isNone
noncomputable def Au:D→Option (List D)
 | .tup ds=>some ds
 | _=>none
noncomputable def pI:D→Hh→R D
 | .tup ds,h=>.ok (.tup ds) h
 | .ref n,h=>match bh h n with
  | some ds=>if ds.length≤big then .ok (.tup ds) h else .bad
  | none=>.bad
 | _,_=>.bad
noncomputable def m9 (h:Hh):D→Option Src
 | .ref n=>(bh h n).map fun ds=>(ds,[(n,ds)])
 | _=>none
noncomputable def cD (f:D→Hh→R (Option D)) (ck:List (Nat×List D)):List D→Hh→R (List D)
 | [],h=>if stays h ck then .ok [] h else .bad
 | d :: ds,h=>if stays h ck then (f d h).bind fun o h1=>(cD f ck ds h1).bind fun r h2=>.ok (o.toList++r) h2 else .bad
noncomputable def forL (f:D→Fr→Hh→R (Fl×Fr)) (ck:List (Nat×List D)):List D→Fr→Hh→R (Fl×Fr)
 | [],fr,h=>if stays h ck then .ok (.nx,fr) h else .bad
 | d :: ds,fr,h=>if stays h ck then (f d fr h).bind fun p h1=>match p.1 with
   | .nx=>forL f ck ds p.2 h1
   | .ct=>forL f ck ds p.2 h1
   | .bk=>.ok (.nx,p.2) h1
   | .ret x=>.ok (.ret x,p.2) h1
  else .bad
noncomputable def dN (t:Fr→Hh→R Bool) (f:Fr→Hh→R (Fl×Fr)):Nat→Fr→Hh→R (Fl×Fr)
 | 0,_,_=>.bad
 | n+1,fr,h=>(t fr h).bind fun b h1=>if b then (f fr h1).bind fun p h2=>match p.1 with
   | .nx=>dN t f n p.2 h2
   | .ct=>dN t f n p.2 h2
   | .bk=>.ok (.nx,p.2) h2
   | .ret x=>.ok (.ret x,p.2) h2
  else .ok (.nx,fr) h1
abbrev aR:=Nat→List D→Hh→R D
noncomputable def intOf:D→Option Int
 | .int i=>some i
 | _=>none
mutual
noncomputable def ev (P:aR):E→Fr→Hh→R D
 | .c d,_,h=>.ok d h
 | .v i,fr,h=>R.of (fr[i]?.join) h
 | .tup es,fr,h=>(b5 P es fr h).bind fun ds h1=>if ds.length≤big then .ok (.tup ds) h1 else .bad
 | .lst es,fr,h=>(b5 P es fr h).bind fun ds h1=>alloc ds h1
 | .bin o a b,fr,h=>(ev P a fr h).bind fun x h1=>(ev P b fr h1).bind fun y h2=>bH o x y h2
 | .cmp o a b,fr,h=>(ev P a fr h).bind fun x h1=>(ev P b fr h1).bind fun y h2=>R.of ((cop o x y h2).map .bl) h2
 | .nt a,fr,h=>(ev P a fr h).bind fun x h1=>match x with
   | .bl b=>.ok (.bl (!b)) h1
   | _=>.bad
 | .neg a,fr,h=>(ev P a fr h).bind fun x h1=>match x with
   | .int i=>.ok (.int (-i)) h1
   | _=>.bad
 | .an a b,fr,h=>(ev P a fr h).bind fun x h1=>match x with
   | .bl true=>ev P b fr h1
   | .bl false=>.ok (.bl false) h1
   | _=>.bad
 | .orr a b,fr,h=>(ev P a fr h).bind fun x h1=>match x with
   | .bl true=>.ok (.bl true) h1
   | .bl false=>ev P b fr h1
   | _=>.bad
 | .gT t a b,fr,h=>(aK P t fr h).bind fun k h1=>if k then ev P a fr h1 else ev P b fr h1
 | .ix a b,fr,h=>(ev P a fr h).bind fun x h1=>(ev P b fr h1).bind fun y h2=>R.of (eZ x y h2) h2
 | .sl a lo hi,fr,h=>(ev P a fr h).bind fun x h1=>(ff P lo fr h1).bind fun l h2=>(ff P hi fr h2).bind fun u h3=>eF x l u h3
 | .cl f es,fr,h=>(b5 P es fr h).bind fun ds h1=>P f ds h1
 | .bi b es,fr,h=>(b5 P es fr h).bind fun ds h1=>cY b ds h1
 | .me m o es,fr,h=>(ev P o fr h).bind fun x h1=>if mP m x h1 then (b5 P es fr h1).bind fun ds h2=>er m x ds h2 else .bad
 | .comp elt t it cond,fr,h=>(cy P it fr h).bind fun s h1=>if undef t fr then
   (cD (fun d h2=>match b7 t d fr with
    | none=>.bad
    | some au=>(gF P cond au h2).bind fun k h3=>if k then (ev P elt au h3).bind fun x h4=>.ok (some x) h4 else .ok none h3) s.2 s.1 h1).bind fun ds h2=>alloc ds h2 else .bad
 | .iH it,fr,h=>(cy P it fr h).bind fun s h1=>alloc s.1 h1
 | .kX kvs a,fr,h=>(ev P a fr h).bind fun x h1=>R.of (gE x kvs) h1
 | .jq a,fr,h=>(ev P a fr h).bind fun x h1=>pI x h1
noncomputable def b5 (P:aR):Es→Fr→Hh→R (List D)
 | .nil,_,h=>.ok [] h
 | .cons e es,fr,h=>(ev P e fr h).bind fun d h1=>(b5 P es fr h1).bind fun ds h2=>.ok (d :: ds) h2
noncomputable def ff (P:aR):Eo→Fr→Hh→R (Option Int)
 | .no,_,h=>.ok none h
 | .yes e,fr,h=>(ev P e fr h).bind fun d h1=>R.of ((intOf d).map some) h1
noncomputable def gF (P:aR):Eo→Fr→Hh→R Bool
 | .no,_,h=>.ok true h
 | .yes e,fr,h=>aK P e fr h
noncomputable def aK (P:aR):E→Fr→Hh→R Bool
 | .an a b,fr,h=>(aK P a fr h).bind fun k h1=>if k then aK P b fr h1 else .ok false h1
 | .orr a b,fr,h=>(aK P a fr h).bind fun k h1=>if k then .ok true h1 else aK P b fr h1
 | .nt a,fr,h=>(aK P a fr h).bind fun k h1=>.ok (!k) h1
 | e,fr,h=>(ev P e fr h).bind fun x h1=>R.of (truthy h1 x) h1
noncomputable def cy (P:aR):It→Fr→Hh→R Src
 | .seq e,fr,h=>(ev P e fr h).bind fun x h1=>R.of (fN h1 x) h1
 | .gR es,fr,h=>(b5 P es fr h).bind fun ds h1=>R.of (eU ds) h1
 | .zip a b,fr,h=>(ev P a fr h).bind fun x h1=>(ev P b fr h1).bind fun y h2=>R.of ((m9 h2 x).bind fun s=>(m9 h2 y).map fun t=>(dM s.1 t.1,s.2++t.2)) h2
 | .enum a,fr,h=>(ev P a fr h).bind fun x h1=>R.of ((m9 h1 x).map fun s=>(gh 0 s.1,s.2)) h1
 | .rev a,fr,h=>(ev P a fr h).bind fun x h1=>R.of ((Au x).map fun ds=>(ds.reverse,[])) h1
end
mutual
noncomputable def ex (P:aR) (w:Nat):S→Fr→Hh→R (Fl×Fr)
 | .set i e,fr,h=>(ev P e fr h).bind fun x h1=>.ok (.nx,fr.set i (some x)) h1
 | .vM l e,fr,h=>(ev P e fr h).bind fun x h1=>match b7 (.many l) x fr with
   | some au=>.ok (.nx,au) h1
   | none=>.bad
 | .exp e,fr,h=>(ev P e fr h).bind fun _ h1=>.ok (.nx,fr) h1
 | .ret e,fr,h=>(ev P e fr h).bind fun x h1=>.ok (.ret x,fr) h1
 | .iff t a b,fr,h=>(aK P t fr h).bind fun k h1=>if k then exs P w a fr h1 else exs P w b fr h1
 | .for t it b,fr,h=>(cy P it fr h).bind fun s h1=>forL (fun d au h2=>match b7 t d au with
   | some cB=>exs P w b cB h2
   | none=>.bad) s.2 s.1 fr h1
 | .nW t b,fr,h=>dN (fun au h2=>aK P t au h2) (fun au h2=>exs P w b au h2) w fr h
 | .pass,fr,h=>.ok (.nx,fr) h
 | .brk,fr,h=>.ok (.bk,fr) h
 | .cnt,fr,h=>.ok (.ct,fr) h
 | .fR,_,_=>.bad
noncomputable def exs (P:aR) (w:Nat):Ss→Fr→Hh→R (Fl×Fr)
 | .nil,fr,h=>.ok (.nx,fr) h
 | .cons s ss,fr,h=>(ex P w s fr h).bind fun p h1=>match p.1 with
   | .nx=>exs P w ss p.2 h1
   | _=>.ok p h1
end
structure Fn where
 np:Nat
 ns:Nat
 body:Ss
noncomputable def d7 (fn:Fn) (ds:List D):Fr:=ds.map some++List.replicate (fn.ns - fn.np) none
noncomputable def endOf (r:R (Fl×Fr)):R D:=r.bind fun p h=>match p.1 with
 | .ret d=>.ok d h
 | .nx=>.ok .aY h
 | _=>.bad
noncomputable def run (F:List Fn) (w:Nat):Nat→aR
 | 0,_,_,_=>.bad
 | n+1,f,ds,h=>match F[f]? with
  | some fn=>if ds.length=fn.np then endOf (exs (run F w n) w fn.body (d7 fn ds) h) else .bad
  | none=>.bad
end Ev
set_option maxRecDepth 100000
namespace Sm
open PySem PySem.Spec PyProof.Rows L2
noncomputable def bg (l:List Nat):Str:=⟨l.toArray⟩
theorem cI (l:List Nat):(bg l).length=l.length:=by simp [bg,Str.length]
theorem uv {a b:List Nat}(h:bg a=bg b):a=b:=by
 have h1:a.toArray=b.toArray:=congrArg Str.cps h
 simpa using congrArg Array.toList h1
theorem jc:Ev.big=sizeLine:=by rw [sizeLine_eq];rfl
section
variable (K:PySem.W.Frag)
mutual
noncomputable def RV (H:Hp) (r:List Addr):Ev.D→V→Prop
 | .aY,v=>v=.aY
 | .bl b,v=>v=.bl b
 | .int i,v=>v=.int i
 | .str s,v=>v=.str (bg s)∧s.length≤sizeLine
 | .ref n,v=>∃ a,v=.ref a∧r[n]?=some a
 | .tup ds,v=>∃ a vs,v=.ref a∧dh K H a vs∧aG H r ds vs
noncomputable def aG (H:Hp) (r:List Addr):List Ev.D→List V→Prop
 | [],vs=>vs=[]
 | d :: ds,vs=>∃ v w,vs=v :: w∧RV H r d v∧aG H r ds w
end
noncomputable def vP (H:Hp) (a:Addr) (vs:List V):Prop:=(∃ o,H a=some (.bS o (.lst vs)))∨
 ∃ (o:Obj) (its:Array Value) (n:Nat),K.lookup a=some o∧o.cls=.type "list" ∧o.dict=none∧o.data=.seq its n∧its.size≤sizeLine∧Vals vs its.toList
noncomputable def RO (H:Hp) (r:List Addr):Ev.O→Addr→Prop
 | .lst ds,a=>∃ vs,H a=some (.lst vs)∧aG K H r ds vs
 | .bS ds,a=>∃ vs,vP K H a vs∧aG K H r ds vs
structure HR (H:Hp) (r:List Addr) (h:Ev.Hh):Prop where
 len:r.length=h.length
 ob:∀ (n:Nat) o,h[n]?=some o→∃ a,r[n]?=some a∧RO K H r o a
 inj:∀ (n m:Nat) a x y,r[n]?=some a→r[m]?=some a→h[n]?=some (.lst x)→h[m]?=some (.lst y)→n=m
structure Fm (r r':List Addr) (H H':Hp):Prop where
 pre:∀ (n:Nat) a,r[n]?=some a→r'[n]?=some a
 new:∀ a∈r',a∈r∨H a=none
 keep:∀ a o,H a=some o→a∉r→H' a=some o
 tups:∀ a vs,dh K H a vs→dh K H' a vs
end
section
variable {K:PySem.W.Frag}{H H1 H2:Hp}{r r1 r2:List Addr}{h:Ev.Hh}
theorem Fm.refl:Fm K r r H H:=⟨fun _ _ e=>e,fun _ e=>.inl e,fun _ _ e _=>e,fun _ _ e=>e⟩
theorem Fm.trans (a:Fm K r r1 H H1) (b:Fm K r1 r2 H1 H2):Fm K r r2 H H2 where
 pre:=fun n x e=>b.pre n x (a.pre n x e)
 new:=fun x e=>by
  rcases b.new x e with q | q
  ·exact a.new x q
  ·by_cases z:x∈r
   ·exact .inl z
   ·refine .inr ?_
    cases w:H x with
    | none=>rfl
    | some o=>rw [a.keep x o w z] at q;cases q
 keep:=fun x o e n=>by
  refine b.keep x o (a.keep x o e n) fun z=>?_
  rcases a.new x z with q | q
  ·exact n q
  ·rw [e] at q;cases q
 tups:=fun x vs e=>b.tups x vs (a.tups x vs e)
mutual
theorem RV.grow (f:∀ (n:Nat) a,r[n]?=some a→r1[n]?=some a) (g:∀ a vs,dh K H a vs→dh K H1 a vs):∀ {d:Ev.D}{v:V},RV K H r d v→RV K H1 r1 d v
 | .aY,_,e=>e
 | .bl _,_,e=>e
 | .int _,_,e=>e
 | .str _,_,e=>e
 | .ref n,_,⟨a,e,z⟩=>⟨a,e,f n a z⟩
 | .tup ds,_,⟨a,vs,e,z,q⟩=>⟨a,vs,e,g a vs z,aG.grow f g q⟩
theorem aG.grow (f:∀ (n:Nat) a,r[n]?=some a→r1[n]?=some a) (g:∀ a vs,dh K H a vs→dh K H1 a vs):∀ {ds:List Ev.D}{vs:List V},aG K H r ds vs→aG K H1 r1 ds vs
 | [],_,e=>e
 | _ :: _,_,⟨v,w,e,z,q⟩=>⟨v,w,e,RV.grow f g z,aG.grow f g q⟩
end
theorem RV.mono (f:Fm K r r1 H H1) {d:Ev.D}{v:V}(q:RV K H r d v):RV K H1 r1 d v:=q.grow f.pre f.tups
theorem aG.mono (f:Fm K r r1 H H1) {ds:List Ev.D}{vs:List V}(q:aG K H r ds vs):aG K H1 r1 ds vs:=q.grow f.pre f.tups
theorem aG.nil:aG K H r [] []:=by simp [aG]
theorem aG.cons {d:Ev.D}{v:V}{ds:List Ev.D}{vs:List V}(a:RV K H r d v) (b:aG K H r ds vs):aG K H r (d :: ds) (v :: vs):=by
 simp only [aG];exact ⟨v,vs,rfl,a,b⟩
theorem aG.length:∀ {ds:List Ev.D}{vs:List V},aG K H r ds vs→vs.length=ds.length
 | [],_,e=>by simp only [aG] at e;subst e;rfl
 | _ :: _,_,e=>by
  simp only [aG] at e
  obtain ⟨v,w,rfl,_,q⟩:=e
  simp [aG.length q]
theorem aG.get:∀ {ds:List Ev.D}{vs:List V}{i:Nat}{d:Ev.D},aG K H r ds vs→ds[i]?=some d→∃ v,vs[i]?=some v∧RV K H r d v
 | [],_,_,_,_,e=>by simp at e
 | _ :: _,_,0,_,h,e=>by
  simp only [aG] at h
  obtain ⟨v,w,rfl,z,q⟩:=h
  simp at e;subst e
  exact ⟨v,by simp,z⟩
 | _ :: _,_,i+1,_,h,e=>by
  simp only [aG] at h
  obtain ⟨v,w,rfl,z,q⟩:=h
  obtain ⟨u,a,b⟩:=aG.get (i:=i) q (by simpa using e)
  exact ⟨u,by simpa using a,b⟩
theorem aG.append:∀ {ds es:List Ev.D}{vs ws:List V},aG K H r ds vs→aG K H r es ws→aG K H r (ds++es) (vs++ws)
 | [],_,_,_,a,b=>by simp only [aG] at a;subst a;simpa using b
 | _ :: _,_,_,_,a,b=>by
  simp only [aG] at a
  obtain ⟨v,w,rfl,z,q⟩:=a
  simp only [List.cons_append]
  exact .cons z (aG.append q b)
theorem aG.take:∀ {ds:List Ev.D}{vs:List V}(n:Nat),aG K H r ds vs→aG K H r (ds.take n) (vs.take n)
 | _,_,0,_=>by simp [aG]
 | [],_,_+1,a=>by simp only [aG] at a;subst a;simp [aG]
 | _ :: _,_,n+1,a=>by
  simp only [aG] at a
  obtain ⟨v,w,rfl,z,q⟩:=a
  simp only [List.take_succ_cons]
  exact .cons z (aG.take n q)
theorem aG.drop:∀ {ds:List Ev.D}{vs:List V}(n:Nat),aG K H r ds vs→aG K H r (ds.drop n) (vs.drop n)
 | _,_,0,a=>by simpa using a
 | [],_,_+1,a=>by simp only [aG] at a;subst a;simp [aG]
 | _ :: _,_,n+1,a=>by
  simp only [aG] at a
  obtain ⟨v,w,rfl,z,q⟩:=a
  simp only [List.drop_succ_cons]
  exact aG.drop n q
theorem aG.reverse:∀ {ds:List Ev.D}{vs:List V},aG K H r ds vs→aG K H r ds.reverse vs.reverse
 | [],_,a=>by simp only [aG] at a;subst a;simp [aG]
 | _ :: _,_,a=>by
  simp only [aG] at a
  obtain ⟨v,w,rfl,z,q⟩:=a
  simp only [List.reverse_cons]
  exact (aG.reverse q).append (.cons z .nil)
theorem aG.rep {ds:List Ev.D}{vs:List V}(a:aG K H r ds vs):∀ k:Nat,aG K H r (Ev.rep k ds) (Ev.rep k vs)
 | 0=>by simp [Ev.rep,aG]
 | k+1=>by
  have h:=aG.rep a k
  simp only [Ev.rep,List.replicate_succ,List.flatten_cons] at h ⊢
  exact a.append h
theorem Fm.laid {p:Addr}{o:HO}(hp:H p=none):Fm K r (r++[p]) H (upd H p o) where
 pre:=fun n a e=>by rw [List.getElem?_append_left (List.getElem?_eq_some_iff.mp e).1];exact e
 new:=fun a e=>by
  rcases List.mem_append.mp e with q | q
  ·exact .inl q
  ·rw [List.mem_singleton] at q;subst q;exact .inr hp
 keep:=fun a ob e _=>by rw [bx (bY e hp)];exact e
 tups:=fun a vs e=>by
  rcases e with (e | ⟨ob,e⟩) | e
  ·exact .inl (.inl (by rw [bx (bY e hp)];exact e))
  ·exact .inl (.inr ⟨ob,by rw [bx (bY e hp)];exact e⟩)
  ·exact .inr e
theorem Fm.tup {p:Addr}{o:HO}(hp:H p=none):Fm K r r H (upd H p o) where
 pre:=fun n a e=>e
 new:=fun a e=>.inl e
 keep:=fun a ob e _=>by rw [bx (bY e hp)];exact e
 tups:=(Fm.laid (r:=r) hp).tups
theorem RO.mono {o:Ev.O}{a:Addr}(f:Fm K r r1 H H1) (q:RO K H r o a) (hl:∀ ds vs,o=.lst ds→H a=some (.lst vs)→H1 a=some (.lst vs)) (hf:∀ ob vs,H a=some (.bS ob vs)→H1 a=some (.bS ob vs)):RO K H1 r1 o a:=by
 cases o with
 | lst ds=>
  obtain ⟨vs,e,z⟩:=q
  exact ⟨vs,hl ds vs rfl e,z.mono f⟩
 | bS ds=>
  obtain ⟨vs,e,z⟩:=q
  refine ⟨vs,?_,z.mono f⟩
  rcases e with ⟨ob,e⟩ | e
  ·exact .inl ⟨ob,hf _ _ e⟩
  ·exact .inr e
theorem HR.tup {p:Addr}{o:HO}(hr:HR K H r h) (hp:H p=none):HR K (upd H p o) r h where
 len:=hr.len
 ob:=fun n ob e=>by
  obtain ⟨a,e1,q⟩:=hr.ob n ob e
  exact ⟨a,e1,q.mono (Fm.tup hp) (fun _ vs _ z=>by rw [bx (bY z hp)];exact z) fun _ _ z=>by rw [bx (bY z hp)];exact z⟩
 inj:=hr.inj
theorem HR.lst {p:Addr}{ds:List Ev.D}{vs:List V}(hr:HR K H r h) (hp:H p=none) (q:aG K H r ds vs):HR K (upd H p (.lst vs)) (r++[p]) (h++[.lst ds]) where
 len:=by simp [hr.len]
 ob:=fun n ob e=>by
  by_cases hn:n<h.length
  ·rw [List.getElem?_append_left hn] at e
   obtain ⟨a,e1,z⟩:=hr.ob n ob e
   exact ⟨a,(Fm.laid (K:=K) (o:=.lst vs) hp).pre n a e1,z.mono (Fm.laid hp) (fun _ vs _ z=>by rw [bx (bY z hp)];exact z) fun _ _ z=>by rw [bx (bY z hp)];exact z⟩
  ·have e2:=(List.getElem?_eq_some_iff.mp e).1
   simp only [List.length_append,List.length_singleton] at e2
   have e3:n=h.length:=by omega
   subst e3
   simp at e
   subst e
   exact ⟨p,by rw [←hr.len];simp,vs,fq,q.mono (Fm.laid hp)⟩
 inj:=fun n m a x y e1 e2 e3 e4=>by
  have out:∀ (k:Nat) z,(h++[Ev.O.lst ds])[k]?=some (.lst z)→(r++[p])[k]?=some a→(k<h.length∧r[k]?=some a∧h[k]?=some (.lst z)∧a≠p)∨(k=h.length∧a=p):=fun k z q1 q2=>by
   by_cases hk:k<h.length
   ·rw [List.getElem?_append_left hk] at q1
    rw [List.getElem?_append_left (by rw [hr.len];exact hk)] at q2
    obtain ⟨b,e5,vs',e6,_⟩:=hr.ob k _ q1
    rw [q2] at e5;cases e5
    exact .inl ⟨hk,q2,q1,bY e6 hp⟩
   ·have e5:=(List.getElem?_eq_some_iff.mp q1).1
    simp only [List.length_append,List.length_singleton] at e5
    have e6:k=r.length:=by rw [hr.len];omega
    subst e6
    simp at q2
    exact .inr ⟨hr.len,q2.symm⟩
  rcases out n x e3 e1 with ⟨h1,h2,h3,h4⟩ | ⟨h1,h2⟩
  ·rcases out m y e4 e2 with ⟨k1,k2,k3,k4⟩ | ⟨k1,k2⟩
   ·exact hr.inj n m a x y h2 k2 h3 k3
   ·exact absurd k2 h4
  ·rcases out m y e4 e2 with ⟨k1,k2,k3,k4⟩ | ⟨k1,k2⟩
   ·exact absurd h2 k4
   ·rw [h1,k1]
theorem HR.read {n:Nat}{ds:List Ev.D}(hr:HR K H r h) (e:Ev.bh h n=some ds):∃ a vs,r[n]?=some a∧dB K H a vs∧aG K H r ds vs:=by
 unfold Ev.bh at e
 split at e
 ·rename_i z
  cases e
  obtain ⟨a,e1,vs,e2,e3⟩:=hr.ob n _ z
  exact ⟨a,vs,e1,.inl (.inl e2),e3⟩
 ·rename_i z
  cases e
  obtain ⟨a,e1,vs,e2,e3⟩:=hr.ob n _ z
  refine ⟨a,vs,e1,?_,e3⟩
  rcases e2 with ⟨ob,e2⟩ | e2
  ·exact .inl (.inr ⟨ob,e2⟩)
  ·exact .inr e2
 ·cases e
theorem Fm.write {a:Addr}{vs ws:List V}(ha:H a=some (.lst vs)) (hm:a∈r):Fm K r r H (upd H a (.lst ws)) where
 pre:=fun n b e=>e
 new:=fun b e=>.inl e
 keep:=fun b ob e n=>by rw [bx (fun z=>n (by rw [z];exact hm))];exact e
 tups:=fun b us e=>by
  rcases e with (e | ⟨ob,e⟩) | e
  ·exact .inl (.inl (by rw [bx (nP e ha (by intro z;cases z))];exact e))
  ·exact .inl (.inr ⟨ob,by rw [bx (nP e ha (by intro z;cases z))];exact e⟩)
  ·exact .inr e
theorem HR.write {n:Nat}{a:Addr}{ds es:List Ev.D}{vs ws:List V}(hr:HR K H r h) (hn:h[n]?=some (.lst ds)) (Ir:r[n]?=some a) (ha:H a=some (.lst vs)) (q:aG K H r es ws) :
  HR K (upd H a (.lst ws)) r (h.set n (.lst es)) where
 len:=by simp [hr.len]
 ob:=fun m ob e=>by
  have f:=Fm.write (K:=K) (ws:=ws) ha (List.mem_of_getElem? Ir)
  by_cases hm:m=n
  ·subst hm
   rw [List.getElem?_set_self (List.getElem?_eq_some_iff.mp hn).1] at e
   cases e
   exact ⟨a,Ir,ws,fq,q.mono f⟩
  ·rw [List.getElem?_set_ne (fun z=>hm z.symm)] at e
   obtain ⟨b,e1,z⟩:=hr.ob m ob e
   refine ⟨b,e1,z.mono f (fun V2 us z3 z2=>?_) fun XW us z2=>by rw [bx (nP z2 ha (by intro z;cases z))];exact z2⟩
   by_cases hb:b=a
   ·subst hb
    subst z3
    exact absurd (hr.inj m n b V2 ds e1 Ir e hn) hm
   ·rw [bx hb];exact z2
 inj:=fun k m b x y e1 e2 e3 e4=>by
  have back:∀ (j:Nat) z,(h.set n (Ev.O.lst es))[j]?=some (.lst z)→∃ z',h[j]?=some (.lst z'):=fun j z w=>by
   by_cases hj:j=n
   ·subst hj;exact ⟨ds,hn⟩
   ·rw [List.getElem?_set_ne (fun z=>hj z.symm)] at w;exact ⟨z,w⟩
  obtain ⟨x',e5⟩:=back k x e3
  obtain ⟨y',e6⟩:=back m y e4
  exact hr.inj k m b x' y' e1 e2 e5 e6
theorem gG {p:Addr}{vs ws:List V}(hp:H p=some (.lst vs)):∀ a us,dh K H a us→dh K (upd H p (.lst ws)) a us:=fun b us e=>by
 rcases e with (e | ⟨ob,e⟩) | e
 ·exact .inl (.inl (by rw [bx (nP e hp (by intro z;cases z))];exact e))
 ·exact .inl (.inr ⟨ob,by rw [bx (nP e hp (by intro z;cases z))];exact e⟩)
 ·exact .inr e
theorem HR.other {p:Addr}{vs ws:List V}(hr:HR K H r h) (hp:H p=some (.lst vs)) (hn:p∉r):HR K (upd H p (.lst ws)) r h where
 len:=hr.len
 ob:=fun n ob e=>by
  obtain ⟨a,e1,q⟩:=hr.ob n ob e
  have ha:a≠p:=fun z=>hn (by rw [←z];exact List.mem_of_getElem? e1)
  refine ⟨a,e1,?_⟩
  cases ob with
  | lst ds=>
   obtain ⟨us,e2,e3⟩:=q
   exact ⟨us,by rw [bx ha];exact e2,e3.grow (fun _ _ z=>z) (gG hp)⟩
  | bS ds=>
   obtain ⟨us,e2,e3⟩:=q
   refine ⟨us,?_,e3.grow (fun _ _ z=>z) (gG hp)⟩
   rcases e2 with ⟨o,e2⟩ | e2
   ·exact .inl ⟨o,by rw [bx ha];exact e2⟩
   ·exact .inr e2
 inj:=hr.inj
theorem Fm.other {p:Addr}{vs ws:List V}(f:Fm K r r1 H H1) (h0:H p=none) (hp:H1 p=some (.lst vs)):Fm K r r1 H (upd H1 p (.lst ws)) where
 pre:=f.pre
 new:=f.new
 keep:=fun a o e n=>by rw [bx (bY e h0)];exact f.keep a o e n
 tups:=fun a us e=>gG hp a us (f.tups a us e)
theorem Fm.gg {p:Addr}{o:HO}(f:Fm K r r1 H H1) (hp:H p=some o) (hn:p∉r):p∉r1∧H1 p=some o:=by
 refine ⟨fun z=>?_,f.keep p o hp hn⟩
 rcases f.new p z with q | q
 ·exact hn q
 ·rw [hp] at q;cases q
theorem HR.known {p:Addr}{ds:List Ev.D}{vs:List V}(hr:HR K H r h) (hp:H p=some (.lst vs)) (hn:p∉r) (q:aG K H r ds vs):HR K H (r++[p]) (h++[.lst ds]):=by
 have pre:∀ (n:Nat) a,r[n]?=some a→(r++[p])[n]?=some a:=fun n a e=>by rw [List.getElem?_append_left (List.getElem?_eq_some_iff.mp e).1];exact e
 refine ⟨by simp [hr.len],fun n ob e=>?_,fun n m a x y e1 e2 e3 e4=>?_⟩
 ·by_cases hk:n<h.length
  ·rw [List.getElem?_append_left hk] at e
   obtain ⟨a,e1,z⟩:=hr.ob n ob e
   refine ⟨a,pre n a e1,?_⟩
   cases ob with
   | lst ds=>obtain ⟨us,e2,e3⟩:=z;exact ⟨us,e2,e3.grow pre fun _ _ z=>z⟩
   | bS ds=>obtain ⟨us,e2,e3⟩:=z;exact ⟨us,e2,e3.grow pre fun _ _ z=>z⟩
  ·have e2:=(List.getElem?_eq_some_iff.mp e).1
   simp only [List.length_append,List.length_singleton] at e2
   have e3:n=h.length:=by omega
   subst e3
   simp at e
   subst e
   exact ⟨p,by rw [←hr.len];simp,vs,hp,q.grow pre fun _ _ z=>z⟩
 ·have out:∀ (k:Nat) z,(h++[Ev.O.lst ds])[k]?=some (.lst z)→(r++[p])[k]?=some a→(k<h.length∧r[k]?=some a∧h[k]?=some (.lst z)∧a≠p)∨(k=h.length∧a=p):=fun k z q1 q2=>by
   by_cases hk:k<h.length
   ·rw [List.getElem?_append_left hk] at q1
    rw [List.getElem?_append_left (by rw [hr.len];exact hk)] at q2
    exact .inl ⟨hk,q2,q1,fun z=>hn (by rw [←z];exact List.mem_of_getElem? q2)⟩
   ·have e5:=(List.getElem?_eq_some_iff.mp q1).1
    simp only [List.length_append,List.length_singleton] at e5
    have e6:k=r.length:=by rw [hr.len];omega
    subst e6
    simp at q2
    exact .inr ⟨hr.len,q2.symm⟩
  rcases out n x e3 e1 with ⟨h1,h2,h3,h4⟩ | ⟨h1,h2⟩
  ·rcases out m y e4 e2 with ⟨k1,k2,k3,k4⟩ | ⟨k1,k2⟩
   ·exact hr.inj n m a x y h2 k2 h3 k3
   ·exact absurd k2 h4
  ·rcases out m y e4 e2 with ⟨k1,k2,k3,k4⟩ | ⟨k1,k2⟩
   ·exact absurd h2 k4
   ·rw [h1,k1]
theorem Fm.known {p:Addr}(f:Fm K r r1 H H1) (h0:H p=none):Fm K r (r1++[p]) H H1 where
 pre:=fun n a e=>by
  have e':=f.pre n a e
  rw [List.getElem?_append_left (List.getElem?_eq_some_iff.mp e').1];exact e'
 new:=fun a e=>by
  rcases List.mem_append.mp e with q | q
  ·exact f.new a q
  ·rw [List.mem_singleton] at q;subst q;exact .inr h0
 keep:=f.keep
 tups:=f.tups
end
end Sm
set_option maxRecDepth 100000
namespace Sm
open PySem PySem.Spec PyProof.Rows L2
open Ev (D O Hh Fr R aR E Es Eo It T S Ss Fl Src bW bQ TY BI ME)
section
variable (K:PySem.W.Frag)
noncomputable def Res (r:List Addr) (H:Hp) (h':Hh) (d:D) (Q:VK):Prop:=∀ v H' r',RV K H' r' d v→HR K H' r' h'→Fm K r r' H H'→Q v H'
structure SR (m:List Nat) (H:Hp) (r:List Addr) (fr:Fr) (s:L2.St):Prop where
 len:s.length=m.length
 sl:∀ (j i:Nat) d,m[j]?=some i→fr[i]?=some (some d)→∃ v,s[j]?=some (some v)∧RV K H r d v
inductive tJ (m:List Nat) (P:aR) (e:E) (s:L2.St) (H:Hp) (Q:VK):Prop
 | mk (r:List Addr) (fr:Fr) (h:Hh) (d:D) (h':Hh) (c0:SR K m H r fr s) (c1:HR K H r h) (c2:Ev.ev P e fr h=.ok d h') (c3:Res K r H h' d Q):tJ m P e s H Q
inductive Iu (m:List Nat) (P:aR) (e:E) (s:L2.St) (H:Hp) (Q:Bool→Hp→Prop):Prop
 | mk (r:List Addr) (fr:Fr) (h:Hh) (k:Bool) (h':Hh) (c0:SR K m H r fr s) (c1:HR K H r h) (c2:Ev.aK P e fr h=.ok k h') (c3:∀ H' r',HR K H' r' h'→Fm K r r' H H'→Q k H'):Iu m P e s H Q
inductive Iv (m:List Nat) (P:aR) (es:Es) (s:L2.St) (H:Hp) (Q:List V→Hp→Prop):Prop
 | mk (r:List Addr) (fr:Fr) (h:Hh) (ds:List D) (h':Hh) (c0:SR K m H r fr s) (c1:HR K H r h) (c2:Ev.b5 P es fr h=.ok ds h') (c3:∀ vs H' r',aG K H' r' ds vs→HR K H' r' h'→Fm K r r' H H'→Q vs H'):Iv m P es s H Q
inductive Ql (m:List Nat) (P:aR) (e:Eo) (s:L2.St) (H:Hp) (Q:Option Int→Hp→Prop):Prop
 | mk (r:List Addr) (fr:Fr) (h:Hh) (o:Option Int) (h':Hh) (c0:SR K m H r fr s) (c1:HR K H r h) (c2:Ev.ff P e fr h=.ok o h') (c3:∀ H' r',HR K H' r' h'→Fm K r r' H H'→Q o H'):Ql m P e s H Q
inductive gU (f:D→D→Hh→R D) (x:V) (y:V) (H:Hp) (Q:VK):Prop
 | mk (r:List Addr) (h:Hh) (a:D) (b:D) (d:D) (h':Hh) (c0:HR K H r h) (c1:RV K H r a x) (c2:RV K H r b y) (c3:f a b h=.ok d h') (c4:Res K r H h' d Q):gU f x y H Q
inductive V3 (f:D→Hh→R D) (x:V) (H:Hp) (Q:VK):Prop
 | mk (r:List Addr) (h:Hh) (a:D) (d:D) (h':Hh) (c0:HR K H r h) (c1:RV K H r a x) (c2:f a h=.ok d h') (c3:Res K r H h' d Q):V3 f x H Q
inductive uw (f:List D→Hh→R D) (xs:List V) (H:Hp) (Q:VK):Prop
 | mk (r:List Addr) (h:Hh) (as:List D) (d:D) (h':Hh) (c0:HR K H r h) (c1:aG K H r as xs) (c2:f as h=.ok d h') (c3:Res K r H h' d Q):uw f xs H Q
inductive rM (f:D→List D→Hh→R D) (x:V) (xs:List V) (H:Hp) (Q:VK):Prop
 | mk (r:List Addr) (h:Hh) (a:D) (as:List D) (d:D) (h':Hh) (c0:HR K H r h) (c1:RV K H r a x) (c2:aG K H r as xs) (c3:f a as h=.ok d h') (c4:Res K r H h' d Q):rM f x xs H Q
inductive Iw  (x:V) (lo:Option Int) (hi:Option Int) (H:Hp) (Q:VK):Prop
 | mk (r:List Addr) (h:Hh) (a:D) (d:D) (h':Hh) (c0:HR K H r h) (c1:RV K H r a x) (c2:Ev.eF a lo hi h=.ok d h') (c3:Res K r H h' d Q):Iw x lo hi H Q
end
section
variable {K:PySem.W.Frag}{m:List Nat}{H H':Hp}{r r':List Addr}{fr:Fr}{s:L2.St}{h h':Hh}{d:D}{Q:VK}
theorem SR.mono (a:SR K m H r fr s) (f:Fm K r r' H H'):SR K m H' r' fr s:=⟨a.len,fun j i d e1 e2=>by
 obtain ⟨v,q,z⟩:=a.sl j i d e1 e2
 exact ⟨v,q,z.mono f⟩⟩
theorem Res.here {v:V}(q:Res K r H h d Q) (a:RV K H r d v) (b:HR K H r h):Q v H:=q v H r a b .refl
theorem Res.later (q:Res K r H h' d Q) (f:Fm K r r' H H'):Res K r' H' h' d Q:=fun v H2 r2 a b g=>q v H2 r2 a b (f.trans g)
theorem Res.lst {ds:List D}{vs:List V}(q:Res K r H h' d Q) (e:Ev.alloc ds h=.ok d h') (a:aG K H r ds vs) (b:HR K H r h):vs.length≤sizeLine∧∀ p,H p=none→Q (.ref p) (upd H p (.lst vs)):=by
 unfold Ev.alloc at e
 split at e
 ·rename_i z
  cases e
  refine ⟨by rw [a.length,←jc];exact z,fun p hp=>?_⟩
  exact q _ _ (r++[p]) ⟨p,rfl,by rw [←b.len];simp⟩ (b.lst hp a) (.laid hp)
 ·cases e
theorem Res.tup {ds:List D}{vs:List V}(q:Res K r H h (.tup ds) Q) (a:aG K H r ds vs) (b:HR K H r h) {p:Addr}(hp:H p=none):Q (.ref p) (upd H p (.tup vs)):=
 q _ _ r ⟨p,vs,rfl,.of fq,a.mono (.tup hp)⟩ (b.tup hp) (.tup hp)
end
theorem PE.of {X:Cx}{e:Expr}{t t':TE}(h:PE X e t) (w:∀ s H Q,t' s H Q→t s H Q):PE X e t':=fun pins s σ H Q I q=>h pins s σ H Q I (w _ _ _ q)
theorem PT.of {X:Cx}{e:Expr}{t t':TT}(h:PT X e t) (w:∀ s H Q,t' s H Q→t s H Q):PT X e t':=fun pins s σ H Q I q=>h pins s σ H Q I (w _ _ _ q)
theorem PW.of {X:Cx}{e:Expr}{t t':TT}(h:PW X e t) (w:∀ s H Q,t' s H Q→t s H Q):PW X e t':=fun wh pins s σ H Q I q=>h wh pins s σ H Q I (w _ _ _ q)
theorem PA.of {X:Cx}{es:List Expr}{t t':TA}(h:PA X es t) (w:∀ s H Q,t' s H Q→t s H Q):PA X es t':=fun pos pins s σ H Q I q=>h pos pins s σ H Q I (w _ _ _ q)
theorem PO.of {X:Cx}{e:Option Expr}{t t':TO}(h:PO X e t) (w:∀ s H Q,t' s H Q→t s H Q):PO X e t':=fun pins s σ H Q I q=>h pins s σ H Q I (w _ _ _ q)
structure FI where
 name:Str
 addr:Addr
 fd:FuncData
 ps:List Str
noncomputable def mQ (K:PySem.W.Frag) (F:List Ev.Fn) (w n f:Nat):Sp:=fun vs H Q _=>∃ r h ds d h',aG K H r ds vs∧HR K H r h∧Ev.run F w n f ds h=.ok d h'∧Res K r H h' d Q
noncomputable def rN:D→V→Prop
 | .aY,v=>v=.aY
 | .bl b,v=>v=.bl b
 | .int i,v=>v=.int i
 | .str s,v=>v=.str (bg s)∧s.length≤sizeLine
 | _,_=>False
theorem rN.rv {K:PySem.W.Frag}{H:Hp}{r:List Addr}{d:D}{v:V}(h:rN d v):RV K H r d v:=by
 cases d <;> simp only [rN] at h <;> simp only [RV] <;> first | exact h | exact h.elim
structure Tb where
 F:List Ev.Fn
 w:Nat
 fi:List FI
 bl:List Str
 cs:List (Str×D)
 dk:List (Str×List (D×D))
noncomputable def tabOf:List (D×D)→List (PyData×PyData)
 | (.str k,.str v) :: r=>(.str (bg k),.str (bg v)) :: tabOf r
 | _=>[]
structure Good (G:Tb) (n:Nat) (sc:Scope) (N:List Str) (df:Bool) (X:Cx):Prop where
 nm:X.N=N
 sc:X.env.scope=sc
 calm:X.calm=true
 own:df=true→∀ x,X.fn x=true
 room:gm n X.A
 xe:X.xe=fun _ _=>False
 fn:∀ (f:Nat) i,G.fi[f]?=some i→X.mg i.name=some (.ref i.addr)∧PySem.W.keepIn X.K (.ref i.addr)=true∧Binds X.K i.fd i.ps []∧gX X.prog X.w X.K X.mg X.base kW n i.addr i.fd i.ps (mQ X.K G.F G.w n f)
 bl:∀ x∈G.bl,X.mg x=none
 cs:∀ x d,(x,d)∈G.cs→∃ v u,X.mg x=some u∧RelV v u∧rN d v
 dk:∀ x kvs,(x,kvs)∈G.dk→∃ a,X.mg x=some (.ref a)∧∀ h:Heap,X.K.In h→StrTab X.prog X.w h a (tabOf kvs)
section
variable (G:Tb)(n:Nat)(sc:Scope)(N:List Str)(df:Bool)(m:List Nat)
noncomputable def JE (e:E) (x:Expr):Prop:=∀ X,Good G n sc N df X→PE X x (tJ X.K m (Ev.run G.F G.w n) e)
noncomputable def JT (e:E) (x:Expr):Prop:=∀ X,Good G n sc N df X→PT X x (Iu X.K m (Ev.run G.F G.w n) e)
noncomputable def JW (e:E) (x:Expr):Prop:=∀ X,Good G n sc N df X→PW X x (Iu X.K m (Ev.run G.F G.w n) e)
noncomputable def JA (es:Es) (xs:List Expr):Prop:=∀ X,Good G n sc N df X→PA X xs (Iv X.K m (Ev.run G.F G.w n) es)
noncomputable def JO (e:Eo) (x:Option Expr):Prop:=∀ X,Good G n sc N df X→PO X x (Ql X.K m (Ev.run G.F G.w n) e)
end
section
variable {G:Tb}{n:Nat}{sc:Scope}{N:List Str}{df:Bool}{m:List Nat}{a b c:E}{xa xb xc:Expr}{pos:Pos}
theorem Good.vis {X:Cx}(g:Good G n sc N df X) {x:Str}(h:sc.names.lookup x=some .local∨sc.names.lookup x=some .cell∨sc.names.lookup x=some .free):xQ X.env.scope x:=by
 rw [g.sc];exact h
theorem Good.gl {X:Cx}(g:Good G n sc N df X) {x:Str}(h:sc.names.lookup x=some .globalImplicit):Gl X x:=by
 unfold Gl Env.kindOf;rw [g.sc];exact h
theorem Tw (j i:Nat) {x:Str}(hj:m[j]?=some i:=by rfl) (hN:N[j]?=some x:=by rfl)
  (hv:sc.names.lookup x=some .local∨sc.names.lookup x=some .cell∨sc.names.lookup x=some .free:=by first | exact Or.inl rfl | exact Or.inr (Or.inl rfl) | exact Or.inr (Or.inr rfl))
  (hd:(x==("__debug__" : Str))=false:=by decide) (hcd:(x==("__classdict__" : Str))=false:=by decide):JE G n sc N df m (.v i) (.Name x pos):=by
 intro X g
 refine PE.of (xT (i:=j) (by rw [g.nm];exact hN) (g.vis hv) hd hcd) fun s H Q q=>?_
 obtain ⟨r,fr,h,d,h',sr,hr,e,q⟩:=q
 simp only [Ev.ev] at e
 obtain ⟨e2,e3⟩:=Ev.aM e
 subst e3
 obtain ⟨v,q1,q2⟩:=sr.sl j i d hj (by
  cases z:fr[i]? with
  | none=>rw [z] at e2;cases e2
  | some o=>
   rw [z] at e2
   have e':o=some d:=e2
   rw [e'])
 exact ⟨v,q1,q.here q2 hr⟩
theorem qP {K:PySem.W.Frag}{P:aR}{d:D}{v:V}(hc:rN d v):∀ s H Q,tJ K m P (.c d) s H Q→tC v s H Q:=fun s H Q q=>by
 obtain ⟨r,fr,h,d',h',sr,hr,e,q⟩:=q
 simp only [Ev.ev] at e
 cases e
 exact q.here hc.rv hr
theorem Iz {i:Int}{j}:JE G n sc N df m (.c (.int i)) (.Constant (.int i) j pos):=fun X g=>PE.of Hw (qP rfl)
theorem Oq {k:Bool}{j}:JE G n sc N df m (.c (.bl k)) (.Constant (.bool k) j pos):=fun X g=>PE.of NX (qP rfl)
theorem IA {j}:JE G n sc N df m (.c .aY) (.Constant .none j pos):=fun X g=>PE.of Hx (qP rfl)
theorem IB {l:List Nat}{x:Str}{j}(hx:x=bg l:=by decide +kernel) (hl:l.length≤sizeLine:=by decide):JE G n sc N df m (.c (.str l)) (.Constant (.str x) j pos):=
 fun X g=>PE.of Hy (qP (by subst hx;exact ⟨rfl,hl⟩))
theorem IC:JA G n sc N df m .nil []:=fun X g=>PA.of nT fun s H Q q=>by
 obtain ⟨r,fr,h,ds,h',sr,hr,e,q⟩:=q
 simp only [Ev.b5] at e
 cases e
 exact q [] H r .nil hr .refl
theorem Fg {es:Es}{xs:List Expr}(ha:JE G n sc N df m a xa) (hs:JA G n sc N df m es xs) (hst:∀ env:Env,starEach (xa :: xs) env=(false,eval xa env) :: starEach xs env:=by intro _;rfl):JA G n sc N df m (.cons a es) (xa :: xs):=
 fun X g=>PA.of (jT (ha X g) (hs X g) (hst _)) fun s H Q q=>by
  obtain ⟨r,fr,h,ds,h',sr,hr,e,q⟩:=q
  simp only [Ev.b5] at e
  obtain ⟨d,h1,e1,e⟩:=Ev.ai e
  obtain ⟨ds',h2,e2,e⟩:=Ev.ai e
  cases e
  refine ⟨r,fr,h,d,h1,sr,hr,e1,fun v H1 r1 v1 hr1 f1=>?_⟩
  refine ⟨r1,fr,h1,ds',_,sr.mono f1,hr1,e2,fun vs H2 r2 v2 hr2 f2=>?_⟩
  exact q _ H2 r2 (.cons (v1.mono f2) v2) hr2 (f1.trans f2)
theorem ID {es:Es}{xs:List Expr}{k}(hs:JA G n sc N df m es xs):JE G n sc N df m (.tup es) (.Tuple xs k pos):=fun X g=>PE.of (HY (hs X g)) fun s H Q q=>by
 obtain ⟨r,fr,h,d,h',sr,hr,e,q⟩:=q
 simp only [Ev.ev] at e
 obtain ⟨ds,h1,e1,e⟩:=Ev.ai e
 split at e
 ·rename_i z
  cases e
  refine ⟨r,fr,h,ds,_,sr,hr,e1,fun vs H1 r1 v1 hr1 f1=>⟨by rw [v1.length,←jc];exact z,fun p hp=>?_⟩⟩
  exact (q.later f1).tup v1 hr1 hp
 ·cases e
theorem IE {es:Es}{xs:List Expr}(hs:JA G n sc N df m es xs):JE G n sc N df m (.lst es) (.List xs pos):=fun X g=>PE.of (HZ (hs X g)) fun s H Q q=>by
 obtain ⟨r,fr,h,d,h',sr,hr,e,q⟩:=q
 simp only [Ev.ev] at e
 obtain ⟨ds,h1,e1,e⟩:=Ev.ai e
 refine ⟨r,fr,h,ds,h1,sr,hr,e1,fun vs H1 r1 v1 hr1 f1=>?_⟩
 exact (q.later f1).lst e v1 hr1
theorem nX {K:PySem.W.Frag}{P:aR}{f:D→D→Hh→R D}{e':E}(he:∀ fr h,Ev.ev P e' fr h=(Ev.ev P a fr h).bind fun x h1=>(Ev.ev P b fr h1).bind fun y h2=>f x y h2) :
  ∀ s H Q,tJ K m P e' s H Q→xY (gU K f) (tJ K m P a) (tJ K m P b) s H Q:=fun s H Q q=>by
 obtain ⟨r,fr,h,d,h',sr,hr,e,q⟩:=q
 rw [he] at e
 obtain ⟨x,h1,e1,e⟩:=Ev.ai e
 obtain ⟨y,h2,e2,e⟩:=Ev.ai e
 refine ⟨r,fr,h,x,h1,sr,hr,e1,fun v H1 r1 v1 hr1 f1=>?_⟩
 refine ⟨r1,fr,h1,y,h2,sr.mono f1,hr1,e2,fun u H2 r2 v2 hr2 f2=>?_⟩
 exact ⟨r2,h2,x,y,d,h',hr2,v1.mono f2,v2,e,q.later (f1.trans f2)⟩
theorem kY {o:bW}{op:Operator}(ho:∀ X,Good G n sc N df X→dD X (binaryOp op) (gU X.K (Ev.bH o))) (ha:JE G n sc N df m a xa) (hb:JE G n sc N df m b xb):JE G n sc N df m (.bin o a b) (.BinOp xa op xb pos):=
 fun X g=>PE.of (Oa (ho X g) (ha X g) (hb X g)) (nX fun fr h=>by simp only [Ev.ev])
noncomputable def gH (o:bQ):D→D→Hh→R D:=fun x y h=>R.of ((Ev.cop o x y h).map .bl) h
theorem rO {o:bQ}{op:CmpOp}(ho:∀ X,Good G n sc N df X→dD X (compareOp op) (gU X.K (gH o))) (ha:JE G n sc N df m a xa) (hb:JE G n sc N df m b xb) (hm:behindInMarks op xb=false):JE G n sc N df m (.cmp o a b) (.Compare xa [op] [xb] pos):=
 fun X g=>PE.of (E1 (ho X g) (ha X g) (hb X g) hm) (nX fun fr h=>by simp only [Ev.ev,gH])
theorem jW {o:bQ}{x y d:D}{h h':Hh}(e:gH o x y h=.ok d h'):∃ k,Ev.cop o x y h=some k∧d=.bl k∧h'=h:=by
 unfold gH at e
 obtain ⟨e1,rfl⟩:=Ev.aM e
 cases z:Ev.cop o x y h' with
 | none=>rw [z] at e1;cases e1
 | some k=>rw [z] at e1;cases e1;exact ⟨k,rfl,rfl,rfl⟩
theorem kZ {o:bQ}{op:CmpOp}(ho:∀ X,Good G n sc N df X→dD X (compareOp op) (gU X.K (gH o))) (ha:JE G n sc N df m a xa) (hb:JE G n sc N df m b xb) (hm:behindInMarks op xb=false):JT G n sc N df m (.cmp o a b) (.Compare xa [op] [xb] pos):=
 fun X g=>PT.of (E2 (ho X g) (ha X g) (hb X g) hm) fun s H Q q=>by
  obtain ⟨r,fr,h,k,h',sr,hr,e,q⟩:=q
  simp only [Ev.aK] at e
  obtain ⟨d,h1,e1,e⟩:=Ev.ai e
  have e0:=e1
  simp only [Ev.ev] at e0
  obtain ⟨x,h2,_,e0⟩:=Ev.ai e0
  obtain ⟨y,h3,_,e0⟩:=Ev.ai e0
  obtain ⟨k',e2,e3,e4⟩:=jW (o:=o) (show gH o x y h3=_ from e0)
  subst e3
  simp only [Ev.truthy] at e
  cases e
  refine nX (e':=.cmp o a b) (f:=gH o) (fun fr h=>by simp only [Ev.ev,gH]) s H _ ⟨r,fr,h,.bl k,_,sr,hr,e1,fun v H1 r1 v1 hr1 f1=>?_⟩
  exact ⟨k,v1,q H1 r1 hr1 f1⟩
end
end Sm
set_option maxRecDepth 100000
namespace Sm
open PySem PySem.Spec PyProof.Rows L2
open Ev (D O Hh Fr R aR E Es Eo It T S Ss Fl Src bW bQ TY BI ME)
section
variable {G:Tb}{n:Nat}{sc:Scope}{N:List Str}{df:Bool}{m:List Nat}{a b c:E}{xa xb xc:Expr}{pos:Pos}
theorem IF (ha:JE G n sc N df m a xa):JE G n sc N df m (.neg a) (.UnaryOp .USub xa pos):=fun X g=>PE.of (Ob HW (ha X g)) fun s H Q q=>by
 obtain ⟨r,fr,h,d,h',sr,hr,e,q⟩:=q
 simp only [Ev.ev] at e
 obtain ⟨x,h1,e1,e⟩:=Ev.ai e
 split at e
 ·cases e
  exact ⟨r,fr,h,_,_,sr,hr,e1,fun v H1 r1 v1 hr1 f1=>⟨_,v1,(q.later f1).here rfl hr1⟩⟩
 ·cases e
theorem IG {op}(ha:JE G n sc N df m a xa):JE G n sc N df m a (.BoolOp op [xa] pos):=fun X g=>HC (ha X g)
theorem Ot {rest:List Expr}(ha:JE G n sc N df m a xa) (hb:JE G n sc N df m b (.BoolOp .And (xb :: rest) pos)):JE G n sc N df m (.an a b) (.BoolOp .And (xa :: xb :: rest) pos):=fun X g=>PE.of (HD (ha X g) (hb X g)) fun s H Q q=>by
 obtain ⟨r,fr,h,d,h',sr,hr,e,q⟩:=q
 simp only [Ev.ev] at e
 obtain ⟨x,h1,e1,e⟩:=Ev.ai e
 refine ⟨r,fr,h,x,h1,sr,hr,e1,fun v H1 r1 v1 hr1 f1=>?_⟩
 split at e
 ·exact ⟨true,v1,r1,fr,h1,d,h',sr.mono f1,hr1,e,q.later f1⟩
 ·cases e
  exact ⟨false,v1,(q.later f1).here rfl hr1⟩
 ·cases e
theorem II (ha:JT G n sc N df m a xa) (hb:JE G n sc N df m b xb) (hc:JE G n sc N df m c xc):JE G n sc N df m (.gT a b c) (.IfExp xa xb xc pos):=fun X g=>PE.of (z8 (ha X g) (hb X g) (hc X g)) fun s H Q q=>by
 obtain ⟨r,fr,h,d,h',sr,hr,e,q⟩:=q
 simp only [Ev.ev] at e
 obtain ⟨k,h1,e1,e⟩:=Ev.ai e
 refine ⟨r,fr,h,k,h1,sr,hr,e1,fun H1 r1 hr1 f1=>?_⟩
 cases k with
 | true=>exact ⟨r1,fr,h1,d,h',sr.mono f1,hr1,e,q.later f1⟩
 | false=>exact ⟨r1,fr,h1,d,h',sr.mono f1,hr1,e,q.later f1⟩
theorem IJ (h:JW G n sc N df m a xa):JT G n sc N df m a xa:=fun X g=>(h X g).pt
theorem IK (ha:JT G n sc N df m a xa):JW G n sc N df m a (.BoolOp .And [xa] pos):=fun X g=>EV (ha X g)
theorem Fi (ha:JT G n sc N df m a xa):JW G n sc N df m a (.BoolOp .Or [xa] pos):=fun X g=>Hz (ha X g)
theorem CW {rest:List Expr}(ha:JT G n sc N df m a xa) (hb:JW G n sc N df m b (.BoolOp .And (xb :: rest) pos)):JW G n sc N df m (.an a b) (.BoolOp .And (xa :: xb :: rest) pos):=fun X g=>PW.of (HA (ha X g) (hb X g)) fun s H Q q=>by
 obtain ⟨r,fr,h,k,h',sr,hr,e,q⟩:=q
 simp only [Ev.aK] at e
 obtain ⟨k1,h1,e1,e⟩:=Ev.ai e
 refine ⟨r,fr,h,k1,h1,sr,hr,e1,fun H1 r1 hr1 f1=>?_⟩
 cases k1 with
 | true=>exact ⟨r1,fr,h1,k,h',sr.mono f1,hr1,e,fun H2 r2 hr2 f2=>q H2 r2 hr2 (f1.trans f2)⟩
 | false=>
  have e':R.ok false h1=R.ok k h':=e
  cases e'
  exact q H1 r1 hr1 f1
theorem yi {rest:List Expr}(ha:JT G n sc N df m a xa) (hb:JW G n sc N df m b (.BoolOp .Or (xb :: rest) pos)):JW G n sc N df m (.orr a b) (.BoolOp .Or (xa :: xb :: rest) pos):=fun X g=>PW.of (NY (ha X g) (hb X g)) fun s H Q q=>by
 obtain ⟨r,fr,h,k,h',sr,hr,e,q⟩:=q
 simp only [Ev.aK] at e
 obtain ⟨k1,h1,e1,e⟩:=Ev.ai e
 refine ⟨r,fr,h,k1,h1,sr,hr,e1,fun H1 r1 hr1 f1=>?_⟩
 cases k1 with
 | false=>exact ⟨r1,fr,h1,k,h',sr.mono f1,hr1,e,fun H2 r2 hr2 f2=>q H2 r2 hr2 (f1.trans f2)⟩
 | true=>
  have e':R.ok true h1=R.ok k h':=e
  cases e'
  exact q H1 r1 hr1 f1
theorem Ou (ha:JT G n sc N df m a xa):JT G n sc N df m (.nt a) (.UnaryOp .Not xa pos):=fun X g=>PT.of (HB (ha X g)) fun s H Q q=>by
 obtain ⟨r,fr,h,k,h',sr,hr,e,q⟩:=q
 simp only [Ev.aK] at e
 obtain ⟨k1,h1,e1,e⟩:=Ev.ai e
 cases e
 exact ⟨r,fr,h,k1,_,sr,hr,e1,fun H1 r1 hr1 f1=>q H1 r1 hr1 f1⟩
theorem IL {K:PySem.W.Frag}{H:Hp}{r:List Addr}{h:Hh}{d:D}{v:V}{k:Bool}(hr:HR K H r h) (v1:RV K H r d v) (e:Ev.truthy h d=some k):Ag K v H k:=by
 cases d with
 | aY=>simp only [RV] at v1;subst v1;cases e;rfl
 | bl x=>simp only [RV] at v1;subst v1;cases e;rfl
 | int x=>simp only [RV] at v1;subst v1;cases e;rfl
 | str x=>
  simp only [RV] at v1
  obtain ⟨rfl,z⟩:=v1
  cases e
  refine ⟨by rw [cI];exact z,?_⟩
  rw [cI]
  cases x with
  | nil=>rfl
  | cons c l=>simp;omega
 | tup ds=>
  simp only [RV] at v1
  obtain ⟨p,vs,rfl,z,q⟩:=v1
  cases e
  refine .inr (.inl ⟨vs,z,?_⟩)
  have hl:=q.length
  cases ds <;> cases vs <;> simp_all
 | ref i=>
  simp only [RV] at v1
  obtain ⟨p,rfl,z⟩:=v1
  simp only [Ev.truthy,Option.map_eq_some_iff] at e
  obtain ⟨ds,e1,rfl⟩:=e
  obtain ⟨p',vs,e2,q1,q2⟩:=hr.read e1
  rw [z] at e2;cases e2
  refine .inl ⟨vs,q1,?_⟩
  have hl:=q2.length
  cases ds <;> cases vs <;> simp_all
theorem IM (ha:JE G n sc N df m a xa) (he:∀ (P:aR) fr h,Ev.aK P a fr h=(Ev.ev P a fr h).bind fun x h1=>R.of (Ev.truthy h1 x) h1:=by intros;simp only [Ev.aK])
  (hx:∀ (env:Env) whole,isTrue xa env whole=(do let v ←whole;standAt xa.pos;holding [v] (truthy v)):=by intro _ _;rfl):JT G n sc N df m a xa:=fun X g=>PT.of (Ah (ha X g) (hx _)) fun s H Q q=>by
 obtain ⟨r,fr,h,k,h',sr,hr,e,q⟩:=q
 rw [he] at e
 obtain ⟨d,h1,e1,e⟩:=Ev.ai e
 obtain ⟨e,rfl⟩:=Ev.aM e
 refine ⟨r,fr,h,d,_,sr,hr,e1,fun v H1 r1 v1 hr1 f1=>⟨k,IL hr1 v1 e,q H1 r1 hr1 f1⟩⟩
noncomputable def IP:D→D→Hh→R D:=fun x y h=>R.of (Ev.eZ x y h) h
theorem Ov (ho:∀ X,Good G n sc N df X→ur X (gU X.K IP)) (ha:JE G n sc N df m a xa) (hb:JE G n sc N df m b xb) (hs:uq xb:=by intro _ _;rfl):JE G n sc N df m (.ix a b) (.Subscript xa xb pos):=
 fun X g=>PE.of (Ol (ho X g) (ha X g) (hb X g) hs) (nX fun fr h=>by simp only [Ev.ev,IP])
theorem Ow:JO G n sc N df m .no none:=fun X g=>PO.of E6 fun s H Q q=>by
 obtain ⟨r,fr,h,o,h',sr,hr,e,q⟩:=q
 simp only [Ev.ff] at e
 cases e
 exact q H r hr .refl
theorem IQ (ha:JE G n sc N df m a xa):JO G n sc N df m (.yes a) (some xa):=fun X g=>PO.of (E7 (ha X g)) fun s H Q q=>by
 obtain ⟨r,fr,h,o,h',sr,hr,e,q⟩:=q
 simp only [Ev.ff] at e
 obtain ⟨d,h1,e1,e⟩:=Ev.ai e
 obtain ⟨e,rfl⟩:=Ev.aM e
 cases d with
 | int i=>
  cases e
  exact ⟨r,fr,h,.int i,_,sr,hr,e1,fun v H1 r1 v1 hr1 f1=>⟨i,v1,q H1 r1 hr1 f1⟩⟩
 | _=>cases e
theorem Ox {lo hi:Eo}{xl xh:Option Expr}{p2}(ho:∀ X,Good G n sc N df X→jV X (Iw X.K)) (ha:JE G n sc N df m a xa) (hl:JO G n sc N df m lo xl) (hu:JO G n sc N df m hi xh):JE G n sc N df m (.sl a lo hi) (.Subscript xa (.Slice xl xh none p2) pos):=
 fun X g=>PE.of (Ak (ho X g) (ha X g) (hl X g) (hu X g)) fun s H Q q=>by
  obtain ⟨r,fr,h,d,h',sr,hr,e,q⟩:=q
  simp only [Ev.ev] at e
  obtain ⟨x,h1,e1,e⟩:=Ev.ai e
  obtain ⟨l,h2,e2,e⟩:=Ev.ai e
  obtain ⟨u,h3,e3,e⟩:=Ev.ai e
  refine ⟨r,fr,h,x,h1,sr,hr,e1,fun v H1 r1 v1 hr1 f1=>?_⟩
  refine ⟨r1,fr,h1,l,h2,sr.mono f1,hr1,e2,fun H2 r2 hr2 f2=>?_⟩
  refine ⟨r2,fr,h2,u,h3,(sr.mono f1).mono f2,hr2,e3,fun H3 r3 nY f3=>?_⟩
  exact ⟨r3,h3,x,d,h',nY,(v1.mono f2).mono f3,e,q.later ((f1.trans f2).trans f3)⟩
theorem Fj {K:PySem.W.Frag}{P:aR}{es:Es}{f:List D→Hh→R D}{e':E}(he:∀ fr h,Ev.ev P e' fr h=(Ev.b5 P es fr h).bind f) :
  ∀ s H Q,tJ K m P e' s H Q→Ic (uw K f) (Iv K m P es) s H Q:=fun s H Q q=>by
 obtain ⟨r,fr,h,d,h',sr,hr,e,q⟩:=q
 rw [he] at e
 obtain ⟨ds,h1,e1,e⟩:=Ev.ai e
 exact ⟨r,fr,h,ds,h1,sr,hr,e1,fun vs H1 r1 v1 hr1 f1=>⟨r1,h1,ds,d,h',hr1,v1,e,q.later f1⟩⟩
theorem vQ {k:BI}{es:Es}{x:Str}{id:String}{e0:Expr}{xs:List Expr}{p:Pos}(hc:∀ X,Good G n sc N df X→gD X (.builtin id) (uw X.K (Ev.cY k))) (hs:JA G n sc N df m es (e0 :: xs)) (hb:x∈G.bl:=by decide +kernel)
  (hg:sc.names.lookup x=some .globalImplicit:=by rfl) (hv:bootBuiltins x=some (.builtin id)) (hn:x≠"__name__" :=by decide) (hd:(x==("__debug__" : Str))=false:=by decide)
  (hst:∀ env:Env,starEach (e0 :: xs) env=(false,eval e0 env) :: starEach xs env:=by intro _;rfl) (hpl:∀ env:Env,(backTo pos (starEach xs env)).any (·.1)=false:=by intro _;rfl) :
  JE G n sc N df m (.bi k es) (.Call (.Name x p) (e0 :: xs) [] pos):=
 fun X g=>PE.of (Ai (hc X g) (g.gl hg) (g.bl x hb) hv (hs X g) hn hd (hst _) (hpl _)) (Fj fun fr h=>by simp only [Ev.ev])
theorem Oz {f:Nat}{i:FI}{es:Es}{e0:Expr}{xs:List Expr}{p:Pos}(hf:G.fi[f]?=some i) (hs:JA G n sc N df m es (e0 :: xs))
  (hg:sc.names.lookup i.name=some .globalImplicit:=by rfl) (hd:(i.name==("__debug__" : Str))=false:=by decide)
  (hst:∀ env:Env,starEach (e0 :: xs) env=(false,eval e0 env) :: starEach xs env:=by intro _;rfl) (hpl:∀ env:Env,(backTo pos (starEach xs env)).any (·.1)=false:=by intro _;rfl) :
  JE G n sc N df m (.cl f es) (.Call (.Name i.name p) (e0 :: xs) [] pos):=fun X g=>by
 obtain ⟨h1,h2,h3,h4⟩:=g.fn f i hf
 refine PE.of (E3 h4 g.room (g.gl hg) h1 h2 h3 .nil Oo (hs X g) hd (hst _) (hpl _)) fun s H Q q=>?_
 obtain ⟨r,fr,h,d,h',sr,hr,e,q⟩:=q
 simp only [Ev.ev] at e
 obtain ⟨ds,h5,e1,e⟩:=Ev.ai e
 refine ⟨r,fr,h,ds,h5,sr,hr,e1,fun vs H1 r1 v1 hr1 f1=>?_⟩
 exact ⟨r1,h5,ds,d,h',by rw [List.append_nil];exact v1,hr1,e,q.later f1⟩
noncomputable def Av:ME→String
 | .join=>"str"
 | _=>"list"
theorem yj {K:PySem.W.Frag}{H:Hp}{r:List Addr}{h:Hh}{k:ME}{d:D}{v:V}{ty:String}(hr:HR K H r h) (v1:RV K H r d v) (e:Ev.mP k d h=true) (ht:ty=Av k):yc K ty v H:=by
 subst ht
 have lst:∀ i,d=.ref i→(Ev.bh h i).isSome=true→yc K "list" v H:=fun i ed es=>by
  subst ed
  obtain ⟨ds,e1⟩:=Option.isSome_iff_exists.mp es
  obtain ⟨p,vs,e2,q1,q2⟩:=hr.read e1
  simp only [RV] at v1
  obtain ⟨p',rfl,e3⟩:=v1
  rw [e2] at e3;cases e3
  exact .inl ⟨rfl,vs,q1⟩
 cases k with
 | join=>
  cases d with
  | str l=>simp only [RV] at v1;obtain ⟨rfl,_⟩:=v1;rfl
  | _=>cases e
 | append=>cases d with | ref i=>exact lst i rfl e | _=>cases e
 | extend=>cases d with | ref i=>exact lst i rfl e | _=>cases e
 | pop=>cases d with | ref i=>exact lst i rfl e | _=>cases e
 | count=>cases d with | ref i=>exact lst i rfl e | _=>cases e
 | index=>cases d with | ref i=>exact lst i rfl e | _=>cases e
theorem vR {k:ME}{es:Es}{e0:Expr}{xs:List Expr}{name:Str}{apos:Pos}{ty id:String}(pa:PlainAttrs ty) (slot:Slot ty name id) (hty:typeOf (.builtin id)=pure (.type "method_descriptor"))
  (hm:∀ X,Good G n sc N df X→qm X id (rM X.K (Ev.er k))) (ht:ty=Av k) (ha:JE G n sc N df m a xa) (hs:JA G n sc N df m es (e0 :: xs))
  (hbase:∀ env:Env,attributeBase xa name env (eval xa env)=eval xa env:=by intro _;rfl)
  (hfew:∀ env:Env,((backTo pos (starEach (e0 :: xs) env)).all (fun x=>!x.1)&&(backToKw pos (keywordEach [] env)).all (fun x=>x.1.isSome)
   &&decide ((e0 :: xs).length+([]:List Keyword).length+(if ([]:List Keyword).isEmpty then 0 else 1)<30))=true:=by intro _;rfl)
  (hline:(apos.endLine==pos.line)=true:=by rfl) (hst:∀ env:Env,starEach (e0 :: xs) env=(false,eval e0 env) :: starEach xs env:=by intro _;rfl) (hpl:∀ env:Env,(backTo pos (starEach xs env)).any (·.1)=false:=by intro _;rfl) :
  JE G n sc N df m (.me k a es) (.Call (.Attribute xa name apos) (e0 :: xs) [] pos):=fun X g=>
 PE.of (Om pa slot hty (hm X g) (ha X g) (hs X g) (hbase _) (hfew _) hline (hst _) (hpl _)) fun s H Q q=>by
  obtain ⟨r,fr,h,d,h',sr,hr,e,q⟩:=q
  simp only [Ev.ev] at e
  obtain ⟨x,h1,e1,e⟩:=Ev.ai e
  split at e
  ·rename_i hk
   obtain ⟨ds,h2,e2,e⟩:=Ev.ai e
   refine ⟨r,fr,h,x,h1,sr,hr,e1,fun v H1 r1 v1 hr1 f1=>⟨yj hr1 v1 hk ht,?_⟩⟩
   refine ⟨r1,fr,h1,ds,h2,sr.mono f1,hr1,e2,fun vs H2 r2 v2 hr2 f2=>?_⟩
   exact ⟨r2,h2,x,ds,d,h',hr2,v1.mono f2,v2,e,q.later (f1.trans f2)⟩
  ·cases e
theorem IS {k:ME}{name:Str}{apos:Pos}{ty id:String}(pa:PlainAttrs ty) (slot:Slot ty name id) (hty:typeOf (.builtin id)=pure (.type "method_descriptor"))
  (hm:∀ X,Good G n sc N df X→qm X id (rM X.K (Ev.er k))) (ht:ty=Av k) (ha:JE G n sc N df m a xa)
  (hbase:∀ env:Env,attributeBase xa name env (eval xa env)=eval xa env:=by intro _;rfl) (hline:(apos.endLine==pos.line)=true:=by rfl) :
  JE G n sc N df m (.me k a .nil) (.Call (.Attribute xa name apos) [] [] pos):=fun X g=>
 PE.of (Ij pa slot hty (hm X g) (ha X g) (hbase _) hline) fun s H Q q=>by
  obtain ⟨r,fr,h,d,h',sr,hr,e,q⟩:=q
  simp only [Ev.ev] at e
  obtain ⟨x,h1,e1,e⟩:=Ev.ai e
  split at e
  ·rename_i hk
   simp only [Ev.b5,Ev.ak] at e
   refine ⟨r,fr,h,x,h1,sr,hr,e1,fun v H1 r1 v1 hr1 f1=>⟨yj hr1 v1 hk ht,?_⟩⟩
   exact ⟨r1,h1,x,[],d,h',hr1,v1,.nil,e,q.later f1⟩
  ·cases e
end
end Sm
set_option maxRecDepth 100000
namespace Sm
open PySem PySem.Spec PyProof.Rows L2
open Ev (D O Hh Fr R aR E Es Eo T S Ss Fl Src bW bQ TY BI ME)
noncomputable def nc (K:PySem.W.Frag) (r0:List Addr) (H0:Hp) (s:Src) (J:L2.It):Prop:=∀ (i:Nat) H1 r1 h1,HR K H1 r1 h1→Fm K r0 r1 H0 H1→Ev.stays h1 s.2=true→
 (∀ d,s.1[i]?=some d→J.go i H1∧∀ x H2,J.CT i H1 x H2→∃ r2,RV K H2 r2 d x∧HR K H2 r2 h1∧Fm K r1 r2 H1 H2)∧(s.1.length≤i→J.stop i H1)
inductive Qm (K:PySem.W.Frag) (m:List Nat) (P:aR) (it:Ev.It) (s:L2.St) (H:Hp) (Rr:L2.It→Hp→Prop):Prop
 | mk (r:List Addr) (fr:Fr) (h:Hh) (src:Src) (h':Hh) (c0:SR K m H r fr s) (c1:HR K H r h) (c2:Ev.cy P it fr h=.ok src h') (c3:∀ J H' r',HR K H' r' h'→Fm K r r' H H'→nc K r' H' src J→Rr J H'):Qm K m P it s H Rr
noncomputable def JI (G:Tb) (n:Nat) (sc:Scope) (N:List Str) (df:Bool) (m:List Nat) (it:Ev.It) (tg x:Expr):Prop:=∀ X,Good G n sc N df X→PI X tg x (Qm X.K m (Ev.run G.F G.w n) it)
noncomputable def CY (z:Str):L2.It:=⟨fun i _=>i<z.length,fun i H x H'=>H'=H∧∃ c,z.cps[i]?=some c∧x=.str ⟨#[c]⟩,fun i _=>z.length≤i⟩
theorem IT {M:Model}{A:Around}{E:Value→Shared→Prop}{s:Shared}{tg:Expr}{it:Value}{x:Str}{t:Tok}{Q:Unit→Shared→Prop}(hQ:Q () s):wpAny M A (letOwnedTupleGo tg it (.str x t)) Q E s:=by
 unfold letOwnedTupleGo
 cases tg <;> first
  | exact wpAny_pure hQ
  | (cases it <;> exact wpAny_pure hQ)
theorem rP {P:Program}{w:World}{K:PySem.W.Frag}{tg:Expr}(z:Str) (t:Tok) (it:Addr) (ty:String) (hty:ty = "str_ascii_iterator" ∨ty = "str_iterator") :
  Turn P w K tg (CY z) [it] it (fun i h=>h.IsStrIter it ty z t i) where
 mem:=by simp
 obj:=fun i h st b hb=>by
  have e:b=it:=by simpa using hb
  subst e
  obtain ⟨o,e,c,d⟩:=st
  exact ⟨o,e,fun v z=>by rw [d] at z;cases z⟩
 keep:=fun i h h' st k=>by
  obtain ⟨o,e,c,d⟩:=st
  exact ⟨o,k it (by simp) o e,c,d⟩
 item:=by
  intro X hP hw hK hc i pins s σ H E I hf st hg
  subst hP hw hK
  obtain ⟨f0,f1,f2,f3,f4,f5⟩:=hf it (by simp)
  have W:Walks X.prog X.w X.A it [it] [it] z.cps.size (SignAt z) (fun i h=>h.IsStrIter it ty z t i):=by
   rcases hty with e | e
   ·subst e;exact Walks.strAscii (I.ok.hd hc) it z t
   ·subst e;exact Walks.strWide (I.ok.hd hc) it z t
  refine W.item i s _ _ hg st fun v h' tk hv st' kk=>?_
  obtain ⟨c,u,hc',rfl⟩:=hv
  have I1:Inv X pins σ H { s with heap:=h',toks:=tk }:=I.turned (fun b o hb e=>kk b o (by simpa using hb) e) f0 f1 f3 f4 f5
  exact ⟨_,rfl,IT ⟨.str ⟨#[c]⟩,H,I1,⟨u,rfl⟩,⟨rfl,c,hc',rfl⟩,st',fun b hb=>(hf b hb).1⟩⟩
 done:=by
  intro X hP hw hK hc i pins s σ H E I hf st hg
  subst hP hw hK
  obtain ⟨f0,f1,f2,f3,f4,f5⟩:=hf it (by simp)
  rcases hty with e | e
  ·subst e
   exact wpAny_pyNext_ascii_end (I.ok.hd hc) st (by simpa [Str.length,CY] using hg) fun h' eb=>⟨rfl,I.turned (t':=s.toks) (fun b o hb e=>eb b o hb e) f0 f1 f3 f4 f5⟩
  ·subst e
   exact wpAny_pyNext_wide_end (I.ok.hd hc) st (by simpa [Str.length,CY] using hg) fun h' eb=>⟨rfl,I.turned (t':=s.toks) (fun b o hb e=>eb b o hb e) f0 f1 f3 f4 f5⟩
 self:=fun _ _ _ _ _ st h=>by
  rcases hty with e | e
  ·subst e;exact wpAny_pyIter_striter_ascii st h
  ·subst e;exact wpAny_pyIter_striter_wide st h
noncomputable def CZ (K:PySem.W.Frag) (x:V) (H:Hp) (Rr:L2.It→Hp→Prop):Prop:=
 (∃ a xs,x=.ref a∧dB K H a xs∧Rr (Qg K a) H)∨(∃ a xs,x=.ref a∧dh K H a xs∧Rr (Qh K a) H)∨∃ z,x=.str z∧Rr (CY z) H
theorem IU {X:Cx}{tg l:Expr}{tl:TE}{wi:TI}(hl:PE X l tl) (hw:∀ s H Rr,wi s H Rr→tl s H fun x H1=>CZ X.K x H1 Rr):PI X tg l wi:=by
 intro pins s σ H Rr I h
 refine bG (hl pins s σ H _ I (hw _ _ _ h)) fun v s1 ⟨x,H1,I1,r1,q1⟩=>?_
 have fp:∀ (o:Obj) b,b∈[s1.heap.objs.size]→fU X pins H1 b:=fun o b hb=>by
  have e:b=s1.heap.objs.size:=by simpa using hb
  subst e
  exact I1.vA (Nat.le_refl _) (I1.hok.fresh (Nat.le_refl _))
 rcases q1 with ⟨a,xs,rfl,hq,q⟩ | ⟨a,xs,rfl,hq,q⟩ | ⟨z,rfl,q⟩
 ·cases r1
  obtain ⟨its,rv,p,hz⟩:=I1.list hq
  refine wpAny_pyIter_list p.isList ?_
  exact ⟨s1.heap.objs.size,[s1.heap.objs.size],_,_,H1,rfl,I1.kept (t':=s1.toks) fun b o e=>Heap.get?_push_of_some _ e,xV a _,⟨_,Heap.get?_push_size _ rfl,rfl,rfl⟩,fp default,q⟩
 ·cases r1
  obtain ⟨its,rv,p,hz⟩:=I1.tuple hq
  refine wpAny_pyIter_tuple (show s1.heap.IsTuple a its.toArray from p) ?_
  exact ⟨s1.heap.objs.size,[s1.heap.objs.size],_,_,H1,rfl,I1.kept (t':=s1.toks) fun b o e=>Heap.get?_push_of_some _ e,vD a _,⟨_,Heap.get?_push_size _ rfl,rfl,rfl⟩,fp default,q⟩
 ·obtain ⟨t,rfl⟩:=r1
  cases ha:z.cps.all (· < 128)
  ·refine wpAny_pyIter_wide ha ?_
   exact ⟨s1.heap.objs.size,[s1.heap.objs.size],_,_,H1,rfl,I1.kept (t':=s1.toks) fun b o e=>Heap.get?_push_of_some _ e,rP z t _ _ (.inr rfl),⟨_,Heap.get?_push_size _ rfl,rfl,rfl⟩,fp default,q⟩
  ·refine wpAny_pyIter_ascii ha ?_
   exact ⟨s1.heap.objs.size,[s1.heap.objs.size],_,_,H1,rfl,I1.kept (t':=s1.toks) fun b o e=>Heap.get?_push_of_some _ e,rP z t _ _ (.inl rfl),⟨_,Heap.get?_push_size _ rfl,rfl,rfl⟩,fp default,q⟩
theorem lu {h:Hh}{n:Nat}{ds:List D}(e:Ev.stays h [(n,ds)]=true):Ev.bh h n=some ds:=by
 simp only [Ev.stays,Bool.and_true] at e
 split at e
 ·rename_i es q
  rw [q,(Ev.qq _ _).mp e]
 ·cases e
theorem Fp {K:PySem.W.Frag}{H:Hp}{r:List Addr}{h:Hh}{d:D}{v:V}{src:Src}{Rr:L2.It→Hp→Prop}(hr:HR K H r h) (v1:RV K H r d v) (e:Ev.fN h d=some src) (q:∀ J,nc K r H src J→Rr J H):CZ K v H Rr:=by
 cases d with
 | tup ds=>
  simp only [RV] at v1
  obtain ⟨a,vs,rfl,z,w⟩:=v1
  cases e
  refine .inr (.inl ⟨a,vs,rfl,z,q _ fun i H1 r1 h1 hr1 f1 st=>⟨fun d' e'=>?_,fun hl=>?_⟩⟩)
  ·obtain ⟨u,e1,e2⟩:=w.get e'
   refine ⟨⟨vs,u,f1.tups _ _ z,e1⟩,fun x H2 y=>?_⟩
   obtain ⟨rfl,y⟩:=y
   have:=y vs (f1.tups _ _ z)
   rw [e1] at this;cases this
   exact ⟨r1,e2.mono f1,hr1,.refl⟩
  ·exact ⟨vs,f1.tups _ _ z,by rw [w.length];exact hl⟩
 | str l=>
  simp only [RV] at v1
  obtain ⟨rfl,z⟩:=v1
  cases e
  refine .inr (.inr ⟨_,rfl,q _ fun i H1 r1 h1 hr1 f1 st=>⟨fun d' e'=>?_,fun hl=>?_⟩⟩)
  ·rw [List.getElem?_map] at e'
   cases e2:l[i]? with
   | none=>rw [e2] at e';cases e'
   | some c=>
    rw [e2] at e'
    cases e'
    refine ⟨by show i<(bg l).length;rw [cI];exact (List.getElem?_eq_some_iff.mp e2).1,fun x H2 y=>?_⟩
    obtain ⟨rfl,c',y1,rfl⟩:=y
    have e3:(bg l).cps[i]?=some c:=by simp [bg,e2]
    rw [e3] at y1;cases y1
    exact ⟨r1,⟨rfl,by show 1≤sizeLine;decide⟩,hr1,.refl⟩
  ·show (bg l).length≤i
   rw [cI];simpa using hl
 | ref k=>
  simp only [RV] at v1
  obtain ⟨a,rfl,z⟩:=v1
  simp only [Ev.fN,Option.map_eq_some_iff] at e
  obtain ⟨ds,e1,rfl⟩:=e
  obtain ⟨a',vs,e2,e3,e4⟩:=hr.read e1
  rw [z] at e2;cases e2
  refine .inl ⟨a,vs,rfl,e3,q _ fun i H1 r1 h1 hr1 f1 st=>?_⟩
  obtain ⟨a',us,e5,e6,e7⟩:=hr1.read (lu st)
  rw [f1.pre _ _ z] at e5;cases e5
  refine ⟨fun d' e'=>?_,fun hl=>⟨us,e6,by rw [e7.length];exact hl⟩⟩
  obtain ⟨u,g1,g2⟩:=e7.get e'
  refine ⟨⟨us,u,e6,g1⟩,fun x H2 y=>?_⟩
  obtain ⟨rfl,y⟩:=y
  have:=y us e6
  rw [g1] at this;cases this
  exact ⟨r1,g2,hr1,.refl⟩
 | _=>cases e
section
variable {G:Tb}{n:Nat}{sc:Scope}{N:List Str}{df:Bool}{m:List Nat}{a b c:E}{xa xb xc tg:Expr}{pos:Pos}
theorem IV (ha:JE G n sc N df m a xa):JI G n sc N df m (.seq a) tg xa:=fun X g=>IU (ha X g) fun s H Rr q=>by
 obtain ⟨r,fr,h,src,h',sr,hr,e,q⟩:=q
 simp only [Ev.cy] at e
 obtain ⟨d,h1,e1,e⟩:=Ev.ai e
 obtain ⟨e,rfl⟩:=Ev.aM e
 refine ⟨r,fr,h,d,_,sr,hr,e1,fun v H1 r1 v1 hr1 f1=>?_⟩
 exact Fp hr1 v1 e fun J hJ=>q J H1 r1 hr1 f1 hJ
theorem PI.of {X:Cx}{tg l:Expr}{t t':TI}(h:PI X tg l t) (w:∀ s H Q,t' s H Q→t s H Q):PI X tg l t':=fun pins s σ H Q I q=>h pins s σ H Q I (w _ _ _ q)
theorem IW {K:PySem.W.Frag}{r:List Addr}{H:Hp}(lo:Int) (k:Nat):nc K r H (Ev.range lo k,[]) (CU lo k):=fun i H1 r1 h1 hr1 f1 st=>by
 refine ⟨fun d e=>?_,fun hl=>?_⟩
 ·simp only [Ev.range,List.getElem?_map] at e
  cases e2:(List.range k)[i]? with
  | none=>rw [e2] at e;cases e
  | some j=>
   rw [e2] at e
   cases e
   have hi:i<k:=by simpa using (List.getElem?_eq_some_iff.mp e2).1
   have hj:j=i:=by
    rw [List.getElem?_range hi] at e2
    exact (Option.some.inj e2).symm
   subst hj
   refine ⟨hi,fun x H2 y=>?_⟩
   obtain ⟨rfl,rfl⟩:=y
   exact ⟨r1,rfl,hr1,.refl⟩
 ·have:(Ev.range lo k).length=k:=by simp [Ev.range]
  show k≤i
  have hl':(Ev.range lo k).length≤i:=hl
  omega
theorem Fq {e1:E}{p:Pos}(hs:JA G n sc N df m (.cons e1 .nil) [xa]) (hg:sc.names.lookup ("range" : Str)=some .globalImplicit:=by rfl) (hb:("range" : Str)∈G.bl:=by decide +kernel)
  (hst:∀ env:Env,starEach [xa] env=[(false,eval xa env)]:=by intro _;rfl):JI G n sc N df m (.gR (.cons e1 .nil)) tg (.Call (.Name "range" p) [xa] [] pos):=fun X g=>
 PI.of (xW (g.gl hg) (g.bl _ hb) (hs X g) (hst _)) fun s H Rr q=>by
  obtain ⟨r,fr,h,src,h',sr,hr,e,q⟩:=q
  simp only [Ev.cy] at e
  obtain ⟨ds,h1,e1,e⟩:=Ev.ai e
  obtain ⟨e,rfl⟩:=Ev.aM e
  refine ⟨r,fr,h,ds,_,sr,hr,e1,fun vs H1 r1 v1 hr1 f1=>?_⟩
  unfold Ev.eU at e
  split at e
  ·rename_i j
   split at e
   ·rename_i hj
    cases e
    simp only [aG,RV] at v1
    obtain ⟨v,w,rfl,rfl,rfl⟩:=v1
    exact ⟨_,rfl,hj.1,hj.2,q _ H1 r1 hr1 f1 (IW 0 _)⟩
   ·cases e
  ·exfalso
   simp only [Ev.b5] at e1
   obtain ⟨d,_,_,e1⟩:=Ev.ai e1
   simp only [Ev.ak] at e1
   cases e1
  ·cases e
inductive gJ (K:PySem.W.Frag) (m:List Nat) (t:T) (v:V) (s:L2.St) (H:Hp) (Q:L2.St→Hp→Prop):Prop
 | mk (r:List Addr) (fr:Fr) (h:Hh) (d:D) (aj:Fr) (c0:SR K m H r fr s) (c1:HR K H r h) (c2:RV K H r d v) (c3:Ev.b7 t d fr=some aj) (c4:∀ s',SR K m H r aj s'→Q s' H):gJ K m t v s H Q
noncomputable def JG (G:Tb) (n:Nat) (sc:Scope) (N:List Str) (df:Bool) (m:List Nat) (t:T) (x:Expr):Prop:=∀ X,Good G n sc N df X→PG X x (gJ X.K m t)
theorem PG.of {X:Cx}{e:Expr}{t t':TG}(h:PG X e t) (w:∀ v s H Q,t' v s H Q→t v s H Q):PG X e t':=fun pins s σ H v u Q I r q=>h pins s σ H v u Q I r (w _ _ _ _ q)
theorem SR.set {K:PySem.W.Frag}{m:List Nat}{H:Hp}{r:List Addr}{fr:Fr}{s:L2.St}(sr:SR K m H r fr s) (hm:m.Nodup) {j i:Nat}(hj:m[j]?=some i) {d:D}{v:V}(v1:RV K H r d v):SR K m H r (fr.set i (some d)) (s.set j (some v)):=by
 refine ⟨by simp [sr.len],fun j' i' d' e1 e2=>?_⟩
 by_cases hi:i'=i
 ·subst hi
  have:j'=j:=yk hm e1 hj
  subst this
  have hlt:i'<fr.length:=by
   have:=(List.getElem?_eq_some_iff.mp e2).1
   simpa using this
  rw [List.getElem?_set_self hlt] at e2
  cases e2
  refine ⟨v,List.getElem?_set_self ?_,v1⟩
  rw [sr.len]
  exact (List.getElem?_eq_some_iff.mp hj).1
 ·rw [List.getElem?_set_ne (fun z=>hi z.symm)] at e2
  obtain ⟨u,q1,q2⟩:=sr.sl j' i' d' e1 e2
  refine ⟨u,?_,q2⟩
  rw [List.getElem?_set_ne]
  ·exact q1
  ·intro z
   subst z
   rw [hj] at e1;cases e1
   exact hi rfl
where
 yk {l:List Nat} (hl:l.Nodup) {i j:Nat} {x:Nat} (a:l[i]?=some x) (b:l[j]?=some x):i=j:=by
  have ha:=(List.getElem?_eq_some_iff.mp a)
  have hb:=(List.getElem?_eq_some_iff.mp b)
  obtain ⟨h1,e1⟩:=ha
  obtain ⟨h2,e2⟩:=hb
  exact (List.getElem_inj hl).mp (e1.trans e2.symm)
theorem Good.loc {X:Cx}(g:Good G n sc N df X) {x:Str}(h:sc.names.lookup x=some .local∨(df=true∧sc.names.lookup x=some .cell)):Loc X.env.scope x∧(X.fn x=true∨X.env.scope.names.lookup x=some .local):=by
 rw [show Loc X.env.scope x↔Loc sc x by rw [g.sc],g.sc]
 rcases h with h | ⟨h1,h⟩
 ·exact ⟨.inl h,.inr h⟩
 ·exact ⟨.inr h,.inl (g.own h1 x)⟩
theorem IX (j i:Nat) {x:Str}(hm:m.Nodup) (hN:N.Nodup) (hj:m[j]?=some i:=by rfl) (qs:N[j]?=some x:=by rfl)
  (hl:sc.names.lookup x=some .local∨(df=true∧sc.names.lookup x=some .cell):=by first | exact Or.inl rfl | exact Or.inr ⟨rfl,rfl⟩):JG G n sc N df m (.one i) (.Name x pos):=fun X g=>by
 obtain ⟨h1,h2⟩:=g.loc hl
 refine PG.of (ug (i:=j) (by rw [g.nm];exact hN) (by rw [g.nm];exact qs) h1 h2) fun v s H Q q=>?_
 obtain ⟨r,fr,h,d,aj,sr,hr,v1,e,q⟩:=q
 cases e
 exact q _ (sr.set hm hj v1)
inductive Qn (K:PySem.W.Frag) (m:List Nat) (l:List Nat) (vs:List V) (s:L2.St) (H:Hp) (Q:L2.St→Hp→Prop):Prop
 | mk (r:List Addr) (fr:Fr) (h:Hh) (ds:List D) (aj:Fr) (c0:SR K m H r fr s) (c1:HR K H r h) (c2:aG K H r ds vs) (c3:Ev.cF l ds fr=some aj) (c4:∀ s',SR K m H r aj s'→Q s' H):Qn K m l vs s H Q
noncomputable def qt (G:Tb) (n:Nat) (sc:Scope) (N:List Str) (df:Bool) (m:List Nat) (l:List Nat) (xs:List Expr):Prop:=∀ X,Good G n sc N df X→mK X xs (Qn X.K m l)
theorem mK.of {X:Cx}{e:List Expr}{t t':qg}(h:mK X e t) (w:∀ v s H Q,t' v s H Q→t v s H Q):mK X e t':=fun pins s σ H v u Q I r q=>h pins s σ H v u Q I r (w _ _ _ _ q)
theorem Ft:qt G n sc N df m [] []:=fun X g=>mK.of EY fun vs s H Q q=>by
 obtain ⟨r,fr,h,ds,aj,sr,hr,v1,e,q⟩:=q
 cases ds with
 | nil=>simp only [aG] at v1;subst v1;cases e;exact ⟨rfl,q _ sr⟩
 | cons _ _=>cases e
theorem Aw (j i:Nat) {x:Str}{l:List Nat}{xs:List Expr}(hm:m.Nodup) (hN:N.Nodup) (hs:qt G n sc N df m l xs) (hj:m[j]?=some i:=by rfl) (qs:N[j]?=some x:=by rfl)
  (hl:sc.names.lookup x=some .local∨(df=true∧sc.names.lookup x=some .cell):=by first | exact Or.inl rfl | exact Or.inr ⟨rfl,rfl⟩)
  (hst:∀ env:Env,(assignEach (.Name x pos :: xs) env).map (·.2)=assign (.Name x pos) env :: (assignEach xs env).map (·.2):=by intro _;rfl):qt G n sc N df m (i :: l) (.Name x pos :: xs):=fun X g=>by
 obtain ⟨h1,h2⟩:=g.loc hl
 refine mK.of (Ab (ug (i:=j) (by rw [g.nm];exact hN) (by rw [g.nm];exact qs) h1 h2) (hs X g) (hst _)) fun vs s H Q q=>?_
 obtain ⟨r,fr,h,ds,aj,sr,hr,v1,e,q⟩:=q
 cases ds with
 | nil=>cases e
 | cons d ds=>
  simp only [aG] at v1
  obtain ⟨v,w,rfl,v2,v3⟩:=v1
  exact ⟨v,w,rfl,r,_,h,ds,aj,sr.set hm hj v2,hr,v3,e,q⟩
theorem Fv {l:List Nat}{xs:List Expr}{k:Nat}(hs:qt G n sc N df m l xs) (hn:∀ env:Env,(assignEach xs env).length=l.length:=by intro _;rfl) (hst:∀ env:Env,(assignEach xs env).findIdx? (·.1)=none:=by intro _;rfl) :
  JG G n sc N df m (.many l) (.Tuple xs k pos):=fun X g=>PG.of (HG (n:=l.length) g.calm (hs X g) (hn _) (hst _)) fun v s H Q q=>by
 obtain ⟨r,fr,h,d,aj,sr,hr,v1,e,q⟩:=q
 cases d with
 | tup ds=>
  simp only [RV] at v1
  obtain ⟨p,vs,rfl,z,w⟩:=v1
  have hlen:∀ (l:List Nat) (ds:List D) fr aj,Ev.cF l ds fr=some aj→ds.length=l.length:=by
   intro l
   induction l with
   | nil=>intro ds fr aj e;cases ds with | nil=>rfl | cons _ _=>cases e
   | cons i l ih=>intro ds fr aj e;cases ds with | nil=>cases e | cons d ds=>simp [ih ds _ _ e]
  exact ⟨p,vs,rfl,z,by rw [w.length];exact hlen _ _ _ _ e,r,fr,h,ds,aj,sr,hr,w,e,q⟩
 | _=>cases e
end
end Sm
set_option maxRecDepth 100000
namespace Sm
open PySem PySem.Spec PyProof.Rows L2
open Ev (D O Hh Fr R aR E Es Eo T S Ss Fl Src bW bQ TY BI ME)
noncomputable def Fin (K:PySem.W.Frag) (m:List Nat) (r:List Addr) (H:Hp) (h':Hh) (fl:Fl) (aj:Fr) (Q:Ends):Prop:=match fl with
 | .nx=>∀ s' H' r',SR K m H' r' aj s'→HR K H' r' h'→Fm K r r' H H'→Q.nx s' H'
 | .bk=>∀ s' H' r',SR K m H' r' aj s'→HR K H' r' h'→Fm K r r' H H'→Q.bk s' H'
 | .ct=>∀ s' H' r',SR K m H' r' aj s'→HR K H' r' h'→Fm K r r' H H'→Q.ct s' H'
 | .ret d=>Res K r H h' d Q.rt
theorem Fin.later {K:PySem.W.Frag}{m:List Nat}{r r':List Addr}{H H':Hp}{h':Hh}{fl:Fl}{aj:Fr}{Q:Ends}(q:Fin K m r H h' fl aj Q) (f:Fm K r r' H H'):Fin K m r' H' h' fl aj Q:=by
 cases fl with
 | nx=>exact fun s2 H2 r2 a b g=>q s2 H2 r2 a b (f.trans g)
 | bk=>exact fun s2 H2 r2 a b g=>q s2 H2 r2 a b (f.trans g)
 | ct=>exact fun s2 H2 r2 a b g=>q s2 H2 r2 a b (f.trans g)
 | ret d=>exact Res.later q f
inductive Qo (K:PySem.W.Frag) (m:List Nat) (P:aR) (w:Nat) (st:S) (Q:Ends) (s:L2.St) (H:Hp):Prop
 | mk (r:List Addr) (fr:Fr) (h:Hh) (fl:Fl) (aj:Fr) (h':Hh) (c0:SR K m H r fr s) (c1:HR K H r h) (c2:Ev.ex P w st fr h=.ok (fl,aj) h') (c3:Fin K m r H h' fl aj Q):Qo K m P w st Q s H
inductive Ax (K:PySem.W.Frag) (m:List Nat) (P:aR) (w:Nat) (ss:Ss) (Q:Ends) (s:L2.St) (H:Hp):Prop
 | mk (r:List Addr) (fr:Fr) (h:Hh) (fl:Fl) (aj:Fr) (h':Hh) (c0:SR K m H r fr s) (c1:HR K H r h) (c2:Ev.exs P w ss fr h=.ok (fl,aj) h') (c3:Fin K m r H h' fl aj Q):Ax K m P w ss Q s H
theorem PS.of {X:Cx}{st:Stmt}{t t':TS}(h:PS X st t) (w:∀ Q s H,t' Q s H→t Q s H):PS X st t':=fun pins s σ H Q I q=>h pins s σ H Q I (w _ _ _ q)
theorem gS.of {X:Cx}{st:List Stmt}{t t':TS}(h:gS X st t) (w:∀ Q s H,t' Q s H→t Q s H):gS X st t':=fun pins s σ H Q I q=>h pins s σ H Q I (w _ _ _ q)
section
variable (G:Tb)(n:Nat)(sc:Scope)(N:List Str)(df:Bool)(m:List Nat)
noncomputable def JS (st:S) (x:Stmt):Prop:=∀ X,Good G n sc N df X→PS X x (Qo X.K m (Ev.run G.F G.w n) G.w st)
noncomputable def kM (ss:Ss) (xs:List Stmt):Prop:=∀ X,Good G n sc N df X→gS X xs (Ax X.K m (Ev.run G.F G.w n) G.w ss)
end
section
variable {G:Tb}{n:Nat}{sc:Scope}{N:List Str}{df:Bool}{m:List Nat}{a b c:E}{xa xb xc tg:Expr}{pos:Pos}
theorem Fw:kM G n sc N df m .nil []:=fun X g=>gS.of EW fun Q s H q=>by
 obtain ⟨r,fr,h,fl,aj,h',sr,hr,e,q⟩:=q
 simp only [Ev.exs] at e
 cases e
 exact q s H r sr hr .refl
theorem Ay {st:S}{ss:Ss}{x:Stmt}{xs:List Stmt}(h1:JS G n sc N df m st x) (h2:kM G n sc N df m ss xs):kM G n sc N df m (.cons st ss) (x :: xs):=fun X g=>gS.of (z9 (h1 X g) (h2 X g)) fun Q s H q=>by
 obtain ⟨r,fr,h,fl,aj,h',sr,hr,e,q⟩:=q
 simp only [Ev.exs] at e
 obtain ⟨⟨gp,af⟩,h1,e1,e⟩:=Ev.ai e
 refine ⟨r,fr,h,gp,af,h1,sr,hr,e1,?_⟩
 cases gp with
 | nx=>exact fun s1 H1 r1 yl hr1 f1=>⟨r1,af,h1,fl,aj,h',yl,hr1,e,q.later f1⟩
 | bk=>cases e;exact q
 | ct=>cases e;exact q
 | ret d=>cases e;exact q
theorem IY (j i:Nat) {x:Str}{pos':Pos}(hm:m.Nodup) (hN:N.Nodup) (ha:JE G n sc N df m a xa) (hs:∀ env:Env,swapsWith xa (some (.Name x pos')) pos.line env=pure false:=by intro _;rfl) (hj:m[j]?=some i:=by rfl) (qs:N[j]?=some x:=by rfl)
  (hl:sc.names.lookup x=some .local∨(df=true∧sc.names.lookup x=some .cell):=by first | exact Or.inl rfl | exact Or.inr ⟨rfl,rfl⟩):JS G n sc N df m (.set i a) (.Assign [.Name x pos'] xa pos):=fun X g=>by
 obtain ⟨h1,h2⟩:=g.loc hl
 refine PS.of (xU (i:=j) (by rw [g.nm];exact hN) (by rw [g.nm];exact qs) h1 (ha X g) (hs _) h2) fun Q s H q=>?_
 obtain ⟨r,fr,h,fl,aj,h',sr,hr,e,q⟩:=q
 simp only [Ev.ex] at e
 obtain ⟨d,h1,e1,e⟩:=Ev.ai e
 cases e
 exact ⟨r,fr,h,d,_,sr,hr,e1,fun v H1 r1 v1 hr1 f1=>q _ H1 r1 ((sr.mono f1).set hm hj v1) hr1 f1⟩
theorem IZ (ha:JE G n sc N df m a xa) (hs:∀ env:Env,swapsWith xa none pos.line env=pure false:=by intro _;rfl):JS G n sc N df m (.exp a) (.Expr xa pos):=fun X g=>PS.of (EX (ha X g) (hs _)) fun Q s H q=>by
 obtain ⟨r,fr,h,fl,aj,h',sr,hr,e,q⟩:=q
 simp only [Ev.ex] at e
 obtain ⟨d,h1,e1,e⟩:=Ev.ai e
 cases e
 exact ⟨r,fr,h,d,_,sr,hr,e1,fun v H1 r1 v1 hr1 f1=>q s H1 r1 (sr.mono f1) hr1 f1⟩
theorem Ja (ha:JE G n sc N df m a xa):JS G n sc N df m (.ret a) (.Return (some xa) pos):=fun X g=>PS.of (HE (ha X g)) fun Q s H q=>by
 obtain ⟨r,fr,h,fl,aj,h',sr,hr,e,q⟩:=q
 simp only [Ev.ex] at e
 obtain ⟨d,h1,e1,e⟩:=Ev.ai e
 cases e
 exact ⟨r,fr,h,d,_,sr,hr,e1,q⟩
theorem Jb:JS G n sc N df m .cnt (.Continue pos):=fun X g=>PS.of tW fun Q s H q=>by
 obtain ⟨r,fr,h,fl,aj,h',sr,hr,e,q⟩:=q
 simp only [Ev.ex] at e
 cases e
 exact q s H r sr hr .refl
theorem Jc {ta tb:Ss}{ya yb:List Stmt}(hc:JT G n sc N df m a xa) (h1:kM G n sc N df m ta ya) (h2:kM G n sc N df m tb yb):JS G n sc N df m (.iff a ta tb) (.If xa ya yb pos):=fun X g=>PS.of (N7 (hc X g) (h1 X g) (h2 X g)) fun Q s H q=>by
 obtain ⟨r,fr,h,fl,aj,h',sr,hr,e,q⟩:=q
 simp only [Ev.ex] at e
 obtain ⟨k,h3,e1,e⟩:=Ev.ai e
 refine ⟨r,fr,h,k,h3,sr,hr,e1,fun H1 r1 hr1 f1=>?_⟩
 cases k with
 | true=>exact ⟨r1,fr,h3,fl,aj,h',sr.mono f1,hr1,e,q.later f1⟩
 | false=>exact ⟨r1,fr,h3,fl,aj,h',sr.mono f1,hr1,e,q.later f1⟩
theorem Good.pass {X:Cx}(g:Good G n sc N df X):PassesOwn (model X.prog X.w) X.A X.env X.xe:=by
 rw [g.xe];exact PassesOwn.never
noncomputable def FN (K:PySem.W.Frag) (m:List Nat) (gp:Fl) (iI:Fr) (h4:Hh) (r1:List Addr) (H1:Hp) (s5:L2.St) (H5:Hp):Prop:=(gp=.nx∨gp=.ct)∧∃ r5,SR K m H5 r5 iI s5∧HR K H5 r5 h4∧Fm K r1 r5 H1 H5
section
variable {K:PySem.W.Frag}{r r1 r2:List Addr}{H H1 H2:Hp}{h4 h':Hh}{fl gp:Fl}{iI aj:Fr}{Q:Ends}
noncomputable def vS (L:R (Fl×Fr)) (p:Fl×Fr) (h1:Hh):R (Fl×Fr):=match p.1 with
 | .nx=>L
 | .ct=>L
 | .bk=>.ok (.nx,p.2) h1
 | .ret x=>.ok (.ret x,p.2) h1
theorem uy {L:R (Fl×Fr)}(e:vS L (gp,iI) h4=.ok (fl,aj) h') (z:gp=.nx∨gp=.ct):L=.ok (fl,aj) h':=by rcases z with rfl | rfl <;> exact e
theorem rQ {L:R (Fl×Fr)}(e:vS L (gp,iI) h4=.ok (fl,aj) h') (q:Fin K m r H h' fl aj Q) (f:Fm K r r1 H H1) (f2:Fm K r1 r2 H1 H2):Fin K m r2 H2 h4 gp iI { Q with nx:=FN K m gp iI h4 r1 H1,ct:=FN K m gp iI h4 r1 H1,bk:=Q.nx }:=by
 cases gp with
 | nx=>exact fun s6 H6 r6 ym yo f6=>⟨.inl rfl,r6,ym,yo,f2.trans f6⟩
 | ct=>exact fun s6 H6 r6 ym yo f6=>⟨.inr rfl,r6,ym,yo,f2.trans f6⟩
 | bk=>
  cases e
  exact fun s6 H6 r6 ym yo f6=>q s6 H6 r6 ym yo ((f.trans f2).trans f6)
 | ret d=>
  cases e
  exact Res.later q (f.trans f2)
noncomputable def rR (P:aR) (w:Nat) (t:T) (tb:Ss):D→Fr→Hh→R (Fl×Fr):=fun d au h2=>match Ev.b7 t d au with
 | some cB=>Ev.exs P w tb cB h2
 | none=>.bad
theorem rS (P:aR) (w:Nat) (t:T) (it:Ev.It) (tb:Ss) (fr:Fr) (h:Hh):Ev.ex P w (.for t it tb) fr h=(Ev.cy P it fr h).bind fun s h1=>Ev.forL (rR P w t tb) s.2 s.1 fr h1:=by simp only [Ev.ex];rfl
theorem qu (f:D→Fr→Hh→R (Fl×Fr)) (ck:List (Nat×List D)) (d:D) (ds:List D) (fr:Fr) (h:Hh):Ev.forL f ck (d :: ds) fr h=if Ev.stays h ck then (f d fr h).bind fun p h1=>vS (Ev.forL f ck ds p.2 h1) p h1 else .bad:=rfl
noncomputable def FW (K:PySem.W.Frag) (m:List Nat) (f:D→Fr→Hh→R (Fl×Fr)) (src:Src) (r1:List Addr) (H1:Hp) (o:Fl×Fr) (h':Hh) (i k:Nat) (s3:L2.St) (H3:Hp):Prop:=
 k=src.1.length - i∧i≤src.1.length∧∃ r3 cB h3,SR K m H3 r3 cB s3∧HR K H3 r3 h3∧Fm K r1 r3 H1 H3∧Ev.forL f src.2 (src.1.drop i) cB h3=.ok o h'
theorem Az {P:aR}{w:Nat}{t:T}{tb:Ss}{src:Src}{J:L2.It}{i k:Nat}{s3:L2.St}{H3:Hp}(hJ:nc K r1 H1 src J) (q:Fin K m r H h' fl aj Q) (f1:Fm K r r1 H H1) (hW:FW K m (rR P w t tb) src r1 H1 (fl,aj) h' i k s3 H3) :
  (J.stop i H3∧Q.nx s3 H3)∨(J.go i H3∧∃ N:L2.St→Hp→Prop,(∀ σ' H',N σ' H'→∃ m',m'<k∧FW K m (rR P w t tb) src r1 H1 (fl,aj) h' (i+1) m' σ' H')∧∀ x H',J.CT i H3 x H'→gJ K m t x s3 H' fun σ2 H2=>Ax K m P w tb { Q with nx:=N,ct:=N,bk:=Q.nx } σ2 H2):=by
 obtain ⟨rfl,hle,r3,cB,h3,uz,nY,f3,e3⟩:=hW
 rcases Nat.lt_or_ge i src.1.length with hlt | hge
 ·rw [List.drop_eq_getElem_cons hlt,qu] at e3
  split at e3
  ·rename_i hst
   obtain ⟨g1,g2⟩:=(hJ i H3 r3 h3 nY f3 hst).1 src.1[i] (List.getElem?_eq_getElem hlt)
   obtain ⟨⟨gp,iI⟩,h4,e4,e3⟩:=Ev.ai e3
   unfold rR at e4
   split at e4
   ·rename_i qh e5
    exact .inr ⟨g1,FN K m gp iI h4 r1 H1,fun s5 H5 ⟨hfl,r5,yp,qv,f5⟩=>⟨_,Nat.sub_lt_sub_left hlt (Nat.lt_succ_self i),rfl,hlt,r5,iI,h4,yp,qv,f5,uy e3 hfl⟩,fun x H4 y=>
     let ⟨r4,v4,Qp,f4⟩:=g2 x H4 y
     ⟨r4,cB,h3,_,qh,uz.mono f4,Qp,v4,e5,fun s5 yp=>⟨r4,qh,h3,gp,iI,h4,yp,Qp,e4,rQ e3 q f1 (f3.trans f4)⟩⟩⟩
   ·cases e4
  ·cases e3
 ·have hi:i=src.1.length:=Nat.le_antisymm hle hge
  subst hi
  rw [List.drop_length] at e3
  unfold Ev.forL at e3
  split at e3
  ·rename_i hst
   cases e3
   exact .inl ⟨(hJ _ H3 r3 _ nY f3 hst).2 (Nat.le_refl _),q s3 H3 r3 uz nY (f1.trans f3)⟩
  ·cases e3
end
theorem yq (t:Fr→Hh→R Bool) (f:Fr→Hh→R (Fl×Fr)) (n:Nat) (fr:Fr) (h:Hh):Ev.dN t f (n+1) fr h=(t fr h).bind fun b h1=>if b then (f fr h1).bind fun p h2=>vS (Ev.dN t f n p.2 h2) p h2 else .ok (.nx,fr) h1:=rfl
noncomputable def WW (K:PySem.W.Frag) (m:List Nat) (P:aR) (w:Nat) (a:E) (tb:Ss) (r:List Addr) (H:Hp) (o:Fl×Fr) (h':Hh) (k:Nat) (s1:L2.St) (H1:Hp):Prop:=
 ∃ r1 af h1,SR K m H1 r1 af s1∧HR K H1 r1 h1∧Fm K r r1 H H1∧Ev.dN (fun au h2=>Ev.aK P a au h2) (fun au h2=>Ev.exs P w tb au h2) k af h1=.ok o h'
theorem Jd {tb:Ss}{yb:List Stmt}(hc:JT G n sc N df m a xa) (h1:kM G n sc N df m tb yb):JS G n sc N df m (.nW a tb) (.While xa yb [] pos):=fun X g=>PS.of (Ac g.pass (hc X g) (h1 X g)) fun Q s H q=>by
 obtain ⟨r,fr,h,fl,aj,h',sr,hr,e,q⟩:=q
 simp only [Ev.ex] at e
 refine ⟨WW X.K m (Ev.run G.F G.w n) G.w a tb r H (fl,aj) h',⟨_,r,fr,h,sr,hr,.refl,e⟩,fun k s1 H1 hW=>?_⟩
 obtain ⟨r1,af,h1,yl,hr1,f1,e1⟩:=hW
 cases k with
 | zero=>cases e1
 | succ k=>
  rw [yq] at e1
  obtain ⟨bb,h2,e2,e1⟩:=Ev.ai e1
  refine ⟨r1,af,h1,bb,h2,yl,hr1,e2,fun H2 r2 hr2 f2=>?_⟩
  cases bb with
  | false=>
   cases e1
   exact q s1 H2 r2 (yl.mono f2) hr2 (f1.trans f2)
  | true=>
   rw [if_pos rfl] at e1
   obtain ⟨⟨gp,au⟩,h3,e3,e1⟩:=Ev.ai e1
   exact ⟨FN X.K m gp au h3 r H,fun s3 H3 ⟨hfl,r3,uz,nY,f3⟩=>⟨k,Nat.lt_succ_self k,r3,au,h3,uz,nY,f3,uy e1 hfl⟩,r2,af,h2,gp,au,h3,yl.mono f2,hr2,e3,rQ e1 q .refl (f1.trans f2)⟩
theorem Je {t:T}{it:Ev.It}{tb:Ss}{yb:List Stmt}(hi:JI G n sc N df m it tg xa) (hg:JG G n sc N df m t tg) (h1:kM G n sc N df m tb yb) (hs:∀ (env:Env) x,foldedSetIterable xa env x=pure x:=by intro _ _;rfl) :
  JS G n sc N df m (.for t it tb) (.For tg xa yb [] pos):=fun X g=>PS.of (HJ g.pass g.calm (hi X g) (hg X g) (h1 X g) (hs _)) fun Q s H q=>by
 obtain ⟨r,fr,h,fl,aj,h',sr,hr,e,q⟩:=q
 rw [rS] at e
 obtain ⟨src,h2,e1,e⟩:=Ev.ai e
 exact ⟨r,fr,h,src,h2,sr,hr,e1,fun J H1 r1 hr1 f1 hJ=>⟨FW X.K m (rR (Ev.run G.F G.w n) G.w t tb) src r1 H1 (fl,aj) h',⟨src.1.length,rfl,Nat.zero_le _,r1,fr,h2,sr.mono f1,hr1,.refl,by rw [List.drop_zero];exact e⟩,fun i k s3 H3 hW=>Az hJ q f1 hW⟩⟩
end
theorem getElem?_range' {k j i:Nat}(h:(List.range k)[j]?=some i):i=j:=by
 obtain ⟨h1,h2⟩:=List.getElem?_eq_some_iff.mp h
 simpa using h2.symm
theorem AA {K:PySem.W.Frag}{H:Hp}{r:List Addr}{ds:List D}{vs:List V}{N:List Str}{fn:Ev.Fn}(v1:aG K H r ds vs) (hN:vs.length≤N.length):SR K (List.range N.length) H r (Ev.d7 fn ds) (L2.start N vs):=by
 refine ⟨by unfold L2.start;simp;omega,fun j i d e1 e2=>?_⟩
 have e3:=getElem?_range' e1
 subst e3
 unfold Ev.d7 at e2
 by_cases hj:i<ds.length
 ·rw [List.getElem?_append_left (by simpa using hj),List.getElem?_map] at e2
  cases e4:ds[i]? with
  | none=>rw [e4] at e2;cases e2
  | some d'=>
   rw [e4] at e2
   cases e2
   obtain ⟨v,q1,q2⟩:=v1.get e4
   refine ⟨v,?_,q2⟩
   unfold L2.start
   rw [List.getElem?_append_left (by have:=v1.length;simpa using (by omega:i<vs.length)),List.getElem?_map,q1]
   rfl
 ·rw [List.getElem?_append_right (by simpa using Nat.not_lt.mp hj),List.getElem?_replicate] at e2
  split at e2 <;> cases e2
section
variable {P:Program}{w:World}{K:PySem.W.Frag}{mg:Str→Option Value}{base:Heap}{G:Tb}
noncomputable def qQ (P:Program) (w:World) (K:PySem.W.Frag) (mg:Str→Option Value) (base:Heap) (G:Tb) (n:Nat):Prop:=∀ (f:Nat) i,G.fi[f]?=some i→gX P w K mg base kW n i.addr i.fd i.ps (mQ K G.F G.w n f)
structure Top (P:Program) (w:World) (K:PySem.W.Frag) (mg:Str→Option Value) (G:Tb):Prop where
 fn:∀ (f:Nat) i,G.fi[f]?=some i→mg i.name=some (.ref i.addr)∧PySem.W.keepIn K (.ref i.addr)=true∧Binds K i.fd i.ps []
 bl:∀ x∈G.bl,mg x=none
 cs:∀ x d,(x,d)∈G.cs→∃ v u,mg x=some u∧RelV v u∧rN d v
 dk:∀ x kvs,(x,kvs)∈G.dk→∃ a,mg x=some (.ref a)∧∀ h:Heap,K.In h→StrTab P w h a (tabOf kvs)
theorem Fx {f:Addr}{fd:FuncData}{ps:List Str}{k:Nat}:gX P w K mg base kW 0 f fd ps (mQ K G.F G.w 0 k):=by
 have no:∀ vs H Q E,¬ mQ K G.F G.w 0 k vs H Q E:=fun vs H Q E h=>by
  obtain ⟨r,h,ds,d,h',_,_,e,_⟩:=h
  cases e
 exact ⟨fun vs H Q E h=>absurd h (no vs H Q E),fun A outer s H args us vs Q E _ _ _ _ h=>absurd h (no vs H Q E)⟩
theorem cH {x qual:Str}{st:Stmt}{i:FI}{N:List Str}{n f:Nat}{fn:Ev.Fn}(T:Top P w K mg G) (A0:qQ P w K mg base G n) (F:rL K x qual st i.addr i.fd) (S:bz N i.ps (ao st)) (hf:G.F[f]?=some fn) (hp:i.ps.length=fn.np)
  (hb:kM G n (ao st) N true (List.range N.length) fn.body (aB st)):gX P w K mg base kW (n+1) i.addr i.fd i.ps (mQ K G.F G.w (n+1) f):=by
 have hlen:∀ vs H Q E,mQ K G.F G.w (n+1) f vs H Q E→vs.length=i.ps.length:=fun vs H Q E h=>by
  obtain ⟨r,h,ds,d,h',v1,_,e,_⟩:=h
  simp only [Ev.run,hf] at e
  split at e
  ·rename_i z
   rw [v1.length,z,hp]
  ·cases e
 refine F.ok S hlen fun cdv A outer s H vs Q E hr jU=>?_
 have hl:=hlen vs H Q E jU
 have hN:vs.length≤N.length:=by
  have:=congrArg List.length S.pre
  rw [List.length_take] at this
  omega
 have g:Good G n (ao st) N true (m7 kW P w K mg base N qual (ao st) i.addr cdv A outer s H E).qf:=
  ⟨rfl,rfl,rfl,fun _ _=>rfl,hr,rfl,fun f i hi=>⟨(T.fn f i hi).1,(T.fn f i hi).2.1,(T.fn f i hi).2.2,A0 f i hi⟩,T.bl,T.cs,T.dk⟩
 refine ⟨_,hb _ g,?_⟩
 obtain ⟨r,h,ds,d,h',v1,hr1,e,q⟩:=jU
 simp only [Ev.run,hf] at e
 split at e
 ·unfold Ev.endOf at e
  obtain ⟨⟨fl,aj⟩,h2,e1,e⟩:=Ev.ai e
  refine ⟨r,Ev.d7 fn ds,h,fl,aj,h2,AA v1 hN,hr1,e1,?_⟩
  cases fl with
  | nx=>
   cases e
   exact fun s' H' r' _ hr' f'=>q _ H' r' rfl hr' f'
  | ret d'=>
   cases e
   exact q
  | bk=>cases e
  | ct=>cases e
 ·cases e
end
end Sm
set_option maxRecDepth 100000
namespace Sm
open PySem PySem.Spec PyProof.Rows L2
open Ev (D O Hh Fr R aR E Es Eo T S Ss Fl Src bW bQ TY BI ME)
theorem pJ (env:Env):∀ (names:List (Str×NameKind)) (acc:List (Str×Addr)),(∀ x,(x,NameKind.free)∈names→∃ c,env.cells.lookup x=some c)→(∀ x c,acc.lookup x=some c→env.cells.lookup x=some c)→
  ∃ cl,(forIn names acc (fun (x:Str×NameKind) cs=>if (x.2==NameKind.free)=true then (do let c ←cellOf env x.1;pure (ForInStep.yield ((x.1,c) :: cs))) else pure (ForInStep.yield cs)):Sem (List (Str×Addr)))=pure cl∧
   (∀ x c,cl.lookup x=some c→env.cells.lookup x=some c)∧(∀ x,(x,NameKind.free)∈names→(cl.lookup x).isSome=true)∧(∀ x,(acc.lookup x).isSome=true→(cl.lookup x).isSome=true)
 | [],acc,_,h2=>⟨acc,rfl,h2,(fun x h=>by simp at h),fun _ h=>h⟩
 | (y,k) :: r,acc,h1,h2=>by
  by_cases hk:k=.free
  ·subst hk
   obtain ⟨c,hc⟩:=h1 y (List.mem_cons_self ..)
   have h2':∀ x c',((y,c) :: acc).lookup x=some c'→env.cells.lookup x=some c':=fun x c' e=>by
    rw [List.lookup_cons] at e
    split at e
    ·rename_i hx
     have hx':x=y:=by simpa using hx
     cases e;rw [hx'];exact hc
    ·exact h2 x c' e
   obtain ⟨cl,e1,e2,e3,e4⟩:=pJ env r ((y,c) :: acc) (fun x hx=>h1 x (List.mem_cons_of_mem _ hx)) h2'
   refine ⟨cl,?_,e2,fun x hx=>?_,fun x hx=>e4 x ?_⟩
   ·rw [List.forIn_cons]
    simp only [beq_self_eq_true,if_true]
    unfold cellOf
    rw [hc]
    exact e1
   ·rcases List.mem_cons.mp hx with z | z
    ·cases z
     exact e4 y (by simp [List.lookup_cons])
    ·exact e3 x z
   ·rw [List.lookup_cons]
    split
    ·rfl
    ·exact hx
  ·have hk':(k==NameKind.free)=false:=by simpa using hk
   obtain ⟨cl,e1,e2,e3,e4⟩:=pJ env r acc (fun x hx=>h1 x (List.mem_cons_of_mem _ hx)) h2
   refine ⟨cl,?_,e2,fun x hx=>?_,e4⟩
   ·rw [List.forIn_cons]
    simp only [hk',Bool.false_eq_true,if_false]
    exact e1
   ·rcases List.mem_cons.mp hx with z | z
    ·cases z;exact absurd rfl hk
    ·exact e3 x z
theorem Fy {scope:Scope}{env:Env}(h:∀ x,(x,NameKind.free)∈scope.names→∃ c,env.cells.lookup x=some c) :
  ∃ cl,closureFor scope env=pure cl∧(∀ x c,cl.lookup x=some c→env.cells.lookup x=some c)∧∀ x,(x,NameKind.free)∈scope.names→∃ c,cl.lookup x=some c:=by
 obtain ⟨cl,e1,e2,e3,_⟩:=pJ env scope.names [] h (fun x c e=>by simp at e)
 refine ⟨cl,?_,e2,fun x hx=>Option.isSome_iff_exists.mp (e3 x hx)⟩
 unfold closureFor
 show (forIn scope.names [] _ >>= fun cs=>pure cs:Sem (List (Str×Addr)))=pure cl
 have e:(forIn scope.names [] (fun (x:Str×NameKind) cs=>if (x.2==NameKind.free)=true then (do let c ←cellOf env x.1;pure (ForInStep.yield ((x.1,c) :: cs))) else pure (ForInStep.yield cs)):Sem (List (Str×Addr)))=pure cl:=e1
 exact congrArg (fun t:Sem (List (Str×Addr))=>t >>= fun cs=>pure cs) e
noncomputable def eG (sc scope:Scope):Scope:={ scope with names:=scope.names.map fun (n,k)=>if (k==.free&&sc.kind==.function&&sc.names.lookup n==some .cell) then (n,.cell) else (n,k)}
theorem pK {env:Env}{sc scope:Scope}(h:env.scope=sc):relabel scope env=eG sc scope:=by
 subst h;rfl
theorem qw {sc:Scope}:∀ {names:List (Str×NameKind)}{x:Str},(∀ y∈names,y.2≠.cell)→
  ((names.map fun (n,k)=>if (k==NameKind.free&&sc.kind==.function&&sc.names.lookup n==some .cell) then (n,NameKind.cell) else (n,k)).lookup x=some .cell∨
   (names.map fun (n,k)=>if (k==NameKind.free&&sc.kind==.function&&sc.names.lookup n==some .cell) then (n,NameKind.cell) else (n,k)).lookup x=some .free)→(x,NameKind.free)∈names
 | [],_,_,h=>by rcases h with h | h <;> simp at h
 | (n,k) :: r,x,hc,h=>by
  have ih:=@qw sc r x fun y hy=>hc y (List.mem_cons_of_mem _ hy)
  simp only [List.map_cons] at h
  have nk:∀ (k':NameKind),(if (k==NameKind.free&&sc.kind==.function&&sc.names.lookup n==some .cell) then (n,NameKind.cell) else (n,k))=(n,k')→k'=.cell∨k'=.free→k=.free:=fun k' e hk'=>by
   split at e
   ·rename_i z
    simp only [Bool.and_eq_true,beq_iff_eq] at z
    exact z.1.1
   ·cases e
    rcases hk' with z | z
    ·exact absurd z (hc (n,_) (List.mem_cons_self ..))
    ·exact z
  generalize hg:(if (k==NameKind.free&&sc.kind==.function&&sc.names.lookup n==some .cell) then (n,NameKind.cell) else (n,k))=p at h nk
  have hp:p.1=n:=by rw [←hg];split <;> rfl
  obtain ⟨p1,p2⟩:=p
  simp only at hp
  subst hp
  simp only [List.lookup_cons] at h
  cases hx:(x==p1) with
  | true=>
   have hx':x=p1:=by simpa using hx
   rw [hx] at h
   have:=nk p2 rfl (by rcases h with h | h <;> simp at h <;> simp [h])
   subst this
   rw [hx']
   exact List.mem_cons_self ..
  | false=>
   rw [hx] at h
   exact List.mem_cons_of_mem _ (ih h)
section
variable {prog:Program}{w:World}{A:Around}{R':Result→Shared→Prop}{s:Shared}
abbrev fR:Value→Shared→Prop:=fun _ _=>False
noncomputable def uA (ifs:List Expr) (env:Env):Sem Bool:=forIn ifs true fun c r=>if r=true then do let ok ←isTrue c env (eval c env);pure (ForInStep.yield ok) else pure (ForInStep.yield r)
theorem rT {elt target iter:Expr}{ifs:List Expr}{scope:Scope}{pos:Pos}{it acc:Value}{env:Env}(I:Nat→Shared→Prop)
  (turn:∀ n s,I n s→wpAny (model prog w) A (pyNext it) (fun r s₁=>match r with
   | none=>R' (.ok .next) s₁
   | some v=>wpAny (model prog w) A (letOwnedTupleGo target it v) (fun _ s₂=>wpAny (model prog w) A (assign target env v) (fun _ s₃=>
     wpAny (model prog w) A (uA ifs env) (fun ok s₄=>
      if ok=true then wpAny (model prog w) A (eval elt env) (fun x s₅=>
       wpAny (model prog w) A (call (.builtin "list.append") [acc,x]) (fun _ s₆=>∃ m,m<n∧I m s₆) fR s₅) fR s₄
      else ∃ m,m<n∧I m s₄) fR s₃) fR s₂) fR s₁) fR s)
  (n:Nat) (h:I n s):codeAny (model prog w) A (.compLoop (.ListComp elt [⟨target,iter,ifs,0⟩] scope pos) 0 it acc env) R' s:=by
 refine codeAny_loop rfl I (fun n s hI=>?_) n h
 show wpAny _ A ((compTurn (.ListComp elt [⟨target,iter,ifs,0⟩] scope pos) 0 it acc env).onRaise (fun x=>do noteFrame x env;theTreesLotGoes x)) _ _ s
 refine wpAny_noted ?_
 rw [compTurn_list]
 refine wpAny_bind (wpAny_standAt (wpAny_bind (wpAny_mono (turn n s hI) (fun r s₁ h₁=>?_) fun _ _ h'=>h'.elim)))
 cases r with
 | none=>exact wpAny_pure h₁
 | some v=>
  refine wpAny_bind (wpAny_mono h₁ (fun _ s₂ h₂=>?_) fun _ _ h'=>h'.elim)
  refine wpAny_bind (wpAny_mono h₂ (fun _ s₃ h₃=>wpAny_bind (wpAny_mono h₃ (fun ok s₄ h₄=>?_) fun _ _ h'=>h'.elim)) fun _ _ h'=>h'.elim)
  cases ok with
  | false=>exact wpAny_pure ⟨rfl,h₄⟩
  | true=>
   exact wpAny_bind (wpAny_bind (wpAny_mono h₄ (fun x s₅ h₅=>wpAny_bind (wpAny_mono h₅ (fun _ s₆ h₆=>wpAny_pure (wpAny_pure ⟨rfl,h₆⟩)) fun _ _ h'=>h'.elim)) fun _ _ h'=>h'.elim))
end
inductive Qq (K:PySem.W.Frag) (m:List Nat) (P:aR) (e:Eo) (s:L2.St) (H:Hp) (Q:Bool→Hp→Prop):Prop
 | mk (r:List Addr) (fr:Fr) (h:Hh) (k:Bool) (h':Hh) (c0:SR K m H r fr s) (c1:HR K H r h) (c2:Ev.gF P e fr h=.ok k h') (c3:∀ H' r',HR K H' r' h'→Fm K r r' H H'→Q k H'):Qq K m P e s H Q
noncomputable def JC (G:Tb) (n:Nat) (sc:Scope) (N:List Str) (df:Bool) (m:List Nat) (e:Eo) (ifs:List Expr):Prop:=∀ X,Good G n sc N df X→∀ (pins:List (Addr×Obj)) (s:Shared) (σ:L2.St) (H:Hp) (Q:Bool→Hp→Prop),Inv X pins σ H s→
 Qq X.K m (Ev.run G.F G.w n) e σ H Q→wpAny (model X.prog X.w) X.A (uA ifs X.env) (TP X pins σ Q) X.xe s
section
variable {G:Tb}{n:Nat}{sc:Scope}{N:List Str}{df:Bool}{m:List Nat}{a b c:E}{xa xb xc tg:Expr}{pos:Pos}
theorem OA:JC G n sc N df m .no []:=fun X g pins s σ H Q I q=>by
 obtain ⟨r,fr,h,k,h',sr,hr,e,q⟩:=q
 simp only [Ev.gF] at e
 cases e
 exact wpAny_pure ⟨H,I,q H r hr .refl⟩
theorem Jf (hc:JT G n sc N df m a xa):JC G n sc N df m (.yes a) [xa]:=fun X g pins s σ H Q I q=>by
 obtain ⟨r,fr,h,k,h',sr,hr,e,q⟩:=q
 simp only [Ev.gF] at e
 exact wpAny_tests_one (hc X g pins s σ H Q I ⟨r,fr,h,k,h',sr,hr,e,q⟩)
end
noncomputable def nZ (X:Cx) (N':List Str) (scope:Scope) (cl:List (Str×Addr)) (C:Addr) (s3:Shared) (H3:Hp) (fp:List Addr):Cx:=
 { X with N:=N',s₀:=s3,H₀:=H3,env:=compEnvC scope cl C X.env,outer:=X.stack,stack:=X.stack,ex:=fp,fn:=fun _=>false,pn:=[],xe:=fun _ _=>False }
noncomputable def namesOk (sc:Scope) (N:List Str) (m:List Nat) (scope:Scope) (t:T) (N':List Str) (m':List Nat):Prop:=m'.length=N'.length∧
 ∀ (j:Nat) x i,N'[j]?=some x→m'[j]?=some i→i∈Ev.slots t∨((x,NameKind.free)∈scope.names∧∃ jo:Nat,N[jo]?=some x∧m[jo]?=some i)
noncomputable def oh (sc:Scope) (N:List Str) (m:List Nat) (scope:Scope) (t:T) (N':List Str) (m':List Nat):Bool:=m'.length==N'.length&&
 (List.range N'.length).all fun j=>match N'[j]?,m'[j]? with
  | some x,some i=>(Ev.slots t).contains i || (scope.names.contains (x,NameKind.free)&&(List.range N.length).any fun jo=>N[jo]?==some x&&m[jo]?==some i)
  | _,_=>true
theorem namesOk.of {sc:Scope}{N:List Str}{m:List Nat}{scope:Scope}{t:T}{N':List Str}{m':List Nat}(h:oh sc N m scope t N' m'=true):namesOk sc N m scope t N' m':=by
 unfold oh at h
 rw [Bool.and_eq_true] at h
 refine ⟨by simpa using h.1,fun j x i e1 e2=>?_⟩
 have hj:j<N'.length:=(List.getElem?_eq_some_iff.mp e1).1
 have q:=List.all_eq_true.mp h.2 j (List.mem_range.mpr hj)
 rw [e1,e2] at q
 simp only [Bool.or_eq_true,Bool.and_eq_true,List.any_eq_true] at q
 rcases q with q | ⟨q1,jo,_,q2⟩
 ·exact .inl (by simpa using q)
 ·exact .inr ⟨by simpa using q1,jo,by simpa using q2.1,by simpa using q2.2⟩
theorem tZ {t:T}{d:D}{fr au:Fr}(e:Ev.b7 t d fr=some au) {i:Nat}(hi:i∉Ev.slots t):au[i]?=fr[i]?:=by
 have go:∀ (l:List Nat) (ds:List D) (fr au:Fr),Ev.cF l ds fr=some au→i∉l→au[i]?=fr[i]?:=by
  intro l
  induction l with
  | nil=>
   intro ds fr au e _
   cases ds with
   | nil=>cases e;rfl
   | cons _ _=>cases e
  | cons j l ih=>
   intro ds fr au e hj
   cases ds with
   | nil=>cases e
   | cons d ds=>
    rw [ih ds _ _ e fun z=>hj (List.mem_cons_of_mem _ z),List.getElem?_set_ne]
    intro z
    exact hj (by rw [z];exact List.mem_cons_self ..)
 cases t with
 | one j=>
  cases e
  rw [List.getElem?_set_ne]
  intro z
  exact hi (by simp [Ev.slots,z])
 | many l=>
  cases d with
  | tup ds=>exact go l ds fr au e hi
  | _=>cases e
theorem SR.unbind {K:PySem.W.Frag}{m:List Nat}{H:Hp}{r:List Addr}{t:T}{d:D}{fr au:Fr}{s:L2.St}(sr:SR K m H r au s) (e:Ev.b7 t d fr=some au) (hu:Ev.undef t fr=true):SR K m H r fr s:=by
 refine ⟨sr.len,fun j i d' e1 e2=>sr.sl j i d' e1 ?_⟩
 rw [tZ e]
 ·exact e2
 ·intro hi
  have q:=List.all_eq_true.mp hu i hi
  rw [e2] at q
  cases q
end Sm
set_option maxRecDepth 100000
namespace Sm
open PySem PySem.Spec PyProof.Rows L2
open Ev (D O Hh Fr R aR E Es Eo T S Ss Fl Src bW bQ TY BI ME)
structure jL (sc scope:Scope):Prop where
 kind:scope.kind=.function
 yr:∀ y∈scope.names,y.2≠.cell
 free:∀ x,(x,NameKind.free)∈scope.names→(sc.names.lookup x=some .cell∨sc.names.lookup x=some .free)∧scope.names.lookup x=some .free
 loc:∀ y∈scope.names,y.2=.local→scope.names.lookup y.1=some .local
noncomputable def C0 (sc scope:Scope):Bool:=scope.kind==.function&&scope.names.all fun y=>y.2 != .cell&&(y.2 != .free || ((sc.names.lookup y.1==some .cell || sc.names.lookup y.1==some .free)&&scope.names.lookup y.1==some .free))&&(y.2 != .local || scope.names.lookup y.1==some .local)
theorem jL.of {sc scope:Scope}(h:C0 sc scope=true):jL sc scope:=by
 unfold C0 at h
 rw [Bool.and_eq_true] at h
 have q:∀ y∈scope.names,y.2≠.cell∧(y.2=.free→(sc.names.lookup y.1=some .cell∨sc.names.lookup y.1=some .free)∧scope.names.lookup y.1=some .free)∧(y.2=.local→scope.names.lookup y.1=some .local):=fun y hy=>by
  have z:=List.all_eq_true.mp h.2 y hy
  simp only [Bool.and_eq_true,Bool.or_eq_true,bne_iff_ne,beq_iff_eq,ne_eq] at z
  refine ⟨z.1.1,fun e=>?_,fun e=>?_⟩
  ·rcases z.1.2 with w | w
   ·exact absurd e w
   ·exact w
  ·rcases z.2 with w | w
   ·exact absurd e w
   ·exact w
 exact ⟨by simpa using h.1,fun y hy=>(q y hy).1,fun x hx=>(q _ hx).2.1 rfl,fun y hy=>(q y hy).2.2⟩
theorem qx {sc:Scope}:∀ {names:List (Str×NameKind)}{x:Str},names.lookup x=some .free→
  ((names.map fun (n,k)=>if (k==NameKind.free&&sc.kind==.function&&sc.names.lookup n==some .cell) then (n,NameKind.cell) else (n,k)).lookup x=some .cell∨
   (names.map fun (n,k)=>if (k==NameKind.free&&sc.kind==.function&&sc.names.lookup n==some .cell) then (n,NameKind.cell) else (n,k)).lookup x=some .free)
 | [],_,h=>by simp at h
 | (n,k) :: r,x,h=>by
  have ih:=@qx sc r x
  simp only [List.map_cons]
  simp only [List.lookup_cons] at h
  by_cases hc:(k==NameKind.free&&sc.kind==.function&&sc.names.lookup n==some .cell)=true
  ·rw [if_pos hc]
   simp only [List.lookup_cons]
   cases hx:(x==n) with
   | true=>exact .inl rfl
   | false=>rw [hx] at h;exact ih h
  ·rw [if_neg hc]
   simp only [List.lookup_cons]
   cases hx:(x==n) with
   | true=>rw [hx] at h;exact .inr h
   | false=>rw [hx] at h;exact ih h
section
variable {G:Tb}{n:Nat}{sc scope:Scope}{N N':List Str}{df:Bool}{m m':List Nat}{elt:E}{t:T}{it:Ev.It}{cond:Eo}{xe xi tg:Expr}{ifs:List Expr}{pos:Pos}{X:Cx}
theorem Good.comp (g:Good G n sc N df X) {cl:List (Str×Addr)}{C:Addr}{s3:Shared}{H3:Hp}{fp:List Addr}:Good G n (eG sc scope) N' false (nZ X N' scope cl C s3 H3 fp):=
 ⟨rfl,pK g.sc,g.calm,(fun h=>by cases h),g.room,rfl,g.fn,g.bl,g.cs,g.dk⟩
theorem Fz {pins:List (Addr×Obj)}{σ:L2.St}{H3:Hp}{s3:Shared}(g:Good G n sc N df X) (I:Inv X pins σ H3 s3) (hs:jL sc scope) {cl:List (Str×Addr)}(gI:∀ x c,cl.lookup x=some c→X.env.cells.lookup x=some c)
  (jM:∀ x,(x,NameKind.free)∈scope.names→∃ c,cl.lookup x=some c) {fp:List Addr} (hfp:∀ b∈fp,fU X pins H3 b) (hfl:∀ b∈fp,b<s3.heap.objs.size):(nZ X N' scope cl s3.heap.objs.size s3 H3 fp).Ok where
 mod:=I.ok.mod
 kind:=hs.kind
 glob:=I.ok.glob
 blt:=I.ok.blt
 above:=Nat.le_refl _
 inj:=fun x y c h1 h2=>I.ok.inj x y c (gI x c h1) (gI y c h2)
 has:=fun x h=>by
  have h':(eG sc scope).names.lookup x=some .cell∨(eG sc scope).names.lookup x=some .free:=by
   rw [←pK (scope:=scope) g.sc];exact h
  exact jM x (qw hs.yr h')
 ud:=fun x c h=>by cases h
 hd:=I.ok.hd
 frames:=I.ok.frames
 stk:=.inl rfl
 CN:=fun b hb=>⟨Nat.ne_of_lt (hfl b hb),fun x c e=>(hfp b hb).2.2.2.2.1 x c (gI x c e)⟩
 bs:=I.bs
 qd:=Nat.le_trans I.ok.qd I.sz
 pC:=fun b o e hb=>by
  rcases (hfp b hb).2.2.2.1 with z | z
  ·exact I.ok.pC b o e z
  ·have:=Heap.lt_size (I.ok.bs b o e).1
   exact absurd (Nat.lt_of_lt_of_le this z) (Nat.lt_irrefl _)
 pD:=fun b hb z=>by
  rcases List.mem_cons.mp (I.rA b z) with q | q
  ·exact (hfp b hb).2.1 q
  ·exact (hfp b hb).2.2.1 q
 iE:=I.stack
 rj:=I.ue
open Classical in
noncomputable def sig (scope:Scope) (N N':List Str) (m':List Nat) (K:PySem.W.Frag) (H:Hp) (r:List Addr) (fr:Fr) (σ:L2.St):L2.St:=
 (List.range N'.length).map fun j=>if h:∃ v,∃ x i,N'[j]?=some x∧m'[j]?=some i∧(x,NameKind.free)∈scope.names∧(∃ jo:Nat,N[jo]?=some x∧σ[jo]?=some (some v))∧∀ d,fr[i]?=some (some d)→RV K H r d v then some h.choose else none
theorem Jg {K:PySem.W.Frag}{H:Hp}{r:List Addr}{fr:Fr}{σ:L2.St}{j:Nat}{v:V}(h:(sig scope N N' m' K H r fr σ)[j]?=some (some v)) :
  ∃ x i,N'[j]?=some x∧m'[j]?=some i∧(x,NameKind.free)∈scope.names∧(∃ jo:Nat,N[jo]?=some x∧σ[jo]?=some (some v))∧∀ d,fr[i]?=some (some d)→RV K H r d v:=by
 unfold sig at h
 rw [List.getElem?_map] at h
 cases e:(List.range N'.length)[j]? with
 | none=>rw [e] at h;cases h
 | some j'=>
  have:=getElem?_range' e
  subst this
  rw [e] at h
  simp only [Option.map_some,Option.some.injEq] at h
  split at h
  ·rename_i hh
   cases h
   exact hh.choose_spec
  ·cases h
theorem Jh {K:PySem.W.Frag}{H:Hp}{r:List Addr}{fr:Fr}{σ:L2.St}(sr:SR K m H r fr σ) (hn:namesOk sc N m scope t N' m') (hu:Ev.undef t fr=true):SR K m' H r fr (sig scope N N' m' K H r fr σ):=by
 refine ⟨by unfold sig;simp [hn.1],fun j i d e1 e2=>?_⟩
 have hj:j<N'.length:=by rw [←hn.1];exact (List.getElem?_eq_some_iff.mp e1).1
 have hx:N'[j]?=some N'[j]:=List.getElem?_eq_getElem hj
 rcases hn.2 j _ i hx e1 with hi | ⟨h1,jo,h2,h3⟩
 ·exfalso
  have q:=List.all_eq_true.mp hu i hi
  rw [e2] at q
  cases q
 ·obtain ⟨v,h4,h5⟩:=sr.sl jo i d h3 e2
  have ex:∃ v,∃ x i,N'[j]?=some x∧m'[j]?=some i∧(x,NameKind.free)∈scope.names∧(∃ jo:Nat,N[jo]?=some x∧σ[jo]?=some (some v))∧∀ d,fr[i]?=some (some d)→RV K H r d v:=
   ⟨v,N'[j],i,hx,e1,h1,⟨jo,h2,h4⟩,fun d' e'=>by rw [e2] at e';cases e';exact h5⟩
  refine ⟨ex.choose,?_,?_⟩
  ·unfold sig
   rw [List.getElem?_map,List.getElem?_range hj]
   simp only [Option.map_some]
   rw [dif_pos ex]
  ·obtain ⟨x',i',q1,q2,q3,q4,q5⟩:=ex.choose_spec
   rw [e1] at q2;cases q2
   exact q5 d e2
theorem AB {pins:List (Addr×Obj)}{σ:L2.St}{H3:Hp}{s3:Shared}(g:Good G n sc N df X) (I:Inv X pins σ H3 s3) (hs:jL sc scope) {cl:List (Str×Addr)}(gI:∀ x c,cl.lookup x=some c→X.env.cells.lookup x=some c)
  (jM:∀ x,(x,NameKind.free)∈scope.names→∃ c,cl.lookup x=some c) {fp:List Addr} (hfp:∀ b∈fp,fU X pins H3 b) (hfl:∀ b∈fp,b<s3.heap.objs.size) {h1:Heap} {tk:Nat} {mm:Str→Option Value}
  (hns:h1.Ns s3.heap.objs.size mm) (hk:∀ b o,s3.heap.get? b=some o→h1.get? b=some o) {r:List Addr} {fr:Fr} :
  Inv (nZ X N' scope cl s3.heap.objs.size s3 H3 fp) [] (sig scope N N' m' X.K H3 r fr σ) H3 { s3 with heap:=h1,toks:=tk }:=by
 refine ⟨Fz g I hs gI jM hfp hfl,rfl,I.bare,Un.kept hk,⟨mm,hns,fun j x v e1 e2 e3=>?_⟩,fun x c e=>?_,I.hok.fresh (Nat.le_refl _),fun x c e=>I.ir x c (gI x c e),(fun p hp=>by simp [nZ] at hp),I.hok.kept hk,(by unfold sig;simp [nZ])⟩
 ·obtain ⟨x',i,q1,q2,q3,⟨jo,q4,q5⟩,_⟩:=Jg e2
  have V4:N'[j]?=some x:=e1
  rw [V4] at q1;cases q1
  obtain ⟨f1,f2⟩:=hs.free x q3
  obtain ⟨mO,XX,V5⟩:=I.loc
  obtain ⟨u,ru,lk⟩:=V5 jo x v (by rw [g.nm];exact q4) q5 (by rw [g.sc];rcases f1 with z | z <;> simp [xQ,z])
  refine ⟨u,ru,?_⟩
  have hkd:X.env.kindOf x=some .cell∨X.env.kindOf x=some .free:=by unfold Env.kindOf;rw [g.sc];exact f1
  rcases lk with ⟨z,_⟩ | ⟨_,c,hc,hcell⟩
  ·rcases hkd with w | w <;> (rw [z] at w;cases w)
  ·obtain ⟨c',hc'⟩:=jM x q3
   have:c'=c:=by
    have:=gI x c' hc'
    rw [hc] at this;cases this;rfl
   subst this
   refine .inr ⟨?_,c',hc',?_⟩
   ·show (relabel scope X.env).names.lookup x=some .cell∨(relabel scope X.env).names.lookup x=some .free
    rw [pK (scope:=scope) g.sc]
    exact qx f2
   ·obtain ⟨o,ho,hd⟩:=hcell
    exact ⟨o,hk _ _ ho,hd⟩
 ·obtain ⟨v,o,ho,hd⟩:=I.cell x c (gI x c e)
  exact ⟨v,o,hk _ _ ho,hd⟩
end
end Sm
set_option maxRecDepth 100000
namespace Sm
open PySem PySem.Spec PyProof.Rows L2
open Ev (D O Hh Fr R aR E Es Eo T S Ss Fl Src bW bQ TY BI ME)
section
variable {G:Tb}{n:Nat}{sc scope:Scope}{N N':List Str}{df:Bool}{m m':List Nat}{elt:E}{t:T}{it:Ev.It}{cond:Eo}{xe xi tg:Expr}{ifs:List Expr}{pos:Pos}{X:Cx}
noncomputable def vU (P:aR) (elt:E) (t:T) (cond:Eo) (fr:Fr):D→Hh→R (Option D):=fun d h2=>match Ev.b7 t d fr with
 | none=>.bad
 | some au=>(Ev.gF P cond au h2).bind fun k h3=>if k then (Ev.ev P elt au h3).bind fun x h4=>.ok (some x) h4 else .ok none h3
theorem pL (P:aR) (elt:E) (t:T) (it:Ev.It) (cond:Eo) (fr:Fr) (h:Hh):Ev.ev P (.comp elt t it cond) fr h=(Ev.cy P it fr h).bind fun s h1=>if Ev.undef t fr then
  (Ev.cD (vU P elt t cond fr) s.2 s.1 h1).bind fun ds h2=>Ev.alloc ds h2 else .bad:=by
 simp only [Ev.ev]
 rfl
noncomputable def CI (Y:Cx) (m':List Nat) (f:D→Hh→R (Option D)) (fr:Fr) (src:Src) (fp:List Addr) (tn:Nat→Heap→Prop) (r2:List Addr) (H2:Hp) (Dd:Addr) (ds:List D) (h2:Hh) (k:Nat) (s:Shared):Prop:=
 ∃ i mR Hc rc hc dn vs rest,Inv Y [] mR Hc s∧tn i s.heap∧(∀ b∈fp,Hc b=none)∧k=src.1.length - i∧i≤src.1.length∧
  SR Y.K m' Hc rc fr mR∧HR Y.K Hc rc hc∧Fm Y.K r2 rc H2 Hc∧Hc Dd=some (.lst vs)∧Dd∉rc∧aG Y.K Hc rc dn vs∧Ev.cD f src.2 (src.1.drop i) hc=.ok rest h2∧dn++rest=ds
section
variable {Y:Cx}{sc':Scope}{J:L2.It}{fp:List Addr}{ita:Addr}{tn:Nat→Heap→Prop}{fr:Fr}{src:Src}{r2:List Addr}{H2:Hp}{Dd:Addr}{ds:List D}{h2:Hh}
theorem vV (gC:Good G n sc' N' false Y) {α:Type}{tt:Sem α}{Q:α→Shared→Prop}{s:Shared}(hw:wpAny (model Y.prog Y.w) Y.A tt Q Y.xe s):wpAny (model Y.prog Y.w) Y.A tt Q fR s:=by rw [gC.xe] at hw;exact hw
theorem uB {i:Nat}{kN:L2.St}{H9:Hp}{r9:List Addr}{h9:Hh}{dn:List D}{vs:List V}{rest':List D}{s9:Shared}{p:List (Addr×Obj)}{f:D→Hh→R (Option D)}(hlt:i<src.1.length) (I9:Inv Y ([]++p) kN H9 s9) (bk:tn (i+1) s9.heap∧∀ b∈fp,H9 b=none) (q:SR Y.K m' H9 r9 fr kN) (qy:HR Y.K H9 r9 h9) (fm:Fm Y.K r2 r9 H2 H9) (vW:H9 Dd=some (.lst vs)) (vX:Dd∉r9) (rv:aG Y.K H9 r9 dn vs) (e7:Ev.cD f src.2 (src.1.drop (i+1)) h9=.ok rest' h2) (ed:dn++rest'=ds) :
  ∃ k,k<src.1.length - i∧CI Y m' f fr src fp tn r2 H2 Dd ds h2 k s9:=
 ⟨src.1.length - (i+1),Nat.sub_lt_sub_left hlt (Nat.lt_succ_self i),i+1,kN,H9,r9,h9,dn,vs,rest',I9.kh,bk.1,bk.2,rfl,hlt,q,qy,fm,vW,vX,rv,e7,ed⟩
theorem Ji {i:Nat}{kN:L2.St}{H9:Hp}{r9:List Addr}{h9:Hh}{dn:List D}{vs:List V}{xd:D}{v10:V}{C1:Value}{rest':List D}{s9:Shared}{p:List (Addr×Obj)}{f:D→Hh→R (Option D)}(hlt:i<src.1.length) (ly:H2 Dd=none) (hsz:ds.length≤sizeLine) (gC:Good G n sc' N' false Y) (I9:Inv Y ([]++p) kN H9 s9) (AD:RelV v10 C1) (bk:∀ {σ':L2.St}{H':Hp}{s':Shared},Inv Y ([]++p) σ' H' s'→tn (i+1) s'.heap∧∀ b∈fp,H' b=none) (q:SR Y.K m' H9 r9 fr kN) (qy:HR Y.K H9 r9 h9) (fm:Fm Y.K r2 r9 H2 H9) (mS:H9 Dd=some (.lst vs)) (rV:Dd∉r9) (rv:aG Y.K H9 r9 dn vs) (AE:RV Y.K H9 r9 xd v10) (e7:Ev.cD f src.2 (src.1.drop (i+1)) h9=.ok rest' h2) (ed:dn++xd :: rest'=ds) :
  wpAny (model Y.prog Y.w) Y.A (call (.builtin "list.append") [.ref Dd,C1]) (fun _ C2=>∃ k,k<src.1.length - i∧CI Y m' f fr src fp tn r2 H2 Dd ds h2 k C2) fR s9:=by
 have hlen:vs.length<sizeLine:=by
  have h1:=rv.length
  have h2:=congrArg List.length ed
  simp at h2
  omega
 refine bG (vV gC (qo _ s9 kN H9 (.ref Dd) [v10] (.ref Dd) [C1] (fun _ Qs=>Qs=upd H9 Dd (.lst (vs++[v10]))) I9 rfl (.cons AD .nil) ⟨Dd,vs,v10,rfl,rfl,mS,hlen,rfl⟩)) fun _ C2 ⟨_,Qs,Qt,_,Tz⟩=>?_
 subst Tz
 refine uB (dn:=dn++[xd]) (vs:=vs++[v10]) hlt Qt (bk Qt) ?_ (qy.other mS rV) (fm.other ly mS) fq rV ?_ e7 ?_
 ·exact ⟨q.len,fun j i' d' a1 a2=>by
   obtain ⟨w,b1,b2⟩:=q.sl j i' d' a1 a2
   exact ⟨w,b1,b2.grow (fun _ _ z=>z) (gG mS)⟩⟩
 ·exact (rv.append (.cons AE .nil)).grow (fun _ _ z=>z) (gG mS)
 ·rw [←ed];simp
theorem yu (gC:Good G n sc' N' false Y) (hg:JG G n sc' N' false m' t tg) (hc:JC G n sc' N' false m' cond ifs) (he:JE G n sc' N' false m' elt xe) (Tn:Turn Y.prog Y.w Y.K tg J fp ita tn) (ki:∀ {Hc:Hp},(∀ b∈fp,Hc b=none)→∀ b∈fp,fU Y [] Hc b)
  (hu:Ev.undef t fr=true) (hJ:nc Y.K r2 H2 src J) (ly:H2 Dd=none) (hsz:ds.length≤sizeLine) {R':Result→Shared→Prop}
  (TF:∀ s6 mR Hc rc vs,Inv Y [] mR Hc s6→HR Y.K Hc rc h2→Fm Y.K r2 rc H2 Hc→Hc Dd=some (.lst vs)→Dd∉rc→aG Y.K Hc rc ds vs→R' (.ok .next) s6) {k:Nat} {s:Shared}
  (h:CI Y m' (vU (Ev.run G.F G.w n) elt t cond fr) fr src fp tn r2 H2 Dd ds h2 k s):codeAny (model Y.prog Y.w) Y.A (.compLoop (.ListComp xe [⟨tg,xi,ifs,0⟩] scope pos) 0 (.ref ita) (.ref Dd) Y.env) R' s:=by
 refine rT (CI Y m' (vU (Ev.run G.F G.w n) elt t cond fr) fr src fp tn r2 H2 Dd ds h2) ?_ k h
 rintro k s5 ⟨i,mR,Hc,rc,hc',dn,vs,rest,I5,uh,qh,rfl,hle,yp,qv,rW,mS,rV,yv,e5,C3⟩
 rcases Nat.lt_or_ge i src.1.length with hlt | hge
 ·rw [List.drop_eq_getElem_cons hlt] at e5
  simp only [Ev.cD] at e5
  split at e5
  ·rename_i hst
   obtain ⟨hgo,_⟩:=hJ i Hc rc hc' qv rW hst
   obtain ⟨g1,g2⟩:=hgo src.1[i] (List.getElem?_eq_getElem hlt)
   obtain ⟨o,h6,e6,e5⟩:=Ev.ai e5
   obtain ⟨rest',h7,e7,e5⟩:=Ev.ai e5
   cases e5
   refine bG (Tn.item Y rfl rfl rfl gC.calm i [] s5 mR Hc fR I5 (ki qh) uh g1) fun rr s6 ⟨u,V6,h8⟩=>?_
   subst V6
   refine bG h8 fun _ s7 ⟨x,H7,I7,rx,y7,Jj,V7⟩=>?_
   obtain ⟨r7,v7,Qu,uC⟩:=g2 x H7 y7
   obtain ⟨TH,TJ⟩:=uC.gg mS rV
   unfold vU at e6
   split at e6
   ·cases e6
   ·rename_i au eb
    obtain ⟨kk,h9,e9,e6⟩:=Ev.ai e6
    have V8:=I7.pinned (ki V7) (Tn.obj _ _ Jj)
    refine bG (vV gC (hg _ gC _ s7 mR H7 x u (fun kN H8=>H8=H7∧SR Y.K m' H7 r7 au kN) V8 rx ⟨r7,fr,hc',_,au,yp.mono uC,Qu,v7,eb,fun s' q=>⟨rfl,q⟩⟩)) fun _ s8 ⟨kN,H8,I8,V9,C4⟩=>?_
    subst V9
    refine bG (vV gC (hc _ gC _ s8 kN _ (fun b H9=>b=kk∧∃ r9,HR Y.K H9 r9 h9∧Fm Y.K r7 r9 _ H9) I8 ⟨r7,au,hc',kk,h9,C4,Qu,e9,fun H9 r9 qy f9=>⟨rfl,r9,qy,f9⟩⟩)) fun bb s9 ⟨H9,I9,Ip,r9,qy,qz⟩=>?_
    subst Ip
    obtain ⟨vX,vW⟩:=qz.gg TJ TH
    have back:∀ {σ':L2.St} {H':Hp} {s':Shared},Inv Y ([]++kQ fp s7.heap) σ' H' s'→tn (i+1) s'.heap∧∀ b∈fp,H' b=none:=fun {σ' H' s'} I'=>
     ⟨Tn.keep _ _ _ Jj fun b hb o e=>(I'.pin (b,o) (List.mem_append_right _ (List.mem_append_right _ (iK hb e)))).1,fun b hb=>
      let ⟨o,e,_⟩:=Tn.obj _ _ Jj b hb
      (I'.pin (b,o) (List.mem_append_right _ (List.mem_append_right _ (iK hb e)))).2.1⟩
    cases bb with
    | false=>
     simp only [Bool.false_eq_true,if_false] at e6 ⊢
     cases e6
     exact uB hlt I9 (back I9) ((C4.mono qz).unbind eb hu) qy ((rW.trans uC).trans qz) vW vX ((yv.mono uC).mono qz) e7 C3
    | true=>
     simp only [if_true] at e6 ⊢
     obtain ⟨xd,XY,Wa,e6⟩:=Ev.ai e6
     cases e6
     refine bG (vV gC (he _ gC _ s9 kN H9 (fun v yw=>∃ uD,RV Y.K yw uD xd v∧HR Y.K yw uD _∧Fm Y.K r9 uD H9 yw) I9 ⟨r9,au,h9,xd,_,C4.mono qz,qy,Wa,fun v yw uD v10 AF C5=>⟨uD,v10,AF,C5⟩⟩)) fun C1 Qv ⟨v10,yw,Wb,AD,uD,AE,AF,vY⟩=>?_
     obtain ⟨OB,OC⟩:=vY.gg vW vX
     exact Ji hlt ly hsz gC Wb AD back (((C4.mono qz).mono vY).unbind eb hu) AF (((rW.trans uC).trans qz).trans vY) OC OB (((yv.mono uC).mono qz).mono vY) AE e7 C3
  ·cases e5
 ·have hi':i=src.1.length:=Nat.le_antisymm hle hge
  subst hi'
  rw [List.drop_length] at e5
  simp only [Ev.cD] at e5
  split at e5
  ·rename_i hst
   cases e5
   refine bG (Tn.done Y rfl rfl rfl gC.calm _ [] s5 mR Hc fR I5 (ki qh) uh ((hJ _ Hc rc _ qv rW hst).2 (Nat.le_refl _))) fun rr s6 ⟨hrr,I6⟩=>?_
   subst hrr
   rw [List.append_nil] at C3
   subst C3
   exact TF s6 mR Hc rc vs I6 qv rW mS rV yv
  ·cases e5
end
theorem qA (g:Good G n sc N df X) (hi:JI G n sc N df m it tg xi) (hg:JG G n (eG sc scope) N' false m' t tg) (hc:JC G n (eG sc scope) N' false m' cond ifs) (he:JE G n (eG sc scope) N' false m' elt xe)
  (hn:namesOk sc N m scope t N' m') (hs:jL sc scope) {cl:List (Str×Addr)} (gI:∀ x c,cl.lookup x=some c→X.env.cells.lookup x=some c) (jM:∀ x,(x,NameKind.free)∈scope.names→∃ c,cl.lookup x=some c)
  {pins:List (Addr×Obj)} {σ:L2.St} {H:Hp} {s:Shared} (I:Inv X pins σ H s) {r:List Addr} {fr:Fr} {h:Hh} {d:D} {h':Hh} (sr:SR X.K m H r fr σ) (hr:HR X.K H r h)
  (e:Ev.ev (Ev.run G.F G.w n) (.comp elt t it cond) fr h=.ok d h') (post:Value→Addr→Result→Shared→Prop)
  (hpost:∀ Dd C s' H' r',Inv X pins σ H' s'→(∃ mm,s'.heap.Ns C mm)→fU X pins H' C→RV X.K H' r' d (.ref Dd)→HR X.K H' r' h'→Fm X.K r r' H H'→post (.ref Dd) C (.ok .next) s') {E:Value→Shared→Prop} (hE:X.xe=fun _ _=>False) :
  wpAny (model X.prog X.w) X.A (eval xi X.env) (fun x s₁=>wpAny (model X.prog X.w) X.A (pyIter x) (fun itv s₂=>wpAny (model X.prog X.w) X.A (newList []) (fun acc s₃=>
   wpAny (model X.prog X.w) X.A (newFunctionEnv scope X.env.globals cl [] X.env.qual none .none (some X.env)) (fun cenv s₄=>
    codeAny (model X.prog X.w) X.A (.compStart (.ListComp xe [⟨tg,xi,ifs,0⟩] scope pos) 0 itv acc { cenv with scope:=relabel scope X.env }) (post acc cenv.locals) s₄) E s₃) E s₂) E s₁) E s:=by
 rw [pL] at e
 obtain ⟨src,h1,e1,e⟩:=Ev.ai e
 split at e
 ·rename_i hu
  obtain ⟨ds,h2,e2,e⟩:=Ev.ai e
  have qf:∀ {α:Type} {tt:Sem α} {Q:α→Shared→Prop} {s:Shared},wpAny (model X.prog X.w) X.A tt Q X.xe s→wpAny (model X.prog X.w) X.A tt Q E s:=fun {α tt Q s} hw=>wpAny_mono hw (fun _ _ q=>q) fun _ _ q=>by rw [hE] at q;exact q.elim
  refine bG (qf (hi X g pins s σ H (fun J H2=>∃ r2,HR X.K H2 r2 h1∧Fm X.K r r2 H H2∧nc X.K r2 H2 src J) I ⟨r,fr,h,src,h1,sr,hr,e1,fun J H2 r2 hr2 f2 hJ=>⟨r2,hr2,f2,hJ⟩⟩)) fun v s1 q1=>?_
  refine bG (qf q1) fun itv s2 q2=>?_
  obtain ⟨ita,fp,tn,J,H2,rfl,I2,Tn,st2,f2,r2,hr2,C6,hJ⟩:=q2
  refine wpAny_newObj_type ?_
  generalize C7:s2.heap.objs.size=Dd
  have ly:H2 Dd=none:=by rw [←C7];exact I2.fresh
  have I3:Inv X pins σ (upd H2 Dd (.lst [])) { s2 with heap:=s2.heap.push { cls:=.type "list",data:=.seq ([]:List Value).toArray }}:=by
   have:=I2.Ao (ys:=[]) (its:=[]) (t':=s2.toks) .nil (Nat.zero_le _)
   rw [C7] at this
   exact this
  have Jk:∀ b∈fp,b<s2.heap.objs.size:=fun b hb=>by
   obtain ⟨o,e,_⟩:=Tn.obj 0 _ st2 b hb
   exact Heap.lt_size e
  generalize Jl:({ s2 with heap:=s2.heap.push { cls:=.type "list",data:=.seq ([]:List Value).toArray }}:Shared)=s3 at I3
  have TL:s3.heap.objs.size=s2.heap.objs.size+1:=by rw [←Jl];exact Heap.size_push ..
  have k3:∀ b o,s2.heap.get? b=some o→s3.heap.get? b=some o:=fun b o e=>by rw [←Jl];exact Heap.get?_push_of_some _ e
  have Jm:∀ b∈fp,b<s3.heap.objs.size:=fun b hb=>Nat.lt_of_lt_of_le (Jk b hb) (by rw [TL];exact Nat.le_succ _)
  have pM:∀ b∈fp,fU X pins (upd H2 Dd (.lst [])) b:=fun b hb=>⟨by rw [bx (fun z=>absurd (Jk b hb) (by rw [z,C7];exact Nat.lt_irrefl _))];exact (f2 b hb).1,(f2 b hb).2⟩
  refine wpAny_newFunctionEnv (hs.yr) (fun y hy=>by simp at hy) (fun Jo TM TN=>?_) hs.kind
  have k4:∀ b o,s3.heap.get? b=some o→Jo.get? b=some o:=fun b o e=>TN.extBut b o (Nat.ne_of_lt (Heap.lt_size e)) (Heap.get?_push_of_some _ e)
  have gC:Good G n (eG sc scope) N' false (nZ X N' scope cl s3.heap.objs.size s3 (upd H2 Dd (.lst [])) fp):=g.comp
  have I4:Inv (nZ X N' scope cl s3.heap.objs.size s3 (upd H2 Dd (.lst [])) fp) [] (sig scope N N' m' X.K (upd H2 Dd (.lst [])) r2 fr σ) (upd H2 Dd (.lst [])) { s3 with heap:=Jo,toks:=s3.toks+0 }:=
   AB g I3 hs gI jM pM Jm TM k4
  have uz:SR X.K m' (upd H2 Dd (.lst [])) r2 fr (sig scope N N' m' X.K (upd H2 Dd (.lst [])) r2 fr σ):=Jh (((sr.mono C6).mono (Fm.tup ly))) hn hu
  have nY:HR X.K (upd H2 Dd (.lst [])) r2 h1:=hr2.tup ly
  have Qw:Dd∉r2:=fun hm=>by
   obtain ⟨k,hk⟩:=List.getElem?_of_mem hm
   have hlt:k<h1.length:=by rw [←hr2.len];exact (List.getElem?_eq_some_iff.mp hk).1
   obtain ⟨a,e3,e4⟩:=hr2.ob k _ (List.getElem?_eq_getElem hlt)
   rw [hk] at e3;cases e3
   cases eo:h1[k] with
   | lst dd=>rw [eo] at e4;obtain ⟨us,e5,_⟩:=e4;rw [ly] at e5;cases e5
   | bS dd=>
    rw [eo] at e4
    obtain ⟨us,e5,_⟩:=e4
    rcases e5 with ⟨ob,e5⟩ | ⟨ob,_,_,e5,_⟩
    ·rw [ly] at e5;cases e5
    ·have:=Heap.lt_size (I2.rq _ _ e5)
     rw [C7] at this
     exact absurd this (Nat.lt_irrefl _)
  have Wc:H Dd=none:=by
   cases z:H Dd with
   | none=>rfl
   | some o=>
    have hnr:Dd∉r:=fun hm=>by
     obtain ⟨k,hk⟩:=List.getElem?_of_mem hm
     exact Qw (List.mem_of_getElem? (C6.pre _ _ hk))
    have:=C6.keep _ _ z hnr
    rw [ly] at this;cases this
  have ki:∀ {Hc:Hp},(∀ b∈fp,Hc b=none)→∀ b∈fp,fU (nZ X N' scope cl s3.heap.objs.size s3 (upd H2 Dd (.lst [])) fp) [] Hc b:=fun {Hc} hz b hb=>by
   refine ⟨hz b hb,Nat.ne_of_lt (Jm b hb),(I4.ok).pD b hb,.inl hb,fun x c e=>((I4.ok).CN b hb).2 x c e,fun p hp=>?_⟩
   simp [nZ] at hp
  have hsz:ds.length≤sizeLine:=by
   unfold Ev.alloc at e
   split at e
   ·rename_i z;rw [←jc];exact z
   ·cases e
  have fin:codeAny (model X.prog X.w) X.A (.compLoop (.ListComp xe [⟨tg,xi,ifs,0⟩] scope pos) 0 (.ref ita) (.ref Dd) (compEnvC scope cl s3.heap.objs.size X.env)) (post (.ref Dd) s3.heap.objs.size) { s3 with heap:=Jo,toks:=s3.toks+0 }:=by
   refine yu gC hg hc he Tn ki hu hJ ly hsz (fun s6 mR Hc rc vs I6 qv rW mS rV yv=>?_) ⟨0,_,_,r2,h1,[],[],ds,I4,Tn.keep _ _ _ st2 fun b hb o eo=>k4 b o (k3 b o eo),fun b hb=>(pM b hb).1,rfl,Nat.zero_le _,uz,nY,Fm.tup ly,fq,Qw,.nil,by rw [List.drop_zero];exact e2,rfl⟩
   unfold Ev.alloc at e
   split at e
   ·cases e
    obtain ⟨Wd,TQ,_⟩:=I6.loc
    refine hpost Dd _ s6 Hc (rc++[Dd]) ?_ ⟨Wd,TQ⟩ ?_ ⟨Dd,rfl,?_⟩ (qv.known mS rV yv) ((C6.trans rW).known ?_)
    ·exact I3.NW (ch:=fp) (I6.os) I6.base I6.hok I6.bare fun b hb=>⟨(pM b hb).2.2.2.1,(pM b hb).2.1,(pM b hb).2.2.2.2.1,(pM b hb).2.2.2.2.2⟩
    ·exact I3.vA (Nat.le_refl _) I6.free
    ·rw [←qv.len];simp
    ·exact Wc
   ·cases e
  subst Jl
  exact codeAny_compStart_list fin (Tn.self _ 0 _ _ _ (Tn.keep _ _ _ st2 fun b hb o eo=>k4 b o (k3 b o eo)) fin)
 ·cases e
end
end Sm
set_option maxRecDepth 100000
namespace Sm
open PySem PySem.Spec PyProof.Rows L2
open Ev (D O Hh Fr R aR E Es Eo T S Ss Fl Src bW bQ TY BI ME)
section
variable {G:Tb}{n:Nat}{sc scope:Scope}{N N':List Str}{df:Bool}{m m':List Nat}{elt:E}{t:T}{it:Ev.It}{cond:Eo}{xe xi tg:Expr}{ifs:List Expr}{pos:Pos}
theorem Good.cells {X:Cx}{pins:List (Addr×Obj)}{σ:L2.St}{H:Hp}{s:Shared}(g:Good G n sc N df X) (I:Inv X pins σ H s) (hs:jL sc scope) :
  ∃ cl,closureFor scope X.env=pure cl∧(∀ x c,cl.lookup x=some c→X.env.cells.lookup x=some c)∧∀ x,(x,NameKind.free)∈scope.names→∃ c,cl.lookup x=some c:=
 Fy fun x hx=>I.ok.has x (by unfold Env.kindOf;rw [g.sc];exact (hs.free x hx).1)
theorem yx {X:Cx}{pins:List (Addr×Obj)}{σ:L2.St}{H:Hp}{s:Shared}(I:Inv X pins σ H s) {C:Addr}(fp:fU X pins H C) {h':Heap}(hs:Heap.SameBut C s.heap h'):Inv X pins σ H { s with heap:=h' }:=
 I.turned (t':=s.toks) (fun b o hb e=>hs.extBut b o hb e) fp.1 fp.2.1 fp.2.2.2.1 fp.2.2.2.2.1 fp.2.2.2.2.2
theorem uE (hi:JI G n sc N df m it tg xi) (hg:JG G n (eG sc scope) N' false m' t tg) (hc:JC G n (eG sc scope) N' false m' cond ifs) (he:JE G n (eG sc scope) N' false m' elt xe)
  (hn:namesOk sc N m scope t N' m') (hs:jL sc scope) (hf:∀ (env:Env) x,foldedSetIterable xi env x=pure x:=by intro _ _;rfl):JE G n sc N df m (.comp elt t it cond) (.ListComp xe [⟨tg,xi,ifs,0⟩] scope pos):=fun X g pins s σ H Q I q=>by
 obtain ⟨r,fr,h,d,h',sr,hr,e,q⟩:=q
 obtain ⟨cl,hcl,gI,jM⟩:=g.cells I hs
 rw [eval_ListComp]
 refine wpAny_comprehension_free (use:=none) (Q:=EP X pins σ Q) rfl (hf _) hcl hs.kind hs.loc ?_
 refine qA g hi hg hc he hn hs gI jM I sr hr e (fun acc C=>compPost (model X.prog X.w) X.A X.xe none (EP X pins σ Q) acc C) (fun Dd C s' H' r' I' hC fp rv hr' C8=>?_) g.xe
 obtain ⟨mm,hC⟩:=hC
 exact ⟨mm,hC,fun h'' yy=>⟨.ref Dd,H',yx I' fp yy,rfl,q _ H' r' rv hr' C8⟩⟩
theorem FA (j i:Nat) {x:Str}{pos' cpos:Pos}(hm:m.Nodup) (hN:N.Nodup) (hi:JI G n sc N df m it tg xi) (hg:JG G n (eG sc scope) N' false m' t tg) (hc:JC G n (eG sc scope) N' false m' cond ifs) (he:JE G n (eG sc scope) N' false m' elt xe)
  (hn:namesOk sc N m scope t N' m') (hs:jL sc scope) (hj:m[j]?=some i:=by rfl) (qs:N[j]?=some x:=by rfl)
  (hl:sc.names.lookup x=some .local∨(df=true∧sc.names.lookup x=some .cell):=by first | exact Or.inl rfl | exact Or.inr ⟨rfl,rfl⟩) (hf:∀ (env:Env) x,foldedSetIterable xi env x=pure x:=by intro _ _;rfl) :
  JS G n sc N df m (.set i (.comp elt t it cond)) (.Assign [.Name x pos'] (.ListComp xe [⟨tg,xi,ifs,0⟩] scope cpos) pos):=fun X g=>by
 obtain ⟨h1,h2⟩:=g.loc hl
 have hsw:swapsWith (.ListComp xe [⟨tg,xi,ifs,0⟩] scope cpos) (some (.Name x pos')) pos.line X.env=pure (X.env.blockKind==.function&&X.env.kindOf x==some .local&&pos'.line==(Expr.ListComp xe [⟨tg,xi,ifs,0⟩] scope cpos).pos.line&&!(scope.names.any fun (n,k)=>n==x&&(k==.local || k==.cell))):=rfl
 generalize hb:(X.env.blockKind==.function&&X.env.kindOf x==some .local&&pos'.line==(Expr.ListComp xe [⟨tg,xi,ifs,0⟩] scope cpos).pos.line&&!(scope.names.any fun (n,k)=>n==x&&(k==.local || k==.cell)))=b at hsw
 cases b with
 | false=>
  refine PS.of (xU (i:=j) (by rw [g.nm];exact hN) (by rw [g.nm];exact qs) h1 (uE hi hg hc he hn hs hf X g) hsw h2) fun Q s H q=>?_
  obtain ⟨r,fr,h,fl,aj,h',sr,hr,e,q⟩:=q
  simp only [Ev.ex] at e
  obtain ⟨d,h1,e1,e⟩:=Ev.ai e
  cases e
  exact ⟨r,fr,h,d,_,sr,hr,e1,fun v H1 r1 v1 hr1 f1=>q _ H1 r1 ((sr.mono f1).set hm hj v1) hr1 f1⟩
 | true=>
  have XZ:X.env.kindOf x=some .local:=by
   simp only [Bool.and_eq_true,beq_iff_eq] at hb
   exact hb.1.1.2
  intro pins s σ H Q I q
  obtain ⟨r,fr,h,fl,aj,h',sr,hr,e,q⟩:=q
  simp only [Ev.ex] at e
  obtain ⟨d,h3,e1,e⟩:=Ev.ai e
  cases e
  obtain ⟨cl,hcl,gI,jM⟩:=g.cells I hs
  rw [exec_Assign_Name_used _ _ _ _ hsw]
  refine wpAny_bind (wpAny_standAt (wpAny_bind ?_))
  show wpAny _ X.A (do let _ ←comprehension (.ListComp xe [⟨tg,xi,ifs,0⟩] scope cpos) scope X.env _ (newList []) false (eval xi X.env) (some (assign (.Name x pos') X.env))) _ _ s
  refine wpAny_bind (wpAny_mono (wpAny_comprehension_free (use:=some (assign (.Name x pos') X.env)) (Q:=fun _ s'=>SP X pins Q .next s') rfl (hf _) hcl hs.kind hs.loc ?_) (fun _ s' hq=>wpAny_pure (wpAny_pure hq)) fun _ _ e=>e)
  refine qA g hi hg hc he hn hs gI jM I sr hr e1 (fun acc C=>compPost (model X.prog X.w) X.A X.xe (some (assign (.Name x pos') X.env)) (fun _ s'=>SP X pins Q .next s') acc C) (fun Dd C s' H' r' I' hC fp rv hr' C8=>?_) g.xe
  obtain ⟨mm,hC⟩:=hC
  show wpAny _ X.A (assign (.Name x pos') X.env (.ref Dd)) _ _ s'
  refine wpAny_assign_Name (qe (v:=.ref Dd) I' (by rw [g.nm];exact hN) (i:=j) (by rw [g.nm];exact qs) h1 rfl (fun s'' We yy=>?_) h2)
  obtain ⟨a,yy,ha⟩:=yy
  have Wf:C≠a:=by
   rcases ha with z | z
   ·rw [z];exact fp.2.1
   ·exact fun w=>fp.2.2.2.2.1 x a z w.symm
  refine ⟨mm,hC.sameBut yy Wf,fun h'' TR=>?_⟩
  exact ⟨_,H',yx We ⟨fp.1,fp.2⟩ TR,q _ H' r' ((sr.mono C8).set hm hj rv) hr' C8⟩
end
end Sm
set_option maxRecDepth 100000
namespace Sm
open PySem PySem.Spec PyProof.Rows L2 PySem.SeqAt
open Ev (D O Hh Fr R aR E Es Eo T S Ss Fl Src bW bQ TY BI ME)
structure rY (A:Around) (s:Shared) (u w:Value) (k:Bool):Prop where
 eq:EqAt A s u w k
 rc:RcAt A s u w k
 ne:RcNeAt A s u w (!k)
theorem pN {f:D→D→Option Bool}:∀ {x y:List D},x.length≠y.length→∀ {k},Ev.cg f x y=some k→k=false
 | [],[],h,_,_=>absurd rfl h
 | [],_ :: _,_,_,e=>by cases e;rfl
 | _ :: _,[],_,_,e=>by cases e;rfl
 | a :: x,b :: y,h,k,e=>by
  simp only [Ev.cg,Option.bind_eq_bind,Option.bind_eq_some_iff] at e
  obtain ⟨p,_,q,e2,e3⟩:=e
  have:=pN (x:=x) (y:=y) (by simpa using h) e2
  subst this
  cases e3
  simp
theorem uF {f:D→D→Option Bool}:∀ {x y:List D}{k},Ev.cg f x y=some k→x.length=y.length→∃ e:Nat→Bool,(∀ (j:Nat) a b,x[j]?=some a→y[j]?=some b→f a b=some (e j))∧(List.range x.length).all e=k
 | [],[],_,h,_=>⟨fun _=>true,(fun j a b h1=>by simp at h1),by cases h;simp⟩
 | [],_ :: _,_,_,h=>by simp at h
 | _ :: _,[],_,_,h=>by simp at h
 | a :: x,b :: y,k,h,hl=>by
  simp only [Ev.cg,Option.bind_eq_bind,Option.bind_eq_some_iff] at h
  obtain ⟨p,e1,q,e2,e3⟩:=h
  cases e3
  obtain ⟨e,h1,h2⟩:=uF e2 (by simpa using hl)
  refine ⟨fun j=>match j with | 0=>p | j+1=>e j,fun j a' b' g1 g2=>?_,?_⟩
  ·cases j with
   | zero=>simp at g1 g2;subst g1 g2;exact e1
   | succ j=>exact h1 j a' b' (by simpa using g1) (by simpa using g2)
  ·rw [List.length_cons,List.range_succ_eq_map,List.all_cons,List.all_map,←h2]
   rfl
theorem uG {f:D→D→Option Bool}:∀ {x y:List D}{k},Ev.cg f x y=some k→∃ e:Nat→Bool,∀ (j:Nat) a b,x[j]?=some a→y[j]?=some b→f a b=some (e j)
 | [],_,_,_=>⟨fun _=>true,fun j a b h1=>by simp at h1⟩
 | _ :: _,[],_,_=>⟨fun _=>true,fun j a b _ h1=>by simp at h1⟩
 | a :: x,b :: y,k,h=>by
  simp only [Ev.cg,Option.bind_eq_bind,Option.bind_eq_some_iff] at h
  obtain ⟨p,e1,q,e2,e3⟩:=h
  obtain ⟨e,h1⟩:=uG e2
  refine ⟨fun j=>match j with | 0=>p | j+1=>e j,fun j a' b' g1 g2=>?_⟩
  cases j with
  | zero=>simp at g1 g2;subst g1 g2;exact e1
  | succ j=>exact h1 j a' b' (by simpa using g1) (by simpa using g2)
section
variable {X:Cx}{pins:List (Addr×Obj)}{σ:L2.St}{H:Hp}{s:Shared}{r:List Addr}{h:Hh}
theorem lU (I:Inv X pins σ H s) {a b:Addr}{vs ws:List V}(h1:vP X.K H a vs) (h2:H b=some (.lst ws)):a≠b:=by
 rintro rfl
 rcases h1 with ⟨o,h1⟩ | ⟨o,_,_,h1,_⟩
 ·rw [h2] at h1;cases h1
 ·have:=(I.bs a o (I.ok.mod.CM a o h1)).2
  rw [h2] at this;cases this
theorem qB {x y:List D}{vs ws:List V}{us zs:List Value}{f:D→D→Option Bool}{A:Around}{k:Bool}(v1:aG X.K H r x vs)(v2:aG X.K H r y ws)(p1:Vals vs us)(p2:Vals ws zs)
  (ih:∀ a b va vb u w k,RV X.K H r a va→RV X.K H r b vb→RelV va u→RelV vb w→f a b=some k→rY A s u w k) (hl:x.length=y.length) (e:Ev.cg f x y=some k) :
  ∃ e':Nat→Bool,(∀ j (h1:j<us.toArray.size) (h2:j<zs.toArray.size),EqAt A s us.toArray[j] zs.toArray[j] (e' j))∧(List.range us.toArray.size).all e'=k∧us.length=zs.length:=by
 obtain ⟨e',h1,h2⟩:=uF e hl
 have l1:=v1.length
 have l2:=v2.length
 have l3:=p1.length
 have l4:=p2.length
 refine ⟨e',fun j g1 g2=>?_,?_,by omega⟩
 ·have Wg:j<us.length:=by simpa using g1
  have Wh:j<zs.length:=by simpa using g2
  have ha:x[j]?=some x[j]:=List.getElem?_eq_getElem (by omega)
  have hb:y[j]?=some y[j]:=List.getElem?_eq_getElem (by omega)
  obtain ⟨va,a1,a2⟩:=v1.get ha
  obtain ⟨vb,b1,b2⟩:=v2.get hb
  obtain ⟨u,a3,a4⟩:=p1.get a1
  obtain ⟨w,b3,b4⟩:=p2.get b1
  have eu:us.toArray[j]=u:=by
   have:=(List.getElem?_eq_some_iff.mp a3).2
   simpa using this
  have ew:zs.toArray[j]=w:=by
   have:=(List.getElem?_eq_some_iff.mp b3).2
   simpa using this
  rw [eu,ew]
  exact (ih _ _ _ _ _ _ _ a2 b2 a4 b4 (h1 j _ _ ha hb)).eq
 ·rw [←h2]
  have:us.toArray.size=x.length:=by simp;omega
  rw [this]
noncomputable def cC (K:PySem.W.Frag) (H:Hp) (r:List Addr):D→V→Prop
 | .aY,v=>v=.aY
 | .bl b,v=>v=.bl b
 | .int i,v=>v=.int i
 | .str l,v=>v=.str (bg l)
 | .ref n,v=>∃ a,v=.ref a∧r[n]?=some a
 | .tup ds,v=>∃ a vs,v=.ref a∧dh K H a vs∧aG K H r ds vs
theorem RV.shape {d:D}{v:V}(h:RV X.K H r d v):cC X.K H r d v:=by
 cases d <;> simp only [RV] at h <;> simp only [cC] <;> first | exact h | exact h.1
theorem FD {a b:List Nat}:(bg a==bg b)=(a==b):=by
 by_cases e:a=b
 ·subst e;simp
 ·have e1:(bg a==bg b)=false:=beq_eq_false_iff_ne.mpr fun z=>e (uv z)
  have e2:(a==b)=false:=beq_eq_false_iff_ne.mpr e
  rw [e1,e2]
theorem ng {n:Nat}{A:Around}{x y:List D}{a b:Addr}{vs ws:List V}{k:Bool}(I:Inv X pins σ H s)(hu:A.units<cLine)(q1:dB X.K H a vs)(q2:dB X.K H b ws)(v1:aG X.K H r x vs)(v2:aG X.K H r y ws)(hab:a≠b)
  (ih:∀ a b va vb u w k,RV X.K H r a va→RV X.K H r b vb→RelV va u→RelV vb w→Ev.fS h n a b=some k→rY A.in1 s u w k) (e:Ev.cg (Ev.fS h n) x y=some k):rY A s (.ref a) (.ref b) k:=by
 obtain ⟨us,p1,mT,_⟩:=I.list q1
 obtain ⟨zs,p2,mU,_⟩:=I.list q2
 by_cases hl:x.length=y.length
 ·obtain ⟨e',h1,h2,h3⟩:=qB v1 v2 p1 p2 ih hl e
  have hs:us.toArray.size=zs.toArray.size:=by simpa using h3
  have rc:=RcAt.lists mT.isList mU.isList hs hu h1
  have ne:=RcNeAt.lists mT.isList mU.isList hs hu h1
  rw [h2] at rc ne
  exact ⟨.of_refs hab rc,rc,ne⟩
 ·have hk:=pN hl e
  subst hk
  have hs:(us.toArray.size != zs.toArray.size)=true:=by
   have l1:=v1.length
   have l2:=v2.length
   have l3:=p1.length
   have l4:=p2.length
   simp only [List.size_toArray,bne_iff_ne,ne_eq]
   omega
  exact ⟨.of_refs hab (.lists_lengths mT.isList mU.isList hs hu),.lists_lengths mT.isList mU.isList hs hu,.lists_lengths mT.isList mU.isList hs hu⟩
theorem yz (I:Inv X pins σ H s) (hr:HR X.K H r h) {n:Nat}{a:Addr}{ds:List D}(e:Ev.bh h n=some ds) (ha:r[n]?=some a):∃ us:List Value,PlainL s.heap a us.toArray:=by
 obtain ⟨a',vs,e1,e2,e3⟩:=hr.read e
 rw [ha] at e1;cases e1
 obtain ⟨us,_,pl,_⟩:=I.list e2
 exact ⟨us,pl⟩
theorem yC (I:Inv X pins σ H s) (hr:HR X.K H r h):∀ (n:Nat) (a b:D) (v:V) (k:Bool),RV X.K H r a v→RV X.K H r b v→Ev.fS h n a b=some k→k=true:=by
 intro n
 induction n with
 | zero=>intro a b v k _ _ e;cases e
 | succ n ih=>
  have items:∀ (x y:List D) (vs:List V) (k:Bool),aG X.K H r x vs→aG X.K H r y vs→Ev.cg (Ev.fS h n) x y=some k→k=true:=by
   intro x
   induction x with
   | nil=>
    intro y vs k h1 h2 e
    simp only [aG] at h1
    subst h1
    cases y with
    | nil=>cases e;rfl
    | cons _ _=>simp only [aG] at h2;obtain ⟨_,_,h2,_⟩:=h2;cases h2
   | cons d x Wi=>
    intro y vs k h1 h2 e
    simp only [aG] at h1
    obtain ⟨v,w,rfl,h3,h4⟩:=h1
    cases y with
    | nil=>simp only [aG] at h2;cases h2
    | cons d' y=>
     simp only [aG] at h2
     obtain ⟨v',w',e2,h5,h6⟩:=h2
     cases e2
     simp only [Ev.cg,Option.bind_eq_bind,Option.bind_eq_some_iff] at e
     obtain ⟨p,e1,q,e2,e3⟩:=e
     cases e3
     rw [ih d d' v p h3 h5 e1,Wi y w q h4 h6 e2]
     rfl
  have lt:∀ (a:Addr) (vs:List V) (i:Nat) (ds:List D),dh X.K H a vs→r[i]?=some a→Ev.bh h i=some ds→False:=fun a vs i ds h1 h2 h3=>by
   obtain ⟨us,pl⟩:=yz I hr h3 h2
   obtain ⟨zs,_,pt,_⟩:=I.tuple h1
   exact ne_of_list_tuple pl.isList pt rfl
  intro a b v k h1 h2 e
  have s1:=h1.shape
  have s2:=h2.shape
  clear h1 h2
  cases a with
  | aY=>simp only [cC] at s1;cases b with
   | aY=>cases e;rfl
   | ref m=>obtain ⟨p,z,_⟩:=s2;rw [s1] at z;cases z
   | tup y=>obtain ⟨p,_,z,_⟩:=s2;rw [s1] at z;cases z
   | _=>simp only [cC] at s2;rw [s1] at s2;cases s2
  | bl x=>simp only [cC] at s1;cases b with
   | bl y=>simp only [cC] at s2;rw [s1] at s2;cases s2;cases e;simp
   | ref m=>obtain ⟨p,z,_⟩:=s2;rw [s1] at z;cases z
   | tup y=>obtain ⟨p,_,z,_⟩:=s2;rw [s1] at z;cases z
   | _=>simp only [cC] at s2;rw [s1] at s2;cases s2
  | int x=>simp only [cC] at s1;cases b with
   | int y=>simp only [cC] at s2;rw [s1] at s2;cases s2;cases e;simp
   | ref m=>obtain ⟨p,z,_⟩:=s2;rw [s1] at z;cases z
   | tup y=>obtain ⟨p,_,z,_⟩:=s2;rw [s1] at z;cases z
   | _=>simp only [cC] at s2;rw [s1] at s2;cases s2
  | str x=>simp only [cC] at s1;cases b with
   | str y=>
    simp only [cC] at s2
    rw [s1] at s2
    have:x=y:=uv (by injection s2)
    subst this
    cases e;simp
   | ref m=>obtain ⟨p,z,_⟩:=s2;rw [s1] at z;cases z
   | tup y=>obtain ⟨p,_,z,_⟩:=s2;rw [s1] at z;cases z
   | _=>simp only [cC] at s2;rw [s1] at s2;cases s2
  | tup x=>
   obtain ⟨p,vs,rfl,z,w⟩:=s1
   cases b with
   | tup y=>
    obtain ⟨p',vs',z',z2,w2⟩:=s2
    cases z'
    rw [I.kP z2 z] at w2
    exact items x y vs k w w2 e
   | ref m=>
    obtain ⟨p',z',z2⟩:=s2
    cases z'
    obtain ⟨ds,e1,_⟩:=Option.map_eq_some_iff.mp e
    exact (lt _ _ _ _ z z2 e1).elim
   | _=>cases s2
  | ref i=>
   obtain ⟨p,rfl,z⟩:=s1
   cases b with
   | ref m=>
    obtain ⟨p',z',z2⟩:=s2
    cases z'
    replace e:Ev.jb h (Ev.fS h n) i m=some k:=e
    unfold Ev.jb at e
    split at e
    ·simp only [Option.map_eq_some_iff] at e
     obtain ⟨_,_,e⟩:=e
     exact e.symm
    ·rename_i hne
     split at e
     ·rename_i x y g1 g2
      exact absurd (hr.inj _ _ _ _ _ z z2 g1 g2) hne
     ·rename_i x y g1 g2
      obtain ⟨p1,q1,C9,q2,_⟩:=hr.ob _ _ g1
      obtain ⟨p2,q3,Dc,q4,_⟩:=hr.ob _ _ g2
      rw [z] at q1;cases q1
      rw [z2] at q3;cases q3
      exact absurd rfl (lU I q2 q4)
     ·rename_i x y g1 g2
      obtain ⟨p1,q1,C9,q2,_⟩:=hr.ob _ _ g1
      obtain ⟨p2,q3,Dc,q4,_⟩:=hr.ob _ _ g2
      rw [z] at q1;cases q1
      rw [z2] at q3;cases q3
      exact absurd rfl (lU I q4 q2)
     ·cases e
   | tup y=>
    obtain ⟨p',vs',z',z2,w2⟩:=s2
    cases z'
    obtain ⟨ds,e1,_⟩:=Option.map_eq_some_iff.mp e
    exact (lt _ _ _ _ z2 z e1).elim
   | _=>cases s2
theorem FE {n:Nat}{A:Around}{x y:List D}{a b:Addr}{vs ws:List V}{k:Bool}(I:Inv X pins σ H s)(hr:HR X.K H r h)(hu:A.units<cLine)(q1:dh X.K H a vs)(q2:dh X.K H b ws)(v1:aG X.K H r x vs)(v2:aG X.K H r y ws)
  (ih:∀ a b va vb u w k,RV X.K H r a va→RV X.K H r b vb→RelV va u→RelV vb w→Ev.fS h n a b=some k→rY A.in1 s u w k) (e:Ev.cg (Ev.fS h n) x y=some k):rY A s (.ref a) (.ref b) k:=by
 obtain ⟨us,p1,mT,_⟩:=I.tuple q1
 obtain ⟨zs,p2,mU,_⟩:=I.tuple q2
 have l1:=v1.length
 have l2:=v2.length
 have l3:=p1.length
 have l4:=p2.length
 have both:RcAt A s (.ref a) (.ref b) k∧RcNeAt A s (.ref a) (.ref b) (!k):=by
  by_cases hl:x.length=y.length
  ·obtain ⟨e',h1,h2,h3⟩:=qB v1 v2 p1 p2 ih hl e
   have rc:=RcAt.tuples mT mU hu h1
   have ne:=RcNeAt.tuples mT mU hu h1
   have hs:us.toArray.size=zs.toArray.size:=by simpa using h3
   have hb:((List.range (min us.toArray.size zs.toArray.size)).all e'&&us.toArray.size==zs.toArray.size)=k:=by
    rw [←hs,Nat.min_self,h2];simp
   rw [hb] at rc ne
   exact ⟨rc,ne⟩
  ·have hk:=pN hl e
   subst hk
   have hcl:∃ e':Nat→Bool,∀ j (h1:j<us.toArray.size) (h2:j<zs.toArray.size),EqAt A.in1 s us.toArray[j] zs.toArray[j] (e' j):=by
    obtain ⟨e',h1⟩:=uG e
    refine ⟨e',fun j g1 g2=>?_⟩
    have Wg:j<us.length:=by simpa using g1
    have Wh:j<zs.length:=by simpa using g2
    have ha:x[j]?=some x[j]:=List.getElem?_eq_getElem (by omega)
    have hb:y[j]?=some y[j]:=List.getElem?_eq_getElem (by omega)
    obtain ⟨va,a1,a2⟩:=v1.get ha
    obtain ⟨vb,b1,b2⟩:=v2.get hb
    obtain ⟨u,a3,a4⟩:=p1.get a1
    obtain ⟨w,b3,b4⟩:=p2.get b1
    have eu:us.toArray[j]=u:=by
     have:=(List.getElem?_eq_some_iff.mp a3).2
     simpa using this
    have ew:zs.toArray[j]=w:=by
     have:=(List.getElem?_eq_some_iff.mp b3).2
     simpa using this
    rw [eu,ew]
    exact (ih _ _ _ _ _ _ _ a2 b2 a4 b4 (h1 j _ _ ha hb)).eq
   obtain ⟨e',h1⟩:=hcl
   have rc:=RcAt.tuples mT mU hu h1
   have ne:=RcNeAt.tuples mT mU hu h1
   have hs:(us.toArray.size==zs.toArray.size)=false:=by
    simp only [List.size_toArray,beq_eq_false_iff_ne,ne_eq];omega
   rw [hs,Bool.and_false] at rc ne
   exact ⟨rc,ne⟩
 by_cases hab:a=b
 ·subst hab
  rw [I.kP q2 q1] at v2
  have hk:k=true:=yC I hr (n+1) (.tup x) (.tup y) (.ref a) k ⟨a,vs,rfl,q1,v1⟩ ⟨a,vs,rfl,q1,v2⟩ e
  subst hk
  exact ⟨.same _,both.1,both.2⟩
 ·exact ⟨.of_refs hab both.1,both.1,both.2⟩
end
end Sm
set_option maxRecDepth 100000
namespace Sm
open PySem PySem.Spec PyProof.Rows L2 PySem.SeqAt
open Ev (D O Hh Fr R aR E Es Eo T S Ss Fl Src bW bQ TY BI ME)
section
variable {X:Cx}{pins:List (Addr×Obj)}{σ:L2.St}{H:Hp}{s:Shared}{r:List Addr}{h:Hh}
theorem vZ (I:Inv X pins σ H s) (hr:HR X.K H r h):∀ (n:Nat) (A:Around) (a b:D) (va vb:V) (u w:Value) (k:Bool),A.units+n<cLine→RV X.K H r a va→RV X.K H r b vb→RelV va u→RelV vb w→Ev.fS h n a b=some k→rY A s u w k:=by
 intro n
 induction n with
 | zero=>intro A a b va vb u w k _ _ _ _ _ e;cases e
 | succ n ih=>
  intro A a b va vb u w k hu h1 h2 r1 r2 e
  have bL:A.units<cLine:=by omega
  have ih':∀ a b va vb u w k,RV X.K H r a va→RV X.K H r b vb→RelV va u→RelV vb w→Ev.fS h n a b=some k→rY A.in1 s u w k:=fun a b va vb u w k=>ih A.in1 a b va vb u w k (by show A.units+1+n<cLine;omega)
  have s1:=h1.shape
  have s2:=h2.shape
  have lst:∀ {i:Nat} {v:V} {u:Value} {ds:List D},cC X.K H r (.ref i) v→RelV v u→Ev.bh h i=some ds→∃ p us,u=.ref p∧PlainL s.heap p (List.toArray us):=fun {i v u ds} hv ru el=>by
   obtain ⟨p,rfl,z⟩:=hv
   cases ru
   obtain ⟨us,pl⟩:=yz I hr el z
   exact ⟨p,us,rfl,pl⟩
  have tup:∀ {ds:List D} {v:V} {u:Value},cC X.K H r (.tup ds) v→RelV v u→∃ p us,u=.ref p∧s.heap.IsTuple p (List.toArray us):=fun {ds v u} hv ru=>by
   obtain ⟨p,vs,rfl,z,_⟩:=hv
   cases ru
   obtain ⟨us,_,pt,_⟩:=I.tuple z
   exact ⟨p,us,rfl,pt⟩
  cases a with
  | aY=>
   simp only [cC] at s1;subst s1;cases r1
   cases b with
   | aY=>simp only [cC] at s2;subst s2;cases r2;cases e;exact ⟨.same _,.none_none,.none_none⟩
   | bl y=>simp only [cC] at s2;subst s2;cases r2;cases e;exact ⟨.none_bool _,.none_bool _,.none_bool _⟩
   | int y=>simp only [cC] at s2;subst s2;obtain ⟨t,rfl⟩:=r2;cases e;exact ⟨.none_int _ _,.none_int _ _,.none_int _ _⟩
   | str y=>simp only [cC] at s2;subst s2;obtain ⟨t,rfl⟩:=r2;cases e;exact ⟨.none_str _ _,.none_str _ _,.none_str _ _⟩
   | tup y=>obtain ⟨p,us,rfl,pt⟩:=tup s2 r2;cases e;exact ⟨.none_tuple pt bL,.none_tuple pt bL,.none_tuple pt bL⟩
   | ref m=>
    obtain ⟨ds,e1,rfl⟩:=Option.map_eq_some_iff.mp e
    obtain ⟨p,us,rfl,pl⟩:=lst s2 r2 e1
    exact ⟨.none_list pl.isList bL,.none_list pl.isList bL,.none_list pl.isList bL⟩
  | bl x=>
   simp only [cC] at s1;subst s1;cases r1
   cases b with
   | aY=>simp only [cC] at s2;subst s2;cases r2;cases e;exact ⟨.bool_none _,.bool_none _,.bool_none _⟩
   | bl y=>simp only [cC] at s2;subst s2;cases r2;cases e;exact ⟨.bool_bool _ _,.bool_bool _ _,.bool_bool _ _⟩
   | int y=>simp only [cC] at s2;subst s2;obtain ⟨t,rfl⟩:=r2;cases e;exact ⟨.bool_int _ _ _,.bool_int _ _ _,.bool_int _ _ _⟩
   | str y=>simp only [cC] at s2;subst s2;obtain ⟨t,rfl⟩:=r2;cases e;exact ⟨.bool_str _ _ _,.bool_str _ _ _,.bool_str _ _ _⟩
   | tup y=>obtain ⟨p,us,rfl,pt⟩:=tup s2 r2;cases e;exact ⟨.bool_tuple _ pt bL,.bool_tuple _ pt bL,.bool_tuple _ pt bL⟩
   | ref m=>
    obtain ⟨ds,e1,rfl⟩:=Option.map_eq_some_iff.mp e
    obtain ⟨p,us,rfl,pl⟩:=lst s2 r2 e1
    exact ⟨.bool_list _ pl.isList bL,.bool_list _ pl.isList bL,.bool_list _ pl.isList bL⟩
  | int x=>
   simp only [cC] at s1;subst s1;obtain ⟨t0,rfl⟩:=r1
   cases b with
   | aY=>simp only [cC] at s2;subst s2;cases r2;cases e;exact ⟨.int_none _ _,.int_none _ _,.int_none _ _⟩
   | bl y=>simp only [cC] at s2;subst s2;cases r2;cases e;exact ⟨.int_bool _ _ _,.int_bool _ _ _,.int_bool _ _ _⟩
   | int y=>simp only [cC] at s2;subst s2;obtain ⟨t,rfl⟩:=r2;cases e;exact ⟨.int_int _ _ _ _,.int_int _ _ _ _,.int_int _ _ _ _⟩
   | str y=>simp only [cC] at s2;subst s2;obtain ⟨t,rfl⟩:=r2;cases e;exact ⟨.int_str _ _ _ _,.int_str _ _ _ _,.int_str _ _ _ _⟩
   | tup y=>obtain ⟨p,us,rfl,pt⟩:=tup s2 r2;cases e;exact ⟨.int_tuple _ _ pt bL,.int_tuple _ _ pt bL,.int_tuple _ _ pt bL⟩
   | ref m=>
    obtain ⟨ds,e1,rfl⟩:=Option.map_eq_some_iff.mp e
    obtain ⟨p,us,rfl,pl⟩:=lst s2 r2 e1
    exact ⟨.int_list _ _ pl.isList bL,.int_list _ _ pl.isList bL,.int_list _ _ pl.isList bL⟩
  | str x=>
   simp only [cC] at s1;subst s1;obtain ⟨t0,rfl⟩:=r1
   cases b with
   | aY=>simp only [cC] at s2;subst s2;cases r2;cases e;exact ⟨.str_none _ _,.str_none _ _,.str_none _ _⟩
   | bl y=>simp only [cC] at s2;subst s2;cases r2;cases e;exact ⟨.str_bool _ _ _,.str_bool _ _ _,.str_bool _ _ _⟩
   | int y=>simp only [cC] at s2;subst s2;obtain ⟨t,rfl⟩:=r2;cases e;exact ⟨.str_int _ _ _ _,.str_int _ _ _ _,.str_int _ _ _ _⟩
   | str y=>
    simp only [cC] at s2;subst s2;obtain ⟨t,rfl⟩:=r2
    cases e
    rw [←FD]
    exact ⟨.str_str _ _ _ _,.str_str _ _ _ _,.str_str _ _ _ _⟩
   | tup y=>obtain ⟨p,us,rfl,pt⟩:=tup s2 r2;cases e;exact ⟨.str_tuple _ _ pt bL,.str_tuple _ _ pt bL,.str_tuple _ _ pt bL⟩
   | ref m=>
    obtain ⟨ds,e1,rfl⟩:=Option.map_eq_some_iff.mp e
    obtain ⟨p,us,rfl,pl⟩:=lst s2 r2 e1
    exact ⟨.str_list _ _ pl.isList bL,.str_list _ _ pl.isList bL,.str_list _ _ pl.isList bL⟩
  | tup x=>
   cases b with
   | tup y=>
    obtain ⟨p,vs,rfl,z,w1⟩:=s1
    obtain ⟨p',vs',rfl,z',w2⟩:=s2
    cases r1;cases r2
    exact FE I hr bL z z' w1 w2 ih' e
   | aY=>obtain ⟨p,us,rfl,pt⟩:=tup s1 r1;simp only [cC] at s2;subst s2;cases r2;cases e;exact ⟨.tuple_none pt bL,.tuple_none pt bL,.tuple_none pt bL⟩
   | bl y=>obtain ⟨p,us,rfl,pt⟩:=tup s1 r1;simp only [cC] at s2;subst s2;cases r2;cases e;exact ⟨.tuple_bool _ pt bL,.tuple_bool _ pt bL,.tuple_bool _ pt bL⟩
   | int y=>obtain ⟨p,us,rfl,pt⟩:=tup s1 r1;simp only [cC] at s2;subst s2;obtain ⟨t,rfl⟩:=r2;cases e;exact ⟨.tuple_int _ _ pt bL,.tuple_int _ _ pt bL,.tuple_int _ _ pt bL⟩
   | str y=>obtain ⟨p,us,rfl,pt⟩:=tup s1 r1;simp only [cC] at s2;subst s2;obtain ⟨t,rfl⟩:=r2;cases e;exact ⟨.tuple_str _ _ pt bL,.tuple_str _ _ pt bL,.tuple_str _ _ pt bL⟩
   | ref m=>
    obtain ⟨p,us,rfl,pt⟩:=tup s1 r1
    obtain ⟨ds,e1,rfl⟩:=Option.map_eq_some_iff.mp e
    obtain ⟨p',us',rfl,pl⟩:=lst s2 r2 e1
    exact ⟨.tuple_list pt pl.isList bL,.tuple_list pt pl.isList bL,.tuple_list pt pl.isList bL⟩
  | ref i=>
   cases b with
   | ref m=>
    replace e:Ev.jb h (Ev.fS h n) i m=some k:=e
    unfold Ev.jb at e
    split at e
    ·rename_i Wj
     subst Wj
     simp only [Option.map_eq_some_iff] at e
     obtain ⟨ds,e1,rfl⟩:=e
     obtain ⟨p,us,rfl,pl⟩:=lst s1 r1 e1
     obtain ⟨p0,rfl,z⟩:=s1
     obtain ⟨p1,rfl,z'⟩:=s2
     rw [z] at z';cases z'
     cases r1;cases r2
     have q:(List.range (List.toArray us).size).all (fun _=>true)=true:=by simp
     have rc:=RcAt.lists (A:=A) (e:=fun _=>true) pl.isList pl.isList rfl bL fun j _ _=>EqAt.same _
     have ne:=RcNeAt.lists (A:=A) (e:=fun _=>true) pl.isList pl.isList rfl bL fun j _ _=>EqAt.same _
     rw [q] at rc ne
     exact ⟨.same _,rc,ne⟩
    ·rename_i hne
     obtain ⟨p0,rfl,z⟩:=s1
     obtain ⟨p1,rfl,z'⟩:=s2
     cases r1;cases r2
     split at e
     ·rename_i x y g1 g2
      obtain ⟨q0,q1,C9,q2,q3⟩:=hr.ob _ _ g1
      obtain ⟨q4,q5,Dc,q6,q7⟩:=hr.ob _ _ g2
      rw [z] at q1;cases q1
      rw [z'] at q5;cases q5
      exact ng I bL (.of q2) (.of q6) q3 q7 (fun w=>hne (hr.inj _ _ _ _ _ z (by rw [w];exact z') g1 g2)) ih' e
     ·rename_i x y g1 g2
      obtain ⟨q0,q1,C9,q2,q3⟩:=hr.ob _ _ g1
      obtain ⟨q4,q5,Dc,q6,q7⟩:=hr.ob _ _ g2
      rw [z] at q1;cases q1
      rw [z'] at q5;cases q5
      exact ng I bL (De q2) (.of q6) q3 q7 (lU I q2 q6) ih' e
     ·rename_i x y g1 g2
      obtain ⟨q0,q1,C9,q2,q3⟩:=hr.ob _ _ g1
      obtain ⟨q4,q5,Dc,q6,q7⟩:=hr.ob _ _ g2
      rw [z] at q1;cases q1
      rw [z'] at q5;cases q5
      exact ng I bL (.of q2) (De q6) q3 q7 (lU I q6 q2).symm ih' e
     ·cases e
   | aY=>obtain ⟨ds,e1,rfl⟩:=Option.map_eq_some_iff.mp e;obtain ⟨p,us,rfl,pl⟩:=lst s1 r1 e1;simp only [cC] at s2;subst s2;cases r2;exact ⟨.list_none pl.isList bL,.list_none pl.isList bL,.list_none pl.isList bL⟩
   | bl y=>obtain ⟨ds,e1,rfl⟩:=Option.map_eq_some_iff.mp e;obtain ⟨p,us,rfl,pl⟩:=lst s1 r1 e1;simp only [cC] at s2;subst s2;cases r2;exact ⟨.list_bool _ pl.isList bL,.list_bool _ pl.isList bL,.list_bool _ pl.isList bL⟩
   | int y=>obtain ⟨ds,e1,rfl⟩:=Option.map_eq_some_iff.mp e;obtain ⟨p,us,rfl,pl⟩:=lst s1 r1 e1;simp only [cC] at s2;subst s2;obtain ⟨t,rfl⟩:=r2;exact ⟨.list_int _ _ pl.isList bL,.list_int _ _ pl.isList bL,.list_int _ _ pl.isList bL⟩
   | str y=>obtain ⟨ds,e1,rfl⟩:=Option.map_eq_some_iff.mp e;obtain ⟨p,us,rfl,pl⟩:=lst s1 r1 e1;simp only [cC] at s2;subst s2;obtain ⟨t,rfl⟩:=r2;exact ⟨.list_str _ _ pl.isList bL,.list_str _ _ pl.isList bL,.list_str _ _ pl.isList bL⟩
   | tup y=>
    obtain ⟨ds,e1,rfl⟩:=Option.map_eq_some_iff.mp e
    obtain ⟨p,us,rfl,pl⟩:=lst s1 r1 e1
    obtain ⟨p',us',rfl,pt⟩:=tup s2 r2
    exact ⟨.list_tuple pl.isList pt bL,.list_tuple pl.isList pt bL,.list_tuple pl.isList pt bL⟩
where
 De {K:PySem.W.Frag} {H:Hp} {a:Addr} {vs:List V} (q:vP K H a vs):dB K H a vs:=by
  rcases q with ⟨ob,e2⟩ | e2
  ·exact .inl (.inr ⟨ob,e2⟩)
  ·exact .inr e2
end
theorem Good.units {G:Tb}{n:Nat}{sc:Scope}{N:List Str}{df:Bool}{X:Cx}(g:Good G n sc N df X):X.A.units+1+Ev.deep<cLine:=by
 have:=g.room.un
 have:Ev.deep=20:=rfl
 omega
section
variable {G:Tb}{n:Nat}{sc:Scope}{N:List Str}{df:Bool}{X:Cx}
theorem pO {pins:List (Addr×Obj)}{σ:L2.St}{H:Hp}{s:Shared}{Q:VK}{r:List Addr}{h:Hh}{k:Bool}(I:Inv X pins σ H s) (hr:HR X.K H r h) (q:Res X.K r H h (.bl k) Q):EP X pins σ Q (.bool k) s:=
 ⟨.bl k,H,I,rfl,q.here rfl hr⟩
theorem Df (g:Good G n sc N df X):dD X (compareOp .Eq) (gU X.K (gH .eq)):=by
 intro pins s σ H x y v u Q I rx ry q
 obtain ⟨r,h,a,b,d,h',hr,v1,v2,e,q⟩:=q
 obtain ⟨k,e1,rfl,rfl⟩:=jW e
 have:=g.units
 exact (vZ I hr Ev.deep X.A a b x y v u k (by omega) v1 v2 rx ry e1).rc _ _ _ _ (pO I hr q)
theorem OD (g:Good G n sc N df X):dD X (compareOp .NotEq) (gU X.K (gH .ne)):=by
 intro pins s σ H x y v u Q I rx ry q
 obtain ⟨r,h,a,b,d,h',hr,v1,v2,e,q⟩:=q
 obtain ⟨k,e1,rfl,rfl⟩:=jW e
 have:=g.units
 delta Ev.cop at e1;dsimp only at e1;simp only [Option.map_eq_some_iff] at e1
 obtain ⟨k',e2,rfl⟩:=e1
 exact (vZ I hr Ev.deep X.A a b x y v u k' (by omega) v1 v2 rx ry e2).ne _ _ _ _ (pO I hr q)
theorem yD {op:CmpOp}{o:bQ}{p:Int→Int→Bool}(ho:dD X (compareOp op) (rD fun i j=>.bl (p i j))) (hc:∀ a b h k,Ev.cop o a b h=some k→∃ i j,a=.int i∧b=.int j∧k=p i j):dD X (compareOp op) (gU X.K (gH o)):=by
 intro pins s σ H x y v u Q I rx ry q
 obtain ⟨r,h,a,b,d,h',hr,v1,v2,e,q⟩:=q
 obtain ⟨k,e1,rfl,rfl⟩:=jW e
 obtain ⟨i,j,rfl,rfl,rfl⟩:=hc _ _ _ _ e1
 exact ho pins s σ H x y v u Q I rx ry ⟨i,j,v1,v2,q.here rfl hr⟩
theorem Dg:dD X (compareOp .Lt) (gU X.K (gH .lt)):=yD Oc fun a b h k e=>by
 cases a <;> cases b <;> (delta Ev.cop at e;dsimp only at e) <;> first | (cases e;exact ⟨_,_,rfl,rfl,rfl⟩) | cases e
theorem Dh:dD X (compareOp .Gt) (gU X.K (gH .gt)):=yD Od fun a b h k e=>by
 cases a <;> cases b <;> (delta Ev.cop at e;dsimp only at e) <;> first | (cases e;exact ⟨_,_,rfl,rfl,rfl⟩) | cases e
end
end Sm
set_option maxRecDepth 100000
namespace Sm
open PySem PySem.Spec PyProof.Rows L2 PySem.SeqAt
open Ev (D O Hh Fr R aR E Es Eo T S Ss Fl Src bW bQ TY BI ME)
theorem uH {h:Hh}{x:D}:∀ {ys:List D}{k:Bool},Ev.mem h x ys=some k→∃ e:Nat→Bool,(∀ (j:Nat) y,ys[j]?=some y→Ev.fS h Ev.deep y x=some (e j))∧(List.range ys.length).any e=k
 | [],_,e=>⟨fun _=>true,(fun j y h=>by simp at h),by cases e;simp⟩
 | y :: ys,k,e=>by
  simp only [Ev.mem,Option.bind_eq_bind,Option.bind_eq_some_iff] at e
  obtain ⟨p,e1,q,e2,e3⟩:=e
  cases e3
  obtain ⟨e,h1,h2⟩:=uH e2
  refine ⟨fun j=>match j with | 0=>p | j+1=>e j,fun j y' g=>?_,?_⟩
  ·cases j with
   | zero=>simp at g;subst g;exact e1
   | succ j=>exact h1 j y' (by simpa using g)
  ·rw [List.length_cons,List.range_succ_eq_map,List.any_cons,List.any_map,←h2]
   rfl
section
variable {X:Cx}{pins:List (Addr×Obj)}{σ:L2.St}{H:Hp}{s:Shared}{r:List Addr}{h:Hh}
open Classical in
theorem uI (I:Inv X pins σ H s) (hr:HR X.K H r h) {A:Around}(hu:A.units+1+Ev.deep<cLine) {x:D}{vx:V}{ux:Value}(v1:RV X.K H r x vx) (rx:RelV vx ux) {ys:List D}{vs:List V}{us:List Value}(v2:aG X.K H r ys vs) (p2:Vals vs us) {k:Bool}(e:Ev.mem h x ys=some k) :
  ∃ f:Value→Bool,(∀ y,y∈us.toArray→EqAt A.in1 s y ux (f y))∧us.toArray.any f=k:=by
 obtain ⟨e',h1,h2⟩:=uH e
 have l1:=v2.length
 have l2:=p2.length
 have at':∀ (j:Nat) (hj:j<us.length),EqAt A.in1 s us[j] ux (e' j):=fun j hj=>by
  have ha:ys[j]?=some ys[j]:=List.getElem?_eq_getElem (by omega)
  obtain ⟨va,a1,a2⟩:=v2.get ha
  obtain ⟨u,a3,a4⟩:=p2.get a1
  have eu:us[j]=u:=(List.getElem?_eq_some_iff.mp a3).2
  rw [eu]
  exact (vZ I hr Ev.deep A.in1 _ _ _ _ _ _ _ (by show A.units+1+Ev.deep<cLine;exact hu) a2 v1 a4 rx (h1 j _ ha)).eq
 refine ⟨fun y=>decide (∃ j,∃ hj:j<us.length,us[j]=y∧e' j=true),fun y hy=>?_,?_⟩
 ·by_cases hx:∃ j,∃ hj:j<us.length,us[j]=y∧e' j=true
  ·obtain ⟨j,hj,rfl,ej⟩:=hx
   have q:=at' j hj
   rw [ej] at q
   have:decide (∃ j',∃ hj':j'<us.length,us[j']=us[j]∧e' j'=true)=true:=decide_eq_true ⟨j,hj,rfl,ej⟩
   show EqAt A.in1 s us[j] ux (decide (∃ j',∃ hj':j'<us.length,us[j']=us[j]∧e' j'=true))
   rw [this]
   exact q
  ·show EqAt A.in1 s y ux (decide (∃ j',∃ hj':j'<us.length,us[j']=y∧e' j'=true))
   rw [decide_eq_false hx]
   have hy':y∈us:=by simpa using hy
   obtain ⟨j,hj,rfl⟩:=List.getElem_of_mem hy'
   have q:=at' j hj
   have:e' j=false:=by
    cases z:e' j with
    | false=>rfl
    | true=>exact absurd ⟨j,hj,rfl,z⟩ hx
   rw [this] at q
   exact q
 ·rw [←h2,Bool.eq_iff_iff,Array.any_eq_true',List.any_eq_true]
  constructor
  ·rintro ⟨y,hy,hd⟩
   obtain ⟨j,hj,_,ej⟩:=of_decide_eq_true hd
   exact ⟨j,List.mem_range.mpr (by omega),ej⟩
  ·rintro ⟨j,hj,ej⟩
   have hj':j<us.length:=by have:=List.mem_range.mp hj;omega
   exact ⟨us[j],by simp,decide_eq_true ⟨j,hj',rfl,ej⟩⟩
end
section
variable {G:Tb}{n:Nat}{sc:Scope}{N:List Str}{df:Bool}{X:Cx}
theorem in_of (g:Good G n sc N df X) {pins:List (Addr×Obj)}{σ:L2.St}{H:Hp}{s:Shared}{r:List Addr}{h:Hh}(I:Inv X pins σ H s) (hr:HR X.K H r h) {a b:D}{x y:V}{v u:Value}{k:Bool}(v1:RV X.K H r a x) (v2:RV X.K H r b y) (rx:RelV x v) (ry:RelV y u) (e:Ev.isin a b h=some k) :
  (∀ Q:Value→Shared→Prop,∀ E:Value→Shared→Prop,Q (.bool k) s→wpAny (model X.prog X.w) X.A (compareOp .In v u) Q E s)∧(∀ Q:Value→Shared→Prop,∀ E:Value→Shared→Prop,Q (.bool (!k)) s→wpAny (model X.prog X.w) X.A (compareOp .NotIn v u) Q E s):=by
 have hu:=g.units
 cases b with
 | str l=>
  cases a with
  | str c=>
   have s1:=v1.shape
   have s2:=v2.shape
   simp only [cC] at s1 s2
   subst s1 s2
   obtain ⟨t,rfl⟩:=rx
   obtain ⟨t',rfl⟩:=ry
   match c,e with
   | [c],e=>
    cases e
    have q:(!(Builtin.Str.occurrences (bg l) (bg [c]) 0 (bg l).length 1).isEmpty)=l.contains c:=by
     have:=PySem.StrLaws.found_one (bg l) c
     rw [show (bg [c])=⟨#[c]⟩ from rfl,this,Bool.eq_iff_iff]
     have e1:l.contains c=true↔c∈l:=by simp
     rw [e1]
     exact ⟨fun z=>by simpa [bg] using of_decide_eq_true z,fun z=>decide_eq_true (by simpa [bg] using z)⟩
    refine ⟨fun Q E hq=>in_str (by rw [q];exact hq),fun Q E hq=>notIn_str (by rw [q];exact hq)⟩
   | [],e=>cases e
   | _ :: _ :: _,e=>cases e
  | _=>cases e
 | tup ys=>
  obtain ⟨p,vs,rfl,z,w⟩:=v2.shape
  cases ry
  obtain ⟨us,pv,pt,_⟩:=I.tuple z
  obtain ⟨f,f1,f2⟩:=uI I hr hu v1 rx w pv e
  refine ⟨fun Q E hq=>in_tupleAt f pt f1 (by rw [f2];exact hq),fun Q E hq=>notIn_tupleAt f pt f1 (by rw [f2];exact hq)⟩
 | ref i=>
  simp only [Ev.isin,Option.bind_eq_some_iff] at e
  obtain ⟨ds,e1,e2⟩:=e
  obtain ⟨p,rfl,z⟩:=v2.shape
  cases ry
  obtain ⟨p',vs,z',q1,w⟩:=hr.read e1
  rw [z] at z';cases z'
  obtain ⟨us,pv,pl,_⟩:=I.list q1
  obtain ⟨f,f1,f2⟩:=uI I hr hu v1 rx w pv e2
  refine ⟨fun Q E hq=>in_listAt f pl.isList f1 (by rw [f2];exact hq),fun Q E hq=>notIn_listAt f pl.isList f1 (by rw [f2];exact hq)⟩
 | _=>cases e
theorem AG (g:Good G n sc N df X):dD X (compareOp .NotIn) (gU X.K (gH .gg)):=by
 intro pins s σ H x y v u Q I rx ry q
 obtain ⟨r,h,a,b,d,h',hr,v1,v2,e,q⟩:=q
 obtain ⟨k,e1,rfl,rfl⟩:=jW e
 have e2:(Ev.isin a b h').map (!·)=some k:=by cases a <;> cases b <;> exact e1
 simp only [Option.map_eq_some_iff] at e2
 obtain ⟨k',e3,rfl⟩:=e2
 exact (in_of g I hr v1 v2 rx ry e3).2 _ _ (pO I hr q)
theorem pP (a b:List Nat):bg a++bg b=bg (a++b):=by
 show Str.append (bg a) (bg b)=_
 simp [Str.append,bg]
theorem FF {pins:List (Addr×Obj)}{σ:L2.St}{H:Hp}{s:Shared}{Q:Value→Shared→Prop}{E:Value→Shared→Prop}(I:Inv X pins σ H s) {a b:Addr}{ys:List V}(h1:dh X.K H a []) (h2:dh X.K H b ys) (q:Q (.ref b) s):wpAny (model X.prog X.w) X.A (binaryOp .Add (.ref a) (.ref b)) Q E s:=by
 obtain ⟨us,p1,Wk,_⟩:=I.tuple h1
 obtain ⟨zs,p2,Wl,_⟩:=I.tuple h2
 cases p1
 obtain ⟨⟨cls,dd,data,sl⟩,ho,hc,n,hd⟩:=id Wk
 obtain ⟨⟨Tc,dd2,data2,sl2⟩,ho2,hc2,n2,hd2⟩:=id Wl
 simp only at hc hd hc2 hd2
 subst hc hd hc2 hd2
 exact concat_meets ⟨_,ho,rfl⟩ ⟨_,ho2,rfl⟩ noFill_tuple_add seq_tuple_add PySem.F.slot_tuple_add PySem.F.entry_tuple_add (PySem.F.args_tuple_add_2 _ _)
  (tuple_addW0 a b _ _ n n2 dd dd2 sl sl2 (by simp)) ⟨ho,ho2,q⟩
theorem Jp:dD X (binaryOp .Add) (gU X.K (Ev.bH .add)):=by
 intro pins s σ H x y v u Q I rx ry q
 obtain ⟨r,h,a,b,d,h',hr,v1,v2,e,q⟩:=q
 have s1:=v1.shape
 have s2:=v2.shape
 cases a with
 | int i=>cases b with
  | int j=>cases e;exact HQ pins s σ H x y v u Q I rx ry ⟨i,j,s1,s2,q.here rfl hr⟩
  | _=>cases e
 | str i=>cases b with
  | str j=>
   delta Ev.bH at e;dsimp only at e
   split at e
   ·rename_i hz
    cases e
    rw [jc] at hz
    refine vG pins s σ H x y v u Q I rx ry ⟨bg i,bg j,s1,s2,by rw [cI,cI];exact hz,?_⟩
    rw [pP]
    exact q.here ⟨rfl,by rw [List.length_append];exact hz⟩ hr
   ·cases e
  | _=>cases e
 | tup i=>cases b with
  | tup j=>
   delta Ev.bH at e;dsimp only at e
   split at e
   ·rename_i hz
    cases e
    rw [jc] at hz
    obtain ⟨pa,vs,rfl,z1,w1⟩:=s1
    obtain ⟨pb,ws,rfl,z2,w2⟩:=s2
    have l1:=w1.length
    have l2:=w2.length
    cases vs with
    | nil=>
     cases rx;cases ry
     refine FF I z1 z2 ⟨.ref pb,H,I,rfl,q.here ?_ hr⟩
     have:i=[]:=by cases i with | nil=>rfl | cons _ _=>simp at l1
     subst this
     exact ⟨pb,ws,rfl,z2,by simpa using w2⟩
    | cons v0 vs=>
     refine E8 pins s σ H _ _ v u Q I rx ry ⟨pa,pb,v0 :: vs,ws,rfl,rfl,z1,z2,by simp,by rw [l1,l2];exact hz,fun hw=>?_,fun hw p hp=>?_⟩
     ·subst hw
      have:j=[]:=by cases j with | nil=>rfl | cons _ _=>simp at l2
      subst this
      exact q.here ⟨pa,v0 :: vs,rfl,z1,by simpa using w1⟩ hr
     ·exact q.tup (w1.append w2) hr hp
   ·cases e
  | _=>cases e
 | ref i=>cases b with
  | ref j=>
   delta Ev.bH at e;dsimp only at e
   split at e
   ·rename_i ds es e1 e2
    obtain ⟨pa,rfl,z1⟩:=s1
    obtain ⟨pb,rfl,z2⟩:=s2
    cases rx;cases ry
    obtain ⟨p1,g1,vs,g2,g3⟩:=hr.ob _ _ e1
    obtain ⟨p2,k1,ws,k2,k3⟩:=hr.ob _ _ e2
    rw [z1] at g1;cases g1
    rw [z2] at k1;cases k1
    obtain ⟨hz,q2⟩:=q.lst e (g3.append k3) hr
    exact Im pins s σ H (.ref pa) (.ref pb) _ _ Q I rfl rfl ⟨_,_,vs,ws,rfl,rfl,g2,k2,by rw [List.length_append] at hz;exact hz,q2⟩
   ·cases e
  | _=>cases e
 | _=>cases b <;> cases e
theorem Jq:dD X (binaryOp .Sub) (gU X.K (Ev.bH .sub)):=by
 intro pins s σ H x y v u Q I rx ry q
 obtain ⟨r,h,a,b,d,h',hr,v1,v2,e,q⟩:=q
 cases a with
 | int i=>cases b with
  | int j=>cases e;exact HS pins s σ H x y v u Q I rx ry ⟨i,j,v1,v2,q.here rfl hr⟩
  | _=>cases e
 | _=>cases b <;> cases e
theorem FG:dD X (binaryOp .FloorDiv) (gU X.K (Ev.bH .fdiv)):=by
 intro pins s σ H x y v u Q I rx ry q
 obtain ⟨r,h,a,b,d,h',hr,v1,v2,e,q⟩:=q
 cases a with
 | int i=>cases b with
  | int j=>
   delta Ev.bH at e;dsimp only at e
   split at e
   ·rename_i hz;cases e;exact EZ pins s σ H x y v u Q I rx ry ⟨i,j,v1,v2,hz,q.here rfl hr⟩
   ·cases e
  | _=>cases e
 | _=>cases b <;> cases e
theorem Jr:dD X (binaryOp .Mod) (gU X.K (Ev.bH .mod)):=by
 intro pins s σ H x y v u Q I rx ry q
 obtain ⟨r,h,a,b,d,h',hr,v1,v2,e,q⟩:=q
 cases a with
 | int i=>cases b with
  | int j=>
   delta Ev.bH at e;dsimp only at e
   split at e
   ·rename_i hz;cases e;exact HV pins s σ H x y v u Q I rx ry ⟨i,j,v1,v2,hz,q.here rfl hr⟩
   ·cases e
  | _=>cases e
 | _=>cases b <;> cases e
end
end Sm
set_option maxRecDepth 100000
namespace Sm
open PySem PySem.Spec PyProof.Rows L2 PySem.SeqAt
open Ev (D O Hh Fr R aR E Es Eo T S Ss Fl Src bW bQ TY BI ME)
section
variable {X:Cx}
theorem Js (n:Nat) (i:Int):Ev.dY n i=L2.dY n i:=rfl
theorem Jt {α:Type}(xs:List α) (i:Int):Ev.bK xs i=L2.bK xs i:=rfl
theorem aG.bK {K:PySem.W.Frag}{H:Hp}{r:List Addr}{ds:List D}{vs:List V}{i:Int}{d:D}(w:aG K H r ds vs) (e:Ev.bK ds i=some d):∃ v,L2.bK vs i=some v∧RV K H r d v:=by
 unfold Ev.bK at e
 obtain ⟨j,e1,e2⟩:=Option.bind_eq_some_iff.mp e
 obtain ⟨v,e3,e4⟩:=w.get e2
 exact ⟨v,by unfold L2.bK;rw [w.length,←Js,e1];exact e3,e4⟩
theorem OE:ur X (gU X.K IP):=by
 intro value slice pins s σ H x y v u Q I rx ry q hs
 obtain ⟨r,h,a,b,d,h',hr,v1,v2,e,q⟩:=q
 obtain ⟨e,rfl⟩:=Ev.aM e
 cases b with
 | int i=>
  have s2:=v2.shape
  cases a with
  | tup ds=>
   obtain ⟨p,vs,rfl,z,w⟩:=v1.shape
   obtain ⟨v',g1,g2⟩:=w.bK e
   exact Ih value slice pins s σ H _ y v u Q I rx ry ⟨p,vs,i,v',rfl,s2,z,g1,q.here g2 hr⟩ hs
  | str l=>
   simp only [RV] at v1
   obtain ⟨rfl,hl⟩:=v1
   simp only [Ev.eZ,Option.map_eq_some_iff] at e
   obtain ⟨c,e1,rfl⟩:=e
   exact Ii value slice pins s σ H _ y v u Q I rx ry ⟨bg l,i,c,rfl,s2,by rw [cI];exact hl,by simpa [bg,Jt] using e1,q.here ⟨rfl,by show 1≤sizeLine;decide⟩ hr⟩ hs
  | ref m=>
   simp only [Ev.eZ,Option.bind_eq_some_iff] at e
   obtain ⟨ds,e1,e2⟩:=e
   obtain ⟨p,rfl,z⟩:=v1.shape
   obtain ⟨p',vs,z',q1,w⟩:=hr.read e1
   rw [z] at z';cases z'
   obtain ⟨v',g1,g2⟩:=w.bK e2
   exact Fb value slice pins s σ H _ y v u Q I rx ry ⟨p,vs,i,v',rfl,s2,q1,g1,q.here g2 hr⟩ hs
  | _=>cases e
 | _=>cases a <;> cases e
theorem aG.cut {K:PySem.W.Frag}{H:Hp}{r:List Addr}{ds:List D}{vs:List V}(w:aG K H r ds vs) (lo hi:Option Int):aG K H r (Ev.cut ds lo hi) (kT vs lo hi):=by
 unfold Ev.cut kT
 rw [w.length]
 exact (w.drop _).take _
theorem qC {α:Type}(xs:List α) (lo hi:Option Int) (h:Ev.aQ xs.length 0 lo=0∧Ev.aQ xs.length xs.length hi=xs.length):Ev.cut xs lo hi=xs:=by
 unfold Ev.cut
 rw [h.1,h.2]
 simp
theorem FH {α:Type}(xs:List α) (lo hi:Option Int):(Ev.cut xs lo hi).length≤xs.length:=by
 unfold Ev.cut
 rw [List.length_take,List.length_drop]
 omega
theorem qL {prog:Program}{w:World}{A:Around}{E:Value→Shared→Prop}{s:Shared}{t sl:Addr}{items:Array Value}{vl vu:Value}{lo hi:Option Int}{Q:Value→Shared→Prop}(ht:IsTup s.heap t items)(hs:s.heap.IsSliceOf sl vl vu .none)(pl:IsPart vl lo)(pu:IsPart vu hi)
  (hw:HT.aQ items.size 0 lo=0∧HT.aQ items.size items.size hi=items.size) (h:Q (.ref t) s):wpAny (model prog w) A (getItem (.ref t) (.ref sl)) Q E s:=by
 obtain ⟨os,hos,hcs,hds⟩:=id hs
 have Ie:s.TypeIs (.ref sl) "slice" :=⟨os,hos,hcs⟩
 unfold getItem
 try with_reducible refine wpAny_holding ?_
 first | refine wpAny_bind (wpAny_pure ?_) | skip
 refine wpAny_bind (wpAny_sequenceKey ht.typeIs (by decide) ?_)
 refine wpAny_bind (wpAny_callSpecial?_slot (name:=Str.ofString "__getitem__") ht.typeIs PyProof.Rows.slot_tuple_getitem
  (wpAny_call_entry PyProof.Rows.slot_tuple_getitem ht.typeIs entry_tuple_getitem ?_ (args_tuple_getitem _ _)))
 show wpAny _ _ (Builtin.Tuple.tupleItemsOf (.ref t) >>= _) _ _ s
 refine wpAny_bind (tupleItemsOf_ ht ?_)
 refine wpAny_bind (wpAny_typeOf Ie ?_)
 rw [if_pos (by decide)]
 refine wpAny_bind (HT.ja hs pl pu ?_)
 have hyes:(((HT.aQ items.size 0 lo:Nat):Int)==0&&(1:Int)==1&&(HT.aQ items.size items.size hi - HT.aQ items.size 0 lo)==items.size)=true:=by
  rw [hw.1,hw.2];simp
 show wpAny _ _ (if (((HT.aQ items.size 0 lo:Nat):Int)==0&&(1:Int)==1&&(HT.aQ items.size items.size hi - HT.aQ items.size 0 lo)==items.size)=true then _ else _) _ _ s
 rw [if_pos hyes]
 refine wpAny_bind (m:=Builtin.Tuple.tupleIsExact (.ref t)) (wpAny_bind (wpAny_typeOf ht.typeIs (wpAny_pure ?_)))
 show wpAny _ _ (if ((Value.type "tuple" ==Value.type "tuple")=true) then _ else _) _ _ s
 rw [if_pos (by decide)]
 exact wpAny_bind (wpAny_rule (wpAny_bind (wpAny_pure (wpAny_pure ⟨_,rfl,wpAny_pure h⟩))))
theorem yE (lo hi:Option Int) (n:Nat):Builtin.Str.strSliceIndices lo hi 1 n=(List.range (Ev.aQ n n hi - Ev.aQ n 0 lo)).map (fun k=>Ev.aQ n 0 lo+k):=by
 have Ju:∀ o:Option Int,((match o with | none=>(0:Int) | some i=>max 0 (min (if i<0 then i+(n:Int) else i) (n:Int))))=((Ev.aQ n 0 o:Nat):Int):=fun o=>by
  cases o with
  | none=>rfl
  | some i=>simp only [Ev.aQ];split <;> omega
 have Jv:∀ o:Option Int,((match o with | none=>(n:Int) | some i=>max 0 (min (if i<0 then i+(n:Int) else i) (n:Int))))=((Ev.aQ n n o:Nat):Int):=fun o=>by
  cases o with
  | none=>rfl
  | some i=>simp only [Ev.aQ];split <;> omega
 have e:Builtin.Str.strSliceIndices lo hi 1 n=sliceRange (match lo with | none=>(0:Int) | some i=>max 0 (min (if i<0 then i+(n:Int) else i) (n:Int))) (match hi with | none=>(n:Int) | some i=>max 0 (min (if i<0 then i+(n:Int) else i) (n:Int))) 1:=by
  unfold Builtin.Str.strSliceIndices
  cases lo <;> cases hi <;> simp
 rw [e,Ju,Jv,sliceRange_one]
theorem Jw (l:List Nat) (lo hi:Option Int):((Builtin.Str.strSliceIndices lo hi 1 (bg l).length).filterMap ((bg l).cps[·]?)).toArray=(Ev.cut l lo hi).toArray:=by
 rw [cI,yE,pick_run]
 simp [bg,Ev.cut]
theorem Jx:jV X (Iw X.K):=by
 intro pins s σ H x v vl vu lo hi sl Q I rx hs pl pu q
 obtain ⟨r,h,a,d,h',hr,v1,e,q⟩:=q
 cases a with
 | tup ds=>
  cases e
  obtain ⟨p,vs,rfl,z,w⟩:=v1.shape
  by_cases hw:HT.aQ vs.length 0 lo=0∧HT.aQ vs.length vs.length hi=vs.length
  ·cases rx
   obtain ⟨us,pv,pt,hz⟩:=I.tuple z
   have hl:=pv.length
   have Wm:Ev.aQ ds.length 0 lo=0∧Ev.aQ ds.length ds.length hi=ds.length:=by rw [←w.length];exact hw
   refine ⟨"tuple",_,PyProof.Rows.slot_tuple_getitem.lookup,pt.typeIs,?_⟩
   refine qL pt hs pl pu (by rw [List.size_toArray,←hl];exact hw) ⟨.ref p,H,I,rfl,q.here ?_ hr⟩
   rw [qC ds lo hi Wm]
   exact ⟨p,vs,rfl,z,w⟩
  ·exact Ig pins s σ H _ v vl vu lo hi sl Q I rx hs pl pu ⟨p,vs,rfl,z,hw,fun p' hp=>q.tup (w.cut lo hi) hr hp⟩
 | str l=>
  simp only [RV] at v1
  obtain ⟨rfl,hl⟩:=v1
  obtain ⟨t,rfl⟩:=rx
  cases e
  refine ⟨"str",_,PySem.F.slot_str_getitem.lookup,typeIs_str s _ t,?_⟩
  have part:∀ {v:Value} {o:Option Int},IsPart v o→∃ p:Option (Int×Tok),v=partValue p∧p.map (·.1)=o:=fun {v o} hp=>by
   cases hp with
   | none=>exact ⟨none,rfl,rfl⟩
   | int i t=>exact ⟨some (i,t),rfl,rfl⟩
  obtain ⟨l1,e1,e2⟩:=part pl
  obtain ⟨u1,e3,e4⟩:=part pu
  subst e1 e3
  obtain ⟨os,hos,hcs,hds⟩:=hs
  refine wpAny_getItem_str_slice (l:=l1) (u:=u1) (st:=none) ⟨os,hos,hcs,hds⟩ rfl ?_
  have Di:((slicePicked (bg l) l1 u1 none).filterMap ((bg l).cps[·]?)).toArray=(Ev.cut l lo hi).toArray:=by
   show ((Builtin.Str.strSliceIndices (l1.map (·.1)) (u1.map (·.1)) 1 (bg l).length).filterMap ((bg l).cps[·]?)).toArray=_
   rw [e2,e4]
   exact Jw l lo hi
  have hcl:=FH l lo hi
  unfold sliceMade
  refine post_val_or_made (fun _=>?_) fun t' k=>?_
  ·rw [Di]
   show (Ev.cut l lo hi).toArray.size≤sizeLine
   simp only [List.size_toArray]
   omega
  ·have hres:(if (((none:Option (Int×Tok)).map (·.1)).getD 1==1&&(slicePicked (bg l) l1 u1 none).length==(bg l).length)=true then bg l else (⟨((slicePicked (bg l) l1 u1 none).filterMap ((bg l).cps[·]?)).toArray⟩:Str))=bg (Ev.cut l lo hi):=by
    split
    ·rename_i hc
     rw [Bool.and_eq_true] at hc
     have hlen:(slicePicked (bg l) l1 u1 none).length=(bg l).length:=eq_of_beq hc.2
     have hlen2:(slicePicked (bg l) l1 u1 none).length=Ev.aQ l.length l.length hi - Ev.aQ l.length 0 lo:=by
      show (Builtin.Str.strSliceIndices (l1.map (·.1)) (u1.map (·.1)) 1 (bg l).length).length=_
      rw [e2,e4,yE,cI]
      simp
     rw [cI] at hlen
     have hb:Ev.aQ l.length l.length hi≤l.length:=HT.rF _ _ (Nat.le_refl _) hi
     have ha:Ev.aQ l.length 0 lo≤l.length:=HT.rF _ _ (Nat.zero_le _) lo
     rw [qC l lo hi ⟨by omega,by omega⟩]
    ·rw [Di];rfl
   rw [hres]
   exact ⟨.str (bg (Ev.cut l lo hi)),H,I.tok _,⟨_,rfl⟩,q.here ⟨rfl,by omega⟩ hr⟩
 | ref m=>
  simp only [Ev.eF] at e
  split at e
  ·rename_i ds e1
   obtain ⟨p,rfl,z⟩:=v1.shape
   obtain ⟨p',vs,z',q1,w⟩:=hr.read e1
   rw [z] at z';cases z'
   obtain ⟨hz,q2⟩:=q.lst e (w.cut lo hi) hr
   exact Fc pins s σ H _ v vl vu lo hi sl Q I rx hs pl pu ⟨p,vs,rfl,q1,q2⟩
  ·cases e
 | _=>cases e
theorem rZ:∀ (k:Nat) (l:List Nat) (acc:List Nat),(List.replicate k l.toArray).foldl (·++·) acc.toArray=(acc++Ev.rep k l).toArray
 | 0,l,acc=>by simp [Ev.rep]
 | k+1,l,acc=>by
  rw [List.replicate_succ,List.foldl_cons]
  have:acc.toArray++l.toArray=(acc++l).toArray:=by simp
  rw [this,rZ k l (acc++l)]
  simp [Ev.rep,List.replicate_succ]
theorem lV {α:Type}(k:Nat) (l:List α):(Ev.rep k l).length=k*l.length:=by
 unfold Ev.rep
 exact len_rep l k
theorem FJ {l:List Nat}{k:Int}(h:0≤k):Txt.mul (bg l) k=bg (Ev.rep k.toNat l):=by
 unfold Txt.mul
 by_cases h1:k<1
 ·have:k=0:=by omega
  subst this
  rw [if_pos (by decide)]
  rfl
 ·rw [if_neg h1]
  split
  ·rename_i hc
   rw [Bool.or_eq_true] at hc
   rcases hc with hc | hc
   ·have:k=1:=by simpa using hc
    subst this
    simp [Ev.rep]
   ·rw [cI] at hc
    have:l=[]:=by cases l with | nil=>rfl | cons _ _=>simp at hc
    subst this
    simp [Ev.rep,bg]
  ·show (⟨(List.replicate k.toNat (bg l).cps).foldl (·++·) #[]⟩:Str)=_
   have:=rZ k.toNat l []
   simp only [List.nil_append] at this
   exact congrArg Str.mk this
theorem jr {a b:Nat}(h1:a≤1000) (h2:b≤1000):a*b≤sizeLine:=Nat.le_trans (Nat.mul_le_mul h1 h2) (by decide)
theorem FL {pins:List (Addr×Obj)}{σ:L2.St}{H:Hp}{s:Shared}{Q:VK}(I:Inv X pins σ H s) {l:List Nat}{k:Int}{t u:Tok}(hk:0≤k∧k≤1000∧l.length≤1000) (q:Q (.str (bg (Ev.rep k.toNat l))) H) :
  wpAny (model X.prog X.w) X.A (binaryOp .Mult (.str (bg l) t) (.int k u)) (EP X pins σ Q) X.xe s:=by
 have hok:MulOk (bg l) k:=mulOk_of 1000 1000 (by rw [cI];exact hk.2.2) (by exact hk.2.1) (by omega) (by decide) (by decide)
 refine SB.mul hok fun t' k'=>?_
 rw [FJ hk.1]
 exact ⟨.str _,H,I.tok _,⟨_,rfl⟩,q⟩
theorem nh:fillsNumberSlot (.type "tuple") "mul" = pure false:=
 PySem.fillsNumberSlot_seq (id:="tuple.__mul__") (r:=some (.builtin "tuple.__rmul__")) PySem.F.slot_tuple_mul.lookup (by decide +kernel) PySem.F.slot_tuple_rmul.lookup (by decide +kernel)
theorem r8:seqRepeat? (.type "tuple")=pure (some (.builtin "tuple.__mul__")):=by
 unfold seqRepeat?
 rw [PySem.seqSlot_of (T:="tuple") (name:="__mul__") (id:="tuple.__mul__") PySem.F.slot_tuple_mul.lookup (by decide +kernel),PySem.seqSlot_of (T:="tuple") (name:="__rmul__") (id:="tuple.__rmul__") PySem.F.slot_tuple_rmul.lookup (by decide +kernel)]
 rfl
theorem v5 (a:Int) (t:Tok) (l:Addr) (items:Array Value) (n:Nat) (dd:Option Addr) (sl:Array (Option Value)) :
  Meets (Builtin.«int.__rmul__» ⟨[.int a t,.ref l],[]⟩) (fun _ R s=>s.heap.get? l=some { cls:=.type "tuple",dict:=dd,data:=.seq items n,slots:=sl }∧R (.ok (.ret Value.notImplemented)) s):=
 .of_wp fun prog w A R s h=>by obtain ⟨hp,g,d,tk,os⟩:=s;obtain ⟨hl,h⟩:=h;wp_walk;exact ⟨_,rfl,h⟩
theorem v8 (l:Addr) (items:Array Value) (n:Nat) (dd:Option Addr) (sl:Array (Option Value)) (k:Int) (u:Tok) (h1:¬ (decide (k < -2 ^ 63) || decide (k≥2 ^ 63))=true) (h3:(items.isEmpty || k==1)=true) :
  Meets (Builtin.«tuple.__mul__» ⟨[.ref l,.int k u],[]⟩) (fun _ R s=>s.heap.get? l=some { cls:=.type "tuple",dict:=dd,data:=.seq items n,slots:=sl }∧R (.ok (.ret (.ref l))) s):=
 .of_wp fun prog w A R s h=>by obtain ⟨hp,g,d,tk,os⟩:=s;obtain ⟨hl,h⟩:=h;have f1:=AutoSeq1.idx_int;wp_walk using AutoSeq1.wpAny_loadPart' hl;rw [if_neg h1];wp_walk using AutoSeq1.wpAny_loadPart' hl;exact ⟨_,rfl,h⟩
theorem v9 (l:Addr) (items:Array Value) (n:Nat) (dd:Option Addr) (sl:Array (Option Value)) (k:Int) (u:Tok) (h1:¬ (decide (k < -2 ^ 63) || decide (k≥2 ^ 63))=true) (h3:¬ (items.isEmpty || k==1)=true) (h4:(decide (k≤0) || items.isEmpty)=true) :
  Meets (Builtin.«tuple.__mul__» ⟨[.ref l,.int k u],[]⟩) (fun _ R s=>s.heap.get? l=some { cls:=.type "tuple",dict:=dd,data:=.seq items n,slots:=sl }∧R (.ok (.ret (Value.ref s.heap.objs.size))) { s with heap:=s.heap.push { cls:=Value.type "tuple",data:=Data.seq #[]},toks:=s.toks }):=
 .of_wp fun prog w A R s h=>by obtain ⟨hp,g,d,tk,os⟩:=s;obtain ⟨hl,h⟩:=h;have f1:=AutoSeq1.idx_int;wp_walk using AutoSeq1.wpAny_loadPart' hl;rw [if_neg h1];wp_walk using AutoSeq1.wpAny_loadPart' hl;exact ⟨_,rfl,h⟩
theorem wc (l:Addr) (items:Array Value) (n:Nat) (dd:Option Addr) (sl:Array (Option Value)) (k:Int) (u:Tok) (h1:¬ (decide (k < -2 ^ 63) || decide (k≥2 ^ 63))=true) (h3:¬ (items.isEmpty || k==1)=true) (h4:¬ (decide (k≤0) || items.isEmpty)=true)
  (h5:¬ (items.size*k > (2 ^ 63 - 1) / 8)) (h6:¬ Builtin.Tuple.tupleTooMany (items.size*k)=true) (hsz:(List.foldl (fun x1 x2=>x1++x2) #[] (List.replicate k.toNat items)).size≤sizeLine) :
  Meets (Builtin.«tuple.__mul__» ⟨[.ref l,.int k u],[]⟩) (fun _ R s=>s.heap.get? l=some { cls:=.type "tuple",dict:=dd,data:=.seq items n,slots:=sl }∧R (.ok (.ret (Value.ref s.heap.objs.size))) { s with heap:=s.heap.push { cls:=Value.type "tuple",data:=Data.seq (List.foldl (fun x1 x2=>x1++x2) #[] (List.replicate k.toNat items))},toks:=s.toks }):=
 .of_wp fun prog w A R s h=>by obtain ⟨hp,g,d,tk,os⟩:=s;obtain ⟨hl,h⟩:=h;have f1:=AutoSeq1.idx_int;wp_walk using AutoSeq1.wpAny_loadPart' hl;rw [if_neg h1];wp_walk using AutoSeq1.wpAny_loadPart' hl;rw [if_neg h5];wp_walk using AutoSeq1.wpAny_loadPart' hl;exact ⟨_,rfl,h⟩
theorem qD:∀ (k:Nat) (l acc:List Value),(List.replicate k l.toArray).foldl (·++·) acc.toArray=(acc++Ev.rep k l).toArray
 | 0,l,acc=>by simp [Ev.rep]
 | k+1,l,acc=>by
  rw [List.replicate_succ,List.foldl_cons]
  have:acc.toArray++l.toArray=(acc++l).toArray:=by simp
  rw [this,qD k l (acc++l)]
  simp [Ev.rep,List.replicate_succ]
theorem FO {pins:List (Addr×Obj)}{σ:L2.St}{H:Hp}{s:Shared}{Q:VK}(I:Inv X pins σ H s) {p:Addr}{vs:List V}{k:Int}{u:Tok}(hk:0≤k∧k≤1000∧vs.length≤1000) (hp:dh X.K H p vs)
  (q1:Ev.rep k.toNat vs=vs→Q (.ref p) H) (q2:∀ p',H p'=none→Q (.ref p') (upd H p' (.tup (Ev.rep k.toNat vs)))) :
  wpAny (model X.prog X.w) X.A (binaryOp .Mult (.ref p) (.int k u)) (EP X pins σ Q) X.xe s:=by
 obtain ⟨us,pv,pt,hz⟩:=I.tuple hp
 obtain ⟨⟨cls,dd,data,sl⟩,ho,hc,n,hd⟩:=id pt
 simp only at hc hd
 subst hc hd
 have hl:=pv.length
 have h1:¬ (decide (k < -2 ^ 63) || decide (k≥2 ^ 63))=true:=by simp;omega
 refine wpAny_binaryOp_repeat_ref (T:="tuple") (U:="int") (by decide) ⟨_,ho,rfl⟩ (fun s'=>typeIs_int s' k u) nh PySem.F.fills_int_mul PySem.F.slot_int_rmul r8 PySem.F.slot_int_index.lookup
  (call_meets PySem.F.slot_int_rmul (typeIs_int s k u) PySem.F.entry_int_rmul (PySem.F.args_int_rmul_2 _ _) (v5 k u p us.toArray n dd sl) ⟨ho,rfl,⟨_,ho,rfl⟩,?_⟩)
 have hrep:∀ m:Nat,(Ev.rep m us).length=m*us.length:=fun m=>lV m us
 by_cases h3:(us.toArray.isEmpty || k==1)=true
 ·refine call_meets PySem.F.slot_tuple_mul ⟨_,ho,rfl⟩ PySem.F.entry_tuple_mul (PySem.F.args_tuple_mul_2 _ _) (v8 p us.toArray n dd sl k u h1 h3) ⟨ho,?_⟩
  refine ⟨.ref p,H,I,rfl,q1 ?_⟩
  rw [Bool.or_eq_true] at h3
  rcases h3 with h3 | h3
  ·have:us=[]:=by simpa using h3
   subst this
   cases pv
   simp [Ev.rep]
  ·have:k=1:=by simpa using h3
   subst this
   simp [Ev.rep]
 ·have laid:∀ m:Nat,m=k.toNat→EP X pins σ Q (.ref s.heap.objs.size) { s with heap:=s.heap.push { cls:=.type "tuple",data:=.seq (Ev.rep m us).toArray }}:=fun m hm=>by
   subst hm
   refine ⟨.ref s.heap.objs.size,_,I.laid (t':=s.toks) (o:=.tup (Ev.rep k.toNat vs)) (fun b ob q=>Heap.get?_push_of_some _ q) (Nat.le_refl _) ?_,rfl,q2 _ (I.hok.fresh (Nat.le_refl _))⟩
   exact ⟨by rw [lV];exact jr (by omega) hk.2.2,_,pv.rep k.toNat,IsTup.new _ _⟩
  by_cases h4:(decide (k≤0) || us.toArray.isEmpty)=true
  ·refine call_meets PySem.F.slot_tuple_mul ⟨_,ho,rfl⟩ PySem.F.entry_tuple_mul (PySem.F.args_tuple_mul_2 _ _) (v9 p us.toArray n dd sl k u h1 h3 h4) ⟨ho,?_⟩
   have hk0:k=0:=by
    rw [Bool.or_eq_true] at h4 h3
    rcases h4 with h4 | h4
    ·have:k≤0:=of_decide_eq_true h4
     omega
    ·exact absurd (.inl h4) h3
   have:=laid 0 (by rw [hk0];rfl)
   exact this
  ·have hm:us.toArray.size*k.toNat≤1000000:=by
    rw [List.size_toArray]
    exact Nat.mul_le_mul (by omega:us.length≤1000) (by omega:k.toNat≤1000)
   have hm':(us.toArray.size:Int)*k≤1000000:=by
    have e:(us.toArray.size:Int)*k=((us.toArray.size*k.toNat:Nat):Int):=by
     rw [Int.natCast_mul,Int.toNat_of_nonneg hk.1]
    rw [e];omega
   have hf:List.foldl (fun x1 x2=>x1++x2) #[] (List.replicate k.toNat us.toArray)=(Ev.rep k.toNat us).toArray:=by
    have:=qD k.toNat us []
    simpa using this
   refine call_meets PySem.F.slot_tuple_mul ⟨_,ho,rfl⟩ PySem.F.entry_tuple_mul (PySem.F.args_tuple_mul_2 _ _) (wc p us.toArray n dd sl k u h1 h3 h4 (by omega) ?_ ?_) ⟨ho,?_⟩
   ·unfold Builtin.Tuple.tupleTooMany
    simp only [decide_eq_true_eq]
    have:(sizeLine:Int)=16777216:=by rw [sizeLine_eq];rfl
    omega
   ·rw [hf]
    simp only [List.size_toArray]
    rw [lV]
    exact jr (by omega) (by omega)
   ·rw [hf]
    exact laid _ rfl
theorem Jy:dD X (binaryOp .Mult) (gU X.K (Ev.bH .mul)):=by
 intro pins s σ H x y v u Q I rx ry q
 obtain ⟨r,h,a,b,d,h',hr,v1,v2,e,q⟩:=q
 cases b with
 | int k=>
  have s2:=v2.shape
  simp only [cC] at s2
  subst s2
  cases a with
  | int i=>
   delta Ev.bH at e;dsimp only at e
   split at e
   ·rename_i hz
    cases e
    refine HU pins s σ H x _ v u Q I rx ry ⟨i,k,v1,rfl,?_,q.here rfl hr⟩
    unfold Ev.b6 at hz
    simp only [Bool.or_eq_true,Bool.and_eq_true,decide_eq_true_eq] at hz
    exact hz
   ·cases e
  | str l=>
   delta Ev.bH at e;dsimp only at e
   split at e
   ·rename_i hz
    cases e
    simp only [RV] at v1
    obtain ⟨rfl,hl⟩:=v1
    obtain ⟨t,rfl⟩:=rx
    obtain ⟨t',rfl⟩:=ry
    exact FL I hz (q.here ⟨rfl,by rw [lV];exact jr (by omega) hz.2.2⟩ hr)
   ·cases e
  | tup ds=>
   delta Ev.bH at e;dsimp only at e
   split at e
   ·rename_i hz
    cases e
    obtain ⟨p,vs,rfl,z,w⟩:=v1.shape
    cases rx
    obtain ⟨t',rfl⟩:=ry
    refine FO I ⟨hz.1,hz.2.1,by rw [w.length];exact hz.2.2⟩ z (fun Wn=>q.here ⟨p,vs,rfl,z,?_⟩ hr) fun p' hp=>q.tup (w.rep k.toNat) hr hp
    have:=w.rep k.toNat
    rw [Wn] at this
    exact this
   ·cases e
  | ref i=>
   delta Ev.bH at e;dsimp only at e
   split at e
   ·rename_i ds e1
    split at e
    ·rename_i hz
     obtain ⟨p,rfl,z⟩:=v1.shape
     obtain ⟨p',g1,vs,g2,g3⟩:=hr.ob _ _ e1
     rw [z] at g1;cases g1
     obtain ⟨hz2,q2⟩:=q.lst e (g3.rep k.toNat) hr
     exact Io pins s σ H (.ref p) _ v u Q I rx ry ⟨p,k,vs,rfl,rfl,g2,by omega,by omega,jr (by rw [g3.length];exact hz.2.2) (by omega),q2⟩
    ·cases e
   ·cases e
  | _=>cases e
 | _=>cases a <;> cases e
end
end Sm
set_option maxRecDepth 100000
namespace Sm
open PySem PySem.Spec PyProof.Rows L2 PySem.SeqAt
open Ev (D O Hh Fr R aR E Es Eo T S Ss Fl Src bW bQ TY BI ME)
section
variable {X:Cx}
theorem uJ {K:PySem.W.Frag}{H:Hp}{r:List Addr}:∀ {ds:List D}{is:List Int}{vs:List V}{us:List Value},Ev.intsOf ds=some is→aG K H r ds vs→Vals vs us→IntsAre us is
 | [],bs,vs,us,e,w,p=>by
  cases e
  simp only [aG] at w;subst w;cases p;exact .nil
 | d :: ds,bs,vs,us,e,w,p=>by
  cases d with
  | int b=>
   simp only [Ev.intsOf,Option.map_eq_some_iff] at e
   obtain ⟨bs',e1,rfl⟩:=e
   simp only [aG,RV] at w
   obtain ⟨v,w',rfl,rfl,w2⟩:=w
   cases p with
   | cons p1 p2=>
    obtain ⟨t,rfl⟩:=p1
    exact .cons _ _ (uJ e1 w2 p2)
  | _=>cases e
theorem uK {K:PySem.W.Frag}{H:Hp}{r:List Addr}:∀ {ds:List D}{ss:List (List Nat)}{vs:List V}{us:List Value},Ev.strsOf ds=some ss→aG K H r ds vs→Vals vs us→StrsAre us (ss.map bg)∧∀ l∈ss,l.length≤sizeLine
 | [],bs,vs,us,e,w,p=>by
  cases e
  simp only [aG] at w;subst w;cases p;exact ⟨.nil,fun l h=>nomatch h⟩
 | d :: ds,bs,vs,us,e,w,p=>by
  cases d with
  | str b=>
   simp only [Ev.strsOf,Option.map_eq_some_iff] at e
   obtain ⟨bs',e1,rfl⟩:=e
   simp only [aG,RV] at w
   obtain ⟨v,w',rfl,⟨rfl,hb⟩,w2⟩:=w
   cases p with
   | cons p1 p2=>
    obtain ⟨t,rfl⟩:=p1
    obtain ⟨g1,g2⟩:=uK e1 w2 p2
    refine ⟨.cons _ _ g1,fun l hl=>?_⟩
    rcases List.mem_cons.mp hl with z | z
    ·subst z;exact hb
    ·exact g2 l z
  | _=>cases e
variable {G:Tb}{n:Nat}{sc:Scope}{N:List Str}{df:Bool}
theorem Jz (g:Good G n sc N df X):gD X (.builtin "sum") (uw X.K (Ev.cY .sum)):=by
 intro pins s σ H xs us Q I r q
 obtain ⟨rr,h,as,d,h',hr,v1,e,q⟩:=q
 match as,e with
 | [.ref m],e=>
  obtain ⟨e,rfl⟩:=Ev.aM e
  simp only [Option.map_eq_some_iff,Option.bind_eq_some_iff] at e
  obtain ⟨is,⟨ds,e1,e2⟩,rfl⟩:=e
  simp only [aG,RV] at v1
  obtain ⟨v,w,rfl,⟨p,rfl,z⟩,rfl⟩:=v1
  obtain ⟨u,rfl,ru⟩:=vals1 r
  cases ru
  obtain ⟨p',vs,z',q1,w⟩:=hr.read e1
  rw [z] at z';cases z'
  obtain ⟨zs,pv,pl,_⟩:=I.list q1
  have hi:=uJ e2 w pv
  obtain ⟨ys,hys⟩:=(hi.allInts).items
  have hl:s.heap.IsList p (intItems ys):=by rw [←hys];exact pl.isList
  refine sum_intListG (I.ok.hd g.calm) hl fun h'' tk t' hk=>?_
  have hsum:preSum (numAt ys) ys.size=is.sum:=by
   have h1:numsOf zs.toArray.toList=is:=by rw [show zs.toArray.toList=zs from rfl];exact hi.numsOf
   rw [hys,nums_intItems] at h1
   rw [preSum_eq,List.take_of_length_le (by simp),h1]
  rw [hsum]
  exact ⟨.int is.sum,H,I.kept hk,⟨_,rfl⟩,q.here rfl hr⟩
theorem JB:gD X (.builtin "len") (uw X.K (Ev.cY .len)):=by
 intro pins s σ H xs us Q I r q
 obtain ⟨rr,h,as,d,h',hr,v1,e,q⟩:=q
 match as,e with
 | [.str l],e=>
  delta Ev.cY at e;dsimp only at e
  split at e
  ·cases e
   simp only [aG,RV] at v1
   obtain ⟨v,w,rfl,⟨rfl,hl⟩,rfl⟩:=v1
   refine rJ pins s σ H _ us Q I r ⟨_,rfl,by rw [cI];exact hl,?_⟩
   rw [cI]
   exact q.here rfl hr
  ·cases e
 | [.tup ds],e=>
  cases e
  simp only [aG,RV] at v1
  obtain ⟨v,w,rfl,⟨p,vs,rfl,z,w'⟩,rfl⟩:=v1
  refine kU pins s σ H _ us Q I r ⟨p,vs,rfl,.inr z,?_⟩
  rw [w'.length]
  exact q.here rfl hr
 | [.ref m],e=>
  obtain ⟨e,rfl⟩:=Ev.aM e
  simp only [Option.map_eq_some_iff] at e
  obtain ⟨ds,e1,rfl⟩:=e
  simp only [aG,RV] at v1
  obtain ⟨v,w,rfl,⟨p,rfl,z⟩,rfl⟩:=v1
  obtain ⟨p',vs,z',q1,w⟩:=hr.read e1
  rw [z] at z';cases z'
  refine kU pins s σ H _ us Q I r ⟨p,vs,rfl,.inl q1,?_⟩
  rw [w.length]
  exact q.here rfl hr
theorem JD (g:Good G n sc N df X):gD X (.builtin "min") (uw X.K (Ev.cY .min)):=by
 intro pins s σ H xs us Q I r q
 obtain ⟨rr,h,as,d,h',hr,v1,e,q⟩:=q
 match as,e with
 | [.int i,.int j],e=>
  cases e
  simp only [aG,RV] at v1
  obtain ⟨v,w,rfl,rfl,v',w',rfl,rfl,rfl⟩:=v1
  exact xZ g.calm pins s σ H _ us Q I r ⟨i,j,rfl,q.here rfl hr⟩
theorem yF:qm X "list.append" (rM X.K (Ev.er .append)):=by
 intro pins s σ H x xs v us Q I rx rs q
 obtain ⟨r,h,a,as,d,h',hr,v1,v2,e,q⟩:=q
 cases a with
 | ref m=>
  match as,e with
  | [b],e=>
   delta Ev.er at e;dsimp only at e
   split at e
   ·rename_i ds e1
    split at e
    ·rename_i hz
     cases e
     rw [jc] at hz
     obtain ⟨p,rfl,z⟩:=v1.shape
     simp only [aG] at v2
     obtain ⟨y,w,rfl,v3,rfl⟩:=v2
     obtain ⟨p',g1,vs,g2,g3⟩:=hr.ob _ _ e1
     rw [z] at g1;cases g1
     refine qo pins s σ H _ _ v us Q I rx rs ⟨p,vs,y,rfl,rfl,g2,by rw [g3.length];exact hz,?_⟩
     have f:=Fm.write (K:=X.K) (ws:=vs++[y]) g2 (List.mem_of_getElem? z)
     exact q _ _ r rfl (hr.write e1 z g2 (g3.append (.cons v3 .nil))) f
    ·cases e
   ·cases e
  | [],e=>cases e
  | _ :: _ :: _,e=>cases e
 | _=>cases e
theorem yG:qm X "list.extend" (rM X.K (Ev.er .extend)):=by
 intro pins s σ H x xs v us Q I rx rs q
 obtain ⟨r,h,a,as,d,h',hr,v1,v2,e,q⟩:=q
 cases a with
 | ref m=>
  match as,e with
  | [.ref k],e=>
   delta Ev.er at e;dsimp only at e
   split at e
   ·rename_i ds es e1 e2
    split at e
    ·rename_i hz
     cases e
     rw [jc] at hz
     obtain ⟨p,rfl,z⟩:=v1.shape
     simp only [aG,RV] at v2
     obtain ⟨y,w,rfl,⟨p2,rfl,z2⟩,rfl⟩:=v2
     obtain ⟨p',g1,vs,g2,g3⟩:=hr.ob _ _ e1
     rw [z] at g1;cases g1
     obtain ⟨p'',k1,ws,k2,k3⟩:=hr.ob _ _ e2
     rw [z2] at k1;cases k1
     refine ye pins s σ H _ _ v us Q I rx rs ⟨p,p2,vs,ws,rfl,rfl,g2,k2,by rw [g3.length,k3.length];exact hz,?_⟩
     have f:=Fm.write (K:=X.K) (ws:=vs++ws) g2 (List.mem_of_getElem? z)
     exact q _ _ r rfl (hr.write e1 z g2 (g3.append k3)) f
    ·cases e
   ·cases e
 | _=>cases e
theorem JF:qm X "list.pop" (rM X.K (Ev.er .pop)):=by
 intro pins s σ H x xs v us Q I rx rs q
 obtain ⟨r,h,a,as,d,h',hr,v1,v2,e,q⟩:=q
 cases a with
 | ref m=>
  match as,e with
  | [],e=>
   delta Ev.er at e;dsimp only at e
   split at e
   ·rename_i ds e1
    split at e
    ·rename_i y e2
     cases e
     obtain ⟨p,rfl,z⟩:=v1.shape
     simp only [aG] at v2
     subst v2
     obtain ⟨p',g1,vs,g2,g3⟩:=hr.ob _ _ e1
     rw [z] at g1;cases g1
     obtain ⟨vy,g4,g5⟩:=g3.get e2
     refine Il pins s σ H _ _ v us Q I rx rs ⟨p,vs,vy,rfl,rfl,g2,by rw [g3.length];exact g4,?_⟩
     have f:=Fm.write (K:=X.K) (ws:=vs.dropLast) g2 (List.mem_of_getElem? z)
     have hd:aG X.K H r ds.dropLast vs.dropLast:=by
      rw [List.dropLast_eq_take,List.dropLast_eq_take,g3.length]
      exact g3.take _
     exact q _ _ r (g5.mono f) (hr.write e1 z g2 hd) f
    ·cases e
   ·cases e
  | _ :: _,e=>cases e
 | _=>cases e
theorem nj (sep:List Nat):∀ ss:List (List Nat),Str.join (bg sep) (ss.map bg)=bg (Ev.cG sep ss)
 | []=>rfl
 | [s]=>rfl
 | s :: t :: r=>by
  have ih:=nj sep (t :: r)
  show bg s++bg sep++Str.join (bg sep) ((t :: r).map bg)=_
  rw [ih,pP,pP]
  rfl
theorem join_eq (sep:List Nat) (ss:List (List Nat)):Txt.join (bg sep) (ss.map bg)=bg (Ev.cG sep ss):=by
 rw [←nj]
 exact PySem.StrLaws.glued_eq_join _ _
theorem FP:qm X "str.join" (rM X.K (Ev.er .join)):=by
 intro pins s σ H x xs v us Q I rx rs q
 obtain ⟨r,h,a,as,d,h',hr,v1,v2,e,q⟩:=q
 cases a with
 | str sep=>
  match as,e with
  | [.ref k],e=>
   delta Ev.er at e;dsimp only at e
   split at e
   ·rename_i ss e1
    split at e
    ·rename_i hz
     cases e
     simp only [Option.bind_eq_some_iff] at e1
     obtain ⟨ds,e1,e2⟩:=e1
     simp only [RV] at v1
     obtain ⟨rfl,hl⟩:=v1
     obtain ⟨t,rfl⟩:=rx
     simp only [aG,RV] at v2
     obtain ⟨y,w,rfl,⟨p2,rfl,z2⟩,rfl⟩:=v2
     obtain ⟨u,rfl,ru⟩:=vals1 rs
     cases ru
     obtain ⟨p',vs,z',q1,w⟩:=hr.read e1
     rw [z2] at z';cases z'
     obtain ⟨zs,pv,pl,_⟩:=I.list q1
     obtain ⟨g1,g2⟩:=uK e2 w pv
     have hlen:((ss.map bg).map (·.length)).sum+(ss.map bg).length*(bg sep).length≤16777216:=by
      rw [List.map_map,List.length_map,cI]
      have:(fun x:Str=>x.length) ∘ bg=fun l:List Nat=>l.length:=funext fun l=>cI l
      rw [this]
      exact hz
     refine join_list pl.isList g1 hlen fun t' k'=>?_
     rw [join_eq]
     refine ⟨.str _,H,I.tok _,⟨_,rfl⟩,q.here ⟨rfl,?_⟩ hr⟩
     have hj:=PySem.StrLaws.join_length_le (bg sep) (ss.map bg)
     rw [nj,cI] at hj
     have:sizeLine=16777216:=sizeLine_eq
     omega
    ·cases e
   ·cases e
 | _=>cases e
end
end Sm
set_option maxRecDepth 100000
namespace Sm
open PySem PySem.Spec PyProof.Rows L2 PySem.SeqAt
open Ev (D O Hh Fr R aR E Es Eo T S Ss Fl Src bW bQ TY BI ME)
section
variable {X:Cx}{G:Tb}{n:Nat}{sc:Scope}{N:List Str}{df:Bool}{m:List Nat}{a b c:E}{xa xb xc tg:Expr}{pos:Pos}
end
end Sm
set_option maxRecDepth 100000
namespace Sm
open PySem PySem.Spec PyProof.Rows L2 PySem.SeqAt
open Ev (D O Hh Fr R aR E Es Eo T S Ss Fl Src bW bQ TY BI ME)
section
variable {X:Cx}{G:Tb}{n:Nat}{sc:Scope}{N:List Str}{df:Bool}{m:List Nat}{a b c:E}{xa xb xc tg:Expr}{pos:Pos}
theorem Vals.reverse {vs:List V}{us:List Value}(w:Vals vs us):Vals vs.reverse us.reverse:=by
 induction w with
 | nil=>exact .nil
 | cons a _ ih=>rw [List.reverse_cons,List.reverse_cons];exact ih.append (.cons a .nil)
end
end Sm
set_option maxRecDepth 100000
namespace Sm
open PySem PySem.Spec PyProof.Rows L2 PySem.SeqAt
open Ev (D O Hh Fr R aR E Es Eo T S Ss Fl Src bW bQ TY BI ME)
section
variable {G:Tb}{n:Nat}{sc:Scope}{N:List Str}{df:Bool}{m:List Nat}{a b c:E}{xa xb xc tg:Expr}{pos:Pos}
theorem AH (g:Good G n sc N df X):gD X (.type "tuple") (fun xs H Q=>∃ r h d x d' h',HR X.K H r h∧RV X.K H r d x∧xs=[x]∧Ev.pI d h=.ok d' h'∧Res X.K r H h' d' Q):=by
 intro pins s σ H xs us Q I rv q
 obtain ⟨r,h,d,x,d',h',hr,v1,rfl,e,q⟩:=q
 cases d with
 | tup ds=>
  cases e
  have v2:=v1
  obtain ⟨p,vs,rfl,z,w⟩:=v1.shape
  exact kL pins s σ H _ us Q I rv ⟨p,vs,rfl,.inr ⟨z,q.here v2 hr⟩⟩
 | ref i=>
  simp only [Ev.pI] at e
  split at e
  ·rename_i ds e1
   split at e
   ·cases e
    obtain ⟨p,rfl,z⟩:=v1.shape
    obtain ⟨p',vs,z',q1,w⟩:=hr.read e1
    rw [z] at z';cases z'
    exact kL pins s σ H _ us Q I rv ⟨p,vs,rfl,.inl ⟨q1,fun l hl=>q.tup w hr hl⟩⟩
   ·cases e
  ·cases e
 | _=>cases e
theorem JH {p:Pos}(ha:JE G n sc N df m a xa) (h1:("tuple" : Str)∈G.bl:=by decide +kernel) (JJ:sc.names.lookup ("tuple" : Str)=some .globalImplicit:=by rfl)
  (hst:∀ env:Env,starEach [xa] env=[(false,eval xa env)]:=by intro _;rfl):JE G n sc N df m (.jq a) (.Call (.Name "tuple" p) [xa] [] pos):=fun X g=>by
 refine PE.of (x9 (AH g) (g.gl JJ) (g.bl _ h1) (by decide +kernel) (jT (ha X g) nT (hst _)) (by decide) (by decide) (hst _) rfl) fun s H Q q=>?_
 obtain ⟨r,fr,h,d,h',sr,hr,e,q⟩:=q
 simp only [Ev.ev] at e
 obtain ⟨x,h3,e1,e⟩:=Ev.ai e
 refine ⟨r,fr,h,x,_,sr,hr,e1,fun v H1 r1 v1 hr1 f1=>?_⟩
 exact ⟨r1,h3,x,v,d,h',hr1,v1,rfl,e,q.later f1⟩
theorem JK {st:Stmt}:JS G n sc N df m .fR st:=fun X g=>PS.of Aa fun Q s H q=>by
 obtain ⟨r,fr,h,fl,aj,h',sr,hr,e,q⟩:=q
 simp only [Ev.ex] at e
 cases e
end
theorem uL {X:Cx}{pins:List (Addr×Obj)}{σ:L2.St}{H:Hp}{s:Shared}{h':Heap}{t':Nat}{ch:List Addr}(I:Inv X pins σ H s) (k:∀ b o,b∉ch→s.heap.get? b=some o→h'.get? b=some o) (hf:∀ b∈ch,fU X pins H b):Inv X pins σ H { s with heap:=h',toks:=t' }:=by
 have xS:∀ b u,H b=some u→b∉ch:=fun b u e z=>by rw [(hf b z).1] at e;cases e
 refine I.step (g':=s.gens) (d':=s.drawn) (ch:=ch) (fun b hb=>?_) (fun b o _ _ hc e _=>k b o hc e) (fun b o _ _ hc e _=>⟨o.slots,k b o hc e⟩) (fun _ _ _ _ n=>n)
  (fun b o hc e=>⟨o,k b o hc e⟩) (fun _ _ e=>e) (fun _ _ _ e=>e) (fun b ps e=>⟨#[],by rw [e];simp⟩) (fun m hm=>?_) (fun b u e=>?_) I.bare
 ·obtain ⟨f0,f1,f2,f3,f4,f5⟩:=hf b hb
  exact ⟨f3,f1,f4,f5⟩
 ·obtain ⟨o,es,ep,ho,r⟩:=hm
  exact ⟨o,es,ep,k _ o (fun z=>(hf _ z).2.1 rfl) ho,r⟩
 ·refine (I.hok b u e).stay (fun c v hc q=>k c v ?_ q) (fun _ q=>q) fun _ _ q=>q
  rcases hc with z | z
  ·rw [z];exact xS b u e
  ·exact xS c _ z
noncomputable def Qx (K:PySem.W.Frag) (a b:Addr):L2.It:=
  ⟨fun i H=>∃ xs ys x y,dB K H a xs∧dB K H b ys∧xs[i]?=some x∧ys[i]?=some y,
   fun i H x H'=>∃ p u v,H p=none∧x=.ref p∧H'=upd H p (.tup [u,v])∧(∀ xs,dB K H a xs→xs[i]?=some u)∧∀ ys,dB K H b ys→ys[i]?=some v,
   fun i H=>∃ xs ys,dB K H a xs∧dB K H b ys∧(xs.length≤i∨ys.length≤i)⟩
theorem AI {P:Program}{w:World}{K:PySem.W.Frag}{elts:List Expr}{x1}{pos:Pos}{l1 l2 z TI TO i1 i2:Addr}(D:ZipApart z TI TO i1 i2 l1 l2) :
  Turn P w K (.Tuple elts x1 pos) (Qx K l1 l2) [z,TI,TO,i1,i2] z (fun i h=>IsZip h z TI TO .none∧IsPair h TI (.ref i1) (.ref i2)∧(∃ a b,IsPair h TO a b)∧h.IsListIter i1 l1 i∧h.IsListIter i2 l2 i) where
 mem:=by simp
 obj:=fun i h st b hb=>by
  obtain ⟨s1,s2,⟨u,v,s3⟩,s4,s5⟩:=st
  simp only [List.mem_cons,List.mem_nil_iff,or_false] at hb
  rcases hb with rfl | rfl | rfl | rfl | rfl
  ·exact ⟨_,s1,fun v z=>by have z':Data.fields _=Data.cell v:=z;cases z'⟩
  ·exact ⟨_,s2,fun v z=>by have z':Data.seq _ _=Data.cell v:=z;cases z'⟩
  ·exact ⟨_,s3,fun v z=>by have z':Data.seq _ _=Data.cell v:=z;cases z'⟩
  ·obtain ⟨o,e,c,d⟩:=s4;exact ⟨o,e,fun v z=>by rw [d] at z;cases z⟩
  ·obtain ⟨o,e,c,d⟩:=s5;exact ⟨o,e,fun v z=>by rw [d] at z;cases z⟩
 keep:=fun i h h' st k=>by
  obtain ⟨s1,s2,⟨u,v,s3⟩,s4,s5⟩:=st
  exact ⟨k z (by simp) _ s1,k TI (by simp) _ s2,⟨u,v,k TO (by simp) _ s3⟩,s4.at fun o e=>k i1 (by simp) o e,s5.at fun o e=>k i2 (by simp) o e⟩
 item:=by
  intro X hP hw hK hc i pins s σ H E I hf st hg
  subst hP hw hK
  obtain ⟨s1,s2,⟨u0,v0,s3⟩,s4,s5⟩:=st
  obtain ⟨xs,ys,x,y,hx,hy,ex,ey⟩:=hg
  obtain ⟨xt,rx,px,_⟩:=I.list hx
  obtain ⟨yt,ry,py,_⟩:=I.list hy
  obtain ⟨u,hu,ru⟩:=rx.get ex
  obtain ⟨v,hv,rv⟩:=ry.get ey
  refine wpAny_pyNext_zip_item D s1 s2 s3 s4 s5 px.isList py.isList (x:=u) (y:=v) (by simpa using hu) (by simpa using hv) fun h' a1 a2 a3 a4 a5 a6 hk=>?_
  refine ⟨_,rfl,wpAny_letOwnedTupleGo_zip (s:={ s with heap:=h' }) a1 fun h'' b1 b2=>?_⟩
  have lt:∀ {c o},s.heap.get? c=some o→c≠s.heap.objs.size:=fun e=>Nat.ne_of_lt (Heap.lt_size e)
  have hT:H s.heap.objs.size=none:=I.hok.fresh (Nat.le_refl _)
  have zT:s.heap.objs.size≠z:=Ne.symm (lt s1)
  have I0:Inv X pins σ (upd H s.heap.objs.size (.tup [x,y])) { s with heap:=s.heap.push { cls:=.type "tuple",data:=.seq #[u,v]},toks:=s.toks }:=
   I.laid (fun b o e=>Heap.get?_push_of_some _ e) (Nat.le_refl _) ⟨by show 2≤sizeLine;decide,[u,v],.cons ru (.cons rv .nil),⟨_,Heap.get?_push_size _ rfl,rfl,_,rfl⟩⟩
  have ne:∀ b∈[z,TI,TO,i1,i2],b≠s.heap.objs.size:=fun b hb=>by
   simp only [List.mem_cons,List.mem_nil_iff,or_false] at hb
   rcases hb with rfl | rfl | rfl | rfl | rfl
   ·exact lt s1
   ·exact lt s2
   ·exact lt s3
   ·obtain ⟨o,e,_⟩:=s4;exact lt e
   ·obtain ⟨o,e,_⟩:=s5;exact lt e
  have fp:∀ b∈[z,TI,TO,i1,i2],fU X pins (upd H s.heap.objs.size (.tup [x,y])) b:=fun b hb=>⟨by rw [bx (ne b hb)];exact (hf b hb).1,(hf b hb).2⟩
  have I1:Inv X pins σ (upd H s.heap.objs.size (.tup [x,y])) { s with heap:=h'',toks:=s.toks }:=by
   refine uL (s:={ s with heap:=s.heap.push { cls:=.type "tuple",data:=.seq #[u,v]},toks:=s.toks }) (ch:=[z,TI,TO,i1,i2]) I0 (fun b o hb e=>?_) fp
   simp only [List.mem_cons,List.mem_nil_iff,or_false,not_or] at hb
   refine b2.extBut _ _ hb.1 ?_
   by_cases hT:b=s.heap.objs.size
   ·subst hT
    have e':(s.heap.push { cls:=.type "tuple",data:=.seq #[u,v]}).get? s.heap.objs.size=some o:=e
    rw [Heap.get?_push_size _ rfl] at e'
    cases e'
    exact a5
   ·refine hk b o hb.1 hb.2.2.1 hb.2.2.2.1 hb.2.2.2.2 ?_
    have e':(s.heap.push { cls:=.type "tuple",data:=.seq #[u,v]}).get? b=some o:=e
    rw [Heap.get?_push_ne _ _ _ hT] at e';exact e'
  refine ⟨.ref s.heap.objs.size,_,I1,rfl,⟨s.heap.objs.size,x,y,hT,rfl,rfl,fun xs' h=>by rw [I.m6 h hx];exact ex,fun ys' h=>by rw [I.m6 h hy];exact ey⟩,?_,fun b hb=>(fp b hb).1⟩
  exact ⟨b1,b2.extBut _ _ D.TIz (hk _ _ D.TIz D.TITO D.TIi1 D.TIi2 s2),⟨_,_,b2.extBut _ _ D.TOz a2⟩,a3.extBut b2.extBut D.i1z,a4.extBut b2.extBut D.i2z⟩
 done:=by
  intro X hP hw hK hc i pins s σ H E I hf st hg
  subst hP hw hK
  obtain ⟨s1,s2,⟨u0,v0,s3⟩,s4,s5⟩:=st
  obtain ⟨xs,ys,hx,hy,hl⟩:=hg
  obtain ⟨xt,rx,px,_⟩:=I.list hx
  obtain ⟨yt,ry,py,_⟩:=I.list hy
  have hl1:=rx.length
  have hl2:=ry.length
  refine wpAny_pyNext_zip_end (I.ok.hd hc) D s1 s2 s3 s4 s5 px.isList py.isList (hl.imp (fun z=>by simp;omega) fun z=>by simp;omega) fun h' hk=>⟨rfl,?_⟩
  refine uL (ch:=[z,TI,TO,i1,i2]) (t':=s.toks) I (fun b o hb e=>?_) hf
  simp only [List.mem_cons,List.mem_nil_iff,or_false,not_or] at hb
  exact hk b o hb.1 hb.2.2.1 hb.2.2.2.1 hb.2.2.2.2 e
 self:=fun _ _ _ _ _ st h=>wpAny_pyIter_zip st.1 h
end Sm
set_option maxRecDepth 100000
namespace Sm
open PySem PySem.Spec PyProof.Rows L2 PySem.SeqAt
open Ev (D O Hh Fr R aR E Es Eo T S Ss Fl Src bW bQ TY BI ME)
theorem yH {h:Hh}{a b:List (Nat×List D)}(e:Ev.stays h (a++b)=true):Ev.stays h a=true∧Ev.stays h b=true:=by
 induction a with
 | nil=>exact ⟨rfl,e⟩
 | cons p a ih=>
  obtain ⟨n,ds⟩:=p
  simp only [List.cons_append,Ev.stays,Bool.and_eq_true] at e ⊢
  exact ⟨⟨e.1,(ih e.2).1⟩,(ih e.2).2⟩
theorem zip_get {a b:List D}{i:Nat}{d:D}(e:(Ev.dM a b)[i]?=some d):∃ x y,a[i]?=some x∧b[i]?=some y∧d=.tup [x,y]:=by
 unfold Ev.dM at e
 rw [List.getElem?_zipWith] at e
 split at e
 ·rename_i x y h1 h2;cases e;exact ⟨x,y,h1,h2,rfl⟩
 ·cases e
theorem JL {K:PySem.W.Frag}{r:List Addr}{H:Hp}{h:Hh}{n1 n2:Nat}{a1 a2:Addr}{ds es:List D}(z1:r[n1]?=some a1) (z2:r[n2]?=some a2):nc K r H (Ev.dM ds es,[(n1,ds)]++[(n2,es)]) (Qx K a1 a2):=fun i H1 r1 h1 hr1 f1 st=>by
 obtain ⟨st1,st2⟩:=yH st
 obtain ⟨b1,vs,e1,e2,e3⟩:=hr1.read (lu st1)
 rw [f1.pre _ _ z1] at e1;cases e1
 obtain ⟨b2,ws,g1,g2,g3⟩:=hr1.read (lu st2)
 rw [f1.pre _ _ z2] at g1;cases g1
 refine ⟨fun d e=>?_,fun hl=>?_⟩
 ·obtain ⟨x,y,k1,k2,rfl⟩:=zip_get e
  obtain ⟨u,p1,p2⟩:=e3.get k1
  obtain ⟨v,q1,q2⟩:=g3.get k2
  refine ⟨⟨vs,ws,u,v,e2,g2,p1,q1⟩,fun X H2 y=>?_⟩
  obtain ⟨p,u',v',hp,rfl,rfl,hu,hv⟩:=y
  have Qy:=hu vs e2
  rw [p1] at Qy;cases Qy
  have hv':=hv ws g2
  rw [q1] at hv';cases hv'
  exact ⟨r1,⟨p,[u,v],rfl,.of fq,.cons (p2.mono (.tup hp)) (.cons (q2.mono (.tup hp)) .nil)⟩,hr1.tup hp,.tup hp⟩
 ·refine ⟨vs,ws,e2,g2,?_⟩
  have:=e3.length
  have:=g3.length
  have hl':(Ev.dM ds es).length≤i:=hl
  simp only [Ev.dM,List.length_zipWith] at hl'
  omega
section
variable {G:Tb}{n:Nat}{sc:Scope}{N:List Str}{df:Bool}{m:List Nat}{a b c:E}{xa xb xc:Expr}{pos:Pos}
theorem JM {elts:List Expr}{x1}{tpos p:Pos}(ha:JE G n sc N df m a xa) (hb:JE G n sc N df m b xb) (hg:sc.names.lookup ("zip" : Str)=some .globalImplicit:=by rfl) (Qz:("zip" : Str)∈G.bl:=by decide +kernel)
  (hst:∀ env:Env,starEach [xa,xb] env=[(false,eval xa env),(false,eval xb env)]:=by intro _;rfl) (we:∀ env:Env,starEach [xb] env=[(false,eval xb env)]:=by intro _;rfl) :
  JI G n sc N df m (.zip a b) (.Tuple elts x1 tpos) (.Call (.Name "zip" p) [xa,xb] [] pos):=fun X g=>by
 intro pins s σ H Rr I q
 obtain ⟨r,fr,h,src,h',sr,hr,e,q⟩:=q
 simp only [Ev.cy] at e
 replace e:=Ev.ai e;obtain ⟨x,h1,e1,e⟩:=e
 replace e:=Ev.ai e;obtain ⟨y,h2,e2,e⟩:=e
 replace e:=Ev.aM e;obtain ⟨e,y0⟩:=e;subst y0
 have JN:PA X [xa,xb] _:=jT (ha X g) (jT (hb X g) nT (we _)) (by rw [hst,we])
 refine Call_ (jR I (g.gl hg) (g.bl _ Qz) (show bootBuiltins ("zip" : Str)=some (.type "zip") by decide +kernel) (PyProof.Rows.callWith_type1 (bG (JN pos pins s σ H (fun vs H1=>∃ r1 u v,vs=[u,v]∧RV X.K H1 r1 x u∧RV X.K H1 r1 y v∧HR X.K H1 r1 h'∧Fm X.K r r1 H H1) I ?_) fun us s1 z=>?_) (by rw [hst,we]) (by rw [we];rfl)))
 ·refine ⟨r,fr,h,x,h1,sr,hr,e1,fun u H1 r1 v1 hr1 f1=>?_⟩
  refine ⟨r1,fr,h1,y,h',sr.mono f1,hr1,e2,fun v H2 r2 v2 hr2 f2=>?_⟩
  exact ⟨r2,u,v,rfl,v1.mono f2,v2,hr2,f1.trans f2⟩
 ·obtain ⟨vs,H1,I1,rv,r1,u,v,rfl,v1,v2,hr1,f1⟩:=z
  simp only [Option.bind_eq_some_iff,Option.map_eq_some_iff] at e
  obtain ⟨s1',k1,s2',k2,rfl⟩:=e
  cases x <;> simp only [Ev.m9,reduceCtorEq,Option.map_eq_some_iff] at k1
  rename_i n1
  obtain ⟨ds,k1,rfl⟩:=k1
  cases y <;> simp only [Ev.m9,reduceCtorEq,Option.map_eq_some_iff] at k2
  rename_i n2
  obtain ⟨es,k2,rfl⟩:=k2
  obtain ⟨a1,rfl,z1⟩:=v1.shape
  obtain ⟨a2,rfl,z2⟩:=v2.shape
  obtain ⟨b1,xs,w1,w2,w3⟩:=hr1.read k1
  rw [z1] at w1;cases w1
  obtain ⟨b2,ys,w4,w5,w6⟩:=hr1.read k2
  rw [z2] at w4;cases w4
  cases rv with
  | cons ra rb=>
  cases rb with
  | cons rb rc=>
  cases rc
  cases ra
  cases rb
  obtain ⟨xt,_,px,_⟩:=I1.list w2
  obtain ⟨yt,_,py,_⟩:=I1.list w5
  refine call_zip_2 px.isList py.isList fun hp c1 c2 c3 c4 c5 c6 c7=>?_
  have I2:Inv X pins σ H1 { s1 with heap:=hp,toks:=s1.toks }:=I1.kept c7
  have l1:a1<s1.heap.objs.size:=by obtain ⟨o,e,_⟩:=px.isList;exact Heap.lt_size e
  have l2:a2<s1.heap.objs.size:=by obtain ⟨o,e,_⟩:=py.isList;exact Heap.lt_size e
  refine wpAny_pyIter_zip c1 ⟨_,[s1.heap.objs.size+4,s1.heap.objs.size+2,s1.heap.objs.size+3,s1.heap.objs.size,s1.heap.objs.size+1],_,_,H1,rfl,I2,AI ?_,⟨c1,c2,⟨_,_,c3⟩,c4,c5⟩,fun b hb=>?_,q _ H1 r1 hr1 f1 (JL (h:=h') z1 z2)⟩
  ·constructor <;> (intro z;have z2:@Eq Nat _ _:=z;have X0:@LT.lt Nat _ a1 s1.heap.objs.size:=l1;have X3:@LT.lt Nat _ a2 s1.heap.objs.size:=l2;omega)
  ·have hb':s1.heap.objs.size≤b:=by
    simp only [List.mem_cons,List.mem_nil_iff,or_false] at hb
    rcases hb with rfl | rfl | rfl | rfl | rfl
    ·exact Nat.le_add_right _ _
    ·exact Nat.le_add_right _ _
    ·exact Nat.le_add_right _ _
    ·exact Nat.le_refl _
    ·exact Nat.le_add_right _ _
   exact I1.vA hb' (I1.hok.fresh hb')
end
end Sm
set_option maxRecDepth 100000
namespace Sm
open PySem PySem.Spec PyProof.Rows L2 PySem.SeqAt
open Ev (D O Hh Fr R aR E Es Eo T S Ss Fl Src bW bQ TY BI ME)
section
variable {G:Tb}{n:Nat}{sc:Scope}{N:List Str}{df:Bool}{m:List Nat}{a b c:E}{xa xb xc:Expr}{pos:Pos}
end
end Sm
set_option maxRecDepth 100000
namespace Sm
open PySem PySem.Spec PyProof.Rows L2 PySem.SeqAt
open Ev (D O Hh Fr R aR E Es Eo T S Ss Fl Src bW bQ TY BI ME)
section
variable {X:Cx}{G:Tb}{n:Nat}{sc:Scope}{N:List Str}{df:Bool}{m:List Nat}{a b c:E}{xa xb xc xd tg:Expr}{pos:Pos}
end
end Sm
set_option maxRecDepth 100000
namespace Rv
open PySem PyProof.Rows
theorem lz:Manifest.owners.lookup (String.ofList ['d','e','s','r','e','v','e','r'].reverse)=some Manifest.sig_reversed:=by kernel_rfl
theorem slot_next:Slot "reversed" "__next__" "reversed.__next__" :=
 .of (owner:="reversed") (n:="__next__") (by rw [typeLookup_type,builtinLookup_eq_fast];kernel_rfl) (by decide +kernel) (by decide +kernel) (by decide +kernel)
  (by first | exact .inl (by decide +kernel) | exact .inr (by decide +kernel)) (by rw [isSubtype_type];kernel_rfl)
theorem entry_next:entryFor table "reversed.__next__" = some Builtin.«reversed.__next__»:=entryFor_of_tree (by kernel_rfl)
theorem args_next (a:Value):argsOk "reversed.__next__" ⟨[a],[]⟩:=by
 unfold argsOk;rw [signature?_of (id:="reversed.__next__") (n:=['_','_','t','x','e','n','_','_']) (o:=['d','e','s','r','e','v','e','r']) (by kernel_rfl) lz];kernel_rfl
theorem qE:Slot "reversed" "__iter__" "reversed.__iter__" :=
 .of (owner:="reversed") (n:="__iter__") (by rw [typeLookup_type,builtinLookup_eq_fast];kernel_rfl) (by decide +kernel) (by decide +kernel) (by decide +kernel)
  (by first | exact .inl (by decide +kernel) | exact .inr (by decide +kernel)) (by rw [isSubtype_type];kernel_rfl)
theorem yI (a:Value):argsOk "reversed.__iter__" ⟨[a],[]⟩:=by
 unfold argsOk;rw [signature?_of (id:="reversed.__iter__") (n:=['_','_','r','e','t','i','_','_']) (o:=['d','e','s','r','e','v','e','r']) (by kernel_rfl) lz];kernel_rfl
theorem wg:entryFor table "reversed.__iter__" = some Builtin.«dict_keyiterator.__iter__»:=
 entryFor_alias (id':="dict_keyiterator.__iter__") (by kernel_rfl) (by first | rfl | decide +kernel | (unfold String.splitOn;simp +decide [String.splitOnAux])) (by decide +kernel) (by kernel_rfl)
theorem lD:Slot "reversed" "__length_hint__" "reversed.__length_hint__" :=
 .of (owner:="reversed") (n:="__length_hint__") (by rw [typeLookup_type,builtinLookup_eq_fast];kernel_rfl) (by decide +kernel) (by decide +kernel) (by decide +kernel)
  (by first | exact .inl (by decide +kernel) | exact .inr (by decide +kernel)) (by rw [isSubtype_type];kernel_rfl)
theorem wj:entryFor table "reversed.__length_hint__" = some Builtin.«reversed.__length_hint__»:=entryFor_of_tree (by kernel_rfl)
theorem yJ (a:Value):argsOk "reversed.__length_hint__" ⟨[a],[]⟩:=by
 unfold argsOk;rw [signature?_of (id:="reversed.__length_hint__") (n:=['_','_','t','n','i','h','_','h','t','g','n','e','l','_','_']) (o:=['d','e','s','r','e','v','e','r']) (by kernel_rfl) lz];kernel_rfl
theorem JP:typeLookup (.type "reversed") "__len__" = pure none:=by rw [typeLookup_type,builtinLookup_eq_fast];kernel_rfl
theorem JQ:typeLookup (.type "tuple") "__reversed__" = pure none:=by rw [typeLookup_type,builtinLookup_eq_fast];kernel_rfl
section
variable {prog:Program}{w:World}{A:Around}{E:Value→Shared→Prop}{s:Shared}
theorem yK:Slot "reversed" "__init__" "object.__init__" :=
 .of (owner:="object") (n:="__init__") (by rw [typeLookup_type,builtinLookup_eq_fast];kernel_rfl) (by decide +kernel) (by decide +kernel) (by decide +kernel)
  (by first | exact .inl (by decide +kernel) | exact .inr (by decide +kernel)) (by rw [isSubtype_type];kernel_rfl)
theorem called:TypeCalled "reversed" "reversed.__new__" "object.__init__" :=
 ⟨by decide +kernel,by decide +kernel,⟨_,_,F.mro_reversed⟩,F.made_reversed,by decide +kernel,F.sub_reversed_self,yK⟩
noncomputable def fV (h:Heap) (a t:Addr) (i:Int):Prop:=∃ o,h.get? a=some o∧o.cls=.type "reversed" ∧o.data=.fields #[.ref t,rawInt i]
theorem fV.typeIs {a l:Addr}{i:Int}(x:fV s.heap a l i):s.TypeIs (.ref a) "reversed" :=let ⟨o,ho,hc,_⟩:=x;⟨o,ho,hc⟩
theorem fV.at {h h':Heap}{a l:Addr}{i:Int}(x:fV h a l i) (e:∀ o,h.get? a=some o→h'.get? a=some o):fV h' a l i:=let ⟨o,ho,r⟩:=x;⟨o,e _ ho,r⟩
noncomputable def lW (l:Addr) (i:Int):Obj:={ cls:=.type "reversed",data:=.fields #[.ref l,rawInt i]}
theorem lY {h h':Heap}{t:Addr}{items:Array Value}(x:IsTup h t items) (e:∀ o,h.get? t=some o→h'.get? t=some o):IsTup h' t items:=let ⟨o,ho,r⟩:=x;⟨o,e _ ho,r⟩
theorem AJ {t:Addr}{items:Array Value}{Q₁:Value→Shared→Prop}(ht:IsTup s.heap t items) (hfit:(items.size:Int)<2 ^ 63)
  (h:Q₁ (.ref s.heap.objs.size) { s with heap:=s.heap.push (lW t ((items.size:Int) - 1)),toks:=s.toks+1+1 }) :
  codeAny (model prog w) A (.call (.builtin "reversed.__new__") ⟨[.type "reversed",.ref t],[]⟩) (wants Q₁ E) s:=by
 refine codeAny_of_tree ?_
 show wpAny _ A.in1 (do checkBuiltinCall "reversed.__new__" ⟨[.type "reversed",.ref t],[]⟩;again (.builtin "reversed.__new__" ⟨[.type "reversed",.ref t],[]⟩)) _ _ s
 refine wpAny_bind (wpAny_of_eq (F.newCall_reversed_1 _) (wpAny_pure ⟨plainId_quiet F.plain_reversed_new _,codeAny_builtin F.entry_reversed_new ?_⟩))
 rw [Around.under_plainId F.plain_reversed_new _]
 unfold Builtin.«reversed.__new__»
 refine wpAny_bind (wpAny_of_eq (newClass_reversed _) ?_)
 try dsimp only
 refine wpAny_bind (wpAny_of_eq (a:=()) (by first | rfl | kernel_rfl) ?_)
 refine wpAny_bind (wpAny_of_eq (a:=()) (by first | rfl | kernel_rfl) ?_)
 try dsimp only
 refine wpAny_bind (wpAny_specialOf ht.typeIs JQ ?_)
 try dsimp only
 refine wpAny_bind ?_
 wp_delta
 refine wpAny_bind (wpAny_isInstance (T:="tuple") (b:=false) ht.typeIs (by rw [isSubtype_type];kernel_rfl) ?_)
 refine wpAny_ite_split (fun hab=>absurd hab (by decide)) (fun _=>?_)
 refine wpAny_bind (wpAny_specialOf ht.typeIs slot_tuple_getitem.lookup ?_)
 try dsimp only
 refine wpAny_ite_split (fun _=>?_) (fun hab=>absurd (by decide) hab)
 refine wpAny_pure ?_
 refine wpAny_ite_split (fun hab=>absurd hab (by decide)) (fun _=>?_)
 refine wpAny_bind (len_tuple ht hfit ?_)
 refine wpAny_bind (m:=asInt? _) (wpAny_pure ?_)
 try dsimp only
 refine wpAny_bind (m:=Builtin.SmallTypes.newRecord _ _) ?_
 unfold Builtin.SmallTypes.newRecord
 refine wpAny_newObj_type ?_ (by size_fits)
 exact wpAny_pure h
theorem AK {t:Addr}{items:Array Value}{Q:Value→Shared→Prop}(ht:IsTup s.heap t items) (hfit:(items.size:Int)<2 ^ 63)
  (h:Q (.ref s.heap.objs.size) { s with heap:=s.heap.push (lW t ((items.size:Int) - 1)),toks:=s.toks+1+1 }):wpAny (model prog w) A (call (.type "reversed") [.ref t]) Q E s:=by
 refine callType_codes (Q₁:=fun obj s₁=>obj=.ref s.heap.objs.size∧s₁={ s with heap:=s.heap.push (lW t ((items.size:Int) - 1)),toks:=s.toks+1+1 }) called (F.typeCall_reversed_1 _) F.entry_object_init (AJ ht hfit ⟨rfl,rfl⟩) ?_
 rintro obj s₁ ⟨rfl,rfl⟩
 have hT:({ s with heap:=s.heap.push (lW t ((items.size:Int) - 1)),toks:=s.toks+1+1 }:Shared).TypeIs (.ref s.heap.objs.size) "reversed" :=⟨_,Heap.get?_push_size _ rfl,rfl⟩
 refine ⟨hT,F.args_object_init_2 _ _,?_⟩
 exact object_init_meets (self:=Value.ref s.heap.objs.size) (rest:=[Value.ref t]) called.init.lookup called.made (by decide) prog w A.in1 _ _ ⟨hT,rfl,h⟩
theorem next_item {it t:Addr}{i:Nat}{items:Array Value}{x:Value}{Q:Option Value→Shared→Prop}(hit:fV s.heap it t (i:Int)) (ht:IsTup s.heap t items) (hx:items[i]?=some x) (hfit:(items.size:Int)<2 ^ 62)
  (hQ:∀ h' tk,fV h' it t ((i:Int) - 1)→Heap.SameBut it s.heap h'→Q (some x) { s with heap:=h',toks:=tk }):wpAny (model prog w) A (pyNext (.ref it)) Q E s:=by
 obtain ⟨o,ho,hc,hd⟩:=id hit
 have hi:i<items.size:=(Array.getElem?_eq_some_iff.mp hx).1
 unfold pyNext
 refine wpAny_bind (wpAny_attempt (wpAny_callSpecial?_slot (name:=Str.ofString "__next__") hit.typeIs slot_next
  (wpAny_call_entry slot_next hit.typeIs entry_next ?_ (args_next _))))
 unfold Builtin.«reversed.__next__»
 refine wpAny_bind (wpAny_of_eq (a:=(Value.ref it,[])) rfl ?_)
 try dsimp only
 refine wpAny_bind (wpAny_field ho hd (x:=.ref t) rfl ?_)
 refine wpAny_bind (wpAny_field ho hd (x:=rawInt (i:Int)) rfl ?_)
 show wpAny _ _ (if (i:Int)<0 then _ else _) _ _ s
 rw [if_neg (by omega)]
 try dsimp only
 refine wpAny_bind (wpAny_specialOf ht.typeIs slot_tuple_getitem.lookup ?_)
 try dsimp only
 refine wpAny_ite_split (fun hab=>absurd hab (by decide)) (fun _=>?_)
 refine wpAny_bind (wpAny_mkInt ?_)
 refine wpAny_bind (wpAny_attempt (getItem_tuple (j:=i) ht (by omega) (by omega) (by unfold seqIndex?;simp;omega) hx ?_))
 try dsimp only
 refine wpAny_bind (wpAny_field ho hd (x:=rawInt (i:Int)) rfl ?_)
 show wpAny _ _ (setField (.ref it) 1 (rawInt ((i:Int) - 1)) >>= _) _ _ _
 refine wpAny_bind (wpAny_setField ho hd (by simp) ?_)
 refine wpAny_pure ⟨x,rfl,wpAny_pure (hQ _ _ ?_ (Heap.SameBut.update ..))⟩
 exact ⟨_,Heap.get?_update_self _ ho (Obj.isFreed_of_fields (Obj.data_mapFields hd _)),(Obj.cls_mapFields ..).trans hc,by
  rw [Obj.data_mapFields hd];simp⟩
theorem next_end {it t:Addr}{Q:Option Value→Shared→Prop}(hh:A.handled=none) (hit:fV s.heap it t (-1))
  (hQ:∀ h',Heap.ExtBut it s.heap h'→Q none { s with heap:=h' }):wpAny (model prog w) A (pyNext (.ref it)) Q E s:=by
 obtain ⟨o,ho,hc,hd⟩:=id hit
 unfold pyNext
 refine wpAny_bind (wpAny_attempt (wpAny_callSpecial?_slot (name:=Str.ofString "__next__") hit.typeIs slot_next
  (wpAny_call_entry slot_next hit.typeIs entry_next ?_ (args_next _))))
 unfold Builtin.«reversed.__next__»
 refine wpAny_bind (wpAny_of_eq (a:=(Value.ref it,[])) rfl ?_)
 try dsimp only
 refine wpAny_bind (wpAny_field ho hd (x:=.ref t) rfl ?_)
 refine wpAny_bind (wpAny_field ho hd (x:=rawInt (-1)) rfl ?_)
 show wpAny _ _ (if (-1:Int)<0 then _ else _) _ _ s
 rw [if_pos (by decide)]
 refine wpAny_bind (wpAny_rule ?_)
 refine wpAny_bind ?_
 wp_delta
 refine wpAny_bind (wpAny_setField ho hd (by simp) ?_)
 have ho2:=Heap.get?_update_self (Obj.mapFields fun x=>x.setIfInBounds 1 (rawInt (-1))) ho (Obj.isFreed_of_fields (Obj.data_mapFields hd _))
 refine wpAny_setField ho2 (Obj.data_mapFields hd _) (by simp) ?_
 refine wpAny_bind ?_
 unfold Builtin.SmallTypes.stopIteration
 first
 | show wpAny _ _ (newExc (.type "StopIteration") [] >>= _) _ _ _
 | (refine wpAny_bind ?_;show wpAny _ _ (newExc (.type "StopIteration") [] >>= _) _ _ _)
 refine wpAny_bind ?_
 simp only [newExc,newTuple]
 refine wpAny_bind (wpAny_newObj_type ?_ (by size_fits))
 refine wpAny_bind (m:=firstArgMember _ _) (wpAny_of_eq (a:=Value.none) (by first | rfl | (simp only [firstArgMember];rfl)) ?_)
 refine wpAny_newObj_type ?_ (by size_fits)
 simp only [raiseNew]
 refine wpAny_bind (wpAny_handled ?_)
 first | rw [show A.in1.handled=none from hh] | rw [hh]
 refine wpAny_bind (wpAny_pure (wpAny_throw ?_))
 refine wpAny_bind (wpAny_isInstance (T:="StopIteration") (b:=true) ⟨_,Heap.get?_push_size _ rfl,rfl⟩ isSubtype_stop ?_)
 exact wpAny_pure (hQ _ ((((Heap.SameBut.update ..).extBut.trans (Heap.SameBut.update ..).extBut).push _).push _))
theorem sd {it t:Addr}{i:Int}{Q:Value→Shared→Prop}(hit:fV s.heap it t i) (h:Q (.ref it) s):wpAny (model prog w) A (pyIter (.ref it)) Q E s:=by
 refine wpAny_pyIter_slot hit.typeIs qE (wpAny_call_entry qE hit.typeIs wg ?_ (yI _))
 show wpAny _ _ (ret (.ref it)) _ _ s
 exact wpAny_pure ⟨_,rfl,"reversed",_,hit.typeIs,slot_next.lookup,h⟩
theorem AL {it t:Addr}{items:Array Value}{Q:Bool→Shared→Prop}(hit:fV s.heap it t ((items.size:Int) - 1)) (ht:IsTup s.heap t items) (hfit:items.size≤sizeLine)
  (h:∀ tk,Q ((items.size:Int) != 0) { s with toks:=tk }):wpAny (model prog w) A (Builtin.List.listLengthHint (.ref it)) Q E s:=by
 obtain ⟨o,ho,hc,hd⟩:=id hit
 unfold Builtin.List.listLengthHint
 refine wpAny_bind (wpAny_specialOf hit.typeIs JP ?_)
 refine wpAny_ite_split (fun hab=>absurd hab (by decide +kernel)) (fun _=>?_)
 refine wpAny_ite_split (fun hab=>absurd hab (by decide)) (fun _=>?_)
 refine wpAny_bind (wpAny_specialOf hit.typeIs lD.lookup ?_)
 generalize hid:("reversed.__length_hint__" : String)=Wo
 dsimp only
 rw [show splitId Wo=some ("reversed","__length_hint__") from by subst hid;decide +kernel]
 subst hid
 dsimp only
 refine wpAny_bind (wpAny_isInstance (T:="reversed") (b:=true) hit.typeIs (by rw [isSubtype_type];kernel_rfl) ?_)
 refine wpAny_ite_split (fun hab=>absurd hab (by decide)) (fun _=>?_)
 refine wpAny_ite_split (fun hab=>absurd hab (by decide +kernel)) (fun _=>?_)
 refine wpAny_bind (wpAny_rule ?_)
 refine wpAny_bind (wpAny_of_eq (lD.bind _) ?_)
 refine wpAny_bind (wpAny_attempt (wpAny_call_entry lD hit.typeIs wj ?_ (yJ _)))
 unfold Builtin.«reversed.__length_hint__»
 refine wpAny_bind (wpAny_of_eq (a:=Value.ref it) rfl ?_)
 refine wpAny_bind (wpAny_field ho hd (x:=.ref t) rfl ?_)
 refine wpAny_ite_split (fun hab=>absurd hab Bool.false_ne_true) (fun _=>?_)
 have hf2:(items.size:Int)<2 ^ 63:=by rw [sizeLine_eq] at hfit;omega
 refine wpAny_bind (len_tuple ht hf2 ?_)
 refine wpAny_bind (m:=asInt? _) (wpAny_pure ?_)
 refine wpAny_bind (wpAny_field ho hd (x:=rawInt ((items.size:Int) - 1)) rfl ?_)
 show wpAny _ _ (if (items.size:Int)<(items.size:Int) - 1+1 then _ else _) _ _ _
 rw [if_neg (by omega)]
 have e1:(items.size:Int) - 1+1=(items.size:Int):=by omega
 rw [e1]
 unfold retInt
 refine wpAny_bind (wpAny_mkInt (wpAny_pure ⟨_,rfl,?_⟩))
 generalize s.toks+1+1=tk
 show wpAny _ _ (asInt? (Value.int (items.size:Int) tk) >>= _) _ _ _
 refine wpAny_bind ?_
 refine wpAny_pure (a:=some (items.size:Int)) ?_
 have Wq:Builtin.List.listFitsIndex (items.size:Int)=true:=by unfold Builtin.List.listFitsIndex;rw [decide_eq_true (by omega),decide_eq_true (by omega)];rfl
 show wpAny _ _ (if (!Builtin.List.listFitsIndex (items.size:Int))=true then _ else _) _ _ _
 rw [if_neg (by rw [Wq];decide)]
 show wpAny _ _ (if (items.size:Int)<0 then _ else _) _ _ _
 rw [if_neg (by omega)]
 have Wr:Builtin.List.listTooLong ((items.size:Int).toNat)=false:=by unfold Builtin.List.listTooLong;rw [Int.toNat_natCast];exact decide_eq_false (by omega)
 show wpAny _ _ (if Builtin.List.listTooLong ((items.size:Int).toNat)=true then _ else _) _ _ _
 rw [if_neg (by rw [Wr];decide)]
 exact wpAny_pure (h _)
theorem _root_.PySem.Walks.JR (hh:A.handled=none) (I t:Addr) (hne:t≠I) (items:Array Value) (hfit:(items.size:Int)<2 ^ 62) :
  Walks prog w A I [I,t] [I] items.size (fun i v=>items[items.size - 1 - i]?=some v) (fun i h=>i≤items.size∧fV h I t ((items.size:Int) - 1 - (i:Int))∧IsTup h t items) where
 sub:=fun b hb=>by simp at hb;simp [hb]
 frame:=fun _ _ _ x hk=>⟨x.1,x.2.1.at fun o e=>hk I (by simp) o e,lY x.2.2 fun o e=>hk t (by simp) o e⟩
 item:=fun i s Q E hi x hQ=>by
  have e:(items.size:Int) - 1 - (i:Int)=((items.size - 1 - i:Nat):Int):=by omega
  have hit:=x.2.1
  rw [e] at hit
  have hx:items[items.size - 1 - i]?=some (items[items.size - 1 - i]'(by omega)):=Array.getElem?_eq_getElem (by omega)
  refine next_item hit x.2.2 hx hfit fun h' tk JU hs'=>?_
  have e2:((items.size - 1 - i:Nat):Int) - 1=(items.size:Int) - 1 - ((i+1:Nat):Int):=by omega
  rw [e2] at JU
  exact hQ _ h' tk hx ⟨hi,JU,lY x.2.2 fun o eo=>(hs'.2 t hne).trans eo⟩ fun b o hb eo=>hs'.extBut b o (fun h=>hb (by simp [h])) eo
 done:=fun s Q E x hQ=>by
  have e:(items.size:Int) - 1 - (items.size:Int) = -1:=by omega
  have hit:=x.2.1
  rw [e] at hit
  exact next_end hh hit fun h' he'=>hQ h' s.toks fun b o hb eo=>he' b o (fun h=>hb (by simp [h])) eo
 self:=fun _ _ _ _ x hQ=>sd x.2.1 hQ
theorem wk {R:Result→Shared→Prop}{I t:Addr}{items:Array Value}(hh:A.handled=none) (hit:fV s.heap I t ((items.size:Int) - 1)) (ht:IsTup s.heap t items) (hne:t≠I) (hlen:items.size≤sizeLine)
  (S:Addr) (hSI:S≠I) (hSt:S≠t) (res:Value) (c₀:Nat) (hS:s.heap.get? S=some { cls:=.type "list",data:=.seq #[] c₀ })
  (hR:∀ h' tk acc' c',(∀ b o,b≠S→b≠I→s.heap.get? b=some o→h'.get? b=some o)→h'.get? S=some { cls:=.type "list",dict:=none,data:=.seq acc' c',slots:=#[]}→
   ItemsOf (fun i v=>items[items.size - 1 - i]?=some v) acc' items.size→R (.ok (.ret res)) { s with heap:=h',toks:=tk }) :
  wpAny (model prog w) A.in1 (Builtin.List.listExtendWith (.ref S) (.ref I) res)
   (fun fin s'=>match fin with | .done f=>R (.ok f) s' | .again c'=>c'.quiet=true∧codeAny (model prog w) A c' R s') (fun e s'=>R (.error e) s') s:=by
 have hf:(items.size:Int)<2 ^ 62:=by rw [sizeLine_eq] at hlen;omega
 have hSf:S∉[I,t]:=fun hm=>by rcases List.mem_cons.mp hm with e | e;exact hSI e;exact hSt (List.mem_singleton.mp e)
 have W:=(Walks.JR (prog:=prog) (w:=w) (A:=A.in1) hh I t hne items hf).toS
 have key:∀ (h:Heap) (c₁ tk:Nat),fV h I t ((items.size:Int) - 1 - ((0:Nat):Int))→IsTup h t items→(∀ b o,b≠S→s.heap.get? b=some o→h.get? b=some o)→
   h.get? S=some { cls:=.type "list",data:=.seq #[] c₁ }→codeAny (model prog w) A (.builtin "list.extend.loop" ⟨[.ref S,.ref I,res],[]⟩) R { s with heap:=h,toks:=tk }:=by
  intro h c₁ tk hit ht hk OF
  refine codeAny_extend_loopS W hlen S hSf res items.size 0 _ #[] c₁ rfl (Nat.zero_le _) ⟨Nat.zero_le _,hit,ht⟩ OF (ItemsOf.nil _) fun s' acc' c' hm hS' hacc=>?_
  rw [Moved.eq_with hm]
  refine hR s'.heap s'.toks acc' c' (fun b o hb hb2 e=>hm.heap b o (fun hmem=>?_) (hk b o hb e)) hS' hacc
  rcases List.mem_cons.mp hmem with e' | hmem
  ·exact hb e'
  ·exact hb2 (List.mem_singleton.mp hmem)
 unfold Builtin.List.listExtendWith
 refine wpAny_bind (wpAny_typeOf (T:="reversed") hit.typeIs ?_)
 have h1:Builtin.List.listSameRef (.ref S) (.ref I)=false:=by simp [Builtin.List.listSameRef,hSI]
 have h2:(Value.type "reversed" ==Value.type "list")=false:=by decide
 have h3:(Value.type "reversed" ==Value.type "tuple")=false:=by decide
 simp only [h1,h2,h3,Bool.or_false,Bool.false_eq_true,if_false]
 refine wpAny_bind (sd hit ?_)
 refine wpAny_bind (wpAny_holding (AL hit ht hlen fun tk=>?_))
 have JV:fV s.heap I t ((items.size:Int) - 1 - ((0:Nat):Int)):=by simpa using hit
 refine wpAny_ite_split (fun _=>?_) (fun _=>wpAny_pure ⟨plainId_quiet F.plain_extend_loop _,key _ c₀ _ JV ht (fun b o _ e=>e) hS⟩)
 refine wpAny_bind (wpAny_rule ?_)
 refine wpAny_bind ?_
 show wpAny _ _ (updateSeq S (·.push .none) >>= fun _=>updateSeq S (·.pop)) _ _ _
 refine wpAny_bind (wpAny_updateSeq hS rfl ?_)
 have qR:=Heap.get?_update_self (Obj.mapSeq (·.push Value.none)) hS rfl
 refine wpAny_updateSeq (hz:=by seq_fits) qR rfl ?_
 have OG:=Heap.get?_update_self (Obj.mapSeq (·.pop)) qR rfl
 have ot:∀ b o,b≠S→s.heap.get? b=some o→((s.heap.update S (Obj.mapSeq (·.push Value.none))).update S (Obj.mapSeq (·.pop))).get? b=some o:=fun b o hb e=>(Heap.get?_update_other _ _ (Ne.symm hb)).trans ((Heap.get?_update_other _ _ (Ne.symm hb)).trans e)
 exact wpAny_pure ⟨plainId_quiet F.plain_extend_loop _,key _ _ _ (JV.at fun o e=>ot _ _ (Ne.symm hSI) e) (lY ht fun o e=>ot _ _ (Ne.symm hSt) e) ot OG⟩
theorem AM {R:Result→Shared→Prop}{I t:Addr}{items:Array Value}(hh:A.handled=none) (hit:fV s.heap I t ((items.size:Int) - 1)) (ht:IsTup s.heap t items) (hne:t≠I) (hlen:items.size≤sizeLine)
  (S:Addr) (hSI:S≠I) (hSt:S≠t) (hS:s.heap.get? S=some { cls:=.type "list",data:=.seq #[]})
  (hR:∀ h' tk acc' c',(∀ b o,b≠S→b≠I→s.heap.get? b=some o→h'.get? b=some o)→h'.get? S=some { cls:=.type "list",dict:=none,data:=.seq acc' c',slots:=#[]}→
   ItemsOf (fun i v=>items[items.size - 1 - i]?=some v) acc' items.size→R (.ok (.ret .none)) { s with heap:=h',toks:=tk }) :
  wpAny (model prog w) A.in1 (Builtin.«list.__init__» ⟨[.ref S,.ref I],[]⟩)
   (fun fin s'=>match fin with | .done f=>R (.ok f) s' | .again c'=>c'.quiet=true∧codeAny (model prog w) A c' R s') (fun e s'=>R (.error e) s') s:=by
 show wpAny _ _ (do let old ←Builtin.List.listItems (.ref S);Builtin.List.listUpdate (.ref S) (fun _=>#[]);letGo old.toList.reverse;Builtin.List.listExtendWith (.ref S) (.ref I) .none) _ _ s
 refine wpAny_bind ?_
 unfold Builtin.List.listItems
 refine wpAny_bind (wpAny_seqItems hS rfl (wpAny_pure ?_))
 show wpAny _ _ (updateSeq S (fun _=>#[]) >>= fun _=>letGo (#[]:Array Value).toList.reverse >>= fun _=>Builtin.List.listExtendWith (.ref S) (.ref I) .none) _ _ s
 refine wpAny_bind (wpAny_updateSeq hS rfl ?_)
 have qR:=Heap.get?_update_self (Obj.mapSeq (fun _=>(#[]:Array Value))) hS rfl
 have JX:∀ b o,b≠S→s.heap.get? b=some o→(s.heap.update S (Obj.mapSeq (fun _=>(#[]:Array Value)))).get? b=some o:=
  fun b o hb e=>(Heap.get?_update_other _ _ (Ne.symm hb)).trans e
 refine wpAny_bind (wpAny_letGo ?_)
 refine wk hh (hit.at fun o e=>JX _ _ (Ne.symm hSI) e) (lY ht fun o e=>JX _ _ (Ne.symm hSt) e) hne hlen S hSI hSt .none _ qR fun h' tk acc' c' hk hS' hacc=>?_
 exact hR h' tk acc' c' (fun b o hb hb2 e=>hk b o hb hb2 (JX b o hb e)) hS' hacc
theorem qM {Q:Value→Shared→Prop}{I t:Addr}{items:Array Value}(hh:A.handled=none) (hit:fV s.heap I t ((items.size:Int) - 1)) (ht:IsTup s.heap t items) (hne:t≠I) (hlen:items.size≤sizeLine)
  (hQ:∀ h' tk acc' c',(∀ b o,b≠I→s.heap.get? b=some o→h'.get? b=some o)→
   h'.get? s.heap.objs.size=some { cls:=.type "list",dict:=none,data:=.seq acc' c',slots:=#[]}→ItemsOf (fun i v=>items[items.size - 1 - i]?=some v) acc' items.size→Q (.ref s.heap.objs.size) { s with heap:=h',toks:=tk }) :
  wpAny (model prog w) A (call (.type "list") [.ref I]) Q E s:=by
 refine callType_codes (Q₁:=fun obj s₁=>obj=.ref s.heap.objs.size∧s₁={ s with heap:=s.heap.push { cls:=.type "list",data:=.seq #[]}}) F.called_list (F.typeCall_list_1 _) F.entry_list_init
  (code_list_new _ ⟨rfl,rfl⟩) fun obj s₁ h₁=>?_
 obtain ⟨rfl,rfl⟩:=h₁
 have hS:(s.heap.push { cls:=.type "list",data:=.seq #[]}).get? s.heap.objs.size=some { cls:=.type "list",data:=.seq #[]}:=Heap.get?_push_size _ rfl
 have hI:I<s.heap.objs.size:=by obtain ⟨o,ho,_⟩:=hit;exact Heap.lt_size ho
 have hT:t<s.heap.objs.size:=by obtain ⟨o,ho,_⟩:=ht;exact Heap.lt_size ho
 refine ⟨⟨_,hS,rfl⟩,F.args_list_init_2 _ _,AM (A:=A.in1) hh (hit.at fun o e=>Heap.get?_push_of_some _ e) (lY ht fun o e=>Heap.get?_push_of_some _ e) hne hlen _ (Nat.ne_of_gt hI) (Nat.ne_of_gt hT) hS fun h' tk acc' c' hk hS' hacc=>?_⟩
 exact ⟨rfl,hQ h' tk acc' c' (fun b o hb e=>hk b o (Nat.ne_of_lt (Heap.lt_size e)) hb (Heap.get?_push_of_some _ e)) hS' hacc⟩
end
end Rv
namespace Sm
open PySem PySem.Spec PyProof.Rows L2 PySem.SeqAt
open Ev (D O Hh Fr R aR E Es Eo T S Ss Fl Src bW bQ TY BI ME)
section
variable {X:Cx}{G:Tb}{n:Nat}{sc:Scope}{N:List Str}{df:Bool}{m:List Nat}{a b c:E}{xa xb xc tg:Expr}{pos:Pos}
theorem AN {vs:List V}{us:List Value}(r:Vals vs us) {acc:Array Value}(h:ItemsOf (fun i v=>us.toArray[us.toArray.size - 1 - i]?=some v) acc us.toArray.size):Vals vs.reverse acc.toList:=by
 obtain ⟨h1,h2⟩:=h
 have e:acc.toList=us.reverse:=by
  apply List.ext_getElem?
  intro i
  by_cases hi:i<us.length
  ·have ha:i<acc.size:=by rw [h1];simpa using hi
   have:=h2 i _ (Array.getElem?_eq_getElem ha)
   rw [List.getElem?_reverse hi]
   simp only [List.size_toArray,List.getElem?_toArray] at this
   rw [this]
   simp [ha]
  ·have hs:acc.size=us.length:=by rw [h1];simp
   rw [List.getElem?_eq_none (by rw [Array.length_toList];omega),List.getElem?_eq_none (by rw [List.length_reverse];omega)]
 rw [e];exact Vals.reverse r
theorem FQ {p p2 pos2:Pos}(ha:JE G n sc N df m a xa) (h1:("list" : Str)∈G.bl:=by decide +kernel) (JJ:sc.names.lookup ("list" : Str)=some .globalImplicit:=by rfl)
  (hg:sc.names.lookup ("reversed" : Str)=some .globalImplicit:=by rfl) (hb:("reversed" : Str)∈G.bl:=by decide +kernel)
  (hst:∀ env:Env,starEach [xa] env=[(false,eval xa env)]:=by intro _;rfl)
  (JY:∀ env:Env,starEach [Expr.Call (.Name "reversed" p2) [xa] [] pos2] env=[(false,eval (Expr.Call (.Name "reversed" p2) [xa] [] pos2) env)]:=by intro _;rfl) :
  JE G n sc N df m (.iH (.rev a)) (.Call (.Name "list" p) [.Call (.Name "reversed" p2) [xa] [] pos2] [] pos):=fun X g=>by
 intro pins s σ H Q I q
 obtain ⟨r,fr,h,d,h',sr,hr,e,q⟩:=q
 rw [Ev.ev,Ev.cy] at e
 replace e:=Ev.ai e;obtain ⟨src,h3,e1,e⟩:=e
 replace e1:=Ev.ai e1;obtain ⟨x,h4,e2,e1⟩:=e1
 replace e1:=Ev.aM e1;obtain ⟨e1,y0⟩:=e1;subst y0
 refine wpAny_Call_Name_kw (jR I (g.gl JJ) (g.bl _ h1) (show bootBuiltins ("list" : Str)=some (.type "list") by decide +kernel) ?_ (by decide) (by decide))
 refine PyProof.Rows.callWith_type1 ?_ (JY _) rfl
 rw [JY]
 show wpAny _ _ (spliced ((false,eval (Expr.Call (.Name "reversed" p2) [xa] [] pos2) X.env) :: backTo pos [])) _ _ s
 refine Calls.spliced_cons ?_
 have JN:PA X [xa] _:=jT (ha X g) nT (by rw [hst];rfl)
 refine Call_ (jR I (g.gl hg) (g.bl _ hb) (show bootBuiltins ("reversed" : Str)=some (.type "reversed") by decide +kernel) (PyProof.Rows.callWith_type1 (bG (JN pos2 pins s σ H (fun vs H1=>∃ r1 u,vs=[u]∧RV X.K H1 r1 x u∧HR X.K H1 r1 h3∧Fm X.K r r1 H H1) I ⟨r,fr,h,x,h3,sr,hr,e2,fun u H1 r1 v1 hr1 f1=>⟨r1,u,rfl,v1,hr1,f1⟩⟩) fun us s1 z=>?_) (hst _) rfl))
 obtain ⟨vs,H1,I1,rv,r1,u,rfl,v1,hr1,f1⟩:=z
 cases x <;> simp only [Ev.Au,Option.map,reduceCtorEq] at e1
 rename_i ds
 cases e1
 obtain ⟨t,ws,rfl,z,w⟩:=v1.shape
 cases rv with
 | cons ra rb=>
 cases rb
 cases ra
 obtain ⟨its,pv,pt,hz⟩:=I1.tuple z
 have hlen:its.toArray.size≤sizeLine:=by rw [List.size_toArray,←pv.length];exact hz
 have hf:(its.toArray.size:Int)<2 ^ 63:=by rw [sizeLine_eq] at hlen;omega
 refine Rv.AK pt hf ?_
 refine Calls.spliced_nil ?_
 have I2:Inv X pins σ H1 { s1 with heap:=s1.heap.push (Rv.lW t ((its.toArray.size:Int) - 1)),toks:=s1.toks+1+1 }:=I1.kept fun b o e=>Heap.get?_push_of_some _ e
 have hne:t≠s1.heap.objs.size:=by obtain ⟨o,ho,_⟩:=pt;exact Nat.ne_of_lt (Heap.lt_size ho)
 refine Rv.qM (I1.ok.hd g.calm) ⟨_,Heap.get?_push_size _ rfl,rfl,rfl⟩ (Rv.lY pt fun o e=>Heap.get?_push_of_some _ e) hne hlen fun h' tk acc' c' hk hS' hacc=>?_
 obtain ⟨hz2,q2⟩:=(q.later f1).lst e w.reverse hr1
 have hp:s1.heap.objs.size≤(s1.heap.push (Rv.lW t ((its.toArray.size:Int) - 1))).objs.size:=by rw [size_push'];exact Nat.le_succ _
 refine ⟨.ref _,_,I1.laid (t':=tk) (o:=.lst ws.reverse) (fun b u e=>hk b u (Nat.ne_of_lt (Heap.lt_size e)) (Heap.get?_push_of_some _ e)) hp ?_,rfl,q2 _ (I1.hok.fresh hp)⟩
 exact ⟨by simpa using hz,acc'.toList,c',AN pv hacc,by simpa using hS'⟩
end
end Sm
set_option maxRecDepth 100000
set_option maxRecDepth 100000
namespace Sm
open PySem PySem.Spec PyProof.Rows L2 PySem.SeqAt
open Ev (D O Hh Fr R aR E Es Eo T S Ss Fl Src bW bQ TY BI ME)
end Sm
set_option maxRecDepth 100000
namespace Sm
open PySem PySem.Spec PyProof.Rows L2 PySem.SeqAt
open Ev (D O Hh Fr R aR E Es Eo T S Ss Fl Src bW bQ TY BI ME)
section
variable {G:Tb}{n:Nat}{sc:Scope}{N:List Str}{df:Bool}{m:List Nat}{a b c:E}{xa xb xc:Expr}{pos:Pos}
end
end Sm
set_option maxRecDepth 100000
namespace Sm
open PySem PySem.Spec PyProof.Rows L2 PySem.SeqAt
open Ev (D O Hh Fr R aR E Es Eo T S Ss Fl Src bW bQ TY BI ME)
theorem aG.ofInts {K:PySem.W.Frag}{H:Hp}{r:List Addr}:∀ ns:List Int,aG K H r (ns.map D.int) (ns.map V.int)
 | []=>.nil
 | _ :: l=>.cons rfl (aG.ofInts l)
theorem JZ {K:PySem.W.Frag}{H:Hp}{a:Addr}{vs:List V}(hO:pH H) (hS:dB K H a vs):vP K H a vs:=by
 rcases hS with h | h
 ·rcases h with h | ⟨o,h⟩
  ·rcases hO a with q | ⟨o,xs,q⟩
   ·rw [q] at h;cases h
   ·rw [q] at h;cases h
  ·exact .inl ⟨o,h⟩
 ·exact .inr h
theorem OH {K:PySem.W.Frag}{F:List Ev.Fn}{w n f:Nat}{H:Hp}{a:Addr}{ns:List Int}(hO:pH H) (hS:dB K H a (ns.map V.int)) {h':Hh}(e:Ev.run F w n f [.ref 0] [.bS (ns.map D.int)]=.ok (.bl true) h') :
  mQ K F w n f [.ref a] H (fun v _=>v=.bl true) fun _ _ _=>False:=by
 refine ⟨[a],[.bS (ns.map D.int)],[.ref 0],.bl true,h',.cons (show RV K H [a] (.ref 0) (.ref a) from ⟨a,rfl,rfl⟩) .nil,⟨rfl,fun k o hk=>?_,fun k l b x y _ _ hk _=>?_⟩,e,fun v H' r' v1 _ _=>v1⟩
 ·cases k with
  | zero=>
   simp at hk
   subst hk
   exact ⟨a,rfl,_,JZ hO hS,aG.ofInts ns⟩
  | succ k=>simp at hk
 ·cases k with
  | zero=>simp at hk
  | succ k=>simp at hk
theorem FT {F:List Ev.Fn}{wh n f:Nat}{l:PySem.W.OpenLaw}{q:Program}{loose:List Str}{XP:(Str→Option Value)→Heap→Prop}{YP:World→Heap→Prop}{d:DefRec}{K:Params→PySem.W.Frag}{x:Str}(hn:l.most=some 63) (hdf:d.params.defaults=[]) (hr:gm n callerA)
  (hY:∀ (w:World) (h:Heap),YP w h→(K w.params).In h) (good:∀ ns:List Int,ns.length≤63→∃ h',Ev.run F wh n f [.ref 0] [.bS (ns.map D.int)]=.ok (.bl true) h')
  (Fo:∀ (w:World) (mg:Str→Option Value) (fa:Addr) (h:Heap),(K w.params).In h→h.Ns mainGlobals mg→mg d.name=some (.ref fa)→
   ∃ fd:FuncData,(∀ (s:Shared) (u:Value),BindsTo s fd ⟨[u],[]⟩ [(x,u)])∧∀ base:Heap,(K w.params).In base→base.Ns mainGlobals mg→gX l.prog w (K w.params) mg base kW n fa fd [x] (mQ (K w.params) F wh n f)) :
  PySem.W.WalkO q loose XP YP l.row.toRowW d [] (fun f vs=>PySem.call f vs):=
 L2.Ar (n:=63) (k:=n) (x:=x) (CX:=kW) (sp:=fun K=>mQ K F wh n f) hn (by decide) hdf hr hY Fo (fun K H a ns hl hO hS=>by
  obtain ⟨h',e⟩:=good ns hl
  exact OH hO hS e) fun _ _ _ _ z=>z
theorem yL {P:Program}{w:World}{K:PySem.W.Frag}{mg:Str→Option Value}{base:Heap}{G:Tb}(T:Top P w K mg G)
  (st:∀ n,qQ P w K mg base G n→qQ P w K mg base G (n+1)):∀ n,qQ P w K mg base G n
 | 0=>fun f i _=>Fx
 | n+1=>st n (yL T st n)
structure At (K:PySem.W.Frag) (x:Str) (st:Stmt) (i:FI):Prop where
 name:i.name=x
 ns:PySem.W.nsIn K mainGlobals x=some (some (.ref i.addr))
 fu:rL K x x st i.addr i.fd
 bd:Binds K i.fd i.ps []
end Sm
set_option maxRecDepth 100000
namespace Sm
open PySem PySem.Spec PyProof.Rows L2
open Ev (D O Hh Fr R aR E Es Eo It T S Ss Fl Src bW bQ TY BI ME)
section
variable {G:Tb}{n:Nat}{sc:Scope}{N:List Str}{df:Bool}{m:List Nat}{a b c:E}{xa xb xc:Expr}{pos:Pos}
noncomputable def hasB (N:List Str) (m:List Nat) (x:Str) (i:Nat):Bool:=(List.range N.length).any fun j=>m[j]?==some i&&N[j]?==some x
theorem hasB.of {x:Str}{i:Nat}(h:hasB N m x i=true):∃ j:Nat,m[j]?=some i∧N[j]?=some x:=by
 obtain ⟨j,_,q⟩:=List.any_eq_true.mp h
 rw [Bool.and_eq_true] at q
 exact ⟨j,by simpa using q.1,by simpa using q.2⟩
noncomputable def vB (sc:Scope) (N:List Str) (m:List Nat) (x:Str) (i:Nat):Bool:=hasB N m x i&&(sc.names.lookup x==some .local || sc.names.lookup x==some .cell || sc.names.lookup x==some .free)&&!(x==("__debug__" : Str))&&!(x==("__classdict__" : Str))
theorem jv {x:Str}{i:Nat}(h:vB sc N m x i=true):JE G n sc N df m (.v i) (.Name x pos):=by
 unfold vB at h
 simp only [Bool.and_eq_true,Bool.not_eq_true',Bool.or_eq_true] at h
 obtain ⟨⟨⟨h1,h2⟩,h3⟩,h4⟩:=h
 obtain ⟨j,e1,e2⟩:=hasB.of h1
 exact Tw j i e1 e2 (by rcases h2 with (h2 | h2) | h2;exact .inl (by simpa using h2);exact .inr (.inl (by simpa using h2));exact .inr (.inr (by simpa using h2))) h3 h4
noncomputable def gB (sc:Scope) (N:List Str) (df:Bool) (m:List Nat) (x:Str) (i:Nat):Bool:=hasB N m x i&&(sc.names.lookup x==some .local || (df&&sc.names.lookup x==some .cell))&&decide m.Nodup&&decide N.Nodup
theorem gB.of {x:Str}{i:Nat}(h:gB sc N df m x i=true):∃ j:Nat,m[j]?=some i∧N[j]?=some x∧(sc.names.lookup x=some .local∨(df=true∧sc.names.lookup x=some .cell))∧m.Nodup∧N.Nodup:=by
 unfold gB at h
 simp only [Bool.and_eq_true,Bool.or_eq_true] at h
 obtain ⟨⟨⟨h1,h2⟩,h3⟩,h4⟩:=h
 obtain ⟨j,e1,e2⟩:=hasB.of h1
 exact ⟨j,e1,e2,by rcases h2 with h2 | ⟨h2,h5⟩;exact .inl (by simpa using h2);exact .inr ⟨h2,by simpa using h5⟩,of_decide_eq_true h3,of_decide_eq_true h4⟩
theorem Ws {x:Str}{i:Nat}(h:gB sc N df m x i=true):JG G n sc N df m (.one i) (.Name x pos):=by
 obtain ⟨j,e1,e2,e3,e4,e5⟩:=gB.of h
 exact IX j i e4 e5 e1 e2 e3
theorem Wt {x:Str}{i:Nat}{l:List Nat}{xs:List Expr}(h:gB sc N df m x i=true) (hs:qt G n sc N df m l xs):qt G n sc N df m (i :: l) (.Name x pos :: xs):=by
 obtain ⟨j,e1,e2,e3,e4,e5⟩:=gB.of h
 exact Aw j i e4 e5 hs e1 e2 e3
theorem TU {i:Nat}{x:Str}{pos':Pos}(h:gB sc N df m x i=true) (ha:JE G n sc N df m a xa) (hs:∀ env:Env,swapsWith xa (some (.Name x pos')) pos.line env=pure false:=by intro _;rfl):JS G n sc N df m (.set i a) (.Assign [.Name x pos'] xa pos):=by
 obtain ⟨j,e1,e2,e3,e4,e5⟩:=gB.of h
 exact IY j i e4 e5 ha hs e1 e2 e3
noncomputable def QA (sc:Scope) (x:Str):Bool:=sc.names.lookup x==some .globalImplicit&&!(x==("__debug__" : Str))
theorem Wu {f:Nat}{i:FI}{es:Es}{x:Str}{e0:Expr}{xs:List Expr}{p:Pos}(h:QA sc x=true) (hf:G.fi[f]?=some i) (hx:i.name=x) (hs:JA G n sc N df m es (e0 :: xs))
  (hst:∀ env:Env,starEach (e0 :: xs) env=(false,eval e0 env) :: starEach xs env:=by intro _;rfl) (hpl:∀ env:Env,(backTo pos (starEach xs env)).any (·.1)=false:=by intro _;rfl) :
  JE G n sc N df m (.cl f es) (.Call (.Name x p) (e0 :: xs) [] pos):=by
 subst hx
 unfold QA at h
 simp only [Bool.and_eq_true,Bool.not_eq_true'] at h
 exact Oz hf hs (by simpa using h.1) h.2 hst hpl
noncomputable def Wv:Expr→List Str
 | .Name x _=>[x]
 | .Tuple xs _ _=>xs.filterMap fun y=>match y with | .Name x _=>some x | _=>none
 | _=>[]
noncomputable def QB (N:List Str) (m:List Nat) (scope:Scope):List (Str×Nat):=(N.zip m).filter fun p=>scope.names.contains (p.1,NameKind.free)
noncomputable def cN (N:List Str) (m:List Nat) (scope:Scope) (tg:Expr):List Str:=Wv tg++(QB N m scope).map (·.1)
noncomputable def cM (N:List Str) (m:List Nat) (scope:Scope) (t:T):List Nat:=Ev.slots t++(QB N m scope).map (·.2)
theorem OI {elt:E}{t:T}{it:Ev.It}{cond:Eo}{tg xi xe:Expr}{ifs:List Expr}{scope:Scope}(hn:oh sc N m scope t (cN N m scope tg) (cM N m scope t)=true) (hs:C0 sc scope=true)
  (hi:JI G n sc N df m it tg xi) (hg:JG G n (eG sc scope) (cN N m scope tg) false (cM N m scope t) t tg) (hc:JC G n (eG sc scope) (cN N m scope tg) false (cM N m scope t) cond ifs)
  (he:JE G n (eG sc scope) (cN N m scope tg) false (cM N m scope t) elt xe) (hf:∀ (env:Env) x,foldedSetIterable xi env x=pure x:=by intro _ _;rfl):JE G n sc N df m (.comp elt t it cond) (.ListComp xe [⟨tg,xi,ifs,0⟩] scope pos):=
 uE hi hg hc he (namesOk.of hn) (jL.of hs) hf
theorem OJ {i:Nat}{x:Str}{pos' cpos:Pos}{elt:E}{t:T}{it:Ev.It}{cond:Eo}{tg xi xe:Expr}{ifs:List Expr}{scope:Scope}(h:gB sc N df m x i=true) (hn:oh sc N m scope t (cN N m scope tg) (cM N m scope t)=true) (hs:C0 sc scope=true)
  (hi:JI G n sc N df m it tg xi) (hg:JG G n (eG sc scope) (cN N m scope tg) false (cM N m scope t) t tg) (hc:JC G n (eG sc scope) (cN N m scope tg) false (cM N m scope t) cond ifs)
  (he:JE G n (eG sc scope) (cN N m scope tg) false (cM N m scope t) elt xe) (hf:∀ (env:Env) x,foldedSetIterable xi env x=pure x:=by intro _ _;rfl) :
  JS G n sc N df m (.set i (.comp elt t it cond)) (.Assign [.Name x pos'] (.ListComp xe [⟨tg,xi,ifs,0⟩] scope cpos) pos):=by
 obtain ⟨j,e1,e2,e3,e4,e5⟩:=gB.of h
 exact FA j i e4 e5 hi hg hc he (namesOk.of hn) (jL.of hs) e1 e2 e3 hf
theorem TV {rest:List Expr}(ha:JT G n sc N df m a xa) (hb:JW G n sc N df m b (.BoolOp .And (xb :: rest) pos)):JT G n sc N df m (.an a b) (.BoolOp .And (xa :: xb :: rest) pos):=IJ (CW ha hb)
theorem TZ {rest:List Expr}(ha:JT G n sc N df m a xa) (hb:JW G n sc N df m b (.BoolOp .Or (xb :: rest) pos)):JT G n sc N df m (.orr a b) (.BoolOp .Or (xa :: xb :: rest) pos):=IJ (yi ha hb)
noncomputable def allB (G:Tb) (n:Nat):List (Ss×Stmt×List Str)→Prop
 | []=>True
 | p :: r=>kM G n (ao p.2.1) p.2.2 true (List.range p.2.2.length) p.1 (aB p.2.1)∧allB G n r
theorem allB.get:∀ {l:List (Ss×Stmt×List Str)}{k:Nat}{p:Ss×Stmt×List Str},allB G n l→l[k]?=some p→kM G n (ao p.2.1) p.2.2 true (List.range p.2.2.length) p.1 (aB p.2.1)
 | [],_,_,_,e=>nomatch e
 | _ :: _,0,_,h,e=>by cases e;exact h.1
 | _ :: r,k+1,p,h,e=>allB.get (l:=r) (k:=k) h.2 (by simpa using e)
end
end Sm
namespace Pv
open Ev (D bW bQ TY BI ME T E Es Eo It S Ss Fn big deep b2i rep b6 dY bK aQ cut cG dW slots)
theorem nd {α:Type _}{a b:α}(h:a=b):a=b:=h
inductive V where
 | aY | bl (b:Bool) | int (i:Int) | str (s:List Nat) | tup (l:List V) | lst (l:List V) | bS (l:List V)
inductive Sl where
 | val (v:V) | own (l:List V) | bor (l:List V) | ro (l:List V)
abbrev Fr:=List (Option Sl)
inductive R (α:Type) where
 | ok (a:α) (fr:Fr)
 | bad
noncomputable def R.bind {α β:Type}(r:R α) (f:α→Fr→R β):R β:=
 match r with
 | .ok a h=>f a h
 | .bad=>.bad
@[simp] theorem ak {α β:Type} (a:α) (h:Fr) (f:α→Fr→R β):(R.ok a h).bind f=f a h:=nd rfl
@[simp] theorem As {α β:Type} (f:α→Fr→R β):(R.bad:R α).bind f=.bad:=nd rfl
theorem ai {α β:Type}{r:R α}{f:α→Fr→R β}{b:β}{h:Fr}(e:r.bind f=.ok b h):∃ a h1,r=.ok a h1∧f a h1=.ok b h:=by
 cases r with
 | ok a h1=>exact ⟨a,h1,rfl,e⟩
 | bad=>cases e
noncomputable def R.of {α:Type}(o:Option α) (h:Fr):R α:=match o with
 | some a=>.ok a h
 | none=>.bad
@[simp] theorem dG {α:Type} (a:α) (h:Fr):R.of (some a) h=.ok a h:=nd rfl
@[simp] theorem of_none {α:Type} (h:Fr):R.of (none:Option α) h=.bad:=nd rfl
theorem aM {α:Type}{o:Option α}{h h':Fr}{a:α}(e:R.of o h=.ok a h'):o=some a∧h'=h:=by
 cases o with
 | none=>cases e
 | some b=>cases e;exact ⟨rfl,rfl⟩
inductive Fl where
 | nx | bk | ct | ret (v:V)
mutual
noncomputable def ofD:D→Option V
 | .aY=>some .aY
 | .bl b=>some (.bl b)
 | .int i=>some (.int i)
 | .str s=>some (.str s)
 | .tup ds=>(se ds).map .tup
 | .ref _=>none
noncomputable def se:List D→Option (List V)
 | []=>some []
 | d :: ds=>(ofD d).bind fun v=>(se ds).map fun vs=>v :: vs
end
noncomputable def cg (f:V→V→Option Bool):List V→List V→Option Bool
 | [],[]=>some true
 | x :: xs,y :: ys=>(f x y).bind fun b=>(cg f xs ys).bind fun c=>some (b&&c)
 | _,_=>some false
noncomputable def cJ:Nat→V→V→Option Bool
 | 0,_,_=>none
 | _+1,.aY,.aY=>some true
 | _+1,.bl a,.bl b=>some (a==b)
 | _+1,.int a,.int b=>some (a==b)
 | _+1,.bl a,.int b=>some (b2i a==b)
 | _+1,.int a,.bl b=>some (a==b2i b)
 | _+1,.str a,.str b=>some (a==b)
 | n+1,.tup a,.tup b=>cg (cJ n) a b
 | n+1,.lst a,.lst b=>cg (cJ n) a b
 | n+1,.bS a,.lst b=>cg (cJ n) a b
 | n+1,.lst a,.bS b=>cg (cJ n) a b
 | _+1,.bS _,.bS _=>none
 | _+1,_,_=>some false
noncomputable def truthy:V→Bool
 | .aY=>false
 | .bl b=>b
 | .int i=>i != 0
 | .str s=>!s.isEmpty
 | .tup ds=>!ds.isEmpty
 | .lst ds=>!ds.isEmpty
 | .bS ds=>!ds.isEmpty
noncomputable def dO (l:List V):Option V:=if l.length≤big then some (.lst l) else none
noncomputable def jd (l:List V):Option V:=if l.length≤big then some (.tup l) else none
noncomputable def bH:bW→V→V→Option V
 | .add,.int i,.int j=>some (.int (i+j))
 | .add,.str a,.str b=>if a.length+b.length≤big then some (.str (a++b)) else none
 | .add,.tup a,.tup b=>if a.length+b.length≤big then some (.tup (a++b)) else none
 | .add,.lst a,.lst b=>dO (a++b)
 | .sub,.int i,.int j=>some (.int (i - j))
 | .mul,.int i,.int j=>if b6 i j then some (.int (i*j)) else none
 | .mul,.str a,.int k=>if 0≤k∧k≤1000∧a.length≤1000 then some (.str (rep k.toNat a)) else none
 | .mul,.tup a,.int k=>if 0≤k∧k≤1000∧a.length≤1000 then some (.tup (rep k.toNat a)) else none
 | .mul,.lst a,.int k=>if 0≤k∧k≤1000∧a.length≤1000 then dO (rep k.toNat a) else none
 | .fdiv,.int i,.int j=>if 0<j∧j<1073741824 then some (.int (i / j)) else none
 | .mod,.int i,.int j=>if 0<j then some (.int (i % j)) else none
 | _,_,_=>none
noncomputable def mem (x:V):List V→Option Bool
 | []=>some false
 | y :: ys=>(cJ deep y x).bind fun b=>(mem x ys).bind fun c=>some (b || c)
noncomputable def isin (x y:V):Option Bool:=match y with
 | .str s=>match x with
  | .str [c]=>some (s.contains c)
  | _=>none
 | .tup ds=>mem x ds
 | .lst ds=>mem x ds
 | .bS ds=>mem x ds
 | _=>none
noncomputable def cop (o:bQ) (x y:V):Option Bool:=match o,x,y with
 | .eq,x,y=>cJ deep x y
 | .ne,x,y=>(cJ deep x y).map (!·)
 | .lt,.int i,.int j=>some (decide (i<j))
 | .gt,.int i,.int j=>some (decide (j<i))
 | .isin,x,y=>isin x y
 | .gg,x,y=>(isin x y).map (!·)
 | _,_,_=>none
noncomputable def eZ (x y:V):Option V:=match x,y with
 | .tup ds,.int i=>bK ds i
 | .str s,.int i=>(bK s i).map fun c=>.str [c]
 | .lst ds,.int i=>bK ds i
 | .bS ds,.int i=>bK ds i
 | _,_=>none
noncomputable def eF (x:V) (lo hi:Option Int):Option V:=match x with
 | .tup ds=>some (.tup (cut ds lo hi))
 | .str s=>some (.str (cut s lo hi))
 | .lst ds=>dO (cut ds lo hi)
 | .bS ds=>dO (cut ds lo hi)
 | _=>none
noncomputable def toT:V→Option V
 | .tup l=>some (.tup l)
 | .lst l=>jd l
 | .bS l=>jd l
 | _=>none
noncomputable def boolsOf:List V→Option (List Bool)
 | []=>some []
 | .bl b :: ds=>(boolsOf ds).map fun r=>b :: r
 | _=>none
noncomputable def intsOf:List V→Option (List Int)
 | []=>some []
 | .int i :: ds=>(intsOf ds).map fun r=>i :: r
 | _=>none
noncomputable def strsOf:List V→Option (List (List Nat))
 | []=>some []
 | .str s :: ds=>(strsOf ds).map fun r=>s :: r
 | _=>none
noncomputable def gW:V→Option (List V)
 | .lst l=>some l
 | .bS l=>some l
 | _=>none
noncomputable def cY (b:BI) (xs:List V):Option V:=match b,xs with
 | .len,[.str s]=>if s.length≤big then some (.int s.length) else none
 | .len,[.tup ds]=>some (.int ds.length)
 | .len,[x]=>(gW x).map fun ds=>.int ds.length
 | .sum,[x]=>((gW x).bind intsOf).map fun is=>.int is.sum
 | .min,[.int i,.int j]=>some (.int (if j<i then j else i))
 | _,_=>none
noncomputable def idx (x:V):List V→Nat→Option Nat
 | [],_=>none
 | y :: ys,k=>match cJ deep y x with
  | some true=>some k
  | some false=>idx x ys (k+1)
  | none=>none
noncomputable def cnt (x:V):List V→Option Nat
 | []=>some 0
 | y :: ys=>(cJ deep y x).bind fun b=>(cnt x ys).bind fun k=>some (if b then k+1 else k)
noncomputable def er (m:ME) (o:V) (xs:List V):Option V:=match m,o,xs with
 | .join,.str sep,[x]=>((gW x).bind strsOf).bind fun ss=>if (ss.map (·.length)).sum+ss.length*sep.length≤big then some (.str (cG sep ss)) else none
 | .count,o,[x]=>((gW o).bind (cnt x)).map fun (k:Nat)=>.int k
 | .index,o,[x]=>((gW o).bind fun ds=>idx x ds 0).map fun (k:Nat)=>.int k
 | _,_,_=>none
noncomputable def jt (m:ME) (l:List V) (xs:List V):Option (V×List V):=match m,xs with
 | .append,[x]=>if l.length<big then some (.aY,l++[x]) else none
 | .extend,[.lst es]=>if l.length+es.length≤big then some (.aY,l++es) else none
 | .pop,[]=>match l[l.length - 1]? with
  | some x=>some (x,l.dropLast)
  | none=>none
 | _,_=>none
noncomputable def yN:ME→Bool
 | .extend=>true
 | _=>false
noncomputable def iu:ME→Bool
 | .append=>true
 | .extend=>true
 | .pop=>true
 | _=>false
noncomputable def qO:V→Bool
 | .aY=>true
 | .bl _=>true
 | .int _=>true
 | .str _=>true
 | _=>false
noncomputable def wm (x:V):List (D×D)→Option V
 | []=>none
 | (k,v) :: r=>match (ofD k).bind fun k'=>cJ 1 k' x with
  | some true=>ofD v
  | some false=>wm x r
  | none=>none
noncomputable def gE (x:V) (kvs:List (D×D)):Option V:=if qO x then wm x kvs else none
noncomputable def fN:V→Option (List V)
 | .tup ds=>some ds
 | .str s=>some (s.map fun c=>.str [c])
 | .lst ds=>some ds
 | .bS ds=>some ds
 | _=>none
noncomputable def wo:V→Option (List V)
 | .tup ds=>some ds
 | _=>none
noncomputable def range (lo:Int) (n:Nat):List V:=(List.range n).map fun (i:Nat)=>.int (lo+i)
noncomputable def eU:List V→Option (List V)
 | [.int j]=>if -(2 ^ 62)≤j∧j<2 ^ 62 then some (range 0 j.toNat) else none
 | [.int i,.int j]=>if -(2 ^ 62)≤i∧i<2 ^ 62∧-(2 ^ 62)≤j∧j<2 ^ 62 then some (range i (j - i).toNat) else none
 | _=>none
noncomputable def dM (a b:List V):List V:=List.zipWith (fun x y=>.tup [x,y]) a b
noncomputable def gh:Int→List V→List V
 | _,[]=>[]
 | k,x :: xs=>.tup [.int k,x] :: gh (k+1) xs
noncomputable def put (fr:Fr) (i:Nat) (s:Sl):Option Fr:=match fr[i]? with
 | some (some (.bor _))=>none
 | some (some (.ro _))=>none
 | _=>some (fr.set i (some s))
noncomputable def cF:List Nat→List V→Fr→Option Fr
 | [],[],fr=>some fr
 | i :: is,d :: ds,fr=>(put fr i (.val d)).bind (cF is ds)
 | _,_,_=>none
noncomputable def b7:T→V→Fr→Option Fr
 | .one i,d,fr=>put fr i (.val d)
 | .many l,.tup ds,fr=>cF l ds fr
 | _,_,_=>none
noncomputable def undef (t:T) (fr:Fr):Bool:=(slots t).all fun i=>(fr[i]?.join).isNone
noncomputable def Sl.read:Sl→Sl
 | .own l=>.ro l
 | .bor l=>.ro l
 | s=>s
noncomputable def qF (fr:Fr):Fr:=fr.map (Option.map Sl.read)
noncomputable def Sl.cZ:Sl→Sl
 | .own l=>.val (.lst l)
 | s=>s
noncomputable def ez (fr:Fr):Fr:=fr.map (Option.map Sl.cZ)
noncomputable def Sl.walk:Sl→Sl
 | .own l=>.val (.lst l)
 | .bor l=>.ro l
 | s=>s
noncomputable def qS (is:List Nat) (fr:Fr):Fr:=is.foldl (fun fr i=>match fr[i]? with
 | some (some s)=>fr.set i (some s.walk)
 | _=>fr) fr
noncomputable def Sl.out:Sl→Option (List V)
 | .bor l=>some l
 | .ro l=>some l
 | _=>none
noncomputable def Sl.lend:Sl→Option Sl
 | .own l=>some (.bor l)
 | .bor l=>some (.bor l)
 | .ro l=>some (.ro l)
 | .val _=>none
noncomputable def lent (fr:Fr) (i:Nat):Option Sl:=match fr[i]? with
 | some (some s)=>s.lend
 | _=>none
noncomputable def Sl.with:Sl→List V→Sl
 | .own _,l=>.own l
 | .bor _,l=>.bor l
 | s,_=>s
noncomputable def back:List Nat→List (List V)→Fr→Option Fr
 | [],[],fr=>some fr
 | i :: is,l :: ls,fr=>match fr[i]? with
  | some (some s)=>back is ls (fr.set i (some (s.with l)))
  | _=>none
 | _,_,_=>none
noncomputable def cD (f:V→Option (Option V)):List V→Option (List V)
 | []=>some []
 | d :: ds=>(f d).bind fun o=>(cD f ds).bind fun r=>some (o.toList++r)
noncomputable def forL (f:V→Fr→R Fl):List V→Fr→R Fl
 | [],fr=>.ok .nx fr
 | d :: ds,fr=>(f d fr).bind fun p af=>match p with
   | .nx=>forL f ds af
   | .ct=>forL f ds af
   | .bk=>.ok .nx af
   | .ret x=>.ok (.ret x) af
noncomputable def dN (t:Fr→R Bool) (f:Fr→R Fl):Nat→Fr→R Fl
 | 0,_=>.bad
 | n+1,fr=>(t fr).bind fun b af=>if b then (f af).bind fun p au=>match p with
   | .nx=>dN t f n au
   | .ct=>dN t f n au
   | .bk=>.ok .nx au
   | .ret x=>.ok (.ret x) au
  else .ok .nx af
noncomputable def iZ:Es→List Nat
 | .nil=>[]
 | .cons (.v i) es=>i :: iZ es
 | .cons _ es=>iZ es
noncomputable def QC (m:ME):E→List Nat
 | .v i=>if iu m then [i] else []
 | _=>[]
mutual
noncomputable def bE:E→List Nat
 | .c _=>[] | .v _=>[] | .tup es=>fz es | .lst es=>fz es
 | .bin _ a b=>bE a++bE b | .cmp _ a b=>bE a++bE b
 | .nt a=>bE a | .neg a=>bE a | .an a b=>bE a++bE b | .orr a b=>bE a++bE b | .gT t a b=>bE t++(bE a++bE b)
 | .ix a b=>bE a++bE b | .sl a lo hi=>bE a++(jN lo++jN hi)
 | .cl _ es=>fz es++iZ es | .bi _ es=>fz es | .me m o es=>bE o++(fz es++QC m o)
 | .comp _ _ it _=>AO it
 | .iH it=>AO it
 | .kX _ a=>bE a
 | .jq a=>bE a
noncomputable def fz:Es→List Nat
 | .nil=>[]
 | .cons e es=>bE e++fz es
noncomputable def jN:Eo→List Nat
 | .no=>[]
 | .yes e=>bE e
noncomputable def AO:It→List Nat
 | .seq e=>bE e | .gR es=>fz es
 | .zip a b=>bE a++bE b
 | .enum a=>bE a | .rev a=>bE a
end
noncomputable def kf (a:E) (l:List Nat):Bool:=match a with
 | .v i=>!l.contains i
 | _=>l.isEmpty
noncomputable def itv:It→List Nat
 | .seq (.v i)=>[i]
 | .enum (.v i)=>[i]
 | .rev (.v i)=>[i]
 | .zip (.v i) (.v j)=>[i,j]
 | .zip (.v i) _=>[i]
 | .zip _ (.v j)=>[j]
 | _=>[]
abbrev aR:=Nat→List Sl→Option (V×List (List V))
noncomputable def intOf:V→Option Int
 | .int i=>some i
 | _=>none
noncomputable def lE (k:Bool) (fr:Fr) (i:Nat):Option V:=match fr[i]? with
 | some (some (.val v))=>some v
 | some (some (.own l))=>if k then some (.lst l) else none
 | some (some (.bor l))=>if k then some (.lst l) else none
 | some (some (.ro l))=>if k then some (.lst l) else none
 | _=>none
noncomputable def wu (k:Bool) (fr:Fr) (i:Nat):Option V:=match fr[i]? with
 | some (some (.ro l))=>some (.lst l)
 | _=>lE k fr i
noncomputable def src (k:Bool) (fr:Fr) (e:E) (r:R V):R V:=match e with
 | .v i=>R.of (wu k fr i) fr
 | _=>r
noncomputable def jX (fr:Fr):E→Option Nat
 | .v i=>if (lent fr i).isSome then some i else none
 | _=>none
noncomputable def args (fr:Fr):List (Nat ⊕ V)→Option (List Sl)
 | []=>some []
 | .inl i :: r=>(lent fr i).bind fun s=>(args fr r).map fun l=>s :: l
 | .inr v :: r=>(args fr r).map fun l=>.val v :: l
noncomputable def bM:List (Nat ⊕ V)→List Nat
 | []=>[]
 | .inl i :: r=>i :: bM r
 | .inr _ :: r=>bM r
noncomputable def fO (P:aR) (f:Nat) (as:List (Nat ⊕ V)) (fr:Fr):R V:=
 if (bM as).Nodup then match args fr as with
  | some sl=>match P f sl with
   | some (v,outs)=>R.of ((back (bM as) outs fr).map fun af=>(v,af)) fr |>.bind fun p _=>.ok p.1 p.2
   | none=>.bad
  | none=>.bad
 else .bad
mutual
noncomputable def ev (P:aR):Bool→E→Fr→R V
 | _,.c d,fr=>R.of (ofD d) fr
 | k,.v i,fr=>R.of (lE k fr i) fr
 | _,.tup es,fr=>(b5 P false es fr).bind fun ds af=>R.of (jd ds) af
 | _,.lst es,fr=>(b5 P false es fr).bind fun ds af=>R.of (dO ds) af
 | _,.bin o a b,fr=>(ev P (kf a (bE b)) a fr).bind fun x af=>(ev P true b af).bind fun y au=>R.of (bH o x y) au
 | _,.cmp o a b,fr=>(ev P (kf a (bE b)) a fr).bind fun x af=>(ev P true b af).bind fun y au=>R.of ((cop o x y).map .bl) au
 | _,.nt a,fr=>(ev P true a fr).bind fun x af=>match x with
   | .bl b=>.ok (.bl (!b)) af
   | _=>.bad
 | _,.neg a,fr=>(ev P true a fr).bind fun x af=>match x with
   | .int i=>.ok (.int (-i)) af
   | _=>.bad
 | k,.an a b,fr=>(ev P true a fr).bind fun x af=>match x with
   | .bl true=>ev P k b af
   | .bl false=>.ok (.bl false) af
   | _=>.bad
 | k,.orr a b,fr=>(ev P true a fr).bind fun x af=>match x with
   | .bl true=>.ok (.bl true) af
   | .bl false=>ev P k b af
   | _=>.bad
 | k,.gT t a b,fr=>(aK P t fr).bind fun c af=>if c then ev P k a af else ev P k b af
 | _,.ix a b,fr=>(ev P (kf a (bE b)) a fr).bind fun x af=>(ev P true b af).bind fun y au=>R.of (eZ x y) au
 | _,.sl a lo hi,fr=>(ev P (kf a (jN lo++jN hi)) a fr).bind fun x af=>(ff P lo af).bind fun l au=>(ff P hi au).bind fun u cB=>R.of (eF x l u) cB
 | _,.cl f es,fr=>(fh P es fr).bind fun as af=>fO P f as af
 | _,.bi b es,fr=>(b5 P true es fr).bind fun ds af=>R.of (cY b ds) af
 | _,.me m o es,fr=>if iu m then match jX fr o with
   | some i=>(b5 P (yN m) es fr).bind fun ds af=>match af[i]? with
    | some (some (.own l))=>match jt m l ds with
     | some (v,l')=>.ok v (af.set i (some (.own l')))
     | none=>.bad
    | some (some (.bor l))=>match jt m l ds with
     | some (v,l')=>.ok v (af.set i (some (.bor l')))
     | none=>.bad
    | _=>.bad
   | none=>.bad
  else (ev P (kf o (fz es)) o fr).bind fun x af=>(b5 P true es af).bind fun ds au=>R.of (er m x ds) au
 | _,.comp elt t it cond,fr=>(cy P true it fr).bind fun s af=>if undef t af then
   R.of ((cD (fun d=>match b7 t d (qF af) with
    | none=>none
    | some au=>match gF P cond au with
     | .ok c _=>if c then (match ev P false elt au with | .ok x _=>some (some x) | .bad=>none) else some none
     | .bad=>none) s).bind dO) af else .bad
 | _,.iH it,fr=>(cy P true it fr).bind fun s af=>R.of (dO s) af
 | _,.kX kvs a,fr=>(ev P true a fr).bind fun x af=>R.of (gE x kvs) af
 | _,.jq a,fr=>(ev P true a fr).bind fun x af=>R.of (toT x) af
termination_by _ e=>(sizeOf e,0)
noncomputable def b5 (P:aR):Bool→Es→Fr→R (List V)
 | _,.nil,fr=>.ok [] fr
 | k,.cons e es,fr=>(ev P (k&&kf e (fz es)) e fr).bind fun d af=>(b5 P k es af).bind fun ds au=>.ok (d :: ds) au
termination_by _ e=>(sizeOf e,0)
noncomputable def fh (P:aR):Es→Fr→R (List (Nat ⊕ V))
 | .nil,fr=>.ok [] fr
 | .cons e es,fr=>match jX fr e with
   | some i=>(fh P es fr).bind fun r af=>.ok (.inl i :: r) af
   | none=>(ev P false e fr).bind fun d af=>(fh P es af).bind fun r au=>.ok (.inr d :: r) au
termination_by e=>(sizeOf e,0)
noncomputable def ff (P:aR):Eo→Fr→R (Option Int)
 | .no,fr=>.ok none fr
 | .yes e,fr=>(ev P true e fr).bind fun d af=>R.of ((intOf d).map some) af
termination_by e=>(sizeOf e,0)
noncomputable def gF (P:aR):Eo→Fr→R Bool
 | .no,fr=>.ok true fr
 | .yes e,fr=>aK P e fr
termination_by e=>(sizeOf e,0)
noncomputable def aK (P:aR):E→Fr→R Bool
 | .an a b,fr=>(aK P a fr).bind fun k af=>if k then aK P b af else .ok false af
 | .orr a b,fr=>(aK P a fr).bind fun k af=>if k then .ok true af else aK P b af
 | .nt a,fr=>(aK P a fr).bind fun k af=>.ok (!k) af
 | e,fr=>(ev P true e fr).bind fun x af=>.ok (truthy x) af
termination_by e=>(sizeOf e,1)
noncomputable def cy (P:aR):Bool→It→Fr→R (List V)
 | k,.seq e,fr=>(src k fr e (ev P k e fr)).bind fun x af=>R.of (fN x) af
 | _,.gR es,fr=>(b5 P true es fr).bind fun ds af=>R.of (eU ds) af
 | k,.zip a b,fr=>(src (k&&kf a (bE b)) fr a (ev P (k&&kf a (bE b)) a fr)).bind fun x af=>(src k af b (ev P k b af)).bind fun y au=>R.of ((gW x).bind fun s=>(gW y).map fun t=>dM s t) au
 | k,.enum a,fr=>(src k fr a (ev P k a fr)).bind fun x af=>R.of ((gW x).map fun s=>gh 0 s) af
 | _,.rev a,fr=>(ev P true a fr).bind fun x af=>R.of ((wo x).map fun s=>s.reverse) af
termination_by _ e=>(sizeOf e,0)
end
noncomputable def isNew:E→Bool
 | .lst _=>true
 | .iH _=>true
 | _=>false
mutual
noncomputable def ex (P:aR) (w:Nat):S→Fr→R Fl
 | .set i e,fr=>(ev P false e fr).bind fun x af=>if isNew e then (match x with
   | .lst l=>(R.of (put af i (.own l)) af).bind fun au _=>.ok .nx au
   | _=>.bad)
  else (R.of (put af i (.val x)) af).bind fun au _=>.ok .nx au
 | .vM l e,fr=>(ev P false e fr).bind fun x af=>(R.of (b7 (.many l) x af) af).bind fun au _=>.ok .nx au
 | .exp e,fr=>(ev P true e fr).bind fun _ af=>.ok .nx af
 | .ret e,fr=>(ev P false e (ez fr)).bind fun x af=>.ok (.ret x) af
 | .iff t a b,fr=>(aK P t fr).bind fun k af=>if k then exs P w a af else exs P w b af
 | .for t it b,fr=>(cy P false it (qS (itv it) fr)).bind fun s af=>forL (fun d au=>match b7 t d au with
   | some cB=>exs P w b cB
   | none=>.bad) s af
 | .nW t b,fr=>dN (fun au=>aK P t au) (fun au=>exs P w b au) w fr
 | .pass,fr=>.ok .nx fr
 | .brk,fr=>.ok .bk fr
 | .cnt,fr=>.ok .ct fr
 | .fR,_=>.bad
noncomputable def exs (P:aR) (w:Nat):Ss→Fr→R Fl
 | .nil,fr=>.ok .nx fr
 | .cons s ss,fr=>(ex P w s fr).bind fun p af=>match p with
   | .nx=>exs P w ss af
   | p=>.ok p af
end
noncomputable def d7 (fn:Fn) (ds:List Sl):Fr:=ds.map some++List.replicate (fn.ns - fn.np) none
noncomputable def outs (np:Nat) (fr:Fr):List (List V):=(fr.take np).filterMap fun o=>o.bind Sl.out
noncomputable def run (F:List Fn) (w:Nat):Nat→aR
 | 0,_,_=>none
 | n+1,f,ds=>match F[f]? with
  | some fn=>if ds.length=fn.np then match exs (run F w n) w fn.body (d7 fn ds) with
    | .ok (.ret v) fr=>some (v,outs fn.np fr)
    | .ok .nx fr=>some (.aY,outs fn.np fr)
    | _=>none
   else none
  | none=>none
end Pv
namespace Pv
open Ev (D O Hh bW bQ TY BI ME T E Es Eo It S Ss Fn big deep b2i rep b6 dY bK aQ cut cG dW slots bh)
section
variable (h:Hh)(S:Nat→Prop)
mutual
noncomputable def Rep:V→D→Prop
 | .aY,d=>d=.aY
 | .bl b,d=>d=.bl b
 | .int i,d=>d=.int i
 | .str s,d=>d=.str s
 | .tup l,d=>∃ ds,d=.tup ds∧aq l ds
 | .lst l,d=>∃ n ds,d=.ref n∧S n∧h[n]?=some (.lst ds)∧aq l ds
 | .bS l,d=>∃ n ds,d=.ref n∧S n∧h[n]?=some (.bS ds)∧aq l ds
noncomputable def aq:List V→List D→Prop
 | [],ds=>ds=[]
 | v :: vs,ds=>∃ d es,ds=d :: es∧Rep v d∧aq vs es
end
noncomputable def bu:V→D→Prop
 | .lst l,d=>∃ n ds,d=.ref n∧h[n]?=some (.lst ds)∧aq h S l ds
 | v,d=>Rep h S v d
noncomputable def fj:List V→List D→Prop
 | [],ds=>ds=[]
 | v :: vs,ds=>∃ d es,ds=d :: es∧bu h S v d∧fj vs es
end
abbrev U:Nat→Prop:=fun _=>True
section
variable {h h':Hh}{S S':Nat→Prop}
mutual
theorem Rep.mono (f:∀ m,S m→h'[m]?=h[m]?) (g:∀ m,S m→S' m):∀ {v:V}{d:D},Rep h S v d→Rep h' S' v d
 | .aY,_,q=>q
 | .bl _,_,q=>q
 | .int _,_,q=>q
 | .str _,_,q=>q
 | .tup l,_,⟨ds,a,b⟩=>⟨ds,a,aq.mono f g b⟩
 | .lst l,_,⟨n,ds,a,b,c,e⟩=>⟨n,ds,a,g n b,by rw [f n b];exact c,aq.mono f g e⟩
 | .bS l,_,⟨n,ds,a,b,c,e⟩=>⟨n,ds,a,g n b,by rw [f n b];exact c,aq.mono f g e⟩
theorem aq.mono (f:∀ m,S m→h'[m]?=h[m]?) (g:∀ m,S m→S' m):∀ {v:List V}{d:List D},aq h S v d→aq h' S' v d
 | [],_,q=>q
 | _ :: _,_,⟨d,es,a,b,c⟩=>⟨d,es,a,Rep.mono f g b,aq.mono f g c⟩
end
theorem aq.nil:aq h S [] []:=by simp [aq]
theorem aq.cons {v:V}{d:D}{vs:List V}{ds:List D}(a:Rep h S v d) (b:aq h S vs ds):aq h S (v :: vs) (d :: ds):=by simp only [aq];exact ⟨d,ds,rfl,a,b⟩
theorem Rep.top {v:V}{d:D}(q:Rep h S v d):bu h S v d:=by
 cases v <;> first | exact q | (obtain ⟨n,ds,a,b,c,e⟩:=q;exact ⟨n,ds,a,c,e⟩)
theorem bu.u {v:V}{d:D}(q:bu h S v d):Rep h U v d:=by
 cases v with
 | lst l=>obtain ⟨n,ds,a,b,c⟩:=q;exact ⟨n,ds,a,trivial,b,c.mono (fun _ _=>rfl) fun _ _=>trivial⟩
 | _=>exact Rep.mono (S:=S) (fun _ _=>rfl) (fun _ _=>trivial) q
theorem aq.u {v:List V}{d:List D}(q:aq h S v d):aq h U v d:=q.mono (fun _ _=>rfl) fun _ _=>trivial
theorem bu.mono {v:V}{d:D}(f:∀ m,m<h.length→h'[m]?=h[m]?) (k:∀ m,S m→m<h.length) (g:∀ m,S m→S' m) (q:bu h S v d):bu h' S' v d:=by
 cases v with
 | lst l=>
  obtain ⟨n,ds,a,b,c⟩:=q
  exact ⟨n,ds,a,by rw [f n (List.getElem?_eq_some_iff.mp b).1];exact b,c.mono (fun m z=>f m (k m z)) g⟩
 | _=>exact Rep.mono (fun m z=>f m (k m z)) g q
theorem aq.length:∀ {v:List V}{d:List D},aq h S v d→v.length=d.length
 | [],_,q=>by simp only [aq] at q;subst q;rfl
 | _ :: _,_,q=>by simp only [aq] at q;obtain ⟨d,es,rfl,_,c⟩:=q;simp [c.length]
theorem aq.get:∀ {v:List V}{d:List D}{i:Nat}{x:V},aq h S v d→v[i]?=some x→∃ y,d[i]?=some y∧Rep h S x y
 | [],_,_,_,_,e=>by simp at e
 | _ :: _,_,0,_,q,e=>by
  simp only [aq] at q
  obtain ⟨d,es,rfl,b,_⟩:=q
  simp at e;subst e
  exact ⟨d,by simp,b⟩
 | _ :: _,_,i+1,_,q,e=>by
  simp only [aq] at q
  obtain ⟨d,es,rfl,_,c⟩:=q
  obtain ⟨y,a,b⟩:=c.get (i:=i) (by simpa using e)
  exact ⟨y,by simpa using a,b⟩
theorem aq.append:∀ {v w:List V}{d e:List D},aq h S v d→aq h S w e→aq h S (v++w) (d++e)
 | [],_,_,_,a,b=>by simp only [aq] at a;subst a;simpa using b
 | _ :: _,_,_,_,a,b=>by
  simp only [aq] at a
  obtain ⟨d,es,rfl,x,y⟩:=a
  exact .cons x (y.append b)
theorem aq.take:∀ {v:List V}{d:List D}(n:Nat),aq h S v d→aq h S (v.take n) (d.take n)
 | _,_,0,_=>by simp [aq]
 | [],_,_+1,a=>by simp only [aq] at a;subst a;simp [aq]
 | _ :: _,_,n+1,a=>by
  simp only [aq] at a
  obtain ⟨d,es,rfl,x,y⟩:=a
  simp only [List.take_succ_cons]
  exact .cons x (y.take n)
theorem aq.drop:∀ {v:List V}{d:List D}(n:Nat),aq h S v d→aq h S (v.drop n) (d.drop n)
 | _,_,0,a=>by simpa using a
 | [],_,_+1,a=>by simp only [aq] at a;subst a;simp [aq]
 | _ :: _,_,n+1,a=>by
  simp only [aq] at a
  obtain ⟨d,es,rfl,x,y⟩:=a
  simp only [List.drop_succ_cons]
  exact y.drop n
theorem aq.dropLast:∀ {v:List V}{d:List D},aq h S v d→aq h S v.dropLast d.dropLast:=fun {v d} a=>by
 rw [List.dropLast_eq_take,List.dropLast_eq_take,a.length];exact a.take _
theorem aq.reverse:∀ {v:List V}{d:List D},aq h S v d→aq h S v.reverse d.reverse
 | [],_,a=>by simp only [aq] at a;subst a;simp [aq]
 | _ :: _,_,a=>by
  simp only [aq] at a
  obtain ⟨d,es,rfl,x,y⟩:=a
  simp only [List.reverse_cons]
  exact y.reverse.append (.cons x .nil)
theorem aq.rep {v:List V}{d:List D}(a:aq h S v d):∀ k:Nat,aq h S (Ev.rep k v) (Ev.rep k d)
 | 0=>by simp [Ev.rep,aq]
 | k+1=>by
  have z:=aq.rep a k
  simp only [Ev.rep,List.replicate_succ,List.flatten_cons] at z ⊢
  exact a.append z
theorem aq.cut {v:List V}{d:List D}(a:aq h S v d) (lo hi:Option Int):aq h S (Ev.cut v lo hi) (Ev.cut d lo hi):=by
 unfold Ev.cut
 rw [a.length]
 exact (a.drop _).take _
theorem aq.map {α:Type}{f:α→V}{g:α→D}(q:∀ a,Rep h S (f a) (g a)):∀ l:List α,aq h S (l.map f) (l.map g)
 | []=>.nil
 | _ :: l=>.cons (q _) (aq.map q l)
mutual
theorem Rep.uniq:∀ {v w:V}{d:D},Rep h U v d→Rep h U w d→v=w
 | .aY,w,_,a,b=>by simp only [Rep] at a;subst a;cases w <;> simp [Rep] at b <;> rfl
 | .bl _,w,_,a,b=>by simp only [Rep] at a;subst a;cases w <;> simp [Rep] at b <;> rw [b]
 | .int _,w,_,a,b=>by simp only [Rep] at a;subst a;cases w <;> simp [Rep] at b <;> rw [b]
 | .str _,w,_,a,b=>by simp only [Rep] at a;subst a;cases w <;> simp [Rep] at b <;> rw [b]
 | .tup l,w,_,a,b=>by
  simp only [Rep] at a;obtain ⟨ds,rfl,a⟩:=a
  cases w <;> simp [Rep] at b
  rw [aq.uniq a b]
 | .lst l,w,_,a,b=>by
  simp only [Rep] at a;obtain ⟨n,ds,rfl,_,a1,a⟩:=a
  cases w <;> simp [Rep] at b
  ·obtain ⟨ds',b1,b⟩:=b
   rw [a1] at b1;cases b1
   rw [aq.uniq a b]
  ·obtain ⟨ds',b1,b⟩:=b
   rw [a1] at b1;cases b1
 | .bS l,w,_,a,b=>by
  simp only [Rep] at a;obtain ⟨n,ds,rfl,_,a1,a⟩:=a
  cases w <;> simp [Rep] at b
  ·obtain ⟨ds',b1,b⟩:=b
   rw [a1] at b1;cases b1
  ·obtain ⟨ds',b1,b⟩:=b
   rw [a1] at b1;cases b1
   rw [aq.uniq a b]
theorem aq.uniq:∀ {v w:List V}{d:List D},aq h U v d→aq h U w d→v=w
 | [],w,_,a,b=>by simp only [aq] at a;subst a;cases w <;> simp [aq] at b;rfl
 | x :: xs,w,_,a,b=>by
  simp only [aq] at a;obtain ⟨d,es,rfl,a1,a2⟩:=a
  cases w <;> simp only [aq] at b
  ·cases b
  obtain ⟨d',es',e,b1,b2⟩:=b
  cases e
  rw [Rep.uniq a1 b1,aq.uniq a2 b2]
end
theorem sj {n:Nat}(f:∀ v b,cJ n v v=some b→b=true):∀ l b,cg (cJ n) l l=some b→b=true
 | [],b,e=>by simp [cg] at e;exact e
 | x :: xs,b,e=>by
  simp only [cg,Option.bind_eq_some_iff] at e
  obtain ⟨c,e1,c2,e2,e⟩:=e
  rw [f x c e1,sj f xs c2 e2] at e
  simpa using e.symm
theorem sq:∀ n v b,cJ n v v=some b→b=true
 | 0,_,_,e=>by cases e
 | n+1,v,b,e=>by
  cases v <;> first | exact sj (sq n) _ _ e | (cases e <;> first | rfl | exact beq_self_eq_true _)
theorem su {n:Nat}(f:∀ {v w:V}{d e:D}{b},cJ n v w=some b→Rep h U v d→Rep h U w e→Ev.fS h n d e=some b):∀ {l m:List V}{ds es:List D}{b},cg (cJ n) l m=some b→aq h U l ds→aq h U m es→Ev.cg (Ev.fS h n) ds es=some b
 | [],[],_,_,b,e,p,q=>by simp only [aq] at p q;subst p q;simpa [cg,Ev.cg] using e
 | [],_ :: _,_,_,b,e,p,q=>by simp only [aq] at p q;subst p;obtain ⟨_,_,rfl,_⟩:=q;simpa [cg,Ev.cg] using e
 | _ :: _,[],_,_,b,e,p,q=>by simp only [aq] at p q;subst q;obtain ⟨_,_,rfl,_⟩:=p;simpa [cg,Ev.cg] using e
 | x :: xs,y :: ys,_,_,b,e,p,q=>by
  simp only [aq] at p q
  obtain ⟨d,ds,rfl,p1,p2⟩:=p
  obtain ⟨d',ds',rfl,q1,q2⟩:=q
  simp only [cg,Option.bind_eq_some_iff] at e
  obtain ⟨c,e1,c2,e2,e⟩:=e
  simp [Ev.cg,f e1 p1 q1,su f e2 p2 q2]
  simpa using e
theorem gK {n:Nat}{ds:List D}(q:h[n]?=some (.lst ds)):bh h n=some ds:=by simp [bh,q]
theorem gY {n:Nat}{ds:List D}(q:h[n]?=some (.bS ds)):bh h n=some ds:=by simp [bh,q]
theorem gM:∀ (n:Nat) {v w:V}{d e:D}{b},cJ n v w=some b→Rep h U v d→Rep h U w e→Ev.fS h n d e=some b
  | 0,_,_,_,_,_,e,_,_=>by cases e
  | n+1,v,w,d,e,b,x,p,q=>by
    by_cases hr:∃ m,d=.ref m∧e=.ref m
    · obtain ⟨m,rfl,rfl⟩:=hr
      have hvw:=p.uniq q
      subst hvw
      have hb:=sq _ _ _ x
      subst hb
      cases v <;> simp [Rep] at p
      · obtain ⟨ds,p1,p2⟩:=p;show Ev.jb _ _ _ _=_;rw [Ev.jb,if_pos rfl,gK p1];rfl
      · obtain ⟨ds,p1,p2⟩:=p;show Ev.jb _ _ _ _=_;rw [Ev.jb,if_pos rfl,gY p1];rfl
    · cases v <;> cases w <;> simp only [Rep] at p q <;>
      first
      | (subst p;subst q;exact x)
      | (obtain ⟨ds,rfl,p⟩:=p;subst q;exact x)
      | (obtain ⟨ds,rfl,q⟩:=q;subst p;exact x)
      | (obtain ⟨ds,rfl,p⟩:=p;obtain ⟨es,rfl,q⟩:=q;exact su (fun a b c=>gM n a b c) x p q)
      | (cases x;done)
      | (obtain ⟨m,ds,rfl,_,p1,p⟩:=p;obtain ⟨k,es,rfl,_,q1,q⟩:=q
         have hne:m≠k:=fun z=>hr ⟨m,rfl,by rw [z]⟩
         show Ev.jb _ _ _ _=_
         rw [Ev.jb,if_neg hne,p1,q1];exact su (fun a b c=>gM n a b c) x p q)
      | (cases x;obtain ⟨m,ds,rfl,_,p1,p⟩:=p;subst q;exact congrArg (Option.map fun _=>false) (gK p1))
      | (cases x;obtain ⟨m,ds,rfl,_,p1,p⟩:=p;subst q;exact congrArg (Option.map fun _=>false) (gY p1))
      | (cases x;obtain ⟨m,ds,rfl,_,p1,p⟩:=p;obtain ⟨es,rfl,q⟩:=q;exact congrArg (Option.map fun _=>false) (gK p1))
      | (cases x;obtain ⟨m,ds,rfl,_,p1,p⟩:=p;obtain ⟨es,rfl,q⟩:=q;exact congrArg (Option.map fun _=>false) (gY p1))
      | (cases x;obtain ⟨m,ds,rfl,_,q1,q⟩:=q;subst p;exact congrArg (Option.map fun _=>false) (gK q1))
      | (cases x;obtain ⟨m,ds,rfl,_,q1,q⟩:=q;subst p;exact congrArg (Option.map fun _=>false) (gY q1))
      | (cases x;obtain ⟨m,ds,rfl,_,q1,q⟩:=q;obtain ⟨es,rfl,p⟩:=p;exact congrArg (Option.map fun _=>false) (gK q1))
      | (cases x;obtain ⟨m,ds,rfl,_,q1,q⟩:=q;obtain ⟨es,rfl,p⟩:=p;exact congrArg (Option.map fun _=>false) (gY q1))
end
end Pv
namespace Pv
open Ev (D O Hh bW bQ TY BI ME T E Es Eo It S Ss Fn big deep b2i rep b6 dY bK aQ cut cG dW slots bh)
structure Al (h:Hh) (S:Nat→Prop) (h':Hh) (S':Nat→Prop):Prop where
 len:h.length≤h'.length
 keep:∀ m,m<h.length→h'[m]?=h[m]?
 sub:∀ m,S m→S' m
 new:∀ m,S' m→S m∨(h.length≤m∧m<h'.length)
section
variable {h h':Hh}{S S':Nat→Prop}
theorem Al.refl:Al h S h S:=⟨Nat.le_refl _,fun _ _=>rfl,fun _ q=>q,fun _ q=>.inl q⟩
theorem Al.snoc (o:O):Al h S (h++[o]) (fun m=>S m∨m=h.length) where
 len:=by simp
 keep:=fun m q=>by rw [List.getElem?_append_left q]
 sub:=fun _ q=>.inl q
 new:=fun m q=>by
  rcases q with q | q
  ·exact .inl q
  ·subst q;exact .inr ⟨Nat.le_refl _,by simp⟩
theorem je {l:List V}{v:V}{ds:List D}(w:∀ m,S m→m<h.length) (e:dO l=some v) (q:aq h S l ds):∃ r h' S',Ev.alloc ds h=.ok r h'∧Rep h' S' v r∧Al h S h' S':=by
 unfold dO at e
 split at e
 ·rename_i z
  cases e
  refine ⟨.ref h.length,h++[.lst ds],fun m=>S m∨m=h.length,by unfold Ev.alloc;rw [if_pos (by rw [←q.length];exact z)],?_,Al.snoc _⟩
  simp only [Rep]
  refine ⟨h.length,ds,rfl,.inr rfl,by simp,q.mono (fun m z=>?_) fun _ z=>.inl z⟩
  rw [List.getElem?_append_left (w m z)]
 ·cases e
theorem iB {v:V}{l:List V}{d:D}(e:gW v=some l) (q:bu h S v d):∃ n ds,d=.ref n∧bh h n=some ds∧aq h S l ds:=by
 cases v <;> simp [gW] at e
 ·subst e;simp only [bu] at q;obtain ⟨n,ds,rfl,a,b⟩:=q;exact ⟨n,ds,rfl,gK a,b⟩
 ·subst e;simp only [bu,Rep] at q;obtain ⟨n,ds,rfl,_,a,b⟩:=q;exact ⟨n,ds,rfl,gY a,b⟩
mutual
theorem lG:∀ {d:D}{v:V},ofD d=some v→Rep h S v d
 | .aY,_,e=>by simp [ofD] at e;subst e;simp [Rep]
 | .bl _,_,e=>by simp [ofD] at e;subst e;simp [Rep]
 | .int _,_,e=>by simp [ofD] at e;subst e;simp [Rep]
 | .str _,_,e=>by simp [ofD] at e;subst e;simp [Rep]
 | .ref _,_,e=>by simp [ofD] at e
 | .tup ds,_,e=>by
  simp [ofD] at e
  obtain ⟨vs,e,rfl⟩:=e
  exact ⟨ds,rfl,uM e⟩
theorem uM:∀ {d:List D}{v:List V},se d=some v→aq h S v d
 | [],_,e=>by simp [se] at e;subst e;exact .nil
 | d :: ds,_,e=>by
  simp only [se,Option.bind_eq_some_iff,Option.map_eq_some_iff] at e
  obtain ⟨v,e1,vs,e2,rfl⟩:=e
  exact .cons (lG e1) (uM e2)
end
theorem aq.emp {l:List V}{ds:List D}(q:aq h S l ds):ds.isEmpty=l.isEmpty:=by
 have:=q.length
 cases l <;> cases ds <;> simp at this ⊢
theorem yO {v:V}{d:D}(q:bu h S v d):Ev.truthy h d=some (truthy v):=by
 cases v <;> simp only [bu,Rep] at q
 ·subst q;rfl
 ·subst q;rfl
 ·subst q;rfl
 ·subst q;rfl
 ·obtain ⟨ds,rfl,q⟩:=q;simp only [Ev.truthy,truthy,q.emp]
 ·obtain ⟨n,ds,rfl,a,q⟩:=q;simp only [Ev.truthy,truthy,gK a,Option.map,q.emp]
 ·obtain ⟨n,ds,rfl,_,a,q⟩:=q;simp only [Ev.truthy,truthy,gY a,Option.map,q.emp]
theorem nn {α:Type}{v:α}{p:Prop}(z:none=some v):p:=Option.noConfusion rfl (heq_of_eq z)
theorem J0 {o:bW}{x y v:V}{d e:D}(w:∀ m,S m→m<h.length) (z:bH o x y=some v) (p:bu h S x d) (q:bu h S y e):∃ r h' S',Ev.bH o d e h=.ok r h'∧Rep h' S' v r∧Al h S h' S':=by
 cases o <;> cases x <;> first | exact nn z | (cases y <;> first | exact nn z | skip)
 all_goals (delta bH at z;dsimp only at z;simp only [bu,Rep] at p q)
 ·subst p q;cases z;exact ⟨_,_,S,rfl,rfl,.refl⟩
 ·subst p q;split at z
  ·rename_i k;cases z;exact ⟨_,_,S,by delta Ev.bH;dsimp only;rw [if_pos k],rfl,.refl⟩
  ·cases z
 ·obtain ⟨ds,rfl,p⟩:=p;obtain ⟨es,rfl,q⟩:=q;split at z
  ·rename_i k;cases z;exact ⟨_,_,S,by delta Ev.bH;dsimp only;rw [if_pos (by rw [←p.length,←q.length];exact k)],⟨_,rfl,p.append q⟩,.refl⟩
  ·cases z
 ·obtain ⟨n,ds,rfl,a,p⟩:=p;obtain ⟨m,es,rfl,b,q⟩:=q
  delta Ev.bH;dsimp only;simp only [a,b]
  exact je w z (p.append q)
 ·subst p q;cases z;exact ⟨_,_,S,rfl,rfl,.refl⟩
 ·subst p q;split at z
  ·rename_i k;cases z;exact ⟨_,_,S,by delta Ev.bH;dsimp only;rw [if_pos k],rfl,.refl⟩
  ·cases z
 ·subst p q;split at z
  ·rename_i k;cases z;exact ⟨_,_,S,by delta Ev.bH;dsimp only;rw [if_pos k],rfl,.refl⟩
  ·cases z
 ·obtain ⟨ds,rfl,p⟩:=p;subst q;split at z
  ·rename_i k;cases z;exact ⟨_,_,S,by delta Ev.bH;dsimp only;rw [if_pos (by rw [←p.length];exact k)],⟨_,rfl,p.rep _⟩,.refl⟩
  ·cases z
 ·obtain ⟨n,ds,rfl,a,p⟩:=p;subst q;split at z
  ·rename_i k
   delta Ev.bH;dsimp only;simp only [a]
   rw [if_pos (by rw [←p.length];exact k)]
   exact je w z (p.rep _)
  ·cases z
 ·subst p q;split at z
  ·rename_i k;cases z;exact ⟨_,_,S,by delta Ev.bH;dsimp only;rw [if_pos k],rfl,.refl⟩
  ·cases z
 ·subst p q;split at z
  ·rename_i k;cases z;exact ⟨_,_,S,by delta Ev.bH;dsimp only;rw [if_pos k],rfl,.refl⟩
  ·cases z
theorem om {x:V}{d:D}(p:Rep h U x d):∀ {l:List V}{ds:List D}{b},mem x l=some b→aq h U l ds→Ev.mem h d ds=some b
 | [],_,b,e,q=>by simp only [aq] at q;subst q;simpa [mem,Ev.mem] using e
 | y :: ys,_,b,e,q=>by
  simp only [aq] at q
  obtain ⟨d',ds,rfl,q1,q2⟩:=q
  simp only [mem,Option.bind_eq_some_iff] at e
  obtain ⟨c,e1,c2,e2,e⟩:=e
  simp [Ev.mem,gM deep e1 q1 p,om p e2 q2]
  simpa using e
theorem uN {x y:V}{d e:D}{b:Bool}(z:isin x y=some b) (p:Rep h U x d) (q:Rep h U y e):Ev.isin d e h=some b:=by
 cases y <;> simp only [isin,reduceCtorEq] at z <;> simp only [Rep] at q
 ·subst q
  split at z
  ·simp only [Rep] at p;subst p;simpa [Ev.isin] using z
  ·cases z
 ·obtain ⟨ds,rfl,q⟩:=q;simpa [Ev.isin] using om p z q
 ·obtain ⟨n,ds,rfl,_,a,q⟩:=q;simpa [Ev.isin,gK a] using om p z q
 ·obtain ⟨n,ds,rfl,_,a,q⟩:=q;simpa [Ev.isin,gY a] using om p z q
theorem J1 {o:bQ}{x y:V}{d e:D}{b:Bool}(z:cop o x y=some b) (p:Rep h U x d) (q:Rep h U y e):Ev.cop o d e h=some b:=by
 cases o
 case eq=>delta cop at z;dsimp only at z;delta Ev.cop;dsimp only;exact gM deep z p q
 case ne=>
  delta cop at z;dsimp only at z;simp only [Option.map_eq_some_iff] at z;obtain ⟨c,z,rfl⟩:=z
  delta Ev.cop;dsimp only;simp only [gM deep z p q];rfl
 case isin=>delta cop at z;dsimp only at z;delta Ev.cop;dsimp only;exact uN z p q
 case gg=>
  delta cop at z;dsimp only at z;simp only [Option.map_eq_some_iff] at z;obtain ⟨c,z,rfl⟩:=z
  delta Ev.cop;dsimp only;simp only [uN z p q];rfl
 all_goals (
  cases x <;> first | exact nn z | (cases y <;> first | exact nn z | skip)
  simp only [Rep] at p q;subst p q;exact z)
theorem wz {l:List V}{ds:List D}{i:Int}{v:V}(e:bK l i=some v) (q:aq h S l ds):∃ d,bK ds i=some d∧Rep h S v d:=by
 unfold bK at e ⊢
 rw [q.length] at e
 cases z:dY ds.length i with
 | none=>rw [z] at e;cases e
 | some j=>rw [z] at e;exact q.get e
theorem J2 {x y v:V}{d e:D}(z:eZ x y=some v) (p:bu h S x d) (q:bu h S y e):∃ r,Ev.eZ d e h=some r∧Rep h S v r:=by
 cases x <;> cases y <;> simp only [eZ,reduceCtorEq] at z <;> simp only [bu,Rep] at p q
 ·subst p q
  simp only [Option.map_eq_some_iff] at z
  obtain ⟨c,z,rfl⟩:=z
  exact ⟨.str [c],by simp [Ev.eZ,z],rfl⟩
 ·obtain ⟨ds,rfl,p⟩:=p;subst q;simpa [Ev.eZ] using wz z p
 ·obtain ⟨n,ds,rfl,a,p⟩:=p;subst q;simpa [Ev.eZ,gK a] using wz z p
 ·obtain ⟨n,ds,rfl,_,a,p⟩:=p;subst q;simpa [Ev.eZ,gY a] using wz z p
theorem J3 {x v:V}{d:D}{lo hi:Option Int}(w:∀ m,S m→m<h.length) (z:eF x lo hi=some v) (p:bu h S x d):∃ r h' S',Ev.eF d lo hi h=.ok r h'∧Rep h' S' v r∧Al h S h' S':=by
 cases x <;> simp only [eF,reduceCtorEq] at z <;> simp only [bu,Rep] at p
 ·subst p;cases z;exact ⟨_,_,S,rfl,rfl,.refl⟩
 ·obtain ⟨ds,rfl,p⟩:=p;cases z;exact ⟨_,_,S,rfl,⟨_,rfl,p.cut _ _⟩,.refl⟩
 ·obtain ⟨n,ds,rfl,a,p⟩:=p;simp only [Ev.eF,gK a];exact je w z (p.cut _ _)
 ·obtain ⟨n,ds,rfl,_,a,p⟩:=p;simp only [Ev.eF,gY a];exact je w z (p.cut _ _)
theorem J4 {x v:V}{d:D}(z:toT x=some v) (p:bu h S x d):∃ r,Ev.pI d h=.ok r h∧Rep h S v r:=by
 cases x <;> simp only [toT,reduceCtorEq] at z <;> simp only [bu,Rep] at p
 ·obtain ⟨ds,rfl,p⟩:=p;cases z;exact ⟨_,rfl,⟨_,rfl,p⟩⟩
 ·obtain ⟨n,ds,rfl,a,p⟩:=p
  unfold jd at z
  split at z
  ·rename_i k;cases z
   refine ⟨.tup ds,?_,⟨_,rfl,p⟩⟩
   simp only [Ev.pI,gK a];rw [if_pos (by rw [←p.length];exact k)]
  ·cases z
 ·obtain ⟨n,ds,rfl,_,a,p⟩:=p
  unfold jd at z
  split at z
  ·rename_i k;cases z
   refine ⟨.tup ds,?_,⟨_,rfl,p⟩⟩
   simp only [Ev.pI,gY a];rw [if_pos (by rw [←p.length];exact k)]
  ·cases z
theorem pQ {x:V}{l:List V}{d:D}(z:gW x=some l) (p:bu h S x d):∃ s,Ev.m9 h d=some s∧aq h S l s.1∧(∀ q∈s.2,d=.ref q.1∧bh h q.1=some q.2):=by
 obtain ⟨n,ds,rfl,a,q⟩:=iB z p
 exact ⟨(ds,[(n,ds)]),by simp [Ev.m9,a],q,by simp [a]⟩
theorem AQ:∀ {l:List V}{ds:List D}{bs},boolsOf l=some bs→aq h S l ds→Ev.boolsOf ds=some bs
 | [],_,_,e,q=>by simp only [aq] at q;subst q;exact e
 | x :: xs,_,bs,e,q=>by
  cases x <;> simp only [boolsOf,reduceCtorEq,Option.map_eq_some_iff] at e
  obtain ⟨r,e,rfl⟩:=e
  simp only [aq,Rep] at q
  obtain ⟨_,ds,rfl,rfl,q⟩:=q
  simp [Ev.boolsOf,AQ e q]
theorem uO:∀ {l:List V}{ds:List D}{bs},intsOf l=some bs→aq h S l ds→Ev.intsOf ds=some bs
 | [],_,_,e,q=>by simp only [aq] at q;subst q;exact e
 | x :: xs,_,bs,e,q=>by
  cases x <;> simp only [intsOf,reduceCtorEq,Option.map_eq_some_iff] at e
  obtain ⟨r,e,rfl⟩:=e
  simp only [aq,Rep] at q
  obtain ⟨_,ds,rfl,rfl,q⟩:=q
  simp [Ev.intsOf,uO e q]
theorem uP:∀ {l:List V}{ds:List D}{bs},strsOf l=some bs→aq h S l ds→Ev.strsOf ds=some bs
 | [],_,_,e,q=>by simp only [aq] at q;subst q;exact e
 | x :: xs,_,bs,e,q=>by
  cases x <;> simp only [strsOf,reduceCtorEq,Option.map_eq_some_iff] at e
  obtain ⟨r,e,rfl⟩:=e
  simp only [aq,Rep] at q
  obtain ⟨_,ds,rfl,rfl,q⟩:=q
  simp [Ev.strsOf,uP e q]
theorem fj.one {v:V}{ds:List D}(q:fj h S [v] ds):∃ d,ds=[d]∧bu h S v d:=by
 simp only [fj] at q
 obtain ⟨d,es,rfl,a,rfl⟩:=q
 exact ⟨d,rfl,a⟩
theorem J5 {b:BI}{xs:List V}{v:V}{ds:List D}(w:∀ m,S m→m<h.length) (z:cY b xs=some v) (p:fj h S xs ds):∃ r h' S',Ev.cY b ds h=.ok r h'∧Rep h' S' v r∧Al h S h' S':=by
 delta cY at z
 rcases xs with _ | ⟨x,_ | ⟨y,_ | ⟨u,xs⟩⟩⟩
 ·cases b <;> exact nn z
 ·obtain ⟨d,rfl,p1⟩:=p.one
  cases b
  case len=>
   cases x
   case str s=>
    dsimp only at z;simp only [bu,Rep] at p1;subst p1
    split at z
    ·rename_i k;cases z;exact ⟨_,_,S,by delta Ev.cY;dsimp only;rw [if_pos k],rfl,.refl⟩
    ·cases z
   case tup l=>
    dsimp only at z;simp only [bu,Rep] at p1;obtain ⟨es,rfl,p2⟩:=p1
    cases z;exact ⟨_,_,S,rfl,by simp [Rep,p2.length],.refl⟩
   all_goals
    dsimp only at z
    simp only [Option.map_eq_some_iff] at z;obtain ⟨l,z,rfl⟩:=z
    obtain ⟨n,es,rfl,a,q⟩:=iB z p1
    exact ⟨.int es.length,h,S,by delta Ev.cY;dsimp only;simp [a],by simp [Rep,q.length],.refl⟩
  case sum=>
   dsimp only at z
   simp only [Option.map_eq_some_iff,Option.bind_eq_some_iff] at z;obtain ⟨bs,⟨l,z,z2⟩,rfl⟩:=z
   obtain ⟨n,es,rfl,a,q⟩:=iB z p1
   exact ⟨_,_,S,by delta Ev.cY;dsimp only;simp only [a,Option.bind,uO z2 q];rfl,rfl,.refl⟩
  case min=>cases x <;> exact nn z
 ·cases b
  case min=>
   cases x
   case int i=>
    cases y
    case int j=>
     dsimp only at z
     simp only [fj,bu,Rep] at p;obtain ⟨_,_,rfl,rfl,_,_,rfl,rfl,rfl⟩:=p
     cases z;exact ⟨_,_,S,rfl,rfl,.refl⟩
    all_goals exact nn z
   all_goals exact nn z
  case len=>cases x <;> exact nn z
  all_goals exact nn z
 ·cases b
  case min=>cases x <;> (try cases y) <;> exact nn z
  case len=>cases x <;> exact nn z
  all_goals exact nn z
theorem yP {x:V}{d:D}(p:Rep h U x d):∀ {l:List V}{ds:List D}{b},cnt x l=some b→aq h U l ds→Ev.cnt h d ds=some b
 | [],_,b,e,q=>by simp only [aq] at q;subst q;simpa [cnt,Ev.cnt] using e
 | y :: ys,_,b,e,q=>by
  simp only [aq] at q
  obtain ⟨d',ds,rfl,q1,q2⟩:=q
  simp only [cnt,Option.bind_eq_some_iff] at e
  obtain ⟨c,e1,c2,e2,e⟩:=e
  simp [Ev.cnt,gM deep e1 q1 p,yP p e2 q2]
  simpa using e
theorem yQ {x:V}{d:D}(p:Rep h U x d):∀ {l:List V}{ds:List D}{k b},idx x l k=some b→aq h U l ds→Ev.idx h d ds k=some b
 | [],_,k,b,e,q=>by simp [idx] at e
 | y :: ys,_,k,b,e,q=>by
  simp only [aq] at q
  obtain ⟨d',ds,rfl,q1,q2⟩:=q
  simp only [idx] at e
  cases z:cJ deep y x with
  | none=>rw [z] at e;cases e
  | some c=>
   rw [z] at e
   simp only [Ev.idx,gM deep z q1 p]
   cases c with
   | true=>exact e
   | false=>exact yQ p e q2
theorem J6 {m:ME}{o:V}{xs:List V}{v:V}{d:D}{ds:List D}(z:er m o xs=some v) (hm:iu m=false) (po:bu h S o d) (p:fj h S xs ds):Ev.mP m d h=true∧∃ r,Ev.er m d ds h=.ok r h∧Rep h S v r:=by
 unfold er at z
 split at z
 ·obtain ⟨d,rfl,p1⟩:=p.one;simp only [bu,Rep] at po;subst po
  simp only [Option.bind_eq_some_iff] at z;obtain ⟨ss,⟨l,z,z2⟩,z3⟩:=z
  obtain ⟨n,es,rfl,a,q⟩:=iB z p1
  split at z3
  ·rename_i k;cases z3
   refine ⟨rfl,_,?_,rfl⟩
   delta Ev.er;dsimp only;simp only [a,Option.bind,uP z2 q]
   rw [if_pos k]
  ·cases z3
 ·obtain ⟨d',rfl,p1⟩:=p.one
  simp only [Option.map_eq_some_iff,Option.bind_eq_some_iff] at z;obtain ⟨k,⟨l,z,z2⟩,rfl⟩:=z
  obtain ⟨n,es,rfl,a,q⟩:=iB z po
  refine ⟨by simp [Ev.mP,a],_,?_,rfl⟩
  delta Ev.er;dsimp only;simp only [a,Option.bind,yP p1.u z2 q.u];rfl
 ·obtain ⟨d',rfl,p1⟩:=p.one
  simp only [Option.map_eq_some_iff,Option.bind_eq_some_iff] at z;obtain ⟨k,⟨l,z,z2⟩,rfl⟩:=z
  obtain ⟨n,es,rfl,a,q⟩:=iB z po
  refine ⟨by simp [Ev.mP,a],_,?_,rfl⟩
  delta Ev.er;dsimp only;simp only [a,Option.bind,yQ p1.u z2 q.u];rfl
 ·cases z
theorem FU {x:V}{d:D}(f:qO x=true) (p:Rep h U x d):Rep [] U x d:=by
 cases x <;> simp only [qO,Bool.false_eq_true] at f <;> exact p
theorem AR {x:V}{d:D}(p:Rep h U x d):∀ {kvs:List (D×D)}{v:V},gE x kvs=some v→∃ r,Ev.gE d kvs=some r∧Rep h S v r:=by
 intro kvs v z
 unfold gE at z
 split at z
 ·rename_i f
  have p':=FU f p
  induction kvs with
  | nil=>cases z
  | cons kv r ih=>
   obtain ⟨k,u⟩:=kv
   simp only [wm] at z
   simp only [Ev.gE]
   split at z
   ·rename_i y
    simp only [Option.bind_eq_some_iff] at y
    obtain ⟨k',y1,y2⟩:=y
    rw [gM 1 y2 (lG y1) p']
    exact ⟨u,rfl,lG z⟩
   ·rename_i y
    simp only [Option.bind_eq_some_iff] at y
    obtain ⟨k',y1,y2⟩:=y
    rw [gM 1 y2 (lG y1) p']
    exact ih z
   ·cases z
 ·cases z
theorem AS {x:V}{l:List V}{d:D}(z:fN x=some l) (p:bu h S x d):∃ s,Ev.fN h d=some s∧aq h S l s.1∧(∀ q∈s.2,d=.ref q.1∧bh h q.1=some q.2):=by
 cases x <;> simp only [fN,reduceCtorEq] at z <;> simp only [bu,Rep] at p
 ·subst p;cases z;exact ⟨_,rfl,aq.map (f:=fun c=>V.str [c]) (g:=fun c=>D.str [c]) (fun _=>by simp [Rep]) _,by simp⟩
 ·obtain ⟨ds,rfl,p⟩:=p;cases z;exact ⟨_,rfl,p,by simp⟩
 ·obtain ⟨n,ds,rfl,a,p⟩:=p;cases z;exact ⟨(ds,[(n,ds)]),by simp [Ev.fN,gK a],p,by simp [gK a]⟩
 ·obtain ⟨n,ds,rfl,_,a,p⟩:=p;cases z;exact ⟨(ds,[(n,ds)]),by simp [Ev.fN,gY a],p,by simp [gY a]⟩
theorem sy (lo:Int) (n:Nat):aq h S (range lo n) (Ev.range lo n):=aq.map (f:=fun (i:Nat)=>V.int (lo+i)) (g:=fun (i:Nat)=>D.int (lo+i)) (fun _=>by simp [Rep]) _
theorem J7 {xs l:List V}{ds:List D}(z:eU xs=some l) (p:fj h S xs ds):∃ s,Ev.eU ds=some (s,[])∧aq h S l s:=by
 unfold eU at z
 split at z
 ·obtain ⟨d,rfl,p1⟩:=p.one;simp only [bu,Rep] at p1;subst p1
  split at z
  ·rename_i k;cases z;exact ⟨_,by simp only [Ev.eU];rw [if_pos k],sy _ _⟩
  ·cases z
 ·simp only [fj,bu,Rep] at p;obtain ⟨_,_,rfl,rfl,_,_,rfl,rfl,rfl⟩:=p
  split at z
  ·rename_i k;cases z;exact ⟨_,by simp only [Ev.eU];rw [if_pos k],sy _ _⟩
  ·cases z
 ·cases z
theorem yR:∀ {a b:List V}{ds es:List D},aq h S a ds→aq h S b es→aq h S (dM a b) (Ev.dM ds es)
 | [],_,_,_,p,q=>by simp only [aq] at p;subst p;simp [dM,Ev.dM,aq]
 | _ :: _,[],_,_,p,q=>by simp only [aq] at q;subst q;simp [dM,Ev.dM,aq]
 | x :: xs,y :: ys,_,_,p,q=>by
  simp only [aq] at p q
  obtain ⟨d,ds,rfl,p1,p2⟩:=p
  obtain ⟨e,es,rfl,q1,q2⟩:=q
  have:=yR p2 q2
  simp only [dM,Ev.dM,List.zipWith_cons_cons] at this ⊢
  exact .cons ⟨_,rfl,.cons p1 (.cons q1 .nil)⟩ this
theorem uQ:∀ {a:List V}{ds:List D}(k:Int),aq h S a ds→aq h S (gh k a) (Ev.gh k ds)
 | [],_,_,p=>by simp only [aq] at p;subst p;simp [gh,Ev.gh,aq]
 | x :: xs,_,k,p=>by
  simp only [aq] at p
  obtain ⟨d,ds,rfl,p1,p2⟩:=p
  simp only [gh,Ev.gh]
  exact .cons ⟨_,rfl,.cons rfl (.cons p1 .nil)⟩ (uQ _ p2)
end
end Pv
namespace Pv
open Ev (D O Hh bW bQ TY BI ME T E Es Eo It S Ss Fn big deep b2i rep b6 dY bK aQ cut cG dW slots bh)
noncomputable def jV (M B:Nat→Prop) (h:Hh) (S:Nat→Prop):Option Sl→Option D→Prop
 | none,p=>p=none
 | some (.val v),p=>∃ d,p=some d∧Rep h S v d
 | some (.own l),p=>∃ m ds,p=some (.ref m)∧(M m∧¬ B m)∧h[m]?=some (.lst ds)∧aq h S l ds
 | some (.bor l),p=>∃ m ds,p=some (.ref m)∧(M m∧B m)∧h[m]?=some (.lst ds)∧aq h S l ds
 | some (.ro l),p=>∃ m ds,p=some (.ref m)∧¬ M m∧h[m]?=some (.lst ds)∧aq h S l ds
noncomputable def gq:Option Sl→Bool
 | some (.own _)=>true
 | some (.bor _)=>true
 | _=>false
noncomputable def uR:Option Sl→Bool
 | some (.bor _)=>true
 | some (.ro _)=>true
 | _=>false
noncomputable def locked (fr:Fr) (i:Nat):Bool:=match fr[i]? with
 | some o=>uR o
 | none=>false
structure bB (M B:Nat→Prop) (h:Hh) (S:Nat→Prop) (fr:Fr) (aj:Ev.Fr):Prop where
 wS:∀ m,S m→m<h.length∧¬ M m∧¬ B m
 wM:∀ m,M m→m<h.length
 wB:∀ m,B m→m<h.length
 len:fr.length=aj.length
 sl:∀ (i:Nat) o p,fr[i]?=some o→aj[i]?=some p→jV M B h S o p
 inj:∀ (i j:Nat) o o' m,fr[i]?=some o→fr[j]?=some o'→gq o=true→gq o'=true→aj[i]?=some (some (.ref m))→aj[j]?=some (some (.ref m))→i=j
structure Tk (X:Nat→Prop) (h:Hh) (S:Nat→Prop) (h':Hh) (S':Nat→Prop):Prop where
 len:h.length≤h'.length
 keep:∀ m,m<h.length→¬ X m→h'[m]?=h[m]?
 sub:∀ m,S m→S' m
 new:∀ m,S' m→S m∨(h.length≤m∧m<h'.length)
noncomputable def Xs (M:Nat→Prop) (aj:Ev.Fr) (l:List Nat):Nat→Prop:=fun m=>M m∧∃ i∈l,aj[i]?=some (some (.ref m))
structure Out (M B:Nat→Prop) (c:List Nat) (h:Hh) (S:Nat→Prop) (fr:Fr) (aj:Ev.Fr) (h':Hh) (S':Nat→Prop) (af:Fr):Prop where
 f:bB M B h' S' af aj
 tr:Tk (Xs M aj c) h S h' S'
 lk:∀ i,locked af i=locked fr i
section
variable {M B M':Nat→Prop}{h h' h1 h2:Hh}{S S' S1 S2:Nat→Prop}{fr af au:Fr}{aj:Ev.Fr}{c c1 c2:List Nat}{v:V}{d:D}{X X1 X2:Nat→Prop}
theorem bB.get (f:bB M B h S fr aj) {i:Nat}{o:Option Sl}(e:fr[i]?=some o):∃ p,aj[i]?=some p∧jV M B h S o p:=by
 have h1:=(List.getElem?_eq_some_iff.mp e).1
 rw [f.len] at h1
 exact ⟨aj[i],List.getElem?_eq_getElem h1,f.sl i o _ e (List.getElem?_eq_getElem h1)⟩
theorem bB.w (f:bB M B h S fr aj):∀ m,S m→m<h.length:=fun m q=>(f.wS m q).1
theorem Al.tr (a:Al h S h' S'):Tk X h S h' S':=⟨a.len,fun m q _=>a.keep m q,a.sub,a.new⟩
theorem Tk.al (t:Tk X h S h' S') (z:∀ m,¬ X m):Al h S h' S':=⟨t.len,fun m q=>t.keep m q (z m),t.sub,t.new⟩
theorem Tk.weak (t:Tk X h S h' S') (q:∀ m,X m→X1 m):Tk X1 h S h' S':=⟨t.len,fun m k z=>t.keep m k fun y=>z (q m y),t.sub,t.new⟩
theorem Tk.trans (a:Tk X1 h S h1 S1) (b:Tk X2 h1 S1 h2 S2):Tk (fun m=>X1 m∨X2 m) h S h2 S2 where
 len:=Nat.le_trans a.len b.len
 keep:=fun m q z=>by rw [b.keep m (Nat.lt_of_lt_of_le q a.len) (fun y=>z (.inr y)),a.keep m q (fun y=>z (.inl y))]
 sub:=fun m q=>b.sub m (a.sub m q)
 new:=fun m q=>by
  rcases b.new m q with q | ⟨q1,q2⟩
  ·rcases a.new m q with q | ⟨q1,q2⟩
   ·exact .inl q
   ·exact .inr ⟨q1,Nat.lt_of_lt_of_le q2 b.len⟩
  ·exact .inr ⟨Nat.le_trans a.len q1,q2⟩
theorem Al.trans (a:Al h S h1 S1) (b:Al h1 S1 h2 S2):Al h S h2 S2:=((a.tr (X:=fun _=>False)).trans (b.tr (X:=fun _=>False))).al fun m z=>by simp at z
theorem Tk.refl:Tk X h S h S:=⟨Nat.le_refl _,fun _ _ _=>rfl,fun _ q=>q,fun _ q=>.inl q⟩
theorem Xs.app {l1 l2:List Nat}{m:Nat}:Xs M aj (l1++l2) m↔Xs M aj l1 m∨Xs M aj l2 m:=by
 unfold Xs
 constructor
 ·rintro ⟨a,i,hi,e⟩
  rcases List.mem_append.mp hi with hi | hi
  ·exact .inl ⟨a,i,hi,e⟩
  ·exact .inr ⟨a,i,hi,e⟩
 ·rintro (⟨a,i,hi,e⟩ | ⟨a,i,hi,e⟩)
  ·exact ⟨a,i,List.mem_append.mpr (.inl hi),e⟩
  ·exact ⟨a,i,List.mem_append.mpr (.inr hi),e⟩
theorem Xs.nil {m:Nat}:¬ Xs M aj [] m:=by rintro ⟨_,i,hi,_⟩;simp at hi
theorem Xs.mono {l1 l2:List Nat}(q:∀ i∈l1,i∈l2) {m:Nat}:Xs M aj l1 m→Xs M aj l2 m:=fun ⟨a,i,hi,e⟩=>⟨a,i,q i hi,e⟩
theorem Rep.tr (q:Rep h S v d) (f:bB M B h S fr aj) (t:Tk (Xs M aj c) h S h' S'):Rep h' S' v d:=q.mono (fun m z=>t.keep m (f.wS m z).1 (fun y=>(f.wS m z).2.1 y.1)) t.sub
theorem aq.tr {l:List V}{ds:List D}(q:aq h S l ds) (f:bB M B h S fr aj) (t:Tk (Xs M aj c) h S h' S'):aq h' S' l ds:=q.mono (fun m z=>t.keep m (f.wS m z).1 (fun y=>(f.wS m z).2.1 y.1)) t.sub
theorem bu.tr (q:bu h S v d) (f:bB M B h S fr aj) (t:Tk X h S h' S') (z:∀ m,¬ X m):bu h' S' v d:=q.mono (fun m k=>t.keep m k (z m)) f.w t.sub
theorem jV.al {o:Option Sl}{p:Option D}(q:jV M B h S o p) (w:∀ m,S m→m<h.length) (a:Al h S h' S'):jV M B h' S' o p:=by
 have k:∀ m,S m→h'[m]?=h[m]?:=fun m z=>a.keep m (w m z)
 have g:∀ (m:Nat) (ds:List D),h[m]?=some (O.lst ds)→h'[m]?=some (O.lst ds):=fun m ds z=>by rw [a.keep m (List.getElem?_eq_some_iff.mp z).1];exact z
 rcases o with _ | s
 ·exact q
 ·cases s with
  | val v=>obtain ⟨d,e,q⟩:=q;exact ⟨d,e,q.mono k a.sub⟩
  | own l=>obtain ⟨m,ds,e,z,y,q⟩:=q;exact ⟨m,ds,e,z,g m ds y,q.mono k a.sub⟩
  | bor l=>obtain ⟨m,ds,e,z,y,q⟩:=q;exact ⟨m,ds,e,z,g m ds y,q.mono k a.sub⟩
  | ro l=>obtain ⟨m,ds,e,z,y,q⟩:=q;exact ⟨m,ds,e,z,g m ds y,q.mono k a.sub⟩
theorem bB.al (f:bB M B h S fr aj) (a:Al h S h' S'):bB M B h' S' fr aj where
 wS:=fun m q=>by
  rcases a.new m q with q | ⟨q1,q2⟩
  ·exact ⟨Nat.lt_of_lt_of_le (f.wS m q).1 a.len,(f.wS m q).2⟩
  ·exact ⟨q2,fun z=>by have:=f.wM m z;omega,fun z=>by have:=f.wB m z;omega⟩
 wM:=fun m q=>Nat.lt_of_lt_of_le (f.wM m q) a.len
 wB:=fun m q=>Nat.lt_of_lt_of_le (f.wB m q) a.len
 len:=f.len
 sl:=fun i o p e1 e2=>(f.sl i o p e1 e2).al f.w a
 inj:=f.inj
theorem Out.refl (f:bB M B h S fr aj):Out M B c h S fr aj h S fr:=⟨f,.refl,fun _=>rfl⟩
theorem Out.trans (a:Out M B c1 h S fr aj h1 S1 af) (b:Out M B c2 h1 S1 af aj h2 S2 au):Out M B (c1++c2) h S fr aj h2 S2 au:=⟨b.f,(a.tr.trans b.tr).weak fun m z=>Xs.app.mpr z,fun i=>(b.lk i).trans (a.lk i)⟩
theorem Out.al (a:Out M B c h S fr aj h1 S1 af) (b:Al h1 S1 h2 S2):Out M B c h S fr aj h2 S2 af:=⟨a.f.al b,(a.tr.trans (b.tr (X:=fun _=>False))).weak (fun m z=>by rcases z with z | z;exact z;exact z.elim),a.lk⟩
theorem Out.weak (a:Out M B c h S fr aj h1 S1 af) (q:∀ i∈c,i∈c1):Out M B c1 h S fr aj h1 S1 af:=⟨a.f,a.tr.weak fun m z=>Xs.mono q z,a.lk⟩
noncomputable def eV (k:Bool) (h:Hh) (S:Nat→Prop) (v:V) (d:D):Prop:=if k=true then bu h S v d else Rep h S v d
theorem eV.of {k:Bool}(q:Rep h S v d):eV k h S v d:=by unfold eV;split;exact q.top;exact q
theorem eV.t {k:Bool}(q:eV k h S v d):bu h S v d:=by unfold eV at q;split at q;exact q;exact q.top
theorem eV.n (q:eV false h S v d):Rep h S v d:=by simpa [eV] using q
theorem bB.slot (f:bB M B h S fr aj) {i m:Nat}(e:aj[i]?=some (some (.ref m))) (hm:M m):∃ o,fr[i]?=some o∧gq o=true:=by
 have hl:i<fr.length:=by rw [f.len];exact (List.getElem?_eq_some_iff.mp e).1
 refine ⟨fr[i],List.getElem?_eq_getElem hl,?_⟩
 have s:=f.sl i _ _ (List.getElem?_eq_getElem hl) e
 revert s
 generalize fr[i]=o
 intro s
 rcases o with _ | s'
 ·cases s
 ·cases s' with
  | own l=>rfl
  | bor l=>rfl
  | ro l=>obtain ⟨m',ds,e,y,_⟩:=s;cases e;exact absurd hm y
  | val v=>
   obtain ⟨d,e,q⟩:=s
   cases e
   exfalso
   cases v <;> simp only [Rep,reduceCtorEq] at q
   ·obtain ⟨_,e,_⟩:=q;cases e
   ·obtain ⟨n,ds,e,sn,_⟩:=q;cases e;exact (f.wS _ sn).2.1 hm
   ·obtain ⟨n,ds,e,sn,_⟩:=q;cases e;exact (f.wS _ sn).2.1 hm
theorem eV.tr {k:Bool}{a:E}(q:eV k h S v d) (f:bB M B h S fr aj) (t:Tk (Xs M aj c) h S h' S') (hk:k=true→kf a c=true) (ha:∀ i,a=.v i→aj[i]?.join=some d):eV k h' S' v d:=by
 unfold eV at q ⊢
 split at q
 ·rename_i e
  rw [if_pos e]
  have hk:=hk e
  have gen:c=[]→bu h' S' v d:=fun z=>q.tr f t fun m y=>by subst z;exact Xs.nil y
  by_cases hv:∃ i,a=.v i
  ·obtain ⟨i0,rfl⟩:=hv
   simp only [kf,Bool.not_eq_true',List.contains_eq_mem,decide_eq_false_iff_not] at hk
   cases v
   case lst l=>
    simp only [bu] at q ⊢
    obtain ⟨n,ds,rfl,b1,b2⟩:=q
    refine ⟨n,ds,rfl,?_,b2.tr f t⟩
    rw [t.keep n (List.getElem?_eq_some_iff.mp b1).1 ?_]
    ·exact b1
    ·rintro ⟨mn,j,hj,ej⟩
     have e2:aj[i0]?=some (some (D.ref n)):=by
      have:=ha i0 rfl
      cases z:aj[i0]? with
      | none=>rw [z] at this;cases this
      | some p=>rw [z] at this;simp at this;rw [this]
     obtain ⟨o1,y1,y2⟩:=f.slot e2 mn
     obtain ⟨o2,y3,y4⟩:=f.slot ej mn
     have:=f.inj i0 j o1 o2 n y1 y3 y2 y4 e2 ej
     subst this
     exact hk hj
   all_goals exact Rep.tr (show Rep h S _ d from q) f t
  ·have:kf a c=c.isEmpty:=by
    cases a <;> first | rfl | exact absurd ⟨_,rfl⟩ hv
   rw [this,List.isEmpty_iff] at hk
   exact gen hk
 ·rename_i e
  rw [if_neg e]
  exact q.tr f t
theorem FY {k:Bool}{i:Nat}(e:lE k fr i=some v) (f:bB M B h S fr aj):∃ d,aj[i]?.join=some d∧eV k h S v d:=by
  unfold lE at e
  split at e
  · rename_i z
    obtain ⟨p,e1,q⟩:=f.get z
    obtain ⟨d,rfl,q⟩:=q
    cases e
    exact ⟨d,by rw [e1];rfl,.of q⟩
  all_goals first
    | (rename_i z
       obtain ⟨p,e1,q⟩:=f.get z
       obtain ⟨m,ds,rfl,_,y,q⟩:=q
       split at e
       · rename_i hk
         cases e
         exact ⟨.ref m,by rw [e1];rfl,by unfold eV;rw [if_pos hk];exact ⟨m,ds,rfl,y,q⟩⟩
       · cases e)
    | cases e
theorem iR {i:Nat}{s:Sl}(e:lent fr i=some s) (f:bB M B h S fr aj):∃ m ds l o,fr[i]?=some o∧aj[i]?=some (some (.ref m))∧h[m]?=some (.lst ds)∧aq h S l ds∧((s=.bor l∧M m∧gq o=true)∨(s=.ro l∧¬ M m∧o=some (.ro l))):=by
 unfold lent at e
 split at e
 ·rename_i s' z
  obtain ⟨p,e1,q⟩:=f.get z
  cases s' with
  | val v=>simp [Sl.lend] at e
  | own l=>
   simp [Sl.lend] at e;subst e
   obtain ⟨m,ds,rfl,y,y1,q⟩:=q
   exact ⟨m,ds,l,_,z,e1,y1,q,.inl ⟨rfl,y.1,rfl⟩⟩
  | bor l=>
   simp [Sl.lend] at e;subst e
   obtain ⟨m,ds,rfl,y,y1,q⟩:=q
   exact ⟨m,ds,l,_,z,e1,y1,q,.inl ⟨rfl,y.1,rfl⟩⟩
  | ro l=>
   simp [Sl.lend] at e;subst e
   obtain ⟨m,ds,rfl,y,y1,q⟩:=q
   exact ⟨m,ds,l,_,z,e1,y1,q,.inr ⟨rfl,y,rfl⟩⟩
 ·cases e
noncomputable def sA (h:Hh) (S:Nat→Prop) (aj:Ev.Fr):List (Nat ⊕ V)→List D→Prop
 | [],ds=>ds=[]
 | .inl i :: r,ds=>∃ d es,ds=d :: es∧aj[i]?=some (some d)∧sA h S aj r es
 | .inr v :: r,ds=>∃ d es,ds=d :: es∧Rep h S v d∧sA h S aj r es
noncomputable def lI (h:Hh) (S:Nat→Prop):List Sl→List D→List (List V)→Prop
 | [],_,os=>os=[]
 | .val _ :: sl,ds,os=>∃ d es,ds=d :: es∧lI h S sl es os
 | .own _ :: _,_,_=>False
 | _ :: sl,ds,os=>∃ d es l r m cs,ds=d :: es∧os=l :: r∧d=.ref m∧h[m]?=some (.lst cs)∧aq h S l cs∧lI h S sl es r
noncomputable def oq (P:aR) (P':Ev.aR):Prop:=∀ f sl v os,P f sl=some (v,os)→∀ (h:Hh) (S B:Nat→Prop) (ds:List D),bB B B h S (sl.map some) (ds.map some)→
 ∃ d h' S',P' f ds h=.ok d h'∧Rep h' S' v d∧Tk B h S h' S'∧lI h' S' sl ds os
theorem args_get (f:bB M B h S fr aj):∀ {as:List (Nat ⊕ V)}{sl:List Sl}{ds:List D},args fr as=some sl→sA h S aj as ds→sl.length=ds.length∧∀ (a:Nat) s d,sl[a]?=some s→ds[a]?=some d→
  (∃ i,as[a]?=some (.inl i)∧lent fr i=some s∧aj[i]?=some (some d))∨(∃ v,s=.val v∧Rep h S v d)
 | [],sl,ds,e,q=>by
  simp [args] at e;simp only [sA] at q;subst e q;simp
 | .inl i :: r,sl,ds,e,q=>by
  simp only [args,Option.bind_eq_some_iff,Option.map_eq_some_iff] at e
  obtain ⟨s,e1,l,e2,rfl⟩:=e
  obtain ⟨d,es,rfl,q1,q⟩:=q
  obtain ⟨h1,h2⟩:=args_get f e2 q
  refine ⟨by simp [h1],fun a s' d' z1 z2=>?_⟩
  cases a with
  | zero=>simp at z1 z2;subst z1 z2;exact .inl ⟨i,by simp,e1,q1⟩
  | succ a=>exact (h2 a s' d' (by simpa using z1) (by simpa using z2)).imp (fun ⟨i,k,z⟩=>⟨i,by simpa using k,z⟩) id
 | .inr v :: r,sl,ds,e,q=>by
  simp only [args,Option.map_eq_some_iff] at e
  obtain ⟨l,e2,rfl⟩:=e
  obtain ⟨d,es,rfl,q1,q⟩:=q
  obtain ⟨h1,h2⟩:=args_get f e2 q
  refine ⟨by simp [h1],fun a s' d' z1 z2=>?_⟩
  cases a with
  | zero=>simp at z1 z2;subst z1 z2;exact .inr ⟨v,rfl,q1⟩
  | succ a=>exact (h2 a s' d' (by simpa using z1) (by simpa using z2)).imp (fun ⟨i,k,z⟩=>⟨i,by simpa using k,z⟩) id
theorem gr:∀ {as:List (Nat ⊕ V)}{a i:Nat},as[a]?=some (.inl i)→i∈bM as
 | [],_,_,e=>by simp at e
 | .inl j :: r,0,i,e=>by simp at e;subst e;simp [bM]
 | .inr j :: r,0,i,e=>by simp at e
 | .inl j :: r,a+1,i,e=>by have:=gr (as:=r) (a:=a) (i:=i) (by simpa using e);simp [bM,this]
 | .inr j :: r,a+1,i,e=>by have:=gr (as:=r) (a:=a) (i:=i) (by simpa using e);simp [bM,this]
theorem lJ:∀ {as:List (Nat ⊕ V)}{a b i:Nat},(bM as).Nodup→as[a]?=some (.inl i)→as[b]?=some (.inl i)→a=b
 | [],_,_,_,_,e,_=>by simp at e
 | x :: r,0,0,_,_,_,_=>rfl
 | .inr j :: r,0,b+1,i,n,e,_=>by simp at e
 | .inl j :: r,0,b+1,i,n,e,e2=>by
  simp at e;subst e
  simp only [bM,List.nodup_cons] at n
  exact absurd (gr (as:=r) (a:=b) (by simpa using e2)) n.1
 | .inr j :: r,a+1,0,i,n,_,e=>by simp at e
 | .inl j :: r,a+1,0,i,n,e2,e=>by
  simp at e;subst e
  simp only [bM,List.nodup_cons] at n
  exact absurd (gr (as:=r) (a:=a) (by simpa using e2)) n.1
 | .inl j :: r,a+1,b+1,i,n,e1,e2=>by
  simp only [bM,List.nodup_cons] at n
  have:=lJ (as:=r) (a:=a) (b:=b) (i:=i) n.2 (by simpa using e1) (by simpa using e2)
  omega
 | .inr j :: r,a+1,b+1,i,n,e1,e2=>by
  simp only [bM] at n
  have:=lJ (as:=r) (a:=a) (b:=b) (i:=i) n (by simpa using e1) (by simpa using e2)
  omega
theorem AU {s:Sl}{l:List V}:gq (some (s.with l))=gq (some s):=by cases s <;> rfl
theorem uS {s:Sl}{l:List V}:uR (some (s.with l))=uR (some s):=by cases s <;> rfl
theorem sC:∀ {is:List Nat}{ls:List (List V)}{fr af:Fr},back is ls fr=some af→is.Nodup→af.length=fr.length∧(∀ i,i∉is→af[i]?=fr[i]?)∧∀ i∈is,∃ (k:Nat) (s:Sl) (l:List V),is[k]?=some i∧ls[k]?=some l∧fr[i]?=some (some s)∧af[i]?=some (some (s.with l))
 | [],[],fr,af,e,_=>by simp [back] at e;subst e;simp
 | [],_ :: _,_,_,e,_=>by simp [back] at e
 | _ :: _,[],_,_,e,_=>by simp [back] at e
 | i :: is,l :: ls,fr,af,e,n=>by
  simp only [back] at e
  simp only [List.nodup_cons] at n
  split at e
  ·rename_i s z
   obtain ⟨h1,h2,h3⟩:=sC e n.2
   refine ⟨by simpa using h1,fun j hj=>?_,fun j hj=>?_⟩
   ·simp at hj
    rw [h2 j hj.2,List.getElem?_set_ne (fun q=>hj.1 q.symm)]
   ·rcases List.mem_cons.mp hj with rfl | hj
    ·exact ⟨0,s,l,by simp,by simp,z,by rw [h2 j n.1,List.getElem?_set_self (List.getElem?_eq_some_iff.mp z).1]⟩
    ·obtain ⟨k,s',l',a,b,c,d⟩:=h3 j hj
     have hne:i≠j:=fun q=>n.1 (q▸hj)
     rw [List.getElem?_set_ne hne] at c
     exact ⟨k+1,s',l',by simpa using a,by simpa using b,c,d⟩
  ·cases e
theorem lK (f:bB M B h S fr aj):∀ {as:List (Nat ⊕ V)}{sl:List Sl}{ds:List D}{os:List (List V)},args fr as=some sl→sA h S aj as ds→lI h' S' sl ds os→
  ∀ (k i:Nat) l,(bM as)[k]?=some i→os[k]?=some l→∃ m cs,aj[i]?=some (some (.ref m))∧h'[m]?=some (.lst cs)∧aq h' S' l cs
 | [],sl,ds,os,e,q,o=>by simp [bM]
 | .inl i :: r,sl,ds,os,e,q,o=>by
  simp only [args,Option.bind_eq_some_iff,Option.map_eq_some_iff] at e
  obtain ⟨s,e1,l,e2,rfl⟩:=e
  obtain ⟨d,es,rfl,q1,q⟩:=q
  obtain ⟨m,cs,l0,o0,_,z2,z3,z4,z5⟩:=iR e1 f
  have key:∃ l1 r1 cs,os=l1 :: r1∧h'[m]?=some (.lst cs)∧aq h' S' l1 cs∧lI h' S' l es r1:=by
   rw [q1] at z2;cases z2
   rcases z5 with ⟨rfl,_⟩ | ⟨rfl,_⟩
   ·obtain ⟨d',es',l1,r1,m1,yS,a1,a2,a3,a4,a5,a6⟩:=o
    cases a1;cases a3
    exact ⟨l1,r1,yS,a2,a4,a5,a6⟩
   ·obtain ⟨d',es',l1,r1,m1,yS,a1,a2,a3,a4,a5,a6⟩:=o
    cases a1;cases a3
    exact ⟨l1,r1,yS,a2,a4,a5,a6⟩
  obtain ⟨l1,r1,yS,rfl,a4,a5,a6⟩:=key
  intro k j l' y1 y2
  cases k with
  | zero=>simp [bM] at y1 y2;subst y1 y2;exact ⟨m,yS,z2,a4,a5⟩
  | succ k=>exact lK f e2 q a6 k j l' (by simpa [bM] using y1) (by simpa using y2)
 | .inr v :: r,sl,ds,os,e,q,o=>by
  simp only [args,Option.map_eq_some_iff] at e
  obtain ⟨l,e2,rfl⟩:=e
  obtain ⟨d,es,rfl,q1,q⟩:=q
  obtain ⟨d',es',a1,a2⟩:=o
  cases a1
  intro k j l' y1 y2
  exact lK f e2 q a2 k j l' (by simpa [bM] using y1) y2
theorem kj:∀ {as:List (Nat ⊕ V)}{sl:List Sl}{i:Nat},args fr as=some sl→i∈bM as→∃ s,lent fr i=some s
 | [],_,_,_,q=>by simp [bM] at q
 | .inl j :: r,_,i,z,q=>by
  simp only [args,Option.bind_eq_some_iff,Option.map_eq_some_iff] at z
  obtain ⟨s,e1,l,e2,rfl⟩:=z
  simp [bM] at q
  rcases q with rfl | q
  ·exact ⟨s,e1⟩
  ·exact kj e2 q
 | .inr u :: r,_,i,z,q=>by
  simp only [args,Option.map_eq_some_iff] at z
  obtain ⟨l,e2,rfl⟩:=z
  exact kj e2 (by simpa [bM] using q)
theorem AV {P:aR}{P':Ev.aR}(HP:oq P P') {g:Nat}{as:List (Nat ⊕ V)}{ds:List D}(e:fO P g as fr=.ok v af) (f:bB M B h S fr aj) (q:sA h S aj as ds) :
  ∃ d h' S',P' g ds h=.ok d h'∧Rep h' S' v d∧Out M B (bM as) h S fr aj h' S' af:=by
 unfold fO at e
 split at e
 case isFalse=>cases e
 rename_i nd
 cases z:args fr as with
 | none=>rw [z] at e;cases e
 | some sl=>
 rw [z] at e
 simp only at e
 cases z2:P g sl with
 | none=>rw [z2] at e;cases e
 | some vo=>
 obtain ⟨v',os⟩:=vo
 rw [z2] at e
 simp only at e
 cases z3:back (bM as) os fr with
 | none=>rw [z3] at e;cases e
 | some au=>
 rw [z3] at e
 simp at e
 obtain ⟨rfl,rfl⟩:=e
 obtain ⟨hl,hg⟩:=args_get f z q
 let B0:Nat→Prop:=fun m=>∃ i o,i∈bM as∧fr[i]?=some o∧gq o=true∧aj[i]?=some (some (.ref m))
 have oz:∀ m,B0 m→M m:=fun m ⟨i,o,_,a,b,c⟩=>by
  have s:=f.sl i o _ a c
  rcases o with _ | s'
  ·cases b
  ·cases s' with
   | val v=>cases b
   | ro l=>cases b
   | own l=>obtain ⟨m',ds',e,y,_⟩:=s;cases e;exact y.1
   | bor l=>obtain ⟨m',ds',e,y,_⟩:=s;cases e;exact y.1
 have F0:bB B0 B0 h S (sl.map some) (ds.map some):=by
  refine ⟨fun m y=>⟨(f.wS m y).1,fun z=>(f.wS m y).2.1 (oz m z),fun z=>(f.wS m y).2.1 (oz m z)⟩,fun m y=>f.wM m (oz m y),fun m y=>f.wM m (oz m y),by simp [hl],fun a o p y1 y2=>?_,fun a b o o' m y1 y2 y3 y4 y5 y6=>?_⟩
  ·simp at y1 y2
   obtain ⟨s,y1,rfl⟩:=y1
   obtain ⟨d,y2,rfl⟩:=y2
   rcases hg a s d y1 y2 with ⟨i,k1,k2,k3⟩ | ⟨u,rfl,k⟩
   ·obtain ⟨m,cs,l0,o0,w1,w2,w3,w4,w5⟩:=iR k2 f
    rw [k3] at w2;cases w2
    rcases w5 with ⟨rfl,w6,w7⟩ | ⟨rfl,w6,w7⟩
    ·exact ⟨m,cs,rfl,⟨⟨i,o0,gr k1,w1,w7,k3⟩,⟨i,o0,gr k1,w1,w7,k3⟩⟩,w3,w4⟩
    ·exact ⟨m,cs,rfl,fun z=>w6 (oz m z),w3,w4⟩
   ·exact ⟨d,rfl,k⟩
  ·simp at y1 y2 y5 y6
   obtain ⟨s,y1,rfl⟩:=y1
   obtain ⟨s',y2,rfl⟩:=y2
   rcases hg a s _ y1 y5 with ⟨i,k1,k2,k3⟩ | ⟨u,rfl,k⟩
   ·rcases hg b s' _ y2 y6 with ⟨j,k4,k5,k6⟩ | ⟨u,rfl,k⟩
    ·obtain ⟨m1,_,l1,o1,w1,w2,_,_,w5⟩:=iR k2 f
     obtain ⟨m2,_,l2,o2,x1,x2,_,_,x5⟩:=iR k5 f
     have i1:gq o1=true:=by rcases w5 with ⟨_,_,w7⟩ | ⟨rfl,_,_⟩;exact w7;cases y3
     have i2:gq o2=true:=by rcases x5 with ⟨_,_,w7⟩ | ⟨rfl,_,_⟩;exact w7;cases y4
     have:=f.inj i j o1 o2 m w1 x1 i1 i2 k3 k6
     subst this
     exact lJ nd k1 k4
    ·cases y4
   ·cases y3
 obtain ⟨d,h',S',c1,c2,c3,c4⟩:=HP g sl v' os z2 h S B0 ds F0
 obtain ⟨b1,b2,b3⟩:=sC z3 nd
 have hL:=lK f z q c4
 have oA:∀ m,S m→h'[m]?=h[m]?:=fun m y=>c3.keep m (f.wS m y).1 (fun z=>(f.wS m y).2.1 (oz m z))
 refine ⟨d,h',S',c1,c2,⟨?_,?_,?_⟩⟩
 ·refine ⟨fun m y=>?_,fun m y=>Nat.lt_of_lt_of_le (f.wM m y) c3.len,fun m y=>Nat.lt_of_lt_of_le (f.wB m y) c3.len,by rw [b1,f.len],fun i o p y1 y2=>?_,fun i j o o' m y1 y2 y3 y4 y5 y6=>?_⟩
  ·rcases c3.new m y with y | ⟨y1,y2⟩
   ·exact ⟨Nat.lt_of_lt_of_le (f.wS m y).1 c3.len,(f.wS m y).2⟩
   ·exact ⟨y2,fun z=>by have:=f.wM m z;omega,fun z=>by have:=f.wB m z;omega⟩
  ·by_cases hi:i∈bM as
   ·obtain ⟨k,s,l,w1,w2,w3,w4⟩:=b3 i hi
    rw [w4] at y1;cases y1
    obtain ⟨m,cs,x1,x2,x3⟩:=hL k i l w1 w2
    rw [x1] at y2;cases y2
    have old:=f.sl i _ _ w3 x1
    cases s with
    | val u=>
     exfalso
     have:∃ s,lent fr i=some s:=kj z hi
     obtain ⟨s,hs⟩:=this
     simp [lent,w3,Sl.lend] at hs
    | own u=>obtain ⟨m',ds',e,y,_⟩:=old;cases e;exact ⟨m,cs,rfl,y,x2,x3⟩
    | bor u=>obtain ⟨m',ds',e,y,_⟩:=old;cases e;exact ⟨m,cs,rfl,y,x2,x3⟩
    | ro u=>
     obtain ⟨m',ds',e,y,y1,y2⟩:=old;cases e
     refine ⟨m,ds',rfl,y,?_,y2.mono oA c3.sub⟩
     rw [c3.keep m (List.getElem?_eq_some_iff.mp y1).1 (fun z=>y (oz m z))];exact y1
   ·rw [b2 i hi] at y1
    have old:=f.sl i o p y1 y2
    rcases o with _ | s
    ·exact old
    ·cases s with
     | val u=>obtain ⟨d,e,q⟩:=old;exact ⟨d,e,q.mono oA c3.sub⟩
     | own u=>
      obtain ⟨m,ds',rfl,w1,w2,w3⟩:=old
      refine ⟨m,ds',rfl,w1,?_,w3.mono oA c3.sub⟩
      rw [c3.keep m (f.wM m w1.1) (fun ⟨j,o2,x1,x2,x3,x4⟩=>hi (f.inj i j _ o2 m y1 x2 rfl x3 y2 x4▸x1))];exact w2
     | bor u=>
      obtain ⟨m,ds',rfl,w1,w2,w3⟩:=old
      refine ⟨m,ds',rfl,w1,?_,w3.mono oA c3.sub⟩
      rw [c3.keep m (f.wM m w1.1) (fun ⟨j,o2,x1,x2,x3,x4⟩=>hi (f.inj i j _ o2 m y1 x2 rfl x3 y2 x4▸x1))];exact w2
     | ro u=>
      obtain ⟨m,ds',rfl,w1,w2,w3⟩:=old
      refine ⟨m,ds',rfl,w1,?_,w3.mono oA c3.sub⟩
      rw [c3.keep m (List.getElem?_eq_some_iff.mp w2).1 (fun z=>w1 (oz m z))];exact w2
  ·have kind:∀ (i:Nat) o,au[i]?=some o→gq o=true→∃ o0,fr[i]?=some o0∧gq o0=true:=fun i o w1 w2=>by
    by_cases hi:i∈bM as
    ·obtain ⟨k,s,l,x1,x2,x3,x4⟩:=b3 i hi
     rw [x4] at w1;cases w1
     exact ⟨_,x3,by rw [AU] at w2;exact w2⟩
    ·rw [b2 i hi] at w1;exact ⟨o,w1,w2⟩
   obtain ⟨oi,k1,k2⟩:=kind i o y1 y3
   obtain ⟨oj,k3,k4⟩:=kind j o' y2 y4
   exact f.inj i j oi oj m k1 k3 k2 k4 y5 y6
 ·exact c3.weak fun m z=>⟨oz m z,by obtain ⟨i,o,a1,a2,a3,a4⟩:=z;exact ⟨i,a1,a4⟩⟩
 ·intro i
  unfold locked
  by_cases hi:i∈bM as
  ·obtain ⟨k,s,l,x1,x2,x3,x4⟩:=b3 i hi
   rw [x3,x4];exact uS
  ·rw [b2 i hi]
end
end Pv
namespace Pv
open Ev (D O Hh bW bQ TY BI ME T E Es Eo It S Ss Fn big deep b2i rep b6 dY bK aQ cut cG dW slots bh)
section
variable {M B M':Nat→Prop}{h h' h1 h2:Hh}{S S' S1 S2:Nat→Prop}{fr af au:Fr}{aj:Ev.Fr}{c c1 c2:List Nat}{v:V}{d:D}
theorem jY {n m:Nat}{o:O}(q:n≠m):(h.set n o)[m]?=h[m]?:=List.getElem?_set_ne q
theorem bB.mM (f:bB M B h S fr aj) {i n:Nat}{o:Option Sl}(e:fr[i]?=some o) (hM:gq o=true) (e':aj[i]?=some (some (.ref n))):M n:=by
 have s:=f.sl i o _ e e'
 rcases o with _ | s'
 ·cases hM
 ·cases s' with
  | val v=>cases hM
  | ro l=>cases hM
  | own l=>obtain ⟨m',ds',e,y,_⟩:=s;cases e;exact y.1
  | bor l=>obtain ⟨m',ds',e,y,_⟩:=s;cases e;exact y.1
theorem bB.write (f:bB M B h S fr aj) {i n:Nat}{s:Sl}{l':List V}{ds':List D}(e:fr[i]?=some (some s)) (hM:gq (some s)=true) (e':aj[i]?=some (some (.ref n))) (q:aq h S l' ds') :
  bB M B (h.set n (.lst ds')) S (fr.set i (some (s.with l'))) aj:=by
 have mn:=f.mM e hM e'
 have kp:∀ m,S m→(h.set n (.lst ds'))[m]?=h[m]?:=fun m z=>jY fun y=>(f.wS m z).2.1 (y▸mn)
 have il:=(List.getElem?_eq_some_iff.mp e).1
 refine ⟨fun m y=>by simpa using f.wS m y,fun m y=>by simpa using f.wM m y,fun m y=>by simpa using f.wB m y,by simp [f.len],fun j o p y1 y2=>?_,fun j k o o' m y1 y2 y3 y4 y5 y6=>?_⟩
 ·by_cases hj:i=j
  ·subst hj
   rw [List.getElem?_set_self il] at y1
   cases y1
   rw [e'] at y2;cases y2
   have old:=f.sl i _ _ e e'
   have hn:(h.set n (.lst ds'))[n]?=some (.lst ds'):=List.getElem?_set_self (f.wM n mn)
   cases s with
   | val v=>cases hM
   | ro l=>cases hM
   | own l=>obtain ⟨m',_,e,y,_⟩:=old;cases e;exact ⟨n,ds',rfl,y,hn,q.mono kp fun _ z=>z⟩
   | bor l=>obtain ⟨m',_,e,y,_⟩:=old;cases e;exact ⟨n,ds',rfl,y,hn,q.mono kp fun _ z=>z⟩
  ·rw [List.getElem?_set_ne hj] at y1
   have old:=f.sl j o p y1 y2
   rcases o with _ | s'
   ·exact old
   ·cases s' with
    | val u=>obtain ⟨d,e,q⟩:=old;exact ⟨d,e,q.mono kp fun _ z=>z⟩
    | own u=>
     obtain ⟨m,es,rfl,w1,w2,w3⟩:=old
     refine ⟨m,es,rfl,w1,?_,w3.mono kp fun _ z=>z⟩
     rw [jY fun (z:n=m)=>hj (f.inj i j _ _ n e y1 hM rfl e' (by rw [z];exact y2))];exact w2
    | bor u=>
     obtain ⟨m,es,rfl,w1,w2,w3⟩:=old
     refine ⟨m,es,rfl,w1,?_,w3.mono kp fun _ z=>z⟩
     rw [jY fun (z:n=m)=>hj (f.inj i j _ _ n e y1 hM rfl e' (by rw [z];exact y2))];exact w2
    | ro u=>
     obtain ⟨m,es,rfl,w1,w2,w3⟩:=old
     refine ⟨m,es,rfl,w1,?_,w3.mono kp fun _ z=>z⟩
     rw [jY fun (z:n=m)=>w1 (z▸mn)];exact w2
 ·have kind:∀ (j:Nat) o,(fr.set i (some (s.with l')))[j]?=some o→gq o=true→∃ o0,fr[j]?=some o0∧gq o0=true:=fun j o w1 w2=>by
   by_cases hj:i=j
   ·subst hj;exact ⟨_,e,hM⟩
   ·rw [List.getElem?_set_ne hj] at w1;exact ⟨o,w1,w2⟩
  obtain ⟨oi,k1,k2⟩:=kind j o y1 y3
  obtain ⟨oj,k3,k4⟩:=kind k o' y2 y4
  exact f.inj j k oi oj m k1 k3 k2 k4 y5 y6
theorem J8 {m:ME}{l l':List V}{xs:List V}{n:Nat}{ds es:List D}(z:jt m l xs=some (v,l')) (e:h[n]?=some (.lst ds)) (q:aq h S l ds) (p:fj h S xs es) (p':yN m=false→aq h S xs es) (hS:∀ k,S k→k≠n) :
  ∃ r ds',Ev.er m (.ref n) es h=.ok r (h.set n (.lst ds'))∧Rep h S v r∧aq h S l' ds':=by
 unfold jt at z
 split at z
 ·have p':=p' rfl
  split at z
  ·rename_i k
   cases z
   simp only [aq] at p'
   obtain ⟨d,_,rfl,p1,rfl⟩:=p'
   refine ⟨_,_,?_,rfl,q.append (.cons p1 .nil)⟩
   delta Ev.er;dsimp only;simp only [e]
   rw [if_pos (by rw [←q.length];exact k)]
  ·cases z
 ·split at z
  ·rename_i k
   cases z
   obtain ⟨d,rfl,p1⟩:=p.one
   simp only [bu] at p1
   obtain ⟨n2,cs,rfl,e2,p1⟩:=p1
   refine ⟨_,_,?_,rfl,q.append p1⟩
   delta Ev.er;dsimp only;simp only [e,e2]
   rw [if_pos (by rw [←q.length,←p1.length];exact k)]
  ·cases z
 ·simp only [fj] at p
  subst p
  split at z
  ·rename_i x y
   cases z
   obtain ⟨d,k1,k2⟩:=q.get y
   refine ⟨d,_,?_,k2,q.dropLast⟩
   delta Ev.er;dsimp only;simp only [e]
   rw [←q.length,k1]
  ·cases z
 ·cases z
theorem bB.set (f:bB M B h S fr aj) {i:Nat}(e:put fr i (.val v)=some af) (q:Rep h S v d):bB M B h S af (aj.set i (some d))∧(∀ j,locked af j=locked fr j)∧∀ j,locked fr j=true→(aj.set i (some d))[j]?=aj[j]?:=by
 have hx:af=fr.set i (some (.val v))∧locked fr i=false:=by
  unfold put at e
  unfold locked
  split at e
  ·cases e
  ·cases e
  ·rename_i k1 k2
   cases e
   refine ⟨rfl,?_⟩
   cases z:fr[i]? with
   | none=>rfl
   | some o=>
    rcases o with _ | s
    ·rfl
    ·cases s with
     | bor l=>exact absurd z (k1 l)
     | ro l=>exact absurd z (k2 l)
     | _=>rfl
 obtain ⟨rfl,hk⟩:=hx
 have lk:∀ j,locked (fr.set i (some (.val v))) j=locked fr j:=fun j=>by
  by_cases hj:i=j
  ·subst hj
   rw [hk]
   unfold locked
   by_cases hl:i<fr.length
   ·rw [List.getElem?_set_self hl];rfl
   ·rw [List.getElem?_eq_none (by simpa using hl)]
  ·unfold locked;rw [List.getElem?_set_ne hj]
 refine ⟨⟨f.wS,f.wM,f.wB,by simp [f.len],fun j o p y1 y2=>?_,fun j k o o' m y1 y2 y3 y4 y5 y6=>?_⟩,lk,fun j hj=>?_⟩
 ·by_cases hj:i=j
  ·subst hj
   have hl:i<fr.length:=by have:=(List.getElem?_eq_some_iff.mp y1).1;simpa using this
   rw [List.getElem?_set_self hl] at y1
   rw [List.getElem?_set_self (by rw [←f.len];exact hl)] at y2
   cases y1;cases y2
   exact ⟨d,rfl,q⟩
  ·rw [List.getElem?_set_ne hj] at y1 y2
   exact f.sl j o p y1 y2
 ·have hn:∀ (j:Nat) o,(fr.set i (some (.val v)))[j]?=some o→gq o=true→i≠j:=fun j o w1 w2 w3=>by
   subst w3
   have hl:i<fr.length:=by have:=(List.getElem?_eq_some_iff.mp w1).1;simpa using this
   rw [List.getElem?_set_self hl] at w1
   cases w1;cases w2
  have n1:=hn j o y1 y3
  have n2:=hn k o' y2 y4
  rw [List.getElem?_set_ne n1] at y1 y5
  rw [List.getElem?_set_ne n2] at y2 y6
  exact f.inj j k o o' m y1 y2 y3 y4 y5 y6
 ·have:i≠j:=fun z=>by subst z;rw [hk] at hj;cases hj
  rw [List.getElem?_set_ne this]
theorem bB.cF:∀ {is:List Nat}{vs:List V}{ds:List D}{fr af:Fr}{aj:Ev.Fr},bB M B h S fr aj→cF is vs fr=some af→aq h S vs ds→∃ bF,Ev.cF is ds aj=some bF∧bB M B h S af bF∧(∀ j,locked af j=locked fr j)∧∀ j,locked fr j=true→bF[j]?=aj[j]?
 | [],[],ds,fr,af,aj,f,e,q=>by
  simp [Pv.cF] at e;simp only [aq] at q;subst e q
  exact ⟨aj,rfl,f,fun _=>rfl,fun _ _=>rfl⟩
 | [],_ :: _,_,_,_,_,_,e,_=>by simp [Pv.cF] at e
 | _ :: _,[],_,_,_,_,_,e,_=>by simp [Pv.cF] at e
 | i :: is,v :: vs,ds,fr,af,aj,f,e,q=>by
  simp only [Pv.cF,Option.bind_eq_some_iff] at e
  obtain ⟨au,e1,e2⟩:=e
  simp only [aq] at q
  obtain ⟨d,es,rfl,q1,q2⟩:=q
  obtain ⟨f2,l2,r2⟩:=f.set e1 q1
  obtain ⟨bF,a,f3,l3,r3⟩:=f2.cF e2 q2
  exact ⟨bF,a,f3,fun j=>(l3 j).trans (l2 j),fun j hj=>(r3 j (by rw [l2 j];exact hj)).trans (r2 j hj)⟩
theorem bB.b7 (f:bB M B h S fr aj) {t:T}(e:b7 t v fr=some af) (q:Rep h S v d):∃ bF,Ev.b7 t d aj=some bF∧bB M B h S af bF∧(∀ j,locked af j=locked fr j)∧∀ j,locked fr j=true→bF[j]?=aj[j]?:=by
 cases t with
 | one i=>exact ⟨_,rfl,f.set e q⟩
 | many l=>
  cases v <;> simp only [Pv.b7,reduceCtorEq] at e
  simp only [Rep] at q
  obtain ⟨ds,rfl,q⟩:=q
  exact f.cF e q
theorem bB.undef (f:bB M B h S fr aj) {t:T}(e:undef t fr=true):Ev.undef t aj=true:=by
 unfold Pv.undef at e
 unfold Ev.undef
 rw [List.all_eq_true] at e ⊢
 intro i hi
 have:=e i hi
 cases z:fr[i]? with
 | none=>
  have:aj[i]?=none:=by
   rw [List.getElem?_eq_none_iff] at z ⊢
   rw [←f.len];exact z
  rw [this];rfl
 | some o=>
  obtain ⟨p,e1,q⟩:=f.get z
  rw [z] at this
  rcases o with _ | s
  ·simp only [jV] at q;subst q;rw [e1];rfl
  ·simp at this
theorem uT {i:Nat}{o:Option Sl}(e:(qF fr)[i]?=some o):∃ o0,fr[i]?=some o0∧o=o0.map Sl.read:=by
 unfold qF at e
 rw [List.getElem?_map] at e
 cases z:fr[i]? with
 | none=>rw [z] at e;cases e
 | some o0=>rw [z] at e;cases e;exact ⟨o0,rfl,rfl⟩
theorem bB.ro (f:bB M B h S fr aj):bB (fun _=>False) B h S (qF fr) aj:=by
 refine ⟨fun m y=>⟨(f.wS m y).1,id,(f.wS m y).2.2⟩,fun m y=>y.elim,f.wB,by simp [qF,f.len],fun i o p y1 y2=>?_,fun i j o o' m y1 y2 y3 y4 y5 y6=>?_⟩
 ·obtain ⟨o0,z,rfl⟩:=uT y1
  have q:=f.sl i o0 p z y2
  rcases o0 with _ | s
  ·exact q
  ·cases s with
   | val v=>exact q
   | own l=>obtain ⟨m,ds,a,b,c,d⟩:=q;exact ⟨m,ds,a,id,c,d⟩
   | bor l=>obtain ⟨m,ds,a,b,c,d⟩:=q;exact ⟨m,ds,a,id,c,d⟩
   | ro l=>obtain ⟨m,ds,a,b,c,d⟩:=q;exact ⟨m,ds,a,id,c,d⟩
 ·obtain ⟨o0,z,rfl⟩:=uT y1
  rcases o0 with _ | s
  ·cases y3
  ·cases s <;> cases y3
theorem jf:∀ {ck:List (Nat×List D)},(∀ q∈ck,bh h q.1=some q.2)→Ev.stays h ck=true
 | [],_=>rfl
 | (n,ds) :: r,q=>by
  simp only [Ev.stays,Bool.and_eq_true]
  refine ⟨?_,jf fun x hx=>q x (List.mem_cons_of_mem _ hx)⟩
  rw [q (n,ds) (List.mem_cons_self ..)]
  exact Ev.vO _
theorem ko {n:Nat}{ds:List D}(q:bh h n=some ds) (k:h'[n]?=h[n]?):bh h' n=some ds:=by
 unfold bh at q ⊢;rw [k];exact q
theorem oB {n:Nat}{ds:List D}(q:bh h n=some ds):n<h.length:=by
 unfold bh at q
 cases z:h[n]? with
 | none=>rw [z] at q;cases q
 | some o=>exact (List.getElem?_eq_some_iff.mp z).1
noncomputable def AW (h:Hh) (S:Nat→Prop):Option V→Option D→Prop
 | none,o=>o=none
 | some v,o=>∃ d,o=some d∧Rep h S v d
theorem uU {f:V→Option (Option V)}{f':D→Hh→Ev.R (Option D)}{ck:List (Nat×List D)}{h0:Hh}{S0:Nat→Prop}(w0:∀ m,S0 m→m<h0.length) (st:∀ q∈ck,bh h0 q.1=some q.2)
  (turn:∀ v o d h S,Al h0 S0 h S→f v=some o→Rep h S v d→∃ o' h' S',f' d h=.ok o' h'∧AW h' S' o o'∧Al h S h' S') :
  ∀ {vs:List V} {ds:List D} {rs:List V} {h:Hh} {S:Nat→Prop},Al h0 S0 h S→cD f vs=some rs→aq h S vs ds→∃ rs' h' S',Ev.cD f' ck ds h=.ok rs' h'∧aq h' S' rs rs'∧Al h S h' S'
 | [],ds,rs,h,S,a,e,q=>by
  simp [cD] at e;simp only [aq] at q;subst e q
  refine ⟨[],h,S,?_,.nil,.refl⟩
  simp only [Ev.cD]
  rw [if_pos (jf fun x hx=>ko (st x hx) (a.keep _ (oB (st x hx))))]
 | v :: vs,ds,rs,h,S,a,e,q=>by
  simp only [cD,Option.bind_eq_some_iff] at e
  obtain ⟨o,e1,r,e2,e3⟩:=e
  cases e3
  simp only [aq] at q
  obtain ⟨d,es,rfl,q1,q2⟩:=q
  have w:∀ m,S m→m<h.length:=fun m z=>by
   rcases a.new m z with z | z
   ·exact Nat.lt_of_lt_of_le (w0 m z) a.len
   ·exact z.2
  obtain ⟨o',h1,S1,t1,t2,t3⟩:=turn v o d h S a e1 q1
  obtain ⟨rs',h2,S2,u1,u2,u3⟩:=uU w0 st turn (a.trans t3) e2 (q2.mono (fun m z=>t3.keep m (w m z)) t3.sub)
  have w1:∀ m,S1 m→m<h1.length:=fun m z=>by
   rcases t3.new m z with z | z
   ·exact Nat.lt_of_lt_of_le (w m z) t3.len
   ·exact z.2
  refine ⟨o'.toList++rs',h2,S2,?_,?_,t3.trans u3⟩
  ·simp only [Ev.cD]
   rw [if_pos (jf fun x hx=>ko (st x hx) (a.keep _ (oB (st x hx)))),t1,Ev.ak,u1,Ev.ak]
  ·cases o with
   | none=>simp only [AW] at t2;subst t2;simpa using u2
   | some v'=>
    simp only [AW] at t2
    obtain ⟨d',rfl,t2⟩:=t2
    exact .cons (t2.mono (fun m z=>u3.keep m (w1 m z)) u3.sub) u2
end
noncomputable def iL (k:Bool) (h:Hh) (S:Nat→Prop) (v:List V) (d:List D):Prop:=if k=true then fj h S v d else aq h S v d
inductive J9 (P':Ev.aR) (e:E) (k:Bool) (v:V) (M B:Nat→Prop) (h:Hh) (S:Nat→Prop) (fr:Fr) (aj:Ev.Fr) (af:Fr):Prop
 | mk (d:D) (h':Hh) (S':Nat→Prop) (c0:Ev.ev P' e aj h=.ok d h') (c1:eV k h' S' v d) (c2:Out M B (bE e) h S fr aj h' S' af):J9 P' e k v M B h S fr aj af
inductive Ka (P':Ev.aR) (e:E) (b:Bool) (M B:Nat→Prop) (h:Hh) (S:Nat→Prop) (fr:Fr) (aj:Ev.Fr) (af:Fr):Prop
 | mk (h':Hh) (S':Nat→Prop) (c0:Ev.aK P' e aj h=.ok b h') (c1:Out M B (bE e) h S fr aj h' S' af):Ka P' e b M B h S fr aj af
inductive Kc (P':Ev.aR) (e:Es) (k:Bool) (v:List V) (M B:Nat→Prop) (h:Hh) (S:Nat→Prop) (fr:Fr) (aj:Ev.Fr) (af:Fr):Prop
 | mk (d:List D) (h':Hh) (S':Nat→Prop) (c0:Ev.b5 P' e aj h=.ok d h') (c1:iL k h' S' v d) (c2:Out M B (fz e) h S fr aj h' S' af):Kc P' e k v M B h S fr aj af
inductive Kd (P':Ev.aR) (e:Es) (v:List (Nat ⊕ V)) (M B:Nat→Prop) (h:Hh) (S:Nat→Prop) (fr:Fr) (aj:Ev.Fr) (af:Fr):Prop
 | mk (d:List D) (h':Hh) (S':Nat→Prop) (c0:Ev.b5 P' e aj h=.ok d h') (c1:sA h' S' aj v d) (c2:Out M B (fz e) h S fr aj h' S' af):Kd P' e v M B h S fr aj af
inductive Ke (P':Ev.aR) (e:Eo) (v:Option Int) (M B:Nat→Prop) (h:Hh) (S:Nat→Prop) (fr:Fr) (aj:Ev.Fr) (af:Fr):Prop
 | mk (h':Hh) (S':Nat→Prop) (c0:Ev.ff P' e aj h=.ok v h') (c1:Out M B (jN e) h S fr aj h' S' af):Ke P' e v M B h S fr aj af
inductive Kf (P':Ev.aR) (e:Eo) (v:Bool) (M B:Nat→Prop) (h:Hh) (S:Nat→Prop) (fr:Fr) (aj:Ev.Fr) (af:Fr):Prop
 | mk (h':Hh) (S':Nat→Prop) (c0:Ev.gF P' e aj h=.ok v h') (c1:Out M B (jN e) h S fr aj h' S' af):Kf P' e v M B h S fr aj af
inductive Kg (P':Ev.aR) (e:It) (k:Bool) (v:List V) (M B:Nat→Prop) (h:Hh) (S:Nat→Prop) (fr:Fr) (aj:Ev.Fr) (af:Fr):Prop
 | mk (s:Ev.Src) (h':Hh) (S':Nat→Prop) (c0:Ev.cy P' e aj h=.ok s h') (c1:aq h' S' v s.1) (c2:∀ q∈s.2,bh h' q.1=some q.2∧(k=false→¬ M q.1)) (c3:Out M B (AO e) h S fr aj h' S' af):Kg P' e k v M B h S fr aj af
section
variable (P:aR)(P':Ev.aR)
noncomputable def bw (e:E):Prop:=∀ {k:Bool} {fr:Fr} {v:V} {af:Fr} {M B:Nat→Prop} {h:Hh} {S:Nat→Prop} {aj:Ev.Fr},ev P k e fr=.ok v af→bB M B h S fr aj→J9 P' e k v M B h S fr aj af
noncomputable def gi (e:E):Prop:=∀ {fr:Fr} {b:Bool} {af:Fr} {M B:Nat→Prop} {h:Hh} {S:Nat→Prop} {aj:Ev.Fr},aK P e fr=.ok b af→bB M B h S fr aj→Ka P' e b M B h S fr aj af
noncomputable def iM (e:Es):Prop:=∀ {k:Bool} {fr:Fr} {v:List V} {af:Fr} {M B:Nat→Prop} {h:Hh} {S:Nat→Prop} {aj:Ev.Fr},b5 P k e fr=.ok v af→bB M B h S fr aj→Kc P' e k v M B h S fr aj af
noncomputable def oE (e:Es):Prop:=∀ {fr:Fr} {v:List (Nat ⊕ V)} {af:Fr} {M B:Nat→Prop} {h:Hh} {S:Nat→Prop} {aj:Ev.Fr},fh P e fr=.ok v af→bB M B h S fr aj→Kd P' e v M B h S fr aj af
noncomputable def oG (e:Eo):Prop:=∀ {fr:Fr} {v:Option Int} {af:Fr} {M B:Nat→Prop} {h:Hh} {S:Nat→Prop} {aj:Ev.Fr},ff P e fr=.ok v af→bB M B h S fr aj→Ke P' e v M B h S fr aj af
noncomputable def qT (e:Eo):Prop:=∀ {fr:Fr} {v:Bool} {af:Fr} {M B:Nat→Prop} {h:Hh} {S:Nat→Prop} {aj:Ev.Fr},gF P e fr=.ok v af→bB M B h S fr aj→Kf P' e v M B h S fr aj af
noncomputable def ju (e:It):Prop:=∀ {k:Bool} {fr:Fr} {v:List V} {af:Fr} {M B:Nat→Prop} {h:Hh} {S:Nat→Prop} {aj:Ev.Fr},cy P k e fr=.ok v af→bB M B h S fr aj→Kg P' e k v M B h S fr aj af
end
section
variable {P:aR}{P':Ev.aR}{a b e tt:E}{es:Es}{lo hi:Eo}{it:It}
theorem Kh {d:D}:bw P P' (.c d):=fun z f=>by
 simp only [ev] at z
 replace z:=aM z;obtain ⟨z,y0⟩:=z;subst y0
 exact ⟨d,_,_,by simp only [Ev.ev],.of (lG z),.refl f⟩
theorem Kl {i:Nat}:bw P P' (.v i):=fun z f=>by
 simp only [ev] at z
 replace z:=aM z;obtain ⟨z,y0⟩:=z;subst y0
 obtain ⟨d,e1,q⟩:=FY z f
 exact ⟨d,_,_,by simp only [Ev.ev,e1,Ev.dG],q,.refl f⟩
theorem iL.n {h:Hh}{S:Nat→Prop}{v:List V}{d:List D}(q:iL false h S v d):aq h S v d:=by simpa [iL] using q
theorem aq.tl {h:Hh}{S:Nat→Prop}:∀ {v:List V}{d:List D},aq h S v d→fj h S v d
 | [],_,q=>q
 | _ :: _,_,⟨d,es,a,b,q⟩=>⟨d,es,a,b.top,q.tl⟩
theorem iL.t {k:Bool}{h:Hh}{S:Nat→Prop}{v:List V}{d:List D}(q:iL k h S v d):fj h S v d:=by
 unfold iL at q
 split at q
 ·exact q
 ·exact q.tl
theorem yT (is:iM P P' es):bw P P' (.tup es):=fun z f=>by
 simp only [ev] at z
 obtain ⟨ds,au,z1,z2⟩:=ai z
 replace z2:=aM z2;obtain ⟨z2,y0⟩:=z2;subst y0
 obtain ⟨ds',h',S',e1,q,o⟩:=is z1 f
 unfold jd at z2
 split at z2
 ·rename_i hk
  cases z2
  refine ⟨.tup ds',h',S',?_,.of ⟨ds',rfl,q.n⟩,o⟩
  simp only [Ev.ev,e1,Ev.ak]
  rw [if_pos (by rw [←q.n.length];exact hk)]
 ·cases z2
theorem yU (is:iM P P' es):bw P P' (.lst es):=fun z f=>by
 simp only [ev] at z
 obtain ⟨ds,au,z1,z2⟩:=ai z
 replace z2:=aM z2;obtain ⟨z2,y0⟩:=z2;subst y0
 obtain ⟨ds',h',S',e1,q,o⟩:=is z1 f
 obtain ⟨r,h2,S2,a1,a2,a3⟩:=je o.f.w z2 q.n
 exact ⟨r,h2,S2,by simp only [Ev.ev,e1,Ev.ak,a1],.of a2,o.al a3⟩
theorem oH {a:E}{aj:Ev.Fr}{h h1:Hh}{d:D}(e:Ev.ev P' a aj h=.ok d h1):∀ i,a=.v i→aj[i]?.join=some d:=fun i hi=>by
 subst hi
 simp only [Ev.ev] at e
 exact (Ev.aM e).1
theorem two (ia:bw P P' a)(ib:bw P P' b){α:Type}{X:V→V→Fr→R α}{u:α}{fr bS:Fr}{M B:Nat→Prop}{h:Hh}{S:Nat→Prop}{aj:Ev.Fr}
  (z:((ev P (kf a (bE b)) a fr).bind fun x af=>(ev P true b af).bind fun y au=>X x y au)=.ok u bS) (f:bB M B h S fr aj) :
  ∃ x y d e h2 S2 au,(∀ {β:Type} (g:D→D→Hh→Ev.R β),((Ev.ev P' a aj h).bind fun x h1=>(Ev.ev P' b aj h1).bind fun y h2=>g x y h2)=g d e h2)∧X x y au=.ok u bS∧bu h2 S2 x d∧bu h2 S2 y e∧Out M B (bE a++bE b) h S fr aj h2 S2 au:=by
 replace z:=ai z;obtain ⟨x,af,z1,z⟩:=z
 replace z:=ai z;obtain ⟨y,au,z2,z⟩:=z
 obtain ⟨d,h1,S1,e1,q1,o1⟩:=ia z1 f
 obtain ⟨e,h2,S2,e2,q2,o2⟩:=ib z2 o1.f
 exact ⟨x,y,d,e,h2,S2,au,fun g=>by rw [e1,Ev.ak,e2,Ev.ak],z,(q1.tr o1.f o2.tr id (oH e1)).t,q2.t,o1.trans o2⟩
theorem yV {o:bW}(ia:bw P P' a) (ib:bw P P' b):bw P P' (.bin o a b):=fun z f=>by
 simp only [ev] at z
 replace z:=two ia ib z f;obtain ⟨x,y,d,e,h2,S2,au,k,z,q1,q2,ou⟩:=z
 replace z:=aM z;obtain ⟨z,y0⟩:=z;subst y0
 obtain ⟨r,h3,S3,a1,a2,a3⟩:=J0 ou.f.w z q1 q2
 exact ⟨r,h3,S3,by simp only [Ev.ev];rw [k];exact a1,.of a2,ou.al a3⟩
theorem yW {o:bQ}(ia:bw P P' a) (ib:bw P P' b):bw P P' (.cmp o a b):=fun z f=>by
 simp only [ev] at z
 replace z:=two ia ib z f;obtain ⟨x,y,d,e,h2,S2,au,k,z,q1,q2,ou⟩:=z
 replace z:=aM z;obtain ⟨z,y0⟩:=z;subst y0
 simp only [Option.map_eq_some_iff] at z
 obtain ⟨b,z,rfl⟩:=z
 exact ⟨.bl b,h2,S2,by simp only [Ev.ev];rw [k,J1 z q1.u q2.u];rfl,.of rfl,ou⟩
theorem Dj (ia:bw P P' a) (ib:bw P P' b):bw P P' (.ix a b):=fun z f=>by
 simp only [ev] at z
 replace z:=two ia ib z f;obtain ⟨x,y,d,e,h2,S2,au,k,z,q1,q2,ou⟩:=z
 replace z:=aM z;obtain ⟨z,y0⟩:=z;subst y0
 obtain ⟨r,a1,a2⟩:=J2 z q1 q2
 exact ⟨r,h2,S2,by simp only [Ev.ev];rw [k,a1];rfl,.of a2,ou⟩
theorem OL (ia:bw P P' a):bw P P' (.nt a):=fun z f=>by
 simp only [ev] at z
 replace z:=ai z;obtain ⟨x,af,z1,z⟩:=z
 obtain ⟨d,h1,S1,e1,q1,o1⟩:=ia z1 f
 cases x <;> simp only [reduceCtorEq] at z
 cases z
 have q:=q1.t
 simp only [bu,Rep] at q
 subst q
 exact ⟨_,h1,S1,by simp only [Ev.ev,e1,Ev.ak],.of rfl,o1⟩
theorem yX (ia:bw P P' a):bw P P' (.neg a):=fun z f=>by
 simp only [ev] at z
 replace z:=ai z;obtain ⟨x,af,z1,z⟩:=z
 obtain ⟨d,h1,S1,e1,q1,o1⟩:=ia z1 f
 cases x <;> simp only [reduceCtorEq] at z
 cases z
 have q:=q1.t
 simp only [bu,Rep] at q
 subst q
 exact ⟨_,h1,S1,by simp only [Ev.ev,e1,Ev.ak],.of rfl,o1⟩
theorem OM (ia:bw P P' a) (ib:bw P P' b):bw P P' (.an a b):=fun z f=>by
 simp only [ev] at z
 replace z:=ai z;obtain ⟨x,af,z1,z⟩:=z
 obtain ⟨d,h1,S1,e1,q1,o1⟩:=ia z1 f
 cases x <;> try (cases z;done)
 rename_i k
 have q:=q1.t
 simp only [bu,Rep] at q
 subst q
 cases k with
 | true=>
  try simp only at z
  obtain ⟨d,h2,S2,e2,q2,o2⟩:=ib z o1.f
  exact ⟨d,h2,S2,by simp only [Ev.ev,e1,Ev.ak,e2],q2,o1.trans o2⟩
 | false=>
  try simp only at z
  cases z
  exact ⟨_,h1,S1,by simp only [Ev.ev,e1,Ev.ak],.of rfl,o1.weak (by simp only [bE];intro i hi;simp [hi])⟩
theorem Km (ia:bw P P' a) (ib:bw P P' b):bw P P' (.orr a b):=fun z f=>by
 simp only [ev] at z
 replace z:=ai z;obtain ⟨x,af,z1,z⟩:=z
 obtain ⟨d,h1,S1,e1,q1,o1⟩:=ia z1 f
 cases x <;> try (cases z;done)
 rename_i k
 have q:=q1.t
 simp only [bu,Rep] at q
 subst q
 cases k with
 | false=>
  try simp only at z
  obtain ⟨d,h2,S2,e2,q2,o2⟩:=ib z o1.f
  exact ⟨d,h2,S2,by simp only [Ev.ev,e1,Ev.ak,e2],q2,o1.trans o2⟩
 | true=>
  try simp only at z
  cases z
  exact ⟨_,h1,S1,by simp only [Ev.ev,e1,Ev.ak],.of rfl,o1.weak (by simp only [bE];intro i hi;simp [hi])⟩
theorem yY (it:gi P P' tt) (ia:bw P P' a) (ib:bw P P' b):bw P P' (.gT tt a b):=fun z f=>by
 simp only [ev] at z
 replace z:=ai z;obtain ⟨k,af,z1,z⟩:=z
 obtain ⟨h1,S1,e1,o1⟩:=it z1 f
 cases k with
 | true=>
  simp only [if_true] at z
  obtain ⟨d,h2,S2,e2,q2,o2⟩:=ia z o1.f
  exact ⟨d,h2,S2,by simp only [Ev.ev,e1,Ev.ak,if_true,e2],q2,(o1.trans o2).weak (by simp only [bE];intro i hi;simp at hi ⊢;rcases hi with hi | hi <;> simp [hi])⟩
 | false=>
  simp only [Bool.false_eq_true,if_false] at z
  obtain ⟨d,h2,S2,e2,q2,o2⟩:=ib z o1.f
  exact ⟨d,h2,S2,by simp only [Ev.ev,e1,Ev.ak];rw [if_neg (by decide)];exact e2,q2,(o1.trans o2).weak (by simp only [bE];intro i hi;simp at hi ⊢;rcases hi with hi | hi <;> simp [hi])⟩
theorem Dk (ia:bw P P' a) (il:oG P P' lo) (ih:oG P P' hi):bw P P' (.sl a lo hi):=fun z f=>by
 simp only [ev] at z
 replace z:=ai z;obtain ⟨x,af,z1,z⟩:=z
 replace z:=ai z;obtain ⟨l,au,z2,z⟩:=z
 replace z:=ai z;obtain ⟨u,cB,z3,z⟩:=z
 replace z:=aM z;obtain ⟨z,y0⟩:=z;subst y0
 obtain ⟨d,h1,S1,e1,q1,o1⟩:=ia z1 f
 obtain ⟨h2,S2,e2,o2⟩:=il z2 o1.f
 obtain ⟨h3,S3,e3,o3⟩:=ih z3 o2.f
 have q:=(q1.tr o1.f (o2.trans o3).tr id (oH e1)).t
 obtain ⟨r,h4,S4,a1,a2,a3⟩:=J3 o3.f.w z q
 exact ⟨r,h4,S4,by simp only [Ev.ev,e1,Ev.ak,e2,e3,a1],.of a2,(o1.trans (o2.trans o3)).al a3⟩
theorem lM:∀ {es:Es}{fr af:Fr}{as:List (Nat ⊕ V)},fh P es fr=.ok as af→∀ i∈bM as,i∈iZ es
 | .nil,_,_,_,z=>by simp only [fh] at z;cases z;simp [bM]
 | .cons e es,fr,af,as,z=>by
  simp only [fh] at z
  cases y:jX fr e with
  | some i=>
   rw [y] at z
   simp only at z
   replace z:=ai z;obtain ⟨xs,cB,z2,z⟩:=z
   cases z
   have hy:e=.v i:=by
    cases e <;> simp only [jX,reduceCtorEq] at y
    split at y
    ·cases y;rfl
    ·cases y
   subst hy
   intro j hj
   simp only [bM,List.mem_cons] at hj
   simp only [iZ,List.mem_cons]
   exact hj.imp id fun hj=>lM z2 j hj
  | none=>
   rw [y] at z
   simp only at z
   replace z:=ai z;obtain ⟨x,au,z1,z⟩:=z
   replace z:=ai z;obtain ⟨xs,cB,z2,z⟩:=z
   cases z
   intro j hj
   simp only [bM] at hj
   have:=lM z2 j hj
   cases e <;> simp only [iZ] <;> first | exact this | exact List.mem_cons_of_mem _ this
theorem Dl (HP:oq P P') {g:Nat}(is:oE P P' es):bw P P' (.cl g es):=fun z f=>by
 simp only [ev] at z
 replace z:=ai z;obtain ⟨as,af,z1,z⟩:=z
 obtain ⟨ds,h1,S1,e1,q1,o1⟩:=is z1 f
 obtain ⟨d,h2,S2,e2,q2,o2⟩:=AV HP z o1.f q1
 exact ⟨d,h2,S2,by simp only [Ev.ev,e1,Ev.ak,e2],.of q2,(o1.trans o2).weak (by
  simp only [bE]
  intro i hi
  rcases List.mem_append.mp hi with hi | hi
  ·exact List.mem_append.mpr (.inl hi)
  ·exact List.mem_append.mpr (.inr (lM z1 i hi)))⟩
theorem Dm {g:BI}(is:iM P P' es):bw P P' (.bi g es):=fun z f=>by
 simp only [ev] at z
 replace z:=ai z;obtain ⟨as,af,z1,z⟩:=z
 replace z:=aM z;obtain ⟨z,y0⟩:=z;subst y0
 obtain ⟨ds,h1,S1,e1,q1,o1⟩:=is z1 f
 obtain ⟨r,h4,S4,a1,a2,a3⟩:=J5 o1.f.w z q1.t
 exact ⟨r,h4,S4,by simp only [Ev.ev,e1,Ev.ak,a1],.of a2,o1.al a3⟩
theorem uV {kvs:List (D×D)}(ia:bw P P' a):bw P P' (.kX kvs a):=fun z f=>by
 simp only [ev] at z
 replace z:=ai z;obtain ⟨x,af,z1,z⟩:=z
 replace z:=aM z;obtain ⟨z,y0⟩:=z;subst y0
 obtain ⟨d,h1,S1,e1,q1,o1⟩:=ia z1 f
 obtain ⟨r,a1,a2⟩:=AR (S:=S1) q1.t.u z
 exact ⟨r,h1,S1,by simp only [Ev.ev,e1,Ev.ak,a1,Ev.dG],.of a2,o1⟩
theorem yZ (ia:bw P P' a):bw P P' (.jq a):=fun z f=>by
 simp only [ev] at z
 replace z:=ai z;obtain ⟨x,af,z1,z⟩:=z
 replace z:=aM z;obtain ⟨z,y0⟩:=z;subst y0
 obtain ⟨d,h1,S1,e1,q1,o1⟩:=ia z1 f
 obtain ⟨r,a1,a2⟩:=J4 z q1.t
 exact ⟨r,h1,S1,by simp only [Ev.ev,e1,Ev.ak,a1],.of a2,o1⟩
theorem Dn {m:ME}{o:E}(io:bw P P' o) (is:iM P P' es):bw P P' (.me m o es):=fun {k fr v af M B h S aj} z f=>by
 simp only [ev] at z
 by_cases hm:iu m=true
 ·rw [if_pos hm] at z
  cases y:jX fr o with
  | none=>rw [y] at z;cases z
  | some i=>
  rw [y] at z
  try simp only at z
  replace z:=ai z;obtain ⟨as,au,z1,z⟩:=z
  have hy:o=.v i∧∃ s,lent fr i=some s:=by
   cases o <;> simp only [jX,reduceCtorEq] at y
   rename_i j
   split at y
   ·rename_i hs
    cases y
    exact ⟨rfl,Option.isSome_iff_exists.mp hs⟩
   ·cases y
  obtain ⟨rfl,s,hs⟩:=hy
  obtain ⟨n,cs,_,_,_,w2,w3,_,_⟩:=iR hs f
  obtain ⟨ds,h1,S1,e1,q1,o1⟩:=is z1 f
  have hr:Ev.mP m (.ref n) h=true:=by cases m <;> simp [iu] at hm <;> simp [Ev.mP,gK w3]
  have hap:yN m=false→aq h1 S1 as ds:=fun hh=>by rw [hh] at q1;exact q1.n
  have fin:∀ s l l',au[i]?=some (some s)→gq (some s)=true→(∃ m' cs',aj[i]?=some (some (.ref m'))∧h1[m']?=some (.lst cs')∧aq h1 S1 l cs')→jt m l as=some (v,l')→af=au.set i (some (s.with l'))→
    J9 P' (.me m (.v i) es) k v M B h S fr aj af:=by
   intro s l l' k1 k2 ⟨m',cs',k3,k4,k5⟩ k6 k7
   rw [w2] at k3;cases k3
   have mn:=o1.f.mM k1 k2 w2
   obtain ⟨r,ds',a1,a2,a3⟩:=J8 k6 k4 k5 q1.t hap fun k z y=>(o1.f.wS k z).2.1 (y▸mn)
   have fw:=o1.f.write (l':=l') k1 k2 w2 a3
   subst k7
   refine ⟨r,_,S1,?_,.of (a2.mono (fun m z=>jY fun y=>(o1.f.wS m z).2.1 (y▸mn)) fun _ z=>z),fw,?_,fun j=>?_⟩
   ·simp only [Ev.ev,w2,Option.join,Ev.dG,Ev.ak,hr,if_true,e1]
    simp only [Option.bind,id,Ev.dG,Ev.ak,hr,if_true,e1]
    exact a1
   ·refine ⟨by simpa using o1.tr.len,fun m y1 y2=>?_,o1.tr.sub,fun m y=>by simpa using o1.tr.new m y⟩
    have y3:¬ Xs M aj (fz es) m:=fun z=>y2 (Xs.mono (by simp only [bE];intro i hi;simp [hi]) z)
    have y4:m≠n:=fun z=>y2 ⟨z▸mn,i,by simp [bE,QC,hm],by rw [z];exact w2⟩
    rw [jY (fun (z:n=m)=>y4 z.symm)]
    exact o1.tr.keep m y1 y3
   ·rw [←o1.lk j]
    unfold locked
    by_cases hj:i=j
    ·subst hj
     rw [List.getElem?_set_self (List.getElem?_eq_some_iff.mp k1).1,k1]
     exact uS
    ·rw [List.getElem?_set_ne hj]
  split at z
  ·rename_i l k1
   have old:=o1.f.get k1
   obtain ⟨p,k2,m',cs',rfl,_,k4,k5⟩:=old
   split at z
   ·rename_i v' l' k6
    cases z
    exact fin _ l l' k1 rfl ⟨m',cs',k2,k4,k5⟩ k6 rfl
   ·cases z
  ·rename_i l k1
   have old:=o1.f.get k1
   obtain ⟨p,k2,m',cs',rfl,_,k4,k5⟩:=old
   split at z
   ·rename_i v' l' k6
    cases z
    exact fin _ l l' k1 rfl ⟨m',cs',k2,k4,k5⟩ k6 rfl
   ·cases z
  ·cases z
 ·rw [if_neg hm] at z
  replace z:=ai z;obtain ⟨x,au,z1,z⟩:=z
  replace z:=ai z;obtain ⟨as,cB,z2,z⟩:=z
  replace z:=aM z;obtain ⟨z,y0⟩:=z;subst y0
  obtain ⟨d,h1,S1,e1,q1,o1⟩:=io z1 f
  obtain ⟨ds,h2,S2,e2,q2,o2⟩:=is z2 o1.f
  have hm':iu m=false:=by simpa using hm
  have uW:=(q1.tr o1.f o2.tr id (oH e1)).t
  obtain ⟨a1,r,a2,a3⟩:=J6 z hm' uW q2.t
  have hr:Ev.mP m d h1=true:=by
   unfold er at z
   split at z
   ·have:=q1.t;simp only [bu,Rep] at this;subst this;rfl
   ·simp only [Option.map_eq_some_iff,Option.bind_eq_some_iff] at z;obtain ⟨_,⟨l,z,_⟩,_⟩:=z
    obtain ⟨n,es,rfl,a,q⟩:=iB z q1.t
    simp [Ev.mP,a]
   ·simp only [Option.map_eq_some_iff,Option.bind_eq_some_iff] at z;obtain ⟨_,⟨l,z,_⟩,_⟩:=z
    obtain ⟨n,es,rfl,a,q⟩:=iB z q1.t
    simp [Ev.mP,a]
   ·cases z
  exact ⟨r,h2,S2,by simp only [Ev.ev,e1,Ev.ak,hr,if_true,e2,a2],.of a3,(o1.trans o2).weak (by simp only [bE];intro i hi;simp at hi ⊢;rcases hi with hi | hi <;> simp [hi])⟩
theorem sD {elt:E}{t:T}{cond:Eo}(ii:ju P P' it) (ic:qT P P' cond) (ie:bw P P' elt):bw P P' (.comp elt t it cond):=fun z f=>by
 simp only [ev] at z
 replace z:=ai z;obtain ⟨vs,au,z1,z⟩:=z
 split at z
 case isFalse=>cases z
 rename_i hu
 replace z:=aM z;obtain ⟨z,y0⟩:=z;subst y0
 simp only [Option.bind_eq_some_iff] at z
 obtain ⟨rs,z2,z3⟩:=z
 obtain ⟨s,h1,S1,e1,q1,q2,o1⟩:=ii z1 f
 have Ww:=o1.f.ro
 obtain ⟨rs',h2,S2,c1,c2,c3⟩:=uU (f':=fun d h2=>match Ev.b7 t d _ with
    | none=>.bad
    | some au=>(Ev.gF P' cond au h2).bind fun k h3=>if k then (Ev.ev P' elt au h3).bind fun x h4=>.ok (some x) h4 else .ok none h3) (ck:=s.2) o1.f.w (fun q hq=>(q2 q hq).1) (fun v o d h S al y q=>by
  split at y
  ·cases y
  ·rename_i cB y1
   obtain ⟨iF,b1,b2,_,_⟩:=(Ww.al al).b7 y1 q
   rw [b1]
   split at y
   ·rename_i c iI y2
    obtain ⟨h3,S3,c1,oc⟩:=ic y2 b2
    have Kn:Al h S h3 S3:=oc.tr.al fun m z=>z.1
    split at y
    ·rename_i hc
     subst hc
     split at y
     ·rename_i x qh y3
      cases y
      obtain ⟨d',h4,S4,d1,d2,od⟩:=ie y3 (b2.al Kn)
      refine ⟨some d',h4,S4,?_,⟨d',rfl,d2.n⟩,Kn.trans (od.tr.al fun m z=>z.1)⟩
      simp only [c1,Ev.ak,if_true,d1]
     ·cases y
    ·rename_i hc
     cases y
     refine ⟨none,h3,S3,?_,rfl,Kn⟩
     simp only [c1,Ev.ak]
     rw [if_neg hc]
   ·cases y) Al.refl z2 q1
 obtain ⟨r,h4,S4,a1,a2,a3⟩:=je (o1.f.al c3).w z3 c2
 refine ⟨r,h4,S4,?_,.of a2,(o1.al c3).al a3⟩
 simp only [Ev.ev,e1,Ev.ak]
 rw [if_pos (o1.f.undef hu)]
 refine Eq.trans (congrArg (fun q:Ev.R (List D)=>q.bind fun ds h2=>Ev.alloc ds h2) c1) ?_
 simp only [Ev.ak,a1]
theorem y9 (ii:ju P P' it):bw P P' (.iH it):=fun z f=>by
 simp only [ev] at z
 replace z:=ai z;obtain ⟨vs,au,z1,z⟩:=z
 replace z:=aM z;obtain ⟨z,y0⟩:=z;subst y0
 obtain ⟨s,h1,S1,e1,q1,q2,o1⟩:=ii z1 f
 obtain ⟨r,h4,S4,a1,a2,a3⟩:=je o1.f.w z q1
 exact ⟨r,h4,S4,by simp only [Ev.ev,e1,Ev.ak,a1],.of a2,o1.al a3⟩
theorem Ko:iM P P' .nil:=fun {k fr v af M B h S aj} z f=>by
 simp only [b5] at z
 cases z
 refine ⟨[],_,_,by simp only [Ev.b5],?_,.refl f⟩
 unfold iL;split <;> rfl
theorem FZ (ie:bw P P' e) (is:iM P P' es):iM P P' (.cons e es):=fun {k fr v af M B h S aj} z f=>by
 simp only [b5] at z
 replace z:=ai z;obtain ⟨x,au,z1,z⟩:=z
 replace z:=ai z;obtain ⟨xs,cB,z2,z⟩:=z
 cases z
 obtain ⟨d,h1,S1,e1,q1,o1⟩:=ie z1 f
 obtain ⟨ds,h2,S2,e2,q2,o2⟩:=is z2 o1.f
 have uW:=q1.tr (a:=e) o1.f o2.tr (by intro z;simp at z;exact z.2) (oH e1)
 refine ⟨d :: ds,h2,S2,by simp only [Ev.b5,e1,Ev.ak,e2],?_,o1.trans o2⟩
 unfold iL at q2 ⊢
 cases k with
 | true=>simp only [if_true] at q2 ⊢;exact ⟨d,ds,rfl,uW.t,q2⟩
 | false=>
  simp only [Bool.false_eq_true,if_false] at q2 ⊢
  exact .cons (by simpa [eV] using uW) q2
theorem Ga:oE P P' .nil:=fun z f=>by
 simp only [fh] at z
 cases z
 exact ⟨[],_,_,by simp only [Ev.b5],rfl,.refl f⟩
theorem AX (ie:bw P P' e) (is:oE P P' es):oE P P' (.cons e es):=fun {fr v af M B h S aj} z f=>by
 simp only [fh] at z
 cases y:jX fr e with
 | some i=>
  rw [y] at z
  try simp only at z
  replace z:=ai z;obtain ⟨xs,cB,z2,z⟩:=z
  cases z
  have hy:e=.v i∧∃ s,lent fr i=some s:=by
   cases e <;> simp only [jX,reduceCtorEq] at y
   rename_i j
   split at y
   ·rename_i hs
    cases y
    exact ⟨rfl,Option.isSome_iff_exists.mp hs⟩
   ·cases y
  obtain ⟨rfl,s,hs⟩:=hy
  obtain ⟨n,cs,_,_,_,w2,w3,_,_⟩:=iR hs f
  obtain ⟨ds,h2,S2,e2,q2,o2⟩:=is z2 f
  refine ⟨.ref n :: ds,h2,S2,?_,⟨_,_,rfl,w2,q2⟩,o2.weak (by simp only [fz,bE];intro i hi;simpa using hi)⟩
  simp only [Ev.b5,Ev.ev,w2,Option.join,Option.bind,id,Ev.dG,Ev.ak,e2]
 | none=>
  rw [y] at z
  try simp only at z
  replace z:=ai z;obtain ⟨x,au,z1,z⟩:=z
  replace z:=ai z;obtain ⟨xs,cB,z2,z⟩:=z
  cases z
  obtain ⟨d,h1,S1,e1,q1,o1⟩:=ie z1 f
  obtain ⟨ds,h2,S2,e2,q2,o2⟩:=is z2 o1.f
  exact ⟨d :: ds,h2,S2,by simp only [Ev.b5,e1,Ev.ak,e2],⟨_,_,rfl,q1.n.tr o1.f o2.tr,q2⟩,o1.trans o2⟩
theorem ON:oG P P' .no:=fun z f=>by
 simp only [ff] at z;cases z
 exact ⟨_,_,by simp only [Ev.ff],.refl f⟩
theorem Kp (ie:bw P P' e):oG P P' (.yes e):=fun z f=>by
 simp only [ff] at z
 replace z:=ai z;obtain ⟨x,au,z1,z⟩:=z
 replace z:=aM z;obtain ⟨z,y0⟩:=z;subst y0
 obtain ⟨d,h1,S1,e1,q1,o1⟩:=ie z1 f
 cases x <;> simp [intOf] at z
 subst z
 have q:=q1.t
 simp only [bu,Rep] at q
 subst q
 exact ⟨h1,S1,by simp only [Ev.ff,e1,Ev.ak];rfl,o1⟩
theorem Kq:qT P P' .no:=fun z f=>by
 simp only [gF] at z;cases z
 exact ⟨_,_,by simp only [Ev.gF],.refl f⟩
theorem Gb (ie:gi P P' e):qT P P' (.yes e):=fun z f=>by
 simp only [gF] at z
 obtain ⟨h1,S1,e1,o1⟩:=ie z f
 exact ⟨h1,S1,by simp only [Ev.gF,e1],o1⟩
theorem T3 (ia:gi P P' a) (ib:gi P P' b):gi P P' (.an a b):=fun z f=>by
 simp only [aK] at z
 replace z:=ai z;obtain ⟨k,af,z1,z⟩:=z
 obtain ⟨h1,S1,e1,o1⟩:=ia z1 f
 cases k with
 | true=>
  simp only [if_true] at z
  obtain ⟨h2,S2,e2,o2⟩:=ib z o1.f
  exact ⟨h2,S2,by simp only [Ev.aK,e1,Ev.ak,if_true,e2],o1.trans o2⟩
 | false=>
  simp only [Bool.false_eq_true,if_false] at z
  cases z
  exact ⟨h1,S1,by simp only [Ev.aK,e1,Ev.ak];rfl,o1.weak (by simp only [bE];intro i hi;simp [hi])⟩
theorem OO (ia:gi P P' a) (ib:gi P P' b):gi P P' (.orr a b):=fun z f=>by
 simp only [aK] at z
 replace z:=ai z;obtain ⟨k,af,z1,z⟩:=z
 obtain ⟨h1,S1,e1,o1⟩:=ia z1 f
 cases k with
 | false=>
  simp only [Bool.false_eq_true,if_false] at z
  obtain ⟨h2,S2,e2,o2⟩:=ib z o1.f
  exact ⟨h2,S2,by simp only [Ev.aK,e1,Ev.ak];rw [if_neg (by decide)];exact e2,o1.trans o2⟩
 | true=>
  simp only [if_true] at z
  cases z
  exact ⟨h1,S1,by simp only [Ev.aK,e1,Ev.ak];rfl,o1.weak (by simp only [bE];intro i hi;simp [hi])⟩
theorem T4 (ia:gi P P' a):gi P P' (.nt a):=fun z f=>by
 simp only [aK] at z
 replace z:=ai z;obtain ⟨k,af,z1,z⟩:=z
 obtain ⟨h1,S1,e1,o1⟩:=ia z1 f
 cases z
 exact ⟨h1,S1,by simp only [Ev.aK,e1,Ev.ak],o1⟩
theorem d8 (ie:bw P P' e) (h1:∀ fr,aK P e fr=(ev P true e fr).bind fun x af=>.ok (truthy x) af) (h2:∀ fr h,Ev.aK P' e fr h=(Ev.ev P' e fr h).bind fun x h1=>Ev.R.of (Ev.truthy h1 x) h1):gi P P' e:=fun z f=>by
 rw [h1] at z
 replace z:=ai z;obtain ⟨x,af,z1,z⟩:=z
 cases z
 obtain ⟨d,h1,S1,e1,q1,o1⟩:=ie z1 f
 exact ⟨h1,S1,by rw [h2,e1,Ev.ak,yO q1.t];rfl,o1⟩
theorem oJ (ie:bw P P' e) {k:Bool}{fr:Fr}{v:V}{af:Fr}{M B:Nat→Prop}{h:Hh}{S:Nat→Prop}{aj:Ev.Fr}(z:src k fr e (ev P k e fr)=.ok v af) (f:bB M B h S fr aj) :
  ∃ d h' S',Ev.ev P' e aj h=.ok d h'∧bu h' S' v d∧(k=false→∀ n,d=.ref n→¬ M n)∧Out M B (bE e) h S fr aj h' S' af:=by
 have gen:ev P k e fr=.ok v af→∃ d h' S',Ev.ev P' e aj h=.ok d h'∧bu h' S' v d∧(k=false→∀ n,d=.ref n→¬ M n)∧Out M B (bE e) h S fr aj h' S' af:=fun z=>by
  obtain ⟨d,h1,S1,e1,q1,o1⟩:=ie z f
  refine ⟨d,h1,S1,e1,q1.t,fun hk n hd=>?_,o1⟩
  subst hk
  have q:=q1.n
  cases v <;> simp only [Rep] at q
  ·cases q.symm.trans hd
  ·cases q.symm.trans hd
  ·cases q.symm.trans hd
  ·cases q.symm.trans hd
  ·obtain ⟨_,q,_⟩:=q;cases q.symm.trans hd
  ·obtain ⟨m,ds,q,sm,_⟩:=q;cases q.symm.trans hd;exact (o1.f.wS _ sm).2.1
  ·obtain ⟨m,ds,q,sm,_⟩:=q;cases q.symm.trans hd;exact (o1.f.wS _ sm).2.1
 cases e
 case v i=>
  simp only [src] at z
  replace z:=aM z;obtain ⟨z,y0⟩:=z;subst y0
  unfold wu at z
  split at z
  ·rename_i l y
   cases z
   obtain ⟨p,e1,m,ds,rfl,y1,y2,y3⟩:=f.get y
   exact ⟨.ref m,h,S,by simp only [Ev.ev,e1,Option.join,Option.bind,id,Ev.dG],⟨m,ds,rfl,y2,y3⟩,fun _ n hn=>by cases hn;exact y1,.refl f⟩
  ·exact gen (by simp only [ev,z,dG])
 all_goals exact gen z
theorem Kr (ie:bw P P' e):ju P P' (.seq e):=fun z f=>by
 simp only [cy] at z
 replace z:=ai z;obtain ⟨x,af,z1,z⟩:=z
 replace z:=aM z;obtain ⟨z,y0⟩:=z;subst y0
 obtain ⟨d,h1,S1,e1,q1,q2,o1⟩:=oJ ie z1 f
 obtain ⟨s,a1,a2,a3⟩:=AS z q1
 exact ⟨s,h1,S1,by simp only [Ev.cy,e1,Ev.ak,a1,Ev.dG],a2,fun q hq=>⟨(a3 q hq).2,fun hk=>q2 hk _ (a3 q hq).1⟩,o1⟩
theorem Gd (is:iM P P' es):ju P P' (.gR es):=fun z f=>by
 simp only [cy] at z
 replace z:=ai z;obtain ⟨x,af,z1,z⟩:=z
 replace z:=aM z;obtain ⟨z,y0⟩:=z;subst y0
 obtain ⟨d,h1,S1,e1,q1,o1⟩:=is z1 f
 obtain ⟨s,a1,a2⟩:=J7 z q1.t
 exact ⟨(s,[]),h1,S1,by simp only [Ev.cy,e1,Ev.ak,a1,Ev.dG],a2,fun q hq=>by simp at hq,o1⟩
theorem AY (ie:bw P P' e):ju P P' (.enum e):=fun z f=>by
 simp only [cy] at z
 replace z:=ai z;obtain ⟨x,af,z1,z⟩:=z
 replace z:=aM z;obtain ⟨z,y0⟩:=z;subst y0
 obtain ⟨d,h1,S1,e1,q1,q2,o1⟩:=oJ ie z1 f
 simp only [Option.map_eq_some_iff] at z
 obtain ⟨l,z,rfl⟩:=z
 obtain ⟨s,a1,a2,a3⟩:=pQ z q1
 exact ⟨(Ev.gh 0 s.1,s.2),h1,S1,by simp only [Ev.cy,e1,Ev.ak,a1,Option.map,Ev.dG],uQ 0 a2,fun q hq=>⟨(a3 q hq).2,fun hk=>q2 hk _ (a3 q hq).1⟩,o1⟩
theorem Ge (ie:bw P P' e):ju P P' (.rev e):=fun z f=>by
 simp only [cy] at z
 replace z:=ai z;obtain ⟨x,af,z1,z⟩:=z
 replace z:=aM z;obtain ⟨z,y0⟩:=z;subst y0
 obtain ⟨d,h1,S1,e1,q1,o1⟩:=ie z1 f
 simp only [Option.map_eq_some_iff] at z
 obtain ⟨l,z,rfl⟩:=z
 cases x <;> simp only [wo,reduceCtorEq] at z
 cases z
 have k1:=q1.t
 simp only [bu,Rep] at k1
 obtain ⟨ds,y1,k2⟩:=k1
 subst y1
 exact ⟨(ds.reverse,[]),h1,S1,by simp only [Ev.cy,e1,Ev.ak,Ev.Au,Option.map,Ev.dG],k2.reverse,fun q hq=>by simp at hq,o1⟩
theorem Gf (ia:bw P P' a) (ib:bw P P' b):ju P P' (.zip a b):=fun {k fr v af M B h S aj} z f=>by
 simp only [cy] at z
 replace z:=ai z;obtain ⟨x,au,z1,z⟩:=z
 replace z:=ai z;obtain ⟨y,cB,z2,z⟩:=z
 replace z:=aM z;obtain ⟨z,y0⟩:=z;subst y0
 obtain ⟨d,h1,S1,e1,q1,r1,o1⟩:=oJ ia z1 f
 obtain ⟨e,h2,S2,e2,q2,r2,o2⟩:=oJ ib z2 o1.f
 simp only [Option.map_eq_some_iff,Option.bind_eq_some_iff] at z
 obtain ⟨l,z3,m,z4,rfl⟩:=z
 have uW:bu h2 S2 x d:=by
  by_cases hk:(k&&kf a (bE b))=true
  ·exact (eV.tr (k:=true) (a:=a) (by unfold eV;rw [if_pos rfl];exact q1) o1.f o2.tr (fun _=>by simp at hk;exact hk.2) (oH e1)).t
  ·have r1:=r1 (by simpa using hk)
   cases x
   case lst l=>
    simp only [bu] at q1 ⊢
    obtain ⟨n,ds,rfl,a1,a2⟩:=q1
    exact ⟨n,ds,rfl,by rw [o2.tr.keep n (List.getElem?_eq_some_iff.mp a1).1 (fun z=>r1 n rfl z.1)];exact a1,a2.tr o1.f o2.tr⟩
   all_goals exact Rep.tr (show Rep h1 S1 _ d from q1) o1.f o2.tr
 obtain ⟨s,a1,a2,a3⟩:=pQ z3 uW
 obtain ⟨t,b1,b2,b3⟩:=pQ z4 q2
 refine ⟨(Ev.dM s.1 t.1,s.2++t.2),h2,S2,by simp only [Ev.cy,e1,Ev.ak,e2,a1,b1,Option.bind,Option.map,Ev.dG],yR a2 b2,fun q hq=>?_,o1.trans o2⟩
 rcases List.mem_append.mp hq with hq | hq
 ·exact ⟨(a3 q hq).2,fun hk=>r1 (by simp [hk]) _ (a3 q hq).1⟩
 ·exact ⟨(b3 q hq).2,fun hk=>r2 hk _ (b3 q hq).1⟩
end
section
variable {P:aR}{P':Ev.aR}(HP:oq P P')
include HP
mutual
theorem br:∀ e:E,bw P P' e
 | .c _=>Kh
 | .v _=>Kl
 | .tup es=>yT (fC es)
 | .lst es=>yU (fC es)
 | .bin _ a b=>yV (br a) (br b)
 | .cmp _ a b=>yW (br a) (br b)
 | .nt a=>OL (br a)
 | .neg a=>yX (br a)
 | .an a b=>OM (br a) (br b)
 | .orr a b=>Km (br a) (br b)
 | .gT t a b=>yY (fY t) (br a) (br b)
 | .ix a b=>Dj (br a) (br b)
 | .sl a lo hi=>Dk (br a) (oK lo) (oK hi)
 | .cl _ es=>Dl HP (sE es)
 | .bi _ es=>Dm (fC es)
 | .me _ o es=>Dn (br o) (fC es)
 | .comp elt _ it cond=>sD (jZ it) (za cond) (br elt)
 | .iH it=>y9 (jZ it)
 | .kX _ a=>uV (br a)
 | .jq a=>yZ (br a)
theorem fY:∀ e:E,gi P P' e
 | .an a b=>T3 (fY a) (fY b)
 | .orr a b=>OO (fY a) (fY b)
 | .nt a=>T4 (fY a)
 | .c x=>d8 Kh (fun _=>by simp only [aK]) (fun _ _=>by simp only [Ev.aK])
 | .v x=>d8 Kl (fun _=>by simp only [aK]) (fun _ _=>by simp only [Ev.aK])
 | .tup es=>d8 (yT (fC es)) (fun _=>by simp only [aK]) (fun _ _=>by simp only [Ev.aK])
 | .lst es=>d8 (yU (fC es)) (fun _=>by simp only [aK]) (fun _ _=>by simp only [Ev.aK])
 | .bin _ a b=>d8 (yV (br a) (br b)) (fun _=>by simp only [aK]) (fun _ _=>by simp only [Ev.aK])
 | .cmp _ a b=>d8 (yW (br a) (br b)) (fun _=>by simp only [aK]) (fun _ _=>by simp only [Ev.aK])
 | .neg a=>d8 (yX (br a)) (fun _=>by simp only [aK]) (fun _ _=>by simp only [Ev.aK])
 | .gT t a b=>d8 (yY (fY t) (br a) (br b)) (fun _=>by simp only [aK]) (fun _ _=>by simp only [Ev.aK])
 | .ix a b=>d8 (Dj (br a) (br b)) (fun _=>by simp only [aK]) (fun _ _=>by simp only [Ev.aK])
 | .sl a lo hi=>d8 (Dk (br a) (oK lo) (oK hi)) (fun _=>by simp only [aK]) (fun _ _=>by simp only [Ev.aK])
 | .cl _ es=>d8 (Dl HP (sE es)) (fun _=>by simp only [aK]) (fun _ _=>by simp only [Ev.aK])
 | .bi _ es=>d8 (Dm (fC es)) (fun _=>by simp only [aK]) (fun _ _=>by simp only [Ev.aK])
 | .me _ o es=>d8 (Dn (br o) (fC es)) (fun _=>by simp only [aK]) (fun _ _=>by simp only [Ev.aK])
 | .comp elt _ it cond=>d8 (sD (jZ it) (za cond) (br elt)) (fun _=>by simp only [aK]) (fun _ _=>by simp only [Ev.aK])
 | .iH it=>d8 (y9 (jZ it)) (fun _=>by simp only [aK]) (fun _ _=>by simp only [Ev.aK])
 | .kX _ a=>d8 (uV (br a)) (fun _=>by simp only [aK]) (fun _ _=>by simp only [Ev.aK])
 | .jq a=>d8 (yZ (br a)) (fun _=>by simp only [aK]) (fun _ _=>by simp only [Ev.aK])
theorem fC:∀ e:Es,iM P P' e
 | .nil=>Ko
 | .cons e es=>FZ (br e) (fC es)
theorem sE:∀ e:Es,oE P P' e
 | .nil=>Ga
 | .cons e es=>AX (br e) (sE es)
theorem oK:∀ e:Eo,oG P P' e
 | .no=>ON
 | .yes e=>Kp (br e)
theorem za:∀ e:Eo,qT P P' e
 | .no=>Kq
 | .yes e=>Gb (fY e)
theorem jZ:∀ e:It,ju P P' e
 | .seq e=>Kr (br e)
 | .gR es=>Gd (fC es)
 | .zip a b=>Gf (br a) (br b)
 | .enum a=>AY (br a)
 | .rev a=>Ge (br a)
end
end
end Pv
namespace Pv
open Ev (D O Hh bW bQ TY BI ME T E Es Eo It S Ss Fn big deep b2i rep b6 dY bK aQ cut cG dW slots bh)
structure Tr (M B:Nat→Prop) (h:Hh) (S:Nat→Prop) (M':Nat→Prop) (h':Hh) (S':Nat→Prop):Prop where
 len:h.length≤h'.length
 keep:∀ m,m<h.length→¬ M m→h'[m]?=h[m]?
 sub:∀ m,S m→S' m
 new:∀ m,S' m→S m∨(h.length≤m∧m<h'.length)∨(M m∧¬ B m)
 wA:∀ m,M' m→M m∨h.length≤m
structure dQ (M B:Nat→Prop) (h:Hh) (S:Nat→Prop) (fr:Fr) (aj:Ev.Fr) (M':Nat→Prop) (h':Hh) (S':Nat→Prop) (af:Fr) (bF:Ev.Fr):Prop where
 f:bB M' B h' S' af bF
 tr:Tr M B h S M' h' S'
 lk:∀ i,locked af i=locked fr i
 rf:∀ i,locked fr i=true→bF[i]?=aj[i]?
noncomputable def gu (h:Hh) (S:Nat→Prop):Fl→Ev.Fl→Prop
 | .nx,g=>g=.nx
 | .bk,g=>g=.bk
 | .ct,g=>g=.ct
 | .ret v,g=>∃ d,g=.ret d∧Rep h S v d
section
variable {M B M' M1 M2:Nat→Prop}{h h' h1 h2:Hh}{S S' S1 S2:Nat→Prop}{fr af au:Fr}{aj bF kq:Ev.Fr}{c c1 c2:List Nat}{v:V}{d:D}
theorem dQ.refl (f:bB M B h S fr aj):dQ M B h S fr aj M h S fr aj:=⟨f,⟨Nat.le_refl _,fun _ _ _=>rfl,fun _ q=>q,fun _ q=>.inl q,fun _ q=>.inl q⟩,fun _=>rfl,fun _ _=>rfl⟩
theorem Out.s (o:Out M B c h S fr aj h1 S1 af):dQ M B h S fr aj M h1 S1 af aj:=⟨o.f,⟨o.tr.len,fun m y1 y2=>o.tr.keep m y1 (fun z=>y2 z.1),o.tr.sub,fun m q=>(o.tr.new m q).imp id .inl,fun _ q=>.inl q⟩,o.lk,fun _ _=>rfl⟩
theorem dQ.trans (f0:bB M B h S fr aj) (a:dQ M B h S fr aj M1 h1 S1 af bF) (b:dQ M1 B h1 S1 af bF M2 h2 S2 au kq):dQ M B h S fr aj M2 h2 S2 au kq where
 f:=b.f
 tr:=⟨Nat.le_trans a.tr.len b.tr.len,fun m y1 y2=>by
   rw [b.tr.keep m (Nat.lt_of_lt_of_le y1 a.tr.len) (fun z=>by
    rcases a.tr.wA m z with z | z
    ·exact y2 z
    ·omega),a.tr.keep m y1 y2],fun m q=>b.tr.sub m (a.tr.sub m q),fun m q=>by
   rcases b.tr.new m q with q | q | q
   ·rcases a.tr.new m q with q | q | q
    ·exact .inl q
    ·exact .inr (.inl ⟨q.1,Nat.lt_of_lt_of_le q.2 b.tr.len⟩)
    ·exact .inr (.inr q)
   ·exact .inr (.inl ⟨Nat.le_trans a.tr.len q.1,q.2⟩)
   ·rcases a.tr.wA m q.1 with z | z
    ·exact .inr (.inr ⟨z,q.2⟩)
    ·exact .inr (.inl ⟨z,Nat.lt_of_lt_of_le (a.f.wM m q.1) b.tr.len⟩),fun m q=>by
   rcases b.tr.wA m q with q | q
   ·exact a.tr.wA m q
   ·exact .inr (Nat.le_trans a.tr.len q)⟩
 lk:=fun i=>(b.lk i).trans (a.lk i)
 rf:=fun i q=>(b.rf i (by rw [a.lk i];exact q)).trans (a.rf i q)
theorem bB.kind (f:bB M B h S fr aj) (g:Option Sl→Option Sl→Prop) (hl:af.length=fr.length) (hg:∀ (i:Nat) o,af[i]?=some o→∃ o0,fr[i]?=some o0∧(o=o0∨(∃ l,o0=some (.own l)∧o=some (.val (.lst l)))∨(∃ l,o0=some (.bor l)∧o=some (.ro l)))) :
  ∃ M' S',dQ M B h S fr aj M' h S' af aj:=by
 let X:Nat→Prop:=fun m=>∃ (i:Nat) (l:List V),fr[i]?=some (some (Sl.own l))∧af[i]?=some (some (Sl.val (V.lst l)))∧aj[i]?=some (some (D.ref m))
 let Y:Nat→Prop:=fun m=>∃ (i:Nat) (l:List V),fr[i]?=some (some (Sl.bor l))∧af[i]?=some (some (Sl.ro l))∧aj[i]?=some (some (D.ref m))
 have xM:∀ m,X m→M m∧¬ B m:=fun m ⟨i,l,a,_,b⟩=>by
  obtain ⟨m',ds,e,q,_⟩:=f.sl i _ _ a b;cases e;exact q
 have yM:∀ m,Y m→M m∧B m:=fun m ⟨i,l,a,_,b⟩=>by
  obtain ⟨m',ds,e,q,_⟩:=f.sl i _ _ a b;cases e;exact q
 have mono:∀ {l:List V} {ds:List D},aq h S l ds→aq h (fun m=>S m∨X m) l ds:=fun q=>q.mono (fun _ _=>rfl) fun _ z=>.inl z
 refine ⟨fun m=>M m∧¬ X m∧¬ Y m,fun m=>S m∨X m,⟨⟨fun m q=>?_,fun m q=>f.wM m q.1,f.wB,by rw [hl,f.len],fun i o p e1 e2=>?_,fun i j o o' m y1 y2 y3 y4 y5 y6=>?_⟩,⟨Nat.le_refl _,fun _ _ _=>rfl,fun _ q=>.inl q,fun m q=>?_,fun m q=>.inl q.1⟩,fun i=>?_,fun _ _=>rfl⟩⟩
 ·rcases q with q | q
  ·exact ⟨(f.wS m q).1,fun z=>(f.wS m q).2.1 z.1,(f.wS m q).2.2⟩
  ·exact ⟨f.wM m (xM m q).1,fun z=>z.2.1 q,(xM m q).2⟩
 ·obtain ⟨o0,e0,k⟩:=hg i o e1
  have old:=f.sl i o0 p e0 e2
  rcases k with rfl | ⟨l,rfl,rfl⟩ | ⟨l,rfl,rfl⟩
  ·rcases o with _ | s
   ·exact old
   ·cases s with
    | val v=>obtain ⟨d,e,q⟩:=old;exact ⟨d,e,q.mono (fun _ _=>rfl) fun _ z=>.inl z⟩
    | own l=>
     obtain ⟨m,ds,rfl,z,y,q⟩:=old
     refine ⟨m,ds,rfl,⟨⟨z.1,fun ⟨j,l',a1,a2,a3⟩=>?_,fun ⟨j,l',a1,a2,a3⟩=>?_⟩,z.2⟩,y,mono q⟩
     ·have:=f.inj i j _ _ m e0 a1 rfl rfl e2 a3;subst this;rw [e1] at a2;cases a2
     ·have:=f.inj i j _ _ m e0 a1 rfl rfl e2 a3;subst this;rw [e1] at a2;cases a2
    | bor l=>
     obtain ⟨m,ds,rfl,z,y,q⟩:=old
     refine ⟨m,ds,rfl,⟨⟨z.1,fun ⟨j,l',a1,a2,a3⟩=>?_,fun ⟨j,l',a1,a2,a3⟩=>?_⟩,z.2⟩,y,mono q⟩
     ·have:=f.inj i j _ _ m e0 a1 rfl rfl e2 a3;subst this;rw [e1] at a2;cases a2
     ·have:=f.inj i j _ _ m e0 a1 rfl rfl e2 a3;subst this;rw [e1] at a2;cases a2
    | ro l=>obtain ⟨m,ds,rfl,z,y,q⟩:=old;exact ⟨m,ds,rfl,fun w=>z w.1,y,mono q⟩
  ·obtain ⟨m,ds,rfl,z,y,q⟩:=old
   exact ⟨.ref m,rfl,m,ds,rfl,.inr ⟨i,l,e0,e1,e2⟩,y,mono q⟩
  ·obtain ⟨m,ds,rfl,z,y,q⟩:=old
   exact ⟨m,ds,rfl,fun w=>w.2.2 ⟨i,l,e0,e1,e2⟩,y,mono q⟩
 ·have kd:∀ (i:Nat) o,af[i]?=some o→gq o=true→∃ o0,fr[i]?=some o0∧gq o0=true:=fun i o w1 w2=>by
   obtain ⟨o0,e0,k⟩:=hg i o w1
   rcases k with rfl | ⟨l,rfl,rfl⟩ | ⟨l,rfl,rfl⟩
   ·exact ⟨o,e0,w2⟩
   ·cases w2
   ·cases w2
  obtain ⟨oi,k1,k2⟩:=kd i o y1 y3
  obtain ⟨oj,k3,k4⟩:=kd j o' y2 y4
  exact f.inj i j oi oj m k1 k3 k2 k4 y5 y6
 ·rcases q with q | q
  ·exact .inl q
  ·exact .inr (.inr (xM m q))
 ·unfold locked
  cases z:af[i]? with
  | none=>
   have:fr[i]?=none:=by rw [List.getElem?_eq_none_iff] at z ⊢;omega
   rw [this]
  | some o=>
   obtain ⟨o0,e0,k⟩:=hg i o z
   rw [e0]
   rcases k with rfl | ⟨l,rfl,rfl⟩ | ⟨l,rfl,rfl⟩ <;> rfl
theorem bB.cZ (f:bB M B h S fr aj):∃ M' S',dQ M B h S fr aj M' h S' (ez fr) aj:=by
 refine f.kind (fun _ _=>True) (by simp [ez]) fun i o e=>?_
 unfold ez at e
 rw [List.getElem?_map] at e
 cases z:fr[i]? with
 | none=>rw [z] at e;cases e
 | some o0=>
  rw [z] at e;cases e
  refine ⟨o0,rfl,?_⟩
  rcases o0 with _ | s
  ·exact .inl rfl
  ·cases s with
   | own l=>exact .inr (.inl ⟨l,rfl,rfl⟩)
   | _=>exact .inl rfl
theorem bB.walk:∀ (is:List Nat) {M:Nat→Prop}{S:Nat→Prop}{fr:Fr},bB M B h S fr aj→∃ M' S',dQ M B h S fr aj M' h S' (qS is fr) aj
 | [],_,_,_,f=>⟨_,_,.refl f⟩
 | i :: is,M,S,fr,f=>by
  have one:∃ M1 S1,dQ M B h S fr aj M1 h S1 (match fr[i]? with | some (some s)=>fr.set i (some s.walk) | _=>fr) aj:=by
   split
   ·rename_i s z
    have hl:=(List.getElem?_eq_some_iff.mp z).1
    refine f.kind (fun _ _=>True) (by simp) fun j o e=>?_
    by_cases hj:i=j
    ·subst hj
     rw [List.getElem?_set_self hl] at e
     cases e
     refine ⟨_,z,?_⟩
     cases s with
     | own l=>exact .inr (.inl ⟨l,rfl,rfl⟩)
     | bor l=>exact .inr (.inr ⟨l,rfl,rfl⟩)
     | _=>exact .inl rfl
    ·rw [List.getElem?_set_ne hj] at e
     exact ⟨o,e,.inl rfl⟩
   ·exact ⟨M,S,.refl f⟩
  obtain ⟨M1,S1,o1⟩:=one
  obtain ⟨M2,S2,o2⟩:=bB.walk is o1.f
  exact ⟨M2,S2,o1.trans f o2⟩
theorem bB.own (f:bB M B h S fr aj) {i:Nat}{l:List V}{ds:List D}(e:put fr i (.own l)=some af) (q:aq h S l ds):dQ M B h S fr aj (fun m=>M m∨m=h.length) (h++[.lst ds]) S af (aj.set i (some (.ref h.length))):=by
 have hx:af=fr.set i (some (.own l))∧locked fr i=false:=by
  unfold put at e
  unfold locked
  split at e
  ·cases e
  ·cases e
  ·rename_i k1 k2
   cases e
   refine ⟨rfl,?_⟩
   cases z:fr[i]? with
   | none=>rfl
   | some o=>
    rcases o with _ | s
    ·rfl
    ·cases s with
     | bor l=>exact absurd z (k1 l)
     | ro l=>exact absurd z (k2 l)
     | _=>rfl
 obtain ⟨rfl,hk⟩:=hx
 have kp:∀ m,m<h.length→(h++[O.lst ds])[m]?=h[m]?:=fun m z=>by rw [List.getElem?_append_left z]
 have kS:∀ m,S m→(h++[O.lst ds])[m]?=h[m]?:=fun m z=>kp m (f.w m z)
 refine ⟨⟨fun m y=>⟨by have:=(f.wS m y).1;simp;omega,fun z=>?_,(f.wS m y).2.2⟩,fun m y=>?_,fun m y=>by have:=f.wB m y;simp;omega,by simp [f.len],fun j o p y1 y2=>?_,fun j k o o' m y1 y2 y3 y4 y5 y6=>?_⟩,⟨by simp,fun m y _=>kp m y,fun _ z=>z,fun _ z=>.inl z,fun m z=>z.imp id (fun z=>by omega)⟩,fun j=>?_,fun j hj=>?_⟩
 ·rcases z with z | z
  ·exact (f.wS m y).2.1 z
  ·have:=(f.wS m y).1;omega
 ·rcases y with y | y
  ·have:=f.wM m y;simp;omega
  ·subst y;simp
 ·by_cases hj:i=j
  ·subst hj
   have hl:i<fr.length:=by have:=(List.getElem?_eq_some_iff.mp y1).1;simpa using this
   rw [List.getElem?_set_self hl] at y1
   rw [List.getElem?_set_self (by rw [←f.len];exact hl)] at y2
   cases y1;cases y2
   exact ⟨h.length,ds,rfl,⟨.inr rfl,fun z=>by have:=f.wB _ z;omega⟩,by simp,q.mono kS fun _ z=>z⟩
  ·rw [List.getElem?_set_ne hj] at y1 y2
   have old:=f.sl j o p y1 y2
   rcases o with _ | s
   ·exact old
   ·cases s with
    | val v=>obtain ⟨d,e,q⟩:=old;exact ⟨d,e,q.mono kS fun _ z=>z⟩
    | own l=>obtain ⟨m,es,rfl,z,y,q⟩:=old;exact ⟨m,es,rfl,⟨.inl z.1,z.2⟩,by rw [kp m (f.wM m z.1)];exact y,q.mono kS fun _ z=>z⟩
    | bor l=>obtain ⟨m,es,rfl,z,y,q⟩:=old;exact ⟨m,es,rfl,⟨.inl z.1,z.2⟩,by rw [kp m (f.wM m z.1)];exact y,q.mono kS fun _ z=>z⟩
    | ro l=>
     obtain ⟨m,es,rfl,z,y,q⟩:=old
     have hm:=(List.getElem?_eq_some_iff.mp y).1
     exact ⟨m,es,rfl,fun w=>by rcases w with w | w;exact z w;omega,by rw [kp m hm];exact y,q.mono kS fun _ z=>z⟩
 ·have low:∀ (j:Nat) o,i≠j→fr[j]?=some o→gq o=true→aj[j]?=some (some (.ref m))→m<h.length:=fun j o _ w1 w2 w3=>f.wM m (f.mM w1 w2 w3)
  have new:∀ (j:Nat),j<fr.length→i=j→(aj.set i (some (.ref h.length)))[j]?=some (some (.ref m))→m=h.length:=fun j hl hj w=>by
   subst hj
   rw [List.getElem?_set_self (by rw [←f.len];exact hl)] at w
   cases w;rfl
  have lj:j<fr.length:=by have:=(List.getElem?_eq_some_iff.mp y1).1;simpa using this
  have lk:k<fr.length:=by have:=(List.getElem?_eq_some_iff.mp y2).1;simpa using this
  by_cases hj:i=j
  ·by_cases hk2:i=k
   ·rw [←hj,←hk2]
   ·have a:=new j lj hj y5
    rw [List.getElem?_set_ne hk2] at y2 y6
    have b:=low k o' hk2 y2 y4 y6
    omega
  ·by_cases hk2:i=k
   ·have a:=new k lk hk2 y6
    rw [List.getElem?_set_ne hj] at y1 y5
    have b:=low j o hj y1 y3 y5
    omega
   ·rw [List.getElem?_set_ne hj] at y1 y5
    rw [List.getElem?_set_ne hk2] at y2 y6
    exact f.inj j k o o' m y1 y2 y3 y4 y5 y6
 ·by_cases hj:i=j
  ·subst hj
   rw [hk]
   unfold locked
   by_cases hl:i<fr.length
   ·rw [List.getElem?_set_self hl];rfl
   ·rw [List.getElem?_eq_none (by simpa using hl)]
  ·unfold locked;rw [List.getElem?_set_ne hj]
 ·have:i≠j:=fun z=>by subst z;rw [hk] at hj;cases hj
  rw [List.getElem?_set_ne this]
end
inductive QD (P':Ev.aR) (w:Nat) (s:S) (g:Fl) (M B:Nat→Prop) (h:Hh) (S:Nat→Prop) (fr:Fr) (aj:Ev.Fr) (af:Fr):Prop
 | mk (g':Ev.Fl) (bF:Ev.Fr) (M':Nat→Prop) (h':Hh) (S':Nat→Prop) (c0:Ev.ex P' w s aj h=.ok (g',bF) h') (c1:gu h' S' g g') (c2:dQ M B h S fr aj M' h' S' af bF):QD P' w s g M B h S fr aj af
inductive Ks (P':Ev.aR) (w:Nat) (s:Ss) (g:Fl) (M B:Nat→Prop) (h:Hh) (S:Nat→Prop) (fr:Fr) (aj:Ev.Fr) (af:Fr):Prop
 | mk (g':Ev.Fl) (bF:Ev.Fr) (M':Nat→Prop) (h':Hh) (S':Nat→Prop) (c0:Ev.exs P' w s aj h=.ok (g',bF) h') (c1:gu h' S' g g') (c2:dQ M B h S fr aj M' h' S' af bF):Ks P' w s g M B h S fr aj af
section
variable (P:aR)(P':Ev.aR)(w:Nat)
noncomputable def nq (s:S):Prop:=∀ {fr:Fr} {g:Fl} {af:Fr} {M B:Nat→Prop} {h:Hh} {S:Nat→Prop} {aj:Ev.Fr},ex P w s fr=.ok g af→bB M B h S fr aj→QD P' w s g M B h S fr aj af
noncomputable def oM (s:Ss):Prop:=∀ {fr:Fr} {g:Fl} {af:Fr} {M B:Nat→Prop} {h:Hh} {S:Nat→Prop} {aj:Ev.Fr},exs P w s fr=.ok g af→bB M B h S fr aj→Ks P' w s g M B h S fr aj af
end
section
variable {P:aR}{P':Ev.aR}{w:Nat}(HP:oq P P')
include HP
theorem Gg {i:Nat}{e:E}:nq P P' w (.set i e):=fun {fr g af M B h S aj} z f=>by
 simp only [ex] at z
 replace z:=ai z;obtain ⟨x,au,z1,z⟩:=z
 by_cases hn:isNew e=true
 ·rw [if_pos hn] at z
  have key:∃ l ds h1 S1,x=.lst l∧aq h1 S1 l ds∧Ev.ev P' e aj h=.ok (.ref h1.length) (h1++[.lst ds])∧Out M B (bE e) h S fr aj h1 S1 au:=by
   cases e <;> simp only [isNew,Bool.false_eq_true] at hn
   case lst es=>
    simp only [ev] at z1
    replace z1:=ai z1;obtain ⟨l,cB,z2,z1⟩:=z1
    replace z1:=aM z1;obtain ⟨z1,y0⟩:=z1;subst y0
    unfold dO at z1
    split at z1
    case isFalse=>cases z1
    rename_i hk
    cases z1
    obtain ⟨ds,h1,S1,e1,q1,o1⟩:=fC HP es z2 f
    refine ⟨l,ds,h1,S1,rfl,q1.n,?_,o1⟩
    simp only [Ev.ev,e1,Ev.ak,Ev.alloc]
    rw [if_pos (by rw [←q1.n.length];exact hk)]
   case iH it=>
    simp only [ev] at z1
    replace z1:=ai z1;obtain ⟨l,cB,z2,z1⟩:=z1
    replace z1:=aM z1;obtain ⟨z1,y0⟩:=z1;subst y0
    unfold dO at z1
    split at z1
    case isFalse=>cases z1
    rename_i hk
    cases z1
    obtain ⟨s,h1,S1,e1,q1,q2,o1⟩:=jZ HP it z2 f
    refine ⟨l,s.1,h1,S1,rfl,q1,?_,o1⟩
    simp only [Ev.ev,e1,Ev.ak,Ev.alloc]
    rw [if_pos (by rw [←q1.length];exact hk)]
  obtain ⟨l,ds,h1,S1,rfl,q1,e1,o1⟩:=key
  simp only at z
  replace z:=ai z;obtain ⟨cB,iI,z2,z⟩:=z
  replace z2:=aM z2;obtain ⟨z2,y0⟩:=z2;subst y0
  cases z
  have o2:=o1.f.own z2 q1
  exact ⟨.nx,_,_,_,_,by simp only [Ev.ex,e1,Ev.ak],rfl,o1.s.trans f o2⟩
 ·rw [if_neg hn] at z
  replace z:=ai z;obtain ⟨cB,iI,z2,z⟩:=z
  replace z2:=aM z2;obtain ⟨z2,y0⟩:=z2;subst y0
  cases z
  obtain ⟨d,h1,S1,e1,q1,o1⟩:=br HP e z1 f
  obtain ⟨f2,l2,r2⟩:=o1.f.set z2 q1.n
  refine ⟨.nx,_,_,_,_,by simp only [Ev.ex,e1,Ev.ak],rfl,o1.s.trans f ⟨f2,(dQ.refl f2).tr,l2,r2⟩⟩
theorem Gh {l:List Nat}{e:E}:nq P P' w (.vM l e):=fun {fr g af M B h S aj} z f=>by
 simp only [ex] at z
 replace z:=ai z;obtain ⟨x,au,z1,z⟩:=z
 replace z:=ai z;obtain ⟨cB,iI,z2,z⟩:=z
 replace z2:=aM z2;obtain ⟨z2,y0⟩:=z2;subst y0
 cases z
 obtain ⟨d,h1,S1,e1,q1,o1⟩:=br HP e z1 f
 obtain ⟨iF,b1,f2,l2,r2⟩:=o1.f.b7 z2 q1.n
 exact ⟨.nx,_,_,_,_,by simp only [Ev.ex,e1,Ev.ak,b1],rfl,o1.s.trans f ⟨f2,(dQ.refl f2).tr,l2,r2⟩⟩
theorem Ku {e:E}:nq P P' w (.exp e):=fun {fr g af M B h S aj} z f=>by
 simp only [ex] at z
 replace z:=ai z;obtain ⟨x,au,z1,z⟩:=z
 cases z
 obtain ⟨d,h1,S1,e1,q1,o1⟩:=br HP e z1 f
 exact ⟨.nx,_,_,_,_,by simp only [Ev.ex,e1,Ev.ak],rfl,o1.s⟩
theorem Kv {e:E}:nq P P' w (.ret e):=fun {fr g af M B h S aj} z f=>by
 simp only [ex] at z
 replace z:=ai z;obtain ⟨x,au,z1,z⟩:=z
 cases z
 obtain ⟨M1,S1,o1⟩:=f.cZ
 obtain ⟨d,h2,S2,e1,q1,o2⟩:=br HP e z1 o1.f
 exact ⟨.ret d,_,_,_,_,by simp only [Ev.ex,e1,Ev.ak],⟨d,rfl,q1.n⟩,o1.trans f o2.s⟩
omit HP in
theorem pR {F:V→Fr→R Fl}{F':D→Ev.Fr→Hh→Ev.R (Ev.Fl×Ev.Fr)}{ck:List (Nat×List D)}{B:Nat→Prop}{M0:Nat→Prop}{h0:Hh}{S0:Nat→Prop}{d7:Fr}{AZ:Ev.Fr}(f0:bB M0 B h0 S0 d7 AZ) (st:∀ q∈ck,bh h0 q.1=some q.2∧¬ M0 q.1)
  (turn:∀ v d fr g af M h S aj,F v fr=.ok g af→bB M B h S fr aj→Rep h S v d→∃ g' bF M' h' S',F' d aj h=.ok (g',bF) h'∧gu h' S' g g'∧dQ M B h S fr aj M' h' S' af bF) :
  ∀ {vs:List V} {ds:List D} {fr:Fr} {g:Fl} {af:Fr} {M:Nat→Prop} {h:Hh} {S:Nat→Prop} {aj:Ev.Fr},forL F vs fr=.ok g af→dQ M0 B h0 S0 d7 AZ M h S fr aj→aq h S vs ds→
  ∃ g' bF M' h' S',Ev.forL F' ck ds aj h=.ok (g',bF) h'∧gu h' S' g g'∧dQ M0 B h0 S0 d7 AZ M' h' S' af bF
 | [],ds,fr,g,af,M,h,S,aj,e,o,q=>by
  simp only [forL] at e;simp only [aq] at q;subst q
  cases e
  refine ⟨.nx,aj,M,h,S,?_,rfl,o⟩
  simp only [Ev.forL]
  rw [if_pos (jf fun x hx=>ko (st x hx).1 (o.tr.keep _ (oB (st x hx).1) (st x hx).2))]
 | v :: vs,ds,fr,g,af,M,h,S,aj,e,o,q=>by
  simp only [forL] at e
  replace e:=ai e;obtain ⟨p,au,e1,e⟩:=e
  simp only [aq] at q
  obtain ⟨d,es,rfl,q1,q2⟩:=q
  obtain ⟨g',kq,M2,h2,S2,t1,t2,t3⟩:=turn v d fr p au M h S aj e1 o.f q1
  have o2:=o.trans f0 t3
  have fZ:Ev.stays h ck=true:=jf fun x hx=>ko (st x hx).1 (o.tr.keep _ (oB (st x hx).1) (st x hx).2)
  have QE:aq h2 S2 vs es:=q2.mono (fun m z=>t3.tr.keep m (o.f.wS m z).1 (o.f.wS m z).2.1) t3.tr.sub
  cases p with
  | nx=>
   simp only [gu] at t2;subst t2
   simp only at e
   obtain ⟨oN,iF,M3,h3,S3,u1,u2,u3⟩:=pR f0 st turn e o2 QE
   refine ⟨oN,iF,M3,h3,S3,?_,u2,u3⟩
   simp only [Ev.forL]
   rw [if_pos fZ,t1,Ev.ak]
   exact u1
  | ct=>
   simp only [gu] at t2;subst t2
   simp only at e
   obtain ⟨oN,iF,M3,h3,S3,u1,u2,u3⟩:=pR f0 st turn e o2 QE
   refine ⟨oN,iF,M3,h3,S3,?_,u2,u3⟩
   simp only [Ev.forL]
   rw [if_pos fZ,t1,Ev.ak]
   exact u1
  | bk=>
   simp only [gu] at t2;subst t2
   simp only at e
   cases e
   refine ⟨.nx,kq,M2,h2,S2,?_,rfl,o2⟩
   simp only [Ev.forL]
   rw [if_pos fZ,t1,Ev.ak]
  | ret x=>
   simp only [gu] at t2
   obtain ⟨d2,rfl,t2⟩:=t2
   simp only at e
   cases e
   refine ⟨.ret d2,kq,M2,h2,S2,?_,⟨d2,rfl,t2⟩,o2⟩
   simp only [Ev.forL]
   rw [if_pos fZ,t1,Ev.ak]
theorem Kw {t:T}{it:It}{b:Ss}(ib:oM P P' w b):nq P P' w (.for t it b):=fun {fr g af M B h S aj} z f=>by
 simp only [ex] at z
 replace z:=ai z;obtain ⟨vs,au,z1,z⟩:=z
 obtain ⟨M1,S1,o1⟩:=f.walk (itv it)
 obtain ⟨s,h2,S2,e1,q1,q2,o2⟩:=jZ HP it z1 o1.f
 have o3:=o1.trans f o2.s
 obtain ⟨g',bF,M',h',S',u1,u2,u3⟩:=pR (F':=fun d au h2=>match Ev.b7 t d au with
   | some cB=>Ev.exs P' w b cB h2
   | none=>.bad) (ck:=s.2) o2.f (fun q hq=>⟨(q2 q hq).1,(q2 q hq).2 rfl⟩) (fun v d fr g af M h S aj y f q=>by
  split at y
  ·rename_i cB y1
   obtain ⟨iF,b1,b2,b3,b4⟩:=f.b7 y1 q
   rw [b1]
   obtain ⟨g',bF,M',h',S',c1,c2,c3⟩:=ib y b2
   exact ⟨g',bF,M',h',S',c1,c2,(⟨b2,(dQ.refl b2).tr,b3,b4⟩:dQ M _ h S fr aj M h S cB iF).trans f c3⟩
  ·cases y) z (dQ.refl o2.f) q1
 refine ⟨g',bF,M',h',S',?_,u2,o3.trans f u3⟩
 simp only [Ev.ex,e1,Ev.ak]
 exact u1
theorem sG {t:E}{b:Ss}(ib:oM P P' w b):∀ (n:Nat) {fr:Fr}{g:Fl}{af:Fr}{M B:Nat→Prop}{h:Hh}{S:Nat→Prop}{aj:Ev.Fr},dN (fun au=>aK P t au) (fun au=>exs P w b au) n fr=.ok g af→bB M B h S fr aj→
  ∃ g' bF M' h' S',Ev.dN (fun au h2=>Ev.aK P' t au h2) (fun au h2=>Ev.exs P' w b au h2) n aj h=.ok (g',bF) h'∧gu h' S' g g'∧dQ M B h S fr aj M' h' S' af bF
 | 0,_,_,_,_,_,_,_,_,z,_=>by simp only [dN] at z;cases z
 | n+1,fr,g,af,M,B,h,S,aj,z,f=>by
  simp only [dN] at z
  replace z:=ai z;obtain ⟨k,au,z1,z⟩:=z
  obtain ⟨h1,S1,e1,o1⟩:=fY HP t z1 f
  cases k with
  | false=>
   simp only [Bool.false_eq_true,if_false] at z
   cases z
   refine ⟨.nx,aj,M,h1,S1,?_,rfl,o1.s⟩
   simp only [Ev.dN,e1,Ev.ak]
   rw [if_neg (by decide)]
  | true=>
   simp only [if_true] at z
   replace z:=ai z;obtain ⟨p,cB,z2,z⟩:=z
   obtain ⟨g',iF,M2,h2,S2,t1,t2,t3⟩:=ib z2 o1.f
   have o2:=o1.s.trans f t3
   cases p with
   | nx=>
    simp only [gu] at t2;subst t2
    simp only at z
    obtain ⟨oN,A3,M3,h3,S3,u1,u2,u3⟩:=sG ib n z t3.f
    refine ⟨oN,A3,M3,h3,S3,?_,u2,o2.trans f u3⟩
    simp only [Ev.dN,e1,Ev.ak,if_true,t1]
    exact u1
   | ct=>
    simp only [gu] at t2;subst t2
    simp only at z
    obtain ⟨oN,A3,M3,h3,S3,u1,u2,u3⟩:=sG ib n z t3.f
    refine ⟨oN,A3,M3,h3,S3,?_,u2,o2.trans f u3⟩
    simp only [Ev.dN,e1,Ev.ak,if_true,t1]
    exact u1
   | bk=>
    simp only [gu] at t2;subst t2
    simp only at z
    cases z
    refine ⟨.nx,iF,M2,h2,S2,?_,rfl,o2⟩
    simp only [Ev.dN,e1,Ev.ak,if_true,t1]
   | ret x=>
    simp only [gu] at t2
    obtain ⟨d2,rfl,t2⟩:=t2
    simp only at z
    cases z
    refine ⟨.ret d2,iF,M2,h2,S2,?_,⟨d2,rfl,t2⟩,o2⟩
    simp only [Ev.dN,e1,Ev.ak,if_true,t1]
theorem Ky {t:E}{a b:Ss}(ia:oM P P' w a) (ib:oM P P' w b):nq P P' w (.iff t a b):=fun {fr g af M B h S aj} z f=>by
 simp only [ex] at z
 replace z:=ai z;obtain ⟨k,au,z1,z⟩:=z
 obtain ⟨h1,S1,e1,o1⟩:=fY HP t z1 f
 cases k with
 | true=>
  simp only [if_true] at z
  obtain ⟨g',bF,M',h',S',c1,c2,c3⟩:=ia z o1.f
  exact ⟨g',bF,M',h',S',by simp only [Ev.ex,e1,Ev.ak,if_true,c1],c2,o1.s.trans f c3⟩
 | false=>
  simp only [Bool.false_eq_true,if_false] at z
  obtain ⟨g',bF,M',h',S',c1,c2,c3⟩:=ib z o1.f
  exact ⟨g',bF,M',h',S',by simp only [Ev.ex,e1,Ev.ak];rw [if_neg (by decide)];exact c1,c2,o1.s.trans f c3⟩
mutual
theorem OP:∀ s:S,nq P P' w s
 | .set _ _=>Gg HP
 | .vM _ _=>Gh HP
 | .exp _=>Ku HP
 | .ret _=>Kv HP
 | .iff _ a b=>Ky HP (j0 a) (j0 b)
 | .for _ _ b=>Kw HP (j0 b)
 | .nW _ b=>fun z f=>by
  simp only [ex] at z
  obtain ⟨g',bF,M',h',S',c1,c2,c3⟩:=sG HP (j0 b) w z f
  exact ⟨g',bF,M',h',S',by simp only [Ev.ex];exact c1,c2,c3⟩
 | .pass=>fun z f=>by simp only [ex] at z;cases z;exact ⟨.nx,_,_,_,_,by simp only [Ev.ex],rfl,.refl f⟩
 | .brk=>fun z f=>by simp only [ex] at z;cases z;exact ⟨.bk,_,_,_,_,by simp only [Ev.ex],rfl,.refl f⟩
 | .fR=>fun z _=>by simp only [ex] at z;cases z
 | .cnt=>fun z f=>by simp only [ex] at z;cases z;exact ⟨.ct,_,_,_,_,by simp only [Ev.ex],rfl,.refl f⟩
theorem j0:∀ s:Ss,oM P P' w s
 | .nil=>fun z f=>by simp only [exs] at z;cases z;exact ⟨.nx,_,_,_,_,by simp only [Ev.exs],rfl,.refl f⟩
 | .cons s ss=>fun z f=>by
  simp only [exs] at z
  replace z:=ai z;obtain ⟨p,au,z1,z⟩:=z
  obtain ⟨g',kq,M2,h2,S2,t1,t2,t3⟩:=OP s z1 f
  cases p with
  | nx=>
   simp only [gu] at t2;subst t2
   simp only at z
   obtain ⟨oN,iF,M3,h3,S3,u1,u2,u3⟩:=j0 ss z t3.f
   exact ⟨oN,iF,M3,h3,S3,by simp only [Ev.exs,t1,Ev.ak,u1],u2,t3.trans f u3⟩
  | ct=>
   simp only [gu] at t2;subst t2
   simp only at z
   cases z
   exact ⟨.ct,kq,M2,h2,S2,by simp only [Ev.exs,t1,Ev.ak],rfl,t3⟩
  | bk=>
   simp only [gu] at t2;subst t2
   simp only at z
   cases z
   exact ⟨.bk,kq,M2,h2,S2,by simp only [Ev.exs,t1,Ev.ak],rfl,t3⟩
  | ret x=>
   simp only [gu] at t2
   obtain ⟨d2,rfl,t2⟩:=t2
   simp only at z
   cases z
   exact ⟨.ret d2,kq,M2,h2,S2,by simp only [Ev.exs,t1,Ev.ak],⟨d2,rfl,t2⟩,t3⟩
end
end
theorem pS {h:Hh}{S:Nat→Prop}{B:Nat→Prop}{h0:Hh}{S0:Nat→Prop}:∀ {sl:List Sl}{ds:List D}{cs:Fr},sl.length=ds.length→
  (∀ (a:Nat) s d,sl[a]?=some s→ds[a]?=some d→jV B B h0 S0 (some s) (some d)∧locked cs a=uR (some s)∧(uR (some s)=true→∃ m es l s',d=.ref m∧h[m]?=some (.lst es)∧aq h S l es∧cs[a]?=some (some s')∧s'.out=some l))→lI h S sl ds ((cs.take sl.length).filterMap fun o=>o.bind Sl.out)
 | [],ds,cs,_,_=>by simp [lI]
 | s :: sl,[],cs,hl,_=>by simp at hl
 | s :: sl,d :: ds,[],hl,q=>by
  have ih:=pS (h:=h) (S:=S) (sl:=sl) (ds:=ds) (cs:=[]) (by simpa using hl) fun a s' d' e1 e2=>by
   obtain ⟨w1,w2,w3⟩:=q (a+1) s' d' (by simpa using e1) (by simpa using e2)
   exact ⟨w1,by simpa [locked] using w2,fun z=>by obtain ⟨_,_,_,_,_,_,_,y,_⟩:=w3 z;simp at y⟩
  obtain ⟨w1,w2,w3⟩:=q 0 s d (by simp) (by simp)
  cases s with
  | val v=>simp at ih ⊢;exact ⟨d,ds,rfl,ih⟩
  | own l=>exact absurd w1 (by rintro ⟨m,es,e,q,_⟩;exact q.2 q.1)
  | bor l=>obtain ⟨_,_,_,_,_,_,_,y,_⟩:=w3 rfl;simp at y
  | ro l=>obtain ⟨_,_,_,_,_,_,_,y,_⟩:=w3 rfl;simp at y
 | s :: sl,d :: ds,o :: cs,hl,q=>by
  have ih:=pS (h:=h) (S:=S) (sl:=sl) (ds:=ds) (cs:=cs) (by simpa using hl) fun a s' d' e1 e2=>by
   obtain ⟨w1,w2,w3⟩:=q (a+1) s' d' (by simpa using e1) (by simpa using e2)
   exact ⟨w1,by simpa [locked] using w2,fun z=>by simpa using w3 z⟩
  obtain ⟨w1,w2,w3⟩:=q 0 s d (by simp) (by simp)
  cases s with
  | val v=>
   have:o.bind Sl.out=none:=by
    simp [locked] at w2
    rcases o with _ | s
    ·rfl
    ·cases s <;> first | rfl | cases w2
   simp only [List.length_cons,List.take_succ_cons,List.filterMap_cons,this]
   exact ⟨d,ds,rfl,ih⟩
  | own l=>exact absurd w1 (by rintro ⟨m,es,e,q,_⟩;exact q.2 q.1)
  | bor l=>
   obtain ⟨m,es,l',s',a1,a2,a3,a4,a5⟩:=w3 rfl
   simp at a4;subst a4
   simp only [List.length_cons,List.take_succ_cons,List.filterMap_cons,Option.bind,a5]
   exact ⟨d,ds,l',_,m,es,rfl,rfl,a1,a2,a3,ih⟩
  | ro l=>
   obtain ⟨m,es,l',s',a1,a2,a3,a4,a5⟩:=w3 rfl
   simp at a4;subst a4
   simp only [List.length_cons,List.take_succ_cons,List.filterMap_cons,Option.bind,a5]
   exact ⟨d,ds,l',_,m,es,rfl,rfl,a1,a2,a3,ih⟩
theorem zb (F:List Fn) (w:Nat):∀ n,oq (run F w n) (Ev.run F w n)
 | 0=>fun f sl v os e=>by simp [run] at e
 | n+1=>fun f sl v os e h S B ds F0=>by
  have HP:=zb F w n
  simp only [run] at e
  cases z:F[f]? with
  | none=>rw [z] at e;cases e
  | some fn=>
  rw [z] at e
  simp only at e
  split at e
  case isFalse=>cases e
  rename_i hl
  have hlen:sl.length=ds.length:=by have:=F0.len;simpa using this
  have f1:bB B B h S (d7 fn sl) (Ev.d7 fn ds):=by
   unfold d7 Ev.d7
   have sp:∀ (i:Nat) o,(sl.map some++List.replicate (fn.ns - fn.np) none)[i]?=some o→(sl.map some)[i]?=some o∨(sl.length≤i∧o=none):=fun i o y=>by
    by_cases hi:i<sl.length
    ·rw [List.getElem?_append_left (by simpa using hi)] at y;exact .inl y
    ·rw [List.getElem?_append_right (by simpa using hi)] at y
     have:=List.mem_of_getElem? y
     exact .inr ⟨by omega,(List.mem_replicate.mp this).2⟩
   have lo:∀ (i:Nat) p,i<sl.length→(ds.map some++List.replicate (fn.ns - fn.np) none)[i]?=some p→(ds.map some)[i]?=some p:=fun i p hi y=>by
    rw [List.getElem?_append_left (by simpa [←hlen] using hi)] at y;exact y
   refine ⟨F0.wS,F0.wM,F0.wB,by simp [hlen],fun i o p y1 y2=>?_,fun i j o o' m y1 y2 y3 y4 y5 y6=>?_⟩
   ·rcases sp i o y1 with y1 | ⟨hi,rfl⟩
    ·have hi:i<sl.length:=by have:=(List.getElem?_eq_some_iff.mp y1).1;simpa using this
     exact F0.sl i o p y1 (lo i p hi y2)
    ·rw [List.getElem?_append_right (by simpa [←hlen] using hi)] at y2
     have:=List.mem_of_getElem? y2
     exact (List.mem_replicate.mp this).2
   ·rcases sp i o y1 with y1 | ⟨hi,rfl⟩
    ·rcases sp j o' y2 with y2 | ⟨hj,rfl⟩
     ·have hi:i<sl.length:=by have:=(List.getElem?_eq_some_iff.mp y1).1;simpa using this
      have hj:j<sl.length:=by have:=(List.getElem?_eq_some_iff.mp y2).1;simpa using this
      exact F0.inj i j o o' m y1 y2 y3 y4 (lo i _ hi y5) (lo j _ hj y6)
     ·cases y4
    ·cases y3
  have fin:∀ {g:Fl} {af:Fr},exs (run F w n) w fn.body (d7 fn sl)=.ok g af→∃ g' bF M' h' S',Ev.exs (Ev.run F w n) w fn.body (Ev.d7 fn ds) h=.ok (g',bF) h'∧gu h' S' g g'∧Tk B h S h' S'∧lI h' S' sl ds (outs fn.np af):=fun {g af} y=>by
   obtain ⟨g',bF,M',h',S',c1,c2,c3⟩:=j0 HP fn.body y f1
   refine ⟨g',bF,M',h',S',c1,c2,⟨c3.tr.len,fun m y1 y2=>c3.tr.keep m y1 y2,c3.tr.sub,fun m q=>?_⟩,?_⟩
   ·rcases c3.tr.new m q with q | q | q
    ·exact .inl q
    ·exact .inr q
    ·exact absurd q.1 q.2
   ·unfold outs
    rw [←hl]
    refine pS (B:=B) (h0:=h) (S0:=S) hlen fun a s d e1 e2=>?_
    have ha:a<sl.length:=(List.getElem?_eq_some_iff.mp e1).1
    have h0:(d7 fn sl)[a]?=some (some s):=by unfold d7;rw [List.getElem?_append_left (by simpa using ha)];simp [e1]
    have hlk:locked af a=uR (some s):=by rw [c3.lk a];unfold locked;rw [h0]
    refine ⟨F0.sl a _ _ (by simp [e1]) (by simp [e2]),hlk,fun hk=>?_⟩
    have hr:=c3.rf a (by unfold locked;rw [h0];exact hk)
    have hd:(Ev.d7 fn ds)[a]?=some (some d):=by unfold Ev.d7;rw [List.getElem?_append_left (by simpa [←hlen] using ha)];simp [e2]
    rw [hd] at hr
    cases y2:af[a]? with
    | none=>unfold locked at hlk;rw [y2] at hlk;rw [←hlk] at hk;cases hk
    | some o=>
     have sr:=c3.f.sl a _ _ y2 hr
     unfold locked at hlk
     rw [y2,hk] at hlk
     rcases o with _ | s'
     ·cases hlk
     ·cases s' with
      | val v=>cases hlk
      | own l=>cases hlk
      | bor l=>obtain ⟨m,es,e,_,k1,k2⟩:=sr;cases e;exact ⟨m,es,l,_,rfl,k1,k2,rfl,rfl⟩
      | ro l=>obtain ⟨m,es,e,_,k1,k2⟩:=sr;cases e;exact ⟨m,es,l,_,rfl,k1,k2,rfl,rfl⟩
  simp only [Ev.run,z]
  have hl':ds.length=fn.np:=by omega
  rw [if_pos hl']
  split at e
  ·rename_i v' af y
   cases e
   obtain ⟨g',bF,M',h',S',c1,c2,c3,c4⟩:=fin y
   simp only [gu] at c2
   obtain ⟨d,rfl,c2⟩:=c2
   exact ⟨d,h',S',by simp only [Ev.endOf,c1,Ev.ak],c2,c3,c4⟩
  ·rename_i af y
   cases e
   obtain ⟨g',bF,M',h',S',c1,c2,c3,c4⟩:=fin y
   simp only [gu] at c2
   subst c2
   exact ⟨.aY,h',S',by simp only [Ev.endOf,c1,Ev.ak],rfl,c3,c4⟩
  ·cases e
end Pv
namespace Pv
open Ev (D O Hh Fn)
theorem Gi {F:List Fn}{w n f:Nat}{ns:List Int}(e:run F w n f [.val (.bS (ns.map V.int))]=some (.bl true,[])):∃ h',Ev.run F w n f [.ref 0] [.bS (ns.map D.int)]=.ok (.bl true) h':=by
 have F0:bB (fun _=>False) (fun _=>False) [O.bS (ns.map D.int)] (fun m=>m=0) ([Sl.val (.bS (ns.map V.int))].map some) ([D.ref 0].map some):=by
  refine ⟨fun m q=>⟨by subst q;simp,id,id⟩,fun m q=>q.elim,fun m q=>q.elim,rfl,fun i o p y1 y2=>?_,fun i j o o' m y1 y2 y3 y4 y5 y6=>?_⟩
  ·cases i with
   | zero=>
    simp at y1 y2;subst y1 y2
    refine ⟨.ref 0,rfl,?_⟩
    simp only [Rep]
    exact ⟨0,_,rfl,rfl,rfl,aq.map (f:=V.int) (g:=D.int) (fun _=>by simp [Rep]) ns⟩
   | succ i=>simp at y1
  ·cases i with
   | zero=>simp at y1;subst y1;cases y3
   | succ i=>simp at y1
 obtain ⟨d,h',S',a,b,_,_⟩:=zb F w n f _ _ _ e _ _ _ _ F0
 simp only [Rep] at b
 subst b
 exact ⟨h',a⟩
end Pv
namespace Pv
open Ev (D bW bQ TY BI ME T E Es Eo It S Ss Fn big deep b2i rep b6 dY bK aQ cut cG dW slots)
theorem bN {n:Nat}(h:n≤100000):n≤big:=Nat.le_trans h (by decide)
section
variable {i j:Int}{a b:List Nat}{x y:List V}{d e:V}{m n:Nat}{k l:Bool}
theorem cT (h:x.length≤big):dO x=some (.lst x):=by simp [dO,h]
theorem j3 (h:x.length≤big):jd x=some (.tup x):=by simp [jd,h]
@[simp] theorem fP:dO []=some (.lst []):=cT (bN (by simp))
@[simp] theorem wC:jd []=some (.tup []):=j3 (bN (by simp))
@[simp] theorem OQ {a}:dO [a]=some (.lst [a]):=cT (bN (by simp))
@[simp] theorem lZ {a}:jd [a]=some (.tup [a]):=j3 (bN (by simp))
@[simp] theorem OR {a b}:dO [a,b]=some (.lst [a,b]):=cT (bN (by simp))
@[simp] theorem iN {a b}:jd [a,b]=some (.tup [a,b]):=j3 (bN (by simp))
@[simp] theorem OS {a b c}:jd [a,b,c]=some (.tup [a,b,c]):=j3 (bN (by simp))
@[simp] theorem cj:bH .add (.int i) (.int j)=some (.int (i+j)):=nd rfl
theorem ku (h:a.length+b.length≤100000):bH .add (.str a) (.str b)=some (.str (a++b)):=by delta bH;dsimp only;simp [bN h]
theorem nu (h:x.length+y.length≤100000):bH .add (.tup x) (.tup y)=some (.tup (x++y)):=by delta bH;dsimp only;simp [bN h]
theorem A4 (h:x.length+y.length≤100000):bH .add (.lst x) (.lst y)=some (.lst (x++y)):=by delta bH;dsimp only;simp [cT (bN (show (x++y).length≤100000 by simpa using h))]
@[simp] theorem sH:bH .sub (.int i) (.int j)=some (.int (i - j)):=nd rfl
@[simp] theorem nv:bH .mul (.int i) (.int j)=if b6 i j then some (.int (i*j)) else none:=nd rfl
theorem A5 (h0:0≤j) (h1:j≤1000) (h2:a.length≤1000):bH .mul (.str a) (.int j)=some (.str (rep j.toNat a)):=by delta bH;dsimp only;simp [h0,h1,h2]
@[simp] theorem A6:bH .fdiv (.int i) (.int j)=if 0<j∧j<1073741824 then some (.int (i / j)) else none:=nd rfl
@[simp] theorem Gj:bH .mod (.int i) (.int j)=if 0<j then some (.int (i % j)) else none:=nd rfl
@[simp] theorem j4:cop .ne d e=(cJ deep d e).map (!·):=nd rfl
@[simp] theorem zc:cop .gg d e=(isin d e).map (!·):=nd rfl
@[simp] theorem Gk:mem d []=some false:=nd rfl
@[simp] theorem mem_cons:mem d (e :: x)=(cJ deep e d).bind fun b=>(mem d x).bind fun c=>some (b || c):=nd rfl
@[simp] theorem Kz:cJ (n+1) (.int i) (.int j)=some (decide (i=j)):=by show some (i==j)=_;by_cases h:i=j <;> simp [h]
@[simp] theorem sI:cJ (n+1) (.str a) (.str b)=some (decide (a=b)):=by show some (a==b)=_;by_cases h:a=b <;> simp [h]
@[simp] theorem KA:cJ (n+1) .aY .aY=some true:=nd rfl
@[simp] theorem Wx:cJ (n+1) (.str a) (.int i)=some false:=nd rfl
@[simp] theorem Wy:cJ (n+1) (.int i) (.str a)=some false:=nd rfl
@[simp] theorem Wz:cJ (n+1) (.tup x) (.tup y)=cg (cJ n) x y:=nd rfl
@[simp] theorem uX:cJ deep (.int i) (.int j)=some (decide (i=j)):=Kz
@[simp] theorem pT:cJ deep (.str a) (.str b)=some (decide (a=b)):=sI
@[simp] theorem Gm:cJ deep (.tup x) (.tup y)=cg (cJ (18+1)) x y:=nd rfl
@[simp] theorem pU:cJ deep (.lst x) (.lst y)=cg (cJ (18+1)) x y:=nd rfl
@[simp] theorem pV {f:V→V→Option Bool}:cg f [] []=some true:=nd rfl
@[simp] theorem WA {f:V→V→Option Bool}:cg f [] (d :: x)=some false:=nd rfl
@[simp] theorem WB {f:V→V→Option Bool}:cg f (d :: x) []=some false:=nd rfl
@[simp] theorem ny {f:V→V→Option Bool}:cg f (d :: x) (e :: y)=(f d e).bind fun b=>(cg f x y).bind fun c=>some (b&&c):=nd rfl
theorem mh {α:Type} [DecidableEq α] {f:V→V→Option Bool}{g:α→V}(h:∀ a b,f (g a) (g b)=some (decide (a=b))):∀ l m:List α,cg f (l.map g) (m.map g)=some (decide (l=m))
 | [],[]=>by simp
 | [],_ :: _=>by simp
 | _ :: _,[]=>by simp
 | a :: l,b :: m=>by simp [h,mh h l m]
@[simp] theorem pW:eZ (.str a) (.int i)=(bK a i).map fun c=>.str [c]:=nd rfl
@[simp] theorem Gn:eZ (.lst x) (.int i)=bK x i:=nd rfl
@[simp] theorem fQ {lo hi:Option Int}:eF (.str a) lo hi=some (.str (cut a lo hi)):=nd rfl
theorem len_str (h:a.length≤100000):cY .len [.str a]=some (.int a.length):=by delta cY;dsimp only;simp [bN h]
@[simp] theorem mj:cY .len [.lst x]=some (.int x.length):=nd rfl
@[simp] theorem uY:cY .len [.bS x]=some (.int x.length):=nd rfl
@[simp] theorem Gp:cY .sum [.lst x]=(intsOf x).map fun is=>.int is.sum:=nd rfl
@[simp] theorem KC:cY .min [.int i,.int j]=some (.int (if j<i then j else i)):=nd rfl
@[simp] theorem uZ:toT (.lst x)=jd x:=nd rfl
theorem KD (h0:0≤j) (h1:j≤100000):eU [.int j]=some (range 0 j.toNat):=by
 simp only [eU];rw [if_pos ⟨by omega,by omega⟩]
theorem wD {α:Type}(g:α→Int) (l:List α):intsOf (l.map fun x=>.int (g x))=some (l.map g):=by induction l <;> simp [intsOf, *]
theorem oO {α:Type}(g:α→List Nat) (l:List α):strsOf (l.map fun x=>.str (g x))=some (l.map g):=by induction l <;> simp [strsOf, *]
theorem qG:∀ l:List (List Nat),cG [] l=l.flatten
 | []=>rfl
 | [s]=>by simp [cG]
 | s :: t :: r=>by simp [cG,qG (t :: r)]
@[simp] theorem WC:truthy (.bl k)=k:=nd rfl
@[simp] theorem VN:truthy (.lst x) = !x.isEmpty:=nd rfl
theorem Dp {l:List (List Nat)}(h:l.flatten.length≤100000):er .join (.str []) [.lst (l.map V.str)]=some (.str l.flatten):=by
 have hs:=oO (fun x=>x) l
 have:(l.map (·.length)).sum≤big:=bN (by rw [←List.length_flatten];exact h)
 simp only [List.map_id'] at hs
 have hs':strsOf (l.map V.str)=some l:=by simpa using oO (fun x=>x) l
 delta er;dsimp only;simp [gW,hs',qG,this]
end
theorem iC {α:Type}{f:V→Option (Option V)}(e:α→V) (g:α→V) (l:List α) (h:∀ a∈l,f (e a)=some (some (g a))):cD f (l.map e)=some (l.map g):=by
 induction l with
 | nil=>rfl
 | cons a l ih=>simp only [List.map_cons,cD,h a (by simp),ih fun u hu=>h u (by simp [hu]),Option.bind];rfl
theorem lN {α:Type}{f:V→Option (Option V)}(e:α→V) (p:α→Bool) (g:α→V) (l:List α) (h:∀ a∈l,f (e a)=some (if p a then some (g a) else none)):cD f (l.map e)=some ((l.filter p).map g):=by
 induction l with
 | nil=>rfl
 | cons a l ih=>
  simp only [List.map_cons,cD,h a (by simp),ih fun u hu=>h u (by simp [hu]),Option.bind]
  cases z:p a <;> simp [z]
noncomputable def Wp {α:Type}(r:R α) (Q:α→Fr→Prop):Prop:=∃ a h,r=.ok a h∧Q a h
section
variable {α β:Type}{Q Q':α→Fr→Prop}
@[simp] theorem oQ (a:α) (h:Fr):Wp (.ok a h) Q=Q a h:=propext ⟨fun ⟨_,_,e,q⟩=>by cases e;exact q,fun q=>⟨_,_,rfl,q⟩⟩
@[simp] theorem WD:Wp (.bad:R α) Q=False:=propext ⟨fun q=>(by obtain ⟨_,_,e,_⟩:=q;cases e),False.elim⟩
@[simp] theorem wp_bind (r:R β) (f:β→Fr→R α):Wp (r.bind f) Q=Wp r fun a h=>Wp (f a h) Q:=by cases r <;> simp
theorem Wp.mono {r:R α}(h:Wp r Q) (f:∀ a h,Q a h→Q' a h):Wp r Q':=by
 obtain ⟨a,h',e,q⟩:=h
 exact ⟨a,h',e,f a h' q⟩
end
noncomputable def fl (I Q:Fr→Prop) (X:V→Fr→Prop):Fl→Fr→Prop
 | .nx,fr=>I fr
 | .ct,fr=>I fr
 | .bk,fr=>Q fr
 | .ret v,fr=>X v fr
section
variable {I J:Fr→Prop}{X:V→Fr→Prop}{fr:Fr}{v:V}
@[simp] theorem cL:fl I J X .nx fr=I fr:=nd rfl
end
theorem eH {α:Type}{e:α→V}{f:V→Fr→R Fl}{Q:Fl→Fr→Prop}(I:List α→List α→Fr→Prop) (turn:∀ p a l fr,I p (a :: l) fr→Wp (f (e a) fr) (fl (I (p++[a]) l) (Q .nx) fun v=>Q (.ret v))) (fin:∀ p fr,I p [] fr→Q .nx fr):∀ (l p:List α) (fr:Fr),I p l fr→Wp (forL f (l.map e) fr) Q
 | [],p,fr,i=>by simp only [List.map_nil,forL,oQ];exact fin p fr i
 | a :: l,p,fr,i=>by
  simp only [List.map_cons,forL,wp_bind]
  refine (turn p a l fr i).mono fun g h2 q=>?_
  cases g with
  | nx=>exact eH I turn fin l _ h2 q
  | ct=>exact eH I turn fin l _ h2 q
  | bk=>exact (oQ _ _).mpr q
  | ret x=>exact (oQ _ _).mpr q
theorem u5 {f:V→Fr→R Fl}{Q:Fl→Fr→Prop}{lo:Int}{N:Nat}(I:Nat→Fr→Prop) (turn:∀ (k:Nat) fr,k<N→I k fr→Wp (f (.int (lo+(k:Nat))) fr) (fl (I (k+1)) (Q .nx) fun v=>Q (.ret v))) (fin:∀ fr,I N fr→Q .nx fr) {fr:Fr}(i:I 0 fr):Wp (forL f (range lo N) fr) Q:=by
 have h:=eH (e:=fun (k:Nat)=>V.int (lo+k)) (f:=f) (Q:=Q) (fun p l fr=>∃ k,k≤N∧p=List.range k∧p++l=List.range N∧I k fr)
  (fun p a l fr ⟨k,hk,hp,hl,q⟩=>by
   subst hp
   have hlen:=congrArg List.length hl
   simp at hlen
   have ha:a=k:=by
    have:=congrArg (·[k]?) hl
    simp [List.getElem?_append_right] at this
    rw [List.getElem?_range (by omega)] at this
    simpa using this
   subst ha
   refine (turn a fr (by omega) q).mono fun g h2 z=>?_
   cases g with
   | nx=>exact ⟨a+1,by omega,by simp [List.range_succ],by simpa using hl,z⟩
   | ct=>exact ⟨a+1,by omega,by simp [List.range_succ],by simpa using hl,z⟩
   | bk=>exact z
   | ret x=>exact z)
  (fun p fr ⟨k,hk,hp,hl,q⟩=>by
   subst hp
   have hlen:=congrArg List.length hl
   simp at hlen
   subst hlen
   exact fin fr q) (List.range N) [] fr ⟨0,Nat.zero_le _,rfl,by simp,i⟩
 exact h
theorem sJ {t:Fr→R Bool}{f:Fr→R Fl}{Q:Fl→Fr→Prop}(I:Nat→Fr→Prop) (turn:∀ k fr,I k fr→Wp (t fr) fun b af=>if b then Wp (f af) (fl (fun au=>∃ j,j<k∧I j au) (Q .nx) fun v=>Q (.ret v)) else Q .nx af):∀ (n k:Nat) (fr:Fr),k<n→I k fr→Wp (dN t f n fr) Q
 | 0,k,fr,hk,_=>by omega
 | n+1,k,fr,hk,i=>by
  simp only [dN,wp_bind]
  refine (turn k fr i).mono fun b af q=>?_
  cases b with
  | false=>simpa using q
  | true=>
   simp only [if_true,wp_bind] at q ⊢
   refine q.mono fun g au z=>?_
   cases g with
   | nx=>obtain ⟨j,hj,z⟩:=z;exact sJ I turn n j au (by omega) z
   | ct=>obtain ⟨j,hj,z⟩:=z;exact sJ I turn n j au (by omega) z
   | bk=>exact (oQ _ _).mpr z
   | ret x=>exact (oQ _ _).mpr z
noncomputable def fin (np:Nat):R Fl→Option (V×List (List V))
 | .ok (.ret v) fr=>some (v,outs np fr)
 | .ok .nx fr=>some (.aY,outs np fr)
 | _=>none
@[simp] theorem Gq {np:Nat} {v:V} {fr:Fr}:fin np (.ok (.ret v) fr)=some (v,outs np fr):=nd rfl
theorem run_eq {F:List Fn}{w n f:Nat}{ds:List Sl}{fn:Fn}(hf:F[f]?=some fn) (hl:ds.length=fn.np):run F w (n+1) f ds=fin fn.np (exs (run F w n) w fn.body (d7 fn ds)):=by
 simp only [run,hf,hl,if_true]
 cases exs (run F w n) w fn.body (d7 fn ds) with
 | bad=>rfl
 | ok g fr=>cases g <;> rfl
theorem bT {F:List Fn}{w n f:Nat}{ds:List Sl}{fn:Fn}{v:V}{os:List (List V)}(hf:F[f]?=some fn) (hl:ds.length=fn.np) (q:Wp (exs (run F w n) w fn.body (d7 fn ds)) fun g fr=>g=.ret v∧outs fn.np fr=os):run F w (n+1) f ds=some (v,os):=by
 rw [run_eq hf hl]
 obtain ⟨g,fr,e,rfl,rfl⟩:=q
 rw [e];rfl
section
variable {P:aR}{w:Nat}{fr:Fr}{k:Bool}{a b c:E}{es:Es}{ss sa sb:Ss}{st:S}{lo hi:Eo}{it:It}
@[simp] theorem T5 {d:D}:ev P k (.c d) fr=R.of (ofD d) fr:=by rw [ev]
@[simp] theorem T6 {i:Nat}:ev P k (.v i) fr=R.of (lE k fr i) fr:=by rw [ev]
@[simp] theorem KG:ev P k (.tup es) fr=(b5 P false es fr).bind fun ds af=>R.of (jd ds) af:=by rw [ev]
@[simp] theorem KH:ev P k (.lst es) fr=(b5 P false es fr).bind fun ds af=>R.of (dO ds) af:=by rw [ev]
@[simp] theorem KI {o:bW}:ev P k (.bin o a b) fr=(ev P (kf a (bE b)) a fr).bind fun x af=>(ev P true b af).bind fun y au=>R.of (bH o x y) au:=by rw [ev]
@[simp] theorem KJ {o:bQ}:ev P k (.cmp o a b) fr=(ev P (kf a (bE b)) a fr).bind fun x af=>(ev P true b af).bind fun y au=>R.of ((cop o x y).map .bl) au:=by rw [ev]
noncomputable def WE:V→Fr→R V:=fun x h1=>match x with
 | .bl b=>.ok (.bl (!b)) h1
 | _=>.bad
@[simp] theorem OT:ev P k (.nt a) fr=(ev P true a fr).bind WE:=by rw [ev];rfl
noncomputable def T7:V→Fr→R V:=fun x h1=>match x with
 | .int i=>.ok (.int (-i)) h1
 | _=>.bad
@[simp] theorem KL:ev P k (.neg a) fr=(ev P true a fr).bind T7:=by rw [ev];rfl
noncomputable def QF (r:Fr→R V):V→Fr→R V:=fun x h1=>match x with
 | .bl true=>r h1
 | .bl false=>.ok (.bl false) h1
 | _=>.bad
@[simp] theorem KN {k:Bool} {r:Fr→R V}:QF r (.bl k) fr=if k then r fr else .ok (.bl false) fr:=by cases k <;> rfl
@[simp] theorem OU:ev P k (.an a b) fr=(ev P true a fr).bind (QF fun h1=>ev P k b h1):=by rw [ev];rfl
@[simp] theorem KO:ev P k (.gT a b c) fr=(aK P a fr).bind fun t af=>if t then ev P k b af else ev P k c af:=by rw [ev]
@[simp] theorem OV:ev P k (.ix a b) fr=(ev P (kf a (bE b)) a fr).bind fun x af=>(ev P true b af).bind fun y au=>R.of (eZ x y) au:=by rw [ev]
@[simp] theorem OW:ev P k (.sl a lo hi) fr=(ev P (kf a (jN lo++jN hi)) a fr).bind fun x af=>(ff P lo af).bind fun l au=>(ff P hi au).bind fun u cB=>R.of (eF x l u) cB:=by rw [ev]
@[simp] theorem OX {f:Nat}:ev P k (.cl f es) fr=(fh P es fr).bind fun as af=>fO P f as af:=by rw [ev]
@[simp] theorem OY {g:BI}:ev P k (.bi g es) fr=(b5 P true es fr).bind fun ds af=>R.of (cY g ds) af:=by rw [ev]
noncomputable def A7 (m:ME) (i:Nat):List V→Fr→R V:=fun ds af=>match af[i]? with
 | some (some (.own l))=>match jt m l ds with
  | some (v,l')=>.ok v (af.set i (some (.own l')))
  | none=>.bad
 | some (some (.bor l))=>match jt m l ds with
  | some (v,l')=>.ok v (af.set i (some (.bor l')))
  | none=>.bad
 | _=>.bad
theorem KP {m:ME}{i:Nat}(hm:iu m=true):ev P k (.me m (.v i) es) fr=if (lent fr i).isSome then (b5 P (yN m) es fr).bind (A7 m i) else .bad:=by
 rw [ev,if_pos hm]
 unfold jX
 cases z:(lent fr i).isSome <;> simp [z] <;> rfl
theorem KQ {m:ME}(hm:iu m=false):ev P k (.me m a es) fr=(ev P (kf a (fz es)) a fr).bind fun x af=>(b5 P true es af).bind fun ds au=>R.of (er m x ds) au:=by rw [ev,hm];rfl
noncomputable def jw (P:aR) (elt:E) (t:T) (cond:Eo) (fr:Fr):V→Option (Option V):=fun d=>match b7 t d (qF fr) with
 | none=>none
 | some au=>match gF P cond au with
  | .ok c _=>if c then (match ev P false elt au with | .ok x _=>some (some x) | .bad=>none) else some none
  | .bad=>none
@[simp] theorem pL {elt:E} {t:T} {cond:Eo}:ev P k (.comp elt t it cond) fr=(cy P true it fr).bind fun s af=>if undef t af then R.of ((cD (jw P elt t cond af) s).bind dO) af else .bad:=by rw [ev];rfl
@[simp] theorem KR:ev P k (.iH it) fr=(cy P true it fr).bind fun s af=>R.of (dO s) af:=by rw [ev]
@[simp] theorem Gr {kvs:List (D×D)}:ev P k (.kX kvs a) fr=(ev P true a fr).bind fun x af=>R.of (gE x kvs) af:=by rw [ev]
@[simp] theorem KS:ev P k (.jq a) fr=(ev P true a fr).bind fun x af=>R.of (toT x) af:=by rw [ev]
@[simp] theorem Gs:b5 P k .nil fr=.ok [] fr:=by rw [b5]
@[simp] theorem A8:b5 P k (.cons a es) fr=(ev P (k&&kf a (fz es)) a fr).bind fun d af=>(b5 P k es af).bind fun ds au=>.ok (d :: ds) au:=by rw [b5]
@[simp] theorem Gu:fh P .nil fr=.ok [] fr:=by rw [fh]
noncomputable def wF (P:aR) (a:E) (es:Es) (fr:Fr):Option Nat→R (List (Nat ⊕ V))
 | some i=>(fh P es fr).bind fun r af=>.ok (.inl i :: r) af
 | none=>(ev P false a fr).bind fun d af=>(fh P es af).bind fun r au=>.ok (.inr d :: r) au
@[simp] theorem wG {i:Nat}:wF P a es fr (some i)=(fh P es fr).bind fun r af=>.ok (.inl i :: r) af:=nd rfl
@[simp] theorem wH:wF P a es fr none=(ev P false a fr).bind fun d af=>(fh P es af).bind fun r au=>.ok (.inr d :: r) au:=nd rfl
@[simp] theorem sL:fh P (.cons a es) fr=wF P a es fr (jX fr a):=by rw [fh];cases jX fr a <;> rfl
@[simp] theorem KU:ff P .no fr=.ok none fr:=by rw [ff]
@[simp] theorem Gv:ff P (.yes a) fr=(ev P true a fr).bind fun d af=>R.of ((intOf d).map some) af:=by rw [ff]
@[simp] theorem KW:gF P .no fr=.ok true fr:=by rw [gF]
@[simp] theorem Gw:gF P (.yes a) fr=aK P a fr:=by rw [gF]
@[simp] theorem zd:aK P (.an a b) fr=(aK P a fr).bind fun k af=>if k then aK P b af else .ok false af:=by rw [aK]
@[simp] theorem u6:aK P (.orr a b) fr=(aK P a fr).bind fun k af=>if k then .ok true af else aK P b af:=by rw [aK]
@[simp] theorem KY:aK P (.nt a) fr=(aK P a fr).bind fun k af=>.ok (!k) af:=by rw [aK]
noncomputable def KZ:V→Fr→R Bool:=fun x af=>.ok (truthy x) af
@[simp] theorem Gx {x:V}:KZ x fr=.ok (truthy x) fr:=nd rfl
@[simp] theorem Gy:cy P k (.seq a) fr=(src k fr a (ev P k a fr)).bind fun x af=>R.of (fN x) af:=by rw [cy]
@[simp] theorem Gz:cy P k (.gR es) fr=(b5 P true es fr).bind fun ds af=>R.of (eU ds) af:=by rw [cy]
@[simp] theorem u7:cy P k (.zip a b) fr=(src (k&&kf a (bE b)) fr a (ev P (k&&kf a (bE b)) a fr)).bind fun x af=>(src k af b (ev P k b af)).bind fun y au=>R.of ((gW x).bind fun s=>(gW y).map fun t=>dM s t) au:=by rw [cy]
@[simp] theorem GA:cy P k (.rev a) fr=(ev P true a fr).bind fun x af=>R.of ((wo x).map fun s=>s.reverse) af:=by rw [cy]
noncomputable def K0 (i:Nat) (af:Fr):V→R Fl
 | .lst l=>(R.of (put af i (.own l)) af).bind fun au _=>.ok .nx au
 | _=>.bad
@[simp] theorem A9 {i:Nat} {l:List V}:K0 i fr (.lst l)=(R.of (put fr i (.own l)) fr).bind fun au _=>.ok .nx au:=nd rfl
@[simp] theorem ze {i:Nat}:ex P w (.set i a) fr=(ev P false a fr).bind fun x af=>if isNew a then K0 i af x else (R.of (put af i (.val x)) af).bind fun au _=>.ok .nx au:=by
 rw [ex];rfl
@[simp] theorem K1:ex P w (.exp a) fr=(ev P true a fr).bind fun _ af=>.ok .nx af:=by rw [ex]
@[simp] theorem K3:ex P w (.ret a) fr=(ev P false a (ez fr)).bind fun x af=>.ok (.ret x) af:=by rw [ex]
@[simp] theorem K4:ex P w (.iff a sa sb) fr=(aK P a fr).bind fun k af=>if k then exs P w sa af else exs P w sb af:=by rw [ex]
@[simp] theorem K5:ex P w .cnt fr=.ok .ct fr:=by rw [ex]
noncomputable def turnF (P:aR) (w:Nat) (t:T) (b:Ss):V→Fr→R Fl:=fun d au=>match b7 t d au with
 | some cB=>exs P w b cB
 | none=>.bad
@[simp] theorem rS {t:T}:ex P w (.for t it ss) fr=(cy P false it (qS (itv it) fr)).bind fun s af=>forL (turnF P w t ss) s af:=by rw [ex];rfl
@[simp] theorem K6:ex P w (.nW a ss) fr=dN (fun au=>aK P a au) (fun au=>exs P w ss au) w fr:=by rw [ex]
@[simp] theorem GB:exs P w .nil fr=.ok .nx fr:=by rw [exs]
noncomputable def OZ (P:aR) (w:Nat) (ss:Ss):Fl→Fr→R Fl:=fun p h1=>match p with
 | .nx=>exs P w ss h1
 | p=>.ok p h1
@[simp] theorem Ba:exs P w (.cons st ss) fr=(ex P w st fr).bind (OZ P w ss):=by rw [exs];rfl
end
theorem jx {P:aR}{f:Nat}{vs:List V}{fr:Fr}{v:V}(h:P f (vs.map .val)=some (v,[])):fO P f (vs.map .inr) fr=.ok v fr:=by
 have h1:∀ vs:List V,bM (vs.map .inr)=[]:=fun vs=>by induction vs <;> simp [bM, *]
 have h2:∀ vs:List V,args fr (vs.map .inr)=some (vs.map .val):=fun vs=>by induction vs <;> simp [args, *]
 simp [fO,h1,h2,h,back]
section
variable {P:aR}{f:Nat}{fr:Fr}{a b c d v:V}
theorem di (h:P f [.val a]=some (v,[])):fO P f [.inr a] fr=.ok v fr:=jx (vs:=[a]) h
theorem call2 (h:P f [.val a,.val b]=some (v,[])):fO P f [.inr a,.inr b] fr=.ok v fr:=jx (vs:=[a,b]) h
theorem eW (h:P f [.val a,.val b,.val c]=some (v,[])):fO P f [.inr a,.inr b,.inr c] fr=.ok v fr:=jx (vs:=[a,b,c]) h
theorem O0 (h:P f [.val a,.val b,.val c,.val d]=some (v,[])):fO P f [.inr a,.inr b,.inr c,.inr d] fr=.ok v fr:=jx (vs:=[a,b,c,d]) h
end
end Pv
namespace Pv
open Ev (D bW bQ TY BI ME T E Es Eo It S Ss Fn big deep b2i rep b6 dY bK aQ cut cG dW slots)
section
variable {fr:Fr}{i j:Nat}{k:Bool}{s:Sl}{v u:V}{l:List V}{o:Option Sl}
noncomputable def X4 (k:Bool):Option (Option Sl)→Option V
 | some (some (.val v))=>some v
 | some (some (.own l))=>if k then some (.lst l) else none
 | some (some (.bor l))=>if k then some (.lst l) else none
 | some (some (.ro l))=>if k then some (.lst l) else none
 | _=>none
@[simp] theorem O1 {r:R V}:src k fr (.v i) r=R.of (wu k fr i) fr:=nd rfl
noncomputable def K7:Option (Option Sl)→Option Sl
 | some (some s)=>s.lend
 | _=>none
@[simp] theorem GC:lent fr i=K7 fr[i]?:=by unfold lent K7;split <;> simp_all
@[simp] theorem VO:K7 (some (some (.own l)))=some (.bor l):=nd rfl
noncomputable def K8 (fr:Fr) (i:Nat) (s:Sl):Option (Option Sl)→Option Fr
 | some (some (.bor _))=>none
 | some (some (.ro _))=>none
 | _=>some (fr.set i (some s))
@[simp] theorem K9:put fr i s=K8 fr i s fr[i]?:=by unfold put K8;split <;> simp_all
@[simp] theorem wI {l:List Nat} {x:List V}:b7 (.many l) (.tup x) fr=cF l x fr:=nd rfl
@[simp] theorem wJ:cF [] [] fr=some fr:=nd rfl
@[simp] theorem t6 {l:List Nat} {x:List V}:cF (i :: l) (v :: x) fr=(put fr i (.val v)).bind (cF l x):=nd rfl
noncomputable def gb (m:ME) (i:Nat) (ds:List V) (fr:Fr):Option (Option Sl)→R V
 | some (some (.own l))=>match jt m l ds with
  | some (v,l')=>.ok v (fr.set i (some (.own l')))
  | none=>.bad
 | some (some (.bor l))=>match jt m l ds with
  | some (v,l')=>.ok v (fr.set i (some (.bor l')))
  | none=>.bad
 | _=>.bad
@[simp] theorem GD {m:ME} {ds:List V}:A7 m i ds fr=gb m i ds fr fr[i]?:=by unfold A7 gb;split <;> simp_all <;> rfl
theorem j5 {d:V}(h:l.length<100000):gb .append i [d] fr (some (some (.own l)))=.ok .aY (fr.set i (some (.own (l++[d])))):=by
 simp [gb,jt,Nat.lt_of_lt_of_le h (show 100000≤big by decide)]
theorem GF {d:V}(h:l.length<100000):gb .append i [d] fr (some (some (.bor l)))=.ok .aY (fr.set i (some (.bor (l++[d])))):=by
 simp [gb,jt,Nat.lt_of_lt_of_le h (show 100000≤big by decide)]
theorem iS {d:List V}(h:l.length+d.length≤100000):gb .extend i [.lst d] fr (some (some (.own l)))=.ok .aY (fr.set i (some (.own (l++d)))):=by
 simp [gb,jt,bN h]
theorem pX:gb .pop i [] fr (some (some (.own (l++[v]))))=.ok v (fr.set i (some (.own l))):=by
 simp [gb,jt]
theorem GG:gb .pop i [] fr (some (some (.bor (l++[v]))))=.ok v (fr.set i (some (.bor l))):=by
 simp [gb,jt]
end
noncomputable def vo (o:Option Sl):Prop:=o=none∨∃ y,o=some (.val y)
theorem vo.none:vo none:=.inl rfl
theorem vo.val {v:V}:vo (some (.val v)):=.inr ⟨v,rfl⟩
theorem La {fr:Fr}{i:Nat}{s:Sl}{b:Option Sl}(h:vo b):K8 fr i s (some b)=some (fr.set i (some s)):=by rcases h with rfl | ⟨y,rfl⟩ <;> rfl
theorem bX {b:Option Sl}(h:vo b):b.map Sl.cZ=b:=by rcases h with rfl | ⟨y,rfl⟩ <;> rfl
noncomputable def O2 (f:V→Fr→R Fl) (ds:List V):Fl→Fr→R Fl:=fun p af=>match p with
 | .nx=>forL f ds af
 | .ct=>forL f ds af
 | .bk=>.ok .nx af
 | .ret x=>.ok (.ret x) af
section
variable {f:V→Fr→R Fl}{ds:List V}{d x:V}{fr:Fr}
@[simp] theorem qu:forL f (d :: ds) fr=(f d fr).bind (O2 f ds):=nd rfl
end
section
variable {a b c:E}{es:Es}{lo hi:Eo}{it:It}{l:List Nat}
end
theorem sM {α:Type}{l:List α}{i:Int}(h0:0≤i):bK l i=l[i.toNat]?:=by
 unfold bK dY
 rw [if_pos h0]
 split
 ·rfl
 ·rw [List.getElem?_eq_none (by omega)];rfl
@[simp] theorem uo {α:Type} {l:List α} {n:Nat}:bK l (n:Int)=l[n]?:=by rw [sM (by omega)];simp
theorem zf {α:Type}{l:List α}:bK l (-1:Int)=l.getLast?:=by
 unfold bK dY
 cases l with
 | nil=>rfl
 | cons a l=>
  have h1:¬ (0:Int)≤-1:=by omega
  have h2:-(((a :: l).length:Nat):Int)≤-1:=by simp;omega
  rw [if_neg h1,if_pos h2,List.getLast?_eq_getElem?]
  simp only [Option.bind]
  congr 1
  simp;omega
noncomputable def qU:Fn:=⟨2,2,(.cons (.iff (.cmp .eq (.v 0) (.lst .nil)) (.cons (.ret (.bin .mul (.c (.int 7)) (.v 1))) .nil) .nil) (.cons (.ret (.bin .add (.ix (.v 0) (.bin .mod (.v 1) (.bi .len (.cons (.v 0) .nil)))) (.bin .mul (.c (.int 6553)) (.bin .fdiv (.v 1) (.bi .len (.cons (.v 0) .nil)))))) .nil))⟩
noncomputable def sN (c:Nat):Fn:=⟨3,4,(.cons (.set 3 (.bin .mod (.bin .add (.bin .mul (.bin .mod (.cl c (.cons (.v 0) (.cons (.v 1) .nil))) (.c (.int 2147483563))) (.c (.int 69069))) (.bin .mul (.c (.int 104723)) (.bin .add (.v 1) (.c (.int 1))))) (.c (.int 2147483563)))) (.cons (.set 3 (.bin .mod (.bin .add (.bin .mul (.v 3) (.v 3)) (.bin .fdiv (.v 3) (.c (.int 3)))) (.c (.int 2147483399)))) (.cons (.ret (.bin .mod (.bin .fdiv (.bin .mod (.bin .add (.bin .mul (.v 3) (.v 3)) (.bin .fdiv (.v 3) (.c (.int 7)))) (.c (.int 2147483647))) (.c (.int 11))) (.v 2))) .nil)))⟩
noncomputable def qV (ns:List Int) (k:Int):Int:=if ns=[] then 7*k else (ns[(k % ns.length).toNat]?.getD 0)+6553*(k / ns.length)
noncomputable def cE (ns:List Int) (k many:Int):Int:=
 let c:=(qV ns k % 2147483563*69069+104723*(k+1)) % 2147483563
 let c:=(c*c+c / 3) % 2147483399
 (c*c+c / 7) % 2147483647 / 11 % many
theorem jg (ns:List Int) (k:Int) {many:Int}(h:0<many):0≤cE ns k many:=Int.emod_nonneg _ (by omega)
theorem jh (ns:List Int) (k:Int) {many:Int}(h:0<many):cE ns k many<many:=Int.emod_lt_of_pos _ h
noncomputable def fk (ns:List Int):V:=.bS (ns.map V.int)
theorem GH (ns:List Int):cg (cJ (18+1)) (ns.map V.int) []=some (decide (ns=[])):=by cases ns <;> simp
end Pv
namespace Pv
open Ev (D bW bQ TY BI ME T E Es Eo It S Ss Fn big deep b2i rep b6 dY bK aQ cut cG dW slots)
section
variable {P:aR}{w:Nat}{fr af au cB iI:Fr}{k b:Bool}{a e c:E}{es:Es}{ss sa sb:Ss}{st:S}{lo hi:Eo}{it:It}{v x y z:V}{vs:List V}{i:Nat}{l:List V}{Q:Fl→Fr→Prop}
theorem aV {d:D}(h:ofD d=some v):ev P k (.c d) fr=.ok v fr:=by rw [T5,h];rfl
theorem av (h:lE k fr i=some v):ev P k (.v i) fr=.ok v fr:=by rw [T6,h];rfl
theorem eB (h:b5 P false es fr=.ok vs af) (h2:jd vs=some v):ev P k (.tup es) fr=.ok v af:=by rw [KG,h,ak,h2];rfl
theorem gO (h:b5 P false es fr=.ok vs af) (h2:dO vs=some v):ev P k (.lst es) fr=.ok v af:=by rw [KH,h,ak,h2];rfl
theorem bf {o:bW}(h:ev P (kf a (bE e)) a fr=.ok x af) (h2:ev P true e af=.ok y au) (h3:bH o x y=some v):ev P k (.bin o a e) fr=.ok v au:=by rw [KI,h,ak,h2,ak,h3];rfl
theorem bD {o:bQ}(h:ev P (kf a (bE e)) a fr=.ok x af) (h2:ev P true e af=.ok y au) (h3:cop o x y=some b):ev P k (.cmp o a e) fr=.ok (.bl b) au:=by rw [KJ,h,ak,h2,ak,h3];rfl
theorem T8 (h:ev P true a fr=.ok (.bl b) af):ev P k (.nt a) fr=.ok (.bl (!b)) af:=by rw [OT,h];rfl
theorem wK {j:Int}(h:ev P true a fr=.ok (.int j) af):ev P k (.neg a) fr=.ok (.int (-j)) af:=by rw [KL,h];rfl
theorem O3 (h:ev P true a fr=.ok (.bl true) af) (h2:ev P k e af=.ok v au):ev P k (.an a e) fr=.ok v au:=by rw [OU,h,ak,KN];exact h2
theorem jy (h:aK P a fr=.ok b af) (h2:b=true→ev P k e af=.ok v au) (h3:b=false→ev P k c af=.ok v au):ev P k (.gT a e c) fr=.ok v au:=by
 rw [KO,h,ak]
 cases b with
 | true=>exact h2 rfl
 | false=>exact h3 rfl
theorem dc (h:ev P (kf a (bE e)) a fr=.ok x af) (h2:ev P true e af=.ok y au) (h3:eZ x y=some v):ev P k (.ix a e) fr=.ok v au:=by rw [OV,h,ak,h2,ak,h3];rfl
theorem nA {p q:Option Int}(h:ev P (kf a (jN lo++jN hi)) a fr=.ok x af) (h2:ff P lo af=.ok p au) (h3:ff P hi au=.ok q cB) (h4:eF x p q=some v):ev P k (.sl a lo hi) fr=.ok v cB:=by rw [OW,h,ak,h2,ak,h3,ak,h4];rfl
theorem bJ {f:Nat}{as:List (Nat ⊕ V)}(h:fh P es fr=.ok as af) (h2:fO P f as af=.ok v au):ev P k (.cl f es) fr=.ok v au:=by rw [OX,h,ak];exact h2
theorem fW {g:BI}(h:b5 P true es fr=.ok vs af) (h2:cY g vs=some v):ev P k (.bi g es) fr=.ok v af:=by rw [OY,h,ak,h2];rfl
theorem jz {m:ME}(hm:iu m=true) (hl:(lent fr i).isSome=true) (h:b5 P (yN m) es fr=.ok vs af) (h2:gb m i vs af af[i]?=.ok v au):ev P k (.me m (.v i) es) fr=.ok v au:=by
 rw [KP hm,if_pos hl,h,ak,GD];exact h2
theorem Dq {m:ME}(hm:iu m=false) (h:ev P (kf a (fz es)) a fr=.ok x af) (h2:b5 P true es af=.ok vs au) (h3:er m x vs=some v):ev P k (.me m a es) fr=.ok v au:=by rw [KQ hm,h,ak,h2,ak,h3];rfl
theorem gP {t:T}{cond:Eo}(h:cy P true it fr=.ok vs af) (hu:undef t af=true) (h2:cD (jw P a t cond af) vs=some l) (h3:dO l=some v):ev P k (.comp a t it cond) fr=.ok v af:=by
 rw [pL,h,ak,if_pos hu,h2]
 show R.of (dO l) af=_
 rw [h3];rfl
theorem wL (h:cy P true it fr=.ok vs af) (h2:dO vs=some v):ev P k (.iH it) fr=.ok v af:=by rw [KR,h,ak,h2];rfl
theorem Lb {kvs:List (D×D)}(h:ev P true a fr=.ok x af) (h2:gE x kvs=some v):ev P k (.kX kvs a) fr=.ok v af:=by rw [Gr,h,ak,h2];rfl
theorem wN (h:ev P true a fr=.ok x af) (h2:toT x=some v):ev P k (.jq a) fr=.ok v af:=by rw [KS,h,ak,h2];rfl
theorem aO:b5 P k .nil fr=.ok [] fr:=Gs
theorem aI (h:ev P (k&&kf a (fz es)) a fr=.ok v af) (h2:b5 P k es af=.ok vs au):b5 P k (.cons a es) fr=.ok (v :: vs) au:=by rw [A8,h,ak,h2];rfl
theorem aX:fh P .nil fr=.ok [] fr:=Gu
theorem aJ {as:List (Nat ⊕ V)}(hi:jX fr a=none) (h:ev P false a fr=.ok v af) (h2:fh P es af=.ok as au):fh P (.cons a es) fr=.ok (.inr v :: as) au:=by rw [sL,hi,wH,h,ak,h2];rfl
theorem T9 {as:List (Nat ⊕ V)}(hi:jX fr a=some i) (h2:fh P es fr=.ok as au):fh P (.cons a es) fr=.ok (.inl i :: as) au:=by rw [sL,hi,wG,h2];rfl
theorem qW:ff P .no fr=.ok none fr:=KU
theorem gc {j:Int}(h:ev P true a fr=.ok (.int j) af):ff P (.yes a) fr=.ok (some j) af:=by rw [Gv,h];rfl
theorem oR (h:aK P a fr=.ok false af):aK P (.an a e) fr=.ok false af:=by rw [zd,h];rfl
theorem gf {b2:Bool}(h:aK P a fr=.ok true af) (h2:aK P e af=.ok b2 au):aK P (.an a e) fr=.ok b2 au:=by rw [zd,h];exact h2
theorem zg (h:aK P a fr=.ok true af):aK P (.orr a e) fr=.ok true af:=by rw [u6,h];rfl
theorem j6 {b2:Bool}(h:aK P a fr=.ok false af) (h2:aK P e af=.ok b2 au):aK P (.orr a e) fr=.ok b2 au:=by rw [u6,h];exact h2
theorem Dr (h:aK P a fr=.ok b af):aK P (.nt a) fr=.ok (!b) af:=by rw [KY,h];rfl
noncomputable def plainT:E→Bool
 | .an _ _=>false
 | .orr _ _=>false
 | .nt _=>false
 | _=>true
theorem aD (hp:plainT a=true) (h:ev P true a fr=.ok x af) (h2:truthy x=b):aK P a fr=.ok b af:=by
 have:aK P a fr=(ev P true a fr).bind KZ:=by
  cases a <;> first | (cases hp;done) | (rw [aK];rfl;all_goals (intros;contradiction))
 rw [this,h,ak,Gx,h2]
theorem dR (h:src k fr a (ev P k a fr)=.ok x af) (h2:fN x=some vs):cy P k (.seq a) fr=.ok vs af:=by rw [Gy,h,ak,h2];rfl
theorem cU (h:wu k fr i=some v) {r:R V}:src k fr (.v i) r=.ok v fr:=by rw [O1,h];rfl
theorem sO (h:b5 P true es fr=.ok vs af) (h2:eU vs=some l):cy P k (.gR es) fr=.ok l af:=by rw [Gz,h,ak,h2];rfl
theorem zh (h:ev P true a fr=.ok x af) (h2:wo x=some vs):cy P k (.rev a) fr=.ok vs.reverse af:=by rw [GA,h,ak,h2];rfl
theorem aS (h:ev P false a fr=.ok v af) (hn:isNew a=false) (hp:put af i (.val v)=some au) (q:Q .nx au):Wp (ex P w (.set i a) fr) Q:=by
 rw [ze,h,ak,hn,hp];exact ⟨_,_,rfl,q⟩
theorem fD (h:ev P false a fr=.ok (.lst l) af) (hn:isNew a=true) (hp:put af i (.own l)=some au) (q:Q .nx au):Wp (ex P w (.set i a) fr) Q:=by
 rw [ze,h,ak,hn,if_pos rfl,A9,hp];exact ⟨_,_,rfl,q⟩
theorem d9 (h:ev P true a fr=.ok v af) (q:Q .nx af):Wp (ex P w (.exp a) fr) Q:=by rw [K1,h];exact ⟨_,_,rfl,q⟩
theorem bI (h:ev P false a (ez fr)=.ok v af) (q:Q (.ret v) af):Wp (ex P w (.ret a) fr) Q:=by rw [K3,h];exact ⟨_,_,rfl,q⟩
theorem aF (h:aK P a fr=.ok b af) (h2:b=true→Wp (exs P w sa af) Q) (h3:b=false→Wp (exs P w sb af) Q):Wp (ex P w (.iff a sa sb) fr) Q:=by
 rw [K4,h,ak]
 cases b with
 | true=>exact h2 rfl
 | false=>exact h3 rfl
theorem ay (q:Q .nx fr):Wp (exs P w .nil fr) Q:=by rw [GB];exact ⟨_,_,rfl,q⟩
noncomputable def nx (P:aR) (w:Nat) (ss:Ss) (Q:Fl→Fr→Prop):Fl→Fr→Prop
 | .nx,fr=>Wp (exs P w ss fr) Q
 | g,fr=>Q g fr
theorem ah (q:Wp (ex P w st fr) (nx P w ss Q)):Wp (exs P w (.cons st ss) fr) Q:=by
 rw [Ba,wp_bind]
 refine q.mono fun g af z=>?_
 cases g with
 | nx=>exact z
 | bk=>exact ⟨_,_,rfl,z⟩
 | ct=>exact ⟨_,_,rfl,z⟩
 | ret v=>exact ⟨_,_,rfl,z⟩
theorem iw {t:T}(h:cy P false it (qS (itv it) fr)=.ok vs af) (q:Wp (forL (turnF P w t ss) vs af) Q):Wp (ex P w (.for t it ss) fr) Q:=by rw [rS,h,ak];exact q
theorem O4 (q:Wp (dN (fun au=>aK P a au) (fun au=>exs P w ss au) w fr) Q):Wp (ex P w (.nW a ss) fr) Q:=by rw [K6];exact q
theorem cO {t:T}{d:V}(hb:b7 t d fr=some af) (q:Wp (exs P w ss af) Q):Wp (turnF P w t ss d fr) Q:=by unfold turnF;rw [hb];exact q
theorem lO {t:T}{d:V}(hb:b7 t d (qF fr)=some af) (h:ev P false a af=.ok v au):jw P a t .no fr d=some (some v):=by
 unfold jw;rw [hb];dsimp only;rw [KW];dsimp only;rw [h];rfl
theorem mw {t:T}{d:V}(hb:b7 t d (qF fr)=some af) (h:aK P c af=.ok b au) (h2:b=true→ev P false a af=.ok v cB):jw P a t (.yes c) fr d=some (if b then some v else none):=by
 unfold jw;rw [hb];dsimp only;rw [Gw,h];dsimp only
 cases b with
 | true=>rw [h2 rfl];rfl
 | false=>rfl
theorem gZ {p q:List Nat}:cop .eq (.str p) (.str q)=some (decide (p=q)):=pT
theorem gj {p q:List Nat}:cop .ne (.str p) (.str q)=some (!decide (p=q)):=by rw [j4,pT];rfl
theorem nB {p q:Int}:cop .eq (.int p) (.int q)=some (decide (p=q)):=uX
theorem Ds {p q:Int}:cop .ne (.int p) (.int q)=some (!decide (p=q)):=by rw [j4,uX];rfl
theorem wO {p q:Int}:cop .lt (.int p) (.int q)=some (decide (p<q)):=rfl
theorem nC {p q:Int}:cop .gt (.int p) (.int q)=some (decide (q<p)):=rfl
theorem jA {p q:Int}(h:b6 p q=true):bH .mul (.int p) (.int q)=some (.int (p*q)):=by rw [nv,if_pos h]
theorem mz {p q:Int}(h:0<q):bH .mod (.int p) (.int q)=some (.int (p % q)):=by rw [Gj,if_pos h]
theorem qX {p q:Int}(h:0<q) (h2:q<1073741824):bH .fdiv (.int p) (.int q)=some (.int (p / q)):=by rw [A6,if_pos ⟨h,h2⟩]
end
theorem e8 {fr:Fr}{i:Nat}{s:Sl}{o:Option Sl}(e:fr[i]?=some o) (h:vo o):put fr i s=some (fr.set i (some s)):=by rw [K9,e,La h]
theorem gk {fr:Fr}{i j:Nat}{u v:V}{a b:Option Sl}(ea:fr[i]?=some a) (ha:vo a) (eb:(fr.set i (some (.val u)))[j]?=some b) (hb:vo b):b7 (.many [i,j]) (.tup [u,v]) fr=some ((fr.set i (some (.val u))).set j (some (.val v))):=by
 simp only [wI,t6,wJ,e8 ea ha,Option.bind,e8 eb hb]
theorem bind1 {fr:Fr}{i:Nat}{v:V}{a:Option Sl}(ea:fr[i]?=some a) (ha:vo a):b7 (.one i) v fr=some (fr.set i (some (.val v))):=e8 ea ha
end Pv
local macro_rules | `(tactic| array_get_dec)=>`(tactic| first
 | exact Pv.aO | exact Pv.aX | exact Pv.qW
 | (apply Pv.av;rfl) | (apply Pv.aV;rfl) | apply Pv.bf | apply Pv.bD | apply Pv.eB | apply Pv.gO | apply Pv.dc | apply Pv.nA | apply Pv.bJ | apply Pv.fW
 | apply Pv.T8 | apply Pv.wK | apply Pv.wN | apply Pv.wL  | (apply Pv.jz rfl rfl) | (apply Pv.Dq rfl) | apply Pv.Lb
 | apply Pv.aI | (apply Pv.aJ rfl) | (apply Pv.T9 rfl) | apply Pv.gc | apply Pv.Dr | apply Pv.aD rfl
 | exact Pv.wC | exact Pv.lZ | exact Pv.iN | exact Pv.OS | exact Pv.fP | exact Pv.OQ | exact Pv.OR
 | (with_reducible assumption) | exact Pv.cj | exact Pv.sH | exact Pv.gZ | exact Pv.gj | exact Pv.nB | exact Pv.Ds | exact Pv.wO  | exact Pv.nC
 | (show Pv.truthy _=_;rfl) | (show Pv.eZ _ _=some _;rfl) | (show Pv.toT _=some _;rfl) | (show Pv.gE _ _=some _;rfl) | (show Pv.fN _=some _;rfl) | assumption)
namespace Pv
open Ev (D bW bQ TY BI ME T E Es Eo It S Ss Fn big deep b2i rep b6 dY bK aQ cut cG dW slots)
theorem Lc (a b:Int):b6 (a % 2147483563) b=true:=by have h1:=Int.emod_nonneg a (b:=2147483563) (by decide);have h2:=Int.emod_lt_of_pos a (b:=2147483563) (by decide);simp [b6];omega
theorem Ua (a b:Int):b6 (a % 2147483399) b=true:=by have h1:=Int.emod_nonneg a (b:=2147483399) (by decide);have h2:=Int.emod_lt_of_pos a (b:=2147483399) (by decide);simp [b6];omega
theorem Ld {l:List V}{j:Int}{v:V}(h:bK l j=some v):eZ (.bS l) (.int j)=some v:=h
theorem Le {l m:List V}:cop .eq (.bS l) (.lst m)=cg (cJ (18+1)) l m:=rfl
theorem Bb {F:List Fn}{w n c:Nat}(hc:F[c]?=some qU) {ns:List Int}(hn:ns.length≤63) (k:Int):run F w (n+1) c [.val (fk ns),.val (.int k)]=some (.int (qV ns k),[]):=by
 refine bT hc rfl (ah (aF (b:=decide (ns=[])) (aD rfl (bD (av rfl) (gO aO fP) (Le.trans (GH ns))) rfl) (fun h=>?_) fun h=>ay ?_))
 ·have h0:=of_decide_eq_true h
  exact ah (bI (bf (aV rfl) (av rfl) (jA rfl)) ⟨by rw [qV,if_pos h0],rfl⟩)
 ·have h0:=of_decide_eq_false h
  have hlen:0<ns.length:=List.length_pos_iff.mpr h0
  have QG:(0:Int)<(ns.map V.int).length:=by rw [List.length_map];exact Int.natCast_pos.mpr hlen
  have h30:((ns.map V.int).length:Int)<1073741824:=by rw [List.length_map];omega
  have hm0:=Int.emod_nonneg k (b:=(ns.length:Int)) (by omega)
  have hlt:(k % (ns.length:Int)).toNat<ns.length:=by have:=Int.emod_lt_of_pos k (b:=(ns.length:Int)) (by omega);omega
  have hx:bK (ns.map V.int) (k % ((ns.map V.int).length:Int))=some (.int (ns[(k % (ns.length:Int)).toNat]?.getD 0)):=by
   rw [List.length_map,sM hm0,List.getElem?_map,List.getElem?_eq_getElem hlt];rfl
  refine ah (bI (bf (dc (av rfl) (bf (av rfl) (fW (aI (av rfl) aO) uY) (mz QG)) (Ld hx)) (bf (aV rfl) (bf (av rfl) (fW (aI (av rfl) aO) uY) (qX QG h30)) (jA rfl)) cj) ⟨?_,rfl⟩)
  rw [qV,if_neg h0,List.length_map]
theorem ee {F:List Fn}{w n c dr:Nat}(hc:F[c]?=some qU) (hd:F[dr]?=some (sN c)) {ns:List Int}(hn:ns.length≤63) (k:Int) {many:Int}(hm:0<many):run F w (n+2) dr [.val (fk ns),.val (.int k),.val (.int many)]=some (.int (cE ns k many),[]):=by
 refine bT hd rfl (ah (aS (bf (bf (bf (bf (bJ (aJ rfl (av rfl) (aJ rfl (av rfl) aX)) (call2 (Bb hc hn k))) (aV rfl) (mz (by decide))) (aV rfl) (jA (Lc _ _))) (bf (aV rfl) (bf (av rfl) (aV rfl) cj) (jA rfl)) cj) (aV rfl) (mz (by decide))) rfl rfl ?_))
 refine ah (aS (bf (bf (bf (av rfl) (av rfl) (jA (Lc _ _))) (bf (av rfl) (aV rfl) (qX (by decide) (by decide))) cj) (aV rfl) (mz (by decide))) rfl rfl ?_)
 exact ah (bI (bf (bf (bf (bf (bf (av rfl) (av rfl) (jA (Ua _ _))) (bf (av rfl) (aV rfl) (qX (by decide) (by decide))) cj) (aV rfl) (mz (by decide))) (aV rfl) (qX (by decide) (by decide))) (av rfl) (mz hm)) ⟨rfl,rfl⟩)
noncomputable def fText (dr:Nat):Fn:=⟨3,4,(.cons (.ret (.me .join (.c (.str [])) (.cons (.comp (.ix (.c (.str [97,98,99,32])) (.cl dr (.cons (.v 0) (.cons (.bin .add (.bin .add (.v 1) (.c (.int 1))) (.v 3)) (.cons (.c (.int 4)) .nil))))) (.one 3) (.gR (.cons (.cl dr (.cons (.v 0) (.cons (.v 1) (.cons (.bin .add (.v 2) (.c (.int 1))) .nil)))) .nil)) .no) .nil))) .nil)⟩
noncomputable def Dt (dr:Nat):S:=.iff (.cmp .eq (.cl dr (.cons (.v 0) (.cons (.bin .add (.v 1) (.bin .mul (.c (.int 4)) (.v 4))) (.cons (.c (.int 4)) .nil)))) (.c (.int 0))) (.cons (.set 5 (.bin .mul (.ix (.c (.str [97,98,122])) (.cl dr (.cons (.v 0) (.cons (.bin .add (.bin .add (.v 1) (.bin .mul (.c (.int 4)) (.v 4))) (.c (.int 1))) (.cons (.c (.int 3)) .nil))))) (.bin .add (.c (.int 1)) (.cl dr (.cons (.v 0) (.cons (.bin .add (.bin .add (.v 1) (.bin .mul (.c (.int 4)) (.v 4))) (.c (.int 2))) (.cons (.c (.int 2)) .nil))))))) (.cons (.set 3 (.bin .add (.v 3) (.tup (.cons (.tup (.cons (.c (.str [112,117,116])) (.cons (.v 5) .nil))) .nil)))) .nil)) .nil
noncomputable def Du (dr:Nat):S:=.iff (.cmp .lt (.v 4) (.bi .len (.cons (.v 2) .nil))) (.cons (.set 6 (.cmp .gt (.cl dr (.cons (.v 0) (.cons (.bin .add (.bin .add (.v 1) (.bin .mul (.c (.int 4)) (.v 4))) (.c (.int 3))) (.cons (.c (.int 3)) .nil)))) (.c (.int 0)))) (.cons (.set 3 (.bin .add (.v 3) (.tup (.cons (.gT (.v 6) (.tup (.cons (.c (.str [107,101,101,112])) (.cons (.c (.int 1)) .nil))) (.tup (.cons (.c (.str [100,114,111,112])) (.cons (.ix (.v 2) (.v 4)) .nil)))) .nil)))) .nil)) .nil
noncomputable def GI (dr:Nat):Fn:=⟨3,7,(.cons (.set 3 (.tup .nil)) (.cons (.for (.one 4) (.gR (.cons (.bin .add (.bi .len (.cons (.v 2) .nil)) (.c (.int 1))) .nil)) (.cons (Dt dr) (.cons (Du dr) .nil))) (.cons (.ret (.v 3)) .nil)))⟩
inductive Pt where
 | keep (n:Nat) | put (s:List Nat) | drop (s:List Nat)
deriving DecidableEq
noncomputable def dz:List Nat:=[107,101,101,112]
noncomputable def kB:List Nat:=[112,117,116]
noncomputable def iO:List Nat:=[100,114,111,112]
noncomputable def Pt.v:Pt→V
 | .keep n=>.tup [.str dz,.int n]
 | .put s=>.tup [.str kB,.str s]
 | .drop s=>.tup [.str iO,.str s]
noncomputable def aU (c:List Pt):V:=.tup (c.map Pt.v)
theorem zj (n:Nat) (a b:Pt):cJ (n+2) a.v b.v=some (decide (a=b)):=by
 cases a <;> cases b <;> simp [Pt.v,dz,kB,iO]
 all_goals omega
theorem Lf (a b:List Pt):cJ deep (aU a) (aU b)=some (decide (a=b)):=by
 simp only [aU,Gm]
 exact mh (fun a b=>zj 17 a b) a b
noncomputable def txt (ns:List Int) (at_ most:Int):List Nat:=(List.range (cE ns at_ (most+1)).toNat).map fun (k:Nat)=>[97,98,99,32].getD (cE ns (at_+1+k) 4).toNat 0
theorem GJ (ns:List Int) (at_:Int) {most:Int}(h:0≤most):(txt ns at_ most).length≤most.toNat:=by
 unfold txt
 have h1:=jh ns at_ (many:=most+1) (by omega)
 have h2:=jg ns at_ (many:=most+1) (by omega)
 simp;omega
theorem getD_at {α:Type}{l:List α}{i:Int}(h0:0≤i) (h1:i<l.length) (d:α):bK l i=some (l.getD i.toNat d):=by
 have:i.toNat<l.length:=by omega
 rw [sM h0];simp [List.getD,List.getElem?_eq_getElem this]
theorem mV {α β:Type}(l:List α) (f:α→β):(l.map fun x=>[f x]).flatten=l.map f:=by induction l <;> simp [*]
theorem zk (lo:Int) (n:Nat):range lo n=(List.range n).map fun (i:Nat)=>V.int (lo+i):=rfl
section
variable {F:List Fn}{w n c dr t:Nat}(hc:F[c]?=some qU) (hd:F[dr]?=some (sN c)) {ns:List Int}(hn:ns.length≤63)
include hc hd hn
theorem Bc (ht:F[t]?=some (fText dr)) (k most:Int) (hm:0≤most) (hm2:most≤1000):run F w (n+3) t [.val (fk ns),.val (.int k),.val (.int most)]=some (.str (txt ns k most),[]):=by
 have b0:=jg ns k (many:=most+1) (by omega)
 have b1:=jh ns k (many:=most+1) (by omega)
 have d0:=fun fr=>eW (fr:=fr) (ee (w:=w) (n:=n) hc hd hn k (many:=most+1) (by omega))
 have O5:cD (jw (run F w (n+2)) (.ix (.c (.str [97,98,99,32])) (.cl dr (.cons (.v 0) (.cons (.bin .add (.bin .add (.v 1) (.c (.int 1))) (.v 3)) (.cons (.c (.int 4)) .nil))))) (.one 3) .no [some (.val (fk ns)),some (.val (.int k)),some (.val (.int most)),none]) (range 0 (cE ns k (most+1)).toNat)=some (((List.range (cE ns k (most+1)).toNat).map fun (j:Nat)=>[[97,98,99,32].getD (cE ns (k+1+j) 4).toNat 0]).map V.str):=by
  rw [zk,List.map_map]
  refine iC _ _ _ fun j _=>?_
  have d1:=fun fr=>eW (fr:=fr) (ee (w:=w) (n:=n) hc hd hn (k+1+j) (many:=4) (by decide))
  have ix:eZ (.str [97,98,99,32]) (.int (cE ns (k+1+j) 4))=some (.str [[97,98,99,32].getD (cE ns (k+1+j) 4).toNat 0]):=by
   rw [pW,getD_at (l:=[97,98,99,32]) (jg ns (k+1+j) (many:=4) (by decide)) (jh ns (k+1+j) (many:=4) (by decide)) 0];rfl
  rw [show (0:Int)+(j:Int)=j from Int.zero_add _]
  exact lO rfl (by (repeat (first | array_get_dec | exact d1 _)))
 have hj:=Dp (l:=(List.range (cE ns k (most+1)).toNat).map fun (j:Nat)=>[[97,98,99,32].getD (cE ns (k+1+j) 4).toNat 0]) (by rw [mV];simp;omega)
 rw [mV] at hj
 have WG:dO (((List.range (cE ns k (most+1)).toNat).map fun (j:Nat)=>[[97,98,99,32].getD (cE ns (k+1+j) 4).toNat 0]).map V.str)=some (.lst _):=cT (bN (by simp;omega))
 have rg:=KD b0 (show cE ns k (most+1)≤100000 by omega)
 refine bT ht rfl (ah (bI (Dq rfl (aV rfl) (aI (gP (sO (by (repeat (first | array_get_dec | exact d0 _))) rg) rfl O5 WG) aO) hj) ⟨rfl,rfl⟩))
end
noncomputable def iP (ns:List Int) (at_:Int) (s:List Nat) (k:Nat):List Pt:=
 (if cE ns (at_+4*k) 4=0 then [.put (rep (1+cE ns (at_+4*k+2) 2).toNat [[97,98,122].getD (cE ns (at_+4*k+1) 3).toNat 0])] else [])++
 (match s[k]? with
 | some c=>[if 0<cE ns (at_+4*k+3) 3 then .keep 1 else .drop [c]]
 | none=>[])
noncomputable def eX (ns:List Int) (at_:Int) (s:List Nat) (k:Nat):List Pt:=(List.range k).flatMap (iP ns at_ s)
noncomputable def chg (ns:List Int) (at_:Int) (s:List Nat):List Pt:=eX ns at_ s (s.length+1)
theorem zl (ns:List Int) (at_:Int) (s:List Nat) (k:Nat):(iP ns at_ s k).length≤2:=by
 unfold iP
 split <;> split <;> simp
theorem iQ (ns:List Int) (at_:Int) (s:List Nat) (k:Nat):eX ns at_ s (k+1)=eX ns at_ s k++iP ns at_ s k:=by simp [eX,List.range_succ]
theorem lP (ns:List Int) (at_:Int) (s:List Nat):∀ k,(eX ns at_ s k).length≤2*k
 | 0=>by simp [eX]
 | k+1=>by
  have h1:=zl ns at_ s k
  have h2:=lP ns at_ s k
  rw [iQ,List.length_append]
  omega
theorem Lh (i:Int):b6 4 i=true:=by simp [b6]
theorem wQ {a b:List Pt}(h:a.length+b.length≤100000):bH .add (aU a) (aU b)=some (aU (a++b)):=by
 simp only [aU];rw [nu (by simpa using h)];simp
theorem Li {j:Int}{n:Nat}(h:n≤100000) (e:j=n):eU [.int j]=some (range 0 n):=by
 subst e
 rw [KD (by omega) (by omega)]
 rfl
theorem GK {a:List Pt}{s:List Nat}(h:a.length<100000):bH .add (aU a) (.tup [.tup [.str [112,117,116],.str s]])=some (aU (a++[.put s])):=wQ (a:=a) (b:=[.put s]) (by simp;omega)
theorem Bd {a:List Pt}{s:List Nat}(h:a.length<100000):bH .add (aU a) (.tup [.tup [.str [100,114,111,112],.str s]])=some (aU (a++[.drop s])):=wQ (a:=a) (b:=[.drop s]) (by simp;omega)
theorem Be {a:List Pt}(h:a.length<100000):bH .add (aU a) (.tup [.tup [.str [107,101,101,112],.int 1]])=some (aU (a++[.keep 1])):=wQ (a:=a) (b:=[.keep 1]) (by simp;omega)
section
variable {F:List Fn}{w n c dr t:Nat}(hc:F[c]?=some qU) (hd:F[dr]?=some (sN c)) {ns:List Int}(hn:ns.length≤63)
include hc hd hn
theorem Bf (k:Int) (x:V) (fd:List Pt) (j:Nat) (u v:Option Sl) (hu:vo u) (hfd:fd.length≤10000) :
  Wp (ex (run F w (n+2)) w (Dt dr) [some (.val (fk ns)),some (.val (.int k)),some (.val x),some (.val (aU fd)),some (.val (.int j)),u,v]) fun g fr=>g=.nx∧∃ b,vo b∧fr=[some (.val (fk ns)),some (.val (.int k)),some (.val x),some (.val (aU (fd++if cE ns (k+4*j) 4=0 then [.put (rep (1+cE ns (k+4*j+2) 2).toNat [[97,98,122].getD (cE ns (k+4*j+1) 3).toNat 0])] else []))),some (.val (.int j)),b,v]:=by
 have d1:=fun fr=>eW (fr:=fr) (ee (w:=w) (n:=n) hc hd hn (k+4*j) (many:=4) (by decide))
 have m4:bH .mul (.int 4) (.int j)=some (.int (4*j)):=by rw [nv,Lh];rfl
 refine aF (by (repeat (first | array_get_dec | exact d1 _))) (fun h=>?_) fun h=>?_
 ·have h0:=of_decide_eq_true h
  have d2:=fun fr=>eW (fr:=fr) (ee (w:=w) (n:=n) hc hd hn (k+4*j+1) (many:=3) (by decide))
  have d3:=fun fr=>eW (fr:=fr) (ee (w:=w) (n:=n) hc hd hn (k+4*j+2) (many:=2) (by decide))
  have c2:=jg ns (k+4*j+2) (many:=2) (by decide)
  have c3:=jh ns (k+4*j+2) (many:=2) (by decide)
  have ix:eZ (.str [97,98,122]) (.int (cE ns (k+4*j+1) 3))=some (.str [[97,98,122].getD (cE ns (k+4*j+1) 3).toNat 0]):=by
   rw [pW,getD_at (l:=[97,98,122]) (jg ns (k+4*j+1) (many:=3) (by decide)) (jh ns (k+4*j+1) (many:=3) (by decide)) 0];rfl
  have ml:=A5 (j:=1+cE ns (k+4*j+2) 2) (a:=[[97,98,122].getD (cE ns (k+4*j+1) 3).toNat 0]) (by omega) (by omega) (by simp)
  have ad:=GK (a:=fd) (s:=rep (1+cE ns (k+4*j+2) 2).toNat [[97,98,122].getD (cE ns (k+4*j+1) 3).toNat 0]) (by omega)
  refine ah (aS (by (repeat (first | array_get_dec | exact d2 _ | exact d3 _))) rfl (e8 rfl hu) ?_)
  refine ah (aS (by repeat array_get_dec) rfl rfl (ay ?_))
  rw [if_pos h0];exact ⟨rfl,_,.val,rfl⟩
 ·have h0:=of_decide_eq_false h
  rw [if_neg h0,List.append_nil]
  exact ay ⟨rfl,u,hu,rfl⟩
theorem Bg (k:Int) (x:List Nat) (hx:x.length≤1000) (fd:List Pt) (j:Nat) (u v:Option Sl) (hv:vo v) (hfd:fd.length≤10000) :
  Wp (ex (run F w (n+2)) w (Du dr) [some (.val (fk ns)),some (.val (.int k)),some (.val (.str x)),some (.val (aU fd)),some (.val (.int j)),u,v]) fun g fr=>g=.nx∧∃ b,vo b∧fr=[some (.val (fk ns)),some (.val (.int k)),some (.val (.str x)),some (.val (aU (fd++match x[j]? with
     | some c=>[if 0<cE ns (k+4*j+3) 3 then .keep 1 else .drop [c]]
     | none=>[]))),some (.val (.int j)),u,b]:=by
 have ln:cY .len [.str x]=some (.int (x.length:Nat)):=len_str (by omega)
 refine aF (by repeat array_get_dec) (fun h=>?_) fun h=>?_
 ·have hlt:j<x.length:=by have:=of_decide_eq_true h;omega
  have d1:=fun fr=>eW (fr:=fr) (ee (w:=w) (n:=n) hc hd hn (k+4*j+3) (many:=3) (by decide))
  have m4:bH .mul (.int 4) (.int j)=some (.int (4*j)):=by rw [nv,Lh];rfl
  have hg:x[j]?=some x[j]:=List.getElem?_eq_getElem hlt
  have ix:eZ (.str x) (.int j)=some (.str [x[j]]):=by rw [pW,uo,hg];rfl
  rw [hg]
  refine ah (aS (by (repeat (first | array_get_dec | exact d1 _))) rfl (e8 rfl hv) ?_)
  by_cases hk:0<cE ns (k+4*j+3) 3
  ·have ad:=Be (a:=fd) (by omega)
   have ht:truthy (.bl (decide (0<cE ns (k+4*j+3) 3)))=true:=decide_eq_true hk
   refine ah (aS (bf (av rfl) (eB (aI (jy (b:=true) (aD rfl (av rfl) ht) (fun _=>by repeat array_get_dec) fun h=>absurd h (by decide)) aO) lZ) ad) rfl rfl (ay ?_))
   refine ⟨rfl,some (.val (.bl (decide (0<cE ns (k+4*j+3) 3)))),.val,?_⟩
   simp only [if_pos hk];rfl
  ·have ad:=Bd (a:=fd) (s:=[x[j]]) (by omega)
   have ht:truthy (.bl (decide (0<cE ns (k+4*j+3) 3)))=false:=decide_eq_false hk
   refine ah (aS (bf (av rfl) (eB (aI (jy (b:=false) (aD rfl (av rfl) ht) (fun h=>absurd h (by decide)) fun _=>by repeat array_get_dec) aO) lZ) ad) rfl rfl (ay ?_))
   refine ⟨rfl,some (.val (.bl (decide (0<cE ns (k+4*j+3) 3)))),.val,?_⟩
   simp only [if_neg hk];rfl
 ·have hlt:¬ j<x.length:=by have:=of_decide_eq_false h;omega
  rw [List.getElem?_eq_none (by omega),List.append_nil]
  exact ay ⟨rfl,v,hv,rfl⟩
theorem wR (ht:F[t]?=some (GI dr)) (k:Int) (x:List Nat) (hx:x.length≤1000):run F w (n+3) t [.val (fk ns),.val (.int k),.val (.str x)]=some (aU (chg ns k x),[]):=by
 refine bT ht rfl ?_
 have ln:cY .len [.str x]=some (.int (x.length:Nat)):=len_str (by omega)
 have rg:eU [.int ((x.length:Nat)+1)]=some (range 0 (x.length+1)):=Li (by omega) (by omega)
 refine ah (aS (by repeat array_get_dec) rfl rfl ?_)
 refine ah (iw (sO (aI (bf (fW (aI (av rfl) aO) ln) (aV rfl) cj) aO) rg) ?_)
 refine u5 (fun j fr=>∃ a b c,vo a∧vo b∧vo c∧fr=[some (.val (fk ns)),some (.val (.int k)),some (.val (.str x)),some (.val (aU (eX ns k x j))),a,b,c]) (fun j fr hj ⟨a,b,c',ha,hb,hc',hfr⟩=>?_) (fun fr ⟨a,b,c',ha,hb,hc',hfr⟩=>?_) ⟨none,none,none,.none,.none,.none,rfl⟩
 ·subst hfr
  have hz:=lP ns k x j
  rw [show (0:Int)+(j:Int)=j from Int.zero_add _]
  refine cO (bind1 rfl ha) (ah ?_)
  refine (Bf hc hd hn k (.str x) (eX ns k x j) j b c' hb (by omega)).mono fun g fr ⟨q1,b2,hb2,q3⟩=>?_
  subst q1 q3
  refine ah ?_
  refine (Bg hc hd hn k x hx _ j b2 c' hc' (by split <;> simp <;> omega)).mono fun g fr ⟨q1,b3,WH,q3⟩=>?_
  subst q1 q3
  refine ay ?_
  rw [cL]
  refine ⟨some (.val (.int j)),b2,b3,.val,hb2,WH,?_⟩
  rw [iQ,iP,List.append_assoc]
 ·subst hfr
  refine ah (bI (v:=aU (chg ns k x)) (af:=[some (.val (fk ns)),some (.val (.int k)),some (.val (.str x)),some (.val (aU (eX ns k x (x.length+1)))),a,b,c']) ?_ ⟨rfl,rfl⟩)
  have sh:ez [some (.val (fk ns)),some (.val (.int k)),some (.val (.str x)),some (.val (aU (eX ns k x (x.length+1)))),a,b,c']=[some (.val (fk ns)),some (.val (.int k)),some (.val (.str x)),some (.val (aU (eX ns k x (x.length+1)))),a,b,c']:=by
   show _ :: _ :: _ :: _ :: a.map Sl.cZ :: b.map Sl.cZ :: [c'.map Sl.cZ]=_
   rw [bX ha,bX hb,bX hc'];rfl
  rw [sh];exact av rfl
end
end Pv
namespace Pv
open Ev (D bW bQ TY BI ME T E Es Eo It S Ss Fn big deep b2i rep b6 dY bK aQ cut cG dW slots)
noncomputable def Bh:S:=.iff (.cmp .eq (.ix (.v 0) (.c (.int 0))) (.c (.str [107,101,101,112]))) (.cons (.ret (.ix (.v 0) (.c (.int 1)))) .nil) .nil
noncomputable def Bj:S:=.ret (.bi .len (.cons (.ix (.v 0) (.c (.int 1))) .nil))
noncomputable def fE:Fn:=⟨1,1,(.cons Bh (.cons Bj .nil))⟩
noncomputable def wU (bO:Nat):S:=.ret (.bi .sum (.cons (.comp (.cl bO (.cons (.v 1) .nil)) (.one 1) (.seq (.v 0)) (.yes (.cmp .ne (.ix (.v 1) (.c (.int 0))) (.c (.str [112,117,116]))))) .nil))
noncomputable def kC (bO:Nat):Fn:=⟨1,2,(.cons (wU bO) .nil)⟩
noncomputable def zm (bO:Nat):S:=.ret (.bi .sum (.cons (.comp (.cl bO (.cons (.v 1) .nil)) (.one 1) (.seq (.v 0)) (.yes (.cmp .ne (.ix (.v 1) (.c (.int 0))) (.c (.str [100,114,111,112]))))) .nil))
noncomputable def mC (bO:Nat):Fn:=⟨1,2,(.cons (zm bO) .nil)⟩
noncomputable def Bk (bO:Nat):S:=.ret (.bi .sum (.cons (.comp (.cl bO (.cons (.v 1) .nil)) (.one 1) (.seq (.v 0)) (.yes (.cmp .ne (.ix (.v 1) (.c (.int 0))) (.c (.str [107,101,101,112]))))) .nil))
noncomputable def Lj (bO:Nat):Fn:=⟨1,2,(.cons (Bk bO) .nil)⟩
noncomputable def Bm:S:=.set 1 (.lst .nil)
noncomputable def Bo:S:=.set 2 (.c (.int 0))
noncomputable def Bp:S:=.set 3 (.c (.str []))
noncomputable def Bq:S:=.set 4 (.c (.str []))
noncomputable def Br (eT:Nat):Ss:=(.cons (.iff (.cmp .eq (.v 5) (.c (.str [100,114,111,112]))) (.cons (.set 3 (.bin .add (.v 3) (.v 6))) .nil) (.cons (.iff (.cmp .eq (.v 5) (.c (.str [112,117,116]))) (.cons (.set 4 (.bin .add (.v 4) (.v 6))) .nil) (.cons (.iff (.cmp .gt (.v 6) (.c (.int 0))) (.cons (.iff (.orr (.cmp .ne (.v 3) (.c (.str []))) (.cmp .ne (.v 4) (.c (.str [])))) (.cons (.exp (.me .extend (.v 1) (.cons (.cl eT (.cons (.v 2) (.cons (.v 3) (.cons (.v 4) .nil)))) .nil))) (.cons (.set 2 (.c (.int 0))) (.cons (.set 3 (.c (.str []))) (.cons (.set 4 (.c (.str []))) .nil)))) .nil) (.cons (.set 2 (.bin .add (.v 2) (.v 6))) .nil)) .nil) .nil)) .nil)) .nil)
noncomputable def Bs (eT:Nat):S:=.for (.many [5,6]) (.seq (.v 0)) (Br eT)
noncomputable def Bt (eT:Nat):S:=.exp (.me .extend (.v 1) (.cons (.cl eT (.cons (.v 2) (.cons (.v 3) (.cons (.v 4) .nil)))) .nil))
noncomputable def Bu:S:=.ret (.jq (.v 1))
noncomputable def lQ (eT:Nat):Fn:=⟨1,7,(.cons Bm (.cons Bo (.cons Bp (.cons Bq (.cons (Bs eT) (.cons (Bt eT) (.cons Bu .nil)))))))⟩
noncomputable def t7:S:=.set 3 (.lst .nil)
noncomputable def t8:S:=.iff (.cmp .gt (.v 0) (.c (.int 0))) (.cons (.exp (.me .append (.v 3) (.cons (.tup (.cons (.c (.str [107,101,101,112])) (.cons (.v 0) .nil))) .nil))) .nil) .nil
noncomputable def mW:S:=.iff (.cmp .ne (.v 1) (.c (.str []))) (.cons (.exp (.me .append (.v 3) (.cons (.tup (.cons (.c (.str [100,114,111,112])) (.cons (.v 1) .nil))) .nil))) .nil) .nil
noncomputable def jO:S:=.iff (.cmp .ne (.v 2) (.c (.str []))) (.cons (.exp (.me .append (.v 3) (.cons (.tup (.cons (.c (.str [112,117,116])) (.cons (.v 2) .nil))) .nil))) .nil) .nil
noncomputable def iy:S:=.ret (.v 3)
noncomputable def gv:Fn:=⟨3,4,(.cons t7 (.cons t8 (.cons mW (.cons jO (.cons iy .nil)))))⟩
noncomputable def Pt.n:Pt→Nat
 | .keep n=>n
 | .put s=>s.length
 | .drop s=>s.length
noncomputable def tot (c:List Pt):Nat:=(c.map Pt.n).sum
theorem dI (a b:List Pt):tot (a++b)=tot a+tot b:=by simp [tot]
theorem bU (p:Pt) (c:List Pt):tot (p :: c)=p.n+tot c:=by simp [tot]
noncomputable def eE:Pt→Bool
 | .put _=>true
 | _=>false
noncomputable def dw:Pt→Bool
 | .drop _=>true
 | _=>false
noncomputable def eK:Pt→Bool
 | .keep _=>true
 | _=>false
noncomputable def az (c:List Pt):Nat:=tot (c.filter fun p=>!eE p)
noncomputable def fT (c:List Pt):Nat:=tot (c.filter fun p=>!dw p)
noncomputable def cst (c:List Pt):Nat:=tot (c.filter fun p=>!eK p)
section
variable {F:List Fn}{w n aL i:Nat}
theorem g6 (hs:F[i]?=some fE) (p:Pt) (hp:p.n≤100000):run F w (n+1) i [.val p.v]=some (.int p.n,[]):=by
 cases p with
 | keep k=>exact bT hs rfl (ah (aF (b:=true) (aD rfl (bD (dc (av rfl) (aV rfl) rfl) (aV rfl) gZ) rfl) (fun _=>ah (bI (dc (av rfl) (aV rfl) rfl) ⟨rfl,rfl⟩)) nofun))
 | put s=>exact bT hs rfl (ah (aF (b:=false) (aD rfl (bD (dc (av rfl) (aV rfl) rfl) (aV rfl) gZ) rfl) nofun (fun _=>ay (ah (bI (fW (aI (dc (av rfl) (aV rfl) rfl) aO) (len_str hp)) ⟨rfl,rfl⟩)))))
 | drop s=>exact bT hs rfl (ah (aF (b:=false) (aD rfl (bD (dc (av rfl) (aV rfl) rfl) (aV rfl) gZ) rfl) nofun (fun _=>ay (ah (bI (fW (aI (dc (av rfl) (aV rfl) rfl) aO) (len_str hp)) ⟨rfl,rfl⟩)))))
theorem Ub {c:List Pt}{p:Pt}(h:p∈c):p.n≤tot c:=by
 induction c with
 | nil=>simp at h
 | cons q c ih=>
  rw [bU]
  rcases List.mem_cons.mp h with rfl | h
  ·omega
  ·have:=ih h;omega
theorem O6 (c:List Pt):(c.map fun p=>(p.n:Int)).sum=(tot c:Int):=by
 induction c with
 | nil=>rfl
 | cons p c ih=>simp only [List.map_cons,List.sum_cons,ih,bU];omega
theorem pY {word:List Nat}{pr:Pt→Bool}(hs:F[aL]?=some fE) (hb:F[i]?=some ⟨1,2,.cons (.ret (.bi .sum (.cons (.comp (.cl aL (.cons (.v 1) .nil)) (.one 1) (.seq (.v 0)) (.yes (.cmp .ne (.ix (.v 1) (.c (.int 0))) (.c (.str word))))) .nil))) .nil⟩)
  (hw:∀ p:Pt,∃ x u,p.v=.tup [.str x,u]∧(!decide (x=word))=pr p) (c:List Pt) (h1:c.length≤10000) (h2:tot c≤100000):run F w (n+2) i [.val (aU c)]=some (.int (tot (c.filter pr)),[]):=by
 refine bT hb rfl (ah (bI (fW (aI (gP (dR (cU rfl) rfl) rfl (lN (e:=Pt.v) (p:=pr) (g:=fun p=>.int p.n) c fun p hp=>?_) (cT (bN ?_))) aO) ?_) ⟨rfl,rfl⟩))
 ·obtain ⟨x,u,hx,WI⟩:=hw p
  have hcall:=fun fr=>di (fr:=fr) (g6 (w:=w) (n:=n) hs p (Nat.le_trans (Ub hp) h2))
  rw [hx] at hcall
  rw [hx,←WI]
  exact mw rfl (aD rfl (bD (dc (av rfl) (aV rfl) rfl) (aV rfl) gj) rfl) fun _=>bJ (aJ rfl (av rfl) aX) (hcall _)
 ·rw [List.length_map];exact Nat.le_trans (List.length_filter_le _ _) (Nat.le_trans h1 (by decide))
 ·rw [Gp,wD (fun p:Pt=>(p.n:Int))]
  show some (V.int _)=_
  rw [O6]
theorem wV (hs:F[aL]?=some fE) (hb:F[i]?=some (kC aL)) (c:List Pt) (h1:c.length≤10000) (h2:tot c≤100000):run F w (n+2) i [.val (aU c)]=some (.int (az c),[]):=
 pY (pr:=fun p=>!eE p) hs hb (fun p=>by cases p <;> exact ⟨_,_,rfl,rfl⟩) c h1 h2
theorem zo (hs:F[aL]?=some fE) (hb:F[i]?=some (mC aL)) (c:List Pt) (h1:c.length≤10000) (h2:tot c≤100000):run F w (n+2) i [.val (aU c)]=some (.int (fT c),[]):=
 pY (pr:=fun p=>!dw p) hs hb (fun p=>by cases p <;> exact ⟨_,_,rfl,rfl⟩) c h1 h2
theorem sP (hs:F[aL]?=some fE) (hb:F[i]?=some (Lj aL)) (c:List Pt) (h1:c.length≤10000) (h2:tot c≤100000):run F w (n+2) i [.val (aU c)]=some (.int (cst c),[]):=
 pY (pr:=fun p=>!eK p) hs hb (fun p=>by cases p <;> exact ⟨_,_,rfl,rfl⟩) c h1 h2
end
noncomputable def bV (k:Nat) (g w:List Nat):List Pt:=(if 0<k then [.keep k] else [])++(if g=[] then [] else [.drop g])++(if w=[] then [] else [.put w])
theorem jP (k:Nat) (g w:List Nat):(bV k g w).length≤3:=by unfold bV;split <;> split <;> split <;> simp
theorem mX {F:List Fn}{w n i:Nat}(hs:F[i]?=some gv) (k:Nat) (g x:List Nat):run F w (n+1) i [.val (.int k),.val (.str g),.val (.str x)]=some (.lst ((bV k g x).map Pt.v),[]):=by
 refine bT hs rfl ?_
 refine ah (fD (l:=[]) (by repeat array_get_dec) rfl rfl ?_)
 have ap:∀ (l:List V) (d:V) (fr:Fr) (i:Nat),l.length≤3→fr[i]?=some (some (.own l))→gb .append i [d] fr fr[i]?=.ok .aY (fr.set i (some (.own (l++[d])))):=fun l d fr i h e=>by rw [e];exact j5 (by omega)
 have fin:∀ l:List V,Wp (exs (run F w n) w (.cons iy .nil) [some (.val (.int k)),some (.val (.str g)),some (.val (.str x)),some (.own l)]) fun g fr=>g=.ret (.lst l)∧outs 3 fr=[]:=fun l=>ah (bI (by repeat array_get_dec) ⟨rfl,rfl⟩)
 have s3:∀ l:List V,l.length≤2→Wp (exs (run F w n) w (.cons jO (.cons iy .nil)) [some (.val (.int k)),some (.val (.str g)),some (.val (.str x)),some (.own l)]) fun g fr=>g=.ret (.lst (l++(if x=[] then [] else [Pt.put x]).map Pt.v))∧outs 3 fr=[]:=fun l hl=>by
  refine ah (aF (by repeat array_get_dec) (fun h=>?_) fun h=>?_)
  ·have hx:x≠[]:=by simpa using h
   refine ah (d9 (by (repeat array_get_dec);exact ap _ _ _ _ (by omega) rfl) (ay ?_))
   rw [if_neg hx];exact fin _
  ·have hx:x=[]:=by simpa using h
   refine ay ?_
   rw [if_pos hx,List.map_nil,List.append_nil];exact fin _
 have s2:∀ l:List V,l.length≤1→Wp (exs (run F w n) w (.cons mW (.cons jO (.cons iy .nil))) [some (.val (.int k)),some (.val (.str g)),some (.val (.str x)),some (.own l)]) fun y fr=>y=.ret (.lst (l++((if g=[] then [] else [Pt.drop g])++(if x=[] then [] else [Pt.put x])).map Pt.v))∧outs 3 fr=[]:=fun l hl=>by
  refine ah (aF (by repeat array_get_dec) (fun h=>?_) fun h=>?_)
  ·have hx:g≠[]:=by simpa using h
   refine ah (d9 (by (repeat array_get_dec);exact ap _ _ _ _ (by omega) rfl) (ay ?_))
   rw [if_neg hx,List.map_append,←List.append_assoc];exact s3 _ (by simp;omega)
  ·have hx:g=[]:=by simpa using h
   refine ay ?_
   rw [if_pos hx,List.nil_append];exact s3 _ (by omega)
 refine ah (aF (by repeat array_get_dec) (fun h=>?_) fun h=>?_)
 ·have hx:0<k:=by have:=of_decide_eq_true h;omega
  refine ah (d9 (by (repeat array_get_dec);exact ap _ _ _ _ (by decide) rfl) (ay ?_))
  unfold bV
  rw [if_pos hx,List.append_assoc];exact s2 _ (Nat.le_refl 1)
 ·have hx:¬ 0<k:=by have:=of_decide_eq_false h;omega
  refine ay ?_
  unfold bV
  rw [if_neg hx];exact s2 _ (by decide)
abbrev FS:=List Pt×Nat×List Nat×List Nat
noncomputable def bC (st:FS):Pt→FS
 | .drop s=>(st.1,st.2.1,st.2.2.1++s,st.2.2.2)
 | .put s=>(st.1,st.2.1,st.2.2.1,st.2.2.2++s)
 | .keep k=>if 0<k then (if st.2.2.1=[]∧st.2.2.2=[] then (st.1,st.2.1+k,[],[]) else (st.1++bV st.2.1 st.2.2.1 st.2.2.2,k,[],[])) else st
noncomputable def eL:FS:=([],0,[],[])
noncomputable def cP (st:FS):List Pt:=st.1++bV st.2.1 st.2.2.1 st.2.2.2
noncomputable def aT (c:List Pt):List Pt:=cP (c.foldl bC eL)
theorem GL (p:List Pt) (a:Pt):(p++[a]).foldl bC eL=bC (p.foldl bC eL) a:=by simp
theorem sQ (c:List Pt):∀ st:FS,(c.foldl bC st).1.length≤st.1.length+3*c.length∧(c.foldl bC st).2.2.1.length≤st.2.2.1.length+tot c∧(c.foldl bC st).2.2.2.length≤st.2.2.2.length+tot c:=by
 induction c with
 | nil=>intro st;simp [tot]
 | cons p c ih=>
  intro st
  have h:=ih (bC st p)
  have h2:(bC st p).1.length≤st.1.length+3∧(bC st p).2.2.1.length≤st.2.2.1.length+p.n∧(bC st p).2.2.2.length≤st.2.2.2.length+p.n:=by
   have:=jP st.2.1 st.2.2.1 st.2.2.2
   cases p with
   | drop s=>simp [bC,Pt.n]
   | put s=>simp [bC,Pt.n]
   | keep k=>
    simp only [bC]
    split
    ·split
     ·simp
     ·simp;omega
    ·simp
  simp only [List.foldl_cons,List.length_cons,bU]
  omega
theorem ji {F:List Fn}{w n bP i:Nat}(hs:F[bP]?=some gv) (hf:F[i]?=some (lQ bP)) (c:List Pt) (h1:c.length≤10000) (h2:tot c≤10000):run F w (n+2) i [.val (aU c)]=some (aU (aT c),[]):=by
 refine bT hf rfl ?_
 refine ah (fD (l:=[]) (by repeat array_get_dec) rfl rfl ?_)
 refine ah (aS (by repeat array_get_dec) rfl rfl ?_)
 refine ah (aS (by repeat array_get_dec) rfl rfl ?_)
 refine ah (aS (by repeat array_get_dec) rfl rfl ?_)
 refine ah (iw (vs:=c.map Pt.v) (dR (cU rfl) rfl) ?_)
 have ext:∀ (st:FS) (fr:Fr),st.1.length≤30010→gb .extend 1 [.lst ((bV st.2.1 st.2.2.1 st.2.2.2).map Pt.v)] fr (some (some (.own (st.1.map Pt.v))))=.ok .aY (fr.set 1 (some (.own ((cP st).map Pt.v)))):=fun st fr h=>by
  have:=jP st.2.1 st.2.2.1 st.2.2.2
  unfold cP
  rw [List.map_append];exact iS (by simp;omega)
 refine eH (e:=Pt.v) (fun p l fr=>p++l=c∧∃ a b,vo a∧vo b∧fr=[some (.val (aU c)),some (.own ((p.foldl bC eL).1.map Pt.v)),some (.val (.int (p.foldl bC eL).2.1)),some (.val (.str (p.foldl bC eL).2.2.1)),some (.val (.str (p.foldl bC eL).2.2.2)),a,b]) (fun p x l fr ⟨hpl,a,b,ha,hb,hfr⟩=>?_) (fun p fr ⟨hpl,a,b,ha,hb,hfr⟩=>?_) c [] _ ⟨rfl,none,none,.none,.none,rfl⟩
 ·subst hfr
  obtain ⟨b1,b2,b3⟩:=sQ p eL
  have hlen:p.length+l.length+1=c.length:=by rw [←hpl];simp;omega
  have sR:tot p+x.n+tot l=tot c:=by rw [←hpl,dI,bU];omega
  rw [GL]
  have dZ:(p++[x])++l=c:=by simpa using hpl
  generalize p.foldl bC eL=st at *
  simp [eL] at b1 b2 b3
  have rs:=fun fr=>eW (fr:=fr) (mX (w:=w) (n:=n) hs st.2.1 st.2.2.1 st.2.2.2)
  have ex:=fun fr=>ext st fr (by omega)
  cases x with
  | drop s=>
   have hs:s.length≤tot c:=by simp only [Pt.n] at sR;omega
   have ad:=ku (a:=st.2.2.1) (b:=s) (by omega)
   refine cO (gk rfl ha rfl hb) (ah (aF (by repeat array_get_dec) (fun _=>?_) fun h=>absurd h (by decide)))
   refine ah (aS (by repeat array_get_dec) rfl rfl (ay (ay ?_)))
   rw [cL];exact ⟨dZ,_,_,.val,.val,rfl⟩
  | put s=>
   have hs:s.length≤tot c:=by simp only [Pt.n] at sR;omega
   have ad:=ku (a:=st.2.2.2) (b:=s) (by omega)
   refine cO (gk rfl ha rfl hb) (ah (aF (by repeat array_get_dec) (fun h=>absurd h (by decide)) fun _=>?_))
   refine ah (aF (by repeat array_get_dec) (fun _=>?_) fun h=>absurd h (by decide))
   refine ah (aS (by repeat array_get_dec) rfl rfl (ay (ay (ay ?_))))
   rw [cL];exact ⟨dZ,_,_,.val,.val,rfl⟩
  | keep k=>
   refine cO (gk rfl ha rfl hb) (ah (aF (by repeat array_get_dec) (fun h=>absurd h (by decide)) fun _=>?_))
   refine ah (aF (by repeat array_get_dec) (fun h=>absurd h (by decide)) fun _=>?_)
   refine ah (aF (by repeat array_get_dec) (fun h=>?_) fun h=>?_)
   ·have hk:0<k:=by have:=of_decide_eq_true h;omega
    by_cases hg:st.2.2.1=[]∧st.2.2.2=[]
    ·have n1:cop .ne (.str st.2.2.1) (.str [])=some false:=by rw [gj,hg.1];rfl
     have n2:cop .ne (.str st.2.2.2) (.str [])=some false:=by rw [gj,hg.2];rfl
     refine ah (aF (b:=false) (j6 (aD rfl (by repeat array_get_dec) rfl) (aD rfl (by repeat array_get_dec) rfl)) (fun h=>absurd h (by decide)) fun _=>ay ?_)
     refine ah (aS (by repeat array_get_dec) rfl rfl (ay (ay (ay (ay ?_)))))
     rw [cL]
     refine ⟨dZ,some (.val (.str dz)),some (.val (.int k)),.val,.val,?_⟩
     simp only [bC,if_pos hk,if_pos hg]
     rw [hg.1,hg.2];rfl
    ·have tt:aK (run F w (n+1)) (.orr (.cmp .ne (.v 3) (.c (.str []))) (.cmp .ne (.v 4) (.c (.str [])))) [some (.val (aU c)),some (.own (st.1.map Pt.v)),some (.val (.int st.2.1)),some (.val (.str st.2.2.1)),some (.val (.str st.2.2.2)),some (.val (.str dz)),some (.val (.int k))]=.ok true [some (.val (aU c)),some (.own (st.1.map Pt.v)),some (.val (.int st.2.1)),some (.val (.str st.2.2.1)),some (.val (.str st.2.2.2)),some (.val (.str dz)),some (.val (.int k))]:=by
      by_cases h3:st.2.2.1=[]
      ·have h4:¬ st.2.2.2=[]:=fun z=>hg ⟨h3,z⟩
       have n1:cop .ne (.str st.2.2.1) (.str [])=some false:=by rw [gj,h3];rfl
       have n2:cop .ne (.str st.2.2.2) (.str [])=some true:=by rw [gj,decide_eq_false h4];rfl
       exact j6 (aD rfl (by repeat array_get_dec) rfl) (aD rfl (by repeat array_get_dec) rfl)
      ·have n1:cop .ne (.str st.2.2.1) (.str [])=some true:=by rw [gj,decide_eq_false h3];rfl
       exact zg (aD rfl (by repeat array_get_dec) rfl)
     refine ah (aF tt (fun _=>?_) fun h=>absurd h (by decide))
     refine ah (d9 (by (repeat (first | array_get_dec | exact rs _ | exact ex _))) ?_)
     refine ah (aS (by repeat array_get_dec) rfl rfl ?_)
     refine ah (aS (by repeat array_get_dec) rfl rfl ?_)
     refine ah (aS (by repeat array_get_dec) rfl rfl (ay ?_))
     refine ah (aS (by repeat array_get_dec) rfl rfl (ay (ay (ay (ay ?_)))))
     rw [cL]
     refine ⟨dZ,some (.val (.str dz)),some (.val (.int k)),.val,.val,?_⟩
     simp only [bC,if_pos hk,if_neg hg]
     rw [Int.zero_add];rfl
   ·have hk:¬ 0<k:=by have:=of_decide_eq_false h;omega
    refine ay (ay (ay (ay ?_)))
    rw [cL]
    refine ⟨dZ,some (.val (.str dz)),some (.val (.int k)),.val,.val,?_⟩
    simp only [bC,if_neg hk];rfl
 ·subst hfr
  simp at hpl
  subst hpl
  obtain ⟨b1,b2,b3⟩:=sQ p eL
  have e:aT p=cP (p.foldl bC eL):=rfl
  rw [e]
  generalize p.foldl bC eL=st at *
  simp [eL] at b1 b2 b3
  have sl:=jP st.2.1 st.2.2.1 st.2.2.2
  have rs:=fun fr=>eW (fr:=fr) (mX (w:=w) (n:=n) hs st.2.1 st.2.2.1 st.2.2.2)
  have ex:=fun fr=>ext st fr (by omega)
  have mk:toT (.lst ((cP st).map Pt.v))=some (aU (cP st)):=by rw [uZ];exact j3 (bN (by simp [cP];omega))
  refine ah (d9 (by (repeat (first | array_get_dec | exact rs _ | exact ex _))) ?_)
  exact ah (bI (wN (av rfl) mk) ⟨rfl,rfl⟩)
end Pv
namespace Pv
open Ev (D bW bQ TY BI ME T E Es Eo It S Ss Fn big deep b2i rep b6 dY bK aQ cut cG dW slots)
section
variable {o:Option Sl}{l:List V}{fr:Fr}{i:Nat}{s:Sl}
end
inductive Tq where
 | at (i:Nat) | sg (c:Nat)
deriving DecidableEq
noncomputable def Pt.asks:Pt→List (List Nat)
 | .keep n=>List.replicate n []
 | .drop s=>s.map fun c=>[c]
 | .put _=>[]
noncomputable def asks (c:List Pt):List (List Nat):=c.flatMap Pt.asks
noncomputable def Pt.told (k:Nat):Pt→List Tq
 | .keep n=>(List.range n).map fun j=>.at (k+j)
 | .drop _=>[]
 | .put s=>s.map .sg
noncomputable def told (k:Nat):List Pt→List Tq
 | []=>[]
 | p :: c=>p.told k++told (k+p.asks.length) c
theorem dS (a b:List Pt):asks (a++b)=asks a++asks b:=by simp [asks]
theorem ef (a b:List Pt):∀ k,told k (a++b)=told k a++told (k+(asks a).length) b:=by
 induction a with
 | nil=>intro k;simp [told,asks]
 | cons p a ih=>
  intro k
  simp only [List.cons_append,told,ih,List.append_assoc]
  congr 3
  simp [asks];omega
theorem Bv (k:Nat) (p:Pt):(p.told k).length≤p.n:=by cases p <;> simp [Pt.told,Pt.n]
theorem GN (c:List Pt):∀ k,(told k c).length≤tot c:=by
 induction c with
 | nil=>intro k;simp [told]
 | cons p c ih=>intro k;have:=Bv k p;have:=ih (k+p.asks.length);simp only [told,List.length_append,bU];omega
noncomputable def jB (c:List Pt):List (List Nat)×List Tq:=(asks c,told 0 c)
noncomputable def Pt.word:Pt→List Nat
 | .keep _=>dz
 | .put _=>kB
 | .drop _=>iO
noncomputable def oS (a b:List Nat):Bool:=!(decide (a=b) || (decide (a=kB)&&decide (b=iO)))
noncomputable def jQ:List (List Nat)→Bool
 | a :: b :: r=>oS a b&&jQ (b :: r)
 | _=>true
noncomputable def Lk (p:Pt):Bool:=p.n != 0
noncomputable def j7 (c:List Pt):Bool:=jQ (c.map Pt.word)&&c.all Lk
theorem eO (k:Nat) (g x:List Nat):asks (bV k g x)=List.replicate k []++g.map fun c=>[c]:=by
  unfold bV
  by_cases hk:0<k <;> by_cases hg:g=[] <;> by_cases hx:x=[] <;> simp [hk,hg,hx,asks,Pt.asks]
  all_goals (have:k=0:=by omega
             subst this;simp)
theorem gQ (k:Nat) (g x:List Nat) (j:Nat):told j (bV k g x)=(List.range k).map (fun i=>Tq.at (j+i))++x.map Tq.sg:=by
  unfold bV
  by_cases hk:0<k <;> by_cases hg:g=[] <;> by_cases hx:x=[] <;> simp [hk,hg,hx,told,Pt.told,Pt.asks]
  all_goals (have:k=0:=by omega
             subst this;simp)
theorem wW (st:FS) (p:Pt):asks (cP (bC st p))=asks (cP st++[p])∧∀ j,told j (cP (bC st p))=told j (cP st++[p]):=by
 obtain ⟨ps,k,g,x⟩:=st
 have e1:∀ a:List Pt,asks (a++[p])=asks a++p.asks:=fun a=>by simp [asks]
 have e2:∀ (a:List Pt) j,told j (a++[p])=told j a++p.told (j+(asks a).length):=fun a j=>by simp [ef,told]
 rw [e1]
 cases p with
 | drop s=>
  refine ⟨by simp [bC,cP,dS,eO,Pt.asks],fun j=>?_⟩
  rw [e2]
  simp [bC,cP,ef,gQ,Pt.told]
 | put s=>
  refine ⟨by simp [bC,cP,dS,eO,Pt.asks],fun j=>?_⟩
  rw [e2]
  simp [bC,cP,ef,gQ,Pt.told]
 | keep m=>
  simp only [bC]
  split
  ·split
   ·rename_i h
    obtain ⟨rfl,rfl⟩:=h
    refine ⟨by simp [cP,dS,eO,Pt.asks],fun j=>?_⟩
    rw [e2]
    simp [cP,dS,ef,gQ,eO,Pt.told,List.range_add,Nat.add_assoc]
   ·refine ⟨by simp [cP,dS,eO,Pt.asks],fun j=>?_⟩
    rw [e2]
    simp [cP,dS,ef,gQ,eO,Pt.told,Nat.add_assoc]
  ·rename_i h
   have:m=0:=by omega
   subst this
   refine ⟨by simp [Pt.asks],fun j=>?_⟩
   rw [e2]
   simp [Pt.told]
theorem oU (c:List Pt):∀ st:FS,asks (cP (c.foldl bC st))=asks (cP st++c)∧∀ j,told j (cP (c.foldl bC st))=told j (cP st++c):=by
 induction c with
 | nil=>intro st;simp
 | cons p c ih=>
  intro st
  obtain ⟨h1,h2⟩:=ih (bC st p)
  obtain ⟨h3,h4⟩:=wW st p
  simp only [List.foldl_cons]
  have e:cP st++p :: c=(cP st++[p])++c:=by simp
  refine ⟨?_,fun j=>?_⟩
  ·rw [h1,e,dS,dS _ c,h3]
  ·rw [h2 j,e,ef,ef _ c,h4 j,h3]
theorem fF (c:List Pt):asks (aT c)=asks c:=by
 have:=(oU c eL).1
 simpa [aT,eL,cP,bV] using this
theorem dF (c:List Pt) (j:Nat):told j (aT c)=told j c:=by
 have:=(oU c eL).2 j
 simpa [aT,eL,cP,bV] using this
theorem kD (c:List Pt):jB (aT c)=jB c:=by simp [jB,fF,dF]
noncomputable def kps (c:List Pt):Nat:=tot (c.filter eK)
theorem kE (c:List Pt):(asks c).length=az c:=by
 induction c with
 | nil=>rfl
 | cons p c ih=>cases p <;> simp [asks,az,tot,eE,Pt.asks,Pt.n] at ih ⊢ <;> omega
theorem kF (c:List Pt):∀ j,(told j c).length=fT c:=by
 induction c with
 | nil=>intro j;rfl
 | cons p c ih=>intro j;cases p <;> simp [told,fT,tot,dw,Pt.told,Pt.n,ih] at ih ⊢
theorem jC (n:Nat) (c:List Pt):az (.keep n :: c)=n+az c:=by simp [az,tot,eE,Pt.n]
theorem kG (s:List Nat) (c:List Pt):az (.drop s :: c)=s.length+az c:=by simp [az,tot,eE,Pt.n]
theorem jD (s:List Nat) (c:List Pt):az (.put s :: c)=az c:=by simp [az,tot,eE,Pt.n]
theorem wX (n:Nat) (c:List Pt):fT (.keep n :: c)=n+fT c:=by simp [fT,tot,dw,Pt.n]
theorem wY (s:List Nat) (c:List Pt):fT (.drop s :: c)=fT c:=by simp [fT,tot,dw,Pt.n]
theorem wZ (s:List Nat) (c:List Pt):fT (.put s :: c)=s.length+fT c:=by simp [fT,tot,dw,Pt.n]
theorem Dv (n:Nat) (c:List Pt):cst (.keep n :: c)=cst c:=by simp [cst,tot,eK,Pt.n]
theorem Dw (s:List Nat) (c:List Pt):cst (.drop s :: c)=s.length+cst c:=by simp [cst,tot,eK,Pt.n]
theorem Dy (s:List Nat) (c:List Pt):cst (.put s :: c)=s.length+cst c:=by simp [cst,tot,eK,Pt.n]
theorem Dz (n:Nat) (c:List Pt):kps (.keep n :: c)=n+kps c:=by simp [kps,tot,List.filter_cons,eK,Pt.n]
theorem DA (s:List Nat) (c:List Pt):kps (.drop s :: c)=kps c:=by simp [kps,tot,eK,Pt.n]
theorem DB (s:List Nat) (c:List Pt):kps (.put s :: c)=kps c:=by simp [kps,tot,eK,Pt.n]
noncomputable def isAt:Tq→Bool
 | .at _=>true
 | _=>false
theorem zq (c:List Pt):∀ j,((told j c).filter isAt).length=kps c:=by
 induction c with
 | nil=>intro j;rfl
 | cons p c ih=>
  intro j
  have e1:∀ (m:Nat) (f:Nat→Nat),(((List.range m).map fun i=>Tq.at (f i)).filter isAt).length=m:=fun m f=>by
   rw [List.filter_eq_self.mpr]
   ·simp
   ·intro a ha;obtain ⟨i,_,rfl⟩:=List.mem_map.mp ha;rfl
  have e2:∀ s:List Nat,((s.map Tq.sg).filter isAt).length=0:=fun s=>by
   rw [List.filter_eq_nil_iff.mpr]
   ·rfl
   ·intro a ha;obtain ⟨i,_,rfl⟩:=List.mem_map.mp ha;simp [isAt]
  cases p with
  | keep m=>simp only [told,Pt.told,List.filter_append,List.length_append,e1,ih,kps,tot,eK,List.filter_cons,if_true,List.map_cons,List.sum_cons,Pt.n]
  | put s=>simp only [told,Pt.told,List.filter_append,List.length_append,e2,ih,kps,eK,List.filter_cons];simp
  | drop s=>simp only [told,Pt.told,List.filter_append,List.length_append,ih,kps,eK,List.filter_cons];simp
theorem zu (c:List Pt):(cst c:Int)=az c - kps c+fT c - kps c:=by
 induction c with
 | nil=>rfl
 | cons p c ih=>cases p <;> simp only [Dv,Dw,Dy,jC,kG,jD,wX,wY,wZ,Dz,DA,DB] <;> omega
theorem zv (c:List Pt):tot c+kps c=az c+fT c:=by
 induction c with
 | nil=>rfl
 | cons p c ih=>cases p <;> simp only [bU,Pt.n,jC,kG,jD,wX,wY,wZ,Dz,DA,DB] <;> omega
theorem sS (c:List Pt):az (aT c)=az c:=by rw [←kE,←kE,fF]
theorem sU (c:List Pt):fT (aT c)=fT c:=by rw [←kF _ 0,←kF _ 0,dF]
theorem sV (c:List Pt):kps (aT c)=kps c:=by rw [←zq _ 0,←zq _ 0,dF]
theorem nD (c:List Pt):cst (aT c)=cst c:=by
 have h1:=zu (aT c)
 have h2:=zu c
 rw [sS,sU,sV] at h1
 omega
theorem gn (c:List Pt):tot (aT c)=tot c:=by
 have h1:=zv (aT c)
 have h2:=zv c
 rw [sS,sU,sV] at h1
 omega
theorem u9:∀ (a:List (List Nat)) (b:List (List Nat)),jQ (a++b)=true↔jQ a=true∧jQ b=true∧∀ x∈a.getLast?,∀ y∈b.head?,oS x y=true
 | [],b=>by simp [jQ]
 | [x],[]=>by simp [jQ]
 | [x],y :: b=>by simp [jQ,and_comm]
 | x :: y :: a,b=>by
  have:=u9 (y :: a) b
  simp only [List.cons_append] at this ⊢
  simp only [jQ,Bool.and_eq_true,this,List.getLast?_cons_cons]
  constructor
  ·rintro ⟨h1,h2,h3,h4⟩;exact ⟨⟨h1,h2⟩,h3,h4⟩
  ·rintro ⟨⟨h1,h2⟩,h3,h4⟩;exact ⟨h1,h2,h3,h4⟩
theorem t9 (k:Nat) (g x:List Nat):j7 (bV k g x)=true:=by
 unfold bV
 by_cases hk:0<k <;> by_cases hg:g=[] <;> by_cases hx:x=[] <;> simp [hk,hg,hx,j7,Lk,jQ,oS,Pt.word,Pt.n,dz,kB,iO]
 all_goals omega
noncomputable def sW (st:FS):Prop:=j7 st.1=true∧(st.1≠[]→0<st.2.1)∧∀ p∈st.1.getLast?,p.word≠dz
theorem GO {a b:List Pt}(ha:j7 a=true) (hb:j7 b=true) (h:∀ p∈a.getLast?,∀ q∈b.head?,oS p.word q.word=true):j7 (a++b)=true:=by
 simp only [j7,Bool.and_eq_true] at ha hb ⊢
 refine ⟨?_,by rw [List.all_append,ha.2,hb.2];rfl⟩
 rw [List.map_append,u9]
 refine ⟨ha.1,hb.1,fun x hx y hy=>?_⟩
 simp at hx hy
 obtain ⟨p,hp,rfl⟩:=hx
 obtain ⟨q,hq,rfl⟩:=hy
 exact h p hp q hq
theorem sX {k:Nat}{g x:List Nat}(hk:0<k):(bV k g x).head?=some (.keep k):=by simp [bV,hk]
theorem GP {w:List Nat}(h:w≠dz) (hw:w=kB∨w=iO):oS w dz=true:=by
 rcases hw with rfl | rfl <;> decide
theorem GQ (p:Pt):p.word=dz∨p.word=kB∨p.word=iO:=by cases p <;> simp [Pt.word]
theorem sY {st:FS}(h:sW st):j7 (cP st)=true:=by
 refine GO h.1 (t9 _ _ _) fun p hp q hq=>?_
 have hne:st.1≠[]:=by intro z;rw [z] at hp;simp at hp
 rw [sX (h.2.1 hne)] at hq
 simp at hq;subst hq
 have hw:=h.2.2 p hp
 exact GP hw ((GQ p).resolve_left hw)
theorem sZ {k:Nat}{g x:List Nat}(h:¬ (g=[]∧x=[])):∀ p∈(bV k g x).getLast?,p.word≠dz:=by
 unfold bV
 by_cases hx:x=[]
 ·have hg:g≠[]:=fun z=>h ⟨z,hx⟩
  intro p hp
  simp [hg,hx] at hp
  subst hp
  simp [Pt.word,iO,dz]
 ·intro p hp
  simp [hx] at hp
  subst hp
  simp [Pt.word,kB,dz]
theorem zw {st:FS}(h:sW st) (p:Pt):sW (bC st p):=by
 cases p with
 | drop s=>exact h
 | put s=>exact h
 | keep k=>
  simp only [bC]
  split
  ·rename_i hk
   split
   ·exact ⟨h.1,fun z=>by simp;omega,h.2.2⟩
   ·rename_i QH
    refine ⟨sY h,fun _=>hk,fun p hp=>?_⟩
    rw [List.getLast?_append] at hp
    cases z:(bV st.2.1 st.2.2.1 st.2.2.2).getLast? with
    | none=>
     exfalso
     rw [List.getLast?_eq_none_iff] at z
     unfold bV at z
     by_cases hx:st.2.2.2=[] <;> by_cases hg:st.2.2.1=[] <;> simp [hx,hg] at z QH
    | some q=>
     rw [z] at hp
     simp at hp
     subst hp
     exact sZ QH q z
  ·exact h
theorem g7 (c:List Pt):j7 (aT c)=true:=by
 have:∀ (c:List Pt) (st:FS),sW st→sW (c.foldl bC st):=fun c=>by
  induction c with
  | nil=>exact fun st h=>h
  | cons p c ih=>exact fun st h=>ih _ (zw h p)
 exact sY (this c eL ⟨rfl,fun z=>absurd rfl z,fun p hp=>by simp [eL] at hp⟩)
end Pv
namespace Pv
open Ev (D bW bQ TY BI ME T E Es Eo It S Ss Fn big deep b2i rep b6 dY bK aQ cut cG dW slots)
abbrev Bl:=List Nat×List Nat
abbrev BS:=List Bl×Bl
noncomputable def dX (st:BS):Pt→BS
 | .drop s=>(st.1,(st.2.1++s,st.2.2))
 | .put s=>(st.1,(st.2.1,st.2.2++s))
 | .keep 0=>st
 | .keep (n+1)=>(st.1++st.2 :: List.replicate n ([],[]),([],[]))
noncomputable def mY:BS:=([],([],[]))
noncomputable def blocks (c:List Pt):BS:=c.foldl dX mY
noncomputable def j8 (st:List Pt×Nat) (b:Bl):List Pt×Nat:=if b.1=[]∧b.2=[] then (st.1,st.2+1) else (st.1++bV st.2 b.1 b.2,1)
noncomputable def pk (bs:List Bl):List Pt×Nat:=bs.foldl j8 ([],0)
theorem Bw (n:Nat):∀ st:List Pt×Nat,(List.replicate n (([],[]):Bl)).foldl j8 st=(st.1,st.2+n):=by
 induction n with
 | zero=>intro st;simp
 | succ n ih=>intro st;simp [List.replicate_succ,j8,ih];omega
noncomputable def vc (st:BS):FS:=((pk st.1).1,(pk st.1).2,st.2.1,st.2.2)
theorem Bx (st:BS) (p:Pt):bC (vc st) p=vc (dX st p):=by
 obtain ⟨bs,g,x⟩:=st
 cases p with
 | drop s=>rfl
 | put s=>rfl
 | keep n=>
  cases n with
  | zero=>rfl
  | succ n=>
   have e:pk (bs++(g,x) :: List.replicate n ([],[]))=((j8 (pk bs) (g,x)).1,(j8 (pk bs) (g,x)).2+n):=by
    simp only [pk,List.foldl_append,List.foldl_cons,Bw]
   simp only [vc,dX,e,bC,Nat.succ_pos,if_true,j8]
   by_cases h:g=[]∧x=[]
   ·simp [h];omega
   ·simp [h];omega
theorem By (c:List Pt):∀ st:BS,c.foldl bC (vc st)=vc (c.foldl dX st):=by
 induction c with
 | nil=>intro st;rfl
 | cons p c ih=>intro st;simp only [List.foldl_cons,Bx,ih]
theorem iz (c:List Pt):aT c=cP (vc (blocks c)):=by
 unfold aT blocks
 rw [←By];rfl
noncomputable def zx (st:List (List Nat)×List Nat):List Nat→List (List Nat)×List Nat
 | []=>(st.1++[st.2],[])
 | c :: _=>(st.1,st.2++[c])
noncomputable def spT (st:List (List Nat)×List Nat):Tq→List (List Nat)×List Nat
 | .at _=>(st.1++[st.2],[])
 | .sg c=>(st.1,st.2++[c])
theorem zy (s:List Nat):∀ st,(s.map fun c=>[c]).foldl zx st=(st.1,st.2++s):=by
 induction s with
 | nil=>intro st;simp
 | cons c s ih=>intro st;simp [zx,ih]
theorem BA (n:Nat):∀ st,(List.replicate n []).foldl zx st=if n=0 then st else (st.1++st.2 :: List.replicate (n - 1) [],[]):=by
 induction n with
 | zero=>intro st;rfl
 | succ n ih=>
  intro st
  simp only [List.replicate_succ,List.foldl_cons,zx,ih]
  cases n with
  | zero=>simp
  | succ n=>simp [List.replicate_succ]
theorem zz (s:List Nat):∀ st,(s.map Tq.sg).foldl spT st=(st.1,st.2++s):=by
 induction s with
 | nil=>intro st;simp
 | cons c s ih=>intro st;simp [spT,ih]
theorem BB (n:Nat):∀ (k:Nat) st,((List.range n).map fun j=>Tq.at (k+j)).foldl spT st=if n=0 then st else (st.1++st.2 :: List.replicate (n - 1) [],[]):=by
 induction n with
 | zero=>intro k st;rfl
 | succ n ih=>
  intro k st
  rw [List.range_succ,List.map_append,List.foldl_append,ih]
  cases n with
  | zero=>simp [spT]
  | succ n=>
   simp [spT]
   rw [←List.replicate_succ',List.replicate_succ]
theorem oV (c:List Pt):∀ st:BS,(asks c).foldl zx (st.1.map Prod.fst,st.2.1)=((c.foldl dX st).1.map Prod.fst,(c.foldl dX st).2.1):=by
 induction c with
 | nil=>intro st;rfl
 | cons p c ih=>
  intro st
  have e:asks (p :: c)=p.asks++asks c:=by simp [asks]
  rw [e,List.foldl_append,List.foldl_cons,←ih]
  congr 1
  cases p with
  | drop s=>simp [Pt.asks,zy,dX]
  | put s=>simp [Pt.asks,dX]
  | keep n=>
   simp only [Pt.asks,BA]
   cases n with
   | zero=>rfl
   | succ n=>simp [dX]
theorem oW (c:List Pt):∀ (k:Nat) (st:BS),(told k c).foldl spT (st.1.map Prod.snd,st.2.2)=((c.foldl dX st).1.map Prod.snd,(c.foldl dX st).2.2):=by
 induction c with
 | nil=>intro k st;rfl
 | cons p c ih=>
  intro k st
  rw [told,List.foldl_append,List.foldl_cons,←ih (k+p.asks.length)]
  congr 1
  cases p with
  | put s=>simp [Pt.told,zz,dX]
  | drop s=>simp [Pt.told,dX]
  | keep n=>
   simp only [Pt.told,BB]
   cases n with
   | zero=>rfl
   | succ n=>simp [dX]
theorem vd {α β:Type}:∀ {a b:List (α×β)},a.map Prod.fst=b.map Prod.fst→a.map Prod.snd=b.map Prod.snd→a=b
 | [],[],_,_=>rfl
 | [],_ :: _,h,_=>by simp at h
 | _ :: _,[],h,_=>by simp at h
 | (x,y) :: a,(x',y') :: b,h1,h2=>by
  simp at h1 h2
  rw [h1.1,h2.1,vd h1.2 h2.2]
theorem lR {a b:List Pt}(h:jB a=jB b):blocks a=blocks b:=by
 have hA:asks a=asks b:=congrArg Prod.fst h
 have hT:told 0 a=told 0 b:=congrArg Prod.snd h
 have a1:=oV a mY
 have b1:=oV b mY
 have a2:=oW a 0 mY
 have b2:=oW b 0 mY
 rw [hA,b1] at a1
 rw [hT,b2] at a2
 have e1:=congrArg Prod.fst a1
 have e2:=congrArg Prod.snd a1
 have e3:=congrArg Prod.fst a2
 have e4:=congrArg Prod.snd a2
 unfold blocks
 exact Prod.ext (vd e1.symm e3.symm) (Prod.ext e2.symm e4.symm)
theorem nE (a b:List Pt):aT a=aT b↔jB a=jB b:=by
 constructor
 ·intro h
  rw [←kD a,←kD b,h]
 ·intro h
  rw [iz,iz,lR h]
theorem jE (a:List Pt):aT (aT a)=aT a:=(nE _ _).mpr (kD a)
noncomputable def Pt.sw:Pt→Pt
 | .keep n=>.keep n
 | .put s=>.drop s
 | .drop s=>.put s
noncomputable def sw (c:List Pt):List Pt:=c.map Pt.sw
theorem qH (c:List Pt):∀ st:BS,(sw c).foldl dX (st.1.map Prod.swap,st.2.swap)=((c.foldl dX st).1.map Prod.swap,(c.foldl dX st).2.swap):=by
 induction c with
 | nil=>intro st;rfl
 | cons p c ih=>
  intro st
  simp only [sw,List.map_cons,List.foldl_cons] at ih ⊢
  rw [←ih]
  congr 1
  cases p with
  | put s=>rfl
  | drop s=>rfl
  | keep n=>cases n <;> simp [Pt.sw,dX]
theorem GR {a b:List Pt}(h:aT a=aT b):aT (sw a)=aT (sw b):=by
 have hb:=lR ((nE a b).mp h)
 rw [iz,iz]
 have a1:=qH a mY
 have b1:=qH b mY
 have e:blocks (sw a)=blocks (sw b):=by
  unfold blocks at hb ⊢
  have z:((mY.1.map Prod.swap,mY.2.swap):BS)=mY:=rfl
  rw [z] at a1 b1
  rw [a1,b1,hb]
 rw [e]
noncomputable def Uc (c:List Pt):List Pt:=aT (sw c)
theorem Ll (c:List Pt):az (sw c)=fT c:=by
 induction c with
 | nil=>rfl
 | cons p c ih=>cases p <;> simp only [sw,List.map_cons,Pt.sw,jC,kG,jD,wX,wY,wZ] at ih ⊢ <;> omega
noncomputable def aP:List Pt→List Nat→Bool
 | [],t=>t.isEmpty
 | .keep n :: c,t=>decide (n≤t.length)&&aP c (t.drop n)
 | .drop s :: c,t=>s.isPrefixOf t&&aP c (t.drop s.length)
 | .put _ :: c,t=>aP c t
noncomputable def aC:List Pt→List Nat→List Nat
 | [],_=>[]
 | .keep n :: c,t=>t.take n++aC c (t.drop n)
 | .drop s :: c,t=>aC c (t.drop s.length)
 | .put s :: c,t=>s++aC c t
noncomputable def aW:List (List Nat)→List Nat→Bool
 | [],[]=>true
 | x :: a,c :: t=>(decide (x=[]) || decide (x=[c]))&&aW a t
 | _,_=>false
theorem zA (n:Nat) (a:List (List Nat)):∀ t,aW (List.replicate n []++a) t=(decide (n≤t.length)&&aW a (t.drop n)):=by
 induction n with
 | zero=>intro t;simp
 | succ n ih=>
  intro t
  cases t with
  | nil=>simp [List.replicate_succ,aW]
  | cons c t=>simp [List.replicate_succ,aW,ih]
theorem zB (s:List Nat) (a:List (List Nat)):∀ t,aW ((s.map fun c=>[c])++a) t=(s.isPrefixOf t&&aW a (t.drop s.length)):=by
 induction s with
 | nil=>intro t;simp
 | cons c s ih=>
  intro t
  cases t with
  | nil=>simp [aW]
  | cons d t=>
   simp only [List.map_cons,List.cons_append,aW,ih,List.isPrefixOf,List.length_cons,List.drop_succ_cons]
   by_cases h:c=d <;> simp [h]
theorem fG (c:List Pt):∀ t,aP c t=aW (asks c) t:=by
 induction c with
 | nil=>intro t;cases t <;> rfl
 | cons p c ih=>
  intro t
  have e:asks (p :: c)=p.asks++asks c:=by simp [asks]
  rw [e]
  cases p with
  | keep n=>simp [aP,Pt.asks,zA,ih]
  | drop s=>simp [aP,Pt.asks,zB,ih]
  | put s=>simp [aP,Pt.asks,ih]
theorem tu (c:List Pt) (t:List Nat):aP (aT c) t=aP c t:=by rw [fG,fG,fF]
noncomputable def pick (t:List Nat):Tq→List Nat
 | .at i=>(t[i]?).toList
 | .sg c=>[c]
theorem zC (c:List Pt):∀ (t:List Nat) (k:Nat),aC c (t.drop k)=(told k c).flatMap (pick t):=by
 induction c with
 | nil=>intro t k;rfl
 | cons p c ih=>
  intro t k
  rw [told,List.flatMap_append,←ih]
  cases p with
  | put s=>
   simp only [aC,Pt.told,Pt.asks,List.length_nil,Nat.add_zero]
   congr 1
   induction s with
   | nil=>rfl
   | cons c s ih=>simp [pick] at ih ⊢;exact ih
  | drop s=>simp [aC,Pt.told,Pt.asks,Nat.add_comm]
  | keep n=>
   simp only [aC,Pt.told,Pt.asks,List.length_replicate,List.drop_drop]
   congr 1
   induction n generalizing k with
   | zero=>simp
   | succ n ihn=>
    rw [List.range_succ,List.map_append,List.flatMap_append,←ihn]
    rw [List.take_add_one]
    simp [pick]
theorem gw (c:List Pt) (t:List Nat):aC (aT c) t=aC c t:=by
 have h1:=zC (aT c) t 0
 have h2:=zC c t 0
 rw [dF,←h2] at h1
 simpa using h1
theorem BC (c:List Pt):∀ t,aP c t=true→aP (sw c) (aC c t)=true∧aC (sw c) (aC c t)=t:=by
 induction c with
 | nil=>intro t h;simp [aP] at h;subst h;simp [sw,aP,aC]
 | cons p c ih=>
  intro t h
  cases p with
  | keep n=>
   simp only [aP,Bool.and_eq_true,decide_eq_true_eq] at h
   obtain ⟨h1,h2⟩:=ih _ h.2
   have hl:(t.take n).length=n:=by simp;omega
   simp only [sw,List.map_cons,Pt.sw,aC,aP] at h1 h2 ⊢
   have e1:(t.take n++aC c (t.drop n)).drop n=aC c (t.drop n):=by rw [List.drop_append_of_le_length (by omega),List.drop_eq_nil_of_le (by omega)];rfl
   have e2:(t.take n++aC c (t.drop n)).take n=t.take n:=by rw [List.take_append_of_le_length (by omega),List.take_take,Nat.min_self]
   rw [e1,e2,h1,h2]
   simp
   omega
  | drop s=>
   simp only [aP,Bool.and_eq_true] at h
   obtain ⟨h1,h2⟩:=ih _ h.2
   simp only [sw,List.map_cons,Pt.sw,aC,aP] at h1 h2 ⊢
   rw [h2]
   refine ⟨h1,?_⟩
   obtain ⟨r,rfl⟩:=List.isPrefixOf_iff_prefix.mp h.1
   simp
  | put s=>
   simp only [aP] at h
   obtain ⟨h1,h2⟩:=ih _ h
   simp only [sw,List.map_cons,Pt.sw,aC,aP] at h1 h2 ⊢
   simp [h1,h2]
end Pv
namespace Pv
open Ev (D bW bQ TY BI ME T E Es Eo It S Ss Fn big deep b2i rep b6 dY bK aQ cut cG dW slots)
noncomputable def BD:S:=.set 2 (.c (.int 0))
noncomputable def BE (bO:Nat):Ss:=(.cons (.iff (.an (.cmp .eq (.ix (.v 3) (.c (.int 0))) (.c (.str [100,114,111,112]))) (.cmp .ne (.sl (.v 1) (.yes (.v 2)) (.yes (.bin .add (.v 2) (.cl bO (.cons (.v 3) .nil))))) (.ix (.v 3) (.c (.int 1))))) (.cons (.ret (.c (.bl false))) .nil) .nil) (.cons (.iff (.cmp .ne (.ix (.v 3) (.c (.int 0))) (.c (.str [112,117,116]))) (.cons (.set 2 (.bin .add (.v 2) (.cl bO (.cons (.v 3) .nil)))) .nil) .nil) .nil))
noncomputable def BF (bO:Nat):S:=.for (.one 3) (.seq (.v 0)) (BE bO)
noncomputable def BG:S:=.ret (.cmp .eq (.v 2) (.bi .len (.cons (.v 1) .nil)))
noncomputable def zD (bO:Nat):Fn:=⟨2,4,(.cons BD (.cons (BF bO) (.cons BG .nil)))⟩
noncomputable def BH (tB:Nat):S:=.iff (.nt (.cl tB (.cons (.v 0) (.cons (.v 1) .nil)))) (.cons (.fR) .nil) .nil
noncomputable def BJ:S:=.set 2 (.lst .nil)
noncomputable def BK:S:=.set 3 (.c (.int 0))
noncomputable def BL:Ss:=(.cons (.iff (.cmp .eq (.v 4) (.c (.str [112,117,116]))) (.cons (.exp (.me .append (.v 2) (.cons (.v 5) .nil))) .nil) (.cons (.iff (.cmp .eq (.v 4) (.c (.str [100,114,111,112]))) (.cons (.set 3 (.bin .add (.v 3) (.bi .len (.cons (.v 5) .nil)))) .nil) (.cons (.exp (.me .append (.v 2) (.cons (.sl (.v 1) (.yes (.v 3)) (.yes (.bin .add (.v 3) (.v 5)))) .nil))) (.cons (.set 3 (.bin .add (.v 3) (.v 5))) .nil))) .nil)) .nil)
noncomputable def BN:S:=.for (.many [4,5]) (.seq (.v 0)) BL
noncomputable def BO:S:=.ret (.me .join (.c (.str [])) (.cons (.v 2) .nil))
noncomputable def Lm (tB:Nat):Fn:=⟨2,6,(.cons (BH tB) (.cons BJ (.cons BK (.cons BN (.cons BO .nil)))))⟩
noncomputable def ua (dg:Nat):S:=.ret (.cl dg (.cons (.tup (.cons (.tup (.cons (.c (.str [107,101,101,112])) (.cons (.v 0) .nil))) .nil)) .nil))
noncomputable def lS (dg:Nat):Fn:=⟨1,1,(.cons (ua dg) .nil)⟩
noncomputable def BP:S:=.set 2 (.c (.int 0))
noncomputable def BQ:S:=.set 3 (.c (.str []))
noncomputable def BR:Ss:=(.cons (.iff (.cmp .eq (.v 4) (.c (.str [112,117,116]))) (.cons (.set 3 (.bin .add (.v 3) (.v 5))) .nil) (.cons (.iff (.cmp .eq (.v 4) (.c (.str [100,114,111,112]))) (.cons (.iff (.cmp .ne (.sl (.v 1) (.yes (.v 2)) (.yes (.bin .add (.v 2) (.bi .len (.cons (.v 5) .nil))))) (.v 5)) (.cons (.ret (.c (.aY))) .nil) .nil) (.cons (.set 2 (.bin .add (.v 2) (.bi .len (.cons (.v 5) .nil)))) .nil)) (.cons (.set 3 (.bin .add (.v 3) (.sl (.v 1) (.yes (.v 2)) (.yes (.bin .add (.v 2) (.v 5)))))) (.cons (.set 2 (.bin .add (.v 2) (.v 5))) .nil))) .nil)) .nil)
noncomputable def BU:S:=.for (.many [4,5]) (.seq (.v 0)) BR
noncomputable def BV:S:=.ret (.gT (.cmp .eq (.v 2) (.bi .len (.cons (.v 1) .nil))) (.v 3) (.c (.aY)))
noncomputable def Ln:Fn:=⟨2,6,(.cons BP (.cons BQ (.cons BU (.cons BV .nil))))⟩
theorem jj {α:Type}(l:List α) (p k:Nat):cut l (some (p:Int)) (some ((p:Int)+k))=(l.drop p).take k:=by
 have h1:¬ (p:Int)<0:=by omega
 have h2:¬ (p:Int)+k<0:=by omega
 have h3:((p:Int)+k).toNat=p+k:=by omega
 simp only [cut,aQ,h1,h2,if_false,h3,Int.toNat_natCast]
 by_cases hp:p≤l.length
 ·rw [Nat.min_eq_left hp]
  by_cases hk:p+k≤l.length
  ·rw [Nat.min_eq_left hk];congr 1;omega
  ·rw [Nat.min_eq_right (by omega),List.take_of_length_le (by simp),List.take_of_length_le (by simp;omega)]
 ·have e1:min p l.length=l.length:=by omega
  rw [e1,List.drop_eq_nil_of_le (Nat.le_refl _),List.drop_eq_nil_of_le (by omega)]
  simp
theorem pre_take {s t:List Nat}:s.isPrefixOf t=decide (t.take s.length=s):=by
 cases h:s.isPrefixOf t with
 | true=>
  obtain ⟨r,rfl⟩:=List.isPrefixOf_iff_prefix.mp h
  simp
 | false=>
  symm
  rw [decide_eq_false_iff_not]
  intro e
  have:s.isPrefixOf t=true:=List.isPrefixOf_iff_prefix.mpr (by have z:=List.take_prefix s.length t;rw [e] at z;exact z)
  rw [h] at this;cases this
theorem gx (a b:List Pt):az (a++b)=az a+az b:=by simp [az,tot]
theorem gy {c:List Pt}:∀ {t:List Nat},aP c t=true→t.length=az c:=by
 induction c with
 | nil=>intro t h;simp [aP] at h;subst h;rfl
 | cons p c ih=>
  intro t h
  cases p with
  | keep n=>simp only [aP,Bool.and_eq_true,decide_eq_true_eq] at h;have:=ih h.2;rw [jC];simp at this;omega
  | drop s=>
   simp only [aP,Bool.and_eq_true] at h
   have h2:=ih h.2
   obtain ⟨r,rfl⟩:=List.isPrefixOf_iff_prefix.mp h.1
   rw [kG];simp at h2 ⊢;omega
  | put s=>rw [jD];exact ih h
theorem jk (c:List Pt):∀ t,(aC c t).length≤t.length+tot c:=by
 induction c with
 | nil=>intro t;simp [aC]
 | cons p c ih=>
  intro t
  rw [bU]
  cases p with
  | keep n=>have:=ih (t.drop n);simp [aC,Pt.n] at this ⊢;omega
  | drop s=>have:=ih (t.drop s.length);simp [aC,Pt.n] at this ⊢;omega
  | put s=>have:=ih t;simp [aC,Pt.n] at this ⊢;omega
section
variable {F:List Fn}{w n aL oX cK bP i:Nat}
theorem BW (c:List Pt) (t:List Nat) (q:Nat) (p:Pt) (l:List Pt) (h:aP c t=(decide (q≤t.length)&&aP (p :: l) (t.drop q))) :
  (dw p=true→(∃ s,p=.drop s∧(if (t.drop q).take s.length=s then aP c t=(decide (q+s.length≤t.length)&&aP l (t.drop (q+s.length))) else aP c t=false)))∧
  (dw p=false→aP c t=(decide (q+az [p]≤t.length)&&aP l (t.drop (q+az [p])))):=by
 cases p with
 | drop s=>
  refine ⟨fun _=>⟨s,rfl,?_⟩,fun z=>by simp [dw] at z⟩
  simp only [aP,pre_take,List.drop_drop] at h
  split
  ·rename_i hs
   rw [h]
   simp only [hs,decide_true,Bool.true_and]
   have hl:=congrArg List.length hs
   simp at hl
   by_cases hq:q≤t.length
   ·by_cases hq2:q+s.length≤t.length
    ·simp [hq,hq2]
    ·omega
   ·have:¬ q+s.length≤t.length:=by omega
    simp [hq,this]
  ·rename_i hs
   rw [h];simp [hs]
 | keep k=>
  refine ⟨fun z=>by simp [dw] at z,fun _=>?_⟩
  have e:az [.keep k]=k:=by rw [jC];rfl
  rw [h,e]
  simp only [aP,List.drop_drop,List.length_drop]
  by_cases hq:q≤t.length
  ·by_cases hq2:q+k≤t.length
   ·have:k≤t.length - q:=by omega
    simp [hq,hq2,this]
   ·have:¬ k≤t.length - q:=by omega
    simp [hq2,this]
  ·have:¬ q+k≤t.length:=by omega
   simp [hq,this]
 | put s=>
  refine ⟨fun z=>by simp [dw] at z,fun _=>?_⟩
  have e:az [.put s]=0:=by rw [jD];rfl
  rw [h,e]
  simp [aP]
theorem BX (hs:F[aL]?=some fE) (hf:F[i]?=some (zD aL)) (c:List Pt) (t:List Nat) (h1:tot c≤10000) (h2:t.length≤10000):run F w (n+2) i [.val (aU c),.val (.str t)]=some (.bl (aP c t),[]):=by
 refine bT hf rfl ?_
 refine ah (aS (by repeat array_get_dec) rfl rfl ?_)
 refine ah (iw (vs:=c.map Pt.v) (dR (cU rfl) rfl) ?_)
 refine eH (e:=Pt.v) (fun p l fr=>p++l=c∧aP c t=(decide (az p≤t.length)&&aP l (t.drop (az p)))∧∃ a,vo a∧fr=[some (.val (aU c)),some (.val (.str t)),some (.val (.int (az p))),a]) (fun p x l fr ⟨hpl,hfit,a,ha,hfr⟩=>?_) (fun p fr ⟨hpl,hfit,a,ha,hfr⟩=>?_) c [] _ ⟨rfl,by simp [az,tot],none,.none,rfl⟩
 ·subst hfr
  have sR:tot p+x.n+tot l=tot c:=by rw [←hpl,dI,bU];omega
  have sz:=fun fr=>di (fr:=fr) (g6 (w:=w) (n:=n) hs x (by omega))
  obtain ⟨k1,k2⟩:=BW c t (az p) x l hfit
  have dZ:(p++[x])++l=c:=by simpa using hpl
  have eb:az (p++[x])=az p+az [x]:=gx p [x]
  have ei:((az (p++[x]):Nat):Int)=(az p:Int)+(az [x]:Nat):=by rw [eb];simp
  cases x with
  | drop s=>
   obtain ⟨s',e,k1⟩:=k1 rfl
   cases e
   have e2:az [.drop s]=s.length:=by rw [kG];rfl
   rw [e2] at eb ei
   have cu:eF (.str t) (some (az p:Int)) (some ((az p:Int)+((Pt.drop s).n:Nat)))=some (.str ((t.drop (az p)).take s.length)):=by rw [fQ];exact congrArg (fun z=>some (V.str z)) (jj t (az p) s.length)
   by_cases hx:(t.drop (az p)).take s.length=s
   ·rw [if_pos hx] at k1
    have ne:cop .ne (.str ((t.drop (az p)).take s.length)) (.str s)=some false:=by rw [gj,decide_eq_true hx];rfl
    refine cO (bind1 rfl ha) (ah (aF (b:=false) (gf (b2:=false) (aD rfl (by repeat array_get_dec) rfl) (aD rfl (by (repeat (first | array_get_dec | exact sz _))) rfl)) (fun h=>absurd h (by decide)) fun _=>ay ?_))
    refine ah (aF (by repeat array_get_dec) (fun _=>?_) fun h=>absurd h (by decide))
    refine ah (aS (by (repeat (first | array_get_dec | exact sz _))) rfl rfl (ay (ay ?_)))
    rw [cL]
    exact ⟨dZ,by rw [eb];exact k1,some (.val (Pt.drop s).v),.val,by rw [ei];rfl⟩
   ·rw [if_neg hx] at k1
    have ne:cop .ne (.str ((t.drop (az p)).take s.length)) (.str s)=some true:=by rw [gj,decide_eq_false hx];rfl
    refine cO (bind1 rfl ha) (ah (aF (b:=true) (gf (b2:=true) (aD rfl (by repeat array_get_dec) rfl) (aD rfl (by (repeat (first | array_get_dec | exact sz _))) rfl)) (fun _=>?_) fun h=>absurd h (by decide)))
    refine ah (bI (by repeat array_get_dec) ?_)
    show nx _ _ _ _ _ _
    rw [k1];exact ⟨rfl,rfl⟩
  | keep k=>
   have k2:=k2 rfl
   have e2:az [.keep k]=k:=by rw [jC];rfl
   rw [e2] at k2 eb ei
   refine cO (bind1 rfl ha) (ah (aF (b:=false) (oR (aD rfl (by repeat array_get_dec) rfl)) (fun h=>absurd h (by decide)) fun _=>ay ?_))
   refine ah (aF (by repeat array_get_dec) (fun _=>?_) fun h=>absurd h (by decide))
   refine ah (aS (by (repeat (first | array_get_dec | exact sz _))) rfl rfl (ay (ay ?_)))
   rw [cL]
   exact ⟨dZ,by rw [eb];exact k2,some (.val (Pt.keep k).v),.val,by rw [ei];rfl⟩
  | put s=>
   have k2:=k2 rfl
   have e2:az [.put s]=0:=by rw [jD];rfl
   rw [e2] at k2 eb
   refine cO (bind1 rfl ha) (ah (aF (b:=false) (oR (aD rfl (by repeat array_get_dec) rfl)) (fun h=>absurd h (by decide)) fun _=>ay ?_))
   refine ah (aF (by repeat array_get_dec) (fun h=>absurd h (by decide)) fun _=>ay (ay ?_))
   rw [cL]
   exact ⟨dZ,by rw [eb];exact k2,some (.val (Pt.put s).v),.val,by rw [eb];rfl⟩
 ·subst hfr
  simp at hpl
  subst hpl
  have e:decide ((az p:Int)=(t.length:Nat))=aP p t:=by
   rw [hfit]
   simp only [aP]
   by_cases hq:az p=t.length
   ·have:(az p:Int)=t.length:=by omega
    simp [this,hq]
   ·have:¬ (az p:Int)=t.length:=by omega
    simp [this]
    intro h
    omega
  have ln:cY .len [.str t]=some (.int (t.length:Nat)):=len_str (by omega)
  have eq:cop .eq (.int (az p)) (.int (t.length:Nat))=some (aP p t):=by rw [nB,e]
  have sh:ez [some (.val (aU p)),some (.val (.str t)),some (.val (.int (az p))),a]=[some (.val (aU p)),some (.val (.str t)),some (.val (.int (az p))),a]:=by
   show _ :: _ :: _ :: [a.map Sl.cZ]=_
   rw [bX ha];rfl
  refine ah (bI (v:=.bl (aP p t)) (af:=[some (.val (aU p)),some (.val (.str t)),some (.val (.int (az p))),a]) ?_ ⟨rfl,rfl⟩)
  rw [sh]
  repeat array_get_dec
theorem tD (hs:F[aL]?=some fE) (hf:F[oX]?=some (zD aL)) (hd:F[i]?=some (Lm oX)) (c:List Pt) (t:List Nat) (h1:tot c≤10000) (h2:t.length≤10000) (h3:c.length≤10000) (h:aP c t=true):run F w (n+3) i [.val (aU c),.val (.str t)]=some (.str (aC c t),[]):=by
 refine bT hd rfl ?_
 have ft:=fun fr=>call2 (fr:=fr) (BX (w:=w) (n:=n) hs hf c t h1 h2)
 rw [h] at ft
 refine ah (aF (b:=false) (Dr (aD (b:=true) rfl (by (repeat (first | array_get_dec | exact ft _))) rfl)) (fun h=>absurd h (by decide)) fun _=>ay ?_)
 refine ah (fD (l:=[]) (by repeat array_get_dec) rfl rfl ?_)
 refine ah (aS (by repeat array_get_dec) rfl rfl ?_)
 refine ah (iw (vs:=c.map Pt.v) (dR (cU rfl) rfl) ?_)
 refine eH (e:=Pt.v) (fun p l fr=>p++l=c∧∃ ps a b,vo a∧vo b∧ps.length≤p.length∧ps.flatten++aC l (t.drop (az p))=aC c t∧fr=[some (.val (aU c)),some (.val (.str t)),some (.own (ps.map V.str)),some (.val (.int (az p))),a,b]) (fun p x l fr ⟨hpl,ps,a,b,ha,hb,hl,hd,hfr⟩=>?_) (fun p fr ⟨hpl,ps,a,b,ha,hb,hl,hd,hfr⟩=>?_) c [] _ ⟨rfl,[],none,none,.none,.none,by simp,by simp [az,tot],rfl⟩
 ·subst hfr
  have dZ:(p++[x])++l=c:=by simpa using hpl
  have eb:az (p++[x])=az p+az [x]:=gx p [x]
  have ei:((az (p++[x]):Nat):Int)=(az p:Int)+(az [x]:Nat):=by rw [eb];simp
  have sR:tot p+x.n+tot l=tot c:=by rw [←hpl,dI,bU];omega
  have hlen:p.length+l.length+1=c.length:=by rw [←hpl];simp;omega
  have ap:∀ (fr:Fr) (z:List Nat),gb .append 2 [.str z] fr (some (some (.own (ps.map V.str))))=.ok .aY (fr.set 2 (some (.own ((ps++[z]).map V.str)))):=fun fr z=>by
   rw [List.map_append];exact j5 (by simp;omega)
  cases x with
  | put s=>
   have e2:az [.put s]=0:=by rw [jD];rfl
   rw [e2] at eb
   refine cO (gk rfl ha rfl hb) (ah (aF (by repeat array_get_dec) (fun _=>?_) fun h=>absurd h (by decide)))
   refine ah (d9 (by (repeat (first | array_get_dec | exact ap _ _))) (ay (ay ?_)))
   rw [cL]
   exact ⟨dZ,ps++[s],some (.val (.str kB)),some (.val (.str s)),.val,.val,by simp;omega,by rw [eb];simpa [aC] using hd,by rw [eb];rfl⟩
  | drop s=>
   have e2:az [.drop s]=s.length:=by rw [kG];rfl
   rw [e2] at eb ei
   have X5:s.length≤tot c:=by simp only [Pt.n] at sR;omega
   have ln:cY .len [.str s]=some (.int (s.length:Nat)):=len_str (by omega)
   refine cO (gk rfl ha rfl hb) (ah (aF (by repeat array_get_dec) (fun h=>absurd h (by decide)) fun _=>?_))
   refine ah (aF (by repeat array_get_dec) (fun _=>?_) fun h=>absurd h (by decide))
   refine ah (aS (by repeat array_get_dec) rfl rfl (ay (ay (ay ?_))))
   rw [cL]
   exact ⟨dZ,ps,some (.val (.str iO)),some (.val (.str s)),.val,.val,by simp;omega,by rw [eb];simpa [aC] using hd,by rw [ei];rfl⟩
  | keep k=>
   have e2:az [.keep k]=k:=by rw [jC];rfl
   rw [e2] at eb ei
   have cu:eF (.str t) (some (az p:Int)) (some ((az p:Int)+(k:Nat)))=some (.str ((t.drop (az p)).take k)):=by rw [fQ,jj]
   refine cO (gk rfl ha rfl hb) (ah (aF (by repeat array_get_dec) (fun h=>absurd h (by decide)) fun _=>?_))
   refine ah (aF (by repeat array_get_dec) (fun h=>absurd h (by decide)) fun _=>?_)
   refine ah (d9 (by (repeat (first | array_get_dec | exact ap _ _))) ?_)
   refine ah (aS (by repeat array_get_dec) rfl rfl (ay (ay (ay ?_))))
   rw [cL]
   exact ⟨dZ,ps++[(t.drop (az p)).take k],some (.val (.str dz)),some (.val (.int k)),.val,.val,by simp;omega,by rw [eb];simpa [aC] using hd,by rw [ei];rfl⟩
 ·subst hfr
  simp at hpl
  subst hpl
  have hd':ps.flatten=aC p t:=by simpa [aC] using hd
  have dl:=jk p t
  have hj:=Dp (l:=ps) (by rw [hd'];omega)
  rw [hd'] at hj
  have sh:ez [some (.val (aU p)),some (.val (.str t)),some (.own (ps.map V.str)),some (.val (.int (az p))),a,b]=[some (.val (aU p)),some (.val (.str t)),some (.val (.lst (ps.map V.str))),some (.val (.int (az p))),a,b]:=by
   show _ :: _ :: _ :: _ :: a.map Sl.cZ :: [b.map Sl.cZ]=_
   rw [bX ha,bX hb];rfl
  refine ah (bI (v:=.str (aC p t)) (af:=[some (.val (aU p)),some (.val (.str t)),some (.val (.lst (ps.map V.str))),some (.val (.int (az p))),a,b]) ?_ ⟨rfl,rfl⟩)
  rw [sh]
  repeat array_get_dec
end
end Pv
namespace Pv
open Ev (rep)
theorem zE (ns:List Int) (at_:Int) (s:List Nat) (k:Nat):tot (iP ns at_ s k)≤3:=by
 have h1:=jh ns (at_+4*k+2) (many:=2) (by decide)
 have h2:=jg ns (at_+4*k+2) (many:=2) (by decide)
 unfold iP
 rw [dI]
 have a:tot (if cE ns (at_+4*k) 4=0 then [Pt.put (rep (1+cE ns (at_+4*k+2) 2).toNat [[97,98,122].getD (cE ns (at_+4*k+1) 3).toNat 0])] else [])≤2:=by
  split
  ·simp [tot,Pt.n,rep];omega
  ·simp [tot]
 cases s[k]? with
 | none=>simp [tot] at a ⊢;omega
 | some c=>
  have b:tot [if 0<cE ns (at_+4*k+3) 3 then Pt.keep 1 else Pt.drop [c]]≤1:=by split <;> simp [tot,Pt.n]
  simp only at b ⊢
  omega
theorem qI (ns:List Int) (at_:Int) (s:List Nat):∀ k,tot (eX ns at_ s k)≤3*k
 | 0=>by simp [eX,tot]
 | k+1=>by
  have h1:=zE ns at_ s k
  have h2:=qI ns at_ s k
  rw [iQ,dI]
  omega
theorem nF:∀ {a:List (List Nat)}{t:List Nat},aW a t=true→a.length=t.length
 | [],[],_=>rfl
 | x :: a,c :: t,h=>by simp [aW] at h;simp [nF h.2]
 | [],_ :: _,h=>by simp [aW] at h
 | _ :: _,[],h=>by simp [aW] at h
theorem nG:∀ {a b:List (List Nat)}{t u:List Nat},aW a t=true→aW b u=true→aW (a++b) (t++u)=true
 | [],_,[],_,_,hb=>hb
 | x :: a,b,c :: t,u,ha,hb=>by
  simp only [aW,Bool.and_eq_true] at ha
  simp only [List.cons_append,aW,Bool.and_eq_true]
  exact ⟨ha.1,nG ha.2 hb⟩
 | [],_,_ :: _,_,ha,_=>by simp [aW] at ha
 | _ :: _,_,[],_,ha,_=>by simp [aW] at ha
theorem GS (ns:List Int) (at_:Int) (s:List Nat) (k:Nat):aW (asks (iP ns at_ s k)) (s[k]?).toList=true:=by
 unfold iP
 rw [dS]
 have a:asks (if cE ns (at_+4*k) 4=0 then [Pt.put (rep (1+cE ns (at_+4*k+2) 2).toNat [[97,98,122].getD (cE ns (at_+4*k+1) 3).toNat 0])] else [])=[]:=by
  split <;> simp [asks,Pt.asks]
 rw [a]
 cases s[k]? with
 | none=>simp [asks,aW]
 | some c=>simp only;split <;> simp [asks,Pt.asks,aW]
theorem zF (ns:List Int) (at_:Int) (s:List Nat):∀ k,aW (asks (eX ns at_ s k)) (s.take k)=true
 | 0=>by simp [eX,asks,aW]
 | k+1=>by
  rw [iQ,dS,List.take_add_one]
  exact nG (zF ns at_ s k) (GS ns at_ s k)
theorem ve (ns:List Int) (at_:Int) (s:List Nat):aP (chg ns at_ s) s=true:=by
 have:=zF ns at_ s (s.length+1)
 rw [List.take_of_length_le (by omega)] at this
 rw [fG];exact this
end Pv
namespace Pv
inductive At where
 | k | d (c:Nat) | p (c:Nat)
noncomputable def Pt.aN:Pt→List At
 | .keep n=>List.replicate n .k
 | .drop s=>s.map .d
 | .put s=>s.map .p
noncomputable def aN (c:List Pt):List At:=c.flatMap Pt.aN
theorem iT (a b:List Pt):aN (a++b)=aN a++aN b:=by simp [aN]
theorem cQ (p:Pt) (c:List Pt):aN (p :: c)=p.aN++aN c:=by simp [aN]
theorem tE (p:Pt):p.aN.length=p.n:=by cases p <;> simp [Pt.aN,Pt.n]
theorem iU (c:List Pt):(aN c).length=tot c:=by
 induction c with
 | nil=>rfl
 | cons p c ih=>rw [cQ,List.length_append,tE,ih,bU]
noncomputable def tA:Nat→List At→List Tq
 | _,[]=>[]
 | i,.k :: a=>.at i :: tA (i+1) a
 | i,.d _ :: a=>tA (i+1) a
 | i,.p c :: a=>.sg c :: tA i a
noncomputable def aA:List At→List (List Nat)
 | []=>[]
 | .k :: a=>[] :: aA a
 | .d c :: a=>[c] :: aA a
 | .p _ :: a=>aA a
noncomputable def dA:List At→List Nat→List Nat
 | [],_=>[]
 | .k :: a,t=>t.take 1++dA a (t.drop 1)
 | .d _ :: a,t=>dA a (t.drop 1)
 | .p c :: a,t=>c :: dA a t
noncomputable def mZ:At→At
 | .k=>.k
 | .d c=>.p c
 | .p c=>.d c
noncomputable def cA:List At→Nat
 | []=>0
 | .k :: a=>cA a
 | _ :: a=>cA a+1
theorem oY:∀ a b:List At,aA (a++b)=aA a++aA b
 | [],_=>rfl
 | .k :: a,b=>by simp [aA,oY a b]
 | .d c :: a,b=>by simp [aA,oY a b]
 | .p c :: a,b=>by simp [aA,oY a b]
theorem oZ:∀ (a b:List At) (i:Nat),tA i (a++b)=tA i a++tA (i+(aA a).length) b
 | [],_,_=>rfl
 | .k :: a,b,i=>by simp [tA,aA,oZ a b,Nat.add_assoc,Nat.add_comm 1]
 | .d c :: a,b,i=>by simp [tA,aA,oZ a b,Nat.add_assoc,Nat.add_comm 1]
 | .p c :: a,b,i=>by simp [tA,aA,oZ a b]
theorem o4:∀ a b:List At,cA (a++b)=cA a+cA b
 | [],b=>by simp [cA]
 | .k :: a,b=>by simp [cA,o4 a b]
 | .d c :: a,b=>by simp [cA,o4 a b];omega
 | .p c :: a,b=>by simp [cA,o4 a b];omega
theorem DC (p:Pt):aA p.aN=p.asks:=by
 cases p with
 | keep n=>simp only [Pt.aN,Pt.asks];induction n <;> simp_all [List.replicate_succ,aA]
 | drop s=>simp only [Pt.aN,Pt.asks];induction s <;> simp_all [aA]
 | put s=>simp only [Pt.aN,Pt.asks];induction s <;> simp_all [aA]
theorem O7 (p:Pt):∀ i,tA i p.aN=p.told i:=by
 cases p with
 | keep n=>
  simp only [Pt.aN,Pt.told]
  induction n with
  | zero=>intro i;rfl
  | succ n ih=>intro i;simp only [List.replicate_succ,tA,ih,List.range_succ_eq_map,List.map_cons,List.map_map];simp [Function.comp_def,Nat.add_assoc,Nat.add_comm 1]
 | drop s=>intro i;simp only [Pt.aN,Pt.told];induction s generalizing i <;> simp_all [tA]
 | put s=>intro i;simp only [Pt.aN,Pt.told];induction s generalizing i <;> simp_all [tA]
theorem O8 (p:Pt):cA p.aN=cst [p]:=by
 cases p with
 | keep n=>simp only [Pt.aN];rw [Dv];induction n <;> simp_all [List.replicate_succ,cA,cst,tot]
 | drop s=>simp only [Pt.aN];rw [Dw];induction s <;> simp_all [cA,cst,tot]
 | put s=>simp only [Pt.aN];rw [Dy];induction s <;> simp_all [cA,cst,tot]
theorem fJ (c:List Pt):asks c=aA (aN c):=by
 induction c with
 | nil=>rfl
 | cons p c ih=>rw [cQ,oY,DC,←ih];simp [asks]
theorem dU (c:List Pt):∀ i,told i c=tA i (aN c):=by
 induction c with
 | nil=>intro i;rfl
 | cons p c ih=>intro i;rw [cQ,oZ,O7,DC,←ih,told]
theorem mD (c:List Pt):cst c=cA (aN c):=by
 induction c with
 | nil=>rfl
 | cons p c ih=>
  rw [cQ,o4,O8,←ih]
  simp [cst,tot]
  cases p <;> simp [List.filter_cons,eK]
theorem tF (c:List Pt):aN (sw c)=(aN c).map mZ:=by
 induction c with
 | nil=>rfl
 | cons p c ih=>
  have:aN (sw (p :: c))=p.sw.aN++aN (sw c):=by simp [aN,sw]
  rw [this,ih,cQ,List.map_append]
  congr 1
  cases p <;> simp [Pt.sw,Pt.aN,mZ,Function.comp_def]
theorem eg:∀ (c:List Pt) (t:List Nat),aC c t=dA (aN c) t:=by
 have k:∀ (n:Nat) (a:List At) (t:List Nat),dA (List.replicate n .k++a) t=t.take n++dA a (t.drop n):=fun n=>by
  induction n with
  | zero=>intro a t;simp
  | succ n ih=>
   intro a t
   simp only [List.replicate_succ,List.cons_append,dA,ih,List.drop_drop]
   cases t with
   | nil=>simp
   | cons c t=>simp [Nat.add_comm 1]
 have d:∀ (s:List Nat) (a:List At) (t:List Nat),dA (s.map .d++a) t=dA a (t.drop s.length):=fun s=>by
  induction s with
  | nil=>intro a t;simp
  | cons c s ih=>intro a t;simp [dA,ih,Nat.add_comm 1]
 have p:∀ (s:List Nat) (a:List At) (t:List Nat),dA (s.map .p++a) t=s++dA a t:=fun s=>by
  induction s with
  | nil=>intro a t;simp
  | cons c s ih=>intro a t;simp [dA,ih]
 intro c
 induction c with
 | nil=>intro t;rfl
 | cons q c ih=>
  intro t
  rw [cQ]
  cases q with
  | keep n=>simp only [Pt.aN,k,aC,ih]
  | drop s=>simp only [Pt.aN,d,aC,ih]
  | put s=>simp only [Pt.aN,p,aC,ih]
noncomputable def zG:List At→Bool
 | .d _ :: _=>false
 | _=>true
inductive Th:List At→List At→List At→Prop
 | nil:Th [] [] []
 | d {a b r c}:Th a b r→Th (.d c :: a) b (.d c :: r)
 | p {a b r c}:zG a=true→Th a b r→Th a (.p c :: b) (.p c :: r)
 | kk {a b r}:Th a b r→Th (.k :: a) (.k :: b) (.k :: r)
 | kd {a b r c}:Th a b r→Th (.k :: a) (.d c :: b) (.d c :: r)
 | pk {a b r c}:Th a b r→Th (.p c :: a) (.k :: b) (.p c :: r)
 | pd {a b r c}:Th a b r→Th (.p c :: a) (.d c :: b) r
noncomputable def sub (L:List Tq):Tq→Tq
 | .at j=>L.getD j (.sg 0)
 | .sg c=>.sg c
theorem o5 {L M:List Tq}{q:Tq}{j:Nat}(h:L.length=j):sub (L++q :: M) (.at j)=q:=by
 subst h;simp [sub]
theorem Th.told {a b r:List At}(h:Th a b r):∀ (i j:Nat) (L:List Tq),L.length=j→tA i r=(tA j b).map (sub (L++tA i a)):=by
 induction h with
 | nil=>intro i j L hL;rfl
 | d h ih=>intro i j L hL;exact ih (i+1) j L hL
 | p _ h ih=>intro i j L hL;simp only [tA,List.map_cons];rw [ih i j L hL];rfl
 | kk h ih=>
  intro i j L hL
  simp only [tA,List.map_cons]
  rw [ih (i+1) (j+1) (L++[.at i]) (by simp [hL]),o5 hL];simp
 | kd h ih=>
  intro i j L hL
  simp only [tA]
  rw [ih (i+1) (j+1) (L++[.at i]) (by simp [hL])];simp
 | @pk _ _ _ c h ih=>
  intro i j L hL
  simp only [tA,List.map_cons]
  rw [ih i (j+1) (L++[.sg c]) (by simp [hL]),o5 hL];simp
 | @pd _ _ _ c h ih=>
  intro i j L hL
  simp only [tA]
  rw [ih i (j+1) (L++[.sg c]) (by simp [hL])];simp
theorem Th.back {a b r:List At}(h:Th a b r):∀ (i j:Nat) (L:List Tq),L.length=j→tA i (r.map mZ)=(tA j (a.map mZ)).map (sub (L++tA i (b.map mZ))):=by
 induction h with
 | nil=>intro i j L hL;rfl
 | d h ih=>intro i j L hL;simp only [List.map_cons,mZ,tA];rw [ih i j L hL];rfl
 | p _ h ih=>intro i j L hL;exact ih (i+1) j L hL
 | kk h ih=>
  intro i j L hL
  simp only [List.map_cons,mZ,tA]
  rw [ih (i+1) (j+1) (L++[.at i]) (by simp [hL]),o5 hL];simp
 | @kd _ _ _ c h ih=>
  intro i j L hL
  simp only [List.map_cons,mZ,tA]
  rw [ih i (j+1) (L++[.sg c]) (by simp [hL]),o5 hL];simp
 | pk h ih=>
  intro i j L hL
  simp only [List.map_cons,mZ,tA]
  rw [ih (i+1) (j+1) (L++[.at i]) (by simp [hL])];simp
 | @pd _ _ _ c h ih=>
  intro i j L hL
  simp only [List.map_cons,mZ,tA]
  rw [ih i (j+1) (L++[.sg c]) (by simp [hL])];simp
theorem Th.fit {a b r:List At}(h:Th a b r):∀ t,aW (aA a) t=true→aW (aA b) (dA a t)=true→aW (aA r) t=true:=by
 induction h with
 | nil=>intro t h1 _;exact h1
 | d h ih=>
  intro t h1 h2
  cases t with
  | nil=>simp [aA,aW] at h1
  | cons x t=>simp only [aA,aW,Bool.and_eq_true] at h1 ⊢;exact ⟨h1.1,ih t h1.2 h2⟩
 | p _ h ih=>intro t h1 h2;exact ih t h1 h2
 | kk h ih=>
  intro t h1 h2
  cases t with
  | nil=>simp [aA,aW] at h1
  | cons x t=>simp only [aA,aW,Bool.and_eq_true,dA,List.take_succ_cons,List.take_zero,List.drop_succ_cons,List.drop_zero,List.singleton_append] at h1 h2 ⊢;exact ⟨h1.1,ih t h1.2 h2.2⟩
 | kd h ih=>
  intro t h1 h2
  cases t with
  | nil=>simp [aA,aW] at h1
  | cons x t=>simp only [aA,aW,Bool.and_eq_true,dA,List.take_succ_cons,List.take_zero,List.drop_succ_cons,List.drop_zero,List.singleton_append] at h1 h2 ⊢;exact ⟨h2.1,ih t h1.2 h2.2⟩
 | pk h ih=>intro t h1 h2;simp only [aA,dA,aW,Bool.and_eq_true] at h1 h2 ⊢;exact ih t h1 h2.2
 | pd h ih=>intro t h1 h2;simp only [aA,dA,aW,Bool.and_eq_true] at h1 h2 ⊢;exact ih t h1 h2.2
theorem Th.all:∀ (n:Nat) (a b:List At) (t:List Nat),a.length+b.length≤n→aW (aA a) t=true→aW (aA b) (dA a t)=true→∃ r,Th a b r:=by
 intro n
 induction n with
 | zero=>
  intro a b t hn _ _
  obtain rfl:a=[]:=List.length_eq_zero_iff.mp (by omega)
  obtain rfl:b=[]:=List.length_eq_zero_iff.mp (by omega)
  exact ⟨[],.nil⟩
 | succ n ih=>
  intro a b t hn h1 h2
  cases a with
  | nil=>
   cases b with
   | nil=>exact ⟨[],.nil⟩
   | cons y b=>
    cases y with
    | p c=>obtain ⟨r,h⟩:=ih [] b t (by simp at hn ⊢;omega) h1 h2;exact ⟨_,.p rfl h⟩
    | k=>simp [aA,dA,aW] at h2
    | d c=>simp [aA,dA,aW] at h2
  | cons x a=>
   by_cases hd:zG (x :: a)=true
   ·cases b with
    | nil=>
     cases x with
     | d c=>cases hd
     | k=>cases t <;> simp [aA,dA,aW] at h1 h2
     | p c=>simp [aA,dA,aW] at h2
    | cons y b=>
     cases y with
     | p c=>obtain ⟨r,h⟩:=ih (x :: a) b t (by simp at hn ⊢;omega) h1 h2;exact ⟨_,.p hd h⟩
     | k=>
      cases x with
      | d c=>cases hd
      | k=>
       cases t with
       | nil=>simp [aA,aW] at h1
       | cons z t=>
        simp [aA,aW,dA] at h1 h2
        obtain ⟨r,h⟩:=ih a b t (by simp at hn ⊢;omega) h1 h2;exact ⟨_,.kk h⟩
      | p c=>
       simp [aA,aW,dA] at h1 h2
       obtain ⟨r,h⟩:=ih a b t (by simp at hn ⊢;omega) h1 h2;exact ⟨_,.pk h⟩
     | d c'=>
      cases x with
      | d c=>cases hd
      | k=>
       cases t with
       | nil=>simp [aA,aW] at h1
       | cons z t=>
        simp [aA,aW,dA] at h1 h2
        obtain ⟨r,h⟩:=ih a b t (by simp at hn ⊢;omega) h1 h2.2;exact ⟨_,.kd h⟩
      | p c=>
       simp [aA,aW,dA] at h1 h2
       obtain ⟨rfl,h2⟩:=h2
       obtain ⟨r,h⟩:=ih a b t (by simp at hn ⊢;omega) h1 h2;exact ⟨_,.pd h⟩
   ·cases x with
    | k=>exact absurd rfl hd
    | p c=>exact absurd rfl hd
    | d c=>
     cases t with
     | nil=>simp [aA,aW] at h1
     | cons z t=>
      simp [aA,aW] at h1
      obtain ⟨r,h⟩:=ih a b t (by simp at hn ⊢;omega) h1.2 h2;exact ⟨_,.d h⟩
theorem Th.done {a b r:List At}(h:Th a b r):∀ t,aW (aA a) t=true→dA r t=dA b (dA a t):=by
 induction h with
 | nil=>intro t _;rfl
 | d h ih=>
  intro t h1
  cases t with
  | nil=>simp [aA,aW] at h1
  | cons x t=>simp only [aA,aW,Bool.and_eq_true] at h1;simp only [dA];exact ih t h1.2
 | p _ h ih=>intro t h1;simp only [dA];rw [ih t h1]
 | kk h ih=>
  intro t h1
  cases t with
  | nil=>simp [aA,aW] at h1
  | cons x t=>simp only [aA,aW,Bool.and_eq_true] at h1;simp [dA,ih t h1.2]
 | kd h ih=>
  intro t h1
  cases t with
  | nil=>simp [aA,aW] at h1
  | cons x t=>simp only [aA,aW,Bool.and_eq_true] at h1;simp [dA,ih t h1.2]
 | pk h ih=>intro t h1;simp [dA,ih t h1]
 | pd h ih=>intro t h1;simp [dA,ih t h1]
theorem Th.cost {a b r:List At}(h:Th a b r):cA r≤cA a+cA b:=by induction h <;> simp [cA] <;> omega
theorem Th.len {a b r:List At}(h:Th a b r):r.length≤a.length+b.length:=by induction h <;> simp <;> omega
theorem Th.ds {b r:List At}:∀ {s:List Nat}{a:List At},Th (s.map .d++a) b r→∃ r',r=s.map .d++r'∧Th a b r'
 | [],a,h=>⟨r,rfl,h⟩
 | c :: s,a,h=>by
  cases h with
  | d h=>obtain ⟨r',rfl,h'⟩:=Th.ds h;exact ⟨r',rfl,h'⟩
  | p hn h=>cases hn
theorem Th.ps {a r:List At}(hn:zG a=true):∀ {s:List Nat}{b:List At},Th a (s.map .p++b) r→∃ r',r=s.map .p++r'∧Th a b r'
 | [],b,h=>⟨r,rfl,h⟩
 | c :: s,b,h=>by
  cases h with
  | d h=>cases hn
  | p _ h=>obtain ⟨r',rfl,h'⟩:=Th.ps hn h;exact ⟨r',rfl,h'⟩
theorem Th.WJ {a b r:List At}:∀ {n:Nat},Th (List.replicate n .k++a) (List.replicate n .k++b) r→∃ r',r=List.replicate n .k++r'∧Th a b r':=fun {n}=>by
 induction n generalizing r with
 | zero=>intro h;exact ⟨r,rfl,h⟩
 | succ n ih=>intro h;cases h with | kk h=>obtain ⟨r',rfl,h'⟩:=ih h;exact ⟨r',rfl,h'⟩
theorem Th.WK {a b r:List At}:∀ {s:List Nat},Th (List.replicate s.length .k++a) (s.map .d++b) r→∃ r',r=s.map .d++r'∧Th a b r':=fun {s}=>by
 induction s generalizing r with
 | nil=>intro h;exact ⟨r,rfl,h⟩
 | cons c s ih=>intro h;cases h with | kd h=>obtain ⟨r',rfl,h'⟩:=ih h;exact ⟨r',rfl,h'⟩
theorem Th.WL {a b r:List At}:∀ {s:List Nat},Th (s.map .p++a) (List.replicate s.length .k++b) r→∃ r',r=s.map .p++r'∧Th a b r':=fun {s}=>by
 induction s generalizing r with
 | nil=>intro h;exact ⟨r,rfl,h⟩
 | cons c s ih=>intro h;cases h with | pk h=>obtain ⟨r',rfl,h'⟩:=ih h;exact ⟨r',rfl,h'⟩
theorem Th.QI {a b r:List At}:∀ {s s':List Nat},s.length=s'.length→Th (s.map .p++a) (s'.map .d++b) r→s=s'∧Th a b r
 | [],[],_,h=>⟨rfl,h⟩
 | [],_ :: _,hl,_=>by simp at hl
 | _ :: _,[],hl,_=>by simp at hl
 | c :: s,c' :: s',hl,h=>by cases h with | pd h=>obtain ⟨rfl,h'⟩:=Th.QI (by simpa using hl) h;exact ⟨rfl,h'⟩
theorem gz:∀ (a:List At) (i q:Nat),Tq.at q∈tA i a↔∃ j,q=i+j∧(aA a)[j]?=some []
 | [],i,q=>by simp [tA,aA]
 | .k :: a,i,q=>by
  simp only [tA,List.mem_cons,gz a,aA]
  constructor
  ·rintro (h | ⟨j,rfl,h⟩)
   ·cases h;exact ⟨0,rfl,by simp⟩
   ·exact ⟨j+1,by omega,by simpa using h⟩
  ·rintro ⟨j,rfl,h⟩
   cases j with
   | zero=>exact .inl rfl
   | succ j=>exact .inr ⟨j,by omega,by simpa using h⟩
 | .d c :: a,i,q=>by
  simp only [tA,gz a,aA]
  constructor
  ·rintro ⟨j,rfl,h⟩;exact ⟨j+1,by omega,by simpa using h⟩
  ·rintro ⟨j,rfl,h⟩
   cases j with
   | zero=>simp at h
   | succ j=>exact ⟨j,by omega,by simpa using h⟩
 | .p c :: a,i,q=>by simp [tA,gz a,aA]
theorem pZ:∀ {a:List (List Nat)}{t:List Nat},aW a t=true→∀ (j:Nat) x,a[j]?=some x→x=[]∨∃ c,t[j]?=some c∧x=[c]
 | y :: a,c :: t,h,j,x,e=>by
  simp only [aW,Bool.and_eq_true,Bool.or_eq_true,decide_eq_true_eq] at h
  cases j with
  | zero=>simp at e;subst e;exact h.1.imp id fun z=>⟨c,by simp,z⟩
  | succ j=>simpa using pZ h.2 j x (by simpa using e)
 | [],[],_,j,x,e=>by simp at e
 | [],_ :: _,h,_,_,_=>by simp [aW] at h
 | _ :: _,[],h,_,_,_=>by simp [aW] at h
theorem zH {a:List At}{A:List (List Nat)}{t:List Nat}(ha:aW (aA a) t=true) (hb:aW A t=true) (h:∀ q:Nat,Tq.at q∈tA 0 a↔A[q]?=some []):aA a=A:=by
 have la:=nF ha
 have lb:=nF hb
 apply List.ext_getElem?
 intro j
 by_cases hj:j<t.length
 ·obtain ⟨x,hx⟩:∃ x,(aA a)[j]?=some x:=⟨_,List.getElem?_eq_getElem (by omega)⟩
  obtain ⟨y,hy⟩:∃ y,A[j]?=some y:=⟨_,List.getElem?_eq_getElem (by omega)⟩
  have k1:=gz a 0 j
  rw [h j,hy] at k1
  have hxy:x=[]↔y=[]:=by
   constructor
   ·rintro rfl
    have:=k1.mpr ⟨j,by omega,hx⟩
    cases this;rfl
   ·rintro rfl
    obtain ⟨i,hi,e⟩:=k1.mp rfl
    obtain rfl:i=j:=by omega
    rw [e] at hx;cases hx;rfl
  rw [hx,hy]
  rcases pZ ha j x hx with QJ | ⟨c,hc,WM⟩
  ·rw [QJ,hxy.mp QJ]
  ·rcases pZ hb j y hy with QK | ⟨c',hc',hy1⟩
   ·rw [QK,hxy.mpr QK]
   ·rw [hc] at hc';cases hc';rw [WM,hy1]
 ·rw [List.getElem?_eq_none (by omega),List.getElem?_eq_none (by omega)]
theorem zI {a b:List At}{t:List Nat}(ha:aW (aA a) t=true) (hb:aW (aA b) t=true) (h:tA 0 a=tA 0 b):aA a=aA b:=
 zH ha hb fun q=>by
  rw [h,gz b 0 q]
  constructor
  ·rintro ⟨j,hj,e⟩;obtain rfl:q=j:=by omega
   exact e
  ·intro e;exact ⟨q,by omega,e⟩
theorem zJ {a b:List Pt}{t:List Nat}(ha:aP a t=true) (hb:aP b t=true) (h:told 0 a=told 0 b):aT a=aT b:=by
 rw [nE]
 rw [fG] at ha hb
 have h':=h
 rw [fJ] at ha hb
 rw [dU,dU] at h'
 have:=zI ha hb h'
 simp only [jB,h,fJ,this]
theorem nH {c:List Pt}{t:List Nat}(h:aP c t=true):(aC c t).length=fT c:=by
 rw [gy (BC c t h).1,Ll]
end Pv
namespace Pv
open Ev (D bW bQ TY BI ME T E Es Eo It S Ss Fn big deep b2i rep b6 dY bK aQ cut cG dW slots)
noncomputable def BY (qa:Nat) (nI:Nat):S:=.iff (.cmp .ne (.cl qa (.cons (.v 0) .nil)) (.cl nI (.cons (.v 1) .nil))) (.cons (.fR) .nil) .nil
noncomputable def BZ (dg:Nat):S:=.set 2 (.iH (.rev (.cl dg (.cons (.v 0) .nil))))
noncomputable def Ca (dg:Nat):S:=.set 3 (.iH (.rev (.cl dg (.cons (.v 1) .nil))))
noncomputable def Cb:S:=.set 4 (.lst .nil)
noncomputable def tG (bO:Nat) (o6:Nat) (iV:Nat):Ss:=(.cons (.iff (.an (.v 2) (.cmp .eq (.ix (.ix (.v 2) (.neg (.c (.int 1)))) (.c (.int 0))) (.c (.str [100,114,111,112])))) (.cons (.exp (.me .append (.v 4) (.cons (.me .pop (.v 2) .nil) .nil))) .nil) (.cons (.iff (.an (.v 3) (.cmp .eq (.ix (.ix (.v 3) (.neg (.c (.int 1)))) (.c (.int 0))) (.c (.str [112,117,116])))) (.cons (.exp (.me .append (.v 4) (.cons (.me .pop (.v 3) .nil) .nil))) .nil) (.cons (.set 5 (.bi .min (.cons (.cl bO (.cons (.ix (.v 2) (.neg (.c (.int 1)))) .nil)) (.cons (.cl bO (.cons (.ix (.v 3) (.neg (.c (.int 1)))) .nil)) .nil)))) (.cons (.exp (.me .extend (.v 4) (.cons (.cl o6 (.cons (.cl iV (.cons (.v 2) (.cons (.v 5) .nil))) (.cons (.cl iV (.cons (.v 3) (.cons (.v 5) .nil))) .nil))) .nil))) .nil))) .nil)) .nil)
noncomputable def Cc (bO:Nat) (o6:Nat) (iV:Nat):S:=.nW (.orr (.v 2) (.v 3)) (tG bO o6 iV)
noncomputable def Cd (dg:Nat):S:=.ret (.cl dg (.cons (.jq (.v 4)) .nil))
noncomputable def j9 (qa:Nat) (nI:Nat) (dg:Nat) (bO:Nat) (o6:Nat) (iV:Nat):Fn:=⟨2,6,(.cons (BY qa nI) (.cons (BZ dg) (.cons (Ca dg) (.cons Cb (.cons (Cc bO o6 iV) (.cons (Cd dg) .nil))))))⟩
noncomputable def GU:S:=.iff (.cmp .eq (.ix (.v 1) (.c (.int 0))) (.c (.str [107,101,101,112]))) (.cons (.ret (.lst (.cons (.v 0) .nil))) .nil) .nil
noncomputable def GV:S:=.iff (.cmp .eq (.ix (.v 0) (.c (.int 0))) (.c (.str [107,101,101,112]))) (.cons (.ret (.lst (.cons (.v 1) .nil))) .nil) .nil
noncomputable def GW:S:=.iff (.cmp .ne (.ix (.v 0) (.c (.int 1))) (.ix (.v 1) (.c (.int 1)))) (.cons (.fR) .nil) .nil
noncomputable def GX:S:=.ret (.lst .nil)
noncomputable def qY:Fn:=⟨2,2,(.cons GU (.cons GV (.cons GW (.cons GX .nil))))⟩
noncomputable def zK (nJ:Nat):S:=.set 2 (.cl nJ (.cons (.me .pop (.v 0) .nil) (.cons (.v 1) .nil)))
noncomputable def zL (bO:Nat):S:=.iff (.cmp .gt (.cl bO (.cons (.ix (.v 2) (.c (.int 1))) .nil)) (.c (.int 0))) (.cons (.exp (.me .append (.v 0) (.cons (.ix (.v 2) (.c (.int 1))) .nil))) .nil) .nil
noncomputable def zM:S:=.ret (.ix (.v 2) (.c (.int 0)))
noncomputable def mE (nJ:Nat) (bO:Nat):Fn:=⟨2,3,(.cons (zK nJ) (.cons (zL bO) (.cons zM .nil)))⟩
noncomputable def w9:S:=.set 2 (.ix (.v 0) (.c (.int 0)))
noncomputable def xg:S:=.iff (.cmp .eq (.v 2) (.c (.str [107,101,101,112]))) (.cons (.ret (.tup (.cons (.tup (.cons (.v 2) (.cons (.v 1) .nil))) (.cons (.tup (.cons (.v 2) (.cons (.bin .sub (.ix (.v 0) (.c (.int 1))) (.v 1)) .nil))) .nil)))) .nil) .nil
noncomputable def xj:S:=.ret (.tup (.cons (.tup (.cons (.v 2) (.cons (.sl (.ix (.v 0) (.c (.int 1))) .no (.yes (.v 1))) .nil))) (.cons (.tup (.cons (.v 2) (.cons (.sl (.ix (.v 0) (.c (.int 1))) (.yes (.v 1)) .no) .nil))) .nil)))
noncomputable def jl:Fn:=⟨2,3,(.cons w9 (.cons xg (.cons xj .nil)))⟩
noncomputable def Pt.tk (m:Nat):Pt→Pt
 | .keep _=>.keep m
 | .put s=>.put (s.take m)
 | .drop s=>.drop (s.take m)
noncomputable def Pt.dp (m:Nat):Pt→Pt
 | .keep k=>.keep (k - m)
 | .put s=>.put (s.drop m)
 | .drop s=>.drop (s.drop m)
theorem xm {α:Type}(l:List α) (m:Nat):cut l none (some (m:Int))=l.take m:=by
 have h1:¬ (m:Int)<0:=by omega
 simp only [cut,aQ,h1,if_false,Int.toNat_natCast,List.drop_zero,Nat.sub_zero]
 by_cases h:m≤l.length
 ·rw [Nat.min_eq_left h]
 ·rw [Nat.min_eq_right (by omega),List.take_of_length_le (Nat.le_refl _),List.take_of_length_le (by omega)]
theorem qZ {α:Type}(l:List α) (m:Nat):cut l (some (m:Int)) none=l.drop m:=by
 have h1:¬ (m:Int)<0:=by omega
 simp only [cut,aQ,h1,if_false,Int.toNat_natCast]
 by_cases h:m≤l.length
 ·rw [Nat.min_eq_left h,List.take_of_length_le (by simp)]
 ·rw [Nat.min_eq_right (by omega),List.drop_eq_nil_of_le (Nat.le_refl _),List.drop_eq_nil_of_le (by omega)];simp
section
variable {F:List Fn}{w n cV aL cX bR cK bP dJ cR fK o7 i:Nat}
theorem xo (hf:F[i]?=some jl) (p:Pt) (m:Nat) (h:m≤p.n):run F w (n+1) i [.val p.v,.val (.int m)]=some (.tup [(p.tk m).v,(p.dp m).v],[]):=by
 refine bT hf rfl ?_
 cases p with
 | keep k=>
  refine ah (aS (by repeat array_get_dec) rfl rfl ?_)
  refine ah (aF (by repeat array_get_dec) (fun _=>?_) fun h=>absurd h (by decide))
  refine ah (bI (by repeat array_get_dec) ⟨?_,rfl⟩)
  have:(k:Int) - m=((k - m:Nat):Int):=by simp only [Pt.n] at h;omega
  exact congrArg (fun z=>Fl.ret (V.tup [V.tup [V.str dz,V.int m],V.tup [V.str dz,V.int z]])) this
 | put s=>
  have c1:eF (.str s) none (some (m:Int))=some (.str (s.take m)):=by rw [fQ,xm]
  have c2:eF (.str s) (some (m:Int)) none=some (.str (s.drop m)):=by rw [fQ,qZ]
  refine ah (aS (by repeat array_get_dec) rfl rfl ?_)
  refine ah (aF (by repeat array_get_dec) (fun h=>absurd h (by decide)) fun _=>ay ?_)
  exact ah (bI (by repeat array_get_dec) ⟨rfl,rfl⟩)
 | drop s=>
  have c1:eF (.str s) none (some (m:Int))=some (.str (s.take m)):=by rw [fQ,xm]
  have c2:eF (.str s) (some (m:Int)) none=some (.str (s.drop m)):=by rw [fQ,qZ]
  refine ah (aS (by repeat array_get_dec) rfl rfl ?_)
  refine ah (aF (by repeat array_get_dec) (fun h=>absurd h (by decide)) fun _=>ay ?_)
  exact ah (bI (by repeat array_get_dec) ⟨rfl,rfl⟩)
theorem qb (m:Nat) (p:Pt):(p.dp m).n=p.n - m:=by cases p <;> simp [Pt.dp,Pt.n]
theorem qJ (hs:F[aL]?=some fE) (hp:F[cV]?=some jl) (hf:F[i]?=some (mE cV aL)) (L:List V) (p:Pt) (m:Nat) (h:m≤p.n) (hn:p.n≤100000) (hL:L.length≤10000) :
  run F w (n+2) i [.bor (L++[p.v]),.val (.int m)]=some ((p.tk m).v,[L++if 0<p.n - m then [(p.dp m).v] else []]):=by
 refine bT hf rfl ?_
 have c1:=fun fr=>call2 (fr:=fr) (xo (F:=F) (w:=w) (n:=n) hp p m h)
 have c2:=fun fr=>di (fr:=fr) (g6 (F:=F) (w:=w) (n:=n) hs (p.dp m) (by rw [qb];omega))
 have po:∀ fr:Fr,gb .pop 0 [] fr (some (some (.bor (L++[p.v]))))=.ok p.v (fr.set 0 (some (.bor L))):=fun fr=>GG
 have ap:∀ fr:Fr,gb .append 0 [(p.dp m).v] fr (some (some (.bor L)))=.ok .aY (fr.set 0 (some (.bor (L++[(p.dp m).v])))):=fun fr=>GF (by omega)
 refine ah (aS (by (repeat (first | array_get_dec | exact po _ | exact c1 _))) rfl rfl ?_)
 refine ah (aF (by (repeat (first | array_get_dec | exact c2 _))) (fun h=>?_) fun h=>?_)
 ·have h':=of_decide_eq_true h
  rw [qb] at h'
  rw [if_pos (by omega)]
  refine ah (d9 (by (repeat (first | array_get_dec | exact ap _))) (ay ?_))
  exact ah (bI (by repeat array_get_dec) ⟨rfl,rfl⟩)
 ·have h':=of_decide_eq_false h
  rw [qb] at h'
  rw [if_neg (by omega),List.append_nil]
  exact ay (ah (bI (by repeat array_get_dec) ⟨rfl,rfl⟩))
noncomputable def kH:Pt→Pt→Option (List Pt)
 | l,.keep _=>some [l]
 | .keep _,g=>some [g]
 | .put s,.drop s'=>if s=s' then some [] else none
 | _,_=>none
theorem GY (hf:F[i]?=some qY) (p q:Pt) (r:List Pt) (h:kH p q=some r):run F w (n+1) i [.val p.v,.val q.v]=some (.lst (r.map Pt.v),[]):=by
 refine bT hf rfl ?_
 cases q with
 | keep k=>
  simp only [kH,Option.some.injEq] at h
  subst h
  refine ah (aF (by repeat array_get_dec) (fun _=>?_) fun h=>absurd h (by decide))
  exact ah (bI (by repeat array_get_dec) ⟨rfl,rfl⟩)
 | put s=>
  cases p <;> simp [kH] at h
  subst h
  refine ah (aF (by repeat array_get_dec) (fun h=>absurd h (by decide)) fun _=>ay ?_)
  refine ah (aF (by repeat array_get_dec) (fun _=>?_) fun h=>absurd h (by decide))
  exact ah (bI (by repeat array_get_dec) ⟨rfl,rfl⟩)
 | drop s'=>
  cases p with
  | keep k=>
   simp only [kH,Option.some.injEq] at h
   subst h
   refine ah (aF (by repeat array_get_dec) (fun h=>absurd h (by decide)) fun _=>ay ?_)
   refine ah (aF (by repeat array_get_dec) (fun _=>?_) fun h=>absurd h (by decide))
   exact ah (bI (by repeat array_get_dec) ⟨rfl,rfl⟩)
  | drop s=>simp [kH] at h
  | put s=>
   simp only [kH] at h
   split at h
   ·rename_i hs
    subst hs
    cases h
    refine ah (aF (by repeat array_get_dec) (fun h=>absurd h (by decide)) fun _=>ay ?_)
    refine ah (aF (by repeat array_get_dec) (fun h=>absurd h (by decide)) fun _=>ay ?_)
    refine ah (aF (by repeat array_get_dec) (fun h=>?_) fun _=>ay ?_)
    ·simp at h
    ·exact ah (bI (by repeat array_get_dec) ⟨rfl,rfl⟩)
   ·cases h
theorem g8 {l:List V}{v:V}:eZ (.lst (l++[v])) (.int (-1))=some v:=by rw [Gn,zf];simp
theorem jF {l:List V}{v:V}:truthy (.lst (l++[v]))=true:=by simp
theorem DE {P:aR}{f i:Nat}{fr:Fr}{b v:V}{l l':List V}(e:fr[i]?=some (some (.own l))) (h:P f [.bor l,.val b]=some (v,[l'])):fO P f [.inl i,.inr b] fr=.ok v (fr.set i (some (.own l'))):=by
 have e1:lent fr i=some (.bor l):=by rw [GC,e];rfl
 simp [fO,bM,args,e1,h,back,e,Sl.with]
theorem iW {c:List Pt}(h:j7 c=true):∀ p∈c,0<p.n:=fun p hp=>by
 simp only [j7,Bool.and_eq_true,List.all_eq_true] at h
 have:=h.2 p hp
 simp only [Lk,bne_iff_ne,ne_eq] at this
 omega
theorem g9:∀ {c:List Pt},(∀ p∈c,0<p.n)→c.length≤tot c
 | [],_=>by simp [tot]
 | p :: c,h=>by
  have h1:=h p (by simp)
  have h2:=g9 (c:=c) fun q hq=>h q (by simp [hq])
  rw [bU,List.length_cons];omega
theorem xq {p:Pt}{m:Nat}(h:m≤p.n):(p.tk m).aN++(p.dp m).aN=p.aN∧(p.tk m).n=m:=by
 cases p with
 | keep k=>simp only [Pt.n] at h;simp [Pt.tk,Pt.dp,Pt.aN,Pt.n,h]
 | put s=>simp only [Pt.n] at h;simp [Pt.tk,Pt.dp,Pt.aN,Pt.n,h,←List.map_append]
 | drop s=>simp only [Pt.n] at h;simp [Pt.tk,Pt.dp,Pt.aN,Pt.n,h,←List.map_append]
noncomputable def jG (m:Nat) (p:Pt):List Pt:=if 0<p.n - m then [p.dp m] else []
theorem vf {p:Pt}{m:Nat}(h:m≤p.n):p.aN=(p.tk m).aN++aN (jG m p):=by
 rw [← (xq h).1]
 congr 1
 unfold jG
 split
 ·simp [aN]
 ·rename_i hz
  have:(p.dp m).aN.length=0:=by rw [tE,qb];omega
  rw [List.length_eq_zero_iff.mp this];rfl
theorem vg (m:Nat) (p:Pt):∀ q∈jG m p,0<q.n:=fun q hq=>by
 unfold jG at hq
 split at hq
 ·simp at hq;subst hq;rw [qb];omega
 ·simp at hq
theorem GZ (m:Nat) (p:Pt) (A:List Pt):((jG m p++A).map Pt.v).reverse=(A.map Pt.v).reverse++if 0<p.n - m then [(p.dp m).v] else []:=by
 unfold jG;split <;> simp
theorem mF (m:Nat) (p:Pt):tot (jG m p)=p.n - m:=by
 unfold jG;split
 ·simp [tot,qb]
 ·simp [tot];omega
theorem vh {m:Nat}{p:Pt}:dw (p.tk m)=dw p∧eE (p.tk m)=eE p:=by cases p <;> exact ⟨rfl,rfl⟩
theorem Lo {A B r:List At}(p q:Pt) (hp:dw p=false) (hq:eE q=false) (hn:p.n=q.n) (h:Th (p.aN++A) (q.aN++B) r):∃ m r',kH p q=some m∧m.length≤1∧r=aN m++r'∧Th A B r':=by
 cases p with
 | drop s=>cases hp
 | keep k=>
  cases q with
  | put s=>cases hq
  | keep k'=>simp only [Pt.n] at hn;subst hn;obtain ⟨r',rfl,h'⟩:=Th.WJ h;exact ⟨[.keep k],r',rfl,by simp,by simp [aN,Pt.aN],h'⟩
  | drop s=>simp only [Pt.n] at hn;subst hn;obtain ⟨r',rfl,h'⟩:=Th.WK h;exact ⟨[.drop s],r',rfl,by simp,by simp [aN,Pt.aN],h'⟩
 | put s=>
  cases q with
  | put s'=>cases hq
  | keep k'=>simp only [Pt.n] at hn;subst hn;obtain ⟨r',rfl,h'⟩:=Th.WL h;exact ⟨[.put s],r',rfl,by simp,by simp [aN,Pt.aN],h'⟩
  | drop s'=>simp only [Pt.n] at hn;obtain ⟨rfl,h'⟩:=Th.QI hn h;exact ⟨[],r,by simp [kH],by simp,by simp [aN],h'⟩
structure Tn (one other c:List Pt) (t:List Nat):Prop where
 DF:aT c=c
 fit:aP c t=true
 dn:aC c t=aC other (aC one t)
 DG:told 0 c=(told 0 other).map (sub (told 0 one))
 WN:told 0 (sw c)=(told 0 (sw one)).map (sub (told 0 (sw other)))
 cs:cst c≤cst one+cst other
 tt:tot c≤tot one+tot other
 ln:c.length≤tot c
theorem O9 {one other ps:List Pt}{t:List Nat}(h1:aP one t=true) (h2:aP other (aC one t)=true) (h:Th (aN (aT one)) (aN (aT other)) (aN ps)):Tn one other (aT ps) t:=by
 have f1:aW (aA (aN (aT one))) t=true:=by rw [←fJ,fF,←fG];exact h1
 have f2:aW (aA (aN (aT other))) (dA (aN (aT one)) t)=true:=by rw [←fJ,fF,←eg,gw,←fG];exact h2
 have b:=h.back 0 0 [] rfl
 rw [←tF,←tF,←tF,←dU,←dU,←dU] at b
 have sf:∀ c i,told i (sw (aT c))=told i (sw c):=fun c i=>by
  have:=congrArg (told i) (GR (jE c));rwa [dF,dF] at this
 refine ⟨jE _,?_,?_,?_,?_,?_,?_,g9 (iW (g7 _))⟩
 ·rw [tu,fG,fJ];exact h.fit t f1 f2
 ·rw [gw,eg,h.done t f1,←eg,gw,←eg,gw]
 ·have:=h.told 0 0 [] rfl
  rw [←dU,←dU,←dU,dF,dF] at this
  rw [dF];exact this
 ·rw [sf,←sf one,←sf other];exact b
 ·have:=h.cost
  rw [←mD,←mD,←mD,nD,nD] at this
  rw [nD];exact this
 ·have:=h.len
  rw [iU,iU,iU,gn,gn] at this
  rw [gn];exact this
section
variable (hs:F[aL]?=some fE) (hp:F[cV]?=some jl) (ht:F[bR]?=some (mE cV aL)) (hm:F[cX]?=some qY) {one other:List Pt}{r:List At}{N:Nat}(hN:N≤5000)
noncomputable def fc (one other A B C:List Pt) (a:Option Sl):Fr:=[some (.val (aU one)),some (.val (aU other)),some (.own (A.map Pt.v).reverse),some (.own (B.map Pt.v).reverse),some (.own (C.map Pt.v)),a]
noncomputable def QL (one other:List Pt) (r:List At) (N k:Nat) (fr:Fr):Prop:=∃ A B C r' a,Th (aN A) (aN B) r'∧aN C++r'=r∧(∀ p∈A,0<p.n)∧(∀ p∈B,0<p.n)∧C.length+k≤N∧k=tot A+tot B∧vo a∧fr=fc one other A B C a
include hs hp ht hm hN
noncomputable def zN (aL cX bR:Nat):Ss:=(.cons (.set 5 (.bi .min (.cons (.cl aL (.cons (.ix (.v 2) (.neg (.c (.int 1)))) .nil)) (.cons (.cl aL (.cons (.ix (.v 3) (.neg (.c (.int 1)))) .nil)) .nil)))) (.cons (.exp (.me .extend (.v 4) (.cons (.cl cX (.cons (.cl bR (.cons (.v 2) (.cons (.v 5) .nil))) (.cons (.cl bR (.cons (.v 3) (.cons (.v 5) .nil))) .nil))) .nil))) .nil))
noncomputable def tK (aL cX bR:Nat):Ss:=.cons (.iff (.an (.v 3) (.cmp .eq (.ix (.ix (.v 3) (.neg (.c (.int 1)))) (.c (.int 0))) (.c (.str [112,117,116])))) (.cons (.exp (.me .append (.v 4) (.cons (.me .pop (.v 3) .nil) .nil))) .nil) (zN aL cX bR)) .nil
noncomputable def tL (one other:List Pt) (r:List At) (N t:Nat) (g:Fl) (fr:Fr):Prop:=g=.nx∧∃ j,j<t∧QL one other r N j fr
omit hs hp ht hm hN in
theorem zO {C:List Pt}(lC:C.length≤5000) (d:Pt) (fr:Fr):gb .append 4 [d.v] fr (some (some (.own (C.map Pt.v))))=.ok .aY (fr.set 4 (some (.own ((C++[d]).map Pt.v)))):=by
 rw [List.map_append];exact j5 (by simp;omega)
omit hs hp ht hm in
theorem tM (A B C:List Pt) (s:List Nat) (r':List At) (a:Option Sl) (h:Th (aN A) (aN (.put s :: B)) r') (hn:zG (aN A)=true) (hC:aN C++r'=r) (hA:∀ p∈A,0<p.n) (hB:∀ p∈(.put s :: B),0<p.n) (hk:C.length+(tot A+tot (.put s :: B))≤N) (ha:vo a) :
  Wp (exs (run F w (n+2)) w (tK aL cX bR) (fc one other A (.put s :: B) C a)) (tL one other r N (tot A+tot (.put s :: B))):=by
 have lC:C.length≤5000:=by omega
 rw [cQ] at h
 obtain ⟨r2,e2,h2⟩:=Th.ps hn h
 have hs1:=hB (.put s) (by simp)
 unfold fc
 rw [List.map_cons,List.reverse_cons]
 refine ah (aF (gf (aD rfl (av rfl) jF) (by (repeat (first | array_get_dec | exact g8)))) (fun _=>?_) fun h=>absurd h (by decide))
 refine ah (d9 (by (repeat (first | array_get_dec | exact pX | exact zO lC _ _))) (ay (ay ?_)))
 refine ⟨rfl,tot A+tot B,by rw [bU];omega,A,B,C++[.put s],r2,a,h2,?_,hA,fun x hx=>hB x (by simp [hx]),?_,rfl,ha,rfl⟩
 ·rw [←hC,e2,iT];simp [aN,Pt.aN]
 ·rw [bU] at hk;simp;omega
omit hN in
theorem Lp (A B C mm:List Pt) (p q:Pt) (m:Nat) (a:Option Sl) (mn:cY .min [.int p.n,.int q.n]=some (.int m)) (hm1:m≤p.n) (hm2:m≤q.n) (lp:p.n≤5000) (lq:q.n≤5000) (lA:A.length≤5000) (lB:B.length≤5000) (lC:C.length+mm.length≤10000) (e1:kH (p.tk m) (q.tk m)=some mm) (ha:vo a) (Q:Fl→Fr→Prop)
  (hQ:Q .nx (fc one other (jG m p++A) (jG m q++B) (C++mm) (some (.val (.int m))))):Wp (exs (run F w (n+2)) w (zN aL cX bR) (fc one other (p :: A) (q :: B) C a)) Q:=by
 have z1:=fun fr=>di (fr:=fr) (g6 (F:=F) (w:=w) (n:=n+1) hs p (Nat.le_trans lp (by decide)))
 have z2:=fun fr=>di (fr:=fr) (g6 (F:=F) (w:=w) (n:=n+1) hs q (Nat.le_trans lq (by decide)))
 have t1:=qJ (F:=F) (w:=w) (n:=n) hs hp ht (A.map Pt.v).reverse p m hm1 (by omega) (by simp;omega)
 have t2:=qJ (F:=F) (w:=w) (n:=n) hs hp ht (B.map Pt.v).reverse q m hm2 (by omega) (by simp;omega)
 rw [←GZ] at t1 t2
 have cm:=fun fr=>call2 (fr:=fr) (GY (F:=F) (w:=w) (n:=n+1) hm _ _ mm e1)
 have ex:∀ fr:Fr,gb .extend 4 [.lst (mm.map Pt.v)] fr (some (some (.own (C.map Pt.v))))=.ok .aY (fr.set 4 (some (.own ((C++mm).map Pt.v)))):=fun fr=>by
  rw [List.map_append];exact iS (by simp;omega)
 unfold fc at hQ ⊢
 rw [List.map_cons,List.reverse_cons,List.map_cons,List.reverse_cons]
 refine ah (aS (by (repeat (first | array_get_dec | exact g8 | exact z1 _ | exact z2 _))) rfl (e8 rfl ha) ?_)
 exact ah (d9 (by (repeat (first | array_get_dec | exact DE rfl t1 | exact DE rfl t2 | exact cm _ | exact ex _))) (ay hQ))
theorem Ce (A B C:List Pt) (p q:Pt) (r':List At) (a:Option Sl) (hd:dw p=false) (hq:eE q=false) (h:Th (aN (p :: A)) (aN (q :: B)) r') (hC:aN C++r'=r) (hA:∀ x∈p :: A,0<x.n) (hB:∀ x∈q :: B,0<x.n) (hk:C.length+(tot (p :: A)+tot (q :: B))≤N) (ha:vo a) :
  Wp (exs (run F w (n+2)) w (tK aL cX bR) (fc one other (p :: A) (q :: B) C a)) (tL one other r N (tot (p :: A)+tot (q :: B))):=by
 have hp0:=hA p (by simp)
 have X6:=hB q (by simp)
 obtain ⟨m,hm1,hm2,X7⟩:∃ m:Nat,m≤p.n∧m≤q.n∧(m=p.n∨m=q.n):=⟨min p.n q.n,by omega,by omega,by omega⟩
 have mn:cY .min [.int p.n,.int q.n]=some (.int m):=by
  rw [KC]
  split
  ·congr 2;omega
  ·congr 2;omega
 rw [bU,bU] at hk
 have lA:=g9 (c:=A) fun x hx=>hA x (by simp [hx])
 have lB:=g9 (c:=B) fun x hx=>hB x (by simp [hx])
 have h3:Th ((p.tk m).aN++aN (jG m p++A)) ((q.tk m).aN++aN (jG m q++B)) r':=by
  rw [iT,iT,←List.append_assoc,←List.append_assoc,←vf hm1,←vf hm2,←cQ,←cQ];exact h
 obtain ⟨mm,r2,e1,e2,e3,h4⟩:=Lo (p.tk m) (q.tk m) (by rw [vh.1];exact hd) (by rw [vh.2];exact hq) (by rw [(xq hm1).2,(xq hm2).2]) h3
 have fin:tL one other r N (tot (p :: A)+tot (q :: B)) .nx (fc one other (jG m p++A) (jG m q++B) (C++mm) (some (.val (.int m)))):=by
  refine ⟨rfl,_,?_,_,_,_,r2,_,h4,?_,?_,?_,?_,rfl,.val,rfl⟩
  ·rw [dI,dI,mF,mF,bU,bU];omega
  ·rw [iT,List.append_assoc,←e3];exact hC
  ·intro x hx
   rcases List.mem_append.mp hx with hx | hx
   ·exact vg m p x hx
   ·exact hA x (List.mem_cons_of_mem _ hx)
  ·intro x hx
   rcases List.mem_append.mp hx with hx | hx
   ·exact vg m q x hx
   ·exact hB x (List.mem_cons_of_mem _ hx)
  ·rw [dI,dI,mF,mF,List.length_append];omega
 have st:=Lp (one:=one) (other:=other) (w:=w) (n:=n) hs hp ht hm A B C mm p q m a mn hm1 hm2 (by omega) (by omega) (by omega) (by omega) (by omega) e1 ha _ (show nx (run F w (n+2)) w .nil (tL one other r N (tot (p :: A)+tot (q :: B))) .nx _ from ay fin)
 unfold fc at st ⊢
 rw [List.map_cons,List.reverse_cons,List.map_cons,List.reverse_cons] at st ⊢
 cases q with
 | put s=>cases hq
 | keep k=>exact ah (aF (gf (aD rfl (av rfl) jF) (by (repeat (first | array_get_dec | exact g8)))) (fun h=>absurd h (by decide)) fun _=>st)
 | drop s=>exact ah (aF (gf (aD rfl (av rfl) jF) (by (repeat (first | array_get_dec | exact g8)))) (fun h=>absurd h (by decide)) fun _=>st)
omit hs hp ht hm hN in
theorem QM {b r:List At}{x:At}(h:Th [] (x :: b) r):∃ c,x=.p c:=by cases h with | p=>exact ⟨_,rfl⟩
omit hs hp ht hm hN in
theorem QN {a r:List At}{x:At}(h:Th (x :: a) [] r):∃ c,x=.d c:=by cases h with | d=>exact ⟨_,rfl⟩
theorem zP (A B C:List Pt) (r':List At) (a:Option Sl) (hne:A≠[]∨B≠[]) (h:Th (aN A) (aN B) r') (hC:aN C++r'=r) (hA:∀ p∈A,0<p.n) (hB:∀ p∈B,0<p.n) (hk:C.length+(tot A+tot B)≤N) (ha:vo a) :
  Wp (exs (run F w (n+2)) w (tG aL cX bR) (fc one other A B C a)) (tL one other r N (tot A+tot B)):=by
 cases A with
 | nil=>
  cases B with
  | nil=>exact absurd hne (by simp)
  | cons q B'=>
   refine ah (aF (oR (aD rfl (av rfl) rfl)) (fun h=>absurd h (by decide)) fun _=>?_)
   have hq:=hB q (by simp)
   cases q with
   | put s=>exact (tM hN [] B' C s r' a h rfl hC hA hB hk ha).mono fun g fr ⟨hg,hx⟩=>by subst hg;exact ay ⟨rfl,hx⟩
   | keep k=>
    rw [cQ] at h
    cases k with
    | zero=>exact absurd hq (Nat.lt_irrefl 0)
    | succ k=>obtain ⟨c,e⟩:=QM (x:=.k) h;cases e
   | drop s=>
    rw [cQ] at h
    cases s with
    | nil=>exact absurd hq (Nat.lt_irrefl 0)
    | cons c s=>obtain ⟨c,e⟩:=QM (x:=.d c) h;cases e
 | cons p A'=>
  have hp0:=hA p (by simp)
  cases hd:dw p with
  | true=>
   cases p with
   | keep k=>cases hd
   | put s=>cases hd
   | drop s=>
    have lC:C.length≤5000:=by omega
    rw [cQ] at h
    obtain ⟨r2,e2,h2⟩:=Th.ds h
    unfold fc
    rw [List.map_cons,List.reverse_cons]
    refine ah (aF (gf (aD rfl (av rfl) jF) (by (repeat (first | array_get_dec | exact g8)))) (fun _=>?_) fun h=>absurd h (by decide))
    refine ah (d9 (by (repeat (first | array_get_dec | exact pX | exact zO lC _ _))) (ay (ay ?_)))
    refine ⟨rfl,tot A'+tot B,by rw [bU];omega,A',B,C++[.drop s],r2,a,h2,?_,fun x hx=>hA x (by simp [hx]),hB,?_,rfl,ha,rfl⟩
    ·rw [←hC,e2,iT];simp [aN,Pt.aN]
    ·rw [bU] at hk;simp;omega
  | false=>
   have st:Wp (exs (run F w (n+2)) w (tK aL cX bR) (fc one other (p :: A') B C a)) (tL one other r N (tot (p :: A')+tot B)):=by
    cases B with
    | nil=>
     exfalso
     rw [cQ] at h
     cases p with
     | drop s=>cases hd
     | keep k=>cases k with | zero=>exact absurd hp0 (Nat.lt_irrefl 0) | succ k=>obtain ⟨c,e⟩:=QN (x:=.k) h;cases e
     | put s=>cases s with | nil=>exact absurd hp0 (Nat.lt_irrefl 0) | cons c s=>obtain ⟨c,e⟩:=QN (x:=.p c) h;cases e
    | cons q B'=>
     cases hq:eE q with
     | true=>
      have hnd:zG (aN (p :: A'))=true:=by
       rw [cQ]
       cases p with
       | drop s=>cases hd
       | keep k=>cases k <;> first | exact absurd hp0 (Nat.lt_irrefl 0) | rfl
       | put s=>cases s <;> first | exact absurd hp0 (Nat.lt_irrefl 0) | rfl
      cases q with
      | keep k=>cases hq
      | drop s=>cases hq
      | put s=>exact tM hN (p :: A') B' C s r' a h hnd hC hA hB hk ha
     | false=>exact Ce hs hp ht hm hN A' B' C p q r' a hd hq h hC hA hB hk ha
   replace st:=st.mono (Q':=nx (run F w (n+2)) w .nil (tL one other r N (tot (p :: A')+tot B))) fun g fr ⟨hg,hx⟩=>by subst hg;exact ay ⟨rfl,hx⟩
   unfold fc at st ⊢
   rw [List.map_cons,List.reverse_cons] at st ⊢
   cases p with
   | drop s=>cases hd
   | keep k=>exact ah (aF (gf (aD rfl (av rfl) jF) (by (repeat (first | array_get_dec | exact g8)))) (fun h=>absurd h (by decide)) fun _=>st)
   | put s=>exact ah (aF (gf (aD rfl (av rfl) jF) (by (repeat (first | array_get_dec | exact g8)))) (fun h=>absurd h (by decide)) fun _=>st)
omit hN in
theorem Cf (hst:F[bP]?=some gv) (hf:F[cK]?=some (lQ bP)) (hb:F[cR]?=some (kC aL)) (ha:F[dJ]?=some (mC aL)) (zQ:F[i]?=some (j9 dJ cR cK aL cX bR)) (hw:5000<w)
  (one other:List Pt) (t:List Nat) (h1:aP one t=true) (h2:aP other (aC one t)=true) (b1:tot one≤2000) (b2:tot other≤2000) (l1:one.length≤2000) (l2:other.length≤2000) :
  ∃ c,run F w (n+3) i [.val (aU one),.val (aU other)]=some (aU c,[])∧Tn one other c t:=by
 have f1:aW (aA (aN (aT one))) t=true:=by rw [←fJ,fF,←fG];exact h1
 have f2:aW (aA (aN (aT other))) (dA (aN (aT one)) t)=true:=by rw [←fJ,fF,←eg,gw,←fG];exact h2
 obtain ⟨r,hr⟩:=Th.all _ _ _ t (Nat.le_refl _) f1 f2
 have e1:fT one=az other:=by rw [←nH h1,gy h2]
 have ne:cop .ne (.int (fT one)) (.int (az other))=some false:=by rw [Ds,e1];simp
 have c1:=fun fr=>di (fr:=fr) (zo (F:=F) (w:=w) (n:=n) hs ha one (by omega) (by omega))
 have c2:=fun fr=>di (fr:=fr) (wV (F:=F) (w:=w) (n:=n) hs hb other (by omega) (by omega))
 have c3:=fun fr=>di (fr:=fr) (ji (F:=F) (w:=w) (n:=n) hst hf one (by omega) (by omega))
 have c4:=fun fr=>di (fr:=fr) (ji (F:=F) (w:=w) (n:=n) hst hf other (by omega) (by omega))
 have t1:=gn one
 have t2:=gn other
 have g1:=g9 (iW (g7 one))
 have g2:=g9 (iW (g7 other))
 have m1:dO ((aT one).map Pt.v).reverse=some (.lst ((aT one).map Pt.v).reverse):=cT (bN (by simp;omega))
 have m2:dO ((aT other).map Pt.v).reverse=some (.lst ((aT other).map Pt.v).reverse):=cT (bN (by simp;omega))
 have key:Wp (exs (run F w (n+2)) w (j9 dJ cR cK aL cX bR).body (d7 (j9 dJ cR cK aL cX bR) [.val (aU one),.val (aU other)])) fun g fr=>∃ ps,aN ps=r∧g=.ret (aU (aT ps))∧outs 2 fr=[]:=by
  refine ah (aF (by (repeat (first | array_get_dec | exact c1 _ | exact c2 _))) (fun h=>absurd h (by decide)) fun _=>ay ?_)
  refine ah (fD (l:=((aT one).map Pt.v).reverse) (wL (zh (bJ (aJ rfl (av rfl) aX) (c3 _)) rfl) m1) rfl rfl ?_)
  refine ah (fD (l:=((aT other).map Pt.v).reverse) (wL (zh (bJ (aJ rfl (av rfl) aX) (c4 _)) rfl) m2) rfl rfl ?_)
  refine ah (fD (l:=[]) (by repeat array_get_dec) rfl rfl ?_)
  refine ah (O4 (sJ (QL one other r (tot one+tot other)) (fun k fr hI=>?_) w (tot one+tot other) _ (by omega) ⟨aT one,aT other,[],r,none,hr,rfl,iW (g7 one),iW (g7 other),by simp,by omega,.none,rfl⟩))
  obtain ⟨A,B,C,r',a,hT,hC,hA,hB,hk,hkk,QO,rfl⟩:=hI
  by_cases hne:A≠[]∨B≠[]
  ·have ht1:aK (run F w (n+2)) (.orr (.v 2) (.v 3)) (fc one other A B C a)=.ok true (fc one other A B C a):=by
    cases A with
    | cons p A=>unfold fc;rw [List.map_cons,List.reverse_cons];exact zg (aD rfl (av rfl) jF)
    | nil=>
     cases B with
     | nil=>simp at hne
     | cons q B=>unfold fc;rw [List.map_cons,List.reverse_cons];exact j6 (aD rfl (av rfl) rfl) (aD rfl (av rfl) jF)
   refine ⟨true,_,ht1,?_⟩
   dsimp only
   rw [if_pos rfl]
   refine (zP hs hp ht hm (N:=tot one+tot other) (by omega) A B C r' a hne hT hC hA hB (by omega) QO).mono fun g fr ⟨hg,hx⟩=>?_
   subst hg hkk
   exact hx
  ·obtain ⟨rfl,rfl⟩:A=[]∧B=[]:=by simpa using hne
   refine ⟨false,_,j6 (aD rfl (av rfl) rfl) (aD rfl (av rfl) rfl),?_⟩
   dsimp only
   rw [if_neg (by decide)]
   cases hT
   rw [List.append_nil] at hC
   subst hC
   have lC:=hr.len
   rw [iU,iU,iU] at lC
   have mt:toT (.lst (C.map Pt.v))=some (aU C):=by rw [uZ];exact j3 (bN (by simp;omega))
   have c5:=fun fr=>di (fr:=fr) (ji (F:=F) (w:=w) (n:=n) hst hf C (by omega) (by omega))
   have sh:ez (fc one other [] [] C a)=[some (.val (aU one)),some (.val (aU other)),some (.val (.lst [])),some (.val (.lst [])),some (.val (.lst (C.map Pt.v))),a]:=by
    show _ :: _ :: _ :: _ :: _ :: [a.map Sl.cZ]=_
    rw [bX QO];rfl
   refine ah (bI (v:=aU (aT C)) (af:=[some (.val (aU one)),some (.val (aU other)),some (.val (.lst [])),some (.val (.lst [])),some (.val (.lst (C.map Pt.v))),a]) ?_ ⟨C,rfl,rfl,rfl⟩)
   rw [sh]
   exact bJ (aJ rfl (wN (av rfl) mt) aX) (c5 _)
 obtain ⟨g,fr,e,ps,hps,rfl,ho⟩:=key
 refine ⟨aT ps,?_,O9 h1 h2 (hps▸hr)⟩
 rw [run_eq zQ rfl,e]
 simp only [Gq]
 rw [show outs (j9 dJ cR cK aL cX bR).np fr=[] from ho]
end
end
end Pv
namespace Pv
open Ev (D bW bQ TY BI ME T E Es Eo It S Ss Fn big deep b2i rep b6 dY bK aQ cut cG dW slots)
section
variable {F:List Fn}{w n cV aL cX bR cK bP dJ cR fK o7 i:Nat}
theorem Cg (hf:F[i]?=some Ln) (c:List Pt) (t:List Nat) (h1:tot c≤10000) (h2:t.length≤10000) (h:aP c t=true):run F w (n+1) i [.val (aU c),.val (.str t)]=some (.str (aC c t),[]):=by
 refine bT hf rfl ?_
 refine ah (aS (by repeat array_get_dec) rfl rfl ?_)
 refine ah (aS (by repeat array_get_dec) rfl rfl ?_)
 refine ah (iw (vs:=c.map Pt.v) (dR (cU rfl) rfl) ?_)
 have dl:=jk c t
 refine eH (e:=Pt.v) (fun p l fr=>p++l=c∧az p≤t.length∧aP l (t.drop (az p))=true∧∃ f a b,f++aC l (t.drop (az p))=aC c t∧vo a∧vo b∧fr=[some (.val (aU c)),some (.val (.str t)),some (.val (.int (az p))),some (.val (.str f)),a,b]) (fun p x l fr ⟨hpl,QS,hfit,f,a,b,hd,ha,hb,hfr⟩=>?_) (fun p fr ⟨hpl,QS,hfit,f,a,b,hd,ha,hb,hfr⟩=>?_) c [] _ ⟨rfl,by simp [az,tot],by simpa [az,tot] using h,[],none,none,by simp [az,tot],.none,.none,rfl⟩
 ·subst hfr
  have dZ:(p++[x])++l=c:=by simpa using hpl
  have lf:=congrArg List.length hd
  rw [List.length_append] at lf
  cases x with
  | put s=>
   have e2:az (p++[.put s])=az p:=by rw [gx,jD];simp [az,tot]
   have ad:=ku (a:=f) (b:=s) (by simp [aC] at lf;omega)
   refine cO (gk rfl ha rfl hb) (ah (aF (by repeat array_get_dec) (fun _=>?_) fun h=>absurd h (by decide)))
   refine ah (aS (by repeat array_get_dec) rfl rfl (ay (ay ?_)))
   rw [cL,e2]
   exact ⟨dZ,QS,hfit,f++s,_,_,by simpa [aC] using hd,.val,.val,rfl⟩
  | drop s=>
   simp only [aP,Bool.and_eq_true] at hfit
   have e2:az (p++[.drop s])=az p+s.length:=by rw [gx,kG];simp [az,tot]
   have e3:((az (p++[.drop s]):Nat):Int)=(az p:Int)+(s.length:Nat):=by rw [e2];simp
   have hs:=hfit.1
   rw [pre_take] at hs
   have hs:=of_decide_eq_true hs
   have hl:s.length≤(t.drop (az p)).length:=by have:=congrArg List.length hs;simp at this ⊢;omega
   have hl2:az p+s.length≤t.length:=by simp at hl;omega
   have ln:cY .len [.str s]=some (.int (s.length:Nat)):=len_str (by omega)
   have cu:eF (.str t) (some (az p:Int)) (some ((az p:Int)+(s.length:Nat)))=some (.str s):=by rw [fQ,jj,hs]
   refine cO (gk rfl ha rfl hb) (ah (aF (by repeat array_get_dec) (fun h=>absurd h (by decide)) fun _=>?_))
   refine ah (aF (by repeat array_get_dec) (fun _=>?_) fun h=>absurd h (by decide))
   refine ah (aF (by repeat array_get_dec) (fun h=>?_) fun _=>ay ?_)
   ·simp at h
   ·refine ah (aS (by repeat array_get_dec) rfl rfl (ay (ay (ay ?_))))
    rw [cL]
    refine ⟨dZ,by omega,?_,f,_,_,?_,.val,.val,by rw [e3];rfl⟩
    ·rw [e2,←List.drop_drop];exact hfit.2
    ·rw [e2,←List.drop_drop];simpa [aC] using hd
  | keep k=>
   simp only [aP,Bool.and_eq_true,decide_eq_true_eq] at hfit
   have e2:az (p++[.keep k])=az p+k:=by rw [gx,jC];simp [az,tot]
   have e3:((az (p++[.keep k]):Nat):Int)=(az p:Int)+(k:Nat):=by rw [e2];simp
   have hl2:az p+k≤t.length:=by have:=hfit.1;simp at this;omega
   have cu:eF (.str t) (some (az p:Int)) (some ((az p:Int)+(k:Nat)))=some (.str ((t.drop (az p)).take k)):=by rw [fQ,jj]
   have ad:=ku (a:=f) (b:=(t.drop (az p)).take k) (by simp [aC] at lf ⊢;omega)
   refine cO (gk rfl ha rfl hb) (ah (aF (by repeat array_get_dec) (fun h=>absurd h (by decide)) fun _=>?_))
   refine ah (aF (by repeat array_get_dec) (fun h=>absurd h (by decide)) fun _=>?_)
   refine ah (aS (by repeat array_get_dec) rfl rfl ?_)
   refine ah (aS (by repeat array_get_dec) rfl rfl (ay (ay (ay ?_))))
   rw [cL]
   refine ⟨dZ,by omega,?_,f++(t.drop (az p)).take k,_,_,?_,.val,.val,by rw [e3];rfl⟩
   ·rw [e2,←List.drop_drop];exact hfit.2
   ·rw [e2,←List.drop_drop];simpa [aC] using hd
 ·subst hfr
  simp at hpl
  subst hpl
  have hd':f=aC p t:=by simpa [aC] using hd
  subst hd'
  have e0:=gy h
  have ln:cY .len [.str t]=some (.int (t.length:Nat)):=len_str (by omega)
  have eq:cop .eq (.int (az p)) (.int (t.length:Nat))=some true:=by rw [nB,e0];simp
  have sh:ez [some (.val (aU p)),some (.val (.str t)),some (.val (.int (az p))),some (.val (.str (aC p t))),a,b]=[some (.val (aU p)),some (.val (.str t)),some (.val (.int (az p))),some (.val (.str (aC p t))),a,b]:=by
   show _ :: _ :: _ :: _ :: a.map Sl.cZ :: [b.map Sl.cZ]=_
   rw [bX ha,bX hb];rfl
  refine ah (bI (v:=.str (aC p t)) (af:=[some (.val (aU p)),some (.val (.str t)),some (.val (.int (az p))),some (.val (.str (aC p t))),a,b]) ?_ ⟨rfl,rfl⟩)
  rw [sh]
  exact jy (b:=true) (aD rfl (by repeat array_get_dec) rfl) (fun _=>av rfl) fun h=>absurd h (by decide)
noncomputable def Ch:List Nat→List (List Pt)→Prop
 | _,[]=>True
 | t,c :: rs=>aP c t=true∧Ch (aC c t) rs
noncomputable def b8 (t:List Nat) (rs:List (List Pt)):List Nat:=rs.foldl (fun s c=>aC c s) t
noncomputable def QT (T:List Tq) (rs:List (List Pt)):List Tq:=rs.foldl (fun T c=>(told 0 c).map (sub T)) T
noncomputable def cz (rs:List (List Pt)):Nat:=(rs.map tot).sum
theorem G0 (t:List Nat) (p q:List (List Pt)):b8 t (p++q)=b8 (b8 t p) q:=by simp [b8]
theorem jm {t:List Nat}:∀ {p q:List (List Pt)},Ch t (p++q)↔Ch t p∧Ch (b8 t p) q
 | [],q=>⟨fun h=>⟨trivial,h⟩,fun h=>h.2⟩
 | c :: p,q=>by
  show (aP c t=true∧Ch (aC c t) (p++q))↔(aP c t=true∧Ch (aC c t) p)∧Ch (b8 (aC c t) p) q
  rw [jm,and_assoc]
theorem Ud {a b:List Pt}{t:List Nat}(fa:aT a=a) (fb:aT b=b) (ha:aP a t=true) (hb:aP b t=true) (h:told 0 a=told 0 b):a=b:=by rw [←fa,←fb];exact zJ ha hb h
structure An (c:List Pt) (t:List Nat) (rs:List (List Pt)):Prop where
 DF:aT c=c
 fit:aP c t=true
 dn:aC c t=b8 t rs
 DG:told 0 c=QT (told 0 [.keep t.length]) rs
 WN:told 0 (sw c)=QT (told 0 [.keep (b8 t rs).length]) (rs.map Uc).reverse
 tt:tot c≤t.length+cz rs
 ln:c.length≤tot c
section
variable (hs:F[aL]?=some fE) (hp:F[cV]?=some jl) (ht:F[bR]?=some (mE cV aL)) (hm:F[cX]?=some qY)
 (hst:F[bP]?=some gv) (hf:F[cK]?=some (lQ bP)) (hb:F[cR]?=some (kC aL)) (ha:F[dJ]?=some (mC aL)) (zQ:F[o7]?=some (j9 dJ cR cK aL cX bR)) (hno:F[fK]?=some (lS cK)) (hw:5000<w)
include hs hp ht hm hst hf hb ha zQ hno hw
end
end
end Pv
namespace Pv
section
variable {t:List Nat}{p q rs:List (List Pt)}{s e w x y c:List Pt}
end
open Ev (D bW bQ TY BI ME T E Es Eo It S Ss Fn big deep b2i rep b6 dY bK aQ cut cG dW slots)
inductive Hd (L:List V):Sl→List (List V)→Prop
 | val:Hd L (.val (.lst L)) []
 | bor:Hd L (.bor L) [L]
section
variable {F:List Fn}{w n cV aL cX bR cK bP dJ cR fK o7 i:Nat}
section
variable (hs:F[aL]?=some fE) (hp:F[cV]?=some jl) (ht:F[bR]?=some (mE cV aL)) (hm:F[cX]?=some qY)
 (hst:F[bP]?=some gv) (hf:F[cK]?=some (lQ bP)) (hb:F[cR]?=some (kC aL)) (ha:F[dJ]?=some (mC aL)) (zQ:F[o7]?=some (j9 dJ cR cK aL cX bR)) (hno:F[fK]?=some (lS cK)) (hw:5000<w)
include hs hp ht hm hst hf hb ha zQ hno hw
end
end
theorem zR {P:aR}{fr af au:Fr}{k:Bool}{a b:E}{x y:V}{l m:List V}(h:src (k&&kf a (bE b)) fr a (ev P (k&&kf a (bE b)) a fr)=.ok x af) (h2:src k af b (ev P k b af)=.ok y au) (hx:gW x=some l) (hy:gW y=some m):cy P k (.zip a b) fr=.ok (dM l m) au:=by rw [u7,h,ak,h2,ak,hx,hy];rfl
end Pv
namespace Pv
open Ev (deep big rep cut bK)
theorem o8:∀ (a b:List At) (t:List Nat),dA (a++b) t=dA a (t.take (aA a).length)++dA b (t.drop (aA a).length)
 | [],b,t=>by simp [dA,aA]
 | .k :: a,b,t=>by
  simp only [List.cons_append,dA,aA,List.length_cons,o8 a b]
  cases t with
  | nil=>simp
  | cons c t=>simp
 | .d c :: a,b,t=>by
  simp only [List.cons_append,dA,aA,List.length_cons,o8 a b]
  cases t with
  | nil=>simp
  | cons c t=>simp
 | .p c :: a,b,t=>by simp only [List.cons_append,dA,aA,o8 a b]
noncomputable def QU:List At→Bool
 | .p _ :: _=>false
 | _=>true
structure Cut (c:List Pt) (p:Nat) (A B:List Pt):Prop where
 at_:aN A++aN B=aN (aT c)
 bA:az A=p
 hd:QU (aN B)=true
 pA:∀ q∈A,0<q.n
 pB:∀ q∈B,0<q.n
 fA:j7 A=true
 fB:j7 B=true
section
variable {c A B:List Pt}{p:Nat}{t:List Nat}
theorem tN (c:List Pt):az c=(aA (aN c)).length:=by rw [←fJ,kE]
end
end Pv
namespace Pv
open Ev (D bW bQ TY BI ME T E Es Eo It S Ss Fn big deep rep cut bK)
noncomputable def xr (dg:Nat):S:=.ret (.cl dg (.cons (.bin .add (.v 0) (.v 1)) .nil))
noncomputable def Ci (dg:Nat):Fn:=⟨2,2,(.cons (xr dg) .nil)⟩
noncomputable def zS (kI:Nat) (jH:Nat):S:=.ret (.cl kI (.cons (.cl kI (.cons (.cl jH (.cons (.v 0) .nil)) (.cons (.v 1) .nil))) (.cons (.cl jH (.cons (.v 2) .nil)) .nil)))
noncomputable def G1 (kI:Nat) (jH:Nat):Fn:=⟨3,3,(.cons (zS kI jH) .nil)⟩
section
variable {F:List Fn}{w n aL bP cK cR cV bR fK tO Pa G2 i:Nat}
section
variable (hst:F[bP]?=some gv) (hf:F[cK]?=some (lQ bP)) (hj:F[tO]?=some (Ci cK)) (hn:F[fK]?=some (lS cK)) (ha:F[G2]?=some (G1 tO fK))
include hst hf hj hn ha
end
end
end Pv
namespace Pv
open Ev (D bW bQ TY BI ME T E Es Eo It S Ss Fn big deep rep cut bK)
structure CA (a:List At) (p:Nat) (x y:List At):Prop where
 ap:x++y=a
 ln:(aA x).length=p
 hd:QU y=true
theorem Pb (n i:Nat):tA i (List.replicate n .k)=(List.range n).map fun j=>Tq.at (i+j):=by
 have:=dU [.keep n] i
 simp only [aN,Pt.aN,List.flatMap_cons,List.flatMap_nil,List.append_nil] at this
 rw [←this];simp [told,Pt.told]
section
variable {F:List Fn}{w n aL bP cK cR dJ cV bR Pa i:Nat}
end
end Pv
namespace Pv
open Ev (D bW bQ TY BI ME T E Es Eo It S Ss Fn big deep rep cut bK)
abbrev Row:=List Nat×List Pt
noncomputable def aH (r:Row):V:=.tup [.str r.1,aU r.2]
noncomputable def aZ (rs:List Row):List (List Pt):=rs.map Prod.snd
theorem ig (a b:List Row):aZ (a++b)=aZ a++aZ b:=List.map_append
noncomputable def who (st:List V) (o:List Nat):Tq→V
 | .at i=>st.getD i .aY
 | .sg _=>.str o
noncomputable def iD (st:List V) (r:Row):List V:=(told 0 r.2).map (who st r.1)
noncomputable def ows (st:List V) (rs:List Row):List V:=rs.foldl iD st
theorem G3 (st:List V) (a b:List Row):ows st (a++b)=ows (ows st a) b:=by simp [ows]
theorem G4 (st:List V) (r:Row):(iD st r).length=fT r.2:=by simp [iD,kF]
theorem G5 {c:List Pt}{i:Nat}(h:Tq.at i∈told 0 c):i<az c:=by
 rw [dU] at h
 obtain ⟨j,rfl,hj⟩:=(gz (aN c) 0 i).mp h
 have:=(List.getElem?_eq_some_iff.mp hj).1
 rw [←tN] at this;omega
theorem G6 {a c X:List Pt}{st:List V}{o:List Nat}(h:az c=fT a) (hX:told 0 X=(told 0 c).map (sub (told 0 a))):iD st (o,X)=iD (iD st (o,a)) (o,c):=by
 unfold iD
 rw [hX,List.map_map]
 refine List.map_congr_left fun x hx=>?_
 cases x with
 | sg d=>rfl
 | «at» i=>
  have hi:=G5 hx
  rw [h,←kF a 0] at hi
  simp [Function.comp,sub,who,List.getD,List.getElem?_eq_getElem hi]
theorem DH:∀ {a:List At},cA a=0→a=List.replicate (aA a).length .k
 | [],_=>rfl
 | .k :: a,h=>by
  simp only [aA,List.length_cons,List.replicate_succ]
  rw [←DH (a:=a) (by simpa [cA] using h)]
 | .d c :: a,h=>by simp [cA] at h
 | .p c :: a,h=>by simp [cA] at h
theorem DI {c:List Pt}(h:cst c=0):aN c=List.replicate (az c) .k:=by
 rw [tN];exact DH (by rw [←mD];exact h)
theorem Lq {Y:List Pt}{u:List Nat}(h:aN Y=List.replicate u.length .k):aC Y u=u:=by
 rw [eg,h]
 have:aC [.keep u.length] u=u:=by simp [aC]
 rw [eg] at this
 simpa [aN,Pt.aN] using this
theorem xu {c:List Pt}{t:List Nat}(h:cst c=0) (f:aP c t=true):aC c t=t:=Lq (by rw [DI h,gy f])
theorem zU {c:List Pt}{st:List V}{o:List Nat}(h:cst c=0) (hl:st.length=az c):iD st (o,c)=st:=by
 unfold iD
 rw [dU,DI h,Pb,List.map_map]
 apply List.ext_getElem?
 intro i
 by_cases hi:i<st.length
 ·rw [List.getElem?_map,List.getElem?_range (by omega)]
  simp [who,List.getD,List.getElem?_eq_getElem hi]
 ·rw [List.getElem?_eq_none (by simp;omega),List.getElem?_eq_none (by omega)]
open Classical in
noncomputable def bG (t:List Nat) (a c:List Pt):List Pt:=if h:∃ X,Tn a c X t then h.choose else []
theorem Lr {t:List Nat}{a c X:List Pt}(T:Tn a c X t):bG t a c=X:=by
 have h:∃ X,Tn a c X t:=⟨X,T⟩
 unfold bG
 rw [dif_pos h]
 have S:=h.choose_spec
 exact Ud S.DF T.DF S.fit T.fit (S.DG.trans T.DG.symm)
noncomputable def iJ (K:List Row) (r:Row) (X:List Pt):List Row:=if cst X=0 then K else K++[(r.1,X)]
noncomputable def stp (t:List Nat) (K:List Row) (r:Row):List Row:=match K.getLast? with
 | some q=>if q.1=r.1 then iJ K.dropLast r (bG (b8 t (aZ K.dropLast)) q.2 r.2) else iJ K r (aT r.2)
 | none=>iJ K r (aT r.2)
theorem tP {t:List Nat}{K:List Row}{o:List Nat}{a c X:List Pt}(T:Tn a c X (b8 t (aZ K))):stp t (K++[(o,a)]) (o,c)=iJ K (o,c) X:=by
 unfold stp
 simp only [List.getLast?_append,List.getLast?_singleton,Option.some_or,List.dropLast_concat,if_true]
 rw [Lr T]
theorem jI {t:List Nat}{K:List Row}{r:Row}(h:∀ K' q,K=K'++[q]→q.1≠r.1):stp t K r=iJ K r (aT r.2):=by
 unfold stp
 split
 ·rename_i q hq
  obtain ⟨K',rfl⟩:=List.getLast?_eq_some_iff.mp hq
  rw [if_neg (h K' q rfl)]
 ·rfl
noncomputable def b9 (t:List Nat) (rs:List Row):List Row:=rs.foldl (stp t) []
theorem mG (t:List Nat) (a b:List Row):b9 t (a++b)=b.foldl (stp t) (b9 t a):=by simp [b9]
noncomputable def jJ (K:List Row):Prop:=∀ A a b B,K=A++a :: b :: B→a.1≠b.1
theorem jJ.init {K:List Row}{x:Row}(h:jJ (K++[x])):jJ K:=fun A a b B e=>h A a b (B++[x]) (by simp [e])
theorem jJ.snoc {K:List Row}{x:Row}(h:jJ K) (h2:∀ K' q,K=K'++[q]→q.1≠x.1):jJ (K++[x]):=by
 intro A a b B e
 rcases List.eq_nil_or_concat B with rfl | ⟨B',y,hy⟩
 ·rw [show A++[a,b]=(A++[a])++[b] by simp] at e
  obtain ⟨e1,e2⟩:=List.append_inj' e rfl
  cases e2
  exact h2 A a e1
 ·rw [List.concat_eq_append] at hy
  subst hy
  rw [show A++a :: b :: (B'++[y])=(A++a :: b :: B')++[y] by simp] at e
  obtain ⟨e1,e2⟩:=List.append_inj' e rfl
  exact h A a b B' e1
theorem jJ.last {K:List Row}{x:Row}(h:jJ (K++[x])):∀ K' q,K=K'++[q]→q.1≠x.1:=fun K' q e=>h K' q x [] (by simp [e])
theorem jJ.zip:∀ {K:List Row},jJ K→∀ p∈K.zip K.tail,p.1.1≠p.2.1
 | [],_,p,hp=>by cases hp
 | [a],_,p,hp=>by cases hp
 | a :: b :: K,h,p,hp=>by
  simp only [List.tail_cons,List.zip_cons_cons,List.mem_cons] at hp
  rcases hp with rfl | hp
  ·exact h [] a b K rfl
  ·exact jJ.zip (K:=b :: K) (fun A x y B e=>h (a :: A) x y B (by rw [e];rfl)) p hp
structure Nm (t:List Nat) (rs K:List Row):Prop where
 ch:Ch t (aZ K)
 tx:b8 t (aZ K)=b8 t (aZ rs)
 ow:∀ st:List V,st.length=t.length→ows st K=ows st rs
 fm:∀ q∈K,aT q.2=q.2∧0<cst q.2
 ad:jJ K
 ln:K.length≤rs.length
 sb:∀ q∈K,∃ r∈rs,r.1=q.1
 tt:cz (aZ K)≤cz (aZ rs)
theorem Nm.nil (t:List Nat):Nm t [] []:=by
 refine ⟨trivial,rfl,fun _ _=>rfl,?_,?_,Nat.le_refl _,?_,Nat.le_refl _⟩
 ·intro q h;cases h
 ·intro A a b B e;simp at e
 ·intro q h;cases h
theorem qc {t:List Nat}:∀ {rs:List Row}{st:List V},st.length=t.length→Ch t (aZ rs)→(ows st rs).length=(b8 t (aZ rs)).length
 | [],st,h,_=>h
 | r :: rs,st,h,hc=>by
  have h1:aP r.2 t=true:=hc.1
  exact qc (t:=aC r.2 t) (by rw [G4,nH h1]) hc.2
theorem gA (K:List Row) (r:Row):cz (aZ (K++[r]))=cz (aZ K)+tot r.2:=by simp [cz,aZ]
theorem eY (t:List Nat) (K:List Row) (r:Row):b8 t (aZ (K++[r]))=aC r.2 (b8 t (aZ K)):=by rw [ig,G0];rfl
theorem mH {t:List Nat}{K:List Row}{r:Row}:Ch t (aZ (K++[r]))↔Ch t (aZ K)∧aP r.2 (b8 t (aZ K))=true:=by
 rw [ig,jm]
 exact ⟨fun h=>⟨h.1,h.2.1⟩,fun h=>⟨h.1,h.2,trivial⟩⟩
theorem jn (st:List V) (K:List Row) (r:Row):ows st (K++[r])=iD (ows st K) r:=by rw [G3];rfl
section
variable {t:List Nat}{rs K:List Row}{o:List Nat}{c:List Pt}
theorem Nm.push {K':List Row}{X:List Pt}(hK:Ch t (aZ K')) (hX:aP X (b8 t (aZ K'))=true) (tx:aC X (b8 t (aZ K'))=b8 t (aZ (rs++[(o,c)])))
  (ow:∀ st:List V,st.length=t.length→iD (ows st K') (o,X)=ows st (rs++[(o,c)])) (fm:∀ q∈K',aT q.2=q.2∧0<cst q.2) (fX:aT X=X) (ad:jJ K') (al:∀ K2 q,K'=K2++[q]→q.1≠o)
  (ln:K'.length≤rs.length) (sb:∀ q∈K',∃ r∈rs,r.1=q.1) (tt:cz (aZ K')+tot X≤cz (aZ (rs++[(o,c)]))):Nm t (rs++[(o,c)]) (iJ K' (o,c) X):=by
 have sb':∀ q∈K',∃ r∈rs++[(o,c)],r.1=q.1:=fun q hq=>by
  obtain ⟨r,hr,e⟩:=sb q hq
  exact ⟨r,List.mem_append_left _ hr,e⟩
 unfold iJ
 split
 ·rename_i h0
  refine ⟨hK,?_,fun st hs=>?_,fm,ad,by simp;omega,sb',by omega⟩
  ·rw [←tx,xu h0 hX]
  ·rw [←ow st hs,zU h0 (by rw [qc hs hK,gy hX])]
 ·rename_i h0
  refine ⟨mH.mpr ⟨hK,hX⟩,by rw [eY];exact tx,fun st hs=>by rw [jn];exact ow st hs,fun q hq=>?_,ad.snoc al,by simp;omega,fun q hq=>?_,by rw [gA];exact tt⟩
  ·rcases List.mem_append.mp hq with hq | hq
   ·exact fm q hq
   ·rw [List.mem_singleton] at hq;subst hq;exact ⟨fX,by simp only;omega⟩
  ·rcases List.mem_append.mp hq with hq | hq
   ·exact sb' q hq
   ·rw [List.mem_singleton] at hq;subst hq;exact ⟨(o,c),by simp,rfl⟩
theorem Nm.step (N:Nm t rs K) (hf:aP c (b8 t (aZ rs))=true) (hT:∀ K' a,K=K'++[(o,a)]→∃ X,Tn a c X (b8 t (aZ K'))):Nm t (rs++[(o,c)]) (stp t K (o,c)):=by
 by_cases h:∃ K' a,K=K'++[(o,a)]
 ·obtain ⟨K',a,rfl⟩:=h
  obtain ⟨X,T⟩:=hT K' a rfl
  rw [tP T]
  obtain ⟨c1,c2⟩:=mH.mp N.ch
  have e1:=N.tx
  rw [eY] at e1
  have tt:=N.tt
  rw [gA] at tt
  have t2:=T.tt
  refine Nm.push c1 T.fit ?_ (fun st hs=>?_) (fun q hq=>N.fm q (List.mem_append_left _ hq)) T.DF N.ad.init (fun K2 q e=>N.ad.last K2 q e) (by have:=N.ln;simp at this;omega) (fun q hq=>N.sb q (List.mem_append_left _ hq)) (by rw [gA];simp only at tt ⊢;omega)
  ·rw [T.dn,eY,←e1]
  ·rw [jn,←N.ow st hs,jn]
   refine G6 ?_ T.DG
   rw [←gy hf,←e1]
   exact nH c2
 ·have hn:∀ K' q,K=K'++[q]→q.1≠o:=fun K' q e z=>h ⟨K',q.2,by rw [e];subst z;rfl⟩
  rw [jI hn]
  refine Nm.push N.ch (by rw [tu,N.tx];exact hf) ?_ (fun st hs=>?_) N.fm (jE c) N.ad hn N.ln N.sb (by rw [gA,gn];have:=N.tt;simp only;omega)
  ·rw [gw,N.tx,eY]
  ·rw [jn,N.ow st hs];unfold iD;rw [dF]
end
theorem nK (t:List Nat):∀ (n:Nat) {K:List Row},K.length=n→(∀ q∈K,aT q.2=q.2∧0<cst q.2)→jJ K→b9 t K=K
 | 0,K,hn,_,_=>by rw [List.eq_nil_of_length_eq_zero hn];rfl
 | n+1,K,hn,hf,ha=>by
  rcases List.eq_nil_or_concat K with rfl | ⟨K',q,hq⟩
  ·simp at hn
  ·rw [List.concat_eq_append] at hq
   subst hq
   rw [mG,nK t n (by simpa using hn) (fun q hq=>hf q (List.mem_append_left _ hq)) ha.init]
   show stp t K' q=_
   obtain ⟨f1,f2⟩:=hf q (by simp)
   rw [jI ha.last,iJ,f1,if_neg (by omega)]
theorem Nm.one {t:List Nat}{rs K:List Row}{o:List Nat}(N:Nm t rs K) (h:∀ r∈rs,r.1=o):K.length<2:=by
 match K,N with
 | [],_=>simp
 | [_],_=>simp
 | a :: b :: K,N=>
  exfalso
  obtain ⟨r,hr,e⟩:=N.sb a (by simp)
  obtain ⟨s,hs,f⟩:=N.sb b (by simp)
  exact N.ad [] a b K rfl (by rw [←e,←f,h r hr,h s hs])
end Pv
set_option maxRecDepth 100000
namespace Lw
@[reducible] noncomputable def Ue:Ev.S:=.iff (.cmp .eq (.ix (.v 0) (.c (.int 0))) (.c (.str [107,101,101,112]))) (.cons (.ret (.ix (.v 0) (.c (.int 1)))) .nil) .nil
@[reducible] noncomputable def Ug:Ev.S:=.ret (.bi .len (.cons (.ix (.v 0) (.c (.int 1))) .nil))
@[reducible] noncomputable def f0:Ev.Fn:=⟨1,1,(.cons Ue (.cons Ug .nil))⟩
@[reducible] noncomputable def Uh:Ev.S:=.ret (.bi .sum (.cons (.comp (.cl 0 (.cons (.v 1) .nil)) (.one 1) (.seq (.v 0)) (.yes (.cmp .ne (.ix (.v 1) (.c (.int 0))) (.c (.str [112,117,116]))))) .nil))
@[reducible] noncomputable def f1:Ev.Fn:=⟨1,2,(.cons Uh .nil)⟩
@[reducible] noncomputable def Ui:Ev.S:=.ret (.bi .sum (.cons (.comp (.cl 0 (.cons (.v 1) .nil)) (.one 1) (.seq (.v 0)) (.yes (.cmp .ne (.ix (.v 1) (.c (.int 0))) (.c (.str [100,114,111,112]))))) .nil))
@[reducible] noncomputable def f2:Ev.Fn:=⟨1,2,(.cons Ui .nil)⟩
@[reducible] noncomputable def Uj:Ev.S:=.ret (.bi .sum (.cons (.comp (.cl 0 (.cons (.v 1) .nil)) (.one 1) (.seq (.v 0)) (.yes (.cmp .ne (.ix (.v 1) (.c (.int 0))) (.c (.str [107,101,101,112]))))) .nil))
@[reducible] noncomputable def f3:Ev.Fn:=⟨1,2,(.cons Uj .nil)⟩
@[reducible] noncomputable def Uk:Ev.S:=.set 1 (.lst .nil)
@[reducible] noncomputable def Ul:Ev.S:=.set 2 (.c (.int 0))
@[reducible] noncomputable def Um:Ev.S:=.set 3 (.c (.str []))
@[reducible] noncomputable def Uo:Ev.S:=.set 4 (.c (.str []))
@[reducible] noncomputable def Up:Ev.Ss:=(.cons (.iff (.cmp .eq (.v 5) (.c (.str [100,114,111,112]))) (.cons (.set 3 (.bin .add (.v 3) (.v 6))) .nil) (.cons (.iff (.cmp .eq (.v 5) (.c (.str [112,117,116]))) (.cons (.set 4 (.bin .add (.v 4) (.v 6))) .nil) (.cons (.iff (.cmp .gt (.v 6) (.c (.int 0))) (.cons (.iff (.orr (.cmp .ne (.v 3) (.c (.str []))) (.cmp .ne (.v 4) (.c (.str [])))) (.cons (.exp (.me .extend (.v 1) (.cons (.cl 5 (.cons (.v 2) (.cons (.v 3) (.cons (.v 4) .nil)))) .nil))) (.cons (.set 2 (.c (.int 0))) (.cons (.set 3 (.c (.str []))) (.cons (.set 4 (.c (.str []))) .nil)))) .nil) (.cons (.set 2 (.bin .add (.v 2) (.v 6))) .nil)) .nil) .nil)) .nil)) .nil)
@[reducible] noncomputable def Uq:Ev.S:=.for (.many [5,6]) (.seq (.v 0)) Up
@[reducible] noncomputable def Ur:Ev.S:=.exp (.me .extend (.v 1) (.cons (.cl 5 (.cons (.v 2) (.cons (.v 3) (.cons (.v 4) .nil)))) .nil))
@[reducible] noncomputable def Us:Ev.S:=.ret (.jq (.v 1))
@[reducible] noncomputable def f4:Ev.Fn:=⟨1,7,(.cons Uk (.cons Ul (.cons Um (.cons Uo (.cons Uq (.cons Ur (.cons Us .nil)))))))⟩
@[reducible] noncomputable def Ut:Ev.S:=.set 3 (.lst .nil)
@[reducible] noncomputable def Uu:Ev.S:=.iff (.cmp .gt (.v 0) (.c (.int 0))) (.cons (.exp (.me .append (.v 3) (.cons (.tup (.cons (.c (.str [107,101,101,112])) (.cons (.v 0) .nil))) .nil))) .nil) .nil
@[reducible] noncomputable def Uv:Ev.S:=.iff (.cmp .ne (.v 1) (.c (.str []))) (.cons (.exp (.me .append (.v 3) (.cons (.tup (.cons (.c (.str [100,114,111,112])) (.cons (.v 1) .nil))) .nil))) .nil) .nil
@[reducible] noncomputable def Uw:Ev.S:=.iff (.cmp .ne (.v 2) (.c (.str []))) (.cons (.exp (.me .append (.v 3) (.cons (.tup (.cons (.c (.str [112,117,116])) (.cons (.v 2) .nil))) .nil))) .nil) .nil
@[reducible] noncomputable def Ux:Ev.S:=.ret (.v 3)
@[reducible] noncomputable def f5:Ev.Fn:=⟨3,4,(.cons Ut (.cons Uu (.cons Uv (.cons Uw (.cons Ux .nil)))))⟩
@[reducible] noncomputable def Uy:Ev.S:=.set 2 (.c (.int 0))
@[reducible] noncomputable def Uz:Ev.Ss:=(.cons (.iff (.an (.cmp .eq (.ix (.v 3) (.c (.int 0))) (.c (.str [100,114,111,112]))) (.cmp .ne (.sl (.v 1) (.yes (.v 2)) (.yes (.bin .add (.v 2) (.cl 0 (.cons (.v 3) .nil))))) (.ix (.v 3) (.c (.int 1))))) (.cons (.ret (.c (.bl false))) .nil) .nil) (.cons (.iff (.cmp .ne (.ix (.v 3) (.c (.int 0))) (.c (.str [112,117,116]))) (.cons (.set 2 (.bin .add (.v 2) (.cl 0 (.cons (.v 3) .nil)))) .nil) .nil) .nil))
@[reducible] noncomputable def UA:Ev.S:=.for (.one 3) (.seq (.v 0)) Uz
@[reducible] noncomputable def UB:Ev.S:=.ret (.cmp .eq (.v 2) (.bi .len (.cons (.v 1) .nil)))
@[reducible] noncomputable def f6:Ev.Fn:=⟨2,4,(.cons Uy (.cons UA (.cons UB .nil)))⟩
@[reducible] noncomputable def UC:Ev.S:=.iff (.nt (.cl 6 (.cons (.v 0) (.cons (.v 1) .nil)))) (.cons (.fR) .nil) .nil
@[reducible] noncomputable def UD:Ev.S:=.set 2 (.lst .nil)
@[reducible] noncomputable def UE:Ev.S:=.set 3 (.c (.int 0))
@[reducible] noncomputable def UG:Ev.Ss:=(.cons (.iff (.cmp .eq (.v 4) (.c (.str [112,117,116]))) (.cons (.exp (.me .append (.v 2) (.cons (.v 5) .nil))) .nil) (.cons (.iff (.cmp .eq (.v 4) (.c (.str [100,114,111,112]))) (.cons (.set 3 (.bin .add (.v 3) (.bi .len (.cons (.v 5) .nil)))) .nil) (.cons (.exp (.me .append (.v 2) (.cons (.sl (.v 1) (.yes (.v 3)) (.yes (.bin .add (.v 3) (.v 5)))) .nil))) (.cons (.set 3 (.bin .add (.v 3) (.v 5))) .nil))) .nil)) .nil)
@[reducible] noncomputable def UH:Ev.S:=.for (.many [4,5]) (.seq (.v 0)) UG
@[reducible] noncomputable def UI:Ev.S:=.ret (.me .join (.c (.str [])) (.cons (.v 2) .nil))
@[reducible] noncomputable def f7:Ev.Fn:=⟨2,6,(.cons UC (.cons UD (.cons UE (.cons UH (.cons UI .nil)))))⟩
@[reducible] noncomputable def UJ:Ev.S:=.iff (.cmp .ne (.cl 2 (.cons (.v 0) .nil)) (.cl 1 (.cons (.v 1) .nil))) (.cons (.fR) .nil) .nil
@[reducible] noncomputable def UK:Ev.S:=.set 2 (.iH (.rev (.cl 4 (.cons (.v 0) .nil))))
@[reducible] noncomputable def UL:Ev.S:=.set 3 (.iH (.rev (.cl 4 (.cons (.v 1) .nil))))
@[reducible] noncomputable def UM:Ev.S:=.set 4 (.lst .nil)
@[reducible] noncomputable def UN:Ev.Ss:=(.cons (.iff (.an (.v 2) (.cmp .eq (.ix (.ix (.v 2) (.neg (.c (.int 1)))) (.c (.int 0))) (.c (.str [100,114,111,112])))) (.cons (.exp (.me .append (.v 4) (.cons (.me .pop (.v 2) .nil) .nil))) .nil) (.cons (.iff (.an (.v 3) (.cmp .eq (.ix (.ix (.v 3) (.neg (.c (.int 1)))) (.c (.int 0))) (.c (.str [112,117,116])))) (.cons (.exp (.me .append (.v 4) (.cons (.me .pop (.v 3) .nil) .nil))) .nil) (.cons (.set 5 (.bi .min (.cons (.cl 0 (.cons (.ix (.v 2) (.neg (.c (.int 1)))) .nil)) (.cons (.cl 0 (.cons (.ix (.v 3) (.neg (.c (.int 1)))) .nil)) .nil)))) (.cons (.exp (.me .extend (.v 4) (.cons (.cl 9 (.cons (.cl 10 (.cons (.v 2) (.cons (.v 5) .nil))) (.cons (.cl 10 (.cons (.v 3) (.cons (.v 5) .nil))) .nil))) .nil))) .nil))) .nil)) .nil)
@[reducible] noncomputable def UO:Ev.S:=.nW (.orr (.v 2) (.v 3)) UN
@[reducible] noncomputable def UP:Ev.S:=.ret (.cl 4 (.cons (.jq (.v 4)) .nil))
@[reducible] noncomputable def f8:Ev.Fn:=⟨2,6,(.cons UJ (.cons UK (.cons UL (.cons UM (.cons UO (.cons UP .nil))))))⟩
@[reducible] noncomputable def UQ:Ev.S:=.iff (.cmp .eq (.ix (.v 1) (.c (.int 0))) (.c (.str [107,101,101,112]))) (.cons (.ret (.lst (.cons (.v 0) .nil))) .nil) .nil
@[reducible] noncomputable def UR:Ev.S:=.iff (.cmp .eq (.ix (.v 0) (.c (.int 0))) (.c (.str [107,101,101,112]))) (.cons (.ret (.lst (.cons (.v 1) .nil))) .nil) .nil
@[reducible] noncomputable def US:Ev.S:=.iff (.cmp .ne (.ix (.v 0) (.c (.int 1))) (.ix (.v 1) (.c (.int 1)))) (.cons (.fR) .nil) .nil
@[reducible] noncomputable def UT:Ev.S:=.ret (.lst .nil)
@[reducible] noncomputable def f9:Ev.Fn:=⟨2,2,(.cons UQ (.cons UR (.cons US (.cons UT .nil))))⟩
@[reducible] noncomputable def Pc:Ev.S:=.set 2 (.cl 11 (.cons (.me .pop (.v 0) .nil) (.cons (.v 1) .nil)))
@[reducible] noncomputable def Pd:Ev.S:=.iff (.cmp .gt (.cl 0 (.cons (.ix (.v 2) (.c (.int 1))) .nil)) (.c (.int 0))) (.cons (.exp (.me .append (.v 0) (.cons (.ix (.v 2) (.c (.int 1))) .nil))) .nil) .nil
@[reducible] noncomputable def Pe:Ev.S:=.ret (.ix (.v 2) (.c (.int 0)))
@[reducible] noncomputable def C5:Ev.Fn:=⟨2,3,(.cons Pc (.cons Pd (.cons Pe .nil)))⟩
@[reducible] noncomputable def Pf:Ev.S:=.set 2 (.ix (.v 0) (.c (.int 0)))
@[reducible] noncomputable def Pg:Ev.S:=.iff (.cmp .eq (.v 2) (.c (.str [107,101,101,112]))) (.cons (.ret (.tup (.cons (.tup (.cons (.v 2) (.cons (.v 1) .nil))) (.cons (.tup (.cons (.v 2) (.cons (.bin .sub (.ix (.v 0) (.c (.int 1))) (.v 1)) .nil))) .nil)))) .nil) .nil
@[reducible] noncomputable def Ph:Ev.S:=.ret (.tup (.cons (.tup (.cons (.v 2) (.cons (.sl (.ix (.v 0) (.c (.int 1))) .no (.yes (.v 1))) .nil))) (.cons (.tup (.cons (.v 2) (.cons (.sl (.ix (.v 0) (.c (.int 1))) (.yes (.v 1)) .no) .nil))) .nil)))
@[reducible] noncomputable def QV:Ev.Fn:=⟨2,3,(.cons Pf (.cons Pg (.cons Ph .nil)))⟩
@[reducible] noncomputable def Pj:Ev.S:=.set 1 (.lst .nil)
@[reducible] noncomputable def DJ:Ev.Ss:=(.cons (.set 4 (.cl 4 (.cons (.v 3) .nil))) (.cons (.iff (.an (.v 1) (.cmp .eq (.ix (.ix (.v 1) (.neg (.c (.int 1)))) (.c (.int 0))) (.v 2))) (.cons (.set 4 (.cl 8 (.cons (.ix (.me .pop (.v 1) .nil) (.c (.int 1))) (.cons (.v 3) .nil)))) .nil) .nil) (.cons (.iff (.cmp .gt (.cl 3 (.cons (.v 4) .nil)) (.c (.int 0))) (.cons (.exp (.me .append (.v 1) (.cons (.tup (.cons (.v 2) (.cons (.v 4) .nil))) .nil))) .nil) .nil) .nil)))
@[reducible] noncomputable def Pk:Ev.S:=.for (.many [2,3]) (.seq (.v 0)) DJ
@[reducible] noncomputable def Pn:Ev.S:=.ret (.v 1)
@[reducible] noncomputable def vj:Ev.Fn:=⟨1,5,(.cons Pj (.cons Pk (.cons Pn .nil)))⟩
@[reducible] noncomputable def Po:Ev.S:=.ret (.ix (.cl 14 (.cons (.v 0) (.cons (.v 1) .nil))) (.c (.int 0)))
@[reducible] noncomputable def DK:Ev.Fn:=⟨2,2,(.cons Po .nil)⟩
@[reducible] noncomputable def Pp:Ev.S:=.set 2 (.v 0)
@[reducible] noncomputable def Pq:Ev.S:=.set 3 (.comp (.c (.aY)) (.one 8) (.seq (.v 0)) .no)
@[reducible] noncomputable def Pr:Ev.S:=.set 4 (.lst .nil)
@[reducible] noncomputable def DL:Ev.Ss:=(.cons (.set 2 (.cl 7 (.cons (.v 6) (.cons (.v 2) .nil)))) (.cons (.set 7 (.cl 15 (.cons (.v 3) (.cons (.v 5) (.cons (.v 6) .nil))))) (.cons (.set 3 (.ix (.v 7) (.c (.int 0)))) (.cons (.exp (.me .extend (.v 4) (.cons (.ix (.v 7) (.c (.int 1))) .nil))) .nil))))
@[reducible] noncomputable def Pu:Ev.S:=.for (.many [5,6]) (.seq (.v 1)) DL
@[reducible] noncomputable def Pw:Ev.S:=.ret (.tup (.cons (.v 3) (.cons (.v 4) .nil)))
@[reducible] noncomputable def vm:Ev.Fn:=⟨2,9,(.cons Pp (.cons Pq (.cons Pr (.cons Pu (.cons Pw .nil)))))⟩
@[reducible] noncomputable def Px:Ev.S:=.set 3 (.lst .nil)
@[reducible] noncomputable def Py:Ev.S:=.set 4 (.lst .nil)
@[reducible] noncomputable def Pz:Ev.S:=.set 5 (.c (.int 0))
@[reducible] noncomputable def DM:Ev.Ss:=(.cons (.iff (.cmp .eq (.ix (.v 6) (.c (.int 0))) (.c (.str [112,117,116]))) (.cons (.exp (.me .extend (.v 3) (.cons (.comp (.v 1) (.one 8) (.seq (.ix (.v 6) (.c (.int 1)))) .no) .nil))) (.cons (.cnt) .nil)) .nil) (.cons (.set 7 (.sl (.v 0) (.yes (.v 5)) (.yes (.bin .add (.v 5) (.cl 0 (.cons (.v 6) .nil)))))) (.cons (.set 5 (.bin .add (.v 5) (.cl 0 (.cons (.v 6) .nil)))) (.cons (.iff (.cmp .eq (.ix (.v 6) (.c (.int 0))) (.c (.str [107,101,101,112]))) (.cons (.exp (.me .extend (.v 3) (.cons (.v 7) .nil))) .nil) (.cons (.exp (.me .extend (.v 4) (.cons (.v 7) .nil))) .nil)) .nil))))
@[reducible] noncomputable def PB:Ev.S:=.for (.one 6) (.seq (.v 2)) DM
@[reducible] noncomputable def PC:Ev.S:=.ret (.tup (.cons (.v 3) (.cons (.v 4) .nil)))
@[reducible] noncomputable def vn:Ev.Fn:=⟨3,9,(.cons Px (.cons Py (.cons Pz (.cons PB (.cons PC .nil)))))⟩
@[reducible] noncomputable def PD:Ev.S:=.iff (.cmp .eq (.v 0) (.lst .nil)) (.cons (.ret (.bin .mul (.c (.int 7)) (.v 1))) .nil) .nil
@[reducible] noncomputable def PF:Ev.S:=.ret (.bin .add (.ix (.v 0) (.bin .mod (.v 1) (.bi .len (.cons (.v 0) .nil)))) (.bin .mul (.c (.int 6553)) (.bin .fdiv (.v 1) (.bi .len (.cons (.v 0) .nil)))))
@[reducible] noncomputable def QW:Ev.Fn:=⟨2,2,(.cons PD (.cons PF .nil))⟩
@[reducible] noncomputable def PJ:Ev.S:=.set 3 (.bin .mod (.bin .add (.bin .mul (.bin .mod (.cl 16 (.cons (.v 0) (.cons (.v 1) .nil))) (.c (.int 2147483563))) (.c (.int 69069))) (.bin .mul (.c (.int 104723)) (.bin .add (.v 1) (.c (.int 1))))) (.c (.int 2147483563)))
@[reducible] noncomputable def PK:Ev.S:=.set 3 (.bin .mod (.bin .add (.bin .mul (.v 3) (.v 3)) (.bin .fdiv (.v 3) (.c (.int 3)))) (.c (.int 2147483399)))
@[reducible] noncomputable def PL:Ev.S:=.ret (.bin .mod (.bin .fdiv (.bin .mod (.bin .add (.bin .mul (.v 3) (.v 3)) (.bin .fdiv (.v 3) (.c (.int 7)))) (.c (.int 2147483647))) (.c (.int 11))) (.v 2))
@[reducible] noncomputable def QX:Ev.Fn:=⟨3,4,(.cons PJ (.cons PK (.cons PL .nil)))⟩
@[reducible] noncomputable def PM:Ev.S:=.ret (.me .join (.c (.str [])) (.cons (.comp (.ix (.c (.str [97,98,99,32])) (.cl 17 (.cons (.v 0) (.cons (.bin .add (.bin .add (.v 1) (.c (.int 1))) (.v 3)) (.cons (.c (.int 4)) .nil))))) (.one 3) (.gR (.cons (.cl 17 (.cons (.v 0) (.cons (.v 1) (.cons (.bin .add (.v 2) (.c (.int 1))) .nil)))) .nil)) .no) .nil))
@[reducible] noncomputable def QY:Ev.Fn:=⟨3,4,(.cons PM .nil)⟩
@[reducible] noncomputable def PN:Ev.S:=.set 3 (.tup .nil)
@[reducible] noncomputable def PR:Ev.Ss:=(.cons (.iff (.cmp .eq (.cl 17 (.cons (.v 0) (.cons (.bin .add (.v 1) (.bin .mul (.c (.int 4)) (.v 4))) (.cons (.c (.int 4)) .nil)))) (.c (.int 0))) (.cons (.set 5 (.bin .mul (.ix (.c (.str [97,98,122])) (.cl 17 (.cons (.v 0) (.cons (.bin .add (.bin .add (.v 1) (.bin .mul (.c (.int 4)) (.v 4))) (.c (.int 1))) (.cons (.c (.int 3)) .nil))))) (.bin .add (.c (.int 1)) (.cl 17 (.cons (.v 0) (.cons (.bin .add (.bin .add (.v 1) (.bin .mul (.c (.int 4)) (.v 4))) (.c (.int 2))) (.cons (.c (.int 2)) .nil))))))) (.cons (.set 3 (.bin .add (.v 3) (.tup (.cons (.tup (.cons (.c (.str [112,117,116])) (.cons (.v 5) .nil))) .nil)))) .nil)) .nil) (.cons (.iff (.cmp .lt (.v 4) (.bi .len (.cons (.v 2) .nil))) (.cons (.set 6 (.cmp .gt (.cl 17 (.cons (.v 0) (.cons (.bin .add (.bin .add (.v 1) (.bin .mul (.c (.int 4)) (.v 4))) (.c (.int 3))) (.cons (.c (.int 3)) .nil)))) (.c (.int 0)))) (.cons (.set 3 (.bin .add (.v 3) (.tup (.cons (.gT (.v 6) (.tup (.cons (.c (.str [107,101,101,112])) (.cons (.c (.int 1)) .nil))) (.tup (.cons (.c (.str [100,114,111,112])) (.cons (.ix (.v 2) (.v 4)) .nil)))) .nil)))) .nil)) .nil) .nil))
@[reducible] noncomputable def PU:Ev.S:=.for (.one 4) (.gR (.cons (.bin .add (.bi .len (.cons (.v 2) .nil)) (.c (.int 1))) .nil)) PR
@[reducible] noncomputable def PV:Ev.S:=.ret (.v 3)
@[reducible] noncomputable def QZ:Ev.Fn:=⟨3,7,(.cons PN (.cons PU (.cons PV .nil)))⟩
@[reducible] noncomputable def PX:Ev.S:=.set 2 (.c (.int 0))
@[reducible] noncomputable def PY:Ev.S:=.set 3 (.c (.str []))
@[reducible] noncomputable def PZ:Ev.Ss:=(.cons (.iff (.cmp .eq (.v 4) (.c (.str [112,117,116]))) (.cons (.set 3 (.bin .add (.v 3) (.v 5))) .nil) (.cons (.iff (.cmp .eq (.v 4) (.c (.str [100,114,111,112]))) (.cons (.iff (.cmp .ne (.sl (.v 1) (.yes (.v 2)) (.yes (.bin .add (.v 2) (.bi .len (.cons (.v 5) .nil))))) (.v 5)) (.cons (.ret (.c (.aY))) .nil) .nil) (.cons (.set 2 (.bin .add (.v 2) (.bi .len (.cons (.v 5) .nil)))) .nil)) (.cons (.set 3 (.bin .add (.v 3) (.sl (.v 1) (.yes (.v 2)) (.yes (.bin .add (.v 2) (.v 5)))))) (.cons (.set 2 (.bin .add (.v 2) (.v 5))) .nil))) .nil)) .nil)
@[reducible] noncomputable def P0:Ev.S:=.for (.many [4,5]) (.seq (.v 0)) PZ
@[reducible] noncomputable def P1:Ev.S:=.ret (.gT (.cmp .eq (.v 2) (.bi .len (.cons (.v 1) .nil))) (.v 3) (.c (.aY)))
@[reducible] noncomputable def Q0:Ev.Fn:=⟨2,6,(.cons PX (.cons PY (.cons P0 (.cons P1 .nil))))⟩
@[reducible] noncomputable def DN:Ev.S:=.iff (.cmp .eq (.cl 17 (.cons (.v 0) (.cons (.bin .add (.v 1) (.c (.int 60))) (.cons (.c (.int 5)) .nil)))) (.c (.int 0))) (.cons (.ret (.gT (.cmp .ne (.v 2) (.c (.str []))) (.tup (.cons (.tup (.cons (.c (.str [107,101,101,112])) (.cons (.bi .len (.cons (.v 2) .nil)) .nil))) .nil)) (.tup .nil))) .nil) .nil
@[reducible] noncomputable def xw:Ev.S:=.iff (.cmp .lt (.bi .len (.cons (.v 2) .nil)) (.c (.int 7))) (.cons (.ret (.cl 19 (.cons (.v 0) (.cons (.v 1) (.cons (.v 2) .nil))))) .nil) .nil
@[reducible] noncomputable def xx:Ev.S:=.set 3 (.cl 17 (.cons (.v 0) (.cons (.bin .add (.v 1) (.c (.int 61))) (.cons (.bin .sub (.bi .len (.cons (.v 2) .nil)) (.c (.int 3))) .nil))))
@[reducible] noncomputable def xy:Ev.S:=.set 4 (.gT (.cmp .gt (.v 3) (.c (.int 0))) (.tup (.cons (.tup (.cons (.c (.str [107,101,101,112])) (.cons (.v 3) .nil))) .nil)) (.tup .nil))
@[reducible] noncomputable def xA:Ev.S:=.set 5 (.bin .sub (.bin .sub (.bi .len (.cons (.v 2) .nil)) (.v 3)) (.c (.int 3)))
@[reducible] noncomputable def xB:Ev.S:=.ret (.bin .add (.bin .add (.v 4) (.cl 19 (.cons (.v 0) (.cons (.v 1) (.cons (.sl (.v 2) (.yes (.v 3)) (.yes (.bin .add (.v 3) (.c (.int 3))))) .nil))))) (.gT (.cmp .gt (.v 5) (.c (.int 0))) (.tup (.cons (.tup (.cons (.c (.str [107,101,101,112])) (.cons (.v 5) .nil))) .nil)) (.tup .nil)))
@[reducible] noncomputable def o9:Ev.Fn:=⟨3,6,(.cons DN (.cons xw (.cons xx (.cons xy (.cons xA (.cons xB .nil))))))⟩
@[reducible] noncomputable def P4:Ev.S:=.set 4 (.lst .nil)
@[reducible] noncomputable def DO:Ev.Ss:=(.cons (.set 6 (.ix (.lst (.cons (.c (.str [97,110,110])) (.cons (.c (.str [98,111])) (.cons (.c (.str [97,110,110])) (.cons (.c (.str [99])) .nil))))) (.cl 17 (.cons (.v 0) (.cons (.bin .add (.bin .add (.v 1) (.c (.int 1))) (.bin .mul (.c (.int 70)) (.v 5))) (.cons (.c (.int 4)) .nil)))))) (.cons (.set 7 (.cl 21 (.cons (.v 0) (.cons (.bin .add (.bin .add (.v 1) (.c (.int 2))) (.bin .mul (.c (.int 70)) (.v 5))) (.cons (.v 2) .nil))))) (.cons (.set 2 (.cl 20 (.cons (.v 7) (.cons (.v 2) .nil)))) (.cons (.exp (.me .append (.v 4) (.cons (.tup (.cons (.v 6) (.cons (.v 7) .nil))) .nil))) .nil))))
@[reducible] noncomputable def P5:Ev.S:=.for (.one 5) (.gR (.cons (.cl 17 (.cons (.v 0) (.cons (.v 1) (.cons (.bin .add (.v 3) (.c (.int 1))) .nil)))) .nil)) DO
@[reducible] noncomputable def P6:Ev.S:=.ret (.v 4)
@[reducible] noncomputable def vp:Ev.Fn:=⟨4,8,(.cons P4 (.cons P5 (.cons P6 .nil)))⟩
@[reducible] noncomputable def DP:Ev.Ss:=(.cons (.set 0 (.cl 7 (.cons (.v 3) (.cons (.v 0) .nil)))) .nil)
@[reducible] noncomputable def P7:Ev.S:=.for (.many [2,3]) (.seq (.v 1)) DP
@[reducible] noncomputable def P8:Ev.S:=.ret (.v 0)
@[reducible] noncomputable def DQ:Ev.Fn:=⟨2,4,(.cons P7 (.cons P8 .nil))⟩
@[reducible] noncomputable def DR:Ev.S:=.set 1 (.cl 18 (.cons (.v 0) (.cons (.c (.int 0)) (.cons (.c (.int 6)) .nil))))
@[reducible] noncomputable def DS:Ev.S:=.set 2 (.cl 22 (.cons (.v 0) (.cons (.c (.int 20)) (.cons (.v 1) (.cons (.c (.int 6)) .nil)))))
@[reducible] noncomputable def DT:Ev.S:=.set 3 (.cl 12 (.cons (.v 2) .nil))
@[reducible] noncomputable def DU:Ev.S:=.iff (.cmp .ne (.cl 23 (.cons (.v 1) (.cons (.v 3) .nil))) (.cl 23 (.cons (.v 1) (.cons (.v 2) .nil)))) (.cons (.ret (.c (.bl false))) .nil) .nil
@[reducible] noncomputable def DV:Ev.S:=.iff (.cmp .ne (.cl 13 (.cons (.v 1) (.cons (.v 3) .nil))) (.cl 13 (.cons (.v 1) (.cons (.v 2) .nil)))) (.cons (.ret (.c (.bl false))) .nil) .nil
@[reducible] noncomputable def xC:Ev.S:=.iff (.orr (.cmp .gt (.bi .len (.cons (.v 3) .nil)) (.bi .len (.cons (.v 2) .nil))) (.cmp .ne (.cl 12 (.cons (.v 3) .nil)) (.v 3))) (.cons (.ret (.c (.bl false))) .nil) .nil
@[reducible] noncomputable def xD:Ev.S:=.iff (.cmp .ne (.comp (.c (.int 1)) (.many [6,7]) (.zip (.v 3) (.sl (.v 3) (.yes (.c (.int 1))) .no)) (.yes (.cmp .eq (.ix (.v 6) (.c (.int 0))) (.ix (.v 7) (.c (.int 0)))))) (.lst .nil)) (.cons (.ret (.c (.bl false))) .nil) .nil
@[reducible] noncomputable def xE:Ev.S:=.iff (.cmp .ne (.comp (.c (.int 1)) (.many [8,9]) (.seq (.v 3)) (.yes (.orr (.cmp .eq (.cl 3 (.cons (.v 9) .nil)) (.c (.int 0))) (.cmp .ne (.cl 4 (.cons (.v 9) .nil)) (.v 9))))) (.lst .nil)) (.cons (.ret (.c (.bl false))) .nil) .nil
@[reducible] noncomputable def xF:Ev.S:=.iff (.cmp .ne (.comp (.v 10) (.many [10,11]) (.seq (.v 3)) (.yes (.cmp .gg (.v 10) (.comp (.v 12) (.many [12,13]) (.seq (.v 2)) .no)))) (.lst .nil)) (.cons (.ret (.c (.bl false))) .nil) .nil
@[reducible] noncomputable def xG:Ev.S:=.set 4 (.cl 17 (.cons (.v 0) (.cons (.c (.int 10)) (.cons (.bin .add (.bi .len (.cons (.v 2) .nil)) (.c (.int 1))) .nil))))
@[reducible] noncomputable def tQ:Ev.S:=.iff (.cmp .ne (.cl 12 (.cons (.bin .add (.cl 12 (.cons (.sl (.v 2) .no (.yes (.v 4))) .nil)) (.sl (.v 2) (.yes (.v 4)) .no)) .nil)) (.v 3)) (.cons (.ret (.c (.bl false))) .nil) .nil
@[reducible] noncomputable def tR:Ev.S:=.set 5 (.comp (.tup (.cons (.c (.str [98,111])) (.cons (.v 15) .nil))) (.many [14,15]) (.seq (.v 2)) .no)
@[reducible] noncomputable def tS:Ev.S:=.ret (.an (.cmp .lt (.bi .len (.cons (.cl 12 (.cons (.v 5) .nil)) .nil)) (.c (.int 2))) (.cmp .eq (.cl 23 (.cons (.v 1) (.cons (.cl 12 (.cons (.v 5) .nil)) .nil))) (.cl 23 (.cons (.v 1) (.cons (.v 2) .nil)))))
@[reducible] noncomputable def DW:Ev.Fn:=⟨1,16,(.cons DR (.cons DS (.cons DT (.cons DU (.cons DV (.cons xC (.cons xD (.cons xE (.cons xF (.cons xG (.cons tQ (.cons tR (.cons tS .nil)))))))))))))⟩
noncomputable def prog:List Ev.Fn:=[f0,f1,f2,f3,f4,f5,f6,f7,f8,f9,C5,QV,vj,DK,vm,vn,QW,QX,QY,QZ,Q0,o9,vp,DQ,DW]
end Lw
set_option maxRecDepth 100000
namespace Lw
open PySem PySem.Spec PyProof.Rows L2 Sm
open Ev (D O Hh Fr R aR E Es Eo T S Ss Fl Src bW bQ TY BI ME)
noncomputable def top (i:Nat):Stmt:=PySem.Challenge.pw_pastways_k64_whole_squeezed.main.body.getD i (.Pass ⟨0,0,0,0⟩)
abbrev i0 (a:Nat→Addr) (d:Nat→FuncData):FI:=⟨"size",a 0,d 0,["part"]⟩
abbrev i1 (a:Nat→Addr) (d:Nat→FuncData):FI:=⟨"before",a 1,d 1,["change"]⟩
abbrev i2 (a:Nat→Addr) (d:Nat→FuncData):FI:=⟨"after",a 2,d 2,["change"]⟩
abbrev i3 (a:Nat→Addr) (d:Nat→FuncData):FI:=⟨"cost",a 3,d 3,["change"]⟩
abbrev i4 (a:Nat→Addr) (d:Nat→FuncData):FI:=⟨"form",a 4,d 4,["change"]⟩
abbrev i5 (a:Nat→Addr) (d:Nat→FuncData):FI:=⟨"stretch",a 5,d 5,["kept","gone","new"]⟩
abbrev i6 (a:Nat→Addr) (d:Nat→FuncData):FI:=⟨"fits",a 6,d 6,["change","text"]⟩
abbrev i7 (a:Nat→Addr) (d:Nat→FuncData):FI:=⟨"done",a 7,d 7,["change","text"]⟩
abbrev i8 (a:Nat→Addr) (d:Nat→FuncData):FI:=⟨"then",a 8,d 8,["one","other"]⟩
abbrev i9 (a:Nat→Addr) (d:Nat→FuncData):FI:=⟨"met",a 9,d 9,["left","gone_through"]⟩
abbrev DX (a:Nat→Addr) (d:Nat→FuncData):FI:=⟨"taken",a 10,d 10,["parts","many"]⟩
abbrev DY (a:Nat→Addr) (d:Nat→FuncData):FI:=⟨"parted",a 11,d 11,["part","many"]⟩
abbrev i12 (a:Nat→Addr) (d:Nat→FuncData):FI:=⟨"squeezed",a 12,d 12,["rows"]⟩
abbrev DZ (a:Nat→Addr) (d:Nat→FuncData):FI:=⟨"owners",a 13,d 13,["text","rows"]⟩
abbrev D0 (a:Nat→Addr) (d:Nat→FuncData):FI:=⟨"traced",a 14,d 14,["text","rows"]⟩
abbrev D3 (a:Nat→Addr) (d:Nat→FuncData):FI:=⟨"traced_once",a 15,d 15,["standing","own","change"]⟩
abbrev D4 (a:Nat→Addr) (d:Nat→FuncData):FI:=⟨"_law_cell",a 16,d 16,["_law_script","_law_k"]⟩
abbrev D5 (a:Nat→Addr) (d:Nat→FuncData):FI:=⟨"_law_drawn",a 17,d 17,["_law_script","_law_k","_law_many"]⟩
abbrev D6 (a:Nat→Addr) (d:Nat→FuncData):FI:=⟨"_law_text",a 18,d 18,["_law_script","_law_at","_law_most"]⟩
abbrev D7 (a:Nat→Addr) (d:Nat→FuncData):FI:=⟨"_law_change",a 19,d 19,["_law_script","_law_at","_law_text_here"]⟩
abbrev D8 (a:Nat→Addr) (d:Nat→FuncData):FI:=⟨"_law_made",a 20,d 20,["_law_change_here","_law_text_here"]⟩
abbrev D9 (a:Nat→Addr) (d:Nat→FuncData):FI:=⟨"_law_small",a 21,d 21,["_law_script","_law_at","_law_text_here"]⟩
abbrev Ea (a:Nat→Addr) (d:Nat→FuncData):FI:=⟨"_law_rows",a 22,d 22,["_law_script","_law_at","_law_text_here","_law_most"]⟩
abbrev Eb (a:Nat→Addr) (d:Nat→FuncData):FI:=⟨"_law_last",a 23,d 23,["_law_text_here","_law_rows_here"]⟩
abbrev zV (a:Nat→Addr) (d:Nat→FuncData):FI:=⟨"law",a 24,d 24,["_law_script"]⟩
noncomputable def m5:List Str:=["len","list","min","range","reversed","sum","tuple","zip"]
theorem P9:("len" : Str)∈m5:=by decide +kernel
theorem Ls:("list" : Str)∈m5:=by decide +kernel
theorem Qa:("min" : Str)∈m5:=by decide +kernel
theorem G7:("range" : Str)∈m5:=by decide +kernel
theorem xH:("reversed" : Str)∈m5:=by decide +kernel
theorem Qc:("sum" : Str)∈m5:=by decide +kernel
theorem G8:("tuple" : Str)∈m5:=by decide +kernel
theorem Qd:("zip" : Str)∈m5:=by decide +kernel
noncomputable def tb (a:Nat→Addr) (d:Nat→FuncData):Tb:=⟨prog,100000,[i0 a d,i1 a d,i2 a d,i3 a d,i4 a d,i5 a d,i6 a d,i7 a d,i8 a d,i9 a d,DX a d,DY a d,i12 a d,DZ a d,D0 a d,D3 a d,D4 a d,D5 a d,D6 a d,D7 a d,D8 a d,D9 a d,Ea a d,Eb a d,zV a d],m5,[("__name__",.str [108,97,119,95,112,97,115,116,119,97,121,115,95,107,54,52,95,119,104,111,108,101,95,115,113,117,101,101,122,101,100])],[]⟩
section
variable {a:Nat→Addr}{d:Nat→FuncData}{n:Nat}
abbrev n0:List Str:=["part"]
theorem s0:bz n0 ["part"] (ao (top 1)):=⟨rfl,rfl,rfl,by decide +kernel,rfl,by decide +kernel,by decide +kernel⟩
abbrev n1:List Str:=["change"]
theorem s1:bz n1 ["change"] (ao (top 2)):=⟨rfl,rfl,rfl,by decide +kernel,rfl,by decide +kernel,by decide +kernel⟩
abbrev n2:List Str:=["change"]
theorem s2:bz n2 ["change"] (ao (top 3)):=⟨rfl,rfl,rfl,by decide +kernel,rfl,by decide +kernel,by decide +kernel⟩
abbrev n3:List Str:=["change"]
theorem s3:bz n3 ["change"] (ao (top 4)):=⟨rfl,rfl,rfl,by decide +kernel,rfl,by decide +kernel,by decide +kernel⟩
abbrev n4:List Str:=["change","parts","kept","gone","new","word","what"]
theorem s4:bz n4 ["change"] (ao (top 5)):=⟨rfl,rfl,rfl,by decide +kernel,rfl,by decide +kernel,by decide +kernel⟩
abbrev n5:List Str:=["kept","gone","new","parts"]
theorem s5:bz n5 ["kept","gone","new"] (ao (top 6)):=⟨rfl,rfl,rfl,by decide +kernel,rfl,by decide +kernel,by decide +kernel⟩
abbrev n6:List Str:=["change","text","place","part"]
theorem s6:bz n6 ["change","text"] (ao (top 11)):=⟨rfl,rfl,rfl,by decide +kernel,rfl,by decide +kernel,by decide +kernel⟩
abbrev n7:List Str:=["change","text","pieces","place","word","what"]
theorem s7:bz n7 ["change","text"] (ao (top 12)):=⟨rfl,rfl,rfl,by decide +kernel,rfl,by decide +kernel,by decide +kernel⟩
abbrev n8:List Str:=["one","other","ones","others","parts","many"]
theorem s8:bz n8 ["one","other"] (ao (top 13)):=⟨rfl,rfl,rfl,by decide +kernel,rfl,by decide +kernel,by decide +kernel⟩
abbrev n9:List Str:=["left","gone_through"]
theorem s9:bz n9 ["left","gone_through"] (ao (top 14)):=⟨rfl,rfl,rfl,by decide +kernel,rfl,by decide +kernel,by decide +kernel⟩
abbrev Q2:List Str:=["parts","many","halves"]
theorem Qv:bz Q2 ["parts","many"] (ao (top 15)):=⟨rfl,rfl,rfl,by decide +kernel,rfl,by decide +kernel,by decide +kernel⟩
abbrev Q3:List Str:=["part","many","word"]
theorem C2:bz Q3 ["part","many"] (ao (top 16)):=⟨rfl,rfl,rfl,by decide +kernel,rfl,by decide +kernel,by decide +kernel⟩
abbrev Q4:List Str:=["rows","kept","own","change","whole"]
theorem s12:bz Q4 ["rows"] (ao (top 18)):=⟨rfl,rfl,rfl,by decide +kernel,rfl,by decide +kernel,by decide +kernel⟩
abbrev Q5:List Str:=["text","rows"]
theorem WO:bz Q5 ["text","rows"] (ao (top 20)):=⟨rfl,rfl,rfl,by decide +kernel,rfl,by decide +kernel,by decide +kernel⟩
abbrev Q6:List Str:=["text","rows","now","standing","gone","own","change","both"]
theorem WQ:bz Q6 ["text","rows"] (ao (top 21)):=⟨rfl,rfl,rfl,by decide +kernel,rfl,by decide +kernel,by decide +kernel⟩
abbrev Q7:List Str:=["standing","own","change","left","gone","place","part","names"]
theorem WR:bz Q7 ["standing","own","change"] (ao (top 22)):=⟨rfl,rfl,rfl,by decide +kernel,rfl,by decide +kernel,by decide +kernel⟩
abbrev Q8:List Str:=["_law_script","_law_k"]
theorem WS:bz Q8 ["_law_script","_law_k"] (ao (top 24)):=⟨rfl,rfl,rfl,by decide +kernel,rfl,by decide +kernel,by decide +kernel⟩
abbrev Q9:List Str:=["_law_script","_law_k","_law_many","_law_cell_here"]
theorem WT:bz Q9 ["_law_script","_law_k","_law_many"] (ao (top 25)):=⟨rfl,rfl,rfl,by decide +kernel,rfl,by decide +kernel,by decide +kernel⟩
abbrev Rb:List Str:=["_law_script","_law_at","_law_most"]
theorem WU:bz Rb ["_law_script","_law_at","_law_most"] (ao (top 26)):=⟨rfl,rfl,rfl,by decide +kernel,rfl,by decide +kernel,by decide +kernel⟩
abbrev Rc:List Str:=["_law_script","_law_at","_law_text_here","_law_found","_law_k","_law_new","_law_is_kept"]
theorem WV:bz Rc ["_law_script","_law_at","_law_text_here"] (ao (top 27)):=⟨rfl,rfl,rfl,by decide +kernel,rfl,by decide +kernel,by decide +kernel⟩
abbrev Rf:List Str:=["_law_change_here","_law_text_here","_law_place","_law_found","_law_word","_law_what"]
theorem WX:bz Rf ["_law_change_here","_law_text_here"] (ao (top 28)):=⟨rfl,rfl,rfl,by decide +kernel,rfl,by decide +kernel,by decide +kernel⟩
abbrev Rg:List Str:=["_law_script","_law_at","_law_text_here","_law_place","_law_here","_law_rest"]
theorem WY:bz Rg ["_law_script","_law_at","_law_text_here"] (ao (top 29)):=⟨rfl,rfl,rfl,by decide +kernel,rfl,by decide +kernel,by decide +kernel⟩
abbrev Rh:List Str:=["_law_script","_law_at","_law_text_here","_law_most","_law_found","_law_k","_law_own","_law_change_here"]
theorem WZ:bz Rh ["_law_script","_law_at","_law_text_here","_law_most"] (ao (top 30)):=⟨rfl,rfl,rfl,by decide +kernel,rfl,by decide +kernel,by decide +kernel⟩
abbrev Ri:List Str:=["_law_text_here","_law_rows_here","_law_own","_law_change_here"]
theorem W0:bz Ri ["_law_text_here","_law_rows_here"] (ao (top 31)):=⟨rfl,rfl,rfl,by decide +kernel,rfl,by decide +kernel,by decide +kernel⟩
abbrev Rj:List Str:=["_law_script","_law_text_here","_law_rows_here","_law_few","_law_at","_law_same"]
theorem W2:bz Rj ["_law_script"] (ao (top 32)):=⟨rfl,rfl,rfl,by decide +kernel,rfl,by decide +kernel,by decide +kernel⟩
set_option maxHeartbeats 0 in
theorem dj:allB (tb a d) n [(f0.body,top 1,n0),(f1.body,top 2,n1),(f2.body,top 3,n2),(f3.body,top 4,n3),(f4.body,top 5,n4),(f5.body,top 6,n5),(f6.body,top 11,n6),(f7.body,top 12,n7),(f8.body,top 13,n8),(f9.body,top 14,n9),(C5.body,top 15,Q2),(QV.body,top 16,Q3),(vj.body,top 18,Q4),(DK.body,top 20,Q5),(vm.body,top 21,Q6),(vn.body,top 22,Q7),(QW.body,top 24,Q8),(QX.body,top 25,Q9),(QY.body,top 26,Rb),(QZ.body,top 27,Rc),(Q0.body,top 28,Rf),(o9.body,top 29,Rg),(vp.body,top 30,Rh),(DQ.body,top 31,Ri),(DW.body,top 32,Rj)]:=by
 refine ⟨?_,?_,?_,?_,?_,?_,?_,?_,?_,?_,?_,?_,?_,?_,?_,?_,?_,?_,?_,?_,?_,?_,?_,?_,?_,trivial⟩
 all_goals dsimp only
 all_goals repeat (first
  | ((with_reducible show JE _ _ _ _ _ _ _ (.BoolOp _ [_] _));refine IG ?_)
  | ((with_reducible show JE _ _ _ _ _ _ (.v _) _);exact jv (by decide +kernel))
  | ((with_reducible show JA _ _ _ _ _ _ (.cons _ _) _);refine Fg ?_ ?_)
  | ((with_reducible show kM _ _ _ _ _ _ (.cons _ _) _);refine Ay ?_ ?_)
  | ((with_reducible show JA _ _ _ _ _ _ .nil _);refine IC)
  | ((with_reducible show kM _ _ _ _ _ _ .nil _);refine Fw)
  | ((with_reducible show JE _ _ _ _ _ _ (.c (.int _)) _);refine Iz)
  | ((with_reducible show JE _ _ _ _ _ _ (.cl _ _) _);refine Wu (by decide +kernel) rfl rfl ?_)
  | ((with_reducible show JE _ _ _ _ _ _ (.c (.str _)) _);refine IB)
  | ((with_reducible show JE _ _ _ _ _ _ (.bin .add _ _) _);refine kY (fun X g=>Jp) ?_ ?_)
  | ((with_reducible show JE _ _ _ _ _ _ (.ix _ _) _);refine Ov (fun X g=>OE) ?_ ?_)
  | ((with_reducible show JS _ _ _ _ _ _ (.ret _) _);refine Ja ?_)
  | ((with_reducible show JS _ _ _ _ _ _ (.iff _ _ _) _);refine Jc ?_ ?_ ?_)
  | ((with_reducible show JE _ _ _ _ _ _ (.tup _) _);refine ID ?_)
  | ((with_reducible show JT _ _ _ _ _ _ (.cmp .eq _ _) _);refine kZ (fun X g=>Df g) ?_ ?_ (iX _))
  | ((with_reducible show qt _ _ _ _ _ _ (_ :: _) _);refine Wt (by decide +kernel) ?_)
  | ((with_reducible show JT _ _ _ _ _ _ (.cmp .ne _ _) _);refine kZ (fun X g=>OD g) ?_ ?_ (iX _))
  | ((with_reducible show JE _ _ _ _ _ _ (.bi .len _) _);refine vQ (x:="len") (id:="len") (fun X g=>JB) ?_ (hb:=P9) (hv:=by decide +kernel))
  | ((with_reducible show JI _ _ _ _ _ _ (.seq _) _ _);refine IV ?_)
  | ((with_reducible show JE _ _ _ _ _ _ (.lst _) _);refine IE ?_)
  | ((with_reducible show JS _ _ _ _ _ _ (.exp _) _);refine IZ ?_)
  | ((with_reducible show JO _ _ _ _ _ _ (.yes _) _);refine IQ ?_)
  | ((with_reducible show JE _ _ _ _ _ _ (.bin .mul _ _) _);refine kY (fun X g=>Jy) ?_ ?_)
  | ((with_reducible show JG _ _ _ _ _ _ (.many _) _);refine Fv ?_)
  | ((with_reducible show qt _ _ _ _ _ _ [] _);refine Ft)
  | ((with_reducible show JE _ _ _ _ _ _ (.sl _ _ _) _);refine Ox (fun X g=>Jx) ?_ ?_ ?_)
  | ((with_reducible show JG _ _ _ _ _ _ (.one _) _);exact Ws (by decide +kernel))
  | ((with_reducible show JS _ _ _ _ _ _ (.for _ _ _) _);refine Je ?_ ?_ ?_)
  | ((with_reducible show JE _ _ _ _ _ _ (.me .append _ (.cons _ _)) _);refine vR PySem.F.plainAttrs_list PySem.F.slot_list_append PySem.F.type_list_append (fun X g=>yF) rfl ?_ ?_)
  | ((with_reducible show JE _ _ _ _ _ _ (.comp _ _ _ _) _);refine OI (by decide +kernel) (by decide +kernel) ?_ ?_ ?_ ?_)
  | ((with_reducible show JE _ _ _ _ _ _ (.c (.bl _)) _);refine Oq)
  | ((with_reducible show JT _ _ _ _ _ _ (.cmp .gt _ _) _);refine kZ (fun X g=>Dh) ?_ ?_ (iX _))
  | ((with_reducible show JE _ _ _ _ _ _ (.me .extend _ (.cons _ _)) _);refine vR PySem.F.plainAttrs_list PySem.F.slot_list_extend PySem.F.type_list_extend (fun X g=>yG) rfl ?_ ?_)
  | ((with_reducible show JC _ _ _ _ _ _ (.yes _) _);refine Jf ?_)
  | ((with_reducible show JE _ _ _ _ _ _ (.bin .mod _ _) _);refine kY (fun X g=>Jr) ?_ ?_)
  | ((with_reducible show JE _ _ _ _ _ _ (.neg _) _);refine IF ?_)
  | ((with_reducible show JO _ _ _ _ _ _ .no _);refine Ow)
  | ((with_reducible show JC _ _ _ _ _ _ .no _);refine OA)
  | ((with_reducible show JE _ _ _ _ _ _ (.gT _ _ _) _);refine II ?_ ?_ ?_)
  | ((with_reducible show JT _ _ _ _ _ _ (.orr _ _) _);refine TZ ?_ ?_)
  | ((with_reducible show JW _ _ _ _ _ _ (.orr _ _) (.BoolOp _ (_ :: _ :: _) _));refine yi ?_ ?_)
  | ((with_reducible show JW _ _ _ _ _ _ _ (.BoolOp .Or [_] _));refine Fi ?_)
  | ((with_reducible show JT _ _ _ _ _ _ (.an _ _) _);refine TV ?_ ?_)
  | ((with_reducible show JW _ _ _ _ _ _ (.an _ _) (.BoolOp _ (_ :: _ :: _) _));refine CW ?_ ?_)
  | ((with_reducible show JW _ _ _ _ _ _ _ (.BoolOp .And [_] _));refine IK ?_)
  | ((with_reducible show JE _ _ _ _ _ _ (.me .pop _ .nil) _);refine IS PySem.F.plainAttrs_list PySem.F.slot_list_pop PySem.F.type_list_pop (fun X g=>JF) rfl ?_)
  | ((with_reducible show JE _ _ _ _ _ _ (.bin .sub _ _) _);refine kY (fun X g=>Jq) ?_ ?_)
  | ((with_reducible show JE _ _ _ _ _ _ (.bin .fdiv _ _) _);refine kY (fun X g=>FG) ?_ ?_)
  | ((with_reducible show JE _ _ _ _ _ _ (.bi .sum _) _);refine vQ (x:="sum") (id:="sum") (fun X g=>Jz g) ?_ (hb:=Qc) (hv:=by decide +kernel))
  | ((with_reducible show JS _ _ _ _ _ _ .fR _);refine JK)
  | ((with_reducible show JE _ _ _ _ _ _ (.c .aY) _);refine IA)
  | ((with_reducible show JI _ _ _ _ _ _ (.gR (.cons _ .nil)) _ _);refine Fq ?_ (hb:=G7))
  | ((with_reducible show JE _ _ _ _ _ _ (.jq _) _);refine JH ?_ (h1:=G8))
  | ((with_reducible show JE _ _ _ _ _ _ (.cmp .eq _ _) _);refine rO (fun X g=>Df g) ?_ ?_ (iX _))
  | ((with_reducible show JE _ _ _ _ _ _ (.me .join _ (.cons _ _)) _);refine vR PySem.F.plainAttrs_str PySem.F.slot_str_join PySem.F.type_str_join (fun X g=>FP) rfl ?_ ?_)
  | ((with_reducible show JE _ _ _ _ _ _ (.iH (.rev _)) _);refine FQ ?_ (h1:=Ls) (hb:=xH))
  | ((with_reducible show JS _ _ _ _ _ _ (.set _ (.comp _ _ _ _)) _);refine OJ (by decide +kernel) (by decide +kernel) (by decide +kernel) ?_ ?_ ?_ ?_)
  | ((with_reducible show JT _ _ _ _ _ _ (.cmp .lt _ _) _);refine kZ (fun X g=>Dg) ?_ ?_ (iX _))
  | ((with_reducible show JT _ _ _ _ _ _ (.nt _) _);refine Ou ?_)
  | ((with_reducible show JS _ _ _ _ _ _ (.nW _ _) _);refine Jd ?_ ?_)
  | ((with_reducible show JE _ _ _ _ _ _ (.bi .min _) _);refine vQ (x:="min") (id:="min") (fun X g=>JD g) ?_ (hb:=Qa) (hv:=by decide +kernel))
  | ((with_reducible show JS _ _ _ _ _ _ .cnt _);refine Jb)
  | ((with_reducible show JE _ _ _ _ _ _ (.cmp .gt _ _) _);refine rO (fun X g=>Dh) ?_ ?_ (iX _))
  | ((with_reducible show JI _ _ _ _ _ _ (.zip _ _) _ _);refine JM ?_ ?_ (Qz:=Qd))
  | ((with_reducible show JT _ _ _ _ _ _ (.cmp .gg _ _) _);refine kZ (fun X g=>AG g) ?_ ?_ (by with_unfolding_all rfl))
  | ((with_reducible show JE _ _ _ _ _ _ (.an _ _) (.BoolOp _ (_ :: _ :: _) _));refine Ot ?_ ?_)
  | ((with_reducible show JE _ _ _ _ _ _ (.cmp .lt _ _) _);refine rO (fun X g=>Dg) ?_ ?_ (iX _))
  | ((with_reducible show JS _ _ _ _ _ _ (.set _ _) _);refine TU (by decide +kernel) ?_)
  | ((with_reducible show JT _ _ _ _ _ _ _ _);refine IM ?_))
end
end Lw
set_option maxRecDepth 100000
namespace Lw
open PySem PySem.Spec PyProof.Rows L2 Sm
open Ev (D O Hh Fr R aR E Es Eo T S Ss Fl Src bW bQ TY BI ME)
theorem lT {α:Type _}{l:List α}(h:l.length=1):∃ a,l=[a]:=by
 rcases l with _ | ⟨a,_ | ⟨b,l⟩⟩ <;> simp at h ⊢
theorem iG {α:Type _}{l:List α}(h:l.length=2):∃ a b,l=[a,b]:=by
 rcases l with _ | ⟨a,l⟩
 ·simp at h
 ·obtain ⟨b,rfl⟩:=lT (l:=l) (by simpa using h);exact ⟨a,b,rfl⟩
theorem nL {α:Type _}{l:List α}(h:l.length=3):∃ a b c,l=[a,b,c]:=by
 rcases l with _ | ⟨a,l⟩
 ·simp at h
 ·obtain ⟨b,c,rfl⟩:=iG (l:=l) (by simpa using h);exact ⟨a,b,c,rfl⟩
theorem UU {α:Type _}{l:List α}(h:l.length=4):∃ a b c d,l=[a,b,c,d]:=by
 rcases l with _ | ⟨a,l⟩
 ·simp at h
 ·obtain ⟨b,c,d,rfl⟩:=nL (l:=l) (by simpa using h);exact ⟨a,b,c,d,rfl⟩
theorem all_mk {l:PySem.W.OpenLaw}{w:World}{K:PySem.W.Frag}{h:Heap}{mg:Str→Option Value}{fa p0 p1 p2 p3 p4 p5 p6 p7 p8 p9 Ec Ed Ef Eg Eh Ei Ej Ek El Em En Ep Er Et zW:Addr}(X:K.In h) (G:h.Ns mainGlobals mg) (W3:mg "law" = some (.ref fa))
  {W4 Lu W5 Rk W6 Rl W7 Rm W8 Rn W9 Ro Xa Rp Xb Rq Xc Rt Xd Ru UW Lv UX Lx UY Ly UZ Lz U0 LA U1 LB U3 LC U4 LD U5 LF U6 LG U7 LH U8 LI U9 LJ Va LK Vb Cj:Option Addr} {Xe LL sl2 Xf Xg Xh Xi Xj Xk Xl Vc Vd Ve Vf Vg Vh Vi Vj Vk Vl Vm Vn Vo Vp Vq:Array (Option Value)} {Xm LM LN LO Eu LP Xn Rx Ry Rz LQ RA Xo RB RC RD LR RE Xp RG RH RI LS RJ Xq RL RM RN LU RP Xr RQ RT RU LV RW Xu RX RY RZ LW R0 Xv R3 R4 R5 LX R6 Xw R7 R8 R9 LY Sa Xx Sb Sd Se LZ Sf Vr L0 L1 L3 Ck L4 Vs L5 L6 L7 Cm L8 Vt Ma Mb Mc Cn Me Vu Mf Mg Mh Co Mi Vv Mj Ml Mm Cp Mn Vw Mp Mq Mr Cq Ms Vx Mt Mu Mv Cr Mw Vy Mx My Mz Cs MA Vz MB MC MD Ct MF VA MG MH MI Cu MJ VB MK ML MM Cv MN VC MO MP MQ Cw MR VD MS MT MU Cy MV VE MW MX MY Cz MZ VF CB CC CD xJ CF:Value}
  (a0:PySem.W.nsIn K mainGlobals "size" = some (some (.ref p0))) (l0:K.lookup p0=some ⟨Xm,W4,.func (PySem.W.fnOf "size" "size" (aE (top 1)) (aB (top 1)) (ao (top 1)) .none LM LN LO Lu Eu LP),Xe⟩) (c0:PySem.W.codeIn K Eu "size" = true) (k0:PySem.W.keepIn K (.ref p0)=true)
  (a1:PySem.W.nsIn K mainGlobals "before" = some (some (.ref p1))) (l1:K.lookup p1=some ⟨Xn,W5,.func (PySem.W.fnOf "before" "before" (aE (top 2)) (aB (top 2)) (ao (top 2)) .none Rx Ry Rz Rk LQ RA),LL⟩) (c1:PySem.W.codeIn K LQ "before" = true) (k1:PySem.W.keepIn K (.ref p1)=true)
  (a2:PySem.W.nsIn K mainGlobals "after" = some (some (.ref p2))) (l2:K.lookup p2=some ⟨Xo,W6,.func (PySem.W.fnOf "after" "after" (aE (top 3)) (aB (top 3)) (ao (top 3)) .none RB RC RD Rl LR RE),sl2⟩) (c2:PySem.W.codeIn K LR "after" = true) (k2:PySem.W.keepIn K (.ref p2)=true)
  (a3:PySem.W.nsIn K mainGlobals "cost" = some (some (.ref p3))) (l3:K.lookup p3=some ⟨Xp,W7,.func (PySem.W.fnOf "cost" "cost" (aE (top 4)) (aB (top 4)) (ao (top 4)) .none RG RH RI Rm LS RJ),Xf⟩) (c3:PySem.W.codeIn K LS "cost" = true) (k3:PySem.W.keepIn K (.ref p3)=true)
  (a4:PySem.W.nsIn K mainGlobals "form" = some (some (.ref p4))) (l4:K.lookup p4=some ⟨Xq,W8,.func (PySem.W.fnOf "form" "form" (aE (top 5)) (aB (top 5)) (ao (top 5)) .none RL RM RN Rn LU RP),Xg⟩) (c4:PySem.W.codeIn K LU "form" = true) (k4:PySem.W.keepIn K (.ref p4)=true)
  (a5:PySem.W.nsIn K mainGlobals "stretch" = some (some (.ref p5))) (l5:K.lookup p5=some ⟨Xr,W9,.func (PySem.W.fnOf "stretch" "stretch" (aE (top 6)) (aB (top 6)) (ao (top 6)) .none RQ RT RU Ro LV RW),Xh⟩) (c5:PySem.W.codeIn K LV "stretch" = true) (k5:PySem.W.keepIn K (.ref p5)=true)
  (a6:PySem.W.nsIn K mainGlobals "fits" = some (some (.ref p6))) (l6:K.lookup p6=some ⟨Xu,Xa,.func (PySem.W.fnOf "fits" "fits" (aE (top 11)) (aB (top 11)) (ao (top 11)) .none RX RY RZ Rp LW R0),Xi⟩) (c6:PySem.W.codeIn K LW "fits" = true) (k6:PySem.W.keepIn K (.ref p6)=true)
  (a7:PySem.W.nsIn K mainGlobals "done" = some (some (.ref p7))) (l7:K.lookup p7=some ⟨Xv,Xb,.func (PySem.W.fnOf "done" "done" (aE (top 12)) (aB (top 12)) (ao (top 12)) .none R3 R4 R5 Rq LX R6),Xj⟩) (c7:PySem.W.codeIn K LX "done" = true) (k7:PySem.W.keepIn K (.ref p7)=true)
  (a8:PySem.W.nsIn K mainGlobals "then" = some (some (.ref p8))) (l8:K.lookup p8=some ⟨Xw,Xc,.func (PySem.W.fnOf "then" "then" (aE (top 13)) (aB (top 13)) (ao (top 13)) .none R7 R8 R9 Rt LY Sa),Xk⟩) (c8:PySem.W.codeIn K LY "then" = true) (k8:PySem.W.keepIn K (.ref p8)=true)
  (a9:PySem.W.nsIn K mainGlobals "met" = some (some (.ref p9))) (l9:K.lookup p9=some ⟨Xx,Xd,.func (PySem.W.fnOf "met" "met" (aE (top 14)) (aB (top 14)) (ao (top 14)) .none Sb Sd Se Ru LZ Sf),Xl⟩) (c9:PySem.W.codeIn K LZ "met" = true) (k9:PySem.W.keepIn K (.ref p9)=true)
  (M4:PySem.W.nsIn K mainGlobals "taken" = some (some (.ref Ec))) (M5:K.lookup Ec=some ⟨Vr,UW,.func (PySem.W.fnOf "taken" "taken" (aE (top 15)) (aB (top 15)) (ao (top 15)) .none L0 L1 L3 Lv Ck L4),Vc⟩) (M6:PySem.W.codeIn K Ck "taken" = true) (Ew:PySem.W.keepIn K (.ref Ec)=true)
  (M7:PySem.W.nsIn K mainGlobals "parted" = some (some (.ref Ed))) (M8:K.lookup Ed=some ⟨Vs,UX,.func (PySem.W.fnOf "parted" "parted" (aE (top 16)) (aB (top 16)) (ao (top 16)) .none L5 L6 L7 Lx Cm L8),Vd⟩) (M9:PySem.W.codeIn K Cm "parted" = true) (Ex:PySem.W.keepIn K (.ref Ed)=true)
  (Na:PySem.W.nsIn K mainGlobals "squeezed" = some (some (.ref Ef))) (Nb:K.lookup Ef=some ⟨Vt,UY,.func (PySem.W.fnOf "squeezed" "squeezed" (aE (top 18)) (aB (top 18)) (ao (top 18)) .none Ma Mb Mc Ly Cn Me),Ve⟩) (c12:PySem.W.codeIn K Cn "squeezed" = true) (Ey:PySem.W.keepIn K (.ref Ef)=true)
  (Nc:PySem.W.nsIn K mainGlobals "owners" = some (some (.ref Eg))) (Nd:K.lookup Eg=some ⟨Vu,UZ,.func (PySem.W.fnOf "owners" "owners" (aE (top 20)) (aB (top 20)) (ao (top 20)) .none Mf Mg Mh Lz Co Mi),Vf⟩) (Nf:PySem.W.codeIn K Co "owners" = true) (Ez:PySem.W.keepIn K (.ref Eg)=true)
  (Ng:PySem.W.nsIn K mainGlobals "traced" = some (some (.ref Eh))) (Nh:K.lookup Eh=some ⟨Vv,U0,.func (PySem.W.fnOf "traced" "traced" (aE (top 21)) (aB (top 21)) (ao (top 21)) .none Mj Ml Mm LA Cp Mn),Vg⟩) (Ni:PySem.W.codeIn K Cp "traced" = true) (EA:PySem.W.keepIn K (.ref Eh)=true)
  (Nj:PySem.W.nsIn K mainGlobals "traced_once" = some (some (.ref Ei))) (Nk:K.lookup Ei=some ⟨Vw,U1,.func (PySem.W.fnOf "traced_once" "traced_once" (aE (top 22)) (aB (top 22)) (ao (top 22)) .none Mp Mq Mr LB Cq Ms),Vh⟩) (Nl:PySem.W.codeIn K Cq "traced_once" = true) (EB:PySem.W.keepIn K (.ref Ei)=true)
  (Nn:PySem.W.nsIn K mainGlobals "_law_cell" = some (some (.ref Ej))) (Np:K.lookup Ej=some ⟨Vx,U3,.func (PySem.W.fnOf "_law_cell" "_law_cell" (aE (top 24)) (aB (top 24)) (ao (top 24)) .none Mt Mu Mv LC Cr Mw),Vi⟩) (Nq:PySem.W.codeIn K Cr "_law_cell" = true) (EC:PySem.W.keepIn K (.ref Ej)=true)
  (Nr:PySem.W.nsIn K mainGlobals "_law_drawn" = some (some (.ref Ek))) (Nt:K.lookup Ek=some ⟨Vy,U4,.func (PySem.W.fnOf "_law_drawn" "_law_drawn" (aE (top 25)) (aB (top 25)) (ao (top 25)) .none Mx My Mz LD Cs MA),Vj⟩) (Nu:PySem.W.codeIn K Cs "_law_drawn" = true) (ED:PySem.W.keepIn K (.ref Ek)=true)
  (Nv:PySem.W.nsIn K mainGlobals "_law_text" = some (some (.ref El))) (Nx:K.lookup El=some ⟨Vz,U5,.func (PySem.W.fnOf "_law_text" "_law_text" (aE (top 26)) (aB (top 26)) (ao (top 26)) .none MB MC MD LF Ct MF),Vk⟩) (Ny:PySem.W.codeIn K Ct "_law_text" = true) (EE:PySem.W.keepIn K (.ref El)=true)
  (Nz:PySem.W.nsIn K mainGlobals "_law_change" = some (some (.ref Em))) (NB:K.lookup Em=some ⟨VA,U6,.func (PySem.W.fnOf "_law_change" "_law_change" (aE (top 27)) (aB (top 27)) (ao (top 27)) .none MG MH MI LG Cu MJ),Vl⟩) (NC:PySem.W.codeIn K Cu "_law_change" = true) (EF:PySem.W.keepIn K (.ref Em)=true)
  (ND:PySem.W.nsIn K mainGlobals "_law_made" = some (some (.ref En))) (NF:K.lookup En=some ⟨VB,U7,.func (PySem.W.fnOf "_law_made" "_law_made" (aE (top 28)) (aB (top 28)) (ao (top 28)) .none MK ML MM LH Cv MN),Vm⟩) (NG:PySem.W.codeIn K Cv "_law_made" = true) (EG:PySem.W.keepIn K (.ref En)=true)
  (NH:PySem.W.nsIn K mainGlobals "_law_small" = some (some (.ref Ep))) (NI:K.lookup Ep=some ⟨VC,U8,.func (PySem.W.fnOf "_law_small" "_law_small" (aE (top 29)) (aB (top 29)) (ao (top 29)) .none MO MP MQ LI Cw MR),Vn⟩) (NJ:PySem.W.codeIn K Cw "_law_small" = true) (EH:PySem.W.keepIn K (.ref Ep)=true)
  (NK:PySem.W.nsIn K mainGlobals "_law_rows" = some (some (.ref Er))) (NL:K.lookup Er=some ⟨VD,U9,.func (PySem.W.fnOf "_law_rows" "_law_rows" (aE (top 30)) (aB (top 30)) (ao (top 30)) .none MS MT MU LJ Cy MV),Vo⟩) (NN:PySem.W.codeIn K Cy "_law_rows" = true) (EI:PySem.W.keepIn K (.ref Er)=true)
  (NO:PySem.W.nsIn K mainGlobals "_law_last" = some (some (.ref Et))) (NP:K.lookup Et=some ⟨VE,Va,.func (PySem.W.fnOf "_law_last" "_law_last" (aE (top 31)) (aB (top 31)) (ao (top 31)) .none MW MX MY LK Cz MZ),Vp⟩) (NQ:PySem.W.codeIn K Cz "_law_last" = true) (EJ:PySem.W.keepIn K (.ref Et)=true)
  (EK:PySem.W.nsIn K mainGlobals "law" = some (some (.ref zW))) (NR:K.lookup zW=some ⟨VF,Vb,.func (PySem.W.fnOf "law" "law" (aE (top 32)) (aB (top 32)) (ao (top 32)) .none CB CC CD Cj xJ CF),Vq⟩) (NS:PySem.W.codeIn K xJ "law" = true) (EL:PySem.W.keepIn K (.ref zW)=true)
  (z0:PySem.W.nsIn K mainGlobals "len" = some none)
  (z1:PySem.W.nsIn K mainGlobals "list" = some none)
  (z2:PySem.W.nsIn K mainGlobals "min" = some none)
  (z3:PySem.W.nsIn K mainGlobals "range" = some none)
  (z4:PySem.W.nsIn K mainGlobals "reversed" = some none)
  (z5:PySem.W.nsIn K mainGlobals "sum" = some none)
  (z6:PySem.W.nsIn K mainGlobals "tuple" = some none)
  (z7:PySem.W.nsIn K mainGlobals "zip" = some none)
  {t0:Tok} (q0:PySem.W.nsIn K mainGlobals "__name__" = some (some (.str "law_pastways_k64_whole_squeezed" t0)))
  : ∃ fd:FuncData,(∀ (s:Shared) (v:Value),BindsTo s fd ⟨[v],[]⟩ [("_law_script",v)])∧∀ base:Heap,K.In base→base.Ns mainGlobals mg→gX l.prog w K mg base kW 60 fa fd ["_law_script"] (mQ K prog 100000 60 24):=by
 have e:=W3.symm.trans (PySem.W.mg_of X G EK)
 have e2:zW=fa:=by injection e with e;injection e with e;exact e.symm
 subst e2
 have F0:=bZ (st:=top 1) l0 c0 k0
 have B0:=F0.binds (ps:=["part"]) fun _ _ _ _ _ _ us hl=>by obtain ⟨_,rfl⟩:=lT hl;rfl
 have F1:=bZ (st:=top 2) l1 c1 k1
 have B1:=F1.binds (ps:=["change"]) fun _ _ _ _ _ _ us hl=>by obtain ⟨_,rfl⟩:=lT hl;rfl
 have F2:=bZ (st:=top 3) l2 c2 k2
 have B2:=F2.binds (ps:=["change"]) fun _ _ _ _ _ _ us hl=>by obtain ⟨_,rfl⟩:=lT hl;rfl
 have F3:=bZ (st:=top 4) l3 c3 k3
 have B3:=F3.binds (ps:=["change"]) fun _ _ _ _ _ _ us hl=>by obtain ⟨_,rfl⟩:=lT hl;rfl
 have F4:=bZ (st:=top 5) l4 c4 k4
 have B4:=F4.binds (ps:=["change"]) fun _ _ _ _ _ _ us hl=>by obtain ⟨_,rfl⟩:=lT hl;rfl
 have F5:=bZ (st:=top 6) l5 c5 k5
 have B5:=F5.binds (ps:=["kept","gone","new"]) fun _ _ _ _ _ _ us hl=>by obtain ⟨_,_,_,rfl⟩:=nL hl;rfl
 have F6:=bZ (st:=top 11) l6 c6 k6
 have B6:=F6.binds (ps:=["change","text"]) fun _ _ _ _ _ _ us hl=>by obtain ⟨_,_,rfl⟩:=iG hl;rfl
 have F7:=bZ (st:=top 12) l7 c7 k7
 have B7:=F7.binds (ps:=["change","text"]) fun _ _ _ _ _ _ us hl=>by obtain ⟨_,_,rfl⟩:=iG hl;rfl
 have F8:=bZ (st:=top 13) l8 c8 k8
 have B8:=F8.binds (ps:=["one","other"]) fun _ _ _ _ _ _ us hl=>by obtain ⟨_,_,rfl⟩:=iG hl;rfl
 have F9:=bZ (st:=top 14) l9 c9 k9
 have B9:=F9.binds (ps:=["left","gone_through"]) fun _ _ _ _ _ _ us hl=>by obtain ⟨_,_,rfl⟩:=iG hl;rfl
 have Sg:=bZ (st:=top 15) M5 M6 Ew
 have Xy:=Sg.binds (ps:=["parts","many"]) fun _ _ _ _ _ _ us hl=>by obtain ⟨_,_,rfl⟩:=iG hl;rfl
 have Sh:=bZ (st:=top 16) M8 M9 Ex
 have Xz:=Sh.binds (ps:=["part","many"]) fun _ _ _ _ _ _ us hl=>by obtain ⟨_,_,rfl⟩:=iG hl;rfl
 have Si:=bZ (st:=top 18) Nb c12 Ey
 have XA:=Si.binds (ps:=["rows"]) fun _ _ _ _ _ _ us hl=>by obtain ⟨_,rfl⟩:=lT hl;rfl
 have Sj:=bZ (st:=top 20) Nd Nf Ez
 have XC:=Sj.binds (ps:=["text","rows"]) fun _ _ _ _ _ _ us hl=>by obtain ⟨_,_,rfl⟩:=iG hl;rfl
 have Sk:=bZ (st:=top 21) Nh Ni EA
 have XD:=Sk.binds (ps:=["text","rows"]) fun _ _ _ _ _ _ us hl=>by obtain ⟨_,_,rfl⟩:=iG hl;rfl
 have Sn:=bZ (st:=top 22) Nk Nl EB
 have XE:=Sn.binds (ps:=["standing","own","change"]) fun _ _ _ _ _ _ us hl=>by obtain ⟨_,_,_,rfl⟩:=nL hl;rfl
 have So:=bZ (st:=top 24) Np Nq EC
 have XF:=So.binds (ps:=["_law_script","_law_k"]) fun _ _ _ _ _ _ us hl=>by obtain ⟨_,_,rfl⟩:=iG hl;rfl
 have Sq:=bZ (st:=top 25) Nt Nu ED
 have XG:=Sq.binds (ps:=["_law_script","_law_k","_law_many"]) fun _ _ _ _ _ _ us hl=>by obtain ⟨_,_,_,rfl⟩:=nL hl;rfl
 have Su:=bZ (st:=top 26) Nx Ny EE
 have XH:=Su.binds (ps:=["_law_script","_law_at","_law_most"]) fun _ _ _ _ _ _ us hl=>by obtain ⟨_,_,_,rfl⟩:=nL hl;rfl
 have Sv:=bZ (st:=top 27) NB NC EF
 have XI:=Sv.binds (ps:=["_law_script","_law_at","_law_text_here"]) fun _ _ _ _ _ _ us hl=>by obtain ⟨_,_,_,rfl⟩:=nL hl;rfl
 have Sw:=bZ (st:=top 28) NF NG EG
 have XJ:=Sw.binds (ps:=["_law_change_here","_law_text_here"]) fun _ _ _ _ _ _ us hl=>by obtain ⟨_,_,rfl⟩:=iG hl;rfl
 have Sx:=bZ (st:=top 29) NI NJ EH
 have XM:=Sx.binds (ps:=["_law_script","_law_at","_law_text_here"]) fun _ _ _ _ _ _ us hl=>by obtain ⟨_,_,_,rfl⟩:=nL hl;rfl
 have Sy:=bZ (st:=top 30) NL NN EI
 have XN:=Sy.binds (ps:=["_law_script","_law_at","_law_text_here","_law_most"]) fun _ _ _ _ _ _ us hl=>by obtain ⟨_,_,_,_,rfl⟩:=UU hl;rfl
 have Sz:=bZ (st:=top 31) NP NQ EJ
 have XO:=Sz.binds (ps:=["_law_text_here","_law_rows_here"]) fun _ _ _ _ _ _ us hl=>by obtain ⟨_,_,rfl⟩:=iG hl;rfl
 have SA:=bZ (st:=top 32) NR NS EL
 have XQ:=SA.binds (ps:=["_law_script"]) fun _ _ _ _ _ _ us hl=>by obtain ⟨_,rfl⟩:=lT hl;rfl
 let aa:Nat→Addr:=fun k=>[p0,p1,p2,p3,p4,p5,p6,p7,p8,p9,Ec,Ed,Ef,Eg,Eh,Ei,Ej,Ek,El,Em,En,Ep,Er,Et,zW].getD k p0
 let dd:Nat→FuncData:=fun k=>[(PySem.W.fnOf "size" "size" (aE (top 1)) (aB (top 1)) (ao (top 1)) .none LM LN LO Lu Eu LP),(PySem.W.fnOf "before" "before" (aE (top 2)) (aB (top 2)) (ao (top 2)) .none Rx Ry Rz Rk LQ RA),(PySem.W.fnOf "after" "after" (aE (top 3)) (aB (top 3)) (ao (top 3)) .none RB RC RD Rl LR RE),(PySem.W.fnOf "cost" "cost" (aE (top 4)) (aB (top 4)) (ao (top 4)) .none RG RH RI Rm LS RJ),(PySem.W.fnOf "form" "form" (aE (top 5)) (aB (top 5)) (ao (top 5)) .none RL RM RN Rn LU RP),(PySem.W.fnOf "stretch" "stretch" (aE (top 6)) (aB (top 6)) (ao (top 6)) .none RQ RT RU Ro LV RW),(PySem.W.fnOf "fits" "fits" (aE (top 11)) (aB (top 11)) (ao (top 11)) .none RX RY RZ Rp LW R0),(PySem.W.fnOf "done" "done" (aE (top 12)) (aB (top 12)) (ao (top 12)) .none R3 R4 R5 Rq LX R6),(PySem.W.fnOf "then" "then" (aE (top 13)) (aB (top 13)) (ao (top 13)) .none R7 R8 R9 Rt LY Sa),(PySem.W.fnOf "met" "met" (aE (top 14)) (aB (top 14)) (ao (top 14)) .none Sb Sd Se Ru LZ Sf),(PySem.W.fnOf "taken" "taken" (aE (top 15)) (aB (top 15)) (ao (top 15)) .none L0 L1 L3 Lv Ck L4),(PySem.W.fnOf "parted" "parted" (aE (top 16)) (aB (top 16)) (ao (top 16)) .none L5 L6 L7 Lx Cm L8),(PySem.W.fnOf "squeezed" "squeezed" (aE (top 18)) (aB (top 18)) (ao (top 18)) .none Ma Mb Mc Ly Cn Me),(PySem.W.fnOf "owners" "owners" (aE (top 20)) (aB (top 20)) (ao (top 20)) .none Mf Mg Mh Lz Co Mi),(PySem.W.fnOf "traced" "traced" (aE (top 21)) (aB (top 21)) (ao (top 21)) .none Mj Ml Mm LA Cp Mn),(PySem.W.fnOf "traced_once" "traced_once" (aE (top 22)) (aB (top 22)) (ao (top 22)) .none Mp Mq Mr LB Cq Ms),(PySem.W.fnOf "_law_cell" "_law_cell" (aE (top 24)) (aB (top 24)) (ao (top 24)) .none Mt Mu Mv LC Cr Mw),(PySem.W.fnOf "_law_drawn" "_law_drawn" (aE (top 25)) (aB (top 25)) (ao (top 25)) .none Mx My Mz LD Cs MA),(PySem.W.fnOf "_law_text" "_law_text" (aE (top 26)) (aB (top 26)) (ao (top 26)) .none MB MC MD LF Ct MF),(PySem.W.fnOf "_law_change" "_law_change" (aE (top 27)) (aB (top 27)) (ao (top 27)) .none MG MH MI LG Cu MJ),(PySem.W.fnOf "_law_made" "_law_made" (aE (top 28)) (aB (top 28)) (ao (top 28)) .none MK ML MM LH Cv MN),(PySem.W.fnOf "_law_small" "_law_small" (aE (top 29)) (aB (top 29)) (ao (top 29)) .none MO MP MQ LI Cw MR),(PySem.W.fnOf "_law_rows" "_law_rows" (aE (top 30)) (aB (top 30)) (ao (top 30)) .none MS MT MU LJ Cy MV),(PySem.W.fnOf "_law_last" "_law_last" (aE (top 31)) (aB (top 31)) (ao (top 31)) .none MW MX MY LK Cz MZ),(PySem.W.fnOf "law" "law" (aE (top 32)) (aB (top 32)) (ao (top 32)) .none CB CC CD Cj xJ CF)].getD k (PySem.W.fnOf "size" "size" (aE (top 1)) (aB (top 1)) (ao (top 1)) .none LM LN LO Lu Eu LP)
 have T:Top l.prog w K mg (tb aa dd):=by
  refine ⟨fun f i hi=>?_,?_,?_,?_⟩
  ·match f,hi with
   | 0,hi=>obtain rfl:i0 aa dd=i:=Option.some.inj hi;exact ⟨PySem.W.mg_of X G a0,k0,B0⟩
   | 1,hi=>obtain rfl:i1 aa dd=i:=Option.some.inj hi;exact ⟨PySem.W.mg_of X G a1,k1,B1⟩
   | 2,hi=>obtain rfl:i2 aa dd=i:=Option.some.inj hi;exact ⟨PySem.W.mg_of X G a2,k2,B2⟩
   | 3,hi=>obtain rfl:i3 aa dd=i:=Option.some.inj hi;exact ⟨PySem.W.mg_of X G a3,k3,B3⟩
   | 4,hi=>obtain rfl:i4 aa dd=i:=Option.some.inj hi;exact ⟨PySem.W.mg_of X G a4,k4,B4⟩
   | 5,hi=>obtain rfl:i5 aa dd=i:=Option.some.inj hi;exact ⟨PySem.W.mg_of X G a5,k5,B5⟩
   | 6,hi=>obtain rfl:i6 aa dd=i:=Option.some.inj hi;exact ⟨PySem.W.mg_of X G a6,k6,B6⟩
   | 7,hi=>obtain rfl:i7 aa dd=i:=Option.some.inj hi;exact ⟨PySem.W.mg_of X G a7,k7,B7⟩
   | 8,hi=>obtain rfl:i8 aa dd=i:=Option.some.inj hi;exact ⟨PySem.W.mg_of X G a8,k8,B8⟩
   | 9,hi=>obtain rfl:i9 aa dd=i:=Option.some.inj hi;exact ⟨PySem.W.mg_of X G a9,k9,B9⟩
   | 10,hi=>obtain rfl:DX aa dd=i:=Option.some.inj hi;exact ⟨PySem.W.mg_of X G M4,Ew,Xy⟩
   | 11,hi=>obtain rfl:DY aa dd=i:=Option.some.inj hi;exact ⟨PySem.W.mg_of X G M7,Ex,Xz⟩
   | 12,hi=>obtain rfl:i12 aa dd=i:=Option.some.inj hi;exact ⟨PySem.W.mg_of X G Na,Ey,XA⟩
   | 13,hi=>obtain rfl:DZ aa dd=i:=Option.some.inj hi;exact ⟨PySem.W.mg_of X G Nc,Ez,XC⟩
   | 14,hi=>obtain rfl:D0 aa dd=i:=Option.some.inj hi;exact ⟨PySem.W.mg_of X G Ng,EA,XD⟩
   | 15,hi=>obtain rfl:D3 aa dd=i:=Option.some.inj hi;exact ⟨PySem.W.mg_of X G Nj,EB,XE⟩
   | 16,hi=>obtain rfl:D4 aa dd=i:=Option.some.inj hi;exact ⟨PySem.W.mg_of X G Nn,EC,XF⟩
   | 17,hi=>obtain rfl:D5 aa dd=i:=Option.some.inj hi;exact ⟨PySem.W.mg_of X G Nr,ED,XG⟩
   | 18,hi=>obtain rfl:D6 aa dd=i:=Option.some.inj hi;exact ⟨PySem.W.mg_of X G Nv,EE,XH⟩
   | 19,hi=>obtain rfl:D7 aa dd=i:=Option.some.inj hi;exact ⟨PySem.W.mg_of X G Nz,EF,XI⟩
   | 20,hi=>obtain rfl:D8 aa dd=i:=Option.some.inj hi;exact ⟨PySem.W.mg_of X G ND,EG,XJ⟩
   | 21,hi=>obtain rfl:D9 aa dd=i:=Option.some.inj hi;exact ⟨PySem.W.mg_of X G NH,EH,XM⟩
   | 22,hi=>obtain rfl:Ea aa dd=i:=Option.some.inj hi;exact ⟨PySem.W.mg_of X G NK,EI,XN⟩
   | 23,hi=>obtain rfl:Eb aa dd=i:=Option.some.inj hi;exact ⟨PySem.W.mg_of X G NO,EJ,XO⟩
   | 24,hi=>obtain rfl:zV aa dd=i:=Option.some.inj hi;exact ⟨PySem.W.mg_of X G EK,EL,XQ⟩
   | j+25,hi=>exact nomatch (show (none:Option FI)=some i from hi)
  ·exact (show ∀ x∈m5,mg x=none from List.forall_mem_cons.mpr ⟨PySem.W.mg_none_of X G z0,List.forall_mem_cons.mpr ⟨PySem.W.mg_none_of X G z1,List.forall_mem_cons.mpr ⟨PySem.W.mg_none_of X G z2,List.forall_mem_cons.mpr ⟨PySem.W.mg_none_of X G z3,List.forall_mem_cons.mpr ⟨PySem.W.mg_none_of X G z4,List.forall_mem_cons.mpr ⟨PySem.W.mg_none_of X G z5,List.forall_mem_cons.mpr ⟨PySem.W.mg_none_of X G z6,List.forall_mem_cons.mpr ⟨PySem.W.mg_none_of X G z7,fun _ h=>nomatch h⟩⟩⟩⟩⟩⟩⟩⟩)
  ·exact fun x d hx=>(show ∀ y∈(tb aa dd).cs,∃ v u,mg y.1=some u∧RelV v u∧rN y.2 v from List.forall_mem_cons.mpr ⟨⟨.str "law_pastways_k64_whole_squeezed",_,PySem.W.mg_of X G q0,⟨_,rfl⟩,⟨by decide +kernel,by decide⟩⟩,fun _ h=>nomatch h⟩) (x,d) hx
  ·exact fun x d hx=>(show ∀ y∈(tb aa dd).dk,∃ a,mg y.1=some (.ref a)∧∀ h:Heap,K.In h→StrTab l.prog w h a (tabOf y.2) from fun _ h=>nomatch h) (x,d) hx
 refine ⟨PySem.W.fnOf "law" "law" (aE (top 32)) (aB (top 32)) (ao (top 32)) .none CB CC CD Cj xJ CF,fun s v=>.of_eq rfl,fun base _ _=>?_⟩
 refine yL (P:=l.prog) (w:=w) (base:=base) T (fun n A0 f i hi=>?_) 60 24 (zV aa dd) rfl
 match f,hi with
 | 0,hi=>obtain rfl:i0 aa dd=i:=Option.some.inj hi;exact cH (i:=i0 aa dd) T A0 F0 s0 rfl rfl (dj.get (k:=0) rfl)
 | 1,hi=>obtain rfl:i1 aa dd=i:=Option.some.inj hi;exact cH (i:=i1 aa dd) T A0 F1 s1 rfl rfl (dj.get (k:=1) rfl)
 | 2,hi=>obtain rfl:i2 aa dd=i:=Option.some.inj hi;exact cH (i:=i2 aa dd) T A0 F2 s2 rfl rfl (dj.get (k:=2) rfl)
 | 3,hi=>obtain rfl:i3 aa dd=i:=Option.some.inj hi;exact cH (i:=i3 aa dd) T A0 F3 s3 rfl rfl (dj.get (k:=3) rfl)
 | 4,hi=>obtain rfl:i4 aa dd=i:=Option.some.inj hi;exact cH (i:=i4 aa dd) T A0 F4 s4 rfl rfl (dj.get (k:=4) rfl)
 | 5,hi=>obtain rfl:i5 aa dd=i:=Option.some.inj hi;exact cH (i:=i5 aa dd) T A0 F5 s5 rfl rfl (dj.get (k:=5) rfl)
 | 6,hi=>obtain rfl:i6 aa dd=i:=Option.some.inj hi;exact cH (i:=i6 aa dd) T A0 F6 s6 rfl rfl (dj.get (k:=6) rfl)
 | 7,hi=>obtain rfl:i7 aa dd=i:=Option.some.inj hi;exact cH (i:=i7 aa dd) T A0 F7 s7 rfl rfl (dj.get (k:=7) rfl)
 | 8,hi=>obtain rfl:i8 aa dd=i:=Option.some.inj hi;exact cH (i:=i8 aa dd) T A0 F8 s8 rfl rfl (dj.get (k:=8) rfl)
 | 9,hi=>obtain rfl:i9 aa dd=i:=Option.some.inj hi;exact cH (i:=i9 aa dd) T A0 F9 s9 rfl rfl (dj.get (k:=9) rfl)
 | 10,hi=>obtain rfl:DX aa dd=i:=Option.some.inj hi;exact cH (i:=DX aa dd) T A0 Sg Qv rfl rfl (dj.get (k:=10) rfl)
 | 11,hi=>obtain rfl:DY aa dd=i:=Option.some.inj hi;exact cH (i:=DY aa dd) T A0 Sh C2 rfl rfl (dj.get (k:=11) rfl)
 | 12,hi=>obtain rfl:i12 aa dd=i:=Option.some.inj hi;exact cH (i:=i12 aa dd) T A0 Si s12 rfl rfl (dj.get (k:=12) rfl)
 | 13,hi=>obtain rfl:DZ aa dd=i:=Option.some.inj hi;exact cH (i:=DZ aa dd) T A0 Sj WO rfl rfl (dj.get (k:=13) rfl)
 | 14,hi=>obtain rfl:D0 aa dd=i:=Option.some.inj hi;exact cH (i:=D0 aa dd) T A0 Sk WQ rfl rfl (dj.get (k:=14) rfl)
 | 15,hi=>obtain rfl:D3 aa dd=i:=Option.some.inj hi;exact cH (i:=D3 aa dd) T A0 Sn WR rfl rfl (dj.get (k:=15) rfl)
 | 16,hi=>obtain rfl:D4 aa dd=i:=Option.some.inj hi;exact cH (i:=D4 aa dd) T A0 So WS rfl rfl (dj.get (k:=16) rfl)
 | 17,hi=>obtain rfl:D5 aa dd=i:=Option.some.inj hi;exact cH (i:=D5 aa dd) T A0 Sq WT rfl rfl (dj.get (k:=17) rfl)
 | 18,hi=>obtain rfl:D6 aa dd=i:=Option.some.inj hi;exact cH (i:=D6 aa dd) T A0 Su WU rfl rfl (dj.get (k:=18) rfl)
 | 19,hi=>obtain rfl:D7 aa dd=i:=Option.some.inj hi;exact cH (i:=D7 aa dd) T A0 Sv WV rfl rfl (dj.get (k:=19) rfl)
 | 20,hi=>obtain rfl:D8 aa dd=i:=Option.some.inj hi;exact cH (i:=D8 aa dd) T A0 Sw WX rfl rfl (dj.get (k:=20) rfl)
 | 21,hi=>obtain rfl:D9 aa dd=i:=Option.some.inj hi;exact cH (i:=D9 aa dd) T A0 Sx WY rfl rfl (dj.get (k:=21) rfl)
 | 22,hi=>obtain rfl:Ea aa dd=i:=Option.some.inj hi;exact cH (i:=Ea aa dd) T A0 Sy WZ rfl rfl (dj.get (k:=22) rfl)
 | 23,hi=>obtain rfl:Eb aa dd=i:=Option.some.inj hi;exact cH (i:=Eb aa dd) T A0 Sz W0 rfl rfl (dj.get (k:=23) rfl)
 | 24,hi=>obtain rfl:zV aa dd=i:=Option.some.inj hi;exact cH (i:=zV aa dd) T A0 SA W2 rfl rfl (dj.get (k:=24) rfl)
 | j+25,hi=>exact nomatch (show (none:Option FI)=some i from hi)
end Lw
namespace Lg
open Pv
open Lw (prog vj DK vm vn o9 vp DQ DW DJ DL DM DO DP DN xw xx xy xA xB DR DS DT DU DV xC xD xE xF xG tQ tR tS)
open Ev (deep big rep cut bK)
theorem EM (ns:List Int) (k:Int) (x:List Nat) (b:Nat) (h:x.length≤b):(chg ns k x).length≤2*b+2∧tot (chg ns k x)≤3*b+3:=by
 have h1:=lP ns k x (x.length+1)
 have h2:=qI ns k x (x.length+1)
 simp only [chg];omega
theorem nS (s:List Nat):Pv.cop .ne (.str s) (.str s)=some false:=by rw [gj];simp
theorem vq (a b:Nat):Pv.bH .add (.int (a:Int)) (.int (b:Int))=some (.int ((a+b:Nat):Int)):=by rw [cj];congr 2
theorem NT {a b:Nat}(h:b≤a):Pv.bH .sub (.int (a:Int)) (.int (b:Int))=some (.int ((a - b:Nat):Int)):=by rw [sH];congr 2;omega
theorem Hf (st:List V) (o:List Nat):∀ (n k:Nat),k+n≤st.length→((List.range n).map fun j=>Tq.at (k+j)).map (who st o)=(st.drop k).take n:=fun n k h=>by
 apply List.ext_getElem?
 intro i
 by_cases hi:i<n
 ·have:k+i<st.length:=by omega
  simp [hi,who,List.getElem?_take,List.getElem?_drop,List.getElem?_eq_getElem this,List.getD]
 ·rw [List.getElem?_eq_none (by simp;omega),List.getElem?_eq_none (by simp;omega)]
noncomputable def tw (st:List V) (o:List Nat) (p:List Pt):List V:=(told 0 p).map (who st o)
theorem VG {st:List V}{o:List Nat}{p:List Pt}{k:Nat}(h:az p+k≤st.length):tw st o (p++[.keep k])=tw st o p++(st.drop (az p)).take k:=by
 unfold tw;rw [ef,kE,List.map_append,←Hf st o k (az p) h];simp [told,Pt.told]
theorem VH {st:List V}{o:List Nat}{p:List Pt}{s:List Nat}:tw st o (p++[.put s])=tw st o p++s.map fun _=>V.str o:=by
 unfold tw;rw [ef,List.map_append];simp [told,Pt.told,who]
theorem VI {st:List V}{o:List Nat}{p:List Pt}{s:List Nat}:tw st o (p++[.drop s])=tw st o p:=by
 unfold tw;rw [ef,List.map_append];simp [told,Pt.told]
theorem tT (p:List Pt) (q:Pt):az (p++[q])=az p+az [q]:=gx p [q]
theorem vt {c o:List Pt}{t u:List Nat}(h:aP c t=true) (h2:aP o u=true):aP (c++o) (t++u)=true∧aC (c++o) (t++u)=aC c t++aC o u:=by
 have hb:(aA (aN c)).length=t.length:=by rw [←tN,gy h]
 refine ⟨?_,?_⟩
 ·rw [fG,dS]
  rw [fG] at h h2
  exact nG h h2
 ·rw [eg,iT,o8,hb,←eg,←eg];simp
theorem nM (u:List Nat):aP [.keep u.length] u=true∧aC [.keep u.length] u=u:=by simp [aP,aC]
theorem EN (i:Int):Ev.b6 70 i=true:=by simp [Ev.b6]
theorem drawn {ns:List Int}(k:Int) (m:Nat) (h:0<m):∃ p:Nat,cE ns k (m:Int)=(p:Int)∧p<m:=by
 have h1:=jg ns k (many:=(m:Int)) (by omega)
 have h2:=jh ns k (many:=(m:Int)) (by omega)
 exact ⟨(cE ns k (m:Int)).toNat,by omega,by omega⟩
theorem Hg (a b:Row):cJ (18+1) (aH a) (aH b)=some (decide (a=b)):=by
 have h:cJ 18 (aU a.2) (aU b.2)=some (decide (a.2=b.2)):=mh (f:=cJ 17) (g:=Pt.v) (zj 15) a.2 b.2
 show cg (cJ 18) [.str a.1,aU a.2] [.str b.1,aU b.2]=_
 rw [ny,ny,pV,h,sI]
 obtain ⟨a1,a2⟩:=a
 obtain ⟨b1,b2⟩:=b
 by_cases e1:a1=b1 <;> by_cases e2:a2=b2 <;> simp [e1,e2]
theorem nR (K:List Row):Pv.cop .ne (.lst (K.map aH)) (.lst (K.map aH))=some false:=by rw [j4,pU,mh Hg];simp
theorem nN:Pv.cop .ne (.lst []) (.lst [])=some false:=by rw [j4,pU,pV];rfl
noncomputable def vv (v:V):Prop:=v=.aY∨∃ s,v=.str s
theorem EO:∀ {l:List V},(∀ v∈l,vv v)→cg (cJ (18+1)) l l=some true
 | [],_=>pV
 | v :: l,h=>by
  rw [ny,EO fun x hx=>h x (.tail _ hx)]
  rcases h v (.head _) with rfl | ⟨s,rfl⟩
  ·rw [KA];rfl
  ·rw [sI];simp
theorem NU {st:List V}(h:∀ v∈st,vv v) (r:Row):∀ v∈iD st r,vv v:=fun v hv=>by
 obtain ⟨q,_,rfl⟩:=List.mem_map.mp hv
 cases q with
 | sg d=>exact .inr ⟨_,rfl⟩
 | «at» i=>
  show vv (st.getD i .aY)
  by_cases hi:i<st.length
  ·rw [List.getD_eq_getElem?_getD,List.getElem?_eq_getElem hi];exact h _ (List.getElem_mem hi)
  ·rw [List.getD_eq_getElem?_getD,List.getElem?_eq_none (by omega)];exact .inl rfl
theorem zX:∀ (rs:List Row) {st:List V},(∀ v∈st,vv v)→∀ v∈ows st rs,vv v
 | [],st,h=>h
 | r :: rs,st,h=>zX rs (st:=iD st r) (NU h r)
theorem vz (o:List Nat):∀ rs:List Row,Pv.mem (.str o) (rs.map fun r=>V.str r.1)=some (decide (∃ r∈rs,r.1=o))
 | []=>by rw [List.map_nil,Pv.Gk];simp
 | r :: rs=>by
  rw [List.map_cons,Pv.mem_cons,vz o rs,pT]
  by_cases h:r.1=o <;> simp [h]
theorem tU:∀ a b:List Row,dM (a.map aH) (b.map aH)=(a.zip b).map fun p=>V.tup [aH p.1,aH p.2]
 | [],_=>by simp [dM]
 | _ :: _,[]=>by simp [dM]
 | x :: a,y :: b=>congrArg (V.tup [aH x,aH y] :: ·) (tU a b)
theorem zR {P:aR}{k:Bool}{a b:Ev.E}{fr af au:Fr}{x y:V}{s t:List V}(h:src (k&&kf a (bE b)) fr a (ev P (k&&kf a (bE b)) a fr)=.ok x af) (h2:src k af b (ev P k b af)=.ok y au) (h3:gW x=some s) (h4:gW y=some t):cy P k (.zip a b) fr=.ok (dM s t) au:=by
 rw [u7,h,ak,h2,ak,h3,h4];rfl
section
variable {w n:Nat}{ns:List Int}
noncomputable def oF (st:List V) (o:List Nat) (c p:List Pt) (g:List V) (x y:Option Sl):Fr:=[some (.val (.lst st)),some (.val (.str o)),some (.val (aU c)),some (.own (tw st o p)),some (.own g),some (.val (.int (az p:Nat))),x,y,none]
theorem CG {st:List V}{o:List Nat}{c:List Pt}{t:List Nat}(h:aP c t=true) (hs:st.length=t.length) (b1:tot c≤900) (b2:t.length≤900) :
  ∃ g:List V,g.length≤tot c∧run prog w (n+6) 15 [.val (.lst st),.val (.str o),.val (aU c)]=some (.tup [.lst (iD st (o,c)),.lst g],[]):=by
 have bc:=gy h
 have key:Wp (exs (run prog w (n+5)) w vn.body (d7 vn [.val (.lst st),.val (.str o),.val (aU c)])) fun r fr=>∃ g:List V,g.length≤tot c∧r=.ret (.tup [.lst (iD st (o,c)),.lst g])∧outs 3 fr=[]:=by
  refine ah (fD (l:=[]) (gO aO fP) rfl rfl ?_)
  refine ah (fD (l:=[]) (gO aO fP) rfl rfl ?_)
  refine ah (aS (aV rfl) rfl rfl ?_)
  refine ah (iw (vs:=c.map Pt.v) (dR (cU rfl) rfl) ?_)
  refine eH (e:=Pt.v) (fun p l fr=>p++l=c∧∃ g x y,g.length≤tot p∧vo x∧vo y∧fr=oF st o c p g x y) (fun p q l fr ⟨hpl,g,x,y,hg,hx,hy,hfr⟩=>?_) (fun p fr ⟨hpl,g,x,y,hg,hx,hy,hfr⟩=>?_) c [] _ ⟨rfl,[],none,none,Nat.zero_le _,.none,.none,rfl⟩
  ·subst hfr
   have dZ:(p++[q])++l=c:=by simpa using hpl
   have e1:az p+(az [q]+az l)=az c:=by rw [←dZ,gx,gx];omega
   have e2:tot p+(q.n+tot l)=tot c:=by rw [←hpl,dI,bU]
   have e3:tot (p++[q])=tot p+q.n:=by rw [dI];simp [tot]
   have lt:(tw st o p).length≤tot p:=by unfold tw;rw [List.length_map];exact GN p 0
   have sz:=fun fr=>di (fr:=fr) (g6 (F:=prog) (i:=0) (w:=w) (n:=n+4) rfl q (by omega))
   refine cO (af:=oF st o c p g (some (.val q.v)) y) (bind1 rfl hx) ?_
   cases q with
   | put s=>
    have bq:az (p++[.put s])=az p:=by rw [tT];simp [az,tot,eE]
    have mk:=cT (x:=s.map fun _=>V.str o) (bN (by simp [Pt.n] at e2 ⊢;omega))
    have cm:cD (jw (run prog w (n+5)) (.v 1) (.one 8) .no (oF st o c p g (some (.val (Pt.put s).v)) y)) (s.map fun d=>V.str [d])=some (s.map fun _=>V.str o):=iC (fun d=>V.str [d]) (fun _=>V.str o) s fun d _=>lO rfl (av rfl)
    refine ah (aF (b:=true) (aD rfl (bD (dc (av rfl) (aV rfl) rfl) (aV rfl) gZ) rfl) (fun _=>?_) fun h=>absurd h (by decide))
    refine ah (d9 (jz rfl rfl (aI (gP (dR (dc (av rfl) (aV rfl) rfl) rfl) rfl cm mk) aO) (iS (by simp [Pt.n] at e2 ⊢;omega))) ?_)
    refine ah ⟨_,_,K5,?_⟩
    show (p++[Pt.put s])++l=c∧∃ g x y,g.length≤tot (p++[Pt.put s])∧vo x∧vo y∧_=oF st o c (p++[Pt.put s]) g x y
    refine ⟨dZ,g,some (.val (Pt.put s).v),y,by omega,.val,hy,?_⟩
    unfold oF;rw [VH,bq];rfl
   | keep k=>
    have bq:az (p++[.keep k])=az p+k:=by rw [tT];simp [az,tot,eE,Pt.n]
    have hk:az p+k≤st.length:=by simp [az,tot,eE,Pt.n] at e1;simp [az,tot,eE,Pt.n] at *;omega
    have sl:eF (.lst st) (some (az p:Int)) (some ((az p+k:Nat):Int))=some (.lst ((st.drop (az p)).take k)):=by
     have e:cut st (some (az p:Int)) (some ((az p+k:Nat):Int))=(st.drop (az p)).take k:=jj st (az p) k
     show dO (cut st _ _)=_
     rw [e];exact cT (bN (by simp;omega))
    refine ah (aF (b:=false) (aD rfl (bD (dc (av rfl) (aV rfl) rfl) (aV rfl) gZ) rfl) (fun h=>absurd h (by decide)) fun _=>ay ?_)
    refine ah (aS (au:=oF st o c p g (some (.val (Pt.keep k).v)) (some (.val (.lst ((st.drop (az p)).take k))))) (nA (av rfl) (gc (av rfl)) (gc (bf (av rfl) (bJ (aJ rfl (av rfl) aX) (sz _)) (vq (az p) k))) sl) rfl (e8 rfl hy) ?_)
    refine ah (aS (bf (av rfl) (bJ (aJ rfl (av rfl) aX) (sz _)) (vq (az p) k)) rfl rfl ?_)
    refine ah (aF (b:=true) (aD rfl (bD (dc (av rfl) (aV rfl) rfl) (aV rfl) gZ) rfl) (fun _=>?_) fun h=>absurd h (by decide))
    refine ah (d9 (jz rfl rfl (aI (av rfl) aO) (iS (by simp;omega))) (ay (ay ?_)))
    rw [cL]
    refine ⟨dZ,g,some (.val (Pt.keep k).v),some (.val (.lst ((st.drop (az p)).take k))),by omega,.val,.val,?_⟩
    unfold oF;rw [VG hk,bq];rfl
   | drop s=>
    have bq:az (p++[.drop s])=az p+s.length:=by rw [tT];simp [az,tot,eE,Pt.n]
    have sl:eF (.lst st) (some (az p:Int)) (some ((az p+s.length:Nat):Int))=some (.lst ((st.drop (az p)).take s.length)):=by
     have e:cut st (some (az p:Int)) (some ((az p+s.length:Nat):Int))=(st.drop (az p)).take s.length:=jj st (az p) s.length
     show dO (cut st _ _)=_
     rw [e];exact cT (bN (by simp;omega))
    have lg:(g++(st.drop (az p)).take s.length).length≤tot (p++[.drop s]):=by rw [e3];simp [Pt.n];omega
    refine ah (aF (b:=false) (aD rfl (bD (dc (av rfl) (aV rfl) rfl) (aV rfl) gZ) rfl) (fun h=>absurd h (by decide)) fun _=>ay ?_)
    refine ah (aS (au:=oF st o c p g (some (.val (Pt.drop s).v)) (some (.val (.lst ((st.drop (az p)).take s.length))))) (nA (av rfl) (gc (av rfl)) (gc (bf (av rfl) (bJ (aJ rfl (av rfl) aX) (sz _)) (vq (az p) s.length))) sl) rfl (e8 rfl hy) ?_)
    refine ah (aS (bf (av rfl) (bJ (aJ rfl (av rfl) aX) (sz _)) (vq (az p) s.length)) rfl rfl ?_)
    refine ah (aF (b:=false) (aD rfl (bD (dc (av rfl) (aV rfl) rfl) (aV rfl) gZ) rfl) (fun h=>absurd h (by decide)) fun _=>?_)
    refine ah (d9 (jz rfl rfl (aI (av rfl) aO) (iS (by simp;omega))) (ay (ay ?_)))
    rw [cL]
    refine ⟨dZ,_,some (.val (Pt.drop s).v),some (.val (.lst ((st.drop (az p)).take s.length))),lg,.val,.val,?_⟩
    unfold oF;rw [VI,bq];rfl
  ·subst hfr
   rw [List.append_nil] at hpl
   subst hpl
   have sh:ez (oF st o p p g x y)=[some (.val (.lst st)),some (.val (.str o)),some (.val (aU p)),some (.val (.lst (tw st o p))),some (.val (.lst g)),some (.val (.int (az p:Nat))),x,y,none]:=by
    show [_,_,_,_,_,_,x.map Sl.cZ,y.map Sl.cZ,_]=_
    rw [bX hx,bX hy];rfl
   refine ah (bI (af:=[some (.val (.lst st)),some (.val (.str o)),some (.val (aU p)),some (.val (.lst (tw st o p))),some (.val (.lst g)),some (.val (.int (az p:Nat))),x,y,none]) (v:=.tup [.lst (iD st (o,p)),.lst g]) ?_ ⟨g,hg,rfl,rfl⟩)
   rw [sh]
   exact eB (aI (av rfl) (aI (av rfl) aO)) iN
 obtain ⟨r,fr,e,g,hg,hr,ho⟩:=key
 exact ⟨g,hg,bT (fn:=vn) rfl rfl ⟨r,fr,e,hr,ho⟩⟩
theorem ER:∀ (rs:List (List Pt)) (t:List Nat),(b8 t rs).length≤t.length+cz rs
 | [],t=>by simp [b8,cz]
 | c :: rs,t=>by
  have h1:=jk c t
  have h2:=ER rs (aC c t)
  have h3:cz (c :: rs)=tot c+cz rs:=by simp [cz]
  have h4:b8 t (c :: rs)=b8 (aC c t) rs:=rfl
  rw [h3,h4];omega
structure Rw (t:List Nat) (rs:List Row):Prop where
 ch:Ch t (aZ rs)
 ln:∀ r∈rs,r.2.length≤900
 tt:t.length+cz (aZ rs)≤900
theorem Rw.at {t:List Nat}{rs p l:List Row}{r:Row}(h:Rw t rs) (e:p++r :: l=rs):aP r.2 (b8 t (aZ p))=true∧r.2.length≤900∧tot r.2≤900∧(b8 t (aZ p)).length≤900∧cz (aZ p)+tot r.2≤900:=by
 have h1:=h.ch
 have h2:=h.tt
 have h3:=ER (aZ p) t
 rw [←e,ig] at h1 h2
 have h4:cz (aZ p++aZ (r :: l))=cz (aZ p)+(tot r.2+cz (aZ l)):=by simp [cz,aZ]
 rw [h4] at h2
 exact ⟨((jm.mp h1).2).1,h.ln r (by rw [←e];simp),by omega,by omega,by omega⟩
theorem kJ {t:List Nat}{rs:List Row}(R:Rw t rs):run prog w (n+8) 23 [.val (.str t),.val (.lst (rs.map aH))]=some (.str (b8 t (aZ rs)),[]):=by
 refine bT (fn:=DQ) rfl rfl ?_
 refine ah (iw (vs:=rs.map aH) (dR (cU rfl) rfl) ?_)
 refine eH (e:=aH) (fun p l fr=>p++l=rs∧∃ x y,vo x∧vo y∧fr=[some (.val (.str (b8 t (aZ p)))),some (.val (.lst (rs.map aH))),x,y]) (fun p r l fr ⟨hpl,x,y,hx,hy,hfr⟩=>?_) (fun p fr ⟨hpl,x,y,hx,hy,hfr⟩=>?_) rs [] _ ⟨rfl,none,none,.none,.none,rfl⟩
 ·subst hfr
  obtain ⟨h1,h2,h3,h4,_⟩:=R.at hpl
  have D:=fun fr=>call2 (fr:=fr) (tD (F:=prog) (aL:=0) (oX:=6) (i:=7) (w:=w) (n:=n+4) rfl rfl rfl r.2 (b8 t (aZ p)) (by omega) (by omega) (by omega) h1)
  refine cO (gk rfl hx rfl hy) (ah (aS (bJ (aJ rfl (av rfl) (aJ rfl (av rfl) aX)) (D _)) rfl rfl (ay ?_)))
  rw [cL]
  exact ⟨by simpa using hpl,_,_,.val,.val,by rw [eY];rfl⟩
 ·subst hfr
  rw [List.append_nil] at hpl
  subst hpl
  refine ah (bI (af:=[some (.val (.str (b8 t (aZ p)))),some (.val (.lst (p.map aH))),x,y]) ?_ ⟨rfl,rfl⟩)
  have sh:ez [some (.val (.str (b8 t (aZ p)))),some (.val (.lst (p.map aH))),x,y]=[some (.val (.str (b8 t (aZ p)))),some (.val (.lst (p.map aH))),x,y]:=by
   show [_,_,x.map Sl.cZ,y.map Sl.cZ]=_
   rw [bX hx,bX hy];rfl
  rw [sh]
  exact av rfl
noncomputable def fZ (t:List Nat):List V:=t.map fun _=>V.aY
theorem xK {t:List Nat}{rs:List Row}(R:Rw t rs):∃ g:List V,run prog w (n+7) 14 [.val (.str t),.val (.lst (rs.map aH))]=some (.tup [.lst (ows (fZ t) rs),.lst g],[]):=by
 have bt:=R.tt
 have key:Wp (exs (run prog w (n+6)) w vm.body (d7 vm [.val (.str t),.val (.lst (rs.map aH))])) fun r fr=>∃ g:List V,r=.ret (.tup [.lst (ows (fZ t) rs),.lst g])∧outs 2 fr=[]:=by
  have mk:=cT (x:=fZ t) (bN (by simp [fZ];omega))
  refine ah (aS (av rfl) rfl rfl ?_)
  refine ah (aS (gP (dR (cU rfl) rfl) rfl (iC (fun d=>V.str [d]) (fun _=>V.aY) t fun d _=>lO rfl (aV rfl)) mk) rfl rfl ?_)
  refine ah (fD (l:=[]) (gO aO fP) rfl rfl ?_)
  refine ah (iw (vs:=rs.map aH) (dR (cU rfl) rfl) ?_)
  refine eH (e:=aH) (fun p l fr=>p++l=rs∧∃ g x y z,g.length≤cz (aZ p)∧vo x∧vo y∧vo z∧fr=[some (.val (.str t)),some (.val (.lst (rs.map aH))),some (.val (.str (b8 t (aZ p)))),some (.val (.lst (ows (fZ t) p))),some (.own g),x,y,z,none]) (fun p r l fr ⟨hpl,g,x,y,z,hg,hx,hy,hz,hfr⟩=>?_) (fun p fr ⟨hpl,g,x,y,z,hg,hx,hy,hz,hfr⟩=>?_) rs [] _ ⟨rfl,[],none,none,none,Nat.zero_le _,.none,.none,.none,rfl⟩
  ·subst hfr
   obtain ⟨h1,h2,h3,h4,h5⟩:=R.at hpl
   have D:=fun fr=>call2 (fr:=fr) (tD (F:=prog) (aL:=0) (oX:=6) (i:=7) (w:=w) (n:=n+3) rfl rfl rfl r.2 (b8 t (aZ p)) (by omega) (by omega) (by omega) h1)
   have hp:Ch t (aZ p):=by have:=R.ch;rw [←hpl,ig] at this;exact (jm.mp this).1
   obtain ⟨g2,X8,ro⟩:=CG (w:=w) (n:=n) (st:=ows (fZ t) p) (o:=r.1) h1 (qc (by simp [fZ]) hp) (by omega) h4
   have ro:=fun fr=>eW (fr:=fr) ro
   refine cO (gk rfl hx rfl hy) (ah (aS (bJ (aJ rfl (av rfl) (aJ rfl (av rfl) aX)) (D _)) rfl rfl ?_))
   refine ah (aS (bJ (aJ rfl (av rfl) (aJ rfl (av rfl) (aJ rfl (av rfl) aX))) (ro _)) rfl (e8 rfl hz) ?_)
   refine ah (aS (dc (av rfl) (aV rfl) rfl) rfl rfl ?_)
   refine ah (d9 (jz rfl rfl (aI (dc (av rfl) (aV rfl) rfl) aO) (iS (by omega))) (ay ?_))
   rw [cL]
   exact ⟨by simpa using hpl,g++g2,_,_,_,by rw [gA,List.length_append];omega,.val,.val,.val,by rw [eY,jn];rfl⟩
  ·subst hfr
   rw [List.append_nil] at hpl
   subst hpl
   refine ah (bI (af:=[some (.val (.str t)),some (.val (.lst (p.map aH))),some (.val (.str (b8 t (aZ p)))),some (.val (.lst (ows (fZ t) p))),some (.val (.lst g)),x,y,z,none]) (v:=.tup [.lst (ows (fZ t) p),.lst g]) ?_ ⟨g,rfl,rfl⟩)
   have sh:ez [some (.val (.str t)),some (.val (.lst (p.map aH))),some (.val (.str (b8 t (aZ p)))),some (.val (.lst (ows (fZ t) p))),some (.own g),x,y,z,none]=[some (.val (.str t)),some (.val (.lst (p.map aH))),some (.val (.str (b8 t (aZ p)))),some (.val (.lst (ows (fZ t) p))),some (.val (.lst g)),x,y,z,none]:=by
    show [_,_,_,_,_,x.map Sl.cZ,y.map Sl.cZ,z.map Sl.cZ,_]=_
    rw [bX hx,bX hy,bX hz];rfl
   rw [sh]
   exact eB (aI (av rfl) (aI (av rfl) aO)) iN
 obtain ⟨r,fr,e,g,hr,ho⟩:=key
 exact ⟨g,bT (fn:=vm) rfl rfl ⟨r,fr,e,hr,ho⟩⟩
theorem pe {t:List Nat}{rs:List Row}(R:Rw t rs):run prog w (n+8) 13 [.val (.str t),.val (.lst (rs.map aH))]=some (.lst (ows (fZ t) rs),[]):=by
 obtain ⟨g,h⟩:=xK (w:=w) (n:=n) R
 exact bT (fn:=DK) rfl rfl (ah (bI (dc (bJ (aJ rfl (av rfl) (aJ rfl (av rfl) aX)) (call2 h)) (aV rfl) rfl) ⟨rfl,rfl⟩))
noncomputable def sF (rs K:List Row) (x y z:Option Sl):Fr:=[some (.val (.lst (rs.map aH))),some (.own (K.map aH)),x,y,z]
theorem tV {rs K:List Row}{r:Row}{X:List Pt}{Q:Fl→Fr→Prop}(hK:K.length≤900) (b1:tot X≤900) (b2:X.length≤900) (q:Q .nx (sF rs (iJ K r X) (some (.val (.str r.1))) (some (.val (aU r.2))) (some (.val (aU X))))) :
  Wp (exs (run prog w (n+7)) w (.cons (.iff (.cmp .gt (.cl 3 (.cons (.v 4) .nil)) (.c (.int 0))) (.cons (.exp (.me .append (.v 1) (.cons (.tup (.cons (.v 2) (.cons (.v 4) .nil))) .nil))) .nil) .nil) .nil) (sF rs K (some (.val (.str r.1))) (some (.val (aU r.2))) (some (.val (aU X))))) Q:=by
 have k:=fun fr=>di (fr:=fr) (sP (F:=prog) (aL:=0) (i:=3) (w:=w) (n:=n+5) rfl rfl X (by omega) (by omega))
 by_cases h:cst X=0
 ·rw [iJ,if_pos h] at q
  exact ah (aF (b:=false) (aD rfl (bD (bJ (aJ rfl (av rfl) aX) (k _)) (aV rfl) nC) (by simp [truthy,h])) (fun h=>absurd h (by decide)) fun _=>ay (ay q))
 ·rw [iJ,if_neg h] at q
  refine ah (aF (b:=true) (aD rfl (bD (bJ (aJ rfl (av rfl) aX) (k _)) (aV rfl) nC) (by simp [truthy];omega)) (fun _=>?_) fun h=>absurd h (by decide))
  refine ah (d9 (jz rfl rfl (aI (eB (aI (av rfl) (aI (av rfl) aO)) iN) aO) (j5 (by simp;omega))) (ay (ay ?_)))
  unfold sF at q ⊢
  rw [List.map_append] at q
  exact q
theorem q8 {K:List Row}{q:Row}(h:q∈K):tot q.2≤cz (aZ K):=by
 induction K with
 | nil=>cases h
 | cons a K ih=>
  have e:cz (aZ (a :: K))=tot a.2+cz (aZ K):=by simp [cz,aZ]
  rw [e]
  rcases List.mem_cons.mp h with rfl | h
  ·omega
  ·have:=ih h;omega
theorem f_len {c:List Pt}(h:aT c=c):c.length≤tot c:=by rw [←h];exact g9 (iW (g7 _))
theorem fL (hw:5000<w) {t:List Nat}{rs:List Row}(R:Rw t rs) (hl:rs.length≤100):run prog w (n+8) 12 [.val (.lst (rs.map aH))]=some (.lst ((b9 t rs).map aH),[])∧Nm t rs (b9 t rs):=by
 have key:Wp (exs (run prog w (n+7)) w vj.body (d7 vj [.val (.lst (rs.map aH))])) fun r fr=>Nm t rs (b9 t rs)∧r=.ret (.lst ((b9 t rs).map aH))∧outs 1 fr=[]:=by
  refine ah (fD (l:=[]) (gO aO fP) rfl rfl ?_)
  refine ah (iw (vs:=rs.map aH) (dR (cU rfl) rfl) ?_)
  refine eH (e:=aH) (fun p l fr=>p++l=rs∧Nm t p (b9 t p)∧∃ x y z,vo x∧vo y∧vo z∧fr=sF rs (b9 t p) x y z) (fun p r l fr ⟨hpl,N,x,y,z,hx,hy,hz,hfr⟩=>?_) (fun p fr ⟨hpl,N,x,y,z,hx,hy,hz,hfr⟩=>?_) rs [] _ ⟨rfl,Nm.nil t,none,none,none,.none,.none,.none,rfl⟩
  ·subst hfr
   obtain ⟨h1,h2,h3,h4,h5⟩:=R.at hpl
   have es:b9 t (p++[r])=stp t (b9 t p) r:=by rw [mG];rfl
   have kl:=N.ln
   have pl:p.length≤100:=by rw [←hpl] at hl;simp at hl;omega
   have Yb:=N.tt
   have T:∀ K' a,b9 t p=K'++[(r.1,a)]→∃ X,run prog w (n+7) 8 [.val (aU a),.val (aU r.2)]=some (aU X,[])∧Tn a r.2 X (b8 t (aZ K')):=fun K' a e=>by
    have m:(r.1,a)∈b9 t p:=by rw [e];simp
    have b1:=q8 m
    have b2:=f_len (N.fm _ m).1
    have c1:=N.ch
    have c2:=N.tx
    rw [e] at c1 c2
    rw [eY] at c2
    exact Cf (F:=prog) (aL:=0) (cV:=11) (bR:=10) (cX:=9) (bP:=5) (cK:=4) (cR:=1) (dJ:=2) (i:=8) (w:=w) (n:=n+4) rfl rfl rfl rfl rfl rfl rfl rfl rfl hw a r.2 (b8 t (aZ K')) (mH.mp c1).2 (by rw [c2];exact h1) (by simp only at b1;omega) (by omega) (by simp only at b1 b2;omega) (by omega)
   have N2:Nm t (p++[r]) (b9 t (p++[r])):=by
    rw [es]
    exact N.step h1 fun K' a e=>by obtain ⟨X,_,hX⟩:=T K' a e;exact ⟨X,hX⟩
   have f:=fun fr=>di (fr:=fr) (ji (F:=prog) (bP:=5) (i:=4) (w:=w) (n:=n+5) rfl rfl r.2 (by omega) (by omega))
   have ft:tot (aT r.2)=tot r.2:=gn _
   have Yc:=f_len (jE r.2)
   refine cO (af:=sF rs (b9 t p) (some (.val (.str r.1))) (some (.val (aU r.2))) z) (gk rfl hx rfl hy) ?_
   refine ah (aS (au:=sF rs (b9 t p) (some (.val (.str r.1))) (some (.val (aU r.2))) (some (.val (aU (aT r.2))))) (bJ (aJ rfl (av rfl) aX) (f _)) rfl (e8 rfl hz) ?_)
   have fin:∀ X,iJ (b9 t p) r X=b9 t (p++[r])→(p++[r])++l=rs∧Nm t (p++[r]) (b9 t (p++[r]))∧∃ x y z,vo x∧vo y∧vo z∧sF rs (iJ (b9 t p) r X) (some (.val (.str r.1))) (some (.val (aU r.2))) (some (.val (aU X)))=sF rs (b9 t (p++[r])) x y z:=fun X e=>⟨by simpa using hpl,N2,_,_,_,.val,.val,.val,by rw [e]⟩
   rcases List.eq_nil_or_concat (b9 t p) with e0 | ⟨K',q,e0⟩
   ·have e1:stp t (b9 t p) r=iJ (b9 t p) r (aT r.2):=jI fun K2 q2 e2=>by rw [e0] at e2;simp at e2
    refine ah (aF (b:=false) (oR (aD rfl (av rfl) (by rw [e0];rfl))) (fun h=>absurd h (by decide)) fun _=>ay ?_)
    refine tV (by omega) (by omega) (by omega) ?_
    rw [cL]
    exact fin _ (by rw [es,e1])
   ·rw [List.concat_eq_append] at e0
    have il:eZ (.lst ((b9 t p).map aH)) (.int (-1))=some (aH q):=by
     show bK ((b9 t p).map aH) (-1)=_
     rw [e0,zf,List.map_append];simp
    have tr:truthy (.lst ((b9 t p).map aH))=true:=by rw [e0];show (!((K'++[q]).map aH).isEmpty)=true;simp
    by_cases ho:q.1=r.1
    ·obtain ⟨X,rX,TX⟩:=T K' q.2 (by rw [e0,←ho])
     have rX:=fun fr=>call2 (fr:=fr) rX
     have e1:stp t (b9 t p) r=iJ K' r X:=by
      rw [e0,show q=(r.1,q.2) by rw [←ho]]
      exact tP (o:=r.1) (c:=r.2) TX
     have tX:=TX.tt
     have lX:=TX.ln
     have mq:=q8 (K:=b9 t p) (q:=q) (by rw [e0];simp)
     refine ah (aF (b:=true) (gf (aD rfl (av rfl) tr) (aD rfl (bD (dc (dc (av rfl) (wK (aV rfl)) il) (aV rfl) rfl) (av rfl) gZ) (by simp [truthy,ho]))) (fun _=>?_) fun h=>absurd h (by decide))
     have po:gb .pop 1 [] (sF rs (b9 t p) (some (.val (.str r.1))) (some (.val (aU r.2))) (some (.val (aU (aT r.2))))) (some (some (.own ((b9 t p).map aH))))=.ok (aH q) (sF rs K' (some (.val (.str r.1))) (some (.val (aU r.2))) (some (.val (aU (aT r.2))))):=by
      rw [e0,List.map_append];exact pX
     refine ah (aS (bJ (aJ rfl (dc (jz rfl rfl aO po) (aV rfl) rfl) (aJ rfl (av rfl) aX)) (rX _)) rfl rfl (ay ?_))
     refine tV (by have:=congrArg List.length e0;simp at this;omega) (by omega) (by omega) ?_
     rw [cL]
     exact ⟨by simpa using hpl,N2,_,_,_,.val,.val,.val,by rw [es,e1]⟩
    ·have e1:stp t (b9 t p) r=iJ (b9 t p) r (aT r.2):=jI fun K2 q2 e2=>by
      rw [e0] at e2
      obtain ⟨_,e3⟩:=List.append_inj' e2 rfl
      cases e3;exact ho
     refine ah (aF (b:=false) (gf (aD rfl (av rfl) tr) (aD rfl (bD (dc (dc (av rfl) (wK (aV rfl)) il) (aV rfl) rfl) (av rfl) gZ) (by simp [truthy,ho]))) (fun h=>absurd h (by decide)) fun _=>ay ?_)
     refine tV (by omega) (by omega) (by omega) ?_
     rw [cL]
     exact fin _ (by rw [es,e1])
  ·subst hfr
   rw [List.append_nil] at hpl
   subst hpl
   refine ah (bI (af:=[some (.val (.lst (p.map aH))),some (.val (.lst ((b9 t p).map aH))),x,y,z]) ?_ ⟨N,rfl,rfl⟩)
   have sh:ez (sF p (b9 t p) x y z)=[some (.val (.lst (p.map aH))),some (.val (.lst ((b9 t p).map aH))),x,y,z]:=by
    show [_,_,x.map Sl.cZ,y.map Sl.cZ,z.map Sl.cZ]=_
    rw [bX hx,bX hy,bX hz];rfl
   rw [sh]
   exact av rfl
 obtain ⟨r,fr,e,N,hr,ho⟩:=key
 exact ⟨bT (fn:=vj) rfl rfl ⟨r,fr,e,hr,ho⟩,N⟩
variable (hn:ns.length≤63)
include hn
theorem zY (a:Int) (t:List Nat) (ht:t.length≤400):∃ c,run prog w (n+7) 21 [.val (fk ns),.val (.int a),.val (.str t)]=some (aU c,[])∧aP c t=true∧c.length≤14∧tot c≤t.length+21∧((aC c t).length≤t.length+12∨(aC c t).length≤27):=by
 have dr:=fun (k:Int) (m:Nat) (hm:0<m) fr=>eW (fr:=fr) (ee (F:=prog) (c:=16) (dr:=17) (w:=w) (n:=n+4) rfl rfl hn k (many:=(m:Int)) (by omega))
 have ch:=fun (x:List Nat) (hx:x.length≤400) fr=>eW (fr:=fr) (wR (F:=prog) (c:=16) (dr:=17) (t:=19) (w:=w) (n:=n+3) rfl rfl hn rfl a x (by omega))
 have ln:cY .len [.str t]=some (.int (t.length:Nat)):=len_str (by omega)
 have d5:=dr (a+60) 5 (by decide)
 by_cases h5:cE ns (a+60) 5=0
 ·by_cases he:t=[]
  ·subst he
   refine ⟨[],bT (fn:=o9) rfl rfl (ah (aF (b:=true) (aD rfl (bD (bJ (aJ rfl (av rfl) (aJ rfl (bf (av rfl) (aV rfl) cj) (aJ rfl (aV rfl) aX))) (d5 _)) (aV rfl) nB) (by show decide _=_;exact decide_eq_true h5)) (fun _=>?_) fun h=>absurd h (by decide))),rfl,by simp,by simp [tot],.inl (by simp [aC])⟩
   exact ah (bI (jy (b:=false) (aD rfl (bD (av rfl) (aV rfl) gj) rfl) (fun h=>absurd h (by decide)) fun _=>eB aO wC) ⟨rfl,rfl⟩)
  ·have k:=nM t
   refine ⟨[.keep t.length],bT (fn:=o9) rfl rfl (ah (aF (b:=true) (aD rfl (bD (bJ (aJ rfl (av rfl) (aJ rfl (bf (av rfl) (aV rfl) cj) (aJ rfl (aV rfl) aX))) (d5 _)) (aV rfl) nB) (by show decide _=_;exact decide_eq_true h5)) (fun _=>?_) fun h=>absurd h (by decide))),k.1,by simp,by simp [tot,Pt.n],.inl (by rw [k.2];omega)⟩
   exact ah (bI (jy (b:=true) (aD rfl (bD (av rfl) (aV rfl) gj) (by show (!decide (t=[]))=true;simp [he])) (fun _=>eB (aI (eB (aI (aV rfl) (aI (fW (aI (av rfl) aO) ln) aO)) iN) aO) lZ) fun h=>absurd h (by decide)) ⟨rfl,rfl⟩)
 ·have first:∀ {Q:Fl→Fr→Prop},Wp (exs (run prog w (n+6)) w (.cons xw (.cons xx (.cons xy (.cons xA (.cons xB .nil))))) [some (.val (fk ns)),some (.val (.int a)),some (.val (.str t)),none,none,none]) Q→Wp (exs (run prog w (n+6)) w o9.body (d7 o9 [.val (fk ns),.val (.int a),.val (.str t)])) Q:=fun q=>
   ah (aF (b:=false) (aD rfl (bD (bJ (aJ rfl (av rfl) (aJ rfl (bf (av rfl) (aV rfl) cj) (aJ rfl (aV rfl) aX))) (d5 _)) (aV rfl) nB) (by show decide _=_;exact decide_eq_false h5)) (fun h=>absurd h (by decide)) fun _=>ay q)
  by_cases h7:t.length<7
  ·obtain ⟨lc,tc⟩:=EM ns a t 6 (by omega)
   have dl:=jk (chg ns a t) t
   refine ⟨chg ns a t,bT (fn:=o9) rfl rfl (first (ah (aF (b:=true) (aD rfl (bD (fW (aI (av rfl) aO) ln) (aV rfl) wO) (by show decide _=_;exact decide_eq_true (by omega))) (fun _=>?_) fun h=>absurd h (by decide)))),ve ns a t,by omega,by omega,.inr (by omega)⟩
   exact ah (bI (bJ (aJ rfl (av rfl) (aJ rfl (av rfl) (aJ rfl (av rfl) aX))) (ch t (by omega) _)) ⟨rfl,rfl⟩)
  ·obtain ⟨P,eP,hP⟩:=drawn (ns:=ns) (a+61) (t.length - 3) (by omega)
   have dP:=dr (a+61) (t.length - 3) (by omega)
   rw [eP] at dP
   have ml:((t.drop P).take 3).length=3:=by simp;omega
   obtain ⟨lc,tc⟩:=EM ns a ((t.drop P).take 3) 3 (by omega)
   have fm:=ve ns a ((t.drop P).take 3)
   have dm:=jk (chg ns a ((t.drop P).take 3)) ((t.drop P).take 3)
   have cm:=ch ((t.drop P).take 3) (by omega)
   generalize chg ns a ((t.drop P).take 3)=m at lc tc fm dm cm
   have hx:∃ H:List Pt,H.length≤1∧tot H=P∧aP H (t.take P)=true∧aC H (t.take P)=t.take P∧∀ fr:Fr,lE true fr 3=some (.int (P:Int))→lE false fr 3=some (.int (P:Int))→ev (run prog w (n+6)) false (.gT (.cmp .gt (.v 3) (.c (.int 0))) (.tup (.cons (.tup (.cons (.c (.str [107,101,101,112])) (.cons (.v 3) .nil))) .nil)) (.tup .nil)) fr=.ok (aU H) fr:=by
    cases P with
    | zero=>exact ⟨[],by simp,by simp [tot],by simp [aP],by simp [aC],fun fr h h'=>jy (b:=false) (aD rfl (bD (av h) (aV rfl) nC) rfl) (fun h=>absurd h (by decide)) fun _=>eB aO wC⟩
    | succ P=>
     have k:=nM (t.take (P+1))
     rw [show (t.take (P+1)).length=P+1 by simp;omega] at k
     exact ⟨[.keep (P+1)],by simp,by simp [tot,Pt.n],k.1,k.2,fun fr h h'=>jy (b:=true) (aD rfl (bD (av h) (aV rfl) nC) (by show decide _=_;exact decide_eq_true (by omega))) (fun _=>eB (aI (eB (aI (aV rfl) (aI (av h') aO)) iN) aO) lZ) fun h=>absurd h (by decide)⟩
   obtain ⟨H,lH,tH,fH,dH,rH⟩:=hx
   have kr:=nM (t.drop (P+3))
   rw [show (t.drop (P+3)).length=t.length - P - 3 by simp;omega] at kr
   have A1:=vt fH fm
   have A2:=vt A1.1 kr.1
   have et:t.take P++(t.drop P).take 3++t.drop (P+3)=t:=by rw [List.append_assoc,←List.drop_drop,List.take_append_drop,List.take_append_drop]
   rw [et] at A2
   have s1:=NT (a:=t.length) (b:=3) (by omega)
   have s2:=NT (a:=t.length) (b:=P) (by omega)
   have s3:=NT (a:=t.length - P) (b:=3) (by omega)
   have sl:eF (.str t) (some (P:Int)) (some ((P+3:Nat):Int))=some (.str ((t.drop P).take 3)):=by
    rw [fQ];exact congrArg (fun z=>some (V.str z)) (jj t P 3)
   have a1:Pv.bH .add (aU H) (aU m)=some (aU (H++m)):=by
    show Pv.bH .add (.tup (H.map Pt.v)) (.tup (m.map Pt.v))=_
    rw [nu (by simp;omega),←List.map_append];rfl
   have a2:Pv.bH .add (aU (H++m)) (.tup [.tup [.str [107,101,101,112],.int ((t.length - P - 3:Nat):Int)]])=some (aU (H++m++[.keep (t.length - P - 3)])):=by
    show Pv.bH .add (.tup ((H++m).map Pt.v)) (.tup [_])=_
    rw [nu (by simp;omega)]
    show _=some (V.tup (((H++m)++[Pt.keep (t.length - P - 3)]).map Pt.v))
    rw [List.map_append (l₂:=[Pt.keep (t.length - P - 3)])];rfl
   refine ⟨H++m++[.keep (t.length - P - 3)],bT (fn:=o9) rfl rfl (first ?_),A2.1,by simp;omega,by rw [dI,dI];simp [tot,Pt.n] at tH tc ⊢;omega,.inl (by rw [A2.2,A1.2,dH,kr.2];simp;omega)⟩
   refine ah (aF (b:=false) (aD rfl (bD (fW (aI (av rfl) aO) ln) (aV rfl) wO) (by show decide _=_;exact decide_eq_false (by omega))) (fun h=>absurd h (by decide)) fun _=>ay ?_)
   refine ah (aS (bJ (aJ rfl (av rfl) (aJ rfl (bf (av rfl) (aV rfl) cj) (aJ rfl (bf (fW (aI (av rfl) aO) ln) (aV rfl) s1) aX))) (dP _)) rfl rfl ?_)
   refine ah (aS (rH _ rfl rfl) rfl rfl ?_)
   refine ah (aS (bf (bf (fW (aI (av rfl) aO) ln) (av rfl) s2) (aV rfl) s3) rfl rfl ?_)
   exact ah (bI (bf (bf (av rfl) (bJ (aJ rfl (av rfl) (aJ rfl (av rfl) (aJ rfl (nA (av rfl) (gc (av rfl)) (gc (bf (av rfl) (aV rfl) (vq P 3))) sl) aX))) (cm _)) a1) (jy (b:=true) (aD rfl (bD (av rfl) (aV rfl) nC) (by show decide _=_;exact decide_eq_true (by omega))) (fun _=>eB (aI (eB (aI (aV rfl) (aI (av rfl) aO)) iN) aO) lZ) fun h=>absurd h (by decide)) a2) ⟨rfl,rfl⟩)
theorem CH {t:List Nat}(ht:t.length≤6):∃ rs,run prog w (n+8) 22 [.val (fk ns),.val (.int 20),.val (.str t),.val (.int 6)]=some (.lst (rs.map aH),[])∧Rw t rs∧rs.length≤6:=by
 have dr:=fun (k:Int) (m:Nat) (hm:0<m) fr=>eW (fr:=fr) (ee (F:=prog) (c:=16) (dr:=17) (w:=w) (n:=n+5) rfl rfl hn k (many:=(m:Int)) (by omega))
 obtain ⟨N,eN,hN⟩:=drawn (ns:=ns) 20 7 (by decide)
 have d0:=dr 20 7 (by decide)
 rw [eN] at d0
 have key:Wp (exs (run prog w (n+7)) w vp.body (d7 vp [.val (fk ns),.val (.int 20),.val (.str t),.val (.int 6)])) fun r fr=>∃ rs,(Rw t rs∧rs.length≤6)∧r=.ret (.lst (rs.map aH))∧outs 4 fr=[]:=by
  refine ah (fD (l:=[]) (gO aO fP) rfl rfl ?_)
  refine ah (iw (vs:=range 0 N) (sO (aI (bJ (aJ rfl (av rfl) (aJ rfl (av rfl) (aJ rfl (bf (av rfl) (aV rfl) cj) aX))) (d0 _)) aO) (Li (by omega) rfl)) ?_)
  refine u5 (lo:=0) (N:=N) (fun k fr=>∃ rs x y z,rs.length=k∧Ch t (aZ rs)∧(∀ r∈rs,r.2.length≤900)∧(b8 t (aZ rs)).length≤27+12*k∧cz (aZ rs)≤140*k∧vo x∧vo y∧vo z∧fr=[some (.val (fk ns)),some (.val (.int 20)),some (.val (.str (b8 t (aZ rs)))),some (.val (.int 6)),some (.own (rs.map aH)),x,y,z]) (fun k fr hk ⟨rs,x,y,z,h1,h2,h3,h4,h5,hx,hy,hz,hfr⟩=>?_) (fun fr ⟨rs,x,y,z,h1,h2,h3,h4,h5,hx,hy,hz,hfr⟩=>?_) ⟨[],none,none,none,rfl,trivial,(fun r hr=>(List.not_mem_nil hr).elim),(by show t.length≤_;omega),(by simp [cz,aZ]),.none,.none,.none,rfl⟩
  ·subst hfr
   have d1:=dr (20+1+70*((0:Int)+(k:Nat))) 4 (by decide)
   obtain ⟨d,ed,hd⟩:=drawn (ns:=ns) (20+1+70*((0:Int)+(k:Nat))) 4 (by decide)
   rw [ed] at d1
   obtain ⟨o,ho⟩:∃ o:List Nat,eZ (.lst [.str [97,110,110],.str [98,111],.str [97,110,110],.str [99]]) (.int (d:Int))=some (.str o):=by
    match d,hd with
    | 0,_=>exact ⟨_,rfl⟩
    | 1,_=>exact ⟨_,rfl⟩
    | 2,_=>exact ⟨_,rfl⟩
    | 3,_=>exact ⟨_,rfl⟩
   obtain ⟨c,rc,f1,f2,f3,f4⟩:=zY (w:=w) (n:=n) hn (20+2+70*((0:Int)+(k:Nat))) (b8 t (aZ rs)) (by omega)
   have rc:=fun fr=>eW (fr:=fr) rc
   have rm:=fun fr=>call2 (fr:=fr) (Cg (F:=prog) (i:=20) (w:=w) (n:=n+6) rfl c (b8 t (aZ rs)) (by omega) (by omega) f1)
   refine cO (bind1 rfl hx) (ah (aS (dc (gO (aI (aV rfl) (aI (aV rfl) (aI (aV rfl) (aI (aV rfl) aO)))) (cT (bN (by simp)))) (bJ (aJ rfl (av rfl) (aJ rfl (bf (bf (av rfl) (aV rfl) cj) (bf (aV rfl) (av rfl) (jA (EN _))) cj) (aJ rfl (aV rfl) aX))) (d1 _)) ho) rfl (e8 rfl hy) ?_))
   refine ah (aS (bJ (aJ rfl (av rfl) (aJ rfl (bf (bf (av rfl) (aV rfl) cj) (bf (aV rfl) (av rfl) (jA (EN _))) cj) (aJ rfl (av rfl) aX))) (rc _)) rfl (e8 rfl hz) ?_)
   refine ah (aS (bJ (aJ rfl (av rfl) (aJ rfl (av rfl) aX)) (rm _)) rfl rfl ?_)
   refine ah (d9 (jz rfl rfl (aI (eB (aI (av rfl) (aI (av rfl) aO)) iN) aO) (j5 (by simp;omega))) (ay ?_))
   rw [cL]
   refine ⟨rs++[(o,c)],_,_,_,by simp [h1],mH.mpr ⟨h2,f1⟩,fun r hr=>?_,?_,?_,.val,.val,.val,by rw [eY,List.map_append];rfl⟩
   ·rcases List.mem_append.mp hr with hr | hr
    ·exact h3 r hr
    ·rw [List.mem_singleton] at hr;subst hr;simp only;omega
   ·rw [eY];simp only;omega
   ·rw [gA];simp only;omega
  ·subst hfr
   refine ah (bI (af:=[some (.val (fk ns)),some (.val (.int 20)),some (.val (.str (b8 t (aZ rs)))),some (.val (.int 6)),some (.val (.lst (rs.map aH))),x,y,z]) ?_ ⟨rs,⟨⟨h2,h3,by omega⟩,by omega⟩,rfl,rfl⟩)
   have sh:ez [some (.val (fk ns)),some (.val (.int 20)),some (.val (.str (b8 t (aZ rs)))),some (.val (.int 6)),some (.own (rs.map aH)),x,y,z]=[some (.val (fk ns)),some (.val (.int 20)),some (.val (.str (b8 t (aZ rs)))),some (.val (.int 6)),some (.val (.lst (rs.map aH))),x,y,z]:=by
    show [_,_,_,_,_,x.map Sl.cZ,y.map Sl.cZ,z.map Sl.cZ]=_
    rw [bX hx,bX hy,bX hz];rfl
   rw [sh]
   exact av rfl
 obtain ⟨r,fr,e,rs,h,hr,ho⟩:=key
 exact ⟨rs,bT (fn:=vp) rfl rfl ⟨r,fr,e,hr,ho⟩,h⟩
omit hn in
theorem Nm.rw {t:List Nat}{rs K:List Row}(N:Nm t rs K) (R:Rw t rs):Rw t K:=⟨N.ch,fun q hq=>by
 have h1:=q8 hq
 have h2:=f_len (N.fm q hq).1
 have h3:=N.tt
 have h4:=R.tt
 omega,by have h3:=N.tt;have h4:=R.tt;omega⟩
omit hn in
theorem Rw.VJ {t:List Nat}{a b K:List Row}(R:Rw t (a++b)) (N:Nm t a K):Rw t a∧Rw t (K++b):=by
 have h1:=R.ch
 have h2:=R.tt
 have e:∀ x y:List Row,cz (aZ (x++y))=cz (aZ x)+cz (aZ y):=fun x y=>by simp [cz,aZ]
 rw [e] at h2
 rw [ig] at h1
 obtain ⟨h3,h4⟩:=jm.mp h1
 have Ra:Rw t a:=⟨h3,fun r hr=>R.ln r (List.mem_append_left _ hr),by omega⟩
 have h5:=N.tt
 refine ⟨Ra,⟨?_,fun r hr=>?_,by rw [e];omega⟩⟩
 ·rw [ig,jm,N.tx];exact ⟨N.ch,h4⟩
 ·rcases List.mem_append.mp hr with hr | hr
  ·exact (Nm.rw N Ra).ln r hr
  ·exact R.ln r (List.mem_append_right _ hr)
noncomputable def lF (ns:List Int) (l:List V):Fr:=some (.val (fk ns)) :: (l.map fun v=>some (.val v))++List.replicate (15 - l.length) none
noncomputable def G9 (w n:Nat) (ss:Ev.Ss) (fr:Fr):Prop:=Wp (exs (run prog w (n+8)) w ss fr) fun g fr=>g=.ret (.bl true)∧outs 1 fr=[]
noncomputable def s9:Ev.Ss:=.cons xG (.cons tQ (.cons tR (.cons tS .nil)))
noncomputable def s5:Ev.Ss:=.cons xC (.cons xD (.cons xE (.cons xF s9)))
theorem VL (hw:5000<w) {t:List Nat}{rs:List Row}(R:Rw t rs) (hl:rs.length≤6) (ht:t.length≤6):G9 w n s9 (lF ns [.str t,.lst (rs.map aH),.lst ((b9 t rs).map aH)]):=by
 obtain ⟨k,ek,hk⟩:=drawn (ns:=ns) 10 (rs.length+1) (by omega)
 have d:=fun fr=>eW (fr:=fr) (ee (F:=prog) (c:=16) (dr:=17) (w:=w) (n:=n+6) rfl rfl hn 10 (many:=((rs.length+1:Nat):Int)) (by omega))
 rw [ek] at d
 have ln:cY .len [.lst (rs.map aH)]=some (.int (rs.length:Nat)):=by rw [mj,List.length_map]
 have e0:rs.take k++rs.drop k=rs:=List.take_append_drop k rs
 have R':=R
 rw [←e0] at R'
 have R1:Rw t (rs.take k):=by
  have h1:=R'.ch
  have h2:=R'.tt
  rw [ig] at h1 h2
  have e:cz (aZ (rs.take k)++aZ (rs.drop k))=cz (aZ (rs.take k))+cz (aZ (rs.drop k)):=by simp [cz]
  exact ⟨(jm.mp h1).1,fun r hr=>R.ln r (List.mem_of_mem_take hr),by omega⟩
 obtain ⟨q1,N1⟩:=fL (w:=w) (n:=n) hw R1 (by simp;omega)
 have q1:=fun fr=>di (fr:=fr) q1
 obtain ⟨_,R2⟩:=Rw.VJ R' N1
 have kl:=N1.ln
 obtain ⟨q2,N2⟩:=fL (w:=w) (n:=n) hw R2 (by simp at kl ⊢;omega)
 have es:b9 t (b9 t (rs.take k)++rs.drop k)=b9 t rs:=by
  rw [mG,nK t _ rfl N1.fm N1.ad,←mG,e0]
 rw [es] at q2
 have q2:=fun fr=>di (fr:=fr) q2
 have LL:eF (.lst (rs.map aH)) none (some (k:Int))=some (.lst ((rs.take k).map aH)):=by
  show dO (cut (rs.map aH) none (some (k:Int)))=_
  rw [xm,←List.map_take];exact cT (bN (by simp;omega))
 have sl2:eF (.lst (rs.map aH)) (some (k:Int)) none=some (.lst ((rs.drop k).map aH)):=by
  show dO (cut (rs.map aH) (some (k:Int)) none)=_
  rw [qZ,←List.map_drop];exact cT (bN (by simp;omega))
 have ad:Pv.bH .add (.lst ((b9 t (rs.take k)).map aH)) (.lst ((rs.drop k).map aH))=some (.lst ((b9 t (rs.take k)++rs.drop k).map aH)):=by
  rw [A4 (by simp at kl ⊢;omega),←List.map_append]
 have eS:(rs.map fun r=>aH ([98,111],r.2))=(rs.map fun r=>(([98,111],r.2):Row)).map aH:=by rw [List.map_map];rfl
 have cS:aZ (rs.map fun r=>(([98,111],r.2):Row))=aZ rs:=by unfold aZ;rw [List.map_map];rfl
 have RS:Rw t (rs.map fun r=>(([98,111],r.2):Row)):=⟨by rw [cS];exact R.ch,fun r hr=>by
  obtain ⟨x,hx,rfl⟩:=List.mem_map.mp hr
  exact R.ln x hx,by rw [cS];exact R.tt⟩
 obtain ⟨q3,N3⟩:=fL (w:=w) (n:=n) hw RS (by simp;omega)
 have q3:=fun fr=>di (fr:=fr) q3
 have o3:=N3.one (o:=[98,111]) fun r hr=>by obtain ⟨x,hx,rfl⟩:=List.mem_map.mp hr;rfl
 have l3:=fun fr=>call2 (fr:=fr) (kJ (w:=w) (n:=n) (Nm.rw N3 RS))
 have l2:=fun fr=>call2 (fr:=fr) (kJ (w:=w) (n:=n) R)
 rw [N3.tx,cS] at l3
 have XR:cY .len [.lst ((b9 t (rs.map fun r=>(([98,111],r.2):Row))).map aH)]=some (.int ((b9 t (rs.map fun r=>(([98,111],r.2):Row))).length:Nat)):=by rw [mj,List.length_map]
 have XS:Pv.cop .lt (.int ((b9 t (rs.map fun r=>(([98,111],r.2):Row))).length:Nat)) (.int 2)=some true:=by rw [wO];exact congrArg some (decide_eq_true (by omega))
 have eq3:Pv.cop .eq (.str (b8 t (aZ rs))) (.str (b8 t (aZ rs)))=some true:=by rw [gZ];simp
 refine ah (aS (bJ (aJ rfl (av rfl) (aJ rfl (aV rfl) (aJ rfl (bf (fW (aI (av rfl) aO) ln) (aV rfl) (vq rs.length 1)) aX))) (d _)) rfl rfl ?_)
 refine ah (aF (b:=false) (aD rfl (bD (bJ (aJ rfl (bf (bJ (aJ rfl (nA (av rfl) qW (gc (av rfl)) LL) aX) (q1 _)) (nA (av rfl) (gc (av rfl)) qW sl2) ad) aX) (q2 _)) (av rfl) (nR _)) rfl) (fun h=>absurd h (by decide)) fun _=>ay ?_)
 refine ah (aS (gP (dR (cU rfl) rfl) rfl (iC aH (fun r=>aH ([98,111],r.2)) rs fun r _=>lO rfl (eB (aI (aV rfl) (aI (av rfl) aO)) iN)) ((cT (bN (by simp;omega))).trans (by rw [eS]))) rfl rfl ?_)
 exact ah (bI (O3 (bD (fW (aI (bJ (aJ rfl (av rfl) aX) (q3 _)) aO) XR) (aV rfl) XS) (bD (bJ (aJ rfl (av rfl) (aJ rfl (bJ (aJ rfl (av rfl) aX) (q3 _)) aX)) (l3 _)) (bJ (aJ rfl (av rfl) (aJ rfl (av rfl) aX)) (l2 _)) eq3)) ⟨rfl,rfl⟩)
omit hn in
theorem none_of {α:Type}{f:V→Option (Option V)}(e:α→V) (l:List α) (h:∀ a∈l,f (e a)=some none):cD f (l.map e)=some []:=by
 have:=lN (f:=f) e (fun _=>false) (fun _=>V.aY) l fun a ha=>by rw [h a ha];rfl
 rw [this];simp
theorem VM (hw:5000<w) {t:List Nat}{rs:List Row}(R:Rw t rs) (hl:rs.length≤6) (ht:t.length≤6) (N:Nm t rs (b9 t rs)):G9 w n s5 (lF ns [.str t,.lst (rs.map aH),.lst ((b9 t rs).map aH)]):=by
 have RK:=Nm.rw N R
 have fin:=VL (w:=w) (n:=n) hn hw R hl ht
 have id:=nK t _ rfl N.fm N.ad
 obtain ⟨q1,_⟩:=fL (w:=w) (n:=n) hw RK (by have:=N.ln;omega)
 rw [id] at q1
 generalize b9 t rs=K at N RK q1 fin ⊢
 have q1:=fun fr=>di (fr:=fr) q1
 have kl:=N.ln
 have l1:cY .len [.lst (K.map aH)]=some (.int (K.length:Nat)):=by rw [mj,List.length_map]
 have l2:cY .len [.lst (rs.map aH)]=some (.int (rs.length:Nat)):=by rw [mj,List.length_map]
 have gt:Pv.cop .gt (.int (K.length:Nat)) (.int (rs.length:Nat))=some false:=by rw [nC];exact congrArg some (decide_eq_false (by omega))
 have sl:eF (.lst (K.map aH)) (some 1) none=some (.lst (K.tail.map aH)):=by
  show dO (cut (K.map aH) (some ((1:Nat):Int)) none)=_
  rw [qZ,←List.map_drop,List.drop_one];exact cT (bN (by simp;omega))
 refine ah (aF (b:=false) (j6 (aD rfl (bD (fW (aI (av rfl) aO) l1) (fW (aI (av rfl) aO) l2) gt) rfl) (aD rfl (bD (bJ (aJ rfl (av rfl) aX) (q1 _)) (av rfl) (nR _)) rfl)) (fun h=>absurd h (by decide)) fun _=>ay ?_)
 have zp:cy (run prog w (n+8)) true (.zip (.v 3) (.sl (.v 3) (.yes (.c (.int 1))) .no)) (lF ns [.str t,.lst (rs.map aH),.lst (K.map aH)])=.ok ((K.zip K.tail).map fun p=>V.tup [aH p.1,aH p.2]) (lF ns [.str t,.lst (rs.map aH),.lst (K.map aH)]):=by
  rw [←tU]
  exact zR (x:=.lst (K.map aH)) (y:=.lst (K.tail.map aH)) (af:=lF ns [.str t,.lst (rs.map aH),.lst (K.map aH)]) (cU rfl) (show ev _ _ _ _=_ from nA (av rfl) (gc (aV rfl)) qW sl) rfl rfl
 refine ah (aF (b:=false) (aD rfl (bD (gP zp rfl (none_of (fun p:Row×Row=>V.tup [aH p.1,aH p.2]) (K.zip K.tail) fun p hp=>?_) fP) (gO aO fP) nN) rfl) (fun h=>absurd h (by decide)) fun _=>ay ?_)
 ·exact mw (b:=false) (v:=.aY) (cB:=[]) rfl (aD rfl (bD (dc (av rfl) (aV rfl) rfl) (dc (av rfl) (aV rfl) rfl) gZ) (by show decide _=_;exact decide_eq_false (N.ad.zip p hp))) fun h=>absurd h (by decide)
 refine ah (aF (b:=false) (aD rfl (bD (gP (dR (cU rfl) rfl) rfl (none_of aH K fun r hr=>?_) fP) (gO aO fP) nN) rfl) (fun h=>absurd h (by decide)) fun _=>ay ?_)
 ·have b1:=q8 hr
  have b2:=RK.tt
  have b3:=RK.ln r hr
  obtain ⟨f1,f2⟩:=N.fm r hr
  have c1:=fun fr=>di (fr:=fr) (sP (F:=prog) (aL:=0) (i:=3) (w:=w) (n:=n+6) rfl rfl r.2 (by omega) (by omega))
  have c2:=fun fr=>di (fr:=fr) (ji (F:=prog) (bP:=5) (i:=4) (w:=w) (n:=n+6) rfl rfl r.2 (by omega) (by omega))
  rw [f1] at c2
  exact mw (b:=false) (v:=.aY) (cB:=[]) rfl (j6 (aD rfl (bD (bJ (aJ rfl (av rfl) aX) (c1 _)) (aV rfl) nB) (by show decide _=_;exact decide_eq_false (by omega))) (aD rfl (bD (bJ (aJ rfl (av rfl) aX) (c2 _)) (av rfl) (by rw [j4,Lf];simp)) rfl)) fun h=>absurd h (by decide)
 refine ah (aF (b:=false) (aD rfl (bD (gP (dR (cU rfl) rfl) rfl (none_of aH K fun r hr=>?_) fP) (gO aO fP) nN) rfl) (fun h=>absurd h (by decide)) fun _=>ay ?_)
 ·have ni:Pv.cop .gg (.str r.1) (.lst (rs.map fun x=>V.str x.1))=some false:=by
   rw [zc]
   show (Pv.mem _ _).map _=_
   rw [vz,decide_eq_true (N.sb r hr)];rfl
  exact mw (b:=false) (v:=.aY) (cB:=[]) rfl (aD rfl (bD (av rfl) (gP (dR (cU rfl) rfl) rfl (iC aH (fun x=>V.str x.1) rs fun x _=>lO rfl (av rfl)) (cT (bN (by simp;omega)))) ni) rfl) fun h=>absurd h (by decide)
 exact fin
theorem NV (hw:5000<w):run prog w (n+9) 24 [.val (fk ns)]=some (.bl true,[]):=by
 have ht:(txt ns 0 6).length≤6:=GJ ns 0 (most:=6) (by decide)
 have c1:=fun fr=>eW (fr:=fr) (Bc (F:=prog) (c:=16) (dr:=17) (t:=18) (w:=w) (n:=n+5) rfl rfl hn rfl 0 6 (by decide) (by decide))
 generalize txt ns 0 6=t at ht c1
 obtain ⟨rs,r1,R,hl⟩:=CH (w:=w) (n:=n) hn ht
 have r1:=fun fr=>O0 (fr:=fr) r1
 obtain ⟨q1,N⟩:=fL (w:=w) (n:=n) hw R (by omega)
 have q1:=fun fr=>di (fr:=fr) q1
 have RK:=Nm.rw N R
 have a1:=fun fr=>call2 (fr:=fr) (kJ (w:=w) (n:=n) RK)
 rw [N.tx] at a1
 have a2:=fun fr=>call2 (fr:=fr) (kJ (w:=w) (n:=n) R)
 have o1:=fun fr=>call2 (fr:=fr) (pe (w:=w) (n:=n) RK)
 rw [N.ow (fZ t) (by simp [fZ])] at o1
 have o2:=fun fr=>call2 (fr:=fr) (pe (w:=w) (n:=n) R)
 have nO:Pv.cop .ne (.lst (ows (fZ t) rs)) (.lst (ows (fZ t) rs))=some false:=by
  rw [j4,pU,EO (zX rs fun v hv=>?_)]
  ·rfl
  ·obtain ⟨x,_,rfl⟩:=List.mem_map.mp hv;exact .inl rfl
 refine bT (fn:=DW) rfl rfl ?_
 refine ah (aS (bJ (aJ rfl (av rfl) (aJ rfl (aV rfl) (aJ rfl (aV rfl) aX))) (c1 _)) rfl rfl ?_)
 refine ah (aS (bJ (aJ rfl (av rfl) (aJ rfl (aV rfl) (aJ rfl (av rfl) (aJ rfl (aV rfl) aX)))) (r1 _)) rfl rfl ?_)
 refine ah (aS (bJ (aJ rfl (av rfl) aX) (q1 _)) rfl rfl ?_)
 refine ah (aF (b:=false) (aD rfl (bD (bJ (aJ rfl (av rfl) (aJ rfl (av rfl) aX)) (a1 _)) (bJ (aJ rfl (av rfl) (aJ rfl (av rfl) aX)) (a2 _)) (nS _)) rfl) (fun h=>absurd h (by decide)) fun _=>ay ?_)
 refine ah (aF (b:=false) (aD rfl (bD (bJ (aJ rfl (av rfl) (aJ rfl (av rfl) aX)) (o1 _)) (bJ (aJ rfl (av rfl) (aJ rfl (av rfl) aX)) (o2 _)) nO) rfl) (fun h=>absurd h (by decide)) fun _=>ay ?_)
 exact VM hn hw R hl ht N
end
theorem good:∀ ns:List Int,ns.length≤63→∃ h',Ev.run prog 100000 60 24 [.ref 0] [.bS (ns.map Ev.D.int)]=.ok (.bl true) h':=fun ns h=>Gi (NV (w:=100000) (n:=51) h (by decide))
end Lg
theorem Lw.good:∀ ns:List Int,ns.length≤63→∃ h',Ev.run Lw.prog 100000 60 24 [.ref 0] [.bS (ns.map Ev.D.int)]=.ok (.bl true) h':=Lg.good
namespace PySem.W.Fast
theorem tw14964569196628857021:True:=⟨⟩
theorem tw7038646180000655641:True:=⟨⟩
theorem tw15327623487064370909:True:=⟨⟩
theorem tw10416819595154529424:True:=⟨⟩
theorem tw2984380596778211373:True:=⟨⟩
theorem tw9905004847757465278:True:=⟨⟩
theorem tw11871102419453259824:True:=⟨⟩
theorem tw14950693463054353302:True:=⟨⟩
theorem tw2592047867337173835:True:=⟨⟩
theorem tw15396496375177975002:True:=⟨⟩
theorem tw3525747507057393824:True:=⟨⟩
theorem tw16363485853413995654:True:=⟨⟩
theorem tw2963432724880664261:True:=⟨⟩
theorem tw4184027874210606775:True:=⟨⟩
theorem tw5707619525208970827:True:=⟨⟩
theorem tw7036135851258784312:True:=⟨⟩
theorem tw11145018863759247306:True:=⟨⟩
theorem tw13304135631767713557:True:=⟨⟩
theorem tw448983245980267246:True:=⟨⟩
theorem tw2068581348826638980:True:=⟨⟩
theorem tw11093327104466872682:True:=⟨⟩
theorem tw14912756090452577293:True:=⟨⟩
theorem tw14524425020091724753:True:=⟨⟩
theorem tw16375088113501454975:True:=⟨⟩
theorem tw4626540060757990248:True:=⟨⟩
theorem tw11502907681856290638:True:=⟨⟩
theorem tw16087902490659972175:True:=⟨⟩
theorem tw3679991699989322974:True:=⟨⟩
theorem tw12144420242455886952:True:=⟨⟩
theorem tw7418939049050005061:True:=⟨⟩
theorem tw12535547930806522545:True:=⟨⟩
theorem tw7224609280436444844:True:=⟨⟩
theorem tw13432635252622071983:True:=⟨⟩
theorem tw7233378524716419408:True:=⟨⟩
theorem tw13135134797698489488:True:=⟨⟩
theorem tw964912367936493625:True:=⟨⟩
theorem tw13441271578859972061:True:=⟨⟩
theorem tw11821183280957372601:True:=⟨⟩
theorem tw7053678527740444768:True:=⟨⟩
theorem tw11607162143786095940:True:=⟨⟩
theorem tw15953619588699622772:True:=⟨⟩
theorem tw11574529636622807624:True:=⟨⟩
theorem tw2474986990339009627:True:=⟨⟩
theorem tw10826559817812106713:True:=⟨⟩
theorem tw12217322443271690573:True:=⟨⟩
theorem tw7955225800802114119:True:=⟨⟩
theorem tw14688996342541822131:True:=⟨⟩
theorem tw4162550988674137811:True:=⟨⟩
theorem tw17134690186129713029:True:=⟨⟩
theorem tw18315088046605323437:True:=⟨⟩
theorem tw15281580519763288636:True:=⟨⟩
theorem tw9468677426969603914:True:=⟨⟩
theorem tw9683369636191437150:True:=⟨⟩
theorem tw10476416880048282965:True:=⟨⟩
theorem tw4198545464959996347:True:=⟨⟩
theorem tw1738042087440406706:True:=⟨⟩
theorem tw3010937745202792984:True:=⟨⟩
theorem tw17000245000171698829:True:=⟨⟩
theorem tw4949390396122062517:True:=⟨⟩
theorem tw3252333885436758935:True:=⟨⟩
theorem tw2134154771507204809:True:=⟨⟩
theorem tw17885182846436186241:True:=⟨⟩
theorem tw8546849466761453541:True:=⟨⟩
theorem tw12216622262283707114:True:=⟨⟩
theorem tw9262609760166932646:True:=⟨⟩
theorem tw4814815704035690919:True:=⟨⟩
theorem tw15752831153068178365:True:=⟨⟩
theorem tw8102354135721799025:True:=⟨⟩
theorem tw5061258712990912129:True:=⟨⟩
theorem tw6824053768193159426:True:=⟨⟩
theorem tw14966837591731959311:True:=⟨⟩
theorem tw6874587971417894860:True:=⟨⟩
theorem tw7704160174437524351:True:=⟨⟩
theorem tw8253622267232615199:True:=⟨⟩
theorem tw1726459751621627443:True:=⟨⟩
theorem tw10827279600743855019:True:=⟨⟩
theorem tw14394485041063714112:True:=⟨⟩
theorem tw9987284920104118230:True:=⟨⟩
theorem tw14917495711931196231:True:=⟨⟩
theorem tw16852313066541728598:True:=⟨⟩
theorem tw13372270596199619572:True:=⟨⟩
theorem tw16288464829330195027:True:=⟨⟩
theorem tw10277609135425295349:True:=⟨⟩
theorem tw4763451463639863162:True:=⟨⟩
theorem tw11659437295129819535:True:=⟨⟩
theorem tw11219175823237117110:True:=⟨⟩
theorem tw18308421792260459843:True:=⟨⟩
theorem tw1643002671610258619:True:=⟨⟩
theorem tw7901072493588155485:True:=⟨⟩
theorem tw16334700539501645038:True:=⟨⟩
theorem tw5235578697142217871:True:=⟨⟩
theorem tw9169031318178869483:True:=⟨⟩
theorem tw2168096393080684004:True:=⟨⟩
theorem tw10073376890592873197:True:=⟨⟩
theorem tw13159803125833165112:True:=⟨⟩
theorem tw1758117185715639706:True:=⟨⟩
theorem tw540890929594640752:True:=⟨⟩
theorem tw7989908808574477676:True:=⟨⟩
theorem tw4882201291597945976:True:=⟨⟩
theorem tw12111799907387808710:True:=⟨⟩
theorem tw16807817372145464349:True:=⟨⟩
theorem tw5658551216236246182:True:=⟨⟩
theorem tw17638518390150617455:True:=⟨⟩
theorem tw13380246961802803487:True:=⟨⟩
theorem tw6081417078799977750:True:=⟨⟩
theorem tw15174387435344408516:True:=⟨⟩
theorem tw12167167587190605545:True:=⟨⟩
theorem tw13957785606073705512:True:=⟨⟩
theorem tw1041247751497881352:True:=⟨⟩
theorem tw429471678504274236:True:=⟨⟩
theorem tw923202329843112284:True:=⟨⟩
theorem tw9562631559348613275:True:=⟨⟩
theorem tw13947769110066144790:True:=⟨⟩
theorem tw4637852077939750498:True:=⟨⟩
theorem tw13391221104547469488:True:=⟨⟩
theorem tw18438599900103140853:True:=⟨⟩
theorem tw2768020808322290902:True:=⟨⟩
theorem tw4759090094203579589:True:=⟨⟩
theorem tw9512012904716563507:True:=⟨⟩
theorem tw14841934541896770426:True:=⟨⟩
theorem tw14307110470129173385:True:=⟨⟩
theorem tw1326723331481375804:True:=⟨⟩
theorem tw2803709670483280196:True:=⟨⟩
theorem tw13548530819394562653:True:=⟨⟩
theorem tw5319583225686001043:True:=⟨⟩
theorem tw7364382848472921229:True:=⟨⟩
theorem tw9640828778461556365:True:=⟨⟩
theorem tw8822694854245431424:True:=⟨⟩
theorem tw17790080168406860960:True:=⟨⟩
theorem tw13173615006898082512:True:=⟨⟩
theorem tw7815377382582895409:True:=⟨⟩
theorem tw12371351119855686489:True:=⟨⟩
theorem tw8398292618166294950:True:=⟨⟩
theorem tw10266959514086418630:True:=⟨⟩
theorem tw17070932285397786569:True:=⟨⟩
theorem tw14957217230964913001:True:=⟨⟩
theorem tw5213499969623905737:True:=⟨⟩
theorem tw1633480409011257288:True:=⟨⟩
theorem tw3691643070957053849:True:=⟨⟩
theorem tw18241594413326290779:True:=⟨⟩
theorem tw5957226010447133292:True:=⟨⟩
theorem tw17550943877584088167:True:=⟨⟩
theorem tw11036374489723169421:True:=⟨⟩
theorem tw10101236983072539244:True:=⟨⟩
theorem tw11219463553736178555:True:=⟨⟩
theorem tw13569457493673699059:True:=⟨⟩
theorem tw14116752738133236597:True:=⟨⟩
theorem tw2025861448233447899:True:=⟨⟩
theorem tw4949487795194753301:True:=⟨⟩
theorem tw10650844399800069070:True:=⟨⟩
theorem tw13268465649915194619:True:=⟨⟩
theorem tw10768776313868493695:True:=⟨⟩
theorem tw9013749324117893146:True:=⟨⟩
theorem tw17521273995359255330:True:=⟨⟩
theorem tw11926136697860811105:True:=⟨⟩
theorem tw10219481176760757608:True:=⟨⟩
theorem tw4610163777842081651:True:=⟨⟩
theorem tw17129061327683089982:True:=⟨⟩
theorem tw1604043542407268433:True:=⟨⟩
theorem tw15008355324357590874:True:=⟨⟩
theorem tw14204845333138187493:True:=⟨⟩
theorem tw4612956844766788594:True:=⟨⟩
theorem tw5440025884859393750:True:=⟨⟩
theorem tw4654630558812158376:True:=⟨⟩
theorem tw15511474718054434459:True:=⟨⟩
theorem tw2379931410463401180:True:=⟨⟩
theorem tw7425933903943525724:True:=⟨⟩
theorem tw14604979932337063130:True:=⟨⟩
theorem tw6450535502558070502:True:=⟨⟩
theorem tw13214459091739775191:True:=⟨⟩
theorem tw13583828319717740575:True:=⟨⟩
theorem tw12619869972139015708:True:=⟨⟩
theorem tw5696148205124865378:True:=⟨⟩
theorem tw6391238729503361600:True:=⟨⟩
theorem tw11190874468368922918:True:=⟨⟩
theorem tw3074917812492415313:True:=⟨⟩
theorem tw11922481469760828434:True:=⟨⟩
theorem tw16923031211015136641:True:=⟨⟩
theorem tw16032671208066553399:True:=⟨⟩
theorem tw12197685174662600500:True:=⟨⟩
theorem tw16734146699229524394:True:=⟨⟩
theorem tw2996989877909287490:True:=⟨⟩
theorem tw3176597165667314288:True:=⟨⟩
end PySem.W.Fast
open PySem PySem.W PyProof.Rows
set_option maxRecDepth 100000 in
set_option maxHeartbeats 0 in
theorem PySem.Challenge.cw_pastways_k64_whole_squeezed_holds : PySem.Challenge.rw_pastways_k64_whole_squeezed.Holds := by
 w_on;o_law;k_head;(case hw=>w_witness2)
 k_fill
 refine Sm.FT (F:=Lw.prog) (wh:=100000) (n:=60) (f:=24) (x:="_law_script") (l:=PySem.Challenge.rw_pastways_k64_whole_squeezed) rfl rfl ⟨rfl,by decide,by decide⟩ (fun w h Y=>PySem.W.kIn_of Y) Lw.good ?F
 case F=>
  intro w mg fa h KX G hmg
  refine' Lw.all_mk KX G hmg ?a0 ?l0 ?c0 ?k0 ?a1 ?l1 ?c1 ?k1 ?a2 ?l2 ?c2 ?k2 ?a3 ?l3 ?c3 ?k3 ?a4 ?l4 ?c4 ?k4 ?a5 ?l5 ?c5 ?k5 ?a6 ?l6 ?c6 ?k6 ?a7 ?l7 ?c7 ?k7 ?a8 ?l8 ?c8 ?k8 ?a9 ?l9 ?c9 ?k9 ?M4 ?M5 ?M6 ?Ew ?M7 ?M8 ?M9 ?Ex ?Na ?Nb ?c12 ?Ey ?Nc ?Nd ?Nf ?Ez ?Ng ?Nh ?Ni ?EA ?Nj ?Nk ?Nl ?EB ?Nn ?Np ?Nq ?EC ?Nr ?Nt ?Nu ?ED ?Nv ?Nx ?Ny ?EE ?Nz ?NB ?NC ?EF ?ND ?NF ?NG ?EG ?NH ?NI ?NJ ?EH ?NK ?NL ?NN ?EI ?NO ?NP ?NQ ?EJ ?EK ?NR ?NS ?EL ?z0 ?z1 ?z2 ?z3 ?z4 ?z5 ?z6 ?z7 ?q0
  (case a0=>k_is)
  (case l0=>k_is)
  (case c0=>k_is)
  (case k0=>k_is)
  (case a1=>k_is)
  (case l1=>k_is)
  (case c1=>k_is)
  (case k1=>k_is)
  (case a2=>k_is)
  (case l2=>k_is)
  (case c2=>k_is)
  (case k2=>k_is)
  (case a3=>k_is)
  (case l3=>k_is)
  (case c3=>k_is)
  (case k3=>k_is)
  (case a4=>k_is)
  (case l4=>k_is)
  (case c4=>k_is)
  (case k4=>k_is)
  (case a5=>k_is)
  (case l5=>k_is)
  (case c5=>k_is)
  (case k5=>k_is)
  (case a6=>k_is)
  (case l6=>k_is)
  (case c6=>k_is)
  (case k6=>k_is)
  (case a7=>k_is)
  (case l7=>k_is)
  (case c7=>k_is)
  (case k7=>k_is)
  (case a8=>k_is)
  (case l8=>k_is)
  (case c8=>k_is)
  (case k8=>k_is)
  (case a9=>k_is)
  (case l9=>k_is)
  (case c9=>k_is)
  (case k9=>k_is)
  (case M4=>k_is)
  (case M5=>k_is)
  (case M6=>k_is)
  (case Ew=>k_is)
  (case M7=>k_is)
  (case M8=>k_is)
  (case M9=>k_is)
  (case Ex=>k_is)
  (case Na=>k_is)
  (case Nb=>k_is)
  (case c12=>k_is)
  (case Ey=>k_is)
  (case Nc=>k_is)
  (case Nd=>k_is)
  (case Nf=>k_is)
  (case Ez=>k_is)
  (case Ng=>k_is)
  (case Nh=>k_is)
  (case Ni=>k_is)
  (case EA=>k_is)
  (case Nj=>k_is)
  (case Nk=>k_is)
  (case Nl=>k_is)
  (case EB=>k_is)
  (case Nn=>k_is)
  (case Np=>k_is)
  (case Nq=>k_is)
  (case EC=>k_is)
  (case Nr=>k_is)
  (case Nt=>k_is)
  (case Nu=>k_is)
  (case ED=>k_is)
  (case Nv=>k_is)
  (case Nx=>k_is)
  (case Ny=>k_is)
  (case EE=>k_is)
  (case Nz=>k_is)
  (case NB=>k_is)
  (case NC=>k_is)
  (case EF=>k_is)
  (case ND=>k_is)
  (case NF=>k_is)
  (case NG=>k_is)
  (case EG=>k_is)
  (case NH=>k_is)
  (case NI=>k_is)
  (case NJ=>k_is)
  (case EH=>k_is)
  (case NK=>k_is)
  (case NL=>k_is)
  (case NN=>k_is)
  (case EI=>k_is)
  (case NO=>k_is)
  (case NP=>k_is)
  (case NQ=>k_is)
  (case EJ=>k_is)
  (case EK=>k_is)
  (case NR=>k_is)
  (case NS=>k_is)
  (case EL=>k_is)
  (case z0=>k_is)
  (case z1=>k_is)
  (case z2=>k_is)
  (case z3=>k_is)
  (case z4=>k_is)
  (case z5=>k_is)
  (case z6=>k_is)
  (case z7=>k_is)
  (case q0=>k_is)

import PyProof.Rows.All
import Wide.All
import OpenK.AllK
import Wide.FinOn
import Lean
import PyProof.EqAt
import PyProof.EqKinds
import PyProof.TupleCall
import PyProof.NeKinds
import PyProof.StrLawsIn
import KE.KRevSl
import PyProof.ZipIter
import PyProof.ListRange
import PyProof.Rows.SortStr
import KE.KRevIter
import PyProof.EnumMake
import PyProof.EnumFor
import PySem.Challenge.RW_pastways_k14_whole_rows
set_option Elab.async false
set_option linter.all false
set_option maxRecDepth 100000
namespace L2
open PySem PySem.Spec PyProof.Rows
abbrev Key:=Sum Int Str
noncomputable def Ea:Key→Value→Bool
 | .inl k,v=>Value.isInt k v
 | .inr x,v=>Value.isStrOf x v
noncomputable def RJ (w:World):Key→Int
 | .inl k=>hashInt k
 | .inr x=>hashStr w x
theorem dD:∀ {k:Key}{v:Value},Ea k v=true→(∃ i t,k=Sum.inl i∧v=Value.int i t)∨(∃ x t,k=Sum.inr x∧v=Value.str x t)
 | .inl i,v,h=>by
  obtain ⟨t,e⟩:=Value.isInt_shape (k:=i) (v:=v) h
  exact .inl ⟨i,t,rfl,e⟩
 | .inr x,v,h=>by
  obtain ⟨t,e⟩:=Value.isStrOf_shape (x:=x) (v:=v) h
  exact .inr ⟨x,t,rfl,e⟩
theorem HZ (a b:Int):decide ((Sum.inl a:Key)=Sum.inl b)=(a==b):=by
 by_cases e:a=b
 ·subst e;simp
 ·have h:¬ (Sum.inl a:Key)=Sum.inl b:=fun q=>e (Sum.inl.inj q)
  rw [decide_eq_false h]
  exact (beq_eq_false_iff_ne.mpr e).symm
theorem Ia (a b:Str):decide ((Sum.inr a:Key)=Sum.inr b)=decide (a=b):=by
 by_cases e:a=b
 ·subst e;simp
 ·have h:¬ (Sum.inr a:Key)=Sum.inr b:=fun q=>e (Sum.inr.inj q)
  rw [decide_eq_false h,decide_eq_false e]
theorem Ib (a:Int) (b:Str):decide ((Sum.inl a:Key)=Sum.inr b)=false:=decide_eq_false (fun q=>nomatch q)
theorem Ic (a:Str) (b:Int):decide ((Sum.inr a:Key)=Sum.inl b)=false:=decide_eq_false (fun q=>nomatch q)
noncomputable def qe (prog:Program) (w:World):PySem.KeyKind prog w Key where
 is:=Ea
 hash:=RJ w
 inj:=fun v a b ha hb=>by
  rcases dD ha with ⟨i,t,rfl,rfl⟩ | ⟨x,t,rfl,rfl⟩
  ·rcases dD hb with ⟨j,u,rfl,e⟩ | ⟨y,u,rfl,e⟩
   ·injection e with e1 _;rw [e1]
   ·exact nomatch e
  ·rcases dD hb with ⟨j,u,rfl,e⟩ | ⟨y,u,rfl,e⟩
   ·exact nomatch e
   ·injection e with e1 _;rw [e1]
 byValue:=fun k v h=>by
  rcases dD h with ⟨i,t,rfl,rfl⟩ | ⟨x,t,rfl,rfl⟩ <;> rfl
 pyHash:=fun hv h=>by
  rcases dD hv with ⟨i,t,rfl,rfl⟩ | ⟨x,t,rfl,rfl⟩
  ·exact wpAny_pyHash_int h
  ·exact wpAny_pyHash_str h
 eqBool:=fun hu hv h=>by
  rcases dD hu with ⟨i,t,rfl,rfl⟩ | ⟨x,t,rfl,rfl⟩
  ·rcases dD hv with ⟨j,u,rfl,rfl⟩ | ⟨y,u,rfl,rfl⟩
   ·rw [HZ] at h;exact wpAny_eqBool_int h
   ·rw [Ib] at h;exact SeqAt.EqAt.int_str i t y u _ _ _ _ h
  ·rcases dD hv with ⟨j,u,rfl,rfl⟩ | ⟨y,u,rfl,rfl⟩
   ·rw [Ic] at h;exact SeqAt.EqAt.str_int x t j u _ _ _ _ h
   ·rw [Ia] at h;exact wpAny_eqBool_str h
 «strs»:=fun k x t v h=>by
  rcases dD h with ⟨i,u,rfl,e⟩ | ⟨y,u,rfl,e⟩
  ·exact nomatch e
  ·injection e with e1 _
   subst e1
   cases v <;> rfl
end L2
namespace L2
open PySem PySem.Spec PyProof.Rows
inductive V where
 | bz | bl (b:Bool) | int (i:Int) | str (x:Str) | zc (b:Array UInt8) | vA (b:UInt64) | ref (a:Addr) | ty (n:String)
 deriving DecidableEq
noncomputable def RelV:V→Value→Prop
 | .bz,u=>u=Value.none
 | .bl b,u=>u=Value.bool b
 | .int i,u=>∃ t,u=Value.int i t
 | .str x,u=>∃ t,u=Value.str x t
 | .zc b,u=>∃ t,u=Value.bytes b t
 | .vA b,u=>∃ t,u=Value.float b t
 | .ref a,u=>u=Value.ref a
 | .ty n,u=>u=Value.type n
abbrev Vals:List V→List Value→Prop:=Paired RelV
theorem Vals.length {xs:List V}{us:List Value}(r:Vals xs us):xs.length=us.length:=Paired.length r
theorem Vals.get:∀ {xs:List V}{us:List Value}{i:Nat}{x:V},Vals xs us→xs[i]?=some x→∃ u,us[i]?=some u∧RelV x u
 | _,_,_,_,.nil,e=>by simp at e
 | _,_,0,_,.cons r _,e=>by simp at e;subst e;exact ⟨_,rfl,r⟩
 | _,_,i+1,x,.cons _ t,e=>by
  obtain ⟨u,h1,h2⟩:=Vals.get (i:=i) (x:=x) t (by simpa using e)
  exact ⟨u,by simpa using h1,h2⟩
theorem Vals.append:∀ {xs ys:List V}{us ws:List Value},Vals xs us→Vals ys ws→Vals (xs++ys) (us++ws)
 | _,_,_,_,.nil,s=>s
 | _,_,_,_,.cons r t,s=>.cons r (Vals.append t s)
theorem Vals.take:∀ {xs:List V}{us:List Value}(n:Nat),Vals xs us→Vals (xs.take n) (us.take n)
 | _,_,0,_=>.nil
 | _,_,_+1,.nil=>.nil
 | _,_,n+1,.cons r t=>.cons r (Vals.take n t)
theorem Vals.drop:∀ {xs:List V}{us:List Value}(n:Nat),Vals xs us→Vals (xs.drop n) (us.drop n)
 | _,_,0,r=>r
 | _,_,_+1,.nil=>.nil
 | _,_,n+1,.cons _ t=>Vals.drop n t
noncomputable def BD:Option V→Option Value→Prop
 | some v,some u=>RelV v u
 | none,none=>True
 | _,_=>False
noncomputable def KV {κ:Type}:List (κ×V)→List (κ×Value)→Prop:=Paired fun (p:κ×V) (q:κ×Value)=>p.1=q.1∧RelV p.2 q.2
noncomputable def kV:Key→V
 | .inl i=>.int i
 | .inr x=>.str x
inductive HO where
 | lst (xs:List V)
 | tup (xs:List V)
 | dK (kvs:List (Key×V)) | dT (kvs:List (List Key×V))
 | set (S:Int→Bool) (n:Nat)
 | ins (C dx:Addr) (fs:List (Str×V))
 | own (x:Addr)
 | xd (fs:List (Str×V))
 | met (f x:Addr)
 | iI (lo hi:Int)
 | bO (o:Obj) (u:HO)
 | sO (ps:Array Value)
 | ext (φ:Heap→Prop)
abbrev Hp:=Addr→Option HO
noncomputable def upd (H:Hp) (a:Addr) (o:HO):Hp:=fun b=>if b=a then some o else H b
theorem fR {H:Hp}{a:Addr}{o:HO}:upd H a o a=some o:=by unfold upd;rw [if_pos rfl]
theorem bG {H:Hp}{a b:Addr}{o:HO}(h:b≠a):upd H a o b=H b:=by unfold upd;rw [if_neg h]
theorem oX {H:Hp}{a b:Addr}{o u:HO}(h:H a=some o) (h':H b=some u) (d:o≠u):a≠b:=by
 intro e;subst e;rw [h] at h';exact d (Option.some.inj h')
theorem cg {H:Hp}{a b:Addr}{o:HO}(h:H a=some o) (h':H b=none):a≠b:=by
 intro e;subst e;rw [h] at h';cases h'
section
variable (P:Program)(w:World)
noncomputable def dR (H:Hp) (h:Heap) (a:Addr):HO→Prop
 | .lst xs=>xs.length≤sizeLine∧∃ (its:List Value) (n:Nat),Vals xs its∧h.get? a=some { cls:=.type "list",data:=.seq its.toArray n }
 | .tup xs=>xs.length≤sizeLine∧∃ its:List Value,Vals xs its∧IsTup h a its.toArray
 | .dK kvs=>kvs.length≤sizeLine∧(a==sysModules)=false∧∃ vs,KV kvs vs∧h.DictOf (qe P w) a vs
 | .dT kvs=>kvs.length≤sizeLine∧(a==sysModules)=false∧∃ xs:List (List Key×Addr×Value),
   Paired (fun (p:List Key×V) (q:List Key×Addr×Value)=>p.1=q.1∧H q.2.1=some (.tup (p.1.map kV))∧RelV p.2 q.2.2) kvs xs∧
   ∃ o es ep,h.get? a=some o∧o.ExactDict∧o.data=.dict es ep∧es.toList=xs.map (entryOfKey (tupleKind (qe P w)))∧(xs.map (·.1)).Nodup
 | .set S n=>h.SetOf (intKind P w) a S n
 | .ins C dx fs=>H dx=some (.own a)∧fs.length≤1000∧dx≠a∧h.get? a=some (PySem.W.instObj C dx)∧
   ∃ mA,h.Ns1 dx mA∧(∀ f,BD (fs.lookup f) (mA f))∧PySem.Within mA (fs.map (·.1))
 | .own _=>∃ o,h.get? a=some o
 | .xd fs=>∃ mA,h.Ns1 a mA∧∀ f,BD (fs.lookup f) (mA f)
 | .iI lo hi=>∃ t u v,h.get? a=some { cls:=.type "range",data:=.fields #[.int lo t,.int hi u,.int 1 v]}
 | .bO o u=>h.get? a=some o∧dR H h a u
 | .sO ps=>h.get? a=some { cls:=.none,data:=.fields ps }
 | .met f x=>h.get? a=some (PySem.W.methodObj (.ref f) (.ref x))
 | .ext φ=>φ h∧(∃ o,h.get? a=some o)∧∀ h1 h2:Heap,φ h1→(∀ o,h1.get? a=some o→h2.get? a=some o)→φ h2
noncomputable def fL (H:Hp) (h:Heap):Prop:=∀ a o,H a=some o→dR P w H h a o
end
section
variable {P:Program}{w:World}{H H':Hp}{h h':Heap}{a:Addr}{o:HO}
theorem dR.lt (x:dR P w H h a o):a<h.objs.size:=by
 cases o with
 | lst xs=>obtain ⟨_,_,_,_,e⟩:=x;exact Heap.lt_size e
 | tup xs=>obtain ⟨_,_,_,p⟩:=x;exact p.lt
 | dK kvs=>obtain ⟨_,_,_,_,o,_,_,e,_⟩:=x;exact Heap.lt_size e
 | dT kvs=>obtain ⟨_,_,_,_,o,_,_,e,_⟩:=x;exact Heap.lt_size e
 | set S n=>obtain ⟨o,_,_,_,e,_⟩:=x;exact Heap.lt_size e
 | ins C dx fs=>obtain ⟨_,_,_,e,_⟩:=x;exact Heap.lt_size e
 | own y=>obtain ⟨_,e⟩:=x;exact Heap.lt_size e
 | xd fs=>obtain ⟨_,⟨_,_,_,e,_⟩,_⟩:=x;exact Heap.lt_size e
 | iI lo hi=>obtain ⟨_,_,_,e⟩:=x;exact Heap.lt_size e
 | bO ob u=>obtain ⟨e,_⟩:=x;exact Heap.lt_size e
 | sO ps=>exact Heap.lt_size (show h.get? a=some _ from x)
 | met f y=>exact Heap.lt_size (show h.get? a=some _ from x)
 | ext φ=>obtain ⟨_,⟨_,e⟩,_⟩:=x;exact Heap.lt_size e
theorem Paired.Ie {α β:Type}{F G:α→β→Prop}:∀ {l₁:List α}{l₂:List β},Paired F l₁ l₂→(∀ a b,F a b→G a b)→Paired G l₁ l₂
 | _,_,.nil,_=>.nil
 | _,_,.cons r t,f=>.cons (f _ _ r) (Paired.Ie t f)
theorem dR.stay (x:dR P w H h a o) (k:∀ b u,(b=a∨H b=some (.own a))→h.get? b=some u→h'.get? b=some u)
  (ho:∀ b,H b=some (.own a)→H' b=some (.own a)) (ht:∀ b xs,H b=some (.tup xs)→H' b=some (.tup xs)):dR P w H' h' a o:=by
 induction o with
 | lst xs=>obtain ⟨z,its,n,r,e⟩:=x;exact ⟨z,its,n,r,k _ _ (.inl rfl) e⟩
 | tup xs=>obtain ⟨z,its,r,ob,e,c⟩:=x;exact ⟨z,its,r,ob,k _ _ (.inl rfl) e,c⟩
 | dK kvs=>obtain ⟨z,y,vs,r,ob,es,ep,e,c⟩:=x;exact ⟨z,y,vs,r,ob,es,ep,k _ _ (.inl rfl) e,c⟩
 | dT kvs=>
  obtain ⟨z,y,xs,r,ob,es,ep,e,c⟩:=x
  exact ⟨z,y,xs,Paired.Ie r fun p q z=>⟨z.1,ht _ _ z.2.1,z.2.2⟩,ob,es,ep,k _ _ (.inl rfl) e,c⟩
 | set S n=>obtain ⟨ob,es,ep,t,e,c⟩:=x;exact ⟨ob,es,ep,t,k _ _ (.inl rfl) e,c⟩
 | ins C dx fs=>
  obtain ⟨d,z,ne,e,mA,⟨od,es,ep,e2,c⟩,r⟩:=x
  exact ⟨ho _ d,z,ne,k _ _ (.inl rfl) e,mA,⟨od,es,ep,k _ _ (.inr d) e2,c⟩,r⟩
 | own y=>obtain ⟨ob,e⟩:=x;exact ⟨ob,k _ _ (.inl rfl) e⟩
 | xd fs=>obtain ⟨mA,⟨od,es,ep,e,c⟩,r⟩:=x;exact ⟨mA,⟨od,es,ep,k _ _ (.inl rfl) e,c⟩,r⟩
 | iI lo hi=>obtain ⟨t,u,v,e⟩:=x;exact ⟨t,u,v,k _ _ (.inl rfl) e⟩
 | bO ob u ih=>obtain ⟨e,q⟩:=x;exact ⟨k _ _ (.inl rfl) e,ih q⟩
 | sO ps=>
  have e:h.get? a=some { cls:=.none,data:=.fields ps }:=x
  show h'.get? a=some { cls:=.none,data:=.fields ps }
  exact k a _ (.inl rfl) e
 | met f y=>
  have e:h.get? a=some (PySem.W.methodObj (.ref f) (.ref y)):=x
  show h'.get? a=some (PySem.W.methodObj (.ref f) (.ref y))
  exact k a _ (.inl rfl) e
 | ext φ=>obtain ⟨p,⟨o,e⟩,st⟩:=x;exact ⟨st _ _ p fun o q=>k _ _ (.inl rfl) q,⟨o,k _ _ (.inl rfl) e⟩,st⟩
theorem fL.lt (x:fL P w H h) (e:H a=some o):a<h.objs.size:=(x a o e).lt
theorem fL.fresh (x:fL P w H h) (e:h.objs.size≤a):H a=none:=by
 cases q:H a with
 | none=>rfl
 | some u=>exact absurd (Nat.lt_of_lt_of_le (x.lt q) e) (Nat.lt_irrefl _)
theorem fL.kept (x:fL P w H h) (k:∀ b u,h.get? b=some u→h'.get? b=some u):fL P w H h':=fun a o e=>
 (x a o e).stay (fun b u _ q=>k b u q) (fun _ q=>q) fun _ _ q=>q
theorem fL.laid (x:fL P w H h) (k:∀ b u,h.get? b=some u→h'.get? b=some u) (hp:h.objs.size≤a) (new:dR P w (upd H a o) h' a o):fL P w (upd H a o) h':=fun b u e=>by
 have hn:=x.fresh hp
 by_cases hb:b=a
 ·subst hb;rw [fR] at e;cases e;exact new
 ·rw [bG hb] at e
  exact (x b u e).stay (fun c v _ q=>k c v q) (fun c q=>by rw [bG (cg q hn)];exact q) fun c xs q=>by rw [bG (cg q hn)];exact q
end
noncomputable def Rd (H:Hp) (a:Addr) (u:HO):Prop:=H a=some u∨∃ o,H a=some (.bO o u)
theorem Rd.ok {P:Program}{w:World}{H:Hp}{h:Heap}{a:Addr}{u:HO}(r:Rd H a u) (x:fL P w H h):dR P w H h a u:=by
 rcases r with r | ⟨o,r⟩
 ·exact x a u r
 ·obtain ⟨_,q⟩:=x a _ r
  exact q
noncomputable def Eb:Option HO→Prop
 | some (.lst _)=>True
 | some (.dK _)=>True
 | some (.dT _)=>True
 | some (.set _ _)=>True
 | some (.ins _ _ _)=>True
 | some (.ext _)=>True
 | _=>False
section
variable {P:Program}{w:World}{H:Hp}{h h':Heap}{x e:Addr}{o':HO}
theorem fL.write (ok:fL P w H h) (mu:Eb (H x)) (he:e=x∨H e=some (.own x)) (k:∀ b u,b≠e→h.get? b=some u→h'.get? b=some u) (vB:∃ u,h'.get? e=some u)
  (new:dR P w (upd H x o') h' x o'):fL P w (upd H x o') h':=fun b u q=>by
 have Ig:∀ c y,H c=some (.own y)→c≠x:=fun c y r z=>by subst z;rw [r] at mu;exact mu
 have RK:∀ c xs,H c=some (.tup xs)→c≠x:=fun c xs r z=>by subst z;rw [r] at mu;exact mu
 by_cases hb:b=x
 ·subst hb;rw [fR] at q;cases q;exact new
 ·rw [bG hb] at q
  by_cases sP:b=e
  ·have q':H b=some (.own x):=by
    rcases he with z | z
    ·exact absurd (sP.trans z) hb
    ·rw [sP];exact z
   rw [q] at q';cases q'
   obtain ⟨v,hv⟩:=vB
   exact ⟨v,by rw [sP];exact hv⟩
  ·refine (ok b u q).stay (fun c v hc r=>k c v ?_ r) (fun c r=>by rw [bG (Ig c b r)];exact r) fun c xs r=>by rw [bG (RK c xs r)];exact r
   rcases hc with rfl | hc
   ·exact sP
   ·rintro rfl
    rcases he with z | z
    ·exact Ig c b hc z
    ·rw [hc] at z;cases z;exact hb rfl
end
structure Un (fs ex:List Addr) (H H':Hp) (h h':Heap):Prop where
 keep:∀ b o,h.get? b=some o→H b=none→b∉fs→b∉ex→h'.get? b=some o
 slot:∀ b o,h.get? b=some o→H b=none→b∈fs→b∉ex→∃ sl,h'.get? b=some { o with slots:=sl }
 free:∀ b o,h.get? b=some o→H b=none→b∉ex→H' b=none
 there:∀ b o,h.get? b=some o→b∉ex→∃ o',h'.get? b=some o'
 tups:∀ b xs,H b=some (.tup xs)→H' b=some (.tup xs)
 kW:∀ b o u,H b=some (.bO o u)→H' b=some (.bO o u)
 lU:∀ b ps,H b=some (.sO ps)→∃ more,H' b=some (.sO (ps++more))
section
variable {fs fs' ex ex':List Addr}{H H1 H2:Hp}{h h1 h2 h':Heap}{a x e:Addr}{o:HO}
theorem Un.any (u:Un fs ex H H1 h h1) {b:Addr}{ob:Obj}(q:h.get? b=some ob) (n:H b=none) (hx:b∉ex):∃ sl,h1.get? b=some { ob with slots:=sl }:=by
 by_cases hb:b∈fs
 ·exact u.slot b ob q n hb hx
 ·exact ⟨ob.slots,u.keep b ob q n hb hx⟩
theorem Un.kept (k:∀ b u,h.get? b=some u→h'.get? b=some u):Un fs ex H H h h':=
 ⟨fun b ob q _ _ _=>k b ob q,fun b ob q _ _ _=>⟨ob.slots,k b ob q⟩,fun _ _ _ n _=>n,fun b ob q _=>⟨ob,k b ob q⟩,fun _ _ q=>q,fun _ _ _ q=>q,fun _ ps q=>⟨#[],by rw [q];simp⟩⟩
theorem Un.refl:Un fs ex H H h h:=Un.kept fun _ _ q=>q
theorem Un.laid (k:∀ b u,h.get? b=some u→h'.get? b=some u) (hp:h.objs.size≤a) (hn:H a=none):Un fs ex H (upd H a o) h h' where
 keep:=fun b u q _ _ _=>k b u q
 slot:=fun b u q _ _ _=>⟨u.slots,k b u q⟩
 free:=fun b u q n _=>by rw [bG (Nat.ne_of_lt (Nat.lt_of_lt_of_le (Heap.lt_size q) hp))];exact n
 there:=fun b u q _=>⟨u,k b u q⟩
 tups:=fun b xs q=>by rw [bG (cg q hn)];exact q
 kW:=fun b u xs q=>by rw [bG (cg q hn)];exact q
 lU:=fun b ps q=>⟨#[],by rw [bG (cg q hn),q];simp⟩
theorem Un.write (mu:Eb (H x)) (he:e=x∨H e=some (.own x)) (k:∀ b u,b≠e→h.get? b=some u→h'.get? b=some u) (vB:∃ u,h'.get? e=some u):Un fs ex H (upd H x o) h h':=by
 have hx:∀ b,H b=none→b≠x:=fun b n z=>by subst z;rw [n] at mu;exact mu
 have hb:∀ b,H b=none→b≠e:=fun b n z=>by
  subst z
  rcases he with r | r
  ·exact hx b n r
  ·rw [n] at r;cases r
 have hm:∀ b u,H b=some u→¬ Eb (some u)→b≠x:=fun b u q nm z=>by subst z;rw [q] at mu;exact nm mu
 refine ⟨fun b u q n _ _=>k b u (hb b n) q,fun b u q n _ _=>⟨u.slots,k b u (hb b n) q⟩,fun b u q n _=>by rw [bG (hx b n)];exact n,fun b u q _=>?_,
  fun b xs q=>by rw [bG (hm b _ q fun z=>z)];exact q,fun b u xs q=>by rw [bG (hm b _ q fun z=>z)];exact q,fun b ps q=>⟨#[],by rw [bG (hm b _ q fun z=>z),q];simp⟩⟩
 by_cases sP:b=e
 ·subst sP;exact vB
 ·exact ⟨u,k b u sP q⟩
end
noncomputable def Ec (h:Heap) (H:Hp):List Addr:=(List.range h.objs.size).filter fun a=>(H a).isSome
noncomputable def kX (h:Heap) (H:Hp):Heap:=PySem.W.hideAll h (Ec h H)
theorem zd (h:Heap) (H:Hp):(kX h H).objs.size=h.objs.size:=PySem.W.hideAll_size _ _
theorem BE {h:Heap}{H:Hp}{b:Addr}{o:Obj}(e:h.get? b=some o) (n:H b=none):(kX h H).get? b=some o:=
 PySem.W.hideAll_get _ e fun hm=>by
  have q:(H b).isSome=true:=(List.mem_filter.mp hm).2
  rw [n] at q;simp at q
theorem Ga {h:Heap}{H:Hp}{b:Addr}{o:Obj}(e:(kX h H).get? b=some o):h.get? b=some o∧H b=none:=by
 have e':h.get? b=some o:=PySem.W.of_hideAll (Ec h H) e
 refine ⟨e',?_⟩
 cases q:H b with
 | none=>rfl
 | some x=>
  have hm:b∈Ec h H:=List.mem_filter.mpr ⟨List.mem_range.mpr (Heap.lt_size e'),by simp [q]⟩
  have z:(kX h H).get? b=none:=PySem.W.hideAll_none (Ec h H) hm
  rw [z] at e;cases e
noncomputable def Gb (g h:Heap) (L:Addr):List (Addr×Obj):=(List.range h.objs.size).filterMap fun a=>if a=L∨(g.get? a).isSome=true then none else (h.get? a).map fun o=>(a,o)
noncomputable def rest (g h:Heap) (L d:Addr):List (Addr×Obj):=(Gb g h L).filter fun p=>decide (p.1≠d)
end L2
namespace L2
open PySem PySem.Spec PyProof.Rows
structure Mod (K:PySem.W.Frag) (mg:Str→Option Value) (base:Heap):Prop where
 Ed:K.In base
 glob:base.Ns mainGlobals mg
 blt:∃ mb,base.Ns builtinsNs mb∧∀ x:Str,x≠"__name__" →mb x=bootBuiltins x
 nolimit:base.NoLimit
structure Cx where
 prog:Program
 w:World
 K:PySem.W.Frag
 mg:Str→Option Value
 base:Heap
 A:Around
 N:List Str
 s₀:Shared
 H₀:Hp
 env:Env
 outer:List Env
 stack:List Env
 ex:List Addr
 fn:Str→Bool
 calm:Bool
 pn:List (Addr×Obj)
 xe:Value→Shared→Prop
noncomputable def frs (l:List Env):List Addr:=l.filterMap (·.frame)
noncomputable abbrev Cx.fs (X:Cx):List Addr:=frs X.outer
noncomputable def ze (sc:Scope) (x:Str):Prop:=sc.names.lookup x=some .local∨sc.names.lookup x=some .cell∨sc.names.lookup x=some .free
noncomputable def Loc (sc:Scope) (x:Str):Prop:=sc.names.lookup x=some .local∨sc.names.lookup x=some .cell
noncomputable def Look (env:Env) (h:Heap) (m:Str→Option Value) (x:Str) (u:Value):Prop:=
 (env.kindOf x=some .local∧m x=some u)∨((env.kindOf x=some .cell∨env.kindOf x=some .free)∧∃ c,env.cells.lookup x=some c∧h.IsCell c (some u))
structure Cx.Ok (X:Cx):Prop where
 mod:Mod X.K X.mg X.base
 kind:X.env.scope.kind=.function
 glob:X.env.globals=mainGlobals
 blt:X.env.builtins=builtinsNs
 above:X.s₀.heap.objs.size≤X.env.locals
 inj:∀ x y c,X.env.cells.lookup x=some c→X.env.cells.lookup y=some c→x=y
 has:∀ x,(X.env.kindOf x=some .cell∨X.env.kindOf x=some .free)→∃ c,X.env.cells.lookup x=some c
 vC:∀ x c,X.fn x=true→X.env.cells.lookup x=some c→X.s₀.heap.objs.size≤c
 hd:X.calm=true→X.A.handled=none
 frames:X.A.frames=some X.stack
 stk:X.stack=X.outer∨(X.stack=X.env :: X.outer∧X.env.frame=some X.env.locals)
 Ef:∀ b∈X.ex,b≠X.env.locals∧∀ x c,X.env.cells.lookup x=some c→c≠b
 bs:∀ b o,X.base.get? b=some o→X.s₀.heap.get? b=some o∧X.H₀ b=none
 qM:X.base.objs.size≤X.s₀.heap.objs.size
 qf:∀ b o,X.base.get? b=some o→b∉X.ex
 qg:∀ b∈X.ex,b∉X.fs
 je:X.s₀.heap.FunFrames X.base X.outer
 sQ:∀ b∈X.fs,X.H₀ b=none
structure Inv (X:Cx) (pins:List (Addr×Obj)) (σ:List (Option V)) (H:Hp) (s:Shared):Prop where
 ok:X.Ok
 os:s.os=X.s₀.os
 bare:AllBare s.gens
 base:Un X.fs X.ex X.H₀ H X.s₀.heap s.heap
 loc:∃ m,s.heap.Ns X.env.locals m∧∀ (i:Nat) (x:Str) (v:V),X.N[i]?=some x→σ[i]?=some (some v)→ze X.env.scope x→∃ u,RelV v u∧Look X.env s.heap m x u
 cell:∀ x c,X.env.cells.lookup x=some c→∃ v,s.heap.IsCell c v
 free:H X.env.locals=none
 iS:∀ x c,X.env.cells.lookup x=some c→H c=none
 pin:∀ p∈X.pn++pins,s.heap.get? p.1=some p.2∧H p.1=none∧p.1≠X.env.locals∧p.1∉X.fs∧∀ v,p.2.data≠.cell v
 hok:fL X.prog X.w H s.heap
 len:σ.length=X.N.length
section
variable {X:Cx}{pins:List (Addr×Obj)}{σ:List (Option V)}{H H':Hp}{s:Shared}{h':Heap}
theorem Cx.Ok.RL (ok:X.Ok) {b:Addr}{o:Obj}(e:X.base.get? b=some o):b∉X.fs:=fun hb=>by
 have:=(ok.je.mem hb).1
 rw [e] at this;cases this
theorem Inv.bs (I:Inv X pins σ H s):∀ b o,X.base.get? b=some o→s.heap.get? b=some o∧H b=none:=fun b o e=>
 ⟨I.base.keep b o (I.ok.bs b o e).1 (I.ok.bs b o e).2 (I.ok.RL e) (I.ok.qf b o e),I.base.free b o (I.ok.bs b o e).1 (I.ok.bs b o e).2 (I.ok.qf b o e)⟩
theorem Inv.bk (I:Inv X pins σ H s):∀ b o,X.base.get? b=some o→s.heap.get? b=some o:=fun b o e=>(I.bs b o e).1
theorem Inv.mod (I:Inv X pins σ H s):Mod X.K X.mg X.base:=I.ok.mod
theorem Inv.gw (I:Inv X pins σ H s):X.K.In s.heap:=I.ok.mod.Ed.keeps I.bk
theorem Inv.lt (I:Inv X pins σ H s):X.env.locals<s.heap.objs.size:=let ⟨_,hn,_⟩:=I.loc;hn.lt
theorem Inv.sz (I:Inv X pins σ H s):X.s₀.heap.objs.size≤s.heap.objs.size:=Nat.le_trans I.ok.above (Nat.le_of_lt I.lt)
theorem Inv.RM (I:Inv X pins σ H s) {a:Addr}(h:s.heap.objs.size≤a):a∉X.fs:=fun hb=>by
 obtain ⟨_,o,ho,_⟩:=I.ok.je.mem hb
 exact absurd (Nat.lt_of_lt_of_le (Heap.lt_size ho) (Nat.le_trans I.sz h)) (Nat.lt_irrefl _)
theorem Inv.sR (I:Inv X pins σ H s):∀ x c,X.env.cells.lookup x=some c→c≠X.env.locals:=fun x c e z=>by
 obtain ⟨v,o,ho,hd⟩:=I.cell x c e
 obtain ⟨m,⟨o',es,ep,ho',hd',_⟩,_⟩:=I.loc
 rw [z,ho'] at ho;cases ho;rw [hd'] at hd;cases hd
theorem Inv.je (I:Inv X pins σ H s):s.heap.FunFrames X.base X.outer:=by
 have all:∀ (l:List Env),(∀ b∈frs l,b∈X.fs)→X.s₀.heap.FunFrames X.base l→s.heap.FunFrames X.base l:=by
  intro l
  induction l with
  | nil=>intro _ _;trivial
  | cons env r ih=>
   intro hs hl
   obtain ⟨hk,⟨L,o,hf,hn,ho,hd⟩,hr⟩:=hl
   have hL:L∈X.fs:=hs L (by unfold frs;rw [List.filterMap_cons,hf];exact List.mem_cons_self)
   obtain ⟨sl,e⟩:=I.base.slot L o ho (I.ok.sQ L hL) hL fun z=>I.ok.qg L z hL
   exact ⟨hk,⟨L,_,hf,hn,e,hd⟩,ih (fun b hb=>hs b (by unfold frs;rw [List.filterMap_cons,hf];exact List.mem_cons_of_mem _ hb)) hr⟩
 exact all X.outer (fun _ hb=>hb) I.ok.je
theorem Inv.stack (I:Inv X pins σ H s):s.heap.FunFrames X.base X.stack:=by
 rcases I.ok.stk with e | ⟨e,hf⟩
 ·rw [e];exact I.je
 ·rw [e]
  obtain ⟨m,hn,_⟩:=I.loc
  refine .cons (by rw [I.ok.kind];decide) hf hn ?_ I.je
  exact Heap.get?_none_of_le (Nat.le_trans I.ok.qM I.ok.above)
theorem Inv.sS (I:Inv X pins σ H s):∀ b∈frs X.stack,b∈X.env.locals :: X.fs:=fun b hb=>by
 rcases I.ok.stk with e | ⟨e,hf⟩
 ·rw [e] at hb;exact List.mem_cons_of_mem _ hb
 ·rw [e] at hb
  unfold frs at hb
  rw [List.filterMap_cons,hf] at hb
  exact hb
theorem Inv.vD (I:Inv X pins σ H s):∀ b∈frs X.stack,H b=none:=fun b hb=>by
 rcases List.mem_cons.mp (I.sS b hb) with e | hb
 ·rw [e];exact I.free
 ·obtain ⟨_,o,ho,_⟩:=I.ok.je.mem hb
  exact I.base.free b o ho (I.ok.sQ b hb) fun z=>I.ok.qg b z hb
theorem Inv.step {g':Array GenState}{t':Nat}{d':Drawn}{ch:List Addr}(I:Inv X pins σ H s)
  (hch:∀ b∈ch,(b∈X.ex∨X.s₀.heap.objs.size≤b)∧b≠X.env.locals∧(∀ x c,X.env.cells.lookup x=some c→c≠b)∧∀ p∈X.pn++pins,p.1≠b)
  (keep:∀ b o,b≠X.env.locals→b∉X.fs→b∉ch→s.heap.get? b=some o→H b=none→h'.get? b=some o)
  (slot:∀ b o,b≠X.env.locals→b∈X.fs→b∉ch→s.heap.get? b=some o→H b=none→∃ sl,h'.get? b=some { o with slots:=sl }) (free:∀ b o,b∉ch→s.heap.get? b=some o→H b=none→H' b=none)
  (there:∀ b o,b∉ch→s.heap.get? b=some o→∃ o',h'.get? b=some o')
  (tups:∀ b xs,H b=some (.tup xs)→H' b=some (.tup xs)) (kW:∀ b o u,H b=some (.bO o u)→H' b=some (.bO o u)) (lU:∀ b ps,H b=some (.sO ps)→∃ more,H' b=some (.sO (ps++more)))
  (ns:∀ m,s.heap.Ns X.env.locals m→h'.Ns X.env.locals m) (hok:fL X.prog X.w H' h') (hg:AllBare g') :
  Inv X pins σ H' { s with heap:=h',gens:=g',drawn:=d',toks:=t' }:=by
 have PJ:∀ b o,X.s₀.heap.get? b=some o→b≠X.env.locals:=fun b o e=>Nat.ne_of_lt (Nat.lt_of_lt_of_le (Heap.lt_size e) I.ok.above)
 have Eg:∀ b o,X.s₀.heap.get? b=some o→b∉X.ex→b∉ch:=fun b o e hx hb=>by
  rcases (hch b hb).1 with z | z
  ·exact hx z
  ·exact absurd (Nat.lt_of_lt_of_le (Heap.lt_size e) z) (Nat.lt_irrefl _)
 have cellK:∀ x c,X.env.cells.lookup x=some c→∀ v,s.heap.IsCell c v→h'.IsCell c v:=fun x c e v ⟨o,ho,hd⟩=>by
  have zf:c∉ch:=fun z=>(hch c z).2.2.1 x c e rfl
  by_cases hc:c∈X.fs
  ·obtain ⟨sl,q⟩:=slot c o (I.sR x c e) hc zf ho (I.iS x c e)
   exact ⟨_,q,hd⟩
  ·exact ⟨o,keep c o (I.sR x c e) hc zf ho (I.iS x c e),hd⟩
 refine ⟨I.ok,I.os,hg,⟨fun b o e n hb hx=>?_,fun b o e n hb hx=>?_,fun b o e n hx=>?_,fun b o e hx=>?_,fun b xs e=>tups b xs (I.base.tups b xs e),fun b o xs e=>kW b o xs (I.base.kW b o xs e),fun b ps e=>?_⟩,?_,fun x c e=>?_,?_,fun x c e=>?_,fun p hp=>?_,hok,I.len⟩
 ·exact keep b o (PJ b o e) hb (Eg b o e hx) (I.base.keep b o e n hb hx) (I.base.free b o e n hx)
 ·obtain ⟨sl,e1⟩:=I.base.slot b o e n hb hx
  obtain ⟨UT,e2⟩:=slot b _ (PJ b o e) hb (Eg b o e hx) e1 (I.base.free b o e n hx)
  exact ⟨UT,e2⟩
 ·obtain ⟨o',e1⟩:=I.base.there b o e hx
  exact free b o' (Eg b o e hx) e1 (I.base.free b o e n hx)
 ·obtain ⟨o',e1⟩:=I.base.there b o e hx
  exact there b o' (Eg b o e hx) e1
 ·obtain ⟨m1,e1⟩:=I.base.lU b ps e
  obtain ⟨m2,e2⟩:=lU b _ e1
  exact ⟨m1++m2,by rw [e2,Array.append_assoc]⟩
 ·obtain ⟨m,hn,hl⟩:=I.loc
  refine ⟨m,ns m hn,fun i x v e1 e2 e3=>?_⟩
  obtain ⟨u,r,l⟩:=hl i x v e1 e2 e3
  refine ⟨u,r,?_⟩
  rcases l with l | ⟨k,c,e,z⟩
  ·exact .inl l
  ·exact .inr ⟨k,c,e,cellK x c e _ z⟩
 ·obtain ⟨v,z⟩:=I.cell x c e
  exact ⟨v,cellK x c e v z⟩
 ·obtain ⟨m,⟨o,_,_,ho,_⟩,_⟩:=I.loc
  exact free _ o (fun z=>(hch _ z).2.1 rfl) ho I.free
 ·obtain ⟨v,o,ho,hd⟩:=I.cell x c e
  exact free c o (fun z=>(hch c z).2.2.1 x c e rfl) ho (I.iS x c e)
 ·obtain ⟨e,n,ne,nf,d⟩:=I.pin p hp
  have zf:p.1∉ch:=fun z=>(hch p.1 z).2.2.2 p hp rfl
  exact ⟨keep p.1 p.2 ne nf zf e n,free p.1 p.2 zf e n,ne,nf,d⟩
theorem Inv.un {t':Nat}(I:Inv X pins σ H s) (u:Un X.fs [] H H' s.heap h') (hok:fL X.prog X.w H' h'):Inv X pins σ H' { s with heap:=h',toks:=t' }:=by
 obtain ⟨m,⟨o,es,ep,ho,r⟩,_⟩:=id I.loc
 obtain ⟨sl,hL⟩:=u.any ho I.free (by simp)
 exact I.step (g':=s.gens) (d':=s.drawn) (ch:=[]) (fun _ z=>nomatch z) (fun b o _ hb _ e n=>u.keep b o e n hb (by simp)) (fun b o _ hb _ e n=>u.slot b o e n hb (by simp)) (fun b o _ e n=>u.free b o e n (by simp)) (fun b o _ e=>u.there b o e (by simp)) u.tups u.kW u.lU (fun m' hm=>by
  obtain ⟨o',es',Ih,ho',r'⟩:=hm
  rw [ho] at ho';cases ho'
  exact ⟨_,es',Ih,hL,r'⟩) hok I.bare
theorem Inv.call {g':Array GenState}{t':Nat}{d':Drawn}{ch:List Addr}(I:Inv X pins σ H s) (u:Un (frs X.stack) ch H H' s.heap h') (hok:fL X.prog X.w H' h') (hg:AllBare g')
  (hch:∀ b∈ch,(b∈X.ex∨X.s₀.heap.objs.size≤b)∧b≠X.env.locals∧(∀ x c,X.env.cells.lookup x=some c→c≠b)∧∀ p∈X.pn++pins,p.1≠b) :
  Inv X pins σ H' { s with heap:=h',gens:=g',drawn:=d',toks:=t' }:=by
 obtain ⟨m,⟨o,es,ep,ho,r⟩,_⟩:=id I.loc
 obtain ⟨sl,hL⟩:=u.any ho I.free fun z=>(hch _ z).2.1 rfl
 exact I.step (ch:=ch) hch (fun b o hL hb hc e n=>u.keep b o e n (fun z=>(List.mem_cons.mp (I.sS b z)).elim hL hb) hc) (fun b o _ _ hc e n=>u.any e n hc) (fun b o hc e n=>u.free b o e n hc) (fun b o hc e=>u.there b o e hc) u.tups u.kW u.lU (fun m' hm=>by
  obtain ⟨o',es',Ih,ho',r'⟩:=hm
  rw [ho] at ho';cases ho'
  exact ⟨_,es',Ih,hL,r'⟩) hok hg
theorem Inv.turned {t':Nat}{it:Addr}(I:Inv X pins σ H s)(k:∀ b o,b≠it→s.heap.get? b=some o→h'.get? b=some o)(hn:H it=none)(hL:it≠X.env.locals)
  (h1:it∈X.ex∨X.s₀.heap.objs.size≤it) (h2:∀ x c,X.env.cells.lookup x=some c→c≠it) (h3:∀ p∈X.pn++pins,p.1≠it):Inv X pins σ H { s with heap:=h',toks:=t' }:=by
 have zg:∀ b u,H b=some u→b≠it:=fun b u e z=>by rw [z,hn] at e;cases e
 refine I.step (g':=s.gens) (d':=s.drawn) (ch:=[it]) (fun b hb=>?_) (fun b o _ _ hc e _=>k b o (fun z=>hc (by simp [z])) e) (fun b o _ _ hc e _=>⟨o.slots,k b o (fun z=>hc (by simp [z])) e⟩) (fun _ _ _ _ n=>n)
  (fun b o hc e=>⟨o,k b o (fun z=>hc (by simp [z])) e⟩) (fun _ _ e=>e) (fun _ _ _ e=>e) (fun b ps e=>⟨#[],by rw [e];simp⟩) (fun m hm=>?_) (fun b u e=>?_) I.bare
 ·have e:b=it:=by simpa using hb
  subst e
  exact ⟨h1,hL,h2,h3⟩
 ·obtain ⟨o,es,ep,ho,r⟩:=hm
  exact ⟨o,es,ep,k _ o (Ne.symm hL) ho,r⟩
 ·refine (I.hok b u e).stay (fun c v hc q=>k c v ?_ q) (fun _ q=>q) fun _ _ q=>q
  rcases hc with z | z
  ·rw [z];exact zg b u e
  ·exact zg c _ z
theorem Inv.tok (I:Inv X pins σ H s) (t:Nat):Inv X pins σ H { s with toks:=t }:=I.un (h':=s.heap) (t':=t) Un.refl I.hok
theorem Inv.kept {t':Nat}(I:Inv X pins σ H s) (k:∀ b u,s.heap.get? b=some u→h'.get? b=some u):Inv X pins σ H { s with heap:=h',toks:=t' }:=I.un (Un.kept k) (I.hok.kept k)
theorem Inv.laid {a:Addr}{o:HO}{t':Nat}(I:Inv X pins σ H s) (k:∀ b u,s.heap.get? b=some u→h'.get? b=some u) (hp:s.heap.objs.size≤a) (new:dR X.prog X.w (upd H a o) h' a o) :
  Inv X pins σ (upd H a o) { s with heap:=h',toks:=t' }:=I.un (Un.laid k hp (I.hok.fresh hp)) (I.hok.laid k hp new)
theorem Inv.write {x e:Addr}{o:HO}{t':Nat}(I:Inv X pins σ H s) (mu:Eb (H x)) (he:e=x∨H e=some (.own x)) (k:∀ b u,b≠e→s.heap.get? b=some u→h'.get? b=some u) (vB:∃ u,h'.get? e=some u)
  (new:dR X.prog X.w (upd H x o) h' x o):Inv X pins σ (upd H x o) { s with heap:=h',toks:=t' }:=I.un (Un.write mu he k vB) (I.hok.write mu he k vB new)
theorem Inv.vE {Eh:List (Addr×Obj)}(I:Inv X pins σ H s) (h:∀ p∈Eh,s.heap.get? p.1=some p.2∧H p.1=none∧p.1≠X.env.locals∧p.1∉X.fs∧∀ v,p.2.data≠.cell v):Inv X Eh σ H s:=
 ⟨I.ok,I.os,I.bare,I.base,I.loc,I.cell,I.free,I.iS,fun p hp=>(List.mem_append.mp hp).elim (fun z=>I.pin p (List.mem_append_left _ z)) (h p),I.hok,I.len⟩
theorem sU {N:List Str}(hN:N.Nodup) {i j:Nat}{x:Str}(a:N[i]?=some x) (b:N[j]?=some x):i=j:=by
 obtain ⟨h1,e1⟩:=List.getElem?_eq_some_iff.mp a
 obtain ⟨h2,e2⟩:=List.getElem?_eq_some_iff.mp b
 exact (List.getElem_inj hN).mp (e1.trans e2.symm)
theorem qN {M:Model}{A:Around}{E:Value→Shared→Prop}{i:Nat}{x:Str}{v:V}{u:Value}{Q:Unit→Shared→Prop}(I:Inv X pins σ H s) (hN:X.N.Nodup) (hi:X.N[i]?=some x) (hx:Loc X.env.scope x) (r:RelV v u)
  (h:∀ s',Inv X pins (σ.set i (some v)) H s'→(∃ a,Heap.SameBut a s.heap s'.heap∧(a=X.env.locals∨X.env.cells.lookup x=some a))→Q () s') (hf:X.fn x=true∨X.env.scope.names.lookup x=some .local:=by first | exact .inl rfl | exact .inr rfl | assumption):wpAny M A (storeName X.env x u) Q E s:=by
 obtain ⟨m,hn,hl⟩:=id I.loc
 have hcls:(X.env.scope.kind==.class || (X.env.scope.kind==.module&&X.env.locals != X.env.globals))=false:=by rw [I.ok.kind];rfl
 have Ii:i<σ.length:=by rw [I.len];exact (List.getElem?_eq_some_iff.mp hi).1
 have sR:=I.sR
 have tracked:∀ {a:Addr} {h':Heap},(∃ o,s.heap.get? a=some o∧H a=none)→Heap.SameBut a s.heap h'→fL X.prog X.w H h':=fun {a h'} ha hs b ob e=>by
  obtain ⟨_,_,hfree⟩:=ha
  refine (I.hok b ob e).stay (fun c w' hc q=>(hs.2 c ?_).trans q) (fun _ q=>q) fun _ _ q=>q
  rintro rfl
  rcases hc with rfl | hc
  ·rw [hfree] at e;cases e
  ·rw [hfree] at hc;cases hc
 rcases hx with hk | hk
 ·refine wpAny_storeName_local hk hn (fun h' hn' hs=>?_) hcls
  obtain ⟨oL,_,_,UU,_⟩:=id hn
  refine h _ ⟨I.ok,I.os,I.bare,⟨fun b o e n hb hx=>?_,fun b o e n hb hx=>?_,I.base.free,fun b o e hx=>?_,I.base.tups,I.base.kW,I.base.lU⟩,⟨_,hn',fun j y v' e1 e2 e3=>?_⟩,fun y c e=>?_,I.free,I.iS,fun p hp=>?_,tracked ⟨oL,UU,I.free⟩ hs,by simpa using I.len⟩ ⟨_,hs,.inl rfl⟩
  ·exact (hs.2 b (Nat.ne_of_lt (Nat.lt_of_lt_of_le (Heap.lt_size e) I.ok.above))).trans (I.base.keep b o e n hb hx)
  ·obtain ⟨sl,e1⟩:=I.base.slot b o e n hb hx
   exact ⟨sl,(hs.2 b (Nat.ne_of_lt (Nat.lt_of_lt_of_le (Heap.lt_size e) I.ok.above))).trans e1⟩
  ·obtain ⟨o',e1⟩:=I.base.there b o e hx
   exact ⟨o',(hs.2 b (Nat.ne_of_lt (Nat.lt_of_lt_of_le (Heap.lt_size e) I.ok.above))).trans e1⟩
  ·by_cases hj:j=i
   ·subst hj
    rw [hi] at e1;cases e1
    rw [List.getElem?_set_self Ii] at e2
    cases e2
    exact ⟨u,r,.inl ⟨hk,by simp⟩⟩
   ·rw [List.getElem?_set_ne (Ne.symm hj)] at e2
    obtain ⟨u',r',q⟩:=hl j y v' e1 e2 e3
    refine ⟨u',r',?_⟩
    rcases q with ⟨k,e⟩ | ⟨k,c,e,z⟩
    ·refine .inl ⟨k,?_⟩
     have:y≠x:=fun e=>hj (sU hN e1 (e▸hi))
     simp [this,e]
    ·exact .inr ⟨k,c,e,z.sameBut hs (sR y c e)⟩
  ·obtain ⟨w',z⟩:=I.cell y c e
   exact ⟨w',z.sameBut hs (sR y c e)⟩
  ·obtain ⟨e,n,ne,nf,d⟩:=I.pin p hp
   exact ⟨(hs.2 p.1 ne).trans e,n,ne,nf,d⟩
 ·have hfn:X.fn x=true:=by
   rcases hf with z | z
   ·exact z
   ·rw [z] at hk;cases hk
  obtain ⟨c,hc⟩:=I.ok.has x (.inl hk)
  obtain ⟨w',z⟩:=I.cell x c hc
  refine wpAny_storeName_cell I.ok.kind hk hc z (fun h' hc' hs=>?_)
  obtain ⟨oc,hoc,RN⟩:=id z
  refine h { s with heap:=h' } ⟨I.ok,I.os,I.bare,⟨fun b o e n hb hx=>?_,fun b o e n hb hx=>?_,I.base.free,fun b o e hx=>?_,I.base.tups,I.base.kW,I.base.lU⟩,⟨m,hn.sameBut hs (Ne.symm (sR x c hc)),fun j y v' e1 e2 e3=>?_⟩,fun y c' e=>?_,I.free,I.iS,fun p hp=>?_,tracked ⟨oc,hoc,I.iS x c hc⟩ hs,by simpa using I.len⟩ ⟨c,hs,.inr hc⟩
  ·exact (hs.2 b (Nat.ne_of_lt (Nat.lt_of_lt_of_le (Heap.lt_size e) (I.ok.vC x c hfn hc)))).trans (I.base.keep b o e n hb hx)
  ·obtain ⟨sl,e1⟩:=I.base.slot b o e n hb hx
   exact ⟨sl,(hs.2 b (Nat.ne_of_lt (Nat.lt_of_lt_of_le (Heap.lt_size e) (I.ok.vC x c hfn hc)))).trans e1⟩
  ·obtain ⟨o',e1⟩:=I.base.there b o e hx
   exact ⟨o',(hs.2 b (Nat.ne_of_lt (Nat.lt_of_lt_of_le (Heap.lt_size e) (I.ok.vC x c hfn hc)))).trans e1⟩
  ·by_cases hj:j=i
   ·subst hj
    rw [hi] at e1;cases e1
    rw [List.getElem?_set_self Ii] at e2
    cases e2
    exact ⟨u,r,.inr ⟨.inl hk,c,hc,hc'⟩⟩
   ·rw [List.getElem?_set_ne (Ne.symm hj)] at e2
    obtain ⟨u',r',q⟩:=hl j y v' e1 e2 e3
    refine ⟨u',r',?_⟩
    rcases q with q | ⟨k,c',e,z'⟩
    ·exact .inl q
    ·refine .inr ⟨k,c',e,z'.sameBut hs ?_⟩
     rintro rfl
     exact hj (sU hN e1 (I.ok.inj _ _ _ e hc▸hi))
  ·by_cases hcc:c'=c
   ·subst hcc;exact ⟨_,hc'⟩
   ·obtain ⟨w2,z2⟩:=I.cell y c' e
    exact ⟨w2,z2.sameBut hs hcc⟩
  ·obtain ⟨e,n,ne,nf,d⟩:=I.pin p hp
   refine ⟨(hs.2 p.1 ?_).trans e,n,ne,nf,d⟩
   intro q
   rw [q,hoc] at e
   have q':oc=p.2:=Option.some.inj e
   exact d w' (by rw [←q'];exact RN)
theorem sV {M:Model}{A:Around}{E:Value→Shared→Prop}{i:Nat}{x:Str}{v:V}{u:Value}{Q:Unit→Shared→Prop}(I:Inv X pins σ H s) (hN:X.N.Nodup) (hi:X.N[i]?=some x) (hx:Loc X.env.scope x) (r:RelV v u)
  (h:∀ s',Inv X pins (σ.set i (some v)) H s'→Q () s') (hf:X.fn x=true∨X.env.scope.names.lookup x=some .local:=by first | exact .inl rfl | exact .inr rfl | assumption):wpAny M A (storeName X.env x u) Q E s:=
 qN I hN hi hx r (fun s' I' _=>h s' I') hf
theorem Inv.NO {s':Shared}{ch:List Addr}(I:Inv X pins σ H s) (ho:s'.os=s.os) (u:Un (frs X.stack) ch H H' s.heap s'.heap) (hok:fL X.prog X.w H' s'.heap) (hg:AllBare s'.gens)
  (hch:∀ b∈ch,(b∈X.ex∨X.s₀.heap.objs.size≤b)∧b≠X.env.locals∧(∀ x c,X.env.cells.lookup x=some c→c≠b)∧∀ p∈X.pn++pins,p.1≠b):Inv X pins σ H' s':=by
 obtain ⟨h',g',d',t',o'⟩:=s'
 have e:o'=s.os:=ho
 subst e
 exact I.call (g':=g') (t':=t') (d':=d') u hok hg hch
end
abbrev XK:=Value→Option Addr→Hp→Prop
abbrev St:=List (Option V)
abbrev VK:=V→Hp→Prop
abbrev TE:=St→Hp→VK→Prop
abbrev TT:=St→Hp→(Bool→Hp→Prop)→Prop
abbrev TA:=St→Hp→(List V→Hp→Prop)→Prop
structure Ends where
 nx:St→Hp→Prop
 rt:VK
 bk:St→Hp→Prop:=fun _ _=>False
 ct:St→Hp→Prop:=fun _ _=>False
abbrev TS:=Ends→St→Hp→Prop
noncomputable def EP (X:Cx) (pins:List (Addr×Obj)) (σ:St) (Q:VK) (u:Value) (s':Shared):Prop:=∃ v H',Inv X pins σ H' s'∧RelV v u∧Q v H'
noncomputable def TP (X:Cx) (pins:List (Addr×Obj)) (σ:St) (Q:Bool→Hp→Prop) (b:Bool) (s':Shared):Prop:=∃ H',Inv X pins σ H' s'∧Q b H'
noncomputable def AP (X:Cx) (pins:List (Addr×Obj)) (σ:St) (Q:List V→Hp→Prop) (us:List Value) (s':Shared):Prop:=∃ vs H',Inv X pins σ H' s'∧Vals vs us∧Q vs H'
noncomputable def SP (X:Cx) (pins:List (Addr×Obj)) (D:Ends) (f:Flow) (s':Shared):Prop:=
 match f with
 | .next=>∃ σ' H',Inv X pins σ' H' s'∧D.nx σ' H'
 | .brk=>∃ σ' H',Inv X pins σ' H' s'∧D.bk σ' H'
 | .cont=>∃ σ' H',Inv X pins σ' H' s'∧D.ct σ' H'
 | .ret u=>∃ v σ' H',Inv X pins σ' H' s'∧RelV v u∧D.rt v H'
noncomputable def PE (X:Cx) (e:Expr) (t:TE):Prop:=
 ∀ (pins:List (Addr×Obj)) (s:Shared) (σ:St) (H:Hp) (Q:VK),Inv X pins σ H s→t σ H Q→wpAny (model X.prog X.w) X.A (eval e X.env) (EP X pins σ Q) X.xe s
noncomputable def PT (X:Cx) (e:Expr) (t:TT):Prop:=
 ∀ (pins:List (Addr×Obj)) (s:Shared) (σ:St) (H:Hp) (Q:Bool→Hp→Prop),Inv X pins σ H s→t σ H Q→wpAny (model X.prog X.w) X.A (isTrue e X.env (eval e X.env)) (TP X pins σ Q) X.xe s
noncomputable def PW (X:Cx) (e:Expr) (t:TT):Prop:=
 ∀ (whole:Sem Value) (pins:List (Addr×Obj)) (s:Shared) (σ:St) (H:Hp) (Q:Bool→Hp→Prop),Inv X pins σ H s→t σ H Q→wpAny (model X.prog X.w) X.A (isTrue e X.env whole) (TP X pins σ Q) X.xe s
theorem PW.pt {X:Cx}{e:Expr}{t:TT}(h:PW X e t):PT X e t:=h _
noncomputable def PA (X:Cx) (es:List Expr) (t:TA):Prop:=
 ∀ (pos:Pos) (pins:List (Addr×Obj)) (s:Shared) (σ:St) (H:Hp) (Q:List V→Hp→Prop),Inv X pins σ H s→t σ H Q→wpAny (model X.prog X.w) X.A (spliced (backTo pos (starEach es X.env))) (AP X pins σ Q) X.xe s
noncomputable def PS (X:Cx) (st:Stmt) (t:TS):Prop:=
 ∀ (pins:List (Addr×Obj)) (s:Shared) (σ:St) (H:Hp) (D:Ends),Inv X pins σ H s→t D σ H→wpAny (model X.prog X.w) X.A (exec st X.env) (SP X pins D) X.xe s
noncomputable def iJ (X:Cx) (st:List Stmt) (t:TS):Prop:=
 ∀ (pins:List (Addr×Obj)) (s:Shared) (σ:St) (H:Hp) (D:Ends),Inv X pins σ H s→t D σ H→wpAny (model X.prog X.w) X.A (execs st X.env) (SP X pins D) X.xe s
theorem bQ {α:Type}{t:Sem α}{Q Q':α→Shared→Prop}{M:Model}{A:Around}{E:Value→Shared→Prop}{s:Shared}(h:wpAny M A t Q E s) (hQ:∀ a s,Q a s→Q' a s):wpAny M A t Q' E s:=wpAny_mono h hQ fun _ _ x=>x
end L2
namespace L2
open PySem PySem.Spec PyProof.Rows
section
variable {X:Cx}
theorem bin {a b:Expr}{ta tb:TE}(ha:PE X a ta) (hb:PE X b tb) {pins:List (Addr×Obj)}{s:Shared}{σ:St}{H:Hp}{R:V→V→Hp→Prop}(I:Inv X pins σ H s) (h:ta σ H fun x H1=>tb σ H1 fun y H2=>R x y H2)
  {α:Type} {Q:α→Shared→Prop} {f:Value→Value→Sem α}
  (hf:∀ v u s2 x y H2,Inv X pins σ H2 s2→RelV x v→RelV y u→R x y H2→wpAny (model X.prog X.w) X.A (f v u) Q X.xe s2) :
  wpAny (model X.prog X.w) X.A (eval a X.env) (fun v s₁=>wpAny (model X.prog X.w) X.A (eval b X.env) (fun u s₂=>wpAny (model X.prog X.w) X.A (f v u) Q X.xe s₂) X.xe s₁) X.xe s:=by
 refine bQ (ha pins s σ H _ I h) fun v s1 ⟨x,H1,I1,r1,q1⟩=>?_
 refine bQ (hb pins s1 σ H1 _ I1 q1) fun u s2 ⟨y,H2,I2,r2,q2⟩=>?_
 exact hf v u s2 x y H2 I2 r1 r2 q2
noncomputable def Ij (i:Nat):TE:=fun σ H Q=>∃ v,σ[i]?=some (some v)∧Q v H
noncomputable def tC (v:V):TE:=fun _ H Q=>Q v H
theorem zh {i:Nat}{x:Str}{pos:Pos}(hN:X.N[i]?=some x) (hv:ze X.env.scope x) (hd:(x==("__debug__" : Str))=false:=by decide) (hcd:(x==("__classdict__" : Str))=false:=by decide):PE X (.Name x pos) (Ij i):=by
 intro pins s σ H Q I h
 obtain ⟨v,e,h⟩:=h
 obtain ⟨m,hn,hl⟩:=I.loc
 obtain ⟨u,r,l⟩:=hl i x v hN e hv
 have fin:EP X pins σ Q u s:=⟨v,H,I,r,h⟩
 rcases l with ⟨hk,hm⟩ | ⟨hk,c,hc,hcell⟩
 ·exact wpAny_Name (wpAny_loadName_local I.ok.kind hk hn hm fin) hd
 ·rcases hk with hk | hk
  ·exact wpAny_Name (wpAny_loadName_cell I.ok.kind hk hc hcell fin) hd
  ·exact wpAny_Name (wpAny_loadName_free I.ok.kind hk hc hcell fin hcd) hd
theorem Ik {i j pos}:PE X (.Constant (.int i) j pos) (tC (.int i)):=fun _ _ _ H _ I h=>wpAny_Constant_int ⟨.int i,H,I.tok _,⟨_,rfl⟩,h⟩
theorem NP {b j pos}:PE X (.Constant (.bool b) j pos) (tC (.bl b)):=fun _ _ _ H _ I h=>Constant_bool ⟨.bl b,H,I,rfl,h⟩
theorem Il {j pos}:PE X (.Constant .none j pos) (tC .bz):=fun _ _ _ H _ I h=>Constant_none ⟨.bz,H,I,rfl,h⟩
theorem Im {x j pos}:PE X (.Constant (.str x) j pos) (tC (.str x)):=fun _ _ _ H _ I h=>Calls.Constant_str ⟨.str x,H,I.tok _,⟨_,rfl⟩,h⟩
noncomputable def Gl (X:Cx) (x:Str):Prop:=X.env.kindOf x=some .globalImplicit
theorem vF {E:Value→Shared→Prop}{pins:List (Addr×Obj)}{s:Shared}{σ:St}{H:Hp}{x:Str}{u:Value}{pos:Pos}{Q:Value→Shared→Prop}(I:Inv X pins σ H s) (hg:Gl X x) (hm:X.mg x=some u) (h:Q u s)
  (hd:(x==("__debug__" : Str))=false:=by decide):wpAny (model X.prog X.w) X.A (eval (.Name x pos) X.env) Q E s:=
 Calls.Name_function_global I.ok.kind hg (Calls.loadGlobal_global (by rw [I.ok.glob];exact I.mod.glob.keeps I.bk) hm h) hd
theorem jA {E:Value→Shared→Prop}{pins:List (Addr×Obj)}{s:Shared}{σ:St}{H:Hp}{x:Str}{u:Value}{pos:Pos}{Q:Value→Shared→Prop}(I:Inv X pins σ H s) (hg:Gl X x) (hm:X.mg x=none) (hv:bootBuiltins x=some u) (h:Q u s)
  (hn:x≠"__name__" :=by decide) (hd:(x==("__debug__" : Str))=false:=by decide):wpAny (model X.prog X.w) X.A (eval (.Name x pos) X.env) Q E s:=by
 obtain ⟨mb,h1,h2⟩:=I.mod.blt
 exact Calls.Name_function_global I.ok.kind hg (Calls.loadGlobal_builtin (by rw [I.ok.glob];exact I.mod.glob.keeps I.bk) hm (by rw [I.ok.blt];exact h1.keeps I.bk) ((h2 x hn).trans hv) h) hd
theorem Gd {x:Str}{v:V}{u:Value}{pos:Pos}(hg:Gl X x) (hm:X.mg x=some u) (r:RelV v u) (hd:(x==("__debug__" : Str))=false:=by decide):PE X (.Name x pos) (tC v):=
 fun _ _ _ H _ I h=>vF I hg hm ⟨v,H,I,r,h⟩ hd
theorem Ge {x:Str}{v:V}{u:Value}{pos:Pos}(hg:Gl X x) (hm:X.mg x=none) (hv:bootBuiltins x=some u) (r:RelV v u) (hn:x≠"__name__" :=by decide) (hd:(x==("__debug__" : Str))=false:=by decide):PE X (.Name x pos) (tC v):=
 fun _ _ _ H _ I h=>jA I hg hm hv ⟨v,H,I,r,h⟩ hn hd
variable {a b:Expr}{ta tb:TE}{pos:Pos}
variable {tA Ei:TT}{rest:List Expr}
noncomputable def RP (t u:TT):TT:=fun σ H Q=>t σ H fun c H1=>if c=true then u σ H1 Q else Q false H1
noncomputable def UW (t u:TT):TT:=fun σ H Q=>t σ H fun c H1=>if c=true then Q true H1 else u σ H1 Q
noncomputable def RQ (t:TT):TT:=fun σ H Q=>t σ H fun c H1=>Q (!c) H1
theorem Gf (ha:PT X a tA):PW X (.BoolOp .And [a] pos) tA:=by
 intro wh pins s σ H Q I h
 refine isTrue_and (bQ (ha pins s σ H Q I h) fun c s1 e=>?_)
 cases c with
 | true=>exact isTrue_and_nil e
 | false=>exact e
theorem Io (ha:PT X a tA):PW X (.BoolOp .Or [a] pos) tA:=by
 intro wh pins s σ H Q I h
 refine isTrue_or (bQ (ha pins s σ H Q I h) fun c s1 e=>?_)
 cases c with
 | false=>exact isTrue_or_nil e
 | true=>exact e
theorem Ip (ha:PT X a tA) (hb:PW X (.BoolOp .And (b :: rest) pos) Ei):PW X (.BoolOp .And (a :: b :: rest) pos) (RP tA Ei):=by
 intro wh pins s σ H Q I h
 refine isTrue_and (bQ (ha pins s σ H _ I h) fun c s1 ⟨H1,I1,q1⟩=>?_)
 cases c with
 | true=>exact hb wh pins s1 σ H1 Q I1 q1
 | false=>exact ⟨H1,I1,q1⟩
theorem NQ (ha:PT X a tA) (hb:PW X (.BoolOp .Or (b :: rest) pos) Ei):PW X (.BoolOp .Or (a :: b :: rest) pos) (UW tA Ei):=by
 intro wh pins s σ H Q I h
 refine isTrue_or (bQ (ha pins s σ H _ I h) fun c s1 ⟨H1,I1,q1⟩=>?_)
 cases c with
 | true=>exact ⟨H1,I1,q1⟩
 | false=>exact hb wh pins s1 σ H1 Q I1 q1
theorem Iq (ha:PT X a tA):PT X (.UnaryOp .Not a pos) (RQ tA):=by
 intro pins s σ H Q I h
 exact isTrue_not (ha pins s σ H (fun c H1=>Q (!c) H1) I h)
noncomputable def NR (ta tb:TE):TE:=fun σ H Q=>ta σ H fun x H1=>∃ c,x=.bl c∧if c=true then tb σ H1 Q else Q (.bl false) H1
noncomputable def RS (ta tb:TE):TE:=fun σ H Q=>ta σ H fun x H1=>∃ c,x=.bl c∧if c=true then Q (.bl true) H1 else tb σ H1 Q
theorem Ir {op}{t:TE}(h:PE X a t):PE X (.BoolOp op [a] pos) t:=fun pins s σ H Q I hw=>BoolOp_one (h pins s σ H Q I hw)
theorem Iu (ha:PE X a ta) (hb:PE X (.BoolOp .And (b :: rest) pos) tb):PE X (.BoolOp .And (a :: b :: rest) pos) (NR ta tb):=by
 intro pins s σ H Q I h
 refine BoolOp_and (bQ (ha pins s σ H _ I h) fun v s1 ⟨x,H1,I1,r1,q1⟩=>?_)
 obtain ⟨c,rfl,q1⟩:=q1
 cases r1
 refine wpAny_truthy_bool ?_
 cases c with
 | true=>exact hb pins s1 σ H1 Q I1 q1
 | false=>exact ⟨.bl false,H1,I1,rfl,q1⟩
theorem NS (ha:PE X a ta) (hb:PE X (.BoolOp .Or (b :: rest) pos) tb):PE X (.BoolOp .Or (a :: b :: rest) pos) (RS ta tb):=by
 intro pins s σ H Q I h
 refine BoolOp_or (bQ (ha pins s σ H _ I h) fun v s1 ⟨x,H1,I1,r1,q1⟩=>?_)
 obtain ⟨c,rfl,q1⟩:=q1
 cases r1
 refine wpAny_truthy_bool ?_
 cases c with
 | false=>exact hb pins s1 σ H1 Q I1 q1
 | true=>exact ⟨.bl true,H1,I1,rfl,q1⟩
noncomputable def UX (t:TT) (ta tb:TE):TE:=fun σ H Q=>t σ H fun c H1=>if c=true then ta σ H1 Q else tb σ H1 Q
theorem BF {c:Expr}(hc:PT X c tA) (ha:PE X a ta) (hb:PE X b tb):PE X (.IfExp c a b pos) (UX tA ta tb):=by
 intro pins s σ H Q I h
 refine wpAny_IfExp (bQ (hc pins s σ H _ I h) fun d s1 ⟨H1,I1,q1⟩=>?_)
 cases d with
 | true=>exact ha pins s1 σ H1 Q I1 q1
 | false=>exact hb pins s1 σ H1 Q I1 q1
end
end L2
namespace L2
open PySem PySem.Spec PyProof.Rows
noncomputable def dY (K:PySem.W.Frag) (H:Hp) (a:Addr) (xs:List V):Prop:=
 Rd H a (.lst xs)∨
  ∃ (o:Obj) (its:Array Value) (n:Nat),K.lookup a=some o∧o.cls=.type "list" ∧o.dict=none∧o.data=.seq its n∧its.size≤sizeLine∧Vals xs its.toList
noncomputable def dM (K:PySem.W.Frag) (H:Hp) (a:Addr) (xs:List V):Prop:=
 Rd H a (.tup xs)∨
  ∃ (o:Obj) (its:Array Value) (n:Nat),K.lookup a=some o∧o.cls=.type "tuple" ∧o.data=.seq its n∧its.size≤sizeLine∧Vals xs its.toList
noncomputable def RT:Value→Option V
 | .none=>some .bz
 | .bool b=>some (.bl b)
 | .int i _=>some (.int i)
 | .str x _=>some (.str x)
 | .bytes b _=>some (.zc b)
 | .float b _=>some (.vA b)
 | .ref a=>some (.ref a)
 | .type n=>some (.ty n)
 | _=>none
theorem RelV.abs {x:V}{u:Value}(r:RelV x u):RT u=some x:=by
 cases x with
 | bz=>cases r;rfl
 | bl _=>cases r;rfl
 | int _=>obtain ⟨t,rfl⟩:=r;rfl
 | str _=>obtain ⟨t,rfl⟩:=r;rfl
 | zc _=>obtain ⟨t,rfl⟩:=r;rfl
 | vA _=>obtain ⟨t,rfl⟩:=r;rfl
 | ref _=>cases r;rfl
 | ty _=>cases r;rfl
theorem RelV.inj {x y:V}{u:Value}(r:RelV x u) (q:RelV y u):x=y:=Option.some.inj (r.abs.symm.trans q.abs)
theorem Vals.inj:∀ {xs ys:List V}{us:List Value},Vals xs us→Vals ys us→xs=ys
 | _,_,_,.nil,.nil=>rfl
 | _,_,_,.cons r t,.cons r' t'=>by rw [r.inj r',Vals.inj t t']
section
variable {X:Cx}{pins:List (Addr×Obj)}{σ:St}{H:Hp}{s:Shared}{a:Addr}{xs ys:List V}
theorem dY.of {K:PySem.W.Frag}(h:H a=some (.lst xs)):dY K H a xs:=.inl (.inl h)
theorem dM.of {K:PySem.W.Frag}(h:H a=some (.tup xs)):dM K H a xs:=.inl (.inl h)
theorem Inv.list (I:Inv X pins σ H s) (h:dY X.K H a xs):∃ its:List Value,Vals xs its∧PlainL s.heap a its.toArray∧xs.length≤sizeLine:=by
 rcases h with h | ⟨o,its,n,hk,hc,hd,hs,hz,r⟩
 ·obtain ⟨z,its,n,r,e⟩:=h.ok I.hok
  exact ⟨its,r,⟨_,n,e,rfl,rfl,rfl⟩,z⟩
 ·refine ⟨its.toList,r,⟨o,n,I.gw a o hk,hc,hd,by simpa using hs⟩,?_⟩
  have e:=r.length
  simp only [Array.length_toList] at e
  omega
theorem Inv.tuple (I:Inv X pins σ H s) (h:dM X.K H a xs):∃ its:List Value,Vals xs its∧IsTup s.heap a its.toArray∧xs.length≤sizeLine:=by
 rcases h with h | ⟨o,its,n,hk,hc,hs,hz,r⟩
 ·obtain ⟨z,its,r,p⟩:=h.ok I.hok
  exact ⟨its,r,p,z⟩
 ·refine ⟨its.toList,r,⟨o,I.gw a o hk,hc,n,by simpa using hs⟩,?_⟩
  have e:=r.length
  simp only [Array.length_toList] at e
  omega
theorem Inv.nZ (I:Inv X pins σ H s) (h:dY X.K H a xs) (h':dY X.K H a ys):xs=ys:=by
 obtain ⟨its,r,⟨o,n,e,_,_,d⟩,_⟩:=I.list h
 obtain ⟨its',r',⟨o',n',e',_,_,d'⟩,_⟩:=I.list h'
 rw [e] at e';cases e'
 rw [d] at d'
 injection d' with d1 _
 have:its=its':=by simpa using congrArg Array.toList d1
 subst this
 exact r.inj r'
theorem Inv.lV (I:Inv X pins σ H s) (h:dM X.K H a xs) (h':dM X.K H a ys):xs=ys:=by
 obtain ⟨its,r,⟨o,e,_,n,d⟩,_⟩:=I.tuple h
 obtain ⟨its',r',⟨o',e',_,n',d'⟩,_⟩:=I.tuple h'
 rw [e] at e';cases e'
 rw [d] at d'
 injection d' with d1 _
 have:its=its':=by simpa using congrArg Array.toList d1
 subst this
 exact r.inj r'
end
abbrev Cx.kc (X:Cx) (E:Value→Shared→Prop):Cx:={ X with xe:=E }
abbrev Cx.qO (X:Cx):Cx:=X.kc fun _ _=>False
theorem Cx.Ok.kc {X:Cx}(ok:X.Ok) (E:Value→Shared→Prop):(X.kc E).Ok:=
 ⟨ok.mod,ok.kind,ok.glob,ok.blt,ok.above,ok.inj,ok.has,ok.vC,ok.hd,ok.frames,ok.stk,ok.Ef,ok.bs,ok.qM,ok.qf,ok.qg,ok.je,ok.sQ⟩
theorem Cx.Ok.ja {X:Cx}{E:Value→Shared→Prop}(ok:(X.kc E).Ok):X.Ok:=
 ⟨ok.mod,ok.kind,ok.glob,ok.blt,ok.above,ok.inj,ok.has,ok.vC,ok.hd,ok.frames,ok.stk,ok.Ef,ok.bs,ok.qM,ok.qf,ok.qg,ok.je,ok.sQ⟩
section
variable {X:Cx}{pins:List (Addr×Obj)}{σ:St}{H:Hp}{s:Shared}{E:Value→Shared→Prop}
theorem Inv.kc (I:Inv X pins σ H s) (E:Value→Shared→Prop):Inv (X.kc E) pins σ H s:=⟨I.ok.kc E,I.os,I.bare,I.base,I.loc,I.cell,I.free,I.iS,I.pin,I.hok,I.len⟩
theorem Inv.ja (I:Inv (X.kc E) pins σ H s):Inv X pins σ H s:=⟨I.ok.ja,I.os,I.bare,I.base,I.loc,I.cell,I.free,I.iS,I.pin,I.hok,I.len⟩
theorem SP.ja {D:Ends}{f:Flow}{s':Shared}(h:SP (X.kc E) pins D f s'):SP X pins D f s':=by
 cases f with
 | next=>obtain ⟨σ',H',I,q⟩:=h;exact ⟨σ',H',I.ja,q⟩
 | brk=>obtain ⟨σ',H',I,q⟩:=h;exact ⟨σ',H',I.ja,q⟩
 | cont=>obtain ⟨σ',H',I,q⟩:=h;exact ⟨σ',H',I.ja,q⟩
 | ret u=>obtain ⟨v,σ',H',I,r,q⟩:=h;exact ⟨v,σ',H',I.ja,r,q⟩
theorem iJ.qO {st:List Stmt}{t:TS}(h:iJ X.qO st t):iJ X st t:=fun pins s σ H D I hw=>
 wpAny_mono (h pins s σ H D (I.kc _) hw) (fun _ _ q=>q.ja) fun _ _ z=>False.elim z
end
section
variable {X:Cx}{st:Stmt}{rest:List Stmt}{t u:TS}{e:Expr}{te:TE}{pos:Pos}
noncomputable def NT:TS:=fun D σ H=>D.nx σ H
noncomputable def RU (t u:TS):TS:=fun D σ H=>t { D with nx:=u D } σ H
theorem Gg:iJ X [] NT:=fun _ _ σ H _ I h=>wpAny_execs_nil ⟨σ,H,I,h⟩
theorem BG (h1:PS X st t) (h2:iJ X rest u):iJ X (st :: rest) (RU t u):=by
 intro pins s σ H D I h
 refine wpAny_execs_cons (bQ (h1 pins s σ H { D with nx:=u D } I h) fun f s1 q=>?_)
 cases f with
 | next=>
  obtain ⟨σ',H',I',q⟩:=q
  exact h2 pins s1 σ' H' D I' q
 | ret v=>exact q
 | brk=>exact q
 | cont=>exact q
theorem Inv.quiet {pins:List (Addr×Obj)}{σ:St}{H:Hp}{s:Shared}(I:Inv X pins σ H s):interactive X.env=false:=by simp [interactive,I.ok.kind]
noncomputable def NU (te:TE):TS:=fun D σ H=>te σ H fun _ H1=>D.nx σ H1
theorem Gh (he:PE X e te) (hs:swapsWith e none pos.line X.env=pure false:=by rfl):PS X (.Expr e pos) (NU te):=by
 intro pins s σ H D I h
 exact wpAny_Expr_any (bQ (he pins s σ H _ I h) fun v s1 ⟨x,H1,I1,r1,q1⟩=>⟨σ,H1,I1,q1⟩) I.quiet hs
noncomputable def RW (te:TE):TS:=fun D σ H=>te σ H D.rt
theorem Iv (he:PE X e te):PS X (.Return (some e) pos) (RW te):=by
 intro pins s σ H D I h
 exact wpAny_Return_some (bQ (he pins s σ H _ I h) fun v s1 ⟨x,H1,I1,r1,q1⟩=>⟨x,σ,H1,I1,r1,q1⟩)
noncomputable def RX (c:TT) (t u:TS):TS:=fun D σ H=>c σ H fun b H1=>if b=true then t D σ H1 else u D σ H1
theorem NV {c:Expr}{a b:List Stmt}{tc:TT}(hc:PT X c tc) (ha:iJ X a t) (hb:iJ X b u):PS X (.If c a b pos) (RX tc t u):=by
 intro pins s σ H D I h
 refine wpAny_If (bQ (hc pins s σ H _ I h) fun d s1 ⟨H1,I1,q1⟩=>?_)
 cases d with
 | true=>exact ha pins s1 σ H1 D I1 q1
 | false=>exact hb pins s1 σ H1 D I1 q1
noncomputable def Iw:TS:=fun _ _ _=>False
theorem BH:PS X st Iw:=fun _ _ _ _ _ _ h=>h.elim
end
abbrev TG:=V→St→Hp→(St→Hp→Prop)→Prop
abbrev qP:=List V→St→Hp→(St→Hp→Prop)→Prop
noncomputable def PG (X:Cx) (target:Expr) (t:TG):Prop:=
 ∀ (pins:List (Addr×Obj)) (s:Shared) (σ:St) (H:Hp) (v:V) (u:Value) (Q:St→Hp→Prop),Inv X pins σ H s→RelV v u→t v σ H Q→
  wpAny (model X.prog X.w) X.A (assign target X.env u) (fun _ s'=>∃ σ' H',Inv X pins σ' H' s'∧Q σ' H') X.xe s
noncomputable def nH (X:Cx) (ts:List Expr) (t:qP):Prop:=
 ∀ (pins:List (Addr×Obj)) (s:Shared) (σ:St) (H:Hp) (vs:List V) (us:List Value) (Q:St→Hp→Prop),Inv X pins σ H s→Vals vs us→t vs σ H Q→
  wpAny (model X.prog X.w) X.A (assignInOrder ((assignEach ts X.env).map (·.2)) us) (fun _ s'=>∃ σ' H',Inv X pins σ' H' s'∧Q σ' H') X.xe s
section
variable {X:Cx}{pos:Pos}
noncomputable def Ej (i:Nat):TG:=fun v σ H Q=>Q (σ.set i (some v)) H
theorem vG {i:Nat}{x:Str}(hN:X.N.Nodup) (hi:X.N[i]?=some x) (hx:Loc X.env.scope x) (hf:X.fn x=true∨X.env.scope.names.lookup x=some .local:=by first | exact .inl rfl | exact .inr rfl | assumption):PG X (.Name x pos) (Ej i):=by
 intro pins s σ H v u Q I r h
 exact wpAny_assign_Name (sV I hN hi hx r (fun s' I'=>⟨_,H,I',h⟩) hf)
noncomputable def R0:qP:=fun vs σ H Q=>vs=[]∧Q σ H
noncomputable def NW (t:TG) (u:qP):qP:=fun vs σ H Q=>∃ v r,vs=v :: r∧t v σ H fun σ' H'=>u r σ' H' Q
theorem Gi:nH X [] R0:=by
 intro pins s σ H vs us Q I r h
 obtain ⟨e,h⟩:=h
 subst e
 cases r
 exact assignInOrder_nil ⟨σ,H,I,h⟩
theorem BJ {e:Expr}{es:List Expr}{t:TG}{u:qP}(h1:PG X e t)(h2:nH X es u)
  (hs:(assignEach (e :: es) X.env).map (·.2)=assign e X.env :: (assignEach es X.env).map (·.2):=by rfl):nH X (e :: es) (NW t u):=by
 intro pins s σ H vs us Q I r h
 obtain ⟨v,vr,e1,h⟩:=h
 subst e1
 cases r with
 | cons r rr=>
  rw [hs]
  refine assignInOrder_cons (bQ (h1 pins s σ H _ _ _ I r h) fun _ s1 ⟨σ1,H1,I1,q1⟩=>?_)
  exact h2 pins s1 σ1 H1 _ _ Q I1 rr q1
noncomputable def R6 (K:PySem.W.Frag) (n:Nat) (t:qP):TG:=fun v σ H Q=>∃ a xs,v=.ref a∧dM K H a xs∧xs.length=n∧t xs σ H Q
theorem Iz {es:List Expr}{k:Nat}{t:qP}{n:Nat}(hc:X.calm=true)(h:nH X es t)
  (hn:(assignEach es X.env).length=n:=by rfl) (hst:(assignEach es X.env).findIdx? (·.1)=none:=by rfl):PG X (.Tuple es k pos) (R6 X.K n t):=by
 intro pins s σ H v u Q I r hw
 obtain ⟨a,xs,e1,hq,hl,hw⟩:=hw
 subst e1
 cases r
 obtain ⟨its,rv,ht,hz⟩:=I.tuple hq
 refine assign_Tuple_tuple (I.ok.hd hc) ht (by simp [hn,←hl,rv.length]) hst fun h' hx=>?_
 have I1:Inv X pins σ H { s with heap:=h' }:=I.kept (t':=s.toks) fun b o e=>hx b o (Nat.ne_of_lt (Heap.lt_size e)) e
 exact h pins _ σ H xs _ Q I1 (by simpa using rv) hw
noncomputable def R7 (te:TE) (g:TG):TS:=fun D σ H=>te σ H fun x H1=>g x σ H1 D.nx
theorem zj {i:Nat}{x:Str}{e:Expr}{te:TE}{pos':Pos}(hN:X.N.Nodup) (hi:X.N[i]?=some x) (hx:Loc X.env.scope x) (he:PE X e te) (hs:swapsWith e (some (.Name x pos')) pos.line X.env=pure false:=by rfl) (hf:X.fn x=true∨X.env.scope.names.lookup x=some .local:=by first | exact .inl rfl | exact .inr rfl | assumption) :
  PS X (.Assign [.Name x pos'] e pos) (R7 te (Ej i)):=by
 intro pins s σ H D I h
 refine wpAny_Assign_Name (bQ (he pins s σ H _ I h) fun v s1 ⟨y,H1,I1,r1,q1⟩=>?_) hs
 exact sV I1 hN hi hx r1 (fun s2 I2=>⟨_,H1,I2,q1⟩) hf
end
section
variable {X:Cx}{pos:Pos}
noncomputable def IA (c:TT) (tb:TS):TS:=fun D σ H=>∃ W:Nat→St→Hp→Prop,(∃ m,W m σ H)∧∀ m σ H,W m σ H→
 c σ H fun b H1=>if b=true then ∃ N:St→Hp→Prop,(∀ σ' H',N σ' H'→∃ m',m'<m∧W m' σ' H')∧tb { D with nx:=N,ct:=N,bk:=D.nx } σ H1 else D.nx σ H1
theorem BK {c:Expr}{body:List Stmt}{tc:TT}{tb:TS}(hp:PassesOwn (model X.prog X.w) X.A X.env X.xe) (hc:PT X c tc) (hb:iJ X body tb):PS X (.While c body [] pos) (IA tc tb):=by
 intro pins s σ H D I h
 obtain ⟨W,⟨m0,w0⟩,turn⟩:=h
 refine wpAny_While (codeAny_whileLoop (fun n s'=>∃ σ' H',Inv X pins σ' H' s'∧W n σ' H') ?_ m0 ⟨σ,H,I,w0⟩)
 rintro n s1 ⟨σ1,H1,I1,w1⟩
 refine wpAny_passesOwn hp (bQ (hc pins s1 σ1 H1 _ I1 (turn n σ1 H1 w1)) fun b s2 ⟨H2,I2,q2⟩=>?_)
 cases b with
 | true=>
  obtain ⟨N,hN,q2⟩:=q2
  rw [if_pos rfl]
  refine wpAny_passesOwn hp (bQ (hb pins s2 σ1 H2 _ I2 q2) fun f s3 q3=>?_)
  cases f with
  | next=>
   obtain ⟨σ3,H3,I3,n3⟩:=q3
   obtain ⟨m',hm,w3⟩:=hN σ3 H3 n3
   exact ⟨m',hm,σ3,H3,I3,w3⟩
  | cont=>
   obtain ⟨σ3,H3,I3,n3⟩:=q3
   obtain ⟨m',hm,w3⟩:=hN σ3 H3 n3
   exact ⟨m',hm,σ3,H3,I3,w3⟩
  | brk=>exact q3
  | ret v=>exact q3
 | false=>
  rw [if_neg Bool.false_ne_true]
  exact wpAny_execs_nil ⟨σ1,H2,I2,q2⟩
end
structure It where
 go:Nat→Hp→Prop
 Ek:Nat→Hp→V→Hp→Prop
 stop:Nat→Hp→Prop
noncomputable def gp (X:Cx) (pins:List (Addr×Obj)) (H:Hp) (b:Addr):Prop:=
 H b=none∧b≠X.env.locals∧b∉X.fs∧(b∈X.ex∨X.s₀.heap.objs.size≤b)∧(∀ x c,X.env.cells.lookup x=some c→c≠b)∧∀ p∈X.pn++pins,p.1≠b
theorem Inv.xC {X:Cx}{pins:List (Addr×Obj)}{σ:St}{H H':Hp}{s:Shared}{b:Addr}(I:Inv X pins σ H s) (hb:s.heap.objs.size≤b) (hn:H' b=none):gp X pins H' b:=by
 refine ⟨hn,Nat.ne_of_gt (Nat.lt_of_lt_of_le I.lt hb),I.RM hb,.inr (Nat.le_trans I.sz hb),fun x c e z=>?_,fun p hp z=>?_⟩
 ·obtain ⟨v,q⟩:=I.cell x c e
  exact absurd (Nat.lt_of_lt_of_le q.lt (by rw [z];exact hb)) (Nat.lt_irrefl _)
 ·exact absurd (Nat.lt_of_lt_of_le (Heap.lt_size (I.pin p hp).1) (by rw [z];exact hb)) (Nat.lt_irrefl _)
structure Turn (P:Program) (w:World) (K:PySem.W.Frag) (tg:Expr) (J:It) (fp:List Addr) (it:Addr) (tn:Nat→Heap→Prop):Prop where
 mem:it∈fp
 obj:∀ i h,tn i h→∀ b∈fp,∃ o,h.get? b=some o∧∀ v,o.data≠.cell v
 keep:∀ i h h',tn i h→(∀ b∈fp,∀ o,h.get? b=some o→h'.get? b=some o)→tn i h'
 item:∀ (X:Cx),X.prog=P→X.w=w→X.K=K→X.calm=true→∀ (i:Nat) (pins:List (Addr×Obj)) (s:Shared) (σ:St) (H:Hp) (E:Value→Shared→Prop),Inv X pins σ H s→(∀ b∈fp,gp X pins H b)→tn i s.heap→J.go i H→
  wpAny (model P w) X.A (pyNext (.ref it)) (fun r s1=>∃ u,r=some u∧
   wpAny (model P w) X.A (letOwnedTupleGo tg (.ref it) u) (fun _ s2=>∃ x H',Inv X pins σ H' s2∧RelV x u∧J.Ek i H x H'∧tn (i+1) s2.heap∧∀ b∈fp,H' b=none) E s1) E s
 done:∀ (X:Cx),X.prog=P→X.w=w→X.K=K→X.calm=true→∀ (i:Nat) (pins:List (Addr×Obj)) (s:Shared) (σ:St) (H:Hp) (E:Value→Shared→Prop),Inv X pins σ H s→(∀ b∈fp,gp X pins H b)→tn i s.heap→J.stop i H→
  wpAny (model P w) X.A (pyNext (.ref it)) (fun r s1=>r=none∧Inv X pins σ H s1) E s
 self:∀ (A:Around) (i:Nat) (s:Shared) (Q:Value→Shared→Prop) (E:Value→Shared→Prop),tn i s.heap→Q (.ref it) s→wpAny (model P w) A (pyIter (.ref it)) Q E s
abbrev TI:=St→Hp→(It→Hp→Prop)→Prop
noncomputable def PK (X:Cx) (pins:List (Addr×Obj)) (σ:St) (tg:Expr) (R:It→Hp→Prop) (itv:Value) (s2:Shared):Prop:=
 ∃ (it:Addr) (fp:List Addr) (tn:Nat→Heap→Prop) (J:It) (H':Hp),itv=.ref it∧Inv X pins σ H' s2∧Turn X.prog X.w X.K tg J fp it tn∧tn 0 s2.heap∧(∀ b∈fp,gp X pins H' b)∧R J H'
noncomputable def PI (X:Cx) (tg iter:Expr) (wi:TI):Prop:=
 ∀ (pins:List (Addr×Obj)) (s:Shared) (σ:St) (H:Hp) (R:It→Hp→Prop),Inv X pins σ H s→wi σ H R→
  wpAny (model X.prog X.w) X.A (eval iter X.env) (fun v s1=>wpAny (model X.prog X.w) X.A (pyIter v) (PK X pins σ tg R) X.xe s1) X.xe s
theorem xD {M:Model}{A:Around}{E:Value→Shared→Prop}{s:Shared}{tg:Expr}{it:Addr}{u:Value}{o:Obj}{n:String}{vs:Array Value}{Q:Unit→Shared→Prop}(ho:s.heap.get? it=some o)(hc:o.cls=.type n)(hd:o.data=.fields vs)
    (hn:["enumerate","zip","dict_itemiterator","dict_reverseitemiterator","odict_iterator","itertools.zip_longest","itertools.pairwise"].contains n=false) (hQ:Q () s):wpAny M A (letOwnedTupleGo tg (.ref it) u) Q E s:=by
  unfold letOwnedTupleGo
  cases tg <;> first
    | exact wpAny_pure hQ
    | (cases u <;> first
        | exact wpAny_pure hQ
        | (refine wpAny_bind (wpAny_load ho ?_)
           rw [hc,hd]
           show wpAny M A (if (["enumerate","zip","dict_itemiterator","dict_reverseitemiterator","odict_iterator","itertools.zip_longest","itertools.pairwise"].contains n&&vs[0]?==some (rawInt _))=true then _ else _) Q E s
           rw [if_neg (by intro h;rw [hn,Bool.false_and] at h;cases h)]
           exact wpAny_pure hQ))
noncomputable def PL (K:PySem.W.Frag) (a:Addr):It:=
 ⟨fun i H=>∃ xs x,dY K H a xs∧xs[i]?=some x,fun i H x H'=>H'=H∧∀ xs,dY K H a xs→xs[i]?=some x,fun i H=>∃ xs,dY K H a xs∧xs.length≤i⟩
noncomputable def PM (K:PySem.W.Frag) (a:Addr):It:=
 ⟨fun i H=>∃ xs x,dM K H a xs∧xs[i]?=some x,fun i H x H'=>H'=H∧∀ xs,dM K H a xs→xs[i]?=some x,fun i H=>∃ xs,dM K H a xs∧xs.length≤i⟩
noncomputable def El (lo:Int) (n:Nat):It:=⟨fun i _=>i<n,fun i H x H'=>H'=H∧x=.int (lo+i),fun i _=>n≤i⟩
theorem zk {P:Program}{w:World}{K:PySem.W.Frag}{tg:Expr}(a it:Addr):Turn P w K tg (PL K a) [it] it (fun i h=>h.IsListIter it a i) where
 mem:=by simp
 obj:=fun i h st b hb=>by
  have e:b=it:=by simpa using hb
  subst e
  obtain ⟨o,e,c,d⟩:=st
  exact ⟨o,e,fun v z=>by rw [d] at z;cases z⟩
 keep:=fun i h h' st k=>st.at fun o e=>k it (by simp) o e
 item:=by
  intro X hP hw hK hc i pins s σ H E I hf st hg
  subst hP hw hK
  obtain ⟨xs,x,hq,hx⟩:=hg
  obtain ⟨its,rv,p,hz⟩:=I.list hq
  obtain ⟨u,hu,ru⟩:=rv.get hx
  obtain ⟨f0,f1,f2,f3,f4,f5⟩:=hf it (by simp)
  refine wpAny_pyNext_list_item st p.isList (x:=u) (by simpa using hu) fun h' st' sb=>?_
  have I1:Inv X pins σ H { s with heap:=h' }:=I.turned (t':=s.toks) (fun b o hb e=>(sb.2 b hb).trans e) f0 f1 f3 f4 f5
  obtain ⟨o,e,c,d⟩:=id st'
  exact ⟨u,rfl,xD (s:={ s with heap:=h' }) e c d (by decide) ⟨x,H,I1,ru,⟨rfl,fun ys hy=>by rw [I.nZ hy hq];exact hx⟩,st',fun b hb=>(hf b hb).1⟩⟩
 done:=by
  intro X hP hw hK hc i pins s σ H E I hf st hg
  subst hP hw hK
  obtain ⟨xs,hq,hx⟩:=hg
  obtain ⟨its,rv,p,hz⟩:=I.list hq
  obtain ⟨f0,f1,f2,f3,f4,f5⟩:=hf it (by simp)
  have hl:=rv.length
  exact wpAny_pyNext_list_end (I.ok.hd hc) st p.isList (by simp;omega) fun h' eb=>⟨rfl,I.turned (t':=s.toks) (fun b o hb e=>eb b o hb e) f0 f1 f3 f4 f5⟩
 self:=fun _ _ _ _ _ st h=>wpAny_pyIter_listiter st h
theorem xE {P:Program}{w:World}{K:PySem.W.Frag}{tg:Expr}(a it:Addr):Turn P w K tg (PM K a) [it] it (fun i h=>h.IsTupleIter it a i) where
 mem:=by simp
 obj:=fun i h st b hb=>by
  have e:b=it:=by simpa using hb
  subst e
  obtain ⟨o,e,c,d⟩:=st
  exact ⟨o,e,fun v z=>by rw [d] at z;cases z⟩
 keep:=fun i h h' st k=>st.at fun o e=>k it (by simp) o e
 item:=by
  intro X hP hw hK hc i pins s σ H E I hf st hg
  subst hP hw hK
  obtain ⟨xs,x,hq,hx⟩:=hg
  obtain ⟨its,rv,p,hz⟩:=I.tuple hq
  obtain ⟨u,hu,ru⟩:=rv.get hx
  obtain ⟨f0,f1,f2,f3,f4,f5⟩:=hf it (by simp)
  refine wpAny_pyNext_tuple_item st (show s.heap.IsTuple a its.toArray from p) (x:=u) (by simpa using hu) fun h' st' sb=>?_
  have I1:Inv X pins σ H { s with heap:=h' }:=I.turned (t':=s.toks) (fun b o hb e=>(sb.2 b hb).trans e) f0 f1 f3 f4 f5
  obtain ⟨o,e,c,d⟩:=id st'
  exact ⟨u,rfl,xD (s:={ s with heap:=h' }) e c d (by decide) ⟨x,H,I1,ru,⟨rfl,fun ys hy=>by rw [I.lV hy hq];exact hx⟩,st',fun b hb=>(hf b hb).1⟩⟩
 done:=by
  intro X hP hw hK hc i pins s σ H E I hf st hg
  subst hP hw hK
  obtain ⟨xs,hq,hx⟩:=hg
  obtain ⟨its,rv,p,hz⟩:=I.tuple hq
  obtain ⟨f0,f1,f2,f3,f4,f5⟩:=hf it (by simp)
  have hl:=rv.length
  exact wpAny_pyNext_tuple_end (I.ok.hd hc) st (show s.heap.IsTuple a its.toArray from p) (by simp;omega) fun h' eb=>⟨rfl,I.turned (t':=s.toks) (fun b o hb e=>eb b o hb e) f0 f1 f3 f4 f5⟩
 self:=fun _ _ _ _ _ st h=>wpAny_pyIter_tupleiter st h
theorem xF {P:Program}{w:World}{K:PySem.W.Frag}{tg:Expr}(it:Addr) (lo:Int) (n:Nat):Turn P w K tg (El lo n) [it] it (fun i h=>IsRangeIter h it (lo+(i:Nat)*1) ((n:Int) - (i:Nat)) 1) where
 mem:=by simp
 obj:=fun i h st b hb=>by
  have e:b=it:=by simpa using hb
  subst e
  exact ⟨_,st,fun v z=>by
   have z':Data.fields _=Data.cell v:=z
   cases z'⟩
 keep:=fun i h h' st k=>k it (by simp) _ st
 item:=by
  intro X hP hw hK hc i pins s σ H E I hf st hg
  subst hP hw hK
  obtain ⟨f0,f1,f2,f3,f4,f5⟩:=hf it (by simp)
  have W:=Walks.range (prog:=X.prog) (w:=X.w) (I.ok.hd hc) it lo 1 n
  refine W.item i s _ _ hg st fun v h' tk hv st' kk=>?_
  obtain ⟨t,rfl⟩:=hv
  have I1:Inv X pins σ H { s with heap:=h',toks:=tk }:=I.turned (fun b o hb e=>kk b o (by simpa using hb) e) f0 f1 f3 f4 f5
  refine ⟨_,rfl,xD (s:={ s with heap:=h',toks:=tk }) (n:="range_iterator") st' rfl rfl (by decide) ⟨.int (lo+i),H,I1,⟨t,?_⟩,⟨rfl,rfl⟩,st',fun b hb=>(hf b hb).1⟩⟩
  rw [Int.mul_one]
 done:=by
  intro X hP hw hK hc i pins s σ H E I hf st hg
  subst hP hw hK
  obtain ⟨f0,f1,f2,f3,f4,f5⟩:=hf it (by simp)
  exact wpAny_pyNext_range_end (I.ok.hd hc) st (by have:n≤i:=hg;omega) fun h' eb=>⟨rfl,I.turned (t':=s.toks) (fun b o hb e=>eb b o hb e) f0 f1 f3 f4 f5⟩
 self:=fun _ _ _ _ _ st h=>wpAny_pyIter_rangeiter st h
end L2
namespace L2
open PySem PySem.Spec PyProof.Rows
section
variable {X:Cx}{tg:Expr}
theorem BL {pins:List (Addr×Obj)}{σ:St}{H:Hp}{s:Shared}{R:It→Hp→Prop}{E:Value→Shared→Prop}{lo hi:Int}{t u v:Tok}{tk:Nat}(I:Inv X pins σ H s) (h1:-(2 ^ 62)≤lo) (h2:lo<2 ^ 62) (h3:-(2 ^ 62)≤hi) (h4:hi<2 ^ 62)
  (q:R (El lo (hi - lo).toNat) H):wpAny (model X.prog X.w) X.A (pyIter (.ref s.heap.objs.size)) (PK X pins σ tg R) E { s with heap:=s.heap.push { cls:=.type "range",data:=.fields #[.int lo t,.int hi u,.int 1 v]},toks:=tk }:=by
 refine wpAny_pyIter_range (IsRange.new ..) (small_one h1 h2 h3 h4) ?_
 have I1:Inv X pins σ H { s with heap:=s.heap.push { cls:=.type "range",data:=.fields #[.int lo t,.int hi u,.int 1 v]},toks:=tk }:=I.kept fun b o e=>Heap.get?_push_of_some _ e
 refine ⟨(s.heap.push { cls:=.type "range",data:=.fields #[.int lo t,.int hi u,.int 1 v]}).objs.size,[(s.heap.push { cls:=.type "range",data:=.fields #[.int lo t,.int hi u,.int 1 v]}).objs.size],_,_,H,rfl,
  I1.kept (t':=tk) fun b o e=>Heap.get?_push_of_some _ e,xF _ lo (hi - lo).toNat,?_,fun b hb=>?_,q⟩
 ·have e1:lo+((0:Nat):Int)*1=lo:=by simp
  have e2:(((hi - lo).toNat:Nat):Int) - ((0:Nat):Int)=Builtin.Range.rangeSize lo hi 1:=by rw [rangeSize_one];split <;> omega
  show IsRangeIter _ _ (lo+((0:Nat):Int)*1) ((((hi - lo).toNat:Nat):Int) - ((0:Nat):Int)) 1
  rw [e1,e2]
  exact Heap.get?_push_size _ rfl
 ·have e:b=(s.heap.push { cls:=.type "range",data:=.fields #[.int lo t,.int hi u,.int 1 v]}).objs.size:=by simpa using hb
  subst e
  exact I1.xC (Nat.le_refl _) (I1.hok.fresh (Nat.le_refl _))
noncomputable def NX (ta:TA):TI:=fun σ H R=>ta σ H fun vs H1=>∃ j:Int,vs=[.int j]∧-(2 ^ 62)≤j∧j<2 ^ 62∧R (El 0 j.toNat) H1
theorem zl {a:Expr}{ta:TA}{p pos:Pos}(hg:Gl X "range") (hm:X.mg "range" = none) (ha:PA X [a] ta) (hs:starEach [a] X.env=[(false,eval a X.env)]:=by rfl):PI X tg (.Call (.Name "range" p) [a] [] pos) (NX ta):=by
 intro pins s σ H R I h
 refine Call_ (jA I hg hm boot_range (PyProof.Rows.callWith_type1 (bQ (ha pos pins s σ H _ I h) fun us s1 ⟨vs,H1,I1,r1,q1⟩=>?_) hs rfl))
 obtain ⟨j,e,q1,q2,q⟩:=q1
 subst e
 cases r1 with
 | cons r rr=>
  cases rr
  obtain ⟨t,rfl⟩:=r
  exact call_range_1 (BL I1 (by omega) (by omega) q1 q2 (by simpa using q))
noncomputable def R8 (wi:TI) (g:TG) (tb:TS):TS:=fun D σ H=>wi σ H fun J H1=>∃ W:Nat→Nat→St→Hp→Prop,(∃ m,W 0 m σ H1)∧∀ i m σ H,W i m σ H→
 (J.stop i H∧D.nx σ H)∨(J.go i H∧∃ N:St→Hp→Prop,(∀ σ' H',N σ' H'→∃ m',m'<m∧W (i+1) m' σ' H')∧∀ x H',J.Ek i H x H'→g x σ H' fun σ2 H2=>tb { D with nx:=N,ct:=N,bk:=D.nx } σ2 H2)
noncomputable def lW (fp:List Addr) (h:Heap):List (Addr×Obj):=fp.filterMap fun b=>(h.get? b).map fun o=>(b,o)
theorem jk {fp:List Addr}{h:Heap}{b:Addr}{o:Obj}(hb:b∈fp) (e:h.get? b=some o):(b,o)∈lW fp h:=List.mem_filterMap.mpr ⟨b,hb,by rw [e];rfl⟩
theorem zm {fp:List Addr}{h:Heap}{p:Addr×Obj}(hp:p∈lW fp h):p.1∈fp∧h.get? p.1=some p.2:=by
 obtain ⟨b,hb,e⟩:=List.mem_filterMap.mp hp
 cases q:h.get? b with
 | none=>rw [q] at e;cases e
 | some o=>
  rw [q] at e
  have e':(b,o)=p:=Option.some.inj e
  subst e'
  exact ⟨hb,q⟩
theorem Inv.pinned {pins:List (Addr×Obj)}{σ:St}{H:Hp}{s:Shared}{fp:List Addr}(I:Inv X pins σ H s) (hf:∀ b∈fp,gp X pins H b) (ho:∀ b∈fp,∃ o,s.heap.get? b=some o∧∀ v,o.data≠.cell v):Inv X (pins++lW fp s.heap) σ H s:=
 I.vE fun p hp=>(List.mem_append.mp hp).elim (fun z=>I.pin p (List.mem_append_right _ z)) fun z=>by
  obtain ⟨hb,e⟩:=zm z
  obtain ⟨f0,f1,f2,_⟩:=hf p.1 hb
  obtain ⟨o,e',d⟩:=ho p.1 hb
  rw [e] at e';cases e'
  exact ⟨e,f0,f1,f2,d⟩
theorem Inv.kY {pins pl:List (Addr×Obj)}{σ:St}{H:Hp}{s:Shared}(I:Inv X (pins++pl) σ H s):Inv X pins σ H s:=I.vE fun p hp=>I.pin p (List.mem_append_right _ (List.mem_append_left _ hp))
theorem IB {iter:Expr}{body:List Stmt}{wi:TI}{g:TG}{tb:TS}{pos:Pos}(hp:PassesOwn (model X.prog X.w) X.A X.env X.xe) (hc:X.calm=true) (hi:PI X tg iter wi) (hg:PG X tg g) (hb:iJ X body tb)
  (hs:∀ x,foldedSetIterable iter X.env x=pure x:=by intro _;rfl):PS X (.For tg iter body [] pos) (R8 wi g tb):=by
 intro pins s σ H D I h
 refine wpAny_For (bQ (hi pins s σ H _ I h) fun v s1 h1=>bQ h1 fun itv s2 h2=>?_) hs
 obtain ⟨it,fp,tn,J,H2,e,I2,T,st2,f2,W,⟨m0,w0⟩,turn⟩:=h2
 subst e
 have kZ:∀ {H':Hp},(∀ b∈fp,H' b=none)→∀ b∈fp,gp X pins H' b:=fun hn b hb=>⟨hn b hb,(f2 b hb).2⟩
 refine codeAny_forLoop_any (fun n s'=>∃ i σ' H',Inv X pins σ' H' s'∧tn i s'.heap∧(∀ b∈fp,H' b=none)∧W i n σ' H') ?_ m0 ⟨0,σ,H2,I2,st2,fun b hb=>(f2 b hb).1,w0⟩
 rintro n s3 ⟨i,σ3,H3,I3,st3,cN,w3⟩
 rcases turn i n σ3 H3 w3 with ⟨stop,qn⟩ | ⟨go,N,hN,step⟩
 ·refine wpAny_passesOwn hp (bQ (T.done X rfl rfl rfl hc i pins s3 σ3 H3 X.xe I3 (kZ cN) st3 stop) fun r s4 ⟨hr,I4⟩=>?_)
  subst hr
  exact wpAny_execs_nil ⟨σ3,H3,I4,qn⟩
 ·refine wpAny_passesOwn hp (bQ (T.item X rfl rfl rfl hc i pins s3 σ3 H3 X.xe I3 (kZ cN) st3 go) fun r s4 ⟨u,hr,h4⟩=>?_)
  subst hr
  refine wpAny_passesOwn hp (bQ h4 fun _ s5 ⟨x,H5,I5,r5,y5,vH,qQ⟩=>?_)
  have UY:=I5.pinned (kZ qQ) (T.obj _ _ vH)
  refine wpAny_passesOwn hp (bQ (hg _ s5 σ3 H5 x u _ UY r5 (step x H5 y5)) fun _ s6 ⟨UZ,H6,I6,q6⟩=>?_)
  refine wpAny_passesOwn hp (bQ (hb _ s6 UZ H6 _ I6 q6) fun f s7 q7=>?_)
  have again:∀ {lX:St} {H7:Hp},Inv X (pins++lW fp s5.heap) lX H7 s7→N lX H7→∃ m,m<n∧∃ i σ' H',Inv X pins σ' H' s7∧tn i s7.heap∧(∀ b∈fp,H' b=none)∧W i m σ' H':=fun {lX H7} I7 n7=>by
   obtain ⟨m',hm,w7⟩:=hN lX H7 n7
   refine ⟨m',hm,i+1,lX,H7,I7.kY,T.keep _ _ _ vH fun b hb o e=>(I7.pin (b,o) (List.mem_append_right _ (List.mem_append_right _ (jk hb e)))).1,fun b hb=>?_,w7⟩
   obtain ⟨o,e,d⟩:=T.obj _ _ vH b hb
   exact (I7.pin (b,o) (List.mem_append_right _ (List.mem_append_right _ (jk hb e)))).2.1
  cases f with
  | next=>obtain ⟨lX,H7,I7,n7⟩:=q7;exact again I7 n7
  | cont=>obtain ⟨lX,H7,I7,n7⟩:=q7;exact again I7 n7
  | brk=>obtain ⟨lX,H7,I7,q7⟩:=q7;exact ⟨lX,H7,I7.kY,q7⟩
  | ret v=>obtain ⟨x7,lX,H7,I7,r7,q7⟩:=q7;exact ⟨x7,lX,H7,I7.kY,r7,q7⟩
end
end L2
namespace L2
open PySem PySem.Spec PyProof.Rows
abbrev R2:=V→V→Hp→VK→Prop
noncomputable def dZ (X:Cx) (f:Value→Value→Sem Value) (r:R2):Prop:=
 ∀ (pins:List (Addr×Obj)) (s:Shared) (σ:St) (H:Hp) (x y:V) (v u:Value) (Q:VK),Inv X pins σ H s→RelV x v→RelV y u→r x y H Q→
  wpAny (model X.prog X.w) X.A (f v u) (EP X pins σ Q) X.xe s
noncomputable def IC (X:Cx) (f:Value→Sem Value) (r:V→Hp→VK→Prop):Prop:=
 ∀ (pins:List (Addr×Obj)) (s:Shared) (σ:St) (H:Hp) (x:V) (v:Value) (Q:VK),Inv X pins σ H s→RelV x v→r x H Q→
  wpAny (model X.prog X.w) X.A (f v) (EP X pins σ Q) X.xe s
noncomputable def fM (X:Cx) (f:Value) (r:List V→Hp→VK→Prop):Prop:=
 ∀ (pins:List (Addr×Obj)) (s:Shared) (σ:St) (H:Hp) (xs:List V) (us:List Value) (Q:VK),Inv X pins σ H s→Vals xs us→r xs H Q→
  wpAny (model X.prog X.w) X.A (call f us) (EP X pins σ Q) X.xe s
noncomputable def R9 (X:Cx) (r:V→Hp→(Bool→Hp→Prop)→Prop):Prop:=
 ∀ (pins:List (Addr×Obj)) (s:Shared) (σ:St) (H:Hp) (x:V) (v:Value) (Q:Bool→Hp→Prop),Inv X pins σ H s→RelV x v→r x H Q→
  wpAny (model X.prog X.w) X.A (truthy v) (TP X pins σ Q) X.xe s
noncomputable def zo (r:R2) (ta tb:TE):TE:=fun σ H Q=>ta σ H fun x H1=>tb σ H1 fun y H2=>r x y H2 Q
noncomputable def U0 (r:V→Hp→VK→Prop) (ta:TE):TE:=fun σ H Q=>ta σ H fun x H1=>r x H1 Q
noncomputable def rI (C:Int→Int→Prop) (g:Int→Int→V):R2:=fun x y H Q=>∃ i j,x=.int i∧y=.int j∧C i j∧Q (g i j) H
noncomputable def sW (g:Int→Int→V):R2:=fun x y H Q=>∃ i j,x=.int i∧y=.int j∧Q (g i j) H
noncomputable def rU (g:Int→V):V→Hp→VK→Prop:=fun x H Q=>∃ i,x=.int i∧Q (g i) H
section
variable {X:Cx}{a b c:Expr}{ta tb tc:TE}{pos:Pos}
theorem xG (ha:PE X a ta) (hb:PE X b tb) {pins:List (Addr×Obj)}{s:Shared}{σ:St}{H:Hp}{R:V→V→Hp→Prop}(I:Inv X pins σ H s)
  (h:ta σ H fun x H1=>tb σ H1 fun y H2=>R x y H2) {Q:Value→Shared→Prop} {f:Value→Value→Sem Value}
  (hf:∀ v u s2 x y H2,Inv X pins σ H2 s2→RelV x v→RelV y u→R x y H2→wpAny (model X.prog X.w) X.A (f v u) Q X.xe s2) :
  wpAny (model X.prog X.w) X.A (eval a X.env) (fun v s₁=>wpAny (model X.prog X.w) X.A (eval b X.env) (fun u s₂=>wpAny (model X.prog X.w) X.A (f v u) Q X.xe s₂) X.xe s₁) X.xe s:=by
 refine bQ (ha pins s σ H _ I h) fun v s1 ⟨x,H1,I1,r1,q1⟩=>?_
 refine bQ (hb pins s1 σ H1 _ I1 q1) fun u s2 ⟨y,H2,I2,r2,q2⟩=>?_
 exact hf v u s2 x y H2 I2 r1 r2 q2
theorem NY {op:Operator}{r:R2}(ho:dZ X (binaryOp op) r) (ha:PE X a ta) (hb:PE X b tb):PE X (.BinOp a op b pos) (zo r ta tb):=by
 intro pins s σ H Q I h
 exact wpAny_BinOp (xG ha hb I h fun v u s2 x y H2 I2 rx ry q=>ho pins s2 σ H2 x y v u Q I2 rx ry q)
theorem NZ {op:UnaryOp}{r:V→Hp→VK→Prop}(ho:IC X (unaryOp op) r) (ha:PE X a ta):PE X (.UnaryOp op a pos) (U0 r ta):=by
 intro pins s σ H Q I h
 exact UnaryOp_ (bQ (ha pins s σ H _ I h) fun v s1 ⟨x,H1,I1,r1,q1⟩=>ho pins s1 σ H1 x v Q I1 r1 q1)
theorem ID {f:Value→Value→Sem Value}{C:Int→Int→Prop}{g:Int→Int→Int}
  (rule:∀ (i j:Int) (t u:Tok) (s:Shared) (Q:Value→Shared→Prop) (E:Value→Shared→Prop),C i j→Q (.int (g i j) s.toks) { s with toks:=s.toks+1 }→wpAny (model X.prog X.w) X.A (f (.int i t) (.int j u)) Q E s) :
  dZ X f (rI C fun i j=>.int (g i j)):=by
 intro pins s σ H x y v u Q I rx ry h
 obtain ⟨i,j,rfl,rfl,hc,q⟩:=h
 obtain ⟨t,rfl⟩:=rx
 obtain ⟨t',rfl⟩:=ry
 exact rule i j t t' s _ _ hc ⟨.int (g i j),H,I.tok _,⟨_,rfl⟩,q⟩
theorem IE {f:Value→Value→Sem Value}{g:Int→Int→Int}
  (rule:∀ (i j:Int) (t u:Tok) (s:Shared) (Q:Value→Shared→Prop) (E:Value→Shared→Prop),Q (.int (g i j) s.toks) { s with toks:=s.toks+1 }→wpAny (model X.prog X.w) X.A (f (.int i t) (.int j u)) Q E s) :
  dZ X f (sW fun i j=>.int (g i j)):=by
 intro pins s σ H x y v u Q I rx ry h
 obtain ⟨i,j,rfl,rfl,q⟩:=h
 obtain ⟨t,rfl⟩:=rx
 obtain ⟨t',rfl⟩:=ry
 exact rule i j t t' s _ _ ⟨.int (g i j),H,I.tok _,⟨_,rfl⟩,q⟩
theorem IF {f:Value→Value→Sem Value}{g:Int→Int→Bool}
  (rule:∀ (i j:Int) (t u:Tok) (s:Shared) (Q:Value→Shared→Prop) (E:Value→Shared→Prop),Q (.bool (g i j)) s→wpAny (model X.prog X.w) X.A (f (.int i t) (.int j u)) Q E s) :
  dZ X f (sW fun i j=>.bl (g i j)):=by
 intro pins s σ H x y v u Q I rx ry h
 obtain ⟨i,j,rfl,rfl,q⟩:=h
 obtain ⟨t,rfl⟩:=rx
 obtain ⟨t',rfl⟩:=ry
 exact rule i j t t' s _ _ ⟨.bl (g i j),H,I,rfl,q⟩
noncomputable def Sa (i j:Int):Prop:=0<j∧j<1073741824
noncomputable def BN (i j:Int):Prop:=(-(2 ^ 64)<i∧i<2 ^ 64)∨(-(2 ^ 64)<j∧j<2 ^ 64)
theorem BN.ok {i j:Int}(h:BN i j):IntMulOk i j:=by
 rcases h with ⟨h1,h2⟩ | ⟨h1,h2⟩
 ·exact .of_left (intBits_le_64 h1 h2)
 ·exact .of_right (intBits_le_64 h1 h2)
theorem IG:dZ X (binaryOp .Add) (sW fun i j=>.int (i+j)):=IE fun _ _ _ _ _ _ _ q=>add_int q
theorem II:dZ X (binaryOp .Sub) (sW fun i j=>.int (i - j)):=IE fun _ _ _ _ _ _ _ q=>sub_int q
theorem IJ:dZ X (binaryOp .Mult) (rI BN fun i j=>.int (i*j)):=ID fun _ _ _ _ _ _ _ hc q=>mul_int q hc.ok
theorem Gj:dZ X (binaryOp .FloorDiv) (rI Sa fun i j=>.int (i / j)):=ID fun i j _ _ _ _ _ hc q=>by
 have h1:(0:Int)<j:=hc.1
 have h2:j<1073741824:=hc.2
 exact floordiv_int (by omega) (by rw [Int.fdiv_eq_ediv_of_nonneg i (by omega)];exact q) (.inl (PyProof.noPylong_small (by omega)))
theorem IK:dZ X (binaryOp .Mod) (rI (fun _ j=>0<j) fun i j=>.int (i % j)):=ID fun i j _ _ _ _ _ hc q=>by
 have h1:(0:Int)<j:=hc
 exact mod_int' (by omega) (by rw [Int.fmod_eq_emod_of_nonneg i (by omega)];exact q)
theorem U1 {f:Value→Sem Value}{g:Int→Int}
  (rule:∀ (i:Int) (t:Tok) (s:Shared) (Q:Value→Shared→Prop) (E:Value→Shared→Prop),Q (.int (g i) s.toks) { s with toks:=s.toks+1 }→wpAny (model X.prog X.w) X.A (f (.int i t)) Q E s) :
  IC X f (rU fun i=>.int (g i)):=by
 intro pins s σ H x v Q I rx h
 obtain ⟨i,rfl,q⟩:=h
 obtain ⟨t,rfl⟩:=rx
 exact rule i t s _ _ ⟨.int (g i),H,I.tok _,⟨_,rfl⟩,q⟩
theorem IL:IC X (unaryOp .USub) (rU fun i=>.int (-i)):=U1 fun _ _ _ _ _ q=>neg_int q
end
section
variable {X:Cx}{a b c:Expr}{ta tb tc:TE}{pos:Pos}
theorem N1:dZ X (compareOp .Lt) (sW fun i j=>.bl (decide (i<j))):=IF fun _ _ _ _ _ _ _ q=>lt_int q
theorem N2:dZ X (compareOp .Gt) (sW fun i j=>.bl (decide (j<i))):=IF fun _ _ _ _ _ _ _ q=>gt_int q
theorem aT (b:Expr) {op:CmpOp}(h:op≠.In:=by decide) (h2:op≠.NotIn:=by decide):behindInMarks op b=false:=by
 have e1:(op==CmpOp.In)=false:=by cases op <;> first | rfl | exact absurd rfl h
 have e2:(op==CmpOp.NotIn)=false:=by cases op <;> first | rfl | exact absurd rfl h2
 cases b <;> simp [behindInMarks,e1,e2]
theorem Gk {op:CmpOp}{r:R2}(ho:dZ X (compareOp op) r) (ha:PE X a ta) (hb:PE X b tb) (hm:behindInMarks op b=false):PE X (.Compare a [op] [b] pos) (zo r ta tb):=by
 intro pins s σ H Q I h
 exact wpAny_Compare1 (xG ha hb I h fun v u s2 x y H2 I2 rx ry q=>ho pins s2 σ H2 x y v u Q I2 rx ry q) hm
noncomputable def N3 (t:TE):TT:=fun σ H Q=>t σ H fun x H'=>∃ k,x=.bl k∧Q k H'
theorem Gm {op:CmpOp}{r:R2}(ho:dZ X (compareOp op) r) (ha:PE X a ta) (hb:PE X b tb) (hm:behindInMarks op b=false):PT X (.Compare a [op] [b] pos) (N3 (zo r ta tb)):=by
 intro pins s σ H Q I h
 refine wpAny_isTrue_Compare1 (bQ (ha pins s σ H _ I h) fun v s1 ⟨x,H1,I1,r1,q1⟩=>bQ (hb pins s1 σ H1 _ I1 q1) fun u s2 ⟨y,H2,I2,r2,q2⟩=>
  bQ (ho pins s2 σ H2 x y v u _ I2 r1 r2 q2) fun c s3 ⟨z,H3,I3,r3,k,e,q3⟩=>?_) hm
 subst e
 cases r3
 exact wpAny_truthy_bool ⟨H3,I3,q3⟩
noncomputable def BO (K:PySem.W.Frag) (x:V) (H:Hp) (k:Bool):Prop:=
 match x with
 | .bz=>k=false
 | .bl b=>k=b
 | .int i=>k=(i != 0)
 | .str y=>y.length≤sizeLine∧k=((y.length:Int) != 0)
 | .zc y=>y.size≤sizeLine∧k=((y.size:Int) != 0)
 | .ref p=>(∃ xs,dY K H p xs∧k = !xs.isEmpty)∨(∃ xs,dM K H p xs∧k = !xs.isEmpty)∨∃ kvs,H p=some (.dK kvs)∧k = !kvs.isEmpty
 | _=>False
theorem xH {κ:Type}{kvs:List (κ×V)}{vs:List (κ×Value)}(r:KV kvs vs):(!vs.isEmpty) = !kvs.isEmpty:=by
 cases r <;> rfl
theorem oY {xs:List V}{its:List Value}(r:Vals xs its):(!its.toArray.isEmpty) = !xs.isEmpty:=by
 cases r <;> simp
theorem kq:(sizeLine:Nat)<2 ^ 63:=by rw [sizeLine_eq];decide
theorem IM:R9 X (fun x H Q=>∃ k,BO X.K x H k∧Q k H):=by
 intro pins s σ H x v Q I rx h
 obtain ⟨k,e,q⟩:=h
 have hl:=kq
 have hs:sizeLine=16777216:=sizeLine_eq
 cases x with
 | bz=>
  cases rx
  have e':k=false:=e
  subst e'
  exact truthy_none ⟨H,I,q⟩
 | bl b=>
  cases rx
  have e':k=b:=e
  subst e'
  exact wpAny_truthy_bool ⟨H,I,q⟩
 | int i=>
  obtain ⟨t,rfl⟩:=rx
  have e':k=(i != 0):=e
  subst e'
  exact PySem.P.truthy_int ⟨H,I,q⟩
 | str y=>
  obtain ⟨t,rfl⟩:=rx
  obtain ⟨hy,e'⟩:y.length≤sizeLine∧k=((y.length:Int) != 0):=e
  subst e'
  exact PySem.P.truthy_str (by omega) ⟨H,I.tok _,q⟩
 | zc y=>
  obtain ⟨t,rfl⟩:=rx
  obtain ⟨hy,e'⟩:y.size≤sizeLine∧k=((y.size:Int) != 0):=e
  subst e'
  exact PySem.W.truthy_bytes (by omega) ⟨H,I.tok _,q⟩
 | ref p=>
  cases rx
  have e':(∃ xs,dY X.K H p xs∧k = !xs.isEmpty)∨(∃ xs,dM X.K H p xs∧k = !xs.isEmpty)∨∃ kvs,H p=some (.dK kvs)∧k = !kvs.isEmpty:=e
  rcases e' with ⟨xs,hx,e'⟩ | ⟨xs,hx,e'⟩ | ⟨kvs,hx,e'⟩
  ·subst e'
   obtain ⟨its,r,pl,hz⟩:=I.list hx
   have hlen:=r.length
   exact wpAny_truthy_list pl.isList (by simp only [List.size_toArray];omega) ⟨H,I.tok _,by rw [oY r];exact q⟩
  ·subst e'
   obtain ⟨its,r,pl,hz⟩:=I.tuple hx
   have hlen:=r.length
   exact truthy_tuple pl (by simp only [List.size_toArray];omega) ⟨H,I.tok _,by rw [oY r];exact q⟩
  ·subst e'
   obtain ⟨hz,hS,vs,r,m⟩:kvs.length≤sizeLine∧(p==sysModules)=false∧∃ vs,KV kvs vs∧s.heap.DictOf (qe X.prog X.w) p vs:=I.hok p _ hx
   have hlen:kvs.length=vs.length:=Paired.length r
   exact wpAny_truthy_dict hS m (by omega) ⟨H,I.tok _,by rw [xH r];exact q⟩
 | _=>exact (show False from e).elim
theorem BP (ha:PE X a ta) (he:∀ whole,isTrue a X.env whole=(do let v ←whole;standAt a.pos;holding [v] (truthy v))) :
  PT X a (fun σ H Q=>ta σ H fun x H'=>∃ k,BO X.K x H' k∧Q k H'):=by
 intro pins s σ H Q I h
 exact isTrue_plain (bQ (ha pins s σ H _ I h) fun v s1 ⟨x,H1,I1,r1,q1⟩=>IM pins s1 σ H1 x v Q I1 r1 q1) (he _)
theorem xJ:dZ X (binaryOp .Add) (fun x y H Q=>∃ i j,x=.str i∧y=.str j∧i.length+j.length≤sizeLine∧Q (.str (i++j)) H):=by
 intro pins s σ H x y v u Q I rx ry h
 obtain ⟨i,j,rfl,rfl,hz,q⟩:=h
 obtain ⟨t,rfl⟩:=rx
 obtain ⟨t',rfl⟩:=ry
 exact add_str (fun t' tk=>⟨.str (i++j),H,I.tok _,⟨_,rfl⟩,q⟩) hz
theorem vals1 {x:V}{us:List Value}(r:Vals [x] us):∃ u,us=[u]∧RelV x u:=by
 cases r with
 | cons r1 r2=>cases r2;exact ⟨_,rfl,r1⟩
theorem vals2 {x y:V}{us:List Value}(r:Vals [x,y] us):∃ u w',us=[u,w']∧RelV x u∧RelV y w':=by
 cases r with
 | cons r1 r2=>
  cases r2 with
  | cons r3 r4=>cases r4;exact ⟨_,_,rfl,r1,r3⟩
theorem zp (hc:X.calm=true):fM X (.builtin "max") (fun xs H Q=>∃ i j,xs=[.int i,.int j]∧Q (.int (if j > i then j else i)) H):=by
 intro pins s σ H xs us Q I r h
 obtain ⟨i,j,rfl,q⟩:=h
 obtain ⟨u,w',rfl,⟨t,rfl⟩,⟨t',rfl⟩⟩:=vals2 r
 refine max_two_ints (I.ok.hd hc) fun h' tk k=>⟨_,H,I.kept k,?_,q⟩
 by_cases hj:j > i
 ·rw [if_pos hj,if_pos hj];exact ⟨_,rfl⟩
 ·rw [if_neg hj,if_neg hj];exact ⟨_,rfl⟩
theorem zq (hc:X.calm=true):fM X (.builtin "min") (fun xs H Q=>∃ i j,xs=[.int i,.int j]∧Q (.int (if j<i then j else i)) H):=by
 intro pins s σ H xs us Q I r h
 obtain ⟨i,j,rfl,q⟩:=h
 obtain ⟨u,w',rfl,⟨t,rfl⟩,⟨t',rfl⟩⟩:=vals2 r
 refine min_two_ints (I.ok.hd hc) fun h' tk k=>⟨_,H,I.kept k,?_,q⟩
 by_cases hj:j<i
 ·rw [if_pos hj,if_pos hj];exact ⟨_,rfl⟩
 ·rw [if_neg hj,if_neg hj];exact ⟨_,rfl⟩
end
end L2
namespace L2
open PySem PySem.Spec PyProof.Rows
structure BQ (h:Heap) (x dx C:Addr) (mA:Str→Option Value):Prop where
 obj:h.get? x=some (PySem.W.instObj C dx)
 ns:h.Ns1 dx mA
 ne:dx≠x
theorem zu {h:Heap}{dx:Addr}{mA:Str→Option Value}(n:h.Ns1 dx mA):∃ od,h.get? dx=some od∧∀ name,PySem.W.lookIn name od=some (mA name):=by
 obtain ⟨o,es,ep,ho,hd,hk,_,hm⟩:=n
 refine ⟨o,ho,fun name=>?_⟩
 have e:=hm name
 unfold nsFind findBy at e
 rw [←Array.find?_toList] at e
 unfold PySem.W.lookIn
 rw [hd]
 dsimp only
 split
 ·rename_i y q
  rw [q] at e
  exact congrArg some e
 ·rename_i q
  rw [q] at e
  have a:es.toList.any (·.refKey)=false:=by
   rw [List.any_eq_false]
   intro y hy
   obtain ⟨z,t,hkey⟩:=hk y (Array.mem_toList_iff.mp hy)
   simp [DictEntry.refKey,hkey]
  have a':¬ es.toList.any (·.refKey)=true:=by rw [a];exact Bool.false_ne_true
  rw [if_neg a']
  exact congrArg some e
theorem BQ.look {h:Heap}{x dx C:Addr}{mA:Str→Option Value}(I:BQ h x dx C mA):∃ od,PySem.W.InstAt h x (PySem.W.instObj C dx) C (some od)∧∀ name,PySem.W.lookIn name od=some (mA name):=
 let ⟨od,ho,hl⟩:=zu I.ns
 ⟨od,⟨I.obj,rfl,rfl,ho⟩,hl⟩
section
variable {prog:Program}{w:World}{A:Around}{E:Value→Shared→Prop}{s:Shared}{K:PySem.W.Frag}{x dx C f:Addr}{mA:Str→Option Value}{name:Str}{v:Value}
end
section
variable {P:Program}{w:World}{H H':Hp}{h h':Heap}{a C dx:Addr}{fs fs':List (Str×V)}
theorem Gn (hok:fL P w H h) (e:H a=some (.ins C dx fs)):∃ mA,BQ h a dx C mA∧(∀ f,BD (fs.lookup f) (mA f))∧PySem.Within mA (fs.map (·.1))∧fs.length≤1000∧H dx=some (.own a):=by
 obtain ⟨d,z,ne,ob,mA,n,r,q⟩:=(show dR P w H h a (.ins C dx fs) from hok a _ e)
 exact ⟨mA,⟨ob,n,ne⟩,r,q,z,d⟩
end
structure IP (K:PySem.W.Frag) (C:Addr):Prop where
 pg:PySem.W.plainGet K C Str.empty=true
 hd:PySem.W.hasDictIn K C=true
 po:PySem.W.plainOver K C=true
 sa:PySem.W.findIn K (.ref C) "__setattr__" = some (some (.builtin "object.__setattr__"))
theorem IP.get {K:PySem.W.Frag}{C:Addr}(c:IP K C) (f:Str):PySem.W.plainGet K C f=true:=c.pg
structure WZ (K:PySem.W.Frag) (C:Addr) (f:Str) (v:V) (u:Value):Prop where
 at_:PySem.W.findIn K (.ref C) f=some (some u)
 rel:RelV v u
 get:PySem.W.specialIn K u "__get__" = some none
 cp:PySem.W.copiedNames.contains f=false
structure Meth (K:PySem.W.Frag) (C:Addr) (m:Str) (f:Addr):Prop where
 at_:PySem.W.findIn K (.ref C) m=some (some (.ref f))
 fn:PySem.W.isFn K (.ref f)=true
 kp:PySem.W.keepIn K (.ref f)=true
section
variable {X:Cx}{pins:List (Addr×Obj)}{σ:St}{H:Hp}{s:Shared}{a C dx:Addr}{fs:List (Str×V)}{f:Str}{v:V}{A:Around}{E:Value→Shared→Prop}
end
section
variable {X:Cx}{o e value:Expr}{f:Str}{pos pos' tpos:Pos}{ta tv:TE}
end
section
variable {X:Cx}{pins:List (Addr×Obj)}{σ:St}{H:Hp}{s:Shared}{A:Around}{E:Value→Shared→Prop}{Q:Value→Shared→Prop}{c:Value}{b:Bool}
inductive jf (K:PySem.W.Frag) (H:Hp):V→Value→Prop where
 | bz:jf K H .bz (.type "NoneType")
 | bl (x:Bool):jf K H (.bl x) (.type "bool")
 | int (i:Int):jf K H (.int i) (.type "int")
 | str (x:Str):jf K H (.str x) (.type "str")
 | vA (x:UInt64):jf K H (.vA x) (.type "float")
 | lst {a:Addr} {xs:List V} (e:H a=some (.lst xs)):jf K H (.ref a) (.type "list")
 | bO {a:Addr} {o:Obj} {xs:List V} (e:H a=some (.bO o (.lst xs))):jf K H (.ref a) (.type "list")
 | tup {a:Addr} {xs:List V} (e:H a=some (.tup xs)):jf K H (.ref a) (.type "tuple")
 | dK {a:Addr} {kvs:List (Key×V)} (e:H a=some (.dK kvs)):jf K H (.ref a) (.type "dict")
 | dT {a:Addr} {kvs:List (List Key×V)} (e:H a=some (.dT kvs)):jf K H (.ref a) (.type "dict")
 | ins {a C dx:Addr} {fs:List (Str×V)} (e:H a=some (.ins C dx fs)) (cl:IP K C) (ha:PySem.W.findIn K (.ref C) "__class__" = some (some (.builtin "object.__class__")))
   (hn:PySem.W.specialIn K (.builtin "object.__class__") "__get__" = some (some (.builtin "getset_descriptor.__get__"))) (htk:PySem.W.takesIn K (.builtin "object.__class__")=some true)
   (hm:PySem.W.mroIn K C (.type "object")=some true):jf K H (.ref a) (.ref C)
theorem jT {x:V}{u t:Value}(I:Inv X pins σ H s) (rx:RelV x u) (ty:jf X.K H x t) (e:PySem.W.kitOne X.K t c=some b) (h:∀ tk,Q (.bool b) { s with toks:=tk }) :
  wpAny (model X.prog X.w) A (call (.builtin "isinstance") [u,c]) Q E s:=by
 cases ty with
 | bz=>cases (show u=Value.none from rx);exact PySem.W.kia_one PySem.W.kitx_none I.gw True.intro e (fun z=>nomatch z) h
 | bl y=>cases (show u=Value.bool y from rx);exact PySem.W.kia_one PySem.W.kitx_bool I.gw True.intro e (fun z=>nomatch z) h
 | int i=>obtain ⟨t,q⟩:=(show ∃ t,u=Value.int i t from rx);cases q;exact PySem.W.kia_one PySem.W.kitx_int I.gw True.intro e (fun z=>nomatch z) h
 | str y=>obtain ⟨t,q⟩:=(show ∃ t,u=Value.str y t from rx);cases q;exact PySem.W.kia_one PySem.W.kitx_str I.gw True.intro e (fun z=>nomatch z) h
 | vA y=>obtain ⟨t,q⟩:=(show ∃ t,u=Value.float y t from rx);cases q;exact PySem.W.kia_one PySem.W.kitx_float I.gw True.intro e (fun z=>nomatch z) h
 | @lst a xs ea=>
  cases (show u=Value.ref a from rx)
  obtain ⟨_,_,n,_,h1⟩:=(show dR X.prog X.w H s.heap a (.lst xs) from I.hok a _ ea)
  exact PySem.W.kia_one PySem.W.kitx_list I.gw ⟨_,h1,rfl⟩ e (fun z=>nomatch z) h
 | @bO a ob xs ea=>
  cases (show u=Value.ref a from rx)
  obtain ⟨_,_,_,n,_,h1⟩:=(show dR X.prog X.w H s.heap a (.bO ob (.lst xs)) from I.hok a _ ea)
  exact PySem.W.kia_one PySem.W.kitx_list I.gw ⟨_,h1,rfl⟩ e (fun z=>nomatch z) h
 | @tup a xs ea=>
  cases (show u=Value.ref a from rx)
  obtain ⟨_,_,_,p⟩:=(show dR X.prog X.w H s.heap a (.tup xs) from I.hok a _ ea)
  obtain ⟨o,h1,h2,_⟩:=p
  exact PySem.W.kia_one PySem.W.kitx_tuple I.gw ⟨o,h1,h2⟩ e (fun z=>nomatch z) h
 | @dK a kvs ea=>
  cases (show u=Value.ref a from rx)
  obtain ⟨_,_,vs,_,p⟩:=(show dR X.prog X.w H s.heap a (.dK kvs) from I.hok a _ ea)
  obtain ⟨o,es,ep,h1,h2,_⟩:=p
  exact PySem.W.kia_one PySem.W.kitx_dict I.gw ⟨o,h1,h2.1⟩ e (fun z=>nomatch z) h
 | @dT a kvs ea=>
  cases (show u=Value.ref a from rx)
  obtain ⟨_,_,xs,_,o,es,ep,h1,h2,_⟩:=(show dR X.prog X.w H s.heap a (.dT kvs) from I.hok a _ ea)
  exact PySem.W.kia_one PySem.W.kitx_dict I.gw ⟨o,h1,h2.1⟩ e (fun z=>nomatch z) h
 | @ins a C dx fs ea cl ha hn htk hm=>
  cases (show u=Value.ref a from rx)
  obtain ⟨mA,O,_⟩:=Gn I.hok ea
  obtain ⟨od,J,_⟩:=O.look
  exact PySem.W.kia_one (PySem.W.kitx_own (cl.get _) cl.hd ha hn htk hm) I.gw J e (fun z=>nomatch z) h
end
end L2
namespace L2
open PySem PySem.Spec PyProof.Rows
structure gH (k:Nat) (A:Around):Prop where
 hd:A.handled=none
 dp:A.depth+3*k+5<recursionLimit
 un:A.units+16*k+200<cLine
theorem gH.deeper {k:Nat}{A:Around}(r:gH (k+1) A) (env:Env):gH k (A.deeper env):=
 ⟨r.hd,by have:=r.dp;show A.depth+1+3*k+5<_;omega,by have:=r.un;show A.units+3+16*k+200<_;omega⟩
theorem gH.depth {k:Nat}{A:Around}(r:gH k A):A.depth<recursionLimit:=by have:=r.dp;omega
noncomputable def Sb:TA:=fun _ H Q=>Q [] H
noncomputable def N4 (ta:TE) (tr:TA):TA:=fun σ H Q=>ta σ H fun x H1=>tr σ H1 fun xs H2=>Q (x :: xs) H2
section
variable {X:Cx}{e:Expr}{es:List Expr}{te:TE}{t:TA}{pos:Pos}
theorem lY:PA X [] Sb:=fun _ _ _ _ H Q I h=>Calls.spliced_nil ⟨[],H,I,.nil,h⟩
theorem iL (ha:PE X e te) (hr:PA X es t) (hs:starEach (e :: es) X.env=(false,eval e X.env) :: starEach es X.env:=by rfl):PA X (e :: es) (N4 te t):=by
 intro pos pins s σ H Q I h
 rw [hs]
 show wpAny _ _ (spliced ((false,eval e X.env) :: backTo pos (starEach es X.env))) _ _ s
 refine Calls.spliced_cons (bQ (ha pins s σ H _ I h) fun u s1 ⟨x,H1,I1,r1,q1⟩=>?_)
 exact bQ (hr pos pins s1 σ H1 _ I1 q1) fun us s2 ⟨xs,H2,I2,r2,q2⟩=>⟨x :: xs,H2,I2,.cons r1 r2,q2⟩
noncomputable def Sd (t:TA):TE:=fun σ H Q=>t σ H fun xs H1=>xs.length≤sizeLine∧∀ p,H1 p=none→Q (.ref p) (upd H1 p (.tup xs))
noncomputable def Se (t:TA):TE:=fun σ H Q=>t σ H fun xs H1=>xs.length≤sizeLine∧∀ p,H1 p=none→Q (.ref p) (upd H1 p (.lst xs))
theorem IQ {x1}(h:PA X es t):PE X (.Tuple es x1 pos) (Sd t):=by
 intro pins s σ H Q I hq
 refine wpAny_Tuple_spliced (bQ (h pos pins s σ H _ I hq) fun us s1 ⟨xs,H1,I1,r,z,q⟩=>⟨by rw [←r.length];exact z,?_⟩)
 have hf:H1 s1.heap.objs.size=none:=I1.hok.fresh (Nat.le_refl _)
 refine ⟨.ref s1.heap.objs.size,upd H1 s1.heap.objs.size (.tup xs),I1.laid (t':=s1.toks) (fun b u e=>Heap.get?_push_of_some _ e) (Nat.le_refl _) ?_,rfl,q _ hf⟩
 exact ⟨z,us,r,⟨_,Heap.get?_push_size _ rfl,rfl,_,rfl⟩⟩
theorem IS (h:PA X es t):PE X (.List es pos) (Se t):=by
 intro pins s σ H Q I hq
 refine wpAny_List_spliced (bQ (h pos pins s σ H _ I hq) fun us s1 ⟨xs,H1,I1,r,z,q⟩=>⟨by rw [←r.length];exact z,?_⟩)
 have hf:H1 s1.heap.objs.size=none:=I1.hok.fresh (Nat.le_refl _)
 refine ⟨.ref s1.heap.objs.size,upd H1 s1.heap.objs.size (.lst xs),I1.laid (t':=s1.toks) (fun b u e=>Heap.get?_push_of_some _ e) (Nat.le_refl _) ?_,rfl,q _ hf⟩
 exact ⟨z,us,0,r,Heap.get?_push_size _ rfl⟩
end
abbrev Sp:=List V→Hp→VK→XK→Prop
abbrev lP:=List Env→Hp→Shared→XK→Value→Shared→Prop
structure xK (P:Program) (w:World) (K:PySem.W.Frag) (mg:Str→Option Value) (base:Heap) (A:Around) (outer:List Env) (s:Shared) (H:Hp):Prop where
 frames:A.frames=some outer
 mod:Mod K mg base
 bs:∀ b o,base.get? b=some o→s.heap.get? b=some o∧H b=none
 qM:base.objs.size≤s.heap.objs.size
 je:s.heap.FunFrames base outer
 sQ:∀ b∈frs outer,H b=none
 hok:fL P w H s.heap
 bare:AllBare s.gens
noncomputable def CE (outer:List Env) (P:Program) (w:World) (H:Hp) (s:Shared) (Q:VK) (u:Value) (s':Shared):Prop:=
 ∃ v H',s'.os=s.os∧AllBare s'.gens∧Un (frs outer) [] H H' s.heap s'.heap∧fL P w H' s'.heap∧RelV v u∧Q v H'
noncomputable def CR (CX:lP) (outer:List Env) (P:Program) (w:World) (H:Hp) (s:Shared) (Q:VK) (E:XK) (r:Result) (s':Shared):Prop:=
 match r with
 | .ok (.ret u)=>CE outer P w H s Q u s'
 | .ok _=>False
 | .error e=>CX outer H s E e s'
structure iM (P:Program) (w:World) (K:PySem.W.Frag) (mg:Str→Option Value) (base:Heap) (CX:lP) (k:Nat) (f:Addr) (fd:FuncData) (ps:List Str) (sp:Sp):Prop where
 len:∀ vs H Q E,sp vs H Q E→vs.length=ps.length
 run:∀ (A:Around) (outer:List Env) (s:Shared) (H:Hp) (args:Args) (us:List Value) (vs:List V) (Q:VK) (E:XK),gH k A→xK P w K mg base A outer s H→BindsTo s fd args (ps.zip us)→Vals vs us→sp vs H Q E→
  codeAny (model P w) A (.call (.ref f) args) (CR CX outer P w H s Q E) s
section
variable {X:Cx}{pins:List (Addr×Obj)}{σ:St}{H:Hp}{s s':Shared}
theorem Inv.Sf (I:Inv X pins σ H s):xK X.prog X.w X.K X.mg X.base X.A X.stack s H:=
 ⟨I.ok.frames,I.ok.mod,I.bs,Nat.le_trans I.ok.qM I.sz,I.stack,I.vD,I.hok,I.bare⟩
theorem Inv.after {Q:VK}{u:Value}(I:Inv X pins σ H s) (h:CE X.stack X.prog X.w H s Q u s'):EP X pins σ Q u s':=by
 obtain ⟨v,H',os,bare,un,hok,r,q⟩:=h
 obtain ⟨hh,g,d,t,os'⟩:=s'
 obtain rfl:os'=s.os:=os
 exact ⟨v,H',I.call (h':=hh) (g':=g) (d':=d) (t':=t) (ch:=[]) un hok bare (fun b z=>absurd z (by simp)),r,q⟩
end
noncomputable def N5 (sp:Sp) (jB:List V) (E:XK) (t:TA):TE:=fun σ H Q=>t σ H fun vs H1=>sp (vs++jB) H1 Q E
noncomputable def Binds (K:PySem.W.Frag) (fd:FuncData) (ps:List Str) (ds:List Value):Prop:=
 ∀ (s:Shared) (us:List Value),K.In s.heap→(us++ds).length=ps.length→BindsTo s fd ⟨us,[]⟩ (ps.zip (us++ds))
theorem Binds.all {K:PySem.W.Frag}{fd:FuncData}{ps:List Str}(h:∀ us:List Value,us.length=ps.length→bindArgs fd ⟨us,[]⟩=pure (ps.zip us)):Binds K fd ps []:=fun s us _ hl=>by
 rw [List.append_nil] at hl ⊢
 exact .of_eq (h us hl)
noncomputable def Passes (CX:lP) (X:Cx) (E:XK):Prop:=∀ (pins:List (Addr×Obj)) (σ:St) (H:Hp) (s:Shared) (e:Value) (s':Shared),Inv X pins σ H s→CX X.stack H s E e s'→X.xe e s'
section
variable {X:Cx}{CX:lP}{k:Nat}{f C:Addr}{fd:FuncData}{ps:List Str}{sp:Sp}{jB:List V}{ds:List Value}{E:XK}{x m:Str}{p pos apos:Pos}{e o:Expr}{es:List Expr}{ta:TE}{t:TA}
theorem IT {pins:List (Addr×Obj)}{σ:St}{H:Hp}{s:Shared}{Q:VK}{us:List Value}{vs:List V}(F:iM X.prog X.w X.K X.mg X.base CX k f fd ps sp) (hr:gH k X.A) (hb:Binds X.K fd ps ds) (hd:Vals jB ds) (hx:Passes CX X E)
  (I:Inv X pins σ H s) (r:Vals vs us) (h:sp (vs++jB) H Q E):wpAny (model X.prog X.w) X.A (call (.ref f) us) (EP X pins σ Q) X.xe s:=by
 have r2:Vals (vs++jB) (us++ds):=r.append hd
 have hl:(us++ds).length=ps.length:=by rw [←r2.length];exact F.len _ _ _ _ h
 refine wpAny_call (codeAny_mono (F.run X.A X.stack s H ⟨us,[]⟩ (us++ds) (vs++jB) Q E hr I.Sf (hb s us I.gw hl) r2 h) fun r s' hq=>?_)
 cases r with
 | error e=>exact hx pins σ H s e s' I hq
 | ok fl=>
  cases fl with
  | ret u=>exact I.after hq
  | next=>exact False.elim hq
  | brk=>exact False.elim hq
  | cont=>exact False.elim hq
theorem Gp (F:iM X.prog X.w X.K X.mg X.base CX k f fd ps sp) (hr:gH k X.A) (hg:Gl X x) (hm:X.mg x=some (.ref f)) (hk:PySem.W.keepIn X.K (.ref f)=true) (hb:Binds X.K fd ps ds) (hd:Vals jB ds) (hx:Passes CX X E)
  (ha:PA X (e :: es) t) (hdb:(x==("__debug__" : Str))=false:=by decide) (he:starEach (e :: es) X.env=(false,eval e X.env) :: starEach es X.env:=by rfl) (hpl:(backTo pos (starEach es X.env)).any (·.1)=false:=by rfl) :
  PE X (.Call (.Name x p) (e :: es) [] pos) (N5 sp jB E t):=by
 intro pins s σ H Q I h
 refine wpAny_Call_Name_kw (vF I hg hm ?_ hdb)
 refine PySem.W.callWith_K (h₀:=X.base) I.ok.mod.Ed hk (bQ (ha pos pins s σ H _ I h) fun us s1 ⟨vs,H1,I1,r,q⟩=>⟨I1.gw,?_⟩) he hpl
 exact IT F hr hb hd hx I1 r q
structure Mk (K:PySem.W.Frag) (C f:Addr):Prop where
 makes:PySem.W.makesIn K C=true
 init:PySem.W.findIn K (.ref C) "__init__" = some (some (.ref f))
 fn:PySem.W.isFn K (.ref f)=true
 kp:PySem.W.keepIn K (.ref C)=true
end
section
variable {X:Cx}{CX:lP}{k:Nat}{f C:Addr}{fd:FuncData}{ps ks:List Str}{sp:Sp}{E:XK}{x m:Str}{p pos apos kpos:Pos}{e o:Expr}{es:List Expr}{kws:List Keyword}{te ta:TE}{t tk:TA}{nm:Option Str}
structure U3 (K:PySem.W.Frag) (fd:FuncData) (ps ks:List Str) (g:List Value→List Value→List Value) (gV:List V→List V→List V):Prop where
 to:∀ (s:Shared) (us ws:List Value),K.In s.heap→(g us ws).length=ps.length→BindsTo s fd ⟨us,ks.zip ws⟩ (ps.zip (g us ws))
 rel:∀ {vs:List V} {us:List Value} {zs:List V} {ws:List Value},Vals vs us→Vals zs ws→Vals (gV vs zs) (g us ws)
variable {g:List Value→List Value→List Value}{gV:List V→List V→List V}
end
structure bS (N P:List Str) (sc:Scope):Prop where
 kind:sc.kind=.function
 co:sc.isCoroutine=false
 gen:sc.isGenerator=false
 nd:N.Nodup
 pre:N.take P.length=P
 par:∀ x∈P,sc.names.lookup x=some .local∨sc.names.lookup x=some .cell
 IU:∀ y∈sc.names,y.2≠.free
theorem qR {kindOf:Str→Option NameKind}{x:Str}:∀ {binds:List (Str×Value)}{m:Str→Option Value},(∀ v,(x,v)∉binds)→bindL kindOf binds m x=m x
 | [],_,_=>rfl
 | (n,v) :: r,m,h=>by
  unfold bindL
  rw [qR fun w hw=>h w (List.mem_cons_of_mem _ hw)]
  split
  ·have:x≠n:=by rintro rfl;exact h v List.mem_cons_self
   simp [this]
  ·rfl
theorem qS {kindOf:Str→Option NameKind}{x:Str}:∀ {binds:List (Str×Value)}{m:Str→Option Value},(∀ v,(x,v)∉binds)→bindC kindOf binds m x=m x
 | [],_,_=>rfl
 | (n,v) :: r,m,h=>by
  unfold bindC
  rw [qS fun w hw=>h w (List.mem_cons_of_mem _ hw)]
  split
  ·rfl
  ·have:x≠n:=by rintro rfl;exact h v List.mem_cons_self
   simp [this]
theorem qT {kindOf:Str→Option NameKind}{x:Str}{v:Value}:∀ {P:List Str}{vs:List Value}{i:Nat}{m:Str→Option Value},P.Nodup→P[i]?=some x→vs[i]?=some v→kindOf x=some .local→
  bindL kindOf (P.zip vs) m x=some v
 | [],_,_,_,_,h,_,_=>by simp at h
 | _ :: _,[],_,_,_,_,h,_=>by simp at h
 | p :: P,w :: vs,0,m,nd,h1,h2,hk=>by
  simp at h1 h2;subst h1;subst h2
  show bindL kindOf ((p,w) :: P.zip vs) m p=_
  unfold bindL
  rw [qR fun v hv=>(List.nodup_cons.mp nd).1 (List.of_mem_zip hv).1,if_pos hk]
  simp
 | p :: P,w :: vs,i+1,m,nd,h1,h2,hk=>by
  show bindL kindOf ((p,w) :: P.zip vs) m x=_
  unfold bindL
  exact qT (i:=i) (List.nodup_cons.mp nd).2 (by simpa using h1) (by simpa using h2) hk
theorem qU {kindOf:Str→Option NameKind}{x:Str}{v:Value}:∀ {P:List Str}{vs:List Value}{i:Nat}{m:Str→Option Value},P.Nodup→P[i]?=some x→vs[i]?=some v→kindOf x≠some .local→
  bindC kindOf (P.zip vs) m x=some v
 | [],_,_,_,_,h,_,_=>by simp at h
 | _ :: _,[],_,_,_,_,h,_=>by simp at h
 | p :: P,w :: vs,0,m,nd,h1,h2,hk=>by
  simp at h1 h2;subst h1;subst h2
  show bindC kindOf ((p,w) :: P.zip vs) m p=_
  unfold bindC
  rw [qS fun v hv=>(List.nodup_cons.mp nd).1 (List.of_mem_zip hv).1,if_neg hk]
  simp
 | p :: P,w :: vs,i+1,m,nd,h1,h2,hk=>by
  show bindC kindOf ((p,w) :: P.zip vs) m x=_
  unfold bindC
  exact qU (i:=i) (List.nodup_cons.mp nd).2 (by simpa using h1) (by simpa using h2) hk
noncomputable def start (N:List Str) (vs:List V):St:=vs.map some++List.replicate (N.length - vs.length) none
noncomputable def oh (CX:lP) (P:Program) (w:World) (K:PySem.W.Frag) (mg:Str→Option Value) (base:Heap) (N:List Str) (qual:Str) (scope:Scope) (f:Addr) (cd:Value) (A:Around) (outer:List Env) (s:Shared) (H:Hp) (E:XK):Cx where
 prog:=P
 w:=w
 K:=K
 mg:=mg
 base:=base
 A:=A.deeper (envOfC qual scope s.heap.objs.size f cd)
 N:=N
 s₀:=s
 H₀:=H
 env:=envOfC qual scope s.heap.objs.size f cd
 outer:=outer
 stack:=envOfC qual scope s.heap.objs.size f cd :: outer
 ex:=[]
 calm:=true
 fn:=fun _=>true
 pn:=[]
 xe:=fun e s'=>wpAny (model P w) (A.deeper (envOfC qual scope s.heap.objs.size f cd)) (leaving (envOfC qual scope s.heap.objs.size f cd) e) (fun _ s''=>CX outer H s E e s'') (fun e' s''=>CX outer H s E e' s'') s'
theorem sX {sc:Scope}{n:Nat}{x:Str}(h:sc.names.lookup x=some .cell):∃ c,(cellsFrom n sc.names []).lookup x=some c:=by
 have q:=PySem.W.cellsFrom_some sc.names n [] (.inl h)
 exact Option.isSome_iff_exists.mp q
theorem zv {CX:lP}{P:Program}{w:World}{K:PySem.W.Frag}{mg:Str→Option Value}{base:Heap}{N ps:List Str}{qual:Str}{scope:Scope}{f:Addr}{cd:Value}{A:Around}{outer:List Env}{s s1:Shared}{H:Hp}{E:XK}{us:List Value}{vs:List V}
  (S:bS N ps scope) (hd:A.handled=none) (e0:xK P w K mg base A outer s H) (hl:vs.length=ps.length) (r:Vals vs us)
  (x:InCallC s s.heap.objs.size (bindL (envOfC qual scope s.heap.objs.size f cd).kindOf (ps.zip us) fun _=>none) (cellsFrom (s.heap.objs.size+1) scope.names []) (bindC (envOfC qual scope s.heap.objs.size f cd).kindOf (ps.zip us) fun _=>none) s1) :
  Inv (oh CX P w K mg base N qual scope f cd A outer s H E) [] (start N vs) H s1:=by
 have hpl:ps.length≤N.length:=by have:=congrArg List.length S.pre;rw [List.length_take] at this;omega
 obtain ⟨h1,tk,rfl,hk⟩:=x.done
 have zw:∀ b:Addr,b∉(oh CX P w K mg base N qual scope f cd A outer s H E).ex:=fun b z=>absurd (show b∈([]:List Addr) from z) (by simp)
 refine ⟨⟨e0.mod,S.kind,rfl,rfl,Nat.le_refl _,fun y z c h1 h2=>?_,fun y hy=>?_,fun y c _ h=>?_,fun _=>hd,Around.frames_deeper e0.frames,.inr ⟨rfl,rfl⟩,fun b z=>absurd z (zw b),e0.bs,e0.qM,fun b _ _=>zw b,fun b z=>absurd z (zw b),e0.je,e0.sQ⟩,
  rfl,e0.bare,Un.kept hk,⟨_,x.toInCall.ns,fun i y v h1 h2 h3=>?_⟩,fun y c h=>⟨_,x.cell y c h⟩,e0.hok.fresh (Nat.le_refl _),fun y c h=>?_,fun p hp=>absurd (show p∈([]:List (Addr×Obj)) from hp) (by simp),e0.hok.kept hk,?_⟩
 ·exact name_of_addr x.apart (PySem.mem_of_lookup h1) (PySem.mem_of_lookup h2)
 ·have hy:scope.names.lookup y=some .cell∨scope.names.lookup y=some .free:=hy
  rcases hy with hy | hy
  ·exact sX hy
  ·exact absurd rfl (S.IU _ (PySem.mem_of_lookup hy))
 ·exact Nat.le_of_lt (x.above y c (PySem.mem_of_lookup h))
 ·have hi:i<vs.length:=by
   unfold start at h2
   by_cases hi:i<vs.length
   ·exact hi
   ·rw [List.getElem?_append_right (by simpa using hi)] at h2
    rw [List.getElem?_replicate] at h2
    split at h2 <;> cases h2
  have ha:vs[i]?=some v:=by
   unfold start at h2
   rw [List.getElem?_append_left (by simpa using hi),List.getElem?_map] at h2
   cases e:vs[i]? with
   | none=>rw [e] at h2;cases h2
   | some a=>rw [e] at h2;cases h2;rfl
  obtain ⟨u,hu,rv⟩:=r.get ha
  have hp:ps[i]?=some y:=by
   rw [←S.pre,List.getElem?_take_of_lt (by omega)];exact h1
  have PN:ps.Nodup:=by rw [←S.pre];exact S.nd.sublist (List.take_sublist _ _)
  refine ⟨u,rv,?_⟩
  rcases S.par y (List.mem_of_getElem? hp) with k | k
  ·exact .inl ⟨k,qT PN hp hu k⟩
  ·obtain ⟨c,e⟩:=sX (n:=s.heap.objs.size+1) k
   refine .inr ⟨.inl k,c,e,?_⟩
   have q:=x.cell y c e
   rw [qU PN hp hu (by show scope.names.lookup y≠_;rw [k];decide)] at q
   exact q
 ·exact e0.hok.fresh (Nat.le_of_lt (x.above y c (PySem.mem_of_lookup h)))
 ·unfold start
  show _=N.length
  rw [List.length_append,List.length_map,List.length_replicate]
  omega
theorem N6 {CX:lP}{P:Program}{w:World}{K:PySem.W.Frag}{mg:Str→Option Value}{base:Heap}{k:Nat}{f:Addr}{name qual:Str}{params:Arguments}{body:List Stmt}{scope:Scope}{dV kV doc pm cdv ct oc:Value}{an od:Option Addr}
  {osl:Array (Option Value)} {N ps:List Str} {sp:Sp} (lk:K.lookup f=some ⟨oc,od,.func (PySem.W.fnOf name qual params body scope dV kV doc pm an cdv ct),osl⟩) (hcd:PySem.W.codeIn K cdv qual=true) (S:bS N ps scope)
  (len:∀ vs H Q E,sp vs H Q E→vs.length=ps.length)
  (hbody:∀ (A:Around) (outer:List Env) (s:Shared) (H:Hp) (vs:List V) (Q:VK) (E:XK),gH k (A.deeper (envOfC qual scope s.heap.objs.size f cdv))→sp vs H Q E→
   ∃ t,iJ (oh CX P w K mg base N qual scope f cdv A outer s H E) body t∧t { nx:=fun _ H'=>Q .bz H',rt:=Q } (start N vs) H) :
  iM P w K mg base CX (k+1) f (PySem.W.fnOf name qual params body scope dV kV doc pm an cdv ct) ps sp:=by
 refine ⟨len,fun A outer s H args us vs Q E hr e0 hb r kr=>?_⟩
 have hl:=len _ _ _ _ kr
 have KX:K.In s.heap:=e0.mod.Ed.keeps fun b o e=>(e0.bs b o e).1
 have lim:s.heap.NoLimit:=e0.mod.nolimit.keeps fun b o e=>(e0.bs b o e).1
 have hkind:∀ y∈ps.zip us,scope.names.lookup y.1=some .local∨(scope.names.lookup y.1=some .cell∧((cellsFrom (s.heap.objs.size+1) scope.names []).lookup y.1).isSome=true):=fun ⟨n,v⟩ hy=>by
  rcases S.par n (List.of_mem_zip hy).1 with q | q
  ·exact .inl q
  ·exact .inr ⟨q,PySem.W.cellsFrom_some _ _ _ (.inl q)⟩
 refine codeAny_call_function hr.depth (KX _ _ lk) rfl S.co S.gen rfl (PySem.W.codeRec_of KX hcd) (hb _ _ _ _ ?_)
 refine wpAny_newFunctionEnv_cells S.kind hkind fun env he s1 x=>?_
 subst he
 refine ⟨lim.keeps x.toInCall.keep,codeAny_func ?_⟩
 obtain ⟨t,ht,hq⟩:=hbody A outer s H vs Q E (hr.deeper _) kr
 have I:Inv (oh CX P w K mg base N qual scope f cdv A outer s H E) [] (start N vs) H s1:=zv S hr.hd e0 hl r x
 refine wpAny_mono (ht [] s1 (start N vs) H _ I hq) (fun fl s' hs=>?_) fun e s' hs=>hs
 have fin:∀ {σ':St} {H':Hp} {v:V} {u:Value},Inv (oh CX P w K mg base N qual scope f cdv A outer s H E) [] σ' H' s'→RelV v u→Q v H'→CE outer P w H s Q u s':=
  fun {σ' H' v u} J rv q=>⟨v,H',J.os,J.bare,J.base,J.hok,rv,q⟩
 cases fl with
 | ret u=>
  obtain ⟨v,σ',H',J,rv,q⟩:=hs
  exact fin J rv q
 | next=>
  obtain ⟨σ',H',J,q⟩:=hs
  exact fin (v:=V.bz) (u:=Value.none) J rfl q
 | brk=>
  obtain ⟨_,_,_,q⟩:=hs
  exact False.elim q
 | cont=>
  obtain ⟨_,_,_,q⟩:=hs
  exact False.elim q
end L2
namespace L2
open PySem PySem.Spec PyProof.Rows
section
variable {X:Cx}{x:Str}{p pos:Pos}{e:Expr}{es:List Expr}{t:TA}{id T:String}{r:List V→Hp→VK→Prop}
noncomputable def IV (r:List V→Hp→VK→Prop) (t:TA):TE:=fun σ H Q=>t σ H fun vs H1=>r vs H1 Q
theorem sY (hc:fM X (.builtin id) r) (hg:Gl X x) (hm:X.mg x=none) (hv:bootBuiltins x=some (.builtin id)) (ha:PA X (e :: es) t) (hn:x≠"__name__" :=by decide) (hdb:(x==("__debug__" : Str))=false:=by decide)
  (he:starEach (e :: es) X.env=(false,eval e X.env) :: starEach es X.env:=by rfl) (hpl:(backTo pos (starEach es X.env)).any (·.1)=false:=by rfl):PE X (.Call (.Name x p) (e :: es) [] pos) (IV r t):=by
 intro pins s σ H Q I h
 refine wpAny_Call_Name_kw (jA I hg hm hv ?_ hn hdb)
 exact PyProof.Rows.callWith_builtin1 (bQ (ha pos pins s σ H _ I h) fun us s1 ⟨vs,H1,I1,r1,q1⟩=>hc pins s1 σ H1 vs us Q I1 r1 q1) he hpl
theorem zx (hc:fM X (.type T) r) (hg:Gl X x) (hm:X.mg x=none) (hv:bootBuiltins x=some (.type T)) (ha:PA X (e :: es) t) (hn:x≠"__name__" :=by decide) (hdb:(x==("__debug__" : Str))=false:=by decide)
  (he:starEach (e :: es) X.env=(false,eval e X.env) :: starEach es X.env:=by rfl) (hpl:(backTo pos (starEach es X.env)).any (·.1)=false:=by rfl):PE X (.Call (.Name x p) (e :: es) [] pos) (IV r t):=by
 intro pins s σ H Q I h
 refine wpAny_Call_Name_kw (jA I hg hm hv ?_ hn hdb)
 exact PyProof.Rows.callWith_type1 (bQ (ha pos pins s σ H _ I h) fun us s1 ⟨vs,H1,I1,r1,q1⟩=>hc pins s1 σ H1 vs us Q I1 r1 q1) he hpl
end
end L2
namespace HT
open PySem PyProof.Rows
section
open PySem.SeqAt
open PySem.AutoSeq1 (wpAny_loadPart')
open PySem.MeetsSeq PySem.MeetsSeq2 PySem.MeetsSeq3
end
section
variable {prog:Program}{w:World}{A:Around}{E:Value→Shared→Prop}{s:Shared}
theorem Gq {t b:Addr}{vs ws:List Value}{Q:Value→Shared→Prop}(ht:IsTup s.heap t vs.toArray) (hb:IsTup s.heap b ws.toArray) (hv:vs≠[])
  (h1:ws=[]→Q (.ref t) s) (h2:ws≠[]→Q (.ref s.heap.objs.size) { s with heap:=s.heap.push { cls:=.type "tuple",data:=.seq (vs++ws).toArray }})
  (hsz:vs.length+ws.length≤sizeLine):wpAny (model prog w) A (binaryOp .Add (.ref t) (.ref b)) Q E s:=by
 obtain ⟨⟨cls,dd,data,sl⟩,ho,hc,n,hd⟩:=id ht
 obtain ⟨⟨Sg,dd2,data2,sl2⟩,ho2,hc2,n2,hd2⟩:=id hb
 simp only at hc hd hc2 hd2
 subst hc hd hc2 hd2
 have e:vs.toArray++ws.toArray=(vs++ws).toArray:=by simp
 by_cases hw:ws=[]
 ·exact concat_meets ⟨_,ho,rfl⟩ ⟨_,ho2,rfl⟩ noFill_tuple_add seq_tuple_add PySem.F.slot_tuple_add PySem.F.entry_tuple_add (PySem.F.args_tuple_add_2 _ _)
   (tuple_addW1 t b vs.toArray ws.toArray n n2 dd dd2 sl sl2 (by simpa using hv) (by simp [hw])) ⟨ho,ho2,h1 hw⟩
 ·refine concat_meets ⟨_,ho,rfl⟩ ⟨_,ho2,rfl⟩ noFill_tuple_add seq_tuple_add PySem.F.slot_tuple_add PySem.F.entry_tuple_add (PySem.F.args_tuple_add_2 _ _)
   (tuple_addW2 t b vs.toArray ws.toArray n n2 dd dd2 sl sl2 (by simpa using hv) (by simpa using hw) (by rw [List.size_toArray,List.size_toArray];exact hsz)) ⟨ho,ho2,?_⟩
  rw [e]
  exact h2 hw
noncomputable def aR (n d:Nat):Option Int→Nat
 | none=>d
 | some v=>if v<0 then (v+(n:Int)).toNat else min v.toNat n
theorem sZ (n d:Nat) (hd:d≤n) (o:Option Int):aR n d o≤n:=by
 cases o with
 | none=>exact hd
 | some v=>
  show (if v<0 then (v+(n:Int)).toNat else min v.toNat n)≤n
  by_cases hv:v<0
  ·rw [if_pos hv];omega
  ·rw [if_neg hv];exact Nat.min_le_right _ _
theorem vI (v:Int) (n d:Nat):(if v<0 then max (v+(n:Int)) 0 else min v (n:Int))=((aR n d (some v):Nat):Int):=by
 show (if v<0 then max (v+(n:Int)) 0 else min v (n:Int))=(((if v<0 then (v+(n:Int)).toNat else min v.toNat n):Nat):Int)
 by_cases hv:v<0
 ·simp only [if_pos hv];omega
 ·simp only [if_neg hv];omega
theorem xN (lo hi:Option Int) (n:Nat):Builtin.Slice.sliceAdjust lo hi 1 (n:Int)=(((aR n 0 lo:Nat):Int),((aR n n hi:Nat):Int)):=by
 have h1:¬ ((1:Int)<0):=by omega
 unfold Builtin.Slice.sliceAdjust
 simp only [h1,if_false]
 refine Prod.ext ?_ ?_
 ·cases lo with
  | none=>rfl
  | some v=>exact vI v n 0
 ·cases hi with
  | none=>rfl
  | some v=>exact vI v n n
theorem xO (i j:Nat):Builtin.Slice.slicePlaces (i:Int) (j:Int) 1=j - i:=by
 unfold Builtin.Slice.slicePlaces
 have h1:(1:Int) > 0:=by omega
 simp only [h1,if_true,Int.ediv_one]
 split <;> omega
theorem gY {v:Value}{o:Option Int}{Q:Option Int→Shared→Prop}(p:IsPart v o) (h:Q o s):wpAny (model prog w) A (Builtin.Slice.slicePartIndex v) Q E s:=by
 cases p with
 | none=>exact slicePart_none h
 | int i t=>exact slicePart_int h
theorem jC {sl:Addr}{vl vu:Value}{lo hi:Option Int}{n:Nat}{Q:Int×Int×Nat→Shared→Prop}(hs:s.heap.IsSliceOf sl vl vu .none)(pl:IsPart vl lo)(pu:IsPart vu hi)
  (h:Q (((aR n 0 lo:Nat):Int),1,aR n n hi - aR n 0 lo) s):wpAny (model prog w) A (Builtin.Slice.sliceApplied (.ref sl) (pure (n:Int))) Q E s:=by
 obtain ⟨os,hos,hcs,hds⟩:=id hs
 unfold Builtin.Slice.sliceApplied Builtin.Slice.sliceFields
 refine wpAny_bind (wpAny_bind (wpAny_field hos hds (x:=vl) rfl (wpAny_bind (wpAny_field hos hds (x:=vu) rfl (wpAny_bind (wpAny_field hos hds (x:=.none) rfl (wpAny_pure ?_)))))))
 refine wpAny_bind (slicePart_none ?_)
 show wpAny _ _ (if ((1:Int)==0)=true then _ else _) _ _ s
 rw [if_neg (by decide)]
 refine wpAny_bind (gY pl (wpAny_bind (gY pu (wpAny_bind (wpAny_pure ?_)))))
 show wpAny _ _ (match Builtin.Slice.sliceAdjust lo hi 1 (n:Int) with | (lo,hi)=>pure (lo,(1:Int),Builtin.Slice.slicePlaces lo hi 1)) _ _ s
 rw [xN lo hi n]
 show wpAny _ _ (pure (((aR n 0 lo:Nat):Int),(1:Int),Builtin.Slice.slicePlaces ((aR n 0 lo:Nat):Int) ((aR n n hi:Nat):Int) 1)) _ _ s
 rw [xO]
 exact wpAny_pure h
theorem BR (xs:Array Value) (i k:Nat):((List.range k).filterMap fun (m:Nat)=>xs[((i:Int)+(m:Int)*1).toNat]?).toArray=((xs.toList.drop i).take k).toArray:=by
 have e:(fun (m:Nat)=>xs[((i:Int)+(m:Int)*1).toNat]?)=fun m=>xs[i+m]?:=by
  funext m
  have:((i:Int)+(m:Int)*1).toNat=i+m:=by omega
  rw [this]
 rw [e]
 have:=pick_run xs i k
 rw [List.filterMap_map] at this
 have e2:((fun x=>xs[x]?) ∘ fun x=>i+x)=fun m=>xs[i+m]?:=rfl
 rw [e2] at this
 rw [this]
theorem nG {t sl:Addr}{items:Array Value}{vl vu:Value}{lo hi:Option Int}{Q:Value→Shared→Prop}(ht:IsTup s.heap t items)(hs:s.heap.IsSliceOf sl vl vu .none)(pl:IsPart vl lo)(pu:IsPart vu hi)
  (hw:¬ (aR items.size 0 lo=0∧aR items.size items.size hi=items.size))
  (h:Q (.ref s.heap.objs.size) { s with heap:=s.heap.push { cls:=.type "tuple",data:=.seq ((items.toList.drop (aR items.size 0 lo)).take (aR items.size items.size hi - aR items.size 0 lo)).toArray }})
  (hsz:items.size≤sizeLine):wpAny (model prog w) A (getItem (.ref t) (.ref sl)) Q E s:=by
 have jl:sizeOk (.seq ((items.toList.drop (aR items.size 0 lo)).take (aR items.size items.size hi - aR items.size 0 lo)).toArray):=by
  show ((items.toList.drop (aR items.size 0 lo)).take (aR items.size items.size hi - aR items.size 0 lo)).toArray.size≤sizeLine
  rw [List.size_toArray,List.length_take,List.length_drop,Array.length_toList]
  omega
 have hj:aR items.size items.size hi≤items.size:=sZ _ _ (Nat.le_refl _) hi
 obtain ⟨os,hos,hcs,hds⟩:=id hs
 have zy:s.TypeIs (.ref sl) "slice" :=⟨os,hos,hcs⟩
 unfold getItem
 try with_reducible refine wpAny_holding ?_
 first | refine wpAny_bind (wpAny_pure ?_) | skip
 refine wpAny_bind (wpAny_sequenceKey ht.typeIs (by decide) ?_)
 refine wpAny_bind (wpAny_callSpecial?_slot (name:=Str.ofString "__getitem__") ht.typeIs PyProof.Rows.slot_tuple_getitem
  (wpAny_call_entry PyProof.Rows.slot_tuple_getitem ht.typeIs entry_tuple_getitem ?_ (args_tuple_getitem _ _)))
 show wpAny _ _ (Builtin.Tuple.tupleItemsOf (.ref t) >>= _) _ _ s
 refine wpAny_bind (tupleItemsOf_ ht ?_)
 refine wpAny_bind (wpAny_typeOf zy ?_)
 rw [if_pos (by decide)]
 refine wpAny_bind (jC hs pl pu ?_)
 have hno:¬ ((((aR items.size 0 lo:Nat):Int)==0&&(1:Int)==1&&(aR items.size items.size hi - aR items.size 0 lo)==items.size)=true):=by
  intro q
  rw [Bool.and_eq_true,Bool.and_eq_true] at q
  have q1:((aR items.size 0 lo:Nat):Int)=0:=eq_of_beq q.1.1
  have q2:aR items.size items.size hi - aR items.size 0 lo=items.size:=eq_of_beq q.2
  exact hw ⟨by omega,by omega⟩
 show wpAny _ _ (if (((aR items.size 0 lo:Nat):Int)==0&&(1:Int)==1&&(aR items.size items.size hi - aR items.size 0 lo)==items.size)=true then _ else _) _ _ s
 rw [if_neg hno,BR]
 first
  | exact wpAny_bind (m:=Builtin.Tuple.tupleExact _) (wpAny_newObj_type (wpAny_pure ⟨_,rfl,wpAny_pure h⟩) jl)
  | exact wpAny_bind (m:=Builtin.Tuple.tupleExact _) (wpAny_newObj_type (wpAny_bind (wpAny_pure (wpAny_pure ⟨_,rfl,wpAny_pure h⟩))) jl)
  | exact wpAny_bind (wpAny_bind (m:=Builtin.Tuple.tupleExact _) (wpAny_newObj_type (wpAny_pure (wpAny_pure ⟨_,rfl,wpAny_pure h⟩)) jl))
  | exact wpAny_bind (wpAny_bind (m:=Builtin.Tuple.tupleExact _) (wpAny_newObj_type (wpAny_pure ⟨_,rfl,wpAny_pure h⟩) jl))
end
end HT
namespace L2
open PySem PySem.Spec PyProof.Rows
abbrev TO:=St→Hp→(Option Int→Hp→Prop)→Prop
noncomputable def PO (X:Cx) (e:Option Expr) (t:TO):Prop:=
 ∀ (pins:List (Addr×Obj)) (s:Shared) (σ:St) (H:Hp) (Q:Option Int→Hp→Prop),Inv X pins σ H s→t σ H Q→
  wpAny (model X.prog X.w) X.A (evalPart e X.env) (fun u s'=>∃ o H',Inv X pins σ H' s'∧IsPart u o∧Q o H') X.xe s
noncomputable def Gr:TO:=fun _ H Q=>Q none H
noncomputable def N7 (t:TE):TO:=fun σ H Q=>t σ H fun x H1=>∃ i,x=.int i∧Q (some i) H1
section
variable {X:Cx}{e:Expr}{te:TE}{lo hi:Option Expr}{tl th:TO}{pos p2:Pos}
theorem Gs:PO X none Gr:=by
 intro pins s σ H Q I h
 rw [evalPart_none]
 exact wpAny_pure ⟨none,H,I,.none,h⟩
theorem vJ (h:PE X e te):PO X (some e) (N7 te):=by
 intro pins s σ H Q I hw
 rw [evalPart_some]
 refine bQ (h pins s σ H _ I hw) fun u s1 ⟨x,H1,I1,r1,q1⟩=>?_
 obtain ⟨i,rfl,q⟩:=q1
 obtain ⟨t,rfl⟩:=r1
 exact ⟨some i,H1,I1,.int i t,q⟩
noncomputable def ku (X:Cx) (r:V→Option Int→Option Int→Hp→VK→Prop):Prop:=
 ∀ (pins:List (Addr×Obj)) (s:Shared) (σ:St) (H:Hp) (x:V) (v vl vu:Value) (lo hi:Option Int) (sl:Addr) (Q:VK),Inv X pins σ H s→RelV x v→s.heap.IsSliceOf sl vl vu .none→IsPart vl lo→IsPart vu hi→r x lo hi H Q→
  ∃ T id,typeLookup (.type T) "__getitem__" = pure (some (.builtin id))∧s.TypeIs v T∧wpAny (model X.prog X.w) X.A (getItem v (.ref sl)) (EP X pins σ Q) X.xe s
noncomputable def U4 (r:V→Option Int→Option Int→Hp→VK→Prop) (te:TE) (tl th:TO):TE:=fun σ H Q=>te σ H fun x H1=>tl σ H1 fun l H2=>th σ H2 fun u H3=>r x l u H3 Q
theorem BU {r:V→Option Int→Option Int→Hp→VK→Prop}(hr:ku X r) (he:PE X e te) (hl:PO X lo tl) (hu:PO X hi th):PE X (.Subscript e (.Slice lo hi none p2) pos) (U4 r te tl th):=by
 intro pins s σ H Q I h
 refine Subscript_ (bQ (he pins s σ H _ I h) fun v s1 ⟨x,H1,I1,r1,q1⟩=>?_)
 refine wpAny_Slice (bQ (hl pins s1 σ H1 _ I1 q1) fun vl s2 ⟨l,H2,I2,pl,q2⟩=>bQ (hu pins s2 σ H2 _ I2 q2) fun vu s3 ⟨u,H3,I3,pu,q3⟩=>?_)
 rw [evalPart_none]
 refine wpAny_pure ?_
 have I4:Inv X pins σ H3 { s3 with heap:=s3.heap.push { cls:=.type "slice",data:=.fields #[vl,vu,.none]}}:=I3.kept (t':=s3.toks) fun b ob q=>Heap.get?_push_of_some _ q
 obtain ⟨T,id,hT,ht,hg⟩:=hr pins { s3 with heap:=s3.heap.push { cls:=.type "slice",data:=.fields #[vl,vu,.none]}} σ H3 x v vl vu l u s3.heap.objs.size Q I4 r1 (Heap.IsSliceOf.new ..) pl pu q3
 show wpAny (model X.prog X.w) X.A (subscriptTail e (.Slice lo hi none p2) v (.ref s3.heap.objs.size)) (EP X pins σ Q) X.xe { s3 with heap:=s3.heap.push { cls:=.type "slice",data:=.fields #[vl,vu,.none]}}
 exact tail_any (ops:=[.ref s3.heap.objs.size,v]) ht hT hg (by with_unfolding_all rfl)
noncomputable def lZ (xs:List V) (lo hi:Option Int):List V:=(xs.drop (HT.aR xs.length 0 lo)).take (HT.aR xs.length xs.length hi - HT.aR xs.length 0 lo)
theorem nJ (xs:List V) (lo hi:Option Int):(lZ xs lo hi).length≤xs.length:=by
 unfold lZ
 rw [List.length_take,List.length_drop]
 omega
noncomputable def Sh (K:PySem.W.Frag):V→Option Int→Option Int→Hp→VK→Prop:=fun x lo hi H Q=>∃ a xs,x=.ref a∧dM K H a xs∧
 ¬ (HT.aR xs.length 0 lo=0∧HT.aR xs.length xs.length hi=xs.length)∧∀ p,H p=none→Q (.ref p) (upd H p (.tup (lZ xs lo hi)))
theorem IW:ku X (Sh X.K):=by
 intro pins s σ H x v vl vu lo hi sl Q I rx hs pl pu h
 obtain ⟨a,xs,rfl,hx,hw,q⟩:=h
 cases rx
 obtain ⟨its,r,ht,hz⟩:=I.tuple hx
 have hlen:its.toArray.size=xs.length:=by rw [List.size_toArray];exact r.length.symm
 refine ⟨"tuple",_,PyProof.Rows.slot_tuple_getitem.lookup,ht.typeIs,?_⟩
 refine HT.nG ht hs pl pu (by rw [hlen];exact hw) ?_ (by rw [hlen];exact hz)
 rw [hlen]
 refine ⟨.ref s.heap.objs.size,_,I.laid (t':=s.toks) (o:=.tup (lZ xs lo hi)) (fun b ob q=>Heap.get?_push_of_some _ q) (Nat.le_refl _) ?_,rfl,q _ (I.hok.fresh (Nat.le_refl _))⟩
 exact ⟨Nat.le_trans (nJ xs lo hi) hz,_,(r.drop (HT.aR xs.length 0 lo)).take (HT.aR xs.length xs.length hi - HT.aR xs.length 0 lo),IsTup.new _ _⟩
noncomputable def N8 (K:PySem.W.Frag):R2:=fun x y H Q=>∃ a b xs ys,x=.ref a∧y=.ref b∧dM K H a xs∧dM K H b ys∧xs≠[]∧xs.length+ys.length≤sizeLine∧
 (ys=[]→Q (.ref a) H)∧(ys≠[]→∀ p,H p=none→Q (.ref p) (upd H p (.tup (xs++ys))))
theorem Vals.qh {xs:List V}{us:List Value}(r:Vals xs us):us=[]↔xs=[]:=by
 cases r with
 | nil=>simp
 | cons _ _=>simp
theorem Gu:dZ X (binaryOp .Add) (N8 X.K):=by
 intro pins s σ H x y v u Q I rx ry h
 obtain ⟨a,b,xs,ys,rfl,rfl,ha,hb,hx,hz,q1,q2⟩:=h
 cases rx
 cases ry
 obtain ⟨its,r1,p1,_⟩:=I.tuple ha
 obtain ⟨its2,r2,p2,_⟩:=I.tuple hb
 refine HT.Gq p1 p2 (fun z=>hx (r1.qh.mp z)) (fun z=>⟨.ref a,H,I,rfl,q1 (r2.qh.mp z)⟩) (fun z=>?_) (by rw [←r1.length,←r2.length];exact hz)
 refine ⟨.ref s.heap.objs.size,_,I.laid (t':=s.toks) (o:=.tup (xs++ys)) (fun b ob q=>Heap.get?_push_of_some _ q) (Nat.le_refl _) ?_,rfl,q2 (fun w=>z (r2.qh.mpr w)) _ (I.hok.fresh (Nat.le_refl _))⟩
 exact ⟨by rw [List.length_append];exact hz,_,r1.append r2,IsTup.new _ _⟩
end
end L2
namespace L2
open PySem PySem.Spec PyProof.Rows
noncomputable def eG (n:Nat) (i:Int):Option Nat:=if 0≤i then (if i<n then some i.toNat else none) else if -(n:Int)≤i then some (i+n).toNat else none
noncomputable def bU {α:Type}(xs:List α) (i:Int):Option α:=(eG xs.length i).bind fun j=>xs[j]?
theorem Gv {n:Nat}{i:Int}{j:Nat}(h:eG n i=some j):seqIndex? i n=some j∧j<n∧-(n:Int)≤i∧i<n:=by
 unfold eG at h
 by_cases h0:0≤i
 ·rw [if_pos h0] at h
  by_cases h1:i<n
  ·rw [if_pos h1] at h
   have e:i.toNat=j:=Option.some.inj h
   exact ⟨by rw [seqIndex_of h0 h1,e],by omega,by omega,h1⟩
  ·rw [if_neg h1] at h;cases h
 ·rw [if_neg h0] at h
  by_cases h1:-(n:Int)≤i
  ·rw [if_pos h1] at h
   have e:(i+n).toNat=j:=Option.some.inj h
   exact ⟨by rw [seqIndex_neg (by omega) h1,e],by omega,h1,by omega⟩
  ·rw [if_neg h1] at h;cases h
theorem qi {α:Type}{xs:List α}{i:Int}{v:α}(h:bU xs i=some v):∃ j,seqIndex? i xs.length=some j∧xs[j]?=some v∧j<xs.length∧-(xs.length:Int)≤i∧i<xs.length:=by
 unfold bU at h
 cases e:eG xs.length i with
 | none=>rw [e] at h;cases h
 | some j=>
  rw [e] at h
  obtain ⟨h1,h2,h3,h4⟩:=Gv e
  exact ⟨j,h1,h,h2,h3,h4⟩
theorem vK {α:Type}{xs:List α}{j:Nat}{v:α}(h:xs[j]?=some v):bU xs (j:Int)=some v:=by
 have hj:j<xs.length:=(List.getElem?_eq_some_iff.mp h).1
 have e:eG xs.length (j:Int)=some j:=by
  unfold eG
  rw [if_pos (by omega),if_pos (by omega)];simp
 unfold bU;rw [e];exact h
noncomputable def qj (b:Expr):Prop:=∀ o i,subscripted b false o i=operate [o,i] (getItem o i)
noncomputable def vL (X:Cx) (r:R2):Prop:=
 ∀ (value slice:Expr) (pins:List (Addr×Obj)) (s:Shared) (σ:St) (H:Hp) (x y:V) (v u:Value) (Q:VK),Inv X pins σ H s→RelV x v→RelV y u→r x y H Q→
  subscripted slice false v u=operate [v,u] (getItem v u)→wpAny (model X.prog X.w) X.A (subscriptTail value slice v u) (EP X pins σ Q) X.xe s
noncomputable def qV (X:Cx) (id:String) (r:V→List V→Hp→VK→Prop):Prop:=
 ∀ (pins:List (Addr×Obj)) (s:Shared) (σ:St) (H:Hp) (x:V) (xs:List V) (v:Value) (us:List Value) (Q:VK),Inv X pins σ H s→RelV x v→Vals xs us→r x xs H Q→
  wpAny (model X.prog X.w) X.A (call (.builtin id) (v :: us)) (EP X pins σ Q) X.xe s
section
variable {X:Cx}{a b:Expr}{ta tb:TE}{pos:Pos}
theorem N9 {r:R2}(hr:vL X r) (ha:PE X a ta) (hb:PE X b tb) (hs:qj b):PE X (.Subscript a b pos) (zo r ta tb):=by
 intro pins s σ H Q I h
 exact Subscript_ (xG ha hb I h fun v u s2 x y H2 I2 rx ry q=>hr a b pins s2 σ H2 x y v u Q I2 rx ry q (hs _ _))
noncomputable def Si (K:PySem.W.Frag):R2:=fun x y H Q=>∃ p xs i v,x=.ref p∧y=.int i∧dY K H p xs∧bU xs i=some v∧Q v H
noncomputable def Sj (K:PySem.W.Frag):R2:=fun x y H Q=>∃ p xs i v,x=.ref p∧y=.int i∧dM K H p xs∧bU xs i=some v∧Q v H
noncomputable def Sk:R2:=fun x y H Q=>∃ z i c,x=.str z∧y=.int i∧z.length≤sizeLine∧bU z.cps.toList i=some c∧Q (.str ⟨#[c]⟩) H
theorem Gw:vL X (Si X.K):=by
 intro value slice pins s σ H x y v u Q I rx ry h hs
 obtain ⟨p,xs,i,z,rfl,rfl,hq,he,q⟩:=h
 cases rx
 obtain ⟨t,rfl⟩:=ry
 obtain ⟨its,r,pl,hz⟩:=I.list hq
 obtain ⟨j,h1,h2,h3,h4,h5⟩:=qi he
 obtain ⟨w,ew,rw'⟩:=r.get h2
 have hl:=r.length
 have hn:=kq
 have fin:EP X pins σ Q w s:=⟨z,H,I,rw',q⟩
 by_cases h0:0≤i
 ·have hj:i.toNat=j:=by
   rw [seqIndex_of h0 h5] at h1
   exact Option.some.inj h1
  exact item_listR pl.isList h0 (by omega) (by rw [hj];simpa using ew) fin hs
 ·have hj:(i+(its.toArray.size:Int)).toNat=j:=by
   rw [seqIndex_neg (by omega) h4] at h1
   rw [List.size_toArray,←hl]
   exact Option.some.inj h1
  exact subscriptTail_builtinR (x:=w) pl.isList.typeIs slot_list_getitem.lookup
   (wpAny_getItem_list_neg (Q:=fun r s'=>r=w∧EP X pins σ Q r s') pl.isList (by omega) (by rw [List.size_toArray] <;> omega) (by omega) (by rw [hj];simpa using ew) ⟨rfl,fin⟩) hs
theorem IX:vL X (Sj X.K):=by
 intro value slice pins s σ H x y v u Q I rx ry h hs
 obtain ⟨p,xs,i,z,rfl,rfl,hq,he,q⟩:=h
 cases rx
 obtain ⟨t,rfl⟩:=ry
 obtain ⟨its,r,pl,hz⟩:=I.tuple hq
 obtain ⟨j,h1,h2,h3,h4,h5⟩:=qi he
 obtain ⟨w,ew,rw'⟩:=r.get h2
 have hl:=r.length
 have hn:=kq
 have fin:EP X pins σ Q w s:=⟨z,H,I,rw',q⟩
 exact subscriptTail_builtinR (x:=w) pl.typeIs slot_tuple_getitem.lookup
  (getItem_tuple (j:=j) (Q:=fun r s'=>r=w∧EP X pins σ Q r s') pl (by omega) (by omega) (by rw [List.size_toArray,←hl];exact h1) (by simpa using ew) ⟨rfl,fin⟩) hs
theorem IY:vL X Sk:=by
 intro value slice pins s σ H x y v u Q I rx ry h hs
 obtain ⟨z,i,c,rfl,rfl,hz,he,q⟩:=h
 obtain ⟨t,rfl⟩:=rx
 obtain ⟨t',rfl⟩:=ry
 obtain ⟨j,h1,h2,h3,h4,h5⟩:=qi he
 have hl:z.cps.toList.length=z.length:=by simp [Str.length]
 rw [hl] at h1 h4 h5
 have hn:=kq
 exact tail_any (typeIs_str s z t) slot_str_getitem.lookup (getItem_str (c:=c) (by
  have e1:decide (i < -(2 ^ 63:Int))=false:=decide_eq_false (by omega)
  have e2:decide (i≥2 ^ 63)=false:=decide_eq_false (by omega)
  rw [e1,e2,Bool.or_false]) (by rw [h1];simpa using h2) ⟨.str ⟨#[c]⟩,H,I.tok _,⟨_,rfl⟩,q⟩) hs
theorem tu (lo hi:Option Int) (n:Nat):(sliceBounds lo hi none n).1=((HT.aR n 0 lo:Nat):Int)∧(sliceBounds lo hi none n).2.1=((HT.aR n n hi:Nat):Int)∧(sliceBounds lo hi none n).2.2=1:=by
 refine ⟨?_,?_,rfl⟩
 ·cases lo with
  | none=>simp [sliceBounds,HT.aR]
  | some i=>
   simp only [sliceBounds,HT.aR,Option.getD_none,show (1:Int) > 0 by decide,if_true]
   by_cases h:i<0
   ·simp only [h,if_true] <;> omega
   ·simp only [h,if_false] <;> omega
 ·cases hi with
  | none=>simp [sliceBounds,HT.aR]
  | some i=>
   simp only [sliceBounds,HT.aR,Option.getD_none,show (1:Int) > 0 by decide,if_true]
   by_cases h:i<0
   ·simp only [h,if_true] <;> omega
   ·simp only [h,if_false] <;> omega
theorem rQ (its:List Value) (lo hi:Option Int):slicePick its.toArray lo hi none=((its.drop (HT.aR its.length 0 lo)).take (HT.aR its.length its.length hi - HT.aR its.length 0 lo)).toArray:=by
 obtain ⟨h1,h2,h3⟩:=tu lo hi its.toArray.size
 unfold slicePick
 rw [h1,h2,h3]
 simp only [sliceRange_one,pick_run,List.size_toArray] <;> rfl
noncomputable def Sn (K:PySem.W.Frag):V→Option Int→Option Int→Hp→VK→Prop:=fun x lo hi H Q=>∃ a xs,x=.ref a∧dY K H a xs∧∀ p,H p=none→Q (.ref p) (upd H p (.lst (lZ xs lo hi)))
theorem Gx:ku X (Sn X.K):=by
 intro pins s σ H x v vl vu lo hi sl Q I rx hs pl pu h
 obtain ⟨a,xs,rfl,hx,q⟩:=h
 cases rx
 obtain ⟨its,r,ht,hz⟩:=I.list hx
 have hlen:=r.length
 refine ⟨"list",_,slot_list_getitem.lookup,ht.isList.typeIs,?_⟩
 refine wpAny_getItem_list_slice ht.isList hs pl pu .none (by simp) ?_ (by rw [List.size_toArray] <;> omega)
 rw [rQ,←hlen]
 refine ⟨.ref s.heap.objs.size,_,I.laid (t':=s.toks) (o:=.lst (lZ xs lo hi)) (fun b ob q=>Heap.get?_push_of_some _ q) (Nat.le_refl _) ?_,rfl,q _ (I.hok.fresh (Nat.le_refl _))⟩
 exact ⟨Nat.le_trans (nJ xs lo hi) hz,_,0,(r.drop (HT.aR xs.length 0 lo)).take (HT.aR xs.length xs.length hi - HT.aR xs.length 0 lo),Heap.get?_push_size _ rfl⟩
noncomputable def rV:V→Bool
 | .bz=>true
 | .bl _=>true
 | .int _=>true
 | .str _=>true
 | _=>false
theorem mh:fM X (.builtin "len") (fun xs H Q=>∃ p ys,xs=[.ref p]∧(dY X.K H p ys∨dM X.K H p ys)∧Q (.int ys.length) H):=by
 intro pins s σ H xs us Q I r h
 obtain ⟨p,ys,rfl,hq,q⟩:=h
 obtain ⟨u,rfl,rx⟩:=vals1 r
 cases rx
 have hn:=kq
 rcases hq with hq | hq
 ·obtain ⟨its,r',pl,hz⟩:=I.list hq
  have hlen:=r'.length
  exact Calls.call_len_list pl.isList (by simp only [List.size_toArray] <;> omega) ⟨.int ys.length,H,I.tok _,⟨s.toks+1,by rw [List.size_toArray,hlen]⟩,q⟩
 ·obtain ⟨its,r',pl,hz⟩:=I.tuple hq
  have hlen:=r'.length
  exact len_tuple pl (by simp only [List.size_toArray] <;> omega) ⟨.int ys.length,H,I.tok _,⟨s.toks+1,by rw [List.size_toArray,hlen]⟩,q⟩
theorem tw:fM X (.builtin "len") (fun xs H Q=>∃ z,xs=[.str z]∧z.length≤sizeLine∧Q (.int z.length) H):=by
 intro pins s σ H xs us Q I r h
 obtain ⟨z,rfl,hz,q⟩:=h
 obtain ⟨u,rfl,t,rfl⟩:=vals1 r
 have hn:=kq
 exact len_str (by omega) ⟨.int z.length,H,I.tok _,⟨_,rfl⟩,q⟩
theorem lQ:fM X (.type "tuple") (fun xs H Q=>∃ p ys,xs=[.ref p]∧((dY X.K H p ys∧∀ l,H l=none→Q (.ref l) (upd H l (.tup ys)))∨(dM X.K H p ys∧Q (.ref p) H))):=by
 intro pins s σ H xs us Q I r h
 obtain ⟨p,ys,rfl,h⟩:=h
 obtain ⟨u,rfl,rx⟩:=vals1 r
 cases rx
 rcases h with ⟨hq,q⟩ | ⟨hq,q⟩
 ·obtain ⟨its,r',pl,hz⟩:=I.list hq
  have hlen:=r'.length
  refine call_tuple_list pl.isList (fun h' kp=>?_) (by simp only [List.size_toArray] <;> omega)
  have I1:Inv X pins σ H { s with heap:=h' }:=I.kept (t':=s.toks) kp
  have I2:Inv X pins σ (upd H h'.objs.size (.tup ys)) { s with heap:=h'.push { cls:=.type "tuple",data:=.seq its.toArray }}:=
   I1.laid (t':=s.toks) (fun b o e=>Heap.get?_push_of_some _ e) (Nat.le_refl _) (show dR X.prog X.w _ _ _ (.tup ys) from ⟨hz,its,r',IsTup.new _ _⟩)
  exact ⟨.ref h'.objs.size,_,I2,rfl,q _ (I1.hok.fresh (Nat.le_refl _))⟩
 ·obtain ⟨its,r',pl,hz⟩:=I.tuple hq
  exact call_tuple_same pl ⟨.ref p,H,I,rfl,q⟩
noncomputable def zz (K:PySem.W.Frag) (T:String) (x:V) (H:Hp):Prop:=match x with
 | .str _=>T = "str"
 | .int _=>T = "int"
 | .ref p=>(T = "list" ∧∃ xs,dY K H p xs)∨(T = "tuple" ∧∃ o,K.lookup p=some o∧o.cls=.type "tuple" ∧o.dict=none)∨
   (T = "dict" ∧((∃ kvs,H p=some (.dK kvs))∨∃ kvs,H p=some (.dT kvs)))∨(T = "set" ∧∃ S n,H p=some (.set S n))
 | _=>False
theorem zA {pins:List (Addr×Obj)}{σ:St}{H:Hp}{s:Shared}{T:String}{x:V}{v:Value}(I:Inv X pins σ H s) (r:RelV x v) (ty:zz X.K T x H) :
  s.TypeIs v T∧∀ a,v=.ref a→∃ ob,s.heap.get? a=some ob∧ob.dict=none:=by
 cases x with
 | str z=>
  obtain ⟨t,rfl⟩:=r
  cases (show T = "str" from ty)
  exact ⟨typeIs_str s z t,fun _ e=>nomatch e⟩
 | int i=>
  obtain ⟨t,rfl⟩:=r
  cases (show T = "int" from ty)
  exact ⟨typeIs_int s i t,fun _ e=>nomatch e⟩
 | ref p=>
  cases r
  rcases ty with ⟨rfl,xs,hq⟩ | ⟨rfl,o,hk,hc,hd⟩ | ⟨rfl,hk⟩ | ⟨rfl,S,n,hk⟩
  ·obtain ⟨its,_,pl,_⟩:=I.list hq
   refine ⟨pl.isList.typeIs,fun a e=>?_⟩
   cases e
   obtain ⟨o,n,e,c,hd,_⟩:=pl
   exact ⟨o,e,hd⟩
  ·refine ⟨⟨o,I.gw p o hk,hc⟩,fun a e=>?_⟩
   cases e
   exact ⟨o,I.gw _ o hk,hd⟩
  ·have z:∃ o,s.heap.get? p=some o∧o.ExactDict:=by
    rcases hk with ⟨kvs,hk⟩ | ⟨kvs,hk⟩
    ·obtain ⟨_,_,_,_,o,_,_,e,ex,_⟩:=I.hok p _ hk
     exact ⟨o,e,ex⟩
    ·obtain ⟨_,_,_,_,o,_,_,e,ex,_⟩:=I.hok p _ hk
     exact ⟨o,e,ex⟩
   obtain ⟨o,e,ex⟩:=z
   refine ⟨⟨o,e,ex.1⟩,fun a e2=>?_⟩
   cases e2
   exact ⟨o,e,ex.2.1⟩
  ·obtain ⟨o,_,_,_,e,ex,_⟩:=I.hok p _ hk
   refine ⟨⟨o,e,ex.1⟩,fun a e2=>?_⟩
   cases e2
   exact ⟨o,e,ex.2.1⟩
 | _=>exact False.elim ty
noncomputable def So (K:PySem.W.Frag) (T:String) (r:V→List V→Hp→VK→Prop) (to:TE):TE:=fun σ H Q=>to σ H fun x H1=>zz K T x H1∧r x [] H1 Q
noncomputable def U5 (K:PySem.W.Frag) (T:String) (r:V→List V→Hp→VK→Prop) (to:TE) (t:TA):TE:=fun σ H Q=>to σ H fun x H1=>zz K T x H1∧t σ H1 fun xs H2=>r x xs H2 Q
variable {o e:Expr}{es:List Expr}{to:TE}{t:TA}{name:Str}{apos cpos:Pos}{T id:String}{r:V→List V→Hp→VK→Prop}
theorem IZ (pa:PlainAttrs T) (slot:Slot T name id) (hty:typeOf (.builtin id)=pure (.type "method_descriptor")) (hm:qV X id r) (ho:PE X o to)
  (hbase:attributeBase o name X.env (eval o X.env)=eval o X.env:=by rfl) (hline:(apos.endLine==cpos.line)=true:=by rfl):PE X (.Call (.Attribute o name apos) [] [] cpos) (So X.K T r to):=by
 intro pins s σ H Q I h
 refine wpAny_Call_method0_late hbase hline (bQ (ho pins s σ H _ I h) fun v s1 ⟨x,H1,I1,r1,ty,q1⟩=>?_)
 obtain ⟨h1,h2⟩:=zA I1 r1 ty
 exact ⟨T,id,pa,slot,hty,h1,h2,Calls.callWith_builtin rfl (PySem.evalArgs_none (hm pins s1 σ H1 x [] v [] Q I1 r1 .nil q1))⟩
theorem Oa (pa:PlainAttrs T) (slot:Slot T name id) (hty:typeOf (.builtin id)=pure (.type "method_descriptor")) (hm:qV X id r) (ho:PE X o to) (ha:PA X (e :: es) t)
  (hbase:attributeBase o name X.env (eval o X.env)=eval o X.env:=by rfl)
  (hfew:((backTo cpos (starEach (e :: es) X.env)).all (fun x=>!x.1)&&(backToKw cpos (keywordEach [] X.env)).all (fun x=>x.1.isSome)
   &&decide ((e :: es).length+([]:List Keyword).length+(if ([]:List Keyword).isEmpty then 0 else 1)<30))=true:=by rfl)
  (hline:(apos.endLine==cpos.line)=true:=by rfl) (hs:starEach (e :: es) X.env=(false,eval e X.env) :: starEach es X.env:=by rfl) (hplain:(backTo cpos (starEach es X.env)).any (·.1)=false:=by rfl) :
  PE X (.Call (.Attribute o name apos) (e :: es) [] cpos) (U5 X.K T r to t):=by
 intro pins s σ H Q I h
 refine wpAny_Call_method_late hbase hfew hline rfl (bQ (ho pins s σ H _ I h) fun v s1 ⟨x,H1,I1,r1,ty,q1⟩=>?_)
 obtain ⟨h1,h2⟩:=zA I1 r1 ty
 refine ⟨T,id,pa,slot,hty,h1,h2,?_⟩
 have hA:=ha cpos pins s1 σ H1 _ I1 q1
 rw [hs] at hA ⊢
 refine Calls.callWith_builtin (by show (false || (backTo cpos (starEach es X.env)).any (·.1))=false;rw [hplain] <;> rfl) (Calls.evalArgs_plain ?_)
 exact bQ hA fun us s2 ⟨vs,H2,I2,r2,q2⟩=>hm pins s2 σ H2 x vs v us Q I2 r1 r2 q2
end
end L2
namespace L2
open PySem PySem.Spec PyProof.Rows
noncomputable def Ja (X:Cx) (id:String) (r:V→List V→Hp→VK→Prop):Prop:=
 ∀ (pins:List (Addr×Obj)) (s:Shared) (σ:St) (H:Hp) (x:V) (xs:List V) (v:Value) (us:List Value) (Q:VK),Inv X pins σ H s→RelV x v→Vals xs us→r x xs H Q→
  wpAny (model X.prog X.w) X.A (call (.builtin id) (v :: us)) (EP X pins σ Q) X.xe s
theorem Vals.one:∀ {x:V}{us:List Value},Vals [x] us→∃ u,us=[u]∧RelV x u
 | _,_,.cons r .nil=>⟨_,rfl,r⟩
theorem Vals.zero:∀ {us:List Value},Vals [] us→us=[]
 | _,.nil=>rfl
theorem Vals.dropLast {xs:List V}{us:List Value}(h:Vals xs us):Vals xs.dropLast us.dropLast:=by
 induction h with
 | nil=>exact .nil
 | cons r t ih=>
  cases t with
  | nil=>exact .nil
  | cons q t'=>exact .cons r ih
theorem Vals.reverse {xs:List V}{us:List Value}(h:Vals xs us):Vals xs.reverse us.reverse:=by
 induction h with
 | nil=>exact .nil
 | cons r t ih=>rw [List.reverse_cons,List.reverse_cons];exact Vals.append ih (.cons r .nil)
theorem Vals.rep {xs:List V}{us:List Value}(h:Vals xs us):∀ k:Nat,Vals (List.replicate k xs).flatten (List.replicate k us).flatten
 | 0=>.nil
 | k+1=>by
  rw [List.replicate_succ,List.replicate_succ,List.flatten_cons,List.flatten_cons]
  exact Vals.append h (Vals.rep h k)
theorem xP {α:Type}(l:List α):l.eraseIdx (l.length - 1)=l.dropLast:=by
 induction l with
 | nil=>rfl
 | cons a r ih=>
  cases r with
  | nil=>rfl
  | cons b r=>
   have e:(a :: b :: r).length - 1=((b :: r).length - 1)+1:=by
    have h1:(a :: b :: r).length=r.length+2:=rfl
    have h2:(b :: r).length=r.length+1:=rfl
    omega
   rw [e,List.eraseIdx_cons_succ,ih]
   all_goals rfl
theorem foldl_rep (its:List Value):∀ (k:Nat) (acc:List Value),
  List.foldl (fun x1 x2=>x1++x2) acc.toArray (List.replicate k its.toArray)=(acc++(List.replicate k its).flatten).toArray
 | 0,acc=>by simp
 | k+1,acc=>by
  have e:acc.toArray++its.toArray=(acc++its).toArray:=by simp
  have e2:(acc++its)++(List.replicate k its).flatten=acc++(List.replicate (k+1) its).flatten:=by
   rw [List.replicate_succ,List.flatten_cons,List.append_assoc]
  rw [←e2,←foldl_rep its k (acc++its),←e,List.replicate_succ,List.foldl_cons]
section
variable {X:Cx}{pins:List (Addr×Obj)}{σ:St}{H:Hp}{s:Shared}{l b:Addr}{xs ys zs:List V}
theorem Inv.BV {its its':List Value}{n:Nat}{f:Array Value→Array Value}{t':Nat}(I:Inv X pins σ H s) (hH:H l=some (.lst xs))
  (e:s.heap.get? l=some { cls:=.type "list",data:=.seq its.toArray n }) (hf:f its.toArray=its'.toArray) (hv:Vals ys its') (hz:ys.length≤sizeLine) :
  Inv X pins σ (upd H l (.lst ys)) { s with heap:=s.heap.update l (Obj.mapSeq f),toks:=t' }:=by
 have q:=PySem.IsL.update e f
 rw [hf] at q
 refine I.write (x:=l) (e:=l) (by rw [hH];exact trivial) (.inl rfl) (fun b' u hb hu=>(Heap.get?_update_other s.heap (Obj.mapSeq f) (Ne.symm hb)).trans hu) ⟨_,q⟩ ?_
 exact ⟨hz,its',_,hv,q⟩
theorem Inv.BW {its:List Value}{t':Nat}(I:Inv X pins σ H s) (hv:Vals ys its) (hz:ys.length≤sizeLine) :
  Inv X pins σ (upd H s.heap.objs.size (.lst ys)) { s with heap:=s.heap.push { cls:=.type "list",data:=.seq its.toArray },toks:=t' }:=
 I.laid (fun _ _ q=>Heap.get?_push_of_some _ q) (Nat.le_refl _) ⟨hz,its,0,hv,Heap.get?_push_size _ rfl⟩
theorem Inv.fresh (I:Inv X pins σ H s):H s.heap.objs.size=none:=I.hok.fresh (Nat.le_refl _)
theorem Inv.om (I:Inv X pins σ H s) (hH:H l=some (.lst xs)):xs.length≤sizeLine∧∃ (its:List Value) (n:Nat),Vals xs its∧xs.length=its.length∧s.heap.get? l=some { cls:=.type "list",data:=.seq its.toArray n }:=by
 obtain ⟨z,its,n,r,e⟩:=I.hok l _ hH
 exact ⟨z,its,n,r,r.length,e⟩
theorem tB {n:Nat}(h:n≤sizeLine):Builtin.List.listTooLong n=false:=by
 unfold Builtin.List.listTooLong
 exact decide_eq_false (by omega)
end
section
variable {X:Cx}
noncomputable def Gy:V→List V→Hp→VK→Prop:=fun x vs H Q=>∃ l xs y,x=.ref l∧vs=[y]∧H l=some (.lst xs)∧xs.length<sizeLine∧Q .bz (upd H l (.lst (xs++[y])))
theorem qW:Ja X "list.append" Gy:=by
 intro pins s σ H x vs v us Q I rx rv h
 obtain ⟨l,xs,y,rfl,rfl,hH,hz,q⟩:=h
 cases rx
 obtain ⟨u,rfl,ru⟩:=rv.one
 obtain ⟨z,its,n,r,hl,e⟩:=I.om hH
 refine call_meets F.slot_list_append ⟨_,e,rfl⟩ F.entry_list_append (F.args_list_append_2 _ _) (PySem.list_append l its.toArray n u (by rw [List.size_toArray];omega)) ⟨e,?_⟩
 refine ⟨.bz,_,I.BV (its':=its++[u]) hH e (by simp) (r.append (.cons ru .nil)) ?_,rfl,q⟩
 rw [List.length_append,List.length_singleton]
 omega
noncomputable def Gz:V→List V→Hp→VK→Prop:=fun x vs H Q=>∃ l b xs zs,x=.ref l∧vs=[.ref b]∧H l=some (.lst xs)∧H b=some (.lst zs)∧xs.length+zs.length≤sizeLine∧Q .bz (upd H l (.lst (xs++zs)))
theorem zB:Ja X "list.extend" Gz:=by
 intro pins s σ H x vs v us Q I rx rv h
 obtain ⟨l,b,xs,zs,rfl,rfl,hH,hB,hz,q⟩:=h
 cases rx
 obtain ⟨u,rfl,ru⟩:=rv.one
 cases ru
 obtain ⟨z,its,n,r,hl,e⟩:=I.om hH
 obtain ⟨z2,its2,n2,r2,hl2,e2⟩:=I.om hB
 have hsz:its.toArray.size+its2.toArray.size≤sizeLine:=by rw [List.size_toArray,List.size_toArray];omega
 have xQ:¬ (!its.toArray.isEmpty&&Builtin.List.listTooLong (its.toArray.size+its2.toArray.size))=true:=by
  rw [tB hsz,Bool.and_false]
  exact Bool.false_ne_true
 refine call_meets F.slot_list_extend ⟨_,e,rfl⟩ F.entry_list_extend (F.args_list_extend_2 _ _)
  (AutoSeq1.list_extend_list_list_0 l its.toArray n b its2.toArray n2 xQ (by rw [List.size_toArray];omega) (by omega)) ⟨e,e2,?_⟩
 refine ⟨.bz,_,I.BV (its':=its++its2) hH e (by simp) (r.append r2) ?_,rfl,q⟩
 rw [List.length_append]
 omega
noncomputable def Sq:V→List V→Hp→VK→Prop:=fun x vs H Q=>∃ l xs y,x=.ref l∧vs=[]∧H l=some (.lst xs)∧xs[xs.length - 1]?=some y∧Q y (upd H l (.lst xs.dropLast))
theorem Jb:Ja X "list.pop" Sq:=by
 intro pins s σ H x vs v us Q I rx rv h
 obtain ⟨l,xs,y,rfl,rfl,hH,hy,q⟩:=h
 cases rx
 have U6:=rv.zero
 subst U6
 obtain ⟨z,its,n,r,hl,e⟩:=I.om hH
 obtain ⟨u,hu,ru⟩:=r.get hy
 have hy':its.toArray[its.toArray.size - 1]?=some u:=by
  show its.toArray[its.length - 1]?=some u
  rw [←Array.getElem?_toList,←hl]
  exact hu
 refine call_meets F.slot_list_pop ⟨_,e,rfl⟩ F.entry_list_pop (F.args_list_pop_1 _) (MeetsSeq.list_pop_last l its.toArray n u hy' (by rw [List.size_toArray];omega)) ⟨e,?_⟩
 refine ⟨y,_,I.BV (its':=its.dropLast) hH e ?_ r.dropLast ?_,ru,q⟩
 ·show its.toArray.eraseIdxIfInBounds (its.toArray.size - 1)=its.dropLast.toArray
  rw [List.size_toArray,List.eraseIdxIfInBounds_toArray,xP]
 ·rw [List.length_dropLast]
  omega
noncomputable def Su:R2:=fun x y H Q=>∃ l b xs zs,x=.ref l∧y=.ref b∧H l=some (.lst xs)∧H b=some (.lst zs)∧xs.length+zs.length≤sizeLine∧∀ p,H p=none→Q (.ref p) (upd H p (.lst (xs++zs)))
theorem Jc:dZ X (binaryOp .Add) Su:=by
 intro pins s σ H x y v u Q I rx ry h
 obtain ⟨l,b,xs,zs,rfl,rfl,hH,hB,hz,q⟩:=h
 cases rx
 cases ry
 obtain ⟨z,its,n,r,hl,e⟩:=I.om hH
 obtain ⟨z2,its2,n2,r2,hl2,e2⟩:=I.om hB
 refine PySem.P.add_list e e2 ?_ (by rw [List.size_toArray,List.size_toArray];omega)
 have ea:its.toArray++its2.toArray=(its++its2).toArray:=by simp
 rw [ea]
 exact ⟨.ref _,_,I.BW (t':=s.toks) (r.append r2) (by rw [List.length_append];omega),rfl,q _ I.fresh⟩
noncomputable def Sv:R2:=fun x y H Q=>∃ l k xs,x=.ref l∧y=.int k∧H l=some (.lst xs)∧-(2 ^ 63)≤k∧k<2 ^ 63∧xs.length*k.toNat≤sizeLine∧
 ∀ p,H p=none→Q (.ref p) (upd H p (.lst (List.replicate k.toNat xs).flatten))
theorem len_rep {α:Type}(xs:List α) (k:Nat):(List.replicate k xs).flatten.length=k*xs.length:=by
 induction k with
 | zero=>simp
 | succ k ih=>rw [List.replicate_succ,List.flatten_cons,List.length_append,ih,Nat.succ_mul,Nat.add_comm]
theorem Jd:dZ X (binaryOp .Mult) Sv:=by
 intro pins s σ H x y v u Q I rx ry h
 obtain ⟨l,k,xs,rfl,rfl,hH,h1,h2,hz,q⟩:=h
 cases rx
 obtain ⟨t,rfl⟩:=ry
 obtain ⟨z,its,n,r,hl,e⟩:=I.om hH
 have hlen:its.toArray.size*k.toNat≤sizeLine:=by rw [List.size_toArray,←hl];exact hz
 have hcap:¬ its.toArray.size*k.toNat > (2 ^ 63 - 1) / 8:=by
  have:(sizeLine:Nat)≤(2 ^ 63 - 1) / 8:=by decide
  omega
 have hfit:¬ (!Builtin.List.listFitsIndex k)=true:=by
  rw [fitsIndex_both h1 h2]
  exact Bool.false_ne_true
 have xQ:¬ Builtin.List.listTooLong (its.toArray.size*k.toNat)=true:=by
  rw [tB hlen]
  exact Bool.false_ne_true
 have hnew:List.foldl (fun x1 x2=>x1++x2) #[] (List.replicate (if its.toArray.isEmpty=true then 0 else k.toNat) its.toArray)=(List.replicate k.toNat its).flatten.toArray:=by
  have f0:∀ m:Nat,List.foldl (fun x1 x2=>x1++x2) #[] (List.replicate m its.toArray)=(List.replicate m its).flatten.toArray:=fun m=>by
   have:=foldl_rep its m []
   rw [List.nil_append] at this
   exact this
  rw [f0]
  cases its with
  | nil=>simp
  | cons a r'=>rw [if_neg (by simp)]
 refine wpAny_binaryOp_repeat_ref (T:="list") (U:="int") (by decide) ⟨_,e,rfl⟩ (fun s'=>typeIs_int s' k t) noFill_list_mul F.fills_int_mul F.slot_int_rmul repeat_list F.slot_int_index.lookup
  (call_meets F.slot_int_rmul (typeIs_int s k t) F.entry_int_rmul (F.args_int_rmul_2 _ _) (int___rmul___int_list k t l its.toArray n)
   ⟨e,rfl,⟨_,e,rfl⟩,call_meets F.slot_list_mul ⟨_,e,rfl⟩ F.entry_list_mul (F.args_list_mul_2 _ _) (AutoListH.list___mul___list_int_3 l its.toArray n k t hfit hcap xQ) ⟨e,?_⟩⟩)
 rw [hnew]
 exact ⟨.ref _,_,I.BW (t':=s.toks) (r.rep k.toNat) (by rw [len_rep,Nat.mul_comm];exact hz),rfl,q _ I.fresh⟩
end
section
variable {prog:Program}{w:World}{A:Around}{E:Value→Shared→Prop}{s:Shared}
end
section
variable {X:Cx}
end
end L2
namespace PR
open PySem PySem.W PySem.Calls PyProof.Rows
theorem oZ {P:Params}{h:Heap}:∀ (ns:List Int) (vs:List Value),WellAll P h vs (ns.map WData.int)→IntsAre vs ns:=by
 intro ns
 induction ns with
 | nil=>
  intro vs w
  rw [List.map_nil] at w
  cases w
  exact .nil
 | cons n ns ih=>
  intro vs w
  rw [List.map_cons] at w
  cases w with
  | cons a b=>
   cases a
   exact .cons _ _ (ih _ b)
theorem zC {l:OpenLaw}{n:Nat}(hn:l.most=some n){P:Params}{h:Heap}{args:List WData}{vals:List Value}
  (hpre:l.row.toRowW.claim.pre args=true) (hwl:WellAll P h vals args) :
  ∃ a vs ns,vals=[Value.ref a]∧args=[WData.list (ns.map WData.int)]∧h.get? a=some { cls:=.type "list",data:=.seq vs.toArray }∧IntsAre vs ns∧ns.length≤n:=by
 have hsh:WShape.hasAll [] args [.list .int]=true:=(pre_splitW hpre).1
 have hc:l.pre.holds [] { args:=args }=true:=(pre_splitW hpre).2
 obtain ⟨d,r,rfl,h1,h2⟩:=hasAllW_cons hsh
 obtain rfl:=hasAllW_nil h2
 obtain ⟨xs,rfl,h3⟩:=hasW_list h1
 obtain ⟨ns,rfl⟩:=items_int h3
 have hlen:ns.length≤n:=by
  unfold OpenLaw.pre at hc
  have h4:(WTm.not (.lt (.lit (.int (n:Int))) (.len (.arg 0)))).holds [] { args:=[.list (ns.map .int)]}=true:=by
   have h4:=(holds_andW hc).1
   rw [hn] at h4
   exact h4
  have h5:=condW_of h4 (w_not (w_lt w_lit (w_len_list (w_arg rfl))))
  rw [List.length_map] at h5
  refine Nat.le_of_not_lt fun q=>?_
  have q':(n:Int)<((ns.length:Nat):Int):=by omega
  first
   | (rw [decide_eq_true q'] at h5;exact absurd h5 (by decide))
   | (simp at h5;omega)
 cases hwl with
 | cons w1 w2=>
  cases w2
  cases w1 with
  | list ho hall=>exact ⟨_,_,ns,rfl,rfl,ho,oZ ns _ hall,hlen⟩
theorem zD (l:OpenLaw) (args:List WData):l.row.toRowW.claim.post args (.bool true) args=true:=
 postW_of (r:=l.row.toRowW) (X:=(true==true))
  (show WShape.has [] (.bool true) .bool=true by first | rfl | decide | simp [WShape.has,WShape.arms,WShape.armsAll])
  (show (WTm.eq .res (.lit (.bool true))).value [] { args:=args,res:=some (.bool true),after:=args }=some (.bool (true==true)) from w_eq_bool (w_res rfl) w_lit) rfl
theorem vf {l:OpenLaw}{n:Nat}{q:Program}{loose:List Str}{XP:(Str→Option Value)→Heap→Prop}{YP:World→Heap→Prop}{d:DefRec}
  (hn:l.most=some n) (hdf:d.params.defaults=[])
  (call:∀ (w:World) (s₀ s₁:Shared) (mg mb:Str→Option Value) (fa:Addr) (o:Obj) (pm cd doc:Value) (a:Addr) (vs:List Value) (ns:List Int),
   Ground q loose [] XP w s₀ mg mb s₁.heap→YP w s₁.heap→
   s₁.heap.get? fa=some o→o.data=.func (docDef d.name d.params d.body d.scope pm cd doc)→s₁.heap.CodeRec cd d.name→mg d.name=some (.ref fa)→
   s₁.heap.get? a=some { cls:=.type "list",data:=.seq vs.toArray }→IntsAre vs ns→ns.length≤n→s₁.gens = #[]→
   codeAny (model l.prog w) callerA (.call (.ref fa) ⟨[.ref a],[]⟩) (fun r s'=>r=.ok (.ret (.bool true))∧OldK s₁.heap s'.heap∧s'.os=s₁.os∧AllBare s'.gens) s₁) :
  WalkO q loose XP YP l.row.toRowW d [] (fun f vs=>PySem.call f vs):=by
 intro w s₀ s₁ mg mb G Y fa o pm cd doc dV kV ho hd hcd hD hmg hg args vals as hpre hlay hrd hwl hlo
 obtain rfl:dV=.none:=Dflts.none hD hdf
 obtain rfl:kV=.none:=Dflts.noKw hD
 obtain ⟨a,vs,ns,rfl,rfl,hobj,hints,hlen⟩:=zC hn hpre hwl
 refine enter_call (codeAny_mono (call w s₀ s₁ mg mb fa o pm cd doc a vs ns G Y ho (fd_plain hd) hcd hmg hobj hints hlen hg) fun r s' hq=>?_)
 obtain ⟨rfl,h2,h3,h4⟩:=hq
 exact ⟨.inl ⟨.bool true,.bool true,[],rfl,fun _=>rfl,.bool true,zD l _,fun _=>⟨List.Pairwise.nil,fun _ hm=>(nomatch hm)⟩⟩,h2,h3,h4⟩
section
variable {prog:Program}{w:World}{A:Around}{E:Value→Shared→Prop}{s:Shared}{K:Frag}
end
end PR
namespace L2
open PySem PySem.Spec PyProof.Rows
theorem qX:∀ {vs:List Value}{ns:List Int},IntsAre vs ns→Vals (ns.map V.int) vs
 | _,_,.nil=>.nil
 | _,_,.cons n t h=>.cons ⟨t,rfl⟩ (qX h)
noncomputable def qk (H:Hp):Prop:=∀ b,H b=none∨∃ o xs,H b=some (.bO o (.lst xs))
theorem BX {P:Program}{w:World}{K:PySem.W.Frag}{mg mb:Str→Option Value}{CX:lP}{k:Nat}{fa a:Addr}{fd:FuncData}{x:Str}{sp:Sp}{s₁:Shared}{vs:List Value}{ns:List Int}
  (KX:K.In s₁.heap) (hns:s₁.heap.Ns mainGlobals mg) (hb:s₁.heap.Ns builtinsNs mb) (Je:∀ x:Str,x≠"__name__" →mb x=bootBuiltins x) (hlim:s₁.heap.NoLimit) (hg:s₁.gens = #[])
  (ha:s₁.heap.get? a=some { cls:=.type "list",data:=.seq vs.toArray }) (hi:IntsAre vs ns) (hl:ns.length≤sizeLine) (hr:gH k callerA)
  (F:∀ base:Heap,K.In base→base.Ns mainGlobals mg→iM P w K mg base CX k fa fd [x] sp) (hbind:∀ (s:Shared) (u:Value),BindsTo s fd ⟨[u],[]⟩ [(x,u)])
  (kr:∀ H:Hp,qk H→dY K H a (ns.map V.int)→sp [.ref a] H (fun v _=>v=.bl true) fun _ _ _=>False)
  (zE:∀ H e s',CX [] H s₁ (fun _ _ _=>False) e s'→False) :
  codeAny (model P w) callerA (.call (.ref fa) ⟨[.ref a],[]⟩) (fun r s'=>r=.ok (.ret (.bool true))∧OldK s₁.heap s'.heap∧s'.os=s₁.os∧AllBare s'.gens) s₁:=by
 have rv:=qX hi
 have Sw:=hi.length
 have core:∀ H:Hp,qk H→dY K H a (ns.map V.int)→fL P w H s₁.heap→(∀ b,H b≠none→b=a)→(H a≠none→K.lookup a=none)→
   codeAny (model P w) callerA (.call (.ref fa) ⟨[.ref a],[]⟩) (fun r s'=>r=.ok (.ret (.bool true))∧OldK s₁.heap s'.heap∧s'.os=s₁.os∧AllBare s'.gens) s₁:=by
  intro H hO hS hok hA hK
  have vM:∀ {b:Addr} {o:Obj},s₁.heap.get? b=some o→H b=none→(kX s₁.heap H).get? b=some o:=fun e n=>BE e n
  have zw:∀ {b:Addr} {o:Obj} {es:Array DictEntry} {ep:Nat},s₁.heap.get? b=some o→o.data=.dict es ep→H b=none:=fun {b o es ep} e d=>by
   cases q:H b with
   | none=>rfl
   | some u=>
    have e':b=a:=hA b (by rw [q];simp)
    subst e'
    rw [ha] at e;cases e
    have d':Data.seq vs.toArray _=Data.dict es ep:=d
    cases d'
  have Em:∀ {b:Addr} {m:Str→Option Value},s₁.heap.Ns b m→(kX s₁.heap H).Ns b m:=fun {b m} ⟨o,es,ep,e,d,r⟩=>⟨o,es,ep,vM e (zw e d),d,r⟩
  have PU:K.In (kX s₁.heap H):=fun b o e=>vM (KX b o e) (by
   cases q:H b with
   | none=>rfl
   | some u=>
    have e':b=a:=hA b (by rw [q];simp)
    subst e'
    rw [hK (by rw [q];simp)] at e;cases e)
  have hM:Mod K mg (kX s₁.heap H):=⟨PU,Em hns,⟨mb,Em hb,Je⟩,let ⟨mc,h1,h2⟩:=hlim;⟨mc,Em h1,h2⟩⟩
  have e0:xK P w K mg (kX s₁.heap H) callerA [] s₁ H:=⟨rfl,hM,fun b o e=>Ga e,Nat.le_of_eq (zd _ _),trivial,fun b hb=>absurd (show b∈([]:List Addr) from hb) (by simp),hok,.of_eq hg⟩
  refine codeAny_mono ((F _ PU (Em hns)).run callerA [] s₁ H ⟨[.ref a],[]⟩ [.ref a] [.ref a] _ _ hr e0 (hbind s₁ (.ref a)) (.cons rfl .nil) (kr H hO hS)) fun r s' h=>?_
  cases r with
  | error e=>exact (zE H e s' h).elim
  | ok fl=>
   cases fl with
   | next=>exact False.elim h
   | brk=>exact False.elim h
   | cont=>exact False.elim h
   | ret u=>
    obtain ⟨v,H',os,bare,un,Sx,r',q⟩:=h
    have q':v=.bl true:=q
    subst q'
    obtain rfl:u=Value.bool true:=r'
    refine ⟨rfl,OldK.of_keep fun b o e=>?_,os,bare⟩
    cases q:H b with
    | none=>exact un.keep b o e q (by intro z;exact absurd (show b∈([]:List Addr) from z) (by simp)) (by simp)
    | some u=>
     rcases hO b with z | ⟨ob,xs,z⟩
     ·rw [q] at z;cases z
     ·have z2:=un.kW b ob _ z
      obtain ⟨e1,_⟩:=hok b _ z
      obtain ⟨e2,_⟩:=Sx b _ z2
      rw [e] at e1;cases e1
      exact e2
 cases hk:K.lookup a with
 | some o=>
  have e:=KX a o hk
  rw [ha] at e
  cases e
  refine core (fun _=>none) (fun _=>.inl rfl) (.inr ⟨_,vs.toArray,_,hk,rfl,rfl,rfl,by rw [List.size_toArray,Sw];exact hl,by simpa using rv⟩) (fun b u z=>by have z':(none:Option HO)=some u:=z;cases z') (fun b z=>absurd rfl z) fun z=>absurd rfl z
 | none=>
  refine core (fun b=>if b=a then some (.bO { cls:=.type "list",data:=.seq vs.toArray } (.lst (ns.map V.int))) else none) (fun b=>?_) (.inl (.inr ⟨{ cls:=.type "list",data:=.seq vs.toArray },if_pos rfl⟩)) (fun b u z=>?_) (fun b z=>?_) fun _=>hk
  ·by_cases hb:b=a
   ·exact .inr ⟨_,_,if_pos hb⟩
   ·exact .inl (if_neg hb)
  ·by_cases hb:b=a
   ·have z':=(if_pos hb).symm.trans z
    cases z'
    subst hb
    exact ⟨ha,by rw [List.length_map];exact hl,vs,_,rv,ha⟩
   ·have z':=(if_neg hb).symm.trans z
    cases z'
  ·by_cases hb:b=a
   ·exact hb
   ·exact absurd (if_neg hb) z
end L2
namespace L2
open PySem PySem.Spec PyProof.Rows
theorem GA {l:PySem.W.OpenLaw}{n k:Nat}{q:Program}{loose:List Str}{XP:(Str→Option Value)→Heap→Prop}{YP:World→Heap→Prop}{d:DefRec}{K:Params→PySem.W.Frag}{CX:World→lP}{sp:World→Sp}{x:Str}
  (hn:l.most=some n) (hn2:n≤sizeLine) (hdf:d.params.defaults=[]) (hr:gH k callerA)
  (hY:∀ (w:World) (h:Heap),YP w h→(K w.params).In h)
  (F:∀ (w:World) (mg:Str→Option Value) (fa:Addr) (h:Heap),(K w.params).In h→h.Ns mainGlobals mg→mg d.name=some (.ref fa)→
   ∃ fd:FuncData,(∀ (s:Shared) (u:Value),BindsTo s fd ⟨[u],[]⟩ [(x,u)])∧
    ∀ base:Heap,(K w.params).In base→base.Ns mainGlobals mg→iM l.prog w (K w.params) mg base (CX w) k fa fd [x] (sp w))
  (kr:∀ (w:World) (H:Hp) (a:Addr) (ns:List Int),ns.length≤n→qk H→dY (K w.params) H a (ns.map V.int)→sp w [.ref a] H (fun v _=>v=.bl true) fun _ _ _=>False)
  (zE:∀ (w:World) (H:Hp) (s:Shared) (e:Value) (s':Shared),CX w [] H s (fun _ _ _=>False) e s'→False) :
  PySem.W.WalkO q loose XP YP l.row.toRowW d [] (fun f vs=>PySem.call f vs):=by
 refine PR.vf hn hdf fun w s₀ s₁ mg mb fa o pm cd doc a vs ns G Y ho hd hcd hmg hobj hints hlen hg=>?_
 have KX:=hY w _ Y
 obtain ⟨fd,hb,hF⟩:=F w mg fa _ KX G.T.g hmg
 exact BX KX G.T.g G.T.b G.T.builtins G.T.nolimit hg hobj hints (Nat.le_trans hlen hn2) hr hF hb (fun H hO hS=>kr w H a ns hlen hO hS) fun H e s'=>zE w H s₁ e s'
theorem BY {l:PySem.W.OpenLaw}{n k:Nat}{q:Program}{loose:List Str}{XP:(Str→Option Value)→Heap→Prop}{YP:World→Heap→Prop}{d:DefRec}{K:Params→PySem.W.Frag}{CX:lP}{sp:PySem.W.Frag→Sp}{x:Str}
  (hn:l.most=some n) (hn2:n≤sizeLine) (hdf:d.params.defaults=[]) (hr:gH k callerA)
  (hY:∀ (w:World) (h:Heap),YP w h→(K w.params).In h)
  (F:∀ (w:World) (mg:Str→Option Value) (fa:Addr) (h:Heap),(K w.params).In h→h.Ns mainGlobals mg→mg d.name=some (.ref fa)→
   ∃ fd:FuncData,(∀ (s:Shared) (u:Value),BindsTo s fd ⟨[u],[]⟩ [(x,u)])∧
    ∀ base:Heap,(K w.params).In base→base.Ns mainGlobals mg→iM l.prog w (K w.params) mg base CX k fa fd [x] (sp (K w.params)))
  (kr:∀ (K:PySem.W.Frag) (H:Hp) (a:Addr) (ns:List Int),ns.length≤n→qk H→dY K H a (ns.map V.int)→sp K [.ref a] H (fun v _=>v=.bl true) fun _ _ _=>False)
  (zE:∀ (H:Hp) (s:Shared) (e:Value) (s':Shared),CX [] H s (fun _ _ _=>False) e s'→False) :
  PySem.W.WalkO q loose XP YP l.row.toRowW d [] (fun f vs=>PySem.call f vs):=
 GA (K:=K) (CX:=fun _=>CX) (sp:=fun w=>sp (K w.params)) hn hn2 hdf hr hY F (fun w H a ns h1 h2 h3=>kr (K w.params) H a ns h1 h2 h3) fun _ H s e s'=>zE H s e s'
end L2
namespace L2
open PySem PySem.Spec PyProof.Rows
noncomputable def aL (s:Stmt):Arguments:=match s with
 | .FunctionDef _ a _ _ _ _ _ _ _ _=>a
 | _=>{ posonlyargs:=[],args:=[],vararg:=none,kwonlyargs:=[],kw_defaults:=[],kwarg:=none,defaults:=[]}
noncomputable def aE (s:Stmt):List Stmt:=match s with
 | .FunctionDef _ _ b _ _ _ _ _ _ _=>b
 | _=>[]
noncomputable def av (s:Stmt):Scope:=match s with
 | .FunctionDef _ _ _ _ _ _ sc _ _ _=>sc
 | _=>{ kind:=.function,names:=[],isGenerator:=false,isCoroutine:=false }
abbrev mj:lP:=fun _ _ _ _ _ _=>False
abbrev E0:XK:=fun _ _ _=>False
theorem Ob {X:Cx}:Passes mj X E0:=fun _ _ _ _ _ _ _ h=>h.elim
structure tD (K:PySem.W.Frag) (x qual:Str) (st:Stmt) (f:Addr) (fd:FuncData):Prop where
 ex:∃ (oc:Value) (od:Option Addr) (kV doc pm:Value) (an:Option Addr) (cdv ct:Value) (osl:Array (Option Value)),
  fd=PySem.W.fnOf x qual (aL st) (aE st) (av st) .none kV doc pm an cdv ct∧K.lookup f=some ⟨oc,od,.func fd,osl⟩∧PySem.W.codeIn K cdv qual=true
 kp:PySem.W.keepIn K (.ref f)=true
section
variable {P:Program}{w:World}{K:PySem.W.Frag}{mg:Str→Option Value}{base:Heap}
theorem tD.ok {x qual:Str}{st:Stmt}{f:Addr}{fd:FuncData}{N ps:List Str}{k:Nat}{sp:Sp}(F:tD K x qual st f fd) (S:bS N ps (av st)) (len:∀ vs H Q E,sp vs H Q E→vs.length=ps.length)
  (hbody:∀ (cdv:Value) (A:Around) (outer:List Env) (s:Shared) (H:Hp) (vs:List V) (Q:VK) (E:XK),gH k (A.deeper (envOfC qual (av st) s.heap.objs.size f cdv))→sp vs H Q E→
   ∃ t,iJ (oh mj P w K mg base N qual (av st) f cdv A outer s H E).qO (aE st) t∧t { nx:=fun _ H'=>Q .bz H',rt:=Q } (start N vs) H):iM P w K mg base mj (k+1) f fd ps sp:=by
 obtain ⟨oc,od,kV,doc,pm,an,cdv,ct,osl,rfl,lk,hcd⟩:=F.ex
 refine N6 lk hcd S len fun A outer s H vs Q E hr kr=>?_
 obtain ⟨t,h,q⟩:=hbody cdv A outer s H vs Q E hr kr
 exact ⟨t,h.qO,q⟩
theorem tD.binds {x qual:Str}{st:Stmt}{f:Addr}{fd:FuncData}{ps:List Str}(F:tD K x qual st f fd)
  (h:∀ (kV doc pm:Value) (an:Option Addr) (cdv ct:Value) (us:List Value),us.length=ps.length→bindArgs (PySem.W.fnOf x qual (aL st) (aE st) (av st) .none kV doc pm an cdv ct) ⟨us,[]⟩=pure (ps.zip us)):Binds K fd ps []:=by
 obtain ⟨oc,od,kV,doc,pm,an,cdv,ct,osl,rfl,lk,hcd⟩:=F.ex
 exact .all (h kV doc pm an cdv ct)
theorem cO {x qual:Str}{st:Stmt}{f:Addr}{oc:Value}{od an:Option Addr}{osl:Array (Option Value)}{kV doc pm cdv ct:Value}(l:K.lookup f=some ⟨oc,od,.func (PySem.W.fnOf x qual (aL st) (aE st) (av st) .none kV doc pm an cdv ct),osl⟩)
  (c:PySem.W.codeIn K cdv qual=true) (k:PySem.W.keepIn K (.ref f)=true):tD K x qual st f (PySem.W.fnOf x qual (aL st) (aE st) (av st) .none kV doc pm an cdv ct):=⟨⟨oc,od,kV,doc,pm,an,cdv,ct,osl,rfl,l,c⟩,k⟩
end
section
variable {X:Cx}
theorem pv (i:Nat) {x:Str}{pos:Pos}(hN:X.N[i]?=some x:=by rfl) (hv:ze X.env.scope x:=by first | exact Or.inl rfl | exact Or.inr (Or.inl rfl) | exact Or.inr (Or.inr rfl)) (hd:(x==("__debug__" : Str))=false:=by decide)
  (hcd:(x==("__classdict__" : Str))=false:=by decide):PE X (.Name x pos) (Ij i):=zh hN hv hd hcd
end
end L2
namespace Ev
inductive D where
 | bz | bl (b:Bool) | int (i:Int) | str (s:List Nat) | tup (ds:List D) | ref (n:Nat)
inductive O where
 | lst (ds:List D) | bO (ds:List D)
abbrev Hh:=List O
abbrev Fr:=List (Option D)
inductive R (α:Type) where
 | ok (a:α) (h:Hh)
 | bad
noncomputable def R.bind {α β:Type}(r:R α) (f:α→Hh→R β):R β:=
 match r with
 | .ok a h=>f a h
 | .bad=>.bad
@[simp] theorem ay {α β:Type} (a:α) (h:Hh) (f:α→Hh→R β):(R.ok a h).bind f=f a h:=rfl
@[simp] theorem BZ {α β:Type} (f:α→Hh→R β):(R.bad:R α).bind f=.bad:=rfl
theorem aj {α β:Type}{r:R α}{f:α→Hh→R β}{b:β}{h:Hh}(e:r.bind f=.ok b h):∃ a h1,r=.ok a h1∧f a h1=.ok b h:=by
 cases r with
 | ok a h1=>exact ⟨a,h1,rfl,e⟩
 | bad=>cases e
noncomputable def R.of {α:Type}(o:Option α) (h:Hh):R α:=match o with
 | some a=>.ok a h
 | none=>.bad
@[simp] theorem d8 {α:Type} (a:α) (h:Hh):R.of (some a) h=.ok a h:=rfl
@[simp] theorem of_none {α:Type} (h:Hh):R.of (none:Option α) h=.bad:=rfl
theorem aM {α:Type}{o:Option α}{h h':Hh}{a:α}(e:R.of o h=.ok a h'):o=some a∧h'=h:=by
 cases o with
 | none=>cases e
 | some b=>cases e;exact ⟨rfl,rfl⟩
inductive cF where
 | add | sub | mul | fdiv | mod
inductive bY where
 | eq | ne | lt | gt
 | isin | lg
inductive TY where
 | int | bool | str | tuple | list
inductive BI where
 | len | sum | min
 | max
inductive ME where
 | join | append | extend | pop
inductive T where
 | one (i:Nat) | many (l:List Nat)
mutual
inductive E where
 | c (d:D) | v (i:Nat) | tup (es:Es) | lst (es:Es)
 | bin (o:cF) (a b:E) | cmp (o:bY) (a b:E)
 | nt (a:E) | neg (a:E) | an (a b:E) | orr (a b:E) | kB (t a b:E)
 | ix (a b:E) | sl (a:E) (lo hi:Eo)
 | rv (a:E)
 | cl (f:Nat) (es:Es) | bi (b:BI) (es:Es) | me (m:ME) (o:E) (es:Es)
 | mq (a:E) (ts:List TY)
 | comp (elt:E) (t:T) (it:It) (cond:Eo)
 | jD (it:It)
 | jE (kvs:List (D×D)) (a:E) | jF (a:E)
inductive Es where
 | nil | cons (e:E) (es:Es)
inductive Eo where
 | no | yes (e:E)
inductive It where
 | seq (e:E) | iI (es:Es)
 | zip (a b:E)
 | enum (a:E) | rev (a:E)
end
mutual
inductive S where
 | set (i:Nat) (e:E) | xR (l:List Nat) (e:E)
 | exp (e:E) | ret (e:E) | iff (t:E) (a b:Ss) | for (t:T) (it:It) (b:Ss) | qY (t:E) (b:Ss)
 | gy
inductive Ss where
 | nil | cons (s:S) (ss:Ss)
end
inductive Fl where
 | nx | bk | ct | ret (d:D)
noncomputable def big:Nat:=16777216
noncomputable def cI (f:D→D→Option Bool):List D→List D→Option Bool
 | [],[]=>some true
 | x :: xs,y :: ys=>do
  let b ←f x y
  let c ←cI f xs ys
  pure (b&&c)
 | _,_=>some false
noncomputable def bw (h:Hh) (n:Nat):Option (List D):=match h[n]? with
 | some (.lst ds)=>some ds
 | some (.bO ds)=>some ds
 | none=>none
noncomputable def b2i (b:Bool):Int:=if b then 1 else 0
noncomputable def jG (h:Hh) (f:D→D→Option Bool) (a b:Nat):Option Bool:=if a=b then (bw h a).map fun _=>true else match h[a]?,h[b]? with
 | some (.lst x),some (.lst y)=>cI f x y
 | some (.bO x),some (.lst y)=>cI f x y
 | some (.lst x),some (.bO y)=>cI f x y
 | _,_=>none
noncomputable def gz (h:Hh):Nat→D→D→Option Bool
 | 0,_,_=>none
 | _+1,.bz,_=>none
 | _+1,.bl _,_=>none
 | _+1,_,.bz=>none
 | _+1,_,.bl _=>none
 | _+1,.int a,.int b=>some (a==b)
 | _+1,.str a,.str b=>some (a==b)
 | n+1,.tup a,.tup b=>cI (gz h n) a b
 | n+1,.ref a,.ref b=>jG h (gz h n) a b
 | _+1,.ref a,_=>(bw h a).map fun _=>false
 | _+1,_,.ref a=>(bw h a).map fun _=>false
 | _+1,_,_=>some false
noncomputable def deep:Nat:=20
noncomputable def truthy (h:Hh):D→Option Bool
 | .bz=>some false
 | .bl b=>some b
 | .int i=>some (i != 0)
 | .str s=>some (!s.isEmpty)
 | .tup ds=>some (!ds.isEmpty)
 | .ref n=>(bw h n).map fun ds=>!ds.isEmpty
noncomputable def alloc (ds:List D) (h:Hh):R D:=if ds.length≤big then .ok (.ref h.length) (h++[.lst ds]) else .bad
noncomputable def rep {α:Type}(k:Nat) (l:List α):List α:=(List.replicate k l).flatten
noncomputable def cH (i j:Int):Bool:=(decide (-(2 ^ 64)<i)&&decide (i<2 ^ 64)) || (decide (-(2 ^ 64)<j)&&decide (j<2 ^ 64))
noncomputable def bR:cF→D→D→Hh→R D
 | .add,.int i,.int j,h=>.ok (.int (i+j)) h
 | .add,.str a,.str b,h=>if a.length+b.length≤big then .ok (.str (a++b)) h else .bad
 | .add,.tup a,.tup b,h=>if a.length+b.length≤big then .ok (.tup (a++b)) h else .bad
 | .add,.ref a,.ref b,h=>match h[a]?,h[b]? with
  | some (.lst x),some (.lst y)=>alloc (x++y) h
  | _,_=>.bad
 | .sub,.int i,.int j,h=>.ok (.int (i - j)) h
 | .mul,.int i,.int j,h=>if cH i j then .ok (.int (i*j)) h else .bad
 | .mul,.str a,.int k,h=>if 0≤k∧k≤1000∧a.length≤1000 then .ok (.str (rep k.toNat a)) h else .bad
 | .mul,.tup a,.int k,h=>if 0≤k∧k≤1000∧a.length≤1000 then .ok (.tup (rep k.toNat a)) h else .bad
 | .mul,.ref a,.int k,h=>match h[a]? with
  | some (.lst x)=>if 0≤k∧k≤1000∧x.length≤1000 then alloc (rep k.toNat x) h else .bad
  | _=>.bad
 | .fdiv,.int i,.int j,h=>if 0<j∧j<1073741824 then .ok (.int (i / j)) h else .bad
 | .mod,.int i,.int j,h=>if 0<j then .ok (.int (i % j)) h else .bad
 | _,_,_,_=>.bad
noncomputable def mem (h:Hh) (x:D):List D→Option Bool
 | []=>some false
 | y :: ys=>do
  let b ←gz h deep y x
  let c ←mem h x ys
  pure (b || c)
noncomputable def isin (x y:D) (h:Hh):Option Bool:=match y with
 | .str s=>match x with
  | .str [c]=>some (s.contains c)
  | _=>none
 | .tup ds=>mem h x ds
 | .ref n=>(bw h n).bind fun ds=>mem h x ds
 | _=>none
noncomputable def cop (o:bY) (x y:D) (h:Hh):Option Bool:=match o,x,y with
 | .eq,x,y=>gz h deep x y
 | .ne,x,y=>(gz h deep x y).map (!·)
 | .lt,.int i,.int j=>some (decide (i<j))
 | .gt,.int i,.int j=>some (decide (j<i))
 | .isin,x,y=>isin x y h
 | .lg,x,y=>(isin x y h).map (!·)
 | _,_,_=>none
noncomputable def eG (n:Nat) (i:Int):Option Nat:=if 0≤i then (if i<n then some i.toNat else none) else if -(n:Int)≤i then some (i+n).toNat else none
noncomputable def bU {α:Type}(xs:List α) (i:Int):Option α:=(eG xs.length i).bind fun j=>xs[j]?
noncomputable def eH (x y:D) (h:Hh):Option D:=match x,y with
 | .tup ds,.int i=>bU ds i
 | .str s,.int i=>(bU s i).map fun c=>.str [c]
 | .ref n,.int i=>(bw h n).bind fun ds=>bU ds i
 | _,_=>none
noncomputable def aR (n d:Nat):Option Int→Nat
 | none=>d
 | some v=>if v<0 then (v+n).toNat else min v.toNat n
noncomputable def cut {α:Type}(xs:List α) (lo hi:Option Int):List α:=(xs.drop (aR xs.length 0 lo)).take (aR xs.length xs.length hi - aR xs.length 0 lo)
noncomputable def eV (x:D) (lo hi:Option Int) (h:Hh):R D:=match x with
 | .tup ds=>.ok (.tup (cut ds lo hi)) h
 | .str s=>.ok (.str (cut s lo hi)) h
 | .ref n=>match bw h n with
  | some ds=>alloc (cut ds lo hi) h
  | none=>.bad
 | _=>.bad
noncomputable def lR (x:D) (h:Hh):R D:=match x with
 | .tup ds=>.ok (.tup ds.reverse) h
 | .ref n=>match bw h n with
  | some ds=>alloc ds.reverse h
  | none=>.bad
 | _=>.bad
noncomputable def dw (h:Hh):D→TY→Bool
 | .bl _,.bool=>true
 | .bl _,.int=>true
 | .int _,.int=>true
 | .str _,.str=>true
 | .tup _,.tuple=>true
 | .ref n,.list=>(bw h n).isSome
 | _,_=>false
noncomputable def boolsOf:List D→Option (List Bool)
 | []=>some []
 | .bl b :: ds=>(boolsOf ds).map fun r=>b :: r
 | _=>none
noncomputable def intsOf:List D→Option (List Int)
 | []=>some []
 | .int i :: ds=>(intsOf ds).map fun r=>i :: r
 | _=>none
noncomputable def strsOf:List D→Option (List (List Nat))
 | []=>some []
 | .str s :: ds=>(strsOf ds).map fun r=>s :: r
 | _=>none
noncomputable def cS (sep:List Nat):List (List Nat)→List Nat
 | []=>[]
 | [s]=>s
 | s :: t :: r=>s++sep++cS sep (t :: r)
noncomputable def lexLe:List Nat→List Nat→Bool
 | [],_=>true
 | _ :: _,[]=>false
 | x :: xs,y :: ys=>if x=y then lexLe xs ys else decide (x<y)
noncomputable def Jf (x:List Nat):List (List Nat)→List (List Nat)
 | []=>[x]
 | y :: ys=>if lexLe x y then x :: y :: ys else y :: Jf x ys
noncomputable def eB:List (List Nat)→List (List Nat)
 | []=>[]
 | x :: xs=>Jf x (eB xs)
noncomputable def cV (b:BI) (xs:List D) (h:Hh):R D:=match b,xs with
 | .len,[.str s]=>if s.length≤big then .ok (.int s.length) h else .bad
 | .len,[.tup ds]=>.ok (.int ds.length) h
 | .len,[.ref n]=>R.of ((bw h n).map fun ds=>.int ds.length) h
 | .sum,[.ref n]=>R.of (((bw h n).bind intsOf).map fun is=>.int is.sum) h
 | .min,[.int i,.int j]=>.ok (.int (if j<i then j else i)) h
 | .max,[.int i,.int j]=>.ok (.int (if j > i then j else i)) h
 | _,_=>.bad
noncomputable def fc (m:ME) (o:D) (xs:List D) (h:Hh):R D:=match m,o,xs with
 | .join,.str sep,[.ref n]=>match (bw h n).bind strsOf with
  | some ss=>if (ss.map (·.length)).sum+ss.length*sep.length≤big then .ok (.str (cS sep ss)) h else .bad
  | none=>.bad
 | .append,.ref n,[x]=>match h[n]? with
  | some (.lst ds)=>if ds.length<big then .ok .bz (h.set n (.lst (ds++[x]))) else .bad
  | _=>.bad
 | .extend,.ref n,[.ref m]=>match h[n]?,h[m]? with
  | some (.lst ds),some (.lst es)=>if ds.length+es.length≤big then .ok .bz (h.set n (.lst (ds++es))) else .bad
  | _,_=>.bad
 | .pop,.ref n,[]=>match h[n]? with
  | some (.lst ds)=>match ds[ds.length - 1]? with
   | some x=>.ok x (h.set n (.lst ds.dropLast))
   | none=>.bad
  | _=>.bad
 | _,_,_=>.bad
noncomputable def vN (m:ME) (x:D) (h:Hh):Bool:=match m,x with
 | .join,.str _=>true
 | .join,_=>false
 | _,.ref n=>(bw h n).isSome
 | _,_=>false
noncomputable def eU (x:D):List (D×D)→Option D
 | []=>none
 | (k,v) :: r=>match gz [] 1 k x with
  | some true=>some v
  | some false=>eU x r
  | none=>none
abbrev Src:=List D×List (Nat×List D)
noncomputable def gj (h:Hh):D→Option Src
 | .tup ds=>some (ds,[])
 | .str s=>some (s.map fun c=>.str [c],[])
 | .ref n=>(bw h n).map fun ds=>(ds,[(n,ds)])
 | _=>none
noncomputable def range (lo:Int) (n:Nat):List D:=(List.range n).map fun (i:Nat)=>.int (lo+i)
noncomputable def eL:List D→Option Src
 | [.int j]=>if -(2 ^ 62)≤j∧j<2 ^ 62 then some (range 0 j.toNat,[]) else none
 | [.int i,.int j]=>if -(2 ^ 62)≤i∧i<2 ^ 62∧-(2 ^ 62)≤j∧j<2 ^ 62 then some (range i (j - i).toNat,[]) else none
 | _=>none
noncomputable def eW (a b:List D):List D:=List.zipWith (fun x y=>.tup [x,y]) a b
noncomputable def gE:Int→List D→List D
 | _,[]=>[]
 | k,x :: xs=>.tup [.int k,x] :: gE (k+1) xs
noncomputable def xS (a b:List D):Bool:=@decide (a=b) (Classical.propDecidable _)
theorem q8 (a b:List D):xS a b=true↔a=b:=@decide_eq_true_iff _ (Classical.propDecidable _)
@[simp] theorem xT (a:List D):xS a a=true:=(q8 a a).mpr rfl
noncomputable def stays (h:Hh):List (Nat×List D)→Bool
 | []=>true
 | (n,ds) :: r=>(match bw h n with | some es=>xS es ds | none=>false)&&stays h r
noncomputable def cP:List Nat→List D→Fr→Option Fr
 | [],[],fr=>some fr
 | i :: is,d :: ds,fr=>cP is ds (fr.set i (some d))
 | _,_,_=>none
noncomputable def cB:T→D→Fr→Option Fr
 | .one i,d,fr=>some (fr.set i (some d))
 | .many l,.tup ds,fr=>cP l ds fr
 | _,_,_=>none
noncomputable def slots:T→List Nat
 | .one i=>[i]
 | .many l=>l
noncomputable def undef (t:T) (fr:Fr):Bool:=(slots t).all fun i=>(fr[i]?.join).isNone
noncomputable def Ca:D→Option (List D)
 | .tup ds=>some ds
 | _=>none
noncomputable def ql:D→Hh→R D
 | .tup ds,h=>.ok (.tup ds) h
 | .ref n,h=>match bw h n with
  | some ds=>if ds.length≤big then .ok (.tup ds) h else .bad
  | none=>.bad
 | _,_=>.bad
noncomputable def oq (h:Hh):D→Option Src
 | .ref n=>(bw h n).map fun ds=>(ds,[(n,ds)])
 | _=>none
noncomputable def cT (f:D→Hh→R (Option D)) (ck:List (Nat×List D)):List D→Hh→R (List D)
 | [],h=>if stays h ck then .ok [] h else .bad
 | d :: ds,h=>if stays h ck then (f d h).bind fun o h1=>(cT f ck ds h1).bind fun r h2=>.ok (o.toList++r) h2 else .bad
noncomputable def forL (f:D→Fr→Hh→R (Fl×Fr)) (ck:List (Nat×List D)):List D→Fr→Hh→R (Fl×Fr)
 | [],fr,h=>if stays h ck then .ok (.nx,fr) h else .bad
 | d :: ds,fr,h=>if stays h ck then (f d fr h).bind fun p h1=>match p.1 with
   | .nx=>forL f ck ds p.2 h1
   | .ct=>forL f ck ds p.2 h1
   | .bk=>.ok (.nx,p.2) h1
   | .ret x=>.ok (.ret x,p.2) h1
  else .bad
noncomputable def ee (t:Fr→Hh→R Bool) (f:Fr→Hh→R (Fl×Fr)):Nat→Fr→Hh→R (Fl×Fr)
 | 0,_,_=>.bad
 | n+1,fr,h=>(t fr h).bind fun b h1=>if b then (f fr h1).bind fun p h2=>match p.1 with
   | .nx=>ee t f n p.2 h2
   | .ct=>ee t f n p.2 h2
   | .bk=>.ok (.nx,p.2) h2
   | .ret x=>.ok (.ret x,p.2) h2
  else .ok (.nx,fr) h1
abbrev aU:=Nat→List D→Hh→R D
noncomputable def intOf:D→Option Int
 | .int i=>some i
 | _=>none
mutual
noncomputable def ev (P:aU):E→Fr→Hh→R D
 | .c d,_,h=>.ok d h
 | .v i,fr,h=>R.of (fr[i]?.join) h
 | .tup es,fr,h=>(cj P es fr h).bind fun ds h1=>if ds.length≤big then .ok (.tup ds) h1 else .bad
 | .lst es,fr,h=>(cj P es fr h).bind fun ds h1=>alloc ds h1
 | .bin o a b,fr,h=>(ev P a fr h).bind fun x h1=>(ev P b fr h1).bind fun y h2=>bR o x y h2
 | .cmp o a b,fr,h=>(ev P a fr h).bind fun x h1=>(ev P b fr h1).bind fun y h2=>R.of ((cop o x y h2).map .bl) h2
 | .nt a,fr,h=>(ev P a fr h).bind fun x h1=>match x with
   | .bl b=>.ok (.bl (!b)) h1
   | _=>.bad
 | .neg a,fr,h=>(ev P a fr h).bind fun x h1=>match x with
   | .int i=>.ok (.int (-i)) h1
   | _=>.bad
 | .an a b,fr,h=>(ev P a fr h).bind fun x h1=>match x with
   | .bl true=>ev P b fr h1
   | .bl false=>.ok (.bl false) h1
   | _=>.bad
 | .orr a b,fr,h=>(ev P a fr h).bind fun x h1=>match x with
   | .bl true=>.ok (.bl true) h1
   | .bl false=>ev P b fr h1
   | _=>.bad
 | .kB t a b,fr,h=>(aK P t fr h).bind fun k h1=>if k then ev P a fr h1 else ev P b fr h1
 | .ix a b,fr,h=>(ev P a fr h).bind fun x h1=>(ev P b fr h1).bind fun y h2=>R.of (eH x y h2) h2
 | .sl a lo hi,fr,h=>(ev P a fr h).bind fun x h1=>(fN P lo fr h1).bind fun l h2=>(fN P hi fr h2).bind fun u h3=>eV x l u h3
 | .rv a,fr,h=>(ev P a fr h).bind fun x h1=>lR x h1
 | .cl f es,fr,h=>(cj P es fr h).bind fun ds h1=>P f ds h1
 | .bi b es,fr,h=>(cj P es fr h).bind fun ds h1=>cV b ds h1
 | .me m o es,fr,h=>(ev P o fr h).bind fun x h1=>if vN m x h1 then (cj P es fr h1).bind fun ds h2=>fc m x ds h2 else .bad
 | .mq a ts,fr,h=>(ev P a fr h).bind fun x h1=>.ok (.bl (ts.any (dw h1 x))) h1
 | .comp elt t it cond,fr,h=>(cM P it fr h).bind fun s h1=>if undef t fr then
   (cT (fun d h2=>match cB t d fr with
    | none=>.bad
    | some aB=>(gZ P cond aB h2).bind fun k h3=>if k then (ev P elt aB h3).bind fun x h4=>.ok (some x) h4 else .ok none h3) s.2 s.1 h1).bind fun ds h2=>alloc ds h2 else .bad
 | .jD it,fr,h=>(cM P it fr h).bind fun s h1=>alloc s.1 h1
 | .jE kvs a,fr,h=>(ev P a fr h).bind fun x h1=>R.of (eU x kvs) h1
 | .jF a,fr,h=>(ev P a fr h).bind fun x h1=>ql x h1
noncomputable def cj (P:aU):Es→Fr→Hh→R (List D)
 | .nil,_,h=>.ok [] h
 | .cons e es,fr,h=>(ev P e fr h).bind fun d h1=>(cj P es fr h1).bind fun ds h2=>.ok (d :: ds) h2
noncomputable def fN (P:aU):Eo→Fr→Hh→R (Option Int)
 | .no,_,h=>.ok none h
 | .yes e,fr,h=>(ev P e fr h).bind fun d h1=>R.of ((intOf d).map some) h1
noncomputable def gZ (P:aU):Eo→Fr→Hh→R Bool
 | .no,_,h=>.ok true h
 | .yes e,fr,h=>aK P e fr h
noncomputable def aK (P:aU):E→Fr→Hh→R Bool
 | .an a b,fr,h=>(aK P a fr h).bind fun k h1=>if k then aK P b fr h1 else .ok false h1
 | .orr a b,fr,h=>(aK P a fr h).bind fun k h1=>if k then .ok true h1 else aK P b fr h1
 | .nt a,fr,h=>(aK P a fr h).bind fun k h1=>.ok (!k) h1
 | e,fr,h=>(ev P e fr h).bind fun x h1=>R.of (truthy h1 x) h1
noncomputable def cM (P:aU):It→Fr→Hh→R Src
 | .seq e,fr,h=>(ev P e fr h).bind fun x h1=>R.of (gj h1 x) h1
 | .iI es,fr,h=>(cj P es fr h).bind fun ds h1=>R.of (eL ds) h1
 | .zip a b,fr,h=>(ev P a fr h).bind fun x h1=>(ev P b fr h1).bind fun y h2=>R.of ((oq h2 x).bind fun s=>(oq h2 y).map fun t=>(eW s.1 t.1,s.2++t.2)) h2
 | .enum a,fr,h=>(ev P a fr h).bind fun x h1=>R.of ((oq h1 x).map fun s=>(gE 0 s.1,s.2)) h1
 | .rev a,fr,h=>(ev P a fr h).bind fun x h1=>R.of ((Ca x).map fun ds=>(ds.reverse,[])) h1
end
mutual
noncomputable def ex (P:aU) (w:Nat):S→Fr→Hh→R (Fl×Fr)
 | .set i e,fr,h=>(ev P e fr h).bind fun x h1=>.ok (.nx,fr.set i (some x)) h1
 | .xR l e,fr,h=>(ev P e fr h).bind fun x h1=>match cB (.many l) x fr with
   | some aB=>.ok (.nx,aB) h1
   | none=>.bad
 | .exp e,fr,h=>(ev P e fr h).bind fun _ h1=>.ok (.nx,fr) h1
 | .ret e,fr,h=>(ev P e fr h).bind fun x h1=>.ok (.ret x,fr) h1
 | .iff t a b,fr,h=>(aK P t fr h).bind fun k h1=>if k then exs P w a fr h1 else exs P w b fr h1
 | .for t it b,fr,h=>(cM P it fr h).bind fun s h1=>forL (fun d aB h2=>match cB t d aB with
   | some cN=>exs P w b cN h2
   | none=>.bad) s.2 s.1 fr h1
 | .qY t b,fr,h=>ee (fun aB h2=>aK P t aB h2) (fun aB h2=>exs P w b aB h2) w fr h
 | .gy,_,_=>.bad
noncomputable def exs (P:aU) (w:Nat):Ss→Fr→Hh→R (Fl×Fr)
 | .nil,fr,h=>.ok (.nx,fr) h
 | .cons s ss,fr,h=>(ex P w s fr h).bind fun p h1=>match p.1 with
   | .nx=>exs P w ss p.2 h1
   | _=>.ok p h1
end
structure Fn where
 np:Nat
 ns:Nat
 body:Ss
noncomputable def fE (fn:Fn) (ds:List D):Fr:=ds.map some++List.replicate (fn.ns - fn.np) none
noncomputable def endOf (r:R (Fl×Fr)):R D:=r.bind fun p h=>match p.1 with
 | .ret d=>.ok d h
 | .nx=>.ok .bz h
 | _=>.bad
noncomputable def run (F:List Fn) (w:Nat):Nat→aU
 | 0,_,_,_=>.bad
 | n+1,f,ds,h=>match F[f]? with
  | some fn=>if ds.length=fn.np then endOf (exs (run F w n) w fn.body (fE fn ds) h) else .bad
  | none=>.bad
end Ev
set_option maxRecDepth 100000
namespace Sm
open PySem PySem.Spec PyProof.Rows L2
noncomputable def aX (l:List Nat):Str:=⟨l.toArray⟩
theorem cX (l:List Nat):(aX l).length=l.length:=by simp [aX,Str.length]
theorem qm {a b:List Nat}(h:aX a=aX b):a=b:=by
 have h1:a.toArray=b.toArray:=congrArg Str.cps h
 simpa using congrArg Array.toList h1
theorem jH:Ev.big=sizeLine:=by rw [sizeLine_eq];rfl
section
variable (K:PySem.W.Frag)
mutual
noncomputable def RV (H:Hp) (r:List Addr):Ev.D→V→Prop
 | .bz,v=>v=.bz
 | .bl b,v=>v=.bl b
 | .int i,v=>v=.int i
 | .str s,v=>v=.str (aX s)∧s.length≤sizeLine
 | .ref n,v=>∃ a,v=.ref a∧r[n]?=some a
 | .tup ds,v=>∃ a vs,v=.ref a∧dM K H a vs∧aJ H r ds vs
noncomputable def aJ (H:Hp) (r:List Addr):List Ev.D→List V→Prop
 | [],vs=>vs=[]
 | d :: ds,vs=>∃ v w,vs=v :: w∧RV H r d v∧aJ H r ds w
end
noncomputable def xU (H:Hp) (a:Addr) (vs:List V):Prop:=(∃ o,H a=some (.bO o (.lst vs)))∨
 ∃ (o:Obj) (its:Array Value) (n:Nat),K.lookup a=some o∧o.cls=.type "list" ∧o.dict=none∧o.data=.seq its n∧its.size≤sizeLine∧Vals vs its.toList
noncomputable def RO (H:Hp) (r:List Addr):Ev.O→Addr→Prop
 | .lst ds,a=>∃ vs,H a=some (.lst vs)∧aJ K H r ds vs
 | .bO ds,a=>∃ vs,xU K H a vs∧aJ K H r ds vs
structure HR (H:Hp) (r:List Addr) (h:Ev.Hh):Prop where
 len:r.length=h.length
 ob:∀ (n:Nat) o,h[n]?=some o→∃ a,r[n]?=some a∧RO K H r o a
 inj:∀ (n m:Nat) a x y,r[n]?=some a→r[m]?=some a→h[n]?=some (.lst x)→h[m]?=some (.lst y)→n=m
structure Fm (r r':List Addr) (H H':Hp):Prop where
 pre:∀ (n:Nat) a,r[n]?=some a→r'[n]?=some a
 new:∀ a∈r',a∈r∨H a=none
 keep:∀ a o,H a=some o→a∉r→H' a=some o
 tups:∀ a vs,dM K H a vs→dM K H' a vs
end
section
variable {K:PySem.W.Frag}{H H1 H2:Hp}{r r1 r2:List Addr}{h:Ev.Hh}
theorem Fm.refl:Fm K r r H H:=⟨fun _ _ e=>e,fun _ e=>.inl e,fun _ _ e _=>e,fun _ _ e=>e⟩
theorem Fm.trans (a:Fm K r r1 H H1) (b:Fm K r1 r2 H1 H2):Fm K r r2 H H2 where
 pre:=fun n x e=>b.pre n x (a.pre n x e)
 new:=fun x e=>by
  rcases b.new x e with q | q
  ·exact a.new x q
  ·by_cases z:x∈r
   ·exact .inl z
   ·refine .inr ?_
    cases w:H x with
    | none=>rfl
    | some o=>rw [a.keep x o w z] at q;cases q
 keep:=fun x o e n=>by
  refine b.keep x o (a.keep x o e n) fun z=>?_
  rcases a.new x z with q | q
  ·exact n q
  ·rw [e] at q;cases q
 tups:=fun x vs e=>b.tups x vs (a.tups x vs e)
mutual
theorem RV.grow (f:∀ (n:Nat) a,r[n]?=some a→r1[n]?=some a) (g:∀ a vs,dM K H a vs→dM K H1 a vs):∀ {d:Ev.D}{v:V},RV K H r d v→RV K H1 r1 d v
 | .bz,_,e=>e
 | .bl _,_,e=>e
 | .int _,_,e=>e
 | .str _,_,e=>e
 | .ref n,_,⟨a,e,z⟩=>⟨a,e,f n a z⟩
 | .tup ds,_,⟨a,vs,e,z,q⟩=>⟨a,vs,e,g a vs z,aJ.grow f g q⟩
theorem aJ.grow (f:∀ (n:Nat) a,r[n]?=some a→r1[n]?=some a) (g:∀ a vs,dM K H a vs→dM K H1 a vs):∀ {ds:List Ev.D}{vs:List V},aJ K H r ds vs→aJ K H1 r1 ds vs
 | [],_,e=>e
 | _ :: _,_,⟨v,w,e,z,q⟩=>⟨v,w,e,RV.grow f g z,aJ.grow f g q⟩
end
theorem RV.mono (f:Fm K r r1 H H1) {d:Ev.D}{v:V}(q:RV K H r d v):RV K H1 r1 d v:=q.grow f.pre f.tups
theorem aJ.mono (f:Fm K r r1 H H1) {ds:List Ev.D}{vs:List V}(q:aJ K H r ds vs):aJ K H1 r1 ds vs:=q.grow f.pre f.tups
theorem aJ.nil:aJ K H r [] []:=by simp [aJ]
theorem aJ.cons {d:Ev.D}{v:V}{ds:List Ev.D}{vs:List V}(a:RV K H r d v) (b:aJ K H r ds vs):aJ K H r (d :: ds) (v :: vs):=by
 simp only [aJ];exact ⟨v,vs,rfl,a,b⟩
theorem aJ.length:∀ {ds:List Ev.D}{vs:List V},aJ K H r ds vs→vs.length=ds.length
 | [],_,e=>by simp only [aJ] at e;subst e;rfl
 | _ :: _,_,e=>by
  simp only [aJ] at e
  obtain ⟨v,w,rfl,_,q⟩:=e
  simp [aJ.length q]
theorem aJ.get:∀ {ds:List Ev.D}{vs:List V}{i:Nat}{d:Ev.D},aJ K H r ds vs→ds[i]?=some d→∃ v,vs[i]?=some v∧RV K H r d v
 | [],_,_,_,_,e=>by simp at e
 | _ :: _,_,0,_,h,e=>by
  simp only [aJ] at h
  obtain ⟨v,w,rfl,z,q⟩:=h
  simp at e;subst e
  exact ⟨v,by simp,z⟩
 | _ :: _,_,i+1,_,h,e=>by
  simp only [aJ] at h
  obtain ⟨v,w,rfl,z,q⟩:=h
  obtain ⟨u,a,b⟩:=aJ.get (i:=i) q (by simpa using e)
  exact ⟨u,by simpa using a,b⟩
theorem aJ.append:∀ {ds es:List Ev.D}{vs ws:List V},aJ K H r ds vs→aJ K H r es ws→aJ K H r (ds++es) (vs++ws)
 | [],_,_,_,a,b=>by simp only [aJ] at a;subst a;simpa using b
 | _ :: _,_,_,_,a,b=>by
  simp only [aJ] at a
  obtain ⟨v,w,rfl,z,q⟩:=a
  simp only [List.cons_append]
  exact .cons z (aJ.append q b)
theorem aJ.take:∀ {ds:List Ev.D}{vs:List V}(n:Nat),aJ K H r ds vs→aJ K H r (ds.take n) (vs.take n)
 | _,_,0,_=>by simp [aJ]
 | [],_,_+1,a=>by simp only [aJ] at a;subst a;simp [aJ]
 | _ :: _,_,n+1,a=>by
  simp only [aJ] at a
  obtain ⟨v,w,rfl,z,q⟩:=a
  simp only [List.take_succ_cons]
  exact .cons z (aJ.take n q)
theorem aJ.drop:∀ {ds:List Ev.D}{vs:List V}(n:Nat),aJ K H r ds vs→aJ K H r (ds.drop n) (vs.drop n)
 | _,_,0,a=>by simpa using a
 | [],_,_+1,a=>by simp only [aJ] at a;subst a;simp [aJ]
 | _ :: _,_,n+1,a=>by
  simp only [aJ] at a
  obtain ⟨v,w,rfl,z,q⟩:=a
  simp only [List.drop_succ_cons]
  exact aJ.drop n q
theorem aJ.reverse:∀ {ds:List Ev.D}{vs:List V},aJ K H r ds vs→aJ K H r ds.reverse vs.reverse
 | [],_,a=>by simp only [aJ] at a;subst a;simp [aJ]
 | _ :: _,_,a=>by
  simp only [aJ] at a
  obtain ⟨v,w,rfl,z,q⟩:=a
  simp only [List.reverse_cons]
  exact (aJ.reverse q).append (.cons z .nil)
theorem aJ.rep {ds:List Ev.D}{vs:List V}(a:aJ K H r ds vs):∀ k:Nat,aJ K H r (Ev.rep k ds) (Ev.rep k vs)
 | 0=>by simp [Ev.rep,aJ]
 | k+1=>by
  have h:=aJ.rep a k
  simp only [Ev.rep,List.replicate_succ,List.flatten_cons] at h ⊢
  exact a.append h
theorem Fm.laid {p:Addr}{o:HO}(hp:H p=none):Fm K r (r++[p]) H (upd H p o) where
 pre:=fun n a e=>by rw [List.getElem?_append_left (List.getElem?_eq_some_iff.mp e).1];exact e
 new:=fun a e=>by
  rcases List.mem_append.mp e with q | q
  ·exact .inl q
  ·rw [List.mem_singleton] at q;subst q;exact .inr hp
 keep:=fun a ob e _=>by rw [bG (cg e hp)];exact e
 tups:=fun a vs e=>by
  rcases e with (e | ⟨ob,e⟩) | e
  ·exact .inl (.inl (by rw [bG (cg e hp)];exact e))
  ·exact .inl (.inr ⟨ob,by rw [bG (cg e hp)];exact e⟩)
  ·exact .inr e
theorem Fm.tup {p:Addr}{o:HO}(hp:H p=none):Fm K r r H (upd H p o) where
 pre:=fun n a e=>e
 new:=fun a e=>.inl e
 keep:=fun a ob e _=>by rw [bG (cg e hp)];exact e
 tups:=(Fm.laid (r:=r) hp).tups
theorem RO.mono {o:Ev.O}{a:Addr}(f:Fm K r r1 H H1) (q:RO K H r o a) (hl:∀ ds vs,o=.lst ds→H a=some (.lst vs)→H1 a=some (.lst vs)) (hf:∀ ob vs,H a=some (.bO ob vs)→H1 a=some (.bO ob vs)):RO K H1 r1 o a:=by
 cases o with
 | lst ds=>
  obtain ⟨vs,e,z⟩:=q
  exact ⟨vs,hl ds vs rfl e,z.mono f⟩
 | bO ds=>
  obtain ⟨vs,e,z⟩:=q
  refine ⟨vs,?_,z.mono f⟩
  rcases e with ⟨ob,e⟩ | e
  ·exact .inl ⟨ob,hf _ _ e⟩
  ·exact .inr e
theorem HR.tup {p:Addr}{o:HO}(hr:HR K H r h) (hp:H p=none):HR K (upd H p o) r h where
 len:=hr.len
 ob:=fun n ob e=>by
  obtain ⟨a,e1,q⟩:=hr.ob n ob e
  exact ⟨a,e1,q.mono (Fm.tup hp) (fun _ vs _ z=>by rw [bG (cg z hp)];exact z) fun _ _ z=>by rw [bG (cg z hp)];exact z⟩
 inj:=hr.inj
theorem HR.lst {p:Addr}{ds:List Ev.D}{vs:List V}(hr:HR K H r h) (hp:H p=none) (q:aJ K H r ds vs):HR K (upd H p (.lst vs)) (r++[p]) (h++[.lst ds]) where
 len:=by simp [hr.len]
 ob:=fun n ob e=>by
  by_cases hn:n<h.length
  ·rw [List.getElem?_append_left hn] at e
   obtain ⟨a,e1,z⟩:=hr.ob n ob e
   exact ⟨a,(Fm.laid (K:=K) (o:=.lst vs) hp).pre n a e1,z.mono (Fm.laid hp) (fun _ vs _ z=>by rw [bG (cg z hp)];exact z) fun _ _ z=>by rw [bG (cg z hp)];exact z⟩
  ·have e2:=(List.getElem?_eq_some_iff.mp e).1
   simp only [List.length_append,List.length_singleton] at e2
   have e3:n=h.length:=by omega
   subst e3
   simp at e
   subst e
   exact ⟨p,by rw [←hr.len];simp,vs,fR,q.mono (Fm.laid hp)⟩
 inj:=fun n m a x y e1 e2 e3 e4=>by
  have out:∀ (k:Nat) z,(h++[Ev.O.lst ds])[k]?=some (.lst z)→(r++[p])[k]?=some a→(k<h.length∧r[k]?=some a∧h[k]?=some (.lst z)∧a≠p)∨(k=h.length∧a=p):=fun k z q1 q2=>by
   by_cases hk:k<h.length
   ·rw [List.getElem?_append_left hk] at q1
    rw [List.getElem?_append_left (by rw [hr.len];exact hk)] at q2
    obtain ⟨b,e5,vs',e6,_⟩:=hr.ob k _ q1
    rw [q2] at e5;cases e5
    exact .inl ⟨hk,q2,q1,cg e6 hp⟩
   ·have e5:=(List.getElem?_eq_some_iff.mp q1).1
    simp only [List.length_append,List.length_singleton] at e5
    have e6:k=r.length:=by rw [hr.len];omega
    subst e6
    simp at q2
    exact .inr ⟨hr.len,q2.symm⟩
  rcases out n x e3 e1 with ⟨h1,h2,h3,h4⟩ | ⟨h1,h2⟩
  ·rcases out m y e4 e2 with ⟨k1,k2,k3,k4⟩ | ⟨k1,k2⟩
   ·exact hr.inj n m a x y h2 k2 h3 k3
   ·exact absurd k2 h4
  ·rcases out m y e4 e2 with ⟨k1,k2,k3,k4⟩ | ⟨k1,k2⟩
   ·exact absurd h2 k4
   ·rw [h1,k1]
theorem HR.read {n:Nat}{ds:List Ev.D}(hr:HR K H r h) (e:Ev.bw h n=some ds):∃ a vs,r[n]?=some a∧dY K H a vs∧aJ K H r ds vs:=by
 unfold Ev.bw at e
 split at e
 ·rename_i z
  cases e
  obtain ⟨a,e1,vs,e2,e3⟩:=hr.ob n _ z
  exact ⟨a,vs,e1,.inl (.inl e2),e3⟩
 ·rename_i z
  cases e
  obtain ⟨a,e1,vs,e2,e3⟩:=hr.ob n _ z
  refine ⟨a,vs,e1,?_,e3⟩
  rcases e2 with ⟨ob,e2⟩ | e2
  ·exact .inl (.inr ⟨ob,e2⟩)
  ·exact .inr e2
 ·cases e
theorem Fm.write {a:Addr}{vs ws:List V}(ha:H a=some (.lst vs)) (hm:a∈r):Fm K r r H (upd H a (.lst ws)) where
 pre:=fun n b e=>e
 new:=fun b e=>.inl e
 keep:=fun b ob e n=>by rw [bG (fun z=>n (by rw [z];exact hm))];exact e
 tups:=fun b us e=>by
  rcases e with (e | ⟨ob,e⟩) | e
  ·exact .inl (.inl (by rw [bG (oX e ha (by intro z;cases z))];exact e))
  ·exact .inl (.inr ⟨ob,by rw [bG (oX e ha (by intro z;cases z))];exact e⟩)
  ·exact .inr e
theorem HR.write {n:Nat}{a:Addr}{ds es:List Ev.D}{vs ws:List V}(hr:HR K H r h) (hn:h[n]?=some (.lst ds)) (Jg:r[n]?=some a) (ha:H a=some (.lst vs)) (q:aJ K H r es ws) :
  HR K (upd H a (.lst ws)) r (h.set n (.lst es)) where
 len:=by simp [hr.len]
 ob:=fun m ob e=>by
  have f:=Fm.write (K:=K) (ws:=ws) ha (List.mem_of_getElem? Jg)
  by_cases hm:m=n
  ·subst hm
   rw [List.getElem?_set_self (List.getElem?_eq_some_iff.mp hn).1] at e
   cases e
   exact ⟨a,Jg,ws,fR,q.mono f⟩
  ·rw [List.getElem?_set_ne (fun z=>hm z.symm)] at e
   obtain ⟨b,e1,z⟩:=hr.ob m ob e
   refine ⟨b,e1,z.mono f (fun U7 us z3 z2=>?_) fun W0 us z2=>by rw [bG (oX z2 ha (by intro z;cases z))];exact z2⟩
   by_cases hb:b=a
   ·subst hb
    subst z3
    exact absurd (hr.inj m n b U7 ds e1 Jg e hn) hm
   ·rw [bG hb];exact z2
 inj:=fun k m b x y e1 e2 e3 e4=>by
  have back:∀ (j:Nat) z,(h.set n (Ev.O.lst es))[j]?=some (.lst z)→∃ z',h[j]?=some (.lst z'):=fun j z w=>by
   by_cases hj:j=n
   ·subst hj;exact ⟨ds,hn⟩
   ·rw [List.getElem?_set_ne (fun z=>hj z.symm)] at w;exact ⟨z,w⟩
  obtain ⟨x',e5⟩:=back k x e3
  obtain ⟨y',e6⟩:=back m y e4
  exact hr.inj k m b x' y' e1 e2 e5 e6
theorem ig {p:Addr}{vs ws:List V}(hp:H p=some (.lst vs)):∀ a us,dM K H a us→dM K (upd H p (.lst ws)) a us:=fun b us e=>by
 rcases e with (e | ⟨ob,e⟩) | e
 ·exact .inl (.inl (by rw [bG (oX e hp (by intro z;cases z))];exact e))
 ·exact .inl (.inr ⟨ob,by rw [bG (oX e hp (by intro z;cases z))];exact e⟩)
 ·exact .inr e
theorem HR.other {p:Addr}{vs ws:List V}(hr:HR K H r h) (hp:H p=some (.lst vs)) (hn:p∉r):HR K (upd H p (.lst ws)) r h where
 len:=hr.len
 ob:=fun n ob e=>by
  obtain ⟨a,e1,q⟩:=hr.ob n ob e
  have ha:a≠p:=fun z=>hn (by rw [←z];exact List.mem_of_getElem? e1)
  refine ⟨a,e1,?_⟩
  cases ob with
  | lst ds=>
   obtain ⟨us,e2,e3⟩:=q
   exact ⟨us,by rw [bG ha];exact e2,e3.grow (fun _ _ z=>z) (ig hp)⟩
  | bO ds=>
   obtain ⟨us,e2,e3⟩:=q
   refine ⟨us,?_,e3.grow (fun _ _ z=>z) (ig hp)⟩
   rcases e2 with ⟨o,e2⟩ | e2
   ·exact .inl ⟨o,by rw [bG ha];exact e2⟩
   ·exact .inr e2
 inj:=hr.inj
theorem Fm.other {p:Addr}{vs ws:List V}(f:Fm K r r1 H H1) (h0:H p=none) (hp:H1 p=some (.lst vs)):Fm K r r1 H (upd H1 p (.lst ws)) where
 pre:=f.pre
 new:=f.new
 keep:=fun a o e n=>by rw [bG (cg e h0)];exact f.keep a o e n
 tups:=fun a us e=>ig hp a us (f.tups a us e)
theorem Fm.lg {p:Addr}{o:HO}(f:Fm K r r1 H H1) (hp:H p=some o) (hn:p∉r):p∉r1∧H1 p=some o:=by
 refine ⟨fun z=>?_,f.keep p o hp hn⟩
 rcases f.new p z with q | q
 ·exact hn q
 ·rw [hp] at q;cases q
theorem HR.known {p:Addr}{ds:List Ev.D}{vs:List V}(hr:HR K H r h) (hp:H p=some (.lst vs)) (hn:p∉r) (q:aJ K H r ds vs):HR K H (r++[p]) (h++[.lst ds]):=by
 have pre:∀ (n:Nat) a,r[n]?=some a→(r++[p])[n]?=some a:=fun n a e=>by rw [List.getElem?_append_left (List.getElem?_eq_some_iff.mp e).1];exact e
 refine ⟨by simp [hr.len],fun n ob e=>?_,fun n m a x y e1 e2 e3 e4=>?_⟩
 ·by_cases hk:n<h.length
  ·rw [List.getElem?_append_left hk] at e
   obtain ⟨a,e1,z⟩:=hr.ob n ob e
   refine ⟨a,pre n a e1,?_⟩
   cases ob with
   | lst ds=>obtain ⟨us,e2,e3⟩:=z;exact ⟨us,e2,e3.grow pre fun _ _ z=>z⟩
   | bO ds=>obtain ⟨us,e2,e3⟩:=z;exact ⟨us,e2,e3.grow pre fun _ _ z=>z⟩
  ·have e2:=(List.getElem?_eq_some_iff.mp e).1
   simp only [List.length_append,List.length_singleton] at e2
   have e3:n=h.length:=by omega
   subst e3
   simp at e
   subst e
   exact ⟨p,by rw [←hr.len];simp,vs,hp,q.grow pre fun _ _ z=>z⟩
 ·have out:∀ (k:Nat) z,(h++[Ev.O.lst ds])[k]?=some (.lst z)→(r++[p])[k]?=some a→(k<h.length∧r[k]?=some a∧h[k]?=some (.lst z)∧a≠p)∨(k=h.length∧a=p):=fun k z q1 q2=>by
   by_cases hk:k<h.length
   ·rw [List.getElem?_append_left hk] at q1
    rw [List.getElem?_append_left (by rw [hr.len];exact hk)] at q2
    exact .inl ⟨hk,q2,q1,fun z=>hn (by rw [←z];exact List.mem_of_getElem? q2)⟩
   ·have e5:=(List.getElem?_eq_some_iff.mp q1).1
    simp only [List.length_append,List.length_singleton] at e5
    have e6:k=r.length:=by rw [hr.len];omega
    subst e6
    simp at q2
    exact .inr ⟨hr.len,q2.symm⟩
  rcases out n x e3 e1 with ⟨h1,h2,h3,h4⟩ | ⟨h1,h2⟩
  ·rcases out m y e4 e2 with ⟨k1,k2,k3,k4⟩ | ⟨k1,k2⟩
   ·exact hr.inj n m a x y h2 k2 h3 k3
   ·exact absurd k2 h4
  ·rcases out m y e4 e2 with ⟨k1,k2,k3,k4⟩ | ⟨k1,k2⟩
   ·exact absurd h2 k4
   ·rw [h1,k1]
theorem Fm.known {p:Addr}(f:Fm K r r1 H H1) (h0:H p=none):Fm K r (r1++[p]) H H1 where
 pre:=fun n a e=>by
  have e':=f.pre n a e
  rw [List.getElem?_append_left (List.getElem?_eq_some_iff.mp e').1];exact e'
 new:=fun a e=>by
  rcases List.mem_append.mp e with q | q
  ·exact f.new a q
  ·rw [List.mem_singleton] at q;subst q;exact .inr h0
 keep:=f.keep
 tups:=f.tups
end
end Sm
set_option maxRecDepth 100000
namespace Sm
open PySem PySem.Spec PyProof.Rows L2
open Ev (D O Hh Fr R aU E Es Eo It T S Ss Fl Src cF bY TY BI ME)
section
variable (K:PySem.W.Frag)
noncomputable def Res (r:List Addr) (H:Hp) (h':Hh) (d:D) (Q:VK):Prop:=∀ v H' r',RV K H' r' d v→HR K H' r' h'→Fm K r r' H H'→Q v H'
structure SR (m:List Nat) (H:Hp) (r:List Addr) (fr:Fr) (s:L2.St):Prop where
 len:s.length=m.length
 sl:∀ (j i:Nat) d,m[j]?=some i→fr[i]?=some (some d)→∃ v,s[j]?=some (some v)∧RV K H r d v
inductive tJ (m:List Nat) (P:aU) (e:E) (s:L2.St) (H:Hp) (Q:VK):Prop
 | mk (r:List Addr) (fr:Fr) (h:Hh) (d:D) (h':Hh) (c0:SR K m H r fr s) (c1:HR K H r h) (c2:Ev.ev P e fr h=.ok d h') (c3:Res K r H h' d Q):tJ m P e s H Q
inductive Jh (m:List Nat) (P:aU) (e:E) (s:L2.St) (H:Hp) (Q:Bool→Hp→Prop):Prop
 | mk (r:List Addr) (fr:Fr) (h:Hh) (k:Bool) (h':Hh) (c0:SR K m H r fr s) (c1:HR K H r h) (c2:Ev.aK P e fr h=.ok k h') (c3:∀ H' r',HR K H' r' h'→Fm K r r' H H'→Q k H'):Jh m P e s H Q
inductive Ji (m:List Nat) (P:aU) (es:Es) (s:L2.St) (H:Hp) (Q:List V→Hp→Prop):Prop
 | mk (r:List Addr) (fr:Fr) (h:Hh) (ds:List D) (h':Hh) (c0:SR K m H r fr s) (c1:HR K H r h) (c2:Ev.cj P es fr h=.ok ds h') (c3:∀ vs H' r',aJ K H' r' ds vs→HR K H' r' h'→Fm K r r' H H'→Q vs H'):Ji m P es s H Q
inductive PV (m:List Nat) (P:aU) (e:Eo) (s:L2.St) (H:Hp) (Q:Option Int→Hp→Prop):Prop
 | mk (r:List Addr) (fr:Fr) (h:Hh) (o:Option Int) (h':Hh) (c0:SR K m H r fr s) (c1:HR K H r h) (c2:Ev.fN P e fr h=.ok o h') (c3:∀ H' r',HR K H' r' h'→Fm K r r' H H'→Q o H'):PV m P e s H Q
inductive iK (f:D→D→Hh→R D) (x:V) (y:V) (H:Hp) (Q:VK):Prop
 | mk (r:List Addr) (h:Hh) (a:D) (b:D) (d:D) (h':Hh) (c0:HR K H r h) (c1:RV K H r a x) (c2:RV K H r b y) (c3:f a b h=.ok d h') (c4:Res K r H h' d Q):iK f x y H Q
inductive U8 (f:D→Hh→R D) (x:V) (H:Hp) (Q:VK):Prop
 | mk (r:List Addr) (h:Hh) (a:D) (d:D) (h':Hh) (c0:HR K H r h) (c1:RV K H r a x) (c2:f a h=.ok d h') (c3:Res K r H h' d Q):U8 f x H Q
inductive tE (f:List D→Hh→R D) (xs:List V) (H:Hp) (Q:VK):Prop
 | mk (r:List Addr) (h:Hh) (as:List D) (d:D) (h':Hh) (c0:HR K H r h) (c1:aJ K H r as xs) (c2:f as h=.ok d h') (c3:Res K r H h' d Q):tE f xs H Q
inductive tF (f:D→List D→Hh→R D) (x:V) (xs:List V) (H:Hp) (Q:VK):Prop
 | mk (r:List Addr) (h:Hh) (a:D) (as:List D) (d:D) (h':Hh) (c0:HR K H r h) (c1:RV K H r a x) (c2:aJ K H r as xs) (c3:f a as h=.ok d h') (c4:Res K r H h' d Q):tF f x xs H Q
inductive Jj  (x:V) (lo:Option Int) (hi:Option Int) (H:Hp) (Q:VK):Prop
 | mk (r:List Addr) (h:Hh) (a:D) (d:D) (h':Hh) (c0:HR K H r h) (c1:RV K H r a x) (c2:Ev.eV a lo hi h=.ok d h') (c3:Res K r H h' d Q):Jj x lo hi H Q
end
section
variable {K:PySem.W.Frag}{m:List Nat}{H H':Hp}{r r':List Addr}{fr:Fr}{s:L2.St}{h h':Hh}{d:D}{Q:VK}
theorem SR.mono (a:SR K m H r fr s) (f:Fm K r r' H H'):SR K m H' r' fr s:=⟨a.len,fun j i d e1 e2=>by
 obtain ⟨v,q,z⟩:=a.sl j i d e1 e2
 exact ⟨v,q,z.mono f⟩⟩
theorem Res.here {v:V}(q:Res K r H h d Q) (a:RV K H r d v) (b:HR K H r h):Q v H:=q v H r a b .refl
theorem Res.later (q:Res K r H h' d Q) (f:Fm K r r' H H'):Res K r' H' h' d Q:=fun v H2 r2 a b g=>q v H2 r2 a b (f.trans g)
theorem Res.lst {ds:List D}{vs:List V}(q:Res K r H h' d Q) (e:Ev.alloc ds h=.ok d h') (a:aJ K H r ds vs) (b:HR K H r h):vs.length≤sizeLine∧∀ p,H p=none→Q (.ref p) (upd H p (.lst vs)):=by
 unfold Ev.alloc at e
 split at e
 ·rename_i z
  cases e
  refine ⟨by rw [a.length,←jH];exact z,fun p hp=>?_⟩
  exact q _ _ (r++[p]) ⟨p,rfl,by rw [←b.len];simp⟩ (b.lst hp a) (.laid hp)
 ·cases e
theorem Res.tup {ds:List D}{vs:List V}(q:Res K r H h (.tup ds) Q) (a:aJ K H r ds vs) (b:HR K H r h) {p:Addr}(hp:H p=none):Q (.ref p) (upd H p (.tup vs)):=
 q _ _ r ⟨p,vs,rfl,.of fR,a.mono (.tup hp)⟩ (b.tup hp) (.tup hp)
end
theorem PE.of {X:Cx}{e:Expr}{t t':TE}(h:PE X e t) (w:∀ s H Q,t' s H Q→t s H Q):PE X e t':=fun pins s σ H Q I q=>h pins s σ H Q I (w _ _ _ q)
theorem PT.of {X:Cx}{e:Expr}{t t':TT}(h:PT X e t) (w:∀ s H Q,t' s H Q→t s H Q):PT X e t':=fun pins s σ H Q I q=>h pins s σ H Q I (w _ _ _ q)
theorem PW.of {X:Cx}{e:Expr}{t t':TT}(h:PW X e t) (w:∀ s H Q,t' s H Q→t s H Q):PW X e t':=fun wh pins s σ H Q I q=>h wh pins s σ H Q I (w _ _ _ q)
theorem PA.of {X:Cx}{es:List Expr}{t t':TA}(h:PA X es t) (w:∀ s H Q,t' s H Q→t s H Q):PA X es t':=fun pos pins s σ H Q I q=>h pos pins s σ H Q I (w _ _ _ q)
theorem PO.of {X:Cx}{e:Option Expr}{t t':TO}(h:PO X e t) (w:∀ s H Q,t' s H Q→t s H Q):PO X e t':=fun pins s σ H Q I q=>h pins s σ H Q I (w _ _ _ q)
structure FI where
 name:Str
 addr:Addr
 fd:FuncData
 ps:List Str
noncomputable def nK (K:PySem.W.Frag) (F:List Ev.Fn) (w n f:Nat):Sp:=fun vs H Q _=>∃ r h ds d h',aJ K H r ds vs∧HR K H r h∧Ev.run F w n f ds h=.ok d h'∧Res K r H h' d Q
noncomputable def tG:D→V→Prop
 | .bz,v=>v=.bz
 | .bl b,v=>v=.bl b
 | .int i,v=>v=.int i
 | .str s,v=>v=.str (aX s)∧s.length≤sizeLine
 | _,_=>False
theorem tG.rv {K:PySem.W.Frag}{H:Hp}{r:List Addr}{d:D}{v:V}(h:tG d v):RV K H r d v:=by
 cases d <;> simp only [tG] at h <;> simp only [RV] <;> first | exact h | exact h.elim
structure Tb where
 F:List Ev.Fn
 w:Nat
 fi:List FI
 bl:List Str
 cs:List (Str×D)
 dk:List (Str×List (D×D))
noncomputable def tabOf:List (D×D)→List (PyData×PyData)
 | (.str k,.str v) :: r=>(.str (aX k),.str (aX v)) :: tabOf r
 | _=>[]
structure Good (G:Tb) (n:Nat) (sc:Scope) (N:List Str) (df:Bool) (X:Cx):Prop where
 nm:X.N=N
 sc:X.env.scope=sc
 calm:X.calm=true
 own:df=true→∀ x,X.fn x=true
 room:gH n X.A
 xe:X.xe=fun _ _=>False
 fn:∀ (f:Nat) i,G.fi[f]?=some i→X.mg i.name=some (.ref i.addr)∧PySem.W.keepIn X.K (.ref i.addr)=true∧Binds X.K i.fd i.ps []∧iM X.prog X.w X.K X.mg X.base mj n i.addr i.fd i.ps (nK X.K G.F G.w n f)
 bl:∀ x∈G.bl,X.mg x=none
 cs:∀ x d,(x,d)∈G.cs→∃ v u,X.mg x=some u∧RelV v u∧tG d v
 dk:∀ x kvs,(x,kvs)∈G.dk→∃ a,X.mg x=some (.ref a)∧∀ h:Heap,X.K.In h→StrTab X.prog X.w h a (tabOf kvs)
section
variable (G:Tb)(n:Nat)(sc:Scope)(N:List Str)(df:Bool)(m:List Nat)
noncomputable def JE (e:E) (x:Expr):Prop:=∀ X,Good G n sc N df X→PE X x (tJ X.K m (Ev.run G.F G.w n) e)
noncomputable def JT (e:E) (x:Expr):Prop:=∀ X,Good G n sc N df X→PT X x (Jh X.K m (Ev.run G.F G.w n) e)
noncomputable def JW (e:E) (x:Expr):Prop:=∀ X,Good G n sc N df X→PW X x (Jh X.K m (Ev.run G.F G.w n) e)
noncomputable def JA (es:Es) (xs:List Expr):Prop:=∀ X,Good G n sc N df X→PA X xs (Ji X.K m (Ev.run G.F G.w n) es)
noncomputable def JO (e:Eo) (x:Option Expr):Prop:=∀ X,Good G n sc N df X→PO X x (PV X.K m (Ev.run G.F G.w n) e)
end
section
variable {G:Tb}{n:Nat}{sc:Scope}{N:List Str}{df:Bool}{m:List Nat}{a b c:E}{xa xb xc:Expr}{pos:Pos}
theorem Good.vis {X:Cx}(g:Good G n sc N df X) {x:Str}(h:sc.names.lookup x=some .local∨sc.names.lookup x=some .cell∨sc.names.lookup x=some .free):ze X.env.scope x:=by
 rw [g.sc];exact h
theorem Good.gl {X:Cx}(g:Good G n sc N df X) {x:Str}(h:sc.names.lookup x=some .globalImplicit):Gl X x:=by
 unfold Gl Env.kindOf;rw [g.sc];exact h
theorem ak (j i:Nat) {x:Str}(hj:m[j]?=some i:=by rfl) (hN:N[j]?=some x:=by rfl)
  (hv:sc.names.lookup x=some .local∨sc.names.lookup x=some .cell∨sc.names.lookup x=some .free:=by first | exact Or.inl rfl | exact Or.inr (Or.inl rfl) | exact Or.inr (Or.inr rfl))
  (hd:(x==("__debug__" : Str))=false:=by decide) (hcd:(x==("__classdict__" : Str))=false:=by decide):JE G n sc N df m (.v i) (.Name x pos):=by
 intro X g
 refine PE.of (zh (i:=j) (by rw [g.nm];exact hN) (g.vis hv) hd hcd) fun s H Q q=>?_
 obtain ⟨r,fr,h,d,h',sr,hr,e,q⟩:=q
 simp only [Ev.ev] at e
 obtain ⟨e2,e3⟩:=Ev.aM e
 subst e3
 obtain ⟨v,q1,q2⟩:=sr.sl j i d hj (by
  cases z:fr[i]? with
  | none=>rw [z] at e2;cases e2
  | some o=>
   rw [z] at e2
   have e':o=some d:=e2
   rw [e'])
 exact ⟨v,q1,q.here q2 hr⟩
theorem rX {K:PySem.W.Frag}{P:aU}{d:D}{v:V}(hc:tG d v):∀ s H Q,tJ K m P (.c d) s H Q→tC v s H Q:=fun s H Q q=>by
 obtain ⟨r,fr,h,d',h',sr,hr,e,q⟩:=q
 simp only [Ev.ev] at e
 cases e
 exact q.here hc.rv hr
theorem aD {i:Int}{j}:JE G n sc N df m (.c (.int i)) (.Constant (.int i) j pos):=fun X g=>PE.of Ik (rX rfl)
theorem jU {k:Bool}{j}:JE G n sc N df m (.c (.bl k)) (.Constant (.bool k) j pos):=fun X g=>PE.of NP (rX rfl)
theorem zF {j}:JE G n sc N df m (.c .bz) (.Constant .none j pos):=fun X g=>PE.of Il (rX rfl)
theorem br {l:List Nat}{x:Str}{j}(hx:x=aX l:=by decide +kernel) (hl:l.length≤sizeLine:=by decide):JE G n sc N df m (.c (.str l)) (.Constant (.str x) j pos):=
 fun X g=>PE.of Im (rX (by subst hx;exact ⟨rfl,hl⟩))
theorem au:JA G n sc N df m .nil []:=fun X g=>PA.of lY fun s H Q q=>by
 obtain ⟨r,fr,h,ds,h',sr,hr,e,q⟩:=q
 simp only [Ev.cj] at e
 cases e
 exact q [] H r .nil hr .refl
theorem ah {es:Es}{xs:List Expr}(ha:JE G n sc N df m a xa) (hs:JA G n sc N df m es xs) (hst:∀ env:Env,starEach (xa :: xs) env=(false,eval xa env) :: starEach xs env:=by intro _;rfl):JA G n sc N df m (.cons a es) (xa :: xs):=
 fun X g=>PA.of (iL (ha X g) (hs X g) (hst _)) fun s H Q q=>by
  obtain ⟨r,fr,h,ds,h',sr,hr,e,q⟩:=q
  simp only [Ev.cj] at e
  obtain ⟨d,h1,e1,e⟩:=Ev.aj e
  obtain ⟨ds',h2,e2,e⟩:=Ev.aj e
  cases e
  refine ⟨r,fr,h,d,h1,sr,hr,e1,fun v H1 r1 v1 hr1 f1=>?_⟩
  refine ⟨r1,fr,h1,ds',_,sr.mono f1,hr1,e2,fun vs H2 r2 v2 hr2 f2=>?_⟩
  exact q _ H2 r2 (.cons (v1.mono f2) v2) hr2 (f1.trans f2)
theorem cQ {es:Es}{xs:List Expr}{k}(hs:JA G n sc N df m es xs):JE G n sc N df m (.tup es) (.Tuple xs k pos):=fun X g=>PE.of (IQ (hs X g)) fun s H Q q=>by
 obtain ⟨r,fr,h,d,h',sr,hr,e,q⟩:=q
 simp only [Ev.ev] at e
 obtain ⟨ds,h1,e1,e⟩:=Ev.aj e
 split at e
 ·rename_i z
  cases e
  refine ⟨r,fr,h,ds,_,sr,hr,e1,fun vs H1 r1 v1 hr1 f1=>⟨by rw [v1.length,←jH];exact z,fun p hp=>?_⟩⟩
  exact (q.later f1).tup v1 hr1 hp
 ·cases e
theorem eX {es:Es}{xs:List Expr}(hs:JA G n sc N df m es xs):JE G n sc N df m (.lst es) (.List xs pos):=fun X g=>PE.of (IS (hs X g)) fun s H Q q=>by
 obtain ⟨r,fr,h,d,h',sr,hr,e,q⟩:=q
 simp only [Ev.ev] at e
 obtain ⟨ds,h1,e1,e⟩:=Ev.aj e
 refine ⟨r,fr,h,ds,h1,sr,hr,e1,fun vs H1 r1 v1 hr1 f1=>?_⟩
 exact (q.later f1).lst e v1 hr1
theorem o4 {K:PySem.W.Frag}{P:aU}{f:D→D→Hh→R D}{e':E}(he:∀ fr h,Ev.ev P e' fr h=(Ev.ev P a fr h).bind fun x h1=>(Ev.ev P b fr h1).bind fun y h2=>f x y h2) :
  ∀ s H Q,tJ K m P e' s H Q→zo (iK K f) (tJ K m P a) (tJ K m P b) s H Q:=fun s H Q q=>by
 obtain ⟨r,fr,h,d,h',sr,hr,e,q⟩:=q
 rw [he] at e
 obtain ⟨x,h1,e1,e⟩:=Ev.aj e
 obtain ⟨y,h2,e2,e⟩:=Ev.aj e
 refine ⟨r,fr,h,x,h1,sr,hr,e1,fun v H1 r1 v1 hr1 f1=>?_⟩
 refine ⟨r1,fr,h1,y,h2,sr.mono f1,hr1,e2,fun u H2 r2 v2 hr2 f2=>?_⟩
 exact ⟨r2,h2,x,y,d,h',hr2,v1.mono f2,v2,e,q.later (f1.trans f2)⟩
theorem aI {o:cF}{op:Operator}(ho:∀ X,Good G n sc N df X→dZ X (binaryOp op) (iK X.K (Ev.bR o))) (ha:JE G n sc N df m a xa) (hb:JE G n sc N df m b xb):JE G n sc N df m (.bin o a b) (.BinOp xa op xb pos):=
 fun X g=>PE.of (NY (ho X g) (ha X g) (hb X g)) (o4 fun fr h=>by simp only [Ev.ev])
noncomputable def ir (o:bY):D→D→Hh→R D:=fun x y h=>R.of ((Ev.cop o x y h).map .bl) h
theorem mw {o:bY}{op:CmpOp}(ho:∀ X,Good G n sc N df X→dZ X (compareOp op) (iK X.K (ir o))) (ha:JE G n sc N df m a xa) (hb:JE G n sc N df m b xb) (hm:behindInMarks op xb=false):JE G n sc N df m (.cmp o a b) (.Compare xa [op] [xb] pos):=
 fun X g=>PE.of (Gk (ho X g) (ha X g) (hb X g) hm) (o4 fun fr h=>by simp only [Ev.ev,ir])
theorem kC {o:bY}{x y d:D}{h h':Hh}(e:ir o x y h=.ok d h'):∃ k,Ev.cop o x y h=some k∧d=.bl k∧h'=h:=by
 unfold ir at e
 obtain ⟨e1,rfl⟩:=Ev.aM e
 cases z:Ev.cop o x y h' with
 | none=>rw [z] at e1;cases e1
 | some k=>rw [z] at e1;cases e1;exact ⟨k,rfl,rfl,rfl⟩
theorem bf {o:bY}{op:CmpOp}(ho:∀ X,Good G n sc N df X→dZ X (compareOp op) (iK X.K (ir o))) (ha:JE G n sc N df m a xa) (hb:JE G n sc N df m b xb) (hm:behindInMarks op xb=false):JT G n sc N df m (.cmp o a b) (.Compare xa [op] [xb] pos):=
 fun X g=>PT.of (Gm (ho X g) (ha X g) (hb X g) hm) fun s H Q q=>by
  obtain ⟨r,fr,h,k,h',sr,hr,e,q⟩:=q
  simp only [Ev.aK] at e
  obtain ⟨d,h1,e1,e⟩:=Ev.aj e
  have e0:=e1
  simp only [Ev.ev] at e0
  obtain ⟨x,h2,_,e0⟩:=Ev.aj e0
  obtain ⟨y,h3,_,e0⟩:=Ev.aj e0
  obtain ⟨k',e2,e3,e4⟩:=kC (o:=o) (show ir o x y h3=_ from e0)
  subst e3
  simp only [Ev.truthy] at e
  cases e
  refine o4 (e':=.cmp o a b) (f:=ir o) (fun fr h=>by simp only [Ev.ev,ir]) s H _ ⟨r,fr,h,.bl k,_,sr,hr,e1,fun v H1 r1 v1 hr1 f1=>?_⟩
  exact ⟨k,v1,q H1 r1 hr1 f1⟩
end
end Sm
set_option maxRecDepth 100000
namespace Sm
open PySem PySem.Spec PyProof.Rows L2
open Ev (D O Hh Fr R aU E Es Eo It T S Ss Fl Src cF bY TY BI ME)
section
variable {G:Tb}{n:Nat}{sc:Scope}{N:List Str}{df:Bool}{m:List Nat}{a b c:E}{xa xb xc:Expr}{pos:Pos}
theorem fS (ha:JE G n sc N df m a xa):JE G n sc N df m (.neg a) (.UnaryOp .USub xa pos):=fun X g=>PE.of (NZ IL (ha X g)) fun s H Q q=>by
 obtain ⟨r,fr,h,d,h',sr,hr,e,q⟩:=q
 simp only [Ev.ev] at e
 obtain ⟨x,h1,e1,e⟩:=Ev.aj e
 split at e
 ·cases e
  exact ⟨r,fr,h,_,_,sr,hr,e1,fun v H1 r1 v1 hr1 f1=>⟨_,v1,(q.later f1).here rfl hr1⟩⟩
 ·cases e
theorem zG {op}(ha:JE G n sc N df m a xa):JE G n sc N df m a (.BoolOp op [xa] pos):=fun X g=>Ir (ha X g)
theorem Oc {rest:List Expr}(ha:JE G n sc N df m a xa) (hb:JE G n sc N df m b (.BoolOp .And (xb :: rest) pos)):JE G n sc N df m (.an a b) (.BoolOp .And (xa :: xb :: rest) pos):=fun X g=>PE.of (Iu (ha X g) (hb X g)) fun s H Q q=>by
 obtain ⟨r,fr,h,d,h',sr,hr,e,q⟩:=q
 simp only [Ev.ev] at e
 obtain ⟨x,h1,e1,e⟩:=Ev.aj e
 refine ⟨r,fr,h,x,h1,sr,hr,e1,fun v H1 r1 v1 hr1 f1=>?_⟩
 split at e
 ·exact ⟨true,v1,r1,fr,h1,d,h',sr.mono f1,hr1,e,q.later f1⟩
 ·cases e
  exact ⟨false,v1,(q.later f1).here rfl hr1⟩
 ·cases e
theorem Jk {rest:List Expr}(ha:JE G n sc N df m a xa) (hb:JE G n sc N df m b (.BoolOp .Or (xb :: rest) pos)):JE G n sc N df m (.orr a b) (.BoolOp .Or (xa :: xb :: rest) pos):=fun X g=>PE.of (NS (ha X g) (hb X g)) fun s H Q q=>by
 obtain ⟨r,fr,h,d,h',sr,hr,e,q⟩:=q
 simp only [Ev.ev] at e
 obtain ⟨x,h1,e1,e⟩:=Ev.aj e
 refine ⟨r,fr,h,x,h1,sr,hr,e1,fun v H1 r1 v1 hr1 f1=>?_⟩
 split at e
 ·cases e
  exact ⟨true,v1,(q.later f1).here rfl hr1⟩
 ·exact ⟨false,v1,r1,fr,h1,d,h',sr.mono f1,hr1,e,q.later f1⟩
 ·cases e
theorem zH (ha:JT G n sc N df m a xa) (hb:JE G n sc N df m b xb) (hc:JE G n sc N df m c xc):JE G n sc N df m (.kB a b c) (.IfExp xa xb xc pos):=fun X g=>PE.of (BF (ha X g) (hb X g) (hc X g)) fun s H Q q=>by
 obtain ⟨r,fr,h,d,h',sr,hr,e,q⟩:=q
 simp only [Ev.ev] at e
 obtain ⟨k,h1,e1,e⟩:=Ev.aj e
 refine ⟨r,fr,h,k,h1,sr,hr,e1,fun H1 r1 hr1 f1=>?_⟩
 cases k with
 | true=>exact ⟨r1,fr,h1,d,h',sr.mono f1,hr1,e,q.later f1⟩
 | false=>exact ⟨r1,fr,h1,d,h',sr.mono f1,hr1,e,q.later f1⟩
theorem jg (h:JW G n sc N df m a xa):JT G n sc N df m a xa:=fun X g=>(h X g).pt
theorem mz (ha:JT G n sc N df m a xa):JW G n sc N df m a (.BoolOp .And [xa] pos):=fun X g=>Gf (ha X g)
theorem iN (ha:JT G n sc N df m a xa):JW G n sc N df m a (.BoolOp .Or [xa] pos):=fun X g=>Io (ha X g)
theorem o5 {rest:List Expr}(ha:JT G n sc N df m a xa) (hb:JW G n sc N df m b (.BoolOp .And (xb :: rest) pos)):JW G n sc N df m (.an a b) (.BoolOp .And (xa :: xb :: rest) pos):=fun X g=>PW.of (Ip (ha X g) (hb X g)) fun s H Q q=>by
 obtain ⟨r,fr,h,k,h',sr,hr,e,q⟩:=q
 simp only [Ev.aK] at e
 obtain ⟨k1,h1,e1,e⟩:=Ev.aj e
 refine ⟨r,fr,h,k1,h1,sr,hr,e1,fun H1 r1 hr1 f1=>?_⟩
 cases k1 with
 | true=>exact ⟨r1,fr,h1,k,h',sr.mono f1,hr1,e,fun H2 r2 hr2 f2=>q H2 r2 hr2 (f1.trans f2)⟩
 | false=>
  have e':R.ok false h1=R.ok k h':=e
  cases e'
  exact q H1 r1 hr1 f1
theorem iu {rest:List Expr}(ha:JT G n sc N df m a xa) (hb:JW G n sc N df m b (.BoolOp .Or (xb :: rest) pos)):JW G n sc N df m (.orr a b) (.BoolOp .Or (xa :: xb :: rest) pos):=fun X g=>PW.of (NQ (ha X g) (hb X g)) fun s H Q q=>by
 obtain ⟨r,fr,h,k,h',sr,hr,e,q⟩:=q
 simp only [Ev.aK] at e
 obtain ⟨k1,h1,e1,e⟩:=Ev.aj e
 refine ⟨r,fr,h,k1,h1,sr,hr,e1,fun H1 r1 hr1 f1=>?_⟩
 cases k1 with
 | false=>exact ⟨r1,fr,h1,k,h',sr.mono f1,hr1,e,fun H2 r2 hr2 f2=>q H2 r2 hr2 (f1.trans f2)⟩
 | true=>
  have e':R.ok true h1=R.ok k h':=e
  cases e'
  exact q H1 r1 hr1 f1
theorem r8 (ha:JT G n sc N df m a xa):JT G n sc N df m (.nt a) (.UnaryOp .Not xa pos):=fun X g=>PT.of (Iq (ha X g)) fun s H Q q=>by
 obtain ⟨r,fr,h,k,h',sr,hr,e,q⟩:=q
 simp only [Ev.aK] at e
 obtain ⟨k1,h1,e1,e⟩:=Ev.aj e
 cases e
 exact ⟨r,fr,h,k1,_,sr,hr,e1,fun H1 r1 hr1 f1=>q H1 r1 hr1 f1⟩
theorem Jl {K:PySem.W.Frag}{H:Hp}{r:List Addr}{h:Hh}{d:D}{v:V}{k:Bool}(hr:HR K H r h) (v1:RV K H r d v) (e:Ev.truthy h d=some k):BO K v H k:=by
 cases d with
 | bz=>simp only [RV] at v1;subst v1;cases e;rfl
 | bl x=>simp only [RV] at v1;subst v1;cases e;rfl
 | int x=>simp only [RV] at v1;subst v1;cases e;rfl
 | str x=>
  simp only [RV] at v1
  obtain ⟨rfl,z⟩:=v1
  cases e
  refine ⟨by rw [cX];exact z,?_⟩
  rw [cX]
  cases x with
  | nil=>rfl
  | cons c l=>simp;omega
 | tup ds=>
  simp only [RV] at v1
  obtain ⟨p,vs,rfl,z,q⟩:=v1
  cases e
  refine .inr (.inl ⟨vs,z,?_⟩)
  have hl:=q.length
  cases ds <;> cases vs <;> simp_all
 | ref i=>
  simp only [RV] at v1
  obtain ⟨p,rfl,z⟩:=v1
  simp only [Ev.truthy,Option.map_eq_some_iff] at e
  obtain ⟨ds,e1,rfl⟩:=e
  obtain ⟨p',vs,e2,q1,q2⟩:=hr.read e1
  rw [z] at e2;cases e2
  refine .inl ⟨vs,q1,?_⟩
  have hl:=q2.length
  cases ds <;> cases vs <;> simp_all
theorem iw (ha:JE G n sc N df m a xa) (he:∀ (P:aU) fr h,Ev.aK P a fr h=(Ev.ev P a fr h).bind fun x h1=>R.of (Ev.truthy h1 x) h1:=by intros;simp only [Ev.aK])
  (hx:∀ (env:Env) whole,isTrue xa env whole=(do let v ←whole;standAt xa.pos;holding [v] (truthy v)):=by intro _ _;rfl):JT G n sc N df m a xa:=fun X g=>PT.of (BP (ha X g) (hx _)) fun s H Q q=>by
 obtain ⟨r,fr,h,k,h',sr,hr,e,q⟩:=q
 rw [he] at e
 obtain ⟨d,h1,e1,e⟩:=Ev.aj e
 obtain ⟨e,rfl⟩:=Ev.aM e
 refine ⟨r,fr,h,d,_,sr,hr,e1,fun v H1 r1 v1 hr1 f1=>⟨k,Jl hr1 v1 e,q H1 r1 hr1 f1⟩⟩
noncomputable def Jm:D→D→Hh→R D:=fun x y h=>R.of (Ev.eH x y h) h
theorem bD (ho:∀ X,Good G n sc N df X→vL X (iK X.K Jm)) (ha:JE G n sc N df m a xa) (hb:JE G n sc N df m b xb) (hs:qj xb:=by intro _ _;rfl):JE G n sc N df m (.ix a b) (.Subscript xa xb pos):=
 fun X g=>PE.of (N9 (ho X g) (ha X g) (hb X g) hs) (o4 fun fr h=>by simp only [Ev.ev,Jm])
theorem jV:JO G n sc N df m .no none:=fun X g=>PO.of Gs fun s H Q q=>by
 obtain ⟨r,fr,h,o,h',sr,hr,e,q⟩:=q
 simp only [Ev.fN] at e
 cases e
 exact q H r hr .refl
theorem dP (ha:JE G n sc N df m a xa):JO G n sc N df m (.yes a) (some xa):=fun X g=>PO.of (vJ (ha X g)) fun s H Q q=>by
 obtain ⟨r,fr,h,o,h',sr,hr,e,q⟩:=q
 simp only [Ev.fN] at e
 obtain ⟨d,h1,e1,e⟩:=Ev.aj e
 obtain ⟨e,rfl⟩:=Ev.aM e
 cases d with
 | int i=>
  cases e
  exact ⟨r,fr,h,.int i,_,sr,hr,e1,fun v H1 r1 v1 hr1 f1=>⟨i,v1,q H1 r1 hr1 f1⟩⟩
 | _=>cases e
theorem gF {lo hi:Eo}{xl xh:Option Expr}{p2}(ho:∀ X,Good G n sc N df X→ku X (Jj X.K)) (ha:JE G n sc N df m a xa) (hl:JO G n sc N df m lo xl) (hu:JO G n sc N df m hi xh):JE G n sc N df m (.sl a lo hi) (.Subscript xa (.Slice xl xh none p2) pos):=
 fun X g=>PE.of (BU (ho X g) (ha X g) (hl X g) (hu X g)) fun s H Q q=>by
  obtain ⟨r,fr,h,d,h',sr,hr,e,q⟩:=q
  simp only [Ev.ev] at e
  obtain ⟨x,h1,e1,e⟩:=Ev.aj e
  obtain ⟨l,h2,e2,e⟩:=Ev.aj e
  obtain ⟨u,h3,e3,e⟩:=Ev.aj e
  refine ⟨r,fr,h,x,h1,sr,hr,e1,fun v H1 r1 v1 hr1 f1=>?_⟩
  refine ⟨r1,fr,h1,l,h2,sr.mono f1,hr1,e2,fun H2 r2 hr2 f2=>?_⟩
  refine ⟨r2,fr,h2,u,h3,(sr.mono f1).mono f2,hr2,e3,fun H3 r3 o6 f3=>?_⟩
  exact ⟨r3,h3,x,d,h',o6,(v1.mono f2).mono f3,e,q.later ((f1.trans f2).trans f3)⟩
theorem GB {K:PySem.W.Frag}{P:aU}{es:Es}{f:List D→Hh→R D}{e':E}(he:∀ fr h,Ev.ev P e' fr h=(Ev.cj P es fr h).bind f) :
  ∀ s H Q,tJ K m P e' s H Q→IV (tE K f) (Ji K m P es) s H Q:=fun s H Q q=>by
 obtain ⟨r,fr,h,d,h',sr,hr,e,q⟩:=q
 rw [he] at e
 obtain ⟨ds,h1,e1,e⟩:=Ev.aj e
 exact ⟨r,fr,h,ds,h1,sr,hr,e1,fun vs H1 r1 v1 hr1 f1=>⟨r1,h1,ds,d,h',hr1,v1,e,q.later f1⟩⟩
theorem cU {k:BI}{es:Es}{x:Str}{id:String}{e0:Expr}{xs:List Expr}{p:Pos}(hc:∀ X,Good G n sc N df X→fM X (.builtin id) (tE X.K (Ev.cV k))) (hs:JA G n sc N df m es (e0 :: xs)) (hb:x∈G.bl:=by decide +kernel)
  (hg:sc.names.lookup x=some .globalImplicit:=by rfl) (hv:bootBuiltins x=some (.builtin id)) (hn:x≠"__name__" :=by decide) (hd:(x==("__debug__" : Str))=false:=by decide)
  (hst:∀ env:Env,starEach (e0 :: xs) env=(false,eval e0 env) :: starEach xs env:=by intro _;rfl) (hpl:∀ env:Env,(backTo pos (starEach xs env)).any (·.1)=false:=by intro _;rfl) :
  JE G n sc N df m (.bi k es) (.Call (.Name x p) (e0 :: xs) [] pos):=
 fun X g=>PE.of (sY (hc X g) (g.gl hg) (g.bl x hb) hv (hs X g) hn hd (hst _) (hpl _)) (GB fun fr h=>by simp only [Ev.ev])
theorem aY {f:Nat}{i:FI}{es:Es}{e0:Expr}{xs:List Expr}{p:Pos}(hf:G.fi[f]?=some i) (hs:JA G n sc N df m es (e0 :: xs))
  (hg:sc.names.lookup i.name=some .globalImplicit:=by rfl) (hd:(i.name==("__debug__" : Str))=false:=by decide)
  (hst:∀ env:Env,starEach (e0 :: xs) env=(false,eval e0 env) :: starEach xs env:=by intro _;rfl) (hpl:∀ env:Env,(backTo pos (starEach xs env)).any (·.1)=false:=by intro _;rfl) :
  JE G n sc N df m (.cl f es) (.Call (.Name i.name p) (e0 :: xs) [] pos):=fun X g=>by
 obtain ⟨h1,h2,h3,h4⟩:=g.fn f i hf
 refine PE.of (Gp h4 g.room (g.gl hg) h1 h2 h3 .nil Ob (hs X g) hd (hst _) (hpl _)) fun s H Q q=>?_
 obtain ⟨r,fr,h,d,h',sr,hr,e,q⟩:=q
 simp only [Ev.ev] at e
 obtain ⟨ds,h5,e1,e⟩:=Ev.aj e
 refine ⟨r,fr,h,ds,h5,sr,hr,e1,fun vs H1 r1 v1 hr1 f1=>?_⟩
 exact ⟨r1,h5,ds,d,h',by rw [List.append_nil];exact v1,hr1,e,q.later f1⟩
noncomputable def Cb:ME→String
 | .join=>"str"
 | _=>"list"
theorem zI {K:PySem.W.Frag}{H:Hp}{r:List Addr}{h:Hh}{k:ME}{d:D}{v:V}{ty:String}(hr:HR K H r h) (v1:RV K H r d v) (e:Ev.vN k d h=true) (ht:ty=Cb k):zz K ty v H:=by
 subst ht
 have lst:∀ i,d=.ref i→(Ev.bw h i).isSome=true→zz K "list" v H:=fun i ed es=>by
  subst ed
  obtain ⟨ds,e1⟩:=Option.isSome_iff_exists.mp es
  obtain ⟨p,vs,e2,q1,q2⟩:=hr.read e1
  simp only [RV] at v1
  obtain ⟨p',rfl,e3⟩:=v1
  rw [e2] at e3;cases e3
  exact .inl ⟨rfl,vs,q1⟩
 cases k with
 | join=>
  cases d with
  | str l=>simp only [RV] at v1;obtain ⟨rfl,_⟩:=v1;rfl
  | _=>cases e
 | append=>cases d with | ref i=>exact lst i rfl e | _=>cases e
 | extend=>cases d with | ref i=>exact lst i rfl e | _=>cases e
 | pop=>cases d with | ref i=>exact lst i rfl e | _=>cases e
theorem fk {k:ME}{es:Es}{e0:Expr}{xs:List Expr}{name:Str}{apos:Pos}{ty id:String}(pa:PlainAttrs ty) (slot:Slot ty name id) (hty:typeOf (.builtin id)=pure (.type "method_descriptor"))
  (hm:∀ X,Good G n sc N df X→qV X id (tF X.K (Ev.fc k))) (ht:ty=Cb k) (ha:JE G n sc N df m a xa) (hs:JA G n sc N df m es (e0 :: xs))
  (hbase:∀ env:Env,attributeBase xa name env (eval xa env)=eval xa env:=by intro _;rfl)
  (hfew:∀ env:Env,((backTo pos (starEach (e0 :: xs) env)).all (fun x=>!x.1)&&(backToKw pos (keywordEach [] env)).all (fun x=>x.1.isSome)
   &&decide ((e0 :: xs).length+([]:List Keyword).length+(if ([]:List Keyword).isEmpty then 0 else 1)<30))=true:=by intro _;rfl)
  (hline:(apos.endLine==pos.line)=true:=by rfl) (hst:∀ env:Env,starEach (e0 :: xs) env=(false,eval e0 env) :: starEach xs env:=by intro _;rfl) (hpl:∀ env:Env,(backTo pos (starEach xs env)).any (·.1)=false:=by intro _;rfl) :
  JE G n sc N df m (.me k a es) (.Call (.Attribute xa name apos) (e0 :: xs) [] pos):=fun X g=>
 PE.of (Oa pa slot hty (hm X g) (ha X g) (hs X g) (hbase _) (hfew _) hline (hst _) (hpl _)) fun s H Q q=>by
  obtain ⟨r,fr,h,d,h',sr,hr,e,q⟩:=q
  simp only [Ev.ev] at e
  obtain ⟨x,h1,e1,e⟩:=Ev.aj e
  split at e
  ·rename_i hk
   obtain ⟨ds,h2,e2,e⟩:=Ev.aj e
   refine ⟨r,fr,h,x,h1,sr,hr,e1,fun v H1 r1 v1 hr1 f1=>⟨zI hr1 v1 hk ht,?_⟩⟩
   refine ⟨r1,fr,h1,ds,h2,sr.mono f1,hr1,e2,fun vs H2 r2 v2 hr2 f2=>?_⟩
   exact ⟨r2,h2,x,ds,d,h',hr2,v1.mono f2,v2,e,q.later (f1.trans f2)⟩
  ·cases e
theorem tH {k:ME}{name:Str}{apos:Pos}{ty id:String}(pa:PlainAttrs ty) (slot:Slot ty name id) (hty:typeOf (.builtin id)=pure (.type "method_descriptor"))
  (hm:∀ X,Good G n sc N df X→qV X id (tF X.K (Ev.fc k))) (ht:ty=Cb k) (ha:JE G n sc N df m a xa)
  (hbase:∀ env:Env,attributeBase xa name env (eval xa env)=eval xa env:=by intro _;rfl) (hline:(apos.endLine==pos.line)=true:=by rfl) :
  JE G n sc N df m (.me k a .nil) (.Call (.Attribute xa name apos) [] [] pos):=fun X g=>
 PE.of (IZ pa slot hty (hm X g) (ha X g) (hbase _) hline) fun s H Q q=>by
  obtain ⟨r,fr,h,d,h',sr,hr,e,q⟩:=q
  simp only [Ev.ev] at e
  obtain ⟨x,h1,e1,e⟩:=Ev.aj e
  split at e
  ·rename_i hk
   simp only [Ev.cj,Ev.ay] at e
   refine ⟨r,fr,h,x,h1,sr,hr,e1,fun v H1 r1 v1 hr1 f1=>⟨zI hr1 v1 hk ht,?_⟩⟩
   exact ⟨r1,h1,x,[],d,h',hr1,v1,.nil,e,q.later f1⟩
  ·cases e
end
end Sm
set_option maxRecDepth 100000
namespace Sm
open PySem PySem.Spec PyProof.Rows L2
open Ev (D O Hh Fr R aU E Es Eo T S Ss Fl Src cF bY TY BI ME)
noncomputable def ow (K:PySem.W.Frag) (r0:List Addr) (H0:Hp) (s:Src) (J:L2.It):Prop:=∀ (i:Nat) H1 r1 h1,HR K H1 r1 h1→Fm K r0 r1 H0 H1→Ev.stays h1 s.2=true→
 (∀ d,s.1[i]?=some d→J.go i H1∧∀ x H2,J.Ek i H1 x H2→∃ r2,RV K H2 r2 d x∧HR K H2 r2 h1∧Fm K r1 r2 H1 H2)∧(s.1.length≤i→J.stop i H1)
inductive PX (K:PySem.W.Frag) (m:List Nat) (P:aU) (it:Ev.It) (s:L2.St) (H:Hp) (Rr:L2.It→Hp→Prop):Prop
 | mk (r:List Addr) (fr:Fr) (h:Hh) (src:Src) (h':Hh) (c0:SR K m H r fr s) (c1:HR K H r h) (c2:Ev.cM P it fr h=.ok src h') (c3:∀ J H' r',HR K H' r' h'→Fm K r r' H H'→ow K r' H' src J→Rr J H'):PX K m P it s H Rr
noncomputable def JI (G:Tb) (n:Nat) (sc:Scope) (N:List Str) (df:Bool) (m:List Nat) (it:Ev.It) (tg x:Expr):Prop:=∀ X,Good G n sc N df X→PI X tg x (PX X.K m (Ev.run G.F G.w n) it)
noncomputable def En (z:Str):L2.It:=⟨fun i _=>i<z.length,fun i H x H'=>H'=H∧∃ c,z.cps[i]?=some c∧x=.str ⟨#[c]⟩,fun i _=>z.length≤i⟩
theorem Jo {M:Model}{A:Around}{E:Value→Shared→Prop}{s:Shared}{tg:Expr}{it:Value}{x:Str}{t:Tok}{Q:Unit→Shared→Prop}(hQ:Q () s):wpAny M A (letOwnedTupleGo tg it (.str x t)) Q E s:=by
 unfold letOwnedTupleGo
 cases tg <;> first
  | exact wpAny_pure hQ
  | (cases it <;> exact wpAny_pure hQ)
theorem tK {P:Program}{w:World}{K:PySem.W.Frag}{tg:Expr}(z:Str) (t:Tok) (it:Addr) (ty:String) (hty:ty = "str_ascii_iterator" ∨ty = "str_iterator") :
  Turn P w K tg (En z) [it] it (fun i h=>h.IsStrIter it ty z t i) where
 mem:=by simp
 obj:=fun i h st b hb=>by
  have e:b=it:=by simpa using hb
  subst e
  obtain ⟨o,e,c,d⟩:=st
  exact ⟨o,e,fun v z=>by rw [d] at z;cases z⟩
 keep:=fun i h h' st k=>by
  obtain ⟨o,e,c,d⟩:=st
  exact ⟨o,k it (by simp) o e,c,d⟩
 item:=by
  intro X hP hw hK hc i pins s σ H E I hf st hg
  subst hP hw hK
  obtain ⟨f0,f1,f2,f3,f4,f5⟩:=hf it (by simp)
  have W:Walks X.prog X.w X.A it [it] [it] z.cps.size (SignAt z) (fun i h=>h.IsStrIter it ty z t i):=by
   rcases hty with e | e
   ·subst e;exact Walks.strAscii (I.ok.hd hc) it z t
   ·subst e;exact Walks.strWide (I.ok.hd hc) it z t
  refine W.item i s _ _ hg st fun v h' tk hv st' kk=>?_
  obtain ⟨c,u,hc',rfl⟩:=hv
  have I1:Inv X pins σ H { s with heap:=h',toks:=tk }:=I.turned (fun b o hb e=>kk b o (by simpa using hb) e) f0 f1 f3 f4 f5
  exact ⟨_,rfl,Jo ⟨.str ⟨#[c]⟩,H,I1,⟨u,rfl⟩,⟨rfl,c,hc',rfl⟩,st',fun b hb=>(hf b hb).1⟩⟩
 done:=by
  intro X hP hw hK hc i pins s σ H E I hf st hg
  subst hP hw hK
  obtain ⟨f0,f1,f2,f3,f4,f5⟩:=hf it (by simp)
  rcases hty with e | e
  ·subst e
   exact wpAny_pyNext_ascii_end (I.ok.hd hc) st (by simpa [Str.length,En] using hg) fun h' eb=>⟨rfl,I.turned (t':=s.toks) (fun b o hb e=>eb b o hb e) f0 f1 f3 f4 f5⟩
  ·subst e
   exact wpAny_pyNext_wide_end (I.ok.hd hc) st (by simpa [Str.length,En] using hg) fun h' eb=>⟨rfl,I.turned (t':=s.toks) (fun b o hb e=>eb b o hb e) f0 f1 f3 f4 f5⟩
 self:=fun _ _ _ _ _ st h=>by
  rcases hty with e | e
  ·subst e;exact wpAny_pyIter_striter_ascii st h
  ·subst e;exact wpAny_pyIter_striter_wide st h
noncomputable def Ep (K:PySem.W.Frag) (x:V) (H:Hp) (Rr:L2.It→Hp→Prop):Prop:=
 (∃ a xs,x=.ref a∧dY K H a xs∧Rr (PL K a) H)∨(∃ a xs,x=.ref a∧dM K H a xs∧Rr (PM K a) H)∨∃ z,x=.str z∧Rr (En z) H
theorem Jp {X:Cx}{tg l:Expr}{tl:TE}{wi:TI}(hl:PE X l tl) (hw:∀ s H Rr,wi s H Rr→tl s H fun x H1=>Ep X.K x H1 Rr):PI X tg l wi:=by
 intro pins s σ H Rr I h
 refine bQ (hl pins s σ H _ I (hw _ _ _ h)) fun v s1 ⟨x,H1,I1,r1,q1⟩=>?_
 have fp:∀ (o:Obj) b,b∈[s1.heap.objs.size]→gp X pins H1 b:=fun o b hb=>by
  have e:b=s1.heap.objs.size:=by simpa using hb
  subst e
  exact I1.xC (Nat.le_refl _) (I1.hok.fresh (Nat.le_refl _))
 rcases q1 with ⟨a,xs,rfl,hq,q⟩ | ⟨a,xs,rfl,hq,q⟩ | ⟨z,rfl,q⟩
 ·cases r1
  obtain ⟨its,rv,p,hz⟩:=I1.list hq
  refine wpAny_pyIter_list p.isList ?_
  exact ⟨s1.heap.objs.size,[s1.heap.objs.size],_,_,H1,rfl,I1.kept (t':=s1.toks) fun b o e=>Heap.get?_push_of_some _ e,zk a _,⟨_,Heap.get?_push_size _ rfl,rfl,rfl⟩,fp default,q⟩
 ·cases r1
  obtain ⟨its,rv,p,hz⟩:=I1.tuple hq
  refine wpAny_pyIter_tuple (show s1.heap.IsTuple a its.toArray from p) ?_
  exact ⟨s1.heap.objs.size,[s1.heap.objs.size],_,_,H1,rfl,I1.kept (t':=s1.toks) fun b o e=>Heap.get?_push_of_some _ e,xE a _,⟨_,Heap.get?_push_size _ rfl,rfl,rfl⟩,fp default,q⟩
 ·obtain ⟨t,rfl⟩:=r1
  cases ha:z.cps.all (· < 128)
  ·refine wpAny_pyIter_wide ha ?_
   exact ⟨s1.heap.objs.size,[s1.heap.objs.size],_,_,H1,rfl,I1.kept (t':=s1.toks) fun b o e=>Heap.get?_push_of_some _ e,tK z t _ _ (.inr rfl),⟨_,Heap.get?_push_size _ rfl,rfl,rfl⟩,fp default,q⟩
  ·refine wpAny_pyIter_ascii ha ?_
   exact ⟨s1.heap.objs.size,[s1.heap.objs.size],_,_,H1,rfl,I1.kept (t':=s1.toks) fun b o e=>Heap.get?_push_of_some _ e,tK z t _ _ (.inl rfl),⟨_,Heap.get?_push_size _ rfl,rfl,rfl⟩,fp default,q⟩
theorem mC {h:Hh}{n:Nat}{ds:List D}(e:Ev.stays h [(n,ds)]=true):Ev.bw h n=some ds:=by
 simp only [Ev.stays,Bool.and_true] at e
 split at e
 ·rename_i es q
  rw [q,(Ev.q8 _ _).mp e]
 ·cases e
theorem GC {K:PySem.W.Frag}{H:Hp}{r:List Addr}{h:Hh}{d:D}{v:V}{src:Src}{Rr:L2.It→Hp→Prop}(hr:HR K H r h) (v1:RV K H r d v) (e:Ev.gj h d=some src) (q:∀ J,ow K r H src J→Rr J H):Ep K v H Rr:=by
 cases d with
 | tup ds=>
  simp only [RV] at v1
  obtain ⟨a,vs,rfl,z,w⟩:=v1
  cases e
  refine .inr (.inl ⟨a,vs,rfl,z,q _ fun i H1 r1 h1 hr1 f1 st=>⟨fun d' e'=>?_,fun hl=>?_⟩⟩)
  ·obtain ⟨u,e1,e2⟩:=w.get e'
   refine ⟨⟨vs,u,f1.tups _ _ z,e1⟩,fun x H2 y=>?_⟩
   obtain ⟨rfl,y⟩:=y
   have:=y vs (f1.tups _ _ z)
   rw [e1] at this;cases this
   exact ⟨r1,e2.mono f1,hr1,.refl⟩
  ·exact ⟨vs,f1.tups _ _ z,by rw [w.length];exact hl⟩
 | str l=>
  simp only [RV] at v1
  obtain ⟨rfl,z⟩:=v1
  cases e
  refine .inr (.inr ⟨_,rfl,q _ fun i H1 r1 h1 hr1 f1 st=>⟨fun d' e'=>?_,fun hl=>?_⟩⟩)
  ·rw [List.getElem?_map] at e'
   cases e2:l[i]? with
   | none=>rw [e2] at e';cases e'
   | some c=>
    rw [e2] at e'
    cases e'
    refine ⟨by show i<(aX l).length;rw [cX];exact (List.getElem?_eq_some_iff.mp e2).1,fun x H2 y=>?_⟩
    obtain ⟨rfl,c',y1,rfl⟩:=y
    have e3:(aX l).cps[i]?=some c:=by simp [aX,e2]
    rw [e3] at y1;cases y1
    exact ⟨r1,⟨rfl,by show 1≤sizeLine;decide⟩,hr1,.refl⟩
  ·show (aX l).length≤i
   rw [cX];simpa using hl
 | ref k=>
  simp only [RV] at v1
  obtain ⟨a,rfl,z⟩:=v1
  simp only [Ev.gj,Option.map_eq_some_iff] at e
  obtain ⟨ds,e1,rfl⟩:=e
  obtain ⟨a',vs,e2,e3,e4⟩:=hr.read e1
  rw [z] at e2;cases e2
  refine .inl ⟨a,vs,rfl,e3,q _ fun i H1 r1 h1 hr1 f1 st=>?_⟩
  obtain ⟨a',us,e5,e6,e7⟩:=hr1.read (mC st)
  rw [f1.pre _ _ z] at e5;cases e5
  refine ⟨fun d' e'=>?_,fun hl=>⟨us,e6,by rw [e7.length];exact hl⟩⟩
  obtain ⟨u,g1,g2⟩:=e7.get e'
  refine ⟨⟨us,u,e6,g1⟩,fun x H2 y=>?_⟩
  obtain ⟨rfl,y⟩:=y
  have:=y us e6
  rw [g1] at this;cases this
  exact ⟨r1,g2,hr1,.refl⟩
 | _=>cases e
section
variable {G:Tb}{n:Nat}{sc:Scope}{N:List Str}{df:Bool}{m:List Nat}{a b c:E}{xa xb xc tg:Expr}{pos:Pos}
theorem fT (ha:JE G n sc N df m a xa):JI G n sc N df m (.seq a) tg xa:=fun X g=>Jp (ha X g) fun s H Rr q=>by
 obtain ⟨r,fr,h,src,h',sr,hr,e,q⟩:=q
 simp only [Ev.cM] at e
 obtain ⟨d,h1,e1,e⟩:=Ev.aj e
 obtain ⟨e,rfl⟩:=Ev.aM e
 refine ⟨r,fr,h,d,_,sr,hr,e1,fun v H1 r1 v1 hr1 f1=>?_⟩
 exact GC hr1 v1 e fun J hJ=>q J H1 r1 hr1 f1 hJ
theorem PI.of {X:Cx}{tg l:Expr}{t t':TI}(h:PI X tg l t) (w:∀ s H Q,t' s H Q→t s H Q):PI X tg l t':=fun pins s σ H Q I q=>h pins s σ H Q I (w _ _ _ q)
theorem Jq {K:PySem.W.Frag}{r:List Addr}{H:Hp}(lo:Int) (k:Nat):ow K r H (Ev.range lo k,[]) (El lo k):=fun i H1 r1 h1 hr1 f1 st=>by
 refine ⟨fun d e=>?_,fun hl=>?_⟩
 ·simp only [Ev.range,List.getElem?_map] at e
  cases e2:(List.range k)[i]? with
  | none=>rw [e2] at e;cases e
  | some j=>
   rw [e2] at e
   cases e
   have hi:i<k:=by simpa using (List.getElem?_eq_some_iff.mp e2).1
   have hj:j=i:=by
    rw [List.getElem?_range hi] at e2
    exact (Option.some.inj e2).symm
   subst hj
   refine ⟨hi,fun x H2 y=>?_⟩
   obtain ⟨rfl,rfl⟩:=y
   exact ⟨r1,rfl,hr1,.refl⟩
 ·have:(Ev.range lo k).length=k:=by simp [Ev.range]
  show k≤i
  have hl':(Ev.range lo k).length≤i:=hl
  omega
theorem m9 {e1:E}{p:Pos}(hs:JA G n sc N df m (.cons e1 .nil) [xa]) (hg:sc.names.lookup ("range" : Str)=some .globalImplicit:=by rfl) (hb:("range" : Str)∈G.bl:=by decide +kernel)
  (hst:∀ env:Env,starEach [xa] env=[(false,eval xa env)]:=by intro _;rfl):JI G n sc N df m (.iI (.cons e1 .nil)) tg (.Call (.Name "range" p) [xa] [] pos):=fun X g=>
 PI.of (zl (g.gl hg) (g.bl _ hb) (hs X g) (hst _)) fun s H Rr q=>by
  obtain ⟨r,fr,h,src,h',sr,hr,e,q⟩:=q
  simp only [Ev.cM] at e
  obtain ⟨ds,h1,e1,e⟩:=Ev.aj e
  obtain ⟨e,rfl⟩:=Ev.aM e
  refine ⟨r,fr,h,ds,_,sr,hr,e1,fun vs H1 r1 v1 hr1 f1=>?_⟩
  unfold Ev.eL at e
  split at e
  ·rename_i j
   split at e
   ·rename_i hj
    cases e
    simp only [aJ,RV] at v1
    obtain ⟨v,w,rfl,rfl,rfl⟩:=v1
    exact ⟨_,rfl,hj.1,hj.2,q _ H1 r1 hr1 f1 (Jq 0 _)⟩
   ·cases e
  ·exfalso
   simp only [Ev.cj] at e1
   obtain ⟨d,_,_,e1⟩:=Ev.aj e1
   simp only [Ev.ay] at e1
   cases e1
  ·cases e
inductive gJ (K:PySem.W.Frag) (m:List Nat) (t:T) (v:V) (s:L2.St) (H:Hp) (Q:L2.St→Hp→Prop):Prop
 | mk (r:List Addr) (fr:Fr) (h:Hh) (d:D) (aq:Fr) (c0:SR K m H r fr s) (c1:HR K H r h) (c2:RV K H r d v) (c3:Ev.cB t d fr=some aq) (c4:∀ s',SR K m H r aq s'→Q s' H):gJ K m t v s H Q
noncomputable def JG (G:Tb) (n:Nat) (sc:Scope) (N:List Str) (df:Bool) (m:List Nat) (t:T) (x:Expr):Prop:=∀ X,Good G n sc N df X→PG X x (gJ X.K m t)
theorem PG.of {X:Cx}{e:Expr}{t t':TG}(h:PG X e t) (w:∀ v s H Q,t' v s H Q→t v s H Q):PG X e t':=fun pins s σ H v u Q I r q=>h pins s σ H v u Q I r (w _ _ _ _ q)
theorem SR.set {K:PySem.W.Frag}{m:List Nat}{H:Hp}{r:List Addr}{fr:Fr}{s:L2.St}(sr:SR K m H r fr s) (hm:m.Nodup) {j i:Nat}(hj:m[j]?=some i) {d:D}{v:V}(v1:RV K H r d v):SR K m H r (fr.set i (some d)) (s.set j (some v)):=by
 refine ⟨by simp [sr.len],fun j' i' d' e1 e2=>?_⟩
 by_cases hi:i'=i
 ·subst hi
  have:j'=j:=zJ hm e1 hj
  subst this
  have hlt:i'<fr.length:=by
   have:=(List.getElem?_eq_some_iff.mp e2).1
   simpa using this
  rw [List.getElem?_set_self hlt] at e2
  cases e2
  refine ⟨v,List.getElem?_set_self ?_,v1⟩
  rw [sr.len]
  exact (List.getElem?_eq_some_iff.mp hj).1
 ·rw [List.getElem?_set_ne (fun z=>hi z.symm)] at e2
  obtain ⟨u,q1,q2⟩:=sr.sl j' i' d' e1 e2
  refine ⟨u,?_,q2⟩
  rw [List.getElem?_set_ne]
  ·exact q1
  ·intro z
   subst z
   rw [hj] at e1;cases e1
   exact hi rfl
where
 zJ {l:List Nat} (hl:l.Nodup) {i j:Nat} {x:Nat} (a:l[i]?=some x) (b:l[j]?=some x):i=j:=by
  have ha:=(List.getElem?_eq_some_iff.mp a)
  have hb:=(List.getElem?_eq_some_iff.mp b)
  obtain ⟨h1,e1⟩:=ha
  obtain ⟨h2,e2⟩:=hb
  exact (List.getElem_inj hl).mp (e1.trans e2.symm)
theorem Good.loc {X:Cx}(g:Good G n sc N df X) {x:Str}(h:sc.names.lookup x=some .local∨(df=true∧sc.names.lookup x=some .cell)):Loc X.env.scope x∧(X.fn x=true∨X.env.scope.names.lookup x=some .local):=by
 rw [show Loc X.env.scope x↔Loc sc x by rw [g.sc],g.sc]
 rcases h with h | ⟨h1,h⟩
 ·exact ⟨.inl h,.inr h⟩
 ·exact ⟨.inr h,.inl (g.own h1 x)⟩
theorem fU (j i:Nat) {x:Str}(hm:m.Nodup) (hN:N.Nodup) (hj:m[j]?=some i:=by rfl) (q9:N[j]?=some x:=by rfl)
  (hl:sc.names.lookup x=some .local∨(df=true∧sc.names.lookup x=some .cell):=by first | exact Or.inl rfl | exact Or.inr ⟨rfl,rfl⟩):JG G n sc N df m (.one i) (.Name x pos):=fun X g=>by
 obtain ⟨h1,h2⟩:=g.loc hl
 refine PG.of (vG (i:=j) (by rw [g.nm];exact hN) (by rw [g.nm];exact q9) h1 h2) fun v s H Q q=>?_
 obtain ⟨r,fr,h,d,aq,sr,hr,v1,e,q⟩:=q
 cases e
 exact q _ (sr.set hm hj v1)
inductive PY (K:PySem.W.Frag) (m:List Nat) (l:List Nat) (vs:List V) (s:L2.St) (H:Hp) (Q:L2.St→Hp→Prop):Prop
 | mk (r:List Addr) (fr:Fr) (h:Hh) (ds:List D) (aq:Fr) (c0:SR K m H r fr s) (c1:HR K H r h) (c2:aJ K H r ds vs) (c3:Ev.cP l ds fr=some aq) (c4:∀ s',SR K m H r aq s'→Q s' H):PY K m l vs s H Q
noncomputable def Er (G:Tb) (n:Nat) (sc:Scope) (N:List Str) (df:Bool) (m:List Nat) (l:List Nat) (xs:List Expr):Prop:=∀ X,Good G n sc N df X→nH X xs (PY X.K m l)
theorem nH.of {X:Cx}{e:List Expr}{t t':qP}(h:nH X e t) (w:∀ v s H Q,t' v s H Q→t v s H Q):nH X e t':=fun pins s σ H v u Q I r q=>h pins s σ H v u Q I r (w _ _ _ _ q)
theorem kD:Er G n sc N df m [] []:=fun X g=>nH.of Gi fun vs s H Q q=>by
 obtain ⟨r,fr,h,ds,aq,sr,hr,v1,e,q⟩:=q
 cases ds with
 | nil=>simp only [aJ] at v1;subst v1;cases e;exact ⟨rfl,q _ sr⟩
 | cons _ _=>cases e
theorem eT (j i:Nat) {x:Str}{l:List Nat}{xs:List Expr}(hm:m.Nodup) (hN:N.Nodup) (hs:Er G n sc N df m l xs) (hj:m[j]?=some i:=by rfl) (q9:N[j]?=some x:=by rfl)
  (hl:sc.names.lookup x=some .local∨(df=true∧sc.names.lookup x=some .cell):=by first | exact Or.inl rfl | exact Or.inr ⟨rfl,rfl⟩)
  (hst:∀ env:Env,(assignEach (.Name x pos :: xs) env).map (·.2)=assign (.Name x pos) env :: (assignEach xs env).map (·.2):=by intro _;rfl):Er G n sc N df m (i :: l) (.Name x pos :: xs):=fun X g=>by
 obtain ⟨h1,h2⟩:=g.loc hl
 refine nH.of (BJ (vG (i:=j) (by rw [g.nm];exact hN) (by rw [g.nm];exact q9) h1 h2) (hs X g) (hst _)) fun vs s H Q q=>?_
 obtain ⟨r,fr,h,ds,aq,sr,hr,v1,e,q⟩:=q
 cases ds with
 | nil=>cases e
 | cons d ds=>
  simp only [aJ] at v1
  obtain ⟨v,w,rfl,v2,v3⟩:=v1
  exact ⟨v,w,rfl,r,_,h,ds,aq,sr.set hm hj v2,hr,v3,e,q⟩
theorem kE {l:List Nat}{xs:List Expr}{k:Nat}(hs:Er G n sc N df m l xs) (hn:∀ env:Env,(assignEach xs env).length=l.length:=by intro _;rfl) (hst:∀ env:Env,(assignEach xs env).findIdx? (·.1)=none:=by intro _;rfl) :
  JG G n sc N df m (.many l) (.Tuple xs k pos):=fun X g=>PG.of (Iz (n:=l.length) g.calm (hs X g) (hn _) (hst _)) fun v s H Q q=>by
 obtain ⟨r,fr,h,d,aq,sr,hr,v1,e,q⟩:=q
 cases d with
 | tup ds=>
  simp only [RV] at v1
  obtain ⟨p,vs,rfl,z,w⟩:=v1
  have hlen:∀ (l:List Nat) (ds:List D) fr aq,Ev.cP l ds fr=some aq→ds.length=l.length:=by
   intro l
   induction l with
   | nil=>intro ds fr aq e;cases ds with | nil=>rfl | cons _ _=>cases e
   | cons i l ih=>intro ds fr aq e;cases ds with | nil=>cases e | cons d ds=>simp [ih ds _ _ e]
  exact ⟨p,vs,rfl,z,by rw [w.length];exact hlen _ _ _ _ e,r,fr,h,ds,aq,sr,hr,w,e,q⟩
 | _=>cases e
end
end Sm
set_option maxRecDepth 100000
namespace Sm
open PySem PySem.Spec PyProof.Rows L2
open Ev (D O Hh Fr R aU E Es Eo T S Ss Fl Src cF bY TY BI ME)
noncomputable def Fin (K:PySem.W.Frag) (m:List Nat) (r:List Addr) (H:Hp) (h':Hh) (fl:Fl) (aq:Fr) (Q:Ends):Prop:=match fl with
 | .nx=>∀ s' H' r',SR K m H' r' aq s'→HR K H' r' h'→Fm K r r' H H'→Q.nx s' H'
 | .bk=>∀ s' H' r',SR K m H' r' aq s'→HR K H' r' h'→Fm K r r' H H'→Q.bk s' H'
 | .ct=>∀ s' H' r',SR K m H' r' aq s'→HR K H' r' h'→Fm K r r' H H'→Q.ct s' H'
 | .ret d=>Res K r H h' d Q.rt
theorem Fin.later {K:PySem.W.Frag}{m:List Nat}{r r':List Addr}{H H':Hp}{h':Hh}{fl:Fl}{aq:Fr}{Q:Ends}(q:Fin K m r H h' fl aq Q) (f:Fm K r r' H H'):Fin K m r' H' h' fl aq Q:=by
 cases fl with
 | nx=>exact fun s2 H2 r2 a b g=>q s2 H2 r2 a b (f.trans g)
 | bk=>exact fun s2 H2 r2 a b g=>q s2 H2 r2 a b (f.trans g)
 | ct=>exact fun s2 H2 r2 a b g=>q s2 H2 r2 a b (f.trans g)
 | ret d=>exact Res.later q f
inductive PZ (K:PySem.W.Frag) (m:List Nat) (P:aU) (w:Nat) (st:S) (Q:Ends) (s:L2.St) (H:Hp):Prop
 | mk (r:List Addr) (fr:Fr) (h:Hh) (fl:Fl) (aq:Fr) (h':Hh) (c0:SR K m H r fr s) (c1:HR K H r h) (c2:Ev.ex P w st fr h=.ok (fl,aq) h') (c3:Fin K m r H h' fl aq Q):PZ K m P w st Q s H
inductive Cc (K:PySem.W.Frag) (m:List Nat) (P:aU) (w:Nat) (ss:Ss) (Q:Ends) (s:L2.St) (H:Hp):Prop
 | mk (r:List Addr) (fr:Fr) (h:Hh) (fl:Fl) (aq:Fr) (h':Hh) (c0:SR K m H r fr s) (c1:HR K H r h) (c2:Ev.exs P w ss fr h=.ok (fl,aq) h') (c3:Fin K m r H h' fl aq Q):Cc K m P w ss Q s H
theorem PS.of {X:Cx}{st:Stmt}{t t':TS}(h:PS X st t) (w:∀ Q s H,t' Q s H→t Q s H):PS X st t':=fun pins s σ H Q I q=>h pins s σ H Q I (w _ _ _ q)
theorem iJ.of {X:Cx}{st:List Stmt}{t t':TS}(h:iJ X st t) (w:∀ Q s H,t' Q s H→t Q s H):iJ X st t':=fun pins s σ H Q I q=>h pins s σ H Q I (w _ _ _ q)
section
variable (G:Tb)(n:Nat)(sc:Scope)(N:List Str)(df:Bool)(m:List Nat)
noncomputable def JS (st:S) (x:Stmt):Prop:=∀ X,Good G n sc N df X→PS X x (PZ X.K m (Ev.run G.F G.w n) G.w st)
noncomputable def eN (ss:Ss) (xs:List Stmt):Prop:=∀ X,Good G n sc N df X→iJ X xs (Cc X.K m (Ev.run G.F G.w n) G.w ss)
end
section
variable {G:Tb}{n:Nat}{sc:Scope}{N:List Str}{df:Bool}{m:List Nat}{a b c:E}{xa xb xc tg:Expr}{pos:Pos}
theorem az:eN G n sc N df m .nil []:=fun X g=>iJ.of Gg fun Q s H q=>by
 obtain ⟨r,fr,h,fl,aq,h',sr,hr,e,q⟩:=q
 simp only [Ev.exs] at e
 cases e
 exact q s H r sr hr .refl
theorem ai {st:S}{ss:Ss}{x:Stmt}{xs:List Stmt}(h1:JS G n sc N df m st x) (h2:eN G n sc N df m ss xs):eN G n sc N df m (.cons st ss) (x :: xs):=fun X g=>iJ.of (BG (h1 X g) (h2 X g)) fun Q s H q=>by
 obtain ⟨r,fr,h,fl,aq,h',sr,hr,e,q⟩:=q
 simp only [Ev.exs] at e
 obtain ⟨⟨gP,af⟩,h1,e1,e⟩:=Ev.aj e
 refine ⟨r,fr,h,gP,af,h1,sr,hr,e1,?_⟩
 cases gP with
 | nx=>exact fun s1 H1 r1 zK hr1 f1=>⟨r1,af,h1,fl,aq,h',zK,hr1,e,q.later f1⟩
 | bk=>cases e;exact q
 | ct=>cases e;exact q
 | ret d=>cases e;exact q
theorem bg (j i:Nat) {x:Str}{pos':Pos}(hm:m.Nodup) (hN:N.Nodup) (ha:JE G n sc N df m a xa) (hs:∀ env:Env,swapsWith xa (some (.Name x pos')) pos.line env=pure false:=by intro _;rfl) (hj:m[j]?=some i:=by rfl) (q9:N[j]?=some x:=by rfl)
  (hl:sc.names.lookup x=some .local∨(df=true∧sc.names.lookup x=some .cell):=by first | exact Or.inl rfl | exact Or.inr ⟨rfl,rfl⟩):JS G n sc N df m (.set i a) (.Assign [.Name x pos'] xa pos):=fun X g=>by
 obtain ⟨h1,h2⟩:=g.loc hl
 refine PS.of (zj (i:=j) (by rw [g.nm];exact hN) (by rw [g.nm];exact q9) h1 (ha X g) (hs _) h2) fun Q s H q=>?_
 obtain ⟨r,fr,h,fl,aq,h',sr,hr,e,q⟩:=q
 simp only [Ev.ex] at e
 obtain ⟨d,h1,e1,e⟩:=Ev.aj e
 cases e
 exact ⟨r,fr,h,d,_,sr,hr,e1,fun v H1 r1 v1 hr1 f1=>q _ H1 r1 ((sr.mono f1).set hm hj v1) hr1 f1⟩
theorem eY (ha:JE G n sc N df m a xa) (hs:∀ env:Env,swapsWith xa none pos.line env=pure false:=by intro _;rfl):JS G n sc N df m (.exp a) (.Expr xa pos):=fun X g=>PS.of (Gh (ha X g) (hs _)) fun Q s H q=>by
 obtain ⟨r,fr,h,fl,aq,h',sr,hr,e,q⟩:=q
 simp only [Ev.ex] at e
 obtain ⟨d,h1,e1,e⟩:=Ev.aj e
 cases e
 exact ⟨r,fr,h,d,_,sr,hr,e1,fun v H1 r1 v1 hr1 f1=>q s H1 r1 (sr.mono f1) hr1 f1⟩
theorem bF (ha:JE G n sc N df m a xa):JS G n sc N df m (.ret a) (.Return (some xa) pos):=fun X g=>PS.of (Iv (ha X g)) fun Q s H q=>by
 obtain ⟨r,fr,h,fl,aq,h',sr,hr,e,q⟩:=q
 simp only [Ev.ex] at e
 obtain ⟨d,h1,e1,e⟩:=Ev.aj e
 cases e
 exact ⟨r,fr,h,d,_,sr,hr,e1,q⟩
theorem bH {ta tb:Ss}{ya yb:List Stmt}(hc:JT G n sc N df m a xa) (h1:eN G n sc N df m ta ya) (h2:eN G n sc N df m tb yb):JS G n sc N df m (.iff a ta tb) (.If xa ya yb pos):=fun X g=>PS.of (NV (hc X g) (h1 X g) (h2 X g)) fun Q s H q=>by
 obtain ⟨r,fr,h,fl,aq,h',sr,hr,e,q⟩:=q
 simp only [Ev.ex] at e
 obtain ⟨k,h3,e1,e⟩:=Ev.aj e
 refine ⟨r,fr,h,k,h3,sr,hr,e1,fun H1 r1 hr1 f1=>?_⟩
 cases k with
 | true=>exact ⟨r1,fr,h3,fl,aq,h',sr.mono f1,hr1,e,q.later f1⟩
 | false=>exact ⟨r1,fr,h3,fl,aq,h',sr.mono f1,hr1,e,q.later f1⟩
theorem Good.pass {X:Cx}(g:Good G n sc N df X):PassesOwn (model X.prog X.w) X.A X.env X.xe:=by
 rw [g.xe];exact PassesOwn.never
noncomputable def FN (K:PySem.W.Frag) (m:List Nat) (gP:Fl) (ji:Fr) (h4:Hh) (r1:List Addr) (H1:Hp) (s5:L2.St) (H5:Hp):Prop:=(gP=.nx∨gP=.ct)∧∃ r5,SR K m H5 r5 ji s5∧HR K H5 r5 h4∧Fm K r1 r5 H1 H5
section
variable {K:PySem.W.Frag}{r r1 r2:List Addr}{H H1 H2:Hp}{h4 h':Hh}{fl gP:Fl}{ji aq:Fr}{Q:Ends}
noncomputable def xV (L:R (Fl×Fr)) (p:Fl×Fr) (h1:Hh):R (Fl×Fr):=match p.1 with
 | .nx=>L
 | .ct=>L
 | .bk=>.ok (.nx,p.2) h1
 | .ret x=>.ok (.ret x,p.2) h1
theorem vO {L:R (Fl×Fr)}(e:xV L (gP,ji) h4=.ok (fl,aq) h') (z:gP=.nx∨gP=.ct):L=.ok (fl,aq) h':=by rcases z with rfl | rfl <;> exact e
theorem tL {L:R (Fl×Fr)}(e:xV L (gP,ji) h4=.ok (fl,aq) h') (q:Fin K m r H h' fl aq Q) (f:Fm K r r1 H H1) (f2:Fm K r1 r2 H1 H2):Fin K m r2 H2 h4 gP ji { Q with nx:=FN K m gP ji h4 r1 H1,ct:=FN K m gP ji h4 r1 H1,bk:=Q.nx }:=by
 cases gP with
 | nx=>exact fun s6 H6 r6 zL zM f6=>⟨.inl rfl,r6,zL,zM,f2.trans f6⟩
 | ct=>exact fun s6 H6 r6 zL zM f6=>⟨.inr rfl,r6,zL,zM,f2.trans f6⟩
 | bk=>
  cases e
  exact fun s6 H6 r6 zL zM f6=>q s6 H6 r6 zL zM ((f.trans f2).trans f6)
 | ret d=>
  cases e
  exact Res.later q (f.trans f2)
noncomputable def tM (P:aU) (w:Nat) (t:T) (tb:Ss):D→Fr→Hh→R (Fl×Fr):=fun d aB h2=>match Ev.cB t d aB with
 | some cN=>Ev.exs P w tb cN h2
 | none=>.bad
theorem tN (P:aU) (w:Nat) (t:T) (it:Ev.It) (tb:Ss) (fr:Fr) (h:Hh):Ev.ex P w (.for t it tb) fr h=(Ev.cM P it fr h).bind fun s h1=>Ev.forL (tM P w t tb) s.2 s.1 fr h1:=by simp only [Ev.ex];rfl
theorem ri (f:D→Fr→Hh→R (Fl×Fr)) (ck:List (Nat×List D)) (d:D) (ds:List D) (fr:Fr) (h:Hh):Ev.forL f ck (d :: ds) fr h=if Ev.stays h ck then (f d fr h).bind fun p h1=>xV (Ev.forL f ck ds p.2 h1) p h1 else .bad:=rfl
noncomputable def FW (K:PySem.W.Frag) (m:List Nat) (f:D→Fr→Hh→R (Fl×Fr)) (src:Src) (r1:List Addr) (H1:Hp) (o:Fl×Fr) (h':Hh) (i k:Nat) (s3:L2.St) (H3:Hp):Prop:=
 k=src.1.length - i∧i≤src.1.length∧∃ r3 cN h3,SR K m H3 r3 cN s3∧HR K H3 r3 h3∧Fm K r1 r3 H1 H3∧Ev.forL f src.2 (src.1.drop i) cN h3=.ok o h'
theorem Cd {P:aU}{w:Nat}{t:T}{tb:Ss}{src:Src}{J:L2.It}{i k:Nat}{s3:L2.St}{H3:Hp}(hJ:ow K r1 H1 src J) (q:Fin K m r H h' fl aq Q) (f1:Fm K r r1 H H1) (hW:FW K m (tM P w t tb) src r1 H1 (fl,aq) h' i k s3 H3) :
  (J.stop i H3∧Q.nx s3 H3)∨(J.go i H3∧∃ N:L2.St→Hp→Prop,(∀ σ' H',N σ' H'→∃ m',m'<k∧FW K m (tM P w t tb) src r1 H1 (fl,aq) h' (i+1) m' σ' H')∧∀ x H',J.Ek i H3 x H'→gJ K m t x s3 H' fun σ2 H2=>Cc K m P w tb { Q with nx:=N,ct:=N,bk:=Q.nx } σ2 H2):=by
 obtain ⟨rfl,hle,r3,cN,h3,vP,o6,f3,e3⟩:=hW
 rcases Nat.lt_or_ge i src.1.length with hlt | hge
 ·rw [List.drop_eq_getElem_cons hlt,ri] at e3
  split at e3
  ·rename_i hst
   obtain ⟨g1,g2⟩:=(hJ i H3 r3 h3 o6 f3 hst).1 src.1[i] (List.getElem?_eq_getElem hlt)
   obtain ⟨⟨gP,ji⟩,h4,e4,e3⟩:=Ev.aj e3
   unfold tM at e4
   split at e4
   ·rename_i qQ e5
    exact .inr ⟨g1,FN K m gP ji h4 r1 H1,fun s5 H5 ⟨hfl,r5,zN,rj,f5⟩=>⟨_,Nat.sub_lt_sub_left hlt (Nat.lt_succ_self i),rfl,hlt,r5,ji,h4,zN,rj,f5,vO e3 hfl⟩,fun x H4 y=>
     let ⟨r4,v4,P0,f4⟩:=g2 x H4 y
     ⟨r4,cN,h3,_,qQ,vP.mono f4,P0,v4,e5,fun s5 zN=>⟨r4,qQ,h3,gP,ji,h4,zN,P0,e4,tL e3 q f1 (f3.trans f4)⟩⟩⟩
   ·cases e4
  ·cases e3
 ·have hi:i=src.1.length:=Nat.le_antisymm hle hge
  subst hi
  rw [List.drop_length] at e3
  unfold Ev.forL at e3
  split at e3
  ·rename_i hst
   cases e3
   exact .inl ⟨(hJ _ H3 r3 _ o6 f3 hst).2 (Nat.le_refl _),q s3 H3 r3 vP o6 (f1.trans f3)⟩
  ·cases e3
end
theorem zO (t:Fr→Hh→R Bool) (f:Fr→Hh→R (Fl×Fr)) (n:Nat) (fr:Fr) (h:Hh):Ev.ee t f (n+1) fr h=(t fr h).bind fun b h1=>if b then (f fr h1).bind fun p h2=>xV (Ev.ee t f n p.2 h2) p h2 else .ok (.nx,fr) h1:=rfl
noncomputable def WW (K:PySem.W.Frag) (m:List Nat) (P:aU) (w:Nat) (a:E) (tb:Ss) (r:List Addr) (H:Hp) (o:Fl×Fr) (h':Hh) (k:Nat) (s1:L2.St) (H1:Hp):Prop:=
 ∃ r1 af h1,SR K m H1 r1 af s1∧HR K H1 r1 h1∧Fm K r r1 H H1∧Ev.ee (fun aB h2=>Ev.aK P a aB h2) (fun aB h2=>Ev.exs P w tb aB h2) k af h1=.ok o h'
theorem Jr {tb:Ss}{yb:List Stmt}(hc:JT G n sc N df m a xa) (h1:eN G n sc N df m tb yb):JS G n sc N df m (.qY a tb) (.While xa yb [] pos):=fun X g=>PS.of (BK g.pass (hc X g) (h1 X g)) fun Q s H q=>by
 obtain ⟨r,fr,h,fl,aq,h',sr,hr,e,q⟩:=q
 simp only [Ev.ex] at e
 refine ⟨WW X.K m (Ev.run G.F G.w n) G.w a tb r H (fl,aq) h',⟨_,r,fr,h,sr,hr,.refl,e⟩,fun k s1 H1 hW=>?_⟩
 obtain ⟨r1,af,h1,zK,hr1,f1,e1⟩:=hW
 cases k with
 | zero=>cases e1
 | succ k=>
  rw [zO] at e1
  obtain ⟨bb,h2,e2,e1⟩:=Ev.aj e1
  refine ⟨r1,af,h1,bb,h2,zK,hr1,e2,fun H2 r2 hr2 f2=>?_⟩
  cases bb with
  | false=>
   cases e1
   exact q s1 H2 r2 (zK.mono f2) hr2 (f1.trans f2)
  | true=>
   rw [if_pos rfl] at e1
   obtain ⟨⟨gP,aB⟩,h3,e3,e1⟩:=Ev.aj e1
   exact ⟨FN X.K m gP aB h3 r H,fun s3 H3 ⟨hfl,r3,vP,o6,f3⟩=>⟨k,Nat.lt_succ_self k,r3,aB,h3,vP,o6,f3,vO e1 hfl⟩,r2,af,h2,gP,aB,h3,zK.mono f2,hr2,e3,tL e1 q .refl (f1.trans f2)⟩
theorem iy {t:T}{it:Ev.It}{tb:Ss}{yb:List Stmt}(hi:JI G n sc N df m it tg xa) (hg:JG G n sc N df m t tg) (h1:eN G n sc N df m tb yb) (hs:∀ (env:Env) x,foldedSetIterable xa env x=pure x:=by intro _ _;rfl) :
  JS G n sc N df m (.for t it tb) (.For tg xa yb [] pos):=fun X g=>PS.of (IB g.pass g.calm (hi X g) (hg X g) (h1 X g) (hs _)) fun Q s H q=>by
 obtain ⟨r,fr,h,fl,aq,h',sr,hr,e,q⟩:=q
 rw [tN] at e
 obtain ⟨src,h2,e1,e⟩:=Ev.aj e
 exact ⟨r,fr,h,src,h2,sr,hr,e1,fun J H1 r1 hr1 f1 hJ=>⟨FW X.K m (tM (Ev.run G.F G.w n) G.w t tb) src r1 H1 (fl,aq) h',⟨src.1.length,rfl,Nat.zero_le _,r1,fr,h2,sr.mono f1,hr1,.refl,by rw [List.drop_zero];exact e⟩,fun i k s3 H3 hW=>Cd hJ q f1 hW⟩⟩
end
theorem getElem?_range' {k j i:Nat}(h:(List.range k)[j]?=some i):i=j:=by
 obtain ⟨h1,h2⟩:=List.getElem?_eq_some_iff.mp h
 simpa using h2.symm
theorem Ce {K:PySem.W.Frag}{H:Hp}{r:List Addr}{ds:List D}{vs:List V}{N:List Str}{fn:Ev.Fn}(v1:aJ K H r ds vs) (hN:vs.length≤N.length):SR K (List.range N.length) H r (Ev.fE fn ds) (L2.start N vs):=by
 refine ⟨by unfold L2.start;simp;omega,fun j i d e1 e2=>?_⟩
 have e3:=getElem?_range' e1
 subst e3
 unfold Ev.fE at e2
 by_cases hj:i<ds.length
 ·rw [List.getElem?_append_left (by simpa using hj),List.getElem?_map] at e2
  cases e4:ds[i]? with
  | none=>rw [e4] at e2;cases e2
  | some d'=>
   rw [e4] at e2
   cases e2
   obtain ⟨v,q1,q2⟩:=v1.get e4
   refine ⟨v,?_,q2⟩
   unfold L2.start
   rw [List.getElem?_append_left (by have:=v1.length;simpa using (by omega:i<vs.length)),List.getElem?_map,q1]
   rfl
 ·rw [List.getElem?_append_right (by simpa using Nat.not_lt.mp hj),List.getElem?_replicate] at e2
  split at e2 <;> cases e2
section
variable {P:Program}{w:World}{K:PySem.W.Frag}{mg:Str→Option Value}{base:Heap}{G:Tb}
noncomputable def se (P:Program) (w:World) (K:PySem.W.Frag) (mg:Str→Option Value) (base:Heap) (G:Tb) (n:Nat):Prop:=∀ (f:Nat) i,G.fi[f]?=some i→iM P w K mg base mj n i.addr i.fd i.ps (nK K G.F G.w n f)
structure Top (P:Program) (w:World) (K:PySem.W.Frag) (mg:Str→Option Value) (G:Tb):Prop where
 fn:∀ (f:Nat) i,G.fi[f]?=some i→mg i.name=some (.ref i.addr)∧PySem.W.keepIn K (.ref i.addr)=true∧Binds K i.fd i.ps []
 bl:∀ x∈G.bl,mg x=none
 cs:∀ x d,(x,d)∈G.cs→∃ v u,mg x=some u∧RelV v u∧tG d v
 dk:∀ x kvs,(x,kvs)∈G.dk→∃ a,mg x=some (.ref a)∧∀ h:Heap,K.In h→StrTab P w h a (tabOf kvs)
theorem GD {f:Addr}{fd:FuncData}{ps:List Str}{k:Nat}:iM P w K mg base mj 0 f fd ps (nK K G.F G.w 0 k):=by
 have no:∀ vs H Q E,¬ nK K G.F G.w 0 k vs H Q E:=fun vs H Q E h=>by
  obtain ⟨r,h,ds,d,h',_,_,e,_⟩:=h
  cases e
 exact ⟨fun vs H Q E h=>absurd h (no vs H Q E),fun A outer s H args us vs Q E _ _ _ _ h=>absurd h (no vs H Q E)⟩
theorem dF {x qual:Str}{st:Stmt}{i:FI}{N:List Str}{n f:Nat}{fn:Ev.Fn}(T:Top P w K mg G) (A0:se P w K mg base G n) (F:tD K x qual st i.addr i.fd) (S:bS N i.ps (av st)) (hf:G.F[f]?=some fn) (hp:i.ps.length=fn.np)
  (hb:eN G n (av st) N true (List.range N.length) fn.body (aE st)):iM P w K mg base mj (n+1) i.addr i.fd i.ps (nK K G.F G.w (n+1) f):=by
 have hlen:∀ vs H Q E,nK K G.F G.w (n+1) f vs H Q E→vs.length=i.ps.length:=fun vs H Q E h=>by
  obtain ⟨r,h,ds,d,h',v1,_,e,_⟩:=h
  simp only [Ev.run,hf] at e
  split at e
  ·rename_i z
   rw [v1.length,z,hp]
  ·cases e
 refine F.ok S hlen fun cdv A outer s H vs Q E hr kr=>?_
 have hl:=hlen vs H Q E kr
 have hN:vs.length≤N.length:=by
  have:=congrArg List.length S.pre
  rw [List.length_take] at this
  omega
 have g:Good G n (av st) N true (oh mj P w K mg base N qual (av st) i.addr cdv A outer s H E).qO:=
  ⟨rfl,rfl,rfl,fun _ _=>rfl,hr,rfl,fun f i hi=>⟨(T.fn f i hi).1,(T.fn f i hi).2.1,(T.fn f i hi).2.2,A0 f i hi⟩,T.bl,T.cs,T.dk⟩
 refine ⟨_,hb _ g,?_⟩
 obtain ⟨r,h,ds,d,h',v1,hr1,e,q⟩:=kr
 simp only [Ev.run,hf] at e
 split at e
 ·unfold Ev.endOf at e
  obtain ⟨⟨fl,aq⟩,h2,e1,e⟩:=Ev.aj e
  refine ⟨r,Ev.fE fn ds,h,fl,aq,h2,Ce v1 hN,hr1,e1,?_⟩
  cases fl with
  | nx=>
   cases e
   exact fun s' H' r' _ hr' f'=>q _ H' r' rfl hr' f'
  | ret d'=>
   cases e
   exact q
  | bk=>cases e
  | ct=>cases e
 ·cases e
end
end Sm
set_option maxRecDepth 100000
namespace Sm
open PySem PySem.Spec PyProof.Rows L2
open Ev (D O Hh Fr R aU E Es Eo T S Ss Fl Src cF bY TY BI ME)
theorem qo (env:Env):∀ (names:List (Str×NameKind)) (acc:List (Str×Addr)),(∀ x,(x,NameKind.free)∈names→∃ c,env.cells.lookup x=some c)→(∀ x c,acc.lookup x=some c→env.cells.lookup x=some c)→
  ∃ cl,(forIn names acc (fun (x:Str×NameKind) cs=>if (x.2==NameKind.free)=true then (do let c ←cellOf env x.1;pure (ForInStep.yield ((x.1,c) :: cs))) else pure (ForInStep.yield cs)):Sem (List (Str×Addr)))=pure cl∧
   (∀ x c,cl.lookup x=some c→env.cells.lookup x=some c)∧(∀ x,(x,NameKind.free)∈names→(cl.lookup x).isSome=true)∧(∀ x,(acc.lookup x).isSome=true→(cl.lookup x).isSome=true)
 | [],acc,_,h2=>⟨acc,rfl,h2,(fun x h=>by simp at h),fun _ h=>h⟩
 | (y,k) :: r,acc,h1,h2=>by
  by_cases hk:k=.free
  ·subst hk
   obtain ⟨c,hc⟩:=h1 y (List.mem_cons_self ..)
   have h2':∀ x c',((y,c) :: acc).lookup x=some c'→env.cells.lookup x=some c':=fun x c' e=>by
    rw [List.lookup_cons] at e
    split at e
    ·rename_i hx
     have hx':x=y:=by simpa using hx
     cases e;rw [hx'];exact hc
    ·exact h2 x c' e
   obtain ⟨cl,e1,e2,e3,e4⟩:=qo env r ((y,c) :: acc) (fun x hx=>h1 x (List.mem_cons_of_mem _ hx)) h2'
   refine ⟨cl,?_,e2,fun x hx=>?_,fun x hx=>e4 x ?_⟩
   ·rw [List.forIn_cons]
    simp only [beq_self_eq_true,if_true]
    unfold cellOf
    rw [hc]
    exact e1
   ·rcases List.mem_cons.mp hx with z | z
    ·cases z
     exact e4 y (by simp [List.lookup_cons])
    ·exact e3 x z
   ·rw [List.lookup_cons]
    split
    ·rfl
    ·exact hx
  ·have hk':(k==NameKind.free)=false:=by simpa using hk
   obtain ⟨cl,e1,e2,e3,e4⟩:=qo env r acc (fun x hx=>h1 x (List.mem_cons_of_mem _ hx)) h2
   refine ⟨cl,?_,e2,fun x hx=>?_,e4⟩
   ·rw [List.forIn_cons]
    simp only [hk',Bool.false_eq_true,if_false]
    exact e1
   ·rcases List.mem_cons.mp hx with z | z
    ·cases z;exact absurd rfl hk
    ·exact e3 x z
theorem GF {scope:Scope}{env:Env}(h:∀ x,(x,NameKind.free)∈scope.names→∃ c,env.cells.lookup x=some c) :
  ∃ cl,closureFor scope env=pure cl∧(∀ x c,cl.lookup x=some c→env.cells.lookup x=some c)∧∀ x,(x,NameKind.free)∈scope.names→∃ c,cl.lookup x=some c:=by
 obtain ⟨cl,e1,e2,e3,_⟩:=qo env scope.names [] h (fun x c e=>by simp at e)
 refine ⟨cl,?_,e2,fun x hx=>Option.isSome_iff_exists.mp (e3 x hx)⟩
 unfold closureFor
 show (forIn scope.names [] _ >>= fun cs=>pure cs:Sem (List (Str×Addr)))=pure cl
 have e:(forIn scope.names [] (fun (x:Str×NameKind) cs=>if (x.2==NameKind.free)=true then (do let c ←cellOf env x.1;pure (ForInStep.yield ((x.1,c) :: cs))) else pure (ForInStep.yield cs)):Sem (List (Str×Addr)))=pure cl:=e1
 exact congrArg (fun t:Sem (List (Str×Addr))=>t >>= fun cs=>pure cs) e
noncomputable def iz (sc scope:Scope):Scope:={ scope with names:=scope.names.map fun (n,k)=>if (k==.free&&sc.kind==.function&&sc.names.lookup n==some .cell) then (n,.cell) else (n,k)}
theorem qp {env:Env}{sc scope:Scope}(h:env.scope=sc):relabel scope env=iz sc scope:=by
 subst h;rfl
theorem rm {sc:Scope}:∀ {names:List (Str×NameKind)}{x:Str},(∀ y∈names,y.2≠.cell)→
  ((names.map fun (n,k)=>if (k==NameKind.free&&sc.kind==.function&&sc.names.lookup n==some .cell) then (n,NameKind.cell) else (n,k)).lookup x=some .cell∨
   (names.map fun (n,k)=>if (k==NameKind.free&&sc.kind==.function&&sc.names.lookup n==some .cell) then (n,NameKind.cell) else (n,k)).lookup x=some .free)→(x,NameKind.free)∈names
 | [],_,_,h=>by rcases h with h | h <;> simp at h
 | (n,k) :: r,x,hc,h=>by
  have ih:=@rm sc r x fun y hy=>hc y (List.mem_cons_of_mem _ hy)
  simp only [List.map_cons] at h
  have nk:∀ (k':NameKind),(if (k==NameKind.free&&sc.kind==.function&&sc.names.lookup n==some .cell) then (n,NameKind.cell) else (n,k))=(n,k')→k'=.cell∨k'=.free→k=.free:=fun k' e hk'=>by
   split at e
   ·rename_i z
    simp only [Bool.and_eq_true,beq_iff_eq] at z
    exact z.1.1
   ·cases e
    rcases hk' with z | z
    ·exact absurd z (hc (n,_) (List.mem_cons_self ..))
    ·exact z
  generalize hg:(if (k==NameKind.free&&sc.kind==.function&&sc.names.lookup n==some .cell) then (n,NameKind.cell) else (n,k))=p at h nk
  have hp:p.1=n:=by rw [←hg];split <;> rfl
  obtain ⟨p1,p2⟩:=p
  simp only at hp
  subst hp
  simp only [List.lookup_cons] at h
  cases hx:(x==p1) with
  | true=>
   have hx':x=p1:=by simpa using hx
   rw [hx] at h
   have:=nk p2 rfl (by rcases h with h | h <;> simp at h <;> simp [h])
   subst this
   rw [hx']
   exact List.mem_cons_self ..
  | false=>
   rw [hx] at h
   exact List.mem_cons_of_mem _ (ih h)
section
variable {prog:Program}{w:World}{A:Around}{R':Result→Shared→Prop}{s:Shared}
abbrev gy:Value→Shared→Prop:=fun _ _=>False
noncomputable def vQ (ifs:List Expr) (env:Env):Sem Bool:=forIn ifs true fun c r=>if r=true then do let ok ←isTrue c env (eval c env);pure (ForInStep.yield ok) else pure (ForInStep.yield r)
theorem tO {elt target iter:Expr}{ifs:List Expr}{scope:Scope}{pos:Pos}{it acc:Value}{env:Env}(I:Nat→Shared→Prop)
  (turn:∀ n s,I n s→wpAny (model prog w) A (pyNext it) (fun r s₁=>match r with
   | none=>R' (.ok .next) s₁
   | some v=>wpAny (model prog w) A (letOwnedTupleGo target it v) (fun _ s₂=>wpAny (model prog w) A (assign target env v) (fun _ s₃=>
     wpAny (model prog w) A (vQ ifs env) (fun ok s₄=>
      if ok=true then wpAny (model prog w) A (eval elt env) (fun x s₅=>
       wpAny (model prog w) A (call (.builtin "list.append") [acc,x]) (fun _ s₆=>∃ m,m<n∧I m s₆) gy s₅) gy s₄
      else ∃ m,m<n∧I m s₄) gy s₃) gy s₂) gy s₁) gy s)
  (n:Nat) (h:I n s):codeAny (model prog w) A (.compLoop (.ListComp elt [⟨target,iter,ifs,0⟩] scope pos) 0 it acc env) R' s:=by
 refine codeAny_loop rfl I (fun n s hI=>?_) n h
 show wpAny _ A ((compTurn (.ListComp elt [⟨target,iter,ifs,0⟩] scope pos) 0 it acc env).onRaise (fun x=>do noteFrame x env;theTreesLotGoes x)) _ _ s
 refine wpAny_noted ?_
 rw [compTurn_list]
 refine wpAny_bind (wpAny_standAt (wpAny_bind (wpAny_mono (turn n s hI) (fun r s₁ h₁=>?_) fun _ _ h'=>h'.elim)))
 cases r with
 | none=>exact wpAny_pure h₁
 | some v=>
  refine wpAny_bind (wpAny_mono h₁ (fun _ s₂ h₂=>?_) fun _ _ h'=>h'.elim)
  refine wpAny_bind (wpAny_mono h₂ (fun _ s₃ h₃=>wpAny_bind (wpAny_mono h₃ (fun ok s₄ h₄=>?_) fun _ _ h'=>h'.elim)) fun _ _ h'=>h'.elim)
  cases ok with
  | false=>exact wpAny_pure ⟨rfl,h₄⟩
  | true=>
   exact wpAny_bind (wpAny_bind (wpAny_mono h₄ (fun x s₅ h₅=>wpAny_bind (wpAny_mono h₅ (fun _ s₆ h₆=>wpAny_pure (wpAny_pure ⟨rfl,h₆⟩)) fun _ _ h'=>h'.elim)) fun _ _ h'=>h'.elim))
end
inductive P1 (K:PySem.W.Frag) (m:List Nat) (P:aU) (e:Eo) (s:L2.St) (H:Hp) (Q:Bool→Hp→Prop):Prop
 | mk (r:List Addr) (fr:Fr) (h:Hh) (k:Bool) (h':Hh) (c0:SR K m H r fr s) (c1:HR K H r h) (c2:Ev.gZ P e fr h=.ok k h') (c3:∀ H' r',HR K H' r' h'→Fm K r r' H H'→Q k H'):P1 K m P e s H Q
noncomputable def JC (G:Tb) (n:Nat) (sc:Scope) (N:List Str) (df:Bool) (m:List Nat) (e:Eo) (ifs:List Expr):Prop:=∀ X,Good G n sc N df X→∀ (pins:List (Addr×Obj)) (s:Shared) (σ:L2.St) (H:Hp) (Q:Bool→Hp→Prop),Inv X pins σ H s→
 P1 X.K m (Ev.run G.F G.w n) e σ H Q→wpAny (model X.prog X.w) X.A (vQ ifs X.env) (TP X pins σ Q) X.xe s
section
variable {G:Tb}{n:Nat}{sc:Scope}{N:List Str}{df:Bool}{m:List Nat}{a b c:E}{xa xb xc tg:Expr}{pos:Pos}
theorem sj:JC G n sc N df m .no []:=fun X g pins s σ H Q I q=>by
 obtain ⟨r,fr,h,k,h',sr,hr,e,q⟩:=q
 simp only [Ev.gZ] at e
 cases e
 exact wpAny_pure ⟨H,I,q H r hr .refl⟩
theorem tP (hc:JT G n sc N df m a xa):JC G n sc N df m (.yes a) [xa]:=fun X g pins s σ H Q I q=>by
 obtain ⟨r,fr,h,k,h',sr,hr,e,q⟩:=q
 simp only [Ev.gZ] at e
 exact wpAny_tests_one (hc X g pins s σ H Q I ⟨r,fr,h,k,h',sr,hr,e,q⟩)
end
noncomputable def o7 (X:Cx) (N':List Str) (scope:Scope) (cl:List (Str×Addr)) (C:Addr) (s3:Shared) (H3:Hp) (fp:List Addr):Cx:=
 { X with N:=N',s₀:=s3,H₀:=H3,env:=compEnvC scope cl C X.env,outer:=X.stack,stack:=X.stack,ex:=fp,fn:=fun _=>false,pn:=[],xe:=fun _ _=>False }
noncomputable def namesOk (sc:Scope) (N:List Str) (m:List Nat) (scope:Scope) (t:T) (N':List Str) (m':List Nat):Prop:=m'.length=N'.length∧
 ∀ (j:Nat) x i,N'[j]?=some x→m'[j]?=some i→i∈Ev.slots t∨((x,NameKind.free)∈scope.names∧∃ jo:Nat,N[jo]?=some x∧m[jo]?=some i)
noncomputable def zP (sc:Scope) (N:List Str) (m:List Nat) (scope:Scope) (t:T) (N':List Str) (m':List Nat):Bool:=m'.length==N'.length&&
 (List.range N'.length).all fun j=>match N'[j]?,m'[j]? with
  | some x,some i=>(Ev.slots t).contains i || (scope.names.contains (x,NameKind.free)&&(List.range N.length).any fun jo=>N[jo]?==some x&&m[jo]?==some i)
  | _,_=>true
theorem namesOk.of {sc:Scope}{N:List Str}{m:List Nat}{scope:Scope}{t:T}{N':List Str}{m':List Nat}(h:zP sc N m scope t N' m'=true):namesOk sc N m scope t N' m':=by
 unfold zP at h
 rw [Bool.and_eq_true] at h
 refine ⟨by simpa using h.1,fun j x i e1 e2=>?_⟩
 have hj:j<N'.length:=(List.getElem?_eq_some_iff.mp e1).1
 have q:=List.all_eq_true.mp h.2 j (List.mem_range.mpr hj)
 rw [e1,e2] at q
 simp only [Bool.or_eq_true,Bool.and_eq_true,List.any_eq_true] at q
 rcases q with q | ⟨q1,jo,_,q2⟩
 ·exact .inl (by simpa using q)
 ·exact .inr ⟨by simpa using q1,jo,by simpa using q2.1,by simpa using q2.2⟩
theorem vg {t:T}{d:D}{fr aB:Fr}(e:Ev.cB t d fr=some aB) {i:Nat}(hi:i∉Ev.slots t):aB[i]?=fr[i]?:=by
 have go:∀ (l:List Nat) (ds:List D) (fr aB:Fr),Ev.cP l ds fr=some aB→i∉l→aB[i]?=fr[i]?:=by
  intro l
  induction l with
  | nil=>
   intro ds fr aB e _
   cases ds with
   | nil=>cases e;rfl
   | cons _ _=>cases e
  | cons j l ih=>
   intro ds fr aB e hj
   cases ds with
   | nil=>cases e
   | cons d ds=>
    rw [ih ds _ _ e fun z=>hj (List.mem_cons_of_mem _ z),List.getElem?_set_ne]
    intro z
    exact hj (by rw [z];exact List.mem_cons_self ..)
 cases t with
 | one j=>
  cases e
  rw [List.getElem?_set_ne]
  intro z
  exact hi (by simp [Ev.slots,z])
 | many l=>
  cases d with
  | tup ds=>exact go l ds fr aB e hi
  | _=>cases e
theorem SR.unbind {K:PySem.W.Frag}{m:List Nat}{H:Hp}{r:List Addr}{t:T}{d:D}{fr aB:Fr}{s:L2.St}(sr:SR K m H r aB s) (e:Ev.cB t d fr=some aB) (hu:Ev.undef t fr=true):SR K m H r fr s:=by
 refine ⟨sr.len,fun j i d' e1 e2=>sr.sl j i d' e1 ?_⟩
 rw [vg e]
 ·exact e2
 ·intro hi
  have q:=List.all_eq_true.mp hu i hi
  rw [e2] at q
  cases q
end Sm
set_option maxRecDepth 100000
namespace Sm
open PySem PySem.Spec PyProof.Rows L2
open Ev (D O Hh Fr R aU E Es Eo T S Ss Fl Src cF bY TY BI ME)
structure gI (sc scope:Scope):Prop where
 kind:scope.kind=.function
 zQ:∀ y∈scope.names,y.2≠.cell
 free:∀ x,(x,NameKind.free)∈scope.names→(sc.names.lookup x=some .cell∨sc.names.lookup x=some .free)∧scope.names.lookup x=some .free
 loc:∀ y∈scope.names,y.2=.local→scope.names.lookup y.1=some .local
noncomputable def P4 (sc scope:Scope):Bool:=scope.kind==.function&&scope.names.all fun y=>y.2 != .cell&&(y.2 != .free || ((sc.names.lookup y.1==some .cell || sc.names.lookup y.1==some .free)&&scope.names.lookup y.1==some .free))&&(y.2 != .local || scope.names.lookup y.1==some .local)
theorem gI.of {sc scope:Scope}(h:P4 sc scope=true):gI sc scope:=by
 unfold P4 at h
 rw [Bool.and_eq_true] at h
 have q:∀ y∈scope.names,y.2≠.cell∧(y.2=.free→(sc.names.lookup y.1=some .cell∨sc.names.lookup y.1=some .free)∧scope.names.lookup y.1=some .free)∧(y.2=.local→scope.names.lookup y.1=some .local):=fun y hy=>by
  have z:=List.all_eq_true.mp h.2 y hy
  simp only [Bool.and_eq_true,Bool.or_eq_true,bne_iff_ne,beq_iff_eq,ne_eq] at z
  refine ⟨z.1.1,fun e=>?_,fun e=>?_⟩
  ·rcases z.1.2 with w | w
   ·exact absurd e w
   ·exact w
  ·rcases z.2 with w | w
   ·exact absurd e w
   ·exact w
 exact ⟨by simpa using h.1,fun y hy=>(q y hy).1,fun x hx=>(q _ hx).2.1 rfl,fun y hy=>(q y hy).2.2⟩
theorem rq {sc:Scope}:∀ {names:List (Str×NameKind)}{x:Str},names.lookup x=some .free→
  ((names.map fun (n,k)=>if (k==NameKind.free&&sc.kind==.function&&sc.names.lookup n==some .cell) then (n,NameKind.cell) else (n,k)).lookup x=some .cell∨
   (names.map fun (n,k)=>if (k==NameKind.free&&sc.kind==.function&&sc.names.lookup n==some .cell) then (n,NameKind.cell) else (n,k)).lookup x=some .free)
 | [],_,h=>by simp at h
 | (n,k) :: r,x,h=>by
  have ih:=@rq sc r x
  simp only [List.map_cons]
  simp only [List.lookup_cons] at h
  by_cases hc:(k==NameKind.free&&sc.kind==.function&&sc.names.lookup n==some .cell)=true
  ·rw [if_pos hc]
   simp only [List.lookup_cons]
   cases hx:(x==n) with
   | true=>exact .inl rfl
   | false=>rw [hx] at h;exact ih h
  ·rw [if_neg hc]
   simp only [List.lookup_cons]
   cases hx:(x==n) with
   | true=>rw [hx] at h;exact .inr h
   | false=>rw [hx] at h;exact ih h
section
variable {G:Tb}{n:Nat}{sc scope:Scope}{N N':List Str}{df:Bool}{m m':List Nat}{elt:E}{t:T}{it:Ev.It}{cond:Eo}{xe xi tg:Expr}{ifs:List Expr}{pos:Pos}{X:Cx}
theorem Good.comp (g:Good G n sc N df X) {cl:List (Str×Addr)}{C:Addr}{s3:Shared}{H3:Hp}{fp:List Addr}:Good G n (iz sc scope) N' false (o7 X N' scope cl C s3 H3 fp):=
 ⟨rfl,qp g.sc,g.calm,(fun h=>by cases h),g.room,rfl,g.fn,g.bl,g.cs,g.dk⟩
theorem GG {pins:List (Addr×Obj)}{σ:L2.St}{H3:Hp}{s3:Shared}(g:Good G n sc N df X) (I:Inv X pins σ H3 s3) (hs:gI sc scope) {cl:List (Str×Addr)}(iA:∀ x c,cl.lookup x=some c→X.env.cells.lookup x=some c)
  (kg:∀ x,(x,NameKind.free)∈scope.names→∃ c,cl.lookup x=some c) {fp:List Addr} (hfp:∀ b∈fp,gp X pins H3 b) (hfl:∀ b∈fp,b<s3.heap.objs.size):(o7 X N' scope cl s3.heap.objs.size s3 H3 fp).Ok where
 mod:=I.ok.mod
 kind:=hs.kind
 glob:=I.ok.glob
 blt:=I.ok.blt
 above:=Nat.le_refl _
 inj:=fun x y c h1 h2=>I.ok.inj x y c (iA x c h1) (iA y c h2)
 has:=fun x h=>by
  have h':(iz sc scope).names.lookup x=some .cell∨(iz sc scope).names.lookup x=some .free:=by
   rw [←qp (scope:=scope) g.sc];exact h
  exact kg x (rm hs.zQ h')
 vC:=fun x c h=>by cases h
 hd:=I.ok.hd
 frames:=I.ok.frames
 stk:=.inl rfl
 Ef:=fun b hb=>⟨Nat.ne_of_lt (hfl b hb),fun x c e=>(hfp b hb).2.2.2.2.1 x c (iA x c e)⟩
 bs:=I.bs
 qM:=Nat.le_trans I.ok.qM I.sz
 qf:=fun b o e hb=>by
  rcases (hfp b hb).2.2.2.1 with z | z
  ·exact I.ok.qf b o e z
  ·have:=Heap.lt_size (I.ok.bs b o e).1
   exact absurd (Nat.lt_of_lt_of_le this z) (Nat.lt_irrefl _)
 qg:=fun b hb z=>by
  rcases List.mem_cons.mp (I.sS b z) with q | q
  ·exact (hfp b hb).2.1 q
  ·exact (hfp b hb).2.2.1 q
 je:=I.stack
 sQ:=I.vD
open Classical in
noncomputable def sig (scope:Scope) (N N':List Str) (m':List Nat) (K:PySem.W.Frag) (H:Hp) (r:List Addr) (fr:Fr) (σ:L2.St):L2.St:=
 (List.range N'.length).map fun j=>if h:∃ v,∃ x i,N'[j]?=some x∧m'[j]?=some i∧(x,NameKind.free)∈scope.names∧(∃ jo:Nat,N[jo]?=some x∧σ[jo]?=some (some v))∧∀ d,fr[i]?=some (some d)→RV K H r d v then some h.choose else none
theorem Js {K:PySem.W.Frag}{H:Hp}{r:List Addr}{fr:Fr}{σ:L2.St}{j:Nat}{v:V}(h:(sig scope N N' m' K H r fr σ)[j]?=some (some v)) :
  ∃ x i,N'[j]?=some x∧m'[j]?=some i∧(x,NameKind.free)∈scope.names∧(∃ jo:Nat,N[jo]?=some x∧σ[jo]?=some (some v))∧∀ d,fr[i]?=some (some d)→RV K H r d v:=by
 unfold sig at h
 rw [List.getElem?_map] at h
 cases e:(List.range N'.length)[j]? with
 | none=>rw [e] at h;cases h
 | some j'=>
  have:=getElem?_range' e
  subst this
  rw [e] at h
  simp only [Option.map_some,Option.some.injEq] at h
  split at h
  ·rename_i hh
   cases h
   exact hh.choose_spec
  ·cases h
theorem Jt {K:PySem.W.Frag}{H:Hp}{r:List Addr}{fr:Fr}{σ:L2.St}(sr:SR K m H r fr σ) (hn:namesOk sc N m scope t N' m') (hu:Ev.undef t fr=true):SR K m' H r fr (sig scope N N' m' K H r fr σ):=by
 refine ⟨by unfold sig;simp [hn.1],fun j i d e1 e2=>?_⟩
 have hj:j<N'.length:=by rw [←hn.1];exact (List.getElem?_eq_some_iff.mp e1).1
 have hx:N'[j]?=some N'[j]:=List.getElem?_eq_getElem hj
 rcases hn.2 j _ i hx e1 with hi | ⟨h1,jo,h2,h3⟩
 ·exfalso
  have q:=List.all_eq_true.mp hu i hi
  rw [e2] at q
  cases q
 ·obtain ⟨v,h4,h5⟩:=sr.sl jo i d h3 e2
  have ex:∃ v,∃ x i,N'[j]?=some x∧m'[j]?=some i∧(x,NameKind.free)∈scope.names∧(∃ jo:Nat,N[jo]?=some x∧σ[jo]?=some (some v))∧∀ d,fr[i]?=some (some d)→RV K H r d v:=
   ⟨v,N'[j],i,hx,e1,h1,⟨jo,h2,h4⟩,fun d' e'=>by rw [e2] at e';cases e';exact h5⟩
  refine ⟨ex.choose,?_,?_⟩
  ·unfold sig
   rw [List.getElem?_map,List.getElem?_range hj]
   simp only [Option.map_some]
   rw [dif_pos ex]
  ·obtain ⟨x',i',q1,q2,q3,q4,q5⟩:=ex.choose_spec
   rw [e1] at q2;cases q2
   exact q5 d e2
theorem Cf {pins:List (Addr×Obj)}{σ:L2.St}{H3:Hp}{s3:Shared}(g:Good G n sc N df X) (I:Inv X pins σ H3 s3) (hs:gI sc scope) {cl:List (Str×Addr)}(iA:∀ x c,cl.lookup x=some c→X.env.cells.lookup x=some c)
  (kg:∀ x,(x,NameKind.free)∈scope.names→∃ c,cl.lookup x=some c) {fp:List Addr} (hfp:∀ b∈fp,gp X pins H3 b) (hfl:∀ b∈fp,b<s3.heap.objs.size) {h1:Heap} {tk:Nat} {mm:Str→Option Value}
  (hns:h1.Ns s3.heap.objs.size mm) (hk:∀ b o,s3.heap.get? b=some o→h1.get? b=some o) {r:List Addr} {fr:Fr} :
  Inv (o7 X N' scope cl s3.heap.objs.size s3 H3 fp) [] (sig scope N N' m' X.K H3 r fr σ) H3 { s3 with heap:=h1,toks:=tk }:=by
 refine ⟨GG g I hs iA kg hfp hfl,rfl,I.bare,Un.kept hk,⟨mm,hns,fun j x v e1 e2 e3=>?_⟩,fun x c e=>?_,I.hok.fresh (Nat.le_refl _),fun x c e=>I.iS x c (iA x c e),(fun p hp=>by simp [o7] at hp),I.hok.kept hk,(by unfold sig;simp [o7])⟩
 ·obtain ⟨x',i,q1,q2,q3,⟨jo,q4,q5⟩,_⟩:=Js e2
  have U9:N'[j]?=some x:=e1
  rw [U9] at q1;cases q1
  obtain ⟨f1,f2⟩:=hs.free x q3
  obtain ⟨mO,W2,Va⟩:=I.loc
  obtain ⟨u,ru,lk⟩:=Va jo x v (by rw [g.nm];exact q4) q5 (by rw [g.sc];rcases f1 with z | z <;> simp [ze,z])
  refine ⟨u,ru,?_⟩
  have hkd:X.env.kindOf x=some .cell∨X.env.kindOf x=some .free:=by unfold Env.kindOf;rw [g.sc];exact f1
  rcases lk with ⟨z,_⟩ | ⟨_,c,hc,hcell⟩
  ·rcases hkd with w | w <;> (rw [z] at w;cases w)
  ·obtain ⟨c',hc'⟩:=kg x q3
   have:c'=c:=by
    have:=iA x c' hc'
    rw [hc] at this;cases this;rfl
   subst this
   refine .inr ⟨?_,c',hc',?_⟩
   ·show (relabel scope X.env).names.lookup x=some .cell∨(relabel scope X.env).names.lookup x=some .free
    rw [qp (scope:=scope) g.sc]
    exact rq f2
   ·obtain ⟨o,ho,hd⟩:=hcell
    exact ⟨o,hk _ _ ho,hd⟩
 ·obtain ⟨v,o,ho,hd⟩:=I.cell x c (iA x c e)
  exact ⟨v,o,hk _ _ ho,hd⟩
end
end Sm
set_option maxRecDepth 100000
namespace Sm
open PySem PySem.Spec PyProof.Rows L2
open Ev (D O Hh Fr R aU E Es Eo T S Ss Fl Src cF bY TY BI ME)
section
variable {G:Tb}{n:Nat}{sc scope:Scope}{N N':List Str}{df:Bool}{m m':List Nat}{elt:E}{t:T}{it:Ev.It}{cond:Eo}{xe xi tg:Expr}{ifs:List Expr}{pos:Pos}{X:Cx}
noncomputable def xW (P:aU) (elt:E) (t:T) (cond:Eo) (fr:Fr):D→Hh→R (Option D):=fun d h2=>match Ev.cB t d fr with
 | none=>.bad
 | some aB=>(Ev.gZ P cond aB h2).bind fun k h3=>if k then (Ev.ev P elt aB h3).bind fun x h4=>.ok (some x) h4 else .ok none h3
theorem qq (P:aU) (elt:E) (t:T) (it:Ev.It) (cond:Eo) (fr:Fr) (h:Hh):Ev.ev P (.comp elt t it cond) fr h=(Ev.cM P it fr h).bind fun s h1=>if Ev.undef t fr then
  (Ev.cT (xW P elt t cond fr) s.2 s.1 h1).bind fun ds h2=>Ev.alloc ds h2 else .bad:=by
 simp only [Ev.ev]
 rfl
noncomputable def CI (Y:Cx) (m':List Nat) (f:D→Hh→R (Option D)) (fr:Fr) (src:Src) (fp:List Addr) (tn:Nat→Heap→Prop) (r2:List Addr) (H2:Hp) (Dd:Addr) (ds:List D) (h2:Hh) (k:Nat) (s:Shared):Prop:=
 ∃ i nL Hc rc hc dn vs rest,Inv Y [] nL Hc s∧tn i s.heap∧(∀ b∈fp,Hc b=none)∧k=src.1.length - i∧i≤src.1.length∧
  SR Y.K m' Hc rc fr nL∧HR Y.K Hc rc hc∧Fm Y.K r2 rc H2 Hc∧Hc Dd=some (.lst vs)∧Dd∉rc∧aJ Y.K Hc rc dn vs∧Ev.cT f src.2 (src.1.drop i) hc=.ok rest h2∧dn++rest=ds
section
variable {Y:Cx}{sc':Scope}{J:L2.It}{fp:List Addr}{ita:Addr}{tn:Nat→Heap→Prop}{fr:Fr}{src:Src}{r2:List Addr}{H2:Hp}{Dd:Addr}{ds:List D}{h2:Hh}
theorem xX (gC:Good G n sc' N' false Y) {α:Type}{tt:Sem α}{Q:α→Shared→Prop}{s:Shared}(hw:wpAny (model Y.prog Y.w) Y.A tt Q Y.xe s):wpAny (model Y.prog Y.w) Y.A tt Q gy s:=by rw [gC.xe] at hw;exact hw
theorem vR {i:Nat}{lS:L2.St}{H9:Hp}{r9:List Addr}{h9:Hh}{dn:List D}{vs:List V}{rest':List D}{s9:Shared}{p:List (Addr×Obj)}{f:D→Hh→R (Option D)}(hlt:i<src.1.length) (I9:Inv Y ([]++p) lS H9 s9) (bk:tn (i+1) s9.heap∧∀ b∈fp,H9 b=none) (q:SR Y.K m' H9 r9 fr lS) (rz:HR Y.K H9 r9 h9) (fm:Fm Y.K r2 r9 H2 H9) (xY:H9 Dd=some (.lst vs)) (xZ:Dd∉r9) (rv:aJ Y.K H9 r9 dn vs) (e7:Ev.cT f src.2 (src.1.drop (i+1)) h9=.ok rest' h2) (ed:dn++rest'=ds) :
  ∃ k,k<src.1.length - i∧CI Y m' f fr src fp tn r2 H2 Dd ds h2 k s9:=
 ⟨src.1.length - (i+1),Nat.sub_lt_sub_left hlt (Nat.lt_succ_self i),i+1,lS,H9,r9,h9,dn,vs,rest',I9.kY,bk.1,bk.2,rfl,hlt,q,rz,fm,xY,xZ,rv,e7,ed⟩
theorem Ju {i:Nat}{lS:L2.St}{H9:Hp}{r9:List Addr}{h9:Hh}{dn:List D}{vs:List V}{xd:D}{v10:V}{Et:Value}{rest':List D}{s9:Shared}{p:List (Addr×Obj)}{f:D→Hh→R (Option D)}(hlt:i<src.1.length) (mD:H2 Dd=none) (hsz:ds.length≤sizeLine) (gC:Good G n sc' N' false Y) (I9:Inv Y ([]++p) lS H9 s9) (Cg:RelV v10 Et) (bk:∀ {σ':L2.St}{H':Hp}{s':Shared},Inv Y ([]++p) σ' H' s'→tn (i+1) s'.heap∧∀ b∈fp,H' b=none) (q:SR Y.K m' H9 r9 fr lS) (rz:HR Y.K H9 r9 h9) (fm:Fm Y.K r2 r9 H2 H9) (nM:H9 Dd=some (.lst vs)) (tQ:Dd∉r9) (rv:aJ Y.K H9 r9 dn vs) (Ci:RV Y.K H9 r9 xd v10) (e7:Ev.cT f src.2 (src.1.drop (i+1)) h9=.ok rest' h2) (ed:dn++xd :: rest'=ds) :
  wpAny (model Y.prog Y.w) Y.A (call (.builtin "list.append") [.ref Dd,Et]) (fun _ Eu=>∃ k,k<src.1.length - i∧CI Y m' f fr src fp tn r2 H2 Dd ds h2 k Eu) gy s9:=by
 have hlen:vs.length<sizeLine:=by
  have h1:=rv.length
  have h2:=congrArg List.length ed
  simp at h2
  omega
 refine bQ (xX gC (qW _ s9 lS H9 (.ref Dd) [v10] (.ref Dd) [Et] (fun _ P5=>P5=upd H9 Dd (.lst (vs++[v10]))) I9 rfl (.cons Cg .nil) ⟨Dd,vs,v10,rfl,rfl,nM,hlen,rfl⟩)) fun _ Eu ⟨_,P5,P6,_,Sy⟩=>?_
 subst Sy
 refine vR (dn:=dn++[xd]) (vs:=vs++[v10]) hlt P6 (bk P6) ?_ (rz.other nM tQ) (fm.other mD nM) fR tQ ?_ e7 ?_
 ·exact ⟨q.len,fun j i' d' a1 a2=>by
   obtain ⟨w,b1,b2⟩:=q.sl j i' d' a1 a2
   exact ⟨w,b1,b2.grow (fun _ _ z=>z) (ig nM)⟩⟩
 ·exact (rv.append (.cons Ci .nil)).grow (fun _ _ z=>z) (ig nM)
 ·rw [←ed];simp
theorem zR (gC:Good G n sc' N' false Y) (hg:JG G n sc' N' false m' t tg) (hc:JC G n sc' N' false m' cond ifs) (he:JE G n sc' N' false m' elt xe) (Tn:Turn Y.prog Y.w Y.K tg J fp ita tn) (kZ:∀ {Hc:Hp},(∀ b∈fp,Hc b=none)→∀ b∈fp,gp Y [] Hc b)
  (hu:Ev.undef t fr=true) (hJ:ow Y.K r2 H2 src J) (mD:H2 Dd=none) (hsz:ds.length≤sizeLine) {R':Result→Shared→Prop}
  (Cj:∀ s6 nL Hc rc vs,Inv Y [] nL Hc s6→HR Y.K Hc rc h2→Fm Y.K r2 rc H2 Hc→Hc Dd=some (.lst vs)→Dd∉rc→aJ Y.K Hc rc ds vs→R' (.ok .next) s6) {k:Nat} {s:Shared}
  (h:CI Y m' (xW (Ev.run G.F G.w n) elt t cond fr) fr src fp tn r2 H2 Dd ds h2 k s):codeAny (model Y.prog Y.w) Y.A (.compLoop (.ListComp xe [⟨tg,xi,ifs,0⟩] scope pos) 0 (.ref ita) (.ref Dd) Y.env) R' s:=by
 refine tO (CI Y m' (xW (Ev.run G.F G.w n) elt t cond fr) fr src fp tn r2 H2 Dd ds h2) ?_ k h
 rintro k s5 ⟨i,nL,Hc,rc,hc',dn,vs,rest,I5,vH,qQ,rfl,hle,zN,rj,tR,nM,tQ,zS,e5,Ew⟩
 rcases Nat.lt_or_ge i src.1.length with hlt | hge
 ·rw [List.drop_eq_getElem_cons hlt] at e5
  simp only [Ev.cT] at e5
  split at e5
  ·rename_i hst
   obtain ⟨hgo,_⟩:=hJ i Hc rc hc' rj tR hst
   obtain ⟨g1,g2⟩:=hgo src.1[i] (List.getElem?_eq_getElem hlt)
   obtain ⟨o,h6,e6,e5⟩:=Ev.aj e5
   obtain ⟨rest',h7,e7,e5⟩:=Ev.aj e5
   cases e5
   refine bQ (Tn.item Y rfl rfl rfl gC.calm i [] s5 nL Hc gy I5 (kZ qQ) vH g1) fun rr s6 ⟨u,Vb,h8⟩=>?_
   subst Vb
   refine bQ h8 fun _ s7 ⟨x,H7,I7,rx,y7,Jv,Vc⟩=>?_
   obtain ⟨r7,v7,P7,vS⟩:=g2 x H7 y7
   obtain ⟨Sz,SA⟩:=vS.lg nM tQ
   unfold xW at e6
   split at e6
   ·cases e6
   ·rename_i aB eb
    obtain ⟨kk,h9,e9,e6⟩:=Ev.aj e6
    have Vd:=I7.pinned (kZ Vc) (Tn.obj _ _ Jv)
    refine bQ (xX gC (hg _ gC _ s7 nL H7 x u (fun lS H8=>H8=H7∧SR Y.K m' H7 r7 aB lS) Vd rx ⟨r7,fr,hc',_,aB,zN.mono vS,P7,v7,eb,fun s' q=>⟨rfl,q⟩⟩)) fun _ s8 ⟨lS,H8,I8,Ve,Ex⟩=>?_
    subst Ve
    refine bQ (xX gC (hc _ gC _ s8 lS _ (fun b H9=>b=kk∧∃ r9,HR Y.K H9 r9 h9∧Fm Y.K r7 r9 _ H9) I8 ⟨r7,aB,hc',kk,h9,Ex,P7,e9,fun H9 r9 rz f9=>⟨rfl,r9,rz,f9⟩⟩)) fun bb s9 ⟨H9,I9,Je,r9,rz,rB⟩=>?_
    subst Je
    obtain ⟨xZ,xY⟩:=rB.lg SA Sz
    have back:∀ {σ':L2.St} {H':Hp} {s':Shared},Inv Y ([]++lW fp s7.heap) σ' H' s'→tn (i+1) s'.heap∧∀ b∈fp,H' b=none:=fun {σ' H' s'} I'=>
     ⟨Tn.keep _ _ _ Jv fun b hb o e=>(I'.pin (b,o) (List.mem_append_right _ (List.mem_append_right _ (jk hb e)))).1,fun b hb=>
      let ⟨o,e,_⟩:=Tn.obj _ _ Jv b hb
      (I'.pin (b,o) (List.mem_append_right _ (List.mem_append_right _ (jk hb e)))).2.1⟩
    cases bb with
    | false=>
     simp only [Bool.false_eq_true,if_false] at e6 ⊢
     cases e6
     exact vR hlt I9 (back I9) ((Ex.mono rB).unbind eb hu) rz ((tR.trans vS).trans rB) xY xZ ((zS.mono vS).mono rB) e7 Ew
    | true=>
     simp only [if_true] at e6 ⊢
     obtain ⟨xd,W3,Vf,e6⟩:=Ev.aj e6
     cases e6
     refine bQ (xX gC (he _ gC _ s9 lS H9 (fun v zU=>∃ vU,RV Y.K zU vU xd v∧HR Y.K zU vU _∧Fm Y.K r9 vU H9 zU) I9 ⟨r9,aB,h9,xd,_,Ex.mono rB,rz,Vf,fun v zU vU v10 Ck Ey=>⟨vU,v10,Ck,Ey⟩⟩)) fun Et P8 ⟨v10,zU,Vg,Cg,vU,Ci,Ck,x6⟩=>?_
     obtain ⟨Od,Oe⟩:=x6.lg xY xZ
     exact Ju hlt mD hsz gC Vg Cg back (((Ex.mono rB).mono x6).unbind eb hu) Ck (((tR.trans vS).trans rB).trans x6) Oe Od (((zS.mono vS).mono rB).mono x6) Ci e7 Ew
  ·cases e5
 ·have hi':i=src.1.length:=Nat.le_antisymm hle hge
  subst hi'
  rw [List.drop_length] at e5
  simp only [Ev.cT] at e5
  split at e5
  ·rename_i hst
   cases e5
   refine bQ (Tn.done Y rfl rfl rfl gC.calm _ [] s5 nL Hc gy I5 (kZ qQ) vH ((hJ _ Hc rc _ rj tR hst).2 (Nat.le_refl _))) fun rr s6 ⟨hrr,I6⟩=>?_
   subst hrr
   rw [List.append_nil] at Ew
   subst Ew
   exact Cj s6 nL Hc rc vs I6 rj tR nM tQ zS
  ·cases e5
end
theorem rC (g:Good G n sc N df X) (hi:JI G n sc N df m it tg xi) (hg:JG G n (iz sc scope) N' false m' t tg) (hc:JC G n (iz sc scope) N' false m' cond ifs) (he:JE G n (iz sc scope) N' false m' elt xe)
  (hn:namesOk sc N m scope t N' m') (hs:gI sc scope) {cl:List (Str×Addr)} (iA:∀ x c,cl.lookup x=some c→X.env.cells.lookup x=some c) (kg:∀ x,(x,NameKind.free)∈scope.names→∃ c,cl.lookup x=some c)
  {pins:List (Addr×Obj)} {σ:L2.St} {H:Hp} {s:Shared} (I:Inv X pins σ H s) {r:List Addr} {fr:Fr} {h:Hh} {d:D} {h':Hh} (sr:SR X.K m H r fr σ) (hr:HR X.K H r h)
  (e:Ev.ev (Ev.run G.F G.w n) (.comp elt t it cond) fr h=.ok d h') (post:Value→Addr→Result→Shared→Prop)
  (hpost:∀ Dd C s' H' r',Inv X pins σ H' s'→(∃ mm,s'.heap.Ns C mm)→gp X pins H' C→RV X.K H' r' d (.ref Dd)→HR X.K H' r' h'→Fm X.K r r' H H'→post (.ref Dd) C (.ok .next) s') {E:Value→Shared→Prop} (hE:X.xe=fun _ _=>False) :
  wpAny (model X.prog X.w) X.A (eval xi X.env) (fun x s₁=>wpAny (model X.prog X.w) X.A (pyIter x) (fun itv s₂=>wpAny (model X.prog X.w) X.A (newList []) (fun acc s₃=>
   wpAny (model X.prog X.w) X.A (newFunctionEnv scope X.env.globals cl [] X.env.qual none .none (some X.env)) (fun cenv s₄=>
    codeAny (model X.prog X.w) X.A (.compStart (.ListComp xe [⟨tg,xi,ifs,0⟩] scope pos) 0 itv acc { cenv with scope:=relabel scope X.env }) (post acc cenv.locals) s₄) E s₃) E s₂) E s₁) E s:=by
 rw [qq] at e
 obtain ⟨src,h1,e1,e⟩:=Ev.aj e
 split at e
 ·rename_i hu
  obtain ⟨ds,h2,e2,e⟩:=Ev.aj e
  have qO:∀ {α:Type} {tt:Sem α} {Q:α→Shared→Prop} {s:Shared},wpAny (model X.prog X.w) X.A tt Q X.xe s→wpAny (model X.prog X.w) X.A tt Q E s:=fun {α tt Q s} hw=>wpAny_mono hw (fun _ _ q=>q) fun _ _ q=>by rw [hE] at q;exact q.elim
  refine bQ (qO (hi X g pins s σ H (fun J H2=>∃ r2,HR X.K H2 r2 h1∧Fm X.K r r2 H H2∧ow X.K r2 H2 src J) I ⟨r,fr,h,src,h1,sr,hr,e1,fun J H2 r2 hr2 f2 hJ=>⟨r2,hr2,f2,hJ⟩⟩)) fun v s1 q1=>?_
  refine bQ (qO q1) fun itv s2 q2=>?_
  obtain ⟨ita,fp,tn,J,H2,rfl,I2,Tn,st2,f2,r2,hr2,Ez,hJ⟩:=q2
  refine wpAny_newObj_type ?_
  generalize EA:s2.heap.objs.size=Dd
  have mD:H2 Dd=none:=by rw [←EA];exact I2.fresh
  have I3:Inv X pins σ (upd H2 Dd (.lst [])) { s2 with heap:=s2.heap.push { cls:=.type "list",data:=.seq ([]:List Value).toArray }}:=by
   have:=I2.BW (ys:=[]) (its:=[]) (t':=s2.toks) .nil (Nat.zero_le _)
   rw [EA] at this
   exact this
  have Jw:∀ b∈fp,b<s2.heap.objs.size:=fun b hb=>by
   obtain ⟨o,e,_⟩:=Tn.obj 0 _ st2 b hb
   exact Heap.lt_size e
  generalize Jx:({ s2 with heap:=s2.heap.push { cls:=.type "list",data:=.seq ([]:List Value).toArray }}:Shared)=s3 at I3
  have SD:s3.heap.objs.size=s2.heap.objs.size+1:=by rw [←Jx];exact Heap.size_push ..
  have k3:∀ b o,s2.heap.get? b=some o→s3.heap.get? b=some o:=fun b o e=>by rw [←Jx];exact Heap.get?_push_of_some _ e
  have Jy:∀ b∈fp,b<s3.heap.objs.size:=fun b hb=>Nat.lt_of_lt_of_le (Jw b hb) (by rw [SD];exact Nat.le_succ _)
  have qs:∀ b∈fp,gp X pins (upd H2 Dd (.lst [])) b:=fun b hb=>⟨by rw [bG (fun z=>absurd (Jw b hb) (by rw [z,EA];exact Nat.lt_irrefl _))];exact (f2 b hb).1,(f2 b hb).2⟩
  refine wpAny_newFunctionEnv (hs.zQ) (fun y hy=>by simp at hy) (fun Jz SE SG=>?_) hs.kind
  have k4:∀ b o,s3.heap.get? b=some o→Jz.get? b=some o:=fun b o e=>SG.extBut b o (Nat.ne_of_lt (Heap.lt_size e)) (Heap.get?_push_of_some _ e)
  have gC:Good G n (iz sc scope) N' false (o7 X N' scope cl s3.heap.objs.size s3 (upd H2 Dd (.lst [])) fp):=g.comp
  have I4:Inv (o7 X N' scope cl s3.heap.objs.size s3 (upd H2 Dd (.lst [])) fp) [] (sig scope N N' m' X.K (upd H2 Dd (.lst [])) r2 fr σ) (upd H2 Dd (.lst [])) { s3 with heap:=Jz,toks:=s3.toks+0 }:=
   Cf g I3 hs iA kg qs Jy SE k4
  have vP:SR X.K m' (upd H2 Dd (.lst [])) r2 fr (sig scope N N' m' X.K (upd H2 Dd (.lst [])) r2 fr σ):=Jt (((sr.mono Ez).mono (Fm.tup mD))) hn hu
  have o6:HR X.K (upd H2 Dd (.lst [])) r2 h1:=hr2.tup mD
  have P9:Dd∉r2:=fun hm=>by
   obtain ⟨k,hk⟩:=List.getElem?_of_mem hm
   have hlt:k<h1.length:=by rw [←hr2.len];exact (List.getElem?_eq_some_iff.mp hk).1
   obtain ⟨a,e3,e4⟩:=hr2.ob k _ (List.getElem?_eq_getElem hlt)
   rw [hk] at e3;cases e3
   cases eo:h1[k] with
   | lst dd=>rw [eo] at e4;obtain ⟨us,e5,_⟩:=e4;rw [mD] at e5;cases e5
   | bO dd=>
    rw [eo] at e4
    obtain ⟨us,e5,_⟩:=e4
    rcases e5 with ⟨ob,e5⟩ | ⟨ob,_,_,e5,_⟩
    ·rw [mD] at e5;cases e5
    ·have:=Heap.lt_size (I2.gw _ _ e5)
     rw [EA] at this
     exact absurd this (Nat.lt_irrefl _)
  have Vh:H Dd=none:=by
   cases z:H Dd with
   | none=>rfl
   | some o=>
    have hnr:Dd∉r:=fun hm=>by
     obtain ⟨k,hk⟩:=List.getElem?_of_mem hm
     exact P9 (List.mem_of_getElem? (Ez.pre _ _ hk))
    have:=Ez.keep _ _ z hnr
    rw [mD] at this;cases this
  have kZ:∀ {Hc:Hp},(∀ b∈fp,Hc b=none)→∀ b∈fp,gp (o7 X N' scope cl s3.heap.objs.size s3 (upd H2 Dd (.lst [])) fp) [] Hc b:=fun {Hc} hz b hb=>by
   refine ⟨hz b hb,Nat.ne_of_lt (Jy b hb),(I4.ok).qg b hb,.inl hb,fun x c e=>((I4.ok).Ef b hb).2 x c e,fun p hp=>?_⟩
   simp [o7] at hp
  have hsz:ds.length≤sizeLine:=by
   unfold Ev.alloc at e
   split at e
   ·rename_i z;rw [←jH];exact z
   ·cases e
  have fin:codeAny (model X.prog X.w) X.A (.compLoop (.ListComp xe [⟨tg,xi,ifs,0⟩] scope pos) 0 (.ref ita) (.ref Dd) (compEnvC scope cl s3.heap.objs.size X.env)) (post (.ref Dd) s3.heap.objs.size) { s3 with heap:=Jz,toks:=s3.toks+0 }:=by
   refine zR gC hg hc he Tn kZ hu hJ mD hsz (fun s6 nL Hc rc vs I6 rj tR nM tQ zS=>?_) ⟨0,_,_,r2,h1,[],[],ds,I4,Tn.keep _ _ _ st2 fun b hb o eo=>k4 b o (k3 b o eo),fun b hb=>(qs b hb).1,rfl,Nat.zero_le _,vP,o6,Fm.tup mD,fR,P9,.nil,by rw [List.drop_zero];exact e2,rfl⟩
   unfold Ev.alloc at e
   split at e
   ·cases e
    obtain ⟨Vi,SH,_⟩:=I6.loc
    refine hpost Dd _ s6 Hc (rc++[Dd]) ?_ ⟨Vi,SH⟩ ?_ ⟨Dd,rfl,?_⟩ (rj.known nM tQ zS) ((Ez.trans tR).known ?_)
    ·exact I3.NO (ch:=fp) (I6.os) I6.base I6.hok I6.bare fun b hb=>⟨(qs b hb).2.2.2.1,(qs b hb).2.1,(qs b hb).2.2.2.2.1,(qs b hb).2.2.2.2.2⟩
    ·exact I3.xC (Nat.le_refl _) I6.free
    ·rw [←rj.len];simp
    ·exact Vh
   ·cases e
  subst Jx
  exact codeAny_compStart_list fin (Tn.self _ 0 _ _ _ (Tn.keep _ _ _ st2 fun b hb o eo=>k4 b o (k3 b o eo)) fin)
 ·cases e
end
end Sm
set_option maxRecDepth 100000
namespace Sm
open PySem PySem.Spec PyProof.Rows L2
open Ev (D O Hh Fr R aU E Es Eo T S Ss Fl Src cF bY TY BI ME)
section
variable {G:Tb}{n:Nat}{sc scope:Scope}{N N':List Str}{df:Bool}{m m':List Nat}{elt:E}{t:T}{it:Ev.It}{cond:Eo}{xe xi tg:Expr}{ifs:List Expr}{pos:Pos}
theorem Good.cells {X:Cx}{pins:List (Addr×Obj)}{σ:L2.St}{H:Hp}{s:Shared}(g:Good G n sc N df X) (I:Inv X pins σ H s) (hs:gI sc scope) :
  ∃ cl,closureFor scope X.env=pure cl∧(∀ x c,cl.lookup x=some c→X.env.cells.lookup x=some c)∧∀ x,(x,NameKind.free)∈scope.names→∃ c,cl.lookup x=some c:=
 GF fun x hx=>I.ok.has x (by unfold Env.kindOf;rw [g.sc];exact (hs.free x hx).1)
theorem zV {X:Cx}{pins:List (Addr×Obj)}{σ:L2.St}{H:Hp}{s:Shared}(I:Inv X pins σ H s) {C:Addr}(fp:gp X pins H C) {h':Heap}(hs:Heap.SameBut C s.heap h'):Inv X pins σ H { s with heap:=h' }:=
 I.turned (t':=s.toks) (fun b o hb e=>hs.extBut b o hb e) fp.1 fp.2.1 fp.2.2.2.1 fp.2.2.2.2.1 fp.2.2.2.2.2
theorem jw (hi:JI G n sc N df m it tg xi) (hg:JG G n (iz sc scope) N' false m' t tg) (hc:JC G n (iz sc scope) N' false m' cond ifs) (he:JE G n (iz sc scope) N' false m' elt xe)
  (hn:namesOk sc N m scope t N' m') (hs:gI sc scope) (hf:∀ (env:Env) x,foldedSetIterable xi env x=pure x:=by intro _ _;rfl):JE G n sc N df m (.comp elt t it cond) (.ListComp xe [⟨tg,xi,ifs,0⟩] scope pos):=fun X g pins s σ H Q I q=>by
 obtain ⟨r,fr,h,d,h',sr,hr,e,q⟩:=q
 obtain ⟨cl,hcl,iA,kg⟩:=g.cells I hs
 rw [eval_ListComp]
 refine wpAny_comprehension_free (use:=none) (Q:=EP X pins σ Q) rfl (hf _) hcl hs.kind hs.loc ?_
 refine rC g hi hg hc he hn hs iA kg I sr hr e (fun acc C=>compPost (model X.prog X.w) X.A X.xe none (EP X pins σ Q) acc C) (fun Dd C s' H' r' I' hC fp rv hr' EB=>?_) g.xe
 obtain ⟨mm,hC⟩:=hC
 exact ⟨mm,hC,fun h'' zW=>⟨.ref Dd,H',zV I' fp zW,rfl,q _ H' r' rv hr' EB⟩⟩
theorem vV (j i:Nat) {x:Str}{pos' cpos:Pos}(hm:m.Nodup) (hN:N.Nodup) (hi:JI G n sc N df m it tg xi) (hg:JG G n (iz sc scope) N' false m' t tg) (hc:JC G n (iz sc scope) N' false m' cond ifs) (he:JE G n (iz sc scope) N' false m' elt xe)
  (hn:namesOk sc N m scope t N' m') (hs:gI sc scope) (hj:m[j]?=some i:=by rfl) (q9:N[j]?=some x:=by rfl)
  (hl:sc.names.lookup x=some .local∨(df=true∧sc.names.lookup x=some .cell):=by first | exact Or.inl rfl | exact Or.inr ⟨rfl,rfl⟩) (hf:∀ (env:Env) x,foldedSetIterable xi env x=pure x:=by intro _ _;rfl) :
  JS G n sc N df m (.set i (.comp elt t it cond)) (.Assign [.Name x pos'] (.ListComp xe [⟨tg,xi,ifs,0⟩] scope cpos) pos):=fun X g=>by
 obtain ⟨h1,h2⟩:=g.loc hl
 have hsw:swapsWith (.ListComp xe [⟨tg,xi,ifs,0⟩] scope cpos) (some (.Name x pos')) pos.line X.env=pure (X.env.blockKind==.function&&X.env.kindOf x==some .local&&pos'.line==(Expr.ListComp xe [⟨tg,xi,ifs,0⟩] scope cpos).pos.line&&!(scope.names.any fun (n,k)=>n==x&&(k==.local || k==.cell))):=rfl
 generalize hb:(X.env.blockKind==.function&&X.env.kindOf x==some .local&&pos'.line==(Expr.ListComp xe [⟨tg,xi,ifs,0⟩] scope cpos).pos.line&&!(scope.names.any fun (n,k)=>n==x&&(k==.local || k==.cell)))=b at hsw
 cases b with
 | false=>
  refine PS.of (zj (i:=j) (by rw [g.nm];exact hN) (by rw [g.nm];exact q9) h1 (jw hi hg hc he hn hs hf X g) hsw h2) fun Q s H q=>?_
  obtain ⟨r,fr,h,fl,aq,h',sr,hr,e,q⟩:=q
  simp only [Ev.ex] at e
  obtain ⟨d,h1,e1,e⟩:=Ev.aj e
  cases e
  exact ⟨r,fr,h,d,_,sr,hr,e1,fun v H1 r1 v1 hr1 f1=>q _ H1 r1 ((sr.mono f1).set hm hj v1) hr1 f1⟩
 | true=>
  have W4:X.env.kindOf x=some .local:=by
   simp only [Bool.and_eq_true,beq_iff_eq] at hb
   exact hb.1.1.2
  intro pins s σ H Q I q
  obtain ⟨r,fr,h,fl,aq,h',sr,hr,e,q⟩:=q
  simp only [Ev.ex] at e
  obtain ⟨d,h3,e1,e⟩:=Ev.aj e
  cases e
  obtain ⟨cl,hcl,iA,kg⟩:=g.cells I hs
  rw [exec_Assign_Name_used _ _ _ _ hsw]
  refine wpAny_bind (wpAny_standAt (wpAny_bind ?_))
  show wpAny _ X.A (do let _ ←comprehension (.ListComp xe [⟨tg,xi,ifs,0⟩] scope cpos) scope X.env _ (newList []) false (eval xi X.env) (some (assign (.Name x pos') X.env))) _ _ s
  refine wpAny_bind (wpAny_mono (wpAny_comprehension_free (use:=some (assign (.Name x pos') X.env)) (Q:=fun _ s'=>SP X pins Q .next s') rfl (hf _) hcl hs.kind hs.loc ?_) (fun _ s' hq=>wpAny_pure (wpAny_pure hq)) fun _ _ e=>e)
  refine rC g hi hg hc he hn hs iA kg I sr hr e1 (fun acc C=>compPost (model X.prog X.w) X.A X.xe (some (assign (.Name x pos') X.env)) (fun _ s'=>SP X pins Q .next s') acc C) (fun Dd C s' H' r' I' hC fp rv hr' EB=>?_) g.xe
  obtain ⟨mm,hC⟩:=hC
  show wpAny _ X.A (assign (.Name x pos') X.env (.ref Dd)) _ _ s'
  refine wpAny_assign_Name (qN (v:=.ref Dd) I' (by rw [g.nm];exact hN) (i:=j) (by rw [g.nm];exact q9) h1 rfl (fun s'' Vj zW=>?_) h2)
  obtain ⟨a,zW,ha⟩:=zW
  have Vk:C≠a:=by
   rcases ha with z | z
   ·rw [z];exact fp.2.1
   ·exact fun w=>fp.2.2.2.2.1 x a z w.symm
  refine ⟨mm,hC.sameBut zW Vk,fun h'' SI=>?_⟩
  exact ⟨_,H',zV Vj ⟨fp.1,fp.2⟩ SI,q _ H' r' ((sr.mono EB).set hm hj rv) hr' EB⟩
end
end Sm
set_option maxRecDepth 100000
namespace Sm
open PySem PySem.Spec PyProof.Rows L2 PySem.SeqAt
open Ev (D O Hh Fr R aU E Es Eo T S Ss Fl Src cF bY TY BI ME)
structure tS (A:Around) (s:Shared) (u w:Value) (k:Bool):Prop where
 eq:EqAt A s u w k
 rc:RcAt A s u w k
 ne:RcNeAt A s u w (!k)
theorem qt {f:D→D→Option Bool}:∀ {x y:List D},x.length≠y.length→∀ {k},Ev.cI f x y=some k→k=false
 | [],[],h,_,_=>absurd rfl h
 | [],_ :: _,_,_,e=>by cases e;rfl
 | _ :: _,[],_,_,e=>by cases e;rfl
 | a :: x,b :: y,h,k,e=>by
  simp only [Ev.cI,Option.bind_eq_bind,Option.bind_eq_some_iff] at e
  obtain ⟨p,_,q,e2,e3⟩:=e
  have:=qt (x:=x) (y:=y) (by simpa using h) e2
  subst this
  cases e3
  simp
theorem vW {f:D→D→Option Bool}:∀ {x y:List D}{k},Ev.cI f x y=some k→x.length=y.length→∃ e:Nat→Bool,(∀ (j:Nat) a b,x[j]?=some a→y[j]?=some b→f a b=some (e j))∧(List.range x.length).all e=k
 | [],[],_,h,_=>⟨fun _=>true,(fun j a b h1=>by simp at h1),by cases h;simp⟩
 | [],_ :: _,_,_,h=>by simp at h
 | _ :: _,[],_,_,h=>by simp at h
 | a :: x,b :: y,k,h,hl=>by
  simp only [Ev.cI,Option.bind_eq_bind,Option.bind_eq_some_iff] at h
  obtain ⟨p,e1,q,e2,e3⟩:=h
  cases e3
  obtain ⟨e,h1,h2⟩:=vW e2 (by simpa using hl)
  refine ⟨fun j=>match j with | 0=>p | j+1=>e j,fun j a' b' g1 g2=>?_,?_⟩
  ·cases j with
   | zero=>simp at g1 g2;subst g1 g2;exact e1
   | succ j=>exact h1 j a' b' (by simpa using g1) (by simpa using g2)
  ·rw [List.length_cons,List.range_succ_eq_map,List.all_cons,List.all_map,←h2]
   rfl
theorem vX {f:D→D→Option Bool}:∀ {x y:List D}{k},Ev.cI f x y=some k→∃ e:Nat→Bool,∀ (j:Nat) a b,x[j]?=some a→y[j]?=some b→f a b=some (e j)
 | [],_,_,_=>⟨fun _=>true,fun j a b h1=>by simp at h1⟩
 | _ :: _,[],_,_=>⟨fun _=>true,fun j a b _ h1=>by simp at h1⟩
 | a :: x,b :: y,k,h=>by
  simp only [Ev.cI,Option.bind_eq_bind,Option.bind_eq_some_iff] at h
  obtain ⟨p,e1,q,e2,e3⟩:=h
  obtain ⟨e,h1⟩:=vX e2
  refine ⟨fun j=>match j with | 0=>p | j+1=>e j,fun j a' b' g1 g2=>?_⟩
  cases j with
  | zero=>simp at g1 g2;subst g1 g2;exact e1
  | succ j=>exact h1 j a' b' (by simpa using g1) (by simpa using g2)
section
variable {X:Cx}{pins:List (Addr×Obj)}{σ:L2.St}{H:Hp}{s:Shared}{r:List Addr}{h:Hh}
theorem nc (I:Inv X pins σ H s) {a b:Addr}{vs ws:List V}(h1:xU X.K H a vs) (h2:H b=some (.lst ws)):a≠b:=by
 rintro rfl
 rcases h1 with ⟨o,h1⟩ | ⟨o,_,_,h1,_⟩
 ·rw [h2] at h1;cases h1
 ·have:=(I.bs a o (I.ok.mod.Ed a o h1)).2
  rw [h2] at this;cases this
theorem rD {x y:List D}{vs ws:List V}{us zs:List Value}{f:D→D→Option Bool}{A:Around}{k:Bool}(v1:aJ X.K H r x vs)(v2:aJ X.K H r y ws)(p1:Vals vs us)(p2:Vals ws zs)
  (ih:∀ a b va vb u w k,RV X.K H r a va→RV X.K H r b vb→RelV va u→RelV vb w→f a b=some k→tS A s u w k) (hl:x.length=y.length) (e:Ev.cI f x y=some k) :
  ∃ e':Nat→Bool,(∀ j (h1:j<us.toArray.size) (h2:j<zs.toArray.size),EqAt A s us.toArray[j] zs.toArray[j] (e' j))∧(List.range us.toArray.size).all e'=k∧us.length=zs.length:=by
 obtain ⟨e',h1,h2⟩:=vW e hl
 have l1:=v1.length
 have l2:=v2.length
 have l3:=p1.length
 have l4:=p2.length
 refine ⟨e',fun j g1 g2=>?_,?_,by omega⟩
 ·have Vl:j<us.length:=by simpa using g1
  have Vm:j<zs.length:=by simpa using g2
  have ha:x[j]?=some x[j]:=List.getElem?_eq_getElem (by omega)
  have hb:y[j]?=some y[j]:=List.getElem?_eq_getElem (by omega)
  obtain ⟨va,a1,a2⟩:=v1.get ha
  obtain ⟨vb,b1,b2⟩:=v2.get hb
  obtain ⟨u,a3,a4⟩:=p1.get a1
  obtain ⟨w,b3,b4⟩:=p2.get b1
  have eu:us.toArray[j]=u:=by
   have:=(List.getElem?_eq_some_iff.mp a3).2
   simpa using this
  have ew:zs.toArray[j]=w:=by
   have:=(List.getElem?_eq_some_iff.mp b3).2
   simpa using this
  rw [eu,ew]
  exact (ih _ _ _ _ _ _ _ a2 b2 a4 b4 (h1 j _ _ ha hb)).eq
 ·rw [←h2]
  have:us.toArray.size=x.length:=by simp;omega
  rw [this]
noncomputable def ff (K:PySem.W.Frag) (H:Hp) (r:List Addr):D→V→Prop
 | .bz,v=>v=.bz
 | .bl b,v=>v=.bl b
 | .int i,v=>v=.int i
 | .str l,v=>v=.str (aX l)
 | .ref n,v=>∃ a,v=.ref a∧r[n]?=some a
 | .tup ds,v=>∃ a vs,v=.ref a∧dM K H a vs∧aJ K H r ds vs
theorem RV.shape {d:D}{v:V}(h:RV X.K H r d v):ff X.K H r d v:=by
 cases d <;> simp only [RV] at h <;> simp only [ff] <;> first | exact h | exact h.1
theorem GH {a b:List Nat}:(aX a==aX b)=(a==b):=by
 by_cases e:a=b
 ·subst e;simp
 ·have e1:(aX a==aX b)=false:=beq_eq_false_iff_ne.mpr fun z=>e (qm z)
  have e2:(a==b)=false:=beq_eq_false_iff_ne.mpr e
  rw [e1,e2]
theorem oz {n:Nat}{A:Around}{x y:List D}{a b:Addr}{vs ws:List V}{k:Bool}(I:Inv X pins σ H s)(hu:A.units<cLine)(q1:dY X.K H a vs)(q2:dY X.K H b ws)(v1:aJ X.K H r x vs)(v2:aJ X.K H r y ws)(hab:a≠b)
  (ih:∀ a b va vb u w k,RV X.K H r a va→RV X.K H r b vb→RelV va u→RelV vb w→Ev.gz h n a b=some k→tS A.in1 s u w k) (e:Ev.cI (Ev.gz h n) x y=some k):tS A s (.ref a) (.ref b) k:=by
 obtain ⟨us,p1,nN,_⟩:=I.list q1
 obtain ⟨zs,p2,nO,_⟩:=I.list q2
 by_cases hl:x.length=y.length
 ·obtain ⟨e',h1,h2,h3⟩:=rD v1 v2 p1 p2 ih hl e
  have hs:us.toArray.size=zs.toArray.size:=by simpa using h3
  have rc:=RcAt.lists nN.isList nO.isList hs hu h1
  have ne:=RcNeAt.lists nN.isList nO.isList hs hu h1
  rw [h2] at rc ne
  exact ⟨.of_refs hab rc,rc,ne⟩
 ·have hk:=qt hl e
  subst hk
  have hs:(us.toArray.size != zs.toArray.size)=true:=by
   have l1:=v1.length
   have l2:=v2.length
   have l3:=p1.length
   have l4:=p2.length
   simp only [List.size_toArray,bne_iff_ne,ne_eq]
   omega
  exact ⟨.of_refs hab (.lists_lengths nN.isList nO.isList hs hu),.lists_lengths nN.isList nO.isList hs hu,.lists_lengths nN.isList nO.isList hs hu⟩
theorem tT (I:Inv X pins σ H s) (hr:HR X.K H r h) {n:Nat}{a:Addr}{ds:List D}(e:Ev.bw h n=some ds) (ha:r[n]?=some a):∃ us:List Value,PlainL s.heap a us.toArray:=by
 obtain ⟨a',vs,e1,e2,e3⟩:=hr.read e
 rw [ha] at e1;cases e1
 obtain ⟨us,_,pl,_⟩:=I.list e2
 exact ⟨us,pl⟩
theorem zX (I:Inv X pins σ H s) (hr:HR X.K H r h):∀ (n:Nat) (a b:D) (v:V) (k:Bool),RV X.K H r a v→RV X.K H r b v→Ev.gz h n a b=some k→k=true:=by
 intro n
 induction n with
 | zero=>intro a b v k _ _ e;cases e
 | succ n ih=>
  have items:∀ (x y:List D) (vs:List V) (k:Bool),aJ X.K H r x vs→aJ X.K H r y vs→Ev.cI (Ev.gz h n) x y=some k→k=true:=by
   intro x
   induction x with
   | nil=>
    intro y vs k h1 h2 e
    simp only [aJ] at h1
    subst h1
    cases y with
    | nil=>cases e;rfl
    | cons _ _=>simp only [aJ] at h2;obtain ⟨_,_,h2,_⟩:=h2;cases h2
   | cons d x Vn=>
    intro y vs k h1 h2 e
    simp only [aJ] at h1
    obtain ⟨v,w,rfl,h3,h4⟩:=h1
    cases y with
    | nil=>simp only [aJ] at h2;cases h2
    | cons d' y=>
     simp only [aJ] at h2
     obtain ⟨v',w',e2,h5,h6⟩:=h2
     cases e2
     simp only [Ev.cI,Option.bind_eq_bind,Option.bind_eq_some_iff] at e
     obtain ⟨p,e1,q,e2,e3⟩:=e
     cases e3
     rw [ih d d' v p h3 h5 e1,Vn y w q h4 h6 e2]
     rfl
  have lt:∀ (a:Addr) (vs:List V) (i:Nat) (ds:List D),dM X.K H a vs→r[i]?=some a→Ev.bw h i=some ds→False:=fun a vs i ds h1 h2 h3=>by
   obtain ⟨us,pl⟩:=tT I hr h3 h2
   obtain ⟨zs,_,pt,_⟩:=I.tuple h1
   exact ne_of_list_tuple pl.isList pt rfl
  intro a b v k h1 h2 e
  have s1:=h1.shape
  have s2:=h2.shape
  clear h1 h2
  cases a with
  | bz=>cases e
  | bl _=>cases e
  | int x=>simp only [ff] at s1;cases b with
   | int y=>simp only [ff] at s2;rw [s1] at s2;cases s2;cases e;simp
   | ref m=>obtain ⟨p,z,_⟩:=s2;rw [s1] at z;cases z
   | tup y=>obtain ⟨p,_,z,_⟩:=s2;rw [s1] at z;cases z
   | _=>simp only [ff] at s2;rw [s1] at s2;cases s2
  | str x=>simp only [ff] at s1;cases b with
   | str y=>
    simp only [ff] at s2
    rw [s1] at s2
    have:x=y:=qm (by injection s2)
    subst this
    cases e;simp
   | ref m=>obtain ⟨p,z,_⟩:=s2;rw [s1] at z;cases z
   | tup y=>obtain ⟨p,_,z,_⟩:=s2;rw [s1] at z;cases z
   | _=>simp only [ff] at s2;rw [s1] at s2;cases s2
  | tup x=>
   obtain ⟨p,vs,rfl,z,w⟩:=s1
   cases b with
   | tup y=>
    obtain ⟨p',vs',z',z2,w2⟩:=s2
    cases z'
    rw [I.lV z2 z] at w2
    exact items x y vs k w w2 e
   | ref m=>
    obtain ⟨p',z',z2⟩:=s2
    cases z'
    obtain ⟨ds,e1,_⟩:=Option.map_eq_some_iff.mp e
    exact (lt _ _ _ _ z z2 e1).elim
   | _=>cases s2
  | ref i=>
   obtain ⟨p,rfl,z⟩:=s1
   cases b with
   | ref m=>
    obtain ⟨p',z',z2⟩:=s2
    cases z'
    replace e:Ev.jG h (Ev.gz h n) i m=some k:=e
    unfold Ev.jG at e
    split at e
    ·simp only [Option.map_eq_some_iff] at e
     obtain ⟨_,_,e⟩:=e
     exact e.symm
    ·rename_i hne
     split at e
     ·rename_i x y g1 g2
      exact absurd (hr.inj _ _ _ _ _ z z2 g1 g2) hne
     ·rename_i x y g1 g2
      obtain ⟨p1,q1,EC,q2,_⟩:=hr.ob _ _ g1
      obtain ⟨p2,q3,ED,q4,_⟩:=hr.ob _ _ g2
      rw [z] at q1;cases q1
      rw [z2] at q3;cases q3
      exact absurd rfl (nc I q2 q4)
     ·rename_i x y g1 g2
      obtain ⟨p1,q1,EC,q2,_⟩:=hr.ob _ _ g1
      obtain ⟨p2,q3,ED,q4,_⟩:=hr.ob _ _ g2
      rw [z] at q1;cases q1
      rw [z2] at q3;cases q3
      exact absurd rfl (nc I q4 q2)
     ·cases e
   | tup y=>
    obtain ⟨p',vs',z',z2,w2⟩:=s2
    cases z'
    obtain ⟨ds,e1,_⟩:=Option.map_eq_some_iff.mp e
    exact (lt _ _ _ _ z2 z e1).elim
   | _=>cases s2
theorem GI {n:Nat}{A:Around}{x y:List D}{a b:Addr}{vs ws:List V}{k:Bool}(I:Inv X pins σ H s)(hr:HR X.K H r h)(hu:A.units<cLine)(q1:dM X.K H a vs)(q2:dM X.K H b ws)(v1:aJ X.K H r x vs)(v2:aJ X.K H r y ws)
  (ih:∀ a b va vb u w k,RV X.K H r a va→RV X.K H r b vb→RelV va u→RelV vb w→Ev.gz h n a b=some k→tS A.in1 s u w k) (e:Ev.cI (Ev.gz h n) x y=some k):tS A s (.ref a) (.ref b) k:=by
 obtain ⟨us,p1,nN,_⟩:=I.tuple q1
 obtain ⟨zs,p2,nO,_⟩:=I.tuple q2
 have l1:=v1.length
 have l2:=v2.length
 have l3:=p1.length
 have l4:=p2.length
 have both:RcAt A s (.ref a) (.ref b) k∧RcNeAt A s (.ref a) (.ref b) (!k):=by
  by_cases hl:x.length=y.length
  ·obtain ⟨e',h1,h2,h3⟩:=rD v1 v2 p1 p2 ih hl e
   have rc:=RcAt.tuples nN nO hu h1
   have ne:=RcNeAt.tuples nN nO hu h1
   have hs:us.toArray.size=zs.toArray.size:=by simpa using h3
   have hb:((List.range (min us.toArray.size zs.toArray.size)).all e'&&us.toArray.size==zs.toArray.size)=k:=by
    rw [←hs,Nat.min_self,h2];simp
   rw [hb] at rc ne
   exact ⟨rc,ne⟩
  ·have hk:=qt hl e
   subst hk
   have hcl:∃ e':Nat→Bool,∀ j (h1:j<us.toArray.size) (h2:j<zs.toArray.size),EqAt A.in1 s us.toArray[j] zs.toArray[j] (e' j):=by
    obtain ⟨e',h1⟩:=vX e
    refine ⟨e',fun j g1 g2=>?_⟩
    have Vl:j<us.length:=by simpa using g1
    have Vm:j<zs.length:=by simpa using g2
    have ha:x[j]?=some x[j]:=List.getElem?_eq_getElem (by omega)
    have hb:y[j]?=some y[j]:=List.getElem?_eq_getElem (by omega)
    obtain ⟨va,a1,a2⟩:=v1.get ha
    obtain ⟨vb,b1,b2⟩:=v2.get hb
    obtain ⟨u,a3,a4⟩:=p1.get a1
    obtain ⟨w,b3,b4⟩:=p2.get b1
    have eu:us.toArray[j]=u:=by
     have:=(List.getElem?_eq_some_iff.mp a3).2
     simpa using this
    have ew:zs.toArray[j]=w:=by
     have:=(List.getElem?_eq_some_iff.mp b3).2
     simpa using this
    rw [eu,ew]
    exact (ih _ _ _ _ _ _ _ a2 b2 a4 b4 (h1 j _ _ ha hb)).eq
   obtain ⟨e',h1⟩:=hcl
   have rc:=RcAt.tuples nN nO hu h1
   have ne:=RcNeAt.tuples nN nO hu h1
   have hs:(us.toArray.size==zs.toArray.size)=false:=by
    simp only [List.size_toArray,beq_eq_false_iff_ne,ne_eq];omega
   rw [hs,Bool.and_false] at rc ne
   exact ⟨rc,ne⟩
 by_cases hab:a=b
 ·subst hab
  rw [I.lV q2 q1] at v2
  have hk:k=true:=zX I hr (n+1) (.tup x) (.tup y) (.ref a) k ⟨a,vs,rfl,q1,v1⟩ ⟨a,vs,rfl,q1,v2⟩ e
  subst hk
  exact ⟨.same _,both.1,both.2⟩
 ·exact ⟨.of_refs hab both.1,both.1,both.2⟩
end
end Sm
set_option maxRecDepth 100000
namespace Sm
open PySem PySem.Spec PyProof.Rows L2 PySem.SeqAt
open Ev (D O Hh Fr R aU E Es Eo T S Ss Fl Src cF bY TY BI ME)
section
variable {X:Cx}{pins:List (Addr×Obj)}{σ:L2.St}{H:Hp}{s:Shared}{r:List Addr}{h:Hh}
theorem yc (I:Inv X pins σ H s) (hr:HR X.K H r h):∀ (n:Nat) (A:Around) (a b:D) (va vb:V) (u w:Value) (k:Bool),A.units+n<cLine→RV X.K H r a va→RV X.K H r b vb→RelV va u→RelV vb w→Ev.gz h n a b=some k→tS A s u w k:=by
 intro n
 induction n with
 | zero=>intro A a b va vb u w k _ _ _ _ _ e;cases e
 | succ n ih=>
  intro A a b va vb u w k hu h1 h2 r1 r2 e
  have dB:A.units<cLine:=by omega
  have ih':∀ a b va vb u w k,RV X.K H r a va→RV X.K H r b vb→RelV va u→RelV vb w→Ev.gz h n a b=some k→tS A.in1 s u w k:=fun a b va vb u w k=>ih A.in1 a b va vb u w k (by show A.units+1+n<cLine;omega)
  have s1:=h1.shape
  have s2:=h2.shape
  have lst:∀ {i:Nat} {v:V} {u:Value} {ds:List D},ff X.K H r (.ref i) v→RelV v u→Ev.bw h i=some ds→∃ p us,u=.ref p∧PlainL s.heap p (List.toArray us):=fun {i v u ds} hv ru el=>by
   obtain ⟨p,rfl,z⟩:=hv
   cases ru
   obtain ⟨us,pl⟩:=tT I hr el z
   exact ⟨p,us,rfl,pl⟩
  have tup:∀ {ds:List D} {v:V} {u:Value},ff X.K H r (.tup ds) v→RelV v u→∃ p us,u=.ref p∧s.heap.IsTuple p (List.toArray us):=fun {ds v u} hv ru=>by
   obtain ⟨p,vs,rfl,z,_⟩:=hv
   cases ru
   obtain ⟨us,_,pt,_⟩:=I.tuple z
   exact ⟨p,us,rfl,pt⟩
  cases a with
  | bz=>cases e
  | bl _=>cases e
  | int x=>
   simp only [ff] at s1;subst s1;obtain ⟨t0,rfl⟩:=r1
   cases b with
   | bz=>cases e
   | bl _=>cases e
   | int y=>simp only [ff] at s2;subst s2;obtain ⟨t,rfl⟩:=r2;cases e;exact ⟨.int_int _ _ _ _,.int_int _ _ _ _,.int_int _ _ _ _⟩
   | str y=>simp only [ff] at s2;subst s2;obtain ⟨t,rfl⟩:=r2;cases e;exact ⟨.int_str _ _ _ _,.int_str _ _ _ _,.int_str _ _ _ _⟩
   | tup y=>obtain ⟨p,us,rfl,pt⟩:=tup s2 r2;cases e;exact ⟨.int_tuple _ _ pt dB,.int_tuple _ _ pt dB,.int_tuple _ _ pt dB⟩
   | ref m=>
    obtain ⟨ds,e1,rfl⟩:=Option.map_eq_some_iff.mp e
    obtain ⟨p,us,rfl,pl⟩:=lst s2 r2 e1
    exact ⟨.int_list _ _ pl.isList dB,.int_list _ _ pl.isList dB,.int_list _ _ pl.isList dB⟩
  | str x=>
   simp only [ff] at s1;subst s1;obtain ⟨t0,rfl⟩:=r1
   cases b with
   | bz=>cases e
   | bl _=>cases e
   | int y=>simp only [ff] at s2;subst s2;obtain ⟨t,rfl⟩:=r2;cases e;exact ⟨.str_int _ _ _ _,.str_int _ _ _ _,.str_int _ _ _ _⟩
   | str y=>
    simp only [ff] at s2;subst s2;obtain ⟨t,rfl⟩:=r2
    cases e
    rw [←GH]
    exact ⟨.str_str _ _ _ _,.str_str _ _ _ _,.str_str _ _ _ _⟩
   | tup y=>obtain ⟨p,us,rfl,pt⟩:=tup s2 r2;cases e;exact ⟨.str_tuple _ _ pt dB,.str_tuple _ _ pt dB,.str_tuple _ _ pt dB⟩
   | ref m=>
    obtain ⟨ds,e1,rfl⟩:=Option.map_eq_some_iff.mp e
    obtain ⟨p,us,rfl,pl⟩:=lst s2 r2 e1
    exact ⟨.str_list _ _ pl.isList dB,.str_list _ _ pl.isList dB,.str_list _ _ pl.isList dB⟩
  | tup x=>
   cases b with
   | tup y=>
    obtain ⟨p,vs,rfl,z,w1⟩:=s1
    obtain ⟨p',vs',rfl,z',w2⟩:=s2
    cases r1;cases r2
    exact GI I hr dB z z' w1 w2 ih' e
   | bz=>cases e
   | bl _=>cases e
   | int y=>obtain ⟨p,us,rfl,pt⟩:=tup s1 r1;simp only [ff] at s2;subst s2;obtain ⟨t,rfl⟩:=r2;cases e;exact ⟨.tuple_int _ _ pt dB,.tuple_int _ _ pt dB,.tuple_int _ _ pt dB⟩
   | str y=>obtain ⟨p,us,rfl,pt⟩:=tup s1 r1;simp only [ff] at s2;subst s2;obtain ⟨t,rfl⟩:=r2;cases e;exact ⟨.tuple_str _ _ pt dB,.tuple_str _ _ pt dB,.tuple_str _ _ pt dB⟩
   | ref m=>
    obtain ⟨p,us,rfl,pt⟩:=tup s1 r1
    obtain ⟨ds,e1,rfl⟩:=Option.map_eq_some_iff.mp e
    obtain ⟨p',us',rfl,pl⟩:=lst s2 r2 e1
    exact ⟨.tuple_list pt pl.isList dB,.tuple_list pt pl.isList dB,.tuple_list pt pl.isList dB⟩
  | ref i=>
   cases b with
   | ref m=>
    replace e:Ev.jG h (Ev.gz h n) i m=some k:=e
    unfold Ev.jG at e
    split at e
    ·rename_i Vo
     subst Vo
     simp only [Option.map_eq_some_iff] at e
     obtain ⟨ds,e1,rfl⟩:=e
     obtain ⟨p,us,rfl,pl⟩:=lst s1 r1 e1
     obtain ⟨p0,rfl,z⟩:=s1
     obtain ⟨p1,rfl,z'⟩:=s2
     rw [z] at z';cases z'
     cases r1;cases r2
     have q:(List.range (List.toArray us).size).all (fun _=>true)=true:=by simp
     have rc:=RcAt.lists (A:=A) (e:=fun _=>true) pl.isList pl.isList rfl dB fun j _ _=>EqAt.same _
     have ne:=RcNeAt.lists (A:=A) (e:=fun _=>true) pl.isList pl.isList rfl dB fun j _ _=>EqAt.same _
     rw [q] at rc ne
     exact ⟨.same _,rc,ne⟩
    ·rename_i hne
     obtain ⟨p0,rfl,z⟩:=s1
     obtain ⟨p1,rfl,z'⟩:=s2
     cases r1;cases r2
     split at e
     ·rename_i x y g1 g2
      obtain ⟨q0,q1,EC,q2,q3⟩:=hr.ob _ _ g1
      obtain ⟨q4,q5,ED,q6,q7⟩:=hr.ob _ _ g2
      rw [z] at q1;cases q1
      rw [z'] at q5;cases q5
      exact oz I dB (.of q2) (.of q6) q3 q7 (fun w=>hne (hr.inj _ _ _ _ _ z (by rw [w];exact z') g1 g2)) ih' e
     ·rename_i x y g1 g2
      obtain ⟨q0,q1,EC,q2,q3⟩:=hr.ob _ _ g1
      obtain ⟨q4,q5,ED,q6,q7⟩:=hr.ob _ _ g2
      rw [z] at q1;cases q1
      rw [z'] at q5;cases q5
      exact oz I dB (EE q2) (.of q6) q3 q7 (nc I q2 q6) ih' e
     ·rename_i x y g1 g2
      obtain ⟨q0,q1,EC,q2,q3⟩:=hr.ob _ _ g1
      obtain ⟨q4,q5,ED,q6,q7⟩:=hr.ob _ _ g2
      rw [z] at q1;cases q1
      rw [z'] at q5;cases q5
      exact oz I dB (.of q2) (EE q6) q3 q7 (nc I q6 q2).symm ih' e
     ·cases e
   | bz=>cases e
   | bl _=>cases e
   | int y=>obtain ⟨ds,e1,rfl⟩:=Option.map_eq_some_iff.mp e;obtain ⟨p,us,rfl,pl⟩:=lst s1 r1 e1;simp only [ff] at s2;subst s2;obtain ⟨t,rfl⟩:=r2;exact ⟨.list_int _ _ pl.isList dB,.list_int _ _ pl.isList dB,.list_int _ _ pl.isList dB⟩
   | str y=>obtain ⟨ds,e1,rfl⟩:=Option.map_eq_some_iff.mp e;obtain ⟨p,us,rfl,pl⟩:=lst s1 r1 e1;simp only [ff] at s2;subst s2;obtain ⟨t,rfl⟩:=r2;exact ⟨.list_str _ _ pl.isList dB,.list_str _ _ pl.isList dB,.list_str _ _ pl.isList dB⟩
   | tup y=>
    obtain ⟨ds,e1,rfl⟩:=Option.map_eq_some_iff.mp e
    obtain ⟨p,us,rfl,pl⟩:=lst s1 r1 e1
    obtain ⟨p',us',rfl,pt⟩:=tup s2 r2
    exact ⟨.list_tuple pl.isList pt dB,.list_tuple pl.isList pt dB,.list_tuple pl.isList pt dB⟩
where
 EE {K:PySem.W.Frag} {H:Hp} {a:Addr} {vs:List V} (q:xU K H a vs):dY K H a vs:=by
  rcases q with ⟨ob,e2⟩ | e2
  ·exact .inl (.inr ⟨ob,e2⟩)
  ·exact .inr e2
end
theorem Good.units {G:Tb}{n:Nat}{sc:Scope}{N:List Str}{df:Bool}{X:Cx}(g:Good G n sc N df X):X.A.units+1+Ev.deep<cLine:=by
 have:=g.room.un
 have:Ev.deep=20:=rfl
 omega
section
variable {G:Tb}{n:Nat}{sc:Scope}{N:List Str}{df:Bool}{X:Cx}
theorem qu {pins:List (Addr×Obj)}{σ:L2.St}{H:Hp}{s:Shared}{Q:VK}{r:List Addr}{h:Hh}{k:Bool}(I:Inv X pins σ H s) (hr:HR X.K H r h) (q:Res X.K r H h (.bl k) Q):EP X pins σ Q (.bool k) s:=
 ⟨.bl k,H,I,rfl,q.here rfl hr⟩
theorem dc (g:Good G n sc N df X):dZ X (compareOp .Eq) (iK X.K (ir .eq)):=by
 intro pins s σ H x y v u Q I rx ry q
 obtain ⟨r,h,a,b,d,h',hr,v1,v2,e,q⟩:=q
 obtain ⟨k,e1,rfl,rfl⟩:=kC e
 have:=g.units
 exact (yc I hr Ev.deep X.A a b x y v u k (by omega) v1 v2 rx ry e1).rc _ _ _ _ (qu I hr q)
theorem dN (g:Good G n sc N df X):dZ X (compareOp .NotEq) (iK X.K (ir .ne)):=by
 intro pins s σ H x y v u Q I rx ry q
 obtain ⟨r,h,a,b,d,h',hr,v1,v2,e,q⟩:=q
 obtain ⟨k,e1,rfl,rfl⟩:=kC e
 have:=g.units
 delta Ev.cop at e1;dsimp only at e1;simp only [Option.map_eq_some_iff] at e1
 obtain ⟨k',e2,rfl⟩:=e1
 exact (yc I hr Ev.deep X.A a b x y v u k' (by omega) v1 v2 rx ry e2).ne _ _ _ _ (qu I hr q)
theorem zY {op:CmpOp}{o:bY}{p:Int→Int→Bool}(ho:dZ X (compareOp op) (sW fun i j=>.bl (p i j))) (hc:∀ a b h k,Ev.cop o a b h=some k→∃ i j,a=.int i∧b=.int j∧k=p i j):dZ X (compareOp op) (iK X.K (ir o)):=by
 intro pins s σ H x y v u Q I rx ry q
 obtain ⟨r,h,a,b,d,h',hr,v1,v2,e,q⟩:=q
 obtain ⟨k,e1,rfl,rfl⟩:=kC e
 obtain ⟨i,j,rfl,rfl,rfl⟩:=hc _ _ _ _ e1
 exact ho pins s σ H x y v u Q I rx ry ⟨i,j,v1,v2,q.here rfl hr⟩
theorem EF:dZ X (compareOp .Lt) (iK X.K (ir .lt)):=zY N1 fun a b h k e=>by
 cases a <;> cases b <;> (delta Ev.cop at e;dsimp only at e) <;> first | (cases e;exact ⟨_,_,rfl,rfl,rfl⟩) | cases e
theorem sq:dZ X (compareOp .Gt) (iK X.K (ir .gt)):=zY N2 fun a b h k e=>by
 cases a <;> cases b <;> (delta Ev.cop at e;dsimp only at e) <;> first | (cases e;exact ⟨_,_,rfl,rfl,rfl⟩) | cases e
end
end Sm
set_option maxRecDepth 100000
namespace Sm
open PySem PySem.Spec PyProof.Rows L2 PySem.SeqAt
open Ev (D O Hh Fr R aU E Es Eo T S Ss Fl Src cF bY TY BI ME)
theorem vY {h:Hh}{x:D}:∀ {ys:List D}{k:Bool},Ev.mem h x ys=some k→∃ e:Nat→Bool,(∀ (j:Nat) y,ys[j]?=some y→Ev.gz h Ev.deep y x=some (e j))∧(List.range ys.length).any e=k
 | [],_,e=>⟨fun _=>true,(fun j y h=>by simp at h),by cases e;simp⟩
 | y :: ys,k,e=>by
  simp only [Ev.mem,Option.bind_eq_bind,Option.bind_eq_some_iff] at e
  obtain ⟨p,e1,q,e2,e3⟩:=e
  cases e3
  obtain ⟨e,h1,h2⟩:=vY e2
  refine ⟨fun j=>match j with | 0=>p | j+1=>e j,fun j y' g=>?_,?_⟩
  ·cases j with
   | zero=>simp at g;subst g;exact e1
   | succ j=>exact h1 j y' (by simpa using g)
  ·rw [List.length_cons,List.range_succ_eq_map,List.any_cons,List.any_map,←h2]
   rfl
section
variable {X:Cx}{pins:List (Addr×Obj)}{σ:L2.St}{H:Hp}{s:Shared}{r:List Addr}{h:Hh}
open Classical in
theorem vZ (I:Inv X pins σ H s) (hr:HR X.K H r h) {A:Around}(hu:A.units+1+Ev.deep<cLine) {x:D}{vx:V}{ux:Value}(v1:RV X.K H r x vx) (rx:RelV vx ux) {ys:List D}{vs:List V}{us:List Value}(v2:aJ X.K H r ys vs) (p2:Vals vs us) {k:Bool}(e:Ev.mem h x ys=some k) :
  ∃ f:Value→Bool,(∀ y,y∈us.toArray→EqAt A.in1 s y ux (f y))∧us.toArray.any f=k:=by
 obtain ⟨e',h1,h2⟩:=vY e
 have l1:=v2.length
 have l2:=p2.length
 have at':∀ (j:Nat) (hj:j<us.length),EqAt A.in1 s us[j] ux (e' j):=fun j hj=>by
  have ha:ys[j]?=some ys[j]:=List.getElem?_eq_getElem (by omega)
  obtain ⟨va,a1,a2⟩:=v2.get ha
  obtain ⟨u,a3,a4⟩:=p2.get a1
  have eu:us[j]=u:=(List.getElem?_eq_some_iff.mp a3).2
  rw [eu]
  exact (yc I hr Ev.deep A.in1 _ _ _ _ _ _ _ (by show A.units+1+Ev.deep<cLine;exact hu) a2 v1 a4 rx (h1 j _ ha)).eq
 refine ⟨fun y=>decide (∃ j,∃ hj:j<us.length,us[j]=y∧e' j=true),fun y hy=>?_,?_⟩
 ·by_cases hx:∃ j,∃ hj:j<us.length,us[j]=y∧e' j=true
  ·obtain ⟨j,hj,rfl,ej⟩:=hx
   have q:=at' j hj
   rw [ej] at q
   have:decide (∃ j',∃ hj':j'<us.length,us[j']=us[j]∧e' j'=true)=true:=decide_eq_true ⟨j,hj,rfl,ej⟩
   show EqAt A.in1 s us[j] ux (decide (∃ j',∃ hj':j'<us.length,us[j']=us[j]∧e' j'=true))
   rw [this]
   exact q
  ·show EqAt A.in1 s y ux (decide (∃ j',∃ hj':j'<us.length,us[j']=y∧e' j'=true))
   rw [decide_eq_false hx]
   have hy':y∈us:=by simpa using hy
   obtain ⟨j,hj,rfl⟩:=List.getElem_of_mem hy'
   have q:=at' j hj
   have:e' j=false:=by
    cases z:e' j with
    | false=>rfl
    | true=>exact absurd ⟨j,hj,rfl,z⟩ hx
   rw [this] at q
   exact q
 ·rw [←h2,Bool.eq_iff_iff,Array.any_eq_true',List.any_eq_true]
  constructor
  ·rintro ⟨y,hy,hd⟩
   obtain ⟨j,hj,_,ej⟩:=of_decide_eq_true hd
   exact ⟨j,List.mem_range.mpr (by omega),ej⟩
  ·rintro ⟨j,hj,ej⟩
   have hj':j<us.length:=by have:=List.mem_range.mp hj;omega
   exact ⟨us[j],by simp,decide_eq_true ⟨j,hj',rfl,ej⟩⟩
end
section
variable {G:Tb}{n:Nat}{sc:Scope}{N:List Str}{df:Bool}{X:Cx}
theorem in_of (g:Good G n sc N df X) {pins:List (Addr×Obj)}{σ:L2.St}{H:Hp}{s:Shared}{r:List Addr}{h:Hh}(I:Inv X pins σ H s) (hr:HR X.K H r h) {a b:D}{x y:V}{v u:Value}{k:Bool}(v1:RV X.K H r a x) (v2:RV X.K H r b y) (rx:RelV x v) (ry:RelV y u) (e:Ev.isin a b h=some k) :
  (∀ Q:Value→Shared→Prop,∀ E:Value→Shared→Prop,Q (.bool k) s→wpAny (model X.prog X.w) X.A (compareOp .In v u) Q E s)∧(∀ Q:Value→Shared→Prop,∀ E:Value→Shared→Prop,Q (.bool (!k)) s→wpAny (model X.prog X.w) X.A (compareOp .NotIn v u) Q E s):=by
 have hu:=g.units
 cases b with
 | str l=>
  cases a with
  | str c=>
   have s1:=v1.shape
   have s2:=v2.shape
   simp only [ff] at s1 s2
   subst s1 s2
   obtain ⟨t,rfl⟩:=rx
   obtain ⟨t',rfl⟩:=ry
   match c,e with
   | [c],e=>
    cases e
    have q:(!(Builtin.Str.occurrences (aX l) (aX [c]) 0 (aX l).length 1).isEmpty)=l.contains c:=by
     have:=PySem.StrLaws.found_one (aX l) c
     rw [show (aX [c])=⟨#[c]⟩ from rfl,this,Bool.eq_iff_iff]
     have e1:l.contains c=true↔c∈l:=by simp
     rw [e1]
     exact ⟨fun z=>by simpa [aX] using of_decide_eq_true z,fun z=>decide_eq_true (by simpa [aX] using z)⟩
    refine ⟨fun Q E hq=>in_str (by rw [q];exact hq),fun Q E hq=>notIn_str (by rw [q];exact hq)⟩
   | [],e=>cases e
   | _ :: _ :: _,e=>cases e
  | _=>cases e
 | tup ys=>
  obtain ⟨p,vs,rfl,z,w⟩:=v2.shape
  cases ry
  obtain ⟨us,pv,pt,_⟩:=I.tuple z
  obtain ⟨f,f1,f2⟩:=vZ I hr hu v1 rx w pv e
  refine ⟨fun Q E hq=>in_tupleAt f pt f1 (by rw [f2];exact hq),fun Q E hq=>notIn_tupleAt f pt f1 (by rw [f2];exact hq)⟩
 | ref i=>
  simp only [Ev.isin,Option.bind_eq_some_iff] at e
  obtain ⟨ds,e1,e2⟩:=e
  obtain ⟨p,rfl,z⟩:=v2.shape
  cases ry
  obtain ⟨p',vs,z',q1,w⟩:=hr.read e1
  rw [z] at z';cases z'
  obtain ⟨us,pv,pl,_⟩:=I.list q1
  obtain ⟨f,f1,f2⟩:=vZ I hr hu v1 rx w pv e2
  refine ⟨fun Q E hq=>in_listAt f pl.isList f1 (by rw [f2];exact hq),fun Q E hq=>notIn_listAt f pl.isList f1 (by rw [f2];exact hq)⟩
 | _=>cases e
theorem Of (g:Good G n sc N df X):dZ X (compareOp .In) (iK X.K (ir .isin)):=by
 intro pins s σ H x y v u Q I rx ry q
 obtain ⟨r,h,a,b,d,h',hr,v1,v2,e,q⟩:=q
 obtain ⟨k,e1,rfl,rfl⟩:=kC e
 exact (in_of g I hr v1 v2 rx ry (show Ev.isin a b h'=some k by cases a <;> cases b <;> exact e1)).1 _ _ (qu I hr q)
theorem qv (a b:List Nat):aX a++aX b=aX (a++b):=by
 show Str.append (aX a) (aX b)=_
 simp [Str.append,aX]
theorem GJ {pins:List (Addr×Obj)}{σ:L2.St}{H:Hp}{s:Shared}{Q:Value→Shared→Prop}{E:Value→Shared→Prop}(I:Inv X pins σ H s) {a b:Addr}{ys:List V}(h1:dM X.K H a []) (h2:dM X.K H b ys) (q:Q (.ref b) s):wpAny (model X.prog X.w) X.A (binaryOp .Add (.ref a) (.ref b)) Q E s:=by
 obtain ⟨us,p1,Vp,_⟩:=I.tuple h1
 obtain ⟨zs,p2,Vq,_⟩:=I.tuple h2
 cases p1
 obtain ⟨⟨cls,dd,data,sl⟩,ho,hc,n,hd⟩:=id Vp
 obtain ⟨⟨Sg,dd2,data2,sl2⟩,ho2,hc2,n2,hd2⟩:=id Vq
 simp only at hc hd hc2 hd2
 subst hc hd hc2 hd2
 exact concat_meets ⟨_,ho,rfl⟩ ⟨_,ho2,rfl⟩ noFill_tuple_add seq_tuple_add PySem.F.slot_tuple_add PySem.F.entry_tuple_add (PySem.F.args_tuple_add_2 _ _)
  (tuple_addW0 a b _ _ n n2 dd dd2 sl sl2 (by simp)) ⟨ho,ho2,q⟩
theorem bA:dZ X (binaryOp .Add) (iK X.K (Ev.bR .add)):=by
 intro pins s σ H x y v u Q I rx ry q
 obtain ⟨r,h,a,b,d,h',hr,v1,v2,e,q⟩:=q
 have s1:=v1.shape
 have s2:=v2.shape
 cases a with
 | int i=>cases b with
  | int j=>cases e;exact IG pins s σ H x y v u Q I rx ry ⟨i,j,s1,s2,q.here rfl hr⟩
  | _=>cases e
 | str i=>cases b with
  | str j=>
   delta Ev.bR at e;dsimp only at e
   split at e
   ·rename_i hz
    cases e
    rw [jH] at hz
    refine xJ pins s σ H x y v u Q I rx ry ⟨aX i,aX j,s1,s2,by rw [cX,cX];exact hz,?_⟩
    rw [qv]
    exact q.here ⟨rfl,by rw [List.length_append];exact hz⟩ hr
   ·cases e
  | _=>cases e
 | tup i=>cases b with
  | tup j=>
   delta Ev.bR at e;dsimp only at e
   split at e
   ·rename_i hz
    cases e
    rw [jH] at hz
    obtain ⟨pa,vs,rfl,z1,w1⟩:=s1
    obtain ⟨pb,ws,rfl,z2,w2⟩:=s2
    have l1:=w1.length
    have l2:=w2.length
    cases vs with
    | nil=>
     cases rx;cases ry
     refine GJ I z1 z2 ⟨.ref pb,H,I,rfl,q.here ?_ hr⟩
     have:i=[]:=by cases i with | nil=>rfl | cons _ _=>simp at l1
     subst this
     exact ⟨pb,ws,rfl,z2,by simpa using w2⟩
    | cons v0 vs=>
     refine Gu pins s σ H _ _ v u Q I rx ry ⟨pa,pb,v0 :: vs,ws,rfl,rfl,z1,z2,by simp,by rw [l1,l2];exact hz,fun hw=>?_,fun hw p hp=>?_⟩
     ·subst hw
      have:j=[]:=by cases j with | nil=>rfl | cons _ _=>simp at l2
      subst this
      exact q.here ⟨pa,v0 :: vs,rfl,z1,by simpa using w1⟩ hr
     ·exact q.tup (w1.append w2) hr hp
   ·cases e
  | _=>cases e
 | ref i=>cases b with
  | ref j=>
   delta Ev.bR at e;dsimp only at e
   split at e
   ·rename_i ds es e1 e2
    obtain ⟨pa,rfl,z1⟩:=s1
    obtain ⟨pb,rfl,z2⟩:=s2
    cases rx;cases ry
    obtain ⟨p1,g1,vs,g2,g3⟩:=hr.ob _ _ e1
    obtain ⟨p2,k1,ws,k2,k3⟩:=hr.ob _ _ e2
    rw [z1] at g1;cases g1
    rw [z2] at k1;cases k1
    obtain ⟨hz,q2⟩:=q.lst e (g3.append k3) hr
    exact Jc pins s σ H (.ref pa) (.ref pb) _ _ Q I rfl rfl ⟨_,_,vs,ws,rfl,rfl,g2,k2,by rw [List.length_append] at hz;exact hz,q2⟩
   ·cases e
  | _=>cases e
 | _=>cases b <;> cases e
theorem zZ:dZ X (binaryOp .Sub) (iK X.K (Ev.bR .sub)):=by
 intro pins s σ H x y v u Q I rx ry q
 obtain ⟨r,h,a,b,d,h',hr,v1,v2,e,q⟩:=q
 cases a with
 | int i=>cases b with
  | int j=>cases e;exact II pins s σ H x y v u Q I rx ry ⟨i,j,v1,v2,q.here rfl hr⟩
  | _=>cases e
 | _=>cases b <;> cases e
theorem ng:dZ X (binaryOp .FloorDiv) (iK X.K (Ev.bR .fdiv)):=by
 intro pins s σ H x y v u Q I rx ry q
 obtain ⟨r,h,a,b,d,h',hr,v1,v2,e,q⟩:=q
 cases a with
 | int i=>cases b with
  | int j=>
   delta Ev.bR at e;dsimp only at e
   split at e
   ·rename_i hz;cases e;exact Gj pins s σ H x y v u Q I rx ry ⟨i,j,v1,v2,hz,q.here rfl hr⟩
   ·cases e
  | _=>cases e
 | _=>cases b <;> cases e
theorem kF:dZ X (binaryOp .Mod) (iK X.K (Ev.bR .mod)):=by
 intro pins s σ H x y v u Q I rx ry q
 obtain ⟨r,h,a,b,d,h',hr,v1,v2,e,q⟩:=q
 cases a with
 | int i=>cases b with
  | int j=>
   delta Ev.bR at e;dsimp only at e
   split at e
   ·rename_i hz;cases e;exact IK pins s σ H x y v u Q I rx ry ⟨i,j,v1,v2,hz,q.here rfl hr⟩
   ·cases e
  | _=>cases e
 | _=>cases b <;> cases e
end
end Sm
set_option maxRecDepth 100000
namespace Sm
open PySem PySem.Spec PyProof.Rows L2 PySem.SeqAt
open Ev (D O Hh Fr R aU E Es Eo T S Ss Fl Src cF bY TY BI ME)
section
variable {X:Cx}
theorem JB (n:Nat) (i:Int):Ev.eG n i=L2.eG n i:=rfl
theorem JD {α:Type}(xs:List α) (i:Int):Ev.bU xs i=L2.bU xs i:=rfl
theorem aJ.bU {K:PySem.W.Frag}{H:Hp}{r:List Addr}{ds:List D}{vs:List V}{i:Int}{d:D}(w:aJ K H r ds vs) (e:Ev.bU ds i=some d):∃ v,L2.bU vs i=some v∧RV K H r d v:=by
 unfold Ev.bU at e
 obtain ⟨j,e1,e2⟩:=Option.bind_eq_some_iff.mp e
 obtain ⟨v,e3,e4⟩:=w.get e2
 exact ⟨v,by unfold L2.bU;rw [w.length,←JB,e1];exact e3,e4⟩
theorem bE:vL X (iK X.K Jm):=by
 intro value slice pins s σ H x y v u Q I rx ry q hs
 obtain ⟨r,h,a,b,d,h',hr,v1,v2,e,q⟩:=q
 obtain ⟨e,rfl⟩:=Ev.aM e
 cases b with
 | int i=>
  have s2:=v2.shape
  cases a with
  | tup ds=>
   obtain ⟨p,vs,rfl,z,w⟩:=v1.shape
   obtain ⟨v',g1,g2⟩:=w.bU e
   exact IX value slice pins s σ H _ y v u Q I rx ry ⟨p,vs,i,v',rfl,s2,z,g1,q.here g2 hr⟩ hs
  | str l=>
   simp only [RV] at v1
   obtain ⟨rfl,hl⟩:=v1
   simp only [Ev.eH,Option.map_eq_some_iff] at e
   obtain ⟨c,e1,rfl⟩:=e
   exact IY value slice pins s σ H _ y v u Q I rx ry ⟨aX l,i,c,rfl,s2,by rw [cX];exact hl,by simpa [aX,JD] using e1,q.here ⟨rfl,by show 1≤sizeLine;decide⟩ hr⟩ hs
  | ref m=>
   simp only [Ev.eH,Option.bind_eq_some_iff] at e
   obtain ⟨ds,e1,e2⟩:=e
   obtain ⟨p,rfl,z⟩:=v1.shape
   obtain ⟨p',vs,z',q1,w⟩:=hr.read e1
   rw [z] at z';cases z'
   obtain ⟨v',g1,g2⟩:=w.bU e2
   exact Gw value slice pins s σ H _ y v u Q I rx ry ⟨p,vs,i,v',rfl,s2,q1,g1,q.here g2 hr⟩ hs
  | _=>cases e
 | _=>cases a <;> cases e
theorem aJ.cut {K:PySem.W.Frag}{H:Hp}{r:List Addr}{ds:List D}{vs:List V}(w:aJ K H r ds vs) (lo hi:Option Int):aJ K H r (Ev.cut ds lo hi) (lZ vs lo hi):=by
 unfold Ev.cut lZ
 rw [w.length]
 exact (w.drop _).take _
theorem rE {α:Type}(xs:List α) (lo hi:Option Int) (h:Ev.aR xs.length 0 lo=0∧Ev.aR xs.length xs.length hi=xs.length):Ev.cut xs lo hi=xs:=by
 unfold Ev.cut
 rw [h.1,h.2]
 simp
theorem GK {α:Type}(xs:List α) (lo hi:Option Int):(Ev.cut xs lo hi).length≤xs.length:=by
 unfold Ev.cut
 rw [List.length_take,List.length_drop]
 omega
theorem rR {prog:Program}{w:World}{A:Around}{E:Value→Shared→Prop}{s:Shared}{t sl:Addr}{items:Array Value}{vl vu:Value}{lo hi:Option Int}{Q:Value→Shared→Prop}(ht:IsTup s.heap t items)(hs:s.heap.IsSliceOf sl vl vu .none)(pl:IsPart vl lo)(pu:IsPart vu hi)
  (hw:HT.aR items.size 0 lo=0∧HT.aR items.size items.size hi=items.size) (h:Q (.ref t) s):wpAny (model prog w) A (getItem (.ref t) (.ref sl)) Q E s:=by
 obtain ⟨os,hos,hcs,hds⟩:=id hs
 have zy:s.TypeIs (.ref sl) "slice" :=⟨os,hos,hcs⟩
 unfold getItem
 try with_reducible refine wpAny_holding ?_
 first | refine wpAny_bind (wpAny_pure ?_) | skip
 refine wpAny_bind (wpAny_sequenceKey ht.typeIs (by decide) ?_)
 refine wpAny_bind (wpAny_callSpecial?_slot (name:=Str.ofString "__getitem__") ht.typeIs PyProof.Rows.slot_tuple_getitem
  (wpAny_call_entry PyProof.Rows.slot_tuple_getitem ht.typeIs entry_tuple_getitem ?_ (args_tuple_getitem _ _)))
 show wpAny _ _ (Builtin.Tuple.tupleItemsOf (.ref t) >>= _) _ _ s
 refine wpAny_bind (tupleItemsOf_ ht ?_)
 refine wpAny_bind (wpAny_typeOf zy ?_)
 rw [if_pos (by decide)]
 refine wpAny_bind (HT.jC hs pl pu ?_)
 have hyes:(((HT.aR items.size 0 lo:Nat):Int)==0&&(1:Int)==1&&(HT.aR items.size items.size hi - HT.aR items.size 0 lo)==items.size)=true:=by
  rw [hw.1,hw.2];simp
 show wpAny _ _ (if (((HT.aR items.size 0 lo:Nat):Int)==0&&(1:Int)==1&&(HT.aR items.size items.size hi - HT.aR items.size 0 lo)==items.size)=true then _ else _) _ _ s
 rw [if_pos hyes]
 refine wpAny_bind (m:=Builtin.Tuple.tupleIsExact (.ref t)) (wpAny_bind (wpAny_typeOf ht.typeIs (wpAny_pure ?_)))
 show wpAny _ _ (if ((Value.type "tuple" ==Value.type "tuple")=true) then _ else _) _ _ s
 rw [if_pos (by decide)]
 exact wpAny_bind (wpAny_rule (wpAny_bind (wpAny_pure (wpAny_pure ⟨_,rfl,wpAny_pure h⟩))))
theorem Aa (lo hi:Option Int) (n:Nat):Builtin.Str.strSliceIndices lo hi 1 n=(List.range (Ev.aR n n hi - Ev.aR n 0 lo)).map (fun k=>Ev.aR n 0 lo+k):=by
 have JF:∀ o:Option Int,((match o with | none=>(0:Int) | some i=>max 0 (min (if i<0 then i+(n:Int) else i) (n:Int))))=((Ev.aR n 0 o:Nat):Int):=fun o=>by
  cases o with
  | none=>rfl
  | some i=>simp only [Ev.aR];split <;> omega
 have JH:∀ o:Option Int,((match o with | none=>(n:Int) | some i=>max 0 (min (if i<0 then i+(n:Int) else i) (n:Int))))=((Ev.aR n n o:Nat):Int):=fun o=>by
  cases o with
  | none=>rfl
  | some i=>simp only [Ev.aR];split <;> omega
 have e:Builtin.Str.strSliceIndices lo hi 1 n=sliceRange (match lo with | none=>(0:Int) | some i=>max 0 (min (if i<0 then i+(n:Int) else i) (n:Int))) (match hi with | none=>(n:Int) | some i=>max 0 (min (if i<0 then i+(n:Int) else i) (n:Int))) 1:=by
  unfold Builtin.Str.strSliceIndices
  cases lo <;> cases hi <;> simp
 rw [e,JF,JH,sliceRange_one]
theorem JJ (l:List Nat) (lo hi:Option Int):((Builtin.Str.strSliceIndices lo hi 1 (aX l).length).filterMap ((aX l).cps[·]?)).toArray=(Ev.cut l lo hi).toArray:=by
 rw [cX,Aa,pick_run]
 simp [aX,Ev.cut]
theorem fF:ku X (Jj X.K):=by
 intro pins s σ H x v vl vu lo hi sl Q I rx hs pl pu q
 obtain ⟨r,h,a,d,h',hr,v1,e,q⟩:=q
 cases a with
 | tup ds=>
  cases e
  obtain ⟨p,vs,rfl,z,w⟩:=v1.shape
  by_cases hw:HT.aR vs.length 0 lo=0∧HT.aR vs.length vs.length hi=vs.length
  ·cases rx
   obtain ⟨us,pv,pt,hz⟩:=I.tuple z
   have hl:=pv.length
   have Vr:Ev.aR ds.length 0 lo=0∧Ev.aR ds.length ds.length hi=ds.length:=by rw [←w.length];exact hw
   refine ⟨"tuple",_,PyProof.Rows.slot_tuple_getitem.lookup,pt.typeIs,?_⟩
   refine rR pt hs pl pu (by rw [List.size_toArray,←hl];exact hw) ⟨.ref p,H,I,rfl,q.here ?_ hr⟩
   rw [rE ds lo hi Vr]
   exact ⟨p,vs,rfl,z,w⟩
  ·exact IW pins s σ H _ v vl vu lo hi sl Q I rx hs pl pu ⟨p,vs,rfl,z,hw,fun p' hp=>q.tup (w.cut lo hi) hr hp⟩
 | str l=>
  simp only [RV] at v1
  obtain ⟨rfl,hl⟩:=v1
  obtain ⟨t,rfl⟩:=rx
  cases e
  refine ⟨"str",_,PySem.F.slot_str_getitem.lookup,typeIs_str s _ t,?_⟩
  have part:∀ {v:Value} {o:Option Int},IsPart v o→∃ p:Option (Int×Tok),v=partValue p∧p.map (·.1)=o:=fun {v o} hp=>by
   cases hp with
   | none=>exact ⟨none,rfl,rfl⟩
   | int i t=>exact ⟨some (i,t),rfl,rfl⟩
  obtain ⟨l1,e1,e2⟩:=part pl
  obtain ⟨u1,e3,e4⟩:=part pu
  subst e1 e3
  obtain ⟨os,hos,hcs,hds⟩:=hs
  refine wpAny_getItem_str_slice (l:=l1) (u:=u1) (st:=none) ⟨os,hos,hcs,hds⟩ rfl ?_
  have EG:((slicePicked (aX l) l1 u1 none).filterMap ((aX l).cps[·]?)).toArray=(Ev.cut l lo hi).toArray:=by
   show ((Builtin.Str.strSliceIndices (l1.map (·.1)) (u1.map (·.1)) 1 (aX l).length).filterMap ((aX l).cps[·]?)).toArray=_
   rw [e2,e4]
   exact JJ l lo hi
  have hcl:=GK l lo hi
  unfold sliceMade
  refine post_val_or_made (fun _=>?_) fun t' k=>?_
  ·rw [EG]
   show (Ev.cut l lo hi).toArray.size≤sizeLine
   simp only [List.size_toArray]
   omega
  ·have hres:(if (((none:Option (Int×Tok)).map (·.1)).getD 1==1&&(slicePicked (aX l) l1 u1 none).length==(aX l).length)=true then aX l else (⟨((slicePicked (aX l) l1 u1 none).filterMap ((aX l).cps[·]?)).toArray⟩:Str))=aX (Ev.cut l lo hi):=by
    split
    ·rename_i hc
     rw [Bool.and_eq_true] at hc
     have hlen:(slicePicked (aX l) l1 u1 none).length=(aX l).length:=eq_of_beq hc.2
     have hlen2:(slicePicked (aX l) l1 u1 none).length=Ev.aR l.length l.length hi - Ev.aR l.length 0 lo:=by
      show (Builtin.Str.strSliceIndices (l1.map (·.1)) (u1.map (·.1)) 1 (aX l).length).length=_
      rw [e2,e4,Aa,cX]
      simp
     rw [cX] at hlen
     have hb:Ev.aR l.length l.length hi≤l.length:=HT.sZ _ _ (Nat.le_refl _) hi
     have ha:Ev.aR l.length 0 lo≤l.length:=HT.sZ _ _ (Nat.zero_le _) lo
     rw [rE l lo hi ⟨by omega,by omega⟩]
    ·rw [EG];rfl
   rw [hres]
   exact ⟨.str (aX (Ev.cut l lo hi)),H,I.tok _,⟨_,rfl⟩,q.here ⟨rfl,by omega⟩ hr⟩
 | ref m=>
  simp only [Ev.eV] at e
  split at e
  ·rename_i ds e1
   obtain ⟨p,rfl,z⟩:=v1.shape
   obtain ⟨p',vs,z',q1,w⟩:=hr.read e1
   rw [z] at z';cases z'
   obtain ⟨hz,q2⟩:=q.lst e (w.cut lo hi) hr
   exact Gx pins s σ H _ v vl vu lo hi sl Q I rx hs pl pu ⟨p,vs,rfl,q1,q2⟩
  ·cases e
 | _=>cases e
theorem tU:∀ (k:Nat) (l:List Nat) (acc:List Nat),(List.replicate k l.toArray).foldl (·++·) acc.toArray=(acc++Ev.rep k l).toArray
 | 0,l,acc=>by simp [Ev.rep]
 | k+1,l,acc=>by
  rw [List.replicate_succ,List.foldl_cons]
  have:acc.toArray++l.toArray=(acc++l).toArray:=by simp
  rw [this,tU k l (acc++l)]
  simp [Ev.rep,List.replicate_succ]
theorem nh {α:Type}(k:Nat) (l:List α):(Ev.rep k l).length=k*l.length:=by
 unfold Ev.rep
 exact len_rep l k
theorem GL {l:List Nat}{k:Int}(h:0≤k):Txt.mul (aX l) k=aX (Ev.rep k.toNat l):=by
 unfold Txt.mul
 by_cases h1:k<1
 ·have:k=0:=by omega
  subst this
  rw [if_pos (by decide)]
  rfl
 ·rw [if_neg h1]
  split
  ·rename_i hc
   rw [Bool.or_eq_true] at hc
   rcases hc with hc | hc
   ·have:k=1:=by simpa using hc
    subst this
    simp [Ev.rep]
   ·rw [cX] at hc
    have:l=[]:=by cases l with | nil=>rfl | cons _ _=>simp at hc
    subst this
    simp [Ev.rep,aX]
  ·show (⟨(List.replicate k.toNat (aX l).cps).foldl (·++·) #[]⟩:Str)=_
   have:=tU k.toNat l []
   simp only [List.nil_append] at this
   exact congrArg Str.mk this
theorem jW {a b:Nat}(h1:a≤1000) (h2:b≤1000):a*b≤sizeLine:=Nat.le_trans (Nat.mul_le_mul h1 h2) (by decide)
theorem GN {pins:List (Addr×Obj)}{σ:L2.St}{H:Hp}{s:Shared}{Q:VK}(I:Inv X pins σ H s) {l:List Nat}{k:Int}{t u:Tok}(hk:0≤k∧k≤1000∧l.length≤1000) (q:Q (.str (aX (Ev.rep k.toNat l))) H) :
  wpAny (model X.prog X.w) X.A (binaryOp .Mult (.str (aX l) t) (.int k u)) (EP X pins σ Q) X.xe s:=by
 have hok:MulOk (aX l) k:=mulOk_of 1000 1000 (by rw [cX];exact hk.2.2) (by exact hk.2.1) (by omega) (by decide) (by decide)
 refine SB.mul hok fun t' k'=>?_
 rw [GL hk.1]
 exact ⟨.str _,H,I.tok _,⟨_,rfl⟩,q⟩
theorem oA:fillsNumberSlot (.type "tuple") "mul" = pure false:=
 PySem.fillsNumberSlot_seq (id:="tuple.__mul__") (r:=some (.builtin "tuple.__rmul__")) PySem.F.slot_tuple_mul.lookup (by decide +kernel) PySem.F.slot_tuple_rmul.lookup (by decide +kernel)
theorem tV:seqRepeat? (.type "tuple")=pure (some (.builtin "tuple.__mul__")):=by
 unfold seqRepeat?
 rw [PySem.seqSlot_of (T:="tuple") (name:="__mul__") (id:="tuple.__mul__") PySem.F.slot_tuple_mul.lookup (by decide +kernel),PySem.seqSlot_of (T:="tuple") (name:="__rmul__") (id:="tuple.__rmul__") PySem.F.slot_tuple_rmul.lookup (by decide +kernel)]
 rfl
theorem yd (a:Int) (t:Tok) (l:Addr) (items:Array Value) (n:Nat) (dd:Option Addr) (sl:Array (Option Value)) :
  Meets (Builtin.«int.__rmul__» ⟨[.int a t,.ref l],[]⟩) (fun _ R s=>s.heap.get? l=some { cls:=.type "tuple",dict:=dd,data:=.seq items n,slots:=sl }∧R (.ok (.ret Value.notImplemented)) s):=
 .of_wp fun prog w A R s h=>by obtain ⟨hp,g,d,tk,os⟩:=s;obtain ⟨hl,h⟩:=h;wp_walk;exact ⟨_,rfl,h⟩
theorem ye (l:Addr) (items:Array Value) (n:Nat) (dd:Option Addr) (sl:Array (Option Value)) (k:Int) (u:Tok) (h1:¬ (decide (k < -2 ^ 63) || decide (k≥2 ^ 63))=true) (h3:(items.isEmpty || k==1)=true) :
  Meets (Builtin.«tuple.__mul__» ⟨[.ref l,.int k u],[]⟩) (fun _ R s=>s.heap.get? l=some { cls:=.type "tuple",dict:=dd,data:=.seq items n,slots:=sl }∧R (.ok (.ret (.ref l))) s):=
 .of_wp fun prog w A R s h=>by obtain ⟨hp,g,d,tk,os⟩:=s;obtain ⟨hl,h⟩:=h;have f1:=AutoSeq1.idx_int;wp_walk using AutoSeq1.wpAny_loadPart' hl;rw [if_neg h1];wp_walk using AutoSeq1.wpAny_loadPart' hl;exact ⟨_,rfl,h⟩
theorem yf (l:Addr) (items:Array Value) (n:Nat) (dd:Option Addr) (sl:Array (Option Value)) (k:Int) (u:Tok) (h1:¬ (decide (k < -2 ^ 63) || decide (k≥2 ^ 63))=true) (h3:¬ (items.isEmpty || k==1)=true) (h4:(decide (k≤0) || items.isEmpty)=true) :
  Meets (Builtin.«tuple.__mul__» ⟨[.ref l,.int k u],[]⟩) (fun _ R s=>s.heap.get? l=some { cls:=.type "tuple",dict:=dd,data:=.seq items n,slots:=sl }∧R (.ok (.ret (Value.ref s.heap.objs.size))) { s with heap:=s.heap.push { cls:=Value.type "tuple",data:=Data.seq #[]},toks:=s.toks }):=
 .of_wp fun prog w A R s h=>by obtain ⟨hp,g,d,tk,os⟩:=s;obtain ⟨hl,h⟩:=h;have f1:=AutoSeq1.idx_int;wp_walk using AutoSeq1.wpAny_loadPart' hl;rw [if_neg h1];wp_walk using AutoSeq1.wpAny_loadPart' hl;exact ⟨_,rfl,h⟩
theorem yg (l:Addr) (items:Array Value) (n:Nat) (dd:Option Addr) (sl:Array (Option Value)) (k:Int) (u:Tok) (h1:¬ (decide (k < -2 ^ 63) || decide (k≥2 ^ 63))=true) (h3:¬ (items.isEmpty || k==1)=true) (h4:¬ (decide (k≤0) || items.isEmpty)=true)
  (h5:¬ (items.size*k > (2 ^ 63 - 1) / 8)) (h6:¬ Builtin.Tuple.tupleTooMany (items.size*k)=true) (hsz:(List.foldl (fun x1 x2=>x1++x2) #[] (List.replicate k.toNat items)).size≤sizeLine) :
  Meets (Builtin.«tuple.__mul__» ⟨[.ref l,.int k u],[]⟩) (fun _ R s=>s.heap.get? l=some { cls:=.type "tuple",dict:=dd,data:=.seq items n,slots:=sl }∧R (.ok (.ret (Value.ref s.heap.objs.size))) { s with heap:=s.heap.push { cls:=Value.type "tuple",data:=Data.seq (List.foldl (fun x1 x2=>x1++x2) #[] (List.replicate k.toNat items))},toks:=s.toks }):=
 .of_wp fun prog w A R s h=>by obtain ⟨hp,g,d,tk,os⟩:=s;obtain ⟨hl,h⟩:=h;have f1:=AutoSeq1.idx_int;wp_walk using AutoSeq1.wpAny_loadPart' hl;rw [if_neg h1];wp_walk using AutoSeq1.wpAny_loadPart' hl;rw [if_neg h5];wp_walk using AutoSeq1.wpAny_loadPart' hl;exact ⟨_,rfl,h⟩
theorem rF:∀ (k:Nat) (l acc:List Value),(List.replicate k l.toArray).foldl (·++·) acc.toArray=(acc++Ev.rep k l).toArray
 | 0,l,acc=>by simp [Ev.rep]
 | k+1,l,acc=>by
  rw [List.replicate_succ,List.foldl_cons]
  have:acc.toArray++l.toArray=(acc++l).toArray:=by simp
  rw [this,rF k l (acc++l)]
  simp [Ev.rep,List.replicate_succ]
theorem GO {pins:List (Addr×Obj)}{σ:L2.St}{H:Hp}{s:Shared}{Q:VK}(I:Inv X pins σ H s) {p:Addr}{vs:List V}{k:Int}{u:Tok}(hk:0≤k∧k≤1000∧vs.length≤1000) (hp:dM X.K H p vs)
  (q1:Ev.rep k.toNat vs=vs→Q (.ref p) H) (q2:∀ p',H p'=none→Q (.ref p') (upd H p' (.tup (Ev.rep k.toNat vs)))) :
  wpAny (model X.prog X.w) X.A (binaryOp .Mult (.ref p) (.int k u)) (EP X pins σ Q) X.xe s:=by
 obtain ⟨us,pv,pt,hz⟩:=I.tuple hp
 obtain ⟨⟨cls,dd,data,sl⟩,ho,hc,n,hd⟩:=id pt
 simp only at hc hd
 subst hc hd
 have hl:=pv.length
 have h1:¬ (decide (k < -2 ^ 63) || decide (k≥2 ^ 63))=true:=by simp;omega
 refine wpAny_binaryOp_repeat_ref (T:="tuple") (U:="int") (by decide) ⟨_,ho,rfl⟩ (fun s'=>typeIs_int s' k u) oA PySem.F.fills_int_mul PySem.F.slot_int_rmul tV PySem.F.slot_int_index.lookup
  (call_meets PySem.F.slot_int_rmul (typeIs_int s k u) PySem.F.entry_int_rmul (PySem.F.args_int_rmul_2 _ _) (yd k u p us.toArray n dd sl) ⟨ho,rfl,⟨_,ho,rfl⟩,?_⟩)
 have hrep:∀ m:Nat,(Ev.rep m us).length=m*us.length:=fun m=>nh m us
 by_cases h3:(us.toArray.isEmpty || k==1)=true
 ·refine call_meets PySem.F.slot_tuple_mul ⟨_,ho,rfl⟩ PySem.F.entry_tuple_mul (PySem.F.args_tuple_mul_2 _ _) (ye p us.toArray n dd sl k u h1 h3) ⟨ho,?_⟩
  refine ⟨.ref p,H,I,rfl,q1 ?_⟩
  rw [Bool.or_eq_true] at h3
  rcases h3 with h3 | h3
  ·have:us=[]:=by simpa using h3
   subst this
   cases pv
   simp [Ev.rep]
  ·have:k=1:=by simpa using h3
   subst this
   simp [Ev.rep]
 ·have laid:∀ m:Nat,m=k.toNat→EP X pins σ Q (.ref s.heap.objs.size) { s with heap:=s.heap.push { cls:=.type "tuple",data:=.seq (Ev.rep m us).toArray }}:=fun m hm=>by
   subst hm
   refine ⟨.ref s.heap.objs.size,_,I.laid (t':=s.toks) (o:=.tup (Ev.rep k.toNat vs)) (fun b ob q=>Heap.get?_push_of_some _ q) (Nat.le_refl _) ?_,rfl,q2 _ (I.hok.fresh (Nat.le_refl _))⟩
   exact ⟨by rw [nh];exact jW (by omega) hk.2.2,_,pv.rep k.toNat,IsTup.new _ _⟩
  by_cases h4:(decide (k≤0) || us.toArray.isEmpty)=true
  ·refine call_meets PySem.F.slot_tuple_mul ⟨_,ho,rfl⟩ PySem.F.entry_tuple_mul (PySem.F.args_tuple_mul_2 _ _) (yf p us.toArray n dd sl k u h1 h3 h4) ⟨ho,?_⟩
   have hk0:k=0:=by
    rw [Bool.or_eq_true] at h4 h3
    rcases h4 with h4 | h4
    ·have:k≤0:=of_decide_eq_true h4
     omega
    ·exact absurd (.inl h4) h3
   have:=laid 0 (by rw [hk0];rfl)
   exact this
  ·have hm:us.toArray.size*k.toNat≤1000000:=by
    rw [List.size_toArray]
    exact Nat.mul_le_mul (by omega:us.length≤1000) (by omega:k.toNat≤1000)
   have hm':(us.toArray.size:Int)*k≤1000000:=by
    have e:(us.toArray.size:Int)*k=((us.toArray.size*k.toNat:Nat):Int):=by
     rw [Int.natCast_mul,Int.toNat_of_nonneg hk.1]
    rw [e];omega
   have hf:List.foldl (fun x1 x2=>x1++x2) #[] (List.replicate k.toNat us.toArray)=(Ev.rep k.toNat us).toArray:=by
    have:=rF k.toNat us []
    simpa using this
   refine call_meets PySem.F.slot_tuple_mul ⟨_,ho,rfl⟩ PySem.F.entry_tuple_mul (PySem.F.args_tuple_mul_2 _ _) (yg p us.toArray n dd sl k u h1 h3 h4 (by omega) ?_ ?_) ⟨ho,?_⟩
   ·unfold Builtin.Tuple.tupleTooMany
    simp only [decide_eq_true_eq]
    have:(sizeLine:Int)=16777216:=by rw [sizeLine_eq];rfl
    omega
   ·rw [hf]
    simp only [List.size_toArray]
    rw [nh]
    exact jW (by omega) (by omega)
   ·rw [hf]
    exact laid _ rfl
theorem eO:dZ X (binaryOp .Mult) (iK X.K (Ev.bR .mul)):=by
 intro pins s σ H x y v u Q I rx ry q
 obtain ⟨r,h,a,b,d,h',hr,v1,v2,e,q⟩:=q
 cases b with
 | int k=>
  have s2:=v2.shape
  simp only [ff] at s2
  subst s2
  cases a with
  | int i=>
   delta Ev.bR at e;dsimp only at e
   split at e
   ·rename_i hz
    cases e
    refine IJ pins s σ H x _ v u Q I rx ry ⟨i,k,v1,rfl,?_,q.here rfl hr⟩
    unfold Ev.cH at hz
    simp only [Bool.or_eq_true,Bool.and_eq_true,decide_eq_true_eq] at hz
    exact hz
   ·cases e
  | str l=>
   delta Ev.bR at e;dsimp only at e
   split at e
   ·rename_i hz
    cases e
    simp only [RV] at v1
    obtain ⟨rfl,hl⟩:=v1
    obtain ⟨t,rfl⟩:=rx
    obtain ⟨t',rfl⟩:=ry
    exact GN I hz (q.here ⟨rfl,by rw [nh];exact jW (by omega) hz.2.2⟩ hr)
   ·cases e
  | tup ds=>
   delta Ev.bR at e;dsimp only at e
   split at e
   ·rename_i hz
    cases e
    obtain ⟨p,vs,rfl,z,w⟩:=v1.shape
    cases rx
    obtain ⟨t',rfl⟩:=ry
    refine GO I ⟨hz.1,hz.2.1,by rw [w.length];exact hz.2.2⟩ z (fun Vs=>q.here ⟨p,vs,rfl,z,?_⟩ hr) fun p' hp=>q.tup (w.rep k.toNat) hr hp
    have:=w.rep k.toNat
    rw [Vs] at this
    exact this
   ·cases e
  | ref i=>
   delta Ev.bR at e;dsimp only at e
   split at e
   ·rename_i ds e1
    split at e
    ·rename_i hz
     obtain ⟨p,rfl,z⟩:=v1.shape
     obtain ⟨p',g1,vs,g2,g3⟩:=hr.ob _ _ e1
     rw [z] at g1;cases g1
     obtain ⟨hz2,q2⟩:=q.lst e (g3.rep k.toNat) hr
     exact Jd pins s σ H (.ref p) _ v u Q I rx ry ⟨p,k,vs,rfl,rfl,g2,by omega,by omega,jW (by rw [g3.length];exact hz.2.2) (by omega),q2⟩
    ·cases e
   ·cases e
  | _=>cases e
 | _=>cases a <;> cases e
end
end Sm
set_option maxRecDepth 100000
namespace Sm
open PySem PySem.Spec PyProof.Rows L2 PySem.SeqAt
open Ev (D O Hh Fr R aU E Es Eo T S Ss Fl Src cF bY TY BI ME)
section
variable {X:Cx}
theorem v5 {K:PySem.W.Frag}{H:Hp}{r:List Addr}:∀ {ds:List D}{is:List Int}{vs:List V}{us:List Value},Ev.intsOf ds=some is→aJ K H r ds vs→Vals vs us→IntsAre us is
 | [],bs,vs,us,e,w,p=>by
  cases e
  simp only [aJ] at w;subst w;cases p;exact .nil
 | d :: ds,bs,vs,us,e,w,p=>by
  cases d with
  | int b=>
   simp only [Ev.intsOf,Option.map_eq_some_iff] at e
   obtain ⟨bs',e1,rfl⟩:=e
   simp only [aJ,RV] at w
   obtain ⟨v,w',rfl,rfl,w2⟩:=w
   cases p with
   | cons p1 p2=>
    obtain ⟨t,rfl⟩:=p1
    exact .cons _ _ (v5 e1 w2 p2)
  | _=>cases e
theorem wc {K:PySem.W.Frag}{H:Hp}{r:List Addr}:∀ {ds:List D}{ss:List (List Nat)}{vs:List V}{us:List Value},Ev.strsOf ds=some ss→aJ K H r ds vs→Vals vs us→StrsAre us (ss.map aX)∧∀ l∈ss,l.length≤sizeLine
 | [],bs,vs,us,e,w,p=>by
  cases e
  simp only [aJ] at w;subst w;cases p;exact ⟨.nil,fun l h=>nomatch h⟩
 | d :: ds,bs,vs,us,e,w,p=>by
  cases d with
  | str b=>
   simp only [Ev.strsOf,Option.map_eq_some_iff] at e
   obtain ⟨bs',e1,rfl⟩:=e
   simp only [aJ,RV] at w
   obtain ⟨v,w',rfl,⟨rfl,hb⟩,w2⟩:=w
   cases p with
   | cons p1 p2=>
    obtain ⟨t,rfl⟩:=p1
    obtain ⟨g1,g2⟩:=wc e1 w2 p2
    refine ⟨.cons _ _ g1,fun l hl=>?_⟩
    rcases List.mem_cons.mp hl with z | z
    ·subst z;exact hb
    ·exact g2 l z
  | _=>cases e
variable {G:Tb}{n:Nat}{sc:Scope}{N:List Str}{df:Bool}
theorem Ab (g:Good G n sc N df X):fM X (.builtin "sum") (tE X.K (Ev.cV .sum)):=by
 intro pins s σ H xs us Q I r q
 obtain ⟨rr,h,as,d,h',hr,v1,e,q⟩:=q
 match as,e with
 | [.ref m],e=>
  obtain ⟨e,rfl⟩:=Ev.aM e
  simp only [Option.map_eq_some_iff,Option.bind_eq_some_iff] at e
  obtain ⟨is,⟨ds,e1,e2⟩,rfl⟩:=e
  simp only [aJ,RV] at v1
  obtain ⟨v,w,rfl,⟨p,rfl,z⟩,rfl⟩:=v1
  obtain ⟨u,rfl,ru⟩:=vals1 r
  cases ru
  obtain ⟨p',vs,z',q1,w⟩:=hr.read e1
  rw [z] at z';cases z'
  obtain ⟨zs,pv,pl,_⟩:=I.list q1
  have hi:=v5 e2 w pv
  obtain ⟨ys,hys⟩:=(hi.allInts).items
  have hl:s.heap.IsList p (intItems ys):=by rw [←hys];exact pl.isList
  refine sum_intListG (I.ok.hd g.calm) hl fun h'' tk t' hk=>?_
  have hsum:preSum (numAt ys) ys.size=is.sum:=by
   have h1:numsOf zs.toArray.toList=is:=by rw [show zs.toArray.toList=zs from rfl];exact hi.numsOf
   rw [hys,nums_intItems] at h1
   rw [preSum_eq,List.take_of_length_le (by simp),h1]
  rw [hsum]
  exact ⟨.int is.sum,H,I.kept hk,⟨_,rfl⟩,q.here rfl hr⟩
theorem cR:fM X (.builtin "len") (tE X.K (Ev.cV .len)):=by
 intro pins s σ H xs us Q I r q
 obtain ⟨rr,h,as,d,h',hr,v1,e,q⟩:=q
 match as,e with
 | [.str l],e=>
  delta Ev.cV at e;dsimp only at e
  split at e
  ·cases e
   simp only [aJ,RV] at v1
   obtain ⟨v,w,rfl,⟨rfl,hl⟩,rfl⟩:=v1
   refine tw pins s σ H _ us Q I r ⟨_,rfl,by rw [cX];exact hl,?_⟩
   rw [cX]
   exact q.here rfl hr
  ·cases e
 | [.tup ds],e=>
  cases e
  simp only [aJ,RV] at v1
  obtain ⟨v,w,rfl,⟨p,vs,rfl,z,w'⟩,rfl⟩:=v1
  refine mh pins s σ H _ us Q I r ⟨p,vs,rfl,.inr z,?_⟩
  rw [w'.length]
  exact q.here rfl hr
 | [.ref m],e=>
  obtain ⟨e,rfl⟩:=Ev.aM e
  simp only [Option.map_eq_some_iff] at e
  obtain ⟨ds,e1,rfl⟩:=e
  simp only [aJ,RV] at v1
  obtain ⟨v,w,rfl,⟨p,rfl,z⟩,rfl⟩:=v1
  obtain ⟨p',vs,z',q1,w⟩:=hr.read e1
  rw [z] at z';cases z'
  refine mh pins s σ H _ us Q I r ⟨p,vs,rfl,.inl q1,?_⟩
  rw [w.length]
  exact q.here rfl hr
theorem JK (g:Good G n sc N df X):fM X (.builtin "min") (tE X.K (Ev.cV .min)):=by
 intro pins s σ H xs us Q I r q
 obtain ⟨rr,h,as,d,h',hr,v1,e,q⟩:=q
 match as,e with
 | [.int i,.int j],e=>
  cases e
  simp only [aJ,RV] at v1
  obtain ⟨v,w,rfl,rfl,v',w',rfl,rfl,rfl⟩:=v1
  exact zq g.calm pins s σ H _ us Q I r ⟨i,j,rfl,q.here rfl hr⟩
theorem JL (g:Good G n sc N df X):fM X (.builtin "max") (tE X.K (Ev.cV .max)):=by
 intro pins s σ H xs us Q I r q
 obtain ⟨rr,h,as,d,h',hr,v1,e,q⟩:=q
 match as,e with
 | [.int i,.int j],e=>
  cases e
  simp only [aJ,RV] at v1
  obtain ⟨v,w,rfl,rfl,v',w',rfl,rfl,rfl⟩:=v1
  exact zp g.calm pins s σ H _ us Q I r ⟨i,j,rfl,q.here rfl hr⟩
theorem d7:qV X "list.append" (tF X.K (Ev.fc .append)):=by
 intro pins s σ H x xs v us Q I rx rs q
 obtain ⟨r,h,a,as,d,h',hr,v1,v2,e,q⟩:=q
 cases a with
 | ref m=>
  match as,e with
  | [b],e=>
   delta Ev.fc at e;dsimp only at e
   split at e
   ·rename_i ds e1
    split at e
    ·rename_i hz
     cases e
     rw [jH] at hz
     obtain ⟨p,rfl,z⟩:=v1.shape
     simp only [aJ] at v2
     obtain ⟨y,w,rfl,v3,rfl⟩:=v2
     obtain ⟨p',g1,vs,g2,g3⟩:=hr.ob _ _ e1
     rw [z] at g1;cases g1
     refine qW pins s σ H _ _ v us Q I rx rs ⟨p,vs,y,rfl,rfl,g2,by rw [g3.length];exact hz,?_⟩
     have f:=Fm.write (K:=X.K) (ws:=vs++[y]) g2 (List.mem_of_getElem? z)
     exact q _ _ r rfl (hr.write e1 z g2 (g3.append (.cons v3 .nil))) f
    ·cases e
   ·cases e
  | [],e=>cases e
  | _ :: _ :: _,e=>cases e
 | _=>cases e
theorem mE:qV X "list.extend" (tF X.K (Ev.fc .extend)):=by
 intro pins s σ H x xs v us Q I rx rs q
 obtain ⟨r,h,a,as,d,h',hr,v1,v2,e,q⟩:=q
 cases a with
 | ref m=>
  match as,e with
  | [.ref k],e=>
   delta Ev.fc at e;dsimp only at e
   split at e
   ·rename_i ds es e1 e2
    split at e
    ·rename_i hz
     cases e
     rw [jH] at hz
     obtain ⟨p,rfl,z⟩:=v1.shape
     simp only [aJ,RV] at v2
     obtain ⟨y,w,rfl,⟨p2,rfl,z2⟩,rfl⟩:=v2
     obtain ⟨p',g1,vs,g2,g3⟩:=hr.ob _ _ e1
     rw [z] at g1;cases g1
     obtain ⟨p'',k1,ws,k2,k3⟩:=hr.ob _ _ e2
     rw [z2] at k1;cases k1
     refine zB pins s σ H _ _ v us Q I rx rs ⟨p,p2,vs,ws,rfl,rfl,g2,k2,by rw [g3.length,k3.length];exact hz,?_⟩
     have f:=Fm.write (K:=X.K) (ws:=vs++ws) g2 (List.mem_of_getElem? z)
     exact q _ _ r rfl (hr.write e1 z g2 (g3.append k3)) f
    ·cases e
   ·cases e
 | _=>cases e
theorem tW:qV X "list.pop" (tF X.K (Ev.fc .pop)):=by
 intro pins s σ H x xs v us Q I rx rs q
 obtain ⟨r,h,a,as,d,h',hr,v1,v2,e,q⟩:=q
 cases a with
 | ref m=>
  match as,e with
  | [],e=>
   delta Ev.fc at e;dsimp only at e
   split at e
   ·rename_i ds e1
    split at e
    ·rename_i y e2
     cases e
     obtain ⟨p,rfl,z⟩:=v1.shape
     simp only [aJ] at v2
     subst v2
     obtain ⟨p',g1,vs,g2,g3⟩:=hr.ob _ _ e1
     rw [z] at g1;cases g1
     obtain ⟨vy,g4,g5⟩:=g3.get e2
     refine Jb pins s σ H _ _ v us Q I rx rs ⟨p,vs,vy,rfl,rfl,g2,by rw [g3.length];exact g4,?_⟩
     have f:=Fm.write (K:=X.K) (ws:=vs.dropLast) g2 (List.mem_of_getElem? z)
     have hd:aJ X.K H r ds.dropLast vs.dropLast:=by
      rw [List.dropLast_eq_take,List.dropLast_eq_take,g3.length]
      exact g3.take _
     exact q _ _ r (g5.mono f) (hr.write e1 z g2 hd) f
    ·cases e
   ·cases e
  | _ :: _,e=>cases e
 | _=>cases e
theorem oB (sep:List Nat):∀ ss:List (List Nat),Str.join (aX sep) (ss.map aX)=aX (Ev.cS sep ss)
 | []=>rfl
 | [s]=>rfl
 | s :: t :: r=>by
  have ih:=oB sep (t :: r)
  show aX s++aX sep++Str.join (aX sep) ((t :: r).map aX)=_
  rw [ih,qv,qv]
  rfl
theorem join_eq (sep:List Nat) (ss:List (List Nat)):Txt.join (aX sep) (ss.map aX)=aX (Ev.cS sep ss):=by
 rw [←oB]
 exact PySem.StrLaws.glued_eq_join _ _
theorem we:qV X "str.join" (tF X.K (Ev.fc .join)):=by
 intro pins s σ H x xs v us Q I rx rs q
 obtain ⟨r,h,a,as,d,h',hr,v1,v2,e,q⟩:=q
 cases a with
 | str sep=>
  match as,e with
  | [.ref k],e=>
   delta Ev.fc at e;dsimp only at e
   split at e
   ·rename_i ss e1
    split at e
    ·rename_i hz
     cases e
     simp only [Option.bind_eq_some_iff] at e1
     obtain ⟨ds,e1,e2⟩:=e1
     simp only [RV] at v1
     obtain ⟨rfl,hl⟩:=v1
     obtain ⟨t,rfl⟩:=rx
     simp only [aJ,RV] at v2
     obtain ⟨y,w,rfl,⟨p2,rfl,z2⟩,rfl⟩:=v2
     obtain ⟨u,rfl,ru⟩:=vals1 rs
     cases ru
     obtain ⟨p',vs,z',q1,w⟩:=hr.read e1
     rw [z2] at z';cases z'
     obtain ⟨zs,pv,pl,_⟩:=I.list q1
     obtain ⟨g1,g2⟩:=wc e2 w pv
     have hlen:((ss.map aX).map (·.length)).sum+(ss.map aX).length*(aX sep).length≤16777216:=by
      rw [List.map_map,List.length_map,cX]
      have:(fun x:Str=>x.length) ∘ aX=fun l:List Nat=>l.length:=funext fun l=>cX l
      rw [this]
      exact hz
     refine join_list pl.isList g1 hlen fun t' k'=>?_
     rw [join_eq]
     refine ⟨.str _,H,I.tok _,⟨_,rfl⟩,q.here ⟨rfl,?_⟩ hr⟩
     have hj:=PySem.StrLaws.join_length_le (aX sep) (ss.map aX)
     rw [oB,cX] at hj
     have:sizeLine=16777216:=sizeLine_eq
     omega
    ·cases e
   ·cases e
 | _=>cases e
end
end Sm
set_option maxRecDepth 100000
namespace Sm
open PySem PySem.Spec PyProof.Rows L2 PySem.SeqAt
open Ev (D O Hh Fr R aU E Es Eo T S Ss Fl Src cF bY TY BI ME)
section
variable {X:Cx}{G:Tb}{n:Nat}{sc:Scope}{N:List Str}{df:Bool}{m:List Nat}{a b c:E}{xa xb xc tg:Expr}{pos:Pos}
noncomputable def nP:TY→String
 | .int=>"int" | .bool=>"bool" | .str=>"str" | .tuple=>"tuple" | .list=>"list"
theorem SJ (K:PySem.W.Frag) (t:TY):PySem.W.kitOne K (.type "NoneType") (.type (nP t))=some false∧PySem.W.kitOne K (.type "bool") (.type (nP t))=some (Ev.dw [] (.bl true) t)∧PySem.W.kitOne K (.type "int") (.type (nP t))=some (Ev.dw [] (.int 0) t)∧
  PySem.W.kitOne K (.type "str") (.type (nP t))=some (Ev.dw [] (.str []) t)∧PySem.W.kitOne K (.type "tuple") (.type (nP t))=some (Ev.dw [] (.tup []) t)∧PySem.W.kitOne K (.type "list") (.type (nP t))=some (match t with | .list=>true | _=>false):=by
 cases t <;> refine ⟨?_,?_,?_,?_,?_,?_⟩ <;> kernel_rfl
theorem GP {pins:List (Addr×Obj)}{σ:L2.St}{H:Hp}{s:Shared}{r:List Addr}{h:Hh}(I:Inv X pins σ H s) (hr:HR X.K H r h) {d:D}{x:V}{u:Value}(v1:RV X.K H r d x) (rx:RelV x u) (hd:∀ i,d=.ref i→(Ev.bw h i).isSome=true) (t:TY) {Q:Value→Shared→Prop}{E:Value→Shared→Prop}(q:∀ tk,Q (.bool (Ev.dw h d t)) { s with toks:=tk }) :
  wpAny (model X.prog X.w) X.A (call (.builtin "isinstance") [u,.type (nP t)]) Q E s:=by
 obtain ⟨k0,k1,k2,k3,k4,k5⟩:=SJ X.K t
 have s1:=v1.shape
 cases d with
 | bz=>simp only [ff] at s1;subst s1;exact jT I rx .bz k0 (by simpa [Ev.dw] using q)
 | bl b=>simp only [ff] at s1;subst s1;exact jT I rx (.bl _) k1 (by cases t <;> simpa [Ev.dw] using q)
 | int b=>simp only [ff] at s1;subst s1;exact jT I rx (.int _) k2 (by cases t <;> simpa [Ev.dw] using q)
 | str b=>simp only [ff] at s1;subst s1;exact jT I rx (.str _) k3 (by cases t <;> simpa [Ev.dw] using q)
 | tup ds=>
  obtain ⟨p,vs,rfl,z,w⟩:=s1
  cases rx
  obtain ⟨us,_,pt,_⟩:=I.tuple z
  obtain ⟨o,h1,h2,_⟩:=pt
  exact PySem.W.kia_one PySem.W.kitx_tuple I.gw ⟨o,h1,h2⟩ k4 (fun z=>nomatch z) (by cases t <;> simpa [Ev.dw] using q)
 | ref i=>
  obtain ⟨p,rfl,z⟩:=s1
  cases rx
  obtain ⟨ds,e1⟩:=Option.isSome_iff_exists.mp (hd i rfl)
  obtain ⟨us,pl⟩:=tT I hr e1 z
  obtain ⟨o,h1,h2,_⟩:=pl.isList
  exact PySem.W.kia_one PySem.W.kitx_list I.gw ⟨o,h1,h2⟩ k5 (fun z=>nomatch z) (by cases t <;> simpa [Ev.dw,e1] using q)
theorem JM {t:TY}{T:Str}{p q:Pos}(ha:JE G n sc N df m a xa) (hT:bootBuiltins T=some (.type (nP t))) (h1:("isinstance" : Str)∈G.bl:=by decide +kernel) (h2:T∈G.bl:=by decide +kernel)
  (Ac:sc.names.lookup ("isinstance" : Str)=some .globalImplicit:=by rfl) (Vt:sc.names.lookup T=some .globalImplicit:=by rfl) (hn:T≠"__name__" :=by decide) (hd:(T==("__debug__" : Str))=false:=by decide)
  (hst:∀ env:Env,starEach [xa,.Name T q] env=(false,eval xa env) :: starEach [.Name T q] env:=by intro _;rfl):JE G n sc N df m (.mq a [t]) (.Call (.Name "isinstance" p) [xa,.Name T q] [] pos):=fun X g=>by
 have hty:PE X (.Name T q) (tC (.ty (nP t))):=Ge (g.gl Vt) (g.bl T h2) hT rfl hn hd
 have hc:fM X (.builtin "isinstance") (fun xs H Q=>∃ r h d x,HR X.K H r h∧RV X.K H r d x∧xs=[x,.ty (nP t)]∧(∀ i,d=.ref i→(Ev.bw h i).isSome=true)∧Q (.bl (Ev.dw h d t)) H):=by
  intro pins s σ H xs us Q I rv q
  obtain ⟨r,h,d,x,hr,v1,rfl,hd,q⟩:=q
  obtain ⟨u,w,rfl,r1,r2⟩:=vals2 rv
  cases r2
  exact GP I hr v1 r1 hd t fun tk=>⟨.bl _,H,I.tok _,rfl,q⟩
 refine PE.of (sY hc (g.gl Ac) (g.bl _ h1) (by decide +kernel) (iL (ha X g) (iL hty lY) (hst _)) (by decide) (by decide) (hst _) rfl) fun s H Q q=>?_
 obtain ⟨r,fr,h,d,h',sr,hr,e,q⟩:=q
 simp only [Ev.ev] at e
 obtain ⟨x,h3,e1,e⟩:=Ev.aj e
 cases e
 refine ⟨r,fr,h,x,_,sr,hr,e1,fun v H1 r1 v1 hr1 f1=>?_⟩
 refine ⟨r1,_,x,v,hr1,v1,rfl,fun i hi=>?_,?_⟩
 ·subst hi
  simp only [RV] at v1
  obtain ⟨p,_,z⟩:=v1
  have hlt:i<h'.length:=by rw [←hr1.len];exact (List.getElem?_eq_some_iff.mp z).1
  unfold Ev.bw
  rw [List.getElem?_eq_getElem hlt]
  cases h'[i] <;> rfl
 ·have:=(q.later f1).here (v:=.bl (Ev.dw h' x t)) (by simp [RV]) hr1
  exact this
end
end Sm
set_option maxRecDepth 100000
namespace Sm
open PySem PySem.Spec PyProof.Rows L2 PySem.SeqAt
open Ev (D O Hh Fr R aU E Es Eo T S Ss Fl Src cF bY TY BI ME)
section
variable {X:Cx}{G:Tb}{n:Nat}{sc:Scope}{N:List Str}{df:Bool}{m:List Nat}{a b c:E}{xa xb xc tg:Expr}{pos:Pos}
theorem Ad (n:Nat):Builtin.Slice.sliceAdjust none none (-1) (n:Int)=((n:Int) - 1,-1):=by
 unfold Builtin.Slice.sliceAdjust
 simp
theorem Ae (n:Nat):Builtin.Slice.slicePlaces ((n:Int) - 1) (-1) (-1)=n:=by
 unfold Builtin.Slice.slicePlaces
 have h1:¬ ((-1:Int) > 0):=by omega
 simp only [h1,if_false]
 have h2:(- -1:Int)=1:=by omega
 rw [h2]
 simp only [Int.ediv_one]
 split <;> omega
theorem o8 {prog:Program}{w:World}{A:Around}{E:Value→Shared→Prop}{s:Shared}{sl:Addr}{vk:Value}{n:Nat}{Q:Int×Int×Nat→Shared→Prop}(hs:s.heap.IsSliceOf sl .none .none vk) (pk:IsPart vk (some (-1)))
  (h:Q ((n:Int) - 1,-1,n) s):wpAny (model prog w) A (Builtin.Slice.sliceApplied (.ref sl) (pure (n:Int))) Q E s:=by
 obtain ⟨os,hos,hcs,hds⟩:=id hs
 unfold Builtin.Slice.sliceApplied Builtin.Slice.sliceFields
 refine wpAny_bind (wpAny_bind (wpAny_field hos hds (x:=.none) rfl (wpAny_bind (wpAny_field hos hds (x:=.none) rfl (wpAny_bind (wpAny_field hos hds (x:=vk) rfl (wpAny_pure ?_)))))))
 refine wpAny_bind (HT.gY pk ?_)
 show wpAny _ _ (if ((-1:Int)==0)=true then _ else _) _ _ s
 rw [if_neg (by decide)]
 refine wpAny_bind (HT.gY .none (wpAny_bind (HT.gY .none (wpAny_bind (wpAny_pure ?_)))))
 show wpAny _ _ (match Builtin.Slice.sliceAdjust none none (-1) (n:Int) with | (lo,hi)=>pure (lo,(-1:Int),Builtin.Slice.slicePlaces lo hi (-1))) _ _ s
 rw [Ad n]
 show wpAny _ _ (pure ((n:Int) - 1,(-1:Int),Builtin.Slice.slicePlaces ((n:Int) - 1) (-1) (-1))) _ _ s
 rw [Ae]
 exact wpAny_pure h
theorem GQ (xs:Array Value):((List.range xs.size).filterMap fun (m:Nat)=>xs[((xs.size:Int) - 1+(m:Int)*(-1)).toNat]?).toArray=xs.toList.reverse.toArray:=by
 have e:(List.range xs.size).filterMap (fun (m:Nat)=>xs[((xs.size:Int) - 1+(m:Int)*(-1)).toNat]?)=((List.range xs.size).map (fun k=>xs.size - 1 - k)).filterMap (xs[·]?):=by
  rw [List.filterMap_map]
  have go:∀ l:List Nat,(∀ k∈l,k<xs.size)→l.filterMap (fun (m:Nat)=>xs[((xs.size:Int) - 1+(m:Int)*(-1)).toNat]?)=l.filterMap ((xs[·]?) ∘ fun k=>xs.size - 1 - k):=by
   intro l hl
   induction l with
   | nil=>rfl
   | cons k l ih=>
    have hk:=hl k (by simp)
    have e2:((xs.size:Int) - 1+(k:Int)*(-1)).toNat=xs.size - 1 - k:=by omega
    rw [List.filterMap_cons,List.filterMap_cons,e2,ih fun k' h'=>hl k' (by simp [h'])]
    rfl
  exact go _ fun k hk=>List.mem_range.mp hk
 rw [e,PySem.W.krv_range,List.filterMap_reverse,PySem.W.krv_all]
theorem yh {prog:Program}{w:World}{A:Around}{E:Value→Shared→Prop}{s:Shared}{t sl:Addr}{items:Array Value}{vk:Value}{Q:Value→Shared→Prop}(ht:IsTup s.heap t items) (hs:s.heap.IsSliceOf sl .none .none vk) (pk:IsPart vk (some (-1)))
  (h:Q (.ref s.heap.objs.size) { s with heap:=s.heap.push { cls:=.type "tuple",data:=.seq items.toList.reverse.toArray }})
  (hsz:items.size≤sizeLine):wpAny (model prog w) A (getItem (.ref t) (.ref sl)) Q E s:=by
 have jl:sizeOk (.seq items.toList.reverse.toArray):=by
  show items.toList.reverse.toArray.size≤sizeLine
  rw [List.size_toArray,List.length_reverse,Array.length_toList]
  exact hsz
 obtain ⟨os,hos,hcs,hds⟩:=id hs
 have zy:s.TypeIs (.ref sl) "slice" :=⟨os,hos,hcs⟩
 unfold getItem
 try with_reducible refine wpAny_holding ?_
 first | refine wpAny_bind (wpAny_pure ?_) | skip
 refine wpAny_bind (wpAny_sequenceKey ht.typeIs (by decide) ?_)
 refine wpAny_bind (wpAny_callSpecial?_slot (name:=Str.ofString "__getitem__") ht.typeIs PyProof.Rows.slot_tuple_getitem
  (wpAny_call_entry PyProof.Rows.slot_tuple_getitem ht.typeIs entry_tuple_getitem ?_ (args_tuple_getitem _ _)))
 show wpAny _ _ (Builtin.Tuple.tupleItemsOf (.ref t) >>= _) _ _ s
 refine wpAny_bind (tupleItemsOf_ ht ?_)
 refine wpAny_bind (wpAny_typeOf zy ?_)
 rw [if_pos (by decide)]
 refine wpAny_bind (o8 hs pk ?_)
 have hno:¬ (((items.size:Int) - 1==0&&(-1:Int)==1&&items.size==items.size)=true):=by simp
 show wpAny _ _ (if ((items.size:Int) - 1==0&&(-1:Int)==1&&items.size==items.size)=true then _ else _) _ _ s
 rw [if_neg hno,GQ]
 first
  | exact wpAny_bind (m:=Builtin.Tuple.tupleExact _) (wpAny_newObj_type (wpAny_pure ⟨_,rfl,wpAny_pure h⟩) jl)
  | exact wpAny_bind (m:=Builtin.Tuple.tupleExact _) (wpAny_newObj_type (wpAny_bind (wpAny_pure (wpAny_pure ⟨_,rfl,wpAny_pure h⟩))) jl)
  | exact wpAny_bind (wpAny_bind (m:=Builtin.Tuple.tupleExact _) (wpAny_newObj_type (wpAny_pure (wpAny_pure ⟨_,rfl,wpAny_pure h⟩)) jl))
  | exact wpAny_bind (wpAny_bind (m:=Builtin.Tuple.tupleExact _) (wpAny_newObj_type (wpAny_pure ⟨_,rfl,wpAny_pure h⟩) jl))
theorem Vals.reverse {vs:List V}{us:List Value}(w:Vals vs us):Vals vs.reverse us.reverse:=by
 induction w with
 | nil=>exact .nil
 | cons a _ ih=>rw [List.reverse_cons,List.reverse_cons];exact ih.append (.cons a .nil)
theorem Og {p1 p2 p3:Pos}{j}(ha:JE G n sc N df m a xa):JE G n sc N df m (.rv a) (.Subscript xa (.Slice none none (some (.UnaryOp .USub (.Constant (.int 1) j p1) p2)) p3) pos):=fun X g=>by
 intro pins s σ H Q I q
 obtain ⟨r,fr,h,d,h',sr,hr,e,q⟩:=q
 simp only [Ev.ev] at e
 obtain ⟨x,h1,e1,e⟩:=Ev.aj e
 refine Subscript_ (bQ (ha X g pins s σ H _ I ⟨r,fr,h,x,h1,sr,hr,e1,fun v H1 r1 v1 hr1 f1=>(show (fun (v:V) (H1:Hp)=>∃ r1,RV X.K H1 r1 x v∧HR X.K H1 r1 h1∧Fm X.K r r1 H H1) v H1 from ⟨r1,v1,hr1,f1⟩)⟩) fun v s1 ⟨x1,H1,I1,rx,r1,v1,hr1,f1⟩=>?_)
 refine wpAny_Slice ?_
 rw [evalPart_none]
 refine wpAny_pure (wpAny_pure ?_)
 have hm1:PE X (.UnaryOp .USub (.Constant (.int 1) j p1) p2) (tJ X.K m (Ev.run G.F G.w n) (.neg (.c (.int 1)))):=fS aD X g
 refine bQ (vJ hm1 pins s1 σ H1 (fun o H2=>o=some (-1)∧∃ r2,RV X.K H2 r2 x x1∧HR X.K H2 r2 h1∧Fm X.K r r2 H H2) I1 ⟨r1,fr,h1,.int (-1),h1,sr.mono f1,hr1,by simp [Ev.ev],fun v' H2 r2 v2 hr2 f2=>⟨-1,v2,rfl,r2,v1.mono f2,hr2,f1.trans f2⟩⟩) fun vk s2 ⟨o,H2,I2,pk,q2⟩=>?_
 obtain ⟨rfl,r2,v2,hr2,f2⟩:=q2
 have I4:Inv X pins σ H2 { s2 with heap:=s2.heap.push { cls:=.type "slice",data:=.fields #[.none,.none,vk]}}:=I2.kept (t':=s2.toks) fun b ob q=>Heap.get?_push_of_some _ q
 have hS:({ s2 with heap:=s2.heap.push { cls:=.type "slice",data:=.fields #[.none,.none,vk]}}:Shared).heap.IsSliceOf s2.heap.objs.size .none .none vk:=Heap.IsSliceOf.new s2.heap .none .none vk
 have key:∃ T id,typeLookup (.type T) "__getitem__" = pure (some (.builtin id))∧({ s2 with heap:=s2.heap.push { cls:=.type "slice",data:=.fields #[.none,.none,vk]}}:Shared).TypeIs v T∧wpAny (model X.prog X.w) X.A (getItem v (.ref s2.heap.objs.size)) (EP X pins σ Q) X.xe { s2 with heap:=s2.heap.push { cls:=.type "slice",data:=.fields #[.none,.none,vk]}}:=by
  revert I4 hS
  generalize ({ s2 with heap:=s2.heap.push { cls:=.type "slice",data:=.fields #[.none,.none,vk]}}:Shared)=s3
  intro I4 hS
  cases x with
  | tup ds=>
   cases e
   obtain ⟨p,vs,rfl,z,w⟩:=v2.shape
   cases rx
   obtain ⟨us,pv,pt,hz⟩:=I4.tuple z
   refine ⟨"tuple",_,PyProof.Rows.slot_tuple_getitem.lookup,pt.typeIs,?_⟩
   refine yh pt hS pk ?_ (by rw [List.size_toArray,←pv.length];exact hz)
   refine ⟨.ref s3.heap.objs.size,_,I4.laid (t':=s3.toks) (o:=.tup vs.reverse) (fun b ob q=>Heap.get?_push_of_some _ q) (Nat.le_refl _) ?_,rfl,(q.later f2).tup w.reverse hr2 (I4.hok.fresh (Nat.le_refl _))⟩
   exact ⟨by simpa using hz,_,Vals.reverse pv,⟨_,Heap.get?_push_size _ rfl,rfl,0,rfl⟩⟩
  | ref i=>
   simp only [Ev.lR] at e
   split at e
   ·rename_i ds e2
    obtain ⟨p,rfl,z⟩:=v2.shape
    obtain ⟨p',vs,z',q1,w⟩:=hr2.read e2
    rw [z] at z';cases z'
    cases rx
    obtain ⟨us,pv,pt,hz⟩:=I4.list q1
    obtain ⟨hz2,q2⟩:=(q.later f2).lst e w.reverse hr2
    refine ⟨"list",_,slot_list_getitem.lookup,pt.isList.typeIs,?_⟩
    refine wpAny_getItem_list_slice pt.isList hS .none .none pk (by simp) ?_ (by rw [List.size_toArray,←pv.length];exact hz)
    rw [PySem.W.krv_pick]
    refine ⟨.ref s3.heap.objs.size,_,I4.laid (t':=s3.toks) (o:=.lst vs.reverse) (fun b ob q=>Heap.get?_push_of_some _ q) (Nat.le_refl _) ?_,rfl,q2 _ (I4.hok.fresh (Nat.le_refl _))⟩
    exact ⟨by simpa using hz,_,0,Vals.reverse pv,Heap.get?_push_size _ rfl⟩
   ·cases e
  | _=>cases e
 obtain ⟨T,id,hT,ht,hg⟩:=key
 exact tail_any (ops:=[v,.ref s2.heap.objs.size]) ht hT hg (by with_unfolding_all rfl)
end
end Sm
set_option maxRecDepth 100000
namespace Sm
open PySem PySem.Spec PyProof.Rows L2 PySem.SeqAt
open Ev (D O Hh Fr R aU E Es Eo T S Ss Fl Src cF bY TY BI ME)
section
variable {G:Tb}{n:Nat}{sc:Scope}{N:List Str}{df:Bool}{m:List Nat}{a b c:E}{xa xb xc tg:Expr}{pos:Pos}
theorem Cm (g:Good G n sc N df X):fM X (.type "tuple") (fun xs H Q=>∃ r h d x d' h',HR X.K H r h∧RV X.K H r d x∧xs=[x]∧Ev.ql d h=.ok d' h'∧Res X.K r H h' d' Q):=by
 intro pins s σ H xs us Q I rv q
 obtain ⟨r,h,d,x,d',h',hr,v1,rfl,e,q⟩:=q
 cases d with
 | tup ds=>
  cases e
  have v2:=v1
  obtain ⟨p,vs,rfl,z,w⟩:=v1.shape
  exact lQ pins s σ H _ us Q I rv ⟨p,vs,rfl,.inr ⟨z,q.here v2 hr⟩⟩
 | ref i=>
  simp only [Ev.ql] at e
  split at e
  ·rename_i ds e1
   split at e
   ·cases e
    obtain ⟨p,rfl,z⟩:=v1.shape
    obtain ⟨p',vs,z',q1,w⟩:=hr.read e1
    rw [z] at z';cases z'
    exact lQ pins s σ H _ us Q I rv ⟨p,vs,rfl,.inl ⟨q1,fun l hl=>q.tup w hr hl⟩⟩
   ·cases e
  ·cases e
 | _=>cases e
theorem tX {p:Pos}(ha:JE G n sc N df m a xa) (h1:("tuple" : Str)∈G.bl:=by decide +kernel) (Ac:sc.names.lookup ("tuple" : Str)=some .globalImplicit:=by rfl)
  (hst:∀ env:Env,starEach [xa] env=[(false,eval xa env)]:=by intro _;rfl):JE G n sc N df m (.jF a) (.Call (.Name "tuple" p) [xa] [] pos):=fun X g=>by
 refine PE.of (zx (Cm g) (g.gl Ac) (g.bl _ h1) (by decide +kernel) (iL (ha X g) lY (hst _)) (by decide) (by decide) (hst _) rfl) fun s H Q q=>?_
 obtain ⟨r,fr,h,d,h',sr,hr,e,q⟩:=q
 simp only [Ev.ev] at e
 obtain ⟨x,h3,e1,e⟩:=Ev.aj e
 refine ⟨r,fr,h,x,_,sr,hr,e1,fun v H1 r1 v1 hr1 f1=>?_⟩
 exact ⟨r1,h3,x,v,d,h',hr1,v1,rfl,e,q.later f1⟩
theorem tY {st:Stmt}:JS G n sc N df m .gy st:=fun X g=>PS.of BH fun Q s H q=>by
 obtain ⟨r,fr,h,fl,aq,h',sr,hr,e,q⟩:=q
 simp only [Ev.ex] at e
 cases e
end
theorem wg {X:Cx}{pins:List (Addr×Obj)}{σ:L2.St}{H:Hp}{s:Shared}{h':Heap}{t':Nat}{ch:List Addr}(I:Inv X pins σ H s) (k:∀ b o,b∉ch→s.heap.get? b=some o→h'.get? b=some o) (hf:∀ b∈ch,gp X pins H b):Inv X pins σ H { s with heap:=h',toks:=t' }:=by
 have zg:∀ b u,H b=some u→b∉ch:=fun b u e z=>by rw [(hf b z).1] at e;cases e
 refine I.step (g':=s.gens) (d':=s.drawn) (ch:=ch) (fun b hb=>?_) (fun b o _ _ hc e _=>k b o hc e) (fun b o _ _ hc e _=>⟨o.slots,k b o hc e⟩) (fun _ _ _ _ n=>n)
  (fun b o hc e=>⟨o,k b o hc e⟩) (fun _ _ e=>e) (fun _ _ _ e=>e) (fun b ps e=>⟨#[],by rw [e];simp⟩) (fun m hm=>?_) (fun b u e=>?_) I.bare
 ·obtain ⟨f0,f1,f2,f3,f4,f5⟩:=hf b hb
  exact ⟨f3,f1,f4,f5⟩
 ·obtain ⟨o,es,ep,ho,r⟩:=hm
  exact ⟨o,es,ep,k _ o (fun z=>(hf _ z).2.1 rfl) ho,r⟩
 ·refine (I.hok b u e).stay (fun c v hc q=>k c v ?_ q) (fun _ q=>q) fun _ _ q=>q
  rcases hc with z | z
  ·rw [z];exact zg b u e
  ·exact zg c _ z
noncomputable def Qa (K:PySem.W.Frag) (a b:Addr):L2.It:=
  ⟨fun i H=>∃ xs ys x y,dY K H a xs∧dY K H b ys∧xs[i]?=some x∧ys[i]?=some y,
   fun i H x H'=>∃ p u v,H p=none∧x=.ref p∧H'=upd H p (.tup [u,v])∧(∀ xs,dY K H a xs→xs[i]?=some u)∧∀ ys,dY K H b ys→ys[i]?=some v,
   fun i H=>∃ xs ys,dY K H a xs∧dY K H b ys∧(xs.length≤i∨ys.length≤i)⟩
theorem Cn {P:Program}{w:World}{K:PySem.W.Frag}{elts:List Expr}{x1}{pos:Pos}{l1 l2 z TI TO i1 i2:Addr}(D:ZipApart z TI TO i1 i2 l1 l2) :
  Turn P w K (.Tuple elts x1 pos) (Qa K l1 l2) [z,TI,TO,i1,i2] z (fun i h=>IsZip h z TI TO .none∧IsPair h TI (.ref i1) (.ref i2)∧(∃ a b,IsPair h TO a b)∧h.IsListIter i1 l1 i∧h.IsListIter i2 l2 i) where
 mem:=by simp
 obj:=fun i h st b hb=>by
  obtain ⟨s1,s2,⟨u,v,s3⟩,s4,s5⟩:=st
  simp only [List.mem_cons,List.mem_nil_iff,or_false] at hb
  rcases hb with rfl | rfl | rfl | rfl | rfl
  ·exact ⟨_,s1,fun v z=>by have z':Data.fields _=Data.cell v:=z;cases z'⟩
  ·exact ⟨_,s2,fun v z=>by have z':Data.seq _ _=Data.cell v:=z;cases z'⟩
  ·exact ⟨_,s3,fun v z=>by have z':Data.seq _ _=Data.cell v:=z;cases z'⟩
  ·obtain ⟨o,e,c,d⟩:=s4;exact ⟨o,e,fun v z=>by rw [d] at z;cases z⟩
  ·obtain ⟨o,e,c,d⟩:=s5;exact ⟨o,e,fun v z=>by rw [d] at z;cases z⟩
 keep:=fun i h h' st k=>by
  obtain ⟨s1,s2,⟨u,v,s3⟩,s4,s5⟩:=st
  exact ⟨k z (by simp) _ s1,k TI (by simp) _ s2,⟨u,v,k TO (by simp) _ s3⟩,s4.at fun o e=>k i1 (by simp) o e,s5.at fun o e=>k i2 (by simp) o e⟩
 item:=by
  intro X hP hw hK hc i pins s σ H E I hf st hg
  subst hP hw hK
  obtain ⟨s1,s2,⟨u0,v0,s3⟩,s4,s5⟩:=st
  obtain ⟨xs,ys,x,y,hx,hy,ex,ey⟩:=hg
  obtain ⟨xt,rx,px,_⟩:=I.list hx
  obtain ⟨yt,ry,py,_⟩:=I.list hy
  obtain ⟨u,hu,ru⟩:=rx.get ex
  obtain ⟨v,hv,rv⟩:=ry.get ey
  refine wpAny_pyNext_zip_item D s1 s2 s3 s4 s5 px.isList py.isList (x:=u) (y:=v) (by simpa using hu) (by simpa using hv) fun h' a1 a2 a3 a4 a5 a6 hk=>?_
  refine ⟨_,rfl,wpAny_letOwnedTupleGo_zip (s:={ s with heap:=h' }) a1 fun h'' b1 b2=>?_⟩
  have lt:∀ {c o},s.heap.get? c=some o→c≠s.heap.objs.size:=fun e=>Nat.ne_of_lt (Heap.lt_size e)
  have hT:H s.heap.objs.size=none:=I.hok.fresh (Nat.le_refl _)
  have zT:s.heap.objs.size≠z:=Ne.symm (lt s1)
  have I0:Inv X pins σ (upd H s.heap.objs.size (.tup [x,y])) { s with heap:=s.heap.push { cls:=.type "tuple",data:=.seq #[u,v]},toks:=s.toks }:=
   I.laid (fun b o e=>Heap.get?_push_of_some _ e) (Nat.le_refl _) ⟨by show 2≤sizeLine;decide,[u,v],.cons ru (.cons rv .nil),⟨_,Heap.get?_push_size _ rfl,rfl,_,rfl⟩⟩
  have ne:∀ b∈[z,TI,TO,i1,i2],b≠s.heap.objs.size:=fun b hb=>by
   simp only [List.mem_cons,List.mem_nil_iff,or_false] at hb
   rcases hb with rfl | rfl | rfl | rfl | rfl
   ·exact lt s1
   ·exact lt s2
   ·exact lt s3
   ·obtain ⟨o,e,_⟩:=s4;exact lt e
   ·obtain ⟨o,e,_⟩:=s5;exact lt e
  have fp:∀ b∈[z,TI,TO,i1,i2],gp X pins (upd H s.heap.objs.size (.tup [x,y])) b:=fun b hb=>⟨by rw [bG (ne b hb)];exact (hf b hb).1,(hf b hb).2⟩
  have I1:Inv X pins σ (upd H s.heap.objs.size (.tup [x,y])) { s with heap:=h'',toks:=s.toks }:=by
   refine wg (s:={ s with heap:=s.heap.push { cls:=.type "tuple",data:=.seq #[u,v]},toks:=s.toks }) (ch:=[z,TI,TO,i1,i2]) I0 (fun b o hb e=>?_) fp
   simp only [List.mem_cons,List.mem_nil_iff,or_false,not_or] at hb
   refine b2.extBut _ _ hb.1 ?_
   by_cases hT:b=s.heap.objs.size
   ·subst hT
    have e':(s.heap.push { cls:=.type "tuple",data:=.seq #[u,v]}).get? s.heap.objs.size=some o:=e
    rw [Heap.get?_push_size _ rfl] at e'
    cases e'
    exact a5
   ·refine hk b o hb.1 hb.2.2.1 hb.2.2.2.1 hb.2.2.2.2 ?_
    have e':(s.heap.push { cls:=.type "tuple",data:=.seq #[u,v]}).get? b=some o:=e
    rw [Heap.get?_push_ne _ _ _ hT] at e';exact e'
  refine ⟨.ref s.heap.objs.size,_,I1,rfl,⟨s.heap.objs.size,x,y,hT,rfl,rfl,fun xs' h=>by rw [I.nZ h hx];exact ex,fun ys' h=>by rw [I.nZ h hy];exact ey⟩,?_,fun b hb=>(fp b hb).1⟩
  exact ⟨b1,b2.extBut _ _ D.TIz (hk _ _ D.TIz D.TITO D.TIi1 D.TIi2 s2),⟨_,_,b2.extBut _ _ D.TOz a2⟩,a3.extBut b2.extBut D.i1z,a4.extBut b2.extBut D.i2z⟩
 done:=by
  intro X hP hw hK hc i pins s σ H E I hf st hg
  subst hP hw hK
  obtain ⟨s1,s2,⟨u0,v0,s3⟩,s4,s5⟩:=st
  obtain ⟨xs,ys,hx,hy,hl⟩:=hg
  obtain ⟨xt,rx,px,_⟩:=I.list hx
  obtain ⟨yt,ry,py,_⟩:=I.list hy
  have hl1:=rx.length
  have hl2:=ry.length
  refine wpAny_pyNext_zip_end (I.ok.hd hc) D s1 s2 s3 s4 s5 px.isList py.isList (hl.imp (fun z=>by simp;omega) fun z=>by simp;omega) fun h' hk=>⟨rfl,?_⟩
  refine wg (ch:=[z,TI,TO,i1,i2]) (t':=s.toks) I (fun b o hb e=>?_) hf
  simp only [List.mem_cons,List.mem_nil_iff,or_false,not_or] at hb
  exact hk b o hb.1 hb.2.2.1 hb.2.2.2.1 hb.2.2.2.2 e
 self:=fun _ _ _ _ _ st h=>wpAny_pyIter_zip st.1 h
end Sm
set_option maxRecDepth 100000
namespace Sm
open PySem PySem.Spec PyProof.Rows L2 PySem.SeqAt
open Ev (D O Hh Fr R aU E Es Eo T S Ss Fl Src cF bY TY BI ME)
theorem Af {h:Hh}{a b:List (Nat×List D)}(e:Ev.stays h (a++b)=true):Ev.stays h a=true∧Ev.stays h b=true:=by
 induction a with
 | nil=>exact ⟨rfl,e⟩
 | cons p a ih=>
  obtain ⟨n,ds⟩:=p
  simp only [List.cons_append,Ev.stays,Bool.and_eq_true] at e ⊢
  exact ⟨⟨e.1,(ih e.2).1⟩,(ih e.2).2⟩
theorem zip_get {a b:List D}{i:Nat}{d:D}(e:(Ev.eW a b)[i]?=some d):∃ x y,a[i]?=some x∧b[i]?=some y∧d=.tup [x,y]:=by
 unfold Ev.eW at e
 rw [List.getElem?_zipWith] at e
 split at e
 ·rename_i x y h1 h2;cases e;exact ⟨x,y,h1,h2,rfl⟩
 ·cases e
theorem JN {K:PySem.W.Frag}{r:List Addr}{H:Hp}{h:Hh}{n1 n2:Nat}{a1 a2:Addr}{ds es:List D}(z1:r[n1]?=some a1) (z2:r[n2]?=some a2):ow K r H (Ev.eW ds es,[(n1,ds)]++[(n2,es)]) (Qa K a1 a2):=fun i H1 r1 h1 hr1 f1 st=>by
 obtain ⟨st1,st2⟩:=Af st
 obtain ⟨b1,vs,e1,e2,e3⟩:=hr1.read (mC st1)
 rw [f1.pre _ _ z1] at e1;cases e1
 obtain ⟨b2,ws,g1,g2,g3⟩:=hr1.read (mC st2)
 rw [f1.pre _ _ z2] at g1;cases g1
 refine ⟨fun d e=>?_,fun hl=>?_⟩
 ·obtain ⟨x,y,k1,k2,rfl⟩:=zip_get e
  obtain ⟨u,p1,p2⟩:=e3.get k1
  obtain ⟨v,q1,q2⟩:=g3.get k2
  refine ⟨⟨vs,ws,u,v,e2,g2,p1,q1⟩,fun X H2 y=>?_⟩
  obtain ⟨p,u',v',hp,rfl,rfl,hu,hv⟩:=y
  have Qc:=hu vs e2
  rw [p1] at Qc;cases Qc
  have hv':=hv ws g2
  rw [q1] at hv';cases hv'
  exact ⟨r1,⟨p,[u,v],rfl,.of fR,.cons (p2.mono (.tup hp)) (.cons (q2.mono (.tup hp)) .nil)⟩,hr1.tup hp,.tup hp⟩
 ·refine ⟨vs,ws,e2,g2,?_⟩
  have:=e3.length
  have:=g3.length
  have hl':(Ev.eW ds es).length≤i:=hl
  simp only [Ev.eW,List.length_zipWith] at hl'
  omega
section
variable {G:Tb}{n:Nat}{sc:Scope}{N:List Str}{df:Bool}{m:List Nat}{a b c:E}{xa xb xc:Expr}{pos:Pos}
theorem JP {elts:List Expr}{x1}{tpos p:Pos}(ha:JE G n sc N df m a xa) (hb:JE G n sc N df m b xb) (hg:sc.names.lookup ("zip" : Str)=some .globalImplicit:=by rfl) (Qd:("zip" : Str)∈G.bl:=by decide +kernel)
  (hst:∀ env:Env,starEach [xa,xb] env=[(false,eval xa env),(false,eval xb env)]:=by intro _;rfl) (yi:∀ env:Env,starEach [xb] env=[(false,eval xb env)]:=by intro _;rfl) :
  JI G n sc N df m (.zip a b) (.Tuple elts x1 tpos) (.Call (.Name "zip" p) [xa,xb] [] pos):=fun X g=>by
 intro pins s σ H Rr I q
 obtain ⟨r,fr,h,src,h',sr,hr,e,q⟩:=q
 simp only [Ev.cM] at e
 replace e:=Ev.aj e;obtain ⟨x,h1,e1,e⟩:=e
 replace e:=Ev.aj e;obtain ⟨y,h2,e2,e⟩:=e
 replace e:=Ev.aM e;obtain ⟨e,y0⟩:=e;subst y0
 have JQ:PA X [xa,xb] _:=iL (ha X g) (iL (hb X g) lY (yi _)) (by rw [hst,yi])
 refine Call_ (jA I (g.gl hg) (g.bl _ Qd) (show bootBuiltins ("zip" : Str)=some (.type "zip") by decide +kernel) (PyProof.Rows.callWith_type1 (bQ (JQ pos pins s σ H (fun vs H1=>∃ r1 u v,vs=[u,v]∧RV X.K H1 r1 x u∧RV X.K H1 r1 y v∧HR X.K H1 r1 h'∧Fm X.K r r1 H H1) I ?_) fun us s1 z=>?_) (by rw [hst,yi]) (by rw [yi];rfl)))
 ·refine ⟨r,fr,h,x,h1,sr,hr,e1,fun u H1 r1 v1 hr1 f1=>?_⟩
  refine ⟨r1,fr,h1,y,h',sr.mono f1,hr1,e2,fun v H2 r2 v2 hr2 f2=>?_⟩
  exact ⟨r2,u,v,rfl,v1.mono f2,v2,hr2,f1.trans f2⟩
 ·obtain ⟨vs,H1,I1,rv,r1,u,v,rfl,v1,v2,hr1,f1⟩:=z
  simp only [Option.bind_eq_some_iff,Option.map_eq_some_iff] at e
  obtain ⟨s1',k1,s2',k2,rfl⟩:=e
  cases x <;> simp only [Ev.oq,reduceCtorEq,Option.map_eq_some_iff] at k1
  rename_i n1
  obtain ⟨ds,k1,rfl⟩:=k1
  cases y <;> simp only [Ev.oq,reduceCtorEq,Option.map_eq_some_iff] at k2
  rename_i n2
  obtain ⟨es,k2,rfl⟩:=k2
  obtain ⟨a1,rfl,z1⟩:=v1.shape
  obtain ⟨a2,rfl,z2⟩:=v2.shape
  obtain ⟨b1,xs,w1,w2,w3⟩:=hr1.read k1
  rw [z1] at w1;cases w1
  obtain ⟨b2,ys,w4,w5,w6⟩:=hr1.read k2
  rw [z2] at w4;cases w4
  cases rv with
  | cons ra rb=>
  cases rb with
  | cons rb rc=>
  cases rc
  cases ra
  cases rb
  obtain ⟨xt,_,px,_⟩:=I1.list w2
  obtain ⟨yt,_,py,_⟩:=I1.list w5
  refine call_zip_2 px.isList py.isList fun hp c1 c2 c3 c4 c5 c6 c7=>?_
  have I2:Inv X pins σ H1 { s1 with heap:=hp,toks:=s1.toks }:=I1.kept c7
  have l1:a1<s1.heap.objs.size:=by obtain ⟨o,e,_⟩:=px.isList;exact Heap.lt_size e
  have l2:a2<s1.heap.objs.size:=by obtain ⟨o,e,_⟩:=py.isList;exact Heap.lt_size e
  refine wpAny_pyIter_zip c1 ⟨_,[s1.heap.objs.size+4,s1.heap.objs.size+2,s1.heap.objs.size+3,s1.heap.objs.size,s1.heap.objs.size+1],_,_,H1,rfl,I2,Cn ?_,⟨c1,c2,⟨_,_,c3⟩,c4,c5⟩,fun b hb=>?_,q _ H1 r1 hr1 f1 (JN (h:=h') z1 z2)⟩
  ·constructor <;> (intro z;have z2:@Eq Nat _ _:=z;have W5:@LT.lt Nat _ a1 s1.heap.objs.size:=l1;have W6:@LT.lt Nat _ a2 s1.heap.objs.size:=l2;omega)
  ·have hb':s1.heap.objs.size≤b:=by
    simp only [List.mem_cons,List.mem_nil_iff,or_false] at hb
    rcases hb with rfl | rfl | rfl | rfl | rfl
    ·exact Nat.le_add_right _ _
    ·exact Nat.le_add_right _ _
    ·exact Nat.le_add_right _ _
    ·exact Nat.le_refl _
    ·exact Nat.le_add_right _ _
   exact I1.xC hb' (I1.hok.fresh hb')
end
end Sm
set_option maxRecDepth 100000
namespace Sm
open PySem PySem.Spec PyProof.Rows L2 PySem.SeqAt
open Ev (D O Hh Fr R aU E Es Eo T S Ss Fl Src cF bY TY BI ME)
noncomputable def iB:List (D×D)→Bool
 | []=>true
 | (.str k,.str v) :: r=>decide (v.length≤1000)&&iB r
 | _=>false
theorem tZ {s:List Nat}{r:D}:∀ {kvs:List (D×D)},iB kvs=true→Ev.eU (.str s) kvs=some r→∃ t,r=.str t∧t.length≤1000∧PySem.Spec.lookup (.str (aX s)) (tabOf kvs)=some (.str (aX t))
 | [],_,e=>by simp [Ev.eU] at e
 | (k,v) :: l,ha,e=>by
  cases k <;> cases v <;> simp only [iB,Bool.false_eq_true,Bool.and_eq_true,decide_eq_true_eq] at ha
  rename_i k v
  simp only [Ev.eU] at e
  rw [show Ev.gz [] 1 (.str k) (.str s)=some (k==s) from rfl] at e
  simp only [tabOf,PySem.Spec.lookup]
  by_cases h:k=s
  ·subst h
   simp at e
   subst e
   refine ⟨v,rfl,ha.1,?_⟩
   have:PySem.Spec.same (.str (aX k)) (.str (aX k))=true:=by rw [PyProof.V.same_str];simp
   rw [this];rfl
  ·have hb:(k==s)=false:=by simpa using h
   rw [hb] at e
   simp only at e
   obtain ⟨t,h1,h2,h3⟩:=tZ ha.2 e
   refine ⟨t,h1,h2,?_⟩
   have:PySem.Spec.same (.str (aX k)) (.str (aX s))=false:=by
    rw [PyProof.V.same_str]
    simp
    exact fun z=>h (qm z)
   rw [this]
   exact h3
theorem t6 {y r:D}:∀ {kvs:List (D×D)},iB kvs=true→Ev.eU y kvs=some r→∃ s,y=.str s
 | [],_,e=>by simp [Ev.eU] at e
 | (k,v) :: l,ha,e=>by
  cases k <;> cases v <;> simp only [iB,Bool.false_eq_true,Bool.and_eq_true,decide_eq_true_eq] at ha
  cases y with
  | str s=>exact ⟨s,rfl⟩
  | ref a=>cases e
  | _=>first | exact t6 ha.2 e | cases e
section
variable {G:Tb}{n:Nat}{sc:Scope}{N:List Str}{df:Bool}{m:List Nat}{a b c:E}{xa xb xc:Expr}{pos:Pos}
theorem GR {x:Str}{kvs:List (D×D)}{p:Pos}(hm:(x,kvs)∈G.dk) (ha:JE G n sc N df m a xa) (hk:iB kvs=true:=by decide) (hg:sc.names.lookup x=some .globalImplicit:=by rfl) (hd:(x==("__debug__" : Str))=false:=by decide) (hs:qj xa:=by intro _ _;rfl) :
  JE G n sc N df m (.jE kvs a) (.Subscript (.Name x p) xa pos):=fun X g=>by
 intro pins s σ H Q I q
 obtain ⟨r,fr,h,d,h',sr,hr,e,q⟩:=q
 simp only [Ev.ev] at e
 replace e:=Ev.aj e;obtain ⟨y,h1,e1,e⟩:=e
 replace e:=Ev.aM e;obtain ⟨e,y0⟩:=e;subst y0
 obtain ⟨ad,hmg,htab⟩:=g.dk x kvs hm
 refine Subscript_ (xG (Gd (v:=.ref ad) (g.gl hg) hmg rfl hd) (ha X g) I (R:=fun x' y' H2=>x'=.ref ad∧∃ r1,RV X.K H2 r1 y y'∧HR X.K H2 r1 h'∧Fm X.K r r1 H H2) ?_ fun v u s2 x' y' H2 I2 rx ry z=>?_)
 ·refine ⟨r,fr,h,y,h',sr,hr,e1,fun v H1 r1 v1 hr1 f1=>⟨rfl,r1,v1,hr1,f1⟩⟩
 ·obtain ⟨rfl,r1,v1,hr1,f1⟩:=z
  obtain rfl:v=Value.ref ad:=rx
  have hy:∃ sx,y=.str sx:=t6 hk e
  obtain ⟨sx,rfl⟩:=hy
  obtain ⟨t,rfl,ht,hl⟩:=tZ hk e
  simp only [RV] at v1
  obtain ⟨rfl,_⟩:=v1
  obtain ⟨tk,rfl⟩:=ry
  refine item_strTab (htab s2.heap I2.gw) hl (fun v hv=>?_) (hs _ _)
  obtain ⟨t2,rfl⟩:=PyProof.V.Flat.str_inv hv
  exact ⟨.str (aX t),H2,I2.tok _,⟨t2,rfl⟩,q _ H2 r1 ⟨rfl,Nat.le_trans ht (by rw [sizeLine_eq];decide)⟩ hr1 f1⟩
end
end Sm
set_option maxRecDepth 100000
namespace Sm
open PySem PySem.Spec PyProof.Rows L2 PySem.SeqAt
open Ev (D O Hh Fr R aU E Es Eo T S Ss Fl Src cF bY TY BI ME)
section
variable {X:Cx}{G:Tb}{n:Nat}{sc:Scope}{N:List Str}{df:Bool}{m:List Nat}{a b c:E}{xa xb xc xd tg:Expr}{pos:Pos}
end
end Sm
set_option maxRecDepth 100000
namespace Rv
open PySem PyProof.Rows
theorem mG:Manifest.owners.lookup (String.ofList ['d','e','s','r','e','v','e','r'].reverse)=some Manifest.sig_reversed:=by kernel_rfl
theorem slot_next:Slot "reversed" "__next__" "reversed.__next__" :=
 .of (owner:="reversed") (n:="__next__") (by rw [typeLookup_type,builtinLookup_eq_fast];kernel_rfl) (by decide +kernel) (by decide +kernel) (by decide +kernel)
  (by first | exact .inl (by decide +kernel) | exact .inr (by decide +kernel)) (by rw [isSubtype_type];kernel_rfl)
theorem entry_next:entryFor table "reversed.__next__" = some Builtin.«reversed.__next__»:=entryFor_of_tree (by kernel_rfl)
theorem args_next (a:Value):argsOk "reversed.__next__" ⟨[a],[]⟩:=by
 unfold argsOk;rw [signature?_of (id:="reversed.__next__") (n:=['_','_','t','x','e','n','_','_']) (o:=['d','e','s','r','e','v','e','r']) (by kernel_rfl) mG];kernel_rfl
theorem rG:Slot "reversed" "__iter__" "reversed.__iter__" :=
 .of (owner:="reversed") (n:="__iter__") (by rw [typeLookup_type,builtinLookup_eq_fast];kernel_rfl) (by decide +kernel) (by decide +kernel) (by decide +kernel)
  (by first | exact .inl (by decide +kernel) | exact .inr (by decide +kernel)) (by rw [isSubtype_type];kernel_rfl)
theorem Ag (a:Value):argsOk "reversed.__iter__" ⟨[a],[]⟩:=by
 unfold argsOk;rw [signature?_of (id:="reversed.__iter__") (n:=['_','_','r','e','t','i','_','_']) (o:=['d','e','s','r','e','v','e','r']) (by kernel_rfl) mG];kernel_rfl
theorem yj:entryFor table "reversed.__iter__" = some Builtin.«dict_keyiterator.__iter__»:=
 entryFor_alias (id':="dict_keyiterator.__iter__") (by kernel_rfl) (by first | rfl | decide +kernel | (unfold String.splitOn;simp +decide [String.splitOnAux])) (by decide +kernel) (by kernel_rfl)
theorem mH:Slot "reversed" "__length_hint__" "reversed.__length_hint__" :=
 .of (owner:="reversed") (n:="__length_hint__") (by rw [typeLookup_type,builtinLookup_eq_fast];kernel_rfl) (by decide +kernel) (by decide +kernel) (by decide +kernel)
  (by first | exact .inl (by decide +kernel) | exact .inr (by decide +kernel)) (by rw [isSubtype_type];kernel_rfl)
theorem yk:entryFor table "reversed.__length_hint__" = some Builtin.«reversed.__length_hint__»:=entryFor_of_tree (by kernel_rfl)
theorem Ah (a:Value):argsOk "reversed.__length_hint__" ⟨[a],[]⟩:=by
 unfold argsOk;rw [signature?_of (id:="reversed.__length_hint__") (n:=['_','_','t','n','i','h','_','h','t','g','n','e','l','_','_']) (o:=['d','e','s','r','e','v','e','r']) (by kernel_rfl) mG];kernel_rfl
theorem JR:typeLookup (.type "reversed") "__len__" = pure none:=by rw [typeLookup_type,builtinLookup_eq_fast];kernel_rfl
theorem JU:typeLookup (.type "tuple") "__reversed__" = pure none:=by rw [typeLookup_type,builtinLookup_eq_fast];kernel_rfl
section
variable {prog:Program}{w:World}{A:Around}{E:Value→Shared→Prop}{s:Shared}
theorem Ai:Slot "reversed" "__init__" "object.__init__" :=
 .of (owner:="object") (n:="__init__") (by rw [typeLookup_type,builtinLookup_eq_fast];kernel_rfl) (by decide +kernel) (by decide +kernel) (by decide +kernel)
  (by first | exact .inl (by decide +kernel) | exact .inr (by decide +kernel)) (by rw [isSubtype_type];kernel_rfl)
theorem called:TypeCalled "reversed" "reversed.__new__" "object.__init__" :=
 ⟨by decide +kernel,by decide +kernel,⟨_,_,F.mro_reversed⟩,F.made_reversed,by decide +kernel,F.sub_reversed_self,Ai⟩
noncomputable def gq (h:Heap) (a t:Addr) (i:Int):Prop:=∃ o,h.get? a=some o∧o.cls=.type "reversed" ∧o.data=.fields #[.ref t,rawInt i]
theorem gq.typeIs {a l:Addr}{i:Int}(x:gq s.heap a l i):s.TypeIs (.ref a) "reversed" :=let ⟨o,ho,hc,_⟩:=x;⟨o,ho,hc⟩
theorem gq.at {h h':Heap}{a l:Addr}{i:Int}(x:gq h a l i) (e:∀ o,h.get? a=some o→h'.get? a=some o):gq h' a l i:=let ⟨o,ho,r⟩:=x;⟨o,e _ ho,r⟩
noncomputable def ni (l:Addr) (i:Int):Obj:={ cls:=.type "reversed",data:=.fields #[.ref l,rawInt i]}
theorem nj {h h':Heap}{t:Addr}{items:Array Value}(x:IsTup h t items) (e:∀ o,h.get? t=some o→h'.get? t=some o):IsTup h' t items:=let ⟨o,ho,r⟩:=x;⟨o,e _ ho,r⟩
theorem Co {t:Addr}{items:Array Value}{Q₁:Value→Shared→Prop}(ht:IsTup s.heap t items) (hfit:(items.size:Int)<2 ^ 63)
  (h:Q₁ (.ref s.heap.objs.size) { s with heap:=s.heap.push (ni t ((items.size:Int) - 1)),toks:=s.toks+1+1 }) :
  codeAny (model prog w) A (.call (.builtin "reversed.__new__") ⟨[.type "reversed",.ref t],[]⟩) (wants Q₁ E) s:=by
 refine codeAny_of_tree ?_
 show wpAny _ A.in1 (do checkBuiltinCall "reversed.__new__" ⟨[.type "reversed",.ref t],[]⟩;again (.builtin "reversed.__new__" ⟨[.type "reversed",.ref t],[]⟩)) _ _ s
 refine wpAny_bind (wpAny_of_eq (F.newCall_reversed_1 _) (wpAny_pure ⟨plainId_quiet F.plain_reversed_new _,codeAny_builtin F.entry_reversed_new ?_⟩))
 rw [Around.under_plainId F.plain_reversed_new _]
 unfold Builtin.«reversed.__new__»
 refine wpAny_bind (wpAny_of_eq (newClass_reversed _) ?_)
 try dsimp only
 refine wpAny_bind (wpAny_of_eq (a:=()) (by first | rfl | kernel_rfl) ?_)
 refine wpAny_bind (wpAny_of_eq (a:=()) (by first | rfl | kernel_rfl) ?_)
 try dsimp only
 refine wpAny_bind (wpAny_specialOf ht.typeIs JU ?_)
 try dsimp only
 refine wpAny_bind ?_
 wp_delta
 refine wpAny_bind (wpAny_isInstance (T:="tuple") (b:=false) ht.typeIs (by rw [isSubtype_type];kernel_rfl) ?_)
 refine wpAny_ite_split (fun hab=>absurd hab (by decide)) (fun _=>?_)
 refine wpAny_bind (wpAny_specialOf ht.typeIs slot_tuple_getitem.lookup ?_)
 try dsimp only
 refine wpAny_ite_split (fun _=>?_) (fun hab=>absurd (by decide) hab)
 refine wpAny_pure ?_
 refine wpAny_ite_split (fun hab=>absurd hab (by decide)) (fun _=>?_)
 refine wpAny_bind (len_tuple ht hfit ?_)
 refine wpAny_bind (m:=asInt? _) (wpAny_pure ?_)
 try dsimp only
 refine wpAny_bind (m:=Builtin.SmallTypes.newRecord _ _) ?_
 unfold Builtin.SmallTypes.newRecord
 refine wpAny_newObj_type ?_ (by size_fits)
 exact wpAny_pure h
theorem Cp {t:Addr}{items:Array Value}{Q:Value→Shared→Prop}(ht:IsTup s.heap t items) (hfit:(items.size:Int)<2 ^ 63)
  (h:Q (.ref s.heap.objs.size) { s with heap:=s.heap.push (ni t ((items.size:Int) - 1)),toks:=s.toks+1+1 }):wpAny (model prog w) A (call (.type "reversed") [.ref t]) Q E s:=by
 refine callType_codes (Q₁:=fun obj s₁=>obj=.ref s.heap.objs.size∧s₁={ s with heap:=s.heap.push (ni t ((items.size:Int) - 1)),toks:=s.toks+1+1 }) called (F.typeCall_reversed_1 _) F.entry_object_init (Co ht hfit ⟨rfl,rfl⟩) ?_
 rintro obj s₁ ⟨rfl,rfl⟩
 have hT:({ s with heap:=s.heap.push (ni t ((items.size:Int) - 1)),toks:=s.toks+1+1 }:Shared).TypeIs (.ref s.heap.objs.size) "reversed" :=⟨_,Heap.get?_push_size _ rfl,rfl⟩
 refine ⟨hT,F.args_object_init_2 _ _,?_⟩
 exact object_init_meets (self:=Value.ref s.heap.objs.size) (rest:=[Value.ref t]) called.init.lookup called.made (by decide) prog w A.in1 _ _ ⟨hT,rfl,h⟩
theorem next_item {it t:Addr}{i:Nat}{items:Array Value}{x:Value}{Q:Option Value→Shared→Prop}(hit:gq s.heap it t (i:Int)) (ht:IsTup s.heap t items) (hx:items[i]?=some x) (hfit:(items.size:Int)<2 ^ 62)
  (hQ:∀ h' tk,gq h' it t ((i:Int) - 1)→Heap.SameBut it s.heap h'→Q (some x) { s with heap:=h',toks:=tk }):wpAny (model prog w) A (pyNext (.ref it)) Q E s:=by
 obtain ⟨o,ho,hc,hd⟩:=id hit
 have hi:i<items.size:=(Array.getElem?_eq_some_iff.mp hx).1
 unfold pyNext
 refine wpAny_bind (wpAny_attempt (wpAny_callSpecial?_slot (name:=Str.ofString "__next__") hit.typeIs slot_next
  (wpAny_call_entry slot_next hit.typeIs entry_next ?_ (args_next _))))
 unfold Builtin.«reversed.__next__»
 refine wpAny_bind (wpAny_of_eq (a:=(Value.ref it,[])) rfl ?_)
 try dsimp only
 refine wpAny_bind (wpAny_field ho hd (x:=.ref t) rfl ?_)
 refine wpAny_bind (wpAny_field ho hd (x:=rawInt (i:Int)) rfl ?_)
 show wpAny _ _ (if (i:Int)<0 then _ else _) _ _ s
 rw [if_neg (by omega)]
 try dsimp only
 refine wpAny_bind (wpAny_specialOf ht.typeIs slot_tuple_getitem.lookup ?_)
 try dsimp only
 refine wpAny_ite_split (fun hab=>absurd hab (by decide)) (fun _=>?_)
 refine wpAny_bind (wpAny_mkInt ?_)
 refine wpAny_bind (wpAny_attempt (getItem_tuple (j:=i) ht (by omega) (by omega) (by unfold seqIndex?;simp;omega) hx ?_))
 try dsimp only
 refine wpAny_bind (wpAny_field ho hd (x:=rawInt (i:Int)) rfl ?_)
 show wpAny _ _ (setField (.ref it) 1 (rawInt ((i:Int) - 1)) >>= _) _ _ _
 refine wpAny_bind (wpAny_setField ho hd (by simp) ?_)
 refine wpAny_pure ⟨x,rfl,wpAny_pure (hQ _ _ ?_ (Heap.SameBut.update ..))⟩
 exact ⟨_,Heap.get?_update_self _ ho (Obj.isFreed_of_fields (Obj.data_mapFields hd _)),(Obj.cls_mapFields ..).trans hc,by
  rw [Obj.data_mapFields hd];simp⟩
theorem next_end {it t:Addr}{Q:Option Value→Shared→Prop}(hh:A.handled=none) (hit:gq s.heap it t (-1))
  (hQ:∀ h',Heap.ExtBut it s.heap h'→Q none { s with heap:=h' }):wpAny (model prog w) A (pyNext (.ref it)) Q E s:=by
 obtain ⟨o,ho,hc,hd⟩:=id hit
 unfold pyNext
 refine wpAny_bind (wpAny_attempt (wpAny_callSpecial?_slot (name:=Str.ofString "__next__") hit.typeIs slot_next
  (wpAny_call_entry slot_next hit.typeIs entry_next ?_ (args_next _))))
 unfold Builtin.«reversed.__next__»
 refine wpAny_bind (wpAny_of_eq (a:=(Value.ref it,[])) rfl ?_)
 try dsimp only
 refine wpAny_bind (wpAny_field ho hd (x:=.ref t) rfl ?_)
 refine wpAny_bind (wpAny_field ho hd (x:=rawInt (-1)) rfl ?_)
 show wpAny _ _ (if (-1:Int)<0 then _ else _) _ _ s
 rw [if_pos (by decide)]
 refine wpAny_bind (wpAny_rule ?_)
 refine wpAny_bind ?_
 wp_delta
 refine wpAny_bind (wpAny_setField ho hd (by simp) ?_)
 have ho2:=Heap.get?_update_self (Obj.mapFields fun x=>x.setIfInBounds 1 (rawInt (-1))) ho (Obj.isFreed_of_fields (Obj.data_mapFields hd _))
 refine wpAny_setField ho2 (Obj.data_mapFields hd _) (by simp) ?_
 refine wpAny_bind ?_
 unfold Builtin.SmallTypes.stopIteration
 first
 | show wpAny _ _ (newExc (.type "StopIteration") [] >>= _) _ _ _
 | (refine wpAny_bind ?_;show wpAny _ _ (newExc (.type "StopIteration") [] >>= _) _ _ _)
 refine wpAny_bind ?_
 simp only [newExc,newTuple]
 refine wpAny_bind (wpAny_newObj_type ?_ (by size_fits))
 refine wpAny_bind (m:=firstArgMember _ _) (wpAny_of_eq (a:=Value.none) (by first | rfl | (simp only [firstArgMember];rfl)) ?_)
 refine wpAny_newObj_type ?_ (by size_fits)
 simp only [raiseNew]
 refine wpAny_bind (wpAny_handled ?_)
 first | rw [show A.in1.handled=none from hh] | rw [hh]
 refine wpAny_bind (wpAny_pure (wpAny_throw ?_))
 refine wpAny_bind (wpAny_isInstance (T:="StopIteration") (b:=true) ⟨_,Heap.get?_push_size _ rfl,rfl⟩ isSubtype_stop ?_)
 exact wpAny_pure (hQ _ ((((Heap.SameBut.update ..).extBut.trans (Heap.SameBut.update ..).extBut).push _).push _))
theorem t7 {it t:Addr}{i:Int}{Q:Value→Shared→Prop}(hit:gq s.heap it t i) (h:Q (.ref it) s):wpAny (model prog w) A (pyIter (.ref it)) Q E s:=by
 refine wpAny_pyIter_slot hit.typeIs rG (wpAny_call_entry rG hit.typeIs yj ?_ (Ag _))
 show wpAny _ _ (ret (.ref it)) _ _ s
 exact wpAny_pure ⟨_,rfl,"reversed",_,hit.typeIs,slot_next.lookup,h⟩
theorem Cq {it t:Addr}{items:Array Value}{Q:Bool→Shared→Prop}(hit:gq s.heap it t ((items.size:Int) - 1)) (ht:IsTup s.heap t items) (hfit:items.size≤sizeLine)
  (h:∀ tk,Q ((items.size:Int) != 0) { s with toks:=tk }):wpAny (model prog w) A (Builtin.List.listLengthHint (.ref it)) Q E s:=by
 obtain ⟨o,ho,hc,hd⟩:=id hit
 unfold Builtin.List.listLengthHint
 refine wpAny_bind (wpAny_specialOf hit.typeIs JR ?_)
 refine wpAny_ite_split (fun hab=>absurd hab (by decide +kernel)) (fun _=>?_)
 refine wpAny_ite_split (fun hab=>absurd hab (by decide)) (fun _=>?_)
 refine wpAny_bind (wpAny_specialOf hit.typeIs mH.lookup ?_)
 generalize hid:("reversed.__length_hint__" : String)=Vu
 dsimp only
 rw [show splitId Vu=some ("reversed","__length_hint__") from by subst hid;decide +kernel]
 subst hid
 dsimp only
 refine wpAny_bind (wpAny_isInstance (T:="reversed") (b:=true) hit.typeIs (by rw [isSubtype_type];kernel_rfl) ?_)
 refine wpAny_ite_split (fun hab=>absurd hab (by decide)) (fun _=>?_)
 refine wpAny_ite_split (fun hab=>absurd hab (by decide +kernel)) (fun _=>?_)
 refine wpAny_bind (wpAny_rule ?_)
 refine wpAny_bind (wpAny_of_eq (mH.bind _) ?_)
 refine wpAny_bind (wpAny_attempt (wpAny_call_entry mH hit.typeIs yk ?_ (Ah _)))
 unfold Builtin.«reversed.__length_hint__»
 refine wpAny_bind (wpAny_of_eq (a:=Value.ref it) rfl ?_)
 refine wpAny_bind (wpAny_field ho hd (x:=.ref t) rfl ?_)
 refine wpAny_ite_split (fun hab=>absurd hab Bool.false_ne_true) (fun _=>?_)
 have hf2:(items.size:Int)<2 ^ 63:=by rw [sizeLine_eq] at hfit;omega
 refine wpAny_bind (len_tuple ht hf2 ?_)
 refine wpAny_bind (m:=asInt? _) (wpAny_pure ?_)
 refine wpAny_bind (wpAny_field ho hd (x:=rawInt ((items.size:Int) - 1)) rfl ?_)
 show wpAny _ _ (if (items.size:Int)<(items.size:Int) - 1+1 then _ else _) _ _ _
 rw [if_neg (by omega)]
 have e1:(items.size:Int) - 1+1=(items.size:Int):=by omega
 rw [e1]
 unfold retInt
 refine wpAny_bind (wpAny_mkInt (wpAny_pure ⟨_,rfl,?_⟩))
 generalize s.toks+1+1=tk
 show wpAny _ _ (asInt? (Value.int (items.size:Int) tk) >>= _) _ _ _
 refine wpAny_bind ?_
 refine wpAny_pure (a:=some (items.size:Int)) ?_
 have Vv:Builtin.List.listFitsIndex (items.size:Int)=true:=by unfold Builtin.List.listFitsIndex;rw [decide_eq_true (by omega),decide_eq_true (by omega)];rfl
 show wpAny _ _ (if (!Builtin.List.listFitsIndex (items.size:Int))=true then _ else _) _ _ _
 rw [if_neg (by rw [Vv];decide)]
 show wpAny _ _ (if (items.size:Int)<0 then _ else _) _ _ _
 rw [if_neg (by omega)]
 have JV:Builtin.List.listTooLong ((items.size:Int).toNat)=false:=by unfold Builtin.List.listTooLong;rw [Int.toNat_natCast];exact decide_eq_false (by omega)
 show wpAny _ _ (if Builtin.List.listTooLong ((items.size:Int).toNat)=true then _ else _) _ _ _
 rw [if_neg (by rw [JV];decide)]
 exact wpAny_pure (h _)
theorem _root_.PySem.Walks.JX (hh:A.handled=none) (I t:Addr) (hne:t≠I) (items:Array Value) (hfit:(items.size:Int)<2 ^ 62) :
  Walks prog w A I [I,t] [I] items.size (fun i v=>items[items.size - 1 - i]?=some v) (fun i h=>i≤items.size∧gq h I t ((items.size:Int) - 1 - (i:Int))∧IsTup h t items) where
 sub:=fun b hb=>by simp at hb;simp [hb]
 frame:=fun _ _ _ x hk=>⟨x.1,x.2.1.at fun o e=>hk I (by simp) o e,nj x.2.2 fun o e=>hk t (by simp) o e⟩
 item:=fun i s Q E hi x hQ=>by
  have e:(items.size:Int) - 1 - (i:Int)=((items.size - 1 - i:Nat):Int):=by omega
  have hit:=x.2.1
  rw [e] at hit
  have hx:items[items.size - 1 - i]?=some (items[items.size - 1 - i]'(by omega)):=Array.getElem?_eq_getElem (by omega)
  refine next_item hit x.2.2 hx hfit fun h' tk JY hs'=>?_
  have e2:((items.size - 1 - i:Nat):Int) - 1=(items.size:Int) - 1 - ((i+1:Nat):Int):=by omega
  rw [e2] at JY
  exact hQ _ h' tk hx ⟨hi,JY,nj x.2.2 fun o eo=>(hs'.2 t hne).trans eo⟩ fun b o hb eo=>hs'.extBut b o (fun h=>hb (by simp [h])) eo
 done:=fun s Q E x hQ=>by
  have e:(items.size:Int) - 1 - (items.size:Int) = -1:=by omega
  have hit:=x.2.1
  rw [e] at hit
  exact next_end hh hit fun h' he'=>hQ h' s.toks fun b o hb eo=>he' b o (fun h=>hb (by simp [h])) eo
 self:=fun _ _ _ _ x hQ=>t7 x.2.1 hQ
theorem yl {R:Result→Shared→Prop}{I t:Addr}{items:Array Value}(hh:A.handled=none) (hit:gq s.heap I t ((items.size:Int) - 1)) (ht:IsTup s.heap t items) (hne:t≠I) (hlen:items.size≤sizeLine)
  (S:Addr) (hSI:S≠I) (hSt:S≠t) (res:Value) (c₀:Nat) (hS:s.heap.get? S=some { cls:=.type "list",data:=.seq #[] c₀ })
  (hR:∀ h' tk acc' c',(∀ b o,b≠S→b≠I→s.heap.get? b=some o→h'.get? b=some o)→h'.get? S=some { cls:=.type "list",dict:=none,data:=.seq acc' c',slots:=#[]}→
   ItemsOf (fun i v=>items[items.size - 1 - i]?=some v) acc' items.size→R (.ok (.ret res)) { s with heap:=h',toks:=tk }) :
  wpAny (model prog w) A.in1 (Builtin.List.listExtendWith (.ref S) (.ref I) res)
   (fun fin s'=>match fin with | .done f=>R (.ok f) s' | .again c'=>c'.quiet=true∧codeAny (model prog w) A c' R s') (fun e s'=>R (.error e) s') s:=by
 have hf:(items.size:Int)<2 ^ 62:=by rw [sizeLine_eq] at hlen;omega
 have hSf:S∉[I,t]:=fun hm=>by rcases List.mem_cons.mp hm with e | e;exact hSI e;exact hSt (List.mem_singleton.mp e)
 have W:=(Walks.JX (prog:=prog) (w:=w) (A:=A.in1) hh I t hne items hf).toS
 have key:∀ (h:Heap) (c₁ tk:Nat),gq h I t ((items.size:Int) - 1 - ((0:Nat):Int))→IsTup h t items→(∀ b o,b≠S→s.heap.get? b=some o→h.get? b=some o)→
   h.get? S=some { cls:=.type "list",data:=.seq #[] c₁ }→codeAny (model prog w) A (.builtin "list.extend.loop" ⟨[.ref S,.ref I,res],[]⟩) R { s with heap:=h,toks:=tk }:=by
  intro h c₁ tk hit ht hk Oh
  refine codeAny_extend_loopS W hlen S hSf res items.size 0 _ #[] c₁ rfl (Nat.zero_le _) ⟨Nat.zero_le _,hit,ht⟩ Oh (ItemsOf.nil _) fun s' acc' c' hm hS' hacc=>?_
  rw [Moved.eq_with hm]
  refine hR s'.heap s'.toks acc' c' (fun b o hb hb2 e=>hm.heap b o (fun hmem=>?_) (hk b o hb e)) hS' hacc
  rcases List.mem_cons.mp hmem with e' | hmem
  ·exact hb e'
  ·exact hb2 (List.mem_singleton.mp hmem)
 unfold Builtin.List.listExtendWith
 refine wpAny_bind (wpAny_typeOf (T:="reversed") hit.typeIs ?_)
 have h1:Builtin.List.listSameRef (.ref S) (.ref I)=false:=by simp [Builtin.List.listSameRef,hSI]
 have h2:(Value.type "reversed" ==Value.type "list")=false:=by decide
 have h3:(Value.type "reversed" ==Value.type "tuple")=false:=by decide
 simp only [h1,h2,h3,Bool.or_false,Bool.false_eq_true,if_false]
 refine wpAny_bind (t7 hit ?_)
 refine wpAny_bind (wpAny_holding (Cq hit ht hlen fun tk=>?_))
 have JZ:gq s.heap I t ((items.size:Int) - 1 - ((0:Nat):Int)):=by simpa using hit
 refine wpAny_ite_split (fun _=>?_) (fun _=>wpAny_pure ⟨plainId_quiet F.plain_extend_loop _,key _ c₀ _ JZ ht (fun b o _ e=>e) hS⟩)
 refine wpAny_bind (wpAny_rule ?_)
 refine wpAny_bind ?_
 show wpAny _ _ (updateSeq S (·.push .none) >>= fun _=>updateSeq S (·.pop)) _ _ _
 refine wpAny_bind (wpAny_updateSeq hS rfl ?_)
 have su:=Heap.get?_update_self (Obj.mapSeq (·.push Value.none)) hS rfl
 refine wpAny_updateSeq (hz:=by seq_fits) su rfl ?_
 have Oi:=Heap.get?_update_self (Obj.mapSeq (·.pop)) su rfl
 have ot:∀ b o,b≠S→s.heap.get? b=some o→((s.heap.update S (Obj.mapSeq (·.push Value.none))).update S (Obj.mapSeq (·.pop))).get? b=some o:=fun b o hb e=>(Heap.get?_update_other _ _ (Ne.symm hb)).trans ((Heap.get?_update_other _ _ (Ne.symm hb)).trans e)
 exact wpAny_pure ⟨plainId_quiet F.plain_extend_loop _,key _ _ _ (JZ.at fun o e=>ot _ _ (Ne.symm hSI) e) (nj ht fun o e=>ot _ _ (Ne.symm hSt) e) ot Oi⟩
theorem Cr {R:Result→Shared→Prop}{I t:Addr}{items:Array Value}(hh:A.handled=none) (hit:gq s.heap I t ((items.size:Int) - 1)) (ht:IsTup s.heap t items) (hne:t≠I) (hlen:items.size≤sizeLine)
  (S:Addr) (hSI:S≠I) (hSt:S≠t) (hS:s.heap.get? S=some { cls:=.type "list",data:=.seq #[]})
  (hR:∀ h' tk acc' c',(∀ b o,b≠S→b≠I→s.heap.get? b=some o→h'.get? b=some o)→h'.get? S=some { cls:=.type "list",dict:=none,data:=.seq acc' c',slots:=#[]}→
   ItemsOf (fun i v=>items[items.size - 1 - i]?=some v) acc' items.size→R (.ok (.ret .none)) { s with heap:=h',toks:=tk }) :
  wpAny (model prog w) A.in1 (Builtin.«list.__init__» ⟨[.ref S,.ref I],[]⟩)
   (fun fin s'=>match fin with | .done f=>R (.ok f) s' | .again c'=>c'.quiet=true∧codeAny (model prog w) A c' R s') (fun e s'=>R (.error e) s') s:=by
 show wpAny _ _ (do let old ←Builtin.List.listItems (.ref S);Builtin.List.listUpdate (.ref S) (fun _=>#[]);letGo old.toList.reverse;Builtin.List.listExtendWith (.ref S) (.ref I) .none) _ _ s
 refine wpAny_bind ?_
 unfold Builtin.List.listItems
 refine wpAny_bind (wpAny_seqItems hS rfl (wpAny_pure ?_))
 show wpAny _ _ (updateSeq S (fun _=>#[]) >>= fun _=>letGo (#[]:Array Value).toList.reverse >>= fun _=>Builtin.List.listExtendWith (.ref S) (.ref I) .none) _ _ s
 refine wpAny_bind (wpAny_updateSeq hS rfl ?_)
 have su:=Heap.get?_update_self (Obj.mapSeq (fun _=>(#[]:Array Value))) hS rfl
 have J0:∀ b o,b≠S→s.heap.get? b=some o→(s.heap.update S (Obj.mapSeq (fun _=>(#[]:Array Value)))).get? b=some o:=
  fun b o hb e=>(Heap.get?_update_other _ _ (Ne.symm hb)).trans e
 refine wpAny_bind (wpAny_letGo ?_)
 refine yl hh (hit.at fun o e=>J0 _ _ (Ne.symm hSI) e) (nj ht fun o e=>J0 _ _ (Ne.symm hSt) e) hne hlen S hSI hSt .none _ su fun h' tk acc' c' hk hS' hacc=>?_
 exact hR h' tk acc' c' (fun b o hb hb2 e=>hk b o hb hb2 (J0 b o hb e)) hS' hacc
theorem rS {Q:Value→Shared→Prop}{I t:Addr}{items:Array Value}(hh:A.handled=none) (hit:gq s.heap I t ((items.size:Int) - 1)) (ht:IsTup s.heap t items) (hne:t≠I) (hlen:items.size≤sizeLine)
  (hQ:∀ h' tk acc' c',(∀ b o,b≠I→s.heap.get? b=some o→h'.get? b=some o)→
   h'.get? s.heap.objs.size=some { cls:=.type "list",dict:=none,data:=.seq acc' c',slots:=#[]}→ItemsOf (fun i v=>items[items.size - 1 - i]?=some v) acc' items.size→Q (.ref s.heap.objs.size) { s with heap:=h',toks:=tk }) :
  wpAny (model prog w) A (call (.type "list") [.ref I]) Q E s:=by
 refine callType_codes (Q₁:=fun obj s₁=>obj=.ref s.heap.objs.size∧s₁={ s with heap:=s.heap.push { cls:=.type "list",data:=.seq #[]}}) F.called_list (F.typeCall_list_1 _) F.entry_list_init
  (code_list_new _ ⟨rfl,rfl⟩) fun obj s₁ h₁=>?_
 obtain ⟨rfl,rfl⟩:=h₁
 have hS:(s.heap.push { cls:=.type "list",data:=.seq #[]}).get? s.heap.objs.size=some { cls:=.type "list",data:=.seq #[]}:=Heap.get?_push_size _ rfl
 have hI:I<s.heap.objs.size:=by obtain ⟨o,ho,_⟩:=hit;exact Heap.lt_size ho
 have hT:t<s.heap.objs.size:=by obtain ⟨o,ho,_⟩:=ht;exact Heap.lt_size ho
 refine ⟨⟨_,hS,rfl⟩,F.args_list_init_2 _ _,Cr (A:=A.in1) hh (hit.at fun o e=>Heap.get?_push_of_some _ e) (nj ht fun o e=>Heap.get?_push_of_some _ e) hne hlen _ (Nat.ne_of_gt hI) (Nat.ne_of_gt hT) hS fun h' tk acc' c' hk hS' hacc=>?_⟩
 exact ⟨rfl,hQ h' tk acc' c' (fun b o hb e=>hk b o (Nat.ne_of_lt (Heap.lt_size e)) hb (Heap.get?_push_of_some _ e)) hS' hacc⟩
end
end Rv
namespace Sm
open PySem PySem.Spec PyProof.Rows L2 PySem.SeqAt
open Ev (D O Hh Fr R aU E Es Eo T S Ss Fl Src cF bY TY BI ME)
section
variable {X:Cx}{G:Tb}{n:Nat}{sc:Scope}{N:List Str}{df:Bool}{m:List Nat}{a b c:E}{xa xb xc tg:Expr}{pos:Pos}
theorem Cs {vs:List V}{us:List Value}(r:Vals vs us) {acc:Array Value}(h:ItemsOf (fun i v=>us.toArray[us.toArray.size - 1 - i]?=some v) acc us.toArray.size):Vals vs.reverse acc.toList:=by
 obtain ⟨h1,h2⟩:=h
 have e:acc.toList=us.reverse:=by
  apply List.ext_getElem?
  intro i
  by_cases hi:i<us.length
  ·have ha:i<acc.size:=by rw [h1];simpa using hi
   have:=h2 i _ (Array.getElem?_eq_getElem ha)
   rw [List.getElem?_reverse hi]
   simp only [List.size_toArray,List.getElem?_toArray] at this
   rw [this]
   simp [ha]
  ·have hs:acc.size=us.length:=by rw [h1];simp
   rw [List.getElem?_eq_none (by rw [Array.length_toList];omega),List.getElem?_eq_none (by rw [List.length_reverse];omega)]
 rw [e];exact Vals.reverse r
theorem wj {p p2 pos2:Pos}(ha:JE G n sc N df m a xa) (h1:("list" : Str)∈G.bl:=by decide +kernel) (Ac:sc.names.lookup ("list" : Str)=some .globalImplicit:=by rfl)
  (hg:sc.names.lookup ("reversed" : Str)=some .globalImplicit:=by rfl) (hb:("reversed" : Str)∈G.bl:=by decide +kernel)
  (hst:∀ env:Env,starEach [xa] env=[(false,eval xa env)]:=by intro _;rfl)
  (J1:∀ env:Env,starEach [Expr.Call (.Name "reversed" p2) [xa] [] pos2] env=[(false,eval (Expr.Call (.Name "reversed" p2) [xa] [] pos2) env)]:=by intro _;rfl) :
  JE G n sc N df m (.jD (.rev a)) (.Call (.Name "list" p) [.Call (.Name "reversed" p2) [xa] [] pos2] [] pos):=fun X g=>by
 intro pins s σ H Q I q
 obtain ⟨r,fr,h,d,h',sr,hr,e,q⟩:=q
 rw [Ev.ev,Ev.cM] at e
 replace e:=Ev.aj e;obtain ⟨src,h3,e1,e⟩:=e
 replace e1:=Ev.aj e1;obtain ⟨x,h4,e2,e1⟩:=e1
 replace e1:=Ev.aM e1;obtain ⟨e1,y0⟩:=e1;subst y0
 refine wpAny_Call_Name_kw (jA I (g.gl Ac) (g.bl _ h1) (show bootBuiltins ("list" : Str)=some (.type "list") by decide +kernel) ?_ (by decide) (by decide))
 refine PyProof.Rows.callWith_type1 ?_ (J1 _) rfl
 rw [J1]
 show wpAny _ _ (spliced ((false,eval (Expr.Call (.Name "reversed" p2) [xa] [] pos2) X.env) :: backTo pos [])) _ _ s
 refine Calls.spliced_cons ?_
 have JQ:PA X [xa] _:=iL (ha X g) lY (by rw [hst];rfl)
 refine Call_ (jA I (g.gl hg) (g.bl _ hb) (show bootBuiltins ("reversed" : Str)=some (.type "reversed") by decide +kernel) (PyProof.Rows.callWith_type1 (bQ (JQ pos2 pins s σ H (fun vs H1=>∃ r1 u,vs=[u]∧RV X.K H1 r1 x u∧HR X.K H1 r1 h3∧Fm X.K r r1 H H1) I ⟨r,fr,h,x,h3,sr,hr,e2,fun u H1 r1 v1 hr1 f1=>⟨r1,u,rfl,v1,hr1,f1⟩⟩) fun us s1 z=>?_) (hst _) rfl))
 obtain ⟨vs,H1,I1,rv,r1,u,rfl,v1,hr1,f1⟩:=z
 cases x <;> simp only [Ev.Ca,Option.map,reduceCtorEq] at e1
 rename_i ds
 cases e1
 obtain ⟨t,ws,rfl,z,w⟩:=v1.shape
 cases rv with
 | cons ra rb=>
 cases rb
 cases ra
 obtain ⟨its,pv,pt,hz⟩:=I1.tuple z
 have hlen:its.toArray.size≤sizeLine:=by rw [List.size_toArray,←pv.length];exact hz
 have hf:(its.toArray.size:Int)<2 ^ 63:=by rw [sizeLine_eq] at hlen;omega
 refine Rv.Cp pt hf ?_
 refine Calls.spliced_nil ?_
 have I2:Inv X pins σ H1 { s1 with heap:=s1.heap.push (Rv.ni t ((its.toArray.size:Int) - 1)),toks:=s1.toks+1+1 }:=I1.kept fun b o e=>Heap.get?_push_of_some _ e
 have hne:t≠s1.heap.objs.size:=by obtain ⟨o,ho,_⟩:=pt;exact Nat.ne_of_lt (Heap.lt_size ho)
 refine Rv.rS (I1.ok.hd g.calm) ⟨_,Heap.get?_push_size _ rfl,rfl,rfl⟩ (Rv.nj pt fun o e=>Heap.get?_push_of_some _ e) hne hlen fun h' tk acc' c' hk hS' hacc=>?_
 obtain ⟨hz2,q2⟩:=(q.later f1).lst e w.reverse hr1
 have hp:s1.heap.objs.size≤(s1.heap.push (Rv.ni t ((its.toArray.size:Int) - 1))).objs.size:=by rw [size_push'];exact Nat.le_succ _
 refine ⟨.ref _,_,I1.laid (t':=tk) (o:=.lst ws.reverse) (fun b u e=>hk b u (Nat.ne_of_lt (Heap.lt_size e)) (Heap.get?_push_of_some _ e)) hp ?_,rfl,q2 _ (I1.hok.fresh hp)⟩
 exact ⟨by simpa using hz,acc'.toList,c',Cs pv hacc,by simpa using hS'⟩
end
end Sm
set_option maxRecDepth 100000
namespace Sm
open PySem PySem.Spec PyProof.Rows L2 PySem.SeqAt
open Ev (D O Hh Fr R aU E Es Eo T S Ss Fl Src cF bY TY BI ME)
section
variable {G:Tb}{n:Nat}{sc:Scope}{N:List Str}{df:Bool}{m:List Nat}{a b c:E}{xa xb xc:Expr}{pos:Pos}
end
end Sm
set_option maxRecDepth 100000
namespace Sm
open PySem PySem.Spec PyProof.Rows L2 PySem.SeqAt
open Ev (D O Hh Fr R aU E Es Eo T S Ss Fl Src cF bY TY BI ME)
theorem aJ.ofInts {K:PySem.W.Frag}{H:Hp}{r:List Addr}:∀ ns:List Int,aJ K H r (ns.map D.int) (ns.map V.int)
 | []=>.nil
 | _ :: l=>.cons rfl (aJ.ofInts l)
theorem J2 {K:PySem.W.Frag}{H:Hp}{a:Addr}{vs:List V}(hO:qk H) (hS:dY K H a vs):xU K H a vs:=by
 rcases hS with h | h
 ·rcases h with h | ⟨o,h⟩
  ·rcases hO a with q | ⟨o,xs,q⟩
   ·rw [q] at h;cases h
   ·rw [q] at h;cases h
  ·exact .inl ⟨o,h⟩
 ·exact .inr h
theorem Oj {K:PySem.W.Frag}{F:List Ev.Fn}{w n f:Nat}{H:Hp}{a:Addr}{ns:List Int}(hO:qk H) (hS:dY K H a (ns.map V.int)) {h':Hh}(e:Ev.run F w n f [.ref 0] [.bO (ns.map D.int)]=.ok (.bl true) h') :
  nK K F w n f [.ref a] H (fun v _=>v=.bl true) fun _ _ _=>False:=by
 refine ⟨[a],[.bO (ns.map D.int)],[.ref 0],.bl true,h',.cons (show RV K H [a] (.ref 0) (.ref a) from ⟨a,rfl,rfl⟩) .nil,⟨rfl,fun k o hk=>?_,fun k l b x y _ _ hk _=>?_⟩,e,fun v H' r' v1 _ _=>v1⟩
 ·cases k with
  | zero=>
   simp at hk
   subst hk
   exact ⟨a,rfl,_,J2 hO hS,aJ.ofInts ns⟩
  | succ k=>simp at hk
 ·cases k with
  | zero=>simp at hk
  | succ k=>simp at hk
theorem GS {F:List Ev.Fn}{wh n f:Nat}{l:PySem.W.OpenLaw}{q:Program}{loose:List Str}{XP:(Str→Option Value)→Heap→Prop}{YP:World→Heap→Prop}{d:DefRec}{K:Params→PySem.W.Frag}{x:Str}(hn:l.most=some 63) (hdf:d.params.defaults=[]) (hr:gH n callerA)
  (hY:∀ (w:World) (h:Heap),YP w h→(K w.params).In h) (good:∀ ns:List Int,ns.length≤63→∃ h',Ev.run F wh n f [.ref 0] [.bO (ns.map D.int)]=.ok (.bl true) h')
  (Fo:∀ (w:World) (mg:Str→Option Value) (fa:Addr) (h:Heap),(K w.params).In h→h.Ns mainGlobals mg→mg d.name=some (.ref fa)→
   ∃ fd:FuncData,(∀ (s:Shared) (u:Value),BindsTo s fd ⟨[u],[]⟩ [(x,u)])∧∀ base:Heap,(K w.params).In base→base.Ns mainGlobals mg→iM l.prog w (K w.params) mg base mj n fa fd [x] (nK (K w.params) F wh n f)) :
  PySem.W.WalkO q loose XP YP l.row.toRowW d [] (fun f vs=>PySem.call f vs):=
 L2.BY (n:=63) (k:=n) (x:=x) (CX:=mj) (sp:=fun K=>nK K F wh n f) hn (by decide) hdf hr hY Fo (fun K H a ns hl hO hS=>by
  obtain ⟨h',e⟩:=good ns hl
  exact Oj hO hS e) fun _ _ _ _ z=>z
theorem Aj {P:Program}{w:World}{K:PySem.W.Frag}{mg:Str→Option Value}{base:Heap}{G:Tb}(T:Top P w K mg G)
  (st:∀ n,se P w K mg base G n→se P w K mg base G (n+1)):∀ n,se P w K mg base G n
 | 0=>fun f i _=>GD
 | n+1=>st n (Aj T st n)
structure At (K:PySem.W.Frag) (x:Str) (st:Stmt) (i:FI):Prop where
 name:i.name=x
 ns:PySem.W.nsIn K mainGlobals x=some (some (.ref i.addr))
 fu:tD K x x st i.addr i.fd
 bd:Binds K i.fd i.ps []
end Sm
namespace Pv
open Ev (D cF bY TY BI ME T E Es Eo It S Ss Fn big deep b2i rep cH eG bU aR cut cS eB slots)
theorem nd {α:Type _}{a b:α}(h:a=b):a=b:=h
inductive V where
 | bz | bl (b:Bool) | int (i:Int) | str (s:List Nat) | tup (l:List V) | lst (l:List V) | bO (l:List V)
inductive Sl where
 | val (v:V) | own (l:List V) | bor (l:List V) | ro (l:List V)
abbrev Fr:=List (Option Sl)
inductive R (α:Type) where
 | ok (a:α) (fr:Fr)
 | bad
noncomputable def R.bind {α β:Type}(r:R α) (f:α→Fr→R β):R β:=
 match r with
 | .ok a h=>f a h
 | .bad=>.bad
@[simp] theorem ay {α β:Type} (a:α) (h:Fr) (f:α→Fr→R β):(R.ok a h).bind f=f a h:=nd rfl
@[simp] theorem BZ {α β:Type} (f:α→Fr→R β):(R.bad:R α).bind f=.bad:=nd rfl
theorem aj {α β:Type}{r:R α}{f:α→Fr→R β}{b:β}{h:Fr}(e:r.bind f=.ok b h):∃ a h1,r=.ok a h1∧f a h1=.ok b h:=by
 cases r with
 | ok a h1=>exact ⟨a,h1,rfl,e⟩
 | bad=>cases e
noncomputable def R.of {α:Type}(o:Option α) (h:Fr):R α:=match o with
 | some a=>.ok a h
 | none=>.bad
@[simp] theorem d8 {α:Type} (a:α) (h:Fr):R.of (some a) h=.ok a h:=nd rfl
@[simp] theorem of_none {α:Type} (h:Fr):R.of (none:Option α) h=.bad:=nd rfl
theorem aM {α:Type}{o:Option α}{h h':Fr}{a:α}(e:R.of o h=.ok a h'):o=some a∧h'=h:=by
 cases o with
 | none=>cases e
 | some b=>cases e;exact ⟨rfl,rfl⟩
inductive Fl where
 | nx | bk | ct | ret (v:V)
mutual
noncomputable def ofD:D→Option V
 | .bz=>some .bz
 | .bl b=>some (.bl b)
 | .int i=>some (.int i)
 | .str s=>some (.str s)
 | .tup ds=>(t8 ds).map .tup
 | .ref _=>none
noncomputable def t8:List D→Option (List V)
 | []=>some []
 | d :: ds=>(ofD d).bind fun v=>(t8 ds).map fun vs=>v :: vs
end
noncomputable def cI (f:V→V→Option Bool):List V→List V→Option Bool
 | [],[]=>some true
 | x :: xs,y :: ys=>(f x y).bind fun b=>(cI f xs ys).bind fun c=>some (b&&c)
 | _,_=>some false
noncomputable def dH:Nat→V→V→Option Bool
 | 0,_,_=>none
 | _+1,.bz,_=>none
 | _+1,.bl _,_=>none
 | _+1,_,.bz=>none
 | _+1,_,.bl _=>none
 | _+1,.int a,.int b=>some (a==b)
 | _+1,.str a,.str b=>some (a==b)
 | n+1,.tup a,.tup b=>cI (dH n) a b
 | n+1,.lst a,.lst b=>cI (dH n) a b
 | n+1,.bO a,.lst b=>cI (dH n) a b
 | n+1,.lst a,.bO b=>cI (dH n) a b
 | _+1,.bO _,.bO _=>none
 | _+1,_,_=>some false
noncomputable def truthy:V→Bool
 | .bz=>false
 | .bl b=>b
 | .int i=>i != 0
 | .str s=>!s.isEmpty
 | .tup ds=>!ds.isEmpty
 | .lst ds=>!ds.isEmpty
 | .bO ds=>!ds.isEmpty
noncomputable def ef (l:List V):Option V:=if l.length≤big then some (.lst l) else none
noncomputable def jI (l:List V):Option V:=if l.length≤big then some (.tup l) else none
noncomputable def bR:cF→V→V→Option V
 | .add,.int i,.int j=>some (.int (i+j))
 | .add,.str a,.str b=>if a.length+b.length≤big then some (.str (a++b)) else none
 | .add,.tup a,.tup b=>if a.length+b.length≤big then some (.tup (a++b)) else none
 | .add,.lst a,.lst b=>ef (a++b)
 | .sub,.int i,.int j=>some (.int (i - j))
 | .mul,.int i,.int j=>if cH i j then some (.int (i*j)) else none
 | .mul,.str a,.int k=>if 0≤k∧k≤1000∧a.length≤1000 then some (.str (rep k.toNat a)) else none
 | .mul,.tup a,.int k=>if 0≤k∧k≤1000∧a.length≤1000 then some (.tup (rep k.toNat a)) else none
 | .mul,.lst a,.int k=>if 0≤k∧k≤1000∧a.length≤1000 then ef (rep k.toNat a) else none
 | .fdiv,.int i,.int j=>if 0<j∧j<1073741824 then some (.int (i / j)) else none
 | .mod,.int i,.int j=>if 0<j then some (.int (i % j)) else none
 | _,_,_=>none
noncomputable def mem (x:V):List V→Option Bool
 | []=>some false
 | y :: ys=>(dH deep y x).bind fun b=>(mem x ys).bind fun c=>some (b || c)
noncomputable def isin (x y:V):Option Bool:=match y with
 | .str s=>match x with
  | .str [c]=>some (s.contains c)
  | _=>none
 | .tup ds=>mem x ds
 | .lst ds=>mem x ds
 | .bO ds=>mem x ds
 | _=>none
noncomputable def cop (o:bY) (x y:V):Option Bool:=match o,x,y with
 | .eq,x,y=>dH deep x y
 | .ne,x,y=>(dH deep x y).map (!·)
 | .lt,.int i,.int j=>some (decide (i<j))
 | .gt,.int i,.int j=>some (decide (j<i))
 | .isin,x,y=>isin x y
 | .lg,x,y=>(isin x y).map (!·)
 | _,_,_=>none
noncomputable def eH (x y:V):Option V:=match x,y with
 | .tup ds,.int i=>bU ds i
 | .str s,.int i=>(bU s i).map fun c=>.str [c]
 | .lst ds,.int i=>bU ds i
 | .bO ds,.int i=>bU ds i
 | _,_=>none
noncomputable def eV (x:V) (lo hi:Option Int):Option V:=match x with
 | .tup ds=>some (.tup (cut ds lo hi))
 | .str s=>some (.str (cut s lo hi))
 | .lst ds=>ef (cut ds lo hi)
 | .bO ds=>ef (cut ds lo hi)
 | _=>none
noncomputable def toT:V→Option V
 | .tup l=>some (.tup l)
 | .lst l=>jI l
 | .bO l=>jI l
 | _=>none
noncomputable def lR:V→Option V
 | .tup ds=>some (.tup ds.reverse)
 | .lst ds=>ef ds.reverse
 | .bO ds=>ef ds.reverse
 | _=>none
noncomputable def dw:V→TY→Bool
 | .bl _,.bool=>true
 | .bl _,.int=>true
 | .int _,.int=>true
 | .str _,.str=>true
 | .tup _,.tuple=>true
 | .lst _,.list=>true
 | .bO _,.list=>true
 | _,_=>false
noncomputable def boolsOf:List V→Option (List Bool)
 | []=>some []
 | .bl b :: ds=>(boolsOf ds).map fun r=>b :: r
 | _=>none
noncomputable def intsOf:List V→Option (List Int)
 | []=>some []
 | .int i :: ds=>(intsOf ds).map fun r=>i :: r
 | _=>none
noncomputable def strsOf:List V→Option (List (List Nat))
 | []=>some []
 | .str s :: ds=>(strsOf ds).map fun r=>s :: r
 | _=>none
noncomputable def jX:V→Option (List V)
 | .lst l=>some l
 | .bO l=>some l
 | _=>none
noncomputable def cV (b:BI) (xs:List V):Option V:=match b,xs with
 | .len,[.str s]=>if s.length≤big then some (.int s.length) else none
 | .len,[.tup ds]=>some (.int ds.length)
 | .len,[x]=>(jX x).map fun ds=>.int ds.length
 | .sum,[x]=>((jX x).bind intsOf).map fun is=>.int is.sum
 | .min,[.int i,.int j]=>some (.int (if j<i then j else i))
 | .max,[.int i,.int j]=>some (.int (if j > i then j else i))
 | _,_=>none
noncomputable def fc (m:ME) (o:V) (xs:List V):Option V:=match m,o,xs with
 | .join,.str sep,[x]=>((jX x).bind strsOf).bind fun ss=>if (ss.map (·.length)).sum+ss.length*sep.length≤big then some (.str (cS sep ss)) else none
 | _,_,_=>none
noncomputable def jY (m:ME) (l:List V) (xs:List V):Option (V×List V):=match m,xs with
 | .append,[x]=>if l.length<big then some (.bz,l++[x]) else none
 | .extend,[.lst es]=>if l.length+es.length≤big then some (.bz,l++es) else none
 | .pop,[]=>match l[l.length - 1]? with
  | some x=>some (x,l.dropLast)
  | none=>none
 | _,_=>none
noncomputable def Ak:ME→Bool
 | .extend=>true
 | _=>false
noncomputable def iT:ME→Bool
 | .append=>true
 | .extend=>true
 | .pop=>true
 | _=>false
noncomputable def rV:V→Bool
 | .bz=>true
 | .bl _=>true
 | .int _=>true
 | .str _=>true
 | _=>false
noncomputable def ym (x:V):List (D×D)→Option V
 | []=>none
 | (k,v) :: r=>match (ofD k).bind fun k'=>dH 1 k' x with
  | some true=>ofD v
  | some false=>ym x r
  | none=>none
noncomputable def eU (x:V) (kvs:List (D×D)):Option V:=if rV x then ym x kvs else none
noncomputable def gj:V→Option (List V)
 | .tup ds=>some ds
 | .str s=>some (s.map fun c=>.str [c])
 | .lst ds=>some ds
 | .bO ds=>some ds
 | _=>none
noncomputable def yo:V→Option (List V)
 | .tup ds=>some ds
 | _=>none
noncomputable def range (lo:Int) (n:Nat):List V:=(List.range n).map fun (i:Nat)=>.int (lo+i)
noncomputable def eL:List V→Option (List V)
 | [.int j]=>if -(2 ^ 62)≤j∧j<2 ^ 62 then some (range 0 j.toNat) else none
 | [.int i,.int j]=>if -(2 ^ 62)≤i∧i<2 ^ 62∧-(2 ^ 62)≤j∧j<2 ^ 62 then some (range i (j - i).toNat) else none
 | _=>none
noncomputable def eW (a b:List V):List V:=List.zipWith (fun x y=>.tup [x,y]) a b
noncomputable def gE:Int→List V→List V
 | _,[]=>[]
 | k,x :: xs=>.tup [.int k,x] :: gE (k+1) xs
noncomputable def put (fr:Fr) (i:Nat) (s:Sl):Option Fr:=match fr[i]? with
 | some (some (.bor _))=>none
 | some (some (.ro _))=>none
 | _=>some (fr.set i (some s))
noncomputable def cP:List Nat→List V→Fr→Option Fr
 | [],[],fr=>some fr
 | i :: is,d :: ds,fr=>(put fr i (.val d)).bind (cP is ds)
 | _,_,_=>none
noncomputable def cB:T→V→Fr→Option Fr
 | .one i,d,fr=>put fr i (.val d)
 | .many l,.tup ds,fr=>cP l ds fr
 | _,_,_=>none
noncomputable def undef (t:T) (fr:Fr):Bool:=(slots t).all fun i=>(fr[i]?.join).isNone
noncomputable def Sl.read:Sl→Sl
 | .own l=>.ro l
 | .bor l=>.ro l
 | s=>s
noncomputable def nQ (fr:Fr):Fr:=fr.map (Option.map Sl.read)
noncomputable def Sl.eg:Sl→Sl
 | .own l=>.val (.lst l)
 | s=>s
noncomputable def fq (fr:Fr):Fr:=fr.map (Option.map Sl.eg)
noncomputable def Sl.walk:Sl→Sl
 | .own l=>.val (.lst l)
 | .bor l=>.ro l
 | s=>s
noncomputable def sy (is:List Nat) (fr:Fr):Fr:=is.foldl (fun fr i=>match fr[i]? with
 | some (some s)=>fr.set i (some s.walk)
 | _=>fr) fr
noncomputable def Sl.out:Sl→Option (List V)
 | .bor l=>some l
 | .ro l=>some l
 | _=>none
noncomputable def Sl.lend:Sl→Option Sl
 | .own l=>some (.bor l)
 | .bor l=>some (.bor l)
 | .ro l=>some (.ro l)
 | .val _=>none
noncomputable def lent (fr:Fr) (i:Nat):Option Sl:=match fr[i]? with
 | some (some s)=>s.lend
 | _=>none
noncomputable def Sl.with:Sl→List V→Sl
 | .own _,l=>.own l
 | .bor _,l=>.bor l
 | s,_=>s
noncomputable def back:List Nat→List (List V)→Fr→Option Fr
 | [],[],fr=>some fr
 | i :: is,l :: ls,fr=>match fr[i]? with
  | some (some s)=>back is ls (fr.set i (some (s.with l)))
  | _=>none
 | _,_,_=>none
noncomputable def cT (f:V→Option (Option V)):List V→Option (List V)
 | []=>some []
 | d :: ds=>(f d).bind fun o=>(cT f ds).bind fun r=>some (o.toList++r)
noncomputable def forL (f:V→Fr→R Fl):List V→Fr→R Fl
 | [],fr=>.ok .nx fr
 | d :: ds,fr=>(f d fr).bind fun p af=>match p with
   | .nx=>forL f ds af
   | .ct=>forL f ds af
   | .bk=>.ok .nx af
   | .ret x=>.ok (.ret x) af
noncomputable def ee (t:Fr→R Bool) (f:Fr→R Fl):Nat→Fr→R Fl
 | 0,_=>.bad
 | n+1,fr=>(t fr).bind fun b af=>if b then (f af).bind fun p aB=>match p with
   | .nx=>ee t f n aB
   | .ct=>ee t f n aB
   | .bk=>.ok .nx aB
   | .ret x=>.ok (.ret x) aB
  else .ok .nx af
noncomputable def jB:Es→List Nat
 | .nil=>[]
 | .cons (.v i) es=>i :: jB es
 | .cons _ es=>jB es
noncomputable def Qe (m:ME):E→List Nat
 | .v i=>if iT m then [i] else []
 | _=>[]
mutual
noncomputable def bM:E→List Nat
 | .c _=>[] | .v _=>[] | .tup es=>fV es | .lst es=>fV es
 | .bin _ a b=>bM a++bM b | .cmp _ a b=>bM a++bM b
 | .nt a=>bM a | .neg a=>bM a | .an a b=>bM a++bM b | .orr a b=>bM a++bM b | .kB t a b=>bM t++(bM a++bM b)
 | .ix a b=>bM a++bM b | .sl a lo hi=>bM a++(kh lo++kh hi)
 | .rv a=>bM a
 | .cl _ es=>fV es++jB es | .bi _ es=>fV es | .me m o es=>bM o++(fV es++Qe m o)
 | .mq a _=>bM a
 | .comp _ _ it _=>Ct it
 | .jD it=>Ct it
 | .jE _ a=>bM a
 | .jF a=>bM a
noncomputable def fV:Es→List Nat
 | .nil=>[]
 | .cons e es=>bM e++fV es
noncomputable def kh:Eo→List Nat
 | .no=>[]
 | .yes e=>bM e
noncomputable def Ct:It→List Nat
 | .seq e=>bM e | .iI es=>fV es
 | .zip a b=>bM a++bM b
 | .enum a=>bM a | .rev a=>bM a
end
noncomputable def kf (a:E) (l:List Nat):Bool:=match a with
 | .v i=>!l.contains i
 | _=>l.isEmpty
noncomputable def itv:It→List Nat
 | .seq (.v i)=>[i]
 | .enum (.v i)=>[i]
 | .rev (.v i)=>[i]
 | .zip (.v i) (.v j)=>[i,j]
 | .zip (.v i) _=>[i]
 | .zip _ (.v j)=>[j]
 | _=>[]
abbrev aU:=Nat→List Sl→Option (V×List (List V))
noncomputable def intOf:V→Option Int
 | .int i=>some i
 | _=>none
noncomputable def qw (k:Bool) (fr:Fr) (i:Nat):Option V:=match fr[i]? with
 | some (some (.val v))=>some v
 | some (some (.own l))=>if k then some (.lst l) else none
 | some (some (.bor l))=>if k then some (.lst l) else none
 | some (some (.ro l))=>if k then some (.lst l) else none
 | _=>none
noncomputable def t9 (k:Bool) (fr:Fr) (i:Nat):Option V:=match fr[i]? with
 | some (some (.ro l))=>some (.lst l)
 | _=>qw k fr i
noncomputable def src (k:Bool) (fr:Fr) (e:E) (r:R V):R V:=match e with
 | .v i=>R.of (t9 k fr i) fr
 | _=>r
noncomputable def kG (fr:Fr):E→Option Nat
 | .v i=>if (lent fr i).isSome then some i else none
 | _=>none
noncomputable def args (fr:Fr):List (Nat ⊕ V)→Option (List Sl)
 | []=>some []
 | .inl i :: r=>(lent fr i).bind fun s=>(args fr r).map fun l=>s :: l
 | .inr v :: r=>(args fr r).map fun l=>.val v :: l
noncomputable def bP:List (Nat ⊕ V)→List Nat
 | []=>[]
 | .inl i :: r=>i :: bP r
 | .inr _ :: r=>bP r
noncomputable def fO (P:aU) (f:Nat) (as:List (Nat ⊕ V)) (fr:Fr):R V:=
 if (bP as).Nodup then match args fr as with
  | some sl=>match P f sl with
   | some (v,outs)=>R.of ((back (bP as) outs fr).map fun af=>(v,af)) fr |>.bind fun p _=>.ok p.1 p.2
   | none=>.bad
  | none=>.bad
 else .bad
mutual
noncomputable def ev (P:aU):Bool→E→Fr→R V
 | _,.c d,fr=>R.of (ofD d) fr
 | k,.v i,fr=>R.of (qw k fr i) fr
 | _,.tup es,fr=>(cj P false es fr).bind fun ds af=>R.of (jI ds) af
 | _,.lst es,fr=>(cj P false es fr).bind fun ds af=>R.of (ef ds) af
 | _,.bin o a b,fr=>(ev P (kf a (bM b)) a fr).bind fun x af=>(ev P true b af).bind fun y aB=>R.of (bR o x y) aB
 | _,.cmp o a b,fr=>(ev P (kf a (bM b)) a fr).bind fun x af=>(ev P true b af).bind fun y aB=>R.of ((cop o x y).map .bl) aB
 | _,.nt a,fr=>(ev P true a fr).bind fun x af=>match x with
   | .bl b=>.ok (.bl (!b)) af
   | _=>.bad
 | _,.neg a,fr=>(ev P true a fr).bind fun x af=>match x with
   | .int i=>.ok (.int (-i)) af
   | _=>.bad
 | k,.an a b,fr=>(ev P true a fr).bind fun x af=>match x with
   | .bl true=>ev P k b af
   | .bl false=>.ok (.bl false) af
   | _=>.bad
 | k,.orr a b,fr=>(ev P true a fr).bind fun x af=>match x with
   | .bl true=>.ok (.bl true) af
   | .bl false=>ev P k b af
   | _=>.bad
 | k,.kB t a b,fr=>(aK P t fr).bind fun c af=>if c then ev P k a af else ev P k b af
 | _,.ix a b,fr=>(ev P (kf a (bM b)) a fr).bind fun x af=>(ev P true b af).bind fun y aB=>R.of (eH x y) aB
 | _,.sl a lo hi,fr=>(ev P (kf a (kh lo++kh hi)) a fr).bind fun x af=>(fN P lo af).bind fun l aB=>(fN P hi aB).bind fun u cN=>R.of (eV x l u) cN
 | _,.rv a,fr=>(ev P true a fr).bind fun x af=>R.of (lR x) af
 | _,.cl f es,fr=>(fP P es fr).bind fun as af=>fO P f as af
 | _,.bi b es,fr=>(cj P true es fr).bind fun ds af=>R.of (cV b ds) af
 | _,.me m o es,fr=>if iT m then match kG fr o with
   | some i=>(cj P (Ak m) es fr).bind fun ds af=>match af[i]? with
    | some (some (.own l))=>match jY m l ds with
     | some (v,l')=>.ok v (af.set i (some (.own l')))
     | none=>.bad
    | some (some (.bor l))=>match jY m l ds with
     | some (v,l')=>.ok v (af.set i (some (.bor l')))
     | none=>.bad
    | _=>.bad
   | none=>.bad
  else (ev P (kf o (fV es)) o fr).bind fun x af=>(cj P true es af).bind fun ds aB=>R.of (fc m x ds) aB
 | _,.mq a ts,fr=>(ev P true a fr).bind fun x af=>.ok (.bl (ts.any (dw x))) af
 | _,.comp elt t it cond,fr=>(cM P true it fr).bind fun s af=>if undef t af then
   R.of ((cT (fun d=>match cB t d (nQ af) with
    | none=>none
    | some aB=>match gZ P cond aB with
     | .ok c _=>if c then (match ev P false elt aB with | .ok x _=>some (some x) | .bad=>none) else some none
     | .bad=>none) s).bind ef) af else .bad
 | _,.jD it,fr=>(cM P true it fr).bind fun s af=>R.of (ef s) af
 | _,.jE kvs a,fr=>(ev P true a fr).bind fun x af=>R.of (eU x kvs) af
 | _,.jF a,fr=>(ev P true a fr).bind fun x af=>R.of (toT x) af
termination_by _ e=>(sizeOf e,0)
noncomputable def cj (P:aU):Bool→Es→Fr→R (List V)
 | _,.nil,fr=>.ok [] fr
 | k,.cons e es,fr=>(ev P (k&&kf e (fV es)) e fr).bind fun d af=>(cj P k es af).bind fun ds aB=>.ok (d :: ds) aB
termination_by _ e=>(sizeOf e,0)
noncomputable def fP (P:aU):Es→Fr→R (List (Nat ⊕ V))
 | .nil,fr=>.ok [] fr
 | .cons e es,fr=>match kG fr e with
   | some i=>(fP P es fr).bind fun r af=>.ok (.inl i :: r) af
   | none=>(ev P false e fr).bind fun d af=>(fP P es af).bind fun r aB=>.ok (.inr d :: r) aB
termination_by e=>(sizeOf e,0)
noncomputable def fN (P:aU):Eo→Fr→R (Option Int)
 | .no,fr=>.ok none fr
 | .yes e,fr=>(ev P true e fr).bind fun d af=>R.of ((intOf d).map some) af
termination_by e=>(sizeOf e,0)
noncomputable def gZ (P:aU):Eo→Fr→R Bool
 | .no,fr=>.ok true fr
 | .yes e,fr=>aK P e fr
termination_by e=>(sizeOf e,0)
noncomputable def aK (P:aU):E→Fr→R Bool
 | .an a b,fr=>(aK P a fr).bind fun k af=>if k then aK P b af else .ok false af
 | .orr a b,fr=>(aK P a fr).bind fun k af=>if k then .ok true af else aK P b af
 | .nt a,fr=>(aK P a fr).bind fun k af=>.ok (!k) af
 | e,fr=>(ev P true e fr).bind fun x af=>.ok (truthy x) af
termination_by e=>(sizeOf e,1)
noncomputable def cM (P:aU):Bool→It→Fr→R (List V)
 | k,.seq e,fr=>(src k fr e (ev P k e fr)).bind fun x af=>R.of (gj x) af
 | _,.iI es,fr=>(cj P true es fr).bind fun ds af=>R.of (eL ds) af
 | k,.zip a b,fr=>(src (k&&kf a (bM b)) fr a (ev P (k&&kf a (bM b)) a fr)).bind fun x af=>(src k af b (ev P k b af)).bind fun y aB=>R.of ((jX x).bind fun s=>(jX y).map fun t=>eW s t) aB
 | k,.enum a,fr=>(src k fr a (ev P k a fr)).bind fun x af=>R.of ((jX x).map fun s=>gE 0 s) af
 | _,.rev a,fr=>(ev P true a fr).bind fun x af=>R.of ((yo x).map fun s=>s.reverse) af
termination_by _ e=>(sizeOf e,0)
end
noncomputable def isNew:E→Bool
 | .lst _=>true
 | .jD _=>true
 | _=>false
mutual
noncomputable def ex (P:aU) (w:Nat):S→Fr→R Fl
 | .set i e,fr=>(ev P false e fr).bind fun x af=>if isNew e then (match x with
   | .lst l=>(R.of (put af i (.own l)) af).bind fun aB _=>.ok .nx aB
   | _=>.bad)
  else (R.of (put af i (.val x)) af).bind fun aB _=>.ok .nx aB
 | .xR l e,fr=>(ev P false e fr).bind fun x af=>(R.of (cB (.many l) x af) af).bind fun aB _=>.ok .nx aB
 | .exp e,fr=>(ev P true e fr).bind fun _ af=>.ok .nx af
 | .ret e,fr=>(ev P false e (fq fr)).bind fun x af=>.ok (.ret x) af
 | .iff t a b,fr=>(aK P t fr).bind fun k af=>if k then exs P w a af else exs P w b af
 | .for t it b,fr=>(cM P false it (sy (itv it) fr)).bind fun s af=>forL (fun d aB=>match cB t d aB with
   | some cN=>exs P w b cN
   | none=>.bad) s af
 | .qY t b,fr=>ee (fun aB=>aK P t aB) (fun aB=>exs P w b aB) w fr
 | .gy,_=>.bad
noncomputable def exs (P:aU) (w:Nat):Ss→Fr→R Fl
 | .nil,fr=>.ok .nx fr
 | .cons s ss,fr=>(ex P w s fr).bind fun p af=>match p with
   | .nx=>exs P w ss af
   | p=>.ok p af
end
noncomputable def fE (fn:Fn) (ds:List Sl):Fr:=ds.map some++List.replicate (fn.ns - fn.np) none
noncomputable def outs (np:Nat) (fr:Fr):List (List V):=(fr.take np).filterMap fun o=>o.bind Sl.out
noncomputable def run (F:List Fn) (w:Nat):Nat→aU
 | 0,_,_=>none
 | n+1,f,ds=>match F[f]? with
  | some fn=>if ds.length=fn.np then match exs (run F w n) w fn.body (fE fn ds) with
    | .ok (.ret v) fr=>some (v,outs fn.np fr)
    | .ok .nx fr=>some (.bz,outs fn.np fr)
    | _=>none
   else none
  | none=>none
end Pv
namespace Pv
open Ev (D O Hh cF bY TY BI ME T E Es Eo It S Ss Fn big deep b2i rep cH eG bU aR cut cS eB slots bw)
section
variable (h:Hh)(S:Nat→Prop)
mutual
noncomputable def Rep:V→D→Prop
 | .bz,d=>d=.bz
 | .bl b,d=>d=.bl b
 | .int i,d=>d=.int i
 | .str s,d=>d=.str s
 | .tup l,d=>∃ ds,d=.tup ds∧aC l ds
 | .lst l,d=>∃ n ds,d=.ref n∧S n∧h[n]?=some (.lst ds)∧aC l ds
 | .bO l,d=>∃ n ds,d=.ref n∧S n∧h[n]?=some (.bO ds)∧aC l ds
noncomputable def aC:List V→List D→Prop
 | [],ds=>ds=[]
 | v :: vs,ds=>∃ d es,ds=d :: es∧Rep v d∧aC vs es
end
noncomputable def bx:V→D→Prop
 | .lst l,d=>∃ n ds,d=.ref n∧h[n]?=some (.lst ds)∧aC h S l ds
 | v,d=>Rep h S v d
noncomputable def fy:List V→List D→Prop
 | [],ds=>ds=[]
 | v :: vs,ds=>∃ d es,ds=d :: es∧bx h S v d∧fy vs es
end
abbrev U:Nat→Prop:=fun _=>True
section
variable {h h':Hh}{S S':Nat→Prop}
mutual
theorem Rep.mono (f:∀ m,S m→h'[m]?=h[m]?) (g:∀ m,S m→S' m):∀ {v:V}{d:D},Rep h S v d→Rep h' S' v d
 | .bz,_,q=>q
 | .bl _,_,q=>q
 | .int _,_,q=>q
 | .str _,_,q=>q
 | .tup l,_,⟨ds,a,b⟩=>⟨ds,a,aC.mono f g b⟩
 | .lst l,_,⟨n,ds,a,b,c,e⟩=>⟨n,ds,a,g n b,by rw [f n b];exact c,aC.mono f g e⟩
 | .bO l,_,⟨n,ds,a,b,c,e⟩=>⟨n,ds,a,g n b,by rw [f n b];exact c,aC.mono f g e⟩
theorem aC.mono (f:∀ m,S m→h'[m]?=h[m]?) (g:∀ m,S m→S' m):∀ {v:List V}{d:List D},aC h S v d→aC h' S' v d
 | [],_,q=>q
 | _ :: _,_,⟨d,es,a,b,c⟩=>⟨d,es,a,Rep.mono f g b,aC.mono f g c⟩
end
theorem aC.nil:aC h S [] []:=by simp [aC]
theorem aC.cons {v:V}{d:D}{vs:List V}{ds:List D}(a:Rep h S v d) (b:aC h S vs ds):aC h S (v :: vs) (d :: ds):=by simp only [aC];exact ⟨d,ds,rfl,a,b⟩
theorem Rep.top {v:V}{d:D}(q:Rep h S v d):bx h S v d:=by
 cases v <;> first | exact q | (obtain ⟨n,ds,a,b,c,e⟩:=q;exact ⟨n,ds,a,c,e⟩)
theorem bx.u {v:V}{d:D}(q:bx h S v d):Rep h U v d:=by
 cases v with
 | lst l=>obtain ⟨n,ds,a,b,c⟩:=q;exact ⟨n,ds,a,trivial,b,c.mono (fun _ _=>rfl) fun _ _=>trivial⟩
 | _=>exact Rep.mono (S:=S) (fun _ _=>rfl) (fun _ _=>trivial) q
theorem aC.u {v:List V}{d:List D}(q:aC h S v d):aC h U v d:=q.mono (fun _ _=>rfl) fun _ _=>trivial
theorem bx.mono {v:V}{d:D}(f:∀ m,m<h.length→h'[m]?=h[m]?) (k:∀ m,S m→m<h.length) (g:∀ m,S m→S' m) (q:bx h S v d):bx h' S' v d:=by
 cases v with
 | lst l=>
  obtain ⟨n,ds,a,b,c⟩:=q
  exact ⟨n,ds,a,by rw [f n (List.getElem?_eq_some_iff.mp b).1];exact b,c.mono (fun m z=>f m (k m z)) g⟩
 | _=>exact Rep.mono (fun m z=>f m (k m z)) g q
theorem aC.length:∀ {v:List V}{d:List D},aC h S v d→v.length=d.length
 | [],_,q=>by simp only [aC] at q;subst q;rfl
 | _ :: _,_,q=>by simp only [aC] at q;obtain ⟨d,es,rfl,_,c⟩:=q;simp [c.length]
theorem aC.get:∀ {v:List V}{d:List D}{i:Nat}{x:V},aC h S v d→v[i]?=some x→∃ y,d[i]?=some y∧Rep h S x y
 | [],_,_,_,_,e=>by simp at e
 | _ :: _,_,0,_,q,e=>by
  simp only [aC] at q
  obtain ⟨d,es,rfl,b,_⟩:=q
  simp at e;subst e
  exact ⟨d,by simp,b⟩
 | _ :: _,_,i+1,_,q,e=>by
  simp only [aC] at q
  obtain ⟨d,es,rfl,_,c⟩:=q
  obtain ⟨y,a,b⟩:=c.get (i:=i) (by simpa using e)
  exact ⟨y,by simpa using a,b⟩
theorem aC.append:∀ {v w:List V}{d e:List D},aC h S v d→aC h S w e→aC h S (v++w) (d++e)
 | [],_,_,_,a,b=>by simp only [aC] at a;subst a;simpa using b
 | _ :: _,_,_,_,a,b=>by
  simp only [aC] at a
  obtain ⟨d,es,rfl,x,y⟩:=a
  exact .cons x (y.append b)
theorem aC.take:∀ {v:List V}{d:List D}(n:Nat),aC h S v d→aC h S (v.take n) (d.take n)
 | _,_,0,_=>by simp [aC]
 | [],_,_+1,a=>by simp only [aC] at a;subst a;simp [aC]
 | _ :: _,_,n+1,a=>by
  simp only [aC] at a
  obtain ⟨d,es,rfl,x,y⟩:=a
  simp only [List.take_succ_cons]
  exact .cons x (y.take n)
theorem aC.drop:∀ {v:List V}{d:List D}(n:Nat),aC h S v d→aC h S (v.drop n) (d.drop n)
 | _,_,0,a=>by simpa using a
 | [],_,_+1,a=>by simp only [aC] at a;subst a;simp [aC]
 | _ :: _,_,n+1,a=>by
  simp only [aC] at a
  obtain ⟨d,es,rfl,x,y⟩:=a
  simp only [List.drop_succ_cons]
  exact y.drop n
theorem aC.dropLast:∀ {v:List V}{d:List D},aC h S v d→aC h S v.dropLast d.dropLast:=fun {v d} a=>by
 rw [List.dropLast_eq_take,List.dropLast_eq_take,a.length];exact a.take _
theorem aC.reverse:∀ {v:List V}{d:List D},aC h S v d→aC h S v.reverse d.reverse
 | [],_,a=>by simp only [aC] at a;subst a;simp [aC]
 | _ :: _,_,a=>by
  simp only [aC] at a
  obtain ⟨d,es,rfl,x,y⟩:=a
  simp only [List.reverse_cons]
  exact y.reverse.append (.cons x .nil)
theorem aC.rep {v:List V}{d:List D}(a:aC h S v d):∀ k:Nat,aC h S (Ev.rep k v) (Ev.rep k d)
 | 0=>by simp [Ev.rep,aC]
 | k+1=>by
  have z:=aC.rep a k
  simp only [Ev.rep,List.replicate_succ,List.flatten_cons] at z ⊢
  exact a.append z
theorem aC.cut {v:List V}{d:List D}(a:aC h S v d) (lo hi:Option Int):aC h S (Ev.cut v lo hi) (Ev.cut d lo hi):=by
 unfold Ev.cut
 rw [a.length]
 exact (a.drop _).take _
theorem aC.map {α:Type}{f:α→V}{g:α→D}(q:∀ a,Rep h S (f a) (g a)):∀ l:List α,aC h S (l.map f) (l.map g)
 | []=>.nil
 | _ :: l=>.cons (q _) (aC.map q l)
mutual
theorem Rep.uniq:∀ {v w:V}{d:D},Rep h U v d→Rep h U w d→v=w
 | .bz,w,_,a,b=>by simp only [Rep] at a;subst a;cases w <;> simp [Rep] at b <;> rfl
 | .bl _,w,_,a,b=>by simp only [Rep] at a;subst a;cases w <;> simp [Rep] at b <;> rw [b]
 | .int _,w,_,a,b=>by simp only [Rep] at a;subst a;cases w <;> simp [Rep] at b <;> rw [b]
 | .str _,w,_,a,b=>by simp only [Rep] at a;subst a;cases w <;> simp [Rep] at b <;> rw [b]
 | .tup l,w,_,a,b=>by
  simp only [Rep] at a;obtain ⟨ds,rfl,a⟩:=a
  cases w <;> simp [Rep] at b
  rw [aC.uniq a b]
 | .lst l,w,_,a,b=>by
  simp only [Rep] at a;obtain ⟨n,ds,rfl,_,a1,a⟩:=a
  cases w <;> simp [Rep] at b
  ·obtain ⟨ds',b1,b⟩:=b
   rw [a1] at b1;cases b1
   rw [aC.uniq a b]
  ·obtain ⟨ds',b1,b⟩:=b
   rw [a1] at b1;cases b1
 | .bO l,w,_,a,b=>by
  simp only [Rep] at a;obtain ⟨n,ds,rfl,_,a1,a⟩:=a
  cases w <;> simp [Rep] at b
  ·obtain ⟨ds',b1,b⟩:=b
   rw [a1] at b1;cases b1
  ·obtain ⟨ds',b1,b⟩:=b
   rw [a1] at b1;cases b1
   rw [aC.uniq a b]
theorem aC.uniq:∀ {v w:List V}{d:List D},aC h U v d→aC h U w d→v=w
 | [],w,_,a,b=>by simp only [aC] at a;subst a;cases w <;> simp [aC] at b;rfl
 | x :: xs,w,_,a,b=>by
  simp only [aC] at a;obtain ⟨d,es,rfl,a1,a2⟩:=a
  cases w <;> simp only [aC] at b
  ·cases b
  obtain ⟨d',es',e,b1,b2⟩:=b
  cases e
  rw [Rep.uniq a1 b1,aC.uniq a2 b2]
end
theorem ua {n:Nat}(f:∀ v b,dH n v v=some b→b=true):∀ l b,cI (dH n) l l=some b→b=true
 | [],b,e=>by simp [cI] at e;exact e
 | x :: xs,b,e=>by
  simp only [cI,Option.bind_eq_some_iff] at e
  obtain ⟨c,e1,c2,e2,e⟩:=e
  rw [f x c e1,ua f xs c2 e2] at e
  simpa using e.symm
theorem uc:∀ n v b,dH n v v=some b→b=true
 | 0,_,_,e=>by cases e
 | n+1,v,b,e=>by
  cases v <;> first | exact ua (uc n) _ _ e | (cases e <;> first | rfl | exact beq_self_eq_true _)
theorem ud {n:Nat}(f:∀ {v w:V}{d e:D}{b},dH n v w=some b→Rep h U v d→Rep h U w e→Ev.gz h n d e=some b):∀ {l m:List V}{ds es:List D}{b},cI (dH n) l m=some b→aC h U l ds→aC h U m es→Ev.cI (Ev.gz h n) ds es=some b
 | [],[],_,_,b,e,p,q=>by simp only [aC] at p q;subst p q;simpa [cI,Ev.cI] using e
 | [],_ :: _,_,_,b,e,p,q=>by simp only [aC] at p q;subst p;obtain ⟨_,_,rfl,_⟩:=q;simpa [cI,Ev.cI] using e
 | _ :: _,[],_,_,b,e,p,q=>by simp only [aC] at p q;subst q;obtain ⟨_,_,rfl,_⟩:=p;simpa [cI,Ev.cI] using e
 | x :: xs,y :: ys,_,_,b,e,p,q=>by
  simp only [aC] at p q
  obtain ⟨d,ds,rfl,p1,p2⟩:=p
  obtain ⟨d',ds',rfl,q1,q2⟩:=q
  simp only [cI,Option.bind_eq_some_iff] at e
  obtain ⟨c,e1,c2,e2,e⟩:=e
  simp [Ev.cI,f e1 p1 q1,ud f e2 p2 q2]
  simpa using e
theorem gu {n:Nat}{ds:List D}(q:h[n]?=some (.lst ds)):bw h n=some ds:=by simp [bw,q]
theorem gK {n:Nat}{ds:List D}(q:h[n]?=some (.bO ds)):bw h n=some ds:=by simp [bw,q]
theorem jJ:∀ (n:Nat) {v w:V}{d e:D}{b},dH n v w=some b→Rep h U v d→Rep h U w e→Ev.gz h n d e=some b
  | 0,_,_,_,_,_,e,_,_=>by cases e
  | n+1,v,w,d,e,b,x,p,q=>by
    by_cases hr:∃ m,d=.ref m∧e=.ref m
    · obtain ⟨m,rfl,rfl⟩:=hr
      have hvw:=p.uniq q
      subst hvw
      have hb:=uc _ _ _ x
      subst hb
      cases v <;> simp [Rep] at p
      · obtain ⟨ds,p1,p2⟩:=p;show Ev.jG _ _ _ _=_;rw [Ev.jG,if_pos rfl,gu p1];rfl
      · obtain ⟨ds,p1,p2⟩:=p;show Ev.jG _ _ _ _=_;rw [Ev.jG,if_pos rfl,gK p1];rfl
    · cases v <;> cases w <;> simp only [Rep] at p q <;>
      first
      | (subst p;subst q;exact x)
      | (obtain ⟨ds,rfl,p⟩:=p;subst q;exact x)
      | (obtain ⟨ds,rfl,q⟩:=q;subst p;exact x)
      | (obtain ⟨ds,rfl,p⟩:=p;obtain ⟨es,rfl,q⟩:=q;exact ud (fun a b c=>jJ n a b c) x p q)
      | (cases x;done)
      | (obtain ⟨m,ds,rfl,_,p1,p⟩:=p;obtain ⟨k,es,rfl,_,q1,q⟩:=q
         have hne:m≠k:=fun z=>hr ⟨m,rfl,by rw [z]⟩
         show Ev.jG _ _ _ _=_
         rw [Ev.jG,if_neg hne,p1,q1];exact ud (fun a b c=>jJ n a b c) x p q)
      | (cases x;obtain ⟨m,ds,rfl,_,p1,p⟩:=p;subst q;exact congrArg (Option.map fun _=>false) (gu p1))
      | (cases x;obtain ⟨m,ds,rfl,_,p1,p⟩:=p;subst q;exact congrArg (Option.map fun _=>false) (gK p1))
      | (cases x;obtain ⟨m,ds,rfl,_,p1,p⟩:=p;obtain ⟨es,rfl,q⟩:=q;exact congrArg (Option.map fun _=>false) (gu p1))
      | (cases x;obtain ⟨m,ds,rfl,_,p1,p⟩:=p;obtain ⟨es,rfl,q⟩:=q;exact congrArg (Option.map fun _=>false) (gK p1))
      | (cases x;obtain ⟨m,ds,rfl,_,q1,q⟩:=q;subst p;exact congrArg (Option.map fun _=>false) (gu q1))
      | (cases x;obtain ⟨m,ds,rfl,_,q1,q⟩:=q;subst p;exact congrArg (Option.map fun _=>false) (gK q1))
      | (cases x;obtain ⟨m,ds,rfl,_,q1,q⟩:=q;obtain ⟨es,rfl,p⟩:=p;exact congrArg (Option.map fun _=>false) (gu q1))
      | (cases x;obtain ⟨m,ds,rfl,_,q1,q⟩:=q;obtain ⟨es,rfl,p⟩:=p;exact congrArg (Option.map fun _=>false) (gK q1))
end
end Pv
namespace Pv
open Ev (D O Hh cF bY TY BI ME T E Es Eo It S Ss Fn big deep b2i rep cH eG bU aR cut cS eB slots bw)
structure Al (h:Hh) (S:Nat→Prop) (h':Hh) (S':Nat→Prop):Prop where
 len:h.length≤h'.length
 keep:∀ m,m<h.length→h'[m]?=h[m]?
 sub:∀ m,S m→S' m
 new:∀ m,S' m→S m∨(h.length≤m∧m<h'.length)
section
variable {h h':Hh}{S S':Nat→Prop}
theorem Al.refl:Al h S h S:=⟨Nat.le_refl _,fun _ _=>rfl,fun _ q=>q,fun _ q=>.inl q⟩
theorem Al.snoc (o:O):Al h S (h++[o]) (fun m=>S m∨m=h.length) where
 len:=by simp
 keep:=fun m q=>by rw [List.getElem?_append_left q]
 sub:=fun _ q=>.inl q
 new:=fun m q=>by
  rcases q with q | q
  ·exact .inl q
  ·subst q;exact .inr ⟨Nat.le_refl _,by simp⟩
theorem iC {l:List V}{v:V}{ds:List D}(w:∀ m,S m→m<h.length) (e:ef l=some v) (q:aC h S l ds):∃ r h' S',Ev.alloc ds h=.ok r h'∧Rep h' S' v r∧Al h S h' S':=by
 unfold ef at e
 split at e
 ·rename_i z
  cases e
  refine ⟨.ref h.length,h++[.lst ds],fun m=>S m∨m=h.length,by unfold Ev.alloc;rw [if_pos (by rw [←q.length];exact z)],?_,Al.snoc _⟩
  simp only [Rep]
  refine ⟨h.length,ds,rfl,.inr rfl,by simp,q.mono (fun m z=>?_) fun _ z=>.inl z⟩
  rw [List.getElem?_append_left (w m z)]
 ·cases e
theorem o9 {v:V}{l:List V}{d:D}(e:jX v=some l) (q:bx h S v d):∃ n ds,d=.ref n∧bw h n=some ds∧aC h S l ds:=by
 cases v <;> simp [jX] at e
 ·subst e;simp only [bx] at q;obtain ⟨n,ds,rfl,a,b⟩:=q;exact ⟨n,ds,rfl,gu a,b⟩
 ·subst e;simp only [bx,Rep] at q;obtain ⟨n,ds,rfl,_,a,b⟩:=q;exact ⟨n,ds,rfl,gK a,b⟩
mutual
theorem mJ:∀ {d:D}{v:V},ofD d=some v→Rep h S v d
 | .bz,_,e=>by simp [ofD] at e;subst e;simp [Rep]
 | .bl _,_,e=>by simp [ofD] at e;subst e;simp [Rep]
 | .int _,_,e=>by simp [ofD] at e;subst e;simp [Rep]
 | .str _,_,e=>by simp [ofD] at e;subst e;simp [Rep]
 | .ref _,_,e=>by simp [ofD] at e
 | .tup ds,_,e=>by
  simp [ofD] at e
  obtain ⟨vs,e,rfl⟩:=e
  exact ⟨ds,rfl,wk e⟩
theorem wk:∀ {d:List D}{v:List V},t8 d=some v→aC h S v d
 | [],_,e=>by simp [t8] at e;subst e;exact .nil
 | d :: ds,_,e=>by
  simp only [t8,Option.bind_eq_some_iff,Option.map_eq_some_iff] at e
  obtain ⟨v,e1,vs,e2,rfl⟩:=e
  exact .cons (mJ e1) (wk e2)
end
theorem aC.emp {l:List V}{ds:List D}(q:aC h S l ds):ds.isEmpty=l.isEmpty:=by
 have:=q.length
 cases l <;> cases ds <;> simp at this ⊢
theorem Am {v:V}{d:D}(q:bx h S v d):Ev.truthy h d=some (truthy v):=by
 cases v <;> simp only [bx,Rep] at q
 ·subst q;rfl
 ·subst q;rfl
 ·subst q;rfl
 ·subst q;rfl
 ·obtain ⟨ds,rfl,q⟩:=q;simp only [Ev.truthy,truthy,q.emp]
 ·obtain ⟨n,ds,rfl,a,q⟩:=q;simp only [Ev.truthy,truthy,gu a,Option.map,q.emp]
 ·obtain ⟨n,ds,rfl,_,a,q⟩:=q;simp only [Ev.truthy,truthy,gK a,Option.map,q.emp]
theorem nn {α:Type}{v:α}{p:Prop}(z:none=some v):p:=Option.noConfusion rfl (heq_of_eq z)
theorem J3 {o:cF}{x y v:V}{d e:D}(w:∀ m,S m→m<h.length) (z:bR o x y=some v) (p:bx h S x d) (q:bx h S y e):∃ r h' S',Ev.bR o d e h=.ok r h'∧Rep h' S' v r∧Al h S h' S':=by
 cases o <;> cases x <;> first | exact nn z | (cases y <;> first | exact nn z | skip)
 all_goals (delta bR at z;dsimp only at z;simp only [bx,Rep] at p q)
 ·subst p q;cases z;exact ⟨_,_,S,rfl,rfl,.refl⟩
 ·subst p q;split at z
  ·rename_i k;cases z;exact ⟨_,_,S,by delta Ev.bR;dsimp only;rw [if_pos k],rfl,.refl⟩
  ·cases z
 ·obtain ⟨ds,rfl,p⟩:=p;obtain ⟨es,rfl,q⟩:=q;split at z
  ·rename_i k;cases z;exact ⟨_,_,S,by delta Ev.bR;dsimp only;rw [if_pos (by rw [←p.length,←q.length];exact k)],⟨_,rfl,p.append q⟩,.refl⟩
  ·cases z
 ·obtain ⟨n,ds,rfl,a,p⟩:=p;obtain ⟨m,es,rfl,b,q⟩:=q
  delta Ev.bR;dsimp only;simp only [a,b]
  exact iC w z (p.append q)
 ·subst p q;cases z;exact ⟨_,_,S,rfl,rfl,.refl⟩
 ·subst p q;split at z
  ·rename_i k;cases z;exact ⟨_,_,S,by delta Ev.bR;dsimp only;rw [if_pos k],rfl,.refl⟩
  ·cases z
 ·subst p q;split at z
  ·rename_i k;cases z;exact ⟨_,_,S,by delta Ev.bR;dsimp only;rw [if_pos k],rfl,.refl⟩
  ·cases z
 ·obtain ⟨ds,rfl,p⟩:=p;subst q;split at z
  ·rename_i k;cases z;exact ⟨_,_,S,by delta Ev.bR;dsimp only;rw [if_pos (by rw [←p.length];exact k)],⟨_,rfl,p.rep _⟩,.refl⟩
  ·cases z
 ·obtain ⟨n,ds,rfl,a,p⟩:=p;subst q;split at z
  ·rename_i k
   delta Ev.bR;dsimp only;simp only [a]
   rw [if_pos (by rw [←p.length];exact k)]
   exact iC w z (p.rep _)
  ·cases z
 ·subst p q;split at z
  ·rename_i k;cases z;exact ⟨_,_,S,by delta Ev.bR;dsimp only;rw [if_pos k],rfl,.refl⟩
  ·cases z
 ·subst p q;split at z
  ·rename_i k;cases z;exact ⟨_,_,S,by delta Ev.bR;dsimp only;rw [if_pos k],rfl,.refl⟩
  ·cases z
theorem pe {x:V}{d:D}(p:Rep h U x d):∀ {l:List V}{ds:List D}{b},mem x l=some b→aC h U l ds→Ev.mem h d ds=some b
 | [],_,b,e,q=>by simp only [aC] at q;subst q;simpa [mem,Ev.mem] using e
 | y :: ys,_,b,e,q=>by
  simp only [aC] at q
  obtain ⟨d',ds,rfl,q1,q2⟩:=q
  simp only [mem,Option.bind_eq_some_iff] at e
  obtain ⟨c,e1,c2,e2,e⟩:=e
  simp [Ev.mem,jJ deep e1 q1 p,pe p e2 q2]
  simpa using e
theorem wm {x y:V}{d e:D}{b:Bool}(z:isin x y=some b) (p:Rep h U x d) (q:Rep h U y e):Ev.isin d e h=some b:=by
 cases y <;> simp only [isin,reduceCtorEq] at z <;> simp only [Rep] at q
 ·subst q
  split at z
  ·simp only [Rep] at p;subst p;simpa [Ev.isin] using z
  ·cases z
 ·obtain ⟨ds,rfl,q⟩:=q;simpa [Ev.isin] using pe p z q
 ·obtain ⟨n,ds,rfl,_,a,q⟩:=q;simpa [Ev.isin,gu a] using pe p z q
 ·obtain ⟨n,ds,rfl,_,a,q⟩:=q;simpa [Ev.isin,gK a] using pe p z q
theorem J4 {o:bY}{x y:V}{d e:D}{b:Bool}(z:cop o x y=some b) (p:Rep h U x d) (q:Rep h U y e):Ev.cop o d e h=some b:=by
 cases o
 case eq=>delta cop at z;dsimp only at z;delta Ev.cop;dsimp only;exact jJ deep z p q
 case ne=>
  delta cop at z;dsimp only at z;simp only [Option.map_eq_some_iff] at z;obtain ⟨c,z,rfl⟩:=z
  delta Ev.cop;dsimp only;simp only [jJ deep z p q];rfl
 case isin=>delta cop at z;dsimp only at z;delta Ev.cop;dsimp only;exact wm z p q
 case lg=>
  delta cop at z;dsimp only at z;simp only [Option.map_eq_some_iff] at z;obtain ⟨c,z,rfl⟩:=z
  delta Ev.cop;dsimp only;simp only [wm z p q];rfl
 all_goals (
  cases x <;> first | exact nn z | (cases y <;> first | exact nn z | skip)
  simp only [Rep] at p q;subst p q;exact z)
theorem yp {l:List V}{ds:List D}{i:Int}{v:V}(e:bU l i=some v) (q:aC h S l ds):∃ d,bU ds i=some d∧Rep h S v d:=by
 unfold bU at e ⊢
 rw [q.length] at e
 cases z:eG ds.length i with
 | none=>rw [z] at e;cases e
 | some j=>rw [z] at e;exact q.get e
theorem J5 {x y v:V}{d e:D}(z:eH x y=some v) (p:bx h S x d) (q:bx h S y e):∃ r,Ev.eH d e h=some r∧Rep h S v r:=by
 cases x <;> cases y <;> simp only [eH,reduceCtorEq] at z <;> simp only [bx,Rep] at p q
 ·subst p q
  simp only [Option.map_eq_some_iff] at z
  obtain ⟨c,z,rfl⟩:=z
  exact ⟨.str [c],by simp [Ev.eH,z],rfl⟩
 ·obtain ⟨ds,rfl,p⟩:=p;subst q;simpa [Ev.eH] using yp z p
 ·obtain ⟨n,ds,rfl,a,p⟩:=p;subst q;simpa [Ev.eH,gu a] using yp z p
 ·obtain ⟨n,ds,rfl,_,a,p⟩:=p;subst q;simpa [Ev.eH,gK a] using yp z p
theorem J6 {x v:V}{d:D}{lo hi:Option Int}(w:∀ m,S m→m<h.length) (z:eV x lo hi=some v) (p:bx h S x d):∃ r h' S',Ev.eV d lo hi h=.ok r h'∧Rep h' S' v r∧Al h S h' S':=by
 cases x <;> simp only [eV,reduceCtorEq] at z <;> simp only [bx,Rep] at p
 ·subst p;cases z;exact ⟨_,_,S,rfl,rfl,.refl⟩
 ·obtain ⟨ds,rfl,p⟩:=p;cases z;exact ⟨_,_,S,rfl,⟨_,rfl,p.cut _ _⟩,.refl⟩
 ·obtain ⟨n,ds,rfl,a,p⟩:=p;simp only [Ev.eV,gu a];exact iC w z (p.cut _ _)
 ·obtain ⟨n,ds,rfl,_,a,p⟩:=p;simp only [Ev.eV,gK a];exact iC w z (p.cut _ _)
theorem J7 {x v:V}{d:D}(w:∀ m,S m→m<h.length) (z:lR x=some v) (p:bx h S x d):∃ r h' S',Ev.lR d h=.ok r h'∧Rep h' S' v r∧Al h S h' S':=by
 cases x <;> simp only [lR,reduceCtorEq] at z <;> simp only [bx,Rep] at p
 ·obtain ⟨ds,rfl,p⟩:=p;cases z;exact ⟨_,_,S,rfl,⟨_,rfl,p.reverse⟩,.refl⟩
 ·obtain ⟨n,ds,rfl,a,p⟩:=p;simp only [Ev.lR,gu a];exact iC w z p.reverse
 ·obtain ⟨n,ds,rfl,_,a,p⟩:=p;simp only [Ev.lR,gK a];exact iC w z p.reverse
theorem J8 {x v:V}{d:D}(z:toT x=some v) (p:bx h S x d):∃ r,Ev.ql d h=.ok r h∧Rep h S v r:=by
 cases x <;> simp only [toT,reduceCtorEq] at z <;> simp only [bx,Rep] at p
 ·obtain ⟨ds,rfl,p⟩:=p;cases z;exact ⟨_,rfl,⟨_,rfl,p⟩⟩
 ·obtain ⟨n,ds,rfl,a,p⟩:=p
  unfold jI at z
  split at z
  ·rename_i k;cases z
   refine ⟨.tup ds,?_,⟨_,rfl,p⟩⟩
   simp only [Ev.ql,gu a];rw [if_pos (by rw [←p.length];exact k)]
  ·cases z
 ·obtain ⟨n,ds,rfl,_,a,p⟩:=p
  unfold jI at z
  split at z
  ·rename_i k;cases z
   refine ⟨.tup ds,?_,⟨_,rfl,p⟩⟩
   simp only [Ev.ql,gK a];rw [if_pos (by rw [←p.length];exact k)]
  ·cases z
theorem qx {x:V}{l:List V}{d:D}(z:jX x=some l) (p:bx h S x d):∃ s,Ev.oq h d=some s∧aC h S l s.1∧(∀ q∈s.2,d=.ref q.1∧bw h q.1=some q.2):=by
 obtain ⟨n,ds,rfl,a,q⟩:=o9 z p
 exact ⟨(ds,[(n,ds)]),by simp [Ev.oq,a],q,by simp [a]⟩
theorem GU {x:V}{d:D}(p:bx h S x d) (t:TY):Ev.dw h d t=dw x t:=by
 cases x <;> simp only [bx,Rep] at p
 ·subst p;cases t <;> rfl
 ·subst p;cases t <;> rfl
 ·subst p;cases t <;> rfl
 ·subst p;cases t <;> rfl
 ·obtain ⟨_,rfl,_⟩:=p;cases t <;> rfl
 ·obtain ⟨n,ds,rfl,a,p⟩:=p;cases t <;> simp [Ev.dw,dw,gu a]
 ·obtain ⟨n,ds,rfl,_,a,p⟩:=p;cases t <;> simp [Ev.dw,dw,gK a]
theorem Cu:∀ {l:List V}{ds:List D}{bs},boolsOf l=some bs→aC h S l ds→Ev.boolsOf ds=some bs
 | [],_,_,e,q=>by simp only [aC] at q;subst q;exact e
 | x :: xs,_,bs,e,q=>by
  cases x <;> simp only [boolsOf,reduceCtorEq,Option.map_eq_some_iff] at e
  obtain ⟨r,e,rfl⟩:=e
  simp only [aC,Rep] at q
  obtain ⟨_,ds,rfl,rfl,q⟩:=q
  simp [Ev.boolsOf,Cu e q]
theorem wo:∀ {l:List V}{ds:List D}{bs},intsOf l=some bs→aC h S l ds→Ev.intsOf ds=some bs
 | [],_,_,e,q=>by simp only [aC] at q;subst q;exact e
 | x :: xs,_,bs,e,q=>by
  cases x <;> simp only [intsOf,reduceCtorEq,Option.map_eq_some_iff] at e
  obtain ⟨r,e,rfl⟩:=e
  simp only [aC,Rep] at q
  obtain ⟨_,ds,rfl,rfl,q⟩:=q
  simp [Ev.intsOf,wo e q]
theorem wu:∀ {l:List V}{ds:List D}{bs},strsOf l=some bs→aC h S l ds→Ev.strsOf ds=some bs
 | [],_,_,e,q=>by simp only [aC] at q;subst q;exact e
 | x :: xs,_,bs,e,q=>by
  cases x <;> simp only [strsOf,reduceCtorEq,Option.map_eq_some_iff] at e
  obtain ⟨r,e,rfl⟩:=e
  simp only [aC,Rep] at q
  obtain ⟨_,ds,rfl,rfl,q⟩:=q
  simp [Ev.strsOf,wu e q]
theorem fy.one {v:V}{ds:List D}(q:fy h S [v] ds):∃ d,ds=[d]∧bx h S v d:=by
 simp only [fy] at q
 obtain ⟨d,es,rfl,a,rfl⟩:=q
 exact ⟨d,rfl,a⟩
theorem J9 {b:BI}{xs:List V}{v:V}{ds:List D}(w:∀ m,S m→m<h.length) (z:cV b xs=some v) (p:fy h S xs ds):∃ r h' S',Ev.cV b ds h=.ok r h'∧Rep h' S' v r∧Al h S h' S':=by
 delta cV at z
 rcases xs with _ | ⟨x,_ | ⟨y,_ | ⟨u,xs⟩⟩⟩
 ·cases b <;> exact nn z
 ·obtain ⟨d,rfl,p1⟩:=p.one
  cases b
  case len=>
   cases x
   case str s=>
    dsimp only at z;simp only [bx,Rep] at p1;subst p1
    split at z
    ·rename_i k;cases z;exact ⟨_,_,S,by delta Ev.cV;dsimp only;rw [if_pos k],rfl,.refl⟩
    ·cases z
   case tup l=>
    dsimp only at z;simp only [bx,Rep] at p1;obtain ⟨es,rfl,p2⟩:=p1
    cases z;exact ⟨_,_,S,rfl,by simp [Rep,p2.length],.refl⟩
   all_goals
    dsimp only at z
    simp only [Option.map_eq_some_iff] at z;obtain ⟨l,z,rfl⟩:=z
    obtain ⟨n,es,rfl,a,q⟩:=o9 z p1
    exact ⟨.int es.length,h,S,by delta Ev.cV;dsimp only;simp [a],by simp [Rep,q.length],.refl⟩
  case sum=>
   dsimp only at z
   simp only [Option.map_eq_some_iff,Option.bind_eq_some_iff] at z;obtain ⟨bs,⟨l,z,z2⟩,rfl⟩:=z
   obtain ⟨n,es,rfl,a,q⟩:=o9 z p1
   exact ⟨_,_,S,by delta Ev.cV;dsimp only;simp only [a,Option.bind,wo z2 q];rfl,rfl,.refl⟩
  case min=>cases x <;> exact nn z
  case max=>cases x <;> exact nn z
 ·cases b
  case min=>
   cases x
   case int i=>
    cases y
    case int j=>
     dsimp only at z
     simp only [fy,bx,Rep] at p;obtain ⟨_,_,rfl,rfl,_,_,rfl,rfl,rfl⟩:=p
     cases z;exact ⟨_,_,S,rfl,rfl,.refl⟩
    all_goals exact nn z
   all_goals exact nn z
  case max=>
   cases x
   case int i=>
    cases y
    case int j=>
     dsimp only at z
     simp only [fy,bx,Rep] at p;obtain ⟨_,_,rfl,rfl,_,_,rfl,rfl,rfl⟩:=p
     cases z;exact ⟨_,_,S,rfl,rfl,.refl⟩
    all_goals exact nn z
   all_goals exact nn z
  case len=>cases x <;> exact nn z
  all_goals exact nn z
 ·cases b
  case min=>cases x <;> (try cases y) <;> exact nn z
  case max=>cases x <;> (try cases y) <;> exact nn z
  case len=>cases x <;> exact nn z
  all_goals exact nn z
theorem Ka {m:ME}{o:V}{xs:List V}{v:V}{d:D}{ds:List D}(z:fc m o xs=some v) (hm:iT m=false) (po:bx h S o d) (p:fy h S xs ds):Ev.vN m d h=true∧∃ r,Ev.fc m d ds h=.ok r h∧Rep h S v r:=by
 unfold fc at z
 split at z
 ·obtain ⟨d,rfl,p1⟩:=p.one;simp only [bx,Rep] at po;subst po
  simp only [Option.bind_eq_some_iff] at z;obtain ⟨ss,⟨l,z,z2⟩,z3⟩:=z
  obtain ⟨n,es,rfl,a,q⟩:=o9 z p1
  split at z3
  ·rename_i k;cases z3
   refine ⟨rfl,_,?_,rfl⟩
   delta Ev.fc;dsimp only;simp only [a,Option.bind,wu z2 q]
   rw [if_pos k]
  ·cases z3
 ·cases z
theorem GV {x:V}{d:D}(f:rV x=true) (p:Rep h U x d):Rep [] U x d:=by
 cases x <;> simp only [rV,Bool.false_eq_true] at f <;> exact p
theorem Cv {x:V}{d:D}(p:Rep h U x d):∀ {kvs:List (D×D)}{v:V},eU x kvs=some v→∃ r,Ev.eU d kvs=some r∧Rep h S v r:=by
 intro kvs v z
 unfold eU at z
 split at z
 ·rename_i f
  have p':=GV f p
  induction kvs with
  | nil=>cases z
  | cons kv r ih=>
   obtain ⟨k,u⟩:=kv
   simp only [ym] at z
   simp only [Ev.eU]
   split at z
   ·rename_i y
    simp only [Option.bind_eq_some_iff] at y
    obtain ⟨k',y1,y2⟩:=y
    rw [jJ 1 y2 (mJ y1) p']
    exact ⟨u,rfl,mJ z⟩
   ·rename_i y
    simp only [Option.bind_eq_some_iff] at y
    obtain ⟨k',y1,y2⟩:=y
    rw [jJ 1 y2 (mJ y1) p']
    exact ih z
   ·cases z
 ·cases z
theorem Cw {x:V}{l:List V}{d:D}(z:gj x=some l) (p:bx h S x d):∃ s,Ev.gj h d=some s∧aC h S l s.1∧(∀ q∈s.2,d=.ref q.1∧bw h q.1=some q.2):=by
 cases x <;> simp only [gj,reduceCtorEq] at z <;> simp only [bx,Rep] at p
 ·subst p;cases z;exact ⟨_,rfl,aC.map (f:=fun c=>V.str [c]) (g:=fun c=>D.str [c]) (fun _=>by simp [Rep]) _,by simp⟩
 ·obtain ⟨ds,rfl,p⟩:=p;cases z;exact ⟨_,rfl,p,by simp⟩
 ·obtain ⟨n,ds,rfl,a,p⟩:=p;cases z;exact ⟨(ds,[(n,ds)]),by simp [Ev.gj,gu a],p,by simp [gu a]⟩
 ·obtain ⟨n,ds,rfl,_,a,p⟩:=p;cases z;exact ⟨(ds,[(n,ds)]),by simp [Ev.gj,gK a],p,by simp [gK a]⟩
theorem ue (lo:Int) (n:Nat):aC h S (range lo n) (Ev.range lo n):=aC.map (f:=fun (i:Nat)=>V.int (lo+i)) (g:=fun (i:Nat)=>D.int (lo+i)) (fun _=>by simp [Rep]) _
theorem Kc {xs l:List V}{ds:List D}(z:eL xs=some l) (p:fy h S xs ds):∃ s,Ev.eL ds=some (s,[])∧aC h S l s:=by
 unfold eL at z
 split at z
 ·obtain ⟨d,rfl,p1⟩:=p.one;simp only [bx,Rep] at p1;subst p1
  split at z
  ·rename_i k;cases z;exact ⟨_,by simp only [Ev.eL];rw [if_pos k],ue _ _⟩
  ·cases z
 ·simp only [fy,bx,Rep] at p;obtain ⟨_,_,rfl,rfl,_,_,rfl,rfl,rfl⟩:=p
  split at z
  ·rename_i k;cases z;exact ⟨_,by simp only [Ev.eL];rw [if_pos k],ue _ _⟩
  ·cases z
 ·cases z
theorem Ao:∀ {a b:List V}{ds es:List D},aC h S a ds→aC h S b es→aC h S (eW a b) (Ev.eW ds es)
 | [],_,_,_,p,q=>by simp only [aC] at p;subst p;simp [eW,Ev.eW,aC]
 | _ :: _,[],_,_,p,q=>by simp only [aC] at q;subst q;simp [eW,Ev.eW,aC]
 | x :: xs,y :: ys,_,_,p,q=>by
  simp only [aC] at p q
  obtain ⟨d,ds,rfl,p1,p2⟩:=p
  obtain ⟨e,es,rfl,q1,q2⟩:=q
  have:=Ao p2 q2
  simp only [eW,Ev.eW,List.zipWith_cons_cons] at this ⊢
  exact .cons ⟨_,rfl,.cons p1 (.cons q1 .nil)⟩ this
theorem wz:∀ {a:List V}{ds:List D}(k:Int),aC h S a ds→aC h S (gE k a) (Ev.gE k ds)
 | [],_,_,p=>by simp only [aC] at p;subst p;simp [gE,Ev.gE,aC]
 | x :: xs,_,k,p=>by
  simp only [aC] at p
  obtain ⟨d,ds,rfl,p1,p2⟩:=p
  simp only [gE,Ev.gE]
  exact .cons ⟨_,rfl,.cons rfl (.cons p1 .nil)⟩ (wz _ p2)
end
end Pv
namespace Pv
open Ev (D O Hh cF bY TY BI ME T E Es Eo It S Ss Fn big deep b2i rep cH eG bU aR cut cS eB slots bw)
noncomputable def ku (M B:Nat→Prop) (h:Hh) (S:Nat→Prop):Option Sl→Option D→Prop
 | none,p=>p=none
 | some (.val v),p=>∃ d,p=some d∧Rep h S v d
 | some (.own l),p=>∃ m ds,p=some (.ref m)∧(M m∧¬ B m)∧h[m]?=some (.lst ds)∧aC h S l ds
 | some (.bor l),p=>∃ m ds,p=some (.ref m)∧(M m∧B m)∧h[m]?=some (.lst ds)∧aC h S l ds
 | some (.ro l),p=>∃ m ds,p=some (.ref m)∧¬ M m∧h[m]?=some (.lst ds)∧aC h S l ds
noncomputable def gQ:Option Sl→Bool
 | some (.own _)=>true
 | some (.bor _)=>true
 | _=>false
noncomputable def wA:Option Sl→Bool
 | some (.bor _)=>true
 | some (.ro _)=>true
 | _=>false
noncomputable def locked (fr:Fr) (i:Nat):Bool:=match fr[i]? with
 | some o=>wA o
 | none=>false
structure bI (M B:Nat→Prop) (h:Hh) (S:Nat→Prop) (fr:Fr) (aq:Ev.Fr):Prop where
 wS:∀ m,S m→m<h.length∧¬ M m∧¬ B m
 wM:∀ m,M m→m<h.length
 wB:∀ m,B m→m<h.length
 len:fr.length=aq.length
 sl:∀ (i:Nat) o p,fr[i]?=some o→aq[i]?=some p→ku M B h S o p
 inj:∀ (i j:Nat) o o' m,fr[i]?=some o→fr[j]?=some o'→gQ o=true→gQ o'=true→aq[i]?=some (some (.ref m))→aq[j]?=some (some (.ref m))→i=j
structure Tk (X:Nat→Prop) (h:Hh) (S:Nat→Prop) (h':Hh) (S':Nat→Prop):Prop where
 len:h.length≤h'.length
 keep:∀ m,m<h.length→¬ X m→h'[m]?=h[m]?
 sub:∀ m,S m→S' m
 new:∀ m,S' m→S m∨(h.length≤m∧m<h'.length)
noncomputable def Xs (M:Nat→Prop) (aq:Ev.Fr) (l:List Nat):Nat→Prop:=fun m=>M m∧∃ i∈l,aq[i]?=some (some (.ref m))
structure Out (M B:Nat→Prop) (c:List Nat) (h:Hh) (S:Nat→Prop) (fr:Fr) (aq:Ev.Fr) (h':Hh) (S':Nat→Prop) (af:Fr):Prop where
 f:bI M B h' S' af aq
 tr:Tk (Xs M aq c) h S h' S'
 lk:∀ i,locked af i=locked fr i
section
variable {M B M':Nat→Prop}{h h' h1 h2:Hh}{S S' S1 S2:Nat→Prop}{fr af aB:Fr}{aq:Ev.Fr}{c c1 c2:List Nat}{v:V}{d:D}{X X1 X2:Nat→Prop}
theorem bI.get (f:bI M B h S fr aq) {i:Nat}{o:Option Sl}(e:fr[i]?=some o):∃ p,aq[i]?=some p∧ku M B h S o p:=by
 have h1:=(List.getElem?_eq_some_iff.mp e).1
 rw [f.len] at h1
 exact ⟨aq[i],List.getElem?_eq_getElem h1,f.sl i o _ e (List.getElem?_eq_getElem h1)⟩
theorem bI.w (f:bI M B h S fr aq):∀ m,S m→m<h.length:=fun m q=>(f.wS m q).1
theorem Al.tr (a:Al h S h' S'):Tk X h S h' S':=⟨a.len,fun m q _=>a.keep m q,a.sub,a.new⟩
theorem Tk.al (t:Tk X h S h' S') (z:∀ m,¬ X m):Al h S h' S':=⟨t.len,fun m q=>t.keep m q (z m),t.sub,t.new⟩
theorem Tk.weak (t:Tk X h S h' S') (q:∀ m,X m→X1 m):Tk X1 h S h' S':=⟨t.len,fun m k z=>t.keep m k fun y=>z (q m y),t.sub,t.new⟩
theorem Tk.trans (a:Tk X1 h S h1 S1) (b:Tk X2 h1 S1 h2 S2):Tk (fun m=>X1 m∨X2 m) h S h2 S2 where
 len:=Nat.le_trans a.len b.len
 keep:=fun m q z=>by rw [b.keep m (Nat.lt_of_lt_of_le q a.len) (fun y=>z (.inr y)),a.keep m q (fun y=>z (.inl y))]
 sub:=fun m q=>b.sub m (a.sub m q)
 new:=fun m q=>by
  rcases b.new m q with q | ⟨q1,q2⟩
  ·rcases a.new m q with q | ⟨q1,q2⟩
   ·exact .inl q
   ·exact .inr ⟨q1,Nat.lt_of_lt_of_le q2 b.len⟩
  ·exact .inr ⟨Nat.le_trans a.len q1,q2⟩
theorem Al.trans (a:Al h S h1 S1) (b:Al h1 S1 h2 S2):Al h S h2 S2:=((a.tr (X:=fun _=>False)).trans (b.tr (X:=fun _=>False))).al fun m z=>by simp at z
theorem Tk.refl:Tk X h S h S:=⟨Nat.le_refl _,fun _ _ _=>rfl,fun _ q=>q,fun _ q=>.inl q⟩
theorem Xs.app {l1 l2:List Nat}{m:Nat}:Xs M aq (l1++l2) m↔Xs M aq l1 m∨Xs M aq l2 m:=by
 unfold Xs
 constructor
 ·rintro ⟨a,i,hi,e⟩
  rcases List.mem_append.mp hi with hi | hi
  ·exact .inl ⟨a,i,hi,e⟩
  ·exact .inr ⟨a,i,hi,e⟩
 ·rintro (⟨a,i,hi,e⟩ | ⟨a,i,hi,e⟩)
  ·exact ⟨a,i,List.mem_append.mpr (.inl hi),e⟩
  ·exact ⟨a,i,List.mem_append.mpr (.inr hi),e⟩
theorem Xs.nil {m:Nat}:¬ Xs M aq [] m:=by rintro ⟨_,i,hi,_⟩;simp at hi
theorem Xs.mono {l1 l2:List Nat}(q:∀ i∈l1,i∈l2) {m:Nat}:Xs M aq l1 m→Xs M aq l2 m:=fun ⟨a,i,hi,e⟩=>⟨a,i,q i hi,e⟩
theorem Rep.tr (q:Rep h S v d) (f:bI M B h S fr aq) (t:Tk (Xs M aq c) h S h' S'):Rep h' S' v d:=q.mono (fun m z=>t.keep m (f.wS m z).1 (fun y=>(f.wS m z).2.1 y.1)) t.sub
theorem aC.tr {l:List V}{ds:List D}(q:aC h S l ds) (f:bI M B h S fr aq) (t:Tk (Xs M aq c) h S h' S'):aC h' S' l ds:=q.mono (fun m z=>t.keep m (f.wS m z).1 (fun y=>(f.wS m z).2.1 y.1)) t.sub
theorem bx.tr (q:bx h S v d) (f:bI M B h S fr aq) (t:Tk X h S h' S') (z:∀ m,¬ X m):bx h' S' v d:=q.mono (fun m k=>t.keep m k (z m)) f.w t.sub
theorem ku.al {o:Option Sl}{p:Option D}(q:ku M B h S o p) (w:∀ m,S m→m<h.length) (a:Al h S h' S'):ku M B h' S' o p:=by
 have k:∀ m,S m→h'[m]?=h[m]?:=fun m z=>a.keep m (w m z)
 have g:∀ (m:Nat) (ds:List D),h[m]?=some (O.lst ds)→h'[m]?=some (O.lst ds):=fun m ds z=>by rw [a.keep m (List.getElem?_eq_some_iff.mp z).1];exact z
 rcases o with _ | s
 ·exact q
 ·cases s with
  | val v=>obtain ⟨d,e,q⟩:=q;exact ⟨d,e,q.mono k a.sub⟩
  | own l=>obtain ⟨m,ds,e,z,y,q⟩:=q;exact ⟨m,ds,e,z,g m ds y,q.mono k a.sub⟩
  | bor l=>obtain ⟨m,ds,e,z,y,q⟩:=q;exact ⟨m,ds,e,z,g m ds y,q.mono k a.sub⟩
  | ro l=>obtain ⟨m,ds,e,z,y,q⟩:=q;exact ⟨m,ds,e,z,g m ds y,q.mono k a.sub⟩
theorem bI.al (f:bI M B h S fr aq) (a:Al h S h' S'):bI M B h' S' fr aq where
 wS:=fun m q=>by
  rcases a.new m q with q | ⟨q1,q2⟩
  ·exact ⟨Nat.lt_of_lt_of_le (f.wS m q).1 a.len,(f.wS m q).2⟩
  ·exact ⟨q2,fun z=>by have:=f.wM m z;omega,fun z=>by have:=f.wB m z;omega⟩
 wM:=fun m q=>Nat.lt_of_lt_of_le (f.wM m q) a.len
 wB:=fun m q=>Nat.lt_of_lt_of_le (f.wB m q) a.len
 len:=f.len
 sl:=fun i o p e1 e2=>(f.sl i o p e1 e2).al f.w a
 inj:=f.inj
theorem Out.refl (f:bI M B h S fr aq):Out M B c h S fr aq h S fr:=⟨f,.refl,fun _=>rfl⟩
theorem Out.trans (a:Out M B c1 h S fr aq h1 S1 af) (b:Out M B c2 h1 S1 af aq h2 S2 aB):Out M B (c1++c2) h S fr aq h2 S2 aB:=⟨b.f,(a.tr.trans b.tr).weak fun m z=>Xs.app.mpr z,fun i=>(b.lk i).trans (a.lk i)⟩
theorem Out.al (a:Out M B c h S fr aq h1 S1 af) (b:Al h1 S1 h2 S2):Out M B c h S fr aq h2 S2 af:=⟨a.f.al b,(a.tr.trans (b.tr (X:=fun _=>False))).weak (fun m z=>by rcases z with z | z;exact z;exact z.elim),a.lk⟩
theorem Out.weak (a:Out M B c h S fr aq h1 S1 af) (q:∀ i∈c,i∈c1):Out M B c1 h S fr aq h1 S1 af:=⟨a.f,a.tr.weak fun m z=>Xs.mono q z,a.lk⟩
noncomputable def fz (k:Bool) (h:Hh) (S:Nat→Prop) (v:V) (d:D):Prop:=if k=true then bx h S v d else Rep h S v d
theorem fz.of {k:Bool}(q:Rep h S v d):fz k h S v d:=by unfold fz;split;exact q.top;exact q
theorem fz.t {k:Bool}(q:fz k h S v d):bx h S v d:=by unfold fz at q;split at q;exact q;exact q.top
theorem fz.n (q:fz false h S v d):Rep h S v d:=by simpa [fz] using q
theorem bI.slot (f:bI M B h S fr aq) {i m:Nat}(e:aq[i]?=some (some (.ref m))) (hm:M m):∃ o,fr[i]?=some o∧gQ o=true:=by
 have hl:i<fr.length:=by rw [f.len];exact (List.getElem?_eq_some_iff.mp e).1
 refine ⟨fr[i],List.getElem?_eq_getElem hl,?_⟩
 have s:=f.sl i _ _ (List.getElem?_eq_getElem hl) e
 revert s
 generalize fr[i]=o
 intro s
 rcases o with _ | s'
 ·cases s
 ·cases s' with
  | own l=>rfl
  | bor l=>rfl
  | ro l=>obtain ⟨m',ds,e,y,_⟩:=s;cases e;exact absurd hm y
  | val v=>
   obtain ⟨d,e,q⟩:=s
   cases e
   exfalso
   cases v <;> simp only [Rep,reduceCtorEq] at q
   ·obtain ⟨_,e,_⟩:=q;cases e
   ·obtain ⟨n,ds,e,sn,_⟩:=q;cases e;exact (f.wS _ sn).2.1 hm
   ·obtain ⟨n,ds,e,sn,_⟩:=q;cases e;exact (f.wS _ sn).2.1 hm
theorem fz.tr {k:Bool}{a:E}(q:fz k h S v d) (f:bI M B h S fr aq) (t:Tk (Xs M aq c) h S h' S') (hk:k=true→kf a c=true) (ha:∀ i,a=.v i→aq[i]?.join=some d):fz k h' S' v d:=by
 unfold fz at q ⊢
 split at q
 ·rename_i e
  rw [if_pos e]
  have hk:=hk e
  have gen:c=[]→bx h' S' v d:=fun z=>q.tr f t fun m y=>by subst z;exact Xs.nil y
  by_cases hv:∃ i,a=.v i
  ·obtain ⟨i0,rfl⟩:=hv
   simp only [kf,Bool.not_eq_true',List.contains_eq_mem,decide_eq_false_iff_not] at hk
   cases v
   case lst l=>
    simp only [bx] at q ⊢
    obtain ⟨n,ds,rfl,b1,b2⟩:=q
    refine ⟨n,ds,rfl,?_,b2.tr f t⟩
    rw [t.keep n (List.getElem?_eq_some_iff.mp b1).1 ?_]
    ·exact b1
    ·rintro ⟨mn,j,hj,ej⟩
     have e2:aq[i0]?=some (some (D.ref n)):=by
      have:=ha i0 rfl
      cases z:aq[i0]? with
      | none=>rw [z] at this;cases this
      | some p=>rw [z] at this;simp at this;rw [this]
     obtain ⟨o1,y1,y2⟩:=f.slot e2 mn
     obtain ⟨o2,y3,y4⟩:=f.slot ej mn
     have:=f.inj i0 j o1 o2 n y1 y3 y2 y4 e2 ej
     subst this
     exact hk hj
   all_goals exact Rep.tr (show Rep h S _ d from q) f t
  ·have:kf a c=c.isEmpty:=by
    cases a <;> first | rfl | exact absurd ⟨_,rfl⟩ hv
   rw [this,List.isEmpty_iff] at hk
   exact gen hk
 ·rename_i e
  rw [if_neg e]
  exact q.tr f t
theorem GW {k:Bool}{i:Nat}(e:qw k fr i=some v) (f:bI M B h S fr aq):∃ d,aq[i]?.join=some d∧fz k h S v d:=by
  unfold qw at e
  split at e
  · rename_i z
    obtain ⟨p,e1,q⟩:=f.get z
    obtain ⟨d,rfl,q⟩:=q
    cases e
    exact ⟨d,by rw [e1];rfl,.of q⟩
  all_goals first
    | (rename_i z
       obtain ⟨p,e1,q⟩:=f.get z
       obtain ⟨m,ds,rfl,_,y,q⟩:=q
       split at e
       · rename_i hk
         cases e
         exact ⟨.ref m,by rw [e1];rfl,by unfold fz;rw [if_pos hk];exact ⟨m,ds,rfl,y,q⟩⟩
       · cases e)
    | cases e
theorem jx {i:Nat}{s:Sl}(e:lent fr i=some s) (f:bI M B h S fr aq):∃ m ds l o,fr[i]?=some o∧aq[i]?=some (some (.ref m))∧h[m]?=some (.lst ds)∧aC h S l ds∧((s=.bor l∧M m∧gQ o=true)∨(s=.ro l∧¬ M m∧o=some (.ro l))):=by
 unfold lent at e
 split at e
 ·rename_i s' z
  obtain ⟨p,e1,q⟩:=f.get z
  cases s' with
  | val v=>simp [Sl.lend] at e
  | own l=>
   simp [Sl.lend] at e;subst e
   obtain ⟨m,ds,rfl,y,y1,q⟩:=q
   exact ⟨m,ds,l,_,z,e1,y1,q,.inl ⟨rfl,y.1,rfl⟩⟩
  | bor l=>
   simp [Sl.lend] at e;subst e
   obtain ⟨m,ds,rfl,y,y1,q⟩:=q
   exact ⟨m,ds,l,_,z,e1,y1,q,.inl ⟨rfl,y.1,rfl⟩⟩
  | ro l=>
   simp [Sl.lend] at e;subst e
   obtain ⟨m,ds,rfl,y,y1,q⟩:=q
   exact ⟨m,ds,l,_,z,e1,y1,q,.inr ⟨rfl,y,rfl⟩⟩
 ·cases e
noncomputable def uf (h:Hh) (S:Nat→Prop) (aq:Ev.Fr):List (Nat ⊕ V)→List D→Prop
 | [],ds=>ds=[]
 | .inl i :: r,ds=>∃ d es,ds=d :: es∧aq[i]?=some (some d)∧uf h S aq r es
 | .inr v :: r,ds=>∃ d es,ds=d :: es∧Rep h S v d∧uf h S aq r es
noncomputable def mK (h:Hh) (S:Nat→Prop):List Sl→List D→List (List V)→Prop
 | [],_,os=>os=[]
 | .val _ :: sl,ds,os=>∃ d es,ds=d :: es∧mK h S sl es os
 | .own _ :: _,_,_=>False
 | _ :: sl,ds,os=>∃ d es l r m cs,ds=d :: es∧os=l :: r∧d=.ref m∧h[m]?=some (.lst cs)∧aC h S l cs∧mK h S sl es r
noncomputable def pq (P:aU) (P':Ev.aU):Prop:=∀ f sl v os,P f sl=some (v,os)→∀ (h:Hh) (S B:Nat→Prop) (ds:List D),bI B B h S (sl.map some) (ds.map some)→
 ∃ d h' S',P' f ds h=.ok d h'∧Rep h' S' v d∧Tk B h S h' S'∧mK h' S' sl ds os
theorem args_get (f:bI M B h S fr aq):∀ {as:List (Nat ⊕ V)}{sl:List Sl}{ds:List D},args fr as=some sl→uf h S aq as ds→sl.length=ds.length∧∀ (a:Nat) s d,sl[a]?=some s→ds[a]?=some d→
  (∃ i,as[a]?=some (.inl i)∧lent fr i=some s∧aq[i]?=some (some d))∨(∃ v,s=.val v∧Rep h S v d)
 | [],sl,ds,e,q=>by
  simp [args] at e;simp only [uf] at q;subst e q;simp
 | .inl i :: r,sl,ds,e,q=>by
  simp only [args,Option.bind_eq_some_iff,Option.map_eq_some_iff] at e
  obtain ⟨s,e1,l,e2,rfl⟩:=e
  obtain ⟨d,es,rfl,q1,q⟩:=q
  obtain ⟨h1,h2⟩:=args_get f e2 q
  refine ⟨by simp [h1],fun a s' d' z1 z2=>?_⟩
  cases a with
  | zero=>simp at z1 z2;subst z1 z2;exact .inl ⟨i,by simp,e1,q1⟩
  | succ a=>exact (h2 a s' d' (by simpa using z1) (by simpa using z2)).imp (fun ⟨i,k,z⟩=>⟨i,by simpa using k,z⟩) id
 | .inr v :: r,sl,ds,e,q=>by
  simp only [args,Option.map_eq_some_iff] at e
  obtain ⟨l,e2,rfl⟩:=e
  obtain ⟨d,es,rfl,q1,q⟩:=q
  obtain ⟨h1,h2⟩:=args_get f e2 q
  refine ⟨by simp [h1],fun a s' d' z1 z2=>?_⟩
  cases a with
  | zero=>simp at z1 z2;subst z1 z2;exact .inr ⟨v,rfl,q1⟩
  | succ a=>exact (h2 a s' d' (by simpa using z1) (by simpa using z2)).imp (fun ⟨i,k,z⟩=>⟨i,by simpa using k,z⟩) id
theorem gR:∀ {as:List (Nat ⊕ V)}{a i:Nat},as[a]?=some (.inl i)→i∈bP as
 | [],_,_,e=>by simp at e
 | .inl j :: r,0,i,e=>by simp at e;subst e;simp [bP]
 | .inr j :: r,0,i,e=>by simp at e
 | .inl j :: r,a+1,i,e=>by have:=gR (as:=r) (a:=a) (i:=i) (by simpa using e);simp [bP,this]
 | .inr j :: r,a+1,i,e=>by have:=gR (as:=r) (a:=a) (i:=i) (by simpa using e);simp [bP,this]
theorem mL:∀ {as:List (Nat ⊕ V)}{a b i:Nat},(bP as).Nodup→as[a]?=some (.inl i)→as[b]?=some (.inl i)→a=b
 | [],_,_,_,_,e,_=>by simp at e
 | x :: r,0,0,_,_,_,_=>rfl
 | .inr j :: r,0,b+1,i,n,e,_=>by simp at e
 | .inl j :: r,0,b+1,i,n,e,e2=>by
  simp at e;subst e
  simp only [bP,List.nodup_cons] at n
  exact absurd (gR (as:=r) (a:=b) (by simpa using e2)) n.1
 | .inr j :: r,a+1,0,i,n,_,e=>by simp at e
 | .inl j :: r,a+1,0,i,n,e2,e=>by
  simp at e;subst e
  simp only [bP,List.nodup_cons] at n
  exact absurd (gR (as:=r) (a:=a) (by simpa using e2)) n.1
 | .inl j :: r,a+1,b+1,i,n,e1,e2=>by
  simp only [bP,List.nodup_cons] at n
  have:=mL (as:=r) (a:=a) (b:=b) (i:=i) n.2 (by simpa using e1) (by simpa using e2)
  omega
 | .inr j :: r,a+1,b+1,i,n,e1,e2=>by
  simp only [bP] at n
  have:=mL (as:=r) (a:=a) (b:=b) (i:=i) n (by simpa using e1) (by simpa using e2)
  omega
theorem Cy {s:Sl}{l:List V}:gQ (some (s.with l))=gQ (some s):=by cases s <;> rfl
theorem wC {s:Sl}{l:List V}:wA (some (s.with l))=wA (some s):=by cases s <;> rfl
theorem ug:∀ {is:List Nat}{ls:List (List V)}{fr af:Fr},back is ls fr=some af→is.Nodup→af.length=fr.length∧(∀ i,i∉is→af[i]?=fr[i]?)∧∀ i∈is,∃ (k:Nat) (s:Sl) (l:List V),is[k]?=some i∧ls[k]?=some l∧fr[i]?=some (some s)∧af[i]?=some (some (s.with l))
 | [],[],fr,af,e,_=>by simp [back] at e;subst e;simp
 | [],_ :: _,_,_,e,_=>by simp [back] at e
 | _ :: _,[],_,_,e,_=>by simp [back] at e
 | i :: is,l :: ls,fr,af,e,n=>by
  simp only [back] at e
  simp only [List.nodup_cons] at n
  split at e
  ·rename_i s z
   obtain ⟨h1,h2,h3⟩:=ug e n.2
   refine ⟨by simpa using h1,fun j hj=>?_,fun j hj=>?_⟩
   ·simp at hj
    rw [h2 j hj.2,List.getElem?_set_ne (fun q=>hj.1 q.symm)]
   ·rcases List.mem_cons.mp hj with rfl | hj
    ·exact ⟨0,s,l,by simp,by simp,z,by rw [h2 j n.1,List.getElem?_set_self (List.getElem?_eq_some_iff.mp z).1]⟩
    ·obtain ⟨k,s',l',a,b,c,d⟩:=h3 j hj
     have hne:i≠j:=fun q=>n.1 (q▸hj)
     rw [List.getElem?_set_ne hne] at c
     exact ⟨k+1,s',l',by simpa using a,by simpa using b,c,d⟩
  ·cases e
theorem mP (f:bI M B h S fr aq):∀ {as:List (Nat ⊕ V)}{sl:List Sl}{ds:List D}{os:List (List V)},args fr as=some sl→uf h S aq as ds→mK h' S' sl ds os→
  ∀ (k i:Nat) l,(bP as)[k]?=some i→os[k]?=some l→∃ m cs,aq[i]?=some (some (.ref m))∧h'[m]?=some (.lst cs)∧aC h' S' l cs
 | [],sl,ds,os,e,q,o=>by simp [bP]
 | .inl i :: r,sl,ds,os,e,q,o=>by
  simp only [args,Option.bind_eq_some_iff,Option.map_eq_some_iff] at e
  obtain ⟨s,e1,l,e2,rfl⟩:=e
  obtain ⟨d,es,rfl,q1,q⟩:=q
  obtain ⟨m,cs,l0,o0,_,z2,z3,z4,z5⟩:=jx e1 f
  have key:∃ l1 r1 cs,os=l1 :: r1∧h'[m]?=some (.lst cs)∧aC h' S' l1 cs∧mK h' S' l es r1:=by
   rw [q1] at z2;cases z2
   rcases z5 with ⟨rfl,_⟩ | ⟨rfl,_⟩
   ·obtain ⟨d',es',l1,r1,m1,Aq,a1,a2,a3,a4,a5,a6⟩:=o
    cases a1;cases a3
    exact ⟨l1,r1,Aq,a2,a4,a5,a6⟩
   ·obtain ⟨d',es',l1,r1,m1,Aq,a1,a2,a3,a4,a5,a6⟩:=o
    cases a1;cases a3
    exact ⟨l1,r1,Aq,a2,a4,a5,a6⟩
  obtain ⟨l1,r1,Aq,rfl,a4,a5,a6⟩:=key
  intro k j l' y1 y2
  cases k with
  | zero=>simp [bP] at y1 y2;subst y1 y2;exact ⟨m,Aq,z2,a4,a5⟩
  | succ k=>exact mP f e2 q a6 k j l' (by simpa [bP] using y1) (by simpa using y2)
 | .inr v :: r,sl,ds,os,e,q,o=>by
  simp only [args,Option.map_eq_some_iff] at e
  obtain ⟨l,e2,rfl⟩:=e
  obtain ⟨d,es,rfl,q1,q⟩:=q
  obtain ⟨d',es',a1,a2⟩:=o
  cases a1
  intro k j l' y1 y2
  exact mP f e2 q a2 k j l' (by simpa [bP] using y1) y2
theorem lu:∀ {as:List (Nat ⊕ V)}{sl:List Sl}{i:Nat},args fr as=some sl→i∈bP as→∃ s,lent fr i=some s
 | [],_,_,_,q=>by simp [bP] at q
 | .inl j :: r,_,i,z,q=>by
  simp only [args,Option.bind_eq_some_iff,Option.map_eq_some_iff] at z
  obtain ⟨s,e1,l,e2,rfl⟩:=z
  simp [bP] at q
  rcases q with rfl | q
  ·exact ⟨s,e1⟩
  ·exact lu e2 q
 | .inr u :: r,_,i,z,q=>by
  simp only [args,Option.map_eq_some_iff] at z
  obtain ⟨l,e2,rfl⟩:=z
  exact lu e2 (by simpa [bP] using q)
theorem Cz {P:aU}{P':Ev.aU}(HP:pq P P') {g:Nat}{as:List (Nat ⊕ V)}{ds:List D}(e:fO P g as fr=.ok v af) (f:bI M B h S fr aq) (q:uf h S aq as ds) :
  ∃ d h' S',P' g ds h=.ok d h'∧Rep h' S' v d∧Out M B (bP as) h S fr aq h' S' af:=by
 unfold fO at e
 split at e
 case isFalse=>cases e
 rename_i nd
 cases z:args fr as with
 | none=>rw [z] at e;cases e
 | some sl=>
 rw [z] at e
 simp only at e
 cases z2:P g sl with
 | none=>rw [z2] at e;cases e
 | some vo=>
 obtain ⟨v',os⟩:=vo
 rw [z2] at e
 simp only at e
 cases z3:back (bP as) os fr with
 | none=>rw [z3] at e;cases e
 | some aB=>
 rw [z3] at e
 simp at e
 obtain ⟨rfl,rfl⟩:=e
 obtain ⟨hl,hg⟩:=args_get f z q
 let B0:Nat→Prop:=fun m=>∃ i o,i∈bP as∧fr[i]?=some o∧gQ o=true∧aq[i]?=some (some (.ref m))
 have pA:∀ m,B0 m→M m:=fun m ⟨i,o,_,a,b,c⟩=>by
  have s:=f.sl i o _ a c
  rcases o with _ | s'
  ·cases b
  ·cases s' with
   | val v=>cases b
   | ro l=>cases b
   | own l=>obtain ⟨m',ds',e,y,_⟩:=s;cases e;exact y.1
   | bor l=>obtain ⟨m',ds',e,y,_⟩:=s;cases e;exact y.1
 have F0:bI B0 B0 h S (sl.map some) (ds.map some):=by
  refine ⟨fun m y=>⟨(f.wS m y).1,fun z=>(f.wS m y).2.1 (pA m z),fun z=>(f.wS m y).2.1 (pA m z)⟩,fun m y=>f.wM m (pA m y),fun m y=>f.wM m (pA m y),by simp [hl],fun a o p y1 y2=>?_,fun a b o o' m y1 y2 y3 y4 y5 y6=>?_⟩
  ·simp at y1 y2
   obtain ⟨s,y1,rfl⟩:=y1
   obtain ⟨d,y2,rfl⟩:=y2
   rcases hg a s d y1 y2 with ⟨i,k1,k2,k3⟩ | ⟨u,rfl,k⟩
   ·obtain ⟨m,cs,l0,o0,w1,w2,w3,w4,w5⟩:=jx k2 f
    rw [k3] at w2;cases w2
    rcases w5 with ⟨rfl,w6,w7⟩ | ⟨rfl,w6,w7⟩
    ·exact ⟨m,cs,rfl,⟨⟨i,o0,gR k1,w1,w7,k3⟩,⟨i,o0,gR k1,w1,w7,k3⟩⟩,w3,w4⟩
    ·exact ⟨m,cs,rfl,fun z=>w6 (pA m z),w3,w4⟩
   ·exact ⟨d,rfl,k⟩
  ·simp at y1 y2 y5 y6
   obtain ⟨s,y1,rfl⟩:=y1
   obtain ⟨s',y2,rfl⟩:=y2
   rcases hg a s _ y1 y5 with ⟨i,k1,k2,k3⟩ | ⟨u,rfl,k⟩
   ·rcases hg b s' _ y2 y6 with ⟨j,k4,k5,k6⟩ | ⟨u,rfl,k⟩
    ·obtain ⟨m1,_,l1,o1,w1,w2,_,_,w5⟩:=jx k2 f
     obtain ⟨m2,_,l2,o2,x1,x2,_,_,x5⟩:=jx k5 f
     have i1:gQ o1=true:=by rcases w5 with ⟨_,_,w7⟩ | ⟨rfl,_,_⟩;exact w7;cases y3
     have i2:gQ o2=true:=by rcases x5 with ⟨_,_,w7⟩ | ⟨rfl,_,_⟩;exact w7;cases y4
     have:=f.inj i j o1 o2 m w1 x1 i1 i2 k3 k6
     subst this
     exact mL nd k1 k4
    ·cases y4
   ·cases y3
 obtain ⟨d,h',S',c1,c2,c3,c4⟩:=HP g sl v' os z2 h S B0 ds F0
 obtain ⟨b1,b2,b3⟩:=ug z3 nd
 have hL:=mP f z q c4
 have pB:∀ m,S m→h'[m]?=h[m]?:=fun m y=>c3.keep m (f.wS m y).1 (fun z=>(f.wS m y).2.1 (pA m z))
 refine ⟨d,h',S',c1,c2,⟨?_,?_,?_⟩⟩
 ·refine ⟨fun m y=>?_,fun m y=>Nat.lt_of_lt_of_le (f.wM m y) c3.len,fun m y=>Nat.lt_of_lt_of_le (f.wB m y) c3.len,by rw [b1,f.len],fun i o p y1 y2=>?_,fun i j o o' m y1 y2 y3 y4 y5 y6=>?_⟩
  ·rcases c3.new m y with y | ⟨y1,y2⟩
   ·exact ⟨Nat.lt_of_lt_of_le (f.wS m y).1 c3.len,(f.wS m y).2⟩
   ·exact ⟨y2,fun z=>by have:=f.wM m z;omega,fun z=>by have:=f.wB m z;omega⟩
  ·by_cases hi:i∈bP as
   ·obtain ⟨k,s,l,w1,w2,w3,w4⟩:=b3 i hi
    rw [w4] at y1;cases y1
    obtain ⟨m,cs,x1,x2,x3⟩:=hL k i l w1 w2
    rw [x1] at y2;cases y2
    have old:=f.sl i _ _ w3 x1
    cases s with
    | val u=>
     exfalso
     have:∃ s,lent fr i=some s:=lu z hi
     obtain ⟨s,hs⟩:=this
     simp [lent,w3,Sl.lend] at hs
    | own u=>obtain ⟨m',ds',e,y,_⟩:=old;cases e;exact ⟨m,cs,rfl,y,x2,x3⟩
    | bor u=>obtain ⟨m',ds',e,y,_⟩:=old;cases e;exact ⟨m,cs,rfl,y,x2,x3⟩
    | ro u=>
     obtain ⟨m',ds',e,y,y1,y2⟩:=old;cases e
     refine ⟨m,ds',rfl,y,?_,y2.mono pB c3.sub⟩
     rw [c3.keep m (List.getElem?_eq_some_iff.mp y1).1 (fun z=>y (pA m z))];exact y1
   ·rw [b2 i hi] at y1
    have old:=f.sl i o p y1 y2
    rcases o with _ | s
    ·exact old
    ·cases s with
     | val u=>obtain ⟨d,e,q⟩:=old;exact ⟨d,e,q.mono pB c3.sub⟩
     | own u=>
      obtain ⟨m,ds',rfl,w1,w2,w3⟩:=old
      refine ⟨m,ds',rfl,w1,?_,w3.mono pB c3.sub⟩
      rw [c3.keep m (f.wM m w1.1) (fun ⟨j,o2,x1,x2,x3,x4⟩=>hi (f.inj i j _ o2 m y1 x2 rfl x3 y2 x4▸x1))];exact w2
     | bor u=>
      obtain ⟨m,ds',rfl,w1,w2,w3⟩:=old
      refine ⟨m,ds',rfl,w1,?_,w3.mono pB c3.sub⟩
      rw [c3.keep m (f.wM m w1.1) (fun ⟨j,o2,x1,x2,x3,x4⟩=>hi (f.inj i j _ o2 m y1 x2 rfl x3 y2 x4▸x1))];exact w2
     | ro u=>
      obtain ⟨m,ds',rfl,w1,w2,w3⟩:=old
      refine ⟨m,ds',rfl,w1,?_,w3.mono pB c3.sub⟩
      rw [c3.keep m (List.getElem?_eq_some_iff.mp w2).1 (fun z=>w1 (pA m z))];exact w2
  ·have kind:∀ (i:Nat) o,aB[i]?=some o→gQ o=true→∃ o0,fr[i]?=some o0∧gQ o0=true:=fun i o w1 w2=>by
    by_cases hi:i∈bP as
    ·obtain ⟨k,s,l,x1,x2,x3,x4⟩:=b3 i hi
     rw [x4] at w1;cases w1
     exact ⟨_,x3,by rw [Cy] at w2;exact w2⟩
    ·rw [b2 i hi] at w1;exact ⟨o,w1,w2⟩
   obtain ⟨oi,k1,k2⟩:=kind i o y1 y3
   obtain ⟨oj,k3,k4⟩:=kind j o' y2 y4
   exact f.inj i j oi oj m k1 k3 k2 k4 y5 y6
 ·exact c3.weak fun m z=>⟨pA m z,by obtain ⟨i,o,a1,a2,a3,a4⟩:=z;exact ⟨i,a1,a4⟩⟩
 ·intro i
  unfold locked
  by_cases hi:i∈bP as
  ·obtain ⟨k,s,l,x1,x2,x3,x4⟩:=b3 i hi
   rw [x3,x4];exact wC
  ·rw [b2 i hi]
end
end Pv
namespace Pv
open Ev (D O Hh cF bY TY BI ME T E Es Eo It S Ss Fn big deep b2i rep cH eG bU aR cut cS eB slots bw)
section
variable {M B M':Nat→Prop}{h h' h1 h2:Hh}{S S' S1 S2:Nat→Prop}{fr af aB:Fr}{aq:Ev.Fr}{c c1 c2:List Nat}{v:V}{d:D}
theorem kH {n m:Nat}{o:O}(q:n≠m):(h.set n o)[m]?=h[m]?:=List.getElem?_set_ne q
theorem bI.mM (f:bI M B h S fr aq) {i n:Nat}{o:Option Sl}(e:fr[i]?=some o) (hM:gQ o=true) (e':aq[i]?=some (some (.ref n))):M n:=by
 have s:=f.sl i o _ e e'
 rcases o with _ | s'
 ·cases hM
 ·cases s' with
  | val v=>cases hM
  | ro l=>cases hM
  | own l=>obtain ⟨m',ds',e,y,_⟩:=s;cases e;exact y.1
  | bor l=>obtain ⟨m',ds',e,y,_⟩:=s;cases e;exact y.1
theorem bI.write (f:bI M B h S fr aq) {i n:Nat}{s:Sl}{l':List V}{ds':List D}(e:fr[i]?=some (some s)) (hM:gQ (some s)=true) (e':aq[i]?=some (some (.ref n))) (q:aC h S l' ds') :
  bI M B (h.set n (.lst ds')) S (fr.set i (some (s.with l'))) aq:=by
 have mn:=f.mM e hM e'
 have kp:∀ m,S m→(h.set n (.lst ds'))[m]?=h[m]?:=fun m z=>kH fun y=>(f.wS m z).2.1 (y▸mn)
 have il:=(List.getElem?_eq_some_iff.mp e).1
 refine ⟨fun m y=>by simpa using f.wS m y,fun m y=>by simpa using f.wM m y,fun m y=>by simpa using f.wB m y,by simp [f.len],fun j o p y1 y2=>?_,fun j k o o' m y1 y2 y3 y4 y5 y6=>?_⟩
 ·by_cases hj:i=j
  ·subst hj
   rw [List.getElem?_set_self il] at y1
   cases y1
   rw [e'] at y2;cases y2
   have old:=f.sl i _ _ e e'
   have hn:(h.set n (.lst ds'))[n]?=some (.lst ds'):=List.getElem?_set_self (f.wM n mn)
   cases s with
   | val v=>cases hM
   | ro l=>cases hM
   | own l=>obtain ⟨m',_,e,y,_⟩:=old;cases e;exact ⟨n,ds',rfl,y,hn,q.mono kp fun _ z=>z⟩
   | bor l=>obtain ⟨m',_,e,y,_⟩:=old;cases e;exact ⟨n,ds',rfl,y,hn,q.mono kp fun _ z=>z⟩
  ·rw [List.getElem?_set_ne hj] at y1
   have old:=f.sl j o p y1 y2
   rcases o with _ | s'
   ·exact old
   ·cases s' with
    | val u=>obtain ⟨d,e,q⟩:=old;exact ⟨d,e,q.mono kp fun _ z=>z⟩
    | own u=>
     obtain ⟨m,es,rfl,w1,w2,w3⟩:=old
     refine ⟨m,es,rfl,w1,?_,w3.mono kp fun _ z=>z⟩
     rw [kH fun (z:n=m)=>hj (f.inj i j _ _ n e y1 hM rfl e' (by rw [z];exact y2))];exact w2
    | bor u=>
     obtain ⟨m,es,rfl,w1,w2,w3⟩:=old
     refine ⟨m,es,rfl,w1,?_,w3.mono kp fun _ z=>z⟩
     rw [kH fun (z:n=m)=>hj (f.inj i j _ _ n e y1 hM rfl e' (by rw [z];exact y2))];exact w2
    | ro u=>
     obtain ⟨m,es,rfl,w1,w2,w3⟩:=old
     refine ⟨m,es,rfl,w1,?_,w3.mono kp fun _ z=>z⟩
     rw [kH fun (z:n=m)=>w1 (z▸mn)];exact w2
 ·have kind:∀ (j:Nat) o,(fr.set i (some (s.with l')))[j]?=some o→gQ o=true→∃ o0,fr[j]?=some o0∧gQ o0=true:=fun j o w1 w2=>by
   by_cases hj:i=j
   ·subst hj;exact ⟨_,e,hM⟩
   ·rw [List.getElem?_set_ne hj] at w1;exact ⟨o,w1,w2⟩
  obtain ⟨oi,k1,k2⟩:=kind j o y1 y3
  obtain ⟨oj,k3,k4⟩:=kind k o' y2 y4
  exact f.inj j k oi oj m k1 k3 k2 k4 y5 y6
theorem Kd {m:ME}{l l':List V}{xs:List V}{n:Nat}{ds es:List D}(z:jY m l xs=some (v,l')) (e:h[n]?=some (.lst ds)) (q:aC h S l ds) (p:fy h S xs es) (p':Ak m=false→aC h S xs es) (hS:∀ k,S k→k≠n) :
  ∃ r ds',Ev.fc m (.ref n) es h=.ok r (h.set n (.lst ds'))∧Rep h S v r∧aC h S l' ds':=by
 unfold jY at z
 split at z
 ·have p':=p' rfl
  split at z
  ·rename_i k
   cases z
   simp only [aC] at p'
   obtain ⟨d,_,rfl,p1,rfl⟩:=p'
   refine ⟨_,_,?_,rfl,q.append (.cons p1 .nil)⟩
   delta Ev.fc;dsimp only;simp only [e]
   rw [if_pos (by rw [←q.length];exact k)]
  ·cases z
 ·split at z
  ·rename_i k
   cases z
   obtain ⟨d,rfl,p1⟩:=p.one
   simp only [bx] at p1
   obtain ⟨n2,cs,rfl,e2,p1⟩:=p1
   refine ⟨_,_,?_,rfl,q.append p1⟩
   delta Ev.fc;dsimp only;simp only [e,e2]
   rw [if_pos (by rw [←q.length,←p1.length];exact k)]
  ·cases z
 ·simp only [fy] at p
  subst p
  split at z
  ·rename_i x y
   cases z
   obtain ⟨d,k1,k2⟩:=q.get y
   refine ⟨d,_,?_,k2,q.dropLast⟩
   delta Ev.fc;dsimp only;simp only [e]
   rw [←q.length,k1]
  ·cases z
 ·cases z
theorem bI.set (f:bI M B h S fr aq) {i:Nat}(e:put fr i (.val v)=some af) (q:Rep h S v d):bI M B h S af (aq.set i (some d))∧(∀ j,locked af j=locked fr j)∧∀ j,locked fr j=true→(aq.set i (some d))[j]?=aq[j]?:=by
 have hx:af=fr.set i (some (.val v))∧locked fr i=false:=by
  unfold put at e
  unfold locked
  split at e
  ·cases e
  ·cases e
  ·rename_i k1 k2
   cases e
   refine ⟨rfl,?_⟩
   cases z:fr[i]? with
   | none=>rfl
   | some o=>
    rcases o with _ | s
    ·rfl
    ·cases s with
     | bor l=>exact absurd z (k1 l)
     | ro l=>exact absurd z (k2 l)
     | _=>rfl
 obtain ⟨rfl,hk⟩:=hx
 have lk:∀ j,locked (fr.set i (some (.val v))) j=locked fr j:=fun j=>by
  by_cases hj:i=j
  ·subst hj
   rw [hk]
   unfold locked
   by_cases hl:i<fr.length
   ·rw [List.getElem?_set_self hl];rfl
   ·rw [List.getElem?_eq_none (by simpa using hl)]
  ·unfold locked;rw [List.getElem?_set_ne hj]
 refine ⟨⟨f.wS,f.wM,f.wB,by simp [f.len],fun j o p y1 y2=>?_,fun j k o o' m y1 y2 y3 y4 y5 y6=>?_⟩,lk,fun j hj=>?_⟩
 ·by_cases hj:i=j
  ·subst hj
   have hl:i<fr.length:=by have:=(List.getElem?_eq_some_iff.mp y1).1;simpa using this
   rw [List.getElem?_set_self hl] at y1
   rw [List.getElem?_set_self (by rw [←f.len];exact hl)] at y2
   cases y1;cases y2
   exact ⟨d,rfl,q⟩
  ·rw [List.getElem?_set_ne hj] at y1 y2
   exact f.sl j o p y1 y2
 ·have hn:∀ (j:Nat) o,(fr.set i (some (.val v)))[j]?=some o→gQ o=true→i≠j:=fun j o w1 w2 w3=>by
   subst w3
   have hl:i<fr.length:=by have:=(List.getElem?_eq_some_iff.mp w1).1;simpa using this
   rw [List.getElem?_set_self hl] at w1
   cases w1;cases w2
  have n1:=hn j o y1 y3
  have n2:=hn k o' y2 y4
  rw [List.getElem?_set_ne n1] at y1 y5
  rw [List.getElem?_set_ne n2] at y2 y6
  exact f.inj j k o o' m y1 y2 y3 y4 y5 y6
 ·have:i≠j:=fun z=>by subst z;rw [hk] at hj;cases hj
  rw [List.getElem?_set_ne this]
theorem bI.cP:∀ {is:List Nat}{vs:List V}{ds:List D}{fr af:Fr}{aq:Ev.Fr},bI M B h S fr aq→cP is vs fr=some af→aC h S vs ds→∃ bN,Ev.cP is ds aq=some bN∧bI M B h S af bN∧(∀ j,locked af j=locked fr j)∧∀ j,locked fr j=true→bN[j]?=aq[j]?
 | [],[],ds,fr,af,aq,f,e,q=>by
  simp [Pv.cP] at e;simp only [aC] at q;subst e q
  exact ⟨aq,rfl,f,fun _=>rfl,fun _ _=>rfl⟩
 | [],_ :: _,_,_,_,_,_,e,_=>by simp [Pv.cP] at e
 | _ :: _,[],_,_,_,_,_,e,_=>by simp [Pv.cP] at e
 | i :: is,v :: vs,ds,fr,af,aq,f,e,q=>by
  simp only [Pv.cP,Option.bind_eq_some_iff] at e
  obtain ⟨aB,e1,e2⟩:=e
  simp only [aC] at q
  obtain ⟨d,es,rfl,q1,q2⟩:=q
  obtain ⟨f2,l2,r2⟩:=f.set e1 q1
  obtain ⟨bN,a,f3,l3,r3⟩:=f2.cP e2 q2
  exact ⟨bN,a,f3,fun j=>(l3 j).trans (l2 j),fun j hj=>(r3 j (by rw [l2 j];exact hj)).trans (r2 j hj)⟩
theorem bI.cB (f:bI M B h S fr aq) {t:T}(e:cB t v fr=some af) (q:Rep h S v d):∃ bN,Ev.cB t d aq=some bN∧bI M B h S af bN∧(∀ j,locked af j=locked fr j)∧∀ j,locked fr j=true→bN[j]?=aq[j]?:=by
 cases t with
 | one i=>exact ⟨_,rfl,f.set e q⟩
 | many l=>
  cases v <;> simp only [Pv.cB,reduceCtorEq] at e
  simp only [Rep] at q
  obtain ⟨ds,rfl,q⟩:=q
  exact f.cP e q
theorem bI.undef (f:bI M B h S fr aq) {t:T}(e:undef t fr=true):Ev.undef t aq=true:=by
 unfold Pv.undef at e
 unfold Ev.undef
 rw [List.all_eq_true] at e ⊢
 intro i hi
 have:=e i hi
 cases z:fr[i]? with
 | none=>
  have:aq[i]?=none:=by
   rw [List.getElem?_eq_none_iff] at z ⊢
   rw [←f.len];exact z
  rw [this];rfl
 | some o=>
  obtain ⟨p,e1,q⟩:=f.get z
  rw [z] at this
  rcases o with _ | s
  ·simp only [ku] at q;subst q;rw [e1];rfl
  ·simp at this
theorem wD {i:Nat}{o:Option Sl}(e:(nQ fr)[i]?=some o):∃ o0,fr[i]?=some o0∧o=o0.map Sl.read:=by
 unfold nQ at e
 rw [List.getElem?_map] at e
 cases z:fr[i]? with
 | none=>rw [z] at e;cases e
 | some o0=>rw [z] at e;cases e;exact ⟨o0,rfl,rfl⟩
theorem bI.ro (f:bI M B h S fr aq):bI (fun _=>False) B h S (nQ fr) aq:=by
 refine ⟨fun m y=>⟨(f.wS m y).1,id,(f.wS m y).2.2⟩,fun m y=>y.elim,f.wB,by simp [nQ,f.len],fun i o p y1 y2=>?_,fun i j o o' m y1 y2 y3 y4 y5 y6=>?_⟩
 ·obtain ⟨o0,z,rfl⟩:=wD y1
  have q:=f.sl i o0 p z y2
  rcases o0 with _ | s
  ·exact q
  ·cases s with
   | val v=>exact q
   | own l=>obtain ⟨m,ds,a,b,c,d⟩:=q;exact ⟨m,ds,a,id,c,d⟩
   | bor l=>obtain ⟨m,ds,a,b,c,d⟩:=q;exact ⟨m,ds,a,id,c,d⟩
   | ro l=>obtain ⟨m,ds,a,b,c,d⟩:=q;exact ⟨m,ds,a,id,c,d⟩
 ·obtain ⟨o0,z,rfl⟩:=wD y1
  rcases o0 with _ | s
  ·cases y3
  ·cases s <;> cases y3
theorem jK:∀ {ck:List (Nat×List D)},(∀ q∈ck,bw h q.1=some q.2)→Ev.stays h ck=true
 | [],_=>rfl
 | (n,ds) :: r,q=>by
  simp only [Ev.stays,Bool.and_eq_true]
  refine ⟨?_,jK fun x hx=>q x (List.mem_cons_of_mem _ hx)⟩
  rw [q (n,ds) (List.mem_cons_self ..)]
  exact Ev.xT _
theorem ly {n:Nat}{ds:List D}(q:bw h n=some ds) (k:h'[n]?=h[n]?):bw h' n=some ds:=by
 unfold bw at q ⊢;rw [k];exact q
theorem pC {n:Nat}{ds:List D}(q:bw h n=some ds):n<h.length:=by
 unfold bw at q
 cases z:h[n]? with
 | none=>rw [z] at q;cases q
 | some o=>exact (List.getElem?_eq_some_iff.mp z).1
noncomputable def CA (h:Hh) (S:Nat→Prop):Option V→Option D→Prop
 | none,o=>o=none
 | some v,o=>∃ d,o=some d∧Rep h S v d
theorem wF {f:V→Option (Option V)}{f':D→Hh→Ev.R (Option D)}{ck:List (Nat×List D)}{h0:Hh}{S0:Nat→Prop}(w0:∀ m,S0 m→m<h0.length) (st:∀ q∈ck,bw h0 q.1=some q.2)
  (turn:∀ v o d h S,Al h0 S0 h S→f v=some o→Rep h S v d→∃ o' h' S',f' d h=.ok o' h'∧CA h' S' o o'∧Al h S h' S') :
  ∀ {vs:List V} {ds:List D} {rs:List V} {h:Hh} {S:Nat→Prop},Al h0 S0 h S→cT f vs=some rs→aC h S vs ds→∃ rs' h' S',Ev.cT f' ck ds h=.ok rs' h'∧aC h' S' rs rs'∧Al h S h' S'
 | [],ds,rs,h,S,a,e,q=>by
  simp [cT] at e;simp only [aC] at q;subst e q
  refine ⟨[],h,S,?_,.nil,.refl⟩
  simp only [Ev.cT]
  rw [if_pos (jK fun x hx=>ly (st x hx) (a.keep _ (pC (st x hx))))]
 | v :: vs,ds,rs,h,S,a,e,q=>by
  simp only [cT,Option.bind_eq_some_iff] at e
  obtain ⟨o,e1,r,e2,e3⟩:=e
  cases e3
  simp only [aC] at q
  obtain ⟨d,es,rfl,q1,q2⟩:=q
  have w:∀ m,S m→m<h.length:=fun m z=>by
   rcases a.new m z with z | z
   ·exact Nat.lt_of_lt_of_le (w0 m z) a.len
   ·exact z.2
  obtain ⟨o',h1,S1,t1,t2,t3⟩:=turn v o d h S a e1 q1
  obtain ⟨rs',h2,S2,u1,u2,u3⟩:=wF w0 st turn (a.trans t3) e2 (q2.mono (fun m z=>t3.keep m (w m z)) t3.sub)
  have w1:∀ m,S1 m→m<h1.length:=fun m z=>by
   rcases t3.new m z with z | z
   ·exact Nat.lt_of_lt_of_le (w m z) t3.len
   ·exact z.2
  refine ⟨o'.toList++rs',h2,S2,?_,?_,t3.trans u3⟩
  ·simp only [Ev.cT]
   rw [if_pos (jK fun x hx=>ly (st x hx) (a.keep _ (pC (st x hx)))),t1,Ev.ay,u1,Ev.ay]
  ·cases o with
   | none=>simp only [CA] at t2;subst t2;simpa using u2
   | some v'=>
    simp only [CA] at t2
    obtain ⟨d',rfl,t2⟩:=t2
    exact .cons (t2.mono (fun m z=>u3.keep m (w1 m z)) u3.sub) u2
end
noncomputable def jm (k:Bool) (h:Hh) (S:Nat→Prop) (v:List V) (d:List D):Prop:=if k=true then fy h S v d else aC h S v d
inductive Ke (P':Ev.aU) (e:E) (k:Bool) (v:V) (M B:Nat→Prop) (h:Hh) (S:Nat→Prop) (fr:Fr) (aq:Ev.Fr) (af:Fr):Prop
 | mk (d:D) (h':Hh) (S':Nat→Prop) (c0:Ev.ev P' e aq h=.ok d h') (c1:fz k h' S' v d) (c2:Out M B (bM e) h S fr aq h' S' af):Ke P' e k v M B h S fr aq af
inductive Kf (P':Ev.aU) (e:E) (b:Bool) (M B:Nat→Prop) (h:Hh) (S:Nat→Prop) (fr:Fr) (aq:Ev.Fr) (af:Fr):Prop
 | mk (h':Hh) (S':Nat→Prop) (c0:Ev.aK P' e aq h=.ok b h') (c1:Out M B (bM e) h S fr aq h' S' af):Kf P' e b M B h S fr aq af
inductive Kg (P':Ev.aU) (e:Es) (k:Bool) (v:List V) (M B:Nat→Prop) (h:Hh) (S:Nat→Prop) (fr:Fr) (aq:Ev.Fr) (af:Fr):Prop
 | mk (d:List D) (h':Hh) (S':Nat→Prop) (c0:Ev.cj P' e aq h=.ok d h') (c1:jm k h' S' v d) (c2:Out M B (fV e) h S fr aq h' S' af):Kg P' e k v M B h S fr aq af
inductive Kh (P':Ev.aU) (e:Es) (v:List (Nat ⊕ V)) (M B:Nat→Prop) (h:Hh) (S:Nat→Prop) (fr:Fr) (aq:Ev.Fr) (af:Fr):Prop
 | mk (d:List D) (h':Hh) (S':Nat→Prop) (c0:Ev.cj P' e aq h=.ok d h') (c1:uf h' S' aq v d) (c2:Out M B (fV e) h S fr aq h' S' af):Kh P' e v M B h S fr aq af
inductive Kl (P':Ev.aU) (e:Eo) (v:Option Int) (M B:Nat→Prop) (h:Hh) (S:Nat→Prop) (fr:Fr) (aq:Ev.Fr) (af:Fr):Prop
 | mk (h':Hh) (S':Nat→Prop) (c0:Ev.fN P' e aq h=.ok v h') (c1:Out M B (kh e) h S fr aq h' S' af):Kl P' e v M B h S fr aq af
inductive Km (P':Ev.aU) (e:Eo) (v:Bool) (M B:Nat→Prop) (h:Hh) (S:Nat→Prop) (fr:Fr) (aq:Ev.Fr) (af:Fr):Prop
 | mk (h':Hh) (S':Nat→Prop) (c0:Ev.gZ P' e aq h=.ok v h') (c1:Out M B (kh e) h S fr aq h' S' af):Km P' e v M B h S fr aq af
inductive Kn (P':Ev.aU) (e:It) (k:Bool) (v:List V) (M B:Nat→Prop) (h:Hh) (S:Nat→Prop) (fr:Fr) (aq:Ev.Fr) (af:Fr):Prop
 | mk (s:Ev.Src) (h':Hh) (S':Nat→Prop) (c0:Ev.cM P' e aq h=.ok s h') (c1:aC h' S' v s.1) (c2:∀ q∈s.2,bw h' q.1=some q.2∧(k=false→¬ M q.1)) (c3:Out M B (Ct e) h S fr aq h' S' af):Kn P' e k v M B h S fr aq af
section
variable (P:aU)(P':Ev.aU)
noncomputable def bB (e:E):Prop:=∀ {k:Bool} {fr:Fr} {v:V} {af:Fr} {M B:Nat→Prop} {h:Hh} {S:Nat→Prop} {aq:Ev.Fr},ev P k e fr=.ok v af→bI M B h S fr aq→Ke P' e k v M B h S fr aq af
noncomputable def gG (e:E):Prop:=∀ {fr:Fr} {b:Bool} {af:Fr} {M B:Nat→Prop} {h:Hh} {S:Nat→Prop} {aq:Ev.Fr},aK P e fr=.ok b af→bI M B h S fr aq→Kf P' e b M B h S fr aq af
noncomputable def jn (e:Es):Prop:=∀ {k:Bool} {fr:Fr} {v:List V} {af:Fr} {M B:Nat→Prop} {h:Hh} {S:Nat→Prop} {aq:Ev.Fr},cj P k e fr=.ok v af→bI M B h S fr aq→Kg P' e k v M B h S fr aq af
noncomputable def pD (e:Es):Prop:=∀ {fr:Fr} {v:List (Nat ⊕ V)} {af:Fr} {M B:Nat→Prop} {h:Hh} {S:Nat→Prop} {aq:Ev.Fr},fP P e fr=.ok v af→bI M B h S fr aq→Kh P' e v M B h S fr aq af
noncomputable def pF (e:Eo):Prop:=∀ {fr:Fr} {v:Option Int} {af:Fr} {M B:Nat→Prop} {h:Hh} {S:Nat→Prop} {aq:Ev.Fr},fN P e fr=.ok v af→bI M B h S fr aq→Kl P' e v M B h S fr aq af
noncomputable def sA (e:Eo):Prop:=∀ {fr:Fr} {v:Bool} {af:Fr} {M B:Nat→Prop} {h:Hh} {S:Nat→Prop} {aq:Ev.Fr},gZ P e fr=.ok v af→bI M B h S fr aq→Km P' e v M B h S fr aq af
noncomputable def jZ (e:It):Prop:=∀ {k:Bool} {fr:Fr} {v:List V} {af:Fr} {M B:Nat→Prop} {h:Hh} {S:Nat→Prop} {aq:Ev.Fr},cM P k e fr=.ok v af→bI M B h S fr aq→Kn P' e k v M B h S fr aq af
end
section
variable {P:aU}{P':Ev.aU}{a b e tt:E}{es:Es}{lo hi:Eo}{it:It}
theorem Ko {d:D}:bB P P' (.c d):=fun z f=>by
 simp only [ev] at z
 replace z:=aM z;obtain ⟨z,y0⟩:=z;subst y0
 exact ⟨d,_,_,by simp only [Ev.ev],.of (mJ z),.refl f⟩
theorem Kp {i:Nat}:bB P P' (.v i):=fun z f=>by
 simp only [ev] at z
 replace z:=aM z;obtain ⟨z,y0⟩:=z;subst y0
 obtain ⟨d,e1,q⟩:=GW z f
 exact ⟨d,_,_,by simp only [Ev.ev,e1,Ev.d8],q,.refl f⟩
theorem jm.n {h:Hh}{S:Nat→Prop}{v:List V}{d:List D}(q:jm false h S v d):aC h S v d:=by simpa [jm] using q
theorem aC.tl {h:Hh}{S:Nat→Prop}:∀ {v:List V}{d:List D},aC h S v d→fy h S v d
 | [],_,q=>q
 | _ :: _,_,⟨d,es,a,b,q⟩=>⟨d,es,a,b.top,q.tl⟩
theorem jm.t {k:Bool}{h:Hh}{S:Nat→Prop}{v:List V}{d:List D}(q:jm k h S v d):fy h S v d:=by
 unfold jm at q
 split at q
 ·exact q
 ·exact q.tl
theorem Ar (is:jn P P' es):bB P P' (.tup es):=fun z f=>by
 simp only [ev] at z
 obtain ⟨ds,aB,z1,z2⟩:=aj z
 replace z2:=aM z2;obtain ⟨z2,y0⟩:=z2;subst y0
 obtain ⟨ds',h',S',e1,q,o⟩:=is z1 f
 unfold jI at z2
 split at z2
 ·rename_i hk
  cases z2
  refine ⟨.tup ds',h',S',?_,.of ⟨ds',rfl,q.n⟩,o⟩
  simp only [Ev.ev,e1,Ev.ay]
  rw [if_pos (by rw [←q.n.length];exact hk)]
 ·cases z2
theorem As (is:jn P P' es):bB P P' (.lst es):=fun z f=>by
 simp only [ev] at z
 obtain ⟨ds,aB,z1,z2⟩:=aj z
 replace z2:=aM z2;obtain ⟨z2,y0⟩:=z2;subst y0
 obtain ⟨ds',h',S',e1,q,o⟩:=is z1 f
 obtain ⟨r,h2,S2,a1,a2,a3⟩:=iC o.f.w z2 q.n
 exact ⟨r,h2,S2,by simp only [Ev.ev,e1,Ev.ay,a1],.of a2,o.al a3⟩
theorem pG {a:E}{aq:Ev.Fr}{h h1:Hh}{d:D}(e:Ev.ev P' a aq h=.ok d h1):∀ i,a=.v i→aq[i]?.join=some d:=fun i hi=>by
 subst hi
 simp only [Ev.ev] at e
 exact (Ev.aM e).1
theorem two (ia:bB P P' a)(ib:bB P P' b){α:Type}{X:V→V→Fr→R α}{u:α}{fr bO:Fr}{M B:Nat→Prop}{h:Hh}{S:Nat→Prop}{aq:Ev.Fr}
  (z:((ev P (kf a (bM b)) a fr).bind fun x af=>(ev P true b af).bind fun y aB=>X x y aB)=.ok u bO) (f:bI M B h S fr aq) :
  ∃ x y d e h2 S2 aB,(∀ {β:Type} (g:D→D→Hh→Ev.R β),((Ev.ev P' a aq h).bind fun x h1=>(Ev.ev P' b aq h1).bind fun y h2=>g x y h2)=g d e h2)∧X x y aB=.ok u bO∧bx h2 S2 x d∧bx h2 S2 y e∧Out M B (bM a++bM b) h S fr aq h2 S2 aB:=by
 replace z:=aj z;obtain ⟨x,af,z1,z⟩:=z
 replace z:=aj z;obtain ⟨y,aB,z2,z⟩:=z
 obtain ⟨d,h1,S1,e1,q1,o1⟩:=ia z1 f
 obtain ⟨e,h2,S2,e2,q2,o2⟩:=ib z2 o1.f
 exact ⟨x,y,d,e,h2,S2,aB,fun g=>by rw [e1,Ev.ay,e2,Ev.ay],z,(q1.tr o1.f o2.tr id (pG e1)).t,q2.t,o1.trans o2⟩
theorem Au {o:cF}(ia:bB P P' a) (ib:bB P P' b):bB P P' (.bin o a b):=fun z f=>by
 simp only [ev] at z
 replace z:=two ia ib z f;obtain ⟨x,y,d,e,h2,S2,aB,k,z,q1,q2,ou⟩:=z
 replace z:=aM z;obtain ⟨z,y0⟩:=z;subst y0
 obtain ⟨r,h3,S3,a1,a2,a3⟩:=J3 ou.f.w z q1 q2
 exact ⟨r,h3,S3,by simp only [Ev.ev];rw [k];exact a1,.of a2,ou.al a3⟩
theorem Av {o:bY}(ia:bB P P' a) (ib:bB P P' b):bB P P' (.cmp o a b):=fun z f=>by
 simp only [ev] at z
 replace z:=two ia ib z f;obtain ⟨x,y,d,e,h2,S2,aB,k,z,q1,q2,ou⟩:=z
 replace z:=aM z;obtain ⟨z,y0⟩:=z;subst y0
 simp only [Option.map_eq_some_iff] at z
 obtain ⟨b,z,rfl⟩:=z
 exact ⟨.bl b,h2,S2,by simp only [Ev.ev];rw [k,J4 z q1.u q2.u];rfl,.of rfl,ou⟩
theorem EH (ia:bB P P' a) (ib:bB P P' b):bB P P' (.ix a b):=fun z f=>by
 simp only [ev] at z
 replace z:=two ia ib z f;obtain ⟨x,y,d,e,h2,S2,aB,k,z,q1,q2,ou⟩:=z
 replace z:=aM z;obtain ⟨z,y0⟩:=z;subst y0
 obtain ⟨r,a1,a2⟩:=J5 z q1 q2
 exact ⟨r,h2,S2,by simp only [Ev.ev];rw [k,a1];rfl,.of a2,ou⟩
theorem Ol (ia:bB P P' a):bB P P' (.nt a):=fun z f=>by
 simp only [ev] at z
 replace z:=aj z;obtain ⟨x,af,z1,z⟩:=z
 obtain ⟨d,h1,S1,e1,q1,o1⟩:=ia z1 f
 cases x <;> simp only [reduceCtorEq] at z
 cases z
 have q:=q1.t
 simp only [bx,Rep] at q
 subst q
 exact ⟨_,h1,S1,by simp only [Ev.ev,e1,Ev.ay],.of rfl,o1⟩
theorem Aw (ia:bB P P' a):bB P P' (.neg a):=fun z f=>by
 simp only [ev] at z
 replace z:=aj z;obtain ⟨x,af,z1,z⟩:=z
 obtain ⟨d,h1,S1,e1,q1,o1⟩:=ia z1 f
 cases x <;> simp only [reduceCtorEq] at z
 cases z
 have q:=q1.t
 simp only [bx,Rep] at q
 subst q
 exact ⟨_,h1,S1,by simp only [Ev.ev,e1,Ev.ay],.of rfl,o1⟩
theorem Om (ia:bB P P' a) (ib:bB P P' b):bB P P' (.an a b):=fun z f=>by
 simp only [ev] at z
 replace z:=aj z;obtain ⟨x,af,z1,z⟩:=z
 obtain ⟨d,h1,S1,e1,q1,o1⟩:=ia z1 f
 cases x <;> try (cases z;done)
 rename_i k
 have q:=q1.t
 simp only [bx,Rep] at q
 subst q
 cases k with
 | true=>
  try simp only at z
  obtain ⟨d,h2,S2,e2,q2,o2⟩:=ib z o1.f
  exact ⟨d,h2,S2,by simp only [Ev.ev,e1,Ev.ay,e2],q2,o1.trans o2⟩
 | false=>
  try simp only at z
  cases z
  exact ⟨_,h1,S1,by simp only [Ev.ev,e1,Ev.ay],.of rfl,o1.weak (by simp only [bM];intro i hi;simp [hi])⟩
theorem Kq (ia:bB P P' a) (ib:bB P P' b):bB P P' (.orr a b):=fun z f=>by
 simp only [ev] at z
 replace z:=aj z;obtain ⟨x,af,z1,z⟩:=z
 obtain ⟨d,h1,S1,e1,q1,o1⟩:=ia z1 f
 cases x <;> try (cases z;done)
 rename_i k
 have q:=q1.t
 simp only [bx,Rep] at q
 subst q
 cases k with
 | false=>
  try simp only at z
  obtain ⟨d,h2,S2,e2,q2,o2⟩:=ib z o1.f
  exact ⟨d,h2,S2,by simp only [Ev.ev,e1,Ev.ay,e2],q2,o1.trans o2⟩
 | true=>
  try simp only at z
  cases z
  exact ⟨_,h1,S1,by simp only [Ev.ev,e1,Ev.ay],.of rfl,o1.weak (by simp only [bM];intro i hi;simp [hi])⟩
theorem Ax (it:gG P P' tt) (ia:bB P P' a) (ib:bB P P' b):bB P P' (.kB tt a b):=fun z f=>by
 simp only [ev] at z
 replace z:=aj z;obtain ⟨k,af,z1,z⟩:=z
 obtain ⟨h1,S1,e1,o1⟩:=it z1 f
 cases k with
 | true=>
  simp only [if_true] at z
  obtain ⟨d,h2,S2,e2,q2,o2⟩:=ia z o1.f
  exact ⟨d,h2,S2,by simp only [Ev.ev,e1,Ev.ay,if_true,e2],q2,(o1.trans o2).weak (by simp only [bM];intro i hi;simp at hi ⊢;rcases hi with hi | hi <;> simp [hi])⟩
 | false=>
  simp only [Bool.false_eq_true,if_false] at z
  obtain ⟨d,h2,S2,e2,q2,o2⟩:=ib z o1.f
  exact ⟨d,h2,S2,by simp only [Ev.ev,e1,Ev.ay];rw [if_neg (by decide)];exact e2,q2,(o1.trans o2).weak (by simp only [bM];intro i hi;simp at hi ⊢;rcases hi with hi | hi <;> simp [hi])⟩
theorem EI (ia:bB P P' a) (il:pF P P' lo) (ih:pF P P' hi):bB P P' (.sl a lo hi):=fun z f=>by
 simp only [ev] at z
 replace z:=aj z;obtain ⟨x,af,z1,z⟩:=z
 replace z:=aj z;obtain ⟨l,aB,z2,z⟩:=z
 replace z:=aj z;obtain ⟨u,cN,z3,z⟩:=z
 replace z:=aM z;obtain ⟨z,y0⟩:=z;subst y0
 obtain ⟨d,h1,S1,e1,q1,o1⟩:=ia z1 f
 obtain ⟨h2,S2,e2,o2⟩:=il z2 o1.f
 obtain ⟨h3,S3,e3,o3⟩:=ih z3 o2.f
 have q:=(q1.tr o1.f (o2.trans o3).tr id (pG e1)).t
 obtain ⟨r,h4,S4,a1,a2,a3⟩:=J6 o3.f.w z q
 exact ⟨r,h4,S4,by simp only [Ev.ev,e1,Ev.ay,e2,e3,a1],.of a2,(o1.trans (o2.trans o3)).al a3⟩
theorem EJ (ia:bB P P' a):bB P P' (.rv a):=fun z f=>by
 simp only [ev] at z
 replace z:=aj z;obtain ⟨x,af,z1,z⟩:=z
 replace z:=aM z;obtain ⟨z,y0⟩:=z;subst y0
 obtain ⟨d,h1,S1,e1,q1,o1⟩:=ia z1 f
 obtain ⟨r,h4,S4,a1,a2,a3⟩:=J7 o1.f.w z q1.t
 exact ⟨r,h4,S4,by simp only [Ev.ev,e1,Ev.ay,a1],.of a2,o1.al a3⟩
theorem mQ:∀ {es:Es}{fr af:Fr}{as:List (Nat ⊕ V)},fP P es fr=.ok as af→∀ i∈bP as,i∈jB es
 | .nil,_,_,_,z=>by simp only [fP] at z;cases z;simp [bP]
 | .cons e es,fr,af,as,z=>by
  simp only [fP] at z
  cases y:kG fr e with
  | some i=>
   rw [y] at z
   simp only at z
   replace z:=aj z;obtain ⟨xs,cN,z2,z⟩:=z
   cases z
   have hy:e=.v i:=by
    cases e <;> simp only [kG,reduceCtorEq] at y
    split at y
    ·cases y;rfl
    ·cases y
   subst hy
   intro j hj
   simp only [bP,List.mem_cons] at hj
   simp only [jB,List.mem_cons]
   exact hj.imp id fun hj=>mQ z2 j hj
  | none=>
   rw [y] at z
   simp only at z
   replace z:=aj z;obtain ⟨x,aB,z1,z⟩:=z
   replace z:=aj z;obtain ⟨xs,cN,z2,z⟩:=z
   cases z
   intro j hj
   simp only [bP] at hj
   have:=mQ z2 j hj
   cases e <;> simp only [jB] <;> first | exact this | exact List.mem_cons_of_mem _ this
theorem EK (HP:pq P P') {g:Nat}(is:pD P P' es):bB P P' (.cl g es):=fun z f=>by
 simp only [ev] at z
 replace z:=aj z;obtain ⟨as,af,z1,z⟩:=z
 obtain ⟨ds,h1,S1,e1,q1,o1⟩:=is z1 f
 obtain ⟨d,h2,S2,e2,q2,o2⟩:=Cz HP z o1.f q1
 exact ⟨d,h2,S2,by simp only [Ev.ev,e1,Ev.ay,e2],.of q2,(o1.trans o2).weak (by
  simp only [bM]
  intro i hi
  rcases List.mem_append.mp hi with hi | hi
  ·exact List.mem_append.mpr (.inl hi)
  ·exact List.mem_append.mpr (.inr (mQ z1 i hi)))⟩
theorem EL {g:BI}(is:jn P P' es):bB P P' (.bi g es):=fun z f=>by
 simp only [ev] at z
 replace z:=aj z;obtain ⟨as,af,z1,z⟩:=z
 replace z:=aM z;obtain ⟨z,y0⟩:=z;subst y0
 obtain ⟨ds,h1,S1,e1,q1,o1⟩:=is z1 f
 obtain ⟨r,h4,S4,a1,a2,a3⟩:=J9 o1.f.w z q1.t
 exact ⟨r,h4,S4,by simp only [Ev.ev,e1,Ev.ay,a1],.of a2,o1.al a3⟩
theorem Ay {ts:List TY}(ia:bB P P' a):bB P P' (.mq a ts):=fun z f=>by
 simp only [ev] at z
 replace z:=aj z;obtain ⟨x,af,z1,z⟩:=z
 cases z
 obtain ⟨d,h1,S1,e1,q1,o1⟩:=ia z1 f
 have:Ev.dw h1 d=dw x:=funext fun t=>GU q1.t t
 refine ⟨.bl (ts.any (Ev.dw h1 d)),h1,S1,by simp only [Ev.ev,e1,Ev.ay],.of ?_,o1⟩
 rw [this];rfl
theorem wG {kvs:List (D×D)}(ia:bB P P' a):bB P P' (.jE kvs a):=fun z f=>by
 simp only [ev] at z
 replace z:=aj z;obtain ⟨x,af,z1,z⟩:=z
 replace z:=aM z;obtain ⟨z,y0⟩:=z;subst y0
 obtain ⟨d,h1,S1,e1,q1,o1⟩:=ia z1 f
 obtain ⟨r,a1,a2⟩:=Cv (S:=S1) q1.t.u z
 exact ⟨r,h1,S1,by simp only [Ev.ev,e1,Ev.ay,a1,Ev.d8],.of a2,o1⟩
theorem Az (ia:bB P P' a):bB P P' (.jF a):=fun z f=>by
 simp only [ev] at z
 replace z:=aj z;obtain ⟨x,af,z1,z⟩:=z
 replace z:=aM z;obtain ⟨z,y0⟩:=z;subst y0
 obtain ⟨d,h1,S1,e1,q1,o1⟩:=ia z1 f
 obtain ⟨r,a1,a2⟩:=J8 z q1.t
 exact ⟨r,h1,S1,by simp only [Ev.ev,e1,Ev.ay,a1],.of a2,o1⟩
theorem EM {m:ME}{o:E}(io:bB P P' o) (is:jn P P' es):bB P P' (.me m o es):=fun {k fr v af M B h S aq} z f=>by
 simp only [ev] at z
 by_cases hm:iT m=true
 ·rw [if_pos hm] at z
  cases y:kG fr o with
  | none=>rw [y] at z;cases z
  | some i=>
  rw [y] at z
  try simp only at z
  replace z:=aj z;obtain ⟨as,aB,z1,z⟩:=z
  have hy:o=.v i∧∃ s,lent fr i=some s:=by
   cases o <;> simp only [kG,reduceCtorEq] at y
   rename_i j
   split at y
   ·rename_i hs
    cases y
    exact ⟨rfl,Option.isSome_iff_exists.mp hs⟩
   ·cases y
  obtain ⟨rfl,s,hs⟩:=hy
  obtain ⟨n,cs,_,_,_,w2,w3,_,_⟩:=jx hs f
  obtain ⟨ds,h1,S1,e1,q1,o1⟩:=is z1 f
  have hr:Ev.vN m (.ref n) h=true:=by cases m <;> simp [iT] at hm <;> simp [Ev.vN,gu w3]
  have hap:Ak m=false→aC h1 S1 as ds:=fun hh=>by rw [hh] at q1;exact q1.n
  have fin:∀ s l l',aB[i]?=some (some s)→gQ (some s)=true→(∃ m' cs',aq[i]?=some (some (.ref m'))∧h1[m']?=some (.lst cs')∧aC h1 S1 l cs')→jY m l as=some (v,l')→af=aB.set i (some (s.with l'))→
    Ke P' (.me m (.v i) es) k v M B h S fr aq af:=by
   intro s l l' k1 k2 ⟨m',cs',k3,k4,k5⟩ k6 k7
   rw [w2] at k3;cases k3
   have mn:=o1.f.mM k1 k2 w2
   obtain ⟨r,ds',a1,a2,a3⟩:=Kd k6 k4 k5 q1.t hap fun k z y=>(o1.f.wS k z).2.1 (y▸mn)
   have fw:=o1.f.write (l':=l') k1 k2 w2 a3
   subst k7
   refine ⟨r,_,S1,?_,.of (a2.mono (fun m z=>kH fun y=>(o1.f.wS m z).2.1 (y▸mn)) fun _ z=>z),fw,?_,fun j=>?_⟩
   ·simp only [Ev.ev,w2,Option.join,Ev.d8,Ev.ay,hr,if_true,e1]
    simp only [Option.bind,id,Ev.d8,Ev.ay,hr,if_true,e1]
    exact a1
   ·refine ⟨by simpa using o1.tr.len,fun m y1 y2=>?_,o1.tr.sub,fun m y=>by simpa using o1.tr.new m y⟩
    have y3:¬ Xs M aq (fV es) m:=fun z=>y2 (Xs.mono (by simp only [bM];intro i hi;simp [hi]) z)
    have y4:m≠n:=fun z=>y2 ⟨z▸mn,i,by simp [bM,Qe,hm],by rw [z];exact w2⟩
    rw [kH (fun (z:n=m)=>y4 z.symm)]
    exact o1.tr.keep m y1 y3
   ·rw [←o1.lk j]
    unfold locked
    by_cases hj:i=j
    ·subst hj
     rw [List.getElem?_set_self (List.getElem?_eq_some_iff.mp k1).1,k1]
     exact wC
    ·rw [List.getElem?_set_ne hj]
  split at z
  ·rename_i l k1
   have old:=o1.f.get k1
   obtain ⟨p,k2,m',cs',rfl,_,k4,k5⟩:=old
   split at z
   ·rename_i v' l' k6
    cases z
    exact fin _ l l' k1 rfl ⟨m',cs',k2,k4,k5⟩ k6 rfl
   ·cases z
  ·rename_i l k1
   have old:=o1.f.get k1
   obtain ⟨p,k2,m',cs',rfl,_,k4,k5⟩:=old
   split at z
   ·rename_i v' l' k6
    cases z
    exact fin _ l l' k1 rfl ⟨m',cs',k2,k4,k5⟩ k6 rfl
   ·cases z
  ·cases z
 ·rw [if_neg hm] at z
  replace z:=aj z;obtain ⟨x,aB,z1,z⟩:=z
  replace z:=aj z;obtain ⟨as,cN,z2,z⟩:=z
  replace z:=aM z;obtain ⟨z,y0⟩:=z;subst y0
  obtain ⟨d,h1,S1,e1,q1,o1⟩:=io z1 f
  obtain ⟨ds,h2,S2,e2,q2,o2⟩:=is z2 o1.f
  have hm':iT m=false:=by simpa using hm
  have wH:=(q1.tr o1.f o2.tr id (pG e1)).t
  obtain ⟨a1,r,a2,a3⟩:=Ka z hm' wH q2.t
  have hr:Ev.vN m d h1=true:=by
   unfold fc at z
   split at z
   ·have:=q1.t;simp only [bx,Rep] at this;subst this;rfl
   ·cases z
  exact ⟨r,h2,S2,by simp only [Ev.ev,e1,Ev.ay,hr,if_true,e2,a2],.of a3,(o1.trans o2).weak (by simp only [bM];intro i hi;simp at hi ⊢;rcases hi with hi | hi <;> simp [hi])⟩
theorem uh {elt:E}{t:T}{cond:Eo}(ii:jZ P P' it) (ic:sA P P' cond) (ie:bB P P' elt):bB P P' (.comp elt t it cond):=fun z f=>by
 simp only [ev] at z
 replace z:=aj z;obtain ⟨vs,aB,z1,z⟩:=z
 split at z
 case isFalse=>cases z
 rename_i hu
 replace z:=aM z;obtain ⟨z,y0⟩:=z;subst y0
 simp only [Option.bind_eq_some_iff] at z
 obtain ⟨rs,z2,z3⟩:=z
 obtain ⟨s,h1,S1,e1,q1,q2,o1⟩:=ii z1 f
 have Vw:=o1.f.ro
 obtain ⟨rs',h2,S2,c1,c2,c3⟩:=wF (f':=fun d h2=>match Ev.cB t d _ with
    | none=>.bad
    | some aB=>(Ev.gZ P' cond aB h2).bind fun k h3=>if k then (Ev.ev P' elt aB h3).bind fun x h4=>.ok (some x) h4 else .ok none h3) (ck:=s.2) o1.f.w (fun q hq=>(q2 q hq).1) (fun v o d h S al y q=>by
  split at y
  ·cases y
  ·rename_i cN y1
   obtain ⟨jh,b1,b2,_,_⟩:=(Vw.al al).cB y1 q
   rw [b1]
   split at y
   ·rename_i c ji y2
    obtain ⟨h3,S3,c1,oc⟩:=ic y2 b2
    have Kr:Al h S h3 S3:=oc.tr.al fun m z=>z.1
    split at y
    ·rename_i hc
     subst hc
     split at y
     ·rename_i x qQ y3
      cases y
      obtain ⟨d',h4,S4,d1,d2,od⟩:=ie y3 (b2.al Kr)
      refine ⟨some d',h4,S4,?_,⟨d',rfl,d2.n⟩,Kr.trans (od.tr.al fun m z=>z.1)⟩
      simp only [c1,Ev.ay,if_true,d1]
     ·cases y
    ·rename_i hc
     cases y
     refine ⟨none,h3,S3,?_,rfl,Kr⟩
     simp only [c1,Ev.ay]
     rw [if_neg hc]
   ·cases y) Al.refl z2 q1
 obtain ⟨r,h4,S4,a1,a2,a3⟩:=iC (o1.f.al c3).w z3 c2
 refine ⟨r,h4,S4,?_,.of a2,(o1.al c3).al a3⟩
 simp only [Ev.ev,e1,Ev.ay]
 rw [if_pos (o1.f.undef hu)]
 refine Eq.trans (congrArg (fun q:Ev.R (List D)=>q.bind fun ds h2=>Ev.alloc ds h2) c1) ?_
 simp only [Ev.ay,a1]
theorem AB (ii:jZ P P' it):bB P P' (.jD it):=fun z f=>by
 simp only [ev] at z
 replace z:=aj z;obtain ⟨vs,aB,z1,z⟩:=z
 replace z:=aM z;obtain ⟨z,y0⟩:=z;subst y0
 obtain ⟨s,h1,S1,e1,q1,q2,o1⟩:=ii z1 f
 obtain ⟨r,h4,S4,a1,a2,a3⟩:=iC o1.f.w z q1
 exact ⟨r,h4,S4,by simp only [Ev.ev,e1,Ev.ay,a1],.of a2,o1.al a3⟩
theorem Ks:jn P P' .nil:=fun {k fr v af M B h S aq} z f=>by
 simp only [cj] at z
 cases z
 refine ⟨[],_,_,by simp only [Ev.cj],?_,.refl f⟩
 unfold jm;split <;> rfl
theorem GX (ie:bB P P' e) (is:jn P P' es):jn P P' (.cons e es):=fun {k fr v af M B h S aq} z f=>by
 simp only [cj] at z
 replace z:=aj z;obtain ⟨x,aB,z1,z⟩:=z
 replace z:=aj z;obtain ⟨xs,cN,z2,z⟩:=z
 cases z
 obtain ⟨d,h1,S1,e1,q1,o1⟩:=ie z1 f
 obtain ⟨ds,h2,S2,e2,q2,o2⟩:=is z2 o1.f
 have wH:=q1.tr (a:=e) o1.f o2.tr (by intro z;simp at z;exact z.2) (pG e1)
 refine ⟨d :: ds,h2,S2,by simp only [Ev.cj,e1,Ev.ay,e2],?_,o1.trans o2⟩
 unfold jm at q2 ⊢
 cases k with
 | true=>simp only [if_true] at q2 ⊢;exact ⟨d,ds,rfl,wH.t,q2⟩
 | false=>
  simp only [Bool.false_eq_true,if_false] at q2 ⊢
  exact .cons (by simpa [fz] using wH) q2
theorem GY:pD P P' .nil:=fun z f=>by
 simp only [fP] at z
 cases z
 exact ⟨[],_,_,by simp only [Ev.cj],rfl,.refl f⟩
theorem CB (ie:bB P P' e) (is:pD P P' es):pD P P' (.cons e es):=fun {fr v af M B h S aq} z f=>by
 simp only [fP] at z
 cases y:kG fr e with
 | some i=>
  rw [y] at z
  try simp only at z
  replace z:=aj z;obtain ⟨xs,cN,z2,z⟩:=z
  cases z
  have hy:e=.v i∧∃ s,lent fr i=some s:=by
   cases e <;> simp only [kG,reduceCtorEq] at y
   rename_i j
   split at y
   ·rename_i hs
    cases y
    exact ⟨rfl,Option.isSome_iff_exists.mp hs⟩
   ·cases y
  obtain ⟨rfl,s,hs⟩:=hy
  obtain ⟨n,cs,_,_,_,w2,w3,_,_⟩:=jx hs f
  obtain ⟨ds,h2,S2,e2,q2,o2⟩:=is z2 f
  refine ⟨.ref n :: ds,h2,S2,?_,⟨_,_,rfl,w2,q2⟩,o2.weak (by simp only [fV,bM];intro i hi;simpa using hi)⟩
  simp only [Ev.cj,Ev.ev,w2,Option.join,Option.bind,id,Ev.d8,Ev.ay,e2]
 | none=>
  rw [y] at z
  try simp only at z
  replace z:=aj z;obtain ⟨x,aB,z1,z⟩:=z
  replace z:=aj z;obtain ⟨xs,cN,z2,z⟩:=z
  cases z
  obtain ⟨d,h1,S1,e1,q1,o1⟩:=ie z1 f
  obtain ⟨ds,h2,S2,e2,q2,o2⟩:=is z2 o1.f
  exact ⟨d :: ds,h2,S2,by simp only [Ev.cj,e1,Ev.ay,e2],⟨_,_,rfl,q1.n.tr o1.f o2.tr,q2⟩,o1.trans o2⟩
theorem Oo:pF P P' .no:=fun z f=>by
 simp only [fN] at z;cases z
 exact ⟨_,_,by simp only [Ev.fN],.refl f⟩
theorem Ku (ie:bB P P' e):pF P P' (.yes e):=fun z f=>by
 simp only [fN] at z
 replace z:=aj z;obtain ⟨x,aB,z1,z⟩:=z
 replace z:=aM z;obtain ⟨z,y0⟩:=z;subst y0
 obtain ⟨d,h1,S1,e1,q1,o1⟩:=ie z1 f
 cases x <;> simp [intOf] at z
 subst z
 have q:=q1.t
 simp only [bx,Rep] at q
 subst q
 exact ⟨h1,S1,by simp only [Ev.fN,e1,Ev.ay];rfl,o1⟩
theorem Kv:sA P P' .no:=fun z f=>by
 simp only [gZ] at z;cases z
 exact ⟨_,_,by simp only [Ev.gZ],.refl f⟩
theorem GZ (ie:gG P P' e):sA P P' (.yes e):=fun z f=>by
 simp only [gZ] at z
 obtain ⟨h1,S1,e1,o1⟩:=ie z f
 exact ⟨h1,S1,by simp only [Ev.gZ,e1],o1⟩
theorem SK (ia:gG P P' a) (ib:gG P P' b):gG P P' (.an a b):=fun z f=>by
 simp only [aK] at z
 replace z:=aj z;obtain ⟨k,af,z1,z⟩:=z
 obtain ⟨h1,S1,e1,o1⟩:=ia z1 f
 cases k with
 | true=>
  simp only [if_true] at z
  obtain ⟨h2,S2,e2,o2⟩:=ib z o1.f
  exact ⟨h2,S2,by simp only [Ev.aK,e1,Ev.ay,if_true,e2],o1.trans o2⟩
 | false=>
  simp only [Bool.false_eq_true,if_false] at z
  cases z
  exact ⟨h1,S1,by simp only [Ev.aK,e1,Ev.ay];rfl,o1.weak (by simp only [bM];intro i hi;simp [hi])⟩
theorem Oq (ia:gG P P' a) (ib:gG P P' b):gG P P' (.orr a b):=fun z f=>by
 simp only [aK] at z
 replace z:=aj z;obtain ⟨k,af,z1,z⟩:=z
 obtain ⟨h1,S1,e1,o1⟩:=ia z1 f
 cases k with
 | false=>
  simp only [Bool.false_eq_true,if_false] at z
  obtain ⟨h2,S2,e2,o2⟩:=ib z o1.f
  exact ⟨h2,S2,by simp only [Ev.aK,e1,Ev.ay];rw [if_neg (by decide)];exact e2,o1.trans o2⟩
 | true=>
  simp only [if_true] at z
  cases z
  exact ⟨h1,S1,by simp only [Ev.aK,e1,Ev.ay];rfl,o1.weak (by simp only [bM];intro i hi;simp [hi])⟩
theorem SM (ia:gG P P' a):gG P P' (.nt a):=fun z f=>by
 simp only [aK] at z
 replace z:=aj z;obtain ⟨k,af,z1,z⟩:=z
 obtain ⟨h1,S1,e1,o1⟩:=ia z1 f
 cases z
 exact ⟨h1,S1,by simp only [Ev.aK,e1,Ev.ay],o1⟩
theorem dS (ie:bB P P' e) (h1:∀ fr,aK P e fr=(ev P true e fr).bind fun x af=>.ok (truthy x) af) (h2:∀ fr h,Ev.aK P' e fr h=(Ev.ev P' e fr h).bind fun x h1=>Ev.R.of (Ev.truthy h1 x) h1):gG P P' e:=fun z f=>by
 rw [h1] at z
 replace z:=aj z;obtain ⟨x,af,z1,z⟩:=z
 cases z
 obtain ⟨d,h1,S1,e1,q1,o1⟩:=ie z1 f
 exact ⟨h1,S1,by rw [h2,e1,Ev.ay,Am q1.t];rfl,o1⟩
theorem pH (ie:bB P P' e) {k:Bool}{fr:Fr}{v:V}{af:Fr}{M B:Nat→Prop}{h:Hh}{S:Nat→Prop}{aq:Ev.Fr}(z:src k fr e (ev P k e fr)=.ok v af) (f:bI M B h S fr aq) :
  ∃ d h' S',Ev.ev P' e aq h=.ok d h'∧bx h' S' v d∧(k=false→∀ n,d=.ref n→¬ M n)∧Out M B (bM e) h S fr aq h' S' af:=by
 have gen:ev P k e fr=.ok v af→∃ d h' S',Ev.ev P' e aq h=.ok d h'∧bx h' S' v d∧(k=false→∀ n,d=.ref n→¬ M n)∧Out M B (bM e) h S fr aq h' S' af:=fun z=>by
  obtain ⟨d,h1,S1,e1,q1,o1⟩:=ie z f
  refine ⟨d,h1,S1,e1,q1.t,fun hk n hd=>?_,o1⟩
  subst hk
  have q:=q1.n
  cases v <;> simp only [Rep] at q
  ·cases q.symm.trans hd
  ·cases q.symm.trans hd
  ·cases q.symm.trans hd
  ·cases q.symm.trans hd
  ·obtain ⟨_,q,_⟩:=q;cases q.symm.trans hd
  ·obtain ⟨m,ds,q,sm,_⟩:=q;cases q.symm.trans hd;exact (o1.f.wS _ sm).2.1
  ·obtain ⟨m,ds,q,sm,_⟩:=q;cases q.symm.trans hd;exact (o1.f.wS _ sm).2.1
 cases e
 case v i=>
  simp only [src] at z
  replace z:=aM z;obtain ⟨z,y0⟩:=z;subst y0
  unfold t9 at z
  split at z
  ·rename_i l y
   cases z
   obtain ⟨p,e1,m,ds,rfl,y1,y2,y3⟩:=f.get y
   exact ⟨.ref m,h,S,by simp only [Ev.ev,e1,Option.join,Option.bind,id,Ev.d8],⟨m,ds,rfl,y2,y3⟩,fun _ n hn=>by cases hn;exact y1,.refl f⟩
  ·exact gen (by simp only [ev,z,d8])
 all_goals exact gen z
theorem Kw (ie:bB P P' e):jZ P P' (.seq e):=fun z f=>by
 simp only [cM] at z
 replace z:=aj z;obtain ⟨x,af,z1,z⟩:=z
 replace z:=aM z;obtain ⟨z,y0⟩:=z;subst y0
 obtain ⟨d,h1,S1,e1,q1,q2,o1⟩:=pH ie z1 f
 obtain ⟨s,a1,a2,a3⟩:=Cw z q1
 exact ⟨s,h1,S1,by simp only [Ev.cM,e1,Ev.ay,a1,Ev.d8],a2,fun q hq=>⟨(a3 q hq).2,fun hk=>q2 hk _ (a3 q hq).1⟩,o1⟩
theorem G0 (is:jn P P' es):jZ P P' (.iI es):=fun z f=>by
 simp only [cM] at z
 replace z:=aj z;obtain ⟨x,af,z1,z⟩:=z
 replace z:=aM z;obtain ⟨z,y0⟩:=z;subst y0
 obtain ⟨d,h1,S1,e1,q1,o1⟩:=is z1 f
 obtain ⟨s,a1,a2⟩:=Kc z q1.t
 exact ⟨(s,[]),h1,S1,by simp only [Ev.cM,e1,Ev.ay,a1,Ev.d8],a2,fun q hq=>by simp at hq,o1⟩
theorem CC (ie:bB P P' e):jZ P P' (.enum e):=fun z f=>by
 simp only [cM] at z
 replace z:=aj z;obtain ⟨x,af,z1,z⟩:=z
 replace z:=aM z;obtain ⟨z,y0⟩:=z;subst y0
 obtain ⟨d,h1,S1,e1,q1,q2,o1⟩:=pH ie z1 f
 simp only [Option.map_eq_some_iff] at z
 obtain ⟨l,z,rfl⟩:=z
 obtain ⟨s,a1,a2,a3⟩:=qx z q1
 exact ⟨(Ev.gE 0 s.1,s.2),h1,S1,by simp only [Ev.cM,e1,Ev.ay,a1,Option.map,Ev.d8],wz 0 a2,fun q hq=>⟨(a3 q hq).2,fun hk=>q2 hk _ (a3 q hq).1⟩,o1⟩
theorem G1 (ie:bB P P' e):jZ P P' (.rev e):=fun z f=>by
 simp only [cM] at z
 replace z:=aj z;obtain ⟨x,af,z1,z⟩:=z
 replace z:=aM z;obtain ⟨z,y0⟩:=z;subst y0
 obtain ⟨d,h1,S1,e1,q1,o1⟩:=ie z1 f
 simp only [Option.map_eq_some_iff] at z
 obtain ⟨l,z,rfl⟩:=z
 cases x <;> simp only [yo,reduceCtorEq] at z
 cases z
 have k1:=q1.t
 simp only [bx,Rep] at k1
 obtain ⟨ds,y1,k2⟩:=k1
 subst y1
 exact ⟨(ds.reverse,[]),h1,S1,by simp only [Ev.cM,e1,Ev.ay,Ev.Ca,Option.map,Ev.d8],k2.reverse,fun q hq=>by simp at hq,o1⟩
theorem G2 (ia:bB P P' a) (ib:bB P P' b):jZ P P' (.zip a b):=fun {k fr v af M B h S aq} z f=>by
 simp only [cM] at z
 replace z:=aj z;obtain ⟨x,aB,z1,z⟩:=z
 replace z:=aj z;obtain ⟨y,cN,z2,z⟩:=z
 replace z:=aM z;obtain ⟨z,y0⟩:=z;subst y0
 obtain ⟨d,h1,S1,e1,q1,r1,o1⟩:=pH ia z1 f
 obtain ⟨e,h2,S2,e2,q2,r2,o2⟩:=pH ib z2 o1.f
 simp only [Option.map_eq_some_iff,Option.bind_eq_some_iff] at z
 obtain ⟨l,z3,m,z4,rfl⟩:=z
 have wH:bx h2 S2 x d:=by
  by_cases hk:(k&&kf a (bM b))=true
  ·exact (fz.tr (k:=true) (a:=a) (by unfold fz;rw [if_pos rfl];exact q1) o1.f o2.tr (fun _=>by simp at hk;exact hk.2) (pG e1)).t
  ·have r1:=r1 (by simpa using hk)
   cases x
   case lst l=>
    simp only [bx] at q1 ⊢
    obtain ⟨n,ds,rfl,a1,a2⟩:=q1
    exact ⟨n,ds,rfl,by rw [o2.tr.keep n (List.getElem?_eq_some_iff.mp a1).1 (fun z=>r1 n rfl z.1)];exact a1,a2.tr o1.f o2.tr⟩
   all_goals exact Rep.tr (show Rep h1 S1 _ d from q1) o1.f o2.tr
 obtain ⟨s,a1,a2,a3⟩:=qx z3 wH
 obtain ⟨t,b1,b2,b3⟩:=qx z4 q2
 refine ⟨(Ev.eW s.1 t.1,s.2++t.2),h2,S2,by simp only [Ev.cM,e1,Ev.ay,e2,a1,b1,Option.bind,Option.map,Ev.d8],Ao a2 b2,fun q hq=>?_,o1.trans o2⟩
 rcases List.mem_append.mp hq with hq | hq
 ·exact ⟨(a3 q hq).2,fun hk=>r1 (by simp [hk]) _ (a3 q hq).1⟩
 ·exact ⟨(b3 q hq).2,fun hk=>r2 hk _ (b3 q hq).1⟩
end
section
variable {P:aU}{P':Ev.aU}(HP:pq P P')
include HP
mutual
theorem bq:∀ e:E,bB P P' e
 | .c _=>Ko
 | .v _=>Kp
 | .tup es=>Ar (fW es)
 | .lst es=>As (fW es)
 | .bin _ a b=>Au (bq a) (bq b)
 | .cmp _ a b=>Av (bq a) (bq b)
 | .nt a=>Ol (bq a)
 | .neg a=>Aw (bq a)
 | .an a b=>Om (bq a) (bq b)
 | .orr a b=>Kq (bq a) (bq b)
 | .kB t a b=>Ax (gA t) (bq a) (bq b)
 | .ix a b=>EH (bq a) (bq b)
 | .sl a lo hi=>EI (bq a) (pI lo) (pI hi)
 | .rv a=>EJ (bq a)
 | .cl _ es=>EK HP (um es)
 | .bi _ es=>EL (fW es)
 | .me _ o es=>EM (bq o) (fW es)
 | .mq a _=>Ay (bq a)
 | .comp elt _ it cond=>uh (kI it) (AD cond) (bq elt)
 | .jD it=>AB (kI it)
 | .jE _ a=>wG (bq a)
 | .jF a=>Az (bq a)
theorem gA:∀ e:E,gG P P' e
 | .an a b=>SK (gA a) (gA b)
 | .orr a b=>Oq (gA a) (gA b)
 | .nt a=>SM (gA a)
 | .c x=>dS Ko (fun _=>by simp only [aK]) (fun _ _=>by simp only [Ev.aK])
 | .v x=>dS Kp (fun _=>by simp only [aK]) (fun _ _=>by simp only [Ev.aK])
 | .tup es=>dS (Ar (fW es)) (fun _=>by simp only [aK]) (fun _ _=>by simp only [Ev.aK])
 | .lst es=>dS (As (fW es)) (fun _=>by simp only [aK]) (fun _ _=>by simp only [Ev.aK])
 | .bin _ a b=>dS (Au (bq a) (bq b)) (fun _=>by simp only [aK]) (fun _ _=>by simp only [Ev.aK])
 | .cmp _ a b=>dS (Av (bq a) (bq b)) (fun _=>by simp only [aK]) (fun _ _=>by simp only [Ev.aK])
 | .neg a=>dS (Aw (bq a)) (fun _=>by simp only [aK]) (fun _ _=>by simp only [Ev.aK])
 | .kB t a b=>dS (Ax (gA t) (bq a) (bq b)) (fun _=>by simp only [aK]) (fun _ _=>by simp only [Ev.aK])
 | .ix a b=>dS (EH (bq a) (bq b)) (fun _=>by simp only [aK]) (fun _ _=>by simp only [Ev.aK])
 | .sl a lo hi=>dS (EI (bq a) (pI lo) (pI hi)) (fun _=>by simp only [aK]) (fun _ _=>by simp only [Ev.aK])
 | .rv a=>dS (EJ (bq a)) (fun _=>by simp only [aK]) (fun _ _=>by simp only [Ev.aK])
 | .cl _ es=>dS (EK HP (um es)) (fun _=>by simp only [aK]) (fun _ _=>by simp only [Ev.aK])
 | .bi _ es=>dS (EL (fW es)) (fun _=>by simp only [aK]) (fun _ _=>by simp only [Ev.aK])
 | .me _ o es=>dS (EM (bq o) (fW es)) (fun _=>by simp only [aK]) (fun _ _=>by simp only [Ev.aK])
 | .mq a _=>dS (Ay (bq a)) (fun _=>by simp only [aK]) (fun _ _=>by simp only [Ev.aK])
 | .comp elt _ it cond=>dS (uh (kI it) (AD cond) (bq elt)) (fun _=>by simp only [aK]) (fun _ _=>by simp only [Ev.aK])
 | .jD it=>dS (AB (kI it)) (fun _=>by simp only [aK]) (fun _ _=>by simp only [Ev.aK])
 | .jE _ a=>dS (wG (bq a)) (fun _=>by simp only [aK]) (fun _ _=>by simp only [Ev.aK])
 | .jF a=>dS (Az (bq a)) (fun _=>by simp only [aK]) (fun _ _=>by simp only [Ev.aK])
theorem fW:∀ e:Es,jn P P' e
 | .nil=>Ks
 | .cons e es=>GX (bq e) (fW es)
theorem um:∀ e:Es,pD P P' e
 | .nil=>GY
 | .cons e es=>CB (bq e) (um es)
theorem pI:∀ e:Eo,pF P P' e
 | .no=>Oo
 | .yes e=>Ku (bq e)
theorem AD:∀ e:Eo,sA P P' e
 | .no=>Kv
 | .yes e=>GZ (gA e)
theorem kI:∀ e:It,jZ P P' e
 | .seq e=>Kw (bq e)
 | .iI es=>G0 (fW es)
 | .zip a b=>G2 (bq a) (bq b)
 | .enum a=>CC (bq a)
 | .rev a=>G1 (bq a)
end
end
end Pv
namespace Pv
open Ev (D O Hh cF bY TY BI ME T E Es Eo It S Ss Fn big deep b2i rep cH eG bU aR cut cS eB slots bw)
structure Tr (M B:Nat→Prop) (h:Hh) (S:Nat→Prop) (M':Nat→Prop) (h':Hh) (S':Nat→Prop):Prop where
 len:h.length≤h'.length
 keep:∀ m,m<h.length→¬ M m→h'[m]?=h[m]?
 sub:∀ m,S m→S' m
 new:∀ m,S' m→S m∨(h.length≤m∧m<h'.length)∨(M m∧¬ B m)
 yq:∀ m,M' m→M m∨h.length≤m
structure ek (M B:Nat→Prop) (h:Hh) (S:Nat→Prop) (fr:Fr) (aq:Ev.Fr) (M':Nat→Prop) (h':Hh) (S':Nat→Prop) (af:Fr) (bN:Ev.Fr):Prop where
 f:bI M' B h' S' af bN
 tr:Tr M B h S M' h' S'
 lk:∀ i,locked af i=locked fr i
 rf:∀ i,locked fr i=true→bN[i]?=aq[i]?
noncomputable def gS (h:Hh) (S:Nat→Prop):Fl→Ev.Fl→Prop
 | .nx,g=>g=.nx
 | .bk,g=>g=.bk
 | .ct,g=>g=.ct
 | .ret v,g=>∃ d,g=.ret d∧Rep h S v d
section
variable {M B M' M1 M2:Nat→Prop}{h h' h1 h2:Hh}{S S' S1 S2:Nat→Prop}{fr af aB:Fr}{aq bN lz:Ev.Fr}{c c1 c2:List Nat}{v:V}{d:D}
theorem ek.refl (f:bI M B h S fr aq):ek M B h S fr aq M h S fr aq:=⟨f,⟨Nat.le_refl _,fun _ _ _=>rfl,fun _ q=>q,fun _ q=>.inl q,fun _ q=>.inl q⟩,fun _=>rfl,fun _ _=>rfl⟩
theorem Out.s (o:Out M B c h S fr aq h1 S1 af):ek M B h S fr aq M h1 S1 af aq:=⟨o.f,⟨o.tr.len,fun m y1 y2=>o.tr.keep m y1 (fun z=>y2 z.1),o.tr.sub,fun m q=>(o.tr.new m q).imp id .inl,fun _ q=>.inl q⟩,o.lk,fun _ _=>rfl⟩
theorem ek.trans (f0:bI M B h S fr aq) (a:ek M B h S fr aq M1 h1 S1 af bN) (b:ek M1 B h1 S1 af bN M2 h2 S2 aB lz):ek M B h S fr aq M2 h2 S2 aB lz where
 f:=b.f
 tr:=⟨Nat.le_trans a.tr.len b.tr.len,fun m y1 y2=>by
   rw [b.tr.keep m (Nat.lt_of_lt_of_le y1 a.tr.len) (fun z=>by
    rcases a.tr.yq m z with z | z
    ·exact y2 z
    ·omega),a.tr.keep m y1 y2],fun m q=>b.tr.sub m (a.tr.sub m q),fun m q=>by
   rcases b.tr.new m q with q | q | q
   ·rcases a.tr.new m q with q | q | q
    ·exact .inl q
    ·exact .inr (.inl ⟨q.1,Nat.lt_of_lt_of_le q.2 b.tr.len⟩)
    ·exact .inr (.inr q)
   ·exact .inr (.inl ⟨Nat.le_trans a.tr.len q.1,q.2⟩)
   ·rcases a.tr.yq m q.1 with z | z
    ·exact .inr (.inr ⟨z,q.2⟩)
    ·exact .inr (.inl ⟨z,Nat.lt_of_lt_of_le (a.f.wM m q.1) b.tr.len⟩),fun m q=>by
   rcases b.tr.yq m q with q | q
   ·exact a.tr.yq m q
   ·exact .inr (Nat.le_trans a.tr.len q)⟩
 lk:=fun i=>(b.lk i).trans (a.lk i)
 rf:=fun i q=>(b.rf i (by rw [a.lk i];exact q)).trans (a.rf i q)
theorem bI.kind (f:bI M B h S fr aq) (g:Option Sl→Option Sl→Prop) (hl:af.length=fr.length) (hg:∀ (i:Nat) o,af[i]?=some o→∃ o0,fr[i]?=some o0∧(o=o0∨(∃ l,o0=some (.own l)∧o=some (.val (.lst l)))∨(∃ l,o0=some (.bor l)∧o=some (.ro l)))) :
  ∃ M' S',ek M B h S fr aq M' h S' af aq:=by
 let X:Nat→Prop:=fun m=>∃ (i:Nat) (l:List V),fr[i]?=some (some (Sl.own l))∧af[i]?=some (some (Sl.val (V.lst l)))∧aq[i]?=some (some (D.ref m))
 let Y:Nat→Prop:=fun m=>∃ (i:Nat) (l:List V),fr[i]?=some (some (Sl.bor l))∧af[i]?=some (some (Sl.ro l))∧aq[i]?=some (some (D.ref m))
 have xM:∀ m,X m→M m∧¬ B m:=fun m ⟨i,l,a,_,b⟩=>by
  obtain ⟨m',ds,e,q,_⟩:=f.sl i _ _ a b;cases e;exact q
 have yM:∀ m,Y m→M m∧B m:=fun m ⟨i,l,a,_,b⟩=>by
  obtain ⟨m',ds,e,q,_⟩:=f.sl i _ _ a b;cases e;exact q
 have mono:∀ {l:List V} {ds:List D},aC h S l ds→aC h (fun m=>S m∨X m) l ds:=fun q=>q.mono (fun _ _=>rfl) fun _ z=>.inl z
 refine ⟨fun m=>M m∧¬ X m∧¬ Y m,fun m=>S m∨X m,⟨⟨fun m q=>?_,fun m q=>f.wM m q.1,f.wB,by rw [hl,f.len],fun i o p e1 e2=>?_,fun i j o o' m y1 y2 y3 y4 y5 y6=>?_⟩,⟨Nat.le_refl _,fun _ _ _=>rfl,fun _ q=>.inl q,fun m q=>?_,fun m q=>.inl q.1⟩,fun i=>?_,fun _ _=>rfl⟩⟩
 ·rcases q with q | q
  ·exact ⟨(f.wS m q).1,fun z=>(f.wS m q).2.1 z.1,(f.wS m q).2.2⟩
  ·exact ⟨f.wM m (xM m q).1,fun z=>z.2.1 q,(xM m q).2⟩
 ·obtain ⟨o0,e0,k⟩:=hg i o e1
  have old:=f.sl i o0 p e0 e2
  rcases k with rfl | ⟨l,rfl,rfl⟩ | ⟨l,rfl,rfl⟩
  ·rcases o with _ | s
   ·exact old
   ·cases s with
    | val v=>obtain ⟨d,e,q⟩:=old;exact ⟨d,e,q.mono (fun _ _=>rfl) fun _ z=>.inl z⟩
    | own l=>
     obtain ⟨m,ds,rfl,z,y,q⟩:=old
     refine ⟨m,ds,rfl,⟨⟨z.1,fun ⟨j,l',a1,a2,a3⟩=>?_,fun ⟨j,l',a1,a2,a3⟩=>?_⟩,z.2⟩,y,mono q⟩
     ·have:=f.inj i j _ _ m e0 a1 rfl rfl e2 a3;subst this;rw [e1] at a2;cases a2
     ·have:=f.inj i j _ _ m e0 a1 rfl rfl e2 a3;subst this;rw [e1] at a2;cases a2
    | bor l=>
     obtain ⟨m,ds,rfl,z,y,q⟩:=old
     refine ⟨m,ds,rfl,⟨⟨z.1,fun ⟨j,l',a1,a2,a3⟩=>?_,fun ⟨j,l',a1,a2,a3⟩=>?_⟩,z.2⟩,y,mono q⟩
     ·have:=f.inj i j _ _ m e0 a1 rfl rfl e2 a3;subst this;rw [e1] at a2;cases a2
     ·have:=f.inj i j _ _ m e0 a1 rfl rfl e2 a3;subst this;rw [e1] at a2;cases a2
    | ro l=>obtain ⟨m,ds,rfl,z,y,q⟩:=old;exact ⟨m,ds,rfl,fun w=>z w.1,y,mono q⟩
  ·obtain ⟨m,ds,rfl,z,y,q⟩:=old
   exact ⟨.ref m,rfl,m,ds,rfl,.inr ⟨i,l,e0,e1,e2⟩,y,mono q⟩
  ·obtain ⟨m,ds,rfl,z,y,q⟩:=old
   exact ⟨m,ds,rfl,fun w=>w.2.2 ⟨i,l,e0,e1,e2⟩,y,mono q⟩
 ·have kd:∀ (i:Nat) o,af[i]?=some o→gQ o=true→∃ o0,fr[i]?=some o0∧gQ o0=true:=fun i o w1 w2=>by
   obtain ⟨o0,e0,k⟩:=hg i o w1
   rcases k with rfl | ⟨l,rfl,rfl⟩ | ⟨l,rfl,rfl⟩
   ·exact ⟨o,e0,w2⟩
   ·cases w2
   ·cases w2
  obtain ⟨oi,k1,k2⟩:=kd i o y1 y3
  obtain ⟨oj,k3,k4⟩:=kd j o' y2 y4
  exact f.inj i j oi oj m k1 k3 k2 k4 y5 y6
 ·rcases q with q | q
  ·exact .inl q
  ·exact .inr (.inr (xM m q))
 ·unfold locked
  cases z:af[i]? with
  | none=>
   have:fr[i]?=none:=by rw [List.getElem?_eq_none_iff] at z ⊢;omega
   rw [this]
  | some o=>
   obtain ⟨o0,e0,k⟩:=hg i o z
   rw [e0]
   rcases k with rfl | ⟨l,rfl,rfl⟩ | ⟨l,rfl,rfl⟩ <;> rfl
theorem bI.eg (f:bI M B h S fr aq):∃ M' S',ek M B h S fr aq M' h S' (fq fr) aq:=by
 refine f.kind (fun _ _=>True) (by simp [fq]) fun i o e=>?_
 unfold fq at e
 rw [List.getElem?_map] at e
 cases z:fr[i]? with
 | none=>rw [z] at e;cases e
 | some o0=>
  rw [z] at e;cases e
  refine ⟨o0,rfl,?_⟩
  rcases o0 with _ | s
  ·exact .inl rfl
  ·cases s with
   | own l=>exact .inr (.inl ⟨l,rfl,rfl⟩)
   | _=>exact .inl rfl
theorem bI.walk:∀ (is:List Nat) {M:Nat→Prop}{S:Nat→Prop}{fr:Fr},bI M B h S fr aq→∃ M' S',ek M B h S fr aq M' h S' (sy is fr) aq
 | [],_,_,_,f=>⟨_,_,.refl f⟩
 | i :: is,M,S,fr,f=>by
  have one:∃ M1 S1,ek M B h S fr aq M1 h S1 (match fr[i]? with | some (some s)=>fr.set i (some s.walk) | _=>fr) aq:=by
   split
   ·rename_i s z
    have hl:=(List.getElem?_eq_some_iff.mp z).1
    refine f.kind (fun _ _=>True) (by simp) fun j o e=>?_
    by_cases hj:i=j
    ·subst hj
     rw [List.getElem?_set_self hl] at e
     cases e
     refine ⟨_,z,?_⟩
     cases s with
     | own l=>exact .inr (.inl ⟨l,rfl,rfl⟩)
     | bor l=>exact .inr (.inr ⟨l,rfl,rfl⟩)
     | _=>exact .inl rfl
    ·rw [List.getElem?_set_ne hj] at e
     exact ⟨o,e,.inl rfl⟩
   ·exact ⟨M,S,.refl f⟩
  obtain ⟨M1,S1,o1⟩:=one
  obtain ⟨M2,S2,o2⟩:=bI.walk is o1.f
  exact ⟨M2,S2,o1.trans f o2⟩
theorem bI.own (f:bI M B h S fr aq) {i:Nat}{l:List V}{ds:List D}(e:put fr i (.own l)=some af) (q:aC h S l ds):ek M B h S fr aq (fun m=>M m∨m=h.length) (h++[.lst ds]) S af (aq.set i (some (.ref h.length))):=by
 have hx:af=fr.set i (some (.own l))∧locked fr i=false:=by
  unfold put at e
  unfold locked
  split at e
  ·cases e
  ·cases e
  ·rename_i k1 k2
   cases e
   refine ⟨rfl,?_⟩
   cases z:fr[i]? with
   | none=>rfl
   | some o=>
    rcases o with _ | s
    ·rfl
    ·cases s with
     | bor l=>exact absurd z (k1 l)
     | ro l=>exact absurd z (k2 l)
     | _=>rfl
 obtain ⟨rfl,hk⟩:=hx
 have kp:∀ m,m<h.length→(h++[O.lst ds])[m]?=h[m]?:=fun m z=>by rw [List.getElem?_append_left z]
 have kS:∀ m,S m→(h++[O.lst ds])[m]?=h[m]?:=fun m z=>kp m (f.w m z)
 refine ⟨⟨fun m y=>⟨by have:=(f.wS m y).1;simp;omega,fun z=>?_,(f.wS m y).2.2⟩,fun m y=>?_,fun m y=>by have:=f.wB m y;simp;omega,by simp [f.len],fun j o p y1 y2=>?_,fun j k o o' m y1 y2 y3 y4 y5 y6=>?_⟩,⟨by simp,fun m y _=>kp m y,fun _ z=>z,fun _ z=>.inl z,fun m z=>z.imp id (fun z=>by omega)⟩,fun j=>?_,fun j hj=>?_⟩
 ·rcases z with z | z
  ·exact (f.wS m y).2.1 z
  ·have:=(f.wS m y).1;omega
 ·rcases y with y | y
  ·have:=f.wM m y;simp;omega
  ·subst y;simp
 ·by_cases hj:i=j
  ·subst hj
   have hl:i<fr.length:=by have:=(List.getElem?_eq_some_iff.mp y1).1;simpa using this
   rw [List.getElem?_set_self hl] at y1
   rw [List.getElem?_set_self (by rw [←f.len];exact hl)] at y2
   cases y1;cases y2
   exact ⟨h.length,ds,rfl,⟨.inr rfl,fun z=>by have:=f.wB _ z;omega⟩,by simp,q.mono kS fun _ z=>z⟩
  ·rw [List.getElem?_set_ne hj] at y1 y2
   have old:=f.sl j o p y1 y2
   rcases o with _ | s
   ·exact old
   ·cases s with
    | val v=>obtain ⟨d,e,q⟩:=old;exact ⟨d,e,q.mono kS fun _ z=>z⟩
    | own l=>obtain ⟨m,es,rfl,z,y,q⟩:=old;exact ⟨m,es,rfl,⟨.inl z.1,z.2⟩,by rw [kp m (f.wM m z.1)];exact y,q.mono kS fun _ z=>z⟩
    | bor l=>obtain ⟨m,es,rfl,z,y,q⟩:=old;exact ⟨m,es,rfl,⟨.inl z.1,z.2⟩,by rw [kp m (f.wM m z.1)];exact y,q.mono kS fun _ z=>z⟩
    | ro l=>
     obtain ⟨m,es,rfl,z,y,q⟩:=old
     have hm:=(List.getElem?_eq_some_iff.mp y).1
     exact ⟨m,es,rfl,fun w=>by rcases w with w | w;exact z w;omega,by rw [kp m hm];exact y,q.mono kS fun _ z=>z⟩
 ·have low:∀ (j:Nat) o,i≠j→fr[j]?=some o→gQ o=true→aq[j]?=some (some (.ref m))→m<h.length:=fun j o _ w1 w2 w3=>f.wM m (f.mM w1 w2 w3)
  have new:∀ (j:Nat),j<fr.length→i=j→(aq.set i (some (.ref h.length)))[j]?=some (some (.ref m))→m=h.length:=fun j hl hj w=>by
   subst hj
   rw [List.getElem?_set_self (by rw [←f.len];exact hl)] at w
   cases w;rfl
  have lj:j<fr.length:=by have:=(List.getElem?_eq_some_iff.mp y1).1;simpa using this
  have lk:k<fr.length:=by have:=(List.getElem?_eq_some_iff.mp y2).1;simpa using this
  by_cases hj:i=j
  ·by_cases hk2:i=k
   ·rw [←hj,←hk2]
   ·have a:=new j lj hj y5
    rw [List.getElem?_set_ne hk2] at y2 y6
    have b:=low k o' hk2 y2 y4 y6
    omega
  ·by_cases hk2:i=k
   ·have a:=new k lk hk2 y6
    rw [List.getElem?_set_ne hj] at y1 y5
    have b:=low j o hj y1 y3 y5
    omega
   ·rw [List.getElem?_set_ne hj] at y1 y5
    rw [List.getElem?_set_ne hk2] at y2 y6
    exact f.inj j k o o' m y1 y2 y3 y4 y5 y6
 ·by_cases hj:i=j
  ·subst hj
   rw [hk]
   unfold locked
   by_cases hl:i<fr.length
   ·rw [List.getElem?_set_self hl];rfl
   ·rw [List.getElem?_eq_none (by simpa using hl)]
  ·unfold locked;rw [List.getElem?_set_ne hj]
 ·have:i≠j:=fun z=>by subst z;rw [hk] at hj;cases hj
  rw [List.getElem?_set_ne this]
end
inductive Qf (P':Ev.aU) (w:Nat) (s:S) (g:Fl) (M B:Nat→Prop) (h:Hh) (S:Nat→Prop) (fr:Fr) (aq:Ev.Fr) (af:Fr):Prop
 | mk (g':Ev.Fl) (bN:Ev.Fr) (M':Nat→Prop) (h':Hh) (S':Nat→Prop) (c0:Ev.ex P' w s aq h=.ok (g',bN) h') (c1:gS h' S' g g') (c2:ek M B h S fr aq M' h' S' af bN):Qf P' w s g M B h S fr aq af
inductive Ky (P':Ev.aU) (w:Nat) (s:Ss) (g:Fl) (M B:Nat→Prop) (h:Hh) (S:Nat→Prop) (fr:Fr) (aq:Ev.Fr) (af:Fr):Prop
 | mk (g':Ev.Fl) (bN:Ev.Fr) (M':Nat→Prop) (h':Hh) (S':Nat→Prop) (c0:Ev.exs P' w s aq h=.ok (g',bN) h') (c1:gS h' S' g g') (c2:ek M B h S fr aq M' h' S' af bN):Ky P' w s g M B h S fr aq af
section
variable (P:aU)(P':Ev.aU)(w:Nat)
noncomputable def oE (s:S):Prop:=∀ {fr:Fr} {g:Fl} {af:Fr} {M B:Nat→Prop} {h:Hh} {S:Nat→Prop} {aq:Ev.Fr},ex P w s fr=.ok g af→bI M B h S fr aq→Qf P' w s g M B h S fr aq af
noncomputable def pJ (s:Ss):Prop:=∀ {fr:Fr} {g:Fl} {af:Fr} {M B:Nat→Prop} {h:Hh} {S:Nat→Prop} {aq:Ev.Fr},exs P w s fr=.ok g af→bI M B h S fr aq→Ky P' w s g M B h S fr aq af
end
section
variable {P:aU}{P':Ev.aU}{w:Nat}(HP:pq P P')
include HP
theorem G3 {i:Nat}{e:E}:oE P P' w (.set i e):=fun {fr g af M B h S aq} z f=>by
 simp only [ex] at z
 replace z:=aj z;obtain ⟨x,aB,z1,z⟩:=z
 by_cases hn:isNew e=true
 ·rw [if_pos hn] at z
  have key:∃ l ds h1 S1,x=.lst l∧aC h1 S1 l ds∧Ev.ev P' e aq h=.ok (.ref h1.length) (h1++[.lst ds])∧Out M B (bM e) h S fr aq h1 S1 aB:=by
   cases e <;> simp only [isNew,Bool.false_eq_true] at hn
   case lst es=>
    simp only [ev] at z1
    replace z1:=aj z1;obtain ⟨l,cN,z2,z1⟩:=z1
    replace z1:=aM z1;obtain ⟨z1,y0⟩:=z1;subst y0
    unfold ef at z1
    split at z1
    case isFalse=>cases z1
    rename_i hk
    cases z1
    obtain ⟨ds,h1,S1,e1,q1,o1⟩:=fW HP es z2 f
    refine ⟨l,ds,h1,S1,rfl,q1.n,?_,o1⟩
    simp only [Ev.ev,e1,Ev.ay,Ev.alloc]
    rw [if_pos (by rw [←q1.n.length];exact hk)]
   case jD it=>
    simp only [ev] at z1
    replace z1:=aj z1;obtain ⟨l,cN,z2,z1⟩:=z1
    replace z1:=aM z1;obtain ⟨z1,y0⟩:=z1;subst y0
    unfold ef at z1
    split at z1
    case isFalse=>cases z1
    rename_i hk
    cases z1
    obtain ⟨s,h1,S1,e1,q1,q2,o1⟩:=kI HP it z2 f
    refine ⟨l,s.1,h1,S1,rfl,q1,?_,o1⟩
    simp only [Ev.ev,e1,Ev.ay,Ev.alloc]
    rw [if_pos (by rw [←q1.length];exact hk)]
  obtain ⟨l,ds,h1,S1,rfl,q1,e1,o1⟩:=key
  simp only at z
  replace z:=aj z;obtain ⟨cN,ji,z2,z⟩:=z
  replace z2:=aM z2;obtain ⟨z2,y0⟩:=z2;subst y0
  cases z
  have o2:=o1.f.own z2 q1
  exact ⟨.nx,_,_,_,_,by simp only [Ev.ex,e1,Ev.ay],rfl,o1.s.trans f o2⟩
 ·rw [if_neg hn] at z
  replace z:=aj z;obtain ⟨cN,ji,z2,z⟩:=z
  replace z2:=aM z2;obtain ⟨z2,y0⟩:=z2;subst y0
  cases z
  obtain ⟨d,h1,S1,e1,q1,o1⟩:=bq HP e z1 f
  obtain ⟨f2,l2,r2⟩:=o1.f.set z2 q1.n
  refine ⟨.nx,_,_,_,_,by simp only [Ev.ex,e1,Ev.ay],rfl,o1.s.trans f ⟨f2,(ek.refl f2).tr,l2,r2⟩⟩
theorem G4 {l:List Nat}{e:E}:oE P P' w (.xR l e):=fun {fr g af M B h S aq} z f=>by
 simp only [ex] at z
 replace z:=aj z;obtain ⟨x,aB,z1,z⟩:=z
 replace z:=aj z;obtain ⟨cN,ji,z2,z⟩:=z
 replace z2:=aM z2;obtain ⟨z2,y0⟩:=z2;subst y0
 cases z
 obtain ⟨d,h1,S1,e1,q1,o1⟩:=bq HP e z1 f
 obtain ⟨jh,b1,f2,l2,r2⟩:=o1.f.cB z2 q1.n
 exact ⟨.nx,_,_,_,_,by simp only [Ev.ex,e1,Ev.ay,b1],rfl,o1.s.trans f ⟨f2,(ek.refl f2).tr,l2,r2⟩⟩
theorem Kz {e:E}:oE P P' w (.exp e):=fun {fr g af M B h S aq} z f=>by
 simp only [ex] at z
 replace z:=aj z;obtain ⟨x,aB,z1,z⟩:=z
 cases z
 obtain ⟨d,h1,S1,e1,q1,o1⟩:=bq HP e z1 f
 exact ⟨.nx,_,_,_,_,by simp only [Ev.ex,e1,Ev.ay],rfl,o1.s⟩
theorem KA {e:E}:oE P P' w (.ret e):=fun {fr g af M B h S aq} z f=>by
 simp only [ex] at z
 replace z:=aj z;obtain ⟨x,aB,z1,z⟩:=z
 cases z
 obtain ⟨M1,S1,o1⟩:=f.eg
 obtain ⟨d,h2,S2,e1,q1,o2⟩:=bq HP e z1 o1.f
 exact ⟨.ret d,_,_,_,_,by simp only [Ev.ex,e1,Ev.ay],⟨d,rfl,q1.n⟩,o1.trans f o2.s⟩
omit HP in
theorem qy {F:V→Fr→R Fl}{F':D→Ev.Fr→Hh→Ev.R (Ev.Fl×Ev.Fr)}{ck:List (Nat×List D)}{B:Nat→Prop}{M0:Nat→Prop}{h0:Hh}{S0:Nat→Prop}{fE:Fr}{CD:Ev.Fr}(f0:bI M0 B h0 S0 fE CD) (st:∀ q∈ck,bw h0 q.1=some q.2∧¬ M0 q.1)
  (turn:∀ v d fr g af M h S aq,F v fr=.ok g af→bI M B h S fr aq→Rep h S v d→∃ g' bN M' h' S',F' d aq h=.ok (g',bN) h'∧gS h' S' g g'∧ek M B h S fr aq M' h' S' af bN) :
  ∀ {vs:List V} {ds:List D} {fr:Fr} {g:Fl} {af:Fr} {M:Nat→Prop} {h:Hh} {S:Nat→Prop} {aq:Ev.Fr},forL F vs fr=.ok g af→ek M0 B h0 S0 fE CD M h S fr aq→aC h S vs ds→
  ∃ g' bN M' h' S',Ev.forL F' ck ds aq h=.ok (g',bN) h'∧gS h' S' g g'∧ek M0 B h0 S0 fE CD M' h' S' af bN
 | [],ds,fr,g,af,M,h,S,aq,e,o,q=>by
  simp only [forL] at e;simp only [aC] at q;subst q
  cases e
  refine ⟨.nx,aq,M,h,S,?_,rfl,o⟩
  simp only [Ev.forL]
  rw [if_pos (jK fun x hx=>ly (st x hx).1 (o.tr.keep _ (pC (st x hx).1) (st x hx).2))]
 | v :: vs,ds,fr,g,af,M,h,S,aq,e,o,q=>by
  simp only [forL] at e
  replace e:=aj e;obtain ⟨p,aB,e1,e⟩:=e
  simp only [aC] at q
  obtain ⟨d,es,rfl,q1,q2⟩:=q
  obtain ⟨g',lz,M2,h2,S2,t1,t2,t3⟩:=turn v d fr p aB M h S aq e1 o.f q1
  have o2:=o.trans f0 t3
  have EN:Ev.stays h ck=true:=jK fun x hx=>ly (st x hx).1 (o.tr.keep _ (pC (st x hx).1) (st x hx).2)
  have Qg:aC h2 S2 vs es:=q2.mono (fun m z=>t3.tr.keep m (o.f.wS m z).1 (o.f.wS m z).2.1) t3.tr.sub
  cases p with
  | nx=>
   simp only [gS] at t2;subst t2
   simp only at e
   obtain ⟨pK,jh,M3,h3,S3,u1,u2,u3⟩:=qy f0 st turn e o2 Qg
   refine ⟨pK,jh,M3,h3,S3,?_,u2,u3⟩
   simp only [Ev.forL]
   rw [if_pos EN,t1,Ev.ay]
   exact u1
  | ct=>
   simp only [gS] at t2;subst t2
   simp only at e
   obtain ⟨pK,jh,M3,h3,S3,u1,u2,u3⟩:=qy f0 st turn e o2 Qg
   refine ⟨pK,jh,M3,h3,S3,?_,u2,u3⟩
   simp only [Ev.forL]
   rw [if_pos EN,t1,Ev.ay]
   exact u1
  | bk=>
   simp only [gS] at t2;subst t2
   simp only at e
   cases e
   refine ⟨.nx,lz,M2,h2,S2,?_,rfl,o2⟩
   simp only [Ev.forL]
   rw [if_pos EN,t1,Ev.ay]
  | ret x=>
   simp only [gS] at t2
   obtain ⟨d2,rfl,t2⟩:=t2
   simp only at e
   cases e
   refine ⟨.ret d2,lz,M2,h2,S2,?_,⟨d2,rfl,t2⟩,o2⟩
   simp only [Ev.forL]
   rw [if_pos EN,t1,Ev.ay]
theorem KC {t:T}{it:It}{b:Ss}(ib:pJ P P' w b):oE P P' w (.for t it b):=fun {fr g af M B h S aq} z f=>by
 simp only [ex] at z
 replace z:=aj z;obtain ⟨vs,aB,z1,z⟩:=z
 obtain ⟨M1,S1,o1⟩:=f.walk (itv it)
 obtain ⟨s,h2,S2,e1,q1,q2,o2⟩:=kI HP it z1 o1.f
 have o3:=o1.trans f o2.s
 obtain ⟨g',bN,M',h',S',u1,u2,u3⟩:=qy (F':=fun d aB h2=>match Ev.cB t d aB with
   | some cN=>Ev.exs P' w b cN h2
   | none=>.bad) (ck:=s.2) o2.f (fun q hq=>⟨(q2 q hq).1,(q2 q hq).2 rfl⟩) (fun v d fr g af M h S aq y f q=>by
  split at y
  ·rename_i cN y1
   obtain ⟨jh,b1,b2,b3,b4⟩:=f.cB y1 q
   rw [b1]
   obtain ⟨g',bN,M',h',S',c1,c2,c3⟩:=ib y b2
   exact ⟨g',bN,M',h',S',c1,c2,(⟨b2,(ek.refl b2).tr,b3,b4⟩:ek M _ h S fr aq M h S cN jh).trans f c3⟩
  ·cases y) z (ek.refl o2.f) q1
 refine ⟨g',bN,M',h',S',?_,u2,o3.trans f u3⟩
 simp only [Ev.ex,e1,Ev.ay]
 exact u1
theorem uo {t:E}{b:Ss}(ib:pJ P P' w b):∀ (n:Nat) {fr:Fr}{g:Fl}{af:Fr}{M B:Nat→Prop}{h:Hh}{S:Nat→Prop}{aq:Ev.Fr},ee (fun aB=>aK P t aB) (fun aB=>exs P w b aB) n fr=.ok g af→bI M B h S fr aq→
  ∃ g' bN M' h' S',Ev.ee (fun aB h2=>Ev.aK P' t aB h2) (fun aB h2=>Ev.exs P' w b aB h2) n aq h=.ok (g',bN) h'∧gS h' S' g g'∧ek M B h S fr aq M' h' S' af bN
 | 0,_,_,_,_,_,_,_,_,z,_=>by simp only [ee] at z;cases z
 | n+1,fr,g,af,M,B,h,S,aq,z,f=>by
  simp only [ee] at z
  replace z:=aj z;obtain ⟨k,aB,z1,z⟩:=z
  obtain ⟨h1,S1,e1,o1⟩:=gA HP t z1 f
  cases k with
  | false=>
   simp only [Bool.false_eq_true,if_false] at z
   cases z
   refine ⟨.nx,aq,M,h1,S1,?_,rfl,o1.s⟩
   simp only [Ev.ee,e1,Ev.ay]
   rw [if_neg (by decide)]
  | true=>
   simp only [if_true] at z
   replace z:=aj z;obtain ⟨p,cN,z2,z⟩:=z
   obtain ⟨g',jh,M2,h2,S2,t1,t2,t3⟩:=ib z2 o1.f
   have o2:=o1.s.trans f t3
   cases p with
   | nx=>
    simp only [gS] at t2;subst t2
    simp only at z
    obtain ⟨pK,CF,M3,h3,S3,u1,u2,u3⟩:=uo ib n z t3.f
    refine ⟨pK,CF,M3,h3,S3,?_,u2,o2.trans f u3⟩
    simp only [Ev.ee,e1,Ev.ay,if_true,t1]
    exact u1
   | ct=>
    simp only [gS] at t2;subst t2
    simp only at z
    obtain ⟨pK,CF,M3,h3,S3,u1,u2,u3⟩:=uo ib n z t3.f
    refine ⟨pK,CF,M3,h3,S3,?_,u2,o2.trans f u3⟩
    simp only [Ev.ee,e1,Ev.ay,if_true,t1]
    exact u1
   | bk=>
    simp only [gS] at t2;subst t2
    simp only at z
    cases z
    refine ⟨.nx,jh,M2,h2,S2,?_,rfl,o2⟩
    simp only [Ev.ee,e1,Ev.ay,if_true,t1]
   | ret x=>
    simp only [gS] at t2
    obtain ⟨d2,rfl,t2⟩:=t2
    simp only at z
    cases z
    refine ⟨.ret d2,jh,M2,h2,S2,?_,⟨d2,rfl,t2⟩,o2⟩
    simp only [Ev.ee,e1,Ev.ay,if_true,t1]
theorem KD {t:E}{a b:Ss}(ia:pJ P P' w a) (ib:pJ P P' w b):oE P P' w (.iff t a b):=fun {fr g af M B h S aq} z f=>by
 simp only [ex] at z
 replace z:=aj z;obtain ⟨k,aB,z1,z⟩:=z
 obtain ⟨h1,S1,e1,o1⟩:=gA HP t z1 f
 cases k with
 | true=>
  simp only [if_true] at z
  obtain ⟨g',bN,M',h',S',c1,c2,c3⟩:=ia z o1.f
  exact ⟨g',bN,M',h',S',by simp only [Ev.ex,e1,Ev.ay,if_true,c1],c2,o1.s.trans f c3⟩
 | false=>
  simp only [Bool.false_eq_true,if_false] at z
  obtain ⟨g',bN,M',h',S',c1,c2,c3⟩:=ib z o1.f
  exact ⟨g',bN,M',h',S',by simp only [Ev.ex,e1,Ev.ay];rw [if_neg (by decide)];exact c1,c2,o1.s.trans f c3⟩
mutual
theorem Ot:∀ s:S,oE P P' w s
 | .set _ _=>G3 HP
 | .xR _ _=>G4 HP
 | .exp _=>Kz HP
 | .ret _=>KA HP
 | .iff _ a b=>KD HP (kJ a) (kJ b)
 | .for _ _ b=>KC HP (kJ b)
 | .qY _ b=>fun z f=>by
  simp only [ex] at z
  obtain ⟨g',bN,M',h',S',c1,c2,c3⟩:=uo HP (kJ b) w z f
  exact ⟨g',bN,M',h',S',by simp only [Ev.ex];exact c1,c2,c3⟩
 | .gy=>fun z _=>by simp only [ex] at z;cases z
theorem kJ:∀ s:Ss,pJ P P' w s
 | .nil=>fun z f=>by simp only [exs] at z;cases z;exact ⟨.nx,_,_,_,_,by simp only [Ev.exs],rfl,.refl f⟩
 | .cons s ss=>fun z f=>by
  simp only [exs] at z
  replace z:=aj z;obtain ⟨p,aB,z1,z⟩:=z
  obtain ⟨g',lz,M2,h2,S2,t1,t2,t3⟩:=Ot s z1 f
  cases p with
  | nx=>
   simp only [gS] at t2;subst t2
   simp only at z
   obtain ⟨pK,jh,M3,h3,S3,u1,u2,u3⟩:=kJ ss z t3.f
   exact ⟨pK,jh,M3,h3,S3,by simp only [Ev.exs,t1,Ev.ay,u1],u2,t3.trans f u3⟩
  | ct=>
   simp only [gS] at t2;subst t2
   simp only at z
   cases z
   exact ⟨.ct,lz,M2,h2,S2,by simp only [Ev.exs,t1,Ev.ay],rfl,t3⟩
  | bk=>
   simp only [gS] at t2;subst t2
   simp only at z
   cases z
   exact ⟨.bk,lz,M2,h2,S2,by simp only [Ev.exs,t1,Ev.ay],rfl,t3⟩
  | ret x=>
   simp only [gS] at t2
   obtain ⟨d2,rfl,t2⟩:=t2
   simp only at z
   cases z
   exact ⟨.ret d2,lz,M2,h2,S2,by simp only [Ev.exs,t1,Ev.ay],⟨d2,rfl,t2⟩,t3⟩
end
end
theorem qz {h:Hh}{S:Nat→Prop}{B:Nat→Prop}{h0:Hh}{S0:Nat→Prop}:∀ {sl:List Sl}{ds:List D}{cs:Fr},sl.length=ds.length→
  (∀ (a:Nat) s d,sl[a]?=some s→ds[a]?=some d→ku B B h0 S0 (some s) (some d)∧locked cs a=wA (some s)∧(wA (some s)=true→∃ m es l s',d=.ref m∧h[m]?=some (.lst es)∧aC h S l es∧cs[a]?=some (some s')∧s'.out=some l))→mK h S sl ds ((cs.take sl.length).filterMap fun o=>o.bind Sl.out)
 | [],ds,cs,_,_=>by simp [mK]
 | s :: sl,[],cs,hl,_=>by simp at hl
 | s :: sl,d :: ds,[],hl,q=>by
  have ih:=qz (h:=h) (S:=S) (sl:=sl) (ds:=ds) (cs:=[]) (by simpa using hl) fun a s' d' e1 e2=>by
   obtain ⟨w1,w2,w3⟩:=q (a+1) s' d' (by simpa using e1) (by simpa using e2)
   exact ⟨w1,by simpa [locked] using w2,fun z=>by obtain ⟨_,_,_,_,_,_,_,y,_⟩:=w3 z;simp at y⟩
  obtain ⟨w1,w2,w3⟩:=q 0 s d (by simp) (by simp)
  cases s with
  | val v=>simp at ih ⊢;exact ⟨d,ds,rfl,ih⟩
  | own l=>exact absurd w1 (by rintro ⟨m,es,e,q,_⟩;exact q.2 q.1)
  | bor l=>obtain ⟨_,_,_,_,_,_,_,y,_⟩:=w3 rfl;simp at y
  | ro l=>obtain ⟨_,_,_,_,_,_,_,y,_⟩:=w3 rfl;simp at y
 | s :: sl,d :: ds,o :: cs,hl,q=>by
  have ih:=qz (h:=h) (S:=S) (sl:=sl) (ds:=ds) (cs:=cs) (by simpa using hl) fun a s' d' e1 e2=>by
   obtain ⟨w1,w2,w3⟩:=q (a+1) s' d' (by simpa using e1) (by simpa using e2)
   exact ⟨w1,by simpa [locked] using w2,fun z=>by simpa using w3 z⟩
  obtain ⟨w1,w2,w3⟩:=q 0 s d (by simp) (by simp)
  cases s with
  | val v=>
   have:o.bind Sl.out=none:=by
    simp [locked] at w2
    rcases o with _ | s
    ·rfl
    ·cases s <;> first | rfl | cases w2
   simp only [List.length_cons,List.take_succ_cons,List.filterMap_cons,this]
   exact ⟨d,ds,rfl,ih⟩
  | own l=>exact absurd w1 (by rintro ⟨m,es,e,q,_⟩;exact q.2 q.1)
  | bor l=>
   obtain ⟨m,es,l',s',a1,a2,a3,a4,a5⟩:=w3 rfl
   simp at a4;subst a4
   simp only [List.length_cons,List.take_succ_cons,List.filterMap_cons,Option.bind,a5]
   exact ⟨d,ds,l',_,m,es,rfl,rfl,a1,a2,a3,ih⟩
  | ro l=>
   obtain ⟨m,es,l',s',a1,a2,a3,a4,a5⟩:=w3 rfl
   simp at a4;subst a4
   simp only [List.length_cons,List.take_succ_cons,List.filterMap_cons,Option.bind,a5]
   exact ⟨d,ds,l',_,m,es,rfl,rfl,a1,a2,a3,ih⟩
theorem AE (F:List Fn) (w:Nat):∀ n,pq (run F w n) (Ev.run F w n)
 | 0=>fun f sl v os e=>by simp [run] at e
 | n+1=>fun f sl v os e h S B ds F0=>by
  have HP:=AE F w n
  simp only [run] at e
  cases z:F[f]? with
  | none=>rw [z] at e;cases e
  | some fn=>
  rw [z] at e
  simp only at e
  split at e
  case isFalse=>cases e
  rename_i hl
  have hlen:sl.length=ds.length:=by have:=F0.len;simpa using this
  have f1:bI B B h S (fE fn sl) (Ev.fE fn ds):=by
   unfold fE Ev.fE
   have sp:∀ (i:Nat) o,(sl.map some++List.replicate (fn.ns - fn.np) none)[i]?=some o→(sl.map some)[i]?=some o∨(sl.length≤i∧o=none):=fun i o y=>by
    by_cases hi:i<sl.length
    ·rw [List.getElem?_append_left (by simpa using hi)] at y;exact .inl y
    ·rw [List.getElem?_append_right (by simpa using hi)] at y
     have:=List.mem_of_getElem? y
     exact .inr ⟨by omega,(List.mem_replicate.mp this).2⟩
   have lo:∀ (i:Nat) p,i<sl.length→(ds.map some++List.replicate (fn.ns - fn.np) none)[i]?=some p→(ds.map some)[i]?=some p:=fun i p hi y=>by
    rw [List.getElem?_append_left (by simpa [←hlen] using hi)] at y;exact y
   refine ⟨F0.wS,F0.wM,F0.wB,by simp [hlen],fun i o p y1 y2=>?_,fun i j o o' m y1 y2 y3 y4 y5 y6=>?_⟩
   ·rcases sp i o y1 with y1 | ⟨hi,rfl⟩
    ·have hi:i<sl.length:=by have:=(List.getElem?_eq_some_iff.mp y1).1;simpa using this
     exact F0.sl i o p y1 (lo i p hi y2)
    ·rw [List.getElem?_append_right (by simpa [←hlen] using hi)] at y2
     have:=List.mem_of_getElem? y2
     exact (List.mem_replicate.mp this).2
   ·rcases sp i o y1 with y1 | ⟨hi,rfl⟩
    ·rcases sp j o' y2 with y2 | ⟨hj,rfl⟩
     ·have hi:i<sl.length:=by have:=(List.getElem?_eq_some_iff.mp y1).1;simpa using this
      have hj:j<sl.length:=by have:=(List.getElem?_eq_some_iff.mp y2).1;simpa using this
      exact F0.inj i j o o' m y1 y2 y3 y4 (lo i _ hi y5) (lo j _ hj y6)
     ·cases y4
    ·cases y3
  have fin:∀ {g:Fl} {af:Fr},exs (run F w n) w fn.body (fE fn sl)=.ok g af→∃ g' bN M' h' S',Ev.exs (Ev.run F w n) w fn.body (Ev.fE fn ds) h=.ok (g',bN) h'∧gS h' S' g g'∧Tk B h S h' S'∧mK h' S' sl ds (outs fn.np af):=fun {g af} y=>by
   obtain ⟨g',bN,M',h',S',c1,c2,c3⟩:=kJ HP fn.body y f1
   refine ⟨g',bN,M',h',S',c1,c2,⟨c3.tr.len,fun m y1 y2=>c3.tr.keep m y1 y2,c3.tr.sub,fun m q=>?_⟩,?_⟩
   ·rcases c3.tr.new m q with q | q | q
    ·exact .inl q
    ·exact .inr q
    ·exact absurd q.1 q.2
   ·unfold outs
    rw [←hl]
    refine qz (B:=B) (h0:=h) (S0:=S) hlen fun a s d e1 e2=>?_
    have ha:a<sl.length:=(List.getElem?_eq_some_iff.mp e1).1
    have h0:(fE fn sl)[a]?=some (some s):=by unfold fE;rw [List.getElem?_append_left (by simpa using ha)];simp [e1]
    have hlk:locked af a=wA (some s):=by rw [c3.lk a];unfold locked;rw [h0]
    refine ⟨F0.sl a _ _ (by simp [e1]) (by simp [e2]),hlk,fun hk=>?_⟩
    have hr:=c3.rf a (by unfold locked;rw [h0];exact hk)
    have hd:(Ev.fE fn ds)[a]?=some (some d):=by unfold Ev.fE;rw [List.getElem?_append_left (by simpa [←hlen] using ha)];simp [e2]
    rw [hd] at hr
    cases y2:af[a]? with
    | none=>unfold locked at hlk;rw [y2] at hlk;rw [←hlk] at hk;cases hk
    | some o=>
     have sr:=c3.f.sl a _ _ y2 hr
     unfold locked at hlk
     rw [y2,hk] at hlk
     rcases o with _ | s'
     ·cases hlk
     ·cases s' with
      | val v=>cases hlk
      | own l=>cases hlk
      | bor l=>obtain ⟨m,es,e,_,k1,k2⟩:=sr;cases e;exact ⟨m,es,l,_,rfl,k1,k2,rfl,rfl⟩
      | ro l=>obtain ⟨m,es,e,_,k1,k2⟩:=sr;cases e;exact ⟨m,es,l,_,rfl,k1,k2,rfl,rfl⟩
  simp only [Ev.run,z]
  have hl':ds.length=fn.np:=by omega
  rw [if_pos hl']
  split at e
  ·rename_i v' af y
   cases e
   obtain ⟨g',bN,M',h',S',c1,c2,c3,c4⟩:=fin y
   simp only [gS] at c2
   obtain ⟨d,rfl,c2⟩:=c2
   exact ⟨d,h',S',by simp only [Ev.endOf,c1,Ev.ay],c2,c3,c4⟩
  ·rename_i af y
   cases e
   obtain ⟨g',bN,M',h',S',c1,c2,c3,c4⟩:=fin y
   simp only [gS] at c2
   subst c2
   exact ⟨.bz,h',S',by simp only [Ev.endOf,c1,Ev.ay],rfl,c3,c4⟩
  ·cases e
end Pv
namespace Pv
open Ev (D O Hh Fn)
theorem G5 {F:List Fn}{w n f:Nat}{ns:List Int}(e:run F w n f [.val (.bO (ns.map V.int))]=some (.bl true,[])):∃ h',Ev.run F w n f [.ref 0] [.bO (ns.map D.int)]=.ok (.bl true) h':=by
 have F0:bI (fun _=>False) (fun _=>False) [O.bO (ns.map D.int)] (fun m=>m=0) ([Sl.val (.bO (ns.map V.int))].map some) ([D.ref 0].map some):=by
  refine ⟨fun m q=>⟨by subst q;simp,id,id⟩,fun m q=>q.elim,fun m q=>q.elim,rfl,fun i o p y1 y2=>?_,fun i j o o' m y1 y2 y3 y4 y5 y6=>?_⟩
  ·cases i with
   | zero=>
    simp at y1 y2;subst y1 y2
    refine ⟨.ref 0,rfl,?_⟩
    simp only [Rep]
    exact ⟨0,_,rfl,rfl,rfl,aC.map (f:=V.int) (g:=D.int) (fun _=>by simp [Rep]) ns⟩
   | succ i=>simp at y1
  ·cases i with
   | zero=>simp at y1;subst y1;cases y3
   | succ i=>simp at y1
 obtain ⟨d,h',S',a,b,_,_⟩:=AE F w n f _ _ _ e _ _ _ _ F0
 simp only [Rep] at b
 subst b
 exact ⟨h',a⟩
end Pv
namespace Pv
open Ev (D cF bY TY BI ME T E Es Eo It S Ss Fn big deep b2i rep cH eG bU aR cut cS eB slots)
theorem cy {n:Nat}(h:n≤100000):n≤big:=Nat.le_trans h (by decide)
@[simp] theorem WX:1≤big:=cy (by decide)
@[simp] theorem WY:2≤big:=cy (by decide)
section
variable {i j:Int}{a b:List Nat}{x y:List V}{d e:V}{m n:Nat}{k l:Bool}
theorem er (h:x.length≤big):ef x=some (.lst x):=by simp [ef,h]
theorem jL (h:x.length≤big):jI x=some (.tup x):=by simp [jI,h]
@[simp] theorem nq:ef []=some (.lst []):=er (cy (by simp))
@[simp] theorem Ou:jI []=some (.tup []):=jL (cy (by simp))
@[simp] theorem sC {a}:ef [a]=some (.lst [a]):=er (cy (by simp))
@[simp] theorem sD {a}:jI [a]=some (.tup [a]):=jL (cy (by simp))
@[simp] theorem Ov {a b}:ef [a,b]=some (.lst [a,b]):=er (cy (by simp))
@[simp] theorem sE {a b}:jI [a,b]=some (.tup [a,b]):=jL (cy (by simp))
@[simp] theorem Ow {a b c}:jI [a,b,c]=some (.tup [a,b,c]):=jL (cy (by simp))
@[simp] theorem fX:bR .add (.int i) (.int j)=some (.int (i+j)):=nd rfl
theorem lD (h:a.length+b.length≤100000):bR .add (.str a) (.str b)=some (.str (a++b)):=by delta bR;dsimp only;simp [cy h]
theorem uq (h:x.length+y.length≤100000):bR .add (.tup x) (.tup y)=some (.tup (x++y)):=by delta bR;dsimp only;simp [cy h]
@[simp] theorem CG:bR .sub (.int i) (.int j)=some (.int (i - j)):=nd rfl
@[simp] theorem oF:bR .mul (.int i) (.int j)=if cH i j then some (.int (i*j)) else none:=nd rfl
theorem CH (h0:0≤j) (h1:j≤1000) (h2:a.length≤1000):bR .mul (.str a) (.int j)=some (.str (rep j.toNat a)):=by delta bR;dsimp only;simp [h0,h1,h2]
theorem CJ (h0:0≤j) (h1:j≤1000) (h2:x.length≤1000):bR .mul (.tup x) (.int j)=some (.tup (rep j.toNat x)):=by delta bR;dsimp only;simp [h0,h1,h2]
theorem CK (h0:0≤j) (h1:j≤1000) (h2:x.length≤1000) (h3:(rep j.toNat x).length≤100000):bR .mul (.lst x) (.int j)=some (.lst (rep j.toNat x)):=by delta bR;dsimp only;simp [h0,h1,h2,er (cy h3)]
@[simp] theorem CL:bR .fdiv (.int i) (.int j)=if 0<j∧j<1073741824 then some (.int (i / j)) else none:=nd rfl
@[simp] theorem G6:bR .mod (.int i) (.int j)=if 0<j then some (.int (i % j)) else none:=nd rfl
@[simp] theorem KG:cop .eq d e=dH deep d e:=nd rfl
@[simp] theorem ur:cop .ne d e=(dH deep d e).map (!·):=nd rfl
@[simp] theorem Vx:cop .isin d e=isin d e:=nd rfl
@[simp] theorem SN:isin d (.tup x)=mem d x:=nd rfl
@[simp] theorem UN:mem d []=some false:=nd rfl
@[simp] theorem mem_cons:mem d (e :: x)=(dH deep e d).bind fun b=>(mem d x).bind fun c=>some (b || c):=nd rfl
@[simp] theorem KH:dH (n+1) (.int i) (.int j)=some (decide (i=j)):=by show some (i==j)=_;by_cases h:i=j <;> simp [h]
@[simp] theorem KI:dH (n+1) (.str a) (.str b)=some (decide (a=b)):=by show some (a==b)=_;by_cases h:a=b <;> simp [h]
@[simp] theorem Vy:dH (n+1) (.str a) (.int i)=some false:=nd rfl
@[simp] theorem Vz:dH (n+1) (.int i) (.str a)=some false:=nd rfl
@[simp] theorem VA:dH (n+1) (.tup x) (.tup y)=cI (dH n) x y:=nd rfl
@[simp] theorem wI:dH deep (.int i) (.int j)=some (decide (i=j)):=KH
@[simp] theorem wJ:dH deep (.str a) (.str b)=some (decide (a=b)):=KI
@[simp] theorem UO:dH deep (.str a) (.int i)=some false:=nd rfl
@[simp] theorem UP:dH deep (.int i) (.str a)=some false:=nd rfl
@[simp] theorem G7:dH deep (.tup x) (.tup y)=cI (dH (18+1)) x y:=nd rfl
@[simp] theorem G8:dH deep (.lst x) (.lst y)=cI (dH (18+1)) x y:=nd rfl
@[simp] theorem UQ {f:V→V→Option Bool}:cI f [] []=some true:=nd rfl
@[simp] theorem VB {f:V→V→Option Bool}:cI f [] (d :: x)=some false:=nd rfl
@[simp] theorem VC {f:V→V→Option Bool}:cI f (d :: x) []=some false:=nd rfl
@[simp] theorem SO {f:V→V→Option Bool}:cI f (d :: x) (e :: y)=(f d e).bind fun b=>(cI f x y).bind fun c=>some (b&&c):=nd rfl
theorem wK {α:Type} [DecidableEq α] {f:V→V→Option Bool}{g:α→V}(h:∀ a b,f (g a) (g b)=some (decide (a=b))):∀ l m:List α,cI f (l.map g) (m.map g)=some (decide (l=m))
 | [],[]=>by simp
 | [],_ :: _=>by simp
 | _ :: _,[]=>by simp
 | a :: l,b :: m=>by simp [h,wK h l m]
@[simp] theorem qB:eH (.str a) (.int i)=(bU a i).map fun c=>.str [c]:=nd rfl
@[simp] theorem wL:eH (.lst x) (.int i)=bU x i:=nd rfl
@[simp] theorem gk {lo hi:Option Int}:eV (.str a) lo hi=some (.str (cut a lo hi)):=nd rfl
@[simp] theorem qC {lo hi:Option Int}:eV (.lst x) lo hi=ef (cut x lo hi):=nd rfl
theorem len_str (h:a.length≤100000):cV .len [.str a]=some (.int a.length):=by delta cV;dsimp only;simp [cy h]
@[simp] theorem wN:cV .len [.lst x]=some (.int x.length):=nd rfl
@[simp] theorem wO:cV .len [.bO x]=some (.int x.length):=nd rfl
@[simp] theorem G9:cV .sum [.lst x]=(intsOf x).map fun is=>.int is.sum:=nd rfl
@[simp] theorem KJ:cV .min [.int i,.int j]=some (.int (if j<i then j else i)):=nd rfl
@[simp] theorem KL:cV .max [.int i,.int j]=some (.int (if j > i then j else i)):=nd rfl
@[simp] theorem wQ:toT (.lst x)=jI x:=nd rfl
theorem KN (h0:0≤j) (h1:j≤100000):eL [.int j]=some (range 0 j.toNat):=by
 simp only [eL];rw [if_pos ⟨by omega,by omega⟩]
theorem yr {α:Type}(g:α→Int) (l:List α):intsOf (l.map fun x=>.int (g x))=some (l.map g):=by induction l <;> simp [intsOf, *]
theorem pL {α:Type}(g:α→List Nat) (l:List α):strsOf (l.map fun x=>.str (g x))=some (l.map g):=by induction l <;> simp [strsOf, *]
theorem rH:∀ l:List (List Nat),cS [] l=l.flatten
 | []=>rfl
 | [s]=>by simp [cS]
 | s :: t :: r=>by simp [cS,rH (t :: r)]
@[simp] theorem VD:truthy (.bl k)=k:=nd rfl
@[simp] theorem UR:truthy (.lst x) = !x.isEmpty:=nd rfl
theorem EO {l:List (List Nat)}(h:l.flatten.length≤100000):fc .join (.str []) [.lst (l.map V.str)]=some (.str l.flatten):=by
 have hs:=pL (fun x=>x) l
 have:(l.map (·.length)).sum≤big:=cy (by rw [←List.length_flatten];exact h)
 simp only [List.map_id'] at hs
 have hs':strsOf (l.map V.str)=some l:=by simpa using pL (fun x=>x) l
 delta fc;dsimp only;simp [jX,hs',rH,this]
end
theorem j0 {α:Type}{f:V→Option (Option V)}(e:α→V) (g:α→V) (l:List α) (h:∀ a∈l,f (e a)=some (some (g a))):cT f (l.map e)=some (l.map g):=by
 induction l with
 | nil=>rfl
 | cons a l ih=>simp only [List.map_cons,cT,h a (by simp),ih fun u hu=>h u (by simp [hu]),Option.bind];rfl
theorem mR {α:Type}{f:V→Option (Option V)}(e:α→V) (p:α→Bool) (g:α→V) (l:List α) (h:∀ a∈l,f (e a)=some (if p a then some (g a) else none)):cT f (l.map e)=some ((l.filter p).map g):=by
 induction l with
 | nil=>rfl
 | cons a l ih=>
  simp only [List.map_cons,cT,h a (by simp),ih fun u hu=>h u (by simp [hu]),Option.bind]
  cases z:p a <;> simp [z]
noncomputable def Wp {α:Type}(r:R α) (Q:α→Fr→Prop):Prop:=∃ a h,r=.ok a h∧Q a h
section
variable {α β:Type}{Q Q':α→Fr→Prop}
@[simp] theorem j3 (a:α) (h:Fr):Wp (.ok a h) Q=Q a h:=propext ⟨fun ⟨_,_,e,q⟩=>by cases e;exact q,fun q=>⟨_,_,rfl,q⟩⟩
@[simp] theorem VE:Wp (.bad:R α) Q=False:=propext ⟨fun q=>(by obtain ⟨_,_,e,_⟩:=q;cases e),False.elim⟩
@[simp] theorem wp_bind (r:R β) (f:β→Fr→R α):Wp (r.bind f) Q=Wp r fun a h=>Wp (f a h) Q:=by cases r <;> simp
theorem Wp.mono {r:R α}(h:Wp r Q) (f:∀ a h,Q a h→Q' a h):Wp r Q':=by
 obtain ⟨a,h',e,q⟩:=h
 exact ⟨a,h',e,f a h' q⟩
end
noncomputable def fl (I Q:Fr→Prop) (X:V→Fr→Prop):Fl→Fr→Prop
 | .nx,fr=>I fr
 | .ct,fr=>I fr
 | .bk,fr=>Q fr
 | .ret v,fr=>X v fr
section
variable {I J:Fr→Prop}{X:V→Fr→Prop}{fr:Fr}{v:V}
@[simp] theorem dU:fl I J X .nx fr=I fr:=nd rfl
end
theorem uu {f:V→Fr→R Fl}{Q:Fl→Fr→Prop}(I:List V→Fr→Prop) (turn:∀ d l fr,I (d :: l) fr→Wp (f d fr) (fl (I l) (Q .nx) fun v=>Q (.ret v))) (fin:∀ fr,I [] fr→Q .nx fr):∀ (ds:List V) (fr:Fr),I ds fr→Wp (forL f ds fr) Q
 | [],fr,i=>by simp only [forL,j3];exact fin fr i
 | d :: ds,fr,i=>by
  simp only [forL,wp_bind]
  refine (turn d ds fr i).mono fun p h2 q=>?_
  cases p with
  | nx=>exact uu I turn fin ds h2 q
  | ct=>exact uu I turn fin ds h2 q
  | bk=>exact (j3 _ _).mpr q
  | ret x=>exact (j3 _ _).mpr q
theorem gT {α:Type}{e:α→V}{f:V→Fr→R Fl}{Q:Fl→Fr→Prop}(I:List α→List α→Fr→Prop) (turn:∀ p a l fr,I p (a :: l) fr→Wp (f (e a) fr) (fl (I (p++[a]) l) (Q .nx) fun v=>Q (.ret v))) (fin:∀ p fr,I p [] fr→Q .nx fr):∀ (l p:List α) (fr:Fr),I p l fr→Wp (forL f (l.map e) fr) Q
 | [],p,fr,i=>by simp only [List.map_nil,forL,j3];exact fin p fr i
 | a :: l,p,fr,i=>by
  simp only [List.map_cons,forL,wp_bind]
  refine (turn p a l fr i).mono fun g h2 q=>?_
  cases g with
  | nx=>exact gT I turn fin l _ h2 q
  | ct=>exact gT I turn fin l _ h2 q
  | bk=>exact (j3 _ _).mpr q
  | ret x=>exact (j3 _ _).mpr q
theorem qD {f:V→Fr→R Fl}{Q:Fl→Fr→Prop}{lo:Int}{N:Nat}(I:Nat→Fr→Prop) (turn:∀ (k:Nat) fr,k<N→I k fr→Wp (f (.int (lo+(k:Nat))) fr) (fl (I (k+1)) (Q .nx) fun v=>Q (.ret v))) (fin:∀ fr,I N fr→Q .nx fr) {fr:Fr}(i:I 0 fr):Wp (forL f (range lo N) fr) Q:=by
 have h:=gT (e:=fun (k:Nat)=>V.int (lo+k)) (f:=f) (Q:=Q) (fun p l fr=>∃ k,k≤N∧p=List.range k∧p++l=List.range N∧I k fr)
  (fun p a l fr ⟨k,hk,hp,hl,q⟩=>by
   subst hp
   have hlen:=congrArg List.length hl
   simp at hlen
   have ha:a=k:=by
    have:=congrArg (·[k]?) hl
    simp [List.getElem?_append_right] at this
    rw [List.getElem?_range (by omega)] at this
    simpa using this
   subst ha
   refine (turn a fr (by omega) q).mono fun g h2 z=>?_
   cases g with
   | nx=>exact ⟨a+1,by omega,by simp [List.range_succ],by simpa using hl,z⟩
   | ct=>exact ⟨a+1,by omega,by simp [List.range_succ],by simpa using hl,z⟩
   | bk=>exact z
   | ret x=>exact z)
  (fun p fr ⟨k,hk,hp,hl,q⟩=>by
   subst hp
   have hlen:=congrArg List.length hl
   simp at hlen
   subst hlen
   exact fin fr q) (List.range N) [] fr ⟨0,Nat.zero_le _,rfl,by simp,i⟩
 exact h
theorem uv {t:Fr→R Bool}{f:Fr→R Fl}{Q:Fl→Fr→Prop}(I:Nat→Fr→Prop) (turn:∀ k fr,I k fr→Wp (t fr) fun b af=>if b then Wp (f af) (fl (fun aB=>∃ j,j<k∧I j aB) (Q .nx) fun v=>Q (.ret v)) else Q .nx af):∀ (n k:Nat) (fr:Fr),k<n→I k fr→Wp (ee t f n fr) Q
 | 0,k,fr,hk,_=>by omega
 | n+1,k,fr,hk,i=>by
  simp only [ee,wp_bind]
  refine (turn k fr i).mono fun b af q=>?_
  cases b with
  | false=>simpa using q
  | true=>
   simp only [if_true,wp_bind] at q ⊢
   refine q.mono fun g aB z=>?_
   cases g with
   | nx=>obtain ⟨j,hj,z⟩:=z;exact uv I turn n j aB (by omega) z
   | ct=>obtain ⟨j,hj,z⟩:=z;exact uv I turn n j aB (by omega) z
   | bk=>exact (j3 _ _).mpr z
   | ret x=>exact (j3 _ _).mpr z
noncomputable def fin (np:Nat):R Fl→Option (V×List (List V))
 | .ok (.ret v) fr=>some (v,outs np fr)
 | .ok .nx fr=>some (.bz,outs np fr)
 | _=>none
@[simp] theorem wR {np:Nat} {v:V} {fr:Fr}:fin np (.ok (.ret v) fr)=some (v,outs np fr):=nd rfl
theorem run_eq {F:List Fn}{w n f:Nat}{ds:List Sl}{fn:Fn}(hf:F[f]?=some fn) (hl:ds.length=fn.np):run F w (n+1) f ds=fin fn.np (exs (run F w n) w fn.body (fE fn ds)):=by
 simp only [run,hf,hl,if_true]
 cases exs (run F w n) w fn.body (fE fn ds) with
 | bad=>rfl
 | ok g fr=>cases g <;> rfl
theorem cY {F:List Fn}{w n f:Nat}{ds:List Sl}{fn:Fn}{v:V}{os:List (List V)}(hf:F[f]?=some fn) (hl:ds.length=fn.np) (q:Wp (exs (run F w n) w fn.body (fE fn ds)) fun g fr=>g=.ret v∧outs fn.np fr=os):run F w (n+1) f ds=some (v,os):=by
 rw [run_eq hf hl]
 obtain ⟨g,fr,e,rfl,rfl⟩:=q
 rw [e];rfl
section
variable {P:aU}{w:Nat}{fr:Fr}{k:Bool}{a b c:E}{es:Es}{ss sa sb:Ss}{st:S}{lo hi:Eo}{it:It}
@[simp] theorem SQ {d:D}:ev P k (.c d) fr=R.of (ofD d) fr:=by rw [ev]
@[simp] theorem SS {i:Nat}:ev P k (.v i) fr=R.of (qw k fr i) fr:=by rw [ev]
@[simp] theorem KO:ev P k (.tup es) fr=(cj P false es fr).bind fun ds af=>R.of (jI ds) af:=by rw [ev]
@[simp] theorem KP:ev P k (.lst es) fr=(cj P false es fr).bind fun ds af=>R.of (ef ds) af:=by rw [ev]
@[simp] theorem KQ {o:cF}:ev P k (.bin o a b) fr=(ev P (kf a (bM b)) a fr).bind fun x af=>(ev P true b af).bind fun y aB=>R.of (bR o x y) aB:=by rw [ev]
@[simp] theorem KR {o:bY}:ev P k (.cmp o a b) fr=(ev P (kf a (bM b)) a fr).bind fun x af=>(ev P true b af).bind fun y aB=>R.of ((cop o x y).map .bl) aB:=by rw [ev]
noncomputable def VF:V→Fr→R V:=fun x h1=>match x with
 | .bl b=>.ok (.bl (!b)) h1
 | _=>.bad
@[simp] theorem Ox:ev P k (.nt a) fr=(ev P true a fr).bind VF:=by rw [ev];rfl
noncomputable def SV:V→Fr→R V:=fun x h1=>match x with
 | .int i=>.ok (.int (-i)) h1
 | _=>.bad
@[simp] theorem KS:ev P k (.neg a) fr=(ev P true a fr).bind SV:=by rw [ev];rfl
noncomputable def Qh (r:Fr→R V):V→Fr→R V:=fun x h1=>match x with
 | .bl true=>r h1
 | .bl false=>.ok (.bl false) h1
 | _=>.bad
@[simp] theorem KU {k:Bool} {r:Fr→R V}:Qh r (.bl k) fr=if k then r fr else .ok (.bl false) fr:=by cases k <;> rfl
@[simp] theorem Oz:ev P k (.an a b) fr=(ev P true a fr).bind (Qh fun h1=>ev P k b h1):=by rw [ev];rfl
noncomputable def VG (r:Fr→R V):V→Fr→R V:=fun x h1=>match x with
 | .bl true=>.ok (.bl true) h1
 | .bl false=>r h1
 | _=>.bad
@[simp] theorem KW:ev P k (.orr a b) fr=(ev P true a fr).bind (VG fun h1=>ev P k b h1):=by rw [ev];rfl
@[simp] theorem KY:ev P k (.kB a b c) fr=(aK P a fr).bind fun t af=>if t then ev P k b af else ev P k c af:=by rw [ev]
@[simp] theorem OA:ev P k (.ix a b) fr=(ev P (kf a (bM b)) a fr).bind fun x af=>(ev P true b af).bind fun y aB=>R.of (eH x y) aB:=by rw [ev]
@[simp] theorem OB:ev P k (.sl a lo hi) fr=(ev P (kf a (kh lo++kh hi)) a fr).bind fun x af=>(fN P lo af).bind fun l aB=>(fN P hi aB).bind fun u cN=>R.of (eV x l u) cN:=by rw [ev]
@[simp] theorem OC:ev P k (.rv a) fr=(ev P true a fr).bind fun x af=>R.of (lR x) af:=by rw [ev]
@[simp] theorem OD {f:Nat}:ev P k (.cl f es) fr=(fP P es fr).bind fun as af=>fO P f as af:=by rw [ev]
@[simp] theorem OE {g:BI}:ev P k (.bi g es) fr=(cj P true es fr).bind fun ds af=>R.of (cV g ds) af:=by rw [ev]
noncomputable def CM (m:ME) (i:Nat):List V→Fr→R V:=fun ds af=>match af[i]? with
 | some (some (.own l))=>match jY m l ds with
  | some (v,l')=>.ok v (af.set i (some (.own l')))
  | none=>.bad
 | some (some (.bor l))=>match jY m l ds with
  | some (v,l')=>.ok v (af.set i (some (.bor l')))
  | none=>.bad
 | _=>.bad
theorem KZ {m:ME}{i:Nat}(hm:iT m=true):ev P k (.me m (.v i) es) fr=if (lent fr i).isSome then (cj P (Ak m) es fr).bind (CM m i) else .bad:=by
 rw [ev,if_pos hm]
 unfold kG
 cases z:(lent fr i).isSome <;> simp [z] <;> rfl
theorem K0 {m:ME}(hm:iT m=false):ev P k (.me m a es) fr=(ev P (kf a (fV es)) a fr).bind fun x af=>(cj P true es af).bind fun ds aB=>R.of (fc m x ds) aB:=by rw [ev,hm];rfl
@[simp] theorem K1 {ts:List TY}:ev P k (.mq a ts) fr=(ev P true a fr).bind fun x af=>.ok (.bl (ts.any (dw x))) af:=by rw [ev]
noncomputable def jq (P:aU) (elt:E) (t:T) (cond:Eo) (fr:Fr):V→Option (Option V):=fun d=>match cB t d (nQ fr) with
 | none=>none
 | some aB=>match gZ P cond aB with
  | .ok c _=>if c then (match ev P false elt aB with | .ok x _=>some (some x) | .bad=>none) else some none
  | .bad=>none
@[simp] theorem qq {elt:E} {t:T} {cond:Eo}:ev P k (.comp elt t it cond) fr=(cM P true it fr).bind fun s af=>if undef t af then R.of ((cT (jq P elt t cond af) s).bind ef) af else .bad:=by rw [ev];rfl
@[simp] theorem K2:ev P k (.jD it) fr=(cM P true it fr).bind fun s af=>R.of (ef s) af:=by rw [ev]
@[simp] theorem Hf {kvs:List (D×D)}:ev P k (.jE kvs a) fr=(ev P true a fr).bind fun x af=>R.of (eU x kvs) af:=by rw [ev]
@[simp] theorem K3:ev P k (.jF a) fr=(ev P true a fr).bind fun x af=>R.of (toT x) af:=by rw [ev]
@[simp] theorem Hg:cj P k .nil fr=.ok [] fr:=by rw [cj]
@[simp] theorem CN:cj P k (.cons a es) fr=(ev P (k&&kf a (fV es)) a fr).bind fun d af=>(cj P k es af).bind fun ds aB=>.ok (d :: ds) aB:=by rw [cj]
@[simp] theorem Hi:fP P .nil fr=.ok [] fr:=by rw [fP]
noncomputable def yu (P:aU) (a:E) (es:Es) (fr:Fr):Option Nat→R (List (Nat ⊕ V))
 | some i=>(fP P es fr).bind fun r af=>.ok (.inl i :: r) af
 | none=>(ev P false a fr).bind fun d af=>(fP P es af).bind fun r aB=>.ok (.inr d :: r) aB
@[simp] theorem yv {i:Nat}:yu P a es fr (some i)=(fP P es fr).bind fun r af=>.ok (.inl i :: r) af:=nd rfl
@[simp] theorem yw:yu P a es fr none=(ev P false a fr).bind fun d af=>(fP P es af).bind fun r aB=>.ok (.inr d :: r) aB:=nd rfl
@[simp] theorem uw:fP P (.cons a es) fr=yu P a es fr (kG fr a):=by rw [fP];cases kG fr a <;> rfl
@[simp] theorem K4:fN P .no fr=.ok none fr:=by rw [fN]
@[simp] theorem Hj:fN P (.yes a) fr=(ev P true a fr).bind fun d af=>R.of ((intOf d).map some) af:=by rw [fN]
@[simp] theorem K5:gZ P .no fr=.ok true fr:=by rw [gZ]
@[simp] theorem Hl:gZ P (.yes a) fr=aK P a fr:=by rw [gZ]
@[simp] theorem uy:aK P (.an a b) fr=(aK P a fr).bind fun k af=>if k then aK P b af else .ok false af:=by rw [aK]
@[simp] theorem wU:aK P (.orr a b) fr=(aK P a fr).bind fun k af=>if k then .ok true af else aK P b af:=by rw [aK]
@[simp] theorem K6:aK P (.nt a) fr=(aK P a fr).bind fun k af=>.ok (!k) af:=by rw [aK]
noncomputable def K7:V→Fr→R Bool:=fun x af=>.ok (truthy x) af
@[simp] theorem Ho {x:V}:K7 x fr=.ok (truthy x) fr:=nd rfl
@[simp] theorem Hq:cM P k (.seq a) fr=(src k fr a (ev P k a fr)).bind fun x af=>R.of (gj x) af:=by rw [cM]
@[simp] theorem Hr:cM P k (.iI es) fr=(cj P true es fr).bind fun ds af=>R.of (eL ds) af:=by rw [cM]
@[simp] theorem Hs:cM P k (.zip a b) fr=(src (k&&kf a (bM b)) fr a (ev P (k&&kf a (bM b)) a fr)).bind fun x af=>(src k af b (ev P k b af)).bind fun y aB=>R.of ((jX x).bind fun s=>(jX y).map fun t=>eW s t) aB:=by rw [cM]
@[simp] theorem Ht:cM P k (.rev a) fr=(ev P true a fr).bind fun x af=>R.of ((yo x).map fun s=>s.reverse) af:=by rw [cM]
noncomputable def K8 (i:Nat) (af:Fr):V→R Fl
 | .lst l=>(R.of (put af i (.own l)) af).bind fun aB _=>.ok .nx aB
 | _=>.bad
@[simp] theorem CO {i:Nat} {l:List V}:K8 i fr (.lst l)=(R.of (put fr i (.own l)) fr).bind fun aB _=>.ok .nx aB:=nd rfl
@[simp] theorem AF {i:Nat}:ex P w (.set i a) fr=(ev P false a fr).bind fun x af=>if isNew a then K8 i af x else (R.of (put af i (.val x)) af).bind fun aB _=>.ok .nx aB:=by
 rw [ex];rfl
@[simp] theorem K9:ex P w (.exp a) fr=(ev P true a fr).bind fun _ af=>.ok .nx af:=by rw [ex]
@[simp] theorem La:ex P w (.ret a) fr=(ev P false a (fq fr)).bind fun x af=>.ok (.ret x) af:=by rw [ex]
@[simp] theorem Lb:ex P w (.iff a sa sb) fr=(aK P a fr).bind fun k af=>if k then exs P w sa af else exs P w sb af:=by rw [ex]
noncomputable def turnF (P:aU) (w:Nat) (t:T) (b:Ss):V→Fr→R Fl:=fun d aB=>match cB t d aB with
 | some cN=>exs P w b cN
 | none=>.bad
@[simp] theorem tN {t:T}:ex P w (.for t it ss) fr=(cM P false it (sy (itv it) fr)).bind fun s af=>forL (turnF P w t ss) s af:=by rw [ex];rfl
@[simp] theorem Lc:ex P w (.qY a ss) fr=ee (fun aB=>aK P a aB) (fun aB=>exs P w ss aB) w fr:=by rw [ex]
@[simp] theorem Hu:exs P w .nil fr=.ok .nx fr:=by rw [exs]
noncomputable def OF (P:aU) (w:Nat) (ss:Ss):Fl→Fr→R Fl:=fun p h1=>match p with
 | .nx=>exs P w ss h1
 | p=>.ok p h1
@[simp] theorem CP:exs P w (.cons st ss) fr=(ex P w st fr).bind (OF P w ss):=by rw [exs];rfl
end
theorem mS {P:aU}{f:Nat}{vs:List V}{fr:Fr}{v:V}(h:P f (vs.map .val)=some (v,[])):fO P f (vs.map .inr) fr=.ok v fr:=by
 have h1:∀ vs:List V,bP (vs.map .inr)=[]:=fun vs=>by induction vs <;> simp [bP, *]
 have h2:∀ vs:List V,args fr (vs.map .inr)=some (vs.map .val):=fun vs=>by induction vs <;> simp [args, *]
 simp [fO,h1,h2,h,back]
section
variable {P:aU}{f:Nat}{fr:Fr}{a b c d v:V}
theorem dW (h:P f [.val a]=some (v,[])):fO P f [.inr a] fr=.ok v fr:=mS (vs:=[a]) h
theorem call2 (h:P f [.val a,.val b]=some (v,[])):fO P f [.inr a,.inr b] fr=.ok v fr:=mS (vs:=[a,b]) h
theorem iD (h:P f [.val a,.val b,.val c]=some (v,[])):fO P f [.inr a,.inr b,.inr c] fr=.ok v fr:=mS (vs:=[a,b,c]) h
end
end Pv
namespace Pv
open Ev (D cF bY TY BI ME T E Es Eo It S Ss Fn big deep b2i rep cH eG bU aR cut cS eB slots)
section
variable {fr:Fr}{i j:Nat}{k:Bool}{s:Sl}{v u:V}{l:List V}{o:Option Sl}
noncomputable def W7 (k:Bool):Option (Option Sl)→Option V
 | some (some (.val v))=>some v
 | some (some (.own l))=>if k then some (.lst l) else none
 | some (some (.bor l))=>if k then some (.lst l) else none
 | some (some (.ro l))=>if k then some (.lst l) else none
 | _=>none
@[simp] theorem OG {r:R V}:src k fr (.v i) r=R.of (t9 k fr i) fr:=nd rfl
noncomputable def Ld:Option (Option Sl)→Option Sl
 | some (some s)=>s.lend
 | _=>none
@[simp] theorem wV:lent fr i=Ld fr[i]?:=by unfold lent Ld;split <;> simp_all
@[simp] theorem US:Ld (some (some (.own l)))=some (.bor l):=nd rfl
noncomputable def Le (fr:Fr) (i:Nat) (s:Sl):Option (Option Sl)→Option Fr
 | some (some (.bor _))=>none
 | some (some (.ro _))=>none
 | _=>some (fr.set i (some s))
@[simp] theorem Lf:put fr i s=Le fr i s fr[i]?:=by unfold put Le;split <;> simp_all
@[simp] theorem yx {l:List Nat} {x:List V}:cB (.many l) (.tup x) fr=cP l x fr:=nd rfl
@[simp] theorem yy:cP [] [] fr=some fr:=nd rfl
@[simp] theorem vh {l:List Nat} {x:List V}:cP (i :: l) (v :: x) fr=(put fr i (.val v)).bind (cP l x):=nd rfl
noncomputable def gn (m:ME) (i:Nat) (ds:List V) (fr:Fr):Option (Option Sl)→R V
 | some (some (.own l))=>match jY m l ds with
  | some (v,l')=>.ok v (fr.set i (some (.own l')))
  | none=>.bad
 | some (some (.bor l))=>match jY m l ds with
  | some (v,l')=>.ok v (fr.set i (some (.bor l')))
  | none=>.bad
 | _=>.bad
@[simp] theorem Hv {m:ME} {ds:List V}:CM m i ds fr=gn m i ds fr fr[i]?:=by unfold CM gn;split <;> simp_all <;> rfl
theorem kK {d:V}(h:l.length<100000):gn .append i [d] fr (some (some (.own l)))=.ok .bz (fr.set i (some (.own (l++[d])))):=by
 simp [gn,jY,Nat.lt_of_lt_of_le h (show 100000≤big by decide)]
theorem Hw {d:V}(h:l.length<100000):gn .append i [d] fr (some (some (.bor l)))=.ok .bz (fr.set i (some (.bor (l++[d])))):=by
 simp [gn,jY,Nat.lt_of_lt_of_le h (show 100000≤big by decide)]
theorem wW {d:List V}(h:l.length+d.length≤100000):gn .extend i [.lst d] fr (some (some (.own l)))=.ok .bz (fr.set i (some (.own (l++d)))):=by
 simp [gn,jY,cy h]
theorem wX:gn .pop i [] fr (some (some (.own (l++[v]))))=.ok v (fr.set i (some (.own l))):=by
 simp [gn,jY]
theorem Hx:gn .pop i [] fr (some (some (.bor (l++[v]))))=.ok v (fr.set i (some (.bor l))):=by
 simp [gn,jY]
end
noncomputable def vo (o:Option Sl):Prop:=o=none∨∃ y,o=some (.val y)
theorem vo.none:vo none:=.inl rfl
theorem vo.val {v:V}:vo (some (.val v)):=.inr ⟨v,rfl⟩
theorem Lh {fr:Fr}{i:Nat}{s:Sl}{b:Option Sl}(h:vo b):Le fr i s (some b)=some (fr.set i (some s)):=by rcases h with rfl | ⟨y,rfl⟩ <;> rfl
theorem cZ {b:Option Sl}(h:vo b):b.map Sl.eg=b:=by rcases h with rfl | ⟨y,rfl⟩ <;> rfl
noncomputable def OH (f:V→Fr→R Fl) (ds:List V):Fl→Fr→R Fl:=fun p af=>match p with
 | .nx=>forL f ds af
 | .ct=>forL f ds af
 | .bk=>.ok .nx af
 | .ret x=>.ok (.ret x) af
section
variable {f:V→Fr→R Fl}{ds:List V}{d x:V}{fr:Fr}
@[simp] theorem ri:forL f (d :: ds) fr=(f d fr).bind (OH f ds):=nd rfl
end
section
variable {a b c:E}{es:Es}{lo hi:Eo}{it:It}{l:List Nat}
end
theorem pM {α:Type}{l:List α}{i:Int}(h0:0≤i):bU l i=l[i.toNat]?:=by
 unfold bU eG
 rw [if_pos h0]
 split
 ·rfl
 ·rw [List.getElem?_eq_none (by omega)];rfl
@[simp] theorem vK {α:Type} {l:List α} {n:Nat}:bU l (n:Int)=l[n]?:=by rw [pM (by omega)];simp
theorem Li {α:Type}{l:List α}:bU l (-1:Int)=l.getLast?:=by
 unfold bU eG
 cases l with
 | nil=>rfl
 | cons a l=>
  have h1:¬ (0:Int)≤-1:=by omega
  have h2:-(((a :: l).length:Nat):Int)≤-1:=by simp;omega
  rw [if_neg h1,if_pos h2,List.getLast?_eq_getElem?]
  simp only [Option.bind]
  congr 1
  simp;omega
noncomputable def sF:Fn:=⟨2,2,(.cons (.iff (.cmp .eq (.v 0) (.lst .nil)) (.cons (.ret (.bin .mul (.c (.int 7)) (.v 1))) .nil) .nil) (.cons (.ret (.bin .add (.ix (.v 0) (.bin .mod (.v 1) (.bi .len (.cons (.v 0) .nil)))) (.bin .mul (.c (.int 6553)) (.bin .fdiv (.v 1) (.bi .len (.cons (.v 0) .nil)))))) .nil))⟩
noncomputable def uz (c:Nat):Fn:=⟨3,4,(.cons (.set 3 (.bin .mod (.bin .add (.bin .mul (.bin .mod (.cl c (.cons (.v 0) (.cons (.v 1) .nil))) (.c (.int 2147483563))) (.c (.int 69069))) (.bin .mul (.c (.int 104723)) (.bin .add (.v 1) (.c (.int 1))))) (.c (.int 2147483563)))) (.cons (.set 3 (.bin .mod (.bin .add (.bin .mul (.v 3) (.v 3)) (.bin .fdiv (.v 3) (.c (.int 3)))) (.c (.int 2147483399)))) (.cons (.ret (.bin .mod (.bin .fdiv (.bin .mod (.bin .add (.bin .mul (.v 3) (.v 3)) (.bin .fdiv (.v 3) (.c (.int 7)))) (.c (.int 2147483647))) (.c (.int 11))) (.v 2))) .nil)))⟩
noncomputable def sG (ns:List Int) (k:Int):Int:=if ns=[] then 7*k else (ns[(k % ns.length).toNat]?.getD 0)+6553*(k / ns.length)
noncomputable def cW (ns:List Int) (k many:Int):Int:=
 let c:=(sG ns k % 2147483563*69069+104723*(k+1)) % 2147483563
 let c:=(c*c+c / 3) % 2147483399
 (c*c+c / 7) % 2147483647 / 11 % many
theorem jM (ns:List Int) (k:Int) {many:Int}(h:0<many):0≤cW ns k many:=Int.emod_nonneg _ (by omega)
theorem jN (ns:List Int) (k:Int) {many:Int}(h:0<many):cW ns k many<many:=Int.emod_lt_of_pos _ h
noncomputable def fQ (ns:List Int):V:=.bO (ns.map V.int)
theorem Hy (ns:List Int):cI (dH (18+1)) (ns.map V.int) []=some (decide (ns=[])):=by cases ns <;> simp
end Pv
namespace Pv
open Ev (D cF bY TY BI ME T E Es Eo It S Ss Fn big deep b2i rep cH eG bU aR cut cS eB slots)
section
variable {P:aU}{w:Nat}{fr af aB cN ji:Fr}{k b:Bool}{a e c:E}{es:Es}{ss sa sb:Ss}{st:S}{lo hi:Eo}{it:It}{v x y z:V}{vs:List V}{i:Nat}{l:List V}{Q:Fl→Fr→Prop}
theorem cG {d:D}(h:ofD d=some v):ev P k (.c d) fr=.ok v fr:=by rw [SQ,h];rfl
theorem bh (h:qw k fr i=some v):ev P k (.v i) fr=.ok v fr:=by rw [SS,h];rfl
theorem lE (h:cj P false es fr=.ok vs af) (h2:jI vs=some v):ev P k (.tup es) fr=.ok v af:=by rw [KO,h,ay,h2];rfl
theorem lF (h:cj P false es fr=.ok vs af) (h2:ef vs=some v):ev P k (.lst es) fr=.ok v af:=by rw [KP,h,ay,h2];rfl
theorem cJ {o:cF}(h:ev P (kf a (bM e)) a fr=.ok x af) (h2:ev P true e af=.ok y aB) (h3:bR o x y=some v):ev P k (.bin o a e) fr=.ok v aB:=by rw [KQ,h,ay,h2,ay,h3];rfl
theorem eE {o:bY}(h:ev P (kf a (bM e)) a fr=.ok x af) (h2:ev P true e af=.ok y aB) (h3:cop o x y=some b):ev P k (.cmp o a e) fr=.ok (.bl b) aB:=by rw [KR,h,ay,h2,ay,h3];rfl
theorem SW (h:ev P true a fr=.ok (.bl b) af):ev P k (.nt a) fr=.ok (.bl (!b)) af:=by rw [Ox,h];rfl
theorem sH {j:Int}(h:ev P true a fr=.ok (.int j) af):ev P k (.neg a) fr=.ok (.int (-j)) af:=by rw [KS,h];rfl
theorem OI (h:ev P true a fr=.ok (.bl true) af) (h2:ev P k e af=.ok v aB):ev P k (.an a e) fr=.ok v aB:=by rw [Oz,h,ay,KU];exact h2
theorem yz (h:aK P a fr=.ok b af) (h2:b=true→ev P k e af=.ok v aB) (h3:b=false→ev P k c af=.ok v aB):ev P k (.kB a e c) fr=.ok v aB:=by
 rw [KY,h,ay]
 cases b with
 | true=>exact h2 rfl
 | false=>exact h3 rfl
theorem gv (h:ev P (kf a (bM e)) a fr=.ok x af) (h2:ev P true e af=.ok y aB) (h3:eH x y=some v):ev P k (.ix a e) fr=.ok v aB:=by rw [OA,h,ay,h2,ay,h3];rfl
theorem CQ {p q:Option Int}(h:ev P (kf a (kh lo++kh hi)) a fr=.ok x af) (h2:fN P lo af=.ok p aB) (h3:fN P hi aB=.ok q cN) (h4:eV x p q=some v):ev P k (.sl a lo hi) fr=.ok v cN:=by rw [OB,h,ay,h2,ay,h3,ay,h4];rfl
theorem Lj (h:ev P true a fr=.ok x af) (h2:lR x=some v):ev P k (.rv a) fr=.ok v af:=by rw [OC,h,ay,h2];rfl
theorem dI {f:Nat}{as:List (Nat ⊕ V)}(h:fP P es fr=.ok as af) (h2:fO P f as af=.ok v aB):ev P k (.cl f es) fr=.ok v aB:=by rw [OD,h,ay];exact h2
theorem iO {g:BI}(h:cj P true es fr=.ok vs af) (h2:cV g vs=some v):ev P k (.bi g es) fr=.ok v af:=by rw [OE,h,ay,h2];rfl
theorem OJ {m:ME}(hm:iT m=true) (hl:(lent fr i).isSome=true) (h:cj P (Ak m) es fr=.ok vs af) (h2:gn m i vs af af[i]?=.ok v aB):ev P k (.me m (.v i) es) fr=.ok v aB:=by
 rw [KZ hm,if_pos hl,h,ay,Hv];exact h2
theorem ER {m:ME}(hm:iT m=false) (h:ev P (kf a (fV es)) a fr=.ok x af) (h2:cj P true es af=.ok vs aB) (h3:fc m x vs=some v):ev P k (.me m a es) fr=.ok v aB:=by rw [K0 hm,h,ay,h2,ay,h3];rfl
theorem OL {ts:List TY}(h:ev P true a fr=.ok x af) (h2:ts.any (dw x)=b):ev P k (.mq a ts) fr=.ok (.bl b) af:=by rw [K1,h,ay,h2]
theorem kL {t:T}{cond:Eo}(h:cM P true it fr=.ok vs af) (hu:undef t af=true) (h2:cT (jq P a t cond af) vs=some l) (h3:ef l=some v):ev P k (.comp a t it cond) fr=.ok v af:=by
 rw [qq,h,ay,if_pos hu,h2]
 show R.of (ef l) af=_
 rw [h3];rfl
theorem yC (h:cM P true it fr=.ok vs af) (h2:ef vs=some v):ev P k (.jD it) fr=.ok v af:=by rw [K2,h,ay,h2];rfl
theorem AG {kvs:List (D×D)}(h:ev P true a fr=.ok x af) (h2:eU x kvs=some v):ev P k (.jE kvs a) fr=.ok v af:=by rw [Hf,h,ay,h2];rfl
theorem sI (h:ev P true a fr=.ok x af) (h2:toT x=some v):ev P k (.jF a) fr=.ok v af:=by rw [K3,h,ay,h2];rfl
theorem bT:cj P k .nil fr=.ok [] fr:=Hg
theorem bK (h:ev P (k&&kf a (fV es)) a fr=.ok v af) (h2:cj P k es af=.ok vs aB):cj P k (.cons a es) fr=.ok (v :: vs) aB:=by rw [CN,h,ay,h2];rfl
theorem bZ:fP P .nil fr=.ok [] fr:=Hi
theorem cE {as:List (Nat ⊕ V)}(hi:kG fr a=none) (h:ev P false a fr=.ok v af) (h2:fP P es af=.ok as aB):fP P (.cons a es) fr=.ok (.inr v :: as) aB:=by rw [uw,hi,yw,h,ay,h2];rfl
theorem Lk {as:List (Nat ⊕ V)}(hi:kG fr a=some i) (h2:fP P es fr=.ok as aB):fP P (.cons a es) fr=.ok (.inl i :: as) aB:=by rw [uw,hi,yv,h2];rfl
theorem yD:fN P .no fr=.ok none fr:=K4
theorem uA {j:Int}(h:ev P true a fr=.ok (.int j) af):fN P (.yes a) fr=.ok (some j) af:=by rw [Hj,h];rfl
theorem ES {b2:Bool}(h:aK P a fr=.ok b af) (h2:b=true→aK P e af=.ok b2 aB) (h3:b=false→false=b2∧af=aB):aK P (.an a e) fr=.ok b2 aB:=by
 rw [uy,h,ay]
 cases b with
 | true=>exact h2 rfl
 | false=>obtain ⟨rfl,rfl⟩:=h3 rfl;rfl
theorem uB (h:aK P a fr=.ok false af):aK P (.an a e) fr=.ok false af:=by rw [uy,h];rfl
theorem jb {b2:Bool}(h:aK P a fr=.ok true af) (h2:aK P e af=.ok b2 aB):aK P (.an a e) fr=.ok b2 aB:=by rw [uy,h];exact h2
theorem AH (h:aK P a fr=.ok true af):aK P (.orr a e) fr=.ok true af:=by rw [wU,h];rfl
theorem fY {b2:Bool}(h:aK P a fr=.ok false af) (h2:aK P e af=.ok b2 aB):aK P (.orr a e) fr=.ok b2 aB:=by rw [wU,h];exact h2
theorem pN (h:aK P a fr=.ok b af):aK P (.nt a) fr=.ok (!b) af:=by rw [K6,h];rfl
noncomputable def plainT:E→Bool
 | .an _ _=>false
 | .orr _ _=>false
 | .nt _=>false
 | _=>true
theorem aS (hp:plainT a=true) (h:ev P true a fr=.ok x af) (h2:truthy x=b):aK P a fr=.ok b af:=by
 have:aK P a fr=(ev P true a fr).bind K7:=by
  cases a <;> first | (cases hp;done) | (rw [aK];rfl;all_goals (intros;contradiction))
 rw [this,h,ay,Ho,h2]
theorem gB (h:src k fr a (ev P k a fr)=.ok x af) (h2:gj x=some vs):cM P k (.seq a) fr=.ok vs af:=by rw [Hq,h,ay,h2];rfl
theorem fH (h:t9 k fr i=some v) {r:R V}:src k fr (.v i) r=.ok v fr:=by rw [OG,h];rfl
theorem pO (h:cj P true es fr=.ok vs af) (h2:eL vs=some l):cM P k (.iI es) fr=.ok l af:=by rw [Hr,h,ay,h2];rfl
theorem AI (h:ev P true a fr=.ok x af) (h2:yo x=some vs):cM P k (.rev a) fr=.ok vs.reverse af:=by rw [Ht,h,ay,h2];rfl
theorem bC (h:ev P false a fr=.ok v af) (hn:isNew a=false) (hp:put af i (.val v)=some aB) (q:Q .nx aB):Wp (ex P w (.set i a) fr) Q:=by
 rw [AF,h,ay,hn,hp];exact ⟨_,_,rfl,q⟩
theorem jc (h:ev P false a fr=.ok (.lst l) af) (hn:isNew a=true) (hp:put af i (.own l)=some aB) (q:Q .nx aB):Wp (ex P w (.set i a) fr) Q:=by
 rw [AF,h,ay,hn,if_pos rfl,CO,hp];exact ⟨_,_,rfl,q⟩
theorem gm (h:ev P true a fr=.ok v af) (q:Q .nx af):Wp (ex P w (.exp a) fr) Q:=by rw [K9,h];exact ⟨_,_,rfl,q⟩
theorem cC (h:ev P false a (fq fr)=.ok v af) (q:Q (.ret v) af):Wp (ex P w (.ret a) fr) Q:=by rw [La,h];exact ⟨_,_,rfl,q⟩
theorem aP (h:aK P a fr=.ok b af) (h2:b=true→Wp (exs P w sa af) Q) (h3:b=false→Wp (exs P w sb af) Q):Wp (ex P w (.iff a sa sb) fr) Q:=by
 rw [Lb,h,ay]
 cases b with
 | true=>exact h2 rfl
 | false=>exact h3 rfl
theorem aG (q:Q .nx fr):Wp (exs P w .nil fr) Q:=by rw [Hu];exact ⟨_,_,rfl,q⟩
noncomputable def nx (P:aU) (w:Nat) (ss:Ss) (Q:Fl→Fr→Prop):Fl→Fr→Prop
 | .nx,fr=>Wp (exs P w ss fr) Q
 | g,fr=>Q g fr
theorem ao (q:Wp (ex P w st fr) (nx P w ss Q)):Wp (exs P w (.cons st ss) fr) Q:=by
 rw [CP,wp_bind]
 refine q.mono fun g af z=>?_
 cases g with
 | nx=>exact z
 | bk=>exact ⟨_,_,rfl,z⟩
 | ct=>exact ⟨_,_,rfl,z⟩
 | ret v=>exact ⟨_,_,rfl,z⟩
theorem jr {t:T}(h:cM P false it (sy (itv it) fr)=.ok vs af) (q:Wp (forL (turnF P w t ss) vs af) Q):Wp (ex P w (.for t it ss) fr) Q:=by rw [tN,h,ay];exact q
theorem OM (q:Wp (ee (fun aB=>aK P a aB) (fun aB=>exs P w ss aB) w fr) Q):Wp (ex P w (.qY a ss) fr) Q:=by rw [Lc];exact q
theorem dm {t:T}{d:V}(hb:cB t d fr=some af) (q:Wp (exs P w ss af) Q):Wp (turnF P w t ss d fr) Q:=by unfold turnF;rw [hb];exact q
theorem pP {t:T}{d:V}(hb:cB t d (nQ fr)=some af) (h:ev P false a af=.ok v aB):jq P a t .no fr d=some (some v):=by
 unfold jq;rw [hb];dsimp only;rw [K5];dsimp only;rw [h];rfl
theorem wY {t:T}{d:V}(hb:cB t d (nQ fr)=some af) (h:aK P c af=.ok b aB) (h2:b=true→ev P false a af=.ok v cN):jq P a t (.yes c) fr d=some (if b then some v else none):=by
 unfold jq;rw [hb];dsimp only;rw [Hl,h];dsimp only
 cases b with
 | true=>rw [h2 rfl];rfl
 | false=>rfl
theorem oG {p q:List Nat}:cop .eq (.str p) (.str q)=some (decide (p=q)):=wJ
theorem iU {p q:List Nat}:cop .ne (.str p) (.str q)=some (!decide (p=q)):=by rw [ur,wJ];rfl
theorem CS {p q:Int}:cop .eq (.int p) (.int q)=some (decide (p=q)):=wI
theorem yE {p q:Int}:cop .ne (.int p) (.int q)=some (!decide (p=q)):=by rw [ur,wI];rfl
theorem SX {p q:Int}:cop .lt (.int p) (.int q)=some (decide (p<q)):=rfl
theorem SY {p q:Int}:cop .gt (.int p) (.int q)=some (decide (q<p)):=rfl
theorem lG {p q:Int}(h:cH p q=true):bR .mul (.int p) (.int q)=some (.int (p*q)):=by rw [oF,if_pos h]
theorem nu {p q:Int}(h:0<q):bR .mod (.int p) (.int q)=some (.int (p % q)):=by rw [G6,if_pos h]
theorem sJ {p q:Int}(h:0<q) (h2:q<1073741824):bR .fdiv (.int p) (.int q)=some (.int (p / q)):=by rw [CL,if_pos ⟨h,h2⟩]
end
theorem iE {fr:Fr}{i:Nat}{s:Sl}{o:Option Sl}(e:fr[i]?=some o) (h:vo o):put fr i s=some (fr.set i (some s)):=by rw [Lf,e,Lh h]
theorem iV {fr:Fr}{i j:Nat}{u v:V}{a b:Option Sl}(ea:fr[i]?=some a) (ha:vo a) (eb:(fr.set i (some (.val u)))[j]?=some b) (hb:vo b):cB (.many [i,j]) (.tup [u,v]) fr=some ((fr.set i (some (.val u))).set j (some (.val v))):=by
 simp only [yx,vh,yy,iE ea ha,Option.bind,iE eb hb]
theorem bind1 {fr:Fr}{i:Nat}{v:V}{a:Option Sl}(ea:fr[i]?=some a) (ha:vo a):cB (.one i) v fr=some (fr.set i (some (.val v))):=iE ea ha
end Pv
local macro_rules | `(tactic| array_get_dec)=>`(tactic| first
 | exact Pv.bT | exact Pv.bZ | exact Pv.yD
 | (apply Pv.bh;rfl) | (apply Pv.cG;rfl) | apply Pv.cJ | apply Pv.eE | apply Pv.lE | apply Pv.lF | apply Pv.gv | apply Pv.CQ | apply Pv.dI | apply Pv.iO
 | apply Pv.SW | apply Pv.sH | apply Pv.sI | apply Pv.yC | apply Pv.Lj | (apply Pv.OJ rfl rfl) | (apply Pv.ER rfl) | apply Pv.AG
 | apply Pv.bK | (apply Pv.cE rfl) | (apply Pv.Lk rfl) | apply Pv.uA | apply Pv.pN | apply Pv.aS rfl
 | exact Pv.Ou | exact Pv.sD | exact Pv.sE | exact Pv.Ow | exact Pv.nq | exact Pv.sC | exact Pv.Ov
 | (with_reducible assumption) | exact Pv.fX | exact Pv.CG | exact Pv.oG | exact Pv.iU | exact Pv.CS | exact Pv.yE | exact Pv.SX  | exact Pv.SY
 | (show Pv.truthy _=_;rfl) | (show Pv.eH _ _=some _;rfl) | (show Pv.toT _=some _;rfl) | (show Pv.eU _ _=some _;rfl) | (show Pv.gj _=some _;rfl) | assumption)
namespace Pv
open Ev (D cF bY TY BI ME T E Es Eo It S Ss Fn big deep b2i rep cH eG bU aR cut cS eB slots)
theorem Ll (a b:Int):cH (a % 2147483563) b=true:=by have h1:=Int.emod_nonneg a (b:=2147483563) (by decide);have h2:=Int.emod_lt_of_pos a (b:=2147483563) (by decide);simp [cH];omega
theorem S5 (a b:Int):cH (a % 2147483399) b=true:=by have h1:=Int.emod_nonneg a (b:=2147483399) (by decide);have h2:=Int.emod_lt_of_pos a (b:=2147483399) (by decide);simp [cH];omega
theorem Lm {l:List V}{j:Int}{v:V}(h:bU l j=some v):eH (.bO l) (.int j)=some v:=h
theorem Ln {l m:List V}:cop .eq (.bO l) (.lst m)=cI (dH (18+1)) l m:=rfl
theorem CT {F:List Fn}{w n c:Nat}(hc:F[c]?=some sF) {ns:List Int}(hn:ns.length≤63) (k:Int):run F w (n+1) c [.val (fQ ns),.val (.int k)]=some (.int (sG ns k),[]):=by
 refine cY hc rfl (ao (aP (b:=decide (ns=[])) (aS rfl (eE (bh rfl) (lF bT nq) (Ln.trans (Hy ns))) rfl) (fun h=>?_) fun h=>aG ?_))
 ·have h0:=of_decide_eq_true h
  exact ao (cC (cJ (cG rfl) (bh rfl) (lG rfl)) ⟨by rw [sG,if_pos h0],rfl⟩)
 ·have h0:=of_decide_eq_false h
  have hlen:0<ns.length:=List.length_pos_iff.mpr h0
  have Qi:(0:Int)<(ns.map V.int).length:=by rw [List.length_map];exact Int.natCast_pos.mpr hlen
  have h30:((ns.map V.int).length:Int)<1073741824:=by rw [List.length_map];omega
  have hm0:=Int.emod_nonneg k (b:=(ns.length:Int)) (by omega)
  have hlt:(k % (ns.length:Int)).toNat<ns.length:=by have:=Int.emod_lt_of_pos k (b:=(ns.length:Int)) (by omega);omega
  have hx:bU (ns.map V.int) (k % ((ns.map V.int).length:Int))=some (.int (ns[(k % (ns.length:Int)).toNat]?.getD 0)):=by
   rw [List.length_map,pM hm0,List.getElem?_map,List.getElem?_eq_getElem hlt];rfl
  refine ao (cC (cJ (gv (bh rfl) (cJ (bh rfl) (iO (bK (bh rfl) bT) wO) (nu Qi)) (Lm hx)) (cJ (cG rfl) (cJ (bh rfl) (iO (bK (bh rfl) bT) wO) (sJ Qi h30)) (lG rfl)) fX) ⟨?_,rfl⟩)
  rw [sG,if_neg h0,List.length_map]
theorem fZ {F:List Fn}{w n c dr:Nat}(hc:F[c]?=some sF) (hd:F[dr]?=some (uz c)) {ns:List Int}(hn:ns.length≤63) (k:Int) {many:Int}(hm:0<many):run F w (n+2) dr [.val (fQ ns),.val (.int k),.val (.int many)]=some (.int (cW ns k many),[]):=by
 refine cY hd rfl (ao (bC (cJ (cJ (cJ (cJ (dI (cE rfl (bh rfl) (cE rfl (bh rfl) bZ)) (call2 (CT hc hn k))) (cG rfl) (nu (by decide))) (cG rfl) (lG (Ll _ _))) (cJ (cG rfl) (cJ (bh rfl) (cG rfl) fX) (lG rfl)) fX) (cG rfl) (nu (by decide))) rfl rfl ?_))
 refine ao (bC (cJ (cJ (cJ (bh rfl) (bh rfl) (lG (Ll _ _))) (cJ (bh rfl) (cG rfl) (sJ (by decide) (by decide))) fX) (cG rfl) (nu (by decide))) rfl rfl ?_)
 exact ao (cC (cJ (cJ (cJ (cJ (cJ (bh rfl) (bh rfl) (lG (S5 _ _))) (cJ (bh rfl) (cG rfl) (sJ (by decide) (by decide))) fX) (cG rfl) (nu (by decide))) (cG rfl) (sJ (by decide) (by decide))) (bh rfl) (nu hm)) ⟨rfl,rfl⟩)
noncomputable def fText (dr:Nat):Fn:=⟨3,4,(.cons (.ret (.me .join (.c (.str [])) (.cons (.comp (.ix (.c (.str [97,98,99,32])) (.cl dr (.cons (.v 0) (.cons (.bin .add (.bin .add (.v 1) (.c (.int 1))) (.v 3)) (.cons (.c (.int 4)) .nil))))) (.one 3) (.iI (.cons (.cl dr (.cons (.v 0) (.cons (.v 1) (.cons (.bin .add (.v 2) (.c (.int 1))) .nil)))) .nil)) .no) .nil))) .nil)⟩
noncomputable def ET (dr:Nat):S:=.iff (.cmp .eq (.cl dr (.cons (.v 0) (.cons (.bin .add (.v 1) (.bin .mul (.c (.int 4)) (.v 4))) (.cons (.c (.int 4)) .nil)))) (.c (.int 0))) (.cons (.set 5 (.bin .mul (.ix (.c (.str [97,98,122])) (.cl dr (.cons (.v 0) (.cons (.bin .add (.bin .add (.v 1) (.bin .mul (.c (.int 4)) (.v 4))) (.c (.int 1))) (.cons (.c (.int 3)) .nil))))) (.bin .add (.c (.int 1)) (.cl dr (.cons (.v 0) (.cons (.bin .add (.bin .add (.v 1) (.bin .mul (.c (.int 4)) (.v 4))) (.c (.int 2))) (.cons (.c (.int 2)) .nil))))))) (.cons (.set 3 (.bin .add (.v 3) (.tup (.cons (.tup (.cons (.c (.str [112,117,116])) (.cons (.v 5) .nil))) .nil)))) .nil)) .nil
noncomputable def EU (dr:Nat):S:=.iff (.cmp .lt (.v 4) (.bi .len (.cons (.v 2) .nil))) (.cons (.set 6 (.cmp .gt (.cl dr (.cons (.v 0) (.cons (.bin .add (.bin .add (.v 1) (.bin .mul (.c (.int 4)) (.v 4))) (.c (.int 3))) (.cons (.c (.int 3)) .nil)))) (.c (.int 0)))) (.cons (.set 3 (.bin .add (.v 3) (.tup (.cons (.kB (.v 6) (.tup (.cons (.c (.str [107,101,101,112])) (.cons (.c (.int 1)) .nil))) (.tup (.cons (.c (.str [100,114,111,112])) (.cons (.ix (.v 2) (.v 4)) .nil)))) .nil)))) .nil)) .nil
noncomputable def Hz (dr:Nat):Fn:=⟨3,7,(.cons (.set 3 (.tup .nil)) (.cons (.for (.one 4) (.iI (.cons (.bin .add (.bi .len (.cons (.v 2) .nil)) (.c (.int 1))) .nil)) (.cons (ET dr) (.cons (EU dr) .nil))) (.cons (.ret (.v 3)) .nil)))⟩
inductive Pt where
 | keep (n:Nat) | put (s:List Nat) | drop (s:List Nat)
deriving DecidableEq
noncomputable def dX:List Nat:=[107,101,101,112]
noncomputable def jO:List Nat:=[112,117,116]
noncomputable def iX:List Nat:=[100,114,111,112]
noncomputable def Pt.v:Pt→V
 | .keep n=>.tup [.str dX,.int n]
 | .put s=>.tup [.str jO,.str s]
 | .drop s=>.tup [.str iX,.str s]
noncomputable def aF (c:List Pt):V:=.tup (c.map Pt.v)
theorem Lo (n:Nat) (a b:Pt):dH (n+2) a.v b.v=some (decide (a=b)):=by
 cases a <;> cases b <;> simp [Pt.v,dX,jO,iX]
 all_goals omega
theorem AJ (a b:List Pt):dH deep (aF a) (aF b)=some (decide (a=b)):=by
 simp only [aF,G7]
 exact wK (fun a b=>Lo 17 a b) a b
noncomputable def txt (ns:List Int) (at_ most:Int):List Nat:=(List.range (cW ns at_ (most+1)).toNat).map fun (k:Nat)=>[97,98,99,32].getD (cW ns (at_+1+k) 4).toNat 0
theorem HA (ns:List Int) (at_:Int) {most:Int}(h:0≤most):(txt ns at_ most).length≤most.toNat:=by
 unfold txt
 have h1:=jN ns at_ (many:=most+1) (by omega)
 have h2:=jM ns at_ (many:=most+1) (by omega)
 simp;omega
theorem getD_at {α:Type}{l:List α}{i:Int}(h0:0≤i) (h1:i<l.length) (d:α):bU l i=some (l.getD i.toNat d):=by
 have:i.toNat<l.length:=by omega
 rw [pM h0];simp [List.getD,List.getElem?_eq_getElem this]
theorem nR {α β:Type}(l:List α) (f:α→β):(l.map fun x=>[f x]).flatten=l.map f:=by induction l <;> simp [*]
theorem AK (lo:Int) (n:Nat):range lo n=(List.range n).map fun (i:Nat)=>V.int (lo+i):=rfl
section
variable {F:List Fn}{w n c dr t:Nat}(hc:F[c]?=some sF) (hd:F[dr]?=some (uz c)) {ns:List Int}(hn:ns.length≤63)
include hc hd hn
theorem CU (ht:F[t]?=some (fText dr)) (k most:Int) (hm:0≤most) (hm2:most≤1000):run F w (n+3) t [.val (fQ ns),.val (.int k),.val (.int most)]=some (.str (txt ns k most),[]):=by
 have b0:=jM ns k (many:=most+1) (by omega)
 have b1:=jN ns k (many:=most+1) (by omega)
 have d0:=fun fr=>iD (fr:=fr) (fZ (w:=w) (n:=n) hc hd hn k (many:=most+1) (by omega))
 have ON:cT (jq (run F w (n+2)) (.ix (.c (.str [97,98,99,32])) (.cl dr (.cons (.v 0) (.cons (.bin .add (.bin .add (.v 1) (.c (.int 1))) (.v 3)) (.cons (.c (.int 4)) .nil))))) (.one 3) .no [some (.val (fQ ns)),some (.val (.int k)),some (.val (.int most)),none]) (range 0 (cW ns k (most+1)).toNat)=some (((List.range (cW ns k (most+1)).toNat).map fun (j:Nat)=>[[97,98,99,32].getD (cW ns (k+1+j) 4).toNat 0]).map V.str):=by
  rw [AK,List.map_map]
  refine j0 _ _ _ fun j _=>?_
  have d1:=fun fr=>iD (fr:=fr) (fZ (w:=w) (n:=n) hc hd hn (k+1+j) (many:=4) (by decide))
  have ix:eH (.str [97,98,99,32]) (.int (cW ns (k+1+j) 4))=some (.str [[97,98,99,32].getD (cW ns (k+1+j) 4).toNat 0]):=by
   rw [qB,getD_at (l:=[97,98,99,32]) (jM ns (k+1+j) (many:=4) (by decide)) (jN ns (k+1+j) (many:=4) (by decide)) 0];rfl
  rw [show (0:Int)+(j:Int)=j from Int.zero_add _]
  exact pP rfl (by (repeat (first | array_get_dec | exact d1 _)))
 have hj:=EO (l:=(List.range (cW ns k (most+1)).toNat).map fun (j:Nat)=>[[97,98,99,32].getD (cW ns (k+1+j) 4).toNat 0]) (by rw [nR];simp;omega)
 rw [nR] at hj
 have VH:ef (((List.range (cW ns k (most+1)).toNat).map fun (j:Nat)=>[[97,98,99,32].getD (cW ns (k+1+j) 4).toNat 0]).map V.str)=some (.lst _):=er (cy (by simp;omega))
 have rg:=KN b0 (show cW ns k (most+1)≤100000 by omega)
 refine cY ht rfl (ao (cC (ER rfl (cG rfl) (bK (kL (pO (by (repeat (first | array_get_dec | exact d0 _))) rg) rfl ON VH) bT) hj) ⟨rfl,rfl⟩))
end
noncomputable def jt (ns:List Int) (at_:Int) (s:List Nat) (k:Nat):List Pt:=
 (if cW ns (at_+4*k) 4=0 then [.put (rep (1+cW ns (at_+4*k+2) 2).toNat [[97,98,122].getD (cW ns (at_+4*k+1) 3).toNat 0])] else [])++
 (match s[k]? with
 | some c=>[if 0<cW ns (at_+4*k+3) 3 then .keep 1 else .drop [c]]
 | none=>[])
noncomputable def fB (ns:List Int) (at_:Int) (s:List Nat) (k:Nat):List Pt:=(List.range k).flatMap (jt ns at_ s)
noncomputable def chg (ns:List Int) (at_:Int) (s:List Nat):List Pt:=fB ns at_ s (s.length+1)
theorem AL (ns:List Int) (at_:Int) (s:List Nat) (k:Nat):(jt ns at_ s k).length≤2:=by
 unfold jt
 split <;> split <;> simp
theorem ju (ns:List Int) (at_:Int) (s:List Nat) (k:Nat):fB ns at_ s (k+1)=fB ns at_ s k++jt ns at_ s k:=by simp [fB,List.range_succ]
theorem mT (ns:List Int) (at_:Int) (s:List Nat):∀ k,(fB ns at_ s k).length≤2*k
 | 0=>by simp [fB]
 | k+1=>by
  have h1:=AL ns at_ s k
  have h2:=mT ns at_ s k
  rw [ju,List.length_append]
  omega
theorem Lp (i:Int):cH 4 i=true:=by simp [cH]
theorem yF {a b:List Pt}(h:a.length+b.length≤100000):bR .add (aF a) (aF b)=some (aF (a++b)):=by
 simp only [aF];rw [uq (by simpa using h)];simp
theorem S6 {j:Int}{n:Nat}(h:n≤100000) (e:j=n):eL [.int j]=some (range 0 n):=by
 subst e
 rw [KN (by omega) (by omega)]
 rfl
theorem HB {a:List Pt}{s:List Nat}(h:a.length<100000):bR .add (aF a) (.tup [.tup [.str [112,117,116],.str s]])=some (aF (a++[.put s])):=yF (a:=a) (b:=[.put s]) (by simp;omega)
theorem CV {a:List Pt}{s:List Nat}(h:a.length<100000):bR .add (aF a) (.tup [.tup [.str [100,114,111,112],.str s]])=some (aF (a++[.drop s])):=yF (a:=a) (b:=[.drop s]) (by simp;omega)
theorem CW {a:List Pt}(h:a.length<100000):bR .add (aF a) (.tup [.tup [.str [107,101,101,112],.int 1]])=some (aF (a++[.keep 1])):=yF (a:=a) (b:=[.keep 1]) (by simp;omega)
section
variable {F:List Fn}{w n c dr t:Nat}(hc:F[c]?=some sF) (hd:F[dr]?=some (uz c)) {ns:List Int}(hn:ns.length≤63)
include hc hd hn
theorem CY (k:Int) (x:V) (fd:List Pt) (j:Nat) (u v:Option Sl) (hu:vo u) (hfd:fd.length≤10000) :
  Wp (ex (run F w (n+2)) w (ET dr) [some (.val (fQ ns)),some (.val (.int k)),some (.val x),some (.val (aF fd)),some (.val (.int j)),u,v]) fun g fr=>g=.nx∧∃ b,vo b∧fr=[some (.val (fQ ns)),some (.val (.int k)),some (.val x),some (.val (aF (fd++if cW ns (k+4*j) 4=0 then [.put (rep (1+cW ns (k+4*j+2) 2).toNat [[97,98,122].getD (cW ns (k+4*j+1) 3).toNat 0])] else []))),some (.val (.int j)),b,v]:=by
 have d1:=fun fr=>iD (fr:=fr) (fZ (w:=w) (n:=n) hc hd hn (k+4*j) (many:=4) (by decide))
 have m4:bR .mul (.int 4) (.int j)=some (.int (4*j)):=by rw [oF,Lp];rfl
 refine aP (by (repeat (first | array_get_dec | exact d1 _))) (fun h=>?_) fun h=>?_
 ·have h0:=of_decide_eq_true h
  have d2:=fun fr=>iD (fr:=fr) (fZ (w:=w) (n:=n) hc hd hn (k+4*j+1) (many:=3) (by decide))
  have d3:=fun fr=>iD (fr:=fr) (fZ (w:=w) (n:=n) hc hd hn (k+4*j+2) (many:=2) (by decide))
  have c2:=jM ns (k+4*j+2) (many:=2) (by decide)
  have c3:=jN ns (k+4*j+2) (many:=2) (by decide)
  have ix:eH (.str [97,98,122]) (.int (cW ns (k+4*j+1) 3))=some (.str [[97,98,122].getD (cW ns (k+4*j+1) 3).toNat 0]):=by
   rw [qB,getD_at (l:=[97,98,122]) (jM ns (k+4*j+1) (many:=3) (by decide)) (jN ns (k+4*j+1) (many:=3) (by decide)) 0];rfl
  have ml:=CH (j:=1+cW ns (k+4*j+2) 2) (a:=[[97,98,122].getD (cW ns (k+4*j+1) 3).toNat 0]) (by omega) (by omega) (by simp)
  have ad:=HB (a:=fd) (s:=rep (1+cW ns (k+4*j+2) 2).toNat [[97,98,122].getD (cW ns (k+4*j+1) 3).toNat 0]) (by omega)
  refine ao (bC (by (repeat (first | array_get_dec | exact d2 _ | exact d3 _))) rfl (iE rfl hu) ?_)
  refine ao (bC (by repeat array_get_dec) rfl rfl (aG ?_))
  rw [if_pos h0];exact ⟨rfl,_,.val,rfl⟩
 ·have h0:=of_decide_eq_false h
  rw [if_neg h0,List.append_nil]
  exact aG ⟨rfl,u,hu,rfl⟩
theorem CZ (k:Int) (x:List Nat) (hx:x.length≤1000) (fd:List Pt) (j:Nat) (u v:Option Sl) (hv:vo v) (hfd:fd.length≤10000) :
  Wp (ex (run F w (n+2)) w (EU dr) [some (.val (fQ ns)),some (.val (.int k)),some (.val (.str x)),some (.val (aF fd)),some (.val (.int j)),u,v]) fun g fr=>g=.nx∧∃ b,vo b∧fr=[some (.val (fQ ns)),some (.val (.int k)),some (.val (.str x)),some (.val (aF (fd++match x[j]? with
     | some c=>[if 0<cW ns (k+4*j+3) 3 then .keep 1 else .drop [c]]
     | none=>[]))),some (.val (.int j)),u,b]:=by
 have ln:cV .len [.str x]=some (.int (x.length:Nat)):=len_str (by omega)
 refine aP (by repeat array_get_dec) (fun h=>?_) fun h=>?_
 ·have hlt:j<x.length:=by have:=of_decide_eq_true h;omega
  have d1:=fun fr=>iD (fr:=fr) (fZ (w:=w) (n:=n) hc hd hn (k+4*j+3) (many:=3) (by decide))
  have m4:bR .mul (.int 4) (.int j)=some (.int (4*j)):=by rw [oF,Lp];rfl
  have hg:x[j]?=some x[j]:=List.getElem?_eq_getElem hlt
  have ix:eH (.str x) (.int j)=some (.str [x[j]]):=by rw [qB,vK,hg];rfl
  rw [hg]
  refine ao (bC (by (repeat (first | array_get_dec | exact d1 _))) rfl (iE rfl hv) ?_)
  by_cases hk:0<cW ns (k+4*j+3) 3
  ·have ad:=CW (a:=fd) (by omega)
   have ht:truthy (.bl (decide (0<cW ns (k+4*j+3) 3)))=true:=decide_eq_true hk
   refine ao (bC (cJ (bh rfl) (lE (bK (yz (b:=true) (aS rfl (bh rfl) ht) (fun _=>by repeat array_get_dec) fun h=>absurd h (by decide)) bT) sD) ad) rfl rfl (aG ?_))
   refine ⟨rfl,some (.val (.bl (decide (0<cW ns (k+4*j+3) 3)))),.val,?_⟩
   simp only [if_pos hk];rfl
  ·have ad:=CV (a:=fd) (s:=[x[j]]) (by omega)
   have ht:truthy (.bl (decide (0<cW ns (k+4*j+3) 3)))=false:=decide_eq_false hk
   refine ao (bC (cJ (bh rfl) (lE (bK (yz (b:=false) (aS rfl (bh rfl) ht) (fun h=>absurd h (by decide)) fun _=>by repeat array_get_dec) bT) sD) ad) rfl rfl (aG ?_))
   refine ⟨rfl,some (.val (.bl (decide (0<cW ns (k+4*j+3) 3)))),.val,?_⟩
   simp only [if_neg hk];rfl
 ·have hlt:¬ j<x.length:=by have:=of_decide_eq_false h;omega
  rw [List.getElem?_eq_none (by omega),List.append_nil]
  exact aG ⟨rfl,v,hv,rfl⟩
theorem yG (ht:F[t]?=some (Hz dr)) (k:Int) (x:List Nat) (hx:x.length≤1000):run F w (n+3) t [.val (fQ ns),.val (.int k),.val (.str x)]=some (aF (chg ns k x),[]):=by
 refine cY ht rfl ?_
 have ln:cV .len [.str x]=some (.int (x.length:Nat)):=len_str (by omega)
 have rg:eL [.int ((x.length:Nat)+1)]=some (range 0 (x.length+1)):=S6 (by omega) (by omega)
 refine ao (bC (by repeat array_get_dec) rfl rfl ?_)
 refine ao (jr (pO (bK (cJ (iO (bK (bh rfl) bT) ln) (cG rfl) fX) bT) rg) ?_)
 refine qD (fun j fr=>∃ a b c,vo a∧vo b∧vo c∧fr=[some (.val (fQ ns)),some (.val (.int k)),some (.val (.str x)),some (.val (aF (fB ns k x j))),a,b,c]) (fun j fr hj ⟨a,b,c',ha,hb,hc',hfr⟩=>?_) (fun fr ⟨a,b,c',ha,hb,hc',hfr⟩=>?_) ⟨none,none,none,.none,.none,.none,rfl⟩
 ·subst hfr
  have hz:=mT ns k x j
  rw [show (0:Int)+(j:Int)=j from Int.zero_add _]
  refine dm (bind1 rfl ha) (ao ?_)
  refine (CY hc hd hn k (.str x) (fB ns k x j) j b c' hb (by omega)).mono fun g fr ⟨q1,b2,hb2,q3⟩=>?_
  subst q1 q3
  refine ao ?_
  refine (CZ hc hd hn k x hx _ j b2 c' hc' (by split <;> simp <;> omega)).mono fun g fr ⟨q1,b3,VI,q3⟩=>?_
  subst q1 q3
  refine aG ?_
  rw [dU]
  refine ⟨some (.val (.int j)),b2,b3,.val,hb2,VI,?_⟩
  rw [ju,jt,List.append_assoc]
 ·subst hfr
  refine ao (cC (v:=aF (chg ns k x)) (af:=[some (.val (fQ ns)),some (.val (.int k)),some (.val (.str x)),some (.val (aF (fB ns k x (x.length+1)))),a,b,c']) ?_ ⟨rfl,rfl⟩)
  have sh:fq [some (.val (fQ ns)),some (.val (.int k)),some (.val (.str x)),some (.val (aF (fB ns k x (x.length+1)))),a,b,c']=[some (.val (fQ ns)),some (.val (.int k)),some (.val (.str x)),some (.val (aF (fB ns k x (x.length+1)))),a,b,c']:=by
   show _ :: _ :: _ :: _ :: a.map Sl.eg :: b.map Sl.eg :: [c'.map Sl.eg]=_
   rw [cZ ha,cZ hb,cZ hc'];rfl
  rw [sh];exact bh rfl
end
end Pv
namespace Pv
open Ev (D cF bY TY BI ME T E Es Eo It S Ss Fn big deep b2i rep cH eG bU aR cut cS eB slots)
noncomputable def C0:S:=.iff (.cmp .eq (.ix (.v 0) (.c (.int 0))) (.c (.str [107,101,101,112]))) (.cons (.ret (.ix (.v 0) (.c (.int 1)))) .nil) .nil
noncomputable def C1:S:=.ret (.bi .len (.cons (.ix (.v 0) (.c (.int 1))) .nil))
noncomputable def gD:Fn:=⟨1,1,(.cons C0 (.cons C1 .nil))⟩
noncomputable def yH (cz:Nat):S:=.ret (.bi .sum (.cons (.comp (.cl cz (.cons (.v 1) .nil)) (.one 1) (.seq (.v 0)) (.yes (.cmp .ne (.ix (.v 1) (.c (.int 0))) (.c (.str [112,117,116]))))) .nil))
noncomputable def lH (cz:Nat):Fn:=⟨1,2,(.cons (yH cz) .nil)⟩
noncomputable def AM (cz:Nat):S:=.ret (.bi .sum (.cons (.comp (.cl cz (.cons (.v 1) .nil)) (.one 1) (.seq (.v 0)) (.yes (.cmp .ne (.ix (.v 1) (.c (.int 0))) (.c (.str [100,114,111,112]))))) .nil))
noncomputable def nv (cz:Nat):Fn:=⟨1,2,(.cons (AM cz) .nil)⟩
noncomputable def C2:S:=.set 1 (.lst .nil)
noncomputable def C3:S:=.set 2 (.c (.int 0))
noncomputable def C4:S:=.set 3 (.c (.str []))
noncomputable def C5:S:=.set 4 (.c (.str []))
noncomputable def C6 (fh:Nat):Ss:=(.cons (.iff (.cmp .eq (.v 5) (.c (.str [100,114,111,112]))) (.cons (.set 3 (.bin .add (.v 3) (.v 6))) .nil) (.cons (.iff (.cmp .eq (.v 5) (.c (.str [112,117,116]))) (.cons (.set 4 (.bin .add (.v 4) (.v 6))) .nil) (.cons (.iff (.cmp .gt (.v 6) (.c (.int 0))) (.cons (.iff (.orr (.cmp .ne (.v 3) (.c (.str []))) (.cmp .ne (.v 4) (.c (.str [])))) (.cons (.exp (.me .extend (.v 1) (.cons (.cl fh (.cons (.v 2) (.cons (.v 3) (.cons (.v 4) .nil)))) .nil))) (.cons (.set 2 (.c (.int 0))) (.cons (.set 3 (.c (.str []))) (.cons (.set 4 (.c (.str []))) .nil)))) .nil) (.cons (.set 2 (.bin .add (.v 2) (.v 6))) .nil)) .nil) .nil)) .nil)) .nil)
noncomputable def C7 (fh:Nat):S:=.for (.many [5,6]) (.seq (.v 0)) (C6 fh)
noncomputable def C8 (fh:Nat):S:=.exp (.me .extend (.v 1) (.cons (.cl fh (.cons (.v 2) (.cons (.v 3) (.cons (.v 4) .nil)))) .nil))
noncomputable def C9:S:=.ret (.jF (.v 1))
noncomputable def kM (fh:Nat):Fn:=⟨1,7,(.cons C2 (.cons C3 (.cons C4 (.cons C5 (.cons (C7 fh) (.cons (C8 fh) (.cons C9 .nil)))))))⟩
noncomputable def vj:S:=.set 3 (.lst .nil)
noncomputable def vm:S:=.iff (.cmp .gt (.v 0) (.c (.int 0))) (.cons (.exp (.me .append (.v 3) (.cons (.tup (.cons (.c (.str [107,101,101,112])) (.cons (.v 0) .nil))) .nil))) .nil) .nil
noncomputable def nT:S:=.iff (.cmp .ne (.v 1) (.c (.str []))) (.cons (.exp (.me .append (.v 3) (.cons (.tup (.cons (.c (.str [100,114,111,112])) (.cons (.v 1) .nil))) .nil))) .nil) .nil
noncomputable def ki:S:=.iff (.cmp .ne (.v 2) (.c (.str []))) (.cons (.exp (.me .append (.v 3) (.cons (.tup (.cons (.c (.str [112,117,116])) (.cons (.v 2) .nil))) .nil))) .nil) .nil
noncomputable def iY:S:=.ret (.v 3)
noncomputable def gb:Fn:=⟨3,4,(.cons vj (.cons vm (.cons nT (.cons ki (.cons iY .nil)))))⟩
noncomputable def vn:S:=.set 1 (.comp (.ix (.v 4) (.c (.int 0))) (.one 4) (.seq (.v 0)) .no)
noncomputable def vp:Ss:=(.cons (.iff (.orr (.cmp .eq (.v 2) (.v 3)) (.an (.cmp .eq (.v 2) (.c (.str [112,117,116]))) (.cmp .eq (.v 3) (.c (.str [100,114,111,112]))))) (.cons (.ret (.c (.bl false))) .nil) .nil) .nil)
noncomputable def vq:S:=.for (.many [2,3]) (.zip (.v 1) (.sl (.v 1) (.yes (.c (.int 1))) .no)) vp
noncomputable def vt:S:=.ret (.an (.mq (.v 0) [.tuple]) (.cmp .eq (.comp (.v 5) (.one 5) (.seq (.v 0)) (.yes (.cmp .isin (.ix (.v 5) (.c (.int 1))) (.tup (.cons (.c (.str [])) (.cons (.c (.int 0)) .nil)))))) (.lst .nil)))
noncomputable def AN:Fn:=⟨1,6,(.cons vn (.cons vq (.cons vt .nil)))⟩
noncomputable def Pt.n:Pt→Nat
 | .keep n=>n
 | .put s=>s.length
 | .drop s=>s.length
noncomputable def tot (c:List Pt):Nat:=(c.map Pt.n).sum
theorem fJ (a b:List Pt):tot (a++b)=tot a+tot b:=by simp [tot]
theorem bV (p:Pt) (c:List Pt):tot (p :: c)=p.n+tot c:=by simp [tot]
noncomputable def iF:Pt→Bool
 | .put _=>true
 | _=>false
noncomputable def dQ:Pt→Bool
 | .drop _=>true
 | _=>false
noncomputable def fG:Pt→Bool
 | .keep _=>true
 | _=>false
noncomputable def aN (c:List Pt):Nat:=tot (c.filter fun p=>!iF p)
noncomputable def gU (c:List Pt):Nat:=tot (c.filter fun p=>!dQ p)
noncomputable def cst (c:List Pt):Nat:=tot (c.filter fun p=>!fG p)
section
variable {F:List Fn}{w n aO i:Nat}
theorem jP (hs:F[i]?=some gD) (p:Pt) (hp:p.n≤100000):run F w (n+1) i [.val p.v]=some (.int p.n,[]):=by
 cases p with
 | keep k=>exact cY hs rfl (ao (aP (b:=true) (aS rfl (eE (gv (bh rfl) (cG rfl) rfl) (cG rfl) oG) rfl) (fun _=>ao (cC (gv (bh rfl) (cG rfl) rfl) ⟨rfl,rfl⟩)) nofun))
 | put s=>exact cY hs rfl (ao (aP (b:=false) (aS rfl (eE (gv (bh rfl) (cG rfl) rfl) (cG rfl) oG) rfl) nofun (fun _=>aG (ao (cC (iO (bK (gv (bh rfl) (cG rfl) rfl) bT) (len_str hp)) ⟨rfl,rfl⟩)))))
 | drop s=>exact cY hs rfl (ao (aP (b:=false) (aS rfl (eE (gv (bh rfl) (cG rfl) rfl) (cG rfl) oG) rfl) nofun (fun _=>aG (ao (cC (iO (bK (gv (bh rfl) (cG rfl) rfl) bT) (len_str hp)) ⟨rfl,rfl⟩)))))
theorem S7 {c:List Pt}{p:Pt}(h:p∈c):p.n≤tot c:=by
 induction c with
 | nil=>simp at h
 | cons q c ih=>
  rw [bV]
  rcases List.mem_cons.mp h with rfl | h
  ·omega
  ·have:=ih h;omega
theorem OO (c:List Pt):(c.map fun p=>(p.n:Int)).sum=(tot c:Int):=by
 induction c with
 | nil=>rfl
 | cons p c ih=>simp only [List.map_cons,List.sum_cons,ih,bV];omega
theorem wZ {word:List Nat}{pr:Pt→Bool}(hs:F[aO]?=some gD) (hb:F[i]?=some ⟨1,2,.cons (.ret (.bi .sum (.cons (.comp (.cl aO (.cons (.v 1) .nil)) (.one 1) (.seq (.v 0)) (.yes (.cmp .ne (.ix (.v 1) (.c (.int 0))) (.c (.str word))))) .nil))) .nil⟩)
  (hw:∀ p:Pt,∃ x u,p.v=.tup [.str x,u]∧(!decide (x=word))=pr p) (c:List Pt) (h1:c.length≤10000) (h2:tot c≤100000):run F w (n+2) i [.val (aF c)]=some (.int (tot (c.filter pr)),[]):=by
 refine cY hb rfl (ao (cC (iO (bK (kL (gB (fH rfl) rfl) rfl (mR (e:=Pt.v) (p:=pr) (g:=fun p=>.int p.n) c fun p hp=>?_) (er (cy ?_))) bT) ?_) ⟨rfl,rfl⟩))
 ·obtain ⟨x,u,hx,VJ⟩:=hw p
  have hcall:=fun fr=>dW (fr:=fr) (jP (w:=w) (n:=n) hs p (Nat.le_trans (S7 hp) h2))
  rw [hx] at hcall
  rw [hx,←VJ]
  exact wY rfl (aS rfl (eE (gv (bh rfl) (cG rfl) rfl) (cG rfl) iU) rfl) fun _=>dI (cE rfl (bh rfl) bZ) (hcall _)
 ·rw [List.length_map];exact Nat.le_trans (List.length_filter_le _ _) (Nat.le_trans h1 (by decide))
 ·rw [G9,yr (fun p:Pt=>(p.n:Int))]
  show some (V.int _)=_
  rw [OO]
theorem pQ (hs:F[aO]?=some gD) (hb:F[i]?=some (lH aO)) (c:List Pt) (h1:c.length≤10000) (h2:tot c≤100000):run F w (n+2) i [.val (aF c)]=some (.int (aN c),[]):=
 wZ (pr:=fun p=>!iF p) hs hb (fun p=>by cases p <;> exact ⟨_,_,rfl,rfl⟩) c h1 h2
theorem rJ (hs:F[aO]?=some gD) (hb:F[i]?=some (nv aO)) (c:List Pt) (h1:c.length≤10000) (h2:tot c≤100000):run F w (n+2) i [.val (aF c)]=some (.int (gU c),[]):=
 wZ (pr:=fun p=>!dQ p) hs hb (fun p=>by cases p <;> exact ⟨_,_,rfl,rfl⟩) c h1 h2
end
noncomputable def bW (k:Nat) (g w:List Nat):List Pt:=(if 0<k then [.keep k] else [])++(if g=[] then [] else [.drop g])++(if w=[] then [] else [.put w])
theorem kj (k:Nat) (g w:List Nat):(bW k g w).length≤3:=by unfold bW;split <;> split <;> split <;> simp
theorem nU {F:List Fn}{w n i:Nat}(hs:F[i]?=some gb) (k:Nat) (g x:List Nat):run F w (n+1) i [.val (.int k),.val (.str g),.val (.str x)]=some (.lst ((bW k g x).map Pt.v),[]):=by
 refine cY hs rfl ?_
 refine ao (jc (l:=[]) (by repeat array_get_dec) rfl rfl ?_)
 have ap:∀ (l:List V) (d:V) (fr:Fr) (i:Nat),l.length≤3→fr[i]?=some (some (.own l))→gn .append i [d] fr fr[i]?=.ok .bz (fr.set i (some (.own (l++[d])))):=fun l d fr i h e=>by rw [e];exact kK (by omega)
 have fin:∀ l:List V,Wp (exs (run F w n) w (.cons iY .nil) [some (.val (.int k)),some (.val (.str g)),some (.val (.str x)),some (.own l)]) fun g fr=>g=.ret (.lst l)∧outs 3 fr=[]:=fun l=>ao (cC (by repeat array_get_dec) ⟨rfl,rfl⟩)
 have s3:∀ l:List V,l.length≤2→Wp (exs (run F w n) w (.cons ki (.cons iY .nil)) [some (.val (.int k)),some (.val (.str g)),some (.val (.str x)),some (.own l)]) fun g fr=>g=.ret (.lst (l++(if x=[] then [] else [Pt.put x]).map Pt.v))∧outs 3 fr=[]:=fun l hl=>by
  refine ao (aP (by repeat array_get_dec) (fun h=>?_) fun h=>?_)
  ·have hx:x≠[]:=by simpa using h
   refine ao (gm (by (repeat array_get_dec);exact ap _ _ _ _ (by omega) rfl) (aG ?_))
   rw [if_neg hx];exact fin _
  ·have hx:x=[]:=by simpa using h
   refine aG ?_
   rw [if_pos hx,List.map_nil,List.append_nil];exact fin _
 have s2:∀ l:List V,l.length≤1→Wp (exs (run F w n) w (.cons nT (.cons ki (.cons iY .nil))) [some (.val (.int k)),some (.val (.str g)),some (.val (.str x)),some (.own l)]) fun y fr=>y=.ret (.lst (l++((if g=[] then [] else [Pt.drop g])++(if x=[] then [] else [Pt.put x])).map Pt.v))∧outs 3 fr=[]:=fun l hl=>by
  refine ao (aP (by repeat array_get_dec) (fun h=>?_) fun h=>?_)
  ·have hx:g≠[]:=by simpa using h
   refine ao (gm (by (repeat array_get_dec);exact ap _ _ _ _ (by omega) rfl) (aG ?_))
   rw [if_neg hx,List.map_append,←List.append_assoc];exact s3 _ (by simp;omega)
  ·have hx:g=[]:=by simpa using h
   refine aG ?_
   rw [if_pos hx,List.nil_append];exact s3 _ (by omega)
 refine ao (aP (by repeat array_get_dec) (fun h=>?_) fun h=>?_)
 ·have hx:0<k:=by have:=of_decide_eq_true h;omega
  refine ao (gm (by (repeat array_get_dec);exact ap _ _ _ _ (by decide) rfl) (aG ?_))
  unfold bW
  rw [if_pos hx,List.append_assoc];exact s2 _ (Nat.le_refl 1)
 ·have hx:¬ 0<k:=by have:=of_decide_eq_false h;omega
  refine aG ?_
  unfold bW
  rw [if_neg hx];exact s2 _ (by decide)
abbrev FS:=List Pt×Nat×List Nat×List Nat
noncomputable def bJ (st:FS):Pt→FS
 | .drop s=>(st.1,st.2.1,st.2.2.1++s,st.2.2.2)
 | .put s=>(st.1,st.2.1,st.2.2.1,st.2.2.2++s)
 | .keep k=>if 0<k then (if st.2.2.1=[]∧st.2.2.2=[] then (st.1,st.2.1+k,[],[]) else (st.1++bW st.2.1 st.2.2.1 st.2.2.2,k,[],[])) else st
noncomputable def eZ:FS:=([],0,[],[])
noncomputable def dg (st:FS):List Pt:=st.1++bW st.2.1 st.2.2.1 st.2.2.2
noncomputable def aQ (c:List Pt):List Pt:=dg (c.foldl bJ eZ)
theorem HC (p:List Pt) (a:Pt):(p++[a]).foldl bJ eZ=bJ (p.foldl bJ eZ) a:=by simp
theorem uC (c:List Pt):∀ st:FS,(c.foldl bJ st).1.length≤st.1.length+3*c.length∧(c.foldl bJ st).2.2.1.length≤st.2.2.1.length+tot c∧(c.foldl bJ st).2.2.2.length≤st.2.2.2.length+tot c:=by
 induction c with
 | nil=>intro st;simp [tot]
 | cons p c ih=>
  intro st
  have h:=ih (bJ st p)
  have h2:(bJ st p).1.length≤st.1.length+3∧(bJ st p).2.2.1.length≤st.2.2.1.length+p.n∧(bJ st p).2.2.2.length≤st.2.2.2.length+p.n:=by
   have:=kj st.2.1 st.2.2.1 st.2.2.2
   cases p with
   | drop s=>simp [bJ,Pt.n]
   | put s=>simp [bJ,Pt.n]
   | keep k=>
    simp only [bJ]
    split
    ·split
     ·simp
     ·simp;omega
    ·simp
  simp only [List.foldl_cons,List.length_cons,bV]
  omega
theorem iP {F:List Fn}{w n bL i:Nat}(hs:F[bL]?=some gb) (hf:F[i]?=some (kM bL)) (c:List Pt) (h1:c.length≤10000) (h2:tot c≤10000):run F w (n+2) i [.val (aF c)]=some (aF (aQ c),[]):=by
 refine cY hf rfl ?_
 refine ao (jc (l:=[]) (by repeat array_get_dec) rfl rfl ?_)
 refine ao (bC (by repeat array_get_dec) rfl rfl ?_)
 refine ao (bC (by repeat array_get_dec) rfl rfl ?_)
 refine ao (bC (by repeat array_get_dec) rfl rfl ?_)
 refine ao (jr (vs:=c.map Pt.v) (gB (fH rfl) rfl) ?_)
 have ext:∀ (st:FS) (fr:Fr),st.1.length≤30010→gn .extend 1 [.lst ((bW st.2.1 st.2.2.1 st.2.2.2).map Pt.v)] fr (some (some (.own (st.1.map Pt.v))))=.ok .bz (fr.set 1 (some (.own ((dg st).map Pt.v)))):=fun st fr h=>by
  have:=kj st.2.1 st.2.2.1 st.2.2.2
  unfold dg
  rw [List.map_append];exact wW (by simp;omega)
 refine gT (e:=Pt.v) (fun p l fr=>p++l=c∧∃ a b,vo a∧vo b∧fr=[some (.val (aF c)),some (.own ((p.foldl bJ eZ).1.map Pt.v)),some (.val (.int (p.foldl bJ eZ).2.1)),some (.val (.str (p.foldl bJ eZ).2.2.1)),some (.val (.str (p.foldl bJ eZ).2.2.2)),a,b]) (fun p x l fr ⟨hpl,a,b,ha,hb,hfr⟩=>?_) (fun p fr ⟨hpl,a,b,ha,hb,hfr⟩=>?_) c [] _ ⟨rfl,none,none,.none,.none,rfl⟩
 ·subst hfr
  obtain ⟨b1,b2,b3⟩:=uC p eZ
  have hlen:p.length+l.length+1=c.length:=by rw [←hpl];simp;omega
  have uD:tot p+x.n+tot l=tot c:=by rw [←hpl,fJ,bV];omega
  rw [HC]
  have fC:(p++[x])++l=c:=by simpa using hpl
  generalize p.foldl bJ eZ=st at *
  simp [eZ] at b1 b2 b3
  have rs:=fun fr=>iD (fr:=fr) (nU (w:=w) (n:=n) hs st.2.1 st.2.2.1 st.2.2.2)
  have ex:=fun fr=>ext st fr (by omega)
  cases x with
  | drop s=>
   have hs:s.length≤tot c:=by simp only [Pt.n] at uD;omega
   have ad:=lD (a:=st.2.2.1) (b:=s) (by omega)
   refine dm (iV rfl ha rfl hb) (ao (aP (by repeat array_get_dec) (fun _=>?_) fun h=>absurd h (by decide)))
   refine ao (bC (by repeat array_get_dec) rfl rfl (aG (aG ?_)))
   rw [dU];exact ⟨fC,_,_,.val,.val,rfl⟩
  | put s=>
   have hs:s.length≤tot c:=by simp only [Pt.n] at uD;omega
   have ad:=lD (a:=st.2.2.2) (b:=s) (by omega)
   refine dm (iV rfl ha rfl hb) (ao (aP (by repeat array_get_dec) (fun h=>absurd h (by decide)) fun _=>?_))
   refine ao (aP (by repeat array_get_dec) (fun _=>?_) fun h=>absurd h (by decide))
   refine ao (bC (by repeat array_get_dec) rfl rfl (aG (aG (aG ?_))))
   rw [dU];exact ⟨fC,_,_,.val,.val,rfl⟩
  | keep k=>
   refine dm (iV rfl ha rfl hb) (ao (aP (by repeat array_get_dec) (fun h=>absurd h (by decide)) fun _=>?_))
   refine ao (aP (by repeat array_get_dec) (fun h=>absurd h (by decide)) fun _=>?_)
   refine ao (aP (by repeat array_get_dec) (fun h=>?_) fun h=>?_)
   ·have hk:0<k:=by have:=of_decide_eq_true h;omega
    by_cases hg:st.2.2.1=[]∧st.2.2.2=[]
    ·have n1:cop .ne (.str st.2.2.1) (.str [])=some false:=by rw [iU,hg.1];rfl
     have n2:cop .ne (.str st.2.2.2) (.str [])=some false:=by rw [iU,hg.2];rfl
     refine ao (aP (b:=false) (fY (aS rfl (by repeat array_get_dec) rfl) (aS rfl (by repeat array_get_dec) rfl)) (fun h=>absurd h (by decide)) fun _=>aG ?_)
     refine ao (bC (by repeat array_get_dec) rfl rfl (aG (aG (aG (aG ?_)))))
     rw [dU]
     refine ⟨fC,some (.val (.str dX)),some (.val (.int k)),.val,.val,?_⟩
     simp only [bJ,if_pos hk,if_pos hg]
     rw [hg.1,hg.2];rfl
    ·have tt:aK (run F w (n+1)) (.orr (.cmp .ne (.v 3) (.c (.str []))) (.cmp .ne (.v 4) (.c (.str [])))) [some (.val (aF c)),some (.own (st.1.map Pt.v)),some (.val (.int st.2.1)),some (.val (.str st.2.2.1)),some (.val (.str st.2.2.2)),some (.val (.str dX)),some (.val (.int k))]=.ok true [some (.val (aF c)),some (.own (st.1.map Pt.v)),some (.val (.int st.2.1)),some (.val (.str st.2.2.1)),some (.val (.str st.2.2.2)),some (.val (.str dX)),some (.val (.int k))]:=by
      by_cases h3:st.2.2.1=[]
      ·have h4:¬ st.2.2.2=[]:=fun z=>hg ⟨h3,z⟩
       have n1:cop .ne (.str st.2.2.1) (.str [])=some false:=by rw [iU,h3];rfl
       have n2:cop .ne (.str st.2.2.2) (.str [])=some true:=by rw [iU,decide_eq_false h4];rfl
       exact fY (aS rfl (by repeat array_get_dec) rfl) (aS rfl (by repeat array_get_dec) rfl)
      ·have n1:cop .ne (.str st.2.2.1) (.str [])=some true:=by rw [iU,decide_eq_false h3];rfl
       exact AH (aS rfl (by repeat array_get_dec) rfl)
     refine ao (aP tt (fun _=>?_) fun h=>absurd h (by decide))
     refine ao (gm (by (repeat (first | array_get_dec | exact rs _ | exact ex _))) ?_)
     refine ao (bC (by repeat array_get_dec) rfl rfl ?_)
     refine ao (bC (by repeat array_get_dec) rfl rfl ?_)
     refine ao (bC (by repeat array_get_dec) rfl rfl (aG ?_))
     refine ao (bC (by repeat array_get_dec) rfl rfl (aG (aG (aG (aG ?_)))))
     rw [dU]
     refine ⟨fC,some (.val (.str dX)),some (.val (.int k)),.val,.val,?_⟩
     simp only [bJ,if_pos hk,if_neg hg]
     rw [Int.zero_add];rfl
   ·have hk:¬ 0<k:=by have:=of_decide_eq_false h;omega
    refine aG (aG (aG (aG ?_)))
    rw [dU]
    refine ⟨fC,some (.val (.str dX)),some (.val (.int k)),.val,.val,?_⟩
    simp only [bJ,if_neg hk];rfl
 ·subst hfr
  simp at hpl
  subst hpl
  obtain ⟨b1,b2,b3⟩:=uC p eZ
  have e:aQ p=dg (p.foldl bJ eZ):=rfl
  rw [e]
  generalize p.foldl bJ eZ=st at *
  simp [eZ] at b1 b2 b3
  have sl:=kj st.2.1 st.2.2.1 st.2.2.2
  have rs:=fun fr=>iD (fr:=fr) (nU (w:=w) (n:=n) hs st.2.1 st.2.2.1 st.2.2.2)
  have ex:=fun fr=>ext st fr (by omega)
  have mk:toT (.lst ((dg st).map Pt.v))=some (aF (dg st)):=by rw [wQ];exact jL (cy (by simp [dg];omega))
  refine ao (gm (by (repeat (first | array_get_dec | exact rs _ | exact ex _))) ?_)
  exact ao (cC (sI (bh rfl) mk) ⟨rfl,rfl⟩)
end Pv
namespace Pv
open Ev (D cF bY TY BI ME T E Es Eo It S Ss Fn big deep b2i rep cH eG bU aR cut cS eB slots)
section
variable {o:Option Sl}{l:List V}{fr:Fr}{i:Nat}{s:Sl}
end
inductive Tq where
 | at (i:Nat) | sg (c:Nat)
deriving DecidableEq
noncomputable def Pt.asks:Pt→List (List Nat)
 | .keep n=>List.replicate n []
 | .drop s=>s.map fun c=>[c]
 | .put _=>[]
noncomputable def asks (c:List Pt):List (List Nat):=c.flatMap Pt.asks
noncomputable def Pt.told (k:Nat):Pt→List Tq
 | .keep n=>(List.range n).map fun j=>.at (k+j)
 | .drop _=>[]
 | .put s=>s.map .sg
noncomputable def told (k:Nat):List Pt→List Tq
 | []=>[]
 | p :: c=>p.told k++told (k+p.asks.length) c
theorem ez (a b:List Pt):asks (a++b)=asks a++asks b:=by simp [asks]
theorem gM (a b:List Pt):∀ k,told k (a++b)=told k a++told (k+(asks a).length) b:=by
 induction a with
 | nil=>intro k;simp [told,asks]
 | cons p a ih=>
  intro k
  simp only [List.cons_append,told,ih,List.append_assoc]
  congr 3
  simp [asks];omega
noncomputable def j4 (c:List Pt):List (List Nat)×List Tq:=(asks c,told 0 c)
theorem HD {α:Type}(n:Nat) (a:α):rep n [a]=List.replicate n a:=by
 induction n with
 | zero=>rfl
 | succ n ih=>simp only [rep,List.replicate_succ,List.flatten_cons] at ih ⊢;rw [ih];rfl
noncomputable def Pt.word:Pt→List Nat
 | .keep _=>dX
 | .put _=>jO
 | .drop _=>iX
noncomputable def ny (a b:List Nat):Bool:=!(decide (a=b) || (decide (a=jO)&&decide (b=iX)))
noncomputable def jQ:List (List Nat)→Bool
 | a :: b :: r=>ny a b&&jQ (b :: r)
 | _=>true
noncomputable def EV (p:Pt):Bool:=p.n != 0
noncomputable def kN (c:List Pt):Bool:=jQ (c.map Pt.word)&&c.all EV
theorem OP {α:Type}(l:List α):cut l (some 1) none=l.tail:=by
 unfold cut aR
 cases l with
 | nil=>rfl
 | cons a l=>
  have:min (1:Int).toNat (a :: l).length=1:=by simp
  simp [this]
theorem e8 (k:Nat) (g x:List Nat):asks (bW k g x)=List.replicate k []++g.map fun c=>[c]:=by
  unfold bW
  by_cases hk:0<k <;> by_cases hg:g=[] <;> by_cases hx:x=[] <;> simp [hk,hg,hx,asks,Pt.asks]
  all_goals (have:k=0:=by omega
             subst this;simp)
theorem iG (k:Nat) (g x:List Nat) (j:Nat):told j (bW k g x)=(List.range k).map (fun i=>Tq.at (j+i))++x.map Tq.sg:=by
  unfold bW
  by_cases hk:0<k <;> by_cases hg:g=[] <;> by_cases hx:x=[] <;> simp [hk,hg,hx,told,Pt.told,Pt.asks]
  all_goals (have:k=0:=by omega
             subst this;simp)
theorem yI (st:FS) (p:Pt):asks (dg (bJ st p))=asks (dg st++[p])∧∀ j,told j (dg (bJ st p))=told j (dg st++[p]):=by
 obtain ⟨ps,k,g,x⟩:=st
 have e1:∀ a:List Pt,asks (a++[p])=asks a++p.asks:=fun a=>by simp [asks]
 have e2:∀ (a:List Pt) j,told j (a++[p])=told j a++p.told (j+(asks a).length):=fun a j=>by simp [gM,told]
 rw [e1]
 cases p with
 | drop s=>
  refine ⟨by simp [bJ,dg,ez,e8,Pt.asks],fun j=>?_⟩
  rw [e2]
  simp [bJ,dg,gM,iG,Pt.told]
 | put s=>
  refine ⟨by simp [bJ,dg,ez,e8,Pt.asks],fun j=>?_⟩
  rw [e2]
  simp [bJ,dg,gM,iG,Pt.told]
 | keep m=>
  simp only [bJ]
  split
  ·split
   ·rename_i h
    obtain ⟨rfl,rfl⟩:=h
    refine ⟨by simp [dg,ez,e8,Pt.asks],fun j=>?_⟩
    rw [e2]
    simp [dg,ez,gM,iG,e8,Pt.told,List.range_add,Nat.add_assoc]
   ·refine ⟨by simp [dg,ez,e8,Pt.asks],fun j=>?_⟩
    rw [e2]
    simp [dg,ez,gM,iG,e8,Pt.told,Nat.add_assoc]
  ·rename_i h
   have:m=0:=by omega
   subst this
   refine ⟨by simp [Pt.asks],fun j=>?_⟩
   rw [e2]
   simp [Pt.told]
theorem pR (c:List Pt):∀ st:FS,asks (dg (c.foldl bJ st))=asks (dg st++c)∧∀ j,told j (dg (c.foldl bJ st))=told j (dg st++c):=by
 induction c with
 | nil=>intro st;simp
 | cons p c ih=>
  intro st
  obtain ⟨h1,h2⟩:=ih (bJ st p)
  obtain ⟨h3,h4⟩:=yI st p
  simp only [List.foldl_cons]
  have e:dg st++p :: c=(dg st++[p])++c:=by simp
  refine ⟨?_,fun j=>?_⟩
  ·rw [h1,e,ez,ez _ c,h3]
  ·rw [h2 j,e,gM,gM _ c,h4 j,h3]
theorem gc (c:List Pt):asks (aQ c)=asks c:=by
 have:=(pR c eZ).1
 simpa [aQ,eZ,dg,bW] using this
theorem cD (c:List Pt) (j:Nat):told j (aQ c)=told j c:=by
 have:=(pR c eZ).2 j
 simpa [aQ,eZ,dg,bW] using this
theorem lI (c:List Pt):j4 (aQ c)=j4 c:=by simp [j4,gc,cD]
noncomputable def kps (c:List Pt):Nat:=tot (c.filter fG)
theorem oH (c:List Pt):(asks c).length=aN c:=by
 induction c with
 | nil=>rfl
 | cons p c ih=>cases p <;> simp [asks,aN,tot,iF,Pt.asks,Pt.n] at ih ⊢ <;> omega
theorem oJ (c:List Pt):∀ j,(told j c).length=gU c:=by
 induction c with
 | nil=>intro j;rfl
 | cons p c ih=>intro j;cases p <;> simp [told,gU,tot,dQ,Pt.told,Pt.n,ih] at ih ⊢
theorem j5 (n:Nat) (c:List Pt):aN (.keep n :: c)=n+aN c:=by simp [aN,tot,iF,Pt.n]
theorem lJ (s:List Nat) (c:List Pt):aN (.drop s :: c)=s.length+aN c:=by simp [aN,tot,iF,Pt.n]
theorem j6 (s:List Nat) (c:List Pt):aN (.put s :: c)=aN c:=by simp [aN,tot,iF,Pt.n]
theorem yJ (n:Nat) (c:List Pt):gU (.keep n :: c)=n+gU c:=by simp [gU,tot,dQ,Pt.n]
theorem yK (s:List Nat) (c:List Pt):gU (.drop s :: c)=gU c:=by simp [gU,tot,dQ,Pt.n]
theorem yL (s:List Nat) (c:List Pt):gU (.put s :: c)=s.length+gU c:=by simp [gU,tot,dQ,Pt.n]
theorem EW (n:Nat) (c:List Pt):cst (.keep n :: c)=cst c:=by simp [cst,tot,fG,Pt.n]
theorem EX (s:List Nat) (c:List Pt):cst (.drop s :: c)=s.length+cst c:=by simp [cst,tot,fG,Pt.n]
theorem EY (s:List Nat) (c:List Pt):cst (.put s :: c)=s.length+cst c:=by simp [cst,tot,fG,Pt.n]
theorem EZ (n:Nat) (c:List Pt):kps (.keep n :: c)=n+kps c:=by simp [kps,tot,List.filter_cons,fG,Pt.n]
theorem E1 (s:List Nat) (c:List Pt):kps (.drop s :: c)=kps c:=by simp [kps,tot,fG,Pt.n]
theorem E2 (s:List Nat) (c:List Pt):kps (.put s :: c)=kps c:=by simp [kps,tot,fG,Pt.n]
noncomputable def isAt:Tq→Bool
 | .at _=>true
 | _=>false
theorem AO (c:List Pt):∀ j,((told j c).filter isAt).length=kps c:=by
 induction c with
 | nil=>intro j;rfl
 | cons p c ih=>
  intro j
  have e1:∀ (m:Nat) (f:Nat→Nat),(((List.range m).map fun i=>Tq.at (f i)).filter isAt).length=m:=fun m f=>by
   rw [List.filter_eq_self.mpr]
   ·simp
   ·intro a ha;obtain ⟨i,_,rfl⟩:=List.mem_map.mp ha;rfl
  have e2:∀ s:List Nat,((s.map Tq.sg).filter isAt).length=0:=fun s=>by
   rw [List.filter_eq_nil_iff.mpr]
   ·rfl
   ·intro a ha;obtain ⟨i,_,rfl⟩:=List.mem_map.mp ha;simp [isAt]
  cases p with
  | keep m=>simp only [told,Pt.told,List.filter_append,List.length_append,e1,ih,kps,tot,fG,List.filter_cons,if_true,List.map_cons,List.sum_cons,Pt.n]
  | put s=>simp only [told,Pt.told,List.filter_append,List.length_append,e2,ih,kps,fG,List.filter_cons];simp
  | drop s=>simp only [told,Pt.told,List.filter_append,List.length_append,ih,kps,fG,List.filter_cons];simp
theorem AQ (c:List Pt):(cst c:Int)=aN c - kps c+gU c - kps c:=by
 induction c with
 | nil=>rfl
 | cons p c ih=>cases p <;> simp only [EW,EX,EY,j5,lJ,j6,yJ,yK,yL,EZ,E1,E2] <;> omega
theorem AR (c:List Pt):tot c+kps c=aN c+gU c:=by
 induction c with
 | nil=>rfl
 | cons p c ih=>cases p <;> simp only [bV,Pt.n,j5,lJ,j6,yJ,yK,yL,EZ,E1,E2] <;> omega
theorem uE (c:List Pt):aN (aQ c)=aN c:=by rw [←oH,←oH,gc]
theorem uF (c:List Pt):gU (aQ c)=gU c:=by rw [←oJ _ 0,←oJ _ 0,cD]
theorem uG (c:List Pt):kps (aQ c)=kps c:=by rw [←AO _ 0,←AO _ 0,cD]
theorem oK (c:List Pt):cst (aQ c)=cst c:=by
 have h1:=AQ (aQ c)
 have h2:=AQ c
 rw [uE,uF,uG] at h1
 omega
theorem gO (c:List Pt):tot (aQ c)=tot c:=by
 have h1:=AR (aQ c)
 have h2:=AR c
 rw [uE,uF,uG] at h1
 omega
theorem w9:∀ (a:List (List Nat)) (b:List (List Nat)),jQ (a++b)=true↔jQ a=true∧jQ b=true∧∀ x∈a.getLast?,∀ y∈b.head?,ny x y=true
 | [],b=>by simp [jQ]
 | [x],[]=>by simp [jQ]
 | [x],y :: b=>by simp [jQ,and_comm]
 | x :: y :: a,b=>by
  have:=w9 (y :: a) b
  simp only [List.cons_append] at this ⊢
  simp only [jQ,Bool.and_eq_true,this,List.getLast?_cons_cons]
  constructor
  ·rintro ⟨h1,h2,h3,h4⟩;exact ⟨⟨h1,h2⟩,h3,h4⟩
  ·rintro ⟨⟨h1,h2⟩,h3,h4⟩;exact ⟨h1,h2,h3,h4⟩
theorem vv (k:Nat) (g x:List Nat):kN (bW k g x)=true:=by
 unfold bW
 by_cases hk:0<k <;> by_cases hg:g=[] <;> by_cases hx:x=[] <;> simp [hk,hg,hx,kN,EV,jQ,ny,Pt.word,Pt.n,dX,jO,iX]
 all_goals omega
noncomputable def uH (st:FS):Prop:=kN st.1=true∧(st.1≠[]→0<st.2.1)∧∀ p∈st.1.getLast?,p.word≠dX
theorem HE {a b:List Pt}(ha:kN a=true) (hb:kN b=true) (h:∀ p∈a.getLast?,∀ q∈b.head?,ny p.word q.word=true):kN (a++b)=true:=by
 simp only [kN,Bool.and_eq_true] at ha hb ⊢
 refine ⟨?_,by rw [List.all_append,ha.2,hb.2];rfl⟩
 rw [List.map_append,w9]
 refine ⟨ha.1,hb.1,fun x hx y hy=>?_⟩
 simp at hx hy
 obtain ⟨p,hp,rfl⟩:=hx
 obtain ⟨q,hq,rfl⟩:=hy
 exact h p hp q hq
theorem uI {k:Nat}{g x:List Nat}(hk:0<k):(bW k g x).head?=some (.keep k):=by simp [bW,hk]
theorem HF {w:List Nat}(h:w≠dX) (hw:w=jO∨w=iX):ny w dX=true:=by
 rcases hw with rfl | rfl <;> decide
theorem HG (p:Pt):p.word=dX∨p.word=jO∨p.word=iX:=by cases p <;> simp [Pt.word]
theorem uJ {st:FS}(h:uH st):kN (dg st)=true:=by
 refine HE h.1 (vv _ _ _) fun p hp q hq=>?_
 have hne:st.1≠[]:=by intro z;rw [z] at hp;simp at hp
 rw [uI (h.2.1 hne)] at hq
 simp at hq;subst hq
 have hw:=h.2.2 p hp
 exact HF hw ((HG p).resolve_left hw)
theorem uK {k:Nat}{g x:List Nat}(h:¬ (g=[]∧x=[])):∀ p∈(bW k g x).getLast?,p.word≠dX:=by
 unfold bW
 by_cases hx:x=[]
 ·have hg:g≠[]:=fun z=>h ⟨z,hx⟩
  intro p hp
  simp [hg,hx] at hp
  subst hp
  simp [Pt.word,iX,dX]
 ·intro p hp
  simp [hx] at hp
  subst hp
  simp [Pt.word,jO,dX]
theorem AS {st:FS}(h:uH st) (p:Pt):uH (bJ st p):=by
 cases p with
 | drop s=>exact h
 | put s=>exact h
 | keep k=>
  simp only [bJ]
  split
  ·rename_i hk
   split
   ·exact ⟨h.1,fun z=>by simp;omega,h.2.2⟩
   ·rename_i Qj
    refine ⟨uJ h,fun _=>hk,fun p hp=>?_⟩
    rw [List.getLast?_append] at hp
    cases z:(bW st.2.1 st.2.2.1 st.2.2.2).getLast? with
    | none=>
     exfalso
     rw [List.getLast?_eq_none_iff] at z
     unfold bW at z
     by_cases hx:st.2.2.2=[] <;> by_cases hg:st.2.2.1=[] <;> simp [hx,hg] at z Qj
    | some q=>
     rw [z] at hp
     simp at hp
     subst hp
     exact uK Qj q z
  ·exact h
theorem gf (c:List Pt):kN (aQ c)=true:=by
 have:∀ (c:List Pt) (st:FS),uH st→uH (c.foldl bJ st):=fun c=>by
  induction c with
  | nil=>exact fun st h=>h
  | cons p c ih=>exact fun st h=>ih _ (AS h p)
 exact uJ (this c eZ ⟨rfl,fun z=>absurd rfl z,fun p hp=>by simp [eZ] at hp⟩)
end Pv
namespace Pv
open Ev (D cF bY TY BI ME T E Es Eo It S Ss Fn big deep b2i rep cH eG bU aR cut cS eB slots)
abbrev Bl:=List Nat×List Nat
abbrev BS:=List Bl×Bl
noncomputable def eF (st:BS):Pt→BS
 | .drop s=>(st.1,(st.2.1++s,st.2.2))
 | .put s=>(st.1,(st.2.1,st.2.2++s))
 | .keep 0=>st
 | .keep (n+1)=>(st.1++st.2 :: List.replicate n ([],[]),([],[]))
noncomputable def nV:BS:=([],([],[]))
noncomputable def blocks (c:List Pt):BS:=c.foldl eF nV
noncomputable def kO (st:List Pt×Nat) (b:Bl):List Pt×Nat:=if b.1=[]∧b.2=[] then (st.1,st.2+1) else (st.1++bW st.2 b.1 b.2,1)
noncomputable def pk (bs:List Bl):List Pt×Nat:=bs.foldl kO ([],0)
theorem Dc (n:Nat):∀ st:List Pt×Nat,(List.replicate n (([],[]):Bl)).foldl kO st=(st.1,st.2+n):=by
 induction n with
 | zero=>intro st;simp
 | succ n ih=>intro st;simp [List.replicate_succ,kO,ih];omega
noncomputable def xg (st:BS):FS:=((pk st.1).1,(pk st.1).2,st.2.1,st.2.2)
theorem De (st:BS) (p:Pt):bJ (xg st) p=xg (eF st p):=by
 obtain ⟨bs,g,x⟩:=st
 cases p with
 | drop s=>rfl
 | put s=>rfl
 | keep n=>
  cases n with
  | zero=>rfl
  | succ n=>
   have e:pk (bs++(g,x) :: List.replicate n ([],[]))=((kO (pk bs) (g,x)).1,(kO (pk bs) (g,x)).2+n):=by
    simp only [pk,List.foldl_append,List.foldl_cons,Dc]
   simp only [xg,eF,e,bJ,Nat.succ_pos,if_true,kO]
   by_cases h:g=[]∧x=[]
   ·simp [h];omega
   ·simp [h];omega
theorem Df (c:List Pt):∀ st:BS,c.foldl bJ (xg st)=xg (c.foldl eF st):=by
 induction c with
 | nil=>intro st;rfl
 | cons p c ih=>intro st;simp only [List.foldl_cons,De,ih]
theorem iZ (c:List Pt):aQ c=dg (xg (blocks c)):=by
 unfold aQ blocks
 rw [←Df];rfl
noncomputable def AU (st:List (List Nat)×List Nat):List Nat→List (List Nat)×List Nat
 | []=>(st.1++[st.2],[])
 | c :: _=>(st.1,st.2++[c])
noncomputable def spT (st:List (List Nat)×List Nat):Tq→List (List Nat)×List Nat
 | .at _=>(st.1++[st.2],[])
 | .sg c=>(st.1,st.2++[c])
theorem AV (s:List Nat):∀ st,(s.map fun c=>[c]).foldl AU st=(st.1,st.2++s):=by
 induction s with
 | nil=>intro st;simp
 | cons c s ih=>intro st;simp [AU,ih]
theorem Dg (n:Nat):∀ st,(List.replicate n []).foldl AU st=if n=0 then st else (st.1++st.2 :: List.replicate (n - 1) [],[]):=by
 induction n with
 | zero=>intro st;rfl
 | succ n ih=>
  intro st
  simp only [List.replicate_succ,List.foldl_cons,AU,ih]
  cases n with
  | zero=>simp
  | succ n=>simp [List.replicate_succ]
theorem AX (s:List Nat):∀ st,(s.map Tq.sg).foldl spT st=(st.1,st.2++s):=by
 induction s with
 | nil=>intro st;simp
 | cons c s ih=>intro st;simp [spT,ih]
theorem Dh (n:Nat):∀ (k:Nat) st,((List.range n).map fun j=>Tq.at (k+j)).foldl spT st=if n=0 then st else (st.1++st.2 :: List.replicate (n - 1) [],[]):=by
 induction n with
 | zero=>intro k st;rfl
 | succ n ih=>
  intro k st
  rw [List.range_succ,List.map_append,List.foldl_append,ih]
  cases n with
  | zero=>simp [spT]
  | succ n=>
   simp [spT]
   rw [←List.replicate_succ',List.replicate_succ]
theorem pS (c:List Pt):∀ st:BS,(asks c).foldl AU (st.1.map Prod.fst,st.2.1)=((c.foldl eF st).1.map Prod.fst,(c.foldl eF st).2.1):=by
 induction c with
 | nil=>intro st;rfl
 | cons p c ih=>
  intro st
  have e:asks (p :: c)=p.asks++asks c:=by simp [asks]
  rw [e,List.foldl_append,List.foldl_cons,←ih]
  congr 1
  cases p with
  | drop s=>simp [Pt.asks,AV,eF]
  | put s=>simp [Pt.asks,eF]
  | keep n=>
   simp only [Pt.asks,Dg]
   cases n with
   | zero=>rfl
   | succ n=>simp [eF]
theorem pT (c:List Pt):∀ (k:Nat) (st:BS),(told k c).foldl spT (st.1.map Prod.snd,st.2.2)=((c.foldl eF st).1.map Prod.snd,(c.foldl eF st).2.2):=by
 induction c with
 | nil=>intro k st;rfl
 | cons p c ih=>
  intro k st
  rw [told,List.foldl_append,List.foldl_cons,←ih (k+p.asks.length)]
  congr 1
  cases p with
  | put s=>simp [Pt.told,AX,eF]
  | drop s=>simp [Pt.told,eF]
  | keep n=>
   simp only [Pt.told,Dh]
   cases n with
   | zero=>rfl
   | succ n=>simp [eF]
theorem xj {α β:Type}:∀ {a b:List (α×β)},a.map Prod.fst=b.map Prod.fst→a.map Prod.snd=b.map Prod.snd→a=b
 | [],[],_,_=>rfl
 | [],_ :: _,h,_=>by simp at h
 | _ :: _,[],h,_=>by simp at h
 | (x,y) :: a,(x',y') :: b,h1,h2=>by
  simp at h1 h2
  rw [h1.1,h2.1,xj h1.2 h2.2]
theorem mU {a b:List Pt}(h:j4 a=j4 b):blocks a=blocks b:=by
 have hA:asks a=asks b:=congrArg Prod.fst h
 have hT:told 0 a=told 0 b:=congrArg Prod.snd h
 have a1:=pS a nV
 have b1:=pS b nV
 have a2:=pT a 0 nV
 have b2:=pT b 0 nV
 rw [hA,b1] at a1
 rw [hT,b2] at a2
 have e1:=congrArg Prod.fst a1
 have e2:=congrArg Prod.snd a1
 have e3:=congrArg Prod.fst a2
 have e4:=congrArg Prod.snd a2
 unfold blocks
 exact Prod.ext (xj e1.symm e3.symm) (Prod.ext e2.symm e4.symm)
theorem oM (a b:List Pt):aQ a=aQ b↔j4 a=j4 b:=by
 constructor
 ·intro h
  rw [←lI a,←lI b,h]
 ·intro h
  rw [iZ,iZ,mU h]
theorem gg (a:List Pt):aQ (aQ a)=aQ a:=(oM _ _).mpr (lI a)
noncomputable def Pt.sw:Pt→Pt
 | .keep n=>.keep n
 | .put s=>.drop s
 | .drop s=>.put s
noncomputable def sw (c:List Pt):List Pt:=c.map Pt.sw
theorem rK (c:List Pt):∀ st:BS,(sw c).foldl eF (st.1.map Prod.swap,st.2.swap)=((c.foldl eF st).1.map Prod.swap,(c.foldl eF st).2.swap):=by
 induction c with
 | nil=>intro st;rfl
 | cons p c ih=>
  intro st
  simp only [sw,List.map_cons,List.foldl_cons] at ih ⊢
  rw [←ih]
  congr 1
  cases p with
  | put s=>rfl
  | drop s=>rfl
  | keep n=>cases n <;> simp [Pt.sw,eF]
theorem xm {a b:List Pt}(h:aQ a=aQ b):aQ (sw a)=aQ (sw b):=by
 have hb:=mU ((oM a b).mp h)
 rw [iZ,iZ]
 have a1:=rK a nV
 have b1:=rK b nV
 have e:blocks (sw a)=blocks (sw b):=by
  unfold blocks at hb ⊢
  have z:((nV.1.map Prod.swap,nV.2.swap):BS)=nV:=rfl
  rw [z] at a1 b1
  rw [a1,b1,hb]
 rw [e]
noncomputable def dh (c:List Pt):List Pt:=aQ (sw c)
theorem Lq (c:List Pt):aN (sw c)=gU c:=by
 induction c with
 | nil=>rfl
 | cons p c ih=>cases p <;> simp only [sw,List.map_cons,Pt.sw,j5,lJ,j6,yJ,yK,yL] at ih ⊢ <;> omega
noncomputable def aV:List Pt→List Nat→Bool
 | [],t=>t.isEmpty
 | .keep n :: c,t=>decide (n≤t.length)&&aV c (t.drop n)
 | .drop s :: c,t=>s.isPrefixOf t&&aV c (t.drop s.length)
 | .put _ :: c,t=>aV c t
noncomputable def aH:List Pt→List Nat→List Nat
 | [],_=>[]
 | .keep n :: c,t=>t.take n++aH c (t.drop n)
 | .drop s :: c,t=>aH c (t.drop s.length)
 | .put s :: c,t=>s++aH c t
noncomputable def aW:List (List Nat)→List Nat→Bool
 | [],[]=>true
 | x :: a,c :: t=>(decide (x=[]) || decide (x=[c]))&&aW a t
 | _,_=>false
theorem rL (n:Nat) (a:List (List Nat)):∀ t,aW (List.replicate n []++a) t=(decide (n≤t.length)&&aW a (t.drop n)):=by
 induction n with
 | zero=>intro t;simp
 | succ n ih=>
  intro t
  cases t with
  | nil=>simp [List.replicate_succ,aW]
  | cons c t=>simp [List.replicate_succ,aW,ih]
theorem A3 (s:List Nat) (a:List (List Nat)):∀ t,aW ((s.map fun c=>[c])++a) t=(s.isPrefixOf t&&aW a (t.drop s.length)):=by
 induction s with
 | nil=>intro t;simp
 | cons c s ih=>
  intro t
  cases t with
  | nil=>simp [aW]
  | cons d t=>
   simp only [List.map_cons,List.cons_append,aW,ih,List.isPrefixOf,List.length_cons,List.drop_succ_cons]
   by_cases h:c=d <;> simp [h]
theorem gh (c:List Pt):∀ t,aV c t=aW (asks c) t:=by
 induction c with
 | nil=>intro t;cases t <;> rfl
 | cons p c ih=>
  intro t
  have e:asks (p :: c)=p.asks++asks c:=by simp [asks]
  rw [e]
  cases p with
  | keep n=>simp [aV,Pt.asks,rL,ih]
  | drop s=>simp [aV,Pt.asks,A3,ih]
  | put s=>simp [aV,Pt.asks,ih]
theorem iQ (c:List Pt) (t:List Nat):aV (aQ c) t=aV c t:=by rw [gh,gh,gc]
noncomputable def pick (t:List Nat):Tq→List Nat
 | .at i=>(t[i]?).toList
 | .sg c=>[c]
theorem A5 (c:List Pt):∀ (t:List Nat) (k:Nat),aH c (t.drop k)=(told k c).flatMap (pick t):=by
 induction c with
 | nil=>intro t k;rfl
 | cons p c ih=>
  intro t k
  rw [told,List.flatMap_append,←ih]
  cases p with
  | put s=>
   simp only [aH,Pt.told,Pt.asks,List.length_nil,Nat.add_zero]
   congr 1
   induction s with
   | nil=>rfl
   | cons c s ih=>simp [pick] at ih ⊢;exact ih
  | drop s=>simp [aH,Pt.told,Pt.asks,Nat.add_comm]
  | keep n=>
   simp only [aH,Pt.told,Pt.asks,List.length_replicate,List.drop_drop]
   congr 1
   induction n generalizing k with
   | zero=>simp
   | succ n ihn=>
    rw [List.range_succ,List.map_append,List.flatMap_append,←ihn]
    rw [List.take_add_one]
    simp [pick]
theorem fj (c:List Pt) (t:List Nat):aH (aQ c) t=aH c t:=by
 have h1:=A5 (aQ c) t 0
 have h2:=A5 c t 0
 rw [cD,←h2] at h1
 simpa using h1
theorem uL (c:List Pt):∀ t,aV c t=true→aV (sw c) (aH c t)=true∧aH (sw c) (aH c t)=t:=by
 induction c with
 | nil=>intro t h;simp [aV] at h;subst h;simp [sw,aV,aH]
 | cons p c ih=>
  intro t h
  cases p with
  | keep n=>
   simp only [aV,Bool.and_eq_true,decide_eq_true_eq] at h
   obtain ⟨h1,h2⟩:=ih _ h.2
   have hl:(t.take n).length=n:=by simp;omega
   simp only [sw,List.map_cons,Pt.sw,aH,aV] at h1 h2 ⊢
   have e1:(t.take n++aH c (t.drop n)).drop n=aH c (t.drop n):=by rw [List.drop_append_of_le_length (by omega),List.drop_eq_nil_of_le (by omega)];rfl
   have e2:(t.take n++aH c (t.drop n)).take n=t.take n:=by rw [List.take_append_of_le_length (by omega),List.take_take,Nat.min_self]
   rw [e1,e2,h1,h2]
   simp
   omega
  | drop s=>
   simp only [aV,Bool.and_eq_true] at h
   obtain ⟨h1,h2⟩:=ih _ h.2
   simp only [sw,List.map_cons,Pt.sw,aH,aV] at h1 h2 ⊢
   rw [h2]
   refine ⟨h1,?_⟩
   obtain ⟨r,rfl⟩:=List.isPrefixOf_iff_prefix.mp h.1
   simp
  | put s=>
   simp only [aV] at h
   obtain ⟨h1,h2⟩:=ih _ h
   simp only [sw,List.map_cons,Pt.sw,aH,aV] at h1 h2 ⊢
   simp [h1,h2]
end Pv
namespace Pv
open Ev (D cF bY TY BI ME T E Es Eo It S Ss Fn big deep b2i rep cH eG bU aR cut cS eB slots)
noncomputable def Di:S:=.set 2 (.c (.int 0))
noncomputable def Dj (cz:Nat):Ss:=(.cons (.iff (.an (.cmp .eq (.ix (.v 3) (.c (.int 0))) (.c (.str [100,114,111,112]))) (.cmp .ne (.sl (.v 1) (.yes (.v 2)) (.yes (.bin .add (.v 2) (.cl cz (.cons (.v 3) .nil))))) (.ix (.v 3) (.c (.int 1))))) (.cons (.ret (.c (.bl false))) .nil) .nil) (.cons (.iff (.cmp .ne (.ix (.v 3) (.c (.int 0))) (.c (.str [112,117,116]))) (.cons (.set 2 (.bin .add (.v 2) (.cl cz (.cons (.v 3) .nil)))) .nil) .nil) .nil))
noncomputable def Dk (cz:Nat):S:=.for (.one 3) (.seq (.v 0)) (Dj cz)
noncomputable def Dl:S:=.ret (.cmp .eq (.v 2) (.bi .len (.cons (.v 1) .nil)))
noncomputable def A6 (cz:Nat):Fn:=⟨2,4,(.cons Di (.cons (Dk cz) (.cons Dl .nil)))⟩
noncomputable def Dm (uM:Nat):S:=.iff (.nt (.cl uM (.cons (.v 0) (.cons (.v 1) .nil)))) (.cons (.gy) .nil) .nil
noncomputable def Dn:S:=.set 2 (.lst .nil)
noncomputable def Dp:S:=.set 3 (.c (.int 0))
noncomputable def Dq:Ss:=(.cons (.iff (.cmp .eq (.v 4) (.c (.str [112,117,116]))) (.cons (.exp (.me .append (.v 2) (.cons (.v 5) .nil))) .nil) (.cons (.iff (.cmp .eq (.v 4) (.c (.str [100,114,111,112]))) (.cons (.set 3 (.bin .add (.v 3) (.bi .len (.cons (.v 5) .nil)))) .nil) (.cons (.exp (.me .append (.v 2) (.cons (.sl (.v 1) (.yes (.v 3)) (.yes (.bin .add (.v 3) (.v 5)))) .nil))) (.cons (.set 3 (.bin .add (.v 3) (.v 5))) .nil))) .nil)) .nil)
noncomputable def Ds:S:=.for (.many [4,5]) (.seq (.v 0)) Dq
noncomputable def Dt:S:=.ret (.me .join (.c (.str [])) (.cons (.v 2) .nil))
noncomputable def Lr (uM:Nat):Fn:=⟨2,6,(.cons (Dm uM) (.cons Dn (.cons Dp (.cons Ds (.cons Dt .nil)))))⟩
noncomputable def yN (dJ:Nat):S:=.ret (.cl dJ (.cons (.jF (.comp (.tup (.cons (.jE [(.str [107,101,101,112],.str [107,101,101,112]),(.str [112,117,116],.str [100,114,111,112]),(.str [100,114,111,112],.str [112,117,116])] (.v 1)) (.cons (.v 2) .nil))) (.many [1,2]) (.seq (.v 0)) .no)) .nil))
noncomputable def Du (dJ:Nat):Fn:=⟨1,3,(.cons (yN dJ) .nil)⟩
noncomputable def vz (dJ:Nat):S:=.ret (.cl dJ (.cons (.tup (.cons (.tup (.cons (.c (.str [107,101,101,112])) (.cons (.v 0) .nil))) .nil)) .nil))
noncomputable def mV (dJ:Nat):Fn:=⟨1,1,(.cons (vz dJ) .nil)⟩
noncomputable def Dv:S:=.set 2 (.c (.int 0))
noncomputable def Dw:S:=.set 3 (.c (.str []))
noncomputable def Dy:Ss:=(.cons (.iff (.cmp .eq (.v 4) (.c (.str [112,117,116]))) (.cons (.set 3 (.bin .add (.v 3) (.v 5))) .nil) (.cons (.iff (.cmp .eq (.v 4) (.c (.str [100,114,111,112]))) (.cons (.iff (.cmp .ne (.sl (.v 1) (.yes (.v 2)) (.yes (.bin .add (.v 2) (.bi .len (.cons (.v 5) .nil))))) (.v 5)) (.cons (.ret (.c (.bz))) .nil) .nil) (.cons (.set 2 (.bin .add (.v 2) (.bi .len (.cons (.v 5) .nil)))) .nil)) (.cons (.set 3 (.bin .add (.v 3) (.sl (.v 1) (.yes (.v 2)) (.yes (.bin .add (.v 2) (.v 5)))))) (.cons (.set 2 (.bin .add (.v 2) (.v 5))) .nil))) .nil)) .nil)
noncomputable def Dz:S:=.for (.many [4,5]) (.seq (.v 0)) Dy
noncomputable def DA:S:=.ret (.kB (.cmp .eq (.v 2) (.bi .len (.cons (.v 1) .nil))) (.v 3) (.c (.bz)))
noncomputable def Ls:Fn:=⟨2,6,(.cons Dv (.cons Dw (.cons Dz (.cons DA .nil))))⟩
theorem pU {α:Type}(l:List α) (p k:Nat):cut l (some (p:Int)) (some ((p:Int)+k))=(l.drop p).take k:=by
 have h1:¬ (p:Int)<0:=by omega
 have h2:¬ (p:Int)+k<0:=by omega
 have h3:((p:Int)+k).toNat=p+k:=by omega
 simp only [cut,aR,h1,h2,if_false,h3,Int.toNat_natCast]
 by_cases hp:p≤l.length
 ·rw [Nat.min_eq_left hp]
  by_cases hk:p+k≤l.length
  ·rw [Nat.min_eq_left hk];congr 1;omega
  ·rw [Nat.min_eq_right (by omega),List.take_of_length_le (by simp),List.take_of_length_le (by simp;omega)]
 ·have e1:min p l.length=l.length:=by omega
  rw [e1,List.drop_eq_nil_of_le (Nat.le_refl _),List.drop_eq_nil_of_le (by omega)]
  simp
theorem pre_take {s t:List Nat}:s.isPrefixOf t=decide (t.take s.length=s):=by
 cases h:s.isPrefixOf t with
 | true=>
  obtain ⟨r,rfl⟩:=List.isPrefixOf_iff_prefix.mp h
  simp
 | false=>
  symm
  rw [decide_eq_false_iff_not]
  intro e
  have:s.isPrefixOf t=true:=List.isPrefixOf_iff_prefix.mpr (by have z:=List.take_prefix s.length t;rw [e] at z;exact z)
  rw [h] at this;cases this
theorem kP (a b:List Pt):aN (a++b)=aN a+aN b:=by simp [aN,tot]
theorem kQ {c:List Pt}:∀ {t:List Nat},aV c t=true→t.length=aN c:=by
 induction c with
 | nil=>intro t h;simp [aV] at h;subst h;rfl
 | cons p c ih=>
  intro t h
  cases p with
  | keep n=>simp only [aV,Bool.and_eq_true,decide_eq_true_eq] at h;have:=ih h.2;rw [j5];simp at this;omega
  | drop s=>
   simp only [aV,Bool.and_eq_true] at h
   have h2:=ih h.2
   obtain ⟨r,rfl⟩:=List.isPrefixOf_iff_prefix.mp h.1
   rw [lJ];simp at h2 ⊢;omega
  | put s=>rw [j6];exact ih h
theorem lK (c:List Pt):∀ t,(aH c t).length≤t.length+tot c:=by
 induction c with
 | nil=>intro t;simp [aH]
 | cons p c ih=>
  intro t
  rw [bV]
  cases p with
  | keep n=>have:=ih (t.drop n);simp [aH,Pt.n] at this ⊢;omega
  | drop s=>have:=ih (t.drop s.length);simp [aH,Pt.n] at this ⊢;omega
  | put s=>have:=ih t;simp [aH,Pt.n] at this ⊢;omega
section
variable {F:List Fn}{w n aO mW cK bL i:Nat}
theorem DB (c:List Pt) (t:List Nat) (q:Nat) (p:Pt) (l:List Pt) (h:aV c t=(decide (q≤t.length)&&aV (p :: l) (t.drop q))) :
  (dQ p=true→(∃ s,p=.drop s∧(if (t.drop q).take s.length=s then aV c t=(decide (q+s.length≤t.length)&&aV l (t.drop (q+s.length))) else aV c t=false)))∧
  (dQ p=false→aV c t=(decide (q+aN [p]≤t.length)&&aV l (t.drop (q+aN [p])))):=by
 cases p with
 | drop s=>
  refine ⟨fun _=>⟨s,rfl,?_⟩,fun z=>by simp [dQ] at z⟩
  simp only [aV,pre_take,List.drop_drop] at h
  split
  ·rename_i hs
   rw [h]
   simp only [hs,decide_true,Bool.true_and]
   have hl:=congrArg List.length hs
   simp at hl
   by_cases hq:q≤t.length
   ·by_cases hq2:q+s.length≤t.length
    ·simp [hq,hq2]
    ·omega
   ·have:¬ q+s.length≤t.length:=by omega
    simp [hq,this]
  ·rename_i hs
   rw [h];simp [hs]
 | keep k=>
  refine ⟨fun z=>by simp [dQ] at z,fun _=>?_⟩
  have e:aN [.keep k]=k:=by rw [j5];rfl
  rw [h,e]
  simp only [aV,List.drop_drop,List.length_drop]
  by_cases hq:q≤t.length
  ·by_cases hq2:q+k≤t.length
   ·have:k≤t.length - q:=by omega
    simp [hq,hq2,this]
   ·have:¬ k≤t.length - q:=by omega
    simp [hq2,this]
  ·have:¬ q+k≤t.length:=by omega
   simp [hq,this]
 | put s=>
  refine ⟨fun z=>by simp [dQ] at z,fun _=>?_⟩
  have e:aN [.put s]=0:=by rw [j6];rfl
  rw [h,e]
  simp [aV]
theorem oN (hs:F[aO]?=some gD) (hf:F[i]?=some (A6 aO)) (c:List Pt) (t:List Nat) (h1:tot c≤10000) (h2:t.length≤10000):run F w (n+2) i [.val (aF c),.val (.str t)]=some (.bl (aV c t),[]):=by
 refine cY hf rfl ?_
 refine ao (bC (by repeat array_get_dec) rfl rfl ?_)
 refine ao (jr (vs:=c.map Pt.v) (gB (fH rfl) rfl) ?_)
 refine gT (e:=Pt.v) (fun p l fr=>p++l=c∧aV c t=(decide (aN p≤t.length)&&aV l (t.drop (aN p)))∧∃ a,vo a∧fr=[some (.val (aF c)),some (.val (.str t)),some (.val (.int (aN p))),a]) (fun p x l fr ⟨hpl,hfit,a,ha,hfr⟩=>?_) (fun p fr ⟨hpl,hfit,a,ha,hfr⟩=>?_) c [] _ ⟨rfl,by simp [aN,tot],none,.none,rfl⟩
 ·subst hfr
  have uD:tot p+x.n+tot l=tot c:=by rw [←hpl,fJ,bV];omega
  have sz:=fun fr=>dW (fr:=fr) (jP (w:=w) (n:=n) hs x (by omega))
  obtain ⟨k1,k2⟩:=DB c t (aN p) x l hfit
  have fC:(p++[x])++l=c:=by simpa using hpl
  have eb:aN (p++[x])=aN p+aN [x]:=kP p [x]
  have ei:((aN (p++[x]):Nat):Int)=(aN p:Int)+(aN [x]:Nat):=by rw [eb];simp
  cases x with
  | drop s=>
   obtain ⟨s',e,k1⟩:=k1 rfl
   cases e
   have e2:aN [.drop s]=s.length:=by rw [lJ];rfl
   rw [e2] at eb ei
   have cu:eV (.str t) (some (aN p:Int)) (some ((aN p:Int)+((Pt.drop s).n:Nat)))=some (.str ((t.drop (aN p)).take s.length)):=by rw [gk];exact congrArg (fun z=>some (V.str z)) (pU t (aN p) s.length)
   by_cases hx:(t.drop (aN p)).take s.length=s
   ·rw [if_pos hx] at k1
    have ne:cop .ne (.str ((t.drop (aN p)).take s.length)) (.str s)=some false:=by rw [iU,decide_eq_true hx];rfl
    refine dm (bind1 rfl ha) (ao (aP (b:=false) (jb (b2:=false) (aS rfl (by repeat array_get_dec) rfl) (aS rfl (by (repeat (first | array_get_dec | exact sz _))) rfl)) (fun h=>absurd h (by decide)) fun _=>aG ?_))
    refine ao (aP (by repeat array_get_dec) (fun _=>?_) fun h=>absurd h (by decide))
    refine ao (bC (by (repeat (first | array_get_dec | exact sz _))) rfl rfl (aG (aG ?_)))
    rw [dU]
    exact ⟨fC,by rw [eb];exact k1,some (.val (Pt.drop s).v),.val,by rw [ei];rfl⟩
   ·rw [if_neg hx] at k1
    have ne:cop .ne (.str ((t.drop (aN p)).take s.length)) (.str s)=some true:=by rw [iU,decide_eq_false hx];rfl
    refine dm (bind1 rfl ha) (ao (aP (b:=true) (jb (b2:=true) (aS rfl (by repeat array_get_dec) rfl) (aS rfl (by (repeat (first | array_get_dec | exact sz _))) rfl)) (fun _=>?_) fun h=>absurd h (by decide)))
    refine ao (cC (by repeat array_get_dec) ?_)
    show nx _ _ _ _ _ _
    rw [k1];exact ⟨rfl,rfl⟩
  | keep k=>
   have k2:=k2 rfl
   have e2:aN [.keep k]=k:=by rw [j5];rfl
   rw [e2] at k2 eb ei
   refine dm (bind1 rfl ha) (ao (aP (b:=false) (uB (aS rfl (by repeat array_get_dec) rfl)) (fun h=>absurd h (by decide)) fun _=>aG ?_))
   refine ao (aP (by repeat array_get_dec) (fun _=>?_) fun h=>absurd h (by decide))
   refine ao (bC (by (repeat (first | array_get_dec | exact sz _))) rfl rfl (aG (aG ?_)))
   rw [dU]
   exact ⟨fC,by rw [eb];exact k2,some (.val (Pt.keep k).v),.val,by rw [ei];rfl⟩
  | put s=>
   have k2:=k2 rfl
   have e2:aN [.put s]=0:=by rw [j6];rfl
   rw [e2] at k2 eb
   refine dm (bind1 rfl ha) (ao (aP (b:=false) (uB (aS rfl (by repeat array_get_dec) rfl)) (fun h=>absurd h (by decide)) fun _=>aG ?_))
   refine ao (aP (by repeat array_get_dec) (fun h=>absurd h (by decide)) fun _=>aG (aG ?_))
   rw [dU]
   exact ⟨fC,by rw [eb];exact k2,some (.val (Pt.put s).v),.val,by rw [eb];rfl⟩
 ·subst hfr
  simp at hpl
  subst hpl
  have e:decide ((aN p:Int)=(t.length:Nat))=aV p t:=by
   rw [hfit]
   simp only [aV]
   by_cases hq:aN p=t.length
   ·have:(aN p:Int)=t.length:=by omega
    simp [this,hq]
   ·have:¬ (aN p:Int)=t.length:=by omega
    simp [this]
    intro h
    omega
  have ln:cV .len [.str t]=some (.int (t.length:Nat)):=len_str (by omega)
  have eq:cop .eq (.int (aN p)) (.int (t.length:Nat))=some (aV p t):=by rw [CS,e]
  have sh:fq [some (.val (aF p)),some (.val (.str t)),some (.val (.int (aN p))),a]=[some (.val (aF p)),some (.val (.str t)),some (.val (.int (aN p))),a]:=by
   show _ :: _ :: _ :: [a.map Sl.eg]=_
   rw [cZ ha];rfl
  refine ao (cC (v:=.bl (aV p t)) (af:=[some (.val (aF p)),some (.val (.str t)),some (.val (.int (aN p))),a]) ?_ ⟨rfl,rfl⟩)
  rw [sh]
  repeat array_get_dec
theorem oO (hs:F[aO]?=some gD) (hf:F[mW]?=some (A6 aO)) (hd:F[i]?=some (Lr mW)) (c:List Pt) (t:List Nat) (h1:tot c≤10000) (h2:t.length≤10000) (h3:c.length≤10000) (h:aV c t=true):run F w (n+3) i [.val (aF c),.val (.str t)]=some (.str (aH c t),[]):=by
 refine cY hd rfl ?_
 have ft:=fun fr=>call2 (fr:=fr) (oN (w:=w) (n:=n) hs hf c t h1 h2)
 rw [h] at ft
 refine ao (aP (b:=false) (pN (aS (b:=true) rfl (by (repeat (first | array_get_dec | exact ft _))) rfl)) (fun h=>absurd h (by decide)) fun _=>aG ?_)
 refine ao (jc (l:=[]) (by repeat array_get_dec) rfl rfl ?_)
 refine ao (bC (by repeat array_get_dec) rfl rfl ?_)
 refine ao (jr (vs:=c.map Pt.v) (gB (fH rfl) rfl) ?_)
 refine gT (e:=Pt.v) (fun p l fr=>p++l=c∧∃ ps a b,vo a∧vo b∧ps.length≤p.length∧ps.flatten++aH l (t.drop (aN p))=aH c t∧fr=[some (.val (aF c)),some (.val (.str t)),some (.own (ps.map V.str)),some (.val (.int (aN p))),a,b]) (fun p x l fr ⟨hpl,ps,a,b,ha,hb,hl,hd,hfr⟩=>?_) (fun p fr ⟨hpl,ps,a,b,ha,hb,hl,hd,hfr⟩=>?_) c [] _ ⟨rfl,[],none,none,.none,.none,by simp,by simp [aN,tot],rfl⟩
 ·subst hfr
  have fC:(p++[x])++l=c:=by simpa using hpl
  have eb:aN (p++[x])=aN p+aN [x]:=kP p [x]
  have ei:((aN (p++[x]):Nat):Int)=(aN p:Int)+(aN [x]:Nat):=by rw [eb];simp
  have uD:tot p+x.n+tot l=tot c:=by rw [←hpl,fJ,bV];omega
  have hlen:p.length+l.length+1=c.length:=by rw [←hpl];simp;omega
  have ap:∀ (fr:Fr) (z:List Nat),gn .append 2 [.str z] fr (some (some (.own (ps.map V.str))))=.ok .bz (fr.set 2 (some (.own ((ps++[z]).map V.str)))):=fun fr z=>by
   rw [List.map_append];exact kK (by simp;omega)
  cases x with
  | put s=>
   have e2:aN [.put s]=0:=by rw [j6];rfl
   rw [e2] at eb
   refine dm (iV rfl ha rfl hb) (ao (aP (by repeat array_get_dec) (fun _=>?_) fun h=>absurd h (by decide)))
   refine ao (gm (by (repeat (first | array_get_dec | exact ap _ _))) (aG (aG ?_)))
   rw [dU]
   exact ⟨fC,ps++[s],some (.val (.str jO)),some (.val (.str s)),.val,.val,by simp;omega,by rw [eb];simpa [aH] using hd,by rw [eb];rfl⟩
  | drop s=>
   have e2:aN [.drop s]=s.length:=by rw [lJ];rfl
   rw [e2] at eb ei
   have W8:s.length≤tot c:=by simp only [Pt.n] at uD;omega
   have ln:cV .len [.str s]=some (.int (s.length:Nat)):=len_str (by omega)
   refine dm (iV rfl ha rfl hb) (ao (aP (by repeat array_get_dec) (fun h=>absurd h (by decide)) fun _=>?_))
   refine ao (aP (by repeat array_get_dec) (fun _=>?_) fun h=>absurd h (by decide))
   refine ao (bC (by repeat array_get_dec) rfl rfl (aG (aG (aG ?_))))
   rw [dU]
   exact ⟨fC,ps,some (.val (.str iX)),some (.val (.str s)),.val,.val,by simp;omega,by rw [eb];simpa [aH] using hd,by rw [ei];rfl⟩
  | keep k=>
   have e2:aN [.keep k]=k:=by rw [j5];rfl
   rw [e2] at eb ei
   have cu:eV (.str t) (some (aN p:Int)) (some ((aN p:Int)+(k:Nat)))=some (.str ((t.drop (aN p)).take k)):=by rw [gk,pU]
   refine dm (iV rfl ha rfl hb) (ao (aP (by repeat array_get_dec) (fun h=>absurd h (by decide)) fun _=>?_))
   refine ao (aP (by repeat array_get_dec) (fun h=>absurd h (by decide)) fun _=>?_)
   refine ao (gm (by (repeat (first | array_get_dec | exact ap _ _))) ?_)
   refine ao (bC (by repeat array_get_dec) rfl rfl (aG (aG (aG ?_))))
   rw [dU]
   exact ⟨fC,ps++[(t.drop (aN p)).take k],some (.val (.str dX)),some (.val (.int k)),.val,.val,by simp;omega,by rw [eb];simpa [aH] using hd,by rw [ei];rfl⟩
 ·subst hfr
  simp at hpl
  subst hpl
  have hd':ps.flatten=aH p t:=by simpa [aH] using hd
  have dl:=lK p t
  have hj:=EO (l:=ps) (by rw [hd'];omega)
  rw [hd'] at hj
  have sh:fq [some (.val (aF p)),some (.val (.str t)),some (.own (ps.map V.str)),some (.val (.int (aN p))),a,b]=[some (.val (aF p)),some (.val (.str t)),some (.val (.lst (ps.map V.str))),some (.val (.int (aN p))),a,b]:=by
   show _ :: _ :: _ :: _ :: a.map Sl.eg :: [b.map Sl.eg]=_
   rw [cZ ha,cZ hb];rfl
  refine ao (cC (v:=.str (aH p t)) (af:=[some (.val (aF p)),some (.val (.str t)),some (.val (.lst (ps.map V.str))),some (.val (.int (aN p))),a,b]) ?_ ⟨rfl,rfl⟩)
  rw [sh]
  repeat array_get_dec
theorem Lu (c:List Pt):tot (sw c)=tot c:=by
 induction c with
 | nil=>rfl
 | cons p c ih=>simp only [sw,List.map_cons,bV] at ih ⊢;rw [ih];cases p <;> rfl
theorem yO (hst:F[bL]?=some gb) (hf:F[cK]?=some (kM bL)) (hu:F[i]?=some (Du cK)) (c:List Pt) (h1:c.length≤10000) (h2:tot c≤10000):run F w (n+3) i [.val (aF c)]=some (aF (dh c),[]):=by
 have hl:(c.map fun p=>p.sw.v).length≤big:=by rw [List.length_map];exact Nat.le_trans h1 (by decide)
 have cf:=fun fr=>dW (fr:=fr) (iP (w:=w) (n:=n) hst hf (sw c) (by rw [sw,List.length_map];exact h1) (by rw [Lu];exact h2))
 rw [show aF (sw c)=.tup (c.map fun p=>p.sw.v) by simp only [aF,sw,List.map_map];rfl] at cf
 exact cY hu rfl (ao (cC (dI (cE rfl (sI (kL (gB (fH rfl) rfl) rfl (j0 _ (fun p=>p.sw.v) c fun p _=>by
  cases p <;> exact pP rfl (lE (bK (AG (bh rfl) rfl) (bK (bh rfl) bT)) sE)) (er hl)) (jL hl)) bZ) (cf _)) ⟨rfl,rfl⟩))
theorem nW (hst:F[bL]?=some gb) (hf:F[cK]?=some (kM bL)) (hu:F[i]?=some (mV cK)) (m:Nat) (h:m≤10000):run F w (n+3) i [.val (.int m)]=some (aF (aQ [.keep m]),[]):=
 cY hu rfl (ao (cC (dI (cE rfl (lE (bK (lE (bK (cG rfl) (bK (bh rfl) bT)) sE) bT) sD) bZ) (dW (iP hst hf [.keep m] (Nat.succ_le_of_lt (Nat.zero_lt_succ _)) h))) ⟨rfl,rfl⟩))
end
end Pv
namespace Pv
open Ev (rep)
theorem A7 (ns:List Int) (at_:Int) (s:List Nat) (k:Nat):tot (jt ns at_ s k)≤3:=by
 have h1:=jN ns (at_+4*k+2) (many:=2) (by decide)
 have h2:=jM ns (at_+4*k+2) (many:=2) (by decide)
 unfold jt
 rw [fJ]
 have a:tot (if cW ns (at_+4*k) 4=0 then [Pt.put (rep (1+cW ns (at_+4*k+2) 2).toNat [[97,98,122].getD (cW ns (at_+4*k+1) 3).toNat 0])] else [])≤2:=by
  split
  ·simp [tot,Pt.n,rep];omega
  ·simp [tot]
 cases s[k]? with
 | none=>simp [tot] at a ⊢;omega
 | some c=>
  have b:tot [if 0<cW ns (at_+4*k+3) 3 then Pt.keep 1 else Pt.drop [c]]≤1:=by split <;> simp [tot,Pt.n]
  simp only at b ⊢
  omega
theorem rM (ns:List Int) (at_:Int) (s:List Nat):∀ k,tot (fB ns at_ s k)≤3*k
 | 0=>by simp [fB,tot]
 | k+1=>by
  have h1:=A7 ns at_ s k
  have h2:=rM ns at_ s k
  rw [ju,fJ]
  omega
theorem oQ:∀ {a:List (List Nat)}{t:List Nat},aW a t=true→a.length=t.length
 | [],[],_=>rfl
 | x :: a,c :: t,h=>by simp [aW] at h;simp [oQ h.2]
 | [],_ :: _,h=>by simp [aW] at h
 | _ :: _,[],h=>by simp [aW] at h
theorem oR:∀ {a b:List (List Nat)}{t u:List Nat},aW a t=true→aW b u=true→aW (a++b) (t++u)=true
 | [],_,[],_,_,hb=>hb
 | x :: a,b,c :: t,u,ha,hb=>by
  simp only [aW,Bool.and_eq_true] at ha
  simp only [List.cons_append,aW,Bool.and_eq_true]
  exact ⟨ha.1,oR ha.2 hb⟩
 | [],_,_ :: _,_,ha,_=>by simp [aW] at ha
 | _ :: _,_,[],_,ha,_=>by simp [aW] at ha
theorem HH (ns:List Int) (at_:Int) (s:List Nat) (k:Nat):aW (asks (jt ns at_ s k)) (s[k]?).toList=true:=by
 unfold jt
 rw [ez]
 have a:asks (if cW ns (at_+4*k) 4=0 then [Pt.put (rep (1+cW ns (at_+4*k+2) 2).toNat [[97,98,122].getD (cW ns (at_+4*k+1) 3).toNat 0])] else [])=[]:=by
  split <;> simp [asks,Pt.asks]
 rw [a]
 cases s[k]? with
 | none=>simp [asks,aW]
 | some c=>simp only;split <;> simp [asks,Pt.asks,aW]
theorem A8 (ns:List Int) (at_:Int) (s:List Nat):∀ k,aW (asks (fB ns at_ s k)) (s.take k)=true
 | 0=>by simp [fB,asks,aW]
 | k+1=>by
  rw [ju,ez,List.take_add_one]
  exact oR (A8 ns at_ s k) (HH ns at_ s k)
theorem HJ (ns:List Int) (at_:Int) (s:List Nat):aV (chg ns at_ s) s=true:=by
 have:=A8 ns at_ s (s.length+1)
 rw [List.take_of_length_le (by omega)] at this
 rw [gh];exact this
end Pv
namespace Pv
inductive At where
 | k | d (c:Nat) | p (c:Nat)
noncomputable def Pt.aZ:Pt→List At
 | .keep n=>List.replicate n .k
 | .drop s=>s.map .d
 | .put s=>s.map .p
noncomputable def aZ (c:List Pt):List At:=c.flatMap Pt.aZ
theorem kR (a b:List Pt):aZ (a++b)=aZ a++aZ b:=by simp [aZ]
theorem di (p:Pt) (c:List Pt):aZ (p :: c)=p.aZ++aZ c:=by simp [aZ]
theorem uN (p:Pt):p.aZ.length=p.n:=by cases p <;> simp [Pt.aZ,Pt.n]
theorem jy (c:List Pt):(aZ c).length=tot c:=by
 induction c with
 | nil=>rfl
 | cons p c ih=>rw [di,List.length_append,uN,ih,bV]
noncomputable def tA:Nat→List At→List Tq
 | _,[]=>[]
 | i,.k :: a=>.at i :: tA (i+1) a
 | i,.d _ :: a=>tA (i+1) a
 | i,.p c :: a=>.sg c :: tA i a
noncomputable def aA:List At→List (List Nat)
 | []=>[]
 | .k :: a=>[] :: aA a
 | .d c :: a=>[c] :: aA a
 | .p _ :: a=>aA a
noncomputable def dA:List At→List Nat→List Nat
 | [],_=>[]
 | .k :: a,t=>t.take 1++dA a (t.drop 1)
 | .d _ :: a,t=>dA a (t.drop 1)
 | .p c :: a,t=>c :: dA a t
noncomputable def nX:At→At
 | .k=>.k
 | .d c=>.p c
 | .p c=>.d c
noncomputable def cA:List At→Nat
 | []=>0
 | .k :: a=>cA a
 | _ :: a=>cA a+1
theorem pV:∀ a b:List At,aA (a++b)=aA a++aA b
 | [],_=>rfl
 | .k :: a,b=>by simp [aA,pV a b]
 | .d c :: a,b=>by simp [aA,pV a b]
 | .p c :: a,b=>by simp [aA,pV a b]
theorem pW:∀ (a b:List At) (i:Nat),tA i (a++b)=tA i a++tA (i+(aA a).length) b
 | [],_,_=>rfl
 | .k :: a,b,i=>by simp [tA,aA,pW a b,Nat.add_assoc,Nat.add_comm 1]
 | .d c :: a,b,i=>by simp [tA,aA,pW a b,Nat.add_assoc,Nat.add_comm 1]
 | .p c :: a,b,i=>by simp [tA,aA,pW a b]
theorem pX:∀ a b:List At,cA (a++b)=cA a+cA b
 | [],b=>by simp [cA]
 | .k :: a,b=>by simp [cA,pX a b]
 | .d c :: a,b=>by simp [cA,pX a b];omega
 | .p c :: a,b=>by simp [cA,pX a b];omega
theorem E3 (p:Pt):aA p.aZ=p.asks:=by
 cases p with
 | keep n=>simp only [Pt.aZ,Pt.asks];induction n <;> simp_all [List.replicate_succ,aA]
 | drop s=>simp only [Pt.aZ,Pt.asks];induction s <;> simp_all [aA]
 | put s=>simp only [Pt.aZ,Pt.asks];induction s <;> simp_all [aA]
theorem OQ (p:Pt):∀ i,tA i p.aZ=p.told i:=by
 cases p with
 | keep n=>
  simp only [Pt.aZ,Pt.told]
  induction n with
  | zero=>intro i;rfl
  | succ n ih=>intro i;simp only [List.replicate_succ,tA,ih,List.range_succ_eq_map,List.map_cons,List.map_map];simp [Function.comp_def,Nat.add_assoc,Nat.add_comm 1]
 | drop s=>intro i;simp only [Pt.aZ,Pt.told];induction s generalizing i <;> simp_all [tA]
 | put s=>intro i;simp only [Pt.aZ,Pt.told];induction s generalizing i <;> simp_all [tA]
theorem OR (p:Pt):cA p.aZ=cst [p]:=by
 cases p with
 | keep n=>simp only [Pt.aZ];rw [EW];induction n <;> simp_all [List.replicate_succ,cA,cst,tot]
 | drop s=>simp only [Pt.aZ];rw [EX];induction s <;> simp_all [cA,cst,tot]
 | put s=>simp only [Pt.aZ];rw [EY];induction s <;> simp_all [cA,cst,tot]
theorem gi (c:List Pt):asks c=aA (aZ c):=by
 induction c with
 | nil=>rfl
 | cons p c ih=>rw [di,pV,E3,←ih];simp [asks]
theorem fD (c:List Pt):∀ i,told i c=tA i (aZ c):=by
 induction c with
 | nil=>intro i;rfl
 | cons p c ih=>intro i;rw [di,pW,OQ,E3,←ih,told]
theorem qE (c:List Pt):cst c=cA (aZ c):=by
 induction c with
 | nil=>rfl
 | cons p c ih=>
  rw [di,pX,OR,←ih]
  simp [cst,tot]
  cases p <;> simp [List.filter_cons,fG]
theorem uO (c:List Pt):aZ (sw c)=(aZ c).map nX:=by
 induction c with
 | nil=>rfl
 | cons p c ih=>
  have:aZ (sw (p :: c))=p.sw.aZ++aZ (sw c):=by simp [aZ,sw]
  rw [this,ih,di,List.map_append]
  congr 1
  cases p <;> simp [Pt.sw,Pt.aZ,nX,Function.comp_def]
theorem jR:∀ (c:List Pt) (t:List Nat),aH c t=dA (aZ c) t:=by
 have k:∀ (n:Nat) (a:List At) (t:List Nat),dA (List.replicate n .k++a) t=t.take n++dA a (t.drop n):=fun n=>by
  induction n with
  | zero=>intro a t;simp
  | succ n ih=>
   intro a t
   simp only [List.replicate_succ,List.cons_append,dA,ih,List.drop_drop]
   cases t with
   | nil=>simp
   | cons c t=>simp [Nat.add_comm 1]
 have d:∀ (s:List Nat) (a:List At) (t:List Nat),dA (s.map .d++a) t=dA a (t.drop s.length):=fun s=>by
  induction s with
  | nil=>intro a t;simp
  | cons c s ih=>intro a t;simp [dA,ih,Nat.add_comm 1]
 have p:∀ (s:List Nat) (a:List At) (t:List Nat),dA (s.map .p++a) t=s++dA a t:=fun s=>by
  induction s with
  | nil=>intro a t;simp
  | cons c s ih=>intro a t;simp [dA,ih]
 intro c
 induction c with
 | nil=>intro t;rfl
 | cons q c ih=>
  intro t
  rw [di]
  cases q with
  | keep n=>simp only [Pt.aZ,k,aH,ih]
  | drop s=>simp only [Pt.aZ,d,aH,ih]
  | put s=>simp only [Pt.aZ,p,aH,ih]
noncomputable def A9:List At→Bool
 | .d _ :: _=>false
 | _=>true
inductive Th:List At→List At→List At→Prop
 | nil:Th [] [] []
 | d {a b r c}:Th a b r→Th (.d c :: a) b (.d c :: r)
 | p {a b r c}:A9 a=true→Th a b r→Th a (.p c :: b) (.p c :: r)
 | kk {a b r}:Th a b r→Th (.k :: a) (.k :: b) (.k :: r)
 | kd {a b r c}:Th a b r→Th (.k :: a) (.d c :: b) (.d c :: r)
 | pk {a b r c}:Th a b r→Th (.p c :: a) (.k :: b) (.p c :: r)
 | pd {a b r c}:Th a b r→Th (.p c :: a) (.d c :: b) r
noncomputable def sub (L:List Tq):Tq→Tq
 | .at j=>L.getD j (.sg 0)
 | .sg c=>.sg c
theorem pY {L M:List Tq}{q:Tq}{j:Nat}(h:L.length=j):sub (L++q :: M) (.at j)=q:=by
 subst h;simp [sub]
theorem Th.told {a b r:List At}(h:Th a b r):∀ (i j:Nat) (L:List Tq),L.length=j→tA i r=(tA j b).map (sub (L++tA i a)):=by
 induction h with
 | nil=>intro i j L hL;rfl
 | d h ih=>intro i j L hL;exact ih (i+1) j L hL
 | p _ h ih=>intro i j L hL;simp only [tA,List.map_cons];rw [ih i j L hL];rfl
 | kk h ih=>
  intro i j L hL
  simp only [tA,List.map_cons]
  rw [ih (i+1) (j+1) (L++[.at i]) (by simp [hL]),pY hL];simp
 | kd h ih=>
  intro i j L hL
  simp only [tA]
  rw [ih (i+1) (j+1) (L++[.at i]) (by simp [hL])];simp
 | @pk _ _ _ c h ih=>
  intro i j L hL
  simp only [tA,List.map_cons]
  rw [ih i (j+1) (L++[.sg c]) (by simp [hL]),pY hL];simp
 | @pd _ _ _ c h ih=>
  intro i j L hL
  simp only [tA]
  rw [ih i (j+1) (L++[.sg c]) (by simp [hL])];simp
theorem Th.back {a b r:List At}(h:Th a b r):∀ (i j:Nat) (L:List Tq),L.length=j→tA i (r.map nX)=(tA j (a.map nX)).map (sub (L++tA i (b.map nX))):=by
 induction h with
 | nil=>intro i j L hL;rfl
 | d h ih=>intro i j L hL;simp only [List.map_cons,nX,tA];rw [ih i j L hL];rfl
 | p _ h ih=>intro i j L hL;exact ih (i+1) j L hL
 | kk h ih=>
  intro i j L hL
  simp only [List.map_cons,nX,tA]
  rw [ih (i+1) (j+1) (L++[.at i]) (by simp [hL]),pY hL];simp
 | @kd _ _ _ c h ih=>
  intro i j L hL
  simp only [List.map_cons,nX,tA]
  rw [ih i (j+1) (L++[.sg c]) (by simp [hL]),pY hL];simp
 | pk h ih=>
  intro i j L hL
  simp only [List.map_cons,nX,tA]
  rw [ih (i+1) (j+1) (L++[.at i]) (by simp [hL])];simp
 | @pd _ _ _ c h ih=>
  intro i j L hL
  simp only [List.map_cons,nX,tA]
  rw [ih i (j+1) (L++[.sg c]) (by simp [hL])];simp
theorem Th.fit {a b r:List At}(h:Th a b r):∀ t,aW (aA a) t=true→aW (aA b) (dA a t)=true→aW (aA r) t=true:=by
 induction h with
 | nil=>intro t h1 _;exact h1
 | d h ih=>
  intro t h1 h2
  cases t with
  | nil=>simp [aA,aW] at h1
  | cons x t=>simp only [aA,aW,Bool.and_eq_true] at h1 ⊢;exact ⟨h1.1,ih t h1.2 h2⟩
 | p _ h ih=>intro t h1 h2;exact ih t h1 h2
 | kk h ih=>
  intro t h1 h2
  cases t with
  | nil=>simp [aA,aW] at h1
  | cons x t=>simp only [aA,aW,Bool.and_eq_true,dA,List.take_succ_cons,List.take_zero,List.drop_succ_cons,List.drop_zero,List.singleton_append] at h1 h2 ⊢;exact ⟨h1.1,ih t h1.2 h2.2⟩
 | kd h ih=>
  intro t h1 h2
  cases t with
  | nil=>simp [aA,aW] at h1
  | cons x t=>simp only [aA,aW,Bool.and_eq_true,dA,List.take_succ_cons,List.take_zero,List.drop_succ_cons,List.drop_zero,List.singleton_append] at h1 h2 ⊢;exact ⟨h2.1,ih t h1.2 h2.2⟩
 | pk h ih=>intro t h1 h2;simp only [aA,dA,aW,Bool.and_eq_true] at h1 h2 ⊢;exact ih t h1 h2.2
 | pd h ih=>intro t h1 h2;simp only [aA,dA,aW,Bool.and_eq_true] at h1 h2 ⊢;exact ih t h1 h2.2
theorem Th.all:∀ (n:Nat) (a b:List At) (t:List Nat),a.length+b.length≤n→aW (aA a) t=true→aW (aA b) (dA a t)=true→∃ r,Th a b r:=by
 intro n
 induction n with
 | zero=>
  intro a b t hn _ _
  obtain rfl:a=[]:=List.length_eq_zero_iff.mp (by omega)
  obtain rfl:b=[]:=List.length_eq_zero_iff.mp (by omega)
  exact ⟨[],.nil⟩
 | succ n ih=>
  intro a b t hn h1 h2
  cases a with
  | nil=>
   cases b with
   | nil=>exact ⟨[],.nil⟩
   | cons y b=>
    cases y with
    | p c=>obtain ⟨r,h⟩:=ih [] b t (by simp at hn ⊢;omega) h1 h2;exact ⟨_,.p rfl h⟩
    | k=>simp [aA,dA,aW] at h2
    | d c=>simp [aA,dA,aW] at h2
  | cons x a=>
   by_cases hd:A9 (x :: a)=true
   ·cases b with
    | nil=>
     cases x with
     | d c=>cases hd
     | k=>cases t <;> simp [aA,dA,aW] at h1 h2
     | p c=>simp [aA,dA,aW] at h2
    | cons y b=>
     cases y with
     | p c=>obtain ⟨r,h⟩:=ih (x :: a) b t (by simp at hn ⊢;omega) h1 h2;exact ⟨_,.p hd h⟩
     | k=>
      cases x with
      | d c=>cases hd
      | k=>
       cases t with
       | nil=>simp [aA,aW] at h1
       | cons z t=>
        simp [aA,aW,dA] at h1 h2
        obtain ⟨r,h⟩:=ih a b t (by simp at hn ⊢;omega) h1 h2;exact ⟨_,.kk h⟩
      | p c=>
       simp [aA,aW,dA] at h1 h2
       obtain ⟨r,h⟩:=ih a b t (by simp at hn ⊢;omega) h1 h2;exact ⟨_,.pk h⟩
     | d c'=>
      cases x with
      | d c=>cases hd
      | k=>
       cases t with
       | nil=>simp [aA,aW] at h1
       | cons z t=>
        simp [aA,aW,dA] at h1 h2
        obtain ⟨r,h⟩:=ih a b t (by simp at hn ⊢;omega) h1 h2.2;exact ⟨_,.kd h⟩
      | p c=>
       simp [aA,aW,dA] at h1 h2
       obtain ⟨rfl,h2⟩:=h2
       obtain ⟨r,h⟩:=ih a b t (by simp at hn ⊢;omega) h1 h2;exact ⟨_,.pd h⟩
   ·cases x with
    | k=>exact absurd rfl hd
    | p c=>exact absurd rfl hd
    | d c=>
     cases t with
     | nil=>simp [aA,aW] at h1
     | cons z t=>
      simp [aA,aW] at h1
      obtain ⟨r,h⟩:=ih a b t (by simp at hn ⊢;omega) h1.2 h2;exact ⟨_,.d h⟩
theorem Th.done {a b r:List At}(h:Th a b r):∀ t,aW (aA a) t=true→dA r t=dA b (dA a t):=by
 induction h with
 | nil=>intro t _;rfl
 | d h ih=>
  intro t h1
  cases t with
  | nil=>simp [aA,aW] at h1
  | cons x t=>simp only [aA,aW,Bool.and_eq_true] at h1;simp only [dA];exact ih t h1.2
 | p _ h ih=>intro t h1;simp only [dA];rw [ih t h1]
 | kk h ih=>
  intro t h1
  cases t with
  | nil=>simp [aA,aW] at h1
  | cons x t=>simp only [aA,aW,Bool.and_eq_true] at h1;simp [dA,ih t h1.2]
 | kd h ih=>
  intro t h1
  cases t with
  | nil=>simp [aA,aW] at h1
  | cons x t=>simp only [aA,aW,Bool.and_eq_true] at h1;simp [dA,ih t h1.2]
 | pk h ih=>intro t h1;simp [dA,ih t h1]
 | pd h ih=>intro t h1;simp [dA,ih t h1]
theorem Th.cost {a b r:List At}(h:Th a b r):cA r≤cA a+cA b:=by induction h <;> simp [cA] <;> omega
theorem Th.len {a b r:List At}(h:Th a b r):r.length≤a.length+b.length:=by induction h <;> simp <;> omega
theorem Th.ds {b r:List At}:∀ {s:List Nat}{a:List At},Th (s.map .d++a) b r→∃ r',r=s.map .d++r'∧Th a b r'
 | [],a,h=>⟨r,rfl,h⟩
 | c :: s,a,h=>by
  cases h with
  | d h=>obtain ⟨r',rfl,h'⟩:=Th.ds h;exact ⟨r',rfl,h'⟩
  | p hn h=>cases hn
theorem Th.ps {a r:List At}(hn:A9 a=true):∀ {s:List Nat}{b:List At},Th a (s.map .p++b) r→∃ r',r=s.map .p++r'∧Th a b r'
 | [],b,h=>⟨r,rfl,h⟩
 | c :: s,b,h=>by
  cases h with
  | d h=>cases hn
  | p _ h=>obtain ⟨r',rfl,h'⟩:=Th.ps hn h;exact ⟨r',rfl,h'⟩
theorem Th.VL {a b r:List At}:∀ {n:Nat},Th (List.replicate n .k++a) (List.replicate n .k++b) r→∃ r',r=List.replicate n .k++r'∧Th a b r':=fun {n}=>by
 induction n generalizing r with
 | zero=>intro h;exact ⟨r,rfl,h⟩
 | succ n ih=>intro h;cases h with | kk h=>obtain ⟨r',rfl,h'⟩:=ih h;exact ⟨r',rfl,h'⟩
theorem Th.VM {a b r:List At}:∀ {s:List Nat},Th (List.replicate s.length .k++a) (s.map .d++b) r→∃ r',r=s.map .d++r'∧Th a b r':=fun {s}=>by
 induction s generalizing r with
 | nil=>intro h;exact ⟨r,rfl,h⟩
 | cons c s ih=>intro h;cases h with | kd h=>obtain ⟨r',rfl,h'⟩:=ih h;exact ⟨r',rfl,h'⟩
theorem Th.VN {a b r:List At}:∀ {s:List Nat},Th (s.map .p++a) (List.replicate s.length .k++b) r→∃ r',r=s.map .p++r'∧Th a b r':=fun {s}=>by
 induction s generalizing r with
 | nil=>intro h;exact ⟨r,rfl,h⟩
 | cons c s ih=>intro h;cases h with | pk h=>obtain ⟨r',rfl,h'⟩:=ih h;exact ⟨r',rfl,h'⟩
theorem Th.Qk {a b r:List At}:∀ {s s':List Nat},s.length=s'.length→Th (s.map .p++a) (s'.map .d++b) r→s=s'∧Th a b r
 | [],[],_,h=>⟨rfl,h⟩
 | [],_ :: _,hl,_=>by simp at hl
 | _ :: _,[],hl,_=>by simp at hl
 | c :: s,c' :: s',hl,h=>by cases h with | pd h=>obtain ⟨rfl,h'⟩:=Th.Qk (by simpa using hl) h;exact ⟨rfl,h'⟩
theorem gW:∀ (a:List At) (i q:Nat),Tq.at q∈tA i a↔∃ j,q=i+j∧(aA a)[j]?=some []
 | [],i,q=>by simp [tA,aA]
 | .k :: a,i,q=>by
  simp only [tA,List.mem_cons,gW a,aA]
  constructor
  ·rintro (h | ⟨j,rfl,h⟩)
   ·cases h;exact ⟨0,rfl,by simp⟩
   ·exact ⟨j+1,by omega,by simpa using h⟩
  ·rintro ⟨j,rfl,h⟩
   cases j with
   | zero=>exact .inl rfl
   | succ j=>exact .inr ⟨j,by omega,by simpa using h⟩
 | .d c :: a,i,q=>by
  simp only [tA,gW a,aA]
  constructor
  ·rintro ⟨j,rfl,h⟩;exact ⟨j+1,by omega,by simpa using h⟩
  ·rintro ⟨j,rfl,h⟩
   cases j with
   | zero=>simp at h
   | succ j=>exact ⟨j,by omega,by simpa using h⟩
 | .p c :: a,i,q=>by simp [tA,gW a,aA]
theorem qF:∀ {a:List (List Nat)}{t:List Nat},aW a t=true→∀ (j:Nat) x,a[j]?=some x→x=[]∨∃ c,t[j]?=some c∧x=[c]
 | y :: a,c :: t,h,j,x,e=>by
  simp only [aW,Bool.and_eq_true,Bool.or_eq_true,decide_eq_true_eq] at h
  cases j with
  | zero=>simp at e;subst e;exact h.1.imp id fun z=>⟨c,by simp,z⟩
  | succ j=>simpa using qF h.2 j x (by simpa using e)
 | [],[],_,j,x,e=>by simp at e
 | [],_ :: _,h,_,_,_=>by simp [aW] at h
 | _ :: _,[],h,_,_,_=>by simp [aW] at h
theorem Ba {a:List At}{A:List (List Nat)}{t:List Nat}(ha:aW (aA a) t=true) (hb:aW A t=true) (h:∀ q:Nat,Tq.at q∈tA 0 a↔A[q]?=some []):aA a=A:=by
 have la:=oQ ha
 have lb:=oQ hb
 apply List.ext_getElem?
 intro j
 by_cases hj:j<t.length
 ·obtain ⟨x,hx⟩:∃ x,(aA a)[j]?=some x:=⟨_,List.getElem?_eq_getElem (by omega)⟩
  obtain ⟨y,hy⟩:∃ y,A[j]?=some y:=⟨_,List.getElem?_eq_getElem (by omega)⟩
  have k1:=gW a 0 j
  rw [h j,hy] at k1
  have hxy:x=[]↔y=[]:=by
   constructor
   ·rintro rfl
    have:=k1.mpr ⟨j,by omega,hx⟩
    cases this;rfl
   ·rintro rfl
    obtain ⟨i,hi,e⟩:=k1.mp rfl
    obtain rfl:i=j:=by omega
    rw [e] at hx;cases hx;rfl
  rw [hx,hy]
  rcases qF ha j x hx with Ql | ⟨c,hc,VO⟩
  ·rw [Ql,hxy.mp Ql]
  ·rcases qF hb j y hy with Qm | ⟨c',hc',hy1⟩
   ·rw [Qm,hxy.mpr Qm]
   ·rw [hc] at hc';cases hc';rw [VO,hy1]
 ·rw [List.getElem?_eq_none (by omega),List.getElem?_eq_none (by omega)]
theorem Bb {a b:List At}{t:List Nat}(ha:aW (aA a) t=true) (hb:aW (aA b) t=true) (h:tA 0 a=tA 0 b):aA a=aA b:=
 Ba ha hb fun q=>by
  rw [h,gW b 0 q]
  constructor
  ·rintro ⟨j,hj,e⟩;obtain rfl:q=j:=by omega
   exact e
  ·intro e;exact ⟨q,by omega,e⟩
theorem Bc {a b:List Pt}{t:List Nat}(ha:aV a t=true) (hb:aV b t=true) (h:told 0 a=told 0 b):aQ a=aQ b:=by
 rw [oM]
 rw [gh] at ha hb
 have h':=h
 rw [gi] at ha hb
 rw [fD,fD] at h'
 have:=Bb ha hb h'
 simp only [j4,h,gi,this]
theorem sub_sub (L M:List Tq) (q:Tq):sub M (sub L q)=sub (L.map (sub M)) q:=by
 cases q with
 | sg c=>rfl
 | «at» j=>
  simp only [sub,List.getD_eq_getElem?_getD,List.getElem?_map]
  cases L[j]? <;> rfl
theorem DC (L M T:List Tq):(T.map (sub L)).map (sub M)=T.map (sub (L.map (sub M))):=by
 rw [List.map_map];exact List.map_congr_left fun q _=>sub_sub L M q
theorem DE {a:List At}{M:List Tq}(h:∀ j:Nat,(aA a)[j]?=some []→M[j]?=some (Tq.at j)):(tA 0 a).map (sub M)=tA 0 a:=by
 refine (List.map_congr_left fun q hq=>?_).trans (List.map_id _)
 cases q with
 | sg c=>rfl
 | «at» j=>
  obtain ⟨i,hi,e⟩:=(gW a 0 j).mp hq
  obtain rfl:i=j:=by omega
  simp [sub,h i e]
theorem HK (L:List Tq):((List.range L.length).map Tq.at).map (sub L)=L:=by
 apply List.ext_getElem?
 intro i
 by_cases h:i<L.length
 ·simp [sub,h]
 ·rw [List.getElem?_eq_none (by simp;omega),List.getElem?_eq_none (by omega)]
theorem oS {c:List Pt}{t:List Nat}(h:aV c t=true):(aH c t).length=gU c:=by
 rw [kQ (uL c t h).1,Lq]
end Pv
namespace Pv
open Ev (D cF bY TY BI ME T E Es Eo It S Ss Fn big deep b2i rep cH eG bU aR cut cS eB slots)
noncomputable def DF (qG:Nat) (oU:Nat):S:=.iff (.cmp .ne (.cl qG (.cons (.v 0) .nil)) (.cl oU (.cons (.v 1) .nil))) (.cons (.gy) .nil) .nil
noncomputable def DG (dJ:Nat):S:=.set 2 (.jD (.rev (.cl dJ (.cons (.v 0) .nil))))
noncomputable def DH (dJ:Nat):S:=.set 3 (.jD (.rev (.cl dJ (.cons (.v 1) .nil))))
noncomputable def DI:S:=.set 4 (.lst .nil)
noncomputable def uP (cz:Nat) (pZ:Nat) (jz:Nat):Ss:=(.cons (.iff (.an (.v 2) (.cmp .eq (.ix (.ix (.v 2) (.neg (.c (.int 1)))) (.c (.int 0))) (.c (.str [100,114,111,112])))) (.cons (.exp (.me .append (.v 4) (.cons (.me .pop (.v 2) .nil) .nil))) .nil) (.cons (.iff (.an (.v 3) (.cmp .eq (.ix (.ix (.v 3) (.neg (.c (.int 1)))) (.c (.int 0))) (.c (.str [112,117,116])))) (.cons (.exp (.me .append (.v 4) (.cons (.me .pop (.v 3) .nil) .nil))) .nil) (.cons (.set 5 (.bi .min (.cons (.cl cz (.cons (.ix (.v 2) (.neg (.c (.int 1)))) .nil)) (.cons (.cl cz (.cons (.ix (.v 3) (.neg (.c (.int 1)))) .nil)) .nil)))) (.cons (.exp (.me .extend (.v 4) (.cons (.cl pZ (.cons (.cl jz (.cons (.v 2) (.cons (.v 5) .nil))) (.cons (.cl jz (.cons (.v 3) (.cons (.v 5) .nil))) .nil))) .nil))) .nil))) .nil)) .nil)
noncomputable def DJ (cz:Nat) (pZ:Nat) (jz:Nat):S:=.qY (.orr (.v 2) (.v 3)) (uP cz pZ jz)
noncomputable def DK (dJ:Nat):S:=.ret (.cl dJ (.cons (.jF (.v 4)) .nil))
noncomputable def kT (qG:Nat) (oU:Nat) (dJ:Nat) (cz:Nat) (pZ:Nat) (jz:Nat):Fn:=⟨2,6,(.cons (DF qG oU) (.cons (DG dJ) (.cons (DH dJ) (.cons DI (.cons (DJ cz pZ jz) (.cons (DK dJ) .nil))))))⟩
noncomputable def uQ (mX:Nat):S:=.set 2 (.cl mX (.cons (.v 0) .nil))
noncomputable def uR (mY:Nat):Ss:=(.cons (.set 2 (.cl mY (.cons (.v 2) (.cons (.v 3) .nil)))) .nil)
noncomputable def uS (mY:Nat):S:=.for (.one 3) (.seq (.v 1)) (uR mY)
noncomputable def uT:S:=.ret (.v 2)
noncomputable def jv (mX:Nat) (mY:Nat):Fn:=⟨2,4,(.cons (uQ mX) (.cons (uS mY) (.cons uT .nil)))⟩
noncomputable def HL:S:=.iff (.cmp .eq (.ix (.v 1) (.c (.int 0))) (.c (.str [107,101,101,112]))) (.cons (.ret (.lst (.cons (.v 0) .nil))) .nil) .nil
noncomputable def HM:S:=.iff (.cmp .eq (.ix (.v 0) (.c (.int 0))) (.c (.str [107,101,101,112]))) (.cons (.ret (.lst (.cons (.v 1) .nil))) .nil) .nil
noncomputable def HN:S:=.iff (.cmp .ne (.ix (.v 0) (.c (.int 1))) (.ix (.v 1) (.c (.int 1)))) (.cons (.gy) .nil) .nil
noncomputable def HQ:S:=.ret (.lst .nil)
noncomputable def sL:Fn:=⟨2,2,(.cons HL (.cons HM (.cons HN (.cons HQ .nil))))⟩
noncomputable def Bd (oV:Nat):S:=.set 2 (.cl oV (.cons (.me .pop (.v 0) .nil) (.cons (.v 1) .nil)))
noncomputable def Be (cz:Nat):S:=.iff (.cmp .gt (.cl cz (.cons (.ix (.v 2) (.c (.int 1))) .nil)) (.c (.int 0))) (.cons (.exp (.me .append (.v 0) (.cons (.ix (.v 2) (.c (.int 1))) .nil))) .nil) .nil
noncomputable def Bf:S:=.ret (.ix (.v 2) (.c (.int 0)))
noncomputable def nA (oV:Nat) (cz:Nat):Fn:=⟨2,3,(.cons (Bd oV) (.cons (Be cz) (.cons Bf .nil)))⟩
noncomputable def yP:S:=.set 2 (.ix (.v 0) (.c (.int 0)))
noncomputable def yQ:S:=.iff (.cmp .eq (.v 2) (.c (.str [107,101,101,112]))) (.cons (.ret (.tup (.cons (.tup (.cons (.v 2) (.cons (.v 1) .nil))) (.cons (.tup (.cons (.v 2) (.cons (.bin .sub (.ix (.v 0) (.c (.int 1))) (.v 1)) .nil))) .nil)))) .nil) .nil
noncomputable def yR:S:=.ret (.tup (.cons (.tup (.cons (.v 2) (.cons (.sl (.ix (.v 0) (.c (.int 1))) .no (.yes (.v 1))) .nil))) (.cons (.tup (.cons (.v 2) (.cons (.sl (.ix (.v 0) (.c (.int 1))) (.yes (.v 1)) .no) .nil))) .nil)))
noncomputable def jS:Fn:=⟨2,3,(.cons yP (.cons yQ (.cons yR .nil)))⟩
noncomputable def Pt.tk (m:Nat):Pt→Pt
 | .keep _=>.keep m
 | .put s=>.put (s.take m)
 | .drop s=>.drop (s.take m)
noncomputable def Pt.dp (m:Nat):Pt→Pt
 | .keep k=>.keep (k - m)
 | .put s=>.put (s.drop m)
 | .drop s=>.drop (s.drop m)
theorem qa {α:Type}(l:List α) (m:Nat):cut l none (some (m:Int))=l.take m:=by
 have h1:¬ (m:Int)<0:=by omega
 simp only [cut,aR,h1,if_false,Int.toNat_natCast,List.drop_zero,Nat.sub_zero]
 by_cases h:m≤l.length
 ·rw [Nat.min_eq_left h]
 ·rw [Nat.min_eq_right (by omega),List.take_of_length_le (Nat.le_refl _),List.take_of_length_le (by omega)]
theorem yS {α:Type}(l:List α) (m:Nat):cut l (some (m:Int)) none=l.drop m:=by
 have h1:¬ (m:Int)<0:=by omega
 simp only [cut,aR,h1,if_false,Int.toNat_natCast]
 by_cases h:m≤l.length
 ·rw [Nat.min_eq_left h,List.take_of_length_le (by simp)]
 ·rw [Nat.min_eq_right (by omega),List.drop_eq_nil_of_le (Nat.le_refl _),List.drop_eq_nil_of_le (by omega)];simp
section
variable {F:List Fn}{w n dO aO dj bX cK bL d9 dz eS iH i:Nat}
theorem yT (hf:F[i]?=some jS) (p:Pt) (m:Nat) (h:m≤p.n):run F w (n+1) i [.val p.v,.val (.int m)]=some (.tup [(p.tk m).v,(p.dp m).v],[]):=by
 refine cY hf rfl ?_
 cases p with
 | keep k=>
  refine ao (bC (by repeat array_get_dec) rfl rfl ?_)
  refine ao (aP (by repeat array_get_dec) (fun _=>?_) fun h=>absurd h (by decide))
  refine ao (cC (by repeat array_get_dec) ⟨?_,rfl⟩)
  have:(k:Int) - m=((k - m:Nat):Int):=by simp only [Pt.n] at h;omega
  exact congrArg (fun z=>Fl.ret (V.tup [V.tup [V.str dX,V.int m],V.tup [V.str dX,V.int z]])) this
 | put s=>
  have c1:eV (.str s) none (some (m:Int))=some (.str (s.take m)):=by rw [gk,qa]
  have c2:eV (.str s) (some (m:Int)) none=some (.str (s.drop m)):=by rw [gk,yS]
  refine ao (bC (by repeat array_get_dec) rfl rfl ?_)
  refine ao (aP (by repeat array_get_dec) (fun h=>absurd h (by decide)) fun _=>aG ?_)
  exact ao (cC (by repeat array_get_dec) ⟨rfl,rfl⟩)
 | drop s=>
  have c1:eV (.str s) none (some (m:Int))=some (.str (s.take m)):=by rw [gk,qa]
  have c2:eV (.str s) (some (m:Int)) none=some (.str (s.drop m)):=by rw [gk,yS]
  refine ao (bC (by repeat array_get_dec) rfl rfl ?_)
  refine ao (aP (by repeat array_get_dec) (fun h=>absurd h (by decide)) fun _=>aG ?_)
  exact ao (cC (by repeat array_get_dec) ⟨rfl,rfl⟩)
theorem qH (m:Nat) (p:Pt):(p.dp m).n=p.n - m:=by cases p <;> simp [Pt.dp,Pt.n]
theorem rN (hs:F[aO]?=some gD) (hp:F[dO]?=some jS) (hf:F[i]?=some (nA dO aO)) (L:List V) (p:Pt) (m:Nat) (h:m≤p.n) (hn:p.n≤100000) (hL:L.length≤10000) :
  run F w (n+2) i [.bor (L++[p.v]),.val (.int m)]=some ((p.tk m).v,[L++if 0<p.n - m then [(p.dp m).v] else []]):=by
 refine cY hf rfl ?_
 have c1:=fun fr=>call2 (fr:=fr) (yT (F:=F) (w:=w) (n:=n) hp p m h)
 have c2:=fun fr=>dW (fr:=fr) (jP (F:=F) (w:=w) (n:=n) hs (p.dp m) (by rw [qH];omega))
 have po:∀ fr:Fr,gn .pop 0 [] fr (some (some (.bor (L++[p.v]))))=.ok p.v (fr.set 0 (some (.bor L))):=fun fr=>Hx
 have ap:∀ fr:Fr,gn .append 0 [(p.dp m).v] fr (some (some (.bor L)))=.ok .bz (fr.set 0 (some (.bor (L++[(p.dp m).v])))):=fun fr=>Hw (by omega)
 refine ao (bC (by (repeat (first | array_get_dec | exact po _ | exact c1 _))) rfl rfl ?_)
 refine ao (aP (by (repeat (first | array_get_dec | exact c2 _))) (fun h=>?_) fun h=>?_)
 ·have h':=of_decide_eq_true h
  rw [qH] at h'
  rw [if_pos (by omega)]
  refine ao (gm (by (repeat (first | array_get_dec | exact ap _))) (aG ?_))
  exact ao (cC (by repeat array_get_dec) ⟨rfl,rfl⟩)
 ·have h':=of_decide_eq_false h
  rw [qH] at h'
  rw [if_neg (by omega),List.append_nil]
  exact aG (ao (cC (by repeat array_get_dec) ⟨rfl,rfl⟩))
noncomputable def lM:Pt→Pt→Option (List Pt)
 | l,.keep _=>some [l]
 | .keep _,g=>some [g]
 | .put s,.drop s'=>if s=s' then some [] else none
 | _,_=>none
theorem HS (hf:F[i]?=some sL) (p q:Pt) (r:List Pt) (h:lM p q=some r):run F w (n+1) i [.val p.v,.val q.v]=some (.lst (r.map Pt.v),[]):=by
 refine cY hf rfl ?_
 cases q with
 | keep k=>
  simp only [lM,Option.some.injEq] at h
  subst h
  refine ao (aP (by repeat array_get_dec) (fun _=>?_) fun h=>absurd h (by decide))
  exact ao (cC (by repeat array_get_dec) ⟨rfl,rfl⟩)
 | put s=>
  cases p <;> simp [lM] at h
  subst h
  refine ao (aP (by repeat array_get_dec) (fun h=>absurd h (by decide)) fun _=>aG ?_)
  refine ao (aP (by repeat array_get_dec) (fun _=>?_) fun h=>absurd h (by decide))
  exact ao (cC (by repeat array_get_dec) ⟨rfl,rfl⟩)
 | drop s'=>
  cases p with
  | keep k=>
   simp only [lM,Option.some.injEq] at h
   subst h
   refine ao (aP (by repeat array_get_dec) (fun h=>absurd h (by decide)) fun _=>aG ?_)
   refine ao (aP (by repeat array_get_dec) (fun _=>?_) fun h=>absurd h (by decide))
   exact ao (cC (by repeat array_get_dec) ⟨rfl,rfl⟩)
  | drop s=>simp [lM] at h
  | put s=>
   simp only [lM] at h
   split at h
   ·rename_i hs
    subst hs
    cases h
    refine ao (aP (by repeat array_get_dec) (fun h=>absurd h (by decide)) fun _=>aG ?_)
    refine ao (aP (by repeat array_get_dec) (fun h=>absurd h (by decide)) fun _=>aG ?_)
    refine ao (aP (by repeat array_get_dec) (fun h=>?_) fun _=>aG ?_)
    ·simp at h
    ·exact ao (cC (by repeat array_get_dec) ⟨rfl,rfl⟩)
   ·cases h
theorem eK {l:List V}{v:V}:eH (.lst (l++[v])) (.int (-1))=some v:=by rw [wL,Li];simp
theorem j7 {l:List V}{v:V}:truthy (.lst (l++[v]))=true:=by simp
theorem E4 {P:aU}{f i:Nat}{fr:Fr}{b v:V}{l l':List V}(e:fr[i]?=some (some (.own l))) (h:P f [.bor l,.val b]=some (v,[l'])):fO P f [.inl i,.inr b] fr=.ok v (fr.set i (some (.own l'))):=by
 have e1:lent fr i=some (.bor l):=by rw [wV,e];rfl
 simp [fO,bP,args,e1,h,back,e,Sl.with]
theorem iR {c:List Pt}(h:kN c=true):∀ p∈c,0<p.n:=fun p hp=>by
 simp only [kN,Bool.and_eq_true,List.all_eq_true] at h
 have:=h.2 p hp
 simp only [EV,bne_iff_ne,ne_eq] at this
 omega
theorem gX:∀ {c:List Pt},(∀ p∈c,0<p.n)→c.length≤tot c
 | [],_=>by simp [tot]
 | p :: c,h=>by
  have h1:=h p (by simp)
  have h2:=gX (c:=c) fun q hq=>h q (by simp [hq])
  rw [bV,List.length_cons];omega
theorem yU {p:Pt}{m:Nat}(h:m≤p.n):(p.tk m).aZ++(p.dp m).aZ=p.aZ∧(p.tk m).n=m:=by
 cases p with
 | keep k=>simp only [Pt.n] at h;simp [Pt.tk,Pt.dp,Pt.aZ,Pt.n,h]
 | put s=>simp only [Pt.n] at h;simp [Pt.tk,Pt.dp,Pt.aZ,Pt.n,h,←List.map_append]
 | drop s=>simp only [Pt.n] at h;simp [Pt.tk,Pt.dp,Pt.aZ,Pt.n,h,←List.map_append]
noncomputable def j8 (m:Nat) (p:Pt):List Pt:=if 0<p.n - m then [p.dp m] else []
theorem xo {p:Pt}{m:Nat}(h:m≤p.n):p.aZ=(p.tk m).aZ++aZ (j8 m p):=by
 rw [← (yU h).1]
 congr 1
 unfold j8
 split
 ·simp [aZ]
 ·rename_i hz
  have:(p.dp m).aZ.length=0:=by rw [uN,qH];omega
  rw [List.length_eq_zero_iff.mp this];rfl
theorem xq (m:Nat) (p:Pt):∀ q∈j8 m p,0<q.n:=fun q hq=>by
 unfold j8 at hq
 split at hq
 ·simp at hq;subst hq;rw [qH];omega
 ·simp at hq
theorem HU (m:Nat) (p:Pt) (A:List Pt):((j8 m p++A).map Pt.v).reverse=(A.map Pt.v).reverse++if 0<p.n - m then [(p.dp m).v] else []:=by
 unfold j8;split <;> simp
theorem nB (m:Nat) (p:Pt):tot (j8 m p)=p.n - m:=by
 unfold j8;split
 ·simp [tot,qH]
 ·simp [tot];omega
theorem xr {m:Nat}{p:Pt}:dQ (p.tk m)=dQ p∧iF (p.tk m)=iF p:=by cases p <;> exact ⟨rfl,rfl⟩
theorem Lv {A B r:List At}(p q:Pt) (hp:dQ p=false) (hq:iF q=false) (hn:p.n=q.n) (h:Th (p.aZ++A) (q.aZ++B) r):∃ m r',lM p q=some m∧m.length≤1∧r=aZ m++r'∧Th A B r':=by
 cases p with
 | drop s=>cases hp
 | keep k=>
  cases q with
  | put s=>cases hq
  | keep k'=>simp only [Pt.n] at hn;subst hn;obtain ⟨r',rfl,h'⟩:=Th.VL h;exact ⟨[.keep k],r',rfl,by simp,by simp [aZ,Pt.aZ],h'⟩
  | drop s=>simp only [Pt.n] at hn;subst hn;obtain ⟨r',rfl,h'⟩:=Th.VM h;exact ⟨[.drop s],r',rfl,by simp,by simp [aZ,Pt.aZ],h'⟩
 | put s=>
  cases q with
  | put s'=>cases hq
  | keep k'=>simp only [Pt.n] at hn;subst hn;obtain ⟨r',rfl,h'⟩:=Th.VN h;exact ⟨[.put s],r',rfl,by simp,by simp [aZ,Pt.aZ],h'⟩
  | drop s'=>simp only [Pt.n] at hn;obtain ⟨rfl,h'⟩:=Th.Qk hn h;exact ⟨[],r,by simp [lM],by simp,by simp [aZ],h'⟩
structure Tn (one other c:List Pt) (t:List Nat):Prop where
 nY:aQ c=c
 fit:aV c t=true
 dn:aH c t=aH other (aH one t)
 kU:told 0 c=(told 0 other).map (sub (told 0 one))
 E5:told 0 (sw c)=(told 0 (sw one)).map (sub (told 0 (sw other)))
 cs:cst c≤cst one+cst other
 tt:tot c≤tot one+tot other
 ln:c.length≤tot c
theorem OS {one other ps:List Pt}{t:List Nat}(h1:aV one t=true) (h2:aV other (aH one t)=true) (h:Th (aZ (aQ one)) (aZ (aQ other)) (aZ ps)):Tn one other (aQ ps) t:=by
 have f1:aW (aA (aZ (aQ one))) t=true:=by rw [←gi,gc,←gh];exact h1
 have f2:aW (aA (aZ (aQ other))) (dA (aZ (aQ one)) t)=true:=by rw [←gi,gc,←jR,fj,←gh];exact h2
 have b:=h.back 0 0 [] rfl
 rw [←uO,←uO,←uO,←fD,←fD,←fD] at b
 have sf:∀ c i,told i (sw (aQ c))=told i (sw c):=fun c i=>by
  have:=congrArg (told i) (xm (gg c));rwa [cD,cD] at this
 refine ⟨gg _,?_,?_,?_,?_,?_,?_,gX (iR (gf _))⟩
 ·rw [iQ,gh,gi];exact h.fit t f1 f2
 ·rw [fj,jR,h.done t f1,←jR,fj,←jR,fj]
 ·have:=h.told 0 0 [] rfl
  rw [←fD,←fD,←fD,cD,cD] at this
  rw [cD];exact this
 ·rw [sf,←sf one,←sf other];exact b
 ·have:=h.cost
  rw [←qE,←qE,←qE,oK,oK] at this
  rw [oK];exact this
 ·have:=h.len
  rw [jy,jy,jy,gO,gO] at this
  rw [gO];exact this
section
variable (hs:F[aO]?=some gD) (hp:F[dO]?=some jS) (ht:F[bX]?=some (nA dO aO)) (hm:F[dj]?=some sL) {one other:List Pt}{r:List At}{N:Nat}(hN:N≤5000)
noncomputable def fK (one other A B C:List Pt) (a:Option Sl):Fr:=[some (.val (aF one)),some (.val (aF other)),some (.own (A.map Pt.v).reverse),some (.own (B.map Pt.v).reverse),some (.own (C.map Pt.v)),a]
noncomputable def Qn (one other:List Pt) (r:List At) (N k:Nat) (fr:Fr):Prop:=∃ A B C r' a,Th (aZ A) (aZ B) r'∧aZ C++r'=r∧(∀ p∈A,0<p.n)∧(∀ p∈B,0<p.n)∧C.length+k≤N∧k=tot A+tot B∧vo a∧fr=fK one other A B C a
include hs hp ht hm hN
noncomputable def Bg (aO dj bX:Nat):Ss:=(.cons (.set 5 (.bi .min (.cons (.cl aO (.cons (.ix (.v 2) (.neg (.c (.int 1)))) .nil)) (.cons (.cl aO (.cons (.ix (.v 3) (.neg (.c (.int 1)))) .nil)) .nil)))) (.cons (.exp (.me .extend (.v 4) (.cons (.cl dj (.cons (.cl bX (.cons (.v 2) (.cons (.v 5) .nil))) (.cons (.cl bX (.cons (.v 3) (.cons (.v 5) .nil))) .nil))) .nil))) .nil))
noncomputable def uU (aO dj bX:Nat):Ss:=.cons (.iff (.an (.v 3) (.cmp .eq (.ix (.ix (.v 3) (.neg (.c (.int 1)))) (.c (.int 0))) (.c (.str [112,117,116])))) (.cons (.exp (.me .append (.v 4) (.cons (.me .pop (.v 3) .nil) .nil))) .nil) (Bg aO dj bX)) .nil
noncomputable def uV (one other:List Pt) (r:List At) (N t:Nat) (g:Fl) (fr:Fr):Prop:=g=.nx∧∃ j,j<t∧Qn one other r N j fr
omit hs hp ht hm hN in
theorem Bh {C:List Pt}(lC:C.length≤5000) (d:Pt) (fr:Fr):gn .append 4 [d.v] fr (some (some (.own (C.map Pt.v))))=.ok .bz (fr.set 4 (some (.own ((C++[d]).map Pt.v)))):=by
 rw [List.map_append];exact kK (by simp;omega)
omit hs hp ht hm in
theorem uW (A B C:List Pt) (s:List Nat) (r':List At) (a:Option Sl) (h:Th (aZ A) (aZ (.put s :: B)) r') (hn:A9 (aZ A)=true) (hC:aZ C++r'=r) (hA:∀ p∈A,0<p.n) (hB:∀ p∈(.put s :: B),0<p.n) (hk:C.length+(tot A+tot (.put s :: B))≤N) (ha:vo a) :
  Wp (exs (run F w (n+2)) w (uU aO dj bX) (fK one other A (.put s :: B) C a)) (uV one other r N (tot A+tot (.put s :: B))):=by
 have lC:C.length≤5000:=by omega
 rw [di] at h
 obtain ⟨r2,e2,h2⟩:=Th.ps hn h
 have hs1:=hB (.put s) (by simp)
 unfold fK
 rw [List.map_cons,List.reverse_cons]
 refine ao (aP (jb (aS rfl (bh rfl) j7) (by (repeat (first | array_get_dec | exact eK)))) (fun _=>?_) fun h=>absurd h (by decide))
 refine ao (gm (by (repeat (first | array_get_dec | exact wX | exact Bh lC _ _))) (aG (aG ?_)))
 refine ⟨rfl,tot A+tot B,by rw [bV];omega,A,B,C++[.put s],r2,a,h2,?_,hA,fun x hx=>hB x (by simp [hx]),?_,rfl,ha,rfl⟩
 ·rw [←hC,e2,kR];simp [aZ,Pt.aZ]
 ·rw [bV] at hk;simp;omega
omit hN in
theorem Lx (A B C mm:List Pt) (p q:Pt) (m:Nat) (a:Option Sl) (mn:cV .min [.int p.n,.int q.n]=some (.int m)) (hm1:m≤p.n) (hm2:m≤q.n) (lp:p.n≤5000) (lq:q.n≤5000) (lA:A.length≤5000) (lB:B.length≤5000) (lC:C.length+mm.length≤10000) (e1:lM (p.tk m) (q.tk m)=some mm) (ha:vo a) (Q:Fl→Fr→Prop)
  (hQ:Q .nx (fK one other (j8 m p++A) (j8 m q++B) (C++mm) (some (.val (.int m))))):Wp (exs (run F w (n+2)) w (Bg aO dj bX) (fK one other (p :: A) (q :: B) C a)) Q:=by
 have z1:=fun fr=>dW (fr:=fr) (jP (F:=F) (w:=w) (n:=n+1) hs p (Nat.le_trans lp (by decide)))
 have z2:=fun fr=>dW (fr:=fr) (jP (F:=F) (w:=w) (n:=n+1) hs q (Nat.le_trans lq (by decide)))
 have t1:=rN (F:=F) (w:=w) (n:=n) hs hp ht (A.map Pt.v).reverse p m hm1 (by omega) (by simp;omega)
 have t2:=rN (F:=F) (w:=w) (n:=n) hs hp ht (B.map Pt.v).reverse q m hm2 (by omega) (by simp;omega)
 rw [←HU] at t1 t2
 have cm:=fun fr=>call2 (fr:=fr) (HS (F:=F) (w:=w) (n:=n+1) hm _ _ mm e1)
 have ex:∀ fr:Fr,gn .extend 4 [.lst (mm.map Pt.v)] fr (some (some (.own (C.map Pt.v))))=.ok .bz (fr.set 4 (some (.own ((C++mm).map Pt.v)))):=fun fr=>by
  rw [List.map_append];exact wW (by simp;omega)
 unfold fK at hQ ⊢
 rw [List.map_cons,List.reverse_cons,List.map_cons,List.reverse_cons]
 refine ao (bC (by (repeat (first | array_get_dec | exact eK | exact z1 _ | exact z2 _))) rfl (iE rfl ha) ?_)
 exact ao (gm (by (repeat (first | array_get_dec | exact E4 rfl t1 | exact E4 rfl t2 | exact cm _ | exact ex _))) (aG hQ))
theorem DL (A B C:List Pt) (p q:Pt) (r':List At) (a:Option Sl) (hd:dQ p=false) (hq:iF q=false) (h:Th (aZ (p :: A)) (aZ (q :: B)) r') (hC:aZ C++r'=r) (hA:∀ x∈p :: A,0<x.n) (hB:∀ x∈q :: B,0<x.n) (hk:C.length+(tot (p :: A)+tot (q :: B))≤N) (ha:vo a) :
  Wp (exs (run F w (n+2)) w (uU aO dj bX) (fK one other (p :: A) (q :: B) C a)) (uV one other r N (tot (p :: A)+tot (q :: B))):=by
 have hp0:=hA p (by simp)
 have W9:=hB q (by simp)
 obtain ⟨m,hm1,hm2,Xa⟩:∃ m:Nat,m≤p.n∧m≤q.n∧(m=p.n∨m=q.n):=⟨min p.n q.n,by omega,by omega,by omega⟩
 have mn:cV .min [.int p.n,.int q.n]=some (.int m):=by
  rw [KJ]
  split
  ·congr 2;omega
  ·congr 2;omega
 rw [bV,bV] at hk
 have lA:=gX (c:=A) fun x hx=>hA x (by simp [hx])
 have lB:=gX (c:=B) fun x hx=>hB x (by simp [hx])
 have h3:Th ((p.tk m).aZ++aZ (j8 m p++A)) ((q.tk m).aZ++aZ (j8 m q++B)) r':=by
  rw [kR,kR,←List.append_assoc,←List.append_assoc,←xo hm1,←xo hm2,←di,←di];exact h
 obtain ⟨mm,r2,e1,e2,e3,h4⟩:=Lv (p.tk m) (q.tk m) (by rw [xr.1];exact hd) (by rw [xr.2];exact hq) (by rw [(yU hm1).2,(yU hm2).2]) h3
 have fin:uV one other r N (tot (p :: A)+tot (q :: B)) .nx (fK one other (j8 m p++A) (j8 m q++B) (C++mm) (some (.val (.int m)))):=by
  refine ⟨rfl,_,?_,_,_,_,r2,_,h4,?_,?_,?_,?_,rfl,.val,rfl⟩
  ·rw [fJ,fJ,nB,nB,bV,bV];omega
  ·rw [kR,List.append_assoc,←e3];exact hC
  ·intro x hx
   rcases List.mem_append.mp hx with hx | hx
   ·exact xq m p x hx
   ·exact hA x (List.mem_cons_of_mem _ hx)
  ·intro x hx
   rcases List.mem_append.mp hx with hx | hx
   ·exact xq m q x hx
   ·exact hB x (List.mem_cons_of_mem _ hx)
  ·rw [fJ,fJ,nB,nB,List.length_append];omega
 have st:=Lx (one:=one) (other:=other) (w:=w) (n:=n) hs hp ht hm A B C mm p q m a mn hm1 hm2 (by omega) (by omega) (by omega) (by omega) (by omega) e1 ha _ (show nx (run F w (n+2)) w .nil (uV one other r N (tot (p :: A)+tot (q :: B))) .nx _ from aG fin)
 unfold fK at st ⊢
 rw [List.map_cons,List.reverse_cons,List.map_cons,List.reverse_cons] at st ⊢
 cases q with
 | put s=>cases hq
 | keep k=>exact ao (aP (jb (aS rfl (bh rfl) j7) (by (repeat (first | array_get_dec | exact eK)))) (fun h=>absurd h (by decide)) fun _=>st)
 | drop s=>exact ao (aP (jb (aS rfl (bh rfl) j7) (by (repeat (first | array_get_dec | exact eK)))) (fun h=>absurd h (by decide)) fun _=>st)
omit hs hp ht hm hN in
theorem Qo {b r:List At}{x:At}(h:Th [] (x :: b) r):∃ c,x=.p c:=by cases h with | p=>exact ⟨_,rfl⟩
omit hs hp ht hm hN in
theorem Qp {a r:List At}{x:At}(h:Th (x :: a) [] r):∃ c,x=.d c:=by cases h with | d=>exact ⟨_,rfl⟩
theorem Bj (A B C:List Pt) (r':List At) (a:Option Sl) (hne:A≠[]∨B≠[]) (h:Th (aZ A) (aZ B) r') (hC:aZ C++r'=r) (hA:∀ p∈A,0<p.n) (hB:∀ p∈B,0<p.n) (hk:C.length+(tot A+tot B)≤N) (ha:vo a) :
  Wp (exs (run F w (n+2)) w (uP aO dj bX) (fK one other A B C a)) (uV one other r N (tot A+tot B)):=by
 cases A with
 | nil=>
  cases B with
  | nil=>exact absurd hne (by simp)
  | cons q B'=>
   refine ao (aP (uB (aS rfl (bh rfl) rfl)) (fun h=>absurd h (by decide)) fun _=>?_)
   have hq:=hB q (by simp)
   cases q with
   | put s=>exact (uW hN [] B' C s r' a h rfl hC hA hB hk ha).mono fun g fr ⟨hg,hx⟩=>by subst hg;exact aG ⟨rfl,hx⟩
   | keep k=>
    rw [di] at h
    cases k with
    | zero=>exact absurd hq (Nat.lt_irrefl 0)
    | succ k=>obtain ⟨c,e⟩:=Qo (x:=.k) h;cases e
   | drop s=>
    rw [di] at h
    cases s with
    | nil=>exact absurd hq (Nat.lt_irrefl 0)
    | cons c s=>obtain ⟨c,e⟩:=Qo (x:=.d c) h;cases e
 | cons p A'=>
  have hp0:=hA p (by simp)
  cases hd:dQ p with
  | true=>
   cases p with
   | keep k=>cases hd
   | put s=>cases hd
   | drop s=>
    have lC:C.length≤5000:=by omega
    rw [di] at h
    obtain ⟨r2,e2,h2⟩:=Th.ds h
    unfold fK
    rw [List.map_cons,List.reverse_cons]
    refine ao (aP (jb (aS rfl (bh rfl) j7) (by (repeat (first | array_get_dec | exact eK)))) (fun _=>?_) fun h=>absurd h (by decide))
    refine ao (gm (by (repeat (first | array_get_dec | exact wX | exact Bh lC _ _))) (aG (aG ?_)))
    refine ⟨rfl,tot A'+tot B,by rw [bV];omega,A',B,C++[.drop s],r2,a,h2,?_,fun x hx=>hA x (by simp [hx]),hB,?_,rfl,ha,rfl⟩
    ·rw [←hC,e2,kR];simp [aZ,Pt.aZ]
    ·rw [bV] at hk;simp;omega
  | false=>
   have st:Wp (exs (run F w (n+2)) w (uU aO dj bX) (fK one other (p :: A') B C a)) (uV one other r N (tot (p :: A')+tot B)):=by
    cases B with
    | nil=>
     exfalso
     rw [di] at h
     cases p with
     | drop s=>cases hd
     | keep k=>cases k with | zero=>exact absurd hp0 (Nat.lt_irrefl 0) | succ k=>obtain ⟨c,e⟩:=Qp (x:=.k) h;cases e
     | put s=>cases s with | nil=>exact absurd hp0 (Nat.lt_irrefl 0) | cons c s=>obtain ⟨c,e⟩:=Qp (x:=.p c) h;cases e
    | cons q B'=>
     cases hq:iF q with
     | true=>
      have hnd:A9 (aZ (p :: A'))=true:=by
       rw [di]
       cases p with
       | drop s=>cases hd
       | keep k=>cases k <;> first | exact absurd hp0 (Nat.lt_irrefl 0) | rfl
       | put s=>cases s <;> first | exact absurd hp0 (Nat.lt_irrefl 0) | rfl
      cases q with
      | keep k=>cases hq
      | drop s=>cases hq
      | put s=>exact uW hN (p :: A') B' C s r' a h hnd hC hA hB hk ha
     | false=>exact DL hs hp ht hm hN A' B' C p q r' a hd hq h hC hA hB hk ha
   replace st:=st.mono (Q':=nx (run F w (n+2)) w .nil (uV one other r N (tot (p :: A')+tot B))) fun g fr ⟨hg,hx⟩=>by subst hg;exact aG ⟨rfl,hx⟩
   unfold fK at st ⊢
   rw [List.map_cons,List.reverse_cons] at st ⊢
   cases p with
   | drop s=>cases hd
   | keep k=>exact ao (aP (jb (aS rfl (bh rfl) j7) (by (repeat (first | array_get_dec | exact eK)))) (fun h=>absurd h (by decide)) fun _=>st)
   | put s=>exact ao (aP (jb (aS rfl (bh rfl) j7) (by (repeat (first | array_get_dec | exact eK)))) (fun h=>absurd h (by decide)) fun _=>st)
omit hN in
theorem uX (hst:F[bL]?=some gb) (hf:F[cK]?=some (kM bL)) (hb:F[dz]?=some (lH aO)) (ha:F[d9]?=some (nv aO)) (xu:F[i]?=some (kT d9 dz cK aO dj bX)) (hw:5000<w)
  (one other:List Pt) (t:List Nat) (h1:aV one t=true) (h2:aV other (aH one t)=true) (b1:tot one≤2000) (b2:tot other≤2000) (l1:one.length≤2000) (l2:other.length≤2000) :
  ∃ c,run F w (n+3) i [.val (aF one),.val (aF other)]=some (aF c,[])∧Tn one other c t:=by
 have f1:aW (aA (aZ (aQ one))) t=true:=by rw [←gi,gc,←gh];exact h1
 have f2:aW (aA (aZ (aQ other))) (dA (aZ (aQ one)) t)=true:=by rw [←gi,gc,←jR,fj,←gh];exact h2
 obtain ⟨r,hr⟩:=Th.all _ _ _ t (Nat.le_refl _) f1 f2
 have e1:gU one=aN other:=by rw [←oS h1,kQ h2]
 have ne:cop .ne (.int (gU one)) (.int (aN other))=some false:=by rw [yE,e1];simp
 have c1:=fun fr=>dW (fr:=fr) (rJ (F:=F) (w:=w) (n:=n) hs ha one (by omega) (by omega))
 have c2:=fun fr=>dW (fr:=fr) (pQ (F:=F) (w:=w) (n:=n) hs hb other (by omega) (by omega))
 have c3:=fun fr=>dW (fr:=fr) (iP (F:=F) (w:=w) (n:=n) hst hf one (by omega) (by omega))
 have c4:=fun fr=>dW (fr:=fr) (iP (F:=F) (w:=w) (n:=n) hst hf other (by omega) (by omega))
 have t1:=gO one
 have t2:=gO other
 have g1:=gX (iR (gf one))
 have g2:=gX (iR (gf other))
 have m1:ef ((aQ one).map Pt.v).reverse=some (.lst ((aQ one).map Pt.v).reverse):=er (cy (by simp;omega))
 have m2:ef ((aQ other).map Pt.v).reverse=some (.lst ((aQ other).map Pt.v).reverse):=er (cy (by simp;omega))
 have key:Wp (exs (run F w (n+2)) w (kT d9 dz cK aO dj bX).body (fE (kT d9 dz cK aO dj bX) [.val (aF one),.val (aF other)])) fun g fr=>∃ ps,aZ ps=r∧g=.ret (aF (aQ ps))∧outs 2 fr=[]:=by
  refine ao (aP (by (repeat (first | array_get_dec | exact c1 _ | exact c2 _))) (fun h=>absurd h (by decide)) fun _=>aG ?_)
  refine ao (jc (l:=((aQ one).map Pt.v).reverse) (yC (AI (dI (cE rfl (bh rfl) bZ) (c3 _)) rfl) m1) rfl rfl ?_)
  refine ao (jc (l:=((aQ other).map Pt.v).reverse) (yC (AI (dI (cE rfl (bh rfl) bZ) (c4 _)) rfl) m2) rfl rfl ?_)
  refine ao (jc (l:=[]) (by repeat array_get_dec) rfl rfl ?_)
  refine ao (OM (uv (Qn one other r (tot one+tot other)) (fun k fr hI=>?_) w (tot one+tot other) _ (by omega) ⟨aQ one,aQ other,[],r,none,hr,rfl,iR (gf one),iR (gf other),by simp,by omega,.none,rfl⟩))
  obtain ⟨A,B,C,r',a,hT,hC,hA,hB,hk,hkk,xw,rfl⟩:=hI
  by_cases hne:A≠[]∨B≠[]
  ·have ht1:aK (run F w (n+2)) (.orr (.v 2) (.v 3)) (fK one other A B C a)=.ok true (fK one other A B C a):=by
    cases A with
    | cons p A=>unfold fK;rw [List.map_cons,List.reverse_cons];exact AH (aS rfl (bh rfl) j7)
    | nil=>
     cases B with
     | nil=>simp at hne
     | cons q B=>unfold fK;rw [List.map_cons,List.reverse_cons];exact fY (aS rfl (bh rfl) rfl) (aS rfl (bh rfl) j7)
   refine ⟨true,_,ht1,?_⟩
   dsimp only
   rw [if_pos rfl]
   refine (Bj hs hp ht hm (N:=tot one+tot other) (by omega) A B C r' a hne hT hC hA hB (by omega) xw).mono fun g fr ⟨hg,hx⟩=>?_
   subst hg hkk
   exact hx
  ·obtain ⟨rfl,rfl⟩:A=[]∧B=[]:=by simpa using hne
   refine ⟨false,_,fY (aS rfl (bh rfl) rfl) (aS rfl (bh rfl) rfl),?_⟩
   dsimp only
   rw [if_neg (by decide)]
   cases hT
   rw [List.append_nil] at hC
   subst hC
   have lC:=hr.len
   rw [jy,jy,jy] at lC
   have mt:toT (.lst (C.map Pt.v))=some (aF C):=by rw [wQ];exact jL (cy (by simp;omega))
   have c5:=fun fr=>dW (fr:=fr) (iP (F:=F) (w:=w) (n:=n) hst hf C (by omega) (by omega))
   have sh:fq (fK one other [] [] C a)=[some (.val (aF one)),some (.val (aF other)),some (.val (.lst [])),some (.val (.lst [])),some (.val (.lst (C.map Pt.v))),a]:=by
    show _ :: _ :: _ :: _ :: _ :: [a.map Sl.eg]=_
    rw [cZ xw];rfl
   refine ao (cC (v:=aF (aQ C)) (af:=[some (.val (aF one)),some (.val (aF other)),some (.val (.lst [])),some (.val (.lst [])),some (.val (.lst (C.map Pt.v))),a]) ?_ ⟨C,rfl,rfl,rfl⟩)
   rw [sh]
   exact dI (cE rfl (sI (bh rfl) mt) bZ) (c5 _)
 obtain ⟨g,fr,e,ps,hps,rfl,ho⟩:=key
 refine ⟨aQ ps,?_,OS h1 h2 (hps▸hr)⟩
 rw [run_eq xu rfl,e]
 simp only [wR]
 rw [show outs (kT d9 dz cK aO dj bX).np fr=[] from ho]
end
end
end Pv
namespace Pv
open Ev (D cF bY TY BI ME T E Es Eo It S Ss Fn big deep b2i rep cH eG bU aR cut cS eB slots)
section
variable {F:List Fn}{w n dO aO dj bX cK bL d9 dz eS iH i:Nat}
theorem DM (hf:F[i]?=some Ls) (c:List Pt) (t:List Nat) (h1:tot c≤10000) (h2:t.length≤10000) (h:aV c t=true):run F w (n+1) i [.val (aF c),.val (.str t)]=some (.str (aH c t),[]):=by
 refine cY hf rfl ?_
 refine ao (bC (by repeat array_get_dec) rfl rfl ?_)
 refine ao (bC (by repeat array_get_dec) rfl rfl ?_)
 refine ao (jr (vs:=c.map Pt.v) (gB (fH rfl) rfl) ?_)
 have dl:=lK c t
 refine gT (e:=Pt.v) (fun p l fr=>p++l=c∧aN p≤t.length∧aV l (t.drop (aN p))=true∧∃ f a b,f++aH l (t.drop (aN p))=aH c t∧vo a∧vo b∧fr=[some (.val (aF c)),some (.val (.str t)),some (.val (.int (aN p))),some (.val (.str f)),a,b]) (fun p x l fr ⟨hpl,Qq,hfit,f,a,b,hd,ha,hb,hfr⟩=>?_) (fun p fr ⟨hpl,Qq,hfit,f,a,b,hd,ha,hb,hfr⟩=>?_) c [] _ ⟨rfl,by simp [aN,tot],by simpa [aN,tot] using h,[],none,none,by simp [aN,tot],.none,.none,rfl⟩
 ·subst hfr
  have fC:(p++[x])++l=c:=by simpa using hpl
  have lf:=congrArg List.length hd
  rw [List.length_append] at lf
  cases x with
  | put s=>
   have e2:aN (p++[.put s])=aN p:=by rw [kP,j6];simp [aN,tot]
   have ad:=lD (a:=f) (b:=s) (by simp [aH] at lf;omega)
   refine dm (iV rfl ha rfl hb) (ao (aP (by repeat array_get_dec) (fun _=>?_) fun h=>absurd h (by decide)))
   refine ao (bC (by repeat array_get_dec) rfl rfl (aG (aG ?_)))
   rw [dU,e2]
   exact ⟨fC,Qq,hfit,f++s,_,_,by simpa [aH] using hd,.val,.val,rfl⟩
  | drop s=>
   simp only [aV,Bool.and_eq_true] at hfit
   have e2:aN (p++[.drop s])=aN p+s.length:=by rw [kP,lJ];simp [aN,tot]
   have e3:((aN (p++[.drop s]):Nat):Int)=(aN p:Int)+(s.length:Nat):=by rw [e2];simp
   have hs:=hfit.1
   rw [pre_take] at hs
   have hs:=of_decide_eq_true hs
   have hl:s.length≤(t.drop (aN p)).length:=by have:=congrArg List.length hs;simp at this ⊢;omega
   have hl2:aN p+s.length≤t.length:=by simp at hl;omega
   have ln:cV .len [.str s]=some (.int (s.length:Nat)):=len_str (by omega)
   have cu:eV (.str t) (some (aN p:Int)) (some ((aN p:Int)+(s.length:Nat)))=some (.str s):=by rw [gk,pU,hs]
   refine dm (iV rfl ha rfl hb) (ao (aP (by repeat array_get_dec) (fun h=>absurd h (by decide)) fun _=>?_))
   refine ao (aP (by repeat array_get_dec) (fun _=>?_) fun h=>absurd h (by decide))
   refine ao (aP (by repeat array_get_dec) (fun h=>?_) fun _=>aG ?_)
   ·simp at h
   ·refine ao (bC (by repeat array_get_dec) rfl rfl (aG (aG (aG ?_))))
    rw [dU]
    refine ⟨fC,by omega,?_,f,_,_,?_,.val,.val,by rw [e3];rfl⟩
    ·rw [e2,←List.drop_drop];exact hfit.2
    ·rw [e2,←List.drop_drop];simpa [aH] using hd
  | keep k=>
   simp only [aV,Bool.and_eq_true,decide_eq_true_eq] at hfit
   have e2:aN (p++[.keep k])=aN p+k:=by rw [kP,j5];simp [aN,tot]
   have e3:((aN (p++[.keep k]):Nat):Int)=(aN p:Int)+(k:Nat):=by rw [e2];simp
   have hl2:aN p+k≤t.length:=by have:=hfit.1;simp at this;omega
   have cu:eV (.str t) (some (aN p:Int)) (some ((aN p:Int)+(k:Nat)))=some (.str ((t.drop (aN p)).take k)):=by rw [gk,pU]
   have ad:=lD (a:=f) (b:=(t.drop (aN p)).take k) (by simp [aH] at lf ⊢;omega)
   refine dm (iV rfl ha rfl hb) (ao (aP (by repeat array_get_dec) (fun h=>absurd h (by decide)) fun _=>?_))
   refine ao (aP (by repeat array_get_dec) (fun h=>absurd h (by decide)) fun _=>?_)
   refine ao (bC (by repeat array_get_dec) rfl rfl ?_)
   refine ao (bC (by repeat array_get_dec) rfl rfl (aG (aG (aG ?_))))
   rw [dU]
   refine ⟨fC,by omega,?_,f++(t.drop (aN p)).take k,_,_,?_,.val,.val,by rw [e3];rfl⟩
   ·rw [e2,←List.drop_drop];exact hfit.2
   ·rw [e2,←List.drop_drop];simpa [aH] using hd
 ·subst hfr
  simp at hpl
  subst hpl
  have hd':f=aH p t:=by simpa [aH] using hd
  subst hd'
  have e0:=kQ h
  have ln:cV .len [.str t]=some (.int (t.length:Nat)):=len_str (by omega)
  have eq:cop .eq (.int (aN p)) (.int (t.length:Nat))=some true:=by rw [CS,e0];simp
  have sh:fq [some (.val (aF p)),some (.val (.str t)),some (.val (.int (aN p))),some (.val (.str (aH p t))),a,b]=[some (.val (aF p)),some (.val (.str t)),some (.val (.int (aN p))),some (.val (.str (aH p t))),a,b]:=by
   show _ :: _ :: _ :: _ :: a.map Sl.eg :: [b.map Sl.eg]=_
   rw [cZ ha,cZ hb];rfl
  refine ao (cC (v:=.str (aH p t)) (af:=[some (.val (aF p)),some (.val (.str t)),some (.val (.int (aN p))),some (.val (.str (aH p t))),a,b]) ?_ ⟨rfl,rfl⟩)
  rw [sh]
  exact yz (b:=true) (aS rfl (by repeat array_get_dec) rfl) (fun _=>bh rfl) fun h=>absurd h (by decide)
noncomputable def Ch:List Nat→List (List Pt)→Prop
 | _,[]=>True
 | t,c :: rs=>aV c t=true∧Ch (aH c t) rs
noncomputable def bu (t:List Nat) (rs:List (List Pt)):List Nat:=rs.foldl (fun s c=>aH c s) t
noncomputable def jj (T:List Tq) (rs:List (List Pt)):List Tq:=rs.foldl (fun T c=>(told 0 c).map (sub T)) T
noncomputable def cL (rs:List (List Pt)):Nat:=(rs.map tot).sum
theorem lN {c:List Pt}{t:List Nat}(h:aV c t=true):aV (dh c) (aH c t)=true∧aH (dh c) (aH c t)=t:=by
 have:=uL c t h
 simp only [dh];rw [iQ,fj];exact this
theorem j9 (c:List Pt):told 0 (dh c)=told 0 (sw c):=by simp only [dh];rw [cD]
theorem mZ (n:Nat):told 0 [.keep n]=(List.range n).map Tq.at:=by simp [told,Pt.told]
theorem xx (T:List Tq) (p q:List (List Pt)):jj T (p++q)=jj (jj T p) q:=by simp [jj]
theorem nD (t:List Nat) (p q:List (List Pt)):bu t (p++q)=bu (bu t p) q:=by simp [bu]
theorem qI (T:List Tq):∀ (rs:List (List Pt)) (U:List Tq),(jj U rs).map (sub T)=jj (U.map (sub T)) rs
 | [],U=>rfl
 | c :: rs,U=>by
  show (jj ((told 0 c).map (sub U)) rs).map (sub T)=jj ((told 0 c).map (sub (U.map (sub T)))) rs
  rw [qI T rs,DC]
theorem m5 {t:List Nat}:∀ {p q:List (List Pt)},Ch t (p++q)↔Ch t p∧Ch (bu t p) q
 | [],q=>⟨fun h=>⟨trivial,h⟩,fun h=>h.2⟩
 | c :: p,q=>by
  show (aV c t=true∧Ch (aH c t) (p++q))↔(aV c t=true∧Ch (aH c t) p)∧Ch (bu (aH c t) p) q
  rw [m5,and_assoc]
theorem rO {c:List Pt}{t:List Nat}(h:aV c t=true):(told 0 c).length=(aH c t).length:=by rw [oJ,oS h]
theorem uY {L:List Tq}{n:Nat}(h:L.length=n):(told 0 [.keep n]).map (sub L)=L:=by rw [mZ,←h];exact HK L
theorem xy {t:List Nat}:∀ {rs:List (List Pt)},Ch t rs→Ch (bu t rs) (rs.map dh).reverse∧bu (bu t rs) (rs.map dh).reverse=t
 | [],_=>⟨trivial,rfl⟩
 | c :: rs,h=>by
  obtain ⟨h1,h2⟩:=xy h.2
  obtain ⟨u1,u2⟩:=lN h.1
  rw [List.map_cons,List.reverse_cons,m5,nD]
  show (Ch (bu (aH c t) rs) _∧Ch (bu (bu (aH c t) rs) _) [dh c])∧bu (bu (bu (aH c t) rs) _) [dh c]=t
  rw [h2]
  exact ⟨⟨h1,u1,trivial⟩,u2⟩
theorem uZ {a b:List Pt}{t:List Nat}(fa:aQ a=a) (fb:aQ b=b) (ha:aV a t=true) (hb:aV b t=true) (h:told 0 a=told 0 b):a=b:=by rw [←fa,←fb];exact Bc ha hb h
theorem Qs {c:List Pt}{t:List Nat}(h:aV c t=true):(told 0 c).map (sub (told 0 [.keep t.length]))=told 0 c:=by
 rw [fD c,mZ]
 refine DE fun j hj=>?_
 have:j<(aA (aZ c)).length:=(List.getElem?_eq_some_iff.mp hj).1
 rw [←gi,oH,←kQ h] at this
 simp [this]
theorem DN (c:List Pt) (i:Nat):told i (sw (aQ c))=told i (sw c):=by
 have:=congrArg (told i) (xm (gg c));rwa [cD,cD] at this
theorem qJ (n:Nat):told 0 (dh (aQ [.keep n]))=told 0 [.keep n]:=by
 rw [j9,DN];rfl
theorem Bk {t:List Nat}{p:List (List Pt)}{x:List Pt}(h:aV x (bu t p)=true):(jj (told 0 [.keep (bu t p).length]) (p.map dh).reverse).map (sub (told 0 (sw x)))=jj (told 0 [.keep (bu t (p++[x])).length]) ((p++[x]).map dh).reverse:=by
 obtain ⟨u1,u2⟩:=lN h
 have e1:bu t (p++[x])=aH x (bu t p):=by rw [nD];rfl
 rw [qI,List.map_append,List.reverse_append,e1]
 show _=jj ((told 0 (dh x)).map (sub (told 0 [.keep (aH x (bu t p)).length]))) _
 rw [Qs u1,←j9,uY (by rw [rO u1,u2])]
 rfl
structure An (c:List Pt) (t:List Nat) (rs:List (List Pt)):Prop where
 nY:aQ c=c
 fit:aV c t=true
 dn:aH c t=bu t rs
 kU:told 0 c=jj (told 0 [.keep t.length]) rs
 E5:told 0 (sw c)=jj (told 0 [.keep (bu t rs).length]) (rs.map dh).reverse
 tt:tot c≤t.length+cL rs
 ln:c.length≤tot c
theorem Ly (t:List Nat):An (aQ [.keep t.length]) t []:=by
 refine ⟨gg _,by rw [iQ];simp [aV],by rw [fj];simp [aH,bu],by rw [cD];rfl,by rw [←j9,qJ];rfl,by rw [gO];simp [tot,Pt.n,cL],gX (iR (gf _))⟩
section
variable (hs:F[aO]?=some gD) (hp:F[dO]?=some jS) (ht:F[bX]?=some (nA dO aO)) (hm:F[dj]?=some sL)
 (hst:F[bL]?=some gb) (hf:F[cK]?=some (kM bL)) (hb:F[dz]?=some (lH aO)) (ha:F[d9]?=some (nv aO)) (xu:F[iH]?=some (kT d9 dz cK aO dj bX)) (hno:F[eS]?=some (mV cK)) (hw:5000<w)
include hs hp ht hm hst hf hb ha xu hno hw
end
end
end Pv
namespace Pv
section
variable {t:List Nat}{p q rs:List (List Pt)}{s e w x y c:List Pt}
theorem HV (hs:An s t p) (he:An e (bu t p) q) (hx:Tn s e x t) (hw:An w t (p++q)):x=w:=
 uZ hx.nY hw.nY hx.fit hw.fit (by rw [hx.kU,he.kU,qI,uY (by rw [rO hs.fit,hs.dn]),hs.kU,←xx,hw.kU])
theorem Lz (hs:An s t p) (hx:Tn s c x t) (hw:An w t (p++[c])):x=w:=
 uZ hx.nY hw.nY hx.fit hw.fit (by rw [hx.kU,hs.kU,hw.kU,xx];rfl)
theorem HW (hw:An w t rs) (hy:An y (bu t rs) (rs.map dh).reverse):y=dh w:=
 uZ hy.nY (gg _) hy.fit (by rw [←hw.dn];exact (lN hw.fit).1) (by rw [hy.kU,j9,hw.E5])
theorem LA (hc:An c t [x]) (h:aV x t=true):c=aQ x:=
 uZ hc.nY (gg x) hc.fit (by rw [iQ];exact h) (by rw [hc.kU,cD];exact Qs h)
theorem u5 (n:Nat):∀ k,jj (told 0 [.keep n]) (List.replicate k (aQ [.keep n]))=told 0 [.keep n]
 | 0=>rfl
 | k+1=>by
  show jj ((told 0 (aQ [.keep n])).map (sub (told 0 [.keep n]))) (List.replicate k (aQ [.keep n]))=_
  rw [cD,uY (by rw [mZ];simp),u5 n k]
theorem HX {k:Nat}(hc:An c t (List.replicate k (aQ [.keep t.length]))):c=aQ [.keep t.length]:=
 uZ hc.nY (gg _) hc.fit (by rw [iQ];simp [aV]) (by rw [hc.kU,cD,u5])
theorem Bm (m:Nat):asks (List.replicate m (.keep 1))=List.replicate m []:=by
 induction m with
 | zero=>rfl
 | succ m ih=>rw [List.replicate_succ,List.replicate_succ,←ih];rfl
theorem DO (m:Nat):tot (List.replicate m (.keep 1))=m:=by
 induction m with
 | zero=>rfl
 | succ m ih=>rw [List.replicate_succ,bV,ih];show 1+m=_;omega
theorem DP {a:List Pt}{k:Nat}(h:aV a (t.take k)=true):aV (a++List.replicate (t.length - k) (.keep 1)) t=true:=by
 rw [gh] at h
 have h2:aW (asks (List.replicate (t.length - k) (.keep 1))) (t.drop k)=true:=by
  have:=rL (t.length - k) [] (t.drop k)
  rw [Bm,←List.append_nil (List.replicate _ _),this,List.length_drop,List.drop_of_length_le (by rw [List.length_drop];exact Nat.le_refl _)]
  simp [aW]
 have:=oR h h2
 rw [List.take_append_drop] at this
 rw [gh,ez];exact this
end
open Ev (D cF bY TY BI ME T E Es Eo It S Ss Fn big deep b2i rep cH eG bU aR cut cS eB slots)
inductive Hd (L:List V):Sl→List (List V)→Prop
 | val:Hd L (.val (.lst L)) []
 | bor:Hd L (.bor L) [L]
section
variable {F:List Fn}{w n dO aO dj bX cK bL d9 dz eS iH i:Nat}
section
variable (hs:F[aO]?=some gD) (hp:F[dO]?=some jS) (ht:F[bX]?=some (nA dO aO)) (hm:F[dj]?=some sL)
 (hst:F[bL]?=some gb) (hf:F[cK]?=some (kM bL)) (hb:F[dz]?=some (lH aO)) (ha:F[d9]?=some (nv aO)) (xu:F[iH]?=some (kT d9 dz cK aO dj bX)) (hno:F[eS]?=some (mV cK)) (hw:5000<w)
include hs hp ht hm hst hf hb ha xu hno hw
theorem rT {s0:Sl}{os:List (List V)}(hat:F[i]?=some (jv eS iH)) (t:List Nat) (rs:List (List Pt)) (hch:Ch t rs) (hB:t.length+cL rs≤2000) (hL:∀ c∈rs,c.length≤2000) (hS:Hd (rs.map aF) s0 os) :
  ∃ c,run F w (n+4) i [.val (.int t.length),s0]=some (aF c,os)∧An c t rs:=by
 have c1:=fun fr=>dW (fr:=fr) (nW (F:=F) (w:=w) (n:=n) hst hf hno t.length (by omega))
 have g1:∀ a c d,t9 false [a,some s0.walk,c,d] 1=some (.lst (rs.map aF)):=fun _ _ _=>by cases hS <;> rfl
 have g2:s0.walk.eg=s0.walk:=by cases hS <;> rfl
 have g3:∀ c,outs 2 [some (.val (.int t.length)),some s0.walk,c,none]=os∧∀ d,outs 2 [some (.val (.int t.length)),some s0.walk,c,d]=os:=fun _=>by cases hS <;> exact ⟨rfl,fun _=>rfl⟩
 have key:Wp (exs (run F w (n+3)) w (jv eS iH).body (fE (jv eS iH) [.val (.int t.length),s0])) fun g fr=>∃ c,An c t rs∧g=.ret (aF c)∧outs 2 fr=os:=by
  refine ao (bC (by (repeat (first | array_get_dec | exact c1 _))) rfl rfl ?_)
  refine ao (jr (vs:=rs.map aF) (gB (fH (g1 _ _ _)) rfl) ?_)
  refine gT (e:=aF) (fun p l fr=>p++l=rs∧Ch (bu t p) l∧∃ c a,An c t p∧vo a∧fr=[some (.val (.int t.length)),some s0.walk,some (.val (aF c)),a]) (fun p x l fr ⟨hpl,hc,c,a,hA,xw,hfr⟩=>?_) (fun p fr ⟨hpl,hc,c,a,hA,xw,hfr⟩=>?_) rs [] _ ⟨rfl,hch,_,none,Ly t,.none,rfl⟩
  ·subst hfr
   have fC:(p++[x])++l=rs:=by simpa using hpl
   have hx:x∈rs:=by rw [←hpl];simp
   have hT:cL rs=cL p+tot x+cL l:=by rw [←hpl];simp [cL];omega
   have a1:=hA.tt
   have a2:=hA.ln
   obtain ⟨c',e',u6⟩:=uX (F:=F) (w:=w) (n:=n) hs hp ht hm hst hf hb ha xu hw c x t hA.fit (by rw [hA.dn];exact hc.1) (by omega) (by omega) (by omega) (hL x hx)
   have c2:=fun fr=>call2 (fr:=fr) e'
   refine dm (bind1 rfl xw) (ao (bC (by (repeat (first | array_get_dec | exact c2 _))) rfl rfl (aG ?_)))
   rw [dU]
   refine ⟨fC,?_,c',_,⟨u6.nY,u6.fit,?_,?_,?_,?_,u6.ln⟩,.val,rfl⟩
   ·have:=hc.2;simpa [bu] using this
   ·rw [u6.dn,hA.dn];simp [bu]
   ·rw [u6.kU,hA.kU];simp [jj]
   ·rw [u6.E5,hA.E5];exact Bk hc.1
   ·have:=u6.tt;simp [cL] at a1 ⊢;omega
  ·subst hfr
   simp at hpl
   subst hpl
   have sh:fq [some (.val (.int t.length)),some s0.walk,some (.val (aF c)),a]=[some (.val (.int t.length)),some s0.walk,some (.val (aF c)),a]:=by
    show _ :: _ :: _ :: [a.map Sl.eg]=_
    rw [cZ xw];show _ :: some s0.walk.eg :: _=_;rw [g2];rfl
   refine ao (cC (v:=aF c) (af:=[some (.val (.int t.length)),some s0.walk,some (.val (aF c)),a]) ?_ ⟨c,hA,rfl,(g3 _).2 _⟩)
   rw [sh];exact bh rfl
 obtain ⟨g,fr,e,c,hA,rfl,ho⟩:=key
 refine ⟨c,?_,hA⟩
 rw [run_eq hat rfl,e]
 simp only [wR]
 rw [show outs (jv eS iH).np fr=os from ho]
end
end
theorem LB {P:aU}{fr af aB:Fr}{k:Bool}{a b:E}{x y:V}{l m:List V}(h:src (k&&kf a (bM b)) fr a (ev P (k&&kf a (bM b)) a fr)=.ok x af) (h2:src k af b (ev P k b af)=.ok y aB) (hx:jX x=some l) (hy:jX y=some m):cM P k (.zip a b) fr=.ok (eW l m) aB:=by rw [Hs,h,ay,h2,ay,hx,hy];rfl
theorem u7 {F:List Fn}{w n i:Nat}(hs:F[i]?=some AN) (c:List Pt) (h1:c.length≤1000) (hF:kN c=true):run F w (n+1) i [.val (aF c)]=some (.bl true,[]):=by
 obtain ⟨hA,hN⟩:=Bool.and_eq_true_iff.mp hF
 have l1:(c.map fun p=>V.str p.word).length≤big:=by rw [List.length_map];exact Nat.le_trans h1 (by decide)
 refine cY hs rfl (ao (bC (kL (gB (fH rfl) rfl) rfl (j0 _ (fun p=>.str p.word) c fun p _=>by cases p <;> exact pP rfl (gv (bh rfl) (cG rfl) rfl)) (er l1)) rfl rfl ?_))
 refine ao (jr (LB (fH rfl) (CQ (bh rfl) (uA (cG rfl)) yD (show ef (cut _ (some 1) none)=some _ by rw [OP];exact er (by rw [List.length_tail];exact Nat.le_trans (Nat.sub_le _ _) l1))) rfl rfl) ?_)
 refine uu (fun l fr=>∃ ws a b,vo a∧vo b∧l=eW (ws.map V.str) (ws.map V.str).tail∧jQ ws=true∧fr=[some (.val (aF c)),some (.val (.lst (c.map fun p=>.str p.word))),a,b,none,none]) (fun d l fr ⟨ws,a,b,ha,hb,hl,LC,hfr⟩=>?_) (fun fr ⟨ws,a,b,ha,hb,hl,LC,hfr⟩=>?_) _ _ ⟨c.map Pt.word,none,none,.none,.none,by rw [List.map_map];rfl,hA,rfl⟩
 ·subst hfr
  match ws,hl with
  | [],hl=>cases hl
  | [x],hl=>cases hl
  | x :: y :: r,hl=>
   cases hl
   obtain ⟨h2,h3⟩:=Bool.and_eq_true_iff.mp LC
   have h4:decide (x=y)=false∧(decide (x=jO)&&decide (y=iX))=false:=by
    simp only [ny,Bool.not_eq_true',Bool.or_eq_false_iff] at h2;exact h2
   refine dm (iV rfl ha rfl hb) (ao (aP (b:=false) (af:=[some (.val (aF c)),some (.val (.lst (c.map fun p=>.str p.word))),some (.val (.str x)),some (.val (.str y)),none,none]) (fY (aS rfl (eE (bh rfl) (bh rfl) oG) h4.1) ?_) (fun h=>absurd h (by decide)) fun _=>aG (aG ?_)))
   ·refine ES (aS rfl (eE (bh rfl) (cG rfl) oG) rfl) (fun h=>aS rfl (eE (bh rfl) (cG rfl) oG) ?_) fun _=>⟨rfl,rfl⟩
    have:=h4.2
    rw [show decide (x=jO)=true from h] at this
    exact this
   ·rw [dU];exact ⟨y :: r,_,_,.val,.val,rfl,h3,rfl⟩
 ·subst hfr
  have sh:fq [some (.val (aF c)),some (.val (.lst (c.map fun p=>V.str p.word))),a,b,none,none]=[some (.val (aF c)),some (.val (.lst (c.map fun p=>V.str p.word))),a,b,none,none]:=by
   show _ :: _ :: a.map Sl.eg :: b.map Sl.eg :: _=_
   rw [cZ ha,cZ hb];rfl
  have hz:∀ p∈c,decide (p.n=0)=false:=fun p hp=>by
   have:=List.all_eq_true.mp hN p hp
   simpa [EV] using this
  have VP:c.filter (fun p=>decide (p.n=0))=[]:=List.filter_eq_nil_iff.mpr fun p hp=>by rw [hz p hp];decide
  have hc2:cT (jq (run F w n) (.v 5) (.one 5) (.yes (.cmp .isin (.ix (.v 5) (.c (.int 1))) (.tup (.cons (.c (.str [])) (.cons (.c (.int 0)) .nil))))) [some (.val (aF c)),some (.val (.lst (c.map fun p=>V.str p.word))),a,b,none,none]) (c.map Pt.v)=some []:=by
   have:=mR (f:=jq (run F w n) (.v 5) (.one 5) (.yes (.cmp .isin (.ix (.v 5) (.c (.int 1))) (.tup (.cons (.c (.str [])) (.cons (.c (.int 0)) .nil))))) [some (.val (aF c)),some (.val (.lst (c.map fun p=>V.str p.word))),a,b,none,none]) (e:=Pt.v) (p:=fun p=>decide (p.n=0)) (g:=Pt.v) c fun p hp=>by
    have hp0:=of_decide_eq_false (hz p hp)
    have hi:∃ x u,p.v=.tup [x,u]∧cop .isin u (.tup [.str [],.int 0])=some false:=by
     cases p with
     | keep k=>
      have:¬ (0:Int)=(k:Int):=fun z=>hp0 (by show k=0;omega)
      exact ⟨_,_,rfl,by simp [this]⟩
     | put s=>
      have:¬ []=s:=fun z=>hp0 (by subst z;rfl)
      exact ⟨_,_,rfl,by simp [this]⟩
     | drop s=>
      have:¬ []=s:=fun z=>hp0 (by subst z;rfl)
      exact ⟨_,_,rfl,by simp [this]⟩
    obtain ⟨x,u,e,hi⟩:=hi
    rw [hz p hp,e]
    have bt:cB (.one 5) (.tup [x,u]) (nQ [some (.val (aF c)),some (.val (.lst (c.map fun p=>V.str p.word))),a,b,none,none])=some [some (.val (aF c)),some (.val (.lst (c.map fun p=>V.str p.word))),a,b,none,some (.val (.tup [x,u]))]:=by
     have ro:nQ [some (.val (aF c)),some (.val (.lst (c.map fun p=>V.str p.word))),a,b,none,none]=[some (.val (aF c)),some (.val (.lst (c.map fun p=>V.str p.word))),a,b,none,none]:=by
      rcases ha with rfl | ⟨_,rfl⟩ <;> rcases hb with rfl | ⟨_,rfl⟩ <;> rfl
     rw [ro];rfl
    exact wY (v:=.bz) (cN:=[]) (b:=false) bt (aS rfl (eE (gv (bh rfl) (cG rfl) rfl) (lE (bK (cG rfl) (bK (cG rfl) bT)) sE) hi) rfl) nofun
   rw [VP] at this;exact this
  refine ao (cC (af:=[some (.val (aF c)),some (.val (.lst (c.map fun p=>V.str p.word))),a,b,none,none]) ?_ ⟨rfl,rfl⟩)
  rw [sh]
  exact OI (OL (bh rfl) rfl) (eE (kL (gB (fH rfl) rfl) rfl hc2 nq) (lF bT nq) G8)
noncomputable def scan:List Nat→List (List Pt)→List (List Nat)
 | t,[]=>[t]
 | t,c :: rs=>t :: scan (aH c t) rs
theorem scan_get:∀ (rs:List (List Pt)) (t:List Nat) (k:Nat),k≤rs.length→(scan t rs)[k]?=some (bu t (rs.take k))
 | [],t,0,_=>rfl
 | c :: rs,t,0,_=>rfl
 | c :: rs,t,k+1,h=>scan_get rs (aH c t) k (Nat.le_of_succ_le_succ h)
theorem scan_len:∀ (rs:List (List Pt)) (t:List Nat),(scan t rs).length=rs.length+1
 | [],_=>rfl
 | c :: rs,t=>by show (scan (aH c t) rs).length+1=_;rw [scan_len rs];rfl
theorem scan_snoc (c:List Pt):∀ (rs:List (List Pt)) (t:List Nat),scan t (rs++[c])=scan t rs++[aH c (bu t rs)]
 | [],_=>rfl
 | d :: rs,t=>by show t :: scan (aH d t) (rs++[c])=_;rw [scan_snoc c rs];rfl
theorem jd:∀ (rs:List (List Pt)) (t:List Nat),∃ pre,scan t rs=pre++[bu t rs]
 | [],t=>⟨[],rfl⟩
 | c :: rs,t=>by obtain ⟨pre,e⟩:=jd rs (aH c t);exact ⟨t :: pre,by show t :: scan (aH c t) rs=_;rw [e];rfl⟩
end Pv
set_option maxRecDepth 100000
namespace Lw
noncomputable def S8:Ev.S:=.iff (.cmp .eq (.ix (.v 0) (.c (.int 0))) (.c (.str [107,101,101,112]))) (.cons (.ret (.ix (.v 0) (.c (.int 1)))) .nil) .nil
noncomputable def S9:Ev.S:=.ret (.bi .len (.cons (.ix (.v 0) (.c (.int 1))) .nil))
noncomputable def f0:Ev.Fn:=⟨1,1,(.cons S8 (.cons S9 .nil))⟩
noncomputable def Tc:Ev.S:=.ret (.bi .sum (.cons (.comp (.cl 0 (.cons (.v 1) .nil)) (.one 1) (.seq (.v 0)) (.yes (.cmp .ne (.ix (.v 1) (.c (.int 0))) (.c (.str [112,117,116]))))) .nil))
noncomputable def f1:Ev.Fn:=⟨1,2,(.cons Tc .nil)⟩
noncomputable def Td:Ev.S:=.ret (.bi .sum (.cons (.comp (.cl 0 (.cons (.v 1) .nil)) (.one 1) (.seq (.v 0)) (.yes (.cmp .ne (.ix (.v 1) (.c (.int 0))) (.c (.str [100,114,111,112]))))) .nil))
noncomputable def f2:Ev.Fn:=⟨1,2,(.cons Td .nil)⟩
noncomputable def Te:Ev.S:=.set 1 (.lst .nil)
noncomputable def Tf:Ev.S:=.set 2 (.c (.int 0))
noncomputable def Tg:Ev.S:=.set 3 (.c (.str []))
noncomputable def Ti:Ev.S:=.set 4 (.c (.str []))
noncomputable def Tj:Ev.Ss:=(.cons (.iff (.cmp .eq (.v 5) (.c (.str [100,114,111,112]))) (.cons (.set 3 (.bin .add (.v 3) (.v 6))) .nil) (.cons (.iff (.cmp .eq (.v 5) (.c (.str [112,117,116]))) (.cons (.set 4 (.bin .add (.v 4) (.v 6))) .nil) (.cons (.iff (.cmp .gt (.v 6) (.c (.int 0))) (.cons (.iff (.orr (.cmp .ne (.v 3) (.c (.str []))) (.cmp .ne (.v 4) (.c (.str [])))) (.cons (.exp (.me .extend (.v 1) (.cons (.cl 4 (.cons (.v 2) (.cons (.v 3) (.cons (.v 4) .nil)))) .nil))) (.cons (.set 2 (.c (.int 0))) (.cons (.set 3 (.c (.str []))) (.cons (.set 4 (.c (.str []))) .nil)))) .nil) (.cons (.set 2 (.bin .add (.v 2) (.v 6))) .nil)) .nil) .nil)) .nil)) .nil)
noncomputable def To:Ev.S:=.for (.many [5,6]) (.seq (.v 0)) Tj
noncomputable def Tp:Ev.S:=.exp (.me .extend (.v 1) (.cons (.cl 4 (.cons (.v 2) (.cons (.v 3) (.cons (.v 4) .nil)))) .nil))
noncomputable def Tt:Ev.S:=.ret (.jF (.v 1))
noncomputable def f3:Ev.Fn:=⟨1,7,(.cons Te (.cons Tf (.cons Tg (.cons Ti (.cons To (.cons Tp (.cons Tt .nil)))))))⟩
noncomputable def Tu:Ev.S:=.set 3 (.lst .nil)
noncomputable def Tv:Ev.S:=.iff (.cmp .gt (.v 0) (.c (.int 0))) (.cons (.exp (.me .append (.v 3) (.cons (.tup (.cons (.c (.str [107,101,101,112])) (.cons (.v 0) .nil))) .nil))) .nil) .nil
noncomputable def Tw:Ev.S:=.iff (.cmp .ne (.v 1) (.c (.str []))) (.cons (.exp (.me .append (.v 3) (.cons (.tup (.cons (.c (.str [100,114,111,112])) (.cons (.v 1) .nil))) .nil))) .nil) .nil
noncomputable def Tz:Ev.S:=.iff (.cmp .ne (.v 2) (.c (.str []))) (.cons (.exp (.me .append (.v 3) (.cons (.tup (.cons (.c (.str [112,117,116])) (.cons (.v 2) .nil))) .nil))) .nil) .nil
noncomputable def TF:Ev.S:=.ret (.v 3)
noncomputable def f4:Ev.Fn:=⟨3,4,(.cons Tu (.cons Tv (.cons Tw (.cons Tz (.cons TF .nil)))))⟩
noncomputable def TH:Ev.S:=.set 2 (.c (.int 0))
noncomputable def TJ:Ev.Ss:=(.cons (.iff (.an (.cmp .eq (.ix (.v 3) (.c (.int 0))) (.c (.str [100,114,111,112]))) (.cmp .ne (.sl (.v 1) (.yes (.v 2)) (.yes (.bin .add (.v 2) (.cl 0 (.cons (.v 3) .nil))))) (.ix (.v 3) (.c (.int 1))))) (.cons (.ret (.c (.bl false))) .nil) .nil) (.cons (.iff (.cmp .ne (.ix (.v 3) (.c (.int 0))) (.c (.str [112,117,116]))) (.cons (.set 2 (.bin .add (.v 2) (.cl 0 (.cons (.v 3) .nil)))) .nil) .nil) .nil))
noncomputable def TL:Ev.S:=.for (.one 3) (.seq (.v 0)) TJ
noncomputable def TM:Ev.S:=.ret (.cmp .eq (.v 2) (.bi .len (.cons (.v 1) .nil)))
noncomputable def f5:Ev.Fn:=⟨2,4,(.cons TH (.cons TL (.cons TM .nil)))⟩
noncomputable def TN:Ev.S:=.iff (.nt (.cl 5 (.cons (.v 0) (.cons (.v 1) .nil)))) (.cons (.gy) .nil) .nil
noncomputable def TQ:Ev.S:=.set 2 (.lst .nil)
noncomputable def TR:Ev.S:=.set 3 (.c (.int 0))
noncomputable def TU:Ev.Ss:=(.cons (.iff (.cmp .eq (.v 4) (.c (.str [112,117,116]))) (.cons (.exp (.me .append (.v 2) (.cons (.v 5) .nil))) .nil) (.cons (.iff (.cmp .eq (.v 4) (.c (.str [100,114,111,112]))) (.cons (.set 3 (.bin .add (.v 3) (.bi .len (.cons (.v 5) .nil)))) .nil) (.cons (.exp (.me .append (.v 2) (.cons (.sl (.v 1) (.yes (.v 3)) (.yes (.bin .add (.v 3) (.v 5)))) .nil))) (.cons (.set 3 (.bin .add (.v 3) (.v 5))) .nil))) .nil)) .nil)
noncomputable def TV:Ev.S:=.for (.many [4,5]) (.seq (.v 0)) TU
noncomputable def TX:Ev.S:=.ret (.me .join (.c (.str [])) (.cons (.v 2) .nil))
noncomputable def f6:Ev.Fn:=⟨2,6,(.cons TN (.cons TQ (.cons TR (.cons TV (.cons TX .nil)))))⟩
noncomputable def TZ:Ev.S:=.ret (.cl 3 (.cons (.jF (.comp (.tup (.cons (.jE [(.str [107,101,101,112],.str [107,101,101,112]),(.str [112,117,116],.str [100,114,111,112]),(.str [100,114,111,112],.str [112,117,116])] (.v 1)) (.cons (.v 2) .nil))) (.many [1,2]) (.seq (.v 0)) .no)) .nil))
noncomputable def f7:Ev.Fn:=⟨1,3,(.cons TZ .nil)⟩
noncomputable def T4:Ev.S:=.ret (.cl 3 (.cons (.tup (.cons (.tup (.cons (.c (.str [107,101,101,112])) (.cons (.v 0) .nil))) .nil)) .nil))
noncomputable def f8:Ev.Fn:=⟨1,1,(.cons T4 .nil)⟩
noncomputable def T6:Ev.S:=.iff (.cmp .ne (.cl 2 (.cons (.v 0) .nil)) (.cl 1 (.cons (.v 1) .nil))) (.cons (.gy) .nil) .nil
noncomputable def T7:Ev.S:=.set 2 (.jD (.rev (.cl 3 (.cons (.v 0) .nil))))
noncomputable def T8:Ev.S:=.set 3 (.jD (.rev (.cl 3 (.cons (.v 1) .nil))))
noncomputable def T9:Ev.S:=.set 4 (.lst .nil)
noncomputable def Ua:Ev.Ss:=(.cons (.iff (.an (.v 2) (.cmp .eq (.ix (.ix (.v 2) (.neg (.c (.int 1)))) (.c (.int 0))) (.c (.str [100,114,111,112])))) (.cons (.exp (.me .append (.v 4) (.cons (.me .pop (.v 2) .nil) .nil))) .nil) (.cons (.iff (.an (.v 3) (.cmp .eq (.ix (.ix (.v 3) (.neg (.c (.int 1)))) (.c (.int 0))) (.c (.str [112,117,116])))) (.cons (.exp (.me .append (.v 4) (.cons (.me .pop (.v 3) .nil) .nil))) .nil) (.cons (.set 5 (.bi .min (.cons (.cl 0 (.cons (.ix (.v 2) (.neg (.c (.int 1)))) .nil)) (.cons (.cl 0 (.cons (.ix (.v 3) (.neg (.c (.int 1)))) .nil)) .nil)))) (.cons (.exp (.me .extend (.v 4) (.cons (.cl 11 (.cons (.cl 12 (.cons (.v 2) (.cons (.v 5) .nil))) (.cons (.cl 12 (.cons (.v 3) (.cons (.v 5) .nil))) .nil))) .nil))) .nil))) .nil)) .nil)
noncomputable def Ub:Ev.S:=.qY (.orr (.v 2) (.v 3)) Ua
noncomputable def Uc:Ev.S:=.ret (.cl 3 (.cons (.jF (.v 4)) .nil))
noncomputable def f9:Ev.Fn:=⟨2,6,(.cons T6 (.cons T7 (.cons T8 (.cons T9 (.cons Ub (.cons Uc .nil))))))⟩
noncomputable def OT:Ev.S:=.set 2 (.cl 8 (.cons (.v 0) .nil))
noncomputable def OU:Ev.Ss:=(.cons (.set 2 (.cl 9 (.cons (.v 2) (.cons (.v 3) .nil)))) .nil)
noncomputable def OV:Ev.S:=.for (.one 3) (.seq (.v 1)) OU
noncomputable def OW:Ev.S:=.ret (.v 2)
noncomputable def Ey:Ev.Fn:=⟨2,4,(.cons OT (.cons OV (.cons OW .nil)))⟩
noncomputable def OX:Ev.S:=.iff (.cmp .eq (.ix (.v 1) (.c (.int 0))) (.c (.str [107,101,101,112]))) (.cons (.ret (.lst (.cons (.v 0) .nil))) .nil) .nil
noncomputable def OY:Ev.S:=.iff (.cmp .eq (.ix (.v 0) (.c (.int 0))) (.c (.str [107,101,101,112]))) (.cons (.ret (.lst (.cons (.v 1) .nil))) .nil) .nil
noncomputable def OZ:Ev.S:=.iff (.cmp .ne (.ix (.v 0) (.c (.int 1))) (.ix (.v 1) (.c (.int 1)))) (.cons (.gy) .nil) .nil
noncomputable def O0:Ev.S:=.ret (.lst .nil)
noncomputable def Qt:Ev.Fn:=⟨2,2,(.cons OX (.cons OY (.cons OZ (.cons O0 .nil))))⟩
noncomputable def O1:Ev.S:=.set 2 (.cl 13 (.cons (.me .pop (.v 0) .nil) (.cons (.v 1) .nil)))
noncomputable def O2:Ev.S:=.iff (.cmp .gt (.cl 0 (.cons (.ix (.v 2) (.c (.int 1))) .nil)) (.c (.int 0))) (.cons (.exp (.me .append (.v 0) (.cons (.ix (.v 2) (.c (.int 1))) .nil))) .nil) .nil
noncomputable def O3:Ev.S:=.ret (.ix (.v 2) (.c (.int 0)))
noncomputable def Qu:Ev.Fn:=⟨2,3,(.cons O1 (.cons O2 (.cons O3 .nil)))⟩
noncomputable def O4:Ev.S:=.set 2 (.ix (.v 0) (.c (.int 0)))
noncomputable def O5:Ev.S:=.iff (.cmp .eq (.v 2) (.c (.str [107,101,101,112]))) (.cons (.ret (.tup (.cons (.tup (.cons (.v 2) (.cons (.v 1) .nil))) (.cons (.tup (.cons (.v 2) (.cons (.bin .sub (.ix (.v 0) (.c (.int 1))) (.v 1)) .nil))) .nil)))) .nil) .nil
noncomputable def O6:Ev.S:=.ret (.tup (.cons (.tup (.cons (.v 2) (.cons (.sl (.ix (.v 0) (.c (.int 1))) .no (.yes (.v 1))) .nil))) (.cons (.tup (.cons (.v 2) (.cons (.sl (.ix (.v 0) (.c (.int 1))) (.yes (.v 1)) .no) .nil))) .nil)))
noncomputable def Qv:Ev.Fn:=⟨2,3,(.cons O4 (.cons O5 (.cons O6 .nil)))⟩
noncomputable def O7:Ev.S:=.iff (.cmp .eq (.v 0) (.lst .nil)) (.cons (.ret (.bin .mul (.c (.int 7)) (.v 1))) .nil) .nil
noncomputable def O8:Ev.S:=.ret (.bin .add (.ix (.v 0) (.bin .mod (.v 1) (.bi .len (.cons (.v 0) .nil)))) (.bin .mul (.c (.int 6553)) (.bin .fdiv (.v 1) (.bi .len (.cons (.v 0) .nil)))))
noncomputable def Qw:Ev.Fn:=⟨2,2,(.cons O7 (.cons O8 .nil))⟩
noncomputable def O9:Ev.S:=.set 3 (.bin .mod (.bin .add (.bin .mul (.bin .mod (.cl 14 (.cons (.v 0) (.cons (.v 1) .nil))) (.c (.int 2147483563))) (.c (.int 69069))) (.bin .mul (.c (.int 104723)) (.bin .add (.v 1) (.c (.int 1))))) (.c (.int 2147483563)))
noncomputable def Pa:Ev.S:=.set 3 (.bin .mod (.bin .add (.bin .mul (.v 3) (.v 3)) (.bin .fdiv (.v 3) (.c (.int 3)))) (.c (.int 2147483399)))
noncomputable def Pb:Ev.S:=.ret (.bin .mod (.bin .fdiv (.bin .mod (.bin .add (.bin .mul (.v 3) (.v 3)) (.bin .fdiv (.v 3) (.c (.int 7)))) (.c (.int 2147483647))) (.c (.int 11))) (.v 2))
noncomputable def Qx:Ev.Fn:=⟨3,4,(.cons O9 (.cons Pa (.cons Pb .nil)))⟩
noncomputable def Pc:Ev.S:=.ret (.me .join (.c (.str [])) (.cons (.comp (.ix (.c (.str [97,98,99,32])) (.cl 15 (.cons (.v 0) (.cons (.bin .add (.bin .add (.v 1) (.c (.int 1))) (.v 3)) (.cons (.c (.int 4)) .nil))))) (.one 3) (.iI (.cons (.cl 15 (.cons (.v 0) (.cons (.v 1) (.cons (.bin .add (.v 2) (.c (.int 1))) .nil)))) .nil)) .no) .nil))
noncomputable def Qy:Ev.Fn:=⟨3,4,(.cons Pc .nil)⟩
noncomputable def Pd:Ev.S:=.set 3 (.tup .nil)
noncomputable def Pe:Ev.Ss:=(.cons (.iff (.cmp .eq (.cl 15 (.cons (.v 0) (.cons (.bin .add (.v 1) (.bin .mul (.c (.int 4)) (.v 4))) (.cons (.c (.int 4)) .nil)))) (.c (.int 0))) (.cons (.set 5 (.bin .mul (.ix (.c (.str [97,98,122])) (.cl 15 (.cons (.v 0) (.cons (.bin .add (.bin .add (.v 1) (.bin .mul (.c (.int 4)) (.v 4))) (.c (.int 1))) (.cons (.c (.int 3)) .nil))))) (.bin .add (.c (.int 1)) (.cl 15 (.cons (.v 0) (.cons (.bin .add (.bin .add (.v 1) (.bin .mul (.c (.int 4)) (.v 4))) (.c (.int 2))) (.cons (.c (.int 2)) .nil))))))) (.cons (.set 3 (.bin .add (.v 3) (.tup (.cons (.tup (.cons (.c (.str [112,117,116])) (.cons (.v 5) .nil))) .nil)))) .nil)) .nil) (.cons (.iff (.cmp .lt (.v 4) (.bi .len (.cons (.v 2) .nil))) (.cons (.set 6 (.cmp .gt (.cl 15 (.cons (.v 0) (.cons (.bin .add (.bin .add (.v 1) (.bin .mul (.c (.int 4)) (.v 4))) (.c (.int 3))) (.cons (.c (.int 3)) .nil)))) (.c (.int 0)))) (.cons (.set 3 (.bin .add (.v 3) (.tup (.cons (.kB (.v 6) (.tup (.cons (.c (.str [107,101,101,112])) (.cons (.c (.int 1)) .nil))) (.tup (.cons (.c (.str [100,114,111,112])) (.cons (.ix (.v 2) (.v 4)) .nil)))) .nil)))) .nil)) .nil) .nil))
noncomputable def Pf:Ev.S:=.for (.one 4) (.iI (.cons (.bin .add (.bi .len (.cons (.v 2) .nil)) (.c (.int 1))) .nil)) Pe
noncomputable def Pg:Ev.S:=.ret (.v 3)
noncomputable def Qz:Ev.Fn:=⟨3,7,(.cons Pd (.cons Pf (.cons Pg .nil)))⟩
noncomputable def Ph:Ev.S:=.set 2 (.c (.int 0))
noncomputable def Pj:Ev.S:=.set 3 (.c (.str []))
noncomputable def Pk:Ev.Ss:=(.cons (.iff (.cmp .eq (.v 4) (.c (.str [112,117,116]))) (.cons (.set 3 (.bin .add (.v 3) (.v 5))) .nil) (.cons (.iff (.cmp .eq (.v 4) (.c (.str [100,114,111,112]))) (.cons (.iff (.cmp .ne (.sl (.v 1) (.yes (.v 2)) (.yes (.bin .add (.v 2) (.bi .len (.cons (.v 5) .nil))))) (.v 5)) (.cons (.ret (.c (.bz))) .nil) .nil) (.cons (.set 2 (.bin .add (.v 2) (.bi .len (.cons (.v 5) .nil)))) .nil)) (.cons (.set 3 (.bin .add (.v 3) (.sl (.v 1) (.yes (.v 2)) (.yes (.bin .add (.v 2) (.v 5)))))) (.cons (.set 2 (.bin .add (.v 2) (.v 5))) .nil))) .nil)) .nil)
noncomputable def Pn:Ev.S:=.for (.many [4,5]) (.seq (.v 0)) Pk
noncomputable def Po:Ev.S:=.ret (.kB (.cmp .eq (.v 2) (.bi .len (.cons (.v 1) .nil))) (.v 3) (.c (.bz)))
noncomputable def QA:Ev.Fn:=⟨2,6,(.cons Ph (.cons Pj (.cons Pn (.cons Po .nil))))⟩
noncomputable def Pp:Ev.S:=.set 1 (.comp (.ix (.v 4) (.c (.int 0))) (.one 4) (.seq (.v 0)) .no)
noncomputable def Pq:Ev.Ss:=(.cons (.iff (.orr (.cmp .eq (.v 2) (.v 3)) (.an (.cmp .eq (.v 2) (.c (.str [112,117,116]))) (.cmp .eq (.v 3) (.c (.str [100,114,111,112]))))) (.cons (.ret (.c (.bl false))) .nil) .nil) .nil)
noncomputable def Pr:Ev.S:=.for (.many [2,3]) (.zip (.v 1) (.sl (.v 1) (.yes (.c (.int 1))) .no)) Pq
noncomputable def Pu:Ev.S:=.ret (.an (.mq (.v 0) [.tuple]) (.cmp .eq (.comp (.v 5) (.one 5) (.seq (.v 0)) (.yes (.cmp .isin (.ix (.v 5) (.c (.int 1))) (.tup (.cons (.c (.str [])) (.cons (.c (.int 0)) .nil)))))) (.lst .nil)))
noncomputable def QB:Ev.Fn:=⟨1,6,(.cons Pp (.cons Pr (.cons Pu .nil)))⟩
noncomputable def E6:Ev.S:=.set 1 (.cl 16 (.cons (.v 0) (.cons (.c (.int 0)) (.cons (.c (.int 4)) .nil))))
noncomputable def E7:Ev.S:=.set 2 (.lst .nil)
noncomputable def E8:Ev.S:=.set 3 (.lst (.cons (.v 1) .nil))
noncomputable def yV:Ev.Ss:=(.cons (.set 5 (.ix (.v 3) (.neg (.c (.int 1))))) (.cons (.exp (.me .append (.v 2) (.cons (.bin .add (.cl 17 (.cons (.v 0) (.cons (.bin .add (.c (.int 10)) (.bin .mul (.c (.int 60)) (.v 4))) (.cons (.sl (.v 5) .no (.yes (.c (.int 9)))) .nil)))) (.bin .mul (.tup (.cons (.tup (.cons (.c (.str [107,101,101,112])) (.cons (.c (.int 1)) .nil))) .nil)) (.bi .max (.cons (.c (.int 0)) (.cons (.bin .sub (.bi .len (.cons (.v 5) .nil)) (.c (.int 9))) .nil))))) .nil))) (.cons (.exp (.me .append (.v 3) (.cons (.cl 18 (.cons (.ix (.v 2) (.neg (.c (.int 1)))) (.cons (.v 5) .nil))) .nil))) .nil)))
noncomputable def E9:Ev.S:=.for (.one 4) (.iI (.cons (.cl 15 (.cons (.v 0) (.cons (.c (.int 5)) (.cons (.c (.int 5)) .nil)))) .nil)) yV
noncomputable def yW:Ev.S:=.set 6 (.cl 10 (.cons (.bi .len (.cons (.v 1) .nil)) (.cons (.v 2) .nil)))
noncomputable def yX:Ev.S:=.iff (.orr (.nt (.cl 19 (.cons (.v 6) .nil))) (.orr (.cmp .ne (.cl 1 (.cons (.v 6) .nil)) (.bi .len (.cons (.v 1) .nil))) (.cmp .ne (.cl 2 (.cons (.v 6) .nil)) (.bi .len (.cons (.ix (.v 3) (.neg (.c (.int 1)))) .nil))))) (.cons (.ret (.c (.bl false))) .nil) .nil
noncomputable def yY:Ev.Ss:=(.cons (.set 8 (.cl 10 (.cons (.bi .len (.cons (.v 1) .nil)) (.cons (.sl (.v 2) .no (.yes (.v 7))) .nil)))) (.cons (.set 9 (.cl 10 (.cons (.bi .len (.cons (.ix (.v 3) (.v 7)) .nil)) (.cons (.sl (.v 2) (.yes (.v 7)) .no) .nil)))) (.cons (.iff (.orr (.cmp .ne (.cl 6 (.cons (.v 8) (.cons (.v 1) .nil))) (.ix (.v 3) (.v 7))) (.orr (.cmp .ne (.cl 6 (.cons (.v 9) (.cons (.ix (.v 3) (.v 7)) .nil))) (.ix (.v 3) (.neg (.c (.int 1))))) (.cmp .ne (.cl 9 (.cons (.v 8) (.cons (.v 9) .nil))) (.v 6)))) (.cons (.ret (.c (.bl false))) .nil) .nil) (.cons (.iff (.an (.cmp .lt (.v 7) (.bi .len (.cons (.v 2) .nil))) (.cmp .ne (.cl 9 (.cons (.v 8) (.cons (.ix (.v 2) (.v 7)) .nil))) (.cl 10 (.cons (.bi .len (.cons (.v 1) .nil)) (.cons (.sl (.v 2) .no (.yes (.bin .add (.v 7) (.c (.int 1))))) .nil))))) (.cons (.ret (.c (.bl false))) .nil) .nil) (.cons (.iff (.orr (.nt (.cl 5 (.cons (.v 8) (.cons (.v 1) .nil)))) (.nt (.cl 5 (.cons (.v 9) (.cons (.ix (.v 3) (.v 7)) .nil))))) (.cons (.ret (.c (.bl false))) .nil) .nil) .nil)))))
noncomputable def yZ:Ev.S:=.for (.one 7) (.iI (.cons (.bin .add (.bi .len (.cons (.v 2) .nil)) (.c (.int 1))) .nil)) yY
noncomputable def sM:Ev.S:=.set 10 (.comp (.cl 7 (.cons (.v 11) .nil)) (.one 11) (.seq (.rv (.v 2))) .no)
noncomputable def sN:Ev.S:=.iff (.orr (.cmp .ne (.cl 10 (.cons (.bi .len (.cons (.ix (.v 3) (.neg (.c (.int 1)))) .nil)) (.cons (.v 10) .nil))) (.cl 7 (.cons (.v 6) .nil))) (.cmp .ne (.cl 6 (.cons (.cl 7 (.cons (.v 6) .nil)) (.cons (.ix (.v 3) (.neg (.c (.int 1)))) .nil))) (.v 1))) (.cons (.ret (.c (.bl false))) .nil) .nil
noncomputable def qb:Ev.S:=.iff (.cmp .ne (.cl 10 (.cons (.c (.int 3)) (.cons (.bin .mul (.lst (.cons (.cl 8 (.cons (.c (.int 3)) .nil)) .nil)) (.c (.int 4))) .nil))) (.cl 8 (.cons (.c (.int 3)) .nil))) (.cons (.ret (.c (.bl false))) .nil) .nil
noncomputable def m6:Ev.S:=.ret (.orr (.cmp .eq (.v 2) (.lst .nil)) (.cmp .eq (.cl 10 (.cons (.bi .len (.cons (.v 1) .nil)) (.cons (.sl (.v 2) .no (.yes (.c (.int 1)))) .nil))) (.cl 3 (.cons (.ix (.v 2) (.c (.int 0))) .nil))))
noncomputable def Fb:Ev.Fn:=⟨1,12,(.cons E6 (.cons E7 (.cons E8 (.cons E9 (.cons yW (.cons yX (.cons yZ (.cons sM (.cons sN (.cons qb (.cons m6 .nil)))))))))))⟩
noncomputable def prog:List Ev.Fn:=[f0,f1,f2,f3,f4,f5,f6,f7,f8,f9,Ey,Qt,Qu,Qv,Qw,Qx,Qy,Qz,QA,QB,Fb]
end Lw
set_option maxRecDepth 100000
namespace Lw
open PySem PySem.Spec PyProof.Rows L2 Sm
open Ev (D O Hh Fr R aU E Es Eo T S Ss Fl Src cF bY TY BI ME)
noncomputable def top (i:Nat):Stmt:=PySem.Challenge.pw_pastways_k14_whole_rows.main.body.getD i (.Pass ⟨0,0,0,0⟩)
abbrev i0 (a:Nat→Addr) (d:Nat→FuncData):FI:=⟨"size",a 0,d 0,["part"]⟩
abbrev i1 (a:Nat→Addr) (d:Nat→FuncData):FI:=⟨"before",a 1,d 1,["change"]⟩
abbrev i2 (a:Nat→Addr) (d:Nat→FuncData):FI:=⟨"after",a 2,d 2,["change"]⟩
abbrev i3 (a:Nat→Addr) (d:Nat→FuncData):FI:=⟨"form",a 3,d 3,["change"]⟩
abbrev i4 (a:Nat→Addr) (d:Nat→FuncData):FI:=⟨"stretch",a 4,d 4,["kept","gone","new"]⟩
abbrev i5 (a:Nat→Addr) (d:Nat→FuncData):FI:=⟨"fits",a 5,d 5,["change","text"]⟩
abbrev i6 (a:Nat→Addr) (d:Nat→FuncData):FI:=⟨"done",a 6,d 6,["change","text"]⟩
abbrev i7 (a:Nat→Addr) (d:Nat→FuncData):FI:=⟨"undone",a 7,d 7,["change"]⟩
abbrev i8 (a:Nat→Addr) (d:Nat→FuncData):FI:=⟨"nothing",a 8,d 8,["many"]⟩
abbrev i9 (a:Nat→Addr) (d:Nat→FuncData):FI:=⟨"then",a 9,d 9,["one","other"]⟩
abbrev m7 (a:Nat→Addr) (d:Nat→FuncData):FI:=⟨"all_then",a 10,d 10,["many","rows"]⟩
abbrev Bo (a:Nat→Addr) (d:Nat→FuncData):FI:=⟨"met",a 11,d 11,["left","gone_through"]⟩
abbrev i12 (a:Nat→Addr) (d:Nat→FuncData):FI:=⟨"taken",a 12,d 12,["parts","many"]⟩
abbrev Bp (a:Nat→Addr) (d:Nat→FuncData):FI:=⟨"parted",a 13,d 13,["part","many"]⟩
abbrev Bq (a:Nat→Addr) (d:Nat→FuncData):FI:=⟨"_law_cell",a 14,d 14,["_law_script","_law_k"]⟩
abbrev m8 (a:Nat→Addr) (d:Nat→FuncData):FI:=⟨"_law_drawn",a 15,d 15,["_law_script","_law_k","_law_many"]⟩
abbrev Br (a:Nat→Addr) (d:Nat→FuncData):FI:=⟨"_law_text",a 16,d 16,["_law_script","_law_at","_law_most"]⟩
abbrev Bs (a:Nat→Addr) (d:Nat→FuncData):FI:=⟨"_law_change",a 17,d 17,["_law_script","_law_at","_law_text_here"]⟩
abbrev Bt (a:Nat→Addr) (d:Nat→FuncData):FI:=⟨"_law_made",a 18,d 18,["_law_change_here","_law_text_here"]⟩
abbrev Bu (a:Nat→Addr) (d:Nat→FuncData):FI:=⟨"_law_is_form",a 19,d 19,["_law_change_here"]⟩
abbrev Bv (a:Nat→Addr) (d:Nat→FuncData):FI:=⟨"law",a 20,d 20,["_law_script"]⟩
noncomputable def lT:List Str:=["isinstance","len","list","max","min","range","reversed","sum","tuple","zip"]
theorem u9:("isinstance" : Str)∈lT:=by decide +kernel
theorem dG:("len" : Str)∈lT:=by decide +kernel
theorem Bw:("list" : Str)∈lT:=by decide +kernel
theorem Pw:("max" : Str)∈lT:=by decide +kernel
theorem Px:("min" : Str)∈lT:=by decide +kernel
theorem nE:("range" : Str)∈lT:=by decide +kernel
theorem qc:("reversed" : Str)∈lT:=by decide +kernel
theorem Fc:("sum" : Str)∈lT:=by decide +kernel
theorem nF:("tuple" : Str)∈lT:=by decide +kernel
theorem Py:("zip" : Str)∈lT:=by decide +kernel
theorem g0:(("size" : Str)==("__debug__" : Str))=false:=by decide +kernel
theorem g1:(("before" : Str)==("__debug__" : Str))=false:=by decide +kernel
theorem g2:(("after" : Str)==("__debug__" : Str))=false:=by decide +kernel
theorem g3:(("form" : Str)==("__debug__" : Str))=false:=by decide +kernel
theorem g4:(("stretch" : Str)==("__debug__" : Str))=false:=by decide +kernel
theorem g5:(("fits" : Str)==("__debug__" : Str))=false:=by decide +kernel
theorem g6:(("done" : Str)==("__debug__" : Str))=false:=by decide +kernel
theorem g7:(("undone" : Str)==("__debug__" : Str))=false:=by decide +kernel
theorem g8:(("nothing" : Str)==("__debug__" : Str))=false:=by decide +kernel
theorem g9:(("then" : Str)==("__debug__" : Str))=false:=by decide +kernel
theorem vc:(("all_then" : Str)==("__debug__" : Str))=false:=by decide +kernel
theorem VQ:(("met" : Str)==("__debug__" : Str))=false:=by decide +kernel
theorem QC:(("taken" : Str)==("__debug__" : Str))=false:=by decide +kernel
theorem VR:(("parted" : Str)==("__debug__" : Str))=false:=by decide +kernel
theorem VS:(("_law_cell" : Str)==("__debug__" : Str))=false:=by decide +kernel
theorem vd:(("_law_drawn" : Str)==("__debug__" : Str))=false:=by decide +kernel
theorem VT:(("_law_text" : Str)==("__debug__" : Str))=false:=by decide +kernel
theorem VU:(("_law_change" : Str)==("__debug__" : Str))=false:=by decide +kernel
theorem VV:(("_law_made" : Str)==("__debug__" : Str))=false:=by decide +kernel
theorem VW:(("_law_is_form" : Str)==("__debug__" : Str))=false:=by decide +kernel
noncomputable def tb (a:Nat→Addr) (d:Nat→FuncData):Tb:=⟨prog,100000,[i0 a d,i1 a d,i2 a d,i3 a d,i4 a d,i5 a d,i6 a d,i7 a d,i8 a d,i9 a d,m7 a d,Bo a d,i12 a d,Bp a d,Bq a d,m8 a d,Br a d,Bs a d,Bt a d,Bu a d,Bv a d],lT,[("__name__",.str [108,97,119,95,112,97,115,116,119,97,121,115,95,107,49,52,95,119,104,111,108,101,95,114,111,119,115])],[("TURNED",[(.str [107,101,101,112],.str [107,101,101,112]),(.str [112,117,116],.str [100,114,111,112]),(.str [100,114,111,112],.str [112,117,116])])]⟩
section
variable {a:Nat→Addr}{d:Nat→FuncData}{n:Nat}
abbrev n0:List Str:=["part"]
theorem s0:bS n0 ["part"] (av (top 1)):=⟨rfl,rfl,rfl,by decide +kernel,rfl,by decide +kernel,by decide +kernel⟩
set_option maxHeartbeats 0 in
theorem b0:eN (tb a d) n (av (top 1)) n0 true (List.range n0.length) f0.body (aE (top 1)):=by
 refine ai ?_ ?_
 refine bH ?_ ?_ ?_
 refine bf (fun X g=>dc g) ?_ ?_ (aT _)
 refine bD (fun X g=>bE) ?_ ?_
 refine ak 0 0
 refine aD
 refine br
 refine ai ?_ ?_
 refine bF ?_
 refine bD (fun X g=>bE) ?_ ?_
 refine ak 0 0
 refine aD
 refine az
 refine az
 refine ai ?_ ?_
 refine bF ?_
 refine cU (x:="len") (id:="len") (fun X g=>cR) ?_ (hb:=dG) (hv:=by decide +kernel)
 refine ah ?_ ?_
 refine bD (fun X g=>bE) ?_ ?_
 refine ak 0 0
 refine aD
 refine au
 refine az
abbrev n1:List Str:=["change"]
theorem s1:bS n1 ["change"] (av (top 2)):=⟨rfl,rfl,rfl,by decide +kernel,rfl,by decide +kernel,by decide +kernel⟩
set_option maxHeartbeats 0 in
theorem b1:eN (tb a d) n (av (top 2)) n1 true (List.range n1.length) f1.body (aE (top 2)):=by
 refine ai ?_ ?_
 refine bF ?_
 refine cU (x:="sum") (id:="sum") (fun X g=>Ab g) ?_ (hb:=Fc) (hv:=by decide +kernel)
 refine ah ?_ ?_
 refine jw (N':=["part"]) (m':=[1]) ?_ ?_ ?_ ?_ (namesOk.of (by decide +kernel)) (gI.of (by decide +kernel))
 refine fT ?_
 refine ak 0 0
 refine fU 0 1 (by decide +kernel) (by decide +kernel)
 refine tP ?_
 refine bf (fun X g=>dN g) ?_ ?_ (aT _)
 refine bD (fun X g=>bE) ?_ ?_
 refine ak 0 1
 refine aD
 refine br
 refine aY (i:=i0 a d) rfl ?_ (hd:=g0)
 refine ah ?_ ?_
 refine ak 0 1
 refine au
 refine au
 refine az
abbrev n2:List Str:=["change"]
theorem s2:bS n2 ["change"] (av (top 3)):=⟨rfl,rfl,rfl,by decide +kernel,rfl,by decide +kernel,by decide +kernel⟩
set_option maxHeartbeats 0 in
theorem b2:eN (tb a d) n (av (top 3)) n2 true (List.range n2.length) f2.body (aE (top 3)):=by
 refine ai ?_ ?_
 refine bF ?_
 refine cU (x:="sum") (id:="sum") (fun X g=>Ab g) ?_ (hb:=Fc) (hv:=by decide +kernel)
 refine ah ?_ ?_
 refine jw (N':=["part"]) (m':=[1]) ?_ ?_ ?_ ?_ (namesOk.of (by decide +kernel)) (gI.of (by decide +kernel))
 refine fT ?_
 refine ak 0 0
 refine fU 0 1 (by decide +kernel) (by decide +kernel)
 refine tP ?_
 refine bf (fun X g=>dN g) ?_ ?_ (aT _)
 refine bD (fun X g=>bE) ?_ ?_
 refine ak 0 1
 refine aD
 refine br
 refine aY (i:=i0 a d) rfl ?_ (hd:=g0)
 refine ah ?_ ?_
 refine ak 0 1
 refine au
 refine au
 refine az
abbrev n3:List Str:=["change","parts","kept","gone","new","word","what"]
theorem s3:bS n3 ["change"] (av (top 4)):=⟨rfl,rfl,rfl,by decide +kernel,rfl,by decide +kernel,by decide +kernel⟩
set_option maxHeartbeats 0 in
theorem b3:eN (tb a d) n (av (top 4)) n3 true (List.range n3.length) f3.body (aE (top 4)):=by
 refine ai ?_ ?_
 refine bg 1 1 (by decide +kernel) (by decide +kernel) ?_
 refine eX ?_
 refine au
 refine ai ?_ ?_
 refine bg 2 2 (by decide +kernel) (by decide +kernel) ?_
 refine aD
 refine ai ?_ ?_
 refine bg 3 3 (by decide +kernel) (by decide +kernel) ?_
 refine br
 refine ai ?_ ?_
 refine bg 4 4 (by decide +kernel) (by decide +kernel) ?_
 refine br
 refine ai ?_ ?_
 refine iy ?_ ?_ ?_
 refine fT ?_
 refine ak 0 0
 refine kE ?_
 refine eT 5 5 (by decide +kernel) (by decide +kernel) ?_
 refine eT 6 6 (by decide +kernel) (by decide +kernel) ?_
 refine kD
 refine ai ?_ ?_
 refine bH ?_ ?_ ?_
 refine bf (fun X g=>dc g) ?_ ?_ (aT _)
 refine ak 5 5
 refine br
 refine ai ?_ ?_
 refine bg 3 3 (by decide +kernel) (by decide +kernel) ?_
 refine aI (fun X g=>bA) ?_ ?_
 refine ak 3 3
 refine ak 6 6
 refine az
 refine ai ?_ ?_
 refine bH ?_ ?_ ?_
 refine bf (fun X g=>dc g) ?_ ?_ (aT _)
 refine ak 5 5
 refine br
 refine ai ?_ ?_
 refine bg 4 4 (by decide +kernel) (by decide +kernel) ?_
 refine aI (fun X g=>bA) ?_ ?_
 refine ak 4 4
 refine ak 6 6
 refine az
 refine ai ?_ ?_
 refine bH ?_ ?_ ?_
 refine bf (fun X g=>sq) ?_ ?_ (aT _)
 refine ak 6 6
 refine aD
 refine ai ?_ ?_
 refine bH ?_ ?_ ?_
 refine jg ?_
 refine iu ?_ ?_
 refine bf (fun X g=>dN g) ?_ ?_ (aT _)
 refine ak 3 3
 refine br
 refine iN ?_
 refine bf (fun X g=>dN g) ?_ ?_ (aT _)
 refine ak 4 4
 refine br
 refine ai ?_ ?_
 refine eY ?_
 refine fk PySem.F.plainAttrs_list PySem.F.slot_list_extend PySem.F.type_list_extend (fun X g=>mE) rfl ?_ ?_
 refine ak 1 1
 refine ah ?_ ?_
 refine aY (i:=i4 a d) rfl ?_ (hd:=g4)
 refine ah ?_ ?_
 refine ak 2 2
 refine ah ?_ ?_
 refine ak 3 3
 refine ah ?_ ?_
 refine ak 4 4
 refine au
 refine au
 refine ai ?_ ?_
 refine bg 2 2 (by decide +kernel) (by decide +kernel) ?_
 refine aD
 refine ai ?_ ?_
 refine bg 3 3 (by decide +kernel) (by decide +kernel) ?_
 refine br
 refine ai ?_ ?_
 refine bg 4 4 (by decide +kernel) (by decide +kernel) ?_
 refine br
 refine az
 refine az
 refine ai ?_ ?_
 refine bg 2 2 (by decide +kernel) (by decide +kernel) ?_
 refine aI (fun X g=>bA) ?_ ?_
 refine ak 2 2
 refine ak 6 6
 refine az
 refine az
 refine az
 refine az
 refine az
 refine ai ?_ ?_
 refine eY ?_
 refine fk PySem.F.plainAttrs_list PySem.F.slot_list_extend PySem.F.type_list_extend (fun X g=>mE) rfl ?_ ?_
 refine ak 1 1
 refine ah ?_ ?_
 refine aY (i:=i4 a d) rfl ?_ (hd:=g4)
 refine ah ?_ ?_
 refine ak 2 2
 refine ah ?_ ?_
 refine ak 3 3
 refine ah ?_ ?_
 refine ak 4 4
 refine au
 refine au
 refine ai ?_ ?_
 refine bF ?_
 refine tX ?_ (h1:=nF)
 refine ak 1 1
 refine az
abbrev n4:List Str:=["kept","gone","new","parts"]
theorem s4:bS n4 ["kept","gone","new"] (av (top 5)):=⟨rfl,rfl,rfl,by decide +kernel,rfl,by decide +kernel,by decide +kernel⟩
set_option maxHeartbeats 0 in
theorem b4:eN (tb a d) n (av (top 5)) n4 true (List.range n4.length) f4.body (aE (top 5)):=by
 refine ai ?_ ?_
 refine bg 3 3 (by decide +kernel) (by decide +kernel) ?_
 refine eX ?_
 refine au
 refine ai ?_ ?_
 refine bH ?_ ?_ ?_
 refine bf (fun X g=>sq) ?_ ?_ (aT _)
 refine ak 0 0
 refine aD
 refine ai ?_ ?_
 refine eY ?_
 refine fk PySem.F.plainAttrs_list PySem.F.slot_list_append PySem.F.type_list_append (fun X g=>d7) rfl ?_ ?_
 refine ak 3 3
 refine ah ?_ ?_
 refine cQ ?_
 refine ah ?_ ?_
 refine br
 refine ah ?_ ?_
 refine ak 0 0
 refine au
 refine au
 refine az
 refine az
 refine ai ?_ ?_
 refine bH ?_ ?_ ?_
 refine bf (fun X g=>dN g) ?_ ?_ (aT _)
 refine ak 1 1
 refine br
 refine ai ?_ ?_
 refine eY ?_
 refine fk PySem.F.plainAttrs_list PySem.F.slot_list_append PySem.F.type_list_append (fun X g=>d7) rfl ?_ ?_
 refine ak 3 3
 refine ah ?_ ?_
 refine cQ ?_
 refine ah ?_ ?_
 refine br
 refine ah ?_ ?_
 refine ak 1 1
 refine au
 refine au
 refine az
 refine az
 refine ai ?_ ?_
 refine bH ?_ ?_ ?_
 refine bf (fun X g=>dN g) ?_ ?_ (aT _)
 refine ak 2 2
 refine br
 refine ai ?_ ?_
 refine eY ?_
 refine fk PySem.F.plainAttrs_list PySem.F.slot_list_append PySem.F.type_list_append (fun X g=>d7) rfl ?_ ?_
 refine ak 3 3
 refine ah ?_ ?_
 refine cQ ?_
 refine ah ?_ ?_
 refine br
 refine ah ?_ ?_
 refine ak 2 2
 refine au
 refine au
 refine az
 refine az
 refine ai ?_ ?_
 refine bF ?_
 refine ak 3 3
 refine az
abbrev n5:List Str:=["change","text","place","part"]
theorem s5:bS n5 ["change","text"] (av (top 11)):=⟨rfl,rfl,rfl,by decide +kernel,rfl,by decide +kernel,by decide +kernel⟩
set_option maxHeartbeats 0 in
theorem b5:eN (tb a d) n (av (top 11)) n5 true (List.range n5.length) f5.body (aE (top 11)):=by
 refine ai ?_ ?_
 refine bg 2 2 (by decide +kernel) (by decide +kernel) ?_
 refine aD
 refine ai ?_ ?_
 refine iy ?_ ?_ ?_
 refine fT ?_
 refine ak 0 0
 refine fU 3 3 (by decide +kernel) (by decide +kernel)
 refine ai ?_ ?_
 refine bH ?_ ?_ ?_
 refine jg ?_
 refine o5 ?_ ?_
 refine bf (fun X g=>dc g) ?_ ?_ (aT _)
 refine bD (fun X g=>bE) ?_ ?_
 refine ak 3 3
 refine aD
 refine br
 refine mz ?_
 refine bf (fun X g=>dN g) ?_ ?_ (aT _)
 refine gF (fun X g=>fF) ?_ ?_ ?_
 refine ak 1 1
 refine dP ?_
 refine ak 2 2
 refine dP ?_
 refine aI (fun X g=>bA) ?_ ?_
 refine ak 2 2
 refine aY (i:=i0 a d) rfl ?_ (hd:=g0)
 refine ah ?_ ?_
 refine ak 3 3
 refine au
 refine bD (fun X g=>bE) ?_ ?_
 refine ak 3 3
 refine aD
 refine ai ?_ ?_
 refine bF ?_
 refine jU
 refine az
 refine az
 refine ai ?_ ?_
 refine bH ?_ ?_ ?_
 refine bf (fun X g=>dN g) ?_ ?_ (aT _)
 refine bD (fun X g=>bE) ?_ ?_
 refine ak 3 3
 refine aD
 refine br
 refine ai ?_ ?_
 refine bg 2 2 (by decide +kernel) (by decide +kernel) ?_
 refine aI (fun X g=>bA) ?_ ?_
 refine ak 2 2
 refine aY (i:=i0 a d) rfl ?_ (hd:=g0)
 refine ah ?_ ?_
 refine ak 3 3
 refine au
 refine az
 refine az
 refine az
 refine ai ?_ ?_
 refine bF ?_
 refine mw (fun X g=>dc g) ?_ ?_ (aT _)
 refine ak 2 2
 refine cU (x:="len") (id:="len") (fun X g=>cR) ?_ (hb:=dG) (hv:=by decide +kernel)
 refine ah ?_ ?_
 refine ak 1 1
 refine au
 refine az
abbrev n6:List Str:=["change","text","pieces","place","word","what"]
theorem s6:bS n6 ["change","text"] (av (top 12)):=⟨rfl,rfl,rfl,by decide +kernel,rfl,by decide +kernel,by decide +kernel⟩
set_option maxHeartbeats 0 in
theorem b6:eN (tb a d) n (av (top 12)) n6 true (List.range n6.length) f6.body (aE (top 12)):=by
 refine ai ?_ ?_
 refine bH ?_ ?_ ?_
 refine r8 ?_
 refine iw ?_
 refine aY (i:=i5 a d) rfl ?_ (hd:=g5)
 refine ah ?_ ?_
 refine ak 0 0
 refine ah ?_ ?_
 refine ak 1 1
 refine au
 refine ai ?_ ?_
 refine tY
 refine az
 refine az
 refine ai ?_ ?_
 refine bg 2 2 (by decide +kernel) (by decide +kernel) ?_
 refine eX ?_
 refine au
 refine ai ?_ ?_
 refine bg 3 3 (by decide +kernel) (by decide +kernel) ?_
 refine aD
 refine ai ?_ ?_
 refine iy ?_ ?_ ?_
 refine fT ?_
 refine ak 0 0
 refine kE ?_
 refine eT 4 4 (by decide +kernel) (by decide +kernel) ?_
 refine eT 5 5 (by decide +kernel) (by decide +kernel) ?_
 refine kD
 refine ai ?_ ?_
 refine bH ?_ ?_ ?_
 refine bf (fun X g=>dc g) ?_ ?_ (aT _)
 refine ak 4 4
 refine br
 refine ai ?_ ?_
 refine eY ?_
 refine fk PySem.F.plainAttrs_list PySem.F.slot_list_append PySem.F.type_list_append (fun X g=>d7) rfl ?_ ?_
 refine ak 2 2
 refine ah ?_ ?_
 refine ak 5 5
 refine au
 refine az
 refine ai ?_ ?_
 refine bH ?_ ?_ ?_
 refine bf (fun X g=>dc g) ?_ ?_ (aT _)
 refine ak 4 4
 refine br
 refine ai ?_ ?_
 refine bg 3 3 (by decide +kernel) (by decide +kernel) ?_
 refine aI (fun X g=>bA) ?_ ?_
 refine ak 3 3
 refine cU (x:="len") (id:="len") (fun X g=>cR) ?_ (hb:=dG) (hv:=by decide +kernel)
 refine ah ?_ ?_
 refine ak 5 5
 refine au
 refine az
 refine ai ?_ ?_
 refine eY ?_
 refine fk PySem.F.plainAttrs_list PySem.F.slot_list_append PySem.F.type_list_append (fun X g=>d7) rfl ?_ ?_
 refine ak 2 2
 refine ah ?_ ?_
 refine gF (fun X g=>fF) ?_ ?_ ?_
 refine ak 1 1
 refine dP ?_
 refine ak 3 3
 refine dP ?_
 refine aI (fun X g=>bA) ?_ ?_
 refine ak 3 3
 refine ak 5 5
 refine au
 refine ai ?_ ?_
 refine bg 3 3 (by decide +kernel) (by decide +kernel) ?_
 refine aI (fun X g=>bA) ?_ ?_
 refine ak 3 3
 refine ak 5 5
 refine az
 refine az
 refine az
 refine ai ?_ ?_
 refine bF ?_
 refine fk PySem.F.plainAttrs_str PySem.F.slot_str_join PySem.F.type_str_join (fun X g=>we) rfl ?_ ?_
 refine br
 refine ah ?_ ?_
 refine ak 2 2
 refine au
 refine az
abbrev n7:List Str:=["change"]
theorem s7:bS n7 ["change"] (av (top 13)):=⟨rfl,rfl,rfl,by decide +kernel,rfl,by decide +kernel,by decide +kernel⟩
set_option maxHeartbeats 0 in
theorem b7:eN (tb a d) n (av (top 13)) n7 true (List.range n7.length) f7.body (aE (top 13)):=by
 refine ai ?_ ?_
 refine bF ?_
 refine aY (i:=i3 a d) rfl ?_ (hd:=g3)
 refine ah ?_ ?_
 refine tX ?_ (h1:=nF)
 refine jw (N':=["word","what"]) (m':=[1,2]) ?_ ?_ ?_ ?_ (namesOk.of (by decide +kernel)) (gI.of (by decide +kernel))
 refine fT ?_
 refine ak 0 0
 refine kE ?_
 refine eT 0 1 (by decide +kernel) (by decide +kernel) ?_
 refine eT 1 2 (by decide +kernel) (by decide +kernel) ?_
 refine kD
 refine sj
 refine cQ ?_
 refine ah ?_ ?_
 refine GR (x:="TURNED") (.head _) ?_
 refine ak 0 1
 refine ah ?_ ?_
 refine ak 1 2
 refine au
 refine au
 refine az
abbrev n8:List Str:=["many"]
theorem s8:bS n8 ["many"] (av (top 14)):=⟨rfl,rfl,rfl,by decide +kernel,rfl,by decide +kernel,by decide +kernel⟩
set_option maxHeartbeats 0 in
theorem b8:eN (tb a d) n (av (top 14)) n8 true (List.range n8.length) f8.body (aE (top 14)):=by
 refine ai ?_ ?_
 refine bF ?_
 refine aY (i:=i3 a d) rfl ?_ (hd:=g3)
 refine ah ?_ ?_
 refine cQ ?_
 refine ah ?_ ?_
 refine cQ ?_
 refine ah ?_ ?_
 refine br
 refine ah ?_ ?_
 refine ak 0 0
 refine au
 refine au
 refine au
 refine az
abbrev n9:List Str:=["one","other","ones","others","parts","many"]
theorem s9:bS n9 ["one","other"] (av (top 15)):=⟨rfl,rfl,rfl,by decide +kernel,rfl,by decide +kernel,by decide +kernel⟩
set_option maxHeartbeats 0 in
theorem b9:eN (tb a d) n (av (top 15)) n9 true (List.range n9.length) f9.body (aE (top 15)):=by
 refine ai ?_ ?_
 refine bH ?_ ?_ ?_
 refine bf (fun X g=>dN g) ?_ ?_ (aT _)
 refine aY (i:=i2 a d) rfl ?_ (hd:=g2)
 refine ah ?_ ?_
 refine ak 0 0
 refine au
 refine aY (i:=i1 a d) rfl ?_ (hd:=g1)
 refine ah ?_ ?_
 refine ak 1 1
 refine au
 refine ai ?_ ?_
 refine tY
 refine az
 refine az
 refine ai ?_ ?_
 refine bg 2 2 (by decide +kernel) (by decide +kernel) ?_
 refine wj ?_ (h1:=Bw) (hb:=qc)
 refine aY (i:=i3 a d) rfl ?_ (hd:=g3)
 refine ah ?_ ?_
 refine ak 0 0
 refine au
 refine ai ?_ ?_
 refine bg 3 3 (by decide +kernel) (by decide +kernel) ?_
 refine wj ?_ (h1:=Bw) (hb:=qc)
 refine aY (i:=i3 a d) rfl ?_ (hd:=g3)
 refine ah ?_ ?_
 refine ak 1 1
 refine au
 refine ai ?_ ?_
 refine bg 4 4 (by decide +kernel) (by decide +kernel) ?_
 refine eX ?_
 refine au
 refine ai ?_ ?_
 refine Jr ?_ ?_
 refine jg ?_
 refine iu ?_ ?_
 refine iw ?_
 refine ak 2 2
 refine iN ?_
 refine iw ?_
 refine ak 3 3
 refine ai ?_ ?_
 refine bH ?_ ?_ ?_
 refine jg ?_
 refine o5 ?_ ?_
 refine iw ?_
 refine ak 2 2
 refine mz ?_
 refine bf (fun X g=>dc g) ?_ ?_ (aT _)
 refine bD (fun X g=>bE) ?_ ?_
 refine bD (fun X g=>bE) ?_ ?_
 refine ak 2 2
 refine fS ?_
 refine aD
 refine aD
 refine br
 refine ai ?_ ?_
 refine eY ?_
 refine fk PySem.F.plainAttrs_list PySem.F.slot_list_append PySem.F.type_list_append (fun X g=>d7) rfl ?_ ?_
 refine ak 4 4
 refine ah ?_ ?_
 refine tH PySem.F.plainAttrs_list PySem.F.slot_list_pop PySem.F.type_list_pop (fun X g=>tW) rfl ?_
 refine ak 2 2
 refine au
 refine az
 refine ai ?_ ?_
 refine bH ?_ ?_ ?_
 refine jg ?_
 refine o5 ?_ ?_
 refine iw ?_
 refine ak 3 3
 refine mz ?_
 refine bf (fun X g=>dc g) ?_ ?_ (aT _)
 refine bD (fun X g=>bE) ?_ ?_
 refine bD (fun X g=>bE) ?_ ?_
 refine ak 3 3
 refine fS ?_
 refine aD
 refine aD
 refine br
 refine ai ?_ ?_
 refine eY ?_
 refine fk PySem.F.plainAttrs_list PySem.F.slot_list_append PySem.F.type_list_append (fun X g=>d7) rfl ?_ ?_
 refine ak 4 4
 refine ah ?_ ?_
 refine tH PySem.F.plainAttrs_list PySem.F.slot_list_pop PySem.F.type_list_pop (fun X g=>tW) rfl ?_
 refine ak 3 3
 refine au
 refine az
 refine ai ?_ ?_
 refine bg 5 5 (by decide +kernel) (by decide +kernel) ?_
 refine cU (x:="min") (id:="min") (fun X g=>JK g) ?_ (hb:=Px) (hv:=by decide +kernel)
 refine ah ?_ ?_
 refine aY (i:=i0 a d) rfl ?_ (hd:=g0)
 refine ah ?_ ?_
 refine bD (fun X g=>bE) ?_ ?_
 refine ak 2 2
 refine fS ?_
 refine aD
 refine au
 refine ah ?_ ?_
 refine aY (i:=i0 a d) rfl ?_ (hd:=g0)
 refine ah ?_ ?_
 refine bD (fun X g=>bE) ?_ ?_
 refine ak 3 3
 refine fS ?_
 refine aD
 refine au
 refine au
 refine ai ?_ ?_
 refine eY ?_
 refine fk PySem.F.plainAttrs_list PySem.F.slot_list_extend PySem.F.type_list_extend (fun X g=>mE) rfl ?_ ?_
 refine ak 4 4
 refine ah ?_ ?_
 refine aY (i:=Bo a d) rfl ?_ (hd:=VQ)
 refine ah ?_ ?_
 refine aY (i:=i12 a d) rfl ?_ (hd:=QC)
 refine ah ?_ ?_
 refine ak 2 2
 refine ah ?_ ?_
 refine ak 5 5
 refine au
 refine ah ?_ ?_
 refine aY (i:=i12 a d) rfl ?_ (hd:=QC)
 refine ah ?_ ?_
 refine ak 3 3
 refine ah ?_ ?_
 refine ak 5 5
 refine au
 refine au
 refine au
 refine az
 refine az
 refine az
 refine ai ?_ ?_
 refine bF ?_
 refine aY (i:=i3 a d) rfl ?_ (hd:=g3)
 refine ah ?_ ?_
 refine tX ?_ (h1:=nF)
 refine ak 4 4
 refine au
 refine az
abbrev LD:List Str:=["many","rows","whole","change"]
theorem P8:bS LD ["many","rows"] (av (top 16)):=⟨rfl,rfl,rfl,by decide +kernel,rfl,by decide +kernel,by decide +kernel⟩
set_option maxHeartbeats 0 in
theorem VX:eN (tb a d) n (av (top 16)) LD true (List.range LD.length) Ey.body (aE (top 16)):=by
 refine ai ?_ ?_
 refine bg 2 2 (by decide +kernel) (by decide +kernel) ?_
 refine aY (i:=i8 a d) rfl ?_ (hd:=g8)
 refine ah ?_ ?_
 refine ak 0 0
 refine au
 refine ai ?_ ?_
 refine iy ?_ ?_ ?_
 refine fT ?_
 refine ak 1 1
 refine fU 3 3 (by decide +kernel) (by decide +kernel)
 refine ai ?_ ?_
 refine bg 2 2 (by decide +kernel) (by decide +kernel) ?_
 refine aY (i:=i9 a d) rfl ?_ (hd:=g9)
 refine ah ?_ ?_
 refine ak 2 2
 refine ah ?_ ?_
 refine ak 3 3
 refine au
 refine az
 refine ai ?_ ?_
 refine bF ?_
 refine ak 2 2
 refine az
abbrev LF:List Str:=["left","gone_through"]
theorem Eu:bS LF ["left","gone_through"] (av (top 17)):=⟨rfl,rfl,rfl,by decide +kernel,rfl,by decide +kernel,by decide +kernel⟩
set_option maxHeartbeats 0 in
theorem VY:eN (tb a d) n (av (top 17)) LF true (List.range LF.length) Qt.body (aE (top 17)):=by
 refine ai ?_ ?_
 refine bH ?_ ?_ ?_
 refine bf (fun X g=>dc g) ?_ ?_ (aT _)
 refine bD (fun X g=>bE) ?_ ?_
 refine ak 1 1
 refine aD
 refine br
 refine ai ?_ ?_
 refine bF ?_
 refine eX ?_
 refine ah ?_ ?_
 refine ak 0 0
 refine au
 refine az
 refine az
 refine ai ?_ ?_
 refine bH ?_ ?_ ?_
 refine bf (fun X g=>dc g) ?_ ?_ (aT _)
 refine bD (fun X g=>bE) ?_ ?_
 refine ak 0 0
 refine aD
 refine br
 refine ai ?_ ?_
 refine bF ?_
 refine eX ?_
 refine ah ?_ ?_
 refine ak 1 1
 refine au
 refine az
 refine az
 refine ai ?_ ?_
 refine bH ?_ ?_ ?_
 refine bf (fun X g=>dN g) ?_ ?_ (aT _)
 refine bD (fun X g=>bE) ?_ ?_
 refine ak 0 0
 refine aD
 refine bD (fun X g=>bE) ?_ ?_
 refine ak 1 1
 refine aD
 refine ai ?_ ?_
 refine tY
 refine az
 refine az
 refine ai ?_ ?_
 refine bF ?_
 refine eX ?_
 refine au
 refine az
abbrev LG:List Str:=["parts","many","halves"]
theorem s12:bS LG ["parts","many"] (av (top 18)):=⟨rfl,rfl,rfl,by decide +kernel,rfl,by decide +kernel,by decide +kernel⟩
set_option maxHeartbeats 0 in
theorem VZ:eN (tb a d) n (av (top 18)) LG true (List.range LG.length) Qu.body (aE (top 18)):=by
 refine ai ?_ ?_
 refine bg 2 2 (by decide +kernel) (by decide +kernel) ?_
 refine aY (i:=Bp a d) rfl ?_ (hd:=VR)
 refine ah ?_ ?_
 refine tH PySem.F.plainAttrs_list PySem.F.slot_list_pop PySem.F.type_list_pop (fun X g=>tW) rfl ?_
 refine ak 0 0
 refine ah ?_ ?_
 refine ak 1 1
 refine au
 refine ai ?_ ?_
 refine bH ?_ ?_ ?_
 refine bf (fun X g=>sq) ?_ ?_ (aT _)
 refine aY (i:=i0 a d) rfl ?_ (hd:=g0)
 refine ah ?_ ?_
 refine bD (fun X g=>bE) ?_ ?_
 refine ak 2 2
 refine aD
 refine au
 refine aD
 refine ai ?_ ?_
 refine eY ?_
 refine fk PySem.F.plainAttrs_list PySem.F.slot_list_append PySem.F.type_list_append (fun X g=>d7) rfl ?_ ?_
 refine ak 0 0
 refine ah ?_ ?_
 refine bD (fun X g=>bE) ?_ ?_
 refine ak 2 2
 refine aD
 refine au
 refine az
 refine az
 refine ai ?_ ?_
 refine bF ?_
 refine bD (fun X g=>bE) ?_ ?_
 refine ak 2 2
 refine aD
 refine az
abbrev LH:List Str:=["part","many","word"]
theorem V0:bS LH ["part","many"] (av (top 19)):=⟨rfl,rfl,rfl,by decide +kernel,rfl,by decide +kernel,by decide +kernel⟩
set_option maxHeartbeats 0 in
theorem V1:eN (tb a d) n (av (top 19)) LH true (List.range LH.length) Qv.body (aE (top 19)):=by
 refine ai ?_ ?_
 refine bg 2 2 (by decide +kernel) (by decide +kernel) ?_
 refine bD (fun X g=>bE) ?_ ?_
 refine ak 0 0
 refine aD
 refine ai ?_ ?_
 refine bH ?_ ?_ ?_
 refine bf (fun X g=>dc g) ?_ ?_ (aT _)
 refine ak 2 2
 refine br
 refine ai ?_ ?_
 refine bF ?_
 refine cQ ?_
 refine ah ?_ ?_
 refine cQ ?_
 refine ah ?_ ?_
 refine ak 2 2
 refine ah ?_ ?_
 refine ak 1 1
 refine au
 refine ah ?_ ?_
 refine cQ ?_
 refine ah ?_ ?_
 refine ak 2 2
 refine ah ?_ ?_
 refine aI (fun X g=>zZ) ?_ ?_
 refine bD (fun X g=>bE) ?_ ?_
 refine ak 0 0
 refine aD
 refine ak 1 1
 refine au
 refine au
 refine az
 refine az
 refine ai ?_ ?_
 refine bF ?_
 refine cQ ?_
 refine ah ?_ ?_
 refine cQ ?_
 refine ah ?_ ?_
 refine ak 2 2
 refine ah ?_ ?_
 refine gF (fun X g=>fF) ?_ ?_ ?_
 refine bD (fun X g=>bE) ?_ ?_
 refine ak 0 0
 refine aD
 refine jV
 refine dP ?_
 refine ak 1 1
 refine au
 refine ah ?_ ?_
 refine cQ ?_
 refine ah ?_ ?_
 refine ak 2 2
 refine ah ?_ ?_
 refine gF (fun X g=>fF) ?_ ?_ ?_
 refine bD (fun X g=>bE) ?_ ?_
 refine ak 0 0
 refine aD
 refine dP ?_
 refine ak 1 1
 refine jV
 refine au
 refine au
 refine az
abbrev LI:List Str:=["_law_script","_law_k"]
theorem V2:bS LI ["_law_script","_law_k"] (av (top 21)):=⟨rfl,rfl,rfl,by decide +kernel,rfl,by decide +kernel,by decide +kernel⟩
set_option maxHeartbeats 0 in
theorem V3:eN (tb a d) n (av (top 21)) LI true (List.range LI.length) Qw.body (aE (top 21)):=by
 refine ai ?_ ?_
 refine bH ?_ ?_ ?_
 refine bf (fun X g=>dc g) ?_ ?_ (aT _)
 refine ak 0 0
 refine eX ?_
 refine au
 refine ai ?_ ?_
 refine bF ?_
 refine aI (fun X g=>eO) ?_ ?_
 refine aD
 refine ak 1 1
 refine az
 refine az
 refine ai ?_ ?_
 refine bF ?_
 refine aI (fun X g=>bA) ?_ ?_
 refine bD (fun X g=>bE) ?_ ?_
 refine ak 0 0
 refine aI (fun X g=>kF) ?_ ?_
 refine ak 1 1
 refine cU (x:="len") (id:="len") (fun X g=>cR) ?_ (hb:=dG) (hv:=by decide +kernel)
 refine ah ?_ ?_
 refine ak 0 0
 refine au
 refine aI (fun X g=>eO) ?_ ?_
 refine aD
 refine aI (fun X g=>ng) ?_ ?_
 refine ak 1 1
 refine cU (x:="len") (id:="len") (fun X g=>cR) ?_ (hb:=dG) (hv:=by decide +kernel)
 refine ah ?_ ?_
 refine ak 0 0
 refine au
 refine az
abbrev LJ:List Str:=["_law_script","_law_k","_law_many","_law_cell_here"]
theorem V4:bS LJ ["_law_script","_law_k","_law_many"] (av (top 22)):=⟨rfl,rfl,rfl,by decide +kernel,rfl,by decide +kernel,by decide +kernel⟩
set_option maxHeartbeats 0 in
theorem V5:eN (tb a d) n (av (top 22)) LJ true (List.range LJ.length) Qx.body (aE (top 22)):=by
 refine ai ?_ ?_
 refine bg 3 3 (by decide +kernel) (by decide +kernel) ?_
 refine aI (fun X g=>kF) ?_ ?_
 refine aI (fun X g=>bA) ?_ ?_
 refine aI (fun X g=>eO) ?_ ?_
 refine aI (fun X g=>kF) ?_ ?_
 refine aY (i:=Bq a d) rfl ?_ (hd:=VS)
 refine ah ?_ ?_
 refine ak 0 0
 refine ah ?_ ?_
 refine ak 1 1
 refine au
 refine aD
 refine aD
 refine aI (fun X g=>eO) ?_ ?_
 refine aD
 refine aI (fun X g=>bA) ?_ ?_
 refine ak 1 1
 refine aD
 refine aD
 refine ai ?_ ?_
 refine bg 3 3 (by decide +kernel) (by decide +kernel) ?_
 refine aI (fun X g=>kF) ?_ ?_
 refine aI (fun X g=>bA) ?_ ?_
 refine aI (fun X g=>eO) ?_ ?_
 refine ak 3 3
 refine ak 3 3
 refine aI (fun X g=>ng) ?_ ?_
 refine ak 3 3
 refine aD
 refine aD
 refine ai ?_ ?_
 refine bF ?_
 refine aI (fun X g=>kF) ?_ ?_
 refine aI (fun X g=>ng) ?_ ?_
 refine aI (fun X g=>kF) ?_ ?_
 refine aI (fun X g=>bA) ?_ ?_
 refine aI (fun X g=>eO) ?_ ?_
 refine ak 3 3
 refine ak 3 3
 refine aI (fun X g=>ng) ?_ ?_
 refine ak 3 3
 refine aD
 refine aD
 refine aD
 refine ak 2 2
 refine az
abbrev LK:List Str:=["_law_script","_law_at","_law_most"]
theorem V6:bS LK ["_law_script","_law_at","_law_most"] (av (top 23)):=⟨rfl,rfl,rfl,by decide +kernel,rfl,by decide +kernel,by decide +kernel⟩
set_option maxHeartbeats 0 in
theorem V7:eN (tb a d) n (av (top 23)) LK true (List.range LK.length) Qy.body (aE (top 23)):=by
 refine ai ?_ ?_
 refine bF ?_
 refine fk PySem.F.plainAttrs_str PySem.F.slot_str_join PySem.F.type_str_join (fun X g=>we) rfl ?_ ?_
 refine br
 refine ah ?_ ?_
 refine jw (N':=["_law_k","_law_script","_law_at"]) (m':=[3,0,1]) ?_ ?_ ?_ ?_ (namesOk.of (by decide +kernel)) (gI.of (by decide +kernel))
 refine m9 ?_ (hb:=nE)
 refine ah ?_ ?_
 refine aY (i:=m8 a d) rfl ?_ (hd:=vd)
 refine ah ?_ ?_
 refine ak 0 0
 refine ah ?_ ?_
 refine ak 1 1
 refine ah ?_ ?_
 refine aI (fun X g=>bA) ?_ ?_
 refine ak 2 2
 refine aD
 refine au
 refine au
 refine fU 0 3 (by decide +kernel) (by decide +kernel)
 refine sj
 refine bD (fun X g=>bE) ?_ ?_
 refine br
 refine aY (i:=m8 a d) rfl ?_ (hd:=vd)
 refine ah ?_ ?_
 refine ak 1 0
 refine ah ?_ ?_
 refine aI (fun X g=>bA) ?_ ?_
 refine aI (fun X g=>bA) ?_ ?_
 refine ak 2 1
 refine aD
 refine ak 0 3
 refine ah ?_ ?_
 refine aD
 refine au
 refine au
 refine az
abbrev LL:List Str:=["_law_script","_law_at","_law_text_here","_law_found","_law_k","_law_new","_law_is_kept"]
theorem V8:bS LL ["_law_script","_law_at","_law_text_here"] (av (top 24)):=⟨rfl,rfl,rfl,by decide +kernel,rfl,by decide +kernel,by decide +kernel⟩
set_option maxHeartbeats 0 in
theorem V9:eN (tb a d) n (av (top 24)) LL true (List.range LL.length) Qz.body (aE (top 24)):=by
 refine ai ?_ ?_
 refine bg 3 3 (by decide +kernel) (by decide +kernel) ?_
 refine cQ ?_
 refine au
 refine ai ?_ ?_
 refine iy ?_ ?_ ?_
 refine m9 ?_ (hb:=nE)
 refine ah ?_ ?_
 refine aI (fun X g=>bA) ?_ ?_
 refine cU (x:="len") (id:="len") (fun X g=>cR) ?_ (hb:=dG) (hv:=by decide +kernel)
 refine ah ?_ ?_
 refine ak 2 2
 refine au
 refine aD
 refine au
 refine fU 4 4 (by decide +kernel) (by decide +kernel)
 refine ai ?_ ?_
 refine bH ?_ ?_ ?_
 refine bf (fun X g=>dc g) ?_ ?_ (aT _)
 refine aY (i:=m8 a d) rfl ?_ (hd:=vd)
 refine ah ?_ ?_
 refine ak 0 0
 refine ah ?_ ?_
 refine aI (fun X g=>bA) ?_ ?_
 refine ak 1 1
 refine aI (fun X g=>eO) ?_ ?_
 refine aD
 refine ak 4 4
 refine ah ?_ ?_
 refine aD
 refine au
 refine aD
 refine ai ?_ ?_
 refine bg 5 5 (by decide +kernel) (by decide +kernel) ?_
 refine aI (fun X g=>eO) ?_ ?_
 refine bD (fun X g=>bE) ?_ ?_
 refine br
 refine aY (i:=m8 a d) rfl ?_ (hd:=vd)
 refine ah ?_ ?_
 refine ak 0 0
 refine ah ?_ ?_
 refine aI (fun X g=>bA) ?_ ?_
 refine aI (fun X g=>bA) ?_ ?_
 refine ak 1 1
 refine aI (fun X g=>eO) ?_ ?_
 refine aD
 refine ak 4 4
 refine aD
 refine ah ?_ ?_
 refine aD
 refine au
 refine aI (fun X g=>bA) ?_ ?_
 refine aD
 refine aY (i:=m8 a d) rfl ?_ (hd:=vd)
 refine ah ?_ ?_
 refine ak 0 0
 refine ah ?_ ?_
 refine aI (fun X g=>bA) ?_ ?_
 refine aI (fun X g=>bA) ?_ ?_
 refine ak 1 1
 refine aI (fun X g=>eO) ?_ ?_
 refine aD
 refine ak 4 4
 refine aD
 refine ah ?_ ?_
 refine aD
 refine au
 refine ai ?_ ?_
 refine bg 3 3 (by decide +kernel) (by decide +kernel) ?_
 refine aI (fun X g=>bA) ?_ ?_
 refine ak 3 3
 refine cQ ?_
 refine ah ?_ ?_
 refine cQ ?_
 refine ah ?_ ?_
 refine br
 refine ah ?_ ?_
 refine ak 5 5
 refine au
 refine au
 refine az
 refine az
 refine ai ?_ ?_
 refine bH ?_ ?_ ?_
 refine bf (fun X g=>EF) ?_ ?_ (aT _)
 refine ak 4 4
 refine cU (x:="len") (id:="len") (fun X g=>cR) ?_ (hb:=dG) (hv:=by decide +kernel)
 refine ah ?_ ?_
 refine ak 2 2
 refine au
 refine ai ?_ ?_
 refine bg 6 6 (by decide +kernel) (by decide +kernel) ?_
 refine mw (fun X g=>sq) ?_ ?_ (aT _)
 refine aY (i:=m8 a d) rfl ?_ (hd:=vd)
 refine ah ?_ ?_
 refine ak 0 0
 refine ah ?_ ?_
 refine aI (fun X g=>bA) ?_ ?_
 refine aI (fun X g=>bA) ?_ ?_
 refine ak 1 1
 refine aI (fun X g=>eO) ?_ ?_
 refine aD
 refine ak 4 4
 refine aD
 refine ah ?_ ?_
 refine aD
 refine au
 refine aD
 refine ai ?_ ?_
 refine bg 3 3 (by decide +kernel) (by decide +kernel) ?_
 refine aI (fun X g=>bA) ?_ ?_
 refine ak 3 3
 refine cQ ?_
 refine ah ?_ ?_
 refine zH ?_ ?_ ?_
 refine iw ?_
 refine ak 6 6
 refine cQ ?_
 refine ah ?_ ?_
 refine br
 refine ah ?_ ?_
 refine aD
 refine au
 refine cQ ?_
 refine ah ?_ ?_
 refine br
 refine ah ?_ ?_
 refine bD (fun X g=>bE) ?_ ?_
 refine ak 2 2
 refine ak 4 4
 refine au
 refine au
 refine az
 refine az
 refine az
 refine ai ?_ ?_
 refine bF ?_
 refine ak 3 3
 refine az
abbrev LM:List Str:=["_law_change_here","_law_text_here","_law_place","_law_found","_law_word","_law_what"]
theorem Wa:bS LM ["_law_change_here","_law_text_here"] (av (top 25)):=⟨rfl,rfl,rfl,by decide +kernel,rfl,by decide +kernel,by decide +kernel⟩
set_option maxHeartbeats 0 in
theorem Wb:eN (tb a d) n (av (top 25)) LM true (List.range LM.length) QA.body (aE (top 25)):=by
 refine ai ?_ ?_
 refine bg 2 2 (by decide +kernel) (by decide +kernel) ?_
 refine aD
 refine ai ?_ ?_
 refine bg 3 3 (by decide +kernel) (by decide +kernel) ?_
 refine br
 refine ai ?_ ?_
 refine iy ?_ ?_ ?_
 refine fT ?_
 refine ak 0 0
 refine kE ?_
 refine eT 4 4 (by decide +kernel) (by decide +kernel) ?_
 refine eT 5 5 (by decide +kernel) (by decide +kernel) ?_
 refine kD
 refine ai ?_ ?_
 refine bH ?_ ?_ ?_
 refine bf (fun X g=>dc g) ?_ ?_ (aT _)
 refine ak 4 4
 refine br
 refine ai ?_ ?_
 refine bg 3 3 (by decide +kernel) (by decide +kernel) ?_
 refine aI (fun X g=>bA) ?_ ?_
 refine ak 3 3
 refine ak 5 5
 refine az
 refine ai ?_ ?_
 refine bH ?_ ?_ ?_
 refine bf (fun X g=>dc g) ?_ ?_ (aT _)
 refine ak 4 4
 refine br
 refine ai ?_ ?_
 refine bH ?_ ?_ ?_
 refine bf (fun X g=>dN g) ?_ ?_ (aT _)
 refine gF (fun X g=>fF) ?_ ?_ ?_
 refine ak 1 1
 refine dP ?_
 refine ak 2 2
 refine dP ?_
 refine aI (fun X g=>bA) ?_ ?_
 refine ak 2 2
 refine cU (x:="len") (id:="len") (fun X g=>cR) ?_ (hb:=dG) (hv:=by decide +kernel)
 refine ah ?_ ?_
 refine ak 5 5
 refine au
 refine ak 5 5
 refine ai ?_ ?_
 refine bF ?_
 refine zF
 refine az
 refine az
 refine ai ?_ ?_
 refine bg 2 2 (by decide +kernel) (by decide +kernel) ?_
 refine aI (fun X g=>bA) ?_ ?_
 refine ak 2 2
 refine cU (x:="len") (id:="len") (fun X g=>cR) ?_ (hb:=dG) (hv:=by decide +kernel)
 refine ah ?_ ?_
 refine ak 5 5
 refine au
 refine az
 refine ai ?_ ?_
 refine bg 3 3 (by decide +kernel) (by decide +kernel) ?_
 refine aI (fun X g=>bA) ?_ ?_
 refine ak 3 3
 refine gF (fun X g=>fF) ?_ ?_ ?_
 refine ak 1 1
 refine dP ?_
 refine ak 2 2
 refine dP ?_
 refine aI (fun X g=>bA) ?_ ?_
 refine ak 2 2
 refine ak 5 5
 refine ai ?_ ?_
 refine bg 2 2 (by decide +kernel) (by decide +kernel) ?_
 refine aI (fun X g=>bA) ?_ ?_
 refine ak 2 2
 refine ak 5 5
 refine az
 refine az
 refine az
 refine ai ?_ ?_
 refine bF ?_
 refine zH ?_ ?_ ?_
 refine bf (fun X g=>dc g) ?_ ?_ (aT _)
 refine ak 2 2
 refine cU (x:="len") (id:="len") (fun X g=>cR) ?_ (hb:=dG) (hv:=by decide +kernel)
 refine ah ?_ ?_
 refine ak 1 1
 refine au
 refine ak 3 3
 refine zF
 refine az
abbrev LN:List Str:=["_law_change_here","_law_words","_law_one","_law_other"]
theorem Wc:bS LN ["_law_change_here"] (av (top 27)):=⟨rfl,rfl,rfl,by decide +kernel,rfl,by decide +kernel,by decide +kernel⟩
set_option maxHeartbeats 0 in
theorem Wd:eN (tb a d) n (av (top 27)) LN true (List.range LN.length) QB.body (aE (top 27)):=by
 refine ai ?_ ?_
 refine vV 1 1 (by decide +kernel) (by decide +kernel) (N':=["_law_part"]) (m':=[4]) ?_ ?_ ?_ ?_ (namesOk.of (by decide +kernel)) (gI.of (by decide +kernel))
 refine fT ?_
 refine ak 0 0
 refine fU 0 4 (by decide +kernel) (by decide +kernel)
 refine sj
 refine bD (fun X g=>bE) ?_ ?_
 refine ak 0 4
 refine aD
 refine ai ?_ ?_
 refine iy ?_ ?_ ?_
 refine JP ?_ ?_ (Qd:=Py)
 refine ak 1 1
 refine gF (fun X g=>fF) ?_ ?_ ?_
 refine ak 1 1
 refine dP ?_
 refine aD
 refine jV
 refine kE ?_
 refine eT 2 2 (by decide +kernel) (by decide +kernel) ?_
 refine eT 3 3 (by decide +kernel) (by decide +kernel) ?_
 refine kD
 refine ai ?_ ?_
 refine bH ?_ ?_ ?_
 refine jg ?_
 refine iu ?_ ?_
 refine bf (fun X g=>dc g) ?_ ?_ (aT _)
 refine ak 2 2
 refine ak 3 3
 refine iN ?_
 refine jg ?_
 refine o5 ?_ ?_
 refine bf (fun X g=>dc g) ?_ ?_ (aT _)
 refine ak 2 2
 refine br
 refine mz ?_
 refine bf (fun X g=>dc g) ?_ ?_ (aT _)
 refine ak 3 3
 refine br
 refine ai ?_ ?_
 refine bF ?_
 refine jU
 refine az
 refine az
 refine az
 refine ai ?_ ?_
 refine bF ?_
 refine Oc ?_ ?_
 refine JM (t:=.tuple) (T:="tuple") ?_ (by decide +kernel) (h1:=u9) (h2:=nF)
 refine ak 0 0
 refine zG ?_
 refine mw (fun X g=>dc g) ?_ ?_ (aT _)
 refine jw (N':=["_law_part"]) (m':=[5]) ?_ ?_ ?_ ?_ (namesOk.of (by decide +kernel)) (gI.of (by decide +kernel))
 refine fT ?_
 refine ak 0 0
 refine fU 0 5 (by decide +kernel) (by decide +kernel)
 refine tP ?_
 refine bf (fun X g=>Of g) ?_ ?_ (by with_unfolding_all rfl)
 refine bD (fun X g=>bE) ?_ ?_
 refine ak 0 5
 refine aD
 refine cQ ?_
 refine ah ?_ ?_
 refine br
 refine ah ?_ ?_
 refine aD
 refine au
 refine ak 0 5
 refine eX ?_
 refine au
 refine az
abbrev LO:List Str:=["_law_script","_law_first","_law_rows","_law_texts","_law_k","_law_text_here","_law_whole","_law_at","_law_start","_law_end","_law_back"]
theorem We:bS LO ["_law_script"] (av (top 28)):=⟨rfl,rfl,rfl,by decide +kernel,rfl,by decide +kernel,by decide +kernel⟩
set_option maxHeartbeats 0 in
theorem Wf:eN (tb a d) n (av (top 28)) LO true (List.range LO.length) Fb.body (aE (top 28)):=by
 refine ai ?_ ?_
 refine bg 1 1 (by decide +kernel) (by decide +kernel) ?_
 refine aY (i:=Br a d) rfl ?_ (hd:=VT)
 refine ah ?_ ?_
 refine ak 0 0
 refine ah ?_ ?_
 refine aD
 refine ah ?_ ?_
 refine aD
 refine au
 refine ai ?_ ?_
 refine bg 2 2 (by decide +kernel) (by decide +kernel) ?_
 refine eX ?_
 refine au
 refine ai ?_ ?_
 refine bg 3 3 (by decide +kernel) (by decide +kernel) ?_
 refine eX ?_
 refine ah ?_ ?_
 refine ak 1 1
 refine au
 refine ai ?_ ?_
 refine iy ?_ ?_ ?_
 refine m9 ?_ (hb:=nE)
 refine ah ?_ ?_
 refine aY (i:=m8 a d) rfl ?_ (hd:=vd)
 refine ah ?_ ?_
 refine ak 0 0
 refine ah ?_ ?_
 refine aD
 refine ah ?_ ?_
 refine aD
 refine au
 refine au
 refine fU 4 4 (by decide +kernel) (by decide +kernel)
 refine ai ?_ ?_
 refine bg 5 5 (by decide +kernel) (by decide +kernel) ?_
 refine bD (fun X g=>bE) ?_ ?_
 refine ak 3 3
 refine fS ?_
 refine aD
 refine ai ?_ ?_
 refine eY ?_
 refine fk PySem.F.plainAttrs_list PySem.F.slot_list_append PySem.F.type_list_append (fun X g=>d7) rfl ?_ ?_
 refine ak 2 2
 refine ah ?_ ?_
 refine aI (fun X g=>bA) ?_ ?_
 refine aY (i:=Bs a d) rfl ?_ (hd:=VU)
 refine ah ?_ ?_
 refine ak 0 0
 refine ah ?_ ?_
 refine aI (fun X g=>bA) ?_ ?_
 refine aD
 refine aI (fun X g=>eO) ?_ ?_
 refine aD
 refine ak 4 4
 refine ah ?_ ?_
 refine gF (fun X g=>fF) ?_ ?_ ?_
 refine ak 5 5
 refine jV
 refine dP ?_
 refine aD
 refine au
 refine aI (fun X g=>eO) ?_ ?_
 refine cQ ?_
 refine ah ?_ ?_
 refine cQ ?_
 refine ah ?_ ?_
 refine br
 refine ah ?_ ?_
 refine aD
 refine au
 refine au
 refine cU (x:="max") (id:="max") (fun X g=>JL g) ?_ (hb:=Pw) (hv:=by decide +kernel)
 refine ah ?_ ?_
 refine aD
 refine ah ?_ ?_
 refine aI (fun X g=>zZ) ?_ ?_
 refine cU (x:="len") (id:="len") (fun X g=>cR) ?_ (hb:=dG) (hv:=by decide +kernel)
 refine ah ?_ ?_
 refine ak 5 5
 refine au
 refine aD
 refine au
 refine au
 refine ai ?_ ?_
 refine eY ?_
 refine fk PySem.F.plainAttrs_list PySem.F.slot_list_append PySem.F.type_list_append (fun X g=>d7) rfl ?_ ?_
 refine ak 3 3
 refine ah ?_ ?_
 refine aY (i:=Bt a d) rfl ?_ (hd:=VV)
 refine ah ?_ ?_
 refine bD (fun X g=>bE) ?_ ?_
 refine ak 2 2
 refine fS ?_
 refine aD
 refine ah ?_ ?_
 refine ak 5 5
 refine au
 refine au
 refine az
 refine ai ?_ ?_
 refine bg 6 6 (by decide +kernel) (by decide +kernel) ?_
 refine aY (i:=m7 a d) rfl ?_ (hd:=vc)
 refine ah ?_ ?_
 refine cU (x:="len") (id:="len") (fun X g=>cR) ?_ (hb:=dG) (hv:=by decide +kernel)
 refine ah ?_ ?_
 refine ak 1 1
 refine au
 refine ah ?_ ?_
 refine ak 2 2
 refine au
 refine ai ?_ ?_
 refine bH ?_ ?_ ?_
 refine jg ?_
 refine iu ?_ ?_
 refine r8 ?_
 refine iw ?_
 refine aY (i:=Bu a d) rfl ?_ (hd:=VW)
 refine ah ?_ ?_
 refine ak 6 6
 refine au
 refine iu ?_ ?_
 refine bf (fun X g=>dN g) ?_ ?_ (aT _)
 refine aY (i:=i1 a d) rfl ?_ (hd:=g1)
 refine ah ?_ ?_
 refine ak 6 6
 refine au
 refine cU (x:="len") (id:="len") (fun X g=>cR) ?_ (hb:=dG) (hv:=by decide +kernel)
 refine ah ?_ ?_
 refine ak 1 1
 refine au
 refine iN ?_
 refine bf (fun X g=>dN g) ?_ ?_ (aT _)
 refine aY (i:=i2 a d) rfl ?_ (hd:=g2)
 refine ah ?_ ?_
 refine ak 6 6
 refine au
 refine cU (x:="len") (id:="len") (fun X g=>cR) ?_ (hb:=dG) (hv:=by decide +kernel)
 refine ah ?_ ?_
 refine bD (fun X g=>bE) ?_ ?_
 refine ak 3 3
 refine fS ?_
 refine aD
 refine au
 refine ai ?_ ?_
 refine bF ?_
 refine jU
 refine az
 refine az
 refine ai ?_ ?_
 refine iy ?_ ?_ ?_
 refine m9 ?_ (hb:=nE)
 refine ah ?_ ?_
 refine aI (fun X g=>bA) ?_ ?_
 refine cU (x:="len") (id:="len") (fun X g=>cR) ?_ (hb:=dG) (hv:=by decide +kernel)
 refine ah ?_ ?_
 refine ak 2 2
 refine au
 refine aD
 refine au
 refine fU 7 7 (by decide +kernel) (by decide +kernel)
 refine ai ?_ ?_
 refine bg 8 8 (by decide +kernel) (by decide +kernel) ?_
 refine aY (i:=m7 a d) rfl ?_ (hd:=vc)
 refine ah ?_ ?_
 refine cU (x:="len") (id:="len") (fun X g=>cR) ?_ (hb:=dG) (hv:=by decide +kernel)
 refine ah ?_ ?_
 refine ak 1 1
 refine au
 refine ah ?_ ?_
 refine gF (fun X g=>fF) ?_ ?_ ?_
 refine ak 2 2
 refine jV
 refine dP ?_
 refine ak 7 7
 refine au
 refine ai ?_ ?_
 refine bg 9 9 (by decide +kernel) (by decide +kernel) ?_
 refine aY (i:=m7 a d) rfl ?_ (hd:=vc)
 refine ah ?_ ?_
 refine cU (x:="len") (id:="len") (fun X g=>cR) ?_ (hb:=dG) (hv:=by decide +kernel)
 refine ah ?_ ?_
 refine bD (fun X g=>bE) ?_ ?_
 refine ak 3 3
 refine ak 7 7
 refine au
 refine ah ?_ ?_
 refine gF (fun X g=>fF) ?_ ?_ ?_
 refine ak 2 2
 refine dP ?_
 refine ak 7 7
 refine jV
 refine au
 refine ai ?_ ?_
 refine bH ?_ ?_ ?_
 refine jg ?_
 refine iu ?_ ?_
 refine bf (fun X g=>dN g) ?_ ?_ (aT _)
 refine aY (i:=i6 a d) rfl ?_ (hd:=g6)
 refine ah ?_ ?_
 refine ak 8 8
 refine ah ?_ ?_
 refine ak 1 1
 refine au
 refine bD (fun X g=>bE) ?_ ?_
 refine ak 3 3
 refine ak 7 7
 refine iu ?_ ?_
 refine bf (fun X g=>dN g) ?_ ?_ (aT _)
 refine aY (i:=i6 a d) rfl ?_ (hd:=g6)
 refine ah ?_ ?_
 refine ak 9 9
 refine ah ?_ ?_
 refine bD (fun X g=>bE) ?_ ?_
 refine ak 3 3
 refine ak 7 7
 refine au
 refine bD (fun X g=>bE) ?_ ?_
 refine ak 3 3
 refine fS ?_
 refine aD
 refine iN ?_
 refine bf (fun X g=>dN g) ?_ ?_ (aT _)
 refine aY (i:=i9 a d) rfl ?_ (hd:=g9)
 refine ah ?_ ?_
 refine ak 8 8
 refine ah ?_ ?_
 refine ak 9 9
 refine au
 refine ak 6 6
 refine ai ?_ ?_
 refine bF ?_
 refine jU
 refine az
 refine az
 refine ai ?_ ?_
 refine bH ?_ ?_ ?_
 refine jg ?_
 refine o5 ?_ ?_
 refine bf (fun X g=>EF) ?_ ?_ (aT _)
 refine ak 7 7
 refine cU (x:="len") (id:="len") (fun X g=>cR) ?_ (hb:=dG) (hv:=by decide +kernel)
 refine ah ?_ ?_
 refine ak 2 2
 refine au
 refine mz ?_
 refine bf (fun X g=>dN g) ?_ ?_ (aT _)
 refine aY (i:=i9 a d) rfl ?_ (hd:=g9)
 refine ah ?_ ?_
 refine ak 8 8
 refine ah ?_ ?_
 refine bD (fun X g=>bE) ?_ ?_
 refine ak 2 2
 refine ak 7 7
 refine au
 refine aY (i:=m7 a d) rfl ?_ (hd:=vc)
 refine ah ?_ ?_
 refine cU (x:="len") (id:="len") (fun X g=>cR) ?_ (hb:=dG) (hv:=by decide +kernel)
 refine ah ?_ ?_
 refine ak 1 1
 refine au
 refine ah ?_ ?_
 refine gF (fun X g=>fF) ?_ ?_ ?_
 refine ak 2 2
 refine jV
 refine dP ?_
 refine aI (fun X g=>bA) ?_ ?_
 refine ak 7 7
 refine aD
 refine au
 refine ai ?_ ?_
 refine bF ?_
 refine jU
 refine az
 refine az
 refine ai ?_ ?_
 refine bH ?_ ?_ ?_
 refine jg ?_
 refine iu ?_ ?_
 refine r8 ?_
 refine iw ?_
 refine aY (i:=i5 a d) rfl ?_ (hd:=g5)
 refine ah ?_ ?_
 refine ak 8 8
 refine ah ?_ ?_
 refine ak 1 1
 refine au
 refine iN ?_
 refine r8 ?_
 refine iw ?_
 refine aY (i:=i5 a d) rfl ?_ (hd:=g5)
 refine ah ?_ ?_
 refine ak 9 9
 refine ah ?_ ?_
 refine bD (fun X g=>bE) ?_ ?_
 refine ak 3 3
 refine ak 7 7
 refine au
 refine ai ?_ ?_
 refine bF ?_
 refine jU
 refine az
 refine az
 refine az
 refine ai ?_ ?_
 refine vV 10 10 (by decide +kernel) (by decide +kernel) (N':=["_law_change_here"]) (m':=[11]) ?_ ?_ ?_ ?_ (namesOk.of (by decide +kernel)) (gI.of (by decide +kernel))
 refine fT ?_
 refine Og ?_
 refine ak 2 2
 refine fU 0 11 (by decide +kernel) (by decide +kernel)
 refine sj
 refine aY (i:=i7 a d) rfl ?_ (hd:=g7)
 refine ah ?_ ?_
 refine ak 0 11
 refine au
 refine ai ?_ ?_
 refine bH ?_ ?_ ?_
 refine jg ?_
 refine iu ?_ ?_
 refine bf (fun X g=>dN g) ?_ ?_ (aT _)
 refine aY (i:=m7 a d) rfl ?_ (hd:=vc)
 refine ah ?_ ?_
 refine cU (x:="len") (id:="len") (fun X g=>cR) ?_ (hb:=dG) (hv:=by decide +kernel)
 refine ah ?_ ?_
 refine bD (fun X g=>bE) ?_ ?_
 refine ak 3 3
 refine fS ?_
 refine aD
 refine au
 refine ah ?_ ?_
 refine ak 10 10
 refine au
 refine aY (i:=i7 a d) rfl ?_ (hd:=g7)
 refine ah ?_ ?_
 refine ak 6 6
 refine au
 refine iN ?_
 refine bf (fun X g=>dN g) ?_ ?_ (aT _)
 refine aY (i:=i6 a d) rfl ?_ (hd:=g6)
 refine ah ?_ ?_
 refine aY (i:=i7 a d) rfl ?_ (hd:=g7)
 refine ah ?_ ?_
 refine ak 6 6
 refine au
 refine ah ?_ ?_
 refine bD (fun X g=>bE) ?_ ?_
 refine ak 3 3
 refine fS ?_
 refine aD
 refine au
 refine ak 1 1
 refine ai ?_ ?_
 refine bF ?_
 refine jU
 refine az
 refine az
 refine ai ?_ ?_
 refine bH ?_ ?_ ?_
 refine bf (fun X g=>dN g) ?_ ?_ (aT _)
 refine aY (i:=m7 a d) rfl ?_ (hd:=vc)
 refine ah ?_ ?_
 refine aD
 refine ah ?_ ?_
 refine aI (fun X g=>eO) ?_ ?_
 refine eX ?_
 refine ah ?_ ?_
 refine aY (i:=i8 a d) rfl ?_ (hd:=g8)
 refine ah ?_ ?_
 refine aD
 refine au
 refine au
 refine aD
 refine au
 refine aY (i:=i8 a d) rfl ?_ (hd:=g8)
 refine ah ?_ ?_
 refine aD
 refine au
 refine ai ?_ ?_
 refine bF ?_
 refine jU
 refine az
 refine az
 refine ai ?_ ?_
 refine bF ?_
 refine Jk ?_ ?_
 refine mw (fun X g=>dc g) ?_ ?_ (aT _)
 refine ak 2 2
 refine eX ?_
 refine au
 refine zG ?_
 refine mw (fun X g=>dc g) ?_ ?_ (aT _)
 refine aY (i:=m7 a d) rfl ?_ (hd:=vc)
 refine ah ?_ ?_
 refine cU (x:="len") (id:="len") (fun X g=>cR) ?_ (hb:=dG) (hv:=by decide +kernel)
 refine ah ?_ ?_
 refine ak 1 1
 refine au
 refine ah ?_ ?_
 refine gF (fun X g=>fF) ?_ ?_ ?_
 refine ak 2 2
 refine jV
 refine dP ?_
 refine aD
 refine au
 refine aY (i:=i3 a d) rfl ?_ (hd:=g3)
 refine ah ?_ ?_
 refine bD (fun X g=>bE) ?_ ?_
 refine ak 2 2
 refine aD
 refine au
 refine az
end
end Lw
set_option maxRecDepth 100000
namespace Lw
open PySem PySem.Spec PyProof.Rows L2 Sm
open Ev (D O Hh Fr R aU E Es Eo T S Ss Fl Src cF bY TY BI ME)
theorem lO {α:Type _}{l:List α}(h:l.length=1):∃ a,l=[a]:=by
 rcases l with _ | ⟨a,_ | ⟨b,l⟩⟩ <;> simp at h ⊢
theorem ko {α:Type _}{l:List α}(h:l.length=2):∃ a b,l=[a,b]:=by
 rcases l with _ | ⟨a,l⟩
 ·simp at h
 ·obtain ⟨b,rfl⟩:=lO (l:=l) (by simpa using h);exact ⟨a,b,rfl⟩
theorem za {α:Type _}{l:List α}(h:l.length=3):∃ a b c,l=[a,b,c]:=by
 rcases l with _ | ⟨a,l⟩
 ·simp at h
 ·obtain ⟨b,c,rfl⟩:=ko (l:=l) (by simpa using h);exact ⟨a,b,c,rfl⟩
theorem all_mk {l:PySem.W.OpenLaw}{w:World}{K:PySem.W.Frag}{h:Heap}{mg:Str→Option Value}{fa p0 p1 p2 p3 p4 p5 p6 p7 p8 p9 Fd Fe Ff Fg Fi Fj Fp Fq Ft Fv Bx:Addr}(X:K.In h) (G:h.Ns mainGlobals mg) (Wg:mg "law" = some (.ref fa))
  {Wh LP Wi QD Wj QE Wk QF Wl QG Wm QH Wn QI Wo QJ Wq QK Wr QL Ud LQ Ue LR Ug LS Uh LU Ui LV Uj LW Uk LX Ul LY Um LZ Uo L0 Up DQ:Option Addr} {Ws L3 sl2 Wt L4 Wu Wv Ww Wx L5 Uq Ur Us Ut Uu Uv Uw Ux Uy Uz UA:Array (Option Value)} {Wy L6 L7 L8 Fw Ma Wz QM QN QO Mb QS WA QT QU QV Mc QW WB QX QY QZ Me Q0 WC Q2 Q3 Q4 Mf Q5 WD Q6 Q7 Q8 Mg Q9 WE Ra Rb Rc Mh Rf WG Rg Rh Ri Mi Rj WH Rk Rl Rm Mj Rn WI Ro Rp Rq Ml Rt UB Mm Mn Mp DR Mq UC Mr Ms Mt DS Mu UD Mv Mw Mx DT My UE Mz MA MB DU MC UG MD MF MG DV MH UH MI MJ MK DX ML UI MM MN MO DY MP UJ MQ MR MS DZ MT UK MU MV MW D0 MX UL MY MZ M4 D3 M5 UM D4 D5 D6 zb D7:Value}
  (a0:PySem.W.nsIn K mainGlobals "size" = some (some (.ref p0))) (l0:K.lookup p0=some ⟨Wy,Wh,.func (PySem.W.fnOf "size" "size" (aL (top 1)) (aE (top 1)) (av (top 1)) .none L6 L7 L8 LP Fw Ma),Ws⟩) (c0:PySem.W.codeIn K Fw "size" = true) (k0:PySem.W.keepIn K (.ref p0)=true)
  (a1:PySem.W.nsIn K mainGlobals "before" = some (some (.ref p1))) (l1:K.lookup p1=some ⟨Wz,Wi,.func (PySem.W.fnOf "before" "before" (aL (top 2)) (aE (top 2)) (av (top 2)) .none QM QN QO QD Mb QS),L3⟩) (c1:PySem.W.codeIn K Mb "before" = true) (k1:PySem.W.keepIn K (.ref p1)=true)
  (a2:PySem.W.nsIn K mainGlobals "after" = some (some (.ref p2))) (l2:K.lookup p2=some ⟨WA,Wj,.func (PySem.W.fnOf "after" "after" (aL (top 3)) (aE (top 3)) (av (top 3)) .none QT QU QV QE Mc QW),sl2⟩) (c2:PySem.W.codeIn K Mc "after" = true) (k2:PySem.W.keepIn K (.ref p2)=true)
  (a3:PySem.W.nsIn K mainGlobals "form" = some (some (.ref p3))) (l3:K.lookup p3=some ⟨WB,Wk,.func (PySem.W.fnOf "form" "form" (aL (top 4)) (aE (top 4)) (av (top 4)) .none QX QY QZ QF Me Q0),Wt⟩) (c3:PySem.W.codeIn K Me "form" = true) (k3:PySem.W.keepIn K (.ref p3)=true)
  (a4:PySem.W.nsIn K mainGlobals "stretch" = some (some (.ref p4))) (l4:K.lookup p4=some ⟨WC,Wl,.func (PySem.W.fnOf "stretch" "stretch" (aL (top 5)) (aE (top 5)) (av (top 5)) .none Q2 Q3 Q4 QG Mf Q5),L4⟩) (c4:PySem.W.codeIn K Mf "stretch" = true) (k4:PySem.W.keepIn K (.ref p4)=true)
  (a5:PySem.W.nsIn K mainGlobals "fits" = some (some (.ref p5))) (l5:K.lookup p5=some ⟨WD,Wm,.func (PySem.W.fnOf "fits" "fits" (aL (top 11)) (aE (top 11)) (av (top 11)) .none Q6 Q7 Q8 QH Mg Q9),Wu⟩) (c5:PySem.W.codeIn K Mg "fits" = true) (k5:PySem.W.keepIn K (.ref p5)=true)
  (a6:PySem.W.nsIn K mainGlobals "done" = some (some (.ref p6))) (l6:K.lookup p6=some ⟨WE,Wn,.func (PySem.W.fnOf "done" "done" (aL (top 12)) (aE (top 12)) (av (top 12)) .none Ra Rb Rc QI Mh Rf),Wv⟩) (c6:PySem.W.codeIn K Mh "done" = true) (k6:PySem.W.keepIn K (.ref p6)=true)
  (a7:PySem.W.nsIn K mainGlobals "undone" = some (some (.ref p7))) (l7:K.lookup p7=some ⟨WG,Wo,.func (PySem.W.fnOf "undone" "undone" (aL (top 13)) (aE (top 13)) (av (top 13)) .none Rg Rh Ri QJ Mi Rj),Ww⟩) (c7:PySem.W.codeIn K Mi "undone" = true) (k7:PySem.W.keepIn K (.ref p7)=true)
  (a8:PySem.W.nsIn K mainGlobals "nothing" = some (some (.ref p8))) (l8:K.lookup p8=some ⟨WH,Wq,.func (PySem.W.fnOf "nothing" "nothing" (aL (top 14)) (aE (top 14)) (av (top 14)) .none Rk Rl Rm QK Mj Rn),Wx⟩) (c8:PySem.W.codeIn K Mj "nothing" = true) (k8:PySem.W.keepIn K (.ref p8)=true)
  (a9:PySem.W.nsIn K mainGlobals "then" = some (some (.ref p9))) (l9:K.lookup p9=some ⟨WI,Wr,.func (PySem.W.fnOf "then" "then" (aL (top 15)) (aE (top 15)) (av (top 15)) .none Ro Rp Rq QL Ml Rt),L5⟩) (c9:PySem.W.codeIn K Ml "then" = true) (k9:PySem.W.keepIn K (.ref p9)=true)
  (M6:PySem.W.nsIn K mainGlobals "all_then" = some (some (.ref Fd))) (M7:K.lookup Fd=some ⟨UB,Ud,.func (PySem.W.fnOf "all_then" "all_then" (aL (top 16)) (aE (top 16)) (av (top 16)) .none Mm Mn Mp LQ DR Mq),Uq⟩) (M8:PySem.W.codeIn K DR "all_then" = true) (Fx:PySem.W.keepIn K (.ref Fd)=true)
  (M9:PySem.W.nsIn K mainGlobals "met" = some (some (.ref Fe))) (Na:K.lookup Fe=some ⟨UC,Ue,.func (PySem.W.fnOf "met" "met" (aL (top 17)) (aE (top 17)) (av (top 17)) .none Mr Ms Mt LR DS Mu),Ur⟩) (Nb:PySem.W.codeIn K DS "met" = true) (Fy:PySem.W.keepIn K (.ref Fe)=true)
  (Nc:PySem.W.nsIn K mainGlobals "taken" = some (some (.ref Ff))) (Nd:K.lookup Ff=some ⟨UD,Ug,.func (PySem.W.fnOf "taken" "taken" (aL (top 18)) (aE (top 18)) (av (top 18)) .none Mv Mw Mx LS DT My),Us⟩) (c12:PySem.W.codeIn K DT "taken" = true) (Fz:PySem.W.keepIn K (.ref Ff)=true)
  (Nf:PySem.W.nsIn K mainGlobals "parted" = some (some (.ref Fg))) (Ng:K.lookup Fg=some ⟨UE,Uh,.func (PySem.W.fnOf "parted" "parted" (aL (top 19)) (aE (top 19)) (av (top 19)) .none Mz MA MB LU DU MC),Ut⟩) (Nh:PySem.W.codeIn K DU "parted" = true) (FA:PySem.W.keepIn K (.ref Fg)=true)
  (Ni:PySem.W.nsIn K mainGlobals "_law_cell" = some (some (.ref Fi))) (Nj:K.lookup Fi=some ⟨UG,Ui,.func (PySem.W.fnOf "_law_cell" "_law_cell" (aL (top 21)) (aE (top 21)) (av (top 21)) .none MD MF MG LV DV MH),Uu⟩) (Nk:PySem.W.codeIn K DV "_law_cell" = true) (FD:PySem.W.keepIn K (.ref Fi)=true)
  (Nl:PySem.W.nsIn K mainGlobals "_law_drawn" = some (some (.ref Fj))) (Nm:K.lookup Fj=some ⟨UH,Uj,.func (PySem.W.fnOf "_law_drawn" "_law_drawn" (aL (top 22)) (aE (top 22)) (av (top 22)) .none MI MJ MK LW DX ML),Uv⟩) (Nn:PySem.W.codeIn K DX "_law_drawn" = true) (FE:PySem.W.keepIn K (.ref Fj)=true)
  (Np:PySem.W.nsIn K mainGlobals "_law_text" = some (some (.ref Fp))) (Nq:K.lookup Fp=some ⟨UI,Uk,.func (PySem.W.fnOf "_law_text" "_law_text" (aL (top 23)) (aE (top 23)) (av (top 23)) .none MM MN MO LX DY MP),Uw⟩) (Nr:PySem.W.codeIn K DY "_law_text" = true) (FF:PySem.W.keepIn K (.ref Fp)=true)
  (Nt:PySem.W.nsIn K mainGlobals "_law_change" = some (some (.ref Fq))) (Nu:K.lookup Fq=some ⟨UJ,Ul,.func (PySem.W.fnOf "_law_change" "_law_change" (aL (top 24)) (aE (top 24)) (av (top 24)) .none MQ MR MS LY DZ MT),Ux⟩) (Nv:PySem.W.codeIn K DZ "_law_change" = true) (FG:PySem.W.keepIn K (.ref Fq)=true)
  (Nx:PySem.W.nsIn K mainGlobals "_law_made" = some (some (.ref Ft))) (Ny:K.lookup Ft=some ⟨UK,Um,.func (PySem.W.fnOf "_law_made" "_law_made" (aL (top 25)) (aE (top 25)) (av (top 25)) .none MU MV MW LZ D0 MX),Uy⟩) (Nz:PySem.W.codeIn K D0 "_law_made" = true) (FH:PySem.W.keepIn K (.ref Ft)=true)
  (NB:PySem.W.nsIn K mainGlobals "_law_is_form" = some (some (.ref Fv))) (NC:K.lookup Fv=some ⟨UL,Uo,.func (PySem.W.fnOf "_law_is_form" "_law_is_form" (aL (top 27)) (aE (top 27)) (av (top 27)) .none MY MZ M4 L0 D3 M5),Uz⟩) (ND:PySem.W.codeIn K D3 "_law_is_form" = true) (FJ:PySem.W.keepIn K (.ref Fv)=true)
  (FL:PySem.W.nsIn K mainGlobals "law" = some (some (.ref Bx))) (NF:K.lookup Bx=some ⟨UM,Up,.func (PySem.W.fnOf "law" "law" (aL (top 28)) (aE (top 28)) (av (top 28)) .none D4 D5 D6 DQ zb D7),UA⟩) (NG:PySem.W.codeIn K zb "law" = true) (FO:PySem.W.keepIn K (.ref Bx)=true)
  (z0:PySem.W.nsIn K mainGlobals "isinstance" = some none)
  (z1:PySem.W.nsIn K mainGlobals "len" = some none)
  (z2:PySem.W.nsIn K mainGlobals "list" = some none)
  (z3:PySem.W.nsIn K mainGlobals "max" = some none)
  (z4:PySem.W.nsIn K mainGlobals "min" = some none)
  (z5:PySem.W.nsIn K mainGlobals "range" = some none)
  (z6:PySem.W.nsIn K mainGlobals "reversed" = some none)
  (z7:PySem.W.nsIn K mainGlobals "sum" = some none)
  (z8:PySem.W.nsIn K mainGlobals "tuple" = some none)
  (z9:PySem.W.nsIn K mainGlobals "zip" = some none)
  {t0:Tok} (q0:PySem.W.nsIn K mainGlobals "__name__" = some (some (.str "law_pastways_k14_whole_rows" t0)))
  {FP:Addr} (NH:PySem.W.nsIn K mainGlobals "TURNED" = some (some (.ref FP))) (NI:PyProof.Rows.KTD.tabLook PyProof.Rows.KTD.flatLooks (fun b=>K.lookup b) FP [(aX [107,101,101,112],PyData.str (aX [107,101,101,112])),(aX [112,117,116],PyData.str (aX [100,114,111,112])),(aX [100,114,111,112],PyData.str (aX [112,117,116]))]=true) (NJ:PyProof.Rows.KTD.hashesOf (fun b=>K.lookup b) FP=([(aX [107,101,101,112],PyData.str (aX [107,101,101,112])),(aX [112,117,116],PyData.str (aX [100,114,111,112])),(aX [100,114,111,112],PyData.str (aX [112,117,116]))]:List (Str×PyData)).map fun p=>(PySem.strKind l.prog w).hash p.1)
  : ∃ fd:FuncData,(∀ (s:Shared) (v:Value),BindsTo s fd ⟨[v],[]⟩ [("_law_script",v)])∧∀ base:Heap,K.In base→base.Ns mainGlobals mg→iM l.prog w K mg base mj 60 fa fd ["_law_script"] (nK K prog 100000 60 20):=by
 have e:=Wg.symm.trans (PySem.W.mg_of X G FL)
 have e2:Bx=fa:=by injection e with e;injection e with e;exact e.symm
 subst e2
 have F0:=cO (st:=top 1) l0 c0 k0
 have B0:=F0.binds (ps:=["part"]) fun _ _ _ _ _ _ us hl=>by obtain ⟨_,rfl⟩:=lO hl;rfl
 have F1:=cO (st:=top 2) l1 c1 k1
 have B1:=F1.binds (ps:=["change"]) fun _ _ _ _ _ _ us hl=>by obtain ⟨_,rfl⟩:=lO hl;rfl
 have F2:=cO (st:=top 3) l2 c2 k2
 have B2:=F2.binds (ps:=["change"]) fun _ _ _ _ _ _ us hl=>by obtain ⟨_,rfl⟩:=lO hl;rfl
 have F3:=cO (st:=top 4) l3 c3 k3
 have B3:=F3.binds (ps:=["change"]) fun _ _ _ _ _ _ us hl=>by obtain ⟨_,rfl⟩:=lO hl;rfl
 have F4:=cO (st:=top 5) l4 c4 k4
 have B4:=F4.binds (ps:=["kept","gone","new"]) fun _ _ _ _ _ _ us hl=>by obtain ⟨_,_,_,rfl⟩:=za hl;rfl
 have F5:=cO (st:=top 11) l5 c5 k5
 have B5:=F5.binds (ps:=["change","text"]) fun _ _ _ _ _ _ us hl=>by obtain ⟨_,_,rfl⟩:=ko hl;rfl
 have F6:=cO (st:=top 12) l6 c6 k6
 have B6:=F6.binds (ps:=["change","text"]) fun _ _ _ _ _ _ us hl=>by obtain ⟨_,_,rfl⟩:=ko hl;rfl
 have F7:=cO (st:=top 13) l7 c7 k7
 have B7:=F7.binds (ps:=["change"]) fun _ _ _ _ _ _ us hl=>by obtain ⟨_,rfl⟩:=lO hl;rfl
 have F8:=cO (st:=top 14) l8 c8 k8
 have B8:=F8.binds (ps:=["many"]) fun _ _ _ _ _ _ us hl=>by obtain ⟨_,rfl⟩:=lO hl;rfl
 have F9:=cO (st:=top 15) l9 c9 k9
 have B9:=F9.binds (ps:=["one","other"]) fun _ _ _ _ _ _ us hl=>by obtain ⟨_,_,rfl⟩:=ko hl;rfl
 have Ru:=cO (st:=top 16) M7 M8 Fx
 have WJ:=Ru.binds (ps:=["many","rows"]) fun _ _ _ _ _ _ us hl=>by obtain ⟨_,_,rfl⟩:=ko hl;rfl
 have Rw:=cO (st:=top 17) Na Nb Fy
 have WK:=Rw.binds (ps:=["left","gone_through"]) fun _ _ _ _ _ _ us hl=>by obtain ⟨_,_,rfl⟩:=ko hl;rfl
 have Rx:=cO (st:=top 18) Nd c12 Fz
 have WL:=Rx.binds (ps:=["parts","many"]) fun _ _ _ _ _ _ us hl=>by obtain ⟨_,_,rfl⟩:=ko hl;rfl
 have Ry:=cO (st:=top 19) Ng Nh FA
 have WM:=Ry.binds (ps:=["part","many"]) fun _ _ _ _ _ _ us hl=>by obtain ⟨_,_,rfl⟩:=ko hl;rfl
 have Rz:=cO (st:=top 21) Nj Nk FD
 have WN:=Rz.binds (ps:=["_law_script","_law_k"]) fun _ _ _ _ _ _ us hl=>by obtain ⟨_,_,rfl⟩:=ko hl;rfl
 have RB:=cO (st:=top 22) Nm Nn FE
 have WO:=RB.binds (ps:=["_law_script","_law_k","_law_many"]) fun _ _ _ _ _ _ us hl=>by obtain ⟨_,_,_,rfl⟩:=za hl;rfl
 have RC:=cO (st:=top 23) Nq Nr FF
 have WQ:=RC.binds (ps:=["_law_script","_law_at","_law_most"]) fun _ _ _ _ _ _ us hl=>by obtain ⟨_,_,_,rfl⟩:=za hl;rfl
 have RD:=cO (st:=top 24) Nu Nv FG
 have WR:=RD.binds (ps:=["_law_script","_law_at","_law_text_here"]) fun _ _ _ _ _ _ us hl=>by obtain ⟨_,_,_,rfl⟩:=za hl;rfl
 have RE:=cO (st:=top 25) Ny Nz FH
 have WS:=RE.binds (ps:=["_law_change_here","_law_text_here"]) fun _ _ _ _ _ _ us hl=>by obtain ⟨_,_,rfl⟩:=ko hl;rfl
 have RG:=cO (st:=top 27) NC ND FJ
 have WT:=RG.binds (ps:=["_law_change_here"]) fun _ _ _ _ _ _ us hl=>by obtain ⟨_,rfl⟩:=lO hl;rfl
 have RH:=cO (st:=top 28) NF NG FO
 have WU:=RH.binds (ps:=["_law_script"]) fun _ _ _ _ _ _ us hl=>by obtain ⟨_,rfl⟩:=lO hl;rfl
 let aa:Nat→Addr:=fun k=>[p0,p1,p2,p3,p4,p5,p6,p7,p8,p9,Fd,Fe,Ff,Fg,Fi,Fj,Fp,Fq,Ft,Fv,Bx].getD k p0
 let dd:Nat→FuncData:=fun k=>[(PySem.W.fnOf "size" "size" (aL (top 1)) (aE (top 1)) (av (top 1)) .none L6 L7 L8 LP Fw Ma),(PySem.W.fnOf "before" "before" (aL (top 2)) (aE (top 2)) (av (top 2)) .none QM QN QO QD Mb QS),(PySem.W.fnOf "after" "after" (aL (top 3)) (aE (top 3)) (av (top 3)) .none QT QU QV QE Mc QW),(PySem.W.fnOf "form" "form" (aL (top 4)) (aE (top 4)) (av (top 4)) .none QX QY QZ QF Me Q0),(PySem.W.fnOf "stretch" "stretch" (aL (top 5)) (aE (top 5)) (av (top 5)) .none Q2 Q3 Q4 QG Mf Q5),(PySem.W.fnOf "fits" "fits" (aL (top 11)) (aE (top 11)) (av (top 11)) .none Q6 Q7 Q8 QH Mg Q9),(PySem.W.fnOf "done" "done" (aL (top 12)) (aE (top 12)) (av (top 12)) .none Ra Rb Rc QI Mh Rf),(PySem.W.fnOf "undone" "undone" (aL (top 13)) (aE (top 13)) (av (top 13)) .none Rg Rh Ri QJ Mi Rj),(PySem.W.fnOf "nothing" "nothing" (aL (top 14)) (aE (top 14)) (av (top 14)) .none Rk Rl Rm QK Mj Rn),(PySem.W.fnOf "then" "then" (aL (top 15)) (aE (top 15)) (av (top 15)) .none Ro Rp Rq QL Ml Rt),(PySem.W.fnOf "all_then" "all_then" (aL (top 16)) (aE (top 16)) (av (top 16)) .none Mm Mn Mp LQ DR Mq),(PySem.W.fnOf "met" "met" (aL (top 17)) (aE (top 17)) (av (top 17)) .none Mr Ms Mt LR DS Mu),(PySem.W.fnOf "taken" "taken" (aL (top 18)) (aE (top 18)) (av (top 18)) .none Mv Mw Mx LS DT My),(PySem.W.fnOf "parted" "parted" (aL (top 19)) (aE (top 19)) (av (top 19)) .none Mz MA MB LU DU MC),(PySem.W.fnOf "_law_cell" "_law_cell" (aL (top 21)) (aE (top 21)) (av (top 21)) .none MD MF MG LV DV MH),(PySem.W.fnOf "_law_drawn" "_law_drawn" (aL (top 22)) (aE (top 22)) (av (top 22)) .none MI MJ MK LW DX ML),(PySem.W.fnOf "_law_text" "_law_text" (aL (top 23)) (aE (top 23)) (av (top 23)) .none MM MN MO LX DY MP),(PySem.W.fnOf "_law_change" "_law_change" (aL (top 24)) (aE (top 24)) (av (top 24)) .none MQ MR MS LY DZ MT),(PySem.W.fnOf "_law_made" "_law_made" (aL (top 25)) (aE (top 25)) (av (top 25)) .none MU MV MW LZ D0 MX),(PySem.W.fnOf "_law_is_form" "_law_is_form" (aL (top 27)) (aE (top 27)) (av (top 27)) .none MY MZ M4 L0 D3 M5),(PySem.W.fnOf "law" "law" (aL (top 28)) (aE (top 28)) (av (top 28)) .none D4 D5 D6 DQ zb D7)].getD k (PySem.W.fnOf "size" "size" (aL (top 1)) (aE (top 1)) (av (top 1)) .none L6 L7 L8 LP Fw Ma)
 have T:Top l.prog w K mg (tb aa dd):=by
  refine ⟨fun f i hi=>?_,?_,?_,?_⟩
  ·match f,hi with
   | 0,hi=>obtain rfl:i0 aa dd=i:=Option.some.inj hi;exact ⟨PySem.W.mg_of X G a0,k0,B0⟩
   | 1,hi=>obtain rfl:i1 aa dd=i:=Option.some.inj hi;exact ⟨PySem.W.mg_of X G a1,k1,B1⟩
   | 2,hi=>obtain rfl:i2 aa dd=i:=Option.some.inj hi;exact ⟨PySem.W.mg_of X G a2,k2,B2⟩
   | 3,hi=>obtain rfl:i3 aa dd=i:=Option.some.inj hi;exact ⟨PySem.W.mg_of X G a3,k3,B3⟩
   | 4,hi=>obtain rfl:i4 aa dd=i:=Option.some.inj hi;exact ⟨PySem.W.mg_of X G a4,k4,B4⟩
   | 5,hi=>obtain rfl:i5 aa dd=i:=Option.some.inj hi;exact ⟨PySem.W.mg_of X G a5,k5,B5⟩
   | 6,hi=>obtain rfl:i6 aa dd=i:=Option.some.inj hi;exact ⟨PySem.W.mg_of X G a6,k6,B6⟩
   | 7,hi=>obtain rfl:i7 aa dd=i:=Option.some.inj hi;exact ⟨PySem.W.mg_of X G a7,k7,B7⟩
   | 8,hi=>obtain rfl:i8 aa dd=i:=Option.some.inj hi;exact ⟨PySem.W.mg_of X G a8,k8,B8⟩
   | 9,hi=>obtain rfl:i9 aa dd=i:=Option.some.inj hi;exact ⟨PySem.W.mg_of X G a9,k9,B9⟩
   | 10,hi=>obtain rfl:m7 aa dd=i:=Option.some.inj hi;exact ⟨PySem.W.mg_of X G M6,Fx,WJ⟩
   | 11,hi=>obtain rfl:Bo aa dd=i:=Option.some.inj hi;exact ⟨PySem.W.mg_of X G M9,Fy,WK⟩
   | 12,hi=>obtain rfl:i12 aa dd=i:=Option.some.inj hi;exact ⟨PySem.W.mg_of X G Nc,Fz,WL⟩
   | 13,hi=>obtain rfl:Bp aa dd=i:=Option.some.inj hi;exact ⟨PySem.W.mg_of X G Nf,FA,WM⟩
   | 14,hi=>obtain rfl:Bq aa dd=i:=Option.some.inj hi;exact ⟨PySem.W.mg_of X G Ni,FD,WN⟩
   | 15,hi=>obtain rfl:m8 aa dd=i:=Option.some.inj hi;exact ⟨PySem.W.mg_of X G Nl,FE,WO⟩
   | 16,hi=>obtain rfl:Br aa dd=i:=Option.some.inj hi;exact ⟨PySem.W.mg_of X G Np,FF,WQ⟩
   | 17,hi=>obtain rfl:Bs aa dd=i:=Option.some.inj hi;exact ⟨PySem.W.mg_of X G Nt,FG,WR⟩
   | 18,hi=>obtain rfl:Bt aa dd=i:=Option.some.inj hi;exact ⟨PySem.W.mg_of X G Nx,FH,WS⟩
   | 19,hi=>obtain rfl:Bu aa dd=i:=Option.some.inj hi;exact ⟨PySem.W.mg_of X G NB,FJ,WT⟩
   | 20,hi=>obtain rfl:Bv aa dd=i:=Option.some.inj hi;exact ⟨PySem.W.mg_of X G FL,FO,WU⟩
   | j+21,hi=>exact nomatch (show (none:Option FI)=some i from hi)
  ·exact (show ∀ x∈lT,mg x=none from List.forall_mem_cons.mpr ⟨PySem.W.mg_none_of X G z0,List.forall_mem_cons.mpr ⟨PySem.W.mg_none_of X G z1,List.forall_mem_cons.mpr ⟨PySem.W.mg_none_of X G z2,List.forall_mem_cons.mpr ⟨PySem.W.mg_none_of X G z3,List.forall_mem_cons.mpr ⟨PySem.W.mg_none_of X G z4,List.forall_mem_cons.mpr ⟨PySem.W.mg_none_of X G z5,List.forall_mem_cons.mpr ⟨PySem.W.mg_none_of X G z6,List.forall_mem_cons.mpr ⟨PySem.W.mg_none_of X G z7,List.forall_mem_cons.mpr ⟨PySem.W.mg_none_of X G z8,List.forall_mem_cons.mpr ⟨PySem.W.mg_none_of X G z9,fun _ h=>nomatch h⟩⟩⟩⟩⟩⟩⟩⟩⟩⟩)
  ·exact fun x d hx=>(show ∀ y∈(tb aa dd).cs,∃ v u,mg y.1=some u∧RelV v u∧tG y.2 v from List.forall_mem_cons.mpr ⟨⟨.str "law_pastways_k14_whole_rows",_,PySem.W.mg_of X G q0,⟨_,rfl⟩,⟨by decide +kernel,by decide⟩⟩,fun _ h=>nomatch h⟩) (x,d) hx
  ·exact fun x d hx=>(show ∀ y∈(tb aa dd).dk,∃ a,mg y.1=some (.ref a)∧∀ h:Heap,K.In h→StrTab l.prog w h a (tabOf y.2) from List.forall_mem_cons.mpr ⟨⟨FP,PySem.W.mg_of X G NH,fun h hK=>PySem.W.kt_tab_in l.prog w hK NI (by decide +kernel) NJ⟩,fun _ h=>nomatch h⟩) (x,d) hx
 refine ⟨PySem.W.fnOf "law" "law" (aL (top 28)) (aE (top 28)) (av (top 28)) .none D4 D5 D6 DQ zb D7,fun s v=>.of_eq rfl,fun base _ _=>?_⟩
 refine Aj (P:=l.prog) (w:=w) (base:=base) T (fun n A0 f i hi=>?_) 60 20 (Bv aa dd) rfl
 match f,hi with
 | 0,hi=>obtain rfl:i0 aa dd=i:=Option.some.inj hi;exact dF (i:=i0 aa dd) T A0 F0 s0 rfl rfl b0
 | 1,hi=>obtain rfl:i1 aa dd=i:=Option.some.inj hi;exact dF (i:=i1 aa dd) T A0 F1 s1 rfl rfl b1
 | 2,hi=>obtain rfl:i2 aa dd=i:=Option.some.inj hi;exact dF (i:=i2 aa dd) T A0 F2 s2 rfl rfl b2
 | 3,hi=>obtain rfl:i3 aa dd=i:=Option.some.inj hi;exact dF (i:=i3 aa dd) T A0 F3 s3 rfl rfl b3
 | 4,hi=>obtain rfl:i4 aa dd=i:=Option.some.inj hi;exact dF (i:=i4 aa dd) T A0 F4 s4 rfl rfl b4
 | 5,hi=>obtain rfl:i5 aa dd=i:=Option.some.inj hi;exact dF (i:=i5 aa dd) T A0 F5 s5 rfl rfl b5
 | 6,hi=>obtain rfl:i6 aa dd=i:=Option.some.inj hi;exact dF (i:=i6 aa dd) T A0 F6 s6 rfl rfl b6
 | 7,hi=>obtain rfl:i7 aa dd=i:=Option.some.inj hi;exact dF (i:=i7 aa dd) T A0 F7 s7 rfl rfl b7
 | 8,hi=>obtain rfl:i8 aa dd=i:=Option.some.inj hi;exact dF (i:=i8 aa dd) T A0 F8 s8 rfl rfl b8
 | 9,hi=>obtain rfl:i9 aa dd=i:=Option.some.inj hi;exact dF (i:=i9 aa dd) T A0 F9 s9 rfl rfl b9
 | 10,hi=>obtain rfl:m7 aa dd=i:=Option.some.inj hi;exact dF (i:=m7 aa dd) T A0 Ru P8 rfl rfl VX
 | 11,hi=>obtain rfl:Bo aa dd=i:=Option.some.inj hi;exact dF (i:=Bo aa dd) T A0 Rw Eu rfl rfl VY
 | 12,hi=>obtain rfl:i12 aa dd=i:=Option.some.inj hi;exact dF (i:=i12 aa dd) T A0 Rx s12 rfl rfl VZ
 | 13,hi=>obtain rfl:Bp aa dd=i:=Option.some.inj hi;exact dF (i:=Bp aa dd) T A0 Ry V0 rfl rfl V1
 | 14,hi=>obtain rfl:Bq aa dd=i:=Option.some.inj hi;exact dF (i:=Bq aa dd) T A0 Rz V2 rfl rfl V3
 | 15,hi=>obtain rfl:m8 aa dd=i:=Option.some.inj hi;exact dF (i:=m8 aa dd) T A0 RB V4 rfl rfl V5
 | 16,hi=>obtain rfl:Br aa dd=i:=Option.some.inj hi;exact dF (i:=Br aa dd) T A0 RC V6 rfl rfl V7
 | 17,hi=>obtain rfl:Bs aa dd=i:=Option.some.inj hi;exact dF (i:=Bs aa dd) T A0 RD V8 rfl rfl V9
 | 18,hi=>obtain rfl:Bt aa dd=i:=Option.some.inj hi;exact dF (i:=Bt aa dd) T A0 RE Wa rfl rfl Wb
 | 19,hi=>obtain rfl:Bu aa dd=i:=Option.some.inj hi;exact dF (i:=Bu aa dd) T A0 RG Wc rfl rfl Wd
 | 20,hi=>obtain rfl:Bv aa dd=i:=Option.some.inj hi;exact dF (i:=Bv aa dd) T A0 RH We rfl rfl Wf
 | j+21,hi=>exact nomatch (show (none:Option FI)=some i from hi)
end Lw
namespace Lg
open Pv
open Lw (prog Fb E6 E7 E8 E9 yW yX yZ sM sN qb m6 yV yY)
open Ev (deep big rep cut bU)
theorem Pz (ns:List Int) (k:Int) (x:List Nat) (b:Nat) (h:x.length≤b):(chg ns k x).length≤2*b+2∧tot (chg ns k x)≤3*b+3:=by
 have h1:=mT ns k x (x.length+1)
 have h2:=rM ns k x (x.length+1)
 simp only [chg];omega
noncomputable def row (ns:List Int) (k:Nat) (t:List Nat):List Pt:=chg ns (10+60*(k:Int)) (t.take 9)++List.replicate (t.length - 9) (.keep 1)
theorem xA (ns:List Int) (k:Nat) (t:List Nat):aV (row ns k t) t=true:=DP (HJ ns _ (t.take 9))
theorem FQ (ns:List Int) (k:Nat) (t:List Nat):(row ns k t).length≤20+t.length∧tot (row ns k t)≤30+t.length:=by
 obtain ⟨h1,h2⟩:=Pz ns (10+60*(k:Int)) (t.take 9) 9 (by rw [List.length_take];omega)
 unfold row
 rw [List.length_append,List.length_replicate,fJ,DO]
 omega
structure Dr (t:List Nat) (k:Nat) (rs:List (List Pt)):Prop where
 ln:rs.length=k
 ch:Ch t rs
 tl:(bu t rs).length+30≤34*2 ^ k
 tt:cL rs+34≤34*2 ^ k
 ls:∀ c∈rs,c.length≤600
theorem qK {k:Nat}(h:k≤4):2 ^ k≤16:=Nat.pow_le_pow_right (n:=2) (by decide) h
theorem Dr.snoc {ns:List Int}{t:List Nat}{k:Nat}{rs:List (List Pt)}(h:Dr t k rs) (hk:k<4):Dr t (k+1) (rs++[row ns k (bu t rs)]):=by
 obtain ⟨b1,b2⟩:=FQ ns k (bu t rs)
 have d:=lK (row ns k (bu t rs)) (bu t rs)
 have p:=qK (Nat.le_of_lt hk)
 have h1:=h.tl
 have h2:=h.tt
 refine ⟨by rw [List.length_append,h.ln];rfl,m5.mpr ⟨h.ch,xA ns k _,trivial⟩,?_,?_,fun c hc=>?_⟩
 ·rw [nD,Nat.pow_succ];show (aH _ _).length+30≤_;omega
 ·rw [Nat.pow_succ];simp only [cL,List.map_append,List.sum_append,List.map_cons,List.map_nil,List.sum_cons,List.sum_nil] at h2 ⊢;omega
 ·rcases List.mem_append.mp hc with hc | hc
  ·exact h.ls c hc
  ·rw [List.mem_singleton.mp hc];omega
theorem mx (l:Nat):cV .max [.int 0,.int ((l:Int) - 9)]=some (.int ((l - 9:Nat):Int)):=by
 rw [KL];congr 2;split <;> omega
theorem ones (j:Nat) (h:j≤1000):bR .mul (.tup [.tup [.str [107,101,101,112],.int 1]]) (.int (j:Int))=some (aF (List.replicate j (.keep 1))):=by
 rw [CJ (by omega) (by omega) (by simp),Int.toNat_natCast,HD]
 simp only [aF,List.map_replicate];rfl
section
variable {w n:Nat}{ns:List Int}(hn:ns.length≤63) {t:List Nat}{rs:List (List Pt)}{k:Nat}
noncomputable def rP (ns:List Int) (t:List Nat) (rs:List (List Pt)) (a b:Option Sl):Fr:=[some (.val (fQ ns)),some (.val (.str t)),some (.own (rs.map aF)),some (.own ((scan t rs).map V.str)),a,b,none,none,none,none,none,none]
include hn
theorem PB (h:Dr t k rs) (hk:k<4) {b:Option Sl}(hb:vo b):Wp (exs (run prog w (n+8)) w yV (rP ns t rs (some (.val (.int k))) b)) fun g fr=>g=.nx∧∃ x,fr=rP ns t (rs++[row ns k (bu t rs)]) (some (.val (.int k))) (some (.val x)):=by
 obtain ⟨pre,hp⟩:=jd rs t
 have p:=qK (Nat.le_of_lt hk)
 have h1:=h.tl
 have hl:=h.ln
 have hsl:=scan_len rs t
 obtain ⟨b1,b2⟩:=FQ ns k (bu t rs)
 have c1:=fun fr=>iD (fr:=fr) (yG (F:=prog) (c:=14) (dr:=15) (t:=17) (w:=w) (n:=n+5) rfl rfl hn rfl (10+60*(k:Int)) ((bu t rs).take 9) (by rw [List.length_take];omega))
 have c2:=fun fr=>call2 (fr:=fr) (DM (F:=prog) (i:=18) (w:=w) (n:=n+7) rfl (row ns k (bu t rs)) (bu t rs) (by omega) (by omega) (xA ns k _))
 have ln:cV .len [.str (bu t rs)]=some (.int ((bu t rs).length:Nat)):=len_str (by omega)
 have L5:eV (.str (bu t rs)) none (some (9:Int))=some (.str ((bu t rs).take 9)):=by rw [gk];exact congrArg (fun z=>some (V.str z)) (qa _ 9)
 have on:=ones ((bu t rs).length - 9) (by omega)
 have ad:bR .add (aF (chg ns (10+60*(k:Int)) ((bu t rs).take 9))) (aF (List.replicate ((bu t rs).length - 9) (.keep 1)))=some (aF (row ns k (bu t rs))):=by
  have:=b1
  unfold row at this
  rw [List.length_append] at this
  simp only [aF,row,List.map_append]
  exact uq (by rw [List.length_map,List.length_map];omega)
 have ml:bR .mul (.int 60) (.int (k:Int))=some (.int (60*(k:Int))):=lG rfl
 have a2:∀ fr:Fr,gn .append 2 [aF (row ns k (bu t rs))] fr (some (some (.own (rs.map aF))))=.ok .bz (fr.set 2 (some (.own (rs.map aF++[aF (row ns k (bu t rs))])))):=fun fr=>kK (by rw [List.length_map];omega)
 have a3:∀ fr:Fr,gn .append 3 [.str (aH (row ns k (bu t rs)) (bu t rs))] fr (some (some (.own ((scan t rs).map V.str))))=.ok .bz (fr.set 3 (some (.own ((scan t rs).map V.str++[.str (aH (row ns k (bu t rs)) (bu t rs))])))):=fun fr=>kK (by rw [List.length_map];omega)
 have gl:eH (.lst ((scan t rs).map V.str)) (.int (-1))=some (.str (bu t rs)):=by rw [hp,List.map_append];exact eK
 have Cj:rP ns t (rs++[row ns k (bu t rs)]) (some (.val (.int k))) (some (.val (.str (bu t rs))))=[some (.val (fQ ns)),some (.val (.str t)),some (.own (rs.map aF++[aF (row ns k (bu t rs))])),some (.own ((scan t rs).map V.str++[.str (aH (row ns k (bu t rs)) (bu t rs))])),some (.val (.int k)),some (.val (.str (bu t rs))),none,none,none,none,none,none]:=by
  unfold rP;rw [scan_snoc,List.map_append,List.map_append];rfl
 generalize bu t rs=u at *
 unfold rP
 refine ao (bC (by (repeat (first | array_get_dec | exact gl))) rfl (iE rfl hb) ?_)
 refine ao (gm (by (repeat (first | exact ad | exact on | exact mx _ | exact ml | exact L5 | exact c1 _ | exact a2 _ | array_get_dec))) ?_)
 refine ao (gm (by (repeat (first | exact eK | exact c2 _ | exact a3 _ | array_get_dec))) (aG ?_))
 exact ⟨rfl,_,Cj.symm⟩
end
theorem PC {P:aU}{f i:Nat}{fr:Fr}{b v:V}{l:List V}(e:fr[i]?=some (some (.own l))) (h:P f [.val b,.bor l]=some (v,[l])):fO P f [.inr b,.inl i] fr=.ok v (fr.set i (some (.own l))):=by
 have e1:lent fr i=some (.bor l):=by rw [wV,e];rfl
 simp [fO,bP,args,e1,h,back,e,Sl.with]
theorem xB:∀ (rs:List (List Pt)) (t:List Nat),(bu t rs).length≤t.length+cL rs
 | [],t=>Nat.le_add_right _ _
 | c :: rs,t=>by
  have h1:=xB rs (aH c t)
  have h2:=lK c t
  show (bu (aH c t) rs).length≤_
  simp only [cL,List.map_cons,List.sum_cons] at h1 ⊢
  omega
theorem oW (p q:List (List Pt)):cL (p++q)=cL p+cL q:=by simp [cL]
theorem ve {l:List V}{j:Nat}{v:V}(h:l[j]?=some v):eH (.lst l) (.int (j:Int))=some v:=by rw [wL,pM (Int.natCast_nonneg j)];exact h
section
variable {w n:Nat}{ns:List Int}(hw:5000<w) {t:List Nat}{rs:List (List Pt)}{M:Nat}{W:List Pt}
noncomputable def mF (ns:List Int) (t:List Nat) (rs:List (List Pt)) (W:List Pt) (x4 x5 x7 x8 x9:Option Sl):Fr:=[some (.val (fQ ns)),some (.val (.str t)),some (.own (rs.map aF)),some (.own ((scan t rs).map V.str)),x4,x5,some (.val (aF W)),x7,x8,x9,none,none]
include hw
theorem iB {s0:Sl}{os:List (List V)}(t:List Nat) (p:List (List Pt)) (hc:Ch t p) (hB:t.length+cL p≤2000) (hL:∀ c∈p,c.length≤600) (hS:Hd (p.map aF) s0 os):∃ c,run prog w (n+8) 10 [.val (.int t.length),s0]=some (aF c,os)∧An c t p:=
 rT (F:=prog) (aO:=0) (dO:=13) (bX:=12) (dj:=11) (bL:=4) (cK:=3) (dz:=1) (d9:=2) (iH:=9) (eS:=8) (i:=10) (w:=w) (n:=n+4) rfl rfl rfl rfl rfl rfl rfl rfl rfl rfl hw rfl t p hc hB (fun c h=>Nat.le_trans (hL c h) (by decide)) hS
theorem NK (a b:List Pt) (s:List Nat) (h1:aV a s=true) (h2:aV b (aH a s)=true) (b1:tot a≤2000) (b2:tot b≤2000) (b3:a.length≤2000) (b4:b.length≤2000):∃ c,run prog w (n+8) 9 [.val (aF a),.val (aF b)]=some (aF c,[])∧Tn a b c s:=
 uX (F:=prog) (aO:=0) (dO:=13) (bX:=12) (dj:=11) (bL:=4) (cK:=3) (dz:=1) (d9:=2) (i:=9) (w:=w) (n:=n+5) rfl rfl rfl rfl rfl rfl rfl rfl rfl hw a b s h1 h2 b1 b2 b3 b4
omit hw in
theorem nS (s:List Nat):Pv.cop .ne (.str s) (.str s)=some false:=by rw [iU];simp
omit hw in
theorem nI (s:Int):Pv.cop .ne (.int s) (.int s)=some false:=by rw [yE];simp
omit hw in
theorem nC (s:List Pt):Pv.cop .ne (aF s) (aF s)=some false:=by rw [ur,AJ];simp
set_option maxHeartbeats 600000 in
theorem PD (h:Dr t M rs) (hM:M≤4) (ht:t.length≤4) (hW:An W t rs) (j:Nat) (hj:j≤M) {x4 x5 x8 x9:Option Sl}(h8:vo x8) (h9:vo x9) :
  Wp (exs (run prog w (n+8)) w yY (mF ns t rs W x4 x5 (some (.val (.int (j:Int)))) x8 x9)) fun g fr=>g=.nx∧∃ a b,vo a∧vo b∧fr=mF ns t rs W x4 x5 (some (.val (.int (j:Int)))) a b:=by
 have pw:=qK hM
 have FT:=h.tt
 have By:=h.ln
 have e0:=List.take_append_drop j rs
 obtain ⟨RI,BA⟩:=m5.mp (by rw [e0];exact h.ch:Ch t (rs.take j++rs.drop j))
 have ta:cL (rs.take j)+cL (rs.drop j)=cL rs:=by rw [←oW,e0]
 have tx:=xB (rs.take j) t
 have L1:∀ c∈rs.take j,c.length≤600:=fun c hc=>h.ls c (List.mem_of_mem_take hc)
 have L2:∀ c∈rs.drop j,c.length≤600:=fun c hc=>h.ls c (List.mem_of_mem_drop hc)
 obtain ⟨S,r1,A1⟩:=iB (n:=n) hw t (rs.take j) RI (by omega) L1 .val
 obtain ⟨E,r2,A2⟩:=iB (n:=n) hw (bu t (rs.take j)) (rs.drop j) BA (by omega) L2 .val
 have s1:=A1.tt
 have s2:=A1.ln
 have s3:=A2.tt
 have s4:=A2.ln
 obtain ⟨X,r3,T3⟩:=NK (n:=n) hw S E t A1.fit (by rw [A1.dn];exact A2.fit) (by omega) (by omega) (by omega) (by omega)
 have q3:X=W:=HV A1 A2 T3 (by rw [e0];exact hW)
 rw [q3] at r3
 have D1:=fun fr=>call2 (fr:=fr) (oO (F:=prog) (aO:=0) (mW:=5) (i:=6) (w:=w) (n:=n+5) rfl rfl rfl S t (by omega) (by omega) (by omega) A1.fit)
 have D2:=fun fr=>call2 (fr:=fr) (oO (F:=prog) (aO:=0) (mW:=5) (i:=6) (w:=w) (n:=n+5) rfl rfl rfl E (bu t (rs.take j)) (by omega) (by omega) (by omega) A2.fit)
 rw [A1.dn] at D1
 rw [A2.dn,←nD,e0] at D2
 have F1:=fun fr=>call2 (fr:=fr) (oN (F:=prog) (aO:=0) (i:=5) (w:=w) (n:=n+6) rfl rfl S t (by omega) (by omega))
 have F2:=fun fr=>call2 (fr:=fr) (oN (F:=prog) (aO:=0) (i:=5) (w:=w) (n:=n+6) rfl rfl E (bu t (rs.take j)) (by omega) (by omega))
 rw [A1.fit] at F1
 rw [A2.fit] at F2
 have R1:=fun fr=>call2 (fr:=fr) r1
 have R2:=fun fr=>call2 (fr:=fr) r2
 have R3:=fun fr=>call2 (fr:=fr) r3
 have gx:eH (.lst ((scan t rs).map V.str)) (.int (j:Int))=some (.str (bu t (rs.take j))):=ve (by rw [List.getElem?_map,scan_get rs t j (by omega)];rfl)
 have gl:eH (.lst ((scan t rs).map V.str)) (.int (-1))=some (.str (bu t rs)):=by
  obtain ⟨pre,hp⟩:=jd rs t
  rw [hp,List.map_append];exact eK
 have sl:∀ m:Nat,eV (.lst (rs.map aF)) none (some (m:Int))=some (.lst ((rs.take m).map aF)):=fun m=>by
  rw [qC,qa,←List.map_take];exact er (cy (by rw [List.length_map,List.length_take];omega))
 have sd:eV (.lst (rs.map aF)) (some (j:Int)) none=some (.lst ((rs.drop j).map aF)):=by
  rw [qC,yS,←List.map_drop];exact er (cy (by rw [List.length_map,List.length_drop];omega))
 have BB:cV .len [.str t]=some (.int (t.length:Nat)):=len_str (by omega)
 have ln2:cV .len [.str (bu t (rs.take j))]=some (.int ((bu t (rs.take j)).length:Nat)):=len_str (by omega)
 have NL:cV .len [.lst (rs.map aF)]=some (.int (M:Nat)):=by rw [wN,List.length_map,By]
 unfold mF
 refine ao (bC (by (repeat (first | exact sl j | exact R1 _ | array_get_dec))) rfl (iE rfl h8) ?_)
 refine ao (bC (by (repeat (first | exact gx | exact sd | exact R2 _ | array_get_dec))) rfl (iE rfl h9) ?_)
 refine ao (aP (b:=false) (fY (aS rfl (by (repeat (first | exact nS _ | exact gx | exact D1 _ | array_get_dec))) rfl) (fY (aS rfl (by (repeat (first | exact nS _ | exact gx | exact gl | exact D2 _ | array_get_dec))) rfl) (aS rfl (by (repeat (first | exact nC _ | exact R3 _ | array_get_dec))) rfl))) (fun h=>absurd h (by decide)) fun _=>aG ?_)
 refine ao (aP (b:=false) (af:=[some (.val (fQ ns)),some (.val (.str t)),some (.own (rs.map aF)),some (.own ((scan t rs).map V.str)),x4,x5,some (.val (aF W)),some (.val (.int (j:Int))),some (.val (aF S)),some (.val (aF E)),none,none]) (ES (b:=decide ((j:Int)<(M:Int))) (b2:=false) (af:=[some (.val (fQ ns)),some (.val (.str t)),some (.own (rs.map aF)),some (.own ((scan t rs).map V.str)),x4,x5,some (.val (aF W)),some (.val (.int (j:Int))),some (.val (aF S)),some (.val (aF E)),none,none]) (aB:=[some (.val (fQ ns)),some (.val (.str t)),some (.own (rs.map aF)),some (.own ((scan t rs).map V.str)),x4,x5,some (.val (aF W)),some (.val (.int (j:Int))),some (.val (aF S)),some (.val (aF E)),none,none]) (aS rfl (by (repeat (first | exact NL | array_get_dec))) rfl) (fun hb=>?_) fun _=>⟨rfl,rfl⟩) (fun h=>absurd h (by decide)) fun _=>aG ?_)
 ·have hlt:j<rs.length:=by have:=of_decide_eq_true hb;omega
  have e1:rs.take (j+1)=rs.take j++[rs[j]]:=List.take_succ_eq_append_getElem hlt
  have hd:rs.drop j=rs[j] :: rs.drop (j+1):=List.drop_eq_getElem_cons hlt
  have WV:Ch t (rs.take (j+1)):=by rw [e1];rw [hd] at BA;exact m5.mpr ⟨RI,BA.1,trivial⟩
  have Xb:cL (rs.take j)+tot rs[j]=cL (rs.take (j+1)):=by rw [e1,oW];simp [cL]
  have Xc:cL (rs.take (j+1))+cL (rs.drop (j+1))=cL rs:=by rw [←oW,List.take_append_drop]
  obtain ⟨A,r4,A4⟩:=iB (n:=n) hw t (rs.take (j+1)) WV (by omega) (fun c hc=>h.ls c (List.mem_of_mem_take hc)) .val
  have l4:=h.ls _ (List.getElem_mem hlt)
  obtain ⟨Y,r5,T5⟩:=NK (n:=n) hw S rs[j] t A1.fit (by rw [A1.dn];rw [hd] at BA;exact BA.1) (by omega) (by omega) (by omega) (by omega)
  have q5:Y=A:=Lz A1 T5 (by rw [←e1];exact A4)
  rw [q5] at r5
  have R4:=fun fr=>call2 (fr:=fr) r4
  have R5:=fun fr=>call2 (fr:=fr) r5
  have gr:eH (.lst (rs.map aF)) (.int (j:Int))=some (aF rs[j]):=ve (by rw [List.getElem?_map,List.getElem?_eq_getElem hlt];rfl)
  have L4:eV (.lst (rs.map aF)) none (some ((j:Int)+1))=some (.lst ((rs.take (j+1)).map aF)):=sl (j+1)
  exact aS rfl (by (repeat (first | exact nC _ | exact gr | exact L4 | exact R4 _ | exact R5 _ | array_get_dec))) rfl
 ·refine ao (aP (b:=false) (fY (pN (b:=true) (aS rfl (dI (cE rfl (bh rfl) (cE rfl (bh rfl) bZ)) (F1 _)) rfl)) (pN (b:=true) (aS rfl (dI (cE rfl (bh rfl) (cE rfl (gv (bh rfl) (bh rfl) gx) bZ)) (F2 _)) rfl))) (fun h=>absurd h (by decide)) fun _=>aG (aG ?_))
  exact ⟨rfl,_,_,.val,.val,rfl⟩
end
section
variable {w n:Nat}{ns:List Int}(hn:ns.length≤63)(hw:5000<w)
noncomputable def FU (w n:Nat) (ns:List Int):Prop:=∀ (t:List Nat) (rs:List (List Pt)) (a b:Option Sl) (M:Nat),t.length≤4→M≤4→Dr t M rs→vo a→vo b→
 Wp (exs (run prog w (n+8)) w (.cons yW (.cons yX (.cons yZ (.cons sM (.cons sN (.cons qb (.cons m6 .nil))))))) (rP ns t rs a b)) fun g fr=>g=.ret (.bl true)∧outs 1 fr=[]
include hn in
theorem NN (h:FU w n ns):run prog w (n+9) 20 [.val (fQ ns)]=some (.bl true,[]):=by
 have ht:(txt ns 0 4).length≤4:=HA ns 0 (most:=4) (by decide)
 have c1:=fun fr=>iD (fr:=fr) (CU (F:=prog) (c:=14) (dr:=15) (t:=16) (w:=w) (n:=n+5) rfl rfl hn rfl 0 4 (by decide) (by decide))
 have c2:=fun fr=>iD (fr:=fr) (fZ (F:=prog) (c:=14) (dr:=15) (w:=w) (n:=n+6) rfl rfl hn 5 (many:=5) (by decide))
 have d1:=jM ns 5 (many:=5) (by decide)
 have d2:=jN ns 5 (many:=5) (by decide)
 generalize txt ns 0 4=t at ht c1
 generalize cW ns 5 5=N at d1 d2 c2
 refine cY (fn:=Fb) rfl rfl ?_
 refine ao (bC (dI (cE rfl (bh rfl) (cE rfl (cG rfl) (cE rfl (cG rfl) bZ))) (c1 _)) rfl rfl ?_)
 refine ao (jc (lF bT nq) rfl rfl ?_)
 refine ao (jc (lF (bK (bh rfl) bT) sC) rfl rfl ?_)
 refine ao (jr (pO (l:=range 0 N.toNat) (bK (dI (cE rfl (bh rfl) (cE rfl (cG rfl) (cE rfl (cG rfl) bZ))) (c2 _)) bT) (by simp [eL];omega)) ?_)
 refine qD (fun k fr=>∃ rs a b,Dr t k rs∧vo a∧vo b∧fr=rP ns t rs a b) (fun k fr hk ⟨rs,a,b,hD,ha,hb,hfr⟩=>?_) (fun fr ⟨rs,a,b,hD,ha,hb,hfr⟩=>?_) ⟨[],none,none,⟨rfl,trivial,by show t.length+30≤_;omega,by decide,fun c hc=>by cases hc⟩,.none,.none,rfl⟩
 ·subst hfr
  rw [Int.zero_add]
  refine dm (bind1 rfl ha) ((PB hn hD (by omega) hb).mono fun g fr ⟨hg,x,hx⟩=>?_)
  subst hg hx
  rw [dU]
  exact ⟨_,_,_,hD.snoc (by omega),.val,.val,rfl⟩
 ·subst hfr
  exact h t rs a b _ ht (by omega) hD ha hb
noncomputable def FY (w n:Nat) (ns:List Int):Prop:=∀ (t:List Nat) (rs:List (List Pt)) (W:List Pt) (x4 x5 x7 x8 x9:Option Sl) (M:Nat),t.length≤4→M≤4→Dr t M rs→An W t rs→vo x4→vo x5→vo x7→vo x8→vo x9→
 Wp (exs (run prog w (n+8)) w (.cons sM (.cons sN (.cons qb (.cons m6 .nil)))) (mF ns t rs W x4 x5 x7 x8 x9)) fun g fr=>g=.ret (.bl true)∧outs 1 fr=[]
include hw in
theorem HY (h:FY w n ns):FU w n ns:=by
 intro t rs a b M ht hM hD ha hb
 have pw:=qK hM
 have FT:=hD.tt
 have JV:=hD.tl
 have By:=hD.ln
 obtain ⟨W,rW,AW⟩:=iB (n:=n) hw t rs hD.ch (by omega) hD.ls .bor
 have s1:=AW.tt
 have s2:=AW.ln
 have BB:cV .len [.str t]=some (.int (t.length:Nat)):=len_str (by omega)
 have ln2:cV .len [.str (bu t rs)]=some (.int ((bu t rs).length:Nat)):=len_str (by omega)
 have NL:cV .len [.lst (rs.map aF)]=some (.int (M:Nat)):=by rw [wN,List.length_map,By]
 have gl:eH (.lst ((scan t rs).map V.str)) (.int (-1))=some (.str (bu t rs)):=by
  obtain ⟨pre,hp⟩:=jd rs t
  rw [hp,List.map_append];exact eK
 have iW:kN W=true:=by rw [←AW.nY];exact gf W
 have c1:=fun fr=>dW (fr:=fr) (u7 (F:=prog) (i:=19) (w:=w) (n:=n+7) rfl W (by omega) iW)
 have c2:=fun fr=>dW (fr:=fr) (pQ (F:=prog) (aO:=0) (i:=1) (w:=w) (n:=n+6) rfl rfl W (by omega) (by omega))
 have c3:=fun fr=>dW (fr:=fr) (rJ (F:=prog) (aO:=0) (i:=2) (w:=w) (n:=n+6) rfl rfl W (by omega) (by omega))
 rw [←kQ AW.fit] at c2
 rw [←oS AW.fit,AW.dn] at c3
 unfold rP
 refine ao (bC (aB:=mF ns t rs W a b none none none) (dI (cE rfl (iO (bK (bh rfl) bT) BB) (Lk rfl bZ)) (PC rfl rW)) rfl rfl ?_)
 unfold mF
 refine ao (aP (b:=false) (fY (pN (b:=true) (aS rfl (dI (cE rfl (bh rfl) bZ) (c1 _)) rfl)) (fY (aS rfl (eE (dI (cE rfl (bh rfl) bZ) (c2 _)) (iO (bK (bh rfl) bT) BB) (nI _)) rfl) (aS rfl (eE (dI (cE rfl (bh rfl) bZ) (c3 _)) (iO (bK (gv (bh rfl) (sH (cG rfl)) gl) bT) ln2) (nI _)) rfl))) (fun h=>absurd h (by decide)) fun _=>aG ?_)
 refine ao (jr (pO (l:=range 0 (M+1)) (bK (cJ (iO (bK (bh rfl) bT) NL) (cG rfl) fX) bT) (by simp [eL];omega)) ?_)
 refine qD (fun k fr=>∃ x7 x8 x9,vo x7∧vo x8∧vo x9∧fr=mF ns t rs W a b x7 x8 x9) (fun k fr hk ⟨x7,x8,x9,h7,h8,h9,hfr⟩=>?_) (fun fr ⟨x7,x8,x9,h7,h8,h9,hfr⟩=>?_) ⟨none,none,none,.none,.none,.none,rfl⟩
 ·subst hfr
  rw [Int.zero_add]
  refine dm (bind1 rfl h7) ((PD hw hD hM ht AW k (by omega) h8 h9).mono fun g fr ⟨hg,y8,y9,v8,v9,hx⟩=>?_)
  subst hg hx
  rw [dU]
  exact ⟨_,_,_,.val,v8,v9,rfl⟩
 ·subst hfr
  exact h t rs W a b x7 x8 x9 M ht hM hD AW ha hb h7 h8 h9
theorem qd (c:List Pt):(dh c).length≤tot c∧tot (dh c)=tot c:=by
 have h1:tot (dh c)=tot c:=by
  simp only [dh];rw [gO]
  induction c with
  | nil=>rfl
  | cons p c ih=>cases p <;> simp [sw,Pt.sw,tot,Pt.n] at ih ⊢ <;> omega
 exact ⟨by have:=gX (iR (gf (sw c)));simp only [dh] at h1 ⊢;omega,h1⟩
omit hn hw in
theorem BC (rs:List (List Pt)):cL (rs.map dh).reverse=cL rs:=by
 simp only [cL,List.map_reverse,List.map_map,List.sum_reverse]
 congr 1
 exact List.map_congr_left fun c _=>(qd c).2
omit hn hw in
theorem qL {rs:List (List Pt)}{c:List Pt}(h:c∈rs):tot c≤cL rs:=by
 induction rs with
 | nil=>cases h
 | cons d rs ih=>
  simp only [cL,List.map_cons,List.sum_cons] at ih ⊢
  rcases List.mem_cons.mp h with rfl | h
  ·omega
  ·have:=ih h;omega
noncomputable def FZ (w n:Nat) (ns:List Int):Prop:=∀ (t:List Nat) (rs:List (List Pt)) (W:List Pt) (x4 x5 x7 x8 x9:Option Sl) (B:V) (M:Nat),t.length≤4→M≤4→Dr t M rs→vo x4→vo x5→vo x7→vo x8→vo x9→
 Wp (exs (run prog w (n+8)) w (.cons qb (.cons m6 .nil)) ((mF ns t rs W x4 x5 x7 x8 x9).set 10 (some (.val B)))) fun g fr=>g=.ret (.bl true)∧outs 1 fr=[]
include hw in
theorem D8 (h:FZ w n ns):FY w n ns:=by
 intro t rs W x4 x5 x7 x8 x9 M ht hM hD AW h4 h5 h7 h8 h9
 have pw:=qK hM
 have FT:=hD.tt
 have JV:=hD.tl
 have By:=hD.ln
 have s1:=AW.tt
 have s2:=AW.ln
 have U:=fun (c:List Pt) (b1:c.length≤10000) (b2:tot c≤10000) fr=>dW (fr:=fr) (yO (F:=prog) (bL:=4) (cK:=3) (i:=7) (w:=w) (n:=n+5) rfl rfl rfl c b1 b2)
 obtain ⟨k1,k2⟩:=xy hD.ch
 obtain ⟨Y,rY,AY⟩:=iB (n:=n) hw (bu t rs) (rs.map dh).reverse k1 (by rw [BC];omega) (fun c hc=>by
  obtain ⟨d,hd,rfl⟩:=List.mem_map.mp (List.mem_reverse.mp hc)
  have:=qL hd
  have:=(qd d).1
  omega) .val
 have q:=HW AW AY
 rw [q] at rY
 have RY:=fun fr=>call2 (fr:=fr) rY
 obtain ⟨u1,u2⟩:=lN AW.fit
 rw [AW.dn] at u1 u2
 have DW:=fun fr=>call2 (fr:=fr) (oO (F:=prog) (aO:=0) (mW:=5) (i:=6) (w:=w) (n:=n+5) rfl rfl rfl (dh W) (bu t rs) (by rw [(qd W).2];omega) (by omega) (by have:=(qd W).1;omega) u1)
 rw [u2] at DW
 have ln2:cV .len [.str (bu t rs)]=some (.int ((bu t rs).length:Nat)):=len_str (by omega)
 have gl:eH (.lst ((scan t rs).map V.str)) (.int (-1))=some (.str (bu t rs)):=by
  obtain ⟨pre,hp⟩:=jd rs t
  rw [hp,List.map_append];exact eK
 have rv:lR (.lst (rs.map aF))=some (.lst (rs.reverse.map aF)):=by
  show ef _=_
  rw [←List.map_reverse];exact er (cy (by rw [List.length_map,List.length_reverse];omega))
 have el:rs.reverse.map (fun c=>aF (dh c))=(rs.map dh).reverse.map aF:=by simp only [List.map_reverse,List.map_map];rfl
 refine ao (bC (aB:=(mF ns t rs W x4 x5 x7 x8 x9).set 10 (some (.val (.lst ((rs.map dh).reverse.map aF))))) (kL (gB (vs:=rs.reverse.map aF) (Lj (bh rfl) rv) rfl) rfl (j0 aF (fun c=>aF (dh c)) rs.reverse fun c hc=>pP (bind1 rfl .none) (dI (cE rfl (bh rfl) bZ) (U c (by have:=hD.ls c (List.mem_reverse.mp hc);omega) (by have:=qL (List.mem_reverse.mp hc);omega) _))) (by rw [el];exact er (cy (by rw [List.length_map,List.length_reverse,List.length_map];omega)))) rfl rfl ?_)
 unfold mF
 refine ao (aP (b:=false) (fY (aS rfl (eE (dI (cE rfl (iO (bK (gv (bh rfl) (sH (cG rfl)) gl) bT) ln2) (cE rfl (bh rfl) bZ)) (RY _)) (dI (cE rfl (bh rfl) bZ) (U W (by omega) (by omega) _)) (nC _)) rfl) (aS rfl (eE (dI (cE rfl (dI (cE rfl (bh rfl) bZ) (U W (by omega) (by omega) _)) (cE rfl (gv (bh rfl) (sH (cG rfl)) gl) bZ)) (DW _)) (bh rfl) (nS _)) rfl)) (fun h=>absurd h (by decide)) fun _=>aG ?_)
 exact h t rs W x4 x5 x7 x8 x9 _ M ht hM hD h4 h5 h7 h8 h9
omit hn hw in
theorem PF {P:aU}{k b:Bool}{a e:Ev.E}{fr af aB:Fr}(h:ev P true a fr=.ok (.bl b) af) (h2:b=false→ev P k e af=.ok (.bl true) aB) (h3:b=true→af=aB):ev P k (.orr a e) fr=.ok (.bl true) aB:=by
 rw [KW,h,ay]
 cases b with
 | true=>rw [h3 rfl];rfl
 | false=>exact h2 rfl
include hw in
theorem D9:FZ w n ns:=by
 intro t rs W x4 x5 x7 x8 x9 B M ht hM hD h4 h5 h7 h8 h9
 have pw:=qK hM
 have FT:=hD.tt
 have By:=hD.ln
 have no:=fun fr=>dW (fr:=fr) (nW (F:=prog) (bL:=4) (cK:=3) (i:=8) (w:=w) (n:=n+5) rfl rfl rfl 3 (by decide))
 have f3:aV (aQ [.keep 3]) [97,97,97]=true∧aH (aQ [.keep 3]) [97,97,97]=[97,97,97]:=by rw [iQ,fj];exact ⟨rfl,rfl⟩
 obtain ⟨Z,rZ,AZ⟩:=iB (n:=n) hw [97,97,97] (List.replicate 4 (aQ [.keep 3])) ⟨f3.1,by rw [f3.2];exact ⟨f3.1,by rw [f3.2];exact ⟨f3.1,by rw [f3.2];exact ⟨f3.1,trivial⟩⟩⟩⟩ (by decide) (fun c hc=>by rw [List.eq_of_mem_replicate hc];decide) .val
 have qZ:Z=aQ [.keep 3]:=HX (t:=[97,97,97]) AZ
 rw [qZ] at rZ
 have RZ:=fun fr=>call2 (fr:=fr) rZ
 have ml:bR .mul (.lst [aF (aQ [.keep 3])]) (.int 4)=some (.lst ((List.replicate 4 (aQ [.keep 3])).map aF)):=by
  rw [CK (by decide) (by decide) (by decide) (by decide)];rfl
 have BB:cV .len [.str t]=some (.int (t.length:Nat)):=len_str (by omega)
 unfold mF
 refine ao (aP (b:=false) (aS rfl (eE (dI (cE rfl (cG rfl) (cE rfl (cJ (lF (bK (dI (cE rfl (cG rfl) bZ) (no _)) bT) sC) (cG rfl) ml) bZ)) (RZ _)) (dI (cE rfl (cG rfl) bZ) (no _)) (nC _)) rfl) (fun h=>absurd h (by decide)) fun _=>aG ?_)
 have sh:fq [some (.val (fQ ns)),some (.val (.str t)),some (.own (rs.map aF)),some (.own ((scan t rs).map V.str)),x4,x5,some (.val (aF W)),x7,x8,x9,some (.val B),none]=[some (.val (fQ ns)),some (.val (.str t)),some (.val (.lst (rs.map aF))),some (.val (.lst ((scan t rs).map V.str))),x4,x5,some (.val (aF W)),x7,x8,x9,some (.val B),none]:=by
  show _ :: _ :: _ :: _ :: x4.map Sl.eg :: x5.map Sl.eg :: _ :: x7.map Sl.eg :: x8.map Sl.eg :: x9.map Sl.eg :: _=_
  rw [cZ h4,cZ h5,cZ h7,cZ h8,cZ h9];rfl
 refine ao (cC (af:=[some (.val (fQ ns)),some (.val (.str t)),some (.val (.lst (rs.map aF))),some (.val (.lst ((scan t rs).map V.str))),x4,x5,some (.val (aF W)),x7,x8,x9,some (.val B),none]) ?_ ⟨rfl,rfl⟩)
 show ev _ _ _ (fq [some (.val (fQ ns)),some (.val (.str t)),some (.own (rs.map aF)),some (.own ((scan t rs).map V.str)),x4,x5,some (.val (aF W)),x7,x8,x9,some (.val B),none])=_
 rw [sh]
 refine PF (b:=decide (rs=[])) (eE (bh rfl) (lF bT nq) ?_) (fun hb=>?_) fun _=>rfl
 ·cases rs <;> rfl
 ·have hne:=of_decide_eq_false hb
  cases rs with
  | nil=>exact absurd rfl hne
  | cons c l=>
   have t1:tot c≤cL (c :: l):=qL List.mem_cons_self
   have l1:=hD.ls c List.mem_cons_self
   obtain ⟨A,rA,AA⟩:=iB (n:=n) hw t [c] ⟨hD.ch.1,trivial⟩ (by simp only [cL,List.map_cons,List.map_nil,List.sum_cons,List.sum_nil] at FT t1 ⊢;omega) (fun d hd=>by rw [List.mem_singleton.mp hd];exact l1) .val
   have qA:A=aQ c:=LA AA hD.ch.1
   rw [qA] at rA
   have RA:=fun fr=>call2 (fr:=fr) rA
   have g1:=fun fr=>dW (fr:=fr) (iP (F:=prog) (bL:=4) (i:=3) (w:=w) (n:=n+6) rfl rfl c (by omega) (by omega))
   have L3:eV (.lst ((c :: l).map aF)) none (some 1)=some (.lst ([c].map aF)):=by
    rw [qC,show (1:Int)=((1:Nat):Int) from rfl,qa];exact sC
   have eC:Pv.cop .eq (aF (aQ c)) (aF (aQ c))=some true:=by rw [KG,AJ];simp
   exact eE (dI (cE rfl (iO (bK (bh rfl) bT) BB) (cE rfl (CQ (bh rfl) yD (uA (cG rfl)) L3) bZ)) (RA _)) (dI (cE rfl (gv (bh rfl) (cG rfl) (ve (j:=0) rfl)) bZ) (g1 _)) eC
end
theorem good:∀ ns:List Int,ns.length≤63→∃ h',Ev.run prog 100000 60 20 [.ref 0] [.bO (ns.map Ev.D.int)]=.ok (.bl true) h':=fun ns h=>G5 (NN (w:=100000) (n:=51) h (HY (by decide) (D8 (by decide) (D9 (by decide)))))
end Lg
theorem Lw.good:∀ ns:List Int,ns.length≤63→∃ h',Ev.run Lw.prog 100000 60 20 [.ref 0] [.bO (ns.map Ev.D.int)]=.ok (.bl true) h':=Lg.good
namespace PySem.W.Fast
theorem tw5947233405618147956:True:=⟨⟩
theorem tw9326258674351988818:True:=⟨⟩
theorem tw6650314354344749798:True:=⟨⟩
theorem tw4166617762323753998:True:=⟨⟩
theorem tw1626613590848041421:True:=⟨⟩
theorem tw945075756502618448:True:=⟨⟩
theorem tw8359171377929980189:True:=⟨⟩
theorem tw10345162966343447444:True:=⟨⟩
theorem tw7286979942917284521:True:=⟨⟩
theorem tw3063257759705403268:True:=⟨⟩
theorem tw16753158194326183159:True:=⟨⟩
theorem tw11504362355072845580:True:=⟨⟩
theorem tw4670280019745047391:True:=⟨⟩
theorem tw3076774682335021900:True:=⟨⟩
theorem tw5388237729955063020:True:=⟨⟩
theorem tw4320213182396226095:True:=⟨⟩
theorem tw9044978436022042954:True:=⟨⟩
theorem tw14140479149574236717:True:=⟨⟩
theorem tw2296819718503441929:True:=⟨⟩
theorem tw3752608757769897700:True:=⟨⟩
theorem tw12685279187578844888:True:=⟨⟩
theorem tw10603094034541394447:True:=⟨⟩
theorem tw8648425542442502820:True:=⟨⟩
theorem tw6867527526751474726:True:=⟨⟩
theorem tw3453301658311739682:True:=⟨⟩
theorem tw1538246803613892790:True:=⟨⟩
theorem tw5125437441452719806:True:=⟨⟩
theorem tw5948635862466989695:True:=⟨⟩
theorem tw10275670483565401054:True:=⟨⟩
theorem tw11737357687217282311:True:=⟨⟩
theorem tw5543444667466664730:True:=⟨⟩
theorem tw5727109929882511365:True:=⟨⟩
theorem tw8045882257375539647:True:=⟨⟩
theorem tw7899455268288227555:True:=⟨⟩
theorem tw1009559413763842769:True:=⟨⟩
theorem tw16149904410322258914:True:=⟨⟩
theorem tw13521401457166749302:True:=⟨⟩
theorem tw13519232243173677939:True:=⟨⟩
theorem tw16975374753640715780:True:=⟨⟩
theorem tw9350043527746101463:True:=⟨⟩
theorem tw16771860799549999209:True:=⟨⟩
theorem tw4837366962150083856:True:=⟨⟩
theorem tw4969810168059370899:True:=⟨⟩
theorem tw9748408815407951536:True:=⟨⟩
theorem tw8126567513437524623:True:=⟨⟩
theorem tw5499472707039717347:True:=⟨⟩
theorem tw10103694138152972217:True:=⟨⟩
theorem tw1263926646987922053:True:=⟨⟩
theorem tw18035124611113948909:True:=⟨⟩
theorem tw14987488247733193182:True:=⟨⟩
theorem tw8390396401378560123:True:=⟨⟩
theorem tw1857490701693566572:True:=⟨⟩
theorem tw14005710740937320827:True:=⟨⟩
theorem tw972247879067772073:True:=⟨⟩
theorem tw17756170624327632459:True:=⟨⟩
theorem tw1446266414225584883:True:=⟨⟩
theorem tw15877176730485937234:True:=⟨⟩
theorem tw15999936280031071847:True:=⟨⟩
theorem tw15669684671355004991:True:=⟨⟩
theorem tw17824497873385598105:True:=⟨⟩
theorem tw13060698853850682371:True:=⟨⟩
theorem tw13251395234972427701:True:=⟨⟩
theorem tw12572375430022902537:True:=⟨⟩
theorem tw5502352746768803114:True:=⟨⟩
theorem tw11016690993211939952:True:=⟨⟩
theorem tw15636162610899625595:True:=⟨⟩
theorem tw9835896585554539389:True:=⟨⟩
theorem tw17202483553675103796:True:=⟨⟩
theorem tw138749630075516794:True:=⟨⟩
theorem tw12524698308770403207:True:=⟨⟩
theorem tw12515402611106830180:True:=⟨⟩
theorem tw4062889187421241253:True:=⟨⟩
theorem tw11248521484661597978:True:=⟨⟩
theorem tw15403987117609144074:True:=⟨⟩
theorem tw2243251579804381512:True:=⟨⟩
theorem tw5167971023974881828:True:=⟨⟩
theorem tw11400142371704521527:True:=⟨⟩
theorem tw14296478092068504320:True:=⟨⟩
theorem tw9331417453686471037:True:=⟨⟩
theorem tw18051506161469368898:True:=⟨⟩
theorem tw11144894471490391976:True:=⟨⟩
theorem tw763501702716556394:True:=⟨⟩
theorem tw2843866634223261940:True:=⟨⟩
theorem tw16356665291712407135:True:=⟨⟩
theorem tw1706402515851447279:True:=⟨⟩
theorem tw7591157141514495297:True:=⟨⟩
theorem tw2010266711584912144:True:=⟨⟩
theorem tw3651600649300145538:True:=⟨⟩
theorem tw6824925701727758123:True:=⟨⟩
theorem tw15060479637715103717:True:=⟨⟩
theorem tw7817097218246958392:True:=⟨⟩
theorem tw10759032262884403418:True:=⟨⟩
theorem tw9014809279113152734:True:=⟨⟩
theorem tw6551925132546197022:True:=⟨⟩
theorem tw17711882986405968390:True:=⟨⟩
theorem tw17027541958999676618:True:=⟨⟩
theorem tw17335068426327794421:True:=⟨⟩
theorem tw5855311492570586648:True:=⟨⟩
theorem tw885815910791174154:True:=⟨⟩
theorem tw8601992013940921812:True:=⟨⟩
theorem tw4048033490780662577:True:=⟨⟩
theorem tw4821143242143258521:True:=⟨⟩
theorem tw4460173759779805863:True:=⟨⟩
theorem tw15008059375365394248:True:=⟨⟩
theorem tw7767055955657738559:True:=⟨⟩
theorem tw7938104154026918215:True:=⟨⟩
theorem tw17614085260737160062:True:=⟨⟩
theorem tw13823252935368795123:True:=⟨⟩
theorem tw16791398567766253193:True:=⟨⟩
theorem tw16808244404588770687:True:=⟨⟩
theorem tw17110603217006008155:True:=⟨⟩
theorem tw6787725158972380220:True:=⟨⟩
theorem tw13668374640284566999:True:=⟨⟩
theorem tw3960203806076314136:True:=⟨⟩
theorem tw5704612257964526388:True:=⟨⟩
theorem tw16838586204980373454:True:=⟨⟩
theorem tw1004683916772866670:True:=⟨⟩
theorem tw2306889708525122876:True:=⟨⟩
theorem tw15719536172929971729:True:=⟨⟩
theorem tw16895593896836504820:True:=⟨⟩
theorem tw4540422180136200280:True:=⟨⟩
theorem tw1335070905565222715:True:=⟨⟩
theorem tw8251118686080596812:True:=⟨⟩
theorem tw4108614231688895355:True:=⟨⟩
theorem tw4816508470434825387:True:=⟨⟩
theorem tw11999218645549304093:True:=⟨⟩
theorem tw3240560622118482622:True:=⟨⟩
theorem tw17512497283746834065:True:=⟨⟩
theorem tw6070419346247395887:True:=⟨⟩
theorem tw4015507475256358847:True:=⟨⟩
theorem tw16205962660255763940:True:=⟨⟩
theorem tw17947319547823494225:True:=⟨⟩
theorem tw13248331824210695975:True:=⟨⟩
theorem tw6175273758980017737:True:=⟨⟩
theorem tw8836658092404031517:True:=⟨⟩
theorem tw14489472284169861643:True:=⟨⟩
theorem tw15467740198688993236:True:=⟨⟩
theorem tw9136858903421704967:True:=⟨⟩
theorem tw14778817876640026972:True:=⟨⟩
theorem tw7260581041916190562:True:=⟨⟩
theorem tw1862630046624280077:True:=⟨⟩
theorem tw10380050057948982604:True:=⟨⟩
theorem tw11091994256530382738:True:=⟨⟩
theorem tw17708717320965839243:True:=⟨⟩
theorem tw16488369124468793173:True:=⟨⟩
theorem tw1605326376182132309:True:=⟨⟩
theorem tw15650345160593749378:True:=⟨⟩
theorem tw12650454056308247928:True:=⟨⟩
theorem tw13433815781303200913:True:=⟨⟩
theorem tw6536678752326587530:True:=⟨⟩
theorem tw9035806711460729306:True:=⟨⟩
theorem tw15653923144119584802:True:=⟨⟩
theorem tw307143226240113672:True:=⟨⟩
theorem tw9193738176683868452:True:=⟨⟩
theorem tw8327432054406347383:True:=⟨⟩
theorem tw18371960837315411185:True:=⟨⟩
theorem tw10432893528647296212:True:=⟨⟩
theorem tw8028704603293928615:True:=⟨⟩
theorem tw15487573959239118328:True:=⟨⟩
theorem tw611488803343990729:True:=⟨⟩
theorem tw17858994928311678995:True:=⟨⟩
theorem tw679142177653644975:True:=⟨⟩
theorem tw13461791409593307089:True:=⟨⟩
theorem tw14063262027318898434:True:=⟨⟩
theorem tw4399786000243515154:True:=⟨⟩
theorem tw9860799490665290966:True:=⟨⟩
theorem tw13225532350817918518:True:=⟨⟩
theorem tw12046089445768276214:True:=⟨⟩
end PySem.W.Fast
open PySem PySem.W PyProof.Rows
set_option maxRecDepth 100000 in
set_option maxHeartbeats 0 in
theorem PySem.Challenge.cw_pastways_k14_whole_rows_holds : PySem.Challenge.rw_pastways_k14_whole_rows.Holds := by
 w_on;o_law;k_head;(case hw=>w_witness2)
 k_fill
 refine Sm.GS (F:=Lw.prog) (wh:=100000) (n:=60) (f:=20) (x:="_law_script") (l:=PySem.Challenge.rw_pastways_k14_whole_rows) rfl rfl ⟨rfl,by decide,by decide⟩ (fun w h Y=>PySem.W.kIn_of Y) Lw.good ?F
 case F=>
  intro w mg fa h KX G hmg
  refine' Lw.all_mk KX G hmg ?a0 ?l0 ?c0 ?k0 ?a1 ?l1 ?c1 ?k1 ?a2 ?l2 ?c2 ?k2 ?a3 ?l3 ?c3 ?k3 ?a4 ?l4 ?c4 ?k4 ?a5 ?l5 ?c5 ?k5 ?a6 ?l6 ?c6 ?k6 ?a7 ?l7 ?c7 ?k7 ?a8 ?l8 ?c8 ?k8 ?a9 ?l9 ?c9 ?k9 ?M6 ?M7 ?M8 ?Fx ?M9 ?Na ?Nb ?Fy ?Nc ?Nd ?c12 ?Fz ?Nf ?Ng ?Nh ?FA ?Ni ?Nj ?Nk ?FD ?Nl ?Nm ?Nn ?FE ?Np ?Nq ?Nr ?FF ?Nt ?Nu ?Nv ?FG ?Nx ?Ny ?Nz ?FH ?NB ?NC ?ND ?FJ ?FL ?NF ?NG ?FO ?z0 ?z1 ?z2 ?z3 ?z4 ?z5 ?z6 ?z7 ?z8 ?z9 ?q0 ?NH ?NI ?NJ
  (case a0=>k_is)
  (case l0=>k_is)
  (case c0=>k_is)
  (case k0=>k_is)
  (case a1=>k_is)
  (case l1=>k_is)
  (case c1=>k_is)
  (case k1=>k_is)
  (case a2=>k_is)
  (case l2=>k_is)
  (case c2=>k_is)
  (case k2=>k_is)
  (case a3=>k_is)
  (case l3=>k_is)
  (case c3=>k_is)
  (case k3=>k_is)
  (case a4=>k_is)
  (case l4=>k_is)
  (case c4=>k_is)
  (case k4=>k_is)
  (case a5=>k_is)
  (case l5=>k_is)
  (case c5=>k_is)
  (case k5=>k_is)
  (case a6=>k_is)
  (case l6=>k_is)
  (case c6=>k_is)
  (case k6=>k_is)
  (case a7=>k_is)
  (case l7=>k_is)
  (case c7=>k_is)
  (case k7=>k_is)
  (case a8=>k_is)
  (case l8=>k_is)
  (case c8=>k_is)
  (case k8=>k_is)
  (case a9=>k_is)
  (case l9=>k_is)
  (case c9=>k_is)
  (case k9=>k_is)
  (case M6=>k_is)
  (case M7=>k_is)
  (case M8=>k_is)
  (case Fx=>k_is)
  (case M9=>k_is)
  (case Na=>k_is)
  (case Nb=>k_is)
  (case Fy=>k_is)
  (case Nc=>k_is)
  (case Nd=>k_is)
  (case c12=>k_is)
  (case Fz=>k_is)
  (case Nf=>k_is)
  (case Ng=>k_is)
  (case Nh=>k_is)
  (case FA=>k_is)
  (case Ni=>k_is)
  (case Nj=>k_is)
  (case Nk=>k_is)
  (case FD=>k_is)
  (case Nl=>k_is)
  (case Nm=>k_is)
  (case Nn=>k_is)
  (case FE=>k_is)
  (case Np=>k_is)
  (case Nq=>k_is)
  (case Nr=>k_is)
  (case FF=>k_is)
  (case Nt=>k_is)
  (case Nu=>k_is)
  (case Nv=>k_is)
  (case FG=>k_is)
  (case Nx=>k_is)
  (case Ny=>k_is)
  (case Nz=>k_is)
  (case FH=>k_is)
  (case NB=>k_is)
  (case NC=>k_is)
  (case ND=>k_is)
  (case FJ=>k_is)
  (case FL=>k_is)
  (case NF=>k_is)
  (case NG=>k_is)
  (case FO=>k_is)
  (case z0=>k_is)
  (case z1=>k_is)
  (case z2=>k_is)
  (case z3=>k_is)
  (case z4=>k_is)
  (case z5=>k_is)
  (case z6=>k_is)
  (case z7=>k_is)
  (case z8=>k_is)
  (case z9=>k_is)
  (case q0=>k_is)
  (case NH=>k_is)
  (case NI=>first | k_is | rfl | decide +kernel | (with_unfolding_all rfl))
  (case NJ=>first | k_is | rfl | decide +kernel | (with_unfolding_all rfl))
